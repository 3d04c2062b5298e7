import PyProof.Rows.All
import Wide.All
import OpenK.AllK
import Wide.FinOn
import Lean
import PyProof.EqAt
import PyProof.EqKinds
import PyProof.TupleCall
import PyProof.Draws
import PyProof.EnumMake
import PyProof.NeKinds
import PyProof.ZipIter
import PyProof.Rows.ZipGen
import PyProof.ReprRoads
import KE.KRevIter
import PyProof.StrLawsReplace
import PyProof.ToksMono
import PyProof.SliceList
import KE.KEqDict
import PySem.Challenge.RW_sealpress_k75_unlike_and_left_open
set_option linter.all false
set_option genSizeOf false
set_option backward.match.sparseCases false
set_option compiler.extract_closed false
set_option bootstrap.genMatcherCode false
abbrev La:=PySem.Str->Option PySem.Value
abbrev fV:=PySem.Value->PySem.Shared->Prop
abbrev Ld:=List Nat
abbrev Le:=List PySem.Addr
abbrev Lf:=PySem.W.Frag
abbrev Lg:=List PySem.Value
abbrev Lh:=List PySem.Expr
abbrev Lp:=List (PySem.Addr×PySem.Obj)
abbrev Lj:=List PySem.Str
abbrev ua:=@PySem.wpAny_bind
abbrev ub:=@if_neg
abbrev uc:=@List.length_append
abbrev ud:=@PySem.wpAny_pure
abbrev ue:=@if_pos
abbrev uf:=@PySem.Heap.get?_push_of_some
abbrev ug:=@PySem.Heap.lt_size
abbrev uh:=@List.size_toArray
abbrev ui:=@Nat.le_refl
abbrev uj:=@List.append_nil
abbrev uk:=@List.length_map
abbrev um:=@PySem.wpAny_mono
abbrev uo:=@List.length_cons
abbrev uq:=@List.mem_cons
abbrev ur:=@List.getElem?_eq_some_iff
abbrev uu:=@Nat.lt_of_lt_of_le
abbrev uw:=@List.length_singleton
abbrev uy:=@List.getElem?_eq_getElem
abbrev uz:=@List.map_cons
abbrev uA:=@PySem.Heap.get?_push_size
abbrev uB:=@PySem.Heap.get?_update_other
abbrev uC:=@List.append_assoc
abbrev uD:=@List.mem_singleton
abbrev uE:=@Bool.false_ne_true
abbrev uF:=@decide_eq_false
abbrev uG:=@List.cons_append
abbrev uH:=@Option.some.inj
abbrev uI:=@Nat.le_trans
abbrev uJ:=@Bool.and_eq_true
abbrev uK:=@PySem.wpAny_loadPart_at
abbrev uL:=@PySem.F.plainAttrs_list
abbrev uM:=@PySem.wpAny_field
abbrev uN:=@List.mem_cons_of_mem
abbrev uO:=@beq_eq_false_iff_ne
abbrev uP:=@PySem.mem_of_lookup
abbrev uQ:=@List.mem_of_getElem?
abbrev uR:=@PySem.sizeLine_eq
abbrev uS:=@List.mem_append_right
abbrev uT:=@Option.map_eq_some_iff
abbrev uU:=@PySem.Heap.get?_update_self
abbrev uV:=@PySem.wpAny_Call_Name_kw
abbrev uW:=@List.drop_eq_getElem_cons
abbrev uX:=@Option.map_some
abbrev uY:=@List.mem_append_left
abbrev uZ:=@Nat.zero_le
abbrev u0:=@Nat.lt_irrefl
abbrev u4:=@PySem.wpAny_holding
abbrev u5:=@List.lookup_cons
abbrev u6:=@List.mem_append
abbrev u7:=@PySem.F.slot_list_append
abbrev u9:=@PySem.F.type_list_append
abbrev Ua:=@PySem.wpAny_standAt
abbrev Ub:=@beq_iff_eq
abbrev Uc:=@Array.getElem?_eq_some_iff
abbrev Ud:=@PySem.W.kia_one
abbrev Ue:=@List.nil_append
abbrev Ug:=@Nat.ne_of_lt
abbrev Uh:=@PySem.wpAny_call
abbrev Ui:=@List.getElem_mem
abbrev Uj:=@PySem.Value.ref.inj
abbrev Uk:=@List.getElem?_map
abbrev Ul:=@List.nodup_cons
abbrev Um:=@PySem.codeAny_mono
abbrev Uo:=@PySem.W.callWith_K
abbrev Up:=@List.reverse_cons
abbrev Uq:=@PySem.wpAny_passesOwn
abbrev Ur:=@List.length_replicate
abbrev Us:=@List.mem_cons_self
abbrev Ut:=@List.length_take
abbrev Uu:=@beq_self_eq_true
abbrev Uv:=@PySem.W.mg_of
abbrev Uw:=@List.reverse_reverse
abbrev Ux:=@PySem.wpAny_newObj_type
abbrev Uy:=@decide_eq_true_eq
abbrev Uz:=@Prod.mk.injEq
abbrev UA:=@Nat.le_succ
abbrev UB:=@List.getElem?_append_right
abbrev UC:=@decide_eq_true
abbrev UD:=@List.getElem?_eq_none_iff
abbrev UE:=@List.getElem?_append_left
abbrev UG:=@List.map_append
abbrev UH:=@List.length_nil
abbrev UI:=@Nat.not_lt_zero
abbrev UJ:=@PySem.wpAny_setField
abbrev UK:=@Nat.mul_le_mul_right
abbrev UL:=@List.length_reverse
abbrev UM:=@Bool.eq_iff_iff
abbrev UN:=@Array.getElem?_setIfInBounds
abbrev UO:=@List.take_append_drop
abbrev UP:=@PySem.wpAny_execs_nil
abbrev UQ:=@PySem.W.methodCall_KW
abbrev UR:=@PySem.F.slot_dict_get
abbrev US:=@List.drop_zero
abbrev UT:=@Option.bind_some
abbrev UU:=@PySem.plainObj_wpAny_Assign_Attribute
abbrev UW:=@List.take_length
abbrev UX:=@PySem.wpAny_isSubtype_exc
abbrev UY:=@PySem.Obj.data_mapFields
abbrev UZ:=@Nat.add_assoc
abbrev U0:=@List.find?_cons
abbrev U1:=@Except.ok.injEq
abbrev U2:=@List.contains_cons
abbrev U3:=@PySem.W.cellsFrom_some
abbrev U4:=@PySem.wpAny_newFunctionEnv_cells
abbrev U5:=@Bool.and_false
abbrev U6:=@List.map_nil
abbrev U7:=@List.mem_map
abbrev U8:=@List.drop_eq_nil_of_le
abbrev U9:=@List.any_cons
abbrev gb:=@Bool.and_true
abbrev gc:=@List.dropLast_concat
abbrev gf:=@List.of_mem_zip
abbrev gg:=@Int.emod_nonneg
abbrev gh:=@List.filterMap_cons
abbrev gi:=@List.map_congr_left
abbrev gj:=@PySem.codeAny_call_function
abbrev gk:=@PySem.Heap.get?_none_of_le
abbrev gm:=@PySem.wpAny_typeOf
abbrev gn:=@Bool.false_eq_true
abbrev gq:=@Int.emod_lt_of_pos
abbrev gr:=@PySem.codeAny_call_builtin
abbrev gu:=@List.isPrefixOf_iff_prefix
abbrev gw:=@Nat.mul_le_mul
abbrev gx:=@Option.some.injEq
abbrev gy:=@List.take_add_one
abbrev gA:=@PySem.F.args_tuple_add_2
abbrev gC:=@PySem.F.slot_list_extend
abbrev gE:=@PySem.F.type_list_extend
abbrev gF:=@Prod.ext
abbrev gG:=@PySem.wpAny_truthy_bool
abbrev gI:=@PySem.W.any_some
abbrev gJ:=@List.getElem?_replicate
abbrev gK:=@PySem.F.entry_tuple_add
abbrev gL:=@List.length_drop
abbrev gN:=@Nat.add_sub_cancel_left
abbrev gO:=@Int.eq_ofNat_of_zero_le
abbrev gP:=@List.all_eq_true
abbrev gQ:=@List.not_mem_nil
abbrev gR:=@Nat.le_of_lt
abbrev gU:=@Nat.le_of_eq
abbrev gW:=@PySem.noFill_tuple_add
abbrev gX:=@PySem.F.slot_tuple_add
abbrev gY:=@Nat.not_lt
abbrev gZ:=@Bool.or_true
abbrev Ga:=@List.take_of_length_le
abbrev Gb:=@PySem.F.entry_dict_get
abbrev Gd:=@Nat.zero_lt_one
abbrev Ge:=@PyProof.Rows.tail_any
abbrev Gf:=@PySem.F.slot_list_pop
abbrev Gg:=@PySem.F.type_list_pop
abbrev Gh:=@List.mem_range
abbrev Gi:=@Bool.false_and
abbrev Gj:=@PySem.W.looks_findIn
abbrev Gk:=@PySem.Heap.size_push
abbrev Gm:=@if_false
abbrev Gn:=@PySem.arm_exec_Raise
abbrev Gp:=@Array.length_toList
abbrev Gq:=@PySem.W.plainGet_of
abbrev Gs:=@PySem.W.callWith_K0
abbrev Gu:=@PySem.seq_tuple_add
abbrev Gv:=@PySem.evalPart_none
abbrev Gw:=@PySem.W.looks_mroIn
abbrev Gx:=@PySem.strLen_append
abbrev Gy:=@List.reverse_append
abbrev Gz:=@PyProof.Rows.subscriptTail_builtinR
abbrev GB:=@List.all_cons
abbrev GC:=@PySem.W.codeRec_of
abbrev GD:=@PySem.codeAny_func
abbrev GF:=@PySem.concat_meets
abbrev GG:=@PySem.seqIndex_neg
abbrev GH:=@Array.append_empty
abbrev GI:=@PySem.call_meetsIn
abbrev GJ:=@Nat.ne_of_gt
abbrev GK:=@PySem.W.set_plain
abbrev GL:=@PyProof.Rows.entry_tuple_getitem
abbrev GN:=@PySem.seqIndex_of
abbrev GO:=@or_false
abbrev GP:=@Bool.eq_false_iff
abbrev GQ:=@of_decide_eq_true
abbrev GR:=@PyProof.Rows.args_tuple_getitem
abbrev GS:=@PySem.wpAny_Name
abbrev GU:=@PySem.call_meets
abbrev GV:=@PySem.wpAny_callSpecial?_slot
abbrev GW:=@Nat.add_mul
abbrev GX:=@List.take_left'
abbrev GY:=@PyProof.Rows.slicePart_none
abbrev GZ:=@PySem.Obj.isFreed_of_fields
abbrev G6:=@PyProof.Rows.joinParts_cons
abbrev G8:=@Int.fdiv_eq_ediv_of_nonneg
abbrev hJ:=@PyProof.Rows.tupleItemsOf_
abbrev hV:=@PySem.F.excBase_ValueError
abbrev hX:=@List.getD_eq_getElem?_getD
abbrev hZ:=@PyProof.Rows.isTrue_plain
abbrev Ha:=@PySem.Heap.SameBut.update
abbrev Hb:=@PySem.Heap.get?_update_ne
abbrev Hc:=@List.getElem?_take_of_lt
abbrev Hd:=@PySem.Heap.IsSliceOf.new
abbrev He:=@PySem.tupleKind_room_in1
abbrev Hf:=@PyProof.Rows.isTrue_and
abbrev Hg:=@PySem.wpAny_assign_Name
abbrev Hh:=@PySem.Heap.Ns1.of_empty
abbrev Hj:=@PySem.wpAny_sequenceKey
abbrev Hk:=@PySem.F.attr_ValueError
abbrev Hl:=@PySem.wpAny_pyIter_enum
abbrev Hm:=@PySem.F.args_dict_get_3
abbrev Hn:=@PySem.wpAny_Call_method
abbrev Hq:=@PySem.F.plainAttrs_dict
abbrev Hr:=@Nat.le_mul_of_pos_right
set_option Elab.async false
set_option linter.all false
set_option maxRecDepth 100000
set_option maxHeartbeats 0
noncomputable section
namespace PySem.W.Fast
noncomputable def tw11341759240502594861:PySem.Program:=PySem.Challenge.pw_sealpress_k75_unlike_and_left_open
theorem te11341759240502594861:PySem.Challenge.pw_sealpress_k75_unlike_and_left_open=tw11341759240502594861:=rfl
end PySem.W.Fast
namespace L2
open PySem PySem.W
theorem ou {p q:Program}{loose:Lj}{Xt:Shared->Bool}{α:Type}{Yf:Shared->α}{Ya:World->α}{N M m0:Nat}{ann:Option Value}{H0:Params->Heap}{g0:Array GenState}{d0:Drawn}{k0:Nat}
  (hb:∀ w:World,(fencedOpening treeTable p w N).map (λs=>(s.heap,s.gens,s.drawn,s.toks))=some (H0 w.params,g0,d0,k0))
  (hz:∀ w:World,((H0 w.params).isNs mainGlobals&&g0.size == 0,(H0 w.params).objs.size,(H0 w.params).nsMap mainGlobals "__annotations__")=(true,m0,ann))
  (hr:∀ (w:World) (os:OsState),∃ s:Shared,topRun treeTable p w m0 ann M ⟨H0 w.params,g0,d0,k0,os⟩ (topStub p)=some s /\
   (staticsOk (importedModules p.main.body) (H0 w.params) s.heap&&namesBound p s.heap&&gensDone s&&laidKept (H0 w.params) s.heap)=true/\openSeen q loose (importedModules p.main.body) Xt true s=openGood q loose/\Yf s=Ya w)
  (hn:M<=N):LeftO p q loose Xt Yf Ya N:=λw=>by
 obtain⟨s0,e,e'⟩:=uT.mp (hb w)
 obtain⟨h,gs,d,k,os⟩:=s0
 simp only [Uz] at e'
 obtain⟨rfl,rfl,rfl,rfl⟩:=e'
 obtain⟨s,r,l1,l2,l3⟩:=hr w os
 have z:=hz w
 simp only [Uz] at z
 obtain⟨z1,z2,z3⟩:=z
 obtain⟨x,rfl⟩:=Nat.exists_eq_add_of_le hn
 have r':=topRun_mono x _ _ _ _ r
 have t:topFrom treeTable p w (M+x) ⟨H0 w.params,gs,d,k,os⟩=some s:=by
  unfold topFrom
  simp only [z1,z2,z3,r',UT,l1]
 unfold openEnds
 rw [e,UT,t,uX,l2,l3]
end L2
namespace My
open PySem PySem.W
abbrev pw:Program:=PySem.Challenge.pw_sealpress_k75_unlike_and_left_open
noncomputable def tp (i:Nat):Stmt:=pw.main.body.getD i (.Pass ⟨0,0,0,0⟩)
def tc (i j:Nat):Stmt:=match tp i with
 | .ClassDef _ _ _ body _ _ _ _ _ _ _=>body.getD j (.Pass ⟨0,0,0,0⟩)
 | _=>.Pass ⟨0,0,0,0⟩
noncomputable def FO (s:Stmt)(nm q:Str)(g:Addr)(cl:List (Str×Addr))(df kd dc pm:Value)(an:Option Addr)(cd ct:Value)(bl:Addr):Data:=match s with
 | .FunctionDef _ a b _ _ _ sc _ _ _=>.func ⟨nm,q,a,.stmts b,sc,g,cl,df,kd,dc,pm,an,cd,ct,bl⟩
 | _=>.plain
noncomputable def en (P:Params)(k:Str)(t:Nat)(v:Value):DictEntry:=⟨PyData.keyHash P k,.str k t,v⟩
noncomputable def FJ (_:Params):Obj:={ cls:=.type "tuple",data:=.seq #[] }
noncomputable def o12 (_:Params):Obj:={ cls:=.none,data:=.fields #[] }
noncomputable def FI (_:Params):Obj:={ cls:=.type "code",data:=.fields #[.str "<module>" 182,.str "<module>" 183,.str "/claim/cut.py" 184,.int 1 0,.int 0 0,.int 0 0,.int 0 0,.int 0 0,.ref 11,.bool false,.int 181 0,.ref 12,.none,.none,.none,.none,.int 185 0,.int 1 0,.str "/claim/cut.py" 186] }
noncomputable def FH (_:Params):Obj:={ cls:=.type "frame",slots:=#[some (.ref 13),some (.ref 3),some (.ref 3),none,some (.str "__main__" 164),none,some (.ref 0)] }
noncomputable def cM (n q:Str)(a:Nat)(l g k:Int)(r:Addr)(f:Bool)(b:Addr)(x y z w:Value)(t:Nat):Obj:=⟨.type "code",none,.fields #[.str n a,.str q (a+1),.str "/claim/cut.py" (a+2),.int l 0,.int g 0,.int 0 0,.int 0 0,.int k 0,.ref r,.bool f,.int 181 0,.ref b,x,y,z,w,.int t 0,.int l 0,.str "/claim/cut.py" (t+1)],#[]⟩
def cS (n q:Str)(a:Nat)(l g:Int)(r t:Nat):Obj:=cM n q a l g 3 r true (r+1) .none (.ref (r+2)) (.ref (r+3)) (.ref (r+4)) t
def cN (n:Str)(a:Nat)(l g:Int)(r t:Nat):Obj:=cS n n a l g r t
def cK (n:Str)(a:Nat)(l:Int)(r t:Nat):Obj:=cM n n a l 0 0 r false (r+1) .none .none .none .none t
def fM (s:Stmt)(n q:Str)(m:Value)(c:Addr):Obj:=⟨.type "function",none,FO s n q 3 [] .none .none .none m none (.ref c) .none 0,#[]⟩
def gM (s:Stmt)(n q:Str):Obj:=⟨.none,none,FO s n q 0 [] .none .none .none .none none .none .none 0,#[]⟩
noncomputable def rM (a c:Addr)(v:Value):Obj:=⟨.type "frame",none,.plain,#[some (.ref a),some (.ref 3),some (.ref c),none,some v,none,some (.ref 0)]⟩
noncomputable def dO (a:Array DictEntry)(n:Nat):Obj:=⟨.type "dict",none,.dict a n,#[]⟩
def m9 (P:Params)(a:Nat)(m:Value)(q:Str)(l:Int)(i:Nat)(r:Addr)(s:Nat)(u:Addr):Obj:=dO #[en P "__module__" a m,en P "__qualname__" (a+2) (.str q (a+1)),en P "__firstlineno__" (a+4) (.int l (a+3)),en P "__init__" i (.ref r),en P "__static_attributes__" s (.ref u)] 5
def mZ (P:Params)(a:Nat)(m:Value)(l:Int)(i:Nat)(r:Addr)(s:Nat)(u:Addr)(d:Nat):Obj:=dO #[en P "__module__" a m,en P "__firstlineno__" (a+4) (.int l (a+3)),en P "__init__" i (.ref r),en P "__static_attributes__" s (.ref u),en P "__doc__" d .none] 2
noncomputable def mz (a:Addr):Obj:=⟨.type "builtin_function_or_method",none,.fields #[.builtin "object.__init_subclass__",.ref a],#[]⟩
noncomputable def tO (a:Array Value):Obj:=⟨.type "tuple",none,.seq a 0,#[]⟩
noncomputable def pO (a:Array Value):Obj:=⟨.none,none,.fields a,#[]⟩
noncomputable def sO (a:Addr):Obj:=⟨.type "super",none,.fields #[.ref a,.ref a,.ref a],#[]⟩
noncomputable def kO (n:Str)(c b d x i j:Nat):Obj:=⟨.type "type",none,.cls ⟨n,[.ref b],[.ref c,.ref b,.type "ValueError",.type "Exception",.type "BaseException",.type "object"],d,n,true,[],[],false,none,false⟩,#[some (.ref x),none,some (.str n i),some (.str n j),some (.builtin "ValueError.__new__"),some (.bool true)]⟩
noncomputable abbrev m0:Value:=.str "sealpress.errors" 187
noncomputable abbrev m1:Value:=.str "sealpress.signs" 688
noncomputable abbrev m2:Value:=.str "sealpress.places" 715
noncomputable abbrev m3:Value:=.str "sealpress.talks" 729
noncomputable abbrev m4:Value:=.str "sealpress.modes" 760
noncomputable abbrev m5:Value:=.str "sealpress.steps" 1085
noncomputable abbrev m6:Value:=.str "sealpress.looker" 1128
noncomputable abbrev m7:Value:=.str "sealpress.ways" 1322
noncomputable abbrev m8:Value:=.str "law_sealpress_k75_unlike_and_left_open" 1354
def x0 (P:Params):Obj:=dO #[en P "__name__" 165 (.str "sealpress.looker" 1128),en P "__doc__" 166 .none,en P "__package__" 167 .none,en P "__loader__" 168 (.builtin "__main__.__loader__#opaque"),en P "__spec__" 169 .none,en P "__annotations__" 170 (.ref 6),en P "__builtins__" 171 (.ref 4),en P "__file__" 173 (.str "/claim/cut.py" 172),en P "__cached__" 174 .none,en P "SealError" 206 (.ref 24),en P "NoSign" 231 (.ref 44),en P "NoCode" 256 (.ref 63),en P "Unread" 281 (.ref 82),en P "Unended" 297 (.ref 94),en P "NoPage" 322 (.ref 113),en P "NoName" 347 (.ref 132),en P "NoSheet" 372 (.ref 151),en P "Twice" 397 (.ref 170),en P "TooMany" 413 (.ref 182),en P "Unknown" 438 (.ref 201),en P "RingOver" 463 (.ref 220),en P "Ringed" 488 (.ref 239),en P "NoElder" 513 (.ref 258),en P "Astray" 540 (.ref 277),en P "NoPlace" 567 (.ref 296),en P "Unlike" 596 (.ref 315),en P "LeftOpen" 621 (.ref 334),en P "NoValue" 646 (.ref 353),en P "NoKind" 671 (.ref 372),en P "NoRow" 687 (.ref 384),en P "SIGNS" 691 (.str " !\"#$&'()*+,-./0123456789:;<=>?@ABCDEFGHIJKLMNOPQRSTUVWXYZ[\\]^_`abcdefghijklmnopqrstuvwxyz{|}~" 690),en P "FIGURES" 693 (.str "0123456789" 692),en P "LETTERS" 695 (.str "abcdefghijklmnopqrstuvwxyz" 694),en P "LONGEST_NAME" 697 (.int 8 696),en P "sign_of" 704 (.ref 393),en P "sign_told" 712 (.ref 400),en P "WORDSIGNS" 714 (.str "abcdefghijklmnopqrstuvwxyz0123456789-" 713),en P "PLACE_MODES" 721 (.ref 401),en P "place_of" 728 (.ref 408),en P "fed_between" 737 (.ref 415),en P "fed_word" 744 (.ref 422),en P "fed_said" 751 (.ref 429),en P "feed" 759 (.ref 436),en P "ASIS_END" 763 (.str "</asis>" 762),en P "MARK_FIGURES" 765 (.int 2 764),en P "come_to" 774 (.ref 443),en P "told" 783 (.ref 450),en P "gathered" 794 (.ref 457),en P "box_shut" 802 (.ref 464),en P "into_box" 811 (.ref 471),en P "led_on" 820 (.ref 478),en P "fed" 830 (.ref 485),en P "mark_ended" 838 (.ref 492),en P "at_text" 848 (.ref 499),en P "at_mark" 858 (.ref 506),en P "at_open" 868 (.ref 513),en P "at_name" 878 (.ref 520),en P "at_slash" 888 (.ref 527),en P "at_shut" 898 (.ref 534),en P "at_gap" 908 (.ref 541),en P "at_attr" 918 (.ref 548),en P "at_is" 928 (.ref 555),en P "at_bang" 938 (.ref 562),en P "at_bare" 948 (.ref 569),en P "at_code" 958 (.ref 576),en P "at_row" 968 (.ref 583),en P "at_stroke" 978 (.ref 590),en P "at_quoted" 988 (.ref 597),en P "at_qmark" 998 (.ref 604),en P "at_done" 1008 (.ref 611),en P "at_talk" 1018 (.ref 618),en P "at_tmark" 1028 (.ref 625),en P "at_asis" 1034 (.ref 630),en P "MODES" 1075 (.ref 631),en P "moved" 1084 (.ref 639),en P "begin" 1092 (.ref 646),en P "step" 1100 (.ref 653),en P "run" 1113 (.ref 660),en P "is_end" 1120 (.ref 667),en P "floored" 1127 (.ref 674)] 80
noncomputable def _root_.PySem.W.Fast.tw4752819795712237882:=@x0
theorem _root_.PySem.W.Fast.te4752819795712237882:@x0=@_root_.PySem.W.Fast.tw4752819795712237882:=rfl
def x1:Obj:=pO #[.int 2 0,.int 0 0,.ref 20,.int 4 0,.int 0 0,.ref 33,.int 9 0,.int 0 0,.ref 52,.int 14 0,.int 0 0,.ref 71,.int 19 0,.int 0 0,.ref 90,.int 21 0,.int 0 0,.ref 102,.int 26 0,.int 0 0,.ref 121,.int 31 0,.int 0 0,.ref 140,.int 36 0,.int 0 0,.ref 159,.int 41 0,.int 0 0,.ref 178,.int 43 0,.int 0 0,.ref 190,.int 48 0,.int 0 0,.ref 209,.int 53 0,.int 0 0,.ref 228,.int 58 0,.int 0 0,.ref 247,.int 63 0,.int 0 0,.ref 266,.int 69 0,.int 0 0,.ref 285,.int 75 0,.int 0 0,.ref 304,.int 82 0,.int 0 0,.ref 323,.int 87 0,.int 0 0,.ref 342,.int 92 0,.int 0 0,.ref 361,.int 97 0,.int 0 0,.ref 380,.int 104 0,.int 0 0,.ref 392,.int 106 0,.int 0 0,.ref 399,.int 114 0,.int 0 0,.ref 407,.int 119 0,.int 0 0,.ref 414,.int 127 0,.int 0 0,.ref 421,.int 131 0,.int 0 0,.ref 428,.int 137 0,.int 0 0,.ref 435,.int 150 0,.int 0 0,.ref 442,.int 152 0,.int 0 0,.ref 449,.int 156 0,.int 0 0,.ref 456,.int 160 0,.int 0 0,.ref 463,.int 164 0,.int 0 0,.ref 470,.int 169 0,.int 0 0,.ref 477,.int 177 0,.int 0 0,.ref 484,.int 182 0,.int 0 0,.ref 491,.int 184 0,.int 0 0,.ref 498,.int 190 0,.int 0 0,.ref 505,.int 194 0,.int 0 0,.ref 512,.int 200 0,.int 0 0,.ref 519,.int 204 0,.int 0 0,.ref 526,.int 208 0,.int 0 0,.ref 533,.int 214 0,.int 0 0,.ref 540,.int 218 0,.int 0 0,.ref 547,.int 230 0,.int 0 0,.ref 554,.int 234 0,.int 0 0,.ref 561,.int 238 0,.int 0 0,.ref 568,.int 244 0,.int 0 0,.ref 575,.int 248 0,.int 0 0,.ref 582,.int 256 0,.int 0 0,.ref 589,.int 258 0,.int 0 0,.ref 596,.int 264 0,.int 0 0,.ref 603,.int 268 0,.int 0 0,.ref 610,.int 270 0,.int 0 0,.ref 617,.int 276 0,.int 0 0,.ref 624,.int 280 0,.int 0 0,.ref 629,.int 291 0,.int 0 0,.ref 638,.int 295 0,.int 0 0,.ref 645,.int 297 0,.int 0 0,.ref 652,.int 299 0,.int 0 0,.ref 659,.int 309 0,.int 0 0,.ref 666,.int 311 0,.int 0 0,.ref 673]
def x2:Obj:=tO #[.type "ValueError"]
noncomputable def x3:Obj:=⟨(.type "builtin_function_or_method"),none,(.fields #[.builtin "type.__prepare__",.type "type"]),#[]⟩
def x4:Obj:=tO #[]
def x5:Obj:=pO #[]
def x6 (P:Params):Obj:=dO #[en P "__module__" 196 m0,en P "__firstlineno__" 200 (.int 2 199),en P "__static_attributes__" 201 (.ref 22),en P "__weakref__" 203 (.ref 25),en P "__doc__" 204 .none] 3
noncomputable def x7:Obj:=⟨(.type "type"),none,(.cls ⟨"SealError",[.type "ValueError"],[.ref 24,.type "ValueError",.type "Exception",.type "BaseException",.type "object"],23,"SealError",true,[],[.ref 44,.ref 63,.ref 82,.ref 94,.ref 113,.ref 132,.ref 151,.ref 170,.ref 182,.ref 201,.ref 220,.ref 239,.ref 258,.ref 277,.ref 296,.ref 315,.ref 334,.ref 353,.ref 372,.ref 384],false,none,false⟩),#[some (.ref 15),none,some (.str "SealError" 189),some (.str "SealError" 197),some (.builtin "ValueError.__new__"),some (.bool true)]⟩
noncomputable def x8:Obj:=⟨(.type "getset_descriptor"),none,(.fields #[.str "__weakref__" 202,.ref 24,.builtin "ExceptionGroup.__weakref__",.none]),#[]⟩
def x9:Obj:=tO #[.ref 24]
def x10 (P:Params):Obj:=mZ P 214 m0 4 226 41 228 42 229
def x11:Obj:=kO "NoSign" 44 24 43 28 207 215
def x12 (P:Params):Obj:=mZ P 239 m0 9 251 60 253 61 254
def x13:Obj:=kO "NoCode" 63 24 62 47 232 240
def x14:Obj:=cS "__init__" "Unread.__init__" 269 16 2 73 274
def x15:Obj:=fM (tc 4 0) "__init__" "Unread.__init__" m0 78
def x16 (P:Params):Obj:=mZ P 264 m0 14 276 79 278 80 279
def x17:Obj:=kO "Unread" 82 24 81 66 257 265
def x18 (P:Params):Obj:=dO #[en P "__module__" 289 m0,en P "__firstlineno__" 293 (.int 19 292),en P "__static_attributes__" 294 (.ref 92),en P "__doc__" 295 .none] 2
def x19:Obj:=kO "Unended" 94 24 93 85 282 290
def x20 (P:Params):Obj:=mZ P 305 m0 21 317 110 319 111 320
def x21:Obj:=kO "NoPage" 113 24 112 97 298 306
def x22 (P:Params):Obj:=mZ P 330 m0 26 342 129 344 130 345
def x23:Obj:=kO "NoName" 132 24 131 116 323 331
def x24 (P:Params):Obj:=mZ P 355 m0 31 367 148 369 149 370
def x25:Obj:=kO "NoSheet" 151 24 150 135 348 356
def x26 (P:Params):Obj:=mZ P 380 m0 36 392 167 394 168 395
def x27:Obj:=kO "Twice" 170 24 169 154 373 381
def x28 (P:Params):Obj:=dO #[en P "__module__" 405 m0,en P "__firstlineno__" 409 (.int 41 408),en P "__static_attributes__" 410 (.ref 180),en P "__doc__" 411 .none] 2
def x29:Obj:=kO "TooMany" 182 24 181 173 398 406
def x30 (P:Params):Obj:=mZ P 421 m0 43 433 198 435 199 436
def x31:Obj:=kO "Unknown" 201 24 200 185 414 422
def x32 (P:Params):Obj:=mZ P 446 m0 48 458 217 460 218 461
def x33:Obj:=kO "RingOver" 220 24 219 204 439 447
def x34 (P:Params):Obj:=mZ P 471 m0 53 483 236 485 237 486
def x35:Obj:=kO "Ringed" 239 24 238 223 464 472
def x36 (P:Params):Obj:=mZ P 496 m0 58 508 255 510 256 511
def x37:Obj:=kO "NoElder" 258 24 257 242 489 497
def x38:Obj:=cS "__init__" "Astray.__init__" 526 65 3 268 532
def x39:Obj:=fM (tc 15 0) "__init__" "Astray.__init__" m0 273
def x40 (P:Params):Obj:=mZ P 521 m0 63 534 274 537 275 538
def x41:Obj:=kO "Astray" 277 24 276 261 514 522
def x42:Obj:=cS "__init__" "NoPlace.__init__" 553 71 3 287 559
def x43:Obj:=fM (tc 16 0) "__init__" "NoPlace.__init__" m0 292
def x44 (P:Params):Obj:=mZ P 548 m0 69 561 293 564 294 565
def x45:Obj:=kO "NoPlace" 296 24 295 280 541 549
def x46:Obj:=cS "__init__" "Unlike.__init__" 580 77 4 306 587
def x47:Obj:=fM (tc 17 0) "__init__" "Unlike.__init__" m0 311
def x48 (P:Params):Obj:=mZ P 575 m0 75 589 312 593 313 594
def x49:Obj:=kO "Unlike" 315 24 314 299 568 576
def x50:Obj:=cS "__init__" "LeftOpen.__init__" 609 84 2 325 614
def x51:Obj:=fM (tc 18 0) "__init__" "LeftOpen.__init__" m0 330
def x52 (P:Params):Obj:=mZ P 604 m0 82 616 331 618 332 619
def x53:Obj:=kO "LeftOpen" 334 24 333 318 597 605
def x54 (P:Params):Obj:=mZ P 629 m0 87 641 350 643 351 644
def x55:Obj:=kO "NoValue" 353 24 352 337 622 630
def x56 (P:Params):Obj:=mZ P 654 m0 92 666 369 668 370 669
def x57:Obj:=kO "NoKind" 372 24 371 356 647 655
def x58 (P:Params):Obj:=dO #[en P "__module__" 679 m0,en P "__firstlineno__" 683 (.int 97 682),en P "__static_attributes__" 684 (.ref 382),en P "__doc__" 685 .none] 2
def x59:Obj:=kO "NoRow" 384 24 383 375 672 680
def x60:Obj:=cN "sign_of" 698 104 1 387 702
def x61:Obj:=fM (tp 27) "sign_of" "sign_of" m1 392
def x62:Obj:=cN "sign_told" 705 106 1 394 710
def x63:Obj:=fM (tp 28) "sign_told" "sign_told" m1 399
def x64:Obj:=tO #[.str "text" 717,.str "bare" 718,.str "row" 719,.str "quoted" 720]
def x65:Obj:=cN "place_of" 722 114 1 402 726
def x66:Obj:=fM (tp 32) "place_of" "place_of" m2 407
def x67:Obj:=cN "fed_between" 731 119 1 409 735
def x68:Obj:=fM (tp 34) "fed_between" "fed_between" m3 414
def x69:Obj:=cN "fed_word" 738 127 1 416 742
def x70:Obj:=fM (tp 35) "fed_word" "fed_word" m3 421
def x71:Obj:=cN "fed_said" 745 131 1 423 749
def x72:Obj:=fM (tp 36) "fed_said" "fed_said" m3 428
def x73:Obj:=cN "feed" 752 137 2 430 757
def x74:Obj:=fM (tp 37) "feed" "feed" m3 435
def x75:Obj:=cN "come_to" 766 150 3 437 772
def x76:Obj:=fM (tp 41) "come_to" "come_to" m4 442
def x77:Obj:=cN "told" 775 152 3 444 781
def x78:Obj:=fM (tp 42) "told" "told" m4 449
def x79:Obj:=cN "gathered" 784 156 5 451 792
def x80:Obj:=fM (tp 43) "gathered" "gathered" m4 456
def x81:Obj:=cN "box_shut" 795 160 2 458 800
def x82:Obj:=fM (tp 44) "box_shut" "box_shut" m4 463
def x83:Obj:=cN "into_box" 803 164 2 465 809
def x84:Obj:=fM (tp 45) "into_box" "into_box" m4 470
def x85:Obj:=cN "led_on" 812 169 3 472 818
def x86:Obj:=fM (tp 46) "led_on" "led_on" m4 477
def x87:Obj:=cN "fed" 821 177 3 479 828
def x88:Obj:=fM (tp 47) "fed" "fed" m4 484
def x89:Obj:=cN "mark_ended" 831 182 2 486 836
def x90:Obj:=fM (tp 48) "mark_ended" "mark_ended" m4 491
def x91:Obj:=cN "at_text" 839 184 4 493 846
def x92:Obj:=fM (tp 49) "at_text" "at_text" m4 498
def x93:Obj:=cN "at_mark" 849 190 4 500 856
def x94:Obj:=fM (tp 50) "at_mark" "at_mark" m4 505
def x95:Obj:=cN "at_open" 859 194 4 507 866
def x96:Obj:=fM (tp 51) "at_open" "at_open" m4 512
def x97:Obj:=cN "at_name" 869 200 4 514 876
def x98:Obj:=fM (tp 52) "at_name" "at_name" m4 519
def x99:Obj:=cN "at_slash" 879 204 4 521 886
def x100:Obj:=fM (tp 53) "at_slash" "at_slash" m4 526
def x101:Obj:=cN "at_shut" 889 208 4 528 896
def x102:Obj:=fM (tp 54) "at_shut" "at_shut" m4 533
def x103:Obj:=cN "at_gap" 899 214 4 535 906
def x104:Obj:=fM (tp 55) "at_gap" "at_gap" m4 540
def x105:Obj:=cN "at_attr" 909 218 4 542 916
def x106:Obj:=fM (tp 56) "at_attr" "at_attr" m4 547
def x107:Obj:=cN "at_is" 919 230 4 549 926
def x108:Obj:=fM (tp 57) "at_is" "at_is" m4 554
def x109:Obj:=cN "at_bang" 929 234 4 556 936
def x110:Obj:=fM (tp 58) "at_bang" "at_bang" m4 561
def x111:Obj:=cN "at_bare" 939 238 4 563 946
def x112:Obj:=fM (tp 59) "at_bare" "at_bare" m4 568
def x113:Obj:=cN "at_code" 949 244 4 570 956
def x114:Obj:=fM (tp 60) "at_code" "at_code" m4 575
def x115:Obj:=cN "at_row" 959 248 4 577 966
def x116:Obj:=fM (tp 61) "at_row" "at_row" m4 582
def x117:Obj:=cN "at_stroke" 969 256 4 584 976
def x118:Obj:=fM (tp 62) "at_stroke" "at_stroke" m4 589
def x119:Obj:=cN "at_quoted" 979 258 4 591 986
def x120:Obj:=fM (tp 63) "at_quoted" "at_quoted" m4 596
def x121:Obj:=cN "at_qmark" 989 264 4 598 996
def x122:Obj:=fM (tp 64) "at_qmark" "at_qmark" m4 603
def x123:Obj:=cN "at_done" 999 268 4 605 1006
def x124:Obj:=fM (tp 65) "at_done" "at_done" m4 610
def x125:Obj:=cN "at_talk" 1009 270 4 612 1016
def x126:Obj:=fM (tp 66) "at_talk" "at_talk" m4 617
def x127:Obj:=cN "at_tmark" 1019 276 4 619 1026
def x128:Obj:=fM (tp 67) "at_tmark" "at_tmark" m4 624
def x129:Obj:=cM "at_asis" "at_asis" 1029 280 4 3 626 true 627 .none .none .none (.ref 628) 1032
def x130:Obj:=fM (tp 68) "at_asis" "at_asis" m4 629
def x131 (P:Params):Obj:=dO #[en P "text" 1035 (.ref 499),en P "mark" 1037 (.ref 506),en P "open" 1039 (.ref 513),en P "name" 1041 (.ref 520),en P "slash" 1043 (.ref 527),en P "shut" 1045 (.ref 534),en P "gap" 1047 (.ref 541),en P "attr" 1049 (.ref 548),en P "is" 1051 (.ref 555),en P "bang" 1053 (.ref 562),en P "bare" 1055 (.ref 569),en P "code" 1057 (.ref 576),en P "row" 1059 (.ref 583),en P "stroke" 1061 (.ref 590),en P "quoted" 1063 (.ref 597),en P "qmark" 1065 (.ref 604),en P "done" 1067 (.ref 611),en P "talk" 1069 (.ref 618),en P "tmark" 1070 (.ref 625),en P "asis" 1071 (.ref 630)] 20
def x132:Obj:=cN "moved" 1076 291 2 633 1082
def x133:Obj:=fM (tp 70) "moved" "moved" m4 638
def x134:Obj:=cN "begin" 1087 295 0 640 1090
def x135:Obj:=fM (tp 72) "begin" "begin" m5 645
def x136:Obj:=cN "step" 1093 297 2 647 1098
def x137:Obj:=fM (tp 73) "step" "step" m5 652
def x138:Obj:=cN "run" 1101 299 2 654 1111
def x139:Obj:=fM (tp 74) "run" "run" m5 659
def x140:Obj:=cN "is_end" 1114 309 1 661 1118
def x141:Obj:=fM (tp 75) "is_end" "is_end" m5 666
def x142:Obj:=cN "floored" 1121 311 1 668 1125
def x143:Obj:=fM (tp 76) "floored" "floored" m5 673
def x144 (P:Params):Obj:=dO #[en P "__name__" 165 (.str "law_sealpress_k75_unlike_and_left_open" 1354),en P "__doc__" 166 .none,en P "__package__" 167 .none,en P "__loader__" 168 (.builtin "__main__.__loader__#opaque"),en P "__spec__" 169 .none,en P "__annotations__" 170 (.ref 6),en P "__builtins__" 171 (.ref 4),en P "__file__" 173 (.str "/claim/cut.py" 172),en P "__cached__" 174 .none,en P "SealError" 206 (.ref 24),en P "NoSign" 231 (.ref 44),en P "NoCode" 256 (.ref 63),en P "Unread" 281 (.ref 82),en P "Unended" 297 (.ref 94),en P "NoPage" 322 (.ref 113),en P "NoName" 347 (.ref 132),en P "NoSheet" 372 (.ref 151),en P "Twice" 397 (.ref 170),en P "TooMany" 413 (.ref 182),en P "Unknown" 438 (.ref 201),en P "RingOver" 463 (.ref 220),en P "Ringed" 488 (.ref 239),en P "NoElder" 513 (.ref 258),en P "Astray" 540 (.ref 277),en P "NoPlace" 567 (.ref 296),en P "Unlike" 596 (.ref 315),en P "LeftOpen" 621 (.ref 334),en P "NoValue" 646 (.ref 353),en P "NoKind" 671 (.ref 372),en P "NoRow" 687 (.ref 384),en P "SIGNS" 691 (.str " !\"#$&'()*+,-./0123456789:;<=>?@ABCDEFGHIJKLMNOPQRSTUVWXYZ[\\]^_`abcdefghijklmnopqrstuvwxyz{|}~" 690),en P "FIGURES" 693 (.str "0123456789" 692),en P "LETTERS" 695 (.str "abcdefghijklmnopqrstuvwxyz" 694),en P "LONGEST_NAME" 697 (.int 8 696),en P "sign_of" 704 (.ref 393),en P "sign_told" 712 (.ref 400),en P "WORDSIGNS" 714 (.str "abcdefghijklmnopqrstuvwxyz0123456789-" 713),en P "PLACE_MODES" 721 (.ref 401),en P "place_of" 728 (.ref 408),en P "fed_between" 737 (.ref 415),en P "fed_word" 744 (.ref 422),en P "fed_said" 751 (.ref 429),en P "feed" 759 (.ref 436),en P "ASIS_END" 763 (.str "</asis>" 762),en P "MARK_FIGURES" 765 (.int 2 764),en P "come_to" 774 (.ref 443),en P "told" 783 (.ref 450),en P "gathered" 794 (.ref 457),en P "box_shut" 802 (.ref 464),en P "into_box" 811 (.ref 471),en P "led_on" 820 (.ref 478),en P "fed" 830 (.ref 485),en P "mark_ended" 838 (.ref 492),en P "at_text" 848 (.ref 499),en P "at_mark" 858 (.ref 506),en P "at_open" 868 (.ref 513),en P "at_name" 878 (.ref 520),en P "at_slash" 888 (.ref 527),en P "at_shut" 898 (.ref 534),en P "at_gap" 908 (.ref 541),en P "at_attr" 918 (.ref 548),en P "at_is" 928 (.ref 555),en P "at_bang" 938 (.ref 562),en P "at_bare" 948 (.ref 569),en P "at_code" 958 (.ref 576),en P "at_row" 968 (.ref 583),en P "at_stroke" 978 (.ref 590),en P "at_quoted" 988 (.ref 597),en P "at_qmark" 998 (.ref 604),en P "at_done" 1008 (.ref 611),en P "at_talk" 1018 (.ref 618),en P "at_tmark" 1028 (.ref 625),en P "at_asis" 1034 (.ref 630),en P "MODES" 1075 (.ref 631),en P "moved" 1084 (.ref 639),en P "begin" 1092 (.ref 646),en P "step" 1100 (.ref 653),en P "run" 1113 (.ref 660),en P "is_end" 1120 (.ref 667),en P "floored" 1127 (.ref 674),en P "Spot" 1185 (.ref 712),en P "Looking" 1304 (.ref 789),en P "looked_at" 1314 (.ref 800),en P "look" 1321 (.ref 807),en P "branches_of" 1330 (.ref 814),en P "walked" 1342 (.ref 821),en P "state_at" 1353 (.ref 828),en P "_law_cell" 1364 (.ref 835),en P "_law_mix" 1376 (.ref 842),en P "_law_other" 1383 (.ref 849),en P "_law_part" 1391 (.ref 856),en P "_law_fault" 1403 (.ref 863),en P "_law_good" 1418 (.ref 870),en P "_law_some" 1434 (.ref 877),en P "_law_within" 1448 (.ref 884),en P "_law_compound" 1464 (.ref 891),en P "_law_made" 1475 (.ref 898),en P "_law_marked" 1483 (.ref 905),en P "_law_pass" 1494 (.ref 912),en P "_law_inner" 1501 (.ref 919),en P "_law_path" 1517 (.ref 926),en P "_law_text_of" 1530 (.ref 933),en P "_law_due" 1542 (.ref 940),en P "_law_looked" 1551 (.ref 947),en P "_law_refusal" 1558 (.ref 954),en P "_law_two" 1567 (.ref 961),en P "_law_right" 1578 (.ref 968),en P "_law_left" 1588 (.ref 975),en P "law" 1600 (.ref 982)] 109
noncomputable def _root_.PySem.W.Fast.tw10244597580150652748:=@x144
theorem _root_.PySem.W.Fast.te10244597580150652748:@x144=@_root_.PySem.W.Fast.tw10244597580150652748:=rfl
def x145 (P:Params):Obj:=dO #[en P "__module__" 1193 m6,en P "__firstlineno__" 1197 (.int 329 1196),en P "__init__" 1205 (.ref 730),en P "look_all" 1216 (.ref 737),en P "look_piece" 1226 (.ref 744),en P "look_literal" 1237 (.ref 751),en P "look_hole" 1247 (.ref 758),en P "look_each" 1258 (.ref 765),en P "look_if" 1269 (.ref 772),en P "look_seat" 1280 (.ref 779),en P "look_drawn" 1293 (.ref 786),en P "__static_attributes__" 1297 (.ref 787),en P "__dict__" 1299 (.ref 790),en P "__weakref__" 1301 (.ref 791),en P "__doc__" 1302 .none] 4
def kh0 (P:Params):Lf:=[(2,boot_o_2 P),(3,x144 P),(15,x2),(22,x4),(23,x6 P),(24,x7),(25,x8),(43,x10 P),(44,x11),(62,x12 P),(63,x13),(78,x14)]
def kh1 (P:Params):Lf:=[(79,x15),(81,x16 P),(82,x17),(93,x18 P),(94,x19),(112,x20 P),(113,x21),(131,x22 P),(132,x23),(150,x24 P),(151,x25),(169,x26 P)]
def kh2 (P:Params):Lf:=[(170,x27),(181,x28 P),(182,x29),(200,x30 P),(201,x31),(219,x32 P),(220,x33),(238,x34 P),(239,x35),(257,x36 P),(258,x37),(273,x38)]
def kh3 (P:Params):Lf:=[(274,x39),(276,x40 P),(277,x41),(292,x42),(293,x43),(295,x44 P),(296,x45),(311,x46),(312,x47),(314,x48 P),(315,x49),(330,x50)]
def kh4 (P:Params):Lf:=[(331,x51),(333,x52 P),(334,x53),(352,x54 P),(353,x55),(371,x56 P),(372,x57),(383,x58 P),(384,x59),(392,x60),(393,x61),(399,x62)]
def kh5 (P:Params):Lf:=[(400,x63),(401,x64),(407,x65),(408,x66),(414,x67),(415,x68),(421,x69),(422,x70),(428,x71),(429,x72),(435,x73),(436,x74)]
def kh6 (P:Params):Lf:=[(442,x75),(443,x76),(449,x77),(450,x78),(456,x79),(457,x80),(463,x81),(464,x82),(470,x83),(471,x84),(477,x85),(478,x86)]
def kh7 (P:Params):Lf:=[(484,x87),(485,x88),(491,x89),(492,x90),(498,x91),(499,x92),(505,x93),(506,x94),(512,x95),(513,x96),(519,x97),(520,x98)]
def kh8 (P:Params):Lf:=[(526,x99),(527,x100),(533,x101),(534,x102),(540,x103),(541,x104),(547,x105),(548,x106),(554,x107),(555,x108),(561,x109),(562,x110)]
def kh9 (P:Params):Lf:=[(568,x111),(569,x112),(575,x113),(576,x114),(582,x115),(583,x116),(589,x117),(590,x118),(596,x119),(597,x120),(603,x121),(604,x122)]
def CM (P:Params):Lf:=[(610,x123),(611,x124),(617,x125),(618,x126),(624,x127),(625,x128),(629,x129),(630,x130),(631,x131 P),(638,x132),(639,x133),(645,x134)]
def CL (P:Params):Lf:=[(646,x135),(652,x136),(653,x137),(659,x138),(660,x139),(666,x140),(667,x141),(673,x142),(674,x143),(687,cS "__init__" "Spot.__init__" 1142 316 4 682 1149),(688,fM (tc 78 0) "__init__" "Spot.__init__" m6 687),(694,cS "shown" "Spot.shown" 1152 321 1 689 1156)]
def CK (P:Params):Lf:=[(695,fM (tc 78 1) "shown" "Spot.shown" m6 694),(701,cS "met" "Spot.met" 1159 324 2 696 1164),(702,fM (tc 78 2) "met" "Spot.met" m6 701),(708,cS "turned" "Spot.turned" 1167 327 2 703 1172),(709,fM (tc 78 3) "turned" "Spot.turned" m6 708),(711,dO #[en P "__module__" 1137 m6,en P "__firstlineno__" 1141 (.int 314 1140),en P "__init__" 1151 (.ref 688),en P "shown" 1158 (.ref 695),en P "met" 1166 (.ref 702),en P "turned" 1174 (.ref 709),en P "__static_attributes__" 1178 (.ref 710),en P "__dict__" 1180 (.ref 713),en P "__weakref__" 1182 (.ref 714),en P "__doc__" 1183 .none] 4),(712,⟨(.type "type"),none,(.cls ⟨"Spot",[.type "object"],[.ref 712,.type "object"],711,"Spot",true,[],[],false,none,false⟩),#[none,none,some (.str "Spot" 1130),some (.str "Spot" 1138),some (.builtin "object.__new__"),some (.bool true)]⟩),(729,cS "__init__" "Looking.__init__" 1198 331 2 724 1203),(730,fM (tc 79 0) "__init__" "Looking.__init__" m6 729),(736,cS "look_all" "Looking.look_all" 1206 336 3 731 1214),(737,fM (tc 79 1) "look_all" "Looking.look_all" m6 736),(743,cS "look_piece" "Looking.look_piece" 1217 342 3 738 1224)]
def CJ (P:Params):Lf:=[(744,fM (tc 79 2) "look_piece" "Looking.look_piece" m6 743),(750,cS "look_literal" "Looking.look_literal" 1227 356 3 745 1235),(751,fM (tc 79 3) "look_literal" "Looking.look_literal" m6 750),(757,cS "look_hole" "Looking.look_hole" 1238 363 3 752 1245),(758,fM (tc 79 4) "look_hole" "Looking.look_hole" m6 757),(764,cS "look_each" "Looking.look_each" 1248 370 3 759 1256),(765,fM (tc 79 5) "look_each" "Looking.look_each" m6 764),(771,cS "look_if" "Looking.look_if" 1259 377 3 766 1267),(772,fM (tc 79 6) "look_if" "Looking.look_if" m6 771),(778,cS "look_seat" "Looking.look_seat" 1270 384 3 773 1278),(779,fM (tc 79 7) "look_seat" "Looking.look_seat" m6 778),(788,x145 P)]
def CI (P:Params):Lf:=[(789,⟨(.type "type"),none,(.cls ⟨"Looking",[.type "object"],[.ref 789,.type "object"],788,"Looking",true,[],[],false,none,false⟩),#[none,none,some (.str "Looking" 1186),some (.str "Looking" 1194),some (.builtin "object.__new__"),some (.bool true)]⟩),(799,cN "looked_at" 1305 402 2 794 1312),(800,fM (tp 80) "looked_at" "looked_at" m6 799),(806,cN "look" 1315 408 1 801 1319),(807,fM (tp 81) "look" "look" m6 806),(813,cN "branches_of" 1324 411 1 808 1328),(814,fM (tp 83) "branches_of" "branches_of" m7 813),(820,cN "walked" 1331 413 2 815 1340),(821,fM (tp 84) "walked" "walked" m7 820),(827,cN "state_at" 1343 430 2 822 1351),(828,fM (tp 85) "state_at" "state_at" m7 827),(834,cN "_law_cell" 1356 443 2 829 1362)]
def CH (P:Params):Lf:=[(835,fM (tp 87) "_law_cell" "_law_cell" m8 834),(841,cN "_law_mix" 1365 450 3 836 1374),(842,fM (tp 88) "_law_mix" "_law_mix" m8 841),(848,cN "_law_other" 1377 457 1 843 1381),(849,fM (tp 89) "_law_other" "_law_other" m8 848),(855,cN "_law_part" 1384 461 2 850 1389),(856,fM (tp 90) "_law_part" "_law_part" m8 855),(862,cN "_law_fault" 1392 463 3 857 1401),(863,fM (tp 91) "_law_fault" "_law_fault" m8 862),(869,cN "_law_good" 1404 476 4 864 1416),(870,fM (tp 92) "_law_good" "_law_good" m8 869),(876,cN "_law_some" 1419 488 4 871 1432)]
def CG (P:Params):Lf:=[(877,fM (tp 93) "_law_some" "_law_some" m8 876),(883,cN "_law_within" 1435 505 6 878 1446),(884,fM (tp 94) "_law_within" "_law_within" m8 883),(890,cN "_law_compound" 1449 508 4 885 1462),(891,fM (tp 95) "_law_compound" "_law_compound" m8 890),(897,cN "_law_made" 1465 519 2 892 1473),(898,fM (tp 96) "_law_made" "_law_made" m8 897),(904,cN "_law_marked" 1476 526 2 899 1481),(905,fM (tp 97) "_law_marked" "_law_marked" m8 904),(911,cN "_law_pass" 1484 532 1 906 1492),(912,fM (tp 98) "_law_pass" "_law_pass" m8 911),(918,cN "_law_inner" 1495 549 1 913 1499)]
def CF (P:Params):Lf:=[(919,fM (tp 99) "_law_inner" "_law_inner" m8 918),(925,cN "_law_path" 1502 557 2 920 1515),(926,fM (tp 100) "_law_path" "_law_path" m8 925),(932,cN "_law_text_of" 1518 571 2 927 1528),(933,fM (tp 101) "_law_text_of" "_law_text_of" m8 932),(939,cN "_law_due" 1531 580 3 934 1540),(940,fM (tp 102) "_law_due" "_law_due" m8 939),(946,cN "_law_looked" 1543 592 1 941 1549),(947,fM (tp 103) "_law_looked" "_law_looked" m8 946),(953,cN "_law_refusal" 1552 598 1 948 1556),(954,fM (tp 104) "_law_refusal" "_law_refusal" m8 953),(960,cN "_law_two" 1559 609 2 955 1565)]
def CD (P:Params):Lf:=[(961,fM (tp 105) "_law_two" "_law_two" m8 960),(967,cN "_law_right" 1568 614 2 962 1576),(968,fM (tp 106) "_law_right" "_law_right" m8 967),(974,cN "_law_left" 1579 623 1 969 1586),(975,fM (tp 107) "_law_left" "_law_left" m8 974),(981,cN "law" 1589 631 1 976 1598),(982,fM (tp 108) "law" "law" m8 981)]
def Nj (P:Params):Lf:=kh0 P++(kh1 P++(kh2 P++(kh3 P++(kh4 P++(kh5 P++(kh6 P++(kh7 P)))))))
def Ni (P:Params):Lf:=kh8 P++(kh9 P++(CM P++(CL P++(CK P++(CJ P++(CI P++(CH P)))))))
def OJ (P:Params):Lf:=CG P++(CF P++(CD P))
def KH (P:Params):Lf:=Nj P++(Ni P++(OJ P))
noncomputable def C4:Le:=[2,3,15,22,23,24,25,43,44,62,63,78,79,81,82,93,94,112,113,131,132,150,151,169,170,181,182,200,201,219,220,238,239,257,258,273,274,276,277,292,293,295,296,311,312,314,315,330,331,333,334,352,353,371,372,383,384,392,393,399,400,401,407,408,414,415,421,422,428,429,435,436,442,443,449,450,456,457,463,464,470,471,477,478,484,485,491,492,498,499,505,506,512,513,519,520,526,527,533,534,540,541,547,548,554,555,561,562,568,569,575,576,582,583,589,590,596,597,603,604,610,611,617,618,624,625,629,630,631,638,639,645,646,652,653,659,660,666,667,673,674,687,688,694,695,701,702,708,709,711,712,729,730,736,737,743,744,750,751,757,758,764,765,771,772,778,779,788,789,799,800,806,807,813,814,820,821,827,828,834,835,841,842,848,849,855,856,862,863,869,870,876,877,883,884,890,891,897,898,904,905,911,912,918,919,925,926,932,933,939,940,946,947,953,954,960,961,967,968,974,975,981,982]
theorem Mb (P:Params):C4=(KH P).map (λp=>p.1):=by kernel_rfl
@[reducible] def HK:Hook:=kHook KH C4 Mb
def tN (s:Shared):List (Option Obj):=C4.map s.heap.get?
def sU (w:World):List (Option Obj):=(KH w.params).map λp=>some p.2
def tb0 (P:Params):BT:=.node (boot_o_0 P) (.node (boot_o_1 P) (.node (boot_o_3 P) (.node (boot_o_7 P) .nil .nil) (.node (FJ P) .nil .nil)) (.node (boot_o_5 P) (.node (boot_o_9 P) .nil .nil) (.node (FI P) .nil .nil))) (.node (boot_o_2 P) (.node (boot_o_4 P) (.node (boot_o_8 P) .nil .nil) (.node (o12 P) .nil .nil)) (.node (boot_o_6 P) (.node (boot_o_10 P) .nil .nil) (.node (FH P) .nil .nil)))
def sB (w:World)(os:OsState):SharedT:=⟨tb0 w.params,15,{},#[],{},187,os⟩
noncomputable def iR:Env:={ scope:=pw.main.scope,locals:=mainNs,globals:=mainNs,cells:=[],code:=.ref 13,frame:=some 14 }
noncomputable def Vm:List Stmt:=behindTheImports pw
def cE:Code:=.body Vm iR
noncomputable def mn:Pos:=⟨0,0,0,0⟩
def B0:List Frame:=[topFrame mn]
noncomputable def lA:Option Value:=some (.ref 6)
noncomputable def mY:Program:=view pw [1,2,3,4,5,6,7,8,9,10,11,12,13,14,15,16,17,18,19,20,21,23,24,25,26,27,28,29,31,32,34,35,36,37,39,40,41,42,43,44,45,46,47,48,49,50,51,52,53,54,55,56,57,58,59,60,61,62,63,64,65,66,67,68,69,70,72,73,74,75,76,78,79,80,81,83,84,85,87,88,89,90,91,92,93,94,95,96,97,98,99,100,101,102,103,104,105,106,107,108]
noncomputable def iK:Lj:=["MODES"]
noncomputable def mods:Lj:=importedModules pw.main.body
def tX (s:Shared):Bool:=xlAt mY [] s&&recOk (RowW.records (OpenRow.toRowW (OpenLaw.row PySem.Challenge.rw_sealpress_k75_unlike_and_left_open))) s
def Dv (w:World)(r:Flow×SharedT×Code×Pos):=(r.1,r.2.2.1,(staticsOk mods (boot_heap w.params) r.2.1.abs.heap&&namesBound pw r.2.1.abs.heap&&gensDone r.2.1.abs&&laidKept (boot_heap w.params) r.2.1.abs.heap),tN r.2.1.abs)
def Wt (r:Flow×SharedT×Code×Pos):=openSeen mY iK mods tX true r.2.1.abs
def Cc (P:Params):BT:=(.node x13 (.node (gM (tc 7 0) "__init__" "NoName.__init__") (.node (fM (tc 14 0) "__init__" "NoElder.__init__" m0 254) (.node (gM (tp 51) "at_open" "at_open") .nil .nil) .nil) (.node (x58 P) (.node x133 .nil .nil) .nil)) (.node (rM 190 187 m0) (.node x3 (.node x113 .nil .nil) .nil) (.node x4 .nil .nil)))
def Cb (P:Params):BT:=(.node (sO 94) (.node (cK "Twice" 375 36 157 378) (.node x4 (.node x5 .nil .nil) .nil) (.node x68 (.node x4 .nil .nil) .nil)) (.node x9 (.node (tO #[.str "name" 642]) (.node (tO #[.str "word" 1002,.str "opens" 1003,.str "talk" 1004,.str "sign" 1005]) .nil .nil) .nil) (.node x4 .nil .nil)))
def Ca (P:Params):BT:=(.node x15 (.node x5 (.node x4 (.node x100 .nil .nil) .nil) (.node x62 (.node x5 .nil .nil) .nil)) (.node x4 (.node (sO 334) (.node x4 .nil .nil) .nil) (.node x81 .nil .nil)))
def BZ (P:Params):BT:=(.node (tO #[.str "at" 318]) (.node (dO #[en P "__module__" 405 m0,en P "__qualname__" 407 (.str "TooMany" 406),en P "__firstlineno__" 409 (.int 41 408),en P "__static_attributes__" 410 (.ref 180)] 4) (.node (pO #[.int 77 0,.int 4 0,.ref 311]) (.node x4 .nil .nil) .nil) (.node x5 .nil .nil)) (.node x35 (.node (gM (tc 20 0) "__init__" "NoKind.__init__") (.node (gM (tp 67) "at_tmark" "at_tmark") .nil .nil) .nil) (.node (tO #[.str "word" 842,.str "opens" 843,.str "talk" 844,.str "sign" 845]) .nil .nil)))
def BY (P:Params):BT:=(.node (cK "Unread" 259 14 69 262) (.node x9 (.node (m9 P 521 m0 "Astray" 63 534 274 537 275) (.node x97 .nil .nil) .nil) (.node (gM (tp 27) "sign_of" "sign_of") (.node x4 .nil .nil) .nil)) (.node (tO #[.str "name" 434]) (.node (tO #[.str "self" 612,.str "place" 613]) (.node x116 .nil .nil) .nil) (.node (gM (tp 43) "gathered" "gathered") .nil .nil)))
def BX (P:Params):BT:=(.node (rM 102 99 m0) (.node (fM (tc 9 0) "__init__" "Twice.__init__" m0 166) (.node (x44 P) (.node (tO #[.str "word" 922,.str "opens" 923,.str "talk" 924,.str "sign" 925]) .nil .nil) .nil) (.node x4 .nil .nil)) (.node x5 (.node x4 (.node x4 .nil .nil) .nil) (.node x5 .nil .nil)))
def BW (P:Params):BT:=(.node (dO #[en P "__module__" 289 m0,en P "__qualname__" 291 (.str "Unended" 290),en P "__firstlineno__" 293 (.int 19 292),en P "__static_attributes__" 294 (.ref 92)] 4) (.node x25 (.node (mz 277) (.node x4 .nil .nil) .nil) (.node x65 (.node (tO #[.str "state" 1117]) .nil .nil) .nil)) (.node (gM (tc 12 0) "__init__" "RingOver.__init__") (.node (rM 342 339 m0) (.node x5 .nil .nil) .nil) (.node x84 .nil .nil)))
def BV (P:Params):BT:=(.node x4 (.node (sO 182) (.node x46 (.node (gM (tp 59) "at_bare" "at_bare") .nil .nil) .nil) (.node (tO #[.str "mode" 769,.str "opens" 770,.str "events" 771]) .nil .nil)) (.node (cK "NoElder" 491 58 245 494) (.node x9 (.node (x131 P) .nil .nil) .nil) (.node x4 .nil .nil)))
def BU (P:Params):BT:=(.node x3 (.node (x22 P) (.node (sO 258) (.node x5 .nil .nil) .nil) (.node x4 (.node x4 .nil .nil) .nil)) (.node x4 (.node (cK "LeftOpen" 599 82 321 602) (.node (tO #[.str "word" 962,.str "opens" 963,.str "talk" 964,.str "sign" 965]) .nil .nil) .nil) (.node x4 .nil .nil)))
def BS (P:Params):BT:=(.node (m9 P 305 m0 "NoPage" 21 317 110 319 111) (.node (tO #[.str "self" 388,.str "name" 389]) (.node (gM (tc 16 0) "__init__" "NoPlace.__init__") (.node x105 .nil .nil) .nil) (.node x4 .nil .nil)) (.node (pO #[.int 55 0,.int 4 0,.ref 235]) (.node (mz 353) (.node x124 .nil .nil) .nil) (.node (gM (tp 47) "fed" "fed") .nil .nil)))
def Ma (P:Params):BT:=(.node (sO 82) (.node (cS "__init__" "NoSheet.__init__" 360 33 2 142 365) (.node (tO #[.str "at" 535,.str "place" 536]) (.node x4 .nil .nil) .nil) (.node x5 (.node x138 .nil .nil) .nil)) (.node x4 (.node (m9 P 629 m0 "NoValue" 87 641 350 643 351) (.node (gM (tp 63) "at_quoted" "at_quoted") .nil .nil) .nil) (.node (tO #[.str "opens" 806,.str "events" 807,.str "mode" 808]) .nil .nil)))
def L9 (P:Params):BT:=(.node (mz 113) (.node (rM 178 175 m0) (.node x5 (.node x4 .nil .nil) .nil) (.node x73 .nil .nil)) (.node x3 (.node (x56 P) (.node x5 .nil .nil) .nil) (.node x92 .nil .nil)))
def L8 (P:Params):BT:=(.node (tO #[.str "self" 272,.str "at" 273]) (.node (pO #[.int 33 0,.int 4 0,.ref 147]) (.node (rM 266 263 m0) (.node (tO #[.str "word" 882,.str "opens" 883,.str "talk" 884,.str "sign" 885]) .nil .nil) .nil) (.node x5 (.node (gM (tp 73) "step" "step") .nil .nil) .nil)) (.node (mz 201) (.node x51 (.node x4 .nil .nil) .nil) (.node x5 .nil .nil)))
def L7 (P:Params):BT:=(.node x4 (.node (sO 170) (.node x9 (.node x108 .nil .nil) .nil) (.node (gM (tp 36) "fed_said" "fed_said") .nil .nil)) (.node (cS "__init__" "Ringed.__init__" 476 55 2 230 481) (.node x4 (.node x4 .nil .nil) .nil) (.node x89 .nil .nil)))
def L6 (P:Params):BT:=(.node (rM 90 87 m0) (.node x3 (.node x4 (.node (gM (tp 55) "at_gap" "at_gap") .nil .nil) .nil) (.node (tO #[.str "sign" 734]) (.node x141 .nil .nil) .nil)) (.node (x32 P) (.node x4 (.node x121 .nil .nil) .nil) (.node x4 .nil .nil)))
def L5 (P:Params):BT:=(.node x4 (.node (m9 P 421 m0 "Unknown" 43 433 198 435 199) (.node x49 (.node x5 .nil .nil) .nil) (.node x76 .nil .nil)) (.node (tO #[.str "self" 504,.str "name" 505]) (.node x5 (.node (tO #[.str "state" 1079,.str "sign" 1080,.str "act" 1081]) .nil .nil) .nil) (.node x4 .nil .nil)))
def L3 (P:Params):BT:=(.node (mz 63) (.node (fM (tc 7 0) "__init__" "NoName.__init__" m0 128) (.node (x36 P) (.node x96 .nil .nil) .nil) (.node (sO 384) (.node x5 .nil .nil) .nil)) (.node x5 (.node x4 (.node x4 .nil .nil) .nil) (.node x77 .nil .nil)))
def LZ (P:Params):BT:=(.node x9 (.node x4 (.node (tO #[.str "self" 556,.str "name" 557,.str "place" 558]) (.node x4 .nil .nil) .nil) (.node x5 (.node x142 .nil .nil) .nil)) (.node (m9 P 471 m0 "Ringed" 53 483 236 485 237) (.node x55 (.node (gM (tp 65) "at_done" "at_done") .nil .nil) .nil) (.node (tO #[.str "opens" 824,.str "talk" 825,.str "sign" 826,.str "answer" 827]) .nil .nil)))
def LY (P:Params):BT:=(.node (x16 P) (.node x4 (.node x38 (.node x5 .nil .nil) .nil) (.node x64 (.node x4 .nil .nil) .nil)) (.node (cK "RingOver" 441 48 207 444) (.node x9 (.node (tO #[.str "word" 982,.str "opens" 983,.str "talk" 984,.str "sign" 985]) .nil .nil) .nil) (.node x4 .nil .nil)))
def LX (P:Params):BT:=(.node x21 (.node x5 (.node (rM 304 301 m0) (.node x109 .nil .nil) .nil) (.node x4 .nil .nil)) (.node (mz 239) (.node (fM (tc 20 0) "__init__" "NoKind.__init__" m0 368) (.node x128 .nil .nil) .nil) (.node (gM (tp 49) "at_text" "at_text") .nil .nil)))
def LW (P:Params):BT:=(.node x4 (.node (m9 P 355 m0 "NoSheet" 31 367 148 369 149) (.node (pO #[.int 65 0,.int 4 0,.ref 273]) (.node x4 .nil .nil) .nil) (.node x61 (.node (tO #[.str "state" 1096,.str "sign" 1097]) .nil .nil) .nil)) (.node x31 (.node (gM (tc 18 0) "__init__" "LeftOpen.__init__") (.node x5 .nil .nil) .nil) (.node x80 .nil .nil)))
def MC (P:Params):BT:=(.node x5 (.node (x26 P) (.node (sO 296) (.node (gM (tp 57) "at_is" "at_is") .nil .nil) .nil) (.node (tO #[.str "sign" 748]) .nil .nil)) (.node x4 (.node (cK "NoKind" 649 92 359 652) (.node x125 .nil .nil) .nil) (.node x4 .nil .nil)))
def MB (P:Params):BT:=(.node x5 (.node (mz 151) (.node x3 (.node (tO #[.str "word" 902,.str "opens" 903,.str "talk" 904,.str "sign" 905]) .nil .nil) .nil) (.node x4 (.node (gM (tp 75) "is_end" "is_end") .nil .nil) .nil)) (.node (fM (tc 12 0) "__init__" "RingOver.__init__" m0 216) (.node x5 (.node x4 .nil .nil) .nil) (.node x5 .nil .nil)))
def MA (P:Params):BT:=(.node (cK "NoName" 325 26 119 328) (.node x9 (.node (tO #[.str "one" 590,.str "other" 591,.str "what" 592]) (.node x112 .nil .nil) .nil) (.node (gM (tp 41) "come_to" "come_to") .nil .nil)) (.node x4 (.node (dO #[en P "__module__" 679 m0,en P "__qualname__" 681 (.str "NoRow" 680),en P "__firstlineno__" 683 (.int 97 682),en P "__static_attributes__" 684 (.ref 382)] 4) (.node x4 .nil .nil) .nil) (.node x93 .nil .nil)))
def Mz (P:Params):BT:=(.node x4 (.node (sO 132) (.node x9 (.node x4 .nil .nil) .nil) (.node (tO #[.str "number" 701]) (.node x134 .nil .nil) .nil)) (.node (cS "__init__" "Unknown.__init__" 426 45 2 192 431) (.node x4 (.node (gM (tp 61) "at_row" "at_row") .nil .nil) .nil) (.node (tO #[.str "mode" 787,.str "word" 788,.str "opens" 789,.str "talk" 790,.str "most" 791]) .nil .nil)))
def Mx (P:Params):BT:=(.node (pO #[.int 23 0,.int 4 0,.ref 109]) (.node (gM (tc 9 0) "__init__" "Twice.__init__") (.node x43 (.node x4 .nil .nil) .nil) (.node x69 .nil .nil)) (.node (rM 228 225 m0) (.node x3 (.node x5 .nil .nil) .nil) (.node x88 .nil .nil)))
def Mw (P:Params):BT:=(.node x9 (.node (tO #[.str "at" 368]) (.node x41 (.node x101 .nil .nil) .nil) (.node x4 (.node x4 .nil .nil) .nil)) (.node (tO #[.str "self" 454,.str "ring" 455]) (.node (pO #[.int 89 0,.int 4 0,.ref 349]) (.node x120 .nil .nil) .nil) (.node (gM (tp 45) "into_box" "into_box") .nil .nil)))
def Mv (P:Params):BT:=(.node x3 (.node (x28 P) (.node x4 (.node (tO #[.str "word" 942,.str "opens" 943,.str "talk" 944,.str "sign" 945]) .nil .nil) .nil) (.node x4 .nil .nil)) (.node x4 (.node (sO 372) (.node x129 .nil .nil) .nil) (.node x5 .nil .nil)))
def Mu (P:Params):BT:=(.node (gM (tc 4 0) "__init__" "Unread.__init__") (.node (rM 140 137 m0) (.node x5 (.node (gM (tp 53) "at_slash" "at_slash") .nil .nil) .nil) (.node x4 (.node x137 .nil .nil) .nil)) (.node x3 (.node (x52 P) (.node x117 .nil .nil) .nil) (.node x4 .nil .nil)))
def Mt (P:Params):BT:=(.node (cS "__init__" "NoPage.__init__" 310 23 2 104 315) (.node x9 (.node (m9 P 575 m0 "Unlike" 75 589 312 593 313) (.node x5 .nil .nil) .nil) (.node x72 .nil .nil)) (.node (tO #[.str "ring" 484]) (.node (tO #[.str "self" 662,.str "name" 663]) (.node (tO #[.str "word" 1022,.str "opens" 1023,.str "talk" 1024,.str "sign" 1025]) .nil .nil) .nil) (.node x4 .nil .nil)))
def Mr (P:Params):BT:=(.node (x18 P) (.node x4 (.node (cK "NoPlace" 543 69 283 546) (.node x104 .nil .nil) .nil) (.node (gM (tp 34) "fed_between" "fed_between") (.node x5 .nil .nil) .nil)) (.node (sO 220) (.node (cS "__init__" "NoValue.__init__" 634 89 2 344 639) (.node x4 .nil .nil) .nil) (.node x85 .nil .nil)))
def Io (P:Params):BT:=(.node (tO #[.str "self" 338,.str "name" 339]) (.node (pO #[.int 45 0,.int 4 0,.ref 197]) (.node (mz 315) (.node x4 .nil .nil) .nil) (.node x5 .nil .nil)) (.node (gM (tc 14 0) "__init__" "NoElder.__init__") (.node (rM 380 377 m0) (.node (gM (tp 70) "moved" "moved") .nil .nil) .nil) (.node (tO #[.str "word" 862,.str "opens" 863,.str "talk" 864,.str "sign" 865]) .nil .nil)))
def Im (P:Params):BT:=(.node (sO 63) (.node (cS "__init__" "NoName.__init__" 335 28 2 123 340) (.node (tO #[.str "name" 509]) (.node x95 .nil .nil) .nil) (.node x59 (.node x4 .nil .nil) .nil)) (.node x4 (.node (m9 P 604 m0 "LeftOpen" 82 616 331 618 332) (.node x114 .nil .nil) .nil) (.node (gM (tp 42) "told" "told") .nil .nil)))
def Il (P:Params):BT:=(.node (mz 94) (.node (rM 159 156 m0) (.node x5 (.node (tO #[.str "word" 912,.str "opens" 913,.str "talk" 914,.str "sign" 915]) .nil .nil) .nil) (.node x4 (.node (gM (tp 76) "floored" "floored") .nil .nil) .nil)) (.node x3 (.node (x54 P) (.node x4 .nil .nil) .nil) (.node x5 .nil .nil)))
def Ik (P:Params):BT:=(.node (tO #[.str "at" 277]) (.node (tO #[.str "self" 363,.str "at" 364]) (.node (gM (tc 15 0) "__init__" "Astray.__init__") (.node x4 .nil .nil) .nil) (.node x63 (.node (tO #[.str "state" 1104,.str "text" 1105,.str "now" 1106,.str "events" 1107,.str "at" 1108,.str "sign" 1109,.str "answer" 1110]) .nil .nil) .nil)) (.node (pO #[.int 50 0,.int 4 0,.ref 216]) (.node (mz 334) (.node x5 .nil .nil) .nil) (.node x82 .nil .nil)))
def Ij (P:Params):BT:=(.node (x20 P) (.node x4 (.node (cK "Unlike" 570 75 302 573) (.node (gM (tp 58) "at_bang" "at_bang") .nil .nil) .nil) (.node (tO #[.str "talk" 755,.str "sign" 756]) .nil .nil)) (.node (sO 239) (.node (cS "__init__" "NoKind.__init__" 659 94 2 363 664) (.node x127 .nil .nil) .nil) (.node x4 .nil .nil)))
def Ii (P:Params):BT:=(.node (rM 71 68 m0) (.node x3 (.node x4 (.node x98 .nil .nil) .nil) (.node x60 (.node x5 .nil .nil) .nil)) (.node (x30 P) (.node x4 (.node x4 .nil .nil) .nil) (.node x79 .nil .nil)))
def Ih (P:Params):BT:=(.node x4 (.node (tO #[.str "name" 393]) (.node x45 (.node x4 .nil .nil) .nil) (.node x5 .nil .nil)) (.node (tO #[.str "self" 479,.str "ring" 480]) (.node (pO #[.int 94 0,.int 4 0,.ref 368]) (.node (gM (tp 66) "at_talk" "at_talk") .nil .nil) .nil) (.node (tO #[.str "word" 834,.str "sign" 835]) .nil .nil)))
def Ig (P:Params):BT:=(.node x4 (.node (sO 151) (.node x9 (.node x5 .nil .nil) .nil) (.node x66 (.node x4 .nil .nil) .nil)) (.node (cS "__init__" "RingOver.__init__" 451 50 2 211 456) (.node x4 (.node (tO #[.str "word" 992,.str "opens" 993,.str "talk" 994,.str "sign" 995]) .nil .nil) .nil) (.node x4 .nil .nil)))
def Ie (P:Params):BT:=(.node (pO #[.int 28 0,.int 4 0,.ref 128]) (.node (mz 182) (.node x47 (.node x111 .nil .nil) .nil) (.node x4 .nil .nil)) (.node (rM 247 244 m0) (.node x3 (.node (dO #[en P "talk" 1069 (.ref 618),en P "tmark" 1070 (.ref 625),en P "asis" 1071 (.ref 630)] 3) .nil .nil) .nil) (.node (gM (tp 50) "at_mark" "at_mark") .nil .nil)))
def Ic (P:Params):BT:=(.node (m9 P 264 m0 "Unread" 14 276 79 278 80) (.node x23 (.node (mz 258) (.node (tO #[.str "word" 872,.str "opens" 873,.str "talk" 874,.str "sign" 875]) .nil .nil) .nil) (.node x5 (.node (gM (tp 72) "begin" "begin") .nil .nil) .nil)) (.node (gM (tc 11 0) "__init__" "Unknown.__init__") (.node (rM 323 320 m0) (.node x4 .nil .nil) .nil) (.node x5 .nil .nil)))
def Ib (P:Params):BT:=(.node x4 (.node x4 (.node x42 (.node x106 .nil .nil) .nil) (.node (gM (tp 35) "fed_word" "fed_word") .nil .nil)) (.node (cK "Ringed" 466 53 226 469) (.node x9 (.node x4 .nil .nil) .nil) (.node x87 .nil .nil)))
def Ia (P:Params):BT:=(.node (mz 82) (.node (fM (tc 8 0) "__init__" "NoSheet.__init__" m0 147) (.node (x40 P) (.node (gM (tp 54) "at_shut" "at_shut") .nil .nil) .nil) (.node (tO #[.str "state" 725]) (.node x139 .nil .nil) .nil)) (.node x5 (.node x4 (.node x119 .nil .nil) .nil) (.node x4 .nil .nil)))
def HZ (P:Params):BT:=(.node x9 (.node x4 (.node (tO #[.str "self" 583,.str "what" 584,.str "one" 585,.str "other" 586]) (.node x5 .nil .nil) .nil) (.node x74 .nil .nil)) (.node (m9 P 496 m0 "NoElder" 58 508 255 510 256) (.node x57 (.node (gM (tp 68) "at_asis" "at_asis") .nil .nil) .nil) (.node x4 .nil .nil)))
def HY (P:Params):BT:=(.node x4 (.node (cK "NoSheet" 350 31 138 353) (.node x4 (.node x4 .nil .nil) .nil) (.node (tO #[.str "figures" 708,.str "number" 709]) (.node x136 .nil .nil) .nil)) (.node x9 (.node (tO #[.str "place" 617]) (.node (gM (tp 62) "at_stroke" "at_stroke") .nil .nil) .nil) (.node (tO #[.str "opens" 798,.str "events" 799]) .nil .nil)))
def HX (P:Params):BT:=(.node (gM (tc 6 0) "__init__" "NoPage.__init__") (.node (mz 170) (.node x3 (.node x4 .nil .nil) .nil) (.node x71 .nil .nil)) (.node (fM (tc 13 0) "__init__" "Ringed.__init__" m0 235) (.node x5 (.node x5 .nil .nil) .nil) (.node x90 .nil .nil)))
def HW (P:Params):BT:=(.node x4 (.node (m9 P 380 m0 "Twice" 36 392 167 394 168) (.node (pO #[.int 71 0,.int 4 0,.ref 292]) (.node x103 .nil .nil) .nil) (.node x4 (.node x4 .nil .nil) .nil)) (.node x33 (.node (gM (tc 19 0) "__init__" "NoValue.__init__") (.node x122 .nil .nil) .nil) (.node (gM (tp 46) "led_on" "led_on") .nil .nil)))
def HV (P:Params):BT:=(.node x5 (.node x4 (.node (sO 315) (.node (tO #[.str "word" 952,.str "opens" 953,.str "talk" 954,.str "sign" 955]) .nil .nil) .nil) (.node x4 .nil .nil)) (.node x4 (.node (cK "NoRow" 674 97 378 677) (.node x4 .nil .nil) .nil) (.node x5 .nil .nil)))
def HU (P:Params):BT:=(.node x9 (.node (tO #[.str "name" 343]) (.node x37 (.node x4 .nil .nil) .nil) (.node (mz 384) (.node x4 .nil .nil) .nil)) (.node (tO #[.str "self" 429,.str "name" 430]) (.node (pO #[.int 84 0,.int 4 0,.ref 330]) (.node x5 .nil .nil) .nil) (.node x78 .nil .nil)))
def HS (P:Params):BT:=(.node x3 (.node x5 (.node x4 (.node (gM (tp 56) "at_attr" "at_attr") .nil .nil) .nil) (.node (tO #[.str "sign" 741]) (.node x143 .nil .nil) .nil)) (.node x4 (.node (sO 353) (.node x123 .nil .nil) .nil) (.node x4 .nil .nil)))
def HR (P:Params):BT:=(.node x17 (.node (gM (tc 8 0) "__init__" "NoSheet.__init__") (.node x39 (.node (tO #[.str "word" 892,.str "opens" 893,.str "talk" 894,.str "sign" 895]) .nil .nil) .nil) (.node x4 (.node (gM (tp 74) "run" "run") .nil .nil) .nil)) (.node (rM 209 206 m0) (.node x3 (.node x4 .nil .nil) .nil) (.node x5 .nil .nil)))
def HQ (P:Params):BT:=(.node (sO 113) (.node (cK "TooMany" 400 41 176 403) (.node x4 (.node x110 .nil .nil) .nil) (.node (gM (tp 37) "feed" "feed") .nil .nil)) (.node x9 (.node (tO #[.str "name" 667]) (.node x4 .nil .nil) .nil) (.node x91 .nil .nil)))
def HP (P:Params):BT:=(.node x5 (.node x4 (.node (cK "Astray" 516 63 264 519) (.node x5 .nil .nil) .nil) (.node x4 (.node x4 .nil .nil) .nil)) (.node (sO 201) (.node x50 (.node (tO #[.str "word" 972,.str "opens" 973,.str "talk" 974,.str "sign" 975]) .nil .nil) .nil) (.node x4 .nil .nil)))
def HN (P:Params):BT:=(.node (tO #[.str "self" 313,.str "at" 314]) (.node x27 (.node (mz 296) (.node x107 .nil .nil) .nil) (.node x4 .nil .nil)) (.node (gM (tc 13 0) "__init__" "Ringed.__init__") (.node (rM 361 358 m0) (.node x126 .nil .nil) .nil) (.node (gM (tp 48) "mark_ended" "mark_ended") .nil .nil)))
def HM (P:Params):BT:=(.node (cK "Unended" 284 19 88 287) (.node x9 (.node (m9 P 548 m0 "NoPlace" 69 561 293 564 294) (.node x4 .nil .nil) .nil) (.node x5 (.node x140 .nil .nil) .nil)) (.node (tO #[.str "ring" 459]) (.node (tO #[.str "self" 637,.str "name" 638]) (.node (gM (tp 64) "at_qmark" "at_qmark") .nil .nil) .nil) (.node (tO #[.str "opens" 815,.str "sign" 816,.str "events" 817]) .nil .nil)))
def HL (P:Params):BT:=(.node (rM 121 118 m0) (.node x3 (.node (x48 P) (.node x4 .nil .nil) .nil) (.node x75 .nil .nil)) (.node x5 (.node x4 (.node x5 .nil .nil) .nil) (.node x94 .nil .nil)))
def HJ (P:Params):BT:=(.node (pO #[.int 16 0,.int 4 0,.ref 78]) (.node (mz 132) (.node x3 (.node (gM (tp 52) "at_name" "at_name") .nil .nil) .nil) (.node x4 (.node x135 .nil .nil) .nil)) (.node (fM (tc 11 0) "__init__" "Unknown.__init__" m0 197) (.node x5 (.node x115 .nil .nil) .nil) (.node x4 .nil .nil)))
def IV (P:Params):BT:=(.node (cK "NoPage" 300 21 100 303) (.node (cS "__init__" "Twice.__init__" 385 38 2 161 390) (.node (tO #[.str "name" 562,.str "place" 563]) (.node x5 .nil .nil) .nil) (.node x70 .nil .nil)) (.node x4 (.node (m9 P 654 m0 "NoKind" 92 666 369 668 370) (.node (tO #[.str "word" 1012,.str "opens" 1013,.str "talk" 1014,.str "sign" 1015]) .nil .nil) .nil) (.node x4 .nil .nil)))
def IU (P:Params):BT:=(.node x3 (.node (x24 P) (.node (sO 277) (.node x102 .nil .nil) .nil) (.node (gM (tp 32) "place_of" "place_of") (.node x5 .nil .nil) .nil)) (.node x4 (.node (cK "NoValue" 624 87 340 627) (.node x4 .nil .nil) .nil) (.node x83 .nil .nil)))
def IT (P:Params):BT:=(.node (m9 P 330 m0 "NoName" 26 342 129 344 130) (.node x29 (.node (gM (tc 17 0) "__init__" "Unlike.__init__") (.node x4 .nil .nil) .nil) (.node x5 .nil .nil)) (.node (pO #[.int 60 0,.int 4 0,.ref 254]) (.node (mz 372) (.node x130 .nil .nil) .nil) (.node (tO #[.str "word" 852,.str "opens" 853,.str "talk" 854,.str "sign" 855]) .nil .nil)))
def IS (P:Params):BT:=(.node x14 (.node x4 (.node (tO #[.str "self" 529,.str "place" 530,.str "at" 531]) (.node x99 .nil .nil) .nil) (.node (gM (tp 28) "sign_told" "sign_told") (.node x4 .nil .nil) .nil)) (.node (m9 P 446 m0 "RingOver" 48 458 217 460 218) (.node x53 (.node x118 .nil .nil) .nil) (.node (gM (tp 44) "box_shut" "box_shut") .nil .nil)))
def IQ (P:Params):BT:=(.node (fM (tc 6 0) "__init__" "NoPage.__init__" m0 109) (.node x3 (.node x4 (.node (tO #[.str "word" 932,.str "opens" 933,.str "talk" 934,.str "sign" 935]) .nil .nil) .nil) (.node x4 .nil .nil)) (.node (x34 P) (.node x4 (.node x4 .nil .nil) .nil) (.node x5 .nil .nil)))
def IP (P:Params):BT:=(.node x19 (.node (pO #[.int 38 0,.int 4 0,.ref 166]) (.node (rM 285 282 m0) (.node x4 .nil .nil) .nil) (.node x67 (.node (tO #[.str "state" 1124]) .nil .nil) .nil)) (.node (mz 220) (.node (fM (tc 19 0) "__init__" "NoValue.__init__" m0 349) (.node x5 .nil .nil) .nil) (.node x86 .nil .nil)))
def IM (P:Params):BT:=(.node x4 (.node (cK "Unknown" 416 43 188 419) (.node x9 (.node (gM (tp 60) "at_code" "at_code") .nil .nil) .nil) (.node (tO #[.str "mode" 778,.str "opens" 779,.str "sign" 780]) .nil .nil)) (.node (cS "__init__" "NoElder.__init__" 501 60 2 249 506) (.node x4 (.node x132 .nil .nil) .nil) (.node x4 .nil .nil)))
def tr0 (P:Params):BT:=(.node (boot_o_0 P) (.node (boot_o_1 P) (.node (x0 P) (.node (boot_o_7 P) (.node x2 (.node x4 (Cc P) (Cb P)) (.node x9 (Ca P) (BZ P))) (.node (x6 P) (.node (gM (tc 2 0) "__init__" "NoSign.__init__") (BY P) (BX P)) (.node x5 (BW P) (BV P)))) (.node (FJ P) (.node x5 (.node x4 (BU P) (BS P)) (.node (pO #[.int 11 0,.int 4 0,.ref 59]) (Ma P) (L9 P))) (.node (mz 24) (.node (x10 P) (L8 P) (L7 P)) (.node (cS "__init__" "NoCode.__init__" 244 11 2 54 249) (L6 P) (L5 P))))) (.node (boot_o_5 P) (.node (boot_o_9 P) (.node (dO #[en P "__module__" 196 (.str "sealpress.errors" 187),en P "__qualname__" 198 (.str "SealError" 197),en P "__firstlineno__" 200 (.int 2 199),en P "__static_attributes__" 201 (.ref 22)] 4) (.node (cK "NoSign" 209 4 31 212) (L3 P) (LZ P)) (.node (m9 P 239 m0 "NoCode" 9 251 60 253 61) (LY P) (LX P))) (.node x8 (.node (fM (tc 2 0) "__init__" "NoSign.__init__" m0 40) (LW P) (MC P)) (.node x4 (MB P) (MA P)))) (.node (FI P) (.node (rM 20 17 m0) (.node (tO #[.str "self" 222,.str "at" 223]) (Mz P) (Mx P)) (.node (rM 52 49 m0) (Mw P) (Mv P))) (.node x3 (.node (sO 44) (Mu P) (Mt P)) (.node (tO #[.str "at" 252]) (Mr P) (Io P)))))) (.node (boot_o_2 P) (.node (boot_o_4 P) (.node (boot_o_8 P) (.node x3 (.node (pO #[.int 6 0,.int 4 0,.ref 40]) (Im P) (Il P)) (.node x3 (Ik P) (Ij P))) (.node x7 (.node (cS "__init__" "NoSign.__init__" 219 6 2 35 224) (Ii P) (Ih P)) (.node (tO #[.str "self" 247,.str "at" 248]) (Ig P) (Ie P)))) (.node x1 (.node (cK "SealError" 191 2 18 194) (.node x5 (Ic P) (Ib P)) (.node (cK "NoCode" 234 9 50 237) (Ia P) (HZ P))) (.node x9 (.node x11 (HY P) (HX P)) (.node (fM (tc 3 0) "__init__" "NoCode.__init__" m0 59) (HW P) (HV P))))) (.node (boot_o_6 P) (.node (boot_o_10 P) (.node x4 (.node (rM 33 30 m0) (HU P) (HS P)) (.node x4 (HR P) (HQ P))) (.node (sO 24) (.node (tO #[.str "at" 227]) (HP P) (HN P)) (.node (gM (tc 3 0) "__init__" "NoCode.__init__") (HM P) (HL P)))) (.node (FH P) (.node x4 (.node x4 (HJ P) (IV P)) (.node x4 (IU P) (IT P))) (.node (m9 P 214 m0 "NoSign" 4 226 41 228 42) (.node (mz 44) (IS P) (IQ P)) (.node (x12 P) (IP P) (IM P)))))))
noncomputable def _root_.PySem.W.Fast.tw6547229071341507409:=@tr0
theorem _root_.PySem.W.Fast.te6547229071341507409:@tr0=@_root_.PySem.W.Fast.tw6547229071341507409:=rfl
def oY (w:World)(os:OsState):SharedT:=⟨tr0 w.params,675,{},#[],{},1130,os⟩
def Au:List Stmt:=Vm.take 78
def n6:List Stmt:=Vm.drop 78
def pjA:=λ(r:Flow×SharedT×Code×Pos)=>(λx=>x.1) (Wt r)
def YV (w:World)(os:OsState):=(segRunT treeTable pw w 11 lA 1 1829 (oY w os) (piecesOf n6 iR cE (⟨313,0,313,8⟩:Pos) B0)).map pjA
def YW (_:World)(_:OsState):=some ((λx=>x.1) (openGood mY iK))
theorem OI:@YV = @YV:=rfl
theorem OH:@YW = @YW:=rfl
name_quick lhsGAQ for My.YV by My.OI
name_quick rhsGAQ for My.YW by My.OH
theorem IL (w:World):PySem.W.Fast.lhsGAQ (w.withFollow "special-get-raises" false)=PySem.W.Fast.rhsGAQ (w.withFollow "special-get-raises" false):=by kernel_rfl
theorem IK (w:World):PySem.W.Fast.lhsGAQ (w.withFollow "special-get-raises" true)=PySem.W.Fast.rhsGAQ (w.withFollow "special-get-raises" true):=by kernel_rfl
theorem CB (w:World):PySem.W.Fast.lhsGAQ w=PySem.W.Fast.rhsGAQ w:=byRow2 "special-get-raises" (P:=λw=>PySem.W.Fast.lhsGAQ w=PySem.W.Fast.rhsGAQ w) IL IK w
theorem Su (w:World):YV w=YW w:=(congrFun PySem.W.Fast.lhsGAQ_eq w).trans ((CB w).trans (congrFun PySem.W.Fast.rhsGAQ_eq w).symm)
def pjB:=λ(r:Flow×SharedT×Code×Pos)=>(λx=>x.2.1) (Wt r)
def YX (w:World)(os:OsState):=(segRunT treeTable pw w 11 lA 1 1829 (oY w os) (piecesOf n6 iR cE (⟨313,0,313,8⟩:Pos) B0)).map pjB
def YY (_:World)(_:OsState):=some ((λx=>x.2.1) (openGood mY iK))
theorem OG:@YX = @YX:=rfl
theorem OF:@YY = @YY:=rfl
name_quick lhsGBQ for My.YX by My.OG
name_quick rhsGBQ for My.YY by My.OF
theorem IJ (w:World):PySem.W.Fast.lhsGBQ (w.withFollow "special-get-raises" false)=PySem.W.Fast.rhsGBQ (w.withFollow "special-get-raises" false):=by kernel_rfl
theorem II (w:World):PySem.W.Fast.lhsGBQ (w.withFollow "special-get-raises" true)=PySem.W.Fast.rhsGBQ (w.withFollow "special-get-raises" true):=by kernel_rfl
theorem CA (w:World):PySem.W.Fast.lhsGBQ w=PySem.W.Fast.rhsGBQ w:=byRow2 "special-get-raises" (P:=λw=>PySem.W.Fast.lhsGBQ w=PySem.W.Fast.rhsGBQ w) IJ II w
theorem Ss (w:World):YX w=YY w:=(congrFun PySem.W.Fast.lhsGBQ_eq w).trans ((CA w).trans (congrFun PySem.W.Fast.rhsGBQ_eq w).symm)
def pjC:=λ(r:Flow×SharedT×Code×Pos)=>(λx=>x.2.2.1) (Wt r)
def YZ (w:World)(os:OsState):=(segRunT treeTable pw w 11 lA 1 1829 (oY w os) (piecesOf n6 iR cE (⟨313,0,313,8⟩:Pos) B0)).map pjC
def Y0 (_:World)(_:OsState):=some ((λx=>x.2.2.1) (openGood mY iK))
theorem Po:@YZ = @YZ:=rfl
theorem Pn:@Y0 = @Y0:=rfl
name_quick lhsGCQ for My.YZ by My.Po
name_quick rhsGCQ for My.Y0 by My.Pn
theorem IH (w:World):PySem.W.Fast.lhsGCQ (w.withFollow "special-get-raises" false)=PySem.W.Fast.rhsGCQ (w.withFollow "special-get-raises" false):=by kernel_rfl
theorem IG (w:World):PySem.W.Fast.lhsGCQ (w.withFollow "special-get-raises" true)=PySem.W.Fast.rhsGCQ (w.withFollow "special-get-raises" true):=by kernel_rfl
theorem Cz (w:World):PySem.W.Fast.lhsGCQ w=PySem.W.Fast.rhsGCQ w:=byRow2 "special-get-raises" (P:=λw=>PySem.W.Fast.lhsGCQ w=PySem.W.Fast.rhsGCQ w) IH IG w
theorem Sr (w:World):YZ w=Y0 w:=(congrFun PySem.W.Fast.lhsGCQ_eq w).trans ((Cz w).trans (congrFun PySem.W.Fast.rhsGCQ_eq w).symm)
def pjD:=λ(r:Flow×SharedT×Code×Pos)=>(λx=>x.2.2.2.1) (Wt r)
def Y1 (w:World)(os:OsState):=(segRunT treeTable pw w 11 lA 1 1829 (oY w os) (piecesOf n6 iR cE (⟨313,0,313,8⟩:Pos) B0)).map pjD
def Y2 (_:World)(_:OsState):=some ((λx=>x.2.2.2.1) (openGood mY iK))
theorem Pm:@Y1 = @Y1:=rfl
theorem Pl:@Y2 = @Y2:=rfl
name_quick lhsGDQ for My.Y1 by My.Pm
name_quick rhsGDQ for My.Y2 by My.Pl
theorem IF (w:World):PySem.W.Fast.lhsGDQ (w.withFollow "special-get-raises" false)=PySem.W.Fast.rhsGDQ (w.withFollow "special-get-raises" false):=by kernel_rfl
theorem IE (w:World):PySem.W.Fast.lhsGDQ (w.withFollow "special-get-raises" true)=PySem.W.Fast.rhsGDQ (w.withFollow "special-get-raises" true):=by kernel_rfl
theorem Cy (w:World):PySem.W.Fast.lhsGDQ w=PySem.W.Fast.rhsGDQ w:=byRow2 "special-get-raises" (P:=λw=>PySem.W.Fast.lhsGDQ w=PySem.W.Fast.rhsGDQ w) IF IE w
theorem Sq (w:World):Y1 w=Y2 w:=(congrFun PySem.W.Fast.lhsGDQ_eq w).trans ((Cy w).trans (congrFun PySem.W.Fast.rhsGDQ_eq w).symm)
def pjE:=λ(r:Flow×SharedT×Code×Pos)=>(λx=>x.2.2.2.2.1) (Wt r)
def Y3 (w:World)(os:OsState):=(segRunT treeTable pw w 11 lA 1 1829 (oY w os) (piecesOf n6 iR cE (⟨313,0,313,8⟩:Pos) B0)).map pjE
def Y4 (_:World)(_:OsState):=some ((λx=>x.2.2.2.2.1) (openGood mY iK))
theorem Pk:@Y3 = @Y3:=rfl
theorem Pj:@Y4 = @Y4:=rfl
name_quick lhsGEQ for My.Y3 by My.Pk
name_quick rhsGEQ for My.Y4 by My.Pj
theorem ID (w:World):PySem.W.Fast.lhsGEQ (w.withFollow "special-get-raises" false)=PySem.W.Fast.rhsGEQ (w.withFollow "special-get-raises" false):=by kernel_rfl
theorem IC (w:World):PySem.W.Fast.lhsGEQ (w.withFollow "special-get-raises" true)=PySem.W.Fast.rhsGEQ (w.withFollow "special-get-raises" true):=by kernel_rfl
theorem Cw (w:World):PySem.W.Fast.lhsGEQ w=PySem.W.Fast.rhsGEQ w:=byRow2 "special-get-raises" (P:=λw=>PySem.W.Fast.lhsGEQ w=PySem.W.Fast.rhsGEQ w) ID IC w
theorem So (w:World):Y3 w=Y4 w:=(congrFun PySem.W.Fast.lhsGEQ_eq w).trans ((Cw w).trans (congrFun PySem.W.Fast.rhsGEQ_eq w).symm)
def pjF:=λ(r:Flow×SharedT×Code×Pos)=>(λx=>x.2.2.2.2.2.1) (Wt r)
def Y5 (w:World)(os:OsState):=(segRunT treeTable pw w 11 lA 1 1829 (oY w os) (piecesOf n6 iR cE (⟨313,0,313,8⟩:Pos) B0)).map pjF
def Y6 (_:World)(_:OsState):=some ((λx=>x.2.2.2.2.2.1) (openGood mY iK))
theorem Ph:@Y5 = @Y5:=rfl
theorem Pg:@Y6 = @Y6:=rfl
name_quick lhsGFQ for My.Y5 by My.Ph
name_quick rhsGFQ for My.Y6 by My.Pg
theorem IA (w:World):PySem.W.Fast.lhsGFQ (w.withFollow "special-get-raises" false)=PySem.W.Fast.rhsGFQ (w.withFollow "special-get-raises" false):=by kernel_rfl
theorem Iz (w:World):PySem.W.Fast.lhsGFQ (w.withFollow "special-get-raises" true)=PySem.W.Fast.rhsGFQ (w.withFollow "special-get-raises" true):=by kernel_rfl
theorem Cv (w:World):PySem.W.Fast.lhsGFQ w=PySem.W.Fast.rhsGFQ w:=byRow2 "special-get-raises" (P:=λw=>PySem.W.Fast.lhsGFQ w=PySem.W.Fast.rhsGFQ w) IA Iz w
theorem Sn (w:World):Y5 w=Y6 w:=(congrFun PySem.W.Fast.lhsGFQ_eq w).trans ((Cv w).trans (congrFun PySem.W.Fast.rhsGFQ_eq w).symm)
def pjG:=λ(r:Flow×SharedT×Code×Pos)=>(λx=>x.2.2.2.2.2.2.1) (Wt r)
def Y7 (w:World)(os:OsState):=(segRunT treeTable pw w 11 lA 1 1829 (oY w os) (piecesOf n6 iR cE (⟨313,0,313,8⟩:Pos) B0)).map pjG
def Y8 (_:World)(_:OsState):=some ((λx=>x.2.2.2.2.2.2.1) (openGood mY iK))
theorem Pf:@Y7 = @Y7:=rfl
theorem Pe:@Y8 = @Y8:=rfl
name_quick lhsGGQ for My.Y7 by My.Pf
name_quick rhsGGQ for My.Y8 by My.Pe
theorem Iy (w:World):PySem.W.Fast.lhsGGQ (w.withFollow "special-get-raises" false)=PySem.W.Fast.rhsGGQ (w.withFollow "special-get-raises" false):=by kernel_rfl
theorem Iw (w:World):PySem.W.Fast.lhsGGQ (w.withFollow "special-get-raises" true)=PySem.W.Fast.rhsGGQ (w.withFollow "special-get-raises" true):=by kernel_rfl
theorem Cu (w:World):PySem.W.Fast.lhsGGQ w=PySem.W.Fast.rhsGGQ w:=byRow2 "special-get-raises" (P:=λw=>PySem.W.Fast.lhsGGQ w=PySem.W.Fast.rhsGGQ w) Iy Iw w
theorem Sm (w:World):Y7 w=Y8 w:=(congrFun PySem.W.Fast.lhsGGQ_eq w).trans ((Cu w).trans (congrFun PySem.W.Fast.rhsGGQ_eq w).symm)
def pjH:=λ(r:Flow×SharedT×Code×Pos)=>(λx=>x.2.2.2.2.2.2.2) (Wt r)
def Y9 (w:World)(os:OsState):=(segRunT treeTable pw w 11 lA 1 1829 (oY w os) (piecesOf n6 iR cE (⟨313,0,313,8⟩:Pos) B0)).map pjH
def Ka (_:World)(_:OsState):=some ((λx=>x.2.2.2.2.2.2.2) (openGood mY iK))
theorem Pb:@Y9 = @Y9:=rfl
theorem Pa:@Ka = @Ka:=rfl
name_quick lhsGHQ for My.Y9 by My.Pb
name_quick rhsGHQ for My.Ka by My.Pa
theorem Iv (w:World):PySem.W.Fast.lhsGHQ (w.withFollow "special-get-raises" false)=PySem.W.Fast.rhsGHQ (w.withFollow "special-get-raises" false):=by kernel_rfl
theorem Iu (w:World):PySem.W.Fast.lhsGHQ (w.withFollow "special-get-raises" true)=PySem.W.Fast.rhsGHQ (w.withFollow "special-get-raises" true):=by kernel_rfl
theorem Ct (w:World):PySem.W.Fast.lhsGHQ w=PySem.W.Fast.rhsGHQ w:=byRow2 "special-get-raises" (P:=λw=>PySem.W.Fast.lhsGHQ w=PySem.W.Fast.rhsGHQ w) Iv Iu w
theorem S4 (w:World):Y9 w=Ka w:=(congrFun PySem.W.Fast.lhsGHQ_eq w).trans ((Ct w).trans (congrFun PySem.W.Fast.rhsGHQ_eq w).symm)
def Ag (w:World)(os:OsState):=segRunT treeTable pw w 11 lA 1 6765 (sB w os) (piecesOf Au iR cE mn B0)
def Af (w:World)(os:OsState):Option (Flow×SharedT×Code×Pos):=some (Flow.next,oY w os,cE,(⟨313,0,313,8⟩:Pos))
theorem O9:@Ag = @Ag:=rfl
theorem O8:@Af = @Af:=rfl
name_quick lhsC0Q for My.Ag by My.O9
name_quick rhsC0Q for My.Af by My.O8
theorem Ir (w:World):PySem.W.Fast.lhsC0Q (w.withFollow "special-get-raises" false)=PySem.W.Fast.rhsC0Q (w.withFollow "special-get-raises" false):=by kernel_rfl
theorem Iq (w:World):PySem.W.Fast.lhsC0Q (w.withFollow "special-get-raises" true)=PySem.W.Fast.rhsC0Q (w.withFollow "special-get-raises" true):=by kernel_rfl
theorem CC (w:World):PySem.W.Fast.lhsC0Q w=PySem.W.Fast.rhsC0Q w:=byRow2 "special-get-raises" (P:=λw=>PySem.W.Fast.lhsC0Q w=PySem.W.Fast.rhsC0Q w) Ir Iq w
theorem S2 (w:World):Ag w=Af w:=(congrFun PySem.W.Fast.lhsC0Q_eq w).trans ((CC w).trans (congrFun PySem.W.Fast.rhsC0Q_eq w).symm)
def lhs (w:World)(os:OsState):=(segRunT treeTable pw w 11 lA 1 1829 (oY w os) (piecesOf n6 iR cE (⟨313,0,313,8⟩:Pos) B0)).map (Dv w)
def rhs (w:World)(_:OsState):=some (Flow.next,cE,true,sU w)
theorem Ip:@lhs = @lhs:=rfl
theorem Lq:@rhs = @rhs:=rfl
name_quick lhsQ for My.lhs by My.Ip
name_quick rhsQ for My.rhs by My.Lq
theorem krf (w:World):PySem.W.Fast.lhsQ (w.withFollow "special-get-raises" false)=PySem.W.Fast.rhsQ (w.withFollow "special-get-raises" false):=by kernel_rfl
theorem krt (w:World):PySem.W.Fast.lhsQ (w.withFollow "special-get-raises" true)=PySem.W.Fast.rhsQ (w.withFollow "special-get-raises" true):=by kernel_rfl
theorem kr (w:World):PySem.W.Fast.lhsQ w=PySem.W.Fast.rhsQ w:=byRow2 "special-get-raises" (P:=λw=>PySem.W.Fast.lhsQ w=PySem.W.Fast.rhsQ w) krf krt w
theorem O7 (w:World):lhs w=rhs w:=(congrFun PySem.W.Fast.lhsQ_eq w).trans ((kr w).trans (congrFun PySem.W.Fast.rhsQ_eq w).symm)
def pK (w:World)(os:OsState):=topGo treeTable pw w 11 lA 12 ⟨boot_heap w.params,#[],boot_drawn,boot_toks,os⟩ (topStub pw)
def pC (w:World)(os:OsState):Option (Shared×Thread):=some ((sB w os).abs,⟨denote treeTable cE,cE,mn,B0⟩)
theorem Nh:@pK = @pK:=rfl
theorem Ng:@pC = @pC:=rfl
name_quick lhs1Q for My.pK by My.Nh
name_quick rhs1Q for My.pC by My.Ng
theorem kr1 (w:World):PySem.W.Fast.lhs1Q w=PySem.W.Fast.rhs1Q w:=by kernel_rfl
theorem Lo (w:World):pK w=pC w:=(congrFun PySem.W.Fast.lhs1Q_eq w).trans ((kr1 w).trans (congrFun PySem.W.Fast.rhs1Q_eq w).symm)
def pJ (w:World)(os:OsState):=segRun treeTable pw w 11 lA 1 1 (sB w os).abs (blockOf Vm iR cE mn B0)
def pB (w:World)(os:OsState):Option (Flow×Shared×Code×Pos):=some (.next,(sB w os).abs,cE,mn)
theorem Nf:@pJ = @pJ:=rfl
theorem Nd:@pB = @pB:=rfl
name_quick lhs2Q for My.pJ by My.Nf
name_quick rhs2Q for My.pB by My.Nd
theorem kr2 (w:World):PySem.W.Fast.lhs2Q w=PySem.W.Fast.rhs2Q w:=by kernel_rfl
theorem Ln (w:World):pJ w=pB w:=(congrFun PySem.W.Fast.lhs2Q_eq w).trans ((kr2 w).trans (congrFun PySem.W.Fast.rhs2Q_eq w).symm)
noncomputable def pI (w:World):Bool×Nat×Option Value:=((boot_heap w.params).isNs mainGlobals&&(#[]:Array GenState).size == 0,(boot_heap w.params).objs.size,(boot_heap w.params).nsMap mainGlobals "__annotations__")
theorem Nc:@pI = @pI:=rfl
name_quick lhs3Q for My.pI by My.Nc
theorem kr3 (w:World):PySem.W.Fast.lhs3Q w=(true,11,lA):=by kernel_rfl
theorem Lm (w:World):pI w=(true,11,lA):=(congrFun PySem.W.Fast.lhs3Q_eq w).trans (kr3 w)
theorem CO (w:World)(s:Shared)(q:Pos):topRun treeTable pw w 11 lA 2 s (restOf [] iR cE q B0)=some s:=rfl
theorem O6:Vm=Au++(n6++[]):=by rw [uj];unfold Au n6;exact(UO _ _).symm
theorem O5 (w:World)(os:OsState):∃ s:Shared,topRun treeTable pw w 11 lA (12+(1+(6765+(1829+2)))) ⟨boot_heap w.params,#[],boot_drawn,boot_toks,os⟩ (topStub pw)=some s /\ (staticsOk mods (boot_heap w.params) s.heap&&namesBound pw s.heap&&gensDone s&&laidKept (boot_heap w.params) s.heap)=true/\openSeen mY iK mods tX true s=openGood mY iK/\tN s=sU w:=by
 obtain⟨⟨f,s,c,q⟩,hr,hF⟩:=uT.mp (congrFun (O7 w) os);unfold Dv at hF;simp only [Uz] at hF;obtain⟨rfl,rfl,h1,h3⟩:=hF;have h2:openSeen mY iK mods tX true s.abs=openGood mY iK:=by have hA:=congrFun (Su w) os;unfold YV YW at hA;rw [hr,uX] at hA;have hA:=uH hA;have hB:=congrFun (Ss w) os;unfold YX YY at hB;rw [hr,uX] at hB;have hB:=uH hB;have hC:=congrFun (Sr w) os;unfold YZ Y0 at hC;rw [hr,uX] at hC;have hC:=uH hC;have hD:=congrFun (Sq w) os;unfold Y1 Y2 at hD;rw [hr,uX] at hD;have hD:=uH hD;have hE:=congrFun (So w) os;unfold Y3 Y4 at hE;rw [hr,uX] at hE;have hE:=uH hE;have hF:=congrFun (Sn w) os;unfold Y5 Y6 at hF;rw [hr,uX] at hF;have hF:=uH hF;have hG:=congrFun (Sm w) os;unfold Y7 Y8 at hG;rw [hr,uX] at hG;have hG:=uH hG;have hH:=congrFun (S4 w) os;unfold Y9 Ka at hH;rw [hr,uX] at hH;have hH:=uH hH;exact gF hA (gF hB (gF hC (gF hD (gF hE (gF hF (gF hG hH))))))
 refine⟨s.abs,?_,h1,h2,h3⟩;refine go_top (congrFun (Lo w) os) (piece_block (congrFun (Ln w) os) ?_);rw [show restOf Vm iR cE mn [topFrame mn]=restOf (Au++(n6++[])) iR cE mn [topFrame mn] from congrArg (λx=>restOf x iR cE mn [topFrame mn]) O6];exact(piece_app (segRun_of (congrFun (S2 w) os)) (piece_app (segRun_of hr) (CO w s.abs q)))
theorem Ll (w:World):(fencedOpening treeTable pw w 8709).map (λs=>(s.heap,s.gens,s.drawn,s.toks))=some (boot_heap w.params,Array.mk [],boot_drawn,boot_toks):=boot_open (p:=pw) (N:=8709) (by kernel_rfl) (by kernel_rfl) (λ_=>rfl) w
theorem left:LeftO pw mY iK tX HK.obs HK.val 8709:=L2.ou (M:=12+(1+(6765+(1829+2)))) (m0:=11) (ann:=lA) Ll Lm O5 (by decide)
end My
set_option maxHeartbeats 1000000
namespace L2
open PySem PySem.Spec PyProof.Rows
abbrev Key:=Sum Int Str
def W7:Key->Value->Bool
 | .inl k,v=>Value.isInt k v
 | .inr x,v=>Value.isStrOf x v
def tR (w:World):Key->Int
 | .inl k=>hashInt k
 | .inr x=>hashStr w x
theorem ja:∀ {k:Key} {v:Value},W7 k v=true->(∃ i t,k=Sum.inl i/\v=Value.int i t)\/(∃ x t,k=Sum.inr x/\v=Value.str x t)
 | .inl i,v,h=>by obtain⟨t,e⟩:=Value.isInt_shape (k:=i) (v:=v) h;exact .inl ⟨i,t,rfl,e⟩
 | .inr x,v,h=>by obtain⟨t,e⟩:=Value.isStrOf_shape (x:=x) (v:=v) h;exact .inr ⟨x,t,rfl,e⟩
theorem S1 (i:Int)(t:Tok):W7 (.inl i) (.int i t)=true:=by simp [W7,Value.isInt]
theorem SY (x:Str)(t:Tok):W7 (.inr x) (.str x t)=true:=by simp [W7,Value.isStrOf]
theorem Nb (a b:Int):decide ((Sum.inl a:Key)=Sum.inl b)=(a == b):=by
 by_cases e:a=b
 ·subst e;simp
 ·have h:¬ (Sum.inl a:Key)=Sum.inl b:=λq=>e (Sum.inl.inj q);rw [uF h];exact(uO.mpr e).symm
theorem Na (a b:Str):decide ((Sum.inr a:Key)=Sum.inr b)=decide (a=b):=by
 by_cases e:a=b
 ·subst e;simp
 ·have h:¬ (Sum.inr a:Key)=Sum.inr b:=λq=>e (Sum.inr.inj q);rw [uF h,uF e]
theorem M9 (a:Int)(b:Str):decide ((Sum.inl a:Key)=Sum.inr b)=false:=uF (λq=>nomatch q)
theorem M8 (a:Str)(b:Int):decide ((Sum.inr a:Key)=Sum.inl b)=false:=uF (λq=>nomatch q)
def qm (prog:Program)(w:World):PySem.KeyKind prog w Key where
 is:=W7
 hash:=tR w
 inj:=λv a b ha hb=>by
  rcases ja ha with⟨i,t,rfl,rfl⟩ | ⟨x,t,rfl,rfl⟩
  ·rcases ja hb with⟨j,u,rfl,e⟩ | ⟨y,u,rfl,e⟩
   ·injection e with e1 _;rw [e1]
   ·exact nomatch e
  ·rcases ja hb with⟨j,u,rfl,e⟩ | ⟨y,u,rfl,e⟩
   ·exact nomatch e
   ·injection e with e1 _;rw [e1]
 byValue:=λk v h=>by
  rcases ja h with⟨i,t,rfl,rfl⟩ | ⟨x,t,rfl,rfl⟩<;>rfl
 pyHash:=λhv h=>by
  rcases ja hv with⟨i,t,rfl,rfl⟩ | ⟨x,t,rfl,rfl⟩
  ·exact wpAny_pyHash_int h
  ·exact wpAny_pyHash_str h
 eqBool:=λhu hv h=>by
  rcases ja hu with⟨i,t,rfl,rfl⟩ | ⟨x,t,rfl,rfl⟩
  ·rcases ja hv with⟨j,u,rfl,rfl⟩ | ⟨y,u,rfl,rfl⟩
   ·rw [Nb] at h;exact wpAny_eqBool_int h
   ·rw [M9] at h;exact SeqAt.EqAt.int_str i t y u _ _ _ _ h
  ·rcases ja hv with⟨j,u,rfl,rfl⟩ | ⟨y,u,rfl,rfl⟩
   ·rw [M8] at h;exact SeqAt.EqAt.str_int x t j u _ _ _ _ h
   ·rw [Na] at h;exact wpAny_eqBool_str h
 «strs»:=λk x t v h=>by
  rcases ja h with⟨i,u,rfl,e⟩ | ⟨y,u,rfl,e⟩
  ·exact nomatch e
  ·injection e with e1 _
   subst e1
   cases v<;>rfl
theorem Kb (prog:Program)(w:World)(i:Int)(t:Tok):(qm prog w).is (.inl i) (.int i t)=true:=S1 i t
theorem Kc (prog:Program)(w:World)(x:Str)(t:Tok):(qm prog w).is (.inr x) (.str x t)=true:=SY x t
inductive V where
 | non | bl (b:Bool) | int (i:Int) | str (x:Str) | byt (b:Array UInt8) | flt (b:UInt64) | ref (a:Addr) | ty (n:String)
 deriving DecidableEq
def RelV:V->Value->Prop
 | .non,u=>u=Value.none
 | .bl b,u=>u=Value.bool b
 | .int i,u=>∃ t,u=Value.int i t
 | .str x,u=>∃ t,u=Value.str x t
 | .byt b,u=>∃ t,u=Value.bytes b t
 | .flt b,u=>∃ t,u=Value.float b t
 | .ref a,u=>u=Value.ref a
 | .ty n,u=>u=Value.type n
abbrev Vals:List V->Lg->Prop:=Paired RelV
theorem Vals.length {xs:List V}{us:Lg}(r:Vals xs us):xs.length=us.length:=Paired.length r
theorem Vals.get:∀ {xs:List V} {us:Lg} {i:Nat} {x:V},Vals xs us->xs[i]? = some x->∃ u,us[i]? = some u/\RelV x u
 | _,_,_,_,.nil,e=>by simp at e
 | _,_,0,_,.cons r _,e=>by simp at e;subst e;exact⟨_,rfl,r⟩
 | _,_,i+1,x,.cons _ t,e=>by obtain⟨u,h1,h2⟩:=Vals.get (i:=i) (x:=x) t (by simpa using e);exact⟨u,by simpa using h1,h2⟩
theorem Vals.set (r:RelV x u):∀ {xs:List V} {us:Lg} (i:Nat),Vals xs us->Vals (xs.set i x) (us.set i u)
 | _,_,_,.nil=>.nil
 | _,_,0,.cons _ t=>.cons r t
 | _,_,i+1,.cons q t=>.cons q (Vals.set r i t)
theorem Vals.append:∀ {xs ys:List V} {us ws:Lg},Vals xs us->Vals ys ws->Vals (xs++ys) (us++ws)
 | _,_,_,_,.nil,s=>s
 | _,_,_,_,.cons r t,s=>.cons r (Vals.append t s)
theorem Vals.take:∀ {xs:List V} {us:Lg} (n:Nat),Vals xs us->Vals (xs.take n) (us.take n)
 | _,_,0,_=>.nil
 | _,_,_+1,.nil=>.nil
 | _,_,n+1,.cons r t=>.cons r (Vals.take n t)
theorem Vals.drop:∀ {xs:List V} {us:Lg} (n:Nat),Vals xs us->Vals (xs.drop n) (us.drop n)
 | _,_,0,r=>r
 | _,_,_+1,.nil=>.nil
 | _,_,n+1,.cons _ t=>Vals.drop n t
theorem Vals.none_of:∀ {xs:List V} {us:Lg} {i:Nat},Vals xs us->xs[i]? = none->us[i]? = none:=λ{xs us i} r e=>by have h1:=r.length;have h2:xs.length<=i:=UD.mp e;exact UD.mpr (by lia)
def iZ:Option V->Option Value->Prop
 | some v,some u=>RelV v u
 | none,none=>True
 | _,_=>False
def KV {κ:Type}:List (κ×V)->List (κ×Value)->Prop:=Paired λ(p:κ×V) (q:κ×Value)=>p.1=q.1/\RelV p.2 q.2
def kV:Key->V
 | .inl i=>.int i
 | .inr x=>.str x
inductive HO where
 | lst (xs:List V)
 | tup (xs:List V)
 | dK (kvs:List (Key×V)) | dT (kvs:List (List Key×V))
 | set (S:Int->Bool) (n:Nat)
 | ins (C dx:Addr) (fs:List (Str×V))
 | own (x:Addr)
 | xd (fs:List (Str×V))
 | met (f x:Addr)
 | rng (lo hi:Int)
 | frz (o:Obj) (u:HO)
 | tbl (ps:Array Value)
 | ext (φ:Heap->Prop)
abbrev Hp:=Addr->Option HO
def upd (H:Hp)(a:Addr)(o:HO):Hp:=λb=>if b=a then some o else H b
theorem zb:upd H a o a=some o:=by unfold upd;rw [ue rfl]
theorem zk (h:b≠a):upd H a o b=H b:=by unfold upd;rw [ub h]
theorem Q9:upd (upd H a o) a u=upd H a u:=by funext b;unfold upd;split<;>rfl
theorem Kd {H:Hp}{a b:Addr}{o u:HO}(h:H a=some o)(h':H b=some u)(d:o≠u):a≠b:=by intro e;subst e;rw [h] at h';exact d (uH h')
theorem zv {H:Hp}{a b:Addr}{o:HO}(h:H a=some o)(h':H b=none):a≠b:=by intro e;subst e;rw [h] at h';cases h'
section
variable (P:Program) (w:World)
def qC (H:Hp)(h:Heap)(a:Addr):HO->Prop
 | .lst xs=>xs.length<=sizeLine/\∃ (ij:Lg) (n:Nat),Vals xs ij/\h.get? a=some { cls:=.type "list",data:=.seq ij.toArray n }
 | .tup xs=>xs.length<=sizeLine/\∃ ij:Lg,Vals xs ij/\IsTup h a ij.toArray
 | .dK kvs=>kvs.length<=sizeLine/\(a == sysModules)=false/\∃ vs,KV kvs vs/\h.DictOf (qm P w) a vs
 | .dT kvs=>kvs.length<=sizeLine/\(a == sysModules)=false/\∃ xs:List (List Key×Addr×Value),
   Paired (λ(p:List Key×V) (q:List Key×Addr×Value)=>p.1=q.1/\H q.2.1=some (.tup (p.1.map kV))/\RelV p.2 q.2.2) kvs xs /\
   ∃ o es ep,h.get? a=some o/\o.ExactDict/\o.data=.dict es ep/\es.toList=xs.map (entryOfKey (tupleKind (qm P w)))/\(xs.map (·.1)).Nodup
 | .set S n=>h.SetOf (intKind P w) a S n
 | .ins C dx fs=>H dx=some (.own a)/\fs.length<=1000/\dx≠a/\h.get? a=some (PySem.W.instObj C dx) /\
   ∃ mA,h.Ns1 dx mA/\(∀ f,iZ (fs.lookup f) (mA f))/\PySem.Within mA (fs.map (·.1))
 | .own _=>∃ o,h.get? a=some o
 | .xd fs=>∃ mA,h.Ns1 a mA/\∀ f,iZ (fs.lookup f) (mA f)
 | .rng lo hi=>∃ t u v,h.get? a=some { cls:=.type "range",data:=.fields #[.int lo t,.int hi u,.int 1 v] }
 | .frz o u=>h.get? a=some o/\qC H h a u
 | .tbl ps=>h.get? a=some { cls:=.none,data:=.fields ps }
 | .met f x=>h.get? a=some (PySem.W.methodObj (.ref f) (.ref x))
 | .ext φ=>φ h/\(∃ o,h.get? a=some o)/\∀ h1 h2:Heap,φ h1->(∀ o,h1.get? a=some o->h2.get? a=some o)->φ h2
def lF (H:Hp)(h:Heap):Prop:=∀ a o,H a=some o->qC P w H h a o
end
section
variable {P:Program} {w:World} {H H':Hp} {h h':Heap} {a:Addr} {o:HO}
theorem qC.lt (x:qC P w H h a o):a<h.objs.size:=by
 cases o with
 | lst xs=>obtain⟨_,_,_,_,e⟩:=x;exact ug e
 | tup xs=>obtain⟨_,_,_,p⟩:=x;exact p.lt
 | dK kvs=>obtain⟨_,_,_,_,o,_,_,e,_⟩:=x;exact ug e
 | dT kvs=>obtain⟨_,_,_,_,o,_,_,e,_⟩:=x;exact ug e
 | set S n=>obtain⟨o,_,_,_,e,_⟩:=x;exact ug e
 | ins C dx fs=>obtain⟨_,_,_,e,_⟩:=x;exact ug e
 | own y=>obtain⟨_,e⟩:=x;exact ug e
 | xd fs=>obtain⟨_,⟨_,_,_,e,_⟩,_⟩:=x;exact ug e
 | rng lo hi=>obtain⟨_,_,_,e⟩:=x;exact ug e
 | frz ob u=>obtain⟨e,_⟩:=x;exact ug e
 | tbl ps=>exact ug (show h.get? a=some _ from x)
 | met f y=>exact ug (show h.get? a=some _ from x)
 | ext φ=>obtain⟨_,⟨_,e⟩,_⟩:=x;exact ug e
theorem Paired.mapP {α β:Type}{F G:α->β->Prop}:∀ {l₁:List α} {l₂:List β},Paired F l₁ l₂->(∀ a b,F a b->G a b)->Paired G l₁ l₂
 | _,_,.nil,_=>.nil
 | _,_,.cons r t,f=>.cons (f _ _ r) (Paired.mapP t f)
theorem qC.stay (x:qC P w H h a o)(k:∀ b u,(b=a\/H b=some (.own a))->h.get? b=some u->h'.get? b=some u) (ho:∀ b,H b=some (.own a)->H' b=some (.own a)) (ht:∀ b xs,H b=some (.tup xs)->H' b=some (.tup xs)):qC P w H' h' a o:=by
 induction o with
 | lst xs=>obtain⟨z,ij,n,r,e⟩:=x;exact⟨z,ij,n,r,k _ _ (.inl rfl) e⟩
 | tup xs=>obtain⟨z,ij,r,ob,e,c⟩:=x;exact⟨z,ij,r,ob,k _ _ (.inl rfl) e,c⟩
 | dK kvs=>obtain⟨z,y,vs,r,ob,es,ep,e,c⟩:=x;exact⟨z,y,vs,r,ob,es,ep,k _ _ (.inl rfl) e,c⟩
 | dT kvs=>obtain⟨z,y,xs,r,ob,es,ep,e,c⟩:=x;exact⟨z,y,xs,Paired.mapP r λp q z=>⟨z.1,ht _ _ z.2.1,z.2.2⟩,ob,es,ep,k _ _ (.inl rfl) e,c⟩
 | set S n=>obtain⟨ob,es,ep,t,e,c⟩:=x;exact⟨ob,es,ep,t,k _ _ (.inl rfl) e,c⟩
 | ins C dx fs=>obtain⟨d,z,ne,e,mA,⟨od,es,ep,e2,c⟩,r⟩:=x;exact⟨ho _ d,z,ne,k _ _ (.inl rfl) e,mA,⟨od,es,ep,k _ _ (.inr d) e2,c⟩,r⟩
 | own y=>obtain⟨ob,e⟩:=x;exact⟨ob,k _ _ (.inl rfl) e⟩
 | xd fs=>obtain⟨mA,⟨od,es,ep,e,c⟩,r⟩:=x;exact⟨mA,⟨od,es,ep,k _ _ (.inl rfl) e,c⟩,r⟩
 | rng lo hi=>obtain⟨t,u,v,e⟩:=x;exact⟨t,u,v,k _ _ (.inl rfl) e⟩
 | frz ob u ih=>obtain⟨e,q⟩:=x;exact⟨k _ _ (.inl rfl) e,ih q⟩
 | tbl ps=>have e:h.get? a=some { cls:=.none,data:=.fields ps }:=x;show h'.get? a=some { cls:=.none,data:=.fields ps };exact k a _ (.inl rfl) e
 | met f y=>have e:h.get? a=some (PySem.W.methodObj (.ref f) (.ref y)):=x;show h'.get? a=some (PySem.W.methodObj (.ref f) (.ref y));exact k a _ (.inl rfl) e
 | ext φ=>obtain⟨p,⟨o,e⟩,st⟩:=x;exact⟨st _ _ p λo q=>k _ _ (.inl rfl) q,⟨o,k _ _ (.inl rfl) e⟩,st⟩
theorem lF.lt (x:lF P w H h)(e:H a=some o):a<h.objs.size:=(x a o e).lt
theorem lF.fresh (x:lF P w H h)(e:h.objs.size<=a):H a=none:=by
 cases q:H a with
 | none=>rfl
 | some u=>exact absurd (uu (x.lt q) e) (u0 _)
theorem lF.kept (x:lF P w H h)(k:∀ b u,h.get? b=some u->h'.get? b=some u):lF P w H h':=λa o e=>
 (x a o e).stay (λb u _ q=>k b u q) (λ_ q=>q) λ_ _ q=>q
theorem lF.laid (x:lF P w H h)(k:∀ b u,h.get? b=some u->h'.get? b=some u)(hp:h.objs.size<=a)(new:qC P w (upd H a o) h' a o):lF P w (upd H a o) h':=λb u e=>by
 have hn:=x.fresh hp;by_cases hb:b=a
 ·subst hb;rw [zb] at e;cases e;exact new
 ·rw [zk hb] at e;exact(x b u e).stay (λc v _ q=>k c v q) (λc q=>by rw [zk (zv q hn)];exact q) λc xs q=>by rw [zk (zv q hn)];exact q
end
def Rd (H:Hp)(a:Addr)(u:HO):Prop:=H a=some u\/∃ o,H a=some (.frz o u)
theorem Rd.of (h:H a=some u):Rd H a u:=.inl h
theorem Rd.ok (r:Rd H a u)(x:lF P w H h):qC P w H h a u:=by
 rcases r with r | ⟨o,r⟩
 ·exact x a u r
 ·obtain⟨_,q⟩:=x a _ r;exact q
def Aa:Option HO->Prop
 | some (.lst _)=>True
 | some (.dK _)=>True
 | some (.dT _)=>True
 | some (.set _ _)=>True
 | some (.ins _ _ _)=>True
 | some (.ext _)=>True
 | _=>False
section
variable {P:Program} {w:World} {H:Hp} {h h':Heap} {x e:Addr} {o':HO}
theorem lF.write (ok:lF P w H h)(mu:Aa (H x))(he:e=x\/H e=some (.own x))(k:∀ b u,b≠e->h.get? b=some u->h'.get? b=some u)(heo:∃ u,h'.get? e=some u)
  (new:qC P w (upd H x o') h' x o'):lF P w (upd H x o') h':=λb u q=>by
 have nown:∀ c y,H c=some (.own y)->c≠x:=λc y r z=>by subst z;rw [r] at mu;exact mu
 have ntup:∀ c xs,H c=some (.tup xs)->c≠x:=λc xs r z=>by subst z;rw [r] at mu;exact mu
 by_cases hb:b=x
 ·subst hb;rw [zb] at q;cases q;exact new
 ·rw [zk hb] at q
  by_cases hbe:b=e
  ·have q':H b=some (.own x):=by
    rcases he with z | z
    ·exact absurd (hbe.trans z) hb
    ·rw [hbe];exact z
   rw [q] at q';cases q'
   obtain⟨v,hv⟩:=heo
   exact⟨v,by rw [hbe];exact hv⟩
  ·refine(ok b u q).stay (λc v hc r=>k c v ?_ r) (λc r=>by rw [zk (nown c b r)];exact r) λc xs r=>by rw [zk (ntup c xs r)];exact r
   rcases hc with rfl | hc
   ·exact hbe
   ·rintro rfl
    rcases he with z | z
    ·exact nown c b hc z
    ·rw [hc] at z;cases z;exact hb rfl
end
structure Un (fs ex:Le)(H H':Hp)(h h':Heap):Prop where
 keep:∀ b o,h.get? b=some o->H b=none->b∉fs->b∉ex->h'.get? b=some o
 slot:∀ b o,h.get? b=some o->H b=none->b∈fs->b∉ex->∃ sl,h'.get? b=some { o with slots:=sl }
 free:∀ b o,h.get? b=some o->H b=none->b∉ex->H' b=none
 there:∀ b o,h.get? b=some o->b∉ex->∃ o',h'.get? b=some o'
 tups:∀ b xs,H b=some (.tup xs)->H' b=some (.tup xs)
 frzs:∀ b o u,H b=some (.frz o u)->H' b=some (.frz o u)
 tbls:∀ b ps,H b=some (.tbl ps)->∃ more,H' b=some (.tbl (ps++more))
section
variable {fs fs' ex ex':Le} {H H1 H2:Hp} {h h1 h2 h':Heap} {a x e:Addr} {o:HO}
theorem Un.any (u:Un fs ex H H1 h h1)(q:h.get? b=some ob)(n:H b=none)(hx:b∉ex):∃ sl,h1.get? b=some { ob with slots:=sl }:=by
 by_cases hb:b∈fs
 ·exact u.slot b ob q n hb hx
 ·exact⟨ob.slots,u.keep b ob q n hb hx⟩
theorem Un.trans (a:Un fs ex H H1 h h1)(b:Un fs ex H1 H2 h1 h2):Un fs ex H H2 h h2 where
 keep:=λc ob q n hc hx=>b.keep c ob (a.keep c ob q n hc hx) (a.free c ob q n hx) hc hx
 slot:=λc ob q n hc hx=>by
  obtain⟨sl,e1⟩:=a.slot c ob q n hc hx
  obtain⟨sl',e2⟩:=b.slot c _ e1 (a.free c ob q n hx) hc hx
  exact⟨sl',e2⟩
 free:=λc ob q n hx=>by
  obtain⟨o',e1⟩:=a.there c ob q hx
  exact b.free c o' e1 (a.free c ob q n hx) hx
 there:=λc ob q hx=>by
  obtain⟨o',e1⟩:=a.there c ob q hx
  exact b.there c o' e1 hx
 tups:=λc xs q=>b.tups c xs (a.tups c xs q)
 frzs:=λc ob xs q=>b.frzs c ob xs (a.frzs c ob xs q)
 tbls:=λc ps q=>by
  obtain⟨m1,e1⟩:=a.tbls c ps q
  obtain⟨m2,e2⟩:=b.tbls c _ e1
  exact⟨m1++m2,by rw [e2,Array.append_assoc]⟩
theorem Un.kept (k:∀ b u,h.get? b=some u->h'.get? b=some u):Un fs ex H H h h':=
 ⟨λb ob q _ _ _=>k b ob q,λb ob q _ _ _=>⟨ob.slots,k b ob q⟩,λ_ _ _ n _=>n,λb ob q _=>⟨ob,k b ob q⟩,λ_ _ q=>q,λ_ _ _ q=>q,λ_ ps q=>⟨#[],by rw [q];simp⟩⟩
theorem Un.refl:Un fs ex H H h h:=Un.kept λ_ _ q=>q
theorem Un.laid (k:∀ b u,h.get? b=some u->h'.get? b=some u)(hp:h.objs.size<=a)(hn:H a=none):Un fs ex H (upd H a o) h h' where
 keep:=λb u q _ _ _=>k b u q
 slot:=λb u q _ _ _=>⟨u.slots,k b u q⟩
 free:=λb u q n _=>by rw [zk (Ug (uu (ug q) hp))];exact n
 there:=λb u q _=>⟨u,k b u q⟩
 tups:=λb xs q=>by rw [zk (zv q hn)];exact q
 frzs:=λb u xs q=>by rw [zk (zv q hn)];exact q
 tbls:=λb ps q=>⟨#[],by rw [zk (zv q hn),q];simp⟩
theorem Un.write (mu:Aa (H x))(he:e=x\/H e=some (.own x))(k:∀ b u,b≠e->h.get? b=some u->h'.get? b=some u)(heo:∃ u,h'.get? e=some u):Un fs ex H (upd H x o) h h':=by
 have hx:∀ b,H b=none->b≠x:=λb n z=>by subst z;rw [n] at mu;exact mu
 have hb:∀ b,H b=none->b≠e:=λb n z=>by
  subst z;rcases he with r | r
  ·exact hx b n r
  ·rw [n] at r;cases r
 have hm:∀ b u,H b=some u->¬ Aa (some u)->b≠x:=λb u q nm z=>by subst z;rw [q] at mu;exact nm mu
 refine⟨λb u q n _ _=>k b u (hb b n) q,λb u q n _ _=>⟨u.slots,k b u (hb b n) q⟩,λb u q n _=>by rw [zk (hx b n)];exact n,λb u q _=>?_,
  λb xs q=>by rw [zk (hm b _ q λz=>z)];exact q,λb u xs q=>by rw [zk (hm b _ q λz=>z)];exact q,λb ps q=>⟨#[],by rw [zk (hm b _ q λz=>z),q];simp⟩⟩
 by_cases hbe:b=e
 ·subst hbe;exact heo
 ·exact⟨u,k b u hbe q⟩
theorem Un.mono (u:Un fs ex H H1 h h1)(hs:∀ b∈fs,b∈fs')(hx:∀ b∈ex,b∈ex'):Un fs' ex' H H1 h h1:= ⟨λb ob q n hb he=>u.keep b ob q n (λz=>hb (hs b z)) λz=>he (hx b z),λ_ _ q n _ he=>u.any q n λz=>he (hx _ z),λb ob q n he=>u.free b ob q n λz=>he (hx b z),λb ob q he=>u.there b ob q λz=>he (hx b z),u.tups,u.frzs,u.tbls⟩
end
def An (h:Heap)(H:Hp):Le:=(List.range h.objs.size).filter λa=>(H a).isSome
def mM (h:Heap)(H:Hp):Heap:=PySem.W.hideAll h (An h H)
theorem SX (h:Heap)(H:Hp):(mM h H).objs.size=h.objs.size:=PySem.W.hideAll_size _ _
theorem Rx {h:Heap}(e:h.get? b=some o)(n:H b=none):(mM h H).get? b=some o:=
 PySem.W.hideAll_get _ e λhm=>by
  have q:(H b).isSome=true:=(List.mem_filter.mp hm).2
  rw [n] at q;simp at q
theorem O4 {h:Heap}(e:(mM h H).get? b=some o):h.get? b=some o/\H b=none:=by
 have e':h.get? b=some o:=PySem.W.of_hideAll (An h H) e;refine⟨e',?_⟩;cases q:H b with
 | none=>rfl
 | some x=>have hm:b∈An h H:=List.mem_filter.mpr ⟨Gh.mpr (ug e'),by simp [q]⟩;have z:(mM h H).get? b=none:=PySem.W.hideAll_none (An h H) hm;rw [z] at e;cases e
def O3 (g h:Heap)(L:Addr):Lp:=(List.range h.objs.size).filterMap λa=>if a=L\/(g.get? a).isSome=true then none else(h.get? a).map λo=>(a,o)
def rest (g h:Heap)(L d:Addr):Lp:=(O3 g h L).filter λp=>decide (p.1≠d)
structure Mod (K:Lf)(mg:La)(base:Heap):Prop where
 kin:K.In base
 glob:base.Ns mainGlobals mg
 blt:∃ mb,base.Ns builtinsNs mb/\∀ x:Str,x≠"__name__"->mb x=bootBuiltins x
 nolimit:base.NoLimit
structure Cx where
 prog:Program
 w:World
 K:Lf
 mg:Str->Option Value
 base:Heap
 A:Around
 N:Lj
 s₀:Shared
 H₀:Hp
 env:Env
 outer:List Env
 stack:List Env
 ex:Le
 fn:Str->Bool
 calm:Bool
 pn:Lp
 xe:fV
abbrev fW (X:Cx){α:Type}(m:Sem α)(Q:α->Shared->Prop)(E:fV)(s:Shared):Prop:=wpAny (model X.prog X.w) X.A m Q E s
def lY (l:List Env):Le:=l.filterMap (·.frame)
abbrev Cx.fs (X:Cx):Le:=lY X.outer
def Av (sc:Scope)(x:Str):Prop:=sc.names.lookup x=some .local\/sc.names.lookup x=some .cell\/sc.names.lookup x=some .free
def Loc (sc:Scope)(x:Str):Prop:=sc.names.lookup x=some .local\/sc.names.lookup x=some .cell
def Look (env:Env)(h:Heap)(m:La)(x:Str)(u:Value):Prop:= (env.kindOf x=some .local/\m x=some u)\/((env.kindOf x=some .cell\/env.kindOf x=some .free)/\∃ c,env.cells.lookup x=some c/\h.IsCell c (some u))
structure Cx.Ok (X:Cx):Prop where
 mod:Mod X.K X.mg X.base
 kind:X.env.scope.kind=.function
 glob:X.env.globals=mainGlobals
 blt:X.env.builtins=builtinsNs
 above:X.s₀.heap.objs.size<=X.env.locals
 inj:∀ x y c,X.env.cells.lookup x=some c->X.env.cells.lookup y=some c->x=y
 has:∀ x,(X.env.kindOf x=some .cell\/X.env.kindOf x=some .free)->∃ c,X.env.cells.lookup x=some c
 cab:∀ x c,X.fn x=true->X.env.cells.lookup x=some c->X.s₀.heap.objs.size<=c
 hd:X.calm=true->X.A.handled=none
 frames:X.A.frames=some X.stack
 stk:X.stack=X.outer\/(X.stack=X.env::X.outer/\X.env.frame=some X.env.locals)
 exf:∀ b∈X.ex,b≠X.env.locals/\∀ x c,X.env.cells.lookup x=some c->c≠b
 bs:∀ b o,X.base.get? b=some o->X.s₀.heap.get? b=some o/\X.H₀ b=none
 bsz:X.base.objs.size<=X.s₀.heap.objs.size
 noex:∀ b o,X.base.get? b=some o->b∉X.ex
 exfs:∀ b∈X.ex,b∉X.fs
 funs:X.s₀.heap.FunFrames X.base X.outer
 frf:∀ b∈X.fs,X.H₀ b=none
structure Inv (X:Cx)(pins:Lp)(σ:List (Option V))(H:Hp)(s:Shared):Prop where
 ok:X.Ok
 os:s.os=X.s₀.os
 bare:AllBare s.gens
 base:Un X.fs X.ex X.H₀ H X.s₀.heap s.heap
 loc:∃ m,s.heap.Ns X.env.locals m/\∀ (i:Nat) (x:Str) (v:V),X.N[i]? = some x->σ[i]? = some (some v)->Av X.env.scope x->∃ u,RelV v u/\Look X.env s.heap m x u
 cell:∀ x c,X.env.cells.lookup x=some c->∃ v,s.heap.IsCell c v
 free:H X.env.locals=none
 freeC:∀ x c,X.env.cells.lookup x=some c->H c=none
 pin:∀ p∈X.pn++pins,s.heap.get? p.1=some p.2/\H p.1=none/\p.1≠X.env.locals/\p.1∉X.fs/\∀ v,p.2.data≠.cell v
 hok:lF X.prog X.w H s.heap
 len:σ.length=X.N.length
section
variable {X:Cx} {pins:Lp} {σ:List (Option V)} {H H':Hp} {s:Shared} {h':Heap}
theorem Cx.Ok.nofr (ok:X.Ok)(e:X.base.get? b=some o):b∉X.fs:=λhb=>by have:=(ok.funs.mem hb).1;rw [e] at this;cases this
theorem Inv.bs (I:Inv X pins σ H s):∀ b o,X.base.get? b=some o->s.heap.get? b=some o/\H b=none:=λb o e=>
 ⟨I.base.keep b o (I.ok.bs b o e).1 (I.ok.bs b o e).2 (I.ok.nofr e) (I.ok.noex b o e),I.base.free b o (I.ok.bs b o e).1 (I.ok.bs b o e).2 (I.ok.noex b o e)⟩
theorem Inv.bk (I:Inv X pins σ H s):∀ b o,X.base.get? b=some o->s.heap.get? b=some o:=λb o e=>(I.bs b o e).1
theorem Inv.mod (I:Inv X pins σ H s):Mod X.K X.mg X.base:=I.ok.mod
theorem Inv.kIn (I:Inv X pins σ H s):X.K.In s.heap:=I.ok.mod.kin.keeps I.bk
theorem Inv.nolimit (I:Inv X pins σ H s):s.heap.NoLimit:=I.ok.mod.nolimit.keeps I.bk
theorem Inv.lt (I:Inv X pins σ H s):X.env.locals<s.heap.objs.size:=let ⟨_,hn,_⟩:=I.loc;hn.lt
theorem Inv.sz (I:Inv X pins σ H s):X.s₀.heap.objs.size<=s.heap.objs.size:=uI I.ok.above (gR I.lt)
theorem Inv.nofs (I:Inv X pins σ H s)(h:s.heap.objs.size<=a):a∉X.fs:=λhb=>by obtain⟨_,o,ho,_⟩:=I.ok.funs.mem hb;exact absurd (uu (ug ho) (uI I.sz h)) (u0 _)
theorem Inv.cne (I:Inv X pins σ H s):∀ x c,X.env.cells.lookup x=some c->c≠X.env.locals:=λx c e z=>by obtain⟨v,o,ho,hd⟩:=I.cell x c e;obtain⟨m,⟨o',es,ep,ho',hd',_⟩,_⟩:=I.loc;rw [z,ho'] at ho;cases ho;rw [hd'] at hd;cases hd
theorem Inv.funs (I:Inv X pins σ H s):s.heap.FunFrames X.base X.outer:=by
 have all:∀ (l:List Env),(∀ b∈lY l,b∈X.fs)->X.s₀.heap.FunFrames X.base l->s.heap.FunFrames X.base l:=by
  intro l
  induction l with
  | nil=>intro _ _;trivial
  | cons env r ih=>intro hs hl;obtain⟨hk,⟨L,o,hf,hn,ho,hd⟩,hr⟩:=hl;have hL:L∈X.fs:=hs L (by unfold lY;rw [gh,hf];exact Us);obtain⟨sl,e⟩:=I.base.slot L o ho (I.ok.frf L hL) hL λz=>I.ok.exfs L z hL;exact⟨hk,⟨L,_,hf,hn,e,hd⟩,ih (λb hb=>hs b (by unfold lY;rw [gh,hf];exact uN _ hb)) hr⟩
 exact all X.outer (λ_ hb=>hb) I.ok.funs
theorem Inv.stack (I:Inv X pins σ H s):s.heap.FunFrames X.base X.stack:=by
 rcases I.ok.stk with e | ⟨e,hf⟩
 ·rw [e];exact I.funs
 ·rw [e];obtain⟨m,hn,_⟩:=I.loc;refine .cons (by rw [I.ok.kind];decide) hf hn ?_ I.funs;exact gk (uI I.ok.bsz I.ok.above)
theorem Inv.stkSub (I:Inv X pins σ H s):∀ b∈lY X.stack,b∈X.env.locals::X.fs:=λb hb=>by
 rcases I.ok.stk with e | ⟨e,hf⟩
 ·rw [e] at hb;exact uN _ hb
 ·rw [e] at hb;unfold lY at hb;rw [gh,hf] at hb;exact hb
theorem Inv.stkFree (I:Inv X pins σ H s):∀ b∈lY X.stack,H b=none:=λb hb=>by
 rcases uq.mp (I.stkSub b hb) with e | hb
 ·rw [e];exact I.free
 ·obtain⟨_,o,ho,_⟩:=I.ok.funs.mem hb;exact I.base.free b o ho (I.ok.frf b hb) λz=>I.ok.exfs b z hb
theorem Inv.step {g':Array GenState}{t':Nat}{d':Drawn}{ch:Le}(I:Inv X pins σ H s) (hch:∀ b∈ch,(b∈X.ex\/X.s₀.heap.objs.size<=b)/\b≠X.env.locals/\(∀ x c,X.env.cells.lookup x=some c->c≠b)/\∀ p∈X.pn++pins,p.1≠b) (keep:∀ b o,b≠X.env.locals->b∉X.fs->b∉ch->s.heap.get? b=some o->H b=none->h'.get? b=some o) (slot:∀ b o,b≠X.env.locals->b∈X.fs->b∉ch->s.heap.get? b=some o->H b=none->∃ sl,h'.get? b=some { o with slots:=sl }) (free:∀ b o,b∉ch->s.heap.get? b=some o->H b=none->H' b=none) (there:∀ b o,b∉ch->s.heap.get? b=some o->∃ o',h'.get? b=some o') (tups:∀ b xs,H b=some (.tup xs)->H' b=some (.tup xs)) (frzs:∀ b o u,H b=some (.frz o u)->H' b=some (.frz o u)) (tbls:∀ b ps,H b=some (.tbl ps)->∃ more,H' b=some (.tbl (ps++more))) (ns:∀ m,s.heap.Ns X.env.locals m->h'.Ns X.env.locals m) (hok:lF X.prog X.w H' h') (hg:AllBare g') : Inv X pins σ H' { s with heap:=h',gens:=g',drawn:=d',toks:=t' }:=by
 have neL:∀ b o,X.s₀.heap.get? b=some o->b≠X.env.locals:=λb o e=>Ug (uu (ug e) I.ok.above)
 have neC:∀ b o,X.s₀.heap.get? b=some o->b∉X.ex->b∉ch:=λb o e hx hb=>by
  rcases(hch b hb).1 with z | z
  ·exact hx z
  ·exact absurd (uu (ug e) z) (u0 _)
 have cellK:∀ x c,X.env.cells.lookup x=some c->∀ v,s.heap.IsCell c v->h'.IsCell c v:=λx c e v ⟨o,ho,hd⟩=>by
  have nch:c∉ch:=λz=>(hch c z).2.2.1 x c e rfl;by_cases hc:c∈X.fs
  ·obtain⟨sl,q⟩:=slot c o (I.cne x c e) hc nch ho (I.freeC x c e);exact⟨_,q,hd⟩
  ·exact⟨o,keep c o (I.cne x c e) hc nch ho (I.freeC x c e),hd⟩
 refine⟨I.ok,I.os,hg,⟨λb o e n hb hx=>?_,λb o e n hb hx=>?_,λb o e n hx=>?_,λb o e hx=>?_,λb xs e=>tups b xs (I.base.tups b xs e),λb o xs e=>frzs b o xs (I.base.frzs b o xs e),λb ps e=>?_⟩,?_,λx c e=>?_,?_,λx c e=>?_,λp hp=>?_,hok,I.len⟩
 ·exact keep b o (neL b o e) hb (neC b o e hx) (I.base.keep b o e n hb hx) (I.base.free b o e n hx)
 ·obtain⟨sl,e1⟩:=I.base.slot b o e n hb hx;obtain⟨sl',e2⟩:=slot b _ (neL b o e) hb (neC b o e hx) e1 (I.base.free b o e n hx);exact⟨sl',e2⟩
 ·obtain⟨o',e1⟩:=I.base.there b o e hx;exact free b o' (neC b o e hx) e1 (I.base.free b o e n hx)
 ·obtain⟨o',e1⟩:=I.base.there b o e hx;exact there b o' (neC b o e hx) e1
 ·obtain⟨m1,e1⟩:=I.base.tbls b ps e;obtain⟨m2,e2⟩:=tbls b _ e1;exact⟨m1++m2,by rw [e2,Array.append_assoc]⟩
 ·obtain⟨m,hn,hl⟩:=I.loc;refine⟨m,ns m hn,λi x v e1 e2 e3=>?_⟩;obtain⟨u,r,l⟩:=hl i x v e1 e2 e3;refine⟨u,r,?_⟩;rcases l with l | ⟨k,c,e,z⟩
  ·exact .inl l
  ·exact .inr ⟨k,c,e,cellK x c e _ z⟩
 ·obtain⟨v,z⟩:=I.cell x c e;exact⟨v,cellK x c e v z⟩
 ·obtain⟨m,⟨o,_,_,ho,_⟩,_⟩:=I.loc;exact free _ o (λz=>(hch _ z).2.1 rfl) ho I.free
 ·obtain⟨v,o,ho,hd⟩:=I.cell x c e;exact free c o (λz=>(hch c z).2.2.1 x c e rfl) ho (I.freeC x c e)
 ·obtain⟨e,n,ne,nf,d⟩:=I.pin p hp;have nch:p.1∉ch:=λz=>(hch p.1 z).2.2.2 p hp rfl;exact⟨keep p.1 p.2 ne nf nch e n,free p.1 p.2 nch e n,ne,nf,d⟩
theorem Inv.un {t':Nat}(I:Inv X pins σ H s)(u:Un X.fs [] H H' s.heap h')(hok:lF X.prog X.w H' h'):Inv X pins σ H' { s with heap:=h',toks:=t' }:=by
 obtain⟨m,⟨o,es,ep,ho,r⟩,_⟩:=id I.loc;obtain⟨sl,hL⟩:=u.any ho I.free (by simp)
 exact I.step (g':=s.gens) (d':=s.drawn) (ch:=[]) (λ_ z=>nomatch z) (λb o _ hb _ e n=>u.keep b o e n hb (by simp)) (λb o _ hb _ e n=>u.slot b o e n hb (by simp)) (λb o _ e n=>u.free b o e n (by simp)) (λb o _ e=>u.there b o e (by simp)) u.tups u.frzs u.tbls (λm' hm=>by
  obtain⟨o',es',ep',ho',r'⟩:=hm
  rw [ho] at ho';cases ho'
  exact⟨_,es',ep',hL,r'⟩) hok I.bare
theorem Inv.call {g':Array GenState}{t':Nat}{d':Drawn}{ch:Le}(I:Inv X pins σ H s)(u:Un (lY X.stack) ch H H' s.heap h')(hok:lF X.prog X.w H' h')(hg:AllBare g') (hch:∀ b∈ch,(b∈X.ex\/X.s₀.heap.objs.size<=b)/\b≠X.env.locals/\(∀ x c,X.env.cells.lookup x=some c->c≠b)/\∀ p∈X.pn++pins,p.1≠b) : Inv X pins σ H' { s with heap:=h',gens:=g',drawn:=d',toks:=t' }:=by
 obtain⟨m,⟨o,es,ep,ho,r⟩,_⟩:=id I.loc;obtain⟨sl,hL⟩:=u.any ho I.free λz=>(hch _ z).2.1 rfl
 exact I.step (ch:=ch) hch (λb o hL hb hc e n=>u.keep b o e n (λz=>(uq.mp (I.stkSub b z)).elim hL hb) hc) (λb o _ _ hc e n=>u.any e n hc) (λb o hc e n=>u.free b o e n hc) (λb o hc e=>u.there b o e hc) u.tups u.frzs u.tbls (λm' hm=>by
  obtain⟨o',es',ep',ho',r'⟩:=hm
  rw [ho] at ho';cases ho'
  exact⟨_,es',ep',hL,r'⟩) hok hg
theorem Inv.turned {t':Nat}{it:Addr}(I:Inv X pins σ H s)(k:∀ b o,b≠it->s.heap.get? b=some o->h'.get? b=some o)(hn:H it=none)(hL:it≠X.env.locals) (h1:it∈X.ex\/X.s₀.heap.objs.size<=it) (h2:∀ x c,X.env.cells.lookup x=some c->c≠it) (h3:∀ p∈X.pn++pins,p.1≠it):Inv X pins σ H { s with heap:=h',toks:=t' }:=by
 have nit:∀ b u,H b=some u->b≠it:=λb u e z=>by rw [z,hn] at e;cases e
 refine I.step (g':=s.gens) (d':=s.drawn) (ch:=[it]) (λb hb=>?_) (λb o _ _ hc e _=>k b o (λz=>hc (by simp [z])) e) (λb o _ _ hc e _=>⟨o.slots,k b o (λz=>hc (by simp [z])) e⟩) (λ_ _ _ _ n=>n)
  (λb o hc e=>⟨o,k b o (λz=>hc (by simp [z])) e⟩) (λ_ _ e=>e) (λ_ _ _ e=>e) (λb ps e=>⟨#[],by rw [e];simp⟩) (λm hm=>?_) (λb u e=>?_) I.bare
 ·have e:b=it:=by simpa using hb
  subst e;exact⟨h1,hL,h2,h3⟩
 ·obtain⟨o,es,ep,ho,r⟩:=hm;exact⟨o,es,ep,k _ o (Ne.symm hL) ho,r⟩
 ·refine(I.hok b u e).stay (λc v hc q=>k c v ?_ q) (λ_ q=>q) λ_ _ q=>q;rcases hc with z | z
  ·rw [z];exact nit b u e
  ·exact nit c _ z
theorem Inv.tok (I:Inv X pins σ H s)(t:Nat):Inv X pins σ H { s with toks:=t }:=I.un (h':=s.heap) (t':=t) Un.refl I.hok
theorem Inv.kept (I:Inv X pins σ H s)(k:∀ b u,s.heap.get? b=some u->h'.get? b=some u):Inv X pins σ H { s with heap:=h',toks:=t' }:=I.un (Un.kept k) (I.hok.kept k)
theorem Inv.laid (I:Inv X pins σ H s)(k:∀ b u,s.heap.get? b=some u->h'.get? b=some u)(hp:s.heap.objs.size<=a)(new:qC X.prog X.w (upd H a o) h' a o) :
  Inv X pins σ (upd H a o) { s with heap:=h',toks:=t' }:=I.un (Un.laid k hp (I.hok.fresh hp)) (I.hok.laid k hp new)
theorem Inv.write (I:Inv X pins σ H s)(mu:Aa (H x))(he:e=x\/H e=some (.own x))(k:∀ b u,b≠e->s.heap.get? b=some u->h'.get? b=some u)(heo:∃ u,h'.get? e=some u)
  (new:qC X.prog X.w (upd H x o) h' x o):Inv X pins σ (upd H x o) { s with heap:=h',toks:=t' }:=I.un (Un.write mu he k heo) (I.hok.write mu he k heo new)
theorem Inv.pins_of {pins':Lp}(I:Inv X pins σ H s)(h:∀ p∈pins',s.heap.get? p.1=some p.2/\H p.1=none/\p.1≠X.env.locals/\p.1∉X.fs/\∀ v,p.2.data≠.cell v):Inv X pins' σ H s:= ⟨I.ok,I.os,I.bare,I.base,I.loc,I.cell,I.free,I.freeC,λp hp=>(u6.mp hp).elim (λz=>I.pin p (uY _ z)) (h p),I.hok,I.len⟩
theorem Ke {N:Lj}(hN:N.Nodup){i j:Nat}{x:Str}(a:N[i]? = some x)(b:N[j]? = some x):i=j:=by obtain⟨h1,e1⟩:=ur.mp a;obtain⟨h2,e2⟩:=ur.mp b;exact(List.getElem_inj hN).mp (e1.trans e2.symm)
theorem Vn (I:Inv X pins σ H s)(hN:X.N.Nodup)(hi:X.N[i]? = some x)(hx:Loc X.env.scope x)(r:RelV v u) (h:∀ s',Inv X pins (σ.set i (some v)) H s'->(∃ a,Heap.SameBut a s.heap s'.heap/\(a=X.env.locals\/X.env.cells.lookup x=some a))->Q () s') (hf:X.fn x=true\/X.env.scope.names.lookup x=some .local:=by first | exact .inl rfl | exact .inr rfl | assumption):wpAny M A (storeName X.env x u) Q E s:=by
 obtain⟨m,hn,hl⟩:=id I.loc;have hcls:(X.env.scope.kind == .class||(X.env.scope.kind == .module&&X.env.locals != X.env.globals))=false:=by rw [I.ok.kind];rfl
 have hiσ:i<σ.length:=by rw [I.len];exact(ur.mp hi).1
 have cne:=I.cne
 have tracked:∀ {a:Addr} {h':Heap},(∃ o,s.heap.get? a=some o/\H a=none)->Heap.SameBut a s.heap h'->lF X.prog X.w H h':=λ{a h'} ha hs b ob e=>by
  obtain⟨_,_,hfree⟩:=ha;refine(I.hok b ob e).stay (λc w' hc q=>(hs.2 c ?_).trans q) (λ_ q=>q) λ_ _ q=>q;rintro rfl;rcases hc with rfl | hc
  ·rw [hfree] at e;cases e
  ·rw [hfree] at hc;cases hc
 rcases hx with hk | hk
 ·refine wpAny_storeName_local hk hn (λh' hn' hs=>?_) hcls;obtain⟨oL,_,_,hoL,_⟩:=id hn;refine h _ ⟨I.ok,I.os,I.bare,⟨λb o e n hb hx=>?_,λb o e n hb hx=>?_,I.base.free,λb o e hx=>?_,I.base.tups,I.base.frzs,I.base.tbls⟩,⟨_,hn',λj y v' e1 e2 e3=>?_⟩,λy c e=>?_,I.free,I.freeC,λp hp=>?_,tracked ⟨oL,hoL,I.free⟩ hs,by simpa using I.len⟩ ⟨_,hs,.inl rfl⟩
  ·exact(hs.2 b (Ug (uu (ug e) I.ok.above))).trans (I.base.keep b o e n hb hx)
  ·obtain⟨sl,e1⟩:=I.base.slot b o e n hb hx;exact⟨sl,(hs.2 b (Ug (uu (ug e) I.ok.above))).trans e1⟩
  ·obtain⟨o',e1⟩:=I.base.there b o e hx;exact⟨o',(hs.2 b (Ug (uu (ug e) I.ok.above))).trans e1⟩
  ·by_cases hj:j=i
   ·subst hj;rw [hi] at e1;cases e1;rw [List.getElem?_set_self hiσ] at e2;cases e2;exact⟨u,r,.inl ⟨hk,by simp⟩⟩
   ·rw [List.getElem?_set_ne (Ne.symm hj)] at e2;obtain⟨u',r',q⟩:=hl j y v' e1 e2 e3;refine⟨u',r',?_⟩;rcases q with⟨k,e⟩ | ⟨k,c,e,z⟩
    ·refine .inl ⟨k,?_⟩;have:y≠x:=λe=>hj (Ke hN e1 (e ▸ hi));simp [this,e]
    ·exact .inr ⟨k,c,e,z.sameBut hs (cne y c e)⟩
  ·obtain⟨w',z⟩:=I.cell y c e;exact⟨w',z.sameBut hs (cne y c e)⟩
  ·obtain⟨e,n,ne,nf,d⟩:=I.pin p hp;exact⟨(hs.2 p.1 ne).trans e,n,ne,nf,d⟩
 ·have hfn:X.fn x=true:=by
   rcases hf with z | z
   ·exact z
   ·rw [z] at hk;cases hk
  obtain⟨c,hc⟩:=I.ok.has x (.inl hk)
  obtain⟨w',z⟩:=I.cell x c hc
  refine wpAny_storeName_cell I.ok.kind hk hc z (λh' hc' hs=>?_)
  obtain⟨oc,hoc,hocd⟩:=id z
  refine h { s with heap:=h' } ⟨I.ok,I.os,I.bare,⟨λb o e n hb hx=>?_,λb o e n hb hx=>?_,I.base.free,λb o e hx=>?_,I.base.tups,I.base.frzs,I.base.tbls⟩,⟨m,hn.sameBut hs (Ne.symm (cne x c hc)),λj y v' e1 e2 e3=>?_⟩,λy c' e=>?_,I.free,I.freeC,λp hp=>?_,tracked ⟨oc,hoc,I.freeC x c hc⟩ hs,by simpa using I.len⟩ ⟨c,hs,.inr hc⟩
  ·exact(hs.2 b (Ug (uu (ug e) (I.ok.cab x c hfn hc)))).trans (I.base.keep b o e n hb hx)
  ·obtain⟨sl,e1⟩:=I.base.slot b o e n hb hx
   exact⟨sl,(hs.2 b (Ug (uu (ug e) (I.ok.cab x c hfn hc)))).trans e1⟩
  ·obtain⟨o',e1⟩:=I.base.there b o e hx
   exact⟨o',(hs.2 b (Ug (uu (ug e) (I.ok.cab x c hfn hc)))).trans e1⟩
  ·by_cases hj:j=i
   ·subst hj
    rw [hi] at e1;cases e1
    rw [List.getElem?_set_self hiσ] at e2
    cases e2
    exact⟨u,r,.inr ⟨.inl hk,c,hc,hc'⟩⟩
   ·rw [List.getElem?_set_ne (Ne.symm hj)] at e2
    obtain⟨u',r',q⟩:=hl j y v' e1 e2 e3
    refine⟨u',r',?_⟩
    rcases q with q | ⟨k,c',e,z'⟩
    ·exact .inl q
    ·refine .inr ⟨k,c',e,z'.sameBut hs ?_⟩
     rintro rfl
     exact hj (Ke hN e1 (I.ok.inj _ _ _ e hc ▸ hi))
  ·by_cases hcc:c' = c
   ·subst hcc;exact⟨_,hc'⟩
   ·obtain⟨w2,z2⟩:=I.cell y c' e
    exact⟨w2,z2.sameBut hs hcc⟩
  ·obtain⟨e,n,ne,nf,d⟩:=I.pin p hp
   refine⟨(hs.2 p.1 ?_).trans e,n,ne,nf,d⟩
   intro q
   rw [q,hoc] at e
   have q':oc=p.2:=uH e
   exact d w' (by rw [← q'];exact hocd)
theorem W8 (I:Inv X pins σ H s)(hN:X.N.Nodup)(hi:X.N[i]? = some x)(hx:Loc X.env.scope x)(r:RelV v u)
  (h:∀ s',Inv X pins (σ.set i (some v)) H s'->Q () s') (hf:X.fn x=true\/X.env.scope.names.lookup x=some .local:=by first | exact .inl rfl | exact .inr rfl | assumption):wpAny M A (storeName X.env x u) Q E s:=
 Vn I hN hi hx r (λs' I' _=>h s' I') hf
theorem Inv.call' {s':Shared}(I:Inv X pins σ H s)(ho:s'.os=s.os)(u:Un (lY X.stack) ch H H' s.heap s'.heap)(hok:lF X.prog X.w H' s'.heap)(hg:AllBare s'.gens) (hch:∀ b∈ch,(b∈X.ex\/X.s₀.heap.objs.size<=b)/\b≠X.env.locals/\(∀ x c,X.env.cells.lookup x=some c->c≠b)/\∀ p∈X.pn++pins,p.1≠b):Inv X pins σ H' s':=by obtain⟨h',g',d',t',o'⟩:=s';have e:o' = s.os:=ho;subst e;exact I.call (g':=g') (t':=t') (d':=d') u hok hg hch
end
abbrev XK:=Value->Option Addr->Hp->Prop
abbrev St:=List (Option V)
abbrev VK:=V->Hp->Prop
abbrev TE:=St->Hp->VK->Prop
abbrev TT:=St->Hp->(Bool->Hp->Prop)->Prop
abbrev TA:=St->Hp->(List V->Hp->Prop)->Prop
structure Ends where
 nx:St->Hp->Prop
 rt:VK
 bk:St->Hp->Prop:=λ_ _=>False
 ct:St->Hp->Prop:=λ_ _=>False
abbrev TS:=Ends->St->Hp->Prop
def EP (X:Cx)(pins:Lp)(σ:St)(Q:VK)(u:Value)(s':Shared):Prop:=∃ v H',Inv X pins σ H' s'/\RelV v u/\Q v H'
def TP (X:Cx)(pins:Lp)(σ:St)(Q:Bool->Hp->Prop)(b:Bool)(s':Shared):Prop:=∃ H',Inv X pins σ H' s'/\Q b H'
def AP (X:Cx)(pins:Lp)(σ:St)(Q:List V->Hp->Prop)(us:Lg)(s':Shared):Prop:=∃ vs H',Inv X pins σ H' s'/\Vals vs us/\Q vs H'
def SP (X:Cx)(pins:Lp)(D:Ends)(f:Flow)(s':Shared):Prop:=
 match f with
 | .next=>∃ σ' H',Inv X pins σ' H' s'/\D.nx σ' H'
 | .brk=>∃ σ' H',Inv X pins σ' H' s'/\D.bk σ' H'
 | .cont=>∃ σ' H',Inv X pins σ' H' s'/\D.ct σ' H'
 | .ret u=>∃ v σ' H',Inv X pins σ' H' s'/\RelV v u/\D.rt v H'
def PE (X:Cx)(e:Expr)(t:TE):Prop:= ∀ (pins:Lp) (s:Shared) (σ:St) (H:Hp) (Q:VK),Inv X pins σ H s->t σ H Q->fW X (eval e X.env) (EP X pins σ Q) X.xe s
def PT (X:Cx)(e:Expr)(t:TT):Prop:= ∀ (pins:Lp) (s:Shared) (σ:St) (H:Hp) (Q:Bool->Hp->Prop),Inv X pins σ H s->t σ H Q->fW X (isTrue e X.env (eval e X.env)) (TP X pins σ Q) X.xe s
def PW (X:Cx)(e:Expr)(t:TT):Prop:= ∀ (whole:Sem Value) (pins:Lp) (s:Shared) (σ:St) (H:Hp) (Q:Bool->Hp->Prop),Inv X pins σ H s->t σ H Q->fW X (isTrue e X.env whole) (TP X pins σ Q) X.xe s
theorem PW.pt {X:Cx}(h:PW X e t):PT X e t:=h _
def PA (X:Cx)(es:Lh)(t:TA):Prop:= ∀ (pos:Pos) (pins:Lp) (s:Shared) (σ:St) (H:Hp) (Q:List V->Hp->Prop),Inv X pins σ H s->t σ H Q->fW X (spliced (backTo pos (starEach es X.env))) (AP X pins σ Q) X.xe s
def PS (X:Cx)(st:Stmt)(t:TS):Prop:= ∀ (pins:Lp) (s:Shared) (σ:St) (H:Hp) (D:Ends),Inv X pins σ H s->t D σ H->fW X (exec st X.env) (SP X pins D) X.xe s
def lS (X:Cx)(st:List Stmt)(t:TS):Prop:= ∀ (pins:Lp) (s:Shared) (σ:St) (H:Hp) (D:Ends),Inv X pins σ H s->t D σ H->fW X (execs st X.env) (SP X pins D) X.xe s
theorem iB {α:Type}{t:Sem α}{Q Q':α->Shared->Prop}{M:Model}{A:Around}{E:fV}{s:Shared}(h:wpAny M A t Q E s)(hQ:∀ a s,Q a s->Q' a s):wpAny M A t Q' E s:=um h hQ λ_ _ x=>x
section
variable {X:Cx}
def iL (i:Nat):TE:=λσ H Q=>∃ v,σ[i]? = some (some v)/\Q v H
def tC (v:V):TE:=λ_ H Q=>Q v H
theorem M7 (hN:X.N[i]? = some x)(hv:Av X.env.scope x)(hd:(x == ("__debug__":Str))=false:=by decide) (hcd:(x == ("__classdict__":Str))=false:=by decide):PE X (.Name x pos) (iL i):=by
 intro pins s σ H Q I h;obtain⟨v,e,h⟩:=h;obtain⟨m,hn,hl⟩:=I.loc;obtain⟨u,r,l⟩:=hl i x v hN e hv;have fin:EP X pins σ Q u s:=⟨v,H,I,r,h⟩
 rcases l with⟨hk,hm⟩ | ⟨hk,c,hc,hcell⟩
 ·exact GS (wpAny_loadName_local I.ok.kind hk hn hm fin) hd
 ·rcases hk with hk | hk
  ·exact GS (wpAny_loadName_cell I.ok.kind hk hc hcell fin) hd
  ·exact GS (wpAny_loadName_free I.ok.kind hk hc hcell fin hcd) hd
theorem DX {i j pos}:PE X (.Constant (.int i) j pos) (tC (.int i)):=λ_ _ _ H _ I h=>wpAny_Constant_int ⟨.int i,H,I.tok _,⟨_,rfl⟩,h⟩
theorem Lk {b j pos}:PE X (.Constant (.bool b) j pos) (tC (.bl b)):=λ_ _ _ H _ I h=>Constant_bool ⟨.bl b,H,I,rfl,h⟩
theorem M6 {j pos}:PE X (.Constant .none j pos) (tC .non):=λ_ _ _ H _ I h=>Constant_none ⟨.non,H,I,rfl,h⟩
theorem BE {x j pos}:PE X (.Constant (.str x) j pos) (tC (.str x)):=λ_ _ _ H _ I h=>Calls.Constant_str ⟨.str x,H,I.tok _,⟨_,rfl⟩,h⟩
def Gl (X:Cx)(x:Str):Prop:=X.env.kindOf x=some .globalImplicit
theorem wW {pins:Lp}(I:Inv X pins σ H s)(hg:Gl X x)(hm:X.mg x=some u)(h:Q u s)
  (hd:(x == ("__debug__":Str))=false:=by decide):fW X (eval (.Name x pos) X.env) Q E s:=
 Calls.Name_function_global I.ok.kind hg (Calls.loadGlobal_global (by rw [I.ok.glob];exact I.mod.glob.keeps I.bk) hm h) hd
theorem W9 {pins:Lp}(I:Inv X pins σ H s)(hg:Gl X x)(hm:X.mg x=none)(hv:bootBuiltins x=some u)(h:Q u s) (hn:x≠"__name__":=by decide) (hd:(x == ("__debug__":Str))=false:=by decide):fW X (eval (.Name x pos) X.env) Q E s:=by obtain⟨mb,h1,h2⟩:=I.mod.blt;exact Calls.Name_function_global I.ok.kind hg (Calls.loadGlobal_builtin (by rw [I.ok.glob];exact I.mod.glob.keeps I.bk) hm (by rw [I.ok.blt];exact h1.keeps I.bk) ((h2 x hn).trans hv) h) hd
theorem EO (hg:Gl X x)(hm:X.mg x=some u)(r:RelV v u)(hd:(x == ("__debug__":Str))=false:=by decide):PE X (.Name x pos) (tC v):=
 λ_ _ _ H _ I h=>wW I hg hm ⟨v,H,I,r,h⟩ hd
theorem O2 (hg:Gl X x)(hm:X.mg x=none)(hv:bootBuiltins x=some u)(r:RelV v u)(hn:x≠"__name__":=by decide) (hd:(x == ("__debug__":Str))=false:=by decide):PE X (.Name x pos) (tC v):=
 λ_ _ _ H _ I h=>W9 I hg hm hv ⟨v,H,I,r,h⟩ hn hd
variable {a b:Expr} {ta tb:TE} {pos:Pos}
def tB (t:TE):TT:=λσ H Q=>t σ H λx H1=>∃ c,x=.bl c/\Q c H1
theorem M5 {e:Expr}{t:TE}(h:PE X e t)(he:∀ whole,isTrue e X.env whole=(do let v ← whole;standAt e.pos;holding [v] (truthy v)):=by intro _;rfl):PT X e (tB t):=by intro pins s σ H Q I hw;refine hZ (iB (h pins s σ H _ I hw) λv s1 zq=>?_) (he _);obtain⟨x,H1,I1,r1,q1⟩:=zq;obtain⟨d,rfl,q⟩:=q1;cases r1;exact gG ⟨H1,I1,q⟩
variable {tA tB':TT} {rest:Lh}
def rJ (t u:TT):TT:=λσ H Q=>t σ H λc H1=>if c=true then u σ H1 Q else Q false H1
def BN (t u:TT):TT:=λσ H Q=>t σ H λc H1=>if c=true then Q true H1 else u σ H1 Q
def rE (t:TT):TT:=λσ H Q=>t σ H λc H1=>Q (!c) H1
theorem O1 (ha:PT X a tA):PW X (.BoolOp .And [a] pos) tA:=by
 intro wh pins s σ H Q I h;refine Hf (iB (ha pins s σ H Q I h) λc s1 e=>?_);cases c with
 | true=>exact isTrue_and_nil e
 | false=>exact e
theorem M4 (ha:PT X a tA):PW X (.BoolOp .Or [a] pos) tA:=by
 intro wh pins s σ H Q I h;refine isTrue_or (iB (ha pins s σ H Q I h) λc s1 e=>?_);cases c with
 | false=>exact isTrue_or_nil e
 | true=>exact e
theorem M3 (ha:PT X a tA)(hb:PW X (.BoolOp .And (b::rest) pos) tB'):PW X (.BoolOp .And (a::b::rest) pos) (rJ tA tB'):=by
 intro wh pins s σ H Q I h;refine Hf (iB (ha pins s σ H _ I h) λc s1 zq=>?_);obtain⟨H1,I1,q1⟩:=zq;cases c with
 | true=>exact hb wh pins s1 σ H1 Q I1 q1
 | false=>exact⟨H1,I1,q1⟩
theorem Lc (ha:PT X a tA)(hb:PW X (.BoolOp .Or (b::rest) pos) tB'):PW X (.BoolOp .Or (a::b::rest) pos) (BN tA tB'):=by
 intro wh pins s σ H Q I h;refine isTrue_or (iB (ha pins s σ H _ I h) λc s1 zq=>?_);obtain⟨H1,I1,q1⟩:=zq;cases c with
 | true=>exact⟨H1,I1,q1⟩
 | false=>exact hb wh pins s1 σ H1 Q I1 q1
theorem M1 (ha:PT X a tA):PT X (.UnaryOp .Not a pos) (rE tA):=by intro pins s σ H Q I h;exact isTrue_not (ha pins s σ H (λc H1=>Q (!c) H1) I h)
def BP (t:TT)(ta tb:TE):TE:=λσ H Q=>t σ H λc H1=>if c=true then ta σ H1 Q else tb σ H1 Q
theorem Rw {c:Expr}(hc:PT X c tA)(ha:PE X a ta)(hb:PE X b tb):PE X (.IfExp c a b pos) (BP tA ta tb):=by
 intro pins s σ H Q I h;refine wpAny_IfExp (iB (hc pins s σ H _ I h) λd s1 zq=>?_);obtain⟨H1,I1,q1⟩:=zq;cases d with
 | true=>exact ha pins s1 σ H1 Q I1 q1
 | false=>exact hb pins s1 σ H1 Q I1 q1
end
def iA (K:Lf)(H:Hp)(a:Addr)(xs:List V):Prop:= Rd H a (.lst xs) \/ ∃ (o:Obj) (ij:Array Value) (n:Nat),K.lookup a=some o/\o.cls=.type "list"/\o.dict=none/\o.data=.seq ij n/\ij.size<=sizeLine/\Vals xs ij.toList
def ir (K:Lf)(H:Hp)(a:Addr)(xs:List V):Prop:= Rd H a (.tup xs) \/ ∃ (o:Obj) (ij:Array Value) (n:Nat),K.lookup a=some o/\o.cls=.type "tuple"/\o.data=.seq ij n/\ij.size<=sizeLine/\Vals xs ij.toList
def C5:Value->Option V
 | .none=>some .non
 | .bool b=>some (.bl b)
 | .int i _=>some (.int i)
 | .str x _=>some (.str x)
 | .bytes b _=>some (.byt b)
 | .float b _=>some (.flt b)
 | .ref a=>some (.ref a)
 | .type n=>some (.ty n)
 | _=>none
theorem RelV.abs (r:RelV x u):C5 u=some x:=by
 cases x with
 | non=>cases r;rfl
 | bl _=>cases r;rfl
 | int _=>obtain⟨t,rfl⟩:=r;rfl
 | str _=>obtain⟨t,rfl⟩:=r;rfl
 | byt _=>obtain⟨t,rfl⟩:=r;rfl
 | flt _=>obtain⟨t,rfl⟩:=r;rfl
 | ref _=>cases r;rfl
 | ty _=>cases r;rfl
theorem RelV.inj (r:RelV x u)(q:RelV y u):x=y:=uH (r.abs.symm.trans q.abs)
theorem Vals.inj:∀ {xs ys:List V} {us:Lg},Vals xs us->Vals ys us->xs=ys
 | _,_,_,.nil,.nil=>rfl
 | _,_,_,.cons r t,.cons r' t'=>by rw [r.inj r',Vals.inj t t']
section
variable {X:Cx} {pins:Lp} {σ:St} {H:Hp} {s:Shared} {a:Addr} {xs ys:List V}
theorem iA.of {K:Lf}(h:H a=some (.lst xs)):iA K H a xs:=.inl (.inl h)
theorem ir.of {K:Lf}(h:H a=some (.tup xs)):ir K H a xs:=.inl (.inl h)
theorem Inv.list (I:Inv X pins σ H s)(h:iA X.K H a xs):∃ ij:Lg,Vals xs ij/\PlainL s.heap a ij.toArray/\xs.length<=sizeLine:=by
 rcases h with h | ⟨o,ij,n,hk,hc,hd,hs,hz,r⟩
 ·obtain⟨z,ij,n,r,e⟩:=h.ok I.hok;exact⟨ij,r,⟨_,n,e,rfl,rfl,rfl⟩,z⟩
 ·refine⟨ij.toList,r,⟨o,n,I.kIn a o hk,hc,hd,by simpa using hs⟩,?_⟩;have e:=r.length;simp only [Gp] at e;lia
theorem Inv.tuple (I:Inv X pins σ H s)(h:ir X.K H a xs):∃ ij:Lg,Vals xs ij/\IsTup s.heap a ij.toArray/\xs.length<=sizeLine:=by
 rcases h with h | ⟨o,ij,n,hk,hc,hs,hz,r⟩
 ·obtain⟨z,ij,r,p⟩:=h.ok I.hok;exact⟨ij,r,p,z⟩
 ·refine⟨ij.toList,r,⟨o,I.kIn a o hk,hc,n,by simpa using hs⟩,?_⟩;have e:=r.length;simp only [Gp] at e;lia
theorem Inv.list_inj (I:Inv X pins σ H s)(h:iA X.K H a xs)(h':iA X.K H a ys):xs=ys:=by
 obtain⟨ij,r,⟨o,n,e,_,_,d⟩,_⟩:=I.list h;obtain⟨its',r',⟨o',n',e',_,_,d'⟩,_⟩:=I.list h';rw [e] at e';cases e';rw [d] at d';injection d' with d1 _;have:ij=its':=by simpa using congrArg Array.toList d1
 subst this;exact r.inj r'
theorem Inv.tuple_inj (I:Inv X pins σ H s)(h:ir X.K H a xs)(h':ir X.K H a ys):xs=ys:=by
 obtain⟨ij,r,⟨o,e,_,n,d⟩,_⟩:=I.tuple h;obtain⟨its',r',⟨o',e',_,n',d'⟩,_⟩:=I.tuple h';rw [e] at e';cases e';rw [d] at d';injection d' with d1 _;have:ij=its':=by simpa using congrArg Array.toList d1
 subst this;exact r.inj r'
end
abbrev Cx.wish (X:Cx)(E:fV):Cx:={ X with xe:=E }
abbrev Cx.nox (X:Cx):Cx:=X.wish λ_ _=>False
theorem Cx.Ok.wish {X:Cx}(ok:X.Ok)(E:fV):(X.wish E).Ok:= ⟨ok.mod,ok.kind,ok.glob,ok.blt,ok.above,ok.inj,ok.has,ok.cab,ok.hd,ok.frames,ok.stk,ok.exf,ok.bs,ok.bsz,ok.noex,ok.exfs,ok.funs,ok.frf⟩
theorem Cx.Ok.unwish {X:Cx}(ok:(X.wish E).Ok):X.Ok:= ⟨ok.mod,ok.kind,ok.glob,ok.blt,ok.above,ok.inj,ok.has,ok.cab,ok.hd,ok.frames,ok.stk,ok.exf,ok.bs,ok.bsz,ok.noex,ok.exfs,ok.funs,ok.frf⟩
section
variable {X:Cx} {pins:Lp} {σ:St} {H:Hp} {s:Shared} {E:fV}
theorem Inv.wish (I:Inv X pins σ H s)(E:fV):Inv (X.wish E) pins σ H s:=⟨I.ok.wish E,I.os,I.bare,I.base,I.loc,I.cell,I.free,I.freeC,I.pin,I.hok,I.len⟩
theorem Inv.unwish (I:Inv (X.wish E) pins σ H s):Inv X pins σ H s:=⟨I.ok.unwish,I.os,I.bare,I.base,I.loc,I.cell,I.free,I.freeC,I.pin,I.hok,I.len⟩
theorem SP.unwish (h:SP (X.wish E) pins D f s'):SP X pins D f s':=by
 cases f with
 | next=>obtain⟨σ',H',I,q⟩:=h;exact⟨σ',H',I.unwish,q⟩
 | brk=>obtain⟨σ',H',I,q⟩:=h;exact⟨σ',H',I.unwish,q⟩
 | cont=>obtain⟨σ',H',I,q⟩:=h;exact⟨σ',H',I.unwish,q⟩
 | ret u=>obtain⟨v,σ',H',I,r,q⟩:=h;exact⟨v,σ',H',I.unwish,r,q⟩
theorem PE.nox (h:PE X.nox e t):PE X e t:=λpins s σ H Q I hw=>
 um (h pins s σ H Q (I.wish _) hw) (λ_ _ ⟨v,H',I',r,q⟩=>⟨v,H',I'.unwish,r,q⟩) λ_ _ z=>False.elim z
theorem PT.nox (h:PT X.nox e t):PT X e t:=λpins s σ H Q I hw=>
 um (h pins s σ H Q (I.wish _) hw) (λ_ _ ⟨H',I',q⟩=>⟨H',I'.unwish,q⟩) λ_ _ z=>False.elim z
theorem lS.nox {st:List Stmt}{t:TS}(h:lS X.nox st t):lS X st t:=λpins s σ H D I hw=>
 um (h pins s σ H D (I.wish _) hw) (λ_ _ q=>q.unwish) λ_ _ z=>False.elim z
end
section
variable {X:Cx} {st:Stmt} {rest:List Stmt} {t u:TS} {e:Expr} {te:TE} {pos:Pos}
def Xa:TS:=λD σ H=>D.nx σ H
def i7 (t u:TS):TS:=λD σ H=>t { D with nx:=u D } σ H
theorem O0:lS X [] Xa:=λ_ _ σ H _ I h=>UP ⟨σ,H,I,h⟩
theorem wm (h1:PS X st t)(h2:lS X rest u):lS X (st::rest) (i7 t u):=by
 intro pins s σ H D I h;refine wpAny_execs_cons (iB (h1 pins s σ H { D with nx:=u D } I h) λf s1 q=>?_);cases f with
 | next=>obtain⟨σ',H',I',q⟩:=q;exact h2 pins s1 σ' H' D I' q
 | ret v=>exact q
 | brk=>exact q
 | cont=>exact q
theorem Z2 (h1:PS X st t):lS X [st] t:=by
 intro pins s σ H D I h;refine wpAny_execs_cons (iB (h1 pins s σ H D I h) λf s1 q=>?_);cases f with
 | next=>exact UP q
 | ret v=>exact q
 | brk=>exact q
 | cont=>exact q
def VQ:TS:=λD σ H=>D.bk σ H
theorem Rv:PS X (.Break pos) VQ:=λ_ _ σ H _ I h=>wpAny_Break ⟨σ,H,I,h⟩
theorem Inv.quiet {pins:Lp}(I:Inv X pins σ H s):interactive X.env=false:=by simp [interactive,I.ok.kind]
def Wu (te:TE):TS:=λD σ H=>te σ H λ_ H1=>D.nx σ H1
theorem Z3 (he:PE X e te)(hs:swapsWith e none pos.line X.env=pure false:=by rfl):PS X (.Expr e pos) (Wu te):=by intro pins s σ H D I h;exact wpAny_Expr_any (iB (he pins s σ H _ I h) λv s1 ⟨x,H1,I1,r1,q1⟩=>⟨σ,H1,I1,q1⟩) I.quiet hs
def pq (te:TE):TS:=λD σ H=>te σ H D.rt
theorem M0 (he:PE X e te):PS X (.Return (some e) pos) (pq te):=by intro pins s σ H D I h;exact wpAny_Return_some (iB (he pins s σ H _ I h) λv s1 ⟨x,H1,I1,r1,q1⟩=>⟨x,σ,H1,I1,r1,q1⟩)
def nP (c:TT)(t u:TS):TS:=λD σ H=>c σ H λb H1=>if b=true then t D σ H1 else u D σ H1
theorem IZ {c:Expr}{a b:List Stmt}{tc:TT}(hc:PT X c tc)(ha:lS X a t)(hb:lS X b u):PS X (.If c a b pos) (nP tc t u):=by
 intro pins s σ H D I h;refine wpAny_If (iB (hc pins s σ H _ I h) λd s1 zq=>?_);obtain⟨H1,I1,q1⟩:=zq;cases d with
 | true=>exact ha pins s1 σ H1 D I1 q1
 | false=>exact hb pins s1 σ H1 D I1 q1
def VR:TS:=λ_ _ _=>False
theorem Ru:PS X st VR:=λ_ _ _ _ _ _ h=>h.elim
end
abbrev TG:=V->St->Hp->(St->Hp->Prop)->Prop
abbrev sr:=List V->St->Hp->(St->Hp->Prop)->Prop
def PG (X:Cx)(target:Expr)(t:TG):Prop:= ∀ (pins:Lp) (s:Shared) (σ:St) (H:Hp) (v:V) (u:Value) (Q:St->Hp->Prop),Inv X pins σ H s->RelV v u->t v σ H Q -> fW X (assign target X.env u) (λ_ s'=>∃ σ' H',Inv X pins σ' H' s'/\Q σ' H') X.xe s
def t6 (X:Cx)(ts:Lh)(t:sr):Prop:= ∀ (pins:Lp) (s:Shared) (σ:St) (H:Hp) (vs:List V) (us:Lg) (Q:St->Hp->Prop),Inv X pins σ H s->Vals vs us->t vs σ H Q -> fW X (assignInOrder ((assignEach ts X.env).map (·.2)) us) (λ_ s'=>∃ σ' H',Inv X pins σ' H' s'/\Q σ' H') X.xe s
abbrev sq:=V->V->V->Hp->(Hp->Prop)->Prop
def sA (X:Cx)(t:sq):Prop:= ∀ (pins:Lp) (s:Shared) (σ:St) (H:Hp) (o i v:V) (ov iv u:Value) (Q:Hp->Prop),Inv X pins σ H s->RelV o ov->RelV i iv->RelV v u->t o i v H Q -> fW X (setItem ov iv u) (λ_ s'=>∃ H',Inv X pins σ H' s'/\Q H') X.xe s
abbrev FU:=V->V->Hp->VK->Prop
section
variable {X:Cx} {pos:Pos}
def wO (i:Nat):TG:=λv σ H Q=>Q (σ.set i (some v)) H
theorem EN (hN:X.N.Nodup)(hi:X.N[i]? = some x)(hx:Loc X.env.scope x)(hf:X.fn x=true\/X.env.scope.names.lookup x=some .local:=by first | exact .inl rfl | exact .inr rfl | assumption):PG X (.Name x pos) (wO i):=by intro pins s σ H v u Q I r h;exact Hg (W8 I hN hi hx r (λs' I'=>⟨_,H,I',h⟩) hf)
def pQ:sr:=λvs σ H Q=>vs=[]/\Q σ H
def Vo (t:TG)(u:sr):sr:=λvs σ H Q=>∃ v r,vs=v::r/\t v σ H λσ' H'=>u r σ' H' Q
theorem OZ:t6 X [] pQ:=by intro pins s σ H vs us Q I r h;obtain⟨e,h⟩:=h;subst e;cases r;exact assignInOrder_nil ⟨σ,H,I,h⟩
theorem Rt {e:Expr}{es:Lh}{t:TG}{u:sr}(h1:PG X e t)(h2:t6 X es u) (hs:(assignEach (e::es) X.env).map (·.2)=assign e X.env::(assignEach es X.env).map (·.2):=by rfl):t6 X (e::es) (Vo t u):=by
 intro pins s σ H vs us Q I r h;obtain⟨v,vr,e1,h⟩:=h;subst e1;cases r with
 | cons r rr=>rw [hs];refine assignInOrder_cons (iB (h1 pins s σ H _ _ _ I r h) λ_ s1 zq=>?_);obtain⟨σ1,H1,I1,q1⟩:=zq;exact h2 pins s1 σ1 H1 _ _ Q I1 rr q1
def pP (K:Lf)(n:Nat)(t:sr):TG:=λv σ H Q=>∃ a xs,v=.ref a/\ir K H a xs/\xs.length=n/\t xs σ H Q
theorem MZ (hc:X.calm=true)(h:t6 X es t) (hn:(assignEach es X.env).length=n:=by rfl) (hst:(assignEach es X.env).findIdx? (·.1)=none:=by rfl):PG X (.Tuple es k pos) (pP X.K n t):=by intro pins s σ H v u Q I r hw;obtain⟨a,xs,e1,hq,hl,hw⟩:=hw;subst e1;cases r;obtain⟨ij,rv,ht,hz⟩:=I.tuple hq;refine assign_Tuple_tuple (I.ok.hd hc) ht (by simp [hn,← hl,rv.length]) hst λh' hx=>?_;have I1:Inv X pins σ H { s with heap:=h' }:=I.kept (t':=s.toks) λb o e=>hx b o (Ug (ug e)) e;exact h pins _ σ H xs _ Q I1 (by simpa using rv) hw
def rY (to ti:TE)(t:sq):TG:=λv σ H Q=>to σ H λo H1=>ti σ H1 λi H2=>t o i v H2 λH3=>Q σ H3
theorem MY {o i:Expr}{to ti:TE}{t:sq}(ho:PE X o to)(hi:PE X i ti)(hs:sA X t)
  (ha:∀ v,assign (.Subscript o i pos) X.env v=(do
   let ov ← holding [v] (eval o X.env)
   let iv ← holding [v,ov] (eval i X.env)
   standAt pos
   holding [v,ov,iv] (setItem ov iv v)
   release [v,ov,iv] []):=by intro _;rfl):PG X (.Subscript o i pos) (rY to ti t):=by
 intro pins s σ H v u Q I r h
 rw [ha]
 refine ua (u4 (iB (ho pins s σ H _ I h) λov s1 zq=>?_))
 obtain⟨x,H1,I1,r1,q1⟩:=zq
 refine ua (u4 (iB (hi pins s1 σ H1 _ I1 q1) λiv s2 zq=>?_))
 obtain⟨y,H2,I2,r2,q2⟩:=zq
 refine ua (Ua (ua (u4 (iB (hs pins s2 σ H2 x y v ov iv u _ I2 r1 r2 r q2) λ_ s3 zq=>?_))))
 obtain⟨H3,I3,q3⟩:=zq
 exact wpAny_release ⟨σ,H3,I3,q3⟩
def mU (te:TE)(g:TG):TS:=λD σ H=>te σ H λx H1=>g x σ H1 D.nx
theorem MX {tg e:Expr}{te:TE}{g:TG}(he:PE X e te)(hg:PG X tg g)(hs:swapsWithSole [tg] e pos.line X.env=pure false:=by rfl) (hw:swappedStores [tg] e X.env=pure none:=by rfl) (h1:(assignEach [tg] X.env).map (·.2)=[assign tg X.env]:=by rfl):PS X (.Assign [tg] e pos) (mU te g):=by intro pins s σ H D I h;refine wpAny_Assign_stores (iB (he pins s σ H _ I h) λv s1 zq=>?_) hs hw;obtain⟨x,H1,I1,r1,q1⟩:=zq;rw [h1];exact iB (hg pins s1 σ H1 x v _ I1 r1 q1) λ_ s2 q=>q
theorem MW {i:Nat}{x:Str}{e:Expr}{te:TE}{pos':Pos}(hN:X.N.Nodup)(hi:X.N[i]? = some x)(hx:Loc X.env.scope x)(he:PE X e te)(hs:swapsWith e (some (.Name x pos')) pos.line X.env=pure false:=by rfl) (hf:X.fn x=true\/X.env.scope.names.lookup x=some .local:=by first | exact .inl rfl | exact .inr rfl | assumption) : PS X (.Assign [.Name x pos'] e pos) (mU te (wO i)):=by intro pins s σ H D I h;refine wpAny_Assign_Name (iB (he pins s σ H _ I h) λv s1 zq=>?_) hs;obtain⟨y,H1,I1,r1,q1⟩:=zq;exact W8 I1 hN hi hx r1 (λs2 I2=>⟨_,H1,I2,q1⟩) hf
def BR (i:Nat)(te:TE)(ti:FU):TS:=λD σ H=>∃ x,σ[i]? = some (some x)/\te σ H λy H1=>ti x y H1 λz H2=>D.nx (σ.set i (some z)) H2
def ipI (f:Int->Int->Int):FU:=λx y H Q=>∃ i j,x=.int i/\y=.int j/\Q (.int (f i j)) H
end
section
variable {X:Cx} {pos:Pos}
def BD (c:TT)(tb:TS):TS:=λD σ H=>∃ W:Nat->St->Hp->Prop,(∃ m,W m σ H)/\∀ m σ H,W m σ H ->
 c σ H λb H1=>if b=true then ∃ N:St->Hp->Prop,(∀ σ' H',N σ' H'->∃ m',m' < m/\W m' σ' H')/\tb { D with nx:=N,ct:=N,bk:=D.nx } σ H1 else D.nx σ H1
theorem Rr {c:Expr}{body:List Stmt}{tc:TT}{tb:TS}(hp:PassesOwn (model X.prog X.w) X.A X.env X.xe)(hc:PT X c tc)(hb:lS X body tb):PS X (.While c body [] pos) (BD tc tb):=by
 intro pins s σ H D I h;obtain⟨W,⟨m0,w0⟩,turn⟩:=h;refine wpAny_While (codeAny_whileLoop (λn s'=>∃ σ' H',Inv X pins σ' H' s'/\W n σ' H') ?_ m0 ⟨σ,H,I,w0⟩);rintro n s1 ⟨σ1,H1,I1,w1⟩;refine Uq hp (iB (hc pins s1 σ1 H1 _ I1 (turn n σ1 H1 w1)) λb s2 zq=>?_);obtain⟨H2,I2,q2⟩:=zq;cases b with
 | true=>
  obtain⟨N,hN,q2⟩:=q2;rw [ue rfl];refine Uq hp (iB (hb pins s2 σ1 H2 _ I2 q2) λf s3 q3=>?_);cases f with
  | next=>obtain⟨σ3,H3,I3,n3⟩:=q3;obtain⟨m',hm,w3⟩:=hN σ3 H3 n3;exact⟨m',hm,σ3,H3,I3,w3⟩
  | cont=>obtain⟨σ3,H3,I3,n3⟩:=q3;obtain⟨m',hm,w3⟩:=hN σ3 H3 n3;exact⟨m',hm,σ3,H3,I3,w3⟩
  | brk=>exact q3
  | ret v=>exact q3
 | false=>rw [ub uE];exact UP ⟨σ1,H2,I2,q2⟩
end
structure It where
 go:Nat->Hp->Prop
 yld:Nat->Hp->V->Hp->Prop
 stop:Nat->Hp->Prop
def lT (X:Cx)(pins:Lp)(H:Hp)(b:Addr):Prop:= H b=none/\b≠X.env.locals/\b∉X.fs/\(b∈X.ex\/X.s₀.heap.objs.size<=b)/\(∀ x c,X.env.cells.lookup x=some c->c≠b)/\∀ p∈X.pn++pins,p.1≠b
theorem Inv.fpOk {pins:Lp}{s:Shared}(I:Inv X pins σ H s)(hb:s.heap.objs.size<=b)(hn:H' b=none):lT X pins H' b:=by
 refine⟨hn,GJ (uu I.lt hb),I.nofs hb,.inr (uI I.sz hb),λx c e z=>?_,λp hp z=>?_⟩
 ·obtain⟨v,q⟩:=I.cell x c e;exact absurd (uu q.lt (by rw [z];exact hb)) (u0 _)
 ·exact absurd (uu (ug (I.pin p hp).1) (by rw [z];exact hb)) (u0 _)
structure Turn (P:Program)(w:World)(K:Lf)(tg:Expr)(J:It)(fp:Le)(it:Addr)(tn:Nat->Heap->Prop):Prop where
 mem:it∈fp
 obj:∀ i h,tn i h->∀ b∈fp,∃ o,h.get? b=some o/\∀ v,o.data≠.cell v
 keep:∀ i h h',tn i h->(∀ b∈fp,∀ o,h.get? b=some o->h'.get? b=some o)->tn i h'
 item:∀ (X:Cx),X.prog=P->X.w=w->X.K=K->X.calm=true->∀ (i:Nat) (pins:Lp) (s:Shared) (σ:St) (H:Hp) (E:fV),Inv X pins σ H s->(∀ b∈fp,lT X pins H b)->tn i s.heap->J.go i H ->
  wpAny (model P w) X.A (pyNext (.ref it)) (λr s1=>∃ u,r=some u /\
   wpAny (model P w) X.A (letOwnedTupleGo tg (.ref it) u) (λ_ s2=>∃ x H',Inv X pins σ H' s2/\RelV x u/\J.yld i H x H'/\tn (i+1) s2.heap/\∀ b∈fp,H' b=none) E s1) E s
 done:∀ (X:Cx),X.prog=P->X.w=w->X.K=K->X.calm=true->∀ (i:Nat) (pins:Lp) (s:Shared) (σ:St) (H:Hp) (E:fV),Inv X pins σ H s->(∀ b∈fp,lT X pins H b)->tn i s.heap->J.stop i H ->
  wpAny (model P w) X.A (pyNext (.ref it)) (λr s1=>r=none/\Inv X pins σ H s1) E s
 self:∀ (A:Around) (i:Nat) (s:Shared) (Q:fV) (E:fV),tn i s.heap->Q (.ref it) s->wpAny (model P w) A (pyIter (.ref it)) Q E s
abbrev TI:=St->Hp->(It->Hp->Prop)->Prop
def t5 (X:Cx)(pins:Lp)(σ:St)(tg:Expr)(R:It->Hp->Prop)(itv:Value)(s2:Shared):Prop:= ∃ (it:Addr) (fp:Le) (tn:Nat->Heap->Prop) (J:It) (H':Hp),itv=.ref it/\Inv X pins σ H' s2/\Turn X.prog X.w X.K tg J fp it tn/\tn 0 s2.heap/\(∀ b∈fp,lT X pins H' b)/\R J H'
def PI (X:Cx)(tg iter:Expr)(wi:TI):Prop:= ∀ (pins:Lp) (s:Shared) (σ:St) (H:Hp) (R:It->Hp->Prop),Inv X pins σ H s->wi σ H R -> fW X (eval iter X.env) (λv s1=>fW X (pyIter v) (t5 X pins σ tg R) X.xe s1) X.xe s
theorem Ae {s:Shared}{o:Obj}(ho:s.heap.get? it=some o)(hc:o.cls=.type n)(hd:o.data=.fields vs) (hn:["enumerate","zip","dict_itemiterator","dict_reverseitemiterator","odict_iterator","itertools.zip_longest","itertools.pairwise"].contains n=false) (hQ:Q () s):wpAny M A (letOwnedTupleGo tg (.ref it) u) Q E s:=by
  unfold letOwnedTupleGo
  cases tg<;>first
    | exact ud hQ
    | (cases u<;>first
        | exact ud hQ
        | (refine ua (wpAny_load ho ?_)
           rw [hc,hd]
           show wpAny M A (if (["enumerate","zip","dict_itemiterator","dict_reverseitemiterator","odict_iterator","itertools.zip_longest","itertools.pairwise"].contains n&&vs[0]? == some (rawInt _))=true then _ else _) Q E s
           rw [ub (by intro h;rw [hn,Gi] at h;cases h)]
           exact ud hQ))
def sP (K:Lf)(a:Addr):It:= ⟨λi H=>∃ xs x,iA K H a xs/\xs[i]? = some x,λi H x H'=>H' = H/\∀ xs,iA K H a xs->xs[i]? = some x,λi H=>∃ xs,iA K H a xs/\xs.length<=i⟩
def sN (K:Lf)(a:Addr):It:= ⟨λi H=>∃ xs x,ir K H a xs/\xs[i]? = some x,λi H x H'=>H' = H/\∀ xs,ir K H a xs->xs[i]? = some x,λi H=>∃ xs,ir K H a xs/\xs.length<=i⟩
def AB (lo:Int)(n:Nat):It:=⟨λi _=>i<n,λi H x H'=>H' = H/\x=.int (lo+i),λi _=>n<=i⟩
theorem SW {P:Program}{w:World}{K:Lf}{tg:Expr}(a it:Addr):Turn P w K tg (sP K a) [it] it (λi h=>h.IsListIter it a i) where
 mem:=by simp
 obj:=λi h st b hb=>by
  have e:b=it:=by simpa using hb
  subst e
  obtain⟨o,e,c,d⟩:=st
  exact⟨o,e,λv z=>by rw [d] at z;cases z⟩
 keep:=λi h h' st k=>st.at λo e=>k it (by simp) o e
 item:=by
  intro X hP hw hK hc i pins s σ H E I hf st hg
  subst hP hw hK
  obtain⟨xs,x,hq,hx⟩:=hg
  obtain⟨ij,rv,p,hz⟩:=I.list hq
  obtain⟨u,hu,ru⟩:=rv.get hx
  obtain⟨f0,f1,f2,f3,f4,f5⟩:=hf it (by simp)
  refine wpAny_pyNext_list_item st p.isList (x:=u) (by simpa using hu) λh' st' sb=>?_
  have I1:Inv X pins σ H { s with heap:=h' }:=I.turned (t':=s.toks) (λb o hb e=>(sb.2 b hb).trans e) f0 f1 f3 f4 f5
  obtain⟨o,e,c,d⟩:=id st'
  exact⟨u,rfl,Ae (s:={ s with heap:=h' }) e c d (by decide) ⟨x,H,I1,ru,⟨rfl,λys hy=>by rw [I.list_inj hy hq];exact hx⟩,st',λb hb=>(hf b hb).1⟩⟩
 done:=by
  intro X hP hw hK hc i pins s σ H E I hf st hg
  subst hP hw hK
  obtain⟨xs,hq,hx⟩:=hg
  obtain⟨ij,rv,p,hz⟩:=I.list hq
  obtain⟨f0,f1,f2,f3,f4,f5⟩:=hf it (by simp)
  have hl:=rv.length
  exact wpAny_pyNext_list_end (I.ok.hd hc) st p.isList (by simp;lia) λh' eb=>⟨rfl,I.turned (t':=s.toks) (λb o hb e=>eb b o hb e) f0 f1 f3 f4 f5⟩
 self:=λ_ _ _ _ _ st h=>wpAny_pyIter_listiter st h
theorem zaP {P:Program}{w:World}{K:Lf}{tg:Expr}(a it:Addr):Turn P w K tg (sN K a) [it] it (λi h=>h.IsTupleIter it a i) where
 mem:=by simp
 obj:=λi h st b hb=>by
  have e:b=it:=by simpa using hb
  subst e
  obtain⟨o,e,c,d⟩:=st
  exact⟨o,e,λv z=>by rw [d] at z;cases z⟩
 keep:=λi h h' st k=>st.at λo e=>k it (by simp) o e
 item:=by
  intro X hP hw hK hc i pins s σ H E I hf st hg
  subst hP hw hK
  obtain⟨xs,x,hq,hx⟩:=hg
  obtain⟨ij,rv,p,hz⟩:=I.tuple hq
  obtain⟨u,hu,ru⟩:=rv.get hx
  obtain⟨f0,f1,f2,f3,f4,f5⟩:=hf it (by simp)
  refine wpAny_pyNext_tuple_item st (show s.heap.IsTuple a ij.toArray from p) (x:=u) (by simpa using hu) λh' st' sb=>?_
  have I1:Inv X pins σ H { s with heap:=h' }:=I.turned (t':=s.toks) (λb o hb e=>(sb.2 b hb).trans e) f0 f1 f3 f4 f5
  obtain⟨o,e,c,d⟩:=id st'
  exact⟨u,rfl,Ae (s:={ s with heap:=h' }) e c d (by decide) ⟨x,H,I1,ru,⟨rfl,λys hy=>by rw [I.tuple_inj hy hq];exact hx⟩,st',λb hb=>(hf b hb).1⟩⟩
 done:=by
  intro X hP hw hK hc i pins s σ H E I hf st hg
  subst hP hw hK
  obtain⟨xs,hq,hx⟩:=hg
  obtain⟨ij,rv,p,hz⟩:=I.tuple hq
  obtain⟨f0,f1,f2,f3,f4,f5⟩:=hf it (by simp)
  have hl:=rv.length
  exact wpAny_pyNext_tuple_end (I.ok.hd hc) st (show s.heap.IsTuple a ij.toArray from p) (by simp;lia) λh' eb=>⟨rfl,I.turned (t':=s.toks) (λb o hb e=>eb b o hb e) f0 f1 f3 f4 f5⟩
 self:=λ_ _ _ _ _ st h=>wpAny_pyIter_tupleiter st h
theorem zaQ {P:Program}{w:World}{K:Lf}{tg:Expr}(it:Addr)(lo:Int)(n:Nat):Turn P w K tg (AB lo n) [it] it (λi h=>IsRangeIter h it (lo+(i:Nat) * 1) ((n:Int) - (i:Nat)) 1) where
 mem:=by simp
 obj:=λi h st b hb=>by
  have e:b=it:=by simpa using hb
  subst e
  exact⟨_,st,λv z=>by
   have z':Data.fields _=Data.cell v:=z
   cases z'⟩
 keep:=λi h h' st k=>k it (by simp) _ st
 item:=by
  intro X hP hw hK hc i pins s σ H E I hf st hg
  subst hP hw hK
  obtain⟨f0,f1,f2,f3,f4,f5⟩:=hf it (by simp)
  have W:=Walks.range (prog:=X.prog) (w:=X.w) (I.ok.hd hc) it lo 1 n
  refine W.item i s _ _ hg st λv h' tk hv st' kk=>?_
  obtain⟨t,rfl⟩:=hv
  have I1:Inv X pins σ H { s with heap:=h',toks:=tk }:=I.turned (λb o hb e=>kk b o (by simpa using hb) e) f0 f1 f3 f4 f5
  refine⟨_,rfl,Ae (s:={ s with heap:=h',toks:=tk }) (n:="range_iterator") st' rfl rfl (by decide) ⟨.int (lo+i),H,I1,⟨t,?_⟩,⟨rfl,rfl⟩,st',λb hb=>(hf b hb).1⟩⟩
  rw [Int.mul_one]
 done:=by
  intro X hP hw hK hc i pins s σ H E I hf st hg
  subst hP hw hK
  obtain⟨f0,f1,f2,f3,f4,f5⟩:=hf it (by simp)
  exact wpAny_pyNext_range_end (I.ok.hd hc) st (by have:n<=i:=hg;lia) λh' eb=>⟨rfl,I.turned (t':=s.toks) (λb o hb e=>eb b o hb e) f0 f1 f3 f4 f5⟩
 self:=λ_ _ _ _ _ st h=>wpAny_pyIter_rangeiter st h
section
variable {X:Cx} {tg:Expr}
def Kf (K:Lf)(tl:TE):TI:=λσ H R=>tl σ H λx H1=>∃ a,x=.ref a/\(∃ xs,iA K H1 a xs)/\R (sP K a) H1
def pN (K:Lf)(tl:TE):TI:=λσ H R=>tl σ H λx H1=>∃ a,x=.ref a/\(∃ xs,ir K H1 a xs)/\R (sN K a) H1
theorem OY {l:Expr}{tl:TE}(hl:PE X l tl):PI X tg l (Kf X.K tl):=by
 intro pins s σ H R I h;refine iB (hl pins s σ H _ I h) λv s1 zq=>?_;obtain⟨x,H1,I1,r1,q1⟩:=zq;obtain⟨a,e,⟨xs,hq⟩,q⟩:=q1;subst e;cases r1;obtain⟨ij,rv,p,hz⟩:=I1.list hq;refine wpAny_pyIter_list p.isList ?_;refine⟨s1.heap.objs.size,[s1.heap.objs.size],_,_,H1,rfl,I1.kept (t':=s1.toks) λb o e=>uf _ e,SW a _,⟨_,uA _ rfl,rfl,rfl⟩,λb hb=>?_,q⟩;have e:b=s1.heap.objs.size:=by simpa using hb
 subst e;exact I1.fpOk (ui _) (I1.hok.fresh (ui _))
theorem MV {l:Expr}{tl:TE}(hl:PE X l tl):PI X tg l (pN X.K tl):=by
 intro pins s σ H R I h;refine iB (hl pins s σ H _ I h) λv s1 zq=>?_;obtain⟨x,H1,I1,r1,q1⟩:=zq;obtain⟨a,e,⟨xs,hq⟩,q⟩:=q1;subst e;cases r1;obtain⟨ij,rv,p,hz⟩:=I1.tuple hq;refine wpAny_pyIter_tuple (show s1.heap.IsTuple a ij.toArray from p) ?_;refine⟨s1.heap.objs.size,[s1.heap.objs.size],_,_,H1,rfl,I1.kept (t':=s1.toks) λb o e=>uf _ e,zaP a _,⟨_,uA _ rfl,rfl,rfl⟩,λb hb=>?_,q⟩;have e:b=s1.heap.objs.size:=by simpa using hb
 subst e;exact I1.fpOk (ui _) (I1.hok.fresh (ui _))
theorem Rq {pins:Lp}{σ:St}{H:Hp}{s:Shared}{R:It->Hp->Prop}{E:fV}{lo hi:Int}{t u v:Tok}{tk:Nat}(I:Inv X pins σ H s)(h1:-(2 ^ 62)<=lo)(h2:lo<2 ^ 62)(h3:-(2 ^ 62)<=hi)(h4:hi<2 ^ 62) (q:R (AB lo (hi - lo).toNat) H):fW X (pyIter (.ref s.heap.objs.size)) (t5 X pins σ tg R) E { s with heap:=s.heap.push { cls:=.type "range",data:=.fields #[.int lo t,.int hi u,.int 1 v] },toks:=tk }:=by
 refine wpAny_pyIter_range (IsRange.new ..) (small_one h1 h2 h3 h4) ?_;have I1:Inv X pins σ H { s with heap:=s.heap.push { cls:=.type "range",data:=.fields #[.int lo t,.int hi u,.int 1 v] },toks:=tk }:=I.kept λb o e=>uf _ e
 refine⟨(s.heap.push { cls:=.type "range",data:=.fields #[.int lo t,.int hi u,.int 1 v] }).objs.size,[(s.heap.push { cls:=.type "range",data:=.fields #[.int lo t,.int hi u,.int 1 v] }).objs.size],_,_,H,rfl,
  I1.kept (t':=tk) λb o e=>uf _ e,zaQ _ lo (hi - lo).toNat,?_,λb hb=>?_,q⟩
 ·have e1:lo+((0:Nat):Int) * 1=lo:=by simp
  have e2:(((hi - lo).toNat:Nat):Int) - ((0:Nat):Int)=Builtin.Range.rangeSize lo hi 1:=by rw [rangeSize_one];split<;>lia
  show IsRangeIter _ _ (lo+((0:Nat):Int) * 1) ((((hi - lo).toNat:Nat):Int) - ((0:Nat):Int)) 1;rw [e1,e2];exact uA _ rfl
 ·have e:b=(s.heap.push { cls:=.type "range",data:=.fields #[.int lo t,.int hi u,.int 1 v] }).objs.size:=by simpa using hb
  subst e;exact I1.fpOk (ui _) (I1.hok.fresh (ui _))
def Bc (ta:TA):TI:=λσ H R=>ta σ H λvs H1=>∃ j:Int,vs=[.int j]/\-(2 ^ 62)<=j/\j<2 ^ 62/\R (AB 0 j.toNat) H1
theorem SV {a:Expr}{ta:TA}{p pos:Pos}(hg:Gl X "range")(hm:X.mg "range" = none)(ha:PA X [a] ta)(hs:starEach [a] X.env=[(false,eval a X.env)]:=by rfl):PI X tg (.Call (.Name "range" p) [a] [] pos) (Bc ta):=by
 intro pins s σ H R I h;refine Call_ (W9 I hg hm boot_range (PyProof.Rows.callWith_type1 (iB (ha pos pins s σ H _ I h) λus s1 zq=>?_) hs rfl));obtain⟨vs,H1,I1,r1,q1⟩:=zq;obtain⟨j,e,q1,q2,q⟩:=q1;subst e;cases r1 with
 | cons r rr=>cases rr;obtain⟨t,rfl⟩:=r;exact call_range_1 (Rq I1 (by omega) (by omega) q1 q2 (by simpa using q))
def rF (wi:TI)(g:TG)(tb:TS):TS:=λD σ H=>wi σ H λJ H1=>∃ W:Nat->Nat->St->Hp->Prop,(∃ m,W 0 m σ H1)/\∀ i m σ H,W i m σ H ->
 (J.stop i H/\D.nx σ H)\/(J.go i H/\∃ N:St->Hp->Prop,(∀ σ' H',N σ' H'->∃ m',m' < m/\W (i+1) m' σ' H')/\∀ x H',J.yld i H x H'->g x σ H' λσ2 H2=>tb { D with nx:=N,ct:=N,bk:=D.nx } σ2 H2)
def JF (fp:Le)(h:Heap):Lp:=fp.filterMap λb=>(h.get? b).map λo=>(b,o)
theorem kz {h:Heap}(hb:b∈fp)(e:h.get? b=some o):(b,o)∈JF fp h:=List.mem_filterMap.mpr ⟨b,hb,by rw [e];rfl⟩
theorem SU {h:Heap}(hp:p∈JF fp h):p.1∈fp/\h.get? p.1=some p.2:=by
 obtain⟨b,hb,e⟩:=List.mem_filterMap.mp hp;cases q:h.get? b with
 | none=>rw [q] at e;cases e
 | some o=>rw [q] at e;have e':(b,o)=p:=uH e;subst e';exact⟨hb,q⟩
theorem Inv.pinned {pins:Lp}{s:Shared}(I:Inv X pins σ H s)(hf:∀ b∈fp,lT X pins H b)(ho:∀ b∈fp,∃ o,s.heap.get? b=some o/\∀ v,o.data≠.cell v):Inv X (pins++JF fp s.heap) σ H s:=
 I.pins_of λp hp=>(u6.mp hp).elim (λz=>I.pin p (uS _ z)) λz=>by
  obtain⟨hb,e⟩:=SU z
  obtain⟨f0,f1,f2,_⟩:=hf p.1 hb
  obtain⟨o,e',d⟩:=ho p.1 hb
  rw [e] at e';cases e'
  exact⟨e,f0,f1,f2,d⟩
theorem Inv.unpinned {pins pl:Lp}(I:Inv X (pins++pl) σ H s):Inv X pins σ H s:=I.pins_of λp hp=>I.pin p (uS _ (uY _ hp))
theorem MU {iter:Expr}{body:List Stmt}{wi:TI}{g:TG}{tb:TS}{pos:Pos}(hp:PassesOwn (model X.prog X.w) X.A X.env X.xe)(hc:X.calm=true)(hi:PI X tg iter wi)(hg:PG X tg g)(hb:lS X body tb) (hs:∀ x,foldedSetIterable iter X.env x=pure x:=by intro _;rfl):PS X (.For tg iter body [] pos) (rF wi g tb):=by
 intro pins s σ H D I h;refine wpAny_For (iB (hi pins s σ H _ I h) λv s1 h1=>iB h1 λitv s2 h2=>?_) hs;obtain⟨it,fp,tn,J,H2,e,I2,T,st2,f2,W,⟨m0,w0⟩,turn⟩:=h2;subst e;have stat:∀ {H':Hp},(∀ b∈fp,H' b=none)->∀ b∈fp,lT X pins H' b:=λhn b hb=>⟨hn b hb,(f2 b hb).2⟩
 refine codeAny_forLoop_any (λn s'=>∃ i σ' H',Inv X pins σ' H' s'/\tn i s'.heap/\(∀ b∈fp,H' b=none)/\W i n σ' H') ?_ m0 ⟨0,σ,H2,I2,st2,λb hb=>(f2 b hb).1,w0⟩;rintro n s3 ⟨i,σ3,H3,I3,st3,fr3,w3⟩;rcases turn i n σ3 H3 w3 with⟨stop,qn⟩ | ⟨go,N,hN,step⟩
 ·refine Uq hp (iB (T.done X rfl rfl rfl hc i pins s3 σ3 H3 X.xe I3 (stat fr3) st3 stop) λr s4 zq=>?_);obtain⟨hr,I4⟩:=zq;subst hr;exact UP ⟨σ3,H3,I4,qn⟩
 ·refine Uq hp (iB (T.item X rfl rfl rfl hc i pins s3 σ3 H3 X.xe I3 (stat fr3) st3 go) λr s4 zq=>?_);obtain⟨u,hr,h4⟩:=zq;subst hr;refine Uq hp (iB h4 λ_ s5 zq=>?_);obtain⟨x,H5,I5,r5,y5,st5,fr5⟩:=zq;have I5':=I5.pinned (stat fr5) (T.obj _ _ st5);refine Uq hp (iB (hg _ s5 σ3 H5 x u _ I5' r5 (step x H5 y5)) λ_ s6 zq=>?_);obtain⟨σ6,H6,I6,q6⟩:=zq;refine Uq hp (iB (hb _ s6 σ6 H6 _ I6 q6) λf s7 q7=>?_);have again:∀ {σ7:St} {H7:Hp},Inv X (pins++JF fp s5.heap) σ7 H7 s7->N σ7 H7->∃ m,m<n/\∃ i σ' H',Inv X pins σ' H' s7/\tn i s7.heap/\(∀ b∈fp,H' b=none)/\W i m σ' H':=λ{σ7 H7} I7 n7=>by obtain⟨m',hm,w7⟩:=hN σ7 H7 n7;refine⟨m',hm,i+1,σ7,H7,I7.unpinned,T.keep _ _ _ st5 λb hb o e=>(I7.pin (b,o) (uS _ (uS _ (kz hb e)))).1,λb hb=>?_,w7⟩;obtain⟨o,e,d⟩:=T.obj _ _ st5 b hb;exact(I7.pin (b,o) (uS _ (uS _ (kz hb e)))).2.1
  cases f with
  | next=>obtain⟨σ7,H7,I7,n7⟩:=q7;exact again I7 n7
  | cont=>obtain⟨σ7,H7,I7,n7⟩:=q7;exact again I7 n7
  | brk=>obtain⟨σ7,H7,I7,q7⟩:=q7;exact⟨σ7,H7,I7.unpinned,q7⟩
  | ret v=>obtain⟨x7,σ7,H7,I7,r7,q7⟩:=q7;exact⟨x7,σ7,H7,I7.unpinned,r7,q7⟩
end
theorem Sf {K:Lf}{a:Addr}{xs:List V}{g:TG}{tb:TS}{D:Ends}{σ:St}{H:Hp}(Pv:Nat->St->Hp->Prop)(h0:Pv 0 σ H)(hl:∀ i σ H,i<=xs.length->Pv i σ H->iA K H a xs) (hs:∀ i x σ H,xs[i]? = some x->Pv i σ H->g x σ H λσ2 H2=>tb { D with nx:=Pv (i+1),ct:=Pv (i+1),bk:=D.nx } σ2 H2) (hd:∀ σ H,Pv xs.length σ H->D.nx σ H) : ∃ W:Nat->Nat->St->Hp->Prop,(∃ m,W 0 m σ H)/\∀ i m σ H,W i m σ H -> ((sP K a).stop i H/\D.nx σ H)\/((sP K a).go i H/\∃ N:St->Hp->Prop,(∀ σ' H',N σ' H'->∃ m',m' < m/\W (i+1) m' σ' H')/\∀ x H',(sP K a).yld i H x H'->g x σ H' λσ2 H2=>tb { D with nx:=N,ct:=N,bk:=D.nx } σ2 H2):=by
 refine⟨λi m σ H=>m=xs.length - i/\i<=xs.length/\Pv i σ H,⟨xs.length,by simp,uZ _,h0⟩,?_⟩;rintro i m σ H ⟨rfl,hi,p⟩;have q:=hl i σ H hi p;by_cases hlt:i<xs.length
 ·refine .inr ⟨⟨xs,xs[i],q,by simp [hlt]⟩,Pv (i+1),λσ' H' p'=>⟨xs.length - (i+1),by lia,rfl,hlt,p'⟩,λx H' y=>?_⟩;obtain⟨e,y⟩:=y;subst e;exact hs i x σ _ (y xs q) p
 ·have e:i=xs.length:=by lia
  subst e;exact .inl ⟨⟨xs,q,ui _⟩,hd σ H p⟩
theorem OX {K:Lf}{a:Addr}{xs:List V}{g:TG}{tb:TS}{D:Ends}{σ:St}{H:Hp}(Pv:Nat->St->Hp->Prop)(h0:Pv 0 σ H)(hl:∀ i σ H,i<=xs.length->Pv i σ H->ir K H a xs) (hs:∀ i x σ H,xs[i]? = some x->Pv i σ H->g x σ H λσ2 H2=>tb { D with nx:=Pv (i+1),ct:=Pv (i+1),bk:=D.nx } σ2 H2) (hd:∀ σ H,Pv xs.length σ H->D.nx σ H) : ∃ W:Nat->Nat->St->Hp->Prop,(∃ m,W 0 m σ H)/\∀ i m σ H,W i m σ H -> ((sN K a).stop i H/\D.nx σ H)\/((sN K a).go i H/\∃ N:St->Hp->Prop,(∀ σ' H',N σ' H'->∃ m',m' < m/\W (i+1) m' σ' H')/\∀ x H',(sN K a).yld i H x H'->g x σ H' λσ2 H2=>tb { D with nx:=N,ct:=N,bk:=D.nx } σ2 H2):=by
 refine⟨λi m σ H=>m=xs.length - i/\i<=xs.length/\Pv i σ H,⟨xs.length,by simp,uZ _,h0⟩,?_⟩;rintro i m σ H ⟨rfl,hi,p⟩;have q:=hl i σ H hi p;by_cases hlt:i<xs.length
 ·refine .inr ⟨⟨xs,xs[i],q,by simp [hlt]⟩,Pv (i+1),λσ' H' p'=>⟨xs.length - (i+1),by lia,rfl,hlt,p'⟩,λx H' y=>?_⟩;obtain⟨e,y⟩:=y;subst e;exact hs i x σ _ (y xs q) p
 ·have e:i=xs.length:=by lia
  subst e;exact .inl ⟨⟨xs,q,ui _⟩,hd σ H p⟩
abbrev R2:=V->V->Hp->VK->Prop
def iY (X:Cx)(f:Value->Value->Sem Value)(r:R2):Prop:= ∀ (pins:Lp) (s:Shared) (σ:St) (H:Hp) (x y:V) (v u:Value) (Q:VK),Inv X pins σ H s->RelV x v->RelV y u->r x y H Q -> fW X (f v u) (EP X pins σ Q) X.xe s
def Aw (X:Cx)(f:Value->Sem Value)(r:V->Hp->VK->Prop):Prop:= ∀ (pins:Lp) (s:Shared) (σ:St) (H:Hp) (x:V) (v:Value) (Q:VK),Inv X pins σ H s->RelV x v->r x H Q -> fW X (f v) (EP X pins σ Q) X.xe s
def jx (X:Cx)(f:Value)(r:List V->Hp->VK->Prop):Prop:= ∀ (pins:Lp) (s:Shared) (σ:St) (H:Hp) (xs:List V) (us:Lg) (Q:VK),Inv X pins σ H s->Vals xs us->r xs H Q -> fW X (call f us) (EP X pins σ Q) X.xe s
def C6 (X:Cx)(r:V->Hp->(Bool->Hp->Prop)->Prop):Prop:= ∀ (pins:Lp) (s:Shared) (σ:St) (H:Hp) (x:V) (v:Value) (Q:Bool->Hp->Prop),Inv X pins σ H s->RelV x v->r x H Q -> fW X (truthy v) (TP X pins σ Q) X.xe s
def nO (r:R2)(ta tb:TE):TE:=λσ H Q=>ta σ H λx H1=>tb σ H1 λy H2=>r x y H2 Q
def BL (r:V->Hp->VK->Prop)(ta:TE):TE:=λσ H Q=>ta σ H λx H1=>r x H1 Q
def rI (C:Int->Int->Prop)(g:Int->Int->V):R2:=λx y H Q=>∃ i j,x=.int i/\y=.int j/\C i j/\Q (g i j) H
def rP (g:Int->Int->V):R2:=λx y H Q=>∃ i j,x=.int i/\y=.int j/\Q (g i j) H
def rU (g:Int->V):V->Hp->VK->Prop:=λx H Q=>∃ i,x=.int i/\Q (g i) H
section
variable {X:Cx} {a b c:Expr} {ta tb tc:TE} {pos:Pos}
theorem sf (ha:PE X a ta)(hb:PE X b tb){pins:Lp}{s:Shared}{σ:St}{H:Hp}{R:V->V->Hp->Prop}(I:Inv X pins σ H s) (h:ta σ H λx H1=>tb σ H1 λy H2=>R x y H2) {Q:fV} {f:Value->Value->Sem Value} (hf:∀ v u s2 x y H2,Inv X pins σ H2 s2->RelV x v->RelV y u->R x y H2->fW X (f v u) Q X.xe s2) : fW X (eval a X.env) (λv s₁=>fW X (eval b X.env) (λu s₂=>fW X (f v u) Q X.xe s₂) X.xe s₁) X.xe s:=by refine iB (ha pins s σ H _ I h) λv s1 zq=>?_;obtain⟨x,H1,I1,r1,q1⟩:=zq;refine iB (hb pins s1 σ H1 _ I1 q1) λu s2 zq=>?_;obtain⟨y,H2,I2,r2,q2⟩:=zq;exact hf v u s2 x y H2 I2 r1 r2 q2
theorem IY (ho:iY X (binaryOp op) r)(ha:PE X a ta)(hb:PE X b tb):PE X (.BinOp a op b pos) (nO r ta tb):=by intro pins s σ H Q I h;exact wpAny_BinOp (sf ha hb I h λv u s2 x y H2 I2 rx ry q=>ho pins s2 σ H2 x y v u Q I2 rx ry q)
theorem Du {op:UnaryOp}{r:V->Hp->VK->Prop}(ho:Aw X (unaryOp op) r)(ha:PE X a ta):PE X (.UnaryOp op a pos) (BL r ta):=by intro pins s σ H Q I h;exact UnaryOp_ (iB (ha pins s σ H _ I h) λv s1 ⟨x,H1,I1,r1,q1⟩=>ho pins s1 σ H1 x v Q I1 r1 q1)
theorem tL {f:Value->Value->Sem Value}{C:Int->Int->Prop}{g:Int->Int->Int} (rule:∀ (i j:Int) (t u:Tok) (s:Shared) (Q:fV) (E:fV),C i j->Q (.int (g i j) s.toks) { s with toks:=s.toks+1 }->fW X (f (.int i t) (.int j u)) Q E s) : iY X f (rI C λi j=>.int (g i j)):=by intro pins s σ H x y v u Q I rx ry h;obtain⟨i,j,rfl,rfl,hc,q⟩:=h;obtain⟨t,rfl⟩:=rx;obtain⟨t',rfl⟩:=ry;exact rule i j t t' s _ _ hc ⟨.int (g i j),H,I.tok _,⟨_,rfl⟩,q⟩
theorem tK {f:Value->Value->Sem Value}{g:Int->Int->Int} (rule:∀ (i j:Int) (t u:Tok) (s:Shared) (Q:fV) (E:fV),Q (.int (g i j) s.toks) { s with toks:=s.toks+1 }->fW X (f (.int i t) (.int j u)) Q E s) : iY X f (rP λi j=>.int (g i j)):=by intro pins s σ H x y v u Q I rx ry h;obtain⟨i,j,rfl,rfl,q⟩:=h;obtain⟨t,rfl⟩:=rx;obtain⟨t',rfl⟩:=ry;exact rule i j t t' s _ _ ⟨.int (g i j),H,I.tok _,⟨_,rfl⟩,q⟩
theorem tM {f:Value->Value->Sem Value}{g:Int->Int->Bool} (rule:∀ (i j:Int) (t u:Tok) (s:Shared) (Q:fV) (E:fV),Q (.bool (g i j)) s->fW X (f (.int i t) (.int j u)) Q E s) : iY X f (rP λi j=>.bl (g i j)):=by intro pins s σ H x y v u Q I rx ry h;obtain⟨i,j,rfl,rfl,q⟩:=h;obtain⟨t,rfl⟩:=rx;obtain⟨t',rfl⟩:=ry;exact rule i j t t' s _ _ ⟨.bl (g i j),H,I,rfl,q⟩
def Di (i j:Int):Prop:=0<j/\j<1073741824
def Ab (i j:Int):Prop:=0<=j/\j<=1000000/\i.natAbs<2 ^ 64
def p7 (i j:Int):Prop:=(-(2 ^ 64)<i/\i<2 ^ 64)\/(-(2 ^ 64)<j/\j<2 ^ 64)
theorem p7.ok (h:p7 i j):IntMulOk i j:=by
 rcases h with⟨h1,h2⟩ | ⟨h1,h2⟩
 ·exact .of_left (intBits_le_64 h1 h2)
 ·exact .of_right (intBits_le_64 h1 h2)
theorem zaR (k:Nat):(0:Int)<=2 ^ k:=by rw [two_pow_cast];exact Int.natCast_nonneg _
theorem qZ:iY X (binaryOp .Add) (rP λi j=>.int (i+j)):=tK λ_ _ _ _ _ _ _ q=>add_int q
theorem Xb:iY X (binaryOp .Sub) (rP λi j=>.int (i - j)):=tK λ_ _ _ _ _ _ _ q=>sub_int q
theorem OW:iY X (binaryOp .FloorDiv) (rI Di λi j=>.int (i / j)):=tL λi j _ _ _ _ _ hc q=>by have h1:(0:Int)<j:=hc.1;have h2:j<1073741824:=hc.2;exact floordiv_int (by lia) (by rw [G8 i (by lia)];exact q) (.inl (PyProof.noPylong_small (by lia)))
theorem xG:iY X (binaryOp .Mod) (rI (λ_ j=>0<j) λi j=>.int (i % j)):=tL λi j _ _ _ _ _ hc q=>by have h1:(0:Int)<j:=hc;exact mod_int' (by lia) (by rw [Int.fmod_eq_emod_of_nonneg i (by lia)];exact q)
theorem Xc:iY X (binaryOp .Pow) (rI Ab λi j=>.int (i ^ j.toNat)):=tL λ_ _ _ _ _ _ _ hc q=>pow_int_small hc.1 hc.2.1 hc.2.2 q
theorem D9:iY X (binaryOp .RShift) (rI (λ_ j=>0<=j) λi j=>.int (i / 2 ^ j.toNat)):=tL λi j _ _ _ _ _ hc q=>
 rshift_int hc (by rw [G8 i (zaR _)];exact q)
theorem unI {f:Value->Sem Value}{g:Int->Int} (rule:∀ (i:Int) (t:Tok) (s:Shared) (Q:fV) (E:fV),Q (.int (g i) s.toks) { s with toks:=s.toks+1 }->fW X (f (.int i t)) Q E s) : Aw X f (rU λi=>.int (g i)):=by intro pins s σ H x v Q I rx h;obtain⟨i,rfl,q⟩:=h;obtain⟨t,rfl⟩:=rx;exact rule i t s _ _ ⟨.int (g i),H,I.tok _,⟨_,rfl⟩,q⟩
theorem VS:Aw X (unaryOp .USub) (rU λi=>.int (-i)):=unI λ_ _ _ _ _ q=>neg_int q
end
def md:V->V->Bool
 | .non,.non=>true | .non,.int _=>true | .int _,.non=>true | .non,.bl _=>true | .bl _,.non=>true | .non,.str _=>true | .str _,.non=>true
 | .int _,.int _=>true | .bl _,.bl _=>true | .str _,.str _=>true | .byt _,.byt _=>true
 | .int _,.str _=>true | .str _,.int _=>true | .bl _,.str _=>true | .str _,.bl _=>true
 | _,_=>false
def FF:R2:=λx y H Q=>md x y=true/\Q (.bl (decide (x=y))) H
def FE:R2:=λx y H Q=>md x y=true/\Q (.bl (!decide (x=y))) H
theorem EM:decide (V.int i=V.int j)=(i == j):=by rw [UM];simp
theorem D8:decide (V.bl i=V.bl j)=(i == j):=by rw [UM];simp
theorem EL:decide (V.str i=V.str j)=(i == j):=by rw [UM];simp
theorem EK {i j:Array UInt8}:decide (V.byt i=V.byt j)=(i.toList == j.toList):=by rw [UM];cases i;cases j;simp
section
variable {X:Cx} {a b c:Expr} {ta tb tc:TE} {pos:Pos}
theorem zO {pins:Lp}(I:Inv X pins σ H s)(q:Q (.bl k) H)(e:k=k'):EP X pins σ Q (.bool k') s:=by subst e;exact⟨.bl k,H,I,rfl,q⟩
theorem zx:iY X (compareOp .Eq) FF:=by
 intro pins s σ H x y v u Q I rx ry h;obtain⟨hs,q⟩:=h;cases x with
 | non=>
  cases rx;cases y with
  | non=>cases ry;exact PySem.EqNone.eq_none_none (zO I q (by simp))
  | bl j=>cases ry;exact PySem.EqNone.eq_none_bool (zO I q (by simp))
  | int j=>obtain⟨t',rfl⟩:=ry;exact PySem.EqNone.eq_none_int (zO I q (by simp))
  | str j=>obtain⟨t',rfl⟩:=ry;exact PySem.EqNone.eq_none_str (zO I q (by simp))
  | _=>exact absurd (show false=true from hs) uE
 | bl i=>
  cases rx;cases y with
  | non=>cases ry;exact PySem.EqNone.eq_bool_none (zO I q (by simp))
  | bl j=>cases ry;exact eq_bool (zO I q D8)
  | str j=>obtain⟨t',rfl⟩:=ry;exact PySem.EqMixed.eq_bool_str (zO I q (by simp))
  | _=>exact absurd (show false=true from hs) uE
 | int i=>
  obtain⟨t,rfl⟩:=rx;cases y with
  | non=>cases ry;exact PySem.EqNone.eq_int_none (zO I q (by simp))
  | int j=>obtain⟨t',rfl⟩:=ry;exact eq_int (zO I q EM)
  | str j=>obtain⟨t',rfl⟩:=ry;exact PySem.EqMixed.eq_int_str (zO I q (by simp))
  | _=>exact absurd (show false=true from hs) uE
 | str i=>
  obtain⟨t,rfl⟩:=rx;cases y with
  | non=>cases ry;exact PySem.EqNone.eq_str_none (zO I q (by simp))
  | bl j=>cases ry;exact PySem.EqMixed.eq_str_bool (zO I q (by simp))
  | int j=>obtain⟨t',rfl⟩:=ry;exact PySem.EqMixed.eq_str_int (zO I q (by simp))
  | str j=>obtain⟨t',rfl⟩:=ry;exact eq_str (zO I q EL)
  | _=>exact absurd (show false=true from hs) uE
 | byt i=>
  obtain⟨t,rfl⟩:=rx;cases y with
  | byt j=>obtain⟨t',rfl⟩:=ry;exact PySem.W.eq_bytes (zO I q EK)
  | _=>exact absurd (show false=true from hs) uE
 | _=>cases y<;>exact absurd (show false=true from hs) uE
theorem Ba:iY X (compareOp .NotEq) FE:=by
 intro pins s σ H x y v u Q I rx ry h;obtain⟨hs,q⟩:=h;cases x with
 | non=>
  cases rx;cases y with
  | non=>cases ry;exact PySem.EqNone.ne_none_none (zO I q (by simp))
  | bl j=>cases ry;exact PySem.EqNone.ne_none_bool (zO I q (by simp))
  | int j=>obtain⟨t',rfl⟩:=ry;exact PySem.EqNone.ne_none_int (zO I q (by simp))
  | str j=>obtain⟨t',rfl⟩:=ry;exact PySem.EqNone.ne_none_str (zO I q (by simp))
  | _=>exact absurd (show false=true from hs) uE
 | bl i=>
  cases rx;cases y with
  | non=>cases ry;exact PySem.EqNone.ne_bool_none (zO I q (by simp))
  | bl j=>cases ry;exact ne_bool (zO I q (congrArg not D8))
  | str j=>obtain⟨t',rfl⟩:=ry;exact PySem.EqMixed.ne_bool_str (zO I q (by simp))
  | _=>exact absurd (show false=true from hs) uE
 | int i=>
  obtain⟨t,rfl⟩:=rx;cases y with
  | non=>cases ry;exact PySem.EqNone.ne_int_none (zO I q (by simp))
  | int j=>obtain⟨t',rfl⟩:=ry;exact ne_int (zO I q (congrArg not EM))
  | str j=>obtain⟨t',rfl⟩:=ry;exact PySem.EqMixed.ne_int_str (zO I q (by simp))
  | _=>exact absurd (show false=true from hs) uE
 | str i=>
  obtain⟨t,rfl⟩:=rx;cases y with
  | non=>cases ry;exact PySem.EqNone.ne_str_none (zO I q (by simp))
  | bl j=>cases ry;exact PySem.EqMixed.ne_str_bool (zO I q (by simp))
  | int j=>obtain⟨t',rfl⟩:=ry;exact PySem.EqMixed.ne_str_int (zO I q (by simp))
  | str j=>obtain⟨t',rfl⟩:=ry;exact ne_str (zO I q (congrArg not EL))
  | _=>exact absurd (show false=true from hs) uE
 | byt i=>
  obtain⟨t,rfl⟩:=rx;cases y with
  | byt j=>obtain⟨t',rfl⟩:=ry;exact PySem.W.ne_bytes (zO I q (congrArg not EK))
  | _=>exact absurd (show false=true from hs) uE
 | _=>cases y<;>exact absurd (show false=true from hs) uE
theorem Ad:iY X (compareOp .Lt) (rP λi j=>.bl (decide (i<j))):=tM λ_ _ _ _ _ _ _ q=>lt_int q
theorem Xd:iY X (compareOp .Gt) (rP λi j=>.bl (decide (j<i))):=tM λ_ _ _ _ _ _ _ q=>gt_int q
theorem Vp:iY X (compareOp .In) (λx y H Q=>∃ i j,x=.str i/\y=.str j/\Q (.bl (!(Builtin.Str.occurrences j i 0 j.length 1).isEmpty)) H):=by intro pins s σ H x y v u Q I rx ry h;obtain⟨i,j,rfl,rfl,q⟩:=h;obtain⟨t,rfl⟩:=rx;obtain⟨t',rfl⟩:=ry;exact in_str (zO I q rfl)
theorem JG:iY X (compareOp .Is) (λx y H Q=>y=.non/\Q (.bl (decide (x=.non))) H):=by
 intro pins s σ H x y v u Q I rx ry h;obtain⟨rfl,q⟩:=h;cases ry;refine is_none_gen (zO I q ?_)
 cases x<;>first
  | (cases rx;rfl)
  | (obtain⟨t,rfl⟩:=rx;rfl)
theorem VT:iY X (compareOp .IsNot) (λx y H Q=>y=.non/\Q (.bl (!decide (x=.non))) H):=by
 intro pins s σ H x y v u Q I rx ry h;obtain⟨rfl,q⟩:=h;cases ry;refine isnot_none_gen (zO I q ?_)
 cases x<;>first
  | (cases rx;rfl)
  | (obtain⟨t,rfl⟩:=rx;rfl)
theorem VU:iY X (compareOp .NotIn) (λx y H Q=>∃ i j,x=.str i/\y=.str j/\Q (.bl (!(!(Builtin.Str.occurrences j i 0 j.length 1).isEmpty))) H):=by intro pins s σ H x y v u Q I rx ry h;obtain⟨i,j,rfl,rfl,q⟩:=h;obtain⟨t,rfl⟩:=rx;obtain⟨t',rfl⟩:=ry;exact notIn_str (zO I q rfl)
theorem iY.or (h:iY X f r)(h':iY X f r'):iY X f (λx y H Q=>r x y H Q\/r' x y H Q):=by
 intro pins s σ H x y v u Q I rx ry q;rcases q with q | q
 ·exact h pins s σ H x y v u Q I rx ry q
 ·exact h' pins s σ H x y v u Q I rx ry q
theorem D7 (b:Expr)(h:op≠.In:=by decide) (h2:op≠.NotIn:=by decide):behindInMarks op b=false:=by
 have e1:(op == CmpOp.In)=false:=by cases op<;>first | rfl | exact absurd rfl h
 have e2:(op == CmpOp.NotIn)=false:=by cases op<;>first | rfl | exact absurd rfl h2
 cases b<;>simp [behindInMarks,e1,e2]
theorem PC (ho:iY X (compareOp op) r)(ha:PE X a ta)(hb:PE X b tb)(hm:behindInMarks op b=false):PE X (.Compare a [op] [b] pos) (nO r ta tb):=by intro pins s σ H Q I h;exact wpAny_Compare1 (sf ha hb I h λv u s2 x y H2 I2 rx ry q=>ho pins s2 σ H2 x y v u Q I2 rx ry q) hm
def Kg (t:TE):TT:=λσ H Q=>t σ H λx H'=>∃ k,x=.bl k/\Q k H'
theorem PB {op:CmpOp}{r:R2}(ho:iY X (compareOp op) r)(ha:PE X a ta)(hb:PE X b tb)(hm:behindInMarks op b=false):PT X (.Compare a [op] [b] pos) (Kg (nO r ta tb)):=by
 intro pins s σ H Q I h
 refine wpAny_isTrue_Compare1 (iB (ha pins s σ H _ I h) λv s1 ⟨x,H1,I1,r1,q1⟩=>iB (hb pins s1 σ H1 _ I1 q1) λu s2 ⟨y,H2,I2,r2,q2⟩=>
  iB (ho pins s2 σ H2 x y v u _ I2 r1 r2 q2) λc s3 ⟨z,H3,I3,r3,k,e,q3⟩=>?_) hm
 subst e;cases r3;exact gG ⟨H3,I3,q3⟩
def nW (K:Lf)(x:V)(H:Hp)(k:Bool):Prop:=
 match x with
 | .non=>k=false
 | .bl b=>k=b
 | .int i=>k=(i != 0)
 | .str y=>y.length<=sizeLine/\k=((y.length:Int) != 0)
 | .byt y=>y.size<=sizeLine/\k=((y.size:Int) != 0)
 | .ref p=>(∃ xs,iA K H p xs/\k = !xs.isEmpty)\/(∃ xs,ir K H p xs/\k = !xs.isEmpty)\/∃ kvs,H p=some (.dK kvs)/\k = !kvs.isEmpty
 | _=>False
theorem zaS {κ:Type}{kvs:List (κ×V)}{vs:List (κ×Value)}(r:KV kvs vs):(!vs.isEmpty) = !kvs.isEmpty:=by cases r<;>rfl
theorem Xe {xs:List V}{ij:Lg}(r:Vals xs ij):(!ij.toArray.isEmpty) = !xs.isEmpty:=by cases r<;>simp
theorem Qo:(sizeLine:Nat)<2 ^ 63:=by rw [uR];decide
theorem Nv:C6 X (λx H Q=>∃ k,nW X.K x H k/\Q k H):=by
 intro pins s σ H x v Q I rx h;obtain⟨k,e,q⟩:=h;have hl:=Qo;have hs:sizeLine=16777216:=uR;cases x with
 | non=>cases rx;have e':k=false:=e;subst e';exact truthy_none ⟨H,I,q⟩
 | bl b=>cases rx;have e':k=b:=e;subst e';exact gG ⟨H,I,q⟩
 | int i=>obtain⟨t,rfl⟩:=rx;have e':k=(i != 0):=e;subst e';exact PySem.P.truthy_int ⟨H,I,q⟩
 | str y=>obtain⟨t,rfl⟩:=rx;obtain⟨hy,e'⟩:y.length<=sizeLine/\k=((y.length:Int) != 0):=e;subst e';exact PySem.P.truthy_str (by omega) ⟨H,I.tok _,q⟩
 | byt y=>obtain⟨t,rfl⟩:=rx;obtain⟨hy,e'⟩:y.size<=sizeLine/\k=((y.size:Int) != 0):=e;subst e';exact PySem.W.truthy_bytes (by omega) ⟨H,I.tok _,q⟩
 | ref p=>
  cases rx;have e':(∃ xs,iA X.K H p xs/\k = !xs.isEmpty)\/(∃ xs,ir X.K H p xs/\k = !xs.isEmpty)\/∃ kvs,H p=some (.dK kvs)/\k = !kvs.isEmpty:=e;rcases e' with⟨xs,hx,e'⟩ | ⟨xs,hx,e'⟩ | ⟨kvs,hx,e'⟩
  ·subst e';obtain⟨ij,r,pl,hz⟩:=I.list hx;have hlen:=r.length;exact wpAny_truthy_list pl.isList (by simp only [uh];lia) ⟨H,I.tok _,by rw [Xe r];exact q⟩
  ·subst e';obtain⟨ij,r,pl,hz⟩:=I.tuple hx;have hlen:=r.length;exact truthy_tuple pl (by simp only [uh];lia) ⟨H,I.tok _,by rw [Xe r];exact q⟩
  ·subst e';obtain⟨hz,hS,vs,r,m⟩:kvs.length<=sizeLine/\(p == sysModules)=false/\∃ vs,KV kvs vs/\s.heap.DictOf (qm X.prog X.w) p vs:=I.hok p _ hx;have hlen:kvs.length=vs.length:=Paired.length r;exact wpAny_truthy_dict hS m (by lia) ⟨H,I.tok _,by rw [zaS r];exact q⟩
 | _=>exact(show False from e).elim
theorem Se (ha:PE X a ta)(he:∀ whole,isTrue a X.env whole=(do let v ← whole;standAt a.pos;holding [v] (truthy v))) :
  PT X a (λσ H Q=>ta σ H λx H'=>∃ k,nW X.K x H' k/\Q k H'):=by
 intro pins s σ H Q I h
 exact hZ (iB (ha pins s σ H _ I h) λv s1 ⟨x,H1,I1,r1,q1⟩=>Nv pins s1 σ H1 x v Q I1 r1 q1) (he _)
theorem zaT:iY X (binaryOp .Add) (λx y H Q=>∃ i j,x=.str i/\y=.str j/\i.length+j.length<=sizeLine/\Q (.str (i++j)) H):=by intro pins s σ H x y v u Q I rx ry h;obtain⟨i,j,rfl,rfl,hz,q⟩:=h;obtain⟨t,rfl⟩:=rx;obtain⟨t',rfl⟩:=ry;exact add_str (λt' tk=>⟨.str (i++j),H,I.tok _,⟨_,rfl⟩,q⟩) hz
theorem vals1 (r:Vals [x] us):∃ u,us=[u]/\RelV x u:=by
 cases r with
 | cons r1 r2=>cases r2;exact⟨_,rfl,r1⟩
theorem vals2 (r:Vals [x,y] us):∃ u w',us=[u,w']/\RelV x u/\RelV y w':=by
 cases r with
 | cons r1 r2=>
  cases r2 with
  | cons r3 r4=>cases r4;exact⟨_,_,rfl,r1,r3⟩
theorem SS (hc:X.calm=true):jx X (.builtin "max") (λxs H Q=>∃ i j,xs=[.int i,.int j]/\Q (.int (if j > i then j else i)) H):=by
 intro pins s σ H xs us Q I r h;obtain⟨i,j,rfl,q⟩:=h;obtain⟨u,w',rfl,⟨t,rfl⟩,⟨t',rfl⟩⟩:=vals2 r;refine max_two_ints (I.ok.hd hc) λh' tk k=>⟨_,H,I.kept k,?_,q⟩
 by_cases hj:j > i
 ·rw [ue hj,ue hj];exact⟨_,rfl⟩
 ·rw [ub hj,ub hj];exact⟨_,rfl⟩
theorem SR (hc:X.calm=true):jx X (.builtin "min") (λxs H Q=>∃ i j,xs=[.int i,.int j]/\Q (.int (if j<i then j else i)) H):=by
 intro pins s σ H xs us Q I r h;obtain⟨i,j,rfl,q⟩:=h;obtain⟨u,w',rfl,⟨t,rfl⟩,⟨t',rfl⟩⟩:=vals2 r;refine min_two_ints (I.ok.hd hc) λh' tk k=>⟨_,H,I.kept k,?_,q⟩
 by_cases hj:j<i
 ·rw [ue hj,ue hj];exact⟨_,rfl⟩
 ·rw [ub hj,ub hj];exact⟨_,rfl⟩
theorem SQ:jx X (.type "int") (λxs H Q=>(∃ i,xs=[.int i]/\Q (.int i) H)\/∃ k,xs=[.bl k]/\Q (.int (if k then 1 else 0)) H):=by
 intro pins s σ H xs us Q I r h;rcases h with⟨i,rfl,q⟩ | ⟨k,rfl,q⟩
 ·obtain⟨u,rfl,t,rfl⟩:=vals1 r;exact call_int_int ⟨.int i,H,I,⟨_,rfl⟩,q⟩
 ·obtain⟨u,rfl,r1⟩:=vals1 r;cases r1;exact call_int_bool ⟨.int (if k then 1 else 0),H,I.tok _,⟨_,rfl⟩,q⟩
end
structure nJ (h:Heap)(x dx C:Addr)(mA:La):Prop where
 obj:h.get? x=some (PySem.W.instObj C dx)
 ns:h.Ns1 dx mA
 ne:dx≠x
theorem Vq {h:Heap}(n:h.Ns1 dx mA):∃ od,h.get? dx=some od/\∀ name,PySem.W.lookIn name od=some (mA name):=by
 obtain⟨o,es,ep,ho,hd,hk,_,hm⟩:=n;refine⟨o,ho,λname=>?_⟩;have e:=hm name;unfold nsFind findBy at e;rw [← Array.find?_toList] at e;unfold PySem.W.lookIn;rw [hd];dsimp only;split
 ·rename_i y q;rw [q] at e;exact congrArg some e
 ·rename_i q;rw [q] at e;have a:es.toList.any (·.refKey)=false:=by rw [List.any_eq_false];intro y hy;obtain⟨z,t,hkey⟩:=hk y (Array.mem_toList_iff.mp hy);simp [DictEntry.refKey,hkey]
  have a':¬ es.toList.any (·.refKey)=true:=by rw [a];exact uE
  rw [ub a'];exact congrArg some e
theorem nJ.look (I:nJ h x dx C mA):∃ od,PySem.W.InstAt h x (PySem.W.instObj C dx) C (some od)/\∀ name,PySem.W.lookIn name od=some (mA name):=
 let ⟨od,ho,hl⟩:=Vq I.ns
 ⟨od,⟨I.obj,rfl,rfl,ho⟩,hl⟩
section
variable {prog:Program} {w:World} {A:Around} {E:fV} {s:Shared} {K:Lf} {x dx C f:Addr} {mA:La} {name:Str} {v:Value}
theorem get_map {expr:Bool}(X:K.In s.heap)(I:nJ s.heap x dx C mA)(hg:PySem.W.plainGet K C name=true)(hh:PySem.W.hasDictIn K C=true) (ha:PySem.W.findIn K (.ref C) name=some none) (hv:mA name=some v) (hv':PySem.W.handedIn v=true) (h:Q v { s with toks:=s.toks+1 }) : wpAny (model prog w) A (getAttr (.ref x) name expr) Q E s:=by obtain⟨od,J,hl⟩:=I.look;exact PySem.W.get_value X J (Gq hg).1 (PySem.W.findObj_own hh ha rfl (by rw [hl,hv])) hv' h
theorem Sb (X:K.In s.heap)(I:nJ s.heap x dx C mA)(hg:PySem.W.plainGet K C name=true) (hf:PySem.W.findIn K (.ref C) name=some (some (.ref f))) (ht:PySem.W.isFn K (.ref f)=true) (hv:mA name=none) (h:Q (.ref f,[.ref x]) s) : wpAny (model prog w) A (getMethod (.ref x) name pl) Q E s:=by obtain⟨od,J,hl⟩:=I.look;exact PySem.W.method_fn X J (Gq hg).1 (Gq hg).2 hf (Ub.mp ht) (by show(PySem.W.lookIn name od).map (·.isSome)=some false;rw [hl,hv];rfl) h
theorem Pz {ns:Lj}(X:K.In s.heap)(I:nJ s.heap x dx C mA) (hs:PySem.W.findIn K (.ref C) "__setattr__" = some (some (.builtin "object.__setattr__"))) (hp:PySem.W.plainOver K C=true) (ht:PySem.W.takerIn K C name=some none) (hh:PySem.W.hasDictIn K C=true) (hw:PySem.Within mA ns) (hsz:ns.length<=sizeLine) (h:∀ h',nJ h' x dx C (λy=>if y=name then some v else mA y)->Heap.SameBut dx s.heap h'->Q () { s with heap:=h',toks:=s.toks+2 }) : wpAny (model prog w) A (setAttr (.ref x) name v) Q E s:=by obtain⟨od,J,hl⟩:=I.look;refine GK X J hs (PySem.W.osa_open (s:={ s with toks:=s.toks+1 }) (r:=none) X J hp ht λb=>?_);obtain⟨cd,hc,hd'⟩:=gI hh;have hx:s.heap.get? x=some ⟨.ref C,some dx,.plain,#[]⟩:=I.obj;refine ua (ud (ua (ua (wpAny_loadPart hx (ua (PySem.W.Looks.here (s:={ s with toks:=s.toks+1 }) (PySem.W.looks_clsIn X hc) ?_))))));rw [hd'];refine ud (a:=some dx) (ua (ud (ua ?_)));refine wpAny_nsSet1 (s:={ s with toks:=s.toks+1 }) I.ns λh' hn2 hs2=>?_;obtain⟨oD,esD,epD,hoD,hdD,hcD⟩:=hn2.count (PySem.Within.cons name v hw);refine ua (wpAny_lookBehind hoD (by rw [hdD];exact pastItsLine_dict (uI hcD (by rw [uo];lia))) ?_);exact ud (h _ ⟨(hs2.2 _ (Ne.symm I.ne)).trans I.obj,hn2,I.ne⟩ hs2)
theorem Sa (X:K.In s.heap)(hm:PySem.W.makesIn K C=true) (hi:PySem.W.findIn K (.ref C) "__init__" = some (some (.ref f))) (hf:PySem.W.typeIn K (.ref f)=some (.type "function")) (h:codeAny (model prog w) (A.under (.builtin "type.__call__" ⟨.ref C::vs,kw⟩)) (.call (.ref f) ⟨.ref (s.heap.objs.size+1)::vs,kw⟩) (PySem.W.InitBack (s.heap.objs.size+1) R) { s with heap:=(s.heap.push PySem.W.emptyDict).push (PySem.W.instObj C s.heap.objs.size) }) : codeAny (model prog w) A (.call (.ref C) ⟨vs,kw⟩) R s:=by obtain⟨hh,g,d,t,os⟩:=s;exact PySem.W.make_core (PySem.W.makes_of X hm) (Gj X hi) (λself=>PySem.W.bind_fn X self hf) (.inl rfl) h
end
def i9 (f:Str)(v:V):List (Str×V)->List (Str×V)
 | []=>[(f,v)]
 | (g,x)::r=>if g=f then(g,v)::r else(g,x)::i9 f v r
theorem Wv (f g:Str)(v:V):∀ fs:List (Str×V),(i9 f v fs).lookup g=if g=f then some v else fs.lookup g
 | []=>by
  show List.lookup g [(f,v)]=_;by_cases h:g=f
  ·have hb:(g == f)=true:=Ub.mpr h;simp only [List.lookup,hb,ue h]
  ·have hb:(g == f)=false:=uO.mpr h;simp only [List.lookup,hb,ub h]
 | (k,x)::r=>by
  have ih:=Wv f g v r;rw [show i9 f v ((k,x)::r)=(if k=f then(k,v)::r else(k,x)::i9 f v r) from rfl];by_cases hk:k=f
  ·rw [ue hk];by_cases h:g=k
   ·have hb:(g == k)=true:=Ub.mpr h;simp only [List.lookup,hb,ue (h.trans hk)]
   ·have hb:(g == k)=false:=uO.mpr h;simp only [List.lookup,hb,ub (λe:g=f=>h (e.trans hk.symm))]
  ·rw [ub hk];by_cases h:g=k
   ·have hb:(g == k)=true:=Ub.mpr h;simp only [List.lookup,hb,ub (λe:g=f=>hk (h.symm.trans e))]
   ·have hb:(g == k)=false:=uO.mpr h;simp only [List.lookup,hb];exact ih
theorem JH (f:Str)(v:V):∀ fs:List (Str×V),f∈(i9 f v fs).map (·.1)/\∀ g,g∈fs.map (·.1)->g∈(i9 f v fs).map (·.1)
 | []=>⟨by simp [i9],λg h=>by simp at h⟩
 | (k,x)::r=>by
  obtain⟨i1,i2⟩:=JH f v r;rw [show i9 f v ((k,x)::r)=(if k=f then(k,v)::r else(k,x)::i9 f v r) from rfl];by_cases hk:k=f
  ·rw [ue hk];subst hk;exact⟨by simp,λg h=>by simpa using h⟩
  ·rw [ub hk];refine⟨?_,λg h=>?_⟩
   ·rw [uz];exact uN _ i1
   ·rw [uz] at h ⊢;rcases uq.mp h with e | e
    ·exact uq.mpr (.inl e)
    ·exact uN _ (i2 g e)
theorem Ww (f:Str)(v:V):∀ fs:List (Str×V),(i9 f v fs).length<=fs.length+1
 | []=>by simp [i9]
 | (k,x)::r=>by
  have ih:=Ww f v r;rw [show i9 f v ((k,x)::r)=(if k=f then(k,v)::r else(k,x)::i9 f v r) from rfl];by_cases hk:k=f
  ·rw [ue hk,uo,uo];lia
  ·rw [ub hk,uo,uo];lia
theorem iZ.some_of (r:iZ (some v) o):∃ u,o=some u/\RelV v u:=by
 cases o with
 | none=>exact(show False from r).elim
 | some u=>exact⟨u,rfl,r⟩
theorem iZ.none_of (r:iZ none o):o=none:=by
 cases o with
 | none=>rfl
 | some u=>exact(show False from r).elim
theorem Vr (r:RelV v u):PySem.W.handedIn u=true:=by
 cases v with
 | non=>cases (show u=Value.none from r);rfl
 | bl b=>cases (show u=Value.bool b from r);rfl
 | int i=>obtain⟨t,e⟩:=(show ∃ t,u=Value.int i t from r);cases e;rfl
 | str x=>obtain⟨t,e⟩:=(show ∃ t,u=Value.str x t from r);cases e;rfl
 | byt b=>obtain⟨t,e⟩:=(show ∃ t,u=Value.bytes b t from r);cases e;rfl
 | flt b=>obtain⟨t,e⟩:=(show ∃ t,u=Value.float b t from r);cases e;rfl
 | ref a=>cases (show u=Value.ref a from r);rfl
 | ty n=>cases (show u=Value.type n from r);rfl
section
variable {P:Program} {w:World} {H H':Hp} {h h':Heap} {a C dx:Addr} {fs fs':List (Str×V)}
theorem WR (hok:lF P w H h)(e:H a=some (.ins C dx fs)):∃ mA,nJ h a dx C mA/\(∀ f,iZ (fs.lookup f) (mA f))/\PySem.Within mA (fs.map (·.1))/\fs.length<=1000/\H dx=some (.own a):=by
 obtain⟨d,z,ne,ob,mA,n,r,q⟩:=(show qC P w H h a (.ins C dx fs) from hok a _ e)
 exact⟨mA,⟨ob,n,ne⟩,r,q,z,d⟩
end
structure mP (K:Lf)(C:Addr):Prop where
 pg:PySem.W.plainGet K C Str.empty=true
 hd:PySem.W.hasDictIn K C=true
 po:PySem.W.plainOver K C=true
 sa:PySem.W.findIn K (.ref C) "__setattr__" = some (some (.builtin "object.__setattr__"))
theorem mP.get {K:Lf}{C:Addr}(c:mP K C)(f:Str):PySem.W.plainGet K C f=true:=c.pg
def vq (K:Lf)(C:Addr)(f:Str):Prop:=PySem.W.findIn K (.ref C) f=some none
theorem vq.taker {K:Lf}{C:Addr}{f:Str}(n:vq K C f):PySem.W.takerIn K C f=some none:=by unfold PySem.W.takerIn;rw [show PySem.W.findIn K (.ref C) f=some none from n];rfl
structure Meth (K:Lf)(C:Addr)(m:Str)(f:Addr):Prop where
 at_:PySem.W.findIn K (.ref C) m=some (some (.ref f))
 fn:PySem.W.isFn K (.ref f)=true
 kp:PySem.W.keepIn K (.ref f)=true
section
variable {X:Cx} {pins:Lp} {σ:St} {H:Hp} {s:Shared} {a C dx:Addr} {fs:List (Str×V)} {f:Str} {v:V} {A:Around} {E:fV}
theorem zaU (I:Inv X pins σ H s)(e:H a=some (.ins C dx fs))(c:mP X.K C)(n:vq X.K C f)(l:fs.lookup f=some v) (h:∀ u s',Inv X pins σ H s'->RelV v u->Q u s'):wpAny (model X.prog X.w) A (getAttr (.ref a) f b) Q E s:=by obtain⟨mA,O,r,_,_,_⟩:=WR I.hok e;obtain⟨u,hu,ru⟩:=iZ.some_of (v:=v) (o:=mA f) (by rw [← l];exact r f);exact get_map I.kIn O (c.get f) c.hd n hu (Vr ru) (h u _ (I.tok _) ru)
theorem kA (I:Inv X pins σ H s)(e:H a=some (.ins C dx fs))(c:mP X.K C)(k:Meth X.K C m g)(l:fs.lookup m=none) (h:Q (.ref g,[.ref a]) s):wpAny (model X.prog X.w) A (getMethod (.ref a) m pl) Q E s:=by obtain⟨mA,O,r,_,_,_⟩:=WR I.hok e;have hn:mA m=none:=iZ.none_of (by rw [← l];exact r m);exact Sb I.kIn O (c.get m) k.at_ k.fn hn h
theorem zaV (I:Inv X pins σ H s)(e:H a=some (.ins C dx fs))(c:mP X.K C)(n:vq X.K C f)(hl:fs.length<1000)(ry:RelV y u) (h:∀ s',Inv X pins σ (upd H a (.ins C dx (i9 f y fs))) s'->Q () s'):wpAny (model X.prog X.w) A (setAttr (.ref a) f u) Q E s:=by
 obtain⟨mA,O,r,wi,_,ho⟩:=WR I.hok e;have hz:(fs.map (·.1)).length<=sizeLine:=by rw [uk,uR];lia
 refine Pz I.kIn O c.sa c.po n.taker c.hd wi hz λh' O' sb=>h _ ?_;have hd:∃ o,h'.get? dx=some o:=let ⟨o,_,_,e',_⟩:=O'.ns;⟨o,e'⟩;refine I.write (x:=a) (e:=dx) (by rw [e];exact True.intro) (.inr ho) (λb q hb z=>(sb.2 b hb).trans z) hd ?_;refine⟨by rw [zk O.ne];exact ho,?_,O.ne,O'.obj,_,O'.ns,λg=>?_,λg hg=>?_⟩
 ·have:=Ww f y fs;lia
 ·show iZ ((i9 f y fs).lookup g) (if g=f then some u else mA g);rw [Wv];by_cases q:g=f
  ·rw [ue q,ue q];exact ry
  ·rw [ub q,ub q];exact r g
 ·by_cases q:g=f
  ·rw [q];exact(JH f y fs).1
  ·refine(JH f y fs).2 g (wi g λz=>hg ?_);show(if g=f then some u else mA g)=none;rw [ub q];exact z
theorem Inv.made (I:Inv X pins σ H s):Inv X pins σ (upd (upd H s.heap.objs.size (.own (s.heap.objs.size+1))) (s.heap.objs.size+1) (.ins C s.heap.objs.size [])) { s with heap:=(s.heap.push PySem.W.emptyDict).push (PySem.W.instObj C s.heap.objs.size) }:=by
 have e1:(s.heap.push PySem.W.emptyDict).get? s.heap.objs.size=some PySem.W.emptyDict:=uA s.heap rfl;have e2:((s.heap.push PySem.W.emptyDict).push (PySem.W.instObj C s.heap.objs.size)).get? (s.heap.objs.size+1)=some (PySem.W.instObj C s.heap.objs.size):=by have:=uA (s.heap.push PySem.W.emptyDict) (o:=PySem.W.instObj C s.heap.objs.size) rfl;rwa [Gk] at this
 have e3:(s.heap.push PySem.W.emptyDict).Ns s.heap.objs.size (λ_=>none):=⟨PySem.W.emptyDict,#[],_,e1,rfl,(λe he=>absurd he (by simp)),λ_=>rfl⟩
 have I1:=I.laid (a:=s.heap.objs.size) (o:=.own (s.heap.objs.size+1)) (h':=s.heap.push PySem.W.emptyDict) (t':=s.toks) (λb u q=>uf _ q) (ui _) ⟨_,e1⟩;refine I1.laid (a:=s.heap.objs.size+1) (o:=.ins C s.heap.objs.size []) (t':=s.toks) (λb u q=>uf _ q) (gU (Gk _ _)) ?_;have ne:s.heap.objs.size≠s.heap.objs.size+1:=Ug (Nat.lt_succ_self _);refine⟨by rw [zk ne,zb],uZ _,ne,e2,λ_=>none,(Hh e3).at λo q=>uf _ q,λ_=>True.intro,λy hy=>absurd rfl hy⟩
theorem EJ {prog:Program}{e:Expr}(hb:attributeBase e f env (eval e env)=eval e env)
  (h:wpAny (model prog w) A (eval e env) (λo s₁=>wpAny (model prog w) A (getAttr o f true) Q E s₁) E s):wpAny (model prog w) A (eval (.Attribute e f pos) env) Q E s:=
 Attribute_any_ h (by rw [arm_eval_Attribute,hb])
end
def rG (K:Lf)(ta:TE)(f:Str):TE:=λσ H Q=>ta σ H λx H1=>∃ a C dx fs v,x=.ref a/\H1 a=some (.ins C dx fs)/\mP K C/\vq K C f/\fs.lookup f=some v/\Q v H1
def rL (K:Lf)(ta tv:TE)(f:Str):TS:=λD σ H=>tv σ H λy H1=>ta σ H1 λx H2=>∃ a C dx fs,x=.ref a/\H2 a=some (.ins C dx fs)/\mP K C/\vq K C f/\fs.length<1000 /\ D.nx σ (upd H2 a (.ins C dx (i9 f y fs)))
section
variable {X:Cx} {o e value:Expr} {f:Str} {pos pos' tpos:Pos} {ta tv:TE}
theorem Nu (he:PE X e ta)(hb:attributeBase e f X.env (eval e X.env)=eval e X.env):PE X (.Attribute e f pos) (rG X.K ta f):=by intro pins s σ H Q I h;refine EJ hb (iB (he pins s σ H _ I h) λu s1 zq=>?_);obtain⟨x,H1,I1,rx,a,C,dx,fs,v,ex,ea,c,n,l,q⟩:=zq;subst ex;obtain rfl:u=Value.ref a:=rx;exact zaU I1 ea c n l λu' s2 I2 ru=>⟨v,H1,I2,ru,q⟩
theorem Nt (ha:PE X o ta)(hv:PE X value tv)(hs:swapsWith value (some (.Attribute o f pos')) pos.line X.env=pure false):PS X (.Assign [.Attribute o f pos'] value pos) (rL X.K ta tv f):=by intro pins s σ H D I h;refine UU (iB (hv pins s σ H _ I h) λu s1 ⟨y,H1,I1,ry,q⟩=>iB (ha pins s1 σ H1 _ I1 q) λov s2 zq=>?_) hs;obtain⟨x,H2,I2,rx,a,C,dx,fs,ex,ea,c,n,l,q2⟩:=zq;subst ex;obtain rfl:ov=Value.ref a:=rx;exact zaV I2 ea c n l ry λs3 I3=>⟨σ,_,I3,q2⟩
end
section
variable {X:Cx} {pins:Lp} {σ:St} {H:Hp} {s:Shared} {A:Around} {E:fV} {Q:fV} {c:Value} {b:Bool}
inductive lR (K:Lf)(H:Hp):V->Value->Prop where
 | non:lR K H .non (.type "NoneType")
 | bl (x:Bool):lR K H (.bl x) (.type "bool")
 | int (i:Int):lR K H (.int i) (.type "int")
 | str (x:Str):lR K H (.str x) (.type "str")
 | flt (x:UInt64):lR K H (.flt x) (.type "float")
 | lst {a:Addr} {xs:List V} (e:H a=some (.lst xs)):lR K H (.ref a) (.type "list")
 | frz {a:Addr} {o:Obj} {xs:List V} (e:H a=some (.frz o (.lst xs))):lR K H (.ref a) (.type "list")
 | tup {a:Addr} {xs:List V} (e:H a=some (.tup xs)):lR K H (.ref a) (.type "tuple")
 | dK {a:Addr} {kvs:List (Key×V)} (e:H a=some (.dK kvs)):lR K H (.ref a) (.type "dict")
 | dT {a:Addr} {kvs:List (List Key×V)} (e:H a=some (.dT kvs)):lR K H (.ref a) (.type "dict")
 | ins {a C dx:Addr} {fs:List (Str×V)} (e:H a=some (.ins C dx fs)) (cl:mP K C) (ha:PySem.W.findIn K (.ref C) "__class__" = some (some (.builtin "object.__class__")))
   (hn:PySem.W.specialIn K (.builtin "object.__class__") "__get__" = some (some (.builtin "getset_descriptor.__get__"))) (htk:PySem.W.takesIn K (.builtin "object.__class__")=some true)
   (hm:PySem.W.mroIn K C (.type "object")=some true):lR K H (.ref a) (.ref C)
theorem SO (I:Inv X pins σ H s)(rx:RelV x u)(ty:lR X.K H x t)(e:PySem.W.kitOne X.K t c=some b)(h:∀ tk,Q (.bool b) { s with toks:=tk }) : wpAny (model X.prog X.w) A (call (.builtin "isinstance") [u,c]) Q E s:=by
 cases ty with
 | non=>cases (show u=Value.none from rx);exact Ud PySem.W.kitx_none I.kIn True.intro e (λz=>nomatch z) h
 | bl y=>cases (show u=Value.bool y from rx);exact Ud PySem.W.kitx_bool I.kIn True.intro e (λz=>nomatch z) h
 | int i=>obtain⟨t,q⟩:=(show ∃ t,u=Value.int i t from rx);cases q;exact Ud PySem.W.kitx_int I.kIn True.intro e (λz=>nomatch z) h
 | str y=>obtain⟨t,q⟩:=(show ∃ t,u=Value.str y t from rx);cases q;exact Ud PySem.W.kitx_str I.kIn True.intro e (λz=>nomatch z) h
 | flt y=>obtain⟨t,q⟩:=(show ∃ t,u=Value.float y t from rx);cases q;exact Ud PySem.W.kitx_float I.kIn True.intro e (λz=>nomatch z) h
 | @lst a xs ea=>
  cases (show u=Value.ref a from rx);obtain⟨_,_,n,_,h1⟩:=(show qC X.prog X.w H s.heap a (.lst xs) from I.hok a _ ea)
  exact Ud PySem.W.kitx_list I.kIn ⟨_,h1,rfl⟩ e (λz=>nomatch z) h
 | @frz a ob xs ea=>
  cases (show u=Value.ref a from rx);obtain⟨_,_,_,n,_,h1⟩:=(show qC X.prog X.w H s.heap a (.frz ob (.lst xs)) from I.hok a _ ea)
  exact Ud PySem.W.kitx_list I.kIn ⟨_,h1,rfl⟩ e (λz=>nomatch z) h
 | @tup a xs ea=>
  cases (show u=Value.ref a from rx);obtain⟨_,_,_,p⟩:=(show qC X.prog X.w H s.heap a (.tup xs) from I.hok a _ ea)
  obtain⟨o,h1,h2,_⟩:=p;exact Ud PySem.W.kitx_tuple I.kIn ⟨o,h1,h2⟩ e (λz=>nomatch z) h
 | @dK a kvs ea=>
  cases (show u=Value.ref a from rx);obtain⟨_,_,vs,_,p⟩:=(show qC X.prog X.w H s.heap a (.dK kvs) from I.hok a _ ea)
  obtain⟨o,es,ep,h1,h2,_⟩:=p;exact Ud PySem.W.kitx_dict I.kIn ⟨o,h1,h2.1⟩ e (λz=>nomatch z) h
 | @dT a kvs ea=>
  cases (show u=Value.ref a from rx);obtain⟨_,_,xs,_,o,es,ep,h1,h2,_⟩:=(show qC X.prog X.w H s.heap a (.dT kvs) from I.hok a _ ea)
  exact Ud PySem.W.kitx_dict I.kIn ⟨o,h1,h2.1⟩ e (λz=>nomatch z) h
 | @ins a C dx fs ea cl ha hn htk hm=>cases (show u=Value.ref a from rx);obtain⟨mA,O,_⟩:=WR I.hok ea;obtain⟨od,J,_⟩:=O.look;exact Ud (PySem.W.kitx_own (cl.get _) cl.hd ha hn htk hm) I.kIn J e (λz=>nomatch z) h
end
structure ix (k:Nat)(A:Around):Prop where
 hd:A.handled=none
 dp:A.depth+3 * k+5<recursionLimit
 un:A.units+16 * k+200<cLine
 gd:A.guards=some []
theorem ix.mono (r:ix k A)(h:j<=k):ix j A:=⟨r.hd,by have:=r.dp;lia,by have:=r.un;lia,r.gd⟩
theorem ix.deeper {A:Around}(r:ix (k+1) A)(env:Env):ix k (A.deeper env):=
 ⟨r.hd,by have:=r.dp;show A.depth+1+3 * k+5<_;lia,by have:=r.un;show A.units+3+16 * k+200<_;lia,r.gd⟩
theorem ix.in1 {A:Around}(r:ix (k+1) A):ix k A.in1:=
 ⟨r.hd,by have:=r.dp;show A.depth+3 * k+5<_;lia,by have:=r.un;show A.units+1+16 * k+200<_;lia,r.gd⟩
theorem Xf {A:Around}:(A.under (.builtin "type.__call__" ⟨.ref C::us,kw⟩)).depth=A.depth+1:=by first | rfl | simp [Around.under,Code.weight,Code.isCreation,Code.isGuard,Code.isCaller,Code.frames,Code.isFrame,guardIds]
theorem Xg {A:Around}:(A.under (.builtin "type.__call__" ⟨.ref C::us,kw⟩)).units=A.units+1:=by first | rfl | simp [Around.under,Code.cUnits,Code.frames,Code.isFrame]
theorem Wx {A:Around}:(A.under (.builtin "type.__call__" ⟨.ref C::us,kw⟩)).guards=A.guards:=by first | rfl | simp [Around.under,Code.weight,Code.isCreation,Code.isGuard,Code.isCaller,Code.frames,Code.isFrame,guardIds]
theorem ix.make {A:Around}(r:ix (k+1) A)(C:Addr)(us:Lg)(kw:List (Str×Value)):ix k (A.under (.builtin "type.__call__" ⟨.ref C::us,kw⟩)):=
 ⟨r.hd,by have:=r.dp;rw [Xf];lia,by have:=r.un;rw [Xg];lia,by rw [Wx];exact r.gd⟩
theorem ix.depth {A:Around}(r:ix k A):A.depth<recursionLimit:=by have:=r.dp;lia
theorem ix.units {A:Around}(r:ix k A):A.units+64<cLine:=by have:=r.un;lia
def i8:TA:=λ_ H Q=>Q [] H
def jl (ta:TE)(tr:TA):TA:=λσ H Q=>ta σ H λx H1=>tr σ H1 λxs H2=>Q (x::xs) H2
section
variable {X:Cx} {e:Expr} {es:Lh} {te:TE} {t:TA} {pos:Pos}
theorem JI:PA X [] i8:=λ_ _ _ _ H Q I h=>Calls.spliced_nil ⟨[],H,I,.nil,h⟩
abbrev SE (X:Cx)(e:Expr)(es:Lh):Prop:=starEach (e::es) X.env=(false,eval e X.env)::starEach es X.env
theorem wX (ha:PE X e te)(hr:PA X es t)(hs:SE X e es:=by rfl):PA X (e::es) (jl te t):=by intro pos pins s σ H Q I h;rw [hs];show wpAny _ _ (spliced ((false,eval e X.env)::backTo pos (starEach es X.env))) _ _ s;refine Calls.spliced_cons (iB (ha pins s σ H _ I h) λu s1 zq=>?_);obtain⟨x,H1,I1,r1,q1⟩:=zq;exact iB (hr pos pins s1 σ H1 _ I1 q1) λus s2 ⟨xs,H2,I2,r2,q2⟩=>⟨x::xs,H2,I2,.cons r1 r2,q2⟩
def nB (t:TA):TE:=λσ H Q=>t σ H λxs H1=>xs.length<=sizeLine/\∀ p,H1 p=none->Q (.ref p) (upd H1 p (.tup xs))
def om (t:TA):TE:=λσ H Q=>t σ H λxs H1=>xs.length<=sizeLine/\∀ p,H1 p=none->Q (.ref p) (upd H1 p (.lst xs))
theorem Nr {x1}(h:PA X es t):PE X (.Tuple es x1 pos) (nB t):=by intro pins s σ H Q I hq;refine wpAny_Tuple_spliced (iB (h pos pins s σ H _ I hq) λus s1 ⟨xs,H1,I1,r,z,q⟩=>⟨by rw [← r.length];exact z,?_⟩);have hf:H1 s1.heap.objs.size=none:=I1.hok.fresh (ui _);refine⟨.ref s1.heap.objs.size,upd H1 s1.heap.objs.size (.tup xs),I1.laid (t':=s1.toks) (λb u e=>uf _ e) (ui _) ?_,rfl,q _ hf⟩;exact⟨z,us,r,⟨_,uA _ rfl,rfl,_,rfl⟩⟩
theorem Nq (h:PA X es t):PE X (.List es pos) (om t):=by intro pins s σ H Q I hq;refine wpAny_List_spliced (iB (h pos pins s σ H _ I hq) λus s1 ⟨xs,H1,I1,r,z,q⟩=>⟨by rw [← r.length];exact z,?_⟩);have hf:H1 s1.heap.objs.size=none:=I1.hok.fresh (ui _);refine⟨.ref s1.heap.objs.size,upd H1 s1.heap.objs.size (.lst xs),I1.laid (t':=s1.toks) (λb u e=>uf _ e) (ui _) ?_,rfl,q _ hf⟩;exact⟨z,us,0,r,uA _ rfl⟩
end
abbrev Sp:=List V->Hp->VK->XK->Prop
abbrev mw:=List Env->Hp->Shared->XK->Value->Shared->Prop
structure lU (P:Program)(w:World)(K:Lf)(mg:La)(base:Heap)(A:Around)(outer:List Env)(s:Shared)(H:Hp):Prop where
 frames:A.frames=some outer
 mod:Mod K mg base
 bs:∀ b o,base.get? b=some o->s.heap.get? b=some o/\H b=none
 bsz:base.objs.size<=s.heap.objs.size
 funs:s.heap.FunFrames base outer
 frf:∀ b∈lY outer,H b=none
 hok:lF P w H s.heap
 bare:AllBare s.gens
def CE (outer:List Env)(P:Program)(w:World)(H:Hp)(s:Shared)(Q:VK)(u:Value)(s':Shared):Prop:= ∃ v H',s'.os=s.os/\AllBare s'.gens/\Un (lY outer) [] H H' s.heap s'.heap/\lF P w H' s'.heap/\RelV v u/\Q v H'
def CR (CX:mw)(outer:List Env)(P:Program)(w:World)(H:Hp)(s:Shared)(Q:VK)(E:XK)(r:Result)(s':Shared):Prop:=
 match r with
 | .ok (.ret u)=>CE outer P w H s Q u s'
 | .ok _=>False
 | .error e=>CX outer H s E e s'
structure iO (P:Program)(w:World)(K:Lf)(mg:La)(base:Heap)(CX:mw)(k:Nat)(f:Addr)(fd:FuncData)(ps:Lj)(sp:Sp):Prop where
 len:∀ vs H Q E,sp vs H Q E->vs.length=ps.length
 run:∀ (A:Around) (outer:List Env) (s:Shared) (H:Hp) (args:Args) (us:Lg) (vs:List V) (Q:VK) (E:XK),ix k A->lU P w K mg base A outer s H->BindsTo s fd args (ps.zip us)->Vals vs us->sp vs H Q E ->
  codeAny (model P w) A (.call (.ref f) args) (CR CX outer P w H s Q E) s
theorem iO.mono {P:Program}{w:World}{K:Lf}{mg:La}{base:Heap}{CX:mw}{j k:Nat}{f:Addr}{fd:FuncData}{ps:Lj}{sp:Sp}(F:iO P w K mg base CX j f fd ps sp)(h:j<=k) : iO P w K mg base CX k f fd ps sp:=⟨F.len,λA outer s H args us vs Q E hr=>F.run A outer s H args us vs Q E (hr.mono h)⟩
theorem iO.imp {P:Program}{w:World}{K:Lf}{mg:La}{base:Heap}{CX:mw}{k:Nat}{f:Addr}{fd:FuncData}{ps:Lj}{sp sp':Sp}(F:iO P w K mg base CX k f fd ps sp) (h:∀ vs H Q E,sp' vs H Q E->sp vs H Q E):iO P w K mg base CX k f fd ps sp':= ⟨λvs H Q E q=>F.len vs H Q E (h _ _ _ _ q),λA outer s H args us vs Q E hr he hb hv hs=>F.run A outer s H args us vs Q E hr he hb hv (h _ _ _ _ hs)⟩
theorem lU.make {P:Program}{w:World}{K:Lf}{mg:La}{base:Heap}{A:Around}{outer:List Env}{s:Shared}{H:Hp}(e:lU P w K mg base A outer s H)(C:Addr)(us:Lg)(kw:List (Str×Value)) :
  lU P w K mg base (A.under (.builtin "type.__call__" ⟨.ref C::us,kw⟩)) outer s H:=⟨by first | exact e.frames | (simpa [Around.under,Code.envs,Code.isFrame,pushEnvs] using e.frames),e.mod,e.bs,e.bsz,e.funs,e.frf,e.hok,e.bare⟩
theorem lU.in1 {P:Program}{w:World}{K:Lf}{mg:La}{base:Heap}{A:Around}{outer:List Env}{s:Shared}{H:Hp}(e:lU P w K mg base A outer s H) : lU P w K mg base A.in1 outer s H:=⟨e.frames,e.mod,e.bs,e.bsz,e.funs,e.frf,e.hok,e.bare⟩
section
variable {X:Cx} {pins:Lp} {σ:St} {H:Hp} {s s':Shared}
theorem Inv.iR (I:Inv X pins σ H s):lU X.prog X.w X.K X.mg X.base X.A X.stack s H:= ⟨I.ok.frames,I.ok.mod,I.bs,uI I.ok.bsz I.sz,I.stack,I.stkFree,I.hok,I.bare⟩
theorem Inv.after (I:Inv X pins σ H s)(h:CE X.stack X.prog X.w H s Q u s'):EP X pins σ Q u s':=by obtain⟨v,H',os,bare,un,hok,r,q⟩:=h;obtain⟨hh,g,d,t,os'⟩:=s';obtain rfl:os' = s.os:=os;exact⟨v,H',I.call (h':=hh) (g':=g) (d':=d) (t':=t) (ch:=[]) un hok bare (λb z=>absurd z (by simp)),r,q⟩
end
def yp (sp:Sp)(dvs:List V)(E:XK)(t:TA):TE:=λσ H Q=>t σ H λvs H1=>sp (vs++dvs) H1 Q E
def Ja (C:Addr)(m:Str)(sp:Sp)(dvs:List V)(E:XK)(ta:TE)(t:TA):TE:=λσ H Q=>ta σ H λx H1=>∃ a dx fs,x=.ref a/\H1 a=some (.ins C dx fs)/\fs.lookup m=none /\ t σ H1 λvs H2=>sp (x::(vs++dvs)) H2 Q E
def Kh (C:Addr)(sp:Sp)(dvs:List V)(E:XK)(t:TA):TE:=λσ H Q=>t σ H λvs H1=>∀ x dx,H1 x=none->H1 dx=none->dx≠x -> sp (.ref x::(vs++dvs)) (upd (upd H1 dx (.own x)) x (.ins C dx [])) (λv H2=>v=.non/\Q (.ref x) H2) E
def Binds (K:Lf)(fd:FuncData)(ps:Lj)(ds:Lg):Prop:= ∀ (s:Shared) (us:Lg),K.In s.heap->(us++ds).length=ps.length->BindsTo s fd ⟨us,[]⟩ (ps.zip (us++ds))
theorem Binds.all {K:Lf}{fd:FuncData}{ps:Lj}(h:∀ us:Lg,us.length=ps.length->bindArgs fd ⟨us,[]⟩=pure (ps.zip us)):Binds K fd ps []:=λs us _ hl=>by rw [uj] at hl ⊢;exact .of_eq (h us hl)
def Passes (CX:mw)(X:Cx)(E:XK):Prop:=∀ (pins:Lp) (σ:St) (H:Hp) (s:Shared) (e:Value) (s':Shared),Inv X pins σ H s->CX X.stack H s E e s'->X.xe e s'
section
variable {X:Cx} {CX:mw} {k:Nat} {f C:Addr} {fd:FuncData} {ps:Lj} {sp:Sp} {dvs:List V} {ds:Lg} {E:XK} {x m:Str} {p pos apos:Pos} {e o:Expr} {es:Lh} {ta:TE} {t:TA}
theorem Xh {pins:Lp}(F:iO X.prog X.w X.K X.mg X.base CX k f fd ps sp)(hr:ix k X.A)(hb:Binds X.K fd ps ds)(hd:Vals dvs ds)(hx:Passes CX X E) (I:Inv X pins σ H s) (r:Vals vs us) (h:sp (vs++dvs) H Q E):fW X (call (.ref f) us) (EP X pins σ Q) X.xe s:=by
 have r2:Vals (vs++dvs) (us++ds):=r.append hd;have hl:(us++ds).length=ps.length:=by rw [← r2.length];exact F.len _ _ _ _ h
 refine Uh (Um (F.run X.A X.stack s H ⟨us,[]⟩ (us++ds) (vs++dvs) Q E hr I.iR (hb s us I.kIn hl) r2 h) λr s' hq=>?_);cases r with
 | error e=>exact hx pins σ H s e s' I hq
 | ok fl=>
  cases fl with
  | ret u=>exact I.after hq
  | next=>exact False.elim hq
  | brk=>exact False.elim hq
  | cont=>exact False.elim hq
theorem EI (F:iO X.prog X.w X.K X.mg X.base CX k f fd ps sp)(hr:ix k X.A)(hg:Gl X x)(hm:X.mg x=some (.ref f))(hk:PySem.W.keepIn X.K (.ref f)=true)(hb:Binds X.K fd ps ds)(hd:Vals dvs ds)(hx:Passes CX X E) (ha:PA X (e::es) t) (hdb:(x == ("__debug__":Str))=false:=by decide) (he:SE X e es:=by rfl) (hpl:(backTo pos (starEach es X.env)).any (·.1)=false:=by rfl) : PE X (.Call (.Name x p) (e::es) [] pos) (yp sp dvs E t):=by intro pins s σ H Q I h;refine uV (wW I hg hm ?_ hdb);refine Uo (h₀:=X.base) I.ok.mod.kin hk (iB (ha pos pins s σ H _ I h) λus s1 ⟨vs,H1,I1,r,q⟩=>⟨I1.kIn,?_⟩) he hpl;exact Xh F hr hb hd hx I1 r q
theorem R9 (F:iO X.prog X.w X.K X.mg X.base CX k f fd ps sp)(hr:ix k X.A)(hg:Gl X x)(hm:X.mg x=some (.ref f))(hk:PySem.W.keepIn X.K (.ref f)=true)(hb:Binds X.K fd ps ds)(hd:Vals dvs ds)(hx:Passes CX X E) (hdb:(x == ("__debug__":Str))=false:=by decide):PE X (.Call (.Name x p) [] [] pos) (yp sp dvs E i8):=by intro pins s σ H Q I h;refine uV (wW I hg hm ?_ hdb);exact Gs I.kIn hk (Xh (us:=[]) F hr hb hd hx I .nil h)
theorem Py {pl:Sem Bool}(he:PE X o ta)(c:mP X.K C)(hm:Meth X.K C m f)(F:iO X.prog X.w X.K X.mg X.base CX k f fd ps sp)(hr:ix k X.A)(hb:Binds X.K fd ps ds)(hd:Vals dvs ds)(hx:Passes CX X E)(ha:PA X (e::es) t)
  (hst:SE X e es:=by rfl) (hpl:(backTo pos (starEach es X.env)).any (·.1)=false:=by rfl)
  (ht:eval (.Call (.Attribute o m apos) (e::es) [] pos) X.env=(do
   let ov ← eval o X.env
   standAt apos.atName
   let (f,first) ← holding [ov] (getMethod ov m pl)
   callWith pos f first (backTo pos (starEach (e::es) X.env)) (backToKw pos (keywordEach [] X.env))):=by rfl) :
  PE X (.Call (.Attribute o m apos) (e::es) [] pos) (Ja C m sp dvs E ta t):=by
 intro pins s σ H Q I h
 refine UQ (pl:=pl) (iB (he pins s σ H _ I h) λu s1 zq=>?_) ht
 obtain⟨x,H1,I1,rx,a,dx,fs,ex,ea,l,q⟩:=zq
 subst ex
 obtain rfl:u=Value.ref a:=rx
 refine kA I1 ea c hm l ?_
 refine Uo (first:=[.ref a]) (h₀:=X.base) I.ok.mod.kin hm.kp (iB (ha pos pins s1 σ H1 _ I1 q) λus s2 ⟨vs,H2,I2,r,q2⟩=>⟨I2.kIn,?_⟩) hst hpl
 exact Xh (us:=.ref a::us) (vs:=.ref a::vs) F hr hb hd hx I2 (.cons rfl r) q2
theorem R0 {pl:Sem Bool}(he:PE X o ta)(c:mP X.K C)(hm:Meth X.K C m f)(F:iO X.prog X.w X.K X.mg X.base CX k f fd ps sp)(hr:ix k X.A)(hb:Binds X.K fd ps ds)(hd:Vals dvs ds)(hx:Passes CX X E)
  (ht:eval (.Call (.Attribute o m apos) [] [] pos) X.env=(do
   let ov ← eval o X.env
   standAt apos.atName
   let (f,first) ← holding [ov] (getMethod ov m pl)
   callWith pos f first (backTo pos (starEach [] X.env)) (backToKw pos (keywordEach [] X.env))):=by rfl) :
  PE X (.Call (.Attribute o m apos) [] [] pos) (Ja C m sp dvs E ta i8):=by
 intro pins s σ H Q I h
 refine UQ (pl:=pl) (iB (he pins s σ H _ I h) λu s1 zq=>?_) ht
 obtain⟨x,H1,I1,rx,a,dx,fs,ex,ea,l,q⟩:=zq
 subst ex
 obtain rfl:u=Value.ref a:=rx
 refine kA I1 ea c hm l ?_
 exact Gs (first:=[.ref a]) I1.kIn hm.kp (Xh (us:=[.ref a]) (vs:=[.ref a]) F hr hb hd hx I1 (.cons rfl .nil) q)
structure Mk (K:Lf)(C f:Addr):Prop where
 makes:PySem.W.makesIn K C=true
 init:PySem.W.findIn K (.ref C) "__init__" = some (some (.ref f))
 fn:PySem.W.isFn K (.ref f)=true
 kp:PySem.W.keepIn K (.ref C)=true
theorem RZ {pins:Lp}(M:Mk X.K C f)(F:iO X.prog X.w X.K X.mg X.base CX k f fd ps sp)(hr:ix (k+1) X.A)(hb:Binds X.K fd ps ds)(hd:Vals dvs ds) (hx:Passes CX X E) (I:Inv X pins σ H s) (r:Vals vs us) (h:∀ x dx,H x=none->H dx=none->dx≠x->sp (.ref x::(vs++dvs)) (upd (upd H dx (.own x)) x (.ins C dx [])) (λv H2=>v=.non/\Q (.ref x) H2) E) : fW X (call (.ref C) us) (EP X pins σ Q) X.xe s:=by
 have hq:=h (s.heap.objs.size+1) s.heap.objs.size (I.hok.fresh (UA _)) (I.hok.fresh (ui _)) (Ug (Nat.lt_succ_self _));have I2:=Inv.made (C:=C) I;have r2:Vals (V.ref (s.heap.objs.size+1)::(vs++dvs)) (Value.ref (s.heap.objs.size+1)::(us++ds)):=.cons rfl (r.append hd);have hl:(Value.ref (s.heap.objs.size+1)::us++ds).length=ps.length:=by have e:=r2.length;rw [F.len _ _ _ _ hq] at e;exact e.symm
 refine Uh (Sa (f:=f) I.kIn M.makes M.init (Ub.mp M.fn) (Um (F.run _ X.stack _ _ ⟨Value.ref (s.heap.objs.size+1)::us,[]⟩ (Value.ref (s.heap.objs.size+1)::(us++ds)) _ _ E (hr.make C us [])
  (I2.iR.make C us []) (hb _ (Value.ref (s.heap.objs.size+1)::us) I2.kIn hl) r2 hq) λr s' hq'=>?_))
 cases r with
 | error e=>exact hx pins σ _ _ e s' I2 hq'
 | ok fl=>
  cases fl with
  | ret u=>obtain⟨v,H',I3,rv,ev,q3⟩:=I2.after hq';subst ev;exact⟨rv,⟨V.ref (s.heap.objs.size+1),H',I3,rfl,q3⟩⟩
  | next=>exact False.elim hq'
  | brk=>exact False.elim hq'
  | cont=>exact False.elim hq'
theorem Px (M:Mk X.K C f)(F:iO X.prog X.w X.K X.mg X.base CX k f fd ps sp)(hr:ix (k+1) X.A)(hg:Gl X x)(hm:X.mg x=some (.ref C))(hb:Binds X.K fd ps ds)(hd:Vals dvs ds)(hx:Passes CX X E) (ha:PA X (e::es) t) (hdb:(x == ("__debug__":Str))=false:=by decide) (he:SE X e es:=by rfl) (hpl:(backTo pos (starEach es X.env)).any (·.1)=false:=by rfl) : PE X (.Call (.Name x p) (e::es) [] pos) (Kh C sp dvs E t):=by intro pins s σ H Q I h;refine uV (wW I hg hm ?_ hdb);refine Uo (h₀:=X.base) I.ok.mod.kin M.kp (iB (ha pos pins s σ H _ I h) λus s1 ⟨vs,H1,I1,r,q⟩=>⟨I1.kIn,?_⟩) he hpl;exact RZ M F hr hb hd hx I1 r q
end
section
variable {X:Cx} {CX:mw} {k:Nat} {f C:Addr} {fd:FuncData} {ps ks:Lj} {sp:Sp} {E:XK} {x m:Str} {p pos apos kpos:Pos} {e o:Expr} {es:Lh} {kws:List Keyword} {te ta:TE} {t tk:TA} {nm:Option Str}
variable {g:Lg->Lg->Lg} {gV:List V->List V->List V}
end
structure zj (N P:Lj)(sc:Scope):Prop where
 kind:sc.kind=.function
 co:sc.isCoroutine=false
 gen:sc.isGenerator=false
 nd:N.Nodup
 pre:N.take P.length=P
 par:∀ x∈P,sc.names.lookup x=some .local\/sc.names.lookup x=some .cell
 nofree:∀ y∈sc.names,y.2≠.free
theorem Vs {kindOf:Str->Option NameKind}:∀ {binds:List (Str×Value)} {m:La},(∀ v,(x,v)∉binds)->bindL kindOf binds m x=m x
 | [],_,_=>rfl
 | (n,v)::r,m,h=>by
  unfold bindL;rw [Vs λw hw=>h w (uN _ hw)];split
  ·have:x≠n:=by rintro rfl;exact h v Us
   simp [this]
  ·rfl
theorem Vt {kindOf:Str->Option NameKind}:∀ {binds:List (Str×Value)} {m:La},(∀ v,(x,v)∉binds)->bindC kindOf binds m x=m x
 | [],_,_=>rfl
 | (n,v)::r,m,h=>by
  unfold bindC;rw [Vt λw hw=>h w (uN _ hw)];split
  ·rfl
  ·have:x≠n:=by rintro rfl;exact h v Us
   simp [this]
theorem JJ {kindOf:Str->Option NameKind}:∀ {P:Lj} {vs:Lg} {i:Nat} {m:La},P.Nodup->P[i]? = some x->vs[i]? = some v->kindOf x=some .local ->
  bindL kindOf (P.zip vs) m x=some v
 | [],_,_,_,_,h,_,_=>by simp at h
 | _::_,[],_,_,_,_,h,_=>by simp at h
 | p::P,w::vs,0,m,nd,h1,h2,hk=>by simp at h1 h2;subst h1;subst h2;show bindL kindOf ((p,w)::P.zip vs) m p=_;unfold bindL;rw [Vs λv hv=>(Ul.mp nd).1 (gf hv).1,ue hk];simp
 | p::P,w::vs,i+1,m,nd,h1,h2,hk=>by show bindL kindOf ((p,w)::P.zip vs) m x=_;unfold bindL;exact JJ (i:=i) (Ul.mp nd).2 (by simpa using h1) (by simpa using h2) hk
theorem JK {kindOf:Str->Option NameKind}:∀ {P:Lj} {vs:Lg} {i:Nat} {m:La},P.Nodup->P[i]? = some x->vs[i]? = some v->kindOf x≠some .local ->
  bindC kindOf (P.zip vs) m x=some v
 | [],_,_,_,_,h,_,_=>by simp at h
 | _::_,[],_,_,_,_,h,_=>by simp at h
 | p::P,w::vs,0,m,nd,h1,h2,hk=>by simp at h1 h2;subst h1;subst h2;show bindC kindOf ((p,w)::P.zip vs) m p=_;unfold bindC;rw [Vt λv hv=>(Ul.mp nd).1 (gf hv).1,ub hk];simp
 | p::P,w::vs,i+1,m,nd,h1,h2,hk=>by show bindC kindOf ((p,w)::P.zip vs) m x=_;unfold bindC;exact JK (i:=i) (Ul.mp nd).2 (by simpa using h1) (by simpa using h2) hk
def start (N:Lj)(vs:List V):St:=vs.map some++List.replicate (N.length - vs.length) none
def iW (CX:mw)(P:Program)(w:World)(K:Lf)(mg:La)(base:Heap)(N:Lj)(qual:Str)(scope:Scope)(f:Addr)(cd:Value)(A:Around)(outer:List Env)(s:Shared)(H:Hp)(E:XK):Cx where
 prog:=P
 w:=w
 K:=K
 mg:=mg
 base:=base
 A:=A.deeper (envOfC qual scope s.heap.objs.size f cd)
 N:=N
 s₀:=s
 H₀:=H
 env:=envOfC qual scope s.heap.objs.size f cd
 outer:=outer
 stack:=envOfC qual scope s.heap.objs.size f cd::outer
 ex:=[]
 calm:=true
 fn:=λ_=>true
 pn:=[]
 xe:=λe s'=>wpAny (model P w) (A.deeper (envOfC qual scope s.heap.objs.size f cd)) (leaving (envOfC qual scope s.heap.objs.size f cd) e) (λ_ s''=>CX outer H s E e s'') (λe' s''=>CX outer H s E e' s'') s'
theorem Jb {sc:Scope}(h:sc.names.lookup x=some .cell):∃ c,(cellsFrom n sc.names []).lookup x=some c:=by have q:=U3 sc.names n [] (.inl h);exact Option.isSome_iff_exists.mp q
theorem Vu {CX:mw}{P:Program}{w:World}{K:Lf}{mg:La}{base:Heap}{N ps:Lj}{qual:Str}{scope:Scope}{f:Addr}{cd:Value}{A:Around}{outer:List Env}{s s1:Shared}{H:Hp}{E:XK}{us:Lg}{vs:List V} (S:zj N ps scope) (hd:A.handled=none) (e0:lU P w K mg base A outer s H) (hl:vs.length=ps.length) (r:Vals vs us) (x:InCallC s s.heap.objs.size (bindL (envOfC qual scope s.heap.objs.size f cd).kindOf (ps.zip us) λ_=>none) (cellsFrom (s.heap.objs.size+1) scope.names []) (bindC (envOfC qual scope s.heap.objs.size f cd).kindOf (ps.zip us) λ_=>none) s1) : Inv (iW CX P w K mg base N qual scope f cd A outer s H E) [] (start N vs) H s1:=by
 have hpl:ps.length<=N.length:=by have:=congrArg List.length S.pre;rw [Ut] at this;lia
 obtain⟨h1,tk,rfl,hk⟩:=x.done;have noA:∀ b:Addr,b∉(iW CX P w K mg base N qual scope f cd A outer s H E).ex:=λb z=>absurd (show b∈([]:Le) from z) (by simp)
 refine⟨⟨e0.mod,S.kind,rfl,rfl,ui _,λy z c h1 h2=>?_,λy hy=>?_,λy c _ h=>?_,λ_=>hd,Around.frames_deeper e0.frames,.inr ⟨rfl,rfl⟩,λb z=>absurd z (noA b),e0.bs,e0.bsz,λb _ _=>noA b,λb z=>absurd z (noA b),e0.funs,e0.frf⟩,
  rfl,e0.bare,Un.kept hk,⟨_,x.toInCall.ns,λi y v h1 h2 h3=>?_⟩,λy c h=>⟨_,x.cell y c h⟩,e0.hok.fresh (ui _),λy c h=>?_,λp hp=>absurd (show p∈([]:Lp) from hp) (by simp),e0.hok.kept hk,?_⟩
 ·exact name_of_addr x.apart (uP h1) (uP h2)
 ·have hy:scope.names.lookup y=some .cell\/scope.names.lookup y=some .free:=hy;rcases hy with hy | hy
  ·exact Jb hy
  ·exact absurd rfl (S.nofree _ (uP hy))
 ·exact gR (x.above y c (uP h))
 ·have hi:i<vs.length:=by
   unfold start at h2
   by_cases hi:i<vs.length
   ·exact hi
   ·rw [UB (by simpa using hi)] at h2
    rw [gJ] at h2
    split at h2<;>cases h2
  have ha:vs[i]? = some v:=by
   unfold start at h2
   rw [UE (by simpa using hi),Uk] at h2
   cases e:vs[i]? with
   | none=>rw [e] at h2;cases h2
   | some a=>rw [e] at h2;cases h2;rfl
  obtain⟨u,hu,rv⟩:=r.get ha
  have hp:ps[i]? = some y:=by
   rw [← S.pre,Hc (by lia)];exact h1
  have ndP:ps.Nodup:=by rw [← S.pre];exact S.nd.sublist (List.take_sublist _ _)
  refine⟨u,rv,?_⟩
  rcases S.par y (uQ hp) with k | k
  ·exact .inl ⟨k,JJ ndP hp hu k⟩
  ·obtain⟨c,e⟩:=Jb (n:=s.heap.objs.size+1) k
   refine .inr ⟨.inl k,c,e,?_⟩
   have q:=x.cell y c e
   rw [JK ndP hp hu (by show scope.names.lookup y≠_;rw [k];decide)] at q
   exact q
 ·exact e0.hok.fresh (gR (x.above y c (uP h)))
 ·unfold start;show _=N.length;rw [uc,uk,Ur];lia
theorem Ac {CX:mw}{P:Program}{w:World}{K:Lf}{mg:La}{base:Heap}{k:Nat}{f:Addr}{name qual:Str}{params:Arguments}{body:List Stmt}{scope:Scope}{dV kV doc pm cdv ct oc:Value}{an od:Option Addr} {osl:Array (Option Value)} {N ps:Lj} {sp:Sp} (lk:K.lookup f=some ⟨oc,od,.func (PySem.W.fnOf name qual params body scope dV kV doc pm an cdv ct),osl⟩) (hcd:PySem.W.codeIn K cdv qual=true) (S:zj N ps scope) (len:∀ vs H Q E,sp vs H Q E->vs.length=ps.length) (hbody:∀ (A:Around) (outer:List Env) (s:Shared) (H:Hp) (vs:List V) (Q:VK) (E:XK),ix k (A.deeper (envOfC qual scope s.heap.objs.size f cdv))->sp vs H Q E -> ∃ t,lS (iW CX P w K mg base N qual scope f cdv A outer s H E) body t/\t { nx:=λ_ H'=>Q .non H',rt:=Q } (start N vs) H) : iO P w K mg base CX (k+1) f (PySem.W.fnOf name qual params body scope dV kV doc pm an cdv ct) ps sp:=by
 refine⟨len,λA outer s H args us vs Q E hr e0 hb r hsp=>?_⟩;have hl:=len _ _ _ _ hsp;have KX:K.In s.heap:=e0.mod.kin.keeps λb o e=>(e0.bs b o e).1;have lim:s.heap.NoLimit:=e0.mod.nolimit.keeps λb o e=>(e0.bs b o e).1
 have hkind:∀ y∈ps.zip us,scope.names.lookup y.1=some .local\/(scope.names.lookup y.1=some .cell/\((cellsFrom (s.heap.objs.size+1) scope.names []).lookup y.1).isSome=true):=λ⟨n,v⟩ hy=>by
  rcases S.par n (gf hy).1 with q | q
  ·exact .inl q
  ·exact .inr ⟨q,U3 _ _ _ (.inl q)⟩
 refine gj hr.depth (KX _ _ lk) rfl S.co S.gen rfl (GC KX hcd) (hb _ _ _ _ ?_);refine U4 S.kind hkind λenv he s1 x=>?_;subst he;refine⟨lim.keeps x.toInCall.keep,GD ?_⟩;obtain⟨t,ht,hq⟩:=hbody A outer s H vs Q E (hr.deeper _) hsp;have I:Inv (iW CX P w K mg base N qual scope f cdv A outer s H E) [] (start N vs) H s1:=Vu S hr.hd e0 hl r x;refine um (ht [] s1 (start N vs) H _ I hq) (λfl s' hs=>?_) λe s' hs=>hs
 have fin:∀ {σ':St} {H':Hp} {v:V} {u:Value},Inv (iW CX P w K mg base N qual scope f cdv A outer s H E) [] σ' H' s'->RelV v u->Q v H'->CE outer P w H s Q u s':=
  λ{σ' H' v u} J rv q=>⟨v,H',J.os,J.bare,J.base,J.hok,rv,q⟩
 cases fl with
 | ret u=>obtain⟨v,σ',H',J,rv,q⟩:=hs;exact fin J rv q
 | next=>obtain⟨σ',H',J,q⟩:=hs;exact fin (v:=V.non) (u:=Value.none) J rfl q
 | brk=>obtain⟨_,_,_,q⟩:=hs;exact False.elim q
 | cont=>obtain⟨_,_,_,q⟩:=hs;exact False.elim q
section
variable {X:Cx} {x:Str} {p pos:Pos} {e:Expr} {es:Lh} {t:TA} {id T:String} {r:List V->Hp->VK->Prop}
def oU (r:List V->Hp->VK->Prop)(t:TA):TE:=λσ H Q=>t σ H λvs H1=>r vs H1 Q
theorem RY (hc:jx X (.builtin id) r)(hg:Gl X x)(hm:X.mg x=none)(hv:bootBuiltins x=some (.builtin id))(ha:PA X (e::es) t)(hn:x≠"__name__":=by decide) (hdb:(x == ("__debug__":Str))=false:=by decide) (he:SE X e es:=by rfl) (hpl:(backTo pos (starEach es X.env)).any (·.1)=false:=by rfl):PE X (.Call (.Name x p) (e::es) [] pos) (oU r t):=by intro pins s σ H Q I h;refine uV (W9 I hg hm hv ?_ hn hdb);exact PyProof.Rows.callWith_builtin1 (iB (ha pos pins s σ H _ I h) λus s1 ⟨vs,H1,I1,r1,q1⟩=>hc pins s1 σ H1 vs us Q I1 r1 q1) he hpl
theorem SN (hc:jx X (.type T) r)(hg:Gl X x)(hm:X.mg x=none)(hv:bootBuiltins x=some (.type T))(ha:PA X (e::es) t)(hn:x≠"__name__":=by decide) (hdb:(x == ("__debug__":Str))=false:=by decide) (he:SE X e es:=by rfl) (hpl:(backTo pos (starEach es X.env)).any (·.1)=false:=by rfl):PE X (.Call (.Name x p) (e::es) [] pos) (oU r t):=by intro pins s σ H Q I h;refine uV (W9 I hg hm hv ?_ hn hdb);exact PyProof.Rows.callWith_type1 (iB (ha pos pins s σ H _ I h) λus s1 ⟨vs,H1,I1,r1,q1⟩=>hc pins s1 σ H1 vs us Q I1 r1 q1) he hpl
end
end L2
namespace HT
open PySem PyProof.Rows
section
open PySem.SeqAt
open PySem.AutoSeq1 (wpAny_loadPart')
open PySem.MeetsSeq PySem.MeetsSeq2 PySem.MeetsSeq3
end
section
variable {prog:Program} {w:World} {A:Around} {E:fV} {s:Shared}
theorem Pw {vs ws:Lg}(ht:IsTup s.heap t vs.toArray)(hb:IsTup s.heap b ws.toArray)(hv:vs≠[]) (h1:ws=[]->Q (.ref t) s) (h2:ws≠[]->Q (.ref s.heap.objs.size) { s with heap:=s.heap.push { cls:=.type "tuple",data:=.seq (vs++ws).toArray } }) (hsz:vs.length+ws.length<=sizeLine):wpAny (model prog w) A (binaryOp .Add (.ref t) (.ref b)) Q E s:=by
 obtain⟨⟨cls,dd,data,sl⟩,ho,hc,n,hd⟩:=id ht;obtain⟨⟨cls2,dd2,data2,sl2⟩,ho2,hc2,n2,hd2⟩:=id hb;simp only at hc hd hc2 hd2;subst hc hd hc2 hd2;have e:vs.toArray++ws.toArray=(vs++ws).toArray:=by simp
 by_cases hw:ws=[]
 ·exact GF ⟨_,ho,rfl⟩ ⟨_,ho2,rfl⟩ gW Gu gX gK (gA _ _)
   (tuple_addW1 t b vs.toArray ws.toArray n n2 dd dd2 sl sl2 (by simpa using hv) (by simp [hw])) ⟨ho,ho2,h1 hw⟩
 ·refine GF ⟨_,ho,rfl⟩ ⟨_,ho2,rfl⟩ gW Gu gX gK (gA _ _)
   (tuple_addW2 t b vs.toArray ws.toArray n n2 dd dd2 sl sl2 (by simpa using hv) (by simpa using hw) (by rw [uh,uh];exact hsz)) ⟨ho,ho2,?_⟩
  rw [e]
  exact h2 hw
def iP (n d:Nat):Option Int->Nat
 | none=>d
 | some v=>if v<0 then(v+(n:Int)).toNat else min v.toNat n
theorem mW (n d:Nat):iP n d none=d:=rfl
theorem Np (n d:Nat)(hd:d<=n)(o:Option Int):iP n d o<=n:=by
 cases o with
 | none=>exact hd
 | some v=>
  show(if v<0 then(v+(n:Int)).toNat else min v.toNat n)<=n;by_cases hv:v<0
  ·rw [ue hv];lia
  ·rw [ub hv];exact Nat.min_le_right _ _
theorem EH (v:Int)(n d:Nat):(if v<0 then max (v+(n:Int)) 0 else min v (n:Int))=((iP n d (some v):Nat):Int):=by
 show(if v<0 then max (v+(n:Int)) 0 else min v (n:Int))=(((if v<0 then(v+(n:Int)).toNat else min v.toNat n):Nat):Int)
 by_cases hv:v<0
 ·simp only [ue hv];lia
 ·simp only [ub hv];lia
theorem zaW (lo hi:Option Int)(n:Nat):Builtin.Slice.sliceAdjust lo hi 1 (n:Int)=(((iP n 0 lo:Nat):Int),((iP n n hi:Nat):Int)):=by
 have h1:¬ ((1:Int)<0):=by lia
 unfold Builtin.Slice.sliceAdjust;simp only [h1,Gm];refine gF ?_ ?_
 ·cases lo with
  | none=>rfl
  | some v=>exact EH v n 0
 ·cases hi with
  | none=>rfl
  | some v=>exact EH v n n
theorem zaX (i j:Nat):Builtin.Slice.slicePlaces (i:Int) (j:Int) 1=j - i:=by
 unfold Builtin.Slice.slicePlaces;have h1:(1:Int) > 0:=by lia
 simp only [h1,if_true,Int.ediv_one];split<;>lia
theorem Xi (p:IsPart v o)(h:Q o s):wpAny (model prog w) A (Builtin.Slice.slicePartIndex v) Q E s:=by
 cases p with
 | none=>exact GY h
 | int i t=>exact slicePart_int h
theorem kc {sl:Addr}{vl vu:Value}{lo hi:Option Int}{n:Nat}{Q:Int×Int×Nat->Shared->Prop}(hs:s.heap.IsSliceOf sl vl vu .none)(pl:IsPart vl lo)(pu:IsPart vu hi) (h:Q (((iP n 0 lo:Nat):Int),1,iP n n hi - iP n 0 lo) s):wpAny (model prog w) A (Builtin.Slice.sliceApplied (.ref sl) (pure (n:Int))) Q E s:=by obtain⟨os,hos,hcs,hds⟩:=id hs;unfold Builtin.Slice.sliceApplied Builtin.Slice.sliceFields;refine ua (ua (uM hos hds (x:=vl) rfl (ua (uM hos hds (x:=vu) rfl (ua (uM hos hds (x:=.none) rfl (ud ?_)))))));refine ua (GY ?_);show wpAny _ _ (if ((1:Int) == 0)=true then _ else _) _ _ s;rw [ub (by decide)];refine ua (Xi pl (ua (Xi pu (ua (ud ?_)))));show wpAny _ _ (match Builtin.Slice.sliceAdjust lo hi 1 (n:Int) with | (lo,hi)=>pure (lo,(1:Int),Builtin.Slice.slicePlaces lo hi 1)) _ _ s;rw [zaW lo hi n];show wpAny _ _ (pure (((iP n 0 lo:Nat):Int),(1:Int),Builtin.Slice.slicePlaces ((iP n 0 lo:Nat):Int) ((iP n n hi:Nat):Int) 1)) _ _ s;rw [zaX];exact ud h
theorem RX (xs:Array Value)(i k:Nat):((List.range k).filterMap λ(m:Nat)=>xs[((i:Int)+(m:Int) * 1).toNat]?).toArray=((xs.toList.drop i).take k).toArray:=by
 have e:(λ(m:Nat)=>xs[((i:Int)+(m:Int) * 1).toNat]?)=λm=>xs[i+m]?:=by
  funext m;have:((i:Int)+(m:Int) * 1).toNat=i+m:=by lia
  rw [this]
 rw [e];have:=pick_run xs i k;rw [List.filterMap_map] at this;have e2:((λx=>xs[x]?) ∘ λx=>i+x)=λm=>xs[i+m]?:=rfl;rw [e2] at this;rw [this]
theorem Jc {t sl:Addr}{items:Array Value}{vl vu:Value}{lo hi:Option Int}{Q:fV}(ht:IsTup s.heap t items)(hs:s.heap.IsSliceOf sl vl vu .none)(pl:IsPart vl lo)(pu:IsPart vu hi) (hw:¬ (iP items.size 0 lo=0/\iP items.size items.size hi=items.size)) (h:Q (.ref s.heap.objs.size) { s with heap:=s.heap.push { cls:=.type "tuple",data:=.seq ((items.toList.drop (iP items.size 0 lo)).take (iP items.size items.size hi - iP items.size 0 lo)).toArray } }) (hsz:items.size<=sizeLine):wpAny (model prog w) A (getItem (.ref t) (.ref sl)) Q E s:=by
 have htake:sizeOk (.seq ((items.toList.drop (iP items.size 0 lo)).take (iP items.size items.size hi - iP items.size 0 lo)).toArray):=by show((items.toList.drop (iP items.size 0 lo)).take (iP items.size items.size hi - iP items.size 0 lo)).toArray.size<=sizeLine;rw [uh,Ut,gL,Gp];lia
 have hj:iP items.size items.size hi<=items.size:=Np _ _ (ui _) hi;obtain⟨os,hos,hcs,hds⟩:=id hs;have hTs:s.TypeIs (.ref sl) "slice":=⟨os,hos,hcs⟩
 unfold getItem
 try with_reducible refine u4 ?_
 first | refine ua (ud ?_) | skip
 refine ua (Hj ht.typeIs (by decide) ?_)
 refine ua (GV (name:=Str.ofString "__getitem__") ht.typeIs PyProof.Rows.slot_tuple_getitem
  (wpAny_call_entry PyProof.Rows.slot_tuple_getitem ht.typeIs GL ?_ (GR _ _)))
 show wpAny _ _ (Builtin.Tuple.tupleItemsOf (.ref t) >>= _) _ _ s;refine ua (hJ ht ?_);refine ua (gm hTs ?_);rw [ue (by decide)];refine ua (kc hs pl pu ?_);have hno:¬ ((((iP items.size 0 lo:Nat):Int) == 0&&(1:Int) == 1&&(iP items.size items.size hi - iP items.size 0 lo) == items.size)=true):=by intro q;rw [uJ,uJ] at q;have q1:((iP items.size 0 lo:Nat):Int)=0:=eq_of_beq q.1.1;have q2:iP items.size items.size hi - iP items.size 0 lo=items.size:=eq_of_beq q.2;exact hw ⟨by lia,by lia⟩
 show wpAny _ _ (if (((iP items.size 0 lo:Nat):Int) == 0&&(1:Int) == 1&&(iP items.size items.size hi - iP items.size 0 lo) == items.size)=true then _ else _) _ _ s;rw [ub hno,RX]
 first
  | exact ua (m:=Builtin.Tuple.tupleExact _) (Ux (ud ⟨_,rfl,ud h⟩) htake)
  | exact ua (m:=Builtin.Tuple.tupleExact _) (Ux (ua (ud (ud ⟨_,rfl,ud h⟩))) htake)
  | exact ua (ua (m:=Builtin.Tuple.tupleExact _) (Ux (ud (ud ⟨_,rfl,ud h⟩)) htake))
  | exact ua (ua (m:=Builtin.Tuple.tupleExact _) (Ux (ud ⟨_,rfl,ud h⟩) htake))
end
end HT
namespace L2
open PySem PySem.Spec PyProof.Rows
abbrev TO:=St->Hp->(Option Int->Hp->Prop)->Prop
def PO (X:Cx)(e:Option Expr)(t:TO):Prop:= ∀ (pins:Lp) (s:Shared) (σ:St) (H:Hp) (Q:Option Int->Hp->Prop),Inv X pins σ H s->t σ H Q -> fW X (evalPart e X.env) (λu s'=>∃ o H',Inv X pins σ H' s'/\IsPart u o/\Q o H') X.xe s
def WS:TO:=λ_ H Q=>Q none H
def Bb (t:TE):TO:=λσ H Q=>t σ H λx H1=>∃ i,x=.int i/\Q (some i) H1
section
variable {X:Cx} {e:Expr} {te:TE} {lo hi:Option Expr} {tl th:TO} {pos p2:Pos}
theorem Pu:PO X none WS:=by intro pins s σ H Q I h;rw [Gv];exact ud ⟨none,H,I,.none,h⟩
theorem EG (h:PE X e te):PO X (some e) (Bb te):=by intro pins s σ H Q I hw;rw [evalPart_some];refine iB (h pins s σ H _ I hw) λu s1 zq=>?_;obtain⟨x,H1,I1,r1,q1⟩:=zq;obtain⟨i,rfl,q⟩:=q1;obtain⟨t,rfl⟩:=r1;exact⟨some i,H1,I1,.int i t,q⟩
def rj (X:Cx)(r:V->Option Int->Option Int->Hp->VK->Prop):Prop:= ∀ (pins:Lp) (s:Shared) (σ:St) (H:Hp) (x:V) (v vl vu:Value) (lo hi:Option Int) (sl:Addr) (Q:VK),Inv X pins σ H s->RelV x v->s.heap.IsSliceOf sl vl vu .none->IsPart vl lo->IsPart vu hi->r x lo hi H Q -> ∃ T id,typeLookup (.type T) "__getitem__" = pure (some (.builtin id))/\s.TypeIs v T/\fW X (getItem v (.ref sl)) (EP X pins σ Q) X.xe s
theorem rj.or (h:rj X r)(h':rj X r'):rj X (λx lo hi H Q=>r x lo hi H Q\/r' x lo hi H Q):=by
 intro pins s σ H x v vl vu lo hi sl Q I rx hs pl pu q;rcases q with q | q
 ·exact h pins s σ H x v vl vu lo hi sl Q I rx hs pl pu q
 ·exact h' pins s σ H x v vl vu lo hi sl Q I rx hs pl pu q
def BM (r:V->Option Int->Option Int->Hp->VK->Prop)(te:TE)(tl th:TO):TE:=λσ H Q=>te σ H λx H1=>tl σ H1 λl H2=>th σ H2 λu H3=>r x l u H3 Q
theorem RV {r:V->Option Int->Option Int->Hp->VK->Prop}(hr:rj X r)(he:PE X e te)(hl:PO X lo tl)(hu:PO X hi th):PE X (.Subscript e (.Slice lo hi none p2) pos) (BM r te tl th):=by intro pins s σ H Q I h;refine Subscript_ (iB (he pins s σ H _ I h) λv s1 zq=>?_);obtain⟨x,H1,I1,r1,q1⟩:=zq;refine wpAny_Slice (iB (hl pins s1 σ H1 _ I1 q1) λvl s2 ⟨l,H2,I2,pl,q2⟩=>iB (hu pins s2 σ H2 _ I2 q2) λvu s3 zq=>?_);obtain⟨u,H3,I3,pu,q3⟩:=zq;rw [Gv];refine ud ?_;have I4:Inv X pins σ H3 { s3 with heap:=s3.heap.push { cls:=.type "slice",data:=.fields #[vl,vu,.none] } }:=I3.kept (t':=s3.toks) λb ob q=>uf _ q;obtain⟨T,id,hT,ht,hg⟩:=hr pins { s3 with heap:=s3.heap.push { cls:=.type "slice",data:=.fields #[vl,vu,.none] } } σ H3 x v vl vu l u s3.heap.objs.size Q I4 r1 (Hd ..) pl pu q3;show fW X (subscriptTail e (.Slice lo hi none p2) v (.ref s3.heap.objs.size)) (EP X pins σ Q) X.xe { s3 with heap:=s3.heap.push { cls:=.type "slice",data:=.fields #[vl,vu,.none] } };exact Ge (ops:=[.ref s3.heap.objs.size,v]) ht hT hg (by with_unfolding_all rfl)
def my (xs:List V)(lo hi:Option Int):List V:=(xs.drop (HT.iP xs.length 0 lo)).take (HT.iP xs.length xs.length hi - HT.iP xs.length 0 lo)
theorem Ki (xs:List V)(lo hi:Option Int):(my xs lo hi).length<=xs.length:=by unfold my;rw [Ut,gL];lia
def Ce (K:Lf):V->Option Int->Option Int->Hp->VK->Prop:=λx lo hi H Q=>∃ a xs,x=.ref a/\ir K H a xs /\ ¬ (HT.iP xs.length 0 lo=0/\HT.iP xs.length xs.length hi=xs.length)/\∀ p,H p=none->Q (.ref p) (upd H p (.tup (my xs lo hi)))
theorem Nn:rj X (Ce X.K):=by
 intro pins s σ H x v vl vu lo hi sl Q I rx hs pl pu h;obtain⟨a,xs,rfl,hx,hw,q⟩:=h;cases rx;obtain⟨ij,r,ht,hz⟩:=I.tuple hx;have hlen:ij.toArray.size=xs.length:=by rw [uh];exact r.length.symm
 refine⟨"tuple",_,PyProof.Rows.slot_tuple_getitem.lookup,ht.typeIs,?_⟩;refine HT.Jc ht hs pl pu (by rw [hlen];exact hw) ?_ (by rw [hlen];exact hz);rw [hlen];refine⟨.ref s.heap.objs.size,_,I.laid (t':=s.toks) (o:=.tup (my xs lo hi)) (λb ob q=>uf _ q) (ui _) ?_,rfl,q _ (I.hok.fresh (ui _))⟩;exact⟨uI (Ki xs lo hi) hz,_,(r.drop (HT.iP xs.length 0 lo)).take (HT.iP xs.length xs.length hi - HT.iP xs.length 0 lo),IsTup.new _ _⟩
def IW (K:Lf):R2:=λx y H Q=>∃ a b xs ys,x=.ref a/\y=.ref b/\ir K H a xs/\ir K H b ys/\xs≠[]/\xs.length+ys.length<=sizeLine /\ (ys=[]->Q (.ref a) H)/\(ys≠[]->∀ p,H p=none->Q (.ref p) (upd H p (.tup (xs++ys))))
theorem Vals.nil_iff (r:Vals xs us):us=[]↔xs=[]:=by
 cases r with
 | nil=>simp
 | cons _ _=>simp
theorem Pt:iY X (binaryOp .Add) (IW X.K):=by intro pins s σ H x y v u Q I rx ry h;obtain⟨a,b,xs,ys,rfl,rfl,ha,hb,hx,hz,q1,q2⟩:=h;cases rx;cases ry;obtain⟨ij,r1,p1,_⟩:=I.tuple ha;obtain⟨its2,r2,p2,_⟩:=I.tuple hb;refine HT.Pw p1 p2 (λz=>hx (r1.nil_iff.mp z)) (λz=>⟨.ref a,H,I,rfl,q1 (r2.nil_iff.mp z)⟩) (λz=>?_) (by rw [← r1.length,← r2.length];exact hz);refine⟨.ref s.heap.objs.size,_,I.laid (t':=s.toks) (o:=.tup (xs++ys)) (λb ob q=>uf _ q) (ui _) ?_,rfl,q2 (λw=>z (r2.nil_iff.mpr w)) _ (I.hok.fresh (ui _))⟩;exact⟨by rw [uc];exact hz,_,r1.append r2,IsTup.new _ _⟩
end
def pM (n:Nat)(i:Int):Option Nat:=if 0<=i then(if i<n then some i.toNat else none) else if -(n:Int)<=i then some (i+n).toNat else none
def mh {α:Type}(xs:List α)(i:Int):Option α:=(pM xs.length i).bind λj=>xs[j]?
theorem EF (h:pM n i=some j):seqIndex? i n=some j/\j<n/\-(n:Int)<=i/\i<n:=by
 unfold pM at h;by_cases h0:0<=i
 ·rw [ue h0] at h;by_cases h1:i<n
  ·rw [ue h1] at h;have e:i.toNat=j:=uH h;exact⟨by rw [GN h0 h1,e],by lia,by lia,h1⟩
  ·rw [ub h1] at h;cases h
 ·rw [ub h0] at h;by_cases h1:-(n:Int)<=i
  ·rw [ue h1] at h;have e:(i+n).toNat=j:=uH h;exact⟨by rw [GG (by lia) h1,e],by lia,h1,by lia⟩
  ·rw [ub h1] at h;cases h
theorem VW {α:Type}{xs:List α}{i:Int}{v:α}(h:mh xs i=some v):∃ j,seqIndex? i xs.length=some j/\xs[j]? = some v/\j<xs.length/\-(xs.length:Int)<=i/\i<xs.length:=by
 unfold mh at h;cases e:pM xs.length i with
 | none=>rw [e] at h;cases h
 | some j=>rw [e] at h;obtain⟨h1,h2,h3,h4⟩:=EF e;exact⟨j,h1,h,h2,h3,h4⟩
theorem Pq {α:Type}{xs:List α}{j:Nat}{v:α}(h:xs[j]? = some v):mh xs (j:Int)=some v:=by
 have hj:j<xs.length:=(ur.mp h).1;have e:pM xs.length (j:Int)=some j:=by unfold pM;rw [ue (by lia),ue (by lia)];simp
 unfold mh;rw [e];exact h
def WT (b:Expr):Prop:=∀ o i,subscripted b false o i=operate [o,i] (getItem o i)
def og (X:Cx)(r:R2):Prop:= ∀ (value slice:Expr) (pins:Lp) (s:Shared) (σ:St) (H:Hp) (x y:V) (v u:Value) (Q:VK),Inv X pins σ H s->RelV x v->RelV y u->r x y H Q -> subscripted slice false v u=operate [v,u] (getItem v u)->fW X (subscriptTail value slice v u) (EP X pins σ Q) X.xe s
def oN (X:Cx)(id:String)(r:V->List V->Hp->VK->Prop):Prop:= ∀ (pins:Lp) (s:Shared) (σ:St) (H:Hp) (x:V) (xs:List V) (v:Value) (us:Lg) (Q:VK),Inv X pins σ H s->RelV x v->Vals xs us->r x xs H Q -> fW X (call (.builtin id) (v::us)) (EP X pins σ Q) X.xe s
section
variable {X:Cx} {a b:Expr} {ta tb:TE} {pos:Pos}
theorem og.or (h:og X r)(h':og X r'):og X (λx y H Q=>r x y H Q\/r' x y H Q):=by
 intro value slice pins s σ H x y v u Q I rx ry q hs;rcases q with q | q
 ·exact h value slice pins s σ H x y v u Q I rx ry q hs
 ·exact h' value slice pins s σ H x y v u Q I rx ry q hs
theorem oN.or {id:String}{r r':V->List V->Hp->VK->Prop}(h:oN X id r)(h':oN X id r'):oN X id (λx xs H Q=>r x xs H Q\/r' x xs H Q):=by
 intro pins s σ H x xs v us Q I rx rs q;rcases q with q | q
 ·exact h pins s σ H x xs v us Q I rx rs q
 ·exact h' pins s σ H x xs v us Q I rx rs q
theorem HI (hr:og X r)(ha:PE X a ta)(hb:PE X b tb)(hs:WT b):PE X (.Subscript a b pos) (nO r ta tb):=by intro pins s σ H Q I h;exact Subscript_ (sf ha hb I h λv u s2 x y H2 I2 rx ry q=>hr a b pins s2 σ H2 x y v u Q I2 rx ry q (hs _ _))
def pF (K:Lf):R2:=λx y H Q=>∃ p xs i v,x=.ref p/\y=.int i/\iA K H p xs/\mh xs i=some v/\Q v H
def pD (K:Lf):R2:=λx y H Q=>∃ p xs i v,x=.ref p/\y=.int i/\ir K H p xs/\mh xs i=some v/\Q v H
def Cf:R2:=λx y H Q=>∃ z i c,x=.str z/\y=.int i/\z.length<=sizeLine/\mh z.cps.toList i=some c/\Q (.str ⟨#[c]⟩) H
theorem Pp:og X (pF X.K):=by
 intro value slice pins s σ H x y v u Q I rx ry h hs;obtain⟨p,xs,i,z,rfl,rfl,hq,he,q⟩:=h;cases rx;obtain⟨t,rfl⟩:=ry;obtain⟨ij,r,pl,hz⟩:=I.list hq;obtain⟨j,h1,h2,h3,h4,h5⟩:=VW he;obtain⟨w,ew,rw'⟩:=r.get h2;have hl:=r.length;have hn:=Qo;have fin:EP X pins σ Q w s:=⟨z,H,I,rw',q⟩
 by_cases h0:0<=i
 ·have hj:i.toNat=j:=by
   rw [GN h0 h5] at h1
   exact uH h1
  exact item_listR pl.isList h0 (by lia) (by rw [hj];simpa using ew) fin hs
 ·have hj:(i+(ij.toArray.size:Int)).toNat=j:=by
   rw [GG (by lia) h4] at h1
   rw [uh,← hl]
   exact uH h1
  exact Gz (x:=w) pl.isList.typeIs slot_list_getitem.lookup
   (wpAny_getItem_list_neg (Q:=λr s'=>r=w/\EP X pins σ Q r s') pl.isList (by lia) (by rw [uh]<;>lia) (by lia) (by rw [hj];simpa using ew) ⟨rfl,fin⟩) hs
theorem Nm:og X (pD X.K):=by
 intro value slice pins s σ H x y v u Q I rx ry h hs;obtain⟨p,xs,i,z,rfl,rfl,hq,he,q⟩:=h;cases rx;obtain⟨t,rfl⟩:=ry;obtain⟨ij,r,pl,hz⟩:=I.tuple hq;obtain⟨j,h1,h2,h3,h4,h5⟩:=VW he;obtain⟨w,ew,rw'⟩:=r.get h2;have hl:=r.length;have hn:=Qo;have fin:EP X pins σ Q w s:=⟨z,H,I,rw',q⟩
 exact Gz (x:=w) pl.typeIs slot_tuple_getitem.lookup
  (getItem_tuple (j:=j) (Q:=λr s'=>r=w/\EP X pins σ Q r s') pl (by lia) (by lia) (by rw [uh,← hl];exact h1) (by simpa using ew) ⟨rfl,fin⟩) hs
theorem Nl:og X Cf:=by
 intro value slice pins s σ H x y v u Q I rx ry h hs;obtain⟨z,i,c,rfl,rfl,hz,he,q⟩:=h;obtain⟨t,rfl⟩:=rx;obtain⟨t',rfl⟩:=ry;obtain⟨j,h1,h2,h3,h4,h5⟩:=VW he;have hl:z.cps.toList.length=z.length:=by simp [Str.length]
 rw [hl] at h1 h4 h5;have hn:=Qo
 exact Ge (typeIs_str s z t) slot_str_getitem.lookup (getItem_str (c:=c) (by
  have e1:decide (i < -(2 ^ 63:Int))=false:=uF (by lia)
  have e2:decide (i ≥ 2 ^ 63)=false:=uF (by lia)
  rw [e1,e2,Bool.or_false]) (by rw [h1];simpa using h2) ⟨.str ⟨#[c]⟩,H,I.tok _,⟨_,rfl⟩,q⟩) hs
theorem zaY (ij:Lg)(n j:Nat)(u:Value):Obj.mapSeq (·.setIfInBounds j u) { cls:=.type "list",data:=.seq ij.toArray n }={ cls:=.type "list",data:=.seq (ij.set j u).toArray n }:=by simp [Obj.mapSeq]
theorem Inv.lst {pins:Lp}{s:Shared}{xs:List V}(I:Inv X pins σ H s)(h:H p=some (.lst xs)) : ∃ (ij:Lg) (n:Nat),Vals xs ij/\s.heap.get? p=some { cls:=.type "list",data:=.seq ij.toArray n }/\xs.length<=sizeLine:=by obtain⟨z,ij,n,r,e⟩:=I.hok p _ h;exact⟨ij,n,r,e,z⟩
theorem Inv.lstUpd {pins:Lp}{s:Shared}{xs ys:List V}{ij its':Lg}(I:Inv X pins σ H s)(h:H p=some (.lst xs)) (ho:s.heap.get? p=some { cls:=.type "list",data:=.seq ij.toArray n }) (hf:f { cls:=.type "list",data:=.seq ij.toArray n }={ cls:=.type "list",data:=.seq its'.toArray n' }) (r:Vals ys its') (hz:ys.length<=sizeLine) (t:Nat) : Inv X pins σ (upd H p (.lst ys)) { s with heap:=s.heap.update p f,toks:=t }:=by
 have e:(s.heap.update p f).get? p=some { cls:=.type "list",data:=.seq its'.toArray n' }:=by rw [uU f ho (by rw [hf]<;>rfl),hf]
 refine I.write (x:=p) (e:=p) (by rw [h];trivial) (.inl rfl) (λb u hb q=>(uB _ _ (Ne.symm hb)).trans q) ⟨_,e⟩ ?_;exact⟨hz,its',n',r,e⟩
def D6:V->V->V->Hp->(Hp->Prop)->Prop:=λo i v H Q=>∃ p xs k j,o=.ref p/\i=.int k/\H p=some (.lst xs)/\pM xs.length k=some j/\Q (upd H p (.lst (xs.set j v)))
theorem set_list:sA X D6:=by
 intro pins s σ H o i v ov iv u Q I ro ri rv h;obtain⟨p,xs,k,j,rfl,rfl,hp,hj,q⟩:=h;cases ro;obtain⟨t,rfl⟩:=ri;obtain⟨ij,n,r,ho,hz⟩:=I.lst hp;obtain⟨h1,h2,h3,h4⟩:=EF hj;have hl:=r.length;have hn:=Qo
 have I':Inv X pins σ (upd H p (.lst (xs.set j v))) { s with heap:=s.heap.update p (Obj.mapSeq (·.setIfInBounds j u)) }:=
  I.lstUpd hp ho (zaY ij n j u) (r.set rv j) (by rw [List.length_set];exact hz) s.toks
 by_cases h0:0<=k
 ·have hk:k.toNat=j:=by
   rw [GN h0 h4] at h1
   exact uH h1
  exact PySem.W.ki_setAt ho h0 (by lia) (by rw [uh,← hl];exact h4) (by rw [hk];exact⟨_,I',q⟩)
 ·have hk:(k+(ij.toArray.size:Int)).toNat=j:=by
   rw [GG (by lia) h3] at h1
   rw [uh,← hl]
   exact uH h1
  exact PySem.W.ki_setBack ho (by lia) (by rw [uh,← hl];exact h3) (by lia) (by rw [hk];exact⟨_,I',q⟩)
def zN:V->Bool
 | .non=>true
 | .bl _=>true
 | .int _=>true
 | .str _=>true
 | _=>false
def nE:V->V->Bool
 | .non,.non=>true
 | .bl a,.bl b=>a == b
 | .bl a,.int b=>(if a then 1 else 0) == b
 | .int a,.bl b=>a == (if b then 1 else 0)
 | .int a,.int b=>a == b
 | .str a,.str b=>a == b
 | _,_=>false
theorem BC (ry:RelV y u)(rx:RelV x v)(fy:zN y=true)(fx:zN x=true):SeqAt.EqAt A s u v (nE y x):=by
 cases y with
 | non=>
  cases ry;cases x with
  | non=>cases rx;exact SeqAt.EqAt.same _
  | bl b=>cases rx;exact SeqAt.EqAt.none_bool b
  | int b=>obtain⟨t,rfl⟩:=rx;exact SeqAt.EqAt.none_int b t
  | str b=>obtain⟨t,rfl⟩:=rx;exact SeqAt.EqAt.none_str b t
  | _=>exact absurd (show false=true from fx) uE
 | bl a=>
  cases ry;cases x with
  | non=>cases rx;exact SeqAt.EqAt.bool_none a
  | bl b=>cases rx;exact SeqAt.EqAt.bool_bool a b
  | int b=>obtain⟨t,rfl⟩:=rx;exact SeqAt.EqAt.bool_int a b t
  | str b=>obtain⟨t,rfl⟩:=rx;exact SeqAt.EqAt.bool_str a b t
  | _=>exact absurd (show false=true from fx) uE
 | int a=>
  obtain⟨t',rfl⟩:=ry;cases x with
  | non=>cases rx;exact SeqAt.EqAt.int_none a t'
  | bl b=>cases rx;exact SeqAt.EqAt.int_bool a t' b
  | int b=>obtain⟨t,rfl⟩:=rx;exact SeqAt.EqAt.int_int a t' b t
  | str b=>obtain⟨t,rfl⟩:=rx;exact SeqAt.EqAt.int_str a t' b t
  | _=>exact absurd (show false=true from fx) uE
 | str a=>
  obtain⟨t',rfl⟩:=ry;cases x with
  | non=>cases rx;exact SeqAt.EqAt.str_none a t'
  | bl b=>cases rx;exact SeqAt.EqAt.str_bool a t' b
  | int b=>obtain⟨t,rfl⟩:=rx;exact SeqAt.EqAt.str_int a t' b t
  | str b=>obtain⟨t,rfl⟩:=rx;exact SeqAt.EqAt.str_str a t' b t
  | _=>exact absurd (show false=true from fx) uE
 | _=>exact absurd (show false=true from fy) uE
def nF (x:V)(u:Value):Bool:=match u with
 | .none=>nE .non x
 | .bool b=>nE (.bl b) x
 | .int i _=>nE (.int i) x
 | .str z _=>nE (.str z) x
 | _=>false
theorem D5 (r:RelV y u)(f:zN y=true):nF x u=nE y x:=by
 cases y with
 | non=>cases r;rfl
 | bl b=>cases r;rfl
 | int i=>obtain⟨t,rfl⟩:=r;rfl
 | str z=>obtain⟨t,rfl⟩:=r;rfl
 | _=>exact absurd (show false=true from f) uE
theorem Jd:∀ {xs:List V} {us:Lg},Vals xs us->xs.all zN=true->us.any (nF x)=xs.any λy=>nE y x
 | _,_,.nil,_=>rfl
 | y::xs,u::us,.cons r t,f=>by rw [GB,uJ] at f;rw [U9,U9,D5 r f.1,Jd t f.2]
theorem Zv (rx:RelV x v)(fx:zN x=true):∀ {xs:List V} {us:Lg},Vals xs us->xs.all zN=true->∀ u∈us,SeqAt.EqAt A s u v (nF x u)
 | _,_,.nil,_=>λu hu=>by cases hu
 | y::xs,u::us,.cons r t,f=>λu' hu=>by
  rw [GB,uJ] at f;rcases uq.mp hu with rfl | hu
  ·rw [D5 r f.1];exact BC r rx f.1 fx
  ·exact Zv rx fx t f.2 u' hu
def rW (x:V)(xs:List V):Bool:=xs.any λy=>nE y x
def tu (K:Lf)(neg:Bool):R2:=λx y H Q=>∃ p xs,y=.ref p/\(iA K H p xs\/ir K H p xs)/\zN x=true/\xs.all zN=true/\Q (.bl (if neg then !rW x xs else rW x xs)) H
theorem SM:iY X (compareOp .In) (tu X.K false):=by
 intro pins s σ H x y v u Q I rx ry h;obtain⟨p,xs,rfl,hq,fx,fs,q⟩:=h;cases ry;rcases hq with hq | hq
 ·obtain⟨ij,r,pl,hz⟩:=I.list hq;refine SeqAt.in_listAt (nF x) pl.isList (λw hw=>Zv rx fx r fs w (by simpa using hw)) ⟨.bl _,H,I,rfl,?_⟩;rw [show ij.toArray.any (nF x)=ij.any (nF x) by simp,Jd r fs];exact q
 ·obtain⟨ij,r,pl,hz⟩:=I.tuple hq;refine SeqAt.in_tupleAt (nF x) pl (λw hw=>Zv rx fx r fs w (by simpa using hw)) ⟨.bl _,H,I,rfl,?_⟩;rw [show ij.toArray.any (nF x)=ij.any (nF x) by simp,Jd r fs];exact q
theorem VX:iY X (compareOp .NotIn) (tu X.K true):=by
 intro pins s σ H x y v u Q I rx ry h;obtain⟨p,xs,rfl,hq,fx,fs,q⟩:=h;cases ry;rcases hq with hq | hq
 ·obtain⟨ij,r,pl,hz⟩:=I.list hq;refine SeqAt.notIn_listAt (nF x) pl.isList (λw hw=>Zv rx fx r fs w (by simpa using hw)) ⟨.bl _,H,I,rfl,?_⟩;rw [show ij.toArray.any (nF x)=ij.any (nF x) by simp,Jd r fs];exact q
 ·obtain⟨ij,r,pl,hz⟩:=I.tuple hq;refine SeqAt.notIn_tupleAt (nF x) pl (λw hw=>Zv rx fx r fs w (by simpa using hw)) ⟨.bl _,H,I,rfl,?_⟩;rw [show ij.toArray.any (nF x)=ij.any (nF x) by simp,Jd r fs];exact q
theorem VY:jx X (.builtin "len") (λxs H Q=>∃ p ys,xs=[.ref p]/\(iA X.K H p ys\/ir X.K H p ys)/\Q (.int ys.length) H):=by
 intro pins s σ H xs us Q I r h;obtain⟨p,ys,rfl,hq,q⟩:=h;obtain⟨u,rfl,rx⟩:=vals1 r;cases rx;have hn:=Qo;rcases hq with hq | hq
 ·obtain⟨ij,r',pl,hz⟩:=I.list hq;have hlen:=r'.length;exact Calls.call_len_list pl.isList (by simp only [uh]<;>lia) ⟨.int ys.length,H,I.tok _,⟨s.toks+1,by rw [uh,hlen]⟩,q⟩
 ·obtain⟨ij,r',pl,hz⟩:=I.tuple hq;have hlen:=r'.length;exact len_tuple pl (by simp only [uh]<;>lia) ⟨.int ys.length,H,I.tok _,⟨s.toks+1,by rw [uh,hlen]⟩,q⟩
theorem VZ:jx X (.builtin "len") (λxs H Q=>∃ z,xs=[.str z]/\z.length<=sizeLine/\Q (.int z.length) H):=by intro pins s σ H xs us Q I r h;obtain⟨z,rfl,hz,q⟩:=h;obtain⟨u,rfl,t,rfl⟩:=vals1 r;have hn:=Qo;exact len_str (by lia) ⟨.int z.length,H,I.tok _,⟨_,rfl⟩,q⟩
theorem jx.or (h:jx X f r)(h':jx X f r'):jx X f (λxs H Q=>r xs H Q\/r' xs H Q):=by
 intro pins s σ H xs us Q I rs q;rcases q with q | q
 ·exact h pins s σ H xs us Q I rs q
 ·exact h' pins s σ H xs us Q I rs q
theorem V0:jx X (.type "list") (λxs H Q=>∃ p ys,xs=[.ref p]/\(iA X.K H p ys\/ir X.K H p ys)/\∀ l,H l=none->Q (.ref l) (upd H l (.lst ys))):=by
 intro pins s σ H xs us Q I r h;obtain⟨p,ys,rfl,hq,q⟩:=h;obtain⟨u,rfl,rx⟩:=vals1 r;cases rx
 have fin:∀ (ij:Lg),Vals ys ij->ys.length<=sizeLine->∀ (h':Heap) (c':Nat),(∀ b o',s.heap.get? b=some o'->h'.get? b=some o') ->
   h'.get? s.heap.objs.size=some { cls:=.type "list",dict:=none,data:=.seq ij.toArray c',slots:=#[] }->EP X pins σ Q (.ref s.heap.objs.size) { s with heap:=h' }:=λij r' hz h' c' kp e=>
  ⟨.ref s.heap.objs.size,_,I.laid (t':=s.toks) kp (ui _) (show qC X.prog X.w _ h' _ (.lst ys) from⟨hz,ij,c',r',e⟩),rfl,q _ (I.hok.fresh (ui _))⟩
 rcases hq with hq | hq
 ·obtain⟨ij,r',pl,hz⟩:=I.list hq;have hlen:=r'.length;obtain⟨o,ho,hc,n,hd⟩:=pl.isList;exact call_list_seq p (.inl rfl) ho hc hd (λh' c' kp e=>fin ij r' hz h' c' kp e) (by simp only [uh]<;>lia)
 ·obtain⟨ij,r',pl,hz⟩:=I.tuple hq;have hlen:=r'.length;obtain⟨o,ho,hc,n,hd⟩:=pl;exact call_list_seq p (.inr rfl) ho hc hd (λh' c' kp e=>fin ij r' hz h' c' kp e) (by simp only [uh]<;>lia)
def sI (K:Lf)(T:String)(x:V)(H:Hp):Prop:=match x with
 | .str _=>T="str"
 | .int _=>T="int"
 | .ref p=>(T="list"/\∃ xs,iA K H p xs)\/(T="tuple"/\∃ o,K.lookup p=some o/\o.cls=.type "tuple"/\o.dict=none) \/
   (T="dict"/\((∃ kvs,H p=some (.dK kvs))\/∃ kvs,H p=some (.dT kvs)))\/(T="set"/\∃ S n,H p=some (.set S n))
 | _=>False
theorem D4 {pins:Lp}{s:Shared}(I:Inv X pins σ H s)(r:RelV x v)(ty:sI X.K T x H) : s.TypeIs v T/\∀ a,v=.ref a->∃ ob,s.heap.get? a=some ob/\ob.dict=none:=by
 cases x with
 | str z=>obtain⟨t,rfl⟩:=r;cases (show T="str" from ty);exact⟨typeIs_str s z t,λ_ e=>nomatch e⟩
 | int i=>obtain⟨t,rfl⟩:=r;cases (show T="int" from ty);exact⟨typeIs_int s i t,λ_ e=>nomatch e⟩
 | ref p=>
  cases r;rcases ty with⟨rfl,xs,hq⟩ | ⟨rfl,o,hk,hc,hd⟩ | ⟨rfl,hk⟩ | ⟨rfl,S,n,hk⟩
  ·obtain⟨ij,_,pl,_⟩:=I.list hq;refine⟨pl.isList.typeIs,λa e=>?_⟩;cases e;obtain⟨o,n,e,c,hd,_⟩:=pl;exact⟨o,e,hd⟩
  ·refine⟨⟨o,I.kIn p o hk,hc⟩,λa e=>?_⟩;cases e;exact⟨o,I.kIn _ o hk,hd⟩
  ·have z:∃ o,s.heap.get? p=some o/\o.ExactDict:=by
    rcases hk with⟨kvs,hk⟩ | ⟨kvs,hk⟩
    ·obtain⟨_,_,_,_,o,_,_,e,ex,_⟩:=I.hok p _ hk
     exact⟨o,e,ex⟩
    ·obtain⟨_,_,_,_,o,_,_,e,ex,_⟩:=I.hok p _ hk
     exact⟨o,e,ex⟩
   obtain⟨o,e,ex⟩:=z
   refine⟨⟨o,e,ex.1⟩,λa e2=>?_⟩
   cases e2
   exact⟨o,e,ex.2.1⟩
  ·obtain⟨o,_,_,_,e,ex,_⟩:=I.hok p _ hk;refine⟨⟨o,e,ex.1⟩,λa e2=>?_⟩;cases e2;exact⟨o,e,ex.2.1⟩
 | _=>exact False.elim ty
def pA (K:Lf)(T:String)(r:V->List V->Hp->VK->Prop)(to:TE):TE:=λσ H Q=>to σ H λx H1=>sI K T x H1/\r x [] H1 Q
def Ao (K:Lf)(T:String)(r:V->List V->Hp->VK->Prop)(to:TE)(t:TA):TE:=λσ H Q=>to σ H λx H1=>sI K T x H1/\t σ H1 λxs H2=>r x xs H2 Q
variable {o e:Expr} {es:Lh} {to:TE} {t:TA} {name:Str} {apos cpos:Pos} {T id:String} {r:V->List V->Hp->VK->Prop}
theorem Nk (pa:PlainAttrs T)(slot:Slot T name id)(hty:typeOf (.builtin id)=pure (.type "method_descriptor"))(hm:oN X id r)(ho:PE X o to) (hbase:attributeBase o name X.env (eval o X.env)=eval o X.env:=by rfl) (hline:(apos.endLine == cpos.line)=true:=by rfl):PE X (.Call (.Attribute o name apos) [] [] cpos) (pA X.K T r to):=by intro pins s σ H Q I h;refine wpAny_Call_method0_late hbase hline (iB (ho pins s σ H _ I h) λv s1 zq=>?_);obtain⟨x,H1,I1,r1,ty,q1⟩:=zq;obtain⟨h1,h2⟩:=D4 I1 r1 ty;exact⟨T,id,pa,slot,hty,h1,h2,Calls.callWith_builtin rfl (PySem.evalArgs_none (hm pins s1 σ H1 x [] v [] Q I1 r1 .nil q1))⟩
theorem HH (pa:PlainAttrs T)(slot:Slot T name id)(hty:typeOf (.builtin id)=pure (.type "method_descriptor"))(hm:oN X id r)(ho:PE X o to)(ha:PA X (e::es) t) (hbase:attributeBase o name X.env (eval o X.env)=eval o X.env:=by rfl) (hfew:((backTo cpos (starEach (e::es) X.env)).all (λx=>!x.1)&&(backToKw cpos (keywordEach [] X.env)).all (λx=>x.1.isSome) && decide ((e::es).length+([]:List Keyword).length+(if ([]:List Keyword).isEmpty then 0 else 1)<30))=true:=by rfl) (hline:(apos.endLine == cpos.line)=true:=by rfl) (hs:SE X e es:=by rfl) (hplain:(backTo cpos (starEach es X.env)).any (·.1)=false:=by rfl) : PE X (.Call (.Attribute o name apos) (e::es) [] cpos) (Ao X.K T r to t):=by intro pins s σ H Q I h;refine wpAny_Call_method_late hbase hfew hline rfl (iB (ho pins s σ H _ I h) λv s1 zq=>?_);obtain⟨x,H1,I1,r1,ty,q1⟩:=zq;obtain⟨h1,h2⟩:=D4 I1 r1 ty;refine⟨T,id,pa,slot,hty,h1,h2,?_⟩;have hA:=ha cpos pins s1 σ H1 _ I1 q1;rw [hs] at hA ⊢;refine Calls.callWith_builtin (by show(false||(backTo cpos (starEach es X.env)).any (·.1))=false;rw [hplain]<;>rfl) (Calls.evalArgs_plain ?_);exact iB hA λus s2 ⟨vs,H2,I2,r2,q2⟩=>hm pins s2 σ H2 x vs v us Q I2 r1 r2 q2
end
def De (X:Cx)(id:String)(r:V->List V->Hp->VK->Prop):Prop:= ∀ (pins:Lp) (s:Shared) (σ:St) (H:Hp) (x:V) (xs:List V) (v:Value) (us:Lg) (Q:VK),Inv X pins σ H s->RelV x v->Vals xs us->r x xs H Q -> fW X (call (.builtin id) (v::us)) (EP X pins σ Q) X.xe s
theorem Vals.one:∀ {x:V} {us:Lg},Vals [x] us->∃ u,us=[u]/\RelV x u:=by intro x us h;cases h with | cons r h=>cases h;exact⟨_,rfl,r⟩
theorem Vals.two:∀ {x y:V} {us:Lg},Vals [x,y] us->∃ u v,us=[u,v]/\RelV x u/\RelV y v:=by intro x y us h;cases h with | cons r h=>cases h with | cons q h=>cases h;exact⟨_,_,rfl,r,q⟩
theorem Vals.zero:∀ {us:Lg},Vals [] us->us=[]
 | _,.nil=>rfl
theorem Vals.dropLast {xs:List V}{us:Lg}(h:Vals xs us):Vals xs.dropLast us.dropLast:=by
 induction h with
 | nil=>exact .nil
 | cons r t ih=>
  cases t with
  | nil=>exact .nil
  | cons q t'=>exact .cons r ih
theorem Vals.eraseIdx:∀ {xs:List V} {us:Lg} (i:Nat),Vals xs us->Vals (xs.eraseIdx i) (us.eraseIdx i)
 | _,_,_,.nil=>.nil
 | _,_,0,.cons _ t=>t
 | _,_,i+1,.cons r t=>.cons r (Vals.eraseIdx i t)
theorem Vals.reverse {xs:List V}{us:Lg}(h:Vals xs us):Vals xs.reverse us.reverse:=by
 induction h with
 | nil=>exact .nil
 | cons r t ih=>rw [Up,Up];exact Vals.append ih (.cons r .nil)
theorem za0 {α:Type}(l:List α):l.eraseIdx (l.length - 1)=l.dropLast:=by
 induction l with
 | nil=>rfl
 | cons a r ih=>
  cases r with
  | nil=>rfl
  | cons b r=>
   have e:(a::b::r).length - 1=((b::r).length - 1)+1:=by have h1:(a::b::r).length=r.length+2:=rfl;have h2:(b::r).length=r.length+1:=rfl;lia
   rw [e,List.eraseIdx_cons_succ,ih];all_goals rfl
section
variable {X:Cx} {pins:Lp} {σ:St} {H:Hp} {s:Shared} {l b:Addr} {xs ys zs:List V}
theorem Inv.lset {ij its':Lg}(I:Inv X pins σ H s)(hH:H l=some (.lst xs)) (e:s.heap.get? l=some { cls:=.type "list",data:=.seq ij.toArray n }) (hf:f ij.toArray=its'.toArray) (hv:Vals ys its') (hz:ys.length<=sizeLine) : Inv X pins σ (upd H l (.lst ys)) { s with heap:=s.heap.update l (Obj.mapSeq f),toks:=t' }:=by have q:=PySem.IsL.update e f;rw [hf] at q;refine I.write (x:=l) (e:=l) (by rw [hH];exact trivial) (.inl rfl) (λb' u hb hu=>(uB s.heap (Obj.mapSeq f) (Ne.symm hb)).trans hu) ⟨_,q⟩ ?_;exact⟨hz,its',_,hv,q⟩
theorem Inv.lnew {ij:Lg}(I:Inv X pins σ H s)(hv:Vals ys ij)(hz:ys.length<=sizeLine) :
  Inv X pins σ (upd H s.heap.objs.size (.lst ys)) { s with heap:=s.heap.push { cls:=.type "list",data:=.seq ij.toArray },toks:=t' }:=
 I.laid (λ_ _ q=>uf _ q) (ui _) ⟨hz,ij,0,hv,uA _ rfl⟩
theorem Inv.fresh (I:Inv X pins σ H s):H s.heap.objs.size=none:=I.hok.fresh (ui _)
theorem Inv.lstM (I:Inv X pins σ H s)(hH:H l=some (.lst xs)):xs.length<=sizeLine/\∃ (ij:Lg) (n:Nat),Vals xs ij/\xs.length=ij.length/\s.heap.get? l=some { cls:=.type "list",data:=.seq ij.toArray n }:=by obtain⟨z,ij,n,r,e⟩:=I.hok l _ hH;exact⟨z,ij,n,r,r.length,e⟩
theorem RU (h:n<=sizeLine):Builtin.List.listTooLong n=false:=by unfold Builtin.List.listTooLong;exact uF (by lia)
end
section
variable {X:Cx}
def V1:V->List V->Hp->VK->Prop:=λx vs H Q=>∃ l xs y,x=.ref l/\vs=[y]/\H l=some (.lst xs)/\xs.length<sizeLine/\Q .non (upd H l (.lst (xs++[y])))
theorem j4:De X "list.append" V1:=by intro pins s σ H x vs v us Q I rx rv h;obtain⟨l,xs,y,rfl,rfl,hH,hz,q⟩:=h;cases rx;obtain⟨u,rfl,ru⟩:=rv.one;obtain⟨z,ij,n,r,hl,e⟩:=I.lstM hH;refine GU F.slot_list_append ⟨_,e,rfl⟩ F.entry_list_append (F.args_list_append_2 _ _) (PySem.list_append l ij.toArray n u (by rw [uh];lia)) ⟨e,?_⟩;refine⟨.non,_,I.lset (its':=ij++[u]) hH e (by simp) (r.append (.cons ru .nil)) ?_,rfl,q⟩;rw [uc,uw];lia
def V2:V->List V->Hp->VK->Prop:=λx vs H Q=>∃ l b xs zs,x=.ref l/\vs=[.ref b]/\H l=some (.lst xs)/\H b=some (.lst zs)/\xs.length+zs.length<=sizeLine/\Q .non (upd H l (.lst (xs++zs)))
theorem JL:De X "list.extend" V2:=by
 intro pins s σ H x vs v us Q I rx rv h;obtain⟨l,b,xs,zs,rfl,rfl,hH,hB,hz,q⟩:=h;cases rx;obtain⟨u,rfl,ru⟩:=rv.one;cases ru;obtain⟨z,ij,n,r,hl,e⟩:=I.lstM hH;obtain⟨z2,its2,n2,r2,hl2,e2⟩:=I.lstM hB;have hsz:ij.toArray.size+its2.toArray.size<=sizeLine:=by rw [uh,uh];lia
 have hlong:¬ (!ij.toArray.isEmpty&&Builtin.List.listTooLong (ij.toArray.size+its2.toArray.size))=true:=by rw [RU hsz,U5];exact uE
 refine GU F.slot_list_extend ⟨_,e,rfl⟩ F.entry_list_extend (F.args_list_extend_2 _ _)
  (AutoSeq1.list_extend_list_list_0 l ij.toArray n b its2.toArray n2 hlong (by rw [uh];lia) (by lia)) ⟨e,e2,?_⟩
 refine⟨.non,_,I.lset (its':=ij++its2) hH e (by simp) (r.append r2) ?_,rfl,q⟩;rw [uc];lia
def sZ:V->List V->Hp->VK->Prop:=λx vs H Q=>∃ l xs y,x=.ref l/\vs=[]/\H l=some (.lst xs)/\xs[xs.length - 1]? = some y/\Q y (upd H l (.lst xs.dropLast))
theorem BI:De X "list.pop" sZ:=by
 intro pins s σ H x vs v us Q I rx rv h;obtain⟨l,xs,y,rfl,rfl,hH,hy,q⟩:=h;cases rx;have hus:=rv.zero;subst hus;obtain⟨z,ij,n,r,hl,e⟩:=I.lstM hH;obtain⟨u,hu,ru⟩:=r.get hy;have hy':ij.toArray[ij.toArray.size - 1]? = some u:=by show ij.toArray[ij.length - 1]? = some u;rw [← Array.getElem?_toList,← hl];exact hu
 refine GU F.slot_list_pop ⟨_,e,rfl⟩ F.entry_list_pop (F.args_list_pop_1 _) (MeetsSeq.list_pop_last l ij.toArray n u hy' (by rw [uh];lia)) ⟨e,?_⟩;refine⟨y,_,I.lset (its':=ij.dropLast) hH e ?_ r.dropLast ?_,ru,q⟩
 ·show ij.toArray.eraseIdxIfInBounds (ij.toArray.size - 1)=ij.dropLast.toArray;rw [uh,List.eraseIdxIfInBounds_toArray,za0]
 ·rw [List.length_dropLast];lia
def tE:R2:=λx y H Q=>∃ l b xs zs,x=.ref l/\y=.ref b/\H l=some (.lst xs)/\H b=some (.lst zs)/\xs.length+zs.length<=sizeLine/\∀ p,H p=none->Q (.ref p) (upd H p (.lst (xs++zs)))
theorem qx:iY X (binaryOp .Add) tE:=by
 intro pins s σ H x y v u Q I rx ry h;obtain⟨l,b,xs,zs,rfl,rfl,hH,hB,hz,q⟩:=h;cases rx;cases ry;obtain⟨z,ij,n,r,hl,e⟩:=I.lstM hH;obtain⟨z2,its2,n2,r2,hl2,e2⟩:=I.lstM hB;refine PySem.P.add_list e e2 ?_ (by rw [uh,uh];lia);have ea:ij.toArray++its2.toArray=(ij++its2).toArray:=by simp
 rw [ea];exact⟨.ref _,_,I.lnew (t':=s.toks) (r.append r2) (by rw [uc];lia),rfl,q _ I.fresh⟩
end
section
variable {prog:Program} {w:World} {A:Around} {E:fV} {s:Shared}
set_option maxRecDepth 100000 in
end
section
variable {X:Cx}
end
end L2
namespace Att
open PySem PySem.W PySem.Calls PyProof.Rows
theorem WM:∀ (ns:List Int) (vs:Lg),WellAll P h vs (ns.map WData.int)->IntsAre vs ns:=by
 intro ns
 induction ns with
 | nil=>intro vs w;rw [U6] at w;cases w;exact .nil
 | cons n ns ih=>
  intro vs w;rw [uz] at w;cases w with
  | cons a b=>cases a;exact .cons _ _ (ih _ b)
theorem SK {l:OpenLaw}(hn:l.most=some n){h:Heap}{args:List WData}{vals:Lg} (hpre:l.row.toRowW.claim.pre args=true) (hwl:WellAll P h vals args) : ∃ a vs ns,vals=[Value.ref a]/\args=[WData.list (ns.map WData.int)]/\h.get? a=some { cls:=.type "list",data:=.seq vs.toArray }/\IntsAre vs ns/\ns.length<=n:=by
 have hsh:WShape.hasAll [] args [.list .int]=true:=(pre_splitW hpre).1;have hc:l.pre.holds [] { args:=args }=true:=(pre_splitW hpre).2;obtain⟨d,r,rfl,h1,h2⟩:=hasAllW_cons hsh;obtain rfl:=hasAllW_nil h2;obtain⟨xs,rfl,h3⟩:=hasW_list h1;obtain⟨ns,rfl⟩:=items_int h3
 have hlen:ns.length<=n:=by
  unfold OpenLaw.pre at hc;have h4:(WTm.not (.lt (.lit (.int (n:Int))) (.len (.arg 0)))).holds [] { args:=[.list (ns.map .int)] }=true:=by have h4:=(holds_andW hc).1;rw [hn] at h4;exact h4
  have h5:=condW_of h4 (w_not (w_lt w_lit (w_len_list (w_arg rfl))));rw [uk] at h5;refine Nat.le_of_not_lt λq=>?_;have q':(n:Int)<((ns.length:Nat):Int):=by lia
  first
   | (rw [UC q'] at h5;exact absurd h5 (by decide))
   | (simp at h5;omega)
 cases hwl with
 | cons w1 w2=>
  cases w2;cases w1 with
  | list ho hall=>exact⟨_,_,ns,rfl,rfl,ho,WM ns _ hall,hlen⟩
theorem SJ (l:OpenLaw)(args:List WData):l.row.toRowW.claim.post args (.bool true) args=true:=
 postW_of (r:=l.row.toRowW) (X:=(true == true))
  (show WShape.has [] (.bool true) .bool=true by first | rfl | decide | simp [WShape.has,WShape.arms,WShape.armsAll])
  (show(WTm.eq .res (.lit (.bool true))).value [] { args:=args,res:=some (.bool true),after:=args }=some (.bool (true == true)) from w_eq_bool (w_res rfl) w_lit) rfl
theorem ni {l:OpenLaw}{loose:Lj}{d:DefRec} (hn:l.most=some n) (hdf:d.params.defaults=[]) (call:∀ (w:World) (s₀ s₁:Shared) (mg mb:La) (fa:Addr) (o:Obj) (pm cd doc:Value) (a:Addr) (vs:Lg) (ns:List Int), Ground q loose [] XP w s₀ mg mb s₁.heap->YP w s₁.heap -> s₁.heap.get? fa=some o->o.data=.func (docDef d.name d.params d.body d.scope pm cd doc)->s₁.heap.CodeRec cd d.name->mg d.name=some (.ref fa) -> s₁.heap.get? a=some { cls:=.type "list",data:=.seq vs.toArray }->IntsAre vs ns->ns.length<=n->s₁.gens = #[] -> codeAny (model l.prog w) callerA (.call (.ref fa) ⟨[.ref a],[]⟩) (λr s'=>r=.ok (.ret (.bool true))/\OldK s₁.heap s'.heap/\s'.os=s₁.os/\AllBare s'.gens) s₁) : WalkO q loose XP YP l.row.toRowW d [] (λf vs=>PySem.call f vs):=by intro w s₀ s₁ mg mb G Y fa o pm cd doc dV kV ho hd hcd hD hmg hg args vals as hpre hlay hrd hwl hlo;obtain rfl:dV=.none:=Dflts.none hD hdf;obtain rfl:kV=.none:=Dflts.noKw hD;obtain⟨a,vs,ns,rfl,rfl,hobj,hints,hlen⟩:=SK hn hpre hwl;refine enter_call (Um (call w s₀ s₁ mg mb fa o pm cd doc a vs ns G Y ho (fd_plain hd) hcd hmg hobj hints hlen hg) λr s' hq=>?_);obtain⟨rfl,h2,h3,h4⟩:=hq;exact⟨.inl ⟨.bool true,.bool true,[],rfl,λ_=>rfl,.bool true,SJ l _,λ_=>⟨List.Pairwise.nil,λ_ hm=>(nomatch hm)⟩⟩,h2,h3,h4⟩
section
variable {prog:Program} {w:World} {A:Around} {E:fV} {s:Shared} {K:Frag}
end
end Att
namespace L2
open PySem PySem.Spec PyProof.Rows
theorem Vv:∀ {vs:Lg} {ns:List Int},IntsAre vs ns->Vals (ns.map V.int) vs
 | _,_,.nil=>.nil
 | _,_,.cons n t h=>.cons ⟨t,rfl⟩ (Vv h)
def sC (H:Hp):Prop:=∀ b,H b=none\/∃ o xs,H b=some (.frz o (.lst xs))
theorem RT {K:Lf}{s₁:Shared}{vs:Lg}{ns:List Int} (KX:K.In s₁.heap) (hns:s₁.heap.Ns mainGlobals mg) (hb:s₁.heap.Ns builtinsNs mb) (hbb:∀ x:Str,x≠"__name__"->mb x=bootBuiltins x) (hlim:s₁.heap.NoLimit) (hg:s₁.gens = #[]) (ha:s₁.heap.get? a=some { cls:=.type "list",data:=.seq vs.toArray }) (hi:IntsAre vs ns) (hl:ns.length<=sizeLine) (hr:ix k callerA) (F:∀ base:Heap,K.In base->base.Ns mainGlobals mg->iO P w K mg base CX k fa fd [x] sp) (hbind:∀ (s:Shared) (u:Value),BindsTo s fd ⟨[u],[]⟩ [(x,u)]) (hsp:∀ H:Hp,sC H->iA K H a (ns.map V.int)->sp [.ref a] H (λv _=>v=.bl true) λ_ _ _=>False) (hCX:∀ H e s',CX [] H s₁ (λ_ _ _=>False) e s'->False) : codeAny (model P w) callerA (.call (.ref fa) ⟨[.ref a],[]⟩) (λr s'=>r=.ok (.ret (.bool true))/\OldK s₁.heap s'.heap/\s'.os=s₁.os/\AllBare s'.gens) s₁:=by
 have rv:=Vv hi;have lenV:=hi.length
 have core:∀ H:Hp,sC H->iA K H a (ns.map V.int)->lF P w H s₁.heap->(∀ b,H b≠none->b=a)->(H a≠none->K.lookup a=none) ->
   codeAny (model P w) callerA (.call (.ref fa) ⟨[.ref a],[]⟩) (λr s'=>r=.ok (.ret (.bool true))/\OldK s₁.heap s'.heap/\s'.os=s₁.os/\AllBare s'.gens) s₁:=by
  intro H hO hS hok hA hK
  have base_of:∀ {b:Addr} {o:Obj},s₁.heap.get? b=some o->H b=none->(mM s₁.heap H).get? b=some o:=λe n=>Rx e n
  have noA:∀ {b:Addr} {o:Obj} {es:Array DictEntry} {ep:Nat},s₁.heap.get? b=some o->o.data=.dict es ep->H b=none:=λ{b o es ep} e d=>by
   cases q:H b with
   | none=>rfl
   | some u=>
    have e':b=a:=hA b (by rw [q];simp)
    subst e'
    rw [ha] at e;cases e
    have d':Data.seq vs.toArray _=Data.dict es ep:=d
    cases d'
  have nsK:∀ {b:Addr} {m:La},s₁.heap.Ns b m->(mM s₁.heap H).Ns b m:=λ{b m} ⟨o,es,ep,e,d,r⟩=>⟨o,es,ep,base_of e (noA e d),d,r⟩
  have hKb:K.In (mM s₁.heap H):=λb o e=>base_of (KX b o e) (by
   cases q:H b with
   | none=>rfl
   | some u=>
    have e':b=a:=hA b (by rw [q];simp)
    subst e'
    rw [hK (by rw [q];simp)] at e;cases e)
  have hM:Mod K mg (mM s₁.heap H):=⟨hKb,nsK hns,⟨mb,nsK hb,hbb⟩,let ⟨mc,h1,h2⟩:=hlim;⟨mc,nsK h1,h2⟩⟩
  have e0:lU P w K mg (mM s₁.heap H) callerA [] s₁ H:=⟨rfl,hM,λb o e=>O4 e,gU (SX _ _),trivial,λb hb=>absurd (show b∈([]:Le) from hb) (by simp),hok,.of_eq hg⟩
  refine Um ((F _ hKb (nsK hns)).run callerA [] s₁ H ⟨[.ref a],[]⟩ [.ref a] [.ref a] _ _ hr e0 (hbind s₁ (.ref a)) (.cons rfl .nil) (hsp H hO hS)) λr s' h=>?_
  cases r with
  | error e=>exact(hCX H e s' h).elim
  | ok fl=>
   cases fl with
   | next=>exact False.elim h
   | brk=>exact False.elim h
   | cont=>exact False.elim h
   | ret u=>
    obtain⟨v,H',os,bare,un,hok',r',q⟩:=h
    have q':v=.bl true:=q
    subst q'
    obtain rfl:u=Value.bool true:=r'
    refine⟨rfl,OldK.of_keep λb o e=>?_,os,bare⟩
    cases q:H b with
    | none=>exact un.keep b o e q (by intro z;exact absurd (show b∈([]:Le) from z) (by simp)) (by simp)
    | some u=>
     rcases hO b with z | ⟨ob,xs,z⟩
     ·rw [q] at z;cases z
     ·have z2:=un.frzs b ob _ z
      obtain⟨e1,_⟩:=hok b _ z
      obtain⟨e2,_⟩:=hok' b _ z2
      rw [e] at e1;cases e1
      exact e2
 cases hk:K.lookup a with
 | some o=>have e:=KX a o hk;rw [ha] at e;cases e;refine core (λ_=>none) (λ_=>.inl rfl) (.inr ⟨_,vs.toArray,_,hk,rfl,rfl,rfl,by rw [uh,lenV];exact hl,by simpa using rv⟩) (λb u z=>by have z':(none:Option HO)=some u:=z;cases z') (λb z=>absurd rfl z) λz=>absurd rfl z
 | none=>
  refine core (λb=>if b=a then some (.frz { cls:=.type "list",data:=.seq vs.toArray } (.lst (ns.map V.int))) else none) (λb=>?_) (.inl (.inr ⟨{ cls:=.type "list",data:=.seq vs.toArray },ue rfl⟩)) (λb u z=>?_) (λb z=>?_) λ_=>hk
  ·by_cases hb:b=a
   ·exact .inr ⟨_,_,ue hb⟩
   ·exact .inl (ub hb)
  ·by_cases hb:b=a
   ·have z':=(ue hb).symm.trans z;cases z';subst hb;exact⟨ha,by rw [uk];exact hl,vs,_,rv,ha⟩
   ·have z':=(ub hb).symm.trans z;cases z'
  ·by_cases hb:b=a
   ·exact hb
   ·exact absurd (ub hb) z
theorem NY {l:PySem.W.OpenLaw}{n k:Nat}{q:Program}{loose:Lj}{XP:(La)->Heap->Prop}{YP:World->Heap->Prop}{d:DefRec}{K:Params->Lf}{CX:World->mw}{sp:World->Sp}{x:Str} (hn:l.most=some n) (hn2:n<=sizeLine) (hdf:d.params.defaults=[]) (hr:ix k callerA) (hY:∀ (w:World) (h:Heap),YP w h->(K w.params).In h) (F:∀ (w:World) (mg:La) (fa:Addr) (h:Heap),(K w.params).In h->h.Ns mainGlobals mg->mg d.name=some (.ref fa) -> ∃ fd:FuncData,(∀ (s:Shared) (u:Value),BindsTo s fd ⟨[u],[]⟩ [(x,u)]) /\ ∀ base:Heap,(K w.params).In base->base.Ns mainGlobals mg->iO l.prog w (K w.params) mg base (CX w) k fa fd [x] (sp w)) (hsp:∀ (w:World) (H:Hp) (a:Addr) (ns:List Int),ns.length<=n->sC H->iA (K w.params) H a (ns.map V.int)->sp w [.ref a] H (λv _=>v=.bl true) λ_ _ _=>False) (hCX:∀ (w:World) (H:Hp) (s:Shared) (e:Value) (s':Shared),CX w [] H s (λ_ _ _=>False) e s'->False) : PySem.W.WalkO q loose XP YP l.row.toRowW d [] (λf vs=>PySem.call f vs):=by refine Att.ni hn hdf λw s₀ s₁ mg mb fa o pm cd doc a vs ns G Y ho hd hcd hmg hobj hints hlen hg=>?_;have KX:=hY w _ Y;obtain⟨fd,hb,hF⟩:=F w mg fa _ KX G.T.g hmg;exact RT KX G.T.g G.T.b G.T.builtins G.T.nolimit hg hobj hints (uI hlen hn2) hr hF hb (λH hO hS=>hsp w H a ns hlen hO hS) λH e s'=>hCX w H s₁ e s'
def inClass (s:Stmt)(j:Nat):Stmt:=match s with
 | .ClassDef _ _ _ body _ _ _ _ _ _ _=>body.getD j (.Pass ⟨0,0,0,0⟩)
 | _=>.Pass ⟨0,0,0,0⟩
def jb (s:Stmt):Arguments:=match s with
 | .FunctionDef _ a _ _ _ _ _ _ _ _=>a
 | _=>{ posonlyargs:=[],args:=[],vararg:=none,kwonlyargs:=[],kw_defaults:=[],kwarg:=none,defaults:=[] }
def zW (s:Stmt):List Stmt:=match s with
 | .FunctionDef _ _ b _ _ _ _ _ _ _=>b
 | _=>[]
def zf (s:Stmt):Scope:=match s with
 | .FunctionDef _ _ _ _ _ _ sc _ _ _=>sc
 | _=>{ kind:=.function,names:=[],isGenerator:=false,isCoroutine:=false }
abbrev mJ:mw:=λ_ _ _ _ _ _=>False
abbrev E0:XK:=λ_ _ _=>False
theorem A9:Passes mJ X E0:=λ_ _ _ _ _ _ _ h=>h.elim
structure oQ (K:Lf)(x qual:Str)(st:Stmt)(f:Addr)(fd:FuncData):Prop where
 ex:∃ (oc:Value) (od:Option Addr) (kV doc pm:Value) (an:Option Addr) (cdv ct:Value) (osl:Array (Option Value)),
  fd=PySem.W.fnOf x qual (jb st) (zW st) (zf st) .none kV doc pm an cdv ct/\K.lookup f=some ⟨oc,od,.func fd,osl⟩/\PySem.W.codeIn K cdv qual=true
 kp:PySem.W.keepIn K (.ref f)=true
section
variable {P:Program} {w:World} {K:Lf} {mg:La} {base:Heap}
theorem oQ.ok {x qual:Str}{st:Stmt}{f:Addr}{fd:FuncData}{N ps:Lj}{k:Nat}{sp:Sp}(F:oQ K x qual st f fd)(S:zj N ps (zf st))(len:∀ vs H Q E,sp vs H Q E->vs.length=ps.length) (hbody:∀ (cdv:Value) (A:Around) (outer:List Env) (s:Shared) (H:Hp) (vs:List V) (Q:VK) (E:XK),ix k (A.deeper (envOfC qual (zf st) s.heap.objs.size f cdv))->sp vs H Q E -> ∃ t,lS (iW mJ P w K mg base N qual (zf st) f cdv A outer s H E).nox (zW st) t/\t { nx:=λ_ H'=>Q .non H',rt:=Q } (start N vs) H):iO P w K mg base mJ (k+1) f fd ps sp:=by obtain⟨oc,od,kV,doc,pm,an,cdv,ct,osl,rfl,lk,hcd⟩:=F.ex;refine Ac lk hcd S len λA outer s H vs Q E hr hsp=>?_;obtain⟨t,h,q⟩:=hbody cdv A outer s H vs Q E hr hsp;exact⟨t,h.nox,q⟩
theorem oQ.binds {x qual:Str}{st:Stmt}{f:Addr}{fd:FuncData}{ps:Lj}(F:oQ K x qual st f fd) (h:∀ (kV doc pm:Value) (an:Option Addr) (cdv ct:Value) (us:Lg),us.length=ps.length->bindArgs (PySem.W.fnOf x qual (jb st) (zW st) (zf st) .none kV doc pm an cdv ct) ⟨us,[]⟩=pure (ps.zip us)):Binds K fd ps []:=by obtain⟨oc,od,kV,doc,pm,an,cdv,ct,osl,rfl,lk,hcd⟩:=F.ex;exact .all (h kV doc pm an cdv ct)
theorem Zw {x qual:Str}{st:Stmt}{f:Addr}{oc:Value}{od an:Option Addr}{osl:Array (Option Value)}{kV doc pm cdv ct:Value}(l:K.lookup f=some ⟨oc,od,.func (PySem.W.fnOf x qual (jb st) (zW st) (zf st) .none kV doc pm an cdv ct),osl⟩) (c:PySem.W.codeIn K cdv qual=true) (k:PySem.W.keepIn K (.ref f)=true):oQ K x qual st f (PySem.W.fnOf x qual (jb st) (zW st) (zf st) .none kV doc pm an cdv ct):=⟨⟨oc,od,kV,doc,pm,an,cdv,ct,osl,rfl,l,c⟩,k⟩
end
theorem Vw {A:Around}(hr:ix k A):A.units+1<cLine:=Nat.lt_of_le_of_lt (Nat.add_le_add_left (by decide:1<=64) _) hr.units
section
variable {X:Cx}
theorem pv (i:Nat)(hN:X.N[i]? = some x:=by rfl) (hv:Av X.env.scope x:=by first | exact Or.inl rfl | exact Or.inr (Or.inl rfl) | exact Or.inr (Or.inr rfl)) (hd:(x == ("__debug__":Str))=false:=by decide)
  (hcd:(x == ("__classdict__":Str))=false:=by decide):PE X (.Name x pos) (iL i):=M7 hN hv hd hcd
end
def fX (H H':Hp):Prop:=∀ b o,H b=some o->H' b=some o
theorem fX.refl (H:Hp):fX H H:=λ_ _ h=>h
theorem fX.trans (a:fX H H1)(b:fX H1 H2):fX H H2:=λc o h=>b c o (a c o h)
theorem fX.free (e:fX H H')(h:H' l=Option.none):H l=Option.none:=by
 cases q:H l with
 | none=>rfl
 | some o=>rw [e l o q] at h;cases h
theorem fX.seq {K:Lf}{H H':Hp}{a:Addr}{xs:List V}(e:fX H H')(h:iA K H a xs):iA K H' a xs:=by
 rcases h with(h | ⟨o,h⟩) | h
 ·exact .inl (.inl (e _ _ h))
 ·exact .inl (.inr ⟨o,e _ _ h⟩)
 ·exact .inr h
def AA (x:Str):It:=⟨λi _=>i<x.cps.size,λi H v H'=>H' = H/\∃ c,x.cps[i]? = some c/\v=.str ⟨#[c]⟩,λi _=>x.cps.size<=i⟩
section
variable {X:Cx} {tg:Expr}
theorem Wy {P:Program}{w:World}{K:Lf}{tg:Expr}{x:Str}{t:Tok}{ty:String}{it:Addr}
  (hty:["enumerate","zip","dict_itemiterator","dict_reverseitemiterator","odict_iterator","itertools.zip_longest","itertools.pairwise"].contains ty=false)
  (W:∀ A':Around,A'.handled=none->Walks P w A' it [it] [it] x.cps.size (SignAt x) (λi h=>h.IsStrIter it ty x t i))
  (hend:∀ (A':Around) (s:Shared) (i:Nat) (E:fV) (Q:Option Value->Shared->Prop),A'.handled=none->s.heap.IsStrIter it ty x t i->x.cps[i]? = none ->
   (∀ h',(∀ b o,b≠it->s.heap.get? b=some o->h'.get? b=some o)->Q none { s with heap:=h' })->wpAny (model P w) A' (pyNext (.ref it)) Q E s)
  (hself:∀ (A':Around) (s:Shared) (i:Nat) (E:fV) (Q:fV),s.heap.IsStrIter it ty x t i->Q (.ref it) s->wpAny (model P w) A' (pyIter (.ref it)) Q E s) :
  Turn P w K tg (AA x) [it] it (λi h=>h.IsStrIter it ty x t i) where
 mem:=by simp
 obj:=λi h st b hb=>by
  have e:b=it:=by simpa using hb
  subst e
  obtain⟨o,e,c,d⟩:=st
  exact⟨o,e,λv z=>by rw [d] at z;cases z⟩
 keep:=λi h h' st k=>let ⟨o,ho,r⟩:=st;⟨o,k it (by simp) o ho,r⟩
 item:=by
  intro X hP hw hK hc i pins s σ H E I hf st hg
  subst hP hw hK
  obtain⟨f0,f1,f2,f3,f4,f5⟩:=hf it (by simp)
  refine(W X.A (I.ok.hd hc)).item i s _ _ hg st λv h' tk hv st' kk=>?_
  obtain⟨c,u,hcu,rfl⟩:=hv
  have I1:Inv X pins σ H { s with heap:=h',toks:=tk }:=I.turned (λb o hb e=>kk b o (by simpa using hb) e) f0 f1 f3 f4 f5
  obtain⟨o,e,hcl,d⟩:=id st'
  exact⟨_,rfl,Ae (s:={ s with heap:=h',toks:=tk }) e hcl d hty ⟨.str ⟨#[c]⟩,H,I1,⟨u,rfl⟩,⟨rfl,c,hcu,rfl⟩,st',λb hb=>(hf b hb).1⟩⟩
 done:=by
  intro X hP hw hK hc i pins s σ H E I hf st hg
  subst hP hw hK
  obtain⟨f0,f1,f2,f3,f4,f5⟩:=hf it (by simp)
  have hg':x.cps.size<=i:=hg
  exact hend X.A s i E _ (I.ok.hd hc) st (by simp [hg']) λh' eb=>⟨rfl,I.turned (t':=s.toks) (λb o hb e=>eb b o hb e) f0 f1 f3 f4 f5⟩
 self:=λA i s Q E st h=>hself A s i E Q st h
def rX (tl:TE):TI:=λσ H R=>tl σ H λx H1=>∃ z,x=.str z/\R (AA z) H1
theorem LV (hl:PE X l tl):PI X tg l (rX tl):=by
 intro pins s σ H R I h;refine iB (hl pins s σ H _ I h) λv s1 zq=>?_;obtain⟨x,H1,I1,r1,q1⟩:=zq;obtain⟨z,rfl,q⟩:=q1;obtain⟨t,rfl⟩:=r1
 have fin:∀ (ty:String) (o:Obj),Turn X.prog X.w X.K tg (AA z) [s1.heap.objs.size] s1.heap.objs.size (λi h=>h.IsStrIter s1.heap.objs.size ty z t i)->(s1.heap.push o).IsStrIter s1.heap.objs.size ty z t 0 ->
   t5 X pins σ tg R (.ref s1.heap.objs.size) { s1 with heap:=s1.heap.push o }:=λty o T st=>by
  refine⟨s1.heap.objs.size,[s1.heap.objs.size],_,_,H1,rfl,I1.kept (t':=s1.toks) λb o e=>uf _ e,T,st,λb hb=>?_,q⟩
  have e:b=s1.heap.objs.size:=by simpa using hb
  subst e
  exact I1.fpOk (ui _) (I1.hok.fresh (ui _))
 cases ha:z.cps.all (· < 128)
 ·refine wpAny_pyIter_wide ha (fin "str_iterator" _ (Wy (by decide) (λA' hA=>Walks.strWide hA _ z t) ?_ ?_) ⟨_,uA _ rfl,rfl,rfl⟩)
  ·intro A' s i E Q hA st hx hq;exact wpAny_pyNext_wide_end hA st hx hq
  ·intro A' s i E Q st h;exact wpAny_pyIter_striter_wide st h
 ·refine wpAny_pyIter_ascii ha (fin "str_ascii_iterator" _ (Wy (by decide) (λA' hA=>Walks.strAscii hA _ z t) ?_ ?_) ⟨_,uA _ rfl,rfl,rfl⟩)
  ·intro A' s i E Q hA st hx hq;exact wpAny_pyNext_ascii_end hA st hx hq
  ·intro A' s i E Q st h;exact wpAny_pyIter_striter_ascii st h
end
theorem vS {env:Env}(y:Str):∀ (names:List (Str×NameKind)),
  (names.map λ(n,k)=>if (k == NameKind.free&&env.scope.kind == .function&&env.kindOf n == some .cell) then(n,NameKind.cell) else(n,k)).lookup y =
   (names.lookup y).map λk=>if (k == NameKind.free&&env.scope.kind == .function&&env.kindOf y == some .cell) then NameKind.cell else k
 | []=>rfl
 | (n,k)::r=>by
  have ih:=vS y r (env:=env);rw [uz];by_cases hy:y=n
  ·subst hy;show List.lookup y ((if (k == NameKind.free&&env.scope.kind == .function&&env.kindOf y == some .cell)=true then(y,NameKind.cell) else(y,k))::_)=_;by_cases hc:(k == NameKind.free&&env.scope.kind == .function&&env.kindOf y == some .cell)=true
   ·rw [ue hc];simp only [u5,Uu,uX,hc,if_true]
   ·rw [ub hc];simp only [u5,Uu,uX,hc,Gm];rfl
  ·have hb:(y == n)=false:=by simpa using hy
   show List.lookup y ((if (k == NameKind.free&&env.scope.kind == .function&&env.kindOf n == some .cell)=true then(n,NameKind.cell) else(n,k))::_)=_;by_cases hc:(k == NameKind.free&&env.scope.kind == .function&&env.kindOf n == some .cell)=true
   ·rw [ue hc];simp only [u5,hb];exact ih
   ·rw [ub hc];simp only [u5,hb];exact ih
theorem Qp {env:Env}:∀ (names:List (Str×NameKind)) (cs:List (Str×Addr)),(∀ y∈names,y.2=.free->∃ c,env.cells.lookup y.1=some c)->(∀ y c,cs.lookup y=some c->env.cells.lookup y=some c) ->
  ∃ cl,(forIn (m:=Sem) names cs λ(x:Str×NameKind) (r:List (Str×Addr))=>(if (x.2 == .free)=true then(do let c ← cellOf env x.1;pure (ForInStep.yield ((x.1,c)::r))) else pure (ForInStep.yield r)))=pure cl /\
   (∀ y c,cl.lookup y=some c->env.cells.lookup y=some c)/\(∀ y∈names,y.2=.free->∃ c,cl.lookup y.1=some c)/\∀ y,(∃ c,cs.lookup y=some c)->∃ c,cl.lookup y=some c
 | [],cs,_,hcs=>⟨cs,rfl,hcs,(λ_ h=>nomatch h),(λ_ h=>h)⟩
 | (n,k)::r,cs,h,hcs=>by
  by_cases hk:k=.free
  ·subst hk;obtain⟨c,hc⟩:=h (n,.free) Us rfl;have hc:env.cells.lookup n=some c:=hc
   have hcs':∀ y c',((n,c)::cs).lookup y=some c'->env.cells.lookup y=some c':=λy c' e=>by
    by_cases hy:y=n
    ·subst hy;simp only [u5,Uu] at e;cases e;exact hc
    ·have hb:(y == n)=false:=by simpa using hy
     simp only [u5,hb] at e;exact hcs y c' e
   obtain⟨cl,e1,e2,e3,e4⟩:=Qp r ((n,c)::cs) (λy hy=>h y (uN _ hy)) hcs';refine⟨cl,?_,e2,λy hy hf=>?_,λy hy=>e4 y ?_⟩
   ·rw [List.forIn_cons];simp only [Uu,if_true,cellOf,hc];exact e1
   ·rcases uq.mp hy with rfl | hy
    ·exact e4 n ⟨c,by simp only [u5,Uu]⟩
    ·exact e3 y hy hf
   ·obtain⟨c',hc'⟩:=hy;by_cases hy:y=n
    ·subst hy;exact⟨c,by simp only [u5,Uu]⟩
    ·have hb:(y == n)=false:=by simpa using hy
     exact⟨c',by simp only [u5,hb];exact hc'⟩
  ·obtain⟨cl,e1,e2,e3,e4⟩:=Qp r cs (λy hy=>h y (uN _ hy)) hcs;refine⟨cl,?_,e2,λy hy hf=>?_,e4⟩
   ·have hb:(k == NameKind.free)=false:=by simpa using hk
    rw [List.forIn_cons];simp only [hb,gn,Gm];exact e1
   ·rcases uq.mp hy with rfl | hy
    ·exact absurd hf hk
    ·exact e3 y hy hf
theorem za2 {env:Env}{scope:Scope}(h:∀ y∈scope.names,y.2=.free->∃ c,env.cells.lookup y.1=some c) : ∃ cl,closureFor scope env=pure cl/\(∀ y c,cl.lookup y=some c->env.cells.lookup y=some c)/\(∀ y∈scope.names,y.2=.free->∃ c,cl.lookup y.1=some c):=by obtain⟨cl,e1,e2,e3,_⟩:=Qp scope.names [] h (λy c e=>by simp at e);refine⟨cl,?_,e2,e3⟩;have e:closureFor scope env=(forIn (m:=Sem) scope.names [] λ(x:Str×NameKind) (r:List (Str×Addr))=>(if (x.2 == .free)=true then(do let c ← cellOf env x.1;pure (ForInStep.yield ((x.1,c)::r))) else pure (ForInStep.yield r))) >>= λcs=>pure cs:=rfl;rw [e,e1];rfl
theorem Kj {prog:Program}{elt target iter:Expr}{scope:Scope}(I:Nat->Shared->Prop)
  (turn:∀ n s,I n s->wpAny (model prog w) A (pyNext it) (λr s₁=>match r with
   | none=>R (.ok .next) s₁
   | some v=>wpAny (model prog w) A (letOwnedTupleGo target it v) (λ_ s₁=>wpAny (model prog w) A (assign target env v) (λ_ s₂=>
     wpAny (model prog w) A (forIn ifs true λc r=>if r=true then do let ok ← isTrue c env (eval c env);pure (ForInStep.yield ok) else pure (ForInStep.yield r)) (λok s₃=>
      if ok=true then wpAny (model prog w) A (eval elt env) (λx s₄=>
       wpAny (model prog w) A (call (.builtin "list.append") [acc,x]) (λ_ s₅=>∃ m,m<n/\I m s₅) (λ_ _=>False) s₄) (λ_ _=>False) s₃
      else ∃ m,m<n/\I m s₃) (λ_ _=>False) s₂) (λ_ _=>False) s₁) (λ_ _=>False) s₁) (λ_ _=>False) s)
  (n:Nat) (h:I n s) :
  codeAny (model prog w) A (.compLoop (.ListComp elt [⟨target,iter,ifs,0⟩] scope pos) 0 it acc env) R s:=by
 refine codeAny_loop rfl I (λn s hI=>?_) n h
 show wpAny _ A ((compTurn (.ListComp elt [⟨target,iter,ifs,0⟩] scope pos) 0 it acc env).onRaise (λx=>do noteFrame x env;theTreesLotGoes x)) _ _ s
 refine wpAny_noted ?_
 rw [compTurn_list]
 refine ua (Ua (ua (um (turn n s hI) (λr s₁ h₁=>?_) λ_ _ h'=>h'.elim)))
 cases r with
 | none=>exact ud h₁
 | some v=>
  refine ua (um h₁ (λ_ s₁ h₁=>?_) λ_ _ h'=>h'.elim)
  refine ua (um h₁ (λ_ s₂ h₂=>ua (um h₂ (λok s₃ h₃=>?_) λ_ _ h'=>h'.elim)) λ_ _ h'=>h'.elim)
  cases ok with
  | false=>exact ud ⟨rfl,h₃⟩
  | true=>
   exact ua (ua (um h₃ (λx s₄ h₄=>ua (um h₄ (λ_ s₅ h₅=>ud (ud ⟨rfl,h₅⟩)) λ_ _ h'=>h'.elim)) λ_ _ h'=>h'.elim))
def se (X:Cx)(x:Str)(scope:Scope)(cl:List (Str×Addr))(C:Addr)(s3:Shared)(H3:Hp)(fp:Le):Cx:=
 { X with N:=x::X.N,s₀:=s3,H₀:=H3,env:=compEnvC scope cl C X.env,outer:=X.stack,ex:=fp,fn:=λ_=>false,pn:=[],xe:=λ_ _=>False }
def tZ (X:Cx)(ifs:Lh)(t:TT):Prop:=
 ∀ (pins:Lp) (s:Shared) (σ:St) (H:Hp) (Q:Bool->Hp->Prop),Inv X pins σ H s->t σ H Q ->
  fW X (forIn ifs true λc r=>if r=true then do let ok ← isTrue c X.env (eval c X.env);pure (ForInStep.yield ok) else pure (ForInStep.yield r)) (TP X pins σ Q) X.xe s
def Vx:TT:=λ_ H Q=>Q true H
theorem NX:tZ X [] Vx:=λ_ _ _ H _ I h=>wpAny_tests_nil ⟨H,I,h⟩
def D0 (J:It)(tt:TT)(te:TE)(σ:St)(H1:Hp)(Q:VK):Prop:=∀ D,H1 D=none->∃ W:Nat->Nat->List V->Hp->Prop,(∃ m,W 0 m [] (upd H1 D (.lst [])))/\∀ i m ys H',W i m ys H'->H' D=some (.lst ys) /\
 ((J.stop i H'/\Q (.ref D) H')\/(J.go i H'/\∀ v H2,J.yld i H' v H2->tt (some v::σ) H2 λb H3=>
  if b=true then te (some v::σ) H3 λy H4=>H4 D=some (.lst ys)/\ys.length<sizeLine/\∃ m',m' < m/\W (i+1) m' (ys++[y]) (upd H4 D (.lst (ys++[y]))) else ∃ m',m' < m/\W (i+1) m' ys H3))
def FD (wi:TI)(tt:TT)(te:TE):TE:=λσ H Q=>wi σ H λJ H1=>D0 J tt te σ H1 Q
structure Je (X:Cx)(x:Str)(scope:Scope):Prop where
 xN:x∉X.N
 nd:X.N.Nodup
 kind:scope.kind=.function
 cell:∀ y∈scope.names,y.2≠.cell
 names:∀ y∈scope.names,y.2=.local->scope.names.lookup y.1=some .local
 var:scope.names.lookup x=some .local
 free:∀ y∈scope.names,y.2=.free->X.env.kindOf y.1=some .cell
 out:∀ y∈X.N,scope.names.lookup y≠some .local
 calm:X.calm=true
def lK (xs:Lj)(y:Str):Str:=if y∈xs then Str.ofString "" else y
structure Zx (X:Cx)(xs:Lj)(scope:Scope):Prop where
 nd:(xs++X.N.map (lK xs)).Nodup
 kind:scope.kind=.function
 cell:∀ y∈scope.names,y.2≠.cell
 names:∀ y∈scope.names,y.2=.local->scope.names.lookup y.1=some .local
 var:∀ x∈xs,scope.names.lookup x=some .local
 free:∀ y∈scope.names,y.2=.free->X.env.kindOf y.1=some .cell
 out:∀ y∈X.N.map (lK xs),scope.names.lookup y≠some .local
 blank:∀ y∈X.N,y∈xs->scope.names.lookup (Str.ofString "")=none
 calm:X.calm=true
def ng (X:Cx)(xs:Lj)(scope:Scope)(cl:List (Str×Addr))(C:Addr)(s3:Shared)(H3:Hp)(fp:Le):Cx:=
 { X with N:=xs++X.N.map (lK xs),s₀:=s3,H₀:=H3,env:=compEnvC scope cl C X.env,outer:=X.stack,ex:=fp,fn:=λ_=>false,pn:=[],xe:=λ_ _=>False }
section
variable {X:Cx} {elt iter tg:Expr} {xs:Lj} {pos:Pos} {ifs:Lh} {scope:Scope} {wi:TI} {tt:TT} {te:TE} {g:TG} {bnd:V->Hp->(List V->Prop)->Prop}
theorem RS {pins:Lp}{σ:St}{H:Hp}{s:Shared}{E:fV}{Q:fV}{use:Option (Value->Sem Unit)}{QV:VK}(L:Zx X xs scope)(I:Inv X pins σ H s) (hi:fW X (eval iter X.env) (λv s1=>fW X (pyIter v) (t5 X pins σ (tg) (λJ H1=>∀ D,H1 D=none->∃ W:Nat->Nat->List V->Hp->Prop,(∃ m,W 0 m [] (upd H1 D (.lst [])))/\∀ i m ys H',W i m ys H'->H' D=some (.lst ys) /\ ((J.stop i H'/\QV (.ref D) H')\/(J.go i H'/\∀ v H2,J.yld i H' v H2->bnd v H2 λus=>tt (us.map some++σ) H2 λb H3=> if b=true then te (us.map some++σ) H3 λy H4=>H4 D=some (.lst ys)/\ys.length<sizeLine/\∃ m',m' < m/\W (i+1) m' (ys++[y]) (upd H4 D (.lst (ys++[y]))) else ∃ m',m' < m/\W (i+1) m' ys H3)))) E s1) E s) (ht:∀ cl C s3 H3 fp,tZ (ng X xs scope cl C s3 H3 fp) ifs tt) (he:∀ cl C s3 H3 fp,PE (ng X xs scope cl C s3 H3 fp) elt te) (hg:∀ cl C s3 H3 fp,PG (ng X xs scope cl C s3 H3 fp) tg g) (hb:∀ v H (os:St) (K:List V->Prop),os.length=xs.length->bnd v H K->g v (os++σ) H λσ' H'=>∃ us,us.length=xs.length/\σ' = us.map some++σ/\H' = H/\K us) (hs:∀ x,foldedSetIterable iter X.env x=pure x) (fin:∀ (D C:Addr) (H':Hp) (s':Shared) (m:La),Inv X pins σ H' s'->lT X pins H' C->s'.heap.Ns C m->QV (.ref D) H'->compPost (model X.prog X.w) X.A E use Q (.ref D) C (.ok .next) s') : fW X (comprehension (.ListComp elt [⟨tg,iter,ifs,0⟩] scope pos) scope X.env (firstIterPos [⟨tg,iter,ifs,0⟩] pos) (newList []) false (eval iter X.env) use) Q E s:=by
 obtain⟨cl,hcl,cl1,cl2⟩:=za2 (env:=X.env) (scope:=scope) (λy hy hf=>I.ok.has y.1 (.inl (L.free y hy hf)));refine wpAny_comprehension_free (use:=use) rfl hs hcl L.kind L.names (um hi (λxv s₁ h₁=>um h₁ (λit s2 h₂=>?_) λ_ _ e=>e) λ_ _ e=>e);obtain⟨it,fp,tn,J,H2,rfl,I2,T,st2,f2,hW⟩:=h₂;have fr2:H2 s2.heap.objs.size=none:=I2.hok.fresh (ui _);obtain⟨W,⟨m0,w0⟩,turn⟩:=hW _ fr2;refine Ux ?_
 have I3:Inv X pins σ (upd H2 s2.heap.objs.size (.lst [])) { s2 with heap:=s2.heap.push { cls:=.type "list",dict:=none,data:=.seq ([]:Lg).toArray } }:=
  I2.laid (t':=s2.toks) (o:=.lst []) (λb ob q=>uf _ q) (ui _) ⟨uZ _,[],0,.nil,uA _ rfl⟩
 generalize hD:s2.heap.objs.size=D at I3 turn w0 fr2 ⊢;generalize hH3:upd H2 D (.lst [])=H3 at I3 w0;generalize hs3:({ s2 with heap:=s2.heap.push { cls:=.type "list",dict:=none,data:=.seq ([]:Lg).toArray } }:Shared)=s3 at I3 ⊢;have k23:∀ b o,s2.heap.get? b=some o->s3.heap.get? b=some o:=λb o e=>by rw [← hs3];exact uf _ e
 have os3:s3.os=s2.os:=by rw [← hs3]
 have fpD:∀ b∈fp,b≠D:=λb hb z=>by obtain⟨o,e,_⟩:=T.obj _ _ st2 b hb;exact absurd (ug e) (by rw [z,← hD];exact u0 _)
 have f3:∀ b∈fp,lT X pins H3 b:=λb hb=>⟨by rw [← hH3,zk (fpD b hb)];exact(f2 b hb).1,(f2 b hb).2⟩
 have st3:tn 0 s3.heap:=T.keep _ _ _ st2 λb hb o e=>k23 b o e;refine wpAny_newFunctionEnv L.cell (λy hy=>by simp at hy) (λh₁ hns₁ hsb₁=>?_) L.kind;generalize hC:s3.heap.objs.size=C at hns₁ hsb₁ ⊢;have k34:∀ b o,s3.heap.get? b=some o->h₁.get? b=some o:=λb o e=>hsb₁.extBut b o (by rintro rfl;exact absurd (ug e) (by rw [hC];exact u0 _)) (uf _ e)
 let X':Cx:=ng X xs scope cl C s3 H3 fp;have relab:∀ y,X'.env.scope.names.lookup y=(scope.names.lookup y).map λk=>if (k == NameKind.free&&X.env.scope.kind == .function&&X.env.kindOf y == some .cell) then NameKind.cell else k:=λy=>vS y scope.names
 have visC:∀ y,(X'.env.kindOf y=some .cell\/X'.env.kindOf y=some .free)->scope.names.lookup y=some .free:=λy hy=>by
  have e:=relab y;have hy:X'.env.scope.names.lookup y=some .cell\/X'.env.scope.names.lookup y=some .free:=hy;rw [e] at hy;cases q:scope.names.lookup y with
  | none=>rw [q] at hy;simp at hy
  | some k=>
   rw [q] at hy;simp only [uX,gx] at hy;by_cases hf:k=.free
   ·rw [hf]
   ·have hb:(k == NameKind.free)=false:=by simpa using hf
    simp only [hb,Gi,gn,Gm] at hy;rcases hy with rfl | rfl
    ·exact absurd rfl (L.cell _ (uP q))
    ·exact absurd rfl hf
 have okX':X'.Ok:=by
  refine⟨I3.ok.mod,?_,I3.ok.glob,I3.ok.blt,?_,?_,?_,?_,I3.ok.hd,I3.ok.frames,.inl rfl,?_,?_,?_,?_,?_,?_,?_⟩
  ·show(relabel scope X.env).kind=.function;exact L.kind
  ·show s3.heap.objs.size<=C;exact gU hC
  ·exact λa b c h1 h2=>I3.ok.inj a b c (cl1 a c h1) (cl1 b c h2)
  ·exact λy hy=>cl2 (y,.free) (uP (visC y hy)) rfl
  ·exact λy c hf=>by cases hf
  ·refine λb hb=>⟨?_,λy c e z=>(f3 b hb).2.2.2.2.1 y c (cl1 y c e) z⟩
   show b≠C;intro z;obtain⟨o,e,_⟩:=T.obj _ _ st3 b hb;exact absurd (ug e) (by rw [z,← hC];exact u0 _)
  ·exact λb o e=>I3.bs b o e
  ·exact uI I3.ok.bsz I3.sz
  ·intro b o e hb;rcases(f3 b hb).2.2.2.1 with z | z
   ·exact I3.ok.noex b o e z
   ·exact absurd (uu (ug e) (uI I3.ok.bsz z)) (u0 _)
  ·intro b hb z;rcases uq.mp (I3.stkSub b z) with e | e
   ·exact(f3 b hb).2.1 e
   ·exact(f3 b hb).2.2.1 e
  ·exact I3.stack
  ·exact I3.stkFree
 have hfreeC:H3 C=none:=I3.hok.fresh (gU hC)
 have I4:Inv X' [] (List.replicate xs.length none++σ) H3 { s3 with heap:=h₁,toks:=s3.toks+([]:List (Str×Value)).length }:=by
  refine⟨okX',rfl,I3.bare,Un.kept k34,⟨_,hns₁,?_⟩,?_,hfreeC,?_,λp hp=>absurd (show p∈([]:Lp) from hp) (by simp),I3.hok.kept k34,?_⟩
  ·intro i y v e1 e2 e3;rcases Nat.lt_or_ge i xs.length with hlt | hge
   ·rw [UE (by rw [Ur];exact hlt),gJ,ue hlt] at e2;cases e2
   ·obtain⟨j,rfl⟩:∃ j,i=xs.length+j:=⟨i - xs.length,by lia⟩
    have e1:(X.N.map (lK xs))[j]? = some y:=by have z:(xs++X.N.map (lK xs))[xs.length+j]? = some y:=e1;rwa [UB (by lia),gN] at z
    have e2:σ[j]? = some (some v):=by rwa [UB (by rw [Ur];lia),Ur,gN] at e2
    have hyN:y∈X.N.map (lK xs):=uQ e1
    have hfr:scope.names.lookup y=some .free:=by
     rcases e3 with e3 | e3 | e3
     ·rw [relab y] at e3;cases q:scope.names.lookup y with
      | none=>rw [q] at e3;simp at e3
      | some k=>
       rw [q] at e3;simp only [uX,gx] at e3;by_cases hf:k=.free
       ·rw [hf]
       ·have hb:(k == NameKind.free)=false:=by simpa using hf
        simp only [hb,Gi,gn,Gm] at e3;exact absurd (by rw [q,e3]) (L.out y hyN)
     ·exact visC y (.inl e3)
     ·exact visC y (.inr e3)
    have e1:X.N[j]? = some y:=by
     rw [Uk] at e1;cases q0:X.N[j]? with
     | none=>rw [q0] at e1;cases e1
     | some y0=>
      rw [q0] at e1;have e1:lK xs y0=y:=uH e1;unfold lK at e1;split at e1
      ·rename_i hy0;rw [← e1,L.blank _ (uQ q0) hy0] at hfr;cases hfr
      ·rw [e1]
    have hkc:=L.free (y,.free) (uP hfr) rfl;have hkc:X.env.kindOf y=some .cell:=hkc;obtain⟨mX,_,hlX⟩:=I3.loc;obtain⟨u,r,l⟩:=hlX j y v e1 e2 (.inr (.inl hkc));refine⟨u,r,?_⟩;rcases l with⟨l,_⟩ | ⟨_,c,hc,hcell⟩
    ·rw [hkc] at l;cases l
    ·obtain⟨c',hc'⟩:=cl2 (y,.free) (uP hfr) rfl;have hc':cl.lookup y=some c':=hc';have:=cl1 y c' hc';rw [hc] at this;cases this;refine .inr ⟨?_,c,hc',?_⟩
     ·rcases e3 with e3 | e3 | e3
      ·rw [relab y,hfr] at e3;simp only [uX,gx] at e3;split at e3<;>cases e3
      ·exact .inl e3
      ·exact .inr e3
     ·obtain⟨o,ho,hd⟩:=hcell;exact⟨o,k34 _ _ ho,hd⟩
  ·intro y c e;obtain⟨v,o,ho,hd⟩:=I3.cell y c (cl1 y c e);exact⟨v,o,k34 _ _ ho,hd⟩
  ·exact λy c e=>I3.freeC y c (cl1 y c e)
  ·show(List.replicate xs.length none++σ).length=(xs++X.N.map (lK xs)).length;rw [uc,uc,Ur,uk,I3.len]
 have st4:tn 0 h₁:=T.keep _ _ _ st3 λb hb o e=>k34 b o e;have stat:∀ {H':Hp},(∀ b∈fp,H' b=none)->∀ b∈fp,lT X' [] H' b:=λhn b hb=>by refine⟨hn b hb,(okX'.exf b hb).1,okX'.exfs b hb,.inl hb,(okX'.exf b hb).2,λp hp=>absurd (show p∈([]:Lp) from hp) (by simp)⟩
 have loop:∀ s4:Shared,s4={ s3 with heap:=h₁,toks:=s3.toks+([]:List (Str×Value)).length } ->
   codeAny (model X.prog X.w) X.A (.compLoop (.ListComp elt [⟨tg,iter,ifs,0⟩] scope pos) 0 (.ref it) (.ref D) X'.env) (compPost (model X.prog X.w) X.A E use Q (.ref D) C) s4:=by
  rintro s4 rfl
  refine Kj (λn s'=>∃ i ys os H',os.length=xs.length/\Inv X' [] (os++σ) H' s'/\tn i s'.heap/\(∀ b∈fp,H' b=none)/\W i n ys H') ?_ m0 ⟨0,[],List.replicate xs.length none,H3,Ur,I4,st4,λb hb=>(f3 b hb).1,w0⟩
  rintro n s5 ⟨i,ys,os,H5,hos,I5,st5,fr5,w5⟩
  obtain⟨hD5,turn5⟩:=turn i n ys H5 w5
  rcases turn5 with⟨stop,qn⟩ | ⟨go,step⟩
  ·refine um (T.done X' rfl rfl rfl L.calm i [] s5 (os++σ) H5 (λ_ _=>False) I5 (stat fr5) st5 stop) (λr s6 h6=>?_) λ_ _ z=>z
   obtain⟨rfl,I6⟩:=h6
   have un6:Un (lY X.stack) fp H3 H5 s3.heap s6.heap:=I6.base
   have IX:Inv X pins σ H5 s6:=I3.call' I6.os un6 I6.hok I6.bare λb hb=>⟨(f3 b hb).2.2.2.1,(f3 b hb).2.1,(f3 b hb).2.2.2.2.1,(f3 b hb).2.2.2.2.2⟩
   obtain⟨mC,hnC,_⟩:=I6.loc
   exact fin D C H5 s6 mC IX (I3.fpOk (H':=H5) (gU hC) I6.free) hnC qn
  ·refine um (T.item X' rfl rfl rfl L.calm i [] s5 (os++σ) H5 (λ_ _=>False) I5 (stat fr5) st5 go) (λr s6 h6=>?_) λ_ _ z=>z.elim
   obtain⟨u,rfl,h6⟩:=h6
   refine um h6 (λ_ s6 h6=>?_) λ_ _ z=>z
   obtain⟨v,H6,I6,r6,y6,st6,fr6⟩:=h6
   have I6':=I6.pinned (stat fr6) (T.obj _ _ st6)
   have hv6:=step v H6 y6
   show wpAny (model X'.prog X'.w) X'.A (assign tg X'.env u) _ _ s6
   refine um (Q:=λ_ s7=>∃ us:List V,us.length=xs.length/\Inv X' ([]++JF fp s6.heap) (us.map some++σ) H6 s7/\tt (us.map some++σ) H6 λb H3=>if b=true then te (us.map some++σ) H3 λy H4=>H4 D=some (.lst ys)/\ys.length<sizeLine/\∃ m',m' < n/\W (i+1) m' (ys++[y]) (upd H4 D (.lst (ys++[y]))) else ∃ m',m' < n/\W (i+1) m' ys H3) (E:=λ_ _=>False) (um (hg cl C s3 H3 fp _ s6 _ H6 v u _ I6' r6 (hb v H6 os _ hos hv6)) (λ_ s7 h7=>?_) λ_ _ z=>z) (λ_ s7 h7=>?_) λ_ _ z=>z.elim
   ·obtain⟨σ7,H7,I7,us,hl,rfl,rfl,hk⟩:=h7
    exact⟨us,hl,I7,hk⟩
   obtain⟨us,hus,I7,hv6⟩:=h7
   refine um ((ht cl C s3 H3 fp) _ s7 _ H6 _ I7 hv6) (λb s8 h8=>?_) λ_ _ z=>z.elim
   obtain⟨H8,I8,q8⟩:=h8
   have done:∀ {ys':List V} {H9:Hp} {s9:Shared} {n':Nat},Inv X' ([]++JF fp s6.heap) (us.map some++σ) H9 s9->W (i+1) n' ys' H9->∃ i ys os H',os.length=xs.length/\Inv X' [] (os++σ) H' s9/\tn i s9.heap/\(∀ b∈fp,H' b=none)/\W i n' ys H':=λ{ys' H9 s9 n'} I9 w9=>by
    refine⟨i+1,ys',us.map some,H9,by rw [uk];exact hus,I9.unpinned,T.keep _ _ _ st6 λb hb o e=>(I9.pin (b,o) (uS _ (uS _ (kz hb e)))).1,λb hb=>?_,w9⟩
    obtain⟨o,e,d⟩:=T.obj _ _ st6 b hb
    exact(I9.pin (b,o) (uS _ (uS _ (kz hb e)))).2.1
   cases b with
   | false=>
    have q8:∃ m',m' < n/\W (i+1) m' ys H8:=q8
    obtain⟨m',hm,w8⟩:=q8
    exact⟨m',hm,done I8 w8⟩
   | true=>
    have q8:te (us.map some++σ) H8 _:=q8
    refine um ((he cl C s3 H3 fp) _ s8 _ H8 _ I8 q8) (λyv s9 h9=>?_) λ_ _ z=>z.elim
    obtain⟨y,H9,I9,r9,hD9,hz9,m',hm,w9⟩:=h9
    refine um (j4 (X:=X') _ s9 _ H9 (.ref D) [y] (.ref D) [yv] (λv' H'=>v' = .non/\H' = upd H9 D (.lst (ys++[y]))) I9 rfl (.cons r9 .nil) ⟨D,ys,y,rfl,rfl,hD9,hz9,rfl,rfl⟩) (λ_ s10 h10=>?_) λ_ _ z=>z.elim
    obtain⟨_,H10,I10,_,_,rfl⟩:=h10
    exact⟨m',hm,done I10 w9⟩
 exact codeAny_compStart_list (loop _ rfl) (T.self _ 0 _ _ _ st4 (loop _ rfl))
end
theorem LU {v:V}{H:Hp}{os σ:St}{K:List V->Prop}(hl:os.length=1)(h:K [v]):wO 0 v (os++σ) H λσ' H'=>∃ us:List V,us.length=1/\σ' = us.map some++σ/\H' = H/\K us:=by
 obtain _ | ⟨o,_ | ⟨o',os⟩⟩:=os
 ·cases hl
 ·exact⟨[v],rfl,rfl,rfl,h⟩
 ·cases hl
theorem EE {l:Lj}(h:x∉l):l.map (lK [x])=l:=by refine(gi λy hy=>?_).trans (List.map_id l);unfold lK;rw [ub (λz=>h (by rwa [← uD.mp z]))];rfl
theorem Je.gen {scope:Scope}(L:Je X x scope):Zx X [x] scope:=by have e:=EE L.xN;refine⟨?_,L.kind,L.cell,L.names,λy hy=>by rw [uD.mp hy];exact L.var,L.free,by rw [e];exact L.out,λy hy h=>absurd (by rwa [← uD.mp h]) L.xN,L.calm⟩;rw [e];exact Ul.mpr ⟨L.xN,L.nd⟩
theorem Kk {X:Cx}{scope:Scope}(h:x∉X.N):ng X [x] scope cl C s3 H3 fp=se X x scope cl C s3 H3 fp:=by unfold ng se;rw [EE h];rfl
theorem Kl {scope:Scope}(h:scope.names.lookup x=some .local):(compEnvC scope cl C env).scope.names.lookup x=some .local:=by show(relabel scope env).names.lookup x=_;exact(vS x scope.names).trans (by rw [h];rfl)
theorem LS {scope:Scope}(L:Zx X (x::xs) scope):PG (ng X (x::xs) scope cl C s3 H3 fp) (.Name x px) (wO 0):=by have hv:(compEnvC scope cl C X.env).scope.names.lookup x=some .local:=Kl (L.var x Us);exact EN (X:=ng X (x::xs) scope cl C s3 H3 fp) L.nd rfl (.inl hv) (.inr hv)
section
variable {X:Cx} {elt iter:Expr} {x:Str} {px pos:Pos} {ifs:Lh} {scope:Scope} {wi:TI} {tt:TT} {te:TE}
theorem NW {pins:Lp}{σ:St}{H:Hp}{s:Shared}{E:fV}{Q:fV}{use:Option (Value->Sem Unit)}{QV:VK}(L:Je X x scope)(I:Inv X pins σ H s) (hi:fW X (eval iter X.env) (λv s1=>fW X (pyIter v) (t5 X pins σ (.Name x px) (λJ H1=>∀ D,H1 D=none->∃ W:Nat->Nat->List V->Hp->Prop,(∃ m,W 0 m [] (upd H1 D (.lst [])))/\∀ i m ys H',W i m ys H'->H' D=some (.lst ys) /\ ((J.stop i H'/\QV (.ref D) H')\/(J.go i H'/\∀ v H2,J.yld i H' v H2->tt (some v::σ) H2 λb H3=> if b=true then te (some v::σ) H3 λy H4=>H4 D=some (.lst ys)/\ys.length<sizeLine/\∃ m',m' < m/\W (i+1) m' (ys++[y]) (upd H4 D (.lst (ys++[y]))) else ∃ m',m' < m/\W (i+1) m' ys H3)))) E s1) E s) (ht:∀ cl C s3 H3 fp,tZ (se X x scope cl C s3 H3 fp) ifs tt) (he:∀ cl C s3 H3 fp,PE (se X x scope cl C s3 H3 fp) elt te) (hs:∀ x,foldedSetIterable iter X.env x=pure x) (fin:∀ (D C:Addr) (H':Hp) (s':Shared) (m:La),Inv X pins σ H' s'->lT X pins H' C->s'.heap.Ns C m->QV (.ref D) H'->compPost (model X.prog X.w) X.A E use Q (.ref D) C (.ok .next) s') : fW X (comprehension (.ListComp elt [⟨.Name x px,iter,ifs,0⟩] scope pos) scope X.env (firstIterPos [⟨.Name x px,iter,ifs,0⟩] pos) (newList []) false (eval iter X.env) use) Q E s:=by refine RS (bnd:=λv _ k=>k [v]) (g:=wO 0) L.gen I hi (λcl C s3 H3 fp=>by rw [Kk L.xN];exact ht cl C s3 H3 fp) (λcl C s3 H3 fp=>by rw [Kk L.xN];exact he cl C s3 H3 fp) (λcl C s3 H3 fp=>LS L.gen) (λv H os K hl h=>LU hl h) hs fin
theorem RR {pz spos:Pos}(hN:X.N.Nodup)(hi':X.N[i]? = some z)(hz:Loc X.env.scope z)(L:Je X x scope)(hi:PI X (.Name x px) iter wi)(ht:∀ cl C s3 H3 fp,tZ (se X x scope cl C s3 H3 fp) ifs tt)(he:∀ cl C s3 H3 fp,PE (se X x scope cl C s3 H3 fp) elt te) (hs:∀ x,foldedSetIterable iter X.env x=pure x:=by intro _;rfl) (hsw:swapsWith (.ListComp elt [⟨.Name x px,iter,ifs,0⟩] scope pos) (some (.Name z pz)) spos.line X.env=pure true:=by rfl) (hf:X.fn z=true\/X.env.scope.names.lookup z=some .local:=by first | exact .inl rfl | exact .inr rfl | assumption):PS X (.Assign [.Name z pz] (.ListComp elt [⟨.Name x px,iter,ifs,0⟩] scope pos) spos) (mU (FD wi tt te) (wO i)):=by
 intro pins s σ H D I h;rw [exec_Assign_Name_used _ _ _ _ hsw];refine ua (Ua (ua ?_));show wpAny _ X.A (do let _ ← comprehension (.ListComp elt [⟨.Name x px,iter,ifs,0⟩] scope pos) scope X.env _ (newList []) false (eval iter X.env) (some (assign (.Name z pz) X.env))) _ _ s;refine ua (um (NW (use:=some (assign (.Name z pz) X.env)) (Q:=λ_ s'=>SP X pins D .next s') (QV:=λv H'=>D.nx (σ.set i (some v)) H') L I (hi pins s σ H _ I h) ht he hs λD' C H' s' m IX fC hn q=>?_) (λ_ s' hq=>ud (ud hq)) λ_ _ e=>e);show wpAny _ X.A (assign (.Name z pz) X.env (.ref D')) _ _ s';refine Hg (Vn IX hN hi' hz (show RelV (.ref D') (.ref D') from rfl) (λs2 I2 hch=>?_) hf);obtain⟨a,sb,ha⟩:=hch
 have hCa:C≠a:=by
  rcases ha with e | e
  ·rw [e];exact fC.2.1
  ·intro z';exact fC.2.2.2.2.1 _ _ e z'.symm
 refine⟨m,hn.sameBut sb hCa,λh' hs'=>?_⟩;exact⟨_,H',I2.turned (t':=s2.toks) (λb o hb e=>hs'.extBut b o hb e) fC.1 fC.2.1 fC.2.2.2.1 fC.2.2.2.2.1 fC.2.2.2.2.2,q⟩
end
def S (l:Ld):Str:=⟨l.toArray⟩
theorem DZ (l:Ld):(S l).cps.toList=l:=rfl
theorem Zn (l:Ld):(S l).length=l.length:=by simp [S,Str.length]
theorem V3 (l:Ld):(S l).cps.size=l.length:=by simp [S]
theorem Dt (l:Ld)(i:Nat):(S l).cps[i]? = l[i]?:=by simp [S]
theorem yq:S a=S b↔a=b:=⟨λh=>by have:=congrArg (λx=>x.cps.toList) h;simpa [S] using this,λh=>by rw [h]⟩
theorem HG (a b:Ld):S a++S b=S (a++b):=by show Str.append (S a) (S b)=_;simp [S,Str.append]
theorem Ds:(V.str (S a)=V.str (S b))=(a=b):=by rw [V.str.injEq,yq]
section
variable {X:Cx} {a b e:Expr} {ta tb te:TE} {pos:Pos}
theorem Cj {j pos}(h:x=S l):PE X (.Constant (.str x) j pos) (tC (.str (S l))):=by subst h;exact BE
theorem jA:iY X (binaryOp .Add) (λx y H Q=>∃ i j,x=.str (S i)/\y=.str (S j)/\i.length+j.length<=sizeLine/\Q (.str (S (i++j))) H):=by intro pins s σ H x y v u Q I rx ry h;obtain⟨i,j,rfl,rfl,hz,q⟩:=h;exact zaT pins s σ H _ _ v u Q I rx ry ⟨S i,S j,rfl,rfl,by rw [Zn,Zn];exact hz,by rw [HG];exact q⟩
theorem jN:iY X (binaryOp .Mult) (rI IntMulOk λi j=>.int (i * j)):=tL λ_ _ _ _ _ _ _ hc q=>mul_int q hc
theorem vv:iY X (compareOp .In) (λx y H Q=>∃ c l,x=.str (S [c])/\y=.str (S l)/\Q (.bl (decide (c∈l))) H):=by intro pins s σ H x y v u Q I rx ry h;obtain⟨c,l,rfl,rfl,q⟩:=h;refine Vp pins s σ H _ _ v u Q I rx ry ⟨S [c],S l,rfl,rfl,?_⟩;rw [show S [c]=⟨#[c]⟩ from rfl,StrLaws.found_one];exact q
theorem Vy:iY X (compareOp .NotIn) (λx y H Q=>∃ c l,x=.str (S [c])/\y=.str (S l)/\Q (.bl (!decide (c∈l))) H):=by intro pins s σ H x y v u Q I rx ry h;obtain⟨c,l,rfl,rfl,q⟩:=h;refine VU pins s σ H _ _ v u Q I rx ry ⟨S [c],S l,rfl,rfl,?_⟩;rw [show S [c]=⟨#[c]⟩ from rfl,StrLaws.found_one];exact q
def DY:R2:=λx y H Q=>∃ l i c,x=.str (S l)/\y=.int i/\l.length<=sizeLine/\mh l i=some c/\Q (.str (S [c])) H
theorem pL:og X DY:=by intro value slice pins s σ H x y v u Q I rx ry h hs;obtain⟨l,i,c,rfl,rfl,hz,he,q⟩:=h;exact Nl value slice pins s σ H _ _ v u Q I rx ry ⟨S l,i,c,rfl,rfl,by rw [Zn];exact hz,he,q⟩ hs
theorem Z4:jx X (.builtin "len") (λxs H Q=>∃ l,xs=[.str (S l)]/\l.length<=sizeLine/\Q (.int l.length) H):=by intro pins s σ H xs us Q I r h;obtain⟨l,rfl,hz,q⟩:=h;exact VZ pins s σ H _ us Q I r ⟨S l,rfl,by rw [Zn];exact hz,by rw [Zn];exact q⟩
end
section
variable {X:Cx} {a b e:Expr} {ta tb te:TE} {pos:Pos}
theorem SI {i:Int}(h0:0<=i)(h1:i<1000000):i.natAbs.log2<1920:=by
 have:i.natAbs<2 ^ 20:=by lia
 by_cases hz:i.natAbs=0
 ·rw [hz];decide
 ·have:=(Nat.log2_lt hz).mpr this;lia
def ke (c:Nat):Bool:=48<=c&&c<=57
theorem SH:jx X (.type "int") (λxs H Q=>∃ c d:Nat,xs=[.str (S [c,d])]/\ke c=true/\ke d=true/\Q (.int (((c - 48) * 10+(d - 48):Nat):Int)) H):=by
 intro pins s σ H xs us Q I r h;obtain⟨c,d,rfl,hc,hd,q⟩:=h;obtain⟨u,rfl,t,rfl⟩:=vals1 r;unfold ke at hc hd;simp only [uJ,Uy] at hc hd
 have hn:PySem.intText? (S [c,d])=some (((c - 48) * 10+(d - 48):Nat):Int):=by
  rw [intText_digits (x:=S [c,d]) (λz hz=>?_) (by simp [S]) (by rw [Zn];show 2<=4300;decide)]
  ·rw [DZ];simp [NumText.digitsVal]
  ·rw [DZ] at hz;simp at hz;rcases hz with rfl | rfl
   ·exact hc
   ·exact hd
 exact PySem.W.KIN.call_text hn (by rw [Zn];show 2<=640;decide) ⟨.int _,H,I.tok _,⟨_,rfl⟩,q⟩
end
structure ig (P:Program)(w:World)(K:Lf)(mg:La)(base:Heap)(k:Nat)(x:Str)(ps:Lj)(sp:Sp):Prop where
 ex:∃ (f:Addr) (fd:FuncData),PySem.W.keepIn K (.ref f)=true/\Binds K fd ps []/\(mg x=some (.ref f)/\∃ oc od osl,K.lookup f=some ⟨oc,od,.func fd,osl⟩)/\iO P w K mg base mJ k f fd ps sp
structure Df (K:Lf)(mg:La)(x:Str)(st:Stmt)(ps:Lj):Prop where
 ex:∃ (f:Addr) (fd:FuncData),oQ K x x st f fd/\Binds K fd ps []/\mg x=some (.ref f)
section
variable {P:Program} {w:World} {K:Lf} {mg:La} {base:Heap}
theorem Df.ok {x:Str}{st:Stmt}{ps N:Lj}{k:Nat}{sp:Sp}(D:Df K mg x st ps)(Sc:zj N ps (zf st))(len:∀ vs H Q E,sp vs H Q E->vs.length=ps.length) (hbody:∀ (f:Addr) (cdv:Value) (A:Around) (outer:List Env) (s:Shared) (H:Hp) (vs:List V) (Q:VK) (E:XK),ix k (A.deeper (envOfC x (zf st) s.heap.objs.size f cdv))->sp vs H Q E -> ∃ t,lS (iW mJ P w K mg base N x (zf st) f cdv A outer s H E).nox (zW st) t/\t { nx:=λ_ H'=>Q .non H',rt:=Q } (start N vs) H):ig P w K mg base (k+1) x ps sp:=by obtain⟨f,fd,F,b,m⟩:=D.ex;refine⟨f,fd,F.kp,b,⟨m,?_⟩,F.ok Sc len (λcdv A outer s H vs Q E hr h=>hbody f cdv A outer s H vs Q E hr h)⟩;obtain⟨oc,od,kV,doc,pm,an,cdv,ct,osl,rfl,lk,hcd⟩:=F.ex;exact⟨oc,od,osl,lk⟩
theorem ig.mono (F:ig P w K mg base j x ps sp)(h:j<=k):ig P w K mg base k x ps sp:=by obtain⟨f,fd,kp,b,m,G⟩:=F.ex;exact⟨f,fd,kp,b,m,G.mono h⟩
theorem ig.imp (F:ig P w K mg base k x ps sp)(h:∀ vs H Q E,sp' vs H Q E->sp vs H Q E):ig P w K mg base k x ps sp':=by obtain⟨f,fd,kp,b,m,G⟩:=F.ex;exact⟨f,fd,kp,b,m,G.imp h⟩
end
section
variable {P:Program} {w:World} {K:Lf} {mg:La} {base:Heap}
theorem HF {h:Heap}{x:Str}{st:Stmt}{ps:Lj}{f:Addr}{oc:Value}{od an:Option Addr}{osl:Array (Option Value)}{kV doc pm cdv ct:Value}(X:K.In h)(G:h.Ns mainGlobals mg) (b:∀ (kV doc pm:Value) (an:Option Addr) (cdv ct:Value) (us:Lg),us.length=ps.length->bindArgs (PySem.W.fnOf x x (jb st) (zW st) (zf st) .none kV doc pm an cdv ct) ⟨us,[]⟩=pure (ps.zip us)) (a:PySem.W.nsIn K mainGlobals x=some (some (.ref f))) (l:K.lookup f=some ⟨oc,od,.func (PySem.W.fnOf x x (jb st) (zW st) (zf st) .none kV doc pm an cdv ct),osl⟩) (c:PySem.W.codeIn K cdv x=true) (k:PySem.W.keepIn K (.ref f)=true):Df K mg x st ps:= ⟨f,_,Zw l c k,(Zw l c k).binds b,Uv X G a⟩
theorem LR {st:Stmt}{x:Str}{k:Nat}{fa:Addr}{sp:Sp}(D:Df K mg "law" st [x])(hfa:mg "law" = some (.ref fa)) (hb:∀ (kV doc pm:Value) (an:Option Addr) (cdv ct:Value) (s:Shared) (u:Value),BindsTo s (PySem.W.fnOf "law" "law" (jb st) (zW st) (zf st) .none kV doc pm an cdv ct) ⟨[u],[]⟩ [(x,u)]) (F:∀ base:Heap,ig P w K mg base k "law" [x] sp) : ∃ fd:FuncData,(∀ (s:Shared) (v:Value),BindsTo s fd ⟨[v],[]⟩ [(x,v)])/\∀ base:Heap,K.In base->base.Ns mainGlobals mg->iO P w K mg base mJ k fa fd [x] sp:=by
 obtain⟨f,fd,G,b,m⟩:=D.ex;have e:f=fa:=by rw [hfa] at m;cases m;rfl
 subst e;obtain⟨oc,od,kV,doc,pm,an,cdv,ct,osl,rfl,lk,hcd⟩:=G.ex;refine⟨_,λs v=>hb kV doc pm an cdv ct s v,λbase _ _=>?_⟩;obtain⟨f',fd',_,_,⟨m',oc',od',osl',lk'⟩,ok⟩:=(F base).ex;have e:f' = f:=by rw [hfa] at m';cases m';rfl
 subst e;rw [lk] at lk';cases lk';exact ok
end
section
variable {X:Cx} {k j:Nat} {x:Str} {ps:Lj} {sp:Sp} {p pos:Pos} {e:Expr} {es:Lh} {t:TA}
theorem RQ (F:ig X.prog X.w X.K X.mg X.base k x ps sp)(hr:ix j X.A)(hk:k<=j)(ha:PA X (e::es) t)(hg:Gl X x:=by rfl) (hdb:(x == ("__debug__":Str))=false:=by decide) (he:SE X e es:=by rfl) (hpl:(backTo pos (starEach es X.env)).any (·.1)=false:=by rfl):PE X (.Call (.Name x p) (e::es) [] pos) (yp sp [] E0 t):=by obtain⟨f,fd,kp,b,m,G⟩:=F.ex;exact EI G (hr.mono hk) hg m.1 kp b .nil A9 ha hdb he hpl
theorem SG (F:ig X.prog X.w X.K X.mg X.base k x ps sp)(hr:ix j X.A)(hk:k<=j)(hg:Gl X x:=by rfl) (hdb:(x == ("__debug__":Str))=false:=by decide):PE X (.Call (.Name x p) [] [] pos) (yp sp [] E0 i8):=by obtain⟨f,fd,kp,b,m,G⟩:=F.ex;exact R9 G (hr.mono hk) hg m.1 kp b .nil A9 hdb
theorem HE (h:∃ u,X.mg x=some u/\RelV v u)(hg:Gl X x:=by rfl) (hd:(x == ("__debug__":Str))=false:=by decide):PE X (.Name x pos) (tC v):=by obtain⟨u,m,r⟩:=h;exact EO hg m r hd
theorem LQ (hm:X.mg x=none)(hv:bootBuiltins x=some u)(r:RelV v u)(hg:Gl X x:=by rfl) (hn:x≠"__name__":=by decide) (hd:(x == ("__debug__":Str))=false:=by decide):PE X (.Name x pos) (tC v):=
 O2 hg hm hv r hn hd
theorem lcs {N:Lj}{sc scope:Scope}(e1:X.N=N)(e2:X.env.scope=sc)(c:X.calm=true) (h:x∉N/\N.Nodup/\scope.kind=.function/\(∀ y∈scope.names,y.2≠.cell)/\(∀ y∈scope.names,y.2=.local->scope.names.lookup y.1=some .local)/\scope.names.lookup x=some .local /\ (∀ y∈scope.names,y.2=.free->sc.names.lookup y.1=some .cell)/\(∀ y∈N,scope.names.lookup y≠some .local)):Je X x scope:=by subst e1 e2;obtain⟨h1,h2,h3,h4,h5,h6,h7,h8⟩:=h;exact⟨h1,h2,h3,h4,h5,h6,h7,h8,c⟩
theorem NV:iY X (binaryOp .Add) (λx y H Q=>(∃ i j,x=.int i/\y=.int j/\Q (.int (i+j)) H)\/∃ i j,x=.str (S i)/\y=.str (S j)/\i.length+j.length<=sizeLine/\Q (.str (S (i++j))) H):=qZ.or jA
theorem Km:jx X (.builtin "isinstance") (λxs H Q=>∃ x n t b,xs=[x,.ty n]/\lR X.K H x t/\PySem.W.kitOne X.K t (.type n)=some b/\Q (.bl b) H):=by intro pins s σ H xs us Q I r h;obtain⟨x,n,t,b,rfl,ty,e,q⟩:=h;obtain⟨u,w',rfl,rx,ry⟩:=vals2 r;cases ry;exact SO I rx ty e λtk=>⟨.bl b,H,I.tok _,rfl,q⟩
section
variable {K:Lf} {o:Expr} {to:TE} {name:Str} {apos cpos:Pos} {T id:String} {r:V->List V->Hp->VK->Prop}
theorem LP (hK:X.K=K)(pa:PlainAttrs T)(slot:Slot T name id)(hty:typeOf (.builtin id)=pure (.type "method_descriptor"))(hm:oN X id r)(ho:PE X o to)(ha:PA X (e::es) t) (hbase:attributeBase o name X.env (eval o X.env)=eval o X.env:=by rfl) (hfew:((backTo cpos (starEach (e::es) X.env)).all (λx=>!x.1)&&(backToKw cpos (keywordEach [] X.env)).all (λx=>x.1.isSome) && decide ((e::es).length+([]:List Keyword).length+(if ([]:List Keyword).isEmpty then 0 else 1)<30))=true:=by rfl) (hline:(apos.endLine == cpos.line)=true:=by rfl) (hs:SE X e es:=by rfl) (hplain:(backTo cpos (starEach es X.env)).any (·.1)=false:=by rfl) : PE X (.Call (.Attribute o name apos) (e::es) [] cpos) (Ao K T r to t):=by subst hK;exact HH pa slot hty hm ho ha hbase hfew hline hs hplain
theorem Sl (hK:X.K=K):og X (pF K):=by subst hK;exact Pp
theorem NU (hK:X.K=K):og X (pD K):=by subst hK;exact Nm
def Ed (K:Lf):List V->Hp->VK->Prop:=λxs H Q=>∃ p ys,xs=[.ref p]/\(iA K H p ys\/ir K H p ys)/\Q (.int ys.length) H
theorem xH (hK:X.K=K):jx X (.builtin "len") (Ed K):=by subst hK;exact VY
theorem Sk (hK:X.K=K)(hl:PE X l tl):PI X tg l (Kf K tl):=by subst hK;exact OY hl
end
end
theorem yQ:bootBuiltins "len" = some (.builtin "len"):=by decide +kernel
theorem LO:bootBuiltins "max" = some (.builtin "max"):=by decide +kernel
theorem LN:bootBuiltins "min" = some (.builtin "min"):=by decide +kernel
theorem Ec:bootBuiltins "int" = some (.type "int"):=by decide +kernel
theorem zU:bootBuiltins "isinstance" = some (.builtin "isinstance"):=by decide +kernel
def sg:Ld:=[32,33,34,35,36,38,39,40,41,42,43,44,45,46,47,48,49,50,51,52,53,54,55,56,57,58,59,60,61,62,63,64,65,66,67,68,69,70,71,72,73,74,75,76,77,78,79,80,81,82,83,84,85,86,87,88,89,90,91,92,93,94,95,96,97,98,99,100,101,102,103,104,105,106,107,108,109,110,111,112,113,114,115,116,117,118,119,120,121,122,123,124,125,126]
def fg:Ld:=[48,49,50,51,52,53,54,55,56,57]
theorem BH:sg.length=94:=by decide
theorem V4 (c:Nat):c∈fg↔ke c=true:=by unfold fg ke;simp only [uq,List.mem_nil_iff,GO,uJ,Uy];omega
theorem Xj {α:Type}(xs:List α)(i:Nat):mh xs (i:Int)=xs[i]?:=by
 cases h:xs[i]? with
 | some v=>exact Pq h
 | none=>have h1:xs.length<=i:=UD.mp h;unfold mh pM;rw [ue (by omega),ub (by omega)];rfl
theorem za (h:H a=none):fX H (upd H a o):=λb u e=>by rw [zk (zv e h)];exact e
def Jf (J:It)(g:TG)(tb:TS)(D:Ends)(σ:St)(H1:Hp):Prop:=∃ W:Nat->Nat->St->Hp->Prop,(∃ m,W 0 m σ H1)/\∀ i m σ H,W i m σ H ->
 (J.stop i H/\D.nx σ H)\/(J.go i H/\∃ N:St->Hp->Prop,(∀ σ' H',N σ' H'->∃ m',m' < m/\W (i+1) m' σ' H')/\∀ x H',J.yld i H x H'->g x σ H' λσ2 H2=>tb { D with nx:=N,ct:=N,bk:=D.nx } σ2 H2)
theorem NT (wi:TI)(g:TG)(tb:TS):rF wi g tb=λD σ H=>wi σ H λJ H1=>Jf J g tb D σ H1:=rfl
def Eb (c:TT)(tb:TS)(D:Ends)(σ:St)(H:Hp):Prop:=∃ W:Nat->St->Hp->Prop,(∃ m,W m σ H)/\∀ m σ H,W m σ H ->
 c σ H λb H1=>if b=true then ∃ N:St->Hp->Prop,(∀ σ' H',N σ' H'->∃ m',m' < m/\W m' σ' H')/\tb { D with nx:=N,ct:=N,bk:=D.nx } σ H1 else D.nx σ H1
theorem SD (c:TT)(tb:TS):BD c tb=λD σ H=>Eb c tb D σ H:=rfl
theorem xQ {K:Lf}{a:Addr}{xs:List V}{g:TG}{tb:TS}{D:Ends}{σ:St}{H:Hp}(Pv:Nat->St->Hp->Prop)(h0:Pv 0 σ H)(hl:∀ i σ H,i<=xs.length->Pv i σ H->iA K H a xs)
  (hs:∀ i x σ H,xs[i]? = some x->Pv i σ H->g x σ H λσ2 H2=>tb { D with nx:=Pv (i+1),ct:=Pv (i+1),bk:=D.nx } σ2 H2) (hd:∀ σ H,Pv xs.length σ H->D.nx σ H):Jf (sP K a) g tb D σ H:=Sf Pv h0 hl hs hd
theorem Ko {D:Ends}(Pv:Nat->St->Hp->Prop)(h0:Pv 0 σ H) (hs:∀ i σ H,i<n->Pv i σ H->g (.int (i:Int)) σ H λσ2 H2=>tb { D with nx:=Pv (i+1),ct:=Pv (i+1),bk:=D.nx } σ2 H2) (hd:∀ σ H,Pv n σ H->D.nx σ H):Jf (AB 0 n) g tb D σ H:=by
 refine⟨λi m σ H=>m=n - i/\i<=n/\Pv i σ H,⟨n,by simp,uZ _,h0⟩,?_⟩;rintro i m σ H ⟨rfl,hi,p⟩;by_cases hlt:i<n
 ·refine .inr ⟨hlt,Pv (i+1),λσ' H' p'=>⟨n - (i+1),by lia,rfl,hlt,p'⟩,λx H' y=>?_⟩;obtain⟨rfl,rfl⟩:=y;rw [Int.zero_add];exact hs i σ _ hlt p
 ·have e:i=n:=by lia
  subst e;exact .inl ⟨ui _,hd σ H p⟩
theorem HD {D:Ends}(Pv:Nat->St->Hp->Prop)(m:Nat)(h0:Pv m σ H)
  (hs:∀ m σ H,Pv m σ H->c σ H λb H1=>if b=true then ∃ N:St->Hp->Prop,(∀ σ' H',N σ' H'->∃ m',m' < m/\Pv m' σ' H')/\tb { D with nx:=N,ct:=N,bk:=D.nx } σ H1 else D.nx σ H1):Eb c tb D σ H:=
 ⟨Pv,⟨m,h0⟩,hs⟩
theorem zA {α:Type}(c:α)(l:List α):mh (c::l) 0=some c:=by rw [show(0:Int)=((0:Nat):Int) from rfl,Xj];rfl
theorem jH {α:Type}(c d:α)(l:List α):mh (c::d::l) 1=some d:=by rw [show(1:Int)=((1:Nat):Int) from rfl,Xj];rfl
theorem NS {α:Type}{xs:List α}{i:Int}(h0:0<=i)(h1:i<xs.length):∃ v,mh xs i=some v/\xs[i.toNat]? = some v:=by
 obtain⟨n,rfl⟩:=gO h0;have hn:n<xs.length:=by lia
 refine⟨xs[n],?_,?_⟩
 ·rw [show((n:Nat):Int)=((n:Nat):Int) from rfl];rw [Xj,uy hn]
 ·rw [Int.toNat_natCast,uy hn]
theorem Sj {ns:List Int}{i:Int}(h0:0<=i)(h1:i<ns.length):∃ n,mh (ns.map V.int) i=some (.int n)/\n∈ns:=by
 obtain⟨v,h2,h3⟩:=NS (xs:=ns.map V.int) h0 (by rw [uk];exact h1);rw [Uk] at h3;cases e:ns[i.toNat]? with
 | none=>rw [e] at h3;cases h3
 | some n=>rw [e] at h3;cases h3;exact⟨n,h2,uQ e⟩
theorem kB (h:-(2 ^ 64)<i/\i<2 ^ 64):IntMulOk i j:=p7.ok (.inl h)
theorem Z5 (h:-(2 ^ 64)<j/\j<2 ^ 64):IntMulOk i j:=p7.ok (.inr h)
theorem V5 {a m:Int}(h:0<m):0<=a % m/\a % m<m:=⟨gg _ (by lia),gq _ h⟩
theorem oG {i j:Int}(h:0<=j/\j<=1000000/\i.natAbs<2 ^ 64):Ab i j:=h
def told (l:Ld):Option Nat:=match l with
 | [c,d]=>if ke c=true/\ke d=true then sg[(c - 48) * 10+(d - 48)]? else none
 | _=>none
theorem NR {l:Ld}(h:l.length≠2):told l=none:=by
 match l,h with
 | [],_=>rfl
 | [_],_=>rfl
 | [_,_],h=>exact absurd rfl h
 | _::_::_::_,_=>rfl
def oV:Option Nat->V
 | some c=>.str (S [c])
 | none=>.non
def ws:Ld:=[97,98,99,100,101,102,103,104,105,106,107,108,109,110,111,112,113,114,115,116,117,118,119,120,121,122,48,49,50,51,52,53,54,55,56,57,45]
def mE (p:Prop)(h:Heap)(e T:Addr)(cls:Value)(d:Option Addr)(fl:Value):Prop:= ∃ sl vs oT ts,h.get? e=some ⟨cls,d,.fields vs,sl⟩/\vs[1]? = some (.ref T)/\T≠e/\h.get? T=some oT/\oT.data=.fields ts/\ts[3]? = some fl/\(p->vs[2]? = some .none)
structure Kp (ch fs:Le)(h h':Heap):Prop where
 keep:∀ b o,b∉ch->b∉fs->h.get? b=some o->h'.get? b=some o
 slot:∀ b o,b∉ch->h.get? b=some o->∃ sl,h'.get? b=some { o with slots:=sl }
theorem Kp.trans (a:Kp ch fs h h1)(b:Kp ch' fs h1 h2):Kp (ch++ch') fs h h2 where
 keep:=λx o hx hf q=>b.keep x o (λz=>hx (uS _ z)) hf (a.keep x o (λz=>hx (uY _ z)) hf q)
 slot:=λx o hx q=>by
  obtain⟨sl,q1⟩:=a.slot x o (λz=>hx (uY _ z)) q
  obtain⟨sl',q2⟩:=b.slot x _ (λz=>hx (uS _ z)) q1
  exact⟨sl',q2⟩
theorem Kp.mono (a:Kp ch fs h h1)(h1':∀ b∈ch,b∈ch')(h2':∀ b∈fs,b∈fs'):Kp ch' fs' h h1:= ⟨λb o hx hf q=>a.keep b o (λz=>hx (h1' b z)) (λz=>hf (h2' b z)) q,λb o hx q=>a.slot b o (λz=>hx (h1' b z)) q⟩
section
variable {M:Model} {A:Around} {E:fV} {s:Shared}
theorem Vz {base:Heap}{env:Env}{outer:List Env}{cls head:Value}{vs:Array Value}
  (hfr:A.frames=some (env::outer)) (hl:s.heap.FunFrames base (env::outer)) (hf:env.frame=some L) (he:s.heap.get? e=some ⟨cls,d,.fields vs,sl⟩) (hv:1<vs.size) (hp:p->vs[2]? = some .none)
  (k:∀ h' T,s.heap.objs.size<=T->mE p h' e T cls d (rawInt L)->Kp [e] (lY (env::outer)) s.heap h'->Q () { s with heap:=h' }) :
  wpAny M A (do let a ← frameOf env;let pl ← entryPlaceOf L nx;let b ← EntryCells.newEntry head a .none (rawInt L) .none pl;setField (.ref e) 1 b) Q E s:=by
 have ne:e∉(env::outer).filterMap (·.frame):=λhm=>by
  obtain⟨_,o,ho,hn⟩:=hl.mem hm
  rw [he] at ho
  cases ho
  exact hn vs rfl
 refine ua (wpAny_frameOf_fun hfr hl hf λg hg=>ua (wpAny_entryPlaceOf λpl hpl=>?_))
 have e1:g.get? e=some ⟨cls,d,.fields vs,sl⟩:=(hg.2.1 e ne).trans he
 unfold EntryCells.newEntry newFields
 refine ua (Ux ?_ (hpl.sizeOk5 _ _ _ _ _))
 generalize hT:({ cls:=.type "traceback",dict:=none,data:=.fields ([head,.ref L,.none,rawInt L,.none]++(if pl.isEmpty then List.replicate 6 Value.none else pl)).toArray }:Obj)=tb
 have e2:=uf (h:=g) tb e1
 have tn:g.objs.size≠e:=GJ (ug e1)
 refine UJ e2 rfl hv (k _ g.objs.size ?_ ?_ ?_)
 ·rw [hg.1];exact ui _
 ·refine⟨sl,_,tb,([head,.ref L,.none,rawInt L,.none]++(if pl.isEmpty then List.replicate 6 Value.none else pl)).toArray,uU _ e2 (by rfl),by simp [hv],tn,?_,by rw [← hT],by simp,λz=>by simpa [UN] using hp z⟩
  rw [uB _ _ (Ne.symm tn)]
  exact uA g (by rw [← hT];rfl)
 ·refine⟨λb o hb hfs q=>?_,λb o hb q=>?_⟩
  ·have hbe:b≠e:=λz=>hb (by simp [z])
   rw [uB _ _ (Ne.symm hbe)]
   exact uf _ ((hg.2.1 b hfs).trans q)
  ·have hbe:b≠e:=λz=>hb (by simp [z])
   obtain⟨sl',q'⟩:=hg.2.2 b o q
   refine⟨sl',?_⟩
   rw [uB _ _ (Ne.symm hbe)]
   exact uf _ q'
theorem Qq {base:Heap}{env:Env}{outer:List Env} (hfr:A.frames=some (env::outer)) (hl:s.heap.FunFrames base (env::outer)) (hf:env.frame=some L) (he:s.heap.get? e=some ⟨cls,d,.fields vs,sl⟩) (hv:vs[1]? = some .none) (hp:p->vs[2]? = some .none) (k:∀ h' T,s.heap.objs.size<=T->mE p h' e T cls d (rawInt L)->Kp [e] (lY (env::outer)) s.heap h'->Q () { s with heap:=h' }):wpAny M A (noteFrame (.ref e) env) Q E s:=by unfold noteFrame;simp only [hf];refine ua (uM he rfl hv ?_);rw [ub (by decide)];exact Vz hfr hl hf he (Uc.mp hv).1 hp k
theorem VA {base:Heap}{env:Env}{outer:List Env} (hfr:A.frames=some (env::outer)) (hl:s.heap.FunFrames base (env::outer)) (hf:env.frame=some L) (F:mE p s.heap e T cls d .none) (k:∀ h' T',s.heap.objs.size<=T'->mE p h' e T' cls d (rawInt L)->Kp [T,e] (lY (env::outer)) s.heap h'->Q () { s with heap:=h' }):wpAny M A (noteFrame (.ref e) env) Q E s:=by
 obtain⟨sl,vs,oT,ts,he,hv,tn,hT,hd,h3,hp⟩:=F;unfold noteFrame;simp only [hf];refine ua (uM he rfl hv ?_);rw [ue (show(Value.ref T != Value.none)=true by simp)];refine ua (uM hT hd h3 ?_);rw [ub (show ¬ (Value.none == rawInt L)=true by simp [rawInt])];refine ua (UJ hT hd (Uc.mp h3).1 ?_);have oth:∀ b,b≠T->(s.heap.update T (Obj.mapFields (·.setIfInBounds 3 Value.none))).get? b=s.heap.get? b:=λb hb=>uB _ _ (Ne.symm hb);have nT:∀ b o,s.heap.get? b=some o->(∀ ws,o.data≠.fields ws)->b≠T:=λb o q hn z=>by rw [z,hT] at q;cases q;exact hn ts hd
 have hsz:(s.heap.update T (Obj.mapFields (·.setIfInBounds 3 Value.none))).objs.size=s.heap.objs.size:=(Ha s.heap T _).1;refine Vz (base:=base) hfr (hl.of_keeps λb o q hn=>⟨o,(oth b (nT b o q hn)).trans q,rfl⟩) hf ((oth e (Ne.symm tn)).trans he) (Uc.mp hv).1 hp λh' T' g1 g2 g3=>?_;refine k h' T' (by rw [← hsz];exact g1) g2 ⟨λb o hb hfs q=>?_,λb o hb q=>?_⟩
 ·exact g3.keep b o (λz=>hb (uN _ z)) hfs ((oth b λz=>hb (by simp [z])).trans q)
 ·exact g3.slot b o (λz=>hb (uN _ z)) ((oth b λz=>hb (by simp [z])).trans q)
theorem wF (F:mE p s.heap e T cls d fl)(k:∀ h',mE p h' e T cls d .none->Kp [T] [] s.heap h'->h'.objs.size=s.heap.objs.size->Q () { s with heap:=h' }):wpAny M A (setFlight (.ref e) none) Q E s:=by obtain⟨sl,vs,oT,ts,he,hv,tn,hT,hd,h3,hp⟩:=F;have h3':=(Uc.mp h3).1;unfold setFlight;refine ua (uM he rfl hv ?_);rw [ue (show(Value.ref T != Value.none)=true by simp)];have oth:∀ b,b≠T->(s.heap.update T (Obj.mapFields (·.setIfInBounds 3 Value.none))).get? b=s.heap.get? b:=λb hb=>uB _ _ (Ne.symm hb);refine UJ hT hd h3' (k _ ⟨sl,vs,_,_,(oth e (Ne.symm tn)).trans he,hv,tn,uU _ hT (GZ (UY hd _)),UY hd _,by simp [h3'],hp⟩ ?_ (Ha s.heap T _).1);exact⟨λb o hb _ q=>(oth b λz=>hb (by simp [z])).trans q,λb o hb q=>⟨o.slots,(oth b λz=>hb (by simp [z])).trans q⟩⟩
theorem JM {env:Env}{L e T:Addr}{cls:Value}{d:Option Addr}{p:Prop}{Q:Unit->Shared->Prop}(hf:env.frame=some L)(F:mE p s.heap e T cls d (rawInt L))(k:Q () s):wpAny M A (noteFrame (.ref e) env) Q E s:=by obtain⟨sl,vs,oT,ts,he,hv,tn,hT,hd,h3,hp⟩:=F;unfold noteFrame;simp only [hf];refine ua (uM he rfl hv ?_);rw [ue (show(Value.ref T != Value.none)=true by simp)];refine ua (uM hT hd h3 ?_);rw [ue (show(rawInt L == rawInt L)=true from Uu _)];exact ud k
theorem SA {env:Env}{L e T:Addr}{cls fl:Value}{d:Option Addr}{p:Prop}{Q:Unit->Shared->Prop}(hf:env.frame=some L)(F:mE p s.heap e T cls d fl)(k:∀ h',mE p h' e T cls d (rawInt L)->Kp [T] [] s.heap h'->Q () { s with heap:=h' }):wpAny M A (setFlight (.ref e) env.frame) Q E s:=by obtain⟨sl,vs,oT,ts,he,hv,tn,hT,hd,h3,hp⟩:=F;have h3':=(Uc.mp h3).1;unfold setFlight;rw [hf];refine ua (uM he rfl hv ?_);rw [ue (show(Value.ref T != Value.none)=true by simp)];have oth:∀ b,b≠T->(s.heap.update T (Obj.mapFields (·.setIfInBounds 3 (rawInt L)))).get? b=s.heap.get? b:=λb hb=>uB _ _ (Ne.symm hb);refine UJ hT hd h3' (k _ ⟨sl,vs,_,_,(oth e (Ne.symm tn)).trans he,hv,tn,uU _ hT (GZ (UY hd _)),UY hd _,by simp [h3'],hp⟩ ?_);exact⟨λb o hb _ q=>(oth b λz=>hb (by simp [z])).trans q,λb o hb q=>⟨o.slots,(oth b λz=>hb (by simp [z])).trans q⟩⟩
theorem za4 {env:Env}{L e T:Addr}{cls:Value}{d:Option Addr}{p:Prop}{Q:Unit->Shared->Prop}(hf:env.frame=some L)(F:mE p s.heap e T cls d (rawInt L))(k:∀ h',mE p h' e T cls d .none->Kp [T] [] s.heap h'->Q () { s with heap:=h' }):wpAny M A (leaving env (.ref e)) Q E s:=by unfold leaving;exact ua (JM hf F (wF F λh2 f1 f2 f3=>k h2 f1 f2))
theorem Kq {base:Heap}{env:Env}{outer:List Env} (hfr:A.frames=some (env::outer)) (hl:s.heap.FunFrames base (env::outer)) (hf:env.frame=some L) (he:s.heap.get? e=some ⟨cls,d,.fields vs,sl⟩) (hv:vs[1]? = some .none) (hp:p->vs[2]? = some .none) (k:∀ h' T,s.heap.objs.size<=T->mE p h' e T cls d .none->Kp [e] (lY (env::outer)) s.heap h'->Q () { s with heap:=h' }):wpAny M A (leaving env (.ref e)) Q E s:=by
 unfold leaving;refine ua (Qq hfr hl hf he hv hp λh1 T g1 g2 g3=>wF (s:={ s with heap:=h1 }) g2 λh2 f1 f2 f3=>k h2 T g1 f1 ⟨λb o hb hfs q=>?_,λb o hb q=>?_⟩)
 all_goals
  have hbT:b≠T:=λz=>absurd (ug q) (by rw [z];exact gY.mpr g1)
 ·exact f2.keep b o (by simpa using hbT) (by simp) (g3.keep b o hb hfs q)
 ·obtain⟨sl',q'⟩:=g3.slot b o hb q;obtain⟨sl2,q2⟩:=f2.slot b _ (by simpa using hbT) q';exact⟨sl2,q2⟩
theorem za5 {base:Heap}{env:Env}{outer:List Env} (hfr:A.frames=some (env::outer)) (hl:s.heap.FunFrames base (env::outer)) (hf:env.frame=some L) (F:mE p s.heap e T cls d .none) (k:∀ h' T',s.heap.objs.size<=T'->mE p h' e T' cls d .none->Kp [T,e] (lY (env::outer)) s.heap h'->Q () { s with heap:=h' }):wpAny M A (leaving env (.ref e)) Q E s:=by
 unfold leaving;refine ua (VA hfr hl hf F λh1 T' g1 g2 g3=>wF (s:={ s with heap:=h1 }) g2 λh2 f1 f2 f3=>k h2 T' g1 f1 ⟨λb o hb hfs q=>?_,λb o hb q=>?_⟩)
 all_goals
  have hbT:b≠T':=λz=>absurd (ug q) (by rw [z];exact gY.mpr g1)
 ·exact f2.keep b o (by simpa using hbT) (by simp) (g3.keep b o hb hfs q)
 ·obtain⟨sl',q'⟩:=g3.slot b o hb q;obtain⟨sl2,q2⟩:=f2.slot b _ (by simpa using hbT) q';exact⟨sl2,q2⟩
end
end L2
namespace L2
open PySem PySem.Spec PySem.Calls PyProof.Rows PySem.W
abbrev sV:Lg:=[.type "ValueError",.type "Exception",.type "BaseException",.type "object"]
def sj:Option Value->Bool
 | some (.builtin n)=>n == "ValueError.__new__"
 | _=>false
def tP (K:Frag)(C:Addr):Lg->Bool
 | []=>false
 | v::m=>valR C v&&tailIn K sV m
where valR (C:Addr):Value->Bool
 | .ref B=>B == C
 | _=>false
def tV:Data->Option ClassData
 | .cls c=>some c
 | _=>none
def vw (K:Frag)(C:Addr):Bool:=(K.lookup C).any λo=>o.cls == .type "type"&&(tV o.data).any λc=>!c.hasDel&&nsOkIn K c.ns&&tP K C c.mro&&(o.slots.toList.length == 6&&(o.slots.toList[4]?).any sj)
def Wz (K:Frag)(C:Addr):Option (Option Value):=(clsIn K C).bind λc=>nsIn K c.ns "__init__"
theorem za6 {K:Frag}{h:Heap}(X:K.In h)(e:nsOkIn K N=true)(q:nsIn K N x=some (some v)):h.nsMap N x=some v:=by
 obtain⟨o,es,ep,ho,hd,_,hf⟩:=(Heap.Ns.of_isNs (isNs_of_in X e):h.Ns N (h.nsMap N))
 unfold nsIn at q;split at q
 ·rename_i c d es' n' sl z;have:=X _ _ z;rw [ho] at this;cases this;cases hd;split at q
  ·rename_i en he;rw [← hf];unfold nsFind findBy;rw [← Array.find?_toList,he];cases q;rfl
  ·split at q<;>cases q
 ·cases q
theorem ED {α:Type}{o:Option α}{p:α->Bool}(h:o.any p=true):∃ a,o=some a/\p a=true:=by
 cases o with
 | none=>cases h
 | some a=>exact⟨a,rfl,h⟩
theorem NQ (h:tV d=some c):d=.cls c:=by
 cases d with
 | cls c'=>cases h;rfl
 | _=>exact nomatch (show none=some c from h)
theorem NP (h:sj v=true):v=some (.builtin "ValueError.__new__"):=by
 cases v with
 | none=>cases h
 | some v=>
  cases v with
  | builtin n=>exact congrArg (λn=>some (Value.builtin n)) (Ub.mp h)
  | _=>exact nomatch (show false=true from h)
theorem LM {K:Frag}{C:Addr}{l:Lg}(h:tP K C l=true):∃ m,l=.ref C::m/\tailIn K sV m=true:=by
 cases l with
 | nil=>cases h
 | cons v m=>
  obtain⟨h,ht⟩:=(uJ _ _).mp h;cases v with
  | ref B=>exact⟨m,by rw [show B=C from Ub.mp h],ht⟩
  | _=>exact nomatch (show false=true from h)
theorem six_is {l:List (Option Value)}(h:l.length=6)(h4:(l[4]?).any sj=true):∃ a b c d f,l=[a,b,c,d,some (.builtin "ValueError.__new__"),f]:=by
 obtain _ | ⟨a,_ | ⟨b,_ | ⟨c,_ | ⟨d,_ | ⟨e,_ | ⟨f,_ | ⟨g,l⟩⟩⟩⟩⟩⟩⟩:=l
 ·cases h
 ·cases h
 ·cases h
 ·cases h
 ·cases h
 ·cases h
 ·exact⟨a,b,c,d,f,by rw [NP h4]⟩
 ·cases h
theorem Zo {K:Frag}{h:Heap}{C:Addr}(X:K.In h)(e:vw K C=true):∃ nm q N bs bm hd sn sub ab col dd k0 k1 k2 k3 k5 cd, h.get? C=some (excClassObj nm q C N bs bm hd sn sub ab col dd k0 k1 k2 k3 k5 "ValueError.__new__")/\clsIn K C=some cd/\cd.mro=.ref C::bm/\cd.ns=N/\cd.hasDict=hd/\OwnTail h sV bm/\nsOkIn K N=true:=by unfold vw at e;obtain⟨o,hl,e⟩:=ED e;simp only [uJ,Ub] at e;obtain⟨hc,e⟩:=e;obtain⟨c,hd,e⟩:=ED e;simp only [uJ,Ub,Bool.not_eq_true'] at e;obtain⟨⟨⟨hdel,hok⟩,hm⟩,h6,h4⟩:=e;have hd:o.data=.cls c:=NQ hd;obtain⟨oc,od,oda,⟨osl⟩⟩:=o;subst hc hd;obtain⟨k0,k1,k2,k3,k5,rfl⟩:=six_is h6 h4;obtain⟨nm,bs,mro,ns,qn,hdc,sn,sub,ab,col,del⟩:=c;obtain⟨m,hm,ht⟩:=LM hm;dsimp only at hm hdel hok;subst hm hdel;exact⟨nm,qn,ns,bs,m,hdc,sn,sub,ab,col,od,k0,k1,k2,k3,k5,⟨nm,bs,.ref C::m,ns,qn,hdc,sn,sub,ab,col,false⟩,X _ _ hl,by unfold clsIn;rw [hl],rfl,rfl,rfl,tail_of_in X ht,hok⟩
section
variable {prog:Program} {w:World} {A:Around} {E:fV} {K:Frag} {C:Addr}
theorem NO {h:Heap}{g:Array GenState}{d:Drawn}{t:Nat}{os:OsState}{rest:Lg}{fI:Addr}{oI:Obj}{Q:Fin->Shared->Prop}(X:K.In h)(e:vw K C=true)(hi:Wz K C=some (some (.ref fI)))(hf:K.lookup fI=some oI) (hfc:oI.cls=.type "function") (hr:rest.length<=sizeLine) (hq:∀ h' x,h.objs.size<=x->Heap.MadeExcOf h h' x (.ref C) rest->wpAny (model prog w) A (call (.ref fI) (.ref x::rest)) (λr s'=>r=.none/\Q (.done (.ret (.ref x))) s') E ⟨h',g,d,t,os⟩) : wpAny (model prog w) A (Builtin.«type.__call__» ⟨.ref C::rest,[]⟩) Q E ⟨h,g,d,t,os⟩:=by
 obtain⟨nm,q,N,bs,bm,hd,sn,sub,ab,col,dd,k0,k1,k2,k3,k5,cd,hC,hcd,hmro,hns,_,T,hok⟩:=Zo X e;have F:=hV;have hi':nsIn K N "__init__" = some (some (.ref fI)):=by unfold Wz at hi;rw [hcd] at hi;rw [← hns];exact hi
 have hn:h.Ns N (h.nsMap N):=Heap.Ns.of_isNs (isNs_of_in X hok);have hm:=za6 X hok hi';have hfI:=X _ _ hf;generalize h.nsMap N=mN at hn hm
 repeat (first | (with_reducible refine uK hC ?_) | (with_reducible refine wpAny_madeBy_exc hC ?_) | wp_step)
 refine codeAny_call_builtin_code (Code.quiet_builtin _ F.quiet) (wpAny_check_new_subT F T hC (codeAny_exc_new_subT F T hC ?_ hr));show wpAny (model prog w) _ _ _ _ _;have up:∀ b o,h.get? b=some o->((h.push ({ cls:=.type "tuple",data:=.seq rest.toArray }:Obj)).push ({ cls:=.ref C,data:=.fields #[.ref h.objs.size,.none,.none,.none,.bool false,.none] }:Obj)).get? b=some o:=λb o z=>uf ({ cls:=.ref C,data:=.fields #[.ref h.objs.size,.none,.none,.none,.bool false,.none] }:Obj) (uf ({ cls:=.type "tuple",data:=.seq rest.toArray }:Obj) z);have hC1:=up _ _ hC;have hfI1:=up _ _ hfI;have hn1:((h.push ({ cls:=.type "tuple",data:=.seq rest.toArray }:Obj)).push ({ cls:=.ref C,data:=.fields #[.ref h.objs.size,.none,.none,.none,.bool false,.none] }:Obj)).Ns N mN:=hn.keeps up;have T1:=T.keeps up;have hget:((h.push ({ cls:=.type "tuple",data:=.seq rest.toArray }:Obj)).push ({ cls:=.ref C,data:=.fields #[.ref h.objs.size,.none,.none,.none,.bool false,.none] }:Obj)).get? (h.objs.size+1)=some ({ cls:=.ref C,data:=.fields #[.ref h.objs.size,.none,.none,.none,.bool false,.none] }:Obj):=by have:=uA (h.push ({ cls:=.type "tuple",data:=.seq rest.toArray }:Obj)) (o:=({ cls:=.ref C,data:=.fields #[.ref h.objs.size,.none,.none,.none,.bool false,.none] }:Obj)) rfl;rwa [Gk] at this
 have hcC:(Value.ref C::bm).contains (.ref C)=true:=by simp
 unfold isInstance
 repeat (first | (with_reducible refine uK hget ?_) | (with_reducible refine UX hC1 ?_;rw [hcC]) | wp_step)
 show wpAny (model prog w) _ (typeLookup (.ref C) _) _ _ _;refine wpAny_typeLookup_tail hC1 hn1 T1 F.mroIs F.init.lookup ?_;rw [hm];refine u4 (ua ?_);unfold bindSpecial;refine ua (gm (T:="function") ⟨_,hfI1,hfc⟩ ?_);rw [ue (by decide)];refine ud (ua (um (hq _ (h.objs.size+1) (UA _) ⟨up,gk (UA _),h.objs.size,hget,gk (ui _),?_⟩) (λr s' z=>?_) λ_ _ z=>z))
 ·exact uf _ (uA h rfl)
 ·obtain⟨rfl,z⟩:=z
  wp_walk;exact z
theorem Kr {s:Shared}{rest:Lg}{oI:Obj}(X:K.In s.heap)(e:vw K C=true)(hi:Wz K C=some (some (.ref fI)))(hf:K.lookup fI=some oI)(hfc:oI.cls=.type "function")(hr:rest.length<=sizeLine) (hq:∀ h' x,s.heap.objs.size<=x->Heap.MadeExcOf s.heap h' x (.ref C) rest->wpAny (model prog w) (A.under (.builtin "type.__call__" ⟨.ref C::rest,[]⟩)) (call (.ref fI) (.ref x::rest)) (λr s'=>r=.none/\Q (.ref x) s') E { s with heap:=h' }) : wpAny (model prog w) A (call (.ref C) rest) Q E s:=by
 obtain⟨h,g,d,t,os⟩:=s;obtain⟨nm,q,N,bs,bm,hd,sn,sub,ab,col,dd,k0,k1,k2,k3,k5,cd,hC,_⟩:=Zo X e;have f1:=tc_lookup;have f2:=tc_bind (.ref C);have hT:(⟨h,g,d,t,os⟩:Shared).TypeIs (.ref C) "type":=⟨_,hC,rfl⟩
 refine Uh (codeAny_of_tree ?_);show wpAny (model prog w) _ (callAny (.ref C) _) _ _ _
 repeat (any_goals (first | assumption | (with_reducible refine uK hC ?_) | wp_step))
 exact⟨rfl,codeAny_call_builtin_at (Code.quiet_builtin _ (by decide +kernel)) entry_typeCall (wpAny_check_type_call_sub hC (NO X e hi hf hfc hr λh' x y z=>hq h' x y z))⟩
end
end L2
namespace L2
open PySem PySem.Spec PySem.Calls PyProof.Rows PySem.W Builtin Builtin.ObjectAttr
section
variable {prog:Program} {w:World} {A:Around} {E:fV} {K:Frag} {C x:Addr} {s:Shared}
theorem Si {rest:Lg}{vs:Array Value}(X:K.In s.heap)(e:vw K C=true)(hx:s.heap.get? x=some ⟨.ref C,dd,.fields vs,sl⟩)(h0:vs[0]? = some (.ref t0))(hr:rest.length<=sizeLine) (hq:∀ h',(∀ b o,b≠x->s.heap.get? b=some o->h'.get? b=some o)->h'.get? x=some ⟨.ref C,dd,.fields (vs.setIfInBounds 0 (.ref s.heap.objs.size)),sl⟩->Q .none { s with heap:=h' }) : wpAny (model prog w) A (call (.builtin "ValueError.__init__") (.ref x::rest)) Q E s:=by
 obtain⟨h,g,d,t,os⟩:=s;obtain⟨nm,q,N,bs,bm,hd,sn,sub,ab,col,dd',k0,k1,k2,k3,k5,cd,hC,hcd,hmro,hns,_,T,hok⟩:=Zo X e;have F:=hV;refine Uh (gr F.init.plain F.initEntry (wpAny_check_init_subT F T hC hx rfl ?_));have hx1:(h.push ({ cls:=.type "tuple",data:=.seq rest.toArray }:Obj)).get? x=some ⟨.ref C,dd,.fields vs,sl⟩:=uf _ hx;have hz:0<vs.size:=(Uc.mp h0).1
 repeat (first | (with_reducible refine uM hx1 rfl h0 ?_) | (with_reducible refine UJ hx1 rfl hz ?_) | wp_step)
 refine hq _ (λb o hb z=>?_) ?_
 ·exact(uB _ _ (Ne.symm hb)).trans (uf _ z)
 ·exact uU _ hx1 rfl
theorem NN {self:Value}(T:OwnTail h sV l):refuseLoop self "__setattr__" l=pure ():=by
 induction T with
 | base=>exact PySem.F.store_ValueError.passes self
 | own _ _ _ _ ih=>rw [refuseLoop_ref];exact ih
theorem EC {name:Str}(X:K.In s.heap)(I:InstAt s.heap x ox C od)(e:vw K C=true)(ha:findIn K (.ref C) name=some none)
  (h:∀ b,wpAny (model prog w) A.in1 (storeInOwnDict (.ref x) (.ref C) (.str name tk) name v b)
   (λfin s'=>match fin with | .done f=>R (.ok f) s' | .again c'=>c'.quiet=true/\codeAny (model prog w) A c' R s') (λe s'=>R (.error e) s') s) :
  codeAny (model prog w) A (.call (.builtin "object.__setattr__") ⟨[.ref x,.str name tk,v],[]⟩) R s:=by
 have SF:=PySem.F.store_object
 obtain⟨nm,q,N,bs,bm,hd,sn,sub,ab,col,dd',k0,k1,k2,k3,k5,cd,hC,hcd,hmro,hns,_,T,hok⟩:=Zo X e
 have hobj:cd.mro.contains (.type "object")=true:=by rw [hmro,U2,T.hasType (X:="object") (b:=true) (by decide +kernel),gZ]
 have sub:Looks (model prog w) s.heap (isInstance (.ref x) (.type "object")) true:=I.type.andThen (Gw X (by unfold mroIn;rw [hcd,UT,ub (by rw [hmro];simp),hobj]))
 refine gr SF.slot.plain SF.entry (@check_slot (model prog w) _ _ s "object.__setattr__" "object" "__setattr__" (.ref x) [.str name tk,v] [] _ SF.kind SF.split sub (SF.args (.ref x) (.str name tk) v) ?_)
 have hm:Looks (model prog w) s.heap (mroOf (.ref C)) cd.mro:=(looks_clsIn X hcd).andThen .now
 rw [osa_eq,refuse_eq]
 refine ua (ua (I.type.here (ua (hm.here ?_))))
 rw [hmro,refuseLoop_ref,NN T]
 exact ud (ua (I.type.here (ua ((Gj X ha).here (ua (ud (h _)))))))
theorem Ks {ns:Lj}{name:Str}(hns:s.heap.Ns1 d mA)(hw:Within mA ns)(hz:ns.length<sizeLine) (hq:∀ h' tk',h'.Ns1 d (λy=>if y=name then some v else mA y)->Heap.SameBut d s.heap h'->Q (.done (.ret .none)) { s with heap:=h',toks:=tk' }):wpAny M A (storeInDict d (.str name tk) name v) Q E s:=by obtain⟨h,g,dr,t,os⟩:=s;unfold storeInDict newKeyGuard;refine ua (ud (ua (wpAny_nsSet1 hns λh' hn' hs=>?_)));obtain⟨oD,es,ep,ho,hd,hc⟩:=hn'.count (Within.cons name v hw);refine ua (wpAny_lookBehind ho (by rw [hd];exact pastItsLine_dict (uI hc (by rw [uo];lia))) ?_);exact ud (hq h' _ hn' hs)
theorem NM (X:K.In s.heap)(hx:s.heap.get? x=some ⟨.ref C,none,.fields vs,sl⟩)(e:vw K C=true)(hh:hasDictIn K C=true) (hq:Q (some s.heap.objs.size) { s with heap:=(s.heap.push ({ cls:=.type "dict",data:=.dict #[] }:Obj)).update x λo=>{ cls:=o.cls,dict:=some s.heap.objs.size,data:=o.data,slots:=o.slots } }):wpAny M A (ownDictForStores (.ref x)) Q E s:=by
 obtain⟨h,g,dr,t,os⟩:=s;obtain⟨nm,q,N,bs,bm,hd,sn,sub,ab,col,dd',k0,k1,k2,k3,k5,cd,hC,hcd,hmro,hns,hdd,T,hok⟩:=Zo X e;have hT:hd=true:=by obtain⟨cd',hc',hd'⟩:=gI hh;rw [hcd] at hc';cases hc';rw [← hdd];exact hd'
 subst hT;have hx1:(h.push ({ cls:=.type "dict",data:=.dict #[] }:Obj)).get? x=some ⟨.ref C,none,.fields vs,sl⟩:=uf _ hx
 repeat (first | (with_reducible refine uK hx ?_) | (with_reducible refine uK hC ?_) | (with_reducible refine wpAny_update' hx1 ?_) | wp_step)
 exact hq
theorem NL (X:K.In s.heap)(hx:s.heap.get? x=some ⟨.ref C,some d,.fields vs,sl⟩)(e:vw K C=true)(hh:hasDictIn K C=true) (hq:Q (some d) s):wpAny M A (ownDictForStores (.ref x)) Q E s:=by
 obtain⟨h,g,dr,t,os⟩:=s;obtain⟨nm,q,N,bs,bm,hd,sn,sub,ab,col,dd',k0,k1,k2,k3,k5,cd,hC,hcd,hmro,hns,hdd,T,hok⟩:=Zo X e;have hT:hd=true:=by obtain⟨cd',hc',hd'⟩:=gI hh;rw [hcd] at hc';cases hc';rw [← hdd];exact hd'
 subst hT
 repeat (first | (with_reducible refine uK hx ?_) | (with_reducible refine uK hC ?_) | wp_step)
 exact hq
theorem Sh {name:Str}(X:K.In s.heap)(hx:s.heap.get? x=some ⟨.ref C,none,.fields vs,sl⟩)(e:vw K C=true)(hh:hasDictIn K C=true) (hsa:findIn K (.ref C) "__setattr__" = some (some (.builtin "object.__setattr__"))) (ha:findIn K (.ref C) name=some none) (hq:∀ h' d tk,s.heap.objs.size<=d->h'.get? x=some ⟨.ref C,some d,.fields vs,sl⟩->h'.Ns1 d (λy=>if y=name then some v else none)->(∀ b o,b≠x->s.heap.get? b=some o->h'.get? b=some o)->Q () { s with heap:=h',toks:=tk }) : wpAny (model prog w) A (setAttr (.ref x) name v) Q E s:=by
 have I:InstAt s.heap x ⟨.ref C,none,.fields vs,sl⟩ C none:=⟨hx,rfl,rfl,trivial⟩
 refine GK X I hsa (EC (s:={ s with toks:=s.toks+1 }) X I e ha λb=>?_);have hxs:x≠s.heap.objs.size:=Ug (ug hx);have hx1:(s.heap.push ({ cls:=.type "dict",data:=.dict #[] }:Obj)).get? x=some ⟨.ref C,none,.fields vs,sl⟩:=uf _ hx;unfold storeInOwnDict;refine ua (ud ?_);rw [ub (show ¬ (Value.ref C == Value.type "module")=true from λz=>by cases Ub.mp z)];refine ua (NM (s:={ s with toks:=s.toks+1 }) X hx e hh ?_)
 have hgd:((s.heap.push ({ cls:=.type "dict",data:=.dict #[] }:Obj)).update x λo=>{ cls:=o.cls,dict:=some s.heap.objs.size,data:=o.data,slots:=o.slots }).get? s.heap.objs.size=some ({ cls:=.type "dict",data:=.dict #[] }:Obj):=
  (Hb _ _ _ _ hxs.symm).trans (uA _ rfl)
 have hnd:Heap.Ns ((s.heap.push ({ cls:=.type "dict",data:=.dict #[] }:Obj)).update x λo=>{ cls:=o.cls,dict:=some s.heap.objs.size,data:=o.data,slots:=o.slots }) s.heap.objs.size (λ_=>none):=
  ⟨_,#[],_,hgd,rfl,λe he=>absurd he (by simp),λ_=>rfl⟩
 refine Ks (ns:=[]) (Hh hnd) Within.nil (by rw [uR];decide) λh' tk' hn hs=>?_;refine hq h' s.heap.objs.size _ (ui _) ((hs.2 x hxs).trans (uU _ hx1 rfl)) hn λb o hb z=>?_;exact(hs.2 b (Ug (ug z))).trans ((Hb _ _ _ _ hb).trans (uf _ z))
theorem Sg {name:Str}{ns:Lj}(X:K.In s.heap)(hx:s.heap.get? x=some ⟨.ref C,some d,.fields vs,sl⟩)(e:vw K C=true)(hh:hasDictIn K C=true) (hsa:findIn K (.ref C) "__setattr__" = some (some (.builtin "object.__setattr__"))) (ha:findIn K (.ref C) name=some none) (hd:s.heap.Ns1 d mA) (hw:Within mA ns) (hz:ns.length<sizeLine) (hq:∀ h' tk,h'.Ns1 d (λy=>if y=name then some v else mA y)->(∀ b o,b≠d->s.heap.get? b=some o->h'.get? b=some o)->Q () { s with heap:=h',toks:=tk }) : wpAny (model prog w) A (setAttr (.ref x) name v) Q E s:=by
 obtain⟨od,es,ep,hod,hrest⟩:=id hd;have I:InstAt s.heap x ⟨.ref C,some d,.fields vs,sl⟩ C (some od):=⟨hx,rfl,rfl,hod⟩
 refine GK X I hsa (EC (s:={ s with toks:=s.toks+1 }) X I e ha λb=>?_);unfold storeInOwnDict;refine ua (ud ?_);rw [ub (show ¬ (Value.ref C == Value.type "module")=true from λz=>by cases Ub.mp z)];refine ua (NL (s:={ s with toks:=s.toks+1 }) X hx e hh ?_);exact Ks (s:={ s with toks:=s.toks+1 }) hd hw hz λh' tk' hn hs=>hq h' _ hn λb o hb z=>(hs.2 b hb).trans z
end
structure lC (K:Frag)(C:Addr):Prop where
 sh:vw K C=true
 hd:hasDictIn K C=true
 ga:findIn K (.ref C) "__getattribute__" = some (some (.builtin "BaseException.__getattribute__"))
 gt:findIn K (.ref C) "__getattr__" = some none
 sa:findIn K (.ref C) "__setattr__" = some (some (.builtin "object.__setattr__"))
 ca:findIn K (.ref C) "__class__" = some (some (.builtin "object.__class__"))
 cg:specialIn K (.builtin "object.__class__") "__get__" = some (some (.builtin "getset_descriptor.__get__"))
 ct:takesIn K (.builtin "object.__class__")=some true
def Dq (K:Frag)(C:Addr):Bool:=vw K C&&hasDictIn K C&&findIn K (.ref C) "__getattribute__" == some (some (.builtin "BaseException.__getattribute__"))&&findIn K (.ref C) "__getattr__" == some none && findIn K (.ref C) "__setattr__" == some (some (.builtin "object.__setattr__"))&&findIn K (.ref C) "__class__" == some (some (.builtin "object.__class__"))&&specialIn K (.builtin "object.__class__") "__get__" == some (some (.builtin "getset_descriptor.__get__"))&&takesIn K (.builtin "object.__class__") == some true
theorem LL {K:Frag}{C:Addr}(e:Dq K C=true):lC K C:=by simp only [Dq,uJ,Ub] at e;obtain⟨⟨⟨⟨⟨⟨⟨a,b⟩,c⟩,d⟩,e⟩,f⟩,g⟩,h⟩:=e;exact⟨a,b,c,d,e,f,g,h⟩
theorem lC.mro {K:Frag}(c:lC K C)(X:K.In h)(T:String)(ht:sV.contains (.type T)=true):mroIn K C (.type T)=some true:=by obtain⟨nm,q,N,bs,bm,hd,sn,sub,ab,col,dd',k0,k1,k2,k3,k5,cd,hC,hcd,hmro,hns,hdd,OT,hok⟩:=Zo X c.sh;unfold mroIn;rw [hcd,UT,ub (by rw [hmro];simp),hmro,U2,OT.hasType (X:=T) ht,gZ]
section
variable {prog:Program} {w:World} {A:Around} {E:fV} {K:Frag} {C x:Addr} {s:Shared} {ox:Obj} {od:Option Obj} {name:Str} {tk:Tok} {fill expr:Bool}
theorem Ea (X:K.In s.heap)(I:InstAt s.heap x ox C od)(c:lC K C)
  (h:wpAny (model prog w) A.in1 (Builtin.«object.__getattribute__» ⟨[.ref x,.str name tk],[]⟩) (λfin s'=>match fin with | .done (.ret v)=>wpAny (model prog w) A (handedOut v) Q E s' | _=>False) (λ_ _=>False) s) :
  wpAny (model prog w) A (getAttrBy (.ref x) (.str name tk) fill expr) Q E s:=by
 have L0:=I.type (M:=model prog w)
 unfold getAttrBy
 refine u4 (ua (L0.here (ua ((Gj X c.ga).here ?_))))
 dsimp only
 have ne:(Value.builtin "BaseException.__getattribute__" == Value.builtin "object.__getattribute__")=false:=by decide +kernel
 rw [ne,U5,ub (by decide)]
 unfold getAttrByItsOwn
 refine ua ((looks_hook (mc:=.ref C) X (r:=none) (by rw [ue (show onTheHeap (.ref C)=true from rfl)];exact c.gt)).here (ua (wpAny_attempt (u4 ?_))))
 unfold callGetattribute
 rw [show(expr&&onTheHeap (Value.builtin "BaseException.__getattribute__"))=false from U5 _,ub (by decide)]
 unfold boundAndCalled
 rw [Hk.ga.bind]
 refine ua (ud ?_)
 show wpAny _ _ (call (.builtin "BaseException.__getattribute__") [.ref x,.str name tk]) _ _ _
 refine Uh (gr Hk.ga.plain PySem.F.entry_bexc_ga ?_)
 refine @check_slot (model prog w) _ _ s "BaseException.__getattribute__" "BaseException" "__getattribute__" (.ref x) [.str name tk] [] _ (by decide +kernel) (by decide +kernel) (L0.andThen (Gw X (c.mro X "BaseException" (by decide +kernel)))) (PySem.F.args_bexc_ga _ _) ?_
 refine um h (λfin s' z=>?_) λ_ _ z=>z.elim
 rcases fin with(_ | _ | _ | _) | _<;>first | exact z | exact z.elim
theorem NK (X:K.In s.heap)(I:InstAt s.heap x ox C od)(c:lC K C)(hf:findObj K C od name=some (.value v))(hh:handedIn v=true)(h:Q v { s with toks:=s.toks+1 }) : wpAny (model prog w) A (getAttr (.ref x) name expr) Q E s:=by refine ua (wpAny_mkText (Ea (s:={ s with toks:=s.toks+1 }) X I c ?_));have L0:=I.type (M:=model prog w);have L1:=looks_find (M:=model prog w) X I hf;unfold Builtin.«object.__getattribute__»;refine ua (ud (ua (ud (ua (L0.here (s:={ s with toks:=s.toks+1 }) (ua (L1.here (s:={ s with toks:=s.toks+1 }) ?_)))))));refine ud ?_;show wpAny _ _ (handedOut v) _ _ _;rw [handedOut_of hh];exact ud h
theorem Sz (X:K.In s.heap)(I:InstAt s.heap x ox C od)(c:lC K C)(h:Q (some (.ref C)) { s with toks:=s.toks+1 }):wpAny (model prog w) A (getAttr? (.ref x) "__class__") Q E s:=by
 have hf:findObj K C od "__class__" = some (.bind (.builtin "getset_descriptor.__get__") (.builtin "object.__class__")):=by obtain⟨cd,hc,_⟩:=gI c.hd;simp only [findObj,hc,c.ca,c.cg,c.ct,UT]
 refine ua (wpAny_mkText ?_);unfold getAttrBy?;refine ua (wpAny_attempt (Ea (s:={ s with toks:=s.toks+1 }) X I c ?_));have L0:=I.type (M:=model prog w);have L1:=looks_find (M:=model prog w) X I hf;unfold Builtin.«object.__getattribute__»;refine ua (ud (ua (ud (ua (L0.here (s:={ s with toks:=s.toks+1 }) (ua (L1.here (s:={ s with toks:=s.toks+1 }) ?_)))))));show wpAny _ _ (holding [.builtin "object.__class__"] (call (.builtin "getset_descriptor.__get__") [.builtin "object.__class__",.ref x,.ref C]) >>= ret) _ _ _;refine ua (u4 (Uh (class_get (s:={ s with toks:=s.toks+1 }) (ox:=ox) (od:=od) X I (c.mro X "object" (by decide +kernel)) ?_)));exact ud (handed_on rfl (ud h))
theorem E7 (c:lC K C):KitX K (.ref x) (.ref C) (λh=>InstAt h x ox C od) where
 ty:=λ_ _ _ I=>I.type
 it:=λ_ h X _=>by
  obtain⟨nm,q,N,bs,bm,hd,sn,sub,ab,col,dd',k0,k1,k2,k3,k5,cd,hC,_⟩:=Zo X c.sh
  intro A' Q' E' s' k z
  unfold isType loadHead
  exact ua (wpAny_loadPart (k _ _ hC) (ud z))
 ne:=λh tp dd ij n sl X htp=>by
  obtain⟨nm,q,N,bs,bm,hd,sn,sub,ab,col,dd',k0,k1,k2,k3,k5,cd,hC,_⟩:=Zo X c.sh
  refine GP.mpr λz=>?_
  have e:C=tp:=Uj (Ub.mp z)
  subst e
  have y:=uH (hC.symm.trans htp)
  injection y with y1
  injection y1 with y1
  exact absurd y1 (by decide)
 ca:=λX I k=>Sz X I c k
theorem Sy (X:K.In s.heap)(hx:s.heap.get? x=some ox)(hxc:ox.cls=.ref C)(c:lC K C)(d:lC K D)(hb:mroIn K C (.ref D)=some b)(h:Q b s):wpAny (model prog w) A (excMatches (.ref x) (.ref D)) Q E s:=by
 obtain⟨nm,q,N,bs,bm,hd,sn,sub,ab,col,dd',k0,k1,k2,k3,k5,cd,hD,hcd,hmro,hns,hdd,OT,hok⟩:=Zo X d.sh;obtain⟨hp,g,dr,t,os⟩:=s;have f:=tc_notTuple;have L1:=Gw (M:=model prog w) X hb;have hcB:(Value.ref D::bm).contains (.type "BaseException")=true:=by rw [U2,OT.hasType (X:="BaseException") (b:=true) (by decide +kernel),gZ]
 have hT:(⟨hp,g,dr,t,os⟩:Shared).TypeIs (.ref D) "type":=⟨_,hD,rfl⟩
 unfold excMatches
 repeat (first | assumption | (with_reducible refine uK hx ?_;rw [hxc]) | (with_reducible refine uK hD ?_) | (with_reducible refine L1.at ?_) | (with_reducible refine UX hD ?_;rw [hcB]) | wp_step)
 cases b<;>(wp_walk;exact h)
theorem VB (hh:A.handled=none) (h:wpAny (model prog w) A y (λv s₁=>∃ x dd vs sl,v=.ref x/\K.In s₁.heap/\lC K C/\s₁.heap.get? x=some ⟨.ref C,dd,.fields vs,sl⟩/\vs[1]? = some .none/\E (.ref x) s₁) E s):wpAny (model prog w) A (raiseStmt env (some y) none) Q E s:=by
 unfold raiseStmt;refine ua (um h (λv s₁ z=>?_) λ_ _ z=>z);obtain⟨x,dd,vs,sl,rfl,X,c,he,h1,hE⟩:=z;obtain⟨nm,q,N,bs,bm,hd,sn,sub,ab,col,dd',k0,k1,k2,k3,k5,cd,hC,hcd,hmro,hns,hdd,OT,hok⟩:=Zo X c.sh;obtain⟨hp,g,d,tk,os⟩:=s₁;have hcB:(Value.ref C::bm).contains (.type "BaseException")=true:=by rw [U2,OT.hasType (X:="BaseException") (b:=true) (by decide +kernel),gZ]
 repeat (first | (with_reducible refine uK he ?_) | (with_reducible refine uK hC ?_) | (with_reducible refine uM he rfl h1 ?_) | (with_reducible refine UX hC ?_;rw [hcB]) | wp_step)
 exact wpAny_raiseNew_none hh hE
end
end L2
namespace L2
open PySem PySem.Spec PyProof.Rows
abbrev XS:=Value->Option Addr->St->Hp->Prop
def One (H:Hp)(d:Option Addr):Prop:=∃ a f v,d=some a/\H a=some (.xd [(f,v)])
def Nw (p:Prop)(h:Heap)(e:Addr)(c:Value)(d:Option Addr):Prop:=∃ sl vs,h.get? e=some ⟨c,d,.fields vs,sl⟩/\vs[1]? = some .none/\(p->vs[2]? = some .none)
def Fl (X:Cx)(E:XS)(e:Value)(s':Shared):Prop:=∃ (ea:Addr) (c:Value) (d:Option Addr) (H':Hp) (pins:Lp) (σ:St),e=.ref ea/\Inv X pins σ H' s'/\X.s₀.heap.objs.size<=ea/\H' ea=none/\(∀ q∈X.pn,q.1≠ea) /\ (Nw (One H' d) s'.heap ea c d\/∃ T fl,mE (One H' d) s'.heap ea T c d fl/\(fl=.none\/∃ L,X.env.frame=some L/\fl=rawInt L)/\X.s₀.heap.objs.size<=T/\H' T=none/\∀ q∈X.pn,q.1≠T)/\E c d σ H'
def nj (X:Cx)(E:XS):Prop:=∀ e s',Fl X E e s'->X.xe e s'
def nz (P:Program)(w:World):mw:=λouter H s E e s'=>∃ (ea T:Addr) (c:Value) (d:Option Addr) (H':Hp),e=.ref ea/\s.heap.objs.size<=ea/\s.heap.objs.size<=T/\mE (One H' d) s'.heap ea T c d .none/\H' ea=none/\H' T=none /\ s'.os=s.os/\AllBare s'.gens/\Un (lY outer) [] H H' s.heap s'.heap/\lF P w H' s'.heap/\E c d H'
section
variable {X:Cx} {pins:Lp} {σ:St} {H:Hp} {s s':Shared}
theorem Un.kp {h h1 h2:Heap}(u:Un fs [] H H' h h1)(k:Kp ch fs' h1 h2)(hc:∀ b∈ch,h.objs.size<=b)(hf:∀ b∈fs',b∈fs\/h.objs.size<=b):Un fs [] H H' h h2:=by
 have nc:∀ b o,h.get? b=some o->b∉ch:=λb o q z=>absurd (uu (ug q) (hc b z)) (u0 _);refine⟨λb o q n hb _=>?_,λb o q n hb _=>?_,u.free,λb o q _=>?_,u.tups,u.frzs,u.tbls⟩
 ·refine k.keep b o (nc b o q) (λz=>?_) (u.keep b o q n hb (by simp));rcases hf b z with z | z
  ·exact hb z
  ·exact absurd (uu (ug q) z) (u0 _)
 ·obtain⟨sl,e1⟩:=u.slot b o q n hb (by simp);obtain⟨sl',e2⟩:=k.slot b _ (nc b o q) e1;exact⟨sl',e2⟩
 ·obtain⟨o',e1⟩:=u.there b o q (by simp);obtain⟨sl',e2⟩:=k.slot b _ (nc b o q) e1;exact⟨_,e2⟩
theorem lF.kp (x:lF P w H h1)(k:Kp ch fs h1 h2)(hc:∀ b∈ch,H b=none)(hf:∀ b∈fs,H b=none):lF P w H h2:=λa o q=>
 (x a o q).stay (λb u hb z=>by
  have t:∃ v,H b=some v:=by
   rcases hb with rfl | hb
   ·exact⟨o,q⟩
   ·exact⟨_,hb⟩
  obtain⟨v,t⟩:=t
  exact k.keep b u (λy=>by rw [hc b y] at t;cases t) (λy=>by rw [hf b y] at t;cases t) z) (λ_ z=>z) λ_ _ z=>z
theorem Inv.frame (I:Inv X pins σ H s):X.stack=X.outer\/(X.A.frames=some (X.env::X.outer)/\s.heap.FunFrames X.base (X.env::X.outer)/\X.env.frame=some X.env.locals/\lY (X.env::X.outer)=X.env.locals::X.fs):=by
 rcases I.ok.stk with e | ⟨e,hf⟩
 ·exact .inl e
 ·refine .inr ⟨by rw [← e];exact I.ok.frames,by rw [← e];exact I.stack,hf,?_⟩;unfold lY;rw [gh,hf];rfl
theorem zP {P:Program}{w:World}{K:Lf}{mg:La}{base:Heap}{N:Lj}{qual:Str}{scope:Scope}{f:Addr}{cd:Value}{A:Around}{outer:List Env}{s:Shared}{H:Hp}{E:XK} : nj (iW (nz P w) P w K mg base N qual scope f cd A outer s H E) (λc d _ H'=>E c d H'):=by
 intro e s' hF;obtain⟨ea,c,d,H',pins,σ,rfl,I,hea,hHe,_,hv,hE⟩:=hF;have hst:(iW (nz P w) P w K mg base N qual scope f cd A outer s H E).stack=(iW (nz P w) P w K mg base N qual scope f cd A outer s H E).env::outer:=rfl;have hfr:=I.ok.frames;have hl:=I.stack;have hsub:=I.stkSub;have hfree:=I.stkFree;rw [hst] at hfr hl hsub hfree
 have fin:∀ (h':Heap) (T:Addr) (ch:Le),(s.heap.objs.size<=T/\H' T=none)->mE (One H' d) h' ea T c d .none->Kp ch (lY ((iW (nz P w) P w K mg base N qual scope f cd A outer s H E).env::outer)) s'.heap h'->(∀ b∈ch,s.heap.objs.size<=b/\H' b=none) ->
   nz P w outer H s E (.ref ea) { s' with heap:=h' }:=λh' T ch g1 g2 g3 g4=>by
  refine⟨ea,T,c,d,H',rfl,hea,g1.1,g2,hHe,g1.2,I.os,I.bare,?_,I.hok.kp g3 (λb hb=>(g4 b hb).2) hfree,hE⟩
  refine Un.kp (fs:=lY outer) I.base g3 (λb hb=>(g4 b hb).1) λb hb=>?_
  rcases uq.mp (hsub b hb) with z | z
  ·rw [z];exact .inr I.ok.above
  ·exact .inl z
 rcases hv with⟨sl,vs,he,h1,hp⟩ | ⟨T0,fl,hF,hfl,hT,hHT,_⟩
 ·exact Kq hfr hl rfl he h1 hp λh' T g1 g2 g3=>fin h' T [ea] ⟨uI I.sz g1,I.hok.fresh g1⟩ g2 g3 λb hb=>by
   obtain rfl:b=ea:=by simpa using hb
   exact⟨hea,hHe⟩
 ·rcases hfl with hfl | ⟨L,hL,rfl⟩;rotate_left
  ·exact za4 hL hF λh2 f1 f2=>fin h2 T0 [T0] ⟨hT,hHT⟩ f1 (f2.mono (λ_ z=>z) λb z=>absurd z (by simp)) λb hb=>by
    obtain rfl:b=T0:=by simpa using hb
    exact⟨hT,hHT⟩
  subst hfl
  exact za5 hfr hl rfl hF λh' T g1 g2 g3=>fin h' T [T0,ea] ⟨uI I.sz g1,I.hok.fresh g1⟩ g2 g3 λb hb=>by
   rcases uq.mp hb with z | z
   ·subst z;exact⟨hT,hHT⟩
   ·obtain rfl:b=ea:=by simpa using z
    exact⟨hea,hHe⟩
theorem NJ (I:Inv X pins σ H s)(h:nz X.prog X.w X.stack H s (λc d H'=>E c d σ H') e s'):Fl X E e s':=by
 obtain⟨ea,T,c,d,H',rfl,h1,h2,hF,n1,n2,ho,hg,hu,hk,hE⟩:=h;have np:∀ a,s.heap.objs.size<=a->∀ q∈X.pn,q.1≠a:=λa z q hq y=>by have:=(I.pin q (uY _ hq)).1;exact absurd (uu (ug this) (y ▸ z)) (u0 _)
 exact⟨ea,c,d,H',pins,σ,rfl,I.call' ho hu hk hg (λb z=>absurd z (by simp)),uI I.sz h1,n1,np ea h1,.inr ⟨T,_,hF,.inl rfl,uI I.sz h2,n2,np T h2⟩,hE⟩
end
structure n9 (P:Program)(w:World)(K:Lf)(mg:La)(base:Heap)(k:Nat)(x:Str)(ps:Lj)(sp:Sp):Prop where
 ex:∃ (f:Addr) (fd:FuncData),PySem.W.keepIn K (.ref f)=true/\Binds K fd ps []/\mg x=some (.ref f)/\iO P w K mg base (nz P w) k f fd ps sp
section
variable {P:Program} {w:World} {K:Lf} {mg:La} {base:Heap}
theorem Df.okX {x:Str}{st:Stmt}{ps N:Lj}{k:Nat}{sp:Sp}(D:Df K mg x st ps)(Sc:zj N ps (zf st))(len:∀ vs H Q E,sp vs H Q E->vs.length=ps.length) (hbody:∀ (f:Addr) (cdv:Value) (A:Around) (outer:List Env) (s:Shared) (H:Hp) (vs:List V) (Q:VK) (E:XK),ix k (A.deeper (envOfC x (zf st) s.heap.objs.size f cdv))->sp vs H Q E -> ∃ t,lS (iW (nz P w) P w K mg base N x (zf st) f cdv A outer s H E) (zW st) t/\t { nx:=λ_ H'=>Q .non H',rt:=Q } (start N vs) H):n9 P w K mg base (k+1) x ps sp:=by obtain⟨f,fd,F,b,m⟩:=D.ex;refine⟨f,fd,F.kp,b,m,?_⟩;obtain⟨oc,od,kV,doc,pm,an,cdv,ct,osl,rfl,lk,hcd⟩:=F.ex;exact Ac lk hcd Sc len λA outer s H vs Q E hr h=>hbody f cdv A outer s H vs Q E hr h
end
section
variable {X:Cx} {k j:Nat} {x:Str} {ps:Lj} {sp:Sp} {p pos:Pos} {e:Expr} {es:Lh} {t:TA} {E:XS}
def V6 (sp:Sp)(E:XS)(t:TA):TE:=λσ H Q=>t σ H λvs H1=>sp vs H1 Q λc d H'=>E c d σ H'
theorem E6 {pins:Lp}(F:iO X.prog X.w X.K X.mg X.base (nz X.prog X.w) k f fd ps sp)(hr:ix k X.A)(hb:Binds X.K fd ps [])(hx:nj X E) (I:Inv X pins σ H s) (r:Vals vs us) (h:sp vs H Q λc d H'=>E c d σ H'):fW X (call (.ref f) us) (EP X pins σ Q) X.xe s:=by
 have hl:(us++[]).length=ps.length:=by rw [uj,← r.length];exact F.len _ _ _ _ h
 have hb':=hb s us I.kIn hl;rw [uj] at hb';refine Uh (Um (F.run X.A X.stack s H ⟨us,[]⟩ us vs Q (λc d H'=>E c d σ H') hr I.iR hb' r h) λr s' hq=>?_);rcases r with e | (u | _ | _ | _)
 ·exact hx e s' (NJ I hq)
 all_goals first | exact I.after hq | exact False.elim hq
theorem PY (hx:nj X E)(F:n9 X.prog X.w X.K X.mg X.base k x ps sp)(hr:ix j X.A)(hk:k<=j)(ha:PA X (e::es) t)(hg:Gl X x:=by rfl) (hdb:(x == ("__debug__":Str))=false:=by decide) (he:SE X e es:=by rfl) (hpl:(backTo pos (starEach es X.env)).any (·.1)=false:=by rfl):PE X (.Call (.Name x p) (e::es) [] pos) (V6 sp E t):=by intro pins s σ H Q I h;obtain⟨f,fd,kp,b,m,G⟩:=F.ex;refine uV (wW I hg m ?_ hdb);refine Uo (h₀:=X.base) I.ok.mod.kin kp (iB (ha pos pins s σ H _ I h) λus s1 ⟨vs,H1,I1,r,q⟩=>⟨I1.kIn,?_⟩) he hpl;exact E6 G (hr.mono hk) b hx I1 r q
end
end L2
namespace L2
open PySem PySem.Spec PyProof.Rows PySem.W
def lG (C a:Addr):HO:=.ext λh=>∃ (vs:Array Value) (sl:Array (Option Value)) (t:Addr),h.get? a=some ⟨.ref C,none,.fields vs,sl⟩/\vs[0]? = some (.ref t)/\vs[1]? = some .none/\vs[2]? = some .none/\vs.size=6
def lO (C d a:Addr):HO:=.ext λh=>∃ (vs:Array Value) (sl:Array (Option Value)),h.get? a=some ⟨.ref C,some d,.fields vs,sl⟩/\vs[1]? = some .none/\vs[2]? = some .none/\vs.size=6
theorem LK (e:H a=some o):upd H a o=H:=by
 funext b;unfold upd;split
 ·rename_i z;rw [z,e]
 ·rfl
section
variable {P:Program} {w:World} {H:Hp} {h:Heap} {C d a:Addr}
theorem BG (e:h.get? a=some ⟨.ref C,none,.fields vs,sl⟩)(h0:vs[0]? = some (.ref t))(h1:vs[1]? = some .none/\vs[2]? = some .none/\vs.size=6):qC P w H h a (lG C a):= ⟨⟨vs,sl,t,e,h0,h1⟩,⟨_,e⟩,λ_ _ ⟨vs,sl,t,e,r⟩ k=>⟨vs,sl,t,k _ e,r⟩⟩
theorem LJ (e:h.get? a=some ⟨.ref C,some d,.fields vs,sl⟩)(h1:vs[1]? = some .none/\vs[2]? = some .none/\vs.size=6):qC P w H h a (lO C d a):= ⟨⟨vs,sl,e,h1⟩,⟨_,e⟩,λ_ _ ⟨vs,sl,e,r⟩ k=>⟨vs,sl,k _ e,r⟩⟩
end
section
variable {X:Cx} {C B:Addr} {b self name:Str} {e a1:Expr} {es:Lh} {te:TE} {t:TA} {np p1 apos cpos pos pos':Pos} {i:Nat}
def VC (C:Addr):List V->Hp->VK->Prop:=λxs H Q=>∃ a v,xs=[.ref a,v]/\H a=some (lG C a)/\Q .non H
theorem Sx (c:lC X.K C):jx X (.builtin "ValueError.__init__") (VC C):=by
 intro pins s σ H xs us Q I r h;obtain⟨a,v,rfl,ea,q⟩:=h;obtain⟨u1,u2,rfl,r1,r2⟩:=vals2 r;obtain rfl:u1=Value.ref a:=r1;obtain⟨⟨vs,sl,t,e,h0,h1⟩,_⟩:=I.hok a _ ea;refine Si I.kIn c.sh e h0 (by show 1<=_;rw [uR];decide) λh' k z=>⟨.non,H,?_,rfl,q⟩
 have I':=I.write (x:=a) (e:=a) (o:=lG C a) (h':=h') (t':=s.toks) (by rw [ea];exact True.intro) (.inl rfl) k ⟨_,z⟩ (BG (t:=s.heap.objs.size) z (by
  have:0<vs.size:=(Uc.mp h0).1
  simp [this]) (by simpa [UN] using h1))
 rw [LK ea] at I';exact I'
def rB (K:Frag)(B:Addr):Bool:=specialIn K (.ref B) "__getattribute__" == some (some (.builtin "type.__getattribute__"))&&readsIn K B (.type "type")&&(match findCls K (.ref B) (.type "type") "__init__" with | some (.val v)=>v == .builtin "ValueError.__init__" | _=>false)
theorem Jg (hm:X.mg b=some (.ref B))(hu:rB X.K B=true)(c:lC X.K C)(ha:PA X (a1::es) t)(hg:Gl X b:=by rfl) (hd:(b == ("__debug__":Str))=false:=by decide)
  (hst:SE X a1 es:=by rfl) (hpl:(backTo cpos (starEach es X.env)).any (·.1)=false:=by rfl)
  (ht:eval (.Call (.Attribute (.Name b np) "__init__" apos) (a1::es) [] cpos) X.env=(do
   let ov ← eval (.Name b np) X.env
   standAt apos.atName
   let (f,first) ← holding [ov] (getMethod ov "__init__" pl)
   callWith cpos f first (backTo cpos (starEach (a1::es) X.env)) (backToKw cpos (keywordEach [] X.env))):=by rfl):PE X (.Call (.Attribute (.Name b np) "__init__" apos) (a1::es) [] cpos) (oU (VC C) t):=by
 intro pins s σ H Q I h
 simp only [rB,uJ,Ub] at hu
 obtain⟨⟨u1,u2⟩,u3⟩:=hu
 split at u3
 ·rename_i v hv
  obtain rfl:v=.builtin "ValueError.__init__":=Ub.mp u3
  refine UQ (pl:=pl) (wW I hg hm (method_cls I.kIn u1 (cls_value I.kIn u2 hv rfl ?_)) hd) ht
  exact callWith_builtin1 (iB (ha cpos pins _ σ H _ (I.tok _) h) λus s1 ⟨vs,H1,I1,r1,q1⟩=>Sx c pins s1 σ H1 vs us Q I1 r1 q1) hst hpl
 ·cases u3
def Kt (K:Frag)(C:Addr)(ta tv:TE)(name:Str):TS:=λD σ H=>tv σ H λy H1=>ta σ H1 λx H2=>∃ a,x=.ref a/\H2 a=some (lG C a)/\∀ d,H2 d=none->d≠a->D.nx σ (upd (upd H2 a (lO C d a)) d (.xd [(name,y)]))
theorem Jh {o value:Expr}(c:lC X.K C)(hn:findIn X.K (.ref C) name=some none)(ha:PE X o ta)(hv:PE X value tv)(hs:swapsWith value (some (.Attribute o name pos')) pos.line X.env=pure false:=by rfl) : PS X (.Assign [.Attribute o name pos'] value pos) (Kt X.K C ta tv name):=by
 intro pins s σ H D I h;refine UU (iB (hv pins s σ H _ I h) λu s1 ⟨y,H1,I1,ry,q⟩=>iB (ha pins s1 σ H1 _ I1 q) λov s2 zq=>?_) hs;obtain⟨x,H2,I2,rx,a,ex,ea,q2⟩:=zq;subst ex;obtain rfl:ov=Value.ref a:=rx;obtain⟨⟨vs,sl,t,e,h0,h1⟩,_⟩:=I2.hok a _ ea;refine Sh I2.kIn e c.sh c.hd c.sa hn λh' d tk g1 g2 g3 g4=>?_;have hn:=I2.hok.fresh g1;have nd:d≠a:=λz=>by rw [z,ea] at hn;cases hn
 refine⟨σ,_,?_,q2 d hn nd⟩
 have u:Un X.fs [] H2 (upd (upd H2 a (lO C d a)) d (.xd [(name,y)])) s2.heap h':=by
  have na:∀ b,H2 b=none->b≠a:=λb z y=>by rw [y,ea] at z;cases z
  have nd':∀ b o,s2.heap.get? b=some o->b≠d:=λb o z y=>absurd (uu (ug z) (y ▸ g1)) (u0 _);have nx:∀ b o,H2 b=some o->b≠d:=λb o z y=>by rw [y,hn] at z;cases z
  refine⟨λb o z n _ _=>g4 b o (na b n) z,λb o z n _ _=>⟨o.slots,g4 b o (na b n) z⟩,λb o z n _=>by rw [zk (nd' b o z),zk (na b n)];exact n,λb o z _=>?_,λb xs z=>?_,λb o u z=>?_,λb ps z=>⟨#[],?_⟩⟩
  ·by_cases hb:b=a
   ·rw [hb];exact⟨_,g2⟩
   ·exact⟨o,g4 b o hb z⟩
  all_goals
   have nb:b≠a:=λy=>by rw [y,ea] at z;cases z
   rw [zk (nx b _ z),zk nb,z]
  simp
 refine I2.un u λb o z=>?_;by_cases hb:b=d
 ·subst hb;rw [zb] at z;cases z;refine⟨_,g3,λf=>?_⟩;by_cases hf:f=name
  ·subst hf;simp only [ue];simpa [List.lookup,iZ] using ry
  ·have:(f == name)=false:=uO.mpr hf;simp only [ub hf,List.lookup,this];trivial
 ·rw [zk hb] at z;by_cases hb2:b=a
  ·subst hb2;rw [zb] at z;cases z;exact LJ g2 h1
  ·rw [zk hb2] at z;have nown:∀ c y,H2 c=some (.own y)->c≠a:=λc y r q=>by rw [q,ea] at r;cases r
   have ntup:∀ c y,H2 c=some (.tup y)->c≠a:=λc y r q=>by rw [q,ea] at r;cases r
   have nx:∀ b o,H2 b=some o->b≠d:=λb o z y=>by rw [y,hn] at z;cases z
   refine(I2.hok b o z).stay (λc v hc q=>g4 c v ?_ q) (λc q=>by rw [zk (nx c _ q),zk (nown c _ q)];exact q) λc xs q=>by rw [zk (nx c _ q),zk (ntup c _ q)];exact q
   rcases hc with rfl | hc
   ·exact hb2
   ·exact nown c _ hc
def BQ (te:TE):TE:=λσ H Q=>te σ H λv H1=>((∃ n:Int,v=.int n/\0<=n/\n<1000000)\/∃ z:Str,v=.str z/\z.length<=1000000)/\∀ y,Q (.str y) H1
theorem AU {a:Str}(he:PE X e te)(ha:a.length<=1000:=by decide +kernel):PE X (.JoinedStr [.Constant (.str a) j q1,.FormattedValue e (-1) none q2] q3) (BQ te):=by
 intro pins s σ H Q I h;refine JoinedStr_many (G6 (Calls.Constant_str ⟨?_,?_⟩))
 ·rw [Gx,uR];show 0+a.length<=_;lia
 refine G6 (FormattedValue_plain (iB (he pins _ σ H _ (I.tok _) h) λu s1 zq=>?_));obtain⟨v,H1,I1,r,hv,q⟩:=zq
 have fin:∀ (y:Str) (tk:Nat),y.length<=1000001->(Str.empty++a++y).length<=sizeLine/\fW X (joinParts (Str.empty++a++y) []) (EP X pins σ Q) X.xe { s1 with toks:=tk }:=λy tk hy=>by
  have hz:(Str.empty++a++y).length<=sizeLine:=by rw [Gx,Gx,uR];show 0+a.length+y.length<=_;lia
  exact⟨hz,joinParts_nil ⟨.str _,H1,I1.tok _,⟨_,rfl⟩,q _⟩ hz⟩
 rcases hv with⟨n,rfl,n0,n1⟩ | ⟨z,rfl,hz⟩
 ·obtain⟨tk,rfl⟩:=r;refine formatField_int_small (SI n0 n1) (fin _ _ ?_);have e1:=int_text_length_le10 (a:=n) (k:=7) (by decide) (by lia);show(Str.ofString (toString n)).length<=_;rw [PySem.ofString_length];lia
 ·obtain⟨tk,rfl⟩:=r;exact formatField_str (λt' tk'=>fin _ _ (by lia)) (by rw [uR];lia)
end
def E5 (C:Addr)(f:Str)(pay:V->Prop):Sp:=λvs H Q _=>∃ a v,vs=[.ref a,v]/\H a=some (lG C a)/\pay v/\∀ d,H d=none->d≠a->Q .non (upd (upd H a (lO C d a)) d (.xd [(f,v)]))
def nQ (v:V):Prop:=(∃ n:Int,v=.int n/\0<=n/\n<1000000)\/∃ z:Str,v=.str z/\z.length<=1000000
structure AE (P:Program)(w:World)(K:Frag)(mg:La)(base:Heap)(x:Str)(C:Addr)(f:Str)(pay:V->Prop):Prop where
 gl:mg x=some (.ref C)
 cl:lC K C
 kp:keepIn K (.ref C)=true
 ex:∃ (fI:Addr) (fd:FuncData) (oI:Obj) (ps:Lj),Wz K C=some (some (.ref fI))/\K.lookup fI=some oI/\oI.cls=.type "function"/\Binds K fd ps []/\iO P w K mg base mJ 1 fI fd ps (E5 C f pay)
theorem Sw {K:Frag}{C:Addr}{f p:Str}{a:Addr}{v:V}{H:Hp}{Q:VK}(ea:H a=some (lG C a))(hp:nQ v)(q:∀ d,H d=none->d≠a->Q .non (upd (upd H a (lO C d a)) d (.xd [(f,v)]))) :
  i7 (Wu (oU (VC C) (jl (iL 0) (jl (BQ (iL 1)) i8)))) (Kt K C (iL 0) (iL 1) f) { nx:=λ_ H'=>Q .non H',rt:=Q } (start ["self",p] [.ref a,v]) H:=
 ⟨.ref a,rfl,v,rfl,hp,λy=>⟨a,.str y,rfl,ea,v,rfl,.ref a,rfl,a,rfl,ea,λd h1 h2=>q d h1 h2⟩⟩
section
variable {X:Cx} {E:XS} {C:Addr} {x f:Str} {pay:V->Prop} {e:Expr} {es:Lh} {t:TA} {np cpos pos:Pos} {j:Nat}
def V7 (C:Addr)(f:Str)(pay:V->Prop)(E:XS)(t:TA):TS:=λ_ σ H=>t σ H λvs H1=>∃ v,vs=[v]/\pay v/\∀ d H2,fX H1 H2->H1 d=none->H2 d=some (.xd [(f,v)])->E (.ref C) (some d) σ H2
theorem PX (hx:nj X E)(R:AE X.prog X.w X.K X.mg X.base x C f pay)(hr:ix j X.A)(hj:2<=j)(ha:PA X (e::es) t)(hg:Gl X x:=by rfl) (hdb:(x == ("__debug__":Str))=false:=by decide) (he:SE X e es:=by rfl) (hpl:(backTo cpos (starEach es X.env)).any (·.1)=false:=by rfl) : PS X (.Raise (some (.Call (.Name x np) (e::es) [] cpos)) none pos) (V7 C f pay E t):=by
 intro pins s σ H D I h;have c:=R.cl;rw [Gn];refine ua (Ua (VB (C:=C) (K:=X.K) hr.hd ?_));refine ua (um (Q:=λv s₁=>∃ x dd vs sl,v=.ref x/\X.K.In s₁.heap/\lC X.K C/\s₁.heap.get? x=some ⟨.ref C,dd,.fields vs,sl⟩/\vs[1]? = some .none/\X.xe (.ref x) s₁) ?_ (λv s₁ h₁=>ua (Ua (ud h₁))) λ_ _ z=>z);refine uV (wW I hg R.gl ?_ hdb);refine Uo (h₀:=X.base) I.ok.mod.kin R.kp (iB (ha cpos pins s σ H _ I h) λus s1 ⟨vs,H1,I1,r,v,hvs,hp,q⟩=>⟨I1.kIn,?_⟩) he hpl;subst hvs;obtain⟨u,rfl,rv⟩:=vals1 r;obtain⟨fI,fd,oI,ps,i1,i2,i3,hb,F⟩:=R.ex;refine Kr I1.kIn c.sh i1 i2 i3 (by show 1<=_;rw [uR];decide) λh' a g1 g2=>?_;obtain⟨t0,z1,_,_⟩:=g2.there;have n1:=I1.hok.fresh g1;have I2:Inv X pins σ (upd H1 a (lG C a)) { s1 with heap:=h' }:=I1.laid (t':=s1.toks) g2.keeps g1 (BG (t:=t0) z1 rfl ⟨rfl,rfl,rfl⟩)
 have hsp:E5 C f pay [.ref a,v] (upd H1 a (lG C a)) (λw2 H2=>w2=.non/\∃ d,upd H1 a (lG C a) d=none/\d≠a/\H2=upd (upd (upd H1 a (lG C a)) a (lO C d a)) d (.xd [(f,v)])) E0:=
  ⟨a,v,rfl,zb,hp,λd q1 q2=>⟨rfl,d,q1,q2,rfl⟩⟩
 have r2:Vals [V.ref a,v] [Value.ref a,u]:=.cons rfl (.cons rv .nil);have hb':=hb { s1 with heap:=h' } [.ref a,u] I2.kIn (by rw [← F.len _ _ _ _ hsp];rfl);refine Uh (Um (F.run (X.A.under (.builtin "type.__call__" ⟨.ref C::[u],[]⟩)) X.stack { s1 with heap:=h' } _ ⟨[.ref a,u],[]⟩ _ _ _ _ ((hr.mono hj).make C [u] []) (I2.iR.make C [u] []) hb' (by simpa using r2) hsp) λr s' hq=>?_);rcases r with er | fl
 ·exact False.elim hq
 cases fl with
 | next=>exact False.elim hq
 | brk=>exact False.elim hq
 | cont=>exact False.elim hq
 | ret w2=>
  obtain⟨v2,H2,I3,rv2,rfl,d,q1,q2,rfl⟩:=I2.after hq;refine⟨rv2,a,some d,?_⟩;have hx1:qC X.prog X.w (upd (upd (upd H1 a (lG C a)) a (lO C d a)) d (.xd [(f,v)])) s'.heap a (lO C d a):=I3.hok a _ (by rw [zk (Ne.symm q2),zb]);obtain⟨⟨vs',sl',e1,e2⟩,_⟩:=hx1;refine⟨vs',sl',rfl,I3.kIn,c,e1,e2.1,hx _ _ ?_⟩;have np:∀ q∈X.pn,q.1≠a:=λq hq y=>by have:=(I1.pin q (uY _ hq)).1;exact absurd (uu (ug this) (y ▸ g1)) (u0 _)
  have q1':H1 d=none:=by rw [zk q2] at q1;exact q1
  have sa:fX H1 (λb=>if b=a then none else upd (upd (upd H1 a (lG C a)) a (lO C d a)) d (.xd [(f,v)]) b):=λb o hb=>by
   have ba:b≠a:=λy=>by rw [y,n1] at hb;cases hb
   have bd:b≠d:=λy=>by rw [y,q1'] at hb;cases hb
   simp only [ub ba];rw [zk bd,zk ba,zk ba];exact hb
  refine⟨a,.ref C,some d,_,[],σ,rfl,?_,uI I1.sz g1,?_,np,.inl ⟨sl',vs',e1,e2.1,λ_=>e2.2.1⟩,q d _ sa q1' ?_⟩
  ·have I4:Inv X [] σ (upd (upd (upd H1 a (lG C a)) a (lO C d a)) d (.xd [(f,v)])) s':=I3.pins_of λp hp=>absurd hp (by simp)
   have key:∀ b o,(λb=>if b=a then none else upd (upd (upd H1 a (lG C a)) a (lO C d a)) d (.xd [(f,v)]) b) b=some o->b≠a/\upd (upd (upd H1 a (lG C a)) a (lO C d a)) d (.xd [(f,v)]) b=some o:=λb o z=>by
    by_cases hb:b=a
    ·simp [hb] at z
    ·simp only [ub hb] at z;exact⟨hb,z⟩
   have back:∀ b o,b≠a->upd (upd (upd H1 a (lG C a)) a (lO C d a)) d (.xd [(f,v)]) b=some o->(λb=>if b=a then none else upd (upd (upd H1 a (lG C a)) a (lO C d a)) d (.xd [(f,v)]) b) b=some o:=λb o hb z=>by simp only [ub hb];exact z
   have nex:∀ b o,upd (upd (upd H1 a (lG C a)) a (lO C d a)) d (.xd [(f,v)]) b=some o->(∀ φ,o≠.ext φ)->b≠a:=λb o z no y=>by rw [y,zk (Ne.symm q2),zb] at z;cases z;exact no _ rfl
   refine I4.step (h':=s'.heap) (g':=s'.gens) (t':=s'.toks) (d':=s'.drawn) (ch:=[]) (λ_ z=>absurd z (by simp)) (λb o _ _ _ z _=>z) (λb o _ _ _ z _=>⟨o.slots,z⟩) (λb o _ _ z=>?_) (λb o _ z=>⟨o,z⟩) (λb xs z=>back b _ (nex b _ z λ_ y=>by cases y) z) (λb o u z=>back b _ (nex b _ z λ_ y=>by cases y) z)
    (λb ps z=>⟨#[],by rw [GH];exact back b _ (nex b _ z λ_ y=>by cases y) z⟩) (λm z=>z) (λb o z=>?_) I4.bare
   ·by_cases hb:b=a
    ·simp [hb]
    ·simp only [ub hb];exact z
   ·obtain⟨hb,z⟩:=key b o z;exact(I4.hok b o z).stay (λ_ _ _ y=>y) (λc y=>back c _ (nex c _ y λ_ y=>by cases y) y) λc xs y=>back c _ (nex c _ y λ_ y=>by cases y) y
  ·simp
  ·simp only [ub q2];rw [zb]
end
section
variable {X:Cx} {pins:Lp} {σ:St} {H:Hp} {s:Shared}
def pX (X:Cx)(b:Addr):Prop:=X.s₀.heap.objs.size<=b/\b≠X.env.locals/\(∀ x c,X.env.cells.lookup x=some c->c≠b)/\∀ p∈X.pn,p.1≠b
theorem kC (I:Inv X pins σ H s){b:Addr}{o:Obj}{vs:Array Value}(e:s.heap.get? b=some o)(hd:o.data=.fields vs)(h0:X.s₀.heap.objs.size<=b)(hp:∀ p∈X.pn,p.1≠b):pX X b:=by
 refine⟨h0,λz=>?_,λx c hc z=>?_,hp⟩
 ·obtain⟨m,⟨o',es,ep,e',d',_⟩,_⟩:=I.loc;rw [← z,e] at e';cases e';rw [hd] at d';cases d'
 ·obtain⟨v,o',e',d'⟩:=I.cell x c hc;rw [z,e] at e';cases e';rw [hd] at d';cases d'
theorem Xk (I:Inv X pins σ H s){b:Addr}(h:s.heap.objs.size<=b):pX X b:=by
 refine⟨uI I.sz h,λz=>absurd I.lt (by rw [← z];exact gY.mpr h),λx c hc z=>?_,λp hp z=>?_⟩
 ·obtain⟨v,o',e',d'⟩:=I.cell x c hc;exact absurd (uu (ug e') (z ▸ h)) (u0 _)
 ·have:=(I.pin p (uY _ hp)).1;exact absurd (uu (ug this) (z ▸ h)) (u0 _)
theorem Inv.kp {h':Heap}{H':Hp}{ch:Le}(I:Inv X [] σ H s)(k:Kp ch (lY X.stack) s.heap h')(hc:∀ b∈ch,pX X b/\H b=none)(hH:∀ b,b∉ch->H' b=H b)(hok:lF X.prog X.w H' h'):Inv X [] σ H' { s with heap:=h' }:=by
 have nt:∀ b o,H b=some o->b∉ch:=λb o z y=>by rw [(hc b y).2] at z;cases z
 refine I.step (h':=h') (g':=s.gens) (t':=s.toks) (d':=s.drawn) (ch:=ch) (λb hb=>?_) (λb o n1 n2 n3 z _=>?_) (λb o n1 n2 n3 z _=>k.slot b o n3 z) (λb o n3 z n=>by rw [hH b n3];exact n) (λb o n3 z=>let ⟨sl,q⟩:=k.slot b o n3 z;⟨_,q⟩)
  (λb xs z=>by rw [hH b (nt b _ z)];exact z) (λb o u z=>by rw [hH b (nt b _ z)];exact z) (λb ps z=>⟨#[],by rw [hH b (nt b _ z),GH];exact z⟩) (λm hm=>?_) hok I.bare
 ·obtain⟨a1,a2,a3,a4⟩:=(hc b hb).1;exact⟨.inr a1,a2,a3,λp hp=>(u6.mp hp).elim (a4 p) λz=>absurd z (by simp)⟩
 ·exact k.keep b o n3 (λy=>(uq.mp (I.stkSub b y)).elim n1 n2) z
 ·obtain⟨o,es,ep,ho,r⟩:=hm;obtain⟨sl,q⟩:=k.slot _ o (λz=>(hc _ z).1.2.1 rfl) ho;exact⟨_,es,ep,q,r⟩
theorem Inv.lost {h':Heap}{tk:Nat}{m':La}(I:Inv X pins σ H s)(hn:h'.Ns X.env.locals m')(hs:Heap.SameBut X.env.locals s.heap h'):Inv X pins (σ.map λ_=>none) H { s with heap:=h',toks:=tk }:=by
 have lt:∀ b o,X.s₀.heap.get? b=some o->b≠X.env.locals:=λb o e=>Ug (uu (ug e) I.ok.above);refine⟨I.ok,I.os,I.bare,⟨λb o e n hb hx=>?_,λb o e n hb hx=>?_,I.base.free,λb o e hx=>?_,I.base.tups,I.base.frzs,I.base.tbls⟩,⟨_,hn,λj y v' e1 e2 e3=>?_⟩,λy c e=>?_,I.free,I.freeC,λp hp=>?_,λb ob e=>?_,by simpa using I.len⟩
 ·exact(hs.2 b (lt b o e)).trans (I.base.keep b o e n hb hx)
 ·obtain⟨sl,e1⟩:=I.base.slot b o e n hb hx;exact⟨sl,(hs.2 b (lt b o e)).trans e1⟩
 ·obtain⟨o',e1⟩:=I.base.there b o e hx;exact⟨o',(hs.2 b (lt b o e)).trans e1⟩
 ·rw [Uk] at e2;cases q:σ[j]? with
  | none=>rw [q] at e2;cases e2
  | some z=>rw [q] at e2;cases e2
 ·obtain⟨w',z⟩:=I.cell y c e;exact⟨w',z.sameBut hs (I.cne y c e)⟩
 ·obtain⟨e,n,ne,nf,d⟩:=I.pin p hp;exact⟨(hs.2 p.1 ne).trans e,n,ne,nf,d⟩
 ·refine(I.hok b ob e).stay (λc w' hc q=>(hs.2 c ?_).trans q) (λ_ q=>q) λ_ _ q=>q;rintro rfl;rcases hc with rfl | hc
  ·rw [I.free] at e;cases e
  ·rw [I.free] at hc;cases hc
abbrev Cx.tryIn (X:Cx)(pn:Lp)(xe:fV):Cx:={ X with pn:=pn,xe:=xe }
abbrev Cx.exInG (X:Cx)(pn:Lp)(ea:Addr)(xe:fV):Cx:={ X with pn:=pn,A:=X.A.mark (some (.ref ea)),calm:=false,xe:=xe }
abbrev Cx.exIn (X:Cx)(pn:Lp)(ea:Addr):Cx:=X.exInG pn ea λ_ _=>False
theorem Cx.Ok.tryIn (ok:X.Ok)(pn:Lp)(xe:fV):(X.tryIn pn xe).Ok:= ⟨ok.mod,ok.kind,ok.glob,ok.blt,ok.above,ok.inj,ok.has,ok.cab,ok.hd,ok.frames,ok.stk,ok.exf,ok.bs,ok.bsz,ok.noex,ok.exfs,ok.funs,ok.frf⟩
theorem Cx.Ok.exIn (ok:X.Ok)(pn:Lp)(ea:Addr)(xe:fV):(X.exInG pn ea xe).Ok:=
 ⟨ok.mod,ok.kind,ok.glob,ok.blt,ok.above,ok.inj,ok.has,ok.cab,λz=>absurd (show false=true from z) (by decide),ok.frames,ok.stk,ok.exf,ok.bs,ok.bsz,ok.noex,ok.exfs,ok.funs,ok.frf⟩
theorem Inv.tryIn (I:Inv X pins σ H s)(xe:fV):Inv (X.tryIn (X.pn++pins) xe) [] σ H s:=⟨I.ok.tryIn _ _,I.os,I.bare,I.base,I.loc,I.cell,I.free,I.freeC,λp hp=>I.pin p (by simpa using hp),I.hok,I.len⟩
theorem Inv.untry {xe:fV}(ok:X.Ok)(I:Inv (X.tryIn (X.pn++pins) xe) [] σ H s):Inv X pins σ H s:=⟨ok,I.os,I.bare,I.base,I.loc,I.cell,I.free,I.freeC,λp hp=>I.pin p (by simpa using hp),I.hok,I.len⟩
theorem Inv.toEx {xe xe':fV}(ok:X.Ok)(ea:Addr)(I:Inv (X.tryIn (X.pn++pins) xe) [] σ H s):Inv (X.exInG (X.pn++pins) ea xe') [] σ H s:=⟨ok.exIn _ _ _,I.os,I.bare,I.base,I.loc,I.cell,I.free,I.freeC,I.pin,I.hok,I.len⟩
theorem Inv.unEx {ea:Addr}(ok:X.Ok)(I:Inv (X.exInG (X.pn++pins) ea xe) [] σ H s):Inv X pins σ H s:=⟨ok,I.os,I.bare,I.base,I.loc,I.cell,I.free,I.freeC,λp hp=>I.pin p (by simpa using hp),I.hok,I.len⟩
end
def yR (H:Hp)(a C:Addr)(d:Option Addr):Prop:=∃ o,H a=some (.frz o (.own a))/\o.cls=.ref C/\o.dict=d/\∃ vs,o.data=.fields vs
def sx (H:Hp)(a:Addr):Prop:=∃ o vs,H a=some (.frz o (.own a))/\o.data=.fields vs/\vs[2]? = some .none
def rA (X:Cx)(E:XS)(e:Value)(s':Shared):Prop:=∃ (ea:Addr) (c:Value) (d:Option Addr) (H':Hp) (σ:St),e=.ref ea/\Inv X [] σ H' s'/\X.s₀.heap.objs.size<=ea/\H' ea=none/\(∀ q∈X.pn,q.1≠ea)/\Nw (One H' d) s'.heap ea c d/\E c d σ H'
abbrev AS (D:Ends):Ends:={ nx:=λσ2 H2=>D.nx (σ2.map λ_=>none) H2,rt:=D.rt,bk:=λσ2 H2=>D.bk (σ2.map λ_=>none) H2,ct:=λσ2 H2=>D.ct (σ2.map λ_=>none) H2 }
def rD (K:Frag)(Dc:Addr)(i:Nat)(tb:XS->TS)(th:TS):TS:=λD σ H=>
 tb (λc d σ' H'=>∃ C,c=.ref C/\lC K C/\mroIn K C (.ref Dc)=some true/\∀ ea H2,fX H' H2->yR H2 ea C d->th { nx:=λσ2 H2=>D.nx (σ2.map λ_=>none) H2,rt:=D.rt,bk:=λσ2 H2=>D.bk (σ2.map λ_=>none) H2,ct:=λσ2 H2=>D.ct (σ2.map λ_=>none) H2 } (σ'.set i (some (.ref ea))) H2) D σ H
def Bj (K:Frag)(Dc:Addr)(i:Nat)(tb:XS->TS)(th:Addr->TS):TS:=λD σ H=>
 tb (λc d σ' H'=>∃ C,c=.ref C/\lC K C/\mroIn K C (.ref Dc)=some true/\One H' d/\∀ ea H2,fX H' H2->yR H2 ea C d->sx H2 ea->th ea (AS D) (σ'.set i (some (.ref ea))) H2) D σ H
section
variable {X:Cx} {Dc:Addr} {x n:Str} {i:Nat} {tb:XS->TS} {th:TS} {body suite:List Stmt} {b₀:Stmt} {np hpos pos:Pos}
def t7 (X:Cx)(ea:Addr)(n:Str)(hpos:Pos)(e:Value)(s3:Shared):Prop:=
 wpAny (model X.prog X.w) (X.A.mark (some (.ref ea))) (noteFrame e X.env) (λ_ s4=>wpAny (model X.prog X.w) (X.A.mark (some (.ref ea))) (do bindName X.env n .none;unbindBehindTheSuite X.env n hpos)
  (λ_ s5=>wpAny (model X.prog X.w) (X.A.mark (some (.ref ea))) (PySem.passOn "try.except-as" e X.env:Sem Flow) (λ_ _=>False) (notedBy (model X.prog X.w) (X.A.mark (some (.ref ea))) X.env (cameBackBy (model X.prog X.w) X.A X.env X.xe)) s5)
  (λy s5=>wpAny (model X.prog X.w) (X.A.mark (some (.ref ea))) (setFlight e none) (λ_ s6=>(notedBy (model X.prog X.w) (X.A.mark (some (.ref ea))) X.env (cameBackBy (model X.prog X.w) X.A X.env X.xe)) y s6) (notedBy (model X.prog X.w) (X.A.mark (some (.ref ea))) X.env (cameBackBy (model X.prog X.w) X.A X.env X.xe)) s5) s4)
  (notedBy (model X.prog X.w) (X.A.mark (some (.ref ea))) X.env (cameBackBy (model X.prog X.w) X.A X.env X.xe)) s3
theorem Sv {pins:Lp}(ok:X.Ok)(hl:X.env.scope.names.lookup n=some .local)(hst:X.stack=X.env::X.outer)(hf:X.env.frame=some X.env.locals)(hx:nj X E) (h:rA (X.exIn (X.pn++pins) ea) (λc d σ H=>E c d (σ.map λ_=>none) H) e s3):t7 X ea n hpos e s3:=by
 obtain⟨x,c,d,H',σ,rfl,I,hx0,hHx,hpn,⟨sl,vs,he,h1,hp⟩,hE⟩:=h;have hfr:(X.A.mark (some (.ref ea))).frames=some (X.env::X.outer):=by rw [← hst];exact ok.frames
 have hlf:s3.heap.FunFrames X.base (X.env::X.outer):=by rw [← hst];exact I.stack
 have hfree:∀ b∈lY (X.env::X.outer),H' b=none:=by rw [← hst];exact I.stkFree
 have ox:=kC I he rfl hx0 hpn;refine Qq (p:=One H' d) hfr hlf hf he h1 hp λh4 T g1 g2 g3=>?_;have oT:=Xk I g1;have nT:=I.hok.fresh g1;have xT:x≠T:=λz=>absurd (ug he) (by rw [z];exact gY.mpr g1);have I4:Inv (X.exIn (X.pn++pins) ea) [] σ H' { s3 with heap:=h4 }:=I.kp (by rw [hst];exact g3) (λb hb=>by rw [show b=x by simpa using hb];exact⟨ox,hHx⟩) (λ_ _=>rfl) (I.hok.kp g3 (λb hb=>by rw [show b=x by simpa using hb];exact hHx) hfree);obtain⟨m,hn,_⟩:=I4.loc;refine wpAny_nameGoes hl hn (by rw [I4.ok.kind];rfl) λh5 m' z1 z2=>?_;have I5:Inv X [] (σ.map λ_=>none) H' { s3 with heap:=h5,toks:=s3.toks+1 }:=((I4.unEx ok).lost z1 z2).pins_of λp hp=>absurd hp (by simp);have F5:mE (One H' d) h5 x T c d (rawInt X.env.locals):=by obtain⟨sl',vs',oT',ts,he',hv',tn,hT',hd',h3'⟩:=g2;exact⟨sl',vs',oT',ts,(z2.2 x ox.2.1).trans he',hv',tn,(z2.2 T oT.2.1).trans hT',hd',h3'⟩
 have tail:∀ (h6:Heap),Inv X [] (σ.map λ_=>none) H' { s3 with heap:=h6,toks:=s3.toks+1 }->mE (One H' d) h6 x T c d (rawInt X.env.locals)->∀ (Q:Unit->Shared->Prop) (A:Around) (E':fV),(∀ h7,Inv X [] (σ.map λ_=>none) H' { s3 with heap:=h7,toks:=s3.toks+1 }->mE (One H' d) h7 x T c d (rawInt X.env.locals)->Q () { s3 with heap:=h7,toks:=s3.toks+1 }) ->
   wpAny (model X.prog X.w) A (setFlight (.ref x) X.env.frame) Q E' { s3 with heap:=h6,toks:=s3.toks+1 }:=λh6 J F Q A E' k=>
  SA (s:={ s3 with heap:=h6,toks:=s3.toks+1 }) hf F λh7 f1 f2=>k h7 (Inv.kp (s:={ s3 with heap:=h6,toks:=s3.toks+1 }) J (f2.mono (λ_ z=>z) λb z=>absurd z (by simp)) (λb hb=>by rw [show b=T by simpa using hb];exact⟨⟨oT.1,oT.2.1,oT.2.2.1,λp hp=>oT.2.2.2 p (uY _ hp)⟩,nT⟩) (λ_ _=>rfl)
   (J.hok.kp (fs:=[]) f2 (λb hb=>by rw [show b=T by simpa using hb];exact nT) λb z=>absurd z (by simp))) f1
 obtain⟨sl5,vs5,oT5,ts5,he5,hv5,_⟩:=id F5;unfold PySem.passOn;refine ua (uM he5 rfl hv5 ?_);rw [ub (show ¬ (Value.ref T == Value.none)=true by simp)];refine ua (tail h5 I5 F5 _ _ _ λh6 I6 F6=>wpAny_throw ?_);refine JM hf F6 ?_;obtain⟨sl6,vs6,oT6,ts6,he6,hv6,_⟩:=id F6;unfold cameBackBy;refine ua (uM he6 rfl hv6 ?_);rw [ub (show ¬ (Value.ref T == Value.none)=true by simp)];refine tail h6 I6 F6 _ _ _ λh7 I7 F7=>hx _ _ ⟨x,c,d,H',[],_,rfl,I7,hx0,hHx,λq hq=>hpn q (uY _ hq),.inr ⟨T,_,F7,.inr ⟨_,hf,rfl⟩,oT.1,nT,λq hq=>oT.2.2.2 q (uY _ hq)⟩,hE⟩
theorem E4 {th:Addr->TS}{xe':Lp->Addr->Value->Shared->Prop}{pins:Lp}{s:Shared}{σ:St}{H:Hp}{D:Ends}{Ex:XS}(hm:X.mg x=some (.ref Dc))(cD:lC X.K Dc)(hN:X.N.Nodup)(hi:X.N[i]? = some n)(hl:X.env.scope.names.lookup n=some .local)(hst:X.stack=X.env::X.outer)(hf:X.env.frame=some X.env.locals) (hb:∀ (E:XS) (pn:Lp) (xe:fV),PassesOwn (model X.prog X.w) X.A X.env xe->nj (X.tryIn pn xe) E->lS (X.tryIn pn xe) body (tb E)) (hh:∀ pn ea,lS (X.exInG pn ea (xe' pn ea)) (b₀::suite) (th ea)) (hxe:∀ ea e s3,xe' (X.pn++pins) ea e s3->t7 X ea n hpos e s3) (hg:Gl X x) (hdb:(x == ("__debug__":Str))=false) (I:Inv X pins σ H s) (h:tb Ex D σ H) (hE:∀ c d σ' H',Ex c d σ' H'->∃ C,c=.ref C/\lC X.K C/\mroIn X.K C (.ref Dc)=some true/\∀ ea H2,fX H' H2->yR H2 ea C d->(One H' d->sx H2 ea)->th ea (AS D) (σ'.set i (some (.ref ea))) H2) : fW X (exec (.Try body [.ExceptHandler (some (.Name x np)) (some n) (b₀::suite) hpos] [] [] pos) X.env) (SP X pins D) X.xe s:=by
 refine wpAny_Try_except ?_
 refine um (hb _ (X.pn++pins) (λe s₁=>fW X (noteFrame e X.env) (λ_ s₂=>fW X (setFlight e none) (λ_ s₃=>
  fW X (handleBy e X.env [.ExceptHandler (some (.Name x np)) (some n) (b₀::suite) hpos]) (SP X pins D) X.xe s₃) X.xe s₂) X.xe s₁) PassesOwn.looking ?_ [] s σ H D (I.tryIn _) h) (λf s1 q=>?_) λe s1 z=>z
 ·intro e s' hF;obtain⟨ea,c,d,H',pins',σ',rfl,I1',hea,hHe,hpn,hv,hEx⟩:=hF;obtain⟨C,rfl,cC,hmr,hth⟩:=hE _ _ _ _ hEx;have I1:Inv (X.tryIn (X.pn++pins) _) [] σ' H' s':=I1'.pins_of λp hp=>absurd hp (by simp);clear I1';have hfr:X.A.frames=some (X.env::X.outer):=by rw [← hst];exact I.ok.frames
  have hlf:s'.heap.FunFrames X.base (X.env::X.outer):=by rw [← hst];exact I1.stack
  have hfree:∀ b∈lY (X.env::X.outer),H' b=none:=by rw [← hst];exact I1.stkFree
  have go:∀ (h2:Heap) (T:Addr) (ch:Le),(s'.heap.objs.size<=T\/True)->mE (One H' d) h2 ea T (.ref C) d .none->Kp ch (lY (X.env::X.outer)) s'.heap h2->ea∈ch->T∈ch->(∀ b∈ch,pX (X.tryIn (X.pn++pins) λ_ _=>True) b/\H' b=none) ->
    fW X (handleBy (.ref ea) X.env [.ExceptHandler (some (.Name x np)) (some n) (b₀::suite) hpos]) (SP X pins D) X.xe { s' with heap:=h2 }:=by
   intro h2 T ch g1 g2 g3 m1 m2 g4
   have I2:Inv (X.tryIn (X.pn++pins) _) [] σ' H' { s' with heap:=h2 }:=I1.kp (by rw [hst];exact g3) (λb hb=>⟨(g4 b hb).1,(g4 b hb).2⟩) (λ_ _=>rfl) (I1.hok.kp g3 (λb hb=>(g4 b hb).2) hfree)
   have I3:=I2.toEx (xe':=xe' (X.pn++pins) ea) I.ok ea
   obtain⟨sl,vs,oT,ts,he,hv1,tn,hT,hd,h3,_⟩:=id g2
   refine wpAny_handleBy_cons (codeAny_handlers_test (wW (X:=X.exInG (X.pn++pins) ea (xe' (X.pn++pins) ea)) I3 hg hm ?_ hdb)) (by intro q;cases q)
   refine Sy (s:={ s' with heap:=h2 }) I3.kIn he rfl cC cD hmr ?_
   refine codeAny_handlers_suite_as ?_
   refine wF (s:={ s' with heap:=h2 }) g2 λh4 f1 f2 f3=>?_
   obtain⟨sl4,vs4,oT4,ts4,he4,_,_,_,_,_,hp4⟩:=id f1
   have I4:Inv (X.exInG (X.pn++pins) ea (xe' (X.pn++pins) ea)) [] σ' (upd H' ea (.frz ⟨.ref C,d,.fields vs4,sl4⟩ (.own ea))) { s' with heap:=h4 }:=by
    have k:Kp [ea,T] (lY X.stack) h2 h4:=f2.mono (λb hb=>uN _ hb) (λb hb=>absurd hb (by simp))
    refine Inv.kp (s:={ s' with heap:=h2 }) I3 k (λb hb=>?_) (λb hb=>?_) λb o z=>?_
    ·have:b∈ch:=by
      rcases uq.mp hb with z | z
      ·rw [z];exact m1
      ·rw [show b=T by simpa using z];exact m2
     exact⟨(g4 b this).1,(g4 b this).2⟩
    ·exact zk λz=>hb (by simp [z])
    ·by_cases hb:b=ea
     ·subst hb
      rw [zb] at z
      cases z
      exact⟨he4,⟨_,he4⟩⟩
     ·rw [zk hb] at z
      have nT:∀ c u,H' c=some u->c∉[T]:=λc u q y=>by
       rw [show c=T by simpa using y,(g4 T m2).2] at q;cases q
      have ne:∀ c u,H' c=some u->c≠ea:=λc u q y=>by rw [y,hHe] at q;cases q
      refine(I2.hok b o z).stay (λc u hc q=>?_) (λc q=>by rw [zk (ne c _ q)];exact q) λc xs q=>by rw [zk (ne c _ q)];exact q
      rcases hc with rfl | hc
      ·exact f2.keep _ u (nT _ _ z) (by simp) q
      ·exact f2.keep _ u (nT _ _ hc) (by simp) q
   refine W8 (X:=X.exInG (X.pn++pins) ea (xe' (X.pn++pins) ea)) I4 hN hi (.inl hl) (v:=.ref ea) rfl (λs5 I5=>?_) (.inr hl)
   have hsm:fX H' (upd H' ea (.frz ⟨.ref C,d,.fields vs4,sl4⟩ (.own ea))):=λb o q=>by rw [zk λy=>by rw [y,hHe] at q;cases q];exact q
   refine um (hh (X.pn++pins) ea [] s5 _ _ _ I5 (hth ea _ hsm ⟨_,zb,rfl,rfl,_,rfl⟩ λz=>⟨_,_,zb,rfl,hp4 z⟩)) (λf s6 q=>?_) λe s6 z=>hxe ea e s6 z
   have gone:∀ σ6 H6,Inv (X.exInG (X.pn++pins) ea (xe' (X.pn++pins) ea)) [] σ6 H6 s6->(∀ s7,Inv X pins (σ6.map λ_=>none) H6 s7->SP X pins D f s7)->fW X (do bindName X.env n .none;unbindBehindTheSuite X.env n hpos) (λ_ s7=>SP X pins D f s7) X.xe s6:=by
    intro σ6 H6 J k
    obtain⟨m,hn,_⟩:=J.loc
    exact wpAny_nameGoes hl hn (by rw [J.ok.kind];rfl) λh' m' z1 z2=>k _ ((J.unEx I.ok).lost z1 z2)
   cases f with
   | next=>obtain⟨σ6,H6,J,q⟩:=q;exact gone σ6 H6 J λs7 J'=>⟨_,H6,J',q⟩
   | brk=>obtain⟨σ6,H6,J,q⟩:=q;exact gone σ6 H6 J λs7 J'=>⟨_,H6,J',q⟩
   | cont=>obtain⟨σ6,H6,J,q⟩:=q;exact gone σ6 H6 J λs7 J'=>⟨_,H6,J',q⟩
   | ret u=>obtain⟨v,σ6,H6,J,r,q⟩:=q;exact gone σ6 H6 J λs7 J'=>⟨v,_,H6,J',r,q⟩
  rcases hv with⟨sl,vs,he,h1,hp⟩ | ⟨T0,fl,hF,hfl,hT,hHT,hpT⟩
  ·refine Qq hfr hlf hf he h1 hp λh1' T g1 g2 g3=>wF (s:={ s' with heap:=h1' }) g2 λh2 f1 f2 f3=>?_;refine go h2 T ([ea]++[T]) (.inr trivial) f1 (g3.trans (f2.mono (λ_ z=>z) λb z=>absurd z (by simp))) (by simp) (by simp) λb hb=>?_;rcases u6.mp hb with z | z
   ·rw [show b=ea by simpa using z];exact⟨kC I1 he rfl hea hpn,hHe⟩
   ·rw [show b=T by simpa using z];exact⟨Xk I1 g1,I1.hok.fresh g1⟩
  ·obtain⟨sl,vs,oT,ts,he,hv1,tn,hTT,hd,h3,_⟩:=id hF;rcases hfl with hfl | ⟨L,hL,rfl⟩;rotate_left
   ·refine JM (by exact hL) hF (wF hF λh2 f1 f2 f3=>go h2 T0 [T0,ea] (.inr trivial) f1 (f2.mono (λb z=>by rw [show b=T0 by simpa using z];exact .head _) λb z=>absurd z (by simp)) (by simp) (by simp) λb hb=>?_);rcases uq.mp hb with z | z
    ·rw [z];exact⟨kC I1 hTT hd hT hpT,hHT⟩
    ·rw [show b=ea by simpa using z];exact⟨kC I1 he rfl hea hpn,hHe⟩
   subst hfl;refine VA hfr hlf hf hF λh1' T g1 g2 g3=>wF (s:={ s' with heap:=h1' }) g2 λh2 f1 f2 f3=>?_;refine go h2 T ([T0,ea]++[T]) (.inr trivial) f1 (g3.trans (f2.mono (λ_ z=>z) λb z=>absurd z (by simp))) (by simp) (by simp) λb hb=>?_;rcases u6.mp hb with z | z
   ·rcases uq.mp z with z | z
    ·rw [z];exact⟨kC I1 hTT hd hT hpT,hHT⟩
    ·rw [show b=ea by simpa using z];exact⟨kC I1 he rfl hea hpn,hHe⟩
   ·rw [show b=T by simpa using z];exact⟨Xk I1 g1,I1.hok.fresh g1⟩
 ·cases f with
  | next=>obtain⟨σ',H',I',q⟩:=q;exact UP ⟨σ',H',I'.untry I.ok,q⟩
  | brk=>obtain⟨σ',H',I',q⟩:=q;exact⟨σ',H',I'.untry I.ok,q⟩
  | cont=>obtain⟨σ',H',I',q⟩:=q;exact⟨σ',H',I'.untry I.ok,q⟩
  | ret u=>obtain⟨v,σ',H',I',r,q⟩:=q;exact⟨v,σ',H',I'.untry I.ok,r,q⟩
theorem LI (hm:X.mg x=some (.ref Dc))(cD:lC X.K Dc)(hN:X.N.Nodup)(hi:X.N[i]? = some n)(hl:X.env.scope.names.lookup n=some .local)(hst:X.stack=X.env::X.outer)(hf:X.env.frame=some X.env.locals)
  (hb:∀ (E:XS) (pn:Lp) (xe:fV),PassesOwn (model X.prog X.w) X.A X.env xe->nj (X.tryIn pn xe) E->lS (X.tryIn pn xe) body (tb E))
  (hh:∀ pn ea,lS (X.exIn pn ea) (b₀::suite) th) (hg:Gl X x:=by rfl) (hdb:(x == ("__debug__":Str))=false:=by decide) :
  PS X (.Try body [.ExceptHandler (some (.Name x np)) (some n) (b₀::suite) hpos] [] [] pos) (rD X.K Dc i tb th):=λpins s σ H D I h=>
 E4 (th:=λ_=>th) (xe':=λ_ _ _ _=>False) hm cD hN hi hl hst hf hb hh (λ_ _ _ z=>z.elim) hg hdb I h λ_ _ _ _ ⟨C,e,a,b,k⟩=>⟨C,e,a,b,λea H2 z1 z2 _=>k ea H2 z1 z2⟩
theorem NI {th:Addr->TS}{E:XS}(hx:nj X E)(hm:X.mg x=some (.ref Dc))(cD:lC X.K Dc)(hN:X.N.Nodup)(hi:X.N[i]? = some n)(hl:X.env.scope.names.lookup n=some .local)(hst:X.stack=X.env::X.outer)(hf:X.env.frame=some X.env.locals)
  (hb:∀ (E:XS) (pn:Lp) (xe:fV),PassesOwn (model X.prog X.w) X.A X.env xe->nj (X.tryIn pn xe) E->lS (X.tryIn pn xe) body (tb E))
  (hh:∀ pn ea,lS (X.exInG pn ea (rA (X.exIn pn ea) λc d σ H=>E c d (σ.map λ_=>none) H)) (b₀::suite) (th ea)) (hg:Gl X x:=by rfl) (hdb:(x == ("__debug__":Str))=false:=by decide) :
  PS X (.Try body [.ExceptHandler (some (.Name x np)) (some n) (b₀::suite) hpos] [] [] pos) (Bj X.K Dc i tb th):=λpins s σ H D I h=>
 E4 hm cD hN hi hl hst hf hb hh (λea e s3 z=>Sv I.ok hl hst hf hx z) hg hdb I h λ_ _ _ _ ⟨C,e,a,b,o,k⟩=>⟨C,e,a,b,λea H2 z1 z2 z3=>k ea H2 z1 z2 (z3 o)⟩
end
structure Got (K:Frag)(H:Hp)(a C:Addr)(fs:List (Str×V)):Prop where
 cl:lC K C
 ex:∃ d,yR H a C (some d)/\H d=some (.xd fs)
theorem yR.mono (c:yR H a C d)(s:fX H H'):yR H' a C d:=by obtain⟨o,e,r⟩:=c;exact⟨o,s _ _ e,r⟩
theorem Got.mono {K:Frag}{H H':Hp}{a C:Addr}{fs:List (Str×V)}(g:Got K H a C fs)(s:fX H H'):Got K H' a C fs:=by obtain⟨d,c,e⟩:=g.ex;exact⟨g.cl,d,c.mono s,s _ _ e⟩
section
variable {X:Cx} {pins:Lp} {σ:St} {H:Hp} {s:Shared} {a C:Addr} {fs:List (Str×V)}
theorem Xl (I:Inv X pins σ H s)(g:Got X.K H a C fs):∃ (ox od:Obj) (mA:La),InstAt s.heap a ox C (some od)/\(∀ f,lookIn f od=some (mA f))/\∀ f,iZ (fs.lookup f) (mA f):=by
 obtain⟨d,⟨o,e,h1,h2,vs,h3⟩,ed⟩:=g.ex;obtain⟨e',_⟩:=(show qC X.prog X.w H s.heap a (.frz o (.own a)) from I.hok a _ e)
 obtain⟨mA,n,r⟩:=(show qC X.prog X.w H s.heap d (.xd fs) from I.hok d _ ed)
 obtain⟨od,ho,hl⟩:=Vq n;obtain⟨oc,odi,oda,osl⟩:=o;dsimp only at h1 h2 h3;subst h1 h2 h3;exact⟨_,od,mA,⟨e',rfl,rfl,ho⟩,hl,r⟩
def Ap:V->Bool | .ref _=>true | .ty _=>true | _=>false
def pT:V->Value | .ref a=>.ref a | .ty n=>.type n | _=>.none
theorem E3 (h:Ap v=true)(r:RelV v u):u=pT v:=by cases v<;>first | exact r | cases h
theorem Ku:∀ {vs:List V} {us:Lg},vs.all Ap=true->Vals vs us->us=vs.map pT
 | _,_,_,.nil=>rfl
 | _,_,h,.cons r t=>by simp only [GB,uJ] at h;rw [uz,← E3 h.1 r,← Ku h.2 t]
def rO (K:Frag):List V->Hp->VK->Prop:=λxs H Q=>∃ a c C fs b,xs=[.ref a,c]/\Got K H a C fs/\Ap c=true/\kitOne K (.ref C) (pT c)=some b/\Q (.bl b) H
def Bi (K:Frag):List V->Hp->VK->Prop:=λxs H Q=>∃ a p C fs ys b,xs=[.ref a,.ref p]/\H p=some (.tup ys)/\Got K H a C fs/\ys.all Ap=true/\kitAny K (.ref C) (ys.map pT)=some b/\Q (.bl b) H
theorem PV:jx X (.builtin "isinstance") (rO X.K):=by intro pins s σ H xs us Q I r h;obtain⟨a,c,C,fs,b,rfl,g,hc,e,q⟩:=h;obtain⟨u1,u2,rfl,r1,r2⟩:=vals2 r;obtain rfl:u1=Value.ref a:=r1;obtain rfl:=E3 hc r2;obtain⟨ox,od,mA,J,_⟩:=Xl I g;exact Ud (E7 g.cl) I.kIn J e (λz=>nomatch z) λtk=>⟨.bl b,H,I.tok _,rfl,q⟩
theorem Te:jx X (.builtin "isinstance") (Bi X.K):=by
 intro pins s σ H xs us Q I r h;obtain⟨a,p,C,fs,ys,b,rfl,ep,g,hc,e,q⟩:=h;obtain⟨u1,u2,rfl,r1,r2⟩:=vals2 r;obtain rfl:u1=Value.ref a:=r1;obtain rfl:u2=Value.ref p:=r2;obtain⟨ox,od,mA,J,_⟩:=Xl I g;obtain⟨_,ij,rv,o,ho,hoc,n,hod⟩:=(show qC X.prog X.w H s.heap p (.tup ys) from I.hok p _ ep)
 obtain rfl:=Ku hc rv;obtain⟨oc,odi,oda,osl⟩:=o;dsimp only at hoc hod;subst hoc hod;exact kia_tup (E7 g.cl) I.kIn J ho e (λz=>nomatch z) λtk=>⟨.bl b,H,I.tok _,rfl,q⟩
theorem vO {K:Frag}(hK:X.K=K):jx X (.builtin "isinstance") (rO K):=by subst hK;exact PV
theorem kD {K:Frag}(hK:X.K=K):jx X (.builtin "isinstance") (Bi K):=by subst hK;exact Te
def rH (K:Frag)(te:TE)(f:Str):TE:=λσ H Q=>te σ H λx H1=>∃ a C fs v,x=.ref a/\Got K H1 a C fs/\findIn K (.ref C) f=some none/\fs.lookup f=some v/\Q v H1
theorem LH {K:Frag}{e:Expr}{te:TE}{f:Str}{pos:Pos}(hK:X.K=K)(he:PE X e te)(hb:attributeBase e f X.env (eval e X.env)=eval e X.env:=by rfl):PE X (.Attribute e f pos) (rH K te f):=by subst hK;intro pins s σ H Q I h;refine EJ hb (iB (he pins s σ H _ I h) λu s1 zq=>?_);obtain⟨x,H1,I1,rx,a,C,fs,v,ex,g,n,l,q⟩:=zq;subst ex;obtain rfl:u=Value.ref a:=rx;obtain⟨ox,od,mA,J,hl,hr⟩:=Xl I1 g;obtain⟨u,hu,ru⟩:=iZ.some_of (v:=v) (o:=mA f) (by rw [← l];exact hr f);exact NK I1.kIn J g.cl (findObj_own g.cl.hd n rfl (by rw [hl,hu])) (Vr ru) ⟨v,H1,I1.tok _,ru,q⟩
end
section
variable {X:Cx}
end
section
variable {X:Cx} {k j:Nat} {x:Str} {ps:Lj} {sp:Sp} {p pos:Pos} {e:Expr} {es:Lh} {t:TA} {a:Addr}
theorem Kv:Passes (nz P w) X E0:=λ_ _ _ _ _ _ _ h=>by obtain⟨_,_,_,_,_,_,_,_,_,_,_,_,_,_,_,z⟩:=h;exact z.elim
theorem PU (F:n9 X.prog X.w X.K X.mg X.base k x ps sp)(hr:ix j X.A)(hk:k<=j)(ha:PA X (e::es) t)(hg:Gl X x:=by rfl) (hdb:(x == ("__debug__":Str))=false:=by decide) (he:SE X e es:=by rfl) (hpl:(backTo pos (starEach es X.env)).any (·.1)=false:=by rfl):PE X (.Call (.Name x p) (e::es) [] pos) (yp sp [] E0 t):=by obtain⟨f,fd,kp,b,m,G⟩:=F.ex;exact EI G (hr.mono hk) hg m kp b .nil Kv ha hdb he hpl
theorem LG (h:X.mg x=some (.ref a))(hg:Gl X x:=by rfl) (hd:(x == ("__debug__":Str))=false:=by decide):PE X (.Name x pos) (tC (.ref a)):=EO hg h rfl hd
end
theorem X9:bootBuiltins "ValueError" = some (.type "ValueError"):=by decide +kernel
structure oh (K:Frag)(C:Addr)(qual:Str)(st:Stmt)(ps:Lj):Prop where
 ex:∃ (fI:Addr) (fd:FuncData) (oI:Obj),Wz K C=some (some (.ref fI))/\K.lookup fI=some oI/\oI.cls=.type "function"/\oQ K "__init__" qual st fI fd/\Binds K fd ps []
theorem LF {K:Frag}{C:Addr}{qual:Str}{st:Stmt}{ps:Lj}{f:Addr}{od an:Option Addr}{osl:Array (Option Value)}{kV doc pm cdv ct:Value} (b:∀ (kV doc pm:Value) (an:Option Addr) (cdv ct:Value) (us:Lg),us.length=ps.length->bindArgs (fnOf "__init__" qual (jb st) (zW st) (zf st) .none kV doc pm an cdv ct) ⟨us,[]⟩=pure (ps.zip us)) (a:Wz K C=some (some (.ref f))) (l:K.lookup f=some ⟨.type "function",od,.func (fnOf "__init__" qual (jb st) (zW st) (zf st) .none kV doc pm an cdv ct),osl⟩) (c:codeIn K cdv qual=true) (k:keepIn K (.ref f)=true):oh K C qual st ps:= ⟨f,_,_,a,l,rfl,Zw l c k,(Zw l c k).binds b⟩
end L2
namespace L2
open PySem PySem.Spec PySem.Calls PyProof.Rows PySem.W
section
variable {X:Cx}
def sd (xs ys:List V):Bool:=(List.range (min xs.length ys.length)).all (λj=>nE (xs.getD j .non) (ys.getD j .non))&&xs.length == ys.length
def rQ (K:Lf):R2:=λx y H Q=>∃ a b xs ys,x=.ref a/\y=.ref b/\((iA K H a xs/\iA K H b ys)\/(ir K H a xs/\ir K H b ys))/\xs.all zN=true/\ys.all zN=true/\Q (.bl (sd xs ys)) H
theorem DM {xs ys:List V}{us vs:Lg}(r1:Vals xs us)(r2:Vals ys vs)(f1:xs.all zN=true)(f2:ys.all zN=true) : ∀ j (h1:j<us.toArray.size) (h2:j<vs.toArray.size),SeqAt.EqAt A s us.toArray[j] vs.toArray[j] (nE (xs.getD j .non) (ys.getD j .non)):=by intro j h1 h2;rw [uh] at h1 h2;have l1:=r1.length;have l2:=r2.length;have e1:xs[j]? = some xs[j]:=uy (by lia);have e2:ys[j]? = some ys[j]:=uy (by lia);obtain⟨u,hu,ru⟩:=r1.get e1;obtain⟨v,hv,rv⟩:=r2.get e2;rw [uy h1] at hu;rw [uy h2] at hv;rw [List.getElem_toArray,List.getElem_toArray,uH hu,uH hv,hX,hX,e1,e2];exact BC ru rv (gP.mp f1 _ (Ui _)) (gP.mp f2 _ (Ui _))
theorem LD (hu:X.A.units<cLine):iY X (compareOp .Eq) (rQ X.K):=by
 intro pins s σ H x y v u Q I rx ry h;obtain⟨a,b,xs,ys,rfl,rfl,hq,f1,f2,q⟩:=h;cases rx;cases ry;rcases hq with⟨ha,hb⟩ | ⟨ha,hb⟩
 ·obtain⟨ij,r1,p1,_⟩:=I.list ha;obtain⟨its2,r2,p2,_⟩:=I.list hb;have l1:=r1.length;have l2:=r2.length;by_cases hl:xs.length=ys.length
  ·refine SeqAt.eq_listAt p1.isList p2.isList (by simp;lia) hu (DM r1 r2 f1 f2) ⟨.bl _,H,I,rfl,?_⟩;have:sd xs ys=(List.range ij.toArray.size).all (λj=>nE (xs.getD j .non) (ys.getD j .non)):=by unfold sd;rw [uh,← l1,hl,Nat.min_self];simp
   rw [← this];exact q
  ·refine SeqAt.eq_list_lengthsAt p1.isList p2.isList (by simp;lia) hu ⟨.bl _,H,I,rfl,?_⟩;have:sd xs ys=false:=by unfold sd;rw [show(xs.length == ys.length)=false by simp [hl],U5]
   rw [← this];exact q
 ·obtain⟨ij,r1,p1,_⟩:=I.tuple ha;obtain⟨its2,r2,p2,_⟩:=I.tuple hb;have l1:=r1.length;have l2:=r2.length;refine SeqAt.eq_tupleAt p1 p2 hu (DM r1 r2 f1 f2) ⟨.bl _,H,I,rfl,?_⟩;rw [uh,uh,← l1,← l2];exact q
theorem NH {K:Frag}(hK:X.K=K)(hu:X.A.units<cLine):iY X (compareOp .Eq) (rQ K):=by subst hK;exact LD hu
theorem HC {A:Around}(hr:ix k A):A.units<cLine:=Nat.lt_of_succ_lt (Vw hr)
end
end L2
namespace L2
open PySem PySem.W
end L2
namespace L2
open PySem PySem.Spec PySem.Calls PyProof.Rows PySem.W
section
variable {X:Cx} {pins:Lp} {σ:St} {H:Hp} {s:Shared} {h':Heap}
theorem Inv.turned2 (I:Inv X pins σ H s)(k:∀ b o,b≠e->b≠it->s.heap.get? b=some o->h'.get? b=some o)(fe:lT X pins H e)(fi:lT X pins H it) : Inv X pins σ H { s with heap:=h',toks:=t' }:=by
 obtain⟨e0,e1,_,e3,e4,e5⟩:=fe;obtain⟨i0,i1,_,i3,i4,i5⟩:=fi;have hk:∀ b o,b∉[e,it]->s.heap.get? b=some o->h'.get? b=some o:=λb o hb q=>k b o (λz=>hb (by simp [z])) (λz=>hb (by simp [z])) q
 have nn:∀ b u,H b=some u->b∉[e,it]:=λb u q z=>by
  rcases uq.mp z with z | z
  ·rw [z,e0] at q;cases q
  ·rw [uD.mp z,i0] at q;cases q
 refine I.step (g':=s.gens) (d':=s.drawn) (ch:=[e,it]) ?_ (λb o _ _ hc q _=>hk b o hc q) (λb o _ _ hc q _=>⟨o.slots,hk b o hc q⟩) (λ_ _ _ _ n=>n) (λb o hc q=>⟨o,hk b o hc q⟩)
  (λ_ _ q=>q) (λ_ _ _ q=>q) (λb ps q=>⟨#[],by rw [q];simp⟩) ?_ ?_ I.bare
 ·intro b hb;rcases uq.mp hb with z | z
  ·rw [z];exact⟨e3,e1,e4,e5⟩
  ·rw [uD.mp z];exact⟨i3,i1,i4,i5⟩
 ·intro m hm;obtain⟨o,es,ep,ho,r⟩:=hm;exact⟨o,es,ep,k _ o (Ne.symm e1) (Ne.symm i1) ho,r⟩
 ·intro b u q;refine(I.hok b u q).stay (λc v hc z=>hk c v ?_ z) (λ_ z=>z) λ_ _ z=>z;rcases hc with z' | z'
  ·rw [z'];exact nn b u q
  ·exact nn c _ z'
end
def AD (go:Nat->Hp->Prop)(yv:Nat->Hp->V->Prop)(stop:Nat->Hp->Prop):It:=⟨go,λi H x H'=>∃ p v,H p=none/\yv i H v/\x=.ref p/\H' = upd H p (.tup [.int i,v]),stop⟩
theorem Td {P:Program}{w:World}{K:Lf}{elts:Lh}{ek:Nat}{epos:Pos}{e it:Addr}{go:Nat->Hp->Prop}{yv:Nat->Hp->V->Prop}{stop:Nat->Hp->Prop}{tn:Nat->Heap->Prop}(hne:e≠it)
  (hobj:∀ i h,tn i h->∃ o,h.get? it=some o/\∀ v,o.data≠.cell v)
  (hkeep:∀ i h h',tn i h->(∀ o,h.get? it=some o->h'.get? it=some o)->tn i h')
  (hitem:∀ (X:Cx),X.prog=P->X.w=w->X.K=K->X.calm=true->∀ (i:Nat) (pins:Lp) (s:Shared) (σ:St) (H:Hp),Inv X pins σ H s->tn i s.heap->go i H->(∃ old,IsEnum s.heap e it i old) ->
   ∃ fp n Pd St,Draws P w X.A.in1 it fp n Pd St/\St i s.heap/\i<n/\e∉fp/\(∀ h,St (i+1) h->tn (i+1) h)/\∀ x,Pd i x->∃ v,RelV v x/\yv i H v)
  (hdone:∀ (X:Cx),X.prog=P->X.w=w->X.K=K->X.calm=true->∀ (i:Nat) (pins:Lp) (s:Shared) (σ:St) (H:Hp),Inv X pins σ H s->tn i s.heap->stop i H ->
   ∃ fp n Pd St,Draws P w X.A.in1 it fp n Pd St/\St n s.heap) :
  Turn P w K (.Tuple elts ek epos) (AD go yv stop) [e,it] e (λi h=>(∃ old,IsEnum h e it i old)/\tn i h) where
 mem:=by simp
 obj:=λi h st b hb=>by
  rcases uq.mp hb with z | z
  ·obtain⟨⟨old,q⟩,_⟩:=st
   rw [z]
   exact⟨_,q,λv z=>nomatch z⟩
  ·rw [uD.mp z]
   exact hobj i h st.2
 keep:=λi h h' st k=>by
  obtain⟨⟨old,q⟩,st⟩:=st
  exact⟨⟨old,k e (by simp) _ q⟩,hkeep i h h' st (k it (by simp))⟩
 item:=by
  intro X hP hw hK hc i pins s σ H E I hf st hg
  obtain⟨⟨old,q⟩,st⟩:=st
  obtain⟨fp,n,Pd,St,D,hs,hlt,hef,hst,hv⟩:=hitem X hP hw hK hc i pins s σ H I st hg ⟨old,q⟩
  refine wpAny_pyNext_enum_itemD D q hs hlt hne hef λx h1 tk hx ho hs1 hT hsz hk=>⟨_,rfl,?_⟩
  obtain⟨v,rv,yv'⟩:=hv x hx
  have helt:e<s.heap.objs.size:=ug q
  refine wpAny_letOwnedTupleGo_enum ho λh2 he2 hs2=>?_
  have hTe:s.heap.objs.size≠e:=GJ helt
  have hT2:h2.get? s.heap.objs.size=some { cls:=.type "tuple",data:=.seq #[.int i tk,x] }:=(hs2.2 _ hTe).trans hT
  have fe:=hf e (by simp)
  have fi:=hf it (by simp)
  have fresh:H s.heap.objs.size=none:=I.hok.fresh (ui _)
  have hit:s.heap.objs.size≠it:=by
   obtain⟨o,z⟩:=D.live _ _ hs
   exact GJ (ug z)
  have I0:=I.laid (t':=s.toks) (a:=s.heap.objs.size) (o:=.tup [.int i,v]) (h':=s.heap.push { cls:=.type "tuple",data:=.seq #[.int i tk,x] }) (λb o z=>uf _ z) (ui _) (by
   refine⟨by show 2<=sizeLine;decide,[.int i tk,x],.cons ⟨tk,rfl⟩ (.cons rv .nil),?_⟩
   exact⟨_,uA _ rfl,rfl,_,rfl⟩)
  have fe0:lT X pins (upd H s.heap.objs.size (.tup [.int i,v])) e:=⟨by rw [zk (Ne.symm hTe)];exact fe.1,fe.2⟩
  have fi0:lT X pins (upd H s.heap.objs.size (.tup [.int i,v])) it:=⟨by rw [zk (Ne.symm hit)];exact fi.1,fi.2⟩
  have I2:=I0.turned2 (h':=h2) (t':=tk+1) (e:=e) (it:=it) (λb o hbe hbi z=>by
   by_cases hb:b=s.heap.objs.size
   ·rw [hb] at z ⊢
    have z':some ({ cls:=.type "tuple",data:=.seq #[.int i tk,x] }:Obj)=some o:=(uA _ rfl).symm.trans z
    rw [hT2];exact z'
   ·have z':s.heap.get? b=some o:=by
     have z2:=z
     rw [Heap.get?_push_ne _ _ _ hb] at z2
     exact z2
    exact(hs2.2 b hbe).trans (hk b o hbe hbi z')) fe0 fi0
  refine⟨.ref s.heap.objs.size,upd H s.heap.objs.size (.tup [.int i,v]),I2,rfl,⟨_,v,fresh,yv',rfl,rfl⟩,⟨⟨_,he2⟩,?_⟩,λb hb=>?_⟩
  ·refine hkeep _ _ _ (hst h1 hs1) λo z=>(hs2.2 it (Ne.symm hne)).trans z
  ·rcases uq.mp hb with z | z
   ·rw [z];exact fe0.1
   ·rw [uD.mp z];exact fi0.1
 done:=by
  intro X hP hw hK hc i pins s σ H E I hf st hg
  obtain⟨⟨old,q⟩,st⟩:=st
  obtain⟨fp,n,Pd,St,D,hs⟩:=hdone X hP hw hK hc i pins s σ H I st hg
  have fi:=hf it (by simp)
  refine wpAny_pyNext_enum_endD D q hs λh1 hx=>⟨rfl,I.turned (t':=s.toks) (λb o hb z=>hx b o hb z) fi.1 fi.2.1 fi.2.2.2.1 fi.2.2.2.2.1 fi.2.2.2.2.2⟩
 self:=λA i s Q E st h=>by
  obtain⟨⟨old,q⟩,_⟩:=st
  exact Hl q h
section
variable {X:Cx}
def CN (x:Str):Nat->Hp->Prop:=λi _=>i<x.cps.size
def BJ (x:Str):Nat->Hp->V->Prop:=λi _ v=>∃ c,x.cps[i]? = some c/\v=.str ⟨#[c]⟩
def Cd (x:Str):Nat->Hp->Prop:=λi _=>x.cps.size<=i
theorem za8 {P:Program}{w:World}{K:Lf}{elts:Lh}{ek:Nat}{epos:Pos}{e it:Addr}(hne:e≠it)(x:Str)(t:Tok) : Turn P w K (.Tuple elts ek epos) (AD (CN x) (BJ x) (Cd x)) [e,it] e (λi h=>(∃ old,IsEnum h e it i old)/\(h.IsStrIter it (strIterType x) x t i/\i<=x.cps.size)):=by
 have dr:∀ A:Around,A.handled=none->Draws P w A it [it] x.cps.size (λi v=>∃ c u,x.cps[i]? = some c/\v=.str ⟨#[c]⟩ u) (λi h=>h.IsStrIter it (strIterType x) x t i):=λA hA=>by
  unfold strIterType;cases ha:x.cps.all (· < 128)
  ·exact Draws.strWide hA it x t
  ·exact Draws.strAscii hA it x t
 refine Td hne ?_ ?_ ?_ ?_
 ·intro i h st;obtain⟨o,ho,_,hd⟩:=st.1;exact⟨o,ho,λv z=>by rw [hd] at z;cases z⟩
 ·intro i h h' st k;obtain⟨⟨o,ho,r⟩,hl⟩:=st;exact⟨⟨o,k o ho,r⟩,hl⟩
 ·intro X hP hw hK hc i pins s σ H I st hg he;refine⟨[it],_,_,_,dr X.A.in1 (I.ok.hd hc),st.1,hg,by simp [hne],λh z=>⟨z,hg⟩,λv hv=>?_⟩;obtain⟨c,u,hcu,rfl⟩:=hv;exact⟨.str ⟨#[c]⟩,⟨u,rfl⟩,c,hcu,rfl⟩
 ·intro X hP hw hK hc i pins s σ H I st hg;have hi:i=x.cps.size:=Nat.le_antisymm st.2 hg;subst hi;exact⟨[it],_,_,_,dr X.A.in1 (I.ok.hd hc),st.1⟩
def V8 (ta:TA):TI:=λσ H R=>ta σ H λvs H1=>∃ z,vs=[.str z]/\R (AD (CN z) (BJ z) (Cd z)) H1
theorem PR {a:Expr}{ta:TA}{p pos:Pos}{elts:Lh}{ek:Nat}{epos:Pos}(hg:Gl X "enumerate")(hm:X.mg "enumerate" = none)(ha:PA X [a] ta)(hs:starEach [a] X.env=[(false,eval a X.env)]:=by rfl) : PI X (.Tuple elts ek epos) (.Call (.Name "enumerate" p) [a] [] pos) (V8 ta):=by
 intro pins s σ H R I h;refine Call_ (W9 I hg hm boot_enumerate (PyProof.Rows.callWith_type1 (iB (ha pos pins s σ H _ I h) λus s1 zq=>?_) hs rfl));obtain⟨vs,H1,I1,r1,q1⟩:=zq;obtain⟨z,e,q⟩:=q1;subst e;obtain⟨u,rfl,t,rfl⟩:=r1.one;refine call_enumerate_str λh' he hit hsz hk=>Hl he ?_;have hlt:s1.heap.objs.size<=s1.heap.objs.size+1:=UA _;refine⟨s1.heap.objs.size+1,[s1.heap.objs.size+1,s1.heap.objs.size],_,_,H1,rfl,I1.kept (t':=s1.toks) hk,za8 (Nat.succ_ne_self _) z t,⟨⟨_,he⟩,hit,uZ _⟩,λb hb=>?_,q⟩
 have hb':s1.heap.objs.size<=b:=by
  rcases uq.mp hb with z | z
  ·rw [z];exact hlt
  ·rw [uD.mp z];exact ui _
 exact I1.fpOk hb' (I1.hok.fresh hb')
theorem PQ {K:Lf}{l:Ld}{a b:Nat}{tb:TS}{D:Ends}{σ:St}{H:Hp}(Pv:Nat->St->Hp->Prop)(h0:Pv 0 σ H) (hs:∀ i c σ H,l[i]? = some c->Pv i σ H->∀ p,H p=none->tb { D with nx:=Pv (i+1),ct:=Pv (i+1),bk:=D.nx } ((σ.set a (some (.int i))).set b (some (.str (S [c])))) (upd H p (.tup [.int i,.str (S [c])]))) (hd:∀ σ H,Pv l.length σ H->D.nx σ H):Jf (AD (CN (S l)) (BJ (S l)) (Cd (S l))) (pP K 2 (Vo (wO a) (Vo (wO b) pQ))) tb D σ H:=by
 refine⟨λi m σ H=>m=l.length - i/\i<=l.length/\Pv i σ H,⟨l.length,by simp,uZ _,h0⟩,?_⟩;rintro i m σ H ⟨rfl,hi,p⟩;by_cases hlt:i<l.length
 ·refine .inr ⟨by show i<(S l).cps.size;rw [V3];exact hlt,Pv (i+1),λσ' H' p'=>⟨l.length - (i+1),by lia,rfl,hlt,p'⟩,λx H' y=>?_⟩;obtain⟨q,v,hq,⟨c,hc,rfl⟩,rfl,rfl⟩:=y;rw [Dt] at hc;exact⟨q,_,rfl,ir.of zb,rfl,_,_,rfl,_,_,rfl,rfl,hs i c σ H hc p q hq⟩
 ·have e:i=l.length:=by lia
  subst e;exact .inl ⟨by show(S l).cps.size<=l.length;rw [V3];exact ui _,hd σ H p⟩
end
structure Zp (k:Nat)(A:Around):Prop where
 dp:A.depth+3 * k+5<recursionLimit
 un:A.units+16 * k+200<cLine
theorem Zp.mono (r:Zp k A)(h:j<=k):Zp j A:=⟨by have:=r.dp;lia,by have:=r.un;lia⟩
theorem Zp.deeper {A:Around}(r:Zp (k+1) A)(env:Env):Zp k (A.deeper env):=
 ⟨by have:=r.dp;show A.depth+1+3 * k+5<_;lia,by have:=r.un;show A.units+3+16 * k+200<_;lia⟩
theorem ix.marked {A:Around}(r:ix k A)(v:Option Value):Zp k (A.mark v):=⟨by have:=r.dp;exact this,by have:=r.un;exact this⟩
abbrev Cx.hot (X:Cx):Cx:={ X with calm:=false }
structure Dp (P:Program)(w:World)(K:Lf)(mg:La)(base:Heap)(k:Nat)(f:Addr)(fd:FuncData)(ps:Lj)(sp:Sp):Prop where
 len:∀ vs H Q E,sp vs H Q E->vs.length=ps.length
 run:∀ (A:Around) (outer:List Env) (s:Shared) (H:Hp) (args:Args) (us:Lg) (vs:List V) (Q:VK) (E:XK),Zp k A->lU P w K mg base A outer s H->BindsTo s fd args (ps.zip us)->Vals vs us->sp vs H Q E ->
  codeAny (model P w) A (.call (.ref f) args) (CR mJ outer P w H s Q E) s
theorem LC {P:Program}{w:World}{K:Lf}{mg:La}{base:Heap}{k:Nat}{f:Addr}{name qual:Str}{params:Arguments}{body:List Stmt}{scope:Scope}{dV kV doc pm cdv ct oc:Value}{an od:Option Addr} {osl:Array (Option Value)} {N ps:Lj} {sp:Sp} (lk:K.lookup f=some ⟨oc,od,.func (PySem.W.fnOf name qual params body scope dV kV doc pm an cdv ct),osl⟩) (hcd:PySem.W.codeIn K cdv qual=true) (S:zj N ps scope) (len:∀ vs H Q E,sp vs H Q E->vs.length=ps.length) (hbody:∀ (A:Around) (outer:List Env) (s:Shared) (H:Hp) (vs:List V) (Q:VK) (E:XK),Zp k (A.deeper (envOfC qual scope s.heap.objs.size f cdv))->sp vs H Q E -> ∃ t,lS (iW mJ P w K mg base N qual scope f cdv A outer s H E).hot.nox body t/\t { nx:=λ_ H'=>Q .non H',rt:=Q } (start N vs) H) : Dp P w K mg base (k+1) f (PySem.W.fnOf name qual params body scope dV kV doc pm an cdv ct) ps sp:=by
 refine⟨len,λA outer s H args us vs Q E hr e0 hb r hsp=>?_⟩;have hl:=len _ _ _ _ hsp;have KX:K.In s.heap:=e0.mod.kin.keeps λb o e=>(e0.bs b o e).1;have lim:s.heap.NoLimit:=e0.mod.nolimit.keeps λb o e=>(e0.bs b o e).1
 have hkind:∀ y∈ps.zip us,scope.names.lookup y.1=some .local\/(scope.names.lookup y.1=some .cell/\((cellsFrom (s.heap.objs.size+1) scope.names []).lookup y.1).isSome=true):=λy hy=>by
  obtain⟨n,v⟩:=y;rcases S.par n (gf hy).1 with q | q
  ·exact .inl q
  ·exact .inr ⟨q,U3 _ _ _ (.inl q)⟩
 have hdp:A.depth<recursionLimit:=by have:=hr.dp;lia
 refine gj hdp (KX _ _ lk) rfl S.co S.gen rfl (GC KX hcd) (hb _ _ _ _ ?_);refine U4 S.kind hkind λenv he s1 x=>?_;subst he;refine⟨lim.keeps x.toInCall.keep,GD ?_⟩;obtain⟨t,ht,hq⟩:=hbody A outer s H vs Q E (hr.deeper _) hsp;have e1:lU P w K mg base { A with handled:=none } outer s H:=⟨e0.frames,e0.mod,e0.bs,e0.bsz,e0.funs,e0.frf,e0.hok,e0.bare⟩
 have I0:Inv (iW mJ P w K mg base N qual scope f cdv { A with handled:=none } outer s H E) [] (start N vs) H s1:=Vu S rfl e1 hl r x;have I:Inv (iW mJ P w K mg base N qual scope f cdv A outer s H E).hot.nox [] (start N vs) H s1:=by obtain⟨ok,I1,I2,I3,I4,I5,I6,I7,I8,I9,I10⟩:=I0;exact⟨⟨ok.mod,ok.kind,ok.glob,ok.blt,ok.above,ok.inj,ok.has,ok.cab,λz=>absurd (show false=true from z) (by decide),Around.frames_deeper e0.frames,ok.stk,ok.exf,ok.bs,ok.bsz,ok.noex,ok.exfs,ok.funs,ok.frf⟩,I1,I2,I3,I4,I5,I6,I7,I8,I9,I10⟩
 refine um (ht [] s1 (start N vs) H _ I hq) (λfl s' hs=>?_) λe s' hs=>hs.elim
 have fin:∀ {σ':St} {H':Hp} {v:V} {u:Value},Inv (iW mJ P w K mg base N qual scope f cdv A outer s H E).hot.nox [] σ' H' s'->RelV v u->Q v H'->CE outer P w H s Q u s':=
  λ{σ' H' v u} J rv q=>⟨v,H',J.os,J.bare,J.base,J.hok,rv,q⟩
 cases fl with
 | ret u=>obtain⟨v,σ',H',J,rv,q⟩:=hs;exact fin J rv q
 | next=>obtain⟨σ',H',J,q⟩:=hs;exact fin (v:=V.non) (u:=Value.none) J rfl q
 | brk=>obtain⟨_,_,_,q⟩:=hs;exact False.elim q
 | cont=>obtain⟨_,_,_,q⟩:=hs;exact False.elim q
structure sD (P:Program)(w:World)(K:Lf)(mg:La)(base:Heap)(k:Nat)(x:Str)(ps:Lj)(sp:Sp):Prop where
 ex:∃ (f:Addr) (fd:FuncData),PySem.W.keepIn K (.ref f)=true/\Binds K fd ps []/\mg x=some (.ref f)/\Dp P w K mg base k f fd ps sp
section
variable {P:Program} {w:World} {K:Lf} {mg:La} {base:Heap}
theorem Df.okH {x:Str}{st:Stmt}{ps N:Lj}{k:Nat}{sp:Sp}(D:Df K mg x st ps)(Sc:zj N ps (zf st))(len:∀ vs H Q E,sp vs H Q E->vs.length=ps.length) (hbody:∀ (f:Addr) (cdv:Value) (A:Around) (outer:List Env) (s:Shared) (H:Hp) (vs:List V) (Q:VK) (E:XK),Zp k (A.deeper (envOfC x (zf st) s.heap.objs.size f cdv))->sp vs H Q E -> ∃ t,lS (iW mJ P w K mg base N x (zf st) f cdv A outer s H E).hot.nox (zW st) t/\t { nx:=λ_ H'=>Q .non H',rt:=Q } (start N vs) H):sD P w K mg base (k+1) x ps sp:=by obtain⟨f,fd,F,b,m⟩:=D.ex;refine⟨f,fd,F.kp,b,m,?_⟩;obtain⟨oc,od,kV,doc,pm,an,cdv,ct,osl,rfl,lk,hcd⟩:=F.ex;exact LC lk hcd Sc len λA outer s H vs Q E hr h=>hbody f cdv A outer s H vs Q E hr h
end
section
variable {X:Cx} {k j:Nat} {x:Str} {ps:Lj} {sp:Sp} {p pos:Pos} {e:Expr} {es:Lh} {t:TA}
theorem PN (F:sD X.prog X.w X.K X.mg X.base k x ps sp)(hr:Zp j X.A)(hk:k<=j)(ha:PA X (e::es) t)(hg:Gl X x:=by rfl) (hdb:(x == ("__debug__":Str))=false:=by decide) (he:SE X e es:=by rfl) (hpl:(backTo pos (starEach es X.env)).any (·.1)=false:=by rfl):PE X (.Call (.Name x p) (e::es) [] pos) (yp sp [] E0 t):=by
 obtain⟨f,fd,kp,b,m,G⟩:=F.ex;intro pins s σ H Q I h;refine uV (wW I hg m ?_ hdb);refine Uo (h₀:=X.base) I.ok.mod.kin kp (iB (ha pos pins s σ H _ I h) λus s1 ⟨vs,H1,I1,r,q⟩=>⟨I1.kIn,?_⟩) he hpl;have r2:Vals (vs++[]) (us++[]):=r.append .nil;have hl:(us++[]).length=ps.length:=by rw [← r2.length];exact G.len _ _ _ _ q
 refine Uh (Um (G.run X.A X.stack s1 H1 ⟨us,[]⟩ (us++[]) (vs++[]) Q E0 (hr.mono hk) I1.iR (b s1 us I1.kIn hl) r2 q) λr s' hq=>?_);cases r with
 | error e=>exact False.elim hq
 | ok fl=>
  cases fl with
  | ret u=>exact I1.after hq
  | next=>exact False.elim hq
  | brk=>exact False.elim hq
  | cont=>exact False.elim hq
end
end L2
namespace L2
open PySem PySem.Spec PyProof.Rows
def E2 (K:Lf)(J:It)(tt:TT)(te:TE)(σ:St)(H1:Hp)(Q:VK):Prop:=∀ D,H1 D=none->∃ W:Nat->Nat->List V->Hp->Prop,(∃ m,W 0 m [] (upd H1 D (.lst [])))/\∀ i m ys H',W i m ys H'->H' D=some (.lst ys) /\
 ((J.stop i H'/\Q (.ref D) H')\/(J.go i H'/\∀ v H2,J.yld i H' v H2->∃ pa u1 u2,v=.ref pa/\ir K H2 pa [u1,u2]/\tt (some u1::some u2::σ) H2 λb H3=>
  if b=true then te (some u1::some u2::σ) H3 λy H4=>H4 D=some (.lst ys)/\ys.length<sizeLine/\∃ m',m' < m/\W (i+1) m' (ys++[y]) (upd H4 D (.lst (ys++[y]))) else ∃ m',m' < m/\W (i+1) m' ys H3))
def BO (K:Lf)(wi:TI)(tt:TT)(te:TE):TE:=λσ H Q=>wi σ H λJ H1=>E2 K J tt te σ H1 Q
structure Ji (X:Cx)(x x2:Str)(scope:Scope):Prop where
 xN:x∉X.N
 yN:x2∉X.N
 xy:x≠x2
 nd:X.N.Nodup
 kind:scope.kind=.function
 cell:∀ y∈scope.names,y.2≠.cell
 names:∀ y∈scope.names,y.2=.local->scope.names.lookup y.1=some .local
 var:scope.names.lookup x=some .local
 vay:scope.names.lookup x2=some .local
 free:∀ y∈scope.names,y.2=.free->X.env.kindOf y.1=some .cell
 out:∀ y∈X.N,scope.names.lookup y≠some .local
 calm:X.calm=true
section
variable {X:Cx} {elt iter:Expr} {x x2:Str} {px py pt pos:Pos} {kt:Nat} {ifs:Lh} {scope:Scope} {wi:TI} {tt:TT} {te:TE}
theorem Ji.p9 (L:Ji X x x2 scope):X.N.map (lK [x,x2])=X.N:=by
 refine(gi λy hy=>?_).trans (List.map_id _);unfold lK;rw [ub]
 ·rfl
 ·intro z;rcases uq.mp z with z | z
  ·exact L.xN (z ▸ hy)
  ·exact L.yN (uD.mp z ▸ hy)
theorem Ji.gen (L:Ji X x x2 scope):Zx X [x,x2] scope:=by
 refine⟨?_,L.kind,L.cell,L.names,λy hy=>?_,L.free,by rw [L.p9];exact L.out,λy hy h=>?_,L.calm⟩
 ·rw [L.p9];refine Ul.mpr ⟨λz=>?_,Ul.mpr ⟨L.yN,L.nd⟩⟩;rcases uq.mp z with z | z
  ·exact L.xy z
  ·exact L.xN z
 ·rcases uq.mp hy with z | z
  ·rw [z];exact L.var
  ·rw [uD.mp z];exact L.vay
 ·rcases uq.mp h with z | z
  ·exact absurd (z ▸ hy) L.xN
  ·exact absurd (uD.mp z ▸ hy) L.yN
end
end L2
namespace L2
open PySem PySem.Spec PySem.Calls PyProof.Rows PySem.W
section
variable {X:Cx}
end
def Pairs (H:Hp)(a:Addr)(ps:List (Ld×Ld)):Prop:=∃ as:Le,H a=some (.lst (as.map V.ref))/\as.length=ps.length/\∀ (i:Nat) p,ps[i]? = some p->∃ b,as[i]? = some b/\H b=some (.tup [.str (S p.1),.str (S p.2)])
theorem Pairs.mono (h:Pairs H a ps)(g:fX H H'):Pairs H' a ps:=by obtain⟨as,h1,h2,h3⟩:=h;refine⟨as,g _ _ h1,h2,λi p e=>?_⟩;obtain⟨b,h4,h5⟩:=h3 i p e;exact⟨b,h4,g _ _ h5⟩
theorem NG (K:Frag)(wi:TI)(tt:TT)(te:TE):BO K wi tt te=λσ H Q=>wi σ H λJ H1=>E2 K J tt te σ H1 Q:=rfl
theorem NF:bootBuiltins "list" = some (.type "list"):=by decide +kernel
section
variable {X:Cx}
def Dd (K:Frag)(H:Hp)(x:V):Prop:=x=.non\/(∃ b,x=.bl b)\/(∃ i,x=.int i)\/(∃ a xs,x=.ref a/\H a=some (.lst xs))\/(∃ a xs,x=.ref a/\H a=some (.tup xs))\/∃ a kvs,x=.ref a/\H a=some (.dK kvs)
theorem Dd.mono {K:Frag}{H H':Hp}{x:V}(h:Dd K H x)(g:fX H H'):Dd K H' x:=by
 rcases h with h | h | h | ⟨a,xs,h,e⟩ | ⟨a,xs,h,e⟩ | ⟨a,xs,h,e⟩
 ·exact .inl h
 ·exact .inr (.inl h)
 ·exact .inr (.inr (.inl h))
 ·exact .inr (.inr (.inr (.inl ⟨a,xs,h,g _ _ e⟩)))
 ·exact .inr (.inr (.inr (.inr (.inl ⟨a,xs,h,g _ _ e⟩))))
 ·exact .inr (.inr (.inr (.inr (.inr ⟨a,xs,h,g _ _ e⟩))))
theorem E1 {K:Frag}(hK:X.K=K):iY X (compareOp .In) (tu K false):=by subst hK;exact SM
theorem Xm {K:Frag}(hK:X.K=K):iY X (compareOp .NotIn) (tu K true):=by subst hK;exact VX
theorem ND {K:Frag}{tg l:Expr}{tl:TE}(hK:X.K=K)(hl:PE X l tl):PI X tg l (pN K tl):=by subst hK;exact MV hl
theorem DL {K:Frag}{a:Addr}{xs:List V}{g:TG}{tb:TS}{D:Ends}{σ:L2.St}{H:Hp}(Pv:Nat->L2.St->Hp->Prop)(h0:Pv 0 σ H)(hl:∀ i σ H,i<=xs.length->Pv i σ H->ir K H a xs)
  (hs:∀ i x σ H,xs[i]? = some x->Pv i σ H->g x σ H λσ2 H2=>tb { D with nx:=Pv (i+1),ct:=Pv (i+1),bk:=D.nx } σ2 H2) (hd:∀ σ H,Pv xs.length σ H->D.nx σ H):Jf (sN K a) g tb D σ H:=OX Pv h0 hl hs hd
end
inductive Dat where
 | fl (v:V)
 | tp (xs:List Dat)
 | ls (xs:List Dat)
mutual
def ic (H:Hp):Dat->V->Prop
 | .fl x,v=>v=x/\zN x=true
 | .tp ds,v=>∃ a vs,v=.ref a/\H a=some (.tup vs)/\iq H ds vs
 | .ls ds,v=>∃ a vs,v=.ref a/\H a=some (.lst vs)/\iq H ds vs
def iq (H:Hp):List Dat->List V->Prop
 | [],vs=>vs=[]
 | d::ds,vs=>∃ v r,vs=v::r/\ic H d v/\iq H ds r
end
mutual
def lu:Dat->Dat->Bool
 | .fl x,.fl y=>nE x y
 | .tp xs,.tp ys=>lz xs ys
 | .ls xs,.ls ys=>lz xs ys
 | .fl _,.tp _=>false
 | .fl _,.ls _=>false
 | .tp _,.fl _=>false
 | .tp _,.ls _=>false
 | .ls _,.fl _=>false
 | .ls _,.tp _=>false
def lz:List Dat->List Dat->Bool
 | [],[]=>true
 | x::xs,y::ys=>lu x y&&lz xs ys
 | [],_::_=>false
 | _::_,[]=>false
end
mutual
def lb:Dat->Nat
 | .fl _=>0
 | .tp xs=>xX xs+1
 | .ls xs=>xX xs+1
def xX:List Dat->Nat
 | []=>0
 | d::ds=>max (lb d) (xX ds)
end
mutual
theorem ic.mono (g:fX H H'):∀ {d:Dat} {v:V},ic H d v->ic H' d v
 | .fl x,v,h=>by simp only [ic] at h ⊢;exact h
 | .tp ds,v,h=>by simp only [ic] at h ⊢;obtain⟨a,vs,e,h1,h2⟩:=h;exact⟨a,vs,e,g _ _ h1,iq.mono g h2⟩
 | .ls ds,v,h=>by simp only [ic] at h ⊢;obtain⟨a,vs,e,h1,h2⟩:=h;exact⟨a,vs,e,g _ _ h1,iq.mono g h2⟩
theorem iq.mono (g:fX H H'):∀ {ds:List Dat} {vs:List V},iq H ds vs->iq H' ds vs
 | [],vs,h=>by simp only [iq] at h ⊢;exact h
 | d::ds,vs,h=>by simp only [iq] at h ⊢;obtain⟨v,r,e,h1,h2⟩:=h;exact⟨v,r,e,ic.mono g h1,iq.mono g h2⟩
end
theorem iq.len:∀ {ds:List Dat} {vs:List V},iq H ds vs->ds.length=vs.length
 | [],vs,h=>by simp only [iq] at h;subst h;rfl
 | d::ds,vs,h=>by simp only [iq] at h;obtain⟨v,r,e,h1,h2⟩:=h;rw [e,uo,uo,iq.len h2]
theorem iq.snoc:∀ {ds:List Dat} {vs:List V},iq H ds vs->ic H d v->iq H (ds++[d]) (vs++[v])
 | [],vs,h,k=>by simp only [iq] at h;subst h;simp only [Ue,iq];exact⟨v,[],rfl,k,rfl⟩
 | d::ds,vs,h,k=>by simp only [iq] at h;obtain⟨v,r,e,h1,h2⟩:=h;subst e;simp only [uG,iq];exact⟨v,_,rfl,h1,iq.snoc h2 k⟩
theorem iq.app:∀ {ds:List Dat} {vs:List V},iq H ds vs->iq H es us->iq H (ds++es) (vs++us)
 | [],vs,h,k=>by simp only [iq] at h;subst h;exact k
 | d::ds,vs,h,k=>by simp only [iq] at h;obtain⟨v,r,e,h1,h2⟩:=h;subst e;simp only [uG,iq];exact⟨v,_,rfl,h1,iq.app h2 k⟩
theorem iq.get:∀ {ds:List Dat} {vs:List V} {j:Nat} {v:V},iq H ds vs->vs[j]? = some v->∃ d,ds[j]? = some d/\ic H d v
 | [],vs,j,v,h,k=>by simp only [iq] at h;subst h;simp at k
 | d::ds,vs,j,v,h,k=>by
  simp only [iq] at h;obtain⟨v',r,e,h1,h2⟩:=h;subst e;cases j with
  | zero=>simp at k;subst k;exact⟨d,rfl,h1⟩
  | succ j=>simpa using iq.get h2 (j:=j) (by simpa using k)
theorem Kw (h:zN v=true):nE v v=true:=by cases v<;>first | exact rfl | exact Uu _ | cases h
mutual
theorem Xn:∀ {d e:Dat} {v:V},ic H d v->ic H e v->lu d e=true
 | .fl x,.fl y,v,h,k=>by simp only [ic] at h k;obtain⟨rfl,f⟩:=h;obtain⟨rfl,_⟩:=k;simp only [lu];exact Kw f
 | .tp xs,.tp ys,v,h,k=>by simp only [ic] at h k;obtain⟨a,vs,rfl,h1,h2⟩:=h;obtain⟨b,us,e,k1,k2⟩:=k;cases e;rw [h1] at k1;cases k1;simp only [lu];exact JN h2 k2
 | .ls xs,.ls ys,v,h,k=>by simp only [ic] at h k;obtain⟨a,vs,rfl,h1,h2⟩:=h;obtain⟨b,us,e,k1,k2⟩:=k;cases e;rw [h1] at k1;cases k1;simp only [lu];exact JN h2 k2
 | .fl x,.tp ys,v,h,k=>by simp only [ic] at h k;obtain⟨rfl,f⟩:=h;obtain⟨b,us,rfl,k1,k2⟩:=k;simp [zN] at f
 | .fl x,.ls ys,v,h,k=>by simp only [ic] at h k;obtain⟨rfl,f⟩:=h;obtain⟨b,us,rfl,k1,k2⟩:=k;simp [zN] at f
 | .tp xs,.fl y,v,h,k=>by simp only [ic] at h k;obtain⟨rfl,f⟩:=k;obtain⟨b,us,rfl,k1,k2⟩:=h;simp [zN] at f
 | .ls xs,.fl y,v,h,k=>by simp only [ic] at h k;obtain⟨rfl,f⟩:=k;obtain⟨b,us,rfl,k1,k2⟩:=h;simp [zN] at f
 | .tp xs,.ls ys,v,h,k=>by simp only [ic] at h k;obtain⟨a,vs,rfl,h1,h2⟩:=h;obtain⟨b,us,e,k1,k2⟩:=k;cases e;rw [h1] at k1;cases k1
 | .ls xs,.tp ys,v,h,k=>by simp only [ic] at h k;obtain⟨a,vs,rfl,h1,h2⟩:=h;obtain⟨b,us,e,k1,k2⟩:=k;cases e;rw [h1] at k1;cases k1
theorem JN:∀ {ds es:List Dat} {vs:List V},iq H ds vs->iq H es vs->lz ds es=true
 | [],[],_,_,_=>rfl
 | d::ds,e::es,vs,h,k=>by simp only [iq] at h k;obtain⟨v,r,rfl,h1,h2⟩:=h;obtain⟨v',r',e',k1,k2⟩:=k;cases e';simp only [lz,uJ];exact⟨Xn h1 k1,JN h2 k2⟩
 | [],e::es,vs,h,k=>by simp only [iq] at h k;subst h;obtain⟨v',r',e',k1,k2⟩:=k;cases e'
 | d::ds,[],vs,h,k=>by simp only [iq] at h k;subst k;obtain⟨v',r',e',k1,k2⟩:=h;cases e'
end
mutual
def Qi:Dat->Bool
 | .fl v=>zN v
 | .tp xs=>yS xs
 | .ls xs=>yS xs
def yS:List Dat->Bool
 | []=>true
 | d::ds=>Qi d&&yS ds
end
mutual
theorem wY:∀ {d:Dat},Qi d=true->lu d d=true
 | .fl v,h=>by simp only [lu];exact Kw h
 | .tp xs,h=>by simp only [lu];simp only [Qi] at h;exact JO h
 | .ls xs,h=>by simp only [lu];simp only [Qi] at h;exact JO h
theorem JO:∀ {ds:List Dat},yS ds=true->lz ds ds=true
 | [],_=>rfl
 | d::ds,h=>by simp only [yS,uJ] at h;simp only [lz,uJ];exact⟨wY h.1,JO h.2⟩
end
mutual
theorem ic.flat:∀ {d:Dat} {v:V},ic H d v->Qi d=true
 | .fl x,v,h=>by simp only [ic] at h;simp only [Qi];exact h.2
 | .tp ds,v,h=>by simp only [ic] at h;obtain⟨a,vs,e,h1,h2⟩:=h;simp only [Qi];exact iq.flat h2
 | .ls ds,v,h=>by simp only [ic] at h;obtain⟨a,vs,e,h1,h2⟩:=h;simp only [Qi];exact iq.flat h2
theorem iq.flat:∀ {ds:List Dat} {vs:List V},iq H ds vs->yS ds=true
 | [],vs,h=>rfl
 | d::ds,vs,h=>by simp only [iq] at h;obtain⟨v,r,e,h1,h2⟩:=h;simp only [yS,uJ];exact⟨ic.flat h1,iq.flat h2⟩
end
theorem Zy:∀ {ds es:List Dat},ds.length≠es.length->lz ds es=false
 | [],[],h=>absurd rfl h
 | d::ds,e::es,h=>by simp only [lz];rw [Zy (ds:=ds) (es:=es) (by simpa using h),U5]
 | [],_::_,_=>rfl
 | _::_,[],_=>rfl
def ll (ds:List Dat)(j:Nat):Dat:=ds.getD j (.fl .non)
theorem Zz:∀ {ds es:List Dat},ds.length=es.length->(List.range ds.length).all (λj=>lu (ll ds j) (ll es j))=lz ds es
 | [],[],_=>rfl
 | d::ds,e::es,h=>by rw [uo,List.range_succ_eq_map,GB,List.all_map];simp only [lz];have:=Zz (ds:=ds) (es:=es) (by simpa using h);rw [← this];rfl
 | [],_::_,h=>by simp at h
 | _::_,[],h=>by simp at h
theorem Xo {ds es:List Dat}(hn:n=ds.length)(hm:m=es.length):((List.range (min n m)).all (λj=>lu (ll ds j) (ll es j))&&n == m)=lz ds es:=by
 subst hn hm;by_cases h:ds.length=es.length
 ·rw [← h,Nat.min_self,Uu,gb];exact Zz h
 ·rw [Zy h,uO.mpr h,U5]
section
variable {X:Cx} {pins:Lp} {σ:L2.St} {H:Hp} {s:Shared}
theorem wZ (I:Inv X pins σ H s)(h:H a=some (.tup vs)):∃ ij:Lg,Vals vs ij/\s.heap.IsTuple a ij.toArray:=by obtain⟨ij,r,p,_⟩:=I.tuple (ir.of h);exact⟨ij,r,p⟩
theorem w4 (I:Inv X pins σ H s)(h:H a=some (.lst vs)):∃ ij:Lg,Vals vs ij/\s.heap.IsList a ij.toArray:=by obtain⟨ij,r,p,_⟩:=I.list (iA.of h);exact⟨ij,r,p.isList⟩
mutual
theorem LA (I:Inv X pins σ H s):∀ (d e:Dat) (A:Around) (x y:V) (u w:Value),A.units+lb d<cLine->ic H d x->ic H e y->RelV x u->RelV y w->SeqAt.EqAt A s u w (lu d e)
 | .fl x,.fl y,A,x',y',u,w,hu,h,k,ru,rw'=>by simp only [ic] at h k;obtain⟨rfl,f⟩:=h;obtain⟨rfl,g⟩:=k;simp only [lu];exact BC ru rw' f g
 | .tp ds,.tp es,A,x,y,u,w,hu,h,k,ru,rw'=>by
  have hh:=h;have kk:=k;simp only [ic] at h k;obtain⟨a,vs,rfl,h1,h2⟩:=h;obtain⟨b,us,rfl,k1,k2⟩:=k;cases ru;cases rw';by_cases hab:a=b
  ·subst hab;rw [Xn hh kk];exact SeqAt.EqAt.same _
  obtain⟨i1,r1,p1⟩:=wZ I h1;obtain⟨i2,r2,p2⟩:=wZ I k1;simp only [lb] at hu;refine SeqAt.EqAt.of_refs hab ?_;have:=SeqAt.RcAt.tuples (A:=A) (e:=λj=>lu (ll ds j) (ll es j)) p1 p2 (by lia) (kE I ds es A.in1 vs us i1 i2 (by show A.units+1+_<_;lia) h2 k2 r1 r2);rw [Xo (by rw [uh,← r1.length,h2.len]) (by rw [uh,← r2.length,k2.len])] at this;simp only [lu];exact this
 | .ls ds,.ls es,A,x,y,u,w,hu,h,k,ru,rw'=>by
  have hh:=h;have kk:=k;simp only [ic] at h k;obtain⟨a,vs,rfl,h1,h2⟩:=h;obtain⟨b,us,rfl,k1,k2⟩:=k;cases ru;cases rw';by_cases hab:a=b
  ·subst hab;rw [Xn hh kk];exact SeqAt.EqAt.same _
  obtain⟨i1,r1,p1⟩:=w4 I h1;obtain⟨i2,r2,p2⟩:=w4 I k1;have l1:=r1.length;have l2:=r2.length;have l3:=h2.len;have l4:=k2.len;simp only [lb] at hu;refine SeqAt.EqAt.of_refs hab ?_;simp only [lu];by_cases hl:ds.length=es.length
  ·have:=SeqAt.RcAt.lists (A:=A) (e:=λj=>lu (ll ds j) (ll es j)) p1 p2 (by simp;lia) (by lia) (kE I ds es A.in1 vs us i1 i2 (by show A.units+1+_<_;lia) h2 k2 r1 r2);rw [uh,← l1,← l3,Zz hl] at this;exact this
  ·rw [Zy hl];exact SeqAt.RcAt.lists_lengths p1 p2 (by simp;lia) (by lia)
 | .fl x,.tp es,A,x',y,u,w,hu,h,k,ru,rw'=>by
  simp only [ic] at h k;obtain⟨rfl,f⟩:=h;obtain⟨b,us,rfl,k1,k2⟩:=k;cases rw';obtain⟨i2,r2,p2⟩:=wZ I k1;simp only [lu];have hu:A.units<cLine:=by lia
  cases x' with
  | non=>cases ru;exact SeqAt.EqAt.none_tuple p2 hu
  | bl z=>cases ru;exact SeqAt.EqAt.bool_tuple z p2 hu
  | int z=>obtain⟨t,rfl⟩:=ru;exact SeqAt.EqAt.int_tuple z t p2 hu
  | str z=>obtain⟨t,rfl⟩:=ru;exact SeqAt.EqAt.str_tuple z t p2 hu
  | byt z=>simp [zN] at f
  | flt z=>simp [zN] at f
  | ref z=>simp [zN] at f
  | ty z=>simp [zN] at f
 | .fl x,.ls es,A,x',y,u,w,hu,h,k,ru,rw'=>by
  simp only [ic] at h k;obtain⟨rfl,f⟩:=h;obtain⟨b,us,rfl,k1,k2⟩:=k;cases rw';obtain⟨i2,r2,p2⟩:=w4 I k1;simp only [lu];have hu:A.units<cLine:=by lia
  cases x' with
  | non=>cases ru;exact SeqAt.EqAt.none_list p2 hu
  | bl z=>cases ru;exact SeqAt.EqAt.bool_list z p2 hu
  | int z=>obtain⟨t,rfl⟩:=ru;exact SeqAt.EqAt.int_list z t p2 hu
  | str z=>obtain⟨t,rfl⟩:=ru;exact SeqAt.EqAt.str_list z t p2 hu
  | byt z=>simp [zN] at f
  | flt z=>simp [zN] at f
  | ref z=>simp [zN] at f
  | ty z=>simp [zN] at f
 | .tp ds,.fl y,A,x,y',u,w,hu,h,k,ru,rw'=>by
  simp only [ic] at h k;obtain⟨rfl,f⟩:=k;obtain⟨b,us,rfl,k1,k2⟩:=h;cases ru;obtain⟨i2,r2,p2⟩:=wZ I k1;simp only [lu];have hu:A.units<cLine:=by lia
  cases y' with
  | non=>cases rw';exact SeqAt.EqAt.tuple_none p2 hu
  | bl z=>cases rw';exact SeqAt.EqAt.tuple_bool z p2 hu
  | int z=>obtain⟨t,rfl⟩:=rw';exact SeqAt.EqAt.tuple_int z t p2 hu
  | str z=>obtain⟨t,rfl⟩:=rw';exact SeqAt.EqAt.tuple_str z t p2 hu
  | byt z=>simp [zN] at f
  | flt z=>simp [zN] at f
  | ref z=>simp [zN] at f
  | ty z=>simp [zN] at f
 | .ls ds,.fl y,A,x,y',u,w,hu,h,k,ru,rw'=>by
  simp only [ic] at h k;obtain⟨rfl,f⟩:=k;obtain⟨b,us,rfl,k1,k2⟩:=h;cases ru;obtain⟨i2,r2,p2⟩:=w4 I k1;simp only [lu];have hu:A.units<cLine:=by lia
  cases y' with
  | non=>cases rw';exact SeqAt.EqAt.list_none p2 hu
  | bl z=>cases rw';exact SeqAt.EqAt.list_bool z p2 hu
  | int z=>obtain⟨t,rfl⟩:=rw';exact SeqAt.EqAt.list_int z t p2 hu
  | str z=>obtain⟨t,rfl⟩:=rw';exact SeqAt.EqAt.list_str z t p2 hu
  | byt z=>simp [zN] at f
  | flt z=>simp [zN] at f
  | ref z=>simp [zN] at f
  | ty z=>simp [zN] at f
 | .tp ds,.ls es,A,x,y,u,w,hu,h,k,ru,rw'=>by simp only [ic] at h k;obtain⟨a,vs,rfl,h1,h2⟩:=h;obtain⟨b,us,rfl,k1,k2⟩:=k;cases ru;cases rw';obtain⟨i1,r1,p1⟩:=wZ I h1;obtain⟨i2,r2,p2⟩:=w4 I k1;simp only [lu];exact SeqAt.EqAt.tuple_list p1 p2 (by omega)
 | .ls ds,.tp es,A,x,y,u,w,hu,h,k,ru,rw'=>by simp only [ic] at h k;obtain⟨a,vs,rfl,h1,h2⟩:=h;obtain⟨b,us,rfl,k1,k2⟩:=k;cases ru;cases rw';obtain⟨i1,r1,p1⟩:=w4 I h1;obtain⟨i2,r2,p2⟩:=wZ I k1;simp only [lu];exact SeqAt.EqAt.list_tuple p1 p2 (by omega)
theorem kE (I:Inv X pins σ H s):∀ (ds es:List Dat) (A:Around) (xs ys:List V) (us ws:Lg),A.units+xX ds<cLine->iq H ds xs->iq H es ys->Vals xs us->Vals ys ws ->
  ∀ j (h1:j<us.toArray.size) (h2:j<ws.toArray.size),SeqAt.EqAt A s us.toArray[j] ws.toArray[j] (lu (ll ds j) (ll es j))
 | [],es,A,xs,ys,us,ws,hu,h,k,ru,rw',j,h1,h2=>by simp only [iq] at h;subst h;have:=ru.length;rw [uh] at h1;simp at this;omega
 | d::ds,[],A,xs,ys,us,ws,hu,h,k,ru,rw',j,h1,h2=>by simp only [iq] at k;subst k;have:=rw'.length;rw [uh] at h2;simp at this;omega
 | d::ds,e::es,A,xs,ys,us,ws,hu,h,k,ru,rw',j,h1,h2=>by
  simp only [iq] at h k;obtain⟨v,r,rfl,a1,a2⟩:=h;obtain⟨v',r',rfl,b1,b2⟩:=k;simp only [xX] at hu;cases ru with
  | cons q1 q2=>
   cases rw' with
   | cons q3 q4=>
    cases j with
    | zero=>exact LA I d e A _ _ _ _ (by omega) a1 b1 q1 q3
    | succ j=>have:=kE I ds es A _ _ _ _ (by omega) a2 b2 q2 q4 j (by simpa using h1) (by simpa using h2);simpa [ll] using this
end
end
section
variable {X:Cx}
def tD:R2:=λx y H Q=>∃ d e a b,x=.ref a/\y=.ref b/\ic H d (.ref a)/\ic H e (.ref b)/\lb d<=50/\Q (.bl (lu d e)) H
def tj:R2:=λx y H Q=>∃ d e a b,x=.ref a/\y=.ref b/\ic H d (.ref a)/\ic H e (.ref b)/\lb d<=50/\Q (.bl (!lu d e)) H
theorem V9 (hu:X.A.units+64<cLine):iY X (compareOp .Eq) tD:=by
 intro pins s σ H x y v u Q I rx ry h;obtain⟨d,e,a,b,rfl,rfl,h,k,hd,q⟩:=h;cases rx;cases ry
 match d,e,h,k,hd,q with
 | .tp ds,.tp es,h,k,hd,q=>simp only [ic] at h k;obtain⟨_,vs,e1,h1,h2⟩:=h;obtain⟨_,us,e2,k1,k2⟩:=k;cases e1;cases e2;obtain⟨i1,r1,p1⟩:=wZ I h1;obtain⟨i2,r2,p2⟩:=wZ I k1;simp only [lb] at hd;refine SeqAt.eq_tupleAt (e:=λj=>lu (ll ds j) (ll es j)) p1 p2 (by omega) (kE I ds es X.A.in1 vs us i1 i2 (by show X.A.units+1+_<_;omega) h2 k2 r1 r2) ⟨.bl _,H,I,rfl,?_⟩;rw [Xo (by rw [uh,← r1.length,h2.len]) (by rw [uh,← r2.length,k2.len])];exact q
 | .ls ds,.ls es,h,k,hd,q=>
  simp only [ic] at h k;obtain⟨_,vs,e1,h1,h2⟩:=h;obtain⟨_,us,e2,k1,k2⟩:=k;cases e1;cases e2;obtain⟨i1,r1,p1⟩:=w4 I h1;obtain⟨i2,r2,p2⟩:=w4 I k1;have l1:=r1.length;have l2:=r2.length;have l3:=h2.len;have l4:=k2.len;simp only [lb] at hd;by_cases hl:ds.length=es.length
  ·refine SeqAt.eq_listAt (e:=λj=>lu (ll ds j) (ll es j)) p1 p2 (by simp;lia) (by lia) (kE I ds es X.A.in1 vs us i1 i2 (by show X.A.units+1+_<_;lia) h2 k2 r1 r2) ⟨.bl _,H,I,rfl,?_⟩;rw [uh,← l1,← l3,Zz hl];exact q
  ·refine SeqAt.eq_list_lengthsAt p1 p2 (by simp;lia) (by lia) ⟨.bl _,H,I,rfl,?_⟩;simp only [lu] at q;rw [Zy hl] at q;exact q
 | .tp ds,.ls es,h,k,hd,q=>simp only [ic] at h k;obtain⟨_,vs,e1,h1,h2⟩:=h;obtain⟨_,us,e2,k1,k2⟩:=k;cases e1;cases e2;obtain⟨i1,r1,p1⟩:=wZ I h1;obtain⟨i2,r2,p2⟩:=w4 I k1;exact SeqAt.RcAt.tuple_list p1 p2 (by omega) _ _ _ _ ⟨.bl _,H,I,rfl,q⟩
 | .ls ds,.tp es,h,k,hd,q=>simp only [ic] at h k;obtain⟨_,vs,e1,h1,h2⟩:=h;obtain⟨_,us,e2,k1,k2⟩:=k;cases e1;cases e2;obtain⟨i1,r1,p1⟩:=w4 I h1;obtain⟨i2,r2,p2⟩:=wZ I k1;exact SeqAt.RcAt.list_tuple p1 p2 (by omega) _ _ _ _ ⟨.bl _,H,I,rfl,q⟩
 | .fl x,e,h,k,hd,q=>simp only [ic] at h;obtain⟨rfl,f⟩:=h;simp [zN] at f
 | .tp ds,.fl x,h,k,hd,q=>simp only [ic] at k;obtain⟨rfl,f⟩:=k;simp [zN] at f
 | .ls ds,.fl x,h,k,hd,q=>simp only [ic] at k;obtain⟨rfl,f⟩:=k;simp [zN] at f
theorem ZA (hu:X.A.units+64<cLine):iY X (compareOp .NotEq) tj:=by
 intro pins s σ H x y v u Q I rx ry h;obtain⟨d,e,a,b,rfl,rfl,h,k,hd,q⟩:=h;cases rx;cases ry
 match d,e,h,k,hd,q with
 | .tp ds,.tp es,h,k,hd,q=>simp only [ic] at h k;obtain⟨_,vs,e1,h1,h2⟩:=h;obtain⟨_,us,e2,k1,k2⟩:=k;cases e1;cases e2;obtain⟨i1,r1,p1⟩:=wZ I h1;obtain⟨i2,r2,p2⟩:=wZ I k1;simp only [lb] at hd;refine SeqAt.RcNeAt.tuples (e:=λj=>lu (ll ds j) (ll es j)) p1 p2 (by omega) (kE I ds es X.A.in1 vs us i1 i2 (by show X.A.units+1+_<_;omega) h2 k2 r1 r2) _ _ _ _ ⟨.bl _,H,I,rfl,?_⟩;rw [Xo (by rw [uh,← r1.length,h2.len]) (by rw [uh,← r2.length,k2.len])];exact q
 | .ls ds,.ls es,h,k,hd,q=>
  simp only [ic] at h k;obtain⟨_,vs,e1,h1,h2⟩:=h;obtain⟨_,us,e2,k1,k2⟩:=k;cases e1;cases e2;obtain⟨i1,r1,p1⟩:=w4 I h1;obtain⟨i2,r2,p2⟩:=w4 I k1;have l1:=r1.length;have l2:=r2.length;have l3:=h2.len;have l4:=k2.len;simp only [lb] at hd;by_cases hl:ds.length=es.length
  ·refine SeqAt.RcNeAt.lists (e:=λj=>lu (ll ds j) (ll es j)) p1 p2 (by simp;lia) (by lia) (kE I ds es X.A.in1 vs us i1 i2 (by show X.A.units+1+_<_;lia) h2 k2 r1 r2) _ _ _ _ ⟨.bl _,H,I,rfl,?_⟩;rw [uh,← l1,← l3,Zz hl];exact q
  ·refine SeqAt.RcNeAt.lists_lengths p1 p2 (by simp;lia) (by lia) _ _ _ _ ⟨.bl _,H,I,rfl,?_⟩;simp only [lu] at q;rw [Zy hl] at q;exact q
 | .tp ds,.ls es,h,k,hd,q=>simp only [ic] at h k;obtain⟨_,vs,e1,h1,h2⟩:=h;obtain⟨_,us,e2,k1,k2⟩:=k;cases e1;cases e2;obtain⟨i1,r1,p1⟩:=wZ I h1;obtain⟨i2,r2,p2⟩:=w4 I k1;exact SeqAt.RcNeAt.tuple_list p1 p2 (by omega) _ _ _ _ ⟨.bl _,H,I,rfl,q⟩
 | .ls ds,.tp es,h,k,hd,q=>simp only [ic] at h k;obtain⟨_,vs,e1,h1,h2⟩:=h;obtain⟨_,us,e2,k1,k2⟩:=k;cases e1;cases e2;obtain⟨i1,r1,p1⟩:=w4 I h1;obtain⟨i2,r2,p2⟩:=wZ I k1;exact SeqAt.RcNeAt.list_tuple p1 p2 (by omega) _ _ _ _ ⟨.bl _,H,I,rfl,q⟩
 | .fl x,e,h,k,hd,q=>simp only [ic] at h;obtain⟨rfl,f⟩:=h;simp [zN] at f
 | .tp ds,.fl x,h,k,hd,q=>simp only [ic] at k;obtain⟨rfl,f⟩:=k;simp [zN] at f
 | .ls ds,.fl x,h,k,hd,q=>simp only [ic] at k;obtain⟨rfl,f⟩:=k;simp [zN] at f
end
abbrev Tx:=Ld
def tx (x:Tx):V:=.str (S x)
abbrev ft (x:Tx):Dat:=.fl (.str (S x))
structure MS where
 mode:Tx
 word:Tx
 opens:List Tx
 talk:Tx
abbrev Ev:=List Tx
abbrev nX:=Option (MS×List Ev)
abbrev xE:Tx:=[116,101,120,116]
abbrev Al:Tx:=[109,97,114,107]
abbrev AR:Tx:=[111,112,101,110]
abbrev Kx:Tx:=[110,97,109,101]
abbrev BF:Tx:=[115,108,97,115,104]
abbrev VD:Tx:=[115,104,117,116]
abbrev rS:Tx:=[103,97,112]
abbrev Ak:Tx:=[97,116,116,114]
abbrev Cn:Tx:=[105,115]
abbrev AQ:Tx:=[98,97,110,103]
abbrev vT:Tx:=[98,97,114,101]
abbrev Aj:Tx:=[99,111,100,101]
abbrev lH:Tx:=[114,111,119]
abbrev Yb:Tx:=[115,116,114,111,107,101]
abbrev jB:Tx:=[113,117,111,116,101,100]
abbrev Yc:Tx:=[113,109,97,114,107]
abbrev Ky:Tx:=[100,111,110,101]
abbrev Zq:Tx:=[116,97,108,107]
abbrev Yd:Tx:=[116,109,97,114,107]
abbrev Jj:Tx:=[97,115,105,115]
abbrev nV:Tx:=[98,111,120]
abbrev ZC:Tx:=[97,116,116,114]
abbrev oE:Tx:=[105,110]
abbrev j9:Tx:=[115,105,103,110]
abbrev AO:Tx:=[110,101,120,116]
abbrev AN:Tx:=[119,111,114,100]
abbrev Dn:Tx:=[115,97,105,100]
abbrev pS:Tx:=[111,117,116]
abbrev jQ:Tx:=[98,101,116,119,101,101,110]
abbrev Qj:Tx:=[119,111,114,100]
abbrev vD:Tx:=[115,97,105,100]
abbrev WU:Tx:=[115,116,114,111,107,101]
abbrev kF:Tx:=[60,47,97,115,105,115,62]
abbrev lt:Tx:=[97,98,99,100,101,102,103,104,105,106,107,108,109,110,111,112,113,114,115,116,117,118,119,120,121,122]
def q9 (m:Tx)(op:List Tx)(es:List Ev):nX:=some (⟨m,[],op,[]⟩,es)
def Qk (m:Tx)(op:List Tx):Option Nat->nX
 | none=>none
 | some c=>q9 m op [[j9,[c]]]
def lX (m w:Tx)(op:List Tx)(t:Tx)(n:Nat):nX:=if n<w.length then none else some (⟨m,w,op,t⟩,[])
def kG (op:List Tx)(es:List Ev):nX:=if op=[] then none else q9 xE op.dropLast (es++[[pS]])
def yr (op:List Tx)(es:List Ev):nX:=if op=[] then none else q9 (if op.getLast? = some Jj then Jj else xE) op (es++[[oE]])
def VE (op:List Tx)(c:Nat)(es:List Ev):nX:=if c=32 then q9 rS op es else if c=47 then q9 BF op es else if c=62 then yr op es else none
def oB (c:Nat):Option (Tx×List Ev):=if c=32 then some (jQ,[]) else if c=39 then some (vD,[[Dn]]) else if c∈ws then some (Qj,[[AN],[j9,[c]]]) else none
def rZ (c:Nat):Option (Tx×List Ev):=if c∈ws then some (Qj,[[j9,[c]]]) else oB c
def r8 (c:Nat):Option (Tx×List Ev):=if c=39 then some (jQ,[]) else if c=92 then some (WU,[]) else some (vD,[[j9,[c]]])
def VF (t:Tx)(c:Nat):Option (Tx×List Ev):=if t=jQ then oB c else if t=Qj then rZ c else if t=vD then r8 c else if t=WU then some (vD,[[j9,[c]]]) else none
def nS (op:List Tx)(t:Tx)(c:Option Nat):nX:=match c with
 | none=>none
 | some c=>match VF t c with
  | none=>none
  | some (t',es)=>some (⟨Zq,[],op,t'⟩,es)
def WA (w:Tx)(c:Nat):Option Nat:=if c=59 then L2.told w else none
abbrev ml:=Tx->List Tx->Tx->Nat->nX
def Kz:ml:=λ_ op _ c=>if c=60 then q9 AR op [] else if c=38 then q9 Al op [] else Qk xE op (some c)
def KA:ml:=λw op _ c=>if c∈fg then lX Al (w++[c]) op [] 2 else Qk xE op (WA w c)
def KC:ml:=λ_ op _ c=>if c=47 then q9 VD op [] else if c∈lt then lX Kx [c] op [] 8 else none
def aName:ml:=λw op _ c=>if c∈lt then lX Kx (w++[c]) op [] 8 else VE (op++[w]) c [[nV,w]]
def Xp:ml:=λ_ op _ c=>if c=62 then kG op [[oE]] else none
def Jk:ml:=λw op _ c=>if c∈lt then lX VD (w++[c]) op [] 8 else if c=62/\op.getLast? = some w then kG op [] else none
def oJ:ml:=λ_ op _ c=>if c∈lt then lX Ak [c] op [] 8 else none
def KD:ml:=λw op _ c=>if c∈lt then lX Ak (w++[c]) op [] 8 else if c=58 then q9 vT op [[ZC,w,vT]] else if c=40 then q9 lH op [[ZC,w,lH]] else if c=61 then some (⟨Cn,w,op,[]⟩,[]) else if c=33 then some (⟨AQ,w,op,[]⟩,[]) else none
def tW:ml:=λw op _ c=>if c=34 then q9 jB op [[ZC,w,jB]] else none
def KG:ml:=λw op _ c=>if c=34 then some (⟨Zq,[],op,jQ⟩,[[ZC,w,Zq]]) else none
def KI:ml:=λ_ op _ c=>if c∈ws then Qk vT op (some c) else if c=126 then q9 Aj op [] else VE op c []
def KJ:ml:=λw op _ c=>if w=[] then(if c∈fg then some (⟨Aj,[c],op,[]⟩,[]) else none) else Qk vT op (L2.told (w++[c]))
def oH:ml:=λ_ op _ c=>if c=92 then q9 Yb op [] else if c=44 then q9 lH op [[AO]] else if c=41 then q9 Ky op [] else Qk lH op (some c)
def Jl:ml:=λ_ op _ c=>Qk lH op (some c)
def Jm:ml:=λ_ op _ c=>if c=34 then q9 Ky op [] else if c=38 then q9 Yc op [] else Qk jB op (some c)
def Xq:ml:=λw op _ c=>if c∈fg then lX Yc (w++[c]) op [] 2 else Qk jB op (WA w c)
def KL:ml:=λ_ op _ c=>VE op c []
def KN:ml:=λ_ op t c=>if c=38 then some (⟨Yd,[],op,t⟩,[]) else if c=34 then(if t=jQ\/t=Qj then q9 Ky op [] else none) else nS op t (some c)
def Xr:ml:=λw op t c=>if c∈fg then lX Yd (w++[c]) op t 2 else nS op t (WA w c)
def KO:ml:=λw op _ c=>if w++[c]=kF then kG op [] else if (w++[c]).isPrefixOf kF then some (⟨Jj,w++[c],op,[]⟩,[]) else if c=60 then some (⟨Jj,[c],op,[]⟩,w.map λk=>[j9,[k]]) else q9 Jj op ((w.map λk=>[j9,[k]])++[[j9,[c]]])
def VG:List (Tx×ml):=[(xE,Kz),(Al,KA),(AR,KC),(Kx,aName),(BF,Xp),(VD,Jk),(rS,oJ),(Ak,KD),(Cn,tW),(AQ,KG),(vT,KI),(Aj,KJ),(lH,oH),(Yb,Jl),(jB,Jm),(Yc,Xq),(Ky,KL),(Zq,KN),(Yd,Xr),(Jj,KO)]
def yt (s:MS)(c:Nat):nX:=match VG.lookup s.mode with
 | none=>none
 | some f=>f s.word s.opens s.talk c
def dS (s:MS):Dat:=.tp [ft s.mode,ft s.word,.tp (s.opens.map ft),ft s.talk]
def dE (e:Ev):Dat:=.tp (e.map ft)
def FR (es:List Ev):Dat:=.ls (es.map dE)
def mD (H:Hp)(a:Addr)(op:List Tx):Prop:=H a=some (.tup (op.map tx))
def lW (H:Hp)(v:V)(s:MS):Prop:=∃ p o,v=.ref p/\H p=some (.tup [tx s.mode,tx s.word,.ref o,tx s.talk])/\mD H o s.opens
def oi (H:Hp)(v:V)(e:Ev):Prop:=∃ a,v=.ref a/\H a=some (.tup (e.map tx))
inductive mv (H:Hp):List V->List Ev->Prop
 | nil:mv H [] []
 | cons {v:V} {e:Ev} {vs:List V} {es:List Ev}:oi H v e->mv H vs es->mv H (v::vs) (e::es)
def mI (H:Hp)(a:Addr)(es:List Ev):Prop:=∃ vs,H a=some (.lst vs)/\mv H vs es
def nr (G:Addr->Prop)(H:Hp)(v:V):nX->Prop
 | none=>v=.non
 | some (s,es)=>∃ p sa ea,v=.ref p/\H p=some (.tup [sa,.ref ea])/\lW H sa s/\mI H ea es/\G ea
theorem mD.mono (h:mD H a op)(g:fX H H'):mD H' a op:=g _ _ h
theorem lW.mono (h:lW H v s)(g:fX H H'):lW H' v s:=by obtain⟨p,o,e,h1,h2⟩:=h;exact⟨p,o,e,g _ _ h1,h2.mono g⟩
theorem oi.mono (h:oi H v e)(g:fX H H'):oi H' v e:=by obtain⟨a,e1,h1⟩:=h;exact⟨a,e1,g _ _ h1⟩
theorem mv.mono (h:mv H vs es)(g:fX H H'):mv H' vs es:=by
 induction h with
 | nil=>exact .nil
 | cons h1 h2 ih=>exact .cons (h1.mono g) ih
theorem mI.mono (h:mI H a es)(g:fX H H'):mI H' a es:=by obtain⟨vs,h1,h2⟩:=h;exact⟨vs,g _ _ h1,h2.mono g⟩
theorem nr.mono (h:nr G H v r)(g:fX H H'):nr G H' v r:=by
 cases r with
 | none=>exact h
 | some x=>obtain⟨s,es⟩:=x;obtain⟨p,sa,ea,e1,h1,h2,h3,h4⟩:=h;exact⟨p,sa,ea,e1,g _ _ h1,h2.mono g,h3.mono g,h4⟩
theorem nr.imp (h:nr G H v r)(k:∀ a,G a->G' a):nr G' H v r:=by
 cases r with
 | none=>exact h
 | some x=>obtain⟨s,es⟩:=x;obtain⟨p,sa,ea,e1,h1,h2,h3,h4⟩:=h;exact⟨p,sa,ea,e1,h1,h2,h3,k _ h4⟩
theorem mv.app (h:mv H vs es)(k:mv H us fs):mv H (vs++us) (es++fs):=by
 induction h with
 | nil=>exact k
 | cons h1 h2 ih=>exact .cons h1 ih
theorem mv.len {vs:List V}{es:List Ev}(h:mv H vs es):vs.length=es.length:=by
 induction h with
 | nil=>rfl
 | cons h1 h2 ih=>rw [uo,uo,ih]
theorem jR:∀ (l:List Tx),iq H (l.map ft) (l.map tx)
 | []=>by simp only [U6,iq]
 | x::l=>by simp only [uz,iq];exact⟨_,_,rfl,by simp only [ic];exact⟨rfl,rfl⟩,jR l⟩
theorem lW.dat (h:lW H v s):ic H (dS s) v:=by obtain⟨p,o,e,h1,h2⟩:=h;unfold dS;simp only [ic,iq];refine⟨p,_,e,h1,_,_,rfl,⟨rfl,rfl⟩,_,_,rfl,⟨rfl,rfl⟩,_,_,rfl,⟨o,_,rfl,h2,jR _⟩,_,_,rfl,⟨rfl,rfl⟩,rfl⟩
theorem oi.dat (h:oi H v e):ic H (dE e) v:=by obtain⟨a,e1,h1⟩:=h;unfold dE;simp only [ic];exact⟨a,_,e1,h1,jR _⟩
theorem mv.dat {es:List Ev}(h:mv H vs es):iq H (es.map dE) vs:=by
 induction h with
 | nil=>simp only [U6,iq]
 | cons h1 h2 ih=>simp only [uz,iq];exact⟨_,_,rfl,h1.dat,ih⟩
theorem mI.dat (h:mI H a es):ic H (FR es) (.ref a):=by obtain⟨vs,h1,h2⟩:=h;unfold FR;simp only [ic];exact⟨a,_,rfl,h1,h2.dat⟩
theorem Hz (hp:H p=none)(hp1:upd H p (.tup [.str (S m),.str (S w),.ref oa,.str (S t)]) p1=none)(ho:mD H oa op)(he:mI H ea es)(hg:G ea) : fX H (upd (upd H p (.tup [.str (S m),.str (S w),.ref oa,.str (S t)])) p1 (.tup [.ref p,.ref ea]))/\nr G (upd (upd H p (.tup [.str (S m),.str (S w),.ref oa,.str (S t)])) p1 (.tup [.ref p,.ref ea])) (.ref p1) (some (⟨m,w,op,t⟩,es)):=by have g1:fX H (upd H p (.tup [.str (S m),.str (S w),.ref oa,.str (S t)])):=za hp;have g2:=za (o:=.tup [.ref p,.ref ea]) hp1;refine⟨g1.trans g2,p1,.ref p,ea,rfl,zb,⟨p,oa,rfl,g2 _ _ zb,ho.mono (g1.trans g2)⟩,he.mono (g1.trans g2),hg⟩
theorem iV:mI (upd H q (.lst [])) q []:=⟨[],zb,.nil⟩
theorem mf {e:Ev}(hq:upd H p (.tup (e.map tx)) q=none):mI (upd (upd H p (.tup (e.map tx))) q (.lst [.ref p])) q [e]:= ⟨_,zb,.cons ⟨p,rfl,za hq _ _ zb⟩ .nil⟩
def rh (G:Addr->Prop)(H:Hp)(v:V):Option (Tx×List Ev)->Prop
 | none=>v=.non
 | some (t,es)=>∃ p ea,v=.ref p/\H p=some (.tup [tx t,.ref ea])/\mI H ea es/\G ea
theorem rh.mono (h:rh G H v r)(g:fX H H'):rh G H' v r:=by
 cases r with
 | none=>exact h
 | some x=>obtain⟨s,es⟩:=x;obtain⟨p,ea,e1,h1,h2,h3⟩:=h;exact⟨p,ea,e1,g _ _ h1,h2.mono g,h3⟩
theorem WB (hp:H p=none)(he:mI H ea es)(hg:G ea):fX H (upd H p (.tup [.str (S t),.ref ea]))/\rh G (upd H p (.tup [.str (S t),.ref ea])) (.ref p) (some (t,es)):= ⟨za hp,p,ea,rfl,zb,he.mono (za hp),hg⟩
theorem Jn (h1:H p=some (.tup [.str (S m),.str (S w),.ref oa,.str (S t)]))(ho:mD H oa op)(he:mI H ea es)(hg:G ea)(hp2:H p2=none) : nr G (upd H p2 (.tup [.ref p,.ref ea])) (.ref p2) (some (⟨m,w,op,t⟩,es)):=by have g2:=za (o:=.tup [.ref p,.ref ea]) hp2;exact⟨p2,.ref p,ea,rfl,zb,⟨p,oa,rfl,g2 _ _ h1,ho.mono g2⟩,he.mono g2,hg⟩
theorem EZ {K:Frag}{H:Hp}{a:Addr}{xs:List V}(h:H a=some (.tup xs)):nW K (.ref a) H (!xs.isEmpty):=.inr (.inl ⟨xs,ir.of h,rfl⟩)
theorem PM (xs:List V):my xs none (some (-1))=xs.dropLast:=by
 unfold my;rw [HT.mW,US,Nat.sub_zero];have:HT.iP xs.length xs.length (some (-1))=xs.length - 1:=by unfold HT.iP;simp only [];rw [ue (by decide)];lia
 rw [this,List.dropLast_eq_take]
theorem KP (xs:List V):my xs (some (-1)) none=xs.drop (xs.length - 1):=by
 unfold my;have:HT.iP xs.length 0 (some (-1))=xs.length - 1:=by unfold HT.iP;simp only [];rw [ue (by decide)];lia
 rw [this,HT.mW];exact Ga (by rw [gL];lia)
theorem map_dropLast (op:List Tx):(op.map tx).dropLast=op.dropLast.map tx:=by rw [List.map_dropLast]
theorem qh (g:fX H H')(h:H' p=none):H p=none:=by
 cases e:H p with
 | none=>rfl
 | some o=>rw [g _ _ e] at h;cases h
theorem Tc {α:Type}(xs:List α):mh xs (-1)=xs.getLast?:=by
 unfold mh pM;rw [ub (by decide)];cases xs with
 | nil=>rfl
 | cons x xs=>rw [ue (by rw [uo];omega),List.getLast?_eq_getElem?];simp only [UT];congr 1;simp;omega
theorem PL (l:List Tx):(l.map tx).all zN=true:=by rw [gP];intro v hv;obtain⟨x,_,rfl⟩:=U7.mp hv;rfl
theorem Tb {l:List V}(h:l.all zN=true):(l.drop n).all zN=true:=by rw [gP] at h ⊢;exact λv hv=>h v (List.mem_of_mem_drop hv)
theorem Ai (a b:Tx):(S a == S b)=decide (a=b):=by rw [UM,Ub,yq,Uy]
theorem NC (op:List Tx)(w:Tx):sd ((op.map tx).drop ((op.map tx).length - 1)) [.str (S w)]=decide (op.getLast? = some w):=by
 rcases List.eq_nil_or_concat op with rfl | ⟨l,z,rfl⟩
 ·rfl
 ·have e:((l++[z]).map tx).drop (((l++[z]).map tx).length - 1)=[tx z]:=by
   rw [UG,uc]
   simp
  rw [List.concat_eq_append,e,List.getLast?_append]
  simp [sd,nE,tx,Ai]
theorem EY (a:Tx)(l:List Tx):rW (.str (S a)) (l.map λx=>.str (S x))=decide (a∈l):=by
 unfold rW
 induction l with
 | nil=>rfl
 | cons x l ih=>rw [uz,U9,ih];show((S x == S a)||decide (a∈l))=decide (a∈x::l);rw [Ai,UM,Bool.or_eq_true,Uy,Uy,Uy,uq];exact⟨λh=>h.elim (λe=>.inl e.symm) .inr,λh=>h.elim (λe=>.inl e.symm) .inr⟩
theorem mD.updL (h:mD H a op)(hp:H p=some (.lst xs)):mD (upd H p (.lst ys)) a op:=by unfold mD at h ⊢;rw [zk (Kd h hp (by intro z;cases z))];exact h
theorem lW.updL (h:lW H v s)(hp:H p=some (.lst xs)):lW (upd H p (.lst ys)) v s:=by obtain⟨q,o,e,h1,h2⟩:=h;exact⟨q,o,e,by rw [zk (Kd h1 hp (by intro z;cases z))];exact h1,h2.updL hp⟩
theorem oi.updL (h:oi H v e)(hp:H p=some (.lst xs)):oi (upd H p (.lst ys)) v e:=by obtain⟨q,e1,h1⟩:=h;exact⟨q,e1,by rw [zk (Kd h1 hp (by intro z;cases z))];exact h1⟩
theorem mv.updL (h:mv H vs es)(hp:H p=some (.lst xs)):mv (upd H p (.lst ys)) vs es:=by
 induction h with
 | nil=>exact .nil
 | cons h1 h2 ih=>exact .cons (h1.updL hp) ih
def runM:MS->Ld->Except Nat (MS×List Ev)
 | s,[]=>.ok (s,[])
 | s,c::r=>match yt s c with
  | none=>.error 0
  | some (s',es)=>match runM s' r with
   | .error n=>.error (n+1)
   | .ok (s'',fs)=>.ok (s'',es++fs)
def Lz (s:MS)(r:nX):Prop:=∀ s' es,r=some (s',es)->s.word.length<=8->s'.word.length<=8/\s'.opens.length<=s.opens.length+1/\es.length<=10
def GA (n:Nat)(r:nX):Prop:=∀ s' es,r=some (s',es)->s'.word.length<=8/\s'.opens.length<=n/\es.length<=10
section
variable {n k:Nat} {m w t:Tx} {op:List Tx} {es:List Ev}
theorem GA.no:GA n none:=λ_ _ h=>by cases h
theorem GA.so {s:MS}(h1:s.word.length<=8)(h2:s.opens.length<=n)(h3:es.length<=10):GA n (some (s,es)):=λ_ _ h=>by cases h;exact⟨h1,h2,h3⟩
theorem GA.ite {p:Prop} [Decidable p]{a b:nX}(h1:p->GA n a)(h2:¬ p->GA n b):GA n (if p then a else b):=by
 by_cases h:p
 ·rw [ue h];exact h1 h
 ·rw [ub h];exact h2 h
theorem GA.come (h:op.length<=n)(h3:es.length<=10):GA n (q9 m op es):=GA.so (uZ _) h h3
theorem GA.told (h:op.length<=n):GA n (Qk m op o):=by
 cases o with
 | none=>exact GA.no
 | some c=>exact GA.come h (by show 1<=10;decide)
theorem GA.lX (hk:k<=8)(h:op.length<=n):GA n (lX m w op t k):=GA.ite (λ_=>GA.no) λz=>GA.so (by show w.length<=8;lia) h (uZ _)
theorem GA.shut (h:op.length<=n)(h3:es.length<=9):GA n (kG op es):=GA.ite (λ_=>GA.no) λ_=>GA.come (by rw [List.length_dropLast];lia) (by rw [uc];show es.length+1<=10;lia)
theorem GA.led (h:op.length<=n)(h3:es.length<=9):GA n (VE op c es):=
 GA.ite (λ_=>GA.come h (by lia)) λ_=>GA.ite (λ_=>GA.come h (by lia)) λ_=>GA.ite (λ_=>GA.ite (λ_=>GA.no) λ_=>GA.come h (by rw [uc];show es.length+1<=10;lia)) λ_=>GA.no
def FA (r:Option (Tx×List Ev)):Prop:=∀ t' es,r=some (t',es)->es.length<=10
theorem FA.no:FA none:=λ_ _ h=>by cases h
theorem FA.so (h:es.length<=10):FA (some (t,es)):=λ_ _ e=>by cases e;exact h
theorem FA.ite {p:Prop} [Decidable p]{a b:Option (Tx×List Ev)}(h1:FA a)(h2:FA b):FA (if p then a else b):=by split<;>assumption
theorem FA.B:FA (oB c):=.ite (.so (uZ _)) (.ite (.so (by show 1<=10;decide)) (.ite (.so (by show 2<=10;decide)) .no))
theorem FA.feed:FA (VF t c):=.ite .B (.ite (.ite (.so (by show 1<=10;decide)) .B) (.ite (.ite (.so (uZ _)) (.ite (.so (uZ _)) (.so (by show 1<=10;decide)))) (.ite (.so (by show 1<=10;decide)) .no)))
theorem GA.fed (h:op.length<=n):GA n (nS op t o):=by
 cases o with
 | none=>exact GA.no
 | some c=>
  simp only [nS];cases hf:VF t c with
  | none=>exact GA.no
  | some r=>exact GA.so (uZ _) h (FA.feed _ _ hf)
end
theorem Hy:∀ e∈VG,∀ (w:Tx) (op:List Tx) (t:Tx) (c:Nat) (s':MS) (es:List Ev),e.2 w op t c=some (s',es)->w.length<=8->s'.word.length<=8/\s'.opens.length<=op.length+1/\es.length<=10:=by
 have pre:∀ l:Tx,l.isPrefixOf kF=true->l.length<=8:=by intro l h;rw [gu] at h;have:=h.length_le;simp at this;lia
 intro e he w op t c s' es h hw;have k:op.length<=op.length+1:=UA _;have k1:(op++[w]).length<=op.length+1:=by rw [uc];exact ui _
 have ew:(w.map λk=>([j9,[k]]:Ev)).length<=8:=by rw [uk];exact hw
 refine(?_:GA (op.length+1) (e.2 w op t c)) _ _ h;simp only [VG,uq,gQ,GO] at he;rcases he with rfl | rfl | rfl | rfl | rfl | rfl | rfl | rfl | rfl | rfl | rfl | rfl | rfl | rfl | rfl | rfl | rfl | rfl | rfl | rfl;all_goals dsimp only [Kz,KA,KC,aName,Xp,Jk,oJ,KD,tW,KG,KI,KJ,oH,Jl,Jm,Xq,KL,KN,Xr,KO]
 all_goals repeat' first
  | exact .no
  | exact .told k
  | exact .lX (by decide) k
  | exact .fed k
  | exact .led k (by show 0<=9;decide)
  | exact .led k1 (by show 1<=9;decide)
  | exact .shut k (by show 0<=9;decide)
  | exact .shut k (by show 1<=9;decide)
  | exact .come k (by show 0<=10;decide)
  | exact .come k (by show 1<=10;decide)
  | exact .so (uZ _) k (by show 0<=10;decide)
  | exact .so (uZ _) k (by show 1<=10;decide)
  | exact .so hw k (by show 0<=10;decide)
  | exact .so (by show 1<=8;decide) k (by show 0<=10;decide)
  | refine .ite (λhq=>?_) λ_=>?_
 ·exact .so (pre _ hq) k (uZ _)
 ·exact .so (by show 1<=8;decide) k (uI ew (by decide))
 ·exact .come k (by rw [uc];show _+1<=10;lia)
theorem EX (s:MS)(c:Nat):Lz s (yt s c):=by
 intro s' es h hw;unfold yt at h;cases hl:VG.lookup s.mode with
 | none=>rw [hl] at h;cases h
 | some f=>
  rw [hl] at h
  have hm:(s.mode,f)∈VG:=by
   have:∀ (l:List (Tx×ml)),l.lookup s.mode=some f->(s.mode,f)∈l:=by
    intro l
    induction l with
    | nil=>intro z;cases z
    | cons e l ih=>
     intro z;rw [u5] at z;split at z
     ·rename_i hb;cases z;have:s.mode=e.1:=by simpa using hb
      rw [this];exact Us
     ·exact uN _ (ih z)
   exact this _ hl
  exact Hy _ hm _ _ _ _ _ _ h hw
theorem mv.get {H:Hp}{vs:List V}{es:List Ev}{i:Nat}{v:V}(h:mv H vs es)(e:vs[i]? = some v):∃ x,es[i]? = some x/\oi H v x:=by
 induction h generalizing i with
 | nil=>simp at e
 | cons h1 h2 ih=>
  cases i with
  | zero=>simp at e;subst e;exact⟨_,rfl,h1⟩
  | succ i=>simpa using ih (i:=i) (by simpa using e)
theorem KQ:∀ l:List Tx,xX (l.map ft)=0
 | []=>by simp only [U6,xX]
 | x::l=>by simp only [uz,xX,lb,KQ l,Nat.max_self]
theorem mH (s:MS):lb (dS s)<=2:=by unfold dS;simp only [lb,xX,KQ];decide
end L2
namespace L2
open PySem PySem.Spec PyProof.Rows
section
variable {κ:Type} [DecidableEq κ]
def iU (kvs:List (κ×V))(k:κ):Option V:=(kvs.find? λkv=>decide (kv.1=k)).map (·.2)
def putK (kvs:List (κ×V))(k:κ)(v:V):List (κ×V):= if (kvs.any λkv=>decide (kv.1=k))=true then kvs.map (λkv=>if kv.1=k then(kv.1,v) else kv) else kvs++[(k,v)]
def Dl (kvs:List (κ×V))(k:κ):List (κ×V):=kvs.filter λkv=>decide (kv.1≠k)
theorem Jo {p:κ×V}{r:List (κ×V)}{k:κ}(e:p.1=k):iU (p::r) k=some p.2:=by simp [iU,U0,e]
theorem Jp {p:κ×V}{r:List (κ×V)}{k:κ}(e:¬ p.1=k):iU (p::r) k=iU r k:=by simp [iU,U0,e]
theorem KR (k:κ):∀ kvs:List (κ×V),(kvs.any λkv=>decide (kv.1=k))=(iU kvs k).isSome
 | []=>rfl
 | p::r=>by
  rw [U9];by_cases e:p.1=k
  ·simp only [Jo e,UC e,Bool.true_or,Option.isSome_some]
  ·rw [Jp e,uF e,Bool.false_or];exact KR k r
theorem KS (kvs:List (κ×V))(k:κ)(v:V):(putK kvs k v).length<=kvs.length+1:=by
 unfold putK;split
 ·rw [uk];lia
 ·rw [uc,uo,UH];lia
theorem iZ.isSome_eq {o:Option V}{u:Option Value}(r:iZ o u):o.isSome=u.isSome:=by
 cases o with
 | none=>cases u with
  | none=>rfl
  | some _=>exact(show False from r).elim
 | some _=>cases u with
  | none=>exact(show False from r).elim
  | some _=>rfl
theorem iZ.getD {o:Option V}{u:Option Value}(r:iZ o u)(rd:RelV d d'):RelV (o.getD d) (u.getD d'):=by
 cases o with
 | none=>cases u with
  | none=>exact rd
  | some _=>exact(show False from r).elim
 | some _=>cases u with
  | none=>exact(show False from r).elim
  | some _=>exact r
theorem KV.val (r:KV kvs vs)(k:κ):iZ (iU kvs k) (valueAt vs k):=by
 unfold KV at r
 induction r with
 | nil=>exact True.intro
 | @cons p q ps qs h t ih=>
  obtain⟨h1,h2⟩:=h;by_cases e:p.1=k
  ·have e':q.1=k:=h1.symm.trans e;have b:valueAt (q::qs) k=some q.2:=by simp [valueAt,U0,e']
   rw [Jo e,b];exact h2
  ·have e':¬ q.1=k:=λz=>e (h1.trans z);have b:valueAt (q::qs) k=valueAt qs k:=by simp [valueAt,U0,e']
   rw [Jp e,b];exact ih
theorem KV.any {kvs:List (κ×V)}{vs:List (κ×Value)}(r:KV kvs vs)(k:κ):(kvs.any λkv=>decide (kv.1=k))=vs.any λkv=>decide (kv.1=k):=by
 unfold KV at r
 induction r with
 | nil=>rfl
 | cons h t ih=>rw [U9,U9,ih,h.1]
theorem KV.repl {kvs:List (κ×V)}{vs:List (κ×Value)}(r:KV kvs vs)(k:κ)(ry:RelV y u) : KV (kvs.map λkv=>if kv.1=k then(kv.1,y) else kv) (vs.map λkv=>if kv.1=k then(kv.1,u) else kv):=by
 unfold KV at r ⊢
 induction r with
 | nil=>exact .nil
 | @cons p q ps qs h t ih=>
  rw [uz,uz];refine .cons ?_ ih;obtain⟨h1,h2⟩:=h;by_cases e:p.1=k
  ·rw [ue e,ue (h1.symm.trans e)];exact⟨h1,ry⟩
  ·rw [ub e,ub (λz=>e (h1.trans z))];exact⟨h1,h2⟩
theorem KV.put (r:KV kvs vs)(k:κ)(ry:RelV y u):KV (putK kvs k y) (stored vs k u):=by
 unfold putK stored;rw [r.any k];by_cases e:(vs.any λkv=>decide (kv.1=k))=true
 ·rw [ue e,ue e];exact r.repl k ry
 ·rw [ub e,ub e];exact Paired.snoc r ⟨rfl,ry⟩
theorem KV.drop (r:KV kvs vs)(k:κ):KV (Dl kvs k) (without vs k):=by
 unfold KV at r ⊢;unfold Dl without
 induction r with
 | nil=>exact .nil
 | @cons p q ps qs h t ih=>
  obtain⟨h1,h2⟩:=h;rw [List.filter_cons,List.filter_cons];by_cases e:p.1=k
  ·have a:¬ decide (p.1≠k)=true:=by simp [e]
   have b:¬ decide (q.1≠k)=true:=by simp [h1.symm.trans e]
   rw [ub a,ub b];exact ih
  ·have e':¬ q.1=k:=λz=>e (h1.trans z);have a:decide (p.1≠k)=true:=by simp [e]
   have b:decide (q.1≠k)=true:=by simp [e']
   rw [ue a,ue b];exact .cons ⟨h1,h2⟩ ih
theorem KV.keys {kvs:List (κ×V)}{vs:List (κ×Value)}(r:KV kvs vs):kvs.map (·.1)=vs.map (·.1):=by
 unfold KV at r
 induction r with
 | nil=>rfl
 | cons h t ih=>rw [uz,uz,ih,h.1]
theorem KV.length {kvs:List (κ×V)}{vs:List (κ×Value)}(r:KV kvs vs):kvs.length=vs.length:=Paired.length r
end
theorem KU (r:RelV (kV k) u):(qm P w).is k u=true:=by
 cases k with
 | inl i=>obtain⟨t,e⟩:=(show ∃ t,u=Value.int i t from r);subst e;exact Kb P w i t
 | inr x=>obtain⟨t,e⟩:=(show ∃ t,u=Value.str x t from r);subst e;exact Kc P w x t
theorem VH:∀ {ks:List Key} {us:Lg},Vals (ks.map kV) us->ItemsAre (qm P w) ks us
 | [],_,r=>by rw [U6] at r;cases r;exact .nil
 | k::ks,_,r=>by
  rw [uz] at r;cases r with
  | cons h t=>exact .cons (KU h) (VH t)
abbrev KT (H:Hp):List (List Key×V)->List (List Key×Addr×Value)->Prop:=Paired λp q=>p.1=q.1/\H q.2.1=some (.tup (p.1.map kV))/\RelV p.2 q.2.2
theorem KT.val (r:KT H kvs xs)(k:List Key):iZ (iU kvs k) ((atKey xs k).map (·.2)):=by
 induction r with
 | nil=>exact True.intro
 | @cons p q ps qs h t ih=>
  obtain⟨h1,_,h2⟩:=h;by_cases e:p.1=k
  ·have e':q.1=k:=h1.symm.trans e;have b:atKey (q::qs) k=some q.2:=by simp [atKey,U0,e']
   rw [Jo e,b];exact h2
  ·have e':¬ q.1=k:=λz=>e (h1.trans z);have b:atKey (q::qs) k=atKey qs k:=by simp [atKey,U0,e']
   rw [Jp e,b];exact ih
theorem KT.repl {kvs:List (List Key×V)}{xs:List (List Key×Addr×Value)}(r:KT H kvs xs)(k:List Key)(ry:RelV y u) : KT H (kvs.map λkv=>if kv.1=k then(kv.1,y) else kv) (xs.map (putAt k u)):=by
 induction r with
 | nil=>exact .nil
 | @cons p q ps qs h t ih=>
  rw [uz,uz];refine .cons ?_ ih;obtain⟨h1,h2,h3⟩:=h;unfold putAt;by_cases e:p.1=k
  ·rw [ue e,ue (h1.symm.trans e)];exact⟨h1,h2,ry⟩
  ·rw [ub e,ub (λz=>e (h1.trans z))];exact⟨h1,h2,h3⟩
theorem KT.put (r:KT H kvs xs)(k:List Key)(hb:H b=some (.tup (k.map kV)))(ry:RelV y u) : KT H (putK kvs k y) (storedH xs k b u):=by
 have e:(kvs.any λkv=>decide (kv.1=k))=(atKey xs k).isSome:=by rw [KR,(r.val k).isSome_eq,Option.isSome_map]
 unfold putK storedH;rw [e];by_cases q:(atKey xs k).isSome=true
 ·rw [ue q,ue q];exact r.repl k ry
 ·rw [ub q,ub q];exact Paired.snoc r ⟨rfl,hb,ry⟩
theorem KT.keeps (r:KT H kvs xs)(ht:∀ b ys,H b=some (.tup ys)->H' b=some (.tup ys)):KT H' kvs xs:= Paired.mapP r λ_ _ z=>⟨z.1,ht _ _ z.2.1,z.2.2⟩
section
variable {P:Program} {w:World} {H:Hp} {h:Heap} {a:Addr}
theorem Dk (ok:lF P w H h)(e:Rd H a u):qC P w H h a u:=e.ok ok
theorem KW {kvs:List (Key×V)}(ok:lF P w H h)(e:Rd H a (.dK kvs)):kvs.length<=sizeLine/\(a == sysModules)=false/\∃ vs,KV kvs vs/\h.DictOf (qm P w) a vs:=
 show qC P w H h a (.dK kvs) from Dk ok e
theorem Hw {kvs:List (Key×V)}(ok:lF P w H h)(e:H a=some (.dK kvs)):kvs.length<=sizeLine/\(a == sysModules)=false/\∃ vs,KV kvs vs/\h.DictOf (qm P w) a vs:=KW ok (.inl e)
theorem Bo {ks:List Key}(ok:lF P w H h)(e:H a=some (.tup (ks.map kV))):(tupleKind (qm P w)).is h ks a:=by
 obtain⟨_,ij,r,o,h1,h2,n,h3⟩:=(show qC P w H h a (.tup (ks.map kV)) from ok a _ e)
 exact⟨o,ij.toArray,n,h1,h2,h3,by simpa using VH r⟩
theorem Ah {kvs:List (List Key×V)}(ok:lF P w H h)(e:Rd H a (.dT kvs)):kvs.length<=sizeLine/\(a == sysModules)=false /\ ∃ xs,KT H kvs xs/\h.DictOfH (tupleKind (qm P w)) a xs:=by
 obtain⟨z,y,xs,r,o,es,ep,h1,h2,h3,h4,h5⟩:=(show qC P w H h a (.dT kvs) from Dk ok e)
 refine⟨z,y,xs,r,o,es,ep,h1,h2,h3,h4,λx hx=>?_,h5⟩
 have all:∀ {l:List (List Key×V)} {m:List (List Key×Addr×Value)},KT H l m->∀ x∈m,(tupleKind (qm P w)).is h x.1 x.2.1:=by
  intro l m q
  induction q with
  | nil=>intro x hx;exact nomatch hx
  | @cons p q ps qs hq t ih=>
   intro x hx;rcases uq.mp hx with e | hx
   ·subst e;exact Bo ok (by rw [← hq.1];exact hq.2.1)
   ·exact ih x hx
 exact all r x hx
end
def lV (H:Hp)(a:Addr)(y:V)(r:Option V):Prop:= (∃ kvs k,Rd H a (.dK kvs)/\y=kV k/\r=iU kvs k)\/∃ kvs k b,Rd H a (.dT kvs)/\y=.ref b/\H b=some (.tup (k.map kV))/\r=iU kvs k
def pZ (H:Hp)(a:Addr)(y v:V)(H':Hp):Prop:= (∃ kvs k,H a=some (.dK kvs)/\y=kV k/\kvs.length<sizeLine/\H' = upd H a (.dK (putK kvs k v))) \/ ∃ kvs k b,H a=some (.dT kvs)/\y=.ref b/\H b=some (.tup (k.map kV))/\kvs.length<sizeLine/\H' = upd H a (.dT (putK kvs k v))
theorem lV.k {H:Hp}{a:Addr}{kvs:List (Key×V)}{k:Key}(e:H a=some (.dK kvs)):lV H a (kV k) (iU kvs k):=.inl ⟨kvs,k,.inl e,rfl,rfl⟩
theorem lV.t {k:List Key}(e:H a=some (.dT kvs))(eb:H b=some (.tup (k.map kV))):lV H a (.ref b) (iU kvs k):=.inr ⟨kvs,k,b,.inl e,rfl,eb,rfl⟩
theorem pZ.k {H:Hp}{a:Addr}{kvs:List (Key×V)}{k:Key}{v:V}(e:H a=some (.dK kvs))(hl:kvs.length<sizeLine):pZ H a (kV k) v (upd H a (.dK (putK kvs k v))):=.inl ⟨kvs,k,e,rfl,hl,rfl⟩
theorem pZ.t {kvs:List (List Key×V)}{k:List Key}(e:H a=some (.dT kvs))(eb:H b=some (.tup (k.map kV)))(hl:kvs.length<sizeLine) : pZ H a (.ref b) v (upd H a (.dT (putK kvs k v))):=.inr ⟨kvs,k,b,e,rfl,eb,hl,rfl⟩
section
variable {X:Cx} {pins:Lp} {σ:St} {H:Hp} {s:Shared} {a:Addr} {y v:V} {u r:Value} {o:Option V} {A:Around} {E:fV}
theorem Inv.big (I:Inv X pins σ H s):sysModules<s.heap.objs.size:=by have h:mainGlobals<s.heap.objs.size:=(I.mod.glob.keeps I.bk).lt;exact Nat.lt_trans (by decide) h
theorem Ta (hu:A.units+1<cLine)(I:Inv X pins σ H s)(g:lV H a y (some v))(ry:RelV y u)(h:∀ w' s',Inv X pins σ H s'->RelV v w'->Q w' s') : wpAny (model X.prog X.w) A (getItem (.ref a) u) Q E s:=by
 rcases g with⟨kvs,k,e,ey,l⟩ | ⟨kvs,k,b,e,ey,eb,l⟩
 ·subst ey;obtain⟨z,hd,vs,rel,dd⟩:=KW I.hok e;obtain⟨w',hw,rw'⟩:=iZ.some_of (v:=v) (o:=valueAt vs k) (by rw [l];exact rel.val k);exact wpAny_getItem_of (KU ry) dd.mapOf hw (h w' _ (I.tok _) rw')
 ·subst ey;cases (show u=Value.ref b from ry);obtain⟨z,hd,xs,rel,dd⟩:=Ah I.hok e;obtain⟨w',hw,rw'⟩:=iZ.some_of (v:=v) (o:=(atKey xs k).map (·.2)) (by rw [l];exact rel.val k);obtain⟨p,hp,hp2⟩:=uT.mp hw;refine wpAny_getItem_heap (He hu) (Bo I.hok eb) dd hp ?_;rw [hp2];exact h w' _ (I.tok _) rw'
theorem NB {h':Heap}(I:Inv X pins σ H s)(mu:Aa (H a))(hs:Heap.SameBut a s.heap h')(he:∃ q,h'.get? a=some q)(new:qC X.prog X.w (upd H a ob) h' a ob) :
  Inv X pins σ (upd H a ob) { s with heap:=h',toks:=t' }:=
 I.write (x:=a) (e:=a) mu (.inl rfl) (λb q hb z=>(hs.2 b hb).trans z) he new
theorem Ly {h':Heap}{kvs:List (Key×V)}(z:kvs.length<=sizeLine)(hd:(a == sysModules)=false)(rel:KV kvs vs)(dd:h'.DictOf (qm P w) a vs) : qC P w H' h' a (.dK kvs):=⟨z,hd,vs,rel,dd⟩
end
section
variable {X:Cx} {pins:Lp} {σ:St} {H:Hp} {s:Shared} {a:Addr} {kvs:List (Key×V)} {k:Key} {u:Value} {A:Around} {E:fV}
end
def t9 (i:Expr):Prop:=∀ ov iv,subscripted i false ov iv=operate [ov,iv] (getItem ov iv)
theorem NA {prog:Program}{w:World}{A:Around}{E:fV}{s:Shared}{env:Env}{value slice:Expr}{pos:Pos}{T id:String}{Q:fV} (hl:typeLookup (.type T) "__getitem__" = pure (some (.builtin id))) (hs:t9 slice) (h:wpAny (model prog w) A (eval value env) (λo s₁=>wpAny (model prog w) A (eval slice env) (λi s₂=>s₂.TypeIs o T/\wpAny (model prog w) A (getItem o i) Q E s₂) E s₁) E s) : wpAny (model prog w) A (eval (.Subscript value slice pos) env) Q E s:=by
 refine Subscript_ (um h (λo s₁ h₁=>um h₁ (λi s₂ h₂=>?_) λ_ _ x=>x) λ_ _ x=>x);obtain⟨hT,h₂⟩:=h₂;unfold subscriptTail;refine ua ?_;rw [getitemInPython_of_ne hT.not_modules];refine ua (wpAny_specialOf hT hl ?_);have fin:wpAny (model prog w) A (subscripted slice false o i) (λr s₃=>wpAny (model prog w) A (letTemporaryGo value o r >>= λ_=>pure r) Q E s₃) E s₂:=by rw [hs o i];exact wpAny_operating (um h₂ (λr s₃ h₃=>ua (wpAny_letTemporaryGo (ud h₃))) λ_ _ x=>x)
 first
  | exact ud (ua fin)
  | exact ua (ud (ua fin))
  | exact ua fin
theorem KY {pins:Lp}{s:Shared}(I:Inv X pins σ H s)(g:lV H a y o):s.TypeIs (.ref a) "dict":=by
 rcases g with⟨kvs,k,e,_,_⟩ | ⟨kvs,k,b,e,_,_,_⟩
 ·obtain⟨_,_,vs,_,dd⟩:=KW I.hok e;exact dd.typeIs
 ·obtain⟨_,_,xs,_,dd⟩:=Ah I.hok e;exact dd.typeIs
def DK (td ty:TE):TE:=λσ H Q=>td σ H λx H1=>ty σ H1 λy H2=>∃ a v,x=.ref a/\lV H2 a y (some v)/\Q v H2
section
variable {X:Cx} {o i e value:Expr} {pos pos' tpos:Pos} {td ty tv:TE}
theorem Nz (hu:X.A.units+1<cLine)(ho:PE X o td)(hi:PE X i ty)(hs:t9 i):PE X (.Subscript o i pos) (DK td ty):=by intro pins s σ H Q I h;refine NA PySem.F.slot_dict_getitem.lookup hs (iB (ho pins s σ H _ I h) λu s1 ⟨x,H1,I1,rx,q1⟩=>iB (hi pins s1 σ H1 _ I1 q1) λiv s2 zq=>?_);obtain⟨y,H2,I2,ry,a,v,ex,g,q2⟩:=zq;subst ex;obtain rfl:u=Value.ref a:=rx;exact⟨KY I2 g,Ta hu I2 g ry λw' s3 I3 rw'=>⟨v,H2,I3,rw',q2⟩⟩
end
theorem PK (h:Heap)(hb:sysModules<h.objs.size):qC P w H (h.push { cls:=.type "dict",data:=.dict #[] }) h.objs.size (.dK []):=
 ⟨uZ _,uO.mpr (Ne.symm (Ug hb)),[],.nil,Heap.DictOf.new h⟩
section
variable {X:Cx} {pos:Pos}
end
def Xs:List (TE×TE)->St->Hp->(List (V×V)->Hp->Prop)->Prop
 | [],_,H,Q=>Q [] H
 | (tk,tv)::r,σ,H,Q=>tk σ H λx H1=>tv σ H1 λy H2=>Xs r σ H2 λps H3=>Q ((x,y)::ps) H3
abbrev VV:List (V×V)->List (Value×Value)->Prop:=Paired λp q=>RelV p.1 q.1/\RelV p.2 q.2
def t4 (X:Cx)(pos:Pos)(keys:List (Option Expr))(values:Lh)(trs:List (TE×TE)):Prop:= ∀ (pins:Lp) (s:Shared) (σ:St) (H:Hp) (Q:List (V×V)->Hp->Prop),Inv X pins σ H s->Xs trs σ H Q -> fW X (evalPairs (pairTrees keys values X.env pos)) (λvs s'=>∃ ps H',Inv X pins σ H' s'/\VV ps vs/\Q ps H') X.xe s
theorem EW:t4 X pos [] [] []:=λpins s σ H Q I h=>pairTrees_nil_walk ⟨[],H,I,.nil,h⟩
theorem vU (hk:PE X k tk)(hv:PE X v tv)(hr:t4 X pos ks vs trs) :
  t4 X pos (some k::ks) (v::vs) ((tk,tv)::trs):=λpins s σ H Q I h=>
 pairTrees_cons_walk (iB (hk pins s σ H _ I h) λu s1 ⟨x,H1,I1,rx,q1⟩=>iB (hv pins s1 σ H1 _ I1 q1) λw2 s2 ⟨y,H2,I2,ry,q2⟩=>
  iB (hr pins s2 σ H2 _ I2 q2) λws s3 ⟨ps,H3,I3,rel,q3⟩=>⟨(x,y)::ps,H3,I3,.cons ⟨rx,ry⟩ rel,q3⟩)
def wa (kvs more:List (Key×V)):List (Key×V):=more.foldl (λacc kv=>putK acc kv.1 kv.2) kvs
theorem KV.merge:∀ {more:List (Key×V)} {rs:List (Key×Value)} {kvs:List (Key×V)} {vs:List (Key×Value)},KV more rs->KV kvs vs->KV (wa kvs more) (merged vs rs):=by
 intro more rs kvs vs r;unfold KV at r
 induction r generalizing kvs vs with
 | nil=>intro q;exact q
 | @cons p q ps qs h t ih=>
  intro r0;have e:KV (putK kvs p.1 p.2) (stored vs q.1 q.2):=by have:=r0.put p.1 h.2;rw [← h.1];exact this
  exact ih e
theorem Ql:∀ (more kvs:List (Key×V)),(wa kvs more).length<=kvs.length+more.length
 | [],kvs=>by show kvs.length<=kvs.length+0;omega
 | p::r,kvs=>by have h1:=Ql r (putK kvs p.1 p.2);have h2:=KS kvs p.1 p.2;show(wa (putK kvs p.1 p.2) r).length<=_;rw [uo];omega
theorem Xu:∀ {kvs:List (Key×V)} {ws:List (Value×Value)},VV (kvs.map λkv=>(kV kv.1,kv.2)) ws->∃ rs,Carries (qm P w) ws rs/\KV kvs rs
 | [],_,r=>by rw [U6] at r;cases r;exact⟨[],True.intro,.nil⟩
 | p::kvs,_,r=>by
  rw [uz] at r;cases r with
  | @cons a b as bs h t=>obtain⟨rs,c,q⟩:=Xu (P:=P) (w:=w) t;obtain⟨b1,b2⟩:=b;exact⟨(p.1,b2)::rs,⟨KU h.1,rfl,c⟩,.cons ⟨rfl,h.2⟩ q⟩
def Bh (trs:List (TE×TE)):TE:=λσ H Q=>∀ p,H p=none->Xs trs σ (upd H p (.dK [])) λps H2=>H2 p=some (.dK [])/\∃ kvs:List (Key×V),ps=kvs.map (λkv=>(kV kv.1,kv.2))/\kvs.length<=15/\Q (.ref p) (upd H2 p (.dK (wa [] kvs)))
theorem EV {keys:List (Option Expr)}{values:Lh}(h:t4 X pos keys values trs)(hall:keys.all (·.isSome)=true)(hl:keys.length=values.length)(h0:keys≠[]) (h15:keys.length<=15):PE X (.Dict keys values pos) (Bh trs):=by
 intro pins s σ H Q I q;have hn:=I.hok.fresh (ui s.heap.objs.size);have I1:=I.laid (a:=s.heap.objs.size) (o:=.dK []) (h':=s.heap.push { cls:=.type "dict",data:=.dict #[] }) (t':=s.toks) (λ_ _ q=>uf _ q) (ui _) (PK s.heap I.big);refine wpAny_Dict_walk (knd:=qm X.prog X.w) hall hl h0 h15 (iB (h pins _ σ _ _ I1 (q _ hn)) λws s2 zq=>?_);obtain⟨ps,H2,I2,rel,e,kvs,ep,lk,q2⟩:=zq;subst ep;obtain⟨rs,c,rk⟩:=Xu (P:=X.prog) (w:=X.w) rel;obtain⟨z,hd,vs0,r0,dd⟩:=Hw I2.hok e;cases r0;refine⟨rs,c,dd,λh' dd' hs=>⟨.ref s.heap.objs.size,_,?_,rfl,q2⟩⟩;have hz:(wa [] kvs).length<=sizeLine:=by have h1:=Ql kvs [];rw [UH] at h1;rw [uR];lia
 have he:∃ q,h'.get? s.heap.objs.size=some q:=let ⟨q,_,_,hq,_⟩:=dd';⟨q,hq⟩;exact NB I2 (by rw [e];exact True.intro) hs he (Ly hz hd (rk.merge .nil) dd')
structure M2 (X:Cx)(o:Expr)(m:Str)(apos:Pos)(e f:Expr)(cpos:Pos):Prop where
 base:attributeBase o m X.env (eval o X.env)=eval o X.env
 few:((backTo cpos (starEach [e,f] X.env)).all (λx=>!x.1)&&(backToKw cpos (keywordEach [] X.env)).all (λx=>x.1.isSome)
  && decide (([e,f]:Lh).length+([]:List Keyword).length+(if ([]:List Keyword).isEmpty then 0 else 1)<30))=true
 line:(apos.endLine == cpos.line)=true
 trees:backTo cpos (starEach [e,f] X.env)=[(false,eval e X.env),(false,eval f X.env)]
def FV (H:Hp)(a:Addr):Prop:=(∃ kvs,Rd H a (.dK kvs))\/∃ kvs,Rd H a (.dT kvs)
theorem Lx {pins:Lp}{s:Shared}(I:Inv X pins σ H s)(d:FV H a) : s.TypeIs (.ref a) "dict"/\(∀ b,Value.ref a=.ref b->∃ ob,s.heap.get? b=some ob/\ob.dict=none)/\(a == sysModules)=false:=by
 rcases d with⟨kvs,e⟩ | ⟨kvs,e⟩
 ·obtain⟨_,hd,vs,_,dd⟩:=KW I.hok e;refine⟨dd.typeIs,λb q=>?_,hd⟩;cases q;obtain⟨ob,_,_,h1,h2,_⟩:=dd;exact⟨ob,h1,h2.2.1⟩
 ·obtain⟨_,hd,xs,_,dd⟩:=Ah I.hok e;refine⟨dd.typeIs,λb q=>?_,hd⟩;cases q;obtain⟨ob,_,_,h1,h2,_⟩:=dd;exact⟨ob,h1,h2.2.1⟩
section
variable {X:Cx} {pins:Lp} {σ:St} {H:Hp} {s:Shared} {a:Addr} {y d:V} {u r:Value} {o:Option V} {A:Around} {E:fV}
theorem Lw (hu:A.units+1<cLine)(I:Inv X pins σ H s)(g:lV H a y o)(ry:RelV y u)(rd:RelV d r)(h:∀ w' s',Inv X pins σ H s'->RelV (o.getD d) w'->Q w' s') : wpAny (model X.prog X.w) A (call (.builtin "dict.get") [.ref a,u,r]) Q E s:=by
 rcases g with⟨kvs,k,e,ey,l⟩ | ⟨kvs,k,b,e,ey,eb,l⟩
 ·subst ey;obtain⟨z,hd,vs,rel,dd⟩:=KW I.hok e;refine GI UR dd.typeIs Gb (Hm _ _ _) (meets_dict_get_default (qm X.prog X.w) a (KU ry) hd r) ⟨_,dd.mapOf,h _ _ (I.tok _) ?_⟩;rw [l];exact(rel.val k).getD rd
 ·subst ey;cases (show u=Value.ref b from ry);obtain⟨z,hd,xs,rel,dd⟩:=Ah I.hok e;refine GI UR dd.typeIs Gb (Hm _ _ _) (meetsH_dict_get_default (tupleKind (qm X.prog X.w)) a b hd r) ⟨He hu,k,xs,Bo I.hok eb,dd,h _ _ (I.tok _) ?_⟩;rw [l];exact(rel.val k).getD rd
end
def Ye (td ty tx:TE):TE:=λσ H Q=>td σ H λx H1=>∃ a,x=.ref a/\FV H1 a/\ty σ H1 λy H2=>tx σ H2 λz H3=>∃ o,lV H3 a y o/\Q (o.getD z) H3
section
variable {X:Cx} {o e f:Expr} {apos cpos:Pos} {td ty tx:TE}
theorem PJ (hu:X.A.units+1<cLine)(ho:PE X o td)(he:PE X e ty)(hf:PE X f tx)(m:M2 X o "get" apos e f cpos):PE X (.Call (.Attribute o "get" apos) [e,f] [] cpos) (Ye td ty tx):=by
 intro pins s σ H Q I h;refine Hn m.base m.few m.line Hq UR PySem.F.type_dict_get (iB (ho pins s σ H _ I h) λu s1 zq=>?_);obtain⟨x,H1,I1,rx,a,ex,d,q1⟩:=zq;subst ex;obtain rfl:u=Value.ref a:=rx;obtain⟨t1,t2,_⟩:=Lx I1 d;refine⟨t1,t2,?_⟩;rw [m.trees]
 refine Calls.callWith_builtin rfl (Calls.evalArgs_plain (Calls.spliced_cons (iB (he pins s1 σ H1 _ I1 q1) λiv s2 ⟨y,H2,I2,ry,q2⟩=>
  Calls.spliced_cons (iB (hf pins s2 σ H2 _ I2 q2) λfv s3 ⟨z,H3,I3,rz,ov,g,q3⟩=>Calls.spliced_nil ?_))))
 exact Lw hu I3 g ry rz λw' s4 I4 rw'=>⟨_,H3,I4,rw',q3⟩
end
section
variable {X:Cx} {pins:Lp} {σ:St} {H:Hp} {s:Shared} {a:Addr} {kvs:List (Key×V)} {A:Around} {E:fV}
end
section
variable {X:Cx} {pins:Lp} {σ:St} {H:Hp} {s:Shared} {a:Addr} {y:V} {u:Value} {A:Around} {E:fV}
end
end L2
namespace L2
open PySem PySem.Spec PySem.Calls PyProof.Rows PySem.W
theorem PH:bootBuiltins "tuple" = some (.type "tuple"):=by decide +kernel
section
variable {X:Cx} {k j:Nat} {x:Str} {p pos:Pos} {e:Expr} {es:Lh} {tf:TE} {t:TA}
def Dh (P:Program)(w:World)(K:Frag)(mg:La)(base:Heap)(k:Nat)(f:Addr)(sp:Sp):Prop:=∃ fd ps,keepIn K (.ref f)=true/\Binds K fd ps []/\iO P w K mg base mJ k f fd ps sp
def Yg (P:Program)(w:World)(K:Frag)(mg:La)(base:Heap)(k:Nat)(tf:TE)(t:TA):TE:=λσ H Q=>tf σ H λv H0=>∃ f sp,v=.ref f/\Dh P w K mg base k f sp/\t σ H0 λvs H1=>sp vs H1 Q E0
theorem PF (hf:PE X (.Name x p) tf)(hr:ix j X.A)(hk:k<=j)(ha:PA X (e::es) t) (he:SE X e es:=by rfl) (hpl:(backTo pos (starEach es X.env)).any (·.1)=false:=by rfl) : PE X (.Call (.Name x p) (e::es) [] pos) (Yg X.prog X.w X.K X.mg X.base k tf t):=by intro pins s σ H Q I h;refine uV (iB (hf pins s σ H _ I h) λu s0 zq=>?_);obtain⟨v,H0,I0,r0,f,sp,ev,G,q⟩:=zq;subst ev;obtain rfl:u=Value.ref f:=r0;obtain⟨fd,ps,kp,b,G⟩:=G;refine Uo (h₀:=X.base) I0.ok.mod.kin kp (iB (ha pos pins s0 σ H0 _ I0 q) λus s1 ⟨vs,H1,I1,r,q⟩=>⟨I1.kIn,?_⟩) he hpl;exact Xh (dvs:=[]) (ds:=[]) G (hr.mono hk) b .nil A9 I1 r (by rw [uj];exact q)
end
inductive mF (w:World):List DictEntry->List (Key×V)->Prop
 | nil:mF w [] []
 | cons {e:DictEntry} {k:Key} {v:V} {es:List DictEntry} {kvs:List (Key×V)}:e.hash=tR w k->W7 k e.key=true->RelV v e.val->mF w es kvs->mF w (e::es) ((k,v)::kvs)
theorem mF.keys (h:mF w es kvs):∀ e∈es,∃ k,(qm P w).is k e.key=true/\e.hash=(qm P w).hash k:=by
 induction h with
 | nil=>intro e he;cases he
 | cons h1 h2 h3 h4 ih=>
  intro e he;rcases uq.mp he with rfl | he
  ·exact⟨_,h2,h1⟩
  ·exact ih e he
theorem mF.pairs {kvs:List (Key×V)}(h:mF w es kvs):∃ vs:List (Key×Value),PySem.Pairs (qm P w) es vs/\KV kvs vs/\vs.map (·.1)=kvs.map (·.1):=by
 induction h with
 | nil=>exact⟨[],.nil,.nil,rfl⟩
 | @cons e k v es kvs h1 h2 h3 h4 ih=>obtain⟨vs,i1,i2,i3⟩:=ih;exact⟨(k,e.val)::vs,.cons h2 rfl i1,.cons ⟨rfl,h3⟩ i2,by rw [uz,uz,i3]⟩
def KZ (w:World)(K:Frag)(a:Addr)(kvs:List (Key×V)):Prop:=(a == sysModules)=false/\∃ o es ep,K.lookup a=some o/\o.ExactDict/\o.data=.dict es ep/\mF w es.toList kvs/\(kvs.map (·.1)).Nodup
section
variable {X:Cx} {pins:Lp} {σ:L2.St} {H:Hp} {s:Shared} {a:Addr} {kvs:List (Key×V)}
theorem KZ.at (I:Inv X pins σ H s)(h:KZ X.w X.K a kvs):(a == sysModules)=false/\∃ vs,KV kvs vs/\s.heap.DictOf (qm X.prog X.w) a vs:=by obtain⟨h0,o,es,ep,h1,h2,h3,h4,h5⟩:=h;obtain⟨vs,i1,i2,i3⟩:=h4.pairs (P:=X.prog);exact⟨h0,vs,i2,o,es,ep,I.kIn a o h1,h2,h3,λe he=>h4.keys (P:=X.prog) e (by simpa using he),i1,by rw [i3];exact h5⟩
end
section
variable {X:Cx} {x:Str} {p apos cpos:Pos} {e f:Expr} {ty tx':TE} {kvs:List (Key×V)}
def Bg (kvs:List (Key×V))(ty:TE):TE:=λσ H Q=>ty σ H λy H1=>∃ k,y=kV k/\Q ((iU kvs k).getD .non) H1
theorem Ny (hm:∃ a,X.mg x=some (.ref a)/\KZ X.w X.K a kvs)(he:PE X e ty)(hg:Gl X x:=by rfl) (hd:(x == ("__debug__":Str))=false:=by decide) (hbase:attributeBase (.Name x p) "get" X.env (eval (.Name x p) X.env)=eval (.Name x p) X.env:=by rfl) (hfew:((backTo cpos (starEach [e] X.env)).all (λx=>!x.1)&&(backToKw cpos (keywordEach [] X.env)).all (λx=>x.1.isSome) && decide (([e]:Lh).length+([]:List Keyword).length+(if ([]:List Keyword).isEmpty then 0 else 1)<30))=true:=by rfl) (hline:(apos.endLine == cpos.line)=true:=by rfl) (htr:backTo cpos (starEach [e] X.env)=[(false,eval e X.env)]:=by rfl) : PE X (.Call (.Attribute (.Name x p) "get" apos) [e] [] cpos) (Bg kvs ty):=by
 intro pins s σ H Q I h;obtain⟨a,hm,D⟩:=hm;refine Hn hbase hfew hline Hq UR PySem.F.type_dict_get (wW I hg hm ?_ hd);obtain⟨h0,vs,rel,dd⟩:=D.at I;refine⟨dd.typeIs,λb q=>?_,?_⟩
 ·cases q;obtain⟨ob,_,_,h1,h2,_⟩:=dd;exact⟨ob,h1,h2.2.1⟩
 rw [htr];refine Calls.callWith_builtin rfl (Calls.evalArgs_plain (Calls.spliced_cons (iB (he pins s σ H _ I h) λiv s2 ⟨y,H2,I2,ry,k,ey,q2⟩=>Calls.spliced_nil ?_)));subst ey;obtain⟨_,vs2,rel2,dd2⟩:=D.at I2;refine GI UR dd2.typeIs Gb (PySem.F.args_dict_get_2 _ _) (meets_dict_get (qm X.prog X.w) a (KU ry) h0) ⟨_,dd2.mapOf,_,H2,I2.tok _,?_,q2⟩;exact(rel2.val k).getD rfl
end
section
variable {X:Cx} {a:Expr} {ta:TE}
def Bf (K:Frag)(ta:TE):TT:=λσ H Q=>ta σ H λx H'=>∃ k,nW K x H' k/\Q k H'
theorem S9 {K:Frag}(hK:X.K=K)(ha:PE X a ta)(he:∀ whole,isTrue a X.env whole=(do let v ← whole;standAt a.pos;holding [v] (truthy v)):=by intro _;rfl):PT X a (Bf K ta):=by subst hK;exact Se ha he
end
section
variable {X:Cx}
def tm (K:Frag)(n:String):List V->Hp->VK->Prop:=λxs H Q=>∃ x t b,xs=[x,.ty n]/\lR K H x t/\PySem.W.kitOne K t (.type n)=some b/\Q (.bl b) H
theorem S8 {K:Frag}{n:String}(hK:X.K=K):jx X (.builtin "isinstance") (tm K n):=by subst hK;intro pins s σ H xs us Q I r h;obtain⟨x,t,b,rfl,ty,e,q⟩:=h;exact Km pins s σ H _ us Q I r ⟨x,n,t,b,rfl,ty,e,q⟩
def DJ:R2:=λx y H Q=>∃ a b xs ys,x=.ref a/\y=.ref b/\H a=some (.tup xs)/\H b=some (.tup ys)/\xs.length+ys.length<=1000000/\∀ p H',fX H H'->H' p=some (.tup (xs++ys))->Q (.ref p) H'
theorem EU:iY X (binaryOp .Add) DJ:=by
 intro pins s σ H x y v u Q I rx ry h;obtain⟨a,b,xs,ys,rfl,rfl,ha,hb,hz,q⟩:=h;by_cases hx:xs=[]
 ·subst hx;cases rx;cases ry;obtain⟨ij,r1,p1,_⟩:=I.tuple (ir.of ha);obtain⟨its2,r2,p2,_⟩:=I.tuple (ir.of hb);obtain⟨⟨cls,dd,data,sl⟩,ho,hc,n,hd⟩:=id p1;obtain⟨⟨cls2,dd2,data2,sl2⟩,ho2,hc2,n2,hd2⟩:=id p2;simp only at hc hd hc2 hd2;subst hc hd hc2 hd2;have e0:ij=[]:=r1.nil_iff.mpr rfl
  exact GF ⟨_,ho,rfl⟩ ⟨_,ho2,rfl⟩ gW Gu gX gK (gA _ _)
   (tuple_addW0 a b ij.toArray its2.toArray n n2 dd dd2 sl sl2 (by simp [e0])) ⟨ho,ho2,.ref b,H,I,rfl,q b H (fX.refl H) (by rw [Ue];exact hb)⟩
 ·refine Pt pins s σ H _ _ v u Q I rx ry ⟨a,b,xs,ys,rfl,rfl,ir.of ha,ir.of hb,hx,by rw [uR];lia,λe=>q a H (fX.refl H) (by rw [e,uj];exact ha),λ_ p hp=>q p _ (za hp) zb⟩
def Yh:V->List V->Hp->VK->Prop:=λx vs H Q=>∃ l y,x=.str (S l)/\vs=[.str (S y)]/\Q (.bl (y.isPrefixOf l)) H
theorem PD (l y:Ld):Txt.startswith (S l) (S y)=y.isPrefixOf l:=by
 unfold Txt.startswith Builtin.Str.subAt;rw [Zn,Zn];by_cases h:y.length<=l.length
 ·have h1:decide (0+y.length<=l.length)=true:=by simpa using h
  rw [h1,Bool.true_and];have e:(S l).cps.extract 0 (0+y.length)=(l.take y.length).toArray:=by simp [S]
  rw [e];rw [UM,Ub,gu,List.prefix_iff_eq_take];constructor
  ·intro z;have:=congrArg Array.toList z;simp [S] at this;exact this.symm
  ·intro z;rw [← z];rfl
 ·have h1:decide (0+y.length<=l.length)=false:=by simpa using h
  rw [h1,Gi];symm;rw [← Bool.not_eq_true,gu];intro z;exact h z.length_le
theorem Xv:oN X "str.startswith" Yh:=by
 intro pins s σ H x xs v us Q I rx rs h;obtain⟨l,y,rfl,rfl,q⟩:=h;obtain⟨t,rfl⟩:=rx;obtain⟨u,rfl,t',rfl⟩:=vals1 rs;refine SC.startswith ⟨.bl _,H,I,rfl,?_⟩
 rw [PD];exact q
end
theorem Ou {l:Ld}(G:Nat->V->Hp->Prop)(hG:∀ c v H1 H2,G c v H1->fX H1 H2->G c v H2)(hU:∀ c v H1 D xs ys,G c v H1->H1 D=some (.lst xs)->G c v (upd H1 D (.lst ys)))(hl:l.length<=sizeLine) (he:∀ c∈l,∀ H1,fX H H1->∀ R:VK,(∀ v H2,fX H1 H2->G c v H2->R v H2)->te (some (.str (S [c]))::σ) H1 R) (hq:∀ D H2 ys,H D=none->fX H H2->ys.length=l.length->(∀ (i:Nat) c v,l[i]? = some c->ys[i]? = some v->G c v H2)->H2 D=some (.lst ys)->Q (.ref D) H2):D0 (AA (S l)) Vx te σ H Q:=by
 intro D hD;refine⟨λi m ys H'=>m=l.length - i/\i<=l.length/\ys.length=i/\(∀ (j:Nat) c v,l[j]? = some c->ys[j]? = some v->G c v H')/\fX H H'/\H' D=some (.lst ys),⟨l.length,by simp,uZ _,rfl,by simp,za hD,zb⟩,?_⟩;rintro i m ys H' ⟨rfl,hi,hy,hg,sm,hDl⟩;refine⟨hDl,?_⟩;by_cases hlt:i<l.length
 ·refine .inr ⟨by show i<(S l).cps.size;rw [V3];exact hlt,λv H2 y=>?_⟩;obtain⟨rfl,c,hc,rfl⟩:=y;rw [Dt] at hc;have hm:c∈l:=uQ hc;simp only [Vx,↓reduceIte];refine he c hm H2 sm _ λv H4 s4 gv=>?_;have hD4:=s4 D _ hDl;refine⟨hD4,by lia,l.length - (i+1),by lia,rfl,hlt,by simp [hy],λj c' u e1 e2=>?_,?_,zb⟩
  ·refine hU _ _ _ _ _ _ ?_ hD4;by_cases hj:j<ys.length
   ·rw [UE hj] at e2;exact hG _ _ _ _ (hg j c' u e1 e2) s4
   ·rw [UB (by lia)] at e2
    have hj':j - ys.length=0:=by
     by_cases hz:j - ys.length=0
     ·exact hz
     ·rw [UD.mpr (by simp;lia)] at e2;cases e2
    have ej:j=i:=by lia
    subst ej;rw [hj'] at e2;simp at e2;subst e2;rw [hc] at e1;cases e1;exact gv
  ·intro b o e;rw [zk (zv e hD)];exact s4 b o (sm b o e)
 ·have e:i=l.length:=by lia
  subst e;exact .inl ⟨by show(S l).cps.size<=l.length;rw [V3];exact ui _,hq D H' ys hD sm hy hg hDl⟩
section
variable {X:Cx} {pins:Lp} {σ:L2.St} {H:Hp} {s:Shared} {h':Heap}
end
section
variable {X:Cx}
end
theorem me {A:Around}(hr:ix k A):A.units+64<cLine:=hr.units
section
variable {X:Cx}
def DI:List V->Hp->VK->Prop:=λxs H Q=>∃ k,xs=[.bl k]/\Q (.int (if k then 1 else 0)) H
theorem S7:jx X (.type "int") DI:=by intro pins s σ H xs us Q I r h;exact SQ pins s σ H xs us Q I r (.inr h)
end
theorem ig.fnv {P:Program}{w:World}{K:Frag}{mg:La}{base:Heap}{j k:Nat}{x:Str}{ps:Lj}{sp:Sp}{a:Addr}(F:ig P w K mg base j x ps sp)(h:mg x=some (.ref a))(hk:j<=k):Dh P w K mg base k a sp:=by
 obtain⟨f,fd,kp,b,m,G⟩:=F.ex;have e:f=a:=by have:=m.1;rw [h] at this;cases this;rfl
 subst e;exact⟨fd,ps,kp,b,G.mono hk⟩
section
variable {X:Cx} {K:Frag} {o:Expr} {to:TE} {name:Str} {apos cpos:Pos} {T id:String} {r:V->List V->Hp->VK->Prop}
theorem Ot (hK:X.K=K)(pa:PlainAttrs T)(slot:Slot T name id)(hty:typeOf (.builtin id)=pure (.type "method_descriptor"))(hm:oN X id r)(ho:PE X o to) (hbase:attributeBase o name X.env (eval o X.env)=eval o X.env:=by rfl) (hline:(apos.endLine == cpos.line)=true:=by rfl):PE X (.Call (.Attribute o name apos) [] [] cpos) (pA K T r to):=by subst hK;exact Nk pa slot hty hm ho hbase hline
end
end L2
namespace HT
open PySem PySem.Spec PySem.Calls PyProof.Rows PySem.W
section
variable {prog:Program} {w:World} {A:Around} {E:fV} {s:Shared}
theorem Qf {t sl:Addr}{items:Array Value}{vl vu:Value}{lo hi:Option Int}{Q:fV}(ht:IsTup s.heap t items)(hs:s.heap.IsSliceOf sl vl vu .none)(pl:IsPart vl lo)(pu:IsPart vu hi) (hw:iP items.size 0 lo=0/\iP items.size items.size hi=items.size) (h:Q (.ref t) s):wpAny (model prog w) A (getItem (.ref t) (.ref sl)) Q E s:=by
 obtain⟨os,hos,hcs,hds⟩:=id hs;have hTs:s.TypeIs (.ref sl) "slice":=⟨os,hos,hcs⟩
 unfold getItem
 try with_reducible refine u4 ?_
 first | refine ua (ud ?_) | skip
 refine ua (Hj ht.typeIs (by decide) ?_)
 refine ua (GV (name:=Str.ofString "__getitem__") ht.typeIs PyProof.Rows.slot_tuple_getitem
  (wpAny_call_entry PyProof.Rows.slot_tuple_getitem ht.typeIs GL ?_ (GR _ _)))
 show wpAny _ _ (Builtin.Tuple.tupleItemsOf (.ref t) >>= _) _ _ s;refine ua (hJ ht ?_);refine ua (gm hTs ?_);rw [ue (by decide)];refine ua (kc hs pl pu ?_);have hyes:(((iP items.size 0 lo:Nat):Int) == 0&&(1:Int) == 1&&(iP items.size items.size hi - iP items.size 0 lo) == items.size)=true:=by rw [hw.1,hw.2];simp
 show wpAny _ _ (if (((iP items.size 0 lo:Nat):Int) == 0&&(1:Int) == 1&&(iP items.size items.size hi - iP items.size 0 lo) == items.size)=true then _ else _) _ _ s;rw [ue hyes];unfold Builtin.Tuple.tupleIsExact;refine ua (ua (gm ht.typeIs (ud ?_)));rw [ue (by decide)];exact ua (wpAny_rule (ud ⟨_,rfl,ud h⟩))
end
end HT
namespace L2
open PySem PySem.Spec PySem.Calls PyProof.Rows PySem.W
section
variable {X:Cx}
def sY:V->Option Int->Option Int->Hp->VK->Prop:=λx lo hi H Q=>∃ a xs,x=.ref a/\H a=some (.tup xs)/\∀ p H',fX H H'->H' p=some (.tup (my xs lo hi))->Q (.ref p) H'
theorem ET:rj X sY:=by
 intro pins s σ H x v vl vu lo hi sl Q I rx hs pl pu h;obtain⟨a,xs,rfl,hx,q⟩:=h;by_cases hw:HT.iP xs.length 0 lo=0/\HT.iP xs.length xs.length hi=xs.length
 ·cases rx;obtain⟨ij,r,ht,hz⟩:=I.tuple (ir.of hx);have hlen:ij.toArray.size=xs.length:=by rw [uh];exact r.length.symm
  refine⟨"tuple",_,PyProof.Rows.slot_tuple_getitem.lookup,ht.typeIs,?_⟩;refine HT.Qf ht hs pl pu (by rw [hlen];exact hw) ⟨.ref a,H,I,rfl,q a H (fX.refl H) ?_⟩;rw [hx];unfold my;rw [hw.1,hw.2,US,Nat.sub_zero,UW]
 ·exact Nn pins s σ H _ v vl vu lo hi sl Q I rx hs pl pu ⟨a,xs,rfl,ir.of hx,hw,λp hp=>q p _ (za hp) zb⟩
end
theorem zo (h:upd H p o q=none):H q=none:=by
 unfold upd at h;by_cases e:q=p
 ·rw [ue e] at h;cases h
 ·rw [ub e] at h;exact h
theorem DH:∀ {l:Ld} {ys:List V},ys.length=l.length->(∀ (i:Nat) c v,l[i]? = some c->ys[i]? = some v->oi H v [j9,[c]])->mv H ys (l.map λk=>[j9,[k]])
 | [],[],_,_=>.nil
 | c::l,y::ys,h,hG=>.cons (hG 0 c y rfl rfl) (DH (by simpa using h) λi c' v e1 e2=>hG (i+1) c' v (by simpa using e1) (by simpa using e2))
 | [],_::_,h,_=>by simp at h
 | _::_,[],h,_=>by simp at h
structure QE (X:Cx)(e:Expr)(t:TE):Prop where
 h:PE X e t
structure QT (X:Cx)(e:Expr)(t:TT):Prop where
 h:PT X e t
structure QW (X:Cx)(e:Expr)(t:TT):Prop where
 h:PW X e t
structure QA (X:Cx)(es:Lh)(t:TA):Prop where
 h:PA X es t
structure QS (X:Cx)(st:Stmt)(t:TS):Prop where
 h:PS X st t
structure n8 (X:Cx)(st:List Stmt)(t:TS):Prop where
 h:lS X st t
structure QI (X:Cx)(tg iter:Expr)(wi:TI):Prop where
 h:PI X tg iter wi
structure QG (X:Cx)(target:Expr)(t:TG):Prop where
 h:PG X target t
structure Ay (X:Cx)(ts:Lh)(t:sr):Prop where
 h:t6 X ts t
structure QO (X:Cx)(e:Option Expr)(t:TO):Prop where
 h:PO X e t
structure QTs (X:Cx)(ifs:Lh)(t:TT):Prop where
 h:tZ X ifs t
section
set_option autoImplicit true
set_option relaxedAutoImplicit true
theorem qN {X:Cx}(ha:QE X e te)(hr:QA X es t)(hs:SE X e es:=by rfl):QA X (e::es) (jl te t):=⟨wX (ha:=ha.h) (hr:=hr.h) (hs:=hs)⟩
theorem zC:QA X [] i8:=⟨JI ⟩
theorem Ci {j pos}(h:x=S l):QE X (.Constant (.str x) j pos) (tC (.str (S l))):=⟨Cj (h:=h)⟩
theorem kH {X:Cx}{K:Frag}{e:Expr}{te:TE}{f:Str}{pos:Pos}(hK:X.K=K)(he:QE X e te)(hb:attributeBase e f X.env (eval e X.env)=eval e X.env:=by rfl):QE X (.Attribute e f pos) (rH K te f):=⟨LH (hK:=hK) (he:=he.h) (hb:=hb)⟩
theorem WC {b j pos}:QE X (.Constant (.bool b) j pos) (tC (.bl b)):=⟨Lk ⟩
theorem DV {X:Cx}(hm:X.mg x=none)(hv:bootBuiltins x=some u)(r:RelV v u)(hg:Gl X x:=by rfl) (hn:x≠"__name__":=by decide) (hd:(x == ("__debug__":Str))=false:=by decide):QE X (.Name x pos) (tC v):=⟨LQ (hm:=hm) (hv:=hv) (r:=r) (hg:=hg) (hn:=hn) (hd:=hd)⟩
theorem Yi {X:Cx}{id:String}{K:Frag}(hK:X.K=K)(pa:PlainAttrs T)(slot:Slot T name id)(hty:typeOf (.builtin id)=pure (.type "method_descriptor"))(hm:oN X id r)(ho:QE X o to)
  (hbase:attributeBase o name X.env (eval o X.env)=eval o X.env:=by rfl) (hline:(apos.endLine == cpos.line)=true:=by rfl):QE X (.Call (.Attribute o name apos) [] [] cpos) (pA K T r to):=⟨Ot (hK:=hK) (pa:=pa) (slot:=slot) (hty:=hty) (hm:=hm) (ho:=ho.h) (hbase:=hbase) (hline:=hline)⟩
theorem vy {X:Cx}{id:String}{K:Frag}(hK:X.K=K)(pa:PlainAttrs T)(slot:Slot T name id)(hty:typeOf (.builtin id)=pure (.type "method_descriptor"))(hm:oN X id r)(ho:QE X o to)(ha:QA X (e::es) t)
  (hbase:attributeBase o name X.env (eval o X.env)=eval o X.env:=by rfl)
  (hfew:((backTo cpos (starEach (e::es) X.env)).all (λx=>!x.1)&&(backToKw cpos (keywordEach [] X.env)).all (λx=>x.1.isSome)
   && decide ((e::es).length+([]:List Keyword).length+(if ([]:List Keyword).isEmpty then 0 else 1)<30))=true:=by rfl)
  (hline:(apos.endLine == cpos.line)=true:=by rfl) (hs:SE X e es:=by rfl) (hplain:(backTo cpos (starEach es X.env)).any (·.1)=false:=by rfl) :
  QE X (.Call (.Attribute o name apos) (e::es) [] cpos) (Ao K T r to t):=⟨LP (hK:=hK) (pa:=pa) (slot:=slot) (hty:=hty) (hm:=hm) (ho:=ho.h) (ha:=ha.h) (hbase:=hbase) (hfew:=hfew) (hline:=hline) (hs:=hs) (hplain:=hplain)⟩
theorem zK {X:Cx}{id:String}(hc:jx X (.builtin id) r)(hg:Gl X x)(hm:X.mg x=none)(hv:bootBuiltins x=some (.builtin id))(ha:QA X (e::es) t)(hn:x≠"__name__":=by decide) (hdb:(x == ("__debug__":Str))=false:=by decide)
  (he:SE X e es:=by rfl) (hpl:(backTo pos (starEach es X.env)).any (·.1)=false:=by rfl):QE X (.Call (.Name x p) (e::es) [] pos) (oU r t):=⟨RY (hc:=hc) (hg:=hg) (hm:=hm) (hv:=hv) (ha:=ha.h) (hn:=hn) (hdb:=hdb) (he:=he) (hpl:=hpl)⟩
theorem Rc {X:Cx}(F:ig X.prog X.w X.K X.mg X.base k x ps sp)(hr:ix j X.A)(hk:k<=j)(ha:QA X (e::es) t)(hg:Gl X x:=by rfl) (hdb:(x == ("__debug__":Str))=false:=by decide)
  (he:SE X e es:=by rfl) (hpl:(backTo pos (starEach es X.env)).any (·.1)=false:=by rfl):QE X (.Call (.Name x p) (e::es) [] pos) (yp sp [] E0 t):=⟨RQ (F:=F) (hr:=hr) (hk:=hk) (ha:=ha.h) (hg:=hg) (hdb:=hdb) (he:=he) (hpl:=hpl)⟩
theorem JP {X:Cx}(F:ig X.prog X.w X.K X.mg X.base k x ps sp)(hr:ix j X.A)(hk:k<=j)(hg:Gl X x:=by rfl) (hdb:(x == ("__debug__":Str))=false:=by decide):QE X (.Call (.Name x p) [] [] pos) (yp sp [] E0 i8):=⟨SG (F:=F) (hr:=hr) (hk:=hk) (hg:=hg) (hdb:=hdb)⟩
theorem K0 {X:Cx}(F:sD X.prog X.w X.K X.mg X.base k x ps sp)(hr:Zp j X.A)(hk:k<=j)(ha:QA X (e::es) t)(hg:Gl X x:=by rfl) (hdb:(x == ("__debug__":Str))=false:=by decide)
  (he:SE X e es:=by rfl) (hpl:(backTo pos (starEach es X.env)).any (·.1)=false:=by rfl):QE X (.Call (.Name x p) (e::es) [] pos) (yp sp [] E0 t):=⟨PN (F:=F) (hr:=hr) (hk:=hk) (ha:=ha.h) (hg:=hg) (hdb:=hdb) (he:=he) (hpl:=hpl)⟩
theorem Rb {X:Cx}(F:n9 X.prog X.w X.K X.mg X.base k x ps sp)(hr:ix j X.A)(hk:k<=j)(ha:QA X (e::es) t)(hg:Gl X x:=by rfl) (hdb:(x == ("__debug__":Str))=false:=by decide)
  (he:SE X e es:=by rfl) (hpl:(backTo pos (starEach es X.env)).any (·.1)=false:=by rfl):QE X (.Call (.Name x p) (e::es) [] pos) (yp sp [] E0 t):=⟨PU (F:=F) (hr:=hr) (hk:=hk) (ha:=ha.h) (hg:=hg) (hdb:=hdb) (he:=he) (hpl:=hpl)⟩
theorem JQ {X:Cx}(hc:jx X (.type T) r)(hg:Gl X x)(hm:X.mg x=none)(hv:bootBuiltins x=some (.type T))(ha:QA X (e::es) t)(hn:x≠"__name__":=by decide) (hdb:(x == ("__debug__":Str))=false:=by decide)
  (he:SE X e es:=by rfl) (hpl:(backTo pos (starEach es X.env)).any (·.1)=false:=by rfl):QE X (.Call (.Name x p) (e::es) [] pos) (oU r t):=⟨SN (hc:=hc) (hg:=hg) (hm:=hm) (hv:=hv) (ha:=ha.h) (hn:=hn) (hdb:=hdb) (he:=he) (hpl:=hpl)⟩
theorem Ra {X:Cx}(hf:QE X (.Name x p) tf)(hr:ix j X.A)(hk:k<=j)(ha:QA X (e::es) t)
  (he:SE X e es:=by rfl) (hpl:(backTo pos (starEach es X.env)).any (·.1)=false:=by rfl) :
  QE X (.Call (.Name x p) (e::es) [] pos) (Yg X.prog X.w X.K X.mg X.base k tf t):=⟨PF (hf:=hf.h) (hr:=hr) (hk:=hk) (ha:=ha.h) (he:=he) (hpl:=hpl)⟩
theorem Xw {X:Cx}(hx:nj X E)(F:n9 X.prog X.w X.K X.mg X.base k x ps sp)(hr:ix j X.A)(hk:k<=j)(ha:QA X (e::es) t)(hg:Gl X x:=by rfl) (hdb:(x == ("__debug__":Str))=false:=by decide)
  (he:SE X e es:=by rfl) (hpl:(backTo pos (starEach es X.env)).any (·.1)=false:=by rfl):QE X (.Call (.Name x p) (e::es) [] pos) (V6 sp E t):=⟨PY (hx:=hx) (F:=F) (hr:=hr) (hk:=hk) (ha:=ha.h) (hg:=hg) (hdb:=hdb) (he:=he) (hpl:=hpl)⟩
theorem qo {X:Cx}(h:X.mg x=some (.ref a))(hg:Gl X x:=by rfl) (hd:(x == ("__debug__":Str))=false:=by decide):QE X (.Name x pos) (tC (.ref a)):=⟨LG (h:=h) (hg:=hg) (hd:=hd)⟩
theorem Oq (ho:iY X (compareOp op) r)(ha:QE X a ta)(hb:QE X b tb)(hm:behindInMarks op b=false):QE X (.Compare a [op] [b] pos) (nO r ta tb):=⟨PC (ho:=ho) (ha:=ha.h) (hb:=hb.h) (hm:=hm)⟩
theorem jy {X:Cx}(h:∃ u,X.mg x=some u/\RelV v u)(hg:Gl X x:=by rfl) (hd:(x == ("__debug__":Str))=false:=by decide):QE X (.Name x pos) (tC v):=⟨HE (h:=h) (hg:=hg) (hd:=hd)⟩
theorem w6 (hc:QT X c tA)(ha:QE X a ta)(hb:QE X b tb):QE X (.IfExp c a b pos) (BP tA ta tb):=⟨Rw (hc:=hc.h) (ha:=ha.h) (hb:=hb.h)⟩
theorem ze {i j pos}:QE X (.Constant (.int i) j pos) (tC (.int i)):=⟨DX ⟩
theorem VI (hr:og X r)(ha:QE X a ta)(hb:QE X b tb)(hs:WT b):QE X (.Subscript a b pos) (nO r ta tb):=⟨HI (hr:=hr) (ha:=ha.h) (hb:=hb.h) (hs:=hs)⟩
theorem Oo {X:Cx}(hm:∃ a,X.mg x=some (.ref a)/\KZ X.w X.K a kvs)(he:QE X e ty)(hg:Gl X x:=by rfl) (hd:(x == ("__debug__":Str))=false:=by decide)
  (hbase:attributeBase (.Name x p) "get" X.env (eval (.Name x p) X.env)=eval (.Name x p) X.env:=by rfl)
  (hfew:((backTo cpos (starEach [e] X.env)).all (λx=>!x.1)&&(backToKw cpos (keywordEach [] X.env)).all (λx=>x.1.isSome)
   && decide (([e]:Lh).length+([]:List Keyword).length+(if ([]:List Keyword).isEmpty then 0 else 1)<30))=true:=by rfl)
  (hline:(apos.endLine == cpos.line)=true:=by rfl) (htr:backTo cpos (starEach [e] X.env)=[(false,eval e X.env)]:=by rfl) :
  QE X (.Call (.Attribute (.Name x p) "get" apos) [e] [] cpos) (Bg kvs ty):=⟨Ny (hm:=hm) (he:=he.h) (hg:=hg) (hd:=hd) (hbase:=hbase) (hfew:=hfew) (hline:=hline) (htr:=htr)⟩
theorem zl (h:QA X es t):QE X (.List es pos) (om t):=⟨Nq (h:=h.h)⟩
theorem zL {j pos}:QE X (.Constant .none j pos) (tC .non):=⟨M6 ⟩
theorem zr (ho:iY X (binaryOp op) r)(ha:QE X a ta)(hb:QE X b tb):QE X (.BinOp a op b pos) (nO r ta tb):=⟨IY (ho:=ho) (ha:=ha.h) (hb:=hb.h)⟩
theorem K1 {X:Cx}{lo hi:Option Expr}{r:V->Option Int->Option Int->Hp->VK->Prop}(hr:rj X r)(he:QE X e te)(hl:QO X lo tl)(hu:QO X hi th):QE X (.Subscript e (.Slice lo hi none p2) pos) (BM r te tl th):=⟨RV (hr:=hr) (he:=he.h) (hl:=hl.h) (hu:=hu.h)⟩
theorem zh {x1}(h:QA X es t):QE X (.Tuple es x1 pos) (nB t):=⟨Nr (h:=h.h)⟩
theorem AY (ho:Aw X (unaryOp op) r)(ha:QE X a ta):QE X (.UnaryOp op a pos) (BL r ta):=⟨Du (ho:=ho) (ha:=ha.h)⟩
theorem Om {X:Cx}(hN:X.N.Nodup)(hi:X.N[i]? = some x)(hx:Loc X.env.scope x)(hf:X.fn x=true\/X.env.scope.names.lookup x=some .local:=by first | exact .inl rfl | exact .inr rfl | assumption):QG X (.Name x pos) (wO i):=⟨EN (hN:=hN) (hi:=hi) (hx:=hx) (hf:=hf)⟩
theorem vV {X:Cx}(hc:X.calm=true)(h:Ay X es t)
  (hn:(assignEach es X.env).length=n:=by rfl) (hst:(assignEach es X.env).findIdx? (·.1)=none:=by rfl):QG X (.Tuple es k pos) (pP X.K n t):=⟨MZ (hc:=hc) (h:=h.h) (hn:=hn) (hst:=hst)⟩
theorem zI {X:Cx}(h1:QG X e t)(h2:Ay X es u)
  (hs:(assignEach (e::es) X.env).map (·.2)=assign e X.env::(assignEach es X.env).map (·.2):=by rfl):Ay X (e::es) (Vo t u):=⟨Rt (h1:=h1.h) (h2:=h2.h) (hs:=hs)⟩
theorem xb:Ay X [] pQ:=⟨OZ ⟩
theorem P9 {X:Cx}{elts:Lh}{epos:Pos}(hg:Gl X "enumerate")(hm:X.mg "enumerate" = none)(ha:QA X [a] ta)(hs:starEach [a] X.env=[(false,eval a X.env)]:=by rfl) :
  QI X (.Tuple elts ek epos) (.Call (.Name "enumerate" p) [a] [] pos) (V8 ta):=⟨PR (hg:=hg) (hm:=hm) (ha:=ha.h) (hs:=hs)⟩
theorem wo {X:Cx}{K:Frag}{tg l:Expr}{tl:TE}(hK:X.K=K)(hl:QE X l tl):QI X tg l (Kf K tl):=⟨Sk (hK:=hK) (hl:=hl.h)⟩
theorem VJ {X:Cx}(hg:Gl X "range")(hm:X.mg "range" = none)(ha:QA X [a] ta)(hs:starEach [a] X.env=[(false,eval a X.env)]:=by rfl):QI X tg (.Call (.Name "range" p) [a] [] pos) (Bc ta):=⟨SV (hg:=hg) (hm:=hm) (ha:=ha.h) (hs:=hs)⟩
theorem Lv (hl:QE X l tl):QI X tg l (rX tl):=⟨LV (hl:=hl.h)⟩
theorem ES {X:Cx}{K:Frag}{tg l:Expr}{tl:TE}(hK:X.K=K)(hl:QE X l tl):QI X tg l (pN K tl):=⟨ND (hK:=hK) (hl:=hl.h)⟩
theorem ER:QO X none WS:=⟨Pu ⟩
theorem Fg (h:QE X e te):QO X (some e) (Bb te):=⟨EG (h:=h.h)⟩
theorem kI {X:Cx}(he:QE X e te)(hg:QG X tg g)(hs:swapsWithSole [tg] e pos.line X.env=pure false:=by rfl) (hw:swappedStores [tg] e X.env=pure none:=by rfl)
  (h1:(assignEach [tg] X.env).map (·.2)=[assign tg X.env]:=by rfl):QS X (.Assign [tg] e pos) (mU te g):=⟨MX (he:=he.h) (hg:=hg.h) (hs:=hs) (hw:=hw) (h1:=h1)⟩
theorem xc {X:Cx}(he:QE X e te)(hs:swapsWith e none pos.line X.env=pure false:=by rfl):QS X (.Expr e pos) (Wu te):=⟨Z3 (he:=he.h) (hs:=hs)⟩
theorem wG {X:Cx}{iter:Expr}{body:List Stmt}(hp:PassesOwn (model X.prog X.w) X.A X.env X.xe)(hc:X.calm=true)(hi:QI X tg iter wi)(hg:QG X tg g)(hb:n8 X body tb)
  (hs:∀ x,foldedSetIterable iter X.env x=pure x:=by intro _;rfl):QS X (.For tg iter body [] pos) (rF wi g tb):=⟨MU (hp:=hp) (hc:=hc) (hi:=hi.h) (hg:=hg.h) (hb:=hb.h) (hs:=hs)⟩
theorem zm (hc:QT X c tc)(ha:n8 X a t)(hb:n8 X b u):QS X (.If c a b pos) (nP tc t u):=⟨IZ (hc:=hc.h) (ha:=ha.h) (hb:=hb.h)⟩
theorem P8 {X:Cx}{st:Stmt}:QS X st VR:=⟨Ru ⟩
theorem P7 {X:Cx}(hx:nj X E)(R:AE X.prog X.w X.K X.mg X.base x C f pay)(hr:ix j X.A)(hj:2<=j)(ha:QA X (e::es) t)(hg:Gl X x:=by rfl) (hdb:(x == ("__debug__":Str))=false:=by decide)
  (he:SE X e es:=by rfl) (hpl:(backTo cpos (starEach es X.env)).any (·.1)=false:=by rfl) :
  QS X (.Raise (some (.Call (.Name x np) (e::es) [] cpos)) none pos) (V7 C f pay E t):=⟨PX (hx:=hx) (R:=R) (hr:=hr) (hj:=hj) (ha:=ha.h) (hg:=hg) (hdb:=hdb) (he:=he) (hpl:=hpl)⟩
theorem zg (he:QE X e te):QS X (.Return (some e) pos) (pq te):=⟨M0 (he:=he.h)⟩
theorem Lu {X:Cx}{pos':Pos}(hN:X.N.Nodup)(hi:X.N[i]? = some x)(hx:Loc X.env.scope x)(he:QE X e te)(hs:swapsWith e (some (.Name x pos')) pos.line X.env=pure false:=by rfl) (hf:X.fn x=true\/X.env.scope.names.lookup x=some .local:=by first | exact .inl rfl | exact .inr rfl | assumption) :
  QS X (.Assign [.Name x pos'] e pos) (mU te (wO i)):=⟨MW (hN:=hN) (hi:=hi) (hx:=hx) (he:=he.h) (hs:=hs) (hf:=hf)⟩
theorem Ls {X:Cx}(hm:X.mg x=some (.ref Dc))(cD:lC X.K Dc)(hN:X.N.Nodup)(hi:X.N[i]? = some n)(hl:X.env.scope.names.lookup n=some .local)(hst:X.stack=X.env::X.outer)(hf:X.env.frame=some X.env.locals)
  (hb:∀ (E:XS) (pn:Lp) (xe:fV),PassesOwn (model X.prog X.w) X.A X.env xe->nj (X.tryIn pn xe) E->n8 (X.tryIn pn xe) body (tb E))
  (hh:∀ pn ea,n8 (X.exIn pn ea) (b₀::suite) th) (hg:Gl X x:=by rfl) (hdb:(x == ("__debug__":Str))=false:=by decide) :
  QS X (.Try body [.ExceptHandler (some (.Name x np)) (some n) (b₀::suite) hpos] [] [] pos) (rD X.K Dc i tb th):=⟨LI (hm:=hm) (cD:=cD) (hN:=hN) (hi:=hi) (hl:=hl) (hst:=hst) (hf:=hf) (hb:=λE pn xe a b=>(hb E pn xe a b).h) (hh:=λpn ea=>(hh pn ea).h) (hg:=hg) (hdb:=hdb)⟩
theorem P6 {X:Cx}{body:List Stmt}(hp:PassesOwn (model X.prog X.w) X.A X.env X.xe)(hc:QT X c tc)(hb:n8 X body tb):QS X (.While c body [] pos) (BD tc tb):=⟨Rr (hp:=hp) (hc:=hc.h) (hb:=hb.h)⟩
theorem zc {X:Cx}{rest:List Stmt}{st:Stmt}(h1:QS X st t)(h2:n8 X rest u):n8 X (st::rest) (i7 t u):=⟨wm (h1:=h1.h) (h2:=h2.h)⟩
theorem zi:n8 X [] Xa:=⟨O0 ⟩
theorem zd {X:Cx}{st:Stmt}(h1:QS X st t):n8 X [st] t:=⟨Z2 (h1:=h1.h)⟩
theorem Ol (ho:iY X (compareOp op) r)(ha:QE X a ta)(hb:QE X b tb)(hm:behindInMarks op b=false):QT X (.Compare a [op] [b] pos) (Kg (nO r ta tb)):=⟨PB (ho:=ho) (ha:=ha.h) (hb:=hb.h) (hm:=hm)⟩
theorem vW (ha:QT X a tA):QT X (.UnaryOp .Not a pos) (rE tA):=⟨M1 (ha:=ha.h)⟩
theorem Z6 {X:Cx}{K:Frag}(hK:X.K=K)(ha:QE X a ta)(he:∀ whole,isTrue a X.env whole=(do let v ← whole;standAt a.pos;holding [v] (truthy v)):=by intro _;rfl):QT X a (Bf K ta):=⟨S9 (hK:=hK) (ha:=ha.h) (he:=he)⟩
theorem jM {X:Cx}{e:Expr}(h:QE X e t)(he:∀ whole,isTrue e X.env whole=(do let v ← whole;standAt e.pos;holding [v] (truthy v)):=by intro _;rfl):QT X e (tB t):=⟨M5 (h:=h.h) (he:=he)⟩
theorem Oj:QTs X [] Vx:=⟨NX ⟩
theorem qv {X:Cx}(i:Nat)(hN:X.N[i]? = some x:=by rfl) (hv:Av X.env.scope x:=by first | exact Or.inl rfl | exact Or.inr (Or.inl rfl) | exact Or.inr (Or.inr rfl)) (hd:(x == ("__debug__":Str))=false:=by decide)
  (hcd:(x == ("__classdict__":Str))=false:=by decide):QE X (.Name x pos) (iL i):=⟨pv (i:=i) (hN:=hN) (hv:=hv) (hd:=hd) (hcd:=hcd)⟩
theorem xI {rest:Lh}(ha:QT X a tA)(hb:QW X (.BoolOp .And (b::rest) pos) tB'):QW X (.BoolOp .And (a::b::rest) pos) (rJ tA tB'):=⟨M3 (ha:=ha.h) (hb:=hb.h)⟩
theorem wA (ha:QT X a tA):QW X (.BoolOp .And [a] pos) tA:=⟨O1 (ha:=ha.h)⟩
theorem Xx {rest:Lh}(ha:QT X a tA)(hb:QW X (.BoolOp .Or (b::rest) pos) tB'):QW X (.BoolOp .Or (a::b::rest) pos) (BN tA tB'):=⟨Lc (ha:=ha.h) (hb:=hb.h)⟩
theorem Yj (ha:QT X a tA):QW X (.BoolOp .Or [a] pos) tA:=⟨M4 (ha:=ha.h)⟩
theorem QW.qt (h:QW X e t):QT X e t:=⟨h.h.pt⟩
end
set_option autoImplicit false
section
variable {X:Cx} {pins:Lp} {σ:St} {H:Hp} {s:Shared} {a b:Addr} {kvs more:List (Key×V)} {A:Around} {E:fV}
end
section
variable {X:Cx} {o e:Expr} {apos cpos:Pos} {td ty:TE}
end
structure Ax (X:Cx)(pos:Pos)(keys:List (Option Expr))(values:Lh)(trs:List (TE×TE)):Prop where
 h:t4 X pos keys values trs
theorem WV {X:Cx}{pos:Pos}:Ax X pos [] [] []:=⟨EW⟩
theorem jI {X:Cx}{pos:Pos}{k v:Expr}{ks:List (Option Expr)}{vs:Lh}{tk tv:TE}{trs:List (TE×TE)}(hk:QE X k tk)(hv:QE X v tv)(hr:Ax X pos ks vs trs):Ax X pos (some k::ks) (v::vs) ((tk,tv)::trs):=⟨vU hk.h hv.h hr.h⟩
theorem WW {X:Cx}{pos:Pos}{keys:List (Option Expr)}{values:Lh}{trs:List (TE×TE)}(h:Ax X pos keys values trs)(hall:keys.all (·.isSome)=true)(hl:keys.length=values.length)(h0:keys≠[]) (h15:keys.length<=15):QE X (.Dict keys values pos) (Bh trs):=⟨EV h.h hall hl h0 h15⟩
end L2
namespace L2
open PySem PySem.Spec PyProof.Rows
section
variable {X:Cx} {tg:Expr}
end
def p9 (x y:Str):Str:=if y=x then Str.ofString "" else y
structure K2 (X:Cx)(x:Str)(scope:Scope):Prop where
 xN:x∉X.N.map (p9 x)
 nd:(X.N.map (p9 x)).Nodup
 kind:scope.kind=.function
 cell:∀ y∈scope.names,y.2≠.cell
 names:∀ y∈scope.names,y.2=.local->scope.names.lookup y.1=some .local
 var:scope.names.lookup x=some .local
 free:∀ y∈scope.names,y.2=.free->X.env.kindOf y.1=some .cell
 out:∀ y∈X.N.map (p9 x),scope.names.lookup y≠some .local
 blank:scope.names.lookup (Str.ofString "")=none
 calm:X.calm=true
section
variable {X:Cx} {elt iter:Expr} {x:Str} {px pos:Pos} {ifs:Lh} {scope:Scope} {wi:TI} {tt:TT} {te:TE}
theorem Ff {l:Lj}:l.map (lK [x])=l.map (p9 x):=by
 refine gi λy _=>?_;unfold lK p9;by_cases h:y=x
 ·rw [ue (uD.mpr h),ue h]
 ·rw [ub λz=>h (uD.mp z),ub h]
theorem K2.gen (L:K2 X x scope):Zx X [x] scope:=by refine⟨?_,L.kind,L.cell,L.names,λy hy=>by rw [uD.mp hy];exact L.var,L.free,by rw [Ff];exact L.out,λ_ _ _=>L.blank,L.calm⟩;rw [Ff];exact Ul.mpr ⟨L.xN,L.nd⟩
end
section
variable {X:Cx}
end
section
variable {X:Cx}
end
def FG:V->Option PyData
 | .non=>some .none
 | .bl b=>some (.bool b)
 | .int i=>some (.int i)
 | .str x=>some (.str x)
 | _=>none
def oo:List V->Option (List PyData)
 | []=>some []
 | v::r=>match FG v,oo r with
  | some d,some ds=>some (d::ds)
  | _,_=>none
inductive sy (H:Hp):Addr->PyData->Prop
 | lst {a xs ds}:H a=some (.lst xs)->oo xs=some ds->sy H a (.list ds)
 | tup {a xs ds}:H a=some (.tup xs)->oo xs=some ds->sy H a (.tuple ds)
 | dct {a} {kvs:List (Key×V)} {ks vs:List PyData}:H a=some (.dK kvs)->oo (kvs.map λe=>kV e.1)=some ks->oo (kvs.map λe=>e.2)=some vs->sy H a (.dict (ks.zip vs))
theorem sy.mono (h:sy H a d)(g:fX H H'):sy H' a d:=by
 cases h with
 | lst h e=>exact .lst (g _ _ h) e
 | tup h e=>exact .tup (g _ _ h) e
 | dct h e k=>exact .dct (g _ _ h) e k
def C8 (H:Hp)(x:V)(d:PyData):Prop:=FG x=some d\/∃ a,x=.ref a/\sy H a d
theorem C8.mono (h:C8 H x d)(g:fX H H'):C8 H' x d:=by
 rcases h with h | ⟨a,e,h⟩
 ·exact .inl h
 ·exact .inr ⟨a,e,h.mono g⟩
section
variable {X:Cx} {a b c:Expr} {ta tb tc:TE} {pos:Pos}
end
section
variable {X:Cx}
end
def Xy (h:Heap)(a l:Addr)(i:Int):Prop:=∃ o,h.get? a=some o/\o.cls=.type "reversed"/\o.data=.fields #[.ref l,rawInt i]
section
variable {prog:Program} {w:World} {A:Around} {E:fV} {s:Shared}
theorem Xy.typeIs (x:Xy s.heap a l i):s.TypeIs (.ref a) "reversed":=let ⟨o,ho,hc,_⟩:=x;⟨o,ho,hc⟩
theorem Xy.at {h h':Heap}(x:Xy h a l i)(e:∀ o,h.get? a=some o->h'.get? a=some o):Xy h' a l i:=let ⟨o,ho,r⟩:=x;⟨o,e _ ho,r⟩
end
section
variable {X:Cx} {tg:Expr}
end
section
variable {X:Cx}
variable {st:Stmt} {rest:List Stmt} {t u:TS}
end
section
variable {X:Cx} {pos:Pos}
theorem DU (ho:QE X o to)(hi:QE X i ti)(hs:sA X t)
  (ha:∀ v,assign (.Subscript o i pos) X.env v=(do
   let ov ← holding [v] (eval o X.env)
   let iv ← holding [v,ov] (eval i X.env)
   standAt pos
   holding [v,ov,iv] (setItem ov iv v)
   release [v,ov,iv] [])):QG X (.Subscript o i pos) (rY to ti t):=⟨MY (ho:=ho.h) (hi:=hi.h) (hs:=hs) (ha:=ha)⟩
end
def hide (st:Addr)(H:Hp):Hp:=λb=>if b=st then none else H b
theorem zp {st:Addr}{H:Hp}:fX (hide st H) H:=λb o h=>by
 unfold hide at h;split at h
 ·cases h
 ·exact h
theorem hide_ne {st b:Addr}{H:Hp}(h:b≠st):hide st H b=H b:=ub h
theorem WX {st:Addr}{H:Hp}:hide st H st=none:=ue rfl
theorem zt {st:Addr}{H H':Hp}(g:fX H H'):fX (hide st H) (hide st H'):=λb o h=>by
 by_cases e:b=st
 ·rw [e,WX] at h;cases h
 ·rw [hide_ne e] at h ⊢;exact g _ _ h
def Sd (K:Lf)(st a:Addr)(ns:List Int)(H:Hp):Prop:=(∃ n:Nat,H st=some (.lst [.ref a,.int n]))/\iA K (hide st H) a (ns.map V.int)/\ns.length<=63
def Dr (st a:Addr)(H H':Hp):Prop:=fX (hide st H) (hide st H')/\∃ n:Nat,H' st=some (.lst [.ref a,.int n])
theorem Dr.trans {st a:Addr}{H H1 H2:Hp}(h:Dr st a H H1)(k:Dr st a H1 H2):Dr st a H H2:=⟨h.1.trans k.1,k.2⟩
theorem Sd.same {K:Lf}{st a:Addr}{ns:List Int}{H H':Hp}(h:Sd K st a ns H)(g:fX H H'):Dr st a H H':=by obtain⟨⟨n,hn⟩,_⟩:=h;exact⟨zt g,n,g _ _ hn⟩
theorem Sd.refl {K:Lf}{st a:Addr}{ns:List Int}{H:Hp}(h:Sd K st a ns H):Dr st a H H:=h.same (fX.refl H)
theorem Sd.put {K:Lf}{st a:Addr}{ns:List Int}{H:Hp}{n:Nat}(h:Sd K st a ns H):Dr st a H (upd H st (.lst [.ref a,.int n])):=
 ⟨λb o hb=>by
  by_cases e:b=st
  ·rw [e,WX] at hb;cases hb
  ·rw [hide_ne e] at hb ⊢;rw [zk e];exact hb,n,zb⟩
theorem Sd.ne {K:Lf}{st a p:Addr}{ns:List Int}{H:Hp}(h:Sd K st a ns H)(hp:H p=none):p≠st:=by obtain⟨⟨n,hn⟩,_⟩:=h;rintro rfl;rw [hn] at hp;cases hp
theorem Sd.new {K:Lf}{st a p:Addr}{ns:List Int}{H:Hp}{o:HO}(h:Sd K st a ns H)(hp:H p=none):Dr st a H (upd H p o)/\hide st (upd H p o) p=some o:=⟨h.same (za hp),by rw [hide_ne (h.ne hp)];exact zb⟩
theorem Va (items:Array Value):slicePick items none none (some (-1))=items.toList.reverse.toArray:=by
 have e:sliceBounds none none (some (-1)) items.size=((items.size:Int) - 1,-1,-1):=by simp only [sliceBounds,Option.getD_some];rfl
 unfold slicePick;rw [e];congr 1
 have hc:sliceRange ((items.size:Int) - 1) (-1) (-1)=(List.range items.size).map λk=>items.size - 1 - k:=by
  unfold sliceRange;simp only [show ¬ ((-1:Int) > 0) by decide,Gm]
  have hn:(if (items.size:Int) - 1 > -1 then((items.size:Int) - 1 - -1 - -1 - 1) / (- -1) else 0).toNat=items.size:=by
   split
   ·have:((items.size:Int) - 1 - -1 - -1 - 1) / (- -1)=items.size:=by
     rw [show(- -1:Int)=1 from rfl,Int.ediv_one];lia
    rw [this];simp
   ·have:items.size=0:=by lia
    rw [this];rfl
  rw [hn];refine gi λk hk=>?_;have:=Gh.mp hk;lia
 rw [hc];clear hc e;obtain⟨xs⟩:=items;simp only [uh,List.getElem?_toArray];rw [List.filterMap_map]
 have:∀ (n:Nat) (hn:n<=xs.length),(List.range n).filterMap (λk=>xs[xs.length - 1 - k]?)=(xs.drop (xs.length - n)).reverse:=by
  intro n
  induction n with
  | zero=>intro _;simp
  | succ n ih=>
   intro hn;rw [List.range_succ,List.filterMap_append,ih (by lia)];have hlt:xs.length - 1 - n<xs.length:=by lia
   have hd:xs.drop (xs.length - (n+1))=xs[xs.length - 1 - n]::xs.drop (xs.length - n):=by rw [show xs.length - (n+1)=xs.length - 1 - n by lia,uW hlt,show xs.length - 1 - n+1=xs.length - n by lia]
   rw [hd,Up];congr 1;simp [uy hlt]
 have h:=this xs.length (ui _);simp only [Nat.sub_self,US] at h;exact h
section
variable {X:Cx} {e:Expr} {te:TE} {pos p2:Pos} {K:Lf}
def Bk (K:Lf)(te:TE):TE:=λσ H Q=>te σ H λx H1=>∃ a xs,x=.ref a/\iA K H1 a xs/\∀ p,H1 p=none->Q (.ref p) (upd H1 p (.lst xs.reverse))
theorem P5 {xs:List V}{us:Lg}(h:Vals xs us):Vals xs.reverse us.reverse:=by
 induction h with
 | nil=>exact .nil
 | cons r _ ih=>rw [Up,Up];exact ih.append (.cons r .nil)
theorem Oi {st:Expr}(he:PE X e te)(hst:PO X (some st) (λ_ H Q=>Q (some (-1)) H)):PE X (.Subscript e (.Slice none none (some st) p2) pos) (Bk X.K te):=by intro pins s σ H Q I h;refine Subscript_ (iB (he pins s σ H _ I h) λv s1 zq=>?_);obtain⟨x,H1,I1,r1,q1⟩:=zq;obtain⟨a,xs,rfl,hx,q⟩:=q1;refine wpAny_Slice ?_;rw [Gv];refine ud (ud (iB (hst pins s1 σ H1 (λo H'=>o=some (-1)/\H' = H1) I1 ⟨rfl,rfl⟩) λvs s3 zq=>?_));obtain⟨o,H3,I3,ps,hq⟩:=zq;obtain⟨rfl,rfl⟩:=hq;have I4:Inv X pins σ H3 { s3 with heap:=s3.heap.push { cls:=.type "slice",data:=.fields #[.none,.none,vs] } }:=I3.kept (t':=s3.toks) λb ob q=>uf _ q;cases r1;obtain⟨ij,r,ht,hz⟩:=I4.list hx;have hlen:=r.length;show fW X (subscriptTail e (.Slice none none (some st) p2) (.ref a) (.ref s3.heap.objs.size)) (EP X pins σ Q) X.xe { s3 with heap:=s3.heap.push { cls:=.type "slice",data:=.fields #[.none,.none,vs] } };refine Ge (ops:=[.ref a,.ref s3.heap.objs.size]) ht.isList.typeIs PySem.F.slot_list_getitem.lookup ?_ (by with_unfolding_all rfl);refine wpAny_getItem_list_slice ht.isList (Hd ..) .none .none ps (by simp) ?_ (by rw [uh]<;>lia);rw [Va];refine⟨.ref _,_,I4.laid (t':=s3.toks) (o:=.lst xs.reverse) (λb ob q=>uf _ q) (ui _) ?_,rfl,q _ (I4.hok.fresh (ui _))⟩;exact⟨by rw [UL];exact hz,_,0,P5 r,uA _ rfl⟩
theorem Hv {j p3 p4}:PO X (some (.UnaryOp .USub (.Constant (.int 1) j p3) p4)) (λ_ H Q=>Q (some (-1)) H):=λpins s σ H Q I h=>EG (Du VS DX) pins s σ H Q I ⟨1,rfl,-1,rfl,h⟩
theorem WY {j p3 p4}(hK:X.K=K)(he:QE X e te):QE X (.Subscript e (.Slice none none (some (.UnaryOp .USub (.Constant (.int 1) j p3) p4)) p2) pos) (Bk K te):=⟨by subst hK;exact Oi he.h Hv⟩
theorem Jq {o f i:Expr}{apos cpos:Pos}{td ty tx:TE}(hu:X.A.units+1<cLine)(ho:QE X o td)(he:QE X i ty)(hf:QE X f tx)(m:M2 X o "get" apos i f cpos):QE X (.Call (.Attribute o "get" apos) [i,f] [] cpos) (Ye td ty tx):=⟨PJ hu ho.h he.h hf.h m⟩
theorem P4:QS X (.Break pos) VQ:=⟨Rv⟩
end
variable {X:Cx}
end L2
namespace L2
open PySem PySem.Spec PySem.Calls PyProof.Rows PySem.W Builtin Builtin.ObjectAttr
section
variable {prog:Program} {w:World} {A:Around} {E:fV} {K:Frag} {C:Addr}
end
section
variable {X:Cx} {E:XS} {C:Addr} {x:Str} {e:Expr} {es:Lh} {t:TA} {np cpos pos:Pos} {j:Nat}
end
structure sG (K:Frag)(H:Hp)(a C:Addr)(fs:List (Str×V)):Prop where
 cl:lC K C
 ex:(∃ d,yR H a C (some d)/\H d=some (.xd fs))\/(fs=[]/\yR H a C none)
theorem sG.mono {K:Frag}{H H':Hp}{a C:Addr}{fs:List (Str×V)}(g:sG K H a C fs)(s:fX H H'):sG K H' a C fs:= ⟨g.cl,g.ex.imp (λ⟨d,c,e⟩=>⟨d,c.mono s,s _ _ e⟩) λ⟨e,c⟩=>⟨e,c.mono s⟩⟩
section
variable {X:Cx} {pins:Lp} {σ:St} {H:Hp} {s:Shared} {a C:Addr} {fs:List (Str×V)}
end
end L2
namespace L2
open PySem PySem.Spec PySem.Calls PyProof.Rows PySem.W
section
variable {prog:Program} {w:World} {A:Around} {R:Result->Shared->Prop} {I d:Addr} {fp wr:Le} {n:Nat} {P:Nat->Value->Prop} {St:Nat->Heap->Prop} {K:Type} [DecidableEq K] {knd:KeyKind prog w K}
end
section
variable {X:Cx} {pins:Lp} {σ:L2.St} {H:Hp} {s:Shared}
end
section
variable {X:Cx} {pins:Lp} {σ:L2.St} {H:Hp} {s:Shared}
end
section
variable {P:Program} {w:World} {A:Around} {s:Shared} {a b:Addr} {xs ys:Array Value} {R:Result->Shared->Prop}
end
section
variable {X:Cx} {pins:Lp} {σ:L2.St} {H:Hp} {s:Shared}
end
section
variable {X:Cx}
end
section
variable {X:Cx} {k j:Nat} {o i:Expr} {p pos:Pos} {e:Expr} {es:Lh} {tf:TE} {t:TA} {E:XS}
end
section
variable {X:Cx} {e:Expr} {te:TE}
end
section
variable {X:Cx} {elt iter:Expr} {x:Str} {px pos:Pos} {ifs:Lh} {scope:Scope} {wi:TI} {tt:TT} {te:TE}
end
def Fn (K:Frag):List V->Hp->VK->Prop:=λxs H Q=>∃ p ys,xs=[.ref p]/\iA K H p ys/\∀ l,H l=none->Q (.ref l) (upd H l (.lst ys))
theorem TN {X:Cx}{K:Frag}(hK:X.K=K):jx X (.type "list") (Fn K):=by subst hK;intro pins s σ H xs us Q I r h;obtain⟨p,ys,e,h1,h2⟩:=h;exact V0 pins s σ H xs us Q I r ⟨p,ys,e,.inl h1,h2⟩
structure i6 (P:Program)(w:World)(K:Frag)(mg:La)(base:Heap)(k:Nat)(C:Addr)(m:Str)(ps:Lj)(sp:Sp):Prop where
 ex:∃ (f:Addr) (fd:FuncData),mP K C/\Meth K C m f/\Binds K fd ps []/\iO P w K mg base (nz P w) k f fd ps sp
structure rn (P:Program)(w:World)(K:Frag)(mg:La)(base:Heap)(k:Nat)(C:Addr)(x:Str)(ps:Lj)(sp:Sp):Prop where
 ex:∃ (f:Addr) (fd:FuncData),Mk K C f/\Binds K fd ps []/\mg x=some (.ref C)/\iO P w K mg base (nz P w) k f fd ps sp
structure Dm (K:Frag)(C:Addr)(m qual:Str)(st:Stmt)(ps:Lj):Prop where
 ex:∃ (f:Addr) (fd:FuncData),oQ K m qual st f fd/\Binds K fd ps []/\mP K C/\Meth K C m f
structure Dc (K:Frag)(mg:La)(C:Addr)(x qual:Str)(st:Stmt)(ps:Lj):Prop where
 ex:∃ (f:Addr) (fd:FuncData),oQ K "__init__" qual st f fd/\Binds K fd ps []/\Mk K C f/\mg x=some (.ref C)
section
variable {P:Program} {w:World} {K:Frag} {mg:La} {base:Heap} {k j:Nat} {C:Addr} {m x qual:Str} {st:Stmt} {ps N:Lj} {sp sp':Sp}
theorem i6.mono (F:i6 P w K mg base j C m ps sp)(h:j<=k):i6 P w K mg base k C m ps sp:=by obtain⟨f,fd,c,hm,b,G⟩:=F.ex;exact⟨f,fd,c,hm,b,G.mono h⟩
theorem i6.imp (F:i6 P w K mg base k C m ps sp)(h:∀ vs H Q E,sp' vs H Q E->sp vs H Q E):i6 P w K mg base k C m ps sp':=by obtain⟨f,fd,c,hm,b,G⟩:=F.ex;exact⟨f,fd,c,hm,b,G.imp h⟩
theorem Dm.ok (D:Dm K C m qual st ps)(Sc:zj N ps (zf st))(len:∀ vs H Q E,sp vs H Q E->vs.length=ps.length) (hbody:∀ (f:Addr) (cdv:Value) (A:Around) (outer:List Env) (s:Shared) (H:Hp) (vs:List V) (Q:VK) (E:XK),ix k (A.deeper (envOfC qual (zf st) s.heap.objs.size f cdv))->sp vs H Q E -> ∃ t,lS (iW (nz P w) P w K mg base N qual (zf st) f cdv A outer s H E) (zW st) t/\t { nx:=λ_ H'=>Q .non H',rt:=Q } (start N vs) H):i6 P w K mg base (k+1) C m ps sp:=by obtain⟨f,fd,F,b,cl,hm⟩:=D.ex;refine⟨f,fd,cl,hm,b,?_⟩;obtain⟨oc,od,kV,doc,pm,an,cdv,ct,osl,rfl,lk,hcd⟩:=F.ex;exact Ac lk hcd Sc len λA outer s H vs Q E hr h=>hbody f cdv A outer s H vs Q E hr h
theorem Dc.ok (D:Dc K mg C x qual st ps)(Sc:zj N ps (zf st))(len:∀ vs H Q E,sp vs H Q E->vs.length=ps.length) (hbody:∀ (f:Addr) (cdv:Value) (A:Around) (outer:List Env) (s:Shared) (H:Hp) (vs:List V) (Q:VK) (E:XK),ix k (A.deeper (envOfC qual (zf st) s.heap.objs.size f cdv))->sp vs H Q E -> ∃ t,lS (iW (nz P w) P w K mg base N qual (zf st) f cdv A outer s H E) (zW st) t/\t { nx:=λ_ H'=>Q .non H',rt:=Q } (start N vs) H):rn P w K mg base (k+1) C x ps sp:=by obtain⟨f,fd,F,b,M,hm⟩:=D.ex;refine⟨f,fd,M,b,hm,?_⟩;obtain⟨oc,od,kV,doc,pm,an,cdv,ct,osl,rfl,lk,hcd⟩:=F.ex;exact Ac lk hcd Sc len λA outer s H vs Q E hr h=>hbody f cdv A outer s H vs Q E hr h
end
section
variable {X:Cx} {K:Frag} {k j:Nat} {C:Addr} {x m f:Str} {ps:Lj} {sp:Sp} {p pos apos pos':Pos} {e o value:Expr} {es:Lh} {to ta tv:TE} {t:TA} {E:XS}
theorem qV (hK:X.K=K)(he:QE X e ta)(hb:attributeBase e f X.env (eval e X.env)=eval e X.env:=by rfl):QE X (.Attribute e f pos) (rG K ta f):=⟨by subst hK;exact Nu he.h hb⟩
theorem JR (hK:X.K=K)(ha:QE X o ta)(hv:QE X value tv)(hs:swapsWith value (some (.Attribute o f pos')) pos.line X.env=pure false:=by rfl):QS X (.Assign [.Attribute o f pos'] value pos) (rL K ta tv f):=⟨by subst hK;exact Nt ha.h hv.h hs⟩
theorem xY (F:i6 X.prog X.w X.K X.mg X.base k C m ps sp)(hr:ix j X.A)(hk:k<=j)(ho:QE X o to)(ha:QA X (e::es) t)
  (hst:SE X e es:=by rfl) (hpl:(backTo pos (starEach es X.env)).any (·.1)=false:=by rfl)
  (ht:eval (.Call (.Attribute o m apos) (e::es) [] pos) X.env=(do
   let ov ← eval o X.env
   standAt apos.atName
   let (f,first) ← holding [ov] (getMethod ov m pl)
   callWith pos f first (backTo pos (starEach (e::es) X.env)) (backToKw pos (keywordEach [] X.env))):=by rfl) :
  QE X (.Call (.Attribute o m apos) (e::es) [] pos) (Ja C m sp [] E0 to t):=by
 obtain⟨f,fd,cl,hm,b,G⟩:=F.ex
 exact⟨Py ho.h cl hm G (hr.mono hk) b .nil Kv ha.h hst hpl ht⟩
theorem wQ (F:i6 X.prog X.w X.K X.mg X.base k C m ps sp)(hr:ix j X.A)(hk:k<=j)(ho:QE X o to)
  (ht:eval (.Call (.Attribute o m apos) [] [] pos) X.env=(do
   let ov ← eval o X.env
   standAt apos.atName
   let (f,first) ← holding [ov] (getMethod ov m pl)
   callWith pos f first (backTo pos (starEach [] X.env)) (backToKw pos (keywordEach [] X.env))):=by rfl) :
  QE X (.Call (.Attribute o m apos) [] [] pos) (Ja C m sp [] E0 to i8):=by
 obtain⟨f,fd,cl,hm,b,G⟩:=F.ex
 exact⟨R0 ho.h cl hm G (hr.mono hk) b .nil Kv ht⟩
theorem Jr (F:rn X.prog X.w X.K X.mg X.base k C x ps sp)(hr:ix j X.A)(hk:k+1<=j)(ha:QA X (e::es) t)(hg:Gl X x:=by rfl) (hdb:(x == ("__debug__":Str))=false:=by decide) (he:SE X e es:=by rfl) (hpl:(backTo pos (starEach es X.env)).any (·.1)=false:=by rfl):QE X (.Call (.Name x p) (e::es) [] pos) (Kh C sp [] E0 t):=by obtain⟨f,fd,M,b,hm,G⟩:=F.ex;exact⟨Px M G (hr.mono hk) hg hm b .nil Kv ha.h hdb he hpl⟩
def Fm (C:Addr)(m:Str)(sp:Sp)(E:XS)(ta:TE)(t:TA):TE:=λσ H Q=>ta σ H λx H1=>∃ a dx fs,x=.ref a/\H1 a=some (.ins C dx fs)/\fs.lookup m=none/\t σ H1 λvs H2=>sp (x::vs) H2 Q λc d H'=>E c d σ H'
theorem jS (hx:nj X E)(F:i6 X.prog X.w X.K X.mg X.base k C m ps sp)(hr:ix j X.A)(hk:k<=j)(ho:QE X o to)(ha:QA X (e::es) t)
  (hst:SE X e es:=by rfl) (hpl:(backTo pos (starEach es X.env)).any (·.1)=false:=by rfl)
  (ht:eval (.Call (.Attribute o m apos) (e::es) [] pos) X.env=(do
   let ov ← eval o X.env
   standAt apos.atName
   let (f,first) ← holding [ov] (getMethod ov m pl)
   callWith pos f first (backTo pos (starEach (e::es) X.env)) (backToKw pos (keywordEach [] X.env))):=by rfl) :
  QE X (.Call (.Attribute o m apos) (e::es) [] pos) (Fm C m sp E to t):=by
 refine⟨λpins s σ H Q I h=>?_⟩
 obtain⟨f,fd,cl,hm,b,G⟩:=F.ex
 refine UQ (pl:=pl) (iB (ho.h pins s σ H _ I h) λu s1 zq=>?_) ht
 obtain⟨x,H1,I1,rx,a,dx,fs,ex,ea,l,q⟩:=zq
 subst ex
 obtain rfl:u=Value.ref a:=rx
 refine kA I1 ea cl hm l ?_
 refine Uo (first:=[.ref a]) (h₀:=X.base) I.ok.mod.kin hm.kp (iB (ha.h pos pins s1 σ H1 _ I1 q) λus s2 ⟨vs,H2,I2,r,q2⟩=>⟨I2.kIn,?_⟩) hst hpl
 exact E6 (us:=.ref a::us) (vs:=.ref a::vs) G (hr.mono hk) b hx I2 (.cons rfl r) q2
end
structure jO (k:Nat)(A:Around):Prop where
 dp:A.depth+3 * k+5<recursionLimit
 un:A.units+16 * k+200<cLine
 gd:A.guards=some []
theorem ix.n (r:ix k A):jO k A:=⟨r.dp,r.un,r.gd⟩
theorem jO.mono (r:jO k A)(h:j<=k):jO j A:=⟨by have:=r.dp;lia,by have:=r.un;lia,r.gd⟩
theorem jO.deeper {A:Around}(r:jO (k+1) A)(env:Env):jO k (A.deeper env):=
 ⟨by have:=r.dp;show A.depth+1+3 * k+5<_;lia,by have:=r.un;show A.units+3+16 * k+200<_;lia,r.gd⟩
theorem jO.depth {A:Around}(r:jO k A):A.depth<recursionLimit:=by have:=r.dp;lia
structure WD (P:Program)(w:World)(K:Lf)(mg:La)(base:Heap)(CX:mw)(k:Nat)(f:Addr)(fd:FuncData)(ps:Lj)(sp:Sp):Prop where
 len:∀ vs H Q E,sp vs H Q E->vs.length=ps.length
 run:∀ (A:Around) (outer:List Env) (s:Shared) (H:Hp) (args:Args) (us:Lg) (vs:List V) (Q:VK) (E:XK),jO k A->lU P w K mg base A outer s H->BindsTo s fd args (ps.zip us)->Vals vs us->sp vs H Q E ->
  codeAny (model P w) A (.call (.ref f) args) (CR CX outer P w H s Q E) s
theorem WD.ok {P:Program}{w:World}{K:Lf}{mg:La}{base:Heap}{CX:mw}{k:Nat}{f:Addr}{fd:FuncData}{ps:Lj}{sp:Sp}(F:WD P w K mg base CX k f fd ps sp):iO P w K mg base CX k f fd ps sp:=⟨F.len,λA outer s H args us vs Q E hr=>F.run A outer s H args us vs Q E hr.n⟩
abbrev Xz (CX:mw)(P:Program)(w:World)(K:Lf)(mg:La)(base:Heap)(N:Lj)(qual:Str)(scope:Scope)(f:Addr)(cd:Value)(A:Around)(outer:List Env)(s:Shared)(H:Hp)(E:XK):Cx:={ iW CX P w K mg base N qual scope f cd A outer s H E with calm:=false }
theorem TM {CX:mw}{P:Program}{w:World}{K:Lf}{mg:La}{base:Heap}{N ps:Lj}{qual:Str}{scope:Scope}{f:Addr}{cd:Value}{A:Around}{outer:List Env}{s s1:Shared}{H:Hp}{E:XK}{us:Lg}{vs:List V} (S:zj N ps scope) (e0:lU P w K mg base A outer s H) (hl:vs.length=ps.length) (r:Vals vs us) (x:InCallC s s.heap.objs.size (bindL (envOfC qual scope s.heap.objs.size f cd).kindOf (ps.zip us) λ_=>none) (cellsFrom (s.heap.objs.size+1) scope.names []) (bindC (envOfC qual scope s.heap.objs.size f cd).kindOf (ps.zip us) λ_=>none) s1) : Inv (Xz CX P w K mg base N qual scope f cd A outer s H E) [] (start N vs) H s1:=by
 have hpl:ps.length<=N.length:=by have:=congrArg List.length S.pre;rw [Ut] at this;lia
 obtain⟨h1,tk,rfl,hk⟩:=x.done;have noA:∀ b:Addr,b∉(Xz CX P w K mg base N qual scope f cd A outer s H E).ex:=λb z=>absurd (show b∈([]:Le) from z) (by simp)
 refine⟨⟨e0.mod,S.kind,rfl,rfl,ui _,λy z c h1 h2=>?_,λy hy=>?_,λy c _ h=>?_,λz=>absurd (show false=true from z) (by decide),Around.frames_deeper e0.frames,.inr ⟨rfl,rfl⟩,λb z=>absurd z (noA b),e0.bs,e0.bsz,λb _ _=>noA b,λb z=>absurd z (noA b),e0.funs,e0.frf⟩,
  rfl,e0.bare,Un.kept hk,⟨_,x.toInCall.ns,λi y v h1 h2 h3=>?_⟩,λy c h=>⟨_,x.cell y c h⟩,e0.hok.fresh (ui _),λy c h=>?_,λp hp=>absurd (show p∈([]:Lp) from hp) (by simp),e0.hok.kept hk,?_⟩
 ·exact name_of_addr x.apart (uP h1) (uP h2)
 ·have hy:scope.names.lookup y=some .cell\/scope.names.lookup y=some .free:=hy;rcases hy with hy | hy
  ·exact Jb hy
  ·exact absurd rfl (S.nofree _ (uP hy))
 ·exact gR (x.above y c (uP h))
 ·have hi:i<vs.length:=by
   unfold start at h2
   by_cases hi:i<vs.length
   ·exact hi
   ·rw [UB (by simpa using hi)] at h2
    rw [gJ] at h2
    split at h2<;>cases h2
  have ha:vs[i]? = some v:=by
   unfold start at h2
   rw [UE (by simpa using hi),Uk] at h2
   cases e:vs[i]? with
   | none=>rw [e] at h2;cases h2
   | some a=>rw [e] at h2;cases h2;rfl
  obtain⟨u,hu,rv⟩:=r.get ha
  have hp:ps[i]? = some y:=by
   rw [← S.pre,Hc (by lia)];exact h1
  have ndP:ps.Nodup:=by rw [← S.pre];exact S.nd.sublist (List.take_sublist _ _)
  refine⟨u,rv,?_⟩
  rcases S.par y (uQ hp) with k | k
  ·exact .inl ⟨k,JJ ndP hp hu k⟩
  ·obtain⟨c,e⟩:=Jb (n:=s.heap.objs.size+1) k
   refine .inr ⟨.inl k,c,e,?_⟩
   have q:=x.cell y c e
   rw [JK ndP hp hu (by show scope.names.lookup y≠_;rw [k];decide)] at q
   exact q
 ·exact e0.hok.fresh (gR (x.above y c (uP h)))
 ·unfold start;show _=N.length;rw [uc,uk,Ur];lia
theorem DT {CX:mw}{P:Program}{w:World}{K:Lf}{mg:La}{base:Heap}{k:Nat}{f:Addr}{name qual:Str}{params:Arguments}{body:List Stmt}{scope:Scope}{dV kV doc pm cdv ct oc:Value}{an od:Option Addr} {osl:Array (Option Value)} {N ps:Lj} {sp:Sp} (lk:K.lookup f=some ⟨oc,od,.func (PySem.W.fnOf name qual params body scope dV kV doc pm an cdv ct),osl⟩) (hcd:PySem.W.codeIn K cdv qual=true) (S:zj N ps scope) (len:∀ vs H Q E,sp vs H Q E->vs.length=ps.length) (hbody:∀ (A:Around) (outer:List Env) (s:Shared) (H:Hp) (vs:List V) (Q:VK) (E:XK),jO k (A.deeper (envOfC qual scope s.heap.objs.size f cdv))->sp vs H Q E -> ∃ t,lS (Xz CX P w K mg base N qual scope f cdv A outer s H E) body t/\t { nx:=λ_ H'=>Q .non H',rt:=Q } (start N vs) H) : WD P w K mg base CX (k+1) f (PySem.W.fnOf name qual params body scope dV kV doc pm an cdv ct) ps sp:=by
 refine⟨len,λA outer s H args us vs Q E hr e0 hb r hsp=>?_⟩;have hl:=len _ _ _ _ hsp;have KX:K.In s.heap:=e0.mod.kin.keeps λb o e=>(e0.bs b o e).1;have lim:s.heap.NoLimit:=e0.mod.nolimit.keeps λb o e=>(e0.bs b o e).1
 have hkind:∀ y∈ps.zip us,scope.names.lookup y.1=some .local\/(scope.names.lookup y.1=some .cell/\((cellsFrom (s.heap.objs.size+1) scope.names []).lookup y.1).isSome=true):=λ⟨n,v⟩ hy=>by
  rcases S.par n (gf hy).1 with q | q
  ·exact .inl q
  ·exact .inr ⟨q,U3 _ _ _ (.inl q)⟩
 refine gj hr.depth (KX _ _ lk) rfl S.co S.gen rfl (GC KX hcd) (hb _ _ _ _ ?_);refine U4 S.kind hkind λenv he s1 x=>?_;subst he;refine⟨lim.keeps x.toInCall.keep,GD ?_⟩;obtain⟨t,ht,hq⟩:=hbody A outer s H vs Q E (hr.deeper _) hsp;have I:Inv (Xz CX P w K mg base N qual scope f cdv A outer s H E) [] (start N vs) H s1:=TM S e0 hl r x;refine um (ht [] s1 (start N vs) H _ I hq) (λfl s' hs=>?_) λe s' hs=>hs
 have fin:∀ {σ':St} {H':Hp} {v:V} {u:Value},Inv (Xz CX P w K mg base N qual scope f cdv A outer s H E) [] σ' H' s'->RelV v u->Q v H'->CE outer P w H s Q u s':=
  λ{σ' H' v u} J rv q=>⟨v,H',J.os,J.bare,J.base,J.hok,rv,q⟩
 cases fl with
 | ret u=>obtain⟨v,σ',H',J,rv,q⟩:=hs;exact fin J rv q
 | next=>obtain⟨σ',H',J,q⟩:=hs;exact fin (v:=V.non) (u:=Value.none) J rfl q
 | brk=>obtain⟨_,_,_,q⟩:=hs;exact False.elim q
 | cont=>obtain⟨_,_,_,q⟩:=hs;exact False.elim q
section
variable {X:Cx} {CX:mw} {k:Nat} {f C:Addr} {fd:FuncData} {ps:Lj} {sp:Sp} {dvs:List V} {ds:Lg} {E:XK} {x m:Str} {p pos apos:Pos} {e o:Expr} {es:Lh} {ta:TE} {t:TA}
theorem Oh {pins:Lp}(F:WD X.prog X.w X.K X.mg X.base CX k f fd ps sp)(hr:jO k X.A)(hb:Binds X.K fd ps ds)(hd:Vals dvs ds)(hx:Passes CX X E) (I:Inv X pins σ H s) (r:Vals vs us) (h:sp (vs++dvs) H Q E):fW X (call (.ref f) us) (EP X pins σ Q) X.xe s:=by
 have r2:Vals (vs++dvs) (us++ds):=r.append hd;have hl:(us++ds).length=ps.length:=by rw [← r2.length];exact F.len _ _ _ _ h
 refine Uh (Um (F.run X.A X.stack s H ⟨us,[]⟩ (us++ds) (vs++dvs) Q E hr I.iR (hb s us I.kIn hl) r2 h) λr s' hq=>?_);cases r with
 | error e=>exact hx pins σ H s e s' I hq
 | ok fl=>
  cases fl with
  | ret u=>exact I.after hq
  | next=>exact False.elim hq
  | brk=>exact False.elim hq
  | cont=>exact False.elim hq
theorem S6 (he:PE X o ta)(c:mP X.K C)(hm:Meth X.K C m f)(F:WD X.prog X.w X.K X.mg X.base CX k f fd ps sp)(hr:jO k X.A)(hb:Binds X.K fd ps ds)(hd:Vals dvs ds)(hx:Passes CX X E)
  (ht:eval (.Call (.Attribute o m apos) [] [] pos) X.env=(do
   let ov ← eval o X.env
   standAt apos.atName
   let (f,first) ← holding [ov] (getMethod ov m pl)
   callWith pos f first (backTo pos (starEach [] X.env)) (backToKw pos (keywordEach [] X.env))):=by rfl) :
  PE X (.Call (.Attribute o m apos) [] [] pos) (Ja C m sp dvs E ta i8):=by
 intro pins s σ H Q I h
 refine UQ (pl:=pl) (iB (he pins s σ H _ I h) λu s1 zq=>?_) ht
 obtain⟨x,H1,I1,rx,a,dx,fs,ex,ea,l,q⟩:=zq
 subst ex
 obtain rfl:u=Value.ref a:=rx
 refine kA I1 ea c hm l ?_
 exact Gs (first:=[.ref a]) I1.kIn hm.kp (Oh (us:=[.ref a]) (vs:=[.ref a]) F hr hb hd hx I1 (.cons rfl .nil) q)
end
def K3 (C:Addr)(fs:List V->List (Str×V))(pay:List V->Prop):Sp:=λvs H Q _=>∃ a xs,vs=.ref a::xs/\H a=some (lG C a)/\pay xs/\∀ d,H d=none->d≠a->Q .non (upd (upd H a (lO C d a)) d (.xd (fs xs)))
structure lJ (P:Program)(w:World)(K:Frag)(mg:La)(base:Heap)(x:Str)(C:Addr)(fs:List V->List (Str×V))(pay:List V->Prop):Prop where
 gl:mg x=some (.ref C)
 cl:lC K C
 kp:keepIn K (.ref C)=true
 ex:∃ (fI:Addr) (fd:FuncData) (oI:Obj) (ps:Lj),Wz K C=some (some (.ref fI))/\K.lookup fI=some oI/\oI.cls=.type "function"/\Binds K fd ps []/\WD P w K mg base mJ 1 fI fd ps (K3 C fs pay)
section
variable {X:Cx} {E:XS} {C:Addr} {x f:Str} {fs:List V->List (Str×V)} {pay:List V->Prop} {e:Expr} {es:Lh} {t:TA} {np cpos pos pos':Pos} {j:Nat} {name:Str}
def MdE (X:Cx)(C:Addr)(E:XS)(σ:St)(v:Value)(s₁:Shared):Prop:=∃ a d vs sl H2,v=.ref a/\s₁.heap.get? a=some ⟨.ref C,some d,.fields vs,sl⟩/\(vs[1]? = some .none/\vs[2]? = some .none/\vs.size=6)/\Inv X [] σ H2 s₁/\X.s₀.heap.objs.size<=a/\H2 a=none/\(∀ q∈X.pn,q.1≠a)/\E (.ref C) (some d) σ H2
def Z7 (C:Addr)(fs:List V->List (Str×V))(pay:List V->Prop)(E:XS)(t:TA):TS:=λ_ σ H=>t σ H λvs H1=>pay vs/\vs.length<=1000/\∀ d H2,fX H1 H2->H1 d=none->H2 d=some (.xd (fs vs))->E (.ref C) (some d) σ H2
theorem jO.make {A:Around}(r:jO (k+1) A)(C:Addr)(us:Lg)(kw:List (Str×Value)):jO k (A.under (.builtin "type.__call__" ⟨.ref C::us,kw⟩)):=
 ⟨by have:=r.dp;rw [Xf];lia,by have:=r.un;rw [Xg];lia,by rw [Wx];exact r.gd⟩
theorem Fe {pins:Lp}(R:lJ X.prog X.w X.K X.mg X.base x C fs pay)(hr:jO j X.A)(hj:2<=j)(ha:PA X (e::es) t)(hg:Gl X x)(hdb:(x == ("__debug__":Str))=false) (he:SE X e es) (hpl:(backTo cpos (starEach es X.env)).any (·.1)=false) (I:Inv X pins σ H s) (h:Z7 C fs pay E t D σ H) : fW X (eval (.Call (.Name x np) (e::es) [] cpos) X.env) (MdE X C E σ) X.xe s:=by
 have c:=R.cl;refine uV (wW I hg R.gl ?_ hdb);refine Uo (h₀:=X.base) I.ok.mod.kin R.kp (iB (ha cpos pins s σ H _ I h) λus s1 ⟨vs,H1,I1,r,hp,hl,q⟩=>⟨I1.kIn,?_⟩) he hpl;obtain⟨fI,fd,oI,ps,i1,i2,i3,hb,F⟩:=R.ex;refine Kr I1.kIn c.sh i1 i2 i3 (by show us.length<=_;rw [← Vals.length r];exact uI hl (by rw [uR];decide)) λh' a g1 g2=>?_;obtain⟨t0,z1,_,_⟩:=g2.there;have n1:=I1.hok.fresh g1;have I2:Inv X pins σ (upd H1 a (lG C a)) { s1 with heap:=h' }:=I1.laid (t':=s1.toks) g2.keeps g1 (BG (t:=t0) z1 rfl ⟨rfl,rfl,rfl⟩)
 have hsp:K3 C fs pay (.ref a::vs) (upd H1 a (lG C a)) (λw2 H2=>w2=.non/\∃ d,upd H1 a (lG C a) d=none/\d≠a/\H2=upd (upd (upd H1 a (lG C a)) a (lO C d a)) d (.xd (fs vs))) E0:=
  ⟨a,vs,rfl,zb,hp,λd q1 q2=>⟨rfl,d,q1,q2,rfl⟩⟩
 have r2:Vals (V.ref a::vs) (Value.ref a::us):=.cons rfl r;have hb':=hb { s1 with heap:=h' } (.ref a::us) I2.kIn (by rw [← F.len _ _ _ _ hsp,uj];exact congrArg (· + 1) (Vals.length r).symm);refine Uh (Um (F.run (X.A.under (.builtin "type.__call__" ⟨.ref C::us,[]⟩)) X.stack { s1 with heap:=h' } _ ⟨.ref a::us,[]⟩ _ _ _ _ ((hr.mono hj).make C us []) (I2.iR.make C us []) hb' (by simpa using r2) hsp) λr s' hq=>?_);rcases r with er | fl
 ·exact False.elim hq
 cases fl with
 | next=>exact False.elim hq
 | brk=>exact False.elim hq
 | cont=>exact False.elim hq
 | ret w2=>
  obtain⟨v2,H2,I3,rv2,rfl,d,q1,q2,rfl⟩:=I2.after hq;have hx1:qC X.prog X.w (upd (upd (upd H1 a (lG C a)) a (lO C d a)) d (.xd (fs vs))) s'.heap a (lO C d a):=I3.hok a _ (by rw [zk (Ne.symm q2),zb]);obtain⟨⟨vs',sl',e1,e2⟩,_⟩:=hx1;have np:∀ q∈X.pn,q.1≠a:=λq hq y=>by have:=(I1.pin q (uY _ hq)).1;exact absurd (uu (ug this) (y ▸ g1)) (u0 _)
  have q1':H1 d=none:=by rw [zk q2] at q1;exact q1
  have sa:fX H1 (λb=>if b=a then none else upd (upd (upd H1 a (lG C a)) a (lO C d a)) d (.xd (fs vs)) b):=λb o hb=>by
   have ba:b≠a:=λy=>by rw [y,n1] at hb;cases hb
   have bd:b≠d:=λy=>by rw [y,q1'] at hb;cases hb
   simp only [ub ba];rw [zk bd,zk ba,zk ba];exact hb
  refine⟨rv2,a,d,vs',sl',_,rfl,e1,e2,?_,uI I1.sz g1,?_,np,q d _ sa q1' ?_⟩
  ·have I4:Inv X [] σ (upd (upd (upd H1 a (lG C a)) a (lO C d a)) d (.xd (fs vs))) s':=I3.pins_of λp hp=>absurd hp (by simp)
   have key:∀ b o,(λb=>if b=a then none else upd (upd (upd H1 a (lG C a)) a (lO C d a)) d (.xd (fs vs)) b) b=some o->b≠a/\upd (upd (upd H1 a (lG C a)) a (lO C d a)) d (.xd (fs vs)) b=some o:=λb o z=>by
    by_cases hb:b=a
    ·simp [hb] at z
    ·simp only [ub hb] at z;exact⟨hb,z⟩
   have back:∀ b o,b≠a->upd (upd (upd H1 a (lG C a)) a (lO C d a)) d (.xd (fs vs)) b=some o->(λb=>if b=a then none else upd (upd (upd H1 a (lG C a)) a (lO C d a)) d (.xd (fs vs)) b) b=some o:=λb o hb z=>by simp only [ub hb];exact z
   have nex:∀ b o,upd (upd (upd H1 a (lG C a)) a (lO C d a)) d (.xd (fs vs)) b=some o->(∀ φ,o≠.ext φ)->b≠a:=λb o z no y=>by rw [y,zk (Ne.symm q2),zb] at z;cases z;exact no _ rfl
   refine I4.step (h':=s'.heap) (g':=s'.gens) (t':=s'.toks) (d':=s'.drawn) (ch:=[]) (λ_ z=>absurd z (by simp)) (λb o _ _ _ z _=>z) (λb o _ _ _ z _=>⟨o.slots,z⟩) (λb o _ _ z=>?_) (λb o _ z=>⟨o,z⟩) (λb xs z=>back b _ (nex b _ z λ_ y=>by cases y) z) (λb o u z=>back b _ (nex b _ z λ_ y=>by cases y) z)
    (λb ps z=>⟨#[],by rw [GH];exact back b _ (nex b _ z λ_ y=>by cases y) z⟩) (λm z=>z) (λb o z=>?_) I4.bare
   ·by_cases hb:b=a
    ·simp [hb]
    ·simp only [ub hb];exact z
   ·obtain⟨hb,z⟩:=key b o z;exact(I4.hok b o z).stay (λ_ _ _ y=>y) (λc y=>back c _ (nex c _ y λ_ y=>by cases y) y) λc xs y=>back c _ (nex c _ y λ_ y=>by cases y) y
  ·simp
  ·simp only [ub q2];rw [zb]
theorem S5 (hx:nj X E)(R:lJ X.prog X.w X.K X.mg X.base x C fs pay)(hr:ix j X.A)(hj:2<=j)(ha:PA X (e::es) t)(hg:Gl X x:=by rfl) (hdb:(x == ("__debug__":Str))=false:=by decide) (he:SE X e es:=by rfl) (hpl:(backTo cpos (starEach es X.env)).any (·.1)=false:=by rfl) : PS X (.Raise (some (.Call (.Name x np) (e::es) [] cpos)) none pos) (Z7 C fs pay E t):=by intro pins s σ H D I h;rw [Gn];refine ua (Ua (VB (C:=C) (K:=X.K) hr.hd ?_));refine ua (iB (Fe R hr.n hj ha hg hdb he hpl I h) λv s₁ zq=>?_);obtain⟨a,d,vs,sl,H2,e0,e1,e2,J,h1,h2,h3,q⟩:=zq;exact ua (Ua (ud ⟨a,_,vs,sl,e0,J.kIn,R.cl,e1,e2.1,hx _ _ ⟨a,_,_,H2,[],σ,rfl,J,h1,h2,h3,.inl ⟨sl,vs,e1,e2.1,λ_=>e2.2.1⟩,q⟩⟩))
theorem Vb:entryFor table "proto.unchain" = some Builtin.«proto.unchain»:=entryFor_of_tree (by kernel_rfl)
theorem TL {prog:Program}{A:Around}{K:Frag}(hh:A.handled=some (.ref ea))(hcz:∀ (Q:fV) (s:Shared),Q .none s->wpAny (model prog w) A cz Q Ee s) (h:wpAny (model prog w) A y (λv s₁=>∃ a dd vs sl eo ws,v=.ref a/\K.In s₁.heap/\lC K C/\s₁.heap.get? a=some ⟨.ref C,dd,.fields vs,sl⟩/\vs[1]? = some .none/\vs.size=6/\ea≠a/\s₁.heap.get? ea=some eo/\eo.data=.fields ws/\ws[2]? = some .none /\ ∀ h' vs',Kp [a] [] s₁.heap h'->h'.get? a=some ⟨.ref C,dd,.fields vs',sl⟩->vs'[1]? = some .none->Ee (.ref a) { s₁ with heap:=h' }) Ee s):wpAny (model prog w) A (raiseStmt env (some y) (some cz)) Q Ee s:=by
 unfold raiseStmt;refine ua (um h (λv s₁ z=>?_) λ_ _ z=>z);obtain⟨a,dd,vs,sl,eo,ws,rfl,KX,c,e0,h1,h6,ne,he,hd,h2,k⟩:=z;obtain⟨nm,q,N,bs,bm,hdd,sn,sub,ab,col,dd',k0,k1,k2,k3,k5,cd,hC,hcd,hmro,hns,hdd,OT,hok⟩:=Zo KX c.sh;refine ua (u4 (hcz _ _ (ua (ud ?_))));obtain⟨hp,g,dr,tk,os⟩:=s₁;have hcB:(Value.ref C::bm).contains (.type "BaseException")=true:=by rw [U2,OT.hasType (X:="BaseException") (b:=true) (by decide +kernel),gZ]
 repeat (first | (with_reducible refine uK e0 ?_) | (with_reducible refine uK hC ?_) | (with_reducible refine uM e0 rfl h1 ?_) | (with_reducible refine UX hC ?_;rw [hcB]) | wp_step)
 have nC:C≠a:=λz=>by rw [z,e0] at hC;injection hC with hC;injection hC with hC;cases hC
 have hC2:((hp.update a (Obj.mapFields λx=>x.setIfInBounds 3 Value.none)).update a (Obj.mapFields λx=>x.setIfInBounds 4 (Value.bool true))).get? C=some (excClassObj nm q C N bs bm _ sn sub ab col dd' k0 k1 k2 k3 k5 "ValueError.__new__"):=(uB _ _ (Ne.symm nC)).trans ((uB _ _ (Ne.symm nC)).trans hC);have ea2:((hp.update a (Obj.mapFields λx=>x.setIfInBounds 3 Value.none)).update a (Obj.mapFields λx=>x.setIfInBounds 4 (Value.bool true))).get? ea=some eo:=(uB _ _ (Ne.symm ne)).trans ((uB _ _ (Ne.symm ne)).trans he);have a1:(hp.update a (Obj.mapFields λx=>x.setIfInBounds 3 Value.none)).get? a=some ⟨.ref C,dd,.fields (vs.setIfInBounds 3 .none),sl⟩:=uU _ e0 rfl;have a2:((hp.update a (Obj.mapFields λx=>x.setIfInBounds 3 Value.none)).update a (Obj.mapFields λx=>x.setIfInBounds 4 (Value.bool true))).get? a=some ⟨.ref C,dd,.fields ((vs.setIfInBounds 3 .none).setIfInBounds 4 (.bool true)),sl⟩:=uU _ a1 rfl
 have k2':Kp [a] [] hp ((hp.update a (Obj.mapFields λx=>x.setIfInBounds 3 Value.none)).update a (Obj.mapFields λx=>x.setIfInBounds 4 (Value.bool true))):=
  have oth:∀ b,b∉[a]->((hp.update a (Obj.mapFields λx=>x.setIfInBounds 3 Value.none)).update a (Obj.mapFields λx=>x.setIfInBounds 4 (Value.bool true))).get? b=hp.get? b:=λb hb=>(uB _ _ (λz=>hb (by simp [z]))).trans (uB _ _ (λz=>hb (by simp [z])))
  ⟨λb o hb _ q=>(oth b hb).trans q,λb o hb q=>⟨o.slots,(oth b hb).trans q⟩⟩
 have s1:((vs.setIfInBounds 3 .none).setIfInBounds 4 (.bool true))[1]? = some .none:=by simpa [UN] using h1
 have s2:2<((vs.setIfInBounds 3 .none).setIfInBounds 4 (.bool true)).size:=by simp [h6]
 generalize ((vs.setIfInBounds 3 Value.none).setIfInBounds 4 (.bool true))=vs2 at a2 s1 s2;generalize ((hp.update a (Obj.mapFields λx=>x.setIfInBounds 3 Value.none)).update a (Obj.mapFields λx=>x.setIfInBounds 4 (Value.bool true)))=hp2 at hC2 ea2 a2 k2' ⊢;clear a1
 repeat (first | (with_reducible refine uK hC2 ?_) | (with_reducible refine uM a2 rfl s1 ?_) | wp_step)
 unfold raiseNew;refine ua (wpAny_handled ?_);rw [hh];have hne:(Value.ref ea != Value.ref a)=true:=by simpa using ne
 show wpAny (model prog w) A (if (Value.ref ea != Value.ref a)=true then _ else _) Q Ee _;rw [ue hne];refine ua (u4 (wpAny_runValue (codeAny_builtin Vb ?_)));unfold Builtin.«proto.unchain»;refine ua (uM ea2 hd h2 ?_);rw [ue (show(Value.none == Value.none)=true from rfl)];refine ua (ud ?_);refine ud (ua ?_);show wpAny (model prog w) A (setField (.ref a) 2 (.ref ea)) _ Ee _;refine UJ a2 rfl s2 (wpAny_throw ?_);refine k _ (vs2.setIfInBounds 2 (.ref ea)) ?_ (uU _ a2 rfl) (by simpa [UN] using s1);have oth:∀ b,b∉[a]->(hp2.update a (Obj.mapFields (·.setIfInBounds 2 (Value.ref ea)))).get? b=hp2.get? b:=λb hb=>uB _ _ (λz=>hb (by simp [z]));exact⟨λb o hb hf q=>(oth b hb).trans (k2'.keep b o hb hf q),λb o hb q=>let ⟨sl,q⟩:=k2'.slot b o hb q;⟨sl,(oth b hb).trans q⟩⟩
def WZ (ea C:Addr)(fs:List V->List (Str×V))(pay:List V->Prop)(E:XS)(t:TA):TS:=Z7 C fs pay (λc d σ H2=>E c d σ H2/\sx H2 ea/\∃ dd ys,d=some dd/\H2 dd=some (.xd ys)/\ys.length≠1) t
theorem RP (hx:∀ e s',rA X E e s'->X.xe e s')(hh:X.A.handled=some (.ref ea))(R:lJ X.prog X.w X.K X.mg X.base x C fs pay)(hr:jO j X.A)(hj:2<=j)(ha:PA X (e::es) t)(hg:Gl X x:=by rfl) (hdb:(x == ("__debug__":Str))=false:=by decide) (he:SE X e es:=by rfl) (hpl:(backTo cpos (starEach es X.env)).any (·.1)=false:=by rfl) : PS X (.Raise (some (.Call (.Name x np) (e::es) [] cpos)) (some (.Constant .none jc pc)) pos) (WZ ea C fs pay E t):=by
 intro pins s σ H D I h;rw [Gn];refine ua (Ua (TL (C:=C) (K:=X.K) hh (λQ s q=>ua (Constant_none (ua (Ua (ud q))))) ?_));refine ua (iB (Fe (D:=D) R hr hj ha hg hdb he hpl I h) λv s₁ zq=>?_);obtain⟨a,d,vs,sl,H2,e0,e1,e2,J,h1,h2,h3,q,⟨eo,ws,pE,pd,p2⟩,dd,ys,ed,hd,hl⟩:=zq;refine ua (Ua (ud ?_));obtain⟨ge,_⟩:=(show qC X.prog X.w H2 s₁.heap ea (.frz eo (.own ea)) from J.hok ea _ pE)
 refine⟨a,some d,vs,sl,eo,ws,e0,J.kIn,R.cl,e1,e2.1,e2.2.2,(λz=>by rw [z,h2] at pE;cases pE),ge,pd,p2,λh' vs' k z1 z2=>hx _ _ ⟨a,.ref C,some d,H2,σ,rfl,?_,h1,h2,h3,⟨sl,vs',z1,z2,λ⟨b,f,v,eb,hb⟩=>?_⟩,q⟩⟩
 ·exact J.kp (k.mono (λ_ z=>z) λb z=>absurd z (by simp)) (λb hb=>by rw [show b=a by simpa using hb];exact⟨kC J e1 rfl h1 h3,h2⟩) (λ_ _=>rfl) (J.hok.kp k (λb hb=>by rw [show b=a by simpa using hb];exact h2) λb z=>absurd z (by simp))
 ·cases ed;cases eb;rw [hd] at hb;cases hb;exact absurd rfl hl
def Am (C:Addr)(ta tv:TE)(name:Str):TS:=λD σ H=>tv σ H λy H1=>ta σ H1 λx H2=>∃ a d fs,x=.ref a/\H2 a=some (lO C d a)/\H2 d=some (.xd fs)/\fs.length<=1000/\fs.lookup name=none/\D.nx σ (upd H2 d (.xd (fs++[(name,y)])))
theorem Og {fs:List (Str×V)}(h:fs.lookup y=some v):y∈fs.map (·.1):=by
 induction fs with
 | nil=>cases h
 | cons p fs ih=>
  obtain⟨k,u⟩:=p;by_cases hk:y=k
  ·rw [hk];exact .head _
  ·rw [u5,show(y == k)=false from uO.mpr hk] at h;exact .tail _ (ih h)
theorem W0 {o value:Expr}(c:lC X.K C)(hn:findIn X.K (.ref C) name=some none)(ha:PE X o ta)(hv:PE X value tv)(hs:swapsWith value (some (.Attribute o name pos')) pos.line X.env=pure false:=by rfl) : PS X (.Assign [.Attribute o name pos'] value pos) (Am C ta tv name):=by
 intro pins s σ H D I h;refine UU (iB (hv pins s σ H _ I h) λu s1 ⟨y,H1,I1,ry,q⟩=>iB (ha pins s1 σ H1 _ I1 q) λov s2 zq=>?_) hs;obtain⟨x,H2,I2,rx,a,d,fs,ex,ea,ed,hl,hnl,q2⟩:=zq;subst ex;obtain rfl:ov=Value.ref a:=rx;obtain⟨⟨vs,sl,e,h1⟩,_⟩:=I2.hok a _ ea;obtain⟨mA,hN,hf⟩:=I2.hok d _ ed
 have hw:Within mA (fs.map (·.1)):=λy hy=>by
  have hy2:=hf y;cases hL:fs.lookup y with
  | none=>
   rw [hL] at hy2;cases hm:mA y with
   | none=>exact absurd hm hy
   | some u=>rw [hm] at hy2;exact hy2.elim
  | some v=>exact Og hL
 refine Sg I2.kIn e c.sh c.hd c.sa hn hN hw (by rw [uk,uR];exact Nat.lt_of_le_of_lt hl (by decide)) λh' tk g3 g4=>?_;refine⟨σ,_,?_,q2⟩;have nb:∀ b,H2 b=none->b≠d:=λb z y=>by rw [y,ed] at z;cases z
 have u:Un X.fs [] H2 (upd H2 d (.xd (fs++[(name,y)]))) s2.heap h':=by
  refine⟨λb o z n _ _=>g4 b o (nb b n) z,λb o z n _ _=>⟨o.slots,g4 b o (nb b n) z⟩,λb o z n _=>by rw [zk (nb b n)];exact n,λb o z _=>?_,λb xs z=>?_,λb o u z=>?_,λb ps z=>⟨#[],?_⟩⟩
  ·by_cases hb:b=d
   ·obtain⟨od,es,ep,hod,_⟩:=id g3;rw [hb];exact⟨od,hod⟩
   ·exact⟨o,g4 b o hb z⟩
  all_goals
   have nb:b≠d:=λy=>by rw [y,ed] at z;cases z
   rw [zk nb,z]
  simp
 refine I2.un u λb o z=>?_;by_cases hb:b=d
 ·subst hb;rw [zb] at z;cases z;refine⟨_,g3,λf=>?_⟩;rw [List.lookup_append];by_cases hf2:f=name
  ·subst hf2;simp only [ue,hnl,Option.none_or];simpa [List.lookup,iZ] using ry
  ·have:(f == name)=false:=uO.mpr hf2;simp only [ub hf2,List.lookup,this,Option.or_none];exact hf f
 ·rw [zk hb] at z;have nown:∀ c y,H2 c=some (.own y)->c≠d:=λc y r q=>by rw [q,ed] at r;cases r
  have ntup:∀ c y,H2 c=some (.tup y)->c≠d:=λc y r q=>by rw [q,ed] at r;cases r
  refine(I2.hok b o z).stay (λc v hc q=>g4 c v ?_ q) (λc q=>by rw [zk (nown c _ q)];exact q) λc xs q=>by rw [zk (ntup c _ q)];exact q
  rcases hc with rfl | hc
  ·exact hb
  ·exact nown c _ hc
end
section
variable {P:Program} {w:World} {K:Frag} {mg:La} {base:Heap} {k j:Nat} {C:Addr} {m x qual:Str} {st:Stmt} {ps N:Lj} {sp sp':Sp}
theorem oQ.okN (F:oQ K x qual st f fd)(S:zj N ps (zf st))(len:∀ vs H Q E,sp vs H Q E->vs.length=ps.length) (hbody:∀ (cdv:Value) (A:Around) (outer:List Env) (s:Shared) (H:Hp) (vs:List V) (Q:VK) (E:XK),sp vs H Q E -> ∃ t,lS (Xz mJ P w K mg base N qual (zf st) f cdv A outer s H E) (zW st) t/\t { nx:=λ_ H'=>Q .non H',rt:=Q } (start N vs) H):WD P w K mg base mJ (k+1) f fd ps sp:=by obtain⟨oc,od,kV,doc,pm,an,cdv,ct,osl,rfl,lk,hcd⟩:=F.ex;exact DT lk hcd S len λA outer s H vs Q E hr hsp=>hbody cdv A outer s H vs Q E hsp
structure mj (P:Program)(w:World)(K:Frag)(mg:La)(base:Heap)(k:Nat)(C:Addr)(m:Str)(ps:Lj)(sp:Sp):Prop where
 ex:∃ (f:Addr) (fd:FuncData),mP K C/\Meth K C m f/\Binds K fd ps []/\WD P w K mg base (nz P w) k f fd ps sp
theorem mj.ok (F:mj P w K mg base k C m ps sp):i6 P w K mg base k C m ps sp:=by obtain⟨f,fd,c,hm,b,G⟩:=F.ex;exact⟨f,fd,c,hm,b,G.ok⟩
theorem Dm.okN (D:Dm K C m qual st ps)(Sc:zj N ps (zf st))(len:∀ vs H Q E,sp vs H Q E->vs.length=ps.length) (hbody:∀ (f:Addr) (cdv:Value) (A:Around) (outer:List Env) (s:Shared) (H:Hp) (vs:List V) (Q:VK) (E:XK),jO k (A.deeper (envOfC qual (zf st) s.heap.objs.size f cdv))->sp vs H Q E -> ∃ t,lS (Xz (nz P w) P w K mg base N qual (zf st) f cdv A outer s H E) (zW st) t/\t { nx:=λ_ H'=>Q .non H',rt:=Q } (start N vs) H):mj P w K mg base (k+1) C m ps sp:=by obtain⟨f,fd,F,b,cl,hm⟩:=D.ex;refine⟨f,fd,cl,hm,b,?_⟩;obtain⟨oc,od,kV,doc,pm,an,cdv,ct,osl,rfl,lk,hcd⟩:=F.ex;exact DT lk hcd Sc len λA outer s H vs Q E hr h=>hbody f cdv A outer s H vs Q E hr h
theorem jO.marked {A:Around}(r:jO k A)(v:Option Value):jO k (A.mark v):=⟨r.dp,r.un,r.gd⟩
end
section
variable {X:Cx} {K:Frag} {k j:Nat} {C Dc:Addr} {x m n:Str} {ps:Lj} {sp:Sp} {p pos apos cpos np hpos:Pos} {e o:Expr} {es:Lh} {to:TE} {t:TA} {E:XS} {fs:List V->List (Str×V)} {pay:List V->Prop} {i:Nat} {tb:XS->TS} {th:Addr->TS} {body suite:List Stmt} {b₀:Stmt}
theorem RO (F:mj X.prog X.w X.K X.mg X.base k C m ps sp)(hr:jO j X.A)(hk:k<=j)(ho:QE X o to)
  (ht:eval (.Call (.Attribute o m apos) [] [] pos) X.env=(do
   let ov ← eval o X.env
   standAt apos.atName
   let (f,first) ← holding [ov] (getMethod ov m pl)
   callWith pos f first (backTo pos (starEach [] X.env)) (backToKw pos (keywordEach [] X.env))):=by rfl) :
  QE X (.Call (.Attribute o m apos) [] [] pos) (Ja C m sp [] E0 to i8):=by
 obtain⟨f,fd,cl,hm,b,G⟩:=F.ex
 exact⟨S6 ho.h cl hm G (hr.mono hk) b .nil Kv ht⟩
theorem kf (hx:nj X E)(R:lJ X.prog X.w X.K X.mg X.base x C fs pay)(hr:ix j X.A)(hj:2<=j)(ha:QA X (e::es) t)(hg:Gl X x:=by rfl) (hdb:(x == ("__debug__":Str))=false:=by decide)
  (he:SE X e es:=by rfl) (hpl:(backTo cpos (starEach es X.env)).any (·.1)=false:=by rfl) :
  QS X (.Raise (some (.Call (.Name x np) (e::es) [] cpos)) none pos) (Z7 C fs pay E t):=⟨S5 hx R hr hj ha.h hg hdb he hpl⟩
theorem RN (hx:∀ e s',rA X E e s'->X.xe e s')(hh:X.A.handled=some (.ref ea))(R:lJ X.prog X.w X.K X.mg X.base x C fs pay)(hr:jO j X.A)(hj:2<=j)(ha:QA X (e::es) t)(hg:Gl X x:=by rfl) (hdb:(x == ("__debug__":Str))=false:=by decide)
  (he:SE X e es:=by rfl) (hpl:(backTo cpos (starEach es X.env)).any (·.1)=false:=by rfl) :
  QS X (.Raise (some (.Call (.Name x np) (e::es) [] cpos)) (some (.Constant .none jc pc)) pos) (WZ ea C fs pay E t):=⟨RP hx hh R hr hj ha.h hg hdb he hpl⟩
theorem rA.swap {pn:Lp}{ea:Addr}{xe xe':fV}{e:Value}{s:Shared}(h:rA (X.exInG pn ea xe) E e s):rA (X.exInG pn ea xe') E e s:=by obtain⟨a,c,d,H',σ,e1,I,r⟩:=h;have ok:=I.ok;exact⟨a,c,d,H',σ,e1,⟨⟨ok.mod,ok.kind,ok.glob,ok.blt,ok.above,ok.inj,ok.has,ok.cab,λz=>absurd (show false=true from z) (by decide),ok.frames,ok.stk,ok.exf,ok.bs,ok.bsz,ok.noex,ok.exfs,ok.funs,ok.frf⟩,I.os,I.bare,I.base,I.loc,I.cell,I.free,I.freeC,I.pin,I.hok,I.len⟩,r⟩
theorem Of (hx:nj X E)(hm:X.mg x=some (.ref Dc))(cD:lC X.K Dc)(hN:X.N.Nodup)(hi:X.N[i]? = some n)(hl:X.env.scope.names.lookup n=some .local)(hst:X.stack=X.env::X.outer)(hf:X.env.frame=some X.env.locals)
  (hb:∀ (E:XS) (pn:Lp) (xe:fV),PassesOwn (model X.prog X.w) X.A X.env xe->nj (X.tryIn pn xe) E->n8 (X.tryIn pn xe) body (tb E))
  (hh:∀ pn ea xe,(∀ e s',rA (X.exInG pn ea xe) (λc d σ H=>E c d (σ.map λ_=>none) H) e s'->xe e s')->n8 (X.exInG pn ea xe) (b₀::suite) (th ea)) (hg:Gl X x:=by rfl) (hdb:(x == ("__debug__":Str))=false:=by decide) :
  QS X (.Try body [.ExceptHandler (some (.Name x np)) (some n) (b₀::suite) hpos] [] [] pos) (Bj X.K Dc i tb th):=
 ⟨NI hx hm cD hN hi hl hst hf (λE pn xe a b=>(hb E pn xe a b).h) (λpn ea=>(hh pn ea _ λ_ _ z=>z.swap).h) hg hdb⟩
end
theorem XA {K:Frag}{C:Addr}{f g p q:Str}{a:Addr}{v u:V}{i:Nat}{z:V}{H:Hp}{Q:VK}(ea:H a=some (lG C a))(hi:([V.ref a,v,u]:List V)[i]? = some z)(hp:nQ z)(hn:f≠g)(k:∀ d,H d=none->d≠a->Q .non (upd (upd H a (lO C d a)) d (.xd [(f,v),(g,u)]))) : i7 (Wu (oU (VC C) (jl (iL 0) (jl (BQ (iL i)) i8)))) (i7 (Kt K C (iL 0) (iL 1) f) (Am C (iL 0) (iL 2) g)) { nx:=λ_ H'=>Q .non H',rt:=Q } (start ["self",p,q] [.ref a,v,u]) H:=by
 refine⟨.ref a,rfl,z,?_,hp,λy=>⟨a,.str y,rfl,ea,v,rfl,.ref a,rfl,a,rfl,ea,λd h1 h2=>⟨u,rfl,.ref a,rfl,a,d,_,rfl,?_,zb,by show 1<=1000;decide,?_,?_⟩⟩⟩
 ·show(List.map some [V.ref a,v,u]++_)[i]? = some (some z);rw [UE (by rw [uk];exact(ur.mp hi).1),Uk,hi];rfl
 ·rw [zk (Ne.symm h2),zb]
 ·have:(g == f)=false:=uO.mpr (Ne.symm hn);simp [List.lookup,this]
 ·show Q _ _;rw [Q9];exact k d h1 h2
theorem TK {K:Frag}{C:Addr}{f g h p q r:Str}{a:Addr}{v u x:V}{tx:Str}{H:Hp}{Q:VK}(ea:H a=some (lG C a))(hn:f≠g/\f≠h/\g≠h)(k:∀ d,H d=none->d≠a->Q .non (upd (upd H a (lO C d a)) d (.xd [(f,v),(g,u),(h,x)]))) : i7 (Wu (oU (VC C) (jl (iL 0) (jl (tC (.str tx)) i8)))) (i7 (Kt K C (iL 0) (iL 1) f) (i7 (Am C (iL 0) (iL 2) g) (Am C (iL 0) (iL 3) h))) { nx:=λ_ H'=>Q .non H',rt:=Q } (start ["self",p,q,r] [.ref a,v,u,x]) H:=by
 have n1:(g == f)=false:=uO.mpr (Ne.symm hn.1);have n2:(h == f)=false:=uO.mpr (Ne.symm hn.2.1);have n3:(h == g)=false:=uO.mpr (Ne.symm hn.2.2);refine⟨.ref a,rfl,a,.str tx,rfl,ea,v,rfl,.ref a,rfl,a,rfl,ea,λd h1 h2=>⟨u,rfl,.ref a,rfl,a,d,_,rfl,?_,zb,by show 1<=1000;decide,?_,⟨x,rfl,.ref a,rfl,a,d,_,rfl,?_,zb,by show 2<=1000;decide,?_,?_⟩⟩⟩
 ·rw [zk (Ne.symm h2),zb]
 ·simp [List.lookup,n1]
 ·rw [zk (Ne.symm h2),zk (Ne.symm h2),zb]
 ·simp [List.lookup,n2,n3]
 ·show Q _ _;rw [Q9,Q9];exact k d h1 h2
end L2
namespace L2
open PySem PySem.Spec PyProof.Rows
theorem sL {A0:Type}{G:Prop}{p:A0->Prop}(h:∃ a0,p a0)(k:∀ a0,p a0->G):G:=by obtain⟨a0,h⟩:=h;exact k _ h
theorem nU {A0 A1:Type}{G:Prop}{p:A0->A1->Prop}(h:∃ a0 a1,p a0 a1)(k:∀ a0 a1,p a0 a1->G):G:=by obtain⟨a0,a1,h⟩:=h;exact k _ _ h
theorem oC {A0 A1 A2:Type}{G:Prop}{p:A0->A1->A2->Prop}(h:∃ a0 a1 a2,p a0 a1 a2)(k:∀ a0 a1 a2,p a0 a1 a2->G):G:=by obtain⟨a0,a1,a2,h⟩:=h;exact k _ _ _ h
theorem sJ {A0 A1 A2 A3:Type}{G:Prop}{p:A0->A1->A2->A3->Prop}(h:∃ a0 a1 a2 a3,p a0 a1 a2 a3)(k:∀ a0 a1 a2 a3,p a0 a1 a2 a3->G):G:=by obtain⟨a0,a1,a2,a3,h⟩:=h;exact k _ _ _ _ h
theorem lZ {A0 A1 A2 A3 A4:Type}{G:Prop}{p:A0->A1->A2->A3->A4->Prop}(h:∃ a0 a1 a2 a3 a4,p a0 a1 a2 a3 a4)(k:∀ a0 a1 a2 a3 a4,p a0 a1 a2 a3 a4->G):G:=by obtain⟨a0,a1,a2,a3,a4,h⟩:=h;exact k _ _ _ _ _ h
theorem tU {A0 A1 A2 A3 A4 A5:Type}{G:Prop}{p:A0->A1->A2->A3->A4->A5->Prop}(h:∃ a0 a1 a2 a3 a4 a5,p a0 a1 a2 a3 a4 a5)(k:∀ a0 a1 a2 a3 a4 a5,p a0 a1 a2 a3 a4 a5->G):G:=by obtain⟨a0,a1,a2,a3,a4,a5,h⟩:=h;exact k _ _ _ _ _ _ h
theorem pR {A0 A1 A2 A3 A4 A5 A6:Type}{G:Prop}{p:A0->A1->A2->A3->A4->A5->A6->Prop}(h:∃ a0 a1 a2 a3 a4 a5 a6,p a0 a1 a2 a3 a4 a5 a6)(k:∀ a0 a1 a2 a3 a4 a5 a6,p a0 a1 a2 a3 a4 a5 a6->G):G:=by obtain⟨a0,a1,a2,a3,a4,a5,a6,h⟩:=h;exact k _ _ _ _ _ _ _ h
theorem ex8 {A0 A1 A2 A3 A4 A5 A6 A7:Type}{G:Prop}{p:A0->A1->A2->A3->A4->A5->A6->A7->Prop}(h:∃ a0 a1 a2 a3 a4 a5 a6 a7,p a0 a1 a2 a3 a4 a5 a6 a7)(k:∀ a0 a1 a2 a3 a4 a5 a6 a7,p a0 a1 a2 a3 a4 a5 a6 a7->G):G:=by obtain⟨a0,a1,a2,a3,a4,a5,a6,a7,h⟩:=h;exact k _ _ _ _ _ _ _ _ h
theorem ex9 {A0 A1 A2 A3 A4 A5 A6 A7 A8:Type}{G:Prop}{p:A0->A1->A2->A3->A4->A5->A6->A7->A8->Prop}(h:∃ a0 a1 a2 a3 a4 a5 a6 a7 a8,p a0 a1 a2 a3 a4 a5 a6 a7 a8)(k:∀ a0 a1 a2 a3 a4 a5 a6 a7 a8,p a0 a1 a2 a3 a4 a5 a6 a7 a8->G):G:=by obtain⟨a0,a1,a2,a3,a4,a5,a6,a7,a8,h⟩:=h;exact k _ _ _ _ _ _ _ _ _ h
@[elab_as_elim] theorem pU {V:Type}{G:V->Prop}{v l:V}{B0:Prop}(h:v=l/\B0)(k:B0->G l):G v:=by obtain⟨rfl,b0⟩:=h;exact k b0
@[elab_as_elim] theorem mS {V:Type}{G:V->Prop}{v l:V}{B0 B1:Prop}(h:v=l/\B0/\B1)(k:B0->B1->G l):G v:=by obtain⟨rfl,b0,b1⟩:=h;exact k b0 b1
@[elab_as_elim] theorem nK {V:Type}{G:V->Prop}{v l:V}{B0 B1 B2:Prop}(h:v=l/\B0/\B1/\B2)(k:B0->B1->B2->G l):G v:=by obtain⟨rfl,b0,b1,b2⟩:=h;exact k b0 b1 b2
@[elab_as_elim] theorem lN {V:Type}{G:V->Prop}{v l:V}{B0 B1 B2 B3:Prop}(h:v=l/\B0/\B1/\B2/\B3)(k:B0->B1->B2->B3->G l):G v:=by obtain⟨rfl,b0,b1,b2,b3⟩:=h;exact k b0 b1 b2 b3
@[elab_as_elim] theorem av5 {V:Type}{G:V->Prop}{v l:V}{B0 B1 B2 B3 B4:Prop}(h:v=l/\B0/\B1/\B2/\B3/\B4)(k:B0->B1->B2->B3->B4->G l):G v:=by obtain⟨rfl,b0,b1,b2,b3,b4⟩:=h;exact k b0 b1 b2 b3 b4
@[elab_as_elim] theorem av6 {V:Type}{G:V->Prop}{v l:V}{B0 B1 B2 B3 B4 B5:Prop}(h:v=l/\B0/\B1/\B2/\B3/\B4/\B5)(k:B0->B1->B2->B3->B4->B5->G l):G v:=by obtain⟨rfl,b0,b1,b2,b3,b4,b5⟩:=h;exact k b0 b1 b2 b3 b4 b5
@[elab_as_elim] theorem rg {V:Type}{G:V->Prop}{v l:V}{B0 B1 B2 B3 B4 B5 B6 B7:Prop}(h:v=l/\B0/\B1/\B2/\B3/\B4/\B5/\B6/\B7)(k:B0->B1->B2->B3->B4->B5->B6->B7->G l):G v:=by obtain⟨rfl,b0,b1,b2,b3,b4,b5,b6,b7⟩:=h;exact k b0 b1 b2 b3 b4 b5 b6 b7
@[elab_as_elim] theorem C2 {V:Type}{G:V->Prop}{v l:V}{B0 B1 B2 B3 B4 B5 B6 B7 B8 B9:Prop}(h:v=l/\B0/\B1/\B2/\B3/\B4/\B5/\B6/\B7/\B8/\B9)(k:B0->B1->B2->B3->B4->B5->B6->B7->B8->B9->G l):G v:=by obtain⟨rfl,b0,b1,b2,b3,b4,b5,b6,b7,b8,b9⟩:=h;exact k b0 b1 b2 b3 b4 b5 b6 b7 b8 b9
@[elab_as_elim] theorem C1 {V:Type}{G:V->Prop}{v l:V}{B0 B1 B2 B3 B4 B5 B6 B7 B8 B9 B10:Prop}(h:v=l/\B0/\B1/\B2/\B3/\B4/\B5/\B6/\B7/\B8/\B9/\B10)(k:B0->B1->B2->B3->B4->B5->B6->B7->B8->B9->B10->G l):G v:=by obtain⟨rfl,b0,b1,b2,b3,b4,b5,b6,b7,b8,b9,b10⟩:=h;exact k b0 b1 b2 b3 b4 b5 b6 b7 b8 b9 b10
theorem Yk {c:Prop} [Decidable c]{A B:Prop}(h:c)(q:A):if c then A else B:=by rw [ue h];exact q
theorem K4 {c:Prop} [Decidable c]{A B:Prop}(h:¬c)(q:B):if c then A else B:=by rw [ub h];exact q
theorem iG (h:∀ N:St->Hp->Prop,(∀ σ' H',b D σ' H'->N σ' H')->a { D with nx:=N } σ H):i7 a b D σ H:=h (b D) λ_ _ z=>z
def lL (m t:Ld):Bool:=(List.range (t.length+1)).any λi=>(t.drop i).take m.length == m
theorem DS {l y:Ld}:StrLaws.At (S l) (S y) (S l).length i↔i+y.length<=l.length/\(l.drop i).take y.length=y:=by
 unfold StrLaws.At Builtin.Str.subAt;rw [Zn,Zn,Ub];have e:(S l).cps.extract i (i+y.length)=(S y).cps↔(l.drop i).take y.length=y:=by show(l.toArray).extract i (i+y.length)=y.toArray↔_;rw [← Array.toList_inj];simp [Array.toList_extract,List.extract,gN]
 rw [e]
theorem Oe:(!(Builtin.Str.occurrences (S t) (S m) 0 (S t).length 1).isEmpty)=lL m t:=by
 unfold lL;rcases StrLaws.occ_head (S t) (S m) 1 (ui _) with⟨h1,h2⟩ | ⟨i,r,h1,h2,_⟩
 ·rw [h1];refine Eq.symm (GP.mpr λh=>?_);obtain⟨i,hi,e⟩:=List.any_eq_true.mp h;have e:=Ub.mp e;refine h2 i (DS.mpr ⟨?_,e⟩);have hi:=Gh.mp hi;have:=congrArg List.length e;rw [Ut,gL] at this;lia
 ·rw [h1];obtain⟨a,b⟩:=DS.mp h2;exact Eq.symm (List.any_eq_true.mpr ⟨i,Gh.mpr (by lia),Ub.mpr b⟩)
def tq:R2:=λx y H Q=>∃ m l,x=.str (S m)/\y=.str (S l)/\Q (.bl (lL m l)) H
variable {X:Cx}
theorem DR:iY X (compareOp .In) tq:=by intro pins s σ H x y v u Q I rx ry h;obtain⟨m,l,rfl,rfl,q⟩:=h;refine Vp pins s σ H _ _ v u Q I rx ry ⟨S m,S l,rfl,rfl,?_⟩;rw [Oe];exact q
end L2
namespace L2
open PySem PySem.Spec PySem.Calls PyProof.Rows PySem.W
section
variable {X:Cx} {a b c d e f:Expr} {ta tb tc td te tf:TE} {pos:Pos}
theorem iu (qa:QE X a ta)(h1:SE X a []:=by rfl):QA X [a] (jl ta i8):=qN qa zC h1
theorem ip (qa:QE X a ta)(qb:QE X b tb)(h1:SE X a [b]:=by rfl) (h2:SE X b []:=by rfl):QA X [a,b] (jl ta (jl tb i8)):=qN qa (iu qb h2) h1
theorem iH (qa:QE X a ta)(qb:QE X b tb)(qc:QE X c tc)(h1:SE X a [b,c]:=by rfl) (h2:SE X b [c]:=by rfl) (h3:SE X c []:=by rfl):QA X [a,b,c] (jl ta (jl tb (jl tc i8))):=qN qa (ip qb qc h2 h3) h1
theorem lr (qa:QE X a ta)(qb:QE X b tb)(qc:QE X c tc)(qd:QE X d td)(h1:SE X a [b,c,d]:=by rfl) (h2:SE X b [c,d]:=by rfl) (h3:SE X c [d]:=by rfl) (h4:SE X d []:=by rfl):QA X [a,b,c,d] (jl ta (jl tb (jl tc (jl td i8)))):=qN qa (iH qb qc qd h2 h3 h4) h1
theorem mK (qa:QE X a ta)(qb:QE X b tb)(qc:QE X c tc)(qd:QE X d td)(qe:QE X e te)(h1:SE X a [b,c,d,e]:=by rfl) (h2:SE X b [c,d,e]:=by rfl) (h3:SE X c [d,e]:=by rfl) (h4:SE X d [e]:=by rfl) (h5:SE X e []:=by rfl):QA X [a,b,c,d,e] (jl ta (jl tb (jl tc (jl td (jl te i8))))):=qN qa (lr qb qc qd qe h2 h3 h4 h5) h1
theorem qS (l:Ld)(h:x=S l:=by decide +kernel):QE X (.Constant (.str x) j pos) (tC (.str (S l))):=Ci h
theorem iw (ho:iY X (compareOp op) r)(ha:QE X a ta)(hb:QE X b tb)(hm:behindInMarks op b=false:=by first | rfl | exact D7 _):QT X (.Compare a [op] [b] pos) (Kg (nO r ta tb)):=Ol ho ha hb hm
theorem pG (ho:iY X (compareOp op) r)(ha:QE X a ta)(hb:QE X b tb)(hm:behindInMarks op b=false:=by first | rfl | exact D7 _):QE X (.Compare a [op] [b] pos) (nO r ta tb):=Oq ho ha hb hm
theorem iC (i:Nat){pos':Pos}(hN:X.N.Nodup)(he:QE X e te)(hi:X.N[i]? = some x:=by rfl) (hx:Loc X.env.scope x:=by exact Or.inl (by rfl)) (hs:swapsWith e (some (.Name x pos')) pos.line X.env=pure false:=by rfl) (hf:X.fn x=true\/X.env.scope.names.lookup x=some .local:=by first | exact .inl rfl | exact .inr rfl | assumption) :
  QS X (.Assign [.Name x pos'] e pos) (mU te (wO i)):=Lu hN hi hx he hs hf
theorem ly (i:Nat)(hN:X.N.Nodup)(hi:X.N[i]? = some x:=by rfl) (hx:Loc X.env.scope x:=by exact Or.inl (by rfl)) (hf:X.fn x=true\/X.env.scope.names.lookup x=some .local:=by first | exact .inl rfl | exact .inr rfl | assumption):QG X (.Name x pos) (wO i):=Om hN hi hx hf
theorem qF (F:ig X.prog X.w X.K X.mg X.base k x ps sp)(hr:ix j X.A)(ha:QA X (e::es) t)(hk:k<=j:=by first | decide | lia) (hg:Gl X x:=by rfl) (hdb:(x == ("__debug__":Str))=false:=by decide)
  (he:SE X e es:=by rfl) (hpl:(backTo pos (starEach es X.env)).any (·.1)=false:=by rfl):QE X (.Call (.Name x p) (e::es) [] pos) (yp sp [] E0 t):=Rc F hr hk ha hg hdb he hpl
theorem iy (K:Frag)(ha:QE X a ta)(hb:QE X b tb)(hK:X.K=K:=by rfl) (hs:WT b:=by exact λ_ _=>rfl):QE X (.Subscript a b pos) (nO (pD K) ta tb):=VI (NU hK) ha hb hs
theorem mQ (K:Frag)(ha:QE X a ta)(hb:QE X b tb)(hK:X.K=K:=by rfl) (hs:WT b:=by exact λ_ _=>rfl):QE X (.Subscript a b pos) (nO (pF K) ta tb):=VI (Sl hK) ha hb hs
end
theorem rK (h:∀ N,N=u D->t { D with nx:=N } σ H):i7 t u D σ H:=h _ rfl
theorem Ck {N M:St->Hp->Prop}{σ:St}{H:Hp}(h:N=M)(k:M σ H):N σ H:=h ▸ k
theorem tS (h:∀ T U:St->Hp->Prop,T=t D->U=u D->c σ H λb H1=>if b=true then T σ H1 else U σ H1):nP c t u D σ H:=h _ _ rfl rfl
section
variable {v z:V} {x:Option V} {σ:St} {H:Hp} {i:Nat} {p:Addr} {α β γ δ:Sort _} {c:Bool} {k l:Int}
theorem vS0:iL 0 (some v::σ) H Q=Q v H:=by simp [iL]
theorem vSs:iL (i+1) (x::σ) H Q=iL i σ H Q:=rfl
theorem As:wO 0 v (x::σ) H Q=Q (some v::σ) H:=rfl
theorem Ar:wO (i+1) v (x::σ) H Q=wO i v σ H λτ=>Q (x::τ):=rfl
theorem C3 {D:Ends}:BR i te ti D σ H=iL i σ H λx _=>te σ H λy H1=>ti x y H1 λz H2=>wO i z σ H2 D.nx:=rfl
theorem exB {P:Bool->Prop}:(∃ k,V.bl c=.bl k/\P k)=P c:=by simp
theorem exI {P:Int->Prop}:(∃ i,V.int k=.int i/\P i)=P k:=by simp
theorem CU {P:Addr->Prop}:(∃ a,V.ref p=.ref a/\P a)=P p:=by simp
theorem CV {P:Addr->α->Prop}:(∃ a x,[V.ref p]=[.ref a]/\P a x)=∃ x,P p x:=by simp
theorem mC:List.map some (y::ys)++r=some y::(List.map some ys++r):=rfl
theorem mN:List.map some ([]:List V)++r=r:=rfl
theorem rC:List.replicate (n+1) (none:Option V)=none::List.replicate n none:=rfl
theorem rN:List.replicate 0 (none:Option V)=[]:=rfl
theorem exN {P:Prop}:(([]:List V)=[]/\P)=P:=by simp
theorem CP {m n:Ld}{P:Ld->Ld->Prop}:(∃ a b,V.str (S m)=.str (S a)/\V.str (S n)=.str (S b)/\P a b)=P m n:=by simp [yq]
variable {y w:V}
theorem CW {P:Int->Int->Prop}:(∃ i j,w=.int i/\y=.int j/\P i j)=∃ i,w=.int i/\∃ j,y=.int j/\P i j:=by simp
theorem CT {P:Addr->α->Prop}:(∃ a x,w=.ref a/\P a x)=∃ a,w=.ref a/\∃ x,P a x:=by simp
theorem CS {P:Addr->α->β->Prop}:(∃ a x y,w=.ref a/\P a x y)=∃ a,w=.ref a/\∃ x y,P a x y:=by simp
theorem CQ {P:Addr->α->β->γ->Prop}:(∃ a x y z,w=.ref a/\P a x y z)=∃ a,w=.ref a/\∃ x y z,P a x y z:=by simp
theorem exF {A:Addr->α->β->γ->Prop}{B C:α->Prop}{E:γ->δ->Prop}{Q:δ->Prop}:(∃ a c d f v,w=.ref a/\A a c d f/\B c/\C c/\E f v/\Q v)=∃ a,w=.ref a/\∃ c d f,A a c d f/\B c/\C c/\∃ v,E f v/\Q v:=by simp
theorem exD {A B:α->Addr->Prop}{C:α->Prop}{D:α->α->Prop}:(∃ d e a b,w=.ref a/\y=.ref b/\A d a/\B e b/\C d/\D d e)=∃ d e a,w=.ref a/\∃ b,y=.ref b/\A d a/\B e b/\C d/\D d e:=by simp
theorem caN:yp sp [] E t σ H Q=t σ H λvs H1=>sp vs H1 Q E:=by simp only [yp,uj]
theorem meN:Ja C m sp [] E ta t σ H Q=ta σ H λx H1=>∃ a dx fs,x=.ref a/\H1 a=some (.ins C dx fs)/\fs.lookup m=none/\t σ H1 λvs H2=>sp (x::vs) H2 Q E:=by simp only [Ja,uj]
theorem maN:Kh C sp [] E t σ H Q=t σ H λvs H1=>∀ x dx,H1 x=none->H1 dx=none->dx≠x->sp (.ref x::vs) (upd (upd H1 dx (.own x)) x (.ins C dx [])) (λv H2=>v=.non/\Q (.ref x) H2) E:=by simp only [Kh,uj]
variable {a b:Str} {d:Bool}
theorem sL0:md (.int k) (.int l)=true:=rfl
theorem sL1:md (.bl c) (.bl d)=true:=rfl
theorem sL2:md (.str a) (.str b)=true:=rfl
theorem sL3:md .non (.int k)=true:=rfl
theorem sL4:md (.int k) .non=true:=rfl
theorem sL5:md .non (.str a)=true:=rfl
theorem sL6:md (.str a) .non=true:=rfl
theorem sL7:md .non .non=true:=rfl
theorem sL8:md (.str a) (.int k)=true:=rfl
theorem sL9:md (.int k) (.str a)=true:=rfl
end
end L2
set_option maxHeartbeats 4000000
set_option pp.deepTerms true
set_option pp.maxSteps 200000
namespace My
open PySem L2 PySem.Spec PyProof.Rows
def top (i:Nat):Stmt:=PySem.Challenge.pw_sealpress_k75_unlike_and_left_open.main.body.getD i (.Pass ⟨0,0,0,0⟩)
local macro_rules | `(tactic| walk_at "sc") => `(tactic| exact ⟨rfl, rfl, rfl, by decide +kernel, rfl, by decide +kernel, by decide +kernel⟩)
abbrev JS:Stmt:=top 27
abbrev JT:Lj:=["number"]
abbrev vX:Lj:=["number"]
theorem TJ:zj JT vX (zf JS):=by walk_at "sc"
abbrev ZD:Stmt:=top 28
abbrev ZE:Lj:=["figures","number"]
abbrev j5:Lj:=["figures"]
theorem Js:zj ZE j5 (zf ZD):=by walk_at "sc"
abbrev Qr:Stmt:=top 32
abbrev Qs:Lj:=["state"]
abbrev xZ:Lj:=["state"]
theorem K5:zj Qs xZ (zf Qr):=by walk_at "sc"
abbrev yT:Stmt:=top 34
abbrev yU:Lj:=["sign"]
abbrev jq:Lj:=["sign"]
theorem XB:zj yU jq (zf yT):=by walk_at "sc"
abbrev Qt:Stmt:=top 35
abbrev Qu:Lj:=["sign"]
abbrev va:Lj:=["sign"]
theorem K6:zj Qu va (zf Qt):=by walk_at "sc"
abbrev Qv:Stmt:=top 36
abbrev Qw:Lj:=["sign"]
abbrev vd:Lj:=["sign"]
theorem K7:zj Qw vd (zf Qv):=by walk_at "sc"
abbrev Bn:Stmt:=top 37
abbrev Fj:Lj:=["talk","sign"]
abbrev Jt:Lj:=["talk","sign"]
theorem Od:zj Fj Jt (zf Bn):=by walk_at "sc"
abbrev JU:Stmt:=top 41
abbrev JV:Lj:=["mode","opens","events"]
abbrev zM:Lj:=["mode","opens","events"]
theorem TH:zj JV zM (zf JU):=by walk_at "sc"
abbrev Bm:Stmt:=top 42
abbrev Fi:Lj:=["mode","opens","sign"]
abbrev wB:Lj:=["mode","opens","sign"]
theorem Oc:zj Fi wB (zf Bm):=by walk_at "sc"
abbrev Qx:Stmt:=top 43
abbrev Qy:Lj:=["mode","word","opens","talk","most"]
abbrev ql:Lj:=["mode","word","opens","talk","most"]
theorem K8:zj Qy ql (zf Qx):=by walk_at "sc"
abbrev Qz:Stmt:=top 44
abbrev QB:Lj:=["opens","events"]
abbrev jT:Lj:=["opens","events"]
theorem K9:zj QB jT (zf Qz):=by walk_at "sc"
abbrev QC:Stmt:=top 45
abbrev QD:Lj:=["opens","events","mode"]
abbrev ve:Lj:=["opens","events"]
theorem WE:zj QD ve (zf QC):=by walk_at "sc"
abbrev XC:Stmt:=top 46
abbrev XD:Lj:=["opens","sign","events"]
abbrev xJ:Lj:=["opens","sign","events"]
theorem RM:zj XD xJ (zf XC):=by walk_at "sc"
abbrev AX:Stmt:=top 47
abbrev DQ:Lj:=["opens","talk","sign","answer"]
abbrev JW:Lj:=["opens","talk","sign"]
theorem DP:zj DQ JW (zf AX):=by walk_at "sc"
abbrev kJ:Stmt:=top 48
abbrev kK:Lj:=["word","sign"]
abbrev ji:Lj:=["word","sign"]
theorem Vc:zj kK ji (zf kJ):=by walk_at "sc"
abbrev JX:Stmt:=top 49
abbrev JY:Lj:=["word","opens","talk","sign"]
abbrev vY:Lj:=["word","opens","talk","sign"]
theorem TF:zj JY vY (zf JX):=by walk_at "sc"
abbrev JZ:Stmt:=top 50
abbrev J0:Lj:=["word","opens","talk","sign"]
abbrev vZ:Lj:=["word","opens","talk","sign"]
theorem TC:zj J0 vZ (zf JZ):=by walk_at "sc"
abbrev J1:Stmt:=top 51
abbrev J2:Lj:=["word","opens","talk","sign"]
abbrev v5:Lj:=["word","opens","talk","sign"]
theorem TB:zj J2 v5 (zf J1):=by walk_at "sc"
abbrev J3:Stmt:=top 52
abbrev J4:Lj:=["word","opens","talk","sign"]
abbrev v7:Lj:=["word","opens","talk","sign"]
theorem Tz:zj J4 v7 (zf J3):=by walk_at "sc"
abbrev QF:Stmt:=top 53
abbrev QH:Lj:=["word","opens","talk","sign"]
abbrev vf:Lj:=["word","opens","talk","sign"]
theorem zaa:zj QH vf (zf QF):=by walk_at "sc"
abbrev J5:Stmt:=top 54
abbrev J6:Lj:=["word","opens","talk","sign"]
abbrev v8:Lj:=["word","opens","talk","sign"]
theorem Tw:zj J6 v8 (zf J5):=by walk_at "sc"
abbrev XE:Stmt:=top 55
abbrev XF:Lj:=["word","opens","talk","sign"]
abbrev kg:Lj:=["word","opens","talk","sign"]
theorem RL:zj XF kg (zf XE):=by walk_at "sc"
abbrev J7:Stmt:=top 56
abbrev J8:Lj:=["word","opens","talk","sign"]
abbrev v9:Lj:=["word","opens","talk","sign"]
theorem Tv:zj J8 v9 (zf J7):=by walk_at "sc"
abbrev Yl:Stmt:=top 57
abbrev Ym:Lj:=["word","opens","talk","sign"]
abbrev ZF:Lj:=["word","opens","talk","sign"]
theorem P2:zj Ym ZF (zf Yl):=by walk_at "sc"
abbrev J9:Stmt:=top 58
abbrev Wa:Lj:=["word","opens","talk","sign"]
abbrev ya:Lj:=["word","opens","talk","sign"]
theorem Tu:zj Wa ya (zf J9):=by walk_at "sc"
abbrev Wb:Stmt:=top 59
abbrev Wc:Lj:=["word","opens","talk","sign"]
abbrev yb:Lj:=["word","opens","talk","sign"]
theorem Tt:zj Wc yb (zf Wb):=by walk_at "sc"
abbrev Wd:Stmt:=top 60
abbrev We:Lj:=["word","opens","talk","sign"]
abbrev yc:Lj:=["word","opens","talk","sign"]
theorem Ts:zj We yc (zf Wd):=by walk_at "sc"
abbrev XG:Stmt:=top 61
abbrev XH:Lj:=["word","opens","talk","sign"]
abbrev kh:Lj:=["word","opens","talk","sign"]
theorem RK:zj XH kh (zf XG):=by walk_at "sc"
abbrev ZG:Stmt:=top 62
abbrev ZH:Lj:=["word","opens","talk","sign"]
abbrev xf:Lj:=["word","opens","talk","sign"]
theorem Yn:zj ZH xf (zf ZG):=by walk_at "sc"
abbrev ZI:Stmt:=top 63
abbrev ZJ:Lj:=["word","opens","talk","sign"]
abbrev xg:Lj:=["word","opens","talk","sign"]
theorem Yo:zj ZJ xg (zf ZI):=by walk_at "sc"
abbrev QJ:Stmt:=top 64
abbrev QK:Lj:=["word","opens","talk","sign"]
abbrev vg:Lj:=["word","opens","talk","sign"]
theorem zab:zj QK vg (zf QJ):=by walk_at "sc"
abbrev Wf:Stmt:=top 65
abbrev Wg:Lj:=["word","opens","talk","sign"]
abbrev yd:Lj:=["word","opens","talk","sign"]
theorem Tr:zj Wg yd (zf Wf):=by walk_at "sc"
abbrev Wh:Stmt:=top 66
abbrev Wi:Lj:=["word","opens","talk","sign"]
abbrev ye:Lj:=["word","opens","talk","sign"]
theorem Tp:zj Wi ye (zf Wh):=by walk_at "sc"
abbrev QL:Stmt:=top 67
abbrev QM:Lj:=["word","opens","talk","sign"]
abbrev vh:Lj:=["word","opens","talk","sign"]
theorem zac:zj QM vh (zf QL):=by walk_at "sc"
abbrev Z8:Stmt:=top 68
abbrev Z9:Lj:=["word","opens","talk","sign","grown","events"]
abbrev yf:Lj:=["word","opens","talk","sign"]
theorem QN:zj Z9 yf (zf Z8):=by walk_at "sc"
abbrev Yp:Stmt:=top 70
abbrev Yq:Lj:=["state","sign","act"]
abbrev ZK:Lj:=["state","sign"]
theorem Fy:zj Yq ZK (zf Yp):=by walk_at "sc"
abbrev Yr:Stmt:=top 72
abbrev Ys:Lj:=[]
abbrev yg:Lj:=[]
theorem P1:zj Ys yg (zf Yr):=by walk_at "sc"
abbrev Bl:Stmt:=top 73
abbrev Fh:Lj:=["state","sign"]
abbrev Ju:Lj:=["state","sign"]
theorem Ob:zj Fh Ju (zf Bl):=by walk_at "sc"
abbrev AW:Stmt:=top 74
abbrev DO:Lj:=["state","text","now","events","at","sign","answer"]
abbrev Wj:Lj:=["state","text"]
theorem QP:zj DO Wj (zf AW):=by walk_at "sc"
abbrev XI:Stmt:=top 75
abbrev XJ:Lj:=["state"]
abbrev vP:Lj:=["state"]
theorem RJ:zj XJ vP (zf XI):=by walk_at "sc"
abbrev Wk:Stmt:=top 76
abbrev Wl:Lj:=["state"]
abbrev wH:Lj:=["state"]
theorem T8:zj Wl wH (zf Wk):=by walk_at "sc"
abbrev vz:Stmt:=inClass (top 78) 0
abbrev vA:Lj:=["self","state","turns","many"]
abbrev qp:Lj:=["self","state","turns","many"]
theorem Wm:zj vA qp (zf vz):=by walk_at "sc"
abbrev kL:Stmt:=inClass (top 78) 1
abbrev kM:Lj:=["self"]
abbrev zV:Lj:=["self"]
theorem Vd:zj kM zV (zf kL):=by walk_at "sc"
abbrev QQ:Stmt:=inClass (top 78) 2
abbrev QR:Lj:=["self","state"]
abbrev jz:Lj:=["self","state"]
theorem zae:zj QR jz (zf QQ):=by walk_at "sc"
abbrev yV:Stmt:=inClass (top 78) 3
abbrev yW:Lj:=["self","turn"]
abbrev qW:Lj:=["self","turn"]
theorem XM:zj yW qW (zf yV):=by walk_at "sc"
abbrev wJ:Stmt:=inClass (top 79) 0
abbrev wK:Lj:=["self","kept"]
abbrev qL:Lj:=["self","kept"]
theorem Qg:zj wK qL (zf wJ):=by walk_at "sc"
abbrev jC:Stmt:=inClass (top 79) 1
abbrev wL:Lj:=["self","pieces","spot","now","piece"]
abbrev zw:Lj:=["self","pieces","spot"]
theorem qM:zj wL zw (zf jC):=by walk_at "sc"
abbrev jd:Stmt:=inClass (top 79) 2
abbrev jU:Lj:=["self","piece","spot","word"]
abbrev zT:Lj:=["self","piece","spot"]
theorem xF:zj jU zT (zf jd):=by walk_at "sc"
abbrev jD:Stmt:=inClass (top 79) 3
abbrev jE:Lj:=["self","piece","spot","answer","refusal"]
abbrev zJ:Lj:=["self","piece","spot"]
theorem jr:zj jE zJ (zf jD):=by walk_at "sc"
abbrev wc:Stmt:=inClass (top 79) 4
abbrev we:Lj:=["self","piece","spot","place"]
abbrev zZ:Lj:=["self","piece","spot"]
theorem vi:zj we zZ (zf wc):=by walk_at "sc"
abbrev jm:Stmt:=inClass (top 79) 5
abbrev wg:Lj:=["self","piece","spot","passed","end"]
abbrev z6:Lj:=["self","piece","spot"]
theorem jV:zj wg z6 (zf jm):=by walk_at "sc"
abbrev jP:Stmt:=inClass (top 79) 6
abbrev xh:Lj:=["self","piece","spot","one","other"]
abbrev qq:Lj:=["self","piece","spot"]
theorem wM:zj xh qq (zf jP):=by walk_at "sc"
abbrev jn:Stmt:=inClass (top 79) 7
abbrev wj:Lj:=["self","piece","spot","floor","end"]
abbrev z7:Lj:=["self","piece","spot"]
theorem jW:zj wj z7 (zf jn):=by walk_at "sc"
abbrev vj:Lj:=["self","piece","spot","pair","part","first","behind"]
abbrev ZL:Stmt:=top 80
abbrev ZM:Lj:=["pieces","kept","looking","end"]
abbrev xi:Lj:=["pieces","kept"]
theorem kN:zj ZM xi (zf ZL):=by walk_at "sc"
abbrev BB:Stmt:=top 81
abbrev Fo:Lj:=["pieces"]
abbrev Jv:Lj:=["pieces"]
theorem Oa:zj Fo Jv (zf BB):=by walk_at "sc"
abbrev yX:Stmt:=top 83
abbrev yY:Lj:=["piece"]
abbrev jX:Lj:=["piece"]
theorem XN:zj yY jX (zf yX):=by walk_at "sc"
abbrev XO:Stmt:=top 84
abbrev XQ:Lj:=["pieces","place","things","ahead","turns","piece"]
abbrev vQ:Lj:=["pieces","place"]
theorem ki:zj XQ vQ (zf XO):=by walk_at "sc"
abbrev QU:Stmt:=top 85
abbrev QX:Lj:=["pieces","place","state","aside","thing"]
abbrev wR:Lj:=["pieces","place"]
theorem jY:zj QX wR (zf QU):=by walk_at "sc"
abbrev ZN:Stmt:=top 87
abbrev ZO:Lj:=["_law_script","_law_k","_law_number"]
abbrev xj:Lj:=["_law_script","_law_k"]
theorem kP:zj ZO xj (zf ZN):=by walk_at "sc"
abbrev QY:Stmt:=top 88
abbrev QZ:Lj:=["_law_cell_here","_law_k","_law_many","_law_first","_law_second","_law_number"]
abbrev qy:Lj:=["_law_cell_here","_law_k","_law_many"]
theorem yu:zj QZ qy (zf QY):=by walk_at "sc"
abbrev kQ:Stmt:=top 89
abbrev kR:Lj:=["_law_e"]
abbrev wq:Lj:=["_law_e"]
theorem Ve:zj kR wq (zf kQ):=by walk_at "sc"
abbrev ZP:Stmt:=top 90
abbrev ZQ:Lj:=["_law_cell_here","_law_k"]
abbrev qO:Lj:=["_law_cell_here","_law_k"]
theorem Yt:zj ZQ qO (zf ZP):=by walk_at "sc"
abbrev kS:Stmt:=top 91
abbrev kT:Lj:=["_law_word","_law_mark","_law_kind","_law_bad","_law_ahead","_law_turn"]
abbrev jj:Lj:=["_law_word","_law_mark","_law_kind"]
theorem xR:zj kT jj (zf kS):=by walk_at "sc"
abbrev yw:Stmt:=top 92
abbrev ZR:Lj:=["_law_cell_here","_law_kind","_law_deep","_law_plants","_law_found","_law_due_here","_law_k","_law_plant","_law_more"]
abbrev qi:Lj:=["_law_cell_here","_law_kind","_law_deep","_law_plants"]
theorem qu:zj ZR qi (zf yw):=by walk_at "sc"
abbrev yx:Stmt:=top 93
abbrev ZS:Lj:=["_law_cell_here","_law_kind","_law_deep","_law_plants","_law_way","_law_name","_law_one","_law_due_here","_law_other_here","_law_word"]
abbrev j6:Lj:=["_law_cell_here","_law_kind","_law_deep","_law_plants"]
theorem jF:zj ZS j6 (zf yx):=by walk_at "sc"
abbrev xS:Stmt:=top 94
abbrev yZ:Lj:=["_law_cell_here","_law_lead","_law_kind","_law_close","_law_deep","_law_plants","_law_one","_law_due_here"]
abbrev jt:Lj:=["_law_cell_here","_law_lead","_law_kind","_law_close","_law_deep","_law_plants"]
theorem yh:zj yZ jt (zf xS):=by walk_at "sc"
abbrev wC:Stmt:=top 95
abbrev vB:Lj:=["_law_cell_here","_law_kind","_law_deep","_law_plants","_law_way","_law_lead","_law_tag","_law_due_here","_law_inner_here","_law_more"]
abbrev qr:Lj:=["_law_cell_here","_law_kind","_law_deep","_law_plants"]
theorem zF:zj vB qr (zf wC):=by walk_at "sc"
abbrev ZT:Stmt:=top 96
abbrev ZU:Lj:=["_law_cell_here","_law_plants","_law_found","_law_due_here","_law_plant"]
abbrev j7:Lj:=["_law_cell_here","_law_plants"]
theorem xk:zj ZU j7 (zf ZT):=by walk_at "sc"
abbrev y3:Stmt:=top 97
abbrev y7:Lj:=["_law_piece","_law_mark"]
abbrev ju:Lj:=["_law_piece","_law_mark"]
theorem XR:zj y7 ju (zf y3):=by walk_at "sc"
abbrev yz:Stmt:=top 98
abbrev ZV:Lj:=["_law_pieces","_law_turns","_law_many","_law_piece","_law_inner_here"]
abbrev zQ:Lj:=["_law_pieces"]
theorem zR:zj ZV zQ (zf yz):=by walk_at "sc"
abbrev kU:Stmt:=top 99
abbrev kW:Lj:=["_law_piece"]
abbrev qR:Lj:=["_law_piece"]
theorem Vf:zj kW qR (zf kU):=by walk_at "sc"
abbrev yA:Stmt:=top 100
abbrev ZW:Lj:=["_law_pieces","_law_mark","_law_turns","_law_many","_law_piece","_law_more","_law_things","_law_inner_here","_law_found","_law_ahead"]
abbrev qj:Lj:=["_law_pieces","_law_mark"]
theorem zX:zj ZW qj (zf yA):=by walk_at "sc"
abbrev xl:Stmt:=top 101
abbrev yi:Lj:=["_law_pieces","_law_mark","_law_piece","_law_more","_law_things","_law_inner_here","_law_found"]
abbrev zD:Lj:=["_law_pieces","_law_mark"]
theorem qH:zj yi zD (zf xl):=by walk_at "sc"
abbrev Q0:Stmt:=top 102
abbrev Q1:Lj:=["_law_pieces","_law_word","_law_mark","_law_turns","_law_many","_law_text"]
abbrev vk:Lj:=["_law_pieces","_law_word","_law_mark"]
theorem yB:zj Q1 vk (zf Q0):=by walk_at "sc"
abbrev y8:Stmt:=top 103
abbrev y9:Lj:=["_law_pieces","_law_found","_law_e"]
abbrev qX:Lj:=["_law_pieces"]
theorem yj:zj y9 qX (zf y8):=by walk_at "sc"
abbrev yk:Stmt:=top 104
abbrev yl:Lj:=["_law_e"]
abbrev jJ:Lj:=["_law_e"]
theorem WN:zj yl jJ (zf yk):=by walk_at "sc"
abbrev Q2:Stmt:=top 105
abbrev Q3:Lj:=["_law_pieces","_law_due_here","_law_place"]
abbrev vm:Lj:=["_law_pieces","_law_due_here"]
theorem WG:zj Q3 vm (zf Q2):=by walk_at "sc"
abbrev kX:Stmt:=top 106
abbrev kY:Lj:=["_law_cell_here","_law_word","_law_pieces","_law_due_here","_law_found"]
abbrev wt:Lj:=["_law_cell_here","_law_word"]
theorem xU:zj kY wt (zf kX):=by walk_at "sc"
abbrev ZX:Stmt:=top 107
abbrev ZY:Lj:=["_law_cell_here","_law_pieces","_law_end","_law_found"]
abbrev xm:Lj:=["_law_cell_here"]
theorem vE:zj ZY xm (zf ZX):=by walk_at "sc"
abbrev AV:Stmt:=top 108
abbrev DN:Lj:=["_law_script","_law_k","_law_cell_here","_law_word","_law_some_here","_law_block"]
abbrev Yu:Lj:=["_law_script"]
theorem kZ:zj DN Yu (zf AV):=by walk_at "sc"
abbrev Q4:Stmt:=inClass (top 4) 0
theorem zaf:zj ["self","at"] ["self","at"] (zf Q4):=by walk_at "sc"
abbrev Q5:Stmt:=inClass (top 15) 0
theorem zag:zj ["self","place","at"] ["self","place","at"] (zf Q5):=by walk_at "sc"
abbrev Q6:Stmt:=inClass (top 17) 0
theorem zah:zj ["self","what","one","other"] ["self","what","one","other"] (zf Q6):=by walk_at "sc"
abbrev ZZ:Stmt:=inClass (top 16) 0
theorem Yv:zj ["self","name","place"] ["self","name","place"] (zf ZZ):=by walk_at "sc"
abbrev k7:Stmt:=inClass (top 18) 0
theorem Vg:zj ["self","place"] ["self","place"] (zf k7):=by walk_at "sc"
theorem cxK {CX:mw}{P:Program}{w:World}{K:Lf}{mg:La}{base:Heap}{N:Lj}{qual:Str}{scope:Scope}{f:Addr}{cd:Value}{A:Around}{outer:List Env}{s:Shared}{H:Hp}{E:XK}:(iW CX P w K mg base N qual scope f cd A outer s H E).nox.K=K:=rfl
theorem CZ {CX:mw}{P:Program}{w:World}{K:Lf}{mg:La}{base:Heap}{N:Lj}{qual:Str}{scope:Scope}{f:Addr}{cd:Value}{A:Around}{outer:List Env}{s:Shared}{H:Hp}{E:XK}:(iW CX P w K mg base N qual scope f cd A outer s H E).K=K:=rfl
theorem nc0:((0:Nat):Int)=0:=rfl
theorem nc1:((1:Nat):Int)=1:=rfl
theorem nc2:((2:Nat):Int)=2:=rfl
theorem nc3:((3:Nat):Int)=3:=rfl
theorem Cm:((94:Nat):Int)=94:=rfl
theorem C0 {X:Cx}{x:Str}{scope:Scope}{cl:List (Str×Addr)}{C:Addr}{s3:Shared}{H3:Hp}{fp:Le}:(se X x scope cl C s3 H3 fp).K=X.K:=rfl
theorem N9 {K:Lf}{x:Str}{H:Hp}:sI K "str" (.str x) H=True:=by simp [sI]
theorem Hu {A B:Prop}:(if true=true then A else B)=A:=by simp
theorem Ht {A B:Prop}:(if false=true then A else B)=B:=by simp
theorem CY {CX:mw}{P:Program}{w:World}{K:Lf}{mg:La}{base:Heap}{N:Lj}{qual:Str}{scope:Scope}{f:Addr}{cd:Value}{A:Around}{outer:List Env}{s:Shared}{H:Hp}{E:XK}:(iW CX P w K mg base N qual scope f cd A outer s H E).hot.nox.K=K:=rfl
set_option genInjectivity false in
structure lg where
 SealError:Addr
 NoSign:Addr
 NoCode:Addr
 Unread:Addr
 Unended:Addr
 NoPage:Addr
 NoName:Addr
 NoSheet:Addr
 Twice:Addr
 TooMany:Addr
 Unknown:Addr
 RingOver:Addr
 Ringed:Addr
 NoElder:Addr
 Astray:Addr
 NoPlace:Addr
 Unlike:Addr
 LeftOpen:Addr
 NoValue:Addr
 NoKind:Addr
 NoRow:Addr
 Spot:Addr
 Looking:Addr
 PLACE_MODES:Addr
 at_text:Addr
 at_mark:Addr
 at_open:Addr
 at_name:Addr
 at_slash:Addr
 at_shut:Addr
 at_gap:Addr
 at_attr:Addr
 at_is:Addr
 at_bang:Addr
 at_bare:Addr
 at_code:Addr
 at_row:Addr
 at_stroke:Addr
 at_quoted:Addr
 at_qmark:Addr
 at_done:Addr
 at_talk:Addr
 at_tmark:Addr
 at_asis:Addr
def oj (t:lg):List (Tx×ml×Addr):=[(xE,Kz,t.at_text),(Al,KA,t.at_mark),(AR,KC,t.at_open),(Kx,aName,t.at_name),(BF,Xp,t.at_slash),(VD,Jk,t.at_shut),(rS,oJ,t.at_gap),(Ak,KD,t.at_attr),(Cn,tW,t.at_is),(AQ,KG,t.at_bang),(vT,KI,t.at_bare),(Aj,KJ,t.at_code),(lH,oH,t.at_row),(Yb,Jl,t.at_stroke),(jB,Jm,t.at_quoted),(Yc,Xq,t.at_qmark),(Ky,KL,t.at_done),(Zq,KN,t.at_talk),(Yd,Xr,t.at_tmark),(Jj,KO,t.at_asis)]
def rR (t:lg):List (Key×V):=(oj t).map λe=>(.inr (S e.1),.ref e.2.2)
theorem P0 (t:lg):VG=(oj t).map λe=>(e.1,e.2.1):=rfl
theorem Fx (m:Tx):∀ l:List (Tx×ml×Addr),(∃ e∈l,iU (l.map λe=>((.inr (S e.1):Key),V.ref e.2.2)) (.inr (S m))=some (.ref e.2.2)/\(l.map λe=>(e.1,e.2.1)).lookup m=some e.2.1) \/
  (iU (l.map λe=>((.inr (S e.1):Key),V.ref e.2.2)) (.inr (S m))=none/\(l.map λe=>(e.1,e.2.1)).lookup m=none)
 | []=>.inr ⟨rfl,rfl⟩
 | e::l=>by
  by_cases h:e.1=m
  ·refine .inl ⟨e,Us,?_,?_⟩
   ·rw [uz,Jo (by show(Sum.inr (S e.1):Key)=Sum.inr (S m);rw [h])]
   ·rw [uz,u5,h];simp
  ·have e1:iU ((e::l).map λe=>((.inr (S e.1):Key),V.ref e.2.2)) (.inr (S m))=iU (l.map λe=>((.inr (S e.1):Key),V.ref e.2.2)) (.inr (S m)):=by
    rw [uz,Jp (by intro z;exact h (yq.mp (Sum.inr.inj z)))]
   have e2:((e::l).map λe=>(e.1,e.2.1)).lookup m=(l.map λe=>(e.1,e.2.1)).lookup m:=by
    rw [uz,u5]
    have:(m == e.1)=false:=uO.mpr λz=>h z.symm
    simp [this]
   rw [e1,e2]
   rcases Fx m l with⟨e',h1,h2⟩ | h2
   ·exact .inl ⟨e',uN _ h1,h2⟩
   ·exact .inr h2
structure Txt (w:World)(K:Lf)(mg:La)(t:lg):Prop where
 m_SealError:mg "SealError" = some (.ref t.SealError)
 m_NoSign:mg "NoSign" = some (.ref t.NoSign)
 m_NoCode:mg "NoCode" = some (.ref t.NoCode)
 m_Unread:mg "Unread" = some (.ref t.Unread)
 m_Unended:mg "Unended" = some (.ref t.Unended)
 m_NoPage:mg "NoPage" = some (.ref t.NoPage)
 m_NoName:mg "NoName" = some (.ref t.NoName)
 m_NoSheet:mg "NoSheet" = some (.ref t.NoSheet)
 m_Twice:mg "Twice" = some (.ref t.Twice)
 m_TooMany:mg "TooMany" = some (.ref t.TooMany)
 m_Unknown:mg "Unknown" = some (.ref t.Unknown)
 m_RingOver:mg "RingOver" = some (.ref t.RingOver)
 m_Ringed:mg "Ringed" = some (.ref t.Ringed)
 m_NoElder:mg "NoElder" = some (.ref t.NoElder)
 m_Astray:mg "Astray" = some (.ref t.Astray)
 m_NoPlace:mg "NoPlace" = some (.ref t.NoPlace)
 m_Unlike:mg "Unlike" = some (.ref t.Unlike)
 m_LeftOpen:mg "LeftOpen" = some (.ref t.LeftOpen)
 m_NoValue:mg "NoValue" = some (.ref t.NoValue)
 m_NoKind:mg "NoKind" = some (.ref t.NoKind)
 m_NoRow:mg "NoRow" = some (.ref t.NoRow)
 m_Spot:mg "Spot" = some (.ref t.Spot)
 m_Looking:mg "Looking" = some (.ref t.Looking)
 m_at_text:mg "at_text" = some (.ref t.at_text)
 m_at_mark:mg "at_mark" = some (.ref t.at_mark)
 m_at_open:mg "at_open" = some (.ref t.at_open)
 m_at_name:mg "at_name" = some (.ref t.at_name)
 m_at_slash:mg "at_slash" = some (.ref t.at_slash)
 m_at_shut:mg "at_shut" = some (.ref t.at_shut)
 m_at_gap:mg "at_gap" = some (.ref t.at_gap)
 m_at_attr:mg "at_attr" = some (.ref t.at_attr)
 m_at_is:mg "at_is" = some (.ref t.at_is)
 m_at_bang:mg "at_bang" = some (.ref t.at_bang)
 m_at_bare:mg "at_bare" = some (.ref t.at_bare)
 m_at_code:mg "at_code" = some (.ref t.at_code)
 m_at_row:mg "at_row" = some (.ref t.at_row)
 m_at_stroke:mg "at_stroke" = some (.ref t.at_stroke)
 m_at_quoted:mg "at_quoted" = some (.ref t.at_quoted)
 m_at_qmark:mg "at_qmark" = some (.ref t.at_qmark)
 m_at_done:mg "at_done" = some (.ref t.at_done)
 m_at_talk:mg "at_talk" = some (.ref t.at_talk)
 m_at_tmark:mg "at_tmark" = some (.ref t.at_tmark)
 m_at_asis:mg "at_asis" = some (.ref t.at_asis)
 c_SealError:lC K t.SealError
 c_Unread:lC K t.Unread
 u_SealError:rB K t.SealError=true
 k_Unread:PySem.W.keepIn K (.ref t.Unread)=true
 n_Unread_at:PySem.W.findIn K (.ref t.Unread) "at" = some none
 kit_up_ur:PySem.W.mroIn K t.Unread (.ref t.Unread)=some true
 c_Astray:lC K t.Astray
 k_Astray:PySem.W.keepIn K (.ref t.Astray)=true
 n_Astray_place:PySem.W.findIn K (.ref t.Astray) "place" = some none
 n_Astray_at:PySem.W.findIn K (.ref t.Astray) "at" = some none
 kit_Astray_se:PySem.W.mroIn K t.Astray (.ref t.SealError)=some true
 kit_Astray_l1:PySem.W.kitAny K (.ref t.Astray) [.ref t.NoCode,.ref t.NoElder,.ref t.NoKind,.ref t.NoName,.ref t.NoPage,.ref t.NoRow,.ref t.NoSheet,.ref t.NoSign,.ref t.Unread]=some false
 kit_Astray_l2:PySem.W.kitAny K (.ref t.Astray) [.ref t.NoValue,.ref t.RingOver,.ref t.Ringed,.ref t.TooMany,.ref t.Twice,.ref t.Unended,.ref t.Unknown]=some false
 kit_Astray_ve:PySem.W.kitOne K (.ref t.Astray) (.type "ValueError")=some true
 kit_Astray_a:PySem.W.kitOne K (.ref t.Astray) (.ref t.Astray)=some true
 kit_Astray_o:PySem.W.kitAny K (.ref t.Astray) [.ref t.NoPlace,.ref t.Unlike,.ref t.LeftOpen]=some false
 c_Unlike:lC K t.Unlike
 k_Unlike:PySem.W.keepIn K (.ref t.Unlike)=true
 n_Unlike_what:PySem.W.findIn K (.ref t.Unlike) "what" = some none
 n_Unlike_one:PySem.W.findIn K (.ref t.Unlike) "one" = some none
 n_Unlike_other:PySem.W.findIn K (.ref t.Unlike) "other" = some none
 kit_Unlike_se:PySem.W.mroIn K t.Unlike (.ref t.SealError)=some true
 kit_Unlike_l1:PySem.W.kitAny K (.ref t.Unlike) [.ref t.NoCode,.ref t.NoElder,.ref t.NoKind,.ref t.NoName,.ref t.NoPage,.ref t.NoRow,.ref t.NoSheet,.ref t.NoSign,.ref t.Unread]=some false
 kit_Unlike_l2:PySem.W.kitAny K (.ref t.Unlike) [.ref t.NoValue,.ref t.RingOver,.ref t.Ringed,.ref t.TooMany,.ref t.Twice,.ref t.Unended,.ref t.Unknown]=some false
 kit_Unlike_ve:PySem.W.kitOne K (.ref t.Unlike) (.type "ValueError")=some true
 kit_Unlike_a:PySem.W.kitOne K (.ref t.Unlike) (.ref t.Astray)=some false
 kit_Unlike_n:PySem.W.kitOne K (.ref t.Unlike) (.ref t.NoPlace)=some false
 kit_Unlike_u:PySem.W.kitOne K (.ref t.Unlike) (.ref t.Unlike)=some true
 kit_Unlike_o:PySem.W.kitOne K (.ref t.Unlike) (.ref t.LeftOpen)=some false
 c_NoPlace:lC K t.NoPlace
 k_NoPlace:PySem.W.keepIn K (.ref t.NoPlace)=true
 n_NoPlace_name:PySem.W.findIn K (.ref t.NoPlace) "name" = some none
 n_NoPlace_place:PySem.W.findIn K (.ref t.NoPlace) "place" = some none
 kit_NoPlace_se:PySem.W.mroIn K t.NoPlace (.ref t.SealError)=some true
 kit_NoPlace_l1:PySem.W.kitAny K (.ref t.NoPlace) [.ref t.NoCode,.ref t.NoElder,.ref t.NoKind,.ref t.NoName,.ref t.NoPage,.ref t.NoRow,.ref t.NoSheet,.ref t.NoSign,.ref t.Unread]=some false
 kit_NoPlace_l2:PySem.W.kitAny K (.ref t.NoPlace) [.ref t.NoValue,.ref t.RingOver,.ref t.Ringed,.ref t.TooMany,.ref t.Twice,.ref t.Unended,.ref t.Unknown]=some false
 kit_NoPlace_ve:PySem.W.kitOne K (.ref t.NoPlace) (.type "ValueError")=some true
 kit_NoPlace_a:PySem.W.kitOne K (.ref t.NoPlace) (.ref t.Astray)=some false
 kit_NoPlace_n:PySem.W.kitOne K (.ref t.NoPlace) (.ref t.NoPlace)=some true
 kit_NoPlace_o:PySem.W.kitAny K (.ref t.NoPlace) [.ref t.Unlike,.ref t.LeftOpen]=some false
 c_LeftOpen:lC K t.LeftOpen
 k_LeftOpen:PySem.W.keepIn K (.ref t.LeftOpen)=true
 n_LeftOpen_place:PySem.W.findIn K (.ref t.LeftOpen) "place" = some none
 kit_LeftOpen_se:PySem.W.mroIn K t.LeftOpen (.ref t.SealError)=some true
 kit_LeftOpen_l1:PySem.W.kitAny K (.ref t.LeftOpen) [.ref t.NoCode,.ref t.NoElder,.ref t.NoKind,.ref t.NoName,.ref t.NoPage,.ref t.NoRow,.ref t.NoSheet,.ref t.NoSign,.ref t.Unread]=some false
 kit_LeftOpen_l2:PySem.W.kitAny K (.ref t.LeftOpen) [.ref t.NoValue,.ref t.RingOver,.ref t.Ringed,.ref t.TooMany,.ref t.Twice,.ref t.Unended,.ref t.Unknown]=some false
 kit_LeftOpen_ve:PySem.W.kitOne K (.ref t.LeftOpen) (.type "ValueError")=some true
 kit_LeftOpen_a:PySem.W.kitOne K (.ref t.LeftOpen) (.ref t.Astray)=some false
 kit_LeftOpen_n:PySem.W.kitOne K (.ref t.LeftOpen) (.ref t.NoPlace)=some false
 kit_LeftOpen_u:PySem.W.kitOne K (.ref t.LeftOpen) (.ref t.Unlike)=some false
 kit_LeftOpen_o:PySem.W.kitOne K (.ref t.LeftOpen) (.ref t.LeftOpen)=some true
 g_SIGNS:∃ u,mg "SIGNS" = some u/\RelV (.str (S sg)) u
 g_FIGURES:∃ u,mg "FIGURES" = some u/\RelV (.str (S fg)) u
 g_LETTERS:∃ u,mg "LETTERS" = some u/\RelV (.str (S lt)) u
 g_LONGEST_NAME:∃ u,mg "LONGEST_NAME" = some u/\RelV (.int 8) u
 g_WORDSIGNS:∃ u,mg "WORDSIGNS" = some u/\RelV (.str (S ws)) u
 g_ASIS_END:∃ u,mg "ASIS_END" = some u/\RelV (.str (S kF)) u
 g_MARK_FIGURES:∃ u,mg "MARK_FIGURES" = some u/\RelV (.int 2) u
 d_MODES:∃ a,mg "MODES" = some (.ref a)/\KZ w K a (rR t)
 m_PLACE_MODES:mg "PLACE_MODES" = some (.ref t.PLACE_MODES)
 s_PLACE_MODES:∀ H,ir K H t.PLACE_MODES [.str (S xE),.str (S vT),.str (S lH),.str (S jB)]
 z_len:mg "len" = none
 z_max:mg "max" = none
 z_min:mg "min" = none
 z_int:mg "int" = none
 z_str:mg "str" = none
 z_tuple:mg "tuple" = none
 z_list:mg "list" = none
 z_range:mg "range" = none
 z_enumerate:mg "enumerate" = none
 z_isinstance:mg "isinstance" = none
 z_ValueError:mg "ValueError" = none
 l_Spot:mP K t.Spot
 l_Looking:mP K t.Looking
 a_state:vq K t.Spot "state"
 a_turns:vq K t.Spot "turns"
 a_many:vq K t.Spot "many"
 a_kept:vq K t.Looking "kept"
 a_holes:vq K t.Looking "holes"
 a_pairs:vq K t.Looking "pairs"
theorem T7 {P:Program}{w:World}{K:Lf}{mg:La}{base:Heap}{t:lg}(T:Txt w K mg t)(D:oh K t.Unread "Unread.__init__" Q4 ["self","at"]):AE P w K mg base "Unread" t.Unread "at" nQ:=by obtain⟨fI,fd,oI,i1,i2,i3,F,b⟩:=D.ex;refine⟨T.m_Unread,T.c_Unread,T.k_Unread,fI,fd,oI,_,i1,i2,i3,b,?_⟩;refine F.ok zaf (λvs H Q E h=>by obtain⟨a,v,rfl,_⟩:=h;rfl) λcdv A outer s H vs Q E hr h=>?_;obtain⟨a,v,rfl,ea,hp,q⟩:=h;exact⟨_,wm (Z3 (Jg (C:=t.Unread) T.m_SealError T.u_SealError T.c_Unread (wX (pv 0) (wX (AU (pv 1)) JI)))) (Z2 (Jh T.c_Unread T.n_Unread_at (pv 0) (pv 1))),Sw ea hp q⟩
theorem drawn {ys:List V}{n:Nat}(hl:ys.length=n)(h:∀ (i:Nat) v,ys[i]? = some v->∃ c∈sg,v=V.str (S [c])) : ∃ t:Ld,t.length=n/\(∀ c∈t,c∈sg)/\ys=(t.map λc=>[c]).map (λl=>V.str (S l)):=by
 induction ys generalizing n with
 | nil=>exact⟨[],hl,by simp,rfl⟩
 | cons y ys ih=>
  obtain⟨c,hc,rfl⟩:=h 0 y rfl;obtain⟨t,e1,e2,e3⟩:=ih (n:=ys.length) rfl λi v e=>h (i+1) v (by simpa using e);refine⟨c::t,by rw [uo,e1,← hl];rfl,λd hd=>?_,by rw [e3];rfl⟩;rcases uq.mp hd with rfl | hd
  ·exact hc
  ·exact e2 d hd
def mr (F:ml):Sp:=λvs H Q _=>∃ (w:Tx) (oa:Addr) (op:List Tx) (t:Tx) (c:Nat),vs=[.str (S w),.ref oa,.str (S t),.str (S [c])]/\mD H oa op/\w.length<=1000/\op.length<=100000/\∀ v H',fX H H'->nr (λa=>H a=none) H' v (F w op t c)->Q v H'
def k8:Sp:=λvs H Q _=>∃ n:Nat,vs=[.int n]/\n<94/\∀ c H',sg[n]? = some c->fX H H'->Q (.str (S [c])) H'
def xn:Sp:=λvs H Q _=>∃ l,vs=[.str (S l)]/\l.length<=2000/\∀ H',fX H H'->Q (oV (L2.told l)) H'
def jZ:Sp:=λvs H Q _=>∃ c:Nat,vs=[.str (S [c])]/\∀ v H',fX H H'->rh (λa=>H a=none) H' v (oB c)->Q v H'
def yC:Sp:=λvs H Q _=>∃ c:Nat,vs=[.str (S [c])]/\∀ v H',fX H H'->rh (λa=>H a=none) H' v (rZ c)->Q v H'
def yD:Sp:=λvs H Q _=>∃ c:Nat,vs=[.str (S [c])]/\∀ v H',fX H H'->rh (λa=>H a=none) H' v (r8 c)->Q v H'
def W2:Sp:=λvs H Q _=>∃ (t:Tx) (c:Nat),vs=[.str (S t),.str (S [c])]/\∀ v H',fX H H'->rh (λa=>H a=none) H' v (VF t c)->Q v H'
def zS:Sp:=λvs H Q _=>∃ (m:Tx) (oa:Addr) (op:List Tx) (ea:Addr) (es:List Ev),vs=[.str (S m),.ref oa,.ref ea]/\mD H oa op/\mI H ea es/\∀ v H',fX H H'->nr (λa=>a=ea) H' v (q9 m op es)->Q v H'
def xo:Sp:=λvs H Q _=>∃ (m:Tx) (oa:Addr) (op:List Tx) (o:Option Nat),vs=[.str (S m),.ref oa,oV o]/\mD H oa op/\∀ v H',fX H H'->nr (λa=>H a=none) H' v (Qk m op o)->Q v H'
def qz:Sp:=λvs H Q _=>∃ (m w:Tx) (oa:Addr) (op:List Tx) (t:Tx) (n:Nat),vs=[.str (S m),.str (S w),.ref oa,.str (S t),.int n]/\mD H oa op/\w.length<=2000/\∀ v H',fX H H'->nr (λa=>H a=none) H' v (lX m w op t n)->Q v H'
def wU:Sp:=λvs H Q _=>∃ (oa:Addr) (op:List Tx) (ea:Addr) (es:List Ev),vs=[.ref oa,.ref ea]/\mD H oa op/\mI H ea es/\es.length<=1000/\∀ v H',fX H H'->nr (λa=>H a=none) H' v (kG op es)->Q v H'
def yE:Sp:=λvs H Q _=>∃ (oa:Addr) (op:List Tx) (ea:Addr) (es:List Ev),vs=[.ref oa,.ref ea]/\mD H oa op/\mI H ea es/\es.length<=1000/\∀ v H',fX H H'->nr (λa=>H a=none) H' v (yr op es)->Q v H'
def vR:Sp:=λvs H Q _=>∃ (oa:Addr) (op:List Tx) (c:Nat) (ea:Addr) (es:List Ev),vs=[.ref oa,.str (S [c]),.ref ea]/\mD H oa op/\mI H ea es/\es.length<=1000/\∀ v H',fX H H'->nr (λa=>H a=none\/a=ea) H' v (VE op c es)->Q v H'
def XT:Sp:=λvs H Q _=>∃ (oa:Addr) (op:List Tx) (t:Tx) (o:Option Nat),vs=[.ref oa,.str (S t),oV o]/\mD H oa op/\∀ v H',fX H H'->nr (λa=>H a=none) H' v (nS op t o)->Q v H'
def jK:Sp:=λvs H Q _=>∃ (w:Tx) (c:Nat),vs=[.str (S w),.str (S [c])]/\w.length<=1000/\∀ H',fX H H'->Q (oV (WA w c)) H'
def k9:Sp:=mr Kz
def Za:Sp:=mr KA
def Zb:Sp:=mr KC
def Zc:Sp:=mr aName
def yF:Sp:=mr Xp
def Zd:Sp:=mr Jk
def Qa:Sp:=mr oJ
def Ze:Sp:=mr KD
def Jw:Sp:=mr tW
def Zf:Sp:=mr KG
def Zg:Sp:=mr KI
def Zh:Sp:=mr KJ
def Qb:Sp:=mr oH
def vF:Sp:=mr Jl
def vG:Sp:=mr Jm
def yG:Sp:=mr Xq
def Zi:Sp:=mr KL
def Zj:Sp:=mr KN
def yH:Sp:=mr Xr
def Zk:Sp:=mr KO
def Z0:Sp:=λvs H Q _=>∃ (x:V) (s:MS) (c:Nat),vs=[x,.str (S [c])]/\lW H x s/\s.word.length<=1000/\s.opens.length<=100000/\∀ v H',fX H H'->nr (λa=>H a=none) H' v (yt s c)->Q v H'
def kj:Sp:=λvs H Q _=>vs=[]/\∀ v H',fX H H'->lW H' v ⟨xE,[],[],[]⟩->Q v H'
def W3:Sp:=Z0
def xK:Sp:=λvs H Q _=>∃ (x:V) (s:MS),vs=[x]/\lW H x s/\∀ v H',fX H H'->lW H' v { s with opens:=[] }->Q v H'
def RnV (G:Addr->Prop)(H:Hp)(v:V)(s:MS)(es:List Ev):Prop:=∃ p sa ea,v=.ref p/\H p=some (.tup [sa,.ref ea])/\lW H sa s/\mI H ea es/\G ea
def XU (t:lg):Sp:=λvs H Q E=>∃ (x:V) (s:MS) (l:Ld),vs=[x,.str (S l)]/\lW H x s/\s.word.length<=8/\s.opens.length+l.length<=100000/\(∀ s' es,runM s l=.ok (s',es)->∀ v H',fX H H'->RnV (λa=>H a=none) H' v s' es->Q v H')/\(∀ b:Nat,runM s l=.error b->∀ d H',fX H H'->H' d=some (.xd [("at",.int b)])->E (.ref t.Unread) (some d) H')
def ka (s:MS):Option Tx:=if s.mode∈[xE,vT,lH,jB] then some s.mode else if s.mode=Zq/\s.talk=vD then some vD else none
def tF:Option Tx->V
 | none=>.non
 | some x=>.str (S x)
def yI:Sp:=λvs H Q _=>∃ (x:V) (s:MS),vs=[x]/\lW H x s/\∀ H',fX H H'->Q (tF (ka s)) H'
def vH (K:Lf):Sp:=λvs H Q _=>∃ (a:Addr) (ns:List Int) (k:Nat),vs=[.ref a,.int k]/\iA K H a (ns.map V.int)/\ns.length<=63/\k<=100/\∀ v H',fX H H'->Q (.int v) H'
def L1 (k:Int):Int:=[1000000007,1181783503,1372345291,1518500279,1636201513,1734723539,1871234567,2012345681].getD (k % 8).toNat 0
def Dg (k:Int):Int:=[100000000003,223606797763,314159265359,414213562379,577215664943,693147180563,732050807573].getD (k % 7).toNat 0
theorem at8 (k:Int):mh [V.int 1000000007,V.int 1181783503,V.int 1372345291,V.int 1518500279,V.int 1636201513,V.int 1734723539,V.int 1871234567,V.int 2012345681] (k % 8)=some (V.int (L1 k)):=by
 have h1:=gg k (b:=8) (by decide);have h2:=gq k (b:=8) (by decide);unfold L1;generalize k % 8=r at *;obtain⟨n,rfl⟩:=gO h1;have h3:=Int.ofNat_lt.mp h2
 match n,h3 with
 | 0,_ | 1,_ | 2,_ | 3,_ | 4,_ | 5,_ | 6,_ | 7,_=>rfl
theorem at7 (k:Int):mh [V.int 100000000003,V.int 223606797763,V.int 314159265359,V.int 414213562379,V.int 577215664943,V.int 693147180563,V.int 732050807573] (k % 7)=some (V.int (Dg k)):=by
 have h1:=gg k (b:=7) (by decide);have h2:=gq k (b:=7) (by decide);unfold Dg;generalize k % 7=r at *;obtain⟨n,rfl⟩:=gO h1;have h3:=Int.ofNat_lt.mp h2
 match n,h3 with
 | 0,_ | 1,_ | 2,_ | 3,_ | 4,_ | 5,_ | 6,_=>rfl
def pH (c k:Int):Int:=(((c+k * k * k) % 1000000000039+1) * L1 k % 2147483629+1) * Dg k % 999999999989
def mx (c k:Int):Int:=if c % 2=0 then(if 10 ^ Int.toNat 18<c then(if 0<c / 2 ^ (7 * k+8).toNat then c / 2 ^ (7 * k+1).toNat else pH c k) else pH c k) else pH c k
def iI (c k m:Int):Nat:=(mx c k % m).toNat
theorem Q7 {c k m:Int}(h:0<m):(iI c k m:Int)<m:=by unfold iI;have:=gg (mx c k) (by lia:m≠0);have:=gq (mx c k) h;lia
theorem Mq {c k m:Int}(h:0<m):((iI c k m:Nat):Int)=mx c k % m:=Int.toNat_of_nonneg (gg _ (by lia))
def qT:Sp:=λvs H Q _=>∃ c k m:Int,vs=[.int c,.int k,.int m]/\0<=k/\k<=1000/\0<m/\∀ H',fX H H'->Q (.int ((iI c k m:Nat):Int)) H'
def je:Sp:=λvs H Q _=>∃ c k:Int,vs=[.int c,.int k]/\0<=k/\k<=100/\∀ H',fX H H'->Q (.int ((iI c (30+k) 999999999989:Nat):Int)) H'
theorem Fd:∀ l m:List Tx,lz (l.map ft) (m.map ft)=true->l=m
 | [],[],_=>rfl
 | [],_::_,h=>by simp [lz] at h
 | _::_,[],h=>by simp [lz] at h
 | a::l,b::m,h=>by simp only [uz,lz,lu,uJ] at h;have h1:(S a == S b)=true:=h.1;rw [Ai] at h1;rw [GQ h1,Fd l m h.2]
theorem BA {a b:Tx}(h:lu (ft a) (ft b)=true):a=b:=by have h1:(S a == S b)=true:=h;rw [Ai] at h1;exact GQ h1
theorem Mp {a b:MS}(h:lu (dS a) (dS b)=true):a=b:=by obtain⟨m,w,o,t⟩:=a;obtain⟨m',w',o',t'⟩:=b;simp only [dS,lu,lz,uJ] at h;obtain⟨h1,h2,h3,h4,_⟩:=h;rw [BA h1,BA h2,Fd _ _ h3,BA h4]
inductive Pc where
 | lit (t:Tx)
 | hole (t:Tx)
 | each (n:Tx) (b:List Pc)
 | ife (n:Tx) (a b:List Pc)
 | seat (w n m:Tx) (b:List Pc)
mutual
def dP:Pc->Dat
 | .lit t=>.tp [ft [108,105,116],ft t]
 | .hole t=>.tp [ft [104,111,108,101],ft t]
 | .each n b=>.tp [ft [101,97,99,104],ft n,.ls (iM b)]
 | .ife n a b=>.tp [ft [105,102],ft n,.ls (iM a),.ls (iM b)]
 | .seat w n m b=>.tp [ft [115,101,97,116],ft w,ft n,ft m,.ls (iM b)]
def iM:List Pc->List Dat
 | []=>[]
 | p::ps=>dP p::iM ps
end
mutual
def iE:Pc->Nat
 | .lit _=>1
 | .hole _=>1
 | .each _ b=>1+ik b
 | .ife _ a b=>1+ik a+ik b
 | .seat _ _ _ b=>2+ik b
def ik:List Pc->Nat
 | []=>0
 | p::ps=>iE p+ik ps
end
def PcF (H:Hp):Pc->List V->Prop
 | .lit t,vs=>vs=[tx [108,105,116],tx t]
 | .hole t,vs=>vs=[tx [104,111,108,101],tx t]
 | .each n b,vs=>∃ w,vs=[tx [101,97,99,104],tx n,w]/\ic H (.ls (iM b)) w
 | .ife n a b,vs=>∃ w u,vs=[tx [105,102],tx n,w,u]/\ic H (.ls (iM a)) w/\ic H (.ls (iM b)) u
 | .seat x n m b,vs=>∃ w,vs=[tx [115,101,97,116],tx x,tx n,tx m,w]/\ic H (.ls (iM b)) w
theorem n5 {H:Hp}{x:Pc}{v:V}(h:ic H (dP x) v):∃ p vs,v=.ref p/\H p=some (.tup vs)/\PcF H x vs:=by
 cases x with
 | lit t=>
  obtain⟨p,vs,e,hp,v0,r0,rfl,⟨rfl,_⟩,v1,r1,rfl,⟨rfl,_⟩,rfl⟩:=(by simpa only [dP] using h:ic H (.tp [ft [108,105,116],ft t]) v)
  exact⟨p,_,e,hp,rfl⟩
 | hole t=>
  obtain⟨p,vs,e,hp,v0,r0,rfl,⟨rfl,_⟩,v1,r1,rfl,⟨rfl,_⟩,rfl⟩:=(by simpa only [dP] using h:ic H (.tp [ft [104,111,108,101],ft t]) v)
  exact⟨p,_,e,hp,rfl⟩
 | each n b=>
  obtain⟨p,vs,e,hp,v0,r0,rfl,⟨rfl,_⟩,v1,r1,rfl,⟨rfl,_⟩,v2,r2,rfl,h2,rfl⟩:=(by simpa only [dP] using h:ic H (.tp [ft [101,97,99,104],ft n,.ls (iM b)]) v)
  exact⟨p,_,e,hp,_,rfl,h2⟩
 | ife n a b=>
  obtain⟨p,vs,e,hp,v0,r0,rfl,⟨rfl,_⟩,v1,r1,rfl,⟨rfl,_⟩,v2,r2,rfl,h2,v3,r3,rfl,h3,rfl⟩:=(by simpa only [dP] using h:ic H (.tp [ft [105,102],ft n,.ls (iM a),.ls (iM b)]) v)
  exact⟨p,_,e,hp,_,_,rfl,h2,h3⟩
 | seat x n m b=>
  obtain⟨p,vs,e,hp,v0,r0,rfl,⟨rfl,_⟩,v1,r1,rfl,⟨rfl,_⟩,v2,r2,rfl,⟨rfl,_⟩,v3,r3,rfl,⟨rfl,_⟩,v4,r4,rfl,h4,rfl⟩:=(by simpa only [dP] using h:ic H (.tp [ft [115,101,97,116],ft x,ft n,ft m,.ls (iM b)]) v)
  exact⟨p,_,e,hp,_,rfl,h4⟩
def iT (H1 H2:Hp):Prop:=∀ b ts,H1 b=some (.tup ts)->H2 b=some (.tup ts)
theorem iT.trans {H1 H2 H3:Hp}(a:iT H1 H2)(b:iT H2 H3):iT H1 H3:=λp ts h=>b _ _ (a _ _ h)
theorem iT.of {H1 H2:Hp}(g:fX H1 H2):iT H1 H2:=λb ts h=>g _ _ h
theorem zG {x y:Tx}(h:x≠y):¬ tx x=V.str (S y):=λz=>h (yq.mp (V.str.inj z))
theorem qw:∀ ps:List Pc,(iM ps).length=ps.length
 | []=>by simp only [iM,UH]
 | _::ps=>by simp only [iM,uo,qw ps]
theorem xp:∀ a b:List Pc,iM (a++b)=iM a++iM b
 | [],_=>by simp only [iM,Ue]
 | p::a,b=>by simp only [uG,iM,xp a b]
theorem z8:∀ a b:List Pc,ik (a++b)=ik a+ik b
 | [],_=>by simp only [ik,Ue,Nat.zero_add]
 | p::a,b=>by simp only [uG,ik,z8 a b];omega
theorem Z1 {H:Hp}{q:Addr}{t:Tx}(h:H q=some (.tup [tx [108,105,116],tx t])):iq H (iM [.lit t]) [.ref q]:=by simp only [iM,dP];exact⟨_,_,rfl,⟨q,_,rfl,h,jR [[108,105,116],t]⟩,rfl⟩
theorem Fc {H:Hp}{q:Addr}{t:Tx}(h:H q=some (.tup [tx [104,111,108,101],tx t])):iq H (iM [.hole t]) [.ref q]:=by simp only [iM,dP];exact⟨_,_,rfl,⟨q,_,rfl,h,jR [[104,111,108,101],t]⟩,rfl⟩
theorem N7 {H:Hp}{q fa:Addr}{n:Tx}{b:List Pc}(h:H q=some (.tup [tx [101,97,99,104],tx n,.ref fa]))(hb:ic H (.ls (iM b)) (.ref fa)):iq H (iM [.each n b]) [.ref q]:=by simp only [iM,dP];exact⟨_,_,rfl,⟨q,_,rfl,h,_,_,rfl,⟨rfl,rfl⟩,_,_,rfl,⟨rfl,rfl⟩,_,_,rfl,hb,rfl⟩,rfl⟩
theorem Mo {H:Hp}{q fa fb:Addr}{n:Tx}{a b:List Pc}(h:H q=some (.tup [tx [105,102],tx n,.ref fa,.ref fb]))(ha:ic H (.ls (iM a)) (.ref fa))(hb:ic H (.ls (iM b)) (.ref fb)):iq H (iM [.ife n a b]) [.ref q]:=by simp only [iM,dP];exact⟨_,_,rfl,⟨q,_,rfl,h,_,_,rfl,⟨rfl,rfl⟩,_,_,rfl,⟨rfl,rfl⟩,_,_,rfl,ha,_,_,rfl,hb,rfl⟩,rfl⟩
theorem N6 {H:Hp}{q fa:Addr}{w n m:Tx}{b:List Pc}(h:H q=some (.tup [tx [115,101,97,116],tx w,tx n,tx m,.ref fa]))(hb:ic H (.ls (iM b)) (.ref fa)):iq H (iM [.seat w n m b]) [.ref q]:=by simp only [iM,dP];exact⟨_,_,rfl,⟨q,_,rfl,h,_,_,rfl,⟨rfl,rfl⟩,_,_,rfl,⟨rfl,rfl⟩,_,_,rfl,⟨rfl,rfl⟩,_,_,rfl,⟨rfl,rfl⟩,_,_,rfl,hb,rfl⟩,rfl⟩
theorem Fv {s s1 s2:MS}{e1 e2:List Ev}:∀ {a b:Ld},runM s a=.ok (s1,e1)->runM s1 b=.ok (s2,e2)->runM s (a++b)=.ok (s2,e1++e2):=by
 intro a
 induction a generalizing s e1 with
 | nil=>intro b h1 h2;simp only [runM,U1,Uz] at h1;obtain⟨rfl,rfl⟩:=h1;simpa using h2
 | cons c r ih=>
  intro b h1 h2;simp only [runM] at h1;cases hq:yt s c with
  | none=>rw [hq] at h1;cases h1
  | some x=>
   obtain⟨s',es⟩:=x;rw [hq] at h1;simp only at h1;cases hr:runM s' r with
   | error n=>rw [hr] at h1;cases h1
   | ok y=>obtain⟨s'',fs⟩:=y;rw [hr] at h1;simp only [U1,Uz] at h1;obtain⟨rfl,rfl⟩:=h1;have:=ih hr h2;simp only [uG,runM,hq,this,uC]
theorem XW {s s':MS}{c:Nat}{es:List Ev}(h:yt s c=some (s',es)):runM s [c]=.ok (s',es):=by simp only [runM,h,uj]
theorem Fb {s s':MS}{es:List Ev}:∀ {l:Ld},runM s l=.ok (s',es)->s.word.length<=8->s'.word.length<=8/\s'.opens.length<=s.opens.length+l.length/\es.length<=10 * l.length:=by
 intro l
 induction l generalizing s es with
 | nil=>intro h k;simp only [runM,U1,Uz] at h;obtain⟨rfl,rfl⟩:=h;exact⟨k,by simp,by simp⟩
 | cons c r ih=>
  intro h k;simp only [runM] at h;cases hq:yt s c with
  | none=>rw [hq] at h;cases h
  | some x=>
   obtain⟨s1,fs⟩:=x;rw [hq] at h;simp only at h;cases hr:runM s1 r with
   | error n=>rw [hr] at h;cases h
   | ok y=>
    obtain⟨s2,gs⟩:=y;rw [hr] at h;simp only [U1,Uz] at h;obtain⟨rfl,rfl⟩:=h;obtain⟨b1,b2,b3⟩:=EX s c s1 fs hq k;obtain⟨c1,c2,c3⟩:=ih hr b1;refine⟨c1,?_,?_⟩
    ·rw [uo];lia
    ·rw [uc,uo];lia
theorem none_of {H H':Hp}{p:Addr}(g:fX H H')(h:H' p=none):H p=none:=by
 cases e:H p with
 | none=>rfl
 | some o=>rw [g _ _ e] at h;cases h
theorem ym {H H':Hp}{p:Addr}{o:HO}(hp:H p=none)(g:fX H H'):fX H (upd H' p o):=λb u e=>by rw [zk (zv e hp)];exact g b u e
theorem Jx:∀ (ps:List Pc) (i:Nat) (p:Pc),ps[i]? = some p->(iM ps)[i]? = some (dP p)
 | q::ps,0,p,h=>by cases h;simp only [iM];rfl
 | q::ps,i+1,p,h=>by simp only [iM];exact Jx ps i p (by simpa using h)
def iQ:Pc->Nat
 | .lit _=>0
 | .hole _=>0
 | .each _ b=>dpB b+1
 | .ife _ a b=>max (dpB a) (dpB b)+1
 | .seat _ _ _ b=>dpB b+1
where dpB:List Pc->Nat
 | []=>0
 | p::ps=>max (iQ p) (dpB ps)
theorem Mn (s:MS):Qi (dS s)=true:=by
 have:∀ l:List Tx,yS (l.map ft)=true:=λl=>by
  induction l with
  | nil=>rfl
  | cons x l ih=>simp only [uz,yS,ih];rfl
 simp only [dS,Qi,yS,this];rfl
theorem mH (s:MS):lb (dS s)<=50:=by
 have:∀ l:List Tx,xX (l.map ft)=0:=λl=>by
  induction l with
  | nil=>rfl
  | cons x l ih=>simp only [uz,xX,lb,ih];rfl
 simp only [dS,lb,xX,this];decide
theorem XX {a b:TS}{D:Ends}{σ:L2.St}{H:Hp}(R:L2.St->Hp->Prop)(hr:∀ σ' H',R σ' H'->b D σ' H')(h:∀ N:L2.St->Hp->Prop,(∀ σ' H',R σ' H'->N σ' H')->a { D with nx:=N } σ H):i7 a b D σ H:=h (b D) hr
theorem PZ {a b c:TS}{D:Ends}{σ:L2.St}{H:Hp}(R:L2.St->Hp->Prop)(hr:∀ σ' H',R σ' H'->c D σ' H')(h:∀ N:L2.St->Hp->Prop,(∀ σ' H',R σ' H'->N σ' H')->i7 a b { D with nx:=N } σ H):i7 a (i7 b c) D σ H:=h (c D) hr
def mG:MS:=⟨xE,[],[],[]⟩
abbrev Ho:=List (Tx×Tx)
def HoV (H:Hp)(v:V)(h:Tx×Tx):Prop:=∃ a,v=.ref a/\H a=some (.tup [tx h.1,tx h.2])
inductive mT (H:Hp):List V->Ho->Prop
 | nil:mT H [] []
 | cons {v:V} {h:Tx×Tx} {vs:List V} {hs:Ho}:HoV H v h->mT H vs hs->mT H (v::vs) (h::hs)
theorem mT.mono {H H':Hp}{vs:List V}{hs:Ho}(h:mT H vs hs)(g:iT H H'):mT H' vs hs:=by
 induction h with
 | nil=>exact .nil
 | cons h _ ih=>obtain⟨a,e,h⟩:=h;exact .cons ⟨a,e,g _ _ h⟩ ih
theorem mT.app {H:Hp}{vs us:List V}{hs ks:Ho}(h:mT H vs hs)(k:mT H us ks):mT H (vs++us) (hs++ks):=by
 induction h with
 | nil=>exact k
 | cons h _ ih=>exact .cons h ih
theorem mT.len {H:Hp}{vs:List V}{hs:Ho}(h:mT H vs hs):vs.length=hs.length:=by
 induction h with
 | nil=>rfl
 | cons _ _ ih=>simp [ih]
def Az (t:lg)(H:Hp)(lo ha:Addr):Prop:=∃ dx pa,H lo=some (.ins t.Looking dx [("kept",.non),("holes",.ref ha),("pairs",.ref pa)])
def su (t:lg)(H:Hp)(sp:Addr)(s:MS)(T:Ld)(n:Nat):Prop:=∃ dx sv ta,H sp=some (.ins t.Spot dx [("state",sv),("turns",.ref ta),("many",.int n)])/\lW H sv s/\H ta=some (.lst (T.map λ(t:Nat)=>V.int t))
theorem Az.mono {t:lg}{H H':Hp}{lo ha:Addr}(h:Az t H lo ha)(g:fX H H'):Az t H' lo ha:=by obtain⟨dx,pa,e⟩:=h;exact⟨dx,pa,g _ _ e⟩
theorem su.mono {t:lg}{H H':Hp}{sp:Addr}{s:MS}{T:Ld}{n:Nat}(h:su t H sp s T n)(g:fX H H'):su t H' sp s T n:=by obtain⟨dx,sv,ta,e1,e2,e3⟩:=h;exact⟨dx,sv,ta,g _ _ e1,e2.mono g,g _ _ e3⟩
def Gr (ha:Addr)(H H':Hp)(hv hv':List V):Prop:=fX (hide ha H) (hide ha H')/\H' ha=some (.lst (hv++hv'))
def qU (t:lg):Sp:=λvs H Q _=>∃ (a dx:Addr) (sv:V) (ta:Addr) (n:Nat),vs=[.ref a,sv,.ref ta,.int n]/\H a=some (.ins t.Spot dx [])/\Q .non (upd H a (.ins t.Spot dx [("state",sv),("turns",.ref ta),("many",.int n)]))
abbrev nY (t:lg)(dx:Addr)(sv:V)(ta:Addr)(n:Nat):HO:=.ins t.Spot dx [("state",sv),("turns",.ref ta),("many",.int n)]
def j0 (t:lg):Sp:=λvs H Q _=>∃ (a dx ta:Addr) (sv0 sv:V) (n:Nat),vs=[.ref a,sv]/\H a=some (nY t dx sv0 ta n)/\∀ r dx' H',fX H H'->H r=none->H' r=some (nY t dx' sv ta (n+1))->Q (.ref r) H'
def jv (t:lg):Sp:=λvs H Q _=>∃ (a dx ta:Addr) (sv0:V) (T:Ld) (n b:Nat),vs=[.ref a,.int b]/\H a=some (nY t dx sv0 ta n)/\H ta=some (.lst (T.map λ(t:Nat)=>V.int t))/\T.length<=100000/\∀ r dx' ta' H',fX H H'->H r=none->H ta' = none->H' r=some (nY t dx' sv0 ta' n)->H' ta' = some (.lst ((T++[b]).map λ(t:Nat)=>V.int t))->Q (.ref r) H'
def jo (t:lg):Sp:=λvs H Q _=>∃ (a dx:Addr) (kv:V),vs=[.ref a,kv]/\H a=some (.ins t.Looking dx [])/\∀ ha pa H',H' a=some (.ins t.Looking dx [("kept",kv),("holes",.ref ha),("pairs",.ref pa)])->(∀ b o,b≠a->H b=some o->H' b=some o)->H' ha=some (.lst [])->H' pa=some (.lst [])->ha≠pa->H ha=none->H pa=none->Q .non H'
instance:DecidableEq MS:=λa b=>decidable_of_iff (a.mode=b.mode/\a.word=b.word/\a.opens=b.opens/\a.talk=b.talk) (by cases a;cases b;simp)
theorem Jy (a b:MS):lu (dS a) (dS b)=decide (a=b):=by
 by_cases h:a=b
 ·rw [h,wY (Mn _)];simp
 ·rw [uF h];exact GP.mpr λz=>h (Mp z)
structure mi where
 s:MS
 T:Ld
 n:Nat
inductive Ft where
 | astray (T:Ld) (n b:Nat)
 | noplace (x:Tx) (T:Ld) (n:Nat)
 | unlike (w:List Tx) (T:Ld) (n:Nat) (T':Ld) (n':Nat)
 | left (T:Ld) (n:Nat)
abbrev Lr:=Except Ft (mi×Ho)
abbrev mR (s:MS):MS:={ s with opens:=[] }
abbrev WH:Tx:=[115,101,97,116]
mutual
def z9:Pc->mi->Lr
 | .lit t,sp=>match runM sp.s t with
  | .ok r=>.ok (⟨r.1,sp.T,sp.n+1⟩,[])
  | .error b=>.error (.astray sp.T sp.n b)
 | .hole x,sp=>match ka sp.s with
  | some k=>.ok (⟨sp.s,sp.T,sp.n+1⟩,[(x,k)])
  | none=>.error (.noplace x sp.T sp.n)
 | .each x b,sp=>match zy b ⟨sp.s,sp.T++[1],sp.n⟩ with
  | .error f=>.error f
  | .ok r=>if r.1.s=sp.s then .ok (⟨sp.s,sp.T++[0],sp.n⟩,r.2) else .error (.unlike [[101,97,99,104],x] (sp.T++[0]) sp.n r.1.T r.1.n)
 | .ife x a b,sp=>match zy a ⟨sp.s,sp.T++[0],sp.n⟩ with
  | .error f=>.error f
  | .ok r=>match zy b ⟨sp.s,sp.T++[1],sp.n⟩ with
   | .error f=>.error f
   | .ok r2=>if r.1.s=r2.1.s then .ok (r.1,r.2++r2.2) else .error (.unlike [[105,102],x] r.1.T r.1.n r2.1.T r2.1.n)
 | .seat w x y b,sp=>match zy b ⟨mR sp.s,sp.T,sp.n+1⟩ with
  | .error f=>.error f
  | .ok r=>if r.1.s=mR sp.s then .ok (⟨sp.s,r.1.T,r.1.n+1⟩,r.2) else .error (.unlike [WH,w,x,y] sp.T (sp.n+1) r.1.T r.1.n)
def zy:List Pc->mi->Lr
 | [],sp=>.ok (sp,[])
 | p::ps,sp=>match z9 p sp with
  | .error f=>.error f
  | .ok r=>match zy ps r.1 with
   | .error f=>.error f
   | .ok r2=>.ok (r2.1,r.2++r2.2)
end
def qP (ps:List Pc):Except Ft Ho:=match zy ps ⟨mG,[],0⟩ with
 | .error f=>.error f
 | .ok r=>if r.1.s=mG then .ok r.2 else .error (.left r.1.T r.1.n)
mutual
def l9:Pc->Nat
 | .lit t=>t.length
 | .hole _=>0
 | .each _ b=>iD b
 | .ife _ a b=>iD a+iD b
 | .seat _ _ _ b=>iD b
def iD:List Pc->Nat
 | []=>0
 | p::ps=>l9 p+iD ps
end
def Bd (x:mi)(e:mi)(h:Ho)(l z:Nat):Prop:=e.s.word.length<=8/\e.s.opens.length<=x.s.opens.length+l/\e.T.length<=x.T.length+z/\e.n<=x.n+z/\h.length<=z
mutual
theorem E9:∀ (p:Pc) (x e:mi) (h:Ho),z9 p x=.ok (e,h)->x.s.word.length<=8->Bd x e h (l9 p) (iE p)
 | .lit t,x,e,h,q,k=>by
  simp only [z9] at q;split at q
  ·rename_i r hr;obtain⟨s',es⟩:=r;cases q;obtain⟨a,b,_⟩:=Fb hr k;exact⟨a,b,by simp only [iE];lia,by simp only [iE];lia,by simp⟩
  ·cases q
 | .hole t,x,e,h,q,k=>by
  simp only [z9] at q;split at q
  ·cases q;exact⟨k,by simp only [l9];lia,by simp only [iE];lia,by simp only [iE];lia,by simp [iE]⟩
  ·cases q
 | .each n b,x,e,h,q,k=>by
  simp only [z9] at q;split at q
  ·cases q
  ·rename_i r hr;split at q
   ·cases q;obtain⟨a1,a2,a3,a4,a5⟩:=wu b _ r.1 r.2 hr k;exact⟨k,by simp only [l9];lia,by simp only [iE,uc,uw];lia,by simp only [iE];lia,by simp only [iE];lia⟩
   ·cases q
 | .ife n a b,x,e,h,q,k=>by
  simp only [z9] at q;split at q
  ·cases q
  ·rename_i r hr;split at q
   ·cases q
   ·rename_i r2 hr2;split at q
    ·cases q;obtain⟨a1,a2,a3,a4,a5⟩:=wu a _ r.1 r.2 hr k;obtain⟨b1,b2,b3,b4,b5⟩:=wu b _ r2.1 r2.2 hr2 k;simp only [uc,uw] at a3 b3;exact⟨a1,by simp only [l9];dsimp only at a2;lia,by simp only [iE];lia,by simp only [iE];dsimp only at a4;lia,by simp only [iE,uc];lia⟩
    ·cases q
 | .seat w m y b,x,e,h,q,k=>by
  simp only [z9] at q;split at q
  ·cases q
  ·rename_i r hr;split at q
   ·cases q;obtain⟨a1,a2,a3,a4,a5⟩:=wu b _ r.1 r.2 hr k;exact⟨k,by simp only [l9];lia,by simp only [iE];dsimp only at a3;lia,by simp only [iE];dsimp only at a4;lia,by simp only [iE];lia⟩
   ·cases q
theorem wu:∀ (ps:List Pc) (x e:mi) (h:Ho),zy ps x=.ok (e,h)->x.s.word.length<=8->Bd x e h (iD ps) (ik ps)
 | [],x,e,h,q,k=>by simp only [zy] at q;cases q;exact⟨k,by omega,by omega,by omega,by simp⟩
 | p::ps,x,e,h,q,k=>by
  simp only [zy] at q;split at q
  ·cases q
  ·rename_i r hr;split at q
   ·cases q
   ·rename_i r2 hr2;cases q;obtain⟨a1,a2,a3,a4,a5⟩:=E9 p _ r.1 r.2 hr k;obtain⟨b1,b2,b3,b4,b5⟩:=wu ps _ r2.1 r2.2 hr2 a1;exact⟨b1,by simp only [iD];lia,by simp only [ik];lia,by simp only [ik];lia,by simp only [ik,uc];lia⟩
end
theorem xM (p:Pc)(x:mi):zy [p] x=z9 p x:=by
 simp only [zy];split
 ·rename_i f h;exact h.symm
 ·rename_i r h;rw [h];simp
def nk (H:Hp)(p:Addr)(T:Ld)(n:Nat):Prop:=∃ l,H p=some (.tup [.ref l,.int n])/\H l=some (.lst (T.map λ(t:Nat)=>V.int t))
theorem nk.mono {H H':Hp}{p:Addr}{T:Ld}{n:Nat}(h:nk H p T n)(g:fX H H'):nk H' p T n:=by obtain⟨l,a,b⟩:=h;exact⟨l,g _ _ a,g _ _ b⟩
def mO (B H:Hp)(p:Addr)(T:Ld)(n:Nat):Prop:=∃ l,B l=none/\H p=some (.tup [.ref l,.int n])/\H l=some (.lst (T.map λ(t:Nat)=>V.int t))
theorem mO.mono {B H H':Hp}{p:Addr}{T:Ld}{n:Nat}(h:mO B H p T n)(g:fX H H'):mO B H' p T n:=by obtain⟨l,z,a,b⟩:=h;exact⟨l,z,g _ _ a,g _ _ b⟩
theorem mO.pre {B B1 H:Hp}{p:Addr}{T:Ld}{n:Nat}(h:mO B1 H p T n)(g:fX B B1):mO B H p T n:=by obtain⟨l,z,a,b⟩:=h;exact⟨l,none_of g z,a,b⟩
theorem mO.pl {B H:Hp}{p:Addr}{T:Ld}{n:Nat}(h:mO B H p T n):nk H p T n:=by obtain⟨l,z,a,b⟩:=h;exact⟨l,a,b⟩
def pk (t:lg)(B H:Hp)(c:Value)(d:Addr):Ft->Prop
 | .astray T n b=>c=.ref t.Astray/\∃ p,H d=some (.xd [("place",.ref p),("at",.int b)])/\mO B H p T n
 | .noplace x T n=>c=.ref t.NoPlace/\∃ p,H d=some (.xd [("name",tx x),("place",.ref p)])/\mO B H p T n
 | .unlike w T n T' n'=>c=.ref t.Unlike/\∃ a p q,H d=some (.xd [("what",.ref a),("one",.ref p),("other",.ref q)])/\H a=some (.tup (w.map tx))/\mO B H p T n/\mO B H q T' n'
 | .left T n=>c=.ref t.LeftOpen/\∃ p,H d=some (.xd [("place",.ref p)])/\mO B H p T n
theorem pk.mono {t:lg}{B H H':Hp}{c:Value}{d:Addr}{f:Ft}(h:pk t B H c d f)(g:fX H H'):pk t B H' c d f:=by
 cases f with
 | astray T n b=>obtain⟨e,p,a,b⟩:=h;exact⟨e,p,g _ _ a,b.mono g⟩
 | noplace x T n=>obtain⟨e,p,a,b⟩:=h;exact⟨e,p,g _ _ a,b.mono g⟩
 | unlike w T n T' n'=>obtain⟨e,a,p,q,h1,h2,h3,h4⟩:=h;exact⟨e,a,p,q,g _ _ h1,g _ _ h2,h3.mono g,h4.mono g⟩
 | left T n=>obtain⟨e,p,a,b⟩:=h;exact⟨e,p,g _ _ a,b.mono g⟩
theorem pk.pre {t:lg}{B B1 H:Hp}{c:Value}{d:Addr}{f:Ft}(h:pk t B1 H c d f)(g:fX B B1):pk t B H c d f:=by
 cases f with
 | astray T n b=>obtain⟨e,p,a,b⟩:=h;exact⟨e,p,a,b.pre g⟩
 | noplace x T n=>obtain⟨e,p,a,b⟩:=h;exact⟨e,p,a,b.pre g⟩
 | unlike w T n T' n'=>obtain⟨e,a,p,q,h1,h2,h3,h4⟩:=h;exact⟨e,a,p,q,h1,h2,h3.pre g,h4.pre g⟩
 | left T n=>obtain⟨e,p,a,b⟩:=h;exact⟨e,p,a,b.pre g⟩
def FN:List V->List (Str×V):=λxs=>(["place","at"]:Lj).zip xs
def tT:List V->List (Str×V):=λxs=>(["what","one","other"]:Lj).zip xs
def tI (xs:List V):Prop:=∃ p n,xs=[p,.int n]/\nQ (.int n)
def oq (xs:List V):Prop:=∃ a b c,xs=[a,b,c]
theorem T6 {P:Program}{w:World}{K:Lf}{mg:La}{base:Heap}{t:lg}(T:Txt w K mg t)(D:oh K t.Astray "Astray.__init__" Q5 ["self","place","at"]):lJ P w K mg base "Astray" t.Astray FN tI:=by obtain⟨fI,fd,oI,i1,i2,i3,F,b⟩:=D.ex;refine⟨T.m_Astray,T.c_Astray,T.k_Astray,fI,fd,oI,_,i1,i2,i3,b,?_⟩;refine F.okN zag (λvs H Q E h=>by obtain⟨a,xs,rfl,_,⟨p,n,rfl,_⟩,_⟩:=h;rfl) λcdv A outer s H vs Q E h=>?_;obtain⟨a,xs,rfl,ea,⟨p,n,rfl,hp⟩,q⟩:=h;exact⟨_,wm (Z3 (Jg (C:=t.Astray) T.m_SealError T.u_SealError T.c_Astray (wX (pv 0) (wX (AU (pv 2)) JI)))) (wm (Jh T.c_Astray T.n_Astray_place (pv 0) (pv 1)) (Z2 (W0 T.c_Astray T.n_Astray_at (pv 0) (pv 2)))),XA ea rfl hp (by decide) q⟩
theorem T5 {P:Program}{w:World}{K:Lf}{mg:La}{base:Heap}{t:lg}(T:Txt w K mg t)(D:oh K t.Unlike "Unlike.__init__" Q6 ["self","what","one","other"]):lJ P w K mg base "Unlike" t.Unlike tT oq:=by obtain⟨fI,fd,oI,i1,i2,i3,F,b⟩:=D.ex;refine⟨T.m_Unlike,T.c_Unlike,T.k_Unlike,fI,fd,oI,_,i1,i2,i3,b,?_⟩;refine F.okN zah (λvs H Q E h=>by obtain⟨a,xs,rfl,_,⟨p,n,m,rfl⟩,_⟩:=h;rfl) λcdv A outer s H vs Q E h=>?_;obtain⟨a,xs,rfl,ea,⟨p,n,m,rfl⟩,q⟩:=h;exact⟨_,wm (Z3 (Jg (C:=t.Unlike) T.m_SealError T.u_SealError T.c_Unlike (wX (pv 0) (wX BE JI)))) (wm (Jh T.c_Unlike T.n_Unlike_what (pv 0) (pv 1)) (wm (W0 T.c_Unlike T.n_Unlike_one (pv 0) (pv 2)) (Z2 (W0 T.c_Unlike T.n_Unlike_other (pv 0) (pv 3))))),TK ea (by decide) q⟩
def qg (t:lg):Sp:=λvs H Q _=>∃ (a dx ta:Addr) (sv:V) (n:Nat) (T:Ld),vs=[.ref a]/\H a=some (nY t dx sv ta n)/\H ta=some (.lst (T.map λ(t:Nat)=>V.int t))/\T.length<=100000/\∀ r l H',fX H H'->H l=none->H' r=some (.tup [.ref l,.int n])->H' l=some (.lst (T.map λ(t:Nat)=>V.int t))->Q (.ref r) H'
theorem sx.mono {H H':Hp}{a:Addr}(h:sx H a)(g:fX H H'):sx H' a:=by obtain⟨o,vs,e,r⟩:=h;exact⟨o,vs,g _ _ e,r⟩
theorem yJ {B H H0:Hp}{ha r l:Addr}{hv:List V}{T:Ld}{n:Nat}(g:fX (hide ha B) (hide ha H0))(h:H ha=some (.lst hv))(h0:H0 ha=some (.lst hv))(hl:H0 l=none)(e1:H r=some (.tup [.ref l,.int n]))(e2:H l=some (.lst (T.map λ(t:Nat)=>V.int t))):mO (hide ha B) (hide ha H) r T n:=by
 have nl:l≠ha:=λz=>by rw [z,h0] at hl;cases hl
 refine⟨l,none_of g (by rw [hide_ne nl];exact hl),?_,?_⟩
 ·rw [hide_ne λz=>by rw [z,h] at e1;cases e1];exact e1
 ·rw [hide_ne nl];exact e2
theorem E8:∀ {l:Ld} {s:MS} {b:Nat},runM s l=.error b->b<l.length
 | [],s,b,h=>by simp only [runM] at h;cases h
 | c::l,s,b,h=>by
  simp only [runM] at h;split at h
  ·cases h;simp
  ·rename_i r hr;split at h
   ·rename_i n hn;cases h;have:=E8 hn;simp only [uo];lia
   ·cases h
def mV (t:lg)(one:Bool)(P:List Pc->Prop):Sp:=λvs H Q E=>∃ (lo ha sp:Addr) (pv:V) (ps:List Pc) (x:mi) (hv:List V),vs=[.ref lo,pv,.ref sp]/\P ps/\Az t (hide ha H) lo ha/\(if one=true then ∃ p,ps=[p]/\ic (hide ha H) (dP p) pv else ic (hide ha H) (.ls (iM ps)) pv)/\su t (hide ha H) sp x.s x.T x.n/\H ha=some (.lst hv) /\ (x.s.word.length<=8/\x.s.opens.length+iD ps<=100000/\hv.length+ik ps<=100000/\x.T.length+ik ps<=100000/\x.n+ik ps<=100000) /\ (∀ e hs,zy ps x=.ok (e,hs)->∀ r hv' H',Gr ha H H' hv hv'->mT (hide ha H') hv' hs->su t (hide ha H') r e.s e.T e.n->Q (.ref r) H') /\ (∀ f,zy ps x=.error f->∀ c d H',fX (hide ha H) (hide ha H')->pk t (hide ha H) (hide ha H') c d f->E c (some d) H')
theorem Gr.same {ha:Addr}{H H':Hp}{hv:List V}(h:H ha=some (.lst hv))(g:fX H H'):Gr ha H H' hv []:=⟨zt g,by rw [uj];exact g _ _ h⟩
theorem Gr.trans {ha:Addr}{H H1 H2:Hp}{hv h1 h2:List V}(a:Gr ha H H1 hv h1)(b:Gr ha H1 H2 (hv++h1) h2):Gr ha H H2 hv (h1++h2):=⟨a.1.trans b.1,by rw [← uC];exact b.2⟩
theorem Gr.cast {ha:Addr}{H H':Hp}{hv h1 h2:List V}(a:Gr ha H H' hv h1)(e:h1=h2):Gr ha H H' hv h2:=e ▸ a
theorem Fu {ha:Addr}{H:Hp}{o:HO}:hide ha (upd H ha o)=hide ha H:=by
 funext b;by_cases z:b=ha
 ·rw [z,WX,WX]
 ·rw [hide_ne z,hide_ne z,zk z]
theorem qI {ha r:Addr}{H:Hp}{hv:List V}(h:H ha=some (.lst hv))(hr:H r=none):r≠ha:=λz=>by rw [z,h] at hr;cases hr
theorem vI {t:lg}{H:Hp}{ha r dx ta:Addr}{sv:V}{s:MS}{T:Ld}{n:Nat}(hr:r≠ha)(e:H r=some (nY t dx sv ta n))(hs:lW (hide ha H) sv s)(ht:hide ha H ta=some (.lst (T.map λ(t:Nat)=>V.int t))):su t (hide ha H) r s T n:=⟨dx,sv,ta,by rw [hide_ne hr];exact e,hs,ht⟩
theorem By {ha:Addr}{H:Hp}{v:V}{s:MS}{xs:List V}(h:H ha=some (.lst xs))(k:lW H v s):lW (hide ha H) v s:=by
 obtain⟨p,o,e,h1,h2⟩:=k;have n1:p≠ha:=λz=>by subst z;rw [h] at h1;cases h1
 have n2:o≠ha:=λz=>by subst z;have h2:H o=_:=h2;rw [h] at h2;cases h2
 exact⟨p,o,e,by rw [hide_ne n1];exact h1,by show hide ha H o=_;rw [hide_ne n2];exact h2⟩
theorem Gr.pre {ha:Addr}{H H1 H2:Hp}{hv h:List V}(b:Gr ha H1 H2 hv h)(g:fX H H1):Gr ha H H2 hv h:=⟨(zt g).trans b.1,b.2⟩
theorem Wn {H:Hp}{v:V}{s:MS}(h:lW H v s):∃ p,v=.ref p:=by obtain⟨p,o,e,_⟩:=h;exact⟨p,e⟩
theorem Zr {α:Type}(a b c:α)(l:List α):mh (a::b::c::l) 2=some c:=by rw [show(2:Int)=((2:Nat):Int) from rfl,Xj];rfl
theorem VL {α:Type}(a b c d:α)(l:List α):mh (a::b::c::d::l) 3=some d:=by rw [show(3:Int)=((3:Nat):Int) from rfl,Xj];rfl
theorem AZ {α:Type}(a b c d e:α)(l:List α):mh (a::b::c::d::e::l) 4=some e:=by rw [show(4:Int)=((4:Nat):Int) from rfl,Xj];rfl
theorem Yw {t:lg}{H:Hp}{x dx ta:Addr}{sv:V}{n:Nat}(hx:H x=none)(hd:H dx=none)(o1:HO)(fs:List (Str×V)):fX H (upd (upd (upd H dx o1) x (.ins t.Spot dx fs)) x (nY t dx sv ta n)):=ym hx (ym hx (za hd))
def lh:Pc->Bool
 | .lit _=>true
 | .hole z=>decide (z.length<=1000)
 | .each _ b=>nmB b
 | .ife _ a b=>nmB a&&nmB b
 | .seat _ _ _ b=>nmB b
where nmB:List Pc->Bool
 | []=>true
 | p::ps=>lh p&&nmB ps
def FK:List V->List (Str×V):=λxs=>(["name","place"]:Lj).zip xs
def FL:List V->List (Str×V):=λxs=>(["place"]:Lj).zip xs
def tG (xs:List V):Prop:=∃ n p,xs=[n,p]/\nQ n
def tH (xs:List V):Prop:=∃ p,xs=[p]
theorem zal {P:Program}{w:World}{K:Lf}{mg:La}{base:Heap}{t:lg}(T:Txt w K mg t)(D:oh K t.NoPlace "NoPlace.__init__" ZZ ["self","name","place"]):lJ P w K mg base "NoPlace" t.NoPlace FK tG:=by obtain⟨fI,fd,oI,i1,i2,i3,F,b⟩:=D.ex;refine⟨T.m_NoPlace,T.c_NoPlace,T.k_NoPlace,fI,fd,oI,_,i1,i2,i3,b,?_⟩;refine F.okN Yv (λvs H Q E h=>by obtain⟨a,xs,rfl,_,⟨p,n,rfl,_⟩,_⟩:=h;rfl) λcdv A outer s H vs Q E h=>?_;obtain⟨a,xs,rfl,ea,⟨p,n,rfl,hp⟩,q⟩:=h;exact⟨_,wm (Z3 (Jg (C:=t.NoPlace) T.m_SealError T.u_SealError T.c_NoPlace (wX (pv 0) (wX (AU (pv 1)) JI)))) (wm (Jh T.c_NoPlace T.n_NoPlace_name (pv 0) (pv 1)) (Z2 (W0 T.c_NoPlace T.n_NoPlace_place (pv 0) (pv 2)))),XA ea rfl hp (by decide) q⟩
theorem T4 {K:Lf}{C:Addr}{f p:Str}{a:Addr}{v:V}{tx:Str}{H:Hp}{Q:VK}(ea:H a=some (lG C a))(k:∀ d,H d=none->d≠a->Q .non (upd (upd H a (lO C d a)) d (.xd [(f,v)]))) :
  i7 (Wu (oU (VC C) (jl (iL 0) (jl (tC (.str tx)) i8)))) (Kt K C (iL 0) (iL 1) f) { nx:=λ_ H'=>Q .non H',rt:=Q } (L2.start ["self",p] [.ref a,v]) H:=⟨.ref a,rfl,a,.str tx,rfl,ea,v,rfl,.ref a,rfl,a,rfl,ea,λd h1 h2=>k d h1 h2⟩
theorem Yx {P:Program}{w:World}{K:Lf}{mg:La}{base:Heap}{t:lg}(T:Txt w K mg t)(D:oh K t.LeftOpen "LeftOpen.__init__" k7 ["self","place"]):lJ P w K mg base "LeftOpen" t.LeftOpen FL tH:=by obtain⟨fI,fd,oI,i1,i2,i3,F,b⟩:=D.ex;refine⟨T.m_LeftOpen,T.c_LeftOpen,T.k_LeftOpen,fI,fd,oI,_,i1,i2,i3,b,?_⟩;refine F.okN Vg (λvs H Q E h=>by obtain⟨a,xs,rfl,_,⟨p,rfl⟩,_⟩:=h;rfl) λcdv A outer s H vs Q E h=>?_;obtain⟨a,xs,rfl,ea,⟨p,rfl⟩,q⟩:=h;exact⟨_,wm (Z3 (Jg (C:=t.LeftOpen) T.m_SealError T.u_SealError T.c_LeftOpen (wX (pv 0) (wX BE JI)))) (Z2 (Jh T.c_LeftOpen T.n_LeftOpen_place (pv 0) (pv 1))),T4 ea q⟩
def qf (t:lg):Sp:=mV t true λps=>∃ x,ps=[.lit x]
def qA (t:lg):Sp:=mV t true λps=>∃ x,ps=[.hole x]/\x.length<=1000
def zB (t:lg)(d:Nat):Sp:=mV t false λps=>lh.nmB ps=true/\iQ.dpB ps<d
def qY (t:lg)(d:Nat):Sp:=mV t true λps=>lh.nmB ps=true/\iQ.dpB ps<d
def jf (t:lg)(d:Nat):Sp:=mV t true λps=>∃ n b,ps=[.each n b]/\lh.nmB ps=true/\iQ.dpB ps<d
def jG (t:lg)(d:Nat):Sp:=mV t true λps=>∃ n a b,ps=[.ife n a b]/\lh.nmB ps=true/\iQ.dpB ps<d
def jg (t:lg)(d:Nat):Sp:=mV t true λps=>∃ w n m b,ps=[.seat w n m b]/\lh.nmB ps=true/\iQ.dpB ps<d
def kl:Sp:=λvs H Q _=>∃ (x:V) (s:MS),vs=[x]/\lW H x s/\∀ H',fX H H'->Q (.bl (decide (s=mG))) H'
def sE (H:Hp)(pv:V)(ps:List Pc):Prop:=ic H (.ls (iM ps)) pv/\lh.nmB ps=true/\iQ.dpB ps<5/\ik ps<=10000/\iD ps<=50000
def vJ (t:lg):Sp:=λvs H Q E=>∃ (pv:V) (ps:List Pc),vs=[pv,.non]/\sE H pv ps/\(∀ hs,qP ps=.ok hs->∀ r ha pa hv H',fX H H'->H' r=some (.tup [.ref ha,.ref pa])->H' ha=some (.lst hv)->mT H' hv hs->Q (.ref r) H')/\(∀ f,qP ps=.error f->∀ c d H',fX H H'->pk t H H' c d f->E c (some d) H')
def W4 (t:lg):Sp:=λvs H Q E=>∃ (pv:V) (ps:List Pc),vs=[pv]/\sE H pv ps/\(∀ hs,qP ps=.ok hs->∀ ha hv H',fX H H'->H' ha=some (.lst hv)->mT H' hv hs->Q (.ref ha) H')/\(∀ f,qP ps=.error f->∀ c d H',fX H H'->pk t H H' c d f->E c (some d) H')
theorem sE.mono {H H':Hp}{pv:V}{ps:List Pc}(h:sE H pv ps)(g:fX H H'):sE H' pv ps:=⟨h.1.mono g,h.2⟩
def F9:Tx:=[116,111,108,100]
def FQ (hs:Ho):List Dat:=hs.map λh=>.tp [ft h.1,ft h.2]
def rb (T:Ld)(n:Nat):Dat:=.tp [.ls (T.map λ(t:Nat)=>.fl (.int t)),.fl (.int n)]
def nZ:Except Ft Ho->Dat
 | .ok hs=>.tp [ft F9,.ls (FQ hs)]
 | .error (.astray T n b)=>.tp [ft [97,115,116,114,97,121],rb T n,.fl (.int b)]
 | .error (.noplace x T n)=>.tp [ft [110,111,112,108,97,99,101],ft x,rb T n]
 | .error (.unlike w T n T' n')=>.tp [ft [117,110,108,105,107,101],.tp (w.map ft),rb T n,rb T' n']
 | .error (.left T n)=>.tp [ft [108,101,102,116],rb T n]
theorem mT.ds {H:Hp}{vs:List V}{hs:Ho}(h:mT H vs hs):iq H (FQ hs) vs:=by
 induction h with
 | nil=>rfl
 | @cons v h vs hs e _ ih=>obtain⟨a,rfl,e⟩:=e;exact⟨_,_,rfl,⟨a,_,rfl,e,jR [h.1,h.2]⟩,ih⟩
theorem EA {H:Hp}:∀ T:Ld,iq H (T.map λ(t:Nat)=>.fl (.int t)) (T.map λ(t:Nat)=>V.int t)
 | []=>rfl
 | t::T=>⟨_,_,rfl,⟨rfl,rfl⟩,EA T⟩
theorem nk.dt {H:Hp}{p:Addr}{T:Ld}{n:Nat}(h:nk H p T n):ic H (rb T n) (.ref p):=by obtain⟨l,a,b⟩:=h;exact⟨p,_,rfl,a,_,_,rfl,⟨l,_,rfl,b,EA T⟩,_,_,rfl,⟨rfl,rfl⟩,rfl⟩
def xV (K:Lf)(t:lg):Sp:=λvs H Q _=>∃ (ea C:Addr) (fs:List (Str×V)),vs=[.ref ea]/\L2.Got K H ea C fs/\(C=t.Astray\/C=t.Unlike\/C=t.NoPlace\/C=t.LeftOpen)/\∀ H',fX H H'->Q (.bl false) H'
def ph (B H:Hp)(r:Addr):Ft->Prop
 | .astray T n b=>∃ p,H r=some (.tup [tx [97,115,116,114,97,121],.ref p,.int (b:Nat)])/\mO B H p T n
 | .noplace x T n=>∃ p,H r=some (.tup [tx [110,111,112,108,97,99,101],tx x,.ref p])/\mO B H p T n
 | .unlike w T n T2 n2=>∃ a p q,H r=some (.tup [tx [117,110,108,105,107,101],.ref a,.ref p,.ref q])/\H a=some (.tup (w.map tx))/\mO B H p T n/\mO B H q T2 n2
 | .left T n=>∃ p,H r=some (.tup [tx [108,101,102,116],.ref p])/\mO B H p T n
theorem ph.dt {B H:Hp}{r:Addr}{f:Ft}(h:ph B H r f):ic H (nZ (.error f)) (.ref r):=by
 cases f with
 | astray T n b=>obtain⟨p,e,k⟩:=h;exact⟨r,_,rfl,e,_,_,rfl,⟨rfl,rfl⟩,_,_,rfl,k.pl.dt,_,_,rfl,⟨rfl,rfl⟩,rfl⟩
 | noplace x T n=>obtain⟨p,e,k⟩:=h;exact⟨r,_,rfl,e,_,_,rfl,⟨rfl,rfl⟩,_,_,rfl,⟨rfl,rfl⟩,_,_,rfl,k.pl.dt,rfl⟩
 | unlike w T n T2 n2=>obtain⟨a,p,q,e,ha,k,k2⟩:=h;exact⟨r,_,rfl,e,_,_,rfl,⟨rfl,rfl⟩,_,_,rfl,⟨a,_,rfl,ha,jR w⟩,_,_,rfl,k.pl.dt,_,_,rfl,k2.pl.dt,rfl⟩
 | left T n=>obtain⟨p,e,k⟩:=h;exact⟨r,_,rfl,e,_,_,rfl,⟨rfl,rfl⟩,_,_,rfl,k.pl.dt,rfl⟩
theorem ph.mono {B H H':Hp}{r:Addr}{f:Ft}(h:ph B H r f)(g:fX H H'):ph B H' r f:=by
 cases f with
 | astray T n b=>obtain⟨p,e,k⟩:=h;exact⟨p,g _ _ e,k.mono g⟩
 | noplace x T n=>obtain⟨p,e,k⟩:=h;exact⟨p,g _ _ e,k.mono g⟩
 | unlike w T n T2 n2=>obtain⟨a,p,q,e,ha,k,k2⟩:=h;exact⟨a,p,q,g _ _ e,g _ _ ha,k.mono g,k2.mono g⟩
 | left T n=>obtain⟨p,e,k⟩:=h;exact⟨p,g _ _ e,k.mono g⟩
theorem ph.pre {B B1 H:Hp}{r:Addr}{f:Ft}(h:ph B1 H r f)(g:fX B B1):ph B H r f:=by
 cases f with
 | astray T n b=>obtain⟨p,e,k⟩:=h;exact⟨p,e,k.pre g⟩
 | noplace x T n=>obtain⟨p,e,k⟩:=h;exact⟨p,e,k.pre g⟩
 | unlike w T n T2 n2=>obtain⟨a,p,q,e,ha,k,k2⟩:=h;exact⟨a,p,q,e,ha,k.pre g,k2.pre g⟩
 | left T n=>obtain⟨p,e,k⟩:=h;exact⟨p,e,k.pre g⟩
def wD (K:Lf)(t:lg):Sp:=λvs H Q _=>∃ (ea C d:Addr) (f:Ft) (B:Hp),vs=[.ref ea]/\yR H ea C (some d)/\pk t B H (.ref C) d f/\∀ r H',fX H H'->ph B H' r f->Q (.ref r) H'
def jw:Sp:=λvs H Q _=>∃ (pv:V) (ps:List Pc),vs=[pv]/\sE H pv ps/\∀ r H',fX H H'->(∀ f,qP ps=.error f->ph H H' r f)->ic H' (nZ (qP ps)) (.ref r)->Q (.ref r) H'
mutual
def eP:Pc->Nat
 | .lit _=>1
 | .hole _=>1
 | .each _ b=>1+eB b
 | .ife _ a b=>eB a+eB b
 | .seat _ _ _ _=>1
def eB:List Pc->Nat
 | []=>1
 | p::ps=>eP p * eB ps
end
mutual
def fP:Pc->Nat
 | .lit _=>1
 | .hole _=>1
 | .each _ b=>fB b+1
 | .ife _ a b=>fB a+fB b+1
 | .seat _ _ _ b=>fB b+eB b
def fB:List Pc->Nat
 | []=>0
 | p::ps=>fP p+eP p * fB ps
end
def SB (s:MS)(n:Nat):Prop:=s.word.length<=8/\s.opens.length<=n
theorem SB.mono {s:MS}{n m:Nat}(h:SB s n)(k:n<=m):SB s m:=⟨h.1,uI h.2 k⟩
theorem XY:∀ {ps:List Pc} {p:Pc},p∈ps->iQ p<=iQ.dpB ps
 | _::_,_,.head _=>by simp only [iQ.dpB];omega
 | _::ps,_,.tail _ h=>by have:=XY h;simp only [iQ.dpB];omega
inductive ny (H:Hp):List V->List MS->Prop
 | nil:ny H [] []
 | cons {v:V} {s:MS} {vs:List V} {ss:List MS}:lW H v s->ny H vs ss->ny H (v::vs) (s::ss)
theorem ny.mono {H H':Hp}{vs:List V}{ss:List MS}(h:ny H vs ss)(g:fX H H'):ny H' vs ss:=by
 induction h with
 | nil=>exact .nil
 | cons h _ ih=>exact .cons (h.mono g) ih
theorem ny.len {H:Hp}{vs:List V}{ss:List MS}(h:ny H vs ss):vs.length=ss.length:=by
 induction h with
 | nil=>rfl
 | cons _ _ ih=>simp [ih]
theorem ny.app {H:Hp}{vs us:List V}{ss ts:List MS}(h:ny H vs ss)(k:ny H us ts):ny H (vs++us) (ss++ts):=by
 induction h with
 | nil=>exact k
 | cons h _ ih=>exact .cons h ih
theorem ny.get {H:Hp}{vs:List V}{ss:List MS}(h:ny H vs ss):∀ {i:Nat} {v:V},vs[i]? = some v->∃ s,ss[i]? = some s/\lW H v s:=by
 induction h with
 | nil=>intro i v e;simp at e
 | cons h _ ih=>
  intro i v e;cases i with
  | zero=>cases e;exact⟨_,rfl,h⟩
  | succ i=>exact ih (by simpa using e)
theorem ny.ds {H:Hp}{vs:List V}{ss:List MS}(h:ny H vs ss):iq H (ss.map dS) vs:=by
 induction h with
 | nil=>rfl
 | cons h _ ih=>exact⟨_,_,rfl,h.dat,ih⟩
theorem Gr.len0 {fa:Addr}{H H':Hp}{fs gs:List V}(g:Gr fa H H' fs gs):H' fa=some (.lst (fs++gs)):=g.2
theorem Gr.put {fa:Addr}{H H1:Hp}{fs gs:List V}{v:V}(g:Gr fa H H1 fs gs):Gr fa H (upd H1 fa (.lst (fs++gs++[v]))) fs (gs++[v]):=⟨by rw [Fu];exact g.1,by rw [zb,uC]⟩
theorem Gr.then {fa:Addr}{H H1 H2:Hp}{fs gs:List V}(g:Gr fa H H1 fs gs)(k:fX H1 H2):Gr fa H H2 fs gs:=⟨g.1.trans (zt k),k _ _ g.2⟩
theorem Ro {fa p:Addr}{H H':Hp}{xs ys:List V}(g:fX (hide fa H) (hide fa H'))(h:H fa=some (.lst xs))(h':H' fa=some (.lst ys))(hp:H' p=none):H p=none:=by
 cases e:H p with
 | none=>rfl
 | some o=>
  have hn:p≠fa:=λz=>by rw [z,h'] at hp;cases hp
  have:=zp _ _ (g p o (by rw [hide_ne hn];exact e));rw [hp] at this;cases this
theorem Bx:∀ a b:List Pc,eB (a++b)=eB a * eB b
 | [],b=>by simp [eB]
 | p::a,b=>by simp only [uG,eB,Bx a b,Nat.mul_assoc]
theorem Bw:∀ a b:List Pc,fB (a++b)=fB a+eB a * fB b
 | [],b=>by simp [fB,eB]
 | p::a,b=>by simp only [uG,fB,eB,Bw a b,Nat.mul_add,Nat.mul_assoc,UZ]
theorem Yy:∀ a b:List Pc,iQ.dpB (a++b)=max (iQ.dpB a) (iQ.dpB b)
 | [],b=>by simp only [Ue,iQ.dpB];exact(Nat.zero_max _).symm
 | p::a,b=>by simp only [uG,iQ.dpB,Yy a b];exact(Nat.max_assoc _ _ _).symm
theorem Jz:∀ a b:List Pc,iD (a++b)=iD a+iD b
 | [],b=>by simp [iD]
 | p::a,b=>by simp only [uG,iD,Jz a b];omega
theorem W5:∀ a b:List Pc,lh.nmB (a++b)=(lh.nmB a&&lh.nmB b)
 | [],b=>by simp [lh.nmB]
 | p::a,b=>by simp only [uG,lh.nmB,W5 a b,Bool.and_assoc]
def lE (e:Nat):Nat:=e * e * e
def ie:Nat->Nat
 | 0=>1
 | d+1=>2 * lE (ie d)
def iF:Nat->Nat
 | 0=>1
 | d+1=>2 * (iF d * (1+ie d+ie d * ie d)+lE (ie d))+lE (ie d)+1
def iS:Nat->Nat
 | 0=>1
 | d+1=>2+2 * (3 * iS d+1)
def iX:Nat->Nat
 | 0=>10
 | d+1=>2 * (3 * iX d+10)
structure IB (d:Nat)(p:Pc):Prop where
 dp:iQ p<=d
 nm:lh p=true
 sz:iE p<=iS d
 tx:l9 p<=iX d
 e:eP p<=ie d
 f:fP p<=iF d
def oZ (e:Nat):Nat->Nat
 | 0=>1
 | k+1=>oZ e k * e
def p8 (e:Nat):Nat->Nat
 | 0=>0
 | k+1=>p8 e k+oZ e k
structure LB (d k:Nat)(ps:List Pc):Prop where
 dp:iQ.dpB ps<=d
 nm:lh.nmB ps=true
 sz:ik ps<=k * iS d
 tx:iD ps<=k * iX d
 e:eB ps<=oZ (ie d) k
 f:fB ps<=iF d * p8 (ie d) k
structure EB (d:Nat)(ps:List Pc):Prop where
 dp:iQ.dpB ps<=d
 nm:lh.nmB ps=true
 sz:ik ps<=3 * iS d+1
 tx:iD ps<=3 * iX d+10
 e:eB ps<=lE (ie d)
 f:fB ps<=iF d * (1+ie d+ie d * ie d)+lE (ie d)
theorem Bv:∀ d,1<=ie d
 | 0=>by simp [ie]
 | d+1=>by
  have h:=Bv d;have h2:1<=lE (ie d):=by unfold lE;exact gw (gw h h) h
  simp only [ie];lia
theorem LB.snoc {d k:Nat}{ps:List Pc}{p:Pc}(h:LB d k ps)(i:IB d p):LB d (k+1) (ps++[p]):=by
 refine⟨by rw [Yy];have:=h.dp;have:=i.dp;simp only [iQ.dpB];lia,by rw [W5,h.nm];simp only [lh.nmB,i.nm];rfl,?_,?_,?_,?_⟩
 ·have:=h.sz;have:=i.sz;rw [z8,GW];simp only [ik];lia
 ·have:=h.tx;have:=i.tx;rw [Jz,GW];simp only [iD];lia
 ·rw [Bx];simp only [eB,Nat.mul_one,oZ];exact gw h.e i.e
 ·rw [Bw];simp only [fB,eB,Nat.mul_zero,Nat.add_zero,p8,Nat.mul_add];have h1:=h.f;have h2:eB ps * fP p<=iF d * oZ (ie d) k:=by rw [Nat.mul_comm (iF d)];exact gw h.e i.f
  lia
theorem Ez (e:Nat)(he:1<=e):∀ k,k<=3->oZ e k<=lE e/\p8 e k<=1+e+e * e:=by
 intro k hk;have h2:1<=e * e:=gw he he;have h3:e * e<=e * e * e:=Hr _ he;have h4:e<=e * e:=Hr _ he
 match k,hk with
 | 0,_=>simp only [oZ,p8,lE];omega
 | 1,_=>simp only [oZ,p8,lE,Nat.one_mul];omega
 | 2,_=>simp only [oZ,p8,lE,Nat.one_mul];omega
 | 3,_=>simp only [oZ,p8,lE,Nat.one_mul];omega
theorem LB.eb {d k:Nat}{ps:List Pc}(h:LB d k ps)(hk:k<=3):EB d ps:=by
 obtain⟨a,b⟩:=Ez (ie d) (Bv d) k hk;refine⟨h.dp,h.nm,?_,?_,uI h.e a,?_⟩
 ·have:=h.sz;have:=UK (iS d) hk;lia
 ·have:=h.tx;have:=UK (iX d) hk;lia
 ·have:=h.f;have:=Nat.mul_le_mul_left (iF d) b;lia
abbrev Lt (l:Tx):List Pc:=if l=[] then [] else [.lit l]
theorem LB.lt {d k:Nat}{ps:List Pc}(h:LB d k ps)(hk:k<=3){l:Tx}(hl:l.length<=10):EB d (ps++Lt l):=by
 by_cases h0:l=[]
 ·rw [show Lt l=[] from ue h0,uj];exact h.eb hk
 rw [show Lt l=[.lit l] from ub h0];obtain⟨a,b⟩:=Ez (ie d) (Bv d) k hk;refine⟨by rw [Yy];have:=h.dp;simp only [iQ.dpB,iQ];lia,by rw [W5,h.nm];rfl,?_,?_,?_,?_⟩
 ·have:=h.sz;have:=UK (iS d) hk;rw [z8];simp only [ik,iE];lia
 ·have:=h.tx;have:=UK (iX d) hk;rw [Jz];simp only [iD,l9];lia
 ·rw [Bx];simp only [eB,eP,Nat.mul_one];exact uI h.e a
 ·rw [Bw];simp only [fB,eB,eP,fP,Nat.mul_one,Nat.mul_zero,Nat.add_zero];have:=h.f;have:=h.e;have:=Nat.mul_le_mul_left (iF d) b;lia
def sM (H:Hp)(x:V)(n:Nat):Prop:=x=.non\/∃ s,lW H x s/\SB s n
theorem sM.mono {H H':Hp}{x:V}{n:Nat}(h:sM H x n)(g:fX H H'):sM H' x n:=by
 rcases h with h | ⟨s,h,k⟩
 ·exact .inl h
 ·exact .inr ⟨s,h.mono g,k⟩
theorem sM.up {H:Hp}{x:V}{n m:Nat}(h:sM H x n)(k:n<=m):sM H x m:=by
 rcases h with h | ⟨s,h,l⟩
 ·exact .inl h
 ·exact .inr ⟨s,h,l.mono k⟩
def nw (H H':Hp):Hp:=λb=>if H b=none then H' b else none
def ov (Hs H H':Hp):Hp:=λb=>if H b=none then H' b else Hs b
theorem vn {H H':Hp}:fX (nw H H') H':=λb o h=>by unfold nw at h;split at h;exact h;cases h
theorem Bu {H H':Hp}{b:Addr}(h:H b=none):nw H H' b=H' b:=ue h
theorem wy {H H1 H2:Hp}(g:fX H1 H2):fX (nw H H1) (nw H H2):=λb o h=>by
 unfold nw at h ⊢;split at h
 ·rename_i z;rw [ue z];exact g _ _ h
 ·cases h
def Rm (ra:Addr)(H H':Hp):Prop:=fX (hide ra H) (hide ra H')/\∃ m:Int,H' ra=some (.lst [.int m])
theorem Rm.trans {ra:Addr}{H H1 H2:Hp}(a:Rm ra H H1)(b:Rm ra H1 H2):Rm ra H H2:=⟨a.1.trans b.1,b.2⟩
theorem Rm.same {ra:Addr}{H H':Hp}{m:Int}(h:H ra=some (.lst [.int m]))(g:fX H H'):Rm ra H H':=⟨zt g,m,g _ _ h⟩
theorem Rm.fresh {ra p:Addr}{H H':Hp}{m:Int}(g:Rm ra H H')(h:H ra=some (.lst [.int m]))(hp:H' p=none):H p=none:=by obtain⟨g1,m',h'⟩:=g;exact Ro g1 h h' hp
theorem xq:∀ ps:List Pc,ps.length<=ik ps
 | []=>by simp
 | p::ps=>by
  have h1:=xq ps;have h2:1<=iE p:=by cases p<;>simp only [iE]<;>lia
  simp only [uo,ik];lia
def Wo (K:Lf):Sp:=λvs H Q _=>∃ (a:Addr) (ns:List Int),vs=[.ref a]/\iA K H a (ns.map V.int)/\ns.length<=63/\∀ H',Q (.bl true) H'
abbrev Off:=Ld×Nat
def Off.add (a b:Off):Off:=(a.1++b.1,a.2+b.2)
theorem Off.assoc (a b c:Off):(a.add b).add c=a.add (b.add c):=by unfold Off.add;simp [UZ]
mutual
def qD:Pc->Off
 | .lit _=>([],1)
 | .hole _=>([],1)
 | .each _ _=>([0],0)
 | .ife _ a _=>([0]++(zu a).1,(zu a).2)
 | .seat _ _ _ b=>((zu b).1,2+(zu b).2)
def zu:List Pc->Off
 | []=>([],0)
 | p::ps=>(qD p).add (zu ps)
end
theorem km (a b:List Pc):zu (a++b)=(zu a).add (zu b):=by
 induction a with
 | nil=>simp [zu,Off.add]
 | cons p a ih=>rw [uG,zu,ih,zu,Off.assoc]
mutual
theorem XZ:∀ (p:Pc) (x e:mi) (h:Ho),z9 p x=.ok (e,h)->e.T=x.T++(qD p).1/\e.n=x.n+(qD p).2
 | .lit t,x,e,h,q=>by
  simp only [z9] at q;split at q
  ·cases q;exact⟨(uj _).symm,rfl⟩
  ·cases q
 | .hole t,x,e,h,q=>by
  simp only [z9] at q;split at q
  ·cases q;exact⟨(uj _).symm,rfl⟩
  ·cases q
 | .each n b,x,e,h,q=>by
  simp only [z9] at q;split at q
  ·cases q
  ·split at q
   ·cases q;exact⟨rfl,rfl⟩
   ·cases q
 | .ife n a b,x,e,h,q=>by
  simp only [z9] at q;split at q
  ·cases q
  ·rename_i r hr;split at q
   ·cases q
   ·split at q
    ·cases q;obtain⟨a1,a2⟩:=wN a _ r.1 r.2 hr;exact⟨by rw [a1,qD,uC],by rw [a2];rfl⟩
    ·cases q
 | .seat w m y b,x,e,h,q=>by
  simp only [z9] at q;split at q
  ·cases q
  ·rename_i r hr;split at q
   ·cases q;obtain⟨a1,a2⟩:=wN b _ r.1 r.2 hr;refine⟨a1,?_⟩;show r.1.n+1=x.n+(2+(zu b).2);rw [a2];dsimp only;lia
   ·cases q
theorem wN:∀ (ps:List Pc) (x e:mi) (h:Ho),zy ps x=.ok (e,h)->e.T=x.T++(zu ps).1/\e.n=x.n+(zu ps).2
 | [],x,e,h,q=>by simp only [zy] at q;cases q;exact⟨(uj _).symm,rfl⟩
 | p::ps,x,e,h,q=>by
  simp only [zy] at q;split at q
  ·cases q
  ·rename_i r hr;split at q
   ·cases q
   ·rename_i r2 hr2;cases q;obtain⟨a1,a2⟩:=XZ p x r.1 r.2 hr;obtain⟨b1,b2⟩:=wN ps r.1 r2.1 r2.2 hr2;exact⟨by rw [b1,a1,zu,Off.add,uC],by rw [b2,a2,zu,Off.add,UZ]⟩
end
def wV (mk:Tx):Pc->Bool
 | .lit t=>lL mk t
 | .hole x=>decide (x=mk)
 | .each x _=>decide (x=mk)
 | .ife x _ _=>decide (x=mk)
 | .seat _ n _ _=>decide (n=mk)
mutual
def qE (mk:Tx):Pc->Option Off
 | .lit t=>if wV mk (.lit t) then some ([],0) else none
 | .hole x=>if wV mk (.hole x) then some ([],0) else none
 | .each x b=>if decide (x=mk) then some ([],0) else(zH mk b).map (Off.add ([1],0))
 | .ife x a b=>if decide (x=mk) then some ([],0) else match zH mk a with
  | some r=>some (Off.add ([0],0) r)
  | none=>(zH mk b).map (Off.add ([1],0))
 | .seat _ n _ b=>if decide (n=mk) then some ([],0) else(zH mk b).map (Off.add ([],1))
def zH (mk:Tx):List Pc->Option Off
 | []=>none
 | p::ps=>match qE mk p with
  | some r=>some r
  | none=>(zH mk ps).map (Off.add (qD p))
end
theorem kn (mk:Tx):∀ (a b:List Pc),zH mk (a++b)=match zH mk a with
  | some r=>some r
  | none=>(zH mk b).map (Off.add (zu a))
 | [],b=>by
  simp only [Ue,zH,zu]
  cases zH mk b with
  | none=>rfl
  | some r=>simp [Off.add]
 | p::a,b=>by
  rw [uG,zH,zH,kn mk a b,zu]
  cases qE mk p with
  | some r=>rfl
  | none=>
   cases zH mk a with
   | some r=>rfl
   | none=>
    cases zH mk b with
    | none=>rfl
    | some r=>simp only [uX,Option.map_none,Off.assoc]
theorem zam {a b:List Pc}{x e:mi}{h:Ho}(q:zy a x=.ok (e,h)):∀ {f:Ft},zy b e=.error f->zy (a++b) x=.error f:=by
 induction a generalizing x h with
 | nil=>intro f k;simp only [zy] at q;cases q;exact k
 | cons p a ih=>
  intro f k;simp only [zy] at q;rw [uG,zy];split at q
  ·cases q
  ·rename_i r hr;split at q
   ·cases q
   ·rename_i r2 hr2;cases q;rw [ih hr2 k]
theorem Yz {a b:List Pc}{x:mi}{f:Ft}(q:zy a x=.error f):zy (a++b) x=.error f:=by
 induction a generalizing x with
 | nil=>simp only [zy] at q;cases q
 | cons p a ih=>
  simp only [zy] at q;rw [uG,zy];split at q
  ·exact q
  ·split at q
   ·rename_i e he;rw [ih (he.trans q)]
   ·cases q
def zE:Tx:=[116,101,120,116]
def xr:Tx:=[100,111,110,101]
def ot (kind:Tx):Tx:=if kind=zE then [120,32,121,38,48,53,59] else if kind=xr then [32,99,61,34,121,34] else [122,48]
def WJ:Tx:=[98,97,114,101]
def Qc:Tx:=[113,117,111,116,101,100]
def ow:Tx:=[114,111,119]
def sT:Tx:=[115,97,105,100]
inductive Kn:Tx->Prop
 | text:Kn zE
 | done:Kn xr
 | bare:Kn WJ
 | quoted:Kn Qc
 | row:Kn ow
 | said:Kn sT
def sK (kind:Tx)(op:List Tx):MS:=if kind=sT then⟨Zq,[],op,vD⟩ else⟨kind,[],op,[]⟩
theorem Rl (kind:Tx)(op:List Tx):(sK kind op).opens=op:=by unfold sK;split<;>rfl
theorem YA (kind:Tx)(op op':List Tx):{ sK kind op with opens:=op' }=sK kind op':=by unfold sK;split<;>rfl
theorem N5 {kind:Tx}{op:List Tx}(k:Kn kind):∃ es,runM (sK kind op) (ot kind)=.ok (sK kind op,es):=by cases k<;>exact⟨_,rfl⟩
theorem YB {op:List Tx}{x:Tx}{es:List Ev}(hx:x≠Jj):yr (op++[x]) es=q9 xE (op++[x]) (es++[[oE]]):=by unfold yr;rw [ub (by simp),List.getLast?_concat,ub (by simpa using hx)]
theorem Rk {op:List Tx}:∃ es,runM (sK zE (op++[[98]])) [60,47,98,62]=.ok (sK zE op,es):=by refine⟨_,Fv (a:=[60,47,98]) (b:=[62]) (s1:=⟨VD,[98],op++[[98]],[]⟩) (e2:=[[pS]]) rfl (XW ?_)⟩;show Jk [98] (op++[[98]]) [] 62=_;unfold Jk;rw [ub (by decide),ue ⟨rfl,by rw [List.getLast?_concat]⟩];unfold kG;rw [ub (by simp),gc];rfl
theorem Mm {kind:Tx}{op:List Tx}(h:kind=WJ\/kind=xr):∃ es,runM (sK kind (op++[[98]])) [62]=.ok (sK zE (op++[[98]]),es):=by
 refine⟨[[oE]],XW ?_⟩;rcases h with rfl | rfl
 ·show yr (op++[[98]]) []=_;rw [YB (by decide)];rfl
 ·show yr (op++[[98]]) []=_;rw [YB (by decide)];rfl
inductive Fw where
 | astray | noplace | ife | each | seat
abbrev sS:Tx:=[100,114,97,119]
def lQ (mk kind:Tx):Tx:=if kind=zE then [60,47]++mk++[62] else if kind=Qc then [34,61]++mk else if kind=ow then [41,61]++mk else if kind=sT then [39,61]++mk else [61]++mk
def Q8 (kind:Tx):Tx:=if kind=zE then [120,60] else if kind=xr then [32,117] else if kind=WJ then [126] else if kind=Qc then [38] else [92]
def JA (kind:Tx):Tx:=if kind=zE then [60,117,62] else if kind=xr then [32,117,58,118] else if kind=WJ then [32] else if kind=Qc then [34] else if kind=ow then [41] else [39]
def pV (kind:Tx):Nat:=if kind=zE then 4 else if kind=xr\/kind=WJ then 0 else 1
def qJ (wd:Fw)(mk kind:Tx):List Pc:=match wd with
 | .astray=>[.lit (lQ mk kind)]
 | .noplace=>[.lit (Q8 kind),.hole mk,.lit [98]]
 | .ife=>[.ife mk [.lit (JA kind)] []]
 | .each=>[.each mk [.lit (JA kind)]]
 | .seat=>[.seat sS mk [] [.lit (JA kind)]]
def mq (wd:Fw)(mk:Tx)(at_:Nat)(r:Off):Ft:=match wd with
 | .astray=>.astray r.1 r.2 at_
 | .noplace=>.noplace mk r.1 r.2
 | .ife=>.unlike [[105,102],mk] (r.1++[0]) (r.2+1) (r.1++[1]) r.2
 | .each=>.unlike [[101,97,99,104],mk] (r.1++[0]) r.2 (r.1++[1]) (r.2+1)
 | .seat=>.unlike [WH,sS,mk,[]] r.1 (r.2+1) r.1 (r.2+2)
def mL (wd:Fw):Off:=match wd with
 | .noplace=>([],1)
 | _=>([],0)
abbrev zz:Tx:=[122,122]
abbrev yy:Tx:=[121,121]
def Mk (mk:Tx):Prop:=mk=zz\/mk=yy
def nM (op:List Tx):Prop:=∀ x∈op,x=[98]
theorem Fs {s s1:MS}{e1:List Ev}{c:Nat}:∀ {a:Ld},runM s a=.ok (s1,e1)->yt s1 c=none->runM s (a++[c])=.error a.length:=by
 intro a
 induction a generalizing s e1 with
 | nil=>intro h1 h2;simp only [runM,U1,Uz] at h1;obtain⟨rfl,rfl⟩:=h1;simp only [Ue,runM,h2];rfl
 | cons d r ih=>
  intro h1 h2;simp only [runM] at h1;cases hq:yt s d with
  | none=>rw [hq] at h1;cases h1
  | some x=>
   obtain⟨s',es⟩:=x;rw [hq] at h1;simp only at h1;cases hr:runM s' r with
   | error n=>rw [hr] at h1;cases h1
   | ok y=>obtain⟨s'',fs⟩:=y;rw [hr] at h1;simp only [U1,Uz] at h1;obtain⟨rfl,rfl⟩:=h1;simp only [uG,runM,hq,ih hr h2,uo]
theorem N4 {mk kind:Tx}{op:List Tx}(k:Kn kind)(hm:Mk mk)(ho:nM op):runM (sK kind op) (lQ mk kind)=.error (pV kind):=by
 cases k with
 | text=>
  have last:op.getLast?≠some mk:=λh=>by have:=ho mk (List.mem_of_getLast? h);rcases hm with rfl | rfl<;>cases this
  have st:yt ⟨VD,mk,op,[]⟩ 62=none:=by show Jk mk op [] 62=_;unfold Jk;rw [ub (by decide),ub λh=>last h.2]
  rcases hm with rfl | rfl
  ·exact Fs (a:=[60,47,122,122]) rfl st
  ·exact Fs (a:=[60,47,121,121]) rfl st
 | done=>rcases hm with rfl | rfl<;>rfl
 | bare=>rcases hm with rfl | rfl<;>rfl
 | quoted=>rcases hm with rfl | rfl<;>rfl
 | row=>rcases hm with rfl | rfl<;>rfl
 | said=>rcases hm with rfl | rfl<;>rfl
theorem RI {kind:Tx}{op:List Tx}(k:Kn kind):∃ s es,runM (sK kind op) (Q8 kind)=.ok (s,es)/\ka s=none:=by cases k<;>exact⟨_,_,rfl,rfl⟩
theorem X0 {kind:Tx}{op:List Tx}(k:Kn kind):∃ s es,runM (sK kind op) (JA kind)=.ok (s,es)/\s≠sK kind op:=by
 cases k with
 | text=>
  refine⟨⟨xE,[],op++[[117]],[]⟩,_,Fv (a:=[60,117]) (b:=[62]) (s1:=⟨Kx,[117],op,[]⟩) (e2:=[[nV,[117]],[oE]]) rfl (XW ?_),?_⟩
  ·show yr (op++[[117]]) [[nV,[117]]]=_;rw [YB (by decide)];rfl
  ·intro h;have:=congrArg (λs:MS=>s.opens.length) h;rw [Rl] at this;simp at this
 | _=>exact⟨_,_,rfl,by intro h;cases h⟩
theorem DW {t:Tx}{x:mi}{s:MS}{es:List Ev}(e:runM x.s t=.ok (s,es)):zy [.lit t] x=.ok (⟨s,x.T,x.n+1⟩,[]):=by simp only [zy,z9,e];rfl
theorem RG {wd:Fw}{mk kind:Tx}{op:List Tx}{T:Ld}{n:Nat}(k:Kn kind)(hm:Mk mk)(ho:nM op):zy (qJ wd mk kind) ⟨sK kind op,T,n⟩=.error (mq wd mk (pV kind) (Off.add (T,n) (mL wd))):=by
 cases wd with
 | astray=>simp only [qJ,zy,z9,N4 k hm ho];simp [mq,mL,Off.add]
 | noplace=>obtain⟨s,es,e,p⟩:=RI (op:=op) k;simp only [qJ,zy,z9,e,p];simp [mq,mL,Off.add]
 | ife=>obtain⟨s,es,e,p⟩:=X0 (op:=op) k;show zy [.ife mk [.lit (JA kind)] []] _=_;simp only [zy,z9,e];rw [ub p];simp [mq,mL,Off.add]
 | each=>obtain⟨s,es,e,p⟩:=X0 (op:=op) k;show zy [.each mk [.lit (JA kind)]] _=_;simp only [zy,z9,e];rw [ub p];simp [mq,mL,Off.add]
 | seat=>obtain⟨s,es,e,p⟩:=X0 (op:=[]) k;have f:mR (sK kind op)=sK kind []:=YA kind op [];show zy [.seat sS mk [] [.lit (JA kind)]] _=_;simp only [zy,z9,f,e];rw [ub p];simp [mq,mL,Off.add]
theorem T3 {wd:Fw}{mk kind:Tx}(k:Kn kind)(hm:Mk mk):zH mk (qJ wd mk kind)=some (mL wd):=by
 have h1:lL mk (lQ mk kind)=true:=by cases k<;>rcases hm with rfl | rfl<;>decide
 have h2:lL mk (Q8 kind)=false:=by cases k<;>rcases hm with rfl | rfl<;>decide
 cases wd<;>simp [qJ,zH,qE,wV,h1,h2,mL,Off.add,qD]
mutual
def xt (mk:Tx):Pc->Option Tx
 | .lit t=>if lL mk t then some t else none
 | .hole _=>none
 | .each _ b=>qG mk b
 | .ife _ a b=>match qG mk a with
  | some t=>some t
  | none=>qG mk b
 | .seat _ _ _ b=>qG mk b
def qG (mk:Tx):List Pc->Option Tx
 | []=>none
 | p::ps=>match xt mk p with
  | some t=>some t
  | none=>qG mk ps
end
theorem ko (mk:Tx):∀ (a b:List Pc),qG mk (a++b)=match qG mk a with
  | some t=>some t
  | none=>qG mk b
 | [],b=>rfl
 | p::a,b=>by
  rw [uG,qG,qG,ko mk a b]
  cases xt mk p with
  | some t=>rfl
  | none=>rfl
mutual
def wk (ms:List Tx):Pc->Option Tx
 | .lit t=>ms.find? λm=>wV m (.lit t)
 | .hole x=>ms.find? λm=>wV m (.hole x)
 | .each x b=>match ms.find? λm=>decide (x=m) with
  | some m=>some m
  | none=>qB ms b
 | .ife x a b=>match ms.find? λm=>decide (x=m) with
  | some m=>some m
  | none=>match qB ms a with
   | some m=>some m
   | none=>qB ms b
 | .seat _ n _ b=>match ms.find? λm=>decide (n=m) with
  | some m=>some m
  | none=>qB ms b
def qB (ms:List Tx):List Pc->Option Tx
 | []=>none
 | p::ps=>match wk ms p with
  | some m=>some m
  | none=>qB ms ps
end
theorem Qd (ms:List Tx):∀ (a b:List Pc),qB ms (a++b)=match qB ms a with
  | some t=>some t
  | none=>qB ms b
 | [],b=>rfl
 | p::a,b=>by
  rw [uG,qB,qB,Qd ms a b]
  cases wk ms p with
  | some t=>rfl
  | none=>rfl
def Ms (ms:List Tx):Prop:=∀ m∈ms,Mk m
structure lD (d:Nat)(kd:Tx)(o:List Tx)(kd':Tx)(o':List Tx)(ps:List Pc):Prop where
 look:∀ op T n,nM op->op.length+d<=1000->∃ hs,zy ps ⟨sK kd (op++o),T,n⟩=.ok (⟨sK kd' (op++o'),T++(zu ps).1,n+(zu ps).2⟩,hs)
 path:∀ mk,Mk mk->zH mk ps=none
 text:∀ mk,Mk mk->qG mk ps=none
 first:∀ ms,Ms ms->qB ms ps=none
structure lp (d:Nat)(kd:Tx)(o:List Tx)(ps:List Pc)(wd:Fw)(mk kk:Tx)(r:Off):Prop where
 look:∀ op T n,nM op->op.length+d<=1000->zy ps ⟨sK kd (op++o),T,n⟩=.error (mq wd mk (pV kk) (Off.add (T,n) r))
 path:zH mk ps=some r
 text:wd=.astray->qG mk ps=some (lQ mk kk)
 first:∀ ms,Ms ms->mk∈ms->qB ms ps=some mk
abbrev t8 (d:Nat)(kd:Tx)(ps:List Pc):Prop:=lD d kd [] kd [] ps
abbrev oS (d:Nat)(kd:Tx)(ps:List Pc)(wd:Fw)(mk kk:Tx)(r:Off):Prop:=lp d kd [] ps wd mk kk r
theorem lD.nil {d:Nat}{kd:Tx}{o:List Tx}:lD d kd o kd o []:=⟨λop T n _ _=>⟨[],by simp [zy,zu]⟩,λ_ _=>rfl,λ_ _=>rfl,λ_ _=>rfl⟩
theorem VM {a b:List Pc}{x e e2:mi}{h h2:Ho}(q:zy a x=.ok (e,h))(k:zy b e=.ok (e2,h2)):zy (a++b) x=.ok (e2,h++h2):=by
 induction a generalizing x h with
 | nil=>simp only [zy] at q;cases q;exact k
 | cons p a ih=>
  simp only [zy] at q;rw [uG,zy];split at q
  ·cases q
  ·rename_i r hr;split at q
   ·cases q
   ·rename_i r2 hr2;cases q;rw [ih hr2];simp only [uC]
section
variable {d:Nat} {kd kd' kd2:Tx} {o o' o2:List Tx} {a b:List Pc} {wd:Fw} {mk kk:Tx} {r:Off}
theorem lD.app (h:lD d kd o kd' o' a)(k:lD d kd' o' kd2 o2 b):lD d kd o kd2 o2 (a++b):=by
 refine⟨λop T n ho hd=>?_,λmk hm=>?_,λmk hm=>?_,λms hm=>?_⟩
 ·obtain⟨h1,e1⟩:=h.look op T n ho hd;obtain⟨h2,e2⟩:=k.look op (T++(zu a).1) (n+(zu a).2) ho hd;refine⟨h1++h2,?_⟩;rw [VM e1 e2,km];simp [Off.add,UZ]
 ·rw [kn,h.path mk hm,k.path mk hm];rfl
 ·rw [ko,h.text mk hm,k.text mk hm]
 ·rw [Qd,h.first ms hm,k.first ms hm]
theorem lD.bad (h:lD d kd o kd' o' a)(hm:Mk mk)(k:lp d kd' o' b wd mk kk r):lp d kd o (a++b) wd mk kk (Off.add (zu a) r):=by
 refine⟨λop T n ho hd=>?_,?_,λe=>?_,λms hs hi=>?_⟩
 ·obtain⟨h1,e1⟩:=h.look op T n ho hd;rw [zam e1 (k.look op _ _ ho hd),← Off.assoc];rfl
 ·rw [kn,h.path mk hm,k.path];rfl
 ·rw [ko,h.text mk hm,k.text e]
 ·rw [Qd,h.first ms hs,k.first ms hs hi]
theorem lp.app (h:lp d kd o a wd mk kk r):lp d kd o (a++b) wd mk kk r:=by
 refine⟨λop T n ho hd=>Yz (h.look op T n ho hd),?_,λe=>?_,λms hs hi=>?_⟩
 ·rw [kn,h.path]
 ·rw [ko,h.text e]
 ·rw [Qd,h.first ms hs hi]
theorem nM.app {op:List Tx}(h:nM op)(k:nM o):nM (op++o):=λx hx=>(u6.mp hx).elim (h x) (k x)
theorem lD.inn (h:t8 d kd a)(ho:nM o)(hl:o.length<=1):lD (d+1) kd o kd o a:=by refine⟨λop T n hop hd=>?_,h.path,h.text,h.first⟩;have:=h.look (op++o) T n (hop.app ho) (by rw [uc];lia);rwa [uj] at this
theorem lp.inn (h:oS d kd a wd mk kk r)(ho:nM o)(hl:o.length<=1):lp (d+1) kd o a wd mk kk r:=by refine⟨λop T n hop hd=>?_,h.path,h.text,h.first⟩;have:=h.look (op++o) T n (hop.app ho) (by rw [uc];lia);rwa [uj] at this
theorem lD.mono (h:lD d kd o kd' o' a){e:Nat}(hd:d<=e):lD e kd o kd' o' a:=⟨λop T n h1 h2=>h.look op T n h1 (by lia),h.path,h.text,h.first⟩
theorem lp.mono (h:lp d kd o a wd mk kk r){e:Nat}(hd:d<=e):lp e kd o a wd mk kk r:=⟨λop T n h1 h2=>h.look op T n h1 (by lia),h.path,h.text,h.first⟩
theorem find_none {p:Tx->Bool}{ms:List Tx}(h:∀ m∈ms,p m=false):ms.find? p=none:=by rw [List.find?_eq_none];intro m hm;rw [h m hm];decide
theorem Fq {p:Tx->Bool}{ms:List Tx}{mk:Tx}(hi:mk∈ms)(h1:p mk=true)(h:∀ m∈ms,p m=true->m=mk):ms.find? p=some mk:=by
 cases e:ms.find? p with
 | none=>exact absurd h1 (by have:=List.find?_eq_none.mp e mk hi;simpa using this)
 | some m=>rw [h m (List.mem_of_find?_eq_some e) (List.find?_some e)]
theorem yn {t:Tx}(h:∀ op,nM op->∃ es,runM (sK kd (op++o)) t=.ok (sK kd' (op++o'),es))(hu:∀ mk,Mk mk->lL mk t=false):lD d kd o kd' o' [.lit t]:=by
 refine⟨λop T n ho _=>?_,λmk hm=>?_,λmk hm=>?_,λms hs=>?_⟩
 ·obtain⟨es,e⟩:=h op ho;exact⟨[],by rw [DW e];simp [zu,qD,Off.add]⟩
 ·simp [zH,qE,wV,hu mk hm]
 ·simp [qG,xt,hu mk hm]
 ·simp only [qB,wk,wV];rw [find_none λm hm=>hu m (hs m hm)]
theorem N3 {x:Tx}(h:∀ op,∃ k,ka (sK kd (op++o))=some k)(hx:¬ Mk x):lD d kd o kd o [.hole x]:=by
 have ne:∀ {mk:Tx},Mk mk->x≠mk:=λhm e=>hx (e ▸ hm);refine⟨λop T n ho _=>?_,λmk hm=>?_,λmk hm=>?_,λms hs=>?_⟩
 ·obtain⟨k,e⟩:=h op;exact⟨[(x,k)],by simp [zy,z9,e,zu,qD,Off.add]⟩
 ·simp [zH,qE,wV,ne hm]
 ·rfl
 ·simp only [qB,wk,wV];rw [find_none λm hm=>uF (ne (hs m hm))]
theorem N2 {x:Tx}(h:lD d kd o kd o a)(hx:¬ Mk x):lD d kd o kd o [.each x a]:=by
 have ne:∀ {mk:Tx},Mk mk->x≠mk:=λhm e=>hx (e ▸ hm);refine⟨λop T n ho hd=>?_,λmk hm=>?_,λmk hm=>?_,λms hs=>?_⟩
 ·obtain⟨hs,e⟩:=h.look op (T++[1]) n ho hd;exact⟨hs,by simp [zy,z9,e,zu,qD,Off.add]⟩
 ·simp [zH,qE,ne hm,h.path mk hm]
 ·simp [qG,xt,h.text mk hm]
 ·simp only [qB,wk];rw [find_none λm hm=>uF (ne (hs m hm)),h.first ms hs]
theorem Rj {x:Tx}(h:lp d kd o a wd mk kk r)(hm:Mk mk)(hx:¬ Mk x):lp d kd o [.each x a] wd mk kk (Off.add ([1],0) r):=by
 have ne:∀ {mk:Tx},Mk mk->x≠mk:=λhm e=>hx (e ▸ hm);refine⟨λop T n ho hd=>?_,?_,λe=>?_,λms hs hi=>?_⟩
 ·have e:=h.look op (T++[1]) n ho hd;simp only [zy,z9,e];simp [Off.add]
 ·simp [zH,qE,ne hm,h.path]
 ·simp [qG,xt,h.text e]
 ·simp only [qB,wk];rw [find_none λm hm=>uF (ne (hs m hm)),h.first ms hs hi]
theorem Ml {x:Tx}(h:lD d kd o kd' o' a)(k:lD d kd o kd' o' b)(hx:¬ Mk x):lD d kd o kd' o' [.ife x a b]:=by
 have ne:∀ {mk:Tx},Mk mk->x≠mk:=λhm e=>hx (e ▸ hm);refine⟨λop T n ho hd=>?_,λmk hm=>?_,λmk hm=>?_,λms hs=>?_⟩
 ·obtain⟨h1,e1⟩:=h.look op (T++[0]) n ho hd;obtain⟨h2,e2⟩:=k.look op (T++[1]) n ho hd;exact⟨h1++h2,by simp [zy,z9,e1,e2,zu,qD,Off.add]⟩
 ·simp [zH,qE,ne hm,h.path mk hm,k.path mk hm]
 ·simp [qG,xt,h.text mk hm,k.text mk hm]
 ·simp only [qB,wk];rw [find_none λm hm=>uF (ne (hs m hm)),h.first ms hs,k.first ms hs]
theorem N1 {x:Tx}(h:lp d kd o a wd mk kk r)(hm:Mk mk)(hx:¬ Mk x):lp d kd o [.ife x a b] wd mk kk (Off.add ([0],0) r):=by
 have ne:∀ {mk:Tx},Mk mk->x≠mk:=λhm e=>hx (e ▸ hm);refine⟨λop T n ho hd=>?_,?_,λe=>?_,λms hs hi=>?_⟩
 ·have e:=h.look op (T++[0]) n ho hd;simp only [zy,z9,e];simp [Off.add]
 ·simp [zH,qE,ne hm,h.path]
 ·simp [qG,xt,h.text e]
 ·simp only [qB,wk];rw [find_none λm hm=>uF (ne (hs m hm)),h.first ms hs hi]
theorem N0 {x:Tx}(k:lD d kd o kd' o' a)(h:lp d kd o b wd mk kk r)(hm:Mk mk)(hx:¬ Mk x):lp d kd o [.ife x a b] wd mk kk (Off.add ([1],0) r):=by
 have ne:∀ {mk:Tx},Mk mk->x≠mk:=λhm e=>hx (e ▸ hm);refine⟨λop T n ho hd=>?_,?_,λe=>?_,λms hs hi=>?_⟩
 ·obtain⟨h1,e1⟩:=k.look op (T++[0]) n ho hd;have e:=h.look op (T++[1]) n ho hd;simp only [zy,z9,e1,e];simp [Off.add]
 ·simp [zH,qE,ne hm,k.path mk hm,h.path]
 ·simp [qG,xt,k.text mk hm,h.text e]
 ·simp only [qB,wk];rw [find_none λm hm=>uF (ne (hs m hm)),k.first ms hs,h.first ms hs hi]
theorem NZ {w x y:Tx}(h:t8 d kd a)(hx:¬ Mk x)(hd0:d<=1000):lD d kd o kd o [.seat w x y a]:=by
 have ne:∀ {mk:Tx},Mk mk->x≠mk:=λhm e=>hx (e ▸ hm);refine⟨λop T n ho hd=>?_,λmk hm=>?_,λmk hm=>?_,λms hs=>?_⟩
 ·have f:mR (sK kd (op++o))=sK kd ([]++[]):=YA kd (op++o) [];obtain⟨hs,e⟩:=h.look [] T (n+1) nofun (by simpa using hd0);refine⟨hs,?_⟩;simp only [zy,z9,f,e];simp [zu,qD,Off.add];lia
 ·simp [zH,qE,ne hm,h.path mk hm]
 ·simp [qG,xt,h.text mk hm]
 ·simp only [qB,wk];rw [find_none λm hm=>uF (ne (hs m hm)),h.first ms hs]
theorem Ri {w x y:Tx}(h:oS d kd a wd mk kk r)(hm:Mk mk)(hx:¬ Mk x)(hd0:d<=1000):lp d kd o [.seat w x y a] wd mk kk (Off.add ([],1) r):=by
 have ne:∀ {mk:Tx},Mk mk->x≠mk:=λhm e=>hx (e ▸ hm);refine⟨λop T n ho hd=>?_,?_,λe=>?_,λms hs hi=>?_⟩
 ·have f:mR (sK kd (op++o))=sK kd ([]++[]):=YA kd (op++o) [];have e:=h.look [] T (n+1) nofun (by simpa using hd0);simp only [zy,z9,f,e];simp [Off.add,UZ]
 ·simp [zH,qE,ne hm,h.path]
 ·simp [qG,xt,h.text e]
 ·simp only [qB,wk];rw [find_none λm hm=>uF (ne (hs m hm)),h.first ms hs hi]
end
section
variable {d:Nat} {kd kd':Tx} {a b c:List Pc} {wd:Fw} {mk kk:Tx} {r:Off}
theorem VN (k:Kn kd)(hm:Mk mk):oS d kd (qJ wd mk kd) wd mk kd (mL wd):=by
 refine⟨λop T n ho _=>by rw [uj];exact RG k hm ho,T3 k hm,λe=>?_,λms hs hi=>?_⟩
 ·subst e;have h1:lL mk (lQ mk kd)=true:=by cases k<;>rcases hm with rfl | rfl<;>decide
  simp [qJ,qG,xt,h1]
 ·have h1:∀ m∈ms,lL m (lQ mk kd)=true->m=mk:=λm hi e=>by
   have:=hs m hi
   cases k<;>rcases hm with rfl | rfl<;>rcases this with rfl | rfl<;>first | rfl | (revert e;decide)
  have h0:lL mk (lQ mk kd)=true:=by cases k<;>rcases hm with rfl | rfl<;>decide
  have h2:∀ m∈ms,lL m (Q8 kd)=false:=λm hi=>by
   have:=hs m hi
   cases k<;>rcases this with rfl | rfl<;>decide
  have eq1:∀ {p:Tx->Bool},(∀ m,p m=decide (mk=m))->ms.find? p=some mk:=λ{p} hp=>Fq hi (by rw [hp];simp) λm _ e=>by rw [hp] at e;exact(GQ e).symm
  cases wd with
  | astray=>
   simp only [qJ,qB,wk,wV]
   rw [Fq hi h0 h1]
  | noplace=>
   simp only [qJ,qB,wk,wV]
   rw [find_none h2]
   simp only []
   rw [eq1 λm=>rfl]
  | ife=>simp only [qJ,qB,wk,wV];rw [eq1 λm=>rfl]
  | each=>simp only [qJ,qB,wk,wV];rw [eq1 λm=>rfl]
  | seat=>simp only [qJ,qB,wk,wV];rw [eq1 λm=>rfl]
theorem Rh (k:Kn kd):t8 d kd [.lit (ot kd)]:=
 yn (λop _=>by rw [uj];exact N5 k) λmk hm=>by cases k<;>rcases hm with rfl | rfl<;>decide
theorem Rg {x:Tx}(k:Kn kd)(h:kd≠xr)(hx:¬ Mk x):t8 d kd [.hole x]:=
 N3 (λop=>by cases k<;>first | exact⟨_,rfl⟩ | exact absurd rfl h) hx
theorem OE {m:Nat}(hm:m=0\/m=1\/m=2):∃ kd',kd' = [Qc,ow,sT].getD m []/\Kn kd'/\(∀ d,lD d xr [] kd' [] [.lit ([[32,113,61,34],[32,114,40,121,44],[32,116,33,34,119,32,39]].getD m [])])/\∀ d,lD d kd' [] xr [] [.lit ([[34],[41],[39,34]].getD m [])]:=by
 rcases hm with rfl | rfl | rfl
 ·exact⟨_,rfl,.quoted,λd=>yn (λop _=>⟨_,rfl⟩) λmk hm=>by rcases hm with rfl | rfl<;>decide,λd=>yn (λop _=>⟨_,rfl⟩) λmk hm=>by rcases hm with rfl | rfl<;>decide⟩
 ·exact⟨_,rfl,.row,λd=>yn (λop _=>⟨_,rfl⟩) λmk hm=>by rcases hm with rfl | rfl<;>decide,λd=>yn (λop _=>⟨_,rfl⟩) λmk hm=>by rcases hm with rfl | rfl<;>decide⟩
 ·exact⟨_,rfl,.said,λd=>yn (λop _=>⟨_,rfl⟩) λmk hm=>by rcases hm with rfl | rfl<;>decide,λd=>yn (λop _=>⟨_,rfl⟩) λmk hm=>by rcases hm with rfl | rfl<;>decide⟩
inductive iz (d:Nat)(kd:Tx)(o:List Tx)(kd':Tx)(o':List Tx)(ps:List Pc):Option (Fw×Tx)->Prop where
 | ok:lD d kd o kd' o' ps->iz d kd o kd' o' ps none
 | bad {wd:Fw} {mk kk:Tx} {r:Off}:Mk mk->lp d kd o ps wd mk kk r->Kn kk->iz d kd o kd' o' ps (some (wd,mk))
theorem iz.app {o o' o2:List Tx}{kd2:Tx}{x y:Option (Fw×Tx)}(h:iz d kd o kd' o' a x)(k:iz d kd' o' kd2 o2 b y):iz d kd o kd2 o2 (a++b) (x <|> y):=by
 cases h with
 | bad h1 h2 h3=>exact .bad h1 h2.app h3
 | ok h=>
  cases k with
  | ok k=>exact .ok (h.app k)
  | bad k1 k2 k3=>exact .bad k1 (h.bad k1 k2) k3
theorem iz.okl {o o' o2:List Tx}{kd2:Tx}{y:Option (Fw×Tx)}(h:lD d kd o kd' o' a)(k:iz d kd' o' kd2 o2 b y):iz d kd o kd2 o2 (a++b) y:=by have:=iz.app (.ok h) k;cases y<;>exact this
theorem iz.okr {o o' o2:List Tx}{kd2:Tx}{x:Option (Fw×Tx)}(h:iz d kd o kd' o' a x)(k:lD d kd' o' kd2 o2 b):iz d kd o kd2 o2 (a++b) x:=by have:=iz.app h (.ok k);cases x<;>exact this
theorem iz.inn {o:List Tx}{x:Option (Fw×Tx)}(h:iz d kd [] kd [] a x)(ho:nM o)(hl:o.length<=1):iz (d+1) kd o kd o a x:=by
 cases h with
 | ok h=>exact .ok (h.inn ho hl)
 | bad h1 h2 h3=>exact .bad h1 (h2.inn ho hl) h3
theorem iz.mono {o o':List Tx}{x:Option (Fw×Tx)}(h:iz d kd o kd' o' a x){e:Nat}(hd:d<=e):iz e kd o kd' o' a x:=by
 cases h with
 | ok h=>exact .ok (h.mono hd)
 | bad h1 h2 h3=>exact .bad h1 (h2.mono hd) h3
theorem Rf {x:Tx}{y:Option (Fw×Tx)}(h:iz d kd [] kd [] a y)(hx:¬ Mk x):iz d kd [] kd [] [.each x a] y:=by
 cases h with
 | ok h=>exact .ok (N2 h hx)
 | bad h1 h2 h3=>exact .bad h1 (Rj h2 h1 hx) h3
theorem OD {x:Tx}{y z:Option (Fw×Tx)}(h:iz d kd [] kd [] a y)(k:iz d kd [] kd [] b z)(hx:¬ Mk x):iz d kd [] kd [] [.ife x a b] (y <|> z):=by
 cases h with
 | bad h1 h2 h3=>exact .bad h1 (N1 h2 h1 hx) h3
 | ok h=>
  cases k with
  | ok k=>exact .ok (Ml h k hx)
  | bad k1 k2 k3=>exact .bad k1 (N0 h k2 k1 hx) k3
theorem OV {w x y:Tx}{z:Option (Fw×Tx)}(h:iz d kd [] kd [] a z)(hx:¬ Mk x)(hd:d<=1000):iz d kd [] kd [] [.seat w x y a] z:=by
 cases h with
 | ok h=>exact .ok (NZ h hx hd)
 | bad h1 h2 h3=>exact .bad h1 (Ri h2 h1 hx hd) h3
end
section
variable {d:Nat} {kd kd':Tx} {a b c:List Pc} {wd:Fw} {mk kk:Tx} {r:Off}
theorem OU:lD d zE [] WJ [[98]] [.lit [60,98,32,119,58]]:=by
 refine yn (λop _=>?_) λmk hm=>by rcases hm with rfl | rfl<;>decide
 rw [uj];exact⟨_,rfl⟩
theorem OS:lD d zE [] xr [[98]] [.lit [60,98,32,97,61,34,120,34]]:=by
 refine yn (λop _=>?_) λmk hm=>by rcases hm with rfl | rfl<;>decide
 rw [uj];exact⟨_,rfl⟩
theorem F4 {kd:Tx}(h:kd=WJ\/kd=xr):lD d kd [[98]] zE [[98]] [.lit [62]]:=
 yn (λop _=>Mm h) λmk hm=>by rcases hm with rfl | rfl<;>decide
theorem OB:lD d zE [[98]] zE [] [.lit [60,47,98,62]]:=by
 refine yn (λop _=>?_) λmk hm=>by rcases hm with rfl | rfl<;>decide
 rw [uj];exact Rk
theorem tJ:nM [[98]]:=λx h=>by simpa using h
theorem Ey {m:Nat}{y z:Option (Fw×Tx)}(hk:kd=WJ/\m=0\/kd=xr/\m≠0)(h:iz d kd [] kd [] a y)(k:iz d zE [] zE [] b z):iz (d+1) zE [] zE [] ((.lit (if m=0 then [60,98,32,119,58] else [60,98,32,97,61,34,120,34])::a++[.lit [62]])++b++[.lit [60,47,98,62]]) (y <|> z):=by
 have h1:lD (d+1) zE [] kd [[98]] [.lit (if m=0 then [60,98,32,119,58] else [60,98,32,97,61,34,120,34])]:=by
  rcases hk with⟨rfl,rfl⟩ | ⟨rfl,hm⟩
  ·exact OU
  ·rw [ub hm];exact OS
 have h2:=h.inn tJ (by decide);have h3:=k.inn tJ (by decide);have h4:lD (d+1) kd [[98]] zE [[98]] [.lit [62]]:=F4 (hk.imp And.left And.left);exact iz.okr (iz.app (iz.okr (iz.okl h1 h2) h4) h3) OB
theorem OR {m:Nat}{y:Option (Fw×Tx)}(hm:m=0\/m=1\/m=2)(h:∀ kd',kd' = [Qc,ow,sT].getD m []->Kn kd'->iz d kd' [] kd' [] a y):iz d xr [] xr [] (.lit ([[32,113,61,34],[32,114,40,121,44],[32,116,33,34,119,32,39]].getD m [])::a++[.lit ([[34],[41],[39,34]].getD m [])]) y:=by obtain⟨kd',e,hk,h1,h2⟩:=OE hm;exact iz.okr (iz.okl (h1 d) (h kd' e hk)) (h2 d)
end
abbrev iN:=Int×Fw×Tx
def lP (kd:Tx):List iN->List Pc×List iN
 | []=>([],[])
 | (c,w,m)::L=>((if c - 1=0 then qJ w m kd else [])++(lP kd L).1,(c - 1,w,m)::(lP kd L).2)
def nu:List iN->List Pc
 | []=>[]
 | (c,w,m)::L=>(if c > 0 then qJ w m zE else [])++nu L
structure lI (L L':List iN)(y:Option (Fw×Tx)):Prop where
 eq:L'.map Prod.snd=L.map Prod.snd
 mem:∀ p,y=some p->p∈L.map Prod.snd
 pos:y=none->(∀ p∈L,p.1 > 0)->∀ p∈L',p.1 > 0
def oe (L:List iN):Prop:=∀ p∈L.map Prod.snd,Mk p.2
theorem lI.rfl {L:List iN}:lI L L none:=⟨_root_.rfl,λ_ h=>by simp at h,λ_ h=>h⟩
theorem lI.app {L L1 L2:List iN}{x y:Option (Fw×Tx)}(h:lI L L1 x)(k:lI L1 L2 y):lI L L2 (x <|> y):=by
 refine⟨k.eq.trans h.eq,λp e=>?_,λe g=>?_⟩
 ·cases x with
  | some q=>exact h.mem p e
  | none=>rw [← h.eq];exact k.mem p e
 ·cases x with
  | some q=>cases e
  | none=>exact k.pos e (h.pos _root_.rfl g)
theorem lI.mkl {L L':List iN}{y:Option (Fw×Tx)}(h:lI L L' y)(k:oe L):oe L':=by unfold oe at *;rw [h.eq];exact k
theorem Ew {d:Nat}{kd:Tx}(k:Kn kd):∀ {L:List iN},oe L->∃ y,iz d kd [] kd [] (lP kd L).1 y/\lI L (lP kd L).2 y
 | [],_=>⟨none,.ok .nil,.rfl⟩
 | (c,w,m)::L,hm=>by
  have hm0:Mk m:=hm (w,m) (by simp);obtain⟨y,h1,h2⟩:=Ew (d:=d) k (L:=L) λp hp=>hm p (by simp only [uz,uq];exact .inr hp);by_cases e:c - 1=0
  ·refine⟨some (w,m),?_,?_⟩
   ·simp only [lP,ue e];exact .bad hm0 (VN k hm0).app k
   ·refine⟨by simp only [lP,uz,h2.eq],λp e=>?_,λe=>by cases e⟩;cases e;simp
  ·refine⟨y,?_,?_⟩
   ·simp only [lP,ub e,Ue];exact h1
   ·refine⟨by simp only [lP,uz,h2.eq],λp e=>?_,λe0 hp p hi=>?_⟩
    ·simp only [uz,uq];exact .inr (h2.mem p e)
    ·simp only [lP,uq] at hi;rcases hi with rfl | hi
     ·have:=hp (c,w,m) (by simp);simp only at this ⊢;lia
     ·exact h2.pos e0 (λp hp'=>hp p (by simp [hp'])) p hi
theorem Eu {d:Nat}:∀ {L:List iN},oe L->∃ y,iz d zE [] zE [] (nu L) y/\(∀ p,y=some p->p∈L.map Prod.snd)/\(y=none->∀ p∈L,¬ p.1 > 0)
 | [],_=>⟨none,.ok .nil,λ_ h=>by simp at h,λ_ p hp=>by simp at hp⟩
 | (c,w,m)::L,hm=>by
  have hm0:Mk m:=hm (w,m) (by simp);by_cases e:c > 0
  ·refine⟨some (w,m),?_,λp e=>?_,λe=>by cases e⟩
   ·simp only [nu,ue e];exact .bad hm0 (VN .text hm0).app .text
   ·cases e;simp
  ·obtain⟨y,h1,h2,h3⟩:=Eu (d:=d) (L:=L) λp hp=>hm p (by simp only [uz,uq];exact .inr hp);refine⟨y,?_,λp e=>?_,λe0 p hp=>?_⟩
   ·simp only [nu,ub e,Ue];exact h1
   ·simp only [uz,uq];exact .inr (h2 p e)
   ·rcases uq.mp hp with rfl | hp
    ·exact e
    ·exact h3 e0 p hp
theorem OQ {d:Nat}{L L':List iN}{ps:List Pc}{y:Option (Fw×Tx)}(h:iz d zE [] zE [] ps y)(t:lI L L' y)(hm:oe L)(hp:∀ p∈L,p.1 > 0):∃ z,iz d zE [] zE [] (ps++nu L') z/\(∀ p,z=some p->p∈L.map Prod.snd)/\(z=none->L=[]):=by
 obtain⟨x,h1,h2,h3⟩:=Eu (d:=d) (t.mkl hm);refine⟨(y <|> x),h.app h1,λp e=>?_,λe=>?_⟩
 ·cases y with
  | some q=>exact t.mem p e
  | none=>rw [← t.eq];exact h2 p e
 ·cases y with
  | some q=>cases e
  | none=>
   cases L' with
   | nil=>have:=t.eq;cases L with | nil=>rfl | cons p L=>simp at this
   | cons p L'=>exact absurd (t.pos _root_.rfl hp p (by simp)) (h3 e p (by simp))
theorem Et:nM []:=λx h=>by simp at h
theorem Dx:mG=sK zE []:=by decide
theorem Oy {d:Nat}{ps qs:List Pc}{wd:Fw}{mk kk:Tx}{r:Off}(h:oS d zE ps wd mk kk r)(hd:d<=1000):qP (ps++qs)=.error (mq wd mk (pV kk) r):=by
 have:=h.app (b:=qs) |>.look [] [] 0 Et (by simpa using hd)
 unfold qP;rw [Dx];rw [show(sK zE [])=sK zE ([]++[]) from rfl,this];simp [Off.add]
structure Bz (n s x:Nat)(ps:List Pc):Prop where
 dp:iQ.dpB ps<=n
 nm:lh.nmB ps=true
 sz:ik ps<=s
 tx:iD ps<=x
theorem Bz.nil {n:Nat}:Bz n 0 0 []:=⟨by simp [iQ.dpB],rfl,by simp [ik],by simp [iD]⟩
theorem Bz.app {n s x s' x':Nat}{a b:List Pc}(h:Bz n s x a)(k:Bz n s' x' b):Bz n (s+s') (x+x') (a++b):=by
 refine⟨?_,?_,?_,?_⟩
 ·rw [Yy];have:=h.dp;have:=k.dp;lia
 ·rw [W5,h.nm,k.nm];rfl
 ·rw [z8];have:=h.sz;have:=k.sz;lia
 ·rw [Jz];have:=h.tx;have:=k.tx;lia
theorem Bz.up {n s x n' s' x':Nat}{a:List Pc}(h:Bz n s x a)(h1:n<=n')(h2:s<=s')(h3:x<=x'):Bz n' s' x' a:=⟨by have:=h.dp;lia,h.nm,by have:=h.sz;lia,by have:=h.tx;lia⟩
theorem xO {n:Nat}{t:Tx}{x:Nat}(h:t.length<=x):Bz n 1 x [.lit t]:=⟨by simp [iQ.dpB,iQ],rfl,by simp [ik,iE],by simp [iD,l9];exact h⟩
theorem Es {n:Nat}{t:Tx}(h:t.length<=10):Bz n 1 0 [.hole t]:=⟨by simp [iQ.dpB,iQ],by simp only [lh.nmB,lh,gb];exact UC (by lia),by simp [ik,iE],by simp [iD,l9]⟩
theorem Er {n s x:Nat}{t:Tx}{a:List Pc}(h:Bz n s x a):Bz (n+1) (s+1) x [.each t a]:=⟨by have:=h.dp;simp [iQ.dpB,iQ];lia,by simp only [lh.nmB,lh,h.nm];rfl,by have:=h.sz;simp [ik,iE];lia,by have:=h.tx;simp [iD,l9];lia⟩
theorem DG {n s x s' x':Nat}{t:Tx}{a b:List Pc}(h:Bz n s x a)(k:Bz n s' x' b):Bz (n+1) (s+s' + 1) (x+x') [.ife t a b]:=⟨by have:=h.dp;have:=k.dp;simp [iQ.dpB,iQ];lia,by simp only [lh.nmB,lh,h.nm,k.nm];rfl,by have:=h.sz;have:=k.sz;simp [ik,iE];lia,by have:=h.tx;have:=k.tx;simp [iD,l9];lia⟩
theorem Ep {n s x:Nat}{t y z:Tx}{a:List Pc}(h:Bz n s x a):Bz (n+1) (s+2) x [.seat t y z a]:=⟨by have:=h.dp;simp [iQ.dpB,iQ];lia,by simp only [lh.nmB,lh,h.nm];rfl,by have:=h.sz;simp [ik,iE];lia,by have:=h.tx;simp [iD,l9];lia⟩
theorem JB {n:Nat}{wd:Fw}{mk kd:Tx}(k:Kn kd)(hm:Mk mk):Bz (n+1) 3 5 (qJ wd mk kd):=by
 have h2:mk.length=2:=by rcases hm with rfl | rfl<;>rfl
 have h3:(JA kd).length<=5:=by cases k<;>decide
 cases wd with
 | astray=>exact(xO (n:=0) (by cases k<;>rcases hm with rfl | rfl<;>decide:(lQ mk kd).length<=5)).up (by omega) (by omega) (by omega)
 | noplace=>exact((xO (n:=n+1) (by cases k<;>decide:(Q8 kd).length<=2)).app ((Es (by omega)).app (xO (by decide:([98]:Tx).length<=1)))).up (by omega) (by omega) (by omega)
 | ife=>exact(DG (xO (n:=n) h3) .nil).up (by omega) (by omega) (by omega)
 | each=>exact(Er (xO (n:=n) h3)).up (by omega) (by omega) (by omega)
 | seat=>exact(Ep (xO (n:=n) h3)).up (by omega) (by omega) (by omega)
theorem Bt {n:Nat}{kd:Tx}(k:Kn kd):∀ {L:List iN},oe L->Bz (n+1) (3 * L.length) (5 * L.length) (lP kd L).1
 | [],_=>.nil
 | (c,w,m)::L,hm=>by
  have h1:=Bt (n:=n) k (L:=L) λp hp=>hm p (by simp only [uz,uq];exact .inr hp)
  have h2:Bz (n+1) 3 5 (if c - 1=0 then qJ w m kd else []):=by
   split
   ·exact JB k (hm (w,m) (by simp))
   ·exact Bz.nil.up (ui _) (by lia) (by lia)
  exact(h2.app h1).up (ui _) (by simp only [uo];lia) (by simp only [uo];lia)
theorem Bs {n:Nat}:∀ {L:List iN},oe L->Bz (n+1) (3 * L.length) (5 * L.length) (nu L)
 | [],_=>.nil
 | (c,w,m)::L,hm=>by
  have h1:=Bs (n:=n) (L:=L) λp hp=>hm p (by simp only [uz,uq];exact .inr hp)
  have h2:Bz (n+1) 3 5 (if c > 0 then qJ w m zE else []):=by
   split
   ·exact JB .text (hm (w,m) (by simp))
   ·exact Bz.nil.up (ui _) (by lia) (by lia)
  exact(h2.app h1).up (ui _) (by simp only [uo];lia) (by simp only [uo];lia)
def gS:Nat->Nat
 | 0=>21
 | d+1=>3 * (2 * gS d+9)
def gT:Nat->Nat
 | 0=>60
 | d+1=>3 * (2 * gT d+24)
def oz:Nat->Nat
 | 0=>1
 | d+1=>2 * gS d+3
def pb:Nat->Nat
 | 0=>9
 | d+1=>2 * gT d+13
def oP (d:Nat)(ps:List Pc):Prop:=Bz (d+1) (gS d) (gT d) ps
def oK (d:Nat)(ps:List Pc):Prop:=Bz (d+1) (oz d) (pb d) ps
theorem Ov (d:Nat):3 * (oz d+6)<=gS d/\3 * (pb d+10)<=gT d:=by
 cases d with
 | zero=>decide
 | succ d=>simp only [oz,pb,gS,gT];omega
def rm (d i:Nat)(ps:List Pc):Prop:=Bz (d+1) (i * (oz d+6)) (i * (pb d+10)) ps
theorem rm.nil {d:Nat}:rm d 0 []:=(Bz.nil (n:=0)).up (by lia) (by lia) (by lia)
theorem rm.next {d i:Nat}{kd:Tx}{L:List iN}{a b:List Pc}(h:rm d i a)(k:Kn kd)(hm:oe L)(hl:L.length<=2)(s:oK d b):rm d (i+1) (a++(lP kd L).1++b):=by
 refine((Bz.app (Bz.app h ((Bt k hm).up (ui _) (by lia:_<=6) (by lia:_<=10))) s)).up (ui _) ?_ ?_
 ·rw [GW];lia
 ·rw [GW];lia
theorem rm.gd {d i:Nat}{a:List Pc}(h:rm d i a)(hi:i<=3):oP d a:=by obtain⟨h1,h2⟩:=Ov d;exact Bz.up h (ui _) (uI (UK _ hi) h1) (uI (UK _ hi) h2)
theorem Mj {d:Nat}{t:Tx}(h:t.length<=9):oK d [.lit t]:=by refine(xO (n:=0) h).up (by lia) ?_ ?_<;>cases d<;>simp [oz,pb]<;>lia
theorem MT {d:Nat}{t:Tx}(h:t.length<=9):oK d [.hole t]:=by refine(Es (by lia)).up (uZ _) ?_ (uZ _);cases d<;>simp [oz]
theorem MR {d:Nat}{t:Tx}{a:List Pc}(h:oP d a):oK (d+1) [.each t a]:=(Er h).up (by lia) (by simp only [oz];lia) (by simp only [pb];lia)
theorem Mi {d:Nat}{t:Tx}{a b:List Pc}(h:oP d a)(k:oP d b):oK (d+1) [.ife t a b]:=(DG h k).up (by lia) (by simp only [oz];lia) (by simp only [pb];lia)
theorem MQ {d:Nat}{t y z:Tx}{a:List Pc}(h:oP d a):oK (d+1) [.seat t y z a]:=(Ep h).up (by lia) (by simp only [oz];lia) (by simp only [pb];lia)
theorem Mh {d:Nat}{t u v:Tx}{a b:List Pc}(h:oP d a)(k:oP d b)(hl:t.length<=8)(hu:u.length<=1)(hv:v.length<=4):oK (d+1) ((.lit t::a++[.lit u])++b++[.lit v]):=by refine(((((xO hl).app h).app (xO hu)).app k).app (xO hv)).up (by lia) ?_ ?_<;>simp only [oz,pb]<;>lia
theorem F3 {d:Nat}{t u:Tx}{a:List Pc}(h:oP d a)(hl:t.length<=8)(hu:u.length<=4):oK (d+1) (.lit t::a++[.lit u]):=by refine(((xO hl).app h).app (xO hu)).up (by lia) ?_ ?_<;>simp only [oz,pb]<;>lia
def Qm:Fw->Tx
 | .astray=>[97,115,116,114,97,121]
 | .noplace=>[110,111,112,108,97,99,101]
 | .ife=>[105,102]
 | .each=>[101,97,99,104]
 | .seat=>WH
inductive lM (H:Hp):Le->List iN->Prop
 | nil:lM H [] []
 | cons {a:Addr} {c:Int} {wd:Fw} {mk:Tx} {as:Le} {L:List iN}:H a=some (.lst [.int c,tx (Qm wd),tx mk])->lM H as L->lM H (a::as) ((c,wd,mk)::L)
theorem lM.mono {H H':Hp}{as:Le}{L:List iN}(h:lM H as L)(g:fX H H'):lM H' as L:=by
 induction h with
 | nil=>exact .nil
 | cons h _ ih=>exact .cons (g _ _ h) ih
theorem lM.some {H:Hp}{as:Le}{L:List iN}(h:lM H as L):∀ a∈as,H a≠none:=by
 induction h with
 | nil=>intro a ha;cases ha
 | cons h _ ih=>
  intro b hb;rcases uq.mp hb with rfl | hb
  ·rw [h];intro z;cases z
  ·exact ih b hb
theorem lM.len {H:Hp}{as:Le}{L:List iN}(h:lM H as L):as.length=L.length:=by
 induction h with
 | nil=>rfl
 | cons _ _ ih=>simp only [uo,ih]
theorem lM.of {H H':Hp}{as:Le}{L:List iN}(h:lM H as L)(g:∀ a∈as,H' a=H a):lM H' as L:=by
 induction h with
 | nil=>exact .nil
 | @cons a c wd mk as L h _ ih=>exact .cons (by rw [g a (by simp)];exact h) (ih λb hb=>g b (by simp [hb]))
theorem lM.set {H:Hp}{a:Addr}{as:Le}{c c':Int}{wd:Fw}{mk:Tx}{L:List iN}(h:lM H (a::as) ((c,wd,mk)::L))(hn:a∉as):lM (upd H a (.lst [.int c',tx (Qm wd),tx mk])) (a::as) ((c',wd,mk)::L):=by
 cases h with
 | cons h k=>exact .cons zb (k.of λb hb=>zk λz=>hn (z ▸ hb))
theorem lM.split {H:Hp}{as bs:Le}{L M:List iN}(h:lM H as L)(k:lM H bs M):lM H (as++bs) (L++M):=by
 induction h with
 | nil=>exact k
 | cons h _ ih=>exact .cons h ih
def oA (as:Le)(H:Hp):Hp:=λb=>if b∈as then none else H b
theorem X1 {as:Le}{H:Hp}{b:Addr}(h:b∉as):oA as H b=H b:=ub h
theorem DF {as:Le}{H:Hp}{b:Addr}(h:b∈as):oA as H b=none:=ue h
theorem Br {as:Le}{H:Hp}:fX (oA as H) H:=λb o h=>by
 unfold oA at h;split at h
 ·cases h
 ·exact h
theorem OP {as:Le}{H H':Hp}(g:fX H H'):fX (oA as H) (oA as H'):=λb o h=>by
 unfold oA at h ⊢;split at h
 ·cases h
 ·rename_i z;rw [ub z];exact g _ _ h
theorem MP {as:Le}{H:Hp}{a:Addr}{o:HO}(h:a∈as):oA as (upd H a o)=oA as H:=by
 funext b;by_cases z:b∈as
 ·rw [DF z,DF z]
 ·rw [X1 z,X1 z,zk (λy:b=a=>z (by rw [y];exact h))]
def Rp (as:Le)(H H':Hp)(L':List iN):Prop:=fX (oA as H) (oA as H')/\lM H' as L'
theorem Rp.trans {as:Le}{H H1 H2:Hp}{L1 L2:List iN}(a:Rp as H H1 L1)(b:Rp as H1 H2 L2):Rp as H H2 L2:=⟨a.1.trans b.1,b.2⟩
theorem Rp.same {as:Le}{H H':Hp}{L:List iN}(h:lM H as L)(g:fX H H'):Rp as H H' L:=⟨OP g,h.mono g⟩
theorem Rp.fresh {as:Le}{H H':Hp}{L L':List iN}{p:Addr}(g:Rp as H H' L')(h:lM H as L)(hp:H' p=none):H p=none:=by
 by_cases z:p∈as
 ·exact absurd hp (g.2.some p z)
 ·cases e:H p with
  | none=>rfl
  | some o=>have:=Br _ _ (g.1 p o (by rw [X1 z];exact e));rw [hp] at this;cases this
theorem Rp.old {as:Le}{H H':Hp}{L':List iN}{p:Addr}{o:HO}(g:Rp as H H' L')(hp:p∉as)(h:H p=some o):H' p=some o:=Br _ _ (g.1 p o (by rw [X1 hp];exact h))
theorem sR {as:Le}{H H1 H2:Hp}{L2:List iN}(g:Rp as H1 H2 L2)(h:∀ a∈as,H a≠none):fX (nw H H1) (nw H H2):=λb o e=>by
 unfold nw at e ⊢;split at e
 ·rename_i z;rw [ue z];have hb:b∉as:=λy=>h b y z;exact Br _ _ (g.1 _ _ (by rw [X1 hb];exact e))
 ·cases e
theorem Zs {as:Le}{H H1 H2:Hp}{L L1:List iN}(h:lM H as L)(g:Rp as H H1 L1):fX (nw H1 H2) (nw H H2):=λb o e=>by
 unfold nw at e;split at e
 ·rename_i z;rw [Bu (g.fresh h z)];exact e
 ·cases e
theorem DE {as:Le}{H:Hp}{a:Addr}{o:HO}{L':List iN}(ha:a∈as)(h:lM (upd H a o) as L'):Rp as H (upd H a o) L':=⟨by rw [MP ha];exact fX.refl _,h⟩
structure rq (as:Le)(H H':Hp)(r:V)(L':List iN)(ps:List Pc):Prop where
 rp:Rp as H H' L'
 lie:∃ p fa da xs,r=.ref p/\H' p=some (.tup [.ref fa,.ref da])/\ic (nw H H') (.ls (iM ps)) (.ref fa)/\H' da=some (.lst xs)/\H p=none/\H da=none/\xs.length<=ik ps
structure oM (H:Hp)(pa:Addr)(as:Le)(L:List iN):Prop where
 at_:H pa=some (.lst (as.map .ref))
 out:pa∉as
 nd:as.Nodup
 lie:lM H as L
 mks:oe L
 two:L.length<=2
theorem oM.go {H H':Hp}{pa:Addr}{as:Le}{L L':List iN}{y:Option (Fw×Tx)}(h:oM H pa as L)(g:Rp as H H' L')(t:lI L L' y):oM H' pa as L':=⟨g.old h.out h.at_,h.out,h.nd,g.2,t.mkl h.mks,by have:=congrArg List.length t.eq;simp only [uk] at this;have:=h.two;lia⟩
theorem oM.mono {H H':Hp}{pa:Addr}{as:Le}{L:List iN}(h:oM H pa as L)(g:fX H H'):oM H' pa as L:=⟨g _ _ h.at_,h.out,h.nd,h.lie.mono g,h.mks,h.two⟩
def jL:Sp:=λvs H Q _=>∃ (wd:Fw) (mk kind:Tx),vs=[.str (S (Qm wd)),.str (S mk),.str (S kind)]/\Mk mk/\Kn kind/\∀ fa H',fX H H'->ic (nw H H') (.ls (iM (qJ wd mk kind))) (.ref fa)->Q (.ref fa) H'
def jh (d:Nat):Sp:=λvs H Q _=>∃ (c:Int) (kind:Tx) (pa:Addr) (as:Le) (L:List iN),vs=[.int c,.str (S kind),.int d,.ref pa]/\oM H pa as L/\Kn kind/\∀ r ps y L' H',rq as H H' r L' ps->iz d kind [] kind [] ps y->lI L L' y->oP d ps->Q r H'
def vK (d:Nat):Sp:=λvs H Q _=>∃ (c:Int) (kind:Tx) (pa:Addr) (as:Le) (L:List iN),vs=[.int c,.str (S kind),.int d,.ref pa]/\oM H pa as L/\Kn kind/\∀ r ps y L' H',rq as H H' r L' ps->iz d kind [] kind [] ps y->lI L L' y->oK d ps->Q r H'
def xu (d:Nat):Sp:=λvs H Q _=>∃ (c:Int) (lead kind close:Tx) (pa:Addr) (as:Le) (L:List iN),vs=[.int c,.str (S lead),.str (S kind),.str (S close),.int ((d+1:Nat):Int),.ref pa]/\oM H pa as L/\Kn kind/\∀ r ps y L' H',rq as H H' r L' (.lit lead::ps++[.lit close])->iz d kind [] kind [] ps y->lI L L' y->oP d ps->Q r H'
def j8 (d:Nat):Sp:=λvs H Q _=>∃ (c:Int) (kind:Tx) (pa:Addr) (as:Le) (L:List iN),vs=[.int c,.str (S kind),.int ((d+1:Nat):Int),.ref pa]/\oM H pa as L/\(kind=zE\/kind=xr)/\∀ r ps y L' H',rq as H H' r L' ps->iz (d+1) kind [] kind [] ps y->lI L L' y->oK (d+1) ps->Q r H'
def xw:Sp:=λvs H Q _=>∃ (c:Int) (pa:Addr) (as:Le) (L:List iN),vs=[.int c,.ref pa]/\oM H pa as L/\(∀ p∈L,p.1 > 0)/\∀ r ps z L' H',rq as H H' r L' ps->iz 3 zE [] zE [] ps z->(∀ p,z=some p->p∈L.map Prod.snd)->(z=none->L=[])->Bz 4 5900 19900 ps->Q r H'
def Qn (c:Int):Tx:=[[97],[97,98],[119,104,111],[98]].getD (iI c 2 4) []
def VO (c:Int):Tx:=[[98,108,111,99,107],[101,108,100,101,114],[100,114,97,119]].getD (iI c 3 3) []
def nR:List (Key×V):=[(.inr (S [116,101,120,116]),V.str (S [120,32,121,38,48,53,59])),(.inr (S [100,111,110,101]),V.str (S [32,99,61,34,121,34]))]
theorem MO (kind:Tx):(iU (wa [] nR) (.inr (S kind))).getD (V.str (S [122,48]))=tx (ot kind):=by
 have e:wa [] nR=nR:=by decide +kernel
 rw [e];unfold ot nR iU;by_cases h1:kind=zE
 ·subst h1;rfl
 ·rw [ub h1];by_cases h2:kind=xr
  ·subst h2;rfl
  ·rw [ub h2];have n1:¬ S [116,101,120,116]=S kind:=λz=>h1 (yq.mp z).symm;have n2:¬ S [100,111,110,101]=S kind:=λz=>h2 (yq.mp z).symm;simp [List.find?,n1,n2];rfl
theorem X2 {as:Le}{H Hi H':Hp}{L Li:List iN}{p:Addr}{o:HO}(h:lM H as L)(g:Rp as H Hi Li)(hp:Hi p=none)(e:H' p=some o):nw H H' p=some o:=by rw [Bu (g.fresh h hp)];exact e
theorem MN (c:Int):¬ Mk (Qn c)/\(Qn c).length<=9:=by
 unfold Qn;have:=Q7 (c:=c) (k:=2) (m:=4) (by decide);have key:∀ i:Fin 4,¬ Mk ([[97],[97,98],[119,104,111],[98]].getD i.1 [])/\([[97],[97,98],[119,104,111],[98]].getD i.1 ([]:Tx)).length<=9:=by unfold Mk;decide
 exact key ⟨iI c 2 4,by lia⟩
theorem rq.pre {as:Le}{H H1 H':Hp}{r:V}{L L':List iN}{ps:List Pc}(hl:lM H as L)(g:fX H H1)(h:rq as H1 H' r L' ps):rq as H H' r L' ps:=by obtain⟨rp,p,fa,da,xs,e1,e2,e3,e4,e5,e6,e7⟩:=h;exact⟨(Rp.same hl g).trans rp,p,fa,da,xs,e1,e2,e3.mono (Zs hl (Rp.same hl g)),e4,none_of g e5,none_of g e6,e7⟩
theorem JC {H:Hp}{p:Addr}{o o':HO}(hp:H p=none):fX H (upd (upd H p o) p o'):=λb u h=>by rw [zk (zv h hp),zk (zv h hp)];exact h
theorem kq {H Hi H':Hp}{p:Addr}{o:HO}(g:fX H Hi)(hp:Hi p=none)(e:H' p=some o):nw H H' p=some o:=by rw [Bu (none_of g hp)];exact e
theorem DD {H:Hp}{as:Le}{a:Addr}{c:Int}{wd:Fw}{mk:Tx}{A B:List iN}(h:lM H as (A++(c,wd,mk)::B))(hi:as[A.length]? = some a):H a=some (.lst [.int c,tx (Qm wd),tx mk]):=by
 induction A generalizing as with
 | nil=>cases h with | cons h _=>cases hi;exact h
 | cons p A ih=>cases h with | cons _ h=>exact ih h (by simpa using hi)
theorem Eo {H:Hp}{as:Le}{a:Addr}{c:Int}(c':Int){wd:Fw}{mk:Tx}{A B:List iN}(h:lM H as (A++(c,wd,mk)::B))(hi:as[A.length]? = some a)(nd:as.Nodup):lM (upd H a (.lst [.int c',tx (Qm wd),tx mk])) as (A++(c',wd,mk)::B):=by
 induction A generalizing as with
 | nil=>
  cases as with
  | nil=>cases h
  | cons b as=>cases hi;exact h.set (Ul.mp nd).1
 | cons p A ih=>
  cases h with
  | cons hb h=>refine .cons ?_ (ih h (by simpa using hi) (Ul.mp nd).2);rw [zk λz=>(Ul.mp nd).1 (by rw [z];exact uQ (i:=A.length) (by simpa using hi))];exact hb
theorem X3 {kd:Tx}{c:Int}{w:Fw}{m:Tx}:∀ (L:List iN),lP kd (L++[(c,w,m)])=((lP kd L).1++(if c - 1=0 then qJ w m kd else []),(lP kd L).2++[(c - 1,w,m)])
 | []=>by simp [lP]
 | (e,v,n)::L=>by simp only [uG,lP,X3 L,uC]
theorem En {kd:Tx}:∀ (L:List iN),(lP kd L).2.length=L.length
 | []=>rfl
 | (e,v,n)::L=>by simp only [lP,uo,En L]
theorem Em {c:Int}{w:Fw}{m:Tx}{L:List iN}{j:Nat}(h:L[j]? = some (c,w,m)):L.drop j=(c,w,m)::L.drop (j+1)/\L.take (j+1)=L.take j++[(c,w,m)]:=by obtain⟨h1,h2⟩:=ur.mp h;exact⟨by rw [uW h1,h2],by rw [gy,h];rfl⟩
theorem DC {as:Le}{j:Nat}{v:V}(h:(as.map V.ref)[j]? = some v):∃ a,as[j]? = some a/\v=.ref a:=by
 rw [Uk] at h;cases e:as[j]? with
 | none=>rw [e] at h;cases h
 | some a=>rw [e] at h;cases h;exact⟨a,rfl,rfl⟩
def lj (T:Ld):List V:=T.map λ(t:Nat)=>V.int t
def qK:Pc->List (Off×List Pc)
 | .lit _=>[]
 | .hole _=>[]
 | .each _ b=>[(([1],0),b)]
 | .ife _ a b=>[(([0],0),a),(([1],0),b)]
 | .seat _ _ _ b=>[(([],1),b)]
def Zt (mk:Tx):List (Off×List Pc)->Option Off
 | []=>none
 | (o,b)::r=>match zH mk b with
  | some q=>some (o.add q)
  | none=>Zt mk r
theorem El (mk:Tx)(p:Pc):qE mk p=if wV mk p=true then some ([],0) else Zt mk (qK p):=by
 cases p with
 | lit t=>simp [qE,qK,Zt]
 | hole t=>simp [qE,qK,Zt]
 | each x b=>simp only [qE,qK,Zt,wV];split<;>(try rfl);cases zH mk b<;>rfl
 | ife x a b=>simp only [qE,qK,Zt,wV];split<;>(try rfl);cases zH mk a<;>cases zH mk b<;>rfl
 | seat w x y b=>simp only [qE,qK,Zt,wV];split<;>(try rfl);cases zH mk b<;>rfl
def Zu (mk:Tx):List (Off×List Pc)->Option Tx
 | []=>none
 | (_,b)::r=>match qG mk b with
  | some q=>some q
  | none=>Zu mk r
theorem Ek (mk:Tx)(p:Pc)(h:∀ t,p=.lit t->lL mk t=false):xt mk p=Zu mk (qK p):=by
 cases p with
 | lit t=>simp [xt,qK,Zu,h t rfl]
 | hole t=>simp [xt,qK,Zu]
 | each x b=>simp only [xt,qK,Zu];cases qG mk b<;>rfl
 | ife x a b=>simp only [xt,qK,Zu];cases qG mk a<;>cases qG mk b<;>rfl
 | seat w x y b=>simp only [xt,qK,Zu];cases qG mk b<;>rfl
inductive oO (H:Hp):List V->List (Off×List Pc)->Prop
 | nil:oO H [] []
 | cons {p ta:Addr} {v:V} {o:Off} {b:List Pc} {vs:List V} {is:List (Off×List Pc)}:H p=some (.tup [.ref ta,.int o.2,v])->H ta=some (.lst (o.1.map λ(t:Nat)=>V.int t))->ic H (.ls (iM b)) v->oO H vs is->oO H (.ref p::vs) ((o,b)::is)
theorem oO.mono {H H':Hp}{vs:List V}{is:List (Off×List Pc)}(h:oO H vs is)(g:fX H H'):oO H' vs is:=by
 induction h with
 | nil=>exact .nil
 | cons a b c _ ih=>exact .cons (g _ _ a) (g _ _ b) (c.mono g) ih
theorem oO.get {H:Hp}{vs:List V}{is:List (Off×List Pc)}(h:oO H vs is){i:Nat}{v:V}(e:vs[i]? = some v):∃ p ta w o b,v=.ref p/\is[i]? = some (o,b)/\H p=some (.tup [.ref ta,.int (o:Off).2,w])/\H ta=some (.lst (o.1.map λ(t:Nat)=>V.int t))/\ic H (.ls (iM b)) w:=by
 induction h generalizing i with
 | nil=>simp at e
 | cons a b c _ ih=>
  cases i with
  | zero=>cases e;exact⟨_,_,_,_,_,rfl,rfl,a,b,c⟩
  | succ i=>exact ih (by simpa using e)
theorem oO.len {H:Hp}{vs:List V}{is:List (Off×List Pc)}(h:oO H vs is):vs.length=is.length:=by
 induction h with
 | nil=>rfl
 | cons _ _ _ _ ih=>simp [ih]
mutual
theorem Wq:∀ (p:Pc),(qD p).1.length<=iE p/\(qD p).2<=iE p
 | .lit _=>by simp [qD,iE]
 | .hole _=>by simp [qD,iE]
 | .each _ b=>by simp only [qD,iE,uw];omega
 | .ife _ a b=>by have:=xx a;simp only [qD,iE,uc,uw];omega
 | .seat _ _ _ b=>by have:=xx b;simp only [qD,iE];omega
theorem xx:∀ (ps:List Pc),(zu ps).1.length<=ik ps/\(zu ps).2<=ik ps
 | []=>by simp [zu,ik]
 | p::ps=>by have h1:=Wq p;have h2:=xx ps;simp only [zu,ik,Off.add,uc];omega
end
mutual
theorem RF:∀ (mk:Tx) (p:Pc) (r:Off),qE mk p=some r->r.1.length<=iE p
 | mk,.lit t,r,h=>by simp only [qE] at h;split at h<;>cases h;simp
 | mk,.hole t,r,h=>by simp only [qE] at h;split at h<;>cases h;simp
 | mk,.each x b,r,h=>by
  simp only [qE] at h;split at h
  ·cases h;simp
  ·obtain⟨q,hq,rfl⟩:=uT.mp h;have:=vo mk b q hq;simp only [Off.add,iE,uc,uw];lia
 | mk,.ife x a b,r,h=>by
  simp only [qE] at h;split at h
  ·cases h;simp
  ·cases ha:zH mk a with
   | some q=>rw [ha] at h;cases h;have:=vo mk a q ha;simp only [Off.add,iE,uc,uw];omega
   | none=>rw [ha] at h;obtain⟨q,hq,rfl⟩:=uT.mp h;have:=vo mk b q hq;simp only [Off.add,iE,uc,uw];omega
 | mk,.seat w x y b,r,h=>by
  simp only [qE] at h;split at h
  ·cases h;simp
  ·obtain⟨q,hq,rfl⟩:=uT.mp h;have:=vo mk b q hq;simp only [Off.add,iE,uc,UH];lia
theorem vo:∀ (mk:Tx) (ps:List Pc) (r:Off),zH mk ps=some r->r.1.length<=ik ps
 | mk,[],r,h=>by simp [zH] at h
 | mk,p::ps,r,h=>by
  simp only [zH] at h;cases hp:qE mk p with
  | some q=>rw [hp] at h;cases h;have:=RF mk p _ hp;simp only [ik];omega
  | none=>rw [hp] at h;obtain⟨q,hq,rfl⟩:=uT.mp h;have h1:=vo mk ps q hq;have h2:=(Wq p).1;simp only [Off.add,ik,uc];omega
end
def pW (d:Nat)(H:Hp)(pv:V)(ps:List Pc):Prop:=ic H (.ls (iM ps)) pv/\iQ.dpB ps<d/\ik ps<=10000
theorem pW.mono {d:Nat}{H H':Hp}{pv:V}{ps:List Pc}(h:pW d H pv ps)(g:fX H H'):pW d H' pv ps:=⟨h.1.mono g,h.2⟩
theorem WK {p:Pc}{o:Off}{b:List Pc}(h:(o,b)∈qK p):iQ.dpB b<iQ p/\ik b<=iE p/\o.1.length<=1/\o.2<=1:=by
 cases p<;>simp only [qK,uq,gQ,GO,Uz] at h
 ·obtain⟨rfl,rfl⟩:=h;simp only [iQ,iE,uw];lia
 ·rcases h with⟨rfl,rfl⟩ | ⟨rfl,rfl⟩<;>simp only [iQ,iE,uw]<;>lia
 ·obtain⟨rfl,rfl⟩:=h;simp only [iQ,iE,UH];lia
theorem YC:∀ {ps:List Pc} {p:Pc},p∈ps->iE p<=ik ps
 | q::ps,p,h=>by
  rcases uq.mp h with rfl | h
  ·simp only [ik];lia
  ·have:=YC h;simp only [ik];lia
def C9 (H:Hp)(v:V):Option Off->Prop
 | none=>v=.non
 | some r=>∃ p,v=.ref p/\nk H p r.1 r.2
def FT (v:V):Option Tx->Prop
 | none=>v=.non
 | some t=>v=tx t
def j3:Sp:=λvs H Q _=>∃ (pv:V) (p:Pc) (mk:Tx),vs=[pv,.str (S mk)]/\ic H (dP p) pv/\∀ H',fX H H'->Q (.bl (wV mk p)) H'
def jk:Sp:=λvs H Q _=>∃ (pv:V) (p:Pc),vs=[pv]/\ic H (dP p) pv/\∀ r xs H',fX H H'->H' r=some (.lst xs)->oO H' xs (qK p)->Q (.ref r) H'
def qk (d:Nat):Sp:=λvs H Q _=>∃ (pv:V) (ps:List Pc),vs=[pv]/\pW d H pv ps/\∀ r H',fX H H'->nk H' r (zu ps).1 (zu ps).2->Q (.ref r) H'
def qQ (d:Nat):Sp:=λvs H Q _=>∃ (pv:V) (ps:List Pc) (mk:Tx),vs=[pv,.str (S mk)]/\pW d H pv ps/\∀ v H',fX H H'->C9 H' v (zH mk ps)->Q v H'
def zY (d:Nat):Sp:=λvs H Q _=>∃ (pv:V) (ps:List Pc) (mk:Tx),vs=[pv,.str (S mk)]/\pW d H pv ps/\∀ v H',fX H H'->FT v (qG mk ps)->Q v H'
def yK:Sp:=λvs H Q _=>∃ (pv:V) (ps:List Pc) (wd:Fw) (mk kk:Tx) (r:Off),vs=[pv,.str (S (Qm wd)),.str (S mk)]/\pW 5 H pv ps/\zH mk ps=some r/\Mk mk/\Kn kk/\(wd=.astray->qG mk ps=some (lQ mk kk))/\∀ v H',fX H H'->ic H' (nZ (.error (mq wd mk (pV kk) r))) v->Q v H'
theorem Zl (f:Ft):lb (nZ (.error f))<=50:=by
 have h1:∀ T:Ld,xX (T.map λ(t:Nat)=>Dat.fl (V.int t))=0:=λT=>by
  induction T with
  | nil=>rfl
  | cons x l ih=>simp only [uz,xX,lb,ih];rfl
 have h2:∀ l:List Tx,xX (l.map ft)=0:=λl=>by
  induction l with
  | nil=>rfl
  | cons x l ih=>simp only [uz,xX,lb,ih];rfl
 cases f<;>simp [nZ,rb,lb,xX,h1,h2]
theorem MM {H:Hp}{f:Ft}{v:V}(h:ic H (nZ (.error f)) v):∃ x,v=.ref x:=by cases f<;>(obtain⟨x,_,e,_⟩:=h;exact⟨x,e⟩)
inductive It where
 | p (x:Pc)
 | o
def ma:It->Nat
 | .p x=>iE x
 | .o=>1
def lB:List It->Nat
 | []=>0
 | i::s=>ma i+lB s
theorem yL (a b:List It):lB (a++b)=lB a+lB b:=by
 induction a with
 | nil=>simp [lB]
 | cons i a ih=>simp only [uG,lB,ih];omega
def ij:List Pc->List It
 | []=>[]
 | p::ps=>.p p::ij ps
theorem xA:∀ ps:List Pc,lB (ij ps)=ik ps
 | []=>rfl
 | p::ps=>by simp only [ij,lB,ma,ik,xA ps]
def sQ (w n m:Tx):Dat:=.tp [ft [105,110,116,111],ft w,ft n,ft m]
def oF:Dat:=.tp [ft [111,117,116]]
def nv:Pc->Nat->List Pc
 | .each _ _,0=>[]
 | .each _ b,_+1=>b
 | .ife _ a _,0=>a
 | .ife _ _ b,_+1=>b
 | _,_=>[]
theorem Fp (n:Tx)(b:List Pc)(t:Nat):ik (nv (.each n b) t)<=ik b:=by cases t<;>simp [nv,ik]
theorem Ej (n:Tx)(a b:List Pc)(t:Nat):ik (nv (.ife n a b) t)<=ik a+ik b:=by cases t<;>simp [nv]
def oW:It->Ld->Option (List Dat×List It×Ld)
 | .o,T=>some ([oF],[],T)
 | .p (.lit t),T=>some ([dP (.lit t)],[],T)
 | .p (.hole t),T=>some ([dP (.hole t)],[],T)
 | .p (.seat w n m b),T=>some ([sQ w n m],ij b++[.o],T)
 | .p (.each n b),t::T=>some ([],ij (nv (.each n b) t),T)
 | .p (.ife n a b),t::T=>some ([],ij (nv (.ife n a b) t),T)
 | _,_=>none
theorem DB {i:It}{T:Ld}{r:List Dat×List It×Ld}(h:oW i T=some r):lB r.2.1<ma i:=by
 cases i with
 | o=>cases h;exact Gd
 | p x=>
  cases x with
  | lit t=>cases h;exact uu Gd (by simp [ma,iE])
  | hole t=>cases h;exact uu Gd (by simp [ma,iE])
  | seat w n m b=>cases h;simp only [yL,xA,lB,ma,iE];omega
  | each n b=>
   cases T with
   | nil=>cases h
   | cons t T=>cases h;have:=Fp n b t;simp only [xA,ma,iE];omega
  | ife n a b=>
   cases T with
   | nil=>cases h
   | cons t T=>cases h;have:=Ej n a b t;simp only [xA,ma,iE];omega
def outF:Nat->List It->Ld->List Dat
 | 0,_,_=>[]
 | _+1,[],_=>[]
 | n+1,i::s,T=>(oW i T).elim [] λr=>r.1++outF n (r.2.1++s) r.2.2
theorem Ei (i:It):0<ma i:=by
 cases i with
 | o=>exact Gd
 | p x=>cases x<;>simp only [ma,iE]<;>omega
theorem W6:∀ n m s T,lB s<=n->lB s<=m->outF n s T=outF m s T
 | 0,0,_,_,_,_=>rfl
 | 0,_+1,[],_,_,_=>rfl
 | _+1,0,[],_,_,_=>rfl
 | _+1,_+1,[],_,_,_=>rfl
 | 0,_,i::s,_,h,_=>absurd (uu (Ei i) (Nat.le_add_right _ _)) (gY.mpr h)
 | _,0,i::s,_,_,h=>absurd (uu (Ei i) (Nat.le_add_right _ _)) (gY.mpr h)
 | n+1,m+1,i::s,T,h,k=>by
  simp only [outF];cases e:oW i T with
  | none=>rfl
  | some r=>have l:=DB e;have h:ma i+lB s<=n+1:=h;have k:ma i+lB s<=m+1:=k;exact congrArg (r.1++·) (W6 n m _ _ (by rw [yL];omega) (by rw [yL];omega))
def out (s:List It)(T:Ld):List Dat:=outF (lB s) s T
theorem Zm {T:Ld}:out [] T=[]:=rfl
theorem Wr {i:It}{s:List It}{T:Ld}{r:List Dat×List It×Ld}(e:oW i T=some r):out (i::s) T=r.1++out (r.2.1++s) r.2.2:=by have l:=DB e;have h:out (i::s) T=outF (ma i+lB s+1) (i::s) T:=W6 _ _ _ _ (ui _) (UA _);rw [h];simp only [outF,e];exact congrArg (r.1++·) (W6 _ _ _ _ (by rw [yL];lia) (ui _))
theorem Eh {i:It}{s:List It}{T:Ld}(e:oW i T=none):out (i::s) T=[]:=by have h:out (i::s) T=outF (ma i+lB s+1) (i::s) T:=W6 _ _ _ _ (ui _) (UA _);rw [h];simp only [outF,e];rfl
theorem xP {n:Tx}{b:List Pc}{s:List It}:out (.p (.each n b)::s) []=[]:=Eh rfl
theorem yo {n:Tx}{a b:List Pc}{s:List It}:out (.p (.ife n a b)::s) []=[]:=Eh rfl
def xB:Sp:=λvs H Q _=>∃ (v:V) (x:Pc) (n:Tx) (B:Hp),vs=[v]/\fX B H/\ic B (dP x) v/\((∃ b,x=.each n b)\/∃ a b,x=.ife n a b)/\∀ p a0 a1 v0 v1 H',fX H H'->H' p=some (.tup [.ref a0,.ref a1])->H' a0=some (.lst v0)->H' a1=some (.lst v1)->iq B (iM (nv x 0)) v0->iq B (iM (nv x 1)) v1->(∀ D o,H D=some o->B D=none->a0≠D/\a1≠D)->Q (.ref p) H'
def ku:Sp:=λvs H Q _=>∃ (pa pl ta:Addr) (ps:List Pc) (T:Ld) (n:Nat),vs=[.ref pa,.ref pl]/\ic H (.ls (iM ps)) (.ref pa)/\H pl=some (.tup [.ref ta,.int n])/\H ta=some (.lst (T.map λ(t:Nat)=>V.int t))/\(∀ t∈T,t<2)/\T.length<=100000/\ik ps<=100000/\n<=100000 /\ ∀ D H',H D=none->fX H H'->ic H' (.ls ((out (ij ps) T).take n)) (.ref D)->Q (.ref D) H'
def C7 (H H':Hp)(v:V)(d:Dat):Prop:=ic H d v\/∃ (a:Addr) (ts:List Tx),v=.ref a/\H' a=some (.tup (ts.map tx))/\d=.tp (ts.map ft)
inductive nL (H H':Hp):List V->List Dat->Prop
 | nil:nL H H' [] []
 | cons {v:V} {d:Dat} {vs:List V} {ds:List Dat}:C7 H H' v d->nL H H' vs ds->nL H H' (v::vs) (d::ds)
def tY (H H':Hp):V->It->Prop
 | v,.p x=>ic H (dP x) v
 | v,.o=>∃ a,v=.ref a/\H' a=some (.tup [tx [111,117,116]])
inductive nI (H H':Hp):List V->List It->Prop
 | nil:nI H H' [] []
 | cons {v:V} {i:It} {vs:List V} {is:List It}:tY H H' v i->nI H H' vs is->nI H H' (v::vs) (i::is)
theorem YD {H H':Hp}:∀ {ps:List Pc} {vs:List V},iq H (iM ps) vs->nI H H' vs (ij ps)
 | [],vs,h=>by cases (show vs=[] from h);exact .nil
 | p::ps,vs,h=>by
  obtain⟨v,r,rfl,h1,h2⟩:=(by simpa only [iM] using h:iq H (dP p::iM ps) vs)
  exact .cons h1 (YD h2)
theorem iT.upd {H1:Hp}{D:Addr}{xs ys:List V}(h:H1 D=some (.lst xs)):iT H1 (upd H1 D (.lst ys)):=λb ts e=>by rw [zk (Kd e h (by intro z;cases z))];exact e
theorem nL.mono {H H1 H2:Hp}{vs:List V}{ds:List Dat}(h:nL H H1 vs ds)(g:iT H1 H2):nL H H2 vs ds:=by
 induction h with
 | nil=>exact .nil
 | cons h _ ih=>
  refine .cons ?_ ih;rcases h with h | ⟨a,ts,e,h,e2⟩
  ·exact .inl h
  ·exact .inr ⟨a,ts,e,g _ _ h,e2⟩
theorem nI.mono {H H1 H2:Hp}{vs:List V}{is:List It}(h:nI H H1 vs is)(g:iT H1 H2):nI H H2 vs is:=by
 induction h with
 | nil=>exact .nil
 | @cons v i _ _ h _ ih=>
  refine .cons ?_ ih;cases i with
  | p x=>exact h
  | o=>obtain⟨a,e,h⟩:=h;exact⟨a,e,g _ _ h⟩
theorem nL.snoc {H H1:Hp}{vs:List V}{ds:List Dat}{v:V}{d:Dat}(h:nL H H1 vs ds)(k:C7 H H1 v d):nL H H1 (vs++[v]) (ds++[d]):=by
 induction h with
 | nil=>exact .cons k .nil
 | cons h _ ih=>exact .cons h ih
theorem nL.len {H H1:Hp}{vs:List V}{ds:List Dat}(h:nL H H1 vs ds):vs.length=ds.length:=by
 induction h with
 | nil=>rfl
 | cons _ _ ih=>simp [ih]
theorem nI.app {H H1:Hp}{vs us:List V}{is js:List It}(h:nI H H1 vs is)(k:nI H H1 us js):nI H H1 (vs++us) (is++js):=by
 induction h with
 | nil=>exact k
 | cons h _ ih=>exact .cons h ih
theorem nI.len {H H1:Hp}{vs:List V}{is:List It}(h:nI H H1 vs is):vs.length=is.length:=by
 induction h with
 | nil=>rfl
 | cons _ _ ih=>simp [ih]
theorem nL.ds {H H1:Hp}{vs:List V}{ds:List Dat}(h:nL H H1 vs ds)(g:fX H H1):iq H1 ds vs:=by
 induction h with
 | nil=>rfl
 | cons h _ ih=>
  refine⟨_,_,rfl,?_,ih⟩;rcases h with h | ⟨a,ts,e,h,e2⟩
  ·exact h.mono g
  ·subst e2;exact⟨a,_,e,h,jR ts⟩
theorem FC {K:Lf}{H:Hp}{D:Addr}(h:H D=some (.lst [])):nW K (.ref D) H false:=.inl ⟨[],iA.of h,rfl⟩
theorem sW {K:Lf}{H:Hp}{D:Addr}{xs:List V}{v:V}(h:H D=some (.lst (xs++[v]))):nW K (.ref D) H true:=.inl ⟨_,iA.of h,by simp⟩
theorem ML (x:Pc):1<=iE x:=by cases x<;>simp only [iE]<;>lia
theorem Qe:∀ st:List It,st.length<=lB st
 | []=>ui _
 | .o::st=>by have:=Qe st;simp only [uo,lB,ma];omega
 | .p x::st=>by have:=Qe st;have:=ML x;simp only [uo,lB,ma];omega
theorem YE:∀ ps:List Pc,(ij ps).length=ps.length
 | []=>rfl
 | _::ps=>by simp only [ij,uo,YE ps]
inductive Th where
 | lit (t:Tx)
 | hole (t:Tx)
 | into (w n m:Tx)
 | out
def nG:Th->Dat
 | .lit t=>dP (.lit t)
 | .hole t=>dP (.hole t)
 | .into w n m=>sQ w n m
 | .out=>oF
inductive Rn:MS->List (List Tx)->List Th->MS->List (List Tx)->Prop
 | nil {s:MS} {a:List (List Tx)}:Rn s a [] s a
 | lit {s s' z:MS} {a b:List (List Tx)} {t:Tx} {es:List Ev} {r:List Th}:runM s t=.ok (s',es)->s.word.length<=8->s.opens.length+t.length<=100000->Rn s' a r z b->Rn s a (.lit t::r) z b
 | hole {s z:MS} {a b:List (List Tx)} {t:Tx} {r:List Th}:Rn s a r z b->Rn s a (.hole t::r) z b
 | into {s z:MS} {a b:List (List Tx)} {w n m:Tx} {r:List Th}:Rn { s with opens:=[] } (s.opens::a) r z b->Rn s a (.into w n m::r) z b
 | out {s z:MS} {o:List Tx} {a b:List (List Tx)} {r:List Th}:o.length+s.opens.length<=100000->Rn { s with opens:=o++s.opens } a r z b->Rn s (o::a) (.out::r) z b
theorem Rn.app {s1 s2 s3:MS}{a1 a2 a3:List (List Tx)}{x y:List Th}(h:Rn s1 a1 x s2 a2)(k:Rn s2 a2 y s3 a3):Rn s1 a1 (x++y) s3 a3:=by
 induction h with
 | nil=>exact k
 | lit e1 e2 e3 _ ih=>exact .lit e1 e2 e3 (ih k)
 | hole _ ih=>exact .hole (ih k)
 | into _ ih=>exact .into (ih k)
 | out e _ ih=>exact .out e (ih k)
def Dj (H:Hp)(v:V)(o:List Tx):Prop:=∃ a,v=.ref a/\mD H a o
inductive nN (H:Hp):List V->List (List Tx)->Prop
 | nil:nN H [] []
 | cons {v:V} {o:List Tx} {vs:List V} {os:List (List Tx)}:Dj H v o->nN H vs os->nN H (v::vs) (o::os)
theorem nN.mono {H H':Hp}{vs:List V}{os:List (List Tx)}(h:nN H vs os)(g:iT H H'):nN H' vs os:=by
 induction h with
 | nil=>exact .nil
 | cons h _ ih=>obtain⟨a,e,h⟩:=h;exact .cons ⟨a,e,g _ _ h⟩ ih
theorem nN.snoc {H:Hp}{vs:List V}{os:List (List Tx)}{v:V}{o:List Tx}(h:nN H vs os)(k:Dj H v o):nN H (vs++[v]) (os++[o]):=by
 induction h with
 | nil=>exact .cons k .nil
 | cons h _ ih=>exact .cons h ih
theorem nN.unsnoc {H:Hp}{o:List Tx}:∀ {os:List (List Tx)} {ws:List V},nN H ws (os++[o])->∃ vs v,ws=vs++[v]/\nN H vs os/\Dj H v o
 | [],_,.cons h t=>by cases t;exact⟨[],_,rfl,.nil,h⟩
 | _::_,_,.cons h t=>by obtain⟨vs,v,rfl,h1,h2⟩:=nN.unsnoc t;exact⟨_::vs,v,rfl,.cons h h1,h2⟩
def vp:Sp:=λvs H Q _=>∃ (pa pl ta:Addr) (ps:List Pc) (T:Ld) (n:Nat) (A:List Th) (s:MS) (a:List (List Tx)),vs=[.ref pa,.ref pl]/\ic H (.ls (iM ps)) (.ref pa)/\H pl=some (.tup [.ref ta,.int n])/\H ta=some (.lst (T.map λ(t:Nat)=>V.int t))/\(∀ t∈T,t<2)/\T.length<=100000/\ik ps<=100000/\n<=100000 /\ (out (ij ps) T).take n=A.map nG/\A.length<=10000/\Rn mG [] A s a/\∀ v H',fX H H'->lW H' v s->Q v H'
def Nx (s:MS)(a:List (List Tx))(h:Th)(s':MS)(a':List (List Tx)):Prop:=match h with
 | .lit t=>(∃ es,runM s t=.ok (s',es))/\s.word.length<=8/\s.opens.length+t.length<=100000/\a' = a
 | .hole _=>s' = s/\a' = a
 | .into _ _ _=>s' = { s with opens:=[] }/\a' = s.opens::a
 | .out=>∃ o,a=o::a'/\o.length+s.opens.length<=100000/\s' = { s with opens:=o++s.opens }
theorem Rn.nx {s z:MS}{a b:List (List Tx)}{h:Th}{r:List Th}(k:Rn s a (h::r) z b):∃ s' a',Nx s a h s' a'/\Rn s' a' r z b:=by
 cases k with
 | lit e1 e2 e3 k=>exact⟨_,_,⟨⟨_,e1⟩,e2,e3,rfl⟩,k⟩
 | hole k=>exact⟨_,_,⟨rfl,rfl⟩,k⟩
 | into k=>exact⟨_,_,⟨rfl,rfl⟩,k⟩
 | out e k=>exact⟨_,_,⟨_,rfl,e,rfl⟩,k⟩
theorem vL {t:Tx}{s:List It}{T:Ld}:out (.p (.lit t)::s) T=dP (.lit t)::out s T:=by have h:=Wr (s:=s) (show oW (.p (.lit t)) T=some _ from rfl);exact h
theorem xC {t:Tx}{s:List It}{T:Ld}:out (.p (.hole t)::s) T=dP (.hole t)::out s T:=by have h:=Wr (s:=s) (show oW (.p (.hole t)) T=some _ from rfl);exact h
theorem wz {w n m:Tx}{b:List Pc}{s:List It}{T:Ld}:out (.p (.seat w n m b)::s) T=sQ w n m::out (ij b++.o::s) T:=by rw [Wr rfl];simp only [uC,uG,Ue]
theorem WL {s:List It}{T:Ld}:out (.o::s) T=oF::out s T:=by have h:=Wr (s:=s) (show oW (.o) T=some _ from rfl);exact h
theorem xD {n:Tx}{b:List Pc}{t:Nat}{s:List It}{T:Ld}:out (.p (.each n b)::s) (t::T)=out (ij (nv (.each n b) t)++s) T:=by have h:=Wr (s:=s) (show oW (.p (.each n b)) (t::T)=some _ from rfl);exact h
theorem vM {n:Tx}{a b:List Pc}{t:Nat}{s:List It}{T:Ld}:out (.p (.ife n a b)::s) (t::T)=out (ij (nv (.ife n a b) t)++s) T:=by have h:=Wr (s:=s) (show oW (.p (.ife n a b)) (t::T)=some _ from rfl);exact h
def mB (is:List It)(o:Off)(s e:MS):Prop:=∃ A:List Th,(∀ st T,out (is++st) (o.1++T)=A.map nG++out st T)/\A.length=o.2/\∀ a,Rn s a A e a
theorem mB.nil {s:MS}:mB [] ([],0) s s:=⟨[],λ_ _=>rfl,rfl,λ_=>.nil⟩
theorem mB.app {is js:List It}{o q:Off}{s e z:MS}(h:mB is o s e)(k:mB js q e z):mB (is++js) (o.add q) s z:=by obtain⟨A,h1,h2,h3⟩:=h;obtain⟨B,k1,k2,k3⟩:=k;refine⟨A++B,λst T=>?_,by rw [uc,h2,k2];rfl,λa=>(h3 a).app (k3 a)⟩;show out (is++js++st) (o.1++q.1++T)=_;rw [uC,uC,h1,k1,UG,uC]
def Met (is:List It)(x:mi)(T1:Ld)(n1:Nat)(s1:MS)(X:List Dat->Prop):Prop:=∃ (T':Ld) (A:List Th),T1=x.T++T'/\n1=x.n+A.length/\(∀ st,∃ R,X R/\out (is++st) T' = A.map nG++R)/\∀ a,∃ a',Rn x.s a A s1 a'
theorem Met.hd {is js:List It}{x:mi}{T1:Ld}{n1:Nat}{s1:MS}{X:List Dat->Prop}(h:Met is x T1 n1 s1 X):Met (is++js) x T1 n1 s1 X:=by obtain⟨T',A,h1,h2,h3,h4⟩:=h;exact⟨T',A,h1,h2,λst=>by rw [uC];exact h3 (js++st),h4⟩
theorem Met.tl {is js:List It}{o:Off}{x e:mi}{T1:Ld}{n1:Nat}{s1:MS}{X:List Dat->Prop}(k:mB is o x.s e.s)(hT:e.T=x.T++o.1)(hn:e.n=x.n+o.2)(h:Met js e T1 n1 s1 X):Met (is++js) x T1 n1 s1 X:=by
 obtain⟨T',A,h1,h2,h3,h4⟩:=h;obtain⟨B,k1,k2,k3⟩:=k;refine⟨o.1++T',B++A,by rw [h1,hT,uC],by rw [h2,hn,uc,k2,UZ],λst=>?_,λa=>?_⟩
 ·obtain⟨R,hR,e⟩:=h3 st;exact⟨R,hR,by rw [uC,k1,e,UG,uC]⟩
 ·obtain⟨a',h⟩:=h4 a;exact⟨a',(k3 a).app h⟩
theorem Met.each {nm:Tx}{b:List Pc}{s:MS}{T:Ld}{n:Nat}{T1:Ld}{n1:Nat}{s1:MS}{X:List Dat->Prop}(h:Met (ij b) ⟨s,T++[1],n⟩ T1 n1 s1 X):Met [.p (.each nm b)] ⟨s,T,n⟩ T1 n1 s1 X:=by obtain⟨T',A,h1,h2,h3,h4⟩:=h;refine⟨1::T',A,by rw [h1,uC];rfl,h2,λst=>?_,h4⟩;obtain⟨R,hR,e⟩:=h3 st;exact⟨R,hR,by rw [← e];exact xD⟩
theorem Met.ife {nm:Tx}{a b:List Pc}{s:MS}{T:Ld}{n:Nat}{t:Nat}{T1:Ld}{n1:Nat}{s1:MS}{X:List Dat->Prop}(h:Met (ij (nv (.ife nm a b) t)) ⟨s,T++[t],n⟩ T1 n1 s1 X):Met [.p (.ife nm a b)] ⟨s,T,n⟩ T1 n1 s1 X:=by obtain⟨T',A,h1,h2,h3,h4⟩:=h;refine⟨t::T',A,by rw [h1,uC];rfl,h2,λst=>?_,h4⟩;obtain⟨R,hR,e⟩:=h3 st;exact⟨R,hR,by rw [← e];exact vM⟩
theorem Met.seat {w n m:Tx}{b:List Pc}{s:MS}{T:Ld}{k:Nat}{T1:Ld}{n1:Nat}{s1:MS}{X:List Dat->Prop}(h:Met (ij b) ⟨mR s,T,k+1⟩ T1 n1 s1 X):Met [.p (.seat w n m b)] ⟨s,T,k⟩ T1 n1 s1 X:=by
 obtain⟨T',A,h1,h2,h3,h4⟩:=h;refine⟨T',.into w n m::A,h1,by rw [h2,uo];simp only [];lia,λst=>?_,λa=>?_⟩
 ·obtain⟨R,hR,e⟩:=h3 (.o::st);exact⟨R,hR,by show out (.p (.seat w n m b)::st) T' = _;rw [wz,e];rfl⟩
 ·obtain⟨a',h⟩:=h4 (s.opens::a);exact⟨a',.into h⟩
theorem Met.of {is:List It}{o:Off}{x e:mi}(k:mB is o x.s e.s)(hT:e.T=x.T++o.1)(hn:e.n=x.n+o.2):Met is x e.T e.n e.s λ_=>True:=by obtain⟨B,k1,k2,k3⟩:=k;exact⟨o.1,B,hT,by rw [hn,k2],λst=>⟨out st [],trivial,by have:=k1 st [];rwa [uj] at this⟩,λa=>⟨a,k3 a⟩⟩
def sH (is:List It)(x:mi):Ft->Prop
 | .astray T n b=>∃ t s,Met is x T n s (λR=>∃ R',R=dP (.lit t)::R')/\runM s t=.error b/\s.word.length<=8/\s.opens.length+t.length<=100000
 | .noplace nm T n=>∃ s,Met is x T n s (λR=>∃ R',R=dP (.hole nm)::R')/\ka s=none
 | .unlike _ T n T2 n2=>∃ s s2,Met is x T n s (λ_=>True)/\Met is x T2 n2 s2 (λ_=>True)/\s≠s2
 | .left _ _=>True
theorem sH.map {is js:List It}{x y:mi}{f:Ft}(h:∀ T1 n1 s1 X,Met is x T1 n1 s1 X->Met js y T1 n1 s1 X)(k:sH is x f):sH js y f:=by
 cases f with
 | astray T n b=>obtain⟨t,s,m,r⟩:=k;exact⟨t,s,h _ _ _ _ m,r⟩
 | noplace nm T n=>obtain⟨s,m,r⟩:=k;exact⟨s,h _ _ _ _ m,r⟩
 | unlike w T n T2 n2=>obtain⟨s,s2,m,m2,r⟩:=k;exact⟨s,s2,h _ _ _ _ m,h _ _ _ _ m2,r⟩
 | left T n=>trivial
theorem SB.mR {s:MS}{N:Nat}(h:SB s N):SB (mR s) N:=⟨h.1,uZ _⟩
mutual
theorem BK:∀ (p:Pc) (x:mi) (N:Nat),SB x.s N->N+l9 p<=100000->(∀ e h,z9 p x=.ok (e,h)->mB [.p p] (qD p) x.s e.s/\SB e.s (N+l9 p))/\∀ f,z9 p x=.error f->sH [.p p] x f
 | .lit t,x,N,hs,hN=>by
  simp only [z9,l9] at hN ⊢;cases hr:runM x.s t with
  | ok r=>obtain⟨l1,l2,_⟩:=Fb hr hs.1;have h2:=hs.2;refine⟨λe h q=>?_,λf q=>by cases q⟩;cases q;exact⟨⟨[.lit t],λst T=>vL,rfl,λa=>.lit (es:=r.2) (by rw [hr]) hs.1 (by omega) .nil⟩,l1,by simp only [];omega⟩
  | error b=>refine⟨λe h q=>(by cases q),λf q=>?_⟩;cases q;have h2:=hs.2;exact⟨t,x.s,⟨[],[],(uj _).symm,rfl,λst=>⟨_,⟨_,rfl⟩,vL⟩,λa=>⟨a,.nil⟩⟩,hr,hs.1,by omega⟩
 | .hole t,x,N,hs,hN=>by
  simp only [z9,l9] at hN ⊢;cases hr:ka x.s with
  | some r=>refine⟨λe h q=>?_,λf q=>by cases q⟩;cases q;exact⟨⟨[.hole t],λst T=>xC,rfl,λa=>.hole .nil⟩,hs⟩
  | none=>refine⟨λe h q=>(by cases q),λf q=>?_⟩;cases q;exact⟨x.s,⟨[],[],(uj _).symm,rfl,λst=>⟨_,⟨_,rfl⟩,xC⟩,λa=>⟨a,.nil⟩⟩,hr⟩
 | .each n b,x,N,hs,hN=>by
  simp only [z9,l9] at hN ⊢;obtain⟨i1,i2⟩:=nA b ⟨x.s,x.T++[1],x.n⟩ N hs hN;cases hr:zy b ⟨x.s,x.T++[1],x.n⟩ with
  | error f=>refine⟨λe h q=>(by cases q),λf' q=>?_⟩;cases q;exact(i2 f hr).map λ_ _ _ _ m=>Met.each m
  | ok r=>
   obtain⟨k1,k2⟩:=i1 r.1 r.2 hr;obtain⟨p1,p2⟩:=wN b _ r.1 r.2 hr;refine⟨λe h q=>?_,λf q=>?_⟩
   ·simp only [] at q;split at q
    ·cases q;exact⟨⟨[],λst T=>by show out (.p (.each n b)::st) (0::T)=_;rw [xD];rfl,rfl,λa=>.nil⟩,hs.1,by have:=hs.2;simp only [];lia⟩
    ·cases q
   ·simp only [] at q;split at q
    ·cases q
    ·rename_i hz;cases q;exact⟨x.s,r.1.s,⟨[0],[],rfl,rfl,λst=>⟨_,trivial,rfl⟩,λa=>⟨a,.nil⟩⟩,Met.each (Met.of (o:=zu b) (x:=⟨x.s,x.T++[1],x.n⟩) k1 p1 p2),λz=>hz z.symm⟩
 | .ife n a b,x,N,hs,hN=>by
  simp only [z9,l9] at hN ⊢;obtain⟨i1,i2⟩:=nA a ⟨x.s,x.T++[0],x.n⟩ N hs (by lia);obtain⟨j1,j2⟩:=nA b ⟨x.s,x.T++[1],x.n⟩ N hs (by lia);cases hr:zy a ⟨x.s,x.T++[0],x.n⟩ with
  | error f=>refine⟨λe h q=>(by cases q),λf' q=>?_⟩;cases q;exact(i2 f hr).map λ_ _ _ _ m=>Met.ife (t:=0) m
  | ok r=>
   obtain⟨k1,k2⟩:=i1 r.1 r.2 hr;obtain⟨p1,p2⟩:=wN a _ r.1 r.2 hr;cases hr2:zy b ⟨x.s,x.T++[1],x.n⟩ with
   | error f=>refine⟨λe h q=>(by cases q),λf' q=>?_⟩;cases q;exact(j2 f hr2).map λ_ _ _ _ m=>Met.ife (t:=1) m
   | ok r2=>
    obtain⟨m1,m2⟩:=j1 r2.1 r2.2 hr2;obtain⟨q1,q2⟩:=wN b _ r2.1 r2.2 hr2;refine⟨λe h q=>?_,λf q=>?_⟩
    ·simp only [] at q;split at q
     ·cases q;obtain⟨A,u1,u2,u3⟩:=k1;exact⟨⟨A,λst T=>by show out (.p (.ife n a b)::st) (0::((zu a).1++T))=_;rw [vM];exact u1 st T,u2,u3⟩,k2.1,by have:=k2.2;lia⟩
     ·cases q
    ·simp only [] at q;split at q
     ·cases q
     ·rename_i hz;cases q;exact⟨r.1.s,r2.1.s,Met.ife (t:=0) (Met.of (o:=zu a) (x:=⟨x.s,x.T++[0],x.n⟩) k1 p1 p2),Met.ife (t:=1) (Met.of (o:=zu b) (x:=⟨x.s,x.T++[1],x.n⟩) m1 q1 q2),hz⟩
 | .seat w n m b,x,N,hs,hN=>by
  simp only [z9,l9] at hN ⊢;obtain⟨i1,i2⟩:=nA b ⟨mR x.s,x.T,x.n+1⟩ N hs.mR hN;cases hr:zy b ⟨mR x.s,x.T,x.n+1⟩ with
  | error f=>refine⟨λe h q=>(by cases q),λf' q=>?_⟩;cases q;exact(i2 f hr).map λ_ _ _ _ m=>Met.seat m
  | ok r=>
   obtain⟨k1,k2⟩:=i1 r.1 r.2 hr;obtain⟨p1,p2⟩:=wN b _ r.1 r.2 hr;refine⟨λe h q=>?_,λf q=>?_⟩
   ·simp only [] at q;split at q
    ·rename_i hz;cases q;obtain⟨A,u1,u2,u3⟩:=k1;rw [hz] at u3;refine⟨⟨(Th.into w n m::A)++[Th.out],λst T=>?_,?_,λa=>?_⟩,hs.1,by have:=hs.2;simp only [];lia⟩
     ·show out (.p (.seat w n m b)::st) ((zu b).1++T)=_;rw [wz,u1,WL];simp [nG]
     ·show(Th.into w n m::A++[Th.out]).length=2+(zu b).2;simp [u2];lia
     ·have h2:=hs.2;refine .into ((u3 (x.s.opens::a)).app (.out ?_ ?_))
      ·show x.s.opens.length+0<=_;lia
      ·have:({ mR x.s with opens:=x.s.opens++(mR x.s).opens }:MS)=x.s:=by simp [mR]
       rw [this];exact .nil
    ·cases q
   ·simp only [] at q;split at q
    ·cases q
    ·rename_i hz;cases q;exact⟨mR x.s,r.1.s,⟨[],[.into w n m],(uj _).symm,rfl,λst=>⟨_,trivial,by show out (.p (.seat w n m b)::st) []=_;rw [wz];rfl⟩,λa=>⟨_,.into .nil⟩⟩,Met.seat (Met.of (o:=zu b) (x:=⟨mR x.s,x.T,x.n+1⟩) k1 p1 p2),λz=>hz z.symm⟩
theorem nA:∀ (ps:List Pc) (x:mi) (N:Nat),SB x.s N->N+iD ps<=100000->(∀ e h,zy ps x=.ok (e,h)->mB (ij ps) (zu ps) x.s e.s/\SB e.s (N+iD ps))/\∀ f,zy ps x=.error f->sH (ij ps) x f
 | [],x,N,hs,hN=>by simp only [zy];refine⟨λe h q=>?_,λf q=>by cases q⟩;cases q;exact⟨.nil,hs.1,by have:=hs.2;omega⟩
 | p::ps,x,N,hs,hN=>by
  simp only [zy,iD] at hN ⊢;obtain⟨i1,i2⟩:=BK p x N hs (by lia);cases hr:z9 p x with
  | error f=>refine⟨λe h q=>(by cases q),λf' q=>?_⟩;cases q;exact(i2 f hr).map λ_ _ _ _ m=>m.hd
  | ok r=>
   obtain⟨k1,k2⟩:=i1 r.1 r.2 hr;obtain⟨p1,p2⟩:=XZ p x r.1 r.2 hr;obtain⟨j1,j2⟩:=nA ps r.1 (N+l9 p) k2 (by lia);cases hr2:zy ps r.1 with
   | error f=>refine⟨λe h q=>(by simp only [hr2] at q;cases q),λf' q=>?_⟩;simp only [hr2] at q;cases q;exact(j2 f hr2).map λ_ _ _ _ m=>Met.tl k1 p1 p2 m
   | ok r2=>obtain⟨m1,m2⟩:=j1 r2.1 r2.2 hr2;refine⟨λe h q=>?_,λf q=>(by simp only [hr2] at q;cases q)⟩;simp only [hr2] at q;cases q;exact⟨k1.app m1,m2.1,by have:=m2.2;omega⟩
end
mutual
theorem VP:∀ (p:Pc),∀ t∈(qD p).1,t<2
 | .lit _,t,h=>by simp [qD] at h
 | .hole _,t,h=>by simp [qD] at h
 | .each _ _,t,h=>by simp only [qD,uD] at h;omega
 | .ife _ a _,t,h=>by
  simp only [qD,u6,uD] at h;rcases h with h | h
  ·lia
  ·exact JD a t h
 | .seat _ _ _ b,t,h=>by simp only [qD] at h;exact JD b t h
theorem JD:∀ (ps:List Pc),∀ t∈(zu ps).1,t<2
 | [],t,h=>by simp [zu] at h
 | p::ps,t,h=>by
  simp only [zu,Off.add,u6] at h;rcases h with h | h
  ·exact VP p t h
  ·exact JD ps t h
end
mutual
theorem RE:∀ (mk:Tx) (p:Pc) (r:Off),qE mk p=some r->(∀ t∈r.1,t<2)/\r.2<=iE p
 | mk,.lit t,r,h=>by simp only [qE] at h;split at h<;>cases h;simp
 | mk,.hole t,r,h=>by simp only [qE] at h;split at h<;>cases h;simp
 | mk,.each x b,r,h=>by
  simp only [qE] at h;split at h
  ·cases h;simp
  ·obtain⟨q,hq,rfl⟩:=uT.mp h;obtain⟨h1,h2⟩:=ky mk b q hq;refine⟨λt ht=>?_,by simp only [Off.add,iE];lia⟩;simp only [Off.add,u6,uD] at ht;rcases ht with ht | ht
   ·lia
   ·exact h1 t ht
 | mk,.ife x a b,r,h=>by
  simp only [qE] at h;split at h
  ·cases h;simp
  ·cases ha:zH mk a with
   | some q=>
    rw [ha] at h;cases h;obtain⟨h1,h2⟩:=ky mk a q ha;refine⟨λt ht=>?_,by simp only [Off.add,iE];lia⟩;simp only [Off.add,u6,uD] at ht;rcases ht with ht | ht
    ·lia
    ·exact h1 t ht
   | none=>
    rw [ha] at h;obtain⟨q,hq,rfl⟩:=uT.mp h;obtain⟨h1,h2⟩:=ky mk b q hq;refine⟨λt ht=>?_,by simp only [Off.add,iE];lia⟩;simp only [Off.add,u6,uD] at ht;rcases ht with ht | ht
    ·lia
    ·exact h1 t ht
 | mk,.seat w x y b,r,h=>by
  simp only [qE] at h;split at h
  ·cases h;simp
  ·obtain⟨q,hq,rfl⟩:=uT.mp h;obtain⟨h1,h2⟩:=ky mk b q hq;exact⟨λt ht=>h1 t (by simpa [Off.add] using ht),by simp only [Off.add,iE];lia⟩
theorem ky:∀ (mk:Tx) (ps:List Pc) (r:Off),zH mk ps=some r->(∀ t∈r.1,t<2)/\r.2<=ik ps
 | mk,[],r,h=>by simp [zH] at h
 | mk,p::ps,r,h=>by
  simp only [zH] at h;cases hp:qE mk p with
  | some q=>rw [hp] at h;cases h;obtain⟨h1,h2⟩:=RE mk p _ hp;exact⟨h1,by simp only [ik];omega⟩
  | none=>
   rw [hp] at h;obtain⟨q,hq,rfl⟩:=uT.mp h;obtain⟨h1,h2⟩:=ky mk ps q hq;have h3:=Wq p;refine⟨λt ht=>?_,by simp only [Off.add,ik];lia⟩;rcases u6.mp ht with ht | ht
   ·exact VP p t ht
   ·exact h1 t ht
end
theorem sX:SB mG 0:=⟨by decide,by decide⟩
theorem MK {ps:List Pc}{f:Ft}(h:qP ps=.error f)(hn:∀ T n,f≠.left T n)(hb:iD ps<=50000):sH (ij ps) ⟨mG,[],0⟩ f:=by
 unfold qP at h;cases hl:zy ps ⟨mG,[],0⟩ with
 | error g=>rw [hl] at h;cases h;exact(nA ps _ 0 sX (by omega)).2 _ hl
 | ok r=>
  rw [hl] at h;simp only [] at h;split at h
  ·cases h
  ·cases h;exact absurd rfl (hn _ _)
structure AtP (ps:List Pc)(T:Ld)(n:Nat)(s:MS)(X:List Dat->Prop):Prop where
 ex:∃ (A:List Th) (R:List Dat) (a:List (List Tx)),A.length=n/\out (ij ps) T=A.map nG++R/\X R/\Rn mG [] A s a
theorem Met.at' {ps:List Pc}{T:Ld}{n:Nat}{s:MS}{X:List Dat->Prop}(h:Met (ij ps) ⟨mG,[],0⟩ T n s X):AtP ps T n s X:=by obtain⟨T',A,h1,h2,h3,h4⟩:=h;obtain⟨R,hR,e⟩:=h3 [];obtain⟨a,k⟩:=h4 [];rw [uj] at e;rw [Ue] at h1;subst h1;exact⟨A,R,a,by rw [h2,Nat.zero_add],e,hR,k⟩
def yM:Sp:=λvs H Q _=>∃ (pa da:Addr) (ps:List Pc) (w:List Tx) (T:Ld) (n:Nat) (T2:Ld) (n2:Nat),vs=[.ref pa,.ref da]/\pW 5 H (.ref pa) ps/\ic H (nZ (.error (.unlike w T n T2 n2))) (.ref da)/\(∀ t∈T,t<2)/\T.length<=10001/\n<=10000/\(∀ t∈T2,t<2)/\T2.length<=10001/\n2<=10000/\sH (ij ps) ⟨mG,[],0⟩ (.unlike w T n T2 n2)/\∀ H',fX H H'->Q (.bl true) H'
def xW:Sp:=λvs H Q _=>∃ (c:Int) (wd:Fw),vs=[.int c,.str (S (Qm wd))]/\(wd=.ife\/wd=.each\/wd=.seat)/\∀ H',fX H H'->Q (.bl true) H'
def vN:Sp:=λvs H Q _=>∃ (c:Int),vs=[.int c]/\∀ H',fX H H'->Q (.bl true) H'
theorem Eg {H:Hp}:∀ {T:Ld} {vs:List V},iq H (T.map λ(t:Nat)=>Dat.fl (.int (t:Int))) vs->vs=T.map λ(t:Nat)=>V.int (t:Int)
 | [],vs,h=>h
 | t::T,vs,h=>by obtain⟨v,r,rfl,⟨rfl,_⟩,k⟩:=h;rw [Eg k];rfl
theorem Dw {H:Hp}{v:V}{T:Ld}{n:Nat}(h:ic H (rb T n) v):∃ p,v=.ref p/\nk H p T n:=by obtain⟨p,vs,rfl,hp,v0,r0,rfl,hl,v1,r1,rfl,⟨rfl,_⟩,rfl⟩:=h;obtain⟨l,ws,rfl,hl2,hw⟩:=hl;exact⟨p,rfl,l,hp,by rw [← Eg hw];exact hl2⟩
def rf:List Tx:=[[60,117,62],[38],[60,117],[60,117,32,98,61,34,99,34,32],[60,97,115,105,115,62,60,47]]
theorem DA:∀ t∈rf,(∃ s' es,runM (sK zE []) t=.ok (s',es)/\s'≠mG)/\t.length<=9:=by intro t ht;simp only [rf,uq,gQ,GO] at ht;rcases ht with rfl | rfl | rfl | rfl | rfl<;>exact⟨⟨_,_,rfl,by decide⟩,by decide⟩
theorem MJ {ps:List Pc}(h:t8 3 zE ps){t:Tx}(ht:t∈rf)(hb:iD (ps++[.lit t])<=50000):qP (ps++[.lit t])=.error (.left (zu (ps++[.lit t])).1 (zu (ps++[.lit t])).2)/\∃ (A:List Th) (s:MS),(out (ij (ps++[.lit t])) (zu (ps++[.lit t])).1).take (zu (ps++[.lit t])).2=A.map nG/\A.length=(zu (ps++[.lit t])).2/\Rn mG [] A s []/\s≠mG:=by
 obtain⟨hs,e⟩:=h.look [] [] 0 Et (by simp);obtain⟨⟨s',es,hr,hne⟩,_⟩:=DA t ht;have e2:zy [.lit t] ⟨sK zE ([]++[]),[]++(zu ps).1,0+(zu ps).2⟩=.ok (⟨s',[]++(zu ps).1,0+(zu ps).2+1⟩,[]):=DW (show runM (sK zE []) t=.ok (_,_) from hr);have el:∃ hs',zy (ps++[.lit t]) ⟨mG,[],0⟩=.ok (⟨s',(zu (ps++[.lit t])).1,(zu (ps++[.lit t])).2⟩,hs'):=by refine⟨hs++[],?_⟩;rw [Dx,show(sK zE [])=sK zE ([]++[]) from rfl,VM e e2,km];simp [Off.add,zu,qD]
 obtain⟨hs',el⟩:=el;refine⟨by unfold qP;rw [el];simp only [];rw [ub hne],?_⟩;obtain⟨⟨A,h1,h2,h3⟩,_⟩:=(nA (ps++[.lit t]) ⟨mG,[],0⟩ 0 sX (by lia)).1 _ _ el;refine⟨A,s',?_,h2,h3 [],hne⟩;have:=h1 [] [];rw [uj,uj] at this;rw [this];exact GX (by rw [uk,h2])
def pY (B H:Hp)(σ:L2.St)(t:TE)(d:Dat):Prop:=∀ H' Q,fX H H'->(∀ r H2,fX H' H2->ic (nw B H2) d r->Q r H2)->t σ H' Q
def oR (B H:Hp)(σ:L2.St)(t:TA)(ds:List Dat):Prop:=∀ H' Q,fX H H'->(∀ vs H2,fX H' H2->iq (nw B H2) ds vs->Q vs H2)->t σ H' Q
section
variable {B H:Hp} {σ:L2.St} {t:TE} {u:TA} {d:Dat} {ds:List Dat} {v:V} {i:Nat}
theorem F2 (h:zN v=true):pY B H σ (tC v) (.fl v):=λ_ _ _ k=>k _ _ (fX.refl _) ⟨rfl,h⟩
theorem F1 (e:σ[i]? = some (some v))(h:zN v=true):pY B H σ (iL i) (.fl v):=λ_ _ _ k=>⟨_,e,k _ _ (fX.refl _) ⟨rfl,h⟩⟩
theorem FZ:oR B H σ i8 []:=λ_ _ _ k=>k _ _ (fX.refl _) rfl
theorem FY (h:pY B H σ t d)(k:oR B H σ u ds):oR B H σ (jl t u) (d::ds):=λ_ _ g q=>h _ _ g λr _ g1 hr=>k _ _ (g.trans g1) λvs _ g2 hv=>q _ _ (g1.trans g2) ⟨r,vs,rfl,hr.mono (wy g2),hv⟩
theorem FX (hB:fX B H)(k:oR B H σ u ds)(hl:ds.length<=100):pY B H σ (nB u) (.tp ds):=λ_ _ g q=>k _ _ g λvs _ g1 hv=>⟨uI (hv.len ▸ hl) (by decide),λp hp=>q _ _ (g1.trans (za hp)) ⟨p,vs,rfl,kq (hB.trans (g.trans g1)) hp zb,hv.mono (wy (za hp))⟩⟩
theorem FW (hB:fX B H)(k:oR B H σ u ds)(hl:ds.length<=100):pY B H σ (om u) (.ls ds):=λ_ _ g q=>k _ _ g λvs _ g1 hv=>⟨uI (hv.len ▸ hl) (by decide),λp hp=>q _ _ (g1.trans (za hp)) ⟨p,vs,rfl,kq (hB.trans (g.trans g1)) hp zb,hv.mono (wy (za hp))⟩⟩
theorem Bq {Q:VK}(h:pY B H σ t (.tp ds))(k:∀ p H2,fX H H2->ic (nw B H2) (.tp ds) (.ref p)->Q (.ref p) H2):t σ H Q:=h _ _ (fX.refl _) λ_ _ g ⟨p,vs,e,f⟩=>e ▸ k p _ g ⟨p,vs,rfl,f⟩
theorem Dz {Q:VK}(h:pY B H σ t (.ls ds))(k:∀ p H2,fX H H2->ic (nw B H2) (.ls ds) (.ref p)->Q (.ref p) H2):t σ H Q:=h _ _ (fX.refl _) λ_ _ g ⟨p,vs,e,f⟩=>e ▸ k p _ g ⟨p,vs,rfl,f⟩
theorem Dy {D:Ends}(h:pY B H σ t (.ls ds))(k:∀ p H2,fX H H2->ic (nw B H2) (.ls ds) (.ref p)->D.rt (.ref p) H2):pq t D σ H:=Dz h k
theorem Bp {D:Ends}(h:pY H H σ t d)(k:∀ r H2,fX H H2->ic H2 d r->wO i r σ H2 D.nx):mU t (wO i) D σ H:=h _ _ (fX.refl _) λ_ _ g hr=>k _ _ g (hr.mono vn)
end
local macro_rules | `(tactic| walk_at"z") => `(tactic| simp only [List.cons.injEq, V.ref.injEq, V.int.injEq, V.bl.injEq, Ds, Int.natCast_inj, and_true, true_and, and_assoc, exists_and_left, exists_eq_left'])
section
variable {p q r s:Addr} {i j k:Int} {l m n o:Ld} {t u v:Nat} {w x y z:V} {α β γ δ ε ζ η ι κ:Type}
theorem OC {P:Ld->Prop}:(∃ a,[V.str (S l)]=[.str (S a)]/\P a)=(P l):=by walk_at"z"
theorem OA {P:Ld->Nat->Prop}:(∃ a b,[V.str (S l),V.str (S [t])]=[.str (S a),.str (S [b])]/\P a b)=(P l t):=by walk_at"z"
theorem Oz {P:Addr->α->Prop}{Q:Ld->Addr->α->Addr->β->Prop}:(∃ a b c d e,[V.str (S l),V.ref p,V.ref q]=[.str (S a),.ref b,.ref d]/\P b c/\Q a b c d e)=(∃ c,P p c/\∃ e,Q l p c q e):=by walk_at"z"
theorem Ox {P:Addr->α->Prop}{Q:Addr->α->Addr->β->Prop}:(∃ a b c d,[V.ref p,V.ref q]=[.ref a,.ref c]/\P a b/\Q a b c d)=(∃ b,P p b/\∃ d,Q p b q d):=by walk_at"z"
theorem Ow {P:Addr->α->Prop}{Q:Addr->α->Nat->Addr->β->Prop}:(∃ a b c d e,[V.ref p,V.str (S [t]),V.ref q]=[.ref a,.str (S [c]),.ref d]/\P a b/\Q a b c d e)=(∃ b,P p b/\∃ e,Q p b t q e):=by walk_at"z"
theorem AL {P:V->α->Prop}:(∃ a b,[w]=[a]/\P a b)=(∃ b,P w b):=by walk_at"z"
theorem AK {P:V->α->Ld->Prop}:(∃ a b c,[w,V.str (S l)]=[a,.str (S c)]/\P a b c)=(∃ b,P w b l):=by walk_at"z"
theorem AJ {P:Int->Int->Int->Prop}:(∃ a b c,[V.int i,V.int j,V.int k]=[.int a,.int b,.int c]/\P a b c)=(P i j k):=by walk_at"z"
theorem AI {P:Int->Int->Prop}:(∃ a b,[V.int i,V.int j]=[.int a,.int b]/\P a b)=(P i j):=by walk_at"z"
theorem AH {P:Addr->α->β->γ->V->δ->Prop}:(∃ a b c d e g,[V.ref p,w]=[.ref a,e]/\P a b c d e g)=(∃ b c d g,P p b c d w g):=by walk_at"z"
theorem AG {P:Addr->α->β->γ->δ->Prop}{Q:Addr->α->β->γ->δ->ε->Prop}:(∃ a b c d e g,[V.ref p]=[.ref a]/\P a b c d e/\Q a b c d e g)=(∃ b c d e,P p b c d e/\∃ g,Q p b c d e g):=by walk_at"z"
theorem AF {P:Int->Ld->Addr->α->β->Prop}:(∃ a b c d e,[V.int i,V.str (S l),w,V.ref p]=[.int a,.str (S b),x,.ref c]/\P a b c d e)=(w=x/\∃ d e,P i l p d e):=by walk_at"z"
end
abbrev fm:Ld:=[98,101,116,119,101,101,110]
abbrev fo:Ld:=[115,97,105,100]
abbrev fq:Ld:=[119,111,114,100]
abbrev fu:Ld:=[115,105,103,110]
abbrev fv:Ld:=[115,116,114,111,107,101]
abbrev fw:Ld:=[116,101,120,116]
abbrev fz:Ld:=[97,115,105,115]
abbrev fA:Ld:=[116,97,108,107]
abbrev fD:Ld:=[97,116,116,114]
abbrev fE:Ld:=[98,97,114,101]
abbrev fF:Ld:=[114,111,119]
abbrev fG:Ld:=[113,117,111,116,101,100]
abbrev fH:Ld:=[100,111,110,101]
abbrev fJ:Ld:=[101,97,99,104]
abbrev fK:Ld:=[105,102]
abbrev fL:Ld:=[115,101,97,116]
abbrev fN:Ld:=[108,105,116]
abbrev fO:Ld:=[104,111,108,101]
abbrev fQ:Ld:=[100,114,97,119]
abbrev fR:Ld:=[97,115,116,114,97,121]
abbrev fS:Ld:=[110,111,112,108,97,99,101]
abbrev fT:Ld:=[117,110,108,105,107,101]
abbrev fU:Ld:=[108,101,102,116]
set_option backward.dsimp.useDefEqAttr false
local macro_rules | `(tactic| walk_at"r") => do
  let p := fun x => (x : String).splitOn " "
  let a := p "k8 xn yI jZ yC yD W2 zS xo qz wU yE vR XT jK k9 Za Zb Zc yF Zd Qa Ze Jw Zf Zg Zh Qb vF vG yG Zi Zj yH Zk Z0 kj W3 XU kl xK qU qg j0 jv jo zB qY qf qA jf jG jg vJ W4 xB ku vp vH qT xV je jL jh vK xu j8 xw j3 qk jk qQ zY yK jw wD yM xW vN Wo FD rX Bc Kf Vx i7 nP pq mU Wu Xa VR nO BL tC Kg tB rJ BN rE BP jl i8 oU om tq Bj Z7 WZ V6 V7 rD rH rO Bi nB Ao pA BM Bb WS ipI rI rP rU FF FE V1 pF pD DY Ed V8 Yg Bg Bf tm DJ sY Yh tD tj DI V2 DK Bh Xs rY D6 Bk VQ sZ Ye rG rL Fm Fn pN tu rQ tE pP Vo pQ"
  let q := fun (x : List String) => x.toArray.mapM fun s => `(Lean.Parser.Tactic.simpLemma| $(Lean.mkIdent s.toName):ident)
  let d ← q (p "cxK CZ L2.start JT ZE Qs yU Qu Qw Fj JV Fi Qy QB QD XD DQ kK JY J0 J2 J4 QH J6 XF J8 Ym Wa Wc We XH ZH ZJ QK Wg Wi QM Z9 Yq Ys Fh DO XJ Wl vA kM QR yW wK wL jU jE we wg xh wj vj ZM Fo yY XQ QX ZO QZ kR ZQ kT ZR ZS yZ vB ZU y7 ZV kW ZW yi Q1 y9 yl Q3 kY ZY DN mC mN rC rN uo UH Nat.reduceAdd Nat.reduceSub fm fo fq fu fv fw fz fA fD fE fF fG fH fJ fK fL fN fO fQ fR fS fT fU")
  let l ← q (a ++ p "NT SD uR zA jH Int.natCast_inj Xj wO iL yp AS sL0 sL1 sL2 sL3 sL4 sL5 sL6 sL7 sL8 sL9 CY NG Nat.reduceEqDiff Ja Kh N9 C0 nc0 nc1 nc2 nc3 Cm BH uz U6 List.replicate uG Ue uj List.getElem?_cons_zero List.getElem?_cons_succ List.set_cons_zero List.set_cons_succ gx List.cons.injEq V.int.injEq V.str.injEq V.bl.injEq V.ref.injEq V.ty.injEq yq Ds and_true true_and eq_self and_assoc exists_eq_left exists_eq_left' exists_eq_right exists_eq exists_eq' exists_and_left exists_and_right exists_const reduceCtorEq false_and and_false GO false_or exists_false Int.reduceLT Int.reduceLE Nat.reduceLeDiff Nat.reduceLT Int.reduceEq Nat.sub_self Uy decide_true decide_false Hu Ht if_true Gm Bool.not_true Bool.not_false gn")
  let m ← (a.map (· ++ ".eq_1") ++ p "mC mN vSs As Ar C3 exB exI CW CU CT CS CQ exF CV caN meN maN exN exD CP vS0 OC OA Oz Ox Ow AL AK AJ AI AH AG AF").toArray.mapM fun s => `(Lean.Parser.Tactic.simpLemma| ↓ $(Lean.mkIdent s.toName):ident)
  `(tactic| ((try dsimp only [$d,*]); simp (maxSteps := 900000) only [$d,*, $l,*, $m,*, ↓reduceIte]))
local macro_rules | `(tactic| walk_at"d") => do
 let h:=Lean.mkIdent `hN
 let n:=Lean.mkIdent `N_
 let a:=Lean.mkIdent `hT
 let b:=Lean.mkIdent `hU
 `(tactic| ((try subst $a:ident); (try subst $b:ident); (try dsimp only [Xa, Ar, As]); (try refine Ck $h ?_); (try refine rK λ$n $h => ?_); try walk_at"r"))
local macro_rules | `(tactic| walk_at "ds") => `(tactic| repeat' first | exact FZ | refine' FY ?_ ?_ | exact F2 rfl | exact F1 rfl rfl | refine' FX (by first | exact fX.refl _ | assumption) ?_ ?_ | refine' FW (by first | exact fX.refl _ | assumption) ?_ ?_ | exact Nat.le_of_ble_eq_true rfl)
local macro_rules | `(tactic| walk_at"i") => do
 let h:=Lean.mkIdent `hN
 let n:=Lean.mkIdent `N_
 let a:=Lean.mkIdent `hT
 let b:=Lean.mkIdent `hU
 `(tactic| ((try subst $a:ident); (try subst $b:ident); (try dsimp only [Xa, Ar, As]); (try refine Ck $h ?_); (try refine rK λ$n $h => ?_); refine tS λ_ _ $a $b => ?_; walk_at"r"))
local macro_rules | `(tactic| walk_at "ho") => do
 let h:=Lean.mkIdent `hN
 let n:=Lean.mkIdent `N_
 let a:=Lean.mkIdent `hT
 let b:=Lean.mkIdent `hU
 `(tactic| ((try subst $a:ident); (try subst $b:ident); (try dsimp only [Xa, Ar, As]); (try refine Ck $h ?_); (try refine rK λ$n $h => ?_)))
local macro_rules | `(tactic| walk_at"l") => `(tactic| (intro vs H Q E h; repeat (first | (have h1 := And.left h; subst h1; rfl) | obtain ⟨_, h⟩ := h)))
local macro_rules | `(tactic| walk_at"b") => do
  let l := ("f cdv A outer s H vs Q E hr h".splitOn " ").toArray.map fun s => Lean.mkIdent s.toName
  `(tactic| ((· walk_at"l"); intro $l:ident*))
section
variable {P:Program} {w:World} {K:Lf} {mg:La} {fY:Heap} {t:lg}
theorem TZ (T:Txt w K mg t)(D:Df K mg "sign_of" JS vX):ig P w K mg fY 1 "sign_of" vX k8:=by
 refine D.ok TJ ?_ ?_;walk_at"b"
 ·refine sL h λn h=>?_;refine mS h λhn k=>?_;refine⟨_,(zd (zg (VI pL (jy T.g_SIGNS) (qv 0) (λ_ _=>(by rfl))))).h,?_⟩
  walk_at"r";have hn':n<sg.length:=by rw [BH];exact hn
  have e:sg[n]? = some sg[n]:=uy hn';exact⟨_,e,k _ H e (fX.refl H)⟩
theorem YF (T:Txt w K mg t)(D:Df K mg "sign_told" ZD j5)(a9:ig P w K mg fY 1 "sign_of" vX k8):ig P w K mg fY 2 "sign_told" j5 xn:=by
 refine D.ok Js ?_ ?_;walk_at"b"
 ·refine sL h λl h=>?_;refine mS h λhl k=>?_;refine⟨_,(zc (zm (QW.qt (Xx (iw Ba (zK Z4 (by rfl) T.z_len yQ (iu (qv 0))) ze) (Xx (iw Vy (VI pL (qv 0) ze (λ_ _=>(by rfl))) (jy T.g_FIGURES)) (Yj (iw Vy (VI pL (qv 0) ze (λ_ _=>(by rfl))) (jy T.g_FIGURES)))))) (zd (zg zL)) zi) (zc (iC 1 Js.nd (JQ SH (by rfl) T.z_int Ec (iu (qv 0)))) (zd (zg (w6 (iw Ad (qv 1) (zK Z4 (by rfl) T.z_len yQ (iu (jy T.g_SIGNS)))) (qF a9 hr (iu (qv 1))) zL))))).h,?_⟩
  walk_at"r";refine⟨by lia,?_⟩;by_cases hl2:l.length=2
  ·obtain⟨c,d,rfl⟩:∃ c d,l=[c,d]:=by
    match l,hl2 with
    | [c,d],_=>exact⟨c,d,rfl⟩
   walk_at"r"
   by_cases h1:c∈fg
   ·rw [ub (by simp [h1])]
    by_cases h2:d∈fg
    ·rw [ub (by simp [h2])]
     have f1:=(V4 c).mp h1
     have f2:=(V4 d).mp h2
     refine⟨f1,f2,?_⟩
     have et:L2.told [c,d]=sg[(c - 48) * 10+(d - 48)]?:=by
      show(if ke c=true/\ke d=true then _ else _)=_
      rw [ue ⟨f1,f2⟩]
     by_cases h3:(c - 48) * 10+(d - 48)<94
     ·rw [ue (by lia)]
      refine⟨h3,λx H' e g=>?_⟩
      rw [et,e] at k
      exact k H' g
     ·rw [ub (by lia)]
      rw [et,UD.mpr (by rw [BH];lia)] at k
      exact k H (fX.refl H)
    ·rw [ue (by simp [h2])]
     have e:L2.told [c,d]=none:=by
      show(if ke c=true/\ke d=true then _ else _)=_
      rw [ub (by rintro⟨_,z⟩;exact h2 ((V4 d).mpr z))]
     rw [e] at k
     exact k H (fX.refl H)
   ·rw [ue (by simp [h1])]
    have e:L2.told [c,d]=none:=by
     show(if ke c=true/\ke d=true then _ else _)=_
     rw [ub (by rintro⟨z,_⟩;exact h1 ((V4 c).mpr z))]
    rw [e] at k
    exact k H (fX.refl H)
  ·rw [NR hl2] at k;rw [ue (by simp;lia)];exact k H (fX.refl H)
theorem X4 (T:Txt w K mg t)(D:Df K mg "fed_between" yT jq):ig P w K mg fY 1 "fed_between" jq jZ:=by
 refine D.ok XB ?_ ?_;walk_at"b"
 ·refine sL h λc h=>?_;refine pU h λk=>?_;refine⟨_,(zc (zm (iw zx (qv 0) (qS [32])) (zd (zg (zh (ip (qS fm) (zl zC))))) zi) (zc (zm (iw zx (qv 0) (qS [39])) (zd (zg (zh (ip (qS fo) (zl (iu (zh (iu (qS fo))))))))) zi) (zc (zm (iw vv (qv 0) (jy T.g_WORDSIGNS)) (zd (zg (zh (ip (qS fq) (zl (ip (zh (iu (qS fq))) (zh (ip (qS fu) (qv 0))))))))) zi) (zd (zg zL))))).h,?_⟩
  walk_at"r";unfold oB at k;by_cases h1:c=32
  ·rw [ue h1] at k ⊢;intro p hp p1 hp1;have a:=WB (G:=λa=>H a=none) (t:=jQ) hp1 (iV (H:=H) (q:=p)) hp;exact k _ _ ((za hp).trans a.1) a.2
  rw [ub h1] at k ⊢;by_cases h2:c=39
  ·rw [ue h2] at k ⊢;intro p hp p1 hp1 p2 hp2;have a:=WB (G:=λa=>H a=none) (t:=vD) hp2 (mf (e:=[Dn]) hp1) (zo hp1);exact k _ _ ((za hp).trans ((za hp1).trans a.1)) a.2
  rw [ub h2] at k ⊢;by_cases h3:c∈ws
  ·rw [ue h3] at k ⊢;intro p hp p1 hp1 p2 hp2 p3 hp3
   have he:mI (upd (upd (upd H p (.tup [.str (S AN)])) p1 (.tup [.str (S j9),.str (S [c])])) p2 (.lst [.ref p,.ref p1])) p2 [[AN],[j9,[c]]]:=
    ⟨_,zb,.cons ⟨p,rfl,za hp2 _ _ (za hp1 _ _ zb)⟩ (.cons ⟨p1,rfl,za hp2 _ _ zb⟩ .nil)⟩
   have a:=WB (G:=λa=>H a=none) (t:=Qj) hp3 he (zo (zo hp2));exact k _ _ ((za hp).trans ((za hp1).trans ((za hp2).trans a.1))) a.2
  ·rw [ub h3] at k ⊢;exact k _ _ (fX.refl H) rfl
theorem zau (T:Txt w K mg t)(D:Df K mg "fed_word" Qt va)(aK:ig P w K mg fY 1 "fed_between" jq jZ):ig P w K mg fY 2 "fed_word" va yC:=by
 refine D.ok K6 ?_ ?_;walk_at"b"
 ·refine sL h λc h=>?_;refine pU h λk=>?_;refine⟨_,(zc (zm (iw vv (qv 0) (jy T.g_WORDSIGNS)) (zd (zg (zh (ip (qS fq) (zl (iu (zh (ip (qS fu) (qv 0))))))))) zi) (zd (zg (qF aK hr (iu (qv 0)))))).h,?_⟩
  walk_at"r";unfold rZ at k;by_cases h3:c∈ws
  ·rw [ue h3] at k ⊢;intro p hp p1 hp1 p2 hp2;have a:=WB (G:=λa=>H a=none) (t:=Qj) hp2 (mf (e:=[j9,[c]]) hp1) (zo hp1);exact k _ _ ((za hp).trans ((za hp1).trans a.1)) a.2
  ·rw [ub h3] at k ⊢;exact k
theorem zav (T:Txt w K mg t)(D:Df K mg "fed_said" Qv vd):ig P w K mg fY 1 "fed_said" vd yD:=by
 refine D.ok K7 ?_ ?_;walk_at"b"
 ·refine sL h λc h=>?_;refine pU h λk=>?_;refine⟨_,(zc (zm (iw zx (qv 0) (qS [39])) (zd (zg (zh (ip (qS fm) (zl zC))))) zi) (zc (zm (iw zx (qv 0) (qS [92])) (zd (zg (zh (ip (qS fv) (zl zC))))) zi) (zd (zg (zh (ip (qS fo) (zl (iu (zh (ip (qS fu) (qv 0))))))))))).h,?_⟩
  walk_at"r";unfold r8 at k;by_cases h1:c=39
  ·rw [ue h1] at k ⊢;intro p hp p1 hp1;have a:=WB (G:=λa=>H a=none) (t:=jQ) hp1 (iV (H:=H) (q:=p)) hp;exact k _ _ ((za hp).trans a.1) a.2
  rw [ub h1] at k ⊢;by_cases h2:c=92
  ·rw [ue h2] at k ⊢;intro p hp p1 hp1;have a:=WB (G:=λa=>H a=none) (t:=WU) hp1 (iV (H:=H) (q:=p)) hp;exact k _ _ ((za hp).trans a.1) a.2
  rw [ub h2] at k ⊢;intro p hp p1 hp1 p2 hp2;have a:=WB (G:=λa=>H a=none) (t:=vD) hp2 (mf (e:=[j9,[c]]) hp1) (zo hp1);exact k _ _ ((za hp).trans ((za hp1).trans a.1)) a.2
theorem MI (T:Txt w K mg t)(D:Df K mg "feed" Bn Jt)(aK:ig P w K mg fY 1 "fed_between" jq jZ)(bc:ig P w K mg fY 2 "fed_word" va yC)(bf:ig P w K mg fY 1 "fed_said" vd yD):ig P w K mg fY 3 "feed" Jt W2:=by
 refine D.ok Od ?_ ?_;walk_at"b"
 ·refine nU h λtk c h=>?_;refine pU h λk=>?_;refine⟨_,(zc (zm (iw zx (qv 0) (qS fm)) (zd (zg (qF aK hr (iu (qv 1))))) zi) (zc (zm (iw zx (qv 0) (qS fq)) (zd (zg (qF bc hr (iu (qv 1))))) zi) (zc (zm (iw zx (qv 0) (qS fo)) (zd (zg (qF bf hr (iu (qv 1))))) zi) (zc (zm (iw zx (qv 0) (qS fv)) (zd (zg (zh (ip (qS fo) (zl (iu (zh (ip (qS fu) (qv 1))))))))) zi) (zd (zg zL)))))).h,?_⟩
  walk_at"r";unfold VF at k;by_cases h1:tk=jQ
  ·rw [ue h1] at k ⊢;exact k
  rw [ub h1] at k ⊢;by_cases h2:tk=Qj
  ·rw [ue h2] at k ⊢;exact k
  rw [ub h2] at k ⊢;by_cases h3:tk=vD
  ·rw [ue h3] at k ⊢;exact k
  rw [ub h3] at k ⊢;by_cases h4:tk=WU
  ·rw [ue h4] at k ⊢;intro p hp p1 hp1 p2 hp2;have a:=WB (G:=λa=>H a=none) (t:=vD) hp2 (mf (e:=[j9,[c]]) hp1) (zo hp1);exact k _ _ ((za hp).trans ((za hp1).trans a.1)) a.2
  rw [ub h4] at k ⊢;exact k _ _ (fX.refl H) rfl
theorem TY (T:Txt w K mg t)(D:Df K mg "come_to" JU zM):ig P w K mg fY 1 "come_to" zM zS:=by
 refine D.ok TH ?_ ?_;walk_at"b"
 ·refine lZ h λm oa op ea es h=>?_;refine nK h λho he k=>?_;refine⟨_,(zd (zg (zh (ip (zh (lr (qv 0) (qS []) (qv 1) (qS []))) (qv 2))))).h,?_⟩
  walk_at"r";intro p hp p1 hp1;have a:=Hz (G:=λa=>a=ea) (m:=m) (w:=[]) (t:=[]) hp hp1 ho he rfl;exact k _ _ a.1 a.2
theorem MH (T:Txt w K mg t)(D:Df K mg "told" Bm wB)(aa:ig P w K mg fY 1 "come_to" zM zS):ig P w K mg fY 2 "told" wB xo:=by
 refine D.ok Oc ?_ ?_;walk_at"b"
 ·refine sJ h λm oa op o h=>?_;refine mS h λho k=>?_;refine⟨_,(zc (zm (iw JG (qv 2) zL) (zd (zg zL)) zi) (zd (zg (qF aa hr (iH (qv 0) (qv 1) (zl (iu (zh (ip (qS fu) (qv 2)))))))))).h,?_⟩
  walk_at"r";cases o with
  | none=>rw [ue (show oV none=V.non from rfl)];exact k _ _ (fX.refl H) rfl
  | some c=>rw [ub (by intro z;cases z)];intro p hp p1 hp1;exact⟨op,ho.mono ((za hp).trans (za hp1)),[[j9,[c]]],mf (e:=[j9,[c]]) hp1,λv H' g a=>k v H' (((za hp).trans (za hp1)).trans g) (a.imp λx e=>by subst e;exact zo hp1)⟩
theorem zaw (T:Txt w K mg t)(D:Df K mg "gathered" Qx ql):ig P w K mg fY 1 "gathered" ql qz:=by
 refine D.ok K8 ?_ ?_;walk_at"b"
 ·refine tU h λm wd oa op tk n h=>?_;refine nK h λho hl k=>?_;refine⟨_,(zc (zm (iw Xd (zK Z4 (by rfl) T.z_len yQ (iu (qv 1))) (qv 4)) (zd (zg zL)) zi) (zd (zg (zh (ip (zh (lr (qv 0) (qv 1) (qv 2) (qv 3))) (zl zC)))))).h,?_⟩
  walk_at"r";refine⟨by lia,?_⟩;unfold lX at k;by_cases h:n<wd.length
  ·rw [ue h] at k;rw [ue (by lia)];exact k _ _ (fX.refl H) rfl
  ·rw [ub h] at k;rw [ub (by lia)];intro p hp p1 hp1 p2 hp2;have g:=(za (o:=.tup [.str (S m),.str (S wd),.ref oa,.str (S tk)]) hp).trans (za (o:=.lst []) hp1);exact k _ _ (g.trans (za hp2)) (Jn (za hp1 _ _ zb) (ho.mono g) iV (zo hp1) hp2)
theorem zax (T:Txt w K mg t)(D:Df K mg "box_shut" Qz jT)(aa:ig P w K mg fY 1 "come_to" zM zS):ig P w K mg fY 2 "box_shut" jT wU:=by
 refine D.ok K9 ?_ ?_;walk_at"b"
 ·refine sJ h λoa op ea es h=>?_;refine lN h λho he hl k=>?_;refine⟨_,(zc (zm (vW (Z6 (K:=K) (by rfl) (qv 0))) (zd (zg zL)) zi) (zd (zg (qF aa hr (iH (qS fw) (K1 ET (qv 0) ER (Fg (AY VS ze))) (zr qx (qv 1) (zl (iu (zh (iu (qS [111,117,116]))))))))))).h,?_⟩
  walk_at"r";refine⟨_,EZ ho,?_⟩;unfold kG at k;by_cases h:op=[]
  ·subst h;rw [ue rfl] at k;rw [ue (show(!!(List.map tx ([]:List Tx)).isEmpty)=true from rfl)];exact k _ _ (fX.refl H) rfl
  ·rw [ub h] at k;rw [ub (by cases op with | nil=>exact absurd rfl h | cons=>simp)];obtain⟨vs,e1,e2⟩:=he;refine⟨_,ho,λp H1 g1 hp p1 hp1 p2 hp2=>?_⟩;have g2:=(za (o:=.tup [.str (S pS)]) hp1).trans (za (o:=.lst [.ref p1]) hp2);refine⟨vs,g2 _ _ (g1 _ _ e1),_,zb,by rw [e2.len];simp;lia,λp3 hp3=>?_⟩;have g3:=g2.trans (za (o:=.lst (vs++[.ref p1])) hp3);refine⟨op.dropLast,?_,es++[[pS]],⟨_,zb,(e2.mono (g1.trans g3)).app (.cons ⟨p1,rfl,za hp3 _ _ (za hp2 _ _ zb)⟩ .nil)⟩,λv H' g a=>k v H' (g1.trans (g3.trans g)) (a.imp λx e=>?_)⟩
   ·rw [PM,map_dropLast] at hp;exact g3 _ _ hp
   ·subst e;exact qh g1 (zo (zo hp3))
theorem zay (T:Txt w K mg t)(D:Df K mg "into_box" QC ve)(aa:ig P w K mg fY 1 "come_to" zM zS):ig P w K mg fY 2 "into_box" ve yE:=by
 refine D.ok WE ?_ ?_;walk_at"b"
 ·refine sJ h λoa op ea es h=>?_;refine lN h λho he hl k=>?_;refine⟨_,(zc (zm (vW (Z6 (K:=K) (by rfl) (qv 0))) (zd (zg zL)) zi) (zc (iC 2 WE.nd (w6 (iw zx (iy K (qv 0) (AY VS ze)) (qS fz)) (qS fz) (qS fw))) (zd (zg (qF aa hr (iH (qv 2) (qv 0) (zr qx (qv 1) (zl (iu (zh (iu (qS [105,110])))))))))))).h,?_⟩
  walk_at"r";refine⟨_,EZ ho,?_⟩;unfold yr at k;by_cases h:op=[]
  ·subst h;rw [ue rfl] at k;rw [ue (show(!!(List.map tx ([]:List Tx)).isEmpty)=true from rfl)];exact k _ _ (fX.refl H) rfl
  ·rw [ub h] at k;rw [ub (by cases op with | nil=>exact absurd rfl h | cons=>simp)];obtain⟨vs,e1,e2⟩:=he
   obtain⟨l,hla⟩:∃ l,op.getLast? = some l:=by
    cases op with
    | nil=>exact absurd rfl h
    | cons a r=>exact⟨_,List.getLast?_eq_some_getLast (by simp)⟩
   refine⟨_,ir.of ho,V.str (S l),by rw [Tc,List.getLast?_map,hla];rfl,rfl,?_⟩;rw [hla] at k;by_cases h2:l=Jj
   ·subst h2;rw [ue rfl] at k ⊢;intro p1 hp1 p2 hp2;have g2:=(za (o:=.tup [.str (S oE)]) hp1).trans (za (o:=.lst [.ref p1]) hp2);refine⟨vs,g2 _ _ e1,_,zb,by rw [e2.len];simp;lia,λp3 hp3=>?_⟩;have g3:=g2.trans (za (o:=.lst (vs++[.ref p1])) hp3);exact⟨op,ho.mono g3,es++[[oE]],⟨_,zb,(e2.mono g3).app (.cons ⟨p1,rfl,za hp3 _ _ (za hp2 _ _ zb)⟩ .nil)⟩,λv H' g a=>k v H' (g3.trans g) (a.imp λx e=>by subst e;exact zo (zo hp3))⟩
   ·rw [ub (by intro z;exact h2 (uH z))] at k;rw [ub (by rw [V.str.injEq,yq];exact h2)];intro p1 hp1 p2 hp2;have g2:=(za (o:=.tup [.str (S oE)]) hp1).trans (za (o:=.lst [.ref p1]) hp2);refine⟨vs,g2 _ _ e1,_,zb,by rw [e2.len];simp;lia,λp3 hp3=>?_⟩;have g3:=g2.trans (za (o:=.lst (vs++[.ref p1])) hp3);exact⟨op,ho.mono g3,es++[[oE]],⟨_,zb,(e2.mono g3).app (.cons ⟨p1,rfl,za hp3 _ _ (za hp2 _ _ zb)⟩ .nil)⟩,λv H' g a=>k v H' (g3.trans g) (a.imp λx e=>by subst e;exact zo (zo hp3))⟩
theorem RD (T:Txt w K mg t)(D:Df K mg "led_on" XC xJ)(aa:ig P w K mg fY 1 "come_to" zM zS)(bg:ig P w K mg fY 2 "into_box" ve yE):ig P w K mg fY 3 "led_on" xJ vR:=by
 refine D.ok RM ?_ ?_;walk_at"b"
 ·refine lZ h λoa op c ea es h=>?_;refine lN h λho he hl k=>?_;refine⟨_,(zc (zm (iw zx (qv 1) (qS [32])) (zd (zg (qF aa hr (iH (qS [103,97,112]) (qv 0) (qv 2))))) zi) (zc (zm (iw zx (qv 1) (qS [47])) (zd (zg (qF aa hr (iH (qS [115,108,97,115,104]) (qv 0) (qv 2))))) zi) (zc (zm (iw zx (qv 1) (qS [62])) (zd (zg (qF bg hr (ip (qv 0) (qv 2))))) zi) (zd (zg zL))))).h,?_⟩
  walk_at"r";unfold VE at k;by_cases h1:c=32
  ·rw [ue h1] at k ⊢;exact⟨op,ho,es,he,λv H' g a=>k v H' g (a.imp λx e=>.inr e)⟩
  rw [ub h1] at k ⊢;by_cases h2:c=47
  ·rw [ue h2] at k ⊢;exact⟨op,ho,es,he,λv H' g a=>k v H' g (a.imp λx e=>.inr e)⟩
  rw [ub h2] at k ⊢;by_cases h3:c=62
  ·rw [ue h3] at k ⊢;exact⟨op,ho,es,he,hl,λv H' g a=>k v H' g (a.imp λx e=>.inl e)⟩
  rw [ub h3] at k ⊢;exact k _ _ (fX.refl H) rfl
theorem Mg (T:Txt w K mg t)(D:Df K mg "fed" AX JW)(bh:ig P w K mg fY 3 "feed" Jt W2):ig P w K mg fY 4 "fed" JW XT:=by
 refine D.ok DP ?_ ?_;walk_at"b"
 ·refine sJ h λoa op tk o h=>?_;refine mS h λho k=>?_;refine⟨_,(zc (iC 3 DP.nd (w6 (iw JG (qv 2) zL) zL (qF bh hr (ip (qv 1) (qv 2))))) (zc (zm (iw JG (qv 3) zL) (zd (zg zL)) zi) (zd (zg (zh (ip (zh (lr (qS fA) (qS []) (qv 0) (iy K (qv 3) ze))) (iy K (qv 3) ze))))))).h,?_⟩
  walk_at"r";cases o with
  | none=>rw [ue (show oV none=V.non from rfl)];exact k _ _ (fX.refl H) rfl
  | some c=>
   rw [ub (by intro z;cases z)];refine⟨c,rfl,λv H1 g1 a=>?_⟩;unfold nS at k;cases hf:VF tk c with
   | none=>rw [hf] at a;simp only [hf] at k;have a:v=.non:=a;subst a;rw [ue rfl];exact k _ _ g1 rfl
   | some r=>obtain⟨tk',es⟩:=r;rw [hf] at a;simp only [hf] at k;obtain⟨p,ea,rfl,hp,he,hg⟩:=a;rw [ub (by intro z;cases z)];exact⟨p,rfl,_,ir.of hp,_,rfl,λp1 hp1=>⟨p,rfl,_,ir.of (za hp1 _ _ hp),_,rfl,λp2 hp2=>k _ _ (g1.trans ((za hp1).trans (za hp2))) (Jn zb ((ho.mono g1).mono (za hp1)) (he.mono (za hp1)) hg hp2)⟩⟩
theorem Vh (T:Txt w K mg t)(D:Df K mg "mark_ended" kJ ji)(aL:ig P w K mg fY 2 "sign_told" j5 xn):ig P w K mg fY 3 "mark_ended" ji jK:=by
 refine D.ok Vc ?_ ?_;walk_at"b"
 ·refine nU h λwd c h=>?_;refine mS h λhl k=>?_;refine⟨_,(zd (zg (w6 (iw zx (qv 1) (qS [59])) (qF aL hr (iu (qv 0))) zL))).h,?_⟩
  walk_at"r";unfold WA at k;by_cases h:c=59
  ·rw [ue h] at k ⊢;exact⟨by lia,k⟩
  ·rw [ub h] at k ⊢;exact k H (fX.refl H)
theorem TX (T:Txt w K mg t)(D:Df K mg "at_text" JX vY)(aa:ig P w K mg fY 1 "come_to" zM zS)(ag:ig P w K mg fY 2 "told" wB xo):ig P w K mg fY 3 "at_text" vY k9:=by
 refine D.ok TF ?_ ?_;walk_at"b"
 ·refine lZ h λwd oa op tk c h=>?_;refine lN h λho hw hop k=>?_;refine⟨_,(zc (zm (iw zx (qv 3) (qS [60])) (zd (zg (qF aa hr (iH (qS [111,112,101,110]) (qv 1) (zl zC))))) zi) (zc (zm (iw zx (qv 3) (qS [38])) (zd (zg (qF aa hr (iH (qS [109,97,114,107]) (qv 1) (zl zC))))) zi) (zd (zg (qF ag hr (iH (qS fw) (qv 1) (qv 3))))))).h,?_⟩
  walk_at"r";unfold Kz at k;by_cases h0:c=60
  ·rw [ue h0] at k ⊢;exact λp hp=>⟨op,ho.mono (za hp),[],iV,λv H' g a=>k v H' ((za hp).trans g) (a.imp λx e=>by subst e;exact hp)⟩
  rw [ub h0] at k ⊢;by_cases h1:c=38
  ·rw [ue h1] at k ⊢;exact λp hp=>⟨op,ho.mono (za hp),[],iV,λv H' g a=>k v H' ((za hp).trans g) (a.imp λx e=>by subst e;exact hp)⟩
  rw [ub h1] at k ⊢;exact⟨op,some c,rfl,ho,λv H' g a=>k v H' g a⟩
theorem TV (T:Txt w K mg t)(D:Df K mg "at_mark" JZ vZ)(ah:ig P w K mg fY 1 "gathered" ql qz)(aA:ig P w K mg fY 3 "mark_ended" ji jK)(ag:ig P w K mg fY 2 "told" wB xo):ig P w K mg fY 4 "at_mark" vZ Za:=by
 refine D.ok TC ?_ ?_;walk_at"b"
 ·refine lZ h λwd oa op tk c h=>?_;refine lN h λho hw hop k=>?_;refine⟨_,(zc (zm (iw vv (qv 3) (jy T.g_FIGURES)) (zd (zg (qF ah hr (mK (qS [109,97,114,107]) (zr jA (qv 0) (qv 3)) (qv 1) (qS []) (jy T.g_MARK_FIGURES))))) zi) (zd (zg (qF ag hr (iH (qS fw) (qv 1) (qF aA hr (ip (qv 0) (qv 3)))))))).h,?_⟩
  walk_at"r";unfold KA at k;by_cases h0:c∈fg
  ·rw [ue h0] at k ⊢;exact⟨by lia,op,2,rfl,ho,by rw [uc];simp;lia,λv H' g a=>k v H' g a⟩
  rw [ub h0] at k ⊢;exact⟨by lia,λH1 g1=>⟨op,WA wd c,rfl,ho.mono g1,λv H' g a=>k v H' (g1.trans g) (a.imp λx e=>qh g1 e)⟩⟩
theorem TU (T:Txt w K mg t)(D:Df K mg "at_open" J1 v5)(aa:ig P w K mg fY 1 "come_to" zM zS)(ah:ig P w K mg fY 1 "gathered" ql qz):ig P w K mg fY 2 "at_open" v5 Zb:=by
 refine D.ok TB ?_ ?_;walk_at"b"
 ·refine lZ h λwd oa op tk c h=>?_;refine lN h λho hw hop k=>?_;refine⟨_,(zc (zm (iw zx (qv 3) (qS [47])) (zd (zg (qF aa hr (iH (qS [115,104,117,116]) (qv 1) (zl zC))))) zi) (zc (zm (iw vv (qv 3) (jy T.g_LETTERS)) (zd (zg (qF ah hr (mK (qS [110,97,109,101]) (qv 3) (qv 1) (qS []) (jy T.g_LONGEST_NAME))))) zi) (zd (zg zL)))).h,?_⟩
  walk_at"r";unfold KC at k;by_cases h0:c=47
  ·rw [ue h0] at k ⊢;exact λp hp=>⟨op,ho.mono (za hp),[],iV,λv H' g a=>k v H' ((za hp).trans g) (a.imp λx e=>by subst e;exact hp)⟩
  rw [ub h0] at k ⊢;by_cases h1:c∈lt
  ·rw [ue h1] at k ⊢;exact⟨op,8,rfl,ho,λv H' g a=>k v H' g a⟩
  rw [ub h1] at k ⊢;exact k _ _ (fX.refl H) rfl
theorem TR (T:Txt w K mg t)(D:Df K mg "at_name" J3 v7)(ah:ig P w K mg fY 1 "gathered" ql qz)(aB:ig P w K mg fY 3 "led_on" xJ vR):ig P w K mg fY 4 "at_name" v7 Zc:=by
 refine D.ok Tz ?_ ?_;walk_at"b"
 ·refine lZ h λwd oa op tk c h=>?_;refine lN h λho hw hop k=>?_;refine⟨_,(zc (zm (iw vv (qv 3) (jy T.g_LETTERS)) (zd (zg (qF ah hr (mK (qS [110,97,109,101]) (zr jA (qv 0) (qv 3)) (qv 1) (qS []) (jy T.g_LONGEST_NAME))))) zi) (zd (zg (qF aB hr (iH (zr EU (qv 1) (zh (iu (qv 0)))) (qv 3) (zl (iu (zh (ip (qS [98,111,120]) (qv 0)))))))))).h,?_⟩
  walk_at"r";unfold aName at k;by_cases h0:c∈lt
  ·rw [ue h0] at k ⊢;exact⟨by lia,op,8,rfl,ho,by rw [uc];simp;lia,λv H' g a=>k v H' g a⟩
  rw [ub h0] at k ⊢;intro p hp;refine⟨_,za hp _ _ ho,_,zb,by simp;lia,λp1 H1 g1 hp1 p2 hp2 p3 hp3=>?_⟩;have g0:=(za (o:=.tup [.str (S wd)]) hp).trans g1;have g2:=(za (o:=.tup [.str (S nV),.str (S wd)]) hp2).trans (za (o:=.lst [.ref p2]) hp3);have ho2:mD H1 p1 (op++[wd]):=by unfold mD;rw [hp1,UG];rfl
  exact⟨op++[wd],ho2.mono g2,[[nV,wd]],mf (e:=[nV,wd]) hp3,by simp,λv H' g a=>k v H' (g0.trans (g2.trans g)) (a.imp λx e=>e.elim (λe=>qh g0 (zo (zo e))) λe=>by subst e;exact qh g0 (zo hp3))⟩
theorem zaz (T:Txt w K mg t)(D:Df K mg "at_slash" QF vf)(aC:ig P w K mg fY 2 "box_shut" jT wU):ig P w K mg fY 3 "at_slash" vf yF:=by
 refine D.ok zaa ?_ ?_;walk_at"b"
 ·refine lZ h λwd oa op tk c h=>?_;refine lN h λho hw hop k=>?_;refine⟨_,(zc (zm (iw zx (qv 3) (qS [62])) (zd (zg (qF aC hr (ip (qv 1) (zl (iu (zh (iu (qS [105,110]))))))))) zi) (zd (zg zL))).h,?_⟩
  walk_at"r";unfold Xp at k;by_cases h0:c=62
  ·rw [ue h0] at k ⊢;exact λp hp p1 hp1=>⟨op,ho.mono ((za hp).trans (za hp1)),[[oE]],mf (e:=[oE]) hp1,by simp,λv H' g a=>k v H' (((za hp).trans (za hp1)).trans g) (a.imp λx e=>zo (zo e))⟩
  rw [ub h0] at k ⊢;exact k _ _ (fX.refl H) rfl
theorem TQ (T:Txt w K mg t)(D:Df K mg "at_shut" J5 v8)(ah:ig P w K mg fY 1 "gathered" ql qz)(aC:ig P w K mg fY 2 "box_shut" jT wU):ig P w K mg fY 3 "at_shut" v8 Zd:=by
 refine D.ok Tw ?_ ?_;walk_at"b"
 ·refine lZ h λwd oa op tk c h=>?_;refine lN h λho hw hop k=>?_;refine⟨_,(zc (zm (iw vv (qv 3) (jy T.g_LETTERS)) (zd (zg (qF ah hr (mK (qS [115,104,117,116]) (zr jA (qv 0) (qv 3)) (qv 1) (qS []) (jy T.g_LONGEST_NAME))))) zi) (zc (zm (QW.qt (xI (iw zx (qv 3) (qS [62])) (wA (iw (NH (K:=K) (by rfl) (HC hr)) (K1 ET (qv 1) (Fg (AY VS ze)) ER) (zh (iu (qv 0))))))) (zd (zg (qF aC hr (ip (qv 1) (zl zC))))) zi) (zd (zg zL)))).h,?_⟩
  walk_at"r";unfold Jk at k;by_cases h0:c∈lt
  ·rw [ue h0] at k ⊢;exact⟨by lia,op,8,rfl,ho,by rw [uc];simp;lia,λv H' g a=>k v H' g a⟩
  rw [ub h0] at k ⊢;by_cases h1:c=62
  ·rw [ue h1];refine⟨_,ho,λp H1 g1 hp p1 hp1=>⟨_,_,.inr ⟨ir.of (za hp1 _ _ hp),ir.of zb⟩,by rw [KP];exact Tb (PL op),rfl,?_⟩⟩;rw [KP,NC];have g2:=g1.trans (za (o:=.tup [.str (S wd)]) hp1);by_cases h2:op.getLast? = some wd
   ·rw [ue (UC h2)];rw [ue ⟨h1,h2⟩] at k;exact λp2 hp2=>⟨op,(ho.mono g2).mono (za hp2),[],iV,by simp,λv H' g a=>k v H' (g2.trans ((za hp2).trans g)) (a.imp λx e=>qh g2 (zo e))⟩
   ·rw [ub (by simp [h2])];rw [ub (by rintro⟨_,z⟩;exact h2 z)] at k;exact k _ _ g2 rfl
  ·rw [ub h1];rw [ub (by rintro⟨z,_⟩;exact h1 z)] at k;exact k _ _ (fX.refl H) rfl
theorem RC (T:Txt w K mg t)(D:Df K mg "at_gap" XE kg)(ah:ig P w K mg fY 1 "gathered" ql qz):ig P w K mg fY 2 "at_gap" kg Qa:=by
 refine D.ok RL ?_ ?_;walk_at"b"
 ·refine lZ h λwd oa op tk c h=>?_;refine lN h λho hw hop k=>?_;refine⟨_,(zc (zm (iw vv (qv 3) (jy T.g_LETTERS)) (zd (zg (qF ah hr (mK (qS fD) (qv 3) (qv 1) (qS []) (jy T.g_LONGEST_NAME))))) zi) (zd (zg zL))).h,?_⟩
  walk_at"r";unfold oJ at k;by_cases h0:c∈lt
  ·rw [ue h0] at k ⊢;exact⟨op,8,rfl,ho,λv H' g a=>k v H' g a⟩
  rw [ub h0] at k ⊢;exact k _ _ (fX.refl H) rfl
theorem zb0 (T:Txt w K mg t)(D:Df K mg "at_attr" J7 v9)(ah:ig P w K mg fY 1 "gathered" ql qz)(aa:ig P w K mg fY 1 "come_to" zM zS):ig P w K mg fY 2 "at_attr" v9 Ze:=by
 refine D.ok Tv ?_ ?_;walk_at"b"
 ·refine lZ h λwd oa op tk c h=>?_;refine lN h λho hw hop k=>?_;refine⟨_,(zc (zm (iw vv (qv 3) (jy T.g_LETTERS)) (zd (zg (qF ah hr (mK (qS fD) (zr jA (qv 0) (qv 3)) (qv 1) (qS []) (jy T.g_LONGEST_NAME))))) zi) (zc (zm (iw zx (qv 3) (qS [58])) (zd (zg (qF aa hr (iH (qS fE) (qv 1) (zl (iu (zh (iH (qS fD) (qv 0) (qS fE))))))))) zi) (zc (zm (iw zx (qv 3) (qS [40])) (zd (zg (qF aa hr (iH (qS fF) (qv 1) (zl (iu (zh (iH (qS fD) (qv 0) (qS fF))))))))) zi) (zc (zm (iw zx (qv 3) (qS [61])) (zd (zg (zh (ip (zh (lr (qS [105,115]) (qv 0) (qv 1) (qS []))) (zl zC))))) zi) (zc (zm (iw zx (qv 3) (qS [33])) (zd (zg (zh (ip (zh (lr (qS [98,97,110,103]) (qv 0) (qv 1) (qS []))) (zl zC))))) zi) (zd (zg zL))))))).h,?_⟩
  walk_at"r";unfold KD at k;by_cases h0:c∈lt
  ·rw [ue h0] at k ⊢;exact⟨by lia,op,8,rfl,ho,by rw [uc];simp;lia,λv H' g a=>k v H' g a⟩
  rw [ub h0] at k ⊢;by_cases h1:c=58
  ·rw [ue h1] at k ⊢;exact λp hp p1 hp1=>⟨op,ho.mono ((za hp).trans (za hp1)),[[ZC,wd,vT]],mf (e:=[ZC,wd,vT]) hp1,λv H' g a=>k v H' (((za hp).trans (za hp1)).trans g) (a.imp λx e=>by subst e;exact zo hp1)⟩
  rw [ub h1] at k ⊢;by_cases h2:c=40
  ·rw [ue h2] at k ⊢;exact λp hp p1 hp1=>⟨op,ho.mono ((za hp).trans (za hp1)),[[ZC,wd,lH]],mf (e:=[ZC,wd,lH]) hp1,λv H' g a=>k v H' (((za hp).trans (za hp1)).trans g) (a.imp λx e=>by subst e;exact zo hp1)⟩
  rw [ub h2] at k ⊢;by_cases h3:c=61
  ·rw [ue h3] at k ⊢;exact λp hp p1 hp1 p2 hp2=>k _ _ ((za hp).trans ((za hp1).trans (za hp2))) (Jn (za hp1 _ _ zb) ((ho.mono (za hp)).mono (za hp1)) iV (zo hp1) hp2)
  rw [ub h3] at k ⊢;by_cases h4:c=33
  ·rw [ue h4] at k ⊢;exact λp hp p1 hp1 p2 hp2=>k _ _ ((za hp).trans ((za hp1).trans (za hp2))) (Jn (za hp1 _ _ zb) ((ho.mono (za hp)).mono (za hp1)) iV (zo hp1) hp2)
  rw [ub h4] at k ⊢;exact k _ _ (fX.refl H) rfl
theorem OO (T:Txt w K mg t)(D:Df K mg "at_is" Yl ZF)(aa:ig P w K mg fY 1 "come_to" zM zS):ig P w K mg fY 2 "at_is" ZF Jw:=by
 refine D.ok P2 ?_ ?_;walk_at"b"
 ·refine lZ h λwd oa op tk c h=>?_;refine lN h λho hw hop k=>?_;refine⟨_,(zc (zm (iw zx (qv 3) (qS [34])) (zd (zg (qF aa hr (iH (qS fG) (qv 1) (zl (iu (zh (iH (qS fD) (qv 0) (qS fG))))))))) zi) (zd (zg zL))).h,?_⟩
  walk_at"r";unfold tW at k;by_cases h0:c=34
  ·rw [ue h0] at k ⊢;exact λp hp p1 hp1=>⟨op,ho.mono ((za hp).trans (za hp1)),[[ZC,wd,jB]],mf (e:=[ZC,wd,jB]) hp1,λv H' g a=>k v H' (((za hp).trans (za hp1)).trans g) (a.imp λx e=>by subst e;exact zo hp1)⟩
  rw [ub h0] at k ⊢;exact k _ _ (fX.refl H) rfl
theorem zb1 (T:Txt w K mg t)(D:Df K mg "at_bang" J9 ya):ig P w K mg fY 1 "at_bang" ya Zf:=by
 refine D.ok Tu ?_ ?_;walk_at"b"
 ·refine lZ h λwd oa op tk c h=>?_;refine lN h λho hw hop k=>?_;refine⟨_,(zc (zm (iw zx (qv 3) (qS [34])) (zd (zg (zh (ip (zh (lr (qS fA) (qS []) (qv 1) (qS fm))) (zl (iu (zh (iH (qS fD) (qv 0) (qS fA))))))))) zi) (zd (zg zL))).h,?_⟩
  walk_at"r";unfold KG at k;by_cases h0:c=34
  ·rw [ue h0] at k ⊢;exact λp hp p1 hp1 p2 hp2 p3 hp3=>k _ _ ((za hp).trans ((za hp1).trans ((za hp2).trans (za hp3)))) (Jn (za hp2 _ _ (za hp1 _ _ zb)) (((ho.mono (za hp)).mono (za hp1)).mono (za hp2)) (mf (e:=[ZC,wd,Zq]) hp2) (zo (zo hp2)) hp3)
  rw [ub h0] at k ⊢;exact k _ _ (fX.refl H) rfl
theorem zb2 (T:Txt w K mg t)(D:Df K mg "at_bare" Wb yb)(ag:ig P w K mg fY 2 "told" wB xo)(aa:ig P w K mg fY 1 "come_to" zM zS)(aB:ig P w K mg fY 3 "led_on" xJ vR):ig P w K mg fY 4 "at_bare" yb Zg:=by
 refine D.ok Tt ?_ ?_;walk_at"b"
 ·refine lZ h λwd oa op tk c h=>?_;refine lN h λho hw hop k=>?_;refine⟨_,(zc (zm (iw vv (qv 3) (jy T.g_WORDSIGNS)) (zd (zg (qF ag hr (iH (qS fE) (qv 1) (qv 3))))) zi) (zc (zm (iw zx (qv 3) (qS [126])) (zd (zg (qF aa hr (iH (qS [99,111,100,101]) (qv 1) (zl zC))))) zi) (zd (zg (qF aB hr (iH (qv 1) (qv 3) (zl zC))))))).h,?_⟩
  walk_at"r";unfold KI at k;by_cases h0:c∈ws
  ·rw [ue h0] at k ⊢;exact⟨op,some c,rfl,ho,λv H' g a=>k v H' g a⟩
  rw [ub h0] at k ⊢;by_cases h1:c=126
  ·rw [ue h1] at k ⊢;exact λp hp=>⟨op,ho.mono (za hp),[],iV,λv H' g a=>k v H' ((za hp).trans g) (a.imp λx e=>by subst e;exact hp)⟩
  rw [ub h1] at k ⊢;exact λp hp=>⟨op,ho.mono (za hp),[],iV,by simp,λv H' g a=>k v H' ((za hp).trans g) (a.imp λx e=>e.elim zo λe=>by subst e;exact hp)⟩
theorem zb3 (T:Txt w K mg t)(D:Df K mg "at_code" Wd yc)(ag:ig P w K mg fY 2 "told" wB xo)(aL:ig P w K mg fY 2 "sign_told" j5 xn):ig P w K mg fY 3 "at_code" yc Zh:=by
 refine D.ok Ts ?_ ?_;walk_at"b"
 ·refine lZ h λwd oa op tk c h=>?_;refine lN h λho hw hop k=>?_;refine⟨_,(zc (zm (iw zx (qv 0) (qS [])) (zd (zg (w6 (iw vv (qv 3) (jy T.g_FIGURES)) (zh (ip (zh (lr (qS [99,111,100,101]) (qv 3) (qv 1) (qS []))) (zl zC))) zL))) zi) (zd (zg (qF ag hr (iH (qS fE) (qv 1) (qF aL hr (iu (zr jA (qv 0) (qv 3))))))))).h,?_⟩
  walk_at"r";unfold KJ at k;by_cases h0:wd=[]
  ·rw [ue h0] at k ⊢;by_cases h5:c∈fg
   ·rw [ue h5] at k ⊢;exact λp hp p1 hp1 p2 hp2=>k _ _ ((za hp).trans ((za hp1).trans (za hp2))) (Jn (za hp1 _ _ zb) ((ho.mono (za hp)).mono (za hp1)) iV (zo hp1) hp2)
   ·rw [ub h5] at k ⊢;exact k _ _ (fX.refl H) rfl
  rw [ub h0] at k ⊢;exact⟨by lia,by rw [uc];simp;lia,λH1 g1=>⟨op,L2.told (wd++[c]),rfl,ho.mono g1,λv H' g a=>k v H' (g1.trans g) (a.imp λx e=>qh g1 e)⟩⟩
theorem RB (T:Txt w K mg t)(D:Df K mg "at_row" XG kh)(aa:ig P w K mg fY 1 "come_to" zM zS)(ag:ig P w K mg fY 2 "told" wB xo):ig P w K mg fY 3 "at_row" kh Qb:=by
 refine D.ok RK ?_ ?_;walk_at"b"
 ·refine lZ h λwd oa op tk c h=>?_;refine lN h λho hw hop k=>?_;refine⟨_,(zc (zm (iw zx (qv 3) (qS [92])) (zd (zg (qF aa hr (iH (qS fv) (qv 1) (zl zC))))) zi) (zc (zm (iw zx (qv 3) (qS [44])) (zd (zg (qF aa hr (iH (qS fF) (qv 1) (zl (iu (zh (iu (qS [110,101,120,116]))))))))) zi) (zc (zm (iw zx (qv 3) (qS [41])) (zd (zg (qF aa hr (iH (qS fH) (qv 1) (zl zC))))) zi) (zd (zg (qF ag hr (iH (qS fF) (qv 1) (qv 3)))))))).h,?_⟩
  walk_at"r";unfold oH at k;by_cases h0:c=92
  ·rw [ue h0] at k ⊢;exact λp hp=>⟨op,ho.mono (za hp),[],iV,λv H' g a=>k v H' ((za hp).trans g) (a.imp λx e=>by subst e;exact hp)⟩
  rw [ub h0] at k ⊢;by_cases h1:c=44
  ·rw [ue h1] at k ⊢;exact λp hp p1 hp1=>⟨op,ho.mono ((za hp).trans (za hp1)),[[AO]],mf (e:=[AO]) hp1,λv H' g a=>k v H' (((za hp).trans (za hp1)).trans g) (a.imp λx e=>by subst e;exact zo hp1)⟩
  rw [ub h1] at k ⊢;by_cases h2:c=41
  ·rw [ue h2] at k ⊢;exact λp hp=>⟨op,ho.mono (za hp),[],iV,λv H' g a=>k v H' ((za hp).trans g) (a.imp λx e=>by subst e;exact hp)⟩
  rw [ub h2] at k ⊢;exact⟨op,some c,rfl,ho,λv H' g a=>k v H' g a⟩
theorem YG (T:Txt w K mg t)(D:Df K mg "at_stroke" ZG xf)(ag:ig P w K mg fY 2 "told" wB xo):ig P w K mg fY 3 "at_stroke" xf vF:=by
 refine D.ok Yn ?_ ?_;walk_at"b"
 ·refine lZ h λwd oa op tk c h=>?_;refine lN h λho hw hop k=>?_;refine⟨_,(zd (zg (qF ag hr (iH (qS fF) (qv 1) (qv 3))))).h,?_⟩
  walk_at"r";unfold Jl at k;exact⟨op,some c,rfl,ho,λv H' g a=>k v H' g a⟩
theorem YH (T:Txt w K mg t)(D:Df K mg "at_quoted" ZI xg)(aa:ig P w K mg fY 1 "come_to" zM zS)(ag:ig P w K mg fY 2 "told" wB xo):ig P w K mg fY 3 "at_quoted" xg vG:=by
 refine D.ok Yo ?_ ?_;walk_at"b"
 ·refine lZ h λwd oa op tk c h=>?_;refine lN h λho hw hop k=>?_;refine⟨_,(zc (zm (iw zx (qv 3) (qS [34])) (zd (zg (qF aa hr (iH (qS fH) (qv 1) (zl zC))))) zi) (zc (zm (iw zx (qv 3) (qS [38])) (zd (zg (qF aa hr (iH (qS [113,109,97,114,107]) (qv 1) (zl zC))))) zi) (zd (zg (qF ag hr (iH (qS fG) (qv 1) (qv 3))))))).h,?_⟩
  walk_at"r";unfold Jm at k;by_cases h0:c=34
  ·rw [ue h0] at k ⊢;exact λp hp=>⟨op,ho.mono (za hp),[],iV,λv H' g a=>k v H' ((za hp).trans g) (a.imp λx e=>by subst e;exact hp)⟩
  rw [ub h0] at k ⊢;by_cases h1:c=38
  ·rw [ue h1] at k ⊢;exact λp hp=>⟨op,ho.mono (za hp),[],iV,λv H' g a=>k v H' ((za hp).trans g) (a.imp λx e=>by subst e;exact hp)⟩
  rw [ub h1] at k ⊢;exact⟨op,some c,rfl,ho,λv H' g a=>k v H' g a⟩
theorem zaA (T:Txt w K mg t)(D:Df K mg "at_qmark" QJ vg)(ah:ig P w K mg fY 1 "gathered" ql qz)(aA:ig P w K mg fY 3 "mark_ended" ji jK)(ag:ig P w K mg fY 2 "told" wB xo):ig P w K mg fY 4 "at_qmark" vg yG:=by
 refine D.ok zab ?_ ?_;walk_at"b"
 ·refine lZ h λwd oa op tk c h=>?_;refine lN h λho hw hop k=>?_;refine⟨_,(zc (zm (iw vv (qv 3) (jy T.g_FIGURES)) (zd (zg (qF ah hr (mK (qS [113,109,97,114,107]) (zr jA (qv 0) (qv 3)) (qv 1) (qS []) (jy T.g_MARK_FIGURES))))) zi) (zd (zg (qF ag hr (iH (qS fG) (qv 1) (qF aA hr (ip (qv 0) (qv 3)))))))).h,?_⟩
  walk_at"r";unfold Xq at k;by_cases h0:c∈fg
  ·rw [ue h0] at k ⊢;exact⟨by lia,op,2,rfl,ho,by rw [uc];simp;lia,λv H' g a=>k v H' g a⟩
  rw [ub h0] at k ⊢;exact⟨by lia,λH1 g1=>⟨op,WA wd c,rfl,ho.mono g1,λv H' g a=>k v H' (g1.trans g) (a.imp λx e=>qh g1 e)⟩⟩
theorem zb4 (T:Txt w K mg t)(D:Df K mg "at_done" Wf yd)(aB:ig P w K mg fY 3 "led_on" xJ vR):ig P w K mg fY 4 "at_done" yd Zi:=by
 refine D.ok Tr ?_ ?_;walk_at"b"
 ·refine lZ h λwd oa op tk c h=>?_;refine lN h λho hw hop k=>?_;refine⟨_,(zd (zg (qF aB hr (iH (qv 1) (qv 3) (zl zC))))).h,?_⟩
  walk_at"r";unfold KL at k;exact λp hp=>⟨op,ho.mono (za hp),[],iV,by simp,λv H' g a=>k v H' ((za hp).trans g) (a.imp λx e=>e.elim zo λe=>by subst e;exact hp)⟩
theorem zb5 (T:Txt w K mg t)(D:Df K mg "at_talk" Wh ye)(aa:ig P w K mg fY 1 "come_to" zM zS)(aM:ig P w K mg fY 4 "fed" JW XT):ig P w K mg fY 5 "at_talk" ye Zj:=by
 refine D.ok Tp ?_ ?_;walk_at"b"
 ·refine lZ h λwd oa op tk c h=>?_;refine lN h λho hw hop k=>?_;refine⟨_,(zc (zm (iw zx (qv 3) (qS [38])) (zd (zg (zh (ip (zh (lr (qS [116,109,97,114,107]) (qS []) (qv 1) (qv 2))) (zl zC))))) zi) (zc (zm (iw zx (qv 3) (qS [34])) (zd (zg (w6 (iw (E1 (K:=K) (by rfl)) (qv 2) (zh (ip (qS fm) (qS fq)))) (qF aa hr (iH (qS fH) (qv 1) (zl zC))) zL))) zi) (zd (zg (qF aM hr (iH (qv 1) (qv 2) (qv 3))))))).h,?_⟩
  walk_at"r";unfold KN at k;by_cases h0:c=38
  ·rw [ue h0] at k ⊢;exact λp hp p1 hp1 p2 hp2=>k _ _ ((za hp).trans ((za hp1).trans (za hp2))) (Jn (za hp1 _ _ zb) ((ho.mono (za hp)).mono (za hp1)) iV (zo hp1) hp2)
  rw [ub h0] at k ⊢;by_cases h1:c=34
  ·rw [ue h1] at k ⊢;intro p hp;refine⟨_,.inr (ir.of zb),rfl,rfl,?_⟩;have e:=EY tk [jQ,Qj];rw [show([jQ,Qj].map λx=>V.str (S x))=[V.str (S [98,101,116,119,101,101,110]),V.str (S [119,111,114,100])] from rfl] at e;rw [e];have g0:=za (o:=.tup [V.str (S [98,101,116,119,101,101,110]),V.str (S [119,111,114,100])]) hp;by_cases h5:tk=jQ\/tk=Qj
   ·rw [ue h5] at k;rw [ue (by simpa using h5)];exact λp1 hp1=>⟨op,(ho.mono g0).mono (za hp1),[],iV,λv H' g a=>k v H' (g0.trans ((za hp1).trans g)) (a.imp λx e=>by subst e;exact zo hp1)⟩
   ·rw [ub h5] at k;rw [ub (by simpa using h5)];exact k _ _ g0 rfl
  rw [ub h1] at k ⊢;exact⟨op,some c,rfl,ho,λv H' g a=>k v H' g a⟩
theorem zaB (T:Txt w K mg t)(D:Df K mg "at_tmark" QL vh)(ah:ig P w K mg fY 1 "gathered" ql qz)(aA:ig P w K mg fY 3 "mark_ended" ji jK)(aM:ig P w K mg fY 4 "fed" JW XT):ig P w K mg fY 5 "at_tmark" vh yH:=by
 refine D.ok zac ?_ ?_;walk_at"b"
 ·refine lZ h λwd oa op tk c h=>?_;refine lN h λho hw hop k=>?_;refine⟨_,(zc (zm (iw vv (qv 3) (jy T.g_FIGURES)) (zd (zg (qF ah hr (mK (qS [116,109,97,114,107]) (zr jA (qv 0) (qv 3)) (qv 1) (qv 2) (jy T.g_MARK_FIGURES))))) zi) (zd (zg (qF aM hr (iH (qv 1) (qv 2) (qF aA hr (ip (qv 0) (qv 3)))))))).h,?_⟩
  walk_at"r";unfold Xr at k;by_cases h0:c∈fg
  ·rw [ue h0] at k ⊢;exact⟨by lia,op,2,rfl,ho,by rw [uc];simp;lia,λv H' g a=>k v H' g a⟩
  rw [ub h0] at k ⊢;exact⟨by lia,λH1 g1=>⟨op,WA wd c,rfl,ho.mono g1,λv H' g a=>k v H' (g1.trans g) (a.imp λx e=>qh g1 e)⟩⟩
theorem zb6 (T:Txt w K mg t)(D:Df K mg "at_asis" Z8 yf)(aC:ig P w K mg fY 2 "box_shut" jT wU)(aa:ig P w K mg fY 1 "come_to" zM zS):ig P w K mg fY 3 "at_asis" yf Zk:=by
 refine D.ok QN ?_ ?_;walk_at"b"
 ·refine lZ h λwd oa op tk c h=>?_;refine lN h λho hw hop k=>?_;refine⟨_,(zc (iC 4 QN.nd (zr jA (qv 0) (qv 3))) (zc (zm (iw zx (qv 4) (jy T.g_ASIS_END)) (zd (zg (qF aC hr (ip (qv 1) (zl zC))))) zi) (zc (zm (jM (vy (K:=K) (by rfl) PySem.F.plainAttrs_str PySem.F.slot_str_startswith PySem.F.type_str_startswith Xv (jy T.g_ASIS_END) (iu (qv 4)))) (zd (zg (zh (ip (zh (lr (qS fz) (qv 4) (qv 1) (qS []))) (zl zC))))) zi) (zc ⟨RR (i:=5) QN.nd rfl (Or.inl rfl) (lcs (N:=Z9) (sc:=zf Z8) rfl rfl rfl (by decide +kernel)) (Lv (qv 0)).h (λ_ _ _ _ _=>Oj.h) (λ_ _ _ _ _=>(zh (ip (qS fu) (qv 0))).h)⟩ (zc (zm (iw zx (qv 3) (qS [60])) (zd (zg (zh (ip (zh (lr (qS fz) (qv 3) (qv 1) (qS []))) (qv 5))))) zi) (zd (zg (qF aa hr (iH (qS fz) (qv 1) (zr qx (qv 5) (zl (iu (zh (ip (qS fu) (qv 3))))))))))))))).h,?_⟩
  walk_at"r";unfold KO at k;refine⟨by lia,?_⟩;by_cases h1:wd++[c]=kF
  ·rw [ue h1] at k ⊢;exact λp hp=>⟨op,ho.mono (za hp),[],iV,by simp,λv H' g a=>k v H' ((za hp).trans g) (a.imp λx e=>zo e)⟩
  rw [ub h1] at k ⊢;by_cases h2:(wd++[c]).isPrefixOf kF=true
  ·rw [ue h2] at k ⊢;exact λp hp p1 hp1 p2 hp2=>k _ _ ((za hp).trans ((za hp1).trans (za hp2))) (Jn (za hp1 _ _ zb) ((ho.mono (za hp)).mono (za hp1)) iV (zo hp1) hp2)
  rw [ub h2] at k ⊢;refine Ou (λc v H=>oi H v [j9,[c]]) (λc v H1 H2 h g=>h.mono g) (λc v H1 D xs ys h hD=>?_) (by rw [uR];lia) (λc _ H1 g R r=>?_) (λD H2 ys hD g2 hy hG hD2=>?_)
  ·obtain⟨a,e1,e2⟩:=h;exact⟨a,e1,by rw [zk (Kd e2 hD (by intro z;cases z))];exact e2⟩
  ·walk_at"r";exact λp hp=>r _ _ (za hp) ⟨p,rfl,zb⟩
  have he:mv H2 ys (wd.map λk=>[j9,[k]]):=DH hy hG;have hel:mI H2 D (wd.map λk=>[j9,[k]]):=⟨ys,hD2,he⟩
  by_cases h3:c=60
  ·rw [ue h3] at k ⊢;exact λp hp p1 hp1=>k _ _ (g2.trans ((za hp).trans (za hp1))) (Jn zb ((ho.mono g2).mono (za hp)) (hel.mono (za hp)) hD hp1)
  rw [ub h3] at k ⊢;intro p hp p1 hp1;have g3:=(za (o:=.tup [.str (S j9),.str (S [c])]) hp).trans (za (o:=.lst [.ref p]) hp1);refine⟨D,rfl,ys,g3 _ _ hD2,_,zb,by rw [hy];simp;lia,λp2 hp2=>?_⟩;have g4:=g3.trans (za (o:=.lst (ys++[.ref p])) hp2);exact⟨op,(ho.mono g2).mono g4,_,⟨_,zb,(he.mono g4).app (.cons ⟨p,rfl,za hp2 _ _ (za hp1 _ _ zb)⟩ .nil)⟩,λv H' g a=>k v H' (g2.trans (g4.trans g)) (a.imp λx e=>by subst e;exact qh g2 (zo (zo hp2)))⟩
theorem ON (T:Txt w K mg t)(D:Df K mg "moved" Yp ZK)(bj:ig P w K mg fY 3 "at_text" vY k9)(bo:ig P w K mg fY 4 "at_mark" vZ Za)(bp:ig P w K mg fY 2 "at_open" v5 Zb)(bq:ig P w K mg fY 4 "at_name" v7 Zc)(br:ig P w K mg fY 3 "at_slash" vf yF)(bu:ig P w K mg fY 3 "at_shut" v8 Zd)(bw:ig P w K mg fY 2 "at_gap" kg Qa)(bA:ig P w K mg fY 2 "at_attr" v9 Ze)(bB:ig P w K mg fY 2 "at_is" ZF Jw)(bC:ig P w K mg fY 1 "at_bang" ya Zf)(bD:ig P w K mg fY 4 "at_bare" yb Zg)(bE:ig P w K mg fY 3 "at_code" yc Zh)(bF:ig P w K mg fY 3 "at_row" kh Qb)(bG:ig P w K mg fY 3 "at_stroke" xf vF)(bH:ig P w K mg fY 3 "at_quoted" xg vG)(bI:ig P w K mg fY 4 "at_qmark" vg yG)(bJ:ig P w K mg fY 4 "at_done" yd Zi)(bK:ig P w K mg fY 5 "at_talk" ye Zj)(bL:ig P w K mg fY 5 "at_tmark" vh yH)(bM:ig P w K mg fY 3 "at_asis" yf Zk):ig P w K mg fY 6 "moved" ZK Z0:=by
 refine D.ok Fy ?_ ?_;walk_at"b"
 ·refine oC h λx st c h=>?_;refine lN h λhst hw hop k=>?_;refine⟨_,(zc (iC 2 Fy.nd (Oo T.d_MODES (iy K (qv 0) ze))) (zd (zg (w6 (iw JG (qv 2) zL) zL (Ra (k:=5) (qv 2) hr (by decide) (lr (iy K (qv 0) ze) (iy K (qv 0) ze) (iy K (qv 0) ze) (qv 1))))))).h,?_⟩
  walk_at"r";obtain⟨p,o,rfl,hp,ho⟩:=hst
  have hF:∀ e∈oj t,Dh P w K mg fY 5 e.2.2 (mr e.2.1):=by
   intro e he;simp only [oj,uq,gQ,GO] at he;rcases he with rfl | rfl | rfl | rfl | rfl | rfl | rfl | rfl | rfl | rfl | rfl | rfl | rfl | rfl | rfl | rfl | rfl | rfl | rfl | rfl
   ·exact bj.fnv T.m_at_text (by decide)
   ·exact bo.fnv T.m_at_mark (by decide)
   ·exact bp.fnv T.m_at_open (by decide)
   ·exact bq.fnv T.m_at_name (by decide)
   ·exact br.fnv T.m_at_slash (by decide)
   ·exact bu.fnv T.m_at_shut (by decide)
   ·exact bw.fnv T.m_at_gap (by decide)
   ·exact bA.fnv T.m_at_attr (by decide)
   ·exact bB.fnv T.m_at_is (by decide)
   ·exact bC.fnv T.m_at_bang (by decide)
   ·exact bD.fnv T.m_at_bare (by decide)
   ·exact bE.fnv T.m_at_code (by decide)
   ·exact bF.fnv T.m_at_row (by decide)
   ·exact bG.fnv T.m_at_stroke (by decide)
   ·exact bH.fnv T.m_at_quoted (by decide)
   ·exact bI.fnv T.m_at_qmark (by decide)
   ·exact bJ.fnv T.m_at_done (by decide)
   ·exact bK.fnv T.m_at_talk (by decide)
   ·exact bL.fnv T.m_at_tmark (by decide)
   ·exact bM.fnv T.m_at_asis (by decide)
  refine⟨p,rfl,_,ir.of hp,_,rfl,.inr (S st.mode),rfl,?_⟩;unfold yt at k;rw [P0 t] at k;rcases Fx st.mode (oj t) with⟨e,he,h1,h2⟩ | ⟨h1,h2⟩
  ·rw [h2] at k;unfold rR;rw [h1,ub (by intro z;cases z)];exact⟨e.2.2,rfl,mr e.2.1,hF e he,p,rfl,_,ir.of hp,_,rfl,p,rfl,_,ir.of hp,_,rfl,p,rfl,_,ir.of hp,_,rfl,st.word,o,st.opens,st.talk,c,rfl,ho,hw,hop,k⟩
  ·rw [h2] at k;unfold rR;rw [h1,ue (show(none:Option V).getD V.non=V.non from rfl)];exact k _ _ (fX.refl H) rfl
theorem OM (T:Txt w K mg t)(D:Df K mg "begin" Yr yg):ig P w K mg fY 1 "begin" yg kj:=by
 refine D.ok P1 ?_ ?_;walk_at"b"
 ·refine pU h λk=>?_;refine⟨_,(zd (zg (zh (lr (qS fw) (qS []) (zh zC) (qS []))))).h,?_⟩
  walk_at"r";exact λp hp p1 hp1=>k _ _ ((za hp).trans (za hp1)) ⟨p1,p,rfl,zb,za hp1 _ _ zb⟩
theorem MG (T:Txt w K mg t)(D:Df K mg "step" Bl Ju)(bN:ig P w K mg fY 6 "moved" ZK Z0):ig P w K mg fY 7 "step" Ju W3:=by
 refine D.ok Ob ?_ ?_;walk_at"b"
 ·refine oC h λx st c h=>?_;refine lN h λhst hw hop k=>?_;refine⟨_,(zd (zg (qF bN hr (ip (qv 0) (qv 1))))).h,?_⟩
  walk_at"r";exact⟨st,hst,hw,hop,k⟩
theorem zb7 (T:Txt w K mg t)(D:Df K mg "floored" Wk wH):ig P w K mg fY 1 "floored" wH xK:=by
 refine D.ok T8 ?_ ?_;walk_at"b"
 ·refine nU h λx st h=>?_;refine mS h λhst k=>?_;refine⟨_,(zd (zg (zh (lr (iy K (qv 0) ze) (iy K (qv 0) ze) (zh zC) (iy K (qv 0) ze))))).h,?_⟩
  walk_at"r";obtain⟨p,o,rfl,hp,ho⟩:=hst;exact⟨p,rfl,_,ir.of hp,_,rfl,p,rfl,_,ir.of hp,_,rfl,λp1 hp1=>⟨p,rfl,_,ir.of (za hp1 _ _ hp),_,rfl,λp2 hp2=>k _ _ ((za hp1).trans (za hp2)) ⟨p2,p1,rfl,zb,za hp2 _ _ zb⟩⟩⟩
def JE (es:List Ev)(i:Nat):Except Nat (MS×List Ev)->Except Nat (MS×List Ev)
 | .error n=>.error (n+i)
 | .ok (s',fs)=>.ok (s',es++fs)
theorem MF (r:Except Nat (MS×List Ev)):JE [] 0 r=r:=by
 cases r with
 | error n=>rfl
 | ok r=>cases r;rfl
theorem zb8 {s s':MS}{c:Nat}{r:Ld}{es fs:List Ev}{i:Nat}(h:yt s c=some (s',fs)):JE es i (runM s (c::r))=JE (es++fs) (i+1) (runM s' r):=by
 simp only [runM,h];cases runM s' r with
 | error n=>simp only [JE];congr 1;omega
 | ok q=>obtain⟨s2,gs⟩:=q;simp only [JE,uC]
theorem T9 {s:MS}{c:Nat}{r:Ld}{es:List Ev}{i:Nat}(h:yt s c=none):JE es i (runM s (c::r))=.error i:=by simp only [runM,h,JE,Nat.zero_add]
def Cg (x:V)(st:MS)(l:Ld)(p:Addr)(H:Hp)(i:Nat)(σ:L2.St)(H':Hp):Prop:=∃ (v:V) (s:MS) (es:List Ev) (o4 o5 o6:Option V),σ=[some x,some (V.str (S l)),some v,some (V.ref p),o4,o5,o6]/\fX H H'/\lW H' v s/\mI H' p es/\s.word.length<=8/\s.opens.length<=st.opens.length+i/\es.length<=10 * i/\runM st l=JE es i (runM s (l.drop i))
theorem Mf (T:Txt w K mg t)(D:Df K mg "run" AW Wj)(bO:ig P w K mg fY 7 "step" Ju W3)(bP:AE P w K mg fY "Unread" t.Unread "at" nQ):n9 P w K mg fY 8 "run" Wj (XU t):=by
 refine D.okX QP ?_ ?_;walk_at"b"
 ·refine oC h λx st l h=>?_;refine av5 h λhst hw hl k kx=>?_;refine⟨_,(zc (iC 2 QP.nd (qv 0)) (zc (iC 3 QP.nd (zl zC)) (zc (wG PassesOwn.leaving (by rfl) (P9 (by rfl) T.z_enumerate (iu (qv 1))) (vV (n:=2) (by rfl) (zI (ly 4 QP.nd) (zI (ly 5 QP.nd) xb))) (zc (iC 6 QP.nd (qF bO hr (ip (qv 2) (qv 5)))) (zc (zm (iw JG (qv 6) zL) (zd (P7 zP bP hr (by decide) (iu (qv 4)))) zi) (zc (iC 2 QP.nd (iy K (qv 6) ze)) (zd (xc (vy (K:=K) (by rfl) uL gC gE JL (qv 3) (iu (iy K (qv 6) ze))))))))) (zd (zg (zh (ip (qv 2) (qv 3)))))))).h,?_⟩
  walk_at"r";intro p hp;refine PQ (K:=K) (Cg x st l p H) ⟨x,st,[],none,none,none,rfl,za hp,hst.mono (za hp),iV,hw,by lia,by simp,by rw [US,MF]⟩ ?_ ?_
  ·rintro i c σ H1 hi ⟨v,s,es,o4,o5,o6,rfl,g1,hs,he,hw1,ho1,hl1,hr⟩ p1 hp1;have hil:=(ur.mp hi).1;have ed:l.drop i=c::l.drop (i+1):=by rw [uW hil,(ur.mp hi).2]
   rw [ed] at hr
   walk_at"r";have g2:=g1.trans (za (o:=.tup [.int i,.str (S [c])]) hp1);refine⟨s,hs.mono (za hp1),by lia,by lia,λv2 H2 g3 a=>?_⟩;cases hq:yt s c with
   | none=>rw [hq] at a;have a:v2=.non:=a;subst a;rw [ue rfl];exact⟨.inl ⟨_,rfl,by omega,by omega⟩,λd H3 s3 _ e=>kx i (by rw [hr,T9 hq]) d H3 (g2.trans (g3.trans s3)) e⟩
   | some r=>obtain⟨s',fs⟩:=r;rw [hq] at a;obtain⟨q,sa,ea,rfl,hq1,hs1,he1,hg⟩:=a;obtain⟨b1,b2,b3⟩:=EX s c s' fs hq hw1;obtain⟨vs,e1,e2⟩:=he;obtain⟨us,f1,f2⟩:=he1;have e1':=g3 _ _ (za hp1 _ _ e1);rw [ub (by intro z;cases z)];have l1:=e2.len;have l2:=f2.len;refine⟨q,rfl,_,ir.of hq1,_,rfl,.inl ⟨rfl,_,iA.of e1'⟩,q,rfl,_,ir.of hq1,_,rfl,ea,rfl,vs,e1',us,f1,by omega,?_⟩;refine⟨sa,s',es++fs,_,_,_,rfl,?_,hs1.updL e1',⟨_,zb,((e2.mono ((za hp1).trans g3)).updL e1').app (f2.updL e1')⟩,b1,by omega,by rw [uc];omega,by rw [hr,zb8 hq]⟩;intro b o e;rw [zk (zv e hp)];exact g3 _ _ (g2 _ _ e)
  ·rintro σ H1 ⟨v,s,es,o4,o5,o6,rfl,g1,hs,he,hw1,ho1,hl1,hr⟩;rw [List.drop_length] at hr
   walk_at"r";intro p2 hp2;refine k s es (by rw [hr];simp only [runM,JE,uj]) _ _ (g1.trans (za hp2)) ?_;exact⟨p2,v,p,rfl,zb,hs.mono (za hp2),he.mono (za hp2),hp⟩
theorem zaC (T:Txt w K mg t)(D:Df K mg "_law_cell" ZN xj):ig P w K mg fY 1 "_law_cell" xj (vH K):=by
 refine D.ok kP ?_ ?_;walk_at"b"
 ·refine oC h λa ns k h=>?_;refine lN h λhS h63 hk q=>?_;refine⟨_,(zc (zm (iw Ad (qv 1) (zK (xH (K:=K) (by rfl)) (by rfl) T.z_len yQ (iu (qv 0)))) (zd (zg (zr xG (mQ K (qv 0) (qv 1)) (zr jN (zr jN (zr Xc ze ze) (zr Xc ze ze)) (zr Xc ze ze))))) zi) (zc (iC 2 kP.nd (zr qZ (zr jN ze (qv 1)) ze)) (zc (zm (iw Xd (zK (xH (K:=K) (by rfl)) (by rfl) T.z_len yQ (iu (qv 0))) ze) (zd (iC 2 kP.nd (zr qZ (zr jN (zr xG (mQ K (qv 0) (zr xG (zr jN (qv 1) ze) (zK (xH (K:=K) (by rfl)) (by rfl) T.z_len yQ (iu (qv 0))))) (zr Xc ze ze)) ze) (zr jN (zr jN (qv 1) (qv 1)) ze)))) zi) (zd (zg (zr xG (zr jN (zr xG (qv 2) ze) ze) ze)))))).h,?_⟩
  walk_at"r";refine⟨_,.inl hS,?_⟩;rw [uk];by_cases hlt:k<ns.length
  ·rw [ue (by lia)];have hn:ns[k]? = some ns[k]:=uy hlt;refine⟨_,hS,.int ns[k],by rw [Uk,hn];rfl,oG (by decide),oG (by decide),(by unfold IntMulOk;decide +kernel),oG (by decide),(by unfold IntMulOk;decide +kernel),_,rfl,by decide +kernel,q _ H (fX.refl H)⟩
  ·rw [ub (by lia)];refine⟨kB (by decide),_,.inl hS,?_⟩;rw [uk];by_cases h0:0<ns.length
   ·rw [ue (by lia)];obtain⟨n,e,_⟩:=Sj (ns:=ns) (i:=(k:Int) * 7 % (ns.length:Int)) (V5 (by lia)).1 (V5 (by lia)).2;refine⟨Z5 (by decide),_,.inl hS,by rw [uk];lia,_,hS,.int n,by rw [uk];exact e,oG (by decide),n,rfl,by decide +kernel,Z5 (by decide),kB (by lia),Z5 (by decide),Z5 (by decide),q _ H (fX.refl H)⟩
   ·rw [ub (by lia)];exact⟨Z5 (by decide),q _ H (fX.refl H)⟩
theorem To (T:Txt w K mg t)(D:Df K mg "_law_mix" QY qy):ig P w K mg fY 1 "_law_mix" qy qT:=by
 refine D.ok yu ?_ ?_;walk_at"b"
 ·refine oC h λc k m h=>?_;refine lN h λhk0 hk hm q=>?_;refine⟨_,(zc (zm (QW.qt (xI (iw zx (zr xG (qv 0) ze) ze) (xI (iw Xd (qv 0) (zr Xc ze ze)) (wA (iw Xd (zr D9 (qv 0) (zr qZ (zr jN ze (qv 1)) ze)) ze))))) (zd (zg (zr xG (zr D9 (qv 0) (zr qZ (zr jN ze (qv 1)) ze)) (qv 2)))) zi) (zc (iC 3 yu.nd (mQ K (zl (qN (by exact ze) (by exact(qN (by exact ze) (by exact(qN (by exact ze) (by exact(mK ze ze ze ze ze)))))))) (zr xG (qv 1) ze))) (zc (iC 4 yu.nd (mQ K (zl (qN (by exact ze) (by exact(qN (by exact ze) (by exact(mK ze ze ze ze ze)))))) (zr xG (qv 1) ze))) (zc (iC 5 yu.nd (zr xG (zr jN (zr qZ (zr xG (zr NV (qv 0) (zr jN (zr jN (qv 1) (qv 1)) (qv 1))) ze) ze) (qv 3)) ze)) (zd (zg (zr xG (zr xG (zr jN (zr qZ (qv 5) ze) (qv 4)) ze) (qv 2)))))))).h,?_⟩;have fin:∀ (v:Int) (H':Hp),mx c k=v->fX H H'->Q (.int (v % m)) H':=λv H' e g=>by have:=q H' g;rw [Mq hm,e] at this;exact this
  have els:mx c k=pH c k->∀ (p:Addr),H p=none->∃ x,iA K (upd H p (HO.lst [V.int 1000000007,V.int 1181783503,V.int 1372345291,V.int 1518500279,V.int 1636201513,V.int 1734723539,V.int 1871234567,V.int 2012345681])) p x/\∃ x_1,mh x (k % 8)=some x_1 /\
    ∀ (p_1:Addr),upd H p (HO.lst [V.int 1000000007,V.int 1181783503,V.int 1372345291,V.int 1518500279,V.int 1636201513,V.int 1734723539,V.int 1871234567,V.int 2012345681]) p_1=none->∃ x,iA K (upd (upd H p (HO.lst [V.int 1000000007,V.int 1181783503,V.int 1372345291,V.int 1518500279,V.int 1636201513,V.int 1734723539,V.int 1871234567,V.int 2012345681])) p_1 (HO.lst [V.int 100000000003,V.int 223606797763,V.int 314159265359,V.int 414213562379,V.int 577215664943,V.int 693147180563,V.int 732050807573])) p_1 x /\
    ∃ x_2,mh x (k % 7)=some x_2/\IntMulOk k k/\IntMulOk (k * k) k/\∃ x,x_1=V.int x/\IntMulOk ((c+k * k * k) % 1000000000039+1) x/\∃ x_3,x_2=V.int x_3/\IntMulOk (((c+k * k * k) % 1000000000039+1) * x % 2147483629+1) x_3/\0<m /\
    Q (V.int ((((c+k * k * k) % 1000000000039+1) * x % 2147483629+1) * x_3 % 999999999989 % m)) (upd (upd H p (HO.lst [V.int 1000000007,V.int 1181783503,V.int 1372345291,V.int 1518500279,V.int 1636201513,V.int 1734723539,V.int 1871234567,V.int 2012345681])) p_1 (HO.lst [V.int 100000000003,V.int 223606797763,V.int 314159265359,V.int 414213562379,V.int 577215664943,V.int 693147180563,V.int 732050807573])):=by
   intro e p hp
   refine⟨_,iA.of zb,_,at8 k,λp2 hp2=>⟨_,iA.of zb,_,at7 k,?_⟩⟩
   have m1:=V5 (a:=c+k * k * k) (m:=1000000000039) (by decide)
   refine⟨kB (by lia),Z5 (by lia),_,rfl,kB (by lia),_,rfl,kB ?_,hm,fin _ _ e ((za hp).trans (za hp2))⟩
   have m2:=V5 (a:=((c+k * k * k) % 1000000000039+1) * L1 k) (m:=2147483629) (by decide)
   lia
  walk_at"r";by_cases h1:c % 2=0
  ·rw [ue h1];refine⟨oG (by decide),?_⟩;by_cases h2:10 ^ Int.toNat 18<c
   ·rw [ue h2];refine⟨kB (by decide),by lia,?_⟩;by_cases h3:0<c / 2 ^ (7 * k+8).toNat
    ·rw [ue h3];exact⟨kB (by decide),by lia,hm,fin _ H (by unfold mx;rw [ue h1,ue h2,ue h3]) (fX.refl H)⟩
    ·rw [ub h3];exact els (by unfold mx;rw [ue h1,ue h2,ub h3])
   ·rw [ub h2];exact els (by unfold mx;rw [ue h1,ub h2])
  ·rw [ub h1];exact els (by unfold mx;rw [ub h1])
theorem zaD (T:Txt w K mg t)(D:Df K mg "_law_part" ZP qO)(ae:ig P w K mg fY 1 "_law_mix" qy qT):ig P w K mg fY 2 "_law_part" qO je:=by
 refine D.ok Yt ?_ ?_;walk_at"b"
 ·refine nU h λc k h=>?_;refine nK h λhk0 hk q=>?_;refine⟨_,(zd (zg (qF ae hr (iH (qv 0) (zr qZ ze (qv 1)) ze)))).h,?_⟩
  walk_at"r";exact⟨by lia,by lia,q⟩
theorem Tj {x:V}{s:MS}{H:Hp}{Q:VK}(k:Q (tF (ka s)) H)(hm:s.mode∉[xE,vT,lH,jB]):if s.mode=Zq then(if s.talk=vD then Q (.str (S vD)) H else Q .non H) else Q .non H:=by
 unfold ka at k;rw [ub hm] at k;by_cases h1:s.mode=Zq
 ·rw [ue h1];by_cases h2:s.talk=vD
  ·rw [ue h2];rw [ue ⟨h1,h2⟩] at k;exact k
  ·rw [ub h2];rw [ub (by rintro⟨_,z⟩;exact h2 z)] at k;exact k
 ·rw [ub h1];rw [ub (by rintro⟨z,_⟩;exact h1 z)] at k;exact k
theorem zaE (T:Txt w K mg t)(D:Df K mg "place_of" Qr xZ):ig P w K mg fY 1 "place_of" xZ yI:=by
 refine D.ok K5 ?_ ?_;walk_at"b"
 ·refine nU h λx st h=>?_;refine mS h λhst k=>?_;refine⟨_,(zc (zm (iw (E1 (K:=K) (by rfl)) (iy K (qv 0) ze) (qo T.m_PLACE_MODES)) (zd (zg (iy K (qv 0) ze))) zi) (zd (zg (w6 (QW.qt (xI (iw zx (iy K (qv 0) ze) (qS fA)) (wA (iw zx (iy K (qv 0) ze) (qS fo))))) (qS fo) zL)))).h,?_⟩
  walk_at"r";obtain⟨p,o,rfl,hp,ho⟩:=hst;have e:=EY st.mode [xE,vT,lH,jB];refine⟨p,rfl,_,ir.of hp,_,rfl,_,.inr (T.s_PLACE_MODES H),rfl,rfl,?_⟩;rw [show([xE,vT,lH,jB].map λx=>V.str (S x))=[V.str (S xE),V.str (S vT),V.str (S lH),V.str (S jB)] from rfl] at e;rw [show tx st.mode=V.str (S st.mode) from rfl,e];by_cases h1:st.mode∈[xE,vT,lH,jB]
  ·rw [ue (UC h1)];unfold ka at k;rw [ue h1] at k;exact⟨p,rfl,_,ir.of hp,_,rfl,k H (fX.refl H)⟩
  ·rw [ub (by simp only [Uy];exact h1)];have:=Tj (x:=.ref p) (k H (fX.refl H)) h1;refine⟨p,rfl,_,ir.of hp,_,rfl,rfl,?_⟩;by_cases h2:st.mode=Zq
   ·rw [ue h2] at this;rw [ue (show tx st.mode=V.str (S Zq) by rw [h2];rfl)];refine⟨p,rfl,_,ir.of hp,_,rfl,rfl,?_⟩;by_cases h3:st.talk=vD
    ·rw [ue h3] at this;rw [ue (show tx st.talk=V.str (S vD) by rw [h3];rfl)];exact this
    ·rw [ub h3] at this;rw [ub (by intro z;exact h3 (yq.mp (V.str.inj z)))];exact this
   ·rw [ub h2] at this;rw [ub (by intro z;exact h2 (yq.mp (V.str.inj z)))];exact this
theorem Ws (T:Txt w K mg t)(D:Dc K mg t.Spot "Spot" "Spot.__init__" vz qp):rn P w K mg fY 1 t.Spot "Spot" qp (qU t):=by
 refine D.ok Wm ?_ ?_;walk_at"b"
 ·refine lZ h λa dx sv ta n h=>?_;refine mS h λha q=>?_;refine⟨_,(zc (JR (K:=K) (by rfl) (qv 0) (qv 1)) (zc (JR (K:=K) (by rfl) (qv 0) (qv 2)) (zd (JR (K:=K) (by rfl) (qv 0) (qv 3))))).h,?_⟩
  walk_at"r";refine⟨_,_,_,ha,T.l_Spot,T.a_state,by decide,_,_,_,zb,T.l_Spot,T.a_turns,by simp [i9],_,_,_,zb,T.l_Spot,T.a_many,by simp only [i9];split<;>simp,?_⟩;rw [Q9,Q9];exact q
theorem zaF (T:Txt w K mg t)(D:Dm K t.Spot "met" "Spot.met" QQ jz)(aD:rn P w K mg fY 1 t.Spot "Spot" qp (qU t)):i6 P w K mg fY 3 t.Spot "met" jz (j0 t):=by
 refine D.ok zae ?_ ?_;walk_at"b"
 ·refine tU h λa dx ta sv0 sv n h=>?_;refine mS h λe1 q=>?_;refine⟨_,(zd (zg (Jr aD hr (by decide) (iH (qv 1) (qV (K:=K) (by rfl) (qv 0)) (zr qZ (qV (K:=K) (by rfl) (qv 0)) ze))))).h,?_⟩
  walk_at"r";refine⟨_,_,_,e1,T.l_Spot,T.a_turns,.ref ta,rfl,_,_,_,e1,T.l_Spot,T.a_many,_,rfl,_,rfl,λx dx' hx hd hne=>⟨_,ta,rfl,n+1,by lia,zb,?_⟩⟩;exact q x _ _ (Yw hx hd (.own x) []) hx zb
theorem X5 (T:Txt w K mg t)(D:Dm K t.Spot "turned" "Spot.turned" yV qW)(aD:rn P w K mg fY 1 t.Spot "Spot" qp (qU t)):i6 P w K mg fY 3 t.Spot "turned" qW (jv t):=by
 refine D.ok XM ?_ ?_;walk_at"b"
 ·refine pR h λa dx ta sv0 Tn n b h=>?_;refine lN h λe1 e3 hn q=>?_;refine⟨_,(zd (zg (Jr aD hr (by decide) (iH (qV (K:=K) (by rfl) (qv 0)) (zr qx (qV (K:=K) (by rfl) (qv 0)) (zl (iu (qv 1)))) (qV (K:=K) (by rfl) (qv 0)))))).h,?_⟩
  walk_at"r";refine⟨_,_,_,e1,T.l_Spot,T.a_state,sv0,rfl,_,_,_,e1,T.l_Spot,T.a_turns,.ref ta,rfl,λp hp=>⟨ta,rfl,_,za hp _ _ e3,_,zb,by rw [uk];simp;lia,λp1 hp1=>?_⟩⟩;have k0:=za (o:=.lst [V.int b]) hp;have k1:=za (o:=.lst ((Tn.map λ(t:Nat)=>V.int t)++[V.int b])) hp1;have k01:=k0.trans k1;refine⟨_,_,_,k01 _ _ e1,T.l_Spot,T.a_many,_,rfl,λx dx' hx hd hne=>⟨_,n,rfl,zb,?_⟩⟩;have g:=Yw (t:=t) (ta:=p1) (sv:=sv0) (n:=n) hx hd (.own x) [];refine q x _ p1 _ (k01.trans g) (none_of k01 hx) (none_of k0 hp1) zb ?_;refine g _ _ ?_;rw [zb,UG];rfl
theorem Qh (T:Txt w K mg t)(D:Dc K mg t.Looking "Looking" "Looking.__init__" wJ qL):rn P w K mg fY 1 t.Looking "Looking" qL (jo t):=by
 refine D.ok Qg ?_ ?_;walk_at"b"
 ·refine oC h λa dx kv h=>?_;refine mS h λha q=>?_;refine⟨_,(zc (JR (K:=K) (by rfl) (qv 0) (qv 1)) (zc (JR (K:=K) (by rfl) (qv 0) (zl zC)) (zd (JR (K:=K) (by rfl) (qv 0) (zl zC))))).h,?_⟩
  walk_at"r";refine⟨_,_,_,ha,T.l_Looking,T.a_kept,by decide,λp hp=>?_⟩;have hpa:p≠a:=λz=>by subst z;rw [zb] at hp;cases hp
  refine⟨_,_,_,by rw [zk hpa.symm];exact zb,T.l_Looking,T.a_holes,by simp [i9],λp1 hp1=>?_⟩;have hp1a:p1≠a:=λz=>by subst z;rw [zb] at hp1;cases hp1
  have hp1p:p1≠p:=λz=>by subst z;rw [zk hpa,zb] at hp1;cases hp1
  refine⟨_,_,_,by rw [zk hp1a.symm];exact zb,T.l_Looking,T.a_pairs,by simp only [i9];split<;>simp,?_⟩;rw [zk hpa] at hp;rw [zk hp1a,zk hp1p,zk hp1a] at hp1;refine q p p1 _ zb (λb o hb e=>?_) ?_ ?_ hp1p.symm hp hp1
  ·have b1:b≠p1:=λz=>by subst z;rw [hp1] at e;cases e
   have b2:b≠p:=λz=>by subst z;rw [hp] at e;cases e
   rw [zk hb,zk b1,zk hb,zk b2,zk hb];exact e
  ·rw [zk hpa,zk hp1p.symm,zk hpa,zb]
  ·rw [zk hp1a,zb]
theorem Vi (T:Txt w K mg t)(D:Dm K t.Spot "shown" "Spot.shown" kL zV):mj P w K mg fY 1 t.Spot "shown" zV (qg t):=by
 refine D.okN Vd ?_ ?_;walk_at"b"
 ·refine tU h λa dx ta sv n Tn h=>?_;refine lN h λe1 e2 e3 q=>?_;refine⟨_,(zd (zg (zh (ip (JQ (TN (K:=K) (by rfl)) (by rfl) T.z_list NF (iu (qV (K:=K) (by rfl) (qv 0)))) (qV (K:=K) (by rfl) (qv 0)))))).h,?_⟩
  walk_at"r";refine⟨_,_,_,e1,T.l_Spot,T.a_turns,.ref ta,rfl,ta,rfl,_,iA.of e2,λl hl=>⟨_,_,_,za hl _ _ e1,T.l_Spot,T.a_many,_,rfl,λp hp=>?_⟩⟩;have k2:=za (o:=.tup [.ref l,.int n]) hp;exact q p l _ ((za hl).trans k2) hl zb (k2 _ _ zb)
theorem WO (T:Txt w K mg t)(D:Dm K t.Looking "look_literal" "Looking.look_literal" jD zJ)(aN:n9 P w K mg fY 8 "run" Wj (XU t))(ak:i6 P w K mg fY 3 t.Spot "met" jz (j0 t))(ai:mj P w K mg fY 1 t.Spot "shown" zV (qg t))(bQ:lJ P w K mg fY "Astray" t.Astray FN tI):i6 P w K mg fY 12 t.Looking "look_literal" zJ (qf t):=by
 refine D.ok jr ?_ ?_;walk_at"b"
 ·refine pR h λlo ha sp pv ps x hv h=>?_;refine rg h λzz0 hlo zz2 zz3 hha zz5 q qe=>?_;obtain⟨z,rfl⟩:=zz0;obtain⟨p,ep,hp⟩:=zz2;obtain⟨dx,sv,ta,e1,e2,e3⟩:=zz3;obtain⟨b1,b2,b3,b4,b5⟩:=zz5;refine⟨_,(zc (Of (i:=4) zP T.m_Unread T.c_Unread jr.nd (by rfl) (by rfl) (by rfl) (by rfl) (λE pn xe hp hx=>(zd (iC 3 jr.nd (Xw hx aN hr (by decide) (ip (qV (K:=K) (by rfl) (qv 2)) (iy K (qv 1) ze)))))) (λpn ea xe hxe=>(zd (RN hxe (by rfl) bQ (hr.n.marked _) (by decide) (ip (RO ai (hr.n.marked _) (by decide) (qv 2)) (kH (K:=K) (by rfl) (qv 4))))))) (zd (zg (xY ak hr (by decide) (qv 2) (iu (iy K (qv 3) ze)))))).h,?_⟩;cases ep;obtain⟨pa,vs,rfl,hpa,rfl⟩:=n5 hp;simp only [iD,l9,ik,iE] at b2 b3 b4 b5;simp only [xM,z9] at q qe;have e1':=zp _ _ e1
  walk_at"d";refine⟨_,_,_,e1',T.l_Spot,T.a_state,sv,rfl,_,ir.of (zp _ _ hpa),_,jH _ _ _,x.s,z,rfl,e2.mono zp,b1,by lia,λs' es hr v H1 g1 hv1=>?_,λb hr d H1 g1 hd=>?_⟩
  ·obtain⟨p4,sa4,ea4,rfl,f1,f2,_⟩:=hv1
   walk_at"d";refine⟨dx,_,g1 _ _ e1',rfl,_,ir.of f1,sa4,zA _ _,dx,ta,sv,x.n,g1 _ _ e1',λr dx' H2 g2 hr2 er=>?_⟩;have g12:=g1.trans g2;refine q ⟨s',x.T,x.n+1⟩ [] (by rw [hr]) r [] H2 (Gr.same hha g12) .nil (vI (qI (g1 _ _ hha) hr2) er (By (g12 _ _ hha) (f2.mono g2)) (zt g12 _ _ e3))
  ·refine⟨t.Unread,rfl,T.c_Unread,T.kit_up_ur,⟨d,_,_,rfl,hd⟩,λea H2 g2 hc hpl=>?_⟩;have g12:=g1.trans g2;refine⟨dx,_,g12 _ _ e1',rfl,dx,ta,sv,x.n,g12 _ _ e1',x.T,g12 _ _ (zp _ _ e3),by lia,λr l H3 g3 hl hr3 hl3=>?_⟩;have G:L2.Got K H3 ea t.Unread [("at",.int (b:Nat))]:=L2.Got.mono ⟨T.c_Unread,d,hc,g2 _ _ hd⟩ g3;have hb:=E8 hr;refine⟨t.Unread,_,G,T.n_Unread_at,_,rfl,⟨_,_,rfl,.inl ⟨_,rfl,by lia,by lia⟩⟩,λd4 H4 g4 n4 h4=>⟨?_,sx.mono hpl (g3.trans g4),_,h4,by show 2≠1;decide⟩⟩;have g14:=g12.trans (g3.trans g4);have h3:=g3 _ _ (g12 _ _ hha);refine qe (.astray x.T x.n b) (by rw [hr]) _ d4 H4 (zt g14) ⟨rfl,r,?_,yJ (zt g12) (g14 _ _ hha) (g12 _ _ hha) hl (g4 _ _ hr3) (g4 _ _ hl3)⟩;rw [hide_ne (qI h3 n4)];exact h4
theorem YI (T:Txt w K mg t)(D:Dm K t.Looking "look_hole" "Looking.look_hole" wc zZ)(bR:ig P w K mg fY 1 "place_of" xZ yI)(ak:i6 P w K mg fY 3 t.Spot "met" jz (j0 t))(ai:mj P w K mg fY 1 t.Spot "shown" zV (qg t))(bS:lJ P w K mg fY "NoPlace" t.NoPlace FK tG):i6 P w K mg fY 12 t.Looking "look_hole" zZ (qA t):=by
 refine D.ok vi ?_ ?_;walk_at"b"
 ·refine pR h λlo ha sp pv ps x hv h=>?_;refine rg h λzz0 zz1 zz2 zz3 hha zz5 q qe=>?_;obtain⟨z,rfl,hz⟩:=zz0;obtain⟨ldx,lpa,hlo⟩:=zz1;obtain⟨p,ep,hp⟩:=zz2;obtain⟨dx,sv,ta,e1,e2,e3⟩:=zz3;obtain⟨b1,b2,b3,b4,b5⟩:=zz5;refine⟨_,(zc (iC 3 vi.nd (qF bR hr (iu (qV (K:=K) (by rfl) (qv 2))))) (zc (zm (iw JG (qv 3) zL) (zd (kf zP bS hr (by decide) (ip (iy K (qv 1) ze) (wQ ai.ok hr (by decide) (qv 2))))) zi) (zc (xc (vy (K:=K) (by rfl) uL u7 u9 j4 (qV (K:=K) (by rfl) (qv 0)) (iu (zh (ip (iy K (qv 1) ze) (qv 3)))))) (zd (zg (xY ak hr (by decide) (qv 2) (iu (qV (K:=K) (by rfl) (qv 2))))))))).h,?_⟩;cases ep;obtain⟨pa,vs,rfl,hpa,rfl⟩:=n5 hp;simp only [iD,l9,ik,iE] at b2 b3 b4 b5;simp only [xM,z9] at q qe;have e1':=zp _ _ e1
  walk_at"d";refine⟨_,_,_,e1',T.l_Spot,T.a_state,sv,rfl,x.s,e2.mono zp,λH1 g1=>?_⟩
  walk_at"i";have hha1:=g1 _ _ hha;cases hk:ka x.s with
  | none=>
   rw [hk] at qe;rw [ue (show tF none=V.non from rfl)]
   walk_at"d";refine⟨_,ir.of (g1 _ _ (zp _ _ hpa)),_,jH _ _ _,dx,_,g1 _ _ e1',rfl,dx,ta,sv,x.n,g1 _ _ e1',x.T,g1 _ _ (zp _ _ e3),by lia,λr l H3 g3 hl hr3 hl3=>?_⟩;refine⟨⟨_,_,rfl,.inr ⟨_,rfl,by rw [Zn];exact uI hz (by decide)⟩⟩,λd4 H4 g4 n4 h4=>?_⟩;have h3:=g3 _ _ hha1;refine qe (.noplace z x.T x.n) rfl _ d4 H4 (zt (g1.trans (g3.trans g4))) ⟨rfl,r,?_,yJ (zt g1) (g4 _ _ h3) hha1 hl (g4 _ _ hr3) (g4 _ _ hl3)⟩;rw [hide_ne (qI h3 n4)];exact h4
  | some kd=>
   rw [hk] at q;rw [ub (by intro z;cases z)]
   walk_at"d";refine⟨_,_,_,g1 _ _ (zp _ _ hlo),T.l_Looking,T.a_holes,.ref ha,rfl,.inl ⟨rfl,_,iA.of hha1⟩,_,ir.of (g1 _ _ (zp _ _ hpa)),_,jH _ _ _,λp3 h3=>⟨ha,rfl,hv,?_⟩⟩;have k3:=za (o:=.tup [tx z,tF (some kd)]) h3;have hp3:=qI hha1 h3;have hha3:=k3 _ _ hha1;refine⟨hha3,by lia,?_⟩;have hG:Gr ha H (upd (upd H1 p3 (.tup [tx z,tF (some kd)])) ha (.lst (hv++[.ref p3]))) hv [.ref p3]:=⟨by rw [Fu];exact zt (g1.trans k3),zb⟩
   have hsp4:=zp _ _ (hG.1 _ _ e1)
   walk_at"d";refine⟨dx,_,hsp4,rfl,_,_,_,hsp4,T.l_Spot,T.a_state,sv,rfl,dx,ta,sv,x.n,hsp4,λr dx' H2 g2 hr er=>?_⟩;have G2:=hG.trans (Gr.same hG.2 g2);refine q ⟨x.s,x.T,x.n+1⟩ [(z,kd)] rfl r [.ref p3] H2 (G2.cast (by rw [uj])) (.cons ⟨p3,rfl,?_⟩ .nil) (vI (qI hG.2 hr) er ((e2.mono hG.1).mono (zt g2)) (G2.1 _ _ e3));rw [hide_ne hp3];exact g2 _ _ (by rw [zk hp3];exact zb)
theorem YJ {k d:Nat}(hk10:20<=k)(T:Txt w K mg t)(D:Dm K t.Looking "look_each" "Looking.look_each" jm z6)(au:i6 P w K mg fY 3 t.Spot "turned" qW (jv t))(ai:mj P w K mg fY 1 t.Spot "shown" zV (qg t))(ao:lJ P w K mg fY "Unlike" t.Unlike tT oq)(ax:i6 P w K mg fY k t.Looking "look_all" zw (zB t d)):i6 P w K mg fY (k+1) t.Looking "look_each" z6 (jf t (d+1)):=by
 refine D.ok jV ?_ ?_;walk_at"b"
 ·refine pR h λlo ha sp pv ps x hv h=>?_;refine rg h λzz0 hlo zz2 hsp hha zz5 q qe=>?_;obtain⟨nm,b,rfl,hnm,hdp⟩:=zz0;obtain⟨p,ep,hp⟩:=zz2;obtain⟨b1,b2,b3,b4,b5⟩:=zz5;refine⟨_,(zc (iC 3 jV.nd (xY au hr (by lia) (qv 2) (iu ze))) (zc (iC 4 jV.nd (jS zP ax hr (by lia) (qv 0) (ip (iy K (qv 1) ze) (xY au hr (by lia) (qv 2) (iu ze))))) (zc (zm (iw (ZA (me hr)) (qV (K:=K) (by rfl) (qv 4)) (qV (K:=K) (by rfl) (qv 3))) (zd (kf zP ao hr (by lia) (iH (zh (ip (qS fJ) (iy K (qv 1) ze))) (wQ ai.ok hr (by lia) (qv 3)) (wQ ai.ok hr (by lia) (qv 4))))) zi) (zd (zg (qv 3)))))).h,?_⟩;cases ep;obtain⟨pa,vs,rfl,hpa,wv,rfl,hw⟩:=n5 hp;simp only [iD,l9,ik,iE] at b2 b3 b4 b5;simp only [xM,z9] at q qe;simp only [iQ.dpB,iQ] at hdp;simp only [lh.nmB,lh,gb] at hnm;obtain⟨dx,sv,ta,e1,e2,e3⟩:=hsp;have e1':=zp _ _ e1;have e3':=zp _ _ e3;obtain⟨ldx,lpa,hlo'⟩:=hlo
  walk_at"d";refine⟨dx,_,e1',rfl,dx,ta,sv,x.T,x.n,0,rfl,e1',e3',by lia,λr dx1 ta1 H1 g1 hr hta er et=>?_⟩;have hha1:=g1 _ _ hha
  walk_at"d";refine⟨ldx,_,g1 _ _ (zp _ _ hlo'),rfl,_,ir.of (g1 _ _ (zp _ _ hpa)),_,Zr _ _ _ _,dx,_,g1 _ _ e1',rfl,dx,ta,sv,x.T,x.n,1,rfl,g1 _ _ e1',g1 _ _ e3',by lia,λr2 dx2 ta2 H2 g2 hr2 hta2 er2 et2=>?_⟩;have g12:=g1.trans g2;have hha2:=g12 _ _ hha;refine⟨lo,ha,r2,_,b,⟨x.s,x.T++[1],x.n⟩,hv,rfl,⟨hnm,by lia⟩,⟨ldx,lpa,zt g12 _ _ hlo'⟩,?_,vI (qI hha1 hr2) er2 (e2.mono (zt g12)) (by rw [hide_ne (qI hha1 hta2)];exact et2),hha2,⟨b1,by dsimp only;lia,by lia,by simp only [uc,uw];lia,by dsimp only;lia⟩,λe hs hk r3 hv3 H3 G3 ho3 sp3=>?_,λf hk c d3 H3 g3 hf=>qe f (by rw [hk]) c d3 H3 ((zt g12).trans g3) (hf.pre (zt g12))⟩
  ·rw [ub (by decide)];exact hw.mono (zt g12)
  obtain⟨dx3,sv3,ta3,f1,f2,f3⟩:=sp3;obtain⟨p3,rfl⟩:=Wn f2;obtain⟨p0,rfl⟩:=Wn e2;have er':hide ha H1 r=some (nY t dx1 (.ref p0) ta1 x.n):=by rw [hide_ne (qI hha hr)];exact er
  have g3:=(zt g2).trans G3.1;have hr3:=zp _ _ (g3 _ _ er');have e23:=e2.mono ((zt g1).trans g3);have f1':=zp _ _ f1;have et3:=g3 _ _ (by rw [hide_ne (qI hha hta)];exact et);obtain⟨_,_,d3,d4,_⟩:=wu b _ e hs hk b1
  walk_at"d";refine⟨_,_,_,f1',T.l_Spot,T.a_state,_,rfl,_,_,_,hr3,T.l_Spot,T.a_state,_,rfl,dS e.s,dS x.s,p3,rfl,p0,rfl,(f2.mono zp).dat,(e23.mono zp).dat,mH _,?_⟩;rw [Jy];have G3':=G3.pre g12;by_cases hz:e.s=x.s
  ·rw [ub (by rw [UC hz];decide)]
   walk_at"d";exact q ⟨x.s,x.T++[0],x.n⟩ hs (by rw [hk];exact ue hz) r hv3 H3 G3' ho3 (vI (qI hha hr) hr3 e23 et3)
  ·rw [ue (by rw [uF hz];decide)];refine⟨_,ir.of (zp _ _ (G3'.1 _ _ hpa)),_,jH _ _ _,λp4 h4=>?_⟩;have k4:=za (o:=.tup [V.str (S [101,97,99,104]),tx nm]) h4;have c4:=k4 _ _ G3.2;refine⟨dx1,_,k4 _ _ hr3,rfl,dx1,ta1,_,x.n,k4 _ _ hr3,x.T++[0],k4 _ _ (zp _ _ et3),by simp only [uc,uw];lia,λq5 l5 H5 g5 hl5 hq5 hq5'=>?_⟩;have c5:=g5 _ _ c4;have f15:=g5 _ _ (k4 _ _ f1');refine⟨dx3,_,f15,rfl,dx3,ta3,_,e.n,f15,e.T,g5 _ _ (k4 _ _ (zp _ _ f3)),by simp only [uc,uw] at d3;lia,λq6 l6 H6 g6 hl6 hq6 hq6'=>⟨⟨_,_,_,rfl⟩,λd7 H7 g7 n7 h7=>?_⟩⟩;have g67:=g6.trans g7;have c6:=g6 _ _ c5;have c7:=g7 _ _ c6;refine qe (.unlike [[101,97,99,104],nm] (x.T++[0]) x.n e.T e.n) (by rw [hk];exact ub hz) _ d7 H7 (G3'.1.trans (zt (k4.trans (g5.trans g67)))) ⟨rfl,p4,q5,q6,?_,?_,yJ (G3'.1.trans (zt k4)) c7 c4 hl5 (g67 _ _ hq5) (g67 _ _ hq5'),yJ (G3'.1.trans (zt (k4.trans g5))) c7 c5 hl6 (g7 _ _ hq6) (g7 _ _ hq6')⟩
   ·rw [hide_ne (qI c6 n7)];exact h7
   ·rw [hide_ne (qI G3.2 h4)];exact(g5.trans g67) _ _ zb
theorem Ti {k d:Nat}(hk10:20<=k)(T:Txt w K mg t)(D:Dm K t.Looking "look_if" "Looking.look_if" jP qq)(au:i6 P w K mg fY 3 t.Spot "turned" qW (jv t))(ai:mj P w K mg fY 1 t.Spot "shown" zV (qg t))(ao:lJ P w K mg fY "Unlike" t.Unlike tT oq)(ax:i6 P w K mg fY k t.Looking "look_all" zw (zB t d)):i6 P w K mg fY (k+1) t.Looking "look_if" qq (jG t (d+1)):=by
 refine D.ok wM ?_ ?_;walk_at"b"
 ·refine pR h λlo ha sp pv ps x hv h=>?_;refine rg h λzz0 hlo zz2 hsp hha zz5 q qe=>?_;obtain⟨nm,a,b,rfl,hnm,hdp⟩:=zz0;obtain⟨p,ep,hp⟩:=zz2;obtain⟨b1,b2,b3,b4,b5⟩:=zz5;refine⟨_,(zc (iC 3 wM.nd (jS zP ax hr (by lia) (qv 0) (ip (iy K (qv 1) ze) (xY au hr (by lia) (qv 2) (iu ze))))) (zc (iC 4 wM.nd (jS zP ax hr (by lia) (qv 0) (ip (iy K (qv 1) ze) (xY au hr (by lia) (qv 2) (iu ze))))) (zc (zm (iw (ZA (me hr)) (qV (K:=K) (by rfl) (qv 3)) (qV (K:=K) (by rfl) (qv 4))) (zd (kf zP ao hr (by lia) (iH (zh (ip (qS fK) (iy K (qv 1) ze))) (wQ ai.ok hr (by lia) (qv 3)) (wQ ai.ok hr (by lia) (qv 4))))) zi) (zd (zg (qv 3)))))).h,?_⟩;cases ep;obtain⟨pa,vs,rfl,hpa,wv,uv,rfl,hw,hu⟩:=n5 hp;simp only [iD,l9,ik,iE] at b2 b3 b4 b5;simp only [xM,z9] at q qe;simp only [iQ.dpB,iQ] at hdp;simp only [lh.nmB,lh,gb,uJ] at hnm;obtain⟨dx,sv,ta,e1,e2,e3⟩:=hsp;have e1':=zp _ _ e1;have e3':=zp _ _ e3;obtain⟨ldx,lpa,hlo'⟩:=hlo
  walk_at"d";refine⟨ldx,_,zp _ _ hlo',rfl,_,ir.of (zp _ _ hpa),_,Zr _ _ _ _,dx,_,e1',rfl,dx,ta,sv,x.T,x.n,0,rfl,e1',e3',by lia,λr dx1 ta1 H1 g1 hr hta er et=>?_⟩;have hha1:=g1 _ _ hha;refine⟨lo,ha,r,_,a,⟨x.s,x.T++[0],x.n⟩,hv,rfl,⟨hnm.1,by lia⟩,⟨ldx,lpa,zt g1 _ _ hlo'⟩,?_,vI (qI hha hr) er (e2.mono (zt g1)) (by rw [hide_ne (qI hha hta)];exact et),hha1,⟨b1,by dsimp only;lia,by lia,by simp only [uc,uw];lia,by dsimp only;lia⟩,λe hs hk r3 hv3 H3 G3 ho3 sp3=>?_,λf hk c d3 H3 g3 hf=>qe f (by rw [hk]) c d3 H3 ((zt g1).trans g3) (hf.pre (zt g1))⟩
  ·rw [ub (by decide)];exact hw.mono (zt g1)
  have G3':=G3.pre g1;have j1:=zp _ _ (G3'.1 _ _ e1);have hl3:=ho3.len;obtain⟨_,_,d3,d4,d5⟩:=wu a _ e hs hk b1
  walk_at"d";refine⟨ldx,_,zp _ _ (G3'.1 _ _ hlo'),rfl,_,ir.of (zp _ _ (G3'.1 _ _ hpa)),_,VL _ _ _ _ _,dx,_,j1,rfl,dx,ta,sv,x.T,x.n,1,rfl,j1,zp _ _ (G3'.1 _ _ e3),by lia,λr4 dx4 ta4 H4 g4 hr4 hta4 er4 et4=>?_⟩;have g34:=G3'.1.trans (zt g4);refine⟨lo,ha,r4,_,b,⟨x.s,x.T++[1],x.n⟩,hv++hv3,rfl,⟨hnm.2,by lia⟩,⟨ldx,lpa,g34 _ _ hlo'⟩,?_,vI (qI G3.2 hr4) er4 (e2.mono g34) (by rw [hide_ne (qI G3.2 hta4)];exact et4),g4 _ _ G3.2,⟨b1,by dsimp only;lia,by rw [uc];lia,by simp only [uc,uw];lia,by dsimp only;lia⟩,λe' hs' hk' r5 hv5 H5 G5 ho5 sp5=>?_,λf hk' c d3 H5 g5 hf=>qe f (by rw [hk];simp only [hk']) c d3 H5 (g34.trans g5) (hf.pre g34)⟩
  ·rw [ub (by decide)];exact hu.mono g34
  have g35:=(zt g4).trans G5.1;have sp3':=sp3.mono g35;obtain⟨dx3,sv3,ta3,f1,f2,f3⟩:=sp3';obtain⟨dx5,sv5,ta5,c1,c2,c3⟩:=sp5;obtain⟨p3,rfl⟩:=Wn f2;obtain⟨p5,rfl⟩:=Wn c2;obtain⟨_,_,d6,d7,d8⟩:=wu b _ e' hs' hk' b1;have f1':=zp _ _ f1;have c1':=zp _ _ c1
  walk_at"d";refine⟨_,_,_,f1',T.l_Spot,T.a_state,_,rfl,_,_,_,c1',T.l_Spot,T.a_state,_,rfl,dS e.s,dS e'.s,p3,rfl,p5,rfl,(f2.mono zp).dat,(c2.mono zp).dat,mH _,?_⟩;rw [Jy];have G5':=G3'.trans (G5.pre g4);by_cases hz:e.s=e'.s
  ·rw [ub (by rw [UC hz];decide)]
   walk_at"d";exact q e (hs++hs') (by rw [hk];simp only [hk',ue hz]) r3 (hv3++hv5) H5 G5' ((ho3.mono (iT.of g35)).app ho5) ⟨dx3,_,ta3,f1,f2,f3⟩
  ·rw [ue (by rw [uF hz];decide)];refine⟨_,ir.of (zp _ _ (G5'.1 _ _ hpa)),_,jH _ _ _,λp4 h4=>?_⟩;have k4:=za (o:=.tup [V.str (S [105,102]),tx nm]) h4;have c4:=k4 _ _ G5.2;refine⟨dx3,_,k4 _ _ f1',rfl,dx3,ta3,_,e.n,k4 _ _ f1',e.T,k4 _ _ (zp _ _ f3),by simp only [uc,uw] at d3;lia,λq5 l5 H6 g5 hl5 hq5 hq5'=>?_⟩;have c5:=g5 _ _ c4;have c15:=g5 _ _ (k4 _ _ c1');refine⟨dx5,_,c15,rfl,dx5,ta5,_,e'.n,c15,e'.T,g5 _ _ (k4 _ _ (zp _ _ c3)),by simp only [uc,uw] at d6;lia,λq6 l6 H7 g6 hl6 hq6 hq6'=>⟨⟨_,_,_,rfl⟩,λd9 H8 g7 n7 h7=>?_⟩⟩;have g67:=g6.trans g7;have c6:=g6 _ _ c5;have c7:=g7 _ _ c6;refine qe (.unlike [[105,102],nm] e.T e.n e'.T e'.n) (by rw [hk];simp only [hk',ub hz]) _ d9 H8 (G5'.1.trans (zt (k4.trans (g5.trans g67)))) ⟨rfl,p4,q5,q6,?_,?_,yJ (G5'.1.trans (zt k4)) c7 c4 hl5 (g67 _ _ hq5) (g67 _ _ hq5'),yJ (G5'.1.trans (zt (k4.trans g5))) c7 c5 hl6 (g7 _ _ hq6) (g7 _ _ hq6')⟩
   ·rw [hide_ne (qI c6 n7)];exact h7
   ·rw [hide_ne (qI G5.2 h4)];exact(g5.trans g67) _ _ zb
theorem YK {k d:Nat}(hk10:20<=k)(T:Txt w K mg t)(D:Dm K t.Looking "look_seat" "Looking.look_seat" jn z7)(aG:ig P w K mg fY 1 "floored" wH xK)(ak:i6 P w K mg fY 3 t.Spot "met" jz (j0 t))(ai:mj P w K mg fY 1 t.Spot "shown" zV (qg t))(ao:lJ P w K mg fY "Unlike" t.Unlike tT oq)(ax:i6 P w K mg fY k t.Looking "look_all" zw (zB t d)):i6 P w K mg fY (k+1) t.Looking "look_seat" z7 (jg t (d+1)):=by
 refine D.ok jW ?_ ?_;walk_at"b"
 ·refine pR h λlo ha sp pv ps x hv h=>?_;refine rg h λzz0 hlo zz2 hsp hha zz5 q qe=>?_;obtain⟨wd,nm,mm,b,rfl,hnm,hdp⟩:=zz0;obtain⟨p,ep,hp⟩:=zz2;obtain⟨b1,b2,b3,b4,b5⟩:=zz5;refine⟨_,(zc (iC 3 jW.nd (xY ak hr (by lia) (qv 2) (iu (qF aG hr (iu (qV (K:=K) (by rfl) (qv 2))))))) (zc (iC 4 jW.nd (jS zP ax hr (by lia) (qv 0) (ip (iy K (qv 1) ze) (qv 3)))) (zc (zm (iw (ZA (me hr)) (qV (K:=K) (by rfl) (qv 4)) (qV (K:=K) (by rfl) (qv 3))) (zd (kf zP ao hr (by lia) (iH (zh (lr (qS fL) (iy K (qv 1) ze) (iy K (qv 1) ze) (iy K (qv 1) ze))) (wQ ai.ok hr (by lia) (qv 3)) (wQ ai.ok hr (by lia) (qv 4))))) zi) (zd (zg (xY ak hr (by lia) (qv 4) (iu (qV (K:=K) (by rfl) (qv 2))))))))).h,?_⟩;cases ep;obtain⟨pa,vs,rfl,hpa,wv,rfl,hw⟩:=n5 hp;simp only [iD,l9,ik,iE] at b2 b3 b4 b5;simp only [xM,z9] at q qe;simp only [iQ.dpB,iQ] at hdp;simp only [lh.nmB,lh,gb] at hnm;obtain⟨dx,sv,ta,e1,e2,e3⟩:=hsp;have e1':=zp _ _ e1;obtain⟨ldx,lpa,hlo'⟩:=hlo
  walk_at"d";refine⟨dx,_,e1',rfl,_,_,_,e1',T.l_Spot,T.a_state,sv,rfl,x.s,e2.mono zp,λv H1 g1 hv1=>⟨dx,ta,sv,x.n,g1 _ _ e1',λr dx2 H2 g2 hr er=>?_⟩⟩;have hha1:=g1 _ _ hha;have g12:=g1.trans g2;have hha2:=g12 _ _ hha;have sv2:=By hha2 (hv1.mono g2);have er2:hide ha H2 r=some (nY t dx2 v ta (x.n+1)):=by rw [hide_ne (qI hha1 hr)];exact er
  walk_at"d";refine⟨ldx,_,g12 _ _ (zp _ _ hlo'),rfl,_,ir.of (g12 _ _ (zp _ _ hpa)),_,AZ _ _ _ _ _ _,lo,ha,r,_,b,⟨mR x.s,x.T,x.n+1⟩,hv,rfl,⟨hnm,by lia⟩,⟨ldx,lpa,zt g12 _ _ hlo'⟩,?_,vI (qI hha1 hr) er sv2 (zt g12 _ _ e3),hha2,⟨b1,by simp;lia,by lia,by dsimp only;lia,by dsimp only;lia⟩,λe hs hk r3 hv3 H3 G3 ho3 sp3=>?_,λf hk c d3 H3 g3 hf=>qe f (by rw [hk]) c d3 H3 ((zt g12).trans g3) (hf.pre (zt g12))⟩
  ·rw [ub (by decide)];exact hw.mono (zt g12)
  obtain⟨dx3,sv3,ta3,f1,f2,f3⟩:=sp3;obtain⟨p3,rfl⟩:=Wn f2;have sv3':=sv2.mono G3.1;obtain⟨p0,rfl⟩:=Wn sv3';have hr3:=zp _ _ (G3.1 _ _ er2);have f1':=zp _ _ f1;have G3':=G3.pre g12;obtain⟨_,_,d3,d4,_⟩:=wu b _ e hs hk b1
  walk_at"d";refine⟨_,_,_,f1',T.l_Spot,T.a_state,_,rfl,_,_,_,hr3,T.l_Spot,T.a_state,_,rfl,_,_,p3,rfl,p0,rfl,(f2.mono zp).dat,(sv3'.mono zp).dat,mH _,?_⟩;rw [Jy];by_cases hz:e.s=mR x.s
  ·rw [ub (by rw [UC hz];decide)]
   walk_at"d";refine⟨dx3,_,f1',rfl,_,_,_,zp _ _ (G3'.1 _ _ e1),T.l_Spot,T.a_state,sv,rfl,dx3,ta3,_,e.n,f1',λr5 dx5 H5 g5 hr5 er5=>?_⟩;exact q ⟨x.s,e.T,e.n+1⟩ hs (by rw [hk];exact ue hz) r5 hv3 H5 ((G3'.trans (Gr.same G3'.2 g5)).cast (by rw [uj])) (ho3.mono (iT.of (zt g5))) (vI (qI G3'.2 hr5) er5 ((e2.mono G3'.1).mono (zt g5)) (zt g5 _ _ f3))
  ·rw [ue (by rw [uF hz];decide)];have hpa3:=ir.of (K:=K) (zp _ _ (G3'.1 _ _ hpa));refine⟨_,hpa3,_,jH _ _ _,_,hpa3,_,Zr _ _ _ _,_,hpa3,_,VL _ _ _ _ _,λp4 h4=>?_⟩;have k4:=za (o:=.tup [V.str (S [115,101,97,116]),tx wd,tx nm,tx mm]) h4;have c4:=k4 _ _ G3.2;refine⟨dx2,_,k4 _ _ hr3,rfl,dx2,ta,_,x.n+1,k4 _ _ hr3,x.T,k4 _ _ (zp _ _ (G3'.1 _ _ e3)),by lia,λq5 l5 H5 g5 hl5 hq5 hq5'=>?_⟩;have c5:=g5 _ _ c4;have f15:=g5 _ _ (k4 _ _ f1');refine⟨dx3,_,f15,rfl,dx3,ta3,_,e.n,f15,e.T,g5 _ _ (k4 _ _ (zp _ _ f3)),by dsimp only at d3;lia,λq6 l6 H6 g6 hl6 hq6 hq6'=>⟨⟨_,_,_,rfl⟩,λd7 H7 g7 n7 h7=>?_⟩⟩;have g67:=g6.trans g7;have c6:=g6 _ _ c5;have c7:=g7 _ _ c6;refine qe (.unlike [WH,wd,nm,mm] x.T (x.n+1) e.T e.n) (by rw [hk];exact ub hz) _ d7 H7 (G3'.1.trans (zt (k4.trans (g5.trans g67)))) ⟨rfl,p4,q5,q6,?_,?_,yJ (G3'.1.trans (zt k4)) c7 c4 hl5 (g67 _ _ hq5) (g67 _ _ hq5'),yJ (G3'.1.trans (zt (k4.trans g5))) c7 c5 hl6 (g7 _ _ hq6) (g7 _ _ hq6')⟩
   ·rw [hide_ne (qI c6 n7)];exact h7
   ·rw [hide_ne (qI G3.2 h4)];exact(g5.trans g67) _ _ zb
theorem Vj {k d:Nat}(hk10:20<=k)(T:Txt w K mg t)(D:Dm K t.Looking "look_piece" "Looking.look_piece" jd zT)(aT:i6 P w K mg fY 12 t.Looking "look_literal" zJ (qf t))(aU:i6 P w K mg fY 12 t.Looking "look_hole" zZ (qA t))(cx:i6 P w K mg fY k t.Looking "look_each" z6 (jf t d))(cy:i6 P w K mg fY k t.Looking "look_if" qq (jG t d))(cA:i6 P w K mg fY k t.Looking "look_seat" z7 (jg t d)):i6 P w K mg fY (k+1) t.Looking "look_piece" zT (qY t d):=by
 refine D.ok xF ?_ ?_;walk_at"b"
 ·refine pR h λlo ha sp pv ps x hv h=>?_;refine rg h λhdp hlo zz2 hsp hha bb q qe=>?_;obtain⟨p,ep,hp⟩:=zz2;refine⟨_,(zc (iC 3 xF.nd (iy K (qv 1) ze)) (zc (zm (iw zx (qv 3) (qS fN)) (zd (zg (jS zP aT hr (by lia) (qv 0) (ip (qv 1) (qv 2))))) zi) (zc (zm (iw zx (qv 3) (qS fO)) (zd (zg (jS zP aU hr (by lia) (qv 0) (ip (qv 1) (qv 2))))) zi) (zc (zm (iw zx (qv 3) (qS fJ)) (zd (zg (jS zP cx hr (by lia) (qv 0) (ip (qv 1) (qv 2))))) zi) (zc (zm (iw zx (qv 3) (qS fK)) (zd (zg (jS zP cy hr (by lia) (qv 0) (ip (qv 1) (qv 2))))) zi) (zc (zm (QW.qt (xI (iw zx (iy K (qv 1) ze) (qS fQ)) (wA (iw VT (qV (K:=K) (by rfl) (qv 0)) zL)))) (zd P8) zi) (zd (zg (jS zP cA hr (by lia) (qv 0) (ip (qv 1) (qv 2))))))))))).h,?_⟩
  walk_at"r";cases ep;obtain⟨pa,vs,rfl,hpa,hf⟩:=n5 hp;obtain⟨ldx,lpa,hlo'⟩:=hlo;have hl:=zp _ _ hlo';have hpa':=ir.of (K:=K) (zp _ _ hpa);have S0:∀ {Pr:List Pc->Prop},Pr [p]->mV t true Pr [.ref lo,.ref pa,.ref sp] H Q λc d H'=>E c d H':=λhP=>⟨lo,ha,sp,_,[p],x,hv,rfl,hP,⟨ldx,lpa,hlo'⟩,by rw [ue rfl];exact⟨p,rfl,hp⟩,hsp,hha,bb,q,qe⟩
  cases p with
  | lit x=>cases hf;refine⟨pa,rfl,_,hpa',_,zA _ _,rfl,?_⟩;rw [ue (show tx _=V.str (S _) from rfl)];exact⟨_,_,hl,rfl,S0 ⟨_,rfl⟩⟩
  | hole z=>cases hf;refine⟨pa,rfl,_,hpa',_,zA _ _,rfl,?_⟩;rw [ub (zG (by decide))];refine⟨rfl,?_⟩;rw [ue (show tx _=V.str (S _) from rfl)];exact⟨_,_,hl,rfl,S0 ⟨_,rfl,by simpa [lh.nmB,lh] using hdp.1⟩⟩
  | each nm b=>obtain⟨wv,rfl,_⟩:=hf;refine⟨pa,rfl,_,hpa',_,zA _ _,rfl,?_⟩;rw [ub (zG (by decide))];refine⟨rfl,?_⟩;rw [ub (zG (by decide))];refine⟨rfl,?_⟩;rw [ue (show tx _=V.str (S _) from rfl)];exact⟨_,_,hl,rfl,S0 ⟨⟨_,_,rfl⟩,hdp⟩⟩
  | ife nm a b=>obtain⟨wv,uv,rfl,_⟩:=hf;refine⟨pa,rfl,_,hpa',_,zA _ _,rfl,?_⟩;rw [ub (zG (by decide))];refine⟨rfl,?_⟩;rw [ub (zG (by decide))];refine⟨rfl,?_⟩;rw [ub (zG (by decide))];refine⟨rfl,?_⟩;rw [ue (show tx _=V.str (S _) from rfl)];exact⟨_,_,hl,rfl,S0 ⟨⟨_,_,_,rfl⟩,hdp⟩⟩
  | seat wd nm mm b=>
   obtain⟨wv,rfl,_⟩:=hf;refine⟨pa,rfl,_,hpa',_,zA _ _,rfl,?_⟩;rw [ub (zG (by decide))];refine⟨rfl,?_⟩;rw [ub (zG (by decide))];refine⟨rfl,?_⟩;rw [ub (zG (by decide))];refine⟨rfl,?_⟩;rw [ub (zG (by decide))];refine⟨pa,rfl,_,hpa',_,jH _ _ _,rfl,?_⟩;split
   ·refine⟨_,_,_,hl,T.l_Looking,T.a_kept,.non,rfl,?_⟩;rw [ub (by simp)];exact⟨_,_,hl,rfl,S0 ⟨⟨_,_,_,_,rfl⟩,hdp⟩⟩
   ·exact⟨_,_,hl,rfl,S0 ⟨⟨_,_,_,_,rfl⟩,hdp⟩⟩
theorem Ef:∀ {ps:List Pc} {p:Pc},lh.nmB ps=true->p∈ps->lh p=true
 | _::_,_,h,.head _=>by simp only [lh.nmB,uJ] at h;exact h.1
 | _::ps,_,h,.tail _ m=>by simp only [lh.nmB,uJ] at h;exact Ef h.2 m
def lkI (t:lg)(lo xa sp ha:Addr)(ps:List Pc)(x:mi)(hv:List V)(H:Hp)(i:Nat)(σ:L2.St)(H3:Hp):Prop:=∃ (r:Addr) (o4:Option V) (e:mi) (h1:Ho) (hv':List V),σ=[some (.ref lo),some (.ref xa),some (.ref sp),some (.ref r),o4]/\Gr ha H H3 hv hv'/\mT (hide ha H3) hv' h1/\su t (hide ha H3) r e.s e.T e.n/\(zy ps x=match zy (ps.drop i) e with
  | .error f=>.error f
  | .ok r=>.ok (r.1,h1++r.2))/\e.s.word.length<=8/\e.s.opens.length+iD (ps.drop i)<=100000/\e.T.length+ik (ps.drop i)<=100000/\e.n+ik (ps.drop i)<=100000/\h1.length+ik (ps.drop i)<=ik ps
theorem zaG {k d:Nat}(hk10:20<=k)(T:Txt w K mg t)(D:Dm K t.Looking "look_all" "Looking.look_all" jC zw)(cB:i6 P w K mg fY k t.Looking "look_piece" zT (qY t d)):i6 P w K mg fY (k+1) t.Looking "look_all" zw (zB t d):=by
 refine D.ok qM ?_ ?_;walk_at"b"
 ·refine pR h λlo ha sp pv ps x hv h=>?_;refine rg h λzz0 hlo hp hsp hha zz5 q qe=>?_;obtain⟨hnm,hdp⟩:=zz0;obtain⟨b1,b2,b3,b4,b5⟩:=zz5;refine⟨_,(zc (iC 3 qM.nd (qv 2)) (zc (wG PassesOwn.leaving (by rfl) (wo (K:=K) (by rfl) (qv 1)) (ly 4 qM.nd) (zd (iC 3 qM.nd (jS zP cB hr (by lia) (qv 0) (ip (qv 4) (qv 3)))))) (zd (zg (qv 3))))).h,?_⟩
  walk_at"r";rw [ub (by decide)] at hp;obtain⟨xa,xs,rfl,hxa,hxs⟩:=hp;refine⟨xa,rfl,⟨_,iA.of (zp _ _ hxa)⟩,?_⟩;refine xQ (xs:=xs) (lkI t lo xa sp ha ps x hv H) ⟨sp,none,x,[],[],rfl,⟨λb o h=>h,by rw [uj];exact hha⟩,.nil,hsp,by rw [US];cases zy ps x<;>rfl,b1,b2,b4,b5,by simp⟩ ?_ ?_ ?_
  ·rintro i σ H3 _ ⟨_,_,_,_,_,_,g,_⟩;exact iA.of (zp _ _ (g.1 _ _ hxa))
  ·rintro i y σ H3 hi ⟨r,o4,e,h1,hv',rfl,g3,ho3,sp3,hk3,w1,l1,l2,l3,l4⟩;have hil:i<ps.length:=by have:=(ur.mp hi).1;have:=hxs.len;rw [qw] at this;lia
   obtain⟨dd,hd1,hd2⟩:=hxs.get hi;rw [Jx ps i ps[i] (uy hil)] at hd1;cases hd1;rw [uW hil] at hk3 l1 l2 l3 l4;simp only [ik,iD] at l1 l2 l3 l4;have hl3:=ho3.len;have hpd:=XY (Ui hil)
   walk_at"r";obtain⟨ldx,lpa,hlo'⟩:=hlo;refine⟨ldx,_,zp _ _ (g3.1 _ _ hlo'),rfl,lo,ha,r,y,[ps[i]],e,hv++hv',rfl,⟨by simp only [lh.nmB,gb];exact Ef hnm (Ui hil),by simp only [iQ.dpB];lia⟩,⟨ldx,lpa,g3.1 _ _ hlo'⟩,?_,sp3,g3.2,⟨w1,by simp only [iD];lia,by simp only [ik,uc];lia,by simp only [ik];lia,by simp only [ik];lia⟩,λe4 h4 k4 r4 hv4 H4 G4 ho4 sp4=>?_,λf k4 c d4 H4 g4 hf=>?_⟩
   ·rw [ue rfl];exact⟨_,rfl,hd2.mono g3.1⟩
   ·rw [xM] at k4;obtain⟨m1,m2,m3,m4,m5⟩:=E9 _ _ _ _ k4 w1;refine⟨r4,_,e4,h1++h4,hv'++hv4,rfl,g3.trans G4,(ho3.mono (iT.of G4.1)).app ho4,sp4,?_,m1,by lia,by lia,by lia,by rw [uc];lia⟩;rw [hk3];simp only [zy,k4];cases zy (ps.drop (i+1)) e4<;>simp
   ·rw [xM] at k4;exact qe f (by rw [hk3];simp only [zy,k4]) c d4 H4 (g3.1.trans g4) (hf.pre g3.1)
  ·rintro σ H3 ⟨r,o4,e,h1,hv',rfl,g3,ho3,sp3,hk3,w1,l1,l2,l3,l4⟩;rw [U8 (by have:=hxs.len;rw [qw] at this;lia)] at hk3
   walk_at"r";exact q e h1 (by rw [hk3];simp only [zy,uj]) r hv' H3 g3 ho3 sp3
theorem YL (T:Txt w K mg t)(D:Dm K t.Looking "look_all" "Looking.look_all" jC zw)(bT:Dm K t.Looking "look_piece" "Looking.look_piece" jd zT)(bU:Dm K t.Looking "look_each" "Looking.look_each" jm z6)(bV:Dm K t.Looking "look_if" "Looking.look_if" jP qq)(bW:Dm K t.Looking "look_seat" "Looking.look_seat" jn z7)(aT:i6 P w K mg fY 12 t.Looking "look_literal" zJ (qf t))(aU:i6 P w K mg fY 12 t.Looking "look_hole" zZ (qA t))(au:i6 P w K mg fY 3 t.Spot "turned" qW (jv t))(ak:i6 P w K mg fY 3 t.Spot "met" jz (j0 t))(ai:mj P w K mg fY 1 t.Spot "shown" zV (qg t))(aG:ig P w K mg fY 1 "floored" wH xK)(ao:lJ P w K mg fY "Unlike" t.Unlike tT oq):i6 P w K mg fY 60 t.Looking "look_all" zw (zB t 5):=by have a0:i6 P w K mg fY 20 t.Looking "look_all" zw (zB t 0):=D.ok (k:=19) qM (λ_ _ _ _ ⟨_,_,_,_,_,_,_,_,h,_⟩=>absurd h.2 (UI _)) (λ_ _ _ _ _ _ _ _ _ _ ⟨_,_,_,_,_,_,_,_,h,_⟩=>absurd h.2 (UI _));have up:∀ {k d:Nat},20<=k->i6 P w K mg fY k t.Looking "look_all" zw (zB t d)->i6 P w K mg fY (k+3) t.Looking "look_all" zw (zB t (d+1)):=λ{k d} hk a=>zaG (k:=k+2) (by lia) T D (Vj (k:=k+1) (by lia) T bT aT aU (YJ hk T bU au ai ao a) (Ti hk T bV au ai ao a) (YK hk T bW aG ak ai ao a));exact(up (by decide) (up (by decide) (up (by decide) (up (by decide) (up (by decide) a0))))).mono (by decide)
theorem RA (T:Txt w K mg t)(D:Df K mg "is_end" XI vP)(aE:ig P w K mg fY 1 "begin" yg kj):ig P w K mg fY 2 "is_end" vP kl:=by
 refine D.ok RJ ?_ ?_;walk_at"b"
 ·refine nU h λx s h=>?_;refine mS h λhx q=>?_;refine⟨_,(zd (zg (pG (V9 (me hr)) (qv 0) (JP aE hr (by decide))))).h,?_⟩
  walk_at"r";intro v H1 g1 hv;have d1:=(hx.mono g1).dat;have d2:=hv.dat;obtain⟨a,_,rfl,_,_⟩:=hx;obtain⟨b,_,rfl,_,_⟩:=hv;refine⟨_,_,a,rfl,b,rfl,d1,d2,mH _,?_⟩;rw [show(⟨xE,[],[],[]⟩:MS)=mG from rfl,Jy];exact q _ g1
theorem YM (T:Txt w K mg t)(D:Df K mg "looked_at" ZL xi)(ax:i6 P w K mg fY 60 t.Looking "look_all" zw (zB t 5))(aE:ig P w K mg fY 1 "begin" yg kj)(aO:ig P w K mg fY 2 "is_end" vP kl)(aD:rn P w K mg fY 1 t.Spot "Spot" qp (qU t))(bX:rn P w K mg fY 1 t.Looking "Looking" qL (jo t))(ai:mj P w K mg fY 1 t.Spot "shown" zV (qg t))(bY:lJ P w K mg fY "LeftOpen" t.LeftOpen FL tH):n9 P w K mg fY 61 "looked_at" xi (vJ t):=by
 refine D.okX kN ?_ ?_;walk_at"b"
 ·refine nU h λpv ps h=>?_;refine nK h λzz0 q qe=>?_;obtain⟨hd1,hls,hd2',hd3,hd5⟩:=zz0;refine⟨_,(zc (iC 2 kN.nd (Jr bX hr (by decide) (iu (qv 1)))) (zc (iC 3 kN.nd (jS zP ax hr (by decide) (qv 2) (ip (qv 0) (Jr aD hr (by decide) (iH (JP aE hr (by decide)) (zl zC) ze))))) (zc (zm (vW (jM (qF aO hr (iu (qV (K:=K) (by rfl) (qv 3)))))) (zd (kf zP bY hr (by decide) (iu (wQ ai.ok hr (by decide) (qv 3))))) zi) (zd (zg (zh (ip (qV (K:=K) (by rfl) (qv 2)) (qV (K:=K) (by rfl) (qv 2))))))))).h,?_⟩
  walk_at"d";intro x dx hx hd hne;refine⟨dx,zb,λha pa H1 e1 g1 eh ep hap nh np=>?_⟩;have hax:ha≠x:=λz=>by subst z;rw [zb] at nh;cases nh
  have had:ha≠dx:=λz=>by subst z;rw [zk hne,zb] at nh;cases nh
  have gH:fX H H1:=λb o e=>g1 b o (zv e hx) (by rw [zk (zv e hx),zk (zv e hd)];exact e);have nH:H ha=none:=by rw [zk hax,zk had] at nh;exact nh
  walk_at"d";refine⟨dx,_,e1,rfl,λv H2 g2 hv p hp2 x2 dx2 hx2 hd2 hne2=>⟨dx2,0,rfl,zb,?_⟩⟩;have k1:=za (o:=.lst []) hp2;have k2:=Yw (t:=t) (ta:=p) (sv:=v) (n:=0) hx2 hd2 (.own x2) [];have er:upd (upd (upd (upd H2 p (.lst [])) dx2 (.own x2)) x2 (.ins t.Spot dx2 [])) x2 (nY t dx2 v p 0) x2=some (nY t dx2 v p 0):=zb;have ept:=k2 _ _ zb;have k12:=k1.trans k2;generalize hH3:upd (upd (upd (upd H2 p (.lst [])) dx2 (.own x2)) x2 (.ins t.Spot dx2 [])) x2 (nY t dx2 v p 0)=H3 at k2 er ept k12;have e3:H3 ha=some (.lst []):=k12 _ _ (g2 _ _ eh);have hx3:=k12 _ _ (g2 _ _ e1);rw [← hide_ne (H:=H3) hax.symm] at hx3;have hp3:p≠ha:=qI (g2 _ _ eh) hp2;have hx23:x2≠ha:=qI (k1 _ _ (g2 _ _ eh)) hx2;have g3:fX H (hide ha H3):=λb o e=>by rw [hide_ne (zv e nH)];exact k12 _ _ (g2 _ _ (gH _ _ e))
  refine⟨x,ha,x2,pv,ps,⟨mG,[],0⟩,[],rfl,⟨hls,hd2'⟩,⟨dx,pa,hx3⟩,?_,vI hx23 er (By e3 (hv.mono k12)) (by rw [hide_ne hp3];exact ept),e3,⟨by decide,by show 0+_<=_;lia,by show 0+_<=_;lia,by show 0+_<=_;lia,by show 0+_<=_;lia⟩,λe hs hk r hv4 H4 G4 ho4 sp4=>?_,λf hk c d4 H4 g4 hf=>?_⟩
  ·rw [ub (by decide)];exact hd1.mono g3
  ·obtain⟨dx4,sv4,ta4,f1,f2,f3⟩:=sp4;have hx4:=zp _ _ (G4.1 _ _ hx3)
   walk_at"i";refine⟨_,_,_,zp _ _ f1,T.l_Spot,T.a_state,sv4,rfl,_,f2.mono zp,λH5 g5=>?_⟩;obtain⟨_,_,d3,d4,_⟩:=wu ps _ e hs hk (by decide);by_cases hz:e.s=mG
   ·rw [ub (by rw [UC hz];decide)]
    walk_at"d";refine⟨_,_,_,g5 _ _ hx4,T.l_Looking,T.a_holes,.ref ha,rfl,_,_,_,g5 _ _ hx4,T.l_Looking,T.a_pairs,.ref pa,rfl,λp6 hp6=>?_⟩;have k6:=za (o:=.tup [.ref ha,.ref pa]) hp6;have g56:=g5.trans k6;exact q hs (by unfold qP;rw [hk];exact ue hz) p6 ha pa hv4 _ ((g3.trans G4.1).trans (zp.trans g56)) zb (g56 _ _ G4.2) (ho4.mono (iT.of (zp.trans g56)))
   ·rw [ue (by rw [uF hz];decide)];have f15:=g5 _ _ (zp _ _ f1)
    walk_at"d";refine⟨dx4,_,f15,rfl,dx4,ta4,sv4,e.n,f15,e.T,g5 _ _ (zp _ _ f3),uI d3 (by show 0+_<=_;lia),λq6 l6 H6 g6 hl6 hq6 hq6'=>⟨⟨_,rfl⟩,λd7 H7 g7 n7 h7=>?_⟩⟩;have g57:=g5.trans (g6.trans g7);exact qe (.left e.T e.n) (by unfold qP;rw [hk];exact ub hz) _ d7 H7 ((g3.trans G4.1).trans (zp.trans g57)) ⟨rfl,q6,h7,l6,none_of (g3.trans (G4.1.trans (zp.trans g5))) hl6,g7 _ _ hq6,g7 _ _ hq6'⟩
  ·exact qe f (by unfold qP;rw [hk]) c d4 H4 ((g3.trans g4).trans zp) ((hf.mono zp).pre g3)
theorem ME (T:Txt w K mg t)(D:Df K mg "look" BB Jv)(bZ:n9 P w K mg fY 61 "looked_at" xi (vJ t)):n9 P w K mg fY 62 "look" Jv (W4 t):=by
 refine D.okX Oa ?_ ?_;walk_at"b"
 ·refine nU h λpv ps h=>?_;refine nK h λhp q qe=>?_;refine⟨_,(zd (zg (iy K (Xw zP bZ hr (by decide) (ip (qv 0) zL)) ze))).h,?_⟩
  walk_at"r";exact⟨_,hp,λhs hk r ha pa hv H' g e1 e2 ho=>⟨_,ir.of e1,_,zA _ _,q hs hk ha hv H' g e2 ho⟩,qe⟩
theorem YN (T:Txt w K mg t)(D:Df K mg "_law_other" kQ wq):sD P w K mg fY 1 "_law_other" wq (xV K t):=by
 refine D.okH Ve ?_ ?_;walk_at"b"
 ·refine oC h λea C fs h=>?_;refine nK h λG0 hC q=>?_;refine⟨_,(zc (zm (jM (zK (kD (K:=K) (by rfl)) (by rfl) T.z_isinstance zU (ip (qv 0) (zh (qN (by exact(qo T.m_NoCode)) (by exact(qN (by exact(qo T.m_NoElder)) (by exact(qN (by exact(qo T.m_NoKind)) (by exact(qN (by exact(qo T.m_NoName)) (by exact(mK (qo T.m_NoPage) (qo T.m_NoRow) (qo T.m_NoSheet) (qo T.m_NoSign) (qo T.m_Unread)))))))))))))) (zd (zg WC)) zi) (zd (zg (zK (kD (K:=K) (by rfl)) (by rfl) T.z_isinstance zU (ip (qv 0) (zh (qN (by exact(qo T.m_NoValue)) (by exact(qN (by exact(qo T.m_RingOver)) (by exact(mK (qo T.m_Ringed) (qo T.m_TooMany) (qo T.m_Twice) (qo T.m_Unended) (qo T.m_Unknown)))))))))))).h,?_⟩
  walk_at"r";intro p hp;have G1:=G0.mono (za (o:=.tup [V.ref t.NoCode,V.ref t.NoElder,V.ref t.NoKind,V.ref t.NoName,V.ref t.NoPage,V.ref t.NoRow,V.ref t.NoSheet,V.ref t.NoSign,V.ref t.Unread]) hp);refine⟨C,_,_,zb,G1,rfl,false,by rcases hC with rfl | rfl | rfl | rfl;exact T.kit_Astray_l1;exact T.kit_Unlike_l1;exact T.kit_NoPlace_l1;exact T.kit_LeftOpen_l1,?_⟩;rw [ub (by decide)];intro p1 hp1;have G2:=G1.mono (za (o:=.tup [V.ref t.NoValue,V.ref t.RingOver,V.ref t.Ringed,V.ref t.TooMany,V.ref t.Twice,V.ref t.Unended,V.ref t.Unknown]) hp1);exact⟨C,_,_,zb,G2,rfl,false,by rcases hC with rfl | rfl | rfl | rfl;exact T.kit_Astray_l2;exact T.kit_Unlike_l2;exact T.kit_NoPlace_l2;exact T.kit_LeftOpen_l2,q _ ((za hp).trans (za hp1))⟩
theorem iG {a b:TS}{D:Ends}{σ:L2.St}{H:Hp}(h:∀ N:L2.St->Hp->Prop,(∀ σ' H',b D σ' H'->N σ' H')->a { D with nx:=N } σ H):i7 a b D σ H:=h (b D) λ_ _ z=>z
theorem OL {c:TT}{a b:TS}{D:Ends}{σ:L2.St}{H:Hp}(h:∀ S:TS,(∀ D σ H,a D σ H->S D σ H)->nP c S b D σ H):nP c a b D σ H:=h a λ_ _ _ z=>z
theorem X6 (T:Txt w K mg t)(D:Df K mg "_law_refusal" yk jJ)(cb:sD P w K mg fY 1 "_law_other" wq (xV K t)):sD P w K mg fY 2 "_law_refusal" jJ (wD K t):=by
 refine D.okH WN ?_ ?_;walk_at"b"
 ·refine lZ h λea C d f B h=>?_;refine nK h λhc hf q=>?_;refine⟨_,(zc (zm (QW.qt (xI (jM (zK (vO (K:=K) (by rfl)) (by rfl) T.z_isinstance zU (ip (qv 0) (DV (v:=.ty "ValueError") T.z_ValueError X9 (by rfl))))) (wA (vW (jM (K0 cb hr (by decide) (iu (qv 0)))))))) (zc (zm (QW.qt (xI (jM (zK (vO (K:=K) (by rfl)) (by rfl) T.z_isinstance zU (ip (qv 0) (qo T.m_Astray)))) (wA (vW (jM (zK (kD (K:=K) (by rfl)) (by rfl) T.z_isinstance zU (ip (qv 0) (zh (iH (qo T.m_NoPlace) (qo T.m_Unlike) (qo T.m_LeftOpen)))))))))) (zd (zg (zh (iH (qS fR) (kH (K:=K) (by rfl) (qv 0)) (kH (K:=K) (by rfl) (qv 0)))))) zi) (zc (zm (QW.qt (xI (jM (zK (vO (K:=K) (by rfl)) (by rfl) T.z_isinstance zU (ip (qv 0) (qo T.m_NoPlace)))) (wA (vW (jM (zK (kD (K:=K) (by rfl)) (by rfl) T.z_isinstance zU (ip (qv 0) (zh (ip (qo T.m_Unlike) (qo T.m_LeftOpen)))))))))) (zd (zg (zh (iH (qS fS) (kH (K:=K) (by rfl) (qv 0)) (kH (K:=K) (by rfl) (qv 0)))))) zi) (zc (zm (QW.qt (xI (jM (zK (vO (K:=K) (by rfl)) (by rfl) T.z_isinstance zU (ip (qv 0) (qo T.m_Unlike)))) (wA (vW (jM (zK (vO (K:=K) (by rfl)) (by rfl) T.z_isinstance zU (ip (qv 0) (qo T.m_LeftOpen)))))))) (zd (zg (zh (lr (qS fT) (kH (K:=K) (by rfl) (qv 0)) (kH (K:=K) (by rfl) (qv 0)) (kH (K:=K) (by rfl) (qv 0)))))) zi) (zd (zm (jM (zK (vO (K:=K) (by rfl)) (by rfl) T.z_isinstance zU (ip (qv 0) (qo T.m_LeftOpen)))) (zd (zg (zh (ip (qS fU) (kH (K:=K) (by rfl) (qv 0)))))) zi))))) zi) (zd (zg (zh (iu (qS [111,100,100])))))).h,?_⟩
  have pre:∃ fs,L2.Got K H ea C fs/\(C=t.Astray\/C=t.Unlike\/C=t.NoPlace\/C=t.LeftOpen)/\PySem.W.kitOne K (.ref C) (.type "ValueError")=some true:=by
   cases f with
   | noplace x Tn n=>obtain⟨hC,p,hd,hp⟩:=hf;obtain rfl:C=t.NoPlace:=Uj hC;exact⟨_,⟨T.c_NoPlace,d,hc,hd⟩,.inr (.inr (.inl rfl)),T.kit_NoPlace_ve⟩
   | left Tn n=>obtain⟨hC,p,hd,hp⟩:=hf;obtain rfl:C=t.LeftOpen:=Uj hC;exact⟨_,⟨T.c_LeftOpen,d,hc,hd⟩,.inr (.inr (.inr rfl)),T.kit_LeftOpen_ve⟩
   | astray Tn n b=>obtain⟨hC,p,hd,hp⟩:=hf;obtain rfl:C=t.Astray:=Uj hC;exact⟨_,⟨T.c_Astray,d,hc,hd⟩,.inl rfl,T.kit_Astray_ve⟩
   | unlike wd Tn n T2 n2=>obtain⟨hC,a,p,p',hd,ha,hp,hp'⟩:=hf;obtain rfl:C=t.Unlike:=Uj hC;exact⟨_,⟨T.c_Unlike,d,hc,hd⟩,.inr (.inl rfl),T.kit_Unlike_ve⟩
  obtain⟨fs,G,hC0,kve⟩:=pre;refine iG λN hN=>OL λS0 hS=>?_
  walk_at"r";refine⟨C,⟨_,G⟩,rfl,true,kve,?_⟩;rw [ue rfl];refine⟨C,⟨_,G⟩,hC0,λH1 g1=>hS _ _ _ ?_⟩;clear hS hN G kve hC0;cases f with
  | noplace x Tn n=>
   obtain⟨hC,p,hd,hp⟩:=hf;obtain rfl:C=t.NoPlace:=Uj hC;have G1:=(show L2.Got K H ea t.NoPlace [("name",tx x),("place",.ref p)] from⟨T.c_NoPlace,d,hc,hd⟩).mono g1;refine iG λN hN=>?_
   walk_at"r";refine⟨t.NoPlace,⟨_,G1⟩,rfl,false,T.kit_NoPlace_a,?_⟩;rw [ub (by decide)];refine hN _ _ (iG λN hN=>?_)
   walk_at"r";refine⟨t.NoPlace,⟨_,G1⟩,rfl,true,T.kit_NoPlace_n,?_⟩;rw [ue rfl];intro p1 hp1;have k1:=za (o:=.tup [V.ref t.Unlike,V.ref t.LeftOpen]) hp1;have G2:=G1.mono k1;refine⟨t.NoPlace,_,_,zb,G2,rfl,false,T.kit_NoPlace_o,?_⟩;rw [ue (by decide)];refine⟨t.NoPlace,_,G2,T.n_NoPlace_name,_,rfl,t.NoPlace,_,G2,T.n_NoPlace_place,_,rfl,λp2 hp2=>?_⟩;have k2:=za (o:=.tup [V.str (S [110,111,112,108,97,99,101]),tx x,V.ref p]) hp2;have g:=g1.trans (k1.trans k2);exact q p2 _ g ⟨p,zb,hp.mono g⟩
  | left Tn n=>
   obtain⟨hC,p,hd,hp⟩:=hf;obtain rfl:C=t.LeftOpen:=Uj hC;have G1:=(show L2.Got K H ea t.LeftOpen [("place",.ref p)] from⟨T.c_LeftOpen,d,hc,hd⟩).mono g1;refine iG λN hN=>?_
   walk_at"r";refine⟨t.LeftOpen,⟨_,G1⟩,rfl,false,T.kit_LeftOpen_a,?_⟩;rw [ub (by decide)];refine hN _ _ (iG λN hN=>?_)
   walk_at"r";refine⟨t.LeftOpen,⟨_,G1⟩,rfl,false,T.kit_LeftOpen_n,?_⟩;rw [ub (by decide)];refine hN _ _ (iG λN hN=>?_)
   walk_at"r";refine⟨t.LeftOpen,⟨_,G1⟩,rfl,false,T.kit_LeftOpen_u,?_⟩;rw [ub (by decide)];refine hN _ _ ?_
   walk_at"r";refine⟨t.LeftOpen,⟨_,G1⟩,rfl,true,T.kit_LeftOpen_o,?_⟩;rw [ue rfl];refine⟨t.LeftOpen,_,G1,T.n_LeftOpen_place,_,rfl,λp2 hp2=>?_⟩;have k2:=za (o:=.tup [V.str (S [108,101,102,116]),V.ref p]) hp2;have g:=g1.trans k2;exact q p2 _ g ⟨p,zb,hp.mono g⟩
  | astray Tn n b=>
   obtain⟨hC,p,hd,hp⟩:=hf;obtain rfl:C=t.Astray:=Uj hC;have G1:=(show L2.Got K H ea t.Astray [("place",.ref p),("at",.int (b:Nat))] from⟨T.c_Astray,d,hc,hd⟩).mono g1;refine iG λN hN=>?_
   walk_at"r";refine⟨t.Astray,⟨_,G1⟩,rfl,true,T.kit_Astray_a,?_⟩;rw [ue rfl];intro p1 hp1;have k1:=za (o:=.tup [V.ref t.NoPlace,V.ref t.Unlike,V.ref t.LeftOpen]) hp1;have G2:=G1.mono k1;refine⟨t.Astray,_,_,zb,G2,rfl,false,T.kit_Astray_o,?_⟩;rw [ue (by decide)];refine⟨t.Astray,_,G2,T.n_Astray_place,_,rfl,t.Astray,_,G2,T.n_Astray_at,_,rfl,λp2 hp2=>?_⟩;have k2:=za (o:=.tup [V.str (S [97,115,116,114,97,121]),V.ref p,V.int (b:Nat)]) hp2;have g:=g1.trans (k1.trans k2);exact q p2 _ g ⟨p,zb,hp.mono g⟩
  | unlike wd Tn n T2 n2=>
   obtain⟨hC,a,p,p',hd,ha,hp,hp'⟩:=hf;obtain rfl:C=t.Unlike:=Uj hC;have G1:=(show L2.Got K H ea t.Unlike [("what",.ref a),("one",.ref p),("other",.ref p')] from⟨T.c_Unlike,d,hc,hd⟩).mono g1;refine iG λN hN=>?_
   walk_at"r";refine⟨t.Unlike,⟨_,G1⟩,rfl,false,T.kit_Unlike_a,?_⟩;rw [ub (by decide)];refine hN _ _ (iG λN hN=>?_)
   walk_at"r";refine⟨t.Unlike,⟨_,G1⟩,rfl,false,T.kit_Unlike_n,?_⟩;rw [ub (by decide)];refine hN _ _ (iG λN hN=>?_)
   walk_at"r";refine⟨t.Unlike,⟨_,G1⟩,rfl,true,T.kit_Unlike_u,?_⟩;rw [ue rfl];refine⟨t.Unlike,⟨_,G1⟩,rfl,false,T.kit_Unlike_o,?_⟩;rw [ue (by decide)];refine⟨t.Unlike,_,G1,T.n_Unlike_what,_,rfl,t.Unlike,_,G1,T.n_Unlike_one,_,rfl,t.Unlike,_,G1,T.n_Unlike_other,_,rfl,λp2 hp2=>?_⟩;have k2:=za (o:=.tup [V.str (S [117,110,108,105,107,101]),V.ref a,V.ref p,V.ref p']) hp2;have g:=g1.trans k2;exact q p2 _ g ⟨a,p,p',zb,g _ _ ha,hp.mono g,hp'.mono g⟩
theorem Vk (T:Txt w K mg t)(D:Df K mg "_law_looked" y8 qX)(cf:n9 P w K mg fY 62 "look" Jv (W4 t))(cj:sD P w K mg fY 2 "_law_refusal" jJ (wD K t)):ig P w K mg fY 63 "_law_looked" qX jw:=by
 refine D.ok yj ?_ ?_;walk_at"b"
 ·refine nU h λpv ps h=>?_;refine mS h λhp q=>?_;refine⟨_,(zc (Ls (i:=2) T.m_SealError T.c_SealError yj.nd (by rfl) (by rfl) (by rfl) (by rfl) (λE pn xe hp hx=>(zd (iC 1 yj.nd (Xw hx cf hr (by decide) (iu (qv 0)))))) (λpn ea=>(zd (zg (K0 cj (hr.marked _) (by decide) (iu (qv 2))))))) (zd (zg (zh (ip (qS [116,111,108,100]) (qv 1)))))).h,?_⟩
  walk_at"r";refine⟨ps,hp,λhs hk ha hv H1 g1 e1 ho p1 hp1=>?_,λf hk c d H1 g1 hf=>?_⟩
  ·have k1:=za (o:=.tup [V.str (S [116,111,108,100]),V.ref ha]) hp1;rw [hk] at q;exact q p1 _ (g1.trans k1) (λf z=>by cases z) ⟨p1,_,rfl,zb,_,_,rfl,⟨rfl,rfl⟩,_,_,rfl,⟨ha,_,rfl,k1 _ _ e1,(ho.mono (iT.of k1)).ds⟩,rfl⟩
  ·rw [hk] at q
   obtain⟨C,rfl,hC⟩:∃ C,c=.ref C/\(C=t.Astray\/C=t.Unlike\/C=t.NoPlace\/C=t.LeftOpen):=by
    cases f with
    | noplace x Tn n=>exact⟨_,hf.1,.inr (.inr (.inl rfl))⟩
    | left Tn n=>exact⟨_,hf.1,.inr (.inr (.inr rfl))⟩
    | astray Tn n b=>exact⟨_,hf.1,.inl rfl⟩
    | unlike wd Tn n T2 n2=>exact⟨_,hf.1,.inr (.inl rfl)⟩
   refine⟨C,rfl,by rcases hC with rfl | rfl | rfl | rfl;exact T.c_Astray;exact T.c_Unlike;exact T.c_NoPlace;exact T.c_LeftOpen,by rcases hC with rfl | rfl | rfl | rfl;exact T.kit_Astray_se;exact T.kit_Unlike_se;exact T.kit_NoPlace_se;exact T.kit_LeftOpen_se,λea H2 g2 hc=>⟨C,d,hc,f,H,hf.mono g2,λr H3 g3 hr=>q r H3 (g1.trans (g2.trans g3)) (λf' z=>by cases z;exact hr) hr.dt⟩⟩
def si (mk:Tx):List (Key×V):=[(.inr (S [116,101,120,116]),V.str (S (60::47::(mk++[62])))),(.inr (S [113,117,111,116,101,100]),V.str (S (34::61::mk))),(.inr (S [114,111,119]),V.str (S (41::61::mk))),(.inr (S [115,97,105,100]),V.str (S (39::61::mk)))]
def Be:List (Key×V):=[(.inr (S [116,101,120,116]),V.str (S [120,60])),(.inr (S [100,111,110,101]),V.str (S [32,117])),(.inr (S [98,97,114,101]),V.str (S [126])),(.inr (S [113,117,111,116,101,100]),V.str (S [38]))]
def AM:List (Key×V):=[(.inr (S [116,101,120,116]),V.str (S [60,117,62])),(.inr (S [100,111,110,101]),V.str (S [32,117,58,118])),(.inr (S [98,97,114,101]),V.str (S [32])),(.inr (S [113,117,111,116,101,100]),V.str (S [34])),(.inr (S [114,111,119]),V.str (S [41])),(.inr (S [115,97,105,100]),V.str (S [39]))]
theorem MD {mk kind:Tx}(hm:Mk mk)(k:Kn kind):(iU (wa [] (si mk)) (.inr (S kind))).getD (V.str (S (61::mk)))=tx (lQ mk kind):=by cases k<;>rcases hm with rfl | rfl<;>decide +kernel
theorem Rz {kind:Tx}(k:Kn kind):(iU (wa [] Be) (.inr (S kind))).getD (V.str (S [92]))=tx (Q8 kind):=by cases k<;>decide +kernel
theorem OK {kind:Tx}(k:Kn kind):iU (wa [] AM) (.inr (S kind))=some (tx (JA kind)):=by cases k<;>decide +kernel
theorem YO (T:Txt w K mg t)(D:Df K mg "_law_fault" kS jj):ig P w K mg fY 1 "_law_fault" jj jL:=by
 refine D.ok xR ?_ ?_;walk_at"b"
 ·refine oC h λwd mk kind h=>?_;refine nK h λhm hk q=>?_;refine⟨_,(zc (iC 3 xR.nd (WW (jI (by exact(qS fw)) (by exact(zr jA (zr jA (qS [60,47]) (qv 1)) (qS [62]))) (jI (by exact(qS fG)) (by exact(zr jA (qS [34,61]) (qv 1))) (jI (by exact(qS fF)) (by exact(zr jA (qS [41,61]) (qv 1))) (jI (by exact(qS fo)) (by exact(zr jA (qS [39,61]) (qv 1))) WV)))) (by rfl) (by rfl) (by intro z;cases z) (by decide))) (zc (iC 4 xR.nd (WW (jI (by exact(qS fw)) (by exact(qS [120,60])) (jI (by exact(qS fH)) (by exact(qS [32,117])) (jI (by exact(qS fE)) (by exact(qS [126])) (jI (by exact(qS fG)) (by exact(qS [38])) WV)))) (by rfl) (by rfl) (by intro z;cases z) (by decide))) (zc (iC 5 xR.nd ⟨Nz (Vw hr) (EV (vU (qS fw).h (qS [60,117,62]).h (vU (qS fH).h (qS [32,117,58,118]).h (vU (qS fE).h (qS [32]).h (vU (qS fG).h (qS [34]).h (vU (qS fF).h (qS [41]).h (vU (qS fo).h (qS [39]).h EW)))))) (by rfl) (by rfl) (by intro z;cases z) (by decide)) (qv 2).h (λ_ _=>rfl)⟩) (zc (zm (iw zx (qv 0) (qS fR)) (zd (zg (zl (iu (zh (ip (qS fN) (Jq (Vw hr) (qv 3) (qv 2) (zr jA (qS [61]) (qv 1)) (by exact⟨rfl,rfl,rfl,rfl⟩)))))))) zi) (zc (zm (iw zx (qv 0) (qS fS)) (zd (zg (zl (iH (zh (ip (qS fN) (Jq (Vw hr) (qv 4) (qv 2) (qS [92]) (by exact⟨rfl,rfl,rfl,rfl⟩)))) (zh (ip (qS fO) (qv 1))) (zh (ip (qS fN) (qS [98]))))))) zi) (zc (zm (iw zx (qv 0) (qS fK)) (zd (zg (zl (iu (zh (lr (qS fK) (qv 1) (zl (iu (zh (ip (qS fN) (qv 5))))) (zl zC))))))) zi) (zc (zm (iw zx (qv 0) (qS fJ)) (zd (zg (zl (iu (zh (iH (qS fJ) (qv 1) (zl (iu (zh (ip (qS fN) (qv 5))))))))))) zi) (zd (zg (zl (iu (zh (mK (qS fL) (qS fQ) (qv 1) (qS []) (zl (iu (zh (ip (qS fN) (qv 5)))))))))))))))))).h,?_⟩;have hl:mk.length=2:=by rcases hm with rfl | rfl<;>rfl
  walk_at"d";intro p hp;refine⟨by lia,by lia,by lia,by lia,by lia,zb,si mk,rfl,Nat.le_of_ble_eq_true rfl,?_⟩
  walk_at"d";refine λp1 h1=>⟨zb,Be,rfl,by decide,?_⟩
  walk_at"d";refine λp2 h2=>⟨zb,AM,rfl,by decide,_,by rw [← OK hk];exact lV.k (k:=.inr (S kind)) zb,?_⟩
  have k1:=JC (o:=HO.dK []) (o':=HO.dK (wa [] (si mk))) hp;have k2:=JC (o:=HO.dK []) (o':=HO.dK (wa [] Be)) h1;have k3:=JC (o:=HO.dK []) (o':=HO.dK (wa [] AM)) h2;have g0:=k1.trans (k2.trans k3);have e1:=(k2.trans k3) p _ zb;have e2:=k3 p1 _ zb;clear k1 k2 k3;generalize upd (upd _ p2 _) p2 _=H3 at g0 e1 e2 ⊢;cases wd
  all_goals
   simp only [Qm]
   walk_at"i"
  ·walk_at"d";refine⟨.inl ⟨_,.inl e1⟩,by lia,_,lV.k (k:=.inr (S kind)) e1,?_⟩;rw [MD hm hk];intro q1 z1 q2 z2;have b1:=za (o:=.tup [tx [108,105,116],tx (lQ mk kind)]) z1;have b2:=za (o:=.lst [V.ref q1]) z2;exact q q2 _ (g0.trans (b1.trans b2)) ⟨q2,_,rfl,kq (g0.trans b1) z2 zb,Z1 (kq g0 z1 (b2 _ _ zb))⟩
  all_goals walk_at"i"
  ·walk_at"d";refine⟨.inl ⟨_,.inl e2⟩,_,lV.k (k:=.inr (S kind)) e2,?_⟩;rw [Rz hk];intro q1 z1 q2 z2 q3 z3 q4 z4;have b1:=za (o:=.tup [tx [108,105,116],tx (Q8 kind)]) z1;have b2:=za (o:=.tup [tx [104,111,108,101],tx mk]) z2;have b3:=za (o:=.tup [tx [108,105,116],tx [98]]) z3;have b4:=za (o:=.lst [V.ref q1,V.ref q2,V.ref q3]) z4;refine q q4 _ (g0.trans (b1.trans (b2.trans (b3.trans b4)))) ⟨q4,_,rfl,kq (g0.trans (b1.trans (b2.trans b3))) z4 zb,?_⟩;have d1:=Z1 (kq g0 z1 ((b2.trans (b3.trans b4)) _ _ zb));have d2:=Fc (kq (g0.trans b1) z2 ((b3.trans b4) _ _ zb));have d3:=Z1 (kq (g0.trans (b1.trans b2)) z3 (b4 _ _ zb));have d4:=d1.app (d2.app d3);rw [← xp,← xp] at d4;exact d4
  all_goals walk_at"i"
  ·walk_at "ho";exact Dy (by walk_at "ds") λp H4 g4 h=>q p _ (g0.trans g4) h
  all_goals walk_at"i"
  all_goals
   walk_at "ho";exact Dy (by walk_at "ds") λp H4 g4 h=>q p _ (g0.trans g4) h
theorem kb {k d:Nat}(hk:10<=k)(hd:gS d<=100000)(T:Txt w K mg t)(D:Df K mg "_law_within" xS jt)(af:ig P w K mg fY 2 "_law_part" qO je)(ay:ig P w K mg fY k "_law_good" qi (jh d)):ig P w K mg fY (k+1) "_law_within" jt (xu d):=by
 refine D.ok yh ?_ ?_;walk_at"b"
 ·refine pR h λc lead kind close pa as L h=>?_;refine nK h λhP hkn q=>?_;refine⟨_,(zc (kI (qF ay hr (lr (qF af hr (ip (qv 0) ze)) (qv 2) (zr Xb (qv 4) ze) (qv 5))) (vV (n:=2) (by rfl) (zI (ly 6 yh.nd) (zI (ly 7 yh.nd) xb)))) (zd (zg (zh (ip (zr qx (zr qx (zl (iu (zh (ip (qS fN) (qv 1))))) (qv 6)) (zl (iu (zh (ip (qS fN) (qv 3)))))) (qv 7)))))).h,?_⟩
  walk_at"r";intro H1 g1;refine⟨by lia,as,L,hP.mono g1,hkn,λr ps y L' H2 hr hres ht hg=>?_⟩;obtain⟨rp,p,fa,da,xs,rfl,hp,⟨_,vs,e,hfa,hds⟩,hda,np,nd,hxl⟩:=hr;cases e;have R1:=Rp.same hP.lie g1;have R2:=R1.trans rp;refine⟨p,rfl,_,ir.of hp,rfl,_,_,rfl,_,_,rfl,rfl,λq1 h1 q2 h2=>?_⟩;have a1:=za (o:=.tup [tx [108,105,116],tx lead]) h1;have a2:=za (o:=.lst [V.ref q1]) h2;have A2:=a1.trans a2;have l1:=hds.len;rw [qw] at l1;have l2:=xq ps;have l3:=hg.sz;refine⟨fa,rfl,_,zb,vs,A2 _ _ (vn _ _ hfa),by show 1+vs.length<=16777216;lia,λq3 h3 q4 h4 q5 h5=>?_⟩;have a3:=za (o:=.lst ([V.ref q1]++vs)) h3;have a4:=za (o:=.tup [tx [108,105,116],tx close]) h4;have a5:=za (o:=.lst [V.ref q4]) h5;have A3:=A2.trans a3;refine⟨_,(a4.trans a5) _ _ zb,_,zb,by rw [uc,uw,uw];lia,λq6 h6 q7 h7=>?_⟩;have a6:=za (o:=.lst ([V.ref q1]++vs++[V.ref q4])) h6;have a7:=za (o:=.tup [V.ref q6,V.ref da]) h7;have A5:=A3.trans (a4.trans a5);have A7:=A5.trans (a6.trans a7);have N:∀ {x:Addr} {o:HO} {Hi Hx:Hp},fX H2 Hi->Hi x=none->Hx x=some o->nw H Hx x=some o:=λg z e=>X2 hP.lie R2 (none_of g z) e;refine q _ ps y L' _ ⟨R2.trans (Rp.same rp.2 A7),q7,q6,da,xs,rfl,zb,⟨q6,_,rfl,N A5 h6 (a7 _ _ zb),?_⟩,A7 _ _ hda,R2.fresh hP.lie (none_of (A5.trans a6) h7),none_of g1 nd,?_⟩ hres ht hg
  ·show iq _ (iM ([.lit lead]++ps++[.lit close])) _;rw [xp,xp];exact((Z1 (N (fX.refl _) h1 ((a2.trans (a3.trans (a4.trans (a5.trans (a6.trans a7))))) _ _ zb))).app (hds.mono ((Zs hP.lie R1).trans (wy A7)))).app (Z1 (N A3 h4 ((a5.trans (a6.trans a7)) _ _ zb)))
  ·show xs.length<=ik ([.lit lead]++ps++[.lit close]);rw [z8,z8];lia
theorem vC {k d:Nat}(hk:10<=k)(hd:gS d<=100000)(T:Txt w K mg t)(D:Df K mg "_law_compound" wC qr)(ae:ig P w K mg fY 1 "_law_mix" qy qT)(af:ig P w K mg fY 2 "_law_part" qO je)(ck:ig P w K mg fY k "_law_within" jt (xu d))(ay:ig P w K mg fY k "_law_good" qi (jh d)):ig P w K mg fY (k+1) "_law_compound" qr (j8 d):=by
 refine D.ok zF ?_ ?_;walk_at"b"
 ·refine lZ h λc kind pa as L h=>?_;refine nK h λhP hkn q=>?_;refine⟨_,(zc (iC 4 zF.nd (qF ae hr (iH (qv 0) ze ze))) (zc (zm (iw zx (qv 1) (qS fH)) (zc (iC 5 zF.nd (mQ K (zl (iH (qS [32,113,61,34]) (qS [32,114,40,121,44]) (qS [32,116,33,34,119,32,39]))) (qv 4))) (zd (zg (qF ck hr (qN (by exact(qv 0)) (by exact(mK (qv 5) (mQ K (zl (iH (qS fG) (qS fF) (qS fo))) (qv 4)) (mQ K (zl (iH (qS [34]) (qS [41]) (qS [39,34]))) (qv 4)) (qv 2) (qv 3)))))))) zi) (zc (zm (iw zx (qv 4) ze) (zd (kI (qF ck hr (qN (by exact(qv 0)) (by exact(mK (qS [60,98,32,119,58]) (qS fE) (qS [62]) (qv 2) (qv 3))))) (vV (n:=2) (by rfl) (zI (ly 6 zF.nd) (zI (ly 7 zF.nd) xb))))) (zd (kI (qF ck hr (qN (by exact(qv 0)) (by exact(mK (qS [60,98,32,97,61,34,120,34]) (qS fH) (qS [62]) (qv 2) (qv 3))))) (vV (n:=2) (by rfl) (zI (ly 6 zF.nd) (zI (ly 7 zF.nd) xb)))))) (zc (kI (qF ay hr (lr (qF af hr (ip (qv 0) ze)) (qS fw) (zr Xb (qv 2) ze) (qv 3))) (vV (n:=2) (by rfl) (zI (ly 8 zF.nd) (zI (ly 9 zF.nd) xb)))) (zd (zg (zh (ip (zr qx (zr qx (qv 6) (qv 8)) (zl (iu (zh (ip (qS fN) (qS [60,47,98,62])))))) (zr qx (qv 7) (qv 9)))))))))).h,?_⟩
  walk_at"d";intro H1 g1
  walk_at"d";have hm3:iI c 4 3<3:=by have:=Q7 (c:=c) (k:=4) (m:=3) (by decide);lia
  have R1:=Rp.same hP.lie g1;by_cases hkd:kind=[100,111,110,101]
  ·rw [ue hkd];intro q1 h1;generalize hm:iI c 4 3=m at hm3;have:m=0\/m=1\/m=2:=by lia
   have fin:∀ (q2 q3:Addr) (o1 o2 o3:HO),H1 q1=none->upd H1 q1 o1 q2=none->upd (upd H1 q1 o1) q2 o2 q3=none->fX H1 (upd (upd (upd H1 q1 o1) q2 o2) q3 o3):=λq2 q3 o1 o2 o3 z1 z2 z3=>(za z1).trans ((za z2).trans (za z3));have rd:=λ{ps y}=>OR (d:=d) (a:=ps) (y:=y) this;rw [hkd] at q;have hb:∀ {t u:Tx} {ps:List Pc},oP d ps->t.length<=8->u.length<=4->oK (d+1) (.lit t::ps++[.lit u]):=F3;rcases this with rfl | rfl | rfl
   all_goals
    refine⟨_,iA.of zb,_,rfl,λq2 h2=>⟨_,iA.of zb,_,rfl,λq3 h3=>⟨_,iA.of zb,_,rfl,_,rfl,_,rfl,_,rfl,as,L,hP.mono (g1.trans (fin _ _ _ _ _ h1 h2 h3)),by first | exact .quoted | exact .row | exact .said,λr ps y L' H5 hr res tl gd=>?_⟩⟩⟩;exact q r _ y L' _ (hr.pre hP.lie (g1.trans (fin _ _ _ _ _ h1 h2 h3))) ((rd λkd' e _=>by subst e;exact res).mono (UA d)) tl (hb gd (by decide) (by decide))
  rw [ub hkd];obtain rfl:kind=zE:=hkn.resolve_right hkd
  walk_at"d";split
  all_goals
   refine⟨as,L,hP.mono g1,by first | exact .bare | exact .done,λr ps y L1 H2 hr res tl gd=>?_⟩;obtain⟨rp,p,fa,da,xs,rfl,hp,⟨_,vs,e,hfa,hds⟩,hda,np,nd,hxl⟩:=hr;cases e;have R2:=R1.trans rp;refine⟨p,rfl,_,ir.of hp,rfl,_,_,rfl,_,_,rfl,rfl,?_⟩
   walk_at"d";refine λH3 g3=>⟨by lia,as,L1,(hP.go R2 tl).mono g3,.text,λr ps2 y2 Lb H4 hr res2 tl2 gd2=>?_⟩
   obtain⟨rp4,p',fb,db,ys,rfl,hp',⟨_,us,e,hfb,hdu⟩,hdb,np',nd',hyl⟩:=hr;cases e;have R3:=R2.trans (Rp.same rp.2 g3);have R4:=R3.trans rp4;have R34:=(Rp.same rp.2 g3).trans rp4;have O:∀ {x:Addr} {o:HO},H x=none->H2 x=some o->H4 x=some o:=λz e=>R34.old (λy=>hP.lie.some _ y z) e;have nfa:H fa=none:=by have:=Zs hP.lie R1 _ _ hfa;unfold nw at this;split at this;assumption;cases this
   have l1:=hds.len;rw [qw] at l1;have l2:=xq ps;have l3:=gd.sz;have l4:=hdu.len;rw [qw] at l4;have l5:=xq ps2;have l6:=gd2.sz;simp only [uo,uc,UH] at l1;refine⟨p',rfl,_,ir.of hp',rfl,_,_,rfl,_,_,rfl,rfl,?_⟩
   walk_at"d";refine⟨vs,O nfa (vn _ _ hfa),us,vn _ _ hfb,by lia,λq1 h1 q2 h2 q3 h3=>?_⟩;have a1:=za (o:=.lst (vs++us)) h1;have a2:=za (o:=.tup [tx [108,105,116],tx [60,47,98,62]]) h2;have a3:=za (o:=.lst [V.ref q2]) h3;have A3:=a1.trans (a2.trans a3);refine⟨_,(a2.trans a3) _ _ zb,_,zb,by rw [uc,uw];lia,λq4 h4=>?_⟩;have a4:=za (o:=.lst (vs++us++[V.ref q2])) h4;have A4:=A3.trans a4;simp only [ik,iE,z8] at hxl;refine⟨xs,A4 _ _ (O (none_of g1 nd) hda),ys,A4 _ _ hdb,by lia,λq5 h5 q6 h6=>?_⟩;have a5:=za (o:=.lst (xs++ys)) h5;have a6:=za (o:=.tup [V.ref q4,V.ref q5]) h6;have A6:=A4.trans (a5.trans a6);have N:∀ {x:Addr} {o:HO} {Hi Hx:Hp},fX H4 Hi->Hi x=none->Hx x=some o->nw H Hx x=some o:=λg z e=>X2 hP.lie R4 (none_of g z) e;have F:∀ {x:Addr} {Hi:Hp},fX H4 Hi->Hi x=none->H x=none:=λg z=>R4.fresh hP.lie (none_of g z);have D:=((hds.mono ((Zs hP.lie R1).trans ((sR R34 hP.lie.some).trans (wy A6)))).app (hdu.mono ((Zs hP.lie R3).trans (wy A6)))).app (Z1 (N a1 h2 ((a3.trans (a4.trans (a5.trans a6))) _ _ zb)));rw [← xp,← xp] at D;refine q _ _ (y <|> y2) Lb _ ⟨R4.trans (Rp.same rp4.2 A6),q6,q4,q5,xs++ys,rfl,zb,⟨q4,_,rfl,N A3 h4 ((a5.trans a6) _ _ zb),D⟩,a6 _ _ zb,F (A4.trans a5) h6,F A4 h5,?_⟩ ?_ (tl.app tl2) ?_
   ·rw [z8,z8];simp only [ik,iE,z8,uc];lia
   ·first
    | exact Ey (m:=0) (.inl ⟨rfl,rfl⟩) res res2
    | exact Ey (m:=1) (.inr ⟨rfl,by decide⟩) res res2
   ·exact Mh gd gd2 (by decide) (by decide) (by decide)
def oX (c:Int)(kind:Tx)(d:Nat)(pa:Addr):L2.St:=[some (V.int c),some (V.str (S kind)),some (V.int d),some (V.ref pa),some (V.int (iI c 1 8)),some (V.str (S (Qn c))),none,none,none,none]
theorem yO {k d:Nat}(hk:10<=k)(hd:gS d<=100000)(hd3:d<=3)(T:Txt w K mg t)(D:Df K mg "_law_some" yx j6)(ae:ig P w K mg fY 1 "_law_mix" qy qT)(af:ig P w K mg fY 2 "_law_part" qO je)(cF:ig P w K mg fY k "_law_compound" qr (λvs H Q E=>∃ d',d=d' + 1/\j8 d' vs H Q E))(ay:ig P w K mg fY k "_law_good" qi (λvs H Q E=>∃ d',d=d' + 1/\jh d' vs H Q E)):ig P w K mg fY (k+1) "_law_some" j6 (vK d):=by
 refine D.ok jF ?_ ?_;walk_at"b"
 ·refine lZ h λc kind pa as L h=>?_;refine nK h λhP hkn q=>?_;refine⟨_,(zc (iC 4 jF.nd (qF ae hr (iH (qv 0) ze ze))) (zc (iC 5 jF.nd (mQ K (zl (lr (qS [97]) (qS [97,98]) (qS [119,104,111]) (qS [98]))) (qF ae hr (iH (qv 0) ze ze)))) (zc (zm (QW.qt (xI (iw zx (qv 4) ze) (wA (iw Ba (qv 1) (qS fH))))) (zd (zg (zh (ip (zl (iu (zh (ip (qS fO) (qv 5))))) (zl (iu (zh (ip (qv 5) (qv 1))))))))) zi) (zc (zm (QW.qt (Xx (iw Ad (qv 4) ze) (Xx (iw zx (qv 2) ze) (Yj (QW.qt (xI (iw Xd (qv 4) ze) (wA (iw (Xm (K:=K) (by rfl)) (qv 1) (zh (ip (qS fw) (qS fH))))))))))) (zd (zg (zh (ip (zl (iu (zh (ip (qS fN) (Jq (Vw hr) (WW (jI (by exact(qS fw)) (by exact(qS [120,32,121,38,48,53,59])) (jI (by exact(qS fH)) (by exact(qS [32,99,61,34,121,34])) WV)) (by rfl) (by rfl) (by intro z;cases z) (by decide)) (qv 1) (qS [122,48]) (by exact⟨rfl,rfl,rfl,rfl⟩)))))) (zl zC))))) zi) (zc (zm (iw Xd (qv 4) ze) (zd (zg (qF cF hr (lr (qv 0) (qv 1) (qv 2) (qv 3))))) zi) (zc (kI (qF ay hr (lr (qF af hr (ip (qv 0) ze)) (qv 1) (zr Xb (qv 2) ze) (qv 3))) (vV (n:=2) (by rfl) (zI (ly 6 jF.nd) (zI (ly 7 jF.nd) xb)))) (zc (zm (iw zx (qv 4) ze) (zd (zg (zh (ip (zl (iu (zh (iH (qS fJ) (qv 5) (qv 6))))) (qv 7))))) zi) (zc (zm (iw zx (qv 4) ze) (zc (iC 8 jF.nd (qF ay hr (lr (qF af hr (ip (qv 0) ze)) (qv 1) (zr Xb (qv 2) ze) (qv 3)))) (zd (zg (zh (ip (zl (iu (zh (lr (qS fK) (qv 5) (qv 6) (iy K (qv 8) ze))))) (zr qx (qv 7) (iy K (qv 8) ze))))))) zi) (zc (iC 9 jF.nd (mQ K (zl (iH (qS [98,108,111,99,107]) (qS [101,108,100,101,114]) (qS fQ))) (qF ae hr (iH (qv 0) ze ze)))) (zd (zg (zh (ip (zl (iu (zh (mK (qS fL) (qv 9) (qS [97]) (mQ K (zl (ip (qS [98]) (qS []))) (JQ S7 (by rfl) T.z_int Ec (iu (pG zx (qv 9) (qS fQ))))) (qv 6))))) (qv 7)))))))))))))).h,?_⟩;have hm8:iI c 1 8<8:=by have:=Q7 (c:=c) (k:=1) (m:=8) (by decide);lia
  have hm4:iI c 2 4<4:=by have:=Q7 (c:=c) (k:=2) (m:=4) (by decide);lia
  obtain⟨nm1,nm2⟩:=MN c;have F0:∀ {x:Addr} {H':Hp},fX H H'->H' x=none->H x=none:=λg z=>none_of g z
  refine PZ (λσ' H'=>σ' = oX c kind d pa/\fX H H') ?_ (λN hN=>by
   walk_at"r"
   intro H1 g1 p hp H2 g2
   have a1:=za (o:=.lst [V.str (S [97]),V.str (S [97,98]),V.str (S [119,104,111]),V.str (S [98])]) hp
   refine⟨_,iA.of (g2 _ _ zb),V.str (S (Qn c)),?_,hN _ _ ⟨rfl,g1.trans (a1.trans g2)⟩⟩
   unfold Qn
   have:iI c 2 4=0\/iI c 2 4=1\/iI c 2 4=2\/iI c 2 4=3:=by lia
   rcases this with e | e | e | e<;>rw [e]<;>rfl)
  rintro σ1 H1 ⟨rfl,g1⟩
  refine XX (λσ' H'=>σ' = oX c kind d pa/\fX H H'/\¬ (iI c 1 8=1/\kind≠xr)) ?_ (λN hN=>by
   unfold oX
   refine tS λT_ U_ eT eU=>?_
   subst eU
   walk_at"r"
   by_cases h1:iI c 1 8=1
   ·rw [ue (by lia)]
    by_cases h2:kind=[100,111,110,101]
    ·rw [ub (by simp [h2])]
     exact hN _ _ ⟨rfl,g1,λz=>z.2 h2⟩
    ·rw [ue (by simp [h2])]
     subst eT
     walk_at"r"
     intro q1 z1 q2 z2 q3 z3 q4 z4 q5 z5
     have b1:=za (o:=.tup [tx [104,111,108,101],tx (Qn c)]) z1
     have b2:=za (o:=.lst [V.ref q1]) z2
     have b3:=za (o:=.tup [tx (Qn c),tx kind]) z3
     have b4:=za (o:=.lst [V.ref q3]) z4
     have b5:=za (o:=.tup [V.ref q2,V.ref q4]) z5
     have B3:=b3.trans (b4.trans b5)
     have G:=g1.trans (b1.trans (b2.trans B3))
     exact q _ _ none L _ ⟨Rp.same hP.lie G,q5,q2,q4,[V.ref q3],rfl,zb,⟨q2,_,rfl,kq (g1.trans b1) z2 (B3 _ _ zb),Fc (kq g1 z1 ((b2.trans B3) _ _ zb))⟩,b5 _ _ zb,none_of (g1.trans (b1.trans (b2.trans (b3.trans b4)))) z5,none_of (g1.trans (b1.trans (b2.trans b3))) z4,by simp [ik,iE]⟩ (.ok (Rg hkn h2 nm1)) .rfl (MT nm2)
   ·rw [ub (by lia)]
    exact hN _ _ ⟨rfl,g1,λz=>h1 z.1⟩)
  rintro σ2 H2 ⟨rfl,g2,n1⟩
  refine XX (λσ' H'=>σ' = oX c kind d pa/\fX H H'/\¬ (iI c 1 8<2\/d=0\/(4<iI c 1 8/\kind≠zE/\kind≠xr))) ?_ (λN hN=>by
   unfold oX
   refine tS λT_ U_ eT eU=>?_
   have lit:∀ H0,fX H H0->T_ (oX c kind d pa) H0:=by
    intro H0 g0
    subst eT
    unfold oX
    walk_at"r"
    intro p hp
    have g5:fX H0 (upd (upd H0 p (HO.dK [])) p (HO.dK (wa [] nR))):=JC hp
    refine⟨zb,nR,rfl,by decide,.inl ⟨_,.inl zb⟩,_,lV.k (k:=.inr (S kind)) zb,?_⟩
    rw [MO]
    intro q1 z1 q2 z2 q3 z3 q4 z4
    have b1:=za (o:=.tup [tx [108,105,116],tx (ot kind)]) z1
    have b2:=za (o:=.lst [V.ref q1]) z2
    have b3:=za (o:=.lst []) z3
    have b4:=za (o:=.tup [V.ref q2,V.ref q3]) z4
    have G5:=g0.trans g5
    exact q _ _ none L _ ⟨Rp.same hP.lie (G5.trans (b1.trans (b2.trans (b3.trans b4)))),q4,q2,q3,[],rfl,zb,⟨q2,_,rfl,kq (G5.trans b1) z2 ((b3.trans b4) _ _ zb),Z1 (kq G5 z1 ((b2.trans (b3.trans b4)) _ _ zb))⟩,b4 _ _ zb,none_of (G5.trans (b1.trans (b2.trans b3))) z4,none_of (G5.trans (b1.trans b2)) z3,by simp⟩ (.ok (Rh hkn)) .rfl (Mj (by cases hkn<;>decide))
   subst eU
   walk_at"r"
   split
   ·exact lit H2 g2
   ·split
    ·exact lit H2 g2
    ·split
     ·intro p hp
      have b0:=za (o:=.tup [V.str (S [116,101,120,116]),V.str (S [100,111,110,101])]) hp
      refine⟨_,.inr (ir.of zb),rfl,rfl,?_⟩
      by_cases h:kind=zE\/kind=xr
      ·have hin:rW (V.str (S kind)) [V.str (S [116,101,120,116]),V.str (S [100,111,110,101])]=true:=by
        rcases h with rfl | rfl<;>decide
       rw [hin,ub (by decide)]
       refine hN _ _ ⟨rfl,g2.trans b0,?_⟩
       rintro(z | z | z)
       ·lia
       ·lia
       ·rcases h with h | h
        ·exact z.2.1 h
        ·exact z.2.2 h
      ·have hin:rW (V.str (S kind)) [V.str (S [116,101,120,116]),V.str (S [100,111,110,101])]=false:=by
        have k1:¬ S kind=S [116,101,120,116]:=λz=>h (.inl (yq.mp z))
        have k2:¬ S kind=S [100,111,110,101]:=λz=>h (.inr (yq.mp z))
        have k3:¬ S [116,101,120,116]=S kind:=λz=>k1 z.symm
        have k4:¬ S [100,111,110,101]=S kind:=λz=>k2 z.symm
        simp [rW,nE,k1,k2,k3,k4]
       rw [hin,ue (by decide)]
       exact lit _ (g2.trans b0)
     ·exact hN _ _ ⟨rfl,g2,by lia⟩)
  rintro σ3 H3 ⟨rfl,g3,n2⟩;obtain⟨d',rfl⟩:∃ d',d=d' + 1:=⟨d - 1,by lia⟩
  refine XX (λσ' H'=>σ' = oX c kind (d' + 1) pa/\fX H H'/\¬ 4<iI c 1 8) ?_ (λN hN=>by
   unfold oX
   walk_at"r"
   split
   ·rename_i h4
    refine⟨as,L,hP.mono g3,?_,λr ps y L' H' hr res tl sm=>q r ps y L' H' (hr.pre hP.lie g3) res tl sm⟩
    by_cases e:kind=zE
    ·exact .inl e
    ·exact .inr (Classical.byContradiction λe2=>n2 (.inr (.inr ⟨by lia,e,e2⟩)))
   ·rename_i h4
    exact hN _ _ ⟨rfl,g3,by lia⟩)
  rintro σ4 H4 ⟨rfl,g4,n3⟩;unfold oX
  walk_at"d";have hgd:gS (d' + 1)=3 * (2 * gS d' + 9):=rfl;intro H5 g5;have G5:=g4.trans g5;have R5:=Rp.same hP.lie G5;refine⟨by lia,as,L,hP.mono G5,hkn,λr ps y L1 H6 hr res tl gd=>?_⟩;obtain⟨rp,p,fa,da,xs,rfl,hp,hfa,hda,np,nd,hxl⟩:=hr;have R6:=R5.trans rp;have gsz:=gd.sz;refine⟨p,rfl,_,ir.of hp,rfl,_,_,rfl,_,_,rfl,rfl,?_⟩;have N:∀ {x:Addr} {o:HO} {Hi Hx:Hp},fX H6 Hi->Hi x=none->Hx x=some o->nw H Hx x=some o:=λg z e=>X2 hP.lie R6 (none_of g z) e;have F:∀ {x:Addr} {Hi:Hp},fX H6 Hi->Hi x=none->H x=none:=λg z=>R6.fresh hP.lie (none_of g z)
  walk_at"i";by_cases h2:iI c 1 8=2
  ·rw [ue (by lia)]
   walk_at"d";intro q1 z1 q2 z2 q3 z3;have b1:=za (o:=.tup [tx [101,97,99,104],tx (Qn c),.ref fa]) z1;have b2:=za (o:=.lst [V.ref q1]) z2;have b3:=za (o:=.tup [V.ref q2,V.ref da]) z3;have B2:=b1.trans b2;have B:=B2.trans b3;exact q _ _ y L1 _ ⟨R6.trans (Rp.same rp.2 B),q3,q2,da,xs,rfl,zb,⟨q2,_,rfl,N b1 z2 (b3 _ _ zb),N7 (N (fX.refl _) z1 ((b2.trans b3) _ _ zb)) (hfa.mono ((Zs hP.lie R5).trans (wy B)))⟩,B _ _ hda,F B2 z3,none_of G5 nd,by simp only [ik,iE];lia⟩ (Rf (res.mono (UA d')) nm1) tl (MR gd)
  ·rw [ub (by lia)]
   walk_at"i";by_cases h3:iI c 1 8=3
   ·rw [ue (by lia)]
    walk_at"d";intro H7 g7;have R7:=R6.trans (Rp.same rp.2 g7);refine⟨by lia,as,L1,(hP.go R6 tl).mono g7,hkn,λr ps2 y2 Lb H8 hr res2 tl2 gd2=>?_⟩;obtain⟨rp8,pr2,fb,db,ys,rfl,hpr2,hfb,hdb,np2,nd2,hyl⟩:=hr;have R8:=R7.trans rp8;have R68:=(Rp.same rp.2 g7).trans rp8;have gsz2:=gd2.sz;have N8:∀ {x:Addr} {o:HO} {Hi Hx:Hp},fX H8 Hi->Hi x=none->Hx x=some o->nw H Hx x=some o:=λg z e=>X2 hP.lie R8 (none_of g z) e;have F8:∀ {x:Addr} {Hi:Hp},fX H8 Hi->Hi x=none->H x=none:=λg z=>R8.fresh hP.lie (none_of g z)
    walk_at"d";refine⟨_,ir.of hpr2,_,rfl,λq1 z1 q2 z2=>?_⟩;have b1:=za (o:=.tup [tx [105,102],tx (Qn c),.ref fa,.ref fb]) z1;have b2:=za (o:=.lst [V.ref q1]) z2;have B2:=b1.trans b2;refine⟨_,ir.of (B2 _ _ hpr2),_,rfl,db,rfl,xs,B2 _ _ (R68.old (λy=>hP.lie.some _ y (none_of G5 nd)) hda),ys,B2 _ _ hdb,by lia,λq3 z3 q4 z4=>?_⟩;have b3:=za (o:=.lst (xs++ys)) z3;have b4:=za (o:=.tup [V.ref q2,V.ref q3]) z4;have B3:=B2.trans b3;have B:=B3.trans b4;exact q _ _ (y <|> y2) Lb _ ⟨R8.trans (Rp.same rp8.2 B),q4,q2,q3,xs++ys,rfl,zb,⟨q2,_,rfl,N8 b1 z2 ((b3.trans b4) _ _ zb),Mo (N8 (fX.refl _) z1 ((b2.trans (b3.trans b4)) _ _ zb)) (hfa.mono ((Zs hP.lie R5).trans ((sR R68 hP.lie.some).trans (wy B)))) (hfb.mono ((Zs hP.lie R7).trans (wy B)))⟩,b4 _ _ zb,F8 B3 z4,F8 B2 z3,by rw [uc];simp only [ik,iE];lia⟩ (OD (res.mono (UA d')) (res2.mono (UA d')) nm1) (tl.app tl2) (Mi gd gd2)
   ·rw [ub (by lia)]
    walk_at"d";intro q0 z0 H7 g7;have b0:=za (o:=.lst [V.str (S [98,108,111,99,107]),V.str (S [101,108,100,101,114]),V.str (S [100,114,97,119])]) z0;have hm3:iI c 3 3<3:=by have:=Q7 (c:=c) (k:=3) (m:=3) (by decide);lia
    refine⟨_,iA.of (g7 _ _ zb),V.str (S (VO c)),?_,?_⟩
    ·unfold VO;have:iI c 3 3=0\/iI c 3 3=1\/iI c 3 3=2:=by lia
     rcases this with e | e | e<;>rw [e]<;>rfl
    walk_at"d";refine λq1 z1=>⟨_,iA.of zb,V.str (S (if VO c=[100,114,97,119] then [] else [98])),?_,λq2 z2 q3 z3 q4 z4=>?_⟩
    ·by_cases hw:VO c=[100,114,97,119]
     ·rw [ue hw,ue hw];rfl
     ·rw [ub hw,ub hw];rfl
    ·have b1:=za (o:=.lst [V.str (S [98]),V.str (S [])]) z1;have b2:=za (o:=.tup [tx [115,101,97,116],tx (VO c),tx [97],tx (if VO c=[100,114,97,119] then [] else [98]),.ref fa]) z2;have b3:=za (o:=.lst [V.ref q2]) z3;have b4:=za (o:=.tup [V.ref q3,V.ref da]) z4;have B1:=b0.trans (g7.trans b1);have B2:=B1.trans b2;have B3:=B2.trans b3;have B:=B3.trans b4;exact q _ _ y L1 _ ⟨R6.trans (Rp.same rp.2 B),q4,q3,da,xs,rfl,zb,⟨q3,_,rfl,N B2 z3 (b4 _ _ zb),N6 (N B1 z2 ((b3.trans b4) _ _ zb)) (hfa.mono ((Zs hP.lie R5).trans (wy B)))⟩,B _ _ hda,F B3 z4,none_of G5 nd,by simp only [ik,iE];lia⟩ (OV (res.mono (UA d')) (by unfold Mk;decide) (by lia)) tl (MQ gd)
def goI (d:Nat)(c:Int)(kind:Tx)(pa:Addr)(as:Le)(L:List iN)(H:Hp)(i:Nat)(σ:L2.St)(H':Hp):Prop:=∃ (fa da:Addr) (vs xs:List V) (ps:List Pc) (y:Option (Fw×Tx)) (L':List iN) (o6 o7 o8:Option V),σ=[some (V.int c),some (V.str (S kind)),some (V.int d),some (V.ref pa),some (V.ref fa),some (V.ref da),o6,o7,o8]/\Rp as H H' L'/\nw H H' fa=some (.lst vs)/\iq (nw H H') (iM ps) vs/\H' da=some (.lst xs)/\H da=none/\xs.length<=ik ps/\iz d kind [] kind [] ps y/\lI L L' y/\rm d i ps
def giI (d:Nat)(c:Int)(kind:Tx)(pa da:Addr)(as:Le)(i:Nat)(H H2:Hp)(ps:List Pc)(L1:List iN)(o8:Option V)(j:Nat)(σ:L2.St)(H':Hp):Prop:=∃ (fa:Addr) (vs:List V) (o7:Option V),σ=[some (V.int c),some (V.str (S kind)),some (V.int d),some (V.ref pa),some (V.ref fa),some (V.ref da),some (V.int i),o7,o8]/\Rp as H2 H' ((lP kind (L1.take j)).2++L1.drop j)/\nw H H' fa=some (.lst vs)/\iq (nw H H') (iM (ps++(lP kind (L1.take j)).1)) vs
theorem yP {k d:Nat}(hk:20<=k)(hd:gS d<=100000)(T:Txt w K mg t)(D:Df K mg "_law_good" yw qi)(ae:ig P w K mg fY 1 "_law_mix" qy qT)(af:ig P w K mg fY 2 "_law_part" qO je)(aq:ig P w K mg fY 1 "_law_fault" jj jL)(cG:ig P w K mg fY k "_law_some" j6 (vK d)):ig P w K mg fY (k+1) "_law_good" qi (jh d):=by
 refine D.ok qu ?_ ?_;walk_at"b"
 ·refine lZ h λc kind pa as L h=>?_;refine nK h λhP hkn q=>?_;refine⟨_,(zc (iC 4 qu.nd (zl zC)) (zc (iC 5 qu.nd (zl zC)) (zc (wG PassesOwn.never (by rfl) (VJ (by rfl) T.z_range (iu (qF ae hr (iH (qv 0) ze ze)))) (ly 6 qu.nd) (zc (wG PassesOwn.never (by rfl) (wo (K:=K) (by rfl) (qv 3)) (ly 7 qu.nd) (zc (kI (zr Xb (mQ K (qv 7) ze) ze) (DU (qv 7) ze set_list (by intro _;rfl))) (zd (zm (iw zx (mQ K (qv 7) ze) ze) (zd (iC 4 qu.nd (zr qx (qv 4) (qF aq hr (iH (mQ K (qv 7) ze) (mQ K (qv 7) ze) (qv 1)))))) zi)))) (zc (iC 8 qu.nd (qF cG hr (lr (qF af hr (ip (qv 0) (qv 6))) (qv 1) (qv 2) (qv 3)))) (zc (iC 4 qu.nd (zr qx (qv 4) (iy K (qv 8) ze))) (zd (iC 5 qu.nd (zr qx (qv 5) (iy K (qv 8) ze)))))))) (zd (zg (zh (ip (qv 4) (qv 5)))))))).h,?_⟩
  walk_at"d";intro p hp
  walk_at"d";intro p1 hp1
  walk_at"d";intro H1 g1;have hm4:iI c 5 4<4:=by have:=Q7 (c:=c) (k:=5) (m:=4) (by decide);lia
  have a1:=za (o:=.lst []) hp;have a2:=za (o:=.lst []) hp1;have A1:=a1.trans (a2.trans g1);refine⟨by lia,by lia,Ko (goI d c kind pa as L H) ⟨p,p1,[],[],[],none,L,_,_,_,rfl,Rp.same hP.lie A1,kq (fX.refl _) hp ((a2.trans g1) _ _ zb),by simp only [iM];rfl,g1 _ _ zb,none_of a1 hp1,by simp,.ok .nil,.rfl,.nil⟩ ?_ ?_⟩
  ·rintro i σ H2 hi ⟨fa,da,vs,xs,ps,y,L1,o6,o7,o8,rfl,R2,hfa,hds,hda,nda,hxl,res,tl,rw_⟩;have hi:i<3:=by lia
   have hP2:=hP.go R2 tl;have hla:=hP2.lie.len
   walk_at"d";refine⟨⟨_,iA.of hP2.at_⟩,xQ (K:=K) (a:=pa) (xs:=as.map .ref) (giI d c kind pa da as i H H2 ps L1 o8) ⟨fa,vs,_,rfl,Rp.same hP2.lie (fX.refl _),hfa,by simpa [lP] using hds⟩ ?_ ?_ ?_⟩
   ·rintro j σ H' _ ⟨fa,vs,o7,rfl,R3,_⟩;exact iA.of (R3.old hP2.out hP2.at_)
   ·rintro j v σ H3 hj ⟨fa3,vs3,o7,rfl,R3,hfa3,hds3⟩;obtain⟨a,ha,rfl⟩:=DC hj;have hjl:j<L1.length:=by have:=(ur.mp ha).1;lia
    obtain⟨⟨cc,wd,mk⟩,hx⟩:∃ x:iN,L1[j]? = some x:=⟨L1[j]'hjl,uy hjl⟩
    obtain⟨e1,e2⟩:=Em hx;rw [e1] at R3;have hA:(lP kind (L1.take j)).2.length=j:=by rw [En,Ut];lia
    have ha':as[(lP kind (L1.take j)).2.length]? = some a:=by rw [hA];exact ha
    have h0:=DD R3.2 ha';have hmk:Mk mk:=hP2.mks (wd,mk) (U7.mpr ⟨_,uQ hx,rfl⟩);have hmt:oe (L1.take j):=λp hp=>hP2.mks p (by obtain⟨z,h1,h2⟩:=U7.mp hp;exact U7.mpr ⟨z,List.mem_of_mem_take h1,h2⟩);have hp1:=Eo (cc - 1) R3.2 ha' hP.nd;have Rput:=DE (uQ ha) hp1;have eL:(lP kind (L1.take j)).2++(cc - 1,wd,mk)::L1.drop (j+1)=(lP kind (L1.take (j+1))).2++L1.drop (j+1):=by rw [e2,X3,uC];rfl
    have eP:ps++(lP kind (L1.take (j+1))).1=ps++(lP kind (L1.take j)).1++(if cc - 1=0 then qJ wd mk kind else []):=by rw [e2,X3,uC]
    rw [eL] at Rput;have R3p:=R3.trans Rput;have S3:=sR Rput hP.lie.some;have RH:=R2.trans R3p;have l0:=(rw_.gd (by lia)).sz;have l1:=hds3.len;rw [qw] at l1;have l2:=xq (ps++(lP kind (L1.take j)).1);rw [z8] at l2;have l3:=(Bt (n:=0) hkn hmt).sz;have l4:=hP2.two;rw [Ut] at l3
    walk_at"d";refine⟨_,iA.of h0,_,zA _ _,_,rfl,_,h0,_,rfl,?_⟩
    walk_at"i";refine⟨_,iA.of zb,_,zA _ _,rfl,?_⟩;by_cases e:cc - 1=0
    ·rw [ue (by rw [e])];rw [ue e] at eP
     walk_at"d";refine⟨_,iA.of zb,_,jH _ _ _,_,iA.of zb,_,Zr _ _ _ _,wd,rfl,mk,rfl,hmk,hkn,λfb H4 g4 hfb=>?_⟩;obtain⟨_,us,e',hfb',hdu⟩:=hfb;cases e';have l5:=hdu.len;rw [qw] at l5;have l6:=xq (qJ wd mk kind);have l7:=(JB (n:=0) (wd:=wd) hkn hmk).sz;refine⟨vs3,vn _ _ (wy g4 _ _ (S3 _ _ hfa3)),us,vn _ _ hfb',by lia,λq1 h1=>?_⟩;have b1:=za (o:=.lst (vs3++us)) h1;refine⟨q1,vs3++us,_,rfl,R3p.trans (Rp.same R3p.2 (g4.trans b1)),X2 hP.lie (RH.trans (Rp.same RH.2 g4)) h1 zb,?_⟩;rw [eP,xp];exact(hds3.mono (S3.trans (wy (g4.trans b1)))).app (hdu.mono ((Zs hP.lie RH).trans (wy b1)))
    ·rw [ub (λz=>e (V.int.inj z))];rw [ub e,uj] at eP
     walk_at"d";exact⟨fa3,vs3,_,rfl,R3p,S3 _ _ hfa3,by rw [eP];exact hds3.mono S3⟩
   ·rintro σ H3 ⟨fa3,vs3,o7,rfl,R3,hfa3,hds3⟩;rw [uk,hla,UW] at hds3 R3;rw [U8 (ui _),uj] at R3;obtain⟨y2,r1,r2⟩:=Ew (d:=d) hkn hP2.mks;have tl2:=tl.app r2;have R23:=R2.trans R3;have hP3:=hP2.go R3 r2
    walk_at"d";refine⟨by lia,by lia,λH4 g4=>⟨as,_,hP3.mono g4,hkn,λr ps4 y4 L4 H5 hr res4 tl4 sm=>?_⟩⟩;obtain⟨rp,pr,fb,db,ys,rfl,hpr,⟨_,us,e,hfb,hdu⟩,hdb,np,nd,hyl⟩:=hr;cases e;have R4:=R23.trans (Rp.same R3.2 g4);have R5:=R4.trans rp;have R45:=(Rp.same R3.2 g4).trans rp;have hdA:H3 da=some (.lst xs):=R3.old (λy=>hP.lie.some _ y nda) hda;have S45:fX (nw H H3) (nw H H5):=sR R45 hP.lie.some;have RW:=rw_.next hkn hP2.mks hP2.two sm;have l0:=(RW.gd (by lia)).sz;have l1:=hds3.len;rw [qw] at l1;have l2:=xq (ps++(lP kind L1).1);have l3:=hdu.len;rw [qw] at l3;have l4:=xq ps4;rw [z8,z8] at l0;rw [z8] at l2
    walk_at"d";refine⟨_,ir.of hpr,_,rfl,fb,rfl,vs3,vn _ _ (S45 _ _ hfa3),us,vn _ _ hfb,by lia,λq1 h1=>?_⟩;have b1:=za (o:=.lst (vs3++us)) h1
    walk_at"d";refine⟨_,ir.of (b1 _ _ hpr),_,rfl,db,rfl,xs,b1 _ _ (R45.old (λy=>hP.lie.some _ y nda) hdA),ys,b1 _ _ hdb,by lia,λq2 h2=>?_⟩;have b2:=za (o:=.lst (xs++ys)) h2;have B:=b1.trans b2;refine⟨q1,q2,vs3++us,xs++ys,_,_,_,_,_,_,rfl,R5.trans (Rp.same rp.2 B),X2 hP.lie R5 h1 (b2 _ _ zb),?_,zb,R5.fresh hP.lie (none_of b1 h2),?_,iz.app (iz.app res r1) res4,tl2.app tl4,RW⟩
    ·rw [xp];exact(hds3.mono (S45.trans (wy B))).app (hdu.mono ((Zs hP.lie R4).trans (wy B)))
    ·rw [uc,z8,z8];lia
  ·rintro σ H2 ⟨fa,da,vs,xs,ps,y,L1,o6,o7,o8,rfl,R2,hfa,hds,hda,nda,hxl,res,tl,rw_⟩
   walk_at"d";intro p3 hp3;have a3:=za (o:=.tup [V.ref fa,V.ref da]) hp3;have eM:((iI c 5 4:Nat):Int).toNat=iI c 5 4:=Int.toNat_natCast _;rw [eM] at rw_;exact q _ ps y L1 _ ⟨R2.trans (Rp.same R2.2 a3),p3,fa,da,xs,rfl,zb,⟨fa,vs,rfl,wy a3 _ _ hfa,hds.mono (wy a3)⟩,a3 _ _ hda,R2.fresh hP.lie hp3,nda,hxl⟩ res tl (rw_.gd (by lia))
theorem YQ (T:Txt w K mg t)(D:Df K mg "_law_good" yw qi)(aV:Df K mg "_law_within" xS jt)(aP:Df K mg "_law_compound" wC qr)(aQ:Df K mg "_law_some" yx j6)(ae:ig P w K mg fY 1 "_law_mix" qy qT)(af:ig P w K mg fY 2 "_law_part" qO je)(aq:ig P w K mg fY 1 "_law_fault" jj jL):ig P w K mg fY 40 "_law_good" qi (jh 3):=by have g_:ig P w K mg fY 20 "_law_good" qi (λ_ _ _ _=>False):=D.ok (k:=19) qu (λ_ _ _ _ h=>h.elim) (λ_ _ _ _ _ _ _ _ _ _ h=>h.elim);have c_:ig P w K mg fY 20 "_law_compound" qr (λ_ _ _ _=>False):=aP.ok (k:=19) zF (λ_ _ _ _ h=>h.elim) (λ_ _ _ _ _ _ _ _ _ _ h=>h.elim);have s0:=yO (k:=20) (d:=0) (by decide) (by decide) (by decide) T aQ ae af (c_.imp λ_ _ _ _ ⟨d',e,_⟩=>by lia) (g_.imp λ_ _ _ _ ⟨d',e,_⟩=>by lia);have g0:=yP (k:=21) (by decide) (by decide) T D ae af aq s0;have w0:=kb (k:=22) (by decide) (by decide) T aV af g0;have c0:=vC (k:=23) (by decide) (by decide) T aP ae af w0 (g0.mono (by decide));have s1:=yO (k:=24) (d:=1) (by decide) (by decide) (by decide) T aQ ae af (c0.imp λ_ _ _ _ ⟨d',e,h⟩=>by cases e;exact h) ((g0.mono (by decide)).imp λ_ _ _ _ ⟨d',e,h⟩=>by cases e;exact h);have g1:=yP (k:=25) (by decide) (by decide) T D ae af aq s1;have w1:=kb (k:=26) (by decide) (by decide) T aV af g1;have c1:=vC (k:=27) (by decide) (by decide) T aP ae af w1 (g1.mono (by decide));have s2:=yO (k:=28) (d:=2) (by decide) (by decide) (by decide) T aQ ae af (c1.imp λ_ _ _ _ ⟨d',e,h⟩=>by cases e;exact h) ((g1.mono (by decide)).imp λ_ _ _ _ ⟨d',e,h⟩=>by cases e;exact h);have g2:=yP (k:=29) (by decide) (by decide) T D ae af aq s2;have w2:=kb (k:=30) (by decide) (by decide) T aV af g2;have c2:=vC (k:=31) (by decide) (by decide) T aP ae af w2 (g2.mono (by decide));have s3:=yO (k:=32) (d:=3) (by decide) (by decide) (by decide) T aQ ae af (c2.imp λ_ _ _ _ ⟨d',e,h⟩=>by cases e;exact h) ((g2.mono (by decide)).imp λ_ _ _ _ ⟨d',e,h⟩=>by cases e;exact h);exact(yP (k:=33) (by decide) (by decide) T D ae af aq s3).mono (by decide)
def mdI (c:Int)(pa da:Addr)(as:Le)(H H2:Hp)(ps:List Pc)(L1:List iN)(j:Nat)(σ:L2.St)(H':Hp):Prop:=∃ (fa:Addr) (vs:List V) (o4:Option V),σ=[some (V.int c),some (V.ref pa),some (V.ref fa),some (V.ref da),o4]/\Rp as H2 H' ((L1.take j).map (λx=>(if x.1 > 0 then 0 else x.1,x.2))++L1.drop j)/\nw H H' fa=some (.lst vs)/\iq (nw H H') (iM (ps++nu (L1.take j))) vs
theorem Fz {c:Int}{w:Fw}{m:Tx}:∀ (L:List iN),nu (L++[(c,w,m)])=nu L++(if c > 0 then qJ w m zE else [])
 | []=>by simp [nu]
 | (e,v,n)::L=>by simp only [uG,nu,Fz L,uC]
theorem zaI (T:Txt w K mg t)(D:Df K mg "_law_made" ZT j7)(ay:ig P w K mg fY 40 "_law_good" qi (jh 3))(aq:ig P w K mg fY 1 "_law_fault" jj jL):ig P w K mg fY 41 "_law_made" j7 xw:=by
 refine D.ok xk ?_ ?_;walk_at"b"
 ·refine sJ h λc pa as L h=>?_;refine nK h λhP hps q=>?_;refine⟨_,(zc (kI (qF ay hr (lr (qv 0) (qS fw) ze (qv 1))) (vV (n:=2) (by rfl) (zI (ly 2 xk.nd) (zI (ly 3 xk.nd) xb)))) (zc (wG PassesOwn.never (by rfl) (wo (K:=K) (by rfl) (qv 1)) (ly 4 xk.nd) (zd (zm (iw Xd (mQ K (qv 4) ze) ze) (zc (iC 2 xk.nd (zr qx (qv 2) (qF aq hr (iH (mQ K (qv 4) ze) (mQ K (qv 4) ze) (qS fw))))) (zd (kI ze (DU (qv 4) ze set_list (by intro _;rfl))))) zi))) (zd (zg (zh (ip (qv 2) (qv 3))))))).h,?_⟩
  walk_at"r";refine⟨as,L,hP,.text,λr ps y L1 H1 hr res tl gd=>?_⟩;obtain⟨R1,p,fa,da,xs,rfl,hp,⟨_,vs,e,hfa,hds⟩,hda,np,nda,hxl⟩:=hr;cases e;have hP1:=hP.go R1 tl;have hla:=hP1.lie.len;have gsz:=gd.sz;refine⟨p,rfl,_,ir.of hp,rfl,_,_,rfl,_,_,rfl,rfl,⟨_,iA.of hP1.at_⟩,?_⟩;refine xQ (K:=K) (a:=pa) (xs:=as.map .ref) (mdI c pa da as H H1 ps L1) ⟨fa,vs,_,rfl,Rp.same hP1.lie (fX.refl _),hfa,by simpa [nu] using hds⟩ ?_ ?_ ?_
  ·rintro j σ H' _ ⟨fa,vs,o7,rfl,R3,_⟩;exact iA.of (R3.old hP1.out hP1.at_)
  ·rintro j v σ H3 hj ⟨fa3,vs3,o7,rfl,R3,hfa3,hds3⟩;obtain⟨a,ha,rfl⟩:=DC hj;have hjl:j<L1.length:=by have:=(ur.mp ha).1;lia
   obtain⟨⟨cc,wd,mk⟩,hx⟩:∃ x:iN,L1[j]? = some x:=⟨L1[j]'hjl,uy hjl⟩
   obtain⟨e1,e2⟩:=Em hx;rw [e1] at R3;have hA:((L1.take j).map (λ(x:iN)=>((if x.1 > 0 then 0 else x.1:Int),x.2))).length=j:=by rw [uk,Ut];lia
   have ha':as[((L1.take j).map (λ(x:iN)=>((if x.1 > 0 then 0 else x.1:Int),x.2))).length]? = some a:=by rw [hA];exact ha
   have h0:=DD R3.2 ha';have hmk:Mk mk:=hP1.mks (wd,mk) (U7.mpr ⟨_,uQ hx,rfl⟩);have hmt:oe (L1.take j):=λp hp=>hP1.mks p (by obtain⟨z,h1,h2⟩:=U7.mp hp;exact U7.mpr ⟨z,List.mem_of_mem_take h1,h2⟩);have eP:ps++nu (L1.take (j+1))=ps++nu (L1.take j)++(if cc > 0 then qJ wd mk zE else []):=by rw [e2,Fz,uC]
   have RH:=R1.trans R3;have l1:=hds3.len;rw [qw] at l1;have l2:=xq (ps++nu (L1.take j));rw [z8] at l2;have l3:=(Bs (n:=0) hmt).sz;have l4:=hP1.two;rw [Ut] at l3;have l8:gS 3=5697:=by decide
   walk_at"r";refine⟨_,iA.of h0,_,zA _ _,_,rfl,?_⟩;by_cases hcc:0<cc
   ·rw [ue hcc];rw [ue hcc] at eP;refine⟨_,iA.of h0,_,jH _ _ _,_,iA.of h0,_,Zr _ _ _ _,wd,rfl,mk,rfl,hmk,.text,λfb H4 g4 hfb=>?_⟩;obtain⟨_,us,e',hfb',hdu⟩:=hfb;cases e';have l5:(qJ wd mk zE).length=us.length:=by have:=hdu.len;rw [qw] at this;exact this
    have l6:=xq (qJ wd mk zE);have l7:=(JB (n:=0) (wd:=wd) .text hmk).sz;refine⟨vs3,g4 _ _ (vn _ _ hfa3),us,vn _ _ hfb',by lia,λq1 h1=>?_⟩;have b1:=za (o:=.lst (vs3++us)) h1;have g41:=g4.trans b1;have p1:=R3.2.mono g41;have p2:=Eo 0 p1 ha' hP.nd;have Rput:=DE (uQ ha) p2;have eL:(L1.take j).map (λ(x:iN)=>((if x.1 > 0 then 0 else x.1:Int),x.2))++(0,wd,mk)::L1.drop (j+1)=(L1.take (j+1)).map (λ(x:iN)=>((if x.1 > 0 then 0 else x.1:Int),x.2))++L1.drop (j+1):=by rw [e2,UG,uC];simp [hcc]
    rw [eL] at Rput;have S:=sR Rput hP.lie.some;refine⟨_,g41 _ _ h0,_,rfl,q1,vs3++us,_,rfl,(R3.trans (Rp.same R3.2 g41)).trans Rput,S _ _ (X2 hP.lie (RH.trans (Rp.same RH.2 g4)) h1 zb),?_⟩;rw [eP,xp];exact(hds3.mono ((wy g41).trans S)).app (hdu.mono ((Zs hP.lie RH).trans ((wy b1).trans S)))
   ·rw [ub hcc];rw [ub hcc,uj] at eP;refine⟨fa3,vs3,_,rfl,?_,hfa3,by rw [eP];exact hds3⟩;rw [e2,UG,uC];simpa [hcc] using R3
  ·rintro σ H3 ⟨fa3,vs3,o7,rfl,R3,hfa3,hds3⟩;rw [uk,hla,UW] at hds3 R3
   walk_at"r";intro p3 hp3;have a3:=za (o:=.tup [V.ref fa3,V.ref da]) hp3;have RH:=R1.trans R3;obtain⟨z,z1,z2,z3⟩:=OQ (d:=3) res tl hP.mks hps;have hl:L1.length<=2:=hP1.two;have l1:=(Bs (n:=3) hP1.mks).up (ui _) (by lia:_<=6) (by lia:_<=10);exact q _ (ps++nu L1) z _ _ ⟨RH.trans (Rp.same RH.2 a3),p3,fa3,da,xs,rfl,zb,⟨fa3,vs3,rfl,wy a3 _ _ hfa3,hds3.mono (wy a3)⟩,a3 _ _ (R3.old (λy=>hP.lie.some _ y nda) hda),RH.fresh hP.lie hp3,nda,by rw [z8];lia⟩ z1 z2 z3 ((Bz.app gd l1).up (ui _) (by decide) (by decide))
theorem Vl (T:Txt w K mg t)(D:Df K mg "_law_marked" y3 ju):ig P w K mg fY 1 "_law_marked" ju j3:=by
 refine D.ok XR ?_ ?_;walk_at"b"
 ·refine oC h λpv p mk h=>?_;refine mS h λhp q=>?_;refine⟨_,(zc (zm (iw zx (iy K (qv 0) ze) (qS fN)) (zd (zg (pG DR (qv 1) (iy K (qv 0) ze)))) zi) (zc (zm (iw zx (iy K (qv 0) ze) (qS fL)) (zd (zg (pG zx (iy K (qv 0) ze) (qv 1)))) zi) (zd (zg (pG zx (iy K (qv 0) ze) (qv 1)))))).h,?_⟩
  walk_at"r";obtain⟨pa,vs,rfl,hpa,hf⟩:=n5 hp;have hq:=ir.of (K:=K) hpa;have eq1:∀ {x:Tx},decide (tx x=V.str (S mk))=decide (x=mk):=λ{x}=>decide_eq_decide.mpr ⟨λh=>yq.mp (V.str.inj h),λh=>by rw [h];rfl⟩;have q:=q H (fX.refl _);cases p with
  | lit z=>cases hf;refine⟨_,rfl,_,hq,_,zA _ _,rfl,?_⟩;rw [ue (show tx _=V.str (S _) from rfl)];exact⟨_,rfl,_,hq,_,jH _ _ _,z,rfl,q⟩
  | seat w' n m b=>obtain⟨wv,rfl,hw⟩:=hf;refine⟨_,rfl,_,hq,_,zA _ _,rfl,?_⟩;rw [ub (zG (by decide))];refine⟨_,rfl,_,hq,_,zA _ _,rfl,?_⟩;rw [ue (show tx _=V.str (S _) from rfl)];exact⟨_,rfl,_,hq,_,Zr _ _ _ _,rfl,by rw [eq1];exact q⟩
  | hole z=>cases hf;refine⟨_,rfl,_,hq,_,zA _ _,rfl,?_⟩;rw [ub (zG (by decide))];refine⟨_,rfl,_,hq,_,zA _ _,rfl,?_⟩;rw [ub (zG (by decide))];exact⟨_,rfl,_,hq,_,jH _ _ _,rfl,by rw [eq1];exact q⟩
  | each z b=>obtain⟨wv,rfl,hw⟩:=hf;refine⟨_,rfl,_,hq,_,zA _ _,rfl,?_⟩;rw [ub (zG (by decide))];refine⟨_,rfl,_,hq,_,zA _ _,rfl,?_⟩;rw [ub (zG (by decide))];exact⟨_,rfl,_,hq,_,jH _ _ _,rfl,by rw [eq1];exact q⟩
  | ife z a b=>obtain⟨wv,uv,rfl,hw,hu⟩:=hf;refine⟨_,rfl,_,hq,_,zA _ _,rfl,?_⟩;rw [ub (zG (by decide))];refine⟨_,rfl,_,hq,_,zA _ _,rfl,?_⟩;rw [ub (zG (by decide))];exact⟨_,rfl,_,hq,_,jH _ _ _,rfl,by rw [eq1];exact q⟩
theorem YR (T:Txt w K mg t)(D:Df K mg "_law_inner" kU qR):ig P w K mg fY 1 "_law_inner" qR jk:=by
 refine D.ok Vf ?_ ?_;walk_at"b"
 ·refine nU h λpv p h=>?_;refine mS h λhp q=>?_;refine⟨_,(zc (zm (iw zx (iy K (qv 0) ze) (qS fJ)) (zd (zg (zl (iu (zh (iH (zl (iu ze)) ze (iy K (qv 0) ze))))))) zi) (zc (zm (iw zx (iy K (qv 0) ze) (qS fK)) (zd (zg (zl (ip (zh (iH (zl (iu ze)) ze (iy K (qv 0) ze))) (zh (iH (zl (iu ze)) ze (iy K (qv 0) ze))))))) zi) (zc (zm (iw zx (iy K (qv 0) ze) (qS fL)) (zd (zg (zl (iu (zh (iH (zl zC) ze (iy K (qv 0) ze))))))) zi) (zd (zg (zl zC)))))).h,?_⟩;obtain⟨pa,vs,rfl,hpa,hf⟩:=n5 hp;have hq:=ir.of (K:=K) hpa;cases p with
  | each z b=>
   obtain⟨wv,rfl,hw⟩:=hf
   walk_at"i";refine⟨_,hq,_,zA _ _,rfl,?_⟩;rw [ue (show tx _=V.str (S _) from rfl)]
   walk_at"d";intro q1 h1;have b1:=za (o:=.lst [V.int 1]) h1;refine⟨_,ir.of (b1 _ _ hpa),_,Zr _ _ _ _,λq2 h2 q3 h3=>?_⟩;have b2:=za (o:=.tup [V.ref q1,V.int 0,wv]) h2;have b3:=za (o:=.lst [V.ref q2]) h3;exact q _ _ _ (b1.trans (b2.trans b3)) zb (.cons (b3 _ _ zb) ((b2.trans b3) _ _ zb) (hw.mono (b1.trans (b2.trans b3))) .nil)
  | ife z a b=>
   obtain⟨wv,uv,rfl,hw,hu⟩:=hf
   walk_at"i";refine⟨_,hq,_,zA _ _,rfl,?_⟩;rw [ub (zG (by decide))]
   walk_at"i";refine⟨_,hq,_,zA _ _,rfl,?_⟩;rw [ue (show tx _=V.str (S _) from rfl)]
   walk_at"d";intro q1 h1;have b1:=za (o:=.lst [V.int 0]) h1;refine⟨_,ir.of (b1 _ _ hpa),_,Zr _ _ _ _,λq2 h2 q3 h3=>?_⟩;have b2:=za (o:=.tup [V.ref q1,V.int 0,wv]) h2;have b3:=za (o:=.lst [V.int 1]) h3;have B3:=b1.trans (b2.trans b3);refine⟨_,ir.of (B3 _ _ hpa),_,VL _ _ _ _ _,λq5 h5 q6 h6=>?_⟩;have b5:=za (o:=.tup [V.ref q3,V.int 0,uv]) h5;have b6:=za (o:=.lst [V.ref q2,V.ref q5]) h6;have b56:=b5.trans b6;exact q _ _ _ (B3.trans b56) zb (.cons ((b3.trans b56) _ _ zb) ((b2.trans (b3.trans b56)) _ _ zb) (hw.mono (B3.trans b56)) (.cons (b6 _ _ zb) (b56 _ _ zb) (hu.mono (B3.trans b56)) .nil))
  | seat w' n m b=>
   obtain⟨wv,rfl,hw⟩:=hf
   walk_at"i";refine⟨_,hq,_,zA _ _,rfl,?_⟩;rw [ub (zG (by decide))]
   walk_at"i";refine⟨_,hq,_,zA _ _,rfl,?_⟩;rw [ub (zG (by decide))]
   walk_at"i";refine⟨_,hq,_,zA _ _,rfl,?_⟩;rw [ue (show tx _=V.str (S _) from rfl)]
   walk_at"d";intro q1 h1;have b1:=za (o:=.lst []) h1;refine⟨_,ir.of (b1 _ _ hpa),_,AZ _ _ _ _ _ _,λq2 h2 q3 h3=>?_⟩;have b2:=za (o:=.tup [V.ref q1,V.int 1,wv]) h2;have b3:=za (o:=.lst [V.ref q2]) h3;exact q _ _ _ (b1.trans (b2.trans b3)) zb (.cons (b3 _ _ zb) ((b2.trans b3) _ _ zb) (hw.mono (b1.trans (b2.trans b3))) .nil)
  | lit z=>
   cases hf
   walk_at"i";refine⟨_,hq,_,zA _ _,rfl,?_⟩;rw [ub (zG (by decide))]
   walk_at"i";refine⟨_,hq,_,zA _ _,rfl,?_⟩;rw [ub (zG (by decide))]
   walk_at"i";refine⟨_,hq,_,zA _ _,rfl,?_⟩;rw [ub (zG (by decide))]
   walk_at"d";exact λq1 h1=>q _ _ _ (za h1) zb .nil
  | hole z=>
   cases hf
   walk_at"i";refine⟨_,hq,_,zA _ _,rfl,?_⟩;rw [ub (zG (by decide))]
   walk_at"i";refine⟨_,hq,_,zA _ _,rfl,?_⟩;rw [ub (zG (by decide))]
   walk_at"i";refine⟨_,hq,_,zA _ _,rfl,?_⟩;rw [ub (zG (by decide))]
   walk_at"d";exact λq1 h1=>q _ _ _ (za h1) zb .nil
def paI (xa:Addr)(ps:List Pc)(H:Hp)(i:Nat)(σ:L2.St)(H':Hp):Prop:=∃ (ta:Addr) (o3 o4:Option V),σ=[some (.ref xa),some (.ref ta),some (.int ((zu (ps.take i)).2:Nat)),o3,o4]/\fX H H'/\H' ta=some (.lst (lj (zu (ps.take i)).1))
theorem zaJ {k d:Nat}(hk:20<=k)(T:Txt w K mg t)(D:Df K mg "_law_pass" yz zQ)(ar:ig P w K mg fY k "_law_pass" zQ (qk d)):ig P w K mg fY (k+1) "_law_pass" zQ (qk (d+1)):=by
 refine D.ok zR ?_ ?_;walk_at"b"
 ·refine nU h λpv ps h=>?_;refine mS h λhp q=>?_;refine⟨_,(zc (iC 1 zR.nd (zl zC)) (zc (iC 2 zR.nd ze) (zc (wG PassesOwn.never (by rfl) (wo (K:=K) (by rfl) (qv 0)) (ly 3 zR.nd) (zd (zm (iw zx (iy K (qv 3) ze) (qS fJ)) (zd (iC 1 zR.nd (zr qx (qv 1) (zl (iu ze))))) (zd (zm (iw zx (iy K (qv 3) ze) (qS fK)) (zc (iC 4 zR.nd (qF ar hr (iu (iy K (qv 3) ze)))) (zc (iC 1 zR.nd (zr qx (zr qx (qv 1) (zl (iu ze))) (iy K (qv 4) ze))) (zd (iC 2 zR.nd (zr qZ (qv 2) (iy K (qv 4) ze)))))) (zd (zm (iw zx (iy K (qv 3) ze) (qS fL)) (zc (iC 4 zR.nd (qF ar hr (iu (iy K (qv 3) ze)))) (zc (iC 1 zR.nd (zr qx (qv 1) (iy K (qv 4) ze))) (zd (iC 2 zR.nd (zr qZ (zr qZ (qv 2) ze) (iy K (qv 4) ze)))))) (zd (iC 2 zR.nd (zr qZ (qv 2) ze)))))))))) (zd (zg (zh (ip (qv 1) (qv 2)))))))).h,?_⟩
  walk_at"r";obtain⟨⟨xa,xs,rfl,hxa,hxs⟩,hdp,hsz⟩:=hp;intro p0 h0;have k0:=za (o:=.lst []) h0;refine⟨xa,rfl,⟨_,iA.of (k0 _ _ hxa)⟩,xQ (xs:=xs) (paI xa ps H) ⟨p0,_,_,rfl,k0,zb⟩ ?_ ?_ ?_⟩
  ·rintro i σ H1 _ ⟨_,_,_,rfl,g,_⟩;exact iA.of (g _ _ hxa)
  ·rintro i y σ H1 hi ⟨ta,o3,o4,rfl,g1,e1⟩;have hil:i<ps.length:=by have:=(ur.mp hi).1;have:=hxs.len;rw [qw] at this;lia
   obtain⟨dd,hd1,hd2⟩:=hxs.get hi;rw [Jx ps i ps[i] (uy hil)] at hd1;cases hd1;have hpd:=XY (Ui hil);have hps:=YC (Ui hil);have tk:zu (ps.take (i+1))=(zu (ps.take i)).add (qD ps[i]):=by rw [gy,uy hil,km];simp [zu,Off.add]
   have tl:=(xx (ps.take i)).1
   have ts:ik (ps.take i)<=ik ps:=by
    conv=>rhs;rw [← UO i ps,z8]
    lia
   generalize ps[i]=p at hd2 hpd hps tk;obtain⟨pa,vs,rfl,hpa,hf⟩:=n5 hd2;have hq:=ir.of (K:=K) (g1 _ _ hpa);have il:(lj (zu (ps.take i)).1).length=(zu (ps.take i)).1.length:=uk _;cases p with
   | each z b=>
    obtain⟨wv,rfl,hw⟩:=hf
    walk_at"i";refine⟨_,hq,_,zA _ _,rfl,?_⟩;rw [ue (show tx _=V.str (S _) from rfl)]
    walk_at"d";intro q1 h1;have b1:=za (o:=.lst [V.int 0]) h1;refine⟨_,b1 _ _ e1,_,zb,by simp;lia,λq2 h2=>?_⟩;have b2:=za (o:=.lst (lj (zu (ps.take i)).1++[V.int 0])) h2;exact⟨q2,_,_,by rw [tk];rfl,g1.trans (b1.trans b2),by rw [zb,tk];simp [lj,Off.add,qD]⟩
   | ife z a b=>
    obtain⟨wv,uv,rfl,hw,hu⟩:=hf;simp only [iQ,iE] at hpd hps
    walk_at"i";refine⟨_,hq,_,zA _ _,rfl,?_⟩;rw [ub (zG (by decide))]
    walk_at"i";refine⟨_,hq,_,zA _ _,rfl,?_⟩;rw [ue (show tx _=V.str (S _) from rfl)]
    walk_at"d";refine⟨_,hq,_,Zr _ _ _ _,a,⟨hw.mono g1,by lia,by lia⟩,λr H2 g2 ⟨la,r1,r2⟩=>?_⟩
    walk_at"d";intro q1 h1;have b1:=za (o:=.lst [V.int 0]) h1;refine⟨_,b1 _ _ (g2 _ _ e1),_,zb,by simp;lia,λq2 h2=>?_⟩;have b2:=za (o:=.lst (lj (zu (ps.take i)).1++[V.int 0])) h2;have al:=(xx a).1;have B2:=b1.trans b2;refine⟨_,ir.of (B2 _ _ r1),_,zA _ _,_,rfl,_,zb,_,B2 _ _ r2,by simp;lia,λq3 h3=>?_⟩;have b3:=za (o:=.lst (lj (zu (ps.take i)).1++[V.int 0]++lj (zu a).1)) h3;have B3:=B2.trans b3
    walk_at"d";refine⟨_,ir.of (B3 _ _ r1),_,jH _ _ _,_,rfl,?_⟩;exact⟨q3,_,_,by rw [tk];rfl,g1.trans (g2.trans B3),by rw [zb,tk];simp [lj,Off.add,qD]⟩
   | seat w' n m b=>
    obtain⟨wv,rfl,hw⟩:=hf;simp only [iQ,iE] at hpd hps
    walk_at"i";refine⟨_,hq,_,zA _ _,rfl,?_⟩;rw [ub (zG (by decide))]
    walk_at"i";refine⟨_,hq,_,zA _ _,rfl,?_⟩;rw [ub (zG (by decide))]
    walk_at"i";refine⟨_,hq,_,zA _ _,rfl,?_⟩;rw [ue (show tx _=V.str (S _) from rfl)]
    walk_at"d";refine⟨_,hq,_,AZ _ _ _ _ _ _,b,⟨hw.mono g1,by lia,by lia⟩,λr H2 g2 ⟨la,r1,r2⟩=>?_⟩;have al:=(xx b).1
    walk_at"d";refine⟨_,ir.of r1,_,zA _ _,_,rfl,_,g2 _ _ e1,_,r2,by simp;lia,λq3 h3=>?_⟩;have b3:=za (o:=.lst (lj (zu (ps.take i)).1++lj (zu b).1)) h3
    walk_at"d";refine⟨_,ir.of (b3 _ _ r1),_,jH _ _ _,_,rfl,?_⟩;have e2:((((zu (ps.take i)).add (qD (.seat w' n m b))).2:Nat):Int)=((zu (ps.take i)).2:Int)+2+((zu b).2:Int):=by simp only [Off.add,qD];lia
    exact⟨q3,some (.ref pa),some (.ref r),by rw [tk,e2],g1.trans (g2.trans b3),by rw [zb,tk];simp [lj,Off.add,qD]⟩
   | lit z=>
    cases hf
    walk_at"i";refine⟨_,hq,_,zA _ _,rfl,?_⟩;rw [ub (zG (by decide))]
    walk_at"i";refine⟨_,hq,_,zA _ _,rfl,?_⟩;rw [ub (zG (by decide))]
    walk_at"i";refine⟨_,hq,_,zA _ _,rfl,?_⟩;rw [ub (zG (by decide))]
    walk_at"d";exact⟨ta,_,_,by rw [tk];rfl,g1,by rw [e1,tk];simp [Off.add,qD]⟩
   | hole z=>
    cases hf
    walk_at"i";refine⟨_,hq,_,zA _ _,rfl,?_⟩;rw [ub (zG (by decide))]
    walk_at"i";refine⟨_,hq,_,zA _ _,rfl,?_⟩;rw [ub (zG (by decide))]
    walk_at"i";refine⟨_,hq,_,zA _ _,rfl,?_⟩;rw [ub (zG (by decide))]
    walk_at"d";exact⟨ta,_,_,by rw [tk];rfl,g1,by rw [e1,tk];simp [Off.add,qD]⟩
  ·rintro σ H1 ⟨ta,o3,o4,rfl,g1,e1⟩;rw [hxs.len.symm.trans (qw ps),UW] at e1 ⊢
   walk_at"r";intro p1 h1;have k1:=za (o:=.tup [V.ref ta,V.int ((zu ps).2:Nat)]) h1;exact q p1 _ (g1.trans k1) ⟨ta,zb,k1 _ _ e1⟩
theorem YS (T:Txt w K mg t)(D:Df K mg "_law_pass" yz zQ):ig P w K mg fY 40 "_law_pass" zQ (qk 5):=by have a0:ig P w K mg fY 20 "_law_pass" zQ (qk 0):=D.ok (k:=19) zR (λ_ _ _ _ ⟨_,_,_,h,_⟩=>absurd h.2.1 (UI _)) (λ_ _ _ _ _ _ _ _ _ _ ⟨_,_,_,h,_⟩=>absurd h.2.1 (UI _));have up:∀ {k d:Nat},20<=k->ig P w K mg fY k "_law_pass" zQ (qk d)->ig P w K mg fY (k+1) "_law_pass" zQ (qk (d+1)):=λhk a=>zaJ hk T D a;exact(up (by decide) (up (by decide) (up (by decide) (up (by decide) (up (by decide) a0))))).mono (by decide)
def ptI (xa:Addr)(mk:Tx)(ps:List Pc)(H:Hp)(i:Nat)(σ:L2.St)(H':Hp):Prop:=∃ (ta:Addr) (o4 o5 o6 o7 o8 o9:Option V),σ=[some (.ref xa),some (.str (S mk)),some (.ref ta),some (.int ((zu (ps.take i)).2:Nat)),o4,o5,o6,o7,o8,o9]/\fX H H'/\H' ta=some (.lst (lj (zu (ps.take i)).1))/\zH mk (ps.take i)=none
def piI (xa ta:Addr)(v4 o9:Option V)(mk:Tx)(n:Nat)(p:Pc)(H:Hp)(i:Nat)(σ:L2.St)(H':Hp):Prop:=∃ (o5 o6 o7 o8:Option V),σ=[some (.ref xa),some (.str (S mk)),some (.ref ta),some (.int n),v4,o5,o6,o7,o8,o9]/\fX H H'/\Zt mk ((qK p).drop i)=Zt mk (qK p)
theorem zaK {k d:Nat}(hk:41<=k)(hd:d<=4)(T:Txt w K mg t)(D:Df K mg "_law_path" yA qj)(aW:ig P w K mg fY 1 "_law_marked" ju j3)(az:ig P w K mg fY 1 "_law_inner" qR jk)(ar:ig P w K mg fY 40 "_law_pass" zQ (qk 5))(aX:ig P w K mg fY k "_law_path" qj (qQ d)):ig P w K mg fY (k+1) "_law_path" qj (qQ (d+1)):=by
 refine D.ok zX ?_ ?_;walk_at"b"
 ·refine oC h λpv ps mk h=>?_;refine mS h λhp q=>?_;refine⟨_,(zc (iC 2 zX.nd (zl zC)) (zc (iC 3 zX.nd ze) (zc (wG PassesOwn.never (by rfl) (wo (K:=K) (by rfl) (qv 0)) (ly 4 zX.nd) (zc (zm (jM (qF aW hr (ip (qv 4) (qv 1)))) (zd (zg (zh (ip (qv 2) (qv 3))))) zi) (zc (wG PassesOwn.never (by rfl) (wo (K:=K) (by rfl) (qF az hr (iu (qv 4)))) (vV (n:=3) (by rfl) (zI (ly 5 zX.nd) (zI (ly 6 zX.nd) (zI (ly 7 zX.nd) xb)))) (zc (iC 8 zX.nd (qF aX hr (ip (qv 7) (qv 1)))) (zd (zm (iw VT (qv 8) zL) (zd (zg (zh (ip (zr qx (zr qx (qv 2) (qv 5)) (iy K (qv 8) ze)) (zr qZ (zr qZ (qv 3) (qv 6)) (iy K (qv 8) ze)))))) zi)))) (zc (iC 9 zX.nd (qF ar hr (iu (zl (iu (qv 4)))))) (zc (iC 2 zX.nd (zr qx (qv 2) (iy K (qv 9) ze))) (zd (iC 3 zX.nd (zr qZ (qv 3) (iy K (qv 9) ze))))))))) (zd (zg zL))))).h,?_⟩
  walk_at"r";obtain⟨⟨xa,xs,rfl,hxa,hxs⟩,hdp,hsz⟩:=hp;intro p0 h0;have k0:=za (o:=.lst []) h0;refine⟨xa,rfl,⟨_,iA.of (k0 _ _ hxa)⟩,xQ (xs:=xs) (ptI xa mk ps H) ⟨p0,_,_,_,_,_,_,rfl,k0,zb,rfl⟩ ?_ ?_ ?_⟩
  ·rintro i σ H1 _ ⟨_,_,_,_,_,_,_,rfl,g,_⟩;exact iA.of (g _ _ hxa)
  ·rintro i y σ H1 hi ⟨ta,o4,o5,o6,o7,o8,o9,rfl,g1,e1,n1⟩;have hil:i<ps.length:=by have:=(ur.mp hi).1;have:=hxs.len;rw [qw] at this;lia
   obtain⟨dd,hd1,hd2⟩:=hxs.get hi;rw [Jx ps i ps[i] (uy hil)] at hd1;cases hd1;have hpd:=XY (Ui hil);have hps:=YC (Ui hil);have tk:ps.take (i+1)=ps.take i++[ps[i]]:=by rw [gy,uy hil];rfl
   have all:zH mk ps=match qE mk ps[i] with
     | some r=>some ((zu (ps.take i)).add r)
     | none=>(zH mk (ps.drop (i+1))).map (Off.add (zu (ps.take (i+1)))):=by
    conv=>lhs;rw [← UO i ps,uW hil,kn,n1]
    simp only [zH]
    cases qE mk ps[i] with
    | some r=>rfl
    | none=>
     rw [tk,km]
     cases zH mk (ps.drop (i+1)) with
     | none=>rfl
     | some r=>simp [zu,Off.add,uC,UZ]
   have tl:=(xx (ps.take i)).1
   have ts:ik (ps.take i)<=ik ps:=by
    conv=>rhs;rw [← UO i ps,z8]
    lia
   rw [El] at all;generalize ps[i]=p at hd2 hpd hps tk all;have il:(lj (zu (ps.take i)).1).length=(zu (ps.take i)).1.length:=uk _
   walk_at"i";refine⟨p,hd2.mono g1,λH2 g2=>?_⟩;by_cases hm:wV mk p=true
   ·rw [ue hm];rw [ue hm] at all
    walk_at"d";intro q1 h1;have b1:=za (o:=.tup [V.ref ta,V.int ((zu (ps.take i)).2:Nat)]) h1;refine q _ _ (g1.trans (g2.trans b1)) ?_;rw [all];exact⟨q1,rfl,ta,by rw [zb];rfl,by rw [b1 _ _ (g2 _ _ e1)];simp [Off.add,lj]⟩
   ·rw [ub hm];rw [ub hm] at all
    walk_at"d";refine⟨p,hd2.mono (g1.trans g2),λr is H3 g3 r1 r2=>⟨⟨_,iA.of r1⟩,xQ (xs:=is) (piI xa ta (some y) o9 mk (zu (ps.take i)).2 p H3) ⟨_,_,_,_,rfl,fX.refl _,by rw [US]⟩ ?_ ?_ ?_⟩⟩
    ·rintro j σ H4 _ ⟨_,_,_,_,rfl,g4,_⟩;exact iA.of (g4 _ _ r1)
    ·rintro j v σ H4 hj ⟨o5',o6',o7',o8',rfl,g4,n2⟩;obtain⟨pp,tt,wv,o,b,rfl,hjb,b1,b2,b3⟩:=r2.get hj;have sm:=WK (uQ hjb)
     have n3:Zt mk (qK p)=match zH mk b with
       | some q=>some (Off.add o q)
       | none=>Zt mk ((qK p).drop (j+1)):=by
      obtain⟨h1,h2⟩:=ur.mp hjb
      rw [← n2,uW h1,h2]
      rfl
     generalize hB:i7 _ _=B
     walk_at"r";refine⟨_,ir.of (g4 _ _ b1),rfl,_,_,rfl,_,_,rfl,_,_,rfl,rfl,?_⟩;subst hB
     walk_at"d";refine⟨b,⟨b3.mono g4,by lia,by lia⟩,λv3 H5 g5 hv=>?_⟩;have G5:=g1.trans (g2.trans (g3.trans (g4.trans g5)))
     walk_at"i";cases hb:zH mk b with
     | none=>
      rw [hb] at hv n3;rw [ub (by rw [show v3=V.non from hv];decide)]
      walk_at"d";exact⟨_,_,_,_,rfl,g4.trans g5,n3.symm⟩
     | some r0=>
      rw [hb] at hv n3;obtain⟨px,rfl,lx,x1,x2⟩:=hv;rw [ue (by rw [uF (by intro z;cases z)];rfl)];have rl:=vo mk b r0 hb;have e5:=(g2.trans (g3.trans (g4.trans g5))) _ _ e1
      walk_at"d";refine⟨_,e5,_,(g4.trans g5) _ _ b2,by rw [il,uk];lia,λq1 h1=>?_⟩;have k1:=za (o:=.lst (lj (zu (ps.take i)).1++o.1.map λ(t:Nat)=>V.int t)) h1;refine⟨_,ir.of (k1 _ _ x1),_,zA _ _,lx,rfl,_,zb,_,k1 _ _ x2,by rw [uc,il,uk,uk];lia,λq2 h2=>?_⟩;have k2:=za (o:=.lst (lj (zu (ps.take i)).1++(o.1.map λ(t:Nat)=>V.int t)++r0.1.map λ(t:Nat)=>V.int t)) h2;refine⟨_,ir.of (k2 _ _ (k1 _ _ x1)),_,jH _ _ _,_,rfl,λq3 h3=>?_⟩;have k3:=za (o:=.tup [V.ref q2,V.int ((zu (ps.take i)).2+o.2+r0.2)]) h3;refine q _ _ (G5.trans (k1.trans (k2.trans k3))) ?_;rw [all,n3];refine⟨q3,rfl,q2,?_,by rw [k3 _ _ zb];simp [Off.add,lj]⟩;rw [zb];simp [Off.add,Int.add_assoc]
    ·rintro σ H4 ⟨o5',o6',o7',o8',rfl,g4,n2⟩;rw [U8 (by rw [r2.len];exact ui _)] at n2;have n3:Zt mk (qK p)=none:=n2.symm
     walk_at"d";intro q1 h1;have k1:=za (o:=.lst [y]) h1;have G4:=g1.trans (g2.trans (g3.trans g4));refine⟨[p],⟨⟨q1,[y],rfl,zb,?_⟩,by simp [iQ.dpB];lia,by simp [ik];lia⟩,λr H5 g5 ⟨lx,x1,x2⟩=>?_⟩
     ·simp only [iM];exact⟨_,_,rfl,hd2.mono (G4.trans k1),rfl⟩
     have al:=(xx [p]).1;simp only [ik,Nat.add_zero] at al;have e5:=((g2.trans (g3.trans g4)).trans (k1.trans g5)) _ _ e1
     walk_at"d";refine⟨_,ir.of x1,_,zA _ _,lx,rfl,_,e5,_,x2,by rw [il,uk];lia,λq2 h2=>?_⟩;have k2:=za (o:=.lst (lj (zu (ps.take i)).1++(zu [p]).1.map λ(t:Nat)=>V.int t)) h2
     walk_at"d";refine⟨_,ir.of (k2 _ _ x1),_,jH _ _ _,_,rfl,q2,some y,o5',o6',o7',o8',some (.ref r),?_,G4.trans (k1.trans (g5.trans k2)),?_,?_⟩
     ·rw [tk,km];rfl
     ·rw [tk,km,zb];simp [Off.add,lj]
     ·rw [tk,kn,n1];simp only [zH,El,ub hm,n3];rfl
  ·rintro σ H1 ⟨ta,o4,o5,o6,o7,o8,o9,rfl,g1,e1,n1⟩;rw [hxs.len.symm.trans (qw ps),UW] at n1
   walk_at"r";exact q _ H1 g1 (by rw [n1];rfl)
theorem YT (T:Txt w K mg t)(D:Df K mg "_law_path" yA qj)(ar:ig P w K mg fY 40 "_law_pass" zQ (qk 5))(aW:ig P w K mg fY 1 "_law_marked" ju j3)(az:ig P w K mg fY 1 "_law_inner" qR jk):ig P w K mg fY 60 "_law_path" qj (qQ 5):=by have a0:ig P w K mg fY 41 "_law_path" qj (qQ 0):=D.ok (k:=40) zX (λ_ _ _ _ ⟨_,_,_,_,h,_⟩=>absurd h.2.1 (UI _)) (λ_ _ _ _ _ _ _ _ _ _ ⟨_,_,_,_,h,_⟩=>absurd h.2.1 (UI _));have up:∀ {k d:Nat},41<=k->d<=4->ig P w K mg fY k "_law_path" qj (qQ d)->ig P w K mg fY (k+1) "_law_path" qj (qQ (d+1)):=λhk hd a=>zaK hk hd T D aW az ar a;exact(up (by decide) (by decide) (up (by decide) (by decide) (up (by decide) (by decide) (up (by decide) (by decide) (up (by decide) (by decide) a0))))).mono (by decide)
def txI (xa:Addr)(mk:Tx)(ps:List Pc)(H:Hp)(i:Nat)(σ:L2.St)(H':Hp):Prop:=∃ (o2 o3 o4 o5 o6:Option V),σ=[some (.ref xa),some (.str (S mk)),o2,o3,o4,o5,o6]/\fX H H'/\qG mk (ps.take i)=none
def tiI (xa:Addr)(v2:Option V)(mk:Tx)(p:Pc)(H:Hp)(i:Nat)(σ:L2.St)(H':Hp):Prop:=∃ (o3 o4 o5 o6:Option V),σ=[some (.ref xa),some (.str (S mk)),v2,o3,o4,o5,o6]/\fX H H'/\Zu mk ((qK p).drop i)=Zu mk (qK p)
theorem X7 {k d:Nat}(hk:41<=k)(hd:d<=4)(T:Txt w K mg t)(D:Df K mg "_law_text_of" xl zD)(az:ig P w K mg fY 1 "_law_inner" qR jk)(aY:ig P w K mg fY k "_law_text_of" zD (zY d)):ig P w K mg fY (k+1) "_law_text_of" zD (zY (d+1)):=by
 refine D.ok qH ?_ ?_;walk_at"b"
 ·refine oC h λpv ps mk h=>?_;refine mS h λhp q=>?_;refine⟨_,(zc (wG PassesOwn.never (by rfl) (wo (K:=K) (by rfl) (qv 0)) (ly 2 qH.nd) (zc (zm (QW.qt (xI (iw zx (iy K (qv 2) ze) (qS fN)) (wA (iw DR (qv 1) (iy K (qv 2) ze))))) (zd (zg (iy K (qv 2) ze))) zi) (zd (wG PassesOwn.never (by rfl) (wo (K:=K) (by rfl) (qF az hr (iu (qv 2)))) (vV (n:=3) (by rfl) (zI (ly 3 qH.nd) (zI (ly 4 qH.nd) (zI (ly 5 qH.nd) xb)))) (zc (iC 6 qH.nd (qF aY hr (ip (qv 5) (qv 1)))) (zd (zm (iw VT (qv 6) zL) (zd (zg (qv 6))) zi))))))) (zd (zg zL))).h,?_⟩
  walk_at"r";obtain⟨⟨xa,xs,rfl,hxa,hxs⟩,hdp,hsz⟩:=hp;refine⟨xa,rfl,⟨_,iA.of hxa⟩,xQ (xs:=xs) (txI xa mk ps H) ⟨_,_,_,_,_,rfl,fX.refl _,rfl⟩ ?_ ?_ ?_⟩
  ·rintro i σ H1 _ ⟨_,_,_,_,_,rfl,g,_⟩;exact iA.of (g _ _ hxa)
  ·rintro i y σ H1 hi ⟨o2,o3,o4,o5,o6,rfl,g1,n1⟩;have hil:i<ps.length:=by have:=(ur.mp hi).1;have:=hxs.len;rw [qw] at this;lia
   obtain⟨dd,hd1,hd2⟩:=hxs.get hi;rw [Jx ps i ps[i] (uy hil)] at hd1;cases hd1;have hpd:=XY (Ui hil);have hps:=YC (Ui hil);have tk:ps.take (i+1)=ps.take i++[ps[i]]:=by rw [gy,uy hil];rfl
   have all:qG mk ps=match xt mk ps[i] with
     | some r=>some r
     | none=>qG mk (ps.drop (i+1)):=by
    conv=>lhs;rw [← UO i ps,uW hil,ko,n1]
    rfl
   generalize ps[i]=p at hd2 hpd hps tk all;obtain⟨pa,vs,rfl,hpa,hf⟩:=n5 hd2;have hq:=ir.of (K:=K) (g1 _ _ hpa);simp only [wO,List.set_cons_zero,List.set_cons_succ];refine iG λN hN=>?_
   have tail:(∀ t,p=.lit t->lL mk t=false)->N [some (.ref xa),some (.str (S mk)),some (.ref pa),o3,o4,o5,o6] H1:=λhl=>hN _ _ (by
    rw [Ek mk p hl] at all
    walk_at"r"
    refine⟨p,hd2.mono g1,λr is H3 g3 r1 r2=>⟨⟨_,iA.of r1⟩,xQ (xs:=is) (tiI xa (some (.ref pa)) mk p H3) ⟨_,_,_,_,rfl,fX.refl _,by rw [US]⟩ ?_ ?_ ?_⟩⟩
    ·rintro j σ H4 _ ⟨_,_,_,_,rfl,g4,_⟩
     exact iA.of (g4 _ _ r1)
    ·rintro j v σ H4 hj ⟨o5',o6',o7',o8',rfl,g4,n2⟩
     obtain⟨pp,tt,wv,o,b,rfl,hjb,b1,b2,b3⟩:=r2.get hj
     have sm:=WK (uQ hjb)
     have n3:Zu mk (qK p)=match qG mk b with
       | some q=>some q
       | none=>Zu mk ((qK p).drop (j+1)):=by
      obtain⟨h1,h2⟩:=ur.mp hjb
      rw [← n2,uW h1,h2]
      rfl
     walk_at"r"
     refine⟨_,ir.of (g4 _ _ b1),rfl,_,_,rfl,_,_,rfl,_,_,rfl,rfl,b,⟨b3.mono g4,by lia,by lia⟩,λv3 H5 g5 hv=>?_⟩
     cases hb:qG mk b with
     | none=>
      rw [hb] at hv n3
      rw [ub (by rw [show v3=V.non from hv];decide)]
      exact⟨_,_,_,_,rfl,g4.trans g5,n3.symm⟩
     | some r0=>
      rw [hb] at hv n3
      cases (show v3=tx r0 from hv)
      rw [ue (by rw [uF (by intro z;cases z)];rfl)]
      exact q _ _ (g1.trans (g3.trans (g4.trans g5))) (by rw [all,n3];rfl)
    ·rintro σ H4 ⟨o5',o6',o7',o8',rfl,g4,n2⟩
     rw [U8 (by rw [r2.len];exact ui _)] at n2
     have n3:Zu mk (qK p)=none:=n2.symm
     exact⟨_,_,_,_,_,rfl,g1.trans (g3.trans g4),by rw [tk,ko,n1];simp only [qG,Ek mk p hl,n3]⟩)
   walk_at"r";cases p with
   | lit z=>
    cases hf;refine⟨_,hq,_,zA _ _,rfl,?_⟩;rw [ue (show tx _=V.str (S _) from rfl)];refine⟨_,hq,_,jH _ _ _,z,rfl,?_⟩;cases hz:lL mk z with
    | true=>rw [ue rfl];exact⟨_,hq,_,jH _ _ _,q _ _ g1 (by rw [all];simp [xt,hz,FT])⟩
    | false=>rw [ub (by decide)];exact tail λt e=>by cases e;exact hz
   | hole z=>cases hf;refine⟨_,hq,_,zA _ _,rfl,?_⟩;rw [ub (zG (by decide))];exact tail nofun
   | each z b=>obtain⟨wv,rfl,hw⟩:=hf;refine⟨_,hq,_,zA _ _,rfl,?_⟩;rw [ub (zG (by decide))];exact tail nofun
   | ife z a b=>obtain⟨wv,uv,rfl,hw,hu⟩:=hf;refine⟨_,hq,_,zA _ _,rfl,?_⟩;rw [ub (zG (by decide))];exact tail nofun
   | seat w' n m b=>obtain⟨wv,rfl,hw⟩:=hf;refine⟨_,hq,_,zA _ _,rfl,?_⟩;rw [ub (zG (by decide))];exact tail nofun
  ·rintro σ H1 ⟨o2,o3,o4,o5,o6,rfl,g1,n1⟩;rw [hxs.len.symm.trans (qw ps),UW] at n1
   walk_at"r";exact q _ H1 g1 (by rw [n1];rfl)
theorem WQ (T:Txt w K mg t)(D:Df K mg "_law_text_of" xl zD)(az:ig P w K mg fY 1 "_law_inner" qR jk):ig P w K mg fY 60 "_law_text_of" zD (zY 5):=by have a0:ig P w K mg fY 41 "_law_text_of" zD (zY 0):=D.ok (k:=40) qH (λ_ _ _ _ ⟨_,_,_,_,h,_⟩=>absurd h.2.1 (UI _)) (λ_ _ _ _ _ _ _ _ _ _ ⟨_,_,_,_,h,_⟩=>absurd h.2.1 (UI _));have up:∀ {k d:Nat},41<=k->d<=4->ig P w K mg fY k "_law_text_of" zD (zY d)->ig P w K mg fY (k+1) "_law_text_of" zD (zY (d+1)):=λhk hd a=>X7 hk hd T D az a;exact(up (by decide) (by decide) (up (by decide) (by decide) (up (by decide) (by decide) (up (by decide) (by decide) (up (by decide) (by decide) a0))))).mono (by decide)
def Co:List (Key×V):=[(.inr (S [60]),V.int 4),(.inr (S [61]),V.int 0)]
theorem Me {mk kk:Tx}(hm:Mk mk)(k:Kn kk):∃ c,mh (lQ mk kk) 0=some c/\(lQ mk kk).length<=16777216/\(iU (wa [] Co) (.inr (S [c]))).getD (V.int 1)=V.int (pV kk:Nat):=by cases k<;>rcases hm with rfl | rfl<;>exact⟨_,rfl,by decide,by decide +kernel⟩
theorem Tg (T:Txt w K mg t)(D:Df K mg "_law_due" Q0 vk)(aX:ig P w K mg fY 60 "_law_path" qj (qQ 5))(aY:ig P w K mg fY 60 "_law_text_of" zD (zY 5)):ig P w K mg fY 61 "_law_due" vk yK:=by
 refine D.ok yB ?_ ?_;walk_at"b"
 ·refine tU h λpv ps wd mk kk r h=>?_;refine av6 h λhp hpa hm hk ht q=>?_;refine⟨_,(zc (kI (qF aX hr (ip (qv 0) (qv 2))) (vV (n:=2) (by rfl) (zI (ly 3 yB.nd) (zI (ly 4 yB.nd) xb)))) (zc (zm (iw zx (qv 1) (qS fR)) (zc (iC 5 yB.nd (qF aY hr (ip (qv 0) (qv 2)))) (zd (zg (zh (iH (qS fR) (zh (ip (qv 3) (qv 4))) (Jq (Vw hr) (WW (jI (by exact(qS [60])) (by exact ze) (jI (by exact(qS [61])) (by exact ze) WV)) (by rfl) (by rfl) (by intro z;cases z) (by decide)) (VI pL (qv 5) ze (λ_ _=>(by rfl))) ze (by exact⟨rfl,rfl,rfl,rfl⟩))))))) zi) (zc (zm (iw zx (qv 1) (qS fS)) (zd (zg (zh (iH (qS fS) (qv 2) (zh (ip (qv 3) (qv 4))))))) zi) (zc (zm (iw zx (qv 1) (qS fK)) (zd (zg (zh (lr (qS fT) (zh (ip (qS fK) (qv 2))) (zh (ip (zr qx (qv 3) (zl (iu ze))) (zr qZ (qv 4) ze))) (zh (ip (zr qx (qv 3) (zl (iu ze))) (qv 4))))))) zi) (zc (zm (iw zx (qv 1) (qS fJ)) (zd (zg (zh (lr (qS fT) (zh (ip (qS fJ) (qv 2))) (zh (ip (zr qx (qv 3) (zl (iu ze))) (qv 4))) (zh (ip (zr qx (qv 3) (zl (iu ze))) (zr qZ (qv 4) ze))))))) zi) (zd (zg (zh (lr (qS fT) (zh (lr (qS fL) (qS fQ) (qv 2) (qS []))) (zh (ip (qv 3) (zr qZ (qv 4) ze))) (zh (ip (qv 3) (zr qZ (qv 4) ze)))))))))))).h,?_⟩;have rl:=vo mk ps r hpa;have rsz:=hp.2.2
  walk_at"d";refine⟨ps,hp,λv H1 g1 hv=>?_⟩;rw [hpa] at hv;obtain⟨px,rfl,tp,x1,x2⟩:=hv;have il:(r.1.map λ(t:Nat)=>V.int t).length=r.1.length:=uk _;refine⟨px,rfl,_,ir.of x1,rfl,_,_,rfl,_,_,rfl,rfl,?_⟩;cases wd with
  | astray=>
   walk_at"i";refine Yk rfl ?_
   walk_at"d";refine⟨ps,hp.mono g1,λv2 H2 g2 hv=>?_⟩
   walk_at"d";intro q1 h1 q2 h2;rw [ht rfl] at hv;cases (show v2=tx (lQ mk kk) from hv);obtain⟨hd,c1,c2,c3⟩:=Me hm hk;have b1:=za (o:=.tup [V.ref tp,V.int (r.2:Nat)]) h1;have b2:=JC (o:=HO.dK []) (o':=HO.dK (wa [] Co)) h2;refine⟨zb,Co,rfl,by decide,.inl ⟨_,.inl zb⟩,_,rfl,c2,hd,c1,_,lV.k (k:=.inr (S [hd])) zb,?_⟩;rw [c3];intro q3 h3;have b3:=za (o:=.tup [V.str (S [97,115,116,114,97,121]),V.ref q1,V.int (pV kk:Nat)]) h3;have B:=b2.trans b3;exact q _ _ (g1.trans (g2.trans (b1.trans B))) ⟨q3,_,rfl,zb,_,_,rfl,⟨rfl,rfl⟩,_,_,rfl,(show nk _ q1 r.1 r.2 from⟨tp,B _ _ zb,(g2.trans (b1.trans B)) _ _ x2⟩).dt,_,_,rfl,⟨rfl,rfl⟩,rfl⟩
  | noplace=>
   walk_at"i";rw [ub (by decide)]
   walk_at"i";refine Yk rfl ?_
   walk_at"d";intro q1 h1 q2 h2;have b1:=za (o:=.tup [V.ref tp,V.int (r.2:Nat)]) h1;have b2:=za (o:=.tup [V.str (S [110,111,112,108,97,99,101]),V.str (S mk),V.ref q1]) h2;exact q _ _ (g1.trans (b1.trans b2)) ⟨q2,_,rfl,zb,_,_,rfl,⟨rfl,rfl⟩,_,_,rfl,⟨rfl,rfl⟩,_,_,rfl,(show nk _ q1 r.1 r.2 from⟨tp,b2 _ _ zb,(b1.trans b2) _ _ x2⟩).dt,rfl⟩
  | ife=>
   walk_at"i";rw [ub (by decide)]
   walk_at"i";rw [ub (by decide)]
   walk_at"i";refine Yk rfl ?_
   walk_at"d";intro q1 h1 q2 h2;have b1:=za (o:=.tup [V.str (S [105,102]),V.str (S mk)]) h1;have b2:=za (o:=.lst [V.int 0]) h2;refine⟨_,(b1.trans b2) _ _ x2,_,zb,by rw [il];simp;lia,λq3 h3 q4 h4 q5 h5=>?_⟩;have b3:=za (o:=.lst ((r.1.map λ(t:Nat)=>V.int t)++[V.int 0])) h3;have b4:=za (o:=.tup [V.ref q3,V.int (r.2+1)]) h4;have b5:=za (o:=.lst [V.int 1]) h5;have B25:=b2.trans (b3.trans (b4.trans b5));refine⟨_,(b1.trans B25) _ _ x2,_,zb,by rw [il];simp;lia,λq6 h6 q7 h7 q8 h8=>?_⟩;have b6:=za (o:=.lst ((r.1.map λ(t:Nat)=>V.int t)++[V.int 1])) h6;have b7:=za (o:=.tup [V.ref q6,V.int (r.2:Nat)]) h7;have b8:=za (o:=.tup [V.str (S [117,110,108,105,107,101]),V.ref q1,V.ref q4,V.ref q7]) h8;have B58:=b5.trans (b6.trans (b7.trans b8));exact q _ _ (g1.trans (b1.trans (B25.trans (b6.trans (b7.trans b8))))) ⟨q8,_,rfl,zb,_,_,rfl,⟨rfl,rfl⟩,_,_,rfl,⟨q1,_,rfl,(B25.trans (b6.trans (b7.trans b8))) _ _ zb,jR [[105,102],mk]⟩,_,_,rfl,(show nk _ q4 (r.1++[0]) (r.2+1) from⟨q3,B58 _ _ zb,by rw [(b4.trans B58) _ _ zb];simp⟩).dt,_,_,rfl,(show nk _ q7 (r.1++[1]) r.2 from⟨q6,b8 _ _ zb,by rw [(b7.trans b8) _ _ zb];simp⟩).dt,rfl⟩
  | each=>
   walk_at"i";rw [ub (by decide)]
   walk_at"i";rw [ub (by decide)]
   walk_at"i";rw [ub (by decide)]
   walk_at"i";refine Yk rfl ?_
   walk_at"d";intro q1 h1 q2 h2;have b1:=za (o:=.tup [V.str (S [101,97,99,104]),V.str (S mk)]) h1;have b2:=za (o:=.lst [V.int 0]) h2;refine⟨_,(b1.trans b2) _ _ x2,_,zb,by rw [il];simp;lia,λq3 h3 q4 h4 q5 h5=>?_⟩;have b3:=za (o:=.lst ((r.1.map λ(t:Nat)=>V.int t)++[V.int 0])) h3;have b4:=za (o:=.tup [V.ref q3,V.int (r.2:Nat)]) h4;have b5:=za (o:=.lst [V.int 1]) h5;have B25:=b2.trans (b3.trans (b4.trans b5));refine⟨_,(b1.trans B25) _ _ x2,_,zb,by rw [il];simp;lia,λq6 h6 q7 h7 q8 h8=>?_⟩;have b6:=za (o:=.lst ((r.1.map λ(t:Nat)=>V.int t)++[V.int 1])) h6;have b7:=za (o:=.tup [V.ref q6,V.int (r.2+1)]) h7;have b8:=za (o:=.tup [V.str (S [117,110,108,105,107,101]),V.ref q1,V.ref q4,V.ref q7]) h8;have B58:=b5.trans (b6.trans (b7.trans b8));exact q _ _ (g1.trans (b1.trans (B25.trans (b6.trans (b7.trans b8))))) ⟨q8,_,rfl,zb,_,_,rfl,⟨rfl,rfl⟩,_,_,rfl,⟨q1,_,rfl,(B25.trans (b6.trans (b7.trans b8))) _ _ zb,jR [[101,97,99,104],mk]⟩,_,_,rfl,(show nk _ q4 (r.1++[0]) r.2 from⟨q3,B58 _ _ zb,by rw [(b4.trans B58) _ _ zb];simp⟩).dt,_,_,rfl,(show nk _ q7 (r.1++[1]) (r.2+1) from⟨q6,b8 _ _ zb,by rw [(b7.trans b8) _ _ zb];simp⟩).dt,rfl⟩
  | seat=>
   walk_at"i";rw [ub (by decide)]
   walk_at"i";rw [ub (by decide)]
   walk_at"i";rw [ub (by decide)]
   walk_at"i";rw [ub (by decide)]
   walk_at"d";intro q1 h1;have b1:=za (o:=.tup [tx WH,tx sS,tx mk,tx []]) h1;intro q2 h2 q3 h3 q4 h4;have b2:=za (o:=.tup [V.ref tp,V.int (r.2+1)]) h2;have b3:=za (o:=.tup [V.ref tp,V.int (r.2+2)]) h3;have b4:=za (o:=.tup [V.str (S [117,110,108,105,107,101]),V.ref q1,V.ref q2,V.ref q3]) h4;have B24:=b2.trans (b3.trans b4);exact q _ _ (g1.trans (b1.trans B24)) ⟨q4,_,rfl,zb,_,_,rfl,⟨rfl,rfl⟩,_,_,rfl,⟨q1,_,rfl,B24 _ _ zb,jR [WH,sS,mk,[]]⟩,_,_,rfl,(show nk _ q2 r.1 (r.2+1) from⟨tp,(b3.trans b4) _ _ zb,(b1.trans B24) _ _ x2⟩).dt,_,_,rfl,(show nk _ q3 r.1 (r.2+2) from⟨tp,b4 _ _ zb,(b1.trans B24) _ _ x2⟩).dt,rfl⟩
theorem X8 (T:Txt w K mg t)(D:Df K mg "branches_of" yX jX):ig P w K mg fY 1 "branches_of" jX xB:=by
 refine D.ok XN ?_ ?_;walk_at"b"
 ·refine sJ h λv x n B h=>?_;refine lN h λgB hv hx q=>?_;refine⟨_,(zd (zg (w6 (iw zx (iy K (qv 0) ze) (qS fJ)) (zh (ip (zl zC) (iy K (qv 0) ze))) (zh (ip (iy K (qv 0) ze) (iy K (qv 0) ze)))))).h,?_⟩
  walk_at"r";obtain⟨p,vs,rfl,hp,hf⟩:=n5 hv;have hp:=gB _ _ hp;rcases hx with⟨b,rfl⟩ | ⟨a,b,rfl⟩
  ·obtain⟨w2,rfl,⟨ab,vb,rfl,hb,hbs⟩⟩:=hf;refine⟨p,rfl,_,ir.of hp,_,rfl,rfl,?_⟩;rw [ue (show tx [101,97,99,104]=V.str (S [101,97,99,104]) from rfl)];intro q1 hq1;refine⟨p,rfl,_,ir.of (za hq1 _ _ hp),_,rfl,λq2 hq2=>?_⟩;have g:=(za (o:=.lst []) hq1).trans (za (o:=.tup [V.ref q1,V.ref ab]) hq2);exact q _ _ _ _ _ _ g zb (za hq2 _ _ zb) (g _ _ (gB _ _ hb)) rfl hbs (λD o h1 h2=>⟨(zv h1 hq1).symm,zv hb h2⟩)
  ·obtain⟨w2,w3,rfl,⟨ab,vb,rfl,hb,hbs⟩,⟨ac,vc,rfl,hc,hcs⟩⟩:=hf;refine⟨p,rfl,_,ir.of hp,_,rfl,rfl,?_⟩;rw [ub (zG (by decide))];refine⟨p,rfl,_,ir.of hp,_,rfl,p,rfl,_,ir.of hp,_,rfl,λq1 hq1=>?_⟩;have g:=za (o:=.tup [V.ref ab,V.ref ac]) hq1;exact q _ _ _ _ _ _ g zb (g _ _ (gB _ _ hb)) (g _ _ (gB _ _ hc)) hbs hcs (λD o h1 h2=>⟨zv hb h2,zv hc h2⟩)
structure WI (H:Hp)(ps:List Pc)(T:Ld)(n:Nat)(pa pl D1 D2 D3:Addr)(st:List It)(T':Ld)(th:List Dat)(tv av:List V)(H':Hp):Prop where
 g:fX H H'
 h1:H' D1=some (.lst tv)
 h2:H' D2=some (.lst av)
 h3:H' D3=some (.lst (T'.map λ(t:Nat)=>V.int t).reverse)
 tvs:nL H H' tv th
 avs:nI H H' av.reverse st
 e:th++out st T' = out (ij ps) T
 le:th.length<=n
def wI (H:Hp)(ps:List Pc)(T:Ld)(n:Nat)(pa pl D1 D2 D3:Addr)(m:Nat)(σ:L2.St)(H':Hp):Prop:=∃ (st:List It) (T':Ld) (th:List Dat) (tv av:List V) (o5:Option V),m=lB st/\m<=100000/\σ=[some (V.ref pa),some (V.ref pl),some (V.ref D1),some (V.ref D2),some (V.ref D3),o5]/\WI H ps T n pa pl D1 D2 D3 st T' th tv av H'/\(∀ t∈T',t<2)
theorem Ry (T:Txt w K mg t)(D:Df K mg "walked" XO vQ)(cm:ig P w K mg fY 1 "branches_of" jX xB):ig P w K mg fY 2 "walked" vQ ku:=by
 refine D.ok ki ?_ ?_;walk_at"b"
 ·refine tU h λpa pl ta ps Tn n h=>?_;refine rg h λhpa hpl hta hT2 hTl hsz hn q=>?_;refine⟨_,(zc (iC 2 ki.nd (zl zC)) (zc (iC 3 ki.nd (WY (by rfl) (qv 0))) (zc (iC 4 ki.nd (WY (by rfl) (iy K (qv 1) ze))) (zc (P6 PassesOwn.never (QW.qt (xI (Z6 (K:=K) (by rfl) (qv 3)) (wA (iw Ad (zK (xH (K:=K) (by rfl)) (by rfl) T.z_len yQ (iu (qv 2))) (iy K (qv 1) ze))))) (zc (iC 5 ki.nd (Yi (K:=K) (by rfl) uL Gf Gg BI (qv 3))) (zd (zm (iw zx (iy K (qv 5) ze) (qS fL)) (zc (xc (vy (K:=K) (by rfl) uL u7 u9 j4 (qv 2) (iu (zh (lr (qS [105,110,116,111]) (iy K (qv 5) ze) (iy K (qv 5) ze) (iy K (qv 5) ze)))))) (zc (xc (vy (K:=K) (by rfl) uL u7 u9 j4 (qv 3) (iu (zh (iu (qS [111,117,116])))))) (zd (xc (vy (K:=K) (by rfl) uL gC gE JL (qv 3) (iu (WY (by rfl) (iy K (qv 5) ze)))))))) (zd (zm (iw (Xm (K:=K) (by rfl)) (iy K (qv 5) ze) (zh (ip (qS fJ) (qS fK)))) (zd (xc (vy (K:=K) (by rfl) uL u7 u9 j4 (qv 2) (iu (qv 5))))) (zd (zm (Z6 (K:=K) (by rfl) (qv 4)) (zd (xc (vy (K:=K) (by rfl) uL gC gE JL (qv 3) (iu (WY (by rfl) (iy K (qF cm hr (iu (qv 5))) (Yi (K:=K) (by rfl) uL Gf Gg BI (qv 4)))))))) (zd P4))))))))) (zd (zg (qv 2))))))).h,?_⟩
  walk_at"d";intro D1 f1;obtain⟨_,vs,e,hvs,hds⟩:=id hpa;cases e;have a1:=za (o:=.lst []) f1
  walk_at"d";refine⟨vs,iA.of (a1 _ _ hvs),λD2 f2=>?_⟩;have a2:=za (o:=.lst vs.reverse) f2;have A2:=a1.trans a2
  walk_at"d";refine⟨_,ir.of (A2 _ _ hpl),_,rfl,ta,rfl,_,iA.of (A2 _ _ hta),λD3 f3=>?_⟩;have a3:=za (o:=.lst (Tn.map λ(t:Nat)=>V.int t).reverse) f3;have n2:H D2=none:=qh a1 f2;have n3:H D3=none:=qh A2 f3;have d12:D1≠D2:=zv zb f2;have d13:D1≠D3:=zv (a2 _ _ zb) f3;have d23:D2≠D3:=zv zb f3
  walk_at"d";refine HD (wI H ps Tn n pa pl D1 D2 D3) (lB (ij ps)) ⟨ij ps,Tn,[],[],vs.reverse,_,rfl,by rw [xA];lia,rfl,⟨A2.trans a3,(a2.trans a3) _ _ zb,a3 _ _ zb,zb,.nil,by rw [Uw];exact YD hds,rfl,by simp⟩,hT2⟩ ?_;rintro m σ H1 ⟨st,T',th,tv,av,o5,rfl,hm,rfl,I,hT'⟩
  have hfin:(th.length=n\/out st T' = [])->Q (V.ref D1) H1:=λh=>by
   refine q D1 H1 f1 I.g ⟨D1,tv,rfl,I.h1,?_⟩
   have e:(out (ij ps) Tn).take n=th:=by
    rw [← I.e];rcases h with h | h
    ·rw [← h,List.take_left]
    ·rw [h,uj,Ga I.le]
   rw [e];exact I.tvs.ds I.g
  have hlen:=I.tvs.len;subst hN;generalize hB:i7 _ _=B;cases st with
  | nil=>
   have hav:av=[]:=by
    have:=I.avs;cases hr:av.reverse with
    | nil=>simpa using hr
    | cons x r=>rw [hr] at this;cases this
   have h2:=I.h2;rw [hav] at h2
   walk_at"r";refine⟨false,FC h2,?_⟩;rw [ub (by decide)];exact hfin (.inr (by simp only [Zm,WL,vL,xC,wz,xD,vM,xP,yo]))
  | cons i st'=>
   obtain⟨v,r,hav,hv,hr⟩:∃ v r,av=r.reverse++[v]/\tY H H1 v i/\nI H H1 r st':=by
    have:=I.avs;cases hr:av.reverse with
    | nil=>rw [hr] at this;cases this
    | cons x r=>
     rw [hr] at this;cases this with
     | cons h1 h2=>exact⟨x,r,by rw [← Uw av,hr,Up],h1,h2⟩
   have h2:=I.h2;rw [hav] at h2
   walk_at"r";refine⟨true,sW h2,?_⟩;rw [ue rfl];refine⟨tv,.inl (iA.of I.h1),_,ir.of (I.g _ _ hpl),_,rfl,n,rfl,?_⟩;split
   ·rename_i hlt;have hlt:th.length<n:=by lia
    refine⟨λσ' H'=>∃ m',m' < lB (i::st')/\wI H ps Tn n pa pl D1 D2 D3 m' σ' H',λ_ _ h=>h,?_⟩;subst hB
    walk_at"d";refine⟨.inl ⟨rfl,_,iA.of h2⟩,_,h2,v,by simp,?_⟩;rw [gc];have t1:iT H1 (upd H1 D2 (.lst r.reverse)):=iT.upd h2;have b1:∀ b o,H b=some o->upd H1 D2 (.lst r.reverse) b=some o:=λb o h=>by rw [zk (zv h n2)];exact I.g _ _ h
    have hsz':lB (i::st')=ma i+lB st':=rfl;have h1a:upd H1 D2 (.lst r.reverse) D1=some (.lst tv):=by rw [zk d12];exact I.h1
    have h3a:upd H1 D2 (.lst r.reverse) D3=some (.lst (T'.map λ(t:Nat)=>V.int t).reverse):=by rw [zk d23.symm];exact I.h3
    have h2a:upd H1 D2 (.lst r.reverse) D2=some (.lst r.reverse):=zb;generalize upd H1 D2 (.lst r.reverse)=HA at *
    have app:∀ (d:Dat) (vx:V),C7 H H1 vx d->out (i::st') T' = d::out st' T'->0<ma i->∀ HB,fX HA HB ->
      sI K "list" (V.ref D1) HB/\∃ x,HB D1=some (HO.lst x)/\x.length<16777216 /\
      ∃ m',m' < lB (i::st')/\wI H ps Tn n pa pl D1 D2 D3 m' [some (V.ref pa),some (V.ref pl),some (V.ref D1),some (V.ref D2),some (V.ref D3),some vx] (upd HB D1 (HO.lst (x++[vx]))):=by
     intro d vx hvx hout hpos HB k
     have h1b:=k _ _ h1a
     have tt:=t1.trans ((iT.of k).trans (iT.upd (ys:=tv++[vx]) h1b))
     refine⟨.inl ⟨rfl,_,iA.of h1b⟩,tv,h1b,by lia,lB st',by lia,st',T',th++[d],tv++[vx],r.reverse,_,rfl,by lia,rfl,⟨λb o h=>?_,zb,?_,?_,?_,?_,?_,?_⟩,hT'⟩
     ·rw [zk (zv h f1)];exact k _ _ (b1 _ _ h)
     ·rw [zk d12.symm];exact k _ _ h2a
     ·rw [zk d13.symm];exact k _ _ h3a
     ·refine(I.tvs.mono tt).snoc ?_
      rcases hvx with h | ⟨a,ts,e,h,e2⟩
      ·exact .inl h
      ·exact .inr ⟨a,ts,e,tt _ _ h,e2⟩
     ·rw [Uw];exact hr.mono tt
     ·rw [uC,← I.e,hout];rfl
     ·rw [uc,uw];lia
    have hfin2:∀ H2:Hp,(∀ b o,H b=some o->H2 b=some o)->iT H1 H2->H2 D1=some (.lst tv)->out (i::st') T' = []->Q (V.ref D1) H2:=λH2 g2 t2 hD1 hout=>by
     refine q D1 H2 f1 g2 ⟨D1,tv,rfl,hD1,?_⟩;have e:(out (ij ps) Tn).take n=th:=by rw [← I.e,hout,uj,Ga I.le]
     rw [e];exact(I.tvs.mono t2).ds g2
    cases i with
    | o=>
     obtain⟨pv,rfl,hpv⟩:=hv
     walk_at"i";refine⟨_,ir.of (t1 _ _ hpv),_,rfl,rfl,?_⟩;rw [ub (zG (by decide))]
     walk_at"i";refine⟨_,ir.of (t1 _ _ hpv),_,rfl,λp hp=>⟨_,.inr (ir.of zb),rfl,rfl,?_⟩⟩;rw [ue (by decide)]
     walk_at"d";exact app oF (V.ref pv) (.inr ⟨pv,[[111,117,116]],rfl,hpv,rfl⟩) (by simp only [Zm,WL,vL,xC,wz,xD,vM,xP,yo]) (by decide) _ (za hp)
    | p x=>
     obtain⟨pv,pvs,rfl,hpv,hf⟩:=n5 hv;have hpv1:=b1 _ _ hpv;obtain(⟨t,rfl⟩ | ⟨t,rfl⟩) | ⟨w',n',m',b,rfl⟩ | ⟨n',hx⟩:((∃ t,x=.lit t)\/∃ t,x=.hole t)\/(∃ w n m b,x=.seat w n m b)\/∃ n',(∃ b,x=.each n' b)\/∃ a b,x=.ife n' a b:=by cases x<;>simp
     ·cases (show pvs=_ from hf)
      walk_at"i";refine⟨_,ir.of hpv1,_,rfl,rfl,?_⟩;rw [ub (zG (by decide))]
      walk_at"i";refine⟨_,ir.of hpv1,_,rfl,λp hp=>⟨_,.inr (ir.of zb),rfl,rfl,?_⟩⟩;rw [ue (by decide)]
      walk_at"d";exact app (dP (.lit t)) (V.ref pv) (.inl hv) (by simp only [Zm,WL,vL,xC,wz,xD,vM,xP,yo]) (by simp [ma,iE]) _ (za hp)
     ·cases (show pvs=_ from hf)
      walk_at"i";refine⟨_,ir.of hpv1,_,rfl,rfl,?_⟩;rw [ub (zG (by decide))]
      walk_at"i";refine⟨_,ir.of hpv1,_,rfl,λp hp=>⟨_,.inr (ir.of zb),rfl,rfl,?_⟩⟩;rw [ue (by decide)]
      walk_at"d";exact app (dP (.hole t)) (V.ref pv) (.inl hv) (by simp only [Zm,WL,vL,xC,wz,xD,vM,xP,yo]) (by simp [ma,iE]) _ (za hp)
     ·obtain⟨wb,rfl,hwb⟩:=hf
      walk_at"i";refine⟨_,ir.of hpv1,_,rfl,rfl,?_⟩;rw [ue (show tx [115,101,97,116]=V.str (S [115,101,97,116]) from rfl)];obtain⟨ab,vb,rfl,hb,hbs⟩:=hwb;have l1:=Qe (ij b);rw [YE,xA] at l1;have l2:=hbs.len;rw [qw] at l2;have l3:=Qe st';have l4:=hr.len;simp only [lB,ma,iE] at hm
      walk_at"d";refine⟨.inl ⟨rfl,_,iA.of h1a⟩,_,ir.of hpv1,_,rfl,_,ir.of hpv1,_,rfl,_,ir.of hpv1,_,rfl,λp3 h3'=>?_⟩;have k3:=za (o:=.tup [tx [105,110,116,111],tx w',tx n',tx m']) h3';have h1b:=k3 _ _ h1a;have h2b:=(zk (o:=.lst (tv++[V.ref p3])) d12.symm).trans (k3 _ _ h2a);refine⟨tv,h1b,by lia,?_⟩
      walk_at"d";refine⟨.inl ⟨rfl,_,iA.of h2b⟩,λp4 h4=>?_⟩;have k4:=za (o:=.tup [tx [111,117,116]]) h4;have h2c:=k4 _ _ h2b;have u1:=iT.upd (ys:=tv++[V.ref p3]) h1b;have u2:=iT.upd (ys:=r.reverse++[V.ref p4]) h2c;have ta:=t1.trans ((iT.of k3).trans (u1.trans ((iT.of k4).trans u2)));have gH:fX H _:=λb o h=>(zk (o:=.lst (r.reverse++[V.ref p4])) (zv h n2)).trans (k4 _ _ ((zk (o:=.lst (tv++[V.ref p3])) (zv h f1)).trans (k3 _ _ (b1 _ _ h))));refine⟨_,h2c,by rw [UL];lia,?_⟩
      walk_at"d";refine⟨.inl ⟨rfl,_,iA.of zb⟩,_,ir.of (gH _ _ hpv),_,rfl,ab,rfl,vb,iA.of (gH _ _ hb),λp5 h5=>?_⟩;have k5:=za (o:=.lst vb.reverse) h5;have h2d:=k5 _ _ (zb (a:=D2) (o:=.lst (r.reverse++[V.ref p4])));have u3:=iT.upd (ys:=r.reverse++[V.ref p4]++vb.reverse) h2d;have tt:=ta.trans ((iT.of k5).trans u3);refine⟨_,h2d,_,zb,by rw [uc,UL,UL,uw];lia,lB (ij b++.o::st'),by rw [yL,xA];simp only [lB,ma,iE];lia,ij b++.o::st',T',th++[sQ w' n' m'],tv++[V.ref p3],r.reverse++[V.ref p4]++vb.reverse,_,rfl,by rw [yL,xA];simp only [lB,ma];lia,rfl,⟨λb o h=>?_,?_,zb,?_,?_,?_,?_,?_⟩,hT'⟩
      ·exact(zk (zv h n2)).trans (k5 _ _ (gH _ _ h))
      ·exact(zk d12).trans (k5 _ _ ((zk d12).trans (k4 _ _ zb)))
      ·exact(zk d23.symm).trans (k5 _ _ ((zk d23.symm).trans (k4 _ _ ((zk d13.symm).trans (k3 _ _ h3a)))))
      ·refine(I.tvs.mono tt).snoc (.inr ⟨p3,[[105,110,116,111],w',n',m'],rfl,?_,rfl⟩);exact(u1.trans ((iT.of k4).trans (u2.trans ((iT.of k5).trans u3)))) _ _ zb
      ·rw [Gy,Uw,Gy,Uw];exact(YD hbs).app (.cons ⟨p4,rfl,(u2.trans ((iT.of k5).trans u3)) _ _ zb⟩ (hr.mono tt))
      ·rw [uC,← I.e];simp only [Zm,WL,vL,xC,wz,xD,vM,xP,yo];rfl
      ·rw [uc,uw];lia
     ·obtain⟨k,r1,rfl,hk⟩:∃ k r1,pvs=tx k::r1/\(k=[101,97,99,104]\/k=[105,102]):=by
       rcases hx with⟨b,rfl⟩ | ⟨a,b,rfl⟩
       ·obtain⟨_,rfl,_⟩:=hf;exact⟨_,_,rfl,.inl rfl⟩
       ·obtain⟨_,_,rfl,_⟩:=hf;exact⟨_,_,rfl,.inr rfl⟩
      have hsz2:∀ t,ik (nv x t)<iE x:=λt=>by
       rcases hx with⟨b,rfl⟩ | ⟨a,b,rfl⟩
       ·have:=Fp n' b t;simp only [iE];lia
       ·have:=Ej n' a b t;simp only [iE];lia
      walk_at"i"
      refine⟨_,ir.of hpv1,_,zA _ _,by rfl,?_⟩
      rw [ub (zG (by rcases hk with rfl | rfl<;>decide))]
      walk_at"i"
      refine⟨_,ir.of hpv1,_,zA _ _,λp hp=>⟨_,.inr (ir.of zb),by rcases hk with rfl | rfl<;>rfl,by rfl,?_⟩⟩
      rw [ub (by rcases hk with rfl | rfl<;>decide)]
      have k1:=za (o:=HO.tup [V.str (S [101,97,99,104]),V.str (S [105,102])]) hp
      have gB:fX H _:=λb o h=>k1 _ _ (b1 _ _ h)
      have tk:=t1.trans (iT.of k1)
      have h2b:=k1 _ _ h2a
      walk_at"i"
      cases T' with
      | nil=>
       refine⟨false,FC (k1 _ _ h3a),?_⟩
       rw [ub (by decide)]
       walk_at"d"
       exact hfin2 _ gB tk (k1 _ _ h1a) (by rcases hx with⟨b,rfl⟩ | ⟨a,b,rfl⟩<;>simp only [Zm,WL,vL,xC,wz,xD,vM,xP,yo])
      | cons t T''=>
       have h3b:=k1 _ _ h3a
       rw [uz,Up] at h3b
       refine⟨true,sW h3b,?_⟩
       rw [ue rfl]
       walk_at"d"
       refine⟨.inl ⟨rfl,_,iA.of h2b⟩,x,n',H,gB,hv,hx,λp1 a0 a1 v0 v1 H2 g2 hp1 ha0 ha1 hd0 hd1 hne=>?_⟩
       have ht2:t<2:=hT' t Us
       have h3c:=g2 _ _ h3b
       have hD3:=hne D3 _ h3b n3
       obtain⟨at_,vt,hat,hpt,hds,hne3⟩:∃ at_ vt,mh [V.ref a0,V.ref a1] (t:Int)=some (V.ref at_)/\H2 at_=some (.lst vt)/\iq H (iM (nv x t)) vt/\at_≠D3:=by
        have:t=0\/t=1:=by lia
        rcases this with rfl | rfl
        ·exact⟨a0,v0,rfl,ha0,hd0,hD3.1⟩
        ·exact⟨a1,v1,rfl,ha1,hd1,hD3.2⟩
       have hbs:=hsz2 t
       have l1:=Qe (ij (nv x t))
       rw [YE,xA] at l1
       have l2:=hds.len
       rw [qw] at l2
       have l3:=Qe st'
       have l4:=hr.len
       simp only [lB,ma,iE] at hm
       refine⟨.inl ⟨rfl,_,iA.of h3c⟩,_,h3c,V.int t,by simp,_,t,rfl,ir.of (iT.upd h3c _ _ hp1),_,hat,at_,rfl,vt,iA.of (by rw [zk hne3];exact hpt),λp4 h4=>?_⟩
       rw [gc] at h4 ⊢
       have k4:=za (o:=.lst vt.reverse) h4
       have h2c:=k4 _ _ ((zk (o:=.lst (T''.map λ(t:Nat)=>V.int t).reverse) d23).trans (g2 _ _ h2b))
       have tt:=tk.trans ((iT.of g2).trans ((iT.upd (ys:=(T''.map λ(t:Nat)=>V.int t).reverse) h3c).trans ((iT.of k4).trans (iT.upd (ys:=r.reverse++vt.reverse) h2c))))
       refine⟨_,h2c,_,zb,by rw [UL,UL];lia,lB (ij (nv x t)++st'),by rw [yL,xA];simp only [lB,ma,iE];lia,ij (nv x t)++st',T'',th,tv,r.reverse++vt.reverse,_,rfl,by rw [yL,xA];lia,rfl,⟨λb o h=>?_,?_,zb,?_,I.tvs.mono tt,?_,?_,I.le⟩,λx hx=>hT' x (uN _ hx)⟩
       ·exact(zk (zv h n2)).trans (k4 _ _ ((zk (zv h n3)).trans (g2 _ _ (gB _ _ h))))
       ·exact(zk d12).trans (k4 _ _ ((zk d13).trans (g2 _ _ (k1 _ _ h1a))))
       ·exact(zk d23.symm).trans (k4 _ _ zb)
       ·rw [Gy,Uw,Uw]
        exact(YD hds).app (hr.mono tt)
       ·rw [← I.e]
        rcases hx with⟨b,rfl⟩ | ⟨a,b,rfl⟩<;>simp only [Zm,WL,vL,xC,wz,xD,vM,xP,yo]
   ·rename_i hlt;exact hfin (.inl (by have:=I.le;lia))
def aI (pa pl D:Addr)(H:Hp)(ths:List V)(A:List Th)(sF:MS)(aF:List (List Tx))(p:Addr)(H2:Hp)(i:Nat)(σ:L2.St)(H':Hp):Prop:=∃ (sv:V) (o4:Option V) (s:MS) (a:List (List Tx)) (av:List V),σ=[some (.ref pa),some (.ref pl),some sv,some (.ref p),o4]/\fX H H'/\iT H2 H'/\H' D=some (.lst ths)/\lW H' sv s/\H' p=some (.lst av)/\nN H' av a.reverse/\av.length<=i/\Rn s a (A.drop i) sF aF
def dTs:Th->List Tx
 | .lit t=>[[108,105,116],t]
 | .hole t=>[[104,111,108,101],t]
 | .into w n m=>[[105,110,116,111],w,n,m]
 | .out=>[[111,117,116]]
theorem Md {H:Hp}{h:Th}{v:V}(k:ic H (nG h) v):∃ p,v=.ref p/\H p=some (.tup ((dTs h).map tx)):=by
 cases h with
 | lit t=>
  obtain⟨p,vs,e,hp,v0,r0,rfl,⟨rfl,_⟩,v1,r1,rfl,⟨rfl,_⟩,rfl⟩:=(by simpa only [nG,dP] using k:ic H (.tp [ft [108,105,116],ft t]) v)
  exact⟨p,e,hp⟩
 | hole t=>
  obtain⟨p,vs,e,hp,v0,r0,rfl,⟨rfl,_⟩,v1,r1,rfl,⟨rfl,_⟩,rfl⟩:=(by simpa only [nG,dP] using k:ic H (.tp [ft [104,111,108,101],ft t]) v)
  exact⟨p,e,hp⟩
 | into w n m=>
  obtain⟨p,vs,e,hp,v0,r0,rfl,⟨rfl,_⟩,v1,r1,rfl,⟨rfl,_⟩,v2,r2,rfl,⟨rfl,_⟩,v3,r3,rfl,⟨rfl,_⟩,rfl⟩:=(by simpa only [nG,sQ] using k:ic H (.tp [ft [105,110,116,111],ft w,ft n,ft m]) v)
  exact⟨p,e,hp⟩
 | out=>
  obtain⟨p,vs,e,hp,v0,r0,rfl,⟨rfl,_⟩,rfl⟩:=(by simpa only [nG,oF] using k:ic H (.tp [ft [111,117,116]]) v)
  exact⟨p,e,hp⟩
theorem zaL (T:Txt w K mg t)(D:Df K mg "state_at" QU wR)(aE:ig P w K mg fY 1 "begin" yg kj)(aR:ig P w K mg fY 2 "walked" vQ ku)(aN:n9 P w K mg fY 8 "run" Wj (XU t))(aG:ig P w K mg fY 1 "floored" wH xK):ig P w K mg fY 9 "state_at" wR vp:=by
 refine D.ok jY ?_ ?_;walk_at"b"
 ·refine ex9 h λpa pl ta ps Tn n A s a h=>?_;refine C1 h λh1 h2 h3 h4 h5 h6 h7 h8 h9 hrn q=>?_;refine⟨_,(zc (iC 2 jY.nd (JP aE hr (by decide))) (zc (iC 3 jY.nd (zl zC)) (zc (wG PassesOwn.never (by rfl) (wo (K:=K) (by rfl) (qF aR hr (ip (qv 0) (qv 1)))) (ly 4 jY.nd) (zd (zm (iw zx (iy K (qv 4) ze) (qS fN)) (zd (iC 2 jY.nd (iy K (Rb aN hr (by decide) (ip (qv 2) (iy K (qv 4) ze))) ze))) (zd (zm (iw zx (iy K (qv 4) ze) (qS [105,110,116,111])) (zc (xc (vy (K:=K) (by rfl) uL u7 u9 j4 (qv 3) (iu (iy K (qv 2) ze)))) (zd (iC 2 jY.nd (qF aG hr (iu (qv 2)))))) (zd (zm (iw zx (iy K (qv 4) ze) (qS [111,117,116])) (zd (iC 2 jY.nd (zh (lr (iy K (qv 2) ze) (iy K (qv 2) ze) (zr EU (Yi (K:=K) (by rfl) uL Gf Gg BI (qv 3)) (iy K (qv 2) ze)) (iy K (qv 2) ze))))) zi))))))) (zd (zg (qv 2)))))).h,?_⟩
  walk_at"d";intro v H1 g1 hv
  walk_at"d";intro p hp;have gp:=za (o:=.lst []) hp;have g2:=g1.trans gp
  walk_at"d";refine⟨ta,ps,h1.mono g2,Tn,n,g2 _ _ h2,g2 _ _ h3,h4,h5,h6,h7,λD H2 hD gD hw=>?_⟩;rw [h8] at hw;obtain⟨D',ths,e,eD,hth⟩:=(by simpa only [ic] using hw:∃ a vs,V.ref D=.ref a/\H2 a=some (.lst vs)/\iq H2 (A.map nG) vs)
  cases e;have hlen:ths.length=A.length:=by rw [← hth.len,uk]
  have gH:fX H H2:=g2.trans gD;have hpD:p≠D:=λz=>by subst z;rw [zb] at hD;cases hD
  refine⟨⟨_,iA.of eD⟩,?_⟩;refine xQ (xs:=ths) (aI pa pl D H ths A s a p H2) ⟨v,none,mG,[],[],rfl,gH,iT.of (fX.refl H2),eD,(hv.mono gp).mono gD,gD _ _ zb,.nil,ui _,hrn⟩ ?_ ?_ ?_
  ·rintro i σ H3 _ ⟨_,_,_,_,_,_,_,_,e,_⟩;exact iA.of e
  ·rintro i x σ H3 hi ⟨sv,o4,s',a',av,rfl,g3,t3,e3,hs3,hp3,ha3,hl3,hr3⟩;have hiA:i<A.length:=by have:=(ur.mp hi).1;lia
   obtain⟨dd,hd1,hd2⟩:=hth.get hi;rw [Uk,uy hiA] at hd1;cases hd1;obtain⟨xa,rfl,hx⟩:=Md hd2;rw [uW hiA] at hr3;obtain⟨s2,a2,hn,hr4⟩:=hr3.nx;have hH:H p=none:=none_of g1 hp;obtain⟨sa,so,rfl,hs1,hs2⟩:=hs3;generalize A[i]=h at hx hn;cases h with
   | lit tt=>
    have hx:H2 xa=some (.tup [tx [108,105,116],tx tt]):=hx;have hx:=t3 _ _ hx;obtain⟨⟨es,hr1⟩,hw,ho,rfl⟩:=hn
    walk_at"i";refine⟨_,ir.of hx,_,zA _ _,rfl,?_⟩;rw [ue (by rfl)]
    walk_at"d";refine⟨_,ir.of hx,_,jH _ _ _,s',tt,rfl,⟨sa,so,rfl,hs1,hs2⟩,hw,ho,λs1 es1 e v4 H4 g4 hv4=>?_,λb e=>by rw [hr1] at e;cases e⟩;rw [hr1] at e;cases e;obtain⟨q4,sa4,ea4,rfl,f1,f2,_⟩:=hv4;exact⟨q4,rfl,_,ir.of f1,sa4,zA _ _,_,_,_,_,av,rfl,g3.trans g4,t3.trans (iT.of g4),g4 _ _ e3,f2,g4 _ _ hp3,ha3.mono (iT.of g4),by lia,hr4⟩
   | hole tt=>
    have hx:H2 xa=some (.tup [tx [104,111,108,101],tx tt]):=hx;have hx:=t3 _ _ hx;obtain⟨rfl,rfl⟩:=hn
    walk_at"i";refine⟨_,ir.of hx,_,zA _ _,rfl,?_⟩;rw [ub (zG (by decide))]
    walk_at"i";refine⟨_,ir.of hx,_,zA _ _,rfl,?_⟩;rw [ub (zG (by decide))]
    walk_at"i";refine⟨_,ir.of hx,_,zA _ _,rfl,?_⟩;rw [ub (zG (by decide))]
    walk_at"d";exact⟨_,_,_,_,av,rfl,g3,t3,e3,⟨sa,so,rfl,hs1,hs2⟩,hp3,ha3,by lia,hr4⟩
   | into w1 n1 m1=>
    have hx:H2 xa=some (.tup [tx [105,110,116,111],tx w1,tx n1,tx m1]):=hx;have hx:=t3 _ _ hx;obtain⟨rfl,rfl⟩:=hn
    walk_at"i";refine⟨_,ir.of hx,_,zA _ _,rfl,?_⟩;rw [ub (zG (by decide))]
    walk_at"i";refine⟨_,ir.of hx,_,zA _ _,rfl,?_⟩;rw [ue (by rfl)]
    walk_at"d";have tp:iT H3 (upd H3 p (.lst (av++[.ref so]))):=iT.upd hp3;refine⟨.inl ⟨rfl,_,iA.of hp3⟩,_,ir.of hs1,.ref so,rfl,av,hp3,by lia,?_⟩
    walk_at"d";refine⟨s',⟨sa,so,rfl,tp _ _ hs1,tp _ _ hs2⟩,λv4 H4 g4 hv4=>?_⟩;have tp4:=tp.trans (iT.of g4);refine⟨_,_,_,_,av++[.ref so],rfl,fX.trans (ym hH g3) g4,t3.trans tp4,g4 _ _ (by rw [zk hpD.symm];exact e3),hv4,g4 _ _ zb,?_,by simp;lia,hr4⟩;rw [Up];exact(ha3.mono tp4).snoc ⟨so,rfl,tp4 _ _ hs2⟩
   | out=>
    have hx:H2 xa=some (.tup [tx [111,117,116]]):=hx;have hx:=t3 _ _ hx;obtain⟨o,rfl,hol,rfl⟩:=hn;rw [Up] at ha3;obtain⟨pU,ov,rfl,ha1,oa,rfl,hoa⟩:=ha3.unsnoc
    walk_at"i";refine⟨_,ir.of hx,_,zA _ _,rfl,?_⟩;rw [ub (zG (by decide))]
    walk_at"i";refine⟨_,ir.of hx,_,zA _ _,rfl,?_⟩;rw [ub (zG (by decide))]
    walk_at"i";refine⟨_,ir.of hx,_,zA _ _,rfl,?_⟩;rw [ue (by rfl)]
    walk_at"d";have tp:iT H3 (upd H3 p (.lst pU)):=iT.upd hp3;have hs1':=tp _ _ hs1;refine⟨_,ir.of hs1,_,zA _ _,_,ir.of hs1,_,jH _ _ _,.inl ⟨rfl,_,iA.of hp3⟩,_,hp3,.ref oa,by simp,?_⟩;rw [gc];refine⟨_,ir.of hs1',.ref so,rfl,oa,rfl,so,rfl,_,tp _ _ hoa,_,tp _ _ hs2,by rw [uk,uk];lia,λp2 H4 g4 e4=>?_⟩;refine⟨_,ir.of (g4 _ _ hs1'),tx s'.talk,rfl,λp5 hp5=>?_⟩;have g5:=za (o:=.tup [tx s'.mode,tx s'.word,.ref p2,tx s'.talk]) hp5;have g45:=g4.trans g5;have tp4:=tp.trans (iT.of g45);refine⟨_,_,{ s' with opens:=o++s'.opens },a2,pU,rfl,fX.trans (ym hH g3) g45,t3.trans tp4,g45 _ _ (by rw [zk hpD.symm];exact e3),⟨p5,p2,rfl,zb,?_⟩,g45 _ _ zb,ha1.mono tp4,by simp at hl3;lia,hr4⟩;show _=some (HO.tup ((o++s'.opens).map tx));rw [UG];exact g5 _ _ e4
  ·rintro σ H3 ⟨sv,o4,s',a',av,rfl,g3,t3,e3,hs3,hp3,ha3,hl3,hr3⟩
   walk_at"d";rw [List.drop_of_length_le (by lia)] at hr3;cases hr3;exact q sv H3 g3 hs3
theorem Tf (T:Txt w K mg t)(D:Df K mg "_law_two" Q2 vm)(aR:ig P w K mg fY 2 "walked" vQ ku)(aJ:ig P w K mg fY 9 "state_at" wR vp):ig P w K mg fY 40 "_law_two" vm yM:=by
 refine D.ok WG ?_ ?_;walk_at"b"
 ·refine ex8 h λpa da ps w0 Tn n T2 n2 h=>?_;refine C2 h λhp hd ht hT hn ht2 hT2 hn2 hm q=>?_;refine⟨_,(zc (wG PassesOwn.never (by rfl) (ES (K:=K) (by rfl) (zh (ip (iy K (qv 1) ze) (iy K (qv 1) ze)))) (ly 2 WG.nd) (zd (zm (iw Ba (zK (xH (K:=K) (by rfl)) (by rfl) T.z_len yQ (iu (qF aR hr (ip (qv 0) (qv 2))))) (iy K (qv 2) ze)) (zd (zg WC)) zi))) (zd (zg (pG (ZA (me hr)) (qF aJ hr (ip (qv 0) (iy K (qv 1) ze))) (qF aJ hr (ip (qv 0) (iy K (qv 1) ze))))))).h,?_⟩;obtain⟨px,vs,e,hx,v0,r0,rfl,⟨rfl,_⟩,v1,r1,rfl,hw1,v2,r2,rfl,hpl,v3,r3,rfl,hpl2,rfl⟩:=hd;cases e;obtain⟨pl,rfl,l,h1,h2⟩:=Dw hpl;obtain⟨pl2,rfl,l2,h3,h4⟩:=Dw hpl2;obtain⟨s,s2,hM,hM2,hne⟩:=hm;obtain⟨A,R,a,hA,hout,_,hrn⟩:=hM.at'.ex;obtain⟨A2,R2,a2,hA2,hout2,_,hrn2⟩:=hM2.at'.ex;have sz:=hp.2.2;have et:(out (ij ps) Tn).take n=A.map nG:=by rw [hout];exact GX (by rw [uk,hA])
  have et2:(out (ij ps) T2).take n2=A2.map nG:=by rw [hout2];exact GX (by rw [uk,hA2])
  walk_at"r";refine⟨_,ir.of hx,_,Zr _ _ _ _,_,ir.of hx,_,VL _ _ _ _ _,λp hp0=>⟨⟨_,ir.of zb⟩,?_⟩⟩;have k0:=za (o:=.tup [V.ref pl,V.ref pl2]) hp0;refine DL (xs:=[V.ref pl,V.ref pl2]) (λ_ σ H'=>∃ o3,σ=[some (.ref pa),some (.ref da),o3]/\fX (upd H p (.tup [V.ref pl,V.ref pl2])) H') ⟨_,rfl,fX.refl _⟩ ?_ ?_ ?_
  ·rintro i σ H1 _ ⟨o3,rfl,g⟩;exact ir.of (g _ _ zb)
  ·rintro i x σ H1 hi ⟨o3,rfl,g⟩
   obtain⟨qa,lq,Tq,nq,Aq,rfl,f1,f2,f3,f4,f5,f6,f7⟩:∃ (qa lq:Addr) (Tq:Ld) (nq:Nat) (Aq:List Th),x=.ref qa/\H qa=some (.tup [.ref lq,.int nq])/\H lq=some (.lst (Tq.map λ(t:Nat)=>V.int t))/\(∀ t∈Tq,t<2)/\Tq.length<=10001/\nq<=10000/\(out (ij ps) Tq).take nq=Aq.map nG/\Aq.length=nq:=by
    have:i=0\/i=1:=by have:=(ur.mp hi).1;simp at this;lia
    rcases this with rfl | rfl
    ·cases hi;exact⟨pl,l,Tn,n,A,rfl,h1,h2,ht,hT,hn,et,hA⟩
    ·cases hi;exact⟨pl2,l2,T2,n2,A2,rfl,h3,h4,ht2,hT2,hn2,et2,hA2⟩
   have G:=k0.trans g
   walk_at"r";refine⟨lq,ps,hp.1.mono G,Tq,nq,G _ _ f1,G _ _ f2,f3,by lia,by lia,by lia,λD H2 nD g2 hD=>?_⟩;rw [f6] at hD;obtain⟨D',ws,e,eD,hw⟩:=hD;cases e;have lw:ws.length=nq:=by rw [← hw.len,uk,f7]
   exact⟨ws,.inl (iA.of eD),_,ir.of (g2 _ _ (G _ _ f1)),_,jH _ _ _,rfl,K4 (by rw [lw];simp) (g.trans g2)⟩
  ·rintro σ H1 ⟨o3,rfl,g⟩;have G:=k0.trans g
   walk_at"r";refine⟨_,ir.of (G _ _ hx),_,Zr _ _ _ _,pl,rfl,l,ps,hp.1.mono G,Tn,n,G _ _ h1,G _ _ h2,ht,by lia,by lia,by lia,A,et,by lia,s,⟨a,hrn⟩,λv H2 g2 hs=>?_⟩;have G2:=G.trans g2;refine⟨_,ir.of (G2 _ _ hx),_,VL _ _ _ _ _,pl2,rfl,l2,ps,hp.1.mono G2,T2,n2,G2 _ _ h3,G2 _ _ h4,ht2,by lia,by lia,by lia,A2,et2,by lia,s2,⟨a2,hrn2⟩,λv2 H3 g3 hs2=>?_⟩;have hs3:=hs.mono g3;obtain⟨p1,o1,rfl,_⟩:=id hs;obtain⟨p2,o2,rfl,_⟩:=id hs2;refine⟨dS s,dS s2,p1,rfl,p2,rfl,hs3.dat,hs2.dat,mH _,?_⟩;rw [Jy,uF hne];exact q _ (G2.trans g3)
theorem YU (T:Txt w K mg t)(D:Df K mg "_law_right" kX wt)(ae:ig P w K mg fY 1 "_law_mix" qy qT)(aS:ig P w K mg fY 41 "_law_made" j7 xw)(cn:ig P w K mg fY 61 "_law_due" vk yK)(aj:ig P w K mg fY 63 "_law_looked" qX jw)(cp:ig P w K mg fY 40 "_law_two" vm yM):ig P w K mg fY 65 "_law_right" wt xW:=by
 refine D.ok xU ?_ ?_;walk_at"b"
 ·refine nU h λc wd h=>?_;refine mS h λhwd q=>?_;refine⟨_,(zc (iC 2 xU.nd (iy K (qF aS hr (ip (qv 0) (zl (iu (zl (iH (zr qZ ze (qF ae hr (iH (qv 0) ze ze))) (qv 1) (qS [122,122]))))))) ze)) (zc (iC 3 xU.nd (qF cn hr (iH (qv 2) (qv 1) (qS [122,122])))) (zc (iC 4 xU.nd (qF aj hr (iu (qv 2)))) (zc (zm (QW.qt (Xx (iw (ZA (me hr)) (qv 4) (qv 3)) (Xx (vW (jM (zK (S8 (K:=K) (n:="tuple") (by rfl)) (by rfl) T.z_isinstance zU (ip (iy K (qv 4) ze) (DV (v:=.ty "tuple") T.z_tuple PH (by rfl)))))) (Yj (vW (jM (qF cp hr (ip (qv 2) (qv 3))))))))) (zd (zg WC)) zi) (zc (xc (vy (K:=K) (by rfl) uL u7 u9 j4 (iy K (iy K (qv 4) ze) ze) (iu ze))) (zc (xc (vy (K:=K) (by rfl) uL u7 u9 j4 (iy K (iy K (qv 4) ze) ze) (iu ze))) (zd (zg (pG (V9 (me hr)) (qF aj hr (iu (qv 2))) (qv 3)))))))))).h,?_⟩
  walk_at"d";intro H1 g1 p h1 pa h2;have a1:=za (o:=.lst [V.int (1+((iI c 11 14:Nat):Int)),V.str (S (Qm wd)),V.str (S [122,122])]) h1;have a2:=za (o:=.lst [V.ref p]) h2;have np:pa≠p:=λy=>by rw [y,zb] at h2;cases h2
  refine⟨[p],[(1+((iI c 11 14:Nat):Int),wd,[122,122])],⟨zb,λy=>np (uD.mp y),by simp,.cons (a2 _ _ zb) .nil,λy hy=>(by cases uD.mp hy;exact .inl rfl),by simp⟩,λy hy=>(by cases uD.mp hy;show(1+((iI c 11 14:Nat):Int)) > 0;lia),λr ps z L' H2 hr res z1 z2 bz=>?_⟩;obtain⟨rp,p',fa,da,xs,rfl,hp',hds,hda,np',nd,hxl⟩:=hr;have G:fX H H2:=λb o e=>rp.old (λy=>by cases uD.mp y;rw [none_of g1 h1] at e;cases e) ((g1.trans (a1.trans a2)) _ _ e);have hd:=hds.mono vn;cases res with
  | ok hok=>cases z2 rfl
  | @bad wd' mk kk r0 hm hbad hkk=>
   cases uD.mp (z1 _ rfl);have hb:oS 3 zE ps wd [122,122] kk r0:=hbad;have hlk:qP ps=.error (mq wd [122,122] (pV kk) r0):=by have:=Oy (qs:=[]) hb (by decide);rwa [uj] at this
   have rd:∀ {H':Hp},fX H2 H'->pW 5 H' (.ref fa) ps:=λg=>⟨hd.mono g,by have:=bz.dp;lia,by have:=bz.sz;lia⟩
   have lk:∀ {H':Hp},fX H2 H'->sE H' (.ref fa) ps:=λg=>⟨hd.mono g,bz.nm,by have:=bz.dp;lia,by have:=bz.sz;lia,by have:=bz.tx;lia⟩
   obtain⟨b1,b2⟩:=ky _ _ _ hb.path;have b3:=vo _ _ _ hb.path;have bs:=bz.sz;have bt:=bz.tx
   obtain⟨w0,Tn,n,T2,n2,ef,ht,hTn,hn,ht2,hT2,hn2⟩:∃ w0 Tn n T2 n2,mq wd [122,122] (pV kk) r0=.unlike w0 Tn n T2 n2/\(∀ t∈Tn,t<2)/\Tn.length<=10001/\n<=10000/\(∀ t∈T2,t<2)/\T2.length<=10001/\n2<=10000:=by
    have q0:∀ (t:Nat),t<2->∀ x∈r0.1++[t],x<2:=λt h x hx=>by
     rcases u6.mp hx with hx | hx
     ·exact b1 x hx
     ·cases uD.mp hx;exact h
    rcases hwd with rfl | rfl | rfl
    ·exact⟨_,_,_,_,_,rfl,q0 0 (by decide),by simp;lia,by lia,q0 1 (by decide),by simp;lia,by lia⟩
    ·exact⟨_,_,_,_,_,rfl,q0 0 (by decide),by simp;lia,by lia,q0 1 (by decide),by simp;lia,by lia⟩
    ·exact⟨_,_,_,_,_,rfl,b1,by lia,by lia,b1,by lia,by lia⟩
   refine⟨p',rfl,_,ir.of hp',_,zA _ _,?_⟩
   walk_at"d";refine⟨ps,wd,rfl,rd (fX.refl _),kk,r0,hb.path,.inl rfl,hkk,λe=>(by rcases hwd with rfl | rfl | rfl<;>cases e),λv H3 g3 hv=>?_⟩
   walk_at"d";refine⟨ps,lk g3,λr1 H4 g4 hre hd4=>?_⟩;have hrv:=hre _ hlk;rw [hlk] at hd4;obtain⟨x,rfl⟩:=MM hv
   walk_at"i";refine⟨_,hd4,_,hv.mono g4,Zl _,?_⟩;rw [wY hd4.flat];have hm:=MK hlk (λT n=>by rw [ef];nofun) (by lia);rw [ef] at hrv hv hd4 hm;obtain⟨aw,p5,p6,e5,haw,hp5,hp6⟩:=hrv;refine K4 (by decide) ⟨_,ir.of e5,_,jH _ _ _,_,.tup haw,true,rfl,K4 (by decide) ⟨ps,rd (g3.trans g4),w0,Tn,n,T2,n2,hv.mono g4,ht,hTn,hn,ht2,hT2,hn2,hm,λH5 g5=>?_⟩⟩;obtain⟨l,z0,e6,e7⟩:=hp5;obtain⟨l2,z3,e8,e9⟩:=hp6;have e7':=g5 _ _ e7;have t1:=iT.upd (ys:=((Tn.map λ(t:Nat)=>V.int t)++[.int 0])) e7'
   obtain⟨x9,e10,l10⟩:∃ xs,upd H5 l (.lst ((Tn.map λ(t:Nat)=>V.int t)++[.int 0])) l2=some (.lst xs)/\xs.length<16777216:=by
    by_cases h:l2=l
    ·subst h;exact⟨_,zb,by simp;lia⟩
    ·exact⟨_,(zk h).trans (g5 _ _ e9),by simp;lia⟩
   have gz:fX H3 (upd (upd H5 l (.lst ((Tn.map λ(t:Nat)=>V.int t)++[.int 0]))) l2 (.lst (x9++[.int 0]))):=ym z3 (ym z0 (g4.trans g5))
   walk_at"d";refine⟨_,ir.of (g5 _ _ e5),_,Zr _ _ _ _,p5,rfl,_,ir.of (g5 _ _ e6),_,zA _ _,.inl ⟨rfl,_,iA.of e7'⟩,l,rfl,_,e7',by simp;lia,?_⟩
   walk_at"d";refine⟨_,ir.of (t1 _ _ (g5 _ _ e5)),_,VL _ _ _ _ _,p6,rfl,_,ir.of (t1 _ _ (g5 _ _ e8)),_,zA _ _,.inl ⟨rfl,_,iA.of e10⟩,l2,rfl,_,e10,l10,?_⟩
   walk_at"d";refine⟨ps,lk (g3.trans gz),λr2 H6 h6 _ hd6=>?_⟩;rw [hlk,ef] at hd6;refine⟨_,hd6,_,hv.mono (gz.trans h6),Zl _,?_⟩;rw [wY hd6.flat];exact q _ (G.trans (g3.trans (gz.trans h6)))
theorem zaM (T:Txt w K mg t)(D:Df K mg "_law_left" ZX xm)(ar:ig P w K mg fY 40 "_law_pass" zQ (qk 5))(ae:ig P w K mg fY 1 "_law_mix" qy qT)(aS:ig P w K mg fY 41 "_law_made" j7 xw)(aj:ig P w K mg fY 63 "_law_looked" qX jw)(aJ:ig P w K mg fY 9 "state_at" wR vp)(aO:ig P w K mg fY 2 "is_end" vP kl):ig P w K mg fY 65 "_law_left" xm vN:=by
 refine D.ok vE ?_ ?_;walk_at"b"
 ·refine sL h λc h=>?_;refine pU h λq=>?_;refine⟨_,(zc (iC 1 vE.nd (zr qx (iy K (qF aS hr (ip (qv 0) (zl zC))) ze) (zl (iu (zh (ip (qS fN) (mQ K (zl (mK (qS [60,117,62]) (qS [38]) (qS [60,117]) (qS [60,117,32,98,61,34,99,34,32]) (qS [60,97,115,105,115,62,60,47]))) (qF ae hr (iH (qv 0) ze ze))))))))) (zc (iC 2 vE.nd (qF ar hr (iu (qv 1)))) (zc (iC 3 vE.nd (qF aj hr (iu (qv 1)))) (zc (zm (QW.qt (Xx (iw (ZA (me hr)) (qv 3) (zh (ip (qS fU) (qv 2)))) (Yj (jM (qF aO hr (iu (qF aJ hr (ip (qv 1) (qv 2))))))))) (zd (zg WC)) zi) (zc (xc (vy (K:=K) (by rfl) uL u7 u9 j4 (iy K (iy K (qv 3) ze) ze) (iu ze))) (zd (zg (pG (V9 (me hr)) (qF aj hr (iu (qv 1))) (zh (ip (qS fU) (qv 2))))))))))).h,?_⟩
  walk_at"d";intro p hp0;have a0:=za (o:=.lst []) hp0;refine⟨[],[],⟨zb,by simp,by simp,.nil,λy hy=>(by cases hy),by simp⟩,λy hy=>(by cases hy),λr ps z L' H2 hr res z1 z2 bz=>?_⟩;obtain⟨rp,p',fa,da,xs,rfl,hp',⟨_,vs,e,hfa,hds⟩,hda,np',nd,hxl⟩:=hr;cases e;have G:fX H H2:=λb o e=>rp.old (λy=>(by cases y)) (a0 _ _ e);refine⟨p',rfl,_,ir.of hp',_,zA _ _,λp1 h1 H3 g3=>?_⟩;have a1:=za (o:=.lst (rf.map tx)) h1;have m1:=Q7 (c:=c) (k:=12) (m:=5) (by decide);have m2:iI c 12 5<rf.length:=by show _<5;lia
  obtain⟨tl,htl,hix⟩:∃ tl∈rf,(rf.map tx)[iI c 12 5]? = some (tx tl):=⟨rf[iI c 12 5]'m2,Ui _,by rw [Uk,uy m2];rfl⟩
  refine⟨_,iA.of (g3 _ _ zb),_,hix,λq1 i1 q2 i2=>?_⟩;have b1:=za (o:=.tup [V.str (S [108,105,116]),tx tl]) i1;have b2:=za (o:=.lst [V.ref q1]) i2;have G3:=a1.trans g3;have l1:=hds.len;rw [qw] at l1;have l2:=xq ps;have l3:=bz.sz;refine⟨fa,rfl,vs,(b1.trans b2) _ _ (G3 _ _ (vn _ _ hfa)),_,zb,by simp;lia,λq3 i3=>?_⟩;have b3:=za (o:=.lst (vs++[V.ref q1])) i3;cases res with
  | bad _ _ _=>cases z1 _ rfl
  | ok hok=>
   have G5:=G3.trans (b1.trans (b2.trans b3));have hd:ic _ (.ls (iM (ps++[.lit tl]))) (.ref q3):=⟨q3,_,rfl,zb,by rw [xp];exact(hds.mono (vn.trans G5)).app (Z1 ((b2.trans b3) _ _ zb))⟩
   have bz':=bz.app (xO (n:=4) (DA tl htl).2);have c1:=bz'.dp;have c2:=bz'.sz;have c3:=bz'.tx;have c4:=xx (ps++[.lit tl]);have c5:=JD (ps++[.lit tl]);obtain⟨hlk,A,s,et,hA,hrn,hne⟩:=MJ hok htl (by lia)
   walk_at"d";refine⟨ps++[.lit tl],⟨hd,by lia,by lia⟩,λr H6 g6 hpl=>?_⟩
   walk_at"d";refine⟨_,⟨hd.mono g6,bz'.nm,by lia,by lia,by lia⟩,λr1 H7 g7 hre hd7=>?_⟩
   walk_at"i";intro j1 k1;have hrv:=hre _ hlk;rw [hlk] at hd7;have d1:=za (o:=.tup [V.str (S [108,101,102,116]),V.ref r]) k1;have hx:ic _ (nZ (.error (.left (zu (ps++[.lit tl])).1 (zu (ps++[.lit tl])).2))) (.ref j1):=⟨j1,_,rfl,zb,_,_,rfl,⟨rfl,rfl⟩,_,_,rfl,(hpl.mono (g7.trans d1)).dt,rfl⟩
   refine⟨_,hd7.mono d1,_,hx,Zl _,?_⟩;rw [wY hx.flat];have G7:=g6.trans (g7.trans d1);have hpl0:=hpl;obtain⟨le,pe1,pe2⟩:=hpl;refine K4 (by decide) ⟨le,ps++[.lit tl],hd.mono G7,_,_,(g7.trans d1) _ _ pe1,(g7.trans d1) _ _ pe2,c5,by lia,by lia,by lia,A,et,by lia,s,⟨[],hrn⟩,λv H8 g8 hs=>⟨s,hs,λH9 g9=>K4 hne ?_⟩⟩;obtain⟨pf,ef,lf,z0,ee,ee2⟩:=hrv;have G9:=d1.trans (g8.trans g9);have gz:fX H6 (upd H9 lf (.lst (((zu (ps++[.lit tl])).1.map λ(t:Nat)=>V.int t)++[.int 0]))):=ym z0 (g7.trans G9)
   walk_at"d";refine⟨_,ir.of (G9 _ _ ef),_,jH _ _ _,pf,rfl,_,ir.of (G9 _ _ ee),_,zA _ _,.inl ⟨rfl,_,iA.of (G9 _ _ ee2)⟩,lf,rfl,_,G9 _ _ ee2,by rw [uk];lia,?_⟩
   walk_at"d";refine⟨_,⟨hd.mono (g6.trans gz),bz'.nm,by lia,by lia,by lia⟩,λr2 H10 g10 _ hd10 j2 k2=>?_⟩;rw [hlk] at hd10;have d2:=za (o:=.tup [V.str (S [108,101,102,116]),V.ref r]) k2;have hx2:ic _ (nZ (.error (.left (zu (ps++[.lit tl])).1 (zu (ps++[.lit tl])).2))) (.ref j2):=⟨j2,_,rfl,zb,_,_,rfl,⟨rfl,rfl⟩,_,_,rfl,(hpl0.mono (gz.trans (g10.trans d2))).dt,rfl⟩
   refine⟨_,hd10.mono d2,_,hx2,Zl _,?_⟩;rw [wY hx2.flat];exact q _ (G.trans (G5.trans (g6.trans (gz.trans (g10.trans d2)))))
def lwI (a:Addr)(H:Hp)(σ:L2.St)(H':Hp):Prop:=∃ (o1 o2 o3 o4 o5:Option V),σ=[some (.ref a),o1,o2,o3,o4,o5]/\fX H H'
theorem Mc (T:Txt w K mg t)(D:Df K mg "law" AV Yu)(cq:ig P w K mg fY 1 "_law_cell" xj (vH K))(cu:ig P w K mg fY 65 "_law_right" wt xW)(cv:ig P w K mg fY 65 "_law_left" xm vN)(aj:ig P w K mg fY 63 "_law_looked" qX jw):ig P w K mg fY 66 "law" Yu (Wo K):=by
 refine D.ok kZ ?_ ?_;walk_at"b"
 ·refine nU h λa is h=>?_;refine nK h λhS h63 q=>?_;refine⟨_,(zc (wG PassesOwn.never (by rfl) (VJ (by rfl) T.z_range (iu (zK (SS (by rfl)) (by rfl) T.z_max LO (ip ze (zK (SR (by rfl)) (by rfl) T.z_min LN (ip (zK (xH (K:=K) (by rfl)) (by rfl) T.z_len yQ (iu (qv 0))) ze)))))) (ly 1 kZ.nd) (zc (iC 2 kZ.nd (qF cq hr (ip (qv 0) (qv 1)))) (zc (wG PassesOwn.never (by rfl) (ES (K:=K) (by rfl) (zh (iH (qS fK) (qS fJ) (qS fL)))) (ly 3 kZ.nd) (zd (zm (vW (jM (qF cu hr (ip (zr qZ (zr OW (qv 2) ze) (zK Z4 (by rfl) T.z_len yQ (iu (qv 3)))) (qv 3))))) (zd (zg WC)) zi))) (zd (zm (vW (jM (qF cv hr (iu (qv 2))))) (zd (zg WC)) zi))))) (zc (iC 4 kZ.nd (zl (ip (zh (ip (qS fN) (qS [60,97,62]))) (zh (lr (qS fK) (qS [105]) (zl (iu (zh (ip (qS fN) (qS [120,60,47,97,62]))))) (zl (ip (zh (iH (qS fJ) (qS [101]) (zl (iu (zh (ip (qS fN) (qS [121]))))))) (zh (ip (qS fN) (qS [122])))))))))) (zc (zm (iw (ZA (me hr)) (qF aj hr (iu (qv 4))) (zh (lr (qS fT) (zh (ip (qS fK) (qS [105]))) (zh (ip (zl (iu ze)) ze)) (zh (ip (zl (ip ze ze)) ze))))) (zd (zg WC)) zi) (zc (wG PassesOwn.never (by rfl) (wo (K:=K) (by rfl) (zl (iH (zh (ip (qS fQ) (qS []))) (zh (ip (qS [98,108,111,99,107]) (qS [113]))) (zh (ip (qS [101,108,100,101,114]) (qS [114])))))) (vV (n:=2) (by rfl) (zI (ly 3 kZ.nd) (zI (ly 5 kZ.nd) xb))) (zc (iC 4 kZ.nd (zl (ip (zh (mK (qS fL) (qv 3) (qS [112]) (qv 5) (zl (iu (zh (ip (qS fN) (qS [60,117,62]))))))) (zh (ip (qS fN) (qS [120])))))) (zd (zm (iw (ZA (me hr)) (qF aj hr (iu (qv 4))) (zh (lr (qS fT) (zh (lr (qS fL) (qv 3) (qS [112]) (qv 5))) (zh (ip (zl zC) ze)) (zh (ip (zl zC) ze))))) (zd (zg WC)) zi)))) (zc (iC 4 kZ.nd (zl (ip (zh (iH (qS fJ) (qS [101]) (zl (ip (zh (lr (qS fK) (qS [105]) (zl zC) (zl (iu (zh (ip (qS fN) (qS [120]))))))) (zh (ip (qS fN) (qS [60,98,62]))))))) (zh (ip (qS fN) (qS [119])))))) (zd (zg (pG (V9 (me hr)) (qF aj hr (iu (qv 4))) (zh (lr (qS fT) (zh (ip (qS fJ) (qS [101]))) (zh (ip (zl (iu ze)) ze)) (zh (ip (zl (ip ze ze)) ze)))))))))))).h,?_⟩
  walk_at"d";refine⟨_,.inl hS,?_⟩;rw [uk];generalize hn0:(if (if (8:Int)<(is.length:Int) then 8 else(is.length:Int)) > 2 then if (8:Int)<(is.length:Int) then 8 else(is.length:Int) else 2)=n0;have hb:0<=n0/\n0<=8:=by rw [← hn0];split<;>(try split)<;>lia
  refine⟨by lia,by lia,?_⟩;refine Ko (λ_ σ H'=>lwI a H σ H') ⟨_,_,_,_,_,rfl,fX.refl _⟩ ?_ ?_
  ·rintro i σ H1 hi ⟨o1,o2,o3,o4,o5,rfl,g1⟩
   walk_at"d";refine⟨is,g1.seq hS,h63,by lia,λc H2 g2=>?_⟩
   walk_at"d";refine λp hp=>⟨⟨_,ir.of zb⟩,?_⟩
   have k0:=za (o:=.tup [V.str (S [105,102]),V.str (S [101,97,99,104]),V.str (S [115,101,97,116])]) hp;refine DL (xs:=[V.str (S [105,102]),V.str (S [101,97,99,104]),V.str (S [115,101,97,116])]) (λ_ σ H'=>∃ o3,σ=[some (.ref a),some (.int i),some (.int c),o3,o4,o5]/\fX (upd H2 p (.tup [V.str (S [105,102]),V.str (S [101,97,99,104]),V.str (S [115,101,97,116])])) H') ⟨_,rfl,fX.refl _⟩ ?_ ?_ ?_
   ·rintro j σ H3 _ ⟨o3,rfl,g⟩;exact ir.of (g _ _ zb)
   ·rintro j x σ H3 hj ⟨o3,rfl,g⟩
    obtain⟨wd,rfl,hwd⟩:∃ wd,x=.str (S (Qm wd))/\(wd=.ife\/wd=.each\/wd=.seat):=by
     have:j=0\/j=1\/j=2:=by have:=(ur.mp hj).1;simp at this;lia
     rcases this with rfl | rfl | rfl<;>cases hj
     ·exact⟨.ife,rfl,.inl rfl⟩
     ·exact⟨.each,rfl,.inr (.inl rfl)⟩
     ·exact⟨.seat,rfl,.inr (.inr rfl)⟩
    walk_at"r";exact⟨⟨by decide,by decide⟩,by rcases hwd with rfl | rfl | rfl<;>decide,wd,rfl,hwd,λH4 g4=>g.trans g4⟩
   ·rintro σ H3 ⟨o3,rfl,g⟩
    walk_at"d";exact λH4 g4=>⟨_,_,_,_,_,rfl,g1.trans (g2.trans (k0.trans (g.trans g4)))⟩
  ·rintro σ H1 ⟨o1,o2,o3,o4,o5,rfl,g1⟩
   walk_at "ho";refine Bp (by walk_at "ds") λr0 H2 _ d0=>?_
   walk_at "ho";refine tS λT_ U_ hT hU=>?_;generalize hG:nB _=G
   walk_at"r";refine⟨[.lit [60,97,62],.ife [105] [.lit [120,60,47,97,62]] [.each [101] [.lit [121]],.lit [122]]],⟨d0,by decide,by decide,by decide,by decide⟩,λr H3 g3 _ hr=>?_⟩;rw [show qP [.lit [60,97,62],.ife [105] [.lit [120,60,47,97,62]] [.each [101] [.lit [121]],.lit [122]]]=.error (.unlike [[105,102],[105]] [0] 2 [1,0] 2) by rfl] at hr;subst hG;refine Bq (B:=H3) (by walk_at "ds") λv H4 g4 hx=>?_;have hx:ic H4 (nZ (.error (.unlike [[105,102],[105]] [0] 2 [1,0] 2))) (.ref v):=hx.mono vn;refine⟨_,_,_,rfl,hr.mono g4,hx,Zl _,?_⟩;rw [ub (by rw [wY hx.flat];decide)]
   walk_at "ho";generalize hG:om _=G
   walk_at"r";subst hG;refine Dz (B:=H4) (by walk_at "ds") λv H5 g5 hx=>?_;obtain⟨u3,vs,e,e3,hx⟩:=hx.mono vn;cases e;refine⟨_,rfl,⟨_,iA.of e3⟩,xQ (xs:=vs) (λ_ σ H'=>∃ o3 o4 o5,σ=[some (.ref a),o1,o2,o3,o4,o5]/\fX H5 H') ⟨_,_,_,rfl,fX.refl _⟩ ?_ ?_ ?_⟩
   ·rintro j σ H3 _ ⟨o3,o4,o5,rfl,g⟩;exact iA.of (g _ _ e3)
   ·rintro j x σ H6 hj ⟨o3,o4,o5,rfl,g6⟩
    obtain⟨ux,wx,bx,rfl,hu,run2,lk2⟩:∃ ux wx bx,x=.ref ux/\H6 ux=some (.tup [tx wx,tx bx])/\qP [.seat wx [112] bx [.lit [60,117,62]],.lit [120]]=.error (.unlike [WH,wx,[112],bx] [] 1 [] 2)/\lh.nmB [.seat wx [112] bx [.lit [60,117,62]],.lit [120]]=true/\iQ.dpB [.seat wx [112] bx [.lit [60,117,62]],.lit [120]]<5/\ik [.seat wx [112] bx [.lit [60,117,62]],.lit [120]]<=10000/\iD [.seat wx [112] bx [.lit [60,117,62]],.lit [120]]<=50000:=by
     obtain⟨d,hd,hu⟩:=(hx.mono g6).get hj;have:j=0\/j=1\/j=2:=by have:=(ur.mp hd).1;simp at this;lia
     rcases this with rfl | rfl | rfl<;>cases hd<;>obtain⟨ux,_,rfl,hu,_,_,rfl,⟨rfl,_⟩,_,_,rfl,⟨rfl,_⟩,rfl⟩:=hu<;>exact⟨ux,_,_,rfl,hu,by rfl,by decide⟩
    generalize hB:i7 _ _=B
    walk_at"r";refine⟨_,ir.of hu,rfl,_,_,rfl,_,_,rfl,rfl,?_⟩;subst hB
    walk_at "ho";refine Bp (by walk_at "ds") λr0 H2 m d0=>?_
    walk_at "ho";refine tS λT_ U_ hT hU=>?_;generalize hG:nB _=G
    walk_at"r";refine⟨[.seat wx [112] bx [.lit [60,117,62]],.lit [120]],⟨d0,lk2⟩,λr H3 g3 _ hr=>?_⟩;rw [run2] at hr;subst hG;refine Bq (B:=H3) (by walk_at "ds") λv H4 g4 hx=>?_;have hx:ic H4 (nZ (.error (.unlike [WH,wx,[112],bx] [] 1 [] 2))) (.ref v):=hx.mono vn;refine⟨_,_,_,rfl,hr.mono g4,hx,Zl _,?_⟩;rw [ub (by rw [wY hx.flat];decide)]
    walk_at"d";exact g6.trans (m.trans (g3.trans g4))
   ·rintro σ H3 ⟨o3,o4,o5,rfl,_⟩
    walk_at "ho";refine Bp (by walk_at "ds") λr0 H2 _ d0=>?_
    walk_at "ho";generalize hG:nB _=G
    walk_at"r";refine⟨[.each [101] [.ife [105] [] [.lit [120]],.lit [60,98,62]],.lit [119]],⟨d0,by decide,by decide,by decide,by decide⟩,λr H3 g3 _ hr=>?_⟩;rw [show qP [.each [101] [.ife [105] [] [.lit [120]],.lit [60,98,62]],.lit [119]]=.error (.unlike [[101,97,99,104],[101]] [0] 0 [1,0] 1) by rfl] at hr;subst hG;refine Bq (B:=H3) (by walk_at "ds") λv H4 g4 hx=>?_;have hx:ic H4 (nZ (.error (.unlike [[101,97,99,104],[101]] [0] 0 [1,0] 1))) (.ref v):=hx.mono vn;refine⟨_,_,_,rfl,hr.mono g4,hx,Zl _,?_⟩;rw [wY hx.flat];exact q _
end
end My
set_option maxHeartbeats 0
open PySem L2 PySem.Spec PyProof.Rows
namespace My
theorem len0 {α:Type}{us:List α}(h:us.length=0):us=[]:=List.length_eq_zero_iff.mp h
theorem Cs {α:Type}:∀ {us:List α},us.length=1->∃ a0,us=[a0]
 | [a0],_=>⟨a0,rfl⟩
theorem rV {α:Type}:∀ {us:List α},us.length=2->∃ a0 a1,us=[a0,a1]
 | [a0,a1],_=>⟨a0,a1,rfl⟩
theorem rT {α:Type}:∀ {us:List α},us.length=3->∃ a0 a1 a2,us=[a0,a1,a2]
 | [a0,a1,a2],_=>⟨a0,a1,a2,rfl⟩
theorem tQ {α:Type}:∀ {us:List α},us.length=4->∃ a0 a1 a2 a3,us=[a0,a1,a2,a3]
 | [a0,a1,a2,a3],_=>⟨a0,a1,a2,a3,rfl⟩
theorem Cr {α:Type}:∀ {us:List α},us.length=5->∃ a0 a1 a2 a3 a4,us=[a0,a1,a2,a3,a4]
 | [a0,a1,a2,a3,a4],_=>⟨a0,a1,a2,a3,a4,rfl⟩
theorem Cq {α:Type}:∀ {us:List α},us.length=6->∃ a0 a1 a2 a3 a4 a5,us=[a0,a1,a2,a3,a4,a5]
 | [a0,a1,a2,a3,a4,a5],_=>⟨a0,a1,a2,a3,a4,a5,rfl⟩
theorem Cp {α:Type}:∀ {us:List α},us.length=7->∃ a0 a1 a2 a3 a4 a5 a6,us=[a0,a1,a2,a3,a4,a5,a6]
 | [a0,a1,a2,a3,a4,a5,a6],_=>⟨a0,a1,a2,a3,a4,a5,a6,rfl⟩
local macro_rules | `(tactic| walk_at"v") => `(tactic| (intro _ _ _ _ _ _ us hl; first | (have h := len0 hl; subst h; rfl) | (obtain ⟨_, h⟩ := Cs hl; subst h; rfl) | (obtain ⟨_, _, h⟩ := rV hl; subst h; rfl) | (obtain ⟨_, _, _, h⟩ := rT hl; subst h; rfl) | (obtain ⟨_, _, _, _, h⟩ := tQ hl; subst h; rfl) | (obtain ⟨_, _, _, _, _, h⟩ := Cr hl; subst h; rfl) | (obtain ⟨_, _, _, _, _, _, h⟩ := Cq hl; subst h; rfl) | (obtain ⟨_, _, _, _, _, _, _, h⟩ := Cp hl; subst h; rfl)))
theorem iJ {K:Lf}{mg:La}{h:Heap}(x:Str)(st:Stmt)(ps:Lj)(f:Addr)(pm:Str)(pj:Addr)(X:K.In h)(G:h.Ns mainGlobals mg)
  (b:∀ (kV doc pm:Value) (an:Option Addr) (cdv ct:Value) (us:Lg),us.length=ps.length->bindArgs (PySem.W.fnOf x x (jb st) (zW st) (zf st) .none kV doc pm an cdv ct) ⟨us,[]⟩=pure (ps.zip us):=by walk_at"v")
  (a:PySem.W.nsIn K mainGlobals x=some (some (.ref f)):=by kernel_rfl!) (l:K.lookup f=some ⟨.type "function",none,.func (PySem.W.fnOf x x (jb st) (zW st) (zf st) .none .none .none (.str pm pj) none (.ref (f - 1)) .none),#[]⟩:=by kernel_rfl!)
  (c:PySem.W.codeIn K (.ref (f - 1)) x=true:=by kernel_rfl!) (k:PySem.W.keepIn K (.ref f)=true:=by kernel_rfl!):Df K mg x st ps:=HF X G b a l c k
theorem pe {K:Lf}{C:Addr}{m qual:Str}{st:Stmt}{ps:Lj}(f:Addr)(pm:Value)(cl:mP K C)
  (b:∀ (kV doc pm:Value) (an:Option Addr) (cdv ct:Value) (us:Lg),us.length=ps.length->bindArgs (PySem.W.fnOf m qual (jb st) (zW st) (zf st) .none kV doc pm an cdv ct) ⟨us,[]⟩=pure (ps.zip us):=by walk_at"v")
  (l:K.lookup f=some ⟨.type "function",none,.func (PySem.W.fnOf m qual (jb st) (zW st) (zf st) .none .none .none pm none (.ref (f - 1)) .none),#[]⟩:=by kernel_rfl!)
  (c:PySem.W.codeIn K (.ref (f - 1)) qual=true:=by kernel_rfl!) (k:PySem.W.keepIn K (.ref f)=true:=by kernel_rfl!) (mt:Meth K C m f:=by exact⟨by kernel_rfl!,by kernel_rfl!,by kernel_rfl!⟩):Dm K C m qual st ps:=⟨f,_,Zw l c k,(Zw l c k).binds b,cl,mt⟩
theorem FP {K:Lf}{mg:La}{h:Heap}{C:Addr}{x qual:Str}{st:Stmt}{ps:Lj}(f:Addr)(pm:Value)(X:K.In h)(G:h.Ns mainGlobals mg)
  (b:∀ (kV doc pm:Value) (an:Option Addr) (cdv ct:Value) (us:Lg),us.length=ps.length->bindArgs (PySem.W.fnOf "__init__" qual (jb st) (zW st) (zf st) .none kV doc pm an cdv ct) ⟨us,[]⟩=pure (ps.zip us):=by walk_at"v")
  (a:PySem.W.nsIn K mainGlobals x=some (some (.ref C)):=by kernel_rfl!) (l:K.lookup f=some ⟨.type "function",none,.func (PySem.W.fnOf "__init__" qual (jb st) (zW st) (zf st) .none .none .none pm none (.ref (f - 1)) .none),#[]⟩:=by kernel_rfl!)
  (c:PySem.W.codeIn K (.ref (f - 1)) qual=true:=by kernel_rfl!) (k:PySem.W.keepIn K (.ref f)=true:=by kernel_rfl!) (mk:L2.Mk K C f:=by exact⟨by kernel_rfl!,by kernel_rfl!,by kernel_rfl!,by kernel_rfl!⟩):Dc K mg C x qual st ps:=⟨f,_,Zw l c k,(Zw l c k).binds b,mk,Uv X G a⟩
theorem oy {K:Lf}{C:Addr}{qual:Str}{st:Stmt}{ps:Lj}{f cd:Addr}{pm:Value} (b:∀ (kV doc pm:Value) (an:Option Addr) (cdv ct:Value) (us:Lg),us.length=ps.length->bindArgs (PySem.W.fnOf "__init__" qual (jb st) (zW st) (zf st) .none kV doc pm an cdv ct) ⟨us,[]⟩=pure (ps.zip us)) (a:Wz K C=some (some (.ref f))) (l:K.lookup f=some ⟨.type "function",none,.func (PySem.W.fnOf "__init__" qual (jb st) (zW st) (zf st) .none .none .none pm none (.ref cd) .none),#[]⟩) (c:PySem.W.codeIn K (.ref cd) qual=true) (k:PySem.W.keepIn K (.ref f)=true):oh K C qual st ps:=LF b a l c k
abbrev fZ:PySem.Str:="sealpress.talks"
abbrev f9:PySem.Str:="sealpress.modes"
abbrev ia:PySem.Str:="sealpress.steps"
abbrev ib:PySem.Str:="law_sealpress_k75_unlike_and_left_open"
theorem sk {l:PySem.W.OpenLaw}{w:World}{h:Heap}{mg:La}{fa:Addr}(X:(KH w.params).In h)(G:h.Ns mainGlobals mg)(hfa:mg "law" = some (.ref fa)) : ∃ fd:FuncData,(∀ (s:Shared) (v:Value),BindsTo s fd ⟨[v],[]⟩ [("_law_script",v)])/\∀ base:Heap,(KH w.params).In base->base.Ns mainGlobals mg->iO l.prog w (KH w.params) mg base mJ 66 fa fd ["_law_script"] (Wo (KH w.params)):=by
 have aH:mP (KH w.params) 789:=by constructor<;>kernel_rfl!
 have aZ:mP (KH w.params) 712:=by constructor<;>kernel_rfl!
 have cH:=iJ "sign_of" JS vX 393 "sealpress.signs" 688 X G;have cI:=iJ "sign_told" ZD j5 400 "sealpress.signs" 688 X G;have cJ:=iJ "place_of" Qr xZ 408 "sealpress.places" 715 X G;have cL:=iJ "fed_between" yT jq 415 fZ 729 X G;have cO:=iJ "fed_word" Qt va 422 fZ 729 X G;have cP:=iJ "fed_said" Qv vd 429 fZ 729 X G;have cQ:=iJ "feed" Bn Jt 436 fZ 729 X G;have cR:=iJ "come_to" JU zM 443 f9 760 X G;have cT:=iJ "told" Bm wB 450 f9 760 X G;have cU:=iJ "gathered" Qx ql 457 f9 760 X G;have cV:=iJ "box_shut" Qz jT 464 f9 760 X G;have cW:=iJ "into_box" QC ve 471 f9 760 X G;have cX:=iJ "led_on" XC xJ 478 f9 760 X G;have cY:=iJ "fed" AX JW 485 f9 760 X G;have cZ:=iJ "mark_ended" kJ ji 492 f9 760 X G;have c8:=iJ "at_text" JX vY 499 f9 760 X G;have c9:=iJ "at_mark" JZ vZ 506 f9 760 X G;have de:=iJ "at_open" J1 v5 513 f9 760 X G;have dg:=iJ "at_name" J3 v7 520 f9 760 X G;have dh:=iJ "at_slash" QF vf 527 f9 760 X G;have di:=iJ "at_shut" J5 v8 534 f9 760 X G;have dj:=iJ "at_gap" XE kg 541 f9 760 X G;have dk:=iJ "at_attr" J7 v9 548 f9 760 X G;have dm:=iJ "at_is" Yl ZF 555 f9 760 X G;have dn:=iJ "at_bang" J9 ya 562 f9 760 X G;have dq:=iJ "at_bare" Wb yb 569 f9 760 X G;have du:=iJ "at_code" Wd yc 576 f9 760 X G;have dv:=iJ "at_row" XG kh 583 f9 760 X G;have dw:=iJ "at_stroke" ZG xf 590 f9 760 X G;have dy:=iJ "at_quoted" ZI xg 597 f9 760 X G;have dz:=iJ "at_qmark" QJ vg 604 f9 760 X G;have dA:=iJ "at_done" Wf yd 611 f9 760 X G;have dB:=iJ "at_talk" Wh ye 618 f9 760 X G;have dC:=iJ "at_tmark" QL vh 625 f9 760 X G;have dD:=iJ "at_asis" Z8 yf 630 f9 760 X G;have dF:=iJ "moved" Yp ZK 639 f9 760 X G;have dG:=iJ "begin" Yr yg 646 ia 1085 X G;have dH:=iJ "step" Bl Ju 653 ia 1085 X G;have dI:=iJ "run" AW Wj 660 ia 1085 X G;have dJ:=iJ "is_end" XI vP 667 ia 1085 X G;have dM:=iJ "floored" Wk wH 674 ia 1085 X G;have dN:Dc (KH w.params) mg 712 "Spot" "Spot.__init__" vz qp:=FP 688 (.str "sealpress.looker" 1128) X G;have dQ:Dm (KH w.params) 712 "shown" "Spot.shown" kL zV:=pe 695 (.str "sealpress.looker" 1128) aZ;have dR:Dm (KH w.params) 712 "met" "Spot.met" QQ jz:=pe 702 (.str "sealpress.looker" 1128) aZ;have dU:Dm (KH w.params) 712 "turned" "Spot.turned" yV qW:=pe 709 (.str "sealpress.looker" 1128) aZ;have dW:Dc (KH w.params) mg 789 "Looking" "Looking.__init__" wJ qL:=FP 730 (.str "sealpress.looker" 1128) X G;have dX:Dm (KH w.params) 789 "look_all" "Looking.look_all" jC zw:=pe 737 (.str "sealpress.looker" 1128) aH;have bT:Dm (KH w.params) 789 "look_piece" "Looking.look_piece" jd zT:=pe 744 (.str "sealpress.looker" 1128) aH;have dY:Dm (KH w.params) 789 "look_literal" "Looking.look_literal" jD zJ:=pe 751 (.str "sealpress.looker" 1128) aH;have dZ:Dm (KH w.params) 789 "look_hole" "Looking.look_hole" wc zZ:=pe 758 (.str "sealpress.looker" 1128) aH;have bU:Dm (KH w.params) 789 "look_each" "Looking.look_each" jm z6:=pe 765 (.str "sealpress.looker" 1128) aH;have bV:Dm (KH w.params) 789 "look_if" "Looking.look_if" jP qq:=pe 772 (.str "sealpress.looker" 1128) aH;have bW:Dm (KH w.params) 789 "look_seat" "Looking.look_seat" jn z7:=pe 779 (.str "sealpress.looker" 1128) aH;have ec:=iJ "looked_at" ZL xi 800 "sealpress.looker" 1128 X G;have eg:=iJ "look" BB Jv 807 "sealpress.looker" 1128 X G;have ei:=iJ "branches_of" yX jX 814 "sealpress.ways" 1322 X G;have eu:=iJ "walked" XO vQ 821 "sealpress.ways" 1322 X G;have ez:=iJ "state_at" QU wR 828 "sealpress.ways" 1322 X G;have eA:=iJ "_law_cell" ZN xj 835 ib 1354 X G;have eC:=iJ "_law_mix" QY qy 842 ib 1354 X G;have eE:=iJ "_law_other" kQ wq 849 ib 1354 X G;have eF:=iJ "_law_part" ZP qO 856 ib 1354 X G;have eG:=iJ "_law_fault" kS jj 863 ib 1354 X G;have eH:=iJ "_law_good" yw qi 870 ib 1354 X G;have aQ:=iJ "_law_some" yx j6 877 ib 1354 X G;have aV:=iJ "_law_within" xS jt 884 ib 1354 X G;have aP:=iJ "_law_compound" wC qr 891 ib 1354 X G;have eI:=iJ "_law_made" ZT j7 898 ib 1354 X G;have eJ:=iJ "_law_marked" y3 ju 905 ib 1354 X G;have eK:=iJ "_law_pass" yz zQ 912 ib 1354 X G;have eN:=iJ "_law_inner" kU qR 919 ib 1354 X G;have eO:=iJ "_law_path" yA qj 926 ib 1354 X G;have eQ:=iJ "_law_text_of" xl zD 933 ib 1354 X G;have eR:=iJ "_law_due" Q0 vk 940 ib 1354 X G;have eS:=iJ "_law_looked" y8 qX 947 ib 1354 X G;have eV:=iJ "_law_refusal" yk jJ 954 ib 1354 X G;have eW:=iJ "_law_two" Q2 vm 961 ib 1354 X G;have eX:=iJ "_law_right" kX wt 968 ib 1354 X G;have eY:=iJ "_law_left" ZX xm 975 ib 1354 X G;have cw:=iJ "law" AV Yu 982 ib 1354 X G;have e_SIGNS:Str.ofString " !\"#$&'()*+,-./0123456789:;<=>?@ABCDEFGHIJKLMNOPQRSTUVWXYZ[\\]^_`abcdefghijklmnopqrstuvwxyz{|}~" = (S sg):=by decide +kernel
 have e_FIGURES:Str.ofString "0123456789" = (S fg):=by decide +kernel
 have e_LETTERS:Str.ofString "abcdefghijklmnopqrstuvwxyz" = (S lt):=by decide +kernel
 have e_WORDSIGNS:Str.ofString "abcdefghijklmnopqrstuvwxyz0123456789-" = (S ws):=by decide +kernel
 have e_ASIS_END:Str.ofString "</asis>" = (S kF):=by decide +kernel
 have xl_MODES:(KH w.params).lookup 631=some ⟨.type "dict",none,.dict #[(en w.params "text" 1035 (.ref 499)),(en w.params "mark" 1037 (.ref 506)),(en w.params "open" 1039 (.ref 513)),(en w.params "name" 1041 (.ref 520)),(en w.params "slash" 1043 (.ref 527)),(en w.params "shut" 1045 (.ref 534)),(en w.params "gap" 1047 (.ref 541)),(en w.params "attr" 1049 (.ref 548)),(en w.params "is" 1051 (.ref 555)),(en w.params "bang" 1053 (.ref 562)),(en w.params "bare" 1055 (.ref 569)),(en w.params "code" 1057 (.ref 576)),(en w.params "row" 1059 (.ref 583)),(en w.params "stroke" 1061 (.ref 590)),(en w.params "quoted" 1063 (.ref 597)),(en w.params "qmark" 1065 (.ref 604)),(en w.params "done" 1067 (.ref 611)),(en w.params "talk" 1069 (.ref 618)),(en w.params "tmark" 1070 (.ref 625)),(en w.params "asis" 1071 (.ref 630))] 20,#[]⟩:=by kernel_rfl!
 have xl_PLACE_MODES:(KH w.params).lookup 401=some ⟨.type "tuple",none,.seq #[(.str "text" 717),(.str "bare" 718),(.str "row" 719),(.str "quoted" 720)] 0,#[]⟩:=by kernel_rfl!
 have T:Txt w (KH w.params) mg (⟨24,44,63,82,94,113,132,151,170,182,201,220,239,258,277,296,315,334,353,372,384,712,789,401,499,506,513,520,527,534,541,548,555,562,569,576,583,590,597,604,611,618,625,630⟩:lg):=by refine⟨?_,?_,?_,?_,?_,?_,?_,?_,?_,?_,?_,?_,?_,?_,?_,?_,?_,?_,?_,?_,?_,?_,?_,?_,?_,?_,?_,?_,?_,?_,?_,?_,?_,?_,?_,?_,?_,?_,?_,?_,?_,?_,?_,?_,?_,?_,?_,?_,?_,?_,?_,?_,?_,?_,?_,?_,?_,?_,?_,?_,?_,?_,?_,?_,?_,?_,?_,?_,?_,?_,?_,?_,?_,?_,?_,?_,?_,?_,?_,?_,?_,?_,?_,?_,?_,?_,?_,?_,?_,?_,?_,?_,?_,?_,⟨.str (Str.ofString " !\"#$&'()*+,-./0123456789:;<=>?@ABCDEFGHIJKLMNOPQRSTUVWXYZ[\\]^_`abcdefghijklmnopqrstuvwxyz{|}~") 690,Uv X G (by kernel_rfl!),⟨_,by rw [e_SIGNS]⟩⟩,⟨.str (Str.ofString "0123456789") 692,Uv X G (by kernel_rfl!),⟨_,by rw [e_FIGURES]⟩⟩,⟨.str (Str.ofString "abcdefghijklmnopqrstuvwxyz") 694,Uv X G (by kernel_rfl!),⟨_,by rw [e_LETTERS]⟩⟩,⟨.int 8 696,Uv X G (by kernel_rfl!),⟨_,rfl⟩⟩,⟨.str (Str.ofString "abcdefghijklmnopqrstuvwxyz0123456789-") 713,Uv X G (by kernel_rfl!),⟨_,by rw [e_WORDSIGNS]⟩⟩,⟨.str (Str.ofString "</asis>") 762,Uv X G (by kernel_rfl!),⟨_,by rw [e_ASIS_END]⟩⟩,⟨.int 2 764,Uv X G (by kernel_rfl!),⟨_,rfl⟩⟩,⟨_,Uv (v:=.ref 631) X G (by kernel_rfl!),by decide,_,_,_,xl_MODES,⟨rfl,rfl,rfl⟩,rfl,by repeat' (first | exact mF.nil | refine mF.cons rfl rfl rfl ?_),by decide +kernel⟩,?_,λ_=>.inr ⟨_,_,_,xl_PLACE_MODES,rfl,rfl,by decide,by repeat' (first | exact .nil | refine .cons ⟨_,rfl⟩ ?_)⟩,?_,?_,?_,?_,?_,?_,?_,?_,?_,?_,?_,aZ,aH,?_,?_,?_,?_,?_,?_⟩<;>first | exact Uv X G (by kernel_rfl!) | exact LL (by kernel_rfl!) | exact PySem.W.mg_none_of X G (by kernel_rfl!) | (show _=_;kernel_rfl!)
 have eZ:oh (KH w.params) 82 "Unread.__init__" Q4 ["self","at"]:=oy (f:=79) (pm:=(.str "sealpress.errors" 187)) (cd:=78) (λ_ _ _ _ _ _ us hl=>by obtain⟨_,_,rfl⟩:=rV hl;rfl) (by kernel_rfl!) (by kernel_rfl!) (by kernel_rfl!) (by kernel_rfl!);have fc:oh (KH w.params) 277 "Astray.__init__" Q5 ["self","place","at"]:=oy (f:=274) (pm:=(.str "sealpress.errors" 187)) (cd:=273) (λ_ _ _ _ _ _ us hl=>by obtain⟨_,_,_,rfl⟩:=rT hl;rfl) (by kernel_rfl!) (by kernel_rfl!) (by kernel_rfl!) (by kernel_rfl!);have ff:oh (KH w.params) 315 "Unlike.__init__" Q6 ["self","what","one","other"]:=oy (f:=312) (pm:=(.str "sealpress.errors" 187)) (cd:=311) (λ_ _ _ _ _ _ us hl=>by obtain⟨_,_,_,_,rfl⟩:=tQ hl;rfl) (by kernel_rfl!) (by kernel_rfl!) (by kernel_rfl!) (by kernel_rfl!);have fh:oh (KH w.params) 296 "NoPlace.__init__" ZZ ["self","name","place"]:=oy (f:=293) (pm:=(.str "sealpress.errors" 187)) (cd:=292) (λ_ _ _ _ _ _ us hl=>by obtain⟨_,_,_,rfl⟩:=rT hl;rfl) (by kernel_rfl!) (by kernel_rfl!) (by kernel_rfl!) (by kernel_rfl!);have fj:oh (KH w.params) 334 "LeftOpen.__init__" k7 ["self","place"]:=oy (f:=331) (pm:=(.str "sealpress.errors" 187)) (cd:=330) (λ_ _ _ _ _ _ us hl=>by obtain⟨_,_,rfl⟩:=rV hl;rfl) (by kernel_rfl!) (by kernel_rfl!) (by kernel_rfl!) (by kernel_rfl!);refine LR cw hfa (λ_ _ _ _ _ _ s v=>.of_eq rfl) λbase=>?_;have bP:=T7 (P:=l.prog) (w:=w) (base:=base) T eZ;have bQ:=T6 (P:=l.prog) (w:=w) (base:=base) T fc;have ao:=T5 (P:=l.prog) (w:=w) (base:=base) T ff;have bS:=zal (P:=l.prog) (w:=w) (base:=base) T fh;have bY:=Yx (P:=l.prog) (w:=w) (base:=base) T fj;have a9:=TZ (P:=l.prog) (fY:=base) T cH;have aL:=YF T cI a9;have aK:=X4 (P:=l.prog) (fY:=base) T cL;have bc:=zau T cO aK;have bf:=zav (P:=l.prog) (fY:=base) T cP;have bh:=MI T cQ aK bc bf;have aa:=TY (P:=l.prog) (fY:=base) T cR;have ag:=MH T cT aa;have ah:=zaw (P:=l.prog) (fY:=base) T cU;have aC:=zax T cV aa;have bg:=zay T cW aa;have aB:=RD T cX aa bg;have aM:=Mg T cY bh;have aA:=Vh T cZ aL;have bj:=TX T c8 aa ag;have bo:=TV T c9 ah aA ag;have bp:=TU T de aa ah;have bq:=TR T dg ah aB;have br:=zaz T dh aC;have bu:=TQ T di ah aC;have bw:=RC T dj ah;have bA:=zb0 T dk ah aa;have bB:=OO T dm aa;have bC:=zb1 (P:=l.prog) (fY:=base) T dn;have bD:=zb2 T dq ag aa aB;have bE:=zb3 T du ag aL;have bF:=RB T dv aa ag;have bG:=YG T dw ag;have bH:=YH T dy aa ag;have bI:=zaA T dz ah aA ag;have bJ:=zb4 T dA aB;have bK:=zb5 T dB aa aM;have bL:=zaB T dC ah aA aM;have bM:=zb6 T dD aC aa;have bN:=ON T dF bj bo bp bq br bu bw bA bB bC bD bE bF bG bH bI bJ bK bL bM;have aE:=OM (P:=l.prog) (fY:=base) T dG;have bO:=MG T dH bN;have aG:=zb7 (P:=l.prog) (fY:=base) T dM;have aN:=Mf T dI bO bP;have cq:=zaC (P:=l.prog) (fY:=base) T eA;have ae:=To (P:=l.prog) (fY:=base) T eC;have af:=zaD T eF ae;have bR:=zaE (P:=l.prog) (fY:=base) T cJ;have aD:=Ws (P:=l.prog) (fY:=base) T dN;have ak:=zaF T dR aD;have au:=X5 T dU aD;have bX:=Qh (P:=l.prog) (fY:=base) T dW;have ai:=Vi (P:=l.prog) (fY:=base) T dQ;have aT:=WO T dY aN ak ai bQ;have aU:=YI T dZ bR ak ai bS;have ax:=YL T dX bT bU bV bW aT aU au ak ai aG ao;have aO:=RA T dJ aE;have bZ:=YM T ec ax aE aO aD bX ai bY;have cf:=ME T eg bZ;have cb:=YN (P:=l.prog) (fY:=base) T eE;have cj:=X6 T eV cb;have aj:=Vk T eS cf cj;have aq:=YO (P:=l.prog) (fY:=base) T eG;have ay:=YQ T eH aV aP aQ ae af aq;have aS:=zaI T eI ay aq;have aW:=Vl (P:=l.prog) (fY:=base) T eJ;have az:=YR (P:=l.prog) (fY:=base) T eN;have ar:=YS (P:=l.prog) (fY:=base) T eK;have aX:=YT T eO ar aW az;have aY:=WQ T eQ az;have cn:=Tg T eR aX aY;have cm:=X8 (P:=l.prog) (fY:=base) T ei;have aR:=Ry T eu cm;have aJ:=zaL T ez aE aR aN aG;have cp:=Tf T eW aR aJ;have cu:=YU T eX ae aS cn aj cp;have cv:=zaM T eY ar ae aS aj aJ aO;have fk:=Mc T cw cq cu cv aj;exact fk
theorem walk {l:PySem.W.OpenLaw}{q:Program}{loose:Lj}{XP:(La)->Heap->Prop}{YP:World->Heap->Prop}{d:DefRec}{K:Params->Lf}(hn:l.most=some 63)(hdf:d.params.defaults=[])
  (hY:∀ (w:World) (h:Heap),YP w h->(K w.params).In h)
  (F:∀ (w:World) (mg:La) (fa:Addr) (h:Heap),(K w.params).In h->h.Ns mainGlobals mg->mg d.name=some (.ref fa) ->
   ∃ fd:FuncData,(∀ (s:Shared) (u:Value),BindsTo s fd ⟨[u],[]⟩ [("_law_script",u)])/\∀ base:Heap,(K w.params).In base->base.Ns mainGlobals mg->iO l.prog w (K w.params) mg base mJ 66 fa fd ["_law_script"] (Wo (K w.params))) :
  PySem.W.WalkO q loose XP YP l.row.toRowW d [] (λf vs=>PySem.call f vs):=
 L2.NY (n:=63) (k:=66) (x:="_law_script") (CX:=λ_=>mJ) (sp:=λw=>Wo (K w.params)) hn (by decide) hdf ⟨rfl,by decide,by decide,rfl⟩ hY F (λ_ _ a ns hl _ hS=>⟨a,ns,rfl,hS,hl,λ_=>rfl⟩) λ_ _ _ _ _ z=>z
end My
open PySem PySem.W PyProof.Rows
set_option maxRecDepth 100000 in
set_option maxHeartbeats 0 in
theorem PySem.Challenge.cw_sealpress_k75_unlike_and_left_open_holds : PySem.Challenge.rw_sealpress_k75_unlike_and_left_open.Holds := by
  w_on; o_law;refine PySem.W.holds_open (q := My.mY) (loose := My.iK) (Xt := My.tX) (XP := XL My.mY []) (Yf := Hook.obs My.HK) (Ya := Hook.val My.HK) (YP := Hook.says My.HK) (N := 8709) My.left (Hook.of My.HK) (Hook.keeps My.HK) (λs e => xl_of s (Bool.and_eq_true_iff.mp e).1) XL.keeps (by rfl) (by rfl) (by rfl) (λs e => recFacts_of (Bool.and_eq_true_iff.mp e).2) (by rfl) (by first | assumption | decide +kernel) (by decide +kernel) ⟨rfl, rfl, rfl, rfl, rfl, by decide +kernel⟩ ?hw ?hc
  (case hw => w_witness2);exact My.walk (l := PySem.Challenge.rw_sealpress_k75_unlike_and_left_open) rfl rfl (λw h Y => PySem.W.kIn_of Y) (λw mg fa h KX G hmg => My.sk KX G hmg)
