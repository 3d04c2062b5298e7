import PyProof.Rows.All
import Wide.All
import OpenK.AllK
import Wide.FinOn
import Lean
import PyProof.EqAt
import PyProof.EqKinds
import PyProof.TupleCall
import PyProof.Draws
import PyProof.EnumMake
import PyProof.NeKinds
import PyProof.ZipIter
import PyProof.Rows.ZipGen
import PyProof.ReprRoads
import KE.KRevIter
import PyProof.StrLawsReplace
import PyProof.ToksMono
import PyProof.SliceList
import KE.KEqDict
import PySem.Challenge.RW_sealpress_k74_astray_and_no_place
set_option linter.all false
set_option genSizeOf false
set_option backward.match.sparseCases false
set_option compiler.extract_closed false
set_option bootstrap.genMatcherCode false
abbrev La:=PySem.Str->Option PySem.Value
abbrev fL:=PySem.Value->PySem.Shared->Prop
abbrev Ld:=List Nat
abbrev Le:=List PySem.Addr
abbrev Lf:=PySem.W.Frag
abbrev Lg:=List PySem.Value
abbrev Lh:=List PySem.Expr
abbrev Lp:=List (PySem.Addr×PySem.Obj)
abbrev Lj:=List PySem.Str
abbrev ua:=@PySem.wpAny_bind
abbrev ub:=@if_neg
abbrev uc:=@List.length_append
abbrev ud:=@PySem.wpAny_pure
abbrev ue:=@if_pos
abbrev uf:=@PySem.Heap.get?_push_of_some
abbrev ug:=@PySem.Heap.lt_size
abbrev uh:=@List.size_toArray
abbrev ui:=@Nat.le_refl
abbrev uj:=@List.append_nil
abbrev uk:=@List.length_map
abbrev um:=@PySem.wpAny_mono
abbrev uo:=@List.length_cons
abbrev uq:=@List.mem_cons
abbrev ur:=@Nat.lt_of_lt_of_le
abbrev uu:=@List.length_singleton
abbrev uw:=@List.map_cons
abbrev ux:=@List.getElem?_eq_getElem
abbrev uy:=@PySem.Heap.get?_update_other
abbrev uz:=@List.append_assoc
abbrev uA:=@List.getElem?_eq_some_iff
abbrev uB:=@PySem.Heap.get?_push_size
abbrev uC:=@List.mem_singleton
abbrev uD:=@Bool.false_ne_true
abbrev uE:=@List.cons_append
abbrev uF:=@decide_eq_false
abbrev uG:=@Option.some.inj
abbrev uH:=@Bool.and_eq_true
abbrev uI:=@PySem.wpAny_loadPart_at
abbrev uJ:=@Nat.le_trans
abbrev uK:=@PySem.wpAny_field
abbrev uL:=@List.mem_cons_of_mem
abbrev uM:=@PySem.F.plainAttrs_list
abbrev uN:=@beq_eq_false_iff_ne
abbrev uO:=@PySem.mem_of_lookup
abbrev uP:=@List.mem_of_getElem?
abbrev uQ:=@PySem.sizeLine_eq
abbrev uR:=@List.mem_append_right
abbrev uS:=@Option.map_eq_some_iff
abbrev uT:=@PySem.Heap.get?_update_self
abbrev uU:=@PySem.wpAny_Call_Name_kw
abbrev uV:=@List.drop_eq_getElem_cons
abbrev uW:=@Option.map_some
abbrev uX:=@List.mem_append_left
abbrev uY:=@Nat.lt_irrefl
abbrev uZ:=@Nat.zero_le
abbrev u0:=@PySem.wpAny_holding
abbrev u4:=@List.lookup_cons
abbrev u5:=@PySem.wpAny_standAt
abbrev u6:=@beq_iff_eq
abbrev u7:=@Array.getElem?_eq_some_iff
abbrev u9:=@List.mem_append
abbrev Ua:=@PySem.W.kia_one
abbrev Ub:=@List.nil_append
abbrev Uc:=@Nat.ne_of_lt
abbrev Ud:=@PySem.wpAny_call
abbrev Ue:=@PySem.Value.ref.inj
abbrev Ug:=@List.nodup_cons
abbrev Uh:=@PySem.codeAny_mono
abbrev Ui:=@PySem.W.callWith_K
abbrev Uj:=@List.getElem_mem
abbrev Uk:=@List.getElem?_map
abbrev Ul:=@List.reverse_cons
abbrev Um:=@PySem.wpAny_passesOwn
abbrev Uo:=@List.length_replicate
abbrev Up:=@List.mem_cons_self
abbrev Uq:=@List.length_take
abbrev Ur:=@beq_self_eq_true
abbrev Us:=@PySem.W.mg_of
abbrev Ut:=@PySem.F.slot_list_append
abbrev Uu:=@PySem.F.type_list_append
abbrev Uv:=@decide_eq_true
abbrev Uw:=@List.reverse_reverse
abbrev Ux:=@PySem.wpAny_newObj_type
abbrev Uy:=@decide_eq_true_eq
abbrev Uz:=@Prod.mk.injEq
abbrev UA:=@Nat.le_succ
abbrev UB:=@List.getElem?_append_right
abbrev UC:=@List.getElem?_eq_none_iff
abbrev UD:=@List.getElem?_append_left
abbrev UE:=@List.map_append
abbrev UG:=@List.length_nil
abbrev UH:=@Nat.not_lt_zero
abbrev UI:=@PySem.wpAny_setField
abbrev UJ:=@Nat.mul_le_mul_right
abbrev UK:=@List.length_reverse
abbrev UL:=@Bool.eq_iff_iff
abbrev UM:=@Array.getElem?_setIfInBounds
abbrev UN:=@List.take_append_drop
abbrev UO:=@PySem.wpAny_execs_nil
abbrev UP:=@PySem.W.methodCall_KW
abbrev UQ:=@PySem.F.slot_dict_get
abbrev UR:=@List.drop_zero
abbrev US:=@Option.bind_some
abbrev UT:=@PySem.plainObj_wpAny_Assign_Attribute
abbrev UU:=@List.take_length
abbrev UW:=@PySem.wpAny_isSubtype_exc
abbrev UX:=@PySem.Obj.data_mapFields
abbrev UY:=@Nat.add_assoc
abbrev UZ:=@List.find?_cons
abbrev U0:=@Except.ok.injEq
abbrev U1:=@List.contains_cons
abbrev U2:=@PySem.wpAny_truthy_bool
abbrev U3:=@PySem.W.cellsFrom_some
abbrev U4:=@PySem.wpAny_newFunctionEnv_cells
abbrev U5:=@Bool.and_false
abbrev U6:=@List.map_nil
abbrev U7:=@List.mem_map
abbrev U8:=@List.drop_eq_nil_of_le
abbrev U9:=@List.any_cons
abbrev gb:=@Bool.and_true
abbrev gc:=@List.dropLast_concat
abbrev gf:=@List.of_mem_zip
abbrev gg:=@Int.emod_nonneg
abbrev gh:=@List.filterMap_cons
abbrev gi:=@List.map_congr_left
abbrev gj:=@PySem.codeAny_call_function
abbrev gk:=@PySem.Heap.get?_none_of_le
abbrev gm:=@PySem.wpAny_typeOf
abbrev gn:=@Bool.false_eq_true
abbrev gq:=@Int.emod_lt_of_pos
abbrev gr:=@PySem.codeAny_call_builtin
abbrev gu:=@List.isPrefixOf_iff_prefix
abbrev gw:=@Nat.mul_le_mul
abbrev gx:=@Option.some.injEq
abbrev gy:=@List.take_add_one
abbrev gA:=@PySem.F.args_tuple_add_2
abbrev gC:=@PySem.F.slot_list_extend
abbrev gE:=@PySem.F.type_list_extend
abbrev gF:=@Prod.ext
abbrev gG:=@PySem.W.any_some
abbrev gI:=@List.getElem?_replicate
abbrev gJ:=@PySem.F.entry_tuple_add
abbrev gK:=@List.length_drop
abbrev gL:=@Nat.add_sub_cancel_left
abbrev gN:=@Int.eq_ofNat_of_zero_le
abbrev gO:=@List.all_eq_true
abbrev gP:=@Nat.le_of_lt
abbrev gQ:=@Nat.le_of_eq
abbrev gR:=@PySem.noFill_tuple_add
abbrev gU:=@PySem.F.slot_tuple_add
abbrev gW:=@Nat.not_lt
abbrev gX:=@Bool.or_true
abbrev gY:=@List.take_of_length_le
abbrev gZ:=@PySem.F.entry_dict_get
abbrev g8:=@Nat.zero_lt_one
abbrev g9:=@PyProof.Rows.tail_any
abbrev Ga:=@PySem.F.slot_list_pop
abbrev Gb:=@PySem.F.type_list_pop
abbrev Gd:=@List.mem_range
abbrev Ge:=@Bool.false_and
abbrev Gf:=@PySem.W.looks_findIn
abbrev Gg:=@PySem.Heap.size_push
abbrev Gh:=@if_false
abbrev Gi:=@PySem.arm_exec_Raise
abbrev Gj:=@Array.length_toList
abbrev Gk:=@PySem.W.plainGet_of
abbrev Gm:=@PySem.W.callWith_K0
abbrev Gn:=@PySem.seq_tuple_add
abbrev Gp:=@PySem.evalPart_none
abbrev Gq:=@PySem.W.looks_mroIn
abbrev Gs:=@PySem.strLen_append
abbrev Gu:=@List.reverse_append
abbrev Gv:=@PyProof.Rows.subscriptTail_builtinR
abbrev Gw:=@List.all_cons
abbrev Gx:=@PySem.W.codeRec_of
abbrev Gy:=@PySem.codeAny_func
abbrev Gz:=@PySem.concat_meets
abbrev GB:=@PySem.seqIndex_neg
abbrev GC:=@Array.append_empty
abbrev GD:=@PySem.call_meetsIn
abbrev GF:=@Nat.ne_of_gt
abbrev GG:=@PySem.W.set_plain
abbrev GH:=@PyProof.Rows.entry_tuple_getitem
abbrev GI:=@PySem.seqIndex_of
abbrev GJ:=@Bool.eq_false_iff
abbrev GK:=@of_decide_eq_true
abbrev GL:=@PyProof.Rows.args_tuple_getitem
abbrev GN:=@PySem.wpAny_Name
abbrev GO:=@PySem.call_meets
abbrev GP:=@List.not_mem_nil
abbrev GQ:=@PySem.wpAny_callSpecial?_slot
abbrev GR:=@Nat.add_mul
abbrev GS:=@PyProof.Rows.slicePart_none
abbrev GU:=@PySem.Obj.isFreed_of_fields
abbrev GV:=@PyProof.Rows.joinParts_cons
abbrev GW:=@Int.fdiv_eq_ediv_of_nonneg
abbrev GX:=@PyProof.Rows.tupleItemsOf_
abbrev GY:=@or_false
abbrev GZ:=@PySem.F.excBase_ValueError
abbrev G6:=@List.getD_eq_getElem?_getD
abbrev G7:=@PyProof.Rows.isTrue_plain
abbrev G8:=@PySem.Heap.SameBut.update
abbrev G9:=@PySem.Heap.get?_update_ne
abbrev hJ:=@List.getElem?_take_of_lt
abbrev hV:=@PySem.Heap.IsSliceOf.new
abbrev hX:=@PySem.tupleKind_room_in1
abbrev hZ:=@PyProof.Rows.isTrue_and
abbrev Ha:=@PySem.wpAny_assign_Name
abbrev Hb:=@PySem.Heap.Ns1.of_empty
abbrev Hc:=@PySem.wpAny_sequenceKey
abbrev Hd:=@PySem.F.attr_ValueError
abbrev He:=@PySem.wpAny_pyIter_enum
abbrev Hf:=@PySem.F.args_dict_get_3
abbrev Hg:=@PySem.wpAny_Call_method
abbrev Hh:=@PySem.F.plainAttrs_dict
abbrev Hj:=@Nat.le_mul_of_pos_right
set_option Elab.async false
set_option linter.all false
set_option maxRecDepth 100000
set_option maxHeartbeats 0
noncomputable section
namespace PySem.W.Fast
noncomputable def tw13553411431640604252:PySem.Program:=PySem.Challenge.pw_sealpress_k74_astray_and_no_place
theorem te13553411431640604252:PySem.Challenge.pw_sealpress_k74_astray_and_no_place=tw13553411431640604252:=rfl
end PySem.W.Fast
namespace L2
open PySem PySem.W
theorem n5 {p q:Program}{loose:Lj}{Xt:Shared->Bool}{α:Type}{Yf:Shared->α}{Ya:World->α}{N M m0:Nat}{ann:Option Value}{H0:Params->Heap}{g0:Array GenState}{d0:Drawn}{k0:Nat}
  (hb:∀ w:World,(fencedOpening treeTable p w N).map (λs=>(s.heap,s.gens,s.drawn,s.toks))=some (H0 w.params,g0,d0,k0))
  (hz:∀ w:World,((H0 w.params).isNs mainGlobals&&g0.size == 0,(H0 w.params).objs.size,(H0 w.params).nsMap mainGlobals "__annotations__")=(true,m0,ann))
  (hr:∀ (w:World) (os:OsState),∃ s:Shared,topRun treeTable p w m0 ann M ⟨H0 w.params,g0,d0,k0,os⟩ (topStub p)=some s /\
   (staticsOk (importedModules p.main.body) (H0 w.params) s.heap&&namesBound p s.heap&&gensDone s&&laidKept (H0 w.params) s.heap)=true/\openSeen q loose (importedModules p.main.body) Xt true s=openGood q loose/\Yf s=Ya w)
  (hn:M<=N):LeftO p q loose Xt Yf Ya N:=λw=>by
 obtain⟨s0,e,e'⟩:=uS.mp (hb w)
 obtain⟨h,gs,d,k,os⟩:=s0
 simp only [Uz] at e'
 obtain⟨rfl,rfl,rfl,rfl⟩:=e'
 obtain⟨s,r,l1,l2,l3⟩:=hr w os
 have z:=hz w
 simp only [Uz] at z
 obtain⟨z1,z2,z3⟩:=z
 obtain⟨x,rfl⟩:=Nat.exists_eq_add_of_le hn
 have r':=topRun_mono x _ _ _ _ r
 have t:topFrom treeTable p w (M+x) ⟨H0 w.params,gs,d,k,os⟩=some s:=by
  unfold topFrom
  simp only [z1,z2,z3,r',US,l1]
 unfold openEnds
 rw [e,US,t,uW,l2,l3]
end L2
namespace My
open PySem PySem.W
abbrev pw:Program:=PySem.Challenge.pw_sealpress_k74_astray_and_no_place
noncomputable def tp (i:Nat):Stmt:=pw.main.body.getD i (.Pass ⟨0,0,0,0⟩)
def tc (i j:Nat):Stmt:=match tp i with
 | .ClassDef _ _ _ body _ _ _ _ _ _ _=>body.getD j (.Pass ⟨0,0,0,0⟩)
 | _=>.Pass ⟨0,0,0,0⟩
noncomputable def FE (s:Stmt)(nm q:Str)(g:Addr)(cl:List (Str×Addr))(df kd dc pm:Value)(an:Option Addr)(cd ct:Value)(bl:Addr):Data:=match s with
 | .FunctionDef _ a b _ _ _ sc _ _ _=>.func ⟨nm,q,a,.stmts b,sc,g,cl,df,kd,dc,pm,an,cd,ct,bl⟩
 | _=>.plain
noncomputable def en (P:Params)(k:Str)(t:Nat)(v:Value):DictEntry:=⟨PyData.keyHash P k,.str k t,v⟩
noncomputable def Fx (_:Params):Obj:={ cls:=.type "tuple",data:=.seq #[] }
noncomputable def o12 (_:Params):Obj:={ cls:=.none,data:=.fields #[] }
noncomputable def Fv (_:Params):Obj:={ cls:=.type "code",data:=.fields #[.str "<module>" 182,.str "<module>" 183,.str "/claim/cut.py" 184,.int 1 0,.int 0 0,.int 0 0,.int 0 0,.int 0 0,.ref 11,.bool false,.int 181 0,.ref 12,.none,.none,.none,.none,.int 185 0,.int 1 0,.str "/claim/cut.py" 186] }
noncomputable def Fu (_:Params):Obj:={ cls:=.type "frame",slots:=#[some (.ref 13),some (.ref 3),some (.ref 3),none,some (.str "__main__" 164),none,some (.ref 0)] }
noncomputable def cM (n q:Str)(a:Nat)(l g k:Int)(r:Addr)(f:Bool)(b:Addr)(x y z w:Value)(t:Nat):Obj:=⟨.type "code",none,.fields #[.str n a,.str q (a+1),.str "/claim/cut.py" (a+2),.int l 0,.int g 0,.int 0 0,.int 0 0,.int k 0,.ref r,.bool f,.int 181 0,.ref b,x,y,z,w,.int t 0,.int l 0,.str "/claim/cut.py" (t+1)],#[]⟩
def cS (n q:Str)(a:Nat)(l g:Int)(r t:Nat):Obj:=cM n q a l g 3 r true (r+1) .none (.ref (r+2)) (.ref (r+3)) (.ref (r+4)) t
def cN (n:Str)(a:Nat)(l g:Int)(r t:Nat):Obj:=cS n n a l g r t
def cK (n:Str)(a:Nat)(l:Int)(r t:Nat):Obj:=cM n n a l 0 0 r false (r+1) .none .none .none .none t
def fM (s:Stmt)(n q:Str)(m:Value)(c:Addr):Obj:=⟨.type "function",none,FE s n q 3 [] .none .none .none m none (.ref c) .none 0,#[]⟩
def gM (s:Stmt)(n q:Str):Obj:=⟨.none,none,FE s n q 0 [] .none .none .none .none none .none .none 0,#[]⟩
noncomputable def rM (a c:Addr)(v:Value):Obj:=⟨.type "frame",none,.plain,#[some (.ref a),some (.ref 3),some (.ref c),none,some v,none,some (.ref 0)]⟩
noncomputable def dO (a:Array DictEntry)(n:Nat):Obj:=⟨.type "dict",none,.dict a n,#[]⟩
def mK (P:Params)(a:Nat)(m:Value)(q:Str)(l:Int)(i:Nat)(r:Addr)(s:Nat)(u:Addr):Obj:=dO #[en P "__module__" a m,en P "__qualname__" (a+2) (.str q (a+1)),en P "__firstlineno__" (a+4) (.int l (a+3)),en P "__init__" i (.ref r),en P "__static_attributes__" s (.ref u)] 5
def mJ (P:Params)(a:Nat)(m:Value)(l:Int)(i:Nat)(r:Addr)(s:Nat)(u:Addr)(d:Nat):Obj:=dO #[en P "__module__" a m,en P "__firstlineno__" (a+4) (.int l (a+3)),en P "__init__" i (.ref r),en P "__static_attributes__" s (.ref u),en P "__doc__" d .none] 2
noncomputable def mf (a:Addr):Obj:=⟨.type "builtin_function_or_method",none,.fields #[.builtin "object.__init_subclass__",.ref a],#[]⟩
noncomputable def tO (a:Array Value):Obj:=⟨.type "tuple",none,.seq a 0,#[]⟩
noncomputable def pO (a:Array Value):Obj:=⟨.none,none,.fields a,#[]⟩
noncomputable def sO (a:Addr):Obj:=⟨.type "super",none,.fields #[.ref a,.ref a,.ref a],#[]⟩
noncomputable def kO (n:Str)(c b d x i j:Nat):Obj:=⟨.type "type",none,.cls ⟨n,[.ref b],[.ref c,.ref b,.type "ValueError",.type "Exception",.type "BaseException",.type "object"],d,n,true,[],[],false,none,false⟩,#[some (.ref x),none,some (.str n i),some (.str n j),some (.builtin "ValueError.__new__"),some (.bool true)]⟩
noncomputable abbrev m0:Value:=.str "sealpress.errors" 187
noncomputable abbrev m1:Value:=.str "sealpress.signs" 688
noncomputable abbrev m2:Value:=.str "sealpress.places" 715
noncomputable abbrev m3:Value:=.str "sealpress.talks" 729
noncomputable abbrev m4:Value:=.str "sealpress.modes" 760
noncomputable abbrev m5:Value:=.str "sealpress.steps" 1085
noncomputable abbrev m6:Value:=.str "sealpress.looker" 1128
noncomputable abbrev m7:Value:=.str "sealpress.ways" 1322
noncomputable abbrev m8:Value:=.str "law_sealpress_k74_astray_and_no_place" 1354
def x0 (P:Params):Obj:=dO #[en P "__name__" 165 (.str "sealpress.looker" 1128),en P "__doc__" 166 .none,en P "__package__" 167 .none,en P "__loader__" 168 (.builtin "__main__.__loader__#opaque"),en P "__spec__" 169 .none,en P "__annotations__" 170 (.ref 6),en P "__builtins__" 171 (.ref 4),en P "__file__" 173 (.str "/claim/cut.py" 172),en P "__cached__" 174 .none,en P "SealError" 206 (.ref 24),en P "NoSign" 231 (.ref 44),en P "NoCode" 256 (.ref 63),en P "Unread" 281 (.ref 82),en P "Unended" 297 (.ref 94),en P "NoPage" 322 (.ref 113),en P "NoName" 347 (.ref 132),en P "NoSheet" 372 (.ref 151),en P "Twice" 397 (.ref 170),en P "TooMany" 413 (.ref 182),en P "Unknown" 438 (.ref 201),en P "RingOver" 463 (.ref 220),en P "Ringed" 488 (.ref 239),en P "NoElder" 513 (.ref 258),en P "Astray" 540 (.ref 277),en P "NoPlace" 567 (.ref 296),en P "Unlike" 596 (.ref 315),en P "LeftOpen" 621 (.ref 334),en P "NoValue" 646 (.ref 353),en P "NoKind" 671 (.ref 372),en P "NoRow" 687 (.ref 384),en P "SIGNS" 691 (.str " !\"#$&'()*+,-./0123456789:;<=>?@ABCDEFGHIJKLMNOPQRSTUVWXYZ[\\]^_`abcdefghijklmnopqrstuvwxyz{|}~" 690),en P "FIGURES" 693 (.str "0123456789" 692),en P "LETTERS" 695 (.str "abcdefghijklmnopqrstuvwxyz" 694),en P "LONGEST_NAME" 697 (.int 8 696),en P "sign_of" 704 (.ref 393),en P "sign_told" 712 (.ref 400),en P "WORDSIGNS" 714 (.str "abcdefghijklmnopqrstuvwxyz0123456789-" 713),en P "PLACE_MODES" 721 (.ref 401),en P "place_of" 728 (.ref 408),en P "fed_between" 737 (.ref 415),en P "fed_word" 744 (.ref 422),en P "fed_said" 751 (.ref 429),en P "feed" 759 (.ref 436),en P "ASIS_END" 763 (.str "</asis>" 762),en P "MARK_FIGURES" 765 (.int 2 764),en P "come_to" 774 (.ref 443),en P "told" 783 (.ref 450),en P "gathered" 794 (.ref 457),en P "box_shut" 802 (.ref 464),en P "into_box" 811 (.ref 471),en P "led_on" 820 (.ref 478),en P "fed" 830 (.ref 485),en P "mark_ended" 838 (.ref 492),en P "at_text" 848 (.ref 499),en P "at_mark" 858 (.ref 506),en P "at_open" 868 (.ref 513),en P "at_name" 878 (.ref 520),en P "at_slash" 888 (.ref 527),en P "at_shut" 898 (.ref 534),en P "at_gap" 908 (.ref 541),en P "at_attr" 918 (.ref 548),en P "at_is" 928 (.ref 555),en P "at_bang" 938 (.ref 562),en P "at_bare" 948 (.ref 569),en P "at_code" 958 (.ref 576),en P "at_row" 968 (.ref 583),en P "at_stroke" 978 (.ref 590),en P "at_quoted" 988 (.ref 597),en P "at_qmark" 998 (.ref 604),en P "at_done" 1008 (.ref 611),en P "at_talk" 1018 (.ref 618),en P "at_tmark" 1028 (.ref 625),en P "at_asis" 1034 (.ref 630),en P "MODES" 1075 (.ref 631),en P "moved" 1084 (.ref 639),en P "begin" 1092 (.ref 646),en P "step" 1100 (.ref 653),en P "run" 1113 (.ref 660),en P "is_end" 1120 (.ref 667),en P "floored" 1127 (.ref 674)] 80
noncomputable def _root_.PySem.W.Fast.tw4752819795712237882:=@x0
theorem _root_.PySem.W.Fast.te4752819795712237882:@x0=@_root_.PySem.W.Fast.tw4752819795712237882:=rfl
def x1:Obj:=pO #[.int 2 0,.int 0 0,.ref 20,.int 4 0,.int 0 0,.ref 33,.int 9 0,.int 0 0,.ref 52,.int 14 0,.int 0 0,.ref 71,.int 19 0,.int 0 0,.ref 90,.int 21 0,.int 0 0,.ref 102,.int 26 0,.int 0 0,.ref 121,.int 31 0,.int 0 0,.ref 140,.int 36 0,.int 0 0,.ref 159,.int 41 0,.int 0 0,.ref 178,.int 43 0,.int 0 0,.ref 190,.int 48 0,.int 0 0,.ref 209,.int 53 0,.int 0 0,.ref 228,.int 58 0,.int 0 0,.ref 247,.int 63 0,.int 0 0,.ref 266,.int 69 0,.int 0 0,.ref 285,.int 75 0,.int 0 0,.ref 304,.int 82 0,.int 0 0,.ref 323,.int 87 0,.int 0 0,.ref 342,.int 92 0,.int 0 0,.ref 361,.int 97 0,.int 0 0,.ref 380,.int 104 0,.int 0 0,.ref 392,.int 106 0,.int 0 0,.ref 399,.int 114 0,.int 0 0,.ref 407,.int 119 0,.int 0 0,.ref 414,.int 127 0,.int 0 0,.ref 421,.int 131 0,.int 0 0,.ref 428,.int 137 0,.int 0 0,.ref 435,.int 150 0,.int 0 0,.ref 442,.int 152 0,.int 0 0,.ref 449,.int 156 0,.int 0 0,.ref 456,.int 160 0,.int 0 0,.ref 463,.int 164 0,.int 0 0,.ref 470,.int 169 0,.int 0 0,.ref 477,.int 177 0,.int 0 0,.ref 484,.int 182 0,.int 0 0,.ref 491,.int 184 0,.int 0 0,.ref 498,.int 190 0,.int 0 0,.ref 505,.int 194 0,.int 0 0,.ref 512,.int 200 0,.int 0 0,.ref 519,.int 204 0,.int 0 0,.ref 526,.int 208 0,.int 0 0,.ref 533,.int 214 0,.int 0 0,.ref 540,.int 218 0,.int 0 0,.ref 547,.int 230 0,.int 0 0,.ref 554,.int 234 0,.int 0 0,.ref 561,.int 238 0,.int 0 0,.ref 568,.int 244 0,.int 0 0,.ref 575,.int 248 0,.int 0 0,.ref 582,.int 256 0,.int 0 0,.ref 589,.int 258 0,.int 0 0,.ref 596,.int 264 0,.int 0 0,.ref 603,.int 268 0,.int 0 0,.ref 610,.int 270 0,.int 0 0,.ref 617,.int 276 0,.int 0 0,.ref 624,.int 280 0,.int 0 0,.ref 629,.int 291 0,.int 0 0,.ref 638,.int 295 0,.int 0 0,.ref 645,.int 297 0,.int 0 0,.ref 652,.int 299 0,.int 0 0,.ref 659,.int 309 0,.int 0 0,.ref 666,.int 311 0,.int 0 0,.ref 673]
def x2:Obj:=tO #[.type "ValueError"]
noncomputable def x3:Obj:=⟨(.type "builtin_function_or_method"),none,(.fields #[.builtin "type.__prepare__",.type "type"]),#[]⟩
def x4:Obj:=tO #[]
def x5:Obj:=pO #[]
def x6 (P:Params):Obj:=dO #[en P "__module__" 196 m0,en P "__firstlineno__" 200 (.int 2 199),en P "__static_attributes__" 201 (.ref 22),en P "__weakref__" 203 (.ref 25),en P "__doc__" 204 .none] 3
noncomputable def x7:Obj:=⟨(.type "type"),none,(.cls ⟨"SealError",[.type "ValueError"],[.ref 24,.type "ValueError",.type "Exception",.type "BaseException",.type "object"],23,"SealError",true,[],[.ref 44,.ref 63,.ref 82,.ref 94,.ref 113,.ref 132,.ref 151,.ref 170,.ref 182,.ref 201,.ref 220,.ref 239,.ref 258,.ref 277,.ref 296,.ref 315,.ref 334,.ref 353,.ref 372,.ref 384],false,none,false⟩),#[some (.ref 15),none,some (.str "SealError" 189),some (.str "SealError" 197),some (.builtin "ValueError.__new__"),some (.bool true)]⟩
noncomputable def x8:Obj:=⟨(.type "getset_descriptor"),none,(.fields #[.str "__weakref__" 202,.ref 24,.builtin "ExceptionGroup.__weakref__",.none]),#[]⟩
def x9:Obj:=tO #[.ref 24]
def x10 (P:Params):Obj:=mJ P 214 m0 4 226 41 228 42 229
def x11:Obj:=kO "NoSign" 44 24 43 28 207 215
def x12 (P:Params):Obj:=mJ P 239 m0 9 251 60 253 61 254
def x13:Obj:=kO "NoCode" 63 24 62 47 232 240
def x14:Obj:=cS "__init__" "Unread.__init__" 269 16 2 73 274
def x15:Obj:=fM (tc 4 0) "__init__" "Unread.__init__" m0 78
def x16 (P:Params):Obj:=mJ P 264 m0 14 276 79 278 80 279
def x17:Obj:=kO "Unread" 82 24 81 66 257 265
def x18 (P:Params):Obj:=dO #[en P "__module__" 289 m0,en P "__firstlineno__" 293 (.int 19 292),en P "__static_attributes__" 294 (.ref 92),en P "__doc__" 295 .none] 2
def x19:Obj:=kO "Unended" 94 24 93 85 282 290
def x20 (P:Params):Obj:=mJ P 305 m0 21 317 110 319 111 320
def x21:Obj:=kO "NoPage" 113 24 112 97 298 306
def x22 (P:Params):Obj:=mJ P 330 m0 26 342 129 344 130 345
def x23:Obj:=kO "NoName" 132 24 131 116 323 331
def x24 (P:Params):Obj:=mJ P 355 m0 31 367 148 369 149 370
def x25:Obj:=kO "NoSheet" 151 24 150 135 348 356
def x26 (P:Params):Obj:=mJ P 380 m0 36 392 167 394 168 395
def x27:Obj:=kO "Twice" 170 24 169 154 373 381
def x28 (P:Params):Obj:=dO #[en P "__module__" 405 m0,en P "__firstlineno__" 409 (.int 41 408),en P "__static_attributes__" 410 (.ref 180),en P "__doc__" 411 .none] 2
def x29:Obj:=kO "TooMany" 182 24 181 173 398 406
def x30 (P:Params):Obj:=mJ P 421 m0 43 433 198 435 199 436
def x31:Obj:=kO "Unknown" 201 24 200 185 414 422
def x32 (P:Params):Obj:=mJ P 446 m0 48 458 217 460 218 461
def x33:Obj:=kO "RingOver" 220 24 219 204 439 447
def x34 (P:Params):Obj:=mJ P 471 m0 53 483 236 485 237 486
def x35:Obj:=kO "Ringed" 239 24 238 223 464 472
def x36 (P:Params):Obj:=mJ P 496 m0 58 508 255 510 256 511
def x37:Obj:=kO "NoElder" 258 24 257 242 489 497
def x38:Obj:=cS "__init__" "Astray.__init__" 526 65 3 268 532
def x39:Obj:=fM (tc 15 0) "__init__" "Astray.__init__" m0 273
def x40 (P:Params):Obj:=mJ P 521 m0 63 534 274 537 275 538
def x41:Obj:=kO "Astray" 277 24 276 261 514 522
def x42:Obj:=cS "__init__" "NoPlace.__init__" 553 71 3 287 559
def x43:Obj:=fM (tc 16 0) "__init__" "NoPlace.__init__" m0 292
def x44 (P:Params):Obj:=mJ P 548 m0 69 561 293 564 294 565
def x45:Obj:=kO "NoPlace" 296 24 295 280 541 549
def x46:Obj:=cS "__init__" "Unlike.__init__" 580 77 4 306 587
def x47:Obj:=fM (tc 17 0) "__init__" "Unlike.__init__" m0 311
def x48 (P:Params):Obj:=mJ P 575 m0 75 589 312 593 313 594
def x49:Obj:=kO "Unlike" 315 24 314 299 568 576
def x50:Obj:=cS "__init__" "LeftOpen.__init__" 609 84 2 325 614
def x51:Obj:=fM (tc 18 0) "__init__" "LeftOpen.__init__" m0 330
def x52 (P:Params):Obj:=mJ P 604 m0 82 616 331 618 332 619
def x53:Obj:=kO "LeftOpen" 334 24 333 318 597 605
def x54 (P:Params):Obj:=mJ P 629 m0 87 641 350 643 351 644
def x55:Obj:=kO "NoValue" 353 24 352 337 622 630
def x56 (P:Params):Obj:=mJ P 654 m0 92 666 369 668 370 669
def x57:Obj:=kO "NoKind" 372 24 371 356 647 655
def x58 (P:Params):Obj:=dO #[en P "__module__" 679 m0,en P "__firstlineno__" 683 (.int 97 682),en P "__static_attributes__" 684 (.ref 382),en P "__doc__" 685 .none] 2
def x59:Obj:=kO "NoRow" 384 24 383 375 672 680
def x60:Obj:=cN "sign_of" 698 104 1 387 702
def x61:Obj:=fM (tp 27) "sign_of" "sign_of" m1 392
def x62:Obj:=cN "sign_told" 705 106 1 394 710
def x63:Obj:=fM (tp 28) "sign_told" "sign_told" m1 399
def x64:Obj:=tO #[.str "text" 717,.str "bare" 718,.str "row" 719,.str "quoted" 720]
def x65:Obj:=cN "place_of" 722 114 1 402 726
def x66:Obj:=fM (tp 32) "place_of" "place_of" m2 407
def x67:Obj:=cN "fed_between" 731 119 1 409 735
def x68:Obj:=fM (tp 34) "fed_between" "fed_between" m3 414
def x69:Obj:=cN "fed_word" 738 127 1 416 742
def x70:Obj:=fM (tp 35) "fed_word" "fed_word" m3 421
def x71:Obj:=cN "fed_said" 745 131 1 423 749
def x72:Obj:=fM (tp 36) "fed_said" "fed_said" m3 428
def x73:Obj:=cN "feed" 752 137 2 430 757
def x74:Obj:=fM (tp 37) "feed" "feed" m3 435
def x75:Obj:=cN "come_to" 766 150 3 437 772
def x76:Obj:=fM (tp 41) "come_to" "come_to" m4 442
def x77:Obj:=cN "told" 775 152 3 444 781
def x78:Obj:=fM (tp 42) "told" "told" m4 449
def x79:Obj:=cN "gathered" 784 156 5 451 792
def x80:Obj:=fM (tp 43) "gathered" "gathered" m4 456
def x81:Obj:=cN "box_shut" 795 160 2 458 800
def x82:Obj:=fM (tp 44) "box_shut" "box_shut" m4 463
def x83:Obj:=cN "into_box" 803 164 2 465 809
def x84:Obj:=fM (tp 45) "into_box" "into_box" m4 470
def x85:Obj:=cN "led_on" 812 169 3 472 818
def x86:Obj:=fM (tp 46) "led_on" "led_on" m4 477
def x87:Obj:=cN "fed" 821 177 3 479 828
def x88:Obj:=fM (tp 47) "fed" "fed" m4 484
def x89:Obj:=cN "mark_ended" 831 182 2 486 836
def x90:Obj:=fM (tp 48) "mark_ended" "mark_ended" m4 491
def x91:Obj:=cN "at_text" 839 184 4 493 846
def x92:Obj:=fM (tp 49) "at_text" "at_text" m4 498
def x93:Obj:=cN "at_mark" 849 190 4 500 856
def x94:Obj:=fM (tp 50) "at_mark" "at_mark" m4 505
def x95:Obj:=cN "at_open" 859 194 4 507 866
def x96:Obj:=fM (tp 51) "at_open" "at_open" m4 512
def x97:Obj:=cN "at_name" 869 200 4 514 876
def x98:Obj:=fM (tp 52) "at_name" "at_name" m4 519
def x99:Obj:=cN "at_slash" 879 204 4 521 886
def x100:Obj:=fM (tp 53) "at_slash" "at_slash" m4 526
def x101:Obj:=cN "at_shut" 889 208 4 528 896
def x102:Obj:=fM (tp 54) "at_shut" "at_shut" m4 533
def x103:Obj:=cN "at_gap" 899 214 4 535 906
def x104:Obj:=fM (tp 55) "at_gap" "at_gap" m4 540
def x105:Obj:=cN "at_attr" 909 218 4 542 916
def x106:Obj:=fM (tp 56) "at_attr" "at_attr" m4 547
def x107:Obj:=cN "at_is" 919 230 4 549 926
def x108:Obj:=fM (tp 57) "at_is" "at_is" m4 554
def x109:Obj:=cN "at_bang" 929 234 4 556 936
def x110:Obj:=fM (tp 58) "at_bang" "at_bang" m4 561
def x111:Obj:=cN "at_bare" 939 238 4 563 946
def x112:Obj:=fM (tp 59) "at_bare" "at_bare" m4 568
def x113:Obj:=cN "at_code" 949 244 4 570 956
def x114:Obj:=fM (tp 60) "at_code" "at_code" m4 575
def x115:Obj:=cN "at_row" 959 248 4 577 966
def x116:Obj:=fM (tp 61) "at_row" "at_row" m4 582
def x117:Obj:=cN "at_stroke" 969 256 4 584 976
def x118:Obj:=fM (tp 62) "at_stroke" "at_stroke" m4 589
def x119:Obj:=cN "at_quoted" 979 258 4 591 986
def x120:Obj:=fM (tp 63) "at_quoted" "at_quoted" m4 596
def x121:Obj:=cN "at_qmark" 989 264 4 598 996
def x122:Obj:=fM (tp 64) "at_qmark" "at_qmark" m4 603
def x123:Obj:=cN "at_done" 999 268 4 605 1006
def x124:Obj:=fM (tp 65) "at_done" "at_done" m4 610
def x125:Obj:=cN "at_talk" 1009 270 4 612 1016
def x126:Obj:=fM (tp 66) "at_talk" "at_talk" m4 617
def x127:Obj:=cN "at_tmark" 1019 276 4 619 1026
def x128:Obj:=fM (tp 67) "at_tmark" "at_tmark" m4 624
def x129:Obj:=cM "at_asis" "at_asis" 1029 280 4 3 626 true 627 .none .none .none (.ref 628) 1032
def x130:Obj:=fM (tp 68) "at_asis" "at_asis" m4 629
def x131 (P:Params):Obj:=dO #[en P "text" 1035 (.ref 499),en P "mark" 1037 (.ref 506),en P "open" 1039 (.ref 513),en P "name" 1041 (.ref 520),en P "slash" 1043 (.ref 527),en P "shut" 1045 (.ref 534),en P "gap" 1047 (.ref 541),en P "attr" 1049 (.ref 548),en P "is" 1051 (.ref 555),en P "bang" 1053 (.ref 562),en P "bare" 1055 (.ref 569),en P "code" 1057 (.ref 576),en P "row" 1059 (.ref 583),en P "stroke" 1061 (.ref 590),en P "quoted" 1063 (.ref 597),en P "qmark" 1065 (.ref 604),en P "done" 1067 (.ref 611),en P "talk" 1069 (.ref 618),en P "tmark" 1070 (.ref 625),en P "asis" 1071 (.ref 630)] 20
def x132:Obj:=cN "moved" 1076 291 2 633 1082
def x133:Obj:=fM (tp 70) "moved" "moved" m4 638
def x134:Obj:=cN "begin" 1087 295 0 640 1090
def x135:Obj:=fM (tp 72) "begin" "begin" m5 645
def x136:Obj:=cN "step" 1093 297 2 647 1098
def x137:Obj:=fM (tp 73) "step" "step" m5 652
def x138:Obj:=cN "run" 1101 299 2 654 1111
def x139:Obj:=fM (tp 74) "run" "run" m5 659
def x140:Obj:=cN "is_end" 1114 309 1 661 1118
def x141:Obj:=fM (tp 75) "is_end" "is_end" m5 666
def x142:Obj:=cN "floored" 1121 311 1 668 1125
def x143:Obj:=fM (tp 76) "floored" "floored" m5 673
def x144 (P:Params):Obj:=dO #[en P "__name__" 165 (.str "law_sealpress_k74_astray_and_no_place" 1354),en P "__doc__" 166 .none,en P "__package__" 167 .none,en P "__loader__" 168 (.builtin "__main__.__loader__#opaque"),en P "__spec__" 169 .none,en P "__annotations__" 170 (.ref 6),en P "__builtins__" 171 (.ref 4),en P "__file__" 173 (.str "/claim/cut.py" 172),en P "__cached__" 174 .none,en P "SealError" 206 (.ref 24),en P "NoSign" 231 (.ref 44),en P "NoCode" 256 (.ref 63),en P "Unread" 281 (.ref 82),en P "Unended" 297 (.ref 94),en P "NoPage" 322 (.ref 113),en P "NoName" 347 (.ref 132),en P "NoSheet" 372 (.ref 151),en P "Twice" 397 (.ref 170),en P "TooMany" 413 (.ref 182),en P "Unknown" 438 (.ref 201),en P "RingOver" 463 (.ref 220),en P "Ringed" 488 (.ref 239),en P "NoElder" 513 (.ref 258),en P "Astray" 540 (.ref 277),en P "NoPlace" 567 (.ref 296),en P "Unlike" 596 (.ref 315),en P "LeftOpen" 621 (.ref 334),en P "NoValue" 646 (.ref 353),en P "NoKind" 671 (.ref 372),en P "NoRow" 687 (.ref 384),en P "SIGNS" 691 (.str " !\"#$&'()*+,-./0123456789:;<=>?@ABCDEFGHIJKLMNOPQRSTUVWXYZ[\\]^_`abcdefghijklmnopqrstuvwxyz{|}~" 690),en P "FIGURES" 693 (.str "0123456789" 692),en P "LETTERS" 695 (.str "abcdefghijklmnopqrstuvwxyz" 694),en P "LONGEST_NAME" 697 (.int 8 696),en P "sign_of" 704 (.ref 393),en P "sign_told" 712 (.ref 400),en P "WORDSIGNS" 714 (.str "abcdefghijklmnopqrstuvwxyz0123456789-" 713),en P "PLACE_MODES" 721 (.ref 401),en P "place_of" 728 (.ref 408),en P "fed_between" 737 (.ref 415),en P "fed_word" 744 (.ref 422),en P "fed_said" 751 (.ref 429),en P "feed" 759 (.ref 436),en P "ASIS_END" 763 (.str "</asis>" 762),en P "MARK_FIGURES" 765 (.int 2 764),en P "come_to" 774 (.ref 443),en P "told" 783 (.ref 450),en P "gathered" 794 (.ref 457),en P "box_shut" 802 (.ref 464),en P "into_box" 811 (.ref 471),en P "led_on" 820 (.ref 478),en P "fed" 830 (.ref 485),en P "mark_ended" 838 (.ref 492),en P "at_text" 848 (.ref 499),en P "at_mark" 858 (.ref 506),en P "at_open" 868 (.ref 513),en P "at_name" 878 (.ref 520),en P "at_slash" 888 (.ref 527),en P "at_shut" 898 (.ref 534),en P "at_gap" 908 (.ref 541),en P "at_attr" 918 (.ref 548),en P "at_is" 928 (.ref 555),en P "at_bang" 938 (.ref 562),en P "at_bare" 948 (.ref 569),en P "at_code" 958 (.ref 576),en P "at_row" 968 (.ref 583),en P "at_stroke" 978 (.ref 590),en P "at_quoted" 988 (.ref 597),en P "at_qmark" 998 (.ref 604),en P "at_done" 1008 (.ref 611),en P "at_talk" 1018 (.ref 618),en P "at_tmark" 1028 (.ref 625),en P "at_asis" 1034 (.ref 630),en P "MODES" 1075 (.ref 631),en P "moved" 1084 (.ref 639),en P "begin" 1092 (.ref 646),en P "step" 1100 (.ref 653),en P "run" 1113 (.ref 660),en P "is_end" 1120 (.ref 667),en P "floored" 1127 (.ref 674),en P "Spot" 1185 (.ref 712),en P "Looking" 1304 (.ref 789),en P "looked_at" 1314 (.ref 800),en P "look" 1321 (.ref 807),en P "branches_of" 1330 (.ref 814),en P "walked" 1342 (.ref 821),en P "state_at" 1353 (.ref 828),en P "_law_cell" 1364 (.ref 835),en P "_law_mix" 1376 (.ref 842),en P "_law_other" 1383 (.ref 849),en P "_law_part" 1391 (.ref 856),en P "_law_fault" 1403 (.ref 863),en P "_law_good" 1418 (.ref 870),en P "_law_some" 1434 (.ref 877),en P "_law_within" 1448 (.ref 884),en P "_law_compound" 1464 (.ref 891),en P "_law_made" 1475 (.ref 898),en P "_law_marked" 1483 (.ref 905),en P "_law_pass" 1494 (.ref 912),en P "_law_inner" 1501 (.ref 919),en P "_law_path" 1517 (.ref 926),en P "_law_text_of" 1530 (.ref 933),en P "_law_due" 1542 (.ref 940),en P "_law_looked" 1551 (.ref 947),en P "_law_refusal" 1558 (.ref 954),en P "_law_ran" 1567 (.ref 961),en P "_law_shows" 1578 (.ref 968),en P "_law_told_places" 1585 (.ref 975),en P "_law_right" 1596 (.ref 982),en P "law" 1606 (.ref 989)] 110
noncomputable def _root_.PySem.W.Fast.tw10244597580150652748:=@x144
theorem _root_.PySem.W.Fast.te10244597580150652748:@x144=@_root_.PySem.W.Fast.tw10244597580150652748:=rfl
def x145 (P:Params):Obj:=dO #[en P "__module__" 1193 m6,en P "__firstlineno__" 1197 (.int 329 1196),en P "__init__" 1205 (.ref 730),en P "look_all" 1216 (.ref 737),en P "look_piece" 1226 (.ref 744),en P "look_literal" 1237 (.ref 751),en P "look_hole" 1247 (.ref 758),en P "look_each" 1258 (.ref 765),en P "look_if" 1269 (.ref 772),en P "look_seat" 1280 (.ref 779),en P "look_drawn" 1293 (.ref 786),en P "__static_attributes__" 1297 (.ref 787),en P "__dict__" 1299 (.ref 790),en P "__weakref__" 1301 (.ref 791),en P "__doc__" 1302 .none] 4
def kh0 (P:Params):Lf:=[(2,boot_o_2 P),(3,x144 P),(15,x2),(22,x4),(23,x6 P),(24,x7),(25,x8),(43,x10 P),(44,x11),(62,x12 P),(63,x13),(78,x14)]
def kh1 (P:Params):Lf:=[(79,x15),(81,x16 P),(82,x17),(93,x18 P),(94,x19),(112,x20 P),(113,x21),(131,x22 P),(132,x23),(150,x24 P),(151,x25),(169,x26 P)]
def kh2 (P:Params):Lf:=[(170,x27),(181,x28 P),(182,x29),(200,x30 P),(201,x31),(219,x32 P),(220,x33),(238,x34 P),(239,x35),(257,x36 P),(258,x37),(273,x38)]
def kh3 (P:Params):Lf:=[(274,x39),(276,x40 P),(277,x41),(292,x42),(293,x43),(295,x44 P),(296,x45),(311,x46),(312,x47),(314,x48 P),(315,x49),(330,x50)]
def kh4 (P:Params):Lf:=[(331,x51),(333,x52 P),(334,x53),(352,x54 P),(353,x55),(371,x56 P),(372,x57),(383,x58 P),(384,x59),(392,x60),(393,x61),(399,x62)]
def kh5 (P:Params):Lf:=[(400,x63),(401,x64),(407,x65),(408,x66),(414,x67),(415,x68),(421,x69),(422,x70),(428,x71),(429,x72),(435,x73),(436,x74)]
def kh6 (P:Params):Lf:=[(442,x75),(443,x76),(449,x77),(450,x78),(456,x79),(457,x80),(463,x81),(464,x82),(470,x83),(471,x84),(477,x85),(478,x86)]
def kh7 (P:Params):Lf:=[(484,x87),(485,x88),(491,x89),(492,x90),(498,x91),(499,x92),(505,x93),(506,x94),(512,x95),(513,x96),(519,x97),(520,x98)]
def kh8 (P:Params):Lf:=[(526,x99),(527,x100),(533,x101),(534,x102),(540,x103),(541,x104),(547,x105),(548,x106),(554,x107),(555,x108),(561,x109),(562,x110)]
def kh9 (P:Params):Lf:=[(568,x111),(569,x112),(575,x113),(576,x114),(582,x115),(583,x116),(589,x117),(590,x118),(596,x119),(597,x120),(603,x121),(604,x122)]
def Cz (P:Params):Lf:=[(610,x123),(611,x124),(617,x125),(618,x126),(624,x127),(625,x128),(629,x129),(630,x130),(631,x131 P),(638,x132),(639,x133),(645,x134)]
def Cy (P:Params):Lf:=[(646,x135),(652,x136),(653,x137),(659,x138),(660,x139),(666,x140),(667,x141),(673,x142),(674,x143),(687,cS "__init__" "Spot.__init__" 1142 316 4 682 1149),(688,fM (tc 78 0) "__init__" "Spot.__init__" m6 687),(694,cS "shown" "Spot.shown" 1152 321 1 689 1156)]
def Cw (P:Params):Lf:=[(695,fM (tc 78 1) "shown" "Spot.shown" m6 694),(701,cS "met" "Spot.met" 1159 324 2 696 1164),(702,fM (tc 78 2) "met" "Spot.met" m6 701),(708,cS "turned" "Spot.turned" 1167 327 2 703 1172),(709,fM (tc 78 3) "turned" "Spot.turned" m6 708),(711,dO #[en P "__module__" 1137 m6,en P "__firstlineno__" 1141 (.int 314 1140),en P "__init__" 1151 (.ref 688),en P "shown" 1158 (.ref 695),en P "met" 1166 (.ref 702),en P "turned" 1174 (.ref 709),en P "__static_attributes__" 1178 (.ref 710),en P "__dict__" 1180 (.ref 713),en P "__weakref__" 1182 (.ref 714),en P "__doc__" 1183 .none] 4),(712,⟨(.type "type"),none,(.cls ⟨"Spot",[.type "object"],[.ref 712,.type "object"],711,"Spot",true,[],[],false,none,false⟩),#[none,none,some (.str "Spot" 1130),some (.str "Spot" 1138),some (.builtin "object.__new__"),some (.bool true)]⟩),(729,cS "__init__" "Looking.__init__" 1198 331 2 724 1203),(730,fM (tc 79 0) "__init__" "Looking.__init__" m6 729),(736,cS "look_all" "Looking.look_all" 1206 336 3 731 1214),(737,fM (tc 79 1) "look_all" "Looking.look_all" m6 736),(743,cS "look_piece" "Looking.look_piece" 1217 342 3 738 1224)]
def Cv (P:Params):Lf:=[(744,fM (tc 79 2) "look_piece" "Looking.look_piece" m6 743),(750,cS "look_literal" "Looking.look_literal" 1227 356 3 745 1235),(751,fM (tc 79 3) "look_literal" "Looking.look_literal" m6 750),(757,cS "look_hole" "Looking.look_hole" 1238 363 3 752 1245),(758,fM (tc 79 4) "look_hole" "Looking.look_hole" m6 757),(764,cS "look_each" "Looking.look_each" 1248 370 3 759 1256),(765,fM (tc 79 5) "look_each" "Looking.look_each" m6 764),(771,cS "look_if" "Looking.look_if" 1259 377 3 766 1267),(772,fM (tc 79 6) "look_if" "Looking.look_if" m6 771),(778,cS "look_seat" "Looking.look_seat" 1270 384 3 773 1278),(779,fM (tc 79 7) "look_seat" "Looking.look_seat" m6 778),(788,x145 P)]
def Cu (P:Params):Lf:=[(789,⟨(.type "type"),none,(.cls ⟨"Looking",[.type "object"],[.ref 789,.type "object"],788,"Looking",true,[],[],false,none,false⟩),#[none,none,some (.str "Looking" 1186),some (.str "Looking" 1194),some (.builtin "object.__new__"),some (.bool true)]⟩),(799,cN "looked_at" 1305 402 2 794 1312),(800,fM (tp 80) "looked_at" "looked_at" m6 799),(806,cN "look" 1315 408 1 801 1319),(807,fM (tp 81) "look" "look" m6 806),(813,cN "branches_of" 1324 411 1 808 1328),(814,fM (tp 83) "branches_of" "branches_of" m7 813),(820,cN "walked" 1331 413 2 815 1340),(821,fM (tp 84) "walked" "walked" m7 820),(827,cN "state_at" 1343 430 2 822 1351),(828,fM (tp 85) "state_at" "state_at" m7 827),(834,cN "_law_cell" 1356 443 2 829 1362)]
def Ct (P:Params):Lf:=[(835,fM (tp 87) "_law_cell" "_law_cell" m8 834),(841,cN "_law_mix" 1365 450 3 836 1374),(842,fM (tp 88) "_law_mix" "_law_mix" m8 841),(848,cN "_law_other" 1377 457 1 843 1381),(849,fM (tp 89) "_law_other" "_law_other" m8 848),(855,cN "_law_part" 1384 461 2 850 1389),(856,fM (tp 90) "_law_part" "_law_part" m8 855),(862,cN "_law_fault" 1392 463 3 857 1401),(863,fM (tp 91) "_law_fault" "_law_fault" m8 862),(869,cN "_law_good" 1404 476 4 864 1416),(870,fM (tp 92) "_law_good" "_law_good" m8 869),(876,cN "_law_some" 1419 488 4 871 1432)]
def Cs (P:Params):Lf:=[(877,fM (tp 93) "_law_some" "_law_some" m8 876),(883,cN "_law_within" 1435 505 6 878 1446),(884,fM (tp 94) "_law_within" "_law_within" m8 883),(890,cN "_law_compound" 1449 508 4 885 1462),(891,fM (tp 95) "_law_compound" "_law_compound" m8 890),(897,cN "_law_made" 1465 519 2 892 1473),(898,fM (tp 96) "_law_made" "_law_made" m8 897),(904,cN "_law_marked" 1476 526 2 899 1481),(905,fM (tp 97) "_law_marked" "_law_marked" m8 904),(911,cN "_law_pass" 1484 532 1 906 1492),(912,fM (tp 98) "_law_pass" "_law_pass" m8 911),(918,cN "_law_inner" 1495 549 1 913 1499)]
def Cr (P:Params):Lf:=[(919,fM (tp 99) "_law_inner" "_law_inner" m8 918),(925,cN "_law_path" 1502 557 2 920 1515),(926,fM (tp 100) "_law_path" "_law_path" m8 925),(932,cN "_law_text_of" 1518 571 2 927 1528),(933,fM (tp 101) "_law_text_of" "_law_text_of" m8 932),(939,cN "_law_due" 1531 580 3 934 1540),(940,fM (tp 102) "_law_due" "_law_due" m8 939),(946,cN "_law_looked" 1543 592 1 941 1549),(947,fM (tp 103) "_law_looked" "_law_looked" m8 946),(953,cN "_law_refusal" 1552 598 1 948 1556),(954,fM (tp 104) "_law_refusal" "_law_refusal" m8 953),(960,cN "_law_ran" 1559 609 2 955 1565)]
def Cq (P:Params):Lf:=[(961,fM (tp 105) "_law_ran" "_law_ran" m8 960),(967,cN "_law_shows" 1568 615 2 962 1576),(968,fM (tp 106) "_law_shows" "_law_shows" m8 967),(974,cN "_law_told_places" 1579 628 1 969 1583),(975,fM (tp 107) "_law_told_places" "_law_told_places" m8 974),(981,cN "_law_right" 1586 632 2 976 1594),(982,fM (tp 108) "_law_right" "_law_right" m8 981),(988,cN "law" 1597 640 1 983 1604),(989,fM (tp 109) "law" "law" m8 988)]
def M3 (P:Params):Lf:=kh0 P++(kh1 P++(kh2 P++(kh3 P++(kh4 P++(kh5 P++(kh6 P++(kh7 P)))))))
def M1 (P:Params):Lf:=kh8 P++(kh9 P++(Cz P++(Cy P++(Cw P++(Cv P++(Cu P++(Ct P)))))))
def O7 (P:Params):Lf:=Cs P++(Cr P++(Cq P))
def KH (P:Params):Lf:=M3 P++(M1 P++(O7 P))
noncomputable def CT:Le:=[2,3,15,22,23,24,25,43,44,62,63,78,79,81,82,93,94,112,113,131,132,150,151,169,170,181,182,200,201,219,220,238,239,257,258,273,274,276,277,292,293,295,296,311,312,314,315,330,331,333,334,352,353,371,372,383,384,392,393,399,400,401,407,408,414,415,421,422,428,429,435,436,442,443,449,450,456,457,463,464,470,471,477,478,484,485,491,492,498,499,505,506,512,513,519,520,526,527,533,534,540,541,547,548,554,555,561,562,568,569,575,576,582,583,589,590,596,597,603,604,610,611,617,618,624,625,629,630,631,638,639,645,646,652,653,659,660,666,667,673,674,687,688,694,695,701,702,708,709,711,712,729,730,736,737,743,744,750,751,757,758,764,765,771,772,778,779,788,789,799,800,806,807,813,814,820,821,827,828,834,835,841,842,848,849,855,856,862,863,869,870,876,877,883,884,890,891,897,898,904,905,911,912,918,919,925,926,932,933,939,940,946,947,953,954,960,961,967,968,974,975,981,982,988,989]
theorem LM (P:Params):CT=(KH P).map (λp=>p.1):=by kernel_rfl
@[reducible] def HK:Hook:=kHook KH CT LM
def sX (s:Shared):List (Option Obj):=CT.map s.heap.get?
def sy (w:World):List (Option Obj):=(KH w.params).map λp=>some p.2
def tb0 (P:Params):BT:=.node (boot_o_0 P) (.node (boot_o_1 P) (.node (boot_o_3 P) (.node (boot_o_7 P) .nil .nil) (.node (Fx P) .nil .nil)) (.node (boot_o_5 P) (.node (boot_o_9 P) .nil .nil) (.node (Fv P) .nil .nil))) (.node (boot_o_2 P) (.node (boot_o_4 P) (.node (boot_o_8 P) .nil .nil) (.node (o12 P) .nil .nil)) (.node (boot_o_6 P) (.node (boot_o_10 P) .nil .nil) (.node (Fu P) .nil .nil)))
def sB (w:World)(os:OsState):SharedT:=⟨tb0 w.params,15,{},#[],{},187,os⟩
noncomputable def iH:Env:={ scope:=pw.main.scope,locals:=mainNs,globals:=mainNs,cells:=[],code:=.ref 13,frame:=some 14 }
noncomputable def VA:List Stmt:=behindTheImports pw
def cE:Code:=.body VA iH
noncomputable def lY:Pos:=⟨0,0,0,0⟩
def B0:List Frame:=[topFrame lY]
noncomputable def i9:Option Value:=some (.ref 6)
noncomputable def mI:Program:=view pw [1,2,3,4,5,6,7,8,9,10,11,12,13,14,15,16,17,18,19,20,21,23,24,25,26,27,28,29,31,32,34,35,36,37,39,40,41,42,43,44,45,46,47,48,49,50,51,52,53,54,55,56,57,58,59,60,61,62,63,64,65,66,67,68,69,70,72,73,74,75,76,78,79,80,81,83,84,85,87,88,89,90,91,92,93,94,95,96,97,98,99,100,101,102,103,104,105,106,107,108,109]
noncomputable def iz:Lj:=["MODES"]
noncomputable def mods:Lj:=importedModules pw.main.body
def tF (s:Shared):Bool:=xlAt mI [] s&&recOk (RowW.records (OpenRow.toRowW (OpenLaw.row PySem.Challenge.rw_sealpress_k74_astray_and_no_place))) s
def Dd (w:World)(r:Flow×SharedT×Code×Pos):=(r.1,r.2.2.1,(staticsOk mods (boot_heap w.params) r.2.1.abs.heap&&namesBound pw r.2.1.abs.heap&&gensDone r.2.1.abs&&laidKept (boot_heap w.params) r.2.1.abs.heap),sX r.2.1.abs)
def WC (r:Flow×SharedT×Code×Pos):=openSeen mI iz mods tF true r.2.1.abs
def BP (P:Params):BT:=(.node x13 (.node (gM (tc 7 0) "__init__" "NoName.__init__") (.node (fM (tc 14 0) "__init__" "NoElder.__init__" m0 254) (.node (gM (tp 51) "at_open" "at_open") .nil .nil) .nil) (.node (x58 P) (.node x133 .nil .nil) .nil)) (.node (rM 190 187 m0) (.node x3 (.node x113 .nil .nil) .nil) (.node x4 .nil .nil)))
def BO (P:Params):BT:=(.node (sO 94) (.node (cK "Twice" 375 36 157 378) (.node x4 (.node x5 .nil .nil) .nil) (.node x68 (.node x4 .nil .nil) .nil)) (.node x9 (.node (tO #[.str "name" 642]) (.node (tO #[.str "word" 1002,.str "opens" 1003,.str "talk" 1004,.str "sign" 1005]) .nil .nil) .nil) (.node x4 .nil .nil)))
def BN (P:Params):BT:=(.node x15 (.node x5 (.node x4 (.node x100 .nil .nil) .nil) (.node x62 (.node x5 .nil .nil) .nil)) (.node x4 (.node (sO 334) (.node x4 .nil .nil) .nil) (.node x81 .nil .nil)))
def BM (P:Params):BT:=(.node (tO #[.str "at" 318]) (.node (dO #[en P "__module__" 405 m0,en P "__qualname__" 407 (.str "TooMany" 406),en P "__firstlineno__" 409 (.int 41 408),en P "__static_attributes__" 410 (.ref 180)] 4) (.node (pO #[.int 77 0,.int 4 0,.ref 311]) (.node x4 .nil .nil) .nil) (.node x5 .nil .nil)) (.node x35 (.node (gM (tc 20 0) "__init__" "NoKind.__init__") (.node (gM (tp 67) "at_tmark" "at_tmark") .nil .nil) .nil) (.node (tO #[.str "word" 842,.str "opens" 843,.str "talk" 844,.str "sign" 845]) .nil .nil)))
def BL (P:Params):BT:=(.node (cK "Unread" 259 14 69 262) (.node x9 (.node (mK P 521 m0 "Astray" 63 534 274 537 275) (.node x97 .nil .nil) .nil) (.node (gM (tp 27) "sign_of" "sign_of") (.node x4 .nil .nil) .nil)) (.node (tO #[.str "name" 434]) (.node (tO #[.str "self" 612,.str "place" 613]) (.node x116 .nil .nil) .nil) (.node (gM (tp 43) "gathered" "gathered") .nil .nil)))
def BK (P:Params):BT:=(.node (rM 102 99 m0) (.node (fM (tc 9 0) "__init__" "Twice.__init__" m0 166) (.node (x44 P) (.node (tO #[.str "word" 922,.str "opens" 923,.str "talk" 924,.str "sign" 925]) .nil .nil) .nil) (.node x4 .nil .nil)) (.node x5 (.node x4 (.node x4 .nil .nil) .nil) (.node x5 .nil .nil)))
def BJ (P:Params):BT:=(.node (dO #[en P "__module__" 289 m0,en P "__qualname__" 291 (.str "Unended" 290),en P "__firstlineno__" 293 (.int 19 292),en P "__static_attributes__" 294 (.ref 92)] 4) (.node x25 (.node (mf 277) (.node x4 .nil .nil) .nil) (.node x65 (.node (tO #[.str "state" 1117]) .nil .nil) .nil)) (.node (gM (tc 12 0) "__init__" "RingOver.__init__") (.node (rM 342 339 m0) (.node x5 .nil .nil) .nil) (.node x84 .nil .nil)))
def BI (P:Params):BT:=(.node x4 (.node (sO 182) (.node x46 (.node (gM (tp 59) "at_bare" "at_bare") .nil .nil) .nil) (.node (tO #[.str "mode" 769,.str "opens" 770,.str "events" 771]) .nil .nil)) (.node (cK "NoElder" 491 58 245 494) (.node x9 (.node (x131 P) .nil .nil) .nil) (.node x4 .nil .nil)))
def BH (P:Params):BT:=(.node x3 (.node (x22 P) (.node (sO 258) (.node x5 .nil .nil) .nil) (.node x4 (.node x4 .nil .nil) .nil)) (.node x4 (.node (cK "LeftOpen" 599 82 321 602) (.node (tO #[.str "word" 962,.str "opens" 963,.str "talk" 964,.str "sign" 965]) .nil .nil) .nil) (.node x4 .nil .nil)))
def BG (P:Params):BT:=(.node (mK P 305 m0 "NoPage" 21 317 110 319 111) (.node (tO #[.str "self" 388,.str "name" 389]) (.node (gM (tc 16 0) "__init__" "NoPlace.__init__") (.node x105 .nil .nil) .nil) (.node x4 .nil .nil)) (.node (pO #[.int 55 0,.int 4 0,.ref 235]) (.node (mf 353) (.node x124 .nil .nil) .nil) (.node (gM (tp 47) "fed" "fed") .nil .nil)))
def LL (P:Params):BT:=(.node (sO 82) (.node (cS "__init__" "NoSheet.__init__" 360 33 2 142 365) (.node (tO #[.str "at" 535,.str "place" 536]) (.node x4 .nil .nil) .nil) (.node x5 (.node x138 .nil .nil) .nil)) (.node x4 (.node (mK P 629 m0 "NoValue" 87 641 350 643 351) (.node (gM (tp 63) "at_quoted" "at_quoted") .nil .nil) .nil) (.node (tO #[.str "opens" 806,.str "events" 807,.str "mode" 808]) .nil .nil)))
def LK (P:Params):BT:=(.node (mf 113) (.node (rM 178 175 m0) (.node x5 (.node x4 .nil .nil) .nil) (.node x73 .nil .nil)) (.node x3 (.node (x56 P) (.node x5 .nil .nil) .nil) (.node x92 .nil .nil)))
def LJ (P:Params):BT:=(.node (tO #[.str "self" 272,.str "at" 273]) (.node (pO #[.int 33 0,.int 4 0,.ref 147]) (.node (rM 266 263 m0) (.node (tO #[.str "word" 882,.str "opens" 883,.str "talk" 884,.str "sign" 885]) .nil .nil) .nil) (.node x5 (.node (gM (tp 73) "step" "step") .nil .nil) .nil)) (.node (mf 201) (.node x51 (.node x4 .nil .nil) .nil) (.node x5 .nil .nil)))
def LI (P:Params):BT:=(.node x4 (.node (sO 170) (.node x9 (.node x108 .nil .nil) .nil) (.node (gM (tp 36) "fed_said" "fed_said") .nil .nil)) (.node (cS "__init__" "Ringed.__init__" 476 55 2 230 481) (.node x4 (.node x4 .nil .nil) .nil) (.node x89 .nil .nil)))
def LH (P:Params):BT:=(.node (rM 90 87 m0) (.node x3 (.node x4 (.node (gM (tp 55) "at_gap" "at_gap") .nil .nil) .nil) (.node (tO #[.str "sign" 734]) (.node x141 .nil .nil) .nil)) (.node (x32 P) (.node x4 (.node x121 .nil .nil) .nil) (.node x4 .nil .nil)))
def LG (P:Params):BT:=(.node x4 (.node (mK P 421 m0 "Unknown" 43 433 198 435 199) (.node x49 (.node x5 .nil .nil) .nil) (.node x76 .nil .nil)) (.node (tO #[.str "self" 504,.str "name" 505]) (.node x5 (.node (tO #[.str "state" 1079,.str "sign" 1080,.str "act" 1081]) .nil .nil) .nil) (.node x4 .nil .nil)))
def LF (P:Params):BT:=(.node (mf 63) (.node (fM (tc 7 0) "__init__" "NoName.__init__" m0 128) (.node (x36 P) (.node x96 .nil .nil) .nil) (.node (sO 384) (.node x5 .nil .nil) .nil)) (.node x5 (.node x4 (.node x4 .nil .nil) .nil) (.node x77 .nil .nil)))
def Mj (P:Params):BT:=(.node x9 (.node x4 (.node (tO #[.str "self" 556,.str "name" 557,.str "place" 558]) (.node x4 .nil .nil) .nil) (.node x5 (.node x142 .nil .nil) .nil)) (.node (mK P 471 m0 "Ringed" 53 483 236 485 237) (.node x55 (.node (gM (tp 65) "at_done" "at_done") .nil .nil) .nil) (.node (tO #[.str "opens" 824,.str "talk" 825,.str "sign" 826,.str "answer" 827]) .nil .nil)))
def Mi (P:Params):BT:=(.node (x16 P) (.node x4 (.node x38 (.node x5 .nil .nil) .nil) (.node x64 (.node x4 .nil .nil) .nil)) (.node (cK "RingOver" 441 48 207 444) (.node x9 (.node (tO #[.str "word" 982,.str "opens" 983,.str "talk" 984,.str "sign" 985]) .nil .nil) .nil) (.node x4 .nil .nil)))
def Mh (P:Params):BT:=(.node x21 (.node x5 (.node (rM 304 301 m0) (.node x109 .nil .nil) .nil) (.node x4 .nil .nil)) (.node (mf 239) (.node (fM (tc 20 0) "__init__" "NoKind.__init__" m0 368) (.node x128 .nil .nil) .nil) (.node (gM (tp 49) "at_text" "at_text") .nil .nil)))
def Mg (P:Params):BT:=(.node x4 (.node (mK P 355 m0 "NoSheet" 31 367 148 369 149) (.node (pO #[.int 65 0,.int 4 0,.ref 273]) (.node x4 .nil .nil) .nil) (.node x61 (.node (tO #[.str "state" 1096,.str "sign" 1097]) .nil .nil) .nil)) (.node x31 (.node (gM (tc 18 0) "__init__" "LeftOpen.__init__") (.node x5 .nil .nil) .nil) (.node x80 .nil .nil)))
def Mf (P:Params):BT:=(.node x5 (.node (x26 P) (.node (sO 296) (.node (gM (tp 57) "at_is" "at_is") .nil .nil) .nil) (.node (tO #[.str "sign" 748]) .nil .nil)) (.node x4 (.node (cK "NoKind" 649 92 359 652) (.node x125 .nil .nil) .nil) (.node x4 .nil .nil)))
def Me (P:Params):BT:=(.node x5 (.node (mf 151) (.node x3 (.node (tO #[.str "word" 902,.str "opens" 903,.str "talk" 904,.str "sign" 905]) .nil .nil) .nil) (.node x4 (.node (gM (tp 75) "is_end" "is_end") .nil .nil) .nil)) (.node (fM (tc 12 0) "__init__" "RingOver.__init__" m0 216) (.node x5 (.node x4 .nil .nil) .nil) (.node x5 .nil .nil)))
def Md (P:Params):BT:=(.node (cK "NoName" 325 26 119 328) (.node x9 (.node (tO #[.str "one" 590,.str "other" 591,.str "what" 592]) (.node x112 .nil .nil) .nil) (.node (gM (tp 41) "come_to" "come_to") .nil .nil)) (.node x4 (.node (dO #[en P "__module__" 679 m0,en P "__qualname__" 681 (.str "NoRow" 680),en P "__firstlineno__" 683 (.int 97 682),en P "__static_attributes__" 684 (.ref 382)] 4) (.node x4 .nil .nil) .nil) (.node x93 .nil .nil)))
def Mc (P:Params):BT:=(.node x4 (.node (sO 132) (.node x9 (.node x4 .nil .nil) .nil) (.node (tO #[.str "number" 701]) (.node x134 .nil .nil) .nil)) (.node (cS "__init__" "Unknown.__init__" 426 45 2 192 431) (.node x4 (.node (gM (tp 61) "at_row" "at_row") .nil .nil) .nil) (.node (tO #[.str "mode" 787,.str "word" 788,.str "opens" 789,.str "talk" 790,.str "most" 791]) .nil .nil)))
def Mb (P:Params):BT:=(.node (pO #[.int 23 0,.int 4 0,.ref 109]) (.node (gM (tc 9 0) "__init__" "Twice.__init__") (.node x43 (.node x4 .nil .nil) .nil) (.node x69 .nil .nil)) (.node (rM 228 225 m0) (.node x3 (.node x5 .nil .nil) .nil) (.node x88 .nil .nil)))
def Ma (P:Params):BT:=(.node x9 (.node (tO #[.str "at" 368]) (.node x41 (.node x101 .nil .nil) .nil) (.node x4 (.node x4 .nil .nil) .nil)) (.node (tO #[.str "self" 454,.str "ring" 455]) (.node (pO #[.int 89 0,.int 4 0,.ref 349]) (.node x120 .nil .nil) .nil) (.node (gM (tp 45) "into_box" "into_box") .nil .nil)))
def HV (P:Params):BT:=(.node x3 (.node (x28 P) (.node x4 (.node (tO #[.str "word" 942,.str "opens" 943,.str "talk" 944,.str "sign" 945]) .nil .nil) .nil) (.node x4 .nil .nil)) (.node x4 (.node (sO 372) (.node x129 .nil .nil) .nil) (.node x5 .nil .nil)))
def HU (P:Params):BT:=(.node (gM (tc 4 0) "__init__" "Unread.__init__") (.node (rM 140 137 m0) (.node x5 (.node (gM (tp 53) "at_slash" "at_slash") .nil .nil) .nil) (.node x4 (.node x137 .nil .nil) .nil)) (.node x3 (.node (x52 P) (.node x117 .nil .nil) .nil) (.node x4 .nil .nil)))
def HS (P:Params):BT:=(.node (cS "__init__" "NoPage.__init__" 310 23 2 104 315) (.node x9 (.node (mK P 575 m0 "Unlike" 75 589 312 593 313) (.node x5 .nil .nil) .nil) (.node x72 .nil .nil)) (.node (tO #[.str "ring" 484]) (.node (tO #[.str "self" 662,.str "name" 663]) (.node (tO #[.str "word" 1022,.str "opens" 1023,.str "talk" 1024,.str "sign" 1025]) .nil .nil) .nil) (.node x4 .nil .nil)))
def HR (P:Params):BT:=(.node (x18 P) (.node x4 (.node (cK "NoPlace" 543 69 283 546) (.node x104 .nil .nil) .nil) (.node (gM (tp 34) "fed_between" "fed_between") (.node x5 .nil .nil) .nil)) (.node (sO 220) (.node (cS "__init__" "NoValue.__init__" 634 89 2 344 639) (.node x4 .nil .nil) .nil) (.node x85 .nil .nil)))
def HQ (P:Params):BT:=(.node (tO #[.str "self" 338,.str "name" 339]) (.node (pO #[.int 45 0,.int 4 0,.ref 197]) (.node (mf 315) (.node x4 .nil .nil) .nil) (.node x5 .nil .nil)) (.node (gM (tc 14 0) "__init__" "NoElder.__init__") (.node (rM 380 377 m0) (.node (gM (tp 70) "moved" "moved") .nil .nil) .nil) (.node (tO #[.str "word" 862,.str "opens" 863,.str "talk" 864,.str "sign" 865]) .nil .nil)))
def HP (P:Params):BT:=(.node (sO 63) (.node (cS "__init__" "NoName.__init__" 335 28 2 123 340) (.node (tO #[.str "name" 509]) (.node x95 .nil .nil) .nil) (.node x59 (.node x4 .nil .nil) .nil)) (.node x4 (.node (mK P 604 m0 "LeftOpen" 82 616 331 618 332) (.node x114 .nil .nil) .nil) (.node (gM (tp 42) "told" "told") .nil .nil)))
def HN (P:Params):BT:=(.node (mf 94) (.node (rM 159 156 m0) (.node x5 (.node (tO #[.str "word" 912,.str "opens" 913,.str "talk" 914,.str "sign" 915]) .nil .nil) .nil) (.node x4 (.node (gM (tp 76) "floored" "floored") .nil .nil) .nil)) (.node x3 (.node (x54 P) (.node x4 .nil .nil) .nil) (.node x5 .nil .nil)))
def HM (P:Params):BT:=(.node (tO #[.str "at" 277]) (.node (tO #[.str "self" 363,.str "at" 364]) (.node (gM (tc 15 0) "__init__" "Astray.__init__") (.node x4 .nil .nil) .nil) (.node x63 (.node (tO #[.str "state" 1104,.str "text" 1105,.str "now" 1106,.str "events" 1107,.str "at" 1108,.str "sign" 1109,.str "answer" 1110]) .nil .nil) .nil)) (.node (pO #[.int 50 0,.int 4 0,.ref 216]) (.node (mf 334) (.node x5 .nil .nil) .nil) (.node x82 .nil .nil)))
def HL (P:Params):BT:=(.node (x20 P) (.node x4 (.node (cK "Unlike" 570 75 302 573) (.node (gM (tp 58) "at_bang" "at_bang") .nil .nil) .nil) (.node (tO #[.str "talk" 755,.str "sign" 756]) .nil .nil)) (.node (sO 239) (.node (cS "__init__" "NoKind.__init__" 659 94 2 363 664) (.node x127 .nil .nil) .nil) (.node x4 .nil .nil)))
def HJ (P:Params):BT:=(.node (rM 71 68 m0) (.node x3 (.node x4 (.node x98 .nil .nil) .nil) (.node x60 (.node x5 .nil .nil) .nil)) (.node (x30 P) (.node x4 (.node x4 .nil .nil) .nil) (.node x79 .nil .nil)))
def HI (P:Params):BT:=(.node x4 (.node (tO #[.str "name" 393]) (.node x45 (.node x4 .nil .nil) .nil) (.node x5 .nil .nil)) (.node (tO #[.str "self" 479,.str "ring" 480]) (.node (pO #[.int 94 0,.int 4 0,.ref 368]) (.node (gM (tp 66) "at_talk" "at_talk") .nil .nil) .nil) (.node (tO #[.str "word" 834,.str "sign" 835]) .nil .nil)))
def HH (P:Params):BT:=(.node x4 (.node (sO 151) (.node x9 (.node x5 .nil .nil) .nil) (.node x66 (.node x4 .nil .nil) .nil)) (.node (cS "__init__" "RingOver.__init__" 451 50 2 211 456) (.node x4 (.node (tO #[.str "word" 992,.str "opens" 993,.str "talk" 994,.str "sign" 995]) .nil .nil) .nil) (.node x4 .nil .nil)))
def HG (P:Params):BT:=(.node (pO #[.int 28 0,.int 4 0,.ref 128]) (.node (mf 182) (.node x47 (.node x111 .nil .nil) .nil) (.node x4 .nil .nil)) (.node (rM 247 244 m0) (.node x3 (.node (dO #[en P "talk" 1069 (.ref 618),en P "tmark" 1070 (.ref 625),en P "asis" 1071 (.ref 630)] 3) .nil .nil) .nil) (.node (gM (tp 50) "at_mark" "at_mark") .nil .nil)))
def HF (P:Params):BT:=(.node (mK P 264 m0 "Unread" 14 276 79 278 80) (.node x23 (.node (mf 258) (.node (tO #[.str "word" 872,.str "opens" 873,.str "talk" 874,.str "sign" 875]) .nil .nil) .nil) (.node x5 (.node (gM (tp 72) "begin" "begin") .nil .nil) .nil)) (.node (gM (tc 11 0) "__init__" "Unknown.__init__") (.node (rM 323 320 m0) (.node x4 .nil .nil) .nil) (.node x5 .nil .nil)))
def HE (P:Params):BT:=(.node x4 (.node x4 (.node x42 (.node x106 .nil .nil) .nil) (.node (gM (tp 35) "fed_word" "fed_word") .nil .nil)) (.node (cK "Ringed" 466 53 226 469) (.node x9 (.node x4 .nil .nil) .nil) (.node x87 .nil .nil)))
def HD (P:Params):BT:=(.node (mf 82) (.node (fM (tc 8 0) "__init__" "NoSheet.__init__" m0 147) (.node (x40 P) (.node (gM (tp 54) "at_shut" "at_shut") .nil .nil) .nil) (.node (tO #[.str "state" 725]) (.node x139 .nil .nil) .nil)) (.node x5 (.node x4 (.node x119 .nil .nil) .nil) (.node x4 .nil .nil)))
def HC (P:Params):BT:=(.node x9 (.node x4 (.node (tO #[.str "self" 583,.str "what" 584,.str "one" 585,.str "other" 586]) (.node x5 .nil .nil) .nil) (.node x74 .nil .nil)) (.node (mK P 496 m0 "NoElder" 58 508 255 510 256) (.node x57 (.node (gM (tp 68) "at_asis" "at_asis") .nil .nil) .nil) (.node x4 .nil .nil)))
def Hz (P:Params):BT:=(.node x4 (.node (cK "NoSheet" 350 31 138 353) (.node x4 (.node x4 .nil .nil) .nil) (.node (tO #[.str "figures" 708,.str "number" 709]) (.node x136 .nil .nil) .nil)) (.node x9 (.node (tO #[.str "place" 617]) (.node (gM (tp 62) "at_stroke" "at_stroke") .nil .nil) .nil) (.node (tO #[.str "opens" 798,.str "events" 799]) .nil .nil)))
def Hy (P:Params):BT:=(.node (gM (tc 6 0) "__init__" "NoPage.__init__") (.node (mf 170) (.node x3 (.node x4 .nil .nil) .nil) (.node x71 .nil .nil)) (.node (fM (tc 13 0) "__init__" "Ringed.__init__" m0 235) (.node x5 (.node x5 .nil .nil) .nil) (.node x90 .nil .nil)))
def Hw (P:Params):BT:=(.node x4 (.node (mK P 380 m0 "Twice" 36 392 167 394 168) (.node (pO #[.int 71 0,.int 4 0,.ref 292]) (.node x103 .nil .nil) .nil) (.node x4 (.node x4 .nil .nil) .nil)) (.node x33 (.node (gM (tc 19 0) "__init__" "NoValue.__init__") (.node x122 .nil .nil) .nil) (.node (gM (tp 46) "led_on" "led_on") .nil .nil)))
def Hv (P:Params):BT:=(.node x5 (.node x4 (.node (sO 315) (.node (tO #[.str "word" 952,.str "opens" 953,.str "talk" 954,.str "sign" 955]) .nil .nil) .nil) (.node x4 .nil .nil)) (.node x4 (.node (cK "NoRow" 674 97 378 677) (.node x4 .nil .nil) .nil) (.node x5 .nil .nil)))
def Hu (P:Params):BT:=(.node x9 (.node (tO #[.str "name" 343]) (.node x37 (.node x4 .nil .nil) .nil) (.node (mf 384) (.node x4 .nil .nil) .nil)) (.node (tO #[.str "self" 429,.str "name" 430]) (.node (pO #[.int 84 0,.int 4 0,.ref 330]) (.node x5 .nil .nil) .nil) (.node x78 .nil .nil)))
def Ht (P:Params):BT:=(.node x3 (.node x5 (.node x4 (.node (gM (tp 56) "at_attr" "at_attr") .nil .nil) .nil) (.node (tO #[.str "sign" 741]) (.node x143 .nil .nil) .nil)) (.node x4 (.node (sO 353) (.node x123 .nil .nil) .nil) (.node x4 .nil .nil)))
def Hr (P:Params):BT:=(.node x17 (.node (gM (tc 8 0) "__init__" "NoSheet.__init__") (.node x39 (.node (tO #[.str "word" 892,.str "opens" 893,.str "talk" 894,.str "sign" 895]) .nil .nil) .nil) (.node x4 (.node (gM (tp 74) "run" "run") .nil .nil) .nil)) (.node (rM 209 206 m0) (.node x3 (.node x4 .nil .nil) .nil) (.node x5 .nil .nil)))
def Hq (P:Params):BT:=(.node (sO 113) (.node (cK "TooMany" 400 41 176 403) (.node x4 (.node x110 .nil .nil) .nil) (.node (gM (tp 37) "feed" "feed") .nil .nil)) (.node x9 (.node (tO #[.str "name" 667]) (.node x4 .nil .nil) .nil) (.node x91 .nil .nil)))
def Hn (P:Params):BT:=(.node x5 (.node x4 (.node (cK "Astray" 516 63 264 519) (.node x5 .nil .nil) .nil) (.node x4 (.node x4 .nil .nil) .nil)) (.node (sO 201) (.node x50 (.node (tO #[.str "word" 972,.str "opens" 973,.str "talk" 974,.str "sign" 975]) .nil .nil) .nil) (.node x4 .nil .nil)))
def IC (P:Params):BT:=(.node (tO #[.str "self" 313,.str "at" 314]) (.node x27 (.node (mf 296) (.node x107 .nil .nil) .nil) (.node x4 .nil .nil)) (.node (gM (tc 13 0) "__init__" "Ringed.__init__") (.node (rM 361 358 m0) (.node x126 .nil .nil) .nil) (.node (gM (tp 48) "mark_ended" "mark_ended") .nil .nil)))
def IA (P:Params):BT:=(.node (cK "Unended" 284 19 88 287) (.node x9 (.node (mK P 548 m0 "NoPlace" 69 561 293 564 294) (.node x4 .nil .nil) .nil) (.node x5 (.node x140 .nil .nil) .nil)) (.node (tO #[.str "ring" 459]) (.node (tO #[.str "self" 637,.str "name" 638]) (.node (gM (tp 64) "at_qmark" "at_qmark") .nil .nil) .nil) (.node (tO #[.str "opens" 815,.str "sign" 816,.str "events" 817]) .nil .nil)))
def Iz (P:Params):BT:=(.node (rM 121 118 m0) (.node x3 (.node (x48 P) (.node x4 .nil .nil) .nil) (.node x75 .nil .nil)) (.node x5 (.node x4 (.node x5 .nil .nil) .nil) (.node x94 .nil .nil)))
def Iy (P:Params):BT:=(.node (pO #[.int 16 0,.int 4 0,.ref 78]) (.node (mf 132) (.node x3 (.node (gM (tp 52) "at_name" "at_name") .nil .nil) .nil) (.node x4 (.node x135 .nil .nil) .nil)) (.node (fM (tc 11 0) "__init__" "Unknown.__init__" m0 197) (.node x5 (.node x115 .nil .nil) .nil) (.node x4 .nil .nil)))
def Iw (P:Params):BT:=(.node (cK "NoPage" 300 21 100 303) (.node (cS "__init__" "Twice.__init__" 385 38 2 161 390) (.node (tO #[.str "name" 562,.str "place" 563]) (.node x5 .nil .nil) .nil) (.node x70 .nil .nil)) (.node x4 (.node (mK P 654 m0 "NoKind" 92 666 369 668 370) (.node (tO #[.str "word" 1012,.str "opens" 1013,.str "talk" 1014,.str "sign" 1015]) .nil .nil) .nil) (.node x4 .nil .nil)))
def Iv (P:Params):BT:=(.node x3 (.node (x24 P) (.node (sO 277) (.node x102 .nil .nil) .nil) (.node (gM (tp 32) "place_of" "place_of") (.node x5 .nil .nil) .nil)) (.node x4 (.node (cK "NoValue" 624 87 340 627) (.node x4 .nil .nil) .nil) (.node x83 .nil .nil)))
def Iu (P:Params):BT:=(.node (mK P 330 m0 "NoName" 26 342 129 344 130) (.node x29 (.node (gM (tc 17 0) "__init__" "Unlike.__init__") (.node x4 .nil .nil) .nil) (.node x5 .nil .nil)) (.node (pO #[.int 60 0,.int 4 0,.ref 254]) (.node (mf 372) (.node x130 .nil .nil) .nil) (.node (tO #[.str "word" 852,.str "opens" 853,.str "talk" 854,.str "sign" 855]) .nil .nil)))
def Ir (P:Params):BT:=(.node x14 (.node x4 (.node (tO #[.str "self" 529,.str "place" 530,.str "at" 531]) (.node x99 .nil .nil) .nil) (.node (gM (tp 28) "sign_told" "sign_told") (.node x4 .nil .nil) .nil)) (.node (mK P 446 m0 "RingOver" 48 458 217 460 218) (.node x53 (.node x118 .nil .nil) .nil) (.node (gM (tp 44) "box_shut" "box_shut") .nil .nil)))
def Iq (P:Params):BT:=(.node (fM (tc 6 0) "__init__" "NoPage.__init__" m0 109) (.node x3 (.node x4 (.node (tO #[.str "word" 932,.str "opens" 933,.str "talk" 934,.str "sign" 935]) .nil .nil) .nil) (.node x4 .nil .nil)) (.node (x34 P) (.node x4 (.node x4 .nil .nil) .nil) (.node x5 .nil .nil)))
def Ip (P:Params):BT:=(.node x19 (.node (pO #[.int 38 0,.int 4 0,.ref 166]) (.node (rM 285 282 m0) (.node x4 .nil .nil) .nil) (.node x67 (.node (tO #[.str "state" 1124]) .nil .nil) .nil)) (.node (mf 220) (.node (fM (tc 19 0) "__init__" "NoValue.__init__" m0 349) (.node x5 .nil .nil) .nil) (.node x86 .nil .nil)))
def Io (P:Params):BT:=(.node x4 (.node (cK "Unknown" 416 43 188 419) (.node x9 (.node (gM (tp 60) "at_code" "at_code") .nil .nil) .nil) (.node (tO #[.str "mode" 778,.str "opens" 779,.str "sign" 780]) .nil .nil)) (.node (cS "__init__" "NoElder.__init__" 501 60 2 249 506) (.node x4 (.node x132 .nil .nil) .nil) (.node x4 .nil .nil)))
def tr0 (P:Params):BT:=(.node (boot_o_0 P) (.node (boot_o_1 P) (.node (x0 P) (.node (boot_o_7 P) (.node x2 (.node x4 (BP P) (BO P)) (.node x9 (BN P) (BM P))) (.node (x6 P) (.node (gM (tc 2 0) "__init__" "NoSign.__init__") (BL P) (BK P)) (.node x5 (BJ P) (BI P)))) (.node (Fx P) (.node x5 (.node x4 (BH P) (BG P)) (.node (pO #[.int 11 0,.int 4 0,.ref 59]) (LL P) (LK P))) (.node (mf 24) (.node (x10 P) (LJ P) (LI P)) (.node (cS "__init__" "NoCode.__init__" 244 11 2 54 249) (LH P) (LG P))))) (.node (boot_o_5 P) (.node (boot_o_9 P) (.node (dO #[en P "__module__" 196 (.str "sealpress.errors" 187),en P "__qualname__" 198 (.str "SealError" 197),en P "__firstlineno__" 200 (.int 2 199),en P "__static_attributes__" 201 (.ref 22)] 4) (.node (cK "NoSign" 209 4 31 212) (LF P) (Mj P)) (.node (mK P 239 m0 "NoCode" 9 251 60 253 61) (Mi P) (Mh P))) (.node x8 (.node (fM (tc 2 0) "__init__" "NoSign.__init__" m0 40) (Mg P) (Mf P)) (.node x4 (Me P) (Md P)))) (.node (Fv P) (.node (rM 20 17 m0) (.node (tO #[.str "self" 222,.str "at" 223]) (Mc P) (Mb P)) (.node (rM 52 49 m0) (Ma P) (HV P))) (.node x3 (.node (sO 44) (HU P) (HS P)) (.node (tO #[.str "at" 252]) (HR P) (HQ P)))))) (.node (boot_o_2 P) (.node (boot_o_4 P) (.node (boot_o_8 P) (.node x3 (.node (pO #[.int 6 0,.int 4 0,.ref 40]) (HP P) (HN P)) (.node x3 (HM P) (HL P))) (.node x7 (.node (cS "__init__" "NoSign.__init__" 219 6 2 35 224) (HJ P) (HI P)) (.node (tO #[.str "self" 247,.str "at" 248]) (HH P) (HG P)))) (.node x1 (.node (cK "SealError" 191 2 18 194) (.node x5 (HF P) (HE P)) (.node (cK "NoCode" 234 9 50 237) (HD P) (HC P))) (.node x9 (.node x11 (Hz P) (Hy P)) (.node (fM (tc 3 0) "__init__" "NoCode.__init__" m0 59) (Hw P) (Hv P))))) (.node (boot_o_6 P) (.node (boot_o_10 P) (.node x4 (.node (rM 33 30 m0) (Hu P) (Ht P)) (.node x4 (Hr P) (Hq P))) (.node (sO 24) (.node (tO #[.str "at" 227]) (Hn P) (IC P)) (.node (gM (tc 3 0) "__init__" "NoCode.__init__") (IA P) (Iz P)))) (.node (Fu P) (.node x4 (.node x4 (Iy P) (Iw P)) (.node x4 (Iv P) (Iu P))) (.node (mK P 214 m0 "NoSign" 4 226 41 228 42) (.node (mf 44) (Ir P) (Iq P)) (.node (x12 P) (Ip P) (Io P)))))))
noncomputable def _root_.PySem.W.Fast.tw6547229071341507409:=@tr0
theorem _root_.PySem.W.Fast.te6547229071341507409:@tr0=@_root_.PySem.W.Fast.tw6547229071341507409:=rfl
def oG (w:World)(os:OsState):SharedT:=⟨tr0 w.params,675,{},#[],{},1130,os⟩
def t8:List Stmt:=VA.take 78
def nO:List Stmt:=VA.drop 78
def pjA:=λ(r:Flow×SharedT×Code×Pos)=>(λx=>x.1) (WC r)
def Ka (w:World)(os:OsState):=(segRunT treeTable pw w 11 i9 1 1857 (oG w os) (piecesOf nO iH cE (⟨313,0,313,8⟩:Pos) B0)).map pjA
def Kb (_:World)(_:OsState):=some ((λx=>x.1) (openGood mI iz))
theorem O6:@Ka = @Ka:=rfl
theorem O5:@Kb = @Kb:=rfl
name_quick lhsGAQ for My.Ka by My.O6
name_quick rhsGAQ for My.Kb by My.O5
theorem Im (w:World):PySem.W.Fast.lhsGAQ (w.withFollow "special-get-raises" false)=PySem.W.Fast.rhsGAQ (w.withFollow "special-get-raises" false):=by kernel_rfl
theorem Il (w:World):PySem.W.Fast.lhsGAQ (w.withFollow "special-get-raises" true)=PySem.W.Fast.rhsGAQ (w.withFollow "special-get-raises" true):=by kernel_rfl
theorem Co (w:World):PySem.W.Fast.lhsGAQ w=PySem.W.Fast.rhsGAQ w:=byRow2 "special-get-raises" (P:=λw=>PySem.W.Fast.lhsGAQ w=PySem.W.Fast.rhsGAQ w) Im Il w
theorem Sy (w:World):Ka w=Kb w:=(congrFun PySem.W.Fast.lhsGAQ_eq w).trans ((Co w).trans (congrFun PySem.W.Fast.rhsGAQ_eq w).symm)
def pjB:=λ(r:Flow×SharedT×Code×Pos)=>(λx=>x.2.1) (WC r)
def Kc (w:World)(os:OsState):=(segRunT treeTable pw w 11 i9 1 1857 (oG w os) (piecesOf nO iH cE (⟨313,0,313,8⟩:Pos) B0)).map pjB
def Kd (_:World)(_:OsState):=some ((λx=>x.2.1) (openGood mI iz))
theorem O4:@Kc = @Kc:=rfl
theorem O3:@Kd = @Kd:=rfl
name_quick lhsGBQ for My.Kc by My.O4
name_quick rhsGBQ for My.Kd by My.O3
theorem Ik (w:World):PySem.W.Fast.lhsGBQ (w.withFollow "special-get-raises" false)=PySem.W.Fast.rhsGBQ (w.withFollow "special-get-raises" false):=by kernel_rfl
theorem Ij (w:World):PySem.W.Fast.lhsGBQ (w.withFollow "special-get-raises" true)=PySem.W.Fast.rhsGBQ (w.withFollow "special-get-raises" true):=by kernel_rfl
theorem Cn (w:World):PySem.W.Fast.lhsGBQ w=PySem.W.Fast.rhsGBQ w:=byRow2 "special-get-raises" (P:=λw=>PySem.W.Fast.lhsGBQ w=PySem.W.Fast.rhsGBQ w) Ik Ij w
theorem Sx (w:World):Kc w=Kd w:=(congrFun PySem.W.Fast.lhsGBQ_eq w).trans ((Cn w).trans (congrFun PySem.W.Fast.rhsGBQ_eq w).symm)
def pjC:=λ(r:Flow×SharedT×Code×Pos)=>(λx=>x.2.2.1) (WC r)
def Ke (w:World)(os:OsState):=(segRunT treeTable pw w 11 i9 1 1857 (oG w os) (piecesOf nO iH cE (⟨313,0,313,8⟩:Pos) B0)).map pjC
def Kf (_:World)(_:OsState):=some ((λx=>x.2.2.1) (openGood mI iz))
theorem O2:@Ke = @Ke:=rfl
theorem O1:@Kf = @Kf:=rfl
name_quick lhsGCQ for My.Ke by My.O2
name_quick rhsGCQ for My.Kf by My.O1
theorem Ii (w:World):PySem.W.Fast.lhsGCQ (w.withFollow "special-get-raises" false)=PySem.W.Fast.rhsGCQ (w.withFollow "special-get-raises" false):=by kernel_rfl
theorem Ih (w:World):PySem.W.Fast.lhsGCQ (w.withFollow "special-get-raises" true)=PySem.W.Fast.rhsGCQ (w.withFollow "special-get-raises" true):=by kernel_rfl
theorem Cm (w:World):PySem.W.Fast.lhsGCQ w=PySem.W.Fast.rhsGCQ w:=byRow2 "special-get-raises" (P:=λw=>PySem.W.Fast.lhsGCQ w=PySem.W.Fast.rhsGCQ w) Ii Ih w
theorem Sw (w:World):Ke w=Kf w:=(congrFun PySem.W.Fast.lhsGCQ_eq w).trans ((Cm w).trans (congrFun PySem.W.Fast.rhsGCQ_eq w).symm)
def pjD:=λ(r:Flow×SharedT×Code×Pos)=>(λx=>x.2.2.2.1) (WC r)
def Kg (w:World)(os:OsState):=(segRunT treeTable pw w 11 i9 1 1857 (oG w os) (piecesOf nO iH cE (⟨313,0,313,8⟩:Pos) B0)).map pjD
def Kh (_:World)(_:OsState):=some ((λx=>x.2.2.2.1) (openGood mI iz))
theorem O0:@Kg = @Kg:=rfl
theorem OZ:@Kh = @Kh:=rfl
name_quick lhsGDQ for My.Kg by My.O0
name_quick rhsGDQ for My.Kh by My.OZ
theorem Ig (w:World):PySem.W.Fast.lhsGDQ (w.withFollow "special-get-raises" false)=PySem.W.Fast.rhsGDQ (w.withFollow "special-get-raises" false):=by kernel_rfl
theorem Ie (w:World):PySem.W.Fast.lhsGDQ (w.withFollow "special-get-raises" true)=PySem.W.Fast.rhsGDQ (w.withFollow "special-get-raises" true):=by kernel_rfl
theorem Ck (w:World):PySem.W.Fast.lhsGDQ w=PySem.W.Fast.rhsGDQ w:=byRow2 "special-get-raises" (P:=λw=>PySem.W.Fast.lhsGDQ w=PySem.W.Fast.rhsGDQ w) Ig Ie w
theorem Sv (w:World):Kg w=Kh w:=(congrFun PySem.W.Fast.lhsGDQ_eq w).trans ((Ck w).trans (congrFun PySem.W.Fast.rhsGDQ_eq w).symm)
def pjE:=λ(r:Flow×SharedT×Code×Pos)=>(λx=>x.2.2.2.2.1) (WC r)
def Ki (w:World)(os:OsState):=(segRunT treeTable pw w 11 i9 1 1857 (oG w os) (piecesOf nO iH cE (⟨313,0,313,8⟩:Pos) B0)).map pjE
def Kj (_:World)(_:OsState):=some ((λx=>x.2.2.2.2.1) (openGood mI iz))
theorem OY:@Ki = @Ki:=rfl
theorem OX:@Kj = @Kj:=rfl
name_quick lhsGEQ for My.Ki by My.OY
name_quick rhsGEQ for My.Kj by My.OX
theorem Ic (w:World):PySem.W.Fast.lhsGEQ (w.withFollow "special-get-raises" false)=PySem.W.Fast.rhsGEQ (w.withFollow "special-get-raises" false):=by kernel_rfl
theorem Ib (w:World):PySem.W.Fast.lhsGEQ (w.withFollow "special-get-raises" true)=PySem.W.Fast.rhsGEQ (w.withFollow "special-get-raises" true):=by kernel_rfl
theorem Cj (w:World):PySem.W.Fast.lhsGEQ w=PySem.W.Fast.rhsGEQ w:=byRow2 "special-get-raises" (P:=λw=>PySem.W.Fast.lhsGEQ w=PySem.W.Fast.rhsGEQ w) Ic Ib w
theorem Su (w:World):Ki w=Kj w:=(congrFun PySem.W.Fast.lhsGEQ_eq w).trans ((Cj w).trans (congrFun PySem.W.Fast.rhsGEQ_eq w).symm)
def pjF:=λ(r:Flow×SharedT×Code×Pos)=>(λx=>x.2.2.2.2.2.1) (WC r)
def Kk (w:World)(os:OsState):=(segRunT treeTable pw w 11 i9 1 1857 (oG w os) (piecesOf nO iH cE (⟨313,0,313,8⟩:Pos) B0)).map pjF
def Kl (_:World)(_:OsState):=some ((λx=>x.2.2.2.2.2.1) (openGood mI iz))
theorem OW:@Kk = @Kk:=rfl
theorem OV:@Kl = @Kl:=rfl
name_quick lhsGFQ for My.Kk by My.OW
name_quick rhsGFQ for My.Kl by My.OV
theorem Ia (w:World):PySem.W.Fast.lhsGFQ (w.withFollow "special-get-raises" false)=PySem.W.Fast.rhsGFQ (w.withFollow "special-get-raises" false):=by kernel_rfl
theorem HZ (w:World):PySem.W.Fast.lhsGFQ (w.withFollow "special-get-raises" true)=PySem.W.Fast.rhsGFQ (w.withFollow "special-get-raises" true):=by kernel_rfl
theorem Ci (w:World):PySem.W.Fast.lhsGFQ w=PySem.W.Fast.rhsGFQ w:=byRow2 "special-get-raises" (P:=λw=>PySem.W.Fast.lhsGFQ w=PySem.W.Fast.rhsGFQ w) Ia HZ w
theorem Ss (w:World):Kk w=Kl w:=(congrFun PySem.W.Fast.lhsGFQ_eq w).trans ((Ci w).trans (congrFun PySem.W.Fast.rhsGFQ_eq w).symm)
def pjG:=λ(r:Flow×SharedT×Code×Pos)=>(λx=>x.2.2.2.2.2.2.1) (WC r)
def Km (w:World)(os:OsState):=(segRunT treeTable pw w 11 i9 1 1857 (oG w os) (piecesOf nO iH cE (⟨313,0,313,8⟩:Pos) B0)).map pjG
def Ko (_:World)(_:OsState):=some ((λx=>x.2.2.2.2.2.2.1) (openGood mI iz))
theorem OU:@Km = @Km:=rfl
theorem OS:@Ko = @Ko:=rfl
name_quick lhsGGQ for My.Km by My.OU
name_quick rhsGGQ for My.Ko by My.OS
theorem HY (w:World):PySem.W.Fast.lhsGGQ (w.withFollow "special-get-raises" false)=PySem.W.Fast.rhsGGQ (w.withFollow "special-get-raises" false):=by kernel_rfl
theorem HX (w:World):PySem.W.Fast.lhsGGQ (w.withFollow "special-get-raises" true)=PySem.W.Fast.rhsGGQ (w.withFollow "special-get-raises" true):=by kernel_rfl
theorem Cg (w:World):PySem.W.Fast.lhsGGQ w=PySem.W.Fast.rhsGGQ w:=byRow2 "special-get-raises" (P:=λw=>PySem.W.Fast.lhsGGQ w=PySem.W.Fast.rhsGGQ w) HY HX w
theorem Sr (w:World):Km w=Ko w:=(congrFun PySem.W.Fast.lhsGGQ_eq w).trans ((Cg w).trans (congrFun PySem.W.Fast.rhsGGQ_eq w).symm)
def pjH:=λ(r:Flow×SharedT×Code×Pos)=>(λx=>x.2.2.2.2.2.2.2) (WC r)
def Kq (w:World)(os:OsState):=(segRunT treeTable pw w 11 i9 1 1857 (oG w os) (piecesOf nO iH cE (⟨313,0,313,8⟩:Pos) B0)).map pjH
def Kr (_:World)(_:OsState):=some ((λx=>x.2.2.2.2.2.2.2) (openGood mI iz))
theorem OR:@Kq = @Kq:=rfl
theorem OQ:@Kr = @Kr:=rfl
name_quick lhsGHQ for My.Kq by My.OR
name_quick rhsGHQ for My.Kr by My.OQ
theorem HW (w:World):PySem.W.Fast.lhsGHQ (w.withFollow "special-get-raises" false)=PySem.W.Fast.rhsGHQ (w.withFollow "special-get-raises" false):=by kernel_rfl
theorem IM (w:World):PySem.W.Fast.lhsGHQ (w.withFollow "special-get-raises" true)=PySem.W.Fast.rhsGHQ (w.withFollow "special-get-raises" true):=by kernel_rfl
theorem Cf (w:World):PySem.W.Fast.lhsGHQ w=PySem.W.Fast.rhsGHQ w:=byRow2 "special-get-raises" (P:=λw=>PySem.W.Fast.lhsGHQ w=PySem.W.Fast.rhsGHQ w) HW IM w
theorem Sq (w:World):Kq w=Kr w:=(congrFun PySem.W.Fast.lhsGHQ_eq w).trans ((Cf w).trans (congrFun PySem.W.Fast.rhsGHQ_eq w).symm)
def tT (w:World)(os:OsState):=segRunT treeTable pw w 11 i9 1 6765 (sB w os) (piecesOf t8 iH cE lY B0)
def tS (w:World)(os:OsState):Option (Flow×SharedT×Code×Pos):=some (Flow.next,oG w os,cE,(⟨313,0,313,8⟩:Pos))
theorem OP:@tT = @tT:=rfl
theorem OO:@tS = @tS:=rfl
name_quick lhsC0Q for My.tT by My.OP
name_quick rhsC0Q for My.tS by My.OO
theorem IL (w:World):PySem.W.Fast.lhsC0Q (w.withFollow "special-get-raises" false)=PySem.W.Fast.rhsC0Q (w.withFollow "special-get-raises" false):=by kernel_rfl
theorem IK (w:World):PySem.W.Fast.lhsC0Q (w.withFollow "special-get-raises" true)=PySem.W.Fast.rhsC0Q (w.withFollow "special-get-raises" true):=by kernel_rfl
theorem Cp (w:World):PySem.W.Fast.lhsC0Q w=PySem.W.Fast.rhsC0Q w:=byRow2 "special-get-raises" (P:=λw=>PySem.W.Fast.lhsC0Q w=PySem.W.Fast.rhsC0Q w) IL IK w
theorem So (w:World):tT w=tS w:=(congrFun PySem.W.Fast.lhsC0Q_eq w).trans ((Cp w).trans (congrFun PySem.W.Fast.rhsC0Q_eq w).symm)
def lhs (w:World)(os:OsState):=(segRunT treeTable pw w 11 i9 1 1857 (oG w os) (piecesOf nO iH cE (⟨313,0,313,8⟩:Pos) B0)).map (Dd w)
def rhs (w:World)(_:OsState):=some (Flow.next,cE,true,sy w)
theorem IJ:@lhs = @lhs:=rfl
theorem II:@rhs = @rhs:=rfl
name_quick lhsQ for My.lhs by My.IJ
name_quick rhsQ for My.rhs by My.II
theorem krf (w:World):PySem.W.Fast.lhsQ (w.withFollow "special-get-raises" false)=PySem.W.Fast.rhsQ (w.withFollow "special-get-raises" false):=by kernel_rfl
theorem krt (w:World):PySem.W.Fast.lhsQ (w.withFollow "special-get-raises" true)=PySem.W.Fast.rhsQ (w.withFollow "special-get-raises" true):=by kernel_rfl
theorem kr (w:World):PySem.W.Fast.lhsQ w=PySem.W.Fast.rhsQ w:=byRow2 "special-get-raises" (P:=λw=>PySem.W.Fast.lhsQ w=PySem.W.Fast.rhsQ w) krf krt w
theorem ON (w:World):lhs w=rhs w:=(congrFun PySem.W.Fast.lhsQ_eq w).trans ((kr w).trans (congrFun PySem.W.Fast.rhsQ_eq w).symm)
def oZ (w:World)(os:OsState):=topGo treeTable pw w 11 i9 12 ⟨boot_heap w.params,#[],boot_drawn,boot_toks,os⟩ (topStub pw)
def oQ (w:World)(os:OsState):Option (Shared×Thread):=some ((sB w os).abs,⟨denote treeTable cE,cE,lY,B0⟩)
theorem M0:@oZ = @oZ:=rfl
theorem MZ:@oQ = @oQ:=rfl
name_quick lhs1Q for My.oZ by My.M0
name_quick rhs1Q for My.oQ by My.MZ
theorem kr1 (w:World):PySem.W.Fast.lhs1Q w=PySem.W.Fast.rhs1Q w:=by kernel_rfl
theorem IH (w:World):oZ w=oQ w:=(congrFun PySem.W.Fast.lhs1Q_eq w).trans ((kr1 w).trans (congrFun PySem.W.Fast.rhs1Q_eq w).symm)
def oY (w:World)(os:OsState):=segRun treeTable pw w 11 i9 1 1 (sB w os).abs (blockOf VA iH cE lY B0)
def oP (w:World)(os:OsState):Option (Flow×Shared×Code×Pos):=some (.next,(sB w os).abs,cE,lY)
theorem MY:@oY = @oY:=rfl
theorem MX:@oP = @oP:=rfl
name_quick lhs2Q for My.oY by My.MY
name_quick rhs2Q for My.oP by My.MX
theorem kr2 (w:World):PySem.W.Fast.lhs2Q w=PySem.W.Fast.rhs2Q w:=by kernel_rfl
theorem IG (w:World):oY w=oP w:=(congrFun PySem.W.Fast.lhs2Q_eq w).trans ((kr2 w).trans (congrFun PySem.W.Fast.rhs2Q_eq w).symm)
noncomputable def oX (w:World):Bool×Nat×Option Value:=((boot_heap w.params).isNs mainGlobals&&(#[]:Array GenState).size == 0,(boot_heap w.params).objs.size,(boot_heap w.params).nsMap mainGlobals "__annotations__")
theorem MW:@oX = @oX:=rfl
name_quick lhs3Q for My.oX by My.MW
theorem kr3 (w:World):PySem.W.Fast.lhs3Q w=(true,11,i9):=by kernel_rfl
theorem IF (w:World):oX w=(true,11,i9):=(congrFun PySem.W.Fast.lhs3Q_eq w).trans (kr3 w)
theorem CD (w:World)(s:Shared)(q:Pos):topRun treeTable pw w 11 i9 2 s (restOf [] iH cE q B0)=some s:=rfl
theorem OM:VA=t8++(nO++[]):=by rw [uj];unfold t8 nO;exact(UN _ _).symm
theorem OL (w:World)(os:OsState):∃ s:Shared,topRun treeTable pw w 11 i9 (12+(1+(6765+(1857+2)))) ⟨boot_heap w.params,#[],boot_drawn,boot_toks,os⟩ (topStub pw)=some s /\ (staticsOk mods (boot_heap w.params) s.heap&&namesBound pw s.heap&&gensDone s&&laidKept (boot_heap w.params) s.heap)=true/\openSeen mI iz mods tF true s=openGood mI iz/\sX s=sy w:=by
 obtain⟨⟨f,s,c,q⟩,hr,hF⟩:=uS.mp (congrFun (ON w) os);unfold Dd at hF;simp only [Uz] at hF;obtain⟨rfl,rfl,h1,h3⟩:=hF;have h2:openSeen mI iz mods tF true s.abs=openGood mI iz:=by have hA:=congrFun (Sy w) os;unfold Ka Kb at hA;rw [hr,uW] at hA;have hA:=uG hA;have hB:=congrFun (Sx w) os;unfold Kc Kd at hB;rw [hr,uW] at hB;have hB:=uG hB;have hC:=congrFun (Sw w) os;unfold Ke Kf at hC;rw [hr,uW] at hC;have hC:=uG hC;have hD:=congrFun (Sv w) os;unfold Kg Kh at hD;rw [hr,uW] at hD;have hD:=uG hD;have hE:=congrFun (Su w) os;unfold Ki Kj at hE;rw [hr,uW] at hE;have hE:=uG hE;have hF:=congrFun (Ss w) os;unfold Kk Kl at hF;rw [hr,uW] at hF;have hF:=uG hF;have hG:=congrFun (Sr w) os;unfold Km Ko at hG;rw [hr,uW] at hG;have hG:=uG hG;have hH:=congrFun (Sq w) os;unfold Kq Kr at hH;rw [hr,uW] at hH;have hH:=uG hH;exact gF hA (gF hB (gF hC (gF hD (gF hE (gF hF (gF hG hH))))))
 refine⟨s.abs,?_,h1,h2,h3⟩;refine go_top (congrFun (IH w) os) (piece_block (congrFun (IG w) os) ?_);rw [show restOf VA iH cE lY [topFrame lY]=restOf (t8++(nO++[])) iH cE lY [topFrame lY] from congrArg (λx=>restOf x iH cE lY [topFrame lY]) OM];exact(piece_app (segRun_of (congrFun (So w) os)) (piece_app (segRun_of hr) (CD w s.abs q)))
theorem IE (w:World):(fencedOpening treeTable pw w 8737).map (λs=>(s.heap,s.gens,s.drawn,s.toks))=some (boot_heap w.params,Array.mk [],boot_drawn,boot_toks):=boot_open (p:=pw) (N:=8737) (by kernel_rfl) (by kernel_rfl) (λ_=>rfl) w
theorem left:LeftO pw mI iz tF HK.obs HK.val 8737:=L2.n5 (M:=12+(1+(6765+(1857+2)))) (m0:=11) (ann:=i9) IE IF OL (by decide)
end My
set_option maxHeartbeats 1000000
namespace L2
open PySem PySem.Spec PyProof.Rows
abbrev Key:=Sum Int Str
def Xi:Key->Value->Bool
 | .inl k,v=>Value.isInt k v
 | .inr x,v=>Value.isStrOf x v
def tj (w:World):Key->Int
 | .inl k=>hashInt k
 | .inr x=>hashStr w x
theorem jb:∀ {k:Key} {v:Value},Xi k v=true->(∃ i t,k=Sum.inl i/\v=Value.int i t)\/(∃ x t,k=Sum.inr x/\v=Value.str x t)
 | .inl i,v,h=>by obtain⟨t,e⟩:=Value.isInt_shape (k:=i) (v:=v) h;exact .inl ⟨i,t,rfl,e⟩
 | .inr x,v,h=>by obtain⟨t,e⟩:=Value.isStrOf_shape (x:=x) (v:=v) h;exact .inr ⟨x,t,rfl,e⟩
theorem Sn (i:Int)(t:Tok):Xi (.inl i) (.int i t)=true:=by simp [Xi,Value.isInt]
theorem Sm (x:Str)(t:Tok):Xi (.inr x) (.str x t)=true:=by simp [Xi,Value.isStrOf]
theorem MV (a b:Int):decide ((Sum.inl a:Key)=Sum.inl b)=(a == b):=by
 by_cases e:a=b
 ·subst e;simp
 ·have h:¬ (Sum.inl a:Key)=Sum.inl b:=λq=>e (Sum.inl.inj q);rw [uF h];exact(uN.mpr e).symm
theorem MU (a b:Str):decide ((Sum.inr a:Key)=Sum.inr b)=decide (a=b):=by
 by_cases e:a=b
 ·subst e;simp
 ·have h:¬ (Sum.inr a:Key)=Sum.inr b:=λq=>e (Sum.inr.inj q);rw [uF h,uF e]
theorem MT (a:Int)(b:Str):decide ((Sum.inl a:Key)=Sum.inr b)=false:=uF (λq=>nomatch q)
theorem MR (a:Str)(b:Int):decide ((Sum.inr a:Key)=Sum.inl b)=false:=uF (λq=>nomatch q)
def qm (prog:Program)(w:World):PySem.KeyKind prog w Key where
 is:=Xi
 hash:=tj w
 inj:=λv a b ha hb=>by
  rcases jb ha with⟨i,t,rfl,rfl⟩ | ⟨x,t,rfl,rfl⟩
  ·rcases jb hb with⟨j,u,rfl,e⟩ | ⟨y,u,rfl,e⟩
   ·injection e with e1 _;rw [e1]
   ·exact nomatch e
  ·rcases jb hb with⟨j,u,rfl,e⟩ | ⟨y,u,rfl,e⟩
   ·exact nomatch e
   ·injection e with e1 _;rw [e1]
 byValue:=λk v h=>by
  rcases jb h with⟨i,t,rfl,rfl⟩ | ⟨x,t,rfl,rfl⟩<;>rfl
 pyHash:=λhv h=>by
  rcases jb hv with⟨i,t,rfl,rfl⟩ | ⟨x,t,rfl,rfl⟩
  ·exact wpAny_pyHash_int h
  ·exact wpAny_pyHash_str h
 eqBool:=λhu hv h=>by
  rcases jb hu with⟨i,t,rfl,rfl⟩ | ⟨x,t,rfl,rfl⟩
  ·rcases jb hv with⟨j,u,rfl,rfl⟩ | ⟨y,u,rfl,rfl⟩
   ·rw [MV] at h;exact wpAny_eqBool_int h
   ·rw [MT] at h;exact SeqAt.EqAt.int_str i t y u _ _ _ _ h
  ·rcases jb hv with⟨j,u,rfl,rfl⟩ | ⟨y,u,rfl,rfl⟩
   ·rw [MR] at h;exact SeqAt.EqAt.str_int x t j u _ _ _ _ h
   ·rw [MU] at h;exact wpAny_eqBool_str h
 «strs»:=λk x t v h=>by
  rcases jb h with⟨i,u,rfl,e⟩ | ⟨y,u,rfl,e⟩
  ·exact nomatch e
  ·injection e with e1 _
   subst e1
   cases v<;>rfl
theorem Ks (prog:Program)(w:World)(i:Int)(t:Tok):(qm prog w).is (.inl i) (.int i t)=true:=Sn i t
theorem Kt (prog:Program)(w:World)(x:Str)(t:Tok):(qm prog w).is (.inr x) (.str x t)=true:=Sm x t
inductive V where
 | non | bl (b:Bool) | int (i:Int) | str (x:Str) | byt (b:Array UInt8) | flt (b:UInt64) | ref (a:Addr) | ty (n:String)
 deriving DecidableEq
def RelV:V->Value->Prop
 | .non,u=>u=Value.none
 | .bl b,u=>u=Value.bool b
 | .int i,u=>∃ t,u=Value.int i t
 | .str x,u=>∃ t,u=Value.str x t
 | .byt b,u=>∃ t,u=Value.bytes b t
 | .flt b,u=>∃ t,u=Value.float b t
 | .ref a,u=>u=Value.ref a
 | .ty n,u=>u=Value.type n
abbrev Vals:List V->Lg->Prop:=Paired RelV
theorem Vals.length {xs:List V}{us:Lg}(r:Vals xs us):xs.length=us.length:=Paired.length r
theorem Vals.get:∀ {xs:List V} {us:Lg} {i:Nat} {x:V},Vals xs us->xs[i]? = some x->∃ u,us[i]? = some u/\RelV x u
 | _,_,_,_,.nil,e=>by simp at e
 | _,_,0,_,.cons r _,e=>by simp at e;subst e;exact⟨_,rfl,r⟩
 | _,_,i+1,x,.cons _ t,e=>by obtain⟨u,h1,h2⟩:=Vals.get (i:=i) (x:=x) t (by simpa using e);exact⟨u,by simpa using h1,h2⟩
theorem Vals.set (r:RelV x u):∀ {xs:List V} {us:Lg} (i:Nat),Vals xs us->Vals (xs.set i x) (us.set i u)
 | _,_,_,.nil=>.nil
 | _,_,0,.cons _ t=>.cons r t
 | _,_,i+1,.cons q t=>.cons q (Vals.set r i t)
theorem Vals.append:∀ {xs ys:List V} {us ws:Lg},Vals xs us->Vals ys ws->Vals (xs++ys) (us++ws)
 | _,_,_,_,.nil,s=>s
 | _,_,_,_,.cons r t,s=>.cons r (Vals.append t s)
theorem Vals.take:∀ {xs:List V} {us:Lg} (n:Nat),Vals xs us->Vals (xs.take n) (us.take n)
 | _,_,0,_=>.nil
 | _,_,_+1,.nil=>.nil
 | _,_,n+1,.cons r t=>.cons r (Vals.take n t)
theorem Vals.drop:∀ {xs:List V} {us:Lg} (n:Nat),Vals xs us->Vals (xs.drop n) (us.drop n)
 | _,_,0,r=>r
 | _,_,_+1,.nil=>.nil
 | _,_,n+1,.cons _ t=>Vals.drop n t
theorem Vals.none_of:∀ {xs:List V} {us:Lg} {i:Nat},Vals xs us->xs[i]? = none->us[i]? = none:=λ{xs us i} r e=>by have h1:=r.length;have h2:xs.length<=i:=UC.mp e;exact UC.mpr (by lia)
def iN:Option V->Option Value->Prop
 | some v,some u=>RelV v u
 | none,none=>True
 | _,_=>False
def KV {κ:Type}:List (κ×V)->List (κ×Value)->Prop:=Paired λ(p:κ×V) (q:κ×Value)=>p.1=q.1/\RelV p.2 q.2
def kV:Key->V
 | .inl i=>.int i
 | .inr x=>.str x
inductive HO where
 | lst (xs:List V)
 | tup (xs:List V)
 | dK (kvs:List (Key×V)) | dT (kvs:List (List Key×V))
 | set (S:Int->Bool) (n:Nat)
 | ins (C dx:Addr) (fs:List (Str×V))
 | own (x:Addr)
 | xd (fs:List (Str×V))
 | met (f x:Addr)
 | rng (lo hi:Int)
 | frz (o:Obj) (u:HO)
 | tbl (ps:Array Value)
 | ext (φ:Heap->Prop)
abbrev Hp:=Addr->Option HO
def upd (H:Hp)(a:Addr)(o:HO):Hp:=λb=>if b=a then some o else H b
theorem zb:upd H a o a=some o:=by unfold upd;rw [ue rfl]
theorem zk (h:b≠a):upd H a o b=H b:=by unfold upd;rw [ub h]
theorem Ji:upd (upd H a o) a u=upd H a u:=by funext b;unfold upd;split<;>rfl
theorem Ku {H:Hp}{a b:Addr}{o u:HO}(h:H a=some o)(h':H b=some u)(d:o≠u):a≠b:=by intro e;subst e;rw [h] at h';exact d (uG h')
theorem zv {H:Hp}{a b:Addr}{o:HO}(h:H a=some o)(h':H b=none):a≠b:=by intro e;subst e;rw [h] at h';cases h'
section
variable (P:Program) (w:World)
def qA (H:Hp)(h:Heap)(a:Addr):HO->Prop
 | .lst xs=>xs.length<=sizeLine/\∃ (fX:Lg) (n:Nat),Vals xs fX/\h.get? a=some { cls:=.type "list",data:=.seq fX.toArray n }
 | .tup xs=>xs.length<=sizeLine/\∃ fX:Lg,Vals xs fX/\IsTup h a fX.toArray
 | .dK kvs=>kvs.length<=sizeLine/\(a == sysModules)=false/\∃ vs,KV kvs vs/\h.DictOf (qm P w) a vs
 | .dT kvs=>kvs.length<=sizeLine/\(a == sysModules)=false/\∃ xs:List (List Key×Addr×Value),
   Paired (λ(p:List Key×V) (q:List Key×Addr×Value)=>p.1=q.1/\H q.2.1=some (.tup (p.1.map kV))/\RelV p.2 q.2.2) kvs xs /\
   ∃ o es ep,h.get? a=some o/\o.ExactDict/\o.data=.dict es ep/\es.toList=xs.map (entryOfKey (tupleKind (qm P w)))/\(xs.map (·.1)).Nodup
 | .set S n=>h.SetOf (intKind P w) a S n
 | .ins C dx fs=>H dx=some (.own a)/\fs.length<=1000/\dx≠a/\h.get? a=some (PySem.W.instObj C dx) /\
   ∃ mA,h.Ns1 dx mA/\(∀ f,iN (fs.lookup f) (mA f))/\PySem.Within mA (fs.map (·.1))
 | .own _=>∃ o,h.get? a=some o
 | .xd fs=>∃ mA,h.Ns1 a mA/\∀ f,iN (fs.lookup f) (mA f)
 | .rng lo hi=>∃ t u v,h.get? a=some { cls:=.type "range",data:=.fields #[.int lo t,.int hi u,.int 1 v] }
 | .frz o u=>h.get? a=some o/\qA H h a u
 | .tbl ps=>h.get? a=some { cls:=.none,data:=.fields ps }
 | .met f x=>h.get? a=some (PySem.W.methodObj (.ref f) (.ref x))
 | .ext φ=>φ h/\(∃ o,h.get? a=some o)/\∀ h1 h2:Heap,φ h1->(∀ o,h1.get? a=some o->h2.get? a=some o)->φ h2
def lj (H:Hp)(h:Heap):Prop:=∀ a o,H a=some o->qA P w H h a o
end
section
variable {P:Program} {w:World} {H H':Hp} {h h':Heap} {a:Addr} {o:HO}
theorem qA.lt (x:qA P w H h a o):a<h.objs.size:=by
 cases o with
 | lst xs=>obtain⟨_,_,_,_,e⟩:=x;exact ug e
 | tup xs=>obtain⟨_,_,_,p⟩:=x;exact p.lt
 | dK kvs=>obtain⟨_,_,_,_,o,_,_,e,_⟩:=x;exact ug e
 | dT kvs=>obtain⟨_,_,_,_,o,_,_,e,_⟩:=x;exact ug e
 | set S n=>obtain⟨o,_,_,_,e,_⟩:=x;exact ug e
 | ins C dx fs=>obtain⟨_,_,_,e,_⟩:=x;exact ug e
 | own y=>obtain⟨_,e⟩:=x;exact ug e
 | xd fs=>obtain⟨_,⟨_,_,_,e,_⟩,_⟩:=x;exact ug e
 | rng lo hi=>obtain⟨_,_,_,e⟩:=x;exact ug e
 | frz ob u=>obtain⟨e,_⟩:=x;exact ug e
 | tbl ps=>exact ug (show h.get? a=some _ from x)
 | met f y=>exact ug (show h.get? a=some _ from x)
 | ext φ=>obtain⟨_,⟨_,e⟩,_⟩:=x;exact ug e
theorem Paired.mapP {α β:Type}{F G:α->β->Prop}:∀ {l₁:List α} {l₂:List β},Paired F l₁ l₂->(∀ a b,F a b->G a b)->Paired G l₁ l₂
 | _,_,.nil,_=>.nil
 | _,_,.cons r t,f=>.cons (f _ _ r) (Paired.mapP t f)
theorem qA.stay (x:qA P w H h a o)(k:∀ b u,(b=a\/H b=some (.own a))->h.get? b=some u->h'.get? b=some u) (ho:∀ b,H b=some (.own a)->H' b=some (.own a)) (ht:∀ b xs,H b=some (.tup xs)->H' b=some (.tup xs)):qA P w H' h' a o:=by
 induction o with
 | lst xs=>obtain⟨z,fX,n,r,e⟩:=x;exact⟨z,fX,n,r,k _ _ (.inl rfl) e⟩
 | tup xs=>obtain⟨z,fX,r,ob,e,c⟩:=x;exact⟨z,fX,r,ob,k _ _ (.inl rfl) e,c⟩
 | dK kvs=>obtain⟨z,y,vs,r,ob,es,ep,e,c⟩:=x;exact⟨z,y,vs,r,ob,es,ep,k _ _ (.inl rfl) e,c⟩
 | dT kvs=>obtain⟨z,y,xs,r,ob,es,ep,e,c⟩:=x;exact⟨z,y,xs,Paired.mapP r λp q z=>⟨z.1,ht _ _ z.2.1,z.2.2⟩,ob,es,ep,k _ _ (.inl rfl) e,c⟩
 | set S n=>obtain⟨ob,es,ep,t,e,c⟩:=x;exact⟨ob,es,ep,t,k _ _ (.inl rfl) e,c⟩
 | ins C dx fs=>obtain⟨d,z,ne,e,mA,⟨od,es,ep,e2,c⟩,r⟩:=x;exact⟨ho _ d,z,ne,k _ _ (.inl rfl) e,mA,⟨od,es,ep,k _ _ (.inr d) e2,c⟩,r⟩
 | own y=>obtain⟨ob,e⟩:=x;exact⟨ob,k _ _ (.inl rfl) e⟩
 | xd fs=>obtain⟨mA,⟨od,es,ep,e,c⟩,r⟩:=x;exact⟨mA,⟨od,es,ep,k _ _ (.inl rfl) e,c⟩,r⟩
 | rng lo hi=>obtain⟨t,u,v,e⟩:=x;exact⟨t,u,v,k _ _ (.inl rfl) e⟩
 | frz ob u ih=>obtain⟨e,q⟩:=x;exact⟨k _ _ (.inl rfl) e,ih q⟩
 | tbl ps=>have e:h.get? a=some { cls:=.none,data:=.fields ps }:=x;show h'.get? a=some { cls:=.none,data:=.fields ps };exact k a _ (.inl rfl) e
 | met f y=>have e:h.get? a=some (PySem.W.methodObj (.ref f) (.ref y)):=x;show h'.get? a=some (PySem.W.methodObj (.ref f) (.ref y));exact k a _ (.inl rfl) e
 | ext φ=>obtain⟨p,⟨o,e⟩,st⟩:=x;exact⟨st _ _ p λo q=>k _ _ (.inl rfl) q,⟨o,k _ _ (.inl rfl) e⟩,st⟩
theorem lj.lt (x:lj P w H h)(e:H a=some o):a<h.objs.size:=(x a o e).lt
theorem lj.fresh (x:lj P w H h)(e:h.objs.size<=a):H a=none:=by
 cases q:H a with
 | none=>rfl
 | some u=>exact absurd (ur (x.lt q) e) (uY _)
theorem lj.kept (x:lj P w H h)(k:∀ b u,h.get? b=some u->h'.get? b=some u):lj P w H h':=λa o e=>
 (x a o e).stay (λb u _ q=>k b u q) (λ_ q=>q) λ_ _ q=>q
theorem lj.laid (x:lj P w H h)(k:∀ b u,h.get? b=some u->h'.get? b=some u)(hp:h.objs.size<=a)(new:qA P w (upd H a o) h' a o):lj P w (upd H a o) h':=λb u e=>by
 have hn:=x.fresh hp;by_cases hb:b=a
 ·subst hb;rw [zb] at e;cases e;exact new
 ·rw [zk hb] at e;exact(x b u e).stay (λc v _ q=>k c v q) (λc q=>by rw [zk (zv q hn)];exact q) λc xs q=>by rw [zk (zv q hn)];exact q
end
def Rd (H:Hp)(a:Addr)(u:HO):Prop:=H a=some u\/∃ o,H a=some (.frz o u)
theorem Rd.of (h:H a=some u):Rd H a u:=.inl h
theorem Rd.ok (r:Rd H a u)(x:lj P w H h):qA P w H h a u:=by
 rcases r with r | ⟨o,r⟩
 ·exact x a u r
 ·obtain⟨_,q⟩:=x a _ r;exact q
def tN:Option HO->Prop
 | some (.lst _)=>True
 | some (.dK _)=>True
 | some (.dT _)=>True
 | some (.set _ _)=>True
 | some (.ins _ _ _)=>True
 | some (.ext _)=>True
 | _=>False
section
variable {P:Program} {w:World} {H:Hp} {h h':Heap} {x e:Addr} {o':HO}
theorem lj.write (ok:lj P w H h)(mu:tN (H x))(he:e=x\/H e=some (.own x))(k:∀ b u,b≠e->h.get? b=some u->h'.get? b=some u)(heo:∃ u,h'.get? e=some u)
  (new:qA P w (upd H x o') h' x o'):lj P w (upd H x o') h':=λb u q=>by
 have nown:∀ c y,H c=some (.own y)->c≠x:=λc y r z=>by subst z;rw [r] at mu;exact mu
 have ntup:∀ c xs,H c=some (.tup xs)->c≠x:=λc xs r z=>by subst z;rw [r] at mu;exact mu
 by_cases hb:b=x
 ·subst hb;rw [zb] at q;cases q;exact new
 ·rw [zk hb] at q
  by_cases hbe:b=e
  ·have q':H b=some (.own x):=by
    rcases he with z | z
    ·exact absurd (hbe.trans z) hb
    ·rw [hbe];exact z
   rw [q] at q';cases q'
   obtain⟨v,hv⟩:=heo
   exact⟨v,by rw [hbe];exact hv⟩
  ·refine(ok b u q).stay (λc v hc r=>k c v ?_ r) (λc r=>by rw [zk (nown c b r)];exact r) λc xs r=>by rw [zk (ntup c xs r)];exact r
   rcases hc with rfl | hc
   ·exact hbe
   ·rintro rfl
    rcases he with z | z
    ·exact nown c b hc z
    ·rw [hc] at z;cases z;exact hb rfl
end
structure Un (fs ex:Le)(H H':Hp)(h h':Heap):Prop where
 keep:∀ b o,h.get? b=some o->H b=none->b∉fs->b∉ex->h'.get? b=some o
 slot:∀ b o,h.get? b=some o->H b=none->b∈fs->b∉ex->∃ sl,h'.get? b=some { o with slots:=sl }
 free:∀ b o,h.get? b=some o->H b=none->b∉ex->H' b=none
 there:∀ b o,h.get? b=some o->b∉ex->∃ o',h'.get? b=some o'
 tups:∀ b xs,H b=some (.tup xs)->H' b=some (.tup xs)
 frzs:∀ b o u,H b=some (.frz o u)->H' b=some (.frz o u)
 tbls:∀ b ps,H b=some (.tbl ps)->∃ more,H' b=some (.tbl (ps++more))
section
variable {fs fs' ex ex':Le} {H H1 H2:Hp} {h h1 h2 h':Heap} {a x e:Addr} {o:HO}
theorem Un.any (u:Un fs ex H H1 h h1)(q:h.get? b=some ob)(n:H b=none)(hx:b∉ex):∃ sl,h1.get? b=some { ob with slots:=sl }:=by
 by_cases hb:b∈fs
 ·exact u.slot b ob q n hb hx
 ·exact⟨ob.slots,u.keep b ob q n hb hx⟩
theorem Un.trans (a:Un fs ex H H1 h h1)(b:Un fs ex H1 H2 h1 h2):Un fs ex H H2 h h2 where
 keep:=λc ob q n hc hx=>b.keep c ob (a.keep c ob q n hc hx) (a.free c ob q n hx) hc hx
 slot:=λc ob q n hc hx=>by
  obtain⟨sl,e1⟩:=a.slot c ob q n hc hx
  obtain⟨sl',e2⟩:=b.slot c _ e1 (a.free c ob q n hx) hc hx
  exact⟨sl',e2⟩
 free:=λc ob q n hx=>by
  obtain⟨o',e1⟩:=a.there c ob q hx
  exact b.free c o' e1 (a.free c ob q n hx) hx
 there:=λc ob q hx=>by
  obtain⟨o',e1⟩:=a.there c ob q hx
  exact b.there c o' e1 hx
 tups:=λc xs q=>b.tups c xs (a.tups c xs q)
 frzs:=λc ob xs q=>b.frzs c ob xs (a.frzs c ob xs q)
 tbls:=λc ps q=>by
  obtain⟨m1,e1⟩:=a.tbls c ps q
  obtain⟨m2,e2⟩:=b.tbls c _ e1
  exact⟨m1++m2,by rw [e2,Array.append_assoc]⟩
theorem Un.kept (k:∀ b u,h.get? b=some u->h'.get? b=some u):Un fs ex H H h h':=
 ⟨λb ob q _ _ _=>k b ob q,λb ob q _ _ _=>⟨ob.slots,k b ob q⟩,λ_ _ _ n _=>n,λb ob q _=>⟨ob,k b ob q⟩,λ_ _ q=>q,λ_ _ _ q=>q,λ_ ps q=>⟨#[],by rw [q];simp⟩⟩
theorem Un.refl:Un fs ex H H h h:=Un.kept λ_ _ q=>q
theorem Un.laid (k:∀ b u,h.get? b=some u->h'.get? b=some u)(hp:h.objs.size<=a)(hn:H a=none):Un fs ex H (upd H a o) h h' where
 keep:=λb u q _ _ _=>k b u q
 slot:=λb u q _ _ _=>⟨u.slots,k b u q⟩
 free:=λb u q n _=>by rw [zk (Uc (ur (ug q) hp))];exact n
 there:=λb u q _=>⟨u,k b u q⟩
 tups:=λb xs q=>by rw [zk (zv q hn)];exact q
 frzs:=λb u xs q=>by rw [zk (zv q hn)];exact q
 tbls:=λb ps q=>⟨#[],by rw [zk (zv q hn),q];simp⟩
theorem Un.write (mu:tN (H x))(he:e=x\/H e=some (.own x))(k:∀ b u,b≠e->h.get? b=some u->h'.get? b=some u)(heo:∃ u,h'.get? e=some u):Un fs ex H (upd H x o) h h':=by
 have hx:∀ b,H b=none->b≠x:=λb n z=>by subst z;rw [n] at mu;exact mu
 have hb:∀ b,H b=none->b≠e:=λb n z=>by
  subst z;rcases he with r | r
  ·exact hx b n r
  ·rw [n] at r;cases r
 have hm:∀ b u,H b=some u->¬ tN (some u)->b≠x:=λb u q nm z=>by subst z;rw [q] at mu;exact nm mu
 refine⟨λb u q n _ _=>k b u (hb b n) q,λb u q n _ _=>⟨u.slots,k b u (hb b n) q⟩,λb u q n _=>by rw [zk (hx b n)];exact n,λb u q _=>?_,
  λb xs q=>by rw [zk (hm b _ q λz=>z)];exact q,λb u xs q=>by rw [zk (hm b _ q λz=>z)];exact q,λb ps q=>⟨#[],by rw [zk (hm b _ q λz=>z),q];simp⟩⟩
 by_cases hbe:b=e
 ·subst hbe;exact heo
 ·exact⟨u,k b u hbe q⟩
theorem Un.mono (u:Un fs ex H H1 h h1)(hs:∀ b∈fs,b∈fs')(hx:∀ b∈ex,b∈ex'):Un fs' ex' H H1 h h1:= ⟨λb ob q n hb he=>u.keep b ob q n (λz=>hb (hs b z)) λz=>he (hx b z),λ_ _ q n _ he=>u.any q n λz=>he (hx _ z),λb ob q n he=>u.free b ob q n λz=>he (hx b z),λb ob q he=>u.there b ob q λz=>he (hx b z),u.tups,u.frzs,u.tbls⟩
end
def t5 (h:Heap)(H:Hp):Le:=(List.range h.objs.size).filter λa=>(H a).isSome
def mx (h:Heap)(H:Hp):Heap:=PySem.W.hideAll h (t5 h H)
theorem Sl (h:Heap)(H:Hp):(mx h H).objs.size=h.objs.size:=PySem.W.hideAll_size _ _
theorem RQ {h:Heap}(e:h.get? b=some o)(n:H b=none):(mx h H).get? b=some o:=
 PySem.W.hideAll_get _ e λhm=>by
  have q:(H b).isSome=true:=(List.mem_filter.mp hm).2
  rw [n] at q;simp at q
theorem OK {h:Heap}(e:(mx h H).get? b=some o):h.get? b=some o/\H b=none:=by
 have e':h.get? b=some o:=PySem.W.of_hideAll (t5 h H) e;refine⟨e',?_⟩;cases q:H b with
 | none=>rfl
 | some x=>have hm:b∈t5 h H:=List.mem_filter.mpr ⟨Gd.mpr (ug e'),by simp [q]⟩;have z:(mx h H).get? b=none:=PySem.W.hideAll_none (t5 h H) hm;rw [z] at e;cases e
def OJ (g h:Heap)(L:Addr):Lp:=(List.range h.objs.size).filterMap λa=>if a=L\/(g.get? a).isSome=true then none else(h.get? a).map λo=>(a,o)
def rest (g h:Heap)(L d:Addr):Lp:=(OJ g h L).filter λp=>decide (p.1≠d)
structure Mod (K:Lf)(mg:La)(base:Heap):Prop where
 kin:K.In base
 glob:base.Ns mainGlobals mg
 blt:∃ mb,base.Ns builtinsNs mb/\∀ x:Str,x≠"__name__"->mb x=bootBuiltins x
 nolimit:base.NoLimit
structure Cx where
 prog:Program
 w:World
 K:Lf
 mg:Str->Option Value
 base:Heap
 A:Around
 N:Lj
 s₀:Shared
 H₀:Hp
 env:Env
 outer:List Env
 stack:List Env
 ex:Le
 fn:Str->Bool
 calm:Bool
 pn:Lp
 xe:fL
abbrev fN (X:Cx){α:Type}(m:Sem α)(Q:α->Shared->Prop)(E:fL)(s:Shared):Prop:=wpAny (model X.prog X.w) X.A m Q E s
def lN (l:List Env):Le:=l.filterMap (·.frame)
abbrev Cx.fs (X:Cx):Le:=lN X.outer
def t9 (sc:Scope)(x:Str):Prop:=sc.names.lookup x=some .local\/sc.names.lookup x=some .cell\/sc.names.lookup x=some .free
def Loc (sc:Scope)(x:Str):Prop:=sc.names.lookup x=some .local\/sc.names.lookup x=some .cell
def Look (env:Env)(h:Heap)(m:La)(x:Str)(u:Value):Prop:= (env.kindOf x=some .local/\m x=some u)\/((env.kindOf x=some .cell\/env.kindOf x=some .free)/\∃ c,env.cells.lookup x=some c/\h.IsCell c (some u))
structure Cx.Ok (X:Cx):Prop where
 mod:Mod X.K X.mg X.base
 kind:X.env.scope.kind=.function
 glob:X.env.globals=mainGlobals
 blt:X.env.builtins=builtinsNs
 above:X.s₀.heap.objs.size<=X.env.locals
 inj:∀ x y c,X.env.cells.lookup x=some c->X.env.cells.lookup y=some c->x=y
 has:∀ x,(X.env.kindOf x=some .cell\/X.env.kindOf x=some .free)->∃ c,X.env.cells.lookup x=some c
 cab:∀ x c,X.fn x=true->X.env.cells.lookup x=some c->X.s₀.heap.objs.size<=c
 hd:X.calm=true->X.A.handled=none
 frames:X.A.frames=some X.stack
 stk:X.stack=X.outer\/(X.stack=X.env::X.outer/\X.env.frame=some X.env.locals)
 exf:∀ b∈X.ex,b≠X.env.locals/\∀ x c,X.env.cells.lookup x=some c->c≠b
 bs:∀ b o,X.base.get? b=some o->X.s₀.heap.get? b=some o/\X.H₀ b=none
 bsz:X.base.objs.size<=X.s₀.heap.objs.size
 noex:∀ b o,X.base.get? b=some o->b∉X.ex
 exfs:∀ b∈X.ex,b∉X.fs
 funs:X.s₀.heap.FunFrames X.base X.outer
 frf:∀ b∈X.fs,X.H₀ b=none
structure Inv (X:Cx)(pins:Lp)(σ:List (Option V))(H:Hp)(s:Shared):Prop where
 ok:X.Ok
 os:s.os=X.s₀.os
 bare:AllBare s.gens
 base:Un X.fs X.ex X.H₀ H X.s₀.heap s.heap
 loc:∃ m,s.heap.Ns X.env.locals m/\∀ (i:Nat) (x:Str) (v:V),X.N[i]? = some x->σ[i]? = some (some v)->t9 X.env.scope x->∃ u,RelV v u/\Look X.env s.heap m x u
 cell:∀ x c,X.env.cells.lookup x=some c->∃ v,s.heap.IsCell c v
 free:H X.env.locals=none
 freeC:∀ x c,X.env.cells.lookup x=some c->H c=none
 pin:∀ p∈X.pn++pins,s.heap.get? p.1=some p.2/\H p.1=none/\p.1≠X.env.locals/\p.1∉X.fs/\∀ v,p.2.data≠.cell v
 hok:lj X.prog X.w H s.heap
 len:σ.length=X.N.length
section
variable {X:Cx} {pins:Lp} {σ:List (Option V)} {H H':Hp} {s:Shared} {h':Heap}
theorem Cx.Ok.nofr (ok:X.Ok)(e:X.base.get? b=some o):b∉X.fs:=λhb=>by have:=(ok.funs.mem hb).1;rw [e] at this;cases this
theorem Inv.bs (I:Inv X pins σ H s):∀ b o,X.base.get? b=some o->s.heap.get? b=some o/\H b=none:=λb o e=>
 ⟨I.base.keep b o (I.ok.bs b o e).1 (I.ok.bs b o e).2 (I.ok.nofr e) (I.ok.noex b o e),I.base.free b o (I.ok.bs b o e).1 (I.ok.bs b o e).2 (I.ok.noex b o e)⟩
theorem Inv.bk (I:Inv X pins σ H s):∀ b o,X.base.get? b=some o->s.heap.get? b=some o:=λb o e=>(I.bs b o e).1
theorem Inv.mod (I:Inv X pins σ H s):Mod X.K X.mg X.base:=I.ok.mod
theorem Inv.kIn (I:Inv X pins σ H s):X.K.In s.heap:=I.ok.mod.kin.keeps I.bk
theorem Inv.nolimit (I:Inv X pins σ H s):s.heap.NoLimit:=I.ok.mod.nolimit.keeps I.bk
theorem Inv.lt (I:Inv X pins σ H s):X.env.locals<s.heap.objs.size:=let ⟨_,hn,_⟩:=I.loc;hn.lt
theorem Inv.sz (I:Inv X pins σ H s):X.s₀.heap.objs.size<=s.heap.objs.size:=uJ I.ok.above (gP I.lt)
theorem Inv.nofs (I:Inv X pins σ H s)(h:s.heap.objs.size<=a):a∉X.fs:=λhb=>by obtain⟨_,o,ho,_⟩:=I.ok.funs.mem hb;exact absurd (ur (ug ho) (uJ I.sz h)) (uY _)
theorem Inv.cne (I:Inv X pins σ H s):∀ x c,X.env.cells.lookup x=some c->c≠X.env.locals:=λx c e z=>by obtain⟨v,o,ho,hd⟩:=I.cell x c e;obtain⟨m,⟨o',es,ep,ho',hd',_⟩,_⟩:=I.loc;rw [z,ho'] at ho;cases ho;rw [hd'] at hd;cases hd
theorem Inv.funs (I:Inv X pins σ H s):s.heap.FunFrames X.base X.outer:=by
 have all:∀ (l:List Env),(∀ b∈lN l,b∈X.fs)->X.s₀.heap.FunFrames X.base l->s.heap.FunFrames X.base l:=by
  intro l
  induction l with
  | nil=>intro _ _;trivial
  | cons env r ih=>intro hs hl;obtain⟨hk,⟨L,o,hf,hn,ho,hd⟩,hr⟩:=hl;have hL:L∈X.fs:=hs L (by unfold lN;rw [gh,hf];exact Up);obtain⟨sl,e⟩:=I.base.slot L o ho (I.ok.frf L hL) hL λz=>I.ok.exfs L z hL;exact⟨hk,⟨L,_,hf,hn,e,hd⟩,ih (λb hb=>hs b (by unfold lN;rw [gh,hf];exact uL _ hb)) hr⟩
 exact all X.outer (λ_ hb=>hb) I.ok.funs
theorem Inv.stack (I:Inv X pins σ H s):s.heap.FunFrames X.base X.stack:=by
 rcases I.ok.stk with e | ⟨e,hf⟩
 ·rw [e];exact I.funs
 ·rw [e];obtain⟨m,hn,_⟩:=I.loc;refine .cons (by rw [I.ok.kind];decide) hf hn ?_ I.funs;exact gk (uJ I.ok.bsz I.ok.above)
theorem Inv.stkSub (I:Inv X pins σ H s):∀ b∈lN X.stack,b∈X.env.locals::X.fs:=λb hb=>by
 rcases I.ok.stk with e | ⟨e,hf⟩
 ·rw [e] at hb;exact uL _ hb
 ·rw [e] at hb;unfold lN at hb;rw [gh,hf] at hb;exact hb
theorem Inv.stkFree (I:Inv X pins σ H s):∀ b∈lN X.stack,H b=none:=λb hb=>by
 rcases uq.mp (I.stkSub b hb) with e | hb
 ·rw [e];exact I.free
 ·obtain⟨_,o,ho,_⟩:=I.ok.funs.mem hb;exact I.base.free b o ho (I.ok.frf b hb) λz=>I.ok.exfs b z hb
theorem Inv.step {g':Array GenState}{t':Nat}{d':Drawn}{ch:Le}(I:Inv X pins σ H s) (hch:∀ b∈ch,(b∈X.ex\/X.s₀.heap.objs.size<=b)/\b≠X.env.locals/\(∀ x c,X.env.cells.lookup x=some c->c≠b)/\∀ p∈X.pn++pins,p.1≠b) (keep:∀ b o,b≠X.env.locals->b∉X.fs->b∉ch->s.heap.get? b=some o->H b=none->h'.get? b=some o) (slot:∀ b o,b≠X.env.locals->b∈X.fs->b∉ch->s.heap.get? b=some o->H b=none->∃ sl,h'.get? b=some { o with slots:=sl }) (free:∀ b o,b∉ch->s.heap.get? b=some o->H b=none->H' b=none) (there:∀ b o,b∉ch->s.heap.get? b=some o->∃ o',h'.get? b=some o') (tups:∀ b xs,H b=some (.tup xs)->H' b=some (.tup xs)) (frzs:∀ b o u,H b=some (.frz o u)->H' b=some (.frz o u)) (tbls:∀ b ps,H b=some (.tbl ps)->∃ more,H' b=some (.tbl (ps++more))) (ns:∀ m,s.heap.Ns X.env.locals m->h'.Ns X.env.locals m) (hok:lj X.prog X.w H' h') (hg:AllBare g') : Inv X pins σ H' { s with heap:=h',gens:=g',drawn:=d',toks:=t' }:=by
 have neL:∀ b o,X.s₀.heap.get? b=some o->b≠X.env.locals:=λb o e=>Uc (ur (ug e) I.ok.above)
 have neC:∀ b o,X.s₀.heap.get? b=some o->b∉X.ex->b∉ch:=λb o e hx hb=>by
  rcases(hch b hb).1 with z | z
  ·exact hx z
  ·exact absurd (ur (ug e) z) (uY _)
 have cellK:∀ x c,X.env.cells.lookup x=some c->∀ v,s.heap.IsCell c v->h'.IsCell c v:=λx c e v ⟨o,ho,hd⟩=>by
  have nch:c∉ch:=λz=>(hch c z).2.2.1 x c e rfl;by_cases hc:c∈X.fs
  ·obtain⟨sl,q⟩:=slot c o (I.cne x c e) hc nch ho (I.freeC x c e);exact⟨_,q,hd⟩
  ·exact⟨o,keep c o (I.cne x c e) hc nch ho (I.freeC x c e),hd⟩
 refine⟨I.ok,I.os,hg,⟨λb o e n hb hx=>?_,λb o e n hb hx=>?_,λb o e n hx=>?_,λb o e hx=>?_,λb xs e=>tups b xs (I.base.tups b xs e),λb o xs e=>frzs b o xs (I.base.frzs b o xs e),λb ps e=>?_⟩,?_,λx c e=>?_,?_,λx c e=>?_,λp hp=>?_,hok,I.len⟩
 ·exact keep b o (neL b o e) hb (neC b o e hx) (I.base.keep b o e n hb hx) (I.base.free b o e n hx)
 ·obtain⟨sl,e1⟩:=I.base.slot b o e n hb hx;obtain⟨sl',e2⟩:=slot b _ (neL b o e) hb (neC b o e hx) e1 (I.base.free b o e n hx);exact⟨sl',e2⟩
 ·obtain⟨o',e1⟩:=I.base.there b o e hx;exact free b o' (neC b o e hx) e1 (I.base.free b o e n hx)
 ·obtain⟨o',e1⟩:=I.base.there b o e hx;exact there b o' (neC b o e hx) e1
 ·obtain⟨m1,e1⟩:=I.base.tbls b ps e;obtain⟨m2,e2⟩:=tbls b _ e1;exact⟨m1++m2,by rw [e2,Array.append_assoc]⟩
 ·obtain⟨m,hn,hl⟩:=I.loc;refine⟨m,ns m hn,λi x v e1 e2 e3=>?_⟩;obtain⟨u,r,l⟩:=hl i x v e1 e2 e3;refine⟨u,r,?_⟩;rcases l with l | ⟨k,c,e,z⟩
  ·exact .inl l
  ·exact .inr ⟨k,c,e,cellK x c e _ z⟩
 ·obtain⟨v,z⟩:=I.cell x c e;exact⟨v,cellK x c e v z⟩
 ·obtain⟨m,⟨o,_,_,ho,_⟩,_⟩:=I.loc;exact free _ o (λz=>(hch _ z).2.1 rfl) ho I.free
 ·obtain⟨v,o,ho,hd⟩:=I.cell x c e;exact free c o (λz=>(hch c z).2.2.1 x c e rfl) ho (I.freeC x c e)
 ·obtain⟨e,n,ne,nf,d⟩:=I.pin p hp;have nch:p.1∉ch:=λz=>(hch p.1 z).2.2.2 p hp rfl;exact⟨keep p.1 p.2 ne nf nch e n,free p.1 p.2 nch e n,ne,nf,d⟩
theorem Inv.un {t':Nat}(I:Inv X pins σ H s)(u:Un X.fs [] H H' s.heap h')(hok:lj X.prog X.w H' h'):Inv X pins σ H' { s with heap:=h',toks:=t' }:=by
 obtain⟨m,⟨o,es,ep,ho,r⟩,_⟩:=id I.loc;obtain⟨sl,hL⟩:=u.any ho I.free (by simp)
 exact I.step (g':=s.gens) (d':=s.drawn) (ch:=[]) (λ_ z=>nomatch z) (λb o _ hb _ e n=>u.keep b o e n hb (by simp)) (λb o _ hb _ e n=>u.slot b o e n hb (by simp)) (λb o _ e n=>u.free b o e n (by simp)) (λb o _ e=>u.there b o e (by simp)) u.tups u.frzs u.tbls (λm' hm=>by
  obtain⟨o',es',ep',ho',r'⟩:=hm
  rw [ho] at ho';cases ho'
  exact⟨_,es',ep',hL,r'⟩) hok I.bare
theorem Inv.call {g':Array GenState}{t':Nat}{d':Drawn}{ch:Le}(I:Inv X pins σ H s)(u:Un (lN X.stack) ch H H' s.heap h')(hok:lj X.prog X.w H' h')(hg:AllBare g') (hch:∀ b∈ch,(b∈X.ex\/X.s₀.heap.objs.size<=b)/\b≠X.env.locals/\(∀ x c,X.env.cells.lookup x=some c->c≠b)/\∀ p∈X.pn++pins,p.1≠b) : Inv X pins σ H' { s with heap:=h',gens:=g',drawn:=d',toks:=t' }:=by
 obtain⟨m,⟨o,es,ep,ho,r⟩,_⟩:=id I.loc;obtain⟨sl,hL⟩:=u.any ho I.free λz=>(hch _ z).2.1 rfl
 exact I.step (ch:=ch) hch (λb o hL hb hc e n=>u.keep b o e n (λz=>(uq.mp (I.stkSub b z)).elim hL hb) hc) (λb o _ _ hc e n=>u.any e n hc) (λb o hc e n=>u.free b o e n hc) (λb o hc e=>u.there b o e hc) u.tups u.frzs u.tbls (λm' hm=>by
  obtain⟨o',es',ep',ho',r'⟩:=hm
  rw [ho] at ho';cases ho'
  exact⟨_,es',ep',hL,r'⟩) hok hg
theorem Inv.turned {t':Nat}{it:Addr}(I:Inv X pins σ H s)(k:∀ b o,b≠it->s.heap.get? b=some o->h'.get? b=some o)(hn:H it=none)(hL:it≠X.env.locals) (h1:it∈X.ex\/X.s₀.heap.objs.size<=it) (h2:∀ x c,X.env.cells.lookup x=some c->c≠it) (h3:∀ p∈X.pn++pins,p.1≠it):Inv X pins σ H { s with heap:=h',toks:=t' }:=by
 have nit:∀ b u,H b=some u->b≠it:=λb u e z=>by rw [z,hn] at e;cases e
 refine I.step (g':=s.gens) (d':=s.drawn) (ch:=[it]) (λb hb=>?_) (λb o _ _ hc e _=>k b o (λz=>hc (by simp [z])) e) (λb o _ _ hc e _=>⟨o.slots,k b o (λz=>hc (by simp [z])) e⟩) (λ_ _ _ _ n=>n)
  (λb o hc e=>⟨o,k b o (λz=>hc (by simp [z])) e⟩) (λ_ _ e=>e) (λ_ _ _ e=>e) (λb ps e=>⟨#[],by rw [e];simp⟩) (λm hm=>?_) (λb u e=>?_) I.bare
 ·have e:b=it:=by simpa using hb
  subst e;exact⟨h1,hL,h2,h3⟩
 ·obtain⟨o,es,ep,ho,r⟩:=hm;exact⟨o,es,ep,k _ o (Ne.symm hL) ho,r⟩
 ·refine(I.hok b u e).stay (λc v hc q=>k c v ?_ q) (λ_ q=>q) λ_ _ q=>q;rcases hc with z | z
  ·rw [z];exact nit b u e
  ·exact nit c _ z
theorem Inv.tok (I:Inv X pins σ H s)(t:Nat):Inv X pins σ H { s with toks:=t }:=I.un (h':=s.heap) (t':=t) Un.refl I.hok
theorem Inv.kept (I:Inv X pins σ H s)(k:∀ b u,s.heap.get? b=some u->h'.get? b=some u):Inv X pins σ H { s with heap:=h',toks:=t' }:=I.un (Un.kept k) (I.hok.kept k)
theorem Inv.laid (I:Inv X pins σ H s)(k:∀ b u,s.heap.get? b=some u->h'.get? b=some u)(hp:s.heap.objs.size<=a)(new:qA X.prog X.w (upd H a o) h' a o) :
  Inv X pins σ (upd H a o) { s with heap:=h',toks:=t' }:=I.un (Un.laid k hp (I.hok.fresh hp)) (I.hok.laid k hp new)
theorem Inv.write (I:Inv X pins σ H s)(mu:tN (H x))(he:e=x\/H e=some (.own x))(k:∀ b u,b≠e->s.heap.get? b=some u->h'.get? b=some u)(heo:∃ u,h'.get? e=some u)
  (new:qA X.prog X.w (upd H x o) h' x o):Inv X pins σ (upd H x o) { s with heap:=h',toks:=t' }:=I.un (Un.write mu he k heo) (I.hok.write mu he k heo new)
theorem Inv.pins_of {pins':Lp}(I:Inv X pins σ H s)(h:∀ p∈pins',s.heap.get? p.1=some p.2/\H p.1=none/\p.1≠X.env.locals/\p.1∉X.fs/\∀ v,p.2.data≠.cell v):Inv X pins' σ H s:= ⟨I.ok,I.os,I.bare,I.base,I.loc,I.cell,I.free,I.freeC,λp hp=>(u9.mp hp).elim (λz=>I.pin p (uX _ z)) (h p),I.hok,I.len⟩
theorem Kv {N:Lj}(hN:N.Nodup){i j:Nat}{x:Str}(a:N[i]? = some x)(b:N[j]? = some x):i=j:=by obtain⟨h1,e1⟩:=uA.mp a;obtain⟨h2,e2⟩:=uA.mp b;exact(List.getElem_inj hN).mp (e1.trans e2.symm)
theorem VB (I:Inv X pins σ H s)(hN:X.N.Nodup)(hi:X.N[i]? = some x)(hx:Loc X.env.scope x)(r:RelV v u) (h:∀ s',Inv X pins (σ.set i (some v)) H s'->(∃ a,Heap.SameBut a s.heap s'.heap/\(a=X.env.locals\/X.env.cells.lookup x=some a))->Q () s') (hf:X.fn x=true\/X.env.scope.names.lookup x=some .local:=by first | exact .inl rfl | exact .inr rfl | assumption):wpAny M A (storeName X.env x u) Q E s:=by
 obtain⟨m,hn,hl⟩:=id I.loc;have hcls:(X.env.scope.kind == .class||(X.env.scope.kind == .module&&X.env.locals != X.env.globals))=false:=by rw [I.ok.kind];rfl
 have hiσ:i<σ.length:=by rw [I.len];exact(uA.mp hi).1
 have cne:=I.cne
 have tracked:∀ {a:Addr} {h':Heap},(∃ o,s.heap.get? a=some o/\H a=none)->Heap.SameBut a s.heap h'->lj X.prog X.w H h':=λ{a h'} ha hs b ob e=>by
  obtain⟨_,_,hfree⟩:=ha;refine(I.hok b ob e).stay (λc w' hc q=>(hs.2 c ?_).trans q) (λ_ q=>q) λ_ _ q=>q;rintro rfl;rcases hc with rfl | hc
  ·rw [hfree] at e;cases e
  ·rw [hfree] at hc;cases hc
 rcases hx with hk | hk
 ·refine wpAny_storeName_local hk hn (λh' hn' hs=>?_) hcls;obtain⟨oL,_,_,hoL,_⟩:=id hn;refine h _ ⟨I.ok,I.os,I.bare,⟨λb o e n hb hx=>?_,λb o e n hb hx=>?_,I.base.free,λb o e hx=>?_,I.base.tups,I.base.frzs,I.base.tbls⟩,⟨_,hn',λj y v' e1 e2 e3=>?_⟩,λy c e=>?_,I.free,I.freeC,λp hp=>?_,tracked ⟨oL,hoL,I.free⟩ hs,by simpa using I.len⟩ ⟨_,hs,.inl rfl⟩
  ·exact(hs.2 b (Uc (ur (ug e) I.ok.above))).trans (I.base.keep b o e n hb hx)
  ·obtain⟨sl,e1⟩:=I.base.slot b o e n hb hx;exact⟨sl,(hs.2 b (Uc (ur (ug e) I.ok.above))).trans e1⟩
  ·obtain⟨o',e1⟩:=I.base.there b o e hx;exact⟨o',(hs.2 b (Uc (ur (ug e) I.ok.above))).trans e1⟩
  ·by_cases hj:j=i
   ·subst hj;rw [hi] at e1;cases e1;rw [List.getElem?_set_self hiσ] at e2;cases e2;exact⟨u,r,.inl ⟨hk,by simp⟩⟩
   ·rw [List.getElem?_set_ne (Ne.symm hj)] at e2;obtain⟨u',r',q⟩:=hl j y v' e1 e2 e3;refine⟨u',r',?_⟩;rcases q with⟨k,e⟩ | ⟨k,c,e,z⟩
    ·refine .inl ⟨k,?_⟩;have:y≠x:=λe=>hj (Kv hN e1 (e ▸ hi));simp [this,e]
    ·exact .inr ⟨k,c,e,z.sameBut hs (cne y c e)⟩
  ·obtain⟨w',z⟩:=I.cell y c e;exact⟨w',z.sameBut hs (cne y c e)⟩
  ·obtain⟨e,n,ne,nf,d⟩:=I.pin p hp;exact⟨(hs.2 p.1 ne).trans e,n,ne,nf,d⟩
 ·have hfn:X.fn x=true:=by
   rcases hf with z | z
   ·exact z
   ·rw [z] at hk;cases hk
  obtain⟨c,hc⟩:=I.ok.has x (.inl hk)
  obtain⟨w',z⟩:=I.cell x c hc
  refine wpAny_storeName_cell I.ok.kind hk hc z (λh' hc' hs=>?_)
  obtain⟨oc,hoc,hocd⟩:=id z
  refine h { s with heap:=h' } ⟨I.ok,I.os,I.bare,⟨λb o e n hb hx=>?_,λb o e n hb hx=>?_,I.base.free,λb o e hx=>?_,I.base.tups,I.base.frzs,I.base.tbls⟩,⟨m,hn.sameBut hs (Ne.symm (cne x c hc)),λj y v' e1 e2 e3=>?_⟩,λy c' e=>?_,I.free,I.freeC,λp hp=>?_,tracked ⟨oc,hoc,I.freeC x c hc⟩ hs,by simpa using I.len⟩ ⟨c,hs,.inr hc⟩
  ·exact(hs.2 b (Uc (ur (ug e) (I.ok.cab x c hfn hc)))).trans (I.base.keep b o e n hb hx)
  ·obtain⟨sl,e1⟩:=I.base.slot b o e n hb hx
   exact⟨sl,(hs.2 b (Uc (ur (ug e) (I.ok.cab x c hfn hc)))).trans e1⟩
  ·obtain⟨o',e1⟩:=I.base.there b o e hx
   exact⟨o',(hs.2 b (Uc (ur (ug e) (I.ok.cab x c hfn hc)))).trans e1⟩
  ·by_cases hj:j=i
   ·subst hj
    rw [hi] at e1;cases e1
    rw [List.getElem?_set_self hiσ] at e2
    cases e2
    exact⟨u,r,.inr ⟨.inl hk,c,hc,hc'⟩⟩
   ·rw [List.getElem?_set_ne (Ne.symm hj)] at e2
    obtain⟨u',r',q⟩:=hl j y v' e1 e2 e3
    refine⟨u',r',?_⟩
    rcases q with q | ⟨k,c',e,z'⟩
    ·exact .inl q
    ·refine .inr ⟨k,c',e,z'.sameBut hs ?_⟩
     rintro rfl
     exact hj (Kv hN e1 (I.ok.inj _ _ _ e hc ▸ hi))
  ·by_cases hcc:c' = c
   ·subst hcc;exact⟨_,hc'⟩
   ·obtain⟨w2,z2⟩:=I.cell y c' e
    exact⟨w2,z2.sameBut hs hcc⟩
  ·obtain⟨e,n,ne,nf,d⟩:=I.pin p hp
   refine⟨(hs.2 p.1 ?_).trans e,n,ne,nf,d⟩
   intro q
   rw [q,hoc] at e
   have q':oc=p.2:=uG e
   exact d w' (by rw [← q'];exact hocd)
theorem Xj (I:Inv X pins σ H s)(hN:X.N.Nodup)(hi:X.N[i]? = some x)(hx:Loc X.env.scope x)(r:RelV v u)
  (h:∀ s',Inv X pins (σ.set i (some v)) H s'->Q () s') (hf:X.fn x=true\/X.env.scope.names.lookup x=some .local:=by first | exact .inl rfl | exact .inr rfl | assumption):wpAny M A (storeName X.env x u) Q E s:=
 VB I hN hi hx r (λs' I' _=>h s' I') hf
theorem Inv.call' {s':Shared}(I:Inv X pins σ H s)(ho:s'.os=s.os)(u:Un (lN X.stack) ch H H' s.heap s'.heap)(hok:lj X.prog X.w H' s'.heap)(hg:AllBare s'.gens) (hch:∀ b∈ch,(b∈X.ex\/X.s₀.heap.objs.size<=b)/\b≠X.env.locals/\(∀ x c,X.env.cells.lookup x=some c->c≠b)/\∀ p∈X.pn++pins,p.1≠b):Inv X pins σ H' s':=by obtain⟨h',g',d',t',o'⟩:=s';have e:o' = s.os:=ho;subst e;exact I.call (g':=g') (t':=t') (d':=d') u hok hg hch
end
abbrev XK:=Value->Option Addr->Hp->Prop
abbrev St:=List (Option V)
abbrev VK:=V->Hp->Prop
abbrev TE:=St->Hp->VK->Prop
abbrev TT:=St->Hp->(Bool->Hp->Prop)->Prop
abbrev TA:=St->Hp->(List V->Hp->Prop)->Prop
structure Ends where
 nx:St->Hp->Prop
 rt:VK
 bk:St->Hp->Prop:=λ_ _=>False
 ct:St->Hp->Prop:=λ_ _=>False
abbrev TS:=Ends->St->Hp->Prop
def EP (X:Cx)(pins:Lp)(σ:St)(Q:VK)(u:Value)(s':Shared):Prop:=∃ v H',Inv X pins σ H' s'/\RelV v u/\Q v H'
def TP (X:Cx)(pins:Lp)(σ:St)(Q:Bool->Hp->Prop)(b:Bool)(s':Shared):Prop:=∃ H',Inv X pins σ H' s'/\Q b H'
def AP (X:Cx)(pins:Lp)(σ:St)(Q:List V->Hp->Prop)(us:Lg)(s':Shared):Prop:=∃ vs H',Inv X pins σ H' s'/\Vals vs us/\Q vs H'
def SP (X:Cx)(pins:Lp)(D:Ends)(f:Flow)(s':Shared):Prop:=
 match f with
 | .next=>∃ σ' H',Inv X pins σ' H' s'/\D.nx σ' H'
 | .brk=>∃ σ' H',Inv X pins σ' H' s'/\D.bk σ' H'
 | .cont=>∃ σ' H',Inv X pins σ' H' s'/\D.ct σ' H'
 | .ret u=>∃ v σ' H',Inv X pins σ' H' s'/\RelV v u/\D.rt v H'
def PE (X:Cx)(e:Expr)(t:TE):Prop:= ∀ (pins:Lp) (s:Shared) (σ:St) (H:Hp) (Q:VK),Inv X pins σ H s->t σ H Q->fN X (eval e X.env) (EP X pins σ Q) X.xe s
def PT (X:Cx)(e:Expr)(t:TT):Prop:= ∀ (pins:Lp) (s:Shared) (σ:St) (H:Hp) (Q:Bool->Hp->Prop),Inv X pins σ H s->t σ H Q->fN X (isTrue e X.env (eval e X.env)) (TP X pins σ Q) X.xe s
def PW (X:Cx)(e:Expr)(t:TT):Prop:= ∀ (whole:Sem Value) (pins:Lp) (s:Shared) (σ:St) (H:Hp) (Q:Bool->Hp->Prop),Inv X pins σ H s->t σ H Q->fN X (isTrue e X.env whole) (TP X pins σ Q) X.xe s
theorem PW.pt {X:Cx}(h:PW X e t):PT X e t:=h _
def PA (X:Cx)(es:Lh)(t:TA):Prop:= ∀ (pos:Pos) (pins:Lp) (s:Shared) (σ:St) (H:Hp) (Q:List V->Hp->Prop),Inv X pins σ H s->t σ H Q->fN X (spliced (backTo pos (starEach es X.env))) (AP X pins σ Q) X.xe s
def PS (X:Cx)(st:Stmt)(t:TS):Prop:= ∀ (pins:Lp) (s:Shared) (σ:St) (H:Hp) (D:Ends),Inv X pins σ H s->t D σ H->fN X (exec st X.env) (SP X pins D) X.xe s
def lJ (X:Cx)(st:List Stmt)(t:TS):Prop:= ∀ (pins:Lp) (s:Shared) (σ:St) (H:Hp) (D:Ends),Inv X pins σ H s->t D σ H->fN X (execs st X.env) (SP X pins D) X.xe s
theorem ik {α:Type}{t:Sem α}{Q Q':α->Shared->Prop}{M:Model}{A:Around}{E:fL}{s:Shared}(h:wpAny M A t Q E s)(hQ:∀ a s,Q a s->Q' a s):wpAny M A t Q' E s:=um h hQ λ_ _ x=>x
section
variable {X:Cx}
def iA (i:Nat):TE:=λσ H Q=>∃ v,σ[i]? = some (some v)/\Q v H
def tC (v:V):TE:=λ_ H Q=>Q v H
theorem MQ (hN:X.N[i]? = some x)(hv:t9 X.env.scope x)(hd:(x == ("__debug__":Str))=false:=by decide) (hcd:(x == ("__classdict__":Str))=false:=by decide):PE X (.Name x pos) (iA i):=by
 intro pins s σ H Q I h;obtain⟨v,e,h⟩:=h;obtain⟨m,hn,hl⟩:=I.loc;obtain⟨u,r,l⟩:=hl i x v hN e hv;have fin:EP X pins σ Q u s:=⟨v,H,I,r,h⟩
 rcases l with⟨hk,hm⟩ | ⟨hk,c,hc,hcell⟩
 ·exact GN (wpAny_loadName_local I.ok.kind hk hn hm fin) hd
 ·rcases hk with hk | hk
  ·exact GN (wpAny_loadName_cell I.ok.kind hk hc hcell fin) hd
  ·exact GN (wpAny_loadName_free I.ok.kind hk hc hcell fin hcd) hd
theorem DV {i j pos}:PE X (.Constant (.int i) j pos) (tC (.int i)):=λ_ _ _ H _ I h=>wpAny_Constant_int ⟨.int i,H,I.tok _,⟨_,rfl⟩,h⟩
theorem ID {b j pos}:PE X (.Constant (.bool b) j pos) (tC (.bl b)):=λ_ _ _ H _ I h=>Constant_bool ⟨.bl b,H,I,rfl,h⟩
theorem MP {j pos}:PE X (.Constant .none j pos) (tC .non):=λ_ _ _ H _ I h=>Constant_none ⟨.non,H,I,rfl,h⟩
theorem Bu {x j pos}:PE X (.Constant (.str x) j pos) (tC (.str x)):=λ_ _ _ H _ I h=>Calls.Constant_str ⟨.str x,H,I.tok _,⟨_,rfl⟩,h⟩
def Gl (X:Cx)(x:Str):Prop:=X.env.kindOf x=some .globalImplicit
theorem w4 {pins:Lp}(I:Inv X pins σ H s)(hg:Gl X x)(hm:X.mg x=some u)(h:Q u s)
  (hd:(x == ("__debug__":Str))=false:=by decide):fN X (eval (.Name x pos) X.env) Q E s:=
 Calls.Name_function_global I.ok.kind hg (Calls.loadGlobal_global (by rw [I.ok.glob];exact I.mod.glob.keeps I.bk) hm h) hd
theorem Xk {pins:Lp}(I:Inv X pins σ H s)(hg:Gl X x)(hm:X.mg x=none)(hv:bootBuiltins x=some u)(h:Q u s) (hn:x≠"__name__":=by decide) (hd:(x == ("__debug__":Str))=false:=by decide):fN X (eval (.Name x pos) X.env) Q E s:=by obtain⟨mb,h1,h2⟩:=I.mod.blt;exact Calls.Name_function_global I.ok.kind hg (Calls.loadGlobal_builtin (by rw [I.ok.glob];exact I.mod.glob.keeps I.bk) hm (by rw [I.ok.blt];exact h1.keeps I.bk) ((h2 x hn).trans hv) h) hd
theorem EA (hg:Gl X x)(hm:X.mg x=some u)(r:RelV v u)(hd:(x == ("__debug__":Str))=false:=by decide):PE X (.Name x pos) (tC v):=
 λ_ _ _ H _ I h=>w4 I hg hm ⟨v,H,I,r,h⟩ hd
theorem OI (hg:Gl X x)(hm:X.mg x=none)(hv:bootBuiltins x=some u)(r:RelV v u)(hn:x≠"__name__":=by decide) (hd:(x == ("__debug__":Str))=false:=by decide):PE X (.Name x pos) (tC v):=
 λ_ _ _ H _ I h=>Xk I hg hm hv ⟨v,H,I,r,h⟩ hn hd
variable {a b:Expr} {ta tb:TE} {pos:Pos}
def tB (t:TE):TT:=λσ H Q=>t σ H λx H1=>∃ c,x=.bl c/\Q c H1
theorem MO {e:Expr}{t:TE}(h:PE X e t)(he:∀ whole,isTrue e X.env whole=(do let v ← whole;standAt e.pos;holding [v] (truthy v)):=by intro _;rfl):PT X e (tB t):=by intro pins s σ H Q I hw;refine G7 (ik (h pins s σ H _ I hw) λv s1 zq=>?_) (he _);obtain⟨x,H1,I1,r1,q1⟩:=zq;obtain⟨d,rfl,q⟩:=q1;cases r1;exact U2 ⟨H1,I1,q⟩
variable {tA tB':TT} {rest:Lh}
def rb (t u:TT):TT:=λσ H Q=>t σ H λc H1=>if c=true then u σ H1 Q else Q false H1
def BB (t u:TT):TT:=λσ H Q=>t σ H λc H1=>if c=true then Q true H1 else u σ H1 Q
def pY (t:TT):TT:=λσ H Q=>t σ H λc H1=>Q (!c) H1
theorem Pk (ha:PT X a tA):PW X (.BoolOp .And [a] pos) tA:=by
 intro wh pins s σ H Q I h;refine hZ (ik (ha pins s σ H Q I h) λc s1 e=>?_);cases c with
 | true=>exact isTrue_and_nil e
 | false=>exact e
theorem MN (ha:PT X a tA):PW X (.BoolOp .Or [a] pos) tA:=by
 intro wh pins s σ H Q I h;refine isTrue_or (ik (ha pins s σ H Q I h) λc s1 e=>?_);cases c with
 | false=>exact isTrue_or_nil e
 | true=>exact e
theorem MM (ha:PT X a tA)(hb:PW X (.BoolOp .And (b::rest) pos) tB'):PW X (.BoolOp .And (a::b::rest) pos) (rb tA tB'):=by
 intro wh pins s σ H Q I h;refine hZ (ik (ha pins s σ H _ I h) λc s1 zq=>?_);obtain⟨H1,I1,q1⟩:=zq;cases c with
 | true=>exact hb wh pins s1 σ H1 Q I1 q1
 | false=>exact⟨H1,I1,q1⟩
theorem Hm (ha:PT X a tA)(hb:PW X (.BoolOp .Or (b::rest) pos) tB'):PW X (.BoolOp .Or (a::b::rest) pos) (BB tA tB'):=by
 intro wh pins s σ H Q I h;refine isTrue_or (ik (ha pins s σ H _ I h) λc s1 zq=>?_);obtain⟨H1,I1,q1⟩:=zq;cases c with
 | true=>exact⟨H1,I1,q1⟩
 | false=>exact hb wh pins s1 σ H1 Q I1 q1
theorem ML (ha:PT X a tA):PT X (.UnaryOp .Not a pos) (pY tA):=by intro pins s σ H Q I h;exact isTrue_not (ha pins s σ H (λc H1=>Q (!c) H1) I h)
def AR (ta tb:TE):TE:=λσ H Q=>ta σ H λx H1=>∃ c,x=.bl c/\if c=true then tb σ H1 Q else Q (.bl false) H1
theorem MK {op}(h:PE X a t):PE X (.BoolOp op [a] pos) t:=λpins s σ H Q I hw=>BoolOp_one (h pins s σ H Q I hw)
theorem MJ (ha:PE X a ta)(hb:PE X (.BoolOp .And (b::rest) pos) tb):PE X (.BoolOp .And (a::b::rest) pos) (AR ta tb):=by
 intro pins s σ H Q I h;refine BoolOp_and (ik (ha pins s σ H _ I h) λv s1 zq=>?_);obtain⟨x,H1,I1,r1,q1⟩:=zq;obtain⟨c,rfl,q1⟩:=q1;cases r1;refine U2 ?_;cases c with
 | true=>exact hb pins s1 σ H1 Q I1 q1
 | false=>exact⟨.bl false,H1,I1,rfl,q1⟩
def BD (t:TT)(ta tb:TE):TE:=λσ H Q=>t σ H λc H1=>if c=true then ta σ H1 Q else tb σ H1 Q
theorem RP {c:Expr}(hc:PT X c tA)(ha:PE X a ta)(hb:PE X b tb):PE X (.IfExp c a b pos) (BD tA ta tb):=by
 intro pins s σ H Q I h;refine wpAny_IfExp (ik (hc pins s σ H _ I h) λd s1 zq=>?_);obtain⟨H1,I1,q1⟩:=zq;cases d with
 | true=>exact ha pins s1 σ H1 Q I1 q1
 | false=>exact hb pins s1 σ H1 Q I1 q1
end
def ij (K:Lf)(H:Hp)(a:Addr)(xs:List V):Prop:= Rd H a (.lst xs) \/ ∃ (o:Obj) (fX:Array Value) (n:Nat),K.lookup a=some o/\o.cls=.type "list"/\o.dict=none/\o.data=.seq fX n/\fX.size<=sizeLine/\Vals xs fX.toList
def f7 (K:Lf)(H:Hp)(a:Addr)(xs:List V):Prop:= Rd H a (.tup xs) \/ ∃ (o:Obj) (fX:Array Value) (n:Nat),K.lookup a=some o/\o.cls=.type "tuple"/\o.data=.seq fX n/\fX.size<=sizeLine/\Vals xs fX.toList
def CU:Value->Option V
 | .none=>some .non
 | .bool b=>some (.bl b)
 | .int i _=>some (.int i)
 | .str x _=>some (.str x)
 | .bytes b _=>some (.byt b)
 | .float b _=>some (.flt b)
 | .ref a=>some (.ref a)
 | .type n=>some (.ty n)
 | _=>none
theorem RelV.abs (r:RelV x u):CU u=some x:=by
 cases x with
 | non=>cases r;rfl
 | bl _=>cases r;rfl
 | int _=>obtain⟨t,rfl⟩:=r;rfl
 | str _=>obtain⟨t,rfl⟩:=r;rfl
 | byt _=>obtain⟨t,rfl⟩:=r;rfl
 | flt _=>obtain⟨t,rfl⟩:=r;rfl
 | ref _=>cases r;rfl
 | ty _=>cases r;rfl
theorem RelV.inj (r:RelV x u)(q:RelV y u):x=y:=uG (r.abs.symm.trans q.abs)
theorem Vals.inj:∀ {xs ys:List V} {us:Lg},Vals xs us->Vals ys us->xs=ys
 | _,_,_,.nil,.nil=>rfl
 | _,_,_,.cons r t,.cons r' t'=>by rw [r.inj r',Vals.inj t t']
section
variable {X:Cx} {pins:Lp} {σ:St} {H:Hp} {s:Shared} {a:Addr} {xs ys:List V}
theorem ij.of {K:Lf}(h:H a=some (.lst xs)):ij K H a xs:=.inl (.inl h)
theorem f7.of {K:Lf}(h:H a=some (.tup xs)):f7 K H a xs:=.inl (.inl h)
theorem Inv.list (I:Inv X pins σ H s)(h:ij X.K H a xs):∃ fX:Lg,Vals xs fX/\PlainL s.heap a fX.toArray/\xs.length<=sizeLine:=by
 rcases h with h | ⟨o,fX,n,hk,hc,hd,hs,hz,r⟩
 ·obtain⟨z,fX,n,r,e⟩:=h.ok I.hok;exact⟨fX,r,⟨_,n,e,rfl,rfl,rfl⟩,z⟩
 ·refine⟨fX.toList,r,⟨o,n,I.kIn a o hk,hc,hd,by simpa using hs⟩,?_⟩;have e:=r.length;simp only [Gj] at e;lia
theorem Inv.tuple (I:Inv X pins σ H s)(h:f7 X.K H a xs):∃ fX:Lg,Vals xs fX/\IsTup s.heap a fX.toArray/\xs.length<=sizeLine:=by
 rcases h with h | ⟨o,fX,n,hk,hc,hs,hz,r⟩
 ·obtain⟨z,fX,r,p⟩:=h.ok I.hok;exact⟨fX,r,p,z⟩
 ·refine⟨fX.toList,r,⟨o,I.kIn a o hk,hc,n,by simpa using hs⟩,?_⟩;have e:=r.length;simp only [Gj] at e;lia
theorem Inv.list_inj (I:Inv X pins σ H s)(h:ij X.K H a xs)(h':ij X.K H a ys):xs=ys:=by
 obtain⟨fX,r,⟨o,n,e,_,_,d⟩,_⟩:=I.list h;obtain⟨its',r',⟨o',n',e',_,_,d'⟩,_⟩:=I.list h';rw [e] at e';cases e';rw [d] at d';injection d' with d1 _;have:fX=its':=by simpa using congrArg Array.toList d1
 subst this;exact r.inj r'
end
abbrev Cx.wish (X:Cx)(E:fL):Cx:={ X with xe:=E }
abbrev Cx.nox (X:Cx):Cx:=X.wish λ_ _=>False
theorem Cx.Ok.wish {X:Cx}(ok:X.Ok)(E:fL):(X.wish E).Ok:= ⟨ok.mod,ok.kind,ok.glob,ok.blt,ok.above,ok.inj,ok.has,ok.cab,ok.hd,ok.frames,ok.stk,ok.exf,ok.bs,ok.bsz,ok.noex,ok.exfs,ok.funs,ok.frf⟩
theorem Cx.Ok.unwish {X:Cx}(ok:(X.wish E).Ok):X.Ok:= ⟨ok.mod,ok.kind,ok.glob,ok.blt,ok.above,ok.inj,ok.has,ok.cab,ok.hd,ok.frames,ok.stk,ok.exf,ok.bs,ok.bsz,ok.noex,ok.exfs,ok.funs,ok.frf⟩
section
variable {X:Cx} {pins:Lp} {σ:St} {H:Hp} {s:Shared} {E:fL}
theorem Inv.wish (I:Inv X pins σ H s)(E:fL):Inv (X.wish E) pins σ H s:=⟨I.ok.wish E,I.os,I.bare,I.base,I.loc,I.cell,I.free,I.freeC,I.pin,I.hok,I.len⟩
theorem Inv.unwish (I:Inv (X.wish E) pins σ H s):Inv X pins σ H s:=⟨I.ok.unwish,I.os,I.bare,I.base,I.loc,I.cell,I.free,I.freeC,I.pin,I.hok,I.len⟩
theorem SP.unwish (h:SP (X.wish E) pins D f s'):SP X pins D f s':=by
 cases f with
 | next=>obtain⟨σ',H',I,q⟩:=h;exact⟨σ',H',I.unwish,q⟩
 | brk=>obtain⟨σ',H',I,q⟩:=h;exact⟨σ',H',I.unwish,q⟩
 | cont=>obtain⟨σ',H',I,q⟩:=h;exact⟨σ',H',I.unwish,q⟩
 | ret u=>obtain⟨v,σ',H',I,r,q⟩:=h;exact⟨v,σ',H',I.unwish,r,q⟩
theorem PE.nox (h:PE X.nox e t):PE X e t:=λpins s σ H Q I hw=>
 um (h pins s σ H Q (I.wish _) hw) (λ_ _ ⟨v,H',I',r,q⟩=>⟨v,H',I'.unwish,r,q⟩) λ_ _ z=>False.elim z
theorem PT.nox (h:PT X.nox e t):PT X e t:=λpins s σ H Q I hw=>
 um (h pins s σ H Q (I.wish _) hw) (λ_ _ ⟨H',I',q⟩=>⟨H',I'.unwish,q⟩) λ_ _ z=>False.elim z
theorem lJ.nox {st:List Stmt}{t:TS}(h:lJ X.nox st t):lJ X st t:=λpins s σ H D I hw=>
 um (h pins s σ H D (I.wish _) hw) (λ_ _ q=>q.unwish) λ_ _ z=>False.elim z
end
section
variable {X:Cx} {st:Stmt} {rest:List Stmt} {t u:TS} {e:Expr} {te:TE} {pos:Pos}
def VC:TS:=λD σ H=>D.nx σ H
def iT (t u:TS):TS:=λD σ H=>t { D with nx:=u D } σ H
theorem Pj:lJ X [] VC:=λ_ _ σ H _ I h=>UO ⟨σ,H,I,h⟩
theorem wu (h1:PS X st t)(h2:lJ X rest u):lJ X (st::rest) (iT t u):=by
 intro pins s σ H D I h;refine wpAny_execs_cons (ik (h1 pins s σ H { D with nx:=u D } I h) λf s1 q=>?_);cases f with
 | next=>obtain⟨σ',H',I',q⟩:=q;exact h2 pins s1 σ' H' D I' q
 | ret v=>exact q
 | brk=>exact q
 | cont=>exact q
theorem Z6 (h1:PS X st t):lJ X [st] t:=by
 intro pins s σ H D I h;refine wpAny_execs_cons (ik (h1 pins s σ H D I h) λf s1 q=>?_);cases f with
 | next=>exact UO q
 | ret v=>exact q
 | brk=>exact q
 | cont=>exact q
def V5:TS:=λD σ H=>D.bk σ H
theorem RO:PS X (.Break pos) V5:=λ_ _ σ H _ I h=>wpAny_Break ⟨σ,H,I,h⟩
theorem Inv.quiet {pins:Lp}(I:Inv X pins σ H s):interactive X.env=false:=by simp [interactive,I.ok.kind]
def WD (te:TE):TS:=λD σ H=>te σ H λ_ H1=>D.nx σ H1
theorem Z7 (he:PE X e te)(hs:swapsWith e none pos.line X.env=pure false:=by rfl):PS X (.Expr e pos) (WD te):=by intro pins s σ H D I h;exact wpAny_Expr_any (ik (he pins s σ H _ I h) λv s1 ⟨x,H1,I1,r1,q1⟩=>⟨σ,H1,I1,q1⟩) I.quiet hs
def pX (te:TE):TS:=λD σ H=>te σ H D.rt
theorem MI (he:PE X e te):PS X (.Return (some e) pos) (pX te):=by intro pins s σ H D I h;exact wpAny_Return_some (ik (he pins s σ H _ I h) λv s1 ⟨x,H1,I1,r1,q1⟩=>⟨x,σ,H1,I1,r1,q1⟩)
def ny (c:TT)(t u:TS):TS:=λD σ H=>c σ H λb H1=>if b=true then t D σ H1 else u D σ H1
theorem Hl {c:Expr}{a b:List Stmt}{tc:TT}(hc:PT X c tc)(ha:lJ X a t)(hb:lJ X b u):PS X (.If c a b pos) (ny tc t u):=by
 intro pins s σ H D I h;refine wpAny_If (ik (hc pins s σ H _ I h) λd s1 zq=>?_);obtain⟨H1,I1,q1⟩:=zq;cases d with
 | true=>exact ha pins s1 σ H1 D I1 q1
 | false=>exact hb pins s1 σ H1 D I1 q1
def V6:TS:=λ_ _ _=>False
theorem RN:PS X st V6:=λ_ _ _ _ _ _ h=>h.elim
end
abbrev TG:=V->St->Hp->(St->Hp->Prop)->Prop
abbrev rR:=List V->St->Hp->(St->Hp->Prop)->Prop
def PG (X:Cx)(target:Expr)(t:TG):Prop:= ∀ (pins:Lp) (s:Shared) (σ:St) (H:Hp) (v:V) (u:Value) (Q:St->Hp->Prop),Inv X pins σ H s->RelV v u->t v σ H Q -> fN X (assign target X.env u) (λ_ s'=>∃ σ' H',Inv X pins σ' H' s'/\Q σ' H') X.xe s
def tK (X:Cx)(ts:Lh)(t:rR):Prop:= ∀ (pins:Lp) (s:Shared) (σ:St) (H:Hp) (vs:List V) (us:Lg) (Q:St->Hp->Prop),Inv X pins σ H s->Vals vs us->t vs σ H Q -> fN X (assignInOrder ((assignEach ts X.env).map (·.2)) us) (λ_ s'=>∃ σ' H',Inv X pins σ' H' s'/\Q σ' H') X.xe s
abbrev rQ:=V->V->V->Hp->(Hp->Prop)->Prop
def rW (X:Cx)(t:rQ):Prop:= ∀ (pins:Lp) (s:Shared) (σ:St) (H:Hp) (o i v:V) (ov iv u:Value) (Q:Hp->Prop),Inv X pins σ H s->RelV o ov->RelV i iv->RelV v u->t o i v H Q -> fN X (setItem ov iv u) (λ_ s'=>∃ H',Inv X pins σ H' s'/\Q H') X.xe s
abbrev FK:=V->V->Hp->VK->Prop
section
variable {X:Cx} {pos:Pos}
def xD (i:Nat):TG:=λv σ H Q=>Q (σ.set i (some v)) H
theorem Ez (hN:X.N.Nodup)(hi:X.N[i]? = some x)(hx:Loc X.env.scope x)(hf:X.fn x=true\/X.env.scope.names.lookup x=some .local:=by first | exact .inl rfl | exact .inr rfl | assumption):PG X (.Name x pos) (xD i):=by intro pins s σ H v u Q I r h;exact Ha (Xj I hN hi hx r (λs' I'=>⟨_,H,I',h⟩) hf)
def ph:rR:=λvs σ H Q=>vs=[]/\Q σ H
def VD (t:TG)(u:rR):rR:=λvs σ H Q=>∃ v r,vs=v::r/\t v σ H λσ' H'=>u r σ' H' Q
theorem Ph:tK X [] ph:=by intro pins s σ H vs us Q I r h;obtain⟨e,h⟩:=h;subst e;cases r;exact assignInOrder_nil ⟨σ,H,I,h⟩
theorem RM {e:Expr}{es:Lh}{t:TG}{u:rR}(h1:PG X e t)(h2:tK X es u) (hs:(assignEach (e::es) X.env).map (·.2)=assign e X.env::(assignEach es X.env).map (·.2):=by rfl):tK X (e::es) (VD t u):=by
 intro pins s σ H vs us Q I r h;obtain⟨v,vr,e1,h⟩:=h;subst e1;cases r with
 | cons r rr=>rw [hs];refine assignInOrder_cons (ik (h1 pins s σ H _ _ _ I r h) λ_ s1 zq=>?_);obtain⟨σ1,H1,I1,q1⟩:=zq;exact h2 pins s1 σ1 H1 _ _ Q I1 rr q1
def pf (K:Lf)(n:Nat)(t:rR):TG:=λv σ H Q=>∃ a xs,v=.ref a/\f7 K H a xs/\xs.length=n/\t xs σ H Q
theorem Nd (hc:X.calm=true)(h:tK X es t) (hn:(assignEach es X.env).length=n:=by rfl) (hst:(assignEach es X.env).findIdx? (·.1)=none:=by rfl):PG X (.Tuple es k pos) (pf X.K n t):=by intro pins s σ H v u Q I r hw;obtain⟨a,xs,e1,hq,hl,hw⟩:=hw;subst e1;cases r;obtain⟨fX,rv,ht,hz⟩:=I.tuple hq;refine assign_Tuple_tuple (I.ok.hd hc) ht (by simp [hn,← hl,rv.length]) hst λh' hx=>?_;have I1:Inv X pins σ H { s with heap:=h' }:=I.kept (t':=s.toks) λb o e=>hx b o (Uc (ug e)) e;exact h pins _ σ H xs _ Q I1 (by simpa using rv) hw
def rE (to ti:TE)(t:rQ):TG:=λv σ H Q=>to σ H λo H1=>ti σ H1 λi H2=>t o i v H2 λH3=>Q σ H3
theorem Nc {o i:Expr}{to ti:TE}{t:rQ}(ho:PE X o to)(hi:PE X i ti)(hs:rW X t)
  (ha:∀ v,assign (.Subscript o i pos) X.env v=(do
   let ov ← holding [v] (eval o X.env)
   let iv ← holding [v,ov] (eval i X.env)
   standAt pos
   holding [v,ov,iv] (setItem ov iv v)
   release [v,ov,iv] []):=by intro _;rfl):PG X (.Subscript o i pos) (rE to ti t):=by
 intro pins s σ H v u Q I r h
 rw [ha]
 refine ua (u0 (ik (ho pins s σ H _ I h) λov s1 zq=>?_))
 obtain⟨x,H1,I1,r1,q1⟩:=zq
 refine ua (u0 (ik (hi pins s1 σ H1 _ I1 q1) λiv s2 zq=>?_))
 obtain⟨y,H2,I2,r2,q2⟩:=zq
 refine ua (u5 (ua (u0 (ik (hs pins s2 σ H2 x y v ov iv u _ I2 r1 r2 r q2) λ_ s3 zq=>?_))))
 obtain⟨H3,I3,q3⟩:=zq
 exact wpAny_release ⟨σ,H3,I3,q3⟩
def mW (te:TE)(g:TG):TS:=λD σ H=>te σ H λx H1=>g x σ H1 D.nx
theorem Nb {tg e:Expr}{te:TE}{g:TG}(he:PE X e te)(hg:PG X tg g)(hs:swapsWithSole [tg] e pos.line X.env=pure false:=by rfl) (hw:swappedStores [tg] e X.env=pure none:=by rfl) (h1:(assignEach [tg] X.env).map (·.2)=[assign tg X.env]:=by rfl):PS X (.Assign [tg] e pos) (mW te g):=by intro pins s σ H D I h;refine wpAny_Assign_stores (ik (he pins s σ H _ I h) λv s1 zq=>?_) hs hw;obtain⟨x,H1,I1,r1,q1⟩:=zq;rw [h1];exact ik (hg pins s1 σ H1 x v _ I1 r1 q1) λ_ s2 q=>q
theorem Na {i:Nat}{x:Str}{e:Expr}{te:TE}{pos':Pos}(hN:X.N.Nodup)(hi:X.N[i]? = some x)(hx:Loc X.env.scope x)(he:PE X e te)(hs:swapsWith e (some (.Name x pos')) pos.line X.env=pure false:=by rfl) (hf:X.fn x=true\/X.env.scope.names.lookup x=some .local:=by first | exact .inl rfl | exact .inr rfl | assumption) : PS X (.Assign [.Name x pos'] e pos) (mW te (xD i)):=by intro pins s σ H D I h;refine wpAny_Assign_Name (ik (he pins s σ H _ I h) λv s1 zq=>?_) hs;obtain⟨y,H1,I1,r1,q1⟩:=zq;exact Xj I1 hN hi hx r1 (λs2 I2=>⟨_,H1,I2,q1⟩) hf
def BF (i:Nat)(te:TE)(ti:FK):TS:=λD σ H=>∃ x,σ[i]? = some (some x)/\te σ H λy H1=>ti x y H1 λz H2=>D.nx (σ.set i (some z)) H2
def ipI (f:Int->Int->Int):FK:=λx y H Q=>∃ i j,x=.int i/\y=.int j/\Q (.int (f i j)) H
end
section
variable {X:Cx} {pos:Pos}
def Bv (c:TT)(tb:TS):TS:=λD σ H=>∃ W:Nat->St->Hp->Prop,(∃ m,W m σ H)/\∀ m σ H,W m σ H ->
 c σ H λb H1=>if b=true then ∃ N:St->Hp->Prop,(∀ σ' H',N σ' H'->∃ m',m' < m/\W m' σ' H')/\tb { D with nx:=N,ct:=N,bk:=D.nx } σ H1 else D.nx σ H1
theorem RL {c:Expr}{body:List Stmt}{tc:TT}{tb:TS}(hp:PassesOwn (model X.prog X.w) X.A X.env X.xe)(hc:PT X c tc)(hb:lJ X body tb):PS X (.While c body [] pos) (Bv tc tb):=by
 intro pins s σ H D I h;obtain⟨W,⟨m0,w0⟩,turn⟩:=h;refine wpAny_While (codeAny_whileLoop (λn s'=>∃ σ' H',Inv X pins σ' H' s'/\W n σ' H') ?_ m0 ⟨σ,H,I,w0⟩);rintro n s1 ⟨σ1,H1,I1,w1⟩;refine Um hp (ik (hc pins s1 σ1 H1 _ I1 (turn n σ1 H1 w1)) λb s2 zq=>?_);obtain⟨H2,I2,q2⟩:=zq;cases b with
 | true=>
  obtain⟨N,hN,q2⟩:=q2;rw [ue rfl];refine Um hp (ik (hb pins s2 σ1 H2 _ I2 q2) λf s3 q3=>?_);cases f with
  | next=>obtain⟨σ3,H3,I3,n3⟩:=q3;obtain⟨m',hm,w3⟩:=hN σ3 H3 n3;exact⟨m',hm,σ3,H3,I3,w3⟩
  | cont=>obtain⟨σ3,H3,I3,n3⟩:=q3;obtain⟨m',hm,w3⟩:=hN σ3 H3 n3;exact⟨m',hm,σ3,H3,I3,w3⟩
  | brk=>exact q3
  | ret v=>exact q3
 | false=>rw [ub uD];exact UO ⟨σ1,H2,I2,q2⟩
end
structure It where
 go:Nat->Hp->Prop
 yld:Nat->Hp->V->Hp->Prop
 stop:Nat->Hp->Prop
def lK (X:Cx)(pins:Lp)(H:Hp)(b:Addr):Prop:= H b=none/\b≠X.env.locals/\b∉X.fs/\(b∈X.ex\/X.s₀.heap.objs.size<=b)/\(∀ x c,X.env.cells.lookup x=some c->c≠b)/\∀ p∈X.pn++pins,p.1≠b
theorem Inv.fpOk {pins:Lp}{s:Shared}(I:Inv X pins σ H s)(hb:s.heap.objs.size<=b)(hn:H' b=none):lK X pins H' b:=by
 refine⟨hn,GF (ur I.lt hb),I.nofs hb,.inr (uJ I.sz hb),λx c e z=>?_,λp hp z=>?_⟩
 ·obtain⟨v,q⟩:=I.cell x c e;exact absurd (ur q.lt (by rw [z];exact hb)) (uY _)
 ·exact absurd (ur (ug (I.pin p hp).1) (by rw [z];exact hb)) (uY _)
structure Turn (P:Program)(w:World)(K:Lf)(tg:Expr)(J:It)(fp:Le)(it:Addr)(tn:Nat->Heap->Prop):Prop where
 mem:it∈fp
 obj:∀ i h,tn i h->∀ b∈fp,∃ o,h.get? b=some o/\∀ v,o.data≠.cell v
 keep:∀ i h h',tn i h->(∀ b∈fp,∀ o,h.get? b=some o->h'.get? b=some o)->tn i h'
 item:∀ (X:Cx),X.prog=P->X.w=w->X.K=K->X.calm=true->∀ (i:Nat) (pins:Lp) (s:Shared) (σ:St) (H:Hp) (E:fL),Inv X pins σ H s->(∀ b∈fp,lK X pins H b)->tn i s.heap->J.go i H ->
  wpAny (model P w) X.A (pyNext (.ref it)) (λr s1=>∃ u,r=some u /\
   wpAny (model P w) X.A (letOwnedTupleGo tg (.ref it) u) (λ_ s2=>∃ x H',Inv X pins σ H' s2/\RelV x u/\J.yld i H x H'/\tn (i+1) s2.heap/\∀ b∈fp,H' b=none) E s1) E s
 done:∀ (X:Cx),X.prog=P->X.w=w->X.K=K->X.calm=true->∀ (i:Nat) (pins:Lp) (s:Shared) (σ:St) (H:Hp) (E:fL),Inv X pins σ H s->(∀ b∈fp,lK X pins H b)->tn i s.heap->J.stop i H ->
  wpAny (model P w) X.A (pyNext (.ref it)) (λr s1=>r=none/\Inv X pins σ H s1) E s
 self:∀ (A:Around) (i:Nat) (s:Shared) (Q:fL) (E:fL),tn i s.heap->Q (.ref it) s->wpAny (model P w) A (pyIter (.ref it)) Q E s
abbrev TI:=St->Hp->(It->Hp->Prop)->Prop
def tJ (X:Cx)(pins:Lp)(σ:St)(tg:Expr)(R:It->Hp->Prop)(itv:Value)(s2:Shared):Prop:= ∃ (it:Addr) (fp:Le) (tn:Nat->Heap->Prop) (J:It) (H':Hp),itv=.ref it/\Inv X pins σ H' s2/\Turn X.prog X.w X.K tg J fp it tn/\tn 0 s2.heap/\(∀ b∈fp,lK X pins H' b)/\R J H'
def PI (X:Cx)(tg iter:Expr)(wi:TI):Prop:= ∀ (pins:Lp) (s:Shared) (σ:St) (H:Hp) (R:It->Hp->Prop),Inv X pins σ H s->wi σ H R -> fN X (eval iter X.env) (λv s1=>fN X (pyIter v) (tJ X pins σ tg R) X.xe s1) X.xe s
theorem AM {s:Shared}{o:Obj}(ho:s.heap.get? it=some o)(hc:o.cls=.type n)(hd:o.data=.fields vs) (hn:["enumerate","zip","dict_itemiterator","dict_reverseitemiterator","odict_iterator","itertools.zip_longest","itertools.pairwise"].contains n=false) (hQ:Q () s):wpAny M A (letOwnedTupleGo tg (.ref it) u) Q E s:=by
  unfold letOwnedTupleGo
  cases tg<;>first
    | exact ud hQ
    | (cases u<;>first
        | exact ud hQ
        | (refine ua (wpAny_load ho ?_)
           rw [hc,hd]
           show wpAny M A (if (["enumerate","zip","dict_itemiterator","dict_reverseitemiterator","odict_iterator","itertools.zip_longest","itertools.pairwise"].contains n&&vs[0]? == some (rawInt _))=true then _ else _) Q E s
           rw [ub (by intro h;rw [hn,Ge] at h;cases h)]
           exact ud hQ))
def si (K:Lf)(a:Addr):It:= ⟨λi H=>∃ xs x,ij K H a xs/\xs[i]? = some x,λi H x H'=>H' = H/\∀ xs,ij K H a xs->xs[i]? = some x,λi H=>∃ xs,ij K H a xs/\xs.length<=i⟩
def Ag (lo:Int)(n:Nat):It:=⟨λi _=>i<n,λi H x H'=>H' = H/\x=.int (lo+i),λi _=>n<=i⟩
theorem Sk {P:Program}{w:World}{K:Lf}{tg:Expr}(a it:Addr):Turn P w K tg (si K a) [it] it (λi h=>h.IsListIter it a i) where
 mem:=by simp
 obj:=λi h st b hb=>by
  have e:b=it:=by simpa using hb
  subst e
  obtain⟨o,e,c,d⟩:=st
  exact⟨o,e,λv z=>by rw [d] at z;cases z⟩
 keep:=λi h h' st k=>st.at λo e=>k it (by simp) o e
 item:=by
  intro X hP hw hK hc i pins s σ H E I hf st hg
  subst hP hw hK
  obtain⟨xs,x,hq,hx⟩:=hg
  obtain⟨fX,rv,p,hz⟩:=I.list hq
  obtain⟨u,hu,ru⟩:=rv.get hx
  obtain⟨f0,f1,f2,f3,f4,f5⟩:=hf it (by simp)
  refine wpAny_pyNext_list_item st p.isList (x:=u) (by simpa using hu) λh' st' sb=>?_
  have I1:Inv X pins σ H { s with heap:=h' }:=I.turned (t':=s.toks) (λb o hb e=>(sb.2 b hb).trans e) f0 f1 f3 f4 f5
  obtain⟨o,e,c,d⟩:=id st'
  exact⟨u,rfl,AM (s:={ s with heap:=h' }) e c d (by decide) ⟨x,H,I1,ru,⟨rfl,λys hy=>by rw [I.list_inj hy hq];exact hx⟩,st',λb hb=>(hf b hb).1⟩⟩
 done:=by
  intro X hP hw hK hc i pins s σ H E I hf st hg
  subst hP hw hK
  obtain⟨xs,hq,hx⟩:=hg
  obtain⟨fX,rv,p,hz⟩:=I.list hq
  obtain⟨f0,f1,f2,f3,f4,f5⟩:=hf it (by simp)
  have hl:=rv.length
  exact wpAny_pyNext_list_end (I.ok.hd hc) st p.isList (by simp;lia) λh' eb=>⟨rfl,I.turned (t':=s.toks) (λb o hb e=>eb b o hb e) f0 f1 f3 f4 f5⟩
 self:=λ_ _ _ _ _ st h=>wpAny_pyIter_listiter st h
theorem za1 {P:Program}{w:World}{K:Lf}{tg:Expr}(it:Addr)(lo:Int)(n:Nat):Turn P w K tg (Ag lo n) [it] it (λi h=>IsRangeIter h it (lo+(i:Nat) * 1) ((n:Int) - (i:Nat)) 1) where
 mem:=by simp
 obj:=λi h st b hb=>by
  have e:b=it:=by simpa using hb
  subst e
  exact⟨_,st,λv z=>by
   have z':Data.fields _=Data.cell v:=z
   cases z'⟩
 keep:=λi h h' st k=>k it (by simp) _ st
 item:=by
  intro X hP hw hK hc i pins s σ H E I hf st hg
  subst hP hw hK
  obtain⟨f0,f1,f2,f3,f4,f5⟩:=hf it (by simp)
  have W:=Walks.range (prog:=X.prog) (w:=X.w) (I.ok.hd hc) it lo 1 n
  refine W.item i s _ _ hg st λv h' tk hv st' kk=>?_
  obtain⟨t,rfl⟩:=hv
  have I1:Inv X pins σ H { s with heap:=h',toks:=tk }:=I.turned (λb o hb e=>kk b o (by simpa using hb) e) f0 f1 f3 f4 f5
  refine⟨_,rfl,AM (s:={ s with heap:=h',toks:=tk }) (n:="range_iterator") st' rfl rfl (by decide) ⟨.int (lo+i),H,I1,⟨t,?_⟩,⟨rfl,rfl⟩,st',λb hb=>(hf b hb).1⟩⟩
  rw [Int.mul_one]
 done:=by
  intro X hP hw hK hc i pins s σ H E I hf st hg
  subst hP hw hK
  obtain⟨f0,f1,f2,f3,f4,f5⟩:=hf it (by simp)
  exact wpAny_pyNext_range_end (I.ok.hd hc) st (by have:n<=i:=hg;lia) λh' eb=>⟨rfl,I.turned (t':=s.toks) (λb o hb e=>eb b o hb e) f0 f1 f3 f4 f5⟩
 self:=λ_ _ _ _ _ st h=>wpAny_pyIter_rangeiter st h
section
variable {X:Cx} {tg:Expr}
def Kw (K:Lf)(tl:TE):TI:=λσ H R=>tl σ H λx H1=>∃ a,x=.ref a/\(∃ xs,ij K H1 a xs)/\R (si K a) H1
theorem Pg {l:Expr}{tl:TE}(hl:PE X l tl):PI X tg l (Kw X.K tl):=by
 intro pins s σ H R I h;refine ik (hl pins s σ H _ I h) λv s1 zq=>?_;obtain⟨x,H1,I1,r1,q1⟩:=zq;obtain⟨a,e,⟨xs,hq⟩,q⟩:=q1;subst e;cases r1;obtain⟨fX,rv,p,hz⟩:=I1.list hq;refine wpAny_pyIter_list p.isList ?_;refine⟨s1.heap.objs.size,[s1.heap.objs.size],_,_,H1,rfl,I1.kept (t':=s1.toks) λb o e=>uf _ e,Sk a _,⟨_,uB _ rfl,rfl,rfl⟩,λb hb=>?_,q⟩;have e:b=s1.heap.objs.size:=by simpa using hb
 subst e;exact I1.fpOk (ui _) (I1.hok.fresh (ui _))
theorem RK {pins:Lp}{σ:St}{H:Hp}{s:Shared}{R:It->Hp->Prop}{E:fL}{lo hi:Int}{t u v:Tok}{tk:Nat}(I:Inv X pins σ H s)(h1:-(2 ^ 62)<=lo)(h2:lo<2 ^ 62)(h3:-(2 ^ 62)<=hi)(h4:hi<2 ^ 62) (q:R (Ag lo (hi - lo).toNat) H):fN X (pyIter (.ref s.heap.objs.size)) (tJ X pins σ tg R) E { s with heap:=s.heap.push { cls:=.type "range",data:=.fields #[.int lo t,.int hi u,.int 1 v] },toks:=tk }:=by
 refine wpAny_pyIter_range (IsRange.new ..) (small_one h1 h2 h3 h4) ?_;have I1:Inv X pins σ H { s with heap:=s.heap.push { cls:=.type "range",data:=.fields #[.int lo t,.int hi u,.int 1 v] },toks:=tk }:=I.kept λb o e=>uf _ e
 refine⟨(s.heap.push { cls:=.type "range",data:=.fields #[.int lo t,.int hi u,.int 1 v] }).objs.size,[(s.heap.push { cls:=.type "range",data:=.fields #[.int lo t,.int hi u,.int 1 v] }).objs.size],_,_,H,rfl,
  I1.kept (t':=tk) λb o e=>uf _ e,za1 _ lo (hi - lo).toNat,?_,λb hb=>?_,q⟩
 ·have e1:lo+((0:Nat):Int) * 1=lo:=by simp
  have e2:(((hi - lo).toNat:Nat):Int) - ((0:Nat):Int)=Builtin.Range.rangeSize lo hi 1:=by rw [rangeSize_one];split<;>lia
  show IsRangeIter _ _ (lo+((0:Nat):Int) * 1) ((((hi - lo).toNat:Nat):Int) - ((0:Nat):Int)) 1;rw [e1,e2];exact uB _ rfl
 ·have e:b=(s.heap.push { cls:=.type "range",data:=.fields #[.int lo t,.int hi u,.int 1 v] }).objs.size:=by simpa using hb
  subst e;exact I1.fpOk (ui _) (I1.hok.fresh (ui _))
def AQ (ta:TA):TI:=λσ H R=>ta σ H λvs H1=>∃ j:Int,vs=[.int j]/\-(2 ^ 62)<=j/\j<2 ^ 62/\R (Ag 0 j.toNat) H1
theorem Sj {a:Expr}{ta:TA}{p pos:Pos}(hg:Gl X "range")(hm:X.mg "range" = none)(ha:PA X [a] ta)(hs:starEach [a] X.env=[(false,eval a X.env)]:=by rfl):PI X tg (.Call (.Name "range" p) [a] [] pos) (AQ ta):=by
 intro pins s σ H R I h;refine Call_ (Xk I hg hm boot_range (PyProof.Rows.callWith_type1 (ik (ha pos pins s σ H _ I h) λus s1 zq=>?_) hs rfl));obtain⟨vs,H1,I1,r1,q1⟩:=zq;obtain⟨j,e,q1,q2,q⟩:=q1;subst e;cases r1 with
 | cons r rr=>cases rr;obtain⟨t,rfl⟩:=r;exact call_range_1 (RK I1 (by omega) (by omega) q1 q2 (by simpa using q))
def p7 (wi:TI)(g:TG)(tb:TS):TS:=λD σ H=>wi σ H λJ H1=>∃ W:Nat->Nat->St->Hp->Prop,(∃ m,W 0 m σ H1)/\∀ i m σ H,W i m σ H ->
 (J.stop i H/\D.nx σ H)\/(J.go i H/\∃ N:St->Hp->Prop,(∀ σ' H',N σ' H'->∃ m',m' < m/\W (i+1) m' σ' H')/\∀ x H',J.yld i H x H'->g x σ H' λσ2 H2=>tb { D with nx:=N,ct:=N,bk:=D.nx } σ2 H2)
def JN (fp:Le)(h:Heap):Lp:=fp.filterMap λb=>(h.get? b).map λo=>(b,o)
theorem kD {h:Heap}(hb:b∈fp)(e:h.get? b=some o):(b,o)∈JN fp h:=List.mem_filterMap.mpr ⟨b,hb,by rw [e];rfl⟩
theorem Si {h:Heap}(hp:p∈JN fp h):p.1∈fp/\h.get? p.1=some p.2:=by
 obtain⟨b,hb,e⟩:=List.mem_filterMap.mp hp;cases q:h.get? b with
 | none=>rw [q] at e;cases e
 | some o=>rw [q] at e;have e':(b,o)=p:=uG e;subst e';exact⟨hb,q⟩
theorem Inv.pinned {pins:Lp}{s:Shared}(I:Inv X pins σ H s)(hf:∀ b∈fp,lK X pins H b)(ho:∀ b∈fp,∃ o,s.heap.get? b=some o/\∀ v,o.data≠.cell v):Inv X (pins++JN fp s.heap) σ H s:=
 I.pins_of λp hp=>(u9.mp hp).elim (λz=>I.pin p (uR _ z)) λz=>by
  obtain⟨hb,e⟩:=Si z
  obtain⟨f0,f1,f2,_⟩:=hf p.1 hb
  obtain⟨o,e',d⟩:=ho p.1 hb
  rw [e] at e';cases e'
  exact⟨e,f0,f1,f2,d⟩
theorem Inv.unpinned {pins pl:Lp}(I:Inv X (pins++pl) σ H s):Inv X pins σ H s:=I.pins_of λp hp=>I.pin p (uR _ (uX _ hp))
theorem M9 {iter:Expr}{body:List Stmt}{wi:TI}{g:TG}{tb:TS}{pos:Pos}(hp:PassesOwn (model X.prog X.w) X.A X.env X.xe)(hc:X.calm=true)(hi:PI X tg iter wi)(hg:PG X tg g)(hb:lJ X body tb) (hs:∀ x,foldedSetIterable iter X.env x=pure x:=by intro _;rfl):PS X (.For tg iter body [] pos) (p7 wi g tb):=by
 intro pins s σ H D I h;refine wpAny_For (ik (hi pins s σ H _ I h) λv s1 h1=>ik h1 λitv s2 h2=>?_) hs;obtain⟨it,fp,tn,J,H2,e,I2,T,st2,f2,W,⟨m0,w0⟩,turn⟩:=h2;subst e;have stat:∀ {H':Hp},(∀ b∈fp,H' b=none)->∀ b∈fp,lK X pins H' b:=λhn b hb=>⟨hn b hb,(f2 b hb).2⟩
 refine codeAny_forLoop_any (λn s'=>∃ i σ' H',Inv X pins σ' H' s'/\tn i s'.heap/\(∀ b∈fp,H' b=none)/\W i n σ' H') ?_ m0 ⟨0,σ,H2,I2,st2,λb hb=>(f2 b hb).1,w0⟩;rintro n s3 ⟨i,σ3,H3,I3,st3,fr3,w3⟩;rcases turn i n σ3 H3 w3 with⟨stop,qn⟩ | ⟨go,N,hN,step⟩
 ·refine Um hp (ik (T.done X rfl rfl rfl hc i pins s3 σ3 H3 X.xe I3 (stat fr3) st3 stop) λr s4 zq=>?_);obtain⟨hr,I4⟩:=zq;subst hr;exact UO ⟨σ3,H3,I4,qn⟩
 ·refine Um hp (ik (T.item X rfl rfl rfl hc i pins s3 σ3 H3 X.xe I3 (stat fr3) st3 go) λr s4 zq=>?_);obtain⟨u,hr,h4⟩:=zq;subst hr;refine Um hp (ik h4 λ_ s5 zq=>?_);obtain⟨x,H5,I5,r5,y5,st5,fr5⟩:=zq;have I5':=I5.pinned (stat fr5) (T.obj _ _ st5);refine Um hp (ik (hg _ s5 σ3 H5 x u _ I5' r5 (step x H5 y5)) λ_ s6 zq=>?_);obtain⟨σ6,H6,I6,q6⟩:=zq;refine Um hp (ik (hb _ s6 σ6 H6 _ I6 q6) λf s7 q7=>?_);have again:∀ {σ7:St} {H7:Hp},Inv X (pins++JN fp s5.heap) σ7 H7 s7->N σ7 H7->∃ m,m<n/\∃ i σ' H',Inv X pins σ' H' s7/\tn i s7.heap/\(∀ b∈fp,H' b=none)/\W i m σ' H':=λ{σ7 H7} I7 n7=>by obtain⟨m',hm,w7⟩:=hN σ7 H7 n7;refine⟨m',hm,i+1,σ7,H7,I7.unpinned,T.keep _ _ _ st5 λb hb o e=>(I7.pin (b,o) (uR _ (uR _ (kD hb e)))).1,λb hb=>?_,w7⟩;obtain⟨o,e,d⟩:=T.obj _ _ st5 b hb;exact(I7.pin (b,o) (uR _ (uR _ (kD hb e)))).2.1
  cases f with
  | next=>obtain⟨σ7,H7,I7,n7⟩:=q7;exact again I7 n7
  | cont=>obtain⟨σ7,H7,I7,n7⟩:=q7;exact again I7 n7
  | brk=>obtain⟨σ7,H7,I7,q7⟩:=q7;exact⟨σ7,H7,I7.unpinned,q7⟩
  | ret v=>obtain⟨x7,σ7,H7,I7,r7,q7⟩:=q7;exact⟨x7,σ7,H7,I7.unpinned,r7,q7⟩
end
theorem RJ {K:Lf}{a:Addr}{xs:List V}{g:TG}{tb:TS}{D:Ends}{σ:St}{H:Hp}(Pv:Nat->St->Hp->Prop)(h0:Pv 0 σ H)(hl:∀ i σ H,i<=xs.length->Pv i σ H->ij K H a xs) (hs:∀ i x σ H,xs[i]? = some x->Pv i σ H->g x σ H λσ2 H2=>tb { D with nx:=Pv (i+1),ct:=Pv (i+1),bk:=D.nx } σ2 H2) (hd:∀ σ H,Pv xs.length σ H->D.nx σ H) : ∃ W:Nat->Nat->St->Hp->Prop,(∃ m,W 0 m σ H)/\∀ i m σ H,W i m σ H -> ((si K a).stop i H/\D.nx σ H)\/((si K a).go i H/\∃ N:St->Hp->Prop,(∀ σ' H',N σ' H'->∃ m',m' < m/\W (i+1) m' σ' H')/\∀ x H',(si K a).yld i H x H'->g x σ H' λσ2 H2=>tb { D with nx:=N,ct:=N,bk:=D.nx } σ2 H2):=by
 refine⟨λi m σ H=>m=xs.length - i/\i<=xs.length/\Pv i σ H,⟨xs.length,by simp,uZ _,h0⟩,?_⟩;rintro i m σ H ⟨rfl,hi,p⟩;have q:=hl i σ H hi p;by_cases hlt:i<xs.length
 ·refine .inr ⟨⟨xs,xs[i],q,by simp [hlt]⟩,Pv (i+1),λσ' H' p'=>⟨xs.length - (i+1),by lia,rfl,hlt,p'⟩,λx H' y=>?_⟩;obtain⟨e,y⟩:=y;subst e;exact hs i x σ _ (y xs q) p
 ·have e:i=xs.length:=by lia
  subst e;exact .inl ⟨⟨xs,q,ui _⟩,hd σ H p⟩
abbrev R2:=V->V->Hp->VK->Prop
def iM (X:Cx)(f:Value->Value->Sem Value)(r:R2):Prop:= ∀ (pins:Lp) (s:Shared) (σ:St) (H:Hp) (x y:V) (v u:Value) (Q:VK),Inv X pins σ H s->RelV x v->RelV y u->r x y H Q -> fN X (f v u) (EP X pins σ Q) X.xe s
def Aa (X:Cx)(f:Value->Sem Value)(r:V->Hp->VK->Prop):Prop:= ∀ (pins:Lp) (s:Shared) (σ:St) (H:Hp) (x:V) (v:Value) (Q:VK),Inv X pins σ H s->RelV x v->r x H Q -> fN X (f v) (EP X pins σ Q) X.xe s
def jB (X:Cx)(f:Value)(r:List V->Hp->VK->Prop):Prop:= ∀ (pins:Lp) (s:Shared) (σ:St) (H:Hp) (xs:List V) (us:Lg) (Q:VK),Inv X pins σ H s->Vals xs us->r xs H Q -> fN X (call f us) (EP X pins σ Q) X.xe s
def CV (X:Cx)(r:V->Hp->(Bool->Hp->Prop)->Prop):Prop:= ∀ (pins:Lp) (s:Shared) (σ:St) (H:Hp) (x:V) (v:Value) (Q:Bool->Hp->Prop),Inv X pins σ H s->RelV x v->r x H Q -> fN X (truthy v) (TP X pins σ Q) X.xe s
def nv (r:R2)(ta tb:TE):TE:=λσ H Q=>ta σ H λx H1=>tb σ H1 λy H2=>r x y H2 Q
def By (r:V->Hp->VK->Prop)(ta:TE):TE:=λσ H Q=>ta σ H λx H1=>r x H1 Q
def rI (C:Int->Int->Prop)(g:Int->Int->V):R2:=λx y H Q=>∃ i j,x=.int i/\y=.int j/\C i j/\Q (g i j) H
def rh (g:Int->Int->V):R2:=λx y H Q=>∃ i j,x=.int i/\y=.int j/\Q (g i j) H
def rU (g:Int->V):V->Hp->VK->Prop:=λx H Q=>∃ i,x=.int i/\Q (g i) H
section
variable {X:Cx} {a b c:Expr} {ta tb tc:TE} {pos:Pos}
theorem rK (ha:PE X a ta)(hb:PE X b tb){pins:Lp}{s:Shared}{σ:St}{H:Hp}{R:V->V->Hp->Prop}(I:Inv X pins σ H s) (h:ta σ H λx H1=>tb σ H1 λy H2=>R x y H2) {Q:fL} {f:Value->Value->Sem Value} (hf:∀ v u s2 x y H2,Inv X pins σ H2 s2->RelV x v->RelV y u->R x y H2->fN X (f v u) Q X.xe s2) : fN X (eval a X.env) (λv s₁=>fN X (eval b X.env) (λu s₂=>fN X (f v u) Q X.xe s₂) X.xe s₁) X.xe s:=by refine ik (ha pins s σ H _ I h) λv s1 zq=>?_;obtain⟨x,H1,I1,r1,q1⟩:=zq;refine ik (hb pins s1 σ H1 _ I1 q1) λu s2 zq=>?_;obtain⟨y,H2,I2,r2,q2⟩:=zq;exact hf v u s2 x y H2 I2 r1 r2 q2
theorem Hk (ho:iM X (binaryOp op) r)(ha:PE X a ta)(hb:PE X b tb):PE X (.BinOp a op b pos) (nv r ta tb):=by intro pins s σ H Q I h;exact wpAny_BinOp (rK ha hb I h λv u s2 x y H2 I2 rx ry q=>ho pins s2 σ H2 x y v u Q I2 rx ry q)
theorem C9 {op:UnaryOp}{r:V->Hp->VK->Prop}(ho:Aa X (unaryOp op) r)(ha:PE X a ta):PE X (.UnaryOp op a pos) (By r ta):=by intro pins s σ H Q I h;exact UnaryOp_ (ik (ha pins s σ H _ I h) λv s1 ⟨x,H1,I1,r1,q1⟩=>ho pins s1 σ H1 x v Q I1 r1 q1)
theorem sV {f:Value->Value->Sem Value}{C:Int->Int->Prop}{g:Int->Int->Int} (rule:∀ (i j:Int) (t u:Tok) (s:Shared) (Q:fL) (E:fL),C i j->Q (.int (g i j) s.toks) { s with toks:=s.toks+1 }->fN X (f (.int i t) (.int j u)) Q E s) : iM X f (rI C λi j=>.int (g i j)):=by intro pins s σ H x y v u Q I rx ry h;obtain⟨i,j,rfl,rfl,hc,q⟩:=h;obtain⟨t,rfl⟩:=rx;obtain⟨t',rfl⟩:=ry;exact rule i j t t' s _ _ hc ⟨.int (g i j),H,I.tok _,⟨_,rfl⟩,q⟩
theorem sU {f:Value->Value->Sem Value}{g:Int->Int->Int} (rule:∀ (i j:Int) (t u:Tok) (s:Shared) (Q:fL) (E:fL),Q (.int (g i j) s.toks) { s with toks:=s.toks+1 }->fN X (f (.int i t) (.int j u)) Q E s) : iM X f (rh λi j=>.int (g i j)):=by intro pins s σ H x y v u Q I rx ry h;obtain⟨i,j,rfl,rfl,q⟩:=h;obtain⟨t,rfl⟩:=rx;obtain⟨t',rfl⟩:=ry;exact rule i j t t' s _ _ ⟨.int (g i j),H,I.tok _,⟨_,rfl⟩,q⟩
theorem sW {f:Value->Value->Sem Value}{g:Int->Int->Bool} (rule:∀ (i j:Int) (t u:Tok) (s:Shared) (Q:fL) (E:fL),Q (.bool (g i j)) s->fN X (f (.int i t) (.int j u)) Q E s) : iM X f (rh λi j=>.bl (g i j)):=by intro pins s σ H x y v u Q I rx ry h;obtain⟨i,j,rfl,rfl,q⟩:=h;obtain⟨t,rfl⟩:=rx;obtain⟨t',rfl⟩:=ry;exact rule i j t t' s _ _ ⟨.bl (g i j),H,I,rfl,q⟩
def C5 (i j:Int):Prop:=0<j/\j<1073741824
def tP (i j:Int):Prop:=0<=j/\j<=1000000/\i.natAbs<2 ^ 64
def pF (i j:Int):Prop:=(-(2 ^ 64)<i/\i<2 ^ 64)\/(-(2 ^ 64)<j/\j<2 ^ 64)
theorem pF.ok (h:pF i j):IntMulOk i j:=by
 rcases h with⟨h1,h2⟩ | ⟨h1,h2⟩
 ·exact .of_left (intBits_le_64 h1 h2)
 ·exact .of_right (intBits_le_64 h1 h2)
theorem za2 (k:Nat):(0:Int)<=2 ^ k:=by rw [two_pow_cast];exact Int.natCast_nonneg _
theorem qO:iM X (binaryOp .Add) (rh λi j=>.int (i+j)):=sU λ_ _ _ _ _ _ _ q=>add_int q
theorem Xl:iM X (binaryOp .Sub) (rh λi j=>.int (i - j)):=sU λ_ _ _ _ _ _ _ q=>sub_int q
theorem Pf:iM X (binaryOp .FloorDiv) (rI C5 λi j=>.int (i / j)):=sV λi j _ _ _ _ _ hc q=>by have h1:(0:Int)<j:=hc.1;have h2:j<1073741824:=hc.2;exact floordiv_int (by lia) (by rw [GW i (by lia)];exact q) (.inl (PyProof.noPylong_small (by lia)))
theorem xI:iM X (binaryOp .Mod) (rI (λ_ j=>0<j) λi j=>.int (i % j)):=sV λi j _ _ _ _ _ hc q=>by have h1:(0:Int)<j:=hc;exact mod_int' (by lia) (by rw [Int.fmod_eq_emod_of_nonneg i (by lia)];exact q)
theorem Xm:iM X (binaryOp .Pow) (rI tP λi j=>.int (i ^ j.toNat)):=sV λ_ _ _ _ _ _ _ hc q=>pow_int_small hc.1 hc.2.1 hc.2.2 q
theorem DU:iM X (binaryOp .RShift) (rI (λ_ j=>0<=j) λi j=>.int (i / 2 ^ j.toNat)):=sV λi j _ _ _ _ _ hc q=>
 rshift_int hc (by rw [GW i (za2 _)];exact q)
theorem unI {f:Value->Sem Value}{g:Int->Int} (rule:∀ (i:Int) (t:Tok) (s:Shared) (Q:fL) (E:fL),Q (.int (g i) s.toks) { s with toks:=s.toks+1 }->fN X (f (.int i t)) Q E s) : Aa X f (rU λi=>.int (g i)):=by intro pins s σ H x v Q I rx h;obtain⟨i,rfl,q⟩:=h;obtain⟨t,rfl⟩:=rx;exact rule i t s _ _ ⟨.int (g i),H,I.tok _,⟨_,rfl⟩,q⟩
theorem Qu:Aa X (unaryOp .USub) (rU λi=>.int (-i)):=unI λ_ _ _ _ _ q=>neg_int q
end
def lS:V->V->Bool
 | .non,.non=>true | .non,.int _=>true | .int _,.non=>true | .non,.bl _=>true | .bl _,.non=>true | .non,.str _=>true | .str _,.non=>true
 | .int _,.int _=>true | .bl _,.bl _=>true | .str _,.str _=>true | .byt _,.byt _=>true
 | .int _,.str _=>true | .str _,.int _=>true | .bl _,.str _=>true | .str _,.bl _=>true
 | _,_=>false
def Fq:R2:=λx y H Q=>lS x y=true/\Q (.bl (decide (x=y))) H
def Fp:R2:=λx y H Q=>lS x y=true/\Q (.bl (!decide (x=y))) H
theorem Ey:decide (V.int i=V.int j)=(i == j):=by rw [UL];simp
theorem DT:decide (V.bl i=V.bl j)=(i == j):=by rw [UL];simp
theorem Ew:decide (V.str i=V.str j)=(i == j):=by rw [UL];simp
theorem Eu {i j:Array UInt8}:decide (V.byt i=V.byt j)=(i.toList == j.toList):=by rw [UL];cases i;cases j;simp
section
variable {X:Cx} {a b c:Expr} {ta tb tc:TE} {pos:Pos}
theorem zL {pins:Lp}(I:Inv X pins σ H s)(q:Q (.bl k) H)(e:k=k'):EP X pins σ Q (.bool k') s:=by subst e;exact⟨.bl k,H,I,rfl,q⟩
theorem zu:iM X (compareOp .Eq) Fq:=by
 intro pins s σ H x y v u Q I rx ry h;obtain⟨hs,q⟩:=h;cases x with
 | non=>
  cases rx;cases y with
  | non=>cases ry;exact PySem.EqNone.eq_none_none (zL I q (by simp))
  | bl j=>cases ry;exact PySem.EqNone.eq_none_bool (zL I q (by simp))
  | int j=>obtain⟨t',rfl⟩:=ry;exact PySem.EqNone.eq_none_int (zL I q (by simp))
  | str j=>obtain⟨t',rfl⟩:=ry;exact PySem.EqNone.eq_none_str (zL I q (by simp))
  | _=>exact absurd (show false=true from hs) uD
 | bl i=>
  cases rx;cases y with
  | non=>cases ry;exact PySem.EqNone.eq_bool_none (zL I q (by simp))
  | bl j=>cases ry;exact eq_bool (zL I q DT)
  | str j=>obtain⟨t',rfl⟩:=ry;exact PySem.EqMixed.eq_bool_str (zL I q (by simp))
  | _=>exact absurd (show false=true from hs) uD
 | int i=>
  obtain⟨t,rfl⟩:=rx;cases y with
  | non=>cases ry;exact PySem.EqNone.eq_int_none (zL I q (by simp))
  | int j=>obtain⟨t',rfl⟩:=ry;exact eq_int (zL I q Ey)
  | str j=>obtain⟨t',rfl⟩:=ry;exact PySem.EqMixed.eq_int_str (zL I q (by simp))
  | _=>exact absurd (show false=true from hs) uD
 | str i=>
  obtain⟨t,rfl⟩:=rx;cases y with
  | non=>cases ry;exact PySem.EqNone.eq_str_none (zL I q (by simp))
  | bl j=>cases ry;exact PySem.EqMixed.eq_str_bool (zL I q (by simp))
  | int j=>obtain⟨t',rfl⟩:=ry;exact PySem.EqMixed.eq_str_int (zL I q (by simp))
  | str j=>obtain⟨t',rfl⟩:=ry;exact eq_str (zL I q Ew)
  | _=>exact absurd (show false=true from hs) uD
 | byt i=>
  obtain⟨t,rfl⟩:=rx;cases y with
  | byt j=>obtain⟨t',rfl⟩:=ry;exact PySem.W.eq_bytes (zL I q Eu)
  | _=>exact absurd (show false=true from hs) uD
 | _=>cases y<;>exact absurd (show false=true from hs) uD
theorem tR:iM X (compareOp .NotEq) Fp:=by
 intro pins s σ H x y v u Q I rx ry h;obtain⟨hs,q⟩:=h;cases x with
 | non=>
  cases rx;cases y with
  | non=>cases ry;exact PySem.EqNone.ne_none_none (zL I q (by simp))
  | bl j=>cases ry;exact PySem.EqNone.ne_none_bool (zL I q (by simp))
  | int j=>obtain⟨t',rfl⟩:=ry;exact PySem.EqNone.ne_none_int (zL I q (by simp))
  | str j=>obtain⟨t',rfl⟩:=ry;exact PySem.EqNone.ne_none_str (zL I q (by simp))
  | _=>exact absurd (show false=true from hs) uD
 | bl i=>
  cases rx;cases y with
  | non=>cases ry;exact PySem.EqNone.ne_bool_none (zL I q (by simp))
  | bl j=>cases ry;exact ne_bool (zL I q (congrArg not DT))
  | str j=>obtain⟨t',rfl⟩:=ry;exact PySem.EqMixed.ne_bool_str (zL I q (by simp))
  | _=>exact absurd (show false=true from hs) uD
 | int i=>
  obtain⟨t,rfl⟩:=rx;cases y with
  | non=>cases ry;exact PySem.EqNone.ne_int_none (zL I q (by simp))
  | int j=>obtain⟨t',rfl⟩:=ry;exact ne_int (zL I q (congrArg not Ey))
  | str j=>obtain⟨t',rfl⟩:=ry;exact PySem.EqMixed.ne_int_str (zL I q (by simp))
  | _=>exact absurd (show false=true from hs) uD
 | str i=>
  obtain⟨t,rfl⟩:=rx;cases y with
  | non=>cases ry;exact PySem.EqNone.ne_str_none (zL I q (by simp))
  | bl j=>cases ry;exact PySem.EqMixed.ne_str_bool (zL I q (by simp))
  | int j=>obtain⟨t',rfl⟩:=ry;exact PySem.EqMixed.ne_str_int (zL I q (by simp))
  | str j=>obtain⟨t',rfl⟩:=ry;exact ne_str (zL I q (congrArg not Ew))
  | _=>exact absurd (show false=true from hs) uD
 | byt i=>
  obtain⟨t,rfl⟩:=rx;cases y with
  | byt j=>obtain⟨t',rfl⟩:=ry;exact PySem.W.ne_bytes (zL I q (congrArg not Eu))
  | _=>exact absurd (show false=true from hs) uD
 | _=>cases y<;>exact absurd (show false=true from hs) uD
theorem tZ:iM X (compareOp .Lt) (rh λi j=>.bl (decide (i<j))):=sW λ_ _ _ _ _ _ _ q=>lt_int q
theorem Xn:iM X (compareOp .Gt) (rh λi j=>.bl (decide (j<i))):=sW λ_ _ _ _ _ _ _ q=>gt_int q
theorem VE:iM X (compareOp .In) (λx y H Q=>∃ i j,x=.str i/\y=.str j/\Q (.bl (!(Builtin.Str.occurrences j i 0 j.length 1).isEmpty)) H):=by intro pins s σ H x y v u Q I rx ry h;obtain⟨i,j,rfl,rfl,q⟩:=h;obtain⟨t,rfl⟩:=rx;obtain⟨t',rfl⟩:=ry;exact in_str (zL I q rfl)
theorem Qv:iM X (compareOp .Is) (λx y H Q=>y=.non/\Q (.bl (decide (x=.non))) H):=by
 intro pins s σ H x y v u Q I rx ry h;obtain⟨rfl,q⟩:=h;cases ry;refine is_none_gen (zL I q ?_)
 cases x<;>first
  | (cases rx;rfl)
  | (obtain⟨t,rfl⟩:=rx;rfl)
theorem V7:iM X (compareOp .IsNot) (λx y H Q=>y=.non/\Q (.bl (!decide (x=.non))) H):=by
 intro pins s σ H x y v u Q I rx ry h;obtain⟨rfl,q⟩:=h;cases ry;refine isnot_none_gen (zL I q ?_)
 cases x<;>first
  | (cases rx;rfl)
  | (obtain⟨t,rfl⟩:=rx;rfl)
theorem V8:iM X (compareOp .NotIn) (λx y H Q=>∃ i j,x=.str i/\y=.str j/\Q (.bl (!(!(Builtin.Str.occurrences j i 0 j.length 1).isEmpty))) H):=by intro pins s σ H x y v u Q I rx ry h;obtain⟨i,j,rfl,rfl,q⟩:=h;obtain⟨t,rfl⟩:=rx;obtain⟨t',rfl⟩:=ry;exact notIn_str (zL I q rfl)
theorem iM.or (h:iM X f r)(h':iM X f r'):iM X f (λx y H Q=>r x y H Q\/r' x y H Q):=by
 intro pins s σ H x y v u Q I rx ry q;rcases q with q | q
 ·exact h pins s σ H x y v u Q I rx ry q
 ·exact h' pins s σ H x y v u Q I rx ry q
theorem DS (b:Expr)(h:op≠.In:=by decide) (h2:op≠.NotIn:=by decide):behindInMarks op b=false:=by
 have e1:(op == CmpOp.In)=false:=by cases op<;>first | rfl | exact absurd rfl h
 have e2:(op == CmpOp.NotIn)=false:=by cases op<;>first | rfl | exact absurd rfl h2
 cases b<;>simp [behindInMarks,e1,e2]
theorem Pe (ho:iM X (compareOp op) r)(ha:PE X a ta)(hb:PE X b tb)(hm:behindInMarks op b=false):PE X (.Compare a [op] [b] pos) (nv r ta tb):=by intro pins s σ H Q I h;exact wpAny_Compare1 (rK ha hb I h λv u s2 x y H2 I2 rx ry q=>ho pins s2 σ H2 x y v u Q I2 rx ry q) hm
def Kx (t:TE):TT:=λσ H Q=>t σ H λx H'=>∃ k,x=.bl k/\Q k H'
theorem Pb {op:CmpOp}{r:R2}(ho:iM X (compareOp op) r)(ha:PE X a ta)(hb:PE X b tb)(hm:behindInMarks op b=false):PT X (.Compare a [op] [b] pos) (Kx (nv r ta tb)):=by
 intro pins s σ H Q I h
 refine wpAny_isTrue_Compare1 (ik (ha pins s σ H _ I h) λv s1 ⟨x,H1,I1,r1,q1⟩=>ik (hb pins s1 σ H1 _ I1 q1) λu s2 ⟨y,H2,I2,r2,q2⟩=>
  ik (ho pins s2 σ H2 x y v u _ I2 r1 r2 q2) λc s3 ⟨z,H3,I3,r3,k,e,q3⟩=>?_) hm
 subst e;cases r3;exact U2 ⟨H3,I3,q3⟩
def nI (K:Lf)(x:V)(H:Hp)(k:Bool):Prop:=
 match x with
 | .non=>k=false
 | .bl b=>k=b
 | .int i=>k=(i != 0)
 | .str y=>y.length<=sizeLine/\k=((y.length:Int) != 0)
 | .byt y=>y.size<=sizeLine/\k=((y.size:Int) != 0)
 | .ref p=>(∃ xs,ij K H p xs/\k = !xs.isEmpty)\/(∃ xs,f7 K H p xs/\k = !xs.isEmpty)\/∃ kvs,H p=some (.dK kvs)/\k = !kvs.isEmpty
 | _=>False
theorem za3 {κ:Type}{kvs:List (κ×V)}{vs:List (κ×Value)}(r:KV kvs vs):(!vs.isEmpty) = !kvs.isEmpty:=by cases r<;>rfl
theorem Xo {xs:List V}{fX:Lg}(r:Vals xs fX):(!fX.toArray.isEmpty) = !xs.isEmpty:=by cases r<;>simp
theorem Qw:(sizeLine:Nat)<2 ^ 63:=by rw [uQ];decide
theorem M8:CV X (λx H Q=>∃ k,nI X.K x H k/\Q k H):=by
 intro pins s σ H x v Q I rx h;obtain⟨k,e,q⟩:=h;have hl:=Qw;have hs:sizeLine=16777216:=uQ;cases x with
 | non=>cases rx;have e':k=false:=e;subst e';exact truthy_none ⟨H,I,q⟩
 | bl b=>cases rx;have e':k=b:=e;subst e';exact U2 ⟨H,I,q⟩
 | int i=>obtain⟨t,rfl⟩:=rx;have e':k=(i != 0):=e;subst e';exact PySem.P.truthy_int ⟨H,I,q⟩
 | str y=>obtain⟨t,rfl⟩:=rx;obtain⟨hy,e'⟩:y.length<=sizeLine/\k=((y.length:Int) != 0):=e;subst e';exact PySem.P.truthy_str (by omega) ⟨H,I.tok _,q⟩
 | byt y=>obtain⟨t,rfl⟩:=rx;obtain⟨hy,e'⟩:y.size<=sizeLine/\k=((y.size:Int) != 0):=e;subst e';exact PySem.W.truthy_bytes (by omega) ⟨H,I.tok _,q⟩
 | ref p=>
  cases rx;have e':(∃ xs,ij X.K H p xs/\k = !xs.isEmpty)\/(∃ xs,f7 X.K H p xs/\k = !xs.isEmpty)\/∃ kvs,H p=some (.dK kvs)/\k = !kvs.isEmpty:=e;rcases e' with⟨xs,hx,e'⟩ | ⟨xs,hx,e'⟩ | ⟨kvs,hx,e'⟩
  ·subst e';obtain⟨fX,r,pl,hz⟩:=I.list hx;have hlen:=r.length;exact wpAny_truthy_list pl.isList (by simp only [uh];lia) ⟨H,I.tok _,by rw [Xo r];exact q⟩
  ·subst e';obtain⟨fX,r,pl,hz⟩:=I.tuple hx;have hlen:=r.length;exact truthy_tuple pl (by simp only [uh];lia) ⟨H,I.tok _,by rw [Xo r];exact q⟩
  ·subst e';obtain⟨hz,hS,vs,r,m⟩:kvs.length<=sizeLine/\(p == sysModules)=false/\∃ vs,KV kvs vs/\s.heap.DictOf (qm X.prog X.w) p vs:=I.hok p _ hx;have hlen:kvs.length=vs.length:=Paired.length r;exact wpAny_truthy_dict hS m (by lia) ⟨H,I.tok _,by rw [za3 r];exact q⟩
 | _=>exact(show False from e).elim
theorem RI (ha:PE X a ta)(he:∀ whole,isTrue a X.env whole=(do let v ← whole;standAt a.pos;holding [v] (truthy v))) :
  PT X a (λσ H Q=>ta σ H λx H'=>∃ k,nI X.K x H' k/\Q k H'):=by
 intro pins s σ H Q I h
 exact G7 (ik (ha pins s σ H _ I h) λv s1 ⟨x,H1,I1,r1,q1⟩=>M8 pins s1 σ H1 x v Q I1 r1 q1) (he _)
theorem za4:iM X (binaryOp .Add) (λx y H Q=>∃ i j,x=.str i/\y=.str j/\i.length+j.length<=sizeLine/\Q (.str (i++j)) H):=by intro pins s σ H x y v u Q I rx ry h;obtain⟨i,j,rfl,rfl,hz,q⟩:=h;obtain⟨t,rfl⟩:=rx;obtain⟨t',rfl⟩:=ry;exact add_str (λt' tk=>⟨.str (i++j),H,I.tok _,⟨_,rfl⟩,q⟩) hz
theorem vals1 (r:Vals [x] us):∃ u,us=[u]/\RelV x u:=by
 cases r with
 | cons r1 r2=>cases r2;exact⟨_,rfl,r1⟩
theorem vals2 (r:Vals [x,y] us):∃ u w',us=[u,w']/\RelV x u/\RelV y w':=by
 cases r with
 | cons r1 r2=>
  cases r2 with
  | cons r3 r4=>cases r4;exact⟨_,_,rfl,r1,r3⟩
theorem Sh (hc:X.calm=true):jB X (.builtin "max") (λxs H Q=>∃ i j,xs=[.int i,.int j]/\Q (.int (if j > i then j else i)) H):=by
 intro pins s σ H xs us Q I r h;obtain⟨i,j,rfl,q⟩:=h;obtain⟨u,w',rfl,⟨t,rfl⟩,⟨t',rfl⟩⟩:=vals2 r;refine max_two_ints (I.ok.hd hc) λh' tk k=>⟨_,H,I.kept k,?_,q⟩
 by_cases hj:j > i
 ·rw [ue hj,ue hj];exact⟨_,rfl⟩
 ·rw [ub hj,ub hj];exact⟨_,rfl⟩
theorem Sg (hc:X.calm=true):jB X (.builtin "min") (λxs H Q=>∃ i j,xs=[.int i,.int j]/\Q (.int (if j<i then j else i)) H):=by
 intro pins s σ H xs us Q I r h;obtain⟨i,j,rfl,q⟩:=h;obtain⟨u,w',rfl,⟨t,rfl⟩,⟨t',rfl⟩⟩:=vals2 r;refine min_two_ints (I.ok.hd hc) λh' tk k=>⟨_,H,I.kept k,?_,q⟩
 by_cases hj:j<i
 ·rw [ue hj,ue hj];exact⟨_,rfl⟩
 ·rw [ub hj,ub hj];exact⟨_,rfl⟩
theorem Sf:jB X (.type "int") (λxs H Q=>(∃ i,xs=[.int i]/\Q (.int i) H)\/∃ k,xs=[.bl k]/\Q (.int (if k then 1 else 0)) H):=by
 intro pins s σ H xs us Q I r h;rcases h with⟨i,rfl,q⟩ | ⟨k,rfl,q⟩
 ·obtain⟨u,rfl,t,rfl⟩:=vals1 r;exact call_int_int ⟨.int i,H,I,⟨_,rfl⟩,q⟩
 ·obtain⟨u,rfl,r1⟩:=vals1 r;cases r1;exact call_int_bool ⟨.int (if k then 1 else 0),H,I.tok _,⟨_,rfl⟩,q⟩
end
structure nj (h:Heap)(x dx C:Addr)(mA:La):Prop where
 obj:h.get? x=some (PySem.W.instObj C dx)
 ns:h.Ns1 dx mA
 ne:dx≠x
theorem VF {h:Heap}(n:h.Ns1 dx mA):∃ od,h.get? dx=some od/\∀ name,PySem.W.lookIn name od=some (mA name):=by
 obtain⟨o,es,ep,ho,hd,hk,_,hm⟩:=n;refine⟨o,ho,λname=>?_⟩;have e:=hm name;unfold nsFind findBy at e;rw [← Array.find?_toList] at e;unfold PySem.W.lookIn;rw [hd];dsimp only;split
 ·rename_i y q;rw [q] at e;exact congrArg some e
 ·rename_i q;rw [q] at e;have a:es.toList.any (·.refKey)=false:=by rw [List.any_eq_false];intro y hy;obtain⟨z,t,hkey⟩:=hk y (Array.mem_toList_iff.mp hy);simp [DictEntry.refKey,hkey]
  have a':¬ es.toList.any (·.refKey)=true:=by rw [a];exact uD
  rw [ub a'];exact congrArg some e
theorem nj.look (I:nj h x dx C mA):∃ od,PySem.W.InstAt h x (PySem.W.instObj C dx) C (some od)/\∀ name,PySem.W.lookIn name od=some (mA name):=
 let ⟨od,ho,hl⟩:=VF I.ns
 ⟨od,⟨I.obj,rfl,rfl,ho⟩,hl⟩
section
variable {prog:Program} {w:World} {A:Around} {E:fL} {s:Shared} {K:Lf} {x dx C f:Addr} {mA:La} {name:Str} {v:Value}
theorem get_map {expr:Bool}(X:K.In s.heap)(I:nj s.heap x dx C mA)(hg:PySem.W.plainGet K C name=true)(hh:PySem.W.hasDictIn K C=true) (ha:PySem.W.findIn K (.ref C) name=some none) (hv:mA name=some v) (hv':PySem.W.handedIn v=true) (h:Q v { s with toks:=s.toks+1 }) : wpAny (model prog w) A (getAttr (.ref x) name expr) Q E s:=by obtain⟨od,J,hl⟩:=I.look;exact PySem.W.get_value X J (Gk hg).1 (PySem.W.findObj_own hh ha rfl (by rw [hl,hv])) hv' h
theorem RG (X:K.In s.heap)(I:nj s.heap x dx C mA)(hg:PySem.W.plainGet K C name=true) (hf:PySem.W.findIn K (.ref C) name=some (some (.ref f))) (ht:PySem.W.isFn K (.ref f)=true) (hv:mA name=none) (h:Q (.ref f,[.ref x]) s) : wpAny (model prog w) A (getMethod (.ref x) name pl) Q E s:=by obtain⟨od,J,hl⟩:=I.look;exact PySem.W.method_fn X J (Gk hg).1 (Gk hg).2 hf (u6.mp ht) (by show(PySem.W.lookIn name od).map (·.isSome)=some false;rw [hl,hv];rfl) h
theorem Pa {ns:Lj}(X:K.In s.heap)(I:nj s.heap x dx C mA) (hs:PySem.W.findIn K (.ref C) "__setattr__" = some (some (.builtin "object.__setattr__"))) (hp:PySem.W.plainOver K C=true) (ht:PySem.W.takerIn K C name=some none) (hh:PySem.W.hasDictIn K C=true) (hw:PySem.Within mA ns) (hsz:ns.length<=sizeLine) (h:∀ h',nj h' x dx C (λy=>if y=name then some v else mA y)->Heap.SameBut dx s.heap h'->Q () { s with heap:=h',toks:=s.toks+2 }) : wpAny (model prog w) A (setAttr (.ref x) name v) Q E s:=by obtain⟨od,J,hl⟩:=I.look;refine GG X J hs (PySem.W.osa_open (s:={ s with toks:=s.toks+1 }) (r:=none) X J hp ht λb=>?_);obtain⟨cd,hc,hd'⟩:=gG hh;have hx:s.heap.get? x=some ⟨.ref C,some dx,.plain,#[]⟩:=I.obj;refine ua (ud (ua (ua (wpAny_loadPart hx (ua (PySem.W.Looks.here (s:={ s with toks:=s.toks+1 }) (PySem.W.looks_clsIn X hc) ?_))))));rw [hd'];refine ud (a:=some dx) (ua (ud (ua ?_)));refine wpAny_nsSet1 (s:={ s with toks:=s.toks+1 }) I.ns λh' hn2 hs2=>?_;obtain⟨oD,esD,epD,hoD,hdD,hcD⟩:=hn2.count (PySem.Within.cons name v hw);refine ua (wpAny_lookBehind hoD (by rw [hdD];exact pastItsLine_dict (uJ hcD (by rw [uo];lia))) ?_);exact ud (h _ ⟨(hs2.2 _ (Ne.symm I.ne)).trans I.obj,hn2,I.ne⟩ hs2)
theorem RF (X:K.In s.heap)(hm:PySem.W.makesIn K C=true) (hi:PySem.W.findIn K (.ref C) "__init__" = some (some (.ref f))) (hf:PySem.W.typeIn K (.ref f)=some (.type "function")) (h:codeAny (model prog w) (A.under (.builtin "type.__call__" ⟨.ref C::vs,kw⟩)) (.call (.ref f) ⟨.ref (s.heap.objs.size+1)::vs,kw⟩) (PySem.W.InitBack (s.heap.objs.size+1) R) { s with heap:=(s.heap.push PySem.W.emptyDict).push (PySem.W.instObj C s.heap.objs.size) }) : codeAny (model prog w) A (.call (.ref C) ⟨vs,kw⟩) R s:=by obtain⟨hh,g,d,t,os⟩:=s;exact PySem.W.make_core (PySem.W.makes_of X hm) (Gf X hi) (λself=>PySem.W.bind_fn X self hf) (.inl rfl) h
end
def iQ (f:Str)(v:V):List (Str×V)->List (Str×V)
 | []=>[(f,v)]
 | (g,x)::r=>if g=f then(g,v)::r else(g,x)::iQ f v r
theorem WE (f g:Str)(v:V):∀ fs:List (Str×V),(iQ f v fs).lookup g=if g=f then some v else fs.lookup g
 | []=>by
  show List.lookup g [(f,v)]=_;by_cases h:g=f
  ·have hb:(g == f)=true:=u6.mpr h;simp only [List.lookup,hb,ue h]
  ·have hb:(g == f)=false:=uN.mpr h;simp only [List.lookup,hb,ub h]
 | (k,x)::r=>by
  have ih:=WE f g v r;rw [show iQ f v ((k,x)::r)=(if k=f then(k,v)::r else(k,x)::iQ f v r) from rfl];by_cases hk:k=f
  ·rw [ue hk];by_cases h:g=k
   ·have hb:(g == k)=true:=u6.mpr h;simp only [List.lookup,hb,ue (h.trans hk)]
   ·have hb:(g == k)=false:=uN.mpr h;simp only [List.lookup,hb,ub (λe:g=f=>h (e.trans hk.symm))]
  ·rw [ub hk];by_cases h:g=k
   ·have hb:(g == k)=true:=u6.mpr h;simp only [List.lookup,hb,ub (λe:g=f=>hk (h.symm.trans e))]
   ·have hb:(g == k)=false:=uN.mpr h;simp only [List.lookup,hb];exact ih
theorem JO (f:Str)(v:V):∀ fs:List (Str×V),f∈(iQ f v fs).map (·.1)/\∀ g,g∈fs.map (·.1)->g∈(iQ f v fs).map (·.1)
 | []=>⟨by simp [iQ],λg h=>by simp at h⟩
 | (k,x)::r=>by
  obtain⟨i1,i2⟩:=JO f v r;rw [show iQ f v ((k,x)::r)=(if k=f then(k,v)::r else(k,x)::iQ f v r) from rfl];by_cases hk:k=f
  ·rw [ue hk];subst hk;exact⟨by simp,λg h=>by simpa using h⟩
  ·rw [ub hk];refine⟨?_,λg h=>?_⟩
   ·rw [uw];exact uL _ i1
   ·rw [uw] at h ⊢;rcases uq.mp h with e | e
    ·exact uq.mpr (.inl e)
    ·exact uL _ (i2 g e)
theorem WG (f:Str)(v:V):∀ fs:List (Str×V),(iQ f v fs).length<=fs.length+1
 | []=>by simp [iQ]
 | (k,x)::r=>by
  have ih:=WG f v r;rw [show iQ f v ((k,x)::r)=(if k=f then(k,v)::r else(k,x)::iQ f v r) from rfl];by_cases hk:k=f
  ·rw [ue hk,uo,uo];lia
  ·rw [ub hk,uo,uo];lia
theorem iN.some_of (r:iN (some v) o):∃ u,o=some u/\RelV v u:=by
 cases o with
 | none=>exact(show False from r).elim
 | some u=>exact⟨u,rfl,r⟩
theorem iN.none_of (r:iN none o):o=none:=by
 cases o with
 | none=>rfl
 | some u=>exact(show False from r).elim
theorem VG (r:RelV v u):PySem.W.handedIn u=true:=by
 cases v with
 | non=>cases (show u=Value.none from r);rfl
 | bl b=>cases (show u=Value.bool b from r);rfl
 | int i=>obtain⟨t,e⟩:=(show ∃ t,u=Value.int i t from r);cases e;rfl
 | str x=>obtain⟨t,e⟩:=(show ∃ t,u=Value.str x t from r);cases e;rfl
 | byt b=>obtain⟨t,e⟩:=(show ∃ t,u=Value.bytes b t from r);cases e;rfl
 | flt b=>obtain⟨t,e⟩:=(show ∃ t,u=Value.float b t from r);cases e;rfl
 | ref a=>cases (show u=Value.ref a from r);rfl
 | ty n=>cases (show u=Value.type n from r);rfl
section
variable {P:Program} {w:World} {H H':Hp} {h h':Heap} {a C dx:Addr} {fs fs':List (Str×V)}
theorem WY (hok:lj P w H h)(e:H a=some (.ins C dx fs)):∃ mA,nj h a dx C mA/\(∀ f,iN (fs.lookup f) (mA f))/\PySem.Within mA (fs.map (·.1))/\fs.length<=1000/\H dx=some (.own a):=by
 obtain⟨d,z,ne,ob,mA,n,r,q⟩:=(show qA P w H h a (.ins C dx fs) from hok a _ e)
 exact⟨mA,⟨ob,n,ne⟩,r,q,z,d⟩
end
structure mB (K:Lf)(C:Addr):Prop where
 pg:PySem.W.plainGet K C Str.empty=true
 hd:PySem.W.hasDictIn K C=true
 po:PySem.W.plainOver K C=true
 sa:PySem.W.findIn K (.ref C) "__setattr__" = some (some (.builtin "object.__setattr__"))
theorem mB.get {K:Lf}{C:Addr}(c:mB K C)(f:Str):PySem.W.plainGet K C f=true:=c.pg
def vy (K:Lf)(C:Addr)(f:Str):Prop:=PySem.W.findIn K (.ref C) f=some none
theorem vy.taker {K:Lf}{C:Addr}{f:Str}(n:vy K C f):PySem.W.takerIn K C f=some none:=by unfold PySem.W.takerIn;rw [show PySem.W.findIn K (.ref C) f=some none from n];rfl
structure Meth (K:Lf)(C:Addr)(m:Str)(f:Addr):Prop where
 at_:PySem.W.findIn K (.ref C) m=some (some (.ref f))
 fn:PySem.W.isFn K (.ref f)=true
 kp:PySem.W.keepIn K (.ref f)=true
section
variable {X:Cx} {pins:Lp} {σ:St} {H:Hp} {s:Shared} {a C dx:Addr} {fs:List (Str×V)} {f:Str} {v:V} {A:Around} {E:fL}
theorem za5 (I:Inv X pins σ H s)(e:H a=some (.ins C dx fs))(c:mB X.K C)(n:vy X.K C f)(l:fs.lookup f=some v) (h:∀ u s',Inv X pins σ H s'->RelV v u->Q u s'):wpAny (model X.prog X.w) A (getAttr (.ref a) f b) Q E s:=by obtain⟨mA,O,r,_,_,_⟩:=WY I.hok e;obtain⟨u,hu,ru⟩:=iN.some_of (v:=v) (o:=mA f) (by rw [← l];exact r f);exact get_map I.kIn O (c.get f) c.hd n hu (VG ru) (h u _ (I.tok _) ru)
theorem kE (I:Inv X pins σ H s)(e:H a=some (.ins C dx fs))(c:mB X.K C)(k:Meth X.K C m g)(l:fs.lookup m=none) (h:Q (.ref g,[.ref a]) s):wpAny (model X.prog X.w) A (getMethod (.ref a) m pl) Q E s:=by obtain⟨mA,O,r,_,_,_⟩:=WY I.hok e;have hn:mA m=none:=iN.none_of (by rw [← l];exact r m);exact RG I.kIn O (c.get m) k.at_ k.fn hn h
theorem za6 (I:Inv X pins σ H s)(e:H a=some (.ins C dx fs))(c:mB X.K C)(n:vy X.K C f)(hl:fs.length<1000)(ry:RelV y u) (h:∀ s',Inv X pins σ (upd H a (.ins C dx (iQ f y fs))) s'->Q () s'):wpAny (model X.prog X.w) A (setAttr (.ref a) f u) Q E s:=by
 obtain⟨mA,O,r,wi,_,ho⟩:=WY I.hok e;have hz:(fs.map (·.1)).length<=sizeLine:=by rw [uk,uQ];lia
 refine Pa I.kIn O c.sa c.po n.taker c.hd wi hz λh' O' sb=>h _ ?_;have hd:∃ o,h'.get? dx=some o:=let ⟨o,_,_,e',_⟩:=O'.ns;⟨o,e'⟩;refine I.write (x:=a) (e:=dx) (by rw [e];exact True.intro) (.inr ho) (λb q hb z=>(sb.2 b hb).trans z) hd ?_;refine⟨by rw [zk O.ne];exact ho,?_,O.ne,O'.obj,_,O'.ns,λg=>?_,λg hg=>?_⟩
 ·have:=WG f y fs;lia
 ·show iN ((iQ f y fs).lookup g) (if g=f then some u else mA g);rw [WE];by_cases q:g=f
  ·rw [ue q,ue q];exact ry
  ·rw [ub q,ub q];exact r g
 ·by_cases q:g=f
  ·rw [q];exact(JO f y fs).1
  ·refine(JO f y fs).2 g (wi g λz=>hg ?_);show(if g=f then some u else mA g)=none;rw [ub q];exact z
theorem Inv.made (I:Inv X pins σ H s):Inv X pins σ (upd (upd H s.heap.objs.size (.own (s.heap.objs.size+1))) (s.heap.objs.size+1) (.ins C s.heap.objs.size [])) { s with heap:=(s.heap.push PySem.W.emptyDict).push (PySem.W.instObj C s.heap.objs.size) }:=by
 have e1:(s.heap.push PySem.W.emptyDict).get? s.heap.objs.size=some PySem.W.emptyDict:=uB s.heap rfl;have e2:((s.heap.push PySem.W.emptyDict).push (PySem.W.instObj C s.heap.objs.size)).get? (s.heap.objs.size+1)=some (PySem.W.instObj C s.heap.objs.size):=by have:=uB (s.heap.push PySem.W.emptyDict) (o:=PySem.W.instObj C s.heap.objs.size) rfl;rwa [Gg] at this
 have e3:(s.heap.push PySem.W.emptyDict).Ns s.heap.objs.size (λ_=>none):=⟨PySem.W.emptyDict,#[],_,e1,rfl,(λe he=>absurd he (by simp)),λ_=>rfl⟩
 have I1:=I.laid (a:=s.heap.objs.size) (o:=.own (s.heap.objs.size+1)) (h':=s.heap.push PySem.W.emptyDict) (t':=s.toks) (λb u q=>uf _ q) (ui _) ⟨_,e1⟩;refine I1.laid (a:=s.heap.objs.size+1) (o:=.ins C s.heap.objs.size []) (t':=s.toks) (λb u q=>uf _ q) (gQ (Gg _ _)) ?_;have ne:s.heap.objs.size≠s.heap.objs.size+1:=Uc (Nat.lt_succ_self _);refine⟨by rw [zk ne,zb],uZ _,ne,e2,λ_=>none,(Hb e3).at λo q=>uf _ q,λ_=>True.intro,λy hy=>absurd rfl hy⟩
theorem EU {prog:Program}{e:Expr}(hb:attributeBase e f env (eval e env)=eval e env)
  (h:wpAny (model prog w) A (eval e env) (λo s₁=>wpAny (model prog w) A (getAttr o f true) Q E s₁) E s):wpAny (model prog w) A (eval (.Attribute e f pos) env) Q E s:=
 Attribute_any_ h (by rw [arm_eval_Attribute,hb])
end
def p8 (K:Lf)(ta:TE)(f:Str):TE:=λσ H Q=>ta σ H λx H1=>∃ a C dx fs v,x=.ref a/\H1 a=some (.ins C dx fs)/\mB K C/\vy K C f/\fs.lookup f=some v/\Q v H1
def rf (K:Lf)(ta tv:TE)(f:Str):TS:=λD σ H=>tv σ H λy H1=>ta σ H1 λx H2=>∃ a C dx fs,x=.ref a/\H2 a=some (.ins C dx fs)/\mB K C/\vy K C f/\fs.length<1000 /\ D.nx σ (upd H2 a (.ins C dx (iQ f y fs)))
section
variable {X:Cx} {o e value:Expr} {f:Str} {pos pos' tpos:Pos} {ta tv:TE}
theorem M7 (he:PE X e ta)(hb:attributeBase e f X.env (eval e X.env)=eval e X.env):PE X (.Attribute e f pos) (p8 X.K ta f):=by intro pins s σ H Q I h;refine EU hb (ik (he pins s σ H _ I h) λu s1 zq=>?_);obtain⟨x,H1,I1,rx,a,C,dx,fs,v,ex,ea,c,n,l,q⟩:=zq;subst ex;obtain rfl:u=Value.ref a:=rx;exact za5 I1 ea c n l λu' s2 I2 ru=>⟨v,H1,I2,ru,q⟩
theorem M6 (ha:PE X o ta)(hv:PE X value tv)(hs:swapsWith value (some (.Attribute o f pos')) pos.line X.env=pure false):PS X (.Assign [.Attribute o f pos'] value pos) (rf X.K ta tv f):=by intro pins s σ H D I h;refine UT (ik (hv pins s σ H _ I h) λu s1 ⟨y,H1,I1,ry,q⟩=>ik (ha pins s1 σ H1 _ I1 q) λov s2 zq=>?_) hs;obtain⟨x,H2,I2,rx,a,C,dx,fs,ex,ea,c,n,l,q2⟩:=zq;subst ex;obtain rfl:ov=Value.ref a:=rx;exact za6 I2 ea c n l ry λs3 I3=>⟨σ,_,I3,q2⟩
end
section
variable {X:Cx} {pins:Lp} {σ:St} {H:Hp} {s:Shared} {A:Around} {E:fL} {Q:fL} {c:Value} {b:Bool}
inductive lH (K:Lf)(H:Hp):V->Value->Prop where
 | non:lH K H .non (.type "NoneType")
 | bl (x:Bool):lH K H (.bl x) (.type "bool")
 | int (i:Int):lH K H (.int i) (.type "int")
 | str (x:Str):lH K H (.str x) (.type "str")
 | flt (x:UInt64):lH K H (.flt x) (.type "float")
 | lst {a:Addr} {xs:List V} (e:H a=some (.lst xs)):lH K H (.ref a) (.type "list")
 | frz {a:Addr} {o:Obj} {xs:List V} (e:H a=some (.frz o (.lst xs))):lH K H (.ref a) (.type "list")
 | tup {a:Addr} {xs:List V} (e:H a=some (.tup xs)):lH K H (.ref a) (.type "tuple")
 | dK {a:Addr} {kvs:List (Key×V)} (e:H a=some (.dK kvs)):lH K H (.ref a) (.type "dict")
 | dT {a:Addr} {kvs:List (List Key×V)} (e:H a=some (.dT kvs)):lH K H (.ref a) (.type "dict")
 | ins {a C dx:Addr} {fs:List (Str×V)} (e:H a=some (.ins C dx fs)) (cl:mB K C) (ha:PySem.W.findIn K (.ref C) "__class__" = some (some (.builtin "object.__class__")))
   (hn:PySem.W.specialIn K (.builtin "object.__class__") "__get__" = some (some (.builtin "getset_descriptor.__get__"))) (htk:PySem.W.takesIn K (.builtin "object.__class__")=some true)
   (hm:PySem.W.mroIn K C (.type "object")=some true):lH K H (.ref a) (.ref C)
theorem Se (I:Inv X pins σ H s)(rx:RelV x u)(ty:lH X.K H x t)(e:PySem.W.kitOne X.K t c=some b)(h:∀ tk,Q (.bool b) { s with toks:=tk }) : wpAny (model X.prog X.w) A (call (.builtin "isinstance") [u,c]) Q E s:=by
 cases ty with
 | non=>cases (show u=Value.none from rx);exact Ua PySem.W.kitx_none I.kIn True.intro e (λz=>nomatch z) h
 | bl y=>cases (show u=Value.bool y from rx);exact Ua PySem.W.kitx_bool I.kIn True.intro e (λz=>nomatch z) h
 | int i=>obtain⟨t,q⟩:=(show ∃ t,u=Value.int i t from rx);cases q;exact Ua PySem.W.kitx_int I.kIn True.intro e (λz=>nomatch z) h
 | str y=>obtain⟨t,q⟩:=(show ∃ t,u=Value.str y t from rx);cases q;exact Ua PySem.W.kitx_str I.kIn True.intro e (λz=>nomatch z) h
 | flt y=>obtain⟨t,q⟩:=(show ∃ t,u=Value.float y t from rx);cases q;exact Ua PySem.W.kitx_float I.kIn True.intro e (λz=>nomatch z) h
 | @lst a xs ea=>
  cases (show u=Value.ref a from rx);obtain⟨_,_,n,_,h1⟩:=(show qA X.prog X.w H s.heap a (.lst xs) from I.hok a _ ea)
  exact Ua PySem.W.kitx_list I.kIn ⟨_,h1,rfl⟩ e (λz=>nomatch z) h
 | @frz a ob xs ea=>
  cases (show u=Value.ref a from rx);obtain⟨_,_,_,n,_,h1⟩:=(show qA X.prog X.w H s.heap a (.frz ob (.lst xs)) from I.hok a _ ea)
  exact Ua PySem.W.kitx_list I.kIn ⟨_,h1,rfl⟩ e (λz=>nomatch z) h
 | @tup a xs ea=>
  cases (show u=Value.ref a from rx);obtain⟨_,_,_,p⟩:=(show qA X.prog X.w H s.heap a (.tup xs) from I.hok a _ ea)
  obtain⟨o,h1,h2,_⟩:=p;exact Ua PySem.W.kitx_tuple I.kIn ⟨o,h1,h2⟩ e (λz=>nomatch z) h
 | @dK a kvs ea=>
  cases (show u=Value.ref a from rx);obtain⟨_,_,vs,_,p⟩:=(show qA X.prog X.w H s.heap a (.dK kvs) from I.hok a _ ea)
  obtain⟨o,es,ep,h1,h2,_⟩:=p;exact Ua PySem.W.kitx_dict I.kIn ⟨o,h1,h2.1⟩ e (λz=>nomatch z) h
 | @dT a kvs ea=>
  cases (show u=Value.ref a from rx);obtain⟨_,_,xs,_,o,es,ep,h1,h2,_⟩:=(show qA X.prog X.w H s.heap a (.dT kvs) from I.hok a _ ea)
  exact Ua PySem.W.kitx_dict I.kIn ⟨o,h1,h2.1⟩ e (λz=>nomatch z) h
 | @ins a C dx fs ea cl ha hn htk hm=>cases (show u=Value.ref a from rx);obtain⟨mA,O,_⟩:=WY I.hok ea;obtain⟨od,J,_⟩:=O.look;exact Ua (PySem.W.kitx_own (cl.get _) cl.hd ha hn htk hm) I.kIn J e (λz=>nomatch z) h
end
structure ib (k:Nat)(A:Around):Prop where
 hd:A.handled=none
 dp:A.depth+3 * k+5<recursionLimit
 un:A.units+16 * k+200<cLine
 gd:A.guards=some []
theorem ib.mono (r:ib k A)(h:j<=k):ib j A:=⟨r.hd,by have:=r.dp;lia,by have:=r.un;lia,r.gd⟩
theorem ib.deeper {A:Around}(r:ib (k+1) A)(env:Env):ib k (A.deeper env):=
 ⟨r.hd,by have:=r.dp;show A.depth+1+3 * k+5<_;lia,by have:=r.un;show A.units+3+16 * k+200<_;lia,r.gd⟩
theorem ib.in1 {A:Around}(r:ib (k+1) A):ib k A.in1:=
 ⟨r.hd,by have:=r.dp;show A.depth+3 * k+5<_;lia,by have:=r.un;show A.units+1+16 * k+200<_;lia,r.gd⟩
theorem Xp {A:Around}:(A.under (.builtin "type.__call__" ⟨.ref C::us,kw⟩)).depth=A.depth+1:=by first | rfl | simp [Around.under,Code.weight,Code.isCreation,Code.isGuard,Code.isCaller,Code.frames,Code.isFrame,guardIds]
theorem Xq {A:Around}:(A.under (.builtin "type.__call__" ⟨.ref C::us,kw⟩)).units=A.units+1:=by first | rfl | simp [Around.under,Code.cUnits,Code.frames,Code.isFrame]
theorem WH {A:Around}:(A.under (.builtin "type.__call__" ⟨.ref C::us,kw⟩)).guards=A.guards:=by first | rfl | simp [Around.under,Code.weight,Code.isCreation,Code.isGuard,Code.isCaller,Code.frames,Code.isFrame,guardIds]
theorem ib.make {A:Around}(r:ib (k+1) A)(C:Addr)(us:Lg)(kw:List (Str×Value)):ib k (A.under (.builtin "type.__call__" ⟨.ref C::us,kw⟩)):=
 ⟨r.hd,by have:=r.dp;rw [Xp];lia,by have:=r.un;rw [Xq];lia,by rw [WH];exact r.gd⟩
theorem ib.depth {A:Around}(r:ib k A):A.depth<recursionLimit:=by have:=r.dp;lia
theorem ib.units {A:Around}(r:ib k A):A.units+64<cLine:=by have:=r.un;lia
def iU:TA:=λ_ H Q=>Q [] H
def ju (ta:TE)(tr:TA):TA:=λσ H Q=>ta σ H λx H1=>tr σ H1 λxs H2=>Q (x::xs) H2
section
variable {X:Cx} {e:Expr} {es:Lh} {te:TE} {t:TA} {pos:Pos}
theorem JP:PA X [] iU:=λ_ _ _ _ H Q I h=>Calls.spliced_nil ⟨[],H,I,.nil,h⟩
abbrev SE (X:Cx)(e:Expr)(es:Lh):Prop:=starEach (e::es) X.env=(false,eval e X.env)::starEach es X.env
theorem w6 (ha:PE X e te)(hr:PA X es t)(hs:SE X e es:=by rfl):PA X (e::es) (ju te t):=by intro pos pins s σ H Q I h;rw [hs];show wpAny _ _ (spliced ((false,eval e X.env)::backTo pos (starEach es X.env))) _ _ s;refine Calls.spliced_cons (ik (ha pins s σ H _ I h) λu s1 zq=>?_);obtain⟨x,H1,I1,r1,q1⟩:=zq;exact ik (hr pos pins s1 σ H1 _ I1 q1) λus s2 ⟨xs,H2,I2,r2,q2⟩=>⟨x::xs,H2,I2,.cons r1 r2,q2⟩
def pV (t:TA):TE:=λσ H Q=>t σ H λxs H1=>xs.length<=sizeLine/\∀ p,H1 p=none->Q (.ref p) (upd H1 p (.tup xs))
def pZ (t:TA):TE:=λσ H Q=>t σ H λxs H1=>xs.length<=sizeLine/\∀ p,H1 p=none->Q (.ref p) (upd H1 p (.lst xs))
theorem M5 {x1}(h:PA X es t):PE X (.Tuple es x1 pos) (pV t):=by intro pins s σ H Q I hq;refine wpAny_Tuple_spliced (ik (h pos pins s σ H _ I hq) λus s1 ⟨xs,H1,I1,r,z,q⟩=>⟨by rw [← r.length];exact z,?_⟩);have hf:H1 s1.heap.objs.size=none:=I1.hok.fresh (ui _);refine⟨.ref s1.heap.objs.size,upd H1 s1.heap.objs.size (.tup xs),I1.laid (t':=s1.toks) (λb u e=>uf _ e) (ui _) ?_,rfl,q _ hf⟩;exact⟨z,us,r,⟨_,uB _ rfl,rfl,_,rfl⟩⟩
theorem M4 (h:PA X es t):PE X (.List es pos) (pZ t):=by intro pins s σ H Q I hq;refine wpAny_List_spliced (ik (h pos pins s σ H _ I hq) λus s1 ⟨xs,H1,I1,r,z,q⟩=>⟨by rw [← r.length];exact z,?_⟩);have hf:H1 s1.heap.objs.size=none:=I1.hok.fresh (ui _);refine⟨.ref s1.heap.objs.size,upd H1 s1.heap.objs.size (.lst xs),I1.laid (t':=s1.toks) (λb u e=>uf _ e) (ui _) ?_,rfl,q _ hf⟩;exact⟨z,us,0,r,uB _ rfl⟩
end
abbrev Sp:=List V->Hp->VK->XK->Prop
abbrev ma:=List Env->Hp->Shared->XK->Value->Shared->Prop
structure lL (P:Program)(w:World)(K:Lf)(mg:La)(base:Heap)(A:Around)(outer:List Env)(s:Shared)(H:Hp):Prop where
 frames:A.frames=some outer
 mod:Mod K mg base
 bs:∀ b o,base.get? b=some o->s.heap.get? b=some o/\H b=none
 bsz:base.objs.size<=s.heap.objs.size
 funs:s.heap.FunFrames base outer
 frf:∀ b∈lN outer,H b=none
 hok:lj P w H s.heap
 bare:AllBare s.gens
def CE (outer:List Env)(P:Program)(w:World)(H:Hp)(s:Shared)(Q:VK)(u:Value)(s':Shared):Prop:= ∃ v H',s'.os=s.os/\AllBare s'.gens/\Un (lN outer) [] H H' s.heap s'.heap/\lj P w H' s'.heap/\RelV v u/\Q v H'
def CR (CX:ma)(outer:List Env)(P:Program)(w:World)(H:Hp)(s:Shared)(Q:VK)(E:XK)(r:Result)(s':Shared):Prop:=
 match r with
 | .ok (.ret u)=>CE outer P w H s Q u s'
 | .ok _=>False
 | .error e=>CX outer H s E e s'
structure iD (P:Program)(w:World)(K:Lf)(mg:La)(base:Heap)(CX:ma)(k:Nat)(f:Addr)(fd:FuncData)(ps:Lj)(sp:Sp):Prop where
 len:∀ vs H Q E,sp vs H Q E->vs.length=ps.length
 run:∀ (A:Around) (outer:List Env) (s:Shared) (H:Hp) (args:Args) (us:Lg) (vs:List V) (Q:VK) (E:XK),ib k A->lL P w K mg base A outer s H->BindsTo s fd args (ps.zip us)->Vals vs us->sp vs H Q E ->
  codeAny (model P w) A (.call (.ref f) args) (CR CX outer P w H s Q E) s
theorem iD.mono {P:Program}{w:World}{K:Lf}{mg:La}{base:Heap}{CX:ma}{j k:Nat}{f:Addr}{fd:FuncData}{ps:Lj}{sp:Sp}(F:iD P w K mg base CX j f fd ps sp)(h:j<=k) : iD P w K mg base CX k f fd ps sp:=⟨F.len,λA outer s H args us vs Q E hr=>F.run A outer s H args us vs Q E (hr.mono h)⟩
theorem iD.imp {P:Program}{w:World}{K:Lf}{mg:La}{base:Heap}{CX:ma}{k:Nat}{f:Addr}{fd:FuncData}{ps:Lj}{sp sp':Sp}(F:iD P w K mg base CX k f fd ps sp) (h:∀ vs H Q E,sp' vs H Q E->sp vs H Q E):iD P w K mg base CX k f fd ps sp':= ⟨λvs H Q E q=>F.len vs H Q E (h _ _ _ _ q),λA outer s H args us vs Q E hr he hb hv hs=>F.run A outer s H args us vs Q E hr he hb hv (h _ _ _ _ hs)⟩
theorem lL.make {P:Program}{w:World}{K:Lf}{mg:La}{base:Heap}{A:Around}{outer:List Env}{s:Shared}{H:Hp}(e:lL P w K mg base A outer s H)(C:Addr)(us:Lg)(kw:List (Str×Value)) :
  lL P w K mg base (A.under (.builtin "type.__call__" ⟨.ref C::us,kw⟩)) outer s H:=⟨by first | exact e.frames | (simpa [Around.under,Code.envs,Code.isFrame,pushEnvs] using e.frames),e.mod,e.bs,e.bsz,e.funs,e.frf,e.hok,e.bare⟩
theorem lL.in1 {P:Program}{w:World}{K:Lf}{mg:La}{base:Heap}{A:Around}{outer:List Env}{s:Shared}{H:Hp}(e:lL P w K mg base A outer s H) : lL P w K mg base A.in1 outer s H:=⟨e.frames,e.mod,e.bs,e.bsz,e.funs,e.frf,e.hok,e.bare⟩
section
variable {X:Cx} {pins:Lp} {σ:St} {H:Hp} {s s':Shared}
theorem Inv.iH (I:Inv X pins σ H s):lL X.prog X.w X.K X.mg X.base X.A X.stack s H:= ⟨I.ok.frames,I.ok.mod,I.bs,uJ I.ok.bsz I.sz,I.stack,I.stkFree,I.hok,I.bare⟩
theorem Inv.after (I:Inv X pins σ H s)(h:CE X.stack X.prog X.w H s Q u s'):EP X pins σ Q u s':=by obtain⟨v,H',os,bare,un,hok,r,q⟩:=h;obtain⟨hh,g,d,t,os'⟩:=s';obtain rfl:os' = s.os:=os;exact⟨v,H',I.call (h':=hh) (g':=g) (d':=d) (t':=t) (ch:=[]) un hok bare (λb z=>absurd z (by simp)),r,q⟩
end
def yt (sp:Sp)(dvs:List V)(E:XK)(t:TA):TE:=λσ H Q=>t σ H λvs H1=>sp (vs++dvs) H1 Q E
def Jj (C:Addr)(m:Str)(sp:Sp)(dvs:List V)(E:XK)(ta:TE)(t:TA):TE:=λσ H Q=>ta σ H λx H1=>∃ a dx fs,x=.ref a/\H1 a=some (.ins C dx fs)/\fs.lookup m=none /\ t σ H1 λvs H2=>sp (x::(vs++dvs)) H2 Q E
def Ky (C:Addr)(sp:Sp)(dvs:List V)(E:XK)(t:TA):TE:=λσ H Q=>t σ H λvs H1=>∀ x dx,H1 x=none->H1 dx=none->dx≠x -> sp (.ref x::(vs++dvs)) (upd (upd H1 dx (.own x)) x (.ins C dx [])) (λv H2=>v=.non/\Q (.ref x) H2) E
def Binds (K:Lf)(fd:FuncData)(ps:Lj)(ds:Lg):Prop:= ∀ (s:Shared) (us:Lg),K.In s.heap->(us++ds).length=ps.length->BindsTo s fd ⟨us,[]⟩ (ps.zip (us++ds))
theorem Binds.all {K:Lf}{fd:FuncData}{ps:Lj}(h:∀ us:Lg,us.length=ps.length->bindArgs fd ⟨us,[]⟩=pure (ps.zip us)):Binds K fd ps []:=λs us _ hl=>by rw [uj] at hl ⊢;exact .of_eq (h us hl)
def Passes (CX:ma)(X:Cx)(E:XK):Prop:=∀ (pins:Lp) (σ:St) (H:Hp) (s:Shared) (e:Value) (s':Shared),Inv X pins σ H s->CX X.stack H s E e s'->X.xe e s'
section
variable {X:Cx} {CX:ma} {k:Nat} {f C:Addr} {fd:FuncData} {ps:Lj} {sp:Sp} {dvs:List V} {ds:Lg} {E:XK} {x m:Str} {p pos apos:Pos} {e o:Expr} {es:Lh} {ta:TE} {t:TA}
theorem Xr {pins:Lp}(F:iD X.prog X.w X.K X.mg X.base CX k f fd ps sp)(hr:ib k X.A)(hb:Binds X.K fd ps ds)(hd:Vals dvs ds)(hx:Passes CX X E) (I:Inv X pins σ H s) (r:Vals vs us) (h:sp (vs++dvs) H Q E):fN X (call (.ref f) us) (EP X pins σ Q) X.xe s:=by
 have r2:Vals (vs++dvs) (us++ds):=r.append hd;have hl:(us++ds).length=ps.length:=by rw [← r2.length];exact F.len _ _ _ _ h
 refine Ud (Uh (F.run X.A X.stack s H ⟨us,[]⟩ (us++ds) (vs++dvs) Q E hr I.iH (hb s us I.kIn hl) r2 h) λr s' hq=>?_);cases r with
 | error e=>exact hx pins σ H s e s' I hq
 | ok fl=>
  cases fl with
  | ret u=>exact I.after hq
  | next=>exact False.elim hq
  | brk=>exact False.elim hq
  | cont=>exact False.elim hq
theorem ET (F:iD X.prog X.w X.K X.mg X.base CX k f fd ps sp)(hr:ib k X.A)(hg:Gl X x)(hm:X.mg x=some (.ref f))(hk:PySem.W.keepIn X.K (.ref f)=true)(hb:Binds X.K fd ps ds)(hd:Vals dvs ds)(hx:Passes CX X E) (ha:PA X (e::es) t) (hdb:(x == ("__debug__":Str))=false:=by decide) (he:SE X e es:=by rfl) (hpl:(backTo pos (starEach es X.env)).any (·.1)=false:=by rfl) : PE X (.Call (.Name x p) (e::es) [] pos) (yt sp dvs E t):=by intro pins s σ H Q I h;refine uU (w4 I hg hm ?_ hdb);refine Ui (h₀:=X.base) I.ok.mod.kin hk (ik (ha pos pins s σ H _ I h) λus s1 ⟨vs,H1,I1,r,q⟩=>⟨I1.kIn,?_⟩) he hpl;exact Xr F hr hb hd hx I1 r q
theorem RE (F:iD X.prog X.w X.K X.mg X.base CX k f fd ps sp)(hr:ib k X.A)(hg:Gl X x)(hm:X.mg x=some (.ref f))(hk:PySem.W.keepIn X.K (.ref f)=true)(hb:Binds X.K fd ps ds)(hd:Vals dvs ds)(hx:Passes CX X E) (hdb:(x == ("__debug__":Str))=false:=by decide):PE X (.Call (.Name x p) [] [] pos) (yt sp dvs E iU):=by intro pins s σ H Q I h;refine uU (w4 I hg hm ?_ hdb);exact Gm I.kIn hk (Xr (us:=[]) F hr hb hd hx I .nil h)
theorem O9 {pl:Sem Bool}(he:PE X o ta)(c:mB X.K C)(hm:Meth X.K C m f)(F:iD X.prog X.w X.K X.mg X.base CX k f fd ps sp)(hr:ib k X.A)(hb:Binds X.K fd ps ds)(hd:Vals dvs ds)(hx:Passes CX X E)(ha:PA X (e::es) t)
  (hst:SE X e es:=by rfl) (hpl:(backTo pos (starEach es X.env)).any (·.1)=false:=by rfl)
  (ht:eval (.Call (.Attribute o m apos) (e::es) [] pos) X.env=(do
   let ov ← eval o X.env
   standAt apos.atName
   let (f,first) ← holding [ov] (getMethod ov m pl)
   callWith pos f first (backTo pos (starEach (e::es) X.env)) (backToKw pos (keywordEach [] X.env))):=by rfl) :
  PE X (.Call (.Attribute o m apos) (e::es) [] pos) (Jj C m sp dvs E ta t):=by
 intro pins s σ H Q I h
 refine UP (pl:=pl) (ik (he pins s σ H _ I h) λu s1 zq=>?_) ht
 obtain⟨x,H1,I1,rx,a,dx,fs,ex,ea,l,q⟩:=zq
 subst ex
 obtain rfl:u=Value.ref a:=rx
 refine kE I1 ea c hm l ?_
 refine Ui (first:=[.ref a]) (h₀:=X.base) I.ok.mod.kin hm.kp (ik (ha pos pins s1 σ H1 _ I1 q) λus s2 ⟨vs,H2,I2,r,q2⟩=>⟨I2.kIn,?_⟩) hst hpl
 exact Xr (us:=.ref a::us) (vs:=.ref a::vs) F hr hb hd hx I2 (.cons rfl r) q2
theorem RD {pl:Sem Bool}(he:PE X o ta)(c:mB X.K C)(hm:Meth X.K C m f)(F:iD X.prog X.w X.K X.mg X.base CX k f fd ps sp)(hr:ib k X.A)(hb:Binds X.K fd ps ds)(hd:Vals dvs ds)(hx:Passes CX X E)
  (ht:eval (.Call (.Attribute o m apos) [] [] pos) X.env=(do
   let ov ← eval o X.env
   standAt apos.atName
   let (f,first) ← holding [ov] (getMethod ov m pl)
   callWith pos f first (backTo pos (starEach [] X.env)) (backToKw pos (keywordEach [] X.env))):=by rfl) :
  PE X (.Call (.Attribute o m apos) [] [] pos) (Jj C m sp dvs E ta iU):=by
 intro pins s σ H Q I h
 refine UP (pl:=pl) (ik (he pins s σ H _ I h) λu s1 zq=>?_) ht
 obtain⟨x,H1,I1,rx,a,dx,fs,ex,ea,l,q⟩:=zq
 subst ex
 obtain rfl:u=Value.ref a:=rx
 refine kE I1 ea c hm l ?_
 exact Gm (first:=[.ref a]) I1.kIn hm.kp (Xr (us:=[.ref a]) (vs:=[.ref a]) F hr hb hd hx I1 (.cons rfl .nil) q)
structure Mk (K:Lf)(C f:Addr):Prop where
 makes:PySem.W.makesIn K C=true
 init:PySem.W.findIn K (.ref C) "__init__" = some (some (.ref f))
 fn:PySem.W.isFn K (.ref f)=true
 kp:PySem.W.keepIn K (.ref C)=true
theorem RC {pins:Lp}(M:Mk X.K C f)(F:iD X.prog X.w X.K X.mg X.base CX k f fd ps sp)(hr:ib (k+1) X.A)(hb:Binds X.K fd ps ds)(hd:Vals dvs ds) (hx:Passes CX X E) (I:Inv X pins σ H s) (r:Vals vs us) (h:∀ x dx,H x=none->H dx=none->dx≠x->sp (.ref x::(vs++dvs)) (upd (upd H dx (.own x)) x (.ins C dx [])) (λv H2=>v=.non/\Q (.ref x) H2) E) : fN X (call (.ref C) us) (EP X pins σ Q) X.xe s:=by
 have hq:=h (s.heap.objs.size+1) s.heap.objs.size (I.hok.fresh (UA _)) (I.hok.fresh (ui _)) (Uc (Nat.lt_succ_self _));have I2:=Inv.made (C:=C) I;have r2:Vals (V.ref (s.heap.objs.size+1)::(vs++dvs)) (Value.ref (s.heap.objs.size+1)::(us++ds)):=.cons rfl (r.append hd);have hl:(Value.ref (s.heap.objs.size+1)::us++ds).length=ps.length:=by have e:=r2.length;rw [F.len _ _ _ _ hq] at e;exact e.symm
 refine Ud (RF (f:=f) I.kIn M.makes M.init (u6.mp M.fn) (Uh (F.run _ X.stack _ _ ⟨Value.ref (s.heap.objs.size+1)::us,[]⟩ (Value.ref (s.heap.objs.size+1)::(us++ds)) _ _ E (hr.make C us [])
  (I2.iH.make C us []) (hb _ (Value.ref (s.heap.objs.size+1)::us) I2.kIn hl) r2 hq) λr s' hq'=>?_))
 cases r with
 | error e=>exact hx pins σ _ _ e s' I2 hq'
 | ok fl=>
  cases fl with
  | ret u=>obtain⟨v,H',I3,rv,ev,q3⟩:=I2.after hq';subst ev;exact⟨rv,⟨V.ref (s.heap.objs.size+1),H',I3,rfl,q3⟩⟩
  | next=>exact False.elim hq'
  | brk=>exact False.elim hq'
  | cont=>exact False.elim hq'
theorem O8 (M:Mk X.K C f)(F:iD X.prog X.w X.K X.mg X.base CX k f fd ps sp)(hr:ib (k+1) X.A)(hg:Gl X x)(hm:X.mg x=some (.ref C))(hb:Binds X.K fd ps ds)(hd:Vals dvs ds)(hx:Passes CX X E) (ha:PA X (e::es) t) (hdb:(x == ("__debug__":Str))=false:=by decide) (he:SE X e es:=by rfl) (hpl:(backTo pos (starEach es X.env)).any (·.1)=false:=by rfl) : PE X (.Call (.Name x p) (e::es) [] pos) (Ky C sp dvs E t):=by intro pins s σ H Q I h;refine uU (w4 I hg hm ?_ hdb);refine Ui (h₀:=X.base) I.ok.mod.kin M.kp (ik (ha pos pins s σ H _ I h) λus s1 ⟨vs,H1,I1,r,q⟩=>⟨I1.kIn,?_⟩) he hpl;exact RC M F hr hb hd hx I1 r q
end
section
variable {X:Cx} {CX:ma} {k:Nat} {f C:Addr} {fd:FuncData} {ps ks:Lj} {sp:Sp} {E:XK} {x m:Str} {p pos apos kpos:Pos} {e o:Expr} {es:Lh} {kws:List Keyword} {te ta:TE} {t tk:TA} {nm:Option Str}
variable {g:Lg->Lg->Lg} {gV:List V->List V->List V}
end
structure zj (N P:Lj)(sc:Scope):Prop where
 kind:sc.kind=.function
 co:sc.isCoroutine=false
 gen:sc.isGenerator=false
 nd:N.Nodup
 pre:N.take P.length=P
 par:∀ x∈P,sc.names.lookup x=some .local\/sc.names.lookup x=some .cell
 nofree:∀ y∈sc.names,y.2≠.free
theorem VH {kindOf:Str->Option NameKind}:∀ {binds:List (Str×Value)} {m:La},(∀ v,(x,v)∉binds)->bindL kindOf binds m x=m x
 | [],_,_=>rfl
 | (n,v)::r,m,h=>by
  unfold bindL;rw [VH λw hw=>h w (uL _ hw)];split
  ·have:x≠n:=by rintro rfl;exact h v Up
   simp [this]
  ·rfl
theorem VI {kindOf:Str->Option NameKind}:∀ {binds:List (Str×Value)} {m:La},(∀ v,(x,v)∉binds)->bindC kindOf binds m x=m x
 | [],_,_=>rfl
 | (n,v)::r,m,h=>by
  unfold bindC;rw [VI λw hw=>h w (uL _ hw)];split
  ·rfl
  ·have:x≠n:=by rintro rfl;exact h v Up
   simp [this]
theorem JQ {kindOf:Str->Option NameKind}:∀ {P:Lj} {vs:Lg} {i:Nat} {m:La},P.Nodup->P[i]? = some x->vs[i]? = some v->kindOf x=some .local ->
  bindL kindOf (P.zip vs) m x=some v
 | [],_,_,_,_,h,_,_=>by simp at h
 | _::_,[],_,_,_,_,h,_=>by simp at h
 | p::P,w::vs,0,m,nd,h1,h2,hk=>by simp at h1 h2;subst h1;subst h2;show bindL kindOf ((p,w)::P.zip vs) m p=_;unfold bindL;rw [VH λv hv=>(Ug.mp nd).1 (gf hv).1,ue hk];simp
 | p::P,w::vs,i+1,m,nd,h1,h2,hk=>by show bindL kindOf ((p,w)::P.zip vs) m x=_;unfold bindL;exact JQ (i:=i) (Ug.mp nd).2 (by simpa using h1) (by simpa using h2) hk
theorem JR {kindOf:Str->Option NameKind}:∀ {P:Lj} {vs:Lg} {i:Nat} {m:La},P.Nodup->P[i]? = some x->vs[i]? = some v->kindOf x≠some .local ->
  bindC kindOf (P.zip vs) m x=some v
 | [],_,_,_,_,h,_,_=>by simp at h
 | _::_,[],_,_,_,_,h,_=>by simp at h
 | p::P,w::vs,0,m,nd,h1,h2,hk=>by simp at h1 h2;subst h1;subst h2;show bindC kindOf ((p,w)::P.zip vs) m p=_;unfold bindC;rw [VI λv hv=>(Ug.mp nd).1 (gf hv).1,ub hk];simp
 | p::P,w::vs,i+1,m,nd,h1,h2,hk=>by show bindC kindOf ((p,w)::P.zip vs) m x=_;unfold bindC;exact JR (i:=i) (Ug.mp nd).2 (by simpa using h1) (by simpa using h2) hk
def start (N:Lj)(vs:List V):St:=vs.map some++List.replicate (N.length - vs.length) none
def iK (CX:ma)(P:Program)(w:World)(K:Lf)(mg:La)(base:Heap)(N:Lj)(qual:Str)(scope:Scope)(f:Addr)(cd:Value)(A:Around)(outer:List Env)(s:Shared)(H:Hp)(E:XK):Cx where
 prog:=P
 w:=w
 K:=K
 mg:=mg
 base:=base
 A:=A.deeper (envOfC qual scope s.heap.objs.size f cd)
 N:=N
 s₀:=s
 H₀:=H
 env:=envOfC qual scope s.heap.objs.size f cd
 outer:=outer
 stack:=envOfC qual scope s.heap.objs.size f cd::outer
 ex:=[]
 calm:=true
 fn:=λ_=>true
 pn:=[]
 xe:=λe s'=>wpAny (model P w) (A.deeper (envOfC qual scope s.heap.objs.size f cd)) (leaving (envOfC qual scope s.heap.objs.size f cd) e) (λ_ s''=>CX outer H s E e s'') (λe' s''=>CX outer H s E e' s'') s'
theorem Jk {sc:Scope}(h:sc.names.lookup x=some .cell):∃ c,(cellsFrom n sc.names []).lookup x=some c:=by have q:=U3 sc.names n [] (.inl h);exact Option.isSome_iff_exists.mp q
theorem VJ {CX:ma}{P:Program}{w:World}{K:Lf}{mg:La}{base:Heap}{N ps:Lj}{qual:Str}{scope:Scope}{f:Addr}{cd:Value}{A:Around}{outer:List Env}{s s1:Shared}{H:Hp}{E:XK}{us:Lg}{vs:List V} (S:zj N ps scope) (hd:A.handled=none) (e0:lL P w K mg base A outer s H) (hl:vs.length=ps.length) (r:Vals vs us) (x:InCallC s s.heap.objs.size (bindL (envOfC qual scope s.heap.objs.size f cd).kindOf (ps.zip us) λ_=>none) (cellsFrom (s.heap.objs.size+1) scope.names []) (bindC (envOfC qual scope s.heap.objs.size f cd).kindOf (ps.zip us) λ_=>none) s1) : Inv (iK CX P w K mg base N qual scope f cd A outer s H E) [] (start N vs) H s1:=by
 have hpl:ps.length<=N.length:=by have:=congrArg List.length S.pre;rw [Uq] at this;lia
 obtain⟨h1,tk,rfl,hk⟩:=x.done;have noA:∀ b:Addr,b∉(iK CX P w K mg base N qual scope f cd A outer s H E).ex:=λb z=>absurd (show b∈([]:Le) from z) (by simp)
 refine⟨⟨e0.mod,S.kind,rfl,rfl,ui _,λy z c h1 h2=>?_,λy hy=>?_,λy c _ h=>?_,λ_=>hd,Around.frames_deeper e0.frames,.inr ⟨rfl,rfl⟩,λb z=>absurd z (noA b),e0.bs,e0.bsz,λb _ _=>noA b,λb z=>absurd z (noA b),e0.funs,e0.frf⟩,
  rfl,e0.bare,Un.kept hk,⟨_,x.toInCall.ns,λi y v h1 h2 h3=>?_⟩,λy c h=>⟨_,x.cell y c h⟩,e0.hok.fresh (ui _),λy c h=>?_,λp hp=>absurd (show p∈([]:Lp) from hp) (by simp),e0.hok.kept hk,?_⟩
 ·exact name_of_addr x.apart (uO h1) (uO h2)
 ·have hy:scope.names.lookup y=some .cell\/scope.names.lookup y=some .free:=hy;rcases hy with hy | hy
  ·exact Jk hy
  ·exact absurd rfl (S.nofree _ (uO hy))
 ·exact gP (x.above y c (uO h))
 ·have hi:i<vs.length:=by
   unfold start at h2
   by_cases hi:i<vs.length
   ·exact hi
   ·rw [UB (by simpa using hi)] at h2
    rw [gI] at h2
    split at h2<;>cases h2
  have ha:vs[i]? = some v:=by
   unfold start at h2
   rw [UD (by simpa using hi),Uk] at h2
   cases e:vs[i]? with
   | none=>rw [e] at h2;cases h2
   | some a=>rw [e] at h2;cases h2;rfl
  obtain⟨u,hu,rv⟩:=r.get ha
  have hp:ps[i]? = some y:=by
   rw [← S.pre,hJ (by lia)];exact h1
  have ndP:ps.Nodup:=by rw [← S.pre];exact S.nd.sublist (List.take_sublist _ _)
  refine⟨u,rv,?_⟩
  rcases S.par y (uP hp) with k | k
  ·exact .inl ⟨k,JQ ndP hp hu k⟩
  ·obtain⟨c,e⟩:=Jk (n:=s.heap.objs.size+1) k
   refine .inr ⟨.inl k,c,e,?_⟩
   have q:=x.cell y c e
   rw [JR ndP hp hu (by show scope.names.lookup y≠_;rw [k];decide)] at q
   exact q
 ·exact e0.hok.fresh (gP (x.above y c (uO h)))
 ·unfold start;show _=N.length;rw [uc,uk,Uo];lia
theorem tY {CX:ma}{P:Program}{w:World}{K:Lf}{mg:La}{base:Heap}{k:Nat}{f:Addr}{name qual:Str}{params:Arguments}{body:List Stmt}{scope:Scope}{dV kV doc pm cdv ct oc:Value}{an od:Option Addr} {osl:Array (Option Value)} {N ps:Lj} {sp:Sp} (lk:K.lookup f=some ⟨oc,od,.func (PySem.W.fnOf name qual params body scope dV kV doc pm an cdv ct),osl⟩) (hcd:PySem.W.codeIn K cdv qual=true) (S:zj N ps scope) (len:∀ vs H Q E,sp vs H Q E->vs.length=ps.length) (hbody:∀ (A:Around) (outer:List Env) (s:Shared) (H:Hp) (vs:List V) (Q:VK) (E:XK),ib k (A.deeper (envOfC qual scope s.heap.objs.size f cdv))->sp vs H Q E -> ∃ t,lJ (iK CX P w K mg base N qual scope f cdv A outer s H E) body t/\t { nx:=λ_ H'=>Q .non H',rt:=Q } (start N vs) H) : iD P w K mg base CX (k+1) f (PySem.W.fnOf name qual params body scope dV kV doc pm an cdv ct) ps sp:=by
 refine⟨len,λA outer s H args us vs Q E hr e0 hb r hsp=>?_⟩;have hl:=len _ _ _ _ hsp;have KX:K.In s.heap:=e0.mod.kin.keeps λb o e=>(e0.bs b o e).1;have lim:s.heap.NoLimit:=e0.mod.nolimit.keeps λb o e=>(e0.bs b o e).1
 have hkind:∀ y∈ps.zip us,scope.names.lookup y.1=some .local\/(scope.names.lookup y.1=some .cell/\((cellsFrom (s.heap.objs.size+1) scope.names []).lookup y.1).isSome=true):=λ⟨n,v⟩ hy=>by
  rcases S.par n (gf hy).1 with q | q
  ·exact .inl q
  ·exact .inr ⟨q,U3 _ _ _ (.inl q)⟩
 refine gj hr.depth (KX _ _ lk) rfl S.co S.gen rfl (Gx KX hcd) (hb _ _ _ _ ?_);refine U4 S.kind hkind λenv he s1 x=>?_;subst he;refine⟨lim.keeps x.toInCall.keep,Gy ?_⟩;obtain⟨t,ht,hq⟩:=hbody A outer s H vs Q E (hr.deeper _) hsp;have I:Inv (iK CX P w K mg base N qual scope f cdv A outer s H E) [] (start N vs) H s1:=VJ S hr.hd e0 hl r x;refine um (ht [] s1 (start N vs) H _ I hq) (λfl s' hs=>?_) λe s' hs=>hs
 have fin:∀ {σ':St} {H':Hp} {v:V} {u:Value},Inv (iK CX P w K mg base N qual scope f cdv A outer s H E) [] σ' H' s'->RelV v u->Q v H'->CE outer P w H s Q u s':=
  λ{σ' H' v u} J rv q=>⟨v,H',J.os,J.bare,J.base,J.hok,rv,q⟩
 cases fl with
 | ret u=>obtain⟨v,σ',H',J,rv,q⟩:=hs;exact fin J rv q
 | next=>obtain⟨σ',H',J,q⟩:=hs;exact fin (v:=V.non) (u:=Value.none) J rfl q
 | brk=>obtain⟨_,_,_,q⟩:=hs;exact False.elim q
 | cont=>obtain⟨_,_,_,q⟩:=hs;exact False.elim q
section
variable {X:Cx} {x:Str} {p pos:Pos} {e:Expr} {es:Lh} {t:TA} {id T:String} {r:List V->Hp->VK->Prop}
def oE (r:List V->Hp->VK->Prop)(t:TA):TE:=λσ H Q=>t σ H λvs H1=>r vs H1 Q
theorem RB (hc:jB X (.builtin id) r)(hg:Gl X x)(hm:X.mg x=none)(hv:bootBuiltins x=some (.builtin id))(ha:PA X (e::es) t)(hn:x≠"__name__":=by decide) (hdb:(x == ("__debug__":Str))=false:=by decide) (he:SE X e es:=by rfl) (hpl:(backTo pos (starEach es X.env)).any (·.1)=false:=by rfl):PE X (.Call (.Name x p) (e::es) [] pos) (oE r t):=by intro pins s σ H Q I h;refine uU (Xk I hg hm hv ?_ hn hdb);exact PyProof.Rows.callWith_builtin1 (ik (ha pos pins s σ H _ I h) λus s1 ⟨vs,H1,I1,r1,q1⟩=>hc pins s1 σ H1 vs us Q I1 r1 q1) he hpl
theorem Sb (hc:jB X (.type T) r)(hg:Gl X x)(hm:X.mg x=none)(hv:bootBuiltins x=some (.type T))(ha:PA X (e::es) t)(hn:x≠"__name__":=by decide) (hdb:(x == ("__debug__":Str))=false:=by decide) (he:SE X e es:=by rfl) (hpl:(backTo pos (starEach es X.env)).any (·.1)=false:=by rfl):PE X (.Call (.Name x p) (e::es) [] pos) (oE r t):=by intro pins s σ H Q I h;refine uU (Xk I hg hm hv ?_ hn hdb);exact PyProof.Rows.callWith_type1 (ik (ha pos pins s σ H _ I h) λus s1 ⟨vs,H1,I1,r1,q1⟩=>hc pins s1 σ H1 vs us Q I1 r1 q1) he hpl
end
end L2
namespace HT
open PySem PyProof.Rows
section
open PySem.SeqAt
open PySem.AutoSeq1 (wpAny_loadPart')
open PySem.MeetsSeq PySem.MeetsSeq2 PySem.MeetsSeq3
end
section
variable {prog:Program} {w:World} {A:Around} {E:fL} {s:Shared}
theorem NJ {vs ws:Lg}(ht:IsTup s.heap t vs.toArray)(hb:IsTup s.heap b ws.toArray)(hv:vs≠[]) (h1:ws=[]->Q (.ref t) s) (h2:ws≠[]->Q (.ref s.heap.objs.size) { s with heap:=s.heap.push { cls:=.type "tuple",data:=.seq (vs++ws).toArray } }) (hsz:vs.length+ws.length<=sizeLine):wpAny (model prog w) A (binaryOp .Add (.ref t) (.ref b)) Q E s:=by
 obtain⟨⟨cls,dd,data,sl⟩,ho,hc,n,hd⟩:=id ht;obtain⟨⟨cls2,dd2,data2,sl2⟩,ho2,hc2,n2,hd2⟩:=id hb;simp only at hc hd hc2 hd2;subst hc hd hc2 hd2;have e:vs.toArray++ws.toArray=(vs++ws).toArray:=by simp
 by_cases hw:ws=[]
 ·exact Gz ⟨_,ho,rfl⟩ ⟨_,ho2,rfl⟩ gR Gn gU gJ (gA _ _)
   (tuple_addW1 t b vs.toArray ws.toArray n n2 dd dd2 sl sl2 (by simpa using hv) (by simp [hw])) ⟨ho,ho2,h1 hw⟩
 ·refine Gz ⟨_,ho,rfl⟩ ⟨_,ho2,rfl⟩ gR Gn gU gJ (gA _ _)
   (tuple_addW2 t b vs.toArray ws.toArray n n2 dd dd2 sl sl2 (by simpa using hv) (by simpa using hw) (by rw [uh,uh];exact hsz)) ⟨ho,ho2,?_⟩
  rw [e]
  exact h2 hw
def iE (n d:Nat):Option Int->Nat
 | none=>d
 | some v=>if v<0 then(v+(n:Int)).toNat else min v.toNat n
theorem mH (n d:Nat):iE n d none=d:=rfl
theorem LD (n d:Nat)(hd:d<=n)(o:Option Int):iE n d o<=n:=by
 cases o with
 | none=>exact hd
 | some v=>
  show(if v<0 then(v+(n:Int)).toNat else min v.toNat n)<=n;by_cases hv:v<0
  ·rw [ue hv];lia
  ·rw [ub hv];exact Nat.min_le_right _ _
theorem ES (v:Int)(n d:Nat):(if v<0 then max (v+(n:Int)) 0 else min v (n:Int))=((iE n d (some v):Nat):Int):=by
 show(if v<0 then max (v+(n:Int)) 0 else min v (n:Int))=(((if v<0 then(v+(n:Int)).toNat else min v.toNat n):Nat):Int)
 by_cases hv:v<0
 ·simp only [ue hv];lia
 ·simp only [ub hv];lia
theorem za7 (lo hi:Option Int)(n:Nat):Builtin.Slice.sliceAdjust lo hi 1 (n:Int)=(((iE n 0 lo:Nat):Int),((iE n n hi:Nat):Int)):=by
 have h1:¬ ((1:Int)<0):=by lia
 unfold Builtin.Slice.sliceAdjust;simp only [h1,Gh];refine gF ?_ ?_
 ·cases lo with
  | none=>rfl
  | some v=>exact ES v n 0
 ·cases hi with
  | none=>rfl
  | some v=>exact ES v n n
theorem za8 (i j:Nat):Builtin.Slice.slicePlaces (i:Int) (j:Int) 1=j - i:=by
 unfold Builtin.Slice.slicePlaces;have h1:(1:Int) > 0:=by lia
 simp only [h1,if_true,Int.ediv_one];split<;>lia
theorem Xs (p:IsPart v o)(h:Q o s):wpAny (model prog w) A (Builtin.Slice.slicePartIndex v) Q E s:=by
 cases p with
 | none=>exact GS h
 | int i t=>exact slicePart_int h
theorem kj {sl:Addr}{vl vu:Value}{lo hi:Option Int}{n:Nat}{Q:Int×Int×Nat->Shared->Prop}(hs:s.heap.IsSliceOf sl vl vu .none)(pl:IsPart vl lo)(pu:IsPart vu hi) (h:Q (((iE n 0 lo:Nat):Int),1,iE n n hi - iE n 0 lo) s):wpAny (model prog w) A (Builtin.Slice.sliceApplied (.ref sl) (pure (n:Int))) Q E s:=by obtain⟨os,hos,hcs,hds⟩:=id hs;unfold Builtin.Slice.sliceApplied Builtin.Slice.sliceFields;refine ua (ua (uK hos hds (x:=vl) rfl (ua (uK hos hds (x:=vu) rfl (ua (uK hos hds (x:=.none) rfl (ud ?_)))))));refine ua (GS ?_);show wpAny _ _ (if ((1:Int) == 0)=true then _ else _) _ _ s;rw [ub (by decide)];refine ua (Xs pl (ua (Xs pu (ua (ud ?_)))));show wpAny _ _ (match Builtin.Slice.sliceAdjust lo hi 1 (n:Int) with | (lo,hi)=>pure (lo,(1:Int),Builtin.Slice.slicePlaces lo hi 1)) _ _ s;rw [za7 lo hi n];show wpAny _ _ (pure (((iE n 0 lo:Nat):Int),(1:Int),Builtin.Slice.slicePlaces ((iE n 0 lo:Nat):Int) ((iE n n hi:Nat):Int) 1)) _ _ s;rw [za8];exact ud h
theorem RA (xs:Array Value)(i k:Nat):((List.range k).filterMap λ(m:Nat)=>xs[((i:Int)+(m:Int) * 1).toNat]?).toArray=((xs.toList.drop i).take k).toArray:=by
 have e:(λ(m:Nat)=>xs[((i:Int)+(m:Int) * 1).toNat]?)=λm=>xs[i+m]?:=by
  funext m;have:((i:Int)+(m:Int) * 1).toNat=i+m:=by lia
  rw [this]
 rw [e];have:=pick_run xs i k;rw [List.filterMap_map] at this;have e2:((λx=>xs[x]?) ∘ λx=>i+x)=λm=>xs[i+m]?:=rfl;rw [e2] at this;rw [this]
theorem Jl {t sl:Addr}{items:Array Value}{vl vu:Value}{lo hi:Option Int}{Q:fL}(ht:IsTup s.heap t items)(hs:s.heap.IsSliceOf sl vl vu .none)(pl:IsPart vl lo)(pu:IsPart vu hi) (hw:¬ (iE items.size 0 lo=0/\iE items.size items.size hi=items.size)) (h:Q (.ref s.heap.objs.size) { s with heap:=s.heap.push { cls:=.type "tuple",data:=.seq ((items.toList.drop (iE items.size 0 lo)).take (iE items.size items.size hi - iE items.size 0 lo)).toArray } }) (hsz:items.size<=sizeLine):wpAny (model prog w) A (getItem (.ref t) (.ref sl)) Q E s:=by
 have htake:sizeOk (.seq ((items.toList.drop (iE items.size 0 lo)).take (iE items.size items.size hi - iE items.size 0 lo)).toArray):=by show((items.toList.drop (iE items.size 0 lo)).take (iE items.size items.size hi - iE items.size 0 lo)).toArray.size<=sizeLine;rw [uh,Uq,gK,Gj];lia
 have hj:iE items.size items.size hi<=items.size:=LD _ _ (ui _) hi;obtain⟨os,hos,hcs,hds⟩:=id hs;have hTs:s.TypeIs (.ref sl) "slice":=⟨os,hos,hcs⟩
 unfold getItem
 try with_reducible refine u0 ?_
 first | refine ua (ud ?_) | skip
 refine ua (Hc ht.typeIs (by decide) ?_)
 refine ua (GQ (name:=Str.ofString "__getitem__") ht.typeIs PyProof.Rows.slot_tuple_getitem
  (wpAny_call_entry PyProof.Rows.slot_tuple_getitem ht.typeIs GH ?_ (GL _ _)))
 show wpAny _ _ (Builtin.Tuple.tupleItemsOf (.ref t) >>= _) _ _ s;refine ua (GX ht ?_);refine ua (gm hTs ?_);rw [ue (by decide)];refine ua (kj hs pl pu ?_);have hno:¬ ((((iE items.size 0 lo:Nat):Int) == 0&&(1:Int) == 1&&(iE items.size items.size hi - iE items.size 0 lo) == items.size)=true):=by intro q;rw [uH,uH] at q;have q1:((iE items.size 0 lo:Nat):Int)=0:=eq_of_beq q.1.1;have q2:iE items.size items.size hi - iE items.size 0 lo=items.size:=eq_of_beq q.2;exact hw ⟨by lia,by lia⟩
 show wpAny _ _ (if (((iE items.size 0 lo:Nat):Int) == 0&&(1:Int) == 1&&(iE items.size items.size hi - iE items.size 0 lo) == items.size)=true then _ else _) _ _ s;rw [ub hno,RA]
 first
  | exact ua (m:=Builtin.Tuple.tupleExact _) (Ux (ud ⟨_,rfl,ud h⟩) htake)
  | exact ua (m:=Builtin.Tuple.tupleExact _) (Ux (ua (ud (ud ⟨_,rfl,ud h⟩))) htake)
  | exact ua (ua (m:=Builtin.Tuple.tupleExact _) (Ux (ud (ud ⟨_,rfl,ud h⟩)) htake))
  | exact ua (ua (m:=Builtin.Tuple.tupleExact _) (Ux (ud ⟨_,rfl,ud h⟩) htake))
end
end HT
namespace L2
open PySem PySem.Spec PyProof.Rows
abbrev TO:=St->Hp->(Option Int->Hp->Prop)->Prop
def PO (X:Cx)(e:Option Expr)(t:TO):Prop:= ∀ (pins:Lp) (s:Shared) (σ:St) (H:Hp) (Q:Option Int->Hp->Prop),Inv X pins σ H s->t σ H Q -> fN X (evalPart e X.env) (λu s'=>∃ o H',Inv X pins σ H' s'/\IsPart u o/\Q o H') X.xe s
def WZ:TO:=λ_ H Q=>Q none H
def AW (t:TE):TO:=λσ H Q=>t σ H λx H1=>∃ i,x=.int i/\Q (some i) H1
section
variable {X:Cx} {e:Expr} {te:TE} {lo hi:Option Expr} {tl th:TO} {pos p2:Pos}
theorem NI:PO X none WZ:=by intro pins s σ H Q I h;rw [Gp];exact ud ⟨none,H,I,.none,h⟩
theorem ER (h:PE X e te):PO X (some e) (AW te):=by intro pins s σ H Q I hw;rw [evalPart_some];refine ik (h pins s σ H _ I hw) λu s1 zq=>?_;obtain⟨x,H1,I1,r1,q1⟩:=zq;obtain⟨i,rfl,q⟩:=q1;obtain⟨t,rfl⟩:=r1;exact⟨some i,H1,I1,.int i t,q⟩
def pP (X:Cx)(r:V->Option Int->Option Int->Hp->VK->Prop):Prop:= ∀ (pins:Lp) (s:Shared) (σ:St) (H:Hp) (x:V) (v vl vu:Value) (lo hi:Option Int) (sl:Addr) (Q:VK),Inv X pins σ H s->RelV x v->s.heap.IsSliceOf sl vl vu .none->IsPart vl lo->IsPart vu hi->r x lo hi H Q -> ∃ T id,typeLookup (.type T) "__getitem__" = pure (some (.builtin id))/\s.TypeIs v T/\fN X (getItem v (.ref sl)) (EP X pins σ Q) X.xe s
theorem pP.or (h:pP X r)(h':pP X r'):pP X (λx lo hi H Q=>r x lo hi H Q\/r' x lo hi H Q):=by
 intro pins s σ H x v vl vu lo hi sl Q I rx hs pl pu q;rcases q with q | q
 ·exact h pins s σ H x v vl vu lo hi sl Q I rx hs pl pu q
 ·exact h' pins s σ H x v vl vu lo hi sl Q I rx hs pl pu q
def BA (r:V->Option Int->Option Int->Hp->VK->Prop)(te:TE)(tl th:TO):TE:=λσ H Q=>te σ H λx H1=>tl σ H1 λl H2=>th σ H2 λu H3=>r x l u H3 Q
theorem Rz {r:V->Option Int->Option Int->Hp->VK->Prop}(hr:pP X r)(he:PE X e te)(hl:PO X lo tl)(hu:PO X hi th):PE X (.Subscript e (.Slice lo hi none p2) pos) (BA r te tl th):=by intro pins s σ H Q I h;refine Subscript_ (ik (he pins s σ H _ I h) λv s1 zq=>?_);obtain⟨x,H1,I1,r1,q1⟩:=zq;refine wpAny_Slice (ik (hl pins s1 σ H1 _ I1 q1) λvl s2 ⟨l,H2,I2,pl,q2⟩=>ik (hu pins s2 σ H2 _ I2 q2) λvu s3 zq=>?_);obtain⟨u,H3,I3,pu,q3⟩:=zq;rw [Gp];refine ud ?_;have I4:Inv X pins σ H3 { s3 with heap:=s3.heap.push { cls:=.type "slice",data:=.fields #[vl,vu,.none] } }:=I3.kept (t':=s3.toks) λb ob q=>uf _ q;obtain⟨T,id,hT,ht,hg⟩:=hr pins { s3 with heap:=s3.heap.push { cls:=.type "slice",data:=.fields #[vl,vu,.none] } } σ H3 x v vl vu l u s3.heap.objs.size Q I4 r1 (hV ..) pl pu q3;show fN X (subscriptTail e (.Slice lo hi none p2) v (.ref s3.heap.objs.size)) (EP X pins σ Q) X.xe { s3 with heap:=s3.heap.push { cls:=.type "slice",data:=.fields #[vl,vu,.none] } };exact g9 (ops:=[.ref s3.heap.objs.size,v]) ht hT hg (by with_unfolding_all rfl)
def me (xs:List V)(lo hi:Option Int):List V:=(xs.drop (HT.iE xs.length 0 lo)).take (HT.iE xs.length xs.length hi - HT.iE xs.length 0 lo)
theorem Kz (xs:List V)(lo hi:Option Int):(me xs lo hi).length<=xs.length:=by unfold me;rw [Uq,gK];lia
def BS (K:Lf):V->Option Int->Option Int->Hp->VK->Prop:=λx lo hi H Q=>∃ a xs,x=.ref a/\f7 K H a xs /\ ¬ (HT.iE xs.length 0 lo=0/\HT.iE xs.length xs.length hi=xs.length)/\∀ p,H p=none->Q (.ref p) (upd H p (.tup (me xs lo hi)))
theorem LC:pP X (BS X.K):=by
 intro pins s σ H x v vl vu lo hi sl Q I rx hs pl pu h;obtain⟨a,xs,rfl,hx,hw,q⟩:=h;cases rx;obtain⟨fX,r,ht,hz⟩:=I.tuple hx;have hlen:fX.toArray.size=xs.length:=by rw [uh];exact r.length.symm
 refine⟨"tuple",_,PyProof.Rows.slot_tuple_getitem.lookup,ht.typeIs,?_⟩;refine HT.Jl ht hs pl pu (by rw [hlen];exact hw) ?_ (by rw [hlen];exact hz);rw [hlen];refine⟨.ref s.heap.objs.size,_,I.laid (t':=s.toks) (o:=.tup (me xs lo hi)) (λb ob q=>uf _ q) (ui _) ?_,rfl,q _ (I.hok.fresh (ui _))⟩;exact⟨uJ (Kz xs lo hi) hz,_,(r.drop (HT.iE xs.length 0 lo)).take (HT.iE xs.length xs.length hi - HT.iE xs.length 0 lo),IsTup.new _ _⟩
def F9 (K:Lf):R2:=λx y H Q=>∃ a b xs ys,x=.ref a/\y=.ref b/\f7 K H a xs/\f7 K H b ys/\xs≠[]/\xs.length+ys.length<=sizeLine /\ (ys=[]->Q (.ref a) H)/\(ys≠[]->∀ p,H p=none->Q (.ref p) (upd H p (.tup (xs++ys))))
theorem Vals.nil_iff (r:Vals xs us):us=[]↔xs=[]:=by
 cases r with
 | nil=>simp
 | cons _ _=>simp
theorem NH:iM X (binaryOp .Add) (F9 X.K):=by intro pins s σ H x y v u Q I rx ry h;obtain⟨a,b,xs,ys,rfl,rfl,ha,hb,hx,hz,q1,q2⟩:=h;cases rx;cases ry;obtain⟨fX,r1,p1,_⟩:=I.tuple ha;obtain⟨its2,r2,p2,_⟩:=I.tuple hb;refine HT.NJ p1 p2 (λz=>hx (r1.nil_iff.mp z)) (λz=>⟨.ref a,H,I,rfl,q1 (r2.nil_iff.mp z)⟩) (λz=>?_) (by rw [← r1.length,← r2.length];exact hz);refine⟨.ref s.heap.objs.size,_,I.laid (t':=s.toks) (o:=.tup (xs++ys)) (λb ob q=>uf _ q) (ui _) ?_,rfl,q2 (λw=>z (r2.nil_iff.mpr w)) _ (I.hok.fresh (ui _))⟩;exact⟨by rw [uc];exact hz,_,r1.append r2,IsTup.new _ _⟩
end
def pe (n:Nat)(i:Int):Option Nat:=if 0<=i then(if i<n then some i.toNat else none) else if -(n:Int)<=i then some (i+n).toNat else none
def lQ {α:Type}(xs:List α)(i:Int):Option α:=(pe xs.length i).bind λj=>xs[j]?
theorem EO (h:pe n i=some j):seqIndex? i n=some j/\j<n/\-(n:Int)<=i/\i<n:=by
 unfold pe at h;by_cases h0:0<=i
 ·rw [ue h0] at h;by_cases h1:i<n
  ·rw [ue h1] at h;have e:i.toNat=j:=uG h;exact⟨by rw [GI h0 h1,e],by lia,by lia,h1⟩
  ·rw [ub h1] at h;cases h
 ·rw [ub h0] at h;by_cases h1:-(n:Int)<=i
  ·rw [ue h1] at h;have e:(i+n).toNat=j:=uG h;exact⟨by rw [GB (by lia) h1,e],by lia,h1,by lia⟩
  ·rw [ub h1] at h;cases h
theorem V9 {α:Type}{xs:List α}{i:Int}{v:α}(h:lQ xs i=some v):∃ j,seqIndex? i xs.length=some j/\xs[j]? = some v/\j<xs.length/\-(xs.length:Int)<=i/\i<xs.length:=by
 unfold lQ at h;cases e:pe xs.length i with
 | none=>rw [e] at h;cases h
 | some j=>rw [e] at h;obtain⟨h1,h2,h3,h4⟩:=EO e;exact⟨j,h1,h,h2,h3,h4⟩
theorem NG {α:Type}{xs:List α}{j:Nat}{v:α}(h:xs[j]? = some v):lQ xs (j:Int)=some v:=by
 have hj:j<xs.length:=(uA.mp h).1;have e:pe xs.length (j:Int)=some j:=by unfold pe;rw [ue (by lia),ue (by lia)];simp
 unfold lQ;rw [e];exact h
def W0 (b:Expr):Prop:=∀ o i,subscripted b false o i=operate [o,i] (getItem o i)
def nR (X:Cx)(r:R2):Prop:= ∀ (value slice:Expr) (pins:Lp) (s:Shared) (σ:St) (H:Hp) (x y:V) (v u:Value) (Q:VK),Inv X pins σ H s->RelV x v->RelV y u->r x y H Q -> subscripted slice false v u=operate [v,u] (getItem v u)->fN X (subscriptTail value slice v u) (EP X pins σ Q) X.xe s
def oy (X:Cx)(id:String)(r:V->List V->Hp->VK->Prop):Prop:= ∀ (pins:Lp) (s:Shared) (σ:St) (H:Hp) (x:V) (xs:List V) (v:Value) (us:Lg) (Q:VK),Inv X pins σ H s->RelV x v->Vals xs us->r x xs H Q -> fN X (call (.builtin id) (v::us)) (EP X pins σ Q) X.xe s
section
variable {X:Cx} {a b:Expr} {ta tb:TE} {pos:Pos}
theorem nR.or (h:nR X r)(h':nR X r'):nR X (λx y H Q=>r x y H Q\/r' x y H Q):=by
 intro value slice pins s σ H x y v u Q I rx ry q hs;rcases q with q | q
 ·exact h value slice pins s σ H x y v u Q I rx ry q hs
 ·exact h' value slice pins s σ H x y v u Q I rx ry q hs
theorem oy.or {id:String}{r r':V->List V->Hp->VK->Prop}(h:oy X id r)(h':oy X id r'):oy X id (λx xs H Q=>r x xs H Q\/r' x xs H Q):=by
 intro pins s σ H x xs v us Q I rx rs q;rcases q with q | q
 ·exact h pins s σ H x xs v us Q I rx rs q
 ·exact h' pins s σ H x xs v us Q I rx rs q
theorem F4 (hr:nR X r)(ha:PE X a ta)(hb:PE X b tb)(hs:W0 b):PE X (.Subscript a b pos) (nv r ta tb):=by intro pins s σ H Q I h;exact Subscript_ (rK ha hb I h λv u s2 x y H2 I2 rx ry q=>hr a b pins s2 σ H2 x y v u Q I2 rx ry q (hs _ _))
def oU (K:Lf):R2:=λx y H Q=>∃ p xs i v,x=.ref p/\y=.int i/\ij K H p xs/\lQ xs i=some v/\Q v H
def oS (K:Lf):R2:=λx y H Q=>∃ p xs i v,x=.ref p/\y=.int i/\f7 K H p xs/\lQ xs i=some v/\Q v H
def BU:R2:=λx y H Q=>∃ z i c,x=.str z/\y=.int i/\z.length<=sizeLine/\lQ z.cps.toList i=some c/\Q (.str ⟨#[c]⟩) H
theorem NF:nR X (oU X.K):=by
 intro value slice pins s σ H x y v u Q I rx ry h hs;obtain⟨p,xs,i,z,rfl,rfl,hq,he,q⟩:=h;cases rx;obtain⟨t,rfl⟩:=ry;obtain⟨fX,r,pl,hz⟩:=I.list hq;obtain⟨j,h1,h2,h3,h4,h5⟩:=V9 he;obtain⟨w,ew,rw'⟩:=r.get h2;have hl:=r.length;have hn:=Qw;have fin:EP X pins σ Q w s:=⟨z,H,I,rw',q⟩
 by_cases h0:0<=i
 ·have hj:i.toNat=j:=by
   rw [GI h0 h5] at h1
   exact uG h1
  exact item_listR pl.isList h0 (by lia) (by rw [hj];simpa using ew) fin hs
 ·have hj:(i+(fX.toArray.size:Int)).toNat=j:=by
   rw [GB (by lia) h4] at h1
   rw [uh,← hl]
   exact uG h1
  exact Gv (x:=w) pl.isList.typeIs slot_list_getitem.lookup
   (wpAny_getItem_list_neg (Q:=λr s'=>r=w/\EP X pins σ Q r s') pl.isList (by lia) (by rw [uh]<;>lia) (by lia) (by rw [hj];simpa using ew) ⟨rfl,fin⟩) hs
theorem LA:nR X (oS X.K):=by
 intro value slice pins s σ H x y v u Q I rx ry h hs;obtain⟨p,xs,i,z,rfl,rfl,hq,he,q⟩:=h;cases rx;obtain⟨t,rfl⟩:=ry;obtain⟨fX,r,pl,hz⟩:=I.tuple hq;obtain⟨j,h1,h2,h3,h4,h5⟩:=V9 he;obtain⟨w,ew,rw'⟩:=r.get h2;have hl:=r.length;have hn:=Qw;have fin:EP X pins σ Q w s:=⟨z,H,I,rw',q⟩
 exact Gv (x:=w) pl.typeIs slot_tuple_getitem.lookup
  (getItem_tuple (j:=j) (Q:=λr s'=>r=w/\EP X pins σ Q r s') pl (by lia) (by lia) (by rw [uh,← hl];exact h1) (by simpa using ew) ⟨rfl,fin⟩) hs
theorem Lz:nR X BU:=by
 intro value slice pins s σ H x y v u Q I rx ry h hs;obtain⟨z,i,c,rfl,rfl,hz,he,q⟩:=h;obtain⟨t,rfl⟩:=rx;obtain⟨t',rfl⟩:=ry;obtain⟨j,h1,h2,h3,h4,h5⟩:=V9 he;have hl:z.cps.toList.length=z.length:=by simp [Str.length]
 rw [hl] at h1 h4 h5;have hn:=Qw
 exact g9 (typeIs_str s z t) slot_str_getitem.lookup (getItem_str (c:=c) (by
  have e1:decide (i < -(2 ^ 63:Int))=false:=uF (by lia)
  have e2:decide (i ≥ 2 ^ 63)=false:=uF (by lia)
  rw [e1,e2,Bool.or_false]) (by rw [h1];simpa using h2) ⟨.str ⟨#[c]⟩,H,I.tok _,⟨_,rfl⟩,q⟩) hs
theorem za9 (fX:Lg)(n j:Nat)(u:Value):Obj.mapSeq (·.setIfInBounds j u) { cls:=.type "list",data:=.seq fX.toArray n }={ cls:=.type "list",data:=.seq (fX.set j u).toArray n }:=by simp [Obj.mapSeq]
theorem Inv.lst {pins:Lp}{s:Shared}{xs:List V}(I:Inv X pins σ H s)(h:H p=some (.lst xs)) : ∃ (fX:Lg) (n:Nat),Vals xs fX/\s.heap.get? p=some { cls:=.type "list",data:=.seq fX.toArray n }/\xs.length<=sizeLine:=by obtain⟨z,fX,n,r,e⟩:=I.hok p _ h;exact⟨fX,n,r,e,z⟩
theorem Inv.lstUpd {pins:Lp}{s:Shared}{xs ys:List V}{fX its':Lg}(I:Inv X pins σ H s)(h:H p=some (.lst xs)) (ho:s.heap.get? p=some { cls:=.type "list",data:=.seq fX.toArray n }) (hf:f { cls:=.type "list",data:=.seq fX.toArray n }={ cls:=.type "list",data:=.seq its'.toArray n' }) (r:Vals ys its') (hz:ys.length<=sizeLine) (t:Nat) : Inv X pins σ (upd H p (.lst ys)) { s with heap:=s.heap.update p f,toks:=t }:=by
 have e:(s.heap.update p f).get? p=some { cls:=.type "list",data:=.seq its'.toArray n' }:=by rw [uT f ho (by rw [hf]<;>rfl),hf]
 refine I.write (x:=p) (e:=p) (by rw [h];trivial) (.inl rfl) (λb u hb q=>(uy _ _ (Ne.symm hb)).trans q) ⟨_,e⟩ ?_;exact⟨hz,its',n',r,e⟩
def DR:V->V->V->Hp->(Hp->Prop)->Prop:=λo i v H Q=>∃ p xs k j,o=.ref p/\i=.int k/\H p=some (.lst xs)/\pe xs.length k=some j/\Q (upd H p (.lst (xs.set j v)))
theorem set_list:rW X DR:=by
 intro pins s σ H o i v ov iv u Q I ro ri rv h;obtain⟨p,xs,k,j,rfl,rfl,hp,hj,q⟩:=h;cases ro;obtain⟨t,rfl⟩:=ri;obtain⟨fX,n,r,ho,hz⟩:=I.lst hp;obtain⟨h1,h2,h3,h4⟩:=EO hj;have hl:=r.length;have hn:=Qw
 have I':Inv X pins σ (upd H p (.lst (xs.set j v))) { s with heap:=s.heap.update p (Obj.mapSeq (·.setIfInBounds j u)) }:=
  I.lstUpd hp ho (za9 fX n j u) (r.set rv j) (by rw [List.length_set];exact hz) s.toks
 by_cases h0:0<=k
 ·have hk:k.toNat=j:=by
   rw [GI h0 h4] at h1
   exact uG h1
  exact PySem.W.ki_setAt ho h0 (by lia) (by rw [uh,← hl];exact h4) (by rw [hk];exact⟨_,I',q⟩)
 ·have hk:(k+(fX.toArray.size:Int)).toNat=j:=by
   rw [GB (by lia) h3] at h1
   rw [uh,← hl]
   exact uG h1
  exact PySem.W.ki_setBack ho (by lia) (by rw [uh,← hl];exact h3) (by lia) (by rw [hk];exact⟨_,I',q⟩)
def zR:V->Bool
 | .non=>true
 | .bl _=>true
 | .int _=>true
 | .str _=>true
 | _=>false
def mZ:V->V->Bool
 | .non,.non=>true
 | .bl a,.bl b=>a == b
 | .bl a,.int b=>(if a then 1 else 0) == b
 | .int a,.bl b=>a == (if b then 1 else 0)
 | .int a,.int b=>a == b
 | .str a,.str b=>a == b
 | _,_=>false
theorem Bh (ry:RelV y u)(rx:RelV x v)(fy:zR y=true)(fx:zR x=true):SeqAt.EqAt A s u v (mZ y x):=by
 cases y with
 | non=>
  cases ry;cases x with
  | non=>cases rx;exact SeqAt.EqAt.same _
  | bl b=>cases rx;exact SeqAt.EqAt.none_bool b
  | int b=>obtain⟨t,rfl⟩:=rx;exact SeqAt.EqAt.none_int b t
  | str b=>obtain⟨t,rfl⟩:=rx;exact SeqAt.EqAt.none_str b t
  | _=>exact absurd (show false=true from fx) uD
 | bl a=>
  cases ry;cases x with
  | non=>cases rx;exact SeqAt.EqAt.bool_none a
  | bl b=>cases rx;exact SeqAt.EqAt.bool_bool a b
  | int b=>obtain⟨t,rfl⟩:=rx;exact SeqAt.EqAt.bool_int a b t
  | str b=>obtain⟨t,rfl⟩:=rx;exact SeqAt.EqAt.bool_str a b t
  | _=>exact absurd (show false=true from fx) uD
 | int a=>
  obtain⟨t',rfl⟩:=ry;cases x with
  | non=>cases rx;exact SeqAt.EqAt.int_none a t'
  | bl b=>cases rx;exact SeqAt.EqAt.int_bool a t' b
  | int b=>obtain⟨t,rfl⟩:=rx;exact SeqAt.EqAt.int_int a t' b t
  | str b=>obtain⟨t,rfl⟩:=rx;exact SeqAt.EqAt.int_str a t' b t
  | _=>exact absurd (show false=true from fx) uD
 | str a=>
  obtain⟨t',rfl⟩:=ry;cases x with
  | non=>cases rx;exact SeqAt.EqAt.str_none a t'
  | bl b=>cases rx;exact SeqAt.EqAt.str_bool a t' b
  | int b=>obtain⟨t,rfl⟩:=rx;exact SeqAt.EqAt.str_int a t' b t
  | str b=>obtain⟨t,rfl⟩:=rx;exact SeqAt.EqAt.str_str a t' b t
  | _=>exact absurd (show false=true from fx) uD
 | _=>exact absurd (show false=true from fy) uD
def m9 (x:V)(u:Value):Bool:=match u with
 | .none=>mZ .non x
 | .bool b=>mZ (.bl b) x
 | .int i _=>mZ (.int i) x
 | .str z _=>mZ (.str z) x
 | _=>false
theorem DQ (r:RelV y u)(f:zR y=true):m9 x u=mZ y x:=by
 cases y with
 | non=>cases r;rfl
 | bl b=>cases r;rfl
 | int i=>obtain⟨t,rfl⟩:=r;rfl
 | str z=>obtain⟨t,rfl⟩:=r;rfl
 | _=>exact absurd (show false=true from f) uD
theorem Jm:∀ {xs:List V} {us:Lg},Vals xs us->xs.all zR=true->us.any (m9 x)=xs.any λy=>mZ y x
 | _,_,.nil,_=>rfl
 | y::xs,u::us,.cons r t,f=>by rw [Gw,uH] at f;rw [U9,U9,DQ r f.1,Jm t f.2]
theorem ZA (rx:RelV x v)(fx:zR x=true):∀ {xs:List V} {us:Lg},Vals xs us->xs.all zR=true->∀ u∈us,SeqAt.EqAt A s u v (m9 x u)
 | _,_,.nil,_=>λu hu=>by cases hu
 | y::xs,u::us,.cons r t,f=>λu' hu=>by
  rw [Gw,uH] at f;rcases uq.mp hu with rfl | hu
  ·rw [DQ r f.1];exact Bh r rx f.1 fx
  ·exact ZA rx fx t f.2 u' hu
def rB (x:V)(xs:List V):Bool:=xs.any λy=>mZ y x
def sL (K:Lf)(neg:Bool):R2:=λx y H Q=>∃ p xs,y=.ref p/\(ij K H p xs\/f7 K H p xs)/\zR x=true/\xs.all zR=true/\Q (.bl (if neg then !rB x xs else rB x xs)) H
theorem Sa:iM X (compareOp .In) (sL X.K false):=by
 intro pins s σ H x y v u Q I rx ry h;obtain⟨p,xs,rfl,hq,fx,fs,q⟩:=h;cases ry;rcases hq with hq | hq
 ·obtain⟨fX,r,pl,hz⟩:=I.list hq;refine SeqAt.in_listAt (m9 x) pl.isList (λw hw=>ZA rx fx r fs w (by simpa using hw)) ⟨.bl _,H,I,rfl,?_⟩;rw [show fX.toArray.any (m9 x)=fX.any (m9 x) by simp,Jm r fs];exact q
 ·obtain⟨fX,r,pl,hz⟩:=I.tuple hq;refine SeqAt.in_tupleAt (m9 x) pl (λw hw=>ZA rx fx r fs w (by simpa using hw)) ⟨.bl _,H,I,rfl,?_⟩;rw [show fX.toArray.any (m9 x)=fX.any (m9 x) by simp,Jm r fs];exact q
theorem Yb:iM X (compareOp .NotIn) (sL X.K true):=by
 intro pins s σ H x y v u Q I rx ry h;obtain⟨p,xs,rfl,hq,fx,fs,q⟩:=h;cases ry;rcases hq with hq | hq
 ·obtain⟨fX,r,pl,hz⟩:=I.list hq;refine SeqAt.notIn_listAt (m9 x) pl.isList (λw hw=>ZA rx fx r fs w (by simpa using hw)) ⟨.bl _,H,I,rfl,?_⟩;rw [show fX.toArray.any (m9 x)=fX.any (m9 x) by simp,Jm r fs];exact q
 ·obtain⟨fX,r,pl,hz⟩:=I.tuple hq;refine SeqAt.notIn_tupleAt (m9 x) pl (λw hw=>ZA rx fx r fs w (by simpa using hw)) ⟨.bl _,H,I,rfl,?_⟩;rw [show fX.toArray.any (m9 x)=fX.any (m9 x) by simp,Jm r fs];exact q
theorem Yc:jB X (.builtin "len") (λxs H Q=>∃ p ys,xs=[.ref p]/\(ij X.K H p ys\/f7 X.K H p ys)/\Q (.int ys.length) H):=by
 intro pins s σ H xs us Q I r h;obtain⟨p,ys,rfl,hq,q⟩:=h;obtain⟨u,rfl,rx⟩:=vals1 r;cases rx;have hn:=Qw;rcases hq with hq | hq
 ·obtain⟨fX,r',pl,hz⟩:=I.list hq;have hlen:=r'.length;exact Calls.call_len_list pl.isList (by simp only [uh]<;>lia) ⟨.int ys.length,H,I.tok _,⟨s.toks+1,by rw [uh,hlen]⟩,q⟩
 ·obtain⟨fX,r',pl,hz⟩:=I.tuple hq;have hlen:=r'.length;exact len_tuple pl (by simp only [uh]<;>lia) ⟨.int ys.length,H,I.tok _,⟨s.toks+1,by rw [uh,hlen]⟩,q⟩
theorem Yd:jB X (.builtin "len") (λxs H Q=>∃ z,xs=[.str z]/\z.length<=sizeLine/\Q (.int z.length) H):=by intro pins s σ H xs us Q I r h;obtain⟨z,rfl,hz,q⟩:=h;obtain⟨u,rfl,t,rfl⟩:=vals1 r;have hn:=Qw;exact len_str (by lia) ⟨.int z.length,H,I.tok _,⟨_,rfl⟩,q⟩
theorem jB.or (h:jB X f r)(h':jB X f r'):jB X f (λxs H Q=>r xs H Q\/r' xs H Q):=by
 intro pins s σ H xs us Q I rs q;rcases q with q | q
 ·exact h pins s σ H xs us Q I rs q
 ·exact h' pins s σ H xs us Q I rs q
theorem Ye:jB X (.type "list") (λxs H Q=>∃ p ys,xs=[.ref p]/\(ij X.K H p ys\/f7 X.K H p ys)/\∀ l,H l=none->Q (.ref l) (upd H l (.lst ys))):=by
 intro pins s σ H xs us Q I r h;obtain⟨p,ys,rfl,hq,q⟩:=h;obtain⟨u,rfl,rx⟩:=vals1 r;cases rx
 have fin:∀ (fX:Lg),Vals ys fX->ys.length<=sizeLine->∀ (h':Heap) (c':Nat),(∀ b o',s.heap.get? b=some o'->h'.get? b=some o') ->
   h'.get? s.heap.objs.size=some { cls:=.type "list",dict:=none,data:=.seq fX.toArray c',slots:=#[] }->EP X pins σ Q (.ref s.heap.objs.size) { s with heap:=h' }:=λfX r' hz h' c' kp e=>
  ⟨.ref s.heap.objs.size,_,I.laid (t':=s.toks) kp (ui _) (show qA X.prog X.w _ h' _ (.lst ys) from⟨hz,fX,c',r',e⟩),rfl,q _ (I.hok.fresh (ui _))⟩
 rcases hq with hq | hq
 ·obtain⟨fX,r',pl,hz⟩:=I.list hq;have hlen:=r'.length;obtain⟨o,ho,hc,n,hd⟩:=pl.isList;exact call_list_seq p (.inl rfl) ho hc hd (λh' c' kp e=>fin fX r' hz h' c' kp e) (by simp only [uh]<;>lia)
 ·obtain⟨fX,r',pl,hz⟩:=I.tuple hq;have hlen:=r'.length;obtain⟨o,ho,hc,n,hd⟩:=pl;exact call_list_seq p (.inr rfl) ho hc hd (λh' c' kp e=>fin fX r' hz h' c' kp e) (by simp only [uh]<;>lia)
def se (K:Lf)(T:String)(x:V)(H:Hp):Prop:=match x with
 | .str _=>T="str"
 | .int _=>T="int"
 | .ref p=>(T="list"/\∃ xs,ij K H p xs)\/(T="tuple"/\∃ o,K.lookup p=some o/\o.cls=.type "tuple"/\o.dict=none) \/
   (T="dict"/\((∃ kvs,H p=some (.dK kvs))\/∃ kvs,H p=some (.dT kvs)))\/(T="set"/\∃ S n,H p=some (.set S n))
 | _=>False
theorem DP {pins:Lp}{s:Shared}(I:Inv X pins σ H s)(r:RelV x v)(ty:se X.K T x H) : s.TypeIs v T/\∀ a,v=.ref a->∃ ob,s.heap.get? a=some ob/\ob.dict=none:=by
 cases x with
 | str z=>obtain⟨t,rfl⟩:=r;cases (show T="str" from ty);exact⟨typeIs_str s z t,λ_ e=>nomatch e⟩
 | int i=>obtain⟨t,rfl⟩:=r;cases (show T="int" from ty);exact⟨typeIs_int s i t,λ_ e=>nomatch e⟩
 | ref p=>
  cases r;rcases ty with⟨rfl,xs,hq⟩ | ⟨rfl,o,hk,hc,hd⟩ | ⟨rfl,hk⟩ | ⟨rfl,S,n,hk⟩
  ·obtain⟨fX,_,pl,_⟩:=I.list hq;refine⟨pl.isList.typeIs,λa e=>?_⟩;cases e;obtain⟨o,n,e,c,hd,_⟩:=pl;exact⟨o,e,hd⟩
  ·refine⟨⟨o,I.kIn p o hk,hc⟩,λa e=>?_⟩;cases e;exact⟨o,I.kIn _ o hk,hd⟩
  ·have z:∃ o,s.heap.get? p=some o/\o.ExactDict:=by
    rcases hk with⟨kvs,hk⟩ | ⟨kvs,hk⟩
    ·obtain⟨_,_,_,_,o,_,_,e,ex,_⟩:=I.hok p _ hk
     exact⟨o,e,ex⟩
    ·obtain⟨_,_,_,_,o,_,_,e,ex,_⟩:=I.hok p _ hk
     exact⟨o,e,ex⟩
   obtain⟨o,e,ex⟩:=z
   refine⟨⟨o,e,ex.1⟩,λa e2=>?_⟩
   cases e2
   exact⟨o,e,ex.2.1⟩
  ·obtain⟨o,_,_,_,e,ex,_⟩:=I.hok p _ hk;refine⟨⟨o,e,ex.1⟩,λa e2=>?_⟩;cases e2;exact⟨o,e,ex.2.1⟩
 | _=>exact False.elim ty
def oO (K:Lf)(T:String)(r:V->List V->Hp->VK->Prop)(to:TE):TE:=λσ H Q=>to σ H λx H1=>se K T x H1/\r x [] H1 Q
def t6 (K:Lf)(T:String)(r:V->List V->Hp->VK->Prop)(to:TE)(t:TA):TE:=λσ H Q=>to σ H λx H1=>se K T x H1/\t σ H1 λxs H2=>r x xs H2 Q
variable {o e:Expr} {es:Lh} {to:TE} {t:TA} {name:Str} {apos cpos:Pos} {T id:String} {r:V->List V->Hp->VK->Prop}
theorem Ly (pa:PlainAttrs T)(slot:Slot T name id)(hty:typeOf (.builtin id)=pure (.type "method_descriptor"))(hm:oy X id r)(ho:PE X o to) (hbase:attributeBase o name X.env (eval o X.env)=eval o X.env:=by rfl) (hline:(apos.endLine == cpos.line)=true:=by rfl):PE X (.Call (.Attribute o name apos) [] [] cpos) (oO X.K T r to):=by intro pins s σ H Q I h;refine wpAny_Call_method0_late hbase hline (ik (ho pins s σ H _ I h) λv s1 zq=>?_);obtain⟨x,H1,I1,r1,ty,q1⟩:=zq;obtain⟨h1,h2⟩:=DP I1 r1 ty;exact⟨T,id,pa,slot,hty,h1,h2,Calls.callWith_builtin rfl (PySem.evalArgs_none (hm pins s1 σ H1 x [] v [] Q I1 r1 .nil q1))⟩
theorem F3 (pa:PlainAttrs T)(slot:Slot T name id)(hty:typeOf (.builtin id)=pure (.type "method_descriptor"))(hm:oy X id r)(ho:PE X o to)(ha:PA X (e::es) t) (hbase:attributeBase o name X.env (eval o X.env)=eval o X.env:=by rfl) (hfew:((backTo cpos (starEach (e::es) X.env)).all (λx=>!x.1)&&(backToKw cpos (keywordEach [] X.env)).all (λx=>x.1.isSome) && decide ((e::es).length+([]:List Keyword).length+(if ([]:List Keyword).isEmpty then 0 else 1)<30))=true:=by rfl) (hline:(apos.endLine == cpos.line)=true:=by rfl) (hs:SE X e es:=by rfl) (hplain:(backTo cpos (starEach es X.env)).any (·.1)=false:=by rfl) : PE X (.Call (.Attribute o name apos) (e::es) [] cpos) (t6 X.K T r to t):=by intro pins s σ H Q I h;refine wpAny_Call_method_late hbase hfew hline rfl (ik (ho pins s σ H _ I h) λv s1 zq=>?_);obtain⟨x,H1,I1,r1,ty,q1⟩:=zq;obtain⟨h1,h2⟩:=DP I1 r1 ty;refine⟨T,id,pa,slot,hty,h1,h2,?_⟩;have hA:=ha cpos pins s1 σ H1 _ I1 q1;rw [hs] at hA ⊢;refine Calls.callWith_builtin (by show(false||(backTo cpos (starEach es X.env)).any (·.1))=false;rw [hplain]<;>rfl) (Calls.evalArgs_plain ?_);exact ik hA λus s2 ⟨vs,H2,I2,r2,q2⟩=>hm pins s2 σ H2 x vs v us Q I2 r1 r2 q2
end
def C1 (X:Cx)(id:String)(r:V->List V->Hp->VK->Prop):Prop:= ∀ (pins:Lp) (s:Shared) (σ:St) (H:Hp) (x:V) (xs:List V) (v:Value) (us:Lg) (Q:VK),Inv X pins σ H s->RelV x v->Vals xs us->r x xs H Q -> fN X (call (.builtin id) (v::us)) (EP X pins σ Q) X.xe s
theorem Vals.one:∀ {x:V} {us:Lg},Vals [x] us->∃ u,us=[u]/\RelV x u:=by intro x us h;cases h with | cons r z=>cases z;exact⟨_,rfl,r⟩
theorem Vals.two:∀ {x y:V} {us:Lg},Vals [x,y] us->∃ u v,us=[u,v]/\RelV x u/\RelV y v:=by intro x y us h;cases h with | cons r t=>cases t with | cons q z=>cases z;exact⟨_,_,rfl,r,q⟩
theorem Vals.zero:∀ {us:Lg},Vals [] us->us=[]
 | _,.nil=>rfl
theorem Vals.dropLast {xs:List V}{us:Lg}(h:Vals xs us):Vals xs.dropLast us.dropLast:=by
 induction h with
 | nil=>exact .nil
 | cons r t ih=>
  cases t with
  | nil=>exact .nil
  | cons q t'=>exact .cons r ih
theorem Vals.eraseIdx:∀ {xs:List V} {us:Lg} (i:Nat),Vals xs us->Vals (xs.eraseIdx i) (us.eraseIdx i)
 | _,_,_,.nil=>.nil
 | _,_,0,.cons _ t=>t
 | _,_,i+1,.cons r t=>.cons r (Vals.eraseIdx i t)
theorem Vals.reverse {xs:List V}{us:Lg}(h:Vals xs us):Vals xs.reverse us.reverse:=by
 induction h with
 | nil=>exact .nil
 | cons r t ih=>rw [Ul,Ul];exact Vals.append ih (.cons r .nil)
theorem Tq {α:Type}(l:List α):l.eraseIdx (l.length - 1)=l.dropLast:=by
 induction l with
 | nil=>rfl
 | cons a r ih=>
  cases r with
  | nil=>rfl
  | cons b r=>
   have e:(a::b::r).length - 1=((b::r).length - 1)+1:=by have h1:(a::b::r).length=r.length+2:=rfl;have h2:(b::r).length=r.length+1:=rfl;lia
   rw [e,List.eraseIdx_cons_succ,ih];all_goals rfl
section
variable {X:Cx} {pins:Lp} {σ:St} {H:Hp} {s:Shared} {l b:Addr} {xs ys zs:List V}
theorem Inv.lset {fX its':Lg}(I:Inv X pins σ H s)(hH:H l=some (.lst xs)) (e:s.heap.get? l=some { cls:=.type "list",data:=.seq fX.toArray n }) (hf:f fX.toArray=its'.toArray) (hv:Vals ys its') (hz:ys.length<=sizeLine) : Inv X pins σ (upd H l (.lst ys)) { s with heap:=s.heap.update l (Obj.mapSeq f),toks:=t' }:=by have q:=PySem.IsL.update e f;rw [hf] at q;refine I.write (x:=l) (e:=l) (by rw [hH];exact trivial) (.inl rfl) (λb' u hb hu=>(uy s.heap (Obj.mapSeq f) (Ne.symm hb)).trans hu) ⟨_,q⟩ ?_;exact⟨hz,its',_,hv,q⟩
theorem Inv.lnew {fX:Lg}(I:Inv X pins σ H s)(hv:Vals ys fX)(hz:ys.length<=sizeLine) :
  Inv X pins σ (upd H s.heap.objs.size (.lst ys)) { s with heap:=s.heap.push { cls:=.type "list",data:=.seq fX.toArray },toks:=t' }:=
 I.laid (λ_ _ q=>uf _ q) (ui _) ⟨hz,fX,0,hv,uB _ rfl⟩
theorem Inv.fresh (I:Inv X pins σ H s):H s.heap.objs.size=none:=I.hok.fresh (ui _)
theorem Inv.lstM (I:Inv X pins σ H s)(hH:H l=some (.lst xs)):xs.length<=sizeLine/\∃ (fX:Lg) (n:Nat),Vals xs fX/\xs.length=fX.length/\s.heap.get? l=some { cls:=.type "list",data:=.seq fX.toArray n }:=by obtain⟨z,fX,n,r,e⟩:=I.hok l _ hH;exact⟨z,fX,n,r,r.length,e⟩
theorem RY (h:n<=sizeLine):Builtin.List.listTooLong n=false:=by unfold Builtin.List.listTooLong;exact uF (by lia)
end
section
variable {X:Cx}
def Yg:V->List V->Hp->VK->Prop:=λx vs H Q=>∃ l xs y,x=.ref l/\vs=[y]/\H l=some (.lst xs)/\xs.length<sizeLine/\Q .non (upd H l (.lst (xs++[y])))
theorem xJ:C1 X "list.append" Yg:=by intro pins s σ H x vs v us Q I rx rv h;obtain⟨l,xs,y,rfl,rfl,hH,hz,q⟩:=h;cases rx;obtain⟨u,rfl,ru⟩:=rv.one;obtain⟨z,fX,n,r,hl,e⟩:=I.lstM hH;refine GO F.slot_list_append ⟨_,e,rfl⟩ F.entry_list_append (F.args_list_append_2 _ _) (PySem.list_append l fX.toArray n u (by rw [uh];lia)) ⟨e,?_⟩;refine⟨.non,_,I.lset (its':=fX++[u]) hH e (by simp) (r.append (.cons ru .nil)) ?_,rfl,q⟩;rw [uc,uu];lia
def Yh:V->List V->Hp->VK->Prop:=λx vs H Q=>∃ l b xs zs,x=.ref l/\vs=[.ref b]/\H l=some (.lst xs)/\H b=some (.lst zs)/\xs.length+zs.length<=sizeLine/\Q .non (upd H l (.lst (xs++zs)))
theorem JS:C1 X "list.extend" Yh:=by
 intro pins s σ H x vs v us Q I rx rv h;obtain⟨l,b,xs,zs,rfl,rfl,hH,hB,hz,q⟩:=h;cases rx;obtain⟨u,rfl,ru⟩:=rv.one;cases ru;obtain⟨z,fX,n,r,hl,e⟩:=I.lstM hH;obtain⟨z2,its2,n2,r2,hl2,e2⟩:=I.lstM hB;have hsz:fX.toArray.size+its2.toArray.size<=sizeLine:=by rw [uh,uh];lia
 have hlong:¬ (!fX.toArray.isEmpty&&Builtin.List.listTooLong (fX.toArray.size+its2.toArray.size))=true:=by rw [RY hsz,U5];exact uD
 refine GO F.slot_list_extend ⟨_,e,rfl⟩ F.entry_list_extend (F.args_list_extend_2 _ _)
  (AutoSeq1.list_extend_list_list_0 l fX.toArray n b its2.toArray n2 hlong (by rw [uh];lia) (by lia)) ⟨e,e2,?_⟩
 refine⟨.non,_,I.lset (its':=fX++its2) hH e (by simp) (r.append r2) ?_,rfl,q⟩;rw [uc];lia
def sG:V->List V->Hp->VK->Prop:=λx vs H Q=>∃ l xs y,x=.ref l/\vs=[]/\H l=some (.lst xs)/\xs[xs.length - 1]? = some y/\Q y (upd H l (.lst xs.dropLast))
theorem Bg:C1 X "list.pop" sG:=by
 intro pins s σ H x vs v us Q I rx rv h;obtain⟨l,xs,y,rfl,rfl,hH,hy,q⟩:=h;cases rx;have hus:=rv.zero;subst hus;obtain⟨z,fX,n,r,hl,e⟩:=I.lstM hH;obtain⟨u,hu,ru⟩:=r.get hy;have hy':fX.toArray[fX.toArray.size - 1]? = some u:=by show fX.toArray[fX.length - 1]? = some u;rw [← Array.getElem?_toList,← hl];exact hu
 refine GO F.slot_list_pop ⟨_,e,rfl⟩ F.entry_list_pop (F.args_list_pop_1 _) (MeetsSeq.list_pop_last l fX.toArray n u hy' (by rw [uh];lia)) ⟨e,?_⟩;refine⟨y,_,I.lset (its':=fX.dropLast) hH e ?_ r.dropLast ?_,ru,q⟩
 ·show fX.toArray.eraseIdxIfInBounds (fX.toArray.size - 1)=fX.dropLast.toArray;rw [uh,List.eraseIdxIfInBounds_toArray,Tq]
 ·rw [List.length_dropLast];lia
def sN:R2:=λx y H Q=>∃ l b xs zs,x=.ref l/\y=.ref b/\H l=some (.lst xs)/\H b=some (.lst zs)/\xs.length+zs.length<=sizeLine/\∀ p,H p=none->Q (.ref p) (upd H p (.lst (xs++zs)))
theorem qE:iM X (binaryOp .Add) sN:=by
 intro pins s σ H x y v u Q I rx ry h;obtain⟨l,b,xs,zs,rfl,rfl,hH,hB,hz,q⟩:=h;cases rx;cases ry;obtain⟨z,fX,n,r,hl,e⟩:=I.lstM hH;obtain⟨z2,its2,n2,r2,hl2,e2⟩:=I.lstM hB;refine PySem.P.add_list e e2 ?_ (by rw [uh,uh];lia);have ea:fX.toArray++its2.toArray=(fX++its2).toArray:=by simp
 rw [ea];exact⟨.ref _,_,I.lnew (t':=s.toks) (r.append r2) (by rw [uc];lia),rfl,q _ I.fresh⟩
end
section
variable {prog:Program} {w:World} {A:Around} {E:fL} {s:Shared}
set_option maxRecDepth 100000 in
end
section
variable {X:Cx}
end
end L2
namespace Att
open PySem PySem.W PySem.Calls PyProof.Rows
theorem WU:∀ (ns:List Int) (vs:Lg),WellAll P h vs (ns.map WData.int)->IntsAre vs ns:=by
 intro ns
 induction ns with
 | nil=>intro vs w;rw [U6] at w;cases w;exact .nil
 | cons n ns ih=>
  intro vs w;rw [uw] at w;cases w with
  | cons a b=>cases a;exact .cons _ _ (ih _ b)
theorem R9 {l:OpenLaw}(hn:l.most=some n){h:Heap}{args:List WData}{vals:Lg} (hpre:l.row.toRowW.claim.pre args=true) (hwl:WellAll P h vals args) : ∃ a vs ns,vals=[Value.ref a]/\args=[WData.list (ns.map WData.int)]/\h.get? a=some { cls:=.type "list",data:=.seq vs.toArray }/\IntsAre vs ns/\ns.length<=n:=by
 have hsh:WShape.hasAll [] args [.list .int]=true:=(pre_splitW hpre).1;have hc:l.pre.holds [] { args:=args }=true:=(pre_splitW hpre).2;obtain⟨d,r,rfl,h1,h2⟩:=hasAllW_cons hsh;obtain rfl:=hasAllW_nil h2;obtain⟨xs,rfl,h3⟩:=hasW_list h1;obtain⟨ns,rfl⟩:=items_int h3
 have hlen:ns.length<=n:=by
  unfold OpenLaw.pre at hc;have h4:(WTm.not (.lt (.lit (.int (n:Int))) (.len (.arg 0)))).holds [] { args:=[.list (ns.map .int)] }=true:=by have h4:=(holds_andW hc).1;rw [hn] at h4;exact h4
  have h5:=condW_of h4 (w_not (w_lt w_lit (w_len_list (w_arg rfl))));rw [uk] at h5;refine Nat.le_of_not_lt λq=>?_;have q':(n:Int)<((ns.length:Nat):Int):=by lia
  first
   | (rw [Uv q'] at h5;exact absurd h5 (by decide))
   | (simp at h5;omega)
 cases hwl with
 | cons w1 w2=>
  cases w2;cases w1 with
  | list ho hall=>exact⟨_,_,ns,rfl,rfl,ho,WU ns _ hall,hlen⟩
theorem R0 (l:OpenLaw)(args:List WData):l.row.toRowW.claim.post args (.bool true) args=true:=
 postW_of (r:=l.row.toRowW) (X:=(true == true))
  (show WShape.has [] (.bool true) .bool=true by first | rfl | decide | simp [WShape.has,WShape.arms,WShape.armsAll])
  (show(WTm.eq .res (.lit (.bool true))).value [] { args:=args,res:=some (.bool true),after:=args }=some (.bool (true == true)) from w_eq_bool (w_res rfl) w_lit) rfl
theorem mO {l:OpenLaw}{loose:Lj}{d:DefRec} (hn:l.most=some n) (hdf:d.params.defaults=[]) (call:∀ (w:World) (s₀ s₁:Shared) (mg mb:La) (fa:Addr) (o:Obj) (pm cd doc:Value) (a:Addr) (vs:Lg) (ns:List Int), Ground q loose [] XP w s₀ mg mb s₁.heap->YP w s₁.heap -> s₁.heap.get? fa=some o->o.data=.func (docDef d.name d.params d.body d.scope pm cd doc)->s₁.heap.CodeRec cd d.name->mg d.name=some (.ref fa) -> s₁.heap.get? a=some { cls:=.type "list",data:=.seq vs.toArray }->IntsAre vs ns->ns.length<=n->s₁.gens = #[] -> codeAny (model l.prog w) callerA (.call (.ref fa) ⟨[.ref a],[]⟩) (λr s'=>r=.ok (.ret (.bool true))/\OldK s₁.heap s'.heap/\s'.os=s₁.os/\AllBare s'.gens) s₁) : WalkO q loose XP YP l.row.toRowW d [] (λf vs=>PySem.call f vs):=by intro w s₀ s₁ mg mb G Y fa o pm cd doc dV kV ho hd hcd hD hmg hg args vals as hpre hlay hrd hwl hlo;obtain rfl:dV=.none:=Dflts.none hD hdf;obtain rfl:kV=.none:=Dflts.noKw hD;obtain⟨a,vs,ns,rfl,rfl,hobj,hints,hlen⟩:=R9 hn hpre hwl;refine enter_call (Uh (call w s₀ s₁ mg mb fa o pm cd doc a vs ns G Y ho (fd_plain hd) hcd hmg hobj hints hlen hg) λr s' hq=>?_);obtain⟨rfl,h2,h3,h4⟩:=hq;exact⟨.inl ⟨.bool true,.bool true,[],rfl,λ_=>rfl,.bool true,R0 l _,λ_=>⟨List.Pairwise.nil,λ_ hm=>(nomatch hm)⟩⟩,h2,h3,h4⟩
section
variable {prog:Program} {w:World} {A:Around} {E:fL} {s:Shared} {K:Frag}
end
end Att
namespace L2
open PySem PySem.Spec PyProof.Rows
theorem VL:∀ {vs:Lg} {ns:List Int},IntsAre vs ns->Vals (ns.map V.int) vs
 | _,_,.nil=>.nil
 | _,_,.cons n t h=>.cons ⟨t,rfl⟩ (VL h)
def rX (H:Hp):Prop:=∀ b,H b=none\/∃ o xs,H b=some (.frz o (.lst xs))
theorem RX {K:Lf}{s₁:Shared}{vs:Lg}{ns:List Int} (KX:K.In s₁.heap) (hns:s₁.heap.Ns mainGlobals mg) (hb:s₁.heap.Ns builtinsNs mb) (hbb:∀ x:Str,x≠"__name__"->mb x=bootBuiltins x) (hlim:s₁.heap.NoLimit) (hg:s₁.gens = #[]) (ha:s₁.heap.get? a=some { cls:=.type "list",data:=.seq vs.toArray }) (hi:IntsAre vs ns) (hl:ns.length<=sizeLine) (hr:ib k callerA) (F:∀ base:Heap,K.In base->base.Ns mainGlobals mg->iD P w K mg base CX k fa fd [x] sp) (hbind:∀ (s:Shared) (u:Value),BindsTo s fd ⟨[u],[]⟩ [(x,u)]) (hsp:∀ H:Hp,rX H->ij K H a (ns.map V.int)->sp [.ref a] H (λv _=>v=.bl true) λ_ _ _=>False) (hCX:∀ H e s',CX [] H s₁ (λ_ _ _=>False) e s'->False) : codeAny (model P w) callerA (.call (.ref fa) ⟨[.ref a],[]⟩) (λr s'=>r=.ok (.ret (.bool true))/\OldK s₁.heap s'.heap/\s'.os=s₁.os/\AllBare s'.gens) s₁:=by
 have rv:=VL hi;have lenV:=hi.length
 have core:∀ H:Hp,rX H->ij K H a (ns.map V.int)->lj P w H s₁.heap->(∀ b,H b≠none->b=a)->(H a≠none->K.lookup a=none) ->
   codeAny (model P w) callerA (.call (.ref fa) ⟨[.ref a],[]⟩) (λr s'=>r=.ok (.ret (.bool true))/\OldK s₁.heap s'.heap/\s'.os=s₁.os/\AllBare s'.gens) s₁:=by
  intro H hO hS hok hA hK
  have base_of:∀ {b:Addr} {o:Obj},s₁.heap.get? b=some o->H b=none->(mx s₁.heap H).get? b=some o:=λe n=>RQ e n
  have noA:∀ {b:Addr} {o:Obj} {es:Array DictEntry} {ep:Nat},s₁.heap.get? b=some o->o.data=.dict es ep->H b=none:=λ{b o es ep} e d=>by
   cases q:H b with
   | none=>rfl
   | some u=>
    have e':b=a:=hA b (by rw [q];simp)
    subst e'
    rw [ha] at e;cases e
    have d':Data.seq vs.toArray _=Data.dict es ep:=d
    cases d'
  have nsK:∀ {b:Addr} {m:La},s₁.heap.Ns b m->(mx s₁.heap H).Ns b m:=λ{b m} ⟨o,es,ep,e,d,r⟩=>⟨o,es,ep,base_of e (noA e d),d,r⟩
  have hKb:K.In (mx s₁.heap H):=λb o e=>base_of (KX b o e) (by
   cases q:H b with
   | none=>rfl
   | some u=>
    have e':b=a:=hA b (by rw [q];simp)
    subst e'
    rw [hK (by rw [q];simp)] at e;cases e)
  have hM:Mod K mg (mx s₁.heap H):=⟨hKb,nsK hns,⟨mb,nsK hb,hbb⟩,let ⟨mc,h1,h2⟩:=hlim;⟨mc,nsK h1,h2⟩⟩
  have e0:lL P w K mg (mx s₁.heap H) callerA [] s₁ H:=⟨rfl,hM,λb o e=>OK e,gQ (Sl _ _),trivial,λb hb=>absurd (show b∈([]:Le) from hb) (by simp),hok,.of_eq hg⟩
  refine Uh ((F _ hKb (nsK hns)).run callerA [] s₁ H ⟨[.ref a],[]⟩ [.ref a] [.ref a] _ _ hr e0 (hbind s₁ (.ref a)) (.cons rfl .nil) (hsp H hO hS)) λr s' h=>?_
  cases r with
  | error e=>exact(hCX H e s' h).elim
  | ok fl=>
   cases fl with
   | next=>exact False.elim h
   | brk=>exact False.elim h
   | cont=>exact False.elim h
   | ret u=>
    obtain⟨v,H',os,bare,un,hok',r',q⟩:=h
    have q':v=.bl true:=q
    subst q'
    obtain rfl:u=Value.bool true:=r'
    refine⟨rfl,OldK.of_keep λb o e=>?_,os,bare⟩
    cases q:H b with
    | none=>exact un.keep b o e q (by intro z;exact absurd (show b∈([]:Le) from z) (by simp)) (by simp)
    | some u=>
     rcases hO b with z | ⟨ob,xs,z⟩
     ·rw [q] at z;cases z
     ·have z2:=un.frzs b ob _ z
      obtain⟨e1,_⟩:=hok b _ z
      obtain⟨e2,_⟩:=hok' b _ z2
      rw [e] at e1;cases e1
      exact e2
 cases hk:K.lookup a with
 | some o=>have e:=KX a o hk;rw [ha] at e;cases e;refine core (λ_=>none) (λ_=>.inl rfl) (.inr ⟨_,vs.toArray,_,hk,rfl,rfl,rfl,by rw [uh,lenV];exact hl,by simpa using rv⟩) (λb u z=>by have z':(none:Option HO)=some u:=z;cases z') (λb z=>absurd rfl z) λz=>absurd rfl z
 | none=>
  refine core (λb=>if b=a then some (.frz { cls:=.type "list",data:=.seq vs.toArray } (.lst (ns.map V.int))) else none) (λb=>?_) (.inl (.inr ⟨{ cls:=.type "list",data:=.seq vs.toArray },ue rfl⟩)) (λb u z=>?_) (λb z=>?_) λ_=>hk
  ·by_cases hb:b=a
   ·exact .inr ⟨_,_,ue hb⟩
   ·exact .inl (ub hb)
  ·by_cases hb:b=a
   ·have z':=(ue hb).symm.trans z;cases z';subst hb;exact⟨ha,by rw [uk];exact hl,vs,_,rv,ha⟩
   ·have z':=(ub hb).symm.trans z;cases z'
  ·by_cases hb:b=a
   ·exact hb
   ·exact absurd (ub hb) z
theorem ND {l:PySem.W.OpenLaw}{n k:Nat}{q:Program}{loose:Lj}{XP:(La)->Heap->Prop}{YP:World->Heap->Prop}{d:DefRec}{K:Params->Lf}{CX:World->ma}{sp:World->Sp}{x:Str} (hn:l.most=some n) (hn2:n<=sizeLine) (hdf:d.params.defaults=[]) (hr:ib k callerA) (hY:∀ (w:World) (h:Heap),YP w h->(K w.params).In h) (F:∀ (w:World) (mg:La) (fa:Addr) (h:Heap),(K w.params).In h->h.Ns mainGlobals mg->mg d.name=some (.ref fa) -> ∃ fd:FuncData,(∀ (s:Shared) (u:Value),BindsTo s fd ⟨[u],[]⟩ [(x,u)]) /\ ∀ base:Heap,(K w.params).In base->base.Ns mainGlobals mg->iD l.prog w (K w.params) mg base (CX w) k fa fd [x] (sp w)) (hsp:∀ (w:World) (H:Hp) (a:Addr) (ns:List Int),ns.length<=n->rX H->ij (K w.params) H a (ns.map V.int)->sp w [.ref a] H (λv _=>v=.bl true) λ_ _ _=>False) (hCX:∀ (w:World) (H:Hp) (s:Shared) (e:Value) (s':Shared),CX w [] H s (λ_ _ _=>False) e s'->False) : PySem.W.WalkO q loose XP YP l.row.toRowW d [] (λf vs=>PySem.call f vs):=by refine Att.mO hn hdf λw s₀ s₁ mg mb fa o pm cd doc a vs ns G Y ho hd hcd hmg hobj hints hlen hg=>?_;have KX:=hY w _ Y;obtain⟨fd,hb,hF⟩:=F w mg fa _ KX G.T.g hmg;exact RX KX G.T.g G.T.b G.T.builtins G.T.nolimit hg hobj hints (uJ hlen hn2) hr hF hb (λH hO hS=>hsp w H a ns hlen hO hS) λH e s'=>hCX w H s₁ e s'
def inClass (s:Stmt)(j:Nat):Stmt:=match s with
 | .ClassDef _ _ _ body _ _ _ _ _ _ _=>body.getD j (.Pass ⟨0,0,0,0⟩)
 | _=>.Pass ⟨0,0,0,0⟩
def jd (s:Stmt):Arguments:=match s with
 | .FunctionDef _ a _ _ _ _ _ _ _ _=>a
 | _=>{ posonlyargs:=[],args:=[],vararg:=none,kwonlyargs:=[],kw_defaults:=[],kwarg:=none,defaults:=[] }
def zV (s:Stmt):List Stmt:=match s with
 | .FunctionDef _ _ b _ _ _ _ _ _ _=>b
 | _=>[]
def zf (s:Stmt):Scope:=match s with
 | .FunctionDef _ _ _ _ _ _ sc _ _ _=>sc
 | _=>{ kind:=.function,names:=[],isGenerator:=false,isCoroutine:=false }
abbrev mr:ma:=λ_ _ _ _ _ _=>False
abbrev E0:XK:=λ_ _ _=>False
theorem AN:Passes mr X E0:=λ_ _ _ _ _ _ _ h=>h.elim
structure oB (K:Lf)(x qual:Str)(st:Stmt)(f:Addr)(fd:FuncData):Prop where
 ex:∃ (oc:Value) (od:Option Addr) (kV doc pm:Value) (an:Option Addr) (cdv ct:Value) (osl:Array (Option Value)),
  fd=PySem.W.fnOf x qual (jd st) (zV st) (zf st) .none kV doc pm an cdv ct/\K.lookup f=some ⟨oc,od,.func fd,osl⟩/\PySem.W.codeIn K cdv qual=true
 kp:PySem.W.keepIn K (.ref f)=true
section
variable {P:Program} {w:World} {K:Lf} {mg:La} {base:Heap}
theorem oB.ok {x qual:Str}{st:Stmt}{f:Addr}{fd:FuncData}{N ps:Lj}{k:Nat}{sp:Sp}(F:oB K x qual st f fd)(S:zj N ps (zf st))(len:∀ vs H Q E,sp vs H Q E->vs.length=ps.length) (hbody:∀ (cdv:Value) (A:Around) (outer:List Env) (s:Shared) (H:Hp) (vs:List V) (Q:VK) (E:XK),ib k (A.deeper (envOfC qual (zf st) s.heap.objs.size f cdv))->sp vs H Q E -> ∃ t,lJ (iK mr P w K mg base N qual (zf st) f cdv A outer s H E).nox (zV st) t/\t { nx:=λ_ H'=>Q .non H',rt:=Q } (start N vs) H):iD P w K mg base mr (k+1) f fd ps sp:=by obtain⟨oc,od,kV,doc,pm,an,cdv,ct,osl,rfl,lk,hcd⟩:=F.ex;refine tY lk hcd S len λA outer s H vs Q E hr hsp=>?_;obtain⟨t,h,q⟩:=hbody cdv A outer s H vs Q E hr hsp;exact⟨t,h.nox,q⟩
theorem oB.binds {x qual:Str}{st:Stmt}{f:Addr}{fd:FuncData}{ps:Lj}(F:oB K x qual st f fd) (h:∀ (kV doc pm:Value) (an:Option Addr) (cdv ct:Value) (us:Lg),us.length=ps.length->bindArgs (PySem.W.fnOf x qual (jd st) (zV st) (zf st) .none kV doc pm an cdv ct) ⟨us,[]⟩=pure (ps.zip us)):Binds K fd ps []:=by obtain⟨oc,od,kV,doc,pm,an,cdv,ct,osl,rfl,lk,hcd⟩:=F.ex;exact .all (h kV doc pm an cdv ct)
theorem ZC {x qual:Str}{st:Stmt}{f:Addr}{oc:Value}{od an:Option Addr}{osl:Array (Option Value)}{kV doc pm cdv ct:Value}(l:K.lookup f=some ⟨oc,od,.func (PySem.W.fnOf x qual (jd st) (zV st) (zf st) .none kV doc pm an cdv ct),osl⟩) (c:PySem.W.codeIn K cdv qual=true) (k:PySem.W.keepIn K (.ref f)=true):oB K x qual st f (PySem.W.fnOf x qual (jd st) (zV st) (zf st) .none kV doc pm an cdv ct):=⟨⟨oc,od,kV,doc,pm,an,cdv,ct,osl,rfl,l,c⟩,k⟩
end
theorem VM {A:Around}(hr:ib k A):A.units+1<cLine:=Nat.lt_of_le_of_lt (Nat.add_le_add_left (by decide:1<=64) _) hr.units
section
variable {X:Cx}
theorem pv (i:Nat)(hN:X.N[i]? = some x:=by rfl) (hv:t9 X.env.scope x:=by first | exact Or.inl rfl | exact Or.inr (Or.inl rfl) | exact Or.inr (Or.inr rfl)) (hd:(x == ("__debug__":Str))=false:=by decide)
  (hcd:(x == ("__classdict__":Str))=false:=by decide):PE X (.Name x pos) (iA i):=MQ hN hv hd hcd
end
def fO (H H':Hp):Prop:=∀ b o,H b=some o->H' b=some o
theorem fO.refl (H:Hp):fO H H:=λ_ _ h=>h
theorem fO.trans (a:fO H H1)(b:fO H1 H2):fO H H2:=λc o h=>b c o (a c o h)
theorem fO.free (e:fO H H')(h:H' l=Option.none):H l=Option.none:=by
 cases q:H l with
 | none=>rfl
 | some o=>rw [e l o q] at h;cases h
theorem fO.seq {K:Lf}{H H':Hp}{a:Addr}{xs:List V}(e:fO H H')(h:ij K H a xs):ij K H' a xs:=by
 rcases h with(h | ⟨o,h⟩) | h
 ·exact .inl (.inl (e _ _ h))
 ·exact .inl (.inr ⟨o,e _ _ h⟩)
 ·exact .inr h
def Af (x:Str):It:=⟨λi _=>i<x.cps.size,λi H v H'=>H' = H/\∃ c,x.cps[i]? = some c/\v=.str ⟨#[c]⟩,λi _=>x.cps.size<=i⟩
section
variable {X:Cx} {tg:Expr}
theorem WJ {P:Program}{w:World}{K:Lf}{tg:Expr}{x:Str}{t:Tok}{ty:String}{it:Addr}
  (hty:["enumerate","zip","dict_itemiterator","dict_reverseitemiterator","odict_iterator","itertools.zip_longest","itertools.pairwise"].contains ty=false)
  (W:∀ A':Around,A'.handled=none->Walks P w A' it [it] [it] x.cps.size (SignAt x) (λi h=>h.IsStrIter it ty x t i))
  (hend:∀ (A':Around) (s:Shared) (i:Nat) (E:fL) (Q:Option Value->Shared->Prop),A'.handled=none->s.heap.IsStrIter it ty x t i->x.cps[i]? = none ->
   (∀ h',(∀ b o,b≠it->s.heap.get? b=some o->h'.get? b=some o)->Q none { s with heap:=h' })->wpAny (model P w) A' (pyNext (.ref it)) Q E s)
  (hself:∀ (A':Around) (s:Shared) (i:Nat) (E:fL) (Q:fL),s.heap.IsStrIter it ty x t i->Q (.ref it) s->wpAny (model P w) A' (pyIter (.ref it)) Q E s) :
  Turn P w K tg (Af x) [it] it (λi h=>h.IsStrIter it ty x t i) where
 mem:=by simp
 obj:=λi h st b hb=>by
  have e:b=it:=by simpa using hb
  subst e
  obtain⟨o,e,c,d⟩:=st
  exact⟨o,e,λv z=>by rw [d] at z;cases z⟩
 keep:=λi h h' st k=>let ⟨o,ho,r⟩:=st;⟨o,k it (by simp) o ho,r⟩
 item:=by
  intro X hP hw hK hc i pins s σ H E I hf st hg
  subst hP hw hK
  obtain⟨f0,f1,f2,f3,f4,f5⟩:=hf it (by simp)
  refine(W X.A (I.ok.hd hc)).item i s _ _ hg st λv h' tk hv st' kk=>?_
  obtain⟨c,u,hcu,rfl⟩:=hv
  have I1:Inv X pins σ H { s with heap:=h',toks:=tk }:=I.turned (λb o hb e=>kk b o (by simpa using hb) e) f0 f1 f3 f4 f5
  obtain⟨o,e,hcl,d⟩:=id st'
  exact⟨_,rfl,AM (s:={ s with heap:=h',toks:=tk }) e hcl d hty ⟨.str ⟨#[c]⟩,H,I1,⟨u,rfl⟩,⟨rfl,c,hcu,rfl⟩,st',λb hb=>(hf b hb).1⟩⟩
 done:=by
  intro X hP hw hK hc i pins s σ H E I hf st hg
  subst hP hw hK
  obtain⟨f0,f1,f2,f3,f4,f5⟩:=hf it (by simp)
  have hg':x.cps.size<=i:=hg
  exact hend X.A s i E _ (I.ok.hd hc) st (by simp [hg']) λh' eb=>⟨rfl,I.turned (t':=s.toks) (λb o hb e=>eb b o hb e) f0 f1 f3 f4 f5⟩
 self:=λA i s Q E st h=>hself A s i E Q st h
def rD (tl:TE):TI:=λσ H R=>tl σ H λx H1=>∃ z,x=.str z/\R (Af z) H1
theorem Lx (hl:PE X l tl):PI X tg l (rD tl):=by
 intro pins s σ H R I h;refine ik (hl pins s σ H _ I h) λv s1 zq=>?_;obtain⟨x,H1,I1,r1,q1⟩:=zq;obtain⟨z,rfl,q⟩:=q1;obtain⟨t,rfl⟩:=r1
 have fin:∀ (ty:String) (o:Obj),Turn X.prog X.w X.K tg (Af z) [s1.heap.objs.size] s1.heap.objs.size (λi h=>h.IsStrIter s1.heap.objs.size ty z t i)->(s1.heap.push o).IsStrIter s1.heap.objs.size ty z t 0 ->
   tJ X pins σ tg R (.ref s1.heap.objs.size) { s1 with heap:=s1.heap.push o }:=λty o T st=>by
  refine⟨s1.heap.objs.size,[s1.heap.objs.size],_,_,H1,rfl,I1.kept (t':=s1.toks) λb o e=>uf _ e,T,st,λb hb=>?_,q⟩
  have e:b=s1.heap.objs.size:=by simpa using hb
  subst e
  exact I1.fpOk (ui _) (I1.hok.fresh (ui _))
 cases ha:z.cps.all (· < 128)
 ·refine wpAny_pyIter_wide ha (fin "str_iterator" _ (WJ (by decide) (λA' hA=>Walks.strWide hA _ z t) ?_ ?_) ⟨_,uB _ rfl,rfl,rfl⟩)
  ·intro A' s i E Q hA st hx hq;exact wpAny_pyNext_wide_end hA st hx hq
  ·intro A' s i E Q st h;exact wpAny_pyIter_striter_wide st h
 ·refine wpAny_pyIter_ascii ha (fin "str_ascii_iterator" _ (WJ (by decide) (λA' hA=>Walks.strAscii hA _ z t) ?_ ?_) ⟨_,uB _ rfl,rfl,rfl⟩)
  ·intro A' s i E Q hA st hx hq;exact wpAny_pyNext_ascii_end hA st hx hq
  ·intro A' s i E Q st h;exact wpAny_pyIter_striter_ascii st h
end
theorem vV {env:Env}(y:Str):∀ (names:List (Str×NameKind)),
  (names.map λ(n,k)=>if (k == NameKind.free&&env.scope.kind == .function&&env.kindOf n == some .cell) then(n,NameKind.cell) else(n,k)).lookup y =
   (names.lookup y).map λk=>if (k == NameKind.free&&env.scope.kind == .function&&env.kindOf y == some .cell) then NameKind.cell else k
 | []=>rfl
 | (n,k)::r=>by
  have ih:=vV y r (env:=env);rw [uw];by_cases hy:y=n
  ·subst hy;show List.lookup y ((if (k == NameKind.free&&env.scope.kind == .function&&env.kindOf y == some .cell)=true then(y,NameKind.cell) else(y,k))::_)=_;by_cases hc:(k == NameKind.free&&env.scope.kind == .function&&env.kindOf y == some .cell)=true
   ·rw [ue hc];simp only [u4,Ur,uW,hc,if_true]
   ·rw [ub hc];simp only [u4,Ur,uW,hc,Gh];rfl
  ·have hb:(y == n)=false:=by simpa using hy
   show List.lookup y ((if (k == NameKind.free&&env.scope.kind == .function&&env.kindOf n == some .cell)=true then(n,NameKind.cell) else(n,k))::_)=_;by_cases hc:(k == NameKind.free&&env.scope.kind == .function&&env.kindOf n == some .cell)=true
   ·rw [ue hc];simp only [u4,hb];exact ih
   ·rw [ub hc];simp only [u4,hb];exact ih
theorem Qx {env:Env}:∀ (names:List (Str×NameKind)) (cs:List (Str×Addr)),(∀ y∈names,y.2=.free->∃ c,env.cells.lookup y.1=some c)->(∀ y c,cs.lookup y=some c->env.cells.lookup y=some c) ->
  ∃ cl,(forIn (m:=Sem) names cs λ(x:Str×NameKind) (r:List (Str×Addr))=>(if (x.2 == .free)=true then(do let c ← cellOf env x.1;pure (ForInStep.yield ((x.1,c)::r))) else pure (ForInStep.yield r)))=pure cl /\
   (∀ y c,cl.lookup y=some c->env.cells.lookup y=some c)/\(∀ y∈names,y.2=.free->∃ c,cl.lookup y.1=some c)/\∀ y,(∃ c,cs.lookup y=some c)->∃ c,cl.lookup y=some c
 | [],cs,_,hcs=>⟨cs,rfl,hcs,(λ_ h=>nomatch h),(λ_ h=>h)⟩
 | (n,k)::r,cs,h,hcs=>by
  by_cases hk:k=.free
  ·subst hk;obtain⟨c,hc⟩:=h (n,.free) Up rfl;have hc:env.cells.lookup n=some c:=hc
   have hcs':∀ y c',((n,c)::cs).lookup y=some c'->env.cells.lookup y=some c':=λy c' e=>by
    by_cases hy:y=n
    ·subst hy;simp only [u4,Ur] at e;cases e;exact hc
    ·have hb:(y == n)=false:=by simpa using hy
     simp only [u4,hb] at e;exact hcs y c' e
   obtain⟨cl,e1,e2,e3,e4⟩:=Qx r ((n,c)::cs) (λy hy=>h y (uL _ hy)) hcs';refine⟨cl,?_,e2,λy hy hf=>?_,λy hy=>e4 y ?_⟩
   ·rw [List.forIn_cons];simp only [Ur,if_true,cellOf,hc];exact e1
   ·rcases uq.mp hy with rfl | hy
    ·exact e4 n ⟨c,by simp only [u4,Ur]⟩
    ·exact e3 y hy hf
   ·obtain⟨c',hc'⟩:=hy;by_cases hy:y=n
    ·subst hy;exact⟨c,by simp only [u4,Ur]⟩
    ·have hb:(y == n)=false:=by simpa using hy
     exact⟨c',by simp only [u4,hb];exact hc'⟩
  ·obtain⟨cl,e1,e2,e3,e4⟩:=Qx r cs (λy hy=>h y (uL _ hy)) hcs;refine⟨cl,?_,e2,λy hy hf=>?_,e4⟩
   ·have hb:(k == NameKind.free)=false:=by simpa using hk
    rw [List.forIn_cons];simp only [hb,gn,Gh];exact e1
   ·rcases uq.mp hy with rfl | hy
    ·exact absurd hf hk
    ·exact e3 y hy hf
theorem Tp {env:Env}{scope:Scope}(h:∀ y∈scope.names,y.2=.free->∃ c,env.cells.lookup y.1=some c) : ∃ cl,closureFor scope env=pure cl/\(∀ y c,cl.lookup y=some c->env.cells.lookup y=some c)/\(∀ y∈scope.names,y.2=.free->∃ c,cl.lookup y.1=some c):=by obtain⟨cl,e1,e2,e3,_⟩:=Qx scope.names [] h (λy c e=>by simp at e);refine⟨cl,?_,e2,e3⟩;have e:closureFor scope env=(forIn (m:=Sem) scope.names [] λ(x:Str×NameKind) (r:List (Str×Addr))=>(if (x.2 == .free)=true then(do let c ← cellOf env x.1;pure (ForInStep.yield ((x.1,c)::r))) else pure (ForInStep.yield r))) >>= λcs=>pure cs:=rfl;rw [e,e1];rfl
theorem KA {prog:Program}{elt target iter:Expr}{scope:Scope}(I:Nat->Shared->Prop)
  (turn:∀ n s,I n s->wpAny (model prog w) A (pyNext it) (λr s₁=>match r with
   | none=>R (.ok .next) s₁
   | some v=>wpAny (model prog w) A (letOwnedTupleGo target it v) (λ_ s₁=>wpAny (model prog w) A (assign target env v) (λ_ s₂=>
     wpAny (model prog w) A (forIn ifs true λc r=>if r=true then do let ok ← isTrue c env (eval c env);pure (ForInStep.yield ok) else pure (ForInStep.yield r)) (λok s₃=>
      if ok=true then wpAny (model prog w) A (eval elt env) (λx s₄=>
       wpAny (model prog w) A (call (.builtin "list.append") [acc,x]) (λ_ s₅=>∃ m,m<n/\I m s₅) (λ_ _=>False) s₄) (λ_ _=>False) s₃
      else ∃ m,m<n/\I m s₃) (λ_ _=>False) s₂) (λ_ _=>False) s₁) (λ_ _=>False) s₁) (λ_ _=>False) s)
  (n:Nat) (h:I n s) :
  codeAny (model prog w) A (.compLoop (.ListComp elt [⟨target,iter,ifs,0⟩] scope pos) 0 it acc env) R s:=by
 refine codeAny_loop rfl I (λn s hI=>?_) n h
 show wpAny _ A ((compTurn (.ListComp elt [⟨target,iter,ifs,0⟩] scope pos) 0 it acc env).onRaise (λx=>do noteFrame x env;theTreesLotGoes x)) _ _ s
 refine wpAny_noted ?_
 rw [compTurn_list]
 refine ua (u5 (ua (um (turn n s hI) (λr s₁ h₁=>?_) λ_ _ h'=>h'.elim)))
 cases r with
 | none=>exact ud h₁
 | some v=>
  refine ua (um h₁ (λ_ s₁ h₁=>?_) λ_ _ h'=>h'.elim)
  refine ua (um h₁ (λ_ s₂ h₂=>ua (um h₂ (λok s₃ h₃=>?_) λ_ _ h'=>h'.elim)) λ_ _ h'=>h'.elim)
  cases ok with
  | false=>exact ud ⟨rfl,h₃⟩
  | true=>
   exact ua (ua (um h₃ (λx s₄ h₄=>ua (um h₄ (λ_ s₅ h₅=>ud (ud ⟨rfl,h₅⟩)) λ_ _ h'=>h'.elim)) λ_ _ h'=>h'.elim))
def rJ (X:Cx)(x:Str)(scope:Scope)(cl:List (Str×Addr))(C:Addr)(s3:Shared)(H3:Hp)(fp:Le):Cx:=
 { X with N:=x::X.N,s₀:=s3,H₀:=H3,env:=compEnvC scope cl C X.env,outer:=X.stack,ex:=fp,fn:=λ_=>false,pn:=[],xe:=λ_ _=>False }
def tH (X:Cx)(ifs:Lh)(t:TT):Prop:=
 ∀ (pins:Lp) (s:Shared) (σ:St) (H:Hp) (Q:Bool->Hp->Prop),Inv X pins σ H s->t σ H Q ->
  fN X (forIn ifs true λc r=>if r=true then do let ok ← isTrue c X.env (eval c X.env);pure (ForInStep.yield ok) else pure (ForInStep.yield r)) (TP X pins σ Q) X.xe s
def VN:TT:=λ_ H Q=>Q true H
theorem NC:tH X [] VN:=λ_ _ _ H _ I h=>wpAny_tests_nil ⟨H,I,h⟩
def DY (J:It)(tt:TT)(te:TE)(σ:St)(H1:Hp)(Q:VK):Prop:=∀ D,H1 D=none->∃ W:Nat->Nat->List V->Hp->Prop,(∃ m,W 0 m [] (upd H1 D (.lst [])))/\∀ i m ys H',W i m ys H'->H' D=some (.lst ys) /\
 ((J.stop i H'/\Q (.ref D) H')\/(J.go i H'/\∀ v H2,J.yld i H' v H2->tt (some v::σ) H2 λb H3=>
  if b=true then te (some v::σ) H3 λy H4=>H4 D=some (.lst ys)/\ys.length<sizeLine/\∃ m',m' < m/\W (i+1) m' (ys++[y]) (upd H4 D (.lst (ys++[y]))) else ∃ m',m' < m/\W (i+1) m' ys H3))
def Fo (wi:TI)(tt:TT)(te:TE):TE:=λσ H Q=>wi σ H λJ H1=>DY J tt te σ H1 Q
structure Jn (X:Cx)(x:Str)(scope:Scope):Prop where
 xN:x∉X.N
 nd:X.N.Nodup
 kind:scope.kind=.function
 cell:∀ y∈scope.names,y.2≠.cell
 names:∀ y∈scope.names,y.2=.local->scope.names.lookup y.1=some .local
 var:scope.names.lookup x=some .local
 free:∀ y∈scope.names,y.2=.free->X.env.kindOf y.1=some .cell
 out:∀ y∈X.N,scope.names.lookup y≠some .local
 calm:X.calm=true
def ly (xs:Lj)(y:Str):Str:=if y∈xs then Str.ofString "" else y
structure ZD (X:Cx)(xs:Lj)(scope:Scope):Prop where
 nd:(xs++X.N.map (ly xs)).Nodup
 kind:scope.kind=.function
 cell:∀ y∈scope.names,y.2≠.cell
 names:∀ y∈scope.names,y.2=.local->scope.names.lookup y.1=some .local
 var:∀ x∈xs,scope.names.lookup x=some .local
 free:∀ y∈scope.names,y.2=.free->X.env.kindOf y.1=some .cell
 out:∀ y∈X.N.map (ly xs),scope.names.lookup y≠some .local
 blank:∀ y∈X.N,y∈xs->scope.names.lookup (Str.ofString "")=none
 calm:X.calm=true
def mM (X:Cx)(xs:Lj)(scope:Scope)(cl:List (Str×Addr))(C:Addr)(s3:Shared)(H3:Hp)(fp:Le):Cx:=
 { X with N:=xs++X.N.map (ly xs),s₀:=s3,H₀:=H3,env:=compEnvC scope cl C X.env,outer:=X.stack,ex:=fp,fn:=λ_=>false,pn:=[],xe:=λ_ _=>False }
section
variable {X:Cx} {elt iter tg:Expr} {xs:Lj} {pos:Pos} {ifs:Lh} {scope:Scope} {wi:TI} {tt:TT} {te:TE} {g:TG} {bnd:V->Hp->(List V->Prop)->Prop}
theorem RV {pins:Lp}{σ:St}{H:Hp}{s:Shared}{E:fL}{Q:fL}{use:Option (Value->Sem Unit)}{QV:VK}(L:ZD X xs scope)(I:Inv X pins σ H s) (hi:fN X (eval iter X.env) (λv s1=>fN X (pyIter v) (tJ X pins σ (tg) (λJ H1=>∀ D,H1 D=none->∃ W:Nat->Nat->List V->Hp->Prop,(∃ m,W 0 m [] (upd H1 D (.lst [])))/\∀ i m ys H',W i m ys H'->H' D=some (.lst ys) /\ ((J.stop i H'/\QV (.ref D) H')\/(J.go i H'/\∀ v H2,J.yld i H' v H2->bnd v H2 λus=>tt (us.map some++σ) H2 λb H3=> if b=true then te (us.map some++σ) H3 λy H4=>H4 D=some (.lst ys)/\ys.length<sizeLine/\∃ m',m' < m/\W (i+1) m' (ys++[y]) (upd H4 D (.lst (ys++[y]))) else ∃ m',m' < m/\W (i+1) m' ys H3)))) E s1) E s) (ht:∀ cl C s3 H3 fp,tH (mM X xs scope cl C s3 H3 fp) ifs tt) (he:∀ cl C s3 H3 fp,PE (mM X xs scope cl C s3 H3 fp) elt te) (hg:∀ cl C s3 H3 fp,PG (mM X xs scope cl C s3 H3 fp) tg g) (hb:∀ v H (os:St) (K:List V->Prop),os.length=xs.length->bnd v H K->g v (os++σ) H λσ' H'=>∃ us,us.length=xs.length/\σ' = us.map some++σ/\H' = H/\K us) (hs:∀ x,foldedSetIterable iter X.env x=pure x) (fin:∀ (D C:Addr) (H':Hp) (s':Shared) (m:La),Inv X pins σ H' s'->lK X pins H' C->s'.heap.Ns C m->QV (.ref D) H'->compPost (model X.prog X.w) X.A E use Q (.ref D) C (.ok .next) s') : fN X (comprehension (.ListComp elt [⟨tg,iter,ifs,0⟩] scope pos) scope X.env (firstIterPos [⟨tg,iter,ifs,0⟩] pos) (newList []) false (eval iter X.env) use) Q E s:=by
 obtain⟨cl,hcl,cl1,cl2⟩:=Tp (env:=X.env) (scope:=scope) (λy hy hf=>I.ok.has y.1 (.inl (L.free y hy hf)));refine wpAny_comprehension_free (use:=use) rfl hs hcl L.kind L.names (um hi (λxv s₁ h₁=>um h₁ (λit s2 h₂=>?_) λ_ _ e=>e) λ_ _ e=>e);obtain⟨it,fp,tn,J,H2,rfl,I2,T,st2,f2,hW⟩:=h₂;have fr2:H2 s2.heap.objs.size=none:=I2.hok.fresh (ui _);obtain⟨W,⟨m0,w0⟩,turn⟩:=hW _ fr2;refine Ux ?_
 have I3:Inv X pins σ (upd H2 s2.heap.objs.size (.lst [])) { s2 with heap:=s2.heap.push { cls:=.type "list",dict:=none,data:=.seq ([]:Lg).toArray } }:=
  I2.laid (t':=s2.toks) (o:=.lst []) (λb ob q=>uf _ q) (ui _) ⟨uZ _,[],0,.nil,uB _ rfl⟩
 generalize hD:s2.heap.objs.size=D at I3 turn w0 fr2 ⊢;generalize hH3:upd H2 D (.lst [])=H3 at I3 w0;generalize hs3:({ s2 with heap:=s2.heap.push { cls:=.type "list",dict:=none,data:=.seq ([]:Lg).toArray } }:Shared)=s3 at I3 ⊢;have k23:∀ b o,s2.heap.get? b=some o->s3.heap.get? b=some o:=λb o e=>by rw [← hs3];exact uf _ e
 have os3:s3.os=s2.os:=by rw [← hs3]
 have fpD:∀ b∈fp,b≠D:=λb hb z=>by obtain⟨o,e,_⟩:=T.obj _ _ st2 b hb;exact absurd (ug e) (by rw [z,← hD];exact uY _)
 have f3:∀ b∈fp,lK X pins H3 b:=λb hb=>⟨by rw [← hH3,zk (fpD b hb)];exact(f2 b hb).1,(f2 b hb).2⟩
 have st3:tn 0 s3.heap:=T.keep _ _ _ st2 λb hb o e=>k23 b o e;refine wpAny_newFunctionEnv L.cell (λy hy=>by simp at hy) (λh₁ hns₁ hsb₁=>?_) L.kind;generalize hC:s3.heap.objs.size=C at hns₁ hsb₁ ⊢;have k34:∀ b o,s3.heap.get? b=some o->h₁.get? b=some o:=λb o e=>hsb₁.extBut b o (by rintro rfl;exact absurd (ug e) (by rw [hC];exact uY _)) (uf _ e)
 let X':Cx:=mM X xs scope cl C s3 H3 fp;have relab:∀ y,X'.env.scope.names.lookup y=(scope.names.lookup y).map λk=>if (k == NameKind.free&&X.env.scope.kind == .function&&X.env.kindOf y == some .cell) then NameKind.cell else k:=λy=>vV y scope.names
 have visC:∀ y,(X'.env.kindOf y=some .cell\/X'.env.kindOf y=some .free)->scope.names.lookup y=some .free:=λy hy=>by
  have e:=relab y;have hy:X'.env.scope.names.lookup y=some .cell\/X'.env.scope.names.lookup y=some .free:=hy;rw [e] at hy;cases q:scope.names.lookup y with
  | none=>rw [q] at hy;simp at hy
  | some k=>
   rw [q] at hy;simp only [uW,gx] at hy;by_cases hf:k=.free
   ·rw [hf]
   ·have hb:(k == NameKind.free)=false:=by simpa using hf
    simp only [hb,Ge,gn,Gh] at hy;rcases hy with rfl | rfl
    ·exact absurd rfl (L.cell _ (uO q))
    ·exact absurd rfl hf
 have okX':X'.Ok:=by
  refine⟨I3.ok.mod,?_,I3.ok.glob,I3.ok.blt,?_,?_,?_,?_,I3.ok.hd,I3.ok.frames,.inl rfl,?_,?_,?_,?_,?_,?_,?_⟩
  ·show(relabel scope X.env).kind=.function;exact L.kind
  ·show s3.heap.objs.size<=C;exact gQ hC
  ·exact λa b c h1 h2=>I3.ok.inj a b c (cl1 a c h1) (cl1 b c h2)
  ·exact λy hy=>cl2 (y,.free) (uO (visC y hy)) rfl
  ·exact λy c hf=>by cases hf
  ·refine λb hb=>⟨?_,λy c e z=>(f3 b hb).2.2.2.2.1 y c (cl1 y c e) z⟩
   show b≠C;intro z;obtain⟨o,e,_⟩:=T.obj _ _ st3 b hb;exact absurd (ug e) (by rw [z,← hC];exact uY _)
  ·exact λb o e=>I3.bs b o e
  ·exact uJ I3.ok.bsz I3.sz
  ·intro b o e hb;rcases(f3 b hb).2.2.2.1 with z | z
   ·exact I3.ok.noex b o e z
   ·exact absurd (ur (ug e) (uJ I3.ok.bsz z)) (uY _)
  ·intro b hb z;rcases uq.mp (I3.stkSub b z) with e | e
   ·exact(f3 b hb).2.1 e
   ·exact(f3 b hb).2.2.1 e
  ·exact I3.stack
  ·exact I3.stkFree
 have hfreeC:H3 C=none:=I3.hok.fresh (gQ hC)
 have I4:Inv X' [] (List.replicate xs.length none++σ) H3 { s3 with heap:=h₁,toks:=s3.toks+([]:List (Str×Value)).length }:=by
  refine⟨okX',rfl,I3.bare,Un.kept k34,⟨_,hns₁,?_⟩,?_,hfreeC,?_,λp hp=>absurd (show p∈([]:Lp) from hp) (by simp),I3.hok.kept k34,?_⟩
  ·intro i y v e1 e2 e3;rcases Nat.lt_or_ge i xs.length with hlt | hge
   ·rw [UD (by rw [Uo];exact hlt),gI,ue hlt] at e2;cases e2
   ·obtain⟨j,rfl⟩:∃ j,i=xs.length+j:=⟨i - xs.length,by lia⟩
    have e1:(X.N.map (ly xs))[j]? = some y:=by have z:(xs++X.N.map (ly xs))[xs.length+j]? = some y:=e1;rwa [UB (by lia),gL] at z
    have e2:σ[j]? = some (some v):=by rwa [UB (by rw [Uo];lia),Uo,gL] at e2
    have hyN:y∈X.N.map (ly xs):=uP e1
    have hfr:scope.names.lookup y=some .free:=by
     rcases e3 with e3 | e3 | e3
     ·rw [relab y] at e3;cases q:scope.names.lookup y with
      | none=>rw [q] at e3;simp at e3
      | some k=>
       rw [q] at e3;simp only [uW,gx] at e3;by_cases hf:k=.free
       ·rw [hf]
       ·have hb:(k == NameKind.free)=false:=by simpa using hf
        simp only [hb,Ge,gn,Gh] at e3;exact absurd (by rw [q,e3]) (L.out y hyN)
     ·exact visC y (.inl e3)
     ·exact visC y (.inr e3)
    have e1:X.N[j]? = some y:=by
     rw [Uk] at e1;cases q0:X.N[j]? with
     | none=>rw [q0] at e1;cases e1
     | some y0=>
      rw [q0] at e1;have e1:ly xs y0=y:=uG e1;unfold ly at e1;split at e1
      ·rename_i hy0;rw [← e1,L.blank _ (uP q0) hy0] at hfr;cases hfr
      ·rw [e1]
    have hkc:=L.free (y,.free) (uO hfr) rfl;have hkc:X.env.kindOf y=some .cell:=hkc;obtain⟨mX,_,hlX⟩:=I3.loc;obtain⟨u,r,l⟩:=hlX j y v e1 e2 (.inr (.inl hkc));refine⟨u,r,?_⟩;rcases l with⟨l,_⟩ | ⟨_,c,hc,hcell⟩
    ·rw [hkc] at l;cases l
    ·obtain⟨c',hc'⟩:=cl2 (y,.free) (uO hfr) rfl;have hc':cl.lookup y=some c':=hc';have:=cl1 y c' hc';rw [hc] at this;cases this;refine .inr ⟨?_,c,hc',?_⟩
     ·rcases e3 with e3 | e3 | e3
      ·rw [relab y,hfr] at e3;simp only [uW,gx] at e3;split at e3<;>cases e3
      ·exact .inl e3
      ·exact .inr e3
     ·obtain⟨o,ho,hd⟩:=hcell;exact⟨o,k34 _ _ ho,hd⟩
  ·intro y c e;obtain⟨v,o,ho,hd⟩:=I3.cell y c (cl1 y c e);exact⟨v,o,k34 _ _ ho,hd⟩
  ·exact λy c e=>I3.freeC y c (cl1 y c e)
  ·show(List.replicate xs.length none++σ).length=(xs++X.N.map (ly xs)).length;rw [uc,uc,Uo,uk,I3.len]
 have st4:tn 0 h₁:=T.keep _ _ _ st3 λb hb o e=>k34 b o e;have stat:∀ {H':Hp},(∀ b∈fp,H' b=none)->∀ b∈fp,lK X' [] H' b:=λhn b hb=>by refine⟨hn b hb,(okX'.exf b hb).1,okX'.exfs b hb,.inl hb,(okX'.exf b hb).2,λp hp=>absurd (show p∈([]:Lp) from hp) (by simp)⟩
 have loop:∀ s4:Shared,s4={ s3 with heap:=h₁,toks:=s3.toks+([]:List (Str×Value)).length } ->
   codeAny (model X.prog X.w) X.A (.compLoop (.ListComp elt [⟨tg,iter,ifs,0⟩] scope pos) 0 (.ref it) (.ref D) X'.env) (compPost (model X.prog X.w) X.A E use Q (.ref D) C) s4:=by
  rintro s4 rfl
  refine KA (λn s'=>∃ i ys os H',os.length=xs.length/\Inv X' [] (os++σ) H' s'/\tn i s'.heap/\(∀ b∈fp,H' b=none)/\W i n ys H') ?_ m0 ⟨0,[],List.replicate xs.length none,H3,Uo,I4,st4,λb hb=>(f3 b hb).1,w0⟩
  rintro n s5 ⟨i,ys,os,H5,hos,I5,st5,fr5,w5⟩
  obtain⟨hD5,turn5⟩:=turn i n ys H5 w5
  rcases turn5 with⟨stop,qn⟩ | ⟨go,step⟩
  ·refine um (T.done X' rfl rfl rfl L.calm i [] s5 (os++σ) H5 (λ_ _=>False) I5 (stat fr5) st5 stop) (λr s6 h6=>?_) λ_ _ z=>z
   obtain⟨rfl,I6⟩:=h6
   have un6:Un (lN X.stack) fp H3 H5 s3.heap s6.heap:=I6.base
   have IX:Inv X pins σ H5 s6:=I3.call' I6.os un6 I6.hok I6.bare λb hb=>⟨(f3 b hb).2.2.2.1,(f3 b hb).2.1,(f3 b hb).2.2.2.2.1,(f3 b hb).2.2.2.2.2⟩
   obtain⟨mC,hnC,_⟩:=I6.loc
   exact fin D C H5 s6 mC IX (I3.fpOk (H':=H5) (gQ hC) I6.free) hnC qn
  ·refine um (T.item X' rfl rfl rfl L.calm i [] s5 (os++σ) H5 (λ_ _=>False) I5 (stat fr5) st5 go) (λr s6 h6=>?_) λ_ _ z=>z.elim
   obtain⟨u,rfl,h6⟩:=h6
   refine um h6 (λ_ s6 h6=>?_) λ_ _ z=>z
   obtain⟨v,H6,I6,r6,y6,st6,fr6⟩:=h6
   have I6':=I6.pinned (stat fr6) (T.obj _ _ st6)
   have hv6:=step v H6 y6
   show wpAny (model X'.prog X'.w) X'.A (assign tg X'.env u) _ _ s6
   refine um (Q:=λ_ s7=>∃ us:List V,us.length=xs.length/\Inv X' ([]++JN fp s6.heap) (us.map some++σ) H6 s7/\tt (us.map some++σ) H6 λb H3=>if b=true then te (us.map some++σ) H3 λy H4=>H4 D=some (.lst ys)/\ys.length<sizeLine/\∃ m',m' < n/\W (i+1) m' (ys++[y]) (upd H4 D (.lst (ys++[y]))) else ∃ m',m' < n/\W (i+1) m' ys H3) (E:=λ_ _=>False) (um (hg cl C s3 H3 fp _ s6 _ H6 v u _ I6' r6 (hb v H6 os _ hos hv6)) (λ_ s7 h7=>?_) λ_ _ z=>z) (λ_ s7 h7=>?_) λ_ _ z=>z.elim
   ·obtain⟨σ7,H7,I7,us,hl,rfl,rfl,hk⟩:=h7
    exact⟨us,hl,I7,hk⟩
   obtain⟨us,hus,I7,hv6⟩:=h7
   refine um ((ht cl C s3 H3 fp) _ s7 _ H6 _ I7 hv6) (λb s8 h8=>?_) λ_ _ z=>z.elim
   obtain⟨H8,I8,q8⟩:=h8
   have done:∀ {ys':List V} {H9:Hp} {s9:Shared} {n':Nat},Inv X' ([]++JN fp s6.heap) (us.map some++σ) H9 s9->W (i+1) n' ys' H9->∃ i ys os H',os.length=xs.length/\Inv X' [] (os++σ) H' s9/\tn i s9.heap/\(∀ b∈fp,H' b=none)/\W i n' ys H':=λ{ys' H9 s9 n'} I9 w9=>by
    refine⟨i+1,ys',us.map some,H9,by rw [uk];exact hus,I9.unpinned,T.keep _ _ _ st6 λb hb o e=>(I9.pin (b,o) (uR _ (uR _ (kD hb e)))).1,λb hb=>?_,w9⟩
    obtain⟨o,e,d⟩:=T.obj _ _ st6 b hb
    exact(I9.pin (b,o) (uR _ (uR _ (kD hb e)))).2.1
   cases b with
   | false=>
    have q8:∃ m',m' < n/\W (i+1) m' ys H8:=q8
    obtain⟨m',hm,w8⟩:=q8
    exact⟨m',hm,done I8 w8⟩
   | true=>
    have q8:te (us.map some++σ) H8 _:=q8
    refine um ((he cl C s3 H3 fp) _ s8 _ H8 _ I8 q8) (λyv s9 h9=>?_) λ_ _ z=>z.elim
    obtain⟨y,H9,I9,r9,hD9,hz9,m',hm,w9⟩:=h9
    refine um (xJ (X:=X') _ s9 _ H9 (.ref D) [y] (.ref D) [yv] (λv' H'=>v' = .non/\H' = upd H9 D (.lst (ys++[y]))) I9 rfl (.cons r9 .nil) ⟨D,ys,y,rfl,rfl,hD9,hz9,rfl,rfl⟩) (λ_ s10 h10=>?_) λ_ _ z=>z.elim
    obtain⟨_,H10,I10,_,_,rfl⟩:=h10
    exact⟨m',hm,done I10 w9⟩
 exact codeAny_compStart_list (loop _ rfl) (T.self _ 0 _ _ _ st4 (loop _ rfl))
end
theorem Lw {v:V}{H:Hp}{os σ:St}{K:List V->Prop}(hl:os.length=1)(h:K [v]):xD 0 v (os++σ) H λσ' H'=>∃ us:List V,us.length=1/\σ' = us.map some++σ/\H' = H/\K us:=by
 obtain _ | ⟨o,_ | ⟨o',os⟩⟩:=os
 ·cases hl
 ·exact⟨[v],rfl,rfl,rfl,h⟩
 ·cases hl
theorem EN {l:Lj}(h:x∉l):l.map (ly [x])=l:=by refine(gi λy hy=>?_).trans (List.map_id l);unfold ly;rw [ub (λz=>h (by rwa [← uC.mp z]))];rfl
theorem Jn.gen {scope:Scope}(L:Jn X x scope):ZD X [x] scope:=by have e:=EN L.xN;refine⟨?_,L.kind,L.cell,L.names,λy hy=>by rw [uC.mp hy];exact L.var,L.free,by rw [e];exact L.out,λy hy h=>absurd (by rwa [← uC.mp h]) L.xN,L.calm⟩;rw [e];exact Ug.mpr ⟨L.xN,L.nd⟩
theorem KC {X:Cx}{scope:Scope}(h:x∉X.N):mM X [x] scope cl C s3 H3 fp=rJ X x scope cl C s3 H3 fp:=by unfold mM rJ;rw [EN h];rfl
theorem KD {scope:Scope}(h:scope.names.lookup x=some .local):(compEnvC scope cl C env).scope.names.lookup x=some .local:=by show(relabel scope env).names.lookup x=_;exact(vV x scope.names).trans (by rw [h];rfl)
theorem Lv {scope:Scope}(L:ZD X (x::xs) scope):PG (mM X (x::xs) scope cl C s3 H3 fp) (.Name x px) (xD 0):=by have hv:(compEnvC scope cl C X.env).scope.names.lookup x=some .local:=KD (L.var x Up);exact Ez (X:=mM X (x::xs) scope cl C s3 H3 fp) L.nd rfl (.inl hv) (.inr hv)
section
variable {X:Cx} {elt iter:Expr} {x:Str} {px pos:Pos} {ifs:Lh} {scope:Scope} {wi:TI} {tt:TT} {te:TE}
theorem NB {pins:Lp}{σ:St}{H:Hp}{s:Shared}{E:fL}{Q:fL}{use:Option (Value->Sem Unit)}{QV:VK}(L:Jn X x scope)(I:Inv X pins σ H s) (hi:fN X (eval iter X.env) (λv s1=>fN X (pyIter v) (tJ X pins σ (.Name x px) (λJ H1=>∀ D,H1 D=none->∃ W:Nat->Nat->List V->Hp->Prop,(∃ m,W 0 m [] (upd H1 D (.lst [])))/\∀ i m ys H',W i m ys H'->H' D=some (.lst ys) /\ ((J.stop i H'/\QV (.ref D) H')\/(J.go i H'/\∀ v H2,J.yld i H' v H2->tt (some v::σ) H2 λb H3=> if b=true then te (some v::σ) H3 λy H4=>H4 D=some (.lst ys)/\ys.length<sizeLine/\∃ m',m' < m/\W (i+1) m' (ys++[y]) (upd H4 D (.lst (ys++[y]))) else ∃ m',m' < m/\W (i+1) m' ys H3)))) E s1) E s) (ht:∀ cl C s3 H3 fp,tH (rJ X x scope cl C s3 H3 fp) ifs tt) (he:∀ cl C s3 H3 fp,PE (rJ X x scope cl C s3 H3 fp) elt te) (hs:∀ x,foldedSetIterable iter X.env x=pure x) (fin:∀ (D C:Addr) (H':Hp) (s':Shared) (m:La),Inv X pins σ H' s'->lK X pins H' C->s'.heap.Ns C m->QV (.ref D) H'->compPost (model X.prog X.w) X.A E use Q (.ref D) C (.ok .next) s') : fN X (comprehension (.ListComp elt [⟨.Name x px,iter,ifs,0⟩] scope pos) scope X.env (firstIterPos [⟨.Name x px,iter,ifs,0⟩] pos) (newList []) false (eval iter X.env) use) Q E s:=by refine RV (bnd:=λv _ k=>k [v]) (g:=xD 0) L.gen I hi (λcl C s3 H3 fp=>by rw [KC L.xN];exact ht cl C s3 H3 fp) (λcl C s3 H3 fp=>by rw [KC L.xN];exact he cl C s3 H3 fp) (λcl C s3 H3 fp=>Lv L.gen) (λv H os K hl h=>Lw hl h) hs fin
theorem RU {pz spos:Pos}(hN:X.N.Nodup)(hi':X.N[i]? = some z)(hz:Loc X.env.scope z)(L:Jn X x scope)(hi:PI X (.Name x px) iter wi)(ht:∀ cl C s3 H3 fp,tH (rJ X x scope cl C s3 H3 fp) ifs tt)(he:∀ cl C s3 H3 fp,PE (rJ X x scope cl C s3 H3 fp) elt te) (hs:∀ x,foldedSetIterable iter X.env x=pure x:=by intro _;rfl) (hsw:swapsWith (.ListComp elt [⟨.Name x px,iter,ifs,0⟩] scope pos) (some (.Name z pz)) spos.line X.env=pure true:=by rfl) (hf:X.fn z=true\/X.env.scope.names.lookup z=some .local:=by first | exact .inl rfl | exact .inr rfl | assumption):PS X (.Assign [.Name z pz] (.ListComp elt [⟨.Name x px,iter,ifs,0⟩] scope pos) spos) (mW (Fo wi tt te) (xD i)):=by
 intro pins s σ H D I h;rw [exec_Assign_Name_used _ _ _ _ hsw];refine ua (u5 (ua ?_));show wpAny _ X.A (do let _ ← comprehension (.ListComp elt [⟨.Name x px,iter,ifs,0⟩] scope pos) scope X.env _ (newList []) false (eval iter X.env) (some (assign (.Name z pz) X.env))) _ _ s;refine ua (um (NB (use:=some (assign (.Name z pz) X.env)) (Q:=λ_ s'=>SP X pins D .next s') (QV:=λv H'=>D.nx (σ.set i (some v)) H') L I (hi pins s σ H _ I h) ht he hs λD' C H' s' m IX fC hn q=>?_) (λ_ s' hq=>ud (ud hq)) λ_ _ e=>e);show wpAny _ X.A (assign (.Name z pz) X.env (.ref D')) _ _ s';refine Ha (VB IX hN hi' hz (show RelV (.ref D') (.ref D') from rfl) (λs2 I2 hch=>?_) hf);obtain⟨a,sb,ha⟩:=hch
 have hCa:C≠a:=by
  rcases ha with e | e
  ·rw [e];exact fC.2.1
  ·intro z';exact fC.2.2.2.2.1 _ _ e z'.symm
 refine⟨m,hn.sameBut sb hCa,λh' hs'=>?_⟩;exact⟨_,H',I2.turned (t':=s2.toks) (λb o hb e=>hs'.extBut b o hb e) fC.1 fC.2.1 fC.2.2.2.1 fC.2.2.2.2.1 fC.2.2.2.2.2,q⟩
end
def S (l:Ld):Str:=⟨l.toArray⟩
theorem DX (l:Ld):(S l).cps.toList=l:=rfl
theorem Zr (l:Ld):(S l).length=l.length:=by simp [S,Str.length]
theorem Yi (l:Ld):(S l).cps.size=l.length:=by simp [S]
theorem C8 (l:Ld)(i:Nat):(S l).cps[i]? = l[i]?:=by simp [S]
theorem yu:S a=S b↔a=b:=⟨λh=>by have:=congrArg (λx=>x.cps.toList) h;simpa [S] using this,λh=>by rw [h]⟩
theorem F2 (a b:Ld):S a++S b=S (a++b):=by show Str.append (S a) (S b)=_;simp [S,Str.append]
theorem C7:(V.str (S a)=V.str (S b))=(a=b):=by rw [V.str.injEq,yu]
section
variable {X:Cx} {a b e:Expr} {ta tb te:TE} {pos:Pos}
theorem BX {j pos}(h:x=S l):PE X (.Constant (.str x) j pos) (tC (.str (S l))):=by subst h;exact Bu
theorem jE:iM X (binaryOp .Add) (λx y H Q=>∃ i j,x=.str (S i)/\y=.str (S j)/\i.length+j.length<=sizeLine/\Q (.str (S (i++j))) H):=by intro pins s σ H x y v u Q I rx ry h;obtain⟨i,j,rfl,rfl,hz,q⟩:=h;exact za4 pins s σ H _ _ v u Q I rx ry ⟨S i,S j,rfl,rfl,by rw [Zr,Zr];exact hz,by rw [F2];exact q⟩
theorem jP:iM X (binaryOp .Mult) (rI IntMulOk λi j=>.int (i * j)):=sV λ_ _ _ _ _ _ _ hc q=>mul_int q hc
theorem vz:iM X (compareOp .In) (λx y H Q=>∃ c l,x=.str (S [c])/\y=.str (S l)/\Q (.bl (decide (c∈l))) H):=by intro pins s σ H x y v u Q I rx ry h;obtain⟨c,l,rfl,rfl,q⟩:=h;refine VE pins s σ H _ _ v u Q I rx ry ⟨S [c],S l,rfl,rfl,?_⟩;rw [show S [c]=⟨#[c]⟩ from rfl,StrLaws.found_one];exact q
theorem VO:iM X (compareOp .NotIn) (λx y H Q=>∃ c l,x=.str (S [c])/\y=.str (S l)/\Q (.bl (!decide (c∈l))) H):=by intro pins s σ H x y v u Q I rx ry h;obtain⟨c,l,rfl,rfl,q⟩:=h;refine V8 pins s σ H _ _ v u Q I rx ry ⟨S [c],S l,rfl,rfl,?_⟩;rw [show S [c]=⟨#[c]⟩ from rfl,StrLaws.found_one];exact q
def DW:R2:=λx y H Q=>∃ l i c,x=.str (S l)/\y=.int i/\l.length<=sizeLine/\lQ l i=some c/\Q (.str (S [c])) H
theorem pb:nR X DW:=by intro value slice pins s σ H x y v u Q I rx ry h hs;obtain⟨l,i,c,rfl,rfl,hz,he,q⟩:=h;exact Lz value slice pins s σ H _ _ v u Q I rx ry ⟨S l,i,c,rfl,rfl,by rw [Zr];exact hz,he,q⟩ hs
theorem JT:jB X (.builtin "len") (λxs H Q=>∃ l,xs=[.str (S l)]/\l.length<=sizeLine/\Q (.int l.length) H):=by intro pins s σ H xs us Q I r h;obtain⟨l,rfl,hz,q⟩:=h;exact Yd pins s σ H _ us Q I r ⟨S l,rfl,by rw [Zr];exact hz,by rw [Zr];exact q⟩
end
section
variable {X:Cx} {a b e:Expr} {ta tb te:TE} {pos:Pos}
theorem RZ {i:Int}(h0:0<=i)(h1:i<1000000):i.natAbs.log2<1920:=by
 have:i.natAbs<2 ^ 20:=by lia
 by_cases hz:i.natAbs=0
 ·rw [hz];decide
 ·have:=(Nat.log2_lt hz).mpr this;lia
def kl (c:Nat):Bool:=48<=c&&c<=57
theorem SN:jB X (.type "int") (λxs H Q=>∃ c d:Nat,xs=[.str (S [c,d])]/\kl c=true/\kl d=true/\Q (.int (((c - 48) * 10+(d - 48):Nat):Int)) H):=by
 intro pins s σ H xs us Q I r h;obtain⟨c,d,rfl,hc,hd,q⟩:=h;obtain⟨u,rfl,t,rfl⟩:=vals1 r;unfold kl at hc hd;simp only [uH,Uy] at hc hd
 have hn:PySem.intText? (S [c,d])=some (((c - 48) * 10+(d - 48):Nat):Int):=by
  rw [intText_digits (x:=S [c,d]) (λz hz=>?_) (by simp [S]) (by rw [Zr];show 2<=4300;decide)]
  ·rw [DX];simp [NumText.digitsVal]
  ·rw [DX] at hz;simp at hz;rcases hz with rfl | rfl
   ·exact hc
   ·exact hd
 exact PySem.W.KIN.call_text hn (by rw [Zr];show 2<=640;decide) ⟨.int _,H,I.tok _,⟨_,rfl⟩,q⟩
end
structure fW (P:Program)(w:World)(K:Lf)(mg:La)(base:Heap)(k:Nat)(x:Str)(ps:Lj)(sp:Sp):Prop where
 ex:∃ (f:Addr) (fd:FuncData),PySem.W.keepIn K (.ref f)=true/\Binds K fd ps []/\(mg x=some (.ref f)/\∃ oc od osl,K.lookup f=some ⟨oc,od,.func fd,osl⟩)/\iD P w K mg base mr k f fd ps sp
structure Df (K:Lf)(mg:La)(x:Str)(st:Stmt)(ps:Lj):Prop where
 ex:∃ (f:Addr) (fd:FuncData),oB K x x st f fd/\Binds K fd ps []/\mg x=some (.ref f)
section
variable {P:Program} {w:World} {K:Lf} {mg:La} {base:Heap}
theorem Df.ok {x:Str}{st:Stmt}{ps N:Lj}{k:Nat}{sp:Sp}(D:Df K mg x st ps)(Sc:zj N ps (zf st))(len:∀ vs H Q E,sp vs H Q E->vs.length=ps.length) (hbody:∀ (f:Addr) (cdv:Value) (A:Around) (outer:List Env) (s:Shared) (H:Hp) (vs:List V) (Q:VK) (E:XK),ib k (A.deeper (envOfC x (zf st) s.heap.objs.size f cdv))->sp vs H Q E -> ∃ t,lJ (iK mr P w K mg base N x (zf st) f cdv A outer s H E).nox (zV st) t/\t { nx:=λ_ H'=>Q .non H',rt:=Q } (start N vs) H):fW P w K mg base (k+1) x ps sp:=by obtain⟨f,fd,F,b,m⟩:=D.ex;refine⟨f,fd,F.kp,b,⟨m,?_⟩,F.ok Sc len (λcdv A outer s H vs Q E hr h=>hbody f cdv A outer s H vs Q E hr h)⟩;obtain⟨oc,od,kV,doc,pm,an,cdv,ct,osl,rfl,lk,hcd⟩:=F.ex;exact⟨oc,od,osl,lk⟩
theorem fW.mono (F:fW P w K mg base j x ps sp)(h:j<=k):fW P w K mg base k x ps sp:=by obtain⟨f,fd,kp,b,m,G⟩:=F.ex;exact⟨f,fd,kp,b,m,G.mono h⟩
theorem fW.imp (F:fW P w K mg base k x ps sp)(h:∀ vs H Q E,sp' vs H Q E->sp vs H Q E):fW P w K mg base k x ps sp':=by obtain⟨f,fd,kp,b,m,G⟩:=F.ex;exact⟨f,fd,kp,b,m,G.imp h⟩
end
section
variable {P:Program} {w:World} {K:Lf} {mg:La} {base:Heap}
theorem F1 {h:Heap}{x:Str}{st:Stmt}{ps:Lj}{f:Addr}{oc:Value}{od an:Option Addr}{osl:Array (Option Value)}{kV doc pm cdv ct:Value}(X:K.In h)(G:h.Ns mainGlobals mg) (b:∀ (kV doc pm:Value) (an:Option Addr) (cdv ct:Value) (us:Lg),us.length=ps.length->bindArgs (PySem.W.fnOf x x (jd st) (zV st) (zf st) .none kV doc pm an cdv ct) ⟨us,[]⟩=pure (ps.zip us)) (a:PySem.W.nsIn K mainGlobals x=some (some (.ref f))) (l:K.lookup f=some ⟨oc,od,.func (PySem.W.fnOf x x (jd st) (zV st) (zf st) .none kV doc pm an cdv ct),osl⟩) (c:PySem.W.codeIn K cdv x=true) (k:PySem.W.keepIn K (.ref f)=true):Df K mg x st ps:= ⟨f,_,ZC l c k,(ZC l c k).binds b,Us X G a⟩
theorem Lu {st:Stmt}{x:Str}{k:Nat}{fa:Addr}{sp:Sp}(D:Df K mg "law" st [x])(hfa:mg "law" = some (.ref fa)) (hb:∀ (kV doc pm:Value) (an:Option Addr) (cdv ct:Value) (s:Shared) (u:Value),BindsTo s (PySem.W.fnOf "law" "law" (jd st) (zV st) (zf st) .none kV doc pm an cdv ct) ⟨[u],[]⟩ [(x,u)]) (F:∀ base:Heap,fW P w K mg base k "law" [x] sp) : ∃ fd:FuncData,(∀ (s:Shared) (v:Value),BindsTo s fd ⟨[v],[]⟩ [(x,v)])/\∀ base:Heap,K.In base->base.Ns mainGlobals mg->iD P w K mg base mr k fa fd [x] sp:=by
 obtain⟨f,fd,G,b,m⟩:=D.ex;have e:f=fa:=by rw [hfa] at m;cases m;rfl
 subst e;obtain⟨oc,od,kV,doc,pm,an,cdv,ct,osl,rfl,lk,hcd⟩:=G.ex;refine⟨_,λs v=>hb kV doc pm an cdv ct s v,λbase _ _=>?_⟩;obtain⟨f',fd',_,_,⟨m',oc',od',osl',lk'⟩,ok⟩:=(F base).ex;have e:f' = f:=by rw [hfa] at m';cases m';rfl
 subst e;rw [lk] at lk';cases lk';exact ok
end
section
variable {X:Cx} {k j:Nat} {x:Str} {ps:Lj} {sp:Sp} {p pos:Pos} {e:Expr} {es:Lh} {t:TA}
theorem RT (F:fW X.prog X.w X.K X.mg X.base k x ps sp)(hr:ib j X.A)(hk:k<=j)(ha:PA X (e::es) t)(hg:Gl X x:=by rfl) (hdb:(x == ("__debug__":Str))=false:=by decide) (he:SE X e es:=by rfl) (hpl:(backTo pos (starEach es X.env)).any (·.1)=false:=by rfl):PE X (.Call (.Name x p) (e::es) [] pos) (yt sp [] E0 t):=by obtain⟨f,fd,kp,b,m,G⟩:=F.ex;exact ET G (hr.mono hk) hg m.1 kp b .nil AN ha hdb he hpl
theorem SM (F:fW X.prog X.w X.K X.mg X.base k x ps sp)(hr:ib j X.A)(hk:k<=j)(hg:Gl X x:=by rfl) (hdb:(x == ("__debug__":Str))=false:=by decide):PE X (.Call (.Name x p) [] [] pos) (yt sp [] E0 iU):=by obtain⟨f,fd,kp,b,m,G⟩:=F.ex;exact RE G (hr.mono hk) hg m.1 kp b .nil AN hdb
theorem FZ (h:∃ u,X.mg x=some u/\RelV v u)(hg:Gl X x:=by rfl) (hd:(x == ("__debug__":Str))=false:=by decide):PE X (.Name x pos) (tC v):=by obtain⟨u,m,r⟩:=h;exact EA hg m r hd
theorem Ls (hm:X.mg x=none)(hv:bootBuiltins x=some u)(r:RelV v u)(hg:Gl X x:=by rfl) (hn:x≠"__name__":=by decide) (hd:(x == ("__debug__":Str))=false:=by decide):PE X (.Name x pos) (tC v):=
 OI hg hm hv r hn hd
theorem lcs {N:Lj}{sc scope:Scope}(e1:X.N=N)(e2:X.env.scope=sc)(c:X.calm=true) (h:x∉N/\N.Nodup/\scope.kind=.function/\(∀ y∈scope.names,y.2≠.cell)/\(∀ y∈scope.names,y.2=.local->scope.names.lookup y.1=some .local)/\scope.names.lookup x=some .local /\ (∀ y∈scope.names,y.2=.free->sc.names.lookup y.1=some .cell)/\(∀ y∈N,scope.names.lookup y≠some .local)):Jn X x scope:=by subst e1 e2;obtain⟨h1,h2,h3,h4,h5,h6,h7,h8⟩:=h;exact⟨h1,h2,h3,h4,h5,h6,h7,h8,c⟩
theorem NA:iM X (binaryOp .Add) (λx y H Q=>(∃ i j,x=.int i/\y=.int j/\Q (.int (i+j)) H)\/∃ i j,x=.str (S i)/\y=.str (S j)/\i.length+j.length<=sizeLine/\Q (.str (S (i++j))) H):=qO.or jE
theorem KG:jB X (.builtin "isinstance") (λxs H Q=>∃ x n t b,xs=[x,.ty n]/\lH X.K H x t/\PySem.W.kitOne X.K t (.type n)=some b/\Q (.bl b) H):=by intro pins s σ H xs us Q I r h;obtain⟨x,n,t,b,rfl,ty,e,q⟩:=h;obtain⟨u,w',rfl,rx,ry⟩:=vals2 r;cases ry;exact Se I rx ty e λtk=>⟨.bl b,H,I.tok _,rfl,q⟩
section
variable {K:Lf} {o:Expr} {to:TE} {name:Str} {apos cpos:Pos} {T id:String} {r:V->List V->Hp->VK->Prop}
theorem Lq (hK:X.K=K)(pa:PlainAttrs T)(slot:Slot T name id)(hty:typeOf (.builtin id)=pure (.type "method_descriptor"))(hm:oy X id r)(ho:PE X o to)(ha:PA X (e::es) t) (hbase:attributeBase o name X.env (eval o X.env)=eval o X.env:=by rfl) (hfew:((backTo cpos (starEach (e::es) X.env)).all (λx=>!x.1)&&(backToKw cpos (keywordEach [] X.env)).all (λx=>x.1.isSome) && decide ((e::es).length+([]:List Keyword).length+(if ([]:List Keyword).isEmpty then 0 else 1)<30))=true:=by rfl) (hline:(apos.endLine == cpos.line)=true:=by rfl) (hs:SE X e es:=by rfl) (hplain:(backTo cpos (starEach es X.env)).any (·.1)=false:=by rfl) : PE X (.Call (.Attribute o name apos) (e::es) [] cpos) (t6 K T r to t):=by subst hK;exact F3 pa slot hty hm ho ha hbase hfew hline hs hplain
theorem RS (hK:X.K=K):nR X (oU K):=by subst hK;exact NF
theorem Nz (hK:X.K=K):nR X (oS K):=by subst hK;exact LA
def Dz (K:Lf):List V->Hp->VK->Prop:=λxs H Q=>∃ p ys,xs=[.ref p]/\(ij K H p ys\/f7 K H p ys)/\Q (.int ys.length) H
theorem wH (hK:X.K=K):jB X (.builtin "len") (Dz K):=by subst hK;exact Yc
theorem PC (hK:X.K=K)(hl:PE X l tl):PI X tg l (Kw K tl):=by subst hK;exact Pg hl
end
end
theorem yT:bootBuiltins "len" = some (.builtin "len"):=by decide +kernel
theorem Lo:bootBuiltins "max" = some (.builtin "max"):=by decide +kernel
theorem Ln:bootBuiltins "min" = some (.builtin "min"):=by decide +kernel
theorem Dy:bootBuiltins "int" = some (.type "int"):=by decide +kernel
theorem zT:bootBuiltins "isinstance" = some (.builtin "isinstance"):=by decide +kernel
def sg:Ld:=[32,33,34,35,36,38,39,40,41,42,43,44,45,46,47,48,49,50,51,52,53,54,55,56,57,58,59,60,61,62,63,64,65,66,67,68,69,70,71,72,73,74,75,76,77,78,79,80,81,82,83,84,85,86,87,88,89,90,91,92,93,94,95,96,97,98,99,100,101,102,103,104,105,106,107,108,109,110,111,112,113,114,115,116,117,118,119,120,121,122,123,124,125,126]
def fg:Ld:=[48,49,50,51,52,53,54,55,56,57]
theorem Bf:sg.length=94:=by decide
theorem Yj (c:Nat):c∈fg↔kl c=true:=by unfold fg kl;simp only [uq,List.mem_nil_iff,GY,uH,Uy];omega
theorem Xu {α:Type}(xs:List α)(i:Nat):lQ xs (i:Int)=xs[i]?:=by
 cases h:xs[i]? with
 | some v=>exact NG h
 | none=>have h1:xs.length<=i:=UC.mp h;unfold lQ pe;rw [ue (by omega),ub (by omega)];rfl
theorem za (h:H a=none):fO H (upd H a o):=λb u e=>by rw [zk (zv e h)];exact e
def W2 (J:It)(g:TG)(tb:TS)(D:Ends)(σ:St)(H1:Hp):Prop:=∃ W:Nat->Nat->St->Hp->Prop,(∃ m,W 0 m σ H1)/\∀ i m σ H,W i m σ H ->
 (J.stop i H/\D.nx σ H)\/(J.go i H/\∃ N:St->Hp->Prop,(∀ σ' H',N σ' H'->∃ m',m' < m/\W (i+1) m' σ' H')/\∀ x H',J.yld i H x H'->g x σ H' λσ2 H2=>tb { D with nx:=N,ct:=N,bk:=D.nx } σ2 H2)
theorem Ny (wi:TI)(g:TG)(tb:TS):p7 wi g tb=λD σ H=>wi σ H λJ H1=>W2 J g tb D σ H1:=rfl
def Dx (c:TT)(tb:TS)(D:Ends)(σ:St)(H:Hp):Prop:=∃ W:Nat->St->Hp->Prop,(∃ m,W m σ H)/\∀ m σ H,W m σ H ->
 c σ H λb H1=>if b=true then ∃ N:St->Hp->Prop,(∀ σ' H',N σ' H'->∃ m',m' < m/\W m' σ' H')/\tb { D with nx:=N,ct:=N,bk:=D.nx } σ H1 else D.nx σ H1
theorem SK (c:TT)(tb:TS):Bv c tb=λD σ H=>Dx c tb D σ H:=rfl
theorem vI {K:Lf}{a:Addr}{xs:List V}{g:TG}{tb:TS}{D:Ends}{σ:St}{H:Hp}(Pv:Nat->St->Hp->Prop)(h0:Pv 0 σ H)(hl:∀ i σ H,i<=xs.length->Pv i σ H->ij K H a xs)
  (hs:∀ i x σ H,xs[i]? = some x->Pv i σ H->g x σ H λσ2 H2=>tb { D with nx:=Pv (i+1),ct:=Pv (i+1),bk:=D.nx } σ2 H2) (hd:∀ σ H,Pv xs.length σ H->D.nx σ H):W2 (si K a) g tb D σ H:=RJ Pv h0 hl hs hd
theorem KI {D:Ends}(Pv:Nat->St->Hp->Prop)(h0:Pv 0 σ H) (hs:∀ i σ H,i<n->Pv i σ H->g (.int (i:Int)) σ H λσ2 H2=>tb { D with nx:=Pv (i+1),ct:=Pv (i+1),bk:=D.nx } σ2 H2) (hd:∀ σ H,Pv n σ H->D.nx σ H):W2 (Ag 0 n) g tb D σ H:=by
 refine⟨λi m σ H=>m=n - i/\i<=n/\Pv i σ H,⟨n,by simp,uZ _,h0⟩,?_⟩;rintro i m σ H ⟨rfl,hi,p⟩;by_cases hlt:i<n
 ·refine .inr ⟨hlt,Pv (i+1),λσ' H' p'=>⟨n - (i+1),by lia,rfl,hlt,p'⟩,λx H' y=>?_⟩;obtain⟨rfl,rfl⟩:=y;rw [Int.zero_add];exact hs i σ _ hlt p
 ·have e:i=n:=by lia
  subst e;exact .inl ⟨ui _,hd σ H p⟩
theorem FY {D:Ends}(Pv:Nat->St->Hp->Prop)(m:Nat)(h0:Pv m σ H)
  (hs:∀ m σ H,Pv m σ H->c σ H λb H1=>if b=true then ∃ N:St->Hp->Prop,(∀ σ' H',N σ' H'->∃ m',m' < m/\Pv m' σ' H')/\tb { D with nx:=N,ct:=N,bk:=D.nx } σ H1 else D.nx σ H1):Dx c tb D σ H:=
 ⟨Pv,⟨m,h0⟩,hs⟩
theorem zx {α:Type}(c:α)(l:List α):lQ (c::l) 0=some c:=by rw [show(0:Int)=((0:Nat):Int) from rfl,Xu];rfl
theorem q9 {α:Type}(c d:α)(l:List α):lQ (c::d::l) 1=some d:=by rw [show(1:Int)=((1:Nat):Int) from rfl,Xu];rfl
theorem Nv {α:Type}{xs:List α}{i:Int}(h0:0<=i)(h1:i<xs.length):∃ v,lQ xs i=some v/\xs[i.toNat]? = some v:=by
 obtain⟨n,rfl⟩:=gN h0;have hn:n<xs.length:=by lia
 refine⟨xs[n],?_,?_⟩
 ·rw [show((n:Nat):Int)=((n:Nat):Int) from rfl];rw [Xu,ux hn]
 ·rw [Int.toNat_natCast,ux hn]
theorem PB {ns:List Int}{i:Int}(h0:0<=i)(h1:i<ns.length):∃ n,lQ (ns.map V.int) i=some (.int n)/\n∈ns:=by
 obtain⟨v,h2,h3⟩:=Nv (xs:=ns.map V.int) h0 (by rw [uk];exact h1);rw [Uk] at h3;cases e:ns[i.toNat]? with
 | none=>rw [e] at h3;cases h3
 | some n=>rw [e] at h3;cases h3;exact⟨n,h2,uP e⟩
theorem kF (h:-(2 ^ 64)<i/\i<2 ^ 64):IntMulOk i j:=pF.ok (.inl h)
theorem Z8 (h:-(2 ^ 64)<j/\j<2 ^ 64):IntMulOk i j:=pF.ok (.inr h)
theorem Yk {a m:Int}(h:0<m):0<=a % m/\a % m<m:=⟨gg _ (by lia),gq _ h⟩
theorem om {i j:Int}(h:0<=j/\j<=1000000/\i.natAbs<2 ^ 64):tP i j:=h
def told (l:Ld):Option Nat:=match l with
 | [c,d]=>if kl c=true/\kl d=true then sg[(c - 48) * 10+(d - 48)]? else none
 | _=>none
theorem Nu {l:Ld}(h:l.length≠2):told l=none:=by
 match l,h with
 | [],_=>rfl
 | [_],_=>rfl
 | [_,_],h=>exact absurd rfl h
 | _::_::_::_,_=>rfl
def oV:Option Nat->V
 | some c=>.str (S [c])
 | none=>.non
def ws:Ld:=[97,98,99,100,101,102,103,104,105,106,107,108,109,110,111,112,113,114,115,116,117,118,119,120,121,122,48,49,50,51,52,53,54,55,56,57,45]
def mi (p:Prop)(h:Heap)(e T:Addr)(cls:Value)(d:Option Addr)(fl:Value):Prop:= ∃ sl vs oT ts,h.get? e=some ⟨cls,d,.fields vs,sl⟩/\vs[1]? = some (.ref T)/\T≠e/\h.get? T=some oT/\oT.data=.fields ts/\ts[3]? = some fl/\(p->vs[2]? = some .none)
structure Kp (ch fs:Le)(h h':Heap):Prop where
 keep:∀ b o,b∉ch->b∉fs->h.get? b=some o->h'.get? b=some o
 slot:∀ b o,b∉ch->h.get? b=some o->∃ sl,h'.get? b=some { o with slots:=sl }
theorem Kp.trans (a:Kp ch fs h h1)(b:Kp ch' fs h1 h2):Kp (ch++ch') fs h h2 where
 keep:=λx o hx hf q=>b.keep x o (λz=>hx (uR _ z)) hf (a.keep x o (λz=>hx (uX _ z)) hf q)
 slot:=λx o hx q=>by
  obtain⟨sl,q1⟩:=a.slot x o (λz=>hx (uX _ z)) q
  obtain⟨sl',q2⟩:=b.slot x _ (λz=>hx (uR _ z)) q1
  exact⟨sl',q2⟩
theorem Kp.mono (a:Kp ch fs h h1)(h1':∀ b∈ch,b∈ch')(h2':∀ b∈fs,b∈fs'):Kp ch' fs' h h1:= ⟨λb o hx hf q=>a.keep b o (λz=>hx (h1' b z)) (λz=>hf (h2' b z)) q,λb o hx q=>a.slot b o (λz=>hx (h1' b z)) q⟩
section
variable {M:Model} {A:Around} {E:fL} {s:Shared}
theorem VP {base:Heap}{env:Env}{outer:List Env}{cls head:Value}{vs:Array Value}
  (hfr:A.frames=some (env::outer)) (hl:s.heap.FunFrames base (env::outer)) (hf:env.frame=some L) (he:s.heap.get? e=some ⟨cls,d,.fields vs,sl⟩) (hv:1<vs.size) (hp:p->vs[2]? = some .none)
  (k:∀ h' T,s.heap.objs.size<=T->mi p h' e T cls d (rawInt L)->Kp [e] (lN (env::outer)) s.heap h'->Q () { s with heap:=h' }) :
  wpAny M A (do let a ← frameOf env;let pl ← entryPlaceOf L nx;let b ← EntryCells.newEntry head a .none (rawInt L) .none pl;setField (.ref e) 1 b) Q E s:=by
 have ne:e∉(env::outer).filterMap (·.frame):=λhm=>by
  obtain⟨_,o,ho,hn⟩:=hl.mem hm
  rw [he] at ho
  cases ho
  exact hn vs rfl
 refine ua (wpAny_frameOf_fun hfr hl hf λg hg=>ua (wpAny_entryPlaceOf λpl hpl=>?_))
 have e1:g.get? e=some ⟨cls,d,.fields vs,sl⟩:=(hg.2.1 e ne).trans he
 unfold EntryCells.newEntry newFields
 refine ua (Ux ?_ (hpl.sizeOk5 _ _ _ _ _))
 generalize hT:({ cls:=.type "traceback",dict:=none,data:=.fields ([head,.ref L,.none,rawInt L,.none]++(if pl.isEmpty then List.replicate 6 Value.none else pl)).toArray }:Obj)=tb
 have e2:=uf (h:=g) tb e1
 have tn:g.objs.size≠e:=GF (ug e1)
 refine UI e2 rfl hv (k _ g.objs.size ?_ ?_ ?_)
 ·rw [hg.1];exact ui _
 ·refine⟨sl,_,tb,([head,.ref L,.none,rawInt L,.none]++(if pl.isEmpty then List.replicate 6 Value.none else pl)).toArray,uT _ e2 (by rfl),by simp [hv],tn,?_,by rw [← hT],by simp,λz=>by simpa [UM] using hp z⟩
  rw [uy _ _ (Ne.symm tn)]
  exact uB g (by rw [← hT];rfl)
 ·refine⟨λb o hb hfs q=>?_,λb o hb q=>?_⟩
  ·have hbe:b≠e:=λz=>hb (by simp [z])
   rw [uy _ _ (Ne.symm hbe)]
   exact uf _ ((hg.2.1 b hfs).trans q)
  ·have hbe:b≠e:=λz=>hb (by simp [z])
   obtain⟨sl',q'⟩:=hg.2.2 b o q
   refine⟨sl',?_⟩
   rw [uy _ _ (Ne.symm hbe)]
   exact uf _ q'
theorem Qy {base:Heap}{env:Env}{outer:List Env} (hfr:A.frames=some (env::outer)) (hl:s.heap.FunFrames base (env::outer)) (hf:env.frame=some L) (he:s.heap.get? e=some ⟨cls,d,.fields vs,sl⟩) (hv:vs[1]? = some .none) (hp:p->vs[2]? = some .none) (k:∀ h' T,s.heap.objs.size<=T->mi p h' e T cls d (rawInt L)->Kp [e] (lN (env::outer)) s.heap h'->Q () { s with heap:=h' }):wpAny M A (noteFrame (.ref e) env) Q E s:=by unfold noteFrame;simp only [hf];refine ua (uK he rfl hv ?_);rw [ub (by decide)];exact VP hfr hl hf he (u7.mp hv).1 hp k
theorem VQ {base:Heap}{env:Env}{outer:List Env} (hfr:A.frames=some (env::outer)) (hl:s.heap.FunFrames base (env::outer)) (hf:env.frame=some L) (F:mi p s.heap e T cls d .none) (k:∀ h' T',s.heap.objs.size<=T'->mi p h' e T' cls d (rawInt L)->Kp [T,e] (lN (env::outer)) s.heap h'->Q () { s with heap:=h' }):wpAny M A (noteFrame (.ref e) env) Q E s:=by
 obtain⟨sl,vs,oT,ts,he,hv,tn,hT,hd,h3,hp⟩:=F;unfold noteFrame;simp only [hf];refine ua (uK he rfl hv ?_);rw [ue (show(Value.ref T != Value.none)=true by simp)];refine ua (uK hT hd h3 ?_);rw [ub (show ¬ (Value.none == rawInt L)=true by simp [rawInt])];refine ua (UI hT hd (u7.mp h3).1 ?_);have oth:∀ b,b≠T->(s.heap.update T (Obj.mapFields (·.setIfInBounds 3 Value.none))).get? b=s.heap.get? b:=λb hb=>uy _ _ (Ne.symm hb);have nT:∀ b o,s.heap.get? b=some o->(∀ ws,o.data≠.fields ws)->b≠T:=λb o q hn z=>by rw [z,hT] at q;cases q;exact hn ts hd
 have hsz:(s.heap.update T (Obj.mapFields (·.setIfInBounds 3 Value.none))).objs.size=s.heap.objs.size:=(G8 s.heap T _).1;refine VP (base:=base) hfr (hl.of_keeps λb o q hn=>⟨o,(oth b (nT b o q hn)).trans q,rfl⟩) hf ((oth e (Ne.symm tn)).trans he) (u7.mp hv).1 hp λh' T' g1 g2 g3=>?_;refine k h' T' (by rw [← hsz];exact g1) g2 ⟨λb o hb hfs q=>?_,λb o hb q=>?_⟩
 ·exact g3.keep b o (λz=>hb (uL _ z)) hfs ((oth b λz=>hb (by simp [z])).trans q)
 ·exact g3.slot b o (λz=>hb (uL _ z)) ((oth b λz=>hb (by simp [z])).trans q)
theorem wJ (F:mi p s.heap e T cls d fl)(k:∀ h',mi p h' e T cls d .none->Kp [T] [] s.heap h'->h'.objs.size=s.heap.objs.size->Q () { s with heap:=h' }):wpAny M A (setFlight (.ref e) none) Q E s:=by obtain⟨sl,vs,oT,ts,he,hv,tn,hT,hd,h3,hp⟩:=F;have h3':=(u7.mp h3).1;unfold setFlight;refine ua (uK he rfl hv ?_);rw [ue (show(Value.ref T != Value.none)=true by simp)];have oth:∀ b,b≠T->(s.heap.update T (Obj.mapFields (·.setIfInBounds 3 Value.none))).get? b=s.heap.get? b:=λb hb=>uy _ _ (Ne.symm hb);refine UI hT hd h3' (k _ ⟨sl,vs,_,_,(oth e (Ne.symm tn)).trans he,hv,tn,uT _ hT (GU (UX hd _)),UX hd _,by simp [h3'],hp⟩ ?_ (G8 s.heap T _).1);exact⟨λb o hb _ q=>(oth b λz=>hb (by simp [z])).trans q,λb o hb q=>⟨o.slots,(oth b λz=>hb (by simp [z])).trans q⟩⟩
theorem JU {env:Env}{L e T:Addr}{cls:Value}{d:Option Addr}{p:Prop}{Q:Unit->Shared->Prop}(hf:env.frame=some L)(F:mi p s.heap e T cls d (rawInt L))(k:Q () s):wpAny M A (noteFrame (.ref e) env) Q E s:=by obtain⟨sl,vs,oT,ts,he,hv,tn,hT,hd,h3,hp⟩:=F;unfold noteFrame;simp only [hf];refine ua (uK he rfl hv ?_);rw [ue (show(Value.ref T != Value.none)=true by simp)];refine ua (uK hT hd h3 ?_);rw [ue (show(rawInt L == rawInt L)=true from Ur _)];exact ud k
theorem SJ {env:Env}{L e T:Addr}{cls fl:Value}{d:Option Addr}{p:Prop}{Q:Unit->Shared->Prop}(hf:env.frame=some L)(F:mi p s.heap e T cls d fl)(k:∀ h',mi p h' e T cls d (rawInt L)->Kp [T] [] s.heap h'->Q () { s with heap:=h' }):wpAny M A (setFlight (.ref e) env.frame) Q E s:=by obtain⟨sl,vs,oT,ts,he,hv,tn,hT,hd,h3,hp⟩:=F;have h3':=(u7.mp h3).1;unfold setFlight;rw [hf];refine ua (uK he rfl hv ?_);rw [ue (show(Value.ref T != Value.none)=true by simp)];have oth:∀ b,b≠T->(s.heap.update T (Obj.mapFields (·.setIfInBounds 3 (rawInt L)))).get? b=s.heap.get? b:=λb hb=>uy _ _ (Ne.symm hb);refine UI hT hd h3' (k _ ⟨sl,vs,_,_,(oth e (Ne.symm tn)).trans he,hv,tn,uT _ hT (GU (UX hd _)),UX hd _,by simp [h3'],hp⟩ ?_);exact⟨λb o hb _ q=>(oth b λz=>hb (by simp [z])).trans q,λb o hb q=>⟨o.slots,(oth b λz=>hb (by simp [z])).trans q⟩⟩
theorem To {env:Env}{L e T:Addr}{cls:Value}{d:Option Addr}{p:Prop}{Q:Unit->Shared->Prop}(hf:env.frame=some L)(F:mi p s.heap e T cls d (rawInt L))(k:∀ h',mi p h' e T cls d .none->Kp [T] [] s.heap h'->Q () { s with heap:=h' }):wpAny M A (leaving env (.ref e)) Q E s:=by unfold leaving;exact ua (JU hf F (wJ F λh2 f1 f2 f3=>k h2 f1 f2))
theorem KJ {base:Heap}{env:Env}{outer:List Env} (hfr:A.frames=some (env::outer)) (hl:s.heap.FunFrames base (env::outer)) (hf:env.frame=some L) (he:s.heap.get? e=some ⟨cls,d,.fields vs,sl⟩) (hv:vs[1]? = some .none) (hp:p->vs[2]? = some .none) (k:∀ h' T,s.heap.objs.size<=T->mi p h' e T cls d .none->Kp [e] (lN (env::outer)) s.heap h'->Q () { s with heap:=h' }):wpAny M A (leaving env (.ref e)) Q E s:=by
 unfold leaving;refine ua (Qy hfr hl hf he hv hp λh1 T g1 g2 g3=>wJ (s:={ s with heap:=h1 }) g2 λh2 f1 f2 f3=>k h2 T g1 f1 ⟨λb o hb hfs q=>?_,λb o hb q=>?_⟩)
 all_goals
  have hbT:b≠T:=λz=>absurd (ug q) (by rw [z];exact gW.mpr g1)
 ·exact f2.keep b o (by simpa using hbT) (by simp) (g3.keep b o hb hfs q)
 ·obtain⟨sl',q'⟩:=g3.slot b o hb q;obtain⟨sl2,q2⟩:=f2.slot b _ (by simpa using hbT) q';exact⟨sl2,q2⟩
theorem Tj {base:Heap}{env:Env}{outer:List Env} (hfr:A.frames=some (env::outer)) (hl:s.heap.FunFrames base (env::outer)) (hf:env.frame=some L) (F:mi p s.heap e T cls d .none) (k:∀ h' T',s.heap.objs.size<=T'->mi p h' e T' cls d .none->Kp [T,e] (lN (env::outer)) s.heap h'->Q () { s with heap:=h' }):wpAny M A (leaving env (.ref e)) Q E s:=by
 unfold leaving;refine ua (VQ hfr hl hf F λh1 T' g1 g2 g3=>wJ (s:={ s with heap:=h1 }) g2 λh2 f1 f2 f3=>k h2 T' g1 f1 ⟨λb o hb hfs q=>?_,λb o hb q=>?_⟩)
 all_goals
  have hbT:b≠T':=λz=>absurd (ug q) (by rw [z];exact gW.mpr g1)
 ·exact f2.keep b o (by simpa using hbT) (by simp) (g3.keep b o hb hfs q)
 ·obtain⟨sl',q'⟩:=g3.slot b o hb q;obtain⟨sl2,q2⟩:=f2.slot b _ (by simpa using hbT) q';exact⟨sl2,q2⟩
end
end L2
namespace L2
open PySem PySem.Spec PySem.Calls PyProof.Rows PySem.W
abbrev sA:Lg:=[.type "ValueError",.type "Exception",.type "BaseException",.type "object"]
def rO:Option Value->Bool
 | some (.builtin n)=>n == "ValueError.__new__"
 | _=>false
def sY (K:Frag)(C:Addr):Lg->Bool
 | []=>false
 | v::m=>valR C v&&tailIn K sA m
where valR (C:Addr):Value->Bool
 | .ref B=>B == C
 | _=>false
def tD:Data->Option ClassData
 | .cls c=>some c
 | _=>none
def vA (K:Frag)(C:Addr):Bool:=(K.lookup C).any λo=>o.cls == .type "type"&&(tD o.data).any λc=>!c.hasDel&&nsOkIn K c.ns&&sY K C c.mro&&(o.slots.toList.length == 6&&(o.slots.toList[4]?).any rO)
def WK (K:Frag)(C:Addr):Option (Option Value):=(clsIn K C).bind λc=>nsIn K c.ns "__init__"
theorem Ti {K:Frag}{h:Heap}(X:K.In h)(e:nsOkIn K N=true)(q:nsIn K N x=some (some v)):h.nsMap N x=some v:=by
 obtain⟨o,es,ep,ho,hd,_,hf⟩:=(Heap.Ns.of_isNs (isNs_of_in X e):h.Ns N (h.nsMap N))
 unfold nsIn at q;split at q
 ·rename_i c d es' n' sl z;have:=X _ _ z;rw [ho] at this;cases this;cases hd;split at q
  ·rename_i en he;rw [← hf];unfold nsFind findBy;rw [← Array.find?_toList,he];cases q;rfl
  ·split at q<;>cases q
 ·cases q
theorem EM {α:Type}{o:Option α}{p:α->Bool}(h:o.any p=true):∃ a,o=some a/\p a=true:=by
 cases o with
 | none=>cases h
 | some a=>exact⟨a,rfl,h⟩
theorem Nt (h:tD d=some c):d=.cls c:=by
 cases d with
 | cls c'=>cases h;rfl
 | _=>exact nomatch (show none=some c from h)
theorem Nr (h:rO v=true):v=some (.builtin "ValueError.__new__"):=by
 cases v with
 | none=>cases h
 | some v=>
  cases v with
  | builtin n=>exact congrArg (λn=>some (Value.builtin n)) (u6.mp h)
  | _=>exact nomatch (show false=true from h)
theorem Lm {K:Frag}{C:Addr}{l:Lg}(h:sY K C l=true):∃ m,l=.ref C::m/\tailIn K sA m=true:=by
 cases l with
 | nil=>cases h
 | cons v m=>
  obtain⟨h,ht⟩:=(uH _ _).mp h;cases v with
  | ref B=>exact⟨m,by rw [show B=C from u6.mp h],ht⟩
  | _=>exact nomatch (show false=true from h)
theorem six_is {l:List (Option Value)}(h:l.length=6)(h4:(l[4]?).any rO=true):∃ a b c d f,l=[a,b,c,d,some (.builtin "ValueError.__new__"),f]:=by
 obtain _ | ⟨a,_ | ⟨b,_ | ⟨c,_ | ⟨d,_ | ⟨e,_ | ⟨f,_ | ⟨g,l⟩⟩⟩⟩⟩⟩⟩:=l
 ·cases h
 ·cases h
 ·cases h
 ·cases h
 ·cases h
 ·cases h
 ·exact⟨a,b,c,d,f,by rw [Nr h4]⟩
 ·cases h
theorem Zs {K:Frag}{h:Heap}{C:Addr}(X:K.In h)(e:vA K C=true):∃ nm q N bs bm hd sn sub ab col dd k0 k1 k2 k3 k5 cd, h.get? C=some (excClassObj nm q C N bs bm hd sn sub ab col dd k0 k1 k2 k3 k5 "ValueError.__new__")/\clsIn K C=some cd/\cd.mro=.ref C::bm/\cd.ns=N/\cd.hasDict=hd/\OwnTail h sA bm/\nsOkIn K N=true:=by unfold vA at e;obtain⟨o,hl,e⟩:=EM e;simp only [uH,u6] at e;obtain⟨hc,e⟩:=e;obtain⟨c,hd,e⟩:=EM e;simp only [uH,u6,Bool.not_eq_true'] at e;obtain⟨⟨⟨hdel,hok⟩,hm⟩,h6,h4⟩:=e;have hd:o.data=.cls c:=Nt hd;obtain⟨oc,od,oda,⟨osl⟩⟩:=o;subst hc hd;obtain⟨k0,k1,k2,k3,k5,rfl⟩:=six_is h6 h4;obtain⟨nm,bs,mro,ns,qn,hdc,sn,sub,ab,col,del⟩:=c;obtain⟨m,hm,ht⟩:=Lm hm;dsimp only at hm hdel hok;subst hm hdel;exact⟨nm,qn,ns,bs,m,hdc,sn,sub,ab,col,od,k0,k1,k2,k3,k5,⟨nm,bs,.ref C::m,ns,qn,hdc,sn,sub,ab,col,false⟩,X _ _ hl,by unfold clsIn;rw [hl],rfl,rfl,rfl,tail_of_in X ht,hok⟩
section
variable {prog:Program} {w:World} {A:Around} {E:fL} {K:Frag} {C:Addr}
theorem Nq {h:Heap}{g:Array GenState}{d:Drawn}{t:Nat}{os:OsState}{rest:Lg}{fI:Addr}{oI:Obj}{Q:Fin->Shared->Prop}(X:K.In h)(e:vA K C=true)(hi:WK K C=some (some (.ref fI)))(hf:K.lookup fI=some oI) (hfc:oI.cls=.type "function") (hr:rest.length<=sizeLine) (hq:∀ h' x,h.objs.size<=x->Heap.MadeExcOf h h' x (.ref C) rest->wpAny (model prog w) A (call (.ref fI) (.ref x::rest)) (λr s'=>r=.none/\Q (.done (.ret (.ref x))) s') E ⟨h',g,d,t,os⟩) : wpAny (model prog w) A (Builtin.«type.__call__» ⟨.ref C::rest,[]⟩) Q E ⟨h,g,d,t,os⟩:=by
 obtain⟨nm,q,N,bs,bm,hd,sn,sub,ab,col,dd,k0,k1,k2,k3,k5,cd,hC,hcd,hmro,hns,_,T,hok⟩:=Zs X e;have F:=GZ;have hi':nsIn K N "__init__" = some (some (.ref fI)):=by unfold WK at hi;rw [hcd] at hi;rw [← hns];exact hi
 have hn:h.Ns N (h.nsMap N):=Heap.Ns.of_isNs (isNs_of_in X hok);have hm:=Ti X hok hi';have hfI:=X _ _ hf;generalize h.nsMap N=mN at hn hm
 repeat (first | (with_reducible refine uI hC ?_) | (with_reducible refine wpAny_madeBy_exc hC ?_) | wp_step)
 refine codeAny_call_builtin_code (Code.quiet_builtin _ F.quiet) (wpAny_check_new_subT F T hC (codeAny_exc_new_subT F T hC ?_ hr));show wpAny (model prog w) _ _ _ _ _;have up:∀ b o,h.get? b=some o->((h.push ({ cls:=.type "tuple",data:=.seq rest.toArray }:Obj)).push ({ cls:=.ref C,data:=.fields #[.ref h.objs.size,.none,.none,.none,.bool false,.none] }:Obj)).get? b=some o:=λb o z=>uf ({ cls:=.ref C,data:=.fields #[.ref h.objs.size,.none,.none,.none,.bool false,.none] }:Obj) (uf ({ cls:=.type "tuple",data:=.seq rest.toArray }:Obj) z);have hC1:=up _ _ hC;have hfI1:=up _ _ hfI;have hn1:((h.push ({ cls:=.type "tuple",data:=.seq rest.toArray }:Obj)).push ({ cls:=.ref C,data:=.fields #[.ref h.objs.size,.none,.none,.none,.bool false,.none] }:Obj)).Ns N mN:=hn.keeps up;have T1:=T.keeps up;have hget:((h.push ({ cls:=.type "tuple",data:=.seq rest.toArray }:Obj)).push ({ cls:=.ref C,data:=.fields #[.ref h.objs.size,.none,.none,.none,.bool false,.none] }:Obj)).get? (h.objs.size+1)=some ({ cls:=.ref C,data:=.fields #[.ref h.objs.size,.none,.none,.none,.bool false,.none] }:Obj):=by have:=uB (h.push ({ cls:=.type "tuple",data:=.seq rest.toArray }:Obj)) (o:=({ cls:=.ref C,data:=.fields #[.ref h.objs.size,.none,.none,.none,.bool false,.none] }:Obj)) rfl;rwa [Gg] at this
 have hcC:(Value.ref C::bm).contains (.ref C)=true:=by simp
 unfold isInstance
 repeat (first | (with_reducible refine uI hget ?_) | (with_reducible refine UW hC1 ?_;rw [hcC]) | wp_step)
 show wpAny (model prog w) _ (typeLookup (.ref C) _) _ _ _;refine wpAny_typeLookup_tail hC1 hn1 T1 F.mroIs F.init.lookup ?_;rw [hm];refine u0 (ua ?_);unfold bindSpecial;refine ua (gm (T:="function") ⟨_,hfI1,hfc⟩ ?_);rw [ue (by decide)];refine ud (ua (um (hq _ (h.objs.size+1) (UA _) ⟨up,gk (UA _),h.objs.size,hget,gk (ui _),?_⟩) (λr s' z=>?_) λ_ _ z=>z))
 ·exact uf _ (uB h rfl)
 ·obtain⟨rfl,z⟩:=z
  wp_walk;exact z
theorem KL {s:Shared}{rest:Lg}{oI:Obj}(X:K.In s.heap)(e:vA K C=true)(hi:WK K C=some (some (.ref fI)))(hf:K.lookup fI=some oI)(hfc:oI.cls=.type "function")(hr:rest.length<=sizeLine) (hq:∀ h' x,s.heap.objs.size<=x->Heap.MadeExcOf s.heap h' x (.ref C) rest->wpAny (model prog w) (A.under (.builtin "type.__call__" ⟨.ref C::rest,[]⟩)) (call (.ref fI) (.ref x::rest)) (λr s'=>r=.none/\Q (.ref x) s') E { s with heap:=h' }) : wpAny (model prog w) A (call (.ref C) rest) Q E s:=by
 obtain⟨h,g,d,t,os⟩:=s;obtain⟨nm,q,N,bs,bm,hd,sn,sub,ab,col,dd,k0,k1,k2,k3,k5,cd,hC,_⟩:=Zs X e;have f1:=tc_lookup;have f2:=tc_bind (.ref C);have hT:(⟨h,g,d,t,os⟩:Shared).TypeIs (.ref C) "type":=⟨_,hC,rfl⟩
 refine Ud (codeAny_of_tree ?_);show wpAny (model prog w) _ (callAny (.ref C) _) _ _ _
 repeat (any_goals (first | assumption | (with_reducible refine uI hC ?_) | wp_step))
 exact⟨rfl,codeAny_call_builtin_at (Code.quiet_builtin _ (by decide +kernel)) entry_typeCall (wpAny_check_type_call_sub hC (Nq X e hi hf hfc hr λh' x y z=>hq h' x y z))⟩
end
end L2
namespace L2
open PySem PySem.Spec PySem.Calls PyProof.Rows PySem.W Builtin Builtin.ObjectAttr
section
variable {prog:Program} {w:World} {A:Around} {E:fL} {K:Frag} {C x:Addr} {s:Shared}
theorem Pz {rest:Lg}{vs:Array Value}(X:K.In s.heap)(e:vA K C=true)(hx:s.heap.get? x=some ⟨.ref C,dd,.fields vs,sl⟩)(h0:vs[0]? = some (.ref t0))(hr:rest.length<=sizeLine) (hq:∀ h',(∀ b o,b≠x->s.heap.get? b=some o->h'.get? b=some o)->h'.get? x=some ⟨.ref C,dd,.fields (vs.setIfInBounds 0 (.ref s.heap.objs.size)),sl⟩->Q .none { s with heap:=h' }) : wpAny (model prog w) A (call (.builtin "ValueError.__init__") (.ref x::rest)) Q E s:=by
 obtain⟨h,g,d,t,os⟩:=s;obtain⟨nm,q,N,bs,bm,hd,sn,sub,ab,col,dd',k0,k1,k2,k3,k5,cd,hC,hcd,hmro,hns,_,T,hok⟩:=Zs X e;have F:=GZ;refine Ud (gr F.init.plain F.initEntry (wpAny_check_init_subT F T hC hx rfl ?_));have hx1:(h.push ({ cls:=.type "tuple",data:=.seq rest.toArray }:Obj)).get? x=some ⟨.ref C,dd,.fields vs,sl⟩:=uf _ hx;have hz:0<vs.size:=(u7.mp h0).1
 repeat (first | (with_reducible refine uK hx1 rfl h0 ?_) | (with_reducible refine UI hx1 rfl hz ?_) | wp_step)
 refine hq _ (λb o hb z=>?_) ?_
 ·exact(uy _ _ (Ne.symm hb)).trans (uf _ z)
 ·exact uT _ hx1 rfl
theorem Np {self:Value}(T:OwnTail h sA l):refuseLoop self "__setattr__" l=pure ():=by
 induction T with
 | base=>exact PySem.F.store_ValueError.passes self
 | own _ _ _ _ ih=>rw [refuseLoop_ref];exact ih
theorem EL {name:Str}(X:K.In s.heap)(I:InstAt s.heap x ox C od)(e:vA K C=true)(ha:findIn K (.ref C) name=some none)
  (h:∀ b,wpAny (model prog w) A.in1 (storeInOwnDict (.ref x) (.ref C) (.str name tk) name v b)
   (λfin s'=>match fin with | .done f=>R (.ok f) s' | .again c'=>c'.quiet=true/\codeAny (model prog w) A c' R s') (λe s'=>R (.error e) s') s) :
  codeAny (model prog w) A (.call (.builtin "object.__setattr__") ⟨[.ref x,.str name tk,v],[]⟩) R s:=by
 have SF:=PySem.F.store_object
 obtain⟨nm,q,N,bs,bm,hd,sn,sub,ab,col,dd',k0,k1,k2,k3,k5,cd,hC,hcd,hmro,hns,_,T,hok⟩:=Zs X e
 have hobj:cd.mro.contains (.type "object")=true:=by rw [hmro,U1,T.hasType (X:="object") (b:=true) (by decide +kernel),gX]
 have sub:Looks (model prog w) s.heap (isInstance (.ref x) (.type "object")) true:=I.type.andThen (Gq X (by unfold mroIn;rw [hcd,US,ub (by rw [hmro];simp),hobj]))
 refine gr SF.slot.plain SF.entry (@check_slot (model prog w) _ _ s "object.__setattr__" "object" "__setattr__" (.ref x) [.str name tk,v] [] _ SF.kind SF.split sub (SF.args (.ref x) (.str name tk) v) ?_)
 have hm:Looks (model prog w) s.heap (mroOf (.ref C)) cd.mro:=(looks_clsIn X hcd).andThen .now
 rw [osa_eq,refuse_eq]
 refine ua (ua (I.type.here (ua (hm.here ?_))))
 rw [hmro,refuseLoop_ref,Np T]
 exact ud (ua (I.type.here (ua ((Gf X ha).here (ua (ud (h _)))))))
theorem KN {ns:Lj}{name:Str}(hns:s.heap.Ns1 d mA)(hw:Within mA ns)(hz:ns.length<sizeLine) (hq:∀ h' tk',h'.Ns1 d (λy=>if y=name then some v else mA y)->Heap.SameBut d s.heap h'->Q (.done (.ret .none)) { s with heap:=h',toks:=tk' }):wpAny M A (storeInDict d (.str name tk) name v) Q E s:=by obtain⟨h,g,dr,t,os⟩:=s;unfold storeInDict newKeyGuard;refine ua (ud (ua (wpAny_nsSet1 hns λh' hn' hs=>?_)));obtain⟨oD,es,ep,ho,hd,hc⟩:=hn'.count (Within.cons name v hw);refine ua (wpAny_lookBehind ho (by rw [hd];exact pastItsLine_dict (uJ hc (by rw [uo];lia))) ?_);exact ud (hq h' _ hn' hs)
theorem Nn (X:K.In s.heap)(hx:s.heap.get? x=some ⟨.ref C,none,.fields vs,sl⟩)(e:vA K C=true)(hh:hasDictIn K C=true) (hq:Q (some s.heap.objs.size) { s with heap:=(s.heap.push ({ cls:=.type "dict",data:=.dict #[] }:Obj)).update x λo=>{ cls:=o.cls,dict:=some s.heap.objs.size,data:=o.data,slots:=o.slots } }):wpAny M A (ownDictForStores (.ref x)) Q E s:=by
 obtain⟨h,g,dr,t,os⟩:=s;obtain⟨nm,q,N,bs,bm,hd,sn,sub,ab,col,dd',k0,k1,k2,k3,k5,cd,hC,hcd,hmro,hns,hdd,T,hok⟩:=Zs X e;have hT:hd=true:=by obtain⟨cd',hc',hd'⟩:=gG hh;rw [hcd] at hc';cases hc';rw [← hdd];exact hd'
 subst hT;have hx1:(h.push ({ cls:=.type "dict",data:=.dict #[] }:Obj)).get? x=some ⟨.ref C,none,.fields vs,sl⟩:=uf _ hx
 repeat (first | (with_reducible refine uI hx ?_) | (with_reducible refine uI hC ?_) | (with_reducible refine wpAny_update' hx1 ?_) | wp_step)
 exact hq
theorem Nm (X:K.In s.heap)(hx:s.heap.get? x=some ⟨.ref C,some d,.fields vs,sl⟩)(e:vA K C=true)(hh:hasDictIn K C=true) (hq:Q (some d) s):wpAny M A (ownDictForStores (.ref x)) Q E s:=by
 obtain⟨h,g,dr,t,os⟩:=s;obtain⟨nm,q,N,bs,bm,hd,sn,sub,ab,col,dd',k0,k1,k2,k3,k5,cd,hC,hcd,hmro,hns,hdd,T,hok⟩:=Zs X e;have hT:hd=true:=by obtain⟨cd',hc',hd'⟩:=gG hh;rw [hcd] at hc';cases hc';rw [← hdd];exact hd'
 subst hT
 repeat (first | (with_reducible refine uI hx ?_) | (with_reducible refine uI hC ?_) | wp_step)
 exact hq
theorem Py {name:Str}(X:K.In s.heap)(hx:s.heap.get? x=some ⟨.ref C,none,.fields vs,sl⟩)(e:vA K C=true)(hh:hasDictIn K C=true) (hsa:findIn K (.ref C) "__setattr__" = some (some (.builtin "object.__setattr__"))) (ha:findIn K (.ref C) name=some none) (hq:∀ h' d tk,s.heap.objs.size<=d->h'.get? x=some ⟨.ref C,some d,.fields vs,sl⟩->h'.Ns1 d (λy=>if y=name then some v else none)->(∀ b o,b≠x->s.heap.get? b=some o->h'.get? b=some o)->Q () { s with heap:=h',toks:=tk }) : wpAny (model prog w) A (setAttr (.ref x) name v) Q E s:=by
 have I:InstAt s.heap x ⟨.ref C,none,.fields vs,sl⟩ C none:=⟨hx,rfl,rfl,trivial⟩
 refine GG X I hsa (EL (s:={ s with toks:=s.toks+1 }) X I e ha λb=>?_);have hxs:x≠s.heap.objs.size:=Uc (ug hx);have hx1:(s.heap.push ({ cls:=.type "dict",data:=.dict #[] }:Obj)).get? x=some ⟨.ref C,none,.fields vs,sl⟩:=uf _ hx;unfold storeInOwnDict;refine ua (ud ?_);rw [ub (show ¬ (Value.ref C == Value.type "module")=true from λz=>by cases u6.mp z)];refine ua (Nn (s:={ s with toks:=s.toks+1 }) X hx e hh ?_)
 have hgd:((s.heap.push ({ cls:=.type "dict",data:=.dict #[] }:Obj)).update x λo=>{ cls:=o.cls,dict:=some s.heap.objs.size,data:=o.data,slots:=o.slots }).get? s.heap.objs.size=some ({ cls:=.type "dict",data:=.dict #[] }:Obj):=
  (G9 _ _ _ _ hxs.symm).trans (uB _ rfl)
 have hnd:Heap.Ns ((s.heap.push ({ cls:=.type "dict",data:=.dict #[] }:Obj)).update x λo=>{ cls:=o.cls,dict:=some s.heap.objs.size,data:=o.data,slots:=o.slots }) s.heap.objs.size (λ_=>none):=
  ⟨_,#[],_,hgd,rfl,λe he=>absurd he (by simp),λ_=>rfl⟩
 refine KN (ns:=[]) (Hb hnd) Within.nil (by rw [uQ];decide) λh' tk' hn hs=>?_;refine hq h' s.heap.objs.size _ (ui _) ((hs.2 x hxs).trans (uT _ hx1 rfl)) hn λb o hb z=>?_;exact(hs.2 b (Uc (ug z))).trans ((G9 _ _ _ _ hb).trans (uf _ z))
theorem Px {name:Str}{ns:Lj}(X:K.In s.heap)(hx:s.heap.get? x=some ⟨.ref C,some d,.fields vs,sl⟩)(e:vA K C=true)(hh:hasDictIn K C=true) (hsa:findIn K (.ref C) "__setattr__" = some (some (.builtin "object.__setattr__"))) (ha:findIn K (.ref C) name=some none) (hd:s.heap.Ns1 d mA) (hw:Within mA ns) (hz:ns.length<sizeLine) (hq:∀ h' tk,h'.Ns1 d (λy=>if y=name then some v else mA y)->(∀ b o,b≠d->s.heap.get? b=some o->h'.get? b=some o)->Q () { s with heap:=h',toks:=tk }) : wpAny (model prog w) A (setAttr (.ref x) name v) Q E s:=by
 obtain⟨od,es,ep,hod,hrest⟩:=id hd;have I:InstAt s.heap x ⟨.ref C,some d,.fields vs,sl⟩ C (some od):=⟨hx,rfl,rfl,hod⟩
 refine GG X I hsa (EL (s:={ s with toks:=s.toks+1 }) X I e ha λb=>?_);unfold storeInOwnDict;refine ua (ud ?_);rw [ub (show ¬ (Value.ref C == Value.type "module")=true from λz=>by cases u6.mp z)];refine ua (Nm (s:={ s with toks:=s.toks+1 }) X hx e hh ?_);exact KN (s:={ s with toks:=s.toks+1 }) hd hw hz λh' tk' hn hs=>hq h' _ hn λb o hb z=>(hs.2 b hb).trans z
end
structure lg (K:Frag)(C:Addr):Prop where
 sh:vA K C=true
 hd:hasDictIn K C=true
 ga:findIn K (.ref C) "__getattribute__" = some (some (.builtin "BaseException.__getattribute__"))
 gt:findIn K (.ref C) "__getattr__" = some none
 sa:findIn K (.ref C) "__setattr__" = some (some (.builtin "object.__setattr__"))
 ca:findIn K (.ref C) "__class__" = some (some (.builtin "object.__class__"))
 cg:specialIn K (.builtin "object.__class__") "__get__" = some (some (.builtin "getset_descriptor.__get__"))
 ct:takesIn K (.builtin "object.__class__")=some true
def Dk (K:Frag)(C:Addr):Bool:=vA K C&&hasDictIn K C&&findIn K (.ref C) "__getattribute__" == some (some (.builtin "BaseException.__getattribute__"))&&findIn K (.ref C) "__getattr__" == some none && findIn K (.ref C) "__setattr__" == some (some (.builtin "object.__setattr__"))&&findIn K (.ref C) "__class__" == some (some (.builtin "object.__class__"))&&specialIn K (.builtin "object.__class__") "__get__" == some (some (.builtin "getset_descriptor.__get__"))&&takesIn K (.builtin "object.__class__") == some true
theorem Ll {K:Frag}{C:Addr}(e:Dk K C=true):lg K C:=by simp only [Dk,uH,u6] at e;obtain⟨⟨⟨⟨⟨⟨⟨a,b⟩,c⟩,d⟩,e⟩,f⟩,g⟩,h⟩:=e;exact⟨a,b,c,d,e,f,g,h⟩
theorem lg.mro {K:Frag}(c:lg K C)(X:K.In h)(T:String)(ht:sA.contains (.type T)=true):mroIn K C (.type T)=some true:=by obtain⟨nm,q,N,bs,bm,hd,sn,sub,ab,col,dd',k0,k1,k2,k3,k5,cd,hC,hcd,hmro,hns,hdd,OT,hok⟩:=Zs X c.sh;unfold mroIn;rw [hcd,US,ub (by rw [hmro];simp),hmro,U1,OT.hasType (X:=T) ht,gX]
section
variable {prog:Program} {w:World} {A:Around} {E:fL} {K:Frag} {C x:Addr} {s:Shared} {ox:Obj} {od:Option Obj} {name:Str} {tk:Tok} {fill expr:Bool}
theorem Dw (X:K.In s.heap)(I:InstAt s.heap x ox C od)(c:lg K C)
  (h:wpAny (model prog w) A.in1 (Builtin.«object.__getattribute__» ⟨[.ref x,.str name tk],[]⟩) (λfin s'=>match fin with | .done (.ret v)=>wpAny (model prog w) A (handedOut v) Q E s' | _=>False) (λ_ _=>False) s) :
  wpAny (model prog w) A (getAttrBy (.ref x) (.str name tk) fill expr) Q E s:=by
 have L0:=I.type (M:=model prog w)
 unfold getAttrBy
 refine u0 (ua (L0.here (ua ((Gf X c.ga).here ?_))))
 dsimp only
 have ne:(Value.builtin "BaseException.__getattribute__" == Value.builtin "object.__getattribute__")=false:=by decide +kernel
 rw [ne,U5,ub (by decide)]
 unfold getAttrByItsOwn
 refine ua ((looks_hook (mc:=.ref C) X (r:=none) (by rw [ue (show onTheHeap (.ref C)=true from rfl)];exact c.gt)).here (ua (wpAny_attempt (u0 ?_))))
 unfold callGetattribute
 rw [show(expr&&onTheHeap (Value.builtin "BaseException.__getattribute__"))=false from U5 _,ub (by decide)]
 unfold boundAndCalled
 rw [Hd.ga.bind]
 refine ua (ud ?_)
 show wpAny _ _ (call (.builtin "BaseException.__getattribute__") [.ref x,.str name tk]) _ _ _
 refine Ud (gr Hd.ga.plain PySem.F.entry_bexc_ga ?_)
 refine @check_slot (model prog w) _ _ s "BaseException.__getattribute__" "BaseException" "__getattribute__" (.ref x) [.str name tk] [] _ (by decide +kernel) (by decide +kernel) (L0.andThen (Gq X (c.mro X "BaseException" (by decide +kernel)))) (PySem.F.args_bexc_ga _ _) ?_
 refine um h (λfin s' z=>?_) λ_ _ z=>z.elim
 rcases fin with(_ | _ | _ | _) | _<;>first | exact z | exact z.elim
theorem Nl (X:K.In s.heap)(I:InstAt s.heap x ox C od)(c:lg K C)(hf:findObj K C od name=some (.value v))(hh:handedIn v=true)(h:Q v { s with toks:=s.toks+1 }) : wpAny (model prog w) A (getAttr (.ref x) name expr) Q E s:=by refine ua (wpAny_mkText (Dw (s:={ s with toks:=s.toks+1 }) X I c ?_));have L0:=I.type (M:=model prog w);have L1:=looks_find (M:=model prog w) X I hf;unfold Builtin.«object.__getattribute__»;refine ua (ud (ua (ud (ua (L0.here (s:={ s with toks:=s.toks+1 }) (ua (L1.here (s:={ s with toks:=s.toks+1 }) ?_)))))));refine ud ?_;show wpAny _ _ (handedOut v) _ _ _;rw [handedOut_of hh];exact ud h
theorem SI (X:K.In s.heap)(I:InstAt s.heap x ox C od)(c:lg K C)(h:Q (some (.ref C)) { s with toks:=s.toks+1 }):wpAny (model prog w) A (getAttr? (.ref x) "__class__") Q E s:=by
 have hf:findObj K C od "__class__" = some (.bind (.builtin "getset_descriptor.__get__") (.builtin "object.__class__")):=by obtain⟨cd,hc,_⟩:=gG c.hd;simp only [findObj,hc,c.ca,c.cg,c.ct,US]
 refine ua (wpAny_mkText ?_);unfold getAttrBy?;refine ua (wpAny_attempt (Dw (s:={ s with toks:=s.toks+1 }) X I c ?_));have L0:=I.type (M:=model prog w);have L1:=looks_find (M:=model prog w) X I hf;unfold Builtin.«object.__getattribute__»;refine ua (ud (ua (ud (ua (L0.here (s:={ s with toks:=s.toks+1 }) (ua (L1.here (s:={ s with toks:=s.toks+1 }) ?_)))))));show wpAny _ _ (holding [.builtin "object.__class__"] (call (.builtin "getset_descriptor.__get__") [.builtin "object.__class__",.ref x,.ref C]) >>= ret) _ _ _;refine ua (u0 (Ud (class_get (s:={ s with toks:=s.toks+1 }) (ox:=ox) (od:=od) X I (c.mro X "object" (by decide +kernel)) ?_)));exact ud (handed_on rfl (ud h))
theorem EK (c:lg K C):KitX K (.ref x) (.ref C) (λh=>InstAt h x ox C od) where
 ty:=λ_ _ _ I=>I.type
 it:=λ_ h X _=>by
  obtain⟨nm,q,N,bs,bm,hd,sn,sub,ab,col,dd',k0,k1,k2,k3,k5,cd,hC,_⟩:=Zs X c.sh
  intro A' Q' E' s' k z
  unfold isType loadHead
  exact ua (wpAny_loadPart (k _ _ hC) (ud z))
 ne:=λh tp dd fX n sl X htp=>by
  obtain⟨nm,q,N,bs,bm,hd,sn,sub,ab,col,dd',k0,k1,k2,k3,k5,cd,hC,_⟩:=Zs X c.sh
  refine GJ.mpr λz=>?_
  have e:C=tp:=Ue (u6.mp z)
  subst e
  have y:=uG (hC.symm.trans htp)
  injection y with y1
  injection y1 with y1
  exact absurd y1 (by decide)
 ca:=λX I k=>SI X I c k
theorem SH (X:K.In s.heap)(hx:s.heap.get? x=some ox)(hxc:ox.cls=.ref C)(c:lg K C)(d:lg K D)(hb:mroIn K C (.ref D)=some b)(h:Q b s):wpAny (model prog w) A (excMatches (.ref x) (.ref D)) Q E s:=by
 obtain⟨nm,q,N,bs,bm,hd,sn,sub,ab,col,dd',k0,k1,k2,k3,k5,cd,hD,hcd,hmro,hns,hdd,OT,hok⟩:=Zs X d.sh;obtain⟨hp,g,dr,t,os⟩:=s;have f:=tc_notTuple;have L1:=Gq (M:=model prog w) X hb;have hcB:(Value.ref D::bm).contains (.type "BaseException")=true:=by rw [U1,OT.hasType (X:="BaseException") (b:=true) (by decide +kernel),gX]
 have hT:(⟨hp,g,dr,t,os⟩:Shared).TypeIs (.ref D) "type":=⟨_,hD,rfl⟩
 unfold excMatches
 repeat (first | assumption | (with_reducible refine uI hx ?_;rw [hxc]) | (with_reducible refine uI hD ?_) | (with_reducible refine L1.at ?_) | (with_reducible refine UW hD ?_;rw [hcB]) | wp_step)
 cases b<;>(wp_walk;exact h)
theorem VR (hh:A.handled=none) (h:wpAny (model prog w) A y (λv s₁=>∃ x dd vs sl,v=.ref x/\K.In s₁.heap/\lg K C/\s₁.heap.get? x=some ⟨.ref C,dd,.fields vs,sl⟩/\vs[1]? = some .none/\E (.ref x) s₁) E s):wpAny (model prog w) A (raiseStmt env (some y) none) Q E s:=by
 unfold raiseStmt;refine ua (um h (λv s₁ z=>?_) λ_ _ z=>z);obtain⟨x,dd,vs,sl,rfl,X,c,he,h1,hE⟩:=z;obtain⟨nm,q,N,bs,bm,hd,sn,sub,ab,col,dd',k0,k1,k2,k3,k5,cd,hC,hcd,hmro,hns,hdd,OT,hok⟩:=Zs X c.sh;obtain⟨hp,g,d,tk,os⟩:=s₁;have hcB:(Value.ref C::bm).contains (.type "BaseException")=true:=by rw [U1,OT.hasType (X:="BaseException") (b:=true) (by decide +kernel),gX]
 repeat (first | (with_reducible refine uI he ?_) | (with_reducible refine uI hC ?_) | (with_reducible refine uK he rfl h1 ?_) | (with_reducible refine UW hC ?_;rw [hcB]) | wp_step)
 exact wpAny_raiseNew_none hh hE
end
end L2
namespace L2
open PySem PySem.Spec PyProof.Rows
abbrev XS:=Value->Option Addr->St->Hp->Prop
def One (H:Hp)(d:Option Addr):Prop:=∃ a f v,d=some a/\H a=some (.xd [(f,v)])
def Nw (p:Prop)(h:Heap)(e:Addr)(c:Value)(d:Option Addr):Prop:=∃ sl vs,h.get? e=some ⟨c,d,.fields vs,sl⟩/\vs[1]? = some .none/\(p->vs[2]? = some .none)
def Fl (X:Cx)(E:XS)(e:Value)(s':Shared):Prop:=∃ (ea:Addr) (c:Value) (d:Option Addr) (H':Hp) (pins:Lp) (σ:St),e=.ref ea/\Inv X pins σ H' s'/\X.s₀.heap.objs.size<=ea/\H' ea=none/\(∀ q∈X.pn,q.1≠ea) /\ (Nw (One H' d) s'.heap ea c d\/∃ T fl,mi (One H' d) s'.heap ea T c d fl/\(fl=.none\/∃ L,X.env.frame=some L/\fl=rawInt L)/\X.s₀.heap.objs.size<=T/\H' T=none/\∀ q∈X.pn,q.1≠T)/\E c d σ H'
def mP (X:Cx)(E:XS):Prop:=∀ e s',Fl X E e s'->X.xe e s'
def mV (P:Program)(w:World):ma:=λouter H s E e s'=>∃ (ea T:Addr) (c:Value) (d:Option Addr) (H':Hp),e=.ref ea/\s.heap.objs.size<=ea/\s.heap.objs.size<=T/\mi (One H' d) s'.heap ea T c d .none/\H' ea=none/\H' T=none /\ s'.os=s.os/\AllBare s'.gens/\Un (lN outer) [] H H' s.heap s'.heap/\lj P w H' s'.heap/\E c d H'
section
variable {X:Cx} {pins:Lp} {σ:St} {H:Hp} {s s':Shared}
theorem Un.kp {h h1 h2:Heap}(u:Un fs [] H H' h h1)(k:Kp ch fs' h1 h2)(hc:∀ b∈ch,h.objs.size<=b)(hf:∀ b∈fs',b∈fs\/h.objs.size<=b):Un fs [] H H' h h2:=by
 have nc:∀ b o,h.get? b=some o->b∉ch:=λb o q z=>absurd (ur (ug q) (hc b z)) (uY _);refine⟨λb o q n hb _=>?_,λb o q n hb _=>?_,u.free,λb o q _=>?_,u.tups,u.frzs,u.tbls⟩
 ·refine k.keep b o (nc b o q) (λz=>?_) (u.keep b o q n hb (by simp));rcases hf b z with z | z
  ·exact hb z
  ·exact absurd (ur (ug q) z) (uY _)
 ·obtain⟨sl,e1⟩:=u.slot b o q n hb (by simp);obtain⟨sl',e2⟩:=k.slot b _ (nc b o q) e1;exact⟨sl',e2⟩
 ·obtain⟨o',e1⟩:=u.there b o q (by simp);obtain⟨sl',e2⟩:=k.slot b _ (nc b o q) e1;exact⟨_,e2⟩
theorem lj.kp (x:lj P w H h1)(k:Kp ch fs h1 h2)(hc:∀ b∈ch,H b=none)(hf:∀ b∈fs,H b=none):lj P w H h2:=λa o q=>
 (x a o q).stay (λb u hb z=>by
  have t:∃ v,H b=some v:=by
   rcases hb with rfl | hb
   ·exact⟨o,q⟩
   ·exact⟨_,hb⟩
  obtain⟨v,t⟩:=t
  exact k.keep b u (λy=>by rw [hc b y] at t;cases t) (λy=>by rw [hf b y] at t;cases t) z) (λ_ z=>z) λ_ _ z=>z
theorem Inv.frame (I:Inv X pins σ H s):X.stack=X.outer\/(X.A.frames=some (X.env::X.outer)/\s.heap.FunFrames X.base (X.env::X.outer)/\X.env.frame=some X.env.locals/\lN (X.env::X.outer)=X.env.locals::X.fs):=by
 rcases I.ok.stk with e | ⟨e,hf⟩
 ·exact .inl e
 ·refine .inr ⟨by rw [← e];exact I.ok.frames,by rw [← e];exact I.stack,hf,?_⟩;unfold lN;rw [gh,hf];rfl
theorem zM {P:Program}{w:World}{K:Lf}{mg:La}{base:Heap}{N:Lj}{qual:Str}{scope:Scope}{f:Addr}{cd:Value}{A:Around}{outer:List Env}{s:Shared}{H:Hp}{E:XK} : mP (iK (mV P w) P w K mg base N qual scope f cd A outer s H E) (λc d _ H'=>E c d H'):=by
 intro e s' hF;obtain⟨ea,c,d,H',pins,σ,rfl,I,hea,hHe,_,hv,hE⟩:=hF;have hst:(iK (mV P w) P w K mg base N qual scope f cd A outer s H E).stack=(iK (mV P w) P w K mg base N qual scope f cd A outer s H E).env::outer:=rfl;have hfr:=I.ok.frames;have hl:=I.stack;have hsub:=I.stkSub;have hfree:=I.stkFree;rw [hst] at hfr hl hsub hfree
 have fin:∀ (h':Heap) (T:Addr) (ch:Le),(s.heap.objs.size<=T/\H' T=none)->mi (One H' d) h' ea T c d .none->Kp ch (lN ((iK (mV P w) P w K mg base N qual scope f cd A outer s H E).env::outer)) s'.heap h'->(∀ b∈ch,s.heap.objs.size<=b/\H' b=none) ->
   mV P w outer H s E (.ref ea) { s' with heap:=h' }:=λh' T ch g1 g2 g3 g4=>by
  refine⟨ea,T,c,d,H',rfl,hea,g1.1,g2,hHe,g1.2,I.os,I.bare,?_,I.hok.kp g3 (λb hb=>(g4 b hb).2) hfree,hE⟩
  refine Un.kp (fs:=lN outer) I.base g3 (λb hb=>(g4 b hb).1) λb hb=>?_
  rcases uq.mp (hsub b hb) with z | z
  ·rw [z];exact .inr I.ok.above
  ·exact .inl z
 rcases hv with⟨sl,vs,he,h1,hp⟩ | ⟨T0,fl,hF,hfl,hT,hHT,_⟩
 ·exact KJ hfr hl rfl he h1 hp λh' T g1 g2 g3=>fin h' T [ea] ⟨uJ I.sz g1,I.hok.fresh g1⟩ g2 g3 λb hb=>by
   obtain rfl:b=ea:=by simpa using hb
   exact⟨hea,hHe⟩
 ·rcases hfl with hfl | ⟨L,hL,rfl⟩;rotate_left
  ·exact To hL hF λh2 f1 f2=>fin h2 T0 [T0] ⟨hT,hHT⟩ f1 (f2.mono (λ_ z=>z) λb z=>absurd z (by simp)) λb hb=>by
    obtain rfl:b=T0:=by simpa using hb
    exact⟨hT,hHT⟩
  subst hfl
  exact Tj hfr hl rfl hF λh' T g1 g2 g3=>fin h' T [T0,ea] ⟨uJ I.sz g1,I.hok.fresh g1⟩ g2 g3 λb hb=>by
   rcases uq.mp hb with z | z
   ·subst z;exact⟨hT,hHT⟩
   ·obtain rfl:b=ea:=by simpa using z
    exact⟨hea,hHe⟩
theorem Nk (I:Inv X pins σ H s)(h:mV X.prog X.w X.stack H s (λc d H'=>E c d σ H') e s'):Fl X E e s':=by
 obtain⟨ea,T,c,d,H',rfl,h1,h2,hF,n1,n2,ho,hg,hu,hk,hE⟩:=h;have np:∀ a,s.heap.objs.size<=a->∀ q∈X.pn,q.1≠a:=λa z q hq y=>by have:=(I.pin q (uX _ hq)).1;exact absurd (ur (ug this) (y ▸ z)) (uY _)
 exact⟨ea,c,d,H',pins,σ,rfl,I.call' ho hu hk hg (λb z=>absurd z (by simp)),uJ I.sz h1,n1,np ea h1,.inr ⟨T,_,hF,.inl rfl,uJ I.sz h2,n2,np T h2⟩,hE⟩
end
structure nJ (P:Program)(w:World)(K:Lf)(mg:La)(base:Heap)(k:Nat)(x:Str)(ps:Lj)(sp:Sp):Prop where
 ex:∃ (f:Addr) (fd:FuncData),PySem.W.keepIn K (.ref f)=true/\Binds K fd ps []/\mg x=some (.ref f)/\iD P w K mg base (mV P w) k f fd ps sp
section
variable {P:Program} {w:World} {K:Lf} {mg:La} {base:Heap}
theorem Df.okX {x:Str}{st:Stmt}{ps N:Lj}{k:Nat}{sp:Sp}(D:Df K mg x st ps)(Sc:zj N ps (zf st))(len:∀ vs H Q E,sp vs H Q E->vs.length=ps.length) (hbody:∀ (f:Addr) (cdv:Value) (A:Around) (outer:List Env) (s:Shared) (H:Hp) (vs:List V) (Q:VK) (E:XK),ib k (A.deeper (envOfC x (zf st) s.heap.objs.size f cdv))->sp vs H Q E -> ∃ t,lJ (iK (mV P w) P w K mg base N x (zf st) f cdv A outer s H E) (zV st) t/\t { nx:=λ_ H'=>Q .non H',rt:=Q } (start N vs) H):nJ P w K mg base (k+1) x ps sp:=by obtain⟨f,fd,F,b,m⟩:=D.ex;refine⟨f,fd,F.kp,b,m,?_⟩;obtain⟨oc,od,kV,doc,pm,an,cdv,ct,osl,rfl,lk,hcd⟩:=F.ex;exact tY lk hcd Sc len λA outer s H vs Q E hr h=>hbody f cdv A outer s H vs Q E hr h
end
section
variable {X:Cx} {k j:Nat} {x:Str} {ps:Lj} {sp:Sp} {p pos:Pos} {e:Expr} {es:Lh} {t:TA} {E:XS}
def Yl (sp:Sp)(E:XS)(t:TA):TE:=λσ H Q=>t σ H λvs H1=>sp vs H1 Q λc d H'=>E c d σ H'
theorem EJ {pins:Lp}(F:iD X.prog X.w X.K X.mg X.base (mV X.prog X.w) k f fd ps sp)(hr:ib k X.A)(hb:Binds X.K fd ps [])(hx:mP X E) (I:Inv X pins σ H s) (r:Vals vs us) (h:sp vs H Q λc d H'=>E c d σ H'):fN X (call (.ref f) us) (EP X pins σ Q) X.xe s:=by
 have hl:(us++[]).length=ps.length:=by rw [uj,← r.length];exact F.len _ _ _ _ h
 have hb':=hb s us I.kIn hl;rw [uj] at hb';refine Ud (Uh (F.run X.A X.stack s H ⟨us,[]⟩ us vs Q (λc d H'=>E c d σ H') hr I.iH hb' r h) λr s' hq=>?_);rcases r with e | (u | _ | _ | _)
 ·exact hx e s' (Nk I hq)
 all_goals first | exact I.after hq | exact False.elim hq
theorem Pw (hx:mP X E)(F:nJ X.prog X.w X.K X.mg X.base k x ps sp)(hr:ib j X.A)(hk:k<=j)(ha:PA X (e::es) t)(hg:Gl X x:=by rfl) (hdb:(x == ("__debug__":Str))=false:=by decide) (he:SE X e es:=by rfl) (hpl:(backTo pos (starEach es X.env)).any (·.1)=false:=by rfl):PE X (.Call (.Name x p) (e::es) [] pos) (Yl sp E t):=by intro pins s σ H Q I h;obtain⟨f,fd,kp,b,m,G⟩:=F.ex;refine uU (w4 I hg m ?_ hdb);refine Ui (h₀:=X.base) I.ok.mod.kin kp (ik (ha pos pins s σ H _ I h) λus s1 ⟨vs,H1,I1,r,q⟩=>⟨I1.kIn,?_⟩) he hpl;exact EJ G (hr.mono hk) b hx I1 r q
end
end L2
namespace L2
open PySem PySem.Spec PyProof.Rows PySem.W
def ll (C a:Addr):HO:=.ext λh=>∃ (vs:Array Value) (sl:Array (Option Value)) (t:Addr),h.get? a=some ⟨.ref C,none,.fields vs,sl⟩/\vs[0]? = some (.ref t)/\vs[1]? = some .none/\vs[2]? = some .none/\vs.size=6
def lD (C d a:Addr):HO:=.ext λh=>∃ (vs:Array Value) (sl:Array (Option Value)),h.get? a=some ⟨.ref C,some d,.fields vs,sl⟩/\vs[1]? = some .none/\vs[2]? = some .none/\vs.size=6
theorem Lk (e:H a=some o):upd H a o=H:=by
 funext b;unfold upd;split
 ·rename_i z;rw [z,e]
 ·rfl
section
variable {P:Program} {w:World} {H:Hp} {h:Heap} {C d a:Addr}
theorem Be (e:h.get? a=some ⟨.ref C,none,.fields vs,sl⟩)(h0:vs[0]? = some (.ref t))(h1:vs[1]? = some .none/\vs[2]? = some .none/\vs.size=6):qA P w H h a (ll C a):= ⟨⟨vs,sl,t,e,h0,h1⟩,⟨_,e⟩,λ_ _ ⟨vs,sl,t,e,r⟩ k=>⟨vs,sl,t,k _ e,r⟩⟩
theorem Lc (e:h.get? a=some ⟨.ref C,some d,.fields vs,sl⟩)(h1:vs[1]? = some .none/\vs[2]? = some .none/\vs.size=6):qA P w H h a (lD C d a):= ⟨⟨vs,sl,e,h1⟩,⟨_,e⟩,λ_ _ ⟨vs,sl,e,r⟩ k=>⟨vs,sl,k _ e,r⟩⟩
end
section
variable {X:Cx} {C B:Addr} {b self name:Str} {e a1:Expr} {es:Lh} {te:TE} {t:TA} {np p1 apos cpos pos pos':Pos} {i:Nat}
def VS (C:Addr):List V->Hp->VK->Prop:=λxs H Q=>∃ a v,xs=[.ref a,v]/\H a=some (ll C a)/\Q .non H
theorem SG (c:lg X.K C):jB X (.builtin "ValueError.__init__") (VS C):=by
 intro pins s σ H xs us Q I r h;obtain⟨a,v,rfl,ea,q⟩:=h;obtain⟨u1,u2,rfl,r1,r2⟩:=vals2 r;obtain rfl:u1=Value.ref a:=r1;obtain⟨⟨vs,sl,t,e,h0,h1⟩,_⟩:=I.hok a _ ea;refine Pz I.kIn c.sh e h0 (by show 1<=_;rw [uQ];decide) λh' k z=>⟨.non,H,?_,rfl,q⟩
 have I':=I.write (x:=a) (e:=a) (o:=ll C a) (h':=h') (t':=s.toks) (by rw [ea];exact True.intro) (.inl rfl) k ⟨_,z⟩ (Be (t:=s.heap.objs.size) z (by
  have:0<vs.size:=(u7.mp h0).1
  simp [this]) (by simpa [UM] using h1))
 rw [Lk ea] at I';exact I'
def pU (K:Frag)(B:Addr):Bool:=specialIn K (.ref B) "__getattribute__" == some (some (.builtin "type.__getattribute__"))&&readsIn K B (.type "type")&&(match findCls K (.ref B) (.type "type") "__init__" with | some (.val v)=>v == .builtin "ValueError.__init__" | _=>false)
theorem Jo (hm:X.mg b=some (.ref B))(hu:pU X.K B=true)(c:lg X.K C)(ha:PA X (a1::es) t)(hg:Gl X b:=by rfl) (hd:(b == ("__debug__":Str))=false:=by decide)
  (hst:SE X a1 es:=by rfl) (hpl:(backTo cpos (starEach es X.env)).any (·.1)=false:=by rfl)
  (ht:eval (.Call (.Attribute (.Name b np) "__init__" apos) (a1::es) [] cpos) X.env=(do
   let ov ← eval (.Name b np) X.env
   standAt apos.atName
   let (f,first) ← holding [ov] (getMethod ov "__init__" pl)
   callWith cpos f first (backTo cpos (starEach (a1::es) X.env)) (backToKw cpos (keywordEach [] X.env))):=by rfl):PE X (.Call (.Attribute (.Name b np) "__init__" apos) (a1::es) [] cpos) (oE (VS C) t):=by
 intro pins s σ H Q I h
 simp only [pU,uH,u6] at hu
 obtain⟨⟨u1,u2⟩,u3⟩:=hu
 split at u3
 ·rename_i v hv
  obtain rfl:v=.builtin "ValueError.__init__":=u6.mp u3
  refine UP (pl:=pl) (w4 I hg hm (method_cls I.kIn u1 (cls_value I.kIn u2 hv rfl ?_)) hd) ht
  exact callWith_builtin1 (ik (ha cpos pins _ σ H _ (I.tok _) h) λus s1 ⟨vs,H1,I1,r1,q1⟩=>SG c pins s1 σ H1 vs us Q I1 r1 q1) hst hpl
 ·cases u3
def KO (K:Frag)(C:Addr)(ta tv:TE)(name:Str):TS:=λD σ H=>tv σ H λy H1=>ta σ H1 λx H2=>∃ a,x=.ref a/\H2 a=some (ll C a)/\∀ d,H2 d=none->d≠a->D.nx σ (upd (upd H2 a (lD C d a)) d (.xd [(name,y)]))
theorem Jp {o value:Expr}(c:lg X.K C)(hn:findIn X.K (.ref C) name=some none)(ha:PE X o ta)(hv:PE X value tv)(hs:swapsWith value (some (.Attribute o name pos')) pos.line X.env=pure false:=by rfl) : PS X (.Assign [.Attribute o name pos'] value pos) (KO X.K C ta tv name):=by
 intro pins s σ H D I h;refine UT (ik (hv pins s σ H _ I h) λu s1 ⟨y,H1,I1,ry,q⟩=>ik (ha pins s1 σ H1 _ I1 q) λov s2 zq=>?_) hs;obtain⟨x,H2,I2,rx,a,ex,ea,q2⟩:=zq;subst ex;obtain rfl:ov=Value.ref a:=rx;obtain⟨⟨vs,sl,t,e,h0,h1⟩,_⟩:=I2.hok a _ ea;refine Py I2.kIn e c.sh c.hd c.sa hn λh' d tk g1 g2 g3 g4=>?_;have hn:=I2.hok.fresh g1;have nd:d≠a:=λz=>by rw [z,ea] at hn;cases hn
 refine⟨σ,_,?_,q2 d hn nd⟩
 have u:Un X.fs [] H2 (upd (upd H2 a (lD C d a)) d (.xd [(name,y)])) s2.heap h':=by
  have na:∀ b,H2 b=none->b≠a:=λb z y=>by rw [y,ea] at z;cases z
  have nd':∀ b o,s2.heap.get? b=some o->b≠d:=λb o z y=>absurd (ur (ug z) (y ▸ g1)) (uY _);have nx:∀ b o,H2 b=some o->b≠d:=λb o z y=>by rw [y,hn] at z;cases z
  refine⟨λb o z n _ _=>g4 b o (na b n) z,λb o z n _ _=>⟨o.slots,g4 b o (na b n) z⟩,λb o z n _=>by rw [zk (nd' b o z),zk (na b n)];exact n,λb o z _=>?_,λb xs z=>?_,λb o u z=>?_,λb ps z=>⟨#[],?_⟩⟩
  ·by_cases hb:b=a
   ·rw [hb];exact⟨_,g2⟩
   ·exact⟨o,g4 b o hb z⟩
  all_goals
   have nb:b≠a:=λy=>by rw [y,ea] at z;cases z
   rw [zk (nx b _ z),zk nb,z]
  simp
 refine I2.un u λb o z=>?_;by_cases hb:b=d
 ·subst hb;rw [zb] at z;cases z;refine⟨_,g3,λf=>?_⟩;by_cases hf:f=name
  ·subst hf;simp only [ue];simpa [List.lookup,iN] using ry
  ·have:(f == name)=false:=uN.mpr hf;simp only [ub hf,List.lookup,this];trivial
 ·rw [zk hb] at z;by_cases hb2:b=a
  ·subst hb2;rw [zb] at z;cases z;exact Lc g2 h1
  ·rw [zk hb2] at z;have nown:∀ c y,H2 c=some (.own y)->c≠a:=λc y r q=>by rw [q,ea] at r;cases r
   have ntup:∀ c y,H2 c=some (.tup y)->c≠a:=λc y r q=>by rw [q,ea] at r;cases r
   have nx:∀ b o,H2 b=some o->b≠d:=λb o z y=>by rw [y,hn] at z;cases z
   refine(I2.hok b o z).stay (λc v hc q=>g4 c v ?_ q) (λc q=>by rw [zk (nx c _ q),zk (nown c _ q)];exact q) λc xs q=>by rw [zk (nx c _ q),zk (ntup c _ q)];exact q
   rcases hc with rfl | hc
   ·exact hb2
   ·exact nown c _ hc
def BE (te:TE):TE:=λσ H Q=>te σ H λv H1=>((∃ n:Int,v=.int n/\0<=n/\n<1000000)\/∃ z:Str,v=.str z/\z.length<=1000000)/\∀ y,Q (.str y) H1
theorem AI {a:Str}(he:PE X e te)(ha:a.length<=1000:=by decide +kernel):PE X (.JoinedStr [.Constant (.str a) j q1,.FormattedValue e (-1) none q2] q3) (BE te):=by
 intro pins s σ H Q I h;refine JoinedStr_many (GV (Calls.Constant_str ⟨?_,?_⟩))
 ·rw [Gs,uQ];show 0+a.length<=_;lia
 refine GV (FormattedValue_plain (ik (he pins _ σ H _ (I.tok _) h) λu s1 zq=>?_));obtain⟨v,H1,I1,r,hv,q⟩:=zq
 have fin:∀ (y:Str) (tk:Nat),y.length<=1000001->(Str.empty++a++y).length<=sizeLine/\fN X (joinParts (Str.empty++a++y) []) (EP X pins σ Q) X.xe { s1 with toks:=tk }:=λy tk hy=>by
  have hz:(Str.empty++a++y).length<=sizeLine:=by rw [Gs,Gs,uQ];show 0+a.length+y.length<=_;lia
  exact⟨hz,joinParts_nil ⟨.str _,H1,I1.tok _,⟨_,rfl⟩,q _⟩ hz⟩
 rcases hv with⟨n,rfl,n0,n1⟩ | ⟨z,rfl,hz⟩
 ·obtain⟨tk,rfl⟩:=r;refine formatField_int_small (RZ n0 n1) (fin _ _ ?_);have e1:=int_text_length_le10 (a:=n) (k:=7) (by decide) (by lia);show(Str.ofString (toString n)).length<=_;rw [PySem.ofString_length];lia
 ·obtain⟨tk,rfl⟩:=r;exact formatField_str (λt' tk'=>fin _ _ (by lia)) (by rw [uQ];lia)
end
def EI (C:Addr)(f:Str)(pay:V->Prop):Sp:=λvs H Q _=>∃ a v,vs=[.ref a,v]/\H a=some (ll C a)/\pay v/\∀ d,H d=none->d≠a->Q .non (upd (upd H a (lD C d a)) d (.xd [(f,v)]))
def nz (v:V):Prop:=(∃ n:Int,v=.int n/\0<=n/\n<1000000)\/∃ z:Str,v=.str z/\z.length<=1000000
structure Ai (P:Program)(w:World)(K:Frag)(mg:La)(base:Heap)(x:Str)(C:Addr)(f:Str)(pay:V->Prop):Prop where
 gl:mg x=some (.ref C)
 cl:lg K C
 kp:keepIn K (.ref C)=true
 ex:∃ (fI:Addr) (fd:FuncData) (oI:Obj) (ps:Lj),WK K C=some (some (.ref fI))/\K.lookup fI=some oI/\oI.cls=.type "function"/\Binds K fd ps []/\iD P w K mg base mr 1 fI fd ps (EI C f pay)
theorem SD {K:Frag}{C:Addr}{f p:Str}{a:Addr}{v:V}{H:Hp}{Q:VK}(ea:H a=some (ll C a))(hp:nz v)(q:∀ d,H d=none->d≠a->Q .non (upd (upd H a (lD C d a)) d (.xd [(f,v)]))) :
  iT (WD (oE (VS C) (ju (iA 0) (ju (BE (iA 1)) iU)))) (KO K C (iA 0) (iA 1) f) { nx:=λ_ H'=>Q .non H',rt:=Q } (start ["self",p] [.ref a,v]) H:=
 ⟨.ref a,rfl,v,rfl,hp,λy=>⟨a,.str y,rfl,ea,v,rfl,.ref a,rfl,a,rfl,ea,λd h1 h2=>q d h1 h2⟩⟩
section
variable {X:Cx} {E:XS} {C:Addr} {x f:Str} {pay:V->Prop} {e:Expr} {es:Lh} {t:TA} {np cpos pos:Pos} {j:Nat}
def Ym (C:Addr)(f:Str)(pay:V->Prop)(E:XS)(t:TA):TS:=λ_ σ H=>t σ H λvs H1=>∃ v,vs=[v]/\pay v/\∀ d H2,fO H1 H2->H1 d=none->H2 d=some (.xd [(f,v)])->E (.ref C) (some d) σ H2
theorem Pu (hx:mP X E)(R:Ai X.prog X.w X.K X.mg X.base x C f pay)(hr:ib j X.A)(hj:2<=j)(ha:PA X (e::es) t)(hg:Gl X x:=by rfl) (hdb:(x == ("__debug__":Str))=false:=by decide) (he:SE X e es:=by rfl) (hpl:(backTo cpos (starEach es X.env)).any (·.1)=false:=by rfl) : PS X (.Raise (some (.Call (.Name x np) (e::es) [] cpos)) none pos) (Ym C f pay E t):=by
 intro pins s σ H D I h;have c:=R.cl;rw [Gi];refine ua (u5 (VR (C:=C) (K:=X.K) hr.hd ?_));refine ua (um (Q:=λv s₁=>∃ x dd vs sl,v=.ref x/\X.K.In s₁.heap/\lg X.K C/\s₁.heap.get? x=some ⟨.ref C,dd,.fields vs,sl⟩/\vs[1]? = some .none/\X.xe (.ref x) s₁) ?_ (λv s₁ h₁=>ua (u5 (ud h₁))) λ_ _ z=>z);refine uU (w4 I hg R.gl ?_ hdb);refine Ui (h₀:=X.base) I.ok.mod.kin R.kp (ik (ha cpos pins s σ H _ I h) λus s1 ⟨vs,H1,I1,r,v,hvs,hp,q⟩=>⟨I1.kIn,?_⟩) he hpl;subst hvs;obtain⟨u,rfl,rv⟩:=vals1 r;obtain⟨fI,fd,oI,ps,i1,i2,i3,hb,F⟩:=R.ex;refine KL I1.kIn c.sh i1 i2 i3 (by show 1<=_;rw [uQ];decide) λh' a g1 g2=>?_;obtain⟨t0,z1,_,_⟩:=g2.there;have n1:=I1.hok.fresh g1;have I2:Inv X pins σ (upd H1 a (ll C a)) { s1 with heap:=h' }:=I1.laid (t':=s1.toks) g2.keeps g1 (Be (t:=t0) z1 rfl ⟨rfl,rfl,rfl⟩)
 have hsp:EI C f pay [.ref a,v] (upd H1 a (ll C a)) (λw2 H2=>w2=.non/\∃ d,upd H1 a (ll C a) d=none/\d≠a/\H2=upd (upd (upd H1 a (ll C a)) a (lD C d a)) d (.xd [(f,v)])) E0:=
  ⟨a,v,rfl,zb,hp,λd q1 q2=>⟨rfl,d,q1,q2,rfl⟩⟩
 have r2:Vals [V.ref a,v] [Value.ref a,u]:=.cons rfl (.cons rv .nil);have hb':=hb { s1 with heap:=h' } [.ref a,u] I2.kIn (by rw [← F.len _ _ _ _ hsp];rfl);refine Ud (Uh (F.run (X.A.under (.builtin "type.__call__" ⟨.ref C::[u],[]⟩)) X.stack { s1 with heap:=h' } _ ⟨[.ref a,u],[]⟩ _ _ _ _ ((hr.mono hj).make C [u] []) (I2.iH.make C [u] []) hb' (by simpa using r2) hsp) λr s' hq=>?_);rcases r with er | fl
 ·exact False.elim hq
 cases fl with
 | next=>exact False.elim hq
 | brk=>exact False.elim hq
 | cont=>exact False.elim hq
 | ret w2=>
  obtain⟨v2,H2,I3,rv2,rfl,d,q1,q2,rfl⟩:=I2.after hq;refine⟨rv2,a,some d,?_⟩;have hx1:qA X.prog X.w (upd (upd (upd H1 a (ll C a)) a (lD C d a)) d (.xd [(f,v)])) s'.heap a (lD C d a):=I3.hok a _ (by rw [zk (Ne.symm q2),zb]);obtain⟨⟨vs',sl',e1,e2⟩,_⟩:=hx1;refine⟨vs',sl',rfl,I3.kIn,c,e1,e2.1,hx _ _ ?_⟩;have np:∀ q∈X.pn,q.1≠a:=λq hq y=>by have:=(I1.pin q (uX _ hq)).1;exact absurd (ur (ug this) (y ▸ g1)) (uY _)
  have q1':H1 d=none:=by rw [zk q2] at q1;exact q1
  have sa:fO H1 (λb=>if b=a then none else upd (upd (upd H1 a (ll C a)) a (lD C d a)) d (.xd [(f,v)]) b):=λb o hb=>by
   have ba:b≠a:=λy=>by rw [y,n1] at hb;cases hb
   have bd:b≠d:=λy=>by rw [y,q1'] at hb;cases hb
   simp only [ub ba];rw [zk bd,zk ba,zk ba];exact hb
  refine⟨a,.ref C,some d,_,[],σ,rfl,?_,uJ I1.sz g1,?_,np,.inl ⟨sl',vs',e1,e2.1,λ_=>e2.2.1⟩,q d _ sa q1' ?_⟩
  ·have I4:Inv X [] σ (upd (upd (upd H1 a (ll C a)) a (lD C d a)) d (.xd [(f,v)])) s':=I3.pins_of λp hp=>absurd hp (by simp)
   have key:∀ b o,(λb=>if b=a then none else upd (upd (upd H1 a (ll C a)) a (lD C d a)) d (.xd [(f,v)]) b) b=some o->b≠a/\upd (upd (upd H1 a (ll C a)) a (lD C d a)) d (.xd [(f,v)]) b=some o:=λb o z=>by
    by_cases hb:b=a
    ·simp [hb] at z
    ·simp only [ub hb] at z;exact⟨hb,z⟩
   have back:∀ b o,b≠a->upd (upd (upd H1 a (ll C a)) a (lD C d a)) d (.xd [(f,v)]) b=some o->(λb=>if b=a then none else upd (upd (upd H1 a (ll C a)) a (lD C d a)) d (.xd [(f,v)]) b) b=some o:=λb o hb z=>by simp only [ub hb];exact z
   have nex:∀ b o,upd (upd (upd H1 a (ll C a)) a (lD C d a)) d (.xd [(f,v)]) b=some o->(∀ φ,o≠.ext φ)->b≠a:=λb o z no y=>by rw [y,zk (Ne.symm q2),zb] at z;cases z;exact no _ rfl
   refine I4.step (h':=s'.heap) (g':=s'.gens) (t':=s'.toks) (d':=s'.drawn) (ch:=[]) (λ_ z=>absurd z (by simp)) (λb o _ _ _ z _=>z) (λb o _ _ _ z _=>⟨o.slots,z⟩) (λb o _ _ z=>?_) (λb o _ z=>⟨o,z⟩) (λb xs z=>back b _ (nex b _ z λ_ y=>by cases y) z) (λb o u z=>back b _ (nex b _ z λ_ y=>by cases y) z)
    (λb ps z=>⟨#[],by rw [GC];exact back b _ (nex b _ z λ_ y=>by cases y) z⟩) (λm z=>z) (λb o z=>?_) I4.bare
   ·by_cases hb:b=a
    ·simp [hb]
    ·simp only [ub hb];exact z
   ·obtain⟨hb,z⟩:=key b o z;exact(I4.hok b o z).stay (λ_ _ _ y=>y) (λc y=>back c _ (nex c _ y λ_ y=>by cases y) y) λc xs y=>back c _ (nex c _ y λ_ y=>by cases y) y
  ·simp
  ·simp only [ub q2];rw [zb]
end
section
variable {X:Cx} {pins:Lp} {σ:St} {H:Hp} {s:Shared}
def pC (X:Cx)(b:Addr):Prop:=X.s₀.heap.objs.size<=b/\b≠X.env.locals/\(∀ x c,X.env.cells.lookup x=some c->c≠b)/\∀ p∈X.pn,p.1≠b
theorem kG (I:Inv X pins σ H s){b:Addr}{o:Obj}{vs:Array Value}(e:s.heap.get? b=some o)(hd:o.data=.fields vs)(h0:X.s₀.heap.objs.size<=b)(hp:∀ p∈X.pn,p.1≠b):pC X b:=by
 refine⟨h0,λz=>?_,λx c hc z=>?_,hp⟩
 ·obtain⟨m,⟨o',es,ep,e',d',_⟩,_⟩:=I.loc;rw [← z,e] at e';cases e';rw [hd] at d';cases d'
 ·obtain⟨v,o',e',d'⟩:=I.cell x c hc;rw [z,e] at e';cases e';rw [hd] at d';cases d'
theorem Xv (I:Inv X pins σ H s){b:Addr}(h:s.heap.objs.size<=b):pC X b:=by
 refine⟨uJ I.sz h,λz=>absurd I.lt (by rw [← z];exact gW.mpr h),λx c hc z=>?_,λp hp z=>?_⟩
 ·obtain⟨v,o',e',d'⟩:=I.cell x c hc;exact absurd (ur (ug e') (z ▸ h)) (uY _)
 ·have:=(I.pin p (uX _ hp)).1;exact absurd (ur (ug this) (z ▸ h)) (uY _)
theorem Inv.kp {h':Heap}{H':Hp}{ch:Le}(I:Inv X [] σ H s)(k:Kp ch (lN X.stack) s.heap h')(hc:∀ b∈ch,pC X b/\H b=none)(hH:∀ b,b∉ch->H' b=H b)(hok:lj X.prog X.w H' h'):Inv X [] σ H' { s with heap:=h' }:=by
 have nt:∀ b o,H b=some o->b∉ch:=λb o z y=>by rw [(hc b y).2] at z;cases z
 refine I.step (h':=h') (g':=s.gens) (t':=s.toks) (d':=s.drawn) (ch:=ch) (λb hb=>?_) (λb o n1 n2 n3 z _=>?_) (λb o n1 n2 n3 z _=>k.slot b o n3 z) (λb o n3 z n=>by rw [hH b n3];exact n) (λb o n3 z=>let ⟨sl,q⟩:=k.slot b o n3 z;⟨_,q⟩)
  (λb xs z=>by rw [hH b (nt b _ z)];exact z) (λb o u z=>by rw [hH b (nt b _ z)];exact z) (λb ps z=>⟨#[],by rw [hH b (nt b _ z),GC];exact z⟩) (λm hm=>?_) hok I.bare
 ·obtain⟨a1,a2,a3,a4⟩:=(hc b hb).1;exact⟨.inr a1,a2,a3,λp hp=>(u9.mp hp).elim (a4 p) λz=>absurd z (by simp)⟩
 ·exact k.keep b o n3 (λy=>(uq.mp (I.stkSub b y)).elim n1 n2) z
 ·obtain⟨o,es,ep,ho,r⟩:=hm;obtain⟨sl,q⟩:=k.slot _ o (λz=>(hc _ z).1.2.1 rfl) ho;exact⟨_,es,ep,q,r⟩
theorem Inv.lost {h':Heap}{tk:Nat}{m':La}(I:Inv X pins σ H s)(hn:h'.Ns X.env.locals m')(hs:Heap.SameBut X.env.locals s.heap h'):Inv X pins (σ.map λ_=>none) H { s with heap:=h',toks:=tk }:=by
 have lt:∀ b o,X.s₀.heap.get? b=some o->b≠X.env.locals:=λb o e=>Uc (ur (ug e) I.ok.above);refine⟨I.ok,I.os,I.bare,⟨λb o e n hb hx=>?_,λb o e n hb hx=>?_,I.base.free,λb o e hx=>?_,I.base.tups,I.base.frzs,I.base.tbls⟩,⟨_,hn,λj y v' e1 e2 e3=>?_⟩,λy c e=>?_,I.free,I.freeC,λp hp=>?_,λb ob e=>?_,by simpa using I.len⟩
 ·exact(hs.2 b (lt b o e)).trans (I.base.keep b o e n hb hx)
 ·obtain⟨sl,e1⟩:=I.base.slot b o e n hb hx;exact⟨sl,(hs.2 b (lt b o e)).trans e1⟩
 ·obtain⟨o',e1⟩:=I.base.there b o e hx;exact⟨o',(hs.2 b (lt b o e)).trans e1⟩
 ·rw [Uk] at e2;cases q:σ[j]? with
  | none=>rw [q] at e2;cases e2
  | some z=>rw [q] at e2;cases e2
 ·obtain⟨w',z⟩:=I.cell y c e;exact⟨w',z.sameBut hs (I.cne y c e)⟩
 ·obtain⟨e,n,ne,nf,d⟩:=I.pin p hp;exact⟨(hs.2 p.1 ne).trans e,n,ne,nf,d⟩
 ·refine(I.hok b ob e).stay (λc w' hc q=>(hs.2 c ?_).trans q) (λ_ q=>q) λ_ _ q=>q;rintro rfl;rcases hc with rfl | hc
  ·rw [I.free] at e;cases e
  ·rw [I.free] at hc;cases hc
abbrev Cx.tryIn (X:Cx)(pn:Lp)(xe:fL):Cx:={ X with pn:=pn,xe:=xe }
abbrev Cx.exInG (X:Cx)(pn:Lp)(ea:Addr)(xe:fL):Cx:={ X with pn:=pn,A:=X.A.mark (some (.ref ea)),calm:=false,xe:=xe }
abbrev Cx.exIn (X:Cx)(pn:Lp)(ea:Addr):Cx:=X.exInG pn ea λ_ _=>False
theorem Cx.Ok.tryIn (ok:X.Ok)(pn:Lp)(xe:fL):(X.tryIn pn xe).Ok:= ⟨ok.mod,ok.kind,ok.glob,ok.blt,ok.above,ok.inj,ok.has,ok.cab,ok.hd,ok.frames,ok.stk,ok.exf,ok.bs,ok.bsz,ok.noex,ok.exfs,ok.funs,ok.frf⟩
theorem Cx.Ok.exIn (ok:X.Ok)(pn:Lp)(ea:Addr)(xe:fL):(X.exInG pn ea xe).Ok:=
 ⟨ok.mod,ok.kind,ok.glob,ok.blt,ok.above,ok.inj,ok.has,ok.cab,λz=>absurd (show false=true from z) (by decide),ok.frames,ok.stk,ok.exf,ok.bs,ok.bsz,ok.noex,ok.exfs,ok.funs,ok.frf⟩
theorem Inv.tryIn (I:Inv X pins σ H s)(xe:fL):Inv (X.tryIn (X.pn++pins) xe) [] σ H s:=⟨I.ok.tryIn _ _,I.os,I.bare,I.base,I.loc,I.cell,I.free,I.freeC,λp hp=>I.pin p (by simpa using hp),I.hok,I.len⟩
theorem Inv.untry {xe:fL}(ok:X.Ok)(I:Inv (X.tryIn (X.pn++pins) xe) [] σ H s):Inv X pins σ H s:=⟨ok,I.os,I.bare,I.base,I.loc,I.cell,I.free,I.freeC,λp hp=>I.pin p (by simpa using hp),I.hok,I.len⟩
theorem Inv.toEx {xe xe':fL}(ok:X.Ok)(ea:Addr)(I:Inv (X.tryIn (X.pn++pins) xe) [] σ H s):Inv (X.exInG (X.pn++pins) ea xe') [] σ H s:=⟨ok.exIn _ _ _,I.os,I.bare,I.base,I.loc,I.cell,I.free,I.freeC,I.pin,I.hok,I.len⟩
theorem Inv.unEx {ea:Addr}(ok:X.Ok)(I:Inv (X.exInG (X.pn++pins) ea xe) [] σ H s):Inv X pins σ H s:=⟨ok,I.os,I.bare,I.base,I.loc,I.cell,I.free,I.freeC,λp hp=>I.pin p (by simpa using hp),I.hok,I.len⟩
end
def yU (H:Hp)(a C:Addr)(d:Option Addr):Prop:=∃ o,H a=some (.frz o (.own a))/\o.cls=.ref C/\o.dict=d/\∃ vs,o.data=.fields vs
def rT (H:Hp)(a:Addr):Prop:=∃ o vs,H a=some (.frz o (.own a))/\o.data=.fields vs/\vs[2]? = some .none
def pT (X:Cx)(E:XS)(e:Value)(s':Shared):Prop:=∃ (ea:Addr) (c:Value) (d:Option Addr) (H':Hp) (σ:St),e=.ref ea/\Inv X [] σ H' s'/\X.s₀.heap.objs.size<=ea/\H' ea=none/\(∀ q∈X.pn,q.1≠ea)/\Nw (One H' d) s'.heap ea c d/\E c d σ H'
abbrev AH (D:Ends):Ends:={ nx:=λσ2 H2=>D.nx (σ2.map λ_=>none) H2,rt:=D.rt,bk:=λσ2 H2=>D.bk (σ2.map λ_=>none) H2,ct:=λσ2 H2=>D.ct (σ2.map λ_=>none) H2 }
def pW (K:Frag)(Dc:Addr)(i:Nat)(tb:XS->TS)(th:TS):TS:=λD σ H=>
 tb (λc d σ' H'=>∃ C,c=.ref C/\lg K C/\mroIn K C (.ref Dc)=some true/\∀ ea H2,fO H' H2->yU H2 ea C d->th { nx:=λσ2 H2=>D.nx (σ2.map λ_=>none) H2,rt:=D.rt,bk:=λσ2 H2=>D.bk (σ2.map λ_=>none) H2,ct:=λσ2 H2=>D.ct (σ2.map λ_=>none) H2 } (σ'.set i (some (.ref ea))) H2) D σ H
def AV (K:Frag)(Dc:Addr)(i:Nat)(tb:XS->TS)(th:Addr->TS):TS:=λD σ H=>
 tb (λc d σ' H'=>∃ C,c=.ref C/\lg K C/\mroIn K C (.ref Dc)=some true/\One H' d/\∀ ea H2,fO H' H2->yU H2 ea C d->rT H2 ea->th ea (AH D) (σ'.set i (some (.ref ea))) H2) D σ H
section
variable {X:Cx} {Dc:Addr} {x n:Str} {i:Nat} {tb:XS->TS} {th:TS} {body suite:List Stmt} {b₀:Stmt} {np hpos pos:Pos}
def tL (X:Cx)(ea:Addr)(n:Str)(hpos:Pos)(e:Value)(s3:Shared):Prop:=
 wpAny (model X.prog X.w) (X.A.mark (some (.ref ea))) (noteFrame e X.env) (λ_ s4=>wpAny (model X.prog X.w) (X.A.mark (some (.ref ea))) (do bindName X.env n .none;unbindBehindTheSuite X.env n hpos)
  (λ_ s5=>wpAny (model X.prog X.w) (X.A.mark (some (.ref ea))) (PySem.passOn "try.except-as" e X.env:Sem Flow) (λ_ _=>False) (notedBy (model X.prog X.w) (X.A.mark (some (.ref ea))) X.env (cameBackBy (model X.prog X.w) X.A X.env X.xe)) s5)
  (λy s5=>wpAny (model X.prog X.w) (X.A.mark (some (.ref ea))) (setFlight e none) (λ_ s6=>(notedBy (model X.prog X.w) (X.A.mark (some (.ref ea))) X.env (cameBackBy (model X.prog X.w) X.A X.env X.xe)) y s6) (notedBy (model X.prog X.w) (X.A.mark (some (.ref ea))) X.env (cameBackBy (model X.prog X.w) X.A X.env X.xe)) s5) s4)
  (notedBy (model X.prog X.w) (X.A.mark (some (.ref ea))) X.env (cameBackBy (model X.prog X.w) X.A X.env X.xe)) s3
theorem SA {pins:Lp}(ok:X.Ok)(hl:X.env.scope.names.lookup n=some .local)(hst:X.stack=X.env::X.outer)(hf:X.env.frame=some X.env.locals)(hx:mP X E) (h:pT (X.exIn (X.pn++pins) ea) (λc d σ H=>E c d (σ.map λ_=>none) H) e s3):tL X ea n hpos e s3:=by
 obtain⟨x,c,d,H',σ,rfl,I,hx0,hHx,hpn,⟨sl,vs,he,h1,hp⟩,hE⟩:=h;have hfr:(X.A.mark (some (.ref ea))).frames=some (X.env::X.outer):=by rw [← hst];exact ok.frames
 have hlf:s3.heap.FunFrames X.base (X.env::X.outer):=by rw [← hst];exact I.stack
 have hfree:∀ b∈lN (X.env::X.outer),H' b=none:=by rw [← hst];exact I.stkFree
 have ox:=kG I he rfl hx0 hpn;refine Qy (p:=One H' d) hfr hlf hf he h1 hp λh4 T g1 g2 g3=>?_;have oT:=Xv I g1;have nT:=I.hok.fresh g1;have xT:x≠T:=λz=>absurd (ug he) (by rw [z];exact gW.mpr g1);have I4:Inv (X.exIn (X.pn++pins) ea) [] σ H' { s3 with heap:=h4 }:=I.kp (by rw [hst];exact g3) (λb hb=>by rw [show b=x by simpa using hb];exact⟨ox,hHx⟩) (λ_ _=>rfl) (I.hok.kp g3 (λb hb=>by rw [show b=x by simpa using hb];exact hHx) hfree);obtain⟨m,hn,_⟩:=I4.loc;refine wpAny_nameGoes hl hn (by rw [I4.ok.kind];rfl) λh5 m' z1 z2=>?_;have I5:Inv X [] (σ.map λ_=>none) H' { s3 with heap:=h5,toks:=s3.toks+1 }:=((I4.unEx ok).lost z1 z2).pins_of λp hp=>absurd hp (by simp);have F5:mi (One H' d) h5 x T c d (rawInt X.env.locals):=by obtain⟨sl',vs',oT',ts,he',hv',tn,hT',hd',h3'⟩:=g2;exact⟨sl',vs',oT',ts,(z2.2 x ox.2.1).trans he',hv',tn,(z2.2 T oT.2.1).trans hT',hd',h3'⟩
 have tail:∀ (h6:Heap),Inv X [] (σ.map λ_=>none) H' { s3 with heap:=h6,toks:=s3.toks+1 }->mi (One H' d) h6 x T c d (rawInt X.env.locals)->∀ (Q:Unit->Shared->Prop) (A:Around) (E':fL),(∀ h7,Inv X [] (σ.map λ_=>none) H' { s3 with heap:=h7,toks:=s3.toks+1 }->mi (One H' d) h7 x T c d (rawInt X.env.locals)->Q () { s3 with heap:=h7,toks:=s3.toks+1 }) ->
   wpAny (model X.prog X.w) A (setFlight (.ref x) X.env.frame) Q E' { s3 with heap:=h6,toks:=s3.toks+1 }:=λh6 J F Q A E' k=>
  SJ (s:={ s3 with heap:=h6,toks:=s3.toks+1 }) hf F λh7 f1 f2=>k h7 (Inv.kp (s:={ s3 with heap:=h6,toks:=s3.toks+1 }) J (f2.mono (λ_ z=>z) λb z=>absurd z (by simp)) (λb hb=>by rw [show b=T by simpa using hb];exact⟨⟨oT.1,oT.2.1,oT.2.2.1,λp hp=>oT.2.2.2 p (uX _ hp)⟩,nT⟩) (λ_ _=>rfl)
   (J.hok.kp (fs:=[]) f2 (λb hb=>by rw [show b=T by simpa using hb];exact nT) λb z=>absurd z (by simp))) f1
 obtain⟨sl5,vs5,oT5,ts5,he5,hv5,_⟩:=id F5;unfold PySem.passOn;refine ua (uK he5 rfl hv5 ?_);rw [ub (show ¬ (Value.ref T == Value.none)=true by simp)];refine ua (tail h5 I5 F5 _ _ _ λh6 I6 F6=>wpAny_throw ?_);refine JU hf F6 ?_;obtain⟨sl6,vs6,oT6,ts6,he6,hv6,_⟩:=id F6;unfold cameBackBy;refine ua (uK he6 rfl hv6 ?_);rw [ub (show ¬ (Value.ref T == Value.none)=true by simp)];refine tail h6 I6 F6 _ _ _ λh7 I7 F7=>hx _ _ ⟨x,c,d,H',[],_,rfl,I7,hx0,hHx,λq hq=>hpn q (uX _ hq),.inr ⟨T,_,F7,.inr ⟨_,hf,rfl⟩,oT.1,nT,λq hq=>oT.2.2.2 q (uX _ hq)⟩,hE⟩
theorem EH {th:Addr->TS}{xe':Lp->Addr->Value->Shared->Prop}{pins:Lp}{s:Shared}{σ:St}{H:Hp}{D:Ends}{Ex:XS}(hm:X.mg x=some (.ref Dc))(cD:lg X.K Dc)(hN:X.N.Nodup)(hi:X.N[i]? = some n)(hl:X.env.scope.names.lookup n=some .local)(hst:X.stack=X.env::X.outer)(hf:X.env.frame=some X.env.locals) (hb:∀ (E:XS) (pn:Lp) (xe:fL),PassesOwn (model X.prog X.w) X.A X.env xe->mP (X.tryIn pn xe) E->lJ (X.tryIn pn xe) body (tb E)) (hh:∀ pn ea,lJ (X.exInG pn ea (xe' pn ea)) (b₀::suite) (th ea)) (hxe:∀ ea e s3,xe' (X.pn++pins) ea e s3->tL X ea n hpos e s3) (hg:Gl X x) (hdb:(x == ("__debug__":Str))=false) (I:Inv X pins σ H s) (h:tb Ex D σ H) (hE:∀ c d σ' H',Ex c d σ' H'->∃ C,c=.ref C/\lg X.K C/\mroIn X.K C (.ref Dc)=some true/\∀ ea H2,fO H' H2->yU H2 ea C d->(One H' d->rT H2 ea)->th ea (AH D) (σ'.set i (some (.ref ea))) H2) : fN X (exec (.Try body [.ExceptHandler (some (.Name x np)) (some n) (b₀::suite) hpos] [] [] pos) X.env) (SP X pins D) X.xe s:=by
 refine wpAny_Try_except ?_
 refine um (hb _ (X.pn++pins) (λe s₁=>fN X (noteFrame e X.env) (λ_ s₂=>fN X (setFlight e none) (λ_ s₃=>
  fN X (handleBy e X.env [.ExceptHandler (some (.Name x np)) (some n) (b₀::suite) hpos]) (SP X pins D) X.xe s₃) X.xe s₂) X.xe s₁) PassesOwn.looking ?_ [] s σ H D (I.tryIn _) h) (λf s1 q=>?_) λe s1 z=>z
 ·intro e s' hF;obtain⟨ea,c,d,H',pins',σ',rfl,I1',hea,hHe,hpn,hv,hEx⟩:=hF;obtain⟨C,rfl,cC,hmr,hth⟩:=hE _ _ _ _ hEx;have I1:Inv (X.tryIn (X.pn++pins) _) [] σ' H' s':=I1'.pins_of λp hp=>absurd hp (by simp);clear I1';have hfr:X.A.frames=some (X.env::X.outer):=by rw [← hst];exact I.ok.frames
  have hlf:s'.heap.FunFrames X.base (X.env::X.outer):=by rw [← hst];exact I1.stack
  have hfree:∀ b∈lN (X.env::X.outer),H' b=none:=by rw [← hst];exact I1.stkFree
  have go:∀ (h2:Heap) (T:Addr) (ch:Le),(s'.heap.objs.size<=T\/True)->mi (One H' d) h2 ea T (.ref C) d .none->Kp ch (lN (X.env::X.outer)) s'.heap h2->ea∈ch->T∈ch->(∀ b∈ch,pC (X.tryIn (X.pn++pins) λ_ _=>True) b/\H' b=none) ->
    fN X (handleBy (.ref ea) X.env [.ExceptHandler (some (.Name x np)) (some n) (b₀::suite) hpos]) (SP X pins D) X.xe { s' with heap:=h2 }:=by
   intro h2 T ch g1 g2 g3 m1 m2 g4
   have I2:Inv (X.tryIn (X.pn++pins) _) [] σ' H' { s' with heap:=h2 }:=I1.kp (by rw [hst];exact g3) (λb hb=>⟨(g4 b hb).1,(g4 b hb).2⟩) (λ_ _=>rfl) (I1.hok.kp g3 (λb hb=>(g4 b hb).2) hfree)
   have I3:=I2.toEx (xe':=xe' (X.pn++pins) ea) I.ok ea
   obtain⟨sl,vs,oT,ts,he,hv1,tn,hT,hd,h3,_⟩:=id g2
   refine wpAny_handleBy_cons (codeAny_handlers_test (w4 (X:=X.exInG (X.pn++pins) ea (xe' (X.pn++pins) ea)) I3 hg hm ?_ hdb)) (by intro q;cases q)
   refine SH (s:={ s' with heap:=h2 }) I3.kIn he rfl cC cD hmr ?_
   refine codeAny_handlers_suite_as ?_
   refine wJ (s:={ s' with heap:=h2 }) g2 λh4 f1 f2 f3=>?_
   obtain⟨sl4,vs4,oT4,ts4,he4,_,_,_,_,_,hp4⟩:=id f1
   have I4:Inv (X.exInG (X.pn++pins) ea (xe' (X.pn++pins) ea)) [] σ' (upd H' ea (.frz ⟨.ref C,d,.fields vs4,sl4⟩ (.own ea))) { s' with heap:=h4 }:=by
    have k:Kp [ea,T] (lN X.stack) h2 h4:=f2.mono (λb hb=>uL _ hb) (λb hb=>absurd hb (by simp))
    refine Inv.kp (s:={ s' with heap:=h2 }) I3 k (λb hb=>?_) (λb hb=>?_) λb o z=>?_
    ·have:b∈ch:=by
      rcases uq.mp hb with z | z
      ·rw [z];exact m1
      ·rw [show b=T by simpa using z];exact m2
     exact⟨(g4 b this).1,(g4 b this).2⟩
    ·exact zk λz=>hb (by simp [z])
    ·by_cases hb:b=ea
     ·subst hb
      rw [zb] at z
      cases z
      exact⟨he4,⟨_,he4⟩⟩
     ·rw [zk hb] at z
      have nT:∀ c u,H' c=some u->c∉[T]:=λc u q y=>by
       rw [show c=T by simpa using y,(g4 T m2).2] at q;cases q
      have ne:∀ c u,H' c=some u->c≠ea:=λc u q y=>by rw [y,hHe] at q;cases q
      refine(I2.hok b o z).stay (λc u hc q=>?_) (λc q=>by rw [zk (ne c _ q)];exact q) λc xs q=>by rw [zk (ne c _ q)];exact q
      rcases hc with rfl | hc
      ·exact f2.keep _ u (nT _ _ z) (by simp) q
      ·exact f2.keep _ u (nT _ _ hc) (by simp) q
   refine Xj (X:=X.exInG (X.pn++pins) ea (xe' (X.pn++pins) ea)) I4 hN hi (.inl hl) (v:=.ref ea) rfl (λs5 I5=>?_) (.inr hl)
   have hsm:fO H' (upd H' ea (.frz ⟨.ref C,d,.fields vs4,sl4⟩ (.own ea))):=λb o q=>by rw [zk λy=>by rw [y,hHe] at q;cases q];exact q
   refine um (hh (X.pn++pins) ea [] s5 _ _ _ I5 (hth ea _ hsm ⟨_,zb,rfl,rfl,_,rfl⟩ λz=>⟨_,_,zb,rfl,hp4 z⟩)) (λf s6 q=>?_) λe s6 z=>hxe ea e s6 z
   have gone:∀ σ6 H6,Inv (X.exInG (X.pn++pins) ea (xe' (X.pn++pins) ea)) [] σ6 H6 s6->(∀ s7,Inv X pins (σ6.map λ_=>none) H6 s7->SP X pins D f s7)->fN X (do bindName X.env n .none;unbindBehindTheSuite X.env n hpos) (λ_ s7=>SP X pins D f s7) X.xe s6:=by
    intro σ6 H6 J k
    obtain⟨m,hn,_⟩:=J.loc
    exact wpAny_nameGoes hl hn (by rw [J.ok.kind];rfl) λh' m' z1 z2=>k _ ((J.unEx I.ok).lost z1 z2)
   cases f with
   | next=>obtain⟨σ6,H6,J,q⟩:=q;exact gone σ6 H6 J λs7 J'=>⟨_,H6,J',q⟩
   | brk=>obtain⟨σ6,H6,J,q⟩:=q;exact gone σ6 H6 J λs7 J'=>⟨_,H6,J',q⟩
   | cont=>obtain⟨σ6,H6,J,q⟩:=q;exact gone σ6 H6 J λs7 J'=>⟨_,H6,J',q⟩
   | ret u=>obtain⟨v,σ6,H6,J,r,q⟩:=q;exact gone σ6 H6 J λs7 J'=>⟨v,_,H6,J',r,q⟩
  rcases hv with⟨sl,vs,he,h1,hp⟩ | ⟨T0,fl,hF,hfl,hT,hHT,hpT⟩
  ·refine Qy hfr hlf hf he h1 hp λh1' T g1 g2 g3=>wJ (s:={ s' with heap:=h1' }) g2 λh2 f1 f2 f3=>?_;refine go h2 T ([ea]++[T]) (.inr trivial) f1 (g3.trans (f2.mono (λ_ z=>z) λb z=>absurd z (by simp))) (by simp) (by simp) λb hb=>?_;rcases u9.mp hb with z | z
   ·rw [show b=ea by simpa using z];exact⟨kG I1 he rfl hea hpn,hHe⟩
   ·rw [show b=T by simpa using z];exact⟨Xv I1 g1,I1.hok.fresh g1⟩
  ·obtain⟨sl,vs,oT,ts,he,hv1,tn,hTT,hd,h3,_⟩:=id hF;rcases hfl with hfl | ⟨L,hL,rfl⟩;rotate_left
   ·refine JU (by exact hL) hF (wJ hF λh2 f1 f2 f3=>go h2 T0 [T0,ea] (.inr trivial) f1 (f2.mono (λb z=>by rw [show b=T0 by simpa using z];exact .head _) λb z=>absurd z (by simp)) (by simp) (by simp) λb hb=>?_);rcases uq.mp hb with z | z
    ·rw [z];exact⟨kG I1 hTT hd hT hpT,hHT⟩
    ·rw [show b=ea by simpa using z];exact⟨kG I1 he rfl hea hpn,hHe⟩
   subst hfl;refine VQ hfr hlf hf hF λh1' T g1 g2 g3=>wJ (s:={ s' with heap:=h1' }) g2 λh2 f1 f2 f3=>?_;refine go h2 T ([T0,ea]++[T]) (.inr trivial) f1 (g3.trans (f2.mono (λ_ z=>z) λb z=>absurd z (by simp))) (by simp) (by simp) λb hb=>?_;rcases u9.mp hb with z | z
   ·rcases uq.mp z with z | z
    ·rw [z];exact⟨kG I1 hTT hd hT hpT,hHT⟩
    ·rw [show b=ea by simpa using z];exact⟨kG I1 he rfl hea hpn,hHe⟩
   ·rw [show b=T by simpa using z];exact⟨Xv I1 g1,I1.hok.fresh g1⟩
 ·cases f with
  | next=>obtain⟨σ',H',I',q⟩:=q;exact UO ⟨σ',H',I'.untry I.ok,q⟩
  | brk=>obtain⟨σ',H',I',q⟩:=q;exact⟨σ',H',I'.untry I.ok,q⟩
  | cont=>obtain⟨σ',H',I',q⟩:=q;exact⟨σ',H',I'.untry I.ok,q⟩
  | ret u=>obtain⟨v,σ',H',I',r,q⟩:=q;exact⟨v,σ',H',I'.untry I.ok,r,q⟩
theorem IZ (hm:X.mg x=some (.ref Dc))(cD:lg X.K Dc)(hN:X.N.Nodup)(hi:X.N[i]? = some n)(hl:X.env.scope.names.lookup n=some .local)(hst:X.stack=X.env::X.outer)(hf:X.env.frame=some X.env.locals)
  (hb:∀ (E:XS) (pn:Lp) (xe:fL),PassesOwn (model X.prog X.w) X.A X.env xe->mP (X.tryIn pn xe) E->lJ (X.tryIn pn xe) body (tb E))
  (hh:∀ pn ea,lJ (X.exIn pn ea) (b₀::suite) th) (hg:Gl X x:=by rfl) (hdb:(x == ("__debug__":Str))=false:=by decide) :
  PS X (.Try body [.ExceptHandler (some (.Name x np)) (some n) (b₀::suite) hpos] [] [] pos) (pW X.K Dc i tb th):=λpins s σ H D I h=>
 EH (th:=λ_=>th) (xe':=λ_ _ _ _=>False) hm cD hN hi hl hst hf hb hh (λ_ _ _ z=>z.elim) hg hdb I h λ_ _ _ _ ⟨C,e,a,b,k⟩=>⟨C,e,a,b,λea H2 z1 z2 _=>k ea H2 z1 z2⟩
theorem Nj {th:Addr->TS}{E:XS}(hx:mP X E)(hm:X.mg x=some (.ref Dc))(cD:lg X.K Dc)(hN:X.N.Nodup)(hi:X.N[i]? = some n)(hl:X.env.scope.names.lookup n=some .local)(hst:X.stack=X.env::X.outer)(hf:X.env.frame=some X.env.locals)
  (hb:∀ (E:XS) (pn:Lp) (xe:fL),PassesOwn (model X.prog X.w) X.A X.env xe->mP (X.tryIn pn xe) E->lJ (X.tryIn pn xe) body (tb E))
  (hh:∀ pn ea,lJ (X.exInG pn ea (pT (X.exIn pn ea) λc d σ H=>E c d (σ.map λ_=>none) H)) (b₀::suite) (th ea)) (hg:Gl X x:=by rfl) (hdb:(x == ("__debug__":Str))=false:=by decide) :
  PS X (.Try body [.ExceptHandler (some (.Name x np)) (some n) (b₀::suite) hpos] [] [] pos) (AV X.K Dc i tb th):=λpins s σ H D I h=>
 EH hm cD hN hi hl hst hf hb hh (λea e s3 z=>SA I.ok hl hst hf hx z) hg hdb I h λ_ _ _ _ ⟨C,e,a,b,o,k⟩=>⟨C,e,a,b,λea H2 z1 z2 z3=>k ea H2 z1 z2 (z3 o)⟩
end
structure Got (K:Frag)(H:Hp)(a C:Addr)(fs:List (Str×V)):Prop where
 cl:lg K C
 ex:∃ d,yU H a C (some d)/\H d=some (.xd fs)
theorem yU.mono (c:yU H a C d)(s:fO H H'):yU H' a C d:=by obtain⟨o,e,r⟩:=c;exact⟨o,s _ _ e,r⟩
theorem Got.mono {K:Frag}{H H':Hp}{a C:Addr}{fs:List (Str×V)}(g:Got K H a C fs)(s:fO H H'):Got K H' a C fs:=by obtain⟨d,c,e⟩:=g.ex;exact⟨g.cl,d,c.mono s,s _ _ e⟩
section
variable {X:Cx} {pins:Lp} {σ:St} {H:Hp} {s:Shared} {a C:Addr} {fs:List (Str×V)}
theorem Xw (I:Inv X pins σ H s)(g:Got X.K H a C fs):∃ (ox od:Obj) (mA:La),InstAt s.heap a ox C (some od)/\(∀ f,lookIn f od=some (mA f))/\∀ f,iN (fs.lookup f) (mA f):=by
 obtain⟨d,⟨o,e,h1,h2,vs,h3⟩,ed⟩:=g.ex;obtain⟨e',_⟩:=(show qA X.prog X.w H s.heap a (.frz o (.own a)) from I.hok a _ e)
 obtain⟨mA,n,r⟩:=(show qA X.prog X.w H s.heap d (.xd fs) from I.hok d _ ed)
 obtain⟨od,ho,hl⟩:=VF n;obtain⟨oc,odi,oda,osl⟩:=o;dsimp only at h1 h2 h3;subst h1 h2 h3;exact⟨_,od,mA,⟨e',rfl,rfl,ho⟩,hl,r⟩
def t7:V->Bool | .ref _=>true | .ty _=>true | _=>false
def pA:V->Value | .ref a=>.ref a | .ty n=>.type n | _=>.none
theorem EG (h:t7 v=true)(r:RelV v u):u=pA v:=by cases v<;>first | exact r | cases h
theorem KP:∀ {vs:List V} {us:Lg},vs.all t7=true->Vals vs us->us=vs.map pA
 | _,_,_,.nil=>rfl
 | _,_,h,.cons r t=>by simp only [Gw,uH] at h;rw [uw,← EG h.1 r,← KP h.2 t]
def rg (K:Frag):List V->Hp->VK->Prop:=λxs H Q=>∃ a c C fs b,xs=[.ref a,c]/\Got K H a C fs/\t7 c=true/\kitOne K (.ref C) (pA c)=some b/\Q (.bl b) H
def AU (K:Frag):List V->Hp->VK->Prop:=λxs H Q=>∃ a p C fs ys b,xs=[.ref a,.ref p]/\H p=some (.tup ys)/\Got K H a C fs/\ys.all t7=true/\kitAny K (.ref C) (ys.map pA)=some b/\Q (.bl b) H
theorem Pt:jB X (.builtin "isinstance") (rg X.K):=by intro pins s σ H xs us Q I r h;obtain⟨a,c,C,fs,b,rfl,g,hc,e,q⟩:=h;obtain⟨u1,u2,rfl,r1,r2⟩:=vals2 r;obtain rfl:u1=Value.ref a:=r1;obtain rfl:=EG hc r2;obtain⟨ox,od,mA,J,_⟩:=Xw I g;exact Ua (EK g.cl) I.kIn J e (λz=>nomatch z) λtk=>⟨.bl b,H,I.tok _,rfl,q⟩
theorem Sz:jB X (.builtin "isinstance") (AU X.K):=by
 intro pins s σ H xs us Q I r h;obtain⟨a,p,C,fs,ys,b,rfl,ep,g,hc,e,q⟩:=h;obtain⟨u1,u2,rfl,r1,r2⟩:=vals2 r;obtain rfl:u1=Value.ref a:=r1;obtain rfl:u2=Value.ref p:=r2;obtain⟨ox,od,mA,J,_⟩:=Xw I g;obtain⟨_,fX,rv,o,ho,hoc,n,hod⟩:=(show qA X.prog X.w H s.heap p (.tup ys) from I.hok p _ ep)
 obtain rfl:=KP hc rv;obtain⟨oc,odi,oda,osl⟩:=o;dsimp only at hoc hod;subst hoc hod;exact kia_tup (EK g.cl) I.kIn J ho e (λz=>nomatch z) λtk=>⟨.bl b,H,I.tok _,rfl,q⟩
theorem vS {K:Frag}(hK:X.K=K):jB X (.builtin "isinstance") (rg K):=by subst hK;exact Pt
theorem kH {K:Frag}(hK:X.K=K):jB X (.builtin "isinstance") (AU K):=by subst hK;exact Sz
def p9 (K:Frag)(te:TE)(f:Str):TE:=λσ H Q=>te σ H λx H1=>∃ a C fs v,x=.ref a/\Got K H1 a C fs/\findIn K (.ref C) f=some none/\fs.lookup f=some v/\Q v H1
theorem IY {K:Frag}{e:Expr}{te:TE}{f:Str}{pos:Pos}(hK:X.K=K)(he:PE X e te)(hb:attributeBase e f X.env (eval e X.env)=eval e X.env:=by rfl):PE X (.Attribute e f pos) (p9 K te f):=by subst hK;intro pins s σ H Q I h;refine EU hb (ik (he pins s σ H _ I h) λu s1 zq=>?_);obtain⟨x,H1,I1,rx,a,C,fs,v,ex,g,n,l,q⟩:=zq;subst ex;obtain rfl:u=Value.ref a:=rx;obtain⟨ox,od,mA,J,hl,hr⟩:=Xw I1 g;obtain⟨u,hu,ru⟩:=iN.some_of (v:=v) (o:=mA f) (by rw [← l];exact hr f);exact Nl I1.kIn J g.cl (findObj_own g.cl.hd n rfl (by rw [hl,hu])) (VG ru) ⟨v,H1,I1.tok _,ru,q⟩
end
section
variable {X:Cx}
end
section
variable {X:Cx} {k j:Nat} {x:Str} {ps:Lj} {sp:Sp} {p pos:Pos} {e:Expr} {es:Lh} {t:TA} {a:Addr}
theorem KQ:Passes (mV P w) X E0:=λ_ _ _ _ _ _ _ h=>by obtain⟨_,_,_,_,_,_,_,_,_,_,_,_,_,_,_,z⟩:=h;exact z.elim
theorem Pq (F:nJ X.prog X.w X.K X.mg X.base k x ps sp)(hr:ib j X.A)(hk:k<=j)(ha:PA X (e::es) t)(hg:Gl X x:=by rfl) (hdb:(x == ("__debug__":Str))=false:=by decide) (he:SE X e es:=by rfl) (hpl:(backTo pos (starEach es X.env)).any (·.1)=false:=by rfl):PE X (.Call (.Name x p) (e::es) [] pos) (yt sp [] E0 t):=by obtain⟨f,fd,kp,b,m,G⟩:=F.ex;exact ET G (hr.mono hk) hg m kp b .nil KQ ha hdb he hpl
theorem IW (h:X.mg x=some (.ref a))(hg:Gl X x:=by rfl) (hd:(x == ("__debug__":Str))=false:=by decide):PE X (.Name x pos) (tC (.ref a)):=EA hg h rfl hd
end
theorem Vn:bootBuiltins "ValueError" = some (.type "ValueError"):=by decide +kernel
structure nS (K:Frag)(C:Addr)(qual:Str)(st:Stmt)(ps:Lj):Prop where
 ex:∃ (fI:Addr) (fd:FuncData) (oI:Obj),WK K C=some (some (.ref fI))/\K.lookup fI=some oI/\oI.cls=.type "function"/\oB K "__init__" qual st fI fd/\Binds K fd ps []
theorem IV {K:Frag}{C:Addr}{qual:Str}{st:Stmt}{ps:Lj}{f:Addr}{od an:Option Addr}{osl:Array (Option Value)}{kV doc pm cdv ct:Value} (b:∀ (kV doc pm:Value) (an:Option Addr) (cdv ct:Value) (us:Lg),us.length=ps.length->bindArgs (fnOf "__init__" qual (jd st) (zV st) (zf st) .none kV doc pm an cdv ct) ⟨us,[]⟩=pure (ps.zip us)) (a:WK K C=some (some (.ref f))) (l:K.lookup f=some ⟨.type "function",od,.func (fnOf "__init__" qual (jd st) (zV st) (zf st) .none kV doc pm an cdv ct),osl⟩) (c:codeIn K cdv qual=true) (k:keepIn K (.ref f)=true):nS K C qual st ps:= ⟨f,_,_,a,l,rfl,ZC l c k,(ZC l c k).binds b⟩
end L2
namespace L2
open PySem PySem.Spec PySem.Calls PyProof.Rows PySem.W
section
variable {X:Cx}
def rH (xs ys:List V):Bool:=(List.range (min xs.length ys.length)).all (λj=>mZ (xs.getD j .non) (ys.getD j .non))&&xs.length == ys.length
def rj (K:Lf):R2:=λx y H Q=>∃ a b xs ys,x=.ref a/\y=.ref b/\((ij K H a xs/\ij K H b ys)\/(f7 K H a xs/\f7 K H b ys))/\xs.all zR=true/\ys.all zR=true/\Q (.bl (rH xs ys)) H
theorem Dv {xs ys:List V}{us vs:Lg}(r1:Vals xs us)(r2:Vals ys vs)(f1:xs.all zR=true)(f2:ys.all zR=true) : ∀ j (h1:j<us.toArray.size) (h2:j<vs.toArray.size),SeqAt.EqAt A s us.toArray[j] vs.toArray[j] (mZ (xs.getD j .non) (ys.getD j .non)):=by intro j h1 h2;rw [uh] at h1 h2;have l1:=r1.length;have l2:=r2.length;have e1:xs[j]? = some xs[j]:=ux (by lia);have e2:ys[j]? = some ys[j]:=ux (by lia);obtain⟨u,hu,ru⟩:=r1.get e1;obtain⟨v,hv,rv⟩:=r2.get e2;rw [ux h1] at hu;rw [ux h2] at hv;rw [List.getElem_toArray,List.getElem_toArray,uG hu,uG hv,G6,G6,e1,e2];exact Bh ru rv (gO.mp f1 _ (Uj _)) (gO.mp f2 _ (Uj _))
theorem IU (hu:X.A.units<cLine):iM X (compareOp .Eq) (rj X.K):=by
 intro pins s σ H x y v u Q I rx ry h;obtain⟨a,b,xs,ys,rfl,rfl,hq,f1,f2,q⟩:=h;cases rx;cases ry;rcases hq with⟨ha,hb⟩ | ⟨ha,hb⟩
 ·obtain⟨fX,r1,p1,_⟩:=I.list ha;obtain⟨its2,r2,p2,_⟩:=I.list hb;have l1:=r1.length;have l2:=r2.length;by_cases hl:xs.length=ys.length
  ·refine SeqAt.eq_listAt p1.isList p2.isList (by simp;lia) hu (Dv r1 r2 f1 f2) ⟨.bl _,H,I,rfl,?_⟩;have:rH xs ys=(List.range fX.toArray.size).all (λj=>mZ (xs.getD j .non) (ys.getD j .non)):=by unfold rH;rw [uh,← l1,hl,Nat.min_self];simp
   rw [← this];exact q
  ·refine SeqAt.eq_list_lengthsAt p1.isList p2.isList (by simp;lia) hu ⟨.bl _,H,I,rfl,?_⟩;have:rH xs ys=false:=by unfold rH;rw [show(xs.length == ys.length)=false by simp [hl],U5]
   rw [← this];exact q
 ·obtain⟨fX,r1,p1,_⟩:=I.tuple ha;obtain⟨its2,r2,p2,_⟩:=I.tuple hb;have l1:=r1.length;have l2:=r2.length;refine SeqAt.eq_tupleAt p1 p2 hu (Dv r1 r2 f1 f2) ⟨.bl _,H,I,rfl,?_⟩;rw [uh,uh,← l1,← l2];exact q
theorem Ni {K:Frag}(hK:X.K=K)(hu:X.A.units<cLine):iM X (compareOp .Eq) (rj K):=by subst hK;exact IU hu
theorem FX {A:Around}(hr:ib k A):A.units<cLine:=Nat.lt_of_succ_lt (VM hr)
end
end L2
namespace L2
open PySem PySem.W
end L2
namespace L2
open PySem PySem.Spec PySem.Calls PyProof.Rows PySem.W
section
variable {X:Cx} {pins:Lp} {σ:St} {H:Hp} {s:Shared} {h':Heap}
theorem Inv.turned2 (I:Inv X pins σ H s)(k:∀ b o,b≠e->b≠it->s.heap.get? b=some o->h'.get? b=some o)(fe:lK X pins H e)(fi:lK X pins H it) : Inv X pins σ H { s with heap:=h',toks:=t' }:=by
 obtain⟨e0,e1,_,e3,e4,e5⟩:=fe;obtain⟨i0,i1,_,i3,i4,i5⟩:=fi;have hk:∀ b o,b∉[e,it]->s.heap.get? b=some o->h'.get? b=some o:=λb o hb q=>k b o (λz=>hb (by simp [z])) (λz=>hb (by simp [z])) q
 have nn:∀ b u,H b=some u->b∉[e,it]:=λb u q z=>by
  rcases uq.mp z with z | z
  ·rw [z,e0] at q;cases q
  ·rw [uC.mp z,i0] at q;cases q
 refine I.step (g':=s.gens) (d':=s.drawn) (ch:=[e,it]) ?_ (λb o _ _ hc q _=>hk b o hc q) (λb o _ _ hc q _=>⟨o.slots,hk b o hc q⟩) (λ_ _ _ _ n=>n) (λb o hc q=>⟨o,hk b o hc q⟩)
  (λ_ _ q=>q) (λ_ _ _ q=>q) (λb ps q=>⟨#[],by rw [q];simp⟩) ?_ ?_ I.bare
 ·intro b hb;rcases uq.mp hb with z | z
  ·rw [z];exact⟨e3,e1,e4,e5⟩
  ·rw [uC.mp z];exact⟨i3,i1,i4,i5⟩
 ·intro m hm;obtain⟨o,es,ep,ho,r⟩:=hm;exact⟨o,es,ep,k _ o (Ne.symm e1) (Ne.symm i1) ho,r⟩
 ·intro b u q;refine(I.hok b u q).stay (λc v hc z=>hk c v ?_ z) (λ_ z=>z) λ_ _ z=>z;rcases hc with z' | z'
  ·rw [z'];exact nn b u q
  ·exact nn c _ z'
end
def Ah (go:Nat->Hp->Prop)(yv:Nat->Hp->V->Prop)(stop:Nat->Hp->Prop):It:=⟨go,λi H x H'=>∃ p v,H p=none/\yv i H v/\x=.ref p/\H' = upd H p (.tup [.int i,v]),stop⟩
theorem Ry {P:Program}{w:World}{K:Lf}{elts:Lh}{ek:Nat}{epos:Pos}{e it:Addr}{go:Nat->Hp->Prop}{yv:Nat->Hp->V->Prop}{stop:Nat->Hp->Prop}{tn:Nat->Heap->Prop}(hne:e≠it)
  (hobj:∀ i h,tn i h->∃ o,h.get? it=some o/\∀ v,o.data≠.cell v)
  (hkeep:∀ i h h',tn i h->(∀ o,h.get? it=some o->h'.get? it=some o)->tn i h')
  (hitem:∀ (X:Cx),X.prog=P->X.w=w->X.K=K->X.calm=true->∀ (i:Nat) (pins:Lp) (s:Shared) (σ:St) (H:Hp),Inv X pins σ H s->tn i s.heap->go i H->(∃ old,IsEnum s.heap e it i old) ->
   ∃ fp n Pd St,Draws P w X.A.in1 it fp n Pd St/\St i s.heap/\i<n/\e∉fp/\(∀ h,St (i+1) h->tn (i+1) h)/\∀ x,Pd i x->∃ v,RelV v x/\yv i H v)
  (hdone:∀ (X:Cx),X.prog=P->X.w=w->X.K=K->X.calm=true->∀ (i:Nat) (pins:Lp) (s:Shared) (σ:St) (H:Hp),Inv X pins σ H s->tn i s.heap->stop i H ->
   ∃ fp n Pd St,Draws P w X.A.in1 it fp n Pd St/\St n s.heap) :
  Turn P w K (.Tuple elts ek epos) (Ah go yv stop) [e,it] e (λi h=>(∃ old,IsEnum h e it i old)/\tn i h) where
 mem:=by simp
 obj:=λi h st b hb=>by
  rcases uq.mp hb with z | z
  ·obtain⟨⟨old,q⟩,_⟩:=st
   rw [z]
   exact⟨_,q,λv z=>nomatch z⟩
  ·rw [uC.mp z]
   exact hobj i h st.2
 keep:=λi h h' st k=>by
  obtain⟨⟨old,q⟩,st⟩:=st
  exact⟨⟨old,k e (by simp) _ q⟩,hkeep i h h' st (k it (by simp))⟩
 item:=by
  intro X hP hw hK hc i pins s σ H E I hf st hg
  obtain⟨⟨old,q⟩,st⟩:=st
  obtain⟨fp,n,Pd,St,D,hs,hlt,hef,hst,hv⟩:=hitem X hP hw hK hc i pins s σ H I st hg ⟨old,q⟩
  refine wpAny_pyNext_enum_itemD D q hs hlt hne hef λx h1 tk hx ho hs1 hT hsz hk=>⟨_,rfl,?_⟩
  obtain⟨v,rv,yv'⟩:=hv x hx
  have helt:e<s.heap.objs.size:=ug q
  refine wpAny_letOwnedTupleGo_enum ho λh2 he2 hs2=>?_
  have hTe:s.heap.objs.size≠e:=GF helt
  have hT2:h2.get? s.heap.objs.size=some { cls:=.type "tuple",data:=.seq #[.int i tk,x] }:=(hs2.2 _ hTe).trans hT
  have fe:=hf e (by simp)
  have fi:=hf it (by simp)
  have fresh:H s.heap.objs.size=none:=I.hok.fresh (ui _)
  have hit:s.heap.objs.size≠it:=by
   obtain⟨o,z⟩:=D.live _ _ hs
   exact GF (ug z)
  have I0:=I.laid (t':=s.toks) (a:=s.heap.objs.size) (o:=.tup [.int i,v]) (h':=s.heap.push { cls:=.type "tuple",data:=.seq #[.int i tk,x] }) (λb o z=>uf _ z) (ui _) (by
   refine⟨by show 2<=sizeLine;decide,[.int i tk,x],.cons ⟨tk,rfl⟩ (.cons rv .nil),?_⟩
   exact⟨_,uB _ rfl,rfl,_,rfl⟩)
  have fe0:lK X pins (upd H s.heap.objs.size (.tup [.int i,v])) e:=⟨by rw [zk (Ne.symm hTe)];exact fe.1,fe.2⟩
  have fi0:lK X pins (upd H s.heap.objs.size (.tup [.int i,v])) it:=⟨by rw [zk (Ne.symm hit)];exact fi.1,fi.2⟩
  have I2:=I0.turned2 (h':=h2) (t':=tk+1) (e:=e) (it:=it) (λb o hbe hbi z=>by
   by_cases hb:b=s.heap.objs.size
   ·rw [hb] at z ⊢
    have z':some ({ cls:=.type "tuple",data:=.seq #[.int i tk,x] }:Obj)=some o:=(uB _ rfl).symm.trans z
    rw [hT2];exact z'
   ·have z':s.heap.get? b=some o:=by
     have z2:=z
     rw [Heap.get?_push_ne _ _ _ hb] at z2
     exact z2
    exact(hs2.2 b hbe).trans (hk b o hbe hbi z')) fe0 fi0
  refine⟨.ref s.heap.objs.size,upd H s.heap.objs.size (.tup [.int i,v]),I2,rfl,⟨_,v,fresh,yv',rfl,rfl⟩,⟨⟨_,he2⟩,?_⟩,λb hb=>?_⟩
  ·refine hkeep _ _ _ (hst h1 hs1) λo z=>(hs2.2 it (Ne.symm hne)).trans z
  ·rcases uq.mp hb with z | z
   ·rw [z];exact fe0.1
   ·rw [uC.mp z];exact fi0.1
 done:=by
  intro X hP hw hK hc i pins s σ H E I hf st hg
  obtain⟨⟨old,q⟩,st⟩:=st
  obtain⟨fp,n,Pd,St,D,hs⟩:=hdone X hP hw hK hc i pins s σ H I st hg
  have fi:=hf it (by simp)
  refine wpAny_pyNext_enum_endD D q hs λh1 hx=>⟨rfl,I.turned (t':=s.toks) (λb o hb z=>hx b o hb z) fi.1 fi.2.1 fi.2.2.2.1 fi.2.2.2.2.1 fi.2.2.2.2.2⟩
 self:=λA i s Q E st h=>by
  obtain⟨⟨old,q⟩,_⟩:=st
  exact He q h
section
variable {X:Cx}
def CA (x:Str):Nat->Hp->Prop:=λi _=>i<x.cps.size
def Bw (x:Str):Nat->Hp->V->Prop:=λi _ v=>∃ c,x.cps[i]? = some c/\v=.str ⟨#[c]⟩
def BQ (x:Str):Nat->Hp->Prop:=λi _=>x.cps.size<=i
theorem Tg {P:Program}{w:World}{K:Lf}{elts:Lh}{ek:Nat}{epos:Pos}{e it:Addr}(hne:e≠it)(x:Str)(t:Tok) : Turn P w K (.Tuple elts ek epos) (Ah (CA x) (Bw x) (BQ x)) [e,it] e (λi h=>(∃ old,IsEnum h e it i old)/\(h.IsStrIter it (strIterType x) x t i/\i<=x.cps.size)):=by
 have dr:∀ A:Around,A.handled=none->Draws P w A it [it] x.cps.size (λi v=>∃ c u,x.cps[i]? = some c/\v=.str ⟨#[c]⟩ u) (λi h=>h.IsStrIter it (strIterType x) x t i):=λA hA=>by
  unfold strIterType;cases ha:x.cps.all (· < 128)
  ·exact Draws.strWide hA it x t
  ·exact Draws.strAscii hA it x t
 refine Ry hne ?_ ?_ ?_ ?_
 ·intro i h st;obtain⟨o,ho,_,hd⟩:=st.1;exact⟨o,ho,λv z=>by rw [hd] at z;cases z⟩
 ·intro i h h' st k;obtain⟨⟨o,ho,r⟩,hl⟩:=st;exact⟨⟨o,k o ho,r⟩,hl⟩
 ·intro X hP hw hK hc i pins s σ H I st hg he;refine⟨[it],_,_,_,dr X.A.in1 (I.ok.hd hc),st.1,hg,by simp [hne],λh z=>⟨z,hg⟩,λv hv=>?_⟩;obtain⟨c,u,hcu,rfl⟩:=hv;exact⟨.str ⟨#[c]⟩,⟨u,rfl⟩,c,hcu,rfl⟩
 ·intro X hP hw hK hc i pins s σ H I st hg;have hi:i=x.cps.size:=Nat.le_antisymm st.2 hg;subst hi;exact⟨[it],_,_,_,dr X.A.in1 (I.ok.hd hc),st.1⟩
def Yn (ta:TA):TI:=λσ H R=>ta σ H λvs H1=>∃ z,vs=[.str z]/\R (Ah (CA z) (Bw z) (BQ z)) H1
theorem Pp {a:Expr}{ta:TA}{p pos:Pos}{elts:Lh}{ek:Nat}{epos:Pos}(hg:Gl X "enumerate")(hm:X.mg "enumerate" = none)(ha:PA X [a] ta)(hs:starEach [a] X.env=[(false,eval a X.env)]:=by rfl) : PI X (.Tuple elts ek epos) (.Call (.Name "enumerate" p) [a] [] pos) (Yn ta):=by
 intro pins s σ H R I h;refine Call_ (Xk I hg hm boot_enumerate (PyProof.Rows.callWith_type1 (ik (ha pos pins s σ H _ I h) λus s1 zq=>?_) hs rfl));obtain⟨vs,H1,I1,r1,q1⟩:=zq;obtain⟨z,e,q⟩:=q1;subst e;obtain⟨u,rfl,t,rfl⟩:=r1.one;refine call_enumerate_str λh' he hit hsz hk=>He he ?_;have hlt:s1.heap.objs.size<=s1.heap.objs.size+1:=UA _;refine⟨s1.heap.objs.size+1,[s1.heap.objs.size+1,s1.heap.objs.size],_,_,H1,rfl,I1.kept (t':=s1.toks) hk,Tg (Nat.succ_ne_self _) z t,⟨⟨_,he⟩,hit,uZ _⟩,λb hb=>?_,q⟩
 have hb':s1.heap.objs.size<=b:=by
  rcases uq.mp hb with z | z
  ·rw [z];exact hlt
  ·rw [uC.mp z];exact ui _
 exact I1.fpOk hb' (I1.hok.fresh hb')
theorem Po {K:Lf}{l:Ld}{a b:Nat}{tb:TS}{D:Ends}{σ:St}{H:Hp}(Pv:Nat->St->Hp->Prop)(h0:Pv 0 σ H) (hs:∀ i c σ H,l[i]? = some c->Pv i σ H->∀ p,H p=none->tb { D with nx:=Pv (i+1),ct:=Pv (i+1),bk:=D.nx } ((σ.set a (some (.int i))).set b (some (.str (S [c])))) (upd H p (.tup [.int i,.str (S [c])]))) (hd:∀ σ H,Pv l.length σ H->D.nx σ H):W2 (Ah (CA (S l)) (Bw (S l)) (BQ (S l))) (pf K 2 (VD (xD a) (VD (xD b) ph))) tb D σ H:=by
 refine⟨λi m σ H=>m=l.length - i/\i<=l.length/\Pv i σ H,⟨l.length,by simp,uZ _,h0⟩,?_⟩;rintro i m σ H ⟨rfl,hi,p⟩;by_cases hlt:i<l.length
 ·refine .inr ⟨by show i<(S l).cps.size;rw [Yi];exact hlt,Pv (i+1),λσ' H' p'=>⟨l.length - (i+1),by lia,rfl,hlt,p'⟩,λx H' y=>?_⟩;obtain⟨q,v,hq,⟨c,hc,rfl⟩,rfl,rfl⟩:=y;rw [C8] at hc;exact⟨q,_,rfl,f7.of zb,rfl,_,_,rfl,_,_,rfl,rfl,hs i c σ H hc p q hq⟩
 ·have e:i=l.length:=by lia
  subst e;exact .inl ⟨by show(S l).cps.size<=l.length;rw [Yi];exact ui _,hd σ H p⟩
end
structure Zt (k:Nat)(A:Around):Prop where
 dp:A.depth+3 * k+5<recursionLimit
 un:A.units+16 * k+200<cLine
theorem Zt.mono (r:Zt k A)(h:j<=k):Zt j A:=⟨by have:=r.dp;lia,by have:=r.un;lia⟩
theorem Zt.deeper {A:Around}(r:Zt (k+1) A)(env:Env):Zt k (A.deeper env):=
 ⟨by have:=r.dp;show A.depth+1+3 * k+5<_;lia,by have:=r.un;show A.units+3+16 * k+200<_;lia⟩
theorem ib.marked {A:Around}(r:ib k A)(v:Option Value):Zt k (A.mark v):=⟨by have:=r.dp;exact this,by have:=r.un;exact this⟩
abbrev Cx.hot (X:Cx):Cx:={ X with calm:=false }
structure Dj (P:Program)(w:World)(K:Lf)(mg:La)(base:Heap)(k:Nat)(f:Addr)(fd:FuncData)(ps:Lj)(sp:Sp):Prop where
 len:∀ vs H Q E,sp vs H Q E->vs.length=ps.length
 run:∀ (A:Around) (outer:List Env) (s:Shared) (H:Hp) (args:Args) (us:Lg) (vs:List V) (Q:VK) (E:XK),Zt k A->lL P w K mg base A outer s H->BindsTo s fd args (ps.zip us)->Vals vs us->sp vs H Q E ->
  codeAny (model P w) A (.call (.ref f) args) (CR mr outer P w H s Q E) s
theorem IT {P:Program}{w:World}{K:Lf}{mg:La}{base:Heap}{k:Nat}{f:Addr}{name qual:Str}{params:Arguments}{body:List Stmt}{scope:Scope}{dV kV doc pm cdv ct oc:Value}{an od:Option Addr} {osl:Array (Option Value)} {N ps:Lj} {sp:Sp} (lk:K.lookup f=some ⟨oc,od,.func (PySem.W.fnOf name qual params body scope dV kV doc pm an cdv ct),osl⟩) (hcd:PySem.W.codeIn K cdv qual=true) (S:zj N ps scope) (len:∀ vs H Q E,sp vs H Q E->vs.length=ps.length) (hbody:∀ (A:Around) (outer:List Env) (s:Shared) (H:Hp) (vs:List V) (Q:VK) (E:XK),Zt k (A.deeper (envOfC qual scope s.heap.objs.size f cdv))->sp vs H Q E -> ∃ t,lJ (iK mr P w K mg base N qual scope f cdv A outer s H E).hot.nox body t/\t { nx:=λ_ H'=>Q .non H',rt:=Q } (start N vs) H) : Dj P w K mg base (k+1) f (PySem.W.fnOf name qual params body scope dV kV doc pm an cdv ct) ps sp:=by
 refine⟨len,λA outer s H args us vs Q E hr e0 hb r hsp=>?_⟩;have hl:=len _ _ _ _ hsp;have KX:K.In s.heap:=e0.mod.kin.keeps λb o e=>(e0.bs b o e).1;have lim:s.heap.NoLimit:=e0.mod.nolimit.keeps λb o e=>(e0.bs b o e).1
 have hkind:∀ y∈ps.zip us,scope.names.lookup y.1=some .local\/(scope.names.lookup y.1=some .cell/\((cellsFrom (s.heap.objs.size+1) scope.names []).lookup y.1).isSome=true):=λy hy=>by
  obtain⟨n,v⟩:=y;rcases S.par n (gf hy).1 with q | q
  ·exact .inl q
  ·exact .inr ⟨q,U3 _ _ _ (.inl q)⟩
 have hdp:A.depth<recursionLimit:=by have:=hr.dp;lia
 refine gj hdp (KX _ _ lk) rfl S.co S.gen rfl (Gx KX hcd) (hb _ _ _ _ ?_);refine U4 S.kind hkind λenv he s1 x=>?_;subst he;refine⟨lim.keeps x.toInCall.keep,Gy ?_⟩;obtain⟨t,ht,hq⟩:=hbody A outer s H vs Q E (hr.deeper _) hsp;have e1:lL P w K mg base { A with handled:=none } outer s H:=⟨e0.frames,e0.mod,e0.bs,e0.bsz,e0.funs,e0.frf,e0.hok,e0.bare⟩
 have I0:Inv (iK mr P w K mg base N qual scope f cdv { A with handled:=none } outer s H E) [] (start N vs) H s1:=VJ S rfl e1 hl r x;have I:Inv (iK mr P w K mg base N qual scope f cdv A outer s H E).hot.nox [] (start N vs) H s1:=by obtain⟨ok,I1,I2,I3,I4,I5,I6,I7,I8,I9,I10⟩:=I0;exact⟨⟨ok.mod,ok.kind,ok.glob,ok.blt,ok.above,ok.inj,ok.has,ok.cab,λz=>absurd (show false=true from z) (by decide),Around.frames_deeper e0.frames,ok.stk,ok.exf,ok.bs,ok.bsz,ok.noex,ok.exfs,ok.funs,ok.frf⟩,I1,I2,I3,I4,I5,I6,I7,I8,I9,I10⟩
 refine um (ht [] s1 (start N vs) H _ I hq) (λfl s' hs=>?_) λe s' hs=>hs.elim
 have fin:∀ {σ':St} {H':Hp} {v:V} {u:Value},Inv (iK mr P w K mg base N qual scope f cdv A outer s H E).hot.nox [] σ' H' s'->RelV v u->Q v H'->CE outer P w H s Q u s':=
  λ{σ' H' v u} J rv q=>⟨v,H',J.os,J.bare,J.base,J.hok,rv,q⟩
 cases fl with
 | ret u=>obtain⟨v,σ',H',J,rv,q⟩:=hs;exact fin J rv q
 | next=>obtain⟨σ',H',J,q⟩:=hs;exact fin (v:=V.non) (u:=Value.none) J rfl q
 | brk=>obtain⟨_,_,_,q⟩:=hs;exact False.elim q
 | cont=>obtain⟨_,_,_,q⟩:=hs;exact False.elim q
structure rY (P:Program)(w:World)(K:Lf)(mg:La)(base:Heap)(k:Nat)(x:Str)(ps:Lj)(sp:Sp):Prop where
 ex:∃ (f:Addr) (fd:FuncData),PySem.W.keepIn K (.ref f)=true/\Binds K fd ps []/\mg x=some (.ref f)/\Dj P w K mg base k f fd ps sp
section
variable {P:Program} {w:World} {K:Lf} {mg:La} {base:Heap}
theorem Df.okH {x:Str}{st:Stmt}{ps N:Lj}{k:Nat}{sp:Sp}(D:Df K mg x st ps)(Sc:zj N ps (zf st))(len:∀ vs H Q E,sp vs H Q E->vs.length=ps.length) (hbody:∀ (f:Addr) (cdv:Value) (A:Around) (outer:List Env) (s:Shared) (H:Hp) (vs:List V) (Q:VK) (E:XK),Zt k (A.deeper (envOfC x (zf st) s.heap.objs.size f cdv))->sp vs H Q E -> ∃ t,lJ (iK mr P w K mg base N x (zf st) f cdv A outer s H E).hot.nox (zV st) t/\t { nx:=λ_ H'=>Q .non H',rt:=Q } (start N vs) H):rY P w K mg base (k+1) x ps sp:=by obtain⟨f,fd,F,b,m⟩:=D.ex;refine⟨f,fd,F.kp,b,m,?_⟩;obtain⟨oc,od,kV,doc,pm,an,cdv,ct,osl,rfl,lk,hcd⟩:=F.ex;exact IT lk hcd Sc len λA outer s H vs Q E hr h=>hbody f cdv A outer s H vs Q E hr h
end
section
variable {X:Cx} {k j:Nat} {x:Str} {ps:Lj} {sp:Sp} {p pos:Pos} {e:Expr} {es:Lh} {t:TA}
theorem Pn (F:rY X.prog X.w X.K X.mg X.base k x ps sp)(hr:Zt j X.A)(hk:k<=j)(ha:PA X (e::es) t)(hg:Gl X x:=by rfl) (hdb:(x == ("__debug__":Str))=false:=by decide) (he:SE X e es:=by rfl) (hpl:(backTo pos (starEach es X.env)).any (·.1)=false:=by rfl):PE X (.Call (.Name x p) (e::es) [] pos) (yt sp [] E0 t):=by
 obtain⟨f,fd,kp,b,m,G⟩:=F.ex;intro pins s σ H Q I h;refine uU (w4 I hg m ?_ hdb);refine Ui (h₀:=X.base) I.ok.mod.kin kp (ik (ha pos pins s σ H _ I h) λus s1 ⟨vs,H1,I1,r,q⟩=>⟨I1.kIn,?_⟩) he hpl;have r2:Vals (vs++[]) (us++[]):=r.append .nil;have hl:(us++[]).length=ps.length:=by rw [← r2.length];exact G.len _ _ _ _ q
 refine Ud (Uh (G.run X.A X.stack s1 H1 ⟨us,[]⟩ (us++[]) (vs++[]) Q E0 (hr.mono hk) I1.iH (b s1 us I1.kIn hl) r2 q) λr s' hq=>?_);cases r with
 | error e=>exact False.elim hq
 | ok fl=>
  cases fl with
  | ret u=>exact I1.after hq
  | next=>exact False.elim hq
  | brk=>exact False.elim hq
  | cont=>exact False.elim hq
end
end L2
namespace L2
open PySem PySem.Spec PyProof.Rows
def EF (K:Lf)(J:It)(tt:TT)(te:TE)(σ:St)(H1:Hp)(Q:VK):Prop:=∀ D,H1 D=none->∃ W:Nat->Nat->List V->Hp->Prop,(∃ m,W 0 m [] (upd H1 D (.lst [])))/\∀ i m ys H',W i m ys H'->H' D=some (.lst ys) /\
 ((J.stop i H'/\Q (.ref D) H')\/(J.go i H'/\∀ v H2,J.yld i H' v H2->∃ pa u1 u2,v=.ref pa/\f7 K H2 pa [u1,u2]/\tt (some u1::some u2::σ) H2 λb H3=>
  if b=true then te (some u1::some u2::σ) H3 λy H4=>H4 D=some (.lst ys)/\ys.length<sizeLine/\∃ m',m' < m/\W (i+1) m' (ys++[y]) (upd H4 D (.lst (ys++[y]))) else ∃ m',m' < m/\W (i+1) m' ys H3))
def BC (K:Lf)(wi:TI)(tt:TT)(te:TE):TE:=λσ H Q=>wi σ H λJ H1=>EF K J tt te σ H1 Q
structure Jq (X:Cx)(x x2:Str)(scope:Scope):Prop where
 xN:x∉X.N
 yN:x2∉X.N
 xy:x≠x2
 nd:X.N.Nodup
 kind:scope.kind=.function
 cell:∀ y∈scope.names,y.2≠.cell
 names:∀ y∈scope.names,y.2=.local->scope.names.lookup y.1=some .local
 var:scope.names.lookup x=some .local
 vay:scope.names.lookup x2=some .local
 free:∀ y∈scope.names,y.2=.free->X.env.kindOf y.1=some .cell
 out:∀ y∈X.N,scope.names.lookup y≠some .local
 calm:X.calm=true
section
variable {X:Cx} {elt iter:Expr} {x x2:Str} {px py pt pos:Pos} {kt:Nat} {ifs:Lh} {scope:Scope} {wi:TI} {tt:TT} {te:TE}
theorem Jq.pI (L:Jq X x x2 scope):X.N.map (ly [x,x2])=X.N:=by
 refine(gi λy hy=>?_).trans (List.map_id _);unfold ly;rw [ub]
 ·rfl
 ·intro z;rcases uq.mp z with z | z
  ·exact L.xN (z ▸ hy)
  ·exact L.yN (uC.mp z ▸ hy)
theorem Jq.gen (L:Jq X x x2 scope):ZD X [x,x2] scope:=by
 refine⟨?_,L.kind,L.cell,L.names,λy hy=>?_,L.free,by rw [L.pI];exact L.out,λy hy h=>?_,L.calm⟩
 ·rw [L.pI];refine Ug.mpr ⟨λz=>?_,Ug.mpr ⟨L.yN,L.nd⟩⟩;rcases uq.mp z with z | z
  ·exact L.xy z
  ·exact L.xN z
 ·rcases uq.mp hy with z | z
  ·rw [z];exact L.var
  ·rw [uC.mp z];exact L.vay
 ·rcases uq.mp h with z | z
  ·exact absurd (z ▸ hy) L.xN
  ·exact absurd (uC.mp z ▸ hy) L.yN
end
end L2
namespace L2
open PySem PySem.Spec PySem.Calls PyProof.Rows PySem.W
section
variable {X:Cx}
end
def Pairs (H:Hp)(a:Addr)(ps:List (Ld×Ld)):Prop:=∃ as:Le,H a=some (.lst (as.map V.ref))/\as.length=ps.length/\∀ (i:Nat) p,ps[i]? = some p->∃ b,as[i]? = some b/\H b=some (.tup [.str (S p.1),.str (S p.2)])
theorem Pairs.mono (h:Pairs H a ps)(g:fO H H'):Pairs H' a ps:=by obtain⟨as,h1,h2,h3⟩:=h;refine⟨as,g _ _ h1,h2,λi p e=>?_⟩;obtain⟨b,h4,h5⟩:=h3 i p e;exact⟨b,h4,g _ _ h5⟩
theorem Nh (K:Frag)(wi:TI)(tt:TT)(te:TE):BC K wi tt te=λσ H Q=>wi σ H λJ H1=>EF K J tt te σ H1 Q:=rfl
theorem Ng:bootBuiltins "list" = some (.type "list"):=by decide +kernel
section
variable {X:Cx}
def C0 (K:Frag)(H:Hp)(x:V):Prop:=x=.non\/(∃ b,x=.bl b)\/(∃ i,x=.int i)\/(∃ a xs,x=.ref a/\H a=some (.lst xs))\/(∃ a xs,x=.ref a/\H a=some (.tup xs))\/∃ a kvs,x=.ref a/\H a=some (.dK kvs)
theorem C0.mono {K:Frag}{H H':Hp}{x:V}(h:C0 K H x)(g:fO H H'):C0 K H' x:=by
 rcases h with h | h | h | ⟨a,xs,h,e⟩ | ⟨a,xs,h,e⟩ | ⟨a,xs,h,e⟩
 ·exact .inl h
 ·exact .inr (.inl h)
 ·exact .inr (.inr (.inl h))
 ·exact .inr (.inr (.inr (.inl ⟨a,xs,h,g _ _ e⟩)))
 ·exact .inr (.inr (.inr (.inr (.inl ⟨a,xs,h,g _ _ e⟩))))
 ·exact .inr (.inr (.inr (.inr (.inr ⟨a,xs,h,g _ _ e⟩))))
theorem EE {K:Frag}(hK:X.K=K):iM X (compareOp .In) (sL K false):=by subst hK;exact Sa
theorem Xx {K:Frag}(hK:X.K=K):iM X (compareOp .NotIn) (sL K true):=by subst hK;exact Yb
end
inductive Dat where
 | fl (v:V)
 | tp (xs:List Dat)
 | ls (xs:List Dat)
mutual
def fV (H:Hp):Dat->V->Prop
 | .fl x,v=>v=x/\zR x=true
 | .tp ds,v=>∃ a vs,v=.ref a/\H a=some (.tup vs)/\fZ H ds vs
 | .ls ds,v=>∃ a vs,v=.ref a/\H a=some (.lst vs)/\fZ H ds vs
def fZ (H:Hp):List Dat->List V->Prop
 | [],vs=>vs=[]
 | d::ds,vs=>∃ v r,vs=v::r/\fV H d v/\fZ H ds r
end
mutual
def i7:Dat->Dat->Bool
 | .fl x,.fl y=>mZ x y
 | .tp xs,.tp ys=>i8 xs ys
 | .ls xs,.ls ys=>i8 xs ys
 | .fl _,.tp _=>false
 | .fl _,.ls _=>false
 | .tp _,.fl _=>false
 | .tp _,.ls _=>false
 | .ls _,.fl _=>false
 | .ls _,.tp _=>false
def i8:List Dat->List Dat->Bool
 | [],[]=>true
 | x::xs,y::ys=>i7 x y&&i8 xs ys
 | [],_::_=>false
 | _::_,[]=>false
end
mutual
def iO:Dat->Nat
 | .fl _=>0
 | .tp xs=>xE xs+1
 | .ls xs=>xE xs+1
def xE:List Dat->Nat
 | []=>0
 | d::ds=>max (iO d) (xE ds)
end
mutual
theorem fV.mono (g:fO H H'):∀ {d:Dat} {v:V},fV H d v->fV H' d v
 | .fl x,v,h=>by simp only [fV] at h ⊢;exact h
 | .tp ds,v,h=>by simp only [fV] at h ⊢;obtain⟨a,vs,e,h1,h2⟩:=h;exact⟨a,vs,e,g _ _ h1,fZ.mono g h2⟩
 | .ls ds,v,h=>by simp only [fV] at h ⊢;obtain⟨a,vs,e,h1,h2⟩:=h;exact⟨a,vs,e,g _ _ h1,fZ.mono g h2⟩
theorem fZ.mono (g:fO H H'):∀ {ds:List Dat} {vs:List V},fZ H ds vs->fZ H' ds vs
 | [],vs,h=>by simp only [fZ] at h ⊢;exact h
 | d::ds,vs,h=>by simp only [fZ] at h ⊢;obtain⟨v,r,e,h1,h2⟩:=h;exact⟨v,r,e,fV.mono g h1,fZ.mono g h2⟩
end
theorem fZ.len:∀ {ds:List Dat} {vs:List V},fZ H ds vs->ds.length=vs.length
 | [],vs,h=>by simp only [fZ] at h;subst h;rfl
 | d::ds,vs,h=>by simp only [fZ] at h;obtain⟨v,r,e,h1,h2⟩:=h;rw [e,uo,uo,fZ.len h2]
theorem fZ.snoc:∀ {ds:List Dat} {vs:List V},fZ H ds vs->fV H d v->fZ H (ds++[d]) (vs++[v])
 | [],vs,h,k=>by simp only [fZ] at h;subst h;simp only [Ub,fZ];exact⟨v,[],rfl,k,rfl⟩
 | d::ds,vs,h,k=>by simp only [fZ] at h;obtain⟨v,r,e,h1,h2⟩:=h;subst e;simp only [uE,fZ];exact⟨v,_,rfl,h1,fZ.snoc h2 k⟩
theorem fZ.app:∀ {ds:List Dat} {vs:List V},fZ H ds vs->fZ H es us->fZ H (ds++es) (vs++us)
 | [],vs,h,k=>by simp only [fZ] at h;subst h;exact k
 | d::ds,vs,h,k=>by simp only [fZ] at h;obtain⟨v,r,e,h1,h2⟩:=h;subst e;simp only [uE,fZ];exact⟨v,_,rfl,h1,fZ.app h2 k⟩
theorem fZ.get:∀ {ds:List Dat} {vs:List V} {j:Nat} {v:V},fZ H ds vs->vs[j]? = some v->∃ d,ds[j]? = some d/\fV H d v
 | [],vs,j,v,h,k=>by simp only [fZ] at h;subst h;simp at k
 | d::ds,vs,j,v,h,k=>by
  simp only [fZ] at h;obtain⟨v',r,e,h1,h2⟩:=h;subst e;cases j with
  | zero=>simp at k;subst k;exact⟨d,rfl,h1⟩
  | succ j=>simpa using fZ.get h2 (j:=j) (by simpa using k)
theorem KR (h:zR v=true):mZ v v=true:=by cases v<;>first | exact rfl | exact Ur _ | cases h
mutual
theorem Xy:∀ {d e:Dat} {v:V},fV H d v->fV H e v->i7 d e=true
 | .fl x,.fl y,v,h,k=>by simp only [fV] at h k;obtain⟨rfl,f⟩:=h;obtain⟨rfl,_⟩:=k;simp only [i7];exact KR f
 | .tp xs,.tp ys,v,h,k=>by simp only [fV] at h k;obtain⟨a,vs,rfl,h1,h2⟩:=h;obtain⟨b,us,e,k1,k2⟩:=k;cases e;rw [h1] at k1;cases k1;simp only [i7];exact JV h2 k2
 | .ls xs,.ls ys,v,h,k=>by simp only [fV] at h k;obtain⟨a,vs,rfl,h1,h2⟩:=h;obtain⟨b,us,e,k1,k2⟩:=k;cases e;rw [h1] at k1;cases k1;simp only [i7];exact JV h2 k2
 | .fl x,.tp ys,v,h,k=>by simp only [fV] at h k;obtain⟨rfl,f⟩:=h;obtain⟨b,us,rfl,k1,k2⟩:=k;simp [zR] at f
 | .fl x,.ls ys,v,h,k=>by simp only [fV] at h k;obtain⟨rfl,f⟩:=h;obtain⟨b,us,rfl,k1,k2⟩:=k;simp [zR] at f
 | .tp xs,.fl y,v,h,k=>by simp only [fV] at h k;obtain⟨rfl,f⟩:=k;obtain⟨b,us,rfl,k1,k2⟩:=h;simp [zR] at f
 | .ls xs,.fl y,v,h,k=>by simp only [fV] at h k;obtain⟨rfl,f⟩:=k;obtain⟨b,us,rfl,k1,k2⟩:=h;simp [zR] at f
 | .tp xs,.ls ys,v,h,k=>by simp only [fV] at h k;obtain⟨a,vs,rfl,h1,h2⟩:=h;obtain⟨b,us,e,k1,k2⟩:=k;cases e;rw [h1] at k1;cases k1
 | .ls xs,.tp ys,v,h,k=>by simp only [fV] at h k;obtain⟨a,vs,rfl,h1,h2⟩:=h;obtain⟨b,us,e,k1,k2⟩:=k;cases e;rw [h1] at k1;cases k1
theorem JV:∀ {ds es:List Dat} {vs:List V},fZ H ds vs->fZ H es vs->i8 ds es=true
 | [],[],_,_,_=>rfl
 | d::ds,e::es,vs,h,k=>by simp only [fZ] at h k;obtain⟨v,r,rfl,h1,h2⟩:=h;obtain⟨v',r',e',k1,k2⟩:=k;cases e';simp only [i8,uH];exact⟨Xy h1 k1,JV h2 k2⟩
 | [],e::es,vs,h,k=>by simp only [fZ] at h k;subst h;obtain⟨v',r',e',k1,k2⟩:=k;cases e'
 | d::ds,[],vs,h,k=>by simp only [fZ] at h k;subst k;obtain⟨v',r',e',k1,k2⟩:=h;cases e'
end
mutual
def Qo:Dat->Bool
 | .fl v=>zR v
 | .tp xs=>yV xs
 | .ls xs=>yV xs
def yV:List Dat->Bool
 | []=>true
 | d::ds=>Qo d&&yV ds
end
mutual
theorem vW:∀ {d:Dat},Qo d=true->i7 d d=true
 | .fl v,h=>by simp only [i7];exact KR h
 | .tp xs,h=>by simp only [i7];simp only [Qo] at h;exact JW h
 | .ls xs,h=>by simp only [i7];simp only [Qo] at h;exact JW h
theorem JW:∀ {ds:List Dat},yV ds=true->i8 ds ds=true
 | [],_=>rfl
 | d::ds,h=>by simp only [yV,uH] at h;simp only [i8,uH];exact⟨vW h.1,JW h.2⟩
end
mutual
theorem fV.flat:∀ {d:Dat} {v:V},fV H d v->Qo d=true
 | .fl x,v,h=>by simp only [fV] at h;simp only [Qo];exact h.2
 | .tp ds,v,h=>by simp only [fV] at h;obtain⟨a,vs,e,h1,h2⟩:=h;simp only [Qo];exact fZ.flat h2
 | .ls ds,v,h=>by simp only [fV] at h;obtain⟨a,vs,e,h1,h2⟩:=h;simp only [Qo];exact fZ.flat h2
theorem fZ.flat:∀ {ds:List Dat} {vs:List V},fZ H ds vs->yV ds=true
 | [],vs,h=>rfl
 | d::ds,vs,h=>by simp only [fZ] at h;obtain⟨v,r,e,h1,h2⟩:=h;simp only [yV,uH];exact⟨fV.flat h1,fZ.flat h2⟩
end
theorem ZE:∀ {ds es:List Dat},ds.length≠es.length->i8 ds es=false
 | [],[],h=>absurd rfl h
 | d::ds,e::es,h=>by simp only [i8];rw [ZE (ds:=ds) (es:=es) (by simpa using h),U5]
 | [],_::_,_=>rfl
 | _::_,[],_=>rfl
def iW (ds:List Dat)(j:Nat):Dat:=ds.getD j (.fl .non)
theorem ZF:∀ {ds es:List Dat},ds.length=es.length->(List.range ds.length).all (λj=>i7 (iW ds j) (iW es j))=i8 ds es
 | [],[],_=>rfl
 | d::ds,e::es,h=>by rw [uo,List.range_succ_eq_map,Gw,List.all_map];simp only [i8];have:=ZF (ds:=ds) (es:=es) (by simpa using h);rw [← this];rfl
 | [],_::_,h=>by simp at h
 | _::_,[],h=>by simp at h
theorem Xz {ds es:List Dat}(hn:n=ds.length)(hm:m=es.length):((List.range (min n m)).all (λj=>i7 (iW ds j) (iW es j))&&n == m)=i8 ds es:=by
 subst hn hm;by_cases h:ds.length=es.length
 ·rw [← h,Nat.min_self,Ur,gb];exact ZF h
 ·rw [ZE h,uN.mpr h,U5]
section
variable {X:Cx} {pins:Lp} {σ:L2.St} {H:Hp} {s:Shared}
theorem xb (I:Inv X pins σ H s)(h:H a=some (.tup vs)):∃ fX:Lg,Vals vs fX/\s.heap.IsTuple a fX.toArray:=by obtain⟨fX,r,p,_⟩:=I.tuple (f7.of h);exact⟨fX,r,p⟩
theorem xc (I:Inv X pins σ H s)(h:H a=some (.lst vs)):∃ fX:Lg,Vals vs fX/\s.heap.IsList a fX.toArray:=by obtain⟨fX,r,p,_⟩:=I.list (ij.of h);exact⟨fX,r,p.isList⟩
mutual
theorem IS (I:Inv X pins σ H s):∀ (d e:Dat) (A:Around) (x y:V) (u w:Value),A.units+iO d<cLine->fV H d x->fV H e y->RelV x u->RelV y w->SeqAt.EqAt A s u w (i7 d e)
 | .fl x,.fl y,A,x',y',u,w,hu,h,k,ru,rw'=>by simp only [fV] at h k;obtain⟨rfl,f⟩:=h;obtain⟨rfl,g⟩:=k;simp only [i7];exact Bh ru rw' f g
 | .tp ds,.tp es,A,x,y,u,w,hu,h,k,ru,rw'=>by
  have hh:=h;have kk:=k;simp only [fV] at h k;obtain⟨a,vs,rfl,h1,h2⟩:=h;obtain⟨b,us,rfl,k1,k2⟩:=k;cases ru;cases rw';by_cases hab:a=b
  ·subst hab;rw [Xy hh kk];exact SeqAt.EqAt.same _
  obtain⟨i1,r1,p1⟩:=xb I h1;obtain⟨i2,r2,p2⟩:=xb I k1;simp only [iO] at hu;refine SeqAt.EqAt.of_refs hab ?_;have:=SeqAt.RcAt.tuples (A:=A) (e:=λj=>i7 (iW ds j) (iW es j)) p1 p2 (by lia) (kI I ds es A.in1 vs us i1 i2 (by show A.units+1+_<_;lia) h2 k2 r1 r2);rw [Xz (by rw [uh,← r1.length,h2.len]) (by rw [uh,← r2.length,k2.len])] at this;simp only [i7];exact this
 | .ls ds,.ls es,A,x,y,u,w,hu,h,k,ru,rw'=>by
  have hh:=h;have kk:=k;simp only [fV] at h k;obtain⟨a,vs,rfl,h1,h2⟩:=h;obtain⟨b,us,rfl,k1,k2⟩:=k;cases ru;cases rw';by_cases hab:a=b
  ·subst hab;rw [Xy hh kk];exact SeqAt.EqAt.same _
  obtain⟨i1,r1,p1⟩:=xc I h1;obtain⟨i2,r2,p2⟩:=xc I k1;have l1:=r1.length;have l2:=r2.length;have l3:=h2.len;have l4:=k2.len;simp only [iO] at hu;refine SeqAt.EqAt.of_refs hab ?_;simp only [i7];by_cases hl:ds.length=es.length
  ·have:=SeqAt.RcAt.lists (A:=A) (e:=λj=>i7 (iW ds j) (iW es j)) p1 p2 (by simp;lia) (by lia) (kI I ds es A.in1 vs us i1 i2 (by show A.units+1+_<_;lia) h2 k2 r1 r2);rw [uh,← l1,← l3,ZF hl] at this;exact this
  ·rw [ZE hl];exact SeqAt.RcAt.lists_lengths p1 p2 (by simp;lia) (by lia)
 | .fl x,.tp es,A,x',y,u,w,hu,h,k,ru,rw'=>by
  simp only [fV] at h k;obtain⟨rfl,f⟩:=h;obtain⟨b,us,rfl,k1,k2⟩:=k;cases rw';obtain⟨i2,r2,p2⟩:=xb I k1;simp only [i7];have hu:A.units<cLine:=by lia
  cases x' with
  | non=>cases ru;exact SeqAt.EqAt.none_tuple p2 hu
  | bl z=>cases ru;exact SeqAt.EqAt.bool_tuple z p2 hu
  | int z=>obtain⟨t,rfl⟩:=ru;exact SeqAt.EqAt.int_tuple z t p2 hu
  | str z=>obtain⟨t,rfl⟩:=ru;exact SeqAt.EqAt.str_tuple z t p2 hu
  | byt z=>simp [zR] at f
  | flt z=>simp [zR] at f
  | ref z=>simp [zR] at f
  | ty z=>simp [zR] at f
 | .fl x,.ls es,A,x',y,u,w,hu,h,k,ru,rw'=>by
  simp only [fV] at h k;obtain⟨rfl,f⟩:=h;obtain⟨b,us,rfl,k1,k2⟩:=k;cases rw';obtain⟨i2,r2,p2⟩:=xc I k1;simp only [i7];have hu:A.units<cLine:=by lia
  cases x' with
  | non=>cases ru;exact SeqAt.EqAt.none_list p2 hu
  | bl z=>cases ru;exact SeqAt.EqAt.bool_list z p2 hu
  | int z=>obtain⟨t,rfl⟩:=ru;exact SeqAt.EqAt.int_list z t p2 hu
  | str z=>obtain⟨t,rfl⟩:=ru;exact SeqAt.EqAt.str_list z t p2 hu
  | byt z=>simp [zR] at f
  | flt z=>simp [zR] at f
  | ref z=>simp [zR] at f
  | ty z=>simp [zR] at f
 | .tp ds,.fl y,A,x,y',u,w,hu,h,k,ru,rw'=>by
  simp only [fV] at h k;obtain⟨rfl,f⟩:=k;obtain⟨b,us,rfl,k1,k2⟩:=h;cases ru;obtain⟨i2,r2,p2⟩:=xb I k1;simp only [i7];have hu:A.units<cLine:=by lia
  cases y' with
  | non=>cases rw';exact SeqAt.EqAt.tuple_none p2 hu
  | bl z=>cases rw';exact SeqAt.EqAt.tuple_bool z p2 hu
  | int z=>obtain⟨t,rfl⟩:=rw';exact SeqAt.EqAt.tuple_int z t p2 hu
  | str z=>obtain⟨t,rfl⟩:=rw';exact SeqAt.EqAt.tuple_str z t p2 hu
  | byt z=>simp [zR] at f
  | flt z=>simp [zR] at f
  | ref z=>simp [zR] at f
  | ty z=>simp [zR] at f
 | .ls ds,.fl y,A,x,y',u,w,hu,h,k,ru,rw'=>by
  simp only [fV] at h k;obtain⟨rfl,f⟩:=k;obtain⟨b,us,rfl,k1,k2⟩:=h;cases ru;obtain⟨i2,r2,p2⟩:=xc I k1;simp only [i7];have hu:A.units<cLine:=by lia
  cases y' with
  | non=>cases rw';exact SeqAt.EqAt.list_none p2 hu
  | bl z=>cases rw';exact SeqAt.EqAt.list_bool z p2 hu
  | int z=>obtain⟨t,rfl⟩:=rw';exact SeqAt.EqAt.list_int z t p2 hu
  | str z=>obtain⟨t,rfl⟩:=rw';exact SeqAt.EqAt.list_str z t p2 hu
  | byt z=>simp [zR] at f
  | flt z=>simp [zR] at f
  | ref z=>simp [zR] at f
  | ty z=>simp [zR] at f
 | .tp ds,.ls es,A,x,y,u,w,hu,h,k,ru,rw'=>by simp only [fV] at h k;obtain⟨a,vs,rfl,h1,h2⟩:=h;obtain⟨b,us,rfl,k1,k2⟩:=k;cases ru;cases rw';obtain⟨i1,r1,p1⟩:=xb I h1;obtain⟨i2,r2,p2⟩:=xc I k1;simp only [i7];exact SeqAt.EqAt.tuple_list p1 p2 (by omega)
 | .ls ds,.tp es,A,x,y,u,w,hu,h,k,ru,rw'=>by simp only [fV] at h k;obtain⟨a,vs,rfl,h1,h2⟩:=h;obtain⟨b,us,rfl,k1,k2⟩:=k;cases ru;cases rw';obtain⟨i1,r1,p1⟩:=xc I h1;obtain⟨i2,r2,p2⟩:=xb I k1;simp only [i7];exact SeqAt.EqAt.list_tuple p1 p2 (by omega)
theorem kI (I:Inv X pins σ H s):∀ (ds es:List Dat) (A:Around) (xs ys:List V) (us ws:Lg),A.units+xE ds<cLine->fZ H ds xs->fZ H es ys->Vals xs us->Vals ys ws ->
  ∀ j (h1:j<us.toArray.size) (h2:j<ws.toArray.size),SeqAt.EqAt A s us.toArray[j] ws.toArray[j] (i7 (iW ds j) (iW es j))
 | [],es,A,xs,ys,us,ws,hu,h,k,ru,rw',j,h1,h2=>by simp only [fZ] at h;subst h;have:=ru.length;rw [uh] at h1;simp at this;omega
 | d::ds,[],A,xs,ys,us,ws,hu,h,k,ru,rw',j,h1,h2=>by simp only [fZ] at k;subst k;have:=rw'.length;rw [uh] at h2;simp at this;omega
 | d::ds,e::es,A,xs,ys,us,ws,hu,h,k,ru,rw',j,h1,h2=>by
  simp only [fZ] at h k;obtain⟨v,r,rfl,a1,a2⟩:=h;obtain⟨v',r',rfl,b1,b2⟩:=k;simp only [xE] at hu;cases ru with
  | cons q1 q2=>
   cases rw' with
   | cons q3 q4=>
    cases j with
    | zero=>exact IS I d e A _ _ _ _ (by omega) a1 b1 q1 q3
    | succ j=>have:=kI I ds es A _ _ _ _ (by omega) a2 b2 q2 q4 j (by simpa using h1) (by simpa using h2);simpa [iW] using this
end
end
section
variable {X:Cx}
def sM:R2:=λx y H Q=>∃ d e a b,x=.ref a/\y=.ref b/\fV H d (.ref a)/\fV H e (.ref b)/\iO d<=50/\Q (.bl (i7 d e)) H
def sH:R2:=λx y H Q=>∃ d e a b,x=.ref a/\y=.ref b/\fV H d (.ref a)/\fV H e (.ref b)/\iO d<=50/\Q (.bl (!i7 d e)) H
theorem Yo (hu:X.A.units+64<cLine):iM X (compareOp .Eq) sM:=by
 intro pins s σ H x y v u Q I rx ry h;obtain⟨d,e,a,b,rfl,rfl,h,k,hd,q⟩:=h;cases rx;cases ry
 match d,e,h,k,hd,q with
 | .tp ds,.tp es,h,k,hd,q=>simp only [fV] at h k;obtain⟨_,vs,e1,h1,h2⟩:=h;obtain⟨_,us,e2,k1,k2⟩:=k;cases e1;cases e2;obtain⟨i1,r1,p1⟩:=xb I h1;obtain⟨i2,r2,p2⟩:=xb I k1;simp only [iO] at hd;refine SeqAt.eq_tupleAt (e:=λj=>i7 (iW ds j) (iW es j)) p1 p2 (by omega) (kI I ds es X.A.in1 vs us i1 i2 (by show X.A.units+1+_<_;omega) h2 k2 r1 r2) ⟨.bl _,H,I,rfl,?_⟩;rw [Xz (by rw [uh,← r1.length,h2.len]) (by rw [uh,← r2.length,k2.len])];exact q
 | .ls ds,.ls es,h,k,hd,q=>
  simp only [fV] at h k;obtain⟨_,vs,e1,h1,h2⟩:=h;obtain⟨_,us,e2,k1,k2⟩:=k;cases e1;cases e2;obtain⟨i1,r1,p1⟩:=xc I h1;obtain⟨i2,r2,p2⟩:=xc I k1;have l1:=r1.length;have l2:=r2.length;have l3:=h2.len;have l4:=k2.len;simp only [iO] at hd;by_cases hl:ds.length=es.length
  ·refine SeqAt.eq_listAt (e:=λj=>i7 (iW ds j) (iW es j)) p1 p2 (by simp;lia) (by lia) (kI I ds es X.A.in1 vs us i1 i2 (by show X.A.units+1+_<_;lia) h2 k2 r1 r2) ⟨.bl _,H,I,rfl,?_⟩;rw [uh,← l1,← l3,ZF hl];exact q
  ·refine SeqAt.eq_list_lengthsAt p1 p2 (by simp;lia) (by lia) ⟨.bl _,H,I,rfl,?_⟩;simp only [i7] at q;rw [ZE hl] at q;exact q
 | .tp ds,.ls es,h,k,hd,q=>simp only [fV] at h k;obtain⟨_,vs,e1,h1,h2⟩:=h;obtain⟨_,us,e2,k1,k2⟩:=k;cases e1;cases e2;obtain⟨i1,r1,p1⟩:=xb I h1;obtain⟨i2,r2,p2⟩:=xc I k1;exact SeqAt.RcAt.tuple_list p1 p2 (by omega) _ _ _ _ ⟨.bl _,H,I,rfl,q⟩
 | .ls ds,.tp es,h,k,hd,q=>simp only [fV] at h k;obtain⟨_,vs,e1,h1,h2⟩:=h;obtain⟨_,us,e2,k1,k2⟩:=k;cases e1;cases e2;obtain⟨i1,r1,p1⟩:=xc I h1;obtain⟨i2,r2,p2⟩:=xb I k1;exact SeqAt.RcAt.list_tuple p1 p2 (by omega) _ _ _ _ ⟨.bl _,H,I,rfl,q⟩
 | .fl x,e,h,k,hd,q=>simp only [fV] at h;obtain⟨rfl,f⟩:=h;simp [zR] at f
 | .tp ds,.fl x,h,k,hd,q=>simp only [fV] at k;obtain⟨rfl,f⟩:=k;simp [zR] at f
 | .ls ds,.fl x,h,k,hd,q=>simp only [fV] at k;obtain⟨rfl,f⟩:=k;simp [zR] at f
theorem XA (hu:X.A.units+64<cLine):iM X (compareOp .NotEq) sH:=by
 intro pins s σ H x y v u Q I rx ry h;obtain⟨d,e,a,b,rfl,rfl,h,k,hd,q⟩:=h;cases rx;cases ry
 match d,e,h,k,hd,q with
 | .tp ds,.tp es,h,k,hd,q=>simp only [fV] at h k;obtain⟨_,vs,e1,h1,h2⟩:=h;obtain⟨_,us,e2,k1,k2⟩:=k;cases e1;cases e2;obtain⟨i1,r1,p1⟩:=xb I h1;obtain⟨i2,r2,p2⟩:=xb I k1;simp only [iO] at hd;refine SeqAt.RcNeAt.tuples (e:=λj=>i7 (iW ds j) (iW es j)) p1 p2 (by omega) (kI I ds es X.A.in1 vs us i1 i2 (by show X.A.units+1+_<_;omega) h2 k2 r1 r2) _ _ _ _ ⟨.bl _,H,I,rfl,?_⟩;rw [Xz (by rw [uh,← r1.length,h2.len]) (by rw [uh,← r2.length,k2.len])];exact q
 | .ls ds,.ls es,h,k,hd,q=>
  simp only [fV] at h k;obtain⟨_,vs,e1,h1,h2⟩:=h;obtain⟨_,us,e2,k1,k2⟩:=k;cases e1;cases e2;obtain⟨i1,r1,p1⟩:=xc I h1;obtain⟨i2,r2,p2⟩:=xc I k1;have l1:=r1.length;have l2:=r2.length;have l3:=h2.len;have l4:=k2.len;simp only [iO] at hd;by_cases hl:ds.length=es.length
  ·refine SeqAt.RcNeAt.lists (e:=λj=>i7 (iW ds j) (iW es j)) p1 p2 (by simp;lia) (by lia) (kI I ds es X.A.in1 vs us i1 i2 (by show X.A.units+1+_<_;lia) h2 k2 r1 r2) _ _ _ _ ⟨.bl _,H,I,rfl,?_⟩;rw [uh,← l1,← l3,ZF hl];exact q
  ·refine SeqAt.RcNeAt.lists_lengths p1 p2 (by simp;lia) (by lia) _ _ _ _ ⟨.bl _,H,I,rfl,?_⟩;simp only [i7] at q;rw [ZE hl] at q;exact q
 | .tp ds,.ls es,h,k,hd,q=>simp only [fV] at h k;obtain⟨_,vs,e1,h1,h2⟩:=h;obtain⟨_,us,e2,k1,k2⟩:=k;cases e1;cases e2;obtain⟨i1,r1,p1⟩:=xb I h1;obtain⟨i2,r2,p2⟩:=xc I k1;exact SeqAt.RcNeAt.tuple_list p1 p2 (by omega) _ _ _ _ ⟨.bl _,H,I,rfl,q⟩
 | .ls ds,.tp es,h,k,hd,q=>simp only [fV] at h k;obtain⟨_,vs,e1,h1,h2⟩:=h;obtain⟨_,us,e2,k1,k2⟩:=k;cases e1;cases e2;obtain⟨i1,r1,p1⟩:=xc I h1;obtain⟨i2,r2,p2⟩:=xb I k1;exact SeqAt.RcNeAt.list_tuple p1 p2 (by omega) _ _ _ _ ⟨.bl _,H,I,rfl,q⟩
 | .fl x,e,h,k,hd,q=>simp only [fV] at h;obtain⟨rfl,f⟩:=h;simp [zR] at f
 | .tp ds,.fl x,h,k,hd,q=>simp only [fV] at k;obtain⟨rfl,f⟩:=k;simp [zR] at f
 | .ls ds,.fl x,h,k,hd,q=>simp only [fV] at k;obtain⟨rfl,f⟩:=k;simp [zR] at f
end
abbrev Tx:=Ld
def tx (x:Tx):V:=.str (S x)
abbrev ft (x:Tx):Dat:=.fl (.str (S x))
structure MS where
 mode:Tx
 word:Tx
 opens:List Tx
 talk:Tx
abbrev Ev:=List Tx
abbrev nK:=Option (MS×List Ev)
abbrev xF:Tx:=[116,101,120,116]
abbrev tX:Tx:=[109,97,114,107]
abbrev AG:Tx:=[111,112,101,110]
abbrev KS:Tx:=[110,97,109,101]
abbrev Bc:Tx:=[115,108,97,115,104]
abbrev VT:Tx:=[115,104,117,116]
abbrev rn:Tx:=[103,97,112]
abbrev tW:Tx:=[97,116,116,114]
abbrev BZ:Tx:=[105,115]
abbrev AF:Tx:=[98,97,110,103]
abbrev vX:Tx:=[98,97,114,101]
abbrev tV:Tx:=[99,111,100,101]
abbrev lq:Tx:=[114,111,119]
abbrev Yp:Tx:=[115,116,114,111,107,101]
abbrev jF:Tx:=[113,117,111,116,101,100]
abbrev Yq:Tx:=[113,109,97,114,107]
abbrev KU:Tx:=[100,111,110,101]
abbrev Zu:Tx:=[116,97,108,107]
abbrev Yr:Tx:=[116,109,97,114,107]
abbrev Jr:Tx:=[97,115,105,115]
abbrev nF:Tx:=[98,111,120]
abbrev ZG:Tx:=[97,116,116,114]
abbrev oi:Tx:=[105,110]
abbrev wj:Tx:=[115,105,103,110]
abbrev AE:Tx:=[110,101,120,116]
abbrev AD:Tx:=[119,111,114,100]
abbrev Di:Tx:=[115,97,105,100]
abbrev pq:Tx:=[111,117,116]
abbrev jT:Tx:=[98,101,116,119,101,101,110]
abbrev Qp:Tx:=[119,111,114,100]
abbrev vH:Tx:=[115,97,105,100]
abbrev W3:Tx:=[115,116,114,111,107,101]
abbrev kJ:Tx:=[60,47,97,115,105,115,62]
abbrev lt:Tx:=[97,98,99,100,101,102,103,104,105,106,107,108,109,110,111,112,113,114,115,116,117,118,119,120,121,122]
def ja (m:Tx)(op:List Tx)(es:List Ev):nK:=some (⟨m,[],op,[]⟩,es)
def Qq (m:Tx)(op:List Tx):Option Nat->nK
 | none=>none
 | some c=>ja m op [[wj,[c]]]
def lM (m w:Tx)(op:List Tx)(t:Tx)(n:Nat):nK:=if n<w.length then none else some (⟨m,w,op,t⟩,[])
def kK (op:List Tx)(es:List Ev):nK:=if op=[] then none else ja xF op.dropLast (es++[[pq]])
def yw (op:List Tx)(es:List Ev):nK:=if op=[] then none else ja (if op.getLast? = some Jr then Jr else xF) op (es++[[oi]])
def VU (op:List Tx)(c:Nat)(es:List Ev):nK:=if c=32 then ja rn op es else if c=47 then ja Bc op es else if c=62 then yw op es else none
def oh (c:Nat):Option (Tx×List Ev):=if c=32 then some (jT,[]) else if c=39 then some (vH,[[Di]]) else if c∈ws then some (Qp,[[AD],[wj,[c]]]) else none
def rF (c:Nat):Option (Tx×List Ev):=if c∈ws then some (Qp,[[wj,[c]]]) else oh c
def rG (c:Nat):Option (Tx×List Ev):=if c=39 then some (jT,[]) else if c=92 then some (W3,[]) else some (vH,[[wj,[c]]])
def VW (t:Tx)(c:Nat):Option (Tx×List Ev):=if t=jT then oh c else if t=Qp then rF c else if t=vH then rG c else if t=W3 then some (vH,[[wj,[c]]]) else none
def nB (op:List Tx)(t:Tx)(c:Option Nat):nK:=match c with
 | none=>none
 | some c=>match VW t c with
  | none=>none
  | some (t',es)=>some (⟨Zu,[],op,t'⟩,es)
def WL (w:Tx)(c:Nat):Option Nat:=if c=59 then L2.told w else none
abbrev lW:=Tx->List Tx->Tx->Nat->nK
def KW:lW:=λ_ op _ c=>if c=60 then ja AG op [] else if c=38 then ja tX op [] else Qq xF op (some c)
def KY:lW:=λw op _ c=>if c∈fg then lM tX (w++[c]) op [] 2 else Qq xF op (WL w c)
def KZ:lW:=λ_ op _ c=>if c=47 then ja VT op [] else if c∈lt then lM KS [c] op [] 8 else none
def aName:lW:=λw op _ c=>if c∈lt then lM KS (w++[c]) op [] 8 else VU (op++[w]) c [[nF,w]]
def XB:lW:=λ_ op _ c=>if c=62 then kK op [[oi]] else none
def Js:lW:=λw op _ c=>if c∈lt then lM VT (w++[c]) op [] 8 else if c=62/\op.getLast? = some w then kK op [] else none
def oq:lW:=λ_ op _ c=>if c∈lt then lM tW [c] op [] 8 else none
def K0:lW:=λw op _ c=>if c∈lt then lM tW (w++[c]) op [] 8 else if c=58 then ja vX op [[ZG,w,vX]] else if c=40 then ja lq op [[ZG,w,lq]] else if c=61 then some (⟨BZ,w,op,[]⟩,[]) else if c=33 then some (⟨AF,w,op,[]⟩,[]) else none
def tE:lW:=λw op _ c=>if c=34 then ja jF op [[ZG,w,jF]] else none
def K1:lW:=λw op _ c=>if c=34 then some (⟨Zu,[],op,jT⟩,[[ZG,w,Zu]]) else none
def K2:lW:=λ_ op _ c=>if c∈ws then Qq vX op (some c) else if c=126 then ja tV op [] else VU op c []
def K3:lW:=λw op _ c=>if w=[] then(if c∈fg then some (⟨tV,[c],op,[]⟩,[]) else none) else Qq vX op (L2.told (w++[c]))
def oo:lW:=λ_ op _ c=>if c=92 then ja Yp op [] else if c=44 then ja lq op [[AE]] else if c=41 then ja KU op [] else Qq lq op (some c)
def Jt:lW:=λ_ op _ c=>Qq lq op (some c)
def Ju:lW:=λ_ op _ c=>if c=34 then ja KU op [] else if c=38 then ja Yq op [] else Qq jF op (some c)
def XC:lW:=λw op _ c=>if c∈fg then lM Yq (w++[c]) op [] 2 else Qq jF op (WL w c)
def K4:lW:=λ_ op _ c=>VU op c []
def K5:lW:=λ_ op t c=>if c=38 then some (⟨Yr,[],op,t⟩,[]) else if c=34 then(if t=jT\/t=Qp then ja KU op [] else none) else nB op t (some c)
def XD:lW:=λw op t c=>if c∈fg then lM Yr (w++[c]) op t 2 else nB op t (WL w c)
def K6:lW:=λw op _ c=>if w++[c]=kJ then kK op [] else if (w++[c]).isPrefixOf kJ then some (⟨Jr,w++[c],op,[]⟩,[]) else if c=60 then some (⟨Jr,[c],op,[]⟩,w.map λk=>[wj,[k]]) else ja Jr op ((w.map λk=>[wj,[k]])++[[wj,[c]]])
def VX:List (Tx×lW):=[(xF,KW),(tX,KY),(AG,KZ),(KS,aName),(Bc,XB),(VT,Js),(rn,oq),(tW,K0),(BZ,tE),(AF,K1),(vX,K2),(tV,K3),(lq,oo),(Yp,Jt),(jF,Ju),(Yq,XC),(KU,K4),(Zu,K5),(Yr,XD),(Jr,K6)]
def yx (s:MS)(c:Nat):nK:=match VX.lookup s.mode with
 | none=>none
 | some f=>f s.word s.opens s.talk c
def dS (s:MS):Dat:=.tp [ft s.mode,ft s.word,.tp (s.opens.map ft),ft s.talk]
def dE (e:Ev):Dat:=.tp (e.map ft)
def FH (es:List Ev):Dat:=.ls (es.map dE)
def mh (H:Hp)(a:Addr)(op:List Tx):Prop:=H a=some (.tup (op.map tx))
def lI (H:Hp)(v:V)(s:MS):Prop:=∃ p o,v=.ref p/\H p=some (.tup [tx s.mode,tx s.word,.ref o,tx s.talk])/\mh H o s.opens
def nU (H:Hp)(v:V)(e:Ev):Prop:=∃ a,v=.ref a/\H a=some (.tup (e.map tx))
inductive l9 (H:Hp):List V->List Ev->Prop
 | nil:l9 H [] []
 | cons {v:V} {e:Ev} {vs:List V} {es:List Ev}:nU H v e->l9 H vs es->l9 H (v::vs) (e::es)
def mq (H:Hp)(a:Addr)(es:List Ev):Prop:=∃ vs,H a=some (.lst vs)/\l9 H vs es
def mQ (G:Addr->Prop)(H:Hp)(v:V):nK->Prop
 | none=>v=.non
 | some (s,es)=>∃ p sa ea,v=.ref p/\H p=some (.tup [sa,.ref ea])/\lI H sa s/\mq H ea es/\G ea
theorem mh.mono (h:mh H a op)(g:fO H H'):mh H' a op:=g _ _ h
theorem lI.mono (h:lI H v s)(g:fO H H'):lI H' v s:=by obtain⟨p,o,e,h1,h2⟩:=h;exact⟨p,o,e,g _ _ h1,h2.mono g⟩
theorem nU.mono (h:nU H v e)(g:fO H H'):nU H' v e:=by obtain⟨a,e1,h1⟩:=h;exact⟨a,e1,g _ _ h1⟩
theorem l9.mono (h:l9 H vs es)(g:fO H H'):l9 H' vs es:=by
 induction h with
 | nil=>exact .nil
 | cons h1 h2 ih=>exact .cons (h1.mono g) ih
theorem mq.mono (h:mq H a es)(g:fO H H'):mq H' a es:=by obtain⟨vs,h1,h2⟩:=h;exact⟨vs,g _ _ h1,h2.mono g⟩
theorem mQ.mono (h:mQ G H v r)(g:fO H H'):mQ G H' v r:=by
 cases r with
 | none=>exact h
 | some x=>obtain⟨s,es⟩:=x;obtain⟨p,sa,ea,e1,h1,h2,h3,h4⟩:=h;exact⟨p,sa,ea,e1,g _ _ h1,h2.mono g,h3.mono g,h4⟩
theorem mQ.imp (h:mQ G H v r)(k:∀ a,G a->G' a):mQ G' H v r:=by
 cases r with
 | none=>exact h
 | some x=>obtain⟨s,es⟩:=x;obtain⟨p,sa,ea,e1,h1,h2,h3,h4⟩:=h;exact⟨p,sa,ea,e1,h1,h2,h3,k _ h4⟩
theorem l9.app (h:l9 H vs es)(k:l9 H us fs):l9 H (vs++us) (es++fs):=by
 induction h with
 | nil=>exact k
 | cons h1 h2 ih=>exact .cons h1 ih
theorem l9.len {vs:List V}{es:List Ev}(h:l9 H vs es):vs.length=es.length:=by
 induction h with
 | nil=>rfl
 | cons h1 h2 ih=>rw [uo,uo,ih]
theorem jU:∀ (l:List Tx),fZ H (l.map ft) (l.map tx)
 | []=>by simp only [U6,fZ]
 | x::l=>by simp only [uw,fZ];exact⟨_,_,rfl,by simp only [fV];exact⟨rfl,rfl⟩,jU l⟩
theorem lI.dat (h:lI H v s):fV H (dS s) v:=by obtain⟨p,o,e,h1,h2⟩:=h;unfold dS;simp only [fV,fZ];refine⟨p,_,e,h1,_,_,rfl,⟨rfl,rfl⟩,_,_,rfl,⟨rfl,rfl⟩,_,_,rfl,⟨o,_,rfl,h2,jU _⟩,_,_,rfl,⟨rfl,rfl⟩,rfl⟩
theorem nU.dat (h:nU H v e):fV H (dE e) v:=by obtain⟨a,e1,h1⟩:=h;unfold dE;simp only [fV];exact⟨a,_,e1,h1,jU _⟩
theorem l9.dat {es:List Ev}(h:l9 H vs es):fZ H (es.map dE) vs:=by
 induction h with
 | nil=>simp only [U6,fZ]
 | cons h1 h2 ih=>simp only [uw,fZ];exact⟨_,_,rfl,h1.dat,ih⟩
theorem mq.dat (h:mq H a es):fV H (FH es) (.ref a):=by obtain⟨vs,h1,h2⟩:=h;unfold FH;simp only [fV];exact⟨a,_,rfl,h1,h2.dat⟩
theorem FW (hp:H p=none)(hp1:upd H p (.tup [.str (S m),.str (S w),.ref oa,.str (S t)]) p1=none)(ho:mh H oa op)(he:mq H ea es)(hg:G ea) : fO H (upd (upd H p (.tup [.str (S m),.str (S w),.ref oa,.str (S t)])) p1 (.tup [.ref p,.ref ea]))/\mQ G (upd (upd H p (.tup [.str (S m),.str (S w),.ref oa,.str (S t)])) p1 (.tup [.ref p,.ref ea])) (.ref p1) (some (⟨m,w,op,t⟩,es)):=by have g1:fO H (upd H p (.tup [.str (S m),.str (S w),.ref oa,.str (S t)])):=za hp;have g2:=za (o:=.tup [.ref p,.ref ea]) hp1;refine⟨g1.trans g2,p1,.ref p,ea,rfl,zb,⟨p,oa,rfl,g2 _ _ zb,ho.mono (g1.trans g2)⟩,he.mono (g1.trans g2),hg⟩
theorem iJ:mq (upd H q (.lst [])) q []:=⟨[],zb,.nil⟩
theorem lT {e:Ev}(hq:upd H p (.tup (e.map tx)) q=none):mq (upd (upd H p (.tup (e.map tx))) q (.lst [.ref p])) q [e]:= ⟨_,zb,.cons ⟨p,rfl,za hq _ _ zb⟩ .nil⟩
def pN (G:Addr->Prop)(H:Hp)(v:V):Option (Tx×List Ev)->Prop
 | none=>v=.non
 | some (t,es)=>∃ p ea,v=.ref p/\H p=some (.tup [tx t,.ref ea])/\mq H ea es/\G ea
theorem pN.mono (h:pN G H v r)(g:fO H H'):pN G H' v r:=by
 cases r with
 | none=>exact h
 | some x=>obtain⟨s,es⟩:=x;obtain⟨p,ea,e1,h1,h2,h3⟩:=h;exact⟨p,ea,e1,g _ _ h1,h2.mono g,h3⟩
theorem WM (hp:H p=none)(he:mq H ea es)(hg:G ea):fO H (upd H p (.tup [.str (S t),.ref ea]))/\pN G (upd H p (.tup [.str (S t),.ref ea])) (.ref p) (some (t,es)):= ⟨za hp,p,ea,rfl,zb,he.mono (za hp),hg⟩
theorem Jv (h1:H p=some (.tup [.str (S m),.str (S w),.ref oa,.str (S t)]))(ho:mh H oa op)(he:mq H ea es)(hg:G ea)(hp2:H p2=none) : mQ G (upd H p2 (.tup [.ref p,.ref ea])) (.ref p2) (some (⟨m,w,op,t⟩,es)):=by have g2:=za (o:=.tup [.ref p,.ref ea]) hp2;exact⟨p2,.ref p,ea,rfl,zb,⟨p,oa,rfl,g2 _ _ h1,ho.mono g2⟩,he.mono g2,hg⟩
theorem ED {K:Frag}{H:Hp}{a:Addr}{xs:List V}(h:H a=some (.tup xs)):nI K (.ref a) H (!xs.isEmpty):=.inr (.inl ⟨xs,f7.of h,rfl⟩)
theorem Pm (xs:List V):me xs none (some (-1))=xs.dropLast:=by
 unfold me;rw [HT.mH,UR,Nat.sub_zero];have:HT.iE xs.length xs.length (some (-1))=xs.length - 1:=by unfold HT.iE;simp only [];rw [ue (by decide)];lia
 rw [this,List.dropLast_eq_take]
theorem K7 (xs:List V):me xs (some (-1)) none=xs.drop (xs.length - 1):=by
 unfold me;have:HT.iE xs.length 0 (some (-1))=xs.length - 1:=by unfold HT.iE;simp only [];rw [ue (by decide)];lia
 rw [this,HT.mH];exact gY (by rw [gK];lia)
theorem map_dropLast (op:List Tx):(op.map tx).dropLast=op.dropLast.map tx:=by rw [List.map_dropLast]
theorem qi (g:fO H H')(h:H' p=none):H p=none:=by
 cases e:H p with
 | none=>rfl
 | some o=>rw [g _ _ e] at h;cases h
theorem Z9 {α:Type}(xs:List α):lQ xs (-1)=xs.getLast?:=by
 unfold lQ pe;rw [ub (by decide)];cases xs with
 | nil=>rfl
 | cons x xs=>rw [ue (by rw [uo];omega),List.getLast?_eq_getElem?];simp only [US];congr 1;simp;omega
theorem Pl (l:List Tx):(l.map tx).all zR=true:=by rw [gO];intro v hv;obtain⟨x,_,rfl⟩:=U7.mp hv;rfl
theorem Rx {l:List V}(h:l.all zR=true):(l.drop n).all zR=true:=by rw [gO] at h ⊢;exact λv hv=>h v (List.mem_of_mem_drop hv)
theorem tU (a b:Tx):(S a == S b)=decide (a=b):=by rw [UL,u6,yu,Uy]
theorem Nf (op:List Tx)(w:Tx):rH ((op.map tx).drop ((op.map tx).length - 1)) [.str (S w)]=decide (op.getLast? = some w):=by
 rcases List.eq_nil_or_concat op with rfl | ⟨l,z,rfl⟩
 ·rfl
 ·have e:((l++[z]).map tx).drop (((l++[z]).map tx).length - 1)=[tx z]:=by
   rw [UE,uc]
   simp
  rw [List.concat_eq_append,e,List.getLast?_append]
  simp [rH,mZ,tx,tU]
theorem EC (a:Tx)(l:List Tx):rB (.str (S a)) (l.map λx=>.str (S x))=decide (a∈l):=by
 unfold rB
 induction l with
 | nil=>rfl
 | cons x l ih=>rw [uw,U9,ih];show((S x == S a)||decide (a∈l))=decide (a∈x::l);rw [tU,UL,Bool.or_eq_true,Uy,Uy,Uy,uq];exact⟨λh=>h.elim (λe=>.inl e.symm) .inr,λh=>h.elim (λe=>.inl e.symm) .inr⟩
theorem mh.updL (h:mh H a op)(hp:H p=some (.lst xs)):mh (upd H p (.lst ys)) a op:=by unfold mh at h ⊢;rw [zk (Ku h hp (by intro z;cases z))];exact h
theorem lI.updL (h:lI H v s)(hp:H p=some (.lst xs)):lI (upd H p (.lst ys)) v s:=by obtain⟨q,o,e,h1,h2⟩:=h;exact⟨q,o,e,by rw [zk (Ku h1 hp (by intro z;cases z))];exact h1,h2.updL hp⟩
theorem nU.updL (h:nU H v e)(hp:H p=some (.lst xs)):nU (upd H p (.lst ys)) v e:=by obtain⟨q,e1,h1⟩:=h;exact⟨q,e1,by rw [zk (Ku h1 hp (by intro z;cases z))];exact h1⟩
theorem l9.updL (h:l9 H vs es)(hp:H p=some (.lst xs)):l9 (upd H p (.lst ys)) vs es:=by
 induction h with
 | nil=>exact .nil
 | cons h1 h2 ih=>exact .cons (h1.updL hp) ih
def runM:MS->Ld->Except Nat (MS×List Ev)
 | s,[]=>.ok (s,[])
 | s,c::r=>match yx s c with
  | none=>.error 0
  | some (s',es)=>match runM s' r with
   | .error n=>.error (n+1)
   | .ok (s'',fs)=>.ok (s'',es++fs)
def IQ (s:MS)(r:nK):Prop:=∀ s' es,r=some (s',es)->s.word.length<=8->s'.word.length<=8/\s'.opens.length<=s.opens.length+1/\es.length<=10
def GA (n:Nat)(r:nK):Prop:=∀ s' es,r=some (s',es)->s'.word.length<=8/\s'.opens.length<=n/\es.length<=10
section
variable {n k:Nat} {m w t:Tx} {op:List Tx} {es:List Ev}
theorem GA.no:GA n none:=λ_ _ h=>by cases h
theorem GA.so {s:MS}(h1:s.word.length<=8)(h2:s.opens.length<=n)(h3:es.length<=10):GA n (some (s,es)):=λ_ _ h=>by cases h;exact⟨h1,h2,h3⟩
theorem GA.ite {p:Prop} [Decidable p]{a b:nK}(h1:p->GA n a)(h2:¬ p->GA n b):GA n (if p then a else b):=by
 by_cases h:p
 ·rw [ue h];exact h1 h
 ·rw [ub h];exact h2 h
theorem GA.come (h:op.length<=n)(h3:es.length<=10):GA n (ja m op es):=GA.so (uZ _) h h3
theorem GA.told (h:op.length<=n):GA n (Qq m op o):=by
 cases o with
 | none=>exact GA.no
 | some c=>exact GA.come h (by show 1<=10;decide)
theorem GA.lM (hk:k<=8)(h:op.length<=n):GA n (lM m w op t k):=GA.ite (λ_=>GA.no) λz=>GA.so (by show w.length<=8;lia) h (uZ _)
theorem GA.shut (h:op.length<=n)(h3:es.length<=9):GA n (kK op es):=GA.ite (λ_=>GA.no) λ_=>GA.come (by rw [List.length_dropLast];lia) (by rw [uc];show es.length+1<=10;lia)
theorem GA.led (h:op.length<=n)(h3:es.length<=9):GA n (VU op c es):=
 GA.ite (λ_=>GA.come h (by lia)) λ_=>GA.ite (λ_=>GA.come h (by lia)) λ_=>GA.ite (λ_=>GA.ite (λ_=>GA.no) λ_=>GA.come h (by rw [uc];show es.length+1<=10;lia)) λ_=>GA.no
def FA (r:Option (Tx×List Ev)):Prop:=∀ t' es,r=some (t',es)->es.length<=10
theorem FA.no:FA none:=λ_ _ h=>by cases h
theorem FA.so (h:es.length<=10):FA (some (t,es)):=λ_ _ e=>by cases e;exact h
theorem FA.ite {p:Prop} [Decidable p]{a b:Option (Tx×List Ev)}(h1:FA a)(h2:FA b):FA (if p then a else b):=by split<;>assumption
theorem FA.B:FA (oh c):=.ite (.so (uZ _)) (.ite (.so (by show 1<=10;decide)) (.ite (.so (by show 2<=10;decide)) .no))
theorem FA.feed:FA (VW t c):=.ite .B (.ite (.ite (.so (by show 1<=10;decide)) .B) (.ite (.ite (.so (uZ _)) (.ite (.so (uZ _)) (.so (by show 1<=10;decide)))) (.ite (.so (by show 1<=10;decide)) .no)))
theorem GA.fed (h:op.length<=n):GA n (nB op t o):=by
 cases o with
 | none=>exact GA.no
 | some c=>
  simp only [nB];cases hf:VW t c with
  | none=>exact GA.no
  | some r=>exact GA.so (uZ _) h (FA.feed _ _ hf)
end
theorem FV:∀ e∈VX,∀ (w:Tx) (op:List Tx) (t:Tx) (c:Nat) (s':MS) (es:List Ev),e.2 w op t c=some (s',es)->w.length<=8->s'.word.length<=8/\s'.opens.length<=op.length+1/\es.length<=10:=by
 have pre:∀ l:Tx,l.isPrefixOf kJ=true->l.length<=8:=by intro l h;rw [gu] at h;have:=h.length_le;simp at this;lia
 intro e he w op t c s' es h hw;have k:op.length<=op.length+1:=UA _;have k1:(op++[w]).length<=op.length+1:=by rw [uc];exact ui _
 have ew:(w.map λk=>([wj,[k]]:Ev)).length<=8:=by rw [uk];exact hw
 refine(?_:GA (op.length+1) (e.2 w op t c)) _ _ h;simp only [VX,uq,GP,GY] at he;rcases he with rfl | rfl | rfl | rfl | rfl | rfl | rfl | rfl | rfl | rfl | rfl | rfl | rfl | rfl | rfl | rfl | rfl | rfl | rfl | rfl;all_goals dsimp only [KW,KY,KZ,aName,XB,Js,oq,K0,tE,K1,K2,K3,oo,Jt,Ju,XC,K4,K5,XD,K6]
 all_goals repeat' first
  | exact .no
  | exact .told k
  | exact .lM (by decide) k
  | exact .fed k
  | exact .led k (by show 0<=9;decide)
  | exact .led k1 (by show 1<=9;decide)
  | exact .shut k (by show 0<=9;decide)
  | exact .shut k (by show 1<=9;decide)
  | exact .come k (by show 0<=10;decide)
  | exact .come k (by show 1<=10;decide)
  | exact .so (uZ _) k (by show 0<=10;decide)
  | exact .so (uZ _) k (by show 1<=10;decide)
  | exact .so hw k (by show 0<=10;decide)
  | exact .so (by show 1<=8;decide) k (by show 0<=10;decide)
  | refine .ite (λhq=>?_) λ_=>?_
 ·exact .so (pre _ hq) k (uZ _)
 ·exact .so (by show 1<=8;decide) k (uJ ew (by decide))
 ·exact .come k (by rw [uc];show _+1<=10;lia)
theorem E1 (s:MS)(c:Nat):IQ s (yx s c):=by
 intro s' es h hw;unfold yx at h;cases hl:VX.lookup s.mode with
 | none=>rw [hl] at h;cases h
 | some f=>
  rw [hl] at h
  have hm:(s.mode,f)∈VX:=by
   have:∀ (l:List (Tx×lW)),l.lookup s.mode=some f->(s.mode,f)∈l:=by
    intro l
    induction l with
    | nil=>intro z;cases z
    | cons e l ih=>
     intro z;rw [u4] at z;split at z
     ·rename_i hb;cases z;have:s.mode=e.1:=by simpa using hb
      rw [this];exact Up
     ·exact uL _ (ih z)
   exact this _ hl
  exact FV _ hm _ _ _ _ _ _ h hw
theorem l9.get {H:Hp}{vs:List V}{es:List Ev}{i:Nat}{v:V}(h:l9 H vs es)(e:vs[i]? = some v):∃ x,es[i]? = some x/\nU H v x:=by
 induction h generalizing i with
 | nil=>simp at e
 | cons h1 h2 ih=>
  cases i with
  | zero=>simp at e;subst e;exact⟨_,rfl,h1⟩
  | succ i=>simpa using ih (i:=i) (by simpa using e)
theorem K8:∀ l:List Tx,xE (l.map ft)=0
 | []=>by simp only [U6,xE]
 | x::l=>by simp only [uw,xE,iO,K8 l,Nat.max_self]
theorem mL (s:MS):iO (dS s)<=2:=by unfold dS;simp only [iO,xE,K8];decide
end L2
namespace L2
open PySem PySem.Spec PyProof.Rows
section
variable {κ:Type} [DecidableEq κ]
def iI (kvs:List (κ×V))(k:κ):Option V:=(kvs.find? λkv=>decide (kv.1=k)).map (·.2)
def putK (kvs:List (κ×V))(k:κ)(v:V):List (κ×V):= if (kvs.any λkv=>decide (kv.1=k))=true then kvs.map (λkv=>if kv.1=k then(kv.1,v) else kv) else kvs++[(k,v)]
def Dh (kvs:List (κ×V))(k:κ):List (κ×V):=kvs.filter λkv=>decide (kv.1≠k)
theorem Jw {p:κ×V}{r:List (κ×V)}{k:κ}(e:p.1=k):iI (p::r) k=some p.2:=by simp [iI,UZ,e]
theorem Jx {p:κ×V}{r:List (κ×V)}{k:κ}(e:¬ p.1=k):iI (p::r) k=iI r k:=by simp [iI,UZ,e]
theorem K9 (k:κ):∀ kvs:List (κ×V),(kvs.any λkv=>decide (kv.1=k))=(iI kvs k).isSome
 | []=>rfl
 | p::r=>by
  rw [U9];by_cases e:p.1=k
  ·simp only [Jw e,Uv e,Bool.true_or,Option.isSome_some]
  ·rw [Jx e,uF e,Bool.false_or];exact K9 k r
theorem zaa (kvs:List (κ×V))(k:κ)(v:V):(putK kvs k v).length<=kvs.length+1:=by
 unfold putK;split
 ·rw [uk];lia
 ·rw [uc,uo,UG];lia
theorem iN.isSome_eq {o:Option V}{u:Option Value}(r:iN o u):o.isSome=u.isSome:=by
 cases o with
 | none=>cases u with
  | none=>rfl
  | some _=>exact(show False from r).elim
 | some _=>cases u with
  | none=>exact(show False from r).elim
  | some _=>rfl
theorem iN.getD {o:Option V}{u:Option Value}(r:iN o u)(rd:RelV d d'):RelV (o.getD d) (u.getD d'):=by
 cases o with
 | none=>cases u with
  | none=>exact rd
  | some _=>exact(show False from r).elim
 | some _=>cases u with
  | none=>exact(show False from r).elim
  | some _=>exact r
theorem KV.val (r:KV kvs vs)(k:κ):iN (iI kvs k) (valueAt vs k):=by
 unfold KV at r
 induction r with
 | nil=>exact True.intro
 | @cons p q ps qs h t ih=>
  obtain⟨h1,h2⟩:=h;by_cases e:p.1=k
  ·have e':q.1=k:=h1.symm.trans e;have b:valueAt (q::qs) k=some q.2:=by simp [valueAt,UZ,e']
   rw [Jw e,b];exact h2
  ·have e':¬ q.1=k:=λz=>e (h1.trans z);have b:valueAt (q::qs) k=valueAt qs k:=by simp [valueAt,UZ,e']
   rw [Jx e,b];exact ih
theorem KV.any {kvs:List (κ×V)}{vs:List (κ×Value)}(r:KV kvs vs)(k:κ):(kvs.any λkv=>decide (kv.1=k))=vs.any λkv=>decide (kv.1=k):=by
 unfold KV at r
 induction r with
 | nil=>rfl
 | cons h t ih=>rw [U9,U9,ih,h.1]
theorem KV.repl {kvs:List (κ×V)}{vs:List (κ×Value)}(r:KV kvs vs)(k:κ)(ry:RelV y u) : KV (kvs.map λkv=>if kv.1=k then(kv.1,y) else kv) (vs.map λkv=>if kv.1=k then(kv.1,u) else kv):=by
 unfold KV at r ⊢
 induction r with
 | nil=>exact .nil
 | @cons p q ps qs h t ih=>
  rw [uw,uw];refine .cons ?_ ih;obtain⟨h1,h2⟩:=h;by_cases e:p.1=k
  ·rw [ue e,ue (h1.symm.trans e)];exact⟨h1,ry⟩
  ·rw [ub e,ub (λz=>e (h1.trans z))];exact⟨h1,h2⟩
theorem KV.put (r:KV kvs vs)(k:κ)(ry:RelV y u):KV (putK kvs k y) (stored vs k u):=by
 unfold putK stored;rw [r.any k];by_cases e:(vs.any λkv=>decide (kv.1=k))=true
 ·rw [ue e,ue e];exact r.repl k ry
 ·rw [ub e,ub e];exact Paired.snoc r ⟨rfl,ry⟩
theorem KV.drop (r:KV kvs vs)(k:κ):KV (Dh kvs k) (without vs k):=by
 unfold KV at r ⊢;unfold Dh without
 induction r with
 | nil=>exact .nil
 | @cons p q ps qs h t ih=>
  obtain⟨h1,h2⟩:=h;rw [List.filter_cons,List.filter_cons];by_cases e:p.1=k
  ·have a:¬ decide (p.1≠k)=true:=by simp [e]
   have b:¬ decide (q.1≠k)=true:=by simp [h1.symm.trans e]
   rw [ub a,ub b];exact ih
  ·have e':¬ q.1=k:=λz=>e (h1.trans z);have a:decide (p.1≠k)=true:=by simp [e]
   have b:decide (q.1≠k)=true:=by simp [e']
   rw [ue a,ue b];exact .cons ⟨h1,h2⟩ ih
theorem KV.keys {kvs:List (κ×V)}{vs:List (κ×Value)}(r:KV kvs vs):kvs.map (·.1)=vs.map (·.1):=by
 unfold KV at r
 induction r with
 | nil=>rfl
 | cons h t ih=>rw [uw,uw,ih,h.1]
theorem KV.length {kvs:List (κ×V)}{vs:List (κ×Value)}(r:KV kvs vs):kvs.length=vs.length:=Paired.length r
end
theorem sq (r:RelV (kV k) u):(qm P w).is k u=true:=by
 cases k with
 | inl i=>obtain⟨t,e⟩:=(show ∃ t,u=Value.int i t from r);subst e;exact Ks P w i t
 | inr x=>obtain⟨t,e⟩:=(show ∃ t,u=Value.str x t from r);subst e;exact Kt P w x t
theorem VY:∀ {ks:List Key} {us:Lg},Vals (ks.map kV) us->ItemsAre (qm P w) ks us
 | [],_,r=>by rw [U6] at r;cases r;exact .nil
 | k::ks,_,r=>by
  rw [uw] at r;cases r with
  | cons h t=>exact .cons (sq h) (VY t)
abbrev KT (H:Hp):List (List Key×V)->List (List Key×Addr×Value)->Prop:=Paired λp q=>p.1=q.1/\H q.2.1=some (.tup (p.1.map kV))/\RelV p.2 q.2.2
theorem KT.val (r:KT H kvs xs)(k:List Key):iN (iI kvs k) ((atKey xs k).map (·.2)):=by
 induction r with
 | nil=>exact True.intro
 | @cons p q ps qs h t ih=>
  obtain⟨h1,_,h2⟩:=h;by_cases e:p.1=k
  ·have e':q.1=k:=h1.symm.trans e;have b:atKey (q::qs) k=some q.2:=by simp [atKey,UZ,e']
   rw [Jw e,b];exact h2
  ·have e':¬ q.1=k:=λz=>e (h1.trans z);have b:atKey (q::qs) k=atKey qs k:=by simp [atKey,UZ,e']
   rw [Jx e,b];exact ih
theorem KT.repl {kvs:List (List Key×V)}{xs:List (List Key×Addr×Value)}(r:KT H kvs xs)(k:List Key)(ry:RelV y u) : KT H (kvs.map λkv=>if kv.1=k then(kv.1,y) else kv) (xs.map (putAt k u)):=by
 induction r with
 | nil=>exact .nil
 | @cons p q ps qs h t ih=>
  rw [uw,uw];refine .cons ?_ ih;obtain⟨h1,h2,h3⟩:=h;unfold putAt;by_cases e:p.1=k
  ·rw [ue e,ue (h1.symm.trans e)];exact⟨h1,h2,ry⟩
  ·rw [ub e,ub (λz=>e (h1.trans z))];exact⟨h1,h2,h3⟩
theorem KT.put (r:KT H kvs xs)(k:List Key)(hb:H b=some (.tup (k.map kV)))(ry:RelV y u) : KT H (putK kvs k y) (storedH xs k b u):=by
 have e:(kvs.any λkv=>decide (kv.1=k))=(atKey xs k).isSome:=by rw [K9,(r.val k).isSome_eq,Option.isSome_map]
 unfold putK storedH;rw [e];by_cases q:(atKey xs k).isSome=true
 ·rw [ue q,ue q];exact r.repl k ry
 ·rw [ub q,ub q];exact Paired.snoc r ⟨rfl,hb,ry⟩
theorem KT.keeps (r:KT H kvs xs)(ht:∀ b ys,H b=some (.tup ys)->H' b=some (.tup ys)):KT H' kvs xs:= Paired.mapP r λ_ _ z=>⟨z.1,ht _ _ z.2.1,z.2.2⟩
section
variable {P:Program} {w:World} {H:Hp} {h:Heap} {a:Addr}
theorem Dg (ok:lj P w H h)(e:Rd H a u):qA P w H h a u:=e.ok ok
theorem sk {kvs:List (Key×V)}(ok:lj P w H h)(e:Rd H a (.dK kvs)):kvs.length<=sizeLine/\(a == sysModules)=false/\∃ vs,KV kvs vs/\h.DictOf (qm P w) a vs:=
 show qA P w H h a (.dK kvs) from Dg ok e
theorem FU {kvs:List (Key×V)}(ok:lj P w H h)(e:H a=some (.dK kvs)):kvs.length<=sizeLine/\(a == sysModules)=false/\∃ vs,KV kvs vs/\h.DictOf (qm P w) a vs:=sk ok (.inl e)
theorem Bb {ks:List Key}(ok:lj P w H h)(e:H a=some (.tup (ks.map kV))):(tupleKind (qm P w)).is h ks a:=by
 obtain⟨_,fX,r,o,h1,h2,n,h3⟩:=(show qA P w H h a (.tup (ks.map kV)) from ok a _ e)
 exact⟨o,fX.toArray,n,h1,h2,h3,by simpa using VY r⟩
theorem t4 {kvs:List (List Key×V)}(ok:lj P w H h)(e:Rd H a (.dT kvs)):kvs.length<=sizeLine/\(a == sysModules)=false /\ ∃ xs,KT H kvs xs/\h.DictOfH (tupleKind (qm P w)) a xs:=by
 obtain⟨z,y,xs,r,o,es,ep,h1,h2,h3,h4,h5⟩:=(show qA P w H h a (.dT kvs) from Dg ok e)
 refine⟨z,y,xs,r,o,es,ep,h1,h2,h3,h4,λx hx=>?_,h5⟩
 have all:∀ {l:List (List Key×V)} {m:List (List Key×Addr×Value)},KT H l m->∀ x∈m,(tupleKind (qm P w)).is h x.1 x.2.1:=by
  intro l m q
  induction q with
  | nil=>intro x hx;exact nomatch hx
  | @cons p q ps qs hq t ih=>
   intro x hx;rcases uq.mp hx with e | hx
   ·subst e;exact Bb ok (by rw [← hq.1];exact hq.2.1)
   ·exact ih x hx
 exact all r x hx
end
def iY (H:Hp)(a:Addr)(y:V)(r:Option V):Prop:= (∃ kvs k,Rd H a (.dK kvs)/\y=kV k/\r=iI kvs k)\/∃ kvs k b,Rd H a (.dT kvs)/\y=.ref b/\H b=some (.tup (k.map kV))/\r=iI kvs k
def pD (H:Hp)(a:Addr)(y v:V)(H':Hp):Prop:= (∃ kvs k,H a=some (.dK kvs)/\y=kV k/\kvs.length<sizeLine/\H' = upd H a (.dK (putK kvs k v))) \/ ∃ kvs k b,H a=some (.dT kvs)/\y=.ref b/\H b=some (.tup (k.map kV))/\kvs.length<sizeLine/\H' = upd H a (.dT (putK kvs k v))
theorem iY.k {H:Hp}{a:Addr}{kvs:List (Key×V)}{k:Key}(e:H a=some (.dK kvs)):iY H a (kV k) (iI kvs k):=.inl ⟨kvs,k,.inl e,rfl,rfl⟩
theorem iY.t {k:List Key}(e:H a=some (.dT kvs))(eb:H b=some (.tup (k.map kV))):iY H a (.ref b) (iI kvs k):=.inr ⟨kvs,k,b,.inl e,rfl,eb,rfl⟩
theorem pD.k {H:Hp}{a:Addr}{kvs:List (Key×V)}{k:Key}{v:V}(e:H a=some (.dK kvs))(hl:kvs.length<sizeLine):pD H a (kV k) v (upd H a (.dK (putK kvs k v))):=.inl ⟨kvs,k,e,rfl,hl,rfl⟩
theorem pD.t {kvs:List (List Key×V)}{k:List Key}(e:H a=some (.dT kvs))(eb:H b=some (.tup (k.map kV)))(hl:kvs.length<sizeLine) : pD H a (.ref b) v (upd H a (.dT (putK kvs k v))):=.inr ⟨kvs,k,b,e,rfl,eb,hl,rfl⟩
section
variable {X:Cx} {pins:Lp} {σ:St} {H:Hp} {s:Shared} {a:Addr} {y v:V} {u r:Value} {o:Option V} {A:Around} {E:fL}
theorem Inv.big (I:Inv X pins σ H s):sysModules<s.heap.objs.size:=by have h:mainGlobals<s.heap.objs.size:=(I.mod.glob.keeps I.bk).lt;exact Nat.lt_trans (by decide) h
theorem Rw (hu:A.units+1<cLine)(I:Inv X pins σ H s)(g:iY H a y (some v))(ry:RelV y u)(h:∀ w' s',Inv X pins σ H s'->RelV v w'->Q w' s') : wpAny (model X.prog X.w) A (getItem (.ref a) u) Q E s:=by
 rcases g with⟨kvs,k,e,ey,l⟩ | ⟨kvs,k,b,e,ey,eb,l⟩
 ·subst ey;obtain⟨z,hd,vs,rel,dd⟩:=sk I.hok e;obtain⟨w',hw,rw'⟩:=iN.some_of (v:=v) (o:=valueAt vs k) (by rw [l];exact rel.val k);exact wpAny_getItem_of (sq ry) dd.mapOf hw (h w' _ (I.tok _) rw')
 ·subst ey;cases (show u=Value.ref b from ry);obtain⟨z,hd,xs,rel,dd⟩:=t4 I.hok e;obtain⟨w',hw,rw'⟩:=iN.some_of (v:=v) (o:=(atKey xs k).map (·.2)) (by rw [l];exact rel.val k);obtain⟨p,hp,hp2⟩:=uS.mp hw;refine wpAny_getItem_heap (hX hu) (Bb I.hok eb) dd hp ?_;rw [hp2];exact h w' _ (I.tok _) rw'
theorem Oa {h':Heap}(I:Inv X pins σ H s)(mu:tN (H a))(hs:Heap.SameBut a s.heap h')(he:∃ q,h'.get? a=some q)(new:qA X.prog X.w (upd H a ob) h' a ob) :
  Inv X pins σ (upd H a ob) { s with heap:=h',toks:=t' }:=
 I.write (x:=a) (e:=a) mu (.inl rfl) (λb q hb z=>(hs.2 b hb).trans z) he new
theorem IP {h':Heap}{kvs:List (Key×V)}(z:kvs.length<=sizeLine)(hd:(a == sysModules)=false)(rel:KV kvs vs)(dd:h'.DictOf (qm P w) a vs) : qA P w H' h' a (.dK kvs):=⟨z,hd,vs,rel,dd⟩
end
section
variable {X:Cx} {pins:Lp} {σ:St} {H:Hp} {s:Shared} {a:Addr} {kvs:List (Key×V)} {k:Key} {u:Value} {A:Around} {E:fL}
end
def tM (i:Expr):Prop:=∀ ov iv,subscripted i false ov iv=operate [ov,iv] (getItem ov iv)
theorem N9 {prog:Program}{w:World}{A:Around}{E:fL}{s:Shared}{env:Env}{value slice:Expr}{pos:Pos}{T id:String}{Q:fL} (hl:typeLookup (.type T) "__getitem__" = pure (some (.builtin id))) (hs:tM slice) (h:wpAny (model prog w) A (eval value env) (λo s₁=>wpAny (model prog w) A (eval slice env) (λi s₂=>s₂.TypeIs o T/\wpAny (model prog w) A (getItem o i) Q E s₂) E s₁) E s) : wpAny (model prog w) A (eval (.Subscript value slice pos) env) Q E s:=by
 refine Subscript_ (um h (λo s₁ h₁=>um h₁ (λi s₂ h₂=>?_) λ_ _ x=>x) λ_ _ x=>x);obtain⟨hT,h₂⟩:=h₂;unfold subscriptTail;refine ua ?_;rw [getitemInPython_of_ne hT.not_modules];refine ua (wpAny_specialOf hT hl ?_);have fin:wpAny (model prog w) A (subscripted slice false o i) (λr s₃=>wpAny (model prog w) A (letTemporaryGo value o r >>= λ_=>pure r) Q E s₃) E s₂:=by rw [hs o i];exact wpAny_operating (um h₂ (λr s₃ h₃=>ua (wpAny_letTemporaryGo (ud h₃))) λ_ _ x=>x)
 first
  | exact ud (ua fin)
  | exact ua (ud (ua fin))
  | exact ua fin
theorem zad {pins:Lp}{s:Shared}(I:Inv X pins σ H s)(g:iY H a y o):s.TypeIs (.ref a) "dict":=by
 rcases g with⟨kvs,k,e,_,_⟩ | ⟨kvs,k,b,e,_,_,_⟩
 ·obtain⟨_,_,vs,_,dd⟩:=sk I.hok e;exact dd.typeIs
 ·obtain⟨_,_,xs,_,dd⟩:=t4 I.hok e;exact dd.typeIs
def Du (td ty:TE):TE:=λσ H Q=>td σ H λx H1=>ty σ H1 λy H2=>∃ a v,x=.ref a/\iY H2 a y (some v)/\Q v H2
section
variable {X:Cx} {o i e value:Expr} {pos pos' tpos:Pos} {td ty tv:TE}
theorem N7 (hu:X.A.units+1<cLine)(ho:PE X o td)(hi:PE X i ty)(hs:tM i):PE X (.Subscript o i pos) (Du td ty):=by intro pins s σ H Q I h;refine N9 PySem.F.slot_dict_getitem.lookup hs (ik (ho pins s σ H _ I h) λu s1 ⟨x,H1,I1,rx,q1⟩=>ik (hi pins s1 σ H1 _ I1 q1) λiv s2 zq=>?_);obtain⟨y,H2,I2,ry,a,v,ex,g,q2⟩:=zq;subst ex;obtain rfl:u=Value.ref a:=rx;exact⟨zad I2 g,Rw hu I2 g ry λw' s3 I3 rw'=>⟨v,H2,I3,rw',q2⟩⟩
end
theorem PY (h:Heap)(hb:sysModules<h.objs.size):qA P w H (h.push { cls:=.type "dict",data:=.dict #[] }) h.objs.size (.dK []):=
 ⟨uZ _,uN.mpr (Ne.symm (Uc hb)),[],.nil,Heap.DictOf.new h⟩
section
variable {X:Cx} {pos:Pos}
end
def XE:List (TE×TE)->St->Hp->(List (V×V)->Hp->Prop)->Prop
 | [],_,H,Q=>Q [] H
 | (tk,tv)::r,σ,H,Q=>tk σ H λx H1=>tv σ H1 λy H2=>XE r σ H2 λps H3=>Q ((x,y)::ps) H3
abbrev VV:List (V×V)->List (Value×Value)->Prop:=Paired λp q=>RelV p.1 q.1/\RelV p.2 q.2
def tI (X:Cx)(pos:Pos)(keys:List (Option Expr))(values:Lh)(trs:List (TE×TE)):Prop:= ∀ (pins:Lp) (s:Shared) (σ:St) (H:Hp) (Q:List (V×V)->Hp->Prop),Inv X pins σ H s->XE trs σ H Q -> fN X (evalPairs (pairTrees keys values X.env pos)) (λvs s'=>∃ ps H',Inv X pins σ H' s'/\VV ps vs/\Q ps H') X.xe s
theorem EZ:tI X pos [] [] []:=λpins s σ H Q I h=>pairTrees_nil_walk ⟨[],H,I,.nil,h⟩
theorem vY (hk:PE X k tk)(hv:PE X v tv)(hr:tI X pos ks vs trs) :
  tI X pos (some k::ks) (v::vs) ((tk,tv)::trs):=λpins s σ H Q I h=>
 pairTrees_cons_walk (ik (hk pins s σ H _ I h) λu s1 ⟨x,H1,I1,rx,q1⟩=>ik (hv pins s1 σ H1 _ I1 q1) λw2 s2 ⟨y,H2,I2,ry,q2⟩=>
  ik (hr pins s2 σ H2 _ I2 q2) λws s3 ⟨ps,H3,I3,rel,q3⟩=>⟨(x,y)::ps,H3,I3,.cons ⟨rx,ry⟩ rel,q3⟩)
def qW (kvs more:List (Key×V)):List (Key×V):=more.foldl (λacc kv=>putK acc kv.1 kv.2) kvs
theorem KV.merge:∀ {more:List (Key×V)} {rs:List (Key×Value)} {kvs:List (Key×V)} {vs:List (Key×Value)},KV more rs->KV kvs vs->KV (qW kvs more) (merged vs rs):=by
 intro more rs kvs vs r;unfold KV at r
 induction r generalizing kvs vs with
 | nil=>intro q;exact q
 | @cons p q ps qs h t ih=>
  intro r0;have e:KV (putK kvs p.1 p.2) (stored vs q.1 q.2):=by have:=r0.put p.1 h.2;rw [← h.1];exact this
  exact ih e
theorem Qr:∀ (more kvs:List (Key×V)),(qW kvs more).length<=kvs.length+more.length
 | [],kvs=>by show kvs.length<=kvs.length+0;omega
 | p::r,kvs=>by have h1:=Qr r (putK kvs p.1 p.2);have h2:=zaa kvs p.1 p.2;show(qW (putK kvs p.1 p.2) r).length<=_;rw [uo];omega
theorem XF:∀ {kvs:List (Key×V)} {ws:List (Value×Value)},VV (kvs.map λkv=>(kV kv.1,kv.2)) ws->∃ rs,Carries (qm P w) ws rs/\KV kvs rs
 | [],_,r=>by rw [U6] at r;cases r;exact⟨[],True.intro,.nil⟩
 | p::kvs,_,r=>by
  rw [uw] at r;cases r with
  | @cons a b as bs h t=>obtain⟨rs,c,q⟩:=XF (P:=P) (w:=w) t;obtain⟨b1,b2⟩:=b;exact⟨(p.1,b2)::rs,⟨sq h.1,rfl,c⟩,.cons ⟨rfl,h.2⟩ q⟩
def AZ (trs:List (TE×TE)):TE:=λσ H Q=>∀ p,H p=none->XE trs σ (upd H p (.dK [])) λps H2=>H2 p=some (.dK [])/\∃ kvs:List (Key×V),ps=kvs.map (λkv=>(kV kv.1,kv.2))/\kvs.length<=15/\Q (.ref p) (upd H2 p (.dK (qW [] kvs)))
theorem EY {keys:List (Option Expr)}{values:Lh}(h:tI X pos keys values trs)(hall:keys.all (·.isSome)=true)(hl:keys.length=values.length)(h0:keys≠[]) (h15:keys.length<=15):PE X (.Dict keys values pos) (AZ trs):=by
 intro pins s σ H Q I q;have hn:=I.hok.fresh (ui s.heap.objs.size);have I1:=I.laid (a:=s.heap.objs.size) (o:=.dK []) (h':=s.heap.push { cls:=.type "dict",data:=.dict #[] }) (t':=s.toks) (λ_ _ q=>uf _ q) (ui _) (PY s.heap I.big);refine wpAny_Dict_walk (knd:=qm X.prog X.w) hall hl h0 h15 (ik (h pins _ σ _ _ I1 (q _ hn)) λws s2 zq=>?_);obtain⟨ps,H2,I2,rel,e,kvs,ep,lk,q2⟩:=zq;subst ep;obtain⟨rs,c,rk⟩:=XF (P:=X.prog) (w:=X.w) rel;obtain⟨z,hd,vs0,r0,dd⟩:=FU I2.hok e;cases r0;refine⟨rs,c,dd,λh' dd' hs=>⟨.ref s.heap.objs.size,_,?_,rfl,q2⟩⟩;have hz:(qW [] kvs).length<=sizeLine:=by have h1:=Qr kvs [];rw [UG] at h1;rw [uQ];lia
 have he:∃ q,h'.get? s.heap.objs.size=some q:=let ⟨q,_,_,hq,_⟩:=dd';⟨q,hq⟩;exact Oa I2 (by rw [e];exact True.intro) hs he (IP hz hd (rk.merge .nil) dd')
structure M2 (X:Cx)(o:Expr)(m:Str)(apos:Pos)(e f:Expr)(cpos:Pos):Prop where
 base:attributeBase o m X.env (eval o X.env)=eval o X.env
 few:((backTo cpos (starEach [e,f] X.env)).all (λx=>!x.1)&&(backToKw cpos (keywordEach [] X.env)).all (λx=>x.1.isSome)
  && decide (([e,f]:Lh).length+([]:List Keyword).length+(if ([]:List Keyword).isEmpty then 0 else 1)<30))=true
 line:(apos.endLine == cpos.line)=true
 trees:backTo cpos (starEach [e,f] X.env)=[(false,eval e X.env),(false,eval f X.env)]
def C3 (H:Hp)(a:Addr):Prop:=(∃ kvs,Rd H a (.dK kvs))\/∃ kvs,Rd H a (.dT kvs)
theorem L9 {pins:Lp}{s:Shared}(I:Inv X pins σ H s)(d:C3 H a) : s.TypeIs (.ref a) "dict"/\(∀ b,Value.ref a=.ref b->∃ ob,s.heap.get? b=some ob/\ob.dict=none)/\(a == sysModules)=false:=by
 rcases d with⟨kvs,e⟩ | ⟨kvs,e⟩
 ·obtain⟨_,hd,vs,_,dd⟩:=sk I.hok e;refine⟨dd.typeIs,λb q=>?_,hd⟩;cases q;obtain⟨ob,_,_,h1,h2,_⟩:=dd;exact⟨ob,h1,h2.2.1⟩
 ·obtain⟨_,hd,xs,_,dd⟩:=t4 I.hok e;refine⟨dd.typeIs,λb q=>?_,hd⟩;cases q;obtain⟨ob,_,_,h1,h2,_⟩:=dd;exact⟨ob,h1,h2.2.1⟩
section
variable {X:Cx} {pins:Lp} {σ:St} {H:Hp} {s:Shared} {a:Addr} {y d:V} {u r:Value} {o:Option V} {A:Around} {E:fL}
theorem L8 (hu:A.units+1<cLine)(I:Inv X pins σ H s)(g:iY H a y o)(ry:RelV y u)(rd:RelV d r)(h:∀ w' s',Inv X pins σ H s'->RelV (o.getD d) w'->Q w' s') : wpAny (model X.prog X.w) A (call (.builtin "dict.get") [.ref a,u,r]) Q E s:=by
 rcases g with⟨kvs,k,e,ey,l⟩ | ⟨kvs,k,b,e,ey,eb,l⟩
 ·subst ey;obtain⟨z,hd,vs,rel,dd⟩:=sk I.hok e;refine GD UQ dd.typeIs gZ (Hf _ _ _) (meets_dict_get_default (qm X.prog X.w) a (sq ry) hd r) ⟨_,dd.mapOf,h _ _ (I.tok _) ?_⟩;rw [l];exact(rel.val k).getD rd
 ·subst ey;cases (show u=Value.ref b from ry);obtain⟨z,hd,xs,rel,dd⟩:=t4 I.hok e;refine GD UQ dd.typeIs gZ (Hf _ _ _) (meetsH_dict_get_default (tupleKind (qm X.prog X.w)) a b hd r) ⟨hX hu,k,xs,Bb I.hok eb,dd,h _ _ (I.tok _) ?_⟩;rw [l];exact(rel.val k).getD rd
end
def Ys (td ty tx:TE):TE:=λσ H Q=>td σ H λx H1=>∃ a,x=.ref a/\C3 H1 a/\ty σ H1 λy H2=>tx σ H2 λz H3=>∃ o,iY H3 a y o/\Q (o.getD z) H3
section
variable {X:Cx} {o e f:Expr} {apos cpos:Pos} {td ty tx:TE}
theorem PX (hu:X.A.units+1<cLine)(ho:PE X o td)(he:PE X e ty)(hf:PE X f tx)(m:M2 X o "get" apos e f cpos):PE X (.Call (.Attribute o "get" apos) [e,f] [] cpos) (Ys td ty tx):=by
 intro pins s σ H Q I h;refine Hg m.base m.few m.line Hh UQ PySem.F.type_dict_get (ik (ho pins s σ H _ I h) λu s1 zq=>?_);obtain⟨x,H1,I1,rx,a,ex,d,q1⟩:=zq;subst ex;obtain rfl:u=Value.ref a:=rx;obtain⟨t1,t2,_⟩:=L9 I1 d;refine⟨t1,t2,?_⟩;rw [m.trees]
 refine Calls.callWith_builtin rfl (Calls.evalArgs_plain (Calls.spliced_cons (ik (he pins s1 σ H1 _ I1 q1) λiv s2 ⟨y,H2,I2,ry,q2⟩=>
  Calls.spliced_cons (ik (hf pins s2 σ H2 _ I2 q2) λfv s3 ⟨z,H3,I3,rz,ov,g,q3⟩=>Calls.spliced_nil ?_))))
 exact L8 hu I3 g ry rz λw' s4 I4 rw'=>⟨_,H3,I4,rw',q3⟩
end
section
variable {X:Cx} {pins:Lp} {σ:St} {H:Hp} {s:Shared} {a:Addr} {kvs:List (Key×V)} {A:Around} {E:fL}
end
section
variable {X:Cx} {pins:Lp} {σ:St} {H:Hp} {s:Shared} {a:Addr} {y:V} {u:Value} {A:Around} {E:fL}
end
end L2
namespace L2
open PySem PySem.Spec PySem.Calls PyProof.Rows PySem.W
theorem PV:bootBuiltins "tuple" = some (.type "tuple"):=by decide +kernel
section
variable {X:Cx} {k j:Nat} {x:Str} {p pos:Pos} {e:Expr} {es:Lh} {tf:TE} {t:TA}
def C4 (P:Program)(w:World)(K:Frag)(mg:La)(base:Heap)(k:Nat)(f:Addr)(sp:Sp):Prop:=∃ fd ps,keepIn K (.ref f)=true/\Binds K fd ps []/\iD P w K mg base mr k f fd ps sp
def Yt (P:Program)(w:World)(K:Frag)(mg:La)(base:Heap)(k:Nat)(tf:TE)(t:TA):TE:=λσ H Q=>tf σ H λv H0=>∃ f sp,v=.ref f/\C4 P w K mg base k f sp/\t σ H0 λvs H1=>sp vs H1 Q E0
theorem PU (hf:PE X (.Name x p) tf)(hr:ib j X.A)(hk:k<=j)(ha:PA X (e::es) t) (he:SE X e es:=by rfl) (hpl:(backTo pos (starEach es X.env)).any (·.1)=false:=by rfl) : PE X (.Call (.Name x p) (e::es) [] pos) (Yt X.prog X.w X.K X.mg X.base k tf t):=by intro pins s σ H Q I h;refine uU (ik (hf pins s σ H _ I h) λu s0 zq=>?_);obtain⟨v,H0,I0,r0,f,sp,ev,G,q⟩:=zq;subst ev;obtain rfl:u=Value.ref f:=r0;obtain⟨fd,ps,kp,b,G⟩:=G;refine Ui (h₀:=X.base) I0.ok.mod.kin kp (ik (ha pos pins s0 σ H0 _ I0 q) λus s1 ⟨vs,H1,I1,r,q⟩=>⟨I1.kIn,?_⟩) he hpl;exact Xr (dvs:=[]) (ds:=[]) G (hr.mono hk) b .nil AN I1 r (by rw [uj];exact q)
end
inductive mj (w:World):List DictEntry->List (Key×V)->Prop
 | nil:mj w [] []
 | cons {e:DictEntry} {k:Key} {v:V} {es:List DictEntry} {kvs:List (Key×V)}:e.hash=tj w k->Xi k e.key=true->RelV v e.val->mj w es kvs->mj w (e::es) ((k,v)::kvs)
theorem mj.keys (h:mj w es kvs):∀ e∈es,∃ k,(qm P w).is k e.key=true/\e.hash=(qm P w).hash k:=by
 induction h with
 | nil=>intro e he;cases he
 | cons h1 h2 h3 h4 ih=>
  intro e he;rcases uq.mp he with rfl | he
  ·exact⟨_,h2,h1⟩
  ·exact ih e he
theorem mj.pairs {kvs:List (Key×V)}(h:mj w es kvs):∃ vs:List (Key×Value),PySem.Pairs (qm P w) es vs/\KV kvs vs/\vs.map (·.1)=kvs.map (·.1):=by
 induction h with
 | nil=>exact⟨[],.nil,.nil,rfl⟩
 | @cons e k v es kvs h1 h2 h3 h4 ih=>obtain⟨vs,i1,i2,i3⟩:=ih;exact⟨(k,e.val)::vs,.cons h2 rfl i1,.cons ⟨rfl,h3⟩ i2,by rw [uw,uw,i3]⟩
def sj (w:World)(K:Frag)(a:Addr)(kvs:List (Key×V)):Prop:=(a == sysModules)=false/\∃ o es ep,K.lookup a=some o/\o.ExactDict/\o.data=.dict es ep/\mj w es.toList kvs/\(kvs.map (·.1)).Nodup
section
variable {X:Cx} {pins:Lp} {σ:L2.St} {H:Hp} {s:Shared} {a:Addr} {kvs:List (Key×V)}
theorem sj.at (I:Inv X pins σ H s)(h:sj X.w X.K a kvs):(a == sysModules)=false/\∃ vs,KV kvs vs/\s.heap.DictOf (qm X.prog X.w) a vs:=by obtain⟨h0,o,es,ep,h1,h2,h3,h4,h5⟩:=h;obtain⟨vs,i1,i2,i3⟩:=h4.pairs (P:=X.prog);exact⟨h0,vs,i2,o,es,ep,I.kIn a o h1,h2,h3,λe he=>h4.keys (P:=X.prog) e (by simpa using he),i1,by rw [i3];exact h5⟩
end
section
variable {X:Cx} {x:Str} {p apos cpos:Pos} {e f:Expr} {ty tx':TE} {kvs:List (Key×V)}
def AY (kvs:List (Key×V))(ty:TE):TE:=λσ H Q=>ty σ H λy H1=>∃ k,y=kV k/\Q ((iI kvs k).getD .non) H1
theorem N6 (hm:∃ a,X.mg x=some (.ref a)/\sj X.w X.K a kvs)(he:PE X e ty)(hg:Gl X x:=by rfl) (hd:(x == ("__debug__":Str))=false:=by decide) (hbase:attributeBase (.Name x p) "get" X.env (eval (.Name x p) X.env)=eval (.Name x p) X.env:=by rfl) (hfew:((backTo cpos (starEach [e] X.env)).all (λx=>!x.1)&&(backToKw cpos (keywordEach [] X.env)).all (λx=>x.1.isSome) && decide (([e]:Lh).length+([]:List Keyword).length+(if ([]:List Keyword).isEmpty then 0 else 1)<30))=true:=by rfl) (hline:(apos.endLine == cpos.line)=true:=by rfl) (htr:backTo cpos (starEach [e] X.env)=[(false,eval e X.env)]:=by rfl) : PE X (.Call (.Attribute (.Name x p) "get" apos) [e] [] cpos) (AY kvs ty):=by
 intro pins s σ H Q I h;obtain⟨a,hm,D⟩:=hm;refine Hg hbase hfew hline Hh UQ PySem.F.type_dict_get (w4 I hg hm ?_ hd);obtain⟨h0,vs,rel,dd⟩:=D.at I;refine⟨dd.typeIs,λb q=>?_,?_⟩
 ·cases q;obtain⟨ob,_,_,h1,h2,_⟩:=dd;exact⟨ob,h1,h2.2.1⟩
 rw [htr];refine Calls.callWith_builtin rfl (Calls.evalArgs_plain (Calls.spliced_cons (ik (he pins s σ H _ I h) λiv s2 ⟨y,H2,I2,ry,k,ey,q2⟩=>Calls.spliced_nil ?_)));subst ey;obtain⟨_,vs2,rel2,dd2⟩:=D.at I2;refine GD UQ dd2.typeIs gZ (PySem.F.args_dict_get_2 _ _) (meets_dict_get (qm X.prog X.w) a (sq ry) h0) ⟨_,dd2.mapOf,_,H2,I2.tok _,?_,q2⟩;exact(rel2.val k).getD rfl
end
section
variable {X:Cx} {a:Expr} {ta:TE}
def AX (K:Frag)(ta:TE):TT:=λσ H Q=>ta σ H λx H'=>∃ k,nI K x H' k/\Q k H'
theorem Rv {K:Frag}(hK:X.K=K)(ha:PE X a ta)(he:∀ whole,isTrue a X.env whole=(do let v ← whole;standAt a.pos;holding [v] (truthy v)):=by intro _;rfl):PT X a (AX K ta):=by subst hK;exact RI ha he
end
section
variable {X:Cx}
def sI (K:Frag)(n:String):List V->Hp->VK->Prop:=λxs H Q=>∃ x t b,xs=[x,.ty n]/\lH K H x t/\PySem.W.kitOne K t (.type n)=some b/\Q (.bl b) H
theorem Ru {K:Frag}{n:String}(hK:X.K=K):jB X (.builtin "isinstance") (sI K n):=by subst hK;intro pins s σ H xs us Q I r h;obtain⟨x,t,b,rfl,ty,e,q⟩:=h;exact KG pins s σ H _ us Q I r ⟨x,n,t,b,rfl,ty,e,q⟩
def DK:R2:=λx y H Q=>∃ a b xs ys,x=.ref a/\y=.ref b/\H a=some (.tup xs)/\H b=some (.tup ys)/\xs.length+ys.length<=1000000/\∀ p H',fO H H'->H' p=some (.tup (xs++ys))->Q (.ref p) H'
theorem EX:iM X (binaryOp .Add) DK:=by
 intro pins s σ H x y v u Q I rx ry h;obtain⟨a,b,xs,ys,rfl,rfl,ha,hb,hz,q⟩:=h;by_cases hx:xs=[]
 ·subst hx;cases rx;cases ry;obtain⟨fX,r1,p1,_⟩:=I.tuple (f7.of ha);obtain⟨its2,r2,p2,_⟩:=I.tuple (f7.of hb);obtain⟨⟨cls,dd,data,sl⟩,ho,hc,n,hd⟩:=id p1;obtain⟨⟨cls2,dd2,data2,sl2⟩,ho2,hc2,n2,hd2⟩:=id p2;simp only at hc hd hc2 hd2;subst hc hd hc2 hd2;have e0:fX=[]:=r1.nil_iff.mpr rfl
  exact Gz ⟨_,ho,rfl⟩ ⟨_,ho2,rfl⟩ gR Gn gU gJ (gA _ _)
   (tuple_addW0 a b fX.toArray its2.toArray n n2 dd dd2 sl sl2 (by simp [e0])) ⟨ho,ho2,.ref b,H,I,rfl,q b H (fO.refl H) (by rw [Ub];exact hb)⟩
 ·refine NH pins s σ H _ _ v u Q I rx ry ⟨a,b,xs,ys,rfl,rfl,f7.of ha,f7.of hb,hx,by rw [uQ];lia,λe=>q a H (fO.refl H) (by rw [e,uj];exact ha),λ_ p hp=>q p _ (za hp) zb⟩
def Yu:V->List V->Hp->VK->Prop:=λx vs H Q=>∃ l y,x=.str (S l)/\vs=[.str (S y)]/\Q (.bl (y.isPrefixOf l)) H
theorem PR (l y:Ld):Txt.startswith (S l) (S y)=y.isPrefixOf l:=by
 unfold Txt.startswith Builtin.Str.subAt;rw [Zr,Zr];by_cases h:y.length<=l.length
 ·have h1:decide (0+y.length<=l.length)=true:=by simpa using h
  rw [h1,Bool.true_and];have e:(S l).cps.extract 0 (0+y.length)=(l.take y.length).toArray:=by simp [S]
  rw [e];rw [UL,u6,gu,List.prefix_iff_eq_take];constructor
  ·intro z;have:=congrArg Array.toList z;simp [S] at this;exact this.symm
  ·intro z;rw [← z];rfl
 ·have h1:decide (0+y.length<=l.length)=false:=by simpa using h
  rw [h1,Ge];symm;rw [← Bool.not_eq_true,gu];intro z;exact h z.length_le
theorem XG:oy X "str.startswith" Yu:=by
 intro pins s σ H x xs v us Q I rx rs h;obtain⟨l,y,rfl,rfl,q⟩:=h;obtain⟨t,rfl⟩:=rx;obtain⟨u,rfl,t',rfl⟩:=vals1 rs;refine SC.startswith ⟨.bl _,H,I,rfl,?_⟩
 rw [PR];exact q
end
theorem N5 {l:Ld}(G:Nat->V->Hp->Prop)(hG:∀ c v H1 H2,G c v H1->fO H1 H2->G c v H2)(hU:∀ c v H1 D xs ys,G c v H1->H1 D=some (.lst xs)->G c v (upd H1 D (.lst ys)))(hl:l.length<=sizeLine) (he:∀ c∈l,∀ H1,fO H H1->∀ R:VK,(∀ v H2,fO H1 H2->G c v H2->R v H2)->te (some (.str (S [c]))::σ) H1 R) (hq:∀ D H2 ys,H D=none->fO H H2->ys.length=l.length->(∀ (i:Nat) c v,l[i]? = some c->ys[i]? = some v->G c v H2)->H2 D=some (.lst ys)->Q (.ref D) H2):DY (Af (S l)) VN te σ H Q:=by
 intro D hD;refine⟨λi m ys H'=>m=l.length - i/\i<=l.length/\ys.length=i/\(∀ (j:Nat) c v,l[j]? = some c->ys[j]? = some v->G c v H')/\fO H H'/\H' D=some (.lst ys),⟨l.length,by simp,uZ _,rfl,by simp,za hD,zb⟩,?_⟩;rintro i m ys H' ⟨rfl,hi,hy,hg,sm,hDl⟩;refine⟨hDl,?_⟩;by_cases hlt:i<l.length
 ·refine .inr ⟨by show i<(S l).cps.size;rw [Yi];exact hlt,λv H2 y=>?_⟩;obtain⟨rfl,c,hc,rfl⟩:=y;rw [C8] at hc;have hm:c∈l:=uP hc;simp only [VN,↓reduceIte];refine he c hm H2 sm _ λv H4 s4 gv=>?_;have hD4:=s4 D _ hDl;refine⟨hD4,by lia,l.length - (i+1),by lia,rfl,hlt,by simp [hy],λj c' u e1 e2=>?_,?_,zb⟩
  ·refine hU _ _ _ _ _ _ ?_ hD4;by_cases hj:j<ys.length
   ·rw [UD hj] at e2;exact hG _ _ _ _ (hg j c' u e1 e2) s4
   ·rw [UB (by lia)] at e2
    have hj':j - ys.length=0:=by
     by_cases hz:j - ys.length=0
     ·exact hz
     ·rw [UC.mpr (by simp;lia)] at e2;cases e2
    have ej:j=i:=by lia
    subst ej;rw [hj'] at e2;simp at e2;subst e2;rw [hc] at e1;cases e1;exact gv
  ·intro b o e;rw [zk (zv e hD)];exact s4 b o (sm b o e)
 ·have e:i=l.length:=by lia
  subst e;exact .inl ⟨by show(S l).cps.size<=l.length;rw [Yi];exact ui _,hq D H' ys hD sm hy hg hDl⟩
section
variable {X:Cx} {pins:Lp} {σ:L2.St} {H:Hp} {s:Shared} {h':Heap}
end
section
variable {X:Cx}
end
theorem mw {A:Around}(hr:ib k A):A.units+64<cLine:=hr.units
section
variable {X:Cx}
def DJ:List V->Hp->VK->Prop:=λxs H Q=>∃ k,xs=[.bl k]/\Q (.int (if k then 1 else 0)) H
theorem Rt:jB X (.type "int") DJ:=by intro pins s σ H xs us Q I r h;exact Sf pins s σ H xs us Q I r (.inr h)
end
theorem fW.fnv {P:Program}{w:World}{K:Frag}{mg:La}{base:Heap}{j k:Nat}{x:Str}{ps:Lj}{sp:Sp}{a:Addr}(F:fW P w K mg base j x ps sp)(h:mg x=some (.ref a))(hk:j<=k):C4 P w K mg base k a sp:=by
 obtain⟨f,fd,kp,b,m,G⟩:=F.ex;have e:f=a:=by have:=m.1;rw [h] at this;cases this;rfl
 subst e;exact⟨fd,ps,kp,b,G.mono hk⟩
section
variable {X:Cx} {K:Frag} {o:Expr} {to:TE} {name:Str} {apos cpos:Pos} {T id:String} {r:V->List V->Hp->VK->Prop}
theorem N4 (hK:X.K=K)(pa:PlainAttrs T)(slot:Slot T name id)(hty:typeOf (.builtin id)=pure (.type "method_descriptor"))(hm:oy X id r)(ho:PE X o to) (hbase:attributeBase o name X.env (eval o X.env)=eval o X.env:=by rfl) (hline:(apos.endLine == cpos.line)=true:=by rfl):PE X (.Call (.Attribute o name apos) [] [] cpos) (oO K T r to):=by subst hK;exact Ly pa slot hty hm ho hbase hline
end
end L2
namespace HT
open PySem PySem.Spec PySem.Calls PyProof.Rows PySem.W
section
variable {prog:Program} {w:World} {A:Around} {E:fL} {s:Shared}
theorem Qk {t sl:Addr}{items:Array Value}{vl vu:Value}{lo hi:Option Int}{Q:fL}(ht:IsTup s.heap t items)(hs:s.heap.IsSliceOf sl vl vu .none)(pl:IsPart vl lo)(pu:IsPart vu hi) (hw:iE items.size 0 lo=0/\iE items.size items.size hi=items.size) (h:Q (.ref t) s):wpAny (model prog w) A (getItem (.ref t) (.ref sl)) Q E s:=by
 obtain⟨os,hos,hcs,hds⟩:=id hs;have hTs:s.TypeIs (.ref sl) "slice":=⟨os,hos,hcs⟩
 unfold getItem
 try with_reducible refine u0 ?_
 first | refine ua (ud ?_) | skip
 refine ua (Hc ht.typeIs (by decide) ?_)
 refine ua (GQ (name:=Str.ofString "__getitem__") ht.typeIs PyProof.Rows.slot_tuple_getitem
  (wpAny_call_entry PyProof.Rows.slot_tuple_getitem ht.typeIs GH ?_ (GL _ _)))
 show wpAny _ _ (Builtin.Tuple.tupleItemsOf (.ref t) >>= _) _ _ s;refine ua (GX ht ?_);refine ua (gm hTs ?_);rw [ue (by decide)];refine ua (kj hs pl pu ?_);have hyes:(((iE items.size 0 lo:Nat):Int) == 0&&(1:Int) == 1&&(iE items.size items.size hi - iE items.size 0 lo) == items.size)=true:=by rw [hw.1,hw.2];simp
 show wpAny _ _ (if (((iE items.size 0 lo:Nat):Int) == 0&&(1:Int) == 1&&(iE items.size items.size hi - iE items.size 0 lo) == items.size)=true then _ else _) _ _ s;rw [ue hyes];unfold Builtin.Tuple.tupleIsExact;refine ua (ua (gm ht.typeIs (ud ?_)));rw [ue (by decide)];exact ua (wpAny_rule (ud ⟨_,rfl,ud h⟩))
end
end HT
namespace L2
open PySem PySem.Spec PySem.Calls PyProof.Rows PySem.W
section
variable {X:Cx}
def sE:V->Option Int->Option Int->Hp->VK->Prop:=λx lo hi H Q=>∃ a xs,x=.ref a/\H a=some (.tup xs)/\∀ p H',fO H H'->H' p=some (.tup (me xs lo hi))->Q (.ref p) H'
theorem EW:pP X sE:=by
 intro pins s σ H x v vl vu lo hi sl Q I rx hs pl pu h;obtain⟨a,xs,rfl,hx,q⟩:=h;by_cases hw:HT.iE xs.length 0 lo=0/\HT.iE xs.length xs.length hi=xs.length
 ·cases rx;obtain⟨fX,r,ht,hz⟩:=I.tuple (f7.of hx);have hlen:fX.toArray.size=xs.length:=by rw [uh];exact r.length.symm
  refine⟨"tuple",_,PyProof.Rows.slot_tuple_getitem.lookup,ht.typeIs,?_⟩;refine HT.Qk ht hs pl pu (by rw [hlen];exact hw) ⟨.ref a,H,I,rfl,q a H (fO.refl H) ?_⟩;rw [hx];unfold me;rw [hw.1,hw.2,UR,Nat.sub_zero,UU]
 ·exact LC pins s σ H _ v vl vu lo hi sl Q I rx hs pl pu ⟨a,xs,rfl,f7.of hx,hw,λp hp=>q p _ (za hp) zb⟩
end
theorem zo (h:upd H p o q=none):H q=none:=by
 unfold upd at h;by_cases e:q=p
 ·rw [ue e] at h;cases h
 ·rw [ub e] at h;exact h
theorem DI:∀ {l:Ld} {ys:List V},ys.length=l.length->(∀ (i:Nat) c v,l[i]? = some c->ys[i]? = some v->nU H v [wj,[c]])->l9 H ys (l.map λk=>[wj,[k]])
 | [],[],_,_=>.nil
 | c::l,y::ys,h,hG=>.cons (hG 0 c y rfl rfl) (DI (by simpa using h) λi c' v e1 e2=>hG (i+1) c' v (by simpa using e1) (by simpa using e2))
 | [],_::_,h,_=>by simp at h
 | _::_,[],h,_=>by simp at h
structure QE (X:Cx)(e:Expr)(t:TE):Prop where
 h:PE X e t
structure QT (X:Cx)(e:Expr)(t:TT):Prop where
 h:PT X e t
structure QW (X:Cx)(e:Expr)(t:TT):Prop where
 h:PW X e t
structure QA (X:Cx)(es:Lh)(t:TA):Prop where
 h:PA X es t
structure QS (X:Cx)(st:Stmt)(t:TS):Prop where
 h:PS X st t
structure nP (X:Cx)(st:List Stmt)(t:TS):Prop where
 h:lJ X st t
structure QI (X:Cx)(tg iter:Expr)(wi:TI):Prop where
 h:PI X tg iter wi
structure QG (X:Cx)(target:Expr)(t:TG):Prop where
 h:PG X target t
structure Ac (X:Cx)(ts:Lh)(t:rR):Prop where
 h:tK X ts t
structure QO (X:Cx)(e:Option Expr)(t:TO):Prop where
 h:PO X e t
structure QTs (X:Cx)(ifs:Lh)(t:TT):Prop where
 h:tH X ifs t
section
set_option autoImplicit true
set_option relaxedAutoImplicit true
theorem qP {X:Cx}(ha:QE X e te)(hr:QA X es t)(hs:SE X e es:=by rfl):QA X (e::es) (ju te t):=⟨w6 (ha:=ha.h) (hr:=hr.h) (hs:=hs)⟩
theorem zC:QA X [] iU:=⟨JP ⟩
theorem BW {j pos}(h:x=S l):QE X (.Constant (.str x) j pos) (tC (.str (S l))):=⟨BX (h:=h)⟩
theorem DH {rest:Lh}(ha:QE X a ta)(hb:QE X (.BoolOp .And (b::rest) pos) tb):QE X (.BoolOp .And (a::b::rest) pos) (AR ta tb):=⟨MJ (ha:=ha.h) (hb:=hb.h)⟩
theorem yW {X:Cx}{K:Frag}{e:Expr}{te:TE}{f:Str}{pos:Pos}(hK:X.K=K)(he:QE X e te)(hb:attributeBase e f X.env (eval e X.env)=eval e X.env:=by rfl):QE X (.Attribute e f pos) (p9 K te f):=⟨IY (hK:=hK) (he:=he.h) (hb:=hb)⟩
theorem VZ {b j pos}:QE X (.Constant (.bool b) j pos) (tC (.bl b)):=⟨ID ⟩
theorem DG {X:Cx}(hm:X.mg x=none)(hv:bootBuiltins x=some u)(r:RelV v u)(hg:Gl X x:=by rfl) (hn:x≠"__name__":=by decide) (hd:(x == ("__debug__":Str))=false:=by decide):QE X (.Name x pos) (tC v):=⟨Ls (hm:=hm) (hv:=hv) (r:=r) (hg:=hg) (hn:=hn) (hd:=hd)⟩
theorem Yv {X:Cx}{id:String}{K:Frag}(hK:X.K=K)(pa:PlainAttrs T)(slot:Slot T name id)(hty:typeOf (.builtin id)=pure (.type "method_descriptor"))(hm:oy X id r)(ho:QE X o to)
  (hbase:attributeBase o name X.env (eval o X.env)=eval o X.env:=by rfl) (hline:(apos.endLine == cpos.line)=true:=by rfl):QE X (.Call (.Attribute o name apos) [] [] cpos) (oO K T r to):=⟨N4 (hK:=hK) (pa:=pa) (slot:=slot) (hty:=hty) (hm:=hm) (ho:=ho.h) (hbase:=hbase) (hline:=hline)⟩
theorem yX {X:Cx}{id:String}{K:Frag}(hK:X.K=K)(pa:PlainAttrs T)(slot:Slot T name id)(hty:typeOf (.builtin id)=pure (.type "method_descriptor"))(hm:oy X id r)(ho:QE X o to)(ha:QA X (e::es) t)
  (hbase:attributeBase o name X.env (eval o X.env)=eval o X.env:=by rfl)
  (hfew:((backTo cpos (starEach (e::es) X.env)).all (λx=>!x.1)&&(backToKw cpos (keywordEach [] X.env)).all (λx=>x.1.isSome)
   && decide ((e::es).length+([]:List Keyword).length+(if ([]:List Keyword).isEmpty then 0 else 1)<30))=true:=by rfl)
  (hline:(apos.endLine == cpos.line)=true:=by rfl) (hs:SE X e es:=by rfl) (hplain:(backTo cpos (starEach es X.env)).any (·.1)=false:=by rfl) :
  QE X (.Call (.Attribute o name apos) (e::es) [] cpos) (t6 K T r to t):=⟨Lq (hK:=hK) (pa:=pa) (slot:=slot) (hty:=hty) (hm:=hm) (ho:=ho.h) (ha:=ha.h) (hbase:=hbase) (hfew:=hfew) (hline:=hline) (hs:=hs) (hplain:=hplain)⟩
theorem zJ {X:Cx}{id:String}(hc:jB X (.builtin id) r)(hg:Gl X x)(hm:X.mg x=none)(hv:bootBuiltins x=some (.builtin id))(ha:QA X (e::es) t)(hn:x≠"__name__":=by decide) (hdb:(x == ("__debug__":Str))=false:=by decide)
  (he:SE X e es:=by rfl) (hpl:(backTo pos (starEach es X.env)).any (·.1)=false:=by rfl):QE X (.Call (.Name x p) (e::es) [] pos) (oE r t):=⟨RB (hc:=hc) (hg:=hg) (hm:=hm) (hv:=hv) (ha:=ha.h) (hn:=hn) (hdb:=hdb) (he:=he) (hpl:=hpl)⟩
theorem PQ {X:Cx}(F:fW X.prog X.w X.K X.mg X.base k x ps sp)(hr:ib j X.A)(hk:k<=j)(ha:QA X (e::es) t)(hg:Gl X x:=by rfl) (hdb:(x == ("__debug__":Str))=false:=by decide)
  (he:SE X e es:=by rfl) (hpl:(backTo pos (starEach es X.env)).any (·.1)=false:=by rfl):QE X (.Call (.Name x p) (e::es) [] pos) (yt sp [] E0 t):=⟨RT (F:=F) (hr:=hr) (hk:=hk) (ha:=ha.h) (hg:=hg) (hdb:=hdb) (he:=he) (hpl:=hpl)⟩
theorem JX {X:Cx}(F:fW X.prog X.w X.K X.mg X.base k x ps sp)(hr:ib j X.A)(hk:k<=j)(hg:Gl X x:=by rfl) (hdb:(x == ("__debug__":Str))=false:=by decide):QE X (.Call (.Name x p) [] [] pos) (yt sp [] E0 iU):=⟨SM (F:=F) (hr:=hr) (hk:=hk) (hg:=hg) (hdb:=hdb)⟩
theorem Fg {X:Cx}(F:rY X.prog X.w X.K X.mg X.base k x ps sp)(hr:Zt j X.A)(hk:k<=j)(ha:QA X (e::es) t)(hg:Gl X x:=by rfl) (hdb:(x == ("__debug__":Str))=false:=by decide)
  (he:SE X e es:=by rfl) (hpl:(backTo pos (starEach es X.env)).any (·.1)=false:=by rfl):QE X (.Call (.Name x p) (e::es) [] pos) (yt sp [] E0 t):=⟨Pn (F:=F) (hr:=hr) (hk:=hk) (ha:=ha.h) (hg:=hg) (hdb:=hdb) (he:=he) (hpl:=hpl)⟩
theorem PN {X:Cx}(F:nJ X.prog X.w X.K X.mg X.base k x ps sp)(hr:ib j X.A)(hk:k<=j)(ha:QA X (e::es) t)(hg:Gl X x:=by rfl) (hdb:(x == ("__debug__":Str))=false:=by decide)
  (he:SE X e es:=by rfl) (hpl:(backTo pos (starEach es X.env)).any (·.1)=false:=by rfl):QE X (.Call (.Name x p) (e::es) [] pos) (yt sp [] E0 t):=⟨Pq (F:=F) (hr:=hr) (hk:=hk) (ha:=ha.h) (hg:=hg) (hdb:=hdb) (he:=he) (hpl:=hpl)⟩
theorem JY {X:Cx}(hc:jB X (.type T) r)(hg:Gl X x)(hm:X.mg x=none)(hv:bootBuiltins x=some (.type T))(ha:QA X (e::es) t)(hn:x≠"__name__":=by decide) (hdb:(x == ("__debug__":Str))=false:=by decide)
  (he:SE X e es:=by rfl) (hpl:(backTo pos (starEach es X.env)).any (·.1)=false:=by rfl):QE X (.Call (.Name x p) (e::es) [] pos) (oE r t):=⟨Sb (hc:=hc) (hg:=hg) (hm:=hm) (hv:=hv) (ha:=ha.h) (hn:=hn) (hdb:=hdb) (he:=he) (hpl:=hpl)⟩
theorem PM {X:Cx}(hf:QE X (.Name x p) tf)(hr:ib j X.A)(hk:k<=j)(ha:QA X (e::es) t)
  (he:SE X e es:=by rfl) (hpl:(backTo pos (starEach es X.env)).any (·.1)=false:=by rfl) :
  QE X (.Call (.Name x p) (e::es) [] pos) (Yt X.prog X.w X.K X.mg X.base k tf t):=⟨PU (hf:=hf.h) (hr:=hr) (hk:=hk) (ha:=ha.h) (he:=he) (hpl:=hpl)⟩
theorem Jy {X:Cx}(hx:mP X E)(F:nJ X.prog X.w X.K X.mg X.base k x ps sp)(hr:ib j X.A)(hk:k<=j)(ha:QA X (e::es) t)(hg:Gl X x:=by rfl) (hdb:(x == ("__debug__":Str))=false:=by decide)
  (he:SE X e es:=by rfl) (hpl:(backTo pos (starEach es X.env)).any (·.1)=false:=by rfl):QE X (.Call (.Name x p) (e::es) [] pos) (Yl sp E t):=⟨Pw (hx:=hx) (F:=F) (hr:=hr) (hk:=hk) (ha:=ha.h) (hg:=hg) (hdb:=hdb) (he:=he) (hpl:=hpl)⟩
theorem qo {X:Cx}(h:X.mg x=some (.ref a))(hg:Gl X x:=by rfl) (hd:(x == ("__debug__":Str))=false:=by decide):QE X (.Name x pos) (tC (.ref a)):=⟨IW (h:=h) (hg:=hg) (hd:=hd)⟩
theorem N3 (ho:iM X (compareOp op) r)(ha:QE X a ta)(hb:QE X b tb)(hm:behindInMarks op b=false):QE X (.Compare a [op] [b] pos) (nv r ta tb):=⟨Pe (ho:=ho) (ha:=ha.h) (hb:=hb.h) (hm:=hm)⟩
theorem jC {X:Cx}(h:∃ u,X.mg x=some u/\RelV v u)(hg:Gl X x:=by rfl) (hd:(x == ("__debug__":Str))=false:=by decide):QE X (.Name x pos) (tC v):=⟨FZ (h:=h) (hg:=hg) (hd:=hd)⟩
theorem xf (hc:QT X c tA)(ha:QE X a ta)(hb:QE X b tb):QE X (.IfExp c a b pos) (BD tA ta tb):=⟨RP (hc:=hc.h) (ha:=ha.h) (hb:=hb.h)⟩
theorem ze {i j pos}:QE X (.Constant (.int i) j pos) (tC (.int i)):=⟨DV ⟩
theorem V0 (hr:nR X r)(ha:QE X a ta)(hb:QE X b tb)(hs:W0 b):QE X (.Subscript a b pos) (nv r ta tb):=⟨F4 (hr:=hr) (ha:=ha.h) (hb:=hb.h) (hs:=hs)⟩
theorem N2 {X:Cx}(hm:∃ a,X.mg x=some (.ref a)/\sj X.w X.K a kvs)(he:QE X e ty)(hg:Gl X x:=by rfl) (hd:(x == ("__debug__":Str))=false:=by decide)
  (hbase:attributeBase (.Name x p) "get" X.env (eval (.Name x p) X.env)=eval (.Name x p) X.env:=by rfl)
  (hfew:((backTo cpos (starEach [e] X.env)).all (λx=>!x.1)&&(backToKw cpos (keywordEach [] X.env)).all (λx=>x.1.isSome)
   && decide (([e]:Lh).length+([]:List Keyword).length+(if ([]:List Keyword).isEmpty then 0 else 1)<30))=true:=by rfl)
  (hline:(apos.endLine == cpos.line)=true:=by rfl) (htr:backTo cpos (starEach [e] X.env)=[(false,eval e X.env)]:=by rfl) :
  QE X (.Call (.Attribute (.Name x p) "get" apos) [e] [] cpos) (AY kvs ty):=⟨N6 (hm:=hm) (he:=he.h) (hg:=hg) (hd:=hd) (hbase:=hbase) (hfew:=hfew) (hline:=hline) (htr:=htr)⟩
theorem zl (h:QA X es t):QE X (.List es pos) (pZ t):=⟨M4 (h:=h.h)⟩
theorem zH {j pos}:QE X (.Constant .none j pos) (tC .non):=⟨MP ⟩
theorem DF {op}(h:QE X a t):QE X (.BoolOp op [a] pos) t:=⟨MK (h:=h.h)⟩
theorem zr (ho:iM X (binaryOp op) r)(ha:QE X a ta)(hb:QE X b tb):QE X (.BinOp a op b pos) (nv r ta tb):=⟨Hk (ho:=ho) (ha:=ha.h) (hb:=hb.h)⟩
theorem Ff {X:Cx}{lo hi:Option Expr}{r:V->Option Int->Option Int->Hp->VK->Prop}(hr:pP X r)(he:QE X e te)(hl:QO X lo tl)(hu:QO X hi th):QE X (.Subscript e (.Slice lo hi none p2) pos) (BA r te tl th):=⟨Rz (hr:=hr) (he:=he.h) (hl:=hl.h) (hu:=hu.h)⟩
theorem zh {x1}(h:QA X es t):QE X (.Tuple es x1 pos) (pV t):=⟨M5 (h:=h.h)⟩
theorem V1 (ho:Aa X (unaryOp op) r)(ha:QE X a ta):QE X (.UnaryOp op a pos) (By r ta):=⟨C9 (ho:=ho) (ha:=ha.h)⟩
theorem N1 {X:Cx}(hN:X.N.Nodup)(hi:X.N[i]? = some x)(hx:Loc X.env.scope x)(hf:X.fn x=true\/X.env.scope.names.lookup x=some .local:=by first | exact .inl rfl | exact .inr rfl | assumption):QG X (.Name x pos) (xD i):=⟨Ez (hN:=hN) (hi:=hi) (hx:=hx) (hf:=hf)⟩
theorem yY {X:Cx}(hc:X.calm=true)(h:Ac X es t)
  (hn:(assignEach es X.env).length=n:=by rfl) (hst:(assignEach es X.env).findIdx? (·.1)=none:=by rfl):QG X (.Tuple es k pos) (pf X.K n t):=⟨Nd (hc:=hc) (h:=h.h) (hn:=hn) (hst:=hst)⟩
theorem zO {X:Cx}(h1:QG X e t)(h2:Ac X es u)
  (hs:(assignEach (e::es) X.env).map (·.2)=assign e X.env::(assignEach es X.env).map (·.2):=by rfl):Ac X (e::es) (VD t u):=⟨RM (h1:=h1.h) (h2:=h2.h) (hs:=hs)⟩
theorem xR:Ac X [] ph:=⟨Ph ⟩
theorem PL {X:Cx}{elts:Lh}{epos:Pos}(hg:Gl X "enumerate")(hm:X.mg "enumerate" = none)(ha:QA X [a] ta)(hs:starEach [a] X.env=[(false,eval a X.env)]:=by rfl) :
  QI X (.Tuple elts ek epos) (.Call (.Name "enumerate" p) [a] [] pos) (Yn ta):=⟨Pp (hg:=hg) (hm:=hm) (ha:=ha.h) (hs:=hs)⟩
theorem xg {X:Cx}{K:Frag}{tg l:Expr}{tl:TE}(hK:X.K=K)(hl:QE X l tl):QI X tg l (Kw K tl):=⟨PC (hK:=hK) (hl:=hl.h)⟩
theorem V2 {X:Cx}(hg:Gl X "range")(hm:X.mg "range" = none)(ha:QA X [a] ta)(hs:starEach [a] X.env=[(false,eval a X.env)]:=by rfl):QI X tg (.Call (.Name "range" p) [a] [] pos) (AQ ta):=⟨Sj (hg:=hg) (hm:=hm) (ha:=ha.h) (hs:=hs)⟩
theorem L7 (hl:QE X l tl):QI X tg l (rD tl):=⟨Lx (hl:=hl.h)⟩
theorem EV:QO X none WZ:=⟨NI ⟩
theorem Er (h:QE X e te):QO X (some e) (AW te):=⟨ER (h:=h.h)⟩
theorem kL {X:Cx}(he:QE X e te)(hg:QG X tg g)(hs:swapsWithSole [tg] e pos.line X.env=pure false:=by rfl) (hw:swappedStores [tg] e X.env=pure none:=by rfl)
  (h1:(assignEach [tg] X.env).map (·.2)=[assign tg X.env]:=by rfl):QS X (.Assign [tg] e pos) (mW te g):=⟨Nb (he:=he.h) (hg:=hg.h) (hs:=hs) (hw:=hw) (h1:=h1)⟩
theorem xS {X:Cx}(he:QE X e te)(hs:swapsWith e none pos.line X.env=pure false:=by rfl):QS X (.Expr e pos) (WD te):=⟨Z7 (he:=he.h) (hs:=hs)⟩
theorem vB {X:Cx}{iter:Expr}{body:List Stmt}(hp:PassesOwn (model X.prog X.w) X.A X.env X.xe)(hc:X.calm=true)(hi:QI X tg iter wi)(hg:QG X tg g)(hb:nP X body tb)
  (hs:∀ x,foldedSetIterable iter X.env x=pure x:=by intro _;rfl):QS X (.For tg iter body [] pos) (p7 wi g tb):=⟨M9 (hp:=hp) (hc:=hc) (hi:=hi.h) (hg:=hg.h) (hb:=hb.h) (hs:=hs)⟩
theorem zm (hc:QT X c tc)(ha:nP X a t)(hb:nP X b u):QS X (.If c a b pos) (ny tc t u):=⟨Hl (hc:=hc.h) (ha:=ha.h) (hb:=hb.h)⟩
theorem PK {X:Cx}{st:Stmt}:QS X st V6:=⟨RN ⟩
theorem PJ {X:Cx}(hx:mP X E)(R:Ai X.prog X.w X.K X.mg X.base x C f pay)(hr:ib j X.A)(hj:2<=j)(ha:QA X (e::es) t)(hg:Gl X x:=by rfl) (hdb:(x == ("__debug__":Str))=false:=by decide)
  (he:SE X e es:=by rfl) (hpl:(backTo cpos (starEach es X.env)).any (·.1)=false:=by rfl) :
  QS X (.Raise (some (.Call (.Name x np) (e::es) [] cpos)) none pos) (Ym C f pay E t):=⟨Pu (hx:=hx) (R:=R) (hr:=hr) (hj:=hj) (ha:=ha.h) (hg:=hg) (hdb:=hdb) (he:=he) (hpl:=hpl)⟩
theorem zg (he:QE X e te):QS X (.Return (some e) pos) (pX te):=⟨MI (he:=he.h)⟩
theorem L6 {X:Cx}{pos':Pos}(hN:X.N.Nodup)(hi:X.N[i]? = some x)(hx:Loc X.env.scope x)(he:QE X e te)(hs:swapsWith e (some (.Name x pos')) pos.line X.env=pure false:=by rfl) (hf:X.fn x=true\/X.env.scope.names.lookup x=some .local:=by first | exact .inl rfl | exact .inr rfl | assumption) :
  QS X (.Assign [.Name x pos'] e pos) (mW te (xD i)):=⟨Na (hN:=hN) (hi:=hi) (hx:=hx) (he:=he.h) (hs:=hs) (hf:=hf)⟩
theorem DE {X:Cx}(hm:X.mg x=some (.ref Dc))(cD:lg X.K Dc)(hN:X.N.Nodup)(hi:X.N[i]? = some n)(hl:X.env.scope.names.lookup n=some .local)(hst:X.stack=X.env::X.outer)(hf:X.env.frame=some X.env.locals)
  (hb:∀ (E:XS) (pn:Lp) (xe:fL),PassesOwn (model X.prog X.w) X.A X.env xe->mP (X.tryIn pn xe) E->nP (X.tryIn pn xe) body (tb E))
  (hh:∀ pn ea,nP (X.exIn pn ea) (b₀::suite) th) (hg:Gl X x:=by rfl) (hdb:(x == ("__debug__":Str))=false:=by decide) :
  QS X (.Try body [.ExceptHandler (some (.Name x np)) (some n) (b₀::suite) hpos] [] [] pos) (pW X.K Dc i tb th):=⟨IZ (hm:=hm) (cD:=cD) (hN:=hN) (hi:=hi) (hl:=hl) (hst:=hst) (hf:=hf) (hb:=λE pn xe a b=>(hb E pn xe a b).h) (hh:=λpn ea=>(hh pn ea).h) (hg:=hg) (hdb:=hdb)⟩
theorem PH {X:Cx}{body:List Stmt}(hp:PassesOwn (model X.prog X.w) X.A X.env X.xe)(hc:QT X c tc)(hb:nP X body tb):QS X (.While c body [] pos) (Bv tc tb):=⟨RL (hp:=hp) (hc:=hc.h) (hb:=hb.h)⟩
theorem zc {X:Cx}{rest:List Stmt}{st:Stmt}(h1:QS X st t)(h2:nP X rest u):nP X (st::rest) (iT t u):=⟨wu (h1:=h1.h) (h2:=h2.h)⟩
theorem zi:nP X [] VC:=⟨Pj ⟩
theorem zd {X:Cx}{st:Stmt}(h1:QS X st t):nP X [st] t:=⟨Z6 (h1:=h1.h)⟩
theorem N0 (ho:iM X (compareOp op) r)(ha:QE X a ta)(hb:QE X b tb)(hm:behindInMarks op b=false):QT X (.Compare a [op] [b] pos) (Kx (nv r ta tb)):=⟨Pb (ho:=ho) (ha:=ha.h) (hb:=hb.h) (hm:=hm)⟩
theorem vZ (ha:QT X a tA):QT X (.UnaryOp .Not a pos) (pY tA):=⟨ML (ha:=ha.h)⟩
theorem Qa {X:Cx}{K:Frag}(hK:X.K=K)(ha:QE X a ta)(he:∀ whole,isTrue a X.env whole=(do let v ← whole;standAt a.pos;holding [v] (truthy v)):=by intro _;rfl):QT X a (AX K ta):=⟨Rv (hK:=hK) (ha:=ha.h) (he:=he)⟩
theorem jV {X:Cx}{e:Expr}(h:QE X e t)(he:∀ whole,isTrue e X.env whole=(do let v ← whole;standAt e.pos;holding [v] (truthy v)):=by intro _;rfl):QT X e (tB t):=⟨MO (h:=h.h) (he:=he)⟩
theorem NZ:QTs X [] VN:=⟨NC ⟩
theorem qv {X:Cx}(i:Nat)(hN:X.N[i]? = some x:=by rfl) (hv:t9 X.env.scope x:=by first | exact Or.inl rfl | exact Or.inr (Or.inl rfl) | exact Or.inr (Or.inr rfl)) (hd:(x == ("__debug__":Str))=false:=by decide)
  (hcd:(x == ("__classdict__":Str))=false:=by decide):QE X (.Name x pos) (iA i):=⟨pv (i:=i) (hN:=hN) (hv:=hv) (hd:=hd) (hcd:=hcd)⟩
theorem xK {rest:Lh}(ha:QT X a tA)(hb:QW X (.BoolOp .And (b::rest) pos) tB'):QW X (.BoolOp .And (a::b::rest) pos) (rb tA tB'):=⟨MM (ha:=ha.h) (hb:=hb.h)⟩
theorem wC (ha:QT X a tA):QW X (.BoolOp .And [a] pos) tA:=⟨Pk (ha:=ha.h)⟩
theorem XH {rest:Lh}(ha:QT X a tA)(hb:QW X (.BoolOp .Or (b::rest) pos) tB'):QW X (.BoolOp .Or (a::b::rest) pos) (BB tA tB'):=⟨Hm (ha:=ha.h) (hb:=hb.h)⟩
theorem Yw (ha:QT X a tA):QW X (.BoolOp .Or [a] pos) tA:=⟨MN (ha:=ha.h)⟩
theorem QW.qt (h:QW X e t):QT X e t:=⟨h.h.pt⟩
end
set_option autoImplicit false
section
variable {X:Cx} {pins:Lp} {σ:St} {H:Hp} {s:Shared} {a b:Addr} {kvs more:List (Key×V)} {A:Around} {E:fL}
end
section
variable {X:Cx} {o e:Expr} {apos cpos:Pos} {td ty:TE}
end
structure Ab (X:Cx)(pos:Pos)(keys:List (Option Expr))(values:Lh)(trs:List (TE×TE)):Prop where
 h:tI X pos keys values trs
theorem W4 {X:Cx}{pos:Pos}:Ab X pos [] [] []:=⟨EZ⟩
theorem jL {X:Cx}{pos:Pos}{k v:Expr}{ks:List (Option Expr)}{vs:Lh}{tk tv:TE}{trs:List (TE×TE)}(hk:QE X k tk)(hv:QE X v tv)(hr:Ab X pos ks vs trs):Ab X pos (some k::ks) (v::vs) ((tk,tv)::trs):=⟨vY hk.h hv.h hr.h⟩
theorem W5 {X:Cx}{pos:Pos}{keys:List (Option Expr)}{values:Lh}{trs:List (TE×TE)}(h:Ab X pos keys values trs)(hall:keys.all (·.isSome)=true)(hl:keys.length=values.length)(h0:keys≠[]) (h15:keys.length<=15):QE X (.Dict keys values pos) (AZ trs):=⟨EY h.h hall hl h0 h15⟩
end L2
namespace L2
open PySem PySem.Spec PyProof.Rows
section
variable {X:Cx} {tg:Expr}
end
def pI (x y:Str):Str:=if y=x then Str.ofString "" else y
structure Fe (X:Cx)(x:Str)(scope:Scope):Prop where
 xN:x∉X.N.map (pI x)
 nd:(X.N.map (pI x)).Nodup
 kind:scope.kind=.function
 cell:∀ y∈scope.names,y.2≠.cell
 names:∀ y∈scope.names,y.2=.local->scope.names.lookup y.1=some .local
 var:scope.names.lookup x=some .local
 free:∀ y∈scope.names,y.2=.free->X.env.kindOf y.1=some .cell
 out:∀ y∈X.N.map (pI x),scope.names.lookup y≠some .local
 blank:scope.names.lookup (Str.ofString "")=none
 calm:X.calm=true
section
variable {X:Cx} {elt iter:Expr} {x:Str} {px pos:Pos} {ifs:Lh} {scope:Scope} {wi:TI} {tt:TT} {te:TE}
theorem Ep {l:Lj}:l.map (ly [x])=l.map (pI x):=by
 refine gi λy _=>?_;unfold ly pI;by_cases h:y=x
 ·rw [ue (uC.mpr h),ue h]
 ·rw [ub λz=>h (uC.mp z),ub h]
theorem Fe.gen (L:Fe X x scope):ZD X [x] scope:=by refine⟨?_,L.kind,L.cell,L.names,λy hy=>by rw [uC.mp hy];exact L.var,L.free,by rw [Ep];exact L.out,λ_ _ _=>L.blank,L.calm⟩;rw [Ep];exact Ug.mpr ⟨L.xN,L.nd⟩
end
section
variable {X:Cx}
end
section
variable {X:Cx}
end
def Fs:V->Option PyData
 | .non=>some .none
 | .bl b=>some (.bool b)
 | .int i=>some (.int i)
 | .str x=>some (.str x)
 | _=>none
def nX:List V->Option (List PyData)
 | []=>some []
 | v::r=>match Fs v,nX r with
  | some d,some ds=>some (d::ds)
  | _,_=>none
inductive rV (H:Hp):Addr->PyData->Prop
 | lst {a xs ds}:H a=some (.lst xs)->nX xs=some ds->rV H a (.list ds)
 | tup {a xs ds}:H a=some (.tup xs)->nX xs=some ds->rV H a (.tuple ds)
 | dct {a} {kvs:List (Key×V)} {ks vs:List PyData}:H a=some (.dK kvs)->nX (kvs.map λe=>kV e.1)=some ks->nX (kvs.map λe=>e.2)=some vs->rV H a (.dict (ks.zip vs))
theorem rV.mono (h:rV H a d)(g:fO H H'):rV H' a d:=by
 cases h with
 | lst h e=>exact .lst (g _ _ h) e
 | tup h e=>exact .tup (g _ _ h) e
 | dct h e k=>exact .dct (g _ _ h) e k
def CY (H:Hp)(x:V)(d:PyData):Prop:=Fs x=some d\/∃ a,x=.ref a/\rV H a d
theorem CY.mono (h:CY H x d)(g:fO H H'):CY H' x d:=by
 rcases h with h | ⟨a,e,h⟩
 ·exact .inl h
 ·exact .inr ⟨a,e,h.mono g⟩
section
variable {X:Cx} {a b c:Expr} {ta tb tc:TE} {pos:Pos}
end
section
variable {X:Cx}
end
def XI (h:Heap)(a l:Addr)(i:Int):Prop:=∃ o,h.get? a=some o/\o.cls=.type "reversed"/\o.data=.fields #[.ref l,rawInt i]
section
variable {prog:Program} {w:World} {A:Around} {E:fL} {s:Shared}
theorem XI.typeIs (x:XI s.heap a l i):s.TypeIs (.ref a) "reversed":=let ⟨o,ho,hc,_⟩:=x;⟨o,ho,hc⟩
theorem XI.at {h h':Heap}(x:XI h a l i)(e:∀ o,h.get? a=some o->h'.get? a=some o):XI h' a l i:=let ⟨o,ho,r⟩:=x;⟨o,e _ ho,r⟩
end
section
variable {X:Cx} {tg:Expr}
end
section
variable {X:Cx}
variable {st:Stmt} {rest:List Stmt} {t u:TS}
end
section
variable {X:Cx} {pos:Pos}
theorem DD (ho:QE X o to)(hi:QE X i ti)(hs:rW X t)
  (ha:∀ v,assign (.Subscript o i pos) X.env v=(do
   let ov ← holding [v] (eval o X.env)
   let iv ← holding [v,ov] (eval i X.env)
   standAt pos
   holding [v,ov,iv] (setItem ov iv v)
   release [v,ov,iv] [])):QG X (.Subscript o i pos) (rE to ti t):=⟨Nc (ho:=ho.h) (hi:=hi.h) (hs:=hs) (ha:=ha)⟩
end
def hide (st:Addr)(H:Hp):Hp:=λb=>if b=st then none else H b
theorem zp {st:Addr}{H:Hp}:fO (hide st H) H:=λb o h=>by
 unfold hide at h;split at h
 ·cases h
 ·exact h
theorem hide_ne {st b:Addr}{H:Hp}(h:b≠st):hide st H b=H b:=ub h
theorem W6 {st:Addr}{H:Hp}:hide st H st=none:=ue rfl
theorem zt {st:Addr}{H H':Hp}(g:fO H H'):fO (hide st H) (hide st H'):=λb o h=>by
 by_cases e:b=st
 ·rw [e,W6] at h;cases h
 ·rw [hide_ne e] at h ⊢;exact g _ _ h
def Sd (K:Lf)(st a:Addr)(ns:List Int)(H:Hp):Prop:=(∃ n:Nat,H st=some (.lst [.ref a,.int n]))/\ij K (hide st H) a (ns.map V.int)/\ns.length<=63
def Dr (st a:Addr)(H H':Hp):Prop:=fO (hide st H) (hide st H')/\∃ n:Nat,H' st=some (.lst [.ref a,.int n])
theorem Dr.trans {st a:Addr}{H H1 H2:Hp}(h:Dr st a H H1)(k:Dr st a H1 H2):Dr st a H H2:=⟨h.1.trans k.1,k.2⟩
theorem Sd.same {K:Lf}{st a:Addr}{ns:List Int}{H H':Hp}(h:Sd K st a ns H)(g:fO H H'):Dr st a H H':=by obtain⟨⟨n,hn⟩,_⟩:=h;exact⟨zt g,n,g _ _ hn⟩
theorem Sd.refl {K:Lf}{st a:Addr}{ns:List Int}{H:Hp}(h:Sd K st a ns H):Dr st a H H:=h.same (fO.refl H)
theorem Sd.put {K:Lf}{st a:Addr}{ns:List Int}{H:Hp}{n:Nat}(h:Sd K st a ns H):Dr st a H (upd H st (.lst [.ref a,.int n])):=
 ⟨λb o hb=>by
  by_cases e:b=st
  ·rw [e,W6] at hb;cases hb
  ·rw [hide_ne e] at hb ⊢;rw [zk e];exact hb,n,zb⟩
theorem Sd.ne {K:Lf}{st a p:Addr}{ns:List Int}{H:Hp}(h:Sd K st a ns H)(hp:H p=none):p≠st:=by obtain⟨⟨n,hn⟩,_⟩:=h;rintro rfl;rw [hn] at hp;cases hp
theorem Sd.new {K:Lf}{st a p:Addr}{ns:List Int}{H:Hp}{o:HO}(h:Sd K st a ns H)(hp:H p=none):Dr st a H (upd H p o)/\hide st (upd H p o) p=some o:=⟨h.same (za hp),by rw [hide_ne (h.ne hp)];exact zb⟩
theorem Vo (items:Array Value):slicePick items none none (some (-1))=items.toList.reverse.toArray:=by
 have e:sliceBounds none none (some (-1)) items.size=((items.size:Int) - 1,-1,-1):=by simp only [sliceBounds,Option.getD_some];rfl
 unfold slicePick;rw [e];congr 1
 have hc:sliceRange ((items.size:Int) - 1) (-1) (-1)=(List.range items.size).map λk=>items.size - 1 - k:=by
  unfold sliceRange;simp only [show ¬ ((-1:Int) > 0) by decide,Gh]
  have hn:(if (items.size:Int) - 1 > -1 then((items.size:Int) - 1 - -1 - -1 - 1) / (- -1) else 0).toNat=items.size:=by
   split
   ·have:((items.size:Int) - 1 - -1 - -1 - 1) / (- -1)=items.size:=by
     rw [show(- -1:Int)=1 from rfl,Int.ediv_one];lia
    rw [this];simp
   ·have:items.size=0:=by lia
    rw [this];rfl
  rw [hn];refine gi λk hk=>?_;have:=Gd.mp hk;lia
 rw [hc];clear hc e;obtain⟨xs⟩:=items;simp only [uh,List.getElem?_toArray];rw [List.filterMap_map]
 have:∀ (n:Nat) (hn:n<=xs.length),(List.range n).filterMap (λk=>xs[xs.length - 1 - k]?)=(xs.drop (xs.length - n)).reverse:=by
  intro n
  induction n with
  | zero=>intro _;simp
  | succ n ih=>
   intro hn;rw [List.range_succ,List.filterMap_append,ih (by lia)];have hlt:xs.length - 1 - n<xs.length:=by lia
   have hd:xs.drop (xs.length - (n+1))=xs[xs.length - 1 - n]::xs.drop (xs.length - n):=by rw [show xs.length - (n+1)=xs.length - 1 - n by lia,uV hlt,show xs.length - 1 - n+1=xs.length - n by lia]
   rw [hd,Ul];congr 1;simp [ux hlt]
 have h:=this xs.length (ui _);simp only [Nat.sub_self,UR] at h;exact h
section
variable {X:Cx} {e:Expr} {te:TE} {pos p2:Pos} {K:Lf}
def AO (K:Lf)(te:TE):TE:=λσ H Q=>te σ H λx H1=>∃ a xs,x=.ref a/\ij K H1 a xs/\∀ p,H1 p=none->Q (.ref p) (upd H1 p (.lst xs.reverse))
theorem PF {xs:List V}{us:Lg}(h:Vals xs us):Vals xs.reverse us.reverse:=by
 induction h with
 | nil=>exact .nil
 | cons r _ ih=>rw [Ul,Ul];exact ih.append (.cons r .nil)
theorem NY {st:Expr}(he:PE X e te)(hst:PO X (some st) (λ_ H Q=>Q (some (-1)) H)):PE X (.Subscript e (.Slice none none (some st) p2) pos) (AO X.K te):=by intro pins s σ H Q I h;refine Subscript_ (ik (he pins s σ H _ I h) λv s1 zq=>?_);obtain⟨x,H1,I1,r1,q1⟩:=zq;obtain⟨a,xs,rfl,hx,q⟩:=q1;refine wpAny_Slice ?_;rw [Gp];refine ud (ud (ik (hst pins s1 σ H1 (λo H'=>o=some (-1)/\H' = H1) I1 ⟨rfl,rfl⟩) λvs s3 zq=>?_));obtain⟨o,H3,I3,ps,hq⟩:=zq;obtain⟨rfl,rfl⟩:=hq;have I4:Inv X pins σ H3 { s3 with heap:=s3.heap.push { cls:=.type "slice",data:=.fields #[.none,.none,vs] } }:=I3.kept (t':=s3.toks) λb ob q=>uf _ q;cases r1;obtain⟨fX,r,ht,hz⟩:=I4.list hx;have hlen:=r.length;show fN X (subscriptTail e (.Slice none none (some st) p2) (.ref a) (.ref s3.heap.objs.size)) (EP X pins σ Q) X.xe { s3 with heap:=s3.heap.push { cls:=.type "slice",data:=.fields #[.none,.none,vs] } };refine g9 (ops:=[.ref a,.ref s3.heap.objs.size]) ht.isList.typeIs PySem.F.slot_list_getitem.lookup ?_ (by with_unfolding_all rfl);refine wpAny_getItem_list_slice ht.isList (hV ..) .none .none ps (by simp) ?_ (by rw [uh]<;>lia);rw [Vo];refine⟨.ref _,_,I4.laid (t':=s3.toks) (o:=.lst xs.reverse) (λb ob q=>uf _ q) (ui _) ?_,rfl,q _ (I4.hok.fresh (ui _))⟩;exact⟨by rw [UK];exact hz,_,0,PF r,uB _ rfl⟩
theorem FT {j p3 p4}:PO X (some (.UnaryOp .USub (.Constant (.int 1) j p3) p4)) (λ_ H Q=>Q (some (-1)) H):=λpins s σ H Q I h=>ER (C9 Qu DV) pins s σ H Q I ⟨1,rfl,-1,rfl,h⟩
theorem W7 {j p3 p4}(hK:X.K=K)(he:QE X e te):QE X (.Subscript e (.Slice none none (some (.UnaryOp .USub (.Constant (.int 1) j p3) p4)) p2) pos) (AO K te):=⟨by subst hK;exact NY he.h FT⟩
theorem Jz {o f i:Expr}{apos cpos:Pos}{td ty tx:TE}(hu:X.A.units+1<cLine)(ho:QE X o td)(he:QE X i ty)(hf:QE X f tx)(m:M2 X o "get" apos i f cpos):QE X (.Call (.Attribute o "get" apos) [i,f] [] cpos) (Ys td ty tx):=⟨PX hu ho.h he.h hf.h m⟩
theorem PD:QS X (.Break pos) V5:=⟨RO⟩
end
variable {X:Cx}
end L2
namespace L2
open PySem PySem.Spec PySem.Calls PyProof.Rows PySem.W Builtin Builtin.ObjectAttr
section
variable {prog:Program} {w:World} {A:Around} {E:fL} {K:Frag} {C:Addr}
end
section
variable {X:Cx} {E:XS} {C:Addr} {x:Str} {e:Expr} {es:Lh} {t:TA} {np cpos pos:Pos} {j:Nat}
end
structure r8 (K:Frag)(H:Hp)(a C:Addr)(fs:List (Str×V)):Prop where
 cl:lg K C
 ex:(∃ d,yU H a C (some d)/\H d=some (.xd fs))\/(fs=[]/\yU H a C none)
theorem r8.mono {K:Frag}{H H':Hp}{a C:Addr}{fs:List (Str×V)}(g:r8 K H a C fs)(s:fO H H'):r8 K H' a C fs:= ⟨g.cl,g.ex.imp (λ⟨d,c,e⟩=>⟨d,c.mono s,s _ _ e⟩) λ⟨e,c⟩=>⟨e,c.mono s⟩⟩
section
variable {X:Cx} {pins:Lp} {σ:St} {H:Hp} {s:Shared} {a C:Addr} {fs:List (Str×V)}
end
end L2
namespace L2
open PySem PySem.Spec PySem.Calls PyProof.Rows PySem.W
section
variable {prog:Program} {w:World} {A:Around} {R:Result->Shared->Prop} {I d:Addr} {fp wr:Le} {n:Nat} {P:Nat->Value->Prop} {St:Nat->Heap->Prop} {K:Type} [DecidableEq K] {knd:KeyKind prog w K}
end
section
variable {X:Cx} {pins:Lp} {σ:L2.St} {H:Hp} {s:Shared}
end
section
variable {X:Cx} {pins:Lp} {σ:L2.St} {H:Hp} {s:Shared}
end
section
variable {P:Program} {w:World} {A:Around} {s:Shared} {a b:Addr} {xs ys:Array Value} {R:Result->Shared->Prop}
end
section
variable {X:Cx} {pins:Lp} {σ:L2.St} {H:Hp} {s:Shared}
end
section
variable {X:Cx}
end
section
variable {X:Cx} {k j:Nat} {o i:Expr} {p pos:Pos} {e:Expr} {es:Lh} {tf:TE} {t:TA} {E:XS}
end
section
variable {X:Cx} {e:Expr} {te:TE}
end
section
variable {X:Cx} {elt iter:Expr} {x:Str} {px pos:Pos} {ifs:Lh} {scope:Scope} {wi:TI} {tt:TT} {te:TE}
end
def E5 (K:Frag):List V->Hp->VK->Prop:=λxs H Q=>∃ p ys,xs=[.ref p]/\ij K H p ys/\∀ l,H l=none->Q (.ref l) (upd H l (.lst ys))
theorem Tf {X:Cx}{K:Frag}(hK:X.K=K):jB X (.type "list") (E5 K):=by subst hK;intro pins s σ H xs us Q I r h;obtain⟨p,ys,e,h1,h2⟩:=h;exact Ye pins s σ H xs us Q I r ⟨p,ys,e,.inl h1,h2⟩
structure iP (P:Program)(w:World)(K:Frag)(mg:La)(base:Heap)(k:Nat)(C:Addr)(m:Str)(ps:Lj)(sp:Sp):Prop where
 ex:∃ (f:Addr) (fd:FuncData),mB K C/\Meth K C m f/\Binds K fd ps []/\iD P w K mg base (mV P w) k f fd ps sp
structure pR (P:Program)(w:World)(K:Frag)(mg:La)(base:Heap)(k:Nat)(C:Addr)(x:Str)(ps:Lj)(sp:Sp):Prop where
 ex:∃ (f:Addr) (fd:FuncData),Mk K C f/\Binds K fd ps []/\mg x=some (.ref C)/\iD P w K mg base (mV P w) k f fd ps sp
structure Dm (K:Frag)(C:Addr)(m qual:Str)(st:Stmt)(ps:Lj):Prop where
 ex:∃ (f:Addr) (fd:FuncData),oB K m qual st f fd/\Binds K fd ps []/\mB K C/\Meth K C m f
structure Dc (K:Frag)(mg:La)(C:Addr)(x qual:Str)(st:Stmt)(ps:Lj):Prop where
 ex:∃ (f:Addr) (fd:FuncData),oB K "__init__" qual st f fd/\Binds K fd ps []/\Mk K C f/\mg x=some (.ref C)
section
variable {P:Program} {w:World} {K:Frag} {mg:La} {base:Heap} {k j:Nat} {C:Addr} {m x qual:Str} {st:Stmt} {ps N:Lj} {sp sp':Sp}
theorem iP.mono (F:iP P w K mg base j C m ps sp)(h:j<=k):iP P w K mg base k C m ps sp:=by obtain⟨f,fd,c,hm,b,G⟩:=F.ex;exact⟨f,fd,c,hm,b,G.mono h⟩
theorem iP.imp (F:iP P w K mg base k C m ps sp)(h:∀ vs H Q E,sp' vs H Q E->sp vs H Q E):iP P w K mg base k C m ps sp':=by obtain⟨f,fd,c,hm,b,G⟩:=F.ex;exact⟨f,fd,c,hm,b,G.imp h⟩
theorem Dm.ok (D:Dm K C m qual st ps)(Sc:zj N ps (zf st))(len:∀ vs H Q E,sp vs H Q E->vs.length=ps.length) (hbody:∀ (f:Addr) (cdv:Value) (A:Around) (outer:List Env) (s:Shared) (H:Hp) (vs:List V) (Q:VK) (E:XK),ib k (A.deeper (envOfC qual (zf st) s.heap.objs.size f cdv))->sp vs H Q E -> ∃ t,lJ (iK (mV P w) P w K mg base N qual (zf st) f cdv A outer s H E) (zV st) t/\t { nx:=λ_ H'=>Q .non H',rt:=Q } (start N vs) H):iP P w K mg base (k+1) C m ps sp:=by obtain⟨f,fd,F,b,cl,hm⟩:=D.ex;refine⟨f,fd,cl,hm,b,?_⟩;obtain⟨oc,od,kV,doc,pm,an,cdv,ct,osl,rfl,lk,hcd⟩:=F.ex;exact tY lk hcd Sc len λA outer s H vs Q E hr h=>hbody f cdv A outer s H vs Q E hr h
theorem Dc.ok (D:Dc K mg C x qual st ps)(Sc:zj N ps (zf st))(len:∀ vs H Q E,sp vs H Q E->vs.length=ps.length) (hbody:∀ (f:Addr) (cdv:Value) (A:Around) (outer:List Env) (s:Shared) (H:Hp) (vs:List V) (Q:VK) (E:XK),ib k (A.deeper (envOfC qual (zf st) s.heap.objs.size f cdv))->sp vs H Q E -> ∃ t,lJ (iK (mV P w) P w K mg base N qual (zf st) f cdv A outer s H E) (zV st) t/\t { nx:=λ_ H'=>Q .non H',rt:=Q } (start N vs) H):pR P w K mg base (k+1) C x ps sp:=by obtain⟨f,fd,F,b,M,hm⟩:=D.ex;refine⟨f,fd,M,b,hm,?_⟩;obtain⟨oc,od,kV,doc,pm,an,cdv,ct,osl,rfl,lk,hcd⟩:=F.ex;exact tY lk hcd Sc len λA outer s H vs Q E hr h=>hbody f cdv A outer s H vs Q E hr h
end
section
variable {X:Cx} {K:Frag} {k j:Nat} {C:Addr} {x m f:Str} {ps:Lj} {sp:Sp} {p pos apos pos':Pos} {e o value:Expr} {es:Lh} {to ta tv:TE} {t:TA} {E:XS}
theorem qX (hK:X.K=K)(he:QE X e ta)(hb:attributeBase e f X.env (eval e X.env)=eval e X.env:=by rfl):QE X (.Attribute e f pos) (p8 K ta f):=⟨by subst hK;exact M7 he.h hb⟩
theorem JZ (hK:X.K=K)(ha:QE X o ta)(hv:QE X value tv)(hs:swapsWith value (some (.Attribute o f pos')) pos.line X.env=pure false:=by rfl):QS X (.Assign [.Attribute o f pos'] value pos) (rf K ta tv f):=⟨by subst hK;exact M6 ha.h hv.h hs⟩
theorem vd (F:iP X.prog X.w X.K X.mg X.base k C m ps sp)(hr:ib j X.A)(hk:k<=j)(ho:QE X o to)(ha:QA X (e::es) t)
  (hst:SE X e es:=by rfl) (hpl:(backTo pos (starEach es X.env)).any (·.1)=false:=by rfl)
  (ht:eval (.Call (.Attribute o m apos) (e::es) [] pos) X.env=(do
   let ov ← eval o X.env
   standAt apos.atName
   let (f,first) ← holding [ov] (getMethod ov m pl)
   callWith pos f first (backTo pos (starEach (e::es) X.env)) (backToKw pos (keywordEach [] X.env))):=by rfl) :
  QE X (.Call (.Attribute o m apos) (e::es) [] pos) (Jj C m sp [] E0 to t):=by
 obtain⟨f,fd,cl,hm,b,G⟩:=F.ex
 exact⟨O9 ho.h cl hm G (hr.mono hk) b .nil KQ ha.h hst hpl ht⟩
theorem wW (F:iP X.prog X.w X.K X.mg X.base k C m ps sp)(hr:ib j X.A)(hk:k<=j)(ho:QE X o to)
  (ht:eval (.Call (.Attribute o m apos) [] [] pos) X.env=(do
   let ov ← eval o X.env
   standAt apos.atName
   let (f,first) ← holding [ov] (getMethod ov m pl)
   callWith pos f first (backTo pos (starEach [] X.env)) (backToKw pos (keywordEach [] X.env))):=by rfl) :
  QE X (.Call (.Attribute o m apos) [] [] pos) (Jj C m sp [] E0 to iU):=by
 obtain⟨f,fd,cl,hm,b,G⟩:=F.ex
 exact⟨RD ho.h cl hm G (hr.mono hk) b .nil KQ ht⟩
theorem JA (F:pR X.prog X.w X.K X.mg X.base k C x ps sp)(hr:ib j X.A)(hk:k+1<=j)(ha:QA X (e::es) t)(hg:Gl X x:=by rfl) (hdb:(x == ("__debug__":Str))=false:=by decide) (he:SE X e es:=by rfl) (hpl:(backTo pos (starEach es X.env)).any (·.1)=false:=by rfl):QE X (.Call (.Name x p) (e::es) [] pos) (Ky C sp [] E0 t):=by obtain⟨f,fd,M,b,hm,G⟩:=F.ex;exact⟨O8 M G (hr.mono hk) hg hm b .nil KQ ha.h hdb he hpl⟩
def E4 (C:Addr)(m:Str)(sp:Sp)(E:XS)(ta:TE)(t:TA):TE:=λσ H Q=>ta σ H λx H1=>∃ a dx fs,x=.ref a/\H1 a=some (.ins C dx fs)/\fs.lookup m=none/\t σ H1 λvs H2=>sp (x::vs) H2 Q λc d H'=>E c d σ H'
theorem jW (hx:mP X E)(F:iP X.prog X.w X.K X.mg X.base k C m ps sp)(hr:ib j X.A)(hk:k<=j)(ho:QE X o to)(ha:QA X (e::es) t)
  (hst:SE X e es:=by rfl) (hpl:(backTo pos (starEach es X.env)).any (·.1)=false:=by rfl)
  (ht:eval (.Call (.Attribute o m apos) (e::es) [] pos) X.env=(do
   let ov ← eval o X.env
   standAt apos.atName
   let (f,first) ← holding [ov] (getMethod ov m pl)
   callWith pos f first (backTo pos (starEach (e::es) X.env)) (backToKw pos (keywordEach [] X.env))):=by rfl) :
  QE X (.Call (.Attribute o m apos) (e::es) [] pos) (E4 C m sp E to t):=by
 refine⟨λpins s σ H Q I h=>?_⟩
 obtain⟨f,fd,cl,hm,b,G⟩:=F.ex
 refine UP (pl:=pl) (ik (ho.h pins s σ H _ I h) λu s1 zq=>?_) ht
 obtain⟨x,H1,I1,rx,a,dx,fs,ex,ea,l,q⟩:=zq
 subst ex
 obtain rfl:u=Value.ref a:=rx
 refine kE I1 ea cl hm l ?_
 refine Ui (first:=[.ref a]) (h₀:=X.base) I.ok.mod.kin hm.kp (ik (ha.h pos pins s1 σ H1 _ I1 q) λus s2 ⟨vs,H2,I2,r,q2⟩=>⟨I2.kIn,?_⟩) hst hpl
 exact EJ (us:=.ref a::us) (vs:=.ref a::vs) G (hr.mono hk) b hx I2 (.cons rfl r) q2
end
structure jQ (k:Nat)(A:Around):Prop where
 dp:A.depth+3 * k+5<recursionLimit
 un:A.units+16 * k+200<cLine
 gd:A.guards=some []
theorem ib.n (r:ib k A):jQ k A:=⟨r.dp,r.un,r.gd⟩
theorem jQ.mono (r:jQ k A)(h:j<=k):jQ j A:=⟨by have:=r.dp;lia,by have:=r.un;lia,r.gd⟩
theorem jQ.deeper {A:Around}(r:jQ (k+1) A)(env:Env):jQ k (A.deeper env):=
 ⟨by have:=r.dp;show A.depth+1+3 * k+5<_;lia,by have:=r.un;show A.units+3+16 * k+200<_;lia,r.gd⟩
theorem jQ.depth {A:Around}(r:jQ k A):A.depth<recursionLimit:=by have:=r.dp;lia
structure WN (P:Program)(w:World)(K:Lf)(mg:La)(base:Heap)(CX:ma)(k:Nat)(f:Addr)(fd:FuncData)(ps:Lj)(sp:Sp):Prop where
 len:∀ vs H Q E,sp vs H Q E->vs.length=ps.length
 run:∀ (A:Around) (outer:List Env) (s:Shared) (H:Hp) (args:Args) (us:Lg) (vs:List V) (Q:VK) (E:XK),jQ k A->lL P w K mg base A outer s H->BindsTo s fd args (ps.zip us)->Vals vs us->sp vs H Q E ->
  codeAny (model P w) A (.call (.ref f) args) (CR CX outer P w H s Q E) s
theorem WN.ok {P:Program}{w:World}{K:Lf}{mg:La}{base:Heap}{CX:ma}{k:Nat}{f:Addr}{fd:FuncData}{ps:Lj}{sp:Sp}(F:WN P w K mg base CX k f fd ps sp):iD P w K mg base CX k f fd ps sp:=⟨F.len,λA outer s H args us vs Q E hr=>F.run A outer s H args us vs Q E hr.n⟩
abbrev XJ (CX:ma)(P:Program)(w:World)(K:Lf)(mg:La)(base:Heap)(N:Lj)(qual:Str)(scope:Scope)(f:Addr)(cd:Value)(A:Around)(outer:List Env)(s:Shared)(H:Hp)(E:XK):Cx:={ iK CX P w K mg base N qual scope f cd A outer s H E with calm:=false }
theorem Te {CX:ma}{P:Program}{w:World}{K:Lf}{mg:La}{base:Heap}{N ps:Lj}{qual:Str}{scope:Scope}{f:Addr}{cd:Value}{A:Around}{outer:List Env}{s s1:Shared}{H:Hp}{E:XK}{us:Lg}{vs:List V} (S:zj N ps scope) (e0:lL P w K mg base A outer s H) (hl:vs.length=ps.length) (r:Vals vs us) (x:InCallC s s.heap.objs.size (bindL (envOfC qual scope s.heap.objs.size f cd).kindOf (ps.zip us) λ_=>none) (cellsFrom (s.heap.objs.size+1) scope.names []) (bindC (envOfC qual scope s.heap.objs.size f cd).kindOf (ps.zip us) λ_=>none) s1) : Inv (XJ CX P w K mg base N qual scope f cd A outer s H E) [] (start N vs) H s1:=by
 have hpl:ps.length<=N.length:=by have:=congrArg List.length S.pre;rw [Uq] at this;lia
 obtain⟨h1,tk,rfl,hk⟩:=x.done;have noA:∀ b:Addr,b∉(XJ CX P w K mg base N qual scope f cd A outer s H E).ex:=λb z=>absurd (show b∈([]:Le) from z) (by simp)
 refine⟨⟨e0.mod,S.kind,rfl,rfl,ui _,λy z c h1 h2=>?_,λy hy=>?_,λy c _ h=>?_,λz=>absurd (show false=true from z) (by decide),Around.frames_deeper e0.frames,.inr ⟨rfl,rfl⟩,λb z=>absurd z (noA b),e0.bs,e0.bsz,λb _ _=>noA b,λb z=>absurd z (noA b),e0.funs,e0.frf⟩,
  rfl,e0.bare,Un.kept hk,⟨_,x.toInCall.ns,λi y v h1 h2 h3=>?_⟩,λy c h=>⟨_,x.cell y c h⟩,e0.hok.fresh (ui _),λy c h=>?_,λp hp=>absurd (show p∈([]:Lp) from hp) (by simp),e0.hok.kept hk,?_⟩
 ·exact name_of_addr x.apart (uO h1) (uO h2)
 ·have hy:scope.names.lookup y=some .cell\/scope.names.lookup y=some .free:=hy;rcases hy with hy | hy
  ·exact Jk hy
  ·exact absurd rfl (S.nofree _ (uO hy))
 ·exact gP (x.above y c (uO h))
 ·have hi:i<vs.length:=by
   unfold start at h2
   by_cases hi:i<vs.length
   ·exact hi
   ·rw [UB (by simpa using hi)] at h2
    rw [gI] at h2
    split at h2<;>cases h2
  have ha:vs[i]? = some v:=by
   unfold start at h2
   rw [UD (by simpa using hi),Uk] at h2
   cases e:vs[i]? with
   | none=>rw [e] at h2;cases h2
   | some a=>rw [e] at h2;cases h2;rfl
  obtain⟨u,hu,rv⟩:=r.get ha
  have hp:ps[i]? = some y:=by
   rw [← S.pre,hJ (by lia)];exact h1
  have ndP:ps.Nodup:=by rw [← S.pre];exact S.nd.sublist (List.take_sublist _ _)
  refine⟨u,rv,?_⟩
  rcases S.par y (uP hp) with k | k
  ·exact .inl ⟨k,JQ ndP hp hu k⟩
  ·obtain⟨c,e⟩:=Jk (n:=s.heap.objs.size+1) k
   refine .inr ⟨.inl k,c,e,?_⟩
   have q:=x.cell y c e
   rw [JR ndP hp hu (by show scope.names.lookup y≠_;rw [k];decide)] at q
   exact q
 ·exact e0.hok.fresh (gP (x.above y c (uO h)))
 ·unfold start;show _=N.length;rw [uc,uk,Uo];lia
theorem DC {CX:ma}{P:Program}{w:World}{K:Lf}{mg:La}{base:Heap}{k:Nat}{f:Addr}{name qual:Str}{params:Arguments}{body:List Stmt}{scope:Scope}{dV kV doc pm cdv ct oc:Value}{an od:Option Addr} {osl:Array (Option Value)} {N ps:Lj} {sp:Sp} (lk:K.lookup f=some ⟨oc,od,.func (PySem.W.fnOf name qual params body scope dV kV doc pm an cdv ct),osl⟩) (hcd:PySem.W.codeIn K cdv qual=true) (S:zj N ps scope) (len:∀ vs H Q E,sp vs H Q E->vs.length=ps.length) (hbody:∀ (A:Around) (outer:List Env) (s:Shared) (H:Hp) (vs:List V) (Q:VK) (E:XK),jQ k (A.deeper (envOfC qual scope s.heap.objs.size f cdv))->sp vs H Q E -> ∃ t,lJ (XJ CX P w K mg base N qual scope f cdv A outer s H E) body t/\t { nx:=λ_ H'=>Q .non H',rt:=Q } (start N vs) H) : WN P w K mg base CX (k+1) f (PySem.W.fnOf name qual params body scope dV kV doc pm an cdv ct) ps sp:=by
 refine⟨len,λA outer s H args us vs Q E hr e0 hb r hsp=>?_⟩;have hl:=len _ _ _ _ hsp;have KX:K.In s.heap:=e0.mod.kin.keeps λb o e=>(e0.bs b o e).1;have lim:s.heap.NoLimit:=e0.mod.nolimit.keeps λb o e=>(e0.bs b o e).1
 have hkind:∀ y∈ps.zip us,scope.names.lookup y.1=some .local\/(scope.names.lookup y.1=some .cell/\((cellsFrom (s.heap.objs.size+1) scope.names []).lookup y.1).isSome=true):=λ⟨n,v⟩ hy=>by
  rcases S.par n (gf hy).1 with q | q
  ·exact .inl q
  ·exact .inr ⟨q,U3 _ _ _ (.inl q)⟩
 refine gj hr.depth (KX _ _ lk) rfl S.co S.gen rfl (Gx KX hcd) (hb _ _ _ _ ?_);refine U4 S.kind hkind λenv he s1 x=>?_;subst he;refine⟨lim.keeps x.toInCall.keep,Gy ?_⟩;obtain⟨t,ht,hq⟩:=hbody A outer s H vs Q E (hr.deeper _) hsp;have I:Inv (XJ CX P w K mg base N qual scope f cdv A outer s H E) [] (start N vs) H s1:=Te S e0 hl r x;refine um (ht [] s1 (start N vs) H _ I hq) (λfl s' hs=>?_) λe s' hs=>hs
 have fin:∀ {σ':St} {H':Hp} {v:V} {u:Value},Inv (XJ CX P w K mg base N qual scope f cdv A outer s H E) [] σ' H' s'->RelV v u->Q v H'->CE outer P w H s Q u s':=
  λ{σ' H' v u} J rv q=>⟨v,H',J.os,J.bare,J.base,J.hok,rv,q⟩
 cases fl with
 | ret u=>obtain⟨v,σ',H',J,rv,q⟩:=hs;exact fin J rv q
 | next=>obtain⟨σ',H',J,q⟩:=hs;exact fin (v:=V.non) (u:=Value.none) J rfl q
 | brk=>obtain⟨_,_,_,q⟩:=hs;exact False.elim q
 | cont=>obtain⟨_,_,_,q⟩:=hs;exact False.elim q
section
variable {X:Cx} {CX:ma} {k:Nat} {f C:Addr} {fd:FuncData} {ps:Lj} {sp:Sp} {dvs:List V} {ds:Lg} {E:XK} {x m:Str} {p pos apos:Pos} {e o:Expr} {es:Lh} {ta:TE} {t:TA}
theorem NX {pins:Lp}(F:WN X.prog X.w X.K X.mg X.base CX k f fd ps sp)(hr:jQ k X.A)(hb:Binds X.K fd ps ds)(hd:Vals dvs ds)(hx:Passes CX X E) (I:Inv X pins σ H s) (r:Vals vs us) (h:sp (vs++dvs) H Q E):fN X (call (.ref f) us) (EP X pins σ Q) X.xe s:=by
 have r2:Vals (vs++dvs) (us++ds):=r.append hd;have hl:(us++ds).length=ps.length:=by rw [← r2.length];exact F.len _ _ _ _ h
 refine Ud (Uh (F.run X.A X.stack s H ⟨us,[]⟩ (us++ds) (vs++dvs) Q E hr I.iH (hb s us I.kIn hl) r2 h) λr s' hq=>?_);cases r with
 | error e=>exact hx pins σ H s e s' I hq
 | ok fl=>
  cases fl with
  | ret u=>exact I.after hq
  | next=>exact False.elim hq
  | brk=>exact False.elim hq
  | cont=>exact False.elim hq
theorem Rr (he:PE X o ta)(c:mB X.K C)(hm:Meth X.K C m f)(F:WN X.prog X.w X.K X.mg X.base CX k f fd ps sp)(hr:jQ k X.A)(hb:Binds X.K fd ps ds)(hd:Vals dvs ds)(hx:Passes CX X E)
  (ht:eval (.Call (.Attribute o m apos) [] [] pos) X.env=(do
   let ov ← eval o X.env
   standAt apos.atName
   let (f,first) ← holding [ov] (getMethod ov m pl)
   callWith pos f first (backTo pos (starEach [] X.env)) (backToKw pos (keywordEach [] X.env))):=by rfl) :
  PE X (.Call (.Attribute o m apos) [] [] pos) (Jj C m sp dvs E ta iU):=by
 intro pins s σ H Q I h
 refine UP (pl:=pl) (ik (he pins s σ H _ I h) λu s1 zq=>?_) ht
 obtain⟨x,H1,I1,rx,a,dx,fs,ex,ea,l,q⟩:=zq
 subst ex
 obtain rfl:u=Value.ref a:=rx
 refine kE I1 ea c hm l ?_
 exact Gm (first:=[.ref a]) I1.kIn hm.kp (NX (us:=[.ref a]) (vs:=[.ref a]) F hr hb hd hx I1 (.cons rfl .nil) q)
end
def Fd (C:Addr)(fs:List V->List (Str×V))(pay:List V->Prop):Sp:=λvs H Q _=>∃ a xs,vs=.ref a::xs/\H a=some (ll C a)/\pay xs/\∀ d,H d=none->d≠a->Q .non (upd (upd H a (lD C d a)) d (.xd (fs xs)))
structure lu (P:Program)(w:World)(K:Frag)(mg:La)(base:Heap)(x:Str)(C:Addr)(fs:List V->List (Str×V))(pay:List V->Prop):Prop where
 gl:mg x=some (.ref C)
 cl:lg K C
 kp:keepIn K (.ref C)=true
 ex:∃ (fI:Addr) (fd:FuncData) (oI:Obj) (ps:Lj),WK K C=some (some (.ref fI))/\K.lookup fI=some oI/\oI.cls=.type "function"/\Binds K fd ps []/\WN P w K mg base mr 1 fI fd ps (Fd C fs pay)
section
variable {X:Cx} {E:XS} {C:Addr} {x f:Str} {fs:List V->List (Str×V)} {pay:List V->Prop} {e:Expr} {es:Lh} {t:TA} {np cpos pos pos':Pos} {j:Nat} {name:Str}
def MdE (X:Cx)(C:Addr)(E:XS)(σ:St)(v:Value)(s₁:Shared):Prop:=∃ a d vs sl H2,v=.ref a/\s₁.heap.get? a=some ⟨.ref C,some d,.fields vs,sl⟩/\(vs[1]? = some .none/\vs[2]? = some .none/\vs.size=6)/\Inv X [] σ H2 s₁/\X.s₀.heap.objs.size<=a/\H2 a=none/\(∀ q∈X.pn,q.1≠a)/\E (.ref C) (some d) σ H2
def Qb (C:Addr)(fs:List V->List (Str×V))(pay:List V->Prop)(E:XS)(t:TA):TS:=λ_ σ H=>t σ H λvs H1=>pay vs/\vs.length<=1000/\∀ d H2,fO H1 H2->H1 d=none->H2 d=some (.xd (fs vs))->E (.ref C) (some d) σ H2
theorem jQ.make {A:Around}(r:jQ (k+1) A)(C:Addr)(us:Lg)(kw:List (Str×Value)):jQ k (A.under (.builtin "type.__call__" ⟨.ref C::us,kw⟩)):=
 ⟨by have:=r.dp;rw [Xp];lia,by have:=r.un;rw [Xq];lia,by rw [WH];exact r.gd⟩
theorem Eo {pins:Lp}(R:lu X.prog X.w X.K X.mg X.base x C fs pay)(hr:jQ j X.A)(hj:2<=j)(ha:PA X (e::es) t)(hg:Gl X x)(hdb:(x == ("__debug__":Str))=false) (he:SE X e es) (hpl:(backTo cpos (starEach es X.env)).any (·.1)=false) (I:Inv X pins σ H s) (h:Qb C fs pay E t D σ H) : fN X (eval (.Call (.Name x np) (e::es) [] cpos) X.env) (MdE X C E σ) X.xe s:=by
 have c:=R.cl;refine uU (w4 I hg R.gl ?_ hdb);refine Ui (h₀:=X.base) I.ok.mod.kin R.kp (ik (ha cpos pins s σ H _ I h) λus s1 ⟨vs,H1,I1,r,hp,hl,q⟩=>⟨I1.kIn,?_⟩) he hpl;obtain⟨fI,fd,oI,ps,i1,i2,i3,hb,F⟩:=R.ex;refine KL I1.kIn c.sh i1 i2 i3 (by show us.length<=_;rw [← Vals.length r];exact uJ hl (by rw [uQ];decide)) λh' a g1 g2=>?_;obtain⟨t0,z1,_,_⟩:=g2.there;have n1:=I1.hok.fresh g1;have I2:Inv X pins σ (upd H1 a (ll C a)) { s1 with heap:=h' }:=I1.laid (t':=s1.toks) g2.keeps g1 (Be (t:=t0) z1 rfl ⟨rfl,rfl,rfl⟩)
 have hsp:Fd C fs pay (.ref a::vs) (upd H1 a (ll C a)) (λw2 H2=>w2=.non/\∃ d,upd H1 a (ll C a) d=none/\d≠a/\H2=upd (upd (upd H1 a (ll C a)) a (lD C d a)) d (.xd (fs vs))) E0:=
  ⟨a,vs,rfl,zb,hp,λd q1 q2=>⟨rfl,d,q1,q2,rfl⟩⟩
 have r2:Vals (V.ref a::vs) (Value.ref a::us):=.cons rfl r;have hb':=hb { s1 with heap:=h' } (.ref a::us) I2.kIn (by rw [← F.len _ _ _ _ hsp,uj];exact congrArg (· + 1) (Vals.length r).symm);refine Ud (Uh (F.run (X.A.under (.builtin "type.__call__" ⟨.ref C::us,[]⟩)) X.stack { s1 with heap:=h' } _ ⟨.ref a::us,[]⟩ _ _ _ _ ((hr.mono hj).make C us []) (I2.iH.make C us []) hb' (by simpa using r2) hsp) λr s' hq=>?_);rcases r with er | fl
 ·exact False.elim hq
 cases fl with
 | next=>exact False.elim hq
 | brk=>exact False.elim hq
 | cont=>exact False.elim hq
 | ret w2=>
  obtain⟨v2,H2,I3,rv2,rfl,d,q1,q2,rfl⟩:=I2.after hq;have hx1:qA X.prog X.w (upd (upd (upd H1 a (ll C a)) a (lD C d a)) d (.xd (fs vs))) s'.heap a (lD C d a):=I3.hok a _ (by rw [zk (Ne.symm q2),zb]);obtain⟨⟨vs',sl',e1,e2⟩,_⟩:=hx1;have np:∀ q∈X.pn,q.1≠a:=λq hq y=>by have:=(I1.pin q (uX _ hq)).1;exact absurd (ur (ug this) (y ▸ g1)) (uY _)
  have q1':H1 d=none:=by rw [zk q2] at q1;exact q1
  have sa:fO H1 (λb=>if b=a then none else upd (upd (upd H1 a (ll C a)) a (lD C d a)) d (.xd (fs vs)) b):=λb o hb=>by
   have ba:b≠a:=λy=>by rw [y,n1] at hb;cases hb
   have bd:b≠d:=λy=>by rw [y,q1'] at hb;cases hb
   simp only [ub ba];rw [zk bd,zk ba,zk ba];exact hb
  refine⟨rv2,a,d,vs',sl',_,rfl,e1,e2,?_,uJ I1.sz g1,?_,np,q d _ sa q1' ?_⟩
  ·have I4:Inv X [] σ (upd (upd (upd H1 a (ll C a)) a (lD C d a)) d (.xd (fs vs))) s':=I3.pins_of λp hp=>absurd hp (by simp)
   have key:∀ b o,(λb=>if b=a then none else upd (upd (upd H1 a (ll C a)) a (lD C d a)) d (.xd (fs vs)) b) b=some o->b≠a/\upd (upd (upd H1 a (ll C a)) a (lD C d a)) d (.xd (fs vs)) b=some o:=λb o z=>by
    by_cases hb:b=a
    ·simp [hb] at z
    ·simp only [ub hb] at z;exact⟨hb,z⟩
   have back:∀ b o,b≠a->upd (upd (upd H1 a (ll C a)) a (lD C d a)) d (.xd (fs vs)) b=some o->(λb=>if b=a then none else upd (upd (upd H1 a (ll C a)) a (lD C d a)) d (.xd (fs vs)) b) b=some o:=λb o hb z=>by simp only [ub hb];exact z
   have nex:∀ b o,upd (upd (upd H1 a (ll C a)) a (lD C d a)) d (.xd (fs vs)) b=some o->(∀ φ,o≠.ext φ)->b≠a:=λb o z no y=>by rw [y,zk (Ne.symm q2),zb] at z;cases z;exact no _ rfl
   refine I4.step (h':=s'.heap) (g':=s'.gens) (t':=s'.toks) (d':=s'.drawn) (ch:=[]) (λ_ z=>absurd z (by simp)) (λb o _ _ _ z _=>z) (λb o _ _ _ z _=>⟨o.slots,z⟩) (λb o _ _ z=>?_) (λb o _ z=>⟨o,z⟩) (λb xs z=>back b _ (nex b _ z λ_ y=>by cases y) z) (λb o u z=>back b _ (nex b _ z λ_ y=>by cases y) z)
    (λb ps z=>⟨#[],by rw [GC];exact back b _ (nex b _ z λ_ y=>by cases y) z⟩) (λm z=>z) (λb o z=>?_) I4.bare
   ·by_cases hb:b=a
    ·simp [hb]
    ·simp only [ub hb];exact z
   ·obtain⟨hb,z⟩:=key b o z;exact(I4.hok b o z).stay (λ_ _ _ y=>y) (λc y=>back c _ (nex c _ y λ_ y=>by cases y) y) λc xs y=>back c _ (nex c _ y λ_ y=>by cases y) y
  ·simp
  ·simp only [ub q2];rw [zb]
theorem Rq (hx:mP X E)(R:lu X.prog X.w X.K X.mg X.base x C fs pay)(hr:ib j X.A)(hj:2<=j)(ha:PA X (e::es) t)(hg:Gl X x:=by rfl) (hdb:(x == ("__debug__":Str))=false:=by decide) (he:SE X e es:=by rfl) (hpl:(backTo cpos (starEach es X.env)).any (·.1)=false:=by rfl) : PS X (.Raise (some (.Call (.Name x np) (e::es) [] cpos)) none pos) (Qb C fs pay E t):=by intro pins s σ H D I h;rw [Gi];refine ua (u5 (VR (C:=C) (K:=X.K) hr.hd ?_));refine ua (ik (Eo R hr.n hj ha hg hdb he hpl I h) λv s₁ zq=>?_);obtain⟨a,d,vs,sl,H2,e0,e1,e2,J,h1,h2,h3,q⟩:=zq;exact ua (u5 (ud ⟨a,_,vs,sl,e0,J.kIn,R.cl,e1,e2.1,hx _ _ ⟨a,_,_,H2,[],σ,rfl,J,h1,h2,h3,.inl ⟨sl,vs,e1,e2.1,λ_=>e2.2.1⟩,q⟩⟩))
theorem Vp:entryFor table "proto.unchain" = some Builtin.«proto.unchain»:=entryFor_of_tree (by kernel_rfl)
theorem Td {prog:Program}{A:Around}{K:Frag}(hh:A.handled=some (.ref ea))(hcz:∀ (Q:fL) (s:Shared),Q .none s->wpAny (model prog w) A cz Q Ee s) (h:wpAny (model prog w) A y (λv s₁=>∃ a dd vs sl eo ws,v=.ref a/\K.In s₁.heap/\lg K C/\s₁.heap.get? a=some ⟨.ref C,dd,.fields vs,sl⟩/\vs[1]? = some .none/\vs.size=6/\ea≠a/\s₁.heap.get? ea=some eo/\eo.data=.fields ws/\ws[2]? = some .none /\ ∀ h' vs',Kp [a] [] s₁.heap h'->h'.get? a=some ⟨.ref C,dd,.fields vs',sl⟩->vs'[1]? = some .none->Ee (.ref a) { s₁ with heap:=h' }) Ee s):wpAny (model prog w) A (raiseStmt env (some y) (some cz)) Q Ee s:=by
 unfold raiseStmt;refine ua (um h (λv s₁ z=>?_) λ_ _ z=>z);obtain⟨a,dd,vs,sl,eo,ws,rfl,KX,c,e0,h1,h6,ne,he,hd,h2,k⟩:=z;obtain⟨nm,q,N,bs,bm,hdd,sn,sub,ab,col,dd',k0,k1,k2,k3,k5,cd,hC,hcd,hmro,hns,hdd,OT,hok⟩:=Zs KX c.sh;refine ua (u0 (hcz _ _ (ua (ud ?_))));obtain⟨hp,g,dr,tk,os⟩:=s₁;have hcB:(Value.ref C::bm).contains (.type "BaseException")=true:=by rw [U1,OT.hasType (X:="BaseException") (b:=true) (by decide +kernel),gX]
 repeat (first | (with_reducible refine uI e0 ?_) | (with_reducible refine uI hC ?_) | (with_reducible refine uK e0 rfl h1 ?_) | (with_reducible refine UW hC ?_;rw [hcB]) | wp_step)
 have nC:C≠a:=λz=>by rw [z,e0] at hC;injection hC with hC;injection hC with hC;cases hC
 have hC2:((hp.update a (Obj.mapFields λx=>x.setIfInBounds 3 Value.none)).update a (Obj.mapFields λx=>x.setIfInBounds 4 (Value.bool true))).get? C=some (excClassObj nm q C N bs bm _ sn sub ab col dd' k0 k1 k2 k3 k5 "ValueError.__new__"):=(uy _ _ (Ne.symm nC)).trans ((uy _ _ (Ne.symm nC)).trans hC);have ea2:((hp.update a (Obj.mapFields λx=>x.setIfInBounds 3 Value.none)).update a (Obj.mapFields λx=>x.setIfInBounds 4 (Value.bool true))).get? ea=some eo:=(uy _ _ (Ne.symm ne)).trans ((uy _ _ (Ne.symm ne)).trans he);have a1:(hp.update a (Obj.mapFields λx=>x.setIfInBounds 3 Value.none)).get? a=some ⟨.ref C,dd,.fields (vs.setIfInBounds 3 .none),sl⟩:=uT _ e0 rfl;have a2:((hp.update a (Obj.mapFields λx=>x.setIfInBounds 3 Value.none)).update a (Obj.mapFields λx=>x.setIfInBounds 4 (Value.bool true))).get? a=some ⟨.ref C,dd,.fields ((vs.setIfInBounds 3 .none).setIfInBounds 4 (.bool true)),sl⟩:=uT _ a1 rfl
 have k2':Kp [a] [] hp ((hp.update a (Obj.mapFields λx=>x.setIfInBounds 3 Value.none)).update a (Obj.mapFields λx=>x.setIfInBounds 4 (Value.bool true))):=
  have oth:∀ b,b∉[a]->((hp.update a (Obj.mapFields λx=>x.setIfInBounds 3 Value.none)).update a (Obj.mapFields λx=>x.setIfInBounds 4 (Value.bool true))).get? b=hp.get? b:=λb hb=>(uy _ _ (λz=>hb (by simp [z]))).trans (uy _ _ (λz=>hb (by simp [z])))
  ⟨λb o hb _ q=>(oth b hb).trans q,λb o hb q=>⟨o.slots,(oth b hb).trans q⟩⟩
 have s1:((vs.setIfInBounds 3 .none).setIfInBounds 4 (.bool true))[1]? = some .none:=by simpa [UM] using h1
 have s2:2<((vs.setIfInBounds 3 .none).setIfInBounds 4 (.bool true)).size:=by simp [h6]
 generalize ((vs.setIfInBounds 3 Value.none).setIfInBounds 4 (.bool true))=vs2 at a2 s1 s2;generalize ((hp.update a (Obj.mapFields λx=>x.setIfInBounds 3 Value.none)).update a (Obj.mapFields λx=>x.setIfInBounds 4 (Value.bool true)))=hp2 at hC2 ea2 a2 k2' ⊢;clear a1
 repeat (first | (with_reducible refine uI hC2 ?_) | (with_reducible refine uK a2 rfl s1 ?_) | wp_step)
 unfold raiseNew;refine ua (wpAny_handled ?_);rw [hh];have hne:(Value.ref ea != Value.ref a)=true:=by simpa using ne
 show wpAny (model prog w) A (if (Value.ref ea != Value.ref a)=true then _ else _) Q Ee _;rw [ue hne];refine ua (u0 (wpAny_runValue (codeAny_builtin Vp ?_)));unfold Builtin.«proto.unchain»;refine ua (uK ea2 hd h2 ?_);rw [ue (show(Value.none == Value.none)=true from rfl)];refine ua (ud ?_);refine ud (ua ?_);show wpAny (model prog w) A (setField (.ref a) 2 (.ref ea)) _ Ee _;refine UI a2 rfl s2 (wpAny_throw ?_);refine k _ (vs2.setIfInBounds 2 (.ref ea)) ?_ (uT _ a2 rfl) (by simpa [UM] using s1);have oth:∀ b,b∉[a]->(hp2.update a (Obj.mapFields (·.setIfInBounds 2 (Value.ref ea)))).get? b=hp2.get? b:=λb hb=>uy _ _ (λz=>hb (by simp [z]));exact⟨λb o hb hf q=>(oth b hb).trans (k2'.keep b o hb hf q),λb o hb q=>let ⟨sl,q⟩:=k2'.slot b o hb q;⟨sl,(oth b hb).trans q⟩⟩
def W8 (ea C:Addr)(fs:List V->List (Str×V))(pay:List V->Prop)(E:XS)(t:TA):TS:=Qb C fs pay (λc d σ H2=>E c d σ H2/\rT H2 ea/\∃ dd ys,d=some dd/\H2 dd=some (.xd ys)/\ys.length≠1) t
theorem Ro (hx:∀ e s',pT X E e s'->X.xe e s')(hh:X.A.handled=some (.ref ea))(R:lu X.prog X.w X.K X.mg X.base x C fs pay)(hr:jQ j X.A)(hj:2<=j)(ha:PA X (e::es) t)(hg:Gl X x:=by rfl) (hdb:(x == ("__debug__":Str))=false:=by decide) (he:SE X e es:=by rfl) (hpl:(backTo cpos (starEach es X.env)).any (·.1)=false:=by rfl) : PS X (.Raise (some (.Call (.Name x np) (e::es) [] cpos)) (some (.Constant .none jc pc)) pos) (W8 ea C fs pay E t):=by
 intro pins s σ H D I h;rw [Gi];refine ua (u5 (Td (C:=C) (K:=X.K) hh (λQ s q=>ua (Constant_none (ua (u5 (ud q))))) ?_));refine ua (ik (Eo (D:=D) R hr hj ha hg hdb he hpl I h) λv s₁ zq=>?_);obtain⟨a,d,vs,sl,H2,e0,e1,e2,J,h1,h2,h3,q,⟨eo,ws,pE,pd,p2⟩,dd,ys,ed,hd,hl⟩:=zq;refine ua (u5 (ud ?_));obtain⟨ge,_⟩:=(show qA X.prog X.w H2 s₁.heap ea (.frz eo (.own ea)) from J.hok ea _ pE)
 refine⟨a,some d,vs,sl,eo,ws,e0,J.kIn,R.cl,e1,e2.1,e2.2.2,(λz=>by rw [z,h2] at pE;cases pE),ge,pd,p2,λh' vs' k z1 z2=>hx _ _ ⟨a,.ref C,some d,H2,σ,rfl,?_,h1,h2,h3,⟨sl,vs',z1,z2,λ⟨b,f,v,eb,hb⟩=>?_⟩,q⟩⟩
 ·exact J.kp (k.mono (λ_ z=>z) λb z=>absurd z (by simp)) (λb hb=>by rw [show b=a by simpa using hb];exact⟨kG J e1 rfl h1 h3,h2⟩) (λ_ _=>rfl) (J.hok.kp k (λb hb=>by rw [show b=a by simpa using hb];exact h2) λb z=>absurd z (by simp))
 ·cases ed;cases eb;rw [hd] at hb;cases hb;exact absurd rfl hl
def tQ (C:Addr)(ta tv:TE)(name:Str):TS:=λD σ H=>tv σ H λy H1=>ta σ H1 λx H2=>∃ a d fs,x=.ref a/\H2 a=some (lD C d a)/\H2 d=some (.xd fs)/\fs.length<=1000/\fs.lookup name=none/\D.nx σ (upd H2 d (.xd (fs++[(name,y)])))
theorem NW {fs:List (Str×V)}(h:fs.lookup y=some v):y∈fs.map (·.1):=by
 induction fs with
 | nil=>cases h
 | cons p fs ih=>
  obtain⟨k,u⟩:=p;by_cases hk:y=k
  ·rw [hk];exact .head _
  ·rw [u4,show(y == k)=false from uN.mpr hk] at h;exact .tail _ (ih h)
theorem W9 {o value:Expr}(c:lg X.K C)(hn:findIn X.K (.ref C) name=some none)(ha:PE X o ta)(hv:PE X value tv)(hs:swapsWith value (some (.Attribute o name pos')) pos.line X.env=pure false:=by rfl) : PS X (.Assign [.Attribute o name pos'] value pos) (tQ C ta tv name):=by
 intro pins s σ H D I h;refine UT (ik (hv pins s σ H _ I h) λu s1 ⟨y,H1,I1,ry,q⟩=>ik (ha pins s1 σ H1 _ I1 q) λov s2 zq=>?_) hs;obtain⟨x,H2,I2,rx,a,d,fs,ex,ea,ed,hl,hnl,q2⟩:=zq;subst ex;obtain rfl:ov=Value.ref a:=rx;obtain⟨⟨vs,sl,e,h1⟩,_⟩:=I2.hok a _ ea;obtain⟨mA,hN,hf⟩:=I2.hok d _ ed
 have hw:Within mA (fs.map (·.1)):=λy hy=>by
  have hy2:=hf y;cases hL:fs.lookup y with
  | none=>
   rw [hL] at hy2;cases hm:mA y with
   | none=>exact absurd hm hy
   | some u=>rw [hm] at hy2;exact hy2.elim
  | some v=>exact NW hL
 refine Px I2.kIn e c.sh c.hd c.sa hn hN hw (by rw [uk,uQ];exact Nat.lt_of_le_of_lt hl (by decide)) λh' tk g3 g4=>?_;refine⟨σ,_,?_,q2⟩;have nb:∀ b,H2 b=none->b≠d:=λb z y=>by rw [y,ed] at z;cases z
 have u:Un X.fs [] H2 (upd H2 d (.xd (fs++[(name,y)]))) s2.heap h':=by
  refine⟨λb o z n _ _=>g4 b o (nb b n) z,λb o z n _ _=>⟨o.slots,g4 b o (nb b n) z⟩,λb o z n _=>by rw [zk (nb b n)];exact n,λb o z _=>?_,λb xs z=>?_,λb o u z=>?_,λb ps z=>⟨#[],?_⟩⟩
  ·by_cases hb:b=d
   ·obtain⟨od,es,ep,hod,_⟩:=id g3;rw [hb];exact⟨od,hod⟩
   ·exact⟨o,g4 b o hb z⟩
  all_goals
   have nb:b≠d:=λy=>by rw [y,ed] at z;cases z
   rw [zk nb,z]
  simp
 refine I2.un u λb o z=>?_;by_cases hb:b=d
 ·subst hb;rw [zb] at z;cases z;refine⟨_,g3,λf=>?_⟩;rw [List.lookup_append];by_cases hf2:f=name
  ·subst hf2;simp only [ue,hnl,Option.none_or];simpa [List.lookup,iN] using ry
  ·have:(f == name)=false:=uN.mpr hf2;simp only [ub hf2,List.lookup,this,Option.or_none];exact hf f
 ·rw [zk hb] at z;have nown:∀ c y,H2 c=some (.own y)->c≠d:=λc y r q=>by rw [q,ed] at r;cases r
  have ntup:∀ c y,H2 c=some (.tup y)->c≠d:=λc y r q=>by rw [q,ed] at r;cases r
  refine(I2.hok b o z).stay (λc v hc q=>g4 c v ?_ q) (λc q=>by rw [zk (nown c _ q)];exact q) λc xs q=>by rw [zk (ntup c _ q)];exact q
  rcases hc with rfl | hc
  ·exact hb
  ·exact nown c _ hc
end
section
variable {P:Program} {w:World} {K:Frag} {mg:La} {base:Heap} {k j:Nat} {C:Addr} {m x qual:Str} {st:Stmt} {ps N:Lj} {sp sp':Sp}
theorem oB.okN (F:oB K x qual st f fd)(S:zj N ps (zf st))(len:∀ vs H Q E,sp vs H Q E->vs.length=ps.length) (hbody:∀ (cdv:Value) (A:Around) (outer:List Env) (s:Shared) (H:Hp) (vs:List V) (Q:VK) (E:XK),sp vs H Q E -> ∃ t,lJ (XJ mr P w K mg base N qual (zf st) f cdv A outer s H E) (zV st) t/\t { nx:=λ_ H'=>Q .non H',rt:=Q } (start N vs) H):WN P w K mg base mr (k+1) f fd ps sp:=by obtain⟨oc,od,kV,doc,pm,an,cdv,ct,osl,rfl,lk,hcd⟩:=F.ex;exact DC lk hcd S len λA outer s H vs Q E hr hsp=>hbody cdv A outer s H vs Q E hsp
structure lV (P:Program)(w:World)(K:Frag)(mg:La)(base:Heap)(k:Nat)(C:Addr)(m:Str)(ps:Lj)(sp:Sp):Prop where
 ex:∃ (f:Addr) (fd:FuncData),mB K C/\Meth K C m f/\Binds K fd ps []/\WN P w K mg base (mV P w) k f fd ps sp
theorem lV.ok (F:lV P w K mg base k C m ps sp):iP P w K mg base k C m ps sp:=by obtain⟨f,fd,c,hm,b,G⟩:=F.ex;exact⟨f,fd,c,hm,b,G.ok⟩
theorem Dm.okN (D:Dm K C m qual st ps)(Sc:zj N ps (zf st))(len:∀ vs H Q E,sp vs H Q E->vs.length=ps.length) (hbody:∀ (f:Addr) (cdv:Value) (A:Around) (outer:List Env) (s:Shared) (H:Hp) (vs:List V) (Q:VK) (E:XK),jQ k (A.deeper (envOfC qual (zf st) s.heap.objs.size f cdv))->sp vs H Q E -> ∃ t,lJ (XJ (mV P w) P w K mg base N qual (zf st) f cdv A outer s H E) (zV st) t/\t { nx:=λ_ H'=>Q .non H',rt:=Q } (start N vs) H):lV P w K mg base (k+1) C m ps sp:=by obtain⟨f,fd,F,b,cl,hm⟩:=D.ex;refine⟨f,fd,cl,hm,b,?_⟩;obtain⟨oc,od,kV,doc,pm,an,cdv,ct,osl,rfl,lk,hcd⟩:=F.ex;exact DC lk hcd Sc len λA outer s H vs Q E hr h=>hbody f cdv A outer s H vs Q E hr h
theorem jQ.marked {A:Around}(r:jQ k A)(v:Option Value):jQ k (A.mark v):=⟨r.dp,r.un,r.gd⟩
end
section
variable {X:Cx} {K:Frag} {k j:Nat} {C Dc:Addr} {x m n:Str} {ps:Lj} {sp:Sp} {p pos apos cpos np hpos:Pos} {e o:Expr} {es:Lh} {to:TE} {t:TA} {E:XS} {fs:List V->List (Str×V)} {pay:List V->Prop} {i:Nat} {tb:XS->TS} {th:Addr->TS} {body suite:List Stmt} {b₀:Stmt}
theorem Rl (F:lV X.prog X.w X.K X.mg X.base k C m ps sp)(hr:jQ j X.A)(hk:k<=j)(ho:QE X o to)
  (ht:eval (.Call (.Attribute o m apos) [] [] pos) X.env=(do
   let ov ← eval o X.env
   standAt apos.atName
   let (f,first) ← holding [ov] (getMethod ov m pl)
   callWith pos f first (backTo pos (starEach [] X.env)) (backToKw pos (keywordEach [] X.env))):=by rfl) :
  QE X (.Call (.Attribute o m apos) [] [] pos) (Jj C m sp [] E0 to iU):=by
 obtain⟨f,fd,cl,hm,b,G⟩:=F.ex
 exact⟨Rr ho.h cl hm G (hr.mono hk) b .nil KQ ht⟩
theorem km (hx:mP X E)(R:lu X.prog X.w X.K X.mg X.base x C fs pay)(hr:ib j X.A)(hj:2<=j)(ha:QA X (e::es) t)(hg:Gl X x:=by rfl) (hdb:(x == ("__debug__":Str))=false:=by decide)
  (he:SE X e es:=by rfl) (hpl:(backTo cpos (starEach es X.env)).any (·.1)=false:=by rfl) :
  QS X (.Raise (some (.Call (.Name x np) (e::es) [] cpos)) none pos) (Qb C fs pay E t):=⟨Rq hx R hr hj ha.h hg hdb he hpl⟩
theorem Rk (hx:∀ e s',pT X E e s'->X.xe e s')(hh:X.A.handled=some (.ref ea))(R:lu X.prog X.w X.K X.mg X.base x C fs pay)(hr:jQ j X.A)(hj:2<=j)(ha:QA X (e::es) t)(hg:Gl X x:=by rfl) (hdb:(x == ("__debug__":Str))=false:=by decide)
  (he:SE X e es:=by rfl) (hpl:(backTo cpos (starEach es X.env)).any (·.1)=false:=by rfl) :
  QS X (.Raise (some (.Call (.Name x np) (e::es) [] cpos)) (some (.Constant .none jc pc)) pos) (W8 ea C fs pay E t):=⟨Ro hx hh R hr hj ha.h hg hdb he hpl⟩
theorem pT.swap {pn:Lp}{ea:Addr}{xe xe':fL}{e:Value}{s:Shared}(h:pT (X.exInG pn ea xe) E e s):pT (X.exInG pn ea xe') E e s:=by obtain⟨a,c,d,H',σ,e1,I,r⟩:=h;have ok:=I.ok;exact⟨a,c,d,H',σ,e1,⟨⟨ok.mod,ok.kind,ok.glob,ok.blt,ok.above,ok.inj,ok.has,ok.cab,λz=>absurd (show false=true from z) (by decide),ok.frames,ok.stk,ok.exf,ok.bs,ok.bsz,ok.noex,ok.exfs,ok.funs,ok.frf⟩,I.os,I.bare,I.base,I.loc,I.cell,I.free,I.freeC,I.pin,I.hok,I.len⟩,r⟩
theorem NV (hx:mP X E)(hm:X.mg x=some (.ref Dc))(cD:lg X.K Dc)(hN:X.N.Nodup)(hi:X.N[i]? = some n)(hl:X.env.scope.names.lookup n=some .local)(hst:X.stack=X.env::X.outer)(hf:X.env.frame=some X.env.locals)
  (hb:∀ (E:XS) (pn:Lp) (xe:fL),PassesOwn (model X.prog X.w) X.A X.env xe->mP (X.tryIn pn xe) E->nP (X.tryIn pn xe) body (tb E))
  (hh:∀ pn ea xe,(∀ e s',pT (X.exInG pn ea xe) (λc d σ H=>E c d (σ.map λ_=>none) H) e s'->xe e s')->nP (X.exInG pn ea xe) (b₀::suite) (th ea)) (hg:Gl X x:=by rfl) (hdb:(x == ("__debug__":Str))=false:=by decide) :
  QS X (.Try body [.ExceptHandler (some (.Name x np)) (some n) (b₀::suite) hpos] [] [] pos) (AV X.K Dc i tb th):=
 ⟨Nj hx hm cD hN hi hl hst hf (λE pn xe a b=>(hb E pn xe a b).h) (λpn ea=>(hh pn ea _ λ_ _ z=>z.swap).h) hg hdb⟩
end
theorem XM {K:Frag}{C:Addr}{f g p q:Str}{a:Addr}{v u:V}{i:Nat}{z:V}{H:Hp}{Q:VK}(ea:H a=some (ll C a))(hi:([V.ref a,v,u]:List V)[i]? = some z)(hp:nz z)(hn:f≠g)(k:∀ d,H d=none->d≠a->Q .non (upd (upd H a (lD C d a)) d (.xd [(f,v),(g,u)]))) : iT (WD (oE (VS C) (ju (iA 0) (ju (BE (iA i)) iU)))) (iT (KO K C (iA 0) (iA 1) f) (tQ C (iA 0) (iA 2) g)) { nx:=λ_ H'=>Q .non H',rt:=Q } (start ["self",p,q] [.ref a,v,u]) H:=by
 refine⟨.ref a,rfl,z,?_,hp,λy=>⟨a,.str y,rfl,ea,v,rfl,.ref a,rfl,a,rfl,ea,λd h1 h2=>⟨u,rfl,.ref a,rfl,a,d,_,rfl,?_,zb,by show 1<=1000;decide,?_,?_⟩⟩⟩
 ·show(List.map some [V.ref a,v,u]++_)[i]? = some (some z);rw [UD (by rw [uk];exact(uA.mp hi).1),Uk,hi];rfl
 ·rw [zk (Ne.symm h2),zb]
 ·have:(g == f)=false:=uN.mpr (Ne.symm hn);simp [List.lookup,this]
 ·show Q _ _;rw [Ji];exact k d h1 h2
theorem Tc {K:Frag}{C:Addr}{f g h p q r:Str}{a:Addr}{v u x:V}{tx:Str}{H:Hp}{Q:VK}(ea:H a=some (ll C a))(hn:f≠g/\f≠h/\g≠h)(k:∀ d,H d=none->d≠a->Q .non (upd (upd H a (lD C d a)) d (.xd [(f,v),(g,u),(h,x)]))) : iT (WD (oE (VS C) (ju (iA 0) (ju (tC (.str tx)) iU)))) (iT (KO K C (iA 0) (iA 1) f) (iT (tQ C (iA 0) (iA 2) g) (tQ C (iA 0) (iA 3) h))) { nx:=λ_ H'=>Q .non H',rt:=Q } (start ["self",p,q,r] [.ref a,v,u,x]) H:=by
 have n1:(g == f)=false:=uN.mpr (Ne.symm hn.1);have n2:(h == f)=false:=uN.mpr (Ne.symm hn.2.1);have n3:(h == g)=false:=uN.mpr (Ne.symm hn.2.2);refine⟨.ref a,rfl,a,.str tx,rfl,ea,v,rfl,.ref a,rfl,a,rfl,ea,λd h1 h2=>⟨u,rfl,.ref a,rfl,a,d,_,rfl,?_,zb,by show 1<=1000;decide,?_,⟨x,rfl,.ref a,rfl,a,d,_,rfl,?_,zb,by show 2<=1000;decide,?_,?_⟩⟩⟩
 ·rw [zk (Ne.symm h2),zb]
 ·simp [List.lookup,n1]
 ·rw [zk (Ne.symm h2),zk (Ne.symm h2),zb]
 ·simp [List.lookup,n2,n3]
 ·show Q _ _;rw [Ji,Ji];exact k d h1 h2
end L2
namespace L2
open PySem PySem.Spec PyProof.Rows
theorem tu {A0:Type}{G:Prop}{p:A0->Prop}(h:∃ a0,p a0)(k:∀ a0,p a0->G):G:=by obtain⟨a0,h⟩:=h;exact k _ h
theorem nE {A0 A1:Type}{G:Prop}{p:A0->A1->Prop}(h:∃ a0 a1,p a0 a1)(k:∀ a0 a1,p a0 a1->G):G:=by obtain⟨a0,a1,h⟩:=h;exact k _ _ h
theorem nN {A0 A1 A2:Type}{G:Prop}{p:A0->A1->A2->Prop}(h:∃ a0 a1 a2,p a0 a1 a2)(k:∀ a0 a1 a2,p a0 a1 a2->G):G:=by obtain⟨a0,a1,a2,h⟩:=h;exact k _ _ _ h
theorem pK {A0 A1 A2 A3:Type}{G:Prop}{p:A0->A1->A2->A3->Prop}(h:∃ a0 a1 a2 a3,p a0 a1 a2 a3)(k:∀ a0 a1 a2 a3,p a0 a1 a2 a3->G):G:=by obtain⟨a0,a1,a2,a3,h⟩:=h;exact k _ _ _ _ h
theorem lO {A0 A1 A2 A3 A4:Type}{G:Prop}{p:A0->A1->A2->A3->A4->Prop}(h:∃ a0 a1 a2 a3 a4,p a0 a1 a2 a3 a4)(k:∀ a0 a1 a2 a3 a4,p a0 a1 a2 a3 a4->G):G:=by obtain⟨a0,a1,a2,a3,a4,h⟩:=h;exact k _ _ _ _ _ h
theorem tq {A0 A1 A2 A3 A4 A5:Type}{G:Prop}{p:A0->A1->A2->A3->A4->A5->Prop}(h:∃ a0 a1 a2 a3 a4 a5,p a0 a1 a2 a3 a4 a5)(k:∀ a0 a1 a2 a3 a4 a5,p a0 a1 a2 a3 a4 a5->G):G:=by obtain⟨a0,a1,a2,a3,a4,a5,h⟩:=h;exact k _ _ _ _ _ _ h
theorem pk {A0 A1 A2 A3 A4 A5 A6:Type}{G:Prop}{p:A0->A1->A2->A3->A4->A5->A6->Prop}(h:∃ a0 a1 a2 a3 a4 a5 a6,p a0 a1 a2 a3 a4 a5 a6)(k:∀ a0 a1 a2 a3 a4 a5 a6,p a0 a1 a2 a3 a4 a5 a6->G):G:=by obtain⟨a0,a1,a2,a3,a4,a5,a6,h⟩:=h;exact k _ _ _ _ _ _ _ h
theorem ex9 {A0 A1 A2 A3 A4 A5 A6 A7 A8:Type}{G:Prop}{p:A0->A1->A2->A3->A4->A5->A6->A7->A8->Prop}(h:∃ a0 a1 a2 a3 a4 a5 a6 a7 a8,p a0 a1 a2 a3 a4 a5 a6 a7 a8)(k:∀ a0 a1 a2 a3 a4 a5 a6 a7 a8,p a0 a1 a2 a3 a4 a5 a6 a7 a8->G):G:=by obtain⟨a0,a1,a2,a3,a4,a5,a6,a7,a8,h⟩:=h;exact k _ _ _ _ _ _ _ _ _ h
@[elab_as_elim] theorem pM {V:Type}{G:V->Prop}{v l:V}{B0:Prop}(h:v=l/\B0)(k:B0->G l):G v:=by obtain⟨rfl,b0⟩:=h;exact k b0
@[elab_as_elim] theorem mE {V:Type}{G:V->Prop}{v l:V}{B0 B1:Prop}(h:v=l/\B0/\B1)(k:B0->B1->G l):G v:=by obtain⟨rfl,b0,b1⟩:=h;exact k b0 b1
@[elab_as_elim] theorem ng {V:Type}{G:V->Prop}{v l:V}{B0 B1 B2:Prop}(h:v=l/\B0/\B1/\B2)(k:B0->B1->B2->G l):G v:=by obtain⟨rfl,b0,b1,b2⟩:=h;exact k b0 b1 b2
@[elab_as_elim] theorem lC {V:Type}{G:V->Prop}{v l:V}{B0 B1 B2 B3:Prop}(h:v=l/\B0/\B1/\B2/\B3)(k:B0->B1->B2->B3->G l):G v:=by obtain⟨rfl,b0,b1,b2,b3⟩:=h;exact k b0 b1 b2 b3
@[elab_as_elim] theorem FI {V:Type}{G:V->Prop}{v l:V}{B0 B1 B2 B3 B4:Prop}(h:v=l/\B0/\B1/\B2/\B3/\B4)(k:B0->B1->B2->B3->B4->G l):G v:=by obtain⟨rfl,b0,b1,b2,b3,b4⟩:=h;exact k b0 b1 b2 b3 b4
@[elab_as_elim] theorem av6 {V:Type}{G:V->Prop}{v l:V}{B0 B1 B2 B3 B4 B5:Prop}(h:v=l/\B0/\B1/\B2/\B3/\B4/\B5)(k:B0->B1->B2->B3->B4->B5->G l):G v:=by obtain⟨rfl,b0,b1,b2,b3,b4,b5⟩:=h;exact k b0 b1 b2 b3 b4 b5
@[elab_as_elim] theorem av7 {V:Type}{G:V->Prop}{v l:V}{B0 B1 B2 B3 B4 B5 B6:Prop}(h:v=l/\B0/\B1/\B2/\B3/\B4/\B5/\B6)(k:B0->B1->B2->B3->B4->B5->B6->G l):G v:=by obtain⟨rfl,b0,b1,b2,b3,b4,b5,b6⟩:=h;exact k b0 b1 b2 b3 b4 b5 b6
@[elab_as_elim] theorem pL {V:Type}{G:V->Prop}{v l:V}{B0 B1 B2 B3 B4 B5 B6 B7:Prop}(h:v=l/\B0/\B1/\B2/\B3/\B4/\B5/\B6/\B7)(k:B0->B1->B2->B3->B4->B5->B6->B7->G l):G v:=by obtain⟨rfl,b0,b1,b2,b3,b4,b5,b6,b7⟩:=h;exact k b0 b1 b2 b3 b4 b5 b6 b7
@[elab_as_elim] theorem CQ {V:Type}{G:V->Prop}{v l:V}{B0 B1 B2 B3 B4 B5 B6 B7 B8 B9 B10:Prop}(h:v=l/\B0/\B1/\B2/\B3/\B4/\B5/\B6/\B7/\B8/\B9/\B10)(k:B0->B1->B2->B3->B4->B5->B6->B7->B8->B9->B10->G l):G v:=by obtain⟨rfl,b0,b1,b2,b3,b4,b5,b6,b7,b8,b9,b10⟩:=h;exact k b0 b1 b2 b3 b4 b5 b6 b7 b8 b9 b10
theorem kM {c:Prop} [Decidable c]{A B:Prop}(h:c)(q:A):if c then A else B:=by rw [ue h];exact q
theorem XN {c:Prop} [Decidable c]{A B:Prop}(h:¬c)(q:B):if c then A else B:=by rw [ub h];exact q
theorem ir (h:∀ N:St->Hp->Prop,(∀ σ' H',b D σ' H'->N σ' H')->a { D with nx:=N } σ H):iT a b D σ H:=h (b D) λ_ _ z=>z
def lA (m t:Ld):Bool:=(List.range (t.length+1)).any λi=>(t.drop i).take m.length == m
theorem DB {l y:Ld}:StrLaws.At (S l) (S y) (S l).length i↔i+y.length<=l.length/\(l.drop i).take y.length=y:=by
 unfold StrLaws.At Builtin.Str.subAt;rw [Zr,Zr,u6];have e:(S l).cps.extract i (i+y.length)=(S y).cps↔(l.drop i).take y.length=y:=by show(l.toArray).extract i (i+y.length)=y.toArray↔_;rw [← Array.toList_inj];simp [Array.toList_extract,List.extract,gL]
 rw [e]
theorem NU:(!(Builtin.Str.occurrences (S t) (S m) 0 (S t).length 1).isEmpty)=lA m t:=by
 unfold lA;rcases StrLaws.occ_head (S t) (S m) 1 (ui _) with⟨h1,h2⟩ | ⟨i,r,h1,h2,_⟩
 ·rw [h1];refine Eq.symm (GJ.mpr λh=>?_);obtain⟨i,hi,e⟩:=List.any_eq_true.mp h;have e:=u6.mp e;refine h2 i (DB.mpr ⟨?_,e⟩);have hi:=Gd.mp hi;have:=congrArg List.length e;rw [Uq,gK] at this;lia
 ·rw [h1];obtain⟨a,b⟩:=DB.mp h2;exact Eq.symm (List.any_eq_true.mpr ⟨i,Gd.mpr (by lia),u6.mpr b⟩)
def sJ:R2:=λx y H Q=>∃ m l,x=.str (S m)/\y=.str (S l)/\Q (.bl (lA m l)) H
variable {X:Cx}
theorem DA:iM X (compareOp .In) sJ:=by intro pins s σ H x y v u Q I rx ry h;obtain⟨m,l,rfl,rfl,q⟩:=h;refine VE pins s σ H _ _ v u Q I rx ry ⟨S m,S l,rfl,rfl,?_⟩;rw [NU];exact q
end L2
namespace L2
open PySem PySem.Spec PySem.Calls PyProof.Rows PySem.W
section
variable {X:Cx} {a b c d e f:Expr} {ta tb tc td te tf:TE} {pos:Pos}
theorem f9 (qa:QE X a ta)(h1:SE X a []:=by rfl):QA X [a] (ju ta iU):=qP qa zC h1
theorem f6 (qa:QE X a ta)(qb:QE X b tb)(h1:SE X a [b]:=by rfl) (h2:SE X b []:=by rfl):QA X [a,b] (ju ta (ju tb iU)):=qP qa (f9 qb h2) h1
theorem iw (qa:QE X a ta)(qb:QE X b tb)(qc:QE X c tc)(h1:SE X a [b,c]:=by rfl) (h2:SE X b [c]:=by rfl) (h3:SE X c []:=by rfl):QA X [a,b,c] (ju ta (ju tb (ju tc iU))):=qP qa (f6 qb qc h2 h3) h1
theorem lp (qa:QE X a ta)(qb:QE X b tb)(qc:QE X c tc)(qd:QE X d td)(h1:SE X a [b,c,d]:=by rfl) (h2:SE X b [c,d]:=by rfl) (h3:SE X c [d]:=by rfl) (h4:SE X d []:=by rfl):QA X [a,b,c,d] (ju ta (ju tb (ju tc (ju td iU)))):=qP qa (iw qb qc qd h2 h3 h4) h1
theorem mD (qa:QE X a ta)(qb:QE X b tb)(qc:QE X c tc)(qd:QE X d td)(qe:QE X e te)(h1:SE X a [b,c,d,e]:=by rfl) (h2:SE X b [c,d,e]:=by rfl) (h3:SE X c [d,e]:=by rfl) (h4:SE X d [e]:=by rfl) (h5:SE X e []:=by rfl):QA X [a,b,c,d,e] (ju ta (ju tb (ju tc (ju td (ju te iU))))):=qP qa (lp qb qc qd qe h2 h3 h4 h5) h1
theorem qS (l:Ld)(h:x=S l:=by decide +kernel):QE X (.Constant (.str x) j pos) (tC (.str (S l))):=BW h
theorem ia (ho:iM X (compareOp op) r)(ha:QE X a ta)(hb:QE X b tb)(hm:behindInMarks op b=false:=by first | rfl | exact DS _):QT X (.Compare a [op] [b] pos) (Kx (nv r ta tb)):=N0 ho ha hb hm
theorem nW (ho:iM X (compareOp op) r)(ha:QE X a ta)(hb:QE X b tb)(hm:behindInMarks op b=false:=by first | rfl | exact DS _):QE X (.Compare a [op] [b] pos) (nv r ta tb):=N3 ho ha hb hm
theorem ip (i:Nat){pos':Pos}(hN:X.N.Nodup)(he:QE X e te)(hi:X.N[i]? = some x:=by rfl) (hx:Loc X.env.scope x:=by exact Or.inl (by rfl)) (hs:swapsWith e (some (.Name x pos')) pos.line X.env=pure false:=by rfl) (hf:X.fn x=true\/X.env.scope.names.lookup x=some .local:=by first | exact .inl rfl | exact .inr rfl | assumption) :
  QS X (.Assign [.Name x pos'] e pos) (mW te (xD i)):=L6 hN hi hx he hs hf
theorem lz (i:Nat)(hN:X.N.Nodup)(hi:X.N[i]? = some x:=by rfl) (hx:Loc X.env.scope x:=by exact Or.inl (by rfl)) (hf:X.fn x=true\/X.env.scope.names.lookup x=some .local:=by first | exact .inl rfl | exact .inr rfl | assumption):QG X (.Name x pos) (xD i):=N1 hN hi hx hf
theorem qF (F:fW X.prog X.w X.K X.mg X.base k x ps sp)(hr:ib j X.A)(ha:QA X (e::es) t)(hk:k<=j:=by first | decide | lia) (hg:Gl X x:=by rfl) (hdb:(x == ("__debug__":Str))=false:=by decide)
  (he:SE X e es:=by rfl) (hpl:(backTo pos (starEach es X.env)).any (·.1)=false:=by rfl):QE X (.Call (.Name x p) (e::es) [] pos) (yt sp [] E0 t):=PQ F hr hk ha hg hdb he hpl
theorem ic (K:Frag)(ha:QE X a ta)(hb:QE X b tb)(hK:X.K=K:=by rfl) (hs:W0 b:=by exact λ_ _=>rfl):QE X (.Subscript a b pos) (nv (oS K) ta tb):=V0 (Nz hK) ha hb hs
theorem ml (K:Frag)(ha:QE X a ta)(hb:QE X b tb)(hK:X.K=K:=by rfl) (hs:W0 b:=by exact λ_ _=>rfl):QE X (.Subscript a b pos) (nv (oU K) ta tb):=V0 (RS hK) ha hb hs
end
theorem sD (h:∀ N,N=u D->t { D with nx:=N } σ H):iT t u D σ H:=h _ rfl
theorem Fy {N M:St->Hp->Prop}{σ:St}{H:Hp}(h:N=M)(k:M σ H):N σ H:=h ▸ k
theorem ifN (h:∀ T U,T=t->U=u->c σ H λb H1=>if b=true then T D σ H1 else U D σ H1):ny c t u D σ H:=h _ _ rfl rfl
section
variable {v z:V} {x:Option V} {σ:St} {H:Hp} {i:Nat} {p:Addr} {α β γ δ:Sort _} {c:Bool} {k l:Int}
theorem vS0:iA 0 (some v::σ) H Q=Q v H:=by simp [iA]
theorem vSs:iA (i+1) (x::σ) H Q=iA i σ H Q:=rfl
theorem CC:xD 0 v (x::σ) H Q=Q (some v::σ) H:=rfl
theorem CB:xD (i+1) v (x::σ) H Q=xD i v σ H λτ=>Q (x::τ):=rfl
theorem CS {D:Ends}:BF i te ti D σ H=iA i σ H λx _=>te σ H λy H1=>ti x y H1 λz H2=>xD i z σ H2 D.nx:=rfl
theorem exB {P:Bool->Prop}:(∃ k,V.bl c=.bl k/\P k)=P c:=by simp
theorem exI {P:Int->Prop}:(∃ i,V.int k=.int i/\P i)=P k:=by simp
theorem CJ {P:Addr->Prop}:(∃ a,V.ref p=.ref a/\P a)=P p:=by simp
theorem CK {P:Addr->α->Prop}:(∃ a x,[V.ref p]=[.ref a]/\P a x)=∃ x,P p x:=by simp
theorem mC:List.map some (y::ys)++r=some y::(List.map some ys++r):=rfl
theorem mN:List.map some ([]:List V)++r=r:=rfl
theorem rC:List.replicate (n+1) (none:Option V)=none::List.replicate n none:=rfl
theorem rN:List.replicate 0 (none:Option V)=[]:=rfl
theorem exN {P:Prop}:(([]:List V)=[]/\P)=P:=by simp
theorem CF {m n:Ld}{P:Ld->Ld->Prop}:(∃ a b,V.str (S m)=.str (S a)/\V.str (S n)=.str (S b)/\P a b)=P m n:=by simp [yu]
variable {y w:V}
theorem CL {P:Int->Int->Prop}:(∃ i j,w=.int i/\y=.int j/\P i j)=∃ i,w=.int i/\∃ j,y=.int j/\P i j:=by simp
theorem CI {P:Addr->α->Prop}:(∃ a x,w=.ref a/\P a x)=∃ a,w=.ref a/\∃ x,P a x:=by simp
theorem CH {P:Addr->α->β->Prop}:(∃ a x y,w=.ref a/\P a x y)=∃ a,w=.ref a/\∃ x y,P a x y:=by simp
theorem CG {P:Addr->α->β->γ->Prop}:(∃ a x y z,w=.ref a/\P a x y z)=∃ a,w=.ref a/\∃ x y z,P a x y z:=by simp
theorem exF {A:Addr->α->β->γ->Prop}{B C:α->Prop}{E:γ->δ->Prop}{Q:δ->Prop}:(∃ a c d f v,w=.ref a/\A a c d f/\B c/\C c/\E f v/\Q v)=∃ a,w=.ref a/\∃ c d f,A a c d f/\B c/\C c/\∃ v,E f v/\Q v:=by simp
theorem exD {A B:α->Addr->Prop}{C:α->Prop}{D:α->α->Prop}:(∃ d e a b,w=.ref a/\y=.ref b/\A d a/\B e b/\C d/\D d e)=∃ d e a,w=.ref a/\∃ b,y=.ref b/\A d a/\B e b/\C d/\D d e:=by simp
theorem CM {q:Addr}{A B:α->Addr->Prop}{C:α->Prop}{D:α->α->Prop}:(∃ d e a b,V.ref p=.ref a/\V.ref q=.ref b/\A d a/\B e b/\C d/\D d e)=∃ d,A d p/\∃ e,B e q/\C d/\D d e:=by simp
theorem caN:yt sp [] E t σ H Q=t σ H λvs H1=>sp vs H1 Q E:=by simp only [yt,uj]
theorem meN:Jj C m sp [] E ta t σ H Q=ta σ H λx H1=>∃ a dx fs,x=.ref a/\H1 a=some (.ins C dx fs)/\fs.lookup m=none/\t σ H1 λvs H2=>sp (x::vs) H2 Q E:=by simp only [Jj,uj]
theorem maN:Ky C sp [] E t σ H Q=t σ H λvs H1=>∀ x dx,H1 x=none->H1 dx=none->dx≠x->sp (.ref x::vs) (upd (upd H1 dx (.own x)) x (.ins C dx [])) (λv H2=>v=.non/\Q (.ref x) H2) E:=by simp only [Ky,uj]
variable {a b:Str} {d:Bool}
theorem sL0:lS (.int k) (.int l)=true:=rfl
theorem sL1:lS (.bl c) (.bl d)=true:=rfl
theorem sL2:lS (.str a) (.str b)=true:=rfl
theorem sL3:lS .non (.int k)=true:=rfl
theorem sL4:lS (.int k) .non=true:=rfl
theorem sL5:lS .non (.str a)=true:=rfl
theorem sL6:lS (.str a) .non=true:=rfl
theorem sL7:lS .non .non=true:=rfl
theorem sL8:lS (.str a) (.int k)=true:=rfl
theorem sL9:lS (.int k) (.str a)=true:=rfl
end
end L2
set_option maxHeartbeats 4000000
set_option pp.deepTerms true
set_option pp.maxSteps 200000
namespace My
open PySem L2 PySem.Spec PyProof.Rows
def top (i:Nat):Stmt:=PySem.Challenge.pw_sealpress_k74_astray_and_no_place.main.body.getD i (.Pass ⟨0,0,0,0⟩)
local macro_rules | `(tactic| walk_at "sc") => `(tactic| exact ⟨rfl, rfl, rfl, by decide +kernel, rfl, by decide +kernel, by decide +kernel⟩)
abbrev J0:Stmt:=top 27
abbrev J1:Lj:=["number"]
abbrev v7:Lj:=["number"]
theorem Tb:zj J1 v7 (zf J0):=by walk_at "sc"
abbrev ZH:Stmt:=top 28
abbrev ZI:Lj:=["figures","number"]
abbrev wa:Lj:=["figures"]
theorem JB:zj ZI wa (zf ZH):=by walk_at "sc"
abbrev Qz:Stmt:=top 32
abbrev QB:Lj:=["state"]
abbrev wX:Lj:=["state"]
theorem zaj:zj QB wX (zf Qz):=by walk_at "sc"
abbrev yZ:Stmt:=top 34
abbrev y3:Lj:=["sign"]
abbrev jv:Lj:=["sign"]
theorem XO:zj y3 jv (zf yZ):=by walk_at "sc"
abbrev QC:Stmt:=top 35
abbrev QD:Lj:=["sign"]
abbrev ve:Lj:=["sign"]
theorem zak:zj QD ve (zf QC):=by walk_at "sc"
abbrev QF:Stmt:=top 36
abbrev QH:Lj:=["sign"]
abbrev vf:Lj:=["sign"]
theorem zal:zj QH vf (zf QF):=by walk_at "sc"
abbrev Ba:Stmt:=top 37
abbrev E3:Lj:=["talk","sign"]
abbrev JC:Lj:=["talk","sign"]
theorem NT:zj E3 JC (zf Ba):=by walk_at "sc"
abbrev J2:Stmt:=top 41
abbrev J3:Lj:=["mode","opens","events"]
abbrev zK:Lj:=["mode","opens","events"]
theorem Ta:zj J3 zK (zf J2):=by walk_at "sc"
abbrev A9:Stmt:=top 42
abbrev E2:Lj:=["mode","opens","sign"]
abbrev wD:Lj:=["mode","opens","sign"]
theorem NS:zj E2 wD (zf A9):=by walk_at "sc"
abbrev QJ:Stmt:=top 43
abbrev QK:Lj:=["mode","word","opens","talk","most"]
abbrev ql:Lj:=["mode","word","opens","talk","most"]
theorem zam:zj QK ql (zf QJ):=by walk_at "sc"
abbrev QL:Stmt:=top 44
abbrev QM:Lj:=["opens","events"]
abbrev jX:Lj:=["opens","events"]
theorem zan:zj QM jX (zf QL):=by walk_at "sc"
abbrev QN:Stmt:=top 45
abbrev QP:Lj:=["opens","events","mode"]
abbrev vg:Lj:=["opens","events"]
theorem WO:zj QP vg (zf QN):=by walk_at "sc"
abbrev XQ:Stmt:=top 46
abbrev XR:Lj:=["opens","sign","events"]
abbrev xM:Lj:=["opens","sign","events"]
theorem Rj:zj XR xM (zf XQ):=by walk_at "sc"
abbrev AJ:Stmt:=top 47
abbrev DO:Lj:=["opens","talk","sign","answer"]
abbrev J4:Lj:=["opens","talk","sign"]
theorem DN:zj DO J4 (zf AJ):=by walk_at "sc"
abbrev kN:Stmt:=top 48
abbrev kP:Lj:=["word","sign"]
abbrev jk:Lj:=["word","sign"]
theorem Vq:zj kP jk (zf kN):=by walk_at "sc"
abbrev J5:Stmt:=top 49
abbrev J6:Lj:=["word","opens","talk","sign"]
abbrev v8:Lj:=["word","opens","talk","sign"]
theorem S9:zj J6 v8 (zf J5):=by walk_at "sc"
abbrev J7:Stmt:=top 50
abbrev J8:Lj:=["word","opens","talk","sign"]
abbrev v9:Lj:=["word","opens","talk","sign"]
theorem S8:zj J8 v9 (zf J7):=by walk_at "sc"
abbrev J9:Stmt:=top 51
abbrev Wa:Lj:=["word","opens","talk","sign"]
abbrev ya:Lj:=["word","opens","talk","sign"]
theorem TM:zj Wa ya (zf J9):=by walk_at "sc"
abbrev Wb:Stmt:=top 52
abbrev Wc:Lj:=["word","opens","talk","sign"]
abbrev yb:Lj:=["word","opens","talk","sign"]
theorem TL:zj Wc yb (zf Wb):=by walk_at "sc"
abbrev QQ:Stmt:=top 53
abbrev QR:Lj:=["word","opens","talk","sign"]
abbrev vh:Lj:=["word","opens","talk","sign"]
theorem zao:zj QR vh (zf QQ):=by walk_at "sc"
abbrev Wd:Stmt:=top 54
abbrev We:Lj:=["word","opens","talk","sign"]
abbrev yc:Lj:=["word","opens","talk","sign"]
theorem TK:zj We yc (zf Wd):=by walk_at "sc"
abbrev XT:Stmt:=top 55
abbrev XU:Lj:=["word","opens","talk","sign"]
abbrev kn:Lj:=["word","opens","talk","sign"]
theorem Ri:zj XU kn (zf XT):=by walk_at "sc"
abbrev Wf:Stmt:=top 56
abbrev Wg:Lj:=["word","opens","talk","sign"]
abbrev yd:Lj:=["word","opens","talk","sign"]
theorem TJ:zj Wg yd (zf Wf):=by walk_at "sc"
abbrev Yx:Stmt:=top 57
abbrev Yy:Lj:=["word","opens","talk","sign"]
abbrev ZJ:Lj:=["word","opens","talk","sign"]
theorem P2:zj Yy ZJ (zf Yx):=by walk_at "sc"
abbrev Wh:Stmt:=top 58
abbrev Wi:Lj:=["word","opens","talk","sign"]
abbrev ye:Lj:=["word","opens","talk","sign"]
theorem TH:zj Wi ye (zf Wh):=by walk_at "sc"
abbrev Wj:Stmt:=top 59
abbrev Wk:Lj:=["word","opens","talk","sign"]
abbrev yf:Lj:=["word","opens","talk","sign"]
theorem TF:zj Wk yf (zf Wj):=by walk_at "sc"
abbrev Wl:Stmt:=top 60
abbrev Wm:Lj:=["word","opens","talk","sign"]
abbrev yg:Lj:=["word","opens","talk","sign"]
theorem TC:zj Wm yg (zf Wl):=by walk_at "sc"
abbrev XW:Stmt:=top 61
abbrev XX:Lj:=["word","opens","talk","sign"]
noncomputable abbrev ko:Lj:=["word","opens","talk","sign"]
theorem Rh:zj XX ko (zf XW):=by walk_at "sc"
noncomputable abbrev ZK:Stmt:=top 62
noncomputable abbrev ZL:Lj:=["word","opens","talk","sign"]
noncomputable abbrev xh:Lj:=["word","opens","talk","sign"]
theorem Yz:zj ZL xh (zf ZK):=by walk_at "sc"
noncomputable abbrev ZM:Stmt:=top 63
noncomputable abbrev ZN:Lj:=["word","opens","talk","sign"]
noncomputable abbrev xi:Lj:=["word","opens","talk","sign"]
theorem YA:zj ZN xi (zf ZM):=by walk_at "sc"
noncomputable abbrev QU:Stmt:=top 64
noncomputable abbrev QX:Lj:=["word","opens","talk","sign"]
noncomputable abbrev vi:Lj:=["word","opens","talk","sign"]
theorem T9:zj QX vi (zf QU):=by walk_at "sc"
noncomputable abbrev Wn:Stmt:=top 65
noncomputable abbrev Wo:Lj:=["word","opens","talk","sign"]
noncomputable abbrev yh:Lj:=["word","opens","talk","sign"]
theorem TB:zj Wo yh (zf Wn):=by walk_at "sc"
noncomputable abbrev Wq:Stmt:=top 66
noncomputable abbrev Wr:Lj:=["word","opens","talk","sign"]
noncomputable abbrev yi:Lj:=["word","opens","talk","sign"]
theorem Tz:zj Wr yi (zf Wq):=by walk_at "sc"
noncomputable abbrev QY:Stmt:=top 67
noncomputable abbrev QZ:Lj:=["word","opens","talk","sign"]
noncomputable abbrev vj:Lj:=["word","opens","talk","sign"]
theorem T8:zj QZ vj (zf QY):=by walk_at "sc"
noncomputable abbrev Qc:Stmt:=top 68
noncomputable abbrev Qd:Lj:=["word","opens","talk","sign","grown","events"]
noncomputable abbrev yj:Lj:=["word","opens","talk","sign"]
theorem Q0:zj Qd yj (zf Qc):=by walk_at "sc"
noncomputable abbrev YB:Stmt:=top 70
noncomputable abbrev YC:Lj:=["state","sign","act"]
noncomputable abbrev ZO:Lj:=["state","sign"]
theorem Fc:zj YC ZO (zf YB):=by walk_at "sc"
noncomputable abbrev YD:Stmt:=top 72
noncomputable abbrev YE:Lj:=[]
noncomputable abbrev yk:Lj:=[]
theorem P1:zj YE yk (zf YD):=by walk_at "sc"
noncomputable abbrev Bq:Stmt:=top 73
noncomputable abbrev E7:Lj:=["state","sign"]
noncomputable abbrev JD:Lj:=["state","sign"]
theorem NR:zj E7 JD (zf Bq):=by walk_at "sc"
noncomputable abbrev AL:Stmt:=top 74
noncomputable abbrev DM:Lj:=["state","text","now","events","at","sign","answer"]
noncomputable abbrev Q1:Lj:=["state","text"]
theorem Q2:zj DM Q1 (zf AL):=by walk_at "sc"
noncomputable abbrev XY:Stmt:=top 75
noncomputable abbrev XZ:Lj:=["state"]
noncomputable abbrev kq:Lj:=["state"]
theorem Rg:zj XZ kq (zf XY):=by walk_at "sc"
noncomputable abbrev Ws:Stmt:=top 76
noncomputable abbrev Wt:Lj:=["state"]
noncomputable abbrev wK:Lj:=["state"]
theorem Tw:zj Wt wK (zf Ws):=by walk_at "sc"
noncomputable abbrev vC:Stmt:=inClass (top 78) 0
noncomputable abbrev vD:Lj:=["self","state","turns","many"]
noncomputable abbrev qp:Lj:=["self","state","turns","many"]
theorem Wu:zj vD qp (zf vC):=by walk_at "sc"
noncomputable abbrev kQ:Stmt:=inClass (top 78) 1
noncomputable abbrev kR:Lj:=["self"]
noncomputable abbrev zU:Lj:=["self"]
theorem Vr:zj kR zU (zf kQ):=by walk_at "sc"
noncomputable abbrev Q3:Stmt:=inClass (top 78) 2
noncomputable abbrev Q4:Lj:=["self","state"]
noncomputable abbrev jD:Lj:=["self","state"]
theorem T7:zj Q4 jD (zf Q3):=by walk_at "sc"
noncomputable abbrev y7:Stmt:=inClass (top 78) 3
noncomputable abbrev y8:Lj:=["self","turn"]
noncomputable abbrev qY:Lj:=["self","turn"]
theorem X0:zj y8 qY (zf y7):=by walk_at "sc"
noncomputable abbrev wL:Stmt:=inClass (top 79) 0
noncomputable abbrev wM:Lj:=["self","kept"]
noncomputable abbrev qK:Lj:=["self","kept"]
theorem Ql:zj wM qK (zf wL):=by walk_at "sc"
noncomputable abbrev jG:Stmt:=inClass (top 79) 1
noncomputable abbrev wN:Lj:=["self","pieces","spot","now","piece"]
noncomputable abbrev zw:Lj:=["self","pieces","spot"]
theorem qL:zj wN zw (zf jG):=by walk_at "sc"
noncomputable abbrev je:Stmt:=inClass (top 79) 2
noncomputable abbrev jY:Lj:=["self","piece","spot","word"]
noncomputable abbrev zS:Lj:=["self","piece","spot"]
theorem xG:zj jY zS (zf je):=by walk_at "sc"
noncomputable abbrev jH:Stmt:=inClass (top 79) 3
noncomputable abbrev jI:Lj:=["self","piece","spot","answer","refusal"]
noncomputable abbrev zI:Lj:=["self","piece","spot"]
theorem jw:zj jI zI (zf jH):=by walk_at "sc"
noncomputable abbrev wk:Stmt:=inClass (top 79) 4
noncomputable abbrev wm:Lj:=["self","piece","spot","place"]
noncomputable abbrev zZ:Lj:=["self","piece","spot"]
theorem vk:zj wm zZ (zf wk):=by walk_at "sc"
noncomputable abbrev jn:Stmt:=inClass (top 79) 5
noncomputable abbrev wo:Lj:=["self","piece","spot","passed","end"]
noncomputable abbrev z7:Lj:=["self","piece","spot"]
theorem jZ:zj wo z7 (zf jn):=by walk_at "sc"
noncomputable abbrev jR:Stmt:=inClass (top 79) 6
noncomputable abbrev xj:Lj:=["self","piece","spot","one","other"]
noncomputable abbrev qq:Lj:=["self","piece","spot"]
theorem wO:zj xj qq (zf jR):=by walk_at "sc"
noncomputable abbrev jo:Stmt:=inClass (top 79) 7
noncomputable abbrev wq:Lj:=["self","piece","spot","floor","end"]
noncomputable abbrev z8:Lj:=["self","piece","spot"]
theorem j0:zj wq z8 (zf jo):=by walk_at "sc"
noncomputable abbrev vm:Lj:=["self","piece","spot","pair","part","first","behind"]
noncomputable abbrev ZP:Stmt:=top 80
noncomputable abbrev ZQ:Lj:=["pieces","kept","looking","end"]
noncomputable abbrev xk:Lj:=["pieces","kept"]
theorem kS:zj ZQ xk (zf ZP):=by walk_at "sc"
noncomputable abbrev Bp:Stmt:=top 81
noncomputable abbrev E6:Lj:=["pieces"]
noncomputable abbrev JE:Lj:=["pieces"]
theorem NQ:zj E6 JE (zf Bp):=by walk_at "sc"
noncomputable abbrev y9:Stmt:=top 83
noncomputable abbrev ka:Lj:=["piece"]
noncomputable abbrev j4:Lj:=["piece"]
theorem X1:zj ka j4 (zf y9):=by walk_at "sc"
noncomputable abbrev X2:Stmt:=top 84
noncomputable abbrev X3:Lj:=["pieces","place","things","ahead","turns","piece"]
noncomputable abbrev vT:Lj:=["pieces","place"]
theorem ku:zj X3 vT (zf X2):=by walk_at "sc"
noncomputable abbrev Q5:Stmt:=top 85
noncomputable abbrev Q6:Lj:=["pieces","place","state","aside","thing"]
noncomputable abbrev vn:Lj:=["pieces","place"]
theorem j5:zj Q6 vn (zf Q5):=by walk_at "sc"
noncomputable abbrev ZR:Stmt:=top 87
noncomputable abbrev ZS:Lj:=["_law_script","_law_k","_law_number"]
noncomputable abbrev xl:Lj:=["_law_script","_law_k"]
theorem kT:zj ZS xl (zf ZR):=by walk_at "sc"
noncomputable abbrev Q7:Stmt:=top 88
noncomputable abbrev Q8:Lj:=["_law_cell_here","_law_k","_law_many","_law_first","_law_second","_law_number"]
noncomputable abbrev qT:Lj:=["_law_cell_here","_law_k","_law_many"]
theorem yz:zj Q8 qT (zf Q7):=by walk_at "sc"
noncomputable abbrev kU:Stmt:=top 89
noncomputable abbrev kW:Lj:=["_law_e"]
noncomputable abbrev wx:Lj:=["_law_e"]
theorem Vs:zj kW wx (zf kU):=by walk_at "sc"
noncomputable abbrev ZT:Stmt:=top 90
noncomputable abbrev ZU:Lj:=["_law_cell_here","_law_k"]
noncomputable abbrev qQ:Lj:=["_law_cell_here","_law_k"]
theorem YF:zj ZU qQ (zf ZT):=by walk_at "sc"
noncomputable abbrev kX:Stmt:=top 91
noncomputable abbrev kY:Lj:=["_law_word","_law_mark","_law_kind","_law_bad","_law_ahead","_law_turn"]
noncomputable abbrev jl:Lj:=["_law_word","_law_mark","_law_kind"]
theorem xU:zj kY jl (zf kX):=by walk_at "sc"
noncomputable abbrev yA:Stmt:=top 92
noncomputable abbrev ZV:Lj:=["_law_cell_here","_law_kind","_law_deep","_law_plants","_law_found","_law_due_here","_law_k","_law_plant","_law_more"]
noncomputable abbrev qj:Lj:=["_law_cell_here","_law_kind","_law_deep","_law_plants"]
theorem qu:zj ZV qj (zf yA):=by walk_at "sc"
noncomputable abbrev yB:Stmt:=top 93
noncomputable abbrev ZW:Lj:=["_law_cell_here","_law_kind","_law_deep","_law_plants","_law_way","_law_name","_law_one","_law_due_here","_law_other_here","_law_word"]
noncomputable abbrev wc:Lj:=["_law_cell_here","_law_kind","_law_deep","_law_plants"]
theorem jJ:zj ZW wc (zf yB):=by walk_at "sc"
noncomputable abbrev xV:Stmt:=top 94
noncomputable abbrev kb:Lj:=["_law_cell_here","_law_lead","_law_kind","_law_close","_law_deep","_law_plants","_law_one","_law_due_here"]
noncomputable abbrev jx:Lj:=["_law_cell_here","_law_lead","_law_kind","_law_close","_law_deep","_law_plants"]
theorem yl:zj kb jx (zf xV):=by walk_at "sc"
noncomputable abbrev wF:Stmt:=top 95
noncomputable abbrev vE:Lj:=["_law_cell_here","_law_kind","_law_deep","_law_plants","_law_way","_law_lead","_law_tag","_law_due_here","_law_inner_here","_law_more"]
noncomputable abbrev qr:Lj:=["_law_cell_here","_law_kind","_law_deep","_law_plants"]
theorem zF:zj vE qr (zf wF):=by walk_at "sc"
noncomputable abbrev ZX:Stmt:=top 96
noncomputable abbrev ZY:Lj:=["_law_cell_here","_law_plants","_law_found","_law_due_here","_law_plant"]
noncomputable abbrev xm:Lj:=["_law_cell_here","_law_plants"]
theorem xn:zj ZY xm (zf ZX):=by walk_at "sc"
noncomputable abbrev kc:Stmt:=top 97
noncomputable abbrev ke:Lj:=["_law_piece","_law_mark"]
noncomputable abbrev jy:Lj:=["_law_piece","_law_mark"]
theorem X4:zj ke jy (zf kc):=by walk_at "sc"
noncomputable abbrev yC:Stmt:=top 98
noncomputable abbrev ZZ:Lj:=["_law_pieces","_law_turns","_law_many","_law_piece","_law_inner_here"]
noncomputable abbrev zW:Lj:=["_law_pieces"]
theorem zN:zj ZZ zW (zf yC):=by walk_at "sc"
noncomputable abbrev kZ:Stmt:=top 99
noncomputable abbrev k7:Lj:=["_law_piece"]
noncomputable abbrev qU:Lj:=["_law_piece"]
theorem Vt:zj k7 qU (zf kZ):=by walk_at "sc"
noncomputable abbrev yD:Stmt:=top 100
noncomputable abbrev Z0:Lj:=["_law_pieces","_law_mark","_law_turns","_law_many","_law_piece","_law_more","_law_things","_law_inner_here","_law_found","_law_ahead"]
noncomputable abbrev qk:Lj:=["_law_pieces","_law_mark"]
theorem zX:zj Z0 qk (zf yD):=by walk_at "sc"
noncomputable abbrev xo:Stmt:=top 101
noncomputable abbrev ym:Lj:=["_law_pieces","_law_mark","_law_piece","_law_more","_law_things","_law_inner_here","_law_found"]
noncomputable abbrev zD:Lj:=["_law_pieces","_law_mark"]
theorem qG:zj ym zD (zf xo):=by walk_at "sc"
noncomputable abbrev Q9:Stmt:=top 102
noncomputable abbrev Ja:Lj:=["_law_pieces","_law_word","_law_mark","_law_turns","_law_many","_law_text"]
noncomputable abbrev vo:Lj:=["_law_pieces","_law_word","_law_mark"]
theorem yE:zj Ja vo (zf Q9):=by walk_at "sc"
noncomputable abbrev kf:Stmt:=top 103
noncomputable abbrev kg:Lj:=["_law_pieces","_law_found","_law_e"]
noncomputable abbrev jz:Lj:=["_law_pieces"]
theorem yn:zj kg jz (zf kf):=by walk_at "sc"
noncomputable abbrev yo:Stmt:=top 104
noncomputable abbrev yp:Lj:=["_law_e"]
noncomputable abbrev jM:Lj:=["_law_e"]
theorem WV:zj yp jM (zf yo):=by walk_at "sc"
noncomputable abbrev Jb:Stmt:=top 105
noncomputable abbrev Jc:Lj:=["_law_state","_law_text","_law_e"]
noncomputable abbrev vp:Lj:=["_law_state","_law_text"]
theorem WQ:zj Jc vp (zf Jb):=by walk_at "sc"
noncomputable abbrev k8:Stmt:=top 106
noncomputable abbrev k9:Lj:=["_law_pieces","_law_due_here","_law_place","_law_state","_law_ahead"]
noncomputable abbrev wy:Lj:=["_law_pieces","_law_due_here"]
theorem wz:zj k9 wy (zf k8):=by walk_at "sc"
noncomputable abbrev wQ:Stmt:=top 107
noncomputable abbrev wR:Lj:=["_law_found"]
noncomputable abbrev qM:Lj:=["_law_found"]
theorem Qm:zj wR qM (zf wQ):=by walk_at "sc"
noncomputable abbrev Za:Stmt:=top 108
noncomputable abbrev Zb:Lj:=["_law_cell_here","_law_word","_law_pieces","_law_due_here","_law_found"]
noncomputable abbrev wA:Lj:=["_law_cell_here","_law_word"]
theorem xW:zj Zb wA (zf Za):=by walk_at "sc"
noncomputable abbrev AK:Stmt:=top 109
noncomputable abbrev DL:Lj:=["_law_script","_law_k","_law_cell_here","_law_some_here"]
noncomputable abbrev YG:Lj:=["_law_script"]
theorem X5:zj DL YG (zf AK):=by walk_at "sc"
noncomputable abbrev Jd:Stmt:=inClass (top 4) 0
theorem T5:zj ["self","at"] ["self","at"] (zf Jd):=by walk_at "sc"
noncomputable abbrev Je:Stmt:=inClass (top 15) 0
theorem T4:zj ["self","place","at"] ["self","place","at"] (zf Je):=by walk_at "sc"
noncomputable abbrev Jf:Stmt:=inClass (top 17) 0
theorem T3:zj ["self","what","one","other"] ["self","what","one","other"] (zf Jf):=by walk_at "sc"
noncomputable abbrev Z1:Stmt:=inClass (top 16) 0
theorem YH:zj ["self","name","place"] ["self","name","place"] (zf Z1):=by walk_at "sc"
noncomputable abbrev Zc:Stmt:=inClass (top 18) 0
theorem Vu:zj ["self","place"] ["self","place"] (zf Zc):=by walk_at "sc"
theorem cxK {CX:ma}{P:Program}{w:World}{K:Lf}{mg:La}{base:Heap}{N:Lj}{qual:Str}{scope:Scope}{f:Addr}{cd:Value}{A:Around}{outer:List Env}{s:Shared}{H:Hp}{E:XK}:(iK CX P w K mg base N qual scope f cd A outer s H E).nox.K=K:=rfl
theorem CO {CX:ma}{P:Program}{w:World}{K:Lf}{mg:La}{base:Heap}{N:Lj}{qual:Str}{scope:Scope}{f:Addr}{cd:Value}{A:Around}{outer:List Env}{s:Shared}{H:Hp}{E:XK}:(iK CX P w K mg base N qual scope f cd A outer s H E).K=K:=rfl
theorem nc0:((0:Nat):Int)=0:=rfl
theorem nc1:((1:Nat):Int)=1:=rfl
theorem nc2:((2:Nat):Int)=2:=rfl
theorem nc3:((3:Nat):Int)=3:=rfl
theorem BY:((94:Nat):Int)=94:=rfl
theorem CP {X:Cx}{x:Str}{scope:Scope}{cl:List (Str×Addr)}{C:Addr}{s3:Shared}{H3:Hp}{fp:Le}:(rJ X x scope cl C s3 H3 fp).K=X.K:=rfl
theorem NP {K:Lf}{x:Str}{H:Hp}:se K "str" (.str x) H=True:=by simp [se]
theorem FR {A B:Prop}:(if true=true then A else B)=A:=by simp
theorem FQ {A B:Prop}:(if false=true then A else B)=B:=by simp
theorem CN {CX:ma}{P:Program}{w:World}{K:Lf}{mg:La}{base:Heap}{N:Lj}{qual:Str}{scope:Scope}{f:Addr}{cd:Value}{A:Around}{outer:List Env}{s:Shared}{H:Hp}{E:XK}:(iK CX P w K mg base N qual scope f cd A outer s H E).hot.nox.K=K:=rfl
set_option genInjectivity false in
structure iR where
 SealError:Addr
 NoSign:Addr
 NoCode:Addr
 Unread:Addr
 Unended:Addr
 NoPage:Addr
 NoName:Addr
 NoSheet:Addr
 Twice:Addr
 TooMany:Addr
 Unknown:Addr
 RingOver:Addr
 Ringed:Addr
 NoElder:Addr
 Astray:Addr
 NoPlace:Addr
 Unlike:Addr
 LeftOpen:Addr
 NoValue:Addr
 NoKind:Addr
 NoRow:Addr
 Spot:Addr
 Looking:Addr
 PLACE_MODES:Addr
 at_text:Addr
 at_mark:Addr
 at_open:Addr
 at_name:Addr
 at_slash:Addr
 at_shut:Addr
 at_gap:Addr
 at_attr:Addr
 at_is:Addr
 at_bang:Addr
 at_bare:Addr
 at_code:Addr
 at_row:Addr
 at_stroke:Addr
 at_quoted:Addr
 at_qmark:Addr
 at_done:Addr
 at_talk:Addr
 at_tmark:Addr
 at_asis:Addr
noncomputable def nV (t:iR):List (Tx×lW×Addr):=[(xF,KW,t.at_text),(tX,KY,t.at_mark),(AG,KZ,t.at_open),(KS,aName,t.at_name),(Bc,XB,t.at_slash),(VT,Js,t.at_shut),(rn,oq,t.at_gap),(tW,K0,t.at_attr),(BZ,tE,t.at_is),(AF,K1,t.at_bang),(vX,K2,t.at_bare),(tV,K3,t.at_code),(lq,oo,t.at_row),(Yp,Jt,t.at_stroke),(jF,Ju,t.at_quoted),(Yq,XC,t.at_qmark),(KU,K4,t.at_done),(Zu,K5,t.at_talk),(Yr,XD,t.at_tmark),(Jr,K6,t.at_asis)]
noncomputable def rm (t:iR):List (Key×V):=(nV t).map λe=>(.inr (S e.1),.ref e.2.2)
theorem P0 (t:iR):VX=(nV t).map λe=>(e.1,e.2.1):=rfl
theorem Fb (m:Tx):∀ l:List (Tx×lW×Addr),(∃ e∈l,iI (l.map λe=>((.inr (S e.1):Key),V.ref e.2.2)) (.inr (S m))=some (.ref e.2.2)/\(l.map λe=>(e.1,e.2.1)).lookup m=some e.2.1) \/
  (iI (l.map λe=>((.inr (S e.1):Key),V.ref e.2.2)) (.inr (S m))=none/\(l.map λe=>(e.1,e.2.1)).lookup m=none)
 | []=>.inr ⟨rfl,rfl⟩
 | e::l=>by
  by_cases h:e.1=m
  ·refine .inl ⟨e,Up,?_,?_⟩
   ·rw [uw,Jw (by show(Sum.inr (S e.1):Key)=Sum.inr (S m);rw [h])]
   ·rw [uw,u4,h];simp
  ·have e1:iI ((e::l).map λe=>((.inr (S e.1):Key),V.ref e.2.2)) (.inr (S m))=iI (l.map λe=>((.inr (S e.1):Key),V.ref e.2.2)) (.inr (S m)):=by
    rw [uw,Jx (by intro z;exact h (yu.mp (Sum.inr.inj z)))]
   have e2:((e::l).map λe=>(e.1,e.2.1)).lookup m=(l.map λe=>(e.1,e.2.1)).lookup m:=by
    rw [uw,u4]
    have:(m == e.1)=false:=uN.mpr λz=>h z.symm
    simp [this]
   rw [e1,e2]
   rcases Fb m l with⟨e',h1,h2⟩ | h2
   ·exact .inl ⟨e',uL _ h1,h2⟩
   ·exact .inr h2
structure Txt (w:World)(K:Lf)(mg:La)(t:iR):Prop where
 m_SealError:mg "SealError" = some (.ref t.SealError)
 m_NoSign:mg "NoSign" = some (.ref t.NoSign)
 m_NoCode:mg "NoCode" = some (.ref t.NoCode)
 m_Unread:mg "Unread" = some (.ref t.Unread)
 m_Unended:mg "Unended" = some (.ref t.Unended)
 m_NoPage:mg "NoPage" = some (.ref t.NoPage)
 m_NoName:mg "NoName" = some (.ref t.NoName)
 m_NoSheet:mg "NoSheet" = some (.ref t.NoSheet)
 m_Twice:mg "Twice" = some (.ref t.Twice)
 m_TooMany:mg "TooMany" = some (.ref t.TooMany)
 m_Unknown:mg "Unknown" = some (.ref t.Unknown)
 m_RingOver:mg "RingOver" = some (.ref t.RingOver)
 m_Ringed:mg "Ringed" = some (.ref t.Ringed)
 m_NoElder:mg "NoElder" = some (.ref t.NoElder)
 m_Astray:mg "Astray" = some (.ref t.Astray)
 m_NoPlace:mg "NoPlace" = some (.ref t.NoPlace)
 m_Unlike:mg "Unlike" = some (.ref t.Unlike)
 m_LeftOpen:mg "LeftOpen" = some (.ref t.LeftOpen)
 m_NoValue:mg "NoValue" = some (.ref t.NoValue)
 m_NoKind:mg "NoKind" = some (.ref t.NoKind)
 m_NoRow:mg "NoRow" = some (.ref t.NoRow)
 m_Spot:mg "Spot" = some (.ref t.Spot)
 m_Looking:mg "Looking" = some (.ref t.Looking)
 m_at_text:mg "at_text" = some (.ref t.at_text)
 m_at_mark:mg "at_mark" = some (.ref t.at_mark)
 m_at_open:mg "at_open" = some (.ref t.at_open)
 m_at_name:mg "at_name" = some (.ref t.at_name)
 m_at_slash:mg "at_slash" = some (.ref t.at_slash)
 m_at_shut:mg "at_shut" = some (.ref t.at_shut)
 m_at_gap:mg "at_gap" = some (.ref t.at_gap)
 m_at_attr:mg "at_attr" = some (.ref t.at_attr)
 m_at_is:mg "at_is" = some (.ref t.at_is)
 m_at_bang:mg "at_bang" = some (.ref t.at_bang)
 m_at_bare:mg "at_bare" = some (.ref t.at_bare)
 m_at_code:mg "at_code" = some (.ref t.at_code)
 m_at_row:mg "at_row" = some (.ref t.at_row)
 m_at_stroke:mg "at_stroke" = some (.ref t.at_stroke)
 m_at_quoted:mg "at_quoted" = some (.ref t.at_quoted)
 m_at_qmark:mg "at_qmark" = some (.ref t.at_qmark)
 m_at_done:mg "at_done" = some (.ref t.at_done)
 m_at_talk:mg "at_talk" = some (.ref t.at_talk)
 m_at_tmark:mg "at_tmark" = some (.ref t.at_tmark)
 m_at_asis:mg "at_asis" = some (.ref t.at_asis)
 c_SealError:lg K t.SealError
 c_Unread:lg K t.Unread
 u_SealError:pU K t.SealError=true
 k_Unread:PySem.W.keepIn K (.ref t.Unread)=true
 n_Unread_at:PySem.W.findIn K (.ref t.Unread) "at" = some none
 kit_up_ur:PySem.W.mroIn K t.Unread (.ref t.Unread)=some true
 c_Astray:lg K t.Astray
 k_Astray:PySem.W.keepIn K (.ref t.Astray)=true
 n_Astray_place:PySem.W.findIn K (.ref t.Astray) "place" = some none
 n_Astray_at:PySem.W.findIn K (.ref t.Astray) "at" = some none
 kit_Astray_se:PySem.W.mroIn K t.Astray (.ref t.SealError)=some true
 kit_Astray_l1:PySem.W.kitAny K (.ref t.Astray) [.ref t.NoCode,.ref t.NoElder,.ref t.NoKind,.ref t.NoName,.ref t.NoPage,.ref t.NoRow,.ref t.NoSheet,.ref t.NoSign,.ref t.Unread]=some false
 kit_Astray_l2:PySem.W.kitAny K (.ref t.Astray) [.ref t.NoValue,.ref t.RingOver,.ref t.Ringed,.ref t.TooMany,.ref t.Twice,.ref t.Unended,.ref t.Unknown]=some false
 kit_Astray_ve:PySem.W.kitOne K (.ref t.Astray) (.type "ValueError")=some true
 kit_Astray_a:PySem.W.kitOne K (.ref t.Astray) (.ref t.Astray)=some true
 kit_Astray_o:PySem.W.kitAny K (.ref t.Astray) [.ref t.NoPlace,.ref t.Unlike,.ref t.LeftOpen]=some false
 c_Unlike:lg K t.Unlike
 k_Unlike:PySem.W.keepIn K (.ref t.Unlike)=true
 n_Unlike_what:PySem.W.findIn K (.ref t.Unlike) "what" = some none
 n_Unlike_one:PySem.W.findIn K (.ref t.Unlike) "one" = some none
 n_Unlike_other:PySem.W.findIn K (.ref t.Unlike) "other" = some none
 kit_Unlike_se:PySem.W.mroIn K t.Unlike (.ref t.SealError)=some true
 kit_Unlike_l1:PySem.W.kitAny K (.ref t.Unlike) [.ref t.NoCode,.ref t.NoElder,.ref t.NoKind,.ref t.NoName,.ref t.NoPage,.ref t.NoRow,.ref t.NoSheet,.ref t.NoSign,.ref t.Unread]=some false
 kit_Unlike_l2:PySem.W.kitAny K (.ref t.Unlike) [.ref t.NoValue,.ref t.RingOver,.ref t.Ringed,.ref t.TooMany,.ref t.Twice,.ref t.Unended,.ref t.Unknown]=some false
 kit_Unlike_ve:PySem.W.kitOne K (.ref t.Unlike) (.type "ValueError")=some true
 kit_Unlike_a:PySem.W.kitOne K (.ref t.Unlike) (.ref t.Astray)=some false
 kit_Unlike_n:PySem.W.kitOne K (.ref t.Unlike) (.ref t.NoPlace)=some false
 kit_Unlike_u:PySem.W.kitOne K (.ref t.Unlike) (.ref t.Unlike)=some true
 kit_Unlike_o:PySem.W.kitOne K (.ref t.Unlike) (.ref t.LeftOpen)=some false
 c_NoPlace:lg K t.NoPlace
 k_NoPlace:PySem.W.keepIn K (.ref t.NoPlace)=true
 n_NoPlace_name:PySem.W.findIn K (.ref t.NoPlace) "name" = some none
 n_NoPlace_place:PySem.W.findIn K (.ref t.NoPlace) "place" = some none
 kit_NoPlace_se:PySem.W.mroIn K t.NoPlace (.ref t.SealError)=some true
 kit_NoPlace_l1:PySem.W.kitAny K (.ref t.NoPlace) [.ref t.NoCode,.ref t.NoElder,.ref t.NoKind,.ref t.NoName,.ref t.NoPage,.ref t.NoRow,.ref t.NoSheet,.ref t.NoSign,.ref t.Unread]=some false
 kit_NoPlace_l2:PySem.W.kitAny K (.ref t.NoPlace) [.ref t.NoValue,.ref t.RingOver,.ref t.Ringed,.ref t.TooMany,.ref t.Twice,.ref t.Unended,.ref t.Unknown]=some false
 kit_NoPlace_ve:PySem.W.kitOne K (.ref t.NoPlace) (.type "ValueError")=some true
 kit_NoPlace_a:PySem.W.kitOne K (.ref t.NoPlace) (.ref t.Astray)=some false
 kit_NoPlace_n:PySem.W.kitOne K (.ref t.NoPlace) (.ref t.NoPlace)=some true
 kit_NoPlace_o:PySem.W.kitAny K (.ref t.NoPlace) [.ref t.Unlike,.ref t.LeftOpen]=some false
 c_LeftOpen:lg K t.LeftOpen
 k_LeftOpen:PySem.W.keepIn K (.ref t.LeftOpen)=true
 n_LeftOpen_place:PySem.W.findIn K (.ref t.LeftOpen) "place" = some none
 kit_LeftOpen_se:PySem.W.mroIn K t.LeftOpen (.ref t.SealError)=some true
 kit_LeftOpen_l1:PySem.W.kitAny K (.ref t.LeftOpen) [.ref t.NoCode,.ref t.NoElder,.ref t.NoKind,.ref t.NoName,.ref t.NoPage,.ref t.NoRow,.ref t.NoSheet,.ref t.NoSign,.ref t.Unread]=some false
 kit_LeftOpen_l2:PySem.W.kitAny K (.ref t.LeftOpen) [.ref t.NoValue,.ref t.RingOver,.ref t.Ringed,.ref t.TooMany,.ref t.Twice,.ref t.Unended,.ref t.Unknown]=some false
 kit_LeftOpen_ve:PySem.W.kitOne K (.ref t.LeftOpen) (.type "ValueError")=some true
 kit_LeftOpen_a:PySem.W.kitOne K (.ref t.LeftOpen) (.ref t.Astray)=some false
 kit_LeftOpen_n:PySem.W.kitOne K (.ref t.LeftOpen) (.ref t.NoPlace)=some false
 kit_LeftOpen_u:PySem.W.kitOne K (.ref t.LeftOpen) (.ref t.Unlike)=some false
 kit_LeftOpen_o:PySem.W.kitOne K (.ref t.LeftOpen) (.ref t.LeftOpen)=some true
 g_SIGNS:∃ u,mg "SIGNS" = some u/\RelV (.str (S sg)) u
 g_FIGURES:∃ u,mg "FIGURES" = some u/\RelV (.str (S fg)) u
 g_LETTERS:∃ u,mg "LETTERS" = some u/\RelV (.str (S lt)) u
 g_LONGEST_NAME:∃ u,mg "LONGEST_NAME" = some u/\RelV (.int 8) u
 g_WORDSIGNS:∃ u,mg "WORDSIGNS" = some u/\RelV (.str (S ws)) u
 g_ASIS_END:∃ u,mg "ASIS_END" = some u/\RelV (.str (S kJ)) u
 g_MARK_FIGURES:∃ u,mg "MARK_FIGURES" = some u/\RelV (.int 2) u
 d_MODES:∃ a,mg "MODES" = some (.ref a)/\sj w K a (rm t)
 m_PLACE_MODES:mg "PLACE_MODES" = some (.ref t.PLACE_MODES)
 s_PLACE_MODES:∀ H,f7 K H t.PLACE_MODES [.str (S xF),.str (S vX),.str (S lq),.str (S jF)]
 z_len:mg "len" = none
 z_max:mg "max" = none
 z_min:mg "min" = none
 z_int:mg "int" = none
 z_str:mg "str" = none
 z_tuple:mg "tuple" = none
 z_list:mg "list" = none
 z_range:mg "range" = none
 z_enumerate:mg "enumerate" = none
 z_isinstance:mg "isinstance" = none
 z_ValueError:mg "ValueError" = none
 l_Spot:mB K t.Spot
 l_Looking:mB K t.Looking
 a_state:vy K t.Spot "state"
 a_turns:vy K t.Spot "turns"
 a_many:vy K t.Spot "many"
 a_kept:vy K t.Looking "kept"
 a_holes:vy K t.Looking "holes"
 a_pairs:vy K t.Looking "pairs"
theorem Tv {P:Program}{w:World}{K:Lf}{mg:La}{base:Heap}{t:iR}(T:Txt w K mg t)(D:nS K t.Unread "Unread.__init__" Jd ["self","at"]):Ai P w K mg base "Unread" t.Unread "at" nz:=by obtain⟨fI,fd,oI,i1,i2,i3,F,b⟩:=D.ex;refine⟨T.m_Unread,T.c_Unread,T.k_Unread,fI,fd,oI,_,i1,i2,i3,b,?_⟩;refine F.ok T5 (λvs H Q E h=>by obtain⟨a,v,rfl,_⟩:=h;rfl) λcdv A outer s H vs Q E hr h=>?_;obtain⟨a,v,rfl,ea,hp,q⟩:=h;exact⟨_,wu (Z7 (Jo (C:=t.Unread) T.m_SealError T.u_SealError T.c_Unread (w6 (pv 0) (w6 (AI (pv 1)) JP)))) (Z6 (Jp T.c_Unread T.n_Unread_at (pv 0) (pv 1))),SD ea hp q⟩
theorem drawn {ys:List V}{n:Nat}(hl:ys.length=n)(h:∀ (i:Nat) v,ys[i]? = some v->∃ c∈sg,v=V.str (S [c])) : ∃ t:Ld,t.length=n/\(∀ c∈t,c∈sg)/\ys=(t.map λc=>[c]).map (λl=>V.str (S l)):=by
 induction ys generalizing n with
 | nil=>exact⟨[],hl,by simp,rfl⟩
 | cons y ys ih=>
  obtain⟨c,hc,rfl⟩:=h 0 y rfl;obtain⟨t,e1,e2,e3⟩:=ih (n:=ys.length) rfl λi v e=>h (i+1) v (by simpa using e);refine⟨c::t,by rw [uo,e1,← hl];rfl,λd hd=>?_,by rw [e3];rfl⟩;rcases uq.mp hd with rfl | hd
  ·exact hc
  ·exact e2 d hd
noncomputable def lZ (F:lW):Sp:=λvs H Q _=>∃ (w:Tx) (oa:Addr) (op:List Tx) (t:Tx) (c:Nat),vs=[.str (S w),.ref oa,.str (S t),.str (S [c])]/\mh H oa op/\w.length<=1000/\op.length<=100000/\∀ v H',fO H H'->mQ (λa=>H a=none) H' v (F w op t c)->Q v H'
noncomputable def Zd:Sp:=λvs H Q _=>∃ n:Nat,vs=[.int n]/\n<94/\∀ c H',sg[n]? = some c->fO H H'->Q (.str (S [c])) H'
noncomputable def xp:Sp:=λvs H Q _=>∃ l,vs=[.str (S l)]/\l.length<=2000/\∀ H',fO H H'->Q (oV (L2.told l)) H'
noncomputable def j6:Sp:=λvs H Q _=>∃ c:Nat,vs=[.str (S [c])]/\∀ v H',fO H H'->pN (λa=>H a=none) H' v (oh c)->Q v H'
noncomputable def yF:Sp:=λvs H Q _=>∃ c:Nat,vs=[.str (S [c])]/\∀ v H',fO H H'->pN (λa=>H a=none) H' v (rF c)->Q v H'
noncomputable def yG:Sp:=λvs H Q _=>∃ c:Nat,vs=[.str (S [c])]/\∀ v H',fO H H'->pN (λa=>H a=none) H' v (rG c)->Q v H'
noncomputable def Xa:Sp:=λvs H Q _=>∃ (t:Tx) (c:Nat),vs=[.str (S t),.str (S [c])]/\∀ v H',fO H H'->pN (λa=>H a=none) H' v (VW t c)->Q v H'
noncomputable def zQ:Sp:=λvs H Q _=>∃ (m:Tx) (oa:Addr) (op:List Tx) (ea:Addr) (es:List Ev),vs=[.str (S m),.ref oa,.ref ea]/\mh H oa op/\mq H ea es/\∀ v H',fO H H'->mQ (λa=>a=ea) H' v (ja m op es)->Q v H'
noncomputable def xq:Sp:=λvs H Q _=>∃ (m:Tx) (oa:Addr) (op:List Tx) (o:Option Nat),vs=[.str (S m),.ref oa,oV o]/\mh H oa op/\∀ v H',fO H H'->mQ (λa=>H a=none) H' v (Qq m op o)->Q v H'
noncomputable def qx:Sp:=λvs H Q _=>∃ (m w:Tx) (oa:Addr) (op:List Tx) (t:Tx) (n:Nat),vs=[.str (S m),.str (S w),.ref oa,.str (S t),.int n]/\mh H oa op/\w.length<=2000/\∀ v H',fO H H'->mQ (λa=>H a=none) H' v (lM m w op t n)->Q v H'
noncomputable def wY:Sp:=λvs H Q _=>∃ (oa:Addr) (op:List Tx) (ea:Addr) (es:List Ev),vs=[.ref oa,.ref ea]/\mh H oa op/\mq H ea es/\es.length<=1000/\∀ v H',fO H H'->mQ (λa=>H a=none) H' v (kK op es)->Q v H'
noncomputable def yH:Sp:=λvs H Q _=>∃ (oa:Addr) (op:List Tx) (ea:Addr) (es:List Ev),vs=[.ref oa,.ref ea]/\mh H oa op/\mq H ea es/\es.length<=1000/\∀ v H',fO H H'->mQ (λa=>H a=none) H' v (yw op es)->Q v H'
noncomputable def vU:Sp:=λvs H Q _=>∃ (oa:Addr) (op:List Tx) (c:Nat) (ea:Addr) (es:List Ev),vs=[.ref oa,.str (S [c]),.ref ea]/\mh H oa op/\mq H ea es/\es.length<=1000/\∀ v H',fO H H'->mQ (λa=>H a=none\/a=ea) H' v (VU op c es)->Q v H'
noncomputable def X6:Sp:=λvs H Q _=>∃ (oa:Addr) (op:List Tx) (t:Tx) (o:Option Nat),vs=[.ref oa,.str (S t),oV o]/\mh H oa op/\∀ v H',fO H H'->mQ (λa=>H a=none) H' v (nB op t o)->Q v H'
noncomputable def jN:Sp:=λvs H Q _=>∃ (w:Tx) (c:Nat),vs=[.str (S w),.str (S [c])]/\w.length<=1000/\∀ H',fO H H'->Q (oV (WL w c)) H'
noncomputable def Ze:Sp:=lZ KW
noncomputable def Zf:Sp:=lZ KY
noncomputable def Zg:Sp:=lZ KZ
noncomputable def Zh:Sp:=lZ aName
noncomputable def yI:Sp:=lZ XB
noncomputable def Zi:Sp:=lZ Js
noncomputable def Qe:Sp:=lZ oq
noncomputable def Zj:Sp:=lZ K0
noncomputable def JF:Sp:=lZ tE
noncomputable def Zk:Sp:=lZ K1
noncomputable def Zl:Sp:=lZ K2
noncomputable def Zm:Sp:=lZ K3
noncomputable def Qf:Sp:=lZ oo
noncomputable def vJ:Sp:=lZ Jt
noncomputable def vK:Sp:=lZ Ju
noncomputable def yJ:Sp:=lZ XC
noncomputable def Zn:Sp:=lZ K4
noncomputable def Zo:Sp:=lZ K5
noncomputable def yK:Sp:=lZ XD
noncomputable def Zp:Sp:=lZ K6
noncomputable def Z2:Sp:=λvs H Q _=>∃ (x:V) (s:MS) (c:Nat),vs=[x,.str (S [c])]/\lI H x s/\s.word.length<=1000/\s.opens.length<=100000/\∀ v H',fO H H'->mQ (λa=>H a=none) H' v (yx s c)->Q v H'
noncomputable def ky:Sp:=λvs H Q _=>vs=[]/\∀ v H',fO H H'->lI H' v ⟨xF,[],[],[]⟩->Q v H'
noncomputable def Xb:Sp:=Z2
noncomputable def xO:Sp:=λvs H Q _=>∃ (x:V) (s:MS),vs=[x]/\lI H x s/\∀ v H',fO H H'->lI H' v { s with opens:=[] }->Q v H'
def RnV (G:Addr->Prop)(H:Hp)(v:V)(s:MS)(es:List Ev):Prop:=∃ p sa ea,v=.ref p/\H p=some (.tup [sa,.ref ea])/\lI H sa s/\mq H ea es/\G ea
noncomputable def Wv (t:iR):Sp:=λvs H Q E=>∃ (x:V) (s:MS) (l:Ld),vs=[x,.str (S l)]/\lI H x s/\s.word.length<=8/\s.opens.length+l.length<=100000/\(∀ s' es,runM s l=.ok (s',es)->∀ v H',fO H H'->RnV (λa=>H a=none) H' v s' es->Q v H')/\(∀ b:Nat,runM s l=.error b->∀ d H',fO H H'->H' d=some (.xd [("at",.int b)])->E (.ref t.Unread) (some d) H')
noncomputable def kh (s:MS):Option Tx:=if s.mode∈[xF,vX,lq,jF] then some s.mode else if s.mode=Zu/\s.talk=vH then some vH else none
noncomputable def sP:Option Tx->V
 | none=>.non
 | some x=>.str (S x)
noncomputable def vq:Sp:=λvs H Q _=>∃ (x:V) (s:MS),vs=[x]/\lI H x s/\∀ H',fO H H'->Q (sP (kh s)) H'
noncomputable def vL (K:Lf):Sp:=λvs H Q _=>∃ (a:Addr) (ns:List Int) (k:Nat),vs=[.ref a,.int k]/\ij K H a (ns.map V.int)/\ns.length<=63/\k<=100/\∀ v H',fO H H'->Q (.int v) H'
noncomputable def L1 (k:Int):Int:=[1000000007,1181783503,1372345291,1518500279,1636201513,1734723539,1871234567,2012345681].getD (k % 8).toNat 0
noncomputable def C2 (k:Int):Int:=[100000000003,223606797763,314159265359,414213562379,577215664943,693147180563,732050807573].getD (k % 7).toNat 0
theorem at8 (k:Int):lQ [V.int 1000000007,V.int 1181783503,V.int 1372345291,V.int 1518500279,V.int 1636201513,V.int 1734723539,V.int 1871234567,V.int 2012345681] (k % 8)=some (V.int (L1 k)):=by
 have h1:=gg k (b:=8) (by decide);have h2:=gq k (b:=8) (by decide);unfold L1;generalize k % 8=r at *;obtain⟨n,rfl⟩:=gN h1;have h3:=Int.ofNat_lt.mp h2
 match n,h3 with
 | 0,_ | 1,_ | 2,_ | 3,_ | 4,_ | 5,_ | 6,_ | 7,_=>rfl
theorem at7 (k:Int):lQ [V.int 100000000003,V.int 223606797763,V.int 314159265359,V.int 414213562379,V.int 577215664943,V.int 693147180563,V.int 732050807573] (k % 7)=some (V.int (C2 k)):=by
 have h1:=gg k (b:=7) (by decide);have h2:=gq k (b:=7) (by decide);unfold C2;generalize k % 7=r at *;obtain⟨n,rfl⟩:=gN h1;have h3:=Int.ofNat_lt.mp h2
 match n,h3 with
 | 0,_ | 1,_ | 2,_ | 3,_ | 4,_ | 5,_ | 6,_=>rfl
noncomputable def oW (c k:Int):Int:=(((c+k * k * k) % 1000000000039+1) * L1 k % 2147483629+1) * C2 k % 999999999989
noncomputable def md (c k:Int):Int:=if c % 2=0 then(if 10 ^ Int.toNat 18<c then(if 0<c / 2 ^ (7 * k+8).toNat then c / 2 ^ (7 * k+1).toNat else oW c k) else oW c k) else oW c k
noncomputable def ix (c k m:Int):Nat:=(md c k % m).toNat
theorem Ww {c k m:Int}(h:0<m):(ix c k m:Int)<m:=by unfold ix;have:=gg (md c k) (by lia:m≠0);have:=gq (md c k) h;lia
theorem L5 {c k m:Int}(h:0<m):((ix c k m:Nat):Int)=md c k % m:=Int.toNat_of_nonneg (gg _ (by lia))
noncomputable def jf:Sp:=λvs H Q _=>∃ c k m:Int,vs=[.int c,.int k,.int m]/\0<=k/\k<=1000/\0<m/\∀ H',fO H H'->Q (.int ((ix c k m:Nat):Int)) H'
noncomputable def jg:Sp:=λvs H Q _=>∃ c k:Int,vs=[.int c,.int k]/\0<=k/\k<=100/\∀ H',fO H H'->Q (.int ((ix c (30+k) 999999999989:Nat):Int)) H'
theorem En:∀ l m:List Tx,i8 (l.map ft) (m.map ft)=true->l=m
 | [],[],_=>rfl
 | [],_::_,h=>by simp [i8] at h
 | _::_,[],h=>by simp [i8] at h
 | a::l,b::m,h=>by simp only [uw,i8,i7,uH] at h;have h1:(S a == S b)=true:=h.1;rw [tU] at h1;rw [GK h1,En l m h.2]
theorem Bo {a b:Tx}(h:i7 (ft a) (ft b)=true):a=b:=by have h1:(S a == S b)=true:=h;rw [tU] at h1;exact GK h1
theorem L3 {a b:MS}(h:i7 (dS a) (dS b)=true):a=b:=by obtain⟨m,w,o,t⟩:=a;obtain⟨m',w',o',t'⟩:=b;simp only [dS,i7,i8,uH] at h;obtain⟨h1,h2,h3,h4,_⟩:=h;rw [Bo h1,Bo h2,En _ _ h3,Bo h4]
inductive Pc where
 | lit (t:Tx)
 | hole (t:Tx)
 | each (n:Tx) (b:List Pc)
 | ife (n:Tx) (a b:List Pc)
 | seat (w n m:Tx) (b:List Pc)
mutual
noncomputable def dP:Pc->Dat
 | .lit t=>.tp [ft [108,105,116],ft t]
 | .hole t=>.tp [ft [104,111,108,101],ft t]
 | .each n b=>.tp [ft [101,97,99,104],ft n,.ls (iB b)]
 | .ife n a b=>.tp [ft [105,102],ft n,.ls (iB a),.ls (iB b)]
 | .seat w n m b=>.tp [ft [115,101,97,116],ft w,ft n,ft m,.ls (iB b)]
noncomputable def iB:List Pc->List Dat
 | []=>[]
 | p::ps=>dP p::iB ps
end
mutual
noncomputable def iq:Pc->Nat
 | .lit _=>1
 | .hole _=>1
 | .each _ b=>1+fY b
 | .ife _ a b=>1+fY a+fY b
 | .seat _ _ _ b=>2+fY b
noncomputable def fY:List Pc->Nat
 | []=>0
 | p::ps=>iq p+fY ps
end
noncomputable def PcF (H:Hp):Pc->List V->Prop
 | .lit t,vs=>vs=[tx [108,105,116],tx t]
 | .hole t,vs=>vs=[tx [104,111,108,101],tx t]
 | .each n b,vs=>∃ w,vs=[tx [101,97,99,104],tx n,w]/\fV H (.ls (iB b)) w
 | .ife n a b,vs=>∃ w u,vs=[tx [105,102],tx n,w,u]/\fV H (.ls (iB a)) w/\fV H (.ls (iB b)) u
 | .seat x n m b,vs=>∃ w,vs=[tx [115,101,97,116],tx x,tx n,tx m,w]/\fV H (.ls (iB b)) w
theorem nM {H:Hp}{x:Pc}{v:V}(h:fV H (dP x) v):∃ p vs,v=.ref p/\H p=some (.tup vs)/\PcF H x vs:=by
 cases x with
 | lit t=>
  obtain⟨p,vs,e,hp,v0,r0,rfl,⟨rfl,_⟩,v1,r1,rfl,⟨rfl,_⟩,rfl⟩:=(by simpa only [dP] using h:fV H (.tp [ft [108,105,116],ft t]) v)
  exact⟨p,_,e,hp,rfl⟩
 | hole t=>
  obtain⟨p,vs,e,hp,v0,r0,rfl,⟨rfl,_⟩,v1,r1,rfl,⟨rfl,_⟩,rfl⟩:=(by simpa only [dP] using h:fV H (.tp [ft [104,111,108,101],ft t]) v)
  exact⟨p,_,e,hp,rfl⟩
 | each n b=>
  obtain⟨p,vs,e,hp,v0,r0,rfl,⟨rfl,_⟩,v1,r1,rfl,⟨rfl,_⟩,v2,r2,rfl,h2,rfl⟩:=(by simpa only [dP] using h:fV H (.tp [ft [101,97,99,104],ft n,.ls (iB b)]) v)
  exact⟨p,_,e,hp,_,rfl,h2⟩
 | ife n a b=>
  obtain⟨p,vs,e,hp,v0,r0,rfl,⟨rfl,_⟩,v1,r1,rfl,⟨rfl,_⟩,v2,r2,rfl,h2,v3,r3,rfl,h3,rfl⟩:=(by simpa only [dP] using h:fV H (.tp [ft [105,102],ft n,.ls (iB a),.ls (iB b)]) v)
  exact⟨p,_,e,hp,_,_,rfl,h2,h3⟩
 | seat x n m b=>
  obtain⟨p,vs,e,hp,v0,r0,rfl,⟨rfl,_⟩,v1,r1,rfl,⟨rfl,_⟩,v2,r2,rfl,⟨rfl,_⟩,v3,r3,rfl,⟨rfl,_⟩,v4,r4,rfl,h4,rfl⟩:=(by simpa only [dP] using h:fV H (.tp [ft [115,101,97,116],ft x,ft n,ft m,.ls (iB b)]) v)
  exact⟨p,_,e,hp,_,rfl,h4⟩
def iL (H1 H2:Hp):Prop:=∀ b ts,H1 b=some (.tup ts)->H2 b=some (.tup ts)
theorem iL.trans {H1 H2 H3:Hp}(a:iL H1 H2)(b:iL H2 H3):iL H1 H3:=λp ts h=>b _ _ (a _ _ h)
theorem iL.of {H1 H2:Hp}(g:fO H1 H2):iL H1 H2:=λb ts h=>g _ _ h
theorem zE {x y:Tx}(h:x≠y):¬ tx x=V.str (S y):=λz=>h (yu.mp (V.str.inj z))
theorem qB:∀ ps:List Pc,(iB ps).length=ps.length
 | []=>by simp only [iB,UG]
 | _::ps=>by simp only [iB,uo,qB ps]
theorem we:∀ a b:List Pc,iB (a++b)=iB a++iB b
 | [],_=>by simp only [iB,Ub]
 | p::a,b=>by simp only [uE,iB,we a b]
theorem z9:∀ a b:List Pc,fY (a++b)=fY a+fY b
 | [],_=>by simp only [fY,Ub,Nat.zero_add]
 | p::a,b=>by simp only [uE,fY,z9 a b];omega
theorem wU {H:Hp}{q:Addr}{t:Tx}(h:H q=some (.tup [tx [108,105,116],tx t])):fZ H (iB [.lit t]) [.ref q]:=by simp only [iB,dP];exact⟨_,_,rfl,⟨q,_,rfl,h,jU [[108,105,116],t]⟩,rfl⟩
theorem YI {H:Hp}{q:Addr}{t:Tx}(h:H q=some (.tup [tx [104,111,108,101],tx t])):fZ H (iB [.hole t]) [.ref q]:=by simp only [iB,dP];exact⟨_,_,rfl,⟨q,_,rfl,h,jU [[104,111,108,101],t]⟩,rfl⟩
theorem Xc {H:Hp}{q fa:Addr}{n:Tx}{b:List Pc}(h:H q=some (.tup [tx [101,97,99,104],tx n,.ref fa]))(hb:fV H (.ls (iB b)) (.ref fa)):fZ H (iB [.each n b]) [.ref q]:=by simp only [iB,dP];exact⟨_,_,rfl,⟨q,_,rfl,h,_,_,rfl,⟨rfl,rfl⟩,_,_,rfl,⟨rfl,rfl⟩,_,_,rfl,hb,rfl⟩,rfl⟩
theorem Bn {H:Hp}{q fa fb:Addr}{n:Tx}{a b:List Pc}(h:H q=some (.tup [tx [105,102],tx n,.ref fa,.ref fb]))(ha:fV H (.ls (iB a)) (.ref fa))(hb:fV H (.ls (iB b)) (.ref fb)):fZ H (iB [.ife n a b]) [.ref q]:=by simp only [iB,dP];exact⟨_,_,rfl,⟨q,_,rfl,h,_,_,rfl,⟨rfl,rfl⟩,_,_,rfl,⟨rfl,rfl⟩,_,_,rfl,ha,_,_,rfl,hb,rfl⟩,rfl⟩
theorem YJ {H:Hp}{q fa:Addr}{w n m:Tx}{b:List Pc}(h:H q=some (.tup [tx [115,101,97,116],tx w,tx n,tx m,.ref fa]))(hb:fV H (.ls (iB b)) (.ref fa)):fZ H (iB [.seat w n m b]) [.ref q]:=by simp only [iB,dP];exact⟨_,_,rfl,⟨q,_,rfl,h,_,_,rfl,⟨rfl,rfl⟩,_,_,rfl,⟨rfl,rfl⟩,_,_,rfl,⟨rfl,rfl⟩,_,_,rfl,⟨rfl,rfl⟩,_,_,rfl,hb,rfl⟩,rfl⟩
theorem E9 {s s1 s2:MS}{e1 e2:List Ev}:∀ {a b:Ld},runM s a=.ok (s1,e1)->runM s1 b=.ok (s2,e2)->runM s (a++b)=.ok (s2,e1++e2):=by
 intro a
 induction a generalizing s e1 with
 | nil=>intro b h1 h2;simp only [runM,U0,Uz] at h1;obtain⟨rfl,rfl⟩:=h1;simpa using h2
 | cons c r ih=>
  intro b h1 h2;simp only [runM] at h1;cases hq:yx s c with
  | none=>rw [hq] at h1;cases h1
  | some x=>
   obtain⟨s',es⟩:=x;rw [hq] at h1;simp only at h1;cases hr:runM s' r with
   | error n=>rw [hr] at h1;cases h1
   | ok y=>obtain⟨s'',fs⟩:=y;rw [hr] at h1;simp only [U0,Uz] at h1;obtain⟨rfl,rfl⟩:=h1;have:=ih hr h2;simp only [uE,runM,hq,this,uz]
theorem X7 {s s':MS}{c:Nat}{es:List Ev}(h:yx s c=some (s',es)):runM s [c]=.ok (s',es):=by simp only [runM,h,uj]
theorem Em {s s':MS}{es:List Ev}:∀ {l:Ld},runM s l=.ok (s',es)->s.word.length<=8->s'.word.length<=8/\s'.opens.length<=s.opens.length+l.length/\es.length<=10 * l.length:=by
 intro l
 induction l generalizing s es with
 | nil=>intro h k;simp only [runM,U0,Uz] at h;obtain⟨rfl,rfl⟩:=h;exact⟨k,by simp,by simp⟩
 | cons c r ih=>
  intro h k;simp only [runM] at h;cases hq:yx s c with
  | none=>rw [hq] at h;cases h
  | some x=>
   obtain⟨s1,fs⟩:=x;rw [hq] at h;simp only at h;cases hr:runM s1 r with
   | error n=>rw [hr] at h;cases h
   | ok y=>
    obtain⟨s2,gs⟩:=y;rw [hr] at h;simp only [U0,Uz] at h;obtain⟨rfl,rfl⟩:=h;obtain⟨b1,b2,b3⟩:=E1 s c s1 fs hq k;obtain⟨c1,c2,c3⟩:=ih hr b1;refine⟨c1,?_,?_⟩
    ·rw [uo];lia
    ·rw [uc,uo];lia
theorem none_of {H H':Hp}{p:Addr}(g:fO H H')(h:H' p=none):H p=none:=by
 cases e:H p with
 | none=>rfl
 | some o=>rw [g _ _ e] at h;cases h
theorem Z3 {H H':Hp}{p:Addr}{o:HO}(hp:H p=none)(g:fO H H'):fO H (upd H' p o):=λb u e=>by rw [zk (zv e hp)];exact g b u e
theorem JG:∀ (ps:List Pc) (i:Nat) (p:Pc),ps[i]? = some p->(iB ps)[i]? = some (dP p)
 | q::ps,0,p,h=>by cases h;simp only [iB];rfl
 | q::ps,i+1,p,h=>by simp only [iB];exact JG ps i p (by simpa using h)
noncomputable def iG:Pc->Nat
 | .lit _=>0
 | .hole _=>0
 | .each _ b=>dpB b+1
 | .ife _ a b=>max (dpB a) (dpB b)+1
 | .seat _ _ _ b=>dpB b+1
where dpB:List Pc->Nat
 | []=>0
 | p::ps=>max (iG p) (dpB ps)
theorem LZ (s:MS):Qo (dS s)=true:=by
 have:∀ l:List Tx,yV (l.map ft)=true:=λl=>by
  induction l with
  | nil=>rfl
  | cons x l ih=>simp only [uw,yV,ih];rfl
 simp only [dS,Qo,yV,this];rfl
theorem mL (s:MS):iO (dS s)<=50:=by
 have:∀ l:List Tx,xE (l.map ft)=0:=λl=>by
  induction l with
  | nil=>rfl
  | cons x l ih=>simp only [uw,xE,iO,ih];rfl
 simp only [dS,iO,xE,this];decide
theorem X8 {a b:TS}{D:Ends}{σ:L2.St}{H:Hp}(R:L2.St->Hp->Prop)(hr:∀ σ' H',R σ' H'->b D σ' H')(h:∀ N:L2.St->Hp->Prop,(∀ σ' H',R σ' H'->N σ' H')->a { D with nx:=N } σ H):iT a b D σ H:=h (b D) hr
theorem PZ {a b c:TS}{D:Ends}{σ:L2.St}{H:Hp}(R:L2.St->Hp->Prop)(hr:∀ σ' H',R σ' H'->c D σ' H')(h:∀ N:L2.St->Hp->Prop,(∀ σ' H',R σ' H'->N σ' H')->iT a b { D with nx:=N } σ H):iT a (iT b c) D σ H:=h (c D) hr
noncomputable def mY:MS:=⟨xF,[],[],[]⟩
noncomputable abbrev Ho:=List (Tx×Tx)
def HoV (H:Hp)(v:V)(h:Tx×Tx):Prop:=∃ a,v=.ref a/\H a=some (.tup [tx h.1,tx h.2])
inductive mF (H:Hp):List V->Ho->Prop
 | nil:mF H [] []
 | cons {v:V} {h:Tx×Tx} {vs:List V} {hs:Ho}:HoV H v h->mF H vs hs->mF H (v::vs) (h::hs)
theorem mF.mono {H H':Hp}{vs:List V}{hs:Ho}(h:mF H vs hs)(g:iL H H'):mF H' vs hs:=by
 induction h with
 | nil=>exact .nil
 | cons h _ ih=>obtain⟨a,e,h⟩:=h;exact .cons ⟨a,e,g _ _ h⟩ ih
theorem mF.app {H:Hp}{vs us:List V}{hs ks:Ho}(h:mF H vs hs)(k:mF H us ks):mF H (vs++us) (hs++ks):=by
 induction h with
 | nil=>exact k
 | cons h _ ih=>exact .cons h ih
theorem mF.len {H:Hp}{vs:List V}{hs:Ho}(h:mF H vs hs):vs.length=hs.length:=by
 induction h with
 | nil=>rfl
 | cons _ _ ih=>simp [ih]
def Ae (t:iR)(H:Hp)(lo ha:Addr):Prop:=∃ dx pa,H lo=some (.ins t.Looking dx [("kept",.non),("holes",.ref ha),("pairs",.ref pa)])
def rS (t:iR)(H:Hp)(sp:Addr)(s:MS)(T:Ld)(n:Nat):Prop:=∃ dx sv ta,H sp=some (.ins t.Spot dx [("state",sv),("turns",.ref ta),("many",.int n)])/\lI H sv s/\H ta=some (.lst (T.map λ(t:Nat)=>V.int t))
theorem Ae.mono {t:iR}{H H':Hp}{lo ha:Addr}(h:Ae t H lo ha)(g:fO H H'):Ae t H' lo ha:=by obtain⟨dx,pa,e⟩:=h;exact⟨dx,pa,g _ _ e⟩
theorem rS.mono {t:iR}{H H':Hp}{sp:Addr}{s:MS}{T:Ld}{n:Nat}(h:rS t H sp s T n)(g:fO H H'):rS t H' sp s T n:=by obtain⟨dx,sv,ta,e1,e2,e3⟩:=h;exact⟨dx,sv,ta,g _ _ e1,e2.mono g,g _ _ e3⟩
def Gr (ha:Addr)(H H':Hp)(hv hv':List V):Prop:=fO (hide ha H) (hide ha H')/\H' ha=some (.lst (hv++hv'))
noncomputable def qV (t:iR):Sp:=λvs H Q _=>∃ (a dx:Addr) (sv:V) (ta:Addr) (n:Nat),vs=[.ref a,sv,.ref ta,.int n]/\H a=some (.ins t.Spot dx [])/\Q .non (upd H a (.ins t.Spot dx [("state",sv),("turns",.ref ta),("many",.int n)]))
noncomputable abbrev nL (t:iR)(dx:Addr)(sv:V)(ta:Addr)(n:Nat):HO:=.ins t.Spot dx [("state",sv),("turns",.ref ta),("many",.int n)]
noncomputable def j7 (t:iR):Sp:=λvs H Q _=>∃ (a dx ta:Addr) (sv0 sv:V) (n:Nat),vs=[.ref a,sv]/\H a=some (nL t dx sv0 ta n)/\∀ r dx' H',fO H H'->H r=none->H' r=some (nL t dx' sv ta (n+1))->Q (.ref r) H'
noncomputable def jA (t:iR):Sp:=λvs H Q _=>∃ (a dx ta:Addr) (sv0:V) (T:Ld) (n b:Nat),vs=[.ref a,.int b]/\H a=some (nL t dx sv0 ta n)/\H ta=some (.lst (T.map λ(t:Nat)=>V.int t))/\T.length<=100000/\∀ r dx' ta' H',fO H H'->H r=none->H ta' = none->H' r=some (nL t dx' sv0 ta' n)->H' ta' = some (.lst ((T++[b]).map λ(t:Nat)=>V.int t))->Q (.ref r) H'
noncomputable def jq (t:iR):Sp:=λvs H Q _=>∃ (a dx:Addr) (kv:V),vs=[.ref a,kv]/\H a=some (.ins t.Looking dx [])/\∀ ha pa H',H' a=some (.ins t.Looking dx [("kept",kv),("holes",.ref ha),("pairs",.ref pa)])->(∀ b o,b≠a->H b=some o->H' b=some o)->H' ha=some (.lst [])->H' pa=some (.lst [])->ha≠pa->H ha=none->H pa=none->Q .non H'
instance:DecidableEq MS:=λa b=>decidable_of_iff (a.mode=b.mode/\a.word=b.word/\a.opens=b.opens/\a.talk=b.talk) (by cases a;cases b;simp)
theorem Xd (a b:MS):i7 (dS a) (dS b)=decide (a=b):=by
 by_cases h:a=b
 ·rw [h,vW (LZ _)];simp
 ·rw [uF h];exact GJ.mpr λz=>h (L3 z)
structure lX where
 s:MS
 T:Ld
 n:Nat
inductive Ft where
 | astray (T:Ld) (n b:Nat)
 | noplace (x:Tx) (T:Ld) (n:Nat)
 | unlike (w:List Tx) (T:Ld) (n:Nat) (T':Ld) (n':Nat)
 | left (T:Ld) (n:Nat)
noncomputable abbrev Lr:=Except Ft (lX×Ho)
noncomputable abbrev mS (s:MS):MS:={ s with opens:=[] }
noncomputable abbrev X9:Tx:=[115,101,97,116]
mutual
noncomputable def qf:Pc->lX->Lr
 | .lit t,sp=>match runM sp.s t with
  | .ok r=>.ok (⟨r.1,sp.T,sp.n+1⟩,[])
  | .error b=>.error (.astray sp.T sp.n b)
 | .hole x,sp=>match kh sp.s with
  | some k=>.ok (⟨sp.s,sp.T,sp.n+1⟩,[(x,k)])
  | none=>.error (.noplace x sp.T sp.n)
 | .each x b,sp=>match zA b ⟨sp.s,sp.T++[1],sp.n⟩ with
  | .error f=>.error f
  | .ok r=>if r.1.s=sp.s then .ok (⟨sp.s,sp.T++[0],sp.n⟩,r.2) else .error (.unlike [[101,97,99,104],x] (sp.T++[0]) sp.n r.1.T r.1.n)
 | .ife x a b,sp=>match zA a ⟨sp.s,sp.T++[0],sp.n⟩ with
  | .error f=>.error f
  | .ok r=>match zA b ⟨sp.s,sp.T++[1],sp.n⟩ with
   | .error f=>.error f
   | .ok r2=>if r.1.s=r2.1.s then .ok (r.1,r.2++r2.2) else .error (.unlike [[105,102],x] r.1.T r.1.n r2.1.T r2.1.n)
 | .seat w x y b,sp=>match zA b ⟨mS sp.s,sp.T,sp.n+1⟩ with
  | .error f=>.error f
  | .ok r=>if r.1.s=mS sp.s then .ok (⟨sp.s,r.1.T,r.1.n+1⟩,r.2) else .error (.unlike [X9,w,x,y] sp.T (sp.n+1) r.1.T r.1.n)
noncomputable def zA:List Pc->lX->Lr
 | [],sp=>.ok (sp,[])
 | p::ps,sp=>match qf p sp with
  | .error f=>.error f
  | .ok r=>match zA ps r.1 with
   | .error f=>.error f
   | .ok r2=>.ok (r2.1,r.2++r2.2)
end
noncomputable def jr (ps:List Pc):Except Ft Ho:=match zA ps ⟨mY,[],0⟩ with
 | .error f=>.error f
 | .ok r=>if r.1.s=mY then .ok r.2 else .error (.left r.1.T r.1.n)
mutual
noncomputable def lP:Pc->Nat
 | .lit t=>t.length
 | .hole _=>0
 | .each _ b=>iu b
 | .ife _ a b=>iu a+iu b
 | .seat _ _ _ b=>iu b
noncomputable def iu:List Pc->Nat
 | []=>0
 | p::ps=>lP p+iu ps
end
def Bd (x:lX)(e:lX)(h:Ho)(l z:Nat):Prop:=e.s.word.length<=8/\e.s.opens.length<=x.s.opens.length+l/\e.T.length<=x.T.length+z/\e.n<=x.n+z/\h.length<=z
mutual
theorem El:∀ (p:Pc) (x e:lX) (h:Ho),qf p x=.ok (e,h)->x.s.word.length<=8->Bd x e h (lP p) (iq p)
 | .lit t,x,e,h,q,k=>by
  simp only [qf] at q;split at q
  ·rename_i r hr;obtain⟨s',es⟩:=r;cases q;obtain⟨a,b,_⟩:=Em hr k;exact⟨a,b,by simp only [iq];lia,by simp only [iq];lia,by simp⟩
  ·cases q
 | .hole t,x,e,h,q,k=>by
  simp only [qf] at q;split at q
  ·cases q;exact⟨k,by simp only [lP];lia,by simp only [iq];lia,by simp only [iq];lia,by simp [iq]⟩
  ·cases q
 | .each n b,x,e,h,q,k=>by
  simp only [qf] at q;split at q
  ·cases q
  ·rename_i r hr;split at q
   ·cases q;obtain⟨a1,a2,a3,a4,a5⟩:=wB b _ r.1 r.2 hr k;exact⟨k,by simp only [lP];lia,by simp only [iq,uc,uu];lia,by simp only [iq];lia,by simp only [iq];lia⟩
   ·cases q
 | .ife n a b,x,e,h,q,k=>by
  simp only [qf] at q;split at q
  ·cases q
  ·rename_i r hr;split at q
   ·cases q
   ·rename_i r2 hr2;split at q
    ·cases q;obtain⟨a1,a2,a3,a4,a5⟩:=wB a _ r.1 r.2 hr k;obtain⟨b1,b2,b3,b4,b5⟩:=wB b _ r2.1 r2.2 hr2 k;simp only [uc,uu] at a3 b3;exact⟨a1,by simp only [lP];dsimp only at a2;lia,by simp only [iq];lia,by simp only [iq];dsimp only at a4;lia,by simp only [iq,uc];lia⟩
    ·cases q
 | .seat w m y b,x,e,h,q,k=>by
  simp only [qf] at q;split at q
  ·cases q
  ·rename_i r hr;split at q
   ·cases q;obtain⟨a1,a2,a3,a4,a5⟩:=wB b _ r.1 r.2 hr k;exact⟨k,by simp only [lP];lia,by simp only [iq];dsimp only at a3;lia,by simp only [iq];dsimp only at a4;lia,by simp only [iq];lia⟩
   ·cases q
theorem wB:∀ (ps:List Pc) (x e:lX) (h:Ho),zA ps x=.ok (e,h)->x.s.word.length<=8->Bd x e h (iu ps) (fY ps)
 | [],x,e,h,q,k=>by simp only [zA] at q;cases q;exact⟨k,by omega,by omega,by omega,by simp⟩
 | p::ps,x,e,h,q,k=>by
  simp only [zA] at q;split at q
  ·cases q
  ·rename_i r hr;split at q
   ·cases q
   ·rename_i r2 hr2;cases q;obtain⟨a1,a2,a3,a4,a5⟩:=El p _ r.1 r.2 hr k;obtain⟨b1,b2,b3,b4,b5⟩:=wB ps _ r2.1 r2.2 hr2 a1;exact⟨b1,by simp only [iu];lia,by simp only [fY];lia,by simp only [fY];lia,by simp only [fY,uc];lia⟩
end
theorem xP (p:Pc)(x:lX):zA [p] x=qf p x:=by
 simp only [zA];split
 ·rename_i f h;exact h.symm
 ·rename_i r h;rw [h];simp
def mz (H:Hp)(p:Addr)(T:Ld)(n:Nat):Prop:=∃ l,H p=some (.tup [.ref l,.int n])/\H l=some (.lst (T.map λ(t:Nat)=>V.int t))
theorem mz.mono {H H':Hp}{p:Addr}{T:Ld}{n:Nat}(h:mz H p T n)(g:fO H H'):mz H' p T n:=by obtain⟨l,a,b⟩:=h;exact⟨l,g _ _ a,g _ _ b⟩
def mn (B H:Hp)(p:Addr)(T:Ld)(n:Nat):Prop:=∃ l,B l=none/\H p=some (.tup [.ref l,.int n])/\H l=some (.lst (T.map λ(t:Nat)=>V.int t))
theorem mn.mono {B H H':Hp}{p:Addr}{T:Ld}{n:Nat}(h:mn B H p T n)(g:fO H H'):mn B H' p T n:=by obtain⟨l,z,a,b⟩:=h;exact⟨l,z,g _ _ a,g _ _ b⟩
theorem mn.pre {B B1 H:Hp}{p:Addr}{T:Ld}{n:Nat}(h:mn B1 H p T n)(g:fO B B1):mn B H p T n:=by obtain⟨l,z,a,b⟩:=h;exact⟨l,none_of g z,a,b⟩
theorem mn.pl {B H:Hp}{p:Addr}{T:Ld}{n:Nat}(h:mn B H p T n):mz H p T n:=by obtain⟨l,z,a,b⟩:=h;exact⟨l,a,b⟩
noncomputable def oN (t:iR)(B H:Hp)(c:Value)(d:Addr):Ft->Prop
 | .astray T n b=>c=.ref t.Astray/\∃ p,H d=some (.xd [("place",.ref p),("at",.int b)])/\mn B H p T n
 | .noplace x T n=>c=.ref t.NoPlace/\∃ p,H d=some (.xd [("name",tx x),("place",.ref p)])/\mn B H p T n
 | .unlike w T n T' n'=>c=.ref t.Unlike/\∃ a p q,H d=some (.xd [("what",.ref a),("one",.ref p),("other",.ref q)])/\H a=some (.tup (w.map tx))/\mn B H p T n/\mn B H q T' n'
 | .left T n=>c=.ref t.LeftOpen/\∃ p,H d=some (.xd [("place",.ref p)])/\mn B H p T n
theorem oN.mono {t:iR}{B H H':Hp}{c:Value}{d:Addr}{f:Ft}(h:oN t B H c d f)(g:fO H H'):oN t B H' c d f:=by
 cases f with
 | astray T n b=>obtain⟨e,p,a,b⟩:=h;exact⟨e,p,g _ _ a,b.mono g⟩
 | noplace x T n=>obtain⟨e,p,a,b⟩:=h;exact⟨e,p,g _ _ a,b.mono g⟩
 | unlike w T n T' n'=>obtain⟨e,a,p,q,h1,h2,h3,h4⟩:=h;exact⟨e,a,p,q,g _ _ h1,g _ _ h2,h3.mono g,h4.mono g⟩
 | left T n=>obtain⟨e,p,a,b⟩:=h;exact⟨e,p,g _ _ a,b.mono g⟩
theorem oN.pre {t:iR}{B B1 H:Hp}{c:Value}{d:Addr}{f:Ft}(h:oN t B1 H c d f)(g:fO B B1):oN t B H c d f:=by
 cases f with
 | astray T n b=>obtain⟨e,p,a,b⟩:=h;exact⟨e,p,a,b.pre g⟩
 | noplace x T n=>obtain⟨e,p,a,b⟩:=h;exact⟨e,p,a,b.pre g⟩
 | unlike w T n T' n'=>obtain⟨e,a,p,q,h1,h2,h3,h4⟩:=h;exact⟨e,a,p,q,h1,h2,h3.pre g,h4.pre g⟩
 | left T n=>obtain⟨e,p,a,b⟩:=h;exact⟨e,p,a,b.pre g⟩
noncomputable def FD:List V->List (Str×V):=λxs=>(["place","at"]:Lj).zip xs
noncomputable def tm:List V->List (Str×V):=λxs=>(["what","one","other"]:Lj).zip xs
def sS (xs:List V):Prop:=∃ p n,xs=[p,.int n]/\nz (.int n)
def nY (xs:List V):Prop:=∃ a b c,xs=[a,b,c]
theorem Tu {P:Program}{w:World}{K:Lf}{mg:La}{base:Heap}{t:iR}(T:Txt w K mg t)(D:nS K t.Astray "Astray.__init__" Je ["self","place","at"]):lu P w K mg base "Astray" t.Astray FD sS:=by obtain⟨fI,fd,oI,i1,i2,i3,F,b⟩:=D.ex;refine⟨T.m_Astray,T.c_Astray,T.k_Astray,fI,fd,oI,_,i1,i2,i3,b,?_⟩;refine F.okN T4 (λvs H Q E h=>by obtain⟨a,xs,rfl,_,⟨p,n,rfl,_⟩,_⟩:=h;rfl) λcdv A outer s H vs Q E h=>?_;obtain⟨a,xs,rfl,ea,⟨p,n,rfl,hp⟩,q⟩:=h;exact⟨_,wu (Z7 (Jo (C:=t.Astray) T.m_SealError T.u_SealError T.c_Astray (w6 (pv 0) (w6 (AI (pv 2)) JP)))) (wu (Jp T.c_Astray T.n_Astray_place (pv 0) (pv 1)) (Z6 (W9 T.c_Astray T.n_Astray_at (pv 0) (pv 2)))),XM ea rfl hp (by decide) q⟩
theorem Tt {P:Program}{w:World}{K:Lf}{mg:La}{base:Heap}{t:iR}(T:Txt w K mg t)(D:nS K t.Unlike "Unlike.__init__" Jf ["self","what","one","other"]):lu P w K mg base "Unlike" t.Unlike tm nY:=by obtain⟨fI,fd,oI,i1,i2,i3,F,b⟩:=D.ex;refine⟨T.m_Unlike,T.c_Unlike,T.k_Unlike,fI,fd,oI,_,i1,i2,i3,b,?_⟩;refine F.okN T3 (λvs H Q E h=>by obtain⟨a,xs,rfl,_,⟨p,n,m,rfl⟩,_⟩:=h;rfl) λcdv A outer s H vs Q E h=>?_;obtain⟨a,xs,rfl,ea,⟨p,n,m,rfl⟩,q⟩:=h;exact⟨_,wu (Z7 (Jo (C:=t.Unlike) T.m_SealError T.u_SealError T.c_Unlike (w6 (pv 0) (w6 Bu JP)))) (wu (Jp T.c_Unlike T.n_Unlike_what (pv 0) (pv 1)) (wu (W9 T.c_Unlike T.n_Unlike_one (pv 0) (pv 2)) (Z6 (W9 T.c_Unlike T.n_Unlike_other (pv 0) (pv 3))))),Tc ea (by decide) q⟩
noncomputable def qh (t:iR):Sp:=λvs H Q _=>∃ (a dx ta:Addr) (sv:V) (n:Nat) (T:Ld),vs=[.ref a]/\H a=some (nL t dx sv ta n)/\H ta=some (.lst (T.map λ(t:Nat)=>V.int t))/\T.length<=100000/\∀ r l H',fO H H'->H l=none->H' r=some (.tup [.ref l,.int n])->H' l=some (.lst (T.map λ(t:Nat)=>V.int t))->Q (.ref r) H'
theorem rT.mono {H H':Hp}{a:Addr}(h:rT H a)(g:fO H H'):rT H' a:=by obtain⟨o,vs,e,r⟩:=h;exact⟨o,vs,g _ _ e,r⟩
theorem yL {B H H0:Hp}{ha r l:Addr}{hv:List V}{T:Ld}{n:Nat}(g:fO (hide ha B) (hide ha H0))(h:H ha=some (.lst hv))(h0:H0 ha=some (.lst hv))(hl:H0 l=none)(e1:H r=some (.tup [.ref l,.int n]))(e2:H l=some (.lst (T.map λ(t:Nat)=>V.int t))):mn (hide ha B) (hide ha H) r T n:=by
 have nl:l≠ha:=λz=>by rw [z,h0] at hl;cases hl
 refine⟨l,none_of g (by rw [hide_ne nl];exact hl),?_,?_⟩
 ·rw [hide_ne λz=>by rw [z,h] at e1;cases e1];exact e1
 ·rw [hide_ne nl];exact e2
theorem Ek:∀ {l:Ld} {s:MS} {b:Nat},runM s l=.error b->b<l.length
 | [],s,b,h=>by simp only [runM] at h;cases h
 | c::l,s,b,h=>by
  simp only [runM] at h;split at h
  ·cases h;simp
  ·rename_i r hr;split at h
   ·rename_i n hn;cases h;have:=Ek hn;simp only [uo];lia
   ·cases h
noncomputable def mG (t:iR)(one:Bool)(P:List Pc->Prop):Sp:=λvs H Q E=>∃ (lo ha sp:Addr) (pv:V) (ps:List Pc) (x:lX) (hv:List V),vs=[.ref lo,pv,.ref sp]/\P ps/\Ae t (hide ha H) lo ha/\(if one=true then ∃ p,ps=[p]/\fV (hide ha H) (dP p) pv else fV (hide ha H) (.ls (iB ps)) pv)/\rS t (hide ha H) sp x.s x.T x.n/\H ha=some (.lst hv) /\ (x.s.word.length<=8/\x.s.opens.length+iu ps<=100000/\hv.length+fY ps<=100000/\x.T.length+fY ps<=100000/\x.n+fY ps<=100000) /\ (∀ e hs,zA ps x=.ok (e,hs)->∀ r hv' H',Gr ha H H' hv hv'->mF (hide ha H') hv' hs->rS t (hide ha H') r e.s e.T e.n->Q (.ref r) H') /\ (∀ f,zA ps x=.error f->∀ c d H',fO (hide ha H) (hide ha H')->oN t (hide ha H) (hide ha H') c d f->E c (some d) H')
theorem Gr.same {ha:Addr}{H H':Hp}{hv:List V}(h:H ha=some (.lst hv))(g:fO H H'):Gr ha H H' hv []:=⟨zt g,by rw [uj];exact g _ _ h⟩
theorem Gr.trans {ha:Addr}{H H1 H2:Hp}{hv h1 h2:List V}(a:Gr ha H H1 hv h1)(b:Gr ha H1 H2 (hv++h1) h2):Gr ha H H2 hv (h1++h2):=⟨a.1.trans b.1,by rw [← uz];exact b.2⟩
theorem Gr.cast {ha:Addr}{H H':Hp}{hv h1 h2:List V}(a:Gr ha H H' hv h1)(e:h1=h2):Gr ha H H' hv h2:=e ▸ a
theorem E8 {ha:Addr}{H:Hp}{o:HO}:hide ha (upd H ha o)=hide ha H:=by
 funext b;by_cases z:b=ha
 ·rw [z,W6,W6]
 ·rw [hide_ne z,hide_ne z,zk z]
theorem qH {ha r:Addr}{H:Hp}{hv:List V}(h:H ha=some (.lst hv))(hr:H r=none):r≠ha:=λz=>by rw [z,h] at hr;cases hr
theorem vM {t:iR}{H:Hp}{ha r dx ta:Addr}{sv:V}{s:MS}{T:Ld}{n:Nat}(hr:r≠ha)(e:H r=some (nL t dx sv ta n))(hs:lI (hide ha H) sv s)(ht:hide ha H ta=some (.lst (T.map λ(t:Nat)=>V.int t))):rS t (hide ha H) r s T n:=⟨dx,sv,ta,by rw [hide_ne hr];exact e,hs,ht⟩
theorem Bm {ha:Addr}{H:Hp}{v:V}{s:MS}{xs:List V}(h:H ha=some (.lst xs))(k:lI H v s):lI (hide ha H) v s:=by
 obtain⟨p,o,e,h1,h2⟩:=k;have n1:p≠ha:=λz=>by subst z;rw [h] at h1;cases h1
 have n2:o≠ha:=λz=>by subst z;have h2:H o=_:=h2;rw [h] at h2;cases h2
 exact⟨p,o,e,by rw [hide_ne n1];exact h1,by show hide ha H o=_;rw [hide_ne n2];exact h2⟩
theorem Gr.pre {ha:Addr}{H H1 H2:Hp}{hv h:List V}(b:Gr ha H1 H2 hv h)(g:fO H H1):Gr ha H H2 hv h:=⟨(zt g).trans b.1,b.2⟩
theorem Wx {H:Hp}{v:V}{s:MS}(h:lI H v s):∃ p,v=.ref p:=by obtain⟨p,o,e,_⟩:=h;exact⟨p,e⟩
theorem Zv {α:Type}(a b c:α)(l:List α):lQ (a::b::c::l) 2=some c:=by rw [show(2:Int)=((2:Nat):Int) from rfl,Xu];rfl
theorem AA {α:Type}(a b c d:α)(l:List α):lQ (a::b::c::d::l) 3=some d:=by rw [show(3:Int)=((3:Nat):Int) from rfl,Xu];rfl
theorem Az {α:Type}(a b c d e:α)(l:List α):lQ (a::b::c::d::e::l) 4=some e:=by rw [show(4:Int)=((4:Nat):Int) from rfl,Xu];rfl
theorem YK {t:iR}{H:Hp}{x dx ta:Addr}{sv:V}{n:Nat}(hx:H x=none)(hd:H dx=none)(o1:HO)(fs:List (Str×V)):fO H (upd (upd (upd H dx o1) x (.ins t.Spot dx fs)) x (nL t dx sv ta n)):=Z3 hx (Z3 hx (za hd))
noncomputable def i6:Pc->Bool
 | .lit _=>true
 | .hole z=>decide (z.length<=1000)
 | .each _ b=>nmB b
 | .ife _ a b=>nmB a&&nmB b
 | .seat _ _ _ b=>nmB b
where nmB:List Pc->Bool
 | []=>true
 | p::ps=>i6 p&&nmB ps
noncomputable def Fz:List V->List (Str×V):=λxs=>(["name","place"]:Lj).zip xs
noncomputable def FC:List V->List (Str×V):=λxs=>(["place"]:Lj).zip xs
def sQ (xs:List V):Prop:=∃ n p,xs=[n,p]/\nz n
def sR (xs:List V):Prop:=∃ p,xs=[p]
theorem TZ {P:Program}{w:World}{K:Lf}{mg:La}{base:Heap}{t:iR}(T:Txt w K mg t)(D:nS K t.NoPlace "NoPlace.__init__" Z1 ["self","name","place"]):lu P w K mg base "NoPlace" t.NoPlace Fz sQ:=by obtain⟨fI,fd,oI,i1,i2,i3,F,b⟩:=D.ex;refine⟨T.m_NoPlace,T.c_NoPlace,T.k_NoPlace,fI,fd,oI,_,i1,i2,i3,b,?_⟩;refine F.okN YH (λvs H Q E h=>by obtain⟨a,xs,rfl,_,⟨p,n,rfl,_⟩,_⟩:=h;rfl) λcdv A outer s H vs Q E h=>?_;obtain⟨a,xs,rfl,ea,⟨p,n,rfl,hp⟩,q⟩:=h;exact⟨_,wu (Z7 (Jo (C:=t.NoPlace) T.m_SealError T.u_SealError T.c_NoPlace (w6 (pv 0) (w6 (AI (pv 1)) JP)))) (wu (Jp T.c_NoPlace T.n_NoPlace_name (pv 0) (pv 1)) (Z6 (W9 T.c_NoPlace T.n_NoPlace_place (pv 0) (pv 2)))),XM ea rfl hp (by decide) q⟩
theorem Ts {K:Lf}{C:Addr}{f p:Str}{a:Addr}{v:V}{tx:Str}{H:Hp}{Q:VK}(ea:H a=some (ll C a))(k:∀ d,H d=none->d≠a->Q .non (upd (upd H a (lD C d a)) d (.xd [(f,v)]))) :
  iT (WD (oE (VS C) (ju (iA 0) (ju (tC (.str tx)) iU)))) (KO K C (iA 0) (iA 1) f) { nx:=λ_ H'=>Q .non H',rt:=Q } (L2.start ["self",p] [.ref a,v]) H:=⟨.ref a,rfl,a,.str tx,rfl,ea,v,rfl,.ref a,rfl,a,rfl,ea,λd h1 h2=>k d h1 h2⟩
theorem YL {P:Program}{w:World}{K:Lf}{mg:La}{base:Heap}{t:iR}(T:Txt w K mg t)(D:nS K t.LeftOpen "LeftOpen.__init__" Zc ["self","place"]):lu P w K mg base "LeftOpen" t.LeftOpen FC sR:=by obtain⟨fI,fd,oI,i1,i2,i3,F,b⟩:=D.ex;refine⟨T.m_LeftOpen,T.c_LeftOpen,T.k_LeftOpen,fI,fd,oI,_,i1,i2,i3,b,?_⟩;refine F.okN Vu (λvs H Q E h=>by obtain⟨a,xs,rfl,_,⟨p,rfl⟩,_⟩:=h;rfl) λcdv A outer s H vs Q E h=>?_;obtain⟨a,xs,rfl,ea,⟨p,rfl⟩,q⟩:=h;exact⟨_,wu (Z7 (Jo (C:=t.LeftOpen) T.m_SealError T.u_SealError T.c_LeftOpen (w6 (pv 0) (w6 Bu JP)))) (Z6 (Jp T.c_LeftOpen T.n_LeftOpen_place (pv 0) (pv 1))),Ts ea q⟩
noncomputable def qg (t:iR):Sp:=mG t true λps=>∃ x,ps=[.lit x]
noncomputable def qy (t:iR):Sp:=mG t true λps=>∃ x,ps=[.hole x]/\x.length<=1000
noncomputable def zB (t:iR)(d:Nat):Sp:=mG t false λps=>i6.nmB ps=true/\iG.dpB ps<d
noncomputable def qZ (t:iR)(d:Nat):Sp:=mG t true λps=>i6.nmB ps=true/\iG.dpB ps<d
noncomputable def jh (t:iR)(d:Nat):Sp:=mG t true λps=>∃ n b,ps=[.each n b]/\i6.nmB ps=true/\iG.dpB ps<d
noncomputable def jK (t:iR)(d:Nat):Sp:=mG t true λps=>∃ n a b,ps=[.ife n a b]/\i6.nmB ps=true/\iG.dpB ps<d
noncomputable def ji (t:iR)(d:Nat):Sp:=mG t true λps=>∃ w n m b,ps=[.seat w n m b]/\i6.nmB ps=true/\iG.dpB ps<d
noncomputable def Qg:Sp:=λvs H Q _=>∃ (x:V) (s:MS),vs=[x]/\lI H x s/\∀ H',fO H H'->Q (.bl (decide (s=mY))) H'
def rZ (H:Hp)(pv:V)(ps:List Pc):Prop:=fV H (.ls (iB ps)) pv/\i6.nmB ps=true/\iG.dpB ps<5/\fY ps<=10000/\iu ps<=50000
noncomputable def vN (t:iR):Sp:=λvs H Q E=>∃ (pv:V) (ps:List Pc),vs=[pv,.non]/\rZ H pv ps/\(∀ hs,jr ps=.ok hs->∀ r ha pa hv H',fO H H'->H' r=some (.tup [.ref ha,.ref pa])->H' ha=some (.lst hv)->mF H' hv hs->Q (.ref r) H')/\(∀ f,jr ps=.error f->∀ c d H',fO H H'->oN t H H' c d f->E c (some d) H')
noncomputable def Xe (t:iR):Sp:=λvs H Q E=>∃ (pv:V) (ps:List Pc),vs=[pv]/\rZ H pv ps/\(∀ hs,jr ps=.ok hs->∀ ha hv H',fO H H'->H' ha=some (.lst hv)->mF H' hv hs->Q (.ref ha) H')/\(∀ f,jr ps=.error f->∀ c d H',fO H H'->oN t H H' c d f->E c (some d) H')
theorem rZ.mono {H H':Hp}{pv:V}{ps:List Pc}(h:rZ H pv ps)(g:fO H H'):rZ H' pv ps:=⟨h.1.mono g,h.2⟩
noncomputable def FP:Tx:=[116,111,108,100]
noncomputable def FG (hs:Ho):List Dat:=hs.map λh=>.tp [ft h.1,ft h.2]
noncomputable def pJ (T:Ld)(n:Nat):Dat:=.tp [.ls (T.map λ(t:Nat)=>.fl (.int t)),.fl (.int n)]
noncomputable def oR:Except Ft Ho->Dat
 | .ok hs=>.tp [ft FP,.ls (FG hs)]
 | .error (.astray T n b)=>.tp [ft [97,115,116,114,97,121],pJ T n,.fl (.int b)]
 | .error (.noplace x T n)=>.tp [ft [110,111,112,108,97,99,101],ft x,pJ T n]
 | .error (.unlike w T n T' n')=>.tp [ft [117,110,108,105,107,101],.tp (w.map ft),pJ T n,pJ T' n']
 | .error (.left T n)=>.tp [ft [108,101,102,116],pJ T n]
theorem mF.ds {H:Hp}{vs:List V}{hs:Ho}(h:mF H vs hs):fZ H (FG hs) vs:=by
 induction h with
 | nil=>rfl
 | @cons v h vs hs e _ ih=>obtain⟨a,rfl,e⟩:=e;exact⟨_,_,rfl,⟨a,_,rfl,e,jU [h.1,h.2]⟩,ih⟩
theorem Ej {H:Hp}:∀ T:Ld,fZ H (T.map λ(t:Nat)=>.fl (.int t)) (T.map λ(t:Nat)=>V.int t)
 | []=>rfl
 | t::T=>⟨_,_,rfl,⟨rfl,rfl⟩,Ej T⟩
theorem mz.dt {H:Hp}{p:Addr}{T:Ld}{n:Nat}(h:mz H p T n):fV H (pJ T n) (.ref p):=by obtain⟨l,a,b⟩:=h;exact⟨p,_,rfl,a,_,_,rfl,⟨l,_,rfl,b,Ej T⟩,_,_,rfl,⟨rfl,rfl⟩,rfl⟩
noncomputable def xX (K:Lf)(t:iR):Sp:=λvs H Q _=>∃ (ea C:Addr) (fs:List (Str×V)),vs=[.ref ea]/\L2.Got K H ea C fs/\(C=t.Astray\/C=t.Unlike\/C=t.NoPlace\/C=t.LeftOpen)/\∀ H',fO H H'->Q (.bl false) H'
noncomputable def ou (B H:Hp)(r:Addr):Ft->Prop
 | .astray T n b=>∃ p,H r=some (.tup [tx [97,115,116,114,97,121],.ref p,.int (b:Nat)])/\mn B H p T n
 | .noplace x T n=>∃ p,H r=some (.tup [tx [110,111,112,108,97,99,101],tx x,.ref p])/\mn B H p T n
 | .unlike w T n T2 n2=>∃ a p q,H r=some (.tup [tx [117,110,108,105,107,101],.ref a,.ref p,.ref q])/\H a=some (.tup (w.map tx))/\mn B H p T n/\mn B H q T2 n2
 | .left T n=>∃ p,H r=some (.tup [tx [108,101,102,116],.ref p])/\mn B H p T n
theorem ou.dt {B H:Hp}{r:Addr}{f:Ft}(h:ou B H r f):fV H (oR (.error f)) (.ref r):=by
 cases f with
 | astray T n b=>obtain⟨p,e,k⟩:=h;exact⟨r,_,rfl,e,_,_,rfl,⟨rfl,rfl⟩,_,_,rfl,k.pl.dt,_,_,rfl,⟨rfl,rfl⟩,rfl⟩
 | noplace x T n=>obtain⟨p,e,k⟩:=h;exact⟨r,_,rfl,e,_,_,rfl,⟨rfl,rfl⟩,_,_,rfl,⟨rfl,rfl⟩,_,_,rfl,k.pl.dt,rfl⟩
 | unlike w T n T2 n2=>obtain⟨a,p,q,e,ha,k,k2⟩:=h;exact⟨r,_,rfl,e,_,_,rfl,⟨rfl,rfl⟩,_,_,rfl,⟨a,_,rfl,ha,jU w⟩,_,_,rfl,k.pl.dt,_,_,rfl,k2.pl.dt,rfl⟩
 | left T n=>obtain⟨p,e,k⟩:=h;exact⟨r,_,rfl,e,_,_,rfl,⟨rfl,rfl⟩,_,_,rfl,k.pl.dt,rfl⟩
theorem ou.mono {B H H':Hp}{r:Addr}{f:Ft}(h:ou B H r f)(g:fO H H'):ou B H' r f:=by
 cases f with
 | astray T n b=>obtain⟨p,e,k⟩:=h;exact⟨p,g _ _ e,k.mono g⟩
 | noplace x T n=>obtain⟨p,e,k⟩:=h;exact⟨p,g _ _ e,k.mono g⟩
 | unlike w T n T2 n2=>obtain⟨a,p,q,e,ha,k,k2⟩:=h;exact⟨a,p,q,g _ _ e,g _ _ ha,k.mono g,k2.mono g⟩
 | left T n=>obtain⟨p,e,k⟩:=h;exact⟨p,g _ _ e,k.mono g⟩
theorem ou.pre {B B1 H:Hp}{r:Addr}{f:Ft}(h:ou B1 H r f)(g:fO B B1):ou B H r f:=by
 cases f with
 | astray T n b=>obtain⟨p,e,k⟩:=h;exact⟨p,e,k.pre g⟩
 | noplace x T n=>obtain⟨p,e,k⟩:=h;exact⟨p,e,k.pre g⟩
 | unlike w T n T2 n2=>obtain⟨a,p,q,e,ha,k,k2⟩:=h;exact⟨a,p,q,e,ha,k.pre g,k2.pre g⟩
 | left T n=>obtain⟨p,e,k⟩:=h;exact⟨p,e,k.pre g⟩
noncomputable def wG (K:Lf)(t:iR):Sp:=λvs H Q _=>∃ (ea C d:Addr) (f:Ft) (B:Hp),vs=[.ref ea]/\yU H ea C (some d)/\oN t B H (.ref C) d f/\∀ r H',fO H H'->ou B H' r f->Q (.ref r) H'
noncomputable def j8:Sp:=λvs H Q _=>∃ (pv:V) (ps:List Pc),vs=[pv]/\rZ H pv ps/\∀ r H',fO H H'->(∀ f,jr ps=.error f->ou H H' r f)->fV H' (oR (jr ps)) (.ref r)->Q (.ref r) H'
mutual
noncomputable def eP:Pc->Nat
 | .lit _=>1
 | .hole _=>1
 | .each _ b=>1+eB b
 | .ife _ a b=>eB a+eB b
 | .seat _ _ _ _=>1
noncomputable def eB:List Pc->Nat
 | []=>1
 | p::ps=>eP p * eB ps
end
mutual
noncomputable def fP:Pc->Nat
 | .lit _=>1
 | .hole _=>1
 | .each _ b=>fB b+1
 | .ife _ a b=>fB a+fB b+1
 | .seat _ _ _ b=>fB b+eB b
noncomputable def fB:List Pc->Nat
 | []=>0
 | p::ps=>fP p+eP p * fB ps
end
def SB (s:MS)(n:Nat):Prop:=s.word.length<=8/\s.opens.length<=n
theorem SB.mono {s:MS}{n m:Nat}(h:SB s n)(k:n<=m):SB s m:=⟨h.1,uJ h.2 k⟩
theorem Va:∀ {ps:List Pc} {p:Pc},p∈ps->iG p<=iG.dpB ps
 | _::_,_,.head _=>by simp only [iG.dpB];omega
 | _::ps,_,.tail _ h=>by have:=Va h;simp only [iG.dpB];omega
inductive mU (H:Hp):List V->List MS->Prop
 | nil:mU H [] []
 | cons {v:V} {s:MS} {vs:List V} {ss:List MS}:lI H v s->mU H vs ss->mU H (v::vs) (s::ss)
theorem mU.mono {H H':Hp}{vs:List V}{ss:List MS}(h:mU H vs ss)(g:fO H H'):mU H' vs ss:=by
 induction h with
 | nil=>exact .nil
 | cons h _ ih=>exact .cons (h.mono g) ih
theorem mU.len {H:Hp}{vs:List V}{ss:List MS}(h:mU H vs ss):vs.length=ss.length:=by
 induction h with
 | nil=>rfl
 | cons _ _ ih=>simp [ih]
theorem mU.app {H:Hp}{vs us:List V}{ss ts:List MS}(h:mU H vs ss)(k:mU H us ts):mU H (vs++us) (ss++ts):=by
 induction h with
 | nil=>exact k
 | cons h _ ih=>exact .cons h ih
theorem mU.get {H:Hp}{vs:List V}{ss:List MS}(h:mU H vs ss):∀ {i:Nat} {v:V},vs[i]? = some v->∃ s,ss[i]? = some s/\lI H v s:=by
 induction h with
 | nil=>intro i v e;simp at e
 | cons h _ ih=>
  intro i v e;cases i with
  | zero=>cases e;exact⟨_,rfl,h⟩
  | succ i=>exact ih (by simpa using e)
theorem mU.ds {H:Hp}{vs:List V}{ss:List MS}(h:mU H vs ss):fZ H (ss.map dS) vs:=by
 induction h with
 | nil=>rfl
 | cons h _ ih=>exact⟨_,_,rfl,h.dat,ih⟩
theorem Gr.len0 {fa:Addr}{H H':Hp}{fs gs:List V}(g:Gr fa H H' fs gs):H' fa=some (.lst (fs++gs)):=g.2
theorem Gr.put {fa:Addr}{H H1:Hp}{fs gs:List V}{v:V}(g:Gr fa H H1 fs gs):Gr fa H (upd H1 fa (.lst (fs++gs++[v]))) fs (gs++[v]):=⟨by rw [E8];exact g.1,by rw [zb,uz]⟩
theorem Gr.then {fa:Addr}{H H1 H2:Hp}{fs gs:List V}(g:Gr fa H H1 fs gs)(k:fO H1 H2):Gr fa H H2 fs gs:=⟨g.1.trans (zt k),k _ _ g.2⟩
theorem OH {fa p:Addr}{H H':Hp}{xs ys:List V}(g:fO (hide fa H) (hide fa H'))(h:H fa=some (.lst xs))(h':H' fa=some (.lst ys))(hp:H' p=none):H p=none:=by
 cases e:H p with
 | none=>rfl
 | some o=>
  have hn:p≠fa:=λz=>by rw [z,h'] at hp;cases hp
  have:=zp _ _ (g p o (by rw [hide_ne hn];exact e));rw [hp] at this;cases this
theorem Bl:∀ a b:List Pc,eB (a++b)=eB a * eB b
 | [],b=>by simp [eB]
 | p::a,b=>by simp only [uE,eB,Bl a b,Nat.mul_assoc]
theorem Bk:∀ a b:List Pc,fB (a++b)=fB a+eB a * fB b
 | [],b=>by simp [fB,eB]
 | p::a,b=>by simp only [uE,fB,eB,Bk a b,Nat.mul_add,Nat.mul_assoc,UY]
theorem YM:∀ a b:List Pc,iG.dpB (a++b)=max (iG.dpB a) (iG.dpB b)
 | [],b=>by simp only [Ub,iG.dpB];exact(Nat.zero_max _).symm
 | p::a,b=>by simp only [uE,iG.dpB,YM a b];exact(Nat.max_assoc _ _ _).symm
theorem JH:∀ a b:List Pc,iu (a++b)=iu a+iu b
 | [],b=>by simp [iu]
 | p::a,b=>by simp only [uE,iu,JH a b];omega
theorem Xf:∀ a b:List Pc,i6.nmB (a++b)=(i6.nmB a&&i6.nmB b)
 | [],b=>by simp [i6.nmB]
 | p::a,b=>by simp only [uE,i6.nmB,Xf a b,Bool.and_assoc]
noncomputable def lE (e:Nat):Nat:=e * e * e
noncomputable def ie:Nat->Nat
 | 0=>1
 | d+1=>2 * lE (ie d)
noncomputable def iF:Nat->Nat
 | 0=>1
 | d+1=>2 * (iF d * (1+ie d+ie d * ie d)+lE (ie d))+lE (ie d)+1
noncomputable def iS:Nat->Nat
 | 0=>1
 | d+1=>2+2 * (3 * iS d+1)
noncomputable def iX:Nat->Nat
 | 0=>10
 | d+1=>2 * (3 * iX d+10)
structure IB (d:Nat)(p:Pc):Prop where
 dp:iG p<=d
 nm:i6 p=true
 sz:iq p<=iS d
 tx:lP p<=iX d
 e:eP p<=ie d
 f:fP p<=iF d
noncomputable def oH (e:Nat):Nat->Nat
 | 0=>1
 | k+1=>oH e k * e
noncomputable def pH (e:Nat):Nat->Nat
 | 0=>0
 | k+1=>pH e k+oH e k
structure LB (d k:Nat)(ps:List Pc):Prop where
 dp:iG.dpB ps<=d
 nm:i6.nmB ps=true
 sz:fY ps<=k * iS d
 tx:iu ps<=k * iX d
 e:eB ps<=oH (ie d) k
 f:fB ps<=iF d * pH (ie d) k
structure EB (d:Nat)(ps:List Pc):Prop where
 dp:iG.dpB ps<=d
 nm:i6.nmB ps=true
 sz:fY ps<=3 * iS d+1
 tx:iu ps<=3 * iX d+10
 e:eB ps<=lE (ie d)
 f:fB ps<=iF d * (1+ie d+ie d * ie d)+lE (ie d)
theorem Bj:∀ d,1<=ie d
 | 0=>by simp [ie]
 | d+1=>by
  have h:=Bj d;have h2:1<=lE (ie d):=by unfold lE;exact gw (gw h h) h
  simp only [ie];lia
theorem LB.snoc {d k:Nat}{ps:List Pc}{p:Pc}(h:LB d k ps)(i:IB d p):LB d (k+1) (ps++[p]):=by
 refine⟨by rw [YM];have:=h.dp;have:=i.dp;simp only [iG.dpB];lia,by rw [Xf,h.nm];simp only [i6.nmB,i.nm];rfl,?_,?_,?_,?_⟩
 ·have:=h.sz;have:=i.sz;rw [z9,GR];simp only [fY];lia
 ·have:=h.tx;have:=i.tx;rw [JH,GR];simp only [iu];lia
 ·rw [Bl];simp only [eB,Nat.mul_one,oH];exact gw h.e i.e
 ·rw [Bk];simp only [fB,eB,Nat.mul_zero,Nat.add_zero,pH,Nat.mul_add];have h1:=h.f;have h2:eB ps * fP p<=iF d * oH (ie d) k:=by rw [Nat.mul_comm (iF d)];exact gw h.e i.f
  lia
theorem Ei (e:Nat)(he:1<=e):∀ k,k<=3->oH e k<=lE e/\pH e k<=1+e+e * e:=by
 intro k hk;have h2:1<=e * e:=gw he he;have h3:e * e<=e * e * e:=Hj _ he;have h4:e<=e * e:=Hj _ he
 match k,hk with
 | 0,_=>simp only [oH,pH,lE];omega
 | 1,_=>simp only [oH,pH,lE,Nat.one_mul];omega
 | 2,_=>simp only [oH,pH,lE,Nat.one_mul];omega
 | 3,_=>simp only [oH,pH,lE,Nat.one_mul];omega
theorem LB.eb {d k:Nat}{ps:List Pc}(h:LB d k ps)(hk:k<=3):EB d ps:=by
 obtain⟨a,b⟩:=Ei (ie d) (Bj d) k hk;refine⟨h.dp,h.nm,?_,?_,uJ h.e a,?_⟩
 ·have:=h.sz;have:=UJ (iS d) hk;lia
 ·have:=h.tx;have:=UJ (iX d) hk;lia
 ·have:=h.f;have:=Nat.mul_le_mul_left (iF d) b;lia
noncomputable abbrev Lt (l:Tx):List Pc:=if l=[] then [] else [.lit l]
theorem LB.lt {d k:Nat}{ps:List Pc}(h:LB d k ps)(hk:k<=3){l:Tx}(hl:l.length<=10):EB d (ps++Lt l):=by
 by_cases h0:l=[]
 ·rw [show Lt l=[] from ue h0,uj];exact h.eb hk
 rw [show Lt l=[.lit l] from ub h0];obtain⟨a,b⟩:=Ei (ie d) (Bj d) k hk;refine⟨by rw [YM];have:=h.dp;simp only [iG.dpB,iG];lia,by rw [Xf,h.nm];rfl,?_,?_,?_,?_⟩
 ·have:=h.sz;have:=UJ (iS d) hk;rw [z9];simp only [fY,iq];lia
 ·have:=h.tx;have:=UJ (iX d) hk;rw [JH];simp only [iu,lP];lia
 ·rw [Bl];simp only [eB,eP,Nat.mul_one];exact uJ h.e a
 ·rw [Bk];simp only [fB,eB,eP,fP,Nat.mul_one,Nat.mul_zero,Nat.add_zero];have:=h.f;have:=h.e;have:=Nat.mul_le_mul_left (iF d) b;lia
def sf (H:Hp)(x:V)(n:Nat):Prop:=x=.non\/∃ s,lI H x s/\SB s n
theorem sf.mono {H H':Hp}{x:V}{n:Nat}(h:sf H x n)(g:fO H H'):sf H' x n:=by
 rcases h with h | ⟨s,h,k⟩
 ·exact .inl h
 ·exact .inr ⟨s,h.mono g,k⟩
theorem sf.up {H:Hp}{x:V}{n m:Nat}(h:sf H x n)(k:n<=m):sf H x m:=by
 rcases h with h | ⟨s,h,l⟩
 ·exact .inl h
 ·exact .inr ⟨s,h,l.mono k⟩
noncomputable def nw (H H':Hp):Hp:=λb=>if H b=none then H' b else none
noncomputable def ov (Hs H H':Hp):Hp:=λb=>if H b=none then H' b else Hs b
theorem Qs {H H':Hp}:fO (nw H H') H':=λb o h=>by unfold nw at h;split at h;exact h;cases h
theorem Bi {H H':Hp}{b:Addr}(h:H b=none):nw H H' b=H' b:=ue h
theorem xH {H H1 H2:Hp}(g:fO H1 H2):fO (nw H H1) (nw H H2):=λb o h=>by
 unfold nw at h ⊢;split at h
 ·rename_i z;rw [ue z];exact g _ _ h
 ·cases h
def Rm (ra:Addr)(H H':Hp):Prop:=fO (hide ra H) (hide ra H')/\∃ m:Int,H' ra=some (.lst [.int m])
theorem Rm.trans {ra:Addr}{H H1 H2:Hp}(a:Rm ra H H1)(b:Rm ra H1 H2):Rm ra H H2:=⟨a.1.trans b.1,b.2⟩
theorem Rm.same {ra:Addr}{H H':Hp}{m:Int}(h:H ra=some (.lst [.int m]))(g:fO H H'):Rm ra H H':=⟨zt g,m,g _ _ h⟩
theorem Rm.fresh {ra p:Addr}{H H':Hp}{m:Int}(g:Rm ra H H')(h:H ra=some (.lst [.int m]))(hp:H' p=none):H p=none:=by obtain⟨g1,m',h'⟩:=g;exact OH g1 h h' hp
theorem xY:∀ ps:List Pc,ps.length<=fY ps
 | []=>by simp
 | p::ps=>by
  have h1:=xY ps;have h2:1<=iq p:=by cases p<;>simp only [iq]<;>lia
  simp only [uo,fY];lia
noncomputable def Wy (K:Lf):Sp:=λvs H Q _=>∃ (a:Addr) (ns:List Int),vs=[.ref a]/\ij K H a (ns.map V.int)/\ns.length<=63/\∀ H',Q (.bl true) H'
noncomputable abbrev Off:=Ld×Nat
noncomputable def Off.add (a b:Off):Off:=(a.1++b.1,a.2+b.2)
theorem Off.assoc (a b c:Off):(a.add b).add c=a.add (b.add c):=by unfold Off.add;simp [UY]
mutual
noncomputable def qN:Pc->Off
 | .lit _=>([],1)
 | .hole _=>([],1)
 | .each _ _=>([0],0)
 | .ife _ a _=>([0]++(zy a).1,(zy a).2)
 | .seat _ _ _ b=>((zy b).1,2+(zy b).2)
noncomputable def zy:List Pc->Off
 | []=>([],0)
 | p::ps=>(qN p).add (zy ps)
end
theorem Z4 (a b:List Pc):zy (a++b)=(zy a).add (zy b):=by
 induction a with
 | nil=>simp [zy,Off.add]
 | cons p a ih=>rw [uE,zy,ih,zy,Off.assoc]
mutual
theorem Vb:∀ (p:Pc) (x e:lX) (h:Ho),qf p x=.ok (e,h)->e.T=x.T++(qN p).1/\e.n=x.n+(qN p).2
 | .lit t,x,e,h,q=>by
  simp only [qf] at q;split at q
  ·cases q;exact⟨(uj _).symm,rfl⟩
  ·cases q
 | .hole t,x,e,h,q=>by
  simp only [qf] at q;split at q
  ·cases q;exact⟨(uj _).symm,rfl⟩
  ·cases q
 | .each n b,x,e,h,q=>by
  simp only [qf] at q;split at q
  ·cases q
  ·split at q
   ·cases q;exact⟨rfl,rfl⟩
   ·cases q
 | .ife n a b,x,e,h,q=>by
  simp only [qf] at q;split at q
  ·cases q
  ·rename_i r hr;split at q
   ·cases q
   ·split at q
    ·cases q;obtain⟨a1,a2⟩:=wV a _ r.1 r.2 hr;exact⟨by rw [a1,qN,uz],by rw [a2];rfl⟩
    ·cases q
 | .seat w m y b,x,e,h,q=>by
  simp only [qf] at q;split at q
  ·cases q
  ·rename_i r hr;split at q
   ·cases q;obtain⟨a1,a2⟩:=wV b _ r.1 r.2 hr;refine⟨a1,?_⟩;show r.1.n+1=x.n+(2+(zy b).2);rw [a2];dsimp only;lia
   ·cases q
theorem wV:∀ (ps:List Pc) (x e:lX) (h:Ho),zA ps x=.ok (e,h)->e.T=x.T++(zy ps).1/\e.n=x.n+(zy ps).2
 | [],x,e,h,q=>by simp only [zA] at q;cases q;exact⟨(uj _).symm,rfl⟩
 | p::ps,x,e,h,q=>by
  simp only [zA] at q;split at q
  ·cases q
  ·rename_i r hr;split at q
   ·cases q
   ·rename_i r2 hr2;cases q;obtain⟨a1,a2⟩:=Vb p x r.1 r.2 hr;obtain⟨b1,b2⟩:=wV ps r.1 r2.1 r2.2 hr2;exact⟨by rw [b1,a1,zy,Off.add,uz],by rw [b2,a2,zy,Off.add,UY]⟩
end
noncomputable def wZ (mk:Tx):Pc->Bool
 | .lit t=>lA mk t
 | .hole x=>decide (x=mk)
 | .each x _=>decide (x=mk)
 | .ife x _ _=>decide (x=mk)
 | .seat _ n _ _=>decide (n=mk)
mutual
noncomputable def qC (mk:Tx):Pc->Option Off
 | .lit t=>if wZ mk (.lit t) then some ([],0) else none
 | .hole x=>if wZ mk (.hole x) then some ([],0) else none
 | .each x b=>if decide (x=mk) then some ([],0) else(zG mk b).map (Off.add ([1],0))
 | .ife x a b=>if decide (x=mk) then some ([],0) else match zG mk a with
  | some r=>some (Off.add ([0],0) r)
  | none=>(zG mk b).map (Off.add ([1],0))
 | .seat _ n _ b=>if decide (n=mk) then some ([],0) else(zG mk b).map (Off.add ([],1))
noncomputable def zG (mk:Tx):List Pc->Option Off
 | []=>none
 | p::ps=>match qC mk p with
  | some r=>some r
  | none=>(zG mk ps).map (Off.add (qN p))
end
theorem kz (mk:Tx):∀ (a b:List Pc),zG mk (a++b)=match zG mk a with
  | some r=>some r
  | none=>(zG mk b).map (Off.add (zy a))
 | [],b=>by
  simp only [Ub,zG,zy]
  cases zG mk b with
  | none=>rfl
  | some r=>simp [Off.add]
 | p::a,b=>by
  rw [uE,zG,zG,kz mk a b,zy]
  cases qC mk p with
  | some r=>rfl
  | none=>
   cases zG mk a with
   | some r=>rfl
   | none=>
    cases zG mk b with
    | none=>rfl
    | some r=>simp only [uW,Option.map_none,Off.assoc]
theorem zaA {a b:List Pc}{x e:lX}{h:Ho}(q:zA a x=.ok (e,h)):∀ {f:Ft},zA b e=.error f->zA (a++b) x=.error f:=by
 induction a generalizing x h with
 | nil=>intro f k;simp only [zA] at q;cases q;exact k
 | cons p a ih=>
  intro f k;simp only [zA] at q;rw [uE,zA];split at q
  ·cases q
  ·rename_i r hr;split at q
   ·cases q
   ·rename_i r2 hr2;cases q;rw [ih hr2 k]
theorem YN {a b:List Pc}{x:lX}{f:Ft}(q:zA a x=.error f):zA (a++b) x=.error f:=by
 induction a generalizing x with
 | nil=>simp only [zA] at q;cases q
 | cons p a ih=>
  simp only [zA] at q;rw [uE,zA];split at q
  ·exact q
  ·split at q
   ·rename_i e he;rw [ih (he.trans q)]
   ·cases q
noncomputable def zP:Tx:=[116,101,120,116]
noncomputable def xr:Tx:=[100,111,110,101]
noncomputable def nZ (kind:Tx):Tx:=if kind=zP then [120,32,121,38,48,53,59] else if kind=xr then [32,99,61,34,121,34] else [122,48]
noncomputable def WR:Tx:=[98,97,114,101]
noncomputable def Qh:Tx:=[113,117,111,116,101,100]
noncomputable def n8:Tx:=[114,111,119]
noncomputable def sx:Tx:=[115,97,105,100]
inductive Kn:Tx->Prop
 | text:Kn zP
 | done:Kn xr
 | bare:Kn WR
 | quoted:Kn Qh
 | row:Kn n8
 | said:Kn sx
noncomputable def sK (kind:Tx)(op:List Tx):MS:=if kind=sx then⟨Zu,[],op,vH⟩ else⟨kind,[],op,[]⟩
theorem OG (kind:Tx)(op:List Tx):(sK kind op).opens=op:=by unfold sK;split<;>rfl
theorem YO (kind:Tx)(op op':List Tx):{ sK kind op with opens:=op' }=sK kind op':=by unfold sK;split<;>rfl
theorem NO {kind:Tx}{op:List Tx}(k:Kn kind):∃ es,runM (sK kind op) (nZ kind)=.ok (sK kind op,es):=by cases k<;>exact⟨_,rfl⟩
theorem YQ {op:List Tx}{x:Tx}{es:List Ev}(hx:x≠Jr):yw (op++[x]) es=ja xF (op++[x]) (es++[[oi]]):=by unfold yw;rw [ub (by simp),List.getLast?_concat,ub (by simpa using hx)]
theorem OF {op:List Tx}:∃ es,runM (sK zP (op++[[98]])) [60,47,98,62]=.ok (sK zP op,es):=by refine⟨_,E9 (a:=[60,47,98]) (b:=[62]) (s1:=⟨VT,[98],op++[[98]],[]⟩) (e2:=[[pq]]) rfl (X7 ?_)⟩;show Js [98] (op++[[98]]) [] 62=_;unfold Js;rw [ub (by decide),ue ⟨rfl,by rw [List.getLast?_concat]⟩];unfold kK;rw [ub (by simp),gc];rfl
theorem LY {kind:Tx}{op:List Tx}(h:kind=WR\/kind=xr):∃ es,runM (sK kind (op++[[98]])) [62]=.ok (sK zP (op++[[98]]),es):=by
 refine⟨[[oi]],X7 ?_⟩;rcases h with rfl | rfl
 ·show yw (op++[[98]]) []=_;rw [YQ (by decide)];rfl
 ·show yw (op++[[98]]) []=_;rw [YQ (by decide)];rfl
inductive Fw where
 | astray | noplace | ife | each | seat
noncomputable abbrev JI:Tx:=[100,114,97,119]
noncomputable def lG (mk kind:Tx):Tx:=if kind=zP then [60,47]++mk++[62] else if kind=Qh then [34,61]++mk else if kind=n8 then [41,61]++mk else if kind=sx then [39,61]++mk else [61]++mk
noncomputable def Jg (kind:Tx):Tx:=if kind=zP then [120,60] else if kind=xr then [32,117] else if kind=WR then [126] else if kind=Qh then [38] else [92]
noncomputable def Zw (kind:Tx):Tx:=if kind=zP then [60,117,62] else if kind=xr then [32,117,58,118] else if kind=WR then [32] else if kind=Qh then [34] else if kind=n8 then [41] else [39]
noncomputable def oM (kind:Tx):Nat:=if kind=zP then 4 else if kind=xr\/kind=WR then 0 else 1
noncomputable def qI (wd:Fw)(mk kind:Tx):List Pc:=match wd with
 | .astray=>[.lit (lG mk kind)]
 | .noplace=>[.lit (Jg kind),.hole mk,.lit [98]]
 | .ife=>[.ife mk [.lit (Zw kind)] []]
 | .each=>[.each mk [.lit (Zw kind)]]
 | .seat=>[.seat JI mk [] [.lit (Zw kind)]]
noncomputable def lU (wd:Fw)(mk:Tx)(at_:Nat)(r:Off):Ft:=match wd with
 | .astray=>.astray r.1 r.2 at_
 | .noplace=>.noplace mk r.1 r.2
 | .ife=>.unlike [[105,102],mk] (r.1++[0]) (r.2+1) (r.1++[1]) r.2
 | .each=>.unlike [[101,97,99,104],mk] (r.1++[0]) r.2 (r.1++[1]) (r.2+1)
 | .seat=>.unlike [X9,JI,mk,[]] r.1 (r.2+1) r.1 (r.2+2)
noncomputable def mv (wd:Fw):Off:=match wd with
 | .noplace=>([],1)
 | _=>([],0)
noncomputable abbrev zz:Tx:=[122,122]
noncomputable abbrev yy:Tx:=[121,121]
def Mk (mk:Tx):Prop:=mk=zz\/mk=yy
def nq (op:List Tx):Prop:=∀ x∈op,x=[98]
theorem Fm {s s1:MS}{e1:List Ev}{c:Nat}:∀ {a:Ld},runM s a=.ok (s1,e1)->yx s1 c=none->runM s (a++[c])=.error a.length:=by
 intro a
 induction a generalizing s e1 with
 | nil=>intro h1 h2;simp only [runM,U0,Uz] at h1;obtain⟨rfl,rfl⟩:=h1;simp only [Ub,runM,h2];rfl
 | cons d r ih=>
  intro h1 h2;simp only [runM] at h1;cases hq:yx s d with
  | none=>rw [hq] at h1;cases h1
  | some x=>
   obtain⟨s',es⟩:=x;rw [hq] at h1;simp only at h1;cases hr:runM s' r with
   | error n=>rw [hr] at h1;cases h1
   | ok y=>obtain⟨s'',fs⟩:=y;rw [hr] at h1;simp only [U0,Uz] at h1;obtain⟨rfl,rfl⟩:=h1;simp only [uE,runM,hq,ih hr h2,uo]
theorem NN {mk kind:Tx}{op:List Tx}(k:Kn kind)(hm:Mk mk)(ho:nq op):runM (sK kind op) (lG mk kind)=.error (oM kind):=by
 cases k with
 | text=>
  have last:op.getLast?≠some mk:=λh=>by have:=ho mk (List.mem_of_getLast? h);rcases hm with rfl | rfl<;>cases this
  have st:yx ⟨VT,mk,op,[]⟩ 62=none:=by show Js mk op [] 62=_;unfold Js;rw [ub (by decide),ub λh=>last h.2]
  rcases hm with rfl | rfl
  ·exact Fm (a:=[60,47,122,122]) rfl st
  ·exact Fm (a:=[60,47,121,121]) rfl st
 | done=>rcases hm with rfl | rfl<;>rfl
 | bare=>rcases hm with rfl | rfl<;>rfl
 | quoted=>rcases hm with rfl | rfl<;>rfl
 | row=>rcases hm with rfl | rfl<;>rfl
 | said=>rcases hm with rfl | rfl<;>rfl
theorem Rf {kind:Tx}{op:List Tx}(k:Kn kind):∃ s es,runM (sK kind op) (Jg kind)=.ok (s,es)/\kh s=none:=by cases k<;>exact⟨_,_,rfl,rfl⟩
theorem Vc {kind:Tx}{op:List Tx}(k:Kn kind):∃ s es,runM (sK kind op) (Zw kind)=.ok (s,es)/\s≠sK kind op:=by
 cases k with
 | text=>
  refine⟨⟨xF,[],op++[[117]],[]⟩,_,E9 (a:=[60,117]) (b:=[62]) (s1:=⟨KS,[117],op,[]⟩) (e2:=[[nF,[117]],[oi]]) rfl (X7 ?_),?_⟩
  ·show yw (op++[[117]]) [[nF,[117]]]=_;rw [YQ (by decide)];rfl
  ·intro h;have:=congrArg (λs:MS=>s.opens.length) h;rw [OG] at this;simp at this
 | _=>exact⟨_,_,rfl,by intro h;cases h⟩
theorem LX {t:Tx}{x:lX}{s:MS}{es:List Ev}(e:runM x.s t=.ok (s,es)):zA [.lit t] x=.ok (⟨s,x.T,x.n+1⟩,[]):=by simp only [zA,qf,e];rfl
theorem Rc {wd:Fw}{mk kind:Tx}{op:List Tx}{T:Ld}{n:Nat}(k:Kn kind)(hm:Mk mk)(ho:nq op):zA (qI wd mk kind) ⟨sK kind op,T,n⟩=.error (lU wd mk (oM kind) (Off.add (T,n) (mv wd))):=by
 cases wd with
 | astray=>simp only [qI,zA,qf,NN k hm ho];simp [lU,mv,Off.add]
 | noplace=>obtain⟨s,es,e,p⟩:=Rf (op:=op) k;simp only [qI,zA,qf,e,p];simp [lU,mv,Off.add]
 | ife=>obtain⟨s,es,e,p⟩:=Vc (op:=op) k;show zA [.ife mk [.lit (Zw kind)] []] _=_;simp only [zA,qf,e];rw [ub p];simp [lU,mv,Off.add]
 | each=>obtain⟨s,es,e,p⟩:=Vc (op:=op) k;show zA [.each mk [.lit (Zw kind)]] _=_;simp only [zA,qf,e];rw [ub p];simp [lU,mv,Off.add]
 | seat=>obtain⟨s,es,e,p⟩:=Vc (op:=[]) k;have f:mS (sK kind op)=sK kind []:=YO kind op [];show zA [.seat JI mk [] [.lit (Zw kind)]] _=_;simp only [zA,qf,f,e];rw [ub p];simp [lU,mv,Off.add]
theorem Tr {wd:Fw}{mk kind:Tx}(k:Kn kind)(hm:Mk mk):zG mk (qI wd mk kind)=some (mv wd):=by
 have h1:lA mk (lG mk kind)=true:=by cases k<;>rcases hm with rfl | rfl<;>decide
 have h2:lA mk (Jg kind)=false:=by cases k<;>rcases hm with rfl | rfl<;>decide
 cases wd<;>simp [qI,zG,qC,wZ,h1,h2,mv,Off.add,qN]
mutual
noncomputable def xt (mk:Tx):Pc->Option Tx
 | .lit t=>if lA mk t then some t else none
 | .hole _=>none
 | .each _ b=>qD mk b
 | .ife _ a b=>match qD mk a with
  | some t=>some t
  | none=>qD mk b
 | .seat _ _ _ b=>qD mk b
noncomputable def qD (mk:Tx):List Pc->Option Tx
 | []=>none
 | p::ps=>match xt mk p with
  | some t=>some t
  | none=>qD mk ps
end
theorem kA (mk:Tx):∀ (a b:List Pc),qD mk (a++b)=match qD mk a with
  | some t=>some t
  | none=>qD mk b
 | [],b=>rfl
 | p::a,b=>by
  rw [uE,qD,qD,kA mk a b]
  cases xt mk p with
  | some t=>rfl
  | none=>rfl
mutual
noncomputable def wt (ms:List Tx):Pc->Option Tx
 | .lit t=>ms.find? λm=>wZ m (.lit t)
 | .hole x=>ms.find? λm=>wZ m (.hole x)
 | .each x b=>match ms.find? λm=>decide (x=m) with
  | some m=>some m
  | none=>qz ms b
 | .ife x a b=>match ms.find? λm=>decide (x=m) with
  | some m=>some m
  | none=>match qz ms a with
   | some m=>some m
   | none=>qz ms b
 | .seat _ n _ b=>match ms.find? λm=>decide (n=m) with
  | some m=>some m
  | none=>qz ms b
noncomputable def qz (ms:List Tx):List Pc->Option Tx
 | []=>none
 | p::ps=>match wt ms p with
  | some m=>some m
  | none=>qz ms ps
end
theorem Qi (ms:List Tx):∀ (a b:List Pc),qz ms (a++b)=match qz ms a with
  | some t=>some t
  | none=>qz ms b
 | [],b=>rfl
 | p::a,b=>by
  rw [uE,qz,qz,Qi ms a b]
  cases wt ms p with
  | some t=>rfl
  | none=>rfl
def Ms (ms:List Tx):Prop:=∀ m∈ms,Mk m
structure lh (d:Nat)(kd:Tx)(o:List Tx)(kd':Tx)(o':List Tx)(ps:List Pc):Prop where
 look:∀ op T n,nq op->op.length+d<=1000->∃ hs,zA ps ⟨sK kd (op++o),T,n⟩=.ok (⟨sK kd' (op++o'),T++(zy ps).1,n+(zy ps).2⟩,hs)
 path:∀ mk,Mk mk->zG mk ps=none
 text:∀ mk,Mk mk->qD mk ps=none
 first:∀ ms,Ms ms->qz ms ps=none
structure iZ (d:Nat)(kd:Tx)(o:List Tx)(ps:List Pc)(wd:Fw)(mk kk:Tx)(r:Off):Prop where
 look:∀ op T n,nq op->op.length+d<=1000->zA ps ⟨sK kd (op++o),T,n⟩=.error (lU wd mk (oM kk) (Off.add (T,n) r))
 path:zG mk ps=some r
 text:wd=.astray->qD mk ps=some (lG mk kk)
 first:∀ ms,Ms ms->mk∈ms->qz ms ps=some mk
abbrev Ad (d:Nat)(kd:Tx)(ps:List Pc):Prop:=lh d kd [] kd [] ps
abbrev oC (d:Nat)(kd:Tx)(ps:List Pc)(wd:Fw)(mk kk:Tx)(r:Off):Prop:=iZ d kd [] ps wd mk kk r
theorem lh.nil {d:Nat}{kd:Tx}{o:List Tx}:lh d kd o kd o []:=⟨λop T n _ _=>⟨[],by simp [zA,zy]⟩,λ_ _=>rfl,λ_ _=>rfl,λ_ _=>rfl⟩
theorem Rb {a b:List Pc}{x e e2:lX}{h h2:Ho}(q:zA a x=.ok (e,h))(k:zA b e=.ok (e2,h2)):zA (a++b) x=.ok (e2,h++h2):=by
 induction a generalizing x h with
 | nil=>simp only [zA] at q;cases q;exact k
 | cons p a ih=>
  simp only [zA] at q;rw [uE,zA];split at q
  ·cases q
  ·rename_i r hr;split at q
   ·cases q
   ·rename_i r2 hr2;cases q;rw [ih hr2];simp only [uz]
section
variable {d:Nat} {kd kd' kd2:Tx} {o o' o2:List Tx} {a b:List Pc} {wd:Fw} {mk kk:Tx} {r:Off}
theorem lh.app (h:lh d kd o kd' o' a)(k:lh d kd' o' kd2 o2 b):lh d kd o kd2 o2 (a++b):=by
 refine⟨λop T n ho hd=>?_,λmk hm=>?_,λmk hm=>?_,λms hm=>?_⟩
 ·obtain⟨h1,e1⟩:=h.look op T n ho hd;obtain⟨h2,e2⟩:=k.look op (T++(zy a).1) (n+(zy a).2) ho hd;refine⟨h1++h2,?_⟩;rw [Rb e1 e2,Z4];simp [Off.add,UY]
 ·rw [kz,h.path mk hm,k.path mk hm];rfl
 ·rw [kA,h.text mk hm,k.text mk hm]
 ·rw [Qi,h.first ms hm,k.first ms hm]
theorem lh.bad (h:lh d kd o kd' o' a)(hm:Mk mk)(k:iZ d kd' o' b wd mk kk r):iZ d kd o (a++b) wd mk kk (Off.add (zy a) r):=by
 refine⟨λop T n ho hd=>?_,?_,λe=>?_,λms hs hi=>?_⟩
 ·obtain⟨h1,e1⟩:=h.look op T n ho hd;rw [zaA e1 (k.look op _ _ ho hd),← Off.assoc];rfl
 ·rw [kz,h.path mk hm,k.path];rfl
 ·rw [kA,h.text mk hm,k.text e]
 ·rw [Qi,h.first ms hs,k.first ms hs hi]
theorem iZ.app (h:iZ d kd o a wd mk kk r):iZ d kd o (a++b) wd mk kk r:=by
 refine⟨λop T n ho hd=>YN (h.look op T n ho hd),?_,λe=>?_,λms hs hi=>?_⟩
 ·rw [kz,h.path]
 ·rw [kA,h.text e]
 ·rw [Qi,h.first ms hs hi]
theorem nq.app {op:List Tx}(h:nq op)(k:nq o):nq (op++o):=λx hx=>(u9.mp hx).elim (h x) (k x)
theorem lh.inn (h:Ad d kd a)(ho:nq o)(hl:o.length<=1):lh (d+1) kd o kd o a:=by refine⟨λop T n hop hd=>?_,h.path,h.text,h.first⟩;have:=h.look (op++o) T n (hop.app ho) (by rw [uc];lia);rwa [uj] at this
theorem iZ.inn (h:oC d kd a wd mk kk r)(ho:nq o)(hl:o.length<=1):iZ (d+1) kd o a wd mk kk r:=by refine⟨λop T n hop hd=>?_,h.path,h.text,h.first⟩;have:=h.look (op++o) T n (hop.app ho) (by rw [uc];lia);rwa [uj] at this
theorem lh.mono (h:lh d kd o kd' o' a){e:Nat}(hd:d<=e):lh e kd o kd' o' a:=⟨λop T n h1 h2=>h.look op T n h1 (by lia),h.path,h.text,h.first⟩
theorem iZ.mono (h:iZ d kd o a wd mk kk r){e:Nat}(hd:d<=e):iZ e kd o a wd mk kk r:=⟨λop T n h1 h2=>h.look op T n h1 (by lia),h.path,h.text,h.first⟩
theorem find_none {p:Tx->Bool}{ms:List Tx}(h:∀ m∈ms,p m=false):ms.find? p=none:=by rw [List.find?_eq_none];intro m hm;rw [h m hm];decide
theorem Fj {p:Tx->Bool}{ms:List Tx}{mk:Tx}(hi:mk∈ms)(h1:p mk=true)(h:∀ m∈ms,p m=true->m=mk):ms.find? p=some mk:=by
 cases e:ms.find? p with
 | none=>exact absurd h1 (by have:=List.find?_eq_none.mp e mk hi;simpa using this)
 | some m=>rw [h m (List.mem_of_find?_eq_some e) (List.find?_some e)]
theorem yq {t:Tx}(h:∀ op,nq op->∃ es,runM (sK kd (op++o)) t=.ok (sK kd' (op++o'),es))(hu:∀ mk,Mk mk->lA mk t=false):lh d kd o kd' o' [.lit t]:=by
 refine⟨λop T n ho _=>?_,λmk hm=>?_,λmk hm=>?_,λms hs=>?_⟩
 ·obtain⟨es,e⟩:=h op ho;exact⟨[],by rw [LX e];simp [zy,qN,Off.add]⟩
 ·simp [zG,qC,wZ,hu mk hm]
 ·simp [qD,xt,hu mk hm]
 ·simp only [qz,wt,wZ];rw [find_none λm hm=>hu m (hs m hm)]
theorem NM {x:Tx}(h:∀ op,∃ k,kh (sK kd (op++o))=some k)(hx:¬ Mk x):lh d kd o kd o [.hole x]:=by
 have ne:∀ {mk:Tx},Mk mk->x≠mk:=λhm e=>hx (e ▸ hm);refine⟨λop T n ho _=>?_,λmk hm=>?_,λmk hm=>?_,λms hs=>?_⟩
 ·obtain⟨k,e⟩:=h op;exact⟨[(x,k)],by simp [zA,qf,e,zy,qN,Off.add]⟩
 ·simp [zG,qC,wZ,ne hm]
 ·rfl
 ·simp only [qz,wt,wZ];rw [find_none λm hm=>uF (ne (hs m hm))]
theorem NL {x:Tx}(h:lh d kd o kd o a)(hx:¬ Mk x):lh d kd o kd o [.each x a]:=by
 have ne:∀ {mk:Tx},Mk mk->x≠mk:=λhm e=>hx (e ▸ hm);refine⟨λop T n ho hd=>?_,λmk hm=>?_,λmk hm=>?_,λms hs=>?_⟩
 ·obtain⟨hs,e⟩:=h.look op (T++[1]) n ho hd;exact⟨hs,by simp [zA,qf,e,zy,qN,Off.add]⟩
 ·simp [zG,qC,ne hm,h.path mk hm]
 ·simp [qD,xt,h.text mk hm]
 ·simp only [qz,wt];rw [find_none λm hm=>uF (ne (hs m hm)),h.first ms hs]
theorem OE {x:Tx}(h:iZ d kd o a wd mk kk r)(hm:Mk mk)(hx:¬ Mk x):iZ d kd o [.each x a] wd mk kk (Off.add ([1],0) r):=by
 have ne:∀ {mk:Tx},Mk mk->x≠mk:=λhm e=>hx (e ▸ hm);refine⟨λop T n ho hd=>?_,?_,λe=>?_,λms hs hi=>?_⟩
 ·have e:=h.look op (T++[1]) n ho hd;simp only [zA,qf,e];simp [Off.add]
 ·simp [zG,qC,ne hm,h.path]
 ·simp [qD,xt,h.text e]
 ·simp only [qz,wt];rw [find_none λm hm=>uF (ne (hs m hm)),h.first ms hs hi]
theorem LW {x:Tx}(h:lh d kd o kd' o' a)(k:lh d kd o kd' o' b)(hx:¬ Mk x):lh d kd o kd' o' [.ife x a b]:=by
 have ne:∀ {mk:Tx},Mk mk->x≠mk:=λhm e=>hx (e ▸ hm);refine⟨λop T n ho hd=>?_,λmk hm=>?_,λmk hm=>?_,λms hs=>?_⟩
 ·obtain⟨h1,e1⟩:=h.look op (T++[0]) n ho hd;obtain⟨h2,e2⟩:=k.look op (T++[1]) n ho hd;exact⟨h1++h2,by simp [zA,qf,e1,e2,zy,qN,Off.add]⟩
 ·simp [zG,qC,ne hm,h.path mk hm,k.path mk hm]
 ·simp [qD,xt,h.text mk hm,k.text mk hm]
 ·simp only [qz,wt];rw [find_none λm hm=>uF (ne (hs m hm)),h.first ms hs,k.first ms hs]
theorem NK {x:Tx}(h:iZ d kd o a wd mk kk r)(hm:Mk mk)(hx:¬ Mk x):iZ d kd o [.ife x a b] wd mk kk (Off.add ([0],0) r):=by
 have ne:∀ {mk:Tx},Mk mk->x≠mk:=λhm e=>hx (e ▸ hm);refine⟨λop T n ho hd=>?_,?_,λe=>?_,λms hs hi=>?_⟩
 ·have e:=h.look op (T++[0]) n ho hd;simp only [zA,qf,e];simp [Off.add]
 ·simp [zG,qC,ne hm,h.path]
 ·simp [qD,xt,h.text e]
 ·simp only [qz,wt];rw [find_none λm hm=>uF (ne (hs m hm)),h.first ms hs hi]
theorem Ol {x:Tx}(k:lh d kd o kd' o' a)(h:iZ d kd o b wd mk kk r)(hm:Mk mk)(hx:¬ Mk x):iZ d kd o [.ife x a b] wd mk kk (Off.add ([1],0) r):=by
 have ne:∀ {mk:Tx},Mk mk->x≠mk:=λhm e=>hx (e ▸ hm);refine⟨λop T n ho hd=>?_,?_,λe=>?_,λms hs hi=>?_⟩
 ·obtain⟨h1,e1⟩:=k.look op (T++[0]) n ho hd;have e:=h.look op (T++[1]) n ho hd;simp only [zA,qf,e1,e];simp [Off.add]
 ·simp [zG,qC,ne hm,k.path mk hm,h.path]
 ·simp [qD,xt,k.text mk hm,h.text e]
 ·simp only [qz,wt];rw [find_none λm hm=>uF (ne (hs m hm)),k.first ms hs,h.first ms hs hi]
theorem Oe {w x y:Tx}(h:Ad d kd a)(hx:¬ Mk x)(hd0:d<=1000):lh d kd o kd o [.seat w x y a]:=by
 have ne:∀ {mk:Tx},Mk mk->x≠mk:=λhm e=>hx (e ▸ hm);refine⟨λop T n ho hd=>?_,λmk hm=>?_,λmk hm=>?_,λms hs=>?_⟩
 ·have f:mS (sK kd (op++o))=sK kd ([]++[]):=YO kd (op++o) [];obtain⟨hs,e⟩:=h.look [] T (n+1) nofun (by simpa using hd0);refine⟨hs,?_⟩;simp only [zA,qf,f,e];simp [zy,qN,Off.add];lia
 ·simp [zG,qC,ne hm,h.path mk hm]
 ·simp [qD,xt,h.text mk hm]
 ·simp only [qz,wt];rw [find_none λm hm=>uF (ne (hs m hm)),h.first ms hs]
theorem OD {w x y:Tx}(h:oC d kd a wd mk kk r)(hm:Mk mk)(hx:¬ Mk x)(hd0:d<=1000):iZ d kd o [.seat w x y a] wd mk kk (Off.add ([],1) r):=by
 have ne:∀ {mk:Tx},Mk mk->x≠mk:=λhm e=>hx (e ▸ hm);refine⟨λop T n ho hd=>?_,?_,λe=>?_,λms hs hi=>?_⟩
 ·have f:mS (sK kd (op++o))=sK kd ([]++[]):=YO kd (op++o) [];have e:=h.look [] T (n+1) nofun (by simpa using hd0);simp only [zA,qf,f,e];simp [Off.add,UY]
 ·simp [zG,qC,ne hm,h.path]
 ·simp [qD,xt,h.text e]
 ·simp only [qz,wt];rw [find_none λm hm=>uF (ne (hs m hm)),h.first ms hs hi]
end
section
variable {d:Nat} {kd kd':Tx} {a b c:List Pc} {wd:Fw} {mk kk:Tx} {r:Off}
theorem V3 (k:Kn kd)(hm:Mk mk):oC d kd (qI wd mk kd) wd mk kd (mv wd):=by
 refine⟨λop T n ho _=>by rw [uj];exact Rc k hm ho,Tr k hm,λe=>?_,λms hs hi=>?_⟩
 ·subst e;have h1:lA mk (lG mk kd)=true:=by cases k<;>rcases hm with rfl | rfl<;>decide
  simp [qI,qD,xt,h1]
 ·have h1:∀ m∈ms,lA m (lG mk kd)=true->m=mk:=λm hi e=>by
   have:=hs m hi
   cases k<;>rcases hm with rfl | rfl<;>rcases this with rfl | rfl<;>first | rfl | (revert e;decide)
  have h0:lA mk (lG mk kd)=true:=by cases k<;>rcases hm with rfl | rfl<;>decide
  have h2:∀ m∈ms,lA m (Jg kd)=false:=λm hi=>by
   have:=hs m hi
   cases k<;>rcases this with rfl | rfl<;>decide
  have eq1:∀ {p:Tx->Bool},(∀ m,p m=decide (mk=m))->ms.find? p=some mk:=λ{p} hp=>Fj hi (by rw [hp];simp) λm _ e=>by rw [hp] at e;exact(GK e).symm
  cases wd with
  | astray=>
   simp only [qI,qz,wt,wZ]
   rw [Fj hi h0 h1]
  | noplace=>
   simp only [qI,qz,wt,wZ]
   rw [find_none h2]
   simp only []
   rw [eq1 λm=>rfl]
  | ife=>simp only [qI,qz,wt,wZ];rw [eq1 λm=>rfl]
  | each=>simp only [qI,qz,wt,wZ];rw [eq1 λm=>rfl]
  | seat=>simp only [qI,qz,wt,wZ];rw [eq1 λm=>rfl]
theorem OC (k:Kn kd):Ad d kd [.lit (nZ kd)]:=
 yq (λop _=>by rw [uj];exact NO k) λmk hm=>by cases k<;>rcases hm with rfl | rfl<;>decide
theorem OB {x:Tx}(k:Kn kd)(h:kd≠xr)(hx:¬ Mk x):Ad d kd [.hole x]:=
 NM (λop=>by cases k<;>first | exact⟨_,rfl⟩ | exact absurd rfl h) hx
theorem MH {m:Nat}(hm:m=0\/m=1\/m=2):∃ kd',kd' = [Qh,n8,sx].getD m []/\Kn kd'/\(∀ d,lh d xr [] kd' [] [.lit ([[32,113,61,34],[32,114,40,121,44],[32,116,33,34,119,32,39]].getD m [])])/\∀ d,lh d kd' [] xr [] [.lit ([[34],[41],[39,34]].getD m [])]:=by
 rcases hm with rfl | rfl | rfl
 ·exact⟨_,rfl,.quoted,λd=>yq (λop _=>⟨_,rfl⟩) λmk hm=>by rcases hm with rfl | rfl<;>decide,λd=>yq (λop _=>⟨_,rfl⟩) λmk hm=>by rcases hm with rfl | rfl<;>decide⟩
 ·exact⟨_,rfl,.row,λd=>yq (λop _=>⟨_,rfl⟩) λmk hm=>by rcases hm with rfl | rfl<;>decide,λd=>yq (λop _=>⟨_,rfl⟩) λmk hm=>by rcases hm with rfl | rfl<;>decide⟩
 ·exact⟨_,rfl,.said,λd=>yq (λop _=>⟨_,rfl⟩) λmk hm=>by rcases hm with rfl | rfl<;>decide,λd=>yq (λop _=>⟨_,rfl⟩) λmk hm=>by rcases hm with rfl | rfl<;>decide⟩
inductive ig (d:Nat)(kd:Tx)(o:List Tx)(kd':Tx)(o':List Tx)(ps:List Pc):Option (Fw×Tx)->Prop where
 | ok:lh d kd o kd' o' ps->ig d kd o kd' o' ps none
 | bad {wd:Fw} {mk kk:Tx} {r:Off}:Mk mk->iZ d kd o ps wd mk kk r->Kn kk->ig d kd o kd' o' ps (some (wd,mk))
theorem ig.app {o o' o2:List Tx}{kd2:Tx}{x y:Option (Fw×Tx)}(h:ig d kd o kd' o' a x)(k:ig d kd' o' kd2 o2 b y):ig d kd o kd2 o2 (a++b) (x <|> y):=by
 cases h with
 | bad h1 h2 h3=>exact .bad h1 h2.app h3
 | ok h=>
  cases k with
  | ok k=>exact .ok (h.app k)
  | bad k1 k2 k3=>exact .bad k1 (h.bad k1 k2) k3
theorem ig.okl {o o' o2:List Tx}{kd2:Tx}{y:Option (Fw×Tx)}(h:lh d kd o kd' o' a)(k:ig d kd' o' kd2 o2 b y):ig d kd o kd2 o2 (a++b) y:=by have:=ig.app (.ok h) k;cases y<;>exact this
theorem ig.okr {o o' o2:List Tx}{kd2:Tx}{x:Option (Fw×Tx)}(h:ig d kd o kd' o' a x)(k:lh d kd' o' kd2 o2 b):ig d kd o kd2 o2 (a++b) x:=by have:=ig.app h (.ok k);cases x<;>exact this
theorem ig.inn {o:List Tx}{x:Option (Fw×Tx)}(h:ig d kd [] kd [] a x)(ho:nq o)(hl:o.length<=1):ig (d+1) kd o kd o a x:=by
 cases h with
 | ok h=>exact .ok (h.inn ho hl)
 | bad h1 h2 h3=>exact .bad h1 (h2.inn ho hl) h3
theorem ig.mono {o o':List Tx}{x:Option (Fw×Tx)}(h:ig d kd o kd' o' a x){e:Nat}(hd:d<=e):ig e kd o kd' o' a x:=by
 cases h with
 | ok h=>exact .ok (h.mono hd)
 | bad h1 h2 h3=>exact .bad h1 (h2.mono hd) h3
theorem OA {x:Tx}{y:Option (Fw×Tx)}(h:ig d kd [] kd [] a y)(hx:¬ Mk x):ig d kd [] kd [] [.each x a] y:=by
 cases h with
 | ok h=>exact .ok (NL h hx)
 | bad h1 h2 h3=>exact .bad h1 (OE h2 h1 hx) h3
theorem MG {x:Tx}{y z:Option (Fw×Tx)}(h:ig d kd [] kd [] a y)(k:ig d kd [] kd [] b z)(hx:¬ Mk x):ig d kd [] kd [] [.ife x a b] (y <|> z):=by
 cases h with
 | bad h1 h2 h3=>exact .bad h1 (NK h2 h1 hx) h3
 | ok h=>
  cases k with
  | ok k=>exact .ok (LW h k hx)
  | bad k1 k2 k3=>exact .bad k1 (Ol h k2 k1 hx) k3
theorem Oz {w x y:Tx}{z:Option (Fw×Tx)}(h:ig d kd [] kd [] a z)(hx:¬ Mk x)(hd:d<=1000):ig d kd [] kd [] [.seat w x y a] z:=by
 cases h with
 | ok h=>exact .ok (Oe h hx hd)
 | bad h1 h2 h3=>exact .bad h1 (OD h2 h1 hx hd) h3
end
section
variable {d:Nat} {kd kd':Tx} {a b c:List Pc} {wd:Fw} {mk kk:Tx} {r:Off}
theorem Oy:lh d zP [] WR [[98]] [.lit [60,98,32,119,58]]:=by
 refine yq (λop _=>?_) λmk hm=>by rcases hm with rfl | rfl<;>decide
 rw [uj];exact⟨_,rfl⟩
theorem Ox:lh d zP [] xr [[98]] [.lit [60,98,32,97,61,34,120,34]]:=by
 refine yq (λop _=>?_) λmk hm=>by rcases hm with rfl | rfl<;>decide
 rw [uj];exact⟨_,rfl⟩
theorem FO {kd:Tx}(h:kd=WR\/kd=xr):lh d kd [[98]] zP [[98]] [.lit [62]]:=
 yq (λop _=>LY h) λmk hm=>by rcases hm with rfl | rfl<;>decide
theorem MF:lh d zP [[98]] zP [] [.lit [60,47,98,62]]:=by
 refine yq (λop _=>?_) λmk hm=>by rcases hm with rfl | rfl<;>decide
 rw [uj];exact OF
theorem sT:nq [[98]]:=λx h=>by simpa using h
theorem Eh {m:Nat}{y z:Option (Fw×Tx)}(hk:kd=WR/\m=0\/kd=xr/\m≠0)(h:ig d kd [] kd [] a y)(k:ig d zP [] zP [] b z):ig (d+1) zP [] zP [] ((.lit (if m=0 then [60,98,32,119,58] else [60,98,32,97,61,34,120,34])::a++[.lit [62]])++b++[.lit [60,47,98,62]]) (y <|> z):=by
 have h1:lh (d+1) zP [] kd [[98]] [.lit (if m=0 then [60,98,32,119,58] else [60,98,32,97,61,34,120,34])]:=by
  rcases hk with⟨rfl,rfl⟩ | ⟨rfl,hm⟩
  ·exact Oy
  ·rw [ub hm];exact Ox
 have h2:=h.inn sT (by decide);have h3:=k.inn sT (by decide);have h4:lh (d+1) kd [[98]] zP [[98]] [.lit [62]]:=FO (hk.imp And.left And.left);exact ig.okr (ig.app (ig.okr (ig.okl h1 h2) h4) h3) MF
theorem Ow {m:Nat}{y:Option (Fw×Tx)}(hm:m=0\/m=1\/m=2)(h:∀ kd',kd' = [Qh,n8,sx].getD m []->Kn kd'->ig d kd' [] kd' [] a y):ig d xr [] xr [] (.lit ([[32,113,61,34],[32,114,40,121,44],[32,116,33,34,119,32,39]].getD m [])::a++[.lit ([[34],[41],[39,34]].getD m [])]) y:=by obtain⟨kd',e,hk,h1,h2⟩:=MH hm;exact ig.okr (ig.okl (h1 d) (h kd' e hk)) (h2 d)
end
noncomputable abbrev iC:=Int×Fw×Tx
noncomputable def lF (kd:Tx):List iC->List Pc×List iC
 | []=>([],[])
 | (c,w,m)::L=>((if c - 1=0 then qI w m kd else [])++(lF kd L).1,(c - 1,w,m)::(lF kd L).2)
noncomputable def mR:List iC->List Pc
 | []=>[]
 | (c,w,m)::L=>(if c > 0 then qI w m zP else [])++mR L
structure lr (L L':List iC)(y:Option (Fw×Tx)):Prop where
 eq:L'.map Prod.snd=L.map Prod.snd
 mem:∀ p,y=some p->p∈L.map Prod.snd
 pos:y=none->(∀ p∈L,p.1 > 0)->∀ p∈L',p.1 > 0
def nQ (L:List iC):Prop:=∀ p∈L.map Prod.snd,Mk p.2
theorem lr.rfl {L:List iC}:lr L L none:=⟨_root_.rfl,λ_ h=>by simp at h,λ_ h=>h⟩
theorem lr.app {L L1 L2:List iC}{x y:Option (Fw×Tx)}(h:lr L L1 x)(k:lr L1 L2 y):lr L L2 (x <|> y):=by
 refine⟨k.eq.trans h.eq,λp e=>?_,λe g=>?_⟩
 ·cases x with
  | some q=>exact h.mem p e
  | none=>rw [← h.eq];exact k.mem p e
 ·cases x with
  | some q=>cases e
  | none=>exact k.pos e (h.pos _root_.rfl g)
theorem lr.mkl {L L':List iC}{y:Option (Fw×Tx)}(h:lr L L' y)(k:nQ L):nQ L':=by unfold nQ at *;rw [h.eq];exact k
theorem Eg {d:Nat}{kd:Tx}(k:Kn kd):∀ {L:List iC},nQ L->∃ y,ig d kd [] kd [] (lF kd L).1 y/\lr L (lF kd L).2 y
 | [],_=>⟨none,.ok .nil,.rfl⟩
 | (c,w,m)::L,hm=>by
  have hm0:Mk m:=hm (w,m) (by simp);obtain⟨y,h1,h2⟩:=Eg (d:=d) k (L:=L) λp hp=>hm p (by simp only [uw,uq];exact .inr hp);by_cases e:c - 1=0
  ·refine⟨some (w,m),?_,?_⟩
   ·simp only [lF,ue e];exact .bad hm0 (V3 k hm0).app k
   ·refine⟨by simp only [lF,uw,h2.eq],λp e=>?_,λe=>by cases e⟩;cases e;simp
  ·refine⟨y,?_,?_⟩
   ·simp only [lF,ub e,Ub];exact h1
   ·refine⟨by simp only [lF,uw,h2.eq],λp e=>?_,λe0 hp p hi=>?_⟩
    ·simp only [uw,uq];exact .inr (h2.mem p e)
    ·simp only [lF,uq] at hi;rcases hi with rfl | hi
     ·have:=hp (c,w,m) (by simp);simp only at this ⊢;lia
     ·exact h2.pos e0 (λp hp'=>hp p (by simp [hp'])) p hi
theorem Ef {d:Nat}:∀ {L:List iC},nQ L->∃ y,ig d zP [] zP [] (mR L) y/\(∀ p,y=some p->p∈L.map Prod.snd)/\(y=none->∀ p∈L,¬ p.1 > 0)
 | [],_=>⟨none,.ok .nil,λ_ h=>by simp at h,λ_ p hp=>by simp at hp⟩
 | (c,w,m)::L,hm=>by
  have hm0:Mk m:=hm (w,m) (by simp);by_cases e:c > 0
  ·refine⟨some (w,m),?_,λp e=>?_,λe=>by cases e⟩
   ·simp only [mR,ue e];exact .bad hm0 (V3 .text hm0).app .text
   ·cases e;simp
  ·obtain⟨y,h1,h2,h3⟩:=Ef (d:=d) (L:=L) λp hp=>hm p (by simp only [uw,uq];exact .inr hp);refine⟨y,?_,λp e=>?_,λe0 p hp=>?_⟩
   ·simp only [mR,ub e,Ub];exact h1
   ·simp only [uw,uq];exact .inr (h2 p e)
   ·rcases uq.mp hp with rfl | hp
    ·exact e
    ·exact h3 e0 p hp
theorem Ov {d:Nat}{L L':List iC}{ps:List Pc}{y:Option (Fw×Tx)}(h:ig d zP [] zP [] ps y)(t:lr L L' y)(hm:nQ L)(hp:∀ p∈L,p.1 > 0):∃ z,ig d zP [] zP [] (ps++mR L') z/\(∀ p,z=some p->p∈L.map Prod.snd)/\(z=none->L=[]):=by
 obtain⟨x,h1,h2,h3⟩:=Ef (d:=d) (t.mkl hm);refine⟨(y <|> x),h.app h1,λp e=>?_,λe=>?_⟩
 ·cases y with
  | some q=>exact t.mem p e
  | none=>rw [← t.eq];exact h2 p e
 ·cases y with
  | some q=>cases e
  | none=>
   cases L' with
   | nil=>have:=t.eq;cases L with | nil=>rfl | cons p L=>simp at this
   | cons p L'=>exact absurd (t.pos _root_.rfl hp p (by simp)) (h3 e p (by simp))
theorem ME:nq []:=λx h=>by simp at h
theorem FN:mY=sK zP []:=by decide
theorem MD {d:Nat}{ps qs:List Pc}{wd:Fw}{mk kk:Tx}{r:Off}(h:oC d zP ps wd mk kk r)(hd:d<=1000):jr (ps++qs)=.error (lU wd mk (oM kk) r):=by
 have:=h.app (b:=qs) |>.look [] [] 0 ME (by simpa using hd)
 unfold jr;rw [FN];rw [show(sK zP [])=sK zP ([]++[]) from rfl,this];simp [Off.add]
structure Bz (n s x:Nat)(ps:List Pc):Prop where
 dp:iG.dpB ps<=n
 nm:i6.nmB ps=true
 sz:fY ps<=s
 tx:iu ps<=x
theorem Bz.nil {n:Nat}:Bz n 0 0 []:=⟨by simp [iG.dpB],rfl,by simp [fY],by simp [iu]⟩
theorem Bz.app {n s x s' x':Nat}{a b:List Pc}(h:Bz n s x a)(k:Bz n s' x' b):Bz n (s+s') (x+x') (a++b):=by
 refine⟨?_,?_,?_,?_⟩
 ·rw [YM];have:=h.dp;have:=k.dp;lia
 ·rw [Xf,h.nm,k.nm];rfl
 ·rw [z9];have:=h.sz;have:=k.sz;lia
 ·rw [JH];have:=h.tx;have:=k.tx;lia
theorem Bz.up {n s x n' s' x':Nat}{a:List Pc}(h:Bz n s x a)(h1:n<=n')(h2:s<=s')(h3:x<=x'):Bz n' s' x' a:=⟨by have:=h.dp;lia,h.nm,by have:=h.sz;lia,by have:=h.tx;lia⟩
theorem vF {n:Nat}{t:Tx}{x:Nat}(h:t.length<=x):Bz n 1 x [.lit t]:=⟨by simp [iG.dpB,iG],rfl,by simp [fY,iq],by simp [iu,lP];exact h⟩
theorem Ed {n:Nat}{t:Tx}(h:t.length<=10):Bz n 1 0 [.hole t]:=⟨by simp [iG.dpB,iG],by simp only [i6.nmB,i6,gb];exact Uv (by lia),by simp [fY,iq],by simp [iu,lP]⟩
theorem Ec {n s x:Nat}{t:Tx}{a:List Pc}(h:Bz n s x a):Bz (n+1) (s+1) x [.each t a]:=⟨by have:=h.dp;simp [iG.dpB,iG];lia,by simp only [i6.nmB,i6,h.nm];rfl,by have:=h.sz;simp [fY,iq];lia,by have:=h.tx;simp [iu,lP];lia⟩
theorem Dt {n s x s' x':Nat}{t:Tx}{a b:List Pc}(h:Bz n s x a)(k:Bz n s' x' b):Bz (n+1) (s+s' + 1) (x+x') [.ife t a b]:=⟨by have:=h.dp;have:=k.dp;simp [iG.dpB,iG];lia,by simp only [i6.nmB,i6,h.nm,k.nm];rfl,by have:=h.sz;have:=k.sz;simp [fY,iq];lia,by have:=h.tx;have:=k.tx;simp [iu,lP];lia⟩
theorem Eb {n s x:Nat}{t y z:Tx}{a:List Pc}(h:Bz n s x a):Bz (n+1) (s+2) x [.seat t y z a]:=⟨by have:=h.dp;simp [iG.dpB,iG];lia,by simp only [i6.nmB,i6,h.nm];rfl,by have:=h.sz;simp [fY,iq];lia,by have:=h.tx;simp [iu,lP];lia⟩
theorem JJ {n:Nat}{wd:Fw}{mk kd:Tx}(k:Kn kd)(hm:Mk mk):Bz (n+1) 3 5 (qI wd mk kd):=by
 have h2:mk.length=2:=by rcases hm with rfl | rfl<;>rfl
 have h3:(Zw kd).length<=5:=by cases k<;>decide
 cases wd with
 | astray=>exact(vF (n:=0) (by cases k<;>rcases hm with rfl | rfl<;>decide:(lG mk kd).length<=5)).up (by omega) (by omega) (by omega)
 | noplace=>exact((vF (n:=n+1) (by cases k<;>decide:(Jg kd).length<=2)).app ((Ed (by omega)).app (vF (by decide:([98]:Tx).length<=1)))).up (by omega) (by omega) (by omega)
 | ife=>exact(Dt (vF (n:=n) h3) .nil).up (by omega) (by omega) (by omega)
 | each=>exact(Ec (vF (n:=n) h3)).up (by omega) (by omega) (by omega)
 | seat=>exact(Eb (vF (n:=n) h3)).up (by omega) (by omega) (by omega)
theorem Bt {n:Nat}{kd:Tx}(k:Kn kd):∀ {L:List iC},nQ L->Bz (n+1) (3 * L.length) (5 * L.length) (lF kd L).1
 | [],_=>.nil
 | (c,w,m)::L,hm=>by
  have h1:=Bt (n:=n) k (L:=L) λp hp=>hm p (by simp only [uw,uq];exact .inr hp)
  have h2:Bz (n+1) 3 5 (if c - 1=0 then qI w m kd else []):=by
   split
   ·exact JJ k (hm (w,m) (by simp))
   ·exact Bz.nil.up (ui _) (by lia) (by lia)
  exact(h2.app h1).up (ui _) (by simp only [uo];lia) (by simp only [uo];lia)
theorem Bs {n:Nat}:∀ {L:List iC},nQ L->Bz (n+1) (3 * L.length) (5 * L.length) (mR L)
 | [],_=>.nil
 | (c,w,m)::L,hm=>by
  have h1:=Bs (n:=n) (L:=L) λp hp=>hm p (by simp only [uw,uq];exact .inr hp)
  have h2:Bz (n+1) 3 5 (if c > 0 then qI w m zP else []):=by
   split
   ·exact JJ .text (hm (w,m) (by simp))
   ·exact Bz.nil.up (ui _) (by lia) (by lia)
  exact(h2.app h1).up (ui _) (by simp only [uo];lia) (by simp only [uo];lia)
noncomputable def gS:Nat->Nat
 | 0=>21
 | d+1=>3 * (2 * gS d+9)
noncomputable def gT:Nat->Nat
 | 0=>60
 | d+1=>3 * (2 * gT d+24)
noncomputable def oe:Nat->Nat
 | 0=>1
 | d+1=>2 * gS d+3
noncomputable def oJ:Nat->Nat
 | 0=>9
 | d+1=>2 * gT d+13
def oA (d:Nat)(ps:List Pc):Prop:=Bz (d+1) (gS d) (gT d) ps
def ot (d:Nat)(ps:List Pc):Prop:=Bz (d+1) (oe d) (oJ d) ps
theorem MC (d:Nat):3 * (oe d+6)<=gS d/\3 * (oJ d+10)<=gT d:=by
 cases d with
 | zero=>decide
 | succ d=>simp only [oe,oJ,gS,gT];omega
def pQ (d i:Nat)(ps:List Pc):Prop:=Bz (d+1) (i * (oe d+6)) (i * (oJ d+10)) ps
theorem pQ.nil {d:Nat}:pQ d 0 []:=(Bz.nil (n:=0)).up (by lia) (by lia) (by lia)
theorem pQ.next {d i:Nat}{kd:Tx}{L:List iC}{a b:List Pc}(h:pQ d i a)(k:Kn kd)(hm:nQ L)(hl:L.length<=2)(s:ot d b):pQ d (i+1) (a++(lF kd L).1++b):=by
 refine((Bz.app (Bz.app h ((Bt k hm).up (ui _) (by lia:_<=6) (by lia:_<=10))) s)).up (ui _) ?_ ?_
 ·rw [GR];lia
 ·rw [GR];lia
theorem pQ.gd {d i:Nat}{a:List Pc}(h:pQ d i a)(hi:i<=3):oA d a:=by obtain⟨h1,h2⟩:=MC d;exact Bz.up h (ui _) (uJ (UJ _ hi) h1) (uJ (UJ _ hi) h2)
theorem LV {d:Nat}{t:Tx}(h:t.length<=9):ot d [.lit t]:=by refine(vF (n:=0) h).up (by lia) ?_ ?_<;>cases d<;>simp [oe,oJ]<;>lia
theorem MB {d:Nat}{t:Tx}(h:t.length<=9):ot d [.hole t]:=by refine(Ed (by lia)).up (uZ _) ?_ (uZ _);cases d<;>simp [oe]
theorem MA {d:Nat}{t:Tx}{a:List Pc}(h:oA d a):ot (d+1) [.each t a]:=(Ec h).up (by lia) (by simp only [oe];lia) (by simp only [oJ];lia)
theorem LU {d:Nat}{t:Tx}{a b:List Pc}(h:oA d a)(k:oA d b):ot (d+1) [.ife t a b]:=(Dt h k).up (by lia) (by simp only [oe];lia) (by simp only [oJ];lia)
theorem Mz {d:Nat}{t y z:Tx}{a:List Pc}(h:oA d a):ot (d+1) [.seat t y z a]:=(Eb h).up (by lia) (by simp only [oe];lia) (by simp only [oJ];lia)
theorem LS {d:Nat}{t u v:Tx}{a b:List Pc}(h:oA d a)(k:oA d b)(hl:t.length<=8)(hu:u.length<=1)(hv:v.length<=4):ot (d+1) ((.lit t::a++[.lit u])++b++[.lit v]):=by refine(((((vF hl).app h).app (vF hu)).app k).app (vF hv)).up (by lia) ?_ ?_<;>simp only [oe,oJ]<;>lia
theorem FL {d:Nat}{t u:Tx}{a:List Pc}(h:oA d a)(hl:t.length<=8)(hu:u.length<=4):ot (d+1) (.lit t::a++[.lit u]):=by refine(((vF hl).app h).app (vF hu)).up (by lia) ?_ ?_<;>simp only [oe,oJ]<;>lia
noncomputable def JK:Fw->Tx
 | .astray=>[97,115,116,114,97,121]
 | .noplace=>[110,111,112,108,97,99,101]
 | .ife=>[105,102]
 | .each=>[101,97,99,104]
 | .seat=>X9
inductive lB (H:Hp):Le->List iC->Prop
 | nil:lB H [] []
 | cons {a:Addr} {c:Int} {wd:Fw} {mk:Tx} {as:Le} {L:List iC}:H a=some (.lst [.int c,tx (JK wd),tx mk])->lB H as L->lB H (a::as) ((c,wd,mk)::L)
theorem lB.mono {H H':Hp}{as:Le}{L:List iC}(h:lB H as L)(g:fO H H'):lB H' as L:=by
 induction h with
 | nil=>exact .nil
 | cons h _ ih=>exact .cons (g _ _ h) ih
theorem lB.some {H:Hp}{as:Le}{L:List iC}(h:lB H as L):∀ a∈as,H a≠none:=by
 induction h with
 | nil=>intro a ha;cases ha
 | cons h _ ih=>
  intro b hb;rcases uq.mp hb with rfl | hb
  ·rw [h];intro z;cases z
  ·exact ih b hb
theorem lB.len {H:Hp}{as:Le}{L:List iC}(h:lB H as L):as.length=L.length:=by
 induction h with
 | nil=>rfl
 | cons _ _ ih=>simp only [uo,ih]
theorem lB.of {H H':Hp}{as:Le}{L:List iC}(h:lB H as L)(g:∀ a∈as,H' a=H a):lB H' as L:=by
 induction h with
 | nil=>exact .nil
 | @cons a c wd mk as L h _ ih=>exact .cons (by rw [g a (by simp)];exact h) (ih λb hb=>g b (by simp [hb]))
theorem lB.set {H:Hp}{a:Addr}{as:Le}{c c':Int}{wd:Fw}{mk:Tx}{L:List iC}(h:lB H (a::as) ((c,wd,mk)::L))(hn:a∉as):lB (upd H a (.lst [.int c',tx (JK wd),tx mk])) (a::as) ((c',wd,mk)::L):=by
 cases h with
 | cons h k=>exact .cons zb (k.of λb hb=>zk λz=>hn (z ▸ hb))
theorem lB.split {H:Hp}{as bs:Le}{L M:List iC}(h:lB H as L)(k:lB H bs M):lB H (as++bs) (L++M):=by
 induction h with
 | nil=>exact k
 | cons h _ ih=>exact .cons h ih
noncomputable def og (as:Le)(H:Hp):Hp:=λb=>if b∈as then none else H b
theorem Vd {as:Le}{H:Hp}{b:Addr}(h:b∉as):og as H b=H b:=ub h
theorem Ds {as:Le}{H:Hp}{b:Addr}(h:b∈as):og as H b=none:=ue h
theorem Br {as:Le}{H:Hp}:fO (og as H) H:=λb o h=>by
 unfold og at h;split at h
 ·cases h
 ·exact h
theorem Ou {as:Le}{H H':Hp}(g:fO H H'):fO (og as H) (og as H'):=λb o h=>by
 unfold og at h ⊢;split at h
 ·cases h
 ·rename_i z;rw [ub z];exact g _ _ h
theorem Mx {as:Le}{H:Hp}{a:Addr}{o:HO}(h:a∈as):og as (upd H a o)=og as H:=by
 funext b;by_cases z:b∈as
 ·rw [Ds z,Ds z]
 ·rw [Vd z,Vd z,zk (λy:b=a=>z (by rw [y];exact h))]
def Rp (as:Le)(H H':Hp)(L':List iC):Prop:=fO (og as H) (og as H')/\lB H' as L'
theorem Rp.trans {as:Le}{H H1 H2:Hp}{L1 L2:List iC}(a:Rp as H H1 L1)(b:Rp as H1 H2 L2):Rp as H H2 L2:=⟨a.1.trans b.1,b.2⟩
theorem Rp.same {as:Le}{H H':Hp}{L:List iC}(h:lB H as L)(g:fO H H'):Rp as H H' L:=⟨Ou g,h.mono g⟩
theorem Rp.fresh {as:Le}{H H':Hp}{L L':List iC}{p:Addr}(g:Rp as H H' L')(h:lB H as L)(hp:H' p=none):H p=none:=by
 by_cases z:p∈as
 ·exact absurd hp (g.2.some p z)
 ·cases e:H p with
  | none=>rfl
  | some o=>have:=Br _ _ (g.1 p o (by rw [Vd z];exact e));rw [hp] at this;cases this
theorem Rp.old {as:Le}{H H':Hp}{L':List iC}{p:Addr}{o:HO}(g:Rp as H H' L')(hp:p∉as)(h:H p=some o):H' p=some o:=Br _ _ (g.1 p o (by rw [Vd hp];exact h))
theorem su {as:Le}{H H1 H2:Hp}{L2:List iC}(g:Rp as H1 H2 L2)(h:∀ a∈as,H a≠none):fO (nw H H1) (nw H H2):=λb o e=>by
 unfold nw at e ⊢;split at e
 ·rename_i z;rw [ue z];have hb:b∉as:=λy=>h b y z;exact Br _ _ (g.1 _ _ (by rw [Vd hb];exact e))
 ·cases e
theorem Zx {as:Le}{H H1 H2:Hp}{L L1:List iC}(h:lB H as L)(g:Rp as H H1 L1):fO (nw H1 H2) (nw H H2):=λb o e=>by
 unfold nw at e;split at e
 ·rename_i z;rw [Bi (g.fresh h z)];exact e
 ·cases e
theorem Dq {as:Le}{H:Hp}{a:Addr}{o:HO}{L':List iC}(ha:a∈as)(h:lB (upd H a o) as L'):Rp as H (upd H a o) L':=⟨by rw [Mx ha];exact fO.refl _,h⟩
structure pS (as:Le)(H H':Hp)(r:V)(L':List iC)(ps:List Pc):Prop where
 rp:Rp as H H' L'
 lie:∃ p fa da xs,r=.ref p/\H' p=some (.tup [.ref fa,.ref da])/\fV (nw H H') (.ls (iB ps)) (.ref fa)/\H' da=some (.lst xs)/\H p=none/\H da=none/\xs.length<=fY ps
structure ow (H:Hp)(pa:Addr)(as:Le)(L:List iC):Prop where
 at_:H pa=some (.lst (as.map .ref))
 out:pa∉as
 nd:as.Nodup
 lie:lB H as L
 mks:nQ L
 two:L.length<=2
theorem ow.go {H H':Hp}{pa:Addr}{as:Le}{L L':List iC}{y:Option (Fw×Tx)}(h:ow H pa as L)(g:Rp as H H' L')(t:lr L L' y):ow H' pa as L':=⟨g.old h.out h.at_,h.out,h.nd,g.2,t.mkl h.mks,by have:=congrArg List.length t.eq;simp only [uk] at this;have:=h.two;lia⟩
theorem ow.mono {H H':Hp}{pa:Addr}{as:Le}{L:List iC}(h:ow H pa as L)(g:fO H H'):ow H' pa as L:=⟨g _ _ h.at_,h.out,h.nd,h.lie.mono g,h.mks,h.two⟩
noncomputable def jO:Sp:=λvs H Q _=>∃ (wd:Fw) (mk kind:Tx),vs=[.str (S (JK wd)),.str (S mk),.str (S kind)]/\Mk mk/\Kn kind/\∀ fa H',fO H H'->fV (nw H H') (.ls (iB (qI wd mk kind))) (.ref fa)->Q (.ref fa) H'
noncomputable def jj (d:Nat):Sp:=λvs H Q _=>∃ (c:Int) (kind:Tx) (pa:Addr) (as:Le) (L:List iC),vs=[.int c,.str (S kind),.int d,.ref pa]/\ow H pa as L/\Kn kind/\∀ r ps y L' H',pS as H H' r L' ps->ig d kind [] kind [] ps y->lr L L' y->oA d ps->Q r H'
noncomputable def vO (d:Nat):Sp:=λvs H Q _=>∃ (c:Int) (kind:Tx) (pa:Addr) (as:Le) (L:List iC),vs=[.int c,.str (S kind),.int d,.ref pa]/\ow H pa as L/\Kn kind/\∀ r ps y L' H',pS as H H' r L' ps->ig d kind [] kind [] ps y->lr L L' y->ot d ps->Q r H'
noncomputable def xu (d:Nat):Sp:=λvs H Q _=>∃ (c:Int) (lead kind close:Tx) (pa:Addr) (as:Le) (L:List iC),vs=[.int c,.str (S lead),.str (S kind),.str (S close),.int ((d+1:Nat):Int),.ref pa]/\ow H pa as L/\Kn kind/\∀ r ps y L' H',pS as H H' r L' (.lit lead::ps++[.lit close])->ig d kind [] kind [] ps y->lr L L' y->oA d ps->Q r H'
noncomputable def wg (d:Nat):Sp:=λvs H Q _=>∃ (c:Int) (kind:Tx) (pa:Addr) (as:Le) (L:List iC),vs=[.int c,.str (S kind),.int ((d+1:Nat):Int),.ref pa]/\ow H pa as L/\(kind=zP\/kind=xr)/\∀ r ps y L' H',pS as H H' r L' ps->ig (d+1) kind [] kind [] ps y->lr L L' y->ot (d+1) ps->Q r H'
noncomputable def vP:Sp:=λvs H Q _=>∃ (c:Int) (pa:Addr) (as:Le) (L:List iC),vs=[.int c,.ref pa]/\ow H pa as L/\(∀ p∈L,p.1 > 0)/\∀ r ps z L' H',pS as H H' r L' ps->ig 3 zP [] zP [] ps z->(∀ p,z=some p->p∈L.map Prod.snd)->(z=none->L=[])->Bz 4 5900 19900 ps->Q r H'
noncomputable def Qt (c:Int):Tx:=[[97],[97,98],[119,104,111],[98]].getD (ix c 2 4) []
noncomputable def Ve (c:Int):Tx:=[[98,108,111,99,107],[101,108,100,101,114],[100,114,97,119]].getD (ix c 3 3) []
noncomputable def nA:List (Key×V):=[(.inr (S [116,101,120,116]),V.str (S [120,32,121,38,48,53,59])),(.inr (S [100,111,110,101]),V.str (S [32,99,61,34,121,34]))]
theorem Mw (kind:Tx):(iI (qW [] nA) (.inr (S kind))).getD (V.str (S [122,48]))=tx (nZ kind):=by
 have e:qW [] nA=nA:=by decide +kernel
 rw [e];unfold nZ nA iI;by_cases h1:kind=zP
 ·subst h1;rfl
 ·rw [ub h1];by_cases h2:kind=xr
  ·subst h2;rfl
  ·rw [ub h2];have n1:¬ S [116,101,120,116]=S kind:=λz=>h1 (yu.mp z).symm;have n2:¬ S [100,111,110,101]=S kind:=λz=>h2 (yu.mp z).symm;simp [List.find?,n1,n2];rfl
theorem Vf {as:Le}{H Hi H':Hp}{L Li:List iC}{p:Addr}{o:HO}(h:lB H as L)(g:Rp as H Hi Li)(hp:Hi p=none)(e:H' p=some o):nw H H' p=some o:=by rw [Bi (g.fresh h hp)];exact e
theorem Mv (c:Int):¬ Mk (Qt c)/\(Qt c).length<=9:=by
 unfold Qt;have:=Ww (c:=c) (k:=2) (m:=4) (by decide);have key:∀ i:Fin 4,¬ Mk ([[97],[97,98],[119,104,111],[98]].getD i.1 [])/\([[97],[97,98],[119,104,111],[98]].getD i.1 ([]:Tx)).length<=9:=by unfold Mk;decide
 exact key ⟨ix c 2 4,by lia⟩
theorem pS.pre {as:Le}{H H1 H':Hp}{r:V}{L L':List iC}{ps:List Pc}(hl:lB H as L)(g:fO H H1)(h:pS as H1 H' r L' ps):pS as H H' r L' ps:=by obtain⟨rp,p,fa,da,xs,e1,e2,e3,e4,e5,e6,e7⟩:=h;exact⟨(Rp.same hl g).trans rp,p,fa,da,xs,e1,e2,e3.mono (Zx hl (Rp.same hl g)),e4,none_of g e5,none_of g e6,e7⟩
theorem JL {H:Hp}{p:Addr}{o o':HO}(hp:H p=none):fO H (upd (upd H p o) p o'):=λb u h=>by rw [zk (zv h hp),zk (zv h hp)];exact h
theorem jS {H Hi H':Hp}{p:Addr}{o:HO}(g:fO H Hi)(hp:Hi p=none)(e:H' p=some o):nw H H' p=some o:=by rw [Bi (none_of g hp)];exact e
theorem Dp {H:Hp}{as:Le}{a:Addr}{c:Int}{wd:Fw}{mk:Tx}{A B:List iC}(h:lB H as (A++(c,wd,mk)::B))(hi:as[A.length]? = some a):H a=some (.lst [.int c,tx (JK wd),tx mk]):=by
 induction A generalizing as with
 | nil=>cases h with | cons h _=>cases hi;exact h
 | cons p A ih=>cases h with | cons _ h=>exact ih h (by simpa using hi)
theorem Ea {H:Hp}{as:Le}{a:Addr}{c:Int}(c':Int){wd:Fw}{mk:Tx}{A B:List iC}(h:lB H as (A++(c,wd,mk)::B))(hi:as[A.length]? = some a)(nd:as.Nodup):lB (upd H a (.lst [.int c',tx (JK wd),tx mk])) as (A++(c',wd,mk)::B):=by
 induction A generalizing as with
 | nil=>
  cases as with
  | nil=>cases h
  | cons b as=>cases hi;exact h.set (Ug.mp nd).1
 | cons p A ih=>
  cases h with
  | cons hb h=>refine .cons ?_ (ih h (by simpa using hi) (Ug.mp nd).2);rw [zk λz=>(Ug.mp nd).1 (by rw [z];exact uP (i:=A.length) (by simpa using hi))];exact hb
theorem Vg {kd:Tx}{c:Int}{w:Fw}{m:Tx}:∀ (L:List iC),lF kd (L++[(c,w,m)])=((lF kd L).1++(if c - 1=0 then qI w m kd else []),(lF kd L).2++[(c - 1,w,m)])
 | []=>by simp [lF]
 | (e,v,n)::L=>by simp only [uE,lF,Vg L,uz]
theorem D9 {kd:Tx}:∀ (L:List iC),(lF kd L).2.length=L.length
 | []=>rfl
 | (e,v,n)::L=>by simp only [lF,uo,D9 L]
theorem D8 {c:Int}{w:Fw}{m:Tx}{L:List iC}{j:Nat}(h:L[j]? = some (c,w,m)):L.drop j=(c,w,m)::L.drop (j+1)/\L.take (j+1)=L.take j++[(c,w,m)]:=by obtain⟨h1,h2⟩:=uA.mp h;exact⟨by rw [uV h1,h2],by rw [gy,h];rfl⟩
theorem Dn {as:Le}{j:Nat}{v:V}(h:(as.map V.ref)[j]? = some v):∃ a,as[j]? = some a/\v=.ref a:=by
 rw [Uk] at h;cases e:as[j]? with
 | none=>rw [e] at h;cases h
 | some a=>rw [e] at h;cases h;exact⟨a,rfl,rfl⟩
noncomputable def iV (T:Ld):List V:=T.map λ(t:Nat)=>V.int t
noncomputable def qJ:Pc->List (Off×List Pc)
 | .lit _=>[]
 | .hole _=>[]
 | .each _ b=>[(([1],0),b)]
 | .ife _ a b=>[(([0],0),a),(([1],0),b)]
 | .seat _ _ _ b=>[(([],1),b)]
noncomputable def Zy (mk:Tx):List (Off×List Pc)->Option Off
 | []=>none
 | (o,b)::r=>match zG mk b with
  | some q=>some (o.add q)
  | none=>Zy mk r
theorem D7 (mk:Tx)(p:Pc):qC mk p=if wZ mk p=true then some ([],0) else Zy mk (qJ p):=by
 cases p with
 | lit t=>simp [qC,qJ,Zy]
 | hole t=>simp [qC,qJ,Zy]
 | each x b=>simp only [qC,qJ,Zy,wZ];split<;>(try rfl);cases zG mk b<;>rfl
 | ife x a b=>simp only [qC,qJ,Zy,wZ];split<;>(try rfl);cases zG mk a<;>cases zG mk b<;>rfl
 | seat w x y b=>simp only [qC,qJ,Zy,wZ];split<;>(try rfl);cases zG mk b<;>rfl
noncomputable def Zz (mk:Tx):List (Off×List Pc)->Option Tx
 | []=>none
 | (_,b)::r=>match qD mk b with
  | some q=>some q
  | none=>Zz mk r
theorem D6 (mk:Tx)(p:Pc)(h:∀ t,p=.lit t->lA mk t=false):xt mk p=Zz mk (qJ p):=by
 cases p with
 | lit t=>simp [xt,qJ,Zz,h t rfl]
 | hole t=>simp [xt,qJ,Zz]
 | each x b=>simp only [xt,qJ,Zz];cases qD mk b<;>rfl
 | ife x a b=>simp only [xt,qJ,Zz];cases qD mk a<;>cases qD mk b<;>rfl
 | seat w x y b=>simp only [xt,qJ,Zz];cases qD mk b<;>rfl
inductive oz (H:Hp):List V->List (Off×List Pc)->Prop
 | nil:oz H [] []
 | cons {p ta:Addr} {v:V} {o:Off} {b:List Pc} {vs:List V} {is:List (Off×List Pc)}:H p=some (.tup [.ref ta,.int o.2,v])->H ta=some (.lst (o.1.map λ(t:Nat)=>V.int t))->fV H (.ls (iB b)) v->oz H vs is->oz H (.ref p::vs) ((o,b)::is)
theorem oz.mono {H H':Hp}{vs:List V}{is:List (Off×List Pc)}(h:oz H vs is)(g:fO H H'):oz H' vs is:=by
 induction h with
 | nil=>exact .nil
 | cons a b c _ ih=>exact .cons (g _ _ a) (g _ _ b) (c.mono g) ih
theorem oz.get {H:Hp}{vs:List V}{is:List (Off×List Pc)}(h:oz H vs is){i:Nat}{v:V}(e:vs[i]? = some v):∃ p ta w o b,v=.ref p/\is[i]? = some (o,b)/\H p=some (.tup [.ref ta,.int (o:Off).2,w])/\H ta=some (.lst (o.1.map λ(t:Nat)=>V.int t))/\fV H (.ls (iB b)) w:=by
 induction h generalizing i with
 | nil=>simp at e
 | cons a b c _ ih=>
  cases i with
  | zero=>cases e;exact⟨_,_,_,_,_,rfl,rfl,a,b,c⟩
  | succ i=>exact ih (by simpa using e)
theorem oz.len {H:Hp}{vs:List V}{is:List (Off×List Pc)}(h:oz H vs is):vs.length=is.length:=by
 induction h with
 | nil=>rfl
 | cons _ _ _ _ ih=>simp [ih]
mutual
theorem Wz:∀ (p:Pc),(qN p).1.length<=iq p/\(qN p).2<=iq p
 | .lit _=>by simp [qN,iq]
 | .hole _=>by simp [qN,iq]
 | .each _ b=>by simp only [qN,iq,uu];omega
 | .ife _ a b=>by have:=vv a;simp only [qN,iq,uc,uu];omega
 | .seat _ _ _ b=>by have:=vv b;simp only [qN,iq];omega
theorem vv:∀ (ps:List Pc),(zy ps).1.length<=fY ps/\(zy ps).2<=fY ps
 | []=>by simp [zy,fY]
 | p::ps=>by have h1:=Wz p;have h2:=vv ps;simp only [zy,fY,Off.add,uc];omega
end
mutual
theorem Ra:∀ (mk:Tx) (p:Pc) (r:Off),qC mk p=some r->r.1.length<=iq p
 | mk,.lit t,r,h=>by simp only [qC] at h;split at h<;>cases h;simp
 | mk,.hole t,r,h=>by simp only [qC] at h;split at h<;>cases h;simp
 | mk,.each x b,r,h=>by
  simp only [qC] at h;split at h
  ·cases h;simp
  ·obtain⟨q,hq,rfl⟩:=uS.mp h;have:=vw mk b q hq;simp only [Off.add,iq,uc,uu];lia
 | mk,.ife x a b,r,h=>by
  simp only [qC] at h;split at h
  ·cases h;simp
  ·cases ha:zG mk a with
   | some q=>rw [ha] at h;cases h;have:=vw mk a q ha;simp only [Off.add,iq,uc,uu];omega
   | none=>rw [ha] at h;obtain⟨q,hq,rfl⟩:=uS.mp h;have:=vw mk b q hq;simp only [Off.add,iq,uc,uu];omega
 | mk,.seat w x y b,r,h=>by
  simp only [qC] at h;split at h
  ·cases h;simp
  ·obtain⟨q,hq,rfl⟩:=uS.mp h;have:=vw mk b q hq;simp only [Off.add,iq,uc,UG];lia
theorem vw:∀ (mk:Tx) (ps:List Pc) (r:Off),zG mk ps=some r->r.1.length<=fY ps
 | mk,[],r,h=>by simp [zG] at h
 | mk,p::ps,r,h=>by
  simp only [zG] at h;cases hp:qC mk p with
  | some q=>rw [hp] at h;cases h;have:=Ra mk p _ hp;simp only [fY];omega
  | none=>rw [hp] at h;obtain⟨q,hq,rfl⟩:=uS.mp h;have h1:=vw mk ps q hq;have h2:=(Wz p).1;simp only [Off.add,fY,uc];omega
end
def pB (d:Nat)(H:Hp)(pv:V)(ps:List Pc):Prop:=fV H (.ls (iB ps)) pv/\iG.dpB ps<d/\fY ps<=10000
theorem pB.mono {d:Nat}{H H':Hp}{pv:V}{ps:List Pc}(h:pB d H pv ps)(g:fO H H'):pB d H' pv ps:=⟨h.1.mono g,h.2⟩
theorem WS {p:Pc}{o:Off}{b:List Pc}(h:(o,b)∈qJ p):iG.dpB b<iG p/\fY b<=iq p/\o.1.length<=1/\o.2<=1:=by
 cases p<;>simp only [qJ,uq,GP,GY,Uz] at h
 ·obtain⟨rfl,rfl⟩:=h;simp only [iG,iq,uu];lia
 ·rcases h with⟨rfl,rfl⟩ | ⟨rfl,rfl⟩<;>simp only [iG,iq,uu]<;>lia
 ·obtain⟨rfl,rfl⟩:=h;simp only [iG,iq,UG];lia
theorem YR:∀ {ps:List Pc} {p:Pc},p∈ps->iq p<=fY ps
 | q::ps,p,h=>by
  rcases uq.mp h with rfl | h
  ·simp only [fY];lia
  ·have:=YR h;simp only [fY];lia
noncomputable def CZ (H:Hp)(v:V):Option Off->Prop
 | none=>v=.non
 | some r=>∃ p,v=.ref p/\mz H p r.1 r.2
noncomputable def FJ (v:V):Option Tx->Prop
 | none=>v=.non
 | some t=>v=tx t
noncomputable def j9:Sp:=λvs H Q _=>∃ (pv:V) (p:Pc) (mk:Tx),vs=[pv,.str (S mk)]/\fV H (dP p) pv/\∀ H',fO H H'->Q (.bl (wZ mk p)) H'
noncomputable def jm:Sp:=λvs H Q _=>∃ (pv:V) (p:Pc),vs=[pv]/\fV H (dP p) pv/\∀ r xs H',fO H H'->H' r=some (.lst xs)->oz H' xs (qJ p)->Q (.ref r) H'
noncomputable def qw (d:Nat):Sp:=λvs H Q _=>∃ (pv:V) (ps:List Pc),vs=[pv]/\pB d H pv ps/\∀ r H',fO H H'->mz H' r (zy ps).1 (zy ps).2->Q (.ref r) H'
noncomputable def qR (d:Nat):Sp:=λvs H Q _=>∃ (pv:V) (ps:List Pc) (mk:Tx),vs=[pv,.str (S mk)]/\pB d H pv ps/\∀ v H',fO H H'->CZ H' v (zG mk ps)->Q v H'
noncomputable def zY (d:Nat):Sp:=λvs H Q _=>∃ (pv:V) (ps:List Pc) (mk:Tx),vs=[pv,.str (S mk)]/\pB d H pv ps/\∀ v H',fO H H'->FJ v (qD mk ps)->Q v H'
noncomputable def yM:Sp:=λvs H Q _=>∃ (pv:V) (ps:List Pc) (wd:Fw) (mk kk:Tx) (r:Off),vs=[pv,.str (S (JK wd)),.str (S mk)]/\pB 5 H pv ps/\zG mk ps=some r/\Mk mk/\Kn kk/\(wd=.astray->qD mk ps=some (lG mk kk))/\∀ v H',fO H H'->fV H' (oR (.error (lU wd mk (oM kk) r))) v->Q v H'
theorem Xg (f:Ft):iO (oR (.error f))<=50:=by
 have h1:∀ T:Ld,xE (T.map λ(t:Nat)=>Dat.fl (V.int t))=0:=λT=>by
  induction T with
  | nil=>rfl
  | cons x l ih=>simp only [uw,xE,iO,ih];rfl
 have h2:∀ l:List Tx,xE (l.map ft)=0:=λl=>by
  induction l with
  | nil=>rfl
  | cons x l ih=>simp only [uw,xE,iO,ih];rfl
 cases f<;>simp [oR,pJ,iO,xE,h1,h2]
theorem Mu {H:Hp}{f:Ft}{v:V}(h:fV H (oR (.error f)) v):∃ x,v=.ref x:=by cases f<;>(obtain⟨x,_,e,_⟩:=h;exact⟨x,e⟩)
inductive It where
 | p (x:Pc)
 | o
noncomputable def lR:It->Nat
 | .p x=>iq x
 | .o=>1
noncomputable def lb:List It->Nat
 | []=>0
 | i::s=>lR i+lb s
theorem yO (a b:List It):lb (a++b)=lb a+lb b:=by
 induction a with
 | nil=>simp [lb]
 | cons i a ih=>simp only [uE,lb,ih];omega
noncomputable def fX:List Pc->List It
 | []=>[]
 | p::ps=>.p p::fX ps
theorem xw:∀ ps:List Pc,lb (fX ps)=fY ps
 | []=>rfl
 | p::ps=>by simp only [fX,lb,lR,fY,xw ps]
noncomputable def sr (w n m:Tx):Dat:=.tp [ft [105,110,116,111],ft w,ft n,ft m]
noncomputable def oj:Dat:=.tp [ft [111,117,116]]
noncomputable def mT:Pc->Nat->List Pc
 | .each _ _,0=>[]
 | .each _ b,_+1=>b
 | .ife _ a _,0=>a
 | .ife _ _ b,_+1=>b
 | _,_=>[]
theorem Fi (n:Tx)(b:List Pc)(t:Nat):fY (mT (.each n b) t)<=fY b:=by cases t<;>simp [mT,fY]
theorem D5 (n:Tx)(a b:List Pc)(t:Nat):fY (mT (.ife n a b) t)<=fY a+fY b:=by cases t<;>simp [mT]
noncomputable def oF:It->Ld->Option (List Dat×List It×Ld)
 | .o,T=>some ([oj],[],T)
 | .p (.lit t),T=>some ([dP (.lit t)],[],T)
 | .p (.hole t),T=>some ([dP (.hole t)],[],T)
 | .p (.seat w n m b),T=>some ([sr w n m],fX b++[.o],T)
 | .p (.each n b),t::T=>some ([],fX (mT (.each n b) t),T)
 | .p (.ife n a b),t::T=>some ([],fX (mT (.ife n a b) t),T)
 | _,_=>none
theorem Dl {i:It}{T:Ld}{r:List Dat×List It×Ld}(h:oF i T=some r):lb r.2.1<lR i:=by
 cases i with
 | o=>cases h;exact g8
 | p x=>
  cases x with
  | lit t=>cases h;exact ur g8 (by simp [lR,iq])
  | hole t=>cases h;exact ur g8 (by simp [lR,iq])
  | seat w n m b=>cases h;simp only [yO,xw,lb,lR,iq];omega
  | each n b=>
   cases T with
   | nil=>cases h
   | cons t T=>cases h;have:=Fi n b t;simp only [xw,lR,iq];omega
  | ife n a b=>
   cases T with
   | nil=>cases h
   | cons t T=>cases h;have:=D5 n a b t;simp only [xw,lR,iq];omega
noncomputable def outF:Nat->List It->Ld->List Dat
 | 0,_,_=>[]
 | _+1,[],_=>[]
 | n+1,i::s,T=>(oF i T).elim [] λr=>r.1++outF n (r.2.1++s) r.2.2
theorem D4 (i:It):0<lR i:=by
 cases i with
 | o=>exact g8
 | p x=>cases x<;>simp only [lR,iq]<;>omega
theorem Xh:∀ n m s T,lb s<=n->lb s<=m->outF n s T=outF m s T
 | 0,0,_,_,_,_=>rfl
 | 0,_+1,[],_,_,_=>rfl
 | _+1,0,[],_,_,_=>rfl
 | _+1,_+1,[],_,_,_=>rfl
 | 0,_,i::s,_,h,_=>absurd (ur (D4 i) (Nat.le_add_right _ _)) (gW.mpr h)
 | _,0,i::s,_,_,h=>absurd (ur (D4 i) (Nat.le_add_right _ _)) (gW.mpr h)
 | n+1,m+1,i::s,T,h,k=>by
  simp only [outF];cases e:oF i T with
  | none=>rfl
  | some r=>have l:=Dl e;have h:lR i+lb s<=n+1:=h;have k:lR i+lb s<=m+1:=k;exact congrArg (r.1++·) (Xh n m _ _ (by rw [yO];omega) (by rw [yO];omega))
noncomputable def out (s:List It)(T:Ld):List Dat:=outF (lb s) s T
theorem Zq {T:Ld}:out [] T=[]:=rfl
theorem WA {i:It}{s:List It}{T:Ld}{r:List Dat×List It×Ld}(e:oF i T=some r):out (i::s) T=r.1++out (r.2.1++s) r.2.2:=by have l:=Dl e;have h:out (i::s) T=outF (lR i+lb s+1) (i::s) T:=Xh _ _ _ _ (ui _) (UA _);rw [h];simp only [outF,e];exact congrArg (r.1++·) (Xh _ _ _ _ (by rw [yO];lia) (ui _))
theorem D0 {i:It}{s:List It}{T:Ld}(e:oF i T=none):out (i::s) T=[]:=by have h:out (i::s) T=outF (lR i+lb s+1) (i::s) T:=Xh _ _ _ _ (ui _) (UA _);rw [h];simp only [outF,e];rfl
theorem xQ {n:Tx}{b:List Pc}{s:List It}:out (.p (.each n b)::s) []=[]:=D0 rfl
theorem yr {n:Tx}{a b:List Pc}{s:List It}:out (.p (.ife n a b)::s) []=[]:=D0 rfl
noncomputable def xx:Sp:=λvs H Q _=>∃ (v:V) (x:Pc) (n:Tx) (B:Hp),vs=[v]/\fO B H/\fV B (dP x) v/\((∃ b,x=.each n b)\/∃ a b,x=.ife n a b)/\∀ p a0 a1 v0 v1 H',fO H H'->H' p=some (.tup [.ref a0,.ref a1])->H' a0=some (.lst v0)->H' a1=some (.lst v1)->fZ B (iB (mT x 0)) v0->fZ B (iB (mT x 1)) v1->(∀ D o,H D=some o->B D=none->a0≠D/\a1≠D)->Q (.ref p) H'
noncomputable def kB:Sp:=λvs H Q _=>∃ (pa pl ta:Addr) (ps:List Pc) (T:Ld) (n:Nat),vs=[.ref pa,.ref pl]/\fV H (.ls (iB ps)) (.ref pa)/\H pl=some (.tup [.ref ta,.int n])/\H ta=some (.lst (T.map λ(t:Nat)=>V.int t))/\(∀ t∈T,t<2)/\T.length<=100000/\fY ps<=100000/\n<=100000 /\ ∀ D H',H D=none->fO H H'->fV H' (.ls ((out (fX ps) T).take n)) (.ref D)->Q (.ref D) H'
def CW (H H':Hp)(v:V)(d:Dat):Prop:=fV H d v\/∃ (a:Addr) (ts:List Tx),v=.ref a/\H' a=some (.tup (ts.map tx))/\d=.tp (ts.map ft)
inductive nk (H H':Hp):List V->List Dat->Prop
 | nil:nk H H' [] []
 | cons {v:V} {d:Dat} {vs:List V} {ds:List Dat}:CW H H' v d->nk H H' vs ds->nk H H' (v::vs) (d::ds)
noncomputable def tG (H H':Hp):V->It->Prop
 | v,.p x=>fV H (dP x) v
 | v,.o=>∃ a,v=.ref a/\H' a=some (.tup [tx [111,117,116]])
inductive ni (H H':Hp):List V->List It->Prop
 | nil:ni H H' [] []
 | cons {v:V} {i:It} {vs:List V} {is:List It}:tG H H' v i->ni H H' vs is->ni H H' (v::vs) (i::is)
theorem YS {H H':Hp}:∀ {ps:List Pc} {vs:List V},fZ H (iB ps) vs->ni H H' vs (fX ps)
 | [],vs,h=>by cases (show vs=[] from h);exact .nil
 | p::ps,vs,h=>by
  obtain⟨v,r,rfl,h1,h2⟩:=(by simpa only [iB] using h:fZ H (dP p::iB ps) vs)
  exact .cons h1 (YS h2)
theorem iL.upd {H1:Hp}{D:Addr}{xs ys:List V}(h:H1 D=some (.lst xs)):iL H1 (upd H1 D (.lst ys)):=λb ts e=>by rw [zk (Ku e h (by intro z;cases z))];exact e
theorem nk.mono {H H1 H2:Hp}{vs:List V}{ds:List Dat}(h:nk H H1 vs ds)(g:iL H1 H2):nk H H2 vs ds:=by
 induction h with
 | nil=>exact .nil
 | cons h _ ih=>
  refine .cons ?_ ih;rcases h with h | ⟨a,ts,e,h,e2⟩
  ·exact .inl h
  ·exact .inr ⟨a,ts,e,g _ _ h,e2⟩
theorem ni.mono {H H1 H2:Hp}{vs:List V}{is:List It}(h:ni H H1 vs is)(g:iL H1 H2):ni H H2 vs is:=by
 induction h with
 | nil=>exact .nil
 | @cons v i _ _ h _ ih=>
  refine .cons ?_ ih;cases i with
  | p x=>exact h
  | o=>obtain⟨a,e,h⟩:=h;exact⟨a,e,g _ _ h⟩
theorem nk.snoc {H H1:Hp}{vs:List V}{ds:List Dat}{v:V}{d:Dat}(h:nk H H1 vs ds)(k:CW H H1 v d):nk H H1 (vs++[v]) (ds++[d]):=by
 induction h with
 | nil=>exact .cons k .nil
 | cons h _ ih=>exact .cons h ih
theorem nk.len {H H1:Hp}{vs:List V}{ds:List Dat}(h:nk H H1 vs ds):vs.length=ds.length:=by
 induction h with
 | nil=>rfl
 | cons _ _ ih=>simp [ih]
theorem ni.app {H H1:Hp}{vs us:List V}{is js:List It}(h:ni H H1 vs is)(k:ni H H1 us js):ni H H1 (vs++us) (is++js):=by
 induction h with
 | nil=>exact k
 | cons h _ ih=>exact .cons h ih
theorem ni.len {H H1:Hp}{vs:List V}{is:List It}(h:ni H H1 vs is):vs.length=is.length:=by
 induction h with
 | nil=>rfl
 | cons _ _ ih=>simp [ih]
theorem nk.ds {H H1:Hp}{vs:List V}{ds:List Dat}(h:nk H H1 vs ds)(g:fO H H1):fZ H1 ds vs:=by
 induction h with
 | nil=>rfl
 | cons h _ ih=>
  refine⟨_,_,rfl,?_,ih⟩;rcases h with h | ⟨a,ts,e,h,e2⟩
  ·exact h.mono g
  ·subst e2;exact⟨a,_,e,h,jU ts⟩
theorem Fn {K:Lf}{H:Hp}{D:Addr}(h:H D=some (.lst [])):nI K (.ref D) H false:=.inl ⟨[],ij.of h,rfl⟩
theorem sC {K:Lf}{H:Hp}{D:Addr}{xs:List V}{v:V}(h:H D=some (.lst (xs++[v]))):nI K (.ref D) H true:=.inl ⟨_,ij.of h,by simp⟩
theorem Mt (x:Pc):1<=iq x:=by cases x<;>simp only [iq]<;>lia
theorem Qj:∀ st:List It,st.length<=lb st
 | []=>ui _
 | .o::st=>by have:=Qj st;simp only [uo,lb,lR];omega
 | .p x::st=>by have:=Qj st;have:=Mt x;simp only [uo,lb,lR];omega
theorem YT:∀ ps:List Pc,(fX ps).length=ps.length
 | []=>rfl
 | _::ps=>by simp only [fX,uo,YT ps]
inductive Th where
 | lit (t:Tx)
 | hole (t:Tx)
 | into (w n m:Tx)
 | out
noncomputable def nG:Th->Dat
 | .lit t=>dP (.lit t)
 | .hole t=>dP (.hole t)
 | .into w n m=>sr w n m
 | .out=>oj
inductive Rn:MS->List (List Tx)->List Th->MS->List (List Tx)->Prop
 | nil {s:MS} {a:List (List Tx)}:Rn s a [] s a
 | lit {s s' z:MS} {a b:List (List Tx)} {t:Tx} {es:List Ev} {r:List Th}:runM s t=.ok (s',es)->s.word.length<=8->s.opens.length+t.length<=100000->Rn s' a r z b->Rn s a (.lit t::r) z b
 | hole {s z:MS} {a b:List (List Tx)} {t:Tx} {r:List Th}:Rn s a r z b->Rn s a (.hole t::r) z b
 | into {s z:MS} {a b:List (List Tx)} {w n m:Tx} {r:List Th}:Rn { s with opens:=[] } (s.opens::a) r z b->Rn s a (.into w n m::r) z b
 | out {s z:MS} {o:List Tx} {a b:List (List Tx)} {r:List Th}:o.length+s.opens.length<=100000->Rn { s with opens:=o++s.opens } a r z b->Rn s (o::a) (.out::r) z b
theorem Rn.app {s1 s2 s3:MS}{a1 a2 a3:List (List Tx)}{x y:List Th}(h:Rn s1 a1 x s2 a2)(k:Rn s2 a2 y s3 a3):Rn s1 a1 (x++y) s3 a3:=by
 induction h with
 | nil=>exact k
 | lit e1 e2 e3 _ ih=>exact .lit e1 e2 e3 (ih k)
 | hole _ ih=>exact .hole (ih k)
 | into _ ih=>exact .into (ih k)
 | out e _ ih=>exact .out e (ih k)
def C6 (H:Hp)(v:V)(o:List Tx):Prop:=∃ a,v=.ref a/\mh H a o
inductive nr (H:Hp):List V->List (List Tx)->Prop
 | nil:nr H [] []
 | cons {v:V} {o:List Tx} {vs:List V} {os:List (List Tx)}:C6 H v o->nr H vs os->nr H (v::vs) (o::os)
theorem nr.mono {H H':Hp}{vs:List V}{os:List (List Tx)}(h:nr H vs os)(g:iL H H'):nr H' vs os:=by
 induction h with
 | nil=>exact .nil
 | cons h _ ih=>obtain⟨a,e,h⟩:=h;exact .cons ⟨a,e,g _ _ h⟩ ih
theorem nr.snoc {H:Hp}{vs:List V}{os:List (List Tx)}{v:V}{o:List Tx}(h:nr H vs os)(k:C6 H v o):nr H (vs++[v]) (os++[o]):=by
 induction h with
 | nil=>exact .cons k .nil
 | cons h _ ih=>exact .cons h ih
theorem nr.unsnoc {H:Hp}{o:List Tx}:∀ {os:List (List Tx)} {ws:List V},nr H ws (os++[o])->∃ vs v,ws=vs++[v]/\nr H vs os/\C6 H v o
 | [],_,.cons h t=>by cases t;exact⟨[],_,rfl,.nil,h⟩
 | _::_,_,.cons h t=>by obtain⟨vs,v,rfl,h1,h2⟩:=nr.unsnoc t;exact⟨_::vs,v,rfl,.cons h h1,h2⟩
noncomputable def yP:Sp:=λvs H Q _=>∃ (pa pl ta:Addr) (ps:List Pc) (T:Ld) (n:Nat) (A:List Th) (s:MS) (a:List (List Tx)),vs=[.ref pa,.ref pl]/\fV H (.ls (iB ps)) (.ref pa)/\H pl=some (.tup [.ref ta,.int n])/\H ta=some (.lst (T.map λ(t:Nat)=>V.int t))/\(∀ t∈T,t<2)/\T.length<=100000/\fY ps<=100000/\n<=100000 /\ (out (fX ps) T).take n=A.map nG/\A.length<=10000/\Rn mY [] A s a/\∀ v H',fO H H'->lI H' v s->Q v H'
def Nx (s:MS)(a:List (List Tx))(h:Th)(s':MS)(a':List (List Tx)):Prop:=match h with
 | .lit t=>(∃ es,runM s t=.ok (s',es))/\s.word.length<=8/\s.opens.length+t.length<=100000/\a' = a
 | .hole _=>s' = s/\a' = a
 | .into _ _ _=>s' = { s with opens:=[] }/\a' = s.opens::a
 | .out=>∃ o,a=o::a'/\o.length+s.opens.length<=100000/\s' = { s with opens:=o++s.opens }
theorem Rn.nx {s z:MS}{a b:List (List Tx)}{h:Th}{r:List Th}(k:Rn s a (h::r) z b):∃ s' a',Nx s a h s' a'/\Rn s' a' r z b:=by
 cases k with
 | lit e1 e2 e3 k=>exact⟨_,_,⟨⟨_,e1⟩,e2,e3,rfl⟩,k⟩
 | hole k=>exact⟨_,_,⟨rfl,rfl⟩,k⟩
 | into k=>exact⟨_,_,⟨rfl,rfl⟩,k⟩
 | out e k=>exact⟨_,_,⟨_,rfl,e,rfl⟩,k⟩
theorem vQ {t:Tx}{s:List It}{T:Ld}:out (.p (.lit t)::s) T=dP (.lit t)::out s T:=by have h:=WA (s:=s) (show oF (.p (.lit t)) T=some _ from rfl);exact h
theorem xA {t:Tx}{s:List It}{T:Ld}:out (.p (.hole t)::s) T=dP (.hole t)::out s T:=by have h:=WA (s:=s) (show oF (.p (.hole t)) T=some _ from rfl);exact h
theorem xB {w n m:Tx}{b:List Pc}{s:List It}{T:Ld}:out (.p (.seat w n m b)::s) T=sr w n m::out (fX b++.o::s) T:=by rw [WA rfl];simp only [uz,uE,Ub]
theorem WT {s:List It}{T:Ld}:out (.o::s) T=oj::out s T:=by have h:=WA (s:=s) (show oF (.o) T=some _ from rfl);exact h
theorem xC {n:Tx}{b:List Pc}{t:Nat}{s:List It}{T:Ld}:out (.p (.each n b)::s) (t::T)=out (fX (mT (.each n b) t)++s) T:=by have h:=WA (s:=s) (show oF (.p (.each n b)) (t::T)=some _ from rfl);exact h
theorem vR {n:Tx}{a b:List Pc}{t:Nat}{s:List It}{T:Ld}:out (.p (.ife n a b)::s) (t::T)=out (fX (mT (.ife n a b) t)++s) T:=by have h:=WA (s:=s) (show oF (.p (.ife n a b)) (t::T)=some _ from rfl);exact h
def my (is:List It)(o:Off)(s e:MS):Prop:=∃ A:List Th,(∀ st T,out (is++st) (o.1++T)=A.map nG++out st T)/\A.length=o.2/\∀ a,Rn s a A e a
theorem my.nil {s:MS}:my [] ([],0) s s:=⟨[],λ_ _=>rfl,rfl,λ_=>.nil⟩
theorem my.app {is js:List It}{o q:Off}{s e z:MS}(h:my is o s e)(k:my js q e z):my (is++js) (o.add q) s z:=by obtain⟨A,h1,h2,h3⟩:=h;obtain⟨B,k1,k2,k3⟩:=k;refine⟨A++B,λst T=>?_,by rw [uc,h2,k2];rfl,λa=>(h3 a).app (k3 a)⟩;show out (is++js++st) (o.1++q.1++T)=_;rw [uz,uz,h1,k1,UE,uz]
def Met (is:List It)(x:lX)(T1:Ld)(n1:Nat)(s1:MS)(X:List Dat->Prop):Prop:=∃ (T':Ld) (A:List Th),T1=x.T++T'/\n1=x.n+A.length/\(∀ st,∃ R,X R/\out (is++st) T' = A.map nG++R)/\∀ a,∃ a',Rn x.s a A s1 a'
theorem Met.hd {is js:List It}{x:lX}{T1:Ld}{n1:Nat}{s1:MS}{X:List Dat->Prop}(h:Met is x T1 n1 s1 X):Met (is++js) x T1 n1 s1 X:=by obtain⟨T',A,h1,h2,h3,h4⟩:=h;exact⟨T',A,h1,h2,λst=>by rw [uz];exact h3 (js++st),h4⟩
theorem Met.tl {is js:List It}{o:Off}{x e:lX}{T1:Ld}{n1:Nat}{s1:MS}{X:List Dat->Prop}(k:my is o x.s e.s)(hT:e.T=x.T++o.1)(hn:e.n=x.n+o.2)(h:Met js e T1 n1 s1 X):Met (is++js) x T1 n1 s1 X:=by
 obtain⟨T',A,h1,h2,h3,h4⟩:=h;obtain⟨B,k1,k2,k3⟩:=k;refine⟨o.1++T',B++A,by rw [h1,hT,uz],by rw [h2,hn,uc,k2,UY],λst=>?_,λa=>?_⟩
 ·obtain⟨R,hR,e⟩:=h3 st;exact⟨R,hR,by rw [uz,k1,e,UE,uz]⟩
 ·obtain⟨a',h⟩:=h4 a;exact⟨a',(k3 a).app h⟩
theorem Met.each {nm:Tx}{b:List Pc}{s:MS}{T:Ld}{n:Nat}{T1:Ld}{n1:Nat}{s1:MS}{X:List Dat->Prop}(h:Met (fX b) ⟨s,T++[1],n⟩ T1 n1 s1 X):Met [.p (.each nm b)] ⟨s,T,n⟩ T1 n1 s1 X:=by obtain⟨T',A,h1,h2,h3,h4⟩:=h;refine⟨1::T',A,by rw [h1,uz];rfl,h2,λst=>?_,h4⟩;obtain⟨R,hR,e⟩:=h3 st;exact⟨R,hR,by rw [← e];exact xC⟩
theorem Met.ife {nm:Tx}{a b:List Pc}{s:MS}{T:Ld}{n:Nat}{t:Nat}{T1:Ld}{n1:Nat}{s1:MS}{X:List Dat->Prop}(h:Met (fX (mT (.ife nm a b) t)) ⟨s,T++[t],n⟩ T1 n1 s1 X):Met [.p (.ife nm a b)] ⟨s,T,n⟩ T1 n1 s1 X:=by obtain⟨T',A,h1,h2,h3,h4⟩:=h;refine⟨t::T',A,by rw [h1,uz];rfl,h2,λst=>?_,h4⟩;obtain⟨R,hR,e⟩:=h3 st;exact⟨R,hR,by rw [← e];exact vR⟩
theorem Met.seat {w n m:Tx}{b:List Pc}{s:MS}{T:Ld}{k:Nat}{T1:Ld}{n1:Nat}{s1:MS}{X:List Dat->Prop}(h:Met (fX b) ⟨mS s,T,k+1⟩ T1 n1 s1 X):Met [.p (.seat w n m b)] ⟨s,T,k⟩ T1 n1 s1 X:=by
 obtain⟨T',A,h1,h2,h3,h4⟩:=h;refine⟨T',.into w n m::A,h1,by rw [h2,uo];simp only [];lia,λst=>?_,λa=>?_⟩
 ·obtain⟨R,hR,e⟩:=h3 (.o::st);exact⟨R,hR,by show out (.p (.seat w n m b)::st) T' = _;rw [xB,e];rfl⟩
 ·obtain⟨a',h⟩:=h4 (s.opens::a);exact⟨a',.into h⟩
noncomputable def sd (is:List It)(x:lX):Ft->Prop
 | .astray T n b=>∃ t s,Met is x T n s (λR=>∃ R',R=dP (.lit t)::R')/\runM s t=.error b/\s.word.length<=8/\s.opens.length+t.length<=100000
 | .noplace nm T n=>∃ s,Met is x T n s (λR=>∃ R',R=dP (.hole nm)::R')/\kh s=none
 | _=>True
theorem sd.map {is js:List It}{x y:lX}{f:Ft}(h:∀ T1 n1 s1 X,Met is x T1 n1 s1 X->Met js y T1 n1 s1 X)(k:sd is x f):sd js y f:=by
 cases f with
 | astray T n b=>obtain⟨t,s,m,r⟩:=k;exact⟨t,s,h _ _ _ _ m,r⟩
 | noplace nm T n=>obtain⟨s,m,r⟩:=k;exact⟨s,h _ _ _ _ m,r⟩
 | unlike w T n T2 n2=>trivial
 | left T n=>trivial
theorem SB.mS {s:MS}{N:Nat}(h:SB s N):SB (mS s) N:=⟨h.1,uZ _⟩
mutual
theorem Bx:∀ (p:Pc) (x:lX) (N:Nat),SB x.s N->N+lP p<=100000->(∀ e h,qf p x=.ok (e,h)->my [.p p] (qN p) x.s e.s/\SB e.s (N+lP p))/\∀ f,qf p x=.error f->sd [.p p] x f
 | .lit t,x,N,hs,hN=>by
  simp only [qf,lP] at hN ⊢;cases hr:runM x.s t with
  | ok r=>obtain⟨l1,l2,_⟩:=Em hr hs.1;have h2:=hs.2;refine⟨λe h q=>?_,λf q=>by cases q⟩;cases q;exact⟨⟨[.lit t],λst T=>vQ,rfl,λa=>.lit (es:=r.2) (by rw [hr]) hs.1 (by omega) .nil⟩,l1,by simp only [];omega⟩
  | error b=>refine⟨λe h q=>(by cases q),λf q=>?_⟩;cases q;have h2:=hs.2;exact⟨t,x.s,⟨[],[],(uj _).symm,rfl,λst=>⟨_,⟨_,rfl⟩,vQ⟩,λa=>⟨a,.nil⟩⟩,hr,hs.1,by omega⟩
 | .hole t,x,N,hs,hN=>by
  simp only [qf,lP] at hN ⊢;cases hr:kh x.s with
  | some r=>refine⟨λe h q=>?_,λf q=>by cases q⟩;cases q;exact⟨⟨[.hole t],λst T=>xA,rfl,λa=>.hole .nil⟩,hs⟩
  | none=>refine⟨λe h q=>(by cases q),λf q=>?_⟩;cases q;exact⟨x.s,⟨[],[],(uj _).symm,rfl,λst=>⟨_,⟨_,rfl⟩,xA⟩,λa=>⟨a,.nil⟩⟩,hr⟩
 | .each n b,x,N,hs,hN=>by
  simp only [qf,lP] at hN ⊢;obtain⟨i1,i2⟩:=nu b ⟨x.s,x.T++[1],x.n⟩ N hs hN;cases hr:zA b ⟨x.s,x.T++[1],x.n⟩ with
  | error f=>refine⟨λe h q=>(by cases q),λf' q=>?_⟩;cases q;exact(i2 f hr).map λ_ _ _ _ m=>Met.each m
  | ok r=>
   obtain⟨k1,k2⟩:=i1 r.1 r.2 hr;obtain⟨p1,p2⟩:=wV b _ r.1 r.2 hr;refine⟨λe h q=>?_,λf q=>?_⟩
   ·simp only [] at q;split at q
    ·cases q;exact⟨⟨[],λst T=>by show out (.p (.each n b)::st) (0::T)=_;rw [xC];rfl,rfl,λa=>.nil⟩,hs.1,by have:=hs.2;simp only [];lia⟩
    ·cases q
   ·simp only [] at q;split at q
    ·cases q
    ·rename_i hz;cases q
     trivial
 | .ife n a b,x,N,hs,hN=>by
  simp only [qf,lP] at hN ⊢;obtain⟨i1,i2⟩:=nu a ⟨x.s,x.T++[0],x.n⟩ N hs (by lia);obtain⟨j1,j2⟩:=nu b ⟨x.s,x.T++[1],x.n⟩ N hs (by lia);cases hr:zA a ⟨x.s,x.T++[0],x.n⟩ with
  | error f=>refine⟨λe h q=>(by cases q),λf' q=>?_⟩;cases q;exact(i2 f hr).map λ_ _ _ _ m=>Met.ife (t:=0) m
  | ok r=>
   obtain⟨k1,k2⟩:=i1 r.1 r.2 hr;obtain⟨p1,p2⟩:=wV a _ r.1 r.2 hr;cases hr2:zA b ⟨x.s,x.T++[1],x.n⟩ with
   | error f=>refine⟨λe h q=>(by cases q),λf' q=>?_⟩;cases q;exact(j2 f hr2).map λ_ _ _ _ m=>Met.ife (t:=1) m
   | ok r2=>
    obtain⟨m1,m2⟩:=j1 r2.1 r2.2 hr2;obtain⟨q1,q2⟩:=wV b _ r2.1 r2.2 hr2;refine⟨λe h q=>?_,λf q=>?_⟩
    ·simp only [] at q;split at q
     ·cases q;obtain⟨A,u1,u2,u3⟩:=k1;exact⟨⟨A,λst T=>by show out (.p (.ife n a b)::st) (0::((zy a).1++T))=_;rw [vR];exact u1 st T,u2,u3⟩,k2.1,by have:=k2.2;lia⟩
     ·cases q
    ·simp only [] at q;split at q
     ·cases q
     ·rename_i hz;cases q
      trivial
 | .seat w n m b,x,N,hs,hN=>by
  simp only [qf,lP] at hN ⊢;obtain⟨i1,i2⟩:=nu b ⟨mS x.s,x.T,x.n+1⟩ N hs.mS hN;cases hr:zA b ⟨mS x.s,x.T,x.n+1⟩ with
  | error f=>refine⟨λe h q=>(by cases q),λf' q=>?_⟩;cases q;exact(i2 f hr).map λ_ _ _ _ m=>Met.seat m
  | ok r=>
   obtain⟨k1,k2⟩:=i1 r.1 r.2 hr;obtain⟨p1,p2⟩:=wV b _ r.1 r.2 hr;refine⟨λe h q=>?_,λf q=>?_⟩
   ·simp only [] at q;split at q
    ·rename_i hz;cases q;obtain⟨A,u1,u2,u3⟩:=k1;rw [hz] at u3;refine⟨⟨(Th.into w n m::A)++[Th.out],λst T=>?_,?_,λa=>?_⟩,hs.1,by have:=hs.2;simp only [];lia⟩
     ·show out (.p (.seat w n m b)::st) ((zy b).1++T)=_;rw [xB,u1,WT];simp [nG]
     ·show(Th.into w n m::A++[Th.out]).length=2+(zy b).2;simp [u2];lia
     ·have h2:=hs.2;refine .into ((u3 (x.s.opens::a)).app (.out ?_ ?_))
      ·show x.s.opens.length+0<=_;lia
      ·have:({ mS x.s with opens:=x.s.opens++(mS x.s).opens }:MS)=x.s:=by simp [mS]
       rw [this];exact .nil
    ·cases q
   ·simp only [] at q;split at q
    ·cases q
    ·rename_i hz;cases q
     trivial
theorem nu:∀ (ps:List Pc) (x:lX) (N:Nat),SB x.s N->N+iu ps<=100000->(∀ e h,zA ps x=.ok (e,h)->my (fX ps) (zy ps) x.s e.s/\SB e.s (N+iu ps))/\∀ f,zA ps x=.error f->sd (fX ps) x f
 | [],x,N,hs,hN=>by simp only [zA];refine⟨λe h q=>?_,λf q=>by cases q⟩;cases q;exact⟨.nil,hs.1,by have:=hs.2;omega⟩
 | p::ps,x,N,hs,hN=>by
  simp only [zA,iu] at hN ⊢;obtain⟨i1,i2⟩:=Bx p x N hs (by lia);cases hr:qf p x with
  | error f=>refine⟨λe h q=>(by cases q),λf' q=>?_⟩;cases q;exact(i2 f hr).map λ_ _ _ _ m=>m.hd
  | ok r=>
   obtain⟨k1,k2⟩:=i1 r.1 r.2 hr;obtain⟨p1,p2⟩:=Vb p x r.1 r.2 hr;obtain⟨j1,j2⟩:=nu ps r.1 (N+lP p) k2 (by lia);cases hr2:zA ps r.1 with
   | error f=>refine⟨λe h q=>(by simp only [hr2] at q;cases q),λf' q=>?_⟩;simp only [hr2] at q;cases q;exact(j2 f hr2).map λ_ _ _ _ m=>Met.tl k1 p1 p2 m
   | ok r2=>obtain⟨m1,m2⟩:=j1 r2.1 r2.2 hr2;refine⟨λe h q=>?_,λf q=>(by simp only [hr2] at q;cases q)⟩;simp only [hr2] at q;cases q;exact⟨k1.app m1,m2.1,by have:=m2.2;omega⟩
end
mutual
theorem V4:∀ (p:Pc),∀ t∈(qN p).1,t<2
 | .lit _,t,h=>by simp [qN] at h
 | .hole _,t,h=>by simp [qN] at h
 | .each _ _,t,h=>by simp only [qN,uC] at h;omega
 | .ife _ a _,t,h=>by
  simp only [qN,u9,uC] at h;rcases h with h | h
  ·lia
  ·exact Vh a t h
 | .seat _ _ _ b,t,h=>by simp only [qN] at h;exact Vh b t h
theorem Vh:∀ (ps:List Pc),∀ t∈(zy ps).1,t<2
 | [],t,h=>by simp [zy] at h
 | p::ps,t,h=>by
  simp only [zy,Off.add,u9] at h;rcases h with h | h
  ·exact V4 p t h
  ·exact Vh ps t h
end
mutual
theorem P9:∀ (mk:Tx) (p:Pc) (r:Off),qC mk p=some r->(∀ t∈r.1,t<2)/\r.2<=iq p
 | mk,.lit t,r,h=>by simp only [qC] at h;split at h<;>cases h;simp
 | mk,.hole t,r,h=>by simp only [qC] at h;split at h<;>cases h;simp
 | mk,.each x b,r,h=>by
  simp only [qC] at h;split at h
  ·cases h;simp
  ·obtain⟨q,hq,rfl⟩:=uS.mp h;obtain⟨h1,h2⟩:=kC mk b q hq;refine⟨λt ht=>?_,by simp only [Off.add,iq];lia⟩;simp only [Off.add,u9,uC] at ht;rcases ht with ht | ht
   ·lia
   ·exact h1 t ht
 | mk,.ife x a b,r,h=>by
  simp only [qC] at h;split at h
  ·cases h;simp
  ·cases ha:zG mk a with
   | some q=>
    rw [ha] at h;cases h;obtain⟨h1,h2⟩:=kC mk a q ha;refine⟨λt ht=>?_,by simp only [Off.add,iq];lia⟩;simp only [Off.add,u9,uC] at ht;rcases ht with ht | ht
    ·lia
    ·exact h1 t ht
   | none=>
    rw [ha] at h;obtain⟨q,hq,rfl⟩:=uS.mp h;obtain⟨h1,h2⟩:=kC mk b q hq;refine⟨λt ht=>?_,by simp only [Off.add,iq];lia⟩;simp only [Off.add,u9,uC] at ht;rcases ht with ht | ht
    ·lia
    ·exact h1 t ht
 | mk,.seat w x y b,r,h=>by
  simp only [qC] at h;split at h
  ·cases h;simp
  ·obtain⟨q,hq,rfl⟩:=uS.mp h;obtain⟨h1,h2⟩:=kC mk b q hq;exact⟨λt ht=>h1 t (by simpa [Off.add] using ht),by simp only [Off.add,iq];lia⟩
theorem kC:∀ (mk:Tx) (ps:List Pc) (r:Off),zG mk ps=some r->(∀ t∈r.1,t<2)/\r.2<=fY ps
 | mk,[],r,h=>by simp [zG] at h
 | mk,p::ps,r,h=>by
  simp only [zG] at h;cases hp:qC mk p with
  | some q=>rw [hp] at h;cases h;obtain⟨h1,h2⟩:=P9 mk p _ hp;exact⟨h1,by simp only [fY];omega⟩
  | none=>
   rw [hp] at h;obtain⟨q,hq,rfl⟩:=uS.mp h;obtain⟨h1,h2⟩:=kC mk ps q hq;have h3:=Wz p;refine⟨λt ht=>?_,by simp only [Off.add,fY];lia⟩;rcases u9.mp ht with ht | ht
   ·exact V4 p t ht
   ·exact h1 t ht
end
theorem BR:SB mY 0:=⟨by decide,by decide⟩
theorem Mr {ps:List Pc}{f:Ft}(h:jr ps=.error f)(hn:∀ T n,f≠.left T n)(hb:iu ps<=50000):sd (fX ps) ⟨mY,[],0⟩ f:=by
 unfold jr at h;cases hl:zA ps ⟨mY,[],0⟩ with
 | error g=>rw [hl] at h;cases h;exact(nu ps _ 0 BR (by omega)).2 _ hl
 | ok r=>
  rw [hl] at h;simp only [] at h;split at h
  ·cases h
  ·cases h;exact absurd rfl (hn _ _)
structure AtP (ps:List Pc)(T:Ld)(n:Nat)(s:MS)(X:List Dat->Prop):Prop where
 ex:∃ (A:List Th) (R:List Dat) (a:List (List Tx)),A.length=n/\out (fX ps) T=A.map nG++R/\X R/\Rn mY [] A s a
theorem Met.at' {ps:List Pc}{T:Ld}{n:Nat}{s:MS}{X:List Dat->Prop}(h:Met (fX ps) ⟨mY,[],0⟩ T n s X):AtP ps T n s X:=by obtain⟨T',A,h1,h2,h3,h4⟩:=h;obtain⟨R,hR,e⟩:=h3 [];obtain⟨a,k⟩:=h4 [];rw [uj] at e;rw [Ub] at h1;subst h1;exact⟨A,R,a,by rw [h2,Nat.zero_add],e,hR,k⟩
noncomputable def yQ:Sp:=λvs H Q _=>∃ (x:V) (s:MS) (l:Tx) (b:Nat),vs=[x,.str (S l)]/\lI H x s/\runM s l=.error b/\s.word.length<=8/\s.opens.length+l.length<=100000/\∀ H',fO H H'->Q (.int (b:Nat)) H'
def Fa (f:Ft):Prop:=(∃ T n b,f=.astray T n b)\/∃ x T n,f=.noplace x T n
noncomputable def xZ:Sp:=λvs H Q _=>∃ (pa da:Addr) (ps:List Pc) (f:Ft),vs=[.ref pa,.ref da]/\pB 5 H (.ref pa) ps/\fV H (oR (.error f)) (.ref da)/\Fa f/\(∀ T n b,f=.astray T n b->(∀ t∈T,t<2)/\T.length<=10000/\n<=10000)/\(∀ x T n,f=.noplace x T n->(∀ t∈T,t<2)/\T.length<=10000/\n<=10000)/\sd (fX ps) ⟨mY,[],0⟩ f/\∀ H',fO H H'->Q (.bl true) H'
noncomputable def jt:Sp:=λvs H Q _=>∃ (r:Addr) (B:Hp) (f:Ft),vs=[.ref r]/\ou B H r f/\Fa f/\∀ p T n,mn B H p T n->((∃ b,f=.astray T n b)\/∃ x,f=.noplace x T n)->Q (.ref p) H
noncomputable def va:Sp:=λvs H Q _=>∃ (c:Int) (wd:Fw),vs=[.int c,.str (S (JK wd))]/\(wd=.astray\/wd=.noplace)/\∀ H',fO H H'->Q (.bl true) H'
theorem DZ {H:Hp}:∀ {T:Ld} {vs:List V},fZ H (T.map λ(t:Nat)=>Dat.fl (.int (t:Int))) vs->vs=T.map λ(t:Nat)=>V.int (t:Int)
 | [],vs,h=>h
 | t::T,vs,h=>by obtain⟨v,r,rfl,⟨rfl,_⟩,k⟩:=h;rw [DZ k];rfl
theorem De {H:Hp}{v:V}{T:Ld}{n:Nat}(h:fV H (pJ T n) v):∃ p,v=.ref p/\mz H p T n:=by obtain⟨p,vs,rfl,hp,v0,r0,rfl,hl,v1,r1,rfl,⟨rfl,_⟩,rfl⟩:=h;obtain⟨l,ws,rfl,hl2,hw⟩:=hl;exact⟨p,rfl,l,hp,by rw [← DZ hw];exact hl2⟩
theorem Et {H:Hp}{d:Dat}:∀ {ds:List Dat} {vs:List V},fZ H (ds++[d]) vs->∃ v,lQ vs (-1)=some v/\fV H d v
 | [],vs,h=>by obtain⟨v,r,rfl,h,rfl⟩:=h;exact⟨v,by rw [Z9];rfl,h⟩
 | _::ds,vs,h=>by obtain⟨v,r,rfl,_,h⟩:=h;obtain⟨w,e,k⟩:=Et h;rw [Z9] at e;exact⟨w,by rw [Z9,List.getLast?_cons,e];rfl,k⟩
local macro_rules | `(tactic| walk_at "z") => `(tactic| simp only [List.cons.injEq, V.ref.injEq, V.int.injEq, V.bl.injEq, C7, Int.natCast_inj, and_true, true_and, and_assoc, exists_and_left, exists_eq_left'])
section
variable {p q r s:Addr} {i j k:Int} {l m n o:Ld} {t u v:Nat} {w x y z:V} {α β γ δ ε ζ η ι κ:Type}
theorem Oj {P:Nat->Prop}:(∃ a,[V.int t]=[.int (a:Nat)]/\P a)=(P t):=by walk_at "z"
theorem Oi {P:Ld->Prop}:(∃ a,[V.str (S l)]=[.str (S a)]/\P a)=(P l):=by walk_at "z"
theorem Oh {P:Nat->Prop}:(∃ a,[V.str (S [t])]=[.str (S [a])]/\P a)=(P t):=by walk_at "z"
theorem Og {P:Ld->Nat->Prop}:(∃ a b,[V.str (S l),V.str (S [t])]=[.str (S a),.str (S [b])]/\P a b)=(P l t):=by walk_at "z"
theorem Of {P:Addr->α->Prop}{Q:Ld->Addr->α->Addr->β->Prop}:(∃ a b c d e,[V.str (S l),V.ref p,V.ref q]=[.str (S a),.ref b,.ref d]/\P b c/\Q a b c d e)=(∃ c,P p c/\∃ e,Q l p c q e):=by walk_at "z"
theorem Od {P:Addr->α->Prop}{Q:Addr->α->Addr->β->Prop}:(∃ a b c d,[V.ref p,V.ref q]=[.ref a,.ref c]/\P a b/\Q a b c d)=(∃ b,P p b/\∃ d,Q p b q d):=by walk_at "z"
theorem Oc {P:Addr->α->Prop}{Q:Addr->α->Nat->Addr->β->Prop}:(∃ a b c d e,[V.ref p,V.str (S [t]),V.ref q]=[.ref a,.str (S [c]),.ref d]/\P a b/\Q a b c d e)=(∃ b,P p b/\∃ e,Q p b t q e):=by walk_at "z"
theorem Ob {P:V->α->Nat->Prop}:(∃ a b c,[w,V.str (S [t])]=[a,.str (S [c])]/\P a b c)=(∃ b,P w b t):=by walk_at "z"
theorem Ay {P:V->α->Prop}:(∃ a b,[w]=[a]/\P a b)=(∃ b,P w b):=by walk_at "z"
theorem Ax {P:V->α->Ld->Prop}:(∃ a b c,[w,V.str (S l)]=[a,.str (S c)]/\P a b c)=(∃ b,P w b l):=by walk_at "z"
theorem Aw {P:Addr->α->Nat->Prop}:(∃ a b c,[V.ref p,V.int t]=[.ref a,.int (c:Nat)]/\P a b c)=(∃ b,P p b t):=by walk_at "z"
theorem Av {P:Int->Int->Int->Prop}:(∃ a b c,[V.int i,V.int j,V.int k]=[.int a,.int b,.int c]/\P a b c)=(P i j k):=by walk_at "z"
theorem Au {P:Int->Int->Prop}:(∃ a b,[V.int i,V.int j]=[.int a,.int b]/\P a b)=(P i j):=by walk_at "z"
theorem As {P:Addr->α->β->γ->V->δ->Prop}:(∃ a b c d e g,[V.ref p,w]=[.ref a,e]/\P a b c d e g)=(∃ b c d g,P p b c d w g):=by walk_at "z"
theorem Ar {P:Addr->α->V->Prop}:(∃ a b c,[V.ref p,w]=[.ref a,c]/\P a b c)=(∃ b,P p b w):=by walk_at "z"
theorem Aq {P:Addr->α->β->γ->δ->Prop}{Q:Addr->α->β->γ->δ->ε->Prop}:(∃ a b c d e g,[V.ref p]=[.ref a]/\P a b c d e/\Q a b c d e g)=(∃ b c d e,P p b c d e/\∃ g,Q p b c d e g):=by walk_at "z"
theorem Ap {P:V->α->Prop}:(∃ a b,[w,x]=[a,y]/\P a b)=(x=y/\∃ b,P w b):=by walk_at "z"
theorem Ao {P:Addr->α->β->Prop}:(∃ a b c,[V.ref p]=[.ref a]/\P a b c)=(∃ b c,P p b c):=by walk_at "z"
theorem An {P:Int->Ld->Addr->α->β->Prop}:(∃ a b c d e,[V.int i,V.str (S l),w,V.ref p]=[.int a,.str (S b),x,.ref c]/\P a b c d e)=(w=x/\∃ d e,P i l p d e):=by walk_at "z"
theorem Am {P:Int->Ld->Ld->Ld->Addr->α->β->Prop}:(∃ a b c d e g h,[V.int i,V.str (S l),V.str (S m),V.str (S n),w,V.ref p]=[.int a,.str (S b),.str (S c),.str (S d),x,.ref e]/\P a b c d e g h)=(w=x/\∃ g h,P i l m n p g h):=by walk_at "z"
theorem Al {P:Int->Addr->α->β->Prop}:(∃ a b c d,[V.int i,V.ref p]=[.int a,.ref b]/\P a b c d)=(∃ c d,P i p c d):=by walk_at "z"
theorem Ak {P:V->α->β->γ->Prop}:(∃ a b c d,[w]=[a]/\P a b c d)=(∃ b c d,P w b c d):=by walk_at "z"
theorem Aj {P:Addr->β->Prop}{Q:Addr->Addr->α->β->γ->δ->Prop}:(∃ a b c d e g,[V.ref p,V.ref q]=[.ref a,.ref b]/\P a d/\Q a b c d e g)=(∃ c d,P p d/\∃ e g,Q p q c d e g):=by walk_at "z"
end
abbrev e8:Ld:=[98,101,116,119,101,101,110]
abbrev e9:Ld:=[115,97,105,100]
abbrev fc:Ld:=[119,111,114,100]
abbrev ff:Ld:=[115,105,103,110]
abbrev fh:Ld:=[115,116,114,111,107,101]
abbrev fj:Ld:=[116,101,120,116]
abbrev fk:Ld:=[97,115,105,115]
abbrev fm:Ld:=[116,97,108,107]
abbrev fo:Ld:=[97,116,116,114]
abbrev fq:Ld:=[98,97,114,101]
abbrev fu:Ld:=[114,111,119]
abbrev fv:Ld:=[113,117,111,116,101,100]
abbrev fw:Ld:=[100,111,110,101]
abbrev fz:Ld:=[101,97,99,104]
abbrev fA:Ld:=[105,102]
abbrev fD:Ld:=[115,101,97,116]
abbrev fE:Ld:=[108,105,116]
abbrev fF:Ld:=[104,111,108,101]
abbrev fG:Ld:=[100,114,97,119]
abbrev fH:Ld:=[97,115,116,114,97,121]
abbrev fJ:Ld:=[110,111,112,108,97,99,101]
abbrev fK:Ld:=[117,110,108,105,107,101]
set_option backward.dsimp.useDefEqAttr false
local macro_rules | `(tactic| walk_at "rd") => do
  let p := fun x => (x : String).splitOn " "
  let a := p "Zd xp vq j6 yF yG Xa zQ xq qx wY yH vU X6 jN Ze Zf Zg Zh yI Zi Qe Zj JF Zk Zl Zm Qf vJ vK yJ Zn Zo yK Zp Z2 ky Xb Wv Qg xO qV qh j7 jA jq zB qZ qg qy jh jK ji vN Xe xx kB yP vL jf xX jg jO jj vO xu wg vP j9 qw jm qR zY yM j8 wG yQ xZ jt va Wy Fo rD AQ Kw VN iT ny pX mW WD VC V6 nv By tC Kx tB rb BB pY AR BD ju iU oE pZ sJ AV Qb W8 Yl Ym pW p9 rg AU pV t6 oO BA AW WZ ipI rI rh rU Fq Fp Yg oU oS DW Dz Yn Yt AY AX sI DK sE Yu sM sH DJ Yh Du AZ XE rE DR AO V5 sG Ys p8 rf E4 E5 sL rj sN pf VD ph"
  let q := fun (x : List String) => x.toArray.mapM fun s => `(Lean.Parser.Tactic.simpLemma| $(Lean.mkIdent s.toName):ident)
  let d ← q (p "cxK CO L2.start J1 ZI QB y3 QD QH E3 J3 E2 QK QM QP XR DO kP J6 J8 Wa Wc QR We XU Wg Yy Wi Wk Wm XX ZL ZN QX Wo Wr QZ Qd YC YE E7 DM XZ Wt vD kR Q4 y8 wM wN jY jI wm wo xj wq vm ZQ E6 ka X3 Q6 ZS Q8 kW ZU kY ZV ZW kb vE ZY ke ZZ k7 Z0 ym Ja kg yp Jc k9 wR Zb DL mC mN rC rN uo UG Nat.reduceAdd Nat.reduceSub e8 e9 fc ff fh fj fk fm fo fq fu fv fw fz fA fD fE fF fG fH fJ fK")
  let l ← q (a ++ p "Ny SK uQ zx q9 Int.natCast_inj Xu xD iA yt AH sL0 sL1 sL2 sL3 sL4 sL5 sL6 sL7 sL8 sL9 CN Nh Nat.reduceEqDiff Jj Ky NP CP nc0 nc1 nc2 nc3 BY Bf uw U6 List.replicate uE Ub uj List.getElem?_cons_zero List.getElem?_cons_succ List.set_cons_zero List.set_cons_succ gx List.cons.injEq V.int.injEq V.str.injEq V.bl.injEq V.ref.injEq V.ty.injEq yu C7 and_true true_and eq_self and_assoc exists_eq_left exists_eq_left' exists_eq_right exists_eq exists_eq' exists_and_left exists_and_right exists_const reduceCtorEq false_and and_false GY false_or exists_false Int.reduceLT Int.reduceLE Nat.reduceLeDiff Nat.reduceLT Int.reduceEq Nat.sub_self Uy decide_true decide_false FR FQ if_true Gh Bool.not_true Bool.not_false gn")
  let m ← (a.map (· ++ ".eq_1") ++ p "mC mN vSs CC CB CS exB exI CL CJ CI CH CG exF CK CM caN meN maN exN exD CF vS0 Oj Oi Oh Og Of Od Oc Ob Ay Ax Aw Av Au As Ar Aq Ap Ao An Am Al Ak Aj").toArray.mapM fun s => `(Lean.Parser.Tactic.simpLemma| ↓ $(Lean.mkIdent s.toName):ident)
  `(tactic| ((try dsimp only [$d,*]); simp (maxSteps := 900000) only [$d,*, $l,*, $m,*, ↓reduceIte]))
local macro_rules | `(tactic| walk_at "hd") => do
 let h:=Lean.mkIdent `hN
 let n:=Lean.mkIdent `N_
 let a:=Lean.mkIdent `hT
 let b:=Lean.mkIdent `hU
 `(tactic| ((try subst $a:ident); (try subst $b:ident); (try dsimp only [VC, CB, CC]); (try refine Fy $h ?_); (try refine sD λ$n $h => ?_); try walk_at "rd"))
local macro_rules | `(tactic| walk_at "hi") => do
 let h:=Lean.mkIdent `hN
 let n:=Lean.mkIdent `N_
 let a:=Lean.mkIdent `hT
 let b:=Lean.mkIdent `hU
 `(tactic| ((try subst $a:ident); (try subst $b:ident); (try dsimp only [VC, CB, CC]); (try refine Fy $h ?_); (try refine sD λ$n $h => ?_); refine ifN λ_ _ $a $b => ?_; walk_at "rd"))
local macro_rules | `(tactic| walk_at "ln") => `(tactic| (intro vs H Q E h; repeat (first | (have h1 := And.left h; subst h1; rfl) | obtain ⟨_, h⟩ := h)))
local macro_rules | `(tactic| walk_at "b") => do
  let l := ("f cdv A outer s H vs Q E hr h".splitOn " ").toArray.map fun s => Lean.mkIdent s.toName
  `(tactic| ((· walk_at "ln"); intro $l:ident*))
section
variable {P:Program} {w:World} {K:Lf} {mg:La} {fQ:Heap} {t:iR}
theorem TY (T:Txt w K mg t)(D:Df K mg "sign_of" J0 v7):fW P w K mg fQ 1 "sign_of" v7 Zd:=by
 refine D.ok Tb ?_ ?_;walk_at "b"
 ·refine tu h λn h=>?_;refine mE h λhn k=>?_;refine⟨_,(zd (zg (V0 pb (jC T.g_SIGNS) (qv 0) (λ_ _=>(by rfl))))).h,?_⟩
  walk_at "rd";have hn':n<sg.length:=by rw [Bf];exact hn
  have e:sg[n]? = some sg[n]:=ux hn';exact⟨_,e,k _ H e (fO.refl H)⟩
theorem YU (T:Txt w K mg t)(D:Df K mg "sign_told" ZH wa)(aZ:fW P w K mg fQ 1 "sign_of" v7 Zd):fW P w K mg fQ 2 "sign_told" wa xp:=by
 refine D.ok JB ?_ ?_;walk_at "b"
 ·refine tu h λl h=>?_;refine mE h λhl k=>?_;refine⟨_,(zc (zm (QW.qt (XH (ia tR (zJ JT (by rfl) T.z_len yT (f9 (qv 0))) ze) (XH (ia VO (V0 pb (qv 0) ze (λ_ _=>(by rfl))) (jC T.g_FIGURES)) (Yw (ia VO (V0 pb (qv 0) ze (λ_ _=>(by rfl))) (jC T.g_FIGURES)))))) (zd (zg zH)) zi) (zc (ip 1 JB.nd (JY SN (by rfl) T.z_int Dy (f9 (qv 0)))) (zd (zg (xf (ia tZ (qv 1) (zJ JT (by rfl) T.z_len yT (f9 (jC T.g_SIGNS)))) (qF aZ hr (f9 (qv 1))) zH))))).h,?_⟩
  walk_at "rd";refine⟨by lia,?_⟩;by_cases hl2:l.length=2
  ·obtain⟨c,d,rfl⟩:∃ c d,l=[c,d]:=by
    match l,hl2 with
    | [c,d],_=>exact⟨c,d,rfl⟩
   walk_at "rd"
   by_cases h1:c∈fg
   ·rw [ub (by simp [h1])]
    by_cases h2:d∈fg
    ·rw [ub (by simp [h2])]
     have f1:=(Yj c).mp h1
     have f2:=(Yj d).mp h2
     refine⟨f1,f2,?_⟩
     have et:L2.told [c,d]=sg[(c - 48) * 10+(d - 48)]?:=by
      show(if kl c=true/\kl d=true then _ else _)=_
      rw [ue ⟨f1,f2⟩]
     by_cases h3:(c - 48) * 10+(d - 48)<94
     ·rw [ue (by lia)]
      refine⟨h3,λx H' e g=>?_⟩
      rw [et,e] at k
      exact k H' g
     ·rw [ub (by lia)]
      rw [et,UC.mpr (by rw [Bf];lia)] at k
      exact k H (fO.refl H)
    ·rw [ue (by simp [h2])]
     have e:L2.told [c,d]=none:=by
      show(if kl c=true/\kl d=true then _ else _)=_
      rw [ub (by rintro⟨_,z⟩;exact h2 ((Yj d).mpr z))]
     rw [e] at k
     exact k H (fO.refl H)
   ·rw [ue (by simp [h1])]
    have e:L2.told [c,d]=none:=by
     show(if kl c=true/\kl d=true then _ else _)=_
     rw [ub (by rintro⟨z,_⟩;exact h1 ((Yj c).mpr z))]
    rw [e] at k
    exact k H (fO.refl H)
  ·rw [Nu hl2] at k;rw [ue (by simp;lia)];exact k H (fO.refl H)
theorem Vi (T:Txt w K mg t)(D:Df K mg "fed_between" yZ jv):fW P w K mg fQ 1 "fed_between" jv j6:=by
 refine D.ok XO ?_ ?_;walk_at "b"
 ·refine tu h λc h=>?_;refine pM h λk=>?_;refine⟨_,(zc (zm (ia zu (qv 0) (qS [32])) (zd (zg (zh (f6 (qS e8) (zl zC))))) zi) (zc (zm (ia zu (qv 0) (qS [39])) (zd (zg (zh (f6 (qS e9) (zl (f9 (zh (f9 (qS e9))))))))) zi) (zc (zm (ia vz (qv 0) (jC T.g_WORDSIGNS)) (zd (zg (zh (f6 (qS fc) (zl (f6 (zh (f9 (qS fc))) (zh (f6 (qS ff) (qv 0))))))))) zi) (zd (zg zH))))).h,?_⟩
  walk_at "rd";unfold oh at k;by_cases h1:c=32
  ·rw [ue h1] at k ⊢;intro p hp p1 hp1;have a:=WM (G:=λa=>H a=none) (t:=jT) hp1 (iJ (H:=H) (q:=p)) hp;exact k _ _ ((za hp).trans a.1) a.2
  rw [ub h1] at k ⊢;by_cases h2:c=39
  ·rw [ue h2] at k ⊢;intro p hp p1 hp1 p2 hp2;have a:=WM (G:=λa=>H a=none) (t:=vH) hp2 (lT (e:=[Di]) hp1) (zo hp1);exact k _ _ ((za hp).trans ((za hp1).trans a.1)) a.2
  rw [ub h2] at k ⊢;by_cases h3:c∈ws
  ·rw [ue h3] at k ⊢;intro p hp p1 hp1 p2 hp2 p3 hp3
   have he:mq (upd (upd (upd H p (.tup [.str (S AD)])) p1 (.tup [.str (S wj),.str (S [c])])) p2 (.lst [.ref p,.ref p1])) p2 [[AD],[wj,[c]]]:=
    ⟨_,zb,.cons ⟨p,rfl,za hp2 _ _ (za hp1 _ _ zb)⟩ (.cons ⟨p1,rfl,za hp2 _ _ zb⟩ .nil)⟩
   have a:=WM (G:=λa=>H a=none) (t:=Qp) hp3 he (zo (zo hp2));exact k _ _ ((za hp).trans ((za hp1).trans ((za hp2).trans a.1))) a.2
  ·rw [ub h3] at k ⊢;exact k _ _ (fO.refl H) rfl
theorem zaH (T:Txt w K mg t)(D:Df K mg "fed_word" QC ve)(aK:fW P w K mg fQ 1 "fed_between" jv j6):fW P w K mg fQ 2 "fed_word" ve yF:=by
 refine D.ok zak ?_ ?_;walk_at "b"
 ·refine tu h λc h=>?_;refine pM h λk=>?_;refine⟨_,(zc (zm (ia vz (qv 0) (jC T.g_WORDSIGNS)) (zd (zg (zh (f6 (qS fc) (zl (f9 (zh (f6 (qS ff) (qv 0))))))))) zi) (zd (zg (qF aK hr (f9 (qv 0)))))).h,?_⟩
  walk_at "rd";unfold rF at k;by_cases h3:c∈ws
  ·rw [ue h3] at k ⊢;intro p hp p1 hp1 p2 hp2;have a:=WM (G:=λa=>H a=none) (t:=Qp) hp2 (lT (e:=[wj,[c]]) hp1) (zo hp1);exact k _ _ ((za hp).trans ((za hp1).trans a.1)) a.2
  ·rw [ub h3] at k ⊢;exact k
theorem zaI (T:Txt w K mg t)(D:Df K mg "fed_said" QF vf):fW P w K mg fQ 1 "fed_said" vf yG:=by
 refine D.ok zal ?_ ?_;walk_at "b"
 ·refine tu h λc h=>?_;refine pM h λk=>?_;refine⟨_,(zc (zm (ia zu (qv 0) (qS [39])) (zd (zg (zh (f6 (qS e8) (zl zC))))) zi) (zc (zm (ia zu (qv 0) (qS [92])) (zd (zg (zh (f6 (qS fh) (zl zC))))) zi) (zd (zg (zh (f6 (qS e9) (zl (f9 (zh (f6 (qS ff) (qv 0))))))))))).h,?_⟩
  walk_at "rd";unfold rG at k;by_cases h1:c=39
  ·rw [ue h1] at k ⊢;intro p hp p1 hp1;have a:=WM (G:=λa=>H a=none) (t:=jT) hp1 (iJ (H:=H) (q:=p)) hp;exact k _ _ ((za hp).trans a.1) a.2
  rw [ub h1] at k ⊢;by_cases h2:c=92
  ·rw [ue h2] at k ⊢;intro p hp p1 hp1;have a:=WM (G:=λa=>H a=none) (t:=W3) hp1 (iJ (H:=H) (q:=p)) hp;exact k _ _ ((za hp).trans a.1) a.2
  rw [ub h2] at k ⊢;intro p hp p1 hp1 p2 hp2;have a:=WM (G:=λa=>H a=none) (t:=vH) hp2 (lT (e:=[wj,[c]]) hp1) (zo hp1);exact k _ _ ((za hp).trans ((za hp1).trans a.1)) a.2
theorem Mq (T:Txt w K mg t)(D:Df K mg "feed" Ba JC)(aK:fW P w K mg fQ 1 "fed_between" jv j6)(a9:fW P w K mg fQ 2 "fed_word" ve yF)(bc:fW P w K mg fQ 1 "fed_said" vf yG):fW P w K mg fQ 3 "feed" JC Xa:=by
 refine D.ok NT ?_ ?_;walk_at "b"
 ·refine nE h λtk c h=>?_;refine pM h λk=>?_;refine⟨_,(zc (zm (ia zu (qv 0) (qS e8)) (zd (zg (qF aK hr (f9 (qv 1))))) zi) (zc (zm (ia zu (qv 0) (qS fc)) (zd (zg (qF a9 hr (f9 (qv 1))))) zi) (zc (zm (ia zu (qv 0) (qS e9)) (zd (zg (qF bc hr (f9 (qv 1))))) zi) (zc (zm (ia zu (qv 0) (qS fh)) (zd (zg (zh (f6 (qS e9) (zl (f9 (zh (f6 (qS ff) (qv 1))))))))) zi) (zd (zg zH)))))).h,?_⟩
  walk_at "rd";unfold VW at k;by_cases h1:tk=jT
  ·rw [ue h1] at k ⊢;exact k
  rw [ub h1] at k ⊢;by_cases h2:tk=Qp
  ·rw [ue h2] at k ⊢;exact k
  rw [ub h2] at k ⊢;by_cases h3:tk=vH
  ·rw [ue h3] at k ⊢;exact k
  rw [ub h3] at k ⊢;by_cases h4:tk=W3
  ·rw [ue h4] at k ⊢;intro p hp p1 hp1 p2 hp2;have a:=WM (G:=λa=>H a=none) (t:=vH) hp2 (lT (e:=[wj,[c]]) hp1) (zo hp1);exact k _ _ ((za hp).trans ((za hp1).trans a.1)) a.2
  rw [ub h4] at k ⊢;exact k _ _ (fO.refl H) rfl
theorem TX (T:Txt w K mg t)(D:Df K mg "come_to" J2 zK):fW P w K mg fQ 1 "come_to" zK zQ:=by
 refine D.ok Ta ?_ ?_;walk_at "b"
 ·refine lO h λm oa op ea es h=>?_;refine ng h λho he k=>?_;refine⟨_,(zd (zg (zh (f6 (zh (lp (qv 0) (qS []) (qv 1) (qS []))) (qv 2))))).h,?_⟩
  walk_at "rd";intro p hp p1 hp1;have a:=FW (G:=λa=>a=ea) (m:=m) (w:=[]) (t:=[]) hp hp1 ho he rfl;exact k _ _ a.1 a.2
theorem Mp (T:Txt w K mg t)(D:Df K mg "told" A9 wD)(aa:fW P w K mg fQ 1 "come_to" zK zQ):fW P w K mg fQ 2 "told" wD xq:=by
 refine D.ok NS ?_ ?_;walk_at "b"
 ·refine pK h λm oa op o h=>?_;refine mE h λho k=>?_;refine⟨_,(zc (zm (ia Qv (qv 2) zH) (zd (zg zH)) zi) (zd (zg (qF aa hr (iw (qv 0) (qv 1) (zl (f9 (zh (f6 (qS ff) (qv 2)))))))))).h,?_⟩
  walk_at "rd";cases o with
  | none=>rw [ue (show oV none=V.non from rfl)];exact k _ _ (fO.refl H) rfl
  | some c=>rw [ub (by intro z;cases z)];intro p hp p1 hp1;exact⟨op,ho.mono ((za hp).trans (za hp1)),[[wj,[c]]],lT (e:=[wj,[c]]) hp1,λv H' g a=>k v H' (((za hp).trans (za hp1)).trans g) (a.imp λx e=>by subst e;exact zo hp1)⟩
theorem zaJ (T:Txt w K mg t)(D:Df K mg "gathered" QJ ql):fW P w K mg fQ 1 "gathered" ql qx:=by
 refine D.ok zam ?_ ?_;walk_at "b"
 ·refine tq h λm wd oa op tk n h=>?_;refine ng h λho hl k=>?_;refine⟨_,(zc (zm (ia Xn (zJ JT (by rfl) T.z_len yT (f9 (qv 1))) (qv 4)) (zd (zg zH)) zi) (zd (zg (zh (f6 (zh (lp (qv 0) (qv 1) (qv 2) (qv 3))) (zl zC)))))).h,?_⟩
  walk_at "rd";refine⟨by lia,?_⟩;unfold lM at k;by_cases h:n<wd.length
  ·rw [ue h] at k;rw [ue (by lia)];exact k _ _ (fO.refl H) rfl
  ·rw [ub h] at k;rw [ub (by lia)];intro p hp p1 hp1 p2 hp2;have g:=(za (o:=.tup [.str (S m),.str (S wd),.ref oa,.str (S tk)]) hp).trans (za (o:=.lst []) hp1);exact k _ _ (g.trans (za hp2)) (Jv (za hp1 _ _ zb) (ho.mono g) iJ (zo hp1) hp2)
theorem zaK (T:Txt w K mg t)(D:Df K mg "box_shut" QL jX)(aa:fW P w K mg fQ 1 "come_to" zK zQ):fW P w K mg fQ 2 "box_shut" jX wY:=by
 refine D.ok zan ?_ ?_;walk_at "b"
 ·refine pK h λoa op ea es h=>?_;refine lC h λho he hl k=>?_;refine⟨_,(zc (zm (vZ (Qa (K:=K) (by rfl) (qv 0))) (zd (zg zH)) zi) (zd (zg (qF aa hr (iw (qS fj) (Ff EW (qv 0) EV (Er (V1 Qu ze))) (zr qE (qv 1) (zl (f9 (zh (f9 (qS [111,117,116]))))))))))).h,?_⟩
  walk_at "rd";refine⟨_,ED ho,?_⟩;unfold kK at k;by_cases h:op=[]
  ·subst h;rw [ue rfl] at k;rw [ue (show(!!(List.map tx ([]:List Tx)).isEmpty)=true from rfl)];exact k _ _ (fO.refl H) rfl
  ·rw [ub h] at k;rw [ub (by cases op with | nil=>exact absurd rfl h | cons=>simp)];obtain⟨vs,e1,e2⟩:=he;refine⟨_,ho,λp H1 g1 hp p1 hp1 p2 hp2=>?_⟩;have g2:=(za (o:=.tup [.str (S pq)]) hp1).trans (za (o:=.lst [.ref p1]) hp2);refine⟨vs,g2 _ _ (g1 _ _ e1),_,zb,by rw [e2.len];simp;lia,λp3 hp3=>?_⟩;have g3:=g2.trans (za (o:=.lst (vs++[.ref p1])) hp3);refine⟨op.dropLast,?_,es++[[pq]],⟨_,zb,(e2.mono (g1.trans g3)).app (.cons ⟨p1,rfl,za hp3 _ _ (za hp2 _ _ zb)⟩ .nil)⟩,λv H' g a=>k v H' (g1.trans (g3.trans g)) (a.imp λx e=>?_)⟩
   ·rw [Pm,map_dropLast] at hp;exact g3 _ _ hp
   ·subst e;exact qi g1 (zo (zo hp3))
theorem zaL (T:Txt w K mg t)(D:Df K mg "into_box" QN vg)(aa:fW P w K mg fQ 1 "come_to" zK zQ):fW P w K mg fQ 2 "into_box" vg yH:=by
 refine D.ok WO ?_ ?_;walk_at "b"
 ·refine pK h λoa op ea es h=>?_;refine lC h λho he hl k=>?_;refine⟨_,(zc (zm (vZ (Qa (K:=K) (by rfl) (qv 0))) (zd (zg zH)) zi) (zc (ip 2 WO.nd (xf (ia zu (ic K (qv 0) (V1 Qu ze)) (qS fk)) (qS fk) (qS fj))) (zd (zg (qF aa hr (iw (qv 2) (qv 0) (zr qE (qv 1) (zl (f9 (zh (f9 (qS [105,110])))))))))))).h,?_⟩
  walk_at "rd";refine⟨_,ED ho,?_⟩;unfold yw at k;by_cases h:op=[]
  ·subst h;rw [ue rfl] at k;rw [ue (show(!!(List.map tx ([]:List Tx)).isEmpty)=true from rfl)];exact k _ _ (fO.refl H) rfl
  ·rw [ub h] at k;rw [ub (by cases op with | nil=>exact absurd rfl h | cons=>simp)];obtain⟨vs,e1,e2⟩:=he
   obtain⟨l,hla⟩:∃ l,op.getLast? = some l:=by
    cases op with
    | nil=>exact absurd rfl h
    | cons a r=>exact⟨_,List.getLast?_eq_some_getLast (by simp)⟩
   refine⟨_,f7.of ho,V.str (S l),by rw [Z9,List.getLast?_map,hla];rfl,rfl,?_⟩;rw [hla] at k;by_cases h2:l=Jr
   ·subst h2;rw [ue rfl] at k ⊢;intro p1 hp1 p2 hp2;have g2:=(za (o:=.tup [.str (S oi)]) hp1).trans (za (o:=.lst [.ref p1]) hp2);refine⟨vs,g2 _ _ e1,_,zb,by rw [e2.len];simp;lia,λp3 hp3=>?_⟩;have g3:=g2.trans (za (o:=.lst (vs++[.ref p1])) hp3);exact⟨op,ho.mono g3,es++[[oi]],⟨_,zb,(e2.mono g3).app (.cons ⟨p1,rfl,za hp3 _ _ (za hp2 _ _ zb)⟩ .nil)⟩,λv H' g a=>k v H' (g3.trans g) (a.imp λx e=>by subst e;exact zo (zo hp3))⟩
   ·rw [ub (by intro z;exact h2 (uG z))] at k;rw [ub (by rw [V.str.injEq,yu];exact h2)];intro p1 hp1 p2 hp2;have g2:=(za (o:=.tup [.str (S oi)]) hp1).trans (za (o:=.lst [.ref p1]) hp2);refine⟨vs,g2 _ _ e1,_,zb,by rw [e2.len];simp;lia,λp3 hp3=>?_⟩;have g3:=g2.trans (za (o:=.lst (vs++[.ref p1])) hp3);exact⟨op,ho.mono g3,es++[[oi]],⟨_,zb,(e2.mono g3).app (.cons ⟨p1,rfl,za hp3 _ _ (za hp2 _ _ zb)⟩ .nil)⟩,λv H' g a=>k v H' (g3.trans g) (a.imp λx e=>by subst e;exact zo (zo hp3))⟩
theorem P8 (T:Txt w K mg t)(D:Df K mg "led_on" XQ xM)(aa:fW P w K mg fQ 1 "come_to" zK zQ)(bf:fW P w K mg fQ 2 "into_box" vg yH):fW P w K mg fQ 3 "led_on" xM vU:=by
 refine D.ok Rj ?_ ?_;walk_at "b"
 ·refine lO h λoa op c ea es h=>?_;refine lC h λho he hl k=>?_;refine⟨_,(zc (zm (ia zu (qv 1) (qS [32])) (zd (zg (qF aa hr (iw (qS [103,97,112]) (qv 0) (qv 2))))) zi) (zc (zm (ia zu (qv 1) (qS [47])) (zd (zg (qF aa hr (iw (qS [115,108,97,115,104]) (qv 0) (qv 2))))) zi) (zc (zm (ia zu (qv 1) (qS [62])) (zd (zg (qF bf hr (f6 (qv 0) (qv 2))))) zi) (zd (zg zH))))).h,?_⟩
  walk_at "rd";unfold VU at k;by_cases h1:c=32
  ·rw [ue h1] at k ⊢;exact⟨op,ho,es,he,λv H' g a=>k v H' g (a.imp λx e=>.inr e)⟩
  rw [ub h1] at k ⊢;by_cases h2:c=47
  ·rw [ue h2] at k ⊢;exact⟨op,ho,es,he,λv H' g a=>k v H' g (a.imp λx e=>.inr e)⟩
  rw [ub h2] at k ⊢;by_cases h3:c=62
  ·rw [ue h3] at k ⊢;exact⟨op,ho,es,he,hl,λv H' g a=>k v H' g (a.imp λx e=>.inl e)⟩
  rw [ub h3] at k ⊢;exact k _ _ (fO.refl H) rfl
theorem LR (T:Txt w K mg t)(D:Df K mg "fed" AJ J4)(bg:fW P w K mg fQ 3 "feed" JC Xa):fW P w K mg fQ 4 "fed" J4 X6:=by
 refine D.ok DN ?_ ?_;walk_at "b"
 ·refine pK h λoa op tk o h=>?_;refine mE h λho k=>?_;refine⟨_,(zc (ip 3 DN.nd (xf (ia Qv (qv 2) zH) zH (qF bg hr (f6 (qv 1) (qv 2))))) (zc (zm (ia Qv (qv 3) zH) (zd (zg zH)) zi) (zd (zg (zh (f6 (zh (lp (qS fm) (qS []) (qv 0) (ic K (qv 3) ze))) (ic K (qv 3) ze))))))).h,?_⟩
  walk_at "rd";cases o with
  | none=>rw [ue (show oV none=V.non from rfl)];exact k _ _ (fO.refl H) rfl
  | some c=>
   rw [ub (by intro z;cases z)];refine⟨c,rfl,λv H1 g1 a=>?_⟩;unfold nB at k;cases hf:VW tk c with
   | none=>rw [hf] at a;simp only [hf] at k;have a:v=.non:=a;subst a;rw [ue rfl];exact k _ _ g1 rfl
   | some r=>obtain⟨tk',es⟩:=r;rw [hf] at a;simp only [hf] at k;obtain⟨p,ea,rfl,hp,he,hg⟩:=a;rw [ub (by intro z;cases z)];exact⟨p,rfl,_,f7.of hp,_,rfl,λp1 hp1=>⟨p,rfl,_,f7.of (za hp1 _ _ hp),_,rfl,λp2 hp2=>k _ _ (g1.trans ((za hp1).trans (za hp2))) (Jv zb ((ho.mono g1).mono (za hp1)) (he.mono (za hp1)) hg hp2)⟩⟩
theorem Vv (T:Txt w K mg t)(D:Df K mg "mark_ended" kN jk)(aL:fW P w K mg fQ 2 "sign_told" wa xp):fW P w K mg fQ 3 "mark_ended" jk jN:=by
 refine D.ok Vq ?_ ?_;walk_at "b"
 ·refine nE h λwd c h=>?_;refine mE h λhl k=>?_;refine⟨_,(zd (zg (xf (ia zu (qv 1) (qS [59])) (qF aL hr (f9 (qv 0))) zH))).h,?_⟩
  walk_at "rd";unfold WL at k;by_cases h:c=59
  ·rw [ue h] at k ⊢;exact⟨by lia,k⟩
  ·rw [ub h] at k ⊢;exact k H (fO.refl H)
theorem TV (T:Txt w K mg t)(D:Df K mg "at_text" J5 v8)(aa:fW P w K mg fQ 1 "come_to" zK zQ)(ag:fW P w K mg fQ 2 "told" wD xq):fW P w K mg fQ 3 "at_text" v8 Ze:=by
 refine D.ok S9 ?_ ?_;walk_at "b"
 ·refine lO h λwd oa op tk c h=>?_;refine lC h λho hw hop k=>?_;refine⟨_,(zc (zm (ia zu (qv 3) (qS [60])) (zd (zg (qF aa hr (iw (qS [111,112,101,110]) (qv 1) (zl zC))))) zi) (zc (zm (ia zu (qv 3) (qS [38])) (zd (zg (qF aa hr (iw (qS [109,97,114,107]) (qv 1) (zl zC))))) zi) (zd (zg (qF ag hr (iw (qS fj) (qv 1) (qv 3))))))).h,?_⟩
  walk_at "rd";unfold KW at k;by_cases h0:c=60
  ·rw [ue h0] at k ⊢;exact λp hp=>⟨op,ho.mono (za hp),[],iJ,λv H' g a=>k v H' ((za hp).trans g) (a.imp λx e=>by subst e;exact hp)⟩
  rw [ub h0] at k ⊢;by_cases h1:c=38
  ·rw [ue h1] at k ⊢;exact λp hp=>⟨op,ho.mono (za hp),[],iJ,λv H' g a=>k v H' ((za hp).trans g) (a.imp λx e=>by subst e;exact hp)⟩
  rw [ub h1] at k ⊢;exact⟨op,some c,rfl,ho,λv H' g a=>k v H' g a⟩
theorem TU (T:Txt w K mg t)(D:Df K mg "at_mark" J7 v9)(ah:fW P w K mg fQ 1 "gathered" ql qx)(ax:fW P w K mg fQ 3 "mark_ended" jk jN)(ag:fW P w K mg fQ 2 "told" wD xq):fW P w K mg fQ 4 "at_mark" v9 Zf:=by
 refine D.ok S8 ?_ ?_;walk_at "b"
 ·refine lO h λwd oa op tk c h=>?_;refine lC h λho hw hop k=>?_;refine⟨_,(zc (zm (ia vz (qv 3) (jC T.g_FIGURES)) (zd (zg (qF ah hr (mD (qS [109,97,114,107]) (zr jE (qv 0) (qv 3)) (qv 1) (qS []) (jC T.g_MARK_FIGURES))))) zi) (zd (zg (qF ag hr (iw (qS fj) (qv 1) (qF ax hr (f6 (qv 0) (qv 3)))))))).h,?_⟩
  walk_at "rd";unfold KY at k;by_cases h0:c∈fg
  ·rw [ue h0] at k ⊢;exact⟨by lia,op,2,rfl,ho,by rw [uc];simp;lia,λv H' g a=>k v H' g a⟩
  rw [ub h0] at k ⊢;exact⟨by lia,λH1 g1=>⟨op,WL wd c,rfl,ho.mono g1,λv H' g a=>k v H' (g1.trans g) (a.imp λx e=>qi g1 e)⟩⟩
theorem TR (T:Txt w K mg t)(D:Df K mg "at_open" J9 ya)(aa:fW P w K mg fQ 1 "come_to" zK zQ)(ah:fW P w K mg fQ 1 "gathered" ql qx):fW P w K mg fQ 2 "at_open" ya Zg:=by
 refine D.ok TM ?_ ?_;walk_at "b"
 ·refine lO h λwd oa op tk c h=>?_;refine lC h λho hw hop k=>?_;refine⟨_,(zc (zm (ia zu (qv 3) (qS [47])) (zd (zg (qF aa hr (iw (qS [115,104,117,116]) (qv 1) (zl zC))))) zi) (zc (zm (ia vz (qv 3) (jC T.g_LETTERS)) (zd (zg (qF ah hr (mD (qS [110,97,109,101]) (qv 3) (qv 1) (qS []) (jC T.g_LONGEST_NAME))))) zi) (zd (zg zH)))).h,?_⟩
  walk_at "rd";unfold KZ at k;by_cases h0:c=47
  ·rw [ue h0] at k ⊢;exact λp hp=>⟨op,ho.mono (za hp),[],iJ,λv H' g a=>k v H' ((za hp).trans g) (a.imp λx e=>by subst e;exact hp)⟩
  rw [ub h0] at k ⊢;by_cases h1:c∈lt
  ·rw [ue h1] at k ⊢;exact⟨op,8,rfl,ho,λv H' g a=>k v H' g a⟩
  rw [ub h1] at k ⊢;exact k _ _ (fO.refl H) rfl
theorem TQ (T:Txt w K mg t)(D:Df K mg "at_name" Wb yb)(ah:fW P w K mg fQ 1 "gathered" ql qx)(ay:fW P w K mg fQ 3 "led_on" xM vU):fW P w K mg fQ 4 "at_name" yb Zh:=by
 refine D.ok TL ?_ ?_;walk_at "b"
 ·refine lO h λwd oa op tk c h=>?_;refine lC h λho hw hop k=>?_;refine⟨_,(zc (zm (ia vz (qv 3) (jC T.g_LETTERS)) (zd (zg (qF ah hr (mD (qS [110,97,109,101]) (zr jE (qv 0) (qv 3)) (qv 1) (qS []) (jC T.g_LONGEST_NAME))))) zi) (zd (zg (qF ay hr (iw (zr EX (qv 1) (zh (f9 (qv 0)))) (qv 3) (zl (f9 (zh (f6 (qS [98,111,120]) (qv 0)))))))))).h,?_⟩
  walk_at "rd";unfold aName at k;by_cases h0:c∈lt
  ·rw [ue h0] at k ⊢;exact⟨by lia,op,8,rfl,ho,by rw [uc];simp;lia,λv H' g a=>k v H' g a⟩
  rw [ub h0] at k ⊢;intro p hp;refine⟨_,za hp _ _ ho,_,zb,by simp;lia,λp1 H1 g1 hp1 p2 hp2 p3 hp3=>?_⟩;have g0:=(za (o:=.tup [.str (S wd)]) hp).trans g1;have g2:=(za (o:=.tup [.str (S nF),.str (S wd)]) hp2).trans (za (o:=.lst [.ref p2]) hp3);have ho2:mh H1 p1 (op++[wd]):=by unfold mh;rw [hp1,UE];rfl
  exact⟨op++[wd],ho2.mono g2,[[nF,wd]],lT (e:=[nF,wd]) hp3,by simp,λv H' g a=>k v H' (g0.trans (g2.trans g)) (a.imp λx e=>e.elim (λe=>qi g0 (zo (zo e))) λe=>by subst e;exact qi g0 (zo hp3))⟩
theorem zaM (T:Txt w K mg t)(D:Df K mg "at_slash" QQ vh)(az:fW P w K mg fQ 2 "box_shut" jX wY):fW P w K mg fQ 3 "at_slash" vh yI:=by
 refine D.ok zao ?_ ?_;walk_at "b"
 ·refine lO h λwd oa op tk c h=>?_;refine lC h λho hw hop k=>?_;refine⟨_,(zc (zm (ia zu (qv 3) (qS [62])) (zd (zg (qF az hr (f6 (qv 1) (zl (f9 (zh (f9 (qS [105,110]))))))))) zi) (zd (zg zH))).h,?_⟩
  walk_at "rd";unfold XB at k;by_cases h0:c=62
  ·rw [ue h0] at k ⊢;exact λp hp p1 hp1=>⟨op,ho.mono ((za hp).trans (za hp1)),[[oi]],lT (e:=[oi]) hp1,by simp,λv H' g a=>k v H' (((za hp).trans (za hp1)).trans g) (a.imp λx e=>zo (zo e))⟩
  rw [ub h0] at k ⊢;exact k _ _ (fO.refl H) rfl
theorem TN (T:Txt w K mg t)(D:Df K mg "at_shut" Wd yc)(ah:fW P w K mg fQ 1 "gathered" ql qx)(az:fW P w K mg fQ 2 "box_shut" jX wY):fW P w K mg fQ 3 "at_shut" yc Zi:=by
 refine D.ok TK ?_ ?_;walk_at "b"
 ·refine lO h λwd oa op tk c h=>?_;refine lC h λho hw hop k=>?_;refine⟨_,(zc (zm (ia vz (qv 3) (jC T.g_LETTERS)) (zd (zg (qF ah hr (mD (qS [115,104,117,116]) (zr jE (qv 0) (qv 3)) (qv 1) (qS []) (jC T.g_LONGEST_NAME))))) zi) (zc (zm (QW.qt (xK (ia zu (qv 3) (qS [62])) (wC (ia (Ni (K:=K) (by rfl) (FX hr)) (Ff EW (qv 1) (Er (V1 Qu ze)) EV) (zh (f9 (qv 0))))))) (zd (zg (qF az hr (f6 (qv 1) (zl zC))))) zi) (zd (zg zH)))).h,?_⟩
  walk_at "rd";unfold Js at k;by_cases h0:c∈lt
  ·rw [ue h0] at k ⊢;exact⟨by lia,op,8,rfl,ho,by rw [uc];simp;lia,λv H' g a=>k v H' g a⟩
  rw [ub h0] at k ⊢;by_cases h1:c=62
  ·rw [ue h1];refine⟨_,ho,λp H1 g1 hp p1 hp1=>⟨_,_,.inr ⟨f7.of (za hp1 _ _ hp),f7.of zb⟩,by rw [K7];exact Rx (Pl op),rfl,?_⟩⟩;rw [K7,Nf];have g2:=g1.trans (za (o:=.tup [.str (S wd)]) hp1);by_cases h2:op.getLast? = some wd
   ·rw [ue (Uv h2)];rw [ue ⟨h1,h2⟩] at k;exact λp2 hp2=>⟨op,(ho.mono g2).mono (za hp2),[],iJ,by simp,λv H' g a=>k v H' (g2.trans ((za hp2).trans g)) (a.imp λx e=>qi g2 (zo e))⟩
   ·rw [ub (by simp [h2])];rw [ub (by rintro⟨_,z⟩;exact h2 z)] at k;exact k _ _ g2 rfl
  ·rw [ub h1];rw [ub (by rintro⟨z,_⟩;exact h1 z)] at k;exact k _ _ (fO.refl H) rfl
theorem P7 (T:Txt w K mg t)(D:Df K mg "at_gap" XT kn)(ah:fW P w K mg fQ 1 "gathered" ql qx):fW P w K mg fQ 2 "at_gap" kn Qe:=by
 refine D.ok Ri ?_ ?_;walk_at "b"
 ·refine lO h λwd oa op tk c h=>?_;refine lC h λho hw hop k=>?_;refine⟨_,(zc (zm (ia vz (qv 3) (jC T.g_LETTERS)) (zd (zg (qF ah hr (mD (qS fo) (qv 3) (qv 1) (qS []) (jC T.g_LONGEST_NAME))))) zi) (zd (zg zH))).h,?_⟩
  walk_at "rd";unfold oq at k;by_cases h0:c∈lt
  ·rw [ue h0] at k ⊢;exact⟨op,8,rfl,ho,λv H' g a=>k v H' g a⟩
  rw [ub h0] at k ⊢;exact k _ _ (fO.refl H) rfl
theorem S7 (T:Txt w K mg t)(D:Df K mg "at_attr" Wf yd)(ah:fW P w K mg fQ 1 "gathered" ql qx)(aa:fW P w K mg fQ 1 "come_to" zK zQ):fW P w K mg fQ 2 "at_attr" yd Zj:=by
 refine D.ok TJ ?_ ?_;walk_at "b"
 ·refine lO h λwd oa op tk c h=>?_;refine lC h λho hw hop k=>?_;refine⟨_,(zc (zm (ia vz (qv 3) (jC T.g_LETTERS)) (zd (zg (qF ah hr (mD (qS fo) (zr jE (qv 0) (qv 3)) (qv 1) (qS []) (jC T.g_LONGEST_NAME))))) zi) (zc (zm (ia zu (qv 3) (qS [58])) (zd (zg (qF aa hr (iw (qS fq) (qv 1) (zl (f9 (zh (iw (qS fo) (qv 0) (qS fq))))))))) zi) (zc (zm (ia zu (qv 3) (qS [40])) (zd (zg (qF aa hr (iw (qS fu) (qv 1) (zl (f9 (zh (iw (qS fo) (qv 0) (qS fu))))))))) zi) (zc (zm (ia zu (qv 3) (qS [61])) (zd (zg (zh (f6 (zh (lp (qS [105,115]) (qv 0) (qv 1) (qS []))) (zl zC))))) zi) (zc (zm (ia zu (qv 3) (qS [33])) (zd (zg (zh (f6 (zh (lp (qS [98,97,110,103]) (qv 0) (qv 1) (qS []))) (zl zC))))) zi) (zd (zg zH))))))).h,?_⟩
  walk_at "rd";unfold K0 at k;by_cases h0:c∈lt
  ·rw [ue h0] at k ⊢;exact⟨by lia,op,8,rfl,ho,by rw [uc];simp;lia,λv H' g a=>k v H' g a⟩
  rw [ub h0] at k ⊢;by_cases h1:c=58
  ·rw [ue h1] at k ⊢;exact λp hp p1 hp1=>⟨op,ho.mono ((za hp).trans (za hp1)),[[ZG,wd,vX]],lT (e:=[ZG,wd,vX]) hp1,λv H' g a=>k v H' (((za hp).trans (za hp1)).trans g) (a.imp λx e=>by subst e;exact zo hp1)⟩
  rw [ub h1] at k ⊢;by_cases h2:c=40
  ·rw [ue h2] at k ⊢;exact λp hp p1 hp1=>⟨op,ho.mono ((za hp).trans (za hp1)),[[ZG,wd,lq]],lT (e:=[ZG,wd,lq]) hp1,λv H' g a=>k v H' (((za hp).trans (za hp1)).trans g) (a.imp λx e=>by subst e;exact zo hp1)⟩
  rw [ub h2] at k ⊢;by_cases h3:c=61
  ·rw [ue h3] at k ⊢;exact λp hp p1 hp1 p2 hp2=>k _ _ ((za hp).trans ((za hp1).trans (za hp2))) (Jv (za hp1 _ _ zb) ((ho.mono (za hp)).mono (za hp1)) iJ (zo hp1) hp2)
  rw [ub h3] at k ⊢;by_cases h4:c=33
  ·rw [ue h4] at k ⊢;exact λp hp p1 hp1 p2 hp2=>k _ _ ((za hp).trans ((za hp1).trans (za hp2))) (Jv (za hp1 _ _ zb) ((ho.mono (za hp)).mono (za hp1)) iJ (zo hp1) hp2)
  rw [ub h4] at k ⊢;exact k _ _ (fO.refl H) rfl
theorem Ot (T:Txt w K mg t)(D:Df K mg "at_is" Yx ZJ)(aa:fW P w K mg fQ 1 "come_to" zK zQ):fW P w K mg fQ 2 "at_is" ZJ JF:=by
 refine D.ok P2 ?_ ?_;walk_at "b"
 ·refine lO h λwd oa op tk c h=>?_;refine lC h λho hw hop k=>?_;refine⟨_,(zc (zm (ia zu (qv 3) (qS [34])) (zd (zg (qF aa hr (iw (qS fv) (qv 1) (zl (f9 (zh (iw (qS fo) (qv 0) (qS fv))))))))) zi) (zd (zg zH))).h,?_⟩
  walk_at "rd";unfold tE at k;by_cases h0:c=34
  ·rw [ue h0] at k ⊢;exact λp hp p1 hp1=>⟨op,ho.mono ((za hp).trans (za hp1)),[[ZG,wd,jF]],lT (e:=[ZG,wd,jF]) hp1,λv H' g a=>k v H' (((za hp).trans (za hp1)).trans g) (a.imp λx e=>by subst e;exact zo hp1)⟩
  rw [ub h0] at k ⊢;exact k _ _ (fO.refl H) rfl
theorem S6 (T:Txt w K mg t)(D:Df K mg "at_bang" Wh ye):fW P w K mg fQ 1 "at_bang" ye Zk:=by
 refine D.ok TH ?_ ?_;walk_at "b"
 ·refine lO h λwd oa op tk c h=>?_;refine lC h λho hw hop k=>?_;refine⟨_,(zc (zm (ia zu (qv 3) (qS [34])) (zd (zg (zh (f6 (zh (lp (qS fm) (qS []) (qv 1) (qS e8))) (zl (f9 (zh (iw (qS fo) (qv 0) (qS fm))))))))) zi) (zd (zg zH))).h,?_⟩
  walk_at "rd";unfold K1 at k;by_cases h0:c=34
  ·rw [ue h0] at k ⊢;exact λp hp p1 hp1 p2 hp2 p3 hp3=>k _ _ ((za hp).trans ((za hp1).trans ((za hp2).trans (za hp3)))) (Jv (za hp2 _ _ (za hp1 _ _ zb)) (((ho.mono (za hp)).mono (za hp1)).mono (za hp2)) (lT (e:=[ZG,wd,Zu]) hp2) (zo (zo hp2)) hp3)
  rw [ub h0] at k ⊢;exact k _ _ (fO.refl H) rfl
theorem S5 (T:Txt w K mg t)(D:Df K mg "at_bare" Wj yf)(ag:fW P w K mg fQ 2 "told" wD xq)(aa:fW P w K mg fQ 1 "come_to" zK zQ)(ay:fW P w K mg fQ 3 "led_on" xM vU):fW P w K mg fQ 4 "at_bare" yf Zl:=by
 refine D.ok TF ?_ ?_;walk_at "b"
 ·refine lO h λwd oa op tk c h=>?_;refine lC h λho hw hop k=>?_;refine⟨_,(zc (zm (ia vz (qv 3) (jC T.g_WORDSIGNS)) (zd (zg (qF ag hr (iw (qS fq) (qv 1) (qv 3))))) zi) (zc (zm (ia zu (qv 3) (qS [126])) (zd (zg (qF aa hr (iw (qS [99,111,100,101]) (qv 1) (zl zC))))) zi) (zd (zg (qF ay hr (iw (qv 1) (qv 3) (zl zC))))))).h,?_⟩
  walk_at "rd";unfold K2 at k;by_cases h0:c∈ws
  ·rw [ue h0] at k ⊢;exact⟨op,some c,rfl,ho,λv H' g a=>k v H' g a⟩
  rw [ub h0] at k ⊢;by_cases h1:c=126
  ·rw [ue h1] at k ⊢;exact λp hp=>⟨op,ho.mono (za hp),[],iJ,λv H' g a=>k v H' ((za hp).trans g) (a.imp λx e=>by subst e;exact hp)⟩
  rw [ub h1] at k ⊢;exact λp hp=>⟨op,ho.mono (za hp),[],iJ,by simp,λv H' g a=>k v H' ((za hp).trans g) (a.imp λx e=>e.elim zo λe=>by subst e;exact hp)⟩
theorem S4 (T:Txt w K mg t)(D:Df K mg "at_code" Wl yg)(ag:fW P w K mg fQ 2 "told" wD xq)(aL:fW P w K mg fQ 2 "sign_told" wa xp):fW P w K mg fQ 3 "at_code" yg Zm:=by
 refine D.ok TC ?_ ?_;walk_at "b"
 ·refine lO h λwd oa op tk c h=>?_;refine lC h λho hw hop k=>?_;refine⟨_,(zc (zm (ia zu (qv 0) (qS [])) (zd (zg (xf (ia vz (qv 3) (jC T.g_FIGURES)) (zh (f6 (zh (lp (qS [99,111,100,101]) (qv 3) (qv 1) (qS []))) (zl zC))) zH))) zi) (zd (zg (qF ag hr (iw (qS fq) (qv 1) (qF aL hr (f9 (zr jE (qv 0) (qv 3))))))))).h,?_⟩
  walk_at "rd";unfold K3 at k;by_cases h0:wd=[]
  ·rw [ue h0] at k ⊢;by_cases h5:c∈fg
   ·rw [ue h5] at k ⊢;exact λp hp p1 hp1 p2 hp2=>k _ _ ((za hp).trans ((za hp1).trans (za hp2))) (Jv (za hp1 _ _ zb) ((ho.mono (za hp)).mono (za hp1)) iJ (zo hp1) hp2)
   ·rw [ub h5] at k ⊢;exact k _ _ (fO.refl H) rfl
  rw [ub h0] at k ⊢;exact⟨by lia,by rw [uc];simp;lia,λH1 g1=>⟨op,L2.told (wd++[c]),rfl,ho.mono g1,λv H' g a=>k v H' (g1.trans g) (a.imp λx e=>qi g1 e)⟩⟩
theorem P6 (T:Txt w K mg t)(D:Df K mg "at_row" XW ko)(aa:fW P w K mg fQ 1 "come_to" zK zQ)(ag:fW P w K mg fQ 2 "told" wD xq):fW P w K mg fQ 3 "at_row" ko Qf:=by
 refine D.ok Rh ?_ ?_;walk_at "b"
 ·refine lO h λwd oa op tk c h=>?_;refine lC h λho hw hop k=>?_;refine⟨_,(zc (zm (ia zu (qv 3) (qS [92])) (zd (zg (qF aa hr (iw (qS fh) (qv 1) (zl zC))))) zi) (zc (zm (ia zu (qv 3) (qS [44])) (zd (zg (qF aa hr (iw (qS fu) (qv 1) (zl (f9 (zh (f9 (qS [110,101,120,116]))))))))) zi) (zc (zm (ia zu (qv 3) (qS [41])) (zd (zg (qF aa hr (iw (qS fw) (qv 1) (zl zC))))) zi) (zd (zg (qF ag hr (iw (qS fu) (qv 1) (qv 3)))))))).h,?_⟩
  walk_at "rd";unfold oo at k;by_cases h0:c=92
  ·rw [ue h0] at k ⊢;exact λp hp=>⟨op,ho.mono (za hp),[],iJ,λv H' g a=>k v H' ((za hp).trans g) (a.imp λx e=>by subst e;exact hp)⟩
  rw [ub h0] at k ⊢;by_cases h1:c=44
  ·rw [ue h1] at k ⊢;exact λp hp p1 hp1=>⟨op,ho.mono ((za hp).trans (za hp1)),[[AE]],lT (e:=[AE]) hp1,λv H' g a=>k v H' (((za hp).trans (za hp1)).trans g) (a.imp λx e=>by subst e;exact zo hp1)⟩
  rw [ub h1] at k ⊢;by_cases h2:c=41
  ·rw [ue h2] at k ⊢;exact λp hp=>⟨op,ho.mono (za hp),[],iJ,λv H' g a=>k v H' ((za hp).trans g) (a.imp λx e=>by subst e;exact hp)⟩
  rw [ub h2] at k ⊢;exact⟨op,some c,rfl,ho,λv H' g a=>k v H' g a⟩
theorem YV (T:Txt w K mg t)(D:Df K mg "at_stroke" ZK xh)(ag:fW P w K mg fQ 2 "told" wD xq):fW P w K mg fQ 3 "at_stroke" xh vJ:=by
 refine D.ok Yz ?_ ?_;walk_at "b"
 ·refine lO h λwd oa op tk c h=>?_;refine lC h λho hw hop k=>?_;refine⟨_,(zd (zg (qF ag hr (iw (qS fu) (qv 1) (qv 3))))).h,?_⟩
  walk_at "rd";unfold Jt at k;exact⟨op,some c,rfl,ho,λv H' g a=>k v H' g a⟩
theorem YW (T:Txt w K mg t)(D:Df K mg "at_quoted" ZM xi)(aa:fW P w K mg fQ 1 "come_to" zK zQ)(ag:fW P w K mg fQ 2 "told" wD xq):fW P w K mg fQ 3 "at_quoted" xi vK:=by
 refine D.ok YA ?_ ?_;walk_at "b"
 ·refine lO h λwd oa op tk c h=>?_;refine lC h λho hw hop k=>?_;refine⟨_,(zc (zm (ia zu (qv 3) (qS [34])) (zd (zg (qF aa hr (iw (qS fw) (qv 1) (zl zC))))) zi) (zc (zm (ia zu (qv 3) (qS [38])) (zd (zg (qF aa hr (iw (qS [113,109,97,114,107]) (qv 1) (zl zC))))) zi) (zd (zg (qF ag hr (iw (qS fv) (qv 1) (qv 3))))))).h,?_⟩
  walk_at "rd";unfold Ju at k;by_cases h0:c=34
  ·rw [ue h0] at k ⊢;exact λp hp=>⟨op,ho.mono (za hp),[],iJ,λv H' g a=>k v H' ((za hp).trans g) (a.imp λx e=>by subst e;exact hp)⟩
  rw [ub h0] at k ⊢;by_cases h1:c=38
  ·rw [ue h1] at k ⊢;exact λp hp=>⟨op,ho.mono (za hp),[],iJ,λv H' g a=>k v H' ((za hp).trans g) (a.imp λx e=>by subst e;exact hp)⟩
  rw [ub h1] at k ⊢;exact⟨op,some c,rfl,ho,λv H' g a=>k v H' g a⟩
theorem zaN (T:Txt w K mg t)(D:Df K mg "at_qmark" QU vi)(ah:fW P w K mg fQ 1 "gathered" ql qx)(ax:fW P w K mg fQ 3 "mark_ended" jk jN)(ag:fW P w K mg fQ 2 "told" wD xq):fW P w K mg fQ 4 "at_qmark" vi yJ:=by
 refine D.ok T9 ?_ ?_;walk_at "b"
 ·refine lO h λwd oa op tk c h=>?_;refine lC h λho hw hop k=>?_;refine⟨_,(zc (zm (ia vz (qv 3) (jC T.g_FIGURES)) (zd (zg (qF ah hr (mD (qS [113,109,97,114,107]) (zr jE (qv 0) (qv 3)) (qv 1) (qS []) (jC T.g_MARK_FIGURES))))) zi) (zd (zg (qF ag hr (iw (qS fv) (qv 1) (qF ax hr (f6 (qv 0) (qv 3)))))))).h,?_⟩
  walk_at "rd";unfold XC at k;by_cases h0:c∈fg
  ·rw [ue h0] at k ⊢;exact⟨by lia,op,2,rfl,ho,by rw [uc];simp;lia,λv H' g a=>k v H' g a⟩
  rw [ub h0] at k ⊢;exact⟨by lia,λH1 g1=>⟨op,WL wd c,rfl,ho.mono g1,λv H' g a=>k v H' (g1.trans g) (a.imp λx e=>qi g1 e)⟩⟩
theorem S2 (T:Txt w K mg t)(D:Df K mg "at_done" Wn yh)(ay:fW P w K mg fQ 3 "led_on" xM vU):fW P w K mg fQ 4 "at_done" yh Zn:=by
 refine D.ok TB ?_ ?_;walk_at "b"
 ·refine lO h λwd oa op tk c h=>?_;refine lC h λho hw hop k=>?_;refine⟨_,(zd (zg (qF ay hr (iw (qv 1) (qv 3) (zl zC))))).h,?_⟩
  walk_at "rd";unfold K4 at k;exact λp hp=>⟨op,ho.mono (za hp),[],iJ,by simp,λv H' g a=>k v H' ((za hp).trans g) (a.imp λx e=>e.elim zo λe=>by subst e;exact hp)⟩
theorem S1 (T:Txt w K mg t)(D:Df K mg "at_talk" Wq yi)(aa:fW P w K mg fQ 1 "come_to" zK zQ)(aM:fW P w K mg fQ 4 "fed" J4 X6):fW P w K mg fQ 5 "at_talk" yi Zo:=by
 refine D.ok Tz ?_ ?_;walk_at "b"
 ·refine lO h λwd oa op tk c h=>?_;refine lC h λho hw hop k=>?_;refine⟨_,(zc (zm (ia zu (qv 3) (qS [38])) (zd (zg (zh (f6 (zh (lp (qS [116,109,97,114,107]) (qS []) (qv 1) (qv 2))) (zl zC))))) zi) (zc (zm (ia zu (qv 3) (qS [34])) (zd (zg (xf (ia (EE (K:=K) (by rfl)) (qv 2) (zh (f6 (qS e8) (qS fc)))) (qF aa hr (iw (qS fw) (qv 1) (zl zC))) zH))) zi) (zd (zg (qF aM hr (iw (qv 1) (qv 2) (qv 3))))))).h,?_⟩
  walk_at "rd";unfold K5 at k;by_cases h0:c=38
  ·rw [ue h0] at k ⊢;exact λp hp p1 hp1 p2 hp2=>k _ _ ((za hp).trans ((za hp1).trans (za hp2))) (Jv (za hp1 _ _ zb) ((ho.mono (za hp)).mono (za hp1)) iJ (zo hp1) hp2)
  rw [ub h0] at k ⊢;by_cases h1:c=34
  ·rw [ue h1] at k ⊢;intro p hp;refine⟨_,.inr (f7.of zb),rfl,rfl,?_⟩;have e:=EC tk [jT,Qp];rw [show([jT,Qp].map λx=>V.str (S x))=[V.str (S [98,101,116,119,101,101,110]),V.str (S [119,111,114,100])] from rfl] at e;rw [e];have g0:=za (o:=.tup [V.str (S [98,101,116,119,101,101,110]),V.str (S [119,111,114,100])]) hp;by_cases h5:tk=jT\/tk=Qp
   ·rw [ue h5] at k;rw [ue (by simpa using h5)];exact λp1 hp1=>⟨op,(ho.mono g0).mono (za hp1),[],iJ,λv H' g a=>k v H' (g0.trans ((za hp1).trans g)) (a.imp λx e=>by subst e;exact zo hp1)⟩
   ·rw [ub h5] at k;rw [ub (by simpa using h5)];exact k _ _ g0 rfl
  rw [ub h1] at k ⊢;exact⟨op,some c,rfl,ho,λv H' g a=>k v H' g a⟩
theorem zaO (T:Txt w K mg t)(D:Df K mg "at_tmark" QY vj)(ah:fW P w K mg fQ 1 "gathered" ql qx)(ax:fW P w K mg fQ 3 "mark_ended" jk jN)(aM:fW P w K mg fQ 4 "fed" J4 X6):fW P w K mg fQ 5 "at_tmark" vj yK:=by
 refine D.ok T8 ?_ ?_;walk_at "b"
 ·refine lO h λwd oa op tk c h=>?_;refine lC h λho hw hop k=>?_;refine⟨_,(zc (zm (ia vz (qv 3) (jC T.g_FIGURES)) (zd (zg (qF ah hr (mD (qS [116,109,97,114,107]) (zr jE (qv 0) (qv 3)) (qv 1) (qv 2) (jC T.g_MARK_FIGURES))))) zi) (zd (zg (qF aM hr (iw (qv 1) (qv 2) (qF ax hr (f6 (qv 0) (qv 3)))))))).h,?_⟩
  walk_at "rd";unfold XD at k;by_cases h0:c∈fg
  ·rw [ue h0] at k ⊢;exact⟨by lia,op,2,rfl,ho,by rw [uc];simp;lia,λv H' g a=>k v H' g a⟩
  rw [ub h0] at k ⊢;exact⟨by lia,λH1 g1=>⟨op,WL wd c,rfl,ho.mono g1,λv H' g a=>k v H' (g1.trans g) (a.imp λx e=>qi g1 e)⟩⟩
theorem SY (T:Txt w K mg t)(D:Df K mg "at_asis" Qc yj)(az:fW P w K mg fQ 2 "box_shut" jX wY)(aa:fW P w K mg fQ 1 "come_to" zK zQ):fW P w K mg fQ 3 "at_asis" yj Zp:=by
 refine D.ok Q0 ?_ ?_;walk_at "b"
 ·refine lO h λwd oa op tk c h=>?_;refine lC h λho hw hop k=>?_;refine⟨_,(zc (ip 4 Q0.nd (zr jE (qv 0) (qv 3))) (zc (zm (ia zu (qv 4) (jC T.g_ASIS_END)) (zd (zg (qF az hr (f6 (qv 1) (zl zC))))) zi) (zc (zm (jV (yX (K:=K) (by rfl) PySem.F.plainAttrs_str PySem.F.slot_str_startswith PySem.F.type_str_startswith XG (jC T.g_ASIS_END) (f9 (qv 4)))) (zd (zg (zh (f6 (zh (lp (qS fk) (qv 4) (qv 1) (qS []))) (zl zC))))) zi) (zc ⟨RU (i:=5) Q0.nd rfl (Or.inl rfl) (lcs (N:=Qd) (sc:=zf Qc) rfl rfl rfl (by decide +kernel)) (L7 (qv 0)).h (λ_ _ _ _ _=>NZ.h) (λ_ _ _ _ _=>(zh (f6 (qS ff) (qv 0))).h)⟩ (zc (zm (ia zu (qv 3) (qS [60])) (zd (zg (zh (f6 (zh (lp (qS fk) (qv 3) (qv 1) (qS []))) (qv 5))))) zi) (zd (zg (qF aa hr (iw (qS fk) (qv 1) (zr qE (qv 5) (zl (f9 (zh (f6 (qS ff) (qv 3))))))))))))))).h,?_⟩
  walk_at "rd";unfold K6 at k;refine⟨by lia,?_⟩;by_cases h1:wd++[c]=kJ
  ·rw [ue h1] at k ⊢;exact λp hp=>⟨op,ho.mono (za hp),[],iJ,by simp,λv H' g a=>k v H' ((za hp).trans g) (a.imp λx e=>zo e)⟩
  rw [ub h1] at k ⊢;by_cases h2:(wd++[c]).isPrefixOf kJ=true
  ·rw [ue h2] at k ⊢;exact λp hp p1 hp1 p2 hp2=>k _ _ ((za hp).trans ((za hp1).trans (za hp2))) (Jv (za hp1 _ _ zb) ((ho.mono (za hp)).mono (za hp1)) iJ (zo hp1) hp2)
  rw [ub h2] at k ⊢;refine N5 (λc v H=>nU H v [wj,[c]]) (λc v H1 H2 h g=>h.mono g) (λc v H1 D xs ys h hD=>?_) (by rw [uQ];lia) (λc _ H1 g R r=>?_) (λD H2 ys hD g2 hy hG hD2=>?_)
  ·obtain⟨a,e1,e2⟩:=h;exact⟨a,e1,by rw [zk (Ku e2 hD (by intro z;cases z))];exact e2⟩
  ·walk_at "rd";exact λp hp=>r _ _ (za hp) ⟨p,rfl,zb⟩
  have he:l9 H2 ys (wd.map λk=>[wj,[k]]):=DI hy hG;have hel:mq H2 D (wd.map λk=>[wj,[k]]):=⟨ys,hD2,he⟩
  by_cases h3:c=60
  ·rw [ue h3] at k ⊢;exact λp hp p1 hp1=>k _ _ (g2.trans ((za hp).trans (za hp1))) (Jv zb ((ho.mono g2).mono (za hp)) (hel.mono (za hp)) hD hp1)
  rw [ub h3] at k ⊢;intro p hp p1 hp1;have g3:=(za (o:=.tup [.str (S wj),.str (S [c])]) hp).trans (za (o:=.lst [.ref p]) hp1);refine⟨D,rfl,ys,g3 _ _ hD2,_,zb,by rw [hy];simp;lia,λp2 hp2=>?_⟩;have g4:=g3.trans (za (o:=.lst (ys++[.ref p])) hp2);exact⟨op,(ho.mono g2).mono g4,_,⟨_,zb,(he.mono g4).app (.cons ⟨p,rfl,za hp2 _ _ (za hp1 _ _ zb)⟩ .nil)⟩,λv H' g a=>k v H' (g2.trans (g4.trans g)) (a.imp λx e=>by subst e;exact qi g2 (zo (zo hp2)))⟩
theorem Oq (T:Txt w K mg t)(D:Df K mg "moved" YB ZO)(bh:fW P w K mg fQ 3 "at_text" v8 Ze)(bj:fW P w K mg fQ 4 "at_mark" v9 Zf)(bo:fW P w K mg fQ 2 "at_open" ya Zg)(bp:fW P w K mg fQ 4 "at_name" yb Zh)(bq:fW P w K mg fQ 3 "at_slash" vh yI)(br:fW P w K mg fQ 3 "at_shut" yc Zi)(bu:fW P w K mg fQ 2 "at_gap" kn Qe)(bw:fW P w K mg fQ 2 "at_attr" yd Zj)(bx:fW P w K mg fQ 2 "at_is" ZJ JF)(bA:fW P w K mg fQ 1 "at_bang" ye Zk)(bB:fW P w K mg fQ 4 "at_bare" yf Zl)(bC:fW P w K mg fQ 3 "at_code" yg Zm)(bD:fW P w K mg fQ 3 "at_row" ko Qf)(bE:fW P w K mg fQ 3 "at_stroke" xh vJ)(bF:fW P w K mg fQ 3 "at_quoted" xi vK)(bG:fW P w K mg fQ 4 "at_qmark" vi yJ)(bH:fW P w K mg fQ 4 "at_done" yh Zn)(bI:fW P w K mg fQ 5 "at_talk" yi Zo)(bJ:fW P w K mg fQ 5 "at_tmark" vj yK)(bK:fW P w K mg fQ 3 "at_asis" yj Zp):fW P w K mg fQ 6 "moved" ZO Z2:=by
 refine D.ok Fc ?_ ?_;walk_at "b"
 ·refine nN h λx st c h=>?_;refine lC h λhst hw hop k=>?_;refine⟨_,(zc (ip 2 Fc.nd (N2 T.d_MODES (ic K (qv 0) ze))) (zd (zg (xf (ia Qv (qv 2) zH) zH (PM (k:=5) (qv 2) hr (by decide) (lp (ic K (qv 0) ze) (ic K (qv 0) ze) (ic K (qv 0) ze) (qv 1))))))).h,?_⟩
  walk_at "rd";obtain⟨p,o,rfl,hp,ho⟩:=hst
  have hF:∀ e∈nV t,C4 P w K mg fQ 5 e.2.2 (lZ e.2.1):=by
   intro e he;simp only [nV,uq,GP,GY] at he;rcases he with rfl | rfl | rfl | rfl | rfl | rfl | rfl | rfl | rfl | rfl | rfl | rfl | rfl | rfl | rfl | rfl | rfl | rfl | rfl | rfl
   ·exact bh.fnv T.m_at_text (by decide)
   ·exact bj.fnv T.m_at_mark (by decide)
   ·exact bo.fnv T.m_at_open (by decide)
   ·exact bp.fnv T.m_at_name (by decide)
   ·exact bq.fnv T.m_at_slash (by decide)
   ·exact br.fnv T.m_at_shut (by decide)
   ·exact bu.fnv T.m_at_gap (by decide)
   ·exact bw.fnv T.m_at_attr (by decide)
   ·exact bx.fnv T.m_at_is (by decide)
   ·exact bA.fnv T.m_at_bang (by decide)
   ·exact bB.fnv T.m_at_bare (by decide)
   ·exact bC.fnv T.m_at_code (by decide)
   ·exact bD.fnv T.m_at_row (by decide)
   ·exact bE.fnv T.m_at_stroke (by decide)
   ·exact bF.fnv T.m_at_quoted (by decide)
   ·exact bG.fnv T.m_at_qmark (by decide)
   ·exact bH.fnv T.m_at_done (by decide)
   ·exact bI.fnv T.m_at_talk (by decide)
   ·exact bJ.fnv T.m_at_tmark (by decide)
   ·exact bK.fnv T.m_at_asis (by decide)
  refine⟨p,rfl,_,f7.of hp,_,rfl,.inr (S st.mode),rfl,?_⟩;unfold yx at k;rw [P0 t] at k;rcases Fb st.mode (nV t) with⟨e,he,h1,h2⟩ | ⟨h1,h2⟩
  ·rw [h2] at k;unfold rm;rw [h1,ub (by intro z;cases z)];exact⟨e.2.2,rfl,lZ e.2.1,hF e he,p,rfl,_,f7.of hp,_,rfl,p,rfl,_,f7.of hp,_,rfl,p,rfl,_,f7.of hp,_,rfl,st.word,o,st.opens,st.talk,c,rfl,ho,hw,hop,k⟩
  ·rw [h2] at k;unfold rm;rw [h1,ue (show(none:Option V).getD V.non=V.non from rfl)];exact k _ _ (fO.refl H) rfl
theorem Oo (T:Txt w K mg t)(D:Df K mg "begin" YD yk):fW P w K mg fQ 1 "begin" yk ky:=by
 refine D.ok P1 ?_ ?_;walk_at "b"
 ·refine pM h λk=>?_;refine⟨_,(zd (zg (zh (lp (qS fj) (qS []) (zh zC) (qS []))))).h,?_⟩
  walk_at "rd";exact λp hp p1 hp1=>k _ _ ((za hp).trans (za hp1)) ⟨p1,p,rfl,zb,za hp1 _ _ zb⟩
theorem Mo (T:Txt w K mg t)(D:Df K mg "step" Bq JD)(bL:fW P w K mg fQ 6 "moved" ZO Z2):fW P w K mg fQ 7 "step" JD Xb:=by
 refine D.ok NR ?_ ?_;walk_at "b"
 ·refine nN h λx st c h=>?_;refine lC h λhst hw hop k=>?_;refine⟨_,(zd (zg (qF bL hr (f6 (qv 0) (qv 1))))).h,?_⟩
  walk_at "rd";exact⟨st,hst,hw,hop,k⟩
theorem SX (T:Txt w K mg t)(D:Df K mg "floored" Ws wK):fW P w K mg fQ 1 "floored" wK xO:=by
 refine D.ok Tw ?_ ?_;walk_at "b"
 ·refine nE h λx st h=>?_;refine mE h λhst k=>?_;refine⟨_,(zd (zg (zh (lp (ic K (qv 0) ze) (ic K (qv 0) ze) (zh zC) (ic K (qv 0) ze))))).h,?_⟩
  walk_at "rd";obtain⟨p,o,rfl,hp,ho⟩:=hst;exact⟨p,rfl,_,f7.of hp,_,rfl,p,rfl,_,f7.of hp,_,rfl,λp1 hp1=>⟨p,rfl,_,f7.of (za hp1 _ _ hp),_,rfl,λp2 hp2=>k _ _ ((za hp1).trans (za hp2)) ⟨p2,p1,rfl,zb,za hp2 _ _ zb⟩⟩⟩
noncomputable def JM (es:List Ev)(i:Nat):Except Nat (MS×List Ev)->Except Nat (MS×List Ev)
 | .error n=>.error (n+i)
 | .ok (s',fs)=>.ok (s',es++fs)
theorem Mn (r:Except Nat (MS×List Ev)):JM [] 0 r=r:=by
 cases r with
 | error n=>rfl
 | ok r=>cases r;rfl
theorem SW {s s':MS}{c:Nat}{r:Ld}{es fs:List Ev}{i:Nat}(h:yx s c=some (s',fs)):JM es i (runM s (c::r))=JM (es++fs) (i+1) (runM s' r):=by
 simp only [runM,h];cases runM s' r with
 | error n=>simp only [JM];congr 1;omega
 | ok q=>obtain⟨s2,gs⟩:=q;simp only [JM,uz]
theorem SV {s:MS}{c:Nat}{r:Ld}{es:List Ev}{i:Nat}(h:yx s c=none):JM es i (runM s (c::r))=.error i:=by simp only [runM,h,JM,Nat.zero_add]
def BV (x:V)(st:MS)(l:Ld)(p:Addr)(H:Hp)(i:Nat)(σ:L2.St)(H':Hp):Prop:=∃ (v:V) (s:MS) (es:List Ev) (o4 o5 o6:Option V),σ=[some x,some (V.str (S l)),some v,some (V.ref p),o4,o5,o6]/\fO H H'/\lI H' v s/\mq H' p es/\s.word.length<=8/\s.opens.length<=st.opens.length+i/\es.length<=10 * i/\runM st l=JM es i (runM s (l.drop i))
theorem LQ (T:Txt w K mg t)(D:Df K mg "run" AL Q1)(bM:fW P w K mg fQ 7 "step" JD Xb)(bN:Ai P w K mg fQ "Unread" t.Unread "at" nz):nJ P w K mg fQ 8 "run" Q1 (Wv t):=by
 refine D.okX Q2 ?_ ?_;walk_at "b"
 ·refine nN h λx st l h=>?_;refine FI h λhst hw hl k kx=>?_;refine⟨_,(zc (ip 2 Q2.nd (qv 0)) (zc (ip 3 Q2.nd (zl zC)) (zc (vB PassesOwn.leaving (by rfl) (PL (by rfl) T.z_enumerate (f9 (qv 1))) (yY (n:=2) (by rfl) (zO (lz 4 Q2.nd) (zO (lz 5 Q2.nd) xR))) (zc (ip 6 Q2.nd (qF bM hr (f6 (qv 2) (qv 5)))) (zc (zm (ia Qv (qv 6) zH) (zd (PJ zM bN hr (by decide) (f9 (qv 4)))) zi) (zc (ip 2 Q2.nd (ic K (qv 6) ze)) (zd (xS (yX (K:=K) (by rfl) uM gC gE JS (qv 3) (f9 (ic K (qv 6) ze))))))))) (zd (zg (zh (f6 (qv 2) (qv 3)))))))).h,?_⟩
  walk_at "rd";intro p hp;refine Po (K:=K) (BV x st l p H) ⟨x,st,[],none,none,none,rfl,za hp,hst.mono (za hp),iJ,hw,by lia,by simp,by rw [UR,Mn]⟩ ?_ ?_
  ·rintro i c σ H1 hi ⟨v,s,es,o4,o5,o6,rfl,g1,hs,he,hw1,ho1,hl1,hr⟩ p1 hp1;have hil:=(uA.mp hi).1;have ed:l.drop i=c::l.drop (i+1):=by rw [uV hil,(uA.mp hi).2]
   rw [ed] at hr
   walk_at "rd";have g2:=g1.trans (za (o:=.tup [.int i,.str (S [c])]) hp1);refine⟨s,hs.mono (za hp1),by lia,by lia,λv2 H2 g3 a=>?_⟩;cases hq:yx s c with
   | none=>rw [hq] at a;have a:v2=.non:=a;subst a;rw [ue rfl];exact⟨.inl ⟨_,rfl,by omega,by omega⟩,λd H3 s3 _ e=>kx i (by rw [hr,SV hq]) d H3 (g2.trans (g3.trans s3)) e⟩
   | some r=>obtain⟨s',fs⟩:=r;rw [hq] at a;obtain⟨q,sa,ea,rfl,hq1,hs1,he1,hg⟩:=a;obtain⟨b1,b2,b3⟩:=E1 s c s' fs hq hw1;obtain⟨vs,e1,e2⟩:=he;obtain⟨us,f1,f2⟩:=he1;have e1':=g3 _ _ (za hp1 _ _ e1);rw [ub (by intro z;cases z)];have l1:=e2.len;have l2:=f2.len;refine⟨q,rfl,_,f7.of hq1,_,rfl,.inl ⟨rfl,_,ij.of e1'⟩,q,rfl,_,f7.of hq1,_,rfl,ea,rfl,vs,e1',us,f1,by omega,?_⟩;refine⟨sa,s',es++fs,_,_,_,rfl,?_,hs1.updL e1',⟨_,zb,((e2.mono ((za hp1).trans g3)).updL e1').app (f2.updL e1')⟩,b1,by omega,by rw [uc];omega,by rw [hr,SW hq]⟩;intro b o e;rw [zk (zv e hp)];exact g3 _ _ (g2 _ _ e)
  ·rintro σ H1 ⟨v,s,es,o4,o5,o6,rfl,g1,hs,he,hw1,ho1,hl1,hr⟩;rw [List.drop_length] at hr
   walk_at "rd";intro p2 hp2;refine k s es (by rw [hr];simp only [runM,JM,uj]) _ _ (g1.trans (za hp2)) ?_;exact⟨p2,v,p,rfl,zb,hs.mono (za hp2),he.mono (za hp2),hp⟩
theorem zaP (T:Txt w K mg t)(D:Df K mg "_law_cell" ZR xl):fW P w K mg fQ 1 "_law_cell" xl (vL K):=by
 refine D.ok kT ?_ ?_;walk_at "b"
 ·refine nN h λa ns k h=>?_;refine lC h λhS h63 hk q=>?_;refine⟨_,(zc (zm (ia tZ (qv 1) (zJ (wH (K:=K) (by rfl)) (by rfl) T.z_len yT (f9 (qv 0)))) (zd (zg (zr xI (ml K (qv 0) (qv 1)) (zr jP (zr jP (zr Xm ze ze) (zr Xm ze ze)) (zr Xm ze ze))))) zi) (zc (ip 2 kT.nd (zr qO (zr jP ze (qv 1)) ze)) (zc (zm (ia Xn (zJ (wH (K:=K) (by rfl)) (by rfl) T.z_len yT (f9 (qv 0))) ze) (zd (ip 2 kT.nd (zr qO (zr jP (zr xI (ml K (qv 0) (zr xI (zr jP (qv 1) ze) (zJ (wH (K:=K) (by rfl)) (by rfl) T.z_len yT (f9 (qv 0))))) (zr Xm ze ze)) ze) (zr jP (zr jP (qv 1) (qv 1)) ze)))) zi) (zd (zg (zr xI (zr jP (zr xI (qv 2) ze) ze) ze)))))).h,?_⟩
  walk_at "rd";refine⟨_,.inl hS,?_⟩;rw [uk];by_cases hlt:k<ns.length
  ·rw [ue (by lia)];have hn:ns[k]? = some ns[k]:=ux hlt;refine⟨_,hS,.int ns[k],by rw [Uk,hn];rfl,om (by decide),om (by decide),(by unfold IntMulOk;decide +kernel),om (by decide),(by unfold IntMulOk;decide +kernel),_,rfl,by decide +kernel,q _ H (fO.refl H)⟩
  ·rw [ub (by lia)];refine⟨kF (by decide),_,.inl hS,?_⟩;rw [uk];by_cases h0:0<ns.length
   ·rw [ue (by lia)];obtain⟨n,e,_⟩:=PB (ns:=ns) (i:=(k:Int) * 7 % (ns.length:Int)) (Yk (by lia)).1 (Yk (by lia)).2;refine⟨Z8 (by decide),_,.inl hS,by rw [uk];lia,_,hS,.int n,by rw [uk];exact e,om (by decide),n,rfl,by decide +kernel,Z8 (by decide),kF (by lia),Z8 (by decide),Z8 (by decide),q _ H (fO.refl H)⟩
   ·rw [ub (by lia)];exact⟨Z8 (by decide),q _ H (fO.refl H)⟩
theorem SU (T:Txt w K mg t)(D:Df K mg "_law_mix" Q7 qT):fW P w K mg fQ 1 "_law_mix" qT jf:=by
 refine D.ok yz ?_ ?_;walk_at "b"
 ·refine nN h λc k m h=>?_;refine lC h λhk0 hk hm q=>?_;refine⟨_,(zc (zm (QW.qt (xK (ia zu (zr xI (qv 0) ze) ze) (xK (ia Xn (qv 0) (zr Xm ze ze)) (wC (ia Xn (zr DU (qv 0) (zr qO (zr jP ze (qv 1)) ze)) ze))))) (zd (zg (zr xI (zr DU (qv 0) (zr qO (zr jP ze (qv 1)) ze)) (qv 2)))) zi) (zc (ip 3 yz.nd (ml K (zl (qP (by exact ze) (by exact(qP (by exact ze) (by exact(qP (by exact ze) (by exact(mD ze ze ze ze ze)))))))) (zr xI (qv 1) ze))) (zc (ip 4 yz.nd (ml K (zl (qP (by exact ze) (by exact(qP (by exact ze) (by exact(mD ze ze ze ze ze)))))) (zr xI (qv 1) ze))) (zc (ip 5 yz.nd (zr xI (zr jP (zr qO (zr xI (zr NA (qv 0) (zr jP (zr jP (qv 1) (qv 1)) (qv 1))) ze) ze) (qv 3)) ze)) (zd (zg (zr xI (zr xI (zr jP (zr qO (qv 5) ze) (qv 4)) ze) (qv 2)))))))).h,?_⟩;have fin:∀ (v:Int) (H':Hp),md c k=v->fO H H'->Q (.int (v % m)) H':=λv H' e g=>by have:=q H' g;rw [L5 hm,e] at this;exact this
  have els:md c k=oW c k->∀ (p:Addr),H p=none->∃ x,ij K (upd H p (HO.lst [V.int 1000000007,V.int 1181783503,V.int 1372345291,V.int 1518500279,V.int 1636201513,V.int 1734723539,V.int 1871234567,V.int 2012345681])) p x/\∃ x_1,lQ x (k % 8)=some x_1 /\
    ∀ (p_1:Addr),upd H p (HO.lst [V.int 1000000007,V.int 1181783503,V.int 1372345291,V.int 1518500279,V.int 1636201513,V.int 1734723539,V.int 1871234567,V.int 2012345681]) p_1=none->∃ x,ij K (upd (upd H p (HO.lst [V.int 1000000007,V.int 1181783503,V.int 1372345291,V.int 1518500279,V.int 1636201513,V.int 1734723539,V.int 1871234567,V.int 2012345681])) p_1 (HO.lst [V.int 100000000003,V.int 223606797763,V.int 314159265359,V.int 414213562379,V.int 577215664943,V.int 693147180563,V.int 732050807573])) p_1 x /\
    ∃ x_2,lQ x (k % 7)=some x_2/\IntMulOk k k/\IntMulOk (k * k) k/\∃ x,x_1=V.int x/\IntMulOk ((c+k * k * k) % 1000000000039+1) x/\∃ x_3,x_2=V.int x_3/\IntMulOk (((c+k * k * k) % 1000000000039+1) * x % 2147483629+1) x_3/\0<m /\
    Q (V.int ((((c+k * k * k) % 1000000000039+1) * x % 2147483629+1) * x_3 % 999999999989 % m)) (upd (upd H p (HO.lst [V.int 1000000007,V.int 1181783503,V.int 1372345291,V.int 1518500279,V.int 1636201513,V.int 1734723539,V.int 1871234567,V.int 2012345681])) p_1 (HO.lst [V.int 100000000003,V.int 223606797763,V.int 314159265359,V.int 414213562379,V.int 577215664943,V.int 693147180563,V.int 732050807573])):=by
   intro e p hp
   refine⟨_,ij.of zb,_,at8 k,λp2 hp2=>⟨_,ij.of zb,_,at7 k,?_⟩⟩
   have m1:=Yk (a:=c+k * k * k) (m:=1000000000039) (by decide)
   refine⟨kF (by lia),Z8 (by lia),_,rfl,kF (by lia),_,rfl,kF ?_,hm,fin _ _ e ((za hp).trans (za hp2))⟩
   have m2:=Yk (a:=((c+k * k * k) % 1000000000039+1) * L1 k) (m:=2147483629) (by decide)
   lia
  walk_at "rd";by_cases h1:c % 2=0
  ·rw [ue h1];refine⟨om (by decide),?_⟩;by_cases h2:10 ^ Int.toNat 18<c
   ·rw [ue h2];refine⟨kF (by decide),by lia,?_⟩;by_cases h3:0<c / 2 ^ (7 * k+8).toNat
    ·rw [ue h3];exact⟨kF (by decide),by lia,hm,fin _ H (by unfold md;rw [ue h1,ue h2,ue h3]) (fO.refl H)⟩
    ·rw [ub h3];exact els (by unfold md;rw [ue h1,ue h2,ub h3])
   ·rw [ub h2];exact els (by unfold md;rw [ue h1,ub h2])
  ·rw [ub h1];exact els (by unfold md;rw [ub h1])
theorem zaQ (T:Txt w K mg t)(D:Df K mg "_law_part" ZT qQ)(ae:fW P w K mg fQ 1 "_law_mix" qT jf):fW P w K mg fQ 2 "_law_part" qQ jg:=by
 refine D.ok YF ?_ ?_;walk_at "b"
 ·refine nE h λc k h=>?_;refine ng h λhk0 hk q=>?_;refine⟨_,(zd (zg (qF ae hr (iw (qv 0) (zr qO ze (qv 1)) ze)))).h,?_⟩
  walk_at "rd";exact⟨by lia,by lia,q⟩
theorem SS {x:V}{s:MS}{H:Hp}{Q:VK}(k:Q (sP (kh s)) H)(hm:s.mode∉[xF,vX,lq,jF]):if s.mode=Zu then(if s.talk=vH then Q (.str (S vH)) H else Q .non H) else Q .non H:=by
 unfold kh at k;rw [ub hm] at k;by_cases h1:s.mode=Zu
 ·rw [ue h1];by_cases h2:s.talk=vH
  ·rw [ue h2];rw [ue ⟨h1,h2⟩] at k;exact k
  ·rw [ub h2];rw [ub (by rintro⟨_,z⟩;exact h2 z)] at k;exact k
 ·rw [ub h1];rw [ub (by rintro⟨z,_⟩;exact h1 z)] at k;exact k
theorem zaR (T:Txt w K mg t)(D:Df K mg "place_of" Qz wX):fW P w K mg fQ 1 "place_of" wX vq:=by
 refine D.ok zaj ?_ ?_;walk_at "b"
 ·refine nE h λx st h=>?_;refine mE h λhst k=>?_;refine⟨_,(zc (zm (ia (EE (K:=K) (by rfl)) (ic K (qv 0) ze) (qo T.m_PLACE_MODES)) (zd (zg (ic K (qv 0) ze))) zi) (zd (zg (xf (QW.qt (xK (ia zu (ic K (qv 0) ze) (qS fm)) (wC (ia zu (ic K (qv 0) ze) (qS e9))))) (qS e9) zH)))).h,?_⟩
  walk_at "rd";obtain⟨p,o,rfl,hp,ho⟩:=hst;have e:=EC st.mode [xF,vX,lq,jF];refine⟨p,rfl,_,f7.of hp,_,rfl,_,.inr (T.s_PLACE_MODES H),rfl,rfl,?_⟩;rw [show([xF,vX,lq,jF].map λx=>V.str (S x))=[V.str (S xF),V.str (S vX),V.str (S lq),V.str (S jF)] from rfl] at e;rw [show tx st.mode=V.str (S st.mode) from rfl,e];by_cases h1:st.mode∈[xF,vX,lq,jF]
  ·rw [ue (Uv h1)];unfold kh at k;rw [ue h1] at k;exact⟨p,rfl,_,f7.of hp,_,rfl,k H (fO.refl H)⟩
  ·rw [ub (by simp only [Uy];exact h1)];have:=SS (x:=.ref p) (k H (fO.refl H)) h1;refine⟨p,rfl,_,f7.of hp,_,rfl,rfl,?_⟩;by_cases h2:st.mode=Zu
   ·rw [ue h2] at this;rw [ue (show tx st.mode=V.str (S Zu) by rw [h2];rfl)];refine⟨p,rfl,_,f7.of hp,_,rfl,rfl,?_⟩;by_cases h3:st.talk=vH
    ·rw [ue h3] at this;rw [ue (show tx st.talk=V.str (S vH) by rw [h3];rfl)];exact this
    ·rw [ub h3] at this;rw [ub (by intro z;exact h3 (yu.mp (V.str.inj z)))];exact this
   ·rw [ub h2] at this;rw [ub (by intro z;exact h2 (yu.mp (V.str.inj z)))];exact this
theorem WB (T:Txt w K mg t)(D:Dc K mg t.Spot "Spot" "Spot.__init__" vC qp):pR P w K mg fQ 1 t.Spot "Spot" qp (qV t):=by
 refine D.ok Wu ?_ ?_;walk_at "b"
 ·refine lO h λa dx sv ta n h=>?_;refine mE h λha q=>?_;refine⟨_,(zc (JZ (K:=K) (by rfl) (qv 0) (qv 1)) (zc (JZ (K:=K) (by rfl) (qv 0) (qv 2)) (zd (JZ (K:=K) (by rfl) (qv 0) (qv 3))))).h,?_⟩
  walk_at "rd";refine⟨_,_,_,ha,T.l_Spot,T.a_state,by decide,_,_,_,zb,T.l_Spot,T.a_turns,by simp [iQ],_,_,_,zb,T.l_Spot,T.a_many,by simp only [iQ];split<;>simp,?_⟩;rw [Ji,Ji];exact q
theorem zaS (T:Txt w K mg t)(D:Dm K t.Spot "met" "Spot.met" Q3 jD)(aA:pR P w K mg fQ 1 t.Spot "Spot" qp (qV t)):iP P w K mg fQ 3 t.Spot "met" jD (j7 t):=by
 refine D.ok T7 ?_ ?_;walk_at "b"
 ·refine tq h λa dx ta sv0 sv n h=>?_;refine mE h λe1 q=>?_;refine⟨_,(zd (zg (JA aA hr (by decide) (iw (qv 1) (qX (K:=K) (by rfl) (qv 0)) (zr qO (qX (K:=K) (by rfl) (qv 0)) ze))))).h,?_⟩
  walk_at "rd";refine⟨_,_,_,e1,T.l_Spot,T.a_turns,.ref ta,rfl,_,_,_,e1,T.l_Spot,T.a_many,_,rfl,_,rfl,λx dx' hx hd hne=>⟨_,ta,rfl,n+1,by lia,zb,?_⟩⟩;exact q x _ _ (YK hx hd (.own x) []) hx zb
theorem Vj (T:Txt w K mg t)(D:Dm K t.Spot "turned" "Spot.turned" y7 qY)(aA:pR P w K mg fQ 1 t.Spot "Spot" qp (qV t)):iP P w K mg fQ 3 t.Spot "turned" qY (jA t):=by
 refine D.ok X0 ?_ ?_;walk_at "b"
 ·refine pk h λa dx ta sv0 Tn n b h=>?_;refine lC h λe1 e3 hn q=>?_;refine⟨_,(zd (zg (JA aA hr (by decide) (iw (qX (K:=K) (by rfl) (qv 0)) (zr qE (qX (K:=K) (by rfl) (qv 0)) (zl (f9 (qv 1)))) (qX (K:=K) (by rfl) (qv 0)))))).h,?_⟩
  walk_at "rd";refine⟨_,_,_,e1,T.l_Spot,T.a_state,sv0,rfl,_,_,_,e1,T.l_Spot,T.a_turns,.ref ta,rfl,λp hp=>⟨ta,rfl,_,za hp _ _ e3,_,zb,by rw [uk];simp;lia,λp1 hp1=>?_⟩⟩;have k0:=za (o:=.lst [V.int b]) hp;have k1:=za (o:=.lst ((Tn.map λ(t:Nat)=>V.int t)++[V.int b])) hp1;have k01:=k0.trans k1;refine⟨_,_,_,k01 _ _ e1,T.l_Spot,T.a_many,_,rfl,λx dx' hx hd hne=>⟨_,n,rfl,zb,?_⟩⟩;have g:=YK (t:=t) (ta:=p1) (sv:=sv0) (n:=n) hx hd (.own x) [];refine q x _ p1 _ (k01.trans g) (none_of k01 hx) (none_of k0 hp1) zb ?_;refine g _ _ ?_;rw [zb,UE];rfl
theorem Qn (T:Txt w K mg t)(D:Dc K mg t.Looking "Looking" "Looking.__init__" wL qK):pR P w K mg fQ 1 t.Looking "Looking" qK (jq t):=by
 refine D.ok Ql ?_ ?_;walk_at "b"
 ·refine nN h λa dx kv h=>?_;refine mE h λha q=>?_;refine⟨_,(zc (JZ (K:=K) (by rfl) (qv 0) (qv 1)) (zc (JZ (K:=K) (by rfl) (qv 0) (zl zC)) (zd (JZ (K:=K) (by rfl) (qv 0) (zl zC))))).h,?_⟩
  walk_at "rd";refine⟨_,_,_,ha,T.l_Looking,T.a_kept,by decide,λp hp=>?_⟩;have hpa:p≠a:=λz=>by subst z;rw [zb] at hp;cases hp
  refine⟨_,_,_,by rw [zk hpa.symm];exact zb,T.l_Looking,T.a_holes,by simp [iQ],λp1 hp1=>?_⟩;have hp1a:p1≠a:=λz=>by subst z;rw [zb] at hp1;cases hp1
  have hp1p:p1≠p:=λz=>by subst z;rw [zk hpa,zb] at hp1;cases hp1
  refine⟨_,_,_,by rw [zk hp1a.symm];exact zb,T.l_Looking,T.a_pairs,by simp only [iQ];split<;>simp,?_⟩;rw [zk hpa] at hp;rw [zk hp1a,zk hp1p,zk hp1a] at hp1;refine q p p1 _ zb (λb o hb e=>?_) ?_ ?_ hp1p.symm hp hp1
  ·have b1:b≠p1:=λz=>by subst z;rw [hp1] at e;cases e
   have b2:b≠p:=λz=>by subst z;rw [hp] at e;cases e
   rw [zk hb,zk b1,zk hb,zk b2,zk hb];exact e
  ·rw [zk hpa,zk hp1p.symm,zk hpa,zb]
  ·rw [zk hp1a,zb]
theorem Vw (T:Txt w K mg t)(D:Dm K t.Spot "shown" "Spot.shown" kQ zU):lV P w K mg fQ 1 t.Spot "shown" zU (qh t):=by
 refine D.okN Vr ?_ ?_;walk_at "b"
 ·refine tq h λa dx ta sv n Tn h=>?_;refine lC h λe1 e2 e3 q=>?_;refine⟨_,(zd (zg (zh (f6 (JY (Tf (K:=K) (by rfl)) (by rfl) T.z_list Ng (f9 (qX (K:=K) (by rfl) (qv 0)))) (qX (K:=K) (by rfl) (qv 0)))))).h,?_⟩
  walk_at "rd";refine⟨_,_,_,e1,T.l_Spot,T.a_turns,.ref ta,rfl,ta,rfl,_,ij.of e2,λl hl=>⟨_,_,_,za hl _ _ e1,T.l_Spot,T.a_many,_,rfl,λp hp=>?_⟩⟩;have k2:=za (o:=.tup [.ref l,.int n]) hp;exact q p l _ ((za hl).trans k2) hl zb (k2 _ _ zb)
theorem WW (T:Txt w K mg t)(D:Dm K t.Looking "look_literal" "Looking.look_literal" jH zI)(aB:nJ P w K mg fQ 8 "run" Q1 (Wv t))(aj:iP P w K mg fQ 3 t.Spot "met" jD (j7 t))(ai:lV P w K mg fQ 1 t.Spot "shown" zU (qh t))(bO:lu P w K mg fQ "Astray" t.Astray FD sS):iP P w K mg fQ 12 t.Looking "look_literal" zI (qg t):=by
 refine D.ok jw ?_ ?_;walk_at "b"
 ·refine pk h λlo ha sp pv ps x hv h=>?_;refine pL h λzz0 hlo zz2 zz3 hha zz5 q qe=>?_;obtain⟨z,rfl⟩:=zz0;obtain⟨p,ep,hp⟩:=zz2;obtain⟨dx,sv,ta,e1,e2,e3⟩:=zz3;obtain⟨b1,b2,b3,b4,b5⟩:=zz5;refine⟨_,(zc (NV (i:=4) zM T.m_Unread T.c_Unread jw.nd (by rfl) (by rfl) (by rfl) (by rfl) (λE pn xe hp hx=>(zd (ip 3 jw.nd (Jy hx aB hr (by decide) (f6 (qX (K:=K) (by rfl) (qv 2)) (ic K (qv 1) ze)))))) (λpn ea xe hxe=>(zd (Rk hxe (by rfl) bO (hr.n.marked _) (by decide) (f6 (Rl ai (hr.n.marked _) (by decide) (qv 2)) (yW (K:=K) (by rfl) (qv 4))))))) (zd (zg (vd aj hr (by decide) (qv 2) (f9 (ic K (qv 3) ze)))))).h,?_⟩;cases ep;obtain⟨pa,vs,rfl,hpa,rfl⟩:=nM hp;simp only [iu,lP,fY,iq] at b2 b3 b4 b5;simp only [xP,qf] at q qe;have e1':=zp _ _ e1
  walk_at "hd";refine⟨_,_,_,e1',T.l_Spot,T.a_state,sv,rfl,_,f7.of (zp _ _ hpa),_,q9 _ _ _,x.s,z,rfl,e2.mono zp,b1,by lia,λs' es hr v H1 g1 hv1=>?_,λb hr d H1 g1 hd=>?_⟩
  ·obtain⟨p4,sa4,ea4,rfl,f1,f2,_⟩:=hv1
   walk_at "hd";refine⟨dx,_,g1 _ _ e1',rfl,_,f7.of f1,sa4,zx _ _,dx,ta,sv,x.n,g1 _ _ e1',λr dx' H2 g2 hr2 er=>?_⟩;have g12:=g1.trans g2;refine q ⟨s',x.T,x.n+1⟩ [] (by rw [hr]) r [] H2 (Gr.same hha g12) .nil (vM (qH (g1 _ _ hha) hr2) er (Bm (g12 _ _ hha) (f2.mono g2)) (zt g12 _ _ e3))
  ·refine⟨t.Unread,rfl,T.c_Unread,T.kit_up_ur,⟨d,_,_,rfl,hd⟩,λea H2 g2 hc hpl=>?_⟩;have g12:=g1.trans g2;refine⟨dx,_,g12 _ _ e1',rfl,dx,ta,sv,x.n,g12 _ _ e1',x.T,g12 _ _ (zp _ _ e3),by lia,λr l H3 g3 hl hr3 hl3=>?_⟩;have G:L2.Got K H3 ea t.Unread [("at",.int (b:Nat))]:=L2.Got.mono ⟨T.c_Unread,d,hc,g2 _ _ hd⟩ g3;have hb:=Ek hr;refine⟨t.Unread,_,G,T.n_Unread_at,_,rfl,⟨_,_,rfl,.inl ⟨_,rfl,by lia,by lia⟩⟩,λd4 H4 g4 n4 h4=>⟨?_,rT.mono hpl (g3.trans g4),_,h4,by show 2≠1;decide⟩⟩;have g14:=g12.trans (g3.trans g4);have h3:=g3 _ _ (g12 _ _ hha);refine qe (.astray x.T x.n b) (by rw [hr]) _ d4 H4 (zt g14) ⟨rfl,r,?_,yL (zt g12) (g14 _ _ hha) (g12 _ _ hha) hl (g4 _ _ hr3) (g4 _ _ hl3)⟩;rw [hide_ne (qH h3 n4)];exact h4
theorem YX (T:Txt w K mg t)(D:Dm K t.Looking "look_hole" "Looking.look_hole" wk zZ)(aN:fW P w K mg fQ 1 "place_of" wX vq)(aj:iP P w K mg fQ 3 t.Spot "met" jD (j7 t))(ai:lV P w K mg fQ 1 t.Spot "shown" zU (qh t))(bP:lu P w K mg fQ "NoPlace" t.NoPlace Fz sQ):iP P w K mg fQ 12 t.Looking "look_hole" zZ (qy t):=by
 refine D.ok vk ?_ ?_;walk_at "b"
 ·refine pk h λlo ha sp pv ps x hv h=>?_;refine pL h λzz0 zz1 zz2 zz3 hha zz5 q qe=>?_;obtain⟨z,rfl,hz⟩:=zz0;obtain⟨ldx,lpa,hlo⟩:=zz1;obtain⟨p,ep,hp⟩:=zz2;obtain⟨dx,sv,ta,e1,e2,e3⟩:=zz3;obtain⟨b1,b2,b3,b4,b5⟩:=zz5;refine⟨_,(zc (ip 3 vk.nd (qF aN hr (f9 (qX (K:=K) (by rfl) (qv 2))))) (zc (zm (ia Qv (qv 3) zH) (zd (km zM bP hr (by decide) (f6 (ic K (qv 1) ze) (wW ai.ok hr (by decide) (qv 2))))) zi) (zc (xS (yX (K:=K) (by rfl) uM Ut Uu xJ (qX (K:=K) (by rfl) (qv 0)) (f9 (zh (f6 (ic K (qv 1) ze) (qv 3)))))) (zd (zg (vd aj hr (by decide) (qv 2) (f9 (qX (K:=K) (by rfl) (qv 2))))))))).h,?_⟩;cases ep;obtain⟨pa,vs,rfl,hpa,rfl⟩:=nM hp;simp only [iu,lP,fY,iq] at b2 b3 b4 b5;simp only [xP,qf] at q qe;have e1':=zp _ _ e1
  walk_at "hd";refine⟨_,_,_,e1',T.l_Spot,T.a_state,sv,rfl,x.s,e2.mono zp,λH1 g1=>?_⟩
  walk_at "hi";have hha1:=g1 _ _ hha;cases hk:kh x.s with
  | none=>
   rw [hk] at qe;rw [ue (show sP none=V.non from rfl)]
   walk_at "hd";refine⟨_,f7.of (g1 _ _ (zp _ _ hpa)),_,q9 _ _ _,dx,_,g1 _ _ e1',rfl,dx,ta,sv,x.n,g1 _ _ e1',x.T,g1 _ _ (zp _ _ e3),by lia,λr l H3 g3 hl hr3 hl3=>?_⟩;refine⟨⟨_,_,rfl,.inr ⟨_,rfl,by rw [Zr];exact uJ hz (by decide)⟩⟩,λd4 H4 g4 n4 h4=>?_⟩;have h3:=g3 _ _ hha1;refine qe (.noplace z x.T x.n) rfl _ d4 H4 (zt (g1.trans (g3.trans g4))) ⟨rfl,r,?_,yL (zt g1) (g4 _ _ h3) hha1 hl (g4 _ _ hr3) (g4 _ _ hl3)⟩;rw [hide_ne (qH h3 n4)];exact h4
  | some kd=>
   rw [hk] at q;rw [ub (by intro z;cases z)]
   walk_at "hd";refine⟨_,_,_,g1 _ _ (zp _ _ hlo),T.l_Looking,T.a_holes,.ref ha,rfl,.inl ⟨rfl,_,ij.of hha1⟩,_,f7.of (g1 _ _ (zp _ _ hpa)),_,q9 _ _ _,λp3 h3=>⟨ha,rfl,hv,?_⟩⟩;have k3:=za (o:=.tup [tx z,sP (some kd)]) h3;have hp3:=qH hha1 h3;have hha3:=k3 _ _ hha1;refine⟨hha3,by lia,?_⟩;have hG:Gr ha H (upd (upd H1 p3 (.tup [tx z,sP (some kd)])) ha (.lst (hv++[.ref p3]))) hv [.ref p3]:=⟨by rw [E8];exact zt (g1.trans k3),zb⟩
   have hsp4:=zp _ _ (hG.1 _ _ e1)
   walk_at "hd";refine⟨dx,_,hsp4,rfl,_,_,_,hsp4,T.l_Spot,T.a_state,sv,rfl,dx,ta,sv,x.n,hsp4,λr dx' H2 g2 hr er=>?_⟩;have G2:=hG.trans (Gr.same hG.2 g2);refine q ⟨x.s,x.T,x.n+1⟩ [(z,kd)] rfl r [.ref p3] H2 (G2.cast (by rw [uj])) (.cons ⟨p3,rfl,?_⟩ .nil) (vM (qH hG.2 hr) er ((e2.mono hG.1).mono (zt g2)) (G2.1 _ _ e3));rw [hide_ne hp3];exact g2 _ _ (by rw [zk hp3];exact zb)
theorem YY {k d:Nat}(hk10:20<=k)(T:Txt w K mg t)(D:Dm K t.Looking "look_each" "Looking.look_each" jn z7)(aq:iP P w K mg fQ 3 t.Spot "turned" qY (jA t))(ai:lV P w K mg fQ 1 t.Spot "shown" zU (qh t))(ak:lu P w K mg fQ "Unlike" t.Unlike tm nY)(ar:iP P w K mg fQ k t.Looking "look_all" zw (zB t d)):iP P w K mg fQ (k+1) t.Looking "look_each" z7 (jh t (d+1)):=by
 refine D.ok jZ ?_ ?_;walk_at "b"
 ·refine pk h λlo ha sp pv ps x hv h=>?_;refine pL h λzz0 hlo zz2 hsp hha zz5 q qe=>?_;obtain⟨nm,b,rfl,hnm,hdp⟩:=zz0;obtain⟨p,ep,hp⟩:=zz2;obtain⟨b1,b2,b3,b4,b5⟩:=zz5;refine⟨_,(zc (ip 3 jZ.nd (vd aq hr (by lia) (qv 2) (f9 ze))) (zc (ip 4 jZ.nd (jW zM ar hr (by lia) (qv 0) (f6 (ic K (qv 1) ze) (vd aq hr (by lia) (qv 2) (f9 ze))))) (zc (zm (ia (XA (mw hr)) (qX (K:=K) (by rfl) (qv 4)) (qX (K:=K) (by rfl) (qv 3))) (zd (km zM ak hr (by lia) (iw (zh (f6 (qS fz) (ic K (qv 1) ze))) (wW ai.ok hr (by lia) (qv 3)) (wW ai.ok hr (by lia) (qv 4))))) zi) (zd (zg (qv 3)))))).h,?_⟩;cases ep;obtain⟨pa,vs,rfl,hpa,wv,rfl,hw⟩:=nM hp;simp only [iu,lP,fY,iq] at b2 b3 b4 b5;simp only [xP,qf] at q qe;simp only [iG.dpB,iG] at hdp;simp only [i6.nmB,i6,gb] at hnm;obtain⟨dx,sv,ta,e1,e2,e3⟩:=hsp;have e1':=zp _ _ e1;have e3':=zp _ _ e3;obtain⟨ldx,lpa,hlo'⟩:=hlo
  walk_at "hd";refine⟨dx,_,e1',rfl,dx,ta,sv,x.T,x.n,0,rfl,e1',e3',by lia,λr dx1 ta1 H1 g1 hr hta er et=>?_⟩;have hha1:=g1 _ _ hha
  walk_at "hd";refine⟨ldx,_,g1 _ _ (zp _ _ hlo'),rfl,_,f7.of (g1 _ _ (zp _ _ hpa)),_,Zv _ _ _ _,dx,_,g1 _ _ e1',rfl,dx,ta,sv,x.T,x.n,1,rfl,g1 _ _ e1',g1 _ _ e3',by lia,λr2 dx2 ta2 H2 g2 hr2 hta2 er2 et2=>?_⟩;have g12:=g1.trans g2;have hha2:=g12 _ _ hha;refine⟨lo,ha,r2,_,b,⟨x.s,x.T++[1],x.n⟩,hv,rfl,⟨hnm,by lia⟩,⟨ldx,lpa,zt g12 _ _ hlo'⟩,?_,vM (qH hha1 hr2) er2 (e2.mono (zt g12)) (by rw [hide_ne (qH hha1 hta2)];exact et2),hha2,⟨b1,by dsimp only;lia,by lia,by simp only [uc,uu];lia,by dsimp only;lia⟩,λe hs hk r3 hv3 H3 G3 ho3 sp3=>?_,λf hk c d3 H3 g3 hf=>qe f (by rw [hk]) c d3 H3 ((zt g12).trans g3) (hf.pre (zt g12))⟩
  ·rw [ub (by decide)];exact hw.mono (zt g12)
  obtain⟨dx3,sv3,ta3,f1,f2,f3⟩:=sp3;obtain⟨p3,rfl⟩:=Wx f2;obtain⟨p0,rfl⟩:=Wx e2;have er':hide ha H1 r=some (nL t dx1 (.ref p0) ta1 x.n):=by rw [hide_ne (qH hha hr)];exact er
  have g3:=(zt g2).trans G3.1;have hr3:=zp _ _ (g3 _ _ er');have e23:=e2.mono ((zt g1).trans g3);have f1':=zp _ _ f1;have et3:=g3 _ _ (by rw [hide_ne (qH hha hta)];exact et);obtain⟨_,_,d3,d4,_⟩:=wB b _ e hs hk b1
  walk_at "hd";refine⟨_,_,_,f1',T.l_Spot,T.a_state,_,rfl,_,_,_,hr3,T.l_Spot,T.a_state,_,rfl,dS e.s,dS x.s,p3,rfl,p0,rfl,(f2.mono zp).dat,(e23.mono zp).dat,mL _,?_⟩;rw [Xd];have G3':=G3.pre g12;by_cases hz:e.s=x.s
  ·rw [ub (by rw [Uv hz];decide)]
   walk_at "hd";exact q ⟨x.s,x.T++[0],x.n⟩ hs (by rw [hk];exact ue hz) r hv3 H3 G3' ho3 (vM (qH hha hr) hr3 e23 et3)
  ·rw [ue (by rw [uF hz];decide)];refine⟨_,f7.of (zp _ _ (G3'.1 _ _ hpa)),_,q9 _ _ _,λp4 h4=>?_⟩;have k4:=za (o:=.tup [V.str (S [101,97,99,104]),tx nm]) h4;have c4:=k4 _ _ G3.2;refine⟨dx1,_,k4 _ _ hr3,rfl,dx1,ta1,_,x.n,k4 _ _ hr3,x.T++[0],k4 _ _ (zp _ _ et3),by simp only [uc,uu];lia,λq5 l5 H5 g5 hl5 hq5 hq5'=>?_⟩;have c5:=g5 _ _ c4;have f15:=g5 _ _ (k4 _ _ f1');refine⟨dx3,_,f15,rfl,dx3,ta3,_,e.n,f15,e.T,g5 _ _ (k4 _ _ (zp _ _ f3)),by simp only [uc,uu] at d3;lia,λq6 l6 H6 g6 hl6 hq6 hq6'=>⟨⟨_,_,_,rfl⟩,λd7 H7 g7 n7 h7=>?_⟩⟩;have g67:=g6.trans g7;have c6:=g6 _ _ c5;have c7:=g7 _ _ c6;refine qe (.unlike [[101,97,99,104],nm] (x.T++[0]) x.n e.T e.n) (by rw [hk];exact ub hz) _ d7 H7 (G3'.1.trans (zt (k4.trans (g5.trans g67)))) ⟨rfl,p4,q5,q6,?_,?_,yL (G3'.1.trans (zt k4)) c7 c4 hl5 (g67 _ _ hq5) (g67 _ _ hq5'),yL (G3'.1.trans (zt (k4.trans g5))) c7 c5 hl6 (g7 _ _ hq6) (g7 _ _ hq6')⟩
   ·rw [hide_ne (qH c6 n7)];exact h7
   ·rw [hide_ne (qH G3.2 h4)];exact(g5.trans g67) _ _ zb
theorem SR {k d:Nat}(hk10:20<=k)(T:Txt w K mg t)(D:Dm K t.Looking "look_if" "Looking.look_if" jR qq)(aq:iP P w K mg fQ 3 t.Spot "turned" qY (jA t))(ai:lV P w K mg fQ 1 t.Spot "shown" zU (qh t))(ak:lu P w K mg fQ "Unlike" t.Unlike tm nY)(ar:iP P w K mg fQ k t.Looking "look_all" zw (zB t d)):iP P w K mg fQ (k+1) t.Looking "look_if" qq (jK t (d+1)):=by
 refine D.ok wO ?_ ?_;walk_at "b"
 ·refine pk h λlo ha sp pv ps x hv h=>?_;refine pL h λzz0 hlo zz2 hsp hha zz5 q qe=>?_;obtain⟨nm,a,b,rfl,hnm,hdp⟩:=zz0;obtain⟨p,ep,hp⟩:=zz2;obtain⟨b1,b2,b3,b4,b5⟩:=zz5;refine⟨_,(zc (ip 3 wO.nd (jW zM ar hr (by lia) (qv 0) (f6 (ic K (qv 1) ze) (vd aq hr (by lia) (qv 2) (f9 ze))))) (zc (ip 4 wO.nd (jW zM ar hr (by lia) (qv 0) (f6 (ic K (qv 1) ze) (vd aq hr (by lia) (qv 2) (f9 ze))))) (zc (zm (ia (XA (mw hr)) (qX (K:=K) (by rfl) (qv 3)) (qX (K:=K) (by rfl) (qv 4))) (zd (km zM ak hr (by lia) (iw (zh (f6 (qS fA) (ic K (qv 1) ze))) (wW ai.ok hr (by lia) (qv 3)) (wW ai.ok hr (by lia) (qv 4))))) zi) (zd (zg (qv 3)))))).h,?_⟩;cases ep;obtain⟨pa,vs,rfl,hpa,wv,uv,rfl,hw,hu⟩:=nM hp;simp only [iu,lP,fY,iq] at b2 b3 b4 b5;simp only [xP,qf] at q qe;simp only [iG.dpB,iG] at hdp;simp only [i6.nmB,i6,gb,uH] at hnm;obtain⟨dx,sv,ta,e1,e2,e3⟩:=hsp;have e1':=zp _ _ e1;have e3':=zp _ _ e3;obtain⟨ldx,lpa,hlo'⟩:=hlo
  walk_at "hd";refine⟨ldx,_,zp _ _ hlo',rfl,_,f7.of (zp _ _ hpa),_,Zv _ _ _ _,dx,_,e1',rfl,dx,ta,sv,x.T,x.n,0,rfl,e1',e3',by lia,λr dx1 ta1 H1 g1 hr hta er et=>?_⟩;have hha1:=g1 _ _ hha;refine⟨lo,ha,r,_,a,⟨x.s,x.T++[0],x.n⟩,hv,rfl,⟨hnm.1,by lia⟩,⟨ldx,lpa,zt g1 _ _ hlo'⟩,?_,vM (qH hha hr) er (e2.mono (zt g1)) (by rw [hide_ne (qH hha hta)];exact et),hha1,⟨b1,by dsimp only;lia,by lia,by simp only [uc,uu];lia,by dsimp only;lia⟩,λe hs hk r3 hv3 H3 G3 ho3 sp3=>?_,λf hk c d3 H3 g3 hf=>qe f (by rw [hk]) c d3 H3 ((zt g1).trans g3) (hf.pre (zt g1))⟩
  ·rw [ub (by decide)];exact hw.mono (zt g1)
  have G3':=G3.pre g1;have j1:=zp _ _ (G3'.1 _ _ e1);have hl3:=ho3.len;obtain⟨_,_,d3,d4,d5⟩:=wB a _ e hs hk b1
  walk_at "hd";refine⟨ldx,_,zp _ _ (G3'.1 _ _ hlo'),rfl,_,f7.of (zp _ _ (G3'.1 _ _ hpa)),_,AA _ _ _ _ _,dx,_,j1,rfl,dx,ta,sv,x.T,x.n,1,rfl,j1,zp _ _ (G3'.1 _ _ e3),by lia,λr4 dx4 ta4 H4 g4 hr4 hta4 er4 et4=>?_⟩;have g34:=G3'.1.trans (zt g4);refine⟨lo,ha,r4,_,b,⟨x.s,x.T++[1],x.n⟩,hv++hv3,rfl,⟨hnm.2,by lia⟩,⟨ldx,lpa,g34 _ _ hlo'⟩,?_,vM (qH G3.2 hr4) er4 (e2.mono g34) (by rw [hide_ne (qH G3.2 hta4)];exact et4),g4 _ _ G3.2,⟨b1,by dsimp only;lia,by rw [uc];lia,by simp only [uc,uu];lia,by dsimp only;lia⟩,λe' hs' hk' r5 hv5 H5 G5 ho5 sp5=>?_,λf hk' c d3 H5 g5 hf=>qe f (by rw [hk];simp only [hk']) c d3 H5 (g34.trans g5) (hf.pre g34)⟩
  ·rw [ub (by decide)];exact hu.mono g34
  have g35:=(zt g4).trans G5.1;have sp3':=sp3.mono g35;obtain⟨dx3,sv3,ta3,f1,f2,f3⟩:=sp3';obtain⟨dx5,sv5,ta5,c1,c2,c3⟩:=sp5;obtain⟨p3,rfl⟩:=Wx f2;obtain⟨p5,rfl⟩:=Wx c2;obtain⟨_,_,d6,d7,d8⟩:=wB b _ e' hs' hk' b1;have f1':=zp _ _ f1;have c1':=zp _ _ c1
  walk_at "hd";refine⟨_,_,_,f1',T.l_Spot,T.a_state,_,rfl,_,_,_,c1',T.l_Spot,T.a_state,_,rfl,dS e.s,dS e'.s,p3,rfl,p5,rfl,(f2.mono zp).dat,(c2.mono zp).dat,mL _,?_⟩;rw [Xd];have G5':=G3'.trans (G5.pre g4);by_cases hz:e.s=e'.s
  ·rw [ub (by rw [Uv hz];decide)]
   walk_at "hd";exact q e (hs++hs') (by rw [hk];simp only [hk',ue hz]) r3 (hv3++hv5) H5 G5' ((ho3.mono (iL.of g35)).app ho5) ⟨dx3,_,ta3,f1,f2,f3⟩
  ·rw [ue (by rw [uF hz];decide)];refine⟨_,f7.of (zp _ _ (G5'.1 _ _ hpa)),_,q9 _ _ _,λp4 h4=>?_⟩;have k4:=za (o:=.tup [V.str (S [105,102]),tx nm]) h4;have c4:=k4 _ _ G5.2;refine⟨dx3,_,k4 _ _ f1',rfl,dx3,ta3,_,e.n,k4 _ _ f1',e.T,k4 _ _ (zp _ _ f3),by simp only [uc,uu] at d3;lia,λq5 l5 H6 g5 hl5 hq5 hq5'=>?_⟩;have c5:=g5 _ _ c4;have c15:=g5 _ _ (k4 _ _ c1');refine⟨dx5,_,c15,rfl,dx5,ta5,_,e'.n,c15,e'.T,g5 _ _ (k4 _ _ (zp _ _ c3)),by simp only [uc,uu] at d6;lia,λq6 l6 H7 g6 hl6 hq6 hq6'=>⟨⟨_,_,_,rfl⟩,λd9 H8 g7 n7 h7=>?_⟩⟩;have g67:=g6.trans g7;have c6:=g6 _ _ c5;have c7:=g7 _ _ c6;refine qe (.unlike [[105,102],nm] e.T e.n e'.T e'.n) (by rw [hk];simp only [hk',ub hz]) _ d9 H8 (G5'.1.trans (zt (k4.trans (g5.trans g67)))) ⟨rfl,p4,q5,q6,?_,?_,yL (G5'.1.trans (zt k4)) c7 c4 hl5 (g67 _ _ hq5) (g67 _ _ hq5'),yL (G5'.1.trans (zt (k4.trans g5))) c7 c5 hl6 (g7 _ _ hq6) (g7 _ _ hq6')⟩
   ·rw [hide_ne (qH c6 n7)];exact h7
   ·rw [hide_ne (qH G5.2 h4)];exact(g5.trans g67) _ _ zb
theorem YZ {k d:Nat}(hk10:20<=k)(T:Txt w K mg t)(D:Dm K t.Looking "look_seat" "Looking.look_seat" jo z8)(aD:fW P w K mg fQ 1 "floored" wK xO)(aj:iP P w K mg fQ 3 t.Spot "met" jD (j7 t))(ai:lV P w K mg fQ 1 t.Spot "shown" zU (qh t))(ak:lu P w K mg fQ "Unlike" t.Unlike tm nY)(ar:iP P w K mg fQ k t.Looking "look_all" zw (zB t d)):iP P w K mg fQ (k+1) t.Looking "look_seat" z8 (ji t (d+1)):=by
 refine D.ok j0 ?_ ?_;walk_at "b"
 ·refine pk h λlo ha sp pv ps x hv h=>?_;refine pL h λzz0 hlo zz2 hsp hha zz5 q qe=>?_;obtain⟨wd,nm,mm,b,rfl,hnm,hdp⟩:=zz0;obtain⟨p,ep,hp⟩:=zz2;obtain⟨b1,b2,b3,b4,b5⟩:=zz5;refine⟨_,(zc (ip 3 j0.nd (vd aj hr (by lia) (qv 2) (f9 (qF aD hr (f9 (qX (K:=K) (by rfl) (qv 2))))))) (zc (ip 4 j0.nd (jW zM ar hr (by lia) (qv 0) (f6 (ic K (qv 1) ze) (qv 3)))) (zc (zm (ia (XA (mw hr)) (qX (K:=K) (by rfl) (qv 4)) (qX (K:=K) (by rfl) (qv 3))) (zd (km zM ak hr (by lia) (iw (zh (lp (qS fD) (ic K (qv 1) ze) (ic K (qv 1) ze) (ic K (qv 1) ze))) (wW ai.ok hr (by lia) (qv 3)) (wW ai.ok hr (by lia) (qv 4))))) zi) (zd (zg (vd aj hr (by lia) (qv 4) (f9 (qX (K:=K) (by rfl) (qv 2))))))))).h,?_⟩;cases ep;obtain⟨pa,vs,rfl,hpa,wv,rfl,hw⟩:=nM hp;simp only [iu,lP,fY,iq] at b2 b3 b4 b5;simp only [xP,qf] at q qe;simp only [iG.dpB,iG] at hdp;simp only [i6.nmB,i6,gb] at hnm;obtain⟨dx,sv,ta,e1,e2,e3⟩:=hsp;have e1':=zp _ _ e1;obtain⟨ldx,lpa,hlo'⟩:=hlo
  walk_at "hd";refine⟨dx,_,e1',rfl,_,_,_,e1',T.l_Spot,T.a_state,sv,rfl,x.s,e2.mono zp,λv H1 g1 hv1=>⟨dx,ta,sv,x.n,g1 _ _ e1',λr dx2 H2 g2 hr er=>?_⟩⟩;have hha1:=g1 _ _ hha;have g12:=g1.trans g2;have hha2:=g12 _ _ hha;have sv2:=Bm hha2 (hv1.mono g2);have er2:hide ha H2 r=some (nL t dx2 v ta (x.n+1)):=by rw [hide_ne (qH hha1 hr)];exact er
  walk_at "hd";refine⟨ldx,_,g12 _ _ (zp _ _ hlo'),rfl,_,f7.of (g12 _ _ (zp _ _ hpa)),_,Az _ _ _ _ _ _,lo,ha,r,_,b,⟨mS x.s,x.T,x.n+1⟩,hv,rfl,⟨hnm,by lia⟩,⟨ldx,lpa,zt g12 _ _ hlo'⟩,?_,vM (qH hha1 hr) er sv2 (zt g12 _ _ e3),hha2,⟨b1,by simp;lia,by lia,by dsimp only;lia,by dsimp only;lia⟩,λe hs hk r3 hv3 H3 G3 ho3 sp3=>?_,λf hk c d3 H3 g3 hf=>qe f (by rw [hk]) c d3 H3 ((zt g12).trans g3) (hf.pre (zt g12))⟩
  ·rw [ub (by decide)];exact hw.mono (zt g12)
  obtain⟨dx3,sv3,ta3,f1,f2,f3⟩:=sp3;obtain⟨p3,rfl⟩:=Wx f2;have sv3':=sv2.mono G3.1;obtain⟨p0,rfl⟩:=Wx sv3';have hr3:=zp _ _ (G3.1 _ _ er2);have f1':=zp _ _ f1;have G3':=G3.pre g12;obtain⟨_,_,d3,d4,_⟩:=wB b _ e hs hk b1
  walk_at "hd";refine⟨_,_,_,f1',T.l_Spot,T.a_state,_,rfl,_,_,_,hr3,T.l_Spot,T.a_state,_,rfl,_,_,p3,rfl,p0,rfl,(f2.mono zp).dat,(sv3'.mono zp).dat,mL _,?_⟩;rw [Xd];by_cases hz:e.s=mS x.s
  ·rw [ub (by rw [Uv hz];decide)]
   walk_at "hd";refine⟨dx3,_,f1',rfl,_,_,_,zp _ _ (G3'.1 _ _ e1),T.l_Spot,T.a_state,sv,rfl,dx3,ta3,_,e.n,f1',λr5 dx5 H5 g5 hr5 er5=>?_⟩;exact q ⟨x.s,e.T,e.n+1⟩ hs (by rw [hk];exact ue hz) r5 hv3 H5 ((G3'.trans (Gr.same G3'.2 g5)).cast (by rw [uj])) (ho3.mono (iL.of (zt g5))) (vM (qH G3'.2 hr5) er5 ((e2.mono G3'.1).mono (zt g5)) (zt g5 _ _ f3))
  ·rw [ue (by rw [uF hz];decide)];have hpa3:=f7.of (K:=K) (zp _ _ (G3'.1 _ _ hpa));refine⟨_,hpa3,_,q9 _ _ _,_,hpa3,_,Zv _ _ _ _,_,hpa3,_,AA _ _ _ _ _,λp4 h4=>?_⟩;have k4:=za (o:=.tup [V.str (S [115,101,97,116]),tx wd,tx nm,tx mm]) h4;have c4:=k4 _ _ G3.2;refine⟨dx2,_,k4 _ _ hr3,rfl,dx2,ta,_,x.n+1,k4 _ _ hr3,x.T,k4 _ _ (zp _ _ (G3'.1 _ _ e3)),by lia,λq5 l5 H5 g5 hl5 hq5 hq5'=>?_⟩;have c5:=g5 _ _ c4;have f15:=g5 _ _ (k4 _ _ f1');refine⟨dx3,_,f15,rfl,dx3,ta3,_,e.n,f15,e.T,g5 _ _ (k4 _ _ (zp _ _ f3)),by dsimp only at d3;lia,λq6 l6 H6 g6 hl6 hq6 hq6'=>⟨⟨_,_,_,rfl⟩,λd7 H7 g7 n7 h7=>?_⟩⟩;have g67:=g6.trans g7;have c6:=g6 _ _ c5;have c7:=g7 _ _ c6;refine qe (.unlike [X9,wd,nm,mm] x.T (x.n+1) e.T e.n) (by rw [hk];exact ub hz) _ d7 H7 (G3'.1.trans (zt (k4.trans (g5.trans g67)))) ⟨rfl,p4,q5,q6,?_,?_,yL (G3'.1.trans (zt k4)) c7 c4 hl5 (g67 _ _ hq5) (g67 _ _ hq5'),yL (G3'.1.trans (zt (k4.trans g5))) c7 c5 hl6 (g7 _ _ hq6) (g7 _ _ hq6')⟩
   ·rw [hide_ne (qH c6 n7)];exact h7
   ·rw [hide_ne (qH G3.2 h4)];exact(g5.trans g67) _ _ zb
theorem Vx {k d:Nat}(hk10:20<=k)(T:Txt w K mg t)(D:Dm K t.Looking "look_piece" "Looking.look_piece" je zS)(aQ:iP P w K mg fQ 12 t.Looking "look_literal" zI (qg t))(aR:iP P w K mg fQ 12 t.Looking "look_hole" zZ (qy t))(cw:iP P w K mg fQ k t.Looking "look_each" z7 (jh t d))(cx:iP P w K mg fQ k t.Looking "look_if" qq (jK t d))(cy:iP P w K mg fQ k t.Looking "look_seat" z8 (ji t d)):iP P w K mg fQ (k+1) t.Looking "look_piece" zS (qZ t d):=by
 refine D.ok xG ?_ ?_;walk_at "b"
 ·refine pk h λlo ha sp pv ps x hv h=>?_;refine pL h λhdp hlo zz2 hsp hha bb q qe=>?_;obtain⟨p,ep,hp⟩:=zz2;refine⟨_,(zc (ip 3 xG.nd (ic K (qv 1) ze)) (zc (zm (ia zu (qv 3) (qS fE)) (zd (zg (jW zM aQ hr (by lia) (qv 0) (f6 (qv 1) (qv 2))))) zi) (zc (zm (ia zu (qv 3) (qS fF)) (zd (zg (jW zM aR hr (by lia) (qv 0) (f6 (qv 1) (qv 2))))) zi) (zc (zm (ia zu (qv 3) (qS fz)) (zd (zg (jW zM cw hr (by lia) (qv 0) (f6 (qv 1) (qv 2))))) zi) (zc (zm (ia zu (qv 3) (qS fA)) (zd (zg (jW zM cx hr (by lia) (qv 0) (f6 (qv 1) (qv 2))))) zi) (zc (zm (QW.qt (xK (ia zu (ic K (qv 1) ze) (qS fG)) (wC (ia V7 (qX (K:=K) (by rfl) (qv 0)) zH)))) (zd PK) zi) (zd (zg (jW zM cy hr (by lia) (qv 0) (f6 (qv 1) (qv 2))))))))))).h,?_⟩
  walk_at "rd";cases ep;obtain⟨pa,vs,rfl,hpa,hf⟩:=nM hp;obtain⟨ldx,lpa,hlo'⟩:=hlo;have hl:=zp _ _ hlo';have hpa':=f7.of (K:=K) (zp _ _ hpa);have S0:∀ {Pr:List Pc->Prop},Pr [p]->mG t true Pr [.ref lo,.ref pa,.ref sp] H Q λc d H'=>E c d H':=λhP=>⟨lo,ha,sp,_,[p],x,hv,rfl,hP,⟨ldx,lpa,hlo'⟩,by rw [ue rfl];exact⟨p,rfl,hp⟩,hsp,hha,bb,q,qe⟩
  cases p with
  | lit x=>cases hf;refine⟨pa,rfl,_,hpa',_,zx _ _,rfl,?_⟩;rw [ue (show tx _=V.str (S _) from rfl)];exact⟨_,_,hl,rfl,S0 ⟨_,rfl⟩⟩
  | hole z=>cases hf;refine⟨pa,rfl,_,hpa',_,zx _ _,rfl,?_⟩;rw [ub (zE (by decide))];refine⟨rfl,?_⟩;rw [ue (show tx _=V.str (S _) from rfl)];exact⟨_,_,hl,rfl,S0 ⟨_,rfl,by simpa [i6.nmB,i6] using hdp.1⟩⟩
  | each nm b=>obtain⟨wv,rfl,_⟩:=hf;refine⟨pa,rfl,_,hpa',_,zx _ _,rfl,?_⟩;rw [ub (zE (by decide))];refine⟨rfl,?_⟩;rw [ub (zE (by decide))];refine⟨rfl,?_⟩;rw [ue (show tx _=V.str (S _) from rfl)];exact⟨_,_,hl,rfl,S0 ⟨⟨_,_,rfl⟩,hdp⟩⟩
  | ife nm a b=>obtain⟨wv,uv,rfl,_⟩:=hf;refine⟨pa,rfl,_,hpa',_,zx _ _,rfl,?_⟩;rw [ub (zE (by decide))];refine⟨rfl,?_⟩;rw [ub (zE (by decide))];refine⟨rfl,?_⟩;rw [ub (zE (by decide))];refine⟨rfl,?_⟩;rw [ue (show tx _=V.str (S _) from rfl)];exact⟨_,_,hl,rfl,S0 ⟨⟨_,_,_,rfl⟩,hdp⟩⟩
  | seat wd nm mm b=>
   obtain⟨wv,rfl,_⟩:=hf;refine⟨pa,rfl,_,hpa',_,zx _ _,rfl,?_⟩;rw [ub (zE (by decide))];refine⟨rfl,?_⟩;rw [ub (zE (by decide))];refine⟨rfl,?_⟩;rw [ub (zE (by decide))];refine⟨rfl,?_⟩;rw [ub (zE (by decide))];refine⟨pa,rfl,_,hpa',_,q9 _ _ _,rfl,?_⟩;split
   ·refine⟨_,_,_,hl,T.l_Looking,T.a_kept,.non,rfl,?_⟩;rw [ub (by simp)];exact⟨_,_,hl,rfl,S0 ⟨⟨_,_,_,_,rfl⟩,hdp⟩⟩
   ·exact⟨_,_,hl,rfl,S0 ⟨⟨_,_,_,_,rfl⟩,hdp⟩⟩
theorem Es:∀ {ps:List Pc} {p:Pc},i6.nmB ps=true->p∈ps->i6 p=true
 | _::_,_,h,.head _=>by simp only [i6.nmB,uH] at h;exact h.1
 | _::ps,_,h,.tail _ m=>by simp only [i6.nmB,uH] at h;exact Es h.2 m
def lkI (t:iR)(lo xa sp ha:Addr)(ps:List Pc)(x:lX)(hv:List V)(H:Hp)(i:Nat)(σ:L2.St)(H3:Hp):Prop:=∃ (r:Addr) (o4:Option V) (e:lX) (h1:Ho) (hv':List V),σ=[some (.ref lo),some (.ref xa),some (.ref sp),some (.ref r),o4]/\Gr ha H H3 hv hv'/\mF (hide ha H3) hv' h1/\rS t (hide ha H3) r e.s e.T e.n/\(zA ps x=match zA (ps.drop i) e with
  | .error f=>.error f
  | .ok r=>.ok (r.1,h1++r.2))/\e.s.word.length<=8/\e.s.opens.length+iu (ps.drop i)<=100000/\e.T.length+fY (ps.drop i)<=100000/\e.n+fY (ps.drop i)<=100000/\h1.length+fY (ps.drop i)<=fY ps
theorem zaT {k d:Nat}(hk10:20<=k)(T:Txt w K mg t)(D:Dm K t.Looking "look_all" "Looking.look_all" jG zw)(cA:iP P w K mg fQ k t.Looking "look_piece" zS (qZ t d)):iP P w K mg fQ (k+1) t.Looking "look_all" zw (zB t d):=by
 refine D.ok qL ?_ ?_;walk_at "b"
 ·refine pk h λlo ha sp pv ps x hv h=>?_;refine pL h λzz0 hlo hp hsp hha zz5 q qe=>?_;obtain⟨hnm,hdp⟩:=zz0;obtain⟨b1,b2,b3,b4,b5⟩:=zz5;refine⟨_,(zc (ip 3 qL.nd (qv 2)) (zc (vB PassesOwn.leaving (by rfl) (xg (K:=K) (by rfl) (qv 1)) (lz 4 qL.nd) (zd (ip 3 qL.nd (jW zM cA hr (by lia) (qv 0) (f6 (qv 4) (qv 3)))))) (zd (zg (qv 3))))).h,?_⟩
  walk_at "rd";rw [ub (by decide)] at hp;obtain⟨xa,xs,rfl,hxa,hxs⟩:=hp;refine⟨xa,rfl,⟨_,ij.of (zp _ _ hxa)⟩,?_⟩;refine vI (xs:=xs) (lkI t lo xa sp ha ps x hv H) ⟨sp,none,x,[],[],rfl,⟨λb o h=>h,by rw [uj];exact hha⟩,.nil,hsp,by rw [UR];cases zA ps x<;>rfl,b1,b2,b4,b5,by simp⟩ ?_ ?_ ?_
  ·rintro i σ H3 _ ⟨_,_,_,_,_,_,g,_⟩;exact ij.of (zp _ _ (g.1 _ _ hxa))
  ·rintro i y σ H3 hi ⟨r,o4,e,h1,hv',rfl,g3,ho3,sp3,hk3,w1,l1,l2,l3,l4⟩;have hil:i<ps.length:=by have:=(uA.mp hi).1;have:=hxs.len;rw [qB] at this;lia
   obtain⟨dd,hd1,hd2⟩:=hxs.get hi;rw [JG ps i ps[i] (ux hil)] at hd1;cases hd1;rw [uV hil] at hk3 l1 l2 l3 l4;simp only [fY,iu] at l1 l2 l3 l4;have hl3:=ho3.len;have hpd:=Va (Uj hil)
   walk_at "rd";obtain⟨ldx,lpa,hlo'⟩:=hlo;refine⟨ldx,_,zp _ _ (g3.1 _ _ hlo'),rfl,lo,ha,r,y,[ps[i]],e,hv++hv',rfl,⟨by simp only [i6.nmB,gb];exact Es hnm (Uj hil),by simp only [iG.dpB];lia⟩,⟨ldx,lpa,g3.1 _ _ hlo'⟩,?_,sp3,g3.2,⟨w1,by simp only [iu];lia,by simp only [fY,uc];lia,by simp only [fY];lia,by simp only [fY];lia⟩,λe4 h4 k4 r4 hv4 H4 G4 ho4 sp4=>?_,λf k4 c d4 H4 g4 hf=>?_⟩
   ·rw [ue rfl];exact⟨_,rfl,hd2.mono g3.1⟩
   ·rw [xP] at k4;obtain⟨m1,m2,m3,m4,m5⟩:=El _ _ _ _ k4 w1;refine⟨r4,_,e4,h1++h4,hv'++hv4,rfl,g3.trans G4,(ho3.mono (iL.of G4.1)).app ho4,sp4,?_,m1,by lia,by lia,by lia,by rw [uc];lia⟩;rw [hk3];simp only [zA,k4];cases zA (ps.drop (i+1)) e4<;>simp
   ·rw [xP] at k4;exact qe f (by rw [hk3];simp only [zA,k4]) c d4 H4 (g3.1.trans g4) (hf.pre g3.1)
  ·rintro σ H3 ⟨r,o4,e,h1,hv',rfl,g3,ho3,sp3,hk3,w1,l1,l2,l3,l4⟩;rw [U8 (by have:=hxs.len;rw [qB] at this;lia)] at hk3
   walk_at "rd";exact q e h1 (by rw [hk3];simp only [zA,uj]) r hv' H3 g3 ho3 sp3
theorem Y0 (T:Txt w K mg t)(D:Dm K t.Looking "look_all" "Looking.look_all" jG zw)(bQ:Dm K t.Looking "look_piece" "Looking.look_piece" je zS)(bR:Dm K t.Looking "look_each" "Looking.look_each" jn z7)(bS:Dm K t.Looking "look_if" "Looking.look_if" jR qq)(bT:Dm K t.Looking "look_seat" "Looking.look_seat" jo z8)(aQ:iP P w K mg fQ 12 t.Looking "look_literal" zI (qg t))(aR:iP P w K mg fQ 12 t.Looking "look_hole" zZ (qy t))(aq:iP P w K mg fQ 3 t.Spot "turned" qY (jA t))(aj:iP P w K mg fQ 3 t.Spot "met" jD (j7 t))(ai:lV P w K mg fQ 1 t.Spot "shown" zU (qh t))(aD:fW P w K mg fQ 1 "floored" wK xO)(ak:lu P w K mg fQ "Unlike" t.Unlike tm nY):iP P w K mg fQ 60 t.Looking "look_all" zw (zB t 5):=by have a0:iP P w K mg fQ 20 t.Looking "look_all" zw (zB t 0):=D.ok (k:=19) qL (λ_ _ _ _ ⟨_,_,_,_,_,_,_,_,h,_⟩=>absurd h.2 (UH _)) (λ_ _ _ _ _ _ _ _ _ _ ⟨_,_,_,_,_,_,_,_,h,_⟩=>absurd h.2 (UH _));have up:∀ {k d:Nat},20<=k->iP P w K mg fQ k t.Looking "look_all" zw (zB t d)->iP P w K mg fQ (k+3) t.Looking "look_all" zw (zB t (d+1)):=λ{k d} hk a=>zaT (k:=k+2) (by lia) T D (Vx (k:=k+1) (by lia) T bQ aQ aR (YY hk T bR aq ai ak a) (SR hk T bS aq ai ak a) (YZ hk T bT aD aj ai ak a));exact(up (by decide) (up (by decide) (up (by decide) (up (by decide) (up (by decide) a0))))).mono (by decide)
theorem P5 (T:Txt w K mg t)(D:Df K mg "is_end" XY kq)(aC:fW P w K mg fQ 1 "begin" yk ky):fW P w K mg fQ 2 "is_end" kq Qg:=by
 refine D.ok Rg ?_ ?_;walk_at "b"
 ·refine nE h λx s h=>?_;refine mE h λhx q=>?_;refine⟨_,(zd (zg (nW (Yo (mw hr)) (qv 0) (JX aC hr (by decide))))).h,?_⟩
  walk_at "rd";intro v H1 g1 hv;have d1:=(hx.mono g1).dat;have d2:=hv.dat;obtain⟨a,_,rfl,_,_⟩:=hx;obtain⟨b,_,rfl,_,_⟩:=hv;refine⟨_,_,a,rfl,b,rfl,d1,d2,mL _,?_⟩;rw [show(⟨xF,[],[],[]⟩:MS)=mY from rfl,Xd];exact q _ g1
theorem Y1 (T:Txt w K mg t)(D:Df K mg "looked_at" ZP xk)(ar:iP P w K mg fQ 60 t.Looking "look_all" zw (zB t 5))(aC:fW P w K mg fQ 1 "begin" yk ky)(bU:fW P w K mg fQ 2 "is_end" kq Qg)(aA:pR P w K mg fQ 1 t.Spot "Spot" qp (qV t))(bV:pR P w K mg fQ 1 t.Looking "Looking" qK (jq t))(ai:lV P w K mg fQ 1 t.Spot "shown" zU (qh t))(bW:lu P w K mg fQ "LeftOpen" t.LeftOpen FC sR):nJ P w K mg fQ 61 "looked_at" xk (vN t):=by
 refine D.okX kS ?_ ?_;walk_at "b"
 ·refine nE h λpv ps h=>?_;refine ng h λzz0 q qe=>?_;obtain⟨hd1,hls,hd2',hd3,hd5⟩:=zz0;refine⟨_,(zc (ip 2 kS.nd (JA bV hr (by decide) (f9 (qv 1)))) (zc (ip 3 kS.nd (jW zM ar hr (by decide) (qv 2) (f6 (qv 0) (JA aA hr (by decide) (iw (JX aC hr (by decide)) (zl zC) ze))))) (zc (zm (vZ (jV (qF bU hr (f9 (qX (K:=K) (by rfl) (qv 3)))))) (zd (km zM bW hr (by decide) (f9 (wW ai.ok hr (by decide) (qv 3))))) zi) (zd (zg (zh (f6 (qX (K:=K) (by rfl) (qv 2)) (qX (K:=K) (by rfl) (qv 2))))))))).h,?_⟩
  walk_at "hd";intro x dx hx hd hne;refine⟨dx,zb,λha pa H1 e1 g1 eh ep hap nh np=>?_⟩;have hax:ha≠x:=λz=>by subst z;rw [zb] at nh;cases nh
  have had:ha≠dx:=λz=>by subst z;rw [zk hne,zb] at nh;cases nh
  have gH:fO H H1:=λb o e=>g1 b o (zv e hx) (by rw [zk (zv e hx),zk (zv e hd)];exact e);have nH:H ha=none:=by rw [zk hax,zk had] at nh;exact nh
  walk_at "hd";refine⟨dx,_,e1,rfl,λv H2 g2 hv p hp2 x2 dx2 hx2 hd2 hne2=>⟨dx2,0,rfl,zb,?_⟩⟩;have k1:=za (o:=.lst []) hp2;have k2:=YK (t:=t) (ta:=p) (sv:=v) (n:=0) hx2 hd2 (.own x2) [];have er:upd (upd (upd (upd H2 p (.lst [])) dx2 (.own x2)) x2 (.ins t.Spot dx2 [])) x2 (nL t dx2 v p 0) x2=some (nL t dx2 v p 0):=zb;have ept:=k2 _ _ zb;have k12:=k1.trans k2;generalize hH3:upd (upd (upd (upd H2 p (.lst [])) dx2 (.own x2)) x2 (.ins t.Spot dx2 [])) x2 (nL t dx2 v p 0)=H3 at k2 er ept k12;have e3:H3 ha=some (.lst []):=k12 _ _ (g2 _ _ eh);have hx3:=k12 _ _ (g2 _ _ e1);rw [← hide_ne (H:=H3) hax.symm] at hx3;have hp3:p≠ha:=qH (g2 _ _ eh) hp2;have hx23:x2≠ha:=qH (k1 _ _ (g2 _ _ eh)) hx2;have g3:fO H (hide ha H3):=λb o e=>by rw [hide_ne (zv e nH)];exact k12 _ _ (g2 _ _ (gH _ _ e))
  refine⟨x,ha,x2,pv,ps,⟨mY,[],0⟩,[],rfl,⟨hls,hd2'⟩,⟨dx,pa,hx3⟩,?_,vM hx23 er (Bm e3 (hv.mono k12)) (by rw [hide_ne hp3];exact ept),e3,⟨by decide,by show 0+_<=_;lia,by show 0+_<=_;lia,by show 0+_<=_;lia,by show 0+_<=_;lia⟩,λe hs hk r hv4 H4 G4 ho4 sp4=>?_,λf hk c d4 H4 g4 hf=>?_⟩
  ·rw [ub (by decide)];exact hd1.mono g3
  ·obtain⟨dx4,sv4,ta4,f1,f2,f3⟩:=sp4;have hx4:=zp _ _ (G4.1 _ _ hx3)
   walk_at "hi";refine⟨_,_,_,zp _ _ f1,T.l_Spot,T.a_state,sv4,rfl,_,f2.mono zp,λH5 g5=>?_⟩;obtain⟨_,_,d3,d4,_⟩:=wB ps _ e hs hk (by decide);by_cases hz:e.s=mY
   ·rw [ub (by rw [Uv hz];decide)]
    walk_at "hd";refine⟨_,_,_,g5 _ _ hx4,T.l_Looking,T.a_holes,.ref ha,rfl,_,_,_,g5 _ _ hx4,T.l_Looking,T.a_pairs,.ref pa,rfl,λp6 hp6=>?_⟩;have k6:=za (o:=.tup [.ref ha,.ref pa]) hp6;have g56:=g5.trans k6;exact q hs (by unfold jr;rw [hk];exact ue hz) p6 ha pa hv4 _ ((g3.trans G4.1).trans (zp.trans g56)) zb (g56 _ _ G4.2) (ho4.mono (iL.of (zp.trans g56)))
   ·rw [ue (by rw [uF hz];decide)];have f15:=g5 _ _ (zp _ _ f1)
    walk_at "hd";refine⟨dx4,_,f15,rfl,dx4,ta4,sv4,e.n,f15,e.T,g5 _ _ (zp _ _ f3),uJ d3 (by show 0+_<=_;lia),λq6 l6 H6 g6 hl6 hq6 hq6'=>⟨⟨_,rfl⟩,λd7 H7 g7 n7 h7=>?_⟩⟩;have g57:=g5.trans (g6.trans g7);exact qe (.left e.T e.n) (by unfold jr;rw [hk];exact ub hz) _ d7 H7 ((g3.trans G4.1).trans (zp.trans g57)) ⟨rfl,q6,h7,l6,none_of (g3.trans (G4.1.trans (zp.trans g5))) hl6,g7 _ _ hq6,g7 _ _ hq6'⟩
  ·exact qe f (by unfold jr;rw [hk]) c d4 H4 ((g3.trans g4).trans zp) ((hf.mono zp).pre g3)
theorem Mm (T:Txt w K mg t)(D:Df K mg "look" Bp JE)(bX:nJ P w K mg fQ 61 "looked_at" xk (vN t)):nJ P w K mg fQ 62 "look" JE (Xe t):=by
 refine D.okX NQ ?_ ?_;walk_at "b"
 ·refine nE h λpv ps h=>?_;refine ng h λhp q qe=>?_;refine⟨_,(zd (zg (ic K (Jy zM bX hr (by decide) (f6 (qv 0) zH)) ze))).h,?_⟩
  walk_at "rd";exact⟨_,hp,λhs hk r ha pa hv H' g e1 e2 ho=>⟨_,f7.of e1,_,zx _ _,q hs hk ha hv H' g e2 ho⟩,qe⟩
theorem Y2 (T:Txt w K mg t)(D:Df K mg "_law_other" kU wx):rY P w K mg fQ 1 "_law_other" wx (xX K t):=by
 refine D.okH Vs ?_ ?_;walk_at "b"
 ·refine nN h λea C fs h=>?_;refine ng h λG0 hC q=>?_;refine⟨_,(zc (zm (jV (zJ (kH (K:=K) (by rfl)) (by rfl) T.z_isinstance zT (f6 (qv 0) (zh (qP (by exact(qo T.m_NoCode)) (by exact(qP (by exact(qo T.m_NoElder)) (by exact(qP (by exact(qo T.m_NoKind)) (by exact(qP (by exact(qo T.m_NoName)) (by exact(mD (qo T.m_NoPage) (qo T.m_NoRow) (qo T.m_NoSheet) (qo T.m_NoSign) (qo T.m_Unread)))))))))))))) (zd (zg VZ)) zi) (zd (zg (zJ (kH (K:=K) (by rfl)) (by rfl) T.z_isinstance zT (f6 (qv 0) (zh (qP (by exact(qo T.m_NoValue)) (by exact(qP (by exact(qo T.m_RingOver)) (by exact(mD (qo T.m_Ringed) (qo T.m_TooMany) (qo T.m_Twice) (qo T.m_Unended) (qo T.m_Unknown)))))))))))).h,?_⟩
  walk_at "rd";intro p hp;have G1:=G0.mono (za (o:=.tup [V.ref t.NoCode,V.ref t.NoElder,V.ref t.NoKind,V.ref t.NoName,V.ref t.NoPage,V.ref t.NoRow,V.ref t.NoSheet,V.ref t.NoSign,V.ref t.Unread]) hp);refine⟨C,_,_,zb,G1,rfl,false,by rcases hC with rfl | rfl | rfl | rfl;exact T.kit_Astray_l1;exact T.kit_Unlike_l1;exact T.kit_NoPlace_l1;exact T.kit_LeftOpen_l1,?_⟩;rw [ub (by decide)];intro p1 hp1;have G2:=G1.mono (za (o:=.tup [V.ref t.NoValue,V.ref t.RingOver,V.ref t.Ringed,V.ref t.TooMany,V.ref t.Twice,V.ref t.Unended,V.ref t.Unknown]) hp1);exact⟨C,_,_,zb,G2,rfl,false,by rcases hC with rfl | rfl | rfl | rfl;exact T.kit_Astray_l2;exact T.kit_Unlike_l2;exact T.kit_NoPlace_l2;exact T.kit_LeftOpen_l2,q _ ((za hp).trans (za hp1))⟩
theorem ir {a b:TS}{D:Ends}{σ:L2.St}{H:Hp}(h:∀ N:L2.St->Hp->Prop,(∀ σ' H',b D σ' H'->N σ' H')->a { D with nx:=N } σ H):iT a b D σ H:=h (b D) λ_ _ z=>z
theorem Om {c:TT}{a b:TS}{D:Ends}{σ:L2.St}{H:Hp}(h:∀ S:TS,(∀ D σ H,a D σ H->S D σ H)->ny c S b D σ H):ny c a b D σ H:=h a λ_ _ _ z=>z
theorem Vk (T:Txt w K mg t)(D:Df K mg "_law_refusal" yo jM)(bY:rY P w K mg fQ 1 "_law_other" wx (xX K t)):rY P w K mg fQ 2 "_law_refusal" jM (wG K t):=by
 refine D.okH WV ?_ ?_;walk_at "b"
 ·refine lO h λea C d f B h=>?_;refine ng h λhc hf q=>?_;refine⟨_,(zc (zm (QW.qt (xK (jV (zJ (vS (K:=K) (by rfl)) (by rfl) T.z_isinstance zT (f6 (qv 0) (DG (v:=.ty "ValueError") T.z_ValueError Vn (by rfl))))) (wC (vZ (jV (Fg bY hr (by decide) (f9 (qv 0)))))))) (zc (zm (QW.qt (xK (jV (zJ (vS (K:=K) (by rfl)) (by rfl) T.z_isinstance zT (f6 (qv 0) (qo T.m_Astray)))) (wC (vZ (jV (zJ (kH (K:=K) (by rfl)) (by rfl) T.z_isinstance zT (f6 (qv 0) (zh (iw (qo T.m_NoPlace) (qo T.m_Unlike) (qo T.m_LeftOpen)))))))))) (zd (zg (zh (iw (qS fH) (yW (K:=K) (by rfl) (qv 0)) (yW (K:=K) (by rfl) (qv 0)))))) zi) (zc (zm (QW.qt (xK (jV (zJ (vS (K:=K) (by rfl)) (by rfl) T.z_isinstance zT (f6 (qv 0) (qo T.m_NoPlace)))) (wC (vZ (jV (zJ (kH (K:=K) (by rfl)) (by rfl) T.z_isinstance zT (f6 (qv 0) (zh (f6 (qo T.m_Unlike) (qo T.m_LeftOpen)))))))))) (zd (zg (zh (iw (qS fJ) (yW (K:=K) (by rfl) (qv 0)) (yW (K:=K) (by rfl) (qv 0)))))) zi) (zc (zm (QW.qt (xK (jV (zJ (vS (K:=K) (by rfl)) (by rfl) T.z_isinstance zT (f6 (qv 0) (qo T.m_Unlike)))) (wC (vZ (jV (zJ (vS (K:=K) (by rfl)) (by rfl) T.z_isinstance zT (f6 (qv 0) (qo T.m_LeftOpen)))))))) (zd (zg (zh (lp (qS fK) (yW (K:=K) (by rfl) (qv 0)) (yW (K:=K) (by rfl) (qv 0)) (yW (K:=K) (by rfl) (qv 0)))))) zi) (zd (zm (jV (zJ (vS (K:=K) (by rfl)) (by rfl) T.z_isinstance zT (f6 (qv 0) (qo T.m_LeftOpen)))) (zd (zg (zh (f6 (qS [108,101,102,116]) (yW (K:=K) (by rfl) (qv 0)))))) zi))))) zi) (zd (zg (zh (f9 (qS [111,100,100])))))).h,?_⟩
  have pre:∃ fs,L2.Got K H ea C fs/\(C=t.Astray\/C=t.Unlike\/C=t.NoPlace\/C=t.LeftOpen)/\PySem.W.kitOne K (.ref C) (.type "ValueError")=some true:=by
   cases f with
   | noplace x Tn n=>obtain⟨hC,p,hd,hp⟩:=hf;obtain rfl:C=t.NoPlace:=Ue hC;exact⟨_,⟨T.c_NoPlace,d,hc,hd⟩,.inr (.inr (.inl rfl)),T.kit_NoPlace_ve⟩
   | left Tn n=>obtain⟨hC,p,hd,hp⟩:=hf;obtain rfl:C=t.LeftOpen:=Ue hC;exact⟨_,⟨T.c_LeftOpen,d,hc,hd⟩,.inr (.inr (.inr rfl)),T.kit_LeftOpen_ve⟩
   | astray Tn n b=>obtain⟨hC,p,hd,hp⟩:=hf;obtain rfl:C=t.Astray:=Ue hC;exact⟨_,⟨T.c_Astray,d,hc,hd⟩,.inl rfl,T.kit_Astray_ve⟩
   | unlike wd Tn n T2 n2=>obtain⟨hC,a,p,p',hd,ha,hp,hp'⟩:=hf;obtain rfl:C=t.Unlike:=Ue hC;exact⟨_,⟨T.c_Unlike,d,hc,hd⟩,.inr (.inl rfl),T.kit_Unlike_ve⟩
  obtain⟨fs,G,hC0,kve⟩:=pre;refine ir λN hN=>Om λS0 hS=>?_
  walk_at "rd";refine⟨C,⟨_,G⟩,rfl,true,kve,?_⟩;rw [ue rfl];refine⟨C,⟨_,G⟩,hC0,λH1 g1=>hS _ _ _ ?_⟩;clear hS hN G kve hC0;cases f with
  | noplace x Tn n=>
   obtain⟨hC,p,hd,hp⟩:=hf;obtain rfl:C=t.NoPlace:=Ue hC;have G1:=(show L2.Got K H ea t.NoPlace [("name",tx x),("place",.ref p)] from⟨T.c_NoPlace,d,hc,hd⟩).mono g1;refine ir λN hN=>?_
   walk_at "rd";refine⟨t.NoPlace,⟨_,G1⟩,rfl,false,T.kit_NoPlace_a,?_⟩;rw [ub (by decide)];refine hN _ _ (ir λN hN=>?_)
   walk_at "rd";refine⟨t.NoPlace,⟨_,G1⟩,rfl,true,T.kit_NoPlace_n,?_⟩;rw [ue rfl];intro p1 hp1;have k1:=za (o:=.tup [V.ref t.Unlike,V.ref t.LeftOpen]) hp1;have G2:=G1.mono k1;refine⟨t.NoPlace,_,_,zb,G2,rfl,false,T.kit_NoPlace_o,?_⟩;rw [ue (by decide)];refine⟨t.NoPlace,_,G2,T.n_NoPlace_name,_,rfl,t.NoPlace,_,G2,T.n_NoPlace_place,_,rfl,λp2 hp2=>?_⟩;have k2:=za (o:=.tup [V.str (S [110,111,112,108,97,99,101]),tx x,V.ref p]) hp2;have g:=g1.trans (k1.trans k2);exact q p2 _ g ⟨p,zb,hp.mono g⟩
  | left Tn n=>
   obtain⟨hC,p,hd,hp⟩:=hf;obtain rfl:C=t.LeftOpen:=Ue hC;have G1:=(show L2.Got K H ea t.LeftOpen [("place",.ref p)] from⟨T.c_LeftOpen,d,hc,hd⟩).mono g1;refine ir λN hN=>?_
   walk_at "rd";refine⟨t.LeftOpen,⟨_,G1⟩,rfl,false,T.kit_LeftOpen_a,?_⟩;rw [ub (by decide)];refine hN _ _ (ir λN hN=>?_)
   walk_at "rd";refine⟨t.LeftOpen,⟨_,G1⟩,rfl,false,T.kit_LeftOpen_n,?_⟩;rw [ub (by decide)];refine hN _ _ (ir λN hN=>?_)
   walk_at "rd";refine⟨t.LeftOpen,⟨_,G1⟩,rfl,false,T.kit_LeftOpen_u,?_⟩;rw [ub (by decide)];refine hN _ _ ?_
   walk_at "rd";refine⟨t.LeftOpen,⟨_,G1⟩,rfl,true,T.kit_LeftOpen_o,?_⟩;rw [ue rfl];refine⟨t.LeftOpen,_,G1,T.n_LeftOpen_place,_,rfl,λp2 hp2=>?_⟩;have k2:=za (o:=.tup [V.str (S [108,101,102,116]),V.ref p]) hp2;have g:=g1.trans k2;exact q p2 _ g ⟨p,zb,hp.mono g⟩
  | astray Tn n b=>
   obtain⟨hC,p,hd,hp⟩:=hf;obtain rfl:C=t.Astray:=Ue hC;have G1:=(show L2.Got K H ea t.Astray [("place",.ref p),("at",.int (b:Nat))] from⟨T.c_Astray,d,hc,hd⟩).mono g1;refine ir λN hN=>?_
   walk_at "rd";refine⟨t.Astray,⟨_,G1⟩,rfl,true,T.kit_Astray_a,?_⟩;rw [ue rfl];intro p1 hp1;have k1:=za (o:=.tup [V.ref t.NoPlace,V.ref t.Unlike,V.ref t.LeftOpen]) hp1;have G2:=G1.mono k1;refine⟨t.Astray,_,_,zb,G2,rfl,false,T.kit_Astray_o,?_⟩;rw [ue (by decide)];refine⟨t.Astray,_,G2,T.n_Astray_place,_,rfl,t.Astray,_,G2,T.n_Astray_at,_,rfl,λp2 hp2=>?_⟩;have k2:=za (o:=.tup [V.str (S [97,115,116,114,97,121]),V.ref p,V.int (b:Nat)]) hp2;have g:=g1.trans (k1.trans k2);exact q p2 _ g ⟨p,zb,hp.mono g⟩
  | unlike wd Tn n T2 n2=>
   obtain⟨hC,a,p,p',hd,ha,hp,hp'⟩:=hf;obtain rfl:C=t.Unlike:=Ue hC;have G1:=(show L2.Got K H ea t.Unlike [("what",.ref a),("one",.ref p),("other",.ref p')] from⟨T.c_Unlike,d,hc,hd⟩).mono g1;refine ir λN hN=>?_
   walk_at "rd";refine⟨t.Unlike,⟨_,G1⟩,rfl,false,T.kit_Unlike_a,?_⟩;rw [ub (by decide)];refine hN _ _ (ir λN hN=>?_)
   walk_at "rd";refine⟨t.Unlike,⟨_,G1⟩,rfl,false,T.kit_Unlike_n,?_⟩;rw [ub (by decide)];refine hN _ _ (ir λN hN=>?_)
   walk_at "rd";refine⟨t.Unlike,⟨_,G1⟩,rfl,true,T.kit_Unlike_u,?_⟩;rw [ue rfl];refine⟨t.Unlike,⟨_,G1⟩,rfl,false,T.kit_Unlike_o,?_⟩;rw [ue (by decide)];refine⟨t.Unlike,_,G1,T.n_Unlike_what,_,rfl,t.Unlike,_,G1,T.n_Unlike_one,_,rfl,t.Unlike,_,G1,T.n_Unlike_other,_,rfl,λp2 hp2=>?_⟩;have k2:=za (o:=.tup [V.str (S [117,110,108,105,107,101]),V.ref a,V.ref p,V.ref p']) hp2;have g:=g1.trans k2;exact q p2 _ g ⟨a,p,p',zb,g _ _ ha,hp.mono g,hp'.mono g⟩
theorem Vy (T:Txt w K mg t)(D:Df K mg "_law_looked" kf jz)(bZ:nJ P w K mg fQ 62 "look" JE (Xe t))(cb:rY P w K mg fQ 2 "_law_refusal" jM (wG K t)):fW P w K mg fQ 63 "_law_looked" jz j8:=by
 refine D.ok yn ?_ ?_;walk_at "b"
 ·refine nE h λpv ps h=>?_;refine mE h λhp q=>?_;refine⟨_,(zc (DE (i:=2) T.m_SealError T.c_SealError yn.nd (by rfl) (by rfl) (by rfl) (by rfl) (λE pn xe hp hx=>(zd (ip 1 yn.nd (Jy hx bZ hr (by decide) (f9 (qv 0)))))) (λpn ea=>(zd (zg (Fg cb (hr.marked _) (by decide) (f9 (qv 2))))))) (zd (zg (zh (f6 (qS [116,111,108,100]) (qv 1)))))).h,?_⟩
  walk_at "rd";refine⟨ps,hp,λhs hk ha hv H1 g1 e1 ho p1 hp1=>?_,λf hk c d H1 g1 hf=>?_⟩
  ·have k1:=za (o:=.tup [V.str (S [116,111,108,100]),V.ref ha]) hp1;rw [hk] at q;exact q p1 _ (g1.trans k1) (λf z=>by cases z) ⟨p1,_,rfl,zb,_,_,rfl,⟨rfl,rfl⟩,_,_,rfl,⟨ha,_,rfl,k1 _ _ e1,(ho.mono (iL.of k1)).ds⟩,rfl⟩
  ·rw [hk] at q
   obtain⟨C,rfl,hC⟩:∃ C,c=.ref C/\(C=t.Astray\/C=t.Unlike\/C=t.NoPlace\/C=t.LeftOpen):=by
    cases f with
    | noplace x Tn n=>exact⟨_,hf.1,.inr (.inr (.inl rfl))⟩
    | left Tn n=>exact⟨_,hf.1,.inr (.inr (.inr rfl))⟩
    | astray Tn n b=>exact⟨_,hf.1,.inl rfl⟩
    | unlike wd Tn n T2 n2=>exact⟨_,hf.1,.inr (.inl rfl)⟩
   refine⟨C,rfl,by rcases hC with rfl | rfl | rfl | rfl;exact T.c_Astray;exact T.c_Unlike;exact T.c_NoPlace;exact T.c_LeftOpen,by rcases hC with rfl | rfl | rfl | rfl;exact T.kit_Astray_se;exact T.kit_Unlike_se;exact T.kit_NoPlace_se;exact T.kit_LeftOpen_se,λea H2 g2 hc=>⟨C,d,hc,f,H,hf.mono g2,λr H3 g3 hr=>q r H3 (g1.trans (g2.trans g3)) (λf' z=>by cases z;exact hr) hr.dt⟩⟩
noncomputable def rL (mk:Tx):List (Key×V):=[(.inr (S [116,101,120,116]),V.str (S (60::47::(mk++[62])))),(.inr (S [113,117,111,116,101,100]),V.str (S (34::61::mk))),(.inr (S [114,111,119]),V.str (S (41::61::mk))),(.inr (S [115,97,105,100]),V.str (S (39::61::mk)))]
noncomputable def AS:List (Key×V):=[(.inr (S [116,101,120,116]),V.str (S [120,60])),(.inr (S [100,111,110,101]),V.str (S [32,117])),(.inr (S [98,97,114,101]),V.str (S [126])),(.inr (S [113,117,111,116,101,100]),V.str (S [38]))]
noncomputable def AB:List (Key×V):=[(.inr (S [116,101,120,116]),V.str (S [60,117,62])),(.inr (S [100,111,110,101]),V.str (S [32,117,58,118])),(.inr (S [98,97,114,101]),V.str (S [32])),(.inr (S [113,117,111,116,101,100]),V.str (S [34])),(.inr (S [114,111,119]),V.str (S [41])),(.inr (S [115,97,105,100]),V.str (S [39]))]
theorem Ml {mk kind:Tx}(hm:Mk mk)(k:Kn kind):(iI (qW [] (rL mk)) (.inr (S kind))).getD (V.str (S (61::mk)))=tx (lG mk kind):=by cases k<;>rcases hm with rfl | rfl<;>decide +kernel
theorem P4 {kind:Tx}(k:Kn kind):(iI (qW [] AS) (.inr (S kind))).getD (V.str (S [92]))=tx (Jg kind):=by cases k<;>decide +kernel
theorem Z5 {kind:Tx}(k:Kn kind):iI (qW [] AB) (.inr (S kind))=some (tx (Zw kind)):=by cases k<;>decide +kernel
theorem Y3 (T:Txt w K mg t)(D:Df K mg "_law_fault" kX jl):fW P w K mg fQ 1 "_law_fault" jl jO:=by
 refine D.ok xU ?_ ?_;walk_at "b"
 ·refine nN h λwd mk kind h=>?_;refine ng h λhm hk q=>?_;refine⟨_,(zc (ip 3 xU.nd (W5 (jL (by exact(qS fj)) (by exact(zr jE (zr jE (qS [60,47]) (qv 1)) (qS [62]))) (jL (by exact(qS fv)) (by exact(zr jE (qS [34,61]) (qv 1))) (jL (by exact(qS fu)) (by exact(zr jE (qS [41,61]) (qv 1))) (jL (by exact(qS e9)) (by exact(zr jE (qS [39,61]) (qv 1))) W4)))) (by rfl) (by rfl) (by intro z;cases z) (by decide))) (zc (ip 4 xU.nd (W5 (jL (by exact(qS fj)) (by exact(qS [120,60])) (jL (by exact(qS fw)) (by exact(qS [32,117])) (jL (by exact(qS fq)) (by exact(qS [126])) (jL (by exact(qS fv)) (by exact(qS [38])) W4)))) (by rfl) (by rfl) (by intro z;cases z) (by decide))) (zc (ip 5 xU.nd ⟨N7 (VM hr) (EY (vY (qS fj).h (qS [60,117,62]).h (vY (qS fw).h (qS [32,117,58,118]).h (vY (qS fq).h (qS [32]).h (vY (qS fv).h (qS [34]).h (vY (qS fu).h (qS [41]).h (vY (qS e9).h (qS [39]).h EZ)))))) (by rfl) (by rfl) (by intro z;cases z) (by decide)) (qv 2).h (λ_ _=>rfl)⟩) (zc (zm (ia zu (qv 0) (qS fH)) (zd (zg (zl (f9 (zh (f6 (qS fE) (Jz (VM hr) (qv 3) (qv 2) (zr jE (qS [61]) (qv 1)) (by exact⟨rfl,rfl,rfl,rfl⟩)))))))) zi) (zc (zm (ia zu (qv 0) (qS fJ)) (zd (zg (zl (iw (zh (f6 (qS fE) (Jz (VM hr) (qv 4) (qv 2) (qS [92]) (by exact⟨rfl,rfl,rfl,rfl⟩)))) (zh (f6 (qS fF) (qv 1))) (zh (f6 (qS fE) (qS [98]))))))) zi) (zc (zm (ia zu (qv 0) (qS fA)) (zd (zg (zl (f9 (zh (lp (qS fA) (qv 1) (zl (f9 (zh (f6 (qS fE) (qv 5))))) (zl zC))))))) zi) (zc (zm (ia zu (qv 0) (qS fz)) (zd (zg (zl (f9 (zh (iw (qS fz) (qv 1) (zl (f9 (zh (f6 (qS fE) (qv 5))))))))))) zi) (zd (zg (zl (f9 (zh (mD (qS fD) (qS fG) (qv 1) (qS []) (zl (f9 (zh (f6 (qS fE) (qv 5)))))))))))))))))).h,?_⟩;have hl:mk.length=2:=by rcases hm with rfl | rfl<;>rfl
  cases wd
  all_goals
   simp only [JK]
   walk_at "rd";intro p hp;refine⟨by lia,by lia,by lia,by lia,by lia,zb,rL mk,rfl,Nat.le_of_ble_eq_true rfl,λp1 h1=>⟨zb,AS,rfl,by decide,λp2 h2=>⟨zb,AB,rfl,by decide,?_⟩⟩⟩;have k1:=JL (o:=HO.dK []) (o':=HO.dK (qW [] (rL mk))) hp;have k2:=JL (o:=HO.dK []) (o':=HO.dK (qW [] AS)) h1;have k3:=JL (o:=HO.dK []) (o':=HO.dK (qW [] AB)) h2;have g0:=k1.trans (k2.trans k3)
  ·refine⟨⟨_,by rw [← Z5 hk];exact iY.k (k:=.inr (S kind)) zb⟩,?_⟩;have e1:=(k2.trans k3) p _ zb;refine⟨.inl ⟨_,.inl e1⟩,by lia,_,iY.k (k:=.inr (S kind)) e1,?_⟩;rw [Ml hm hk];intro q1 z1 q2 z2;have b1:=za (o:=.tup [tx [108,105,116],tx (lG mk kind)]) z1;have b2:=za (o:=.lst [V.ref q1]) z2;exact q q2 _ (g0.trans (b1.trans b2)) ⟨q2,_,rfl,jS (g0.trans b1) z2 zb,wU (jS g0 z1 (b2 _ _ zb))⟩
  ·refine⟨⟨_,by rw [← Z5 hk];exact iY.k (k:=.inr (S kind)) zb⟩,?_⟩;have e1:=k3 p1 _ zb;refine⟨.inl ⟨_,.inl e1⟩,_,iY.k (k:=.inr (S kind)) e1,?_⟩;rw [P4 hk];intro q1 z1 q2 z2 q3 z3 q4 z4;have b1:=za (o:=.tup [tx [108,105,116],tx (Jg kind)]) z1;have b2:=za (o:=.tup [tx [104,111,108,101],tx mk]) z2;have b3:=za (o:=.tup [tx [108,105,116],tx [98]]) z3;have b4:=za (o:=.lst [V.ref q1,V.ref q2,V.ref q3]) z4;refine q q4 _ (g0.trans (b1.trans (b2.trans (b3.trans b4)))) ⟨q4,_,rfl,jS (g0.trans (b1.trans (b2.trans b3))) z4 zb,?_⟩;have d1:=wU (jS g0 z1 ((b2.trans (b3.trans b4)) _ _ zb));have d2:=YI (jS (g0.trans b1) z2 ((b3.trans b4) _ _ zb));have d3:=wU (jS (g0.trans (b1.trans b2)) z3 (b4 _ _ zb));have d4:=d1.app (d2.app d3);rw [← we,← we] at d4;exact d4
  ·refine⟨_,by rw [← Z5 hk];exact iY.k (k:=.inr (S kind)) zb,?_⟩;intro q1 z1 q2 z2 q3 z3 q4 z4 q5 z5;have b1:=za (o:=.tup [tx [108,105,116],tx (Zw kind)]) z1;have b2:=za (o:=.lst [V.ref q1]) z2;have b3:=za (o:=.lst []) z3;have b4:=za (o:=.tup [tx [105,102],tx mk,V.ref q2,V.ref q3]) z4;have b5:=za (o:=.lst [V.ref q4]) z5;exact q q5 _ (g0.trans (b1.trans (b2.trans (b3.trans (b4.trans b5))))) ⟨q5,_,rfl,jS (g0.trans (b1.trans (b2.trans (b3.trans b4)))) z5 zb,Bn (jS (g0.trans (b1.trans (b2.trans b3))) z4 (b5 _ _ zb)) ⟨q2,_,rfl,jS (g0.trans b1) z2 ((b3.trans (b4.trans b5)) _ _ zb),wU (jS g0 z1 ((b2.trans (b3.trans (b4.trans b5))) _ _ zb))⟩ ⟨q3,_,rfl,jS (g0.trans (b1.trans b2)) z3 ((b4.trans b5) _ _ zb),rfl⟩⟩
  ·refine⟨_,by rw [← Z5 hk];exact iY.k (k:=.inr (S kind)) zb,?_⟩;intro q1 z1 q2 z2 q3 z3 q4 z4;have b1:=za (o:=.tup [tx [108,105,116],tx (Zw kind)]) z1;have b2:=za (o:=.lst [V.ref q1]) z2;have b3:=za (o:=.tup [tx [101,97,99,104],tx mk,V.ref q2]) z3;have b4:=za (o:=.lst [V.ref q3]) z4;exact q q4 _ (g0.trans (b1.trans (b2.trans (b3.trans b4)))) ⟨q4,_,rfl,jS (g0.trans (b1.trans (b2.trans b3))) z4 zb,Xc (jS (g0.trans (b1.trans b2)) z3 (b4 _ _ zb)) ⟨q2,_,rfl,jS (g0.trans b1) z2 ((b3.trans b4) _ _ zb),wU (jS g0 z1 ((b2.trans (b3.trans b4)) _ _ zb))⟩⟩
  ·refine⟨_,by rw [← Z5 hk];exact iY.k (k:=.inr (S kind)) zb,?_⟩;intro q1 z1 q2 z2 q3 z3 q4 z4;have b1:=za (o:=.tup [tx [108,105,116],tx (Zw kind)]) z1;have b2:=za (o:=.lst [V.ref q1]) z2;have b3:=za (o:=.tup [tx X9,tx JI,tx mk,tx [],V.ref q2]) z3;have b4:=za (o:=.lst [V.ref q3]) z4;exact q q4 _ (g0.trans (b1.trans (b2.trans (b3.trans b4)))) ⟨q4,_,rfl,jS (g0.trans (b1.trans (b2.trans b3))) z4 zb,YJ (jS (g0.trans (b1.trans b2)) z3 (b4 _ _ zb)) ⟨q2,_,rfl,jS (g0.trans b1) z2 ((b3.trans b4) _ _ zb),wU (jS g0 z1 ((b2.trans (b3.trans b4)) _ _ zb))⟩⟩
theorem ki {k d:Nat}(hk:10<=k)(hd:gS d<=100000)(T:Txt w K mg t)(D:Df K mg "_law_within" xV jx)(af:fW P w K mg fQ 2 "_law_part" qQ jg)(au:fW P w K mg fQ k "_law_good" qj (jj d)):fW P w K mg fQ (k+1) "_law_within" jx (xu d):=by
 refine D.ok yl ?_ ?_;walk_at "b"
 ·refine pk h λc lead kind close pa as L h=>?_;refine ng h λhP hkn q=>?_;refine⟨_,(zc (kL (qF au hr (lp (qF af hr (f6 (qv 0) ze)) (qv 2) (zr Xl (qv 4) ze) (qv 5))) (yY (n:=2) (by rfl) (zO (lz 6 yl.nd) (zO (lz 7 yl.nd) xR)))) (zd (zg (zh (f6 (zr qE (zr qE (zl (f9 (zh (f6 (qS fE) (qv 1))))) (qv 6)) (zl (f9 (zh (f6 (qS fE) (qv 3)))))) (qv 7)))))).h,?_⟩
  walk_at "rd";intro H1 g1;refine⟨by lia,as,L,hP.mono g1,hkn,λr ps y L' H2 hr hres ht hg=>?_⟩;obtain⟨rp,p,fa,da,xs,rfl,hp,⟨_,vs,e,hfa,hds⟩,hda,np,nd,hxl⟩:=hr;cases e;have R1:=Rp.same hP.lie g1;have R2:=R1.trans rp;refine⟨p,rfl,_,f7.of hp,rfl,_,_,rfl,_,_,rfl,rfl,λq1 h1 q2 h2=>?_⟩;have a1:=za (o:=.tup [tx [108,105,116],tx lead]) h1;have a2:=za (o:=.lst [V.ref q1]) h2;have A2:=a1.trans a2;have l1:=hds.len;rw [qB] at l1;have l2:=xY ps;have l3:=hg.sz;refine⟨fa,rfl,_,zb,vs,A2 _ _ (Qs _ _ hfa),by show 1+vs.length<=16777216;lia,λq3 h3 q4 h4 q5 h5=>?_⟩;have a3:=za (o:=.lst ([V.ref q1]++vs)) h3;have a4:=za (o:=.tup [tx [108,105,116],tx close]) h4;have a5:=za (o:=.lst [V.ref q4]) h5;have A3:=A2.trans a3;refine⟨_,(a4.trans a5) _ _ zb,_,zb,by rw [uc,uu,uu];lia,λq6 h6 q7 h7=>?_⟩;have a6:=za (o:=.lst ([V.ref q1]++vs++[V.ref q4])) h6;have a7:=za (o:=.tup [V.ref q6,V.ref da]) h7;have A5:=A3.trans (a4.trans a5);have A7:=A5.trans (a6.trans a7);have N:∀ {x:Addr} {o:HO} {Hi Hx:Hp},fO H2 Hi->Hi x=none->Hx x=some o->nw H Hx x=some o:=λg z e=>Vf hP.lie R2 (none_of g z) e;refine q _ ps y L' _ ⟨R2.trans (Rp.same rp.2 A7),q7,q6,da,xs,rfl,zb,⟨q6,_,rfl,N A5 h6 (a7 _ _ zb),?_⟩,A7 _ _ hda,R2.fresh hP.lie (none_of (A5.trans a6) h7),none_of g1 nd,?_⟩ hres ht hg
  ·show fZ _ (iB ([.lit lead]++ps++[.lit close])) _;rw [we,we];exact((wU (N (fO.refl _) h1 ((a2.trans (a3.trans (a4.trans (a5.trans (a6.trans a7))))) _ _ zb))).app (hds.mono ((Zx hP.lie R1).trans (xH A7)))).app (wU (N A3 h4 ((a5.trans (a6.trans a7)) _ _ zb)))
  ·show xs.length<=fY ([.lit lead]++ps++[.lit close]);rw [z9,z9];lia
theorem vG {k d:Nat}(hk:10<=k)(hd:gS d<=100000)(T:Txt w K mg t)(D:Df K mg "_law_compound" wF qr)(ae:fW P w K mg fQ 1 "_law_mix" qT jf)(af:fW P w K mg fQ 2 "_law_part" qQ jg)(cf:fW P w K mg fQ k "_law_within" jx (xu d))(au:fW P w K mg fQ k "_law_good" qj (jj d)):fW P w K mg fQ (k+1) "_law_compound" qr (wg d):=by
 refine D.ok zF ?_ ?_;walk_at "b"
 ·refine lO h λc kind pa as L h=>?_;refine ng h λhP hkn q=>?_;refine⟨_,(zc (ip 4 zF.nd (qF ae hr (iw (qv 0) ze ze))) (zc (zm (ia zu (qv 1) (qS fw)) (zc (ip 5 zF.nd (ml K (zl (iw (qS [32,113,61,34]) (qS [32,114,40,121,44]) (qS [32,116,33,34,119,32,39]))) (qv 4))) (zd (zg (qF cf hr (qP (by exact(qv 0)) (by exact(mD (qv 5) (ml K (zl (iw (qS fv) (qS fu) (qS e9))) (qv 4)) (ml K (zl (iw (qS [34]) (qS [41]) (qS [39,34]))) (qv 4)) (qv 2) (qv 3)))))))) zi) (zc (zm (ia zu (qv 4) ze) (zd (kL (qF cf hr (qP (by exact(qv 0)) (by exact(mD (qS [60,98,32,119,58]) (qS fq) (qS [62]) (qv 2) (qv 3))))) (yY (n:=2) (by rfl) (zO (lz 6 zF.nd) (zO (lz 7 zF.nd) xR))))) (zd (kL (qF cf hr (qP (by exact(qv 0)) (by exact(mD (qS [60,98,32,97,61,34,120,34]) (qS fw) (qS [62]) (qv 2) (qv 3))))) (yY (n:=2) (by rfl) (zO (lz 6 zF.nd) (zO (lz 7 zF.nd) xR)))))) (zc (kL (qF au hr (lp (qF af hr (f6 (qv 0) ze)) (qS fj) (zr Xl (qv 2) ze) (qv 3))) (yY (n:=2) (by rfl) (zO (lz 8 zF.nd) (zO (lz 9 zF.nd) xR)))) (zd (zg (zh (f6 (zr qE (zr qE (qv 6) (qv 8)) (zl (f9 (zh (f6 (qS fE) (qS [60,47,98,62])))))) (zr qE (qv 7) (qv 9)))))))))).h,?_⟩
  walk_at "hd";intro H1 g1
  walk_at "hd";have hm3:ix c 4 3<3:=by have:=Ww (c:=c) (k:=4) (m:=3) (by decide);lia
  have R1:=Rp.same hP.lie g1;by_cases hkd:kind=[100,111,110,101]
  ·rw [ue hkd];intro q1 h1;generalize hm:ix c 4 3=m at hm3;have:m=0\/m=1\/m=2:=by lia
   have fin:∀ (q2 q3:Addr) (o1 o2 o3:HO),H1 q1=none->upd H1 q1 o1 q2=none->upd (upd H1 q1 o1) q2 o2 q3=none->fO H1 (upd (upd (upd H1 q1 o1) q2 o2) q3 o3):=λq2 q3 o1 o2 o3 z1 z2 z3=>(za z1).trans ((za z2).trans (za z3));have rd:=λ{ps y}=>Ow (d:=d) (a:=ps) (y:=y) this;rw [hkd] at q;have hb:∀ {t u:Tx} {ps:List Pc},oA d ps->t.length<=8->u.length<=4->ot (d+1) (.lit t::ps++[.lit u]):=FL;rcases this with rfl | rfl | rfl
   all_goals
    refine⟨_,ij.of zb,_,rfl,λq2 h2=>⟨_,ij.of zb,_,rfl,λq3 h3=>⟨_,ij.of zb,_,rfl,_,rfl,_,rfl,_,rfl,as,L,hP.mono (g1.trans (fin _ _ _ _ _ h1 h2 h3)),by first | exact .quoted | exact .row | exact .said,λr ps y L' H5 hr res tl gd=>?_⟩⟩⟩;exact q r _ y L' _ (hr.pre hP.lie (g1.trans (fin _ _ _ _ _ h1 h2 h3))) ((rd λkd' e _=>by subst e;exact res).mono (UA d)) tl (hb gd (by decide) (by decide))
  rw [ub hkd];obtain rfl:kind=zP:=hkn.resolve_right hkd
  walk_at "hd";split
  all_goals
   refine⟨as,L,hP.mono g1,by first | exact .bare | exact .done,λr ps y L1 H2 hr res tl gd=>?_⟩;obtain⟨rp,p,fa,da,xs,rfl,hp,⟨_,vs,e,hfa,hds⟩,hda,np,nd,hxl⟩:=hr;cases e;have R2:=R1.trans rp;refine⟨p,rfl,_,f7.of hp,rfl,_,_,rfl,_,_,rfl,rfl,?_⟩
   walk_at "hd";refine λH3 g3=>⟨by lia,as,L1,(hP.go R2 tl).mono g3,.text,λr ps2 y2 Lb H4 hr res2 tl2 gd2=>?_⟩
   obtain⟨rp4,p',fb,db,ys,rfl,hp',⟨_,us,e,hfb,hdu⟩,hdb,np',nd',hyl⟩:=hr;cases e;have R3:=R2.trans (Rp.same rp.2 g3);have R4:=R3.trans rp4;have R34:=(Rp.same rp.2 g3).trans rp4;have O:∀ {x:Addr} {o:HO},H x=none->H2 x=some o->H4 x=some o:=λz e=>R34.old (λy=>hP.lie.some _ y z) e;have nfa:H fa=none:=by have:=Zx hP.lie R1 _ _ hfa;unfold nw at this;split at this;assumption;cases this
   have l1:=hds.len;rw [qB] at l1;have l2:=xY ps;have l3:=gd.sz;have l4:=hdu.len;rw [qB] at l4;have l5:=xY ps2;have l6:=gd2.sz;simp only [uo,uc,UG] at l1;refine⟨p',rfl,_,f7.of hp',rfl,_,_,rfl,_,_,rfl,rfl,?_⟩
   walk_at "hd";refine⟨vs,O nfa (Qs _ _ hfa),us,Qs _ _ hfb,by lia,λq1 h1 q2 h2 q3 h3=>?_⟩;have a1:=za (o:=.lst (vs++us)) h1;have a2:=za (o:=.tup [tx [108,105,116],tx [60,47,98,62]]) h2;have a3:=za (o:=.lst [V.ref q2]) h3;have A3:=a1.trans (a2.trans a3);refine⟨_,(a2.trans a3) _ _ zb,_,zb,by rw [uc,uu];lia,λq4 h4=>?_⟩;have a4:=za (o:=.lst (vs++us++[V.ref q2])) h4;have A4:=A3.trans a4;simp only [fY,iq,z9] at hxl;refine⟨xs,A4 _ _ (O (none_of g1 nd) hda),ys,A4 _ _ hdb,by lia,λq5 h5 q6 h6=>?_⟩;have a5:=za (o:=.lst (xs++ys)) h5;have a6:=za (o:=.tup [V.ref q4,V.ref q5]) h6;have A6:=A4.trans (a5.trans a6);have N:∀ {x:Addr} {o:HO} {Hi Hx:Hp},fO H4 Hi->Hi x=none->Hx x=some o->nw H Hx x=some o:=λg z e=>Vf hP.lie R4 (none_of g z) e;have F:∀ {x:Addr} {Hi:Hp},fO H4 Hi->Hi x=none->H x=none:=λg z=>R4.fresh hP.lie (none_of g z);have D:=((hds.mono ((Zx hP.lie R1).trans ((su R34 hP.lie.some).trans (xH A6)))).app (hdu.mono ((Zx hP.lie R3).trans (xH A6)))).app (wU (N a1 h2 ((a3.trans (a4.trans (a5.trans a6))) _ _ zb)));rw [← we,← we] at D;refine q _ _ (y <|> y2) Lb _ ⟨R4.trans (Rp.same rp4.2 A6),q6,q4,q5,xs++ys,rfl,zb,⟨q4,_,rfl,N A3 h4 ((a5.trans a6) _ _ zb),D⟩,a6 _ _ zb,F (A4.trans a5) h6,F A4 h5,?_⟩ ?_ (tl.app tl2) ?_
   ·rw [z9,z9];simp only [fY,iq,z9,uc];lia
   ·first
    | exact Eh (m:=0) (.inl ⟨rfl,rfl⟩) res res2
    | exact Eh (m:=1) (.inr ⟨rfl,by decide⟩) res res2
   ·exact LS gd gd2 (by decide) (by decide) (by decide)
noncomputable def pG (c:Int)(kind:Tx)(d:Nat)(pa:Addr):L2.St:=[some (V.int c),some (V.str (S kind)),some (V.int d),some (V.ref pa),some (V.int (ix c 1 8)),some (V.str (S (Qt c))),none,none,none,none]
theorem yR {k d:Nat}(hk:10<=k)(hd:gS d<=100000)(hd3:d<=3)(T:Txt w K mg t)(D:Df K mg "_law_some" yB wc)(ae:fW P w K mg fQ 1 "_law_mix" qT jf)(af:fW P w K mg fQ 2 "_law_part" qQ jg)(cB:fW P w K mg fQ k "_law_compound" qr (λvs H Q E=>∃ d',d=d' + 1/\wg d' vs H Q E))(au:fW P w K mg fQ k "_law_good" qj (λvs H Q E=>∃ d',d=d' + 1/\jj d' vs H Q E)):fW P w K mg fQ (k+1) "_law_some" wc (vO d):=by
 refine D.ok jJ ?_ ?_;walk_at "b"
 ·refine lO h λc kind pa as L h=>?_;refine ng h λhP hkn q=>?_;refine⟨_,(zc (ip 4 jJ.nd (qF ae hr (iw (qv 0) ze ze))) (zc (ip 5 jJ.nd (ml K (zl (lp (qS [97]) (qS [97,98]) (qS [119,104,111]) (qS [98]))) (qF ae hr (iw (qv 0) ze ze)))) (zc (zm (QW.qt (xK (ia zu (qv 4) ze) (wC (ia tR (qv 1) (qS fw))))) (zd (zg (zh (f6 (zl (f9 (zh (f6 (qS fF) (qv 5))))) (zl (f9 (zh (f6 (qv 5) (qv 1))))))))) zi) (zc (zm (QW.qt (XH (ia tZ (qv 4) ze) (XH (ia zu (qv 2) ze) (Yw (QW.qt (xK (ia Xn (qv 4) ze) (wC (ia (Xx (K:=K) (by rfl)) (qv 1) (zh (f6 (qS fj) (qS fw))))))))))) (zd (zg (zh (f6 (zl (f9 (zh (f6 (qS fE) (Jz (VM hr) (W5 (jL (by exact(qS fj)) (by exact(qS [120,32,121,38,48,53,59])) (jL (by exact(qS fw)) (by exact(qS [32,99,61,34,121,34])) W4)) (by rfl) (by rfl) (by intro z;cases z) (by decide)) (qv 1) (qS [122,48]) (by exact⟨rfl,rfl,rfl,rfl⟩)))))) (zl zC))))) zi) (zc (zm (ia Xn (qv 4) ze) (zd (zg (qF cB hr (lp (qv 0) (qv 1) (qv 2) (qv 3))))) zi) (zc (kL (qF au hr (lp (qF af hr (f6 (qv 0) ze)) (qv 1) (zr Xl (qv 2) ze) (qv 3))) (yY (n:=2) (by rfl) (zO (lz 6 jJ.nd) (zO (lz 7 jJ.nd) xR)))) (zc (zm (ia zu (qv 4) ze) (zd (zg (zh (f6 (zl (f9 (zh (iw (qS fz) (qv 5) (qv 6))))) (qv 7))))) zi) (zc (zm (ia zu (qv 4) ze) (zc (ip 8 jJ.nd (qF au hr (lp (qF af hr (f6 (qv 0) ze)) (qv 1) (zr Xl (qv 2) ze) (qv 3)))) (zd (zg (zh (f6 (zl (f9 (zh (lp (qS fA) (qv 5) (qv 6) (ic K (qv 8) ze))))) (zr qE (qv 7) (ic K (qv 8) ze))))))) zi) (zc (ip 9 jJ.nd (ml K (zl (iw (qS [98,108,111,99,107]) (qS [101,108,100,101,114]) (qS fG))) (qF ae hr (iw (qv 0) ze ze)))) (zd (zg (zh (f6 (zl (f9 (zh (mD (qS fD) (qv 9) (qS [97]) (ml K (zl (f6 (qS [98]) (qS []))) (JY Rt (by rfl) T.z_int Dy (f9 (nW zu (qv 9) (qS fG))))) (qv 6))))) (qv 7)))))))))))))).h,?_⟩;have hm8:ix c 1 8<8:=by have:=Ww (c:=c) (k:=1) (m:=8) (by decide);lia
  have hm4:ix c 2 4<4:=by have:=Ww (c:=c) (k:=2) (m:=4) (by decide);lia
  obtain⟨nm1,nm2⟩:=Mv c;have F0:∀ {x:Addr} {H':Hp},fO H H'->H' x=none->H x=none:=λg z=>none_of g z
  refine PZ (λσ' H'=>σ' = pG c kind d pa/\fO H H') ?_ (λN hN=>by
   walk_at "rd"
   intro H1 g1 p hp H2 g2
   have a1:=za (o:=.lst [V.str (S [97]),V.str (S [97,98]),V.str (S [119,104,111]),V.str (S [98])]) hp
   refine⟨_,ij.of (g2 _ _ zb),V.str (S (Qt c)),?_,hN _ _ ⟨rfl,g1.trans (a1.trans g2)⟩⟩
   unfold Qt
   have:ix c 2 4=0\/ix c 2 4=1\/ix c 2 4=2\/ix c 2 4=3:=by lia
   rcases this with e | e | e | e<;>rw [e]<;>rfl)
  rintro σ1 H1 ⟨rfl,g1⟩
  refine X8 (λσ' H'=>σ' = pG c kind d pa/\fO H H'/\¬ (ix c 1 8=1/\kind≠xr)) ?_ (λN hN=>by
   unfold pG
   walk_at "rd"
   by_cases h1:ix c 1 8=1
   ·rw [ue (by lia)]
    by_cases h2:kind=[100,111,110,101]
    ·rw [ub (by simp [h2])]
     exact hN _ _ ⟨rfl,g1,λz=>z.2 h2⟩
    ·rw [ue (by simp [h2])]
     intro q1 z1 q2 z2 q3 z3 q4 z4 q5 z5
     have b1:=za (o:=.tup [tx [104,111,108,101],tx (Qt c)]) z1
     have b2:=za (o:=.lst [V.ref q1]) z2
     have b3:=za (o:=.tup [tx (Qt c),tx kind]) z3
     have b4:=za (o:=.lst [V.ref q3]) z4
     have b5:=za (o:=.tup [V.ref q2,V.ref q4]) z5
     have B3:=b3.trans (b4.trans b5)
     have G:=g1.trans (b1.trans (b2.trans B3))
     exact q _ _ none L _ ⟨Rp.same hP.lie G,q5,q2,q4,[V.ref q3],rfl,zb,⟨q2,_,rfl,jS (g1.trans b1) z2 (B3 _ _ zb),YI (jS g1 z1 ((b2.trans B3) _ _ zb))⟩,b5 _ _ zb,none_of (g1.trans (b1.trans (b2.trans (b3.trans b4)))) z5,none_of (g1.trans (b1.trans (b2.trans b3))) z4,by simp [fY,iq]⟩ (.ok (OB hkn h2 nm1)) .rfl (MB nm2)
   ·rw [ub (by lia)]
    exact hN _ _ ⟨rfl,g1,λz=>h1 z.1⟩)
  rintro σ2 H2 ⟨rfl,g2,n1⟩
  refine X8 (λσ' H'=>σ' = pG c kind d pa/\fO H H'/\¬ (ix c 1 8<2\/d=0\/(4<ix c 1 8/\kind≠zP/\kind≠xr))) ?_ (λN hN=>by
   unfold pG
   walk_at "rd"
   have lit:∀ (H0:Hp),fO H H0->∀ (p:Addr),H0 p=none->upd H0 p (HO.dK []) p=some (HO.dK []) /\
     ∃ kvs:List (Key×V),[(V.str (S [116,101,120,116]),V.str (S [120,32,121,38,48,53,59])),(V.str (S [100,111,110,101]),V.str (S [32,99,61,34,121,34]))]=List.map (λkv=>(kV kv.fst,kv.snd)) kvs/\kvs.length<=15/\C3 (upd (upd H0 p (HO.dK [])) p (HO.dK (qW [] kvs))) p /\
     ∃ o,iY (upd (upd H0 p (HO.dK [])) p (HO.dK (qW [] kvs))) p (V.str (S kind)) o/\∀ (p_1:Addr),upd (upd H0 p (HO.dK [])) p (HO.dK (qW [] kvs)) p_1=none->∀ (p_2:Addr),upd (upd (upd H0 p (HO.dK [])) p (HO.dK (qW [] kvs))) p_1 (HO.tup [V.str (S [108,105,116]),o.getD (V.str (S [122,48]))]) p_2=none ->
     ∀ (p_3:Addr),upd (upd (upd (upd H0 p (HO.dK [])) p (HO.dK (qW [] kvs))) p_1 (HO.tup [V.str (S [108,105,116]),o.getD (V.str (S [122,48]))])) p_2 (HO.lst [V.ref p_1]) p_3=none->∀ (p_4:Addr),upd (upd (upd (upd (upd H0 p (HO.dK [])) p (HO.dK (qW [] kvs))) p_1 (HO.tup [V.str (S [108,105,116]),o.getD (V.str (S [122,48]))])) p_2 (HO.lst [V.ref p_1])) p_3 (HO.lst []) p_4=none ->
     Q (V.ref p_4) (upd (upd (upd (upd (upd (upd H0 p (HO.dK [])) p (HO.dK (qW [] kvs))) p_1 (HO.tup [V.str (S [108,105,116]),o.getD (V.str (S [122,48]))])) p_2 (HO.lst [V.ref p_1])) p_3 (HO.lst [])) p_4 (HO.tup [V.ref p_2,V.ref p_3])):=by
    intro H0 g0 p hp
    have g5:fO H0 (upd (upd H0 p (HO.dK [])) p (HO.dK (qW [] nA))):=JL hp
    refine⟨zb,nA,rfl,by decide,.inl ⟨_,.inl zb⟩,_,iY.k (k:=.inr (S kind)) zb,?_⟩
    rw [Mw]
    intro q1 z1 q2 z2 q3 z3 q4 z4
    have b1:=za (o:=.tup [tx [108,105,116],tx (nZ kind)]) z1
    have b2:=za (o:=.lst [V.ref q1]) z2
    have b3:=za (o:=.lst []) z3
    have b4:=za (o:=.tup [V.ref q2,V.ref q3]) z4
    have G5:=g0.trans g5
    exact q _ _ none L _ ⟨Rp.same hP.lie (G5.trans (b1.trans (b2.trans (b3.trans b4)))),q4,q2,q3,[],rfl,zb,⟨q2,_,rfl,jS (G5.trans b1) z2 ((b3.trans b4) _ _ zb),wU (jS G5 z1 ((b2.trans (b3.trans b4)) _ _ zb))⟩,b4 _ _ zb,none_of (G5.trans (b1.trans (b2.trans b3))) z4,none_of (G5.trans (b1.trans b2)) z3,by simp⟩ (.ok (OC hkn)) .rfl (LV (by cases hkn<;>decide))
   split
   ·exact lit H2 g2
   ·split
    ·exact lit H2 g2
    ·split
     ·intro p hp
      have b0:=za (o:=.tup [V.str (S [116,101,120,116]),V.str (S [100,111,110,101])]) hp
      refine⟨_,.inr (f7.of zb),rfl,rfl,?_⟩
      by_cases h:kind=zP\/kind=xr
      ·have hin:rB (V.str (S kind)) [V.str (S [116,101,120,116]),V.str (S [100,111,110,101])]=true:=by
        rcases h with rfl | rfl<;>decide
       rw [hin,ub (by decide)]
       refine hN _ _ ⟨rfl,g2.trans b0,?_⟩
       rintro(z | z | z)
       ·lia
       ·lia
       ·rcases h with h | h
        ·exact z.2.1 h
        ·exact z.2.2 h
      ·have hin:rB (V.str (S kind)) [V.str (S [116,101,120,116]),V.str (S [100,111,110,101])]=false:=by
        have k1:¬ S kind=S [116,101,120,116]:=λz=>h (.inl (yu.mp z))
        have k2:¬ S kind=S [100,111,110,101]:=λz=>h (.inr (yu.mp z))
        have k3:¬ S [116,101,120,116]=S kind:=λz=>k1 z.symm
        have k4:¬ S [100,111,110,101]=S kind:=λz=>k2 z.symm
        simp [rB,mZ,k1,k2,k3,k4]
       rw [hin,ue (by decide)]
       exact lit _ (g2.trans b0)
     ·exact hN _ _ ⟨rfl,g2,by lia⟩)
  rintro σ3 H3 ⟨rfl,g3,n2⟩;obtain⟨d',rfl⟩:∃ d',d=d' + 1:=⟨d - 1,by lia⟩
  refine X8 (λσ' H'=>σ' = pG c kind (d' + 1) pa/\fO H H'/\¬ 4<ix c 1 8) ?_ (λN hN=>by
   unfold pG
   walk_at "rd"
   split
   ·rename_i h4
    refine⟨as,L,hP.mono g3,?_,λr ps y L' H' hr res tl sm=>q r ps y L' H' (hr.pre hP.lie g3) res tl sm⟩
    by_cases e:kind=zP
    ·exact .inl e
    ·exact .inr (Classical.byContradiction λe2=>n2 (.inr (.inr ⟨by lia,e,e2⟩)))
   ·rename_i h4
    exact hN _ _ ⟨rfl,g3,by lia⟩)
  rintro σ4 H4 ⟨rfl,g4,n3⟩;unfold pG
  walk_at "rd";have hgd:gS (d' + 1)=3 * (2 * gS d' + 9):=rfl;intro H5 g5;have G5:=g4.trans g5;have R5:=Rp.same hP.lie G5;refine⟨by lia,as,L,hP.mono G5,hkn,λr ps y L1 H6 hr res tl gd=>?_⟩;obtain⟨rp,p,fa,da,xs,rfl,hp,hfa,hda,np,nd,hxl⟩:=hr;have R6:=R5.trans rp;have gsz:=gd.sz;refine⟨p,rfl,_,f7.of hp,rfl,_,_,rfl,_,_,rfl,rfl,?_⟩;have N:∀ {x:Addr} {o:HO} {Hi Hx:Hp},fO H6 Hi->Hi x=none->Hx x=some o->nw H Hx x=some o:=λg z e=>Vf hP.lie R6 (none_of g z) e;have F:∀ {x:Addr} {Hi:Hp},fO H6 Hi->Hi x=none->H x=none:=λg z=>R6.fresh hP.lie (none_of g z);by_cases h2:ix c 1 8=2
  ·rw [ue (by lia)];intro q1 z1 q2 z2 q3 z3;have b1:=za (o:=.tup [tx [101,97,99,104],tx (Qt c),.ref fa]) z1;have b2:=za (o:=.lst [V.ref q1]) z2;have b3:=za (o:=.tup [V.ref q2,V.ref da]) z3;have B2:=b1.trans b2;have B:=B2.trans b3;exact q _ _ y L1 _ ⟨R6.trans (Rp.same rp.2 B),q3,q2,da,xs,rfl,zb,⟨q2,_,rfl,N b1 z2 (b3 _ _ zb),Xc (N (fO.refl _) z1 ((b2.trans b3) _ _ zb)) (hfa.mono ((Zx hP.lie R5).trans (xH B)))⟩,B _ _ hda,F B2 z3,none_of G5 nd,by simp only [fY,iq];lia⟩ (OA (res.mono (UA d')) nm1) tl (MA gd)
  ·rw [ub (by lia)];by_cases h3:ix c 1 8=3
   ·rw [ue (by lia)];intro H7 g7;have R7:=R6.trans (Rp.same rp.2 g7);refine⟨by lia,as,L1,(hP.go R6 tl).mono g7,hkn,λr ps2 y2 L2 H8 hr res2 tl2 gd2=>?_⟩;obtain⟨rp8,pr2,fb,db,ys,rfl,hpr2,hfb,hdb,np2,nd2,hyl⟩:=hr;have R8:=R7.trans rp8;have R68:=(Rp.same rp.2 g7).trans rp8;have gsz2:=gd2.sz;have N8:∀ {x:Addr} {o:HO} {Hi Hx:Hp},fO H8 Hi->Hi x=none->Hx x=some o->nw H Hx x=some o:=λg z e=>Vf hP.lie R8 (none_of g z) e;have F8:∀ {x:Addr} {Hi:Hp},fO H8 Hi->Hi x=none->H x=none:=λg z=>R8.fresh hP.lie (none_of g z);refine⟨pr2,rfl,_,f7.of hpr2,_,rfl,λq1 z1 q2 z2=>?_⟩;have b1:=za (o:=.tup [tx [105,102],tx (Qt c),.ref fa,.ref fb]) z1;have b2:=za (o:=.lst [V.ref q1]) z2;have B2:=b1.trans b2;refine⟨pr2,rfl,_,f7.of (B2 _ _ hpr2),_,rfl,da,rfl,db,rfl,xs,B2 _ _ (R68.old (λy=>hP.lie.some _ y (none_of G5 nd)) hda),ys,B2 _ _ hdb,by lia,λq3 z3 q4 z4=>?_⟩;have b3:=za (o:=.lst (xs++ys)) z3;have b4:=za (o:=.tup [V.ref q2,V.ref q3]) z4;have B3:=B2.trans b3;have B:=B3.trans b4;exact q _ _ (y <|> y2) L2 _ ⟨R8.trans (Rp.same rp8.2 B),q4,q2,q3,xs++ys,rfl,zb,⟨q2,_,rfl,N8 b1 z2 ((b3.trans b4) _ _ zb),Bn (N8 (fO.refl _) z1 ((b2.trans (b3.trans b4)) _ _ zb)) (hfa.mono ((Zx hP.lie R5).trans ((su R68 hP.lie.some).trans (xH B)))) (hfb.mono ((Zx hP.lie R7).trans (xH B)))⟩,b4 _ _ zb,F8 B3 z4,F8 B2 z3,by rw [uc];simp only [fY,iq];lia⟩ (MG (res.mono (UA d')) (res2.mono (UA d')) nm1) (tl.app tl2) (LU gd gd2)
   ·rw [ub (by lia)];intro q0 z0 H7 g7;have b0:=za (o:=.lst [V.str (S [98,108,111,99,107]),V.str (S [101,108,100,101,114]),V.str (S [100,114,97,119])]) z0;have hm3:ix c 3 3<3:=by have:=Ww (c:=c) (k:=3) (m:=3) (by decide);lia
    refine⟨_,ij.of (g7 _ _ zb),V.str (S (Ve c)),?_,λq1 z1=>⟨rfl,_,ij.of zb,V.str (S (if Ve c=[100,114,97,119] then [] else [98])),?_,λq2 z2 q3 z3 q4 z4=>?_⟩⟩
    ·unfold Ve;have:ix c 3 3=0\/ix c 3 3=1\/ix c 3 3=2:=by lia
     rcases this with e | e | e<;>rw [e]<;>rfl
    ·by_cases hw:Ve c=[100,114,97,119]
     ·rw [ue (by rw [hw]),ue hw];rfl
     ·rw [ub (show ¬ V.str (S (Ve c))=V.str (S [100,114,97,119]) from zE hw),ub hw];rfl
    ·have b1:=za (o:=.lst [V.str (S [98]),V.str (S [])]) z1;have b2:=za (o:=.tup [tx [115,101,97,116],tx (Ve c),tx [97],tx (if Ve c=[100,114,97,119] then [] else [98]),.ref fa]) z2;have b3:=za (o:=.lst [V.ref q2]) z3;have b4:=za (o:=.tup [V.ref q3,V.ref da]) z4;have B1:=b0.trans (g7.trans b1);have B2:=B1.trans b2;have B3:=B2.trans b3;have B:=B3.trans b4;exact q _ _ y L1 _ ⟨R6.trans (Rp.same rp.2 B),q4,q3,da,xs,rfl,zb,⟨q3,_,rfl,N B2 z3 (b4 _ _ zb),YJ (N B1 z2 ((b3.trans b4) _ _ zb)) (hfa.mono ((Zx hP.lie R5).trans (xH B)))⟩,B _ _ hda,F B3 z4,none_of G5 nd,by simp only [fY,iq];lia⟩ (Oz (res.mono (UA d')) (by unfold Mk;decide) (by lia)) tl (Mz gd)
def goI (d:Nat)(c:Int)(kind:Tx)(pa:Addr)(as:Le)(L:List iC)(H:Hp)(i:Nat)(σ:L2.St)(H':Hp):Prop:=∃ (fa da:Addr) (vs xs:List V) (ps:List Pc) (y:Option (Fw×Tx)) (L':List iC) (o6 o7 o8:Option V),σ=[some (V.int c),some (V.str (S kind)),some (V.int d),some (V.ref pa),some (V.ref fa),some (V.ref da),o6,o7,o8]/\Rp as H H' L'/\nw H H' fa=some (.lst vs)/\fZ (nw H H') (iB ps) vs/\H' da=some (.lst xs)/\H da=none/\xs.length<=fY ps/\ig d kind [] kind [] ps y/\lr L L' y/\pQ d i ps
def giI (d:Nat)(c:Int)(kind:Tx)(pa da:Addr)(as:Le)(i:Nat)(H H2:Hp)(ps:List Pc)(L1:List iC)(o8:Option V)(j:Nat)(σ:L2.St)(H':Hp):Prop:=∃ (fa:Addr) (vs:List V) (o7:Option V),σ=[some (V.int c),some (V.str (S kind)),some (V.int d),some (V.ref pa),some (V.ref fa),some (V.ref da),some (V.int i),o7,o8]/\Rp as H2 H' ((lF kind (L1.take j)).2++L1.drop j)/\nw H H' fa=some (.lst vs)/\fZ (nw H H') (iB (ps++(lF kind (L1.take j)).1)) vs
theorem yS {k d:Nat}(hk:20<=k)(hd:gS d<=100000)(T:Txt w K mg t)(D:Df K mg "_law_good" yA qj)(ae:fW P w K mg fQ 1 "_law_mix" qT jf)(af:fW P w K mg fQ 2 "_law_part" qQ jg)(ao:fW P w K mg fQ 1 "_law_fault" jl jO)(cF:fW P w K mg fQ k "_law_some" wc (vO d)):fW P w K mg fQ (k+1) "_law_good" qj (jj d):=by
 refine D.ok qu ?_ ?_;walk_at "b"
 ·refine lO h λc kind pa as L h=>?_;refine ng h λhP hkn q=>?_;refine⟨_,(zc (ip 4 qu.nd (zl zC)) (zc (ip 5 qu.nd (zl zC)) (zc (vB PassesOwn.never (by rfl) (V2 (by rfl) T.z_range (f9 (qF ae hr (iw (qv 0) ze ze)))) (lz 6 qu.nd) (zc (vB PassesOwn.never (by rfl) (xg (K:=K) (by rfl) (qv 3)) (lz 7 qu.nd) (zc (kL (zr Xl (ml K (qv 7) ze) ze) (DD (qv 7) ze set_list (by intro _;rfl))) (zd (zm (ia zu (ml K (qv 7) ze) ze) (zd (ip 4 qu.nd (zr qE (qv 4) (qF ao hr (iw (ml K (qv 7) ze) (ml K (qv 7) ze) (qv 1)))))) zi)))) (zc (ip 8 qu.nd (qF cF hr (lp (qF af hr (f6 (qv 0) (qv 6))) (qv 1) (qv 2) (qv 3)))) (zc (ip 4 qu.nd (zr qE (qv 4) (ic K (qv 8) ze))) (zd (ip 5 qu.nd (zr qE (qv 5) (ic K (qv 8) ze)))))))) (zd (zg (zh (f6 (qv 4) (qv 5)))))))).h,?_⟩
  walk_at "hd";intro p hp
  walk_at "hd";intro p1 hp1
  walk_at "hd";intro H1 g1;have hm4:ix c 5 4<4:=by have:=Ww (c:=c) (k:=5) (m:=4) (by decide);lia
  have a1:=za (o:=.lst []) hp;have a2:=za (o:=.lst []) hp1;have A1:=a1.trans (a2.trans g1);refine⟨by lia,by lia,KI (goI d c kind pa as L H) ⟨p,p1,[],[],[],none,L,_,_,_,rfl,Rp.same hP.lie A1,jS (fO.refl _) hp ((a2.trans g1) _ _ zb),by simp only [iB];rfl,g1 _ _ zb,none_of a1 hp1,by simp,.ok .nil,.rfl,.nil⟩ ?_ ?_⟩
  ·rintro i σ H2 hi ⟨fa,da,vs,xs,ps,y,L1,o6,o7,o8,rfl,R2,hfa,hds,hda,nda,hxl,res,tl,rw_⟩;have hi:i<3:=by lia
   have hP2:=hP.go R2 tl;have hla:=hP2.lie.len
   walk_at "hd";refine⟨⟨_,ij.of hP2.at_⟩,vI (K:=K) (a:=pa) (xs:=as.map .ref) (giI d c kind pa da as i H H2 ps L1 o8) ⟨fa,vs,_,rfl,Rp.same hP2.lie (fO.refl _),hfa,by simpa [lF] using hds⟩ ?_ ?_ ?_⟩
   ·rintro j σ H' _ ⟨fa,vs,o7,rfl,R3,_⟩;exact ij.of (R3.old hP2.out hP2.at_)
   ·rintro j v σ H3 hj ⟨fa3,vs3,o7,rfl,R3,hfa3,hds3⟩;obtain⟨a,ha,rfl⟩:=Dn hj;have hjl:j<L1.length:=by have:=(uA.mp ha).1;lia
    obtain⟨⟨cc,wd,mk⟩,hx⟩:∃ x:iC,L1[j]? = some x:=⟨L1[j]'hjl,ux hjl⟩
    obtain⟨e1,e2⟩:=D8 hx;rw [e1] at R3;have hA:(lF kind (L1.take j)).2.length=j:=by rw [D9,Uq];lia
    have ha':as[(lF kind (L1.take j)).2.length]? = some a:=by rw [hA];exact ha
    have h0:=Dp R3.2 ha';have hmk:Mk mk:=hP2.mks (wd,mk) (U7.mpr ⟨_,uP hx,rfl⟩);have hmt:nQ (L1.take j):=λp hp=>hP2.mks p (by obtain⟨z,h1,h2⟩:=U7.mp hp;exact U7.mpr ⟨z,List.mem_of_mem_take h1,h2⟩);have hp1:=Ea (cc - 1) R3.2 ha' hP.nd;have Rput:=Dq (uP ha) hp1;have eL:(lF kind (L1.take j)).2++(cc - 1,wd,mk)::L1.drop (j+1)=(lF kind (L1.take (j+1))).2++L1.drop (j+1):=by rw [e2,Vg,uz];rfl
    have eP:ps++(lF kind (L1.take (j+1))).1=ps++(lF kind (L1.take j)).1++(if cc - 1=0 then qI wd mk kind else []):=by rw [e2,Vg,uz]
    rw [eL] at Rput;have R3p:=R3.trans Rput;have S3:=su Rput hP.lie.some;have RH:=R2.trans R3p;have l0:=(rw_.gd (by lia)).sz;have l1:=hds3.len;rw [qB] at l1;have l2:=xY (ps++(lF kind (L1.take j)).1);rw [z9] at l2;have l3:=(Bt (n:=0) hkn hmt).sz;have l4:=hP2.two;rw [Uq] at l3
    walk_at "hd";refine⟨_,ij.of h0,_,zx _ _,_,rfl,_,h0,_,rfl,?_⟩
    walk_at "hi";refine⟨_,ij.of zb,_,zx _ _,rfl,?_⟩;by_cases e:cc - 1=0
    ·rw [ue (by rw [e])];rw [ue e] at eP
     walk_at "hd";refine⟨_,ij.of zb,_,q9 _ _ _,_,ij.of zb,_,Zv _ _ _ _,wd,rfl,mk,rfl,hmk,hkn,λfb H4 g4 hfb=>?_⟩;obtain⟨_,us,e',hfb',hdu⟩:=hfb;cases e';have l5:=hdu.len;rw [qB] at l5;have l6:=xY (qI wd mk kind);have l7:=(JJ (n:=0) (wd:=wd) hkn hmk).sz;refine⟨vs3,Qs _ _ (xH g4 _ _ (S3 _ _ hfa3)),us,Qs _ _ hfb',by lia,λq1 h1=>?_⟩;have b1:=za (o:=.lst (vs3++us)) h1;refine⟨q1,vs3++us,_,rfl,R3p.trans (Rp.same R3p.2 (g4.trans b1)),Vf hP.lie (RH.trans (Rp.same RH.2 g4)) h1 zb,?_⟩;rw [eP,we];exact(hds3.mono (S3.trans (xH (g4.trans b1)))).app (hdu.mono ((Zx hP.lie RH).trans (xH b1)))
    ·rw [ub (λz=>e (V.int.inj z))];rw [ub e,uj] at eP
     walk_at "hd";exact⟨fa3,vs3,_,rfl,R3p,S3 _ _ hfa3,by rw [eP];exact hds3.mono S3⟩
   ·rintro σ H3 ⟨fa3,vs3,o7,rfl,R3,hfa3,hds3⟩;rw [uk,hla,UU] at hds3 R3;rw [U8 (ui _),uj] at R3;obtain⟨y2,r1,r2⟩:=Eg (d:=d) hkn hP2.mks;have tl2:=tl.app r2;have R23:=R2.trans R3;have hP3:=hP2.go R3 r2
    walk_at "hd";refine⟨by lia,by lia,λH4 g4=>⟨as,_,hP3.mono g4,hkn,λr ps4 y4 L4 H5 hr res4 tl4 sm=>?_⟩⟩;obtain⟨rp,pr,fb,db,ys,rfl,hpr,⟨_,us,e,hfb,hdu⟩,hdb,np,nd,hyl⟩:=hr;cases e;have R4:=R23.trans (Rp.same R3.2 g4);have R5:=R4.trans rp;have R45:=(Rp.same R3.2 g4).trans rp;have hdA:H3 da=some (.lst xs):=R3.old (λy=>hP.lie.some _ y nda) hda;have S45:fO (nw H H3) (nw H H5):=su R45 hP.lie.some;have RW:=rw_.next hkn hP2.mks hP2.two sm;have l0:=(RW.gd (by lia)).sz;have l1:=hds3.len;rw [qB] at l1;have l2:=xY (ps++(lF kind L1).1);have l3:=hdu.len;rw [qB] at l3;have l4:=xY ps4;rw [z9,z9] at l0;rw [z9] at l2
    walk_at "hd";refine⟨_,f7.of hpr,_,rfl,fb,rfl,vs3,Qs _ _ (S45 _ _ hfa3),us,Qs _ _ hfb,by lia,λq1 h1=>?_⟩;have b1:=za (o:=.lst (vs3++us)) h1
    walk_at "hd";refine⟨_,f7.of (b1 _ _ hpr),_,rfl,db,rfl,xs,b1 _ _ (R45.old (λy=>hP.lie.some _ y nda) hdA),ys,b1 _ _ hdb,by lia,λq2 h2=>?_⟩;have b2:=za (o:=.lst (xs++ys)) h2;have B:=b1.trans b2;refine⟨q1,q2,vs3++us,xs++ys,_,_,_,_,_,_,rfl,R5.trans (Rp.same rp.2 B),Vf hP.lie R5 h1 (b2 _ _ zb),?_,zb,R5.fresh hP.lie (none_of b1 h2),?_,ig.app (ig.app res r1) res4,tl2.app tl4,RW⟩
    ·rw [we];exact(hds3.mono (S45.trans (xH B))).app (hdu.mono ((Zx hP.lie R4).trans (xH B)))
    ·rw [uc,z9,z9];lia
  ·rintro σ H2 ⟨fa,da,vs,xs,ps,y,L1,o6,o7,o8,rfl,R2,hfa,hds,hda,nda,hxl,res,tl,rw_⟩
   walk_at "hd";intro p3 hp3;have a3:=za (o:=.tup [V.ref fa,V.ref da]) hp3;have eM:((ix c 5 4:Nat):Int).toNat=ix c 5 4:=Int.toNat_natCast _;rw [eM] at rw_;exact q _ ps y L1 _ ⟨R2.trans (Rp.same R2.2 a3),p3,fa,da,xs,rfl,zb,⟨fa,vs,rfl,xH a3 _ _ hfa,hds.mono (xH a3)⟩,a3 _ _ hda,R2.fresh hP.lie hp3,nda,hxl⟩ res tl (rw_.gd (by lia))
theorem Y4 (T:Txt w K mg t)(D:Df K mg "_law_good" yA qj)(aS:Df K mg "_law_within" xV jx)(aO:Df K mg "_law_compound" wF qr)(aP:Df K mg "_law_some" yB wc)(ae:fW P w K mg fQ 1 "_law_mix" qT jf)(af:fW P w K mg fQ 2 "_law_part" qQ jg)(ao:fW P w K mg fQ 1 "_law_fault" jl jO):fW P w K mg fQ 40 "_law_good" qj (jj 3):=by have g_:fW P w K mg fQ 20 "_law_good" qj (λ_ _ _ _=>False):=D.ok (k:=19) qu (λ_ _ _ _ h=>h.elim) (λ_ _ _ _ _ _ _ _ _ _ h=>h.elim);have c_:fW P w K mg fQ 20 "_law_compound" qr (λ_ _ _ _=>False):=aO.ok (k:=19) zF (λ_ _ _ _ h=>h.elim) (λ_ _ _ _ _ _ _ _ _ _ h=>h.elim);have s0:=yR (k:=20) (d:=0) (by decide) (by decide) (by decide) T aP ae af (c_.imp λ_ _ _ _ ⟨d',e,_⟩=>by lia) (g_.imp λ_ _ _ _ ⟨d',e,_⟩=>by lia);have g0:=yS (k:=21) (by decide) (by decide) T D ae af ao s0;have w0:=ki (k:=22) (by decide) (by decide) T aS af g0;have c0:=vG (k:=23) (by decide) (by decide) T aO ae af w0 (g0.mono (by decide));have s1:=yR (k:=24) (d:=1) (by decide) (by decide) (by decide) T aP ae af (c0.imp λ_ _ _ _ ⟨d',e,h⟩=>by cases e;exact h) ((g0.mono (by decide)).imp λ_ _ _ _ ⟨d',e,h⟩=>by cases e;exact h);have g1:=yS (k:=25) (by decide) (by decide) T D ae af ao s1;have w1:=ki (k:=26) (by decide) (by decide) T aS af g1;have c1:=vG (k:=27) (by decide) (by decide) T aO ae af w1 (g1.mono (by decide));have s2:=yR (k:=28) (d:=2) (by decide) (by decide) (by decide) T aP ae af (c1.imp λ_ _ _ _ ⟨d',e,h⟩=>by cases e;exact h) ((g1.mono (by decide)).imp λ_ _ _ _ ⟨d',e,h⟩=>by cases e;exact h);have g2:=yS (k:=29) (by decide) (by decide) T D ae af ao s2;have w2:=ki (k:=30) (by decide) (by decide) T aS af g2;have c2:=vG (k:=31) (by decide) (by decide) T aO ae af w2 (g2.mono (by decide));have s3:=yR (k:=32) (d:=3) (by decide) (by decide) (by decide) T aP ae af (c2.imp λ_ _ _ _ ⟨d',e,h⟩=>by cases e;exact h) ((g2.mono (by decide)).imp λ_ _ _ _ ⟨d',e,h⟩=>by cases e;exact h);exact(yS (k:=33) (by decide) (by decide) T D ae af ao s3).mono (by decide)
def mdI (c:Int)(pa da:Addr)(as:Le)(H H2:Hp)(ps:List Pc)(L1:List iC)(j:Nat)(σ:L2.St)(H':Hp):Prop:=∃ (fa:Addr) (vs:List V) (o4:Option V),σ=[some (V.int c),some (V.ref pa),some (V.ref fa),some (V.ref da),o4]/\Rp as H2 H' ((L1.take j).map (λx=>(if x.1 > 0 then 0 else x.1,x.2))++L1.drop j)/\nw H H' fa=some (.lst vs)/\fZ (nw H H') (iB (ps++mR (L1.take j))) vs
theorem Fh {c:Int}{w:Fw}{m:Tx}:∀ (L:List iC),mR (L++[(c,w,m)])=mR L++(if c > 0 then qI w m zP else [])
 | []=>by simp [mR]
 | (e,v,n)::L=>by simp only [uE,mR,Fh L,uz]
theorem zaV (T:Txt w K mg t)(D:Df K mg "_law_made" ZX xm)(au:fW P w K mg fQ 40 "_law_good" qj (jj 3))(ao:fW P w K mg fQ 1 "_law_fault" jl jO):fW P w K mg fQ 41 "_law_made" xm vP:=by
 refine D.ok xn ?_ ?_;walk_at "b"
 ·refine pK h λc pa as L h=>?_;refine ng h λhP hps q=>?_;refine⟨_,(zc (kL (qF au hr (lp (qv 0) (qS fj) ze (qv 1))) (yY (n:=2) (by rfl) (zO (lz 2 xn.nd) (zO (lz 3 xn.nd) xR)))) (zc (vB PassesOwn.never (by rfl) (xg (K:=K) (by rfl) (qv 1)) (lz 4 xn.nd) (zd (zm (ia Xn (ml K (qv 4) ze) ze) (zc (ip 2 xn.nd (zr qE (qv 2) (qF ao hr (iw (ml K (qv 4) ze) (ml K (qv 4) ze) (qS fj))))) (zd (kL ze (DD (qv 4) ze set_list (by intro _;rfl))))) zi))) (zd (zg (zh (f6 (qv 2) (qv 3))))))).h,?_⟩
  walk_at "rd";refine⟨as,L,hP,.text,λr ps y L1 H1 hr res tl gd=>?_⟩;obtain⟨R1,p,fa,da,xs,rfl,hp,⟨_,vs,e,hfa,hds⟩,hda,np,nda,hxl⟩:=hr;cases e;have hP1:=hP.go R1 tl;have hla:=hP1.lie.len;have gsz:=gd.sz;refine⟨p,rfl,_,f7.of hp,rfl,_,_,rfl,_,_,rfl,rfl,⟨_,ij.of hP1.at_⟩,?_⟩;refine vI (K:=K) (a:=pa) (xs:=as.map .ref) (mdI c pa da as H H1 ps L1) ⟨fa,vs,_,rfl,Rp.same hP1.lie (fO.refl _),hfa,by simpa [mR] using hds⟩ ?_ ?_ ?_
  ·rintro j σ H' _ ⟨fa,vs,o7,rfl,R3,_⟩;exact ij.of (R3.old hP1.out hP1.at_)
  ·rintro j v σ H3 hj ⟨fa3,vs3,o7,rfl,R3,hfa3,hds3⟩;obtain⟨a,ha,rfl⟩:=Dn hj;have hjl:j<L1.length:=by have:=(uA.mp ha).1;lia
   obtain⟨⟨cc,wd,mk⟩,hx⟩:∃ x:iC,L1[j]? = some x:=⟨L1[j]'hjl,ux hjl⟩
   obtain⟨e1,e2⟩:=D8 hx;rw [e1] at R3;have hA:((L1.take j).map (λ(x:iC)=>((if x.1 > 0 then 0 else x.1:Int),x.2))).length=j:=by rw [uk,Uq];lia
   have ha':as[((L1.take j).map (λ(x:iC)=>((if x.1 > 0 then 0 else x.1:Int),x.2))).length]? = some a:=by rw [hA];exact ha
   have h0:=Dp R3.2 ha';have hmk:Mk mk:=hP1.mks (wd,mk) (U7.mpr ⟨_,uP hx,rfl⟩);have hmt:nQ (L1.take j):=λp hp=>hP1.mks p (by obtain⟨z,h1,h2⟩:=U7.mp hp;exact U7.mpr ⟨z,List.mem_of_mem_take h1,h2⟩);have eP:ps++mR (L1.take (j+1))=ps++mR (L1.take j)++(if cc > 0 then qI wd mk zP else []):=by rw [e2,Fh,uz]
   have RH:=R1.trans R3;have l1:=hds3.len;rw [qB] at l1;have l2:=xY (ps++mR (L1.take j));rw [z9] at l2;have l3:=(Bs (n:=0) hmt).sz;have l4:=hP1.two;rw [Uq] at l3;have l8:gS 3=5697:=by decide
   walk_at "rd";refine⟨_,ij.of h0,_,zx _ _,_,rfl,?_⟩;by_cases hcc:0<cc
   ·rw [ue hcc];rw [ue hcc] at eP;refine⟨_,ij.of h0,_,q9 _ _ _,_,ij.of h0,_,Zv _ _ _ _,wd,rfl,mk,rfl,hmk,.text,λfb H4 g4 hfb=>?_⟩;obtain⟨_,us,e',hfb',hdu⟩:=hfb;cases e';have l5:(qI wd mk zP).length=us.length:=by have:=hdu.len;rw [qB] at this;exact this
    have l6:=xY (qI wd mk zP);have l7:=(JJ (n:=0) (wd:=wd) .text hmk).sz;refine⟨vs3,g4 _ _ (Qs _ _ hfa3),us,Qs _ _ hfb',by lia,λq1 h1=>?_⟩;have b1:=za (o:=.lst (vs3++us)) h1;have g41:=g4.trans b1;have p1:=R3.2.mono g41;have p2:=Ea 0 p1 ha' hP.nd;have Rput:=Dq (uP ha) p2;have eL:(L1.take j).map (λ(x:iC)=>((if x.1 > 0 then 0 else x.1:Int),x.2))++(0,wd,mk)::L1.drop (j+1)=(L1.take (j+1)).map (λ(x:iC)=>((if x.1 > 0 then 0 else x.1:Int),x.2))++L1.drop (j+1):=by rw [e2,UE,uz];simp [hcc]
    rw [eL] at Rput;have S:=su Rput hP.lie.some;refine⟨_,g41 _ _ h0,_,rfl,q1,vs3++us,_,rfl,(R3.trans (Rp.same R3.2 g41)).trans Rput,S _ _ (Vf hP.lie (RH.trans (Rp.same RH.2 g4)) h1 zb),?_⟩;rw [eP,we];exact(hds3.mono ((xH g41).trans S)).app (hdu.mono ((Zx hP.lie RH).trans ((xH b1).trans S)))
   ·rw [ub hcc];rw [ub hcc,uj] at eP;refine⟨fa3,vs3,_,rfl,?_,hfa3,by rw [eP];exact hds3⟩;rw [e2,UE,uz];simpa [hcc] using R3
  ·rintro σ H3 ⟨fa3,vs3,o7,rfl,R3,hfa3,hds3⟩;rw [uk,hla,UU] at hds3 R3
   walk_at "rd";intro p3 hp3;have a3:=za (o:=.tup [V.ref fa3,V.ref da]) hp3;have RH:=R1.trans R3;obtain⟨z,z1,z2,z3⟩:=Ov (d:=3) res tl hP.mks hps;have hl:L1.length<=2:=hP1.two;have l1:=(Bs (n:=3) hP1.mks).up (ui _) (by lia:_<=6) (by lia:_<=10);exact q _ (ps++mR L1) z _ _ ⟨RH.trans (Rp.same RH.2 a3),p3,fa3,da,xs,rfl,zb,⟨fa3,vs3,rfl,xH a3 _ _ hfa3,hds3.mono (xH a3)⟩,a3 _ _ (R3.old (λy=>hP.lie.some _ y nda) hda),RH.fresh hP.lie hp3,nda,by rw [z9];lia⟩ z1 z2 z3 ((Bz.app gd l1).up (ui _) (by decide) (by decide))
theorem Vz (T:Txt w K mg t)(D:Df K mg "_law_marked" kc jy):fW P w K mg fQ 1 "_law_marked" jy j9:=by
 refine D.ok X4 ?_ ?_;walk_at "b"
 ·refine nN h λpv p mk h=>?_;refine mE h λhp q=>?_;refine⟨_,(zc (zm (ia zu (ic K (qv 0) ze) (qS fE)) (zd (zg (nW DA (qv 1) (ic K (qv 0) ze)))) zi) (zc (zm (ia zu (ic K (qv 0) ze) (qS fD)) (zd (zg (nW zu (ic K (qv 0) ze) (qv 1)))) zi) (zd (zg (nW zu (ic K (qv 0) ze) (qv 1)))))).h,?_⟩
  walk_at "rd";obtain⟨pa,vs,rfl,hpa,hf⟩:=nM hp;have hq:=f7.of (K:=K) hpa;have eq1:∀ {x:Tx},decide (tx x=V.str (S mk))=decide (x=mk):=λ{x}=>decide_eq_decide.mpr ⟨λh=>yu.mp (V.str.inj h),λh=>by rw [h];rfl⟩;have q:=q H (fO.refl _);cases p with
  | lit z=>cases hf;refine⟨_,rfl,_,hq,_,zx _ _,rfl,?_⟩;rw [ue (show tx _=V.str (S _) from rfl)];exact⟨_,rfl,_,hq,_,q9 _ _ _,z,rfl,q⟩
  | seat w' n m b=>obtain⟨wv,rfl,hw⟩:=hf;refine⟨_,rfl,_,hq,_,zx _ _,rfl,?_⟩;rw [ub (zE (by decide))];refine⟨_,rfl,_,hq,_,zx _ _,rfl,?_⟩;rw [ue (show tx _=V.str (S _) from rfl)];exact⟨_,rfl,_,hq,_,Zv _ _ _ _,rfl,by rw [eq1];exact q⟩
  | hole z=>cases hf;refine⟨_,rfl,_,hq,_,zx _ _,rfl,?_⟩;rw [ub (zE (by decide))];refine⟨_,rfl,_,hq,_,zx _ _,rfl,?_⟩;rw [ub (zE (by decide))];exact⟨_,rfl,_,hq,_,q9 _ _ _,rfl,by rw [eq1];exact q⟩
  | each z b=>obtain⟨wv,rfl,hw⟩:=hf;refine⟨_,rfl,_,hq,_,zx _ _,rfl,?_⟩;rw [ub (zE (by decide))];refine⟨_,rfl,_,hq,_,zx _ _,rfl,?_⟩;rw [ub (zE (by decide))];exact⟨_,rfl,_,hq,_,q9 _ _ _,rfl,by rw [eq1];exact q⟩
  | ife z a b=>obtain⟨wv,uv,rfl,hw,hu⟩:=hf;refine⟨_,rfl,_,hq,_,zx _ _,rfl,?_⟩;rw [ub (zE (by decide))];refine⟨_,rfl,_,hq,_,zx _ _,rfl,?_⟩;rw [ub (zE (by decide))];exact⟨_,rfl,_,hq,_,q9 _ _ _,rfl,by rw [eq1];exact q⟩
theorem Y5 (T:Txt w K mg t)(D:Df K mg "_law_inner" kZ qU):fW P w K mg fQ 1 "_law_inner" qU jm:=by
 refine D.ok Vt ?_ ?_;walk_at "b"
 ·refine nE h λpv p h=>?_;refine mE h λhp q=>?_;refine⟨_,(zc (zm (ia zu (ic K (qv 0) ze) (qS fz)) (zd (zg (zl (f9 (zh (iw (zl (f9 ze)) ze (ic K (qv 0) ze))))))) zi) (zc (zm (ia zu (ic K (qv 0) ze) (qS fA)) (zd (zg (zl (f6 (zh (iw (zl (f9 ze)) ze (ic K (qv 0) ze))) (zh (iw (zl (f9 ze)) ze (ic K (qv 0) ze))))))) zi) (zc (zm (ia zu (ic K (qv 0) ze) (qS fD)) (zd (zg (zl (f9 (zh (iw (zl zC) ze (ic K (qv 0) ze))))))) zi) (zd (zg (zl zC)))))).h,?_⟩;obtain⟨pa,vs,rfl,hpa,hf⟩:=nM hp;have hq:=f7.of (K:=K) hpa;cases p with
  | each z b=>
   obtain⟨wv,rfl,hw⟩:=hf
   walk_at "hi";refine⟨_,hq,_,zx _ _,rfl,?_⟩;rw [ue (show tx _=V.str (S _) from rfl)]
   walk_at "hd";intro q1 h1;have b1:=za (o:=.lst [V.int 1]) h1;refine⟨_,f7.of (b1 _ _ hpa),_,Zv _ _ _ _,λq2 h2 q3 h3=>?_⟩;have b2:=za (o:=.tup [V.ref q1,V.int 0,wv]) h2;have b3:=za (o:=.lst [V.ref q2]) h3;exact q _ _ _ (b1.trans (b2.trans b3)) zb (.cons (b3 _ _ zb) ((b2.trans b3) _ _ zb) (hw.mono (b1.trans (b2.trans b3))) .nil)
  | ife z a b=>
   obtain⟨wv,uv,rfl,hw,hu⟩:=hf
   walk_at "hi";refine⟨_,hq,_,zx _ _,rfl,?_⟩;rw [ub (zE (by decide))]
   walk_at "hi";refine⟨_,hq,_,zx _ _,rfl,?_⟩;rw [ue (show tx _=V.str (S _) from rfl)]
   walk_at "hd";intro q1 h1;have b1:=za (o:=.lst [V.int 0]) h1;refine⟨_,f7.of (b1 _ _ hpa),_,Zv _ _ _ _,λq2 h2 q3 h3=>?_⟩;have b2:=za (o:=.tup [V.ref q1,V.int 0,wv]) h2;have b3:=za (o:=.lst [V.int 1]) h3;have B3:=b1.trans (b2.trans b3);refine⟨_,f7.of (B3 _ _ hpa),_,AA _ _ _ _ _,λq5 h5 q6 h6=>?_⟩;have b5:=za (o:=.tup [V.ref q3,V.int 0,uv]) h5;have b6:=za (o:=.lst [V.ref q2,V.ref q5]) h6;have b56:=b5.trans b6;exact q _ _ _ (B3.trans b56) zb (.cons ((b3.trans b56) _ _ zb) ((b2.trans (b3.trans b56)) _ _ zb) (hw.mono (B3.trans b56)) (.cons (b6 _ _ zb) (b56 _ _ zb) (hu.mono (B3.trans b56)) .nil))
  | seat w' n m b=>
   obtain⟨wv,rfl,hw⟩:=hf
   walk_at "hi";refine⟨_,hq,_,zx _ _,rfl,?_⟩;rw [ub (zE (by decide))]
   walk_at "hi";refine⟨_,hq,_,zx _ _,rfl,?_⟩;rw [ub (zE (by decide))]
   walk_at "hi";refine⟨_,hq,_,zx _ _,rfl,?_⟩;rw [ue (show tx _=V.str (S _) from rfl)]
   walk_at "hd";intro q1 h1;have b1:=za (o:=.lst []) h1;refine⟨_,f7.of (b1 _ _ hpa),_,Az _ _ _ _ _ _,λq2 h2 q3 h3=>?_⟩;have b2:=za (o:=.tup [V.ref q1,V.int 1,wv]) h2;have b3:=za (o:=.lst [V.ref q2]) h3;exact q _ _ _ (b1.trans (b2.trans b3)) zb (.cons (b3 _ _ zb) ((b2.trans b3) _ _ zb) (hw.mono (b1.trans (b2.trans b3))) .nil)
  | lit z=>
   cases hf
   walk_at "hi";refine⟨_,hq,_,zx _ _,rfl,?_⟩;rw [ub (zE (by decide))]
   walk_at "hi";refine⟨_,hq,_,zx _ _,rfl,?_⟩;rw [ub (zE (by decide))]
   walk_at "hi";refine⟨_,hq,_,zx _ _,rfl,?_⟩;rw [ub (zE (by decide))]
   walk_at "hd";exact λq1 h1=>q _ _ _ (za h1) zb .nil
  | hole z=>
   cases hf
   walk_at "hi";refine⟨_,hq,_,zx _ _,rfl,?_⟩;rw [ub (zE (by decide))]
   walk_at "hi";refine⟨_,hq,_,zx _ _,rfl,?_⟩;rw [ub (zE (by decide))]
   walk_at "hi";refine⟨_,hq,_,zx _ _,rfl,?_⟩;rw [ub (zE (by decide))]
   walk_at "hd";exact λq1 h1=>q _ _ _ (za h1) zb .nil
def paI (xa:Addr)(ps:List Pc)(H:Hp)(i:Nat)(σ:L2.St)(H':Hp):Prop:=∃ (ta:Addr) (o3 o4:Option V),σ=[some (.ref xa),some (.ref ta),some (.int ((zy (ps.take i)).2:Nat)),o3,o4]/\fO H H'/\H' ta=some (.lst (iV (zy (ps.take i)).1))
theorem zaW {k d:Nat}(hk:20<=k)(T:Txt w K mg t)(D:Df K mg "_law_pass" yC zW)(aE:fW P w K mg fQ k "_law_pass" zW (qw d)):fW P w K mg fQ (k+1) "_law_pass" zW (qw (d+1)):=by
 refine D.ok zN ?_ ?_;walk_at "b"
 ·refine nE h λpv ps h=>?_;refine mE h λhp q=>?_;refine⟨_,(zc (ip 1 zN.nd (zl zC)) (zc (ip 2 zN.nd ze) (zc (vB PassesOwn.never (by rfl) (xg (K:=K) (by rfl) (qv 0)) (lz 3 zN.nd) (zd (zm (ia zu (ic K (qv 3) ze) (qS fz)) (zd (ip 1 zN.nd (zr qE (qv 1) (zl (f9 ze))))) (zd (zm (ia zu (ic K (qv 3) ze) (qS fA)) (zc (ip 4 zN.nd (qF aE hr (f9 (ic K (qv 3) ze)))) (zc (ip 1 zN.nd (zr qE (zr qE (qv 1) (zl (f9 ze))) (ic K (qv 4) ze))) (zd (ip 2 zN.nd (zr qO (qv 2) (ic K (qv 4) ze)))))) (zd (zm (ia zu (ic K (qv 3) ze) (qS fD)) (zc (ip 4 zN.nd (qF aE hr (f9 (ic K (qv 3) ze)))) (zc (ip 1 zN.nd (zr qE (qv 1) (ic K (qv 4) ze))) (zd (ip 2 zN.nd (zr qO (zr qO (qv 2) ze) (ic K (qv 4) ze)))))) (zd (ip 2 zN.nd (zr qO (qv 2) ze)))))))))) (zd (zg (zh (f6 (qv 1) (qv 2)))))))).h,?_⟩
  walk_at "rd";obtain⟨⟨xa,xs,rfl,hxa,hxs⟩,hdp,hsz⟩:=hp;intro p0 h0;have k0:=za (o:=.lst []) h0;refine⟨xa,rfl,⟨_,ij.of (k0 _ _ hxa)⟩,vI (xs:=xs) (paI xa ps H) ⟨p0,_,_,rfl,k0,zb⟩ ?_ ?_ ?_⟩
  ·rintro i σ H1 _ ⟨_,_,_,rfl,g,_⟩;exact ij.of (g _ _ hxa)
  ·rintro i y σ H1 hi ⟨ta,o3,o4,rfl,g1,e1⟩;have hil:i<ps.length:=by have:=(uA.mp hi).1;have:=hxs.len;rw [qB] at this;lia
   obtain⟨dd,hd1,hd2⟩:=hxs.get hi;rw [JG ps i ps[i] (ux hil)] at hd1;cases hd1;have hpd:=Va (Uj hil);have hps:=YR (Uj hil);have tk:zy (ps.take (i+1))=(zy (ps.take i)).add (qN ps[i]):=by rw [gy,ux hil,Z4];simp [zy,Off.add]
   have tl:=(vv (ps.take i)).1
   have ts:fY (ps.take i)<=fY ps:=by
    conv=>rhs;rw [← UN i ps,z9]
    lia
   generalize ps[i]=p at hd2 hpd hps tk;obtain⟨pa,vs,rfl,hpa,hf⟩:=nM hd2;have hq:=f7.of (K:=K) (g1 _ _ hpa);have il:(iV (zy (ps.take i)).1).length=(zy (ps.take i)).1.length:=uk _;cases p with
   | each z b=>
    obtain⟨wv,rfl,hw⟩:=hf
    walk_at "hi";refine⟨_,hq,_,zx _ _,rfl,?_⟩;rw [ue (show tx _=V.str (S _) from rfl)]
    walk_at "hd";intro q1 h1;have b1:=za (o:=.lst [V.int 0]) h1;refine⟨_,b1 _ _ e1,_,zb,by simp;lia,λq2 h2=>?_⟩;have b2:=za (o:=.lst (iV (zy (ps.take i)).1++[V.int 0])) h2;exact⟨q2,_,_,by rw [tk];rfl,g1.trans (b1.trans b2),by rw [zb,tk];simp [iV,Off.add,qN]⟩
   | ife z a b=>
    obtain⟨wv,uv,rfl,hw,hu⟩:=hf;simp only [iG,iq] at hpd hps
    walk_at "hi";refine⟨_,hq,_,zx _ _,rfl,?_⟩;rw [ub (zE (by decide))]
    walk_at "hi";refine⟨_,hq,_,zx _ _,rfl,?_⟩;rw [ue (show tx _=V.str (S _) from rfl)]
    walk_at "hd";refine⟨_,hq,_,Zv _ _ _ _,a,⟨hw.mono g1,by lia,by lia⟩,λr H2 g2 ⟨la,r1,r2⟩=>?_⟩
    walk_at "hd";intro q1 h1;have b1:=za (o:=.lst [V.int 0]) h1;refine⟨_,b1 _ _ (g2 _ _ e1),_,zb,by simp;lia,λq2 h2=>?_⟩;have b2:=za (o:=.lst (iV (zy (ps.take i)).1++[V.int 0])) h2;have al:=(vv a).1;have B2:=b1.trans b2;refine⟨_,f7.of (B2 _ _ r1),_,zx _ _,_,rfl,_,zb,_,B2 _ _ r2,by simp;lia,λq3 h3=>?_⟩;have b3:=za (o:=.lst (iV (zy (ps.take i)).1++[V.int 0]++iV (zy a).1)) h3;have B3:=B2.trans b3
    walk_at "hd";refine⟨_,f7.of (B3 _ _ r1),_,q9 _ _ _,_,rfl,?_⟩;exact⟨q3,_,_,by rw [tk];rfl,g1.trans (g2.trans B3),by rw [zb,tk];simp [iV,Off.add,qN]⟩
   | seat w' n m b=>
    obtain⟨wv,rfl,hw⟩:=hf;simp only [iG,iq] at hpd hps
    walk_at "hi";refine⟨_,hq,_,zx _ _,rfl,?_⟩;rw [ub (zE (by decide))]
    walk_at "hi";refine⟨_,hq,_,zx _ _,rfl,?_⟩;rw [ub (zE (by decide))]
    walk_at "hi";refine⟨_,hq,_,zx _ _,rfl,?_⟩;rw [ue (show tx _=V.str (S _) from rfl)]
    walk_at "hd";refine⟨_,hq,_,Az _ _ _ _ _ _,b,⟨hw.mono g1,by lia,by lia⟩,λr H2 g2 ⟨la,r1,r2⟩=>?_⟩;have al:=(vv b).1
    walk_at "hd";refine⟨_,f7.of r1,_,zx _ _,_,rfl,_,g2 _ _ e1,_,r2,by simp;lia,λq3 h3=>?_⟩;have b3:=za (o:=.lst (iV (zy (ps.take i)).1++iV (zy b).1)) h3
    walk_at "hd";refine⟨_,f7.of (b3 _ _ r1),_,q9 _ _ _,_,rfl,?_⟩;have e2:((((zy (ps.take i)).add (qN (.seat w' n m b))).2:Nat):Int)=((zy (ps.take i)).2:Int)+2+((zy b).2:Int):=by simp only [Off.add,qN];lia
    exact⟨q3,some (.ref pa),some (.ref r),by rw [tk,e2],g1.trans (g2.trans b3),by rw [zb,tk];simp [iV,Off.add,qN]⟩
   | lit z=>
    cases hf
    walk_at "hi";refine⟨_,hq,_,zx _ _,rfl,?_⟩;rw [ub (zE (by decide))]
    walk_at "hi";refine⟨_,hq,_,zx _ _,rfl,?_⟩;rw [ub (zE (by decide))]
    walk_at "hi";refine⟨_,hq,_,zx _ _,rfl,?_⟩;rw [ub (zE (by decide))]
    walk_at "hd";exact⟨ta,_,_,by rw [tk];rfl,g1,by rw [e1,tk];simp [Off.add,qN]⟩
   | hole z=>
    cases hf
    walk_at "hi";refine⟨_,hq,_,zx _ _,rfl,?_⟩;rw [ub (zE (by decide))]
    walk_at "hi";refine⟨_,hq,_,zx _ _,rfl,?_⟩;rw [ub (zE (by decide))]
    walk_at "hi";refine⟨_,hq,_,zx _ _,rfl,?_⟩;rw [ub (zE (by decide))]
    walk_at "hd";exact⟨ta,_,_,by rw [tk];rfl,g1,by rw [e1,tk];simp [Off.add,qN]⟩
  ·rintro σ H1 ⟨ta,o3,o4,rfl,g1,e1⟩;rw [hxs.len.symm.trans (qB ps),UU] at e1 ⊢
   walk_at "rd";intro p1 h1;have k1:=za (o:=.tup [V.ref ta,V.int ((zy ps).2:Nat)]) h1;exact q p1 _ (g1.trans k1) ⟨ta,zb,k1 _ _ e1⟩
theorem Y6 (T:Txt w K mg t)(D:Df K mg "_law_pass" yC zW):fW P w K mg fQ 40 "_law_pass" zW (qw 5):=by have a0:fW P w K mg fQ 20 "_law_pass" zW (qw 0):=D.ok (k:=19) zN (λ_ _ _ _ ⟨_,_,_,h,_⟩=>absurd h.2.1 (UH _)) (λ_ _ _ _ _ _ _ _ _ _ ⟨_,_,_,h,_⟩=>absurd h.2.1 (UH _));have up:∀ {k d:Nat},20<=k->fW P w K mg fQ k "_law_pass" zW (qw d)->fW P w K mg fQ (k+1) "_law_pass" zW (qw (d+1)):=λhk a=>zaW hk T D a;exact(up (by decide) (up (by decide) (up (by decide) (up (by decide) (up (by decide) a0))))).mono (by decide)
def ptI (xa:Addr)(mk:Tx)(ps:List Pc)(H:Hp)(i:Nat)(σ:L2.St)(H':Hp):Prop:=∃ (ta:Addr) (o4 o5 o6 o7 o8 o9:Option V),σ=[some (.ref xa),some (.str (S mk)),some (.ref ta),some (.int ((zy (ps.take i)).2:Nat)),o4,o5,o6,o7,o8,o9]/\fO H H'/\H' ta=some (.lst (iV (zy (ps.take i)).1))/\zG mk (ps.take i)=none
def piI (xa ta:Addr)(v4 o9:Option V)(mk:Tx)(n:Nat)(p:Pc)(H:Hp)(i:Nat)(σ:L2.St)(H':Hp):Prop:=∃ (o5 o6 o7 o8:Option V),σ=[some (.ref xa),some (.str (S mk)),some (.ref ta),some (.int n),v4,o5,o6,o7,o8,o9]/\fO H H'/\Zy mk ((qJ p).drop i)=Zy mk (qJ p)
theorem zaX {k d:Nat}(hk:41<=k)(hd:d<=4)(T:Txt w K mg t)(D:Df K mg "_law_path" yD qk)(aT:fW P w K mg fQ 1 "_law_marked" jy j9)(aw:fW P w K mg fQ 1 "_law_inner" qU jm)(aE:fW P w K mg fQ 40 "_law_pass" zW (qw 5))(aU:fW P w K mg fQ k "_law_path" qk (qR d)):fW P w K mg fQ (k+1) "_law_path" qk (qR (d+1)):=by
 refine D.ok zX ?_ ?_;walk_at "b"
 ·refine nN h λpv ps mk h=>?_;refine mE h λhp q=>?_;refine⟨_,(zc (ip 2 zX.nd (zl zC)) (zc (ip 3 zX.nd ze) (zc (vB PassesOwn.never (by rfl) (xg (K:=K) (by rfl) (qv 0)) (lz 4 zX.nd) (zc (zm (jV (qF aT hr (f6 (qv 4) (qv 1)))) (zd (zg (zh (f6 (qv 2) (qv 3))))) zi) (zc (vB PassesOwn.never (by rfl) (xg (K:=K) (by rfl) (qF aw hr (f9 (qv 4)))) (yY (n:=3) (by rfl) (zO (lz 5 zX.nd) (zO (lz 6 zX.nd) (zO (lz 7 zX.nd) xR)))) (zc (ip 8 zX.nd (qF aU hr (f6 (qv 7) (qv 1)))) (zd (zm (ia V7 (qv 8) zH) (zd (zg (zh (f6 (zr qE (zr qE (qv 2) (qv 5)) (ic K (qv 8) ze)) (zr qO (zr qO (qv 3) (qv 6)) (ic K (qv 8) ze)))))) zi)))) (zc (ip 9 zX.nd (qF aE hr (f9 (zl (f9 (qv 4)))))) (zc (ip 2 zX.nd (zr qE (qv 2) (ic K (qv 9) ze))) (zd (ip 3 zX.nd (zr qO (qv 3) (ic K (qv 9) ze))))))))) (zd (zg zH))))).h,?_⟩
  walk_at "rd";obtain⟨⟨xa,xs,rfl,hxa,hxs⟩,hdp,hsz⟩:=hp;intro p0 h0;have k0:=za (o:=.lst []) h0;refine⟨xa,rfl,⟨_,ij.of (k0 _ _ hxa)⟩,vI (xs:=xs) (ptI xa mk ps H) ⟨p0,_,_,_,_,_,_,rfl,k0,zb,rfl⟩ ?_ ?_ ?_⟩
  ·rintro i σ H1 _ ⟨_,_,_,_,_,_,_,rfl,g,_⟩;exact ij.of (g _ _ hxa)
  ·rintro i y σ H1 hi ⟨ta,o4,o5,o6,o7,o8,o9,rfl,g1,e1,n1⟩;have hil:i<ps.length:=by have:=(uA.mp hi).1;have:=hxs.len;rw [qB] at this;lia
   obtain⟨dd,hd1,hd2⟩:=hxs.get hi;rw [JG ps i ps[i] (ux hil)] at hd1;cases hd1;have hpd:=Va (Uj hil);have hps:=YR (Uj hil);have tk:ps.take (i+1)=ps.take i++[ps[i]]:=by rw [gy,ux hil];rfl
   have all:zG mk ps=match qC mk ps[i] with
     | some r=>some ((zy (ps.take i)).add r)
     | none=>(zG mk (ps.drop (i+1))).map (Off.add (zy (ps.take (i+1)))):=by
    conv=>lhs;rw [← UN i ps,uV hil,kz,n1]
    simp only [zG]
    cases qC mk ps[i] with
    | some r=>rfl
    | none=>
     rw [tk,Z4]
     cases zG mk (ps.drop (i+1)) with
     | none=>rfl
     | some r=>simp [zy,Off.add,uz,UY]
   have tl:=(vv (ps.take i)).1
   have ts:fY (ps.take i)<=fY ps:=by
    conv=>rhs;rw [← UN i ps,z9]
    lia
   rw [D7] at all;generalize ps[i]=p at hd2 hpd hps tk all;have il:(iV (zy (ps.take i)).1).length=(zy (ps.take i)).1.length:=uk _
   walk_at "hi";refine⟨p,hd2.mono g1,λH2 g2=>?_⟩;by_cases hm:wZ mk p=true
   ·rw [ue hm];rw [ue hm] at all
    walk_at "hd";intro q1 h1;have b1:=za (o:=.tup [V.ref ta,V.int ((zy (ps.take i)).2:Nat)]) h1;refine q _ _ (g1.trans (g2.trans b1)) ?_;rw [all];exact⟨q1,rfl,ta,by rw [zb];rfl,by rw [b1 _ _ (g2 _ _ e1)];simp [Off.add,iV]⟩
   ·rw [ub hm];rw [ub hm] at all
    walk_at "hd";refine⟨p,hd2.mono (g1.trans g2),λr is H3 g3 r1 r2=>⟨⟨_,ij.of r1⟩,vI (xs:=is) (piI xa ta (some y) o9 mk (zy (ps.take i)).2 p H3) ⟨_,_,_,_,rfl,fO.refl _,by rw [UR]⟩ ?_ ?_ ?_⟩⟩
    ·rintro j σ H4 _ ⟨_,_,_,_,rfl,g4,_⟩;exact ij.of (g4 _ _ r1)
    ·rintro j v σ H4 hj ⟨o5',o6',o7',o8',rfl,g4,n2⟩;obtain⟨pp,tt,wv,o,b,rfl,hjb,b1,b2,b3⟩:=r2.get hj;have sm:=WS (uP hjb)
     have n3:Zy mk (qJ p)=match zG mk b with
       | some q=>some (Off.add o q)
       | none=>Zy mk ((qJ p).drop (j+1)):=by
      obtain⟨h1,h2⟩:=uA.mp hjb
      rw [← n2,uV h1,h2]
      rfl
     generalize hB:iT _ _=B
     walk_at "rd";refine⟨_,f7.of (g4 _ _ b1),rfl,_,_,rfl,_,_,rfl,_,_,rfl,rfl,?_⟩;subst hB
     walk_at "hd";refine⟨b,⟨b3.mono g4,by lia,by lia⟩,λv3 H5 g5 hv=>?_⟩;have G5:=g1.trans (g2.trans (g3.trans (g4.trans g5)))
     walk_at "hi";cases hb:zG mk b with
     | none=>
      rw [hb] at hv n3;rw [ub (by rw [show v3=V.non from hv];decide)]
      walk_at "hd";exact⟨_,_,_,_,rfl,g4.trans g5,n3.symm⟩
     | some r0=>
      rw [hb] at hv n3;obtain⟨px,rfl,lx,x1,x2⟩:=hv;rw [ue (by rw [uF (by intro z;cases z)];rfl)];have rl:=vw mk b r0 hb;have e5:=(g2.trans (g3.trans (g4.trans g5))) _ _ e1
      walk_at "hd";refine⟨_,e5,_,(g4.trans g5) _ _ b2,by rw [il,uk];lia,λq1 h1=>?_⟩;have k1:=za (o:=.lst (iV (zy (ps.take i)).1++o.1.map λ(t:Nat)=>V.int t)) h1;refine⟨_,f7.of (k1 _ _ x1),_,zx _ _,lx,rfl,_,zb,_,k1 _ _ x2,by rw [uc,il,uk,uk];lia,λq2 h2=>?_⟩;have k2:=za (o:=.lst (iV (zy (ps.take i)).1++(o.1.map λ(t:Nat)=>V.int t)++r0.1.map λ(t:Nat)=>V.int t)) h2;refine⟨_,f7.of (k2 _ _ (k1 _ _ x1)),_,q9 _ _ _,_,rfl,λq3 h3=>?_⟩;have k3:=za (o:=.tup [V.ref q2,V.int ((zy (ps.take i)).2+o.2+r0.2)]) h3;refine q _ _ (G5.trans (k1.trans (k2.trans k3))) ?_;rw [all,n3];refine⟨q3,rfl,q2,?_,by rw [k3 _ _ zb];simp [Off.add,iV]⟩;rw [zb];simp [Off.add,Int.add_assoc]
    ·rintro σ H4 ⟨o5',o6',o7',o8',rfl,g4,n2⟩;rw [U8 (by rw [r2.len];exact ui _)] at n2;have n3:Zy mk (qJ p)=none:=n2.symm
     walk_at "hd";intro q1 h1;have k1:=za (o:=.lst [y]) h1;have G4:=g1.trans (g2.trans (g3.trans g4));refine⟨[p],⟨⟨q1,[y],rfl,zb,?_⟩,by simp [iG.dpB];lia,by simp [fY];lia⟩,λr H5 g5 ⟨lx,x1,x2⟩=>?_⟩
     ·simp only [iB];exact⟨_,_,rfl,hd2.mono (G4.trans k1),rfl⟩
     have al:=(vv [p]).1;simp only [fY,Nat.add_zero] at al;have e5:=((g2.trans (g3.trans g4)).trans (k1.trans g5)) _ _ e1
     walk_at "hd";refine⟨_,f7.of x1,_,zx _ _,lx,rfl,_,e5,_,x2,by rw [il,uk];lia,λq2 h2=>?_⟩;have k2:=za (o:=.lst (iV (zy (ps.take i)).1++(zy [p]).1.map λ(t:Nat)=>V.int t)) h2
     walk_at "hd";refine⟨_,f7.of (k2 _ _ x1),_,q9 _ _ _,_,rfl,q2,some y,o5',o6',o7',o8',some (.ref r),?_,G4.trans (k1.trans (g5.trans k2)),?_,?_⟩
     ·rw [tk,Z4];rfl
     ·rw [tk,Z4,zb];simp [Off.add,iV]
     ·rw [tk,kz,n1];simp only [zG,D7,ub hm,n3];rfl
  ·rintro σ H1 ⟨ta,o4,o5,o6,o7,o8,o9,rfl,g1,e1,n1⟩;rw [hxs.len.symm.trans (qB ps),UU] at n1
   walk_at "rd";exact q _ H1 g1 (by rw [n1];rfl)
theorem Y7 (T:Txt w K mg t)(D:Df K mg "_law_path" yD qk)(aE:fW P w K mg fQ 40 "_law_pass" zW (qw 5))(aT:fW P w K mg fQ 1 "_law_marked" jy j9)(aw:fW P w K mg fQ 1 "_law_inner" qU jm):fW P w K mg fQ 60 "_law_path" qk (qR 5):=by have a0:fW P w K mg fQ 41 "_law_path" qk (qR 0):=D.ok (k:=40) zX (λ_ _ _ _ ⟨_,_,_,_,h,_⟩=>absurd h.2.1 (UH _)) (λ_ _ _ _ _ _ _ _ _ _ ⟨_,_,_,_,h,_⟩=>absurd h.2.1 (UH _));have up:∀ {k d:Nat},41<=k->d<=4->fW P w K mg fQ k "_law_path" qk (qR d)->fW P w K mg fQ (k+1) "_law_path" qk (qR (d+1)):=λhk hd a=>zaX hk hd T D aT aw aE a;exact(up (by decide) (by decide) (up (by decide) (by decide) (up (by decide) (by decide) (up (by decide) (by decide) (up (by decide) (by decide) a0))))).mono (by decide)
def txI (xa:Addr)(mk:Tx)(ps:List Pc)(H:Hp)(i:Nat)(σ:L2.St)(H':Hp):Prop:=∃ (o2 o3 o4 o5 o6:Option V),σ=[some (.ref xa),some (.str (S mk)),o2,o3,o4,o5,o6]/\fO H H'/\qD mk (ps.take i)=none
def tiI (xa:Addr)(v2:Option V)(mk:Tx)(p:Pc)(H:Hp)(i:Nat)(σ:L2.St)(H':Hp):Prop:=∃ (o3 o4 o5 o6:Option V),σ=[some (.ref xa),some (.str (S mk)),v2,o3,o4,o5,o6]/\fO H H'/\Zz mk ((qJ p).drop i)=Zz mk (qJ p)
theorem Vl {k d:Nat}(hk:41<=k)(hd:d<=4)(T:Txt w K mg t)(D:Df K mg "_law_text_of" xo zD)(aw:fW P w K mg fQ 1 "_law_inner" qU jm)(aV:fW P w K mg fQ k "_law_text_of" zD (zY d)):fW P w K mg fQ (k+1) "_law_text_of" zD (zY (d+1)):=by
 refine D.ok qG ?_ ?_;walk_at "b"
 ·refine nN h λpv ps mk h=>?_;refine mE h λhp q=>?_;refine⟨_,(zc (vB PassesOwn.never (by rfl) (xg (K:=K) (by rfl) (qv 0)) (lz 2 qG.nd) (zc (zm (QW.qt (xK (ia zu (ic K (qv 2) ze) (qS fE)) (wC (ia DA (qv 1) (ic K (qv 2) ze))))) (zd (zg (ic K (qv 2) ze))) zi) (zd (vB PassesOwn.never (by rfl) (xg (K:=K) (by rfl) (qF aw hr (f9 (qv 2)))) (yY (n:=3) (by rfl) (zO (lz 3 qG.nd) (zO (lz 4 qG.nd) (zO (lz 5 qG.nd) xR)))) (zc (ip 6 qG.nd (qF aV hr (f6 (qv 5) (qv 1)))) (zd (zm (ia V7 (qv 6) zH) (zd (zg (qv 6))) zi))))))) (zd (zg zH))).h,?_⟩
  walk_at "rd";obtain⟨⟨xa,xs,rfl,hxa,hxs⟩,hdp,hsz⟩:=hp;refine⟨xa,rfl,⟨_,ij.of hxa⟩,vI (xs:=xs) (txI xa mk ps H) ⟨_,_,_,_,_,rfl,fO.refl _,rfl⟩ ?_ ?_ ?_⟩
  ·rintro i σ H1 _ ⟨_,_,_,_,_,rfl,g,_⟩;exact ij.of (g _ _ hxa)
  ·rintro i y σ H1 hi ⟨o2,o3,o4,o5,o6,rfl,g1,n1⟩;have hil:i<ps.length:=by have:=(uA.mp hi).1;have:=hxs.len;rw [qB] at this;lia
   obtain⟨dd,hd1,hd2⟩:=hxs.get hi;rw [JG ps i ps[i] (ux hil)] at hd1;cases hd1;have hpd:=Va (Uj hil);have hps:=YR (Uj hil);have tk:ps.take (i+1)=ps.take i++[ps[i]]:=by rw [gy,ux hil];rfl
   have all:qD mk ps=match xt mk ps[i] with
     | some r=>some r
     | none=>qD mk (ps.drop (i+1)):=by
    conv=>lhs;rw [← UN i ps,uV hil,kA,n1]
    rfl
   generalize ps[i]=p at hd2 hpd hps tk all;obtain⟨pa,vs,rfl,hpa,hf⟩:=nM hd2;have hq:=f7.of (K:=K) (g1 _ _ hpa);simp only [xD,List.set_cons_zero,List.set_cons_succ];refine ir λN hN=>?_
   have tail:(∀ t,p=.lit t->lA mk t=false)->N [some (.ref xa),some (.str (S mk)),some (.ref pa),o3,o4,o5,o6] H1:=λhl=>hN _ _ (by
    rw [D6 mk p hl] at all
    walk_at "rd"
    refine⟨p,hd2.mono g1,λr is H3 g3 r1 r2=>⟨⟨_,ij.of r1⟩,vI (xs:=is) (tiI xa (some (.ref pa)) mk p H3) ⟨_,_,_,_,rfl,fO.refl _,by rw [UR]⟩ ?_ ?_ ?_⟩⟩
    ·rintro j σ H4 _ ⟨_,_,_,_,rfl,g4,_⟩
     exact ij.of (g4 _ _ r1)
    ·rintro j v σ H4 hj ⟨o5',o6',o7',o8',rfl,g4,n2⟩
     obtain⟨pp,tt,wv,o,b,rfl,hjb,b1,b2,b3⟩:=r2.get hj
     have sm:=WS (uP hjb)
     have n3:Zz mk (qJ p)=match qD mk b with
       | some q=>some q
       | none=>Zz mk ((qJ p).drop (j+1)):=by
      obtain⟨h1,h2⟩:=uA.mp hjb
      rw [← n2,uV h1,h2]
      rfl
     walk_at "rd"
     refine⟨_,f7.of (g4 _ _ b1),rfl,_,_,rfl,_,_,rfl,_,_,rfl,rfl,b,⟨b3.mono g4,by lia,by lia⟩,λv3 H5 g5 hv=>?_⟩
     cases hb:qD mk b with
     | none=>
      rw [hb] at hv n3
      rw [ub (by rw [show v3=V.non from hv];decide)]
      exact⟨_,_,_,_,rfl,g4.trans g5,n3.symm⟩
     | some r0=>
      rw [hb] at hv n3
      cases (show v3=tx r0 from hv)
      rw [ue (by rw [uF (by intro z;cases z)];rfl)]
      exact q _ _ (g1.trans (g3.trans (g4.trans g5))) (by rw [all,n3];rfl)
    ·rintro σ H4 ⟨o5',o6',o7',o8',rfl,g4,n2⟩
     rw [U8 (by rw [r2.len];exact ui _)] at n2
     have n3:Zz mk (qJ p)=none:=n2.symm
     exact⟨_,_,_,_,_,rfl,g1.trans (g3.trans g4),by rw [tk,kA,n1];simp only [qD,D6 mk p hl,n3]⟩)
   walk_at "rd";cases p with
   | lit z=>
    cases hf;refine⟨_,hq,_,zx _ _,rfl,?_⟩;rw [ue (show tx _=V.str (S _) from rfl)];refine⟨_,hq,_,q9 _ _ _,z,rfl,?_⟩;cases hz:lA mk z with
    | true=>rw [ue rfl];exact⟨_,hq,_,q9 _ _ _,q _ _ g1 (by rw [all];simp [xt,hz,FJ])⟩
    | false=>rw [ub (by decide)];exact tail λt e=>by cases e;exact hz
   | hole z=>cases hf;refine⟨_,hq,_,zx _ _,rfl,?_⟩;rw [ub (zE (by decide))];exact tail nofun
   | each z b=>obtain⟨wv,rfl,hw⟩:=hf;refine⟨_,hq,_,zx _ _,rfl,?_⟩;rw [ub (zE (by decide))];exact tail nofun
   | ife z a b=>obtain⟨wv,uv,rfl,hw,hu⟩:=hf;refine⟨_,hq,_,zx _ _,rfl,?_⟩;rw [ub (zE (by decide))];exact tail nofun
   | seat w' n m b=>obtain⟨wv,rfl,hw⟩:=hf;refine⟨_,hq,_,zx _ _,rfl,?_⟩;rw [ub (zE (by decide))];exact tail nofun
  ·rintro σ H1 ⟨o2,o3,o4,o5,o6,rfl,g1,n1⟩;rw [hxs.len.symm.trans (qB ps),UU] at n1
   walk_at "rd";exact q _ H1 g1 (by rw [n1];rfl)
theorem WX (T:Txt w K mg t)(D:Df K mg "_law_text_of" xo zD)(aw:fW P w K mg fQ 1 "_law_inner" qU jm):fW P w K mg fQ 60 "_law_text_of" zD (zY 5):=by have a0:fW P w K mg fQ 41 "_law_text_of" zD (zY 0):=D.ok (k:=40) qG (λ_ _ _ _ ⟨_,_,_,_,h,_⟩=>absurd h.2.1 (UH _)) (λ_ _ _ _ _ _ _ _ _ _ ⟨_,_,_,_,h,_⟩=>absurd h.2.1 (UH _));have up:∀ {k d:Nat},41<=k->d<=4->fW P w K mg fQ k "_law_text_of" zD (zY d)->fW P w K mg fQ (k+1) "_law_text_of" zD (zY (d+1)):=λhk hd a=>Vl hk hd T D aw a;exact(up (by decide) (by decide) (up (by decide) (by decide) (up (by decide) (by decide) (up (by decide) (by decide) (up (by decide) (by decide) a0))))).mono (by decide)
noncomputable def Ca:List (Key×V):=[(.inr (S [60]),V.int 4),(.inr (S [61]),V.int 0)]
theorem LP {mk kk:Tx}(hm:Mk mk)(k:Kn kk):∃ c,lQ (lG mk kk) 0=some c/\(lG mk kk).length<=16777216/\(iI (qW [] Ca) (.inr (S [c]))).getD (V.int 1)=V.int (oM kk:Nat):=by cases k<;>rcases hm with rfl | rfl<;>exact⟨_,rfl,by decide,by decide +kernel⟩
theorem SQ (T:Txt w K mg t)(D:Df K mg "_law_due" Q9 vo)(aU:fW P w K mg fQ 60 "_law_path" qk (qR 5))(aV:fW P w K mg fQ 60 "_law_text_of" zD (zY 5)):fW P w K mg fQ 61 "_law_due" vo yM:=by
 refine D.ok yE ?_ ?_;walk_at "b"
 ·refine tq h λpv ps wd mk kk r h=>?_;refine av6 h λhp hpa hm hk ht q=>?_;refine⟨_,(zc (kL (qF aU hr (f6 (qv 0) (qv 2))) (yY (n:=2) (by rfl) (zO (lz 3 yE.nd) (zO (lz 4 yE.nd) xR)))) (zc (zm (ia zu (qv 1) (qS fH)) (zc (ip 5 yE.nd (qF aV hr (f6 (qv 0) (qv 2)))) (zd (zg (zh (iw (qS fH) (zh (f6 (qv 3) (qv 4))) (Jz (VM hr) (W5 (jL (by exact(qS [60])) (by exact ze) (jL (by exact(qS [61])) (by exact ze) W4)) (by rfl) (by rfl) (by intro z;cases z) (by decide)) (V0 pb (qv 5) ze (λ_ _=>(by rfl))) ze (by exact⟨rfl,rfl,rfl,rfl⟩))))))) zi) (zc (zm (ia zu (qv 1) (qS fJ)) (zd (zg (zh (iw (qS fJ) (qv 2) (zh (f6 (qv 3) (qv 4))))))) zi) (zc (zm (ia zu (qv 1) (qS fA)) (zd (zg (zh (lp (qS fK) (zh (f6 (qS fA) (qv 2))) (zh (f6 (zr qE (qv 3) (zl (f9 ze))) (zr qO (qv 4) ze))) (zh (f6 (zr qE (qv 3) (zl (f9 ze))) (qv 4))))))) zi) (zc (zm (ia zu (qv 1) (qS fz)) (zd (zg (zh (lp (qS fK) (zh (f6 (qS fz) (qv 2))) (zh (f6 (zr qE (qv 3) (zl (f9 ze))) (qv 4))) (zh (f6 (zr qE (qv 3) (zl (f9 ze))) (zr qO (qv 4) ze))))))) zi) (zd (zg (zh (lp (qS fK) (zh (lp (qS fD) (qS fG) (qv 2) (qS []))) (zh (f6 (qv 3) (zr qO (qv 4) ze))) (zh (f6 (qv 3) (zr qO (qv 4) ze)))))))))))).h,?_⟩;have rl:=vw mk ps r hpa;have rsz:=hp.2.2
  walk_at "hd";refine⟨ps,hp,λv H1 g1 hv=>?_⟩;rw [hpa] at hv;obtain⟨px,rfl,tp,x1,x2⟩:=hv;have il:(r.1.map λ(t:Nat)=>V.int t).length=r.1.length:=uk _;refine⟨px,rfl,_,f7.of x1,rfl,_,_,rfl,_,_,rfl,rfl,?_⟩;cases wd with
  | astray=>
   walk_at "hi";refine kM rfl ?_
   walk_at "hd";refine⟨ps,hp.mono g1,λv2 H2 g2 hv=>?_⟩
   walk_at "hd";intro q1 h1 q2 h2;rw [ht rfl] at hv;cases (show v2=tx (lG mk kk) from hv);obtain⟨hd,c1,c2,c3⟩:=LP hm hk;have b1:=za (o:=.tup [V.ref tp,V.int (r.2:Nat)]) h1;have b2:=JL (o:=HO.dK []) (o':=HO.dK (qW [] Ca)) h2;refine⟨zb,Ca,rfl,by decide,.inl ⟨_,.inl zb⟩,_,rfl,c2,hd,c1,_,iY.k (k:=.inr (S [hd])) zb,?_⟩;rw [c3];intro q3 h3;have b3:=za (o:=.tup [V.str (S [97,115,116,114,97,121]),V.ref q1,V.int (oM kk:Nat)]) h3;have B:=b2.trans b3;exact q _ _ (g1.trans (g2.trans (b1.trans B))) ⟨q3,_,rfl,zb,_,_,rfl,⟨rfl,rfl⟩,_,_,rfl,(show mz _ q1 r.1 r.2 from⟨tp,B _ _ zb,(g2.trans (b1.trans B)) _ _ x2⟩).dt,_,_,rfl,⟨rfl,rfl⟩,rfl⟩
  | noplace=>
   walk_at "hi";rw [ub (by decide)]
   walk_at "hi";refine kM rfl ?_
   walk_at "hd";intro q1 h1 q2 h2;have b1:=za (o:=.tup [V.ref tp,V.int (r.2:Nat)]) h1;have b2:=za (o:=.tup [V.str (S [110,111,112,108,97,99,101]),V.str (S mk),V.ref q1]) h2;exact q _ _ (g1.trans (b1.trans b2)) ⟨q2,_,rfl,zb,_,_,rfl,⟨rfl,rfl⟩,_,_,rfl,⟨rfl,rfl⟩,_,_,rfl,(show mz _ q1 r.1 r.2 from⟨tp,b2 _ _ zb,(b1.trans b2) _ _ x2⟩).dt,rfl⟩
  | ife=>
   walk_at "hi";rw [ub (by decide)]
   walk_at "hi";rw [ub (by decide)]
   walk_at "hi";refine kM rfl ?_
   walk_at "hd";intro q1 h1 q2 h2;have b1:=za (o:=.tup [V.str (S [105,102]),V.str (S mk)]) h1;have b2:=za (o:=.lst [V.int 0]) h2;refine⟨_,(b1.trans b2) _ _ x2,_,zb,by rw [il];simp;lia,λq3 h3 q4 h4 q5 h5=>?_⟩;have b3:=za (o:=.lst ((r.1.map λ(t:Nat)=>V.int t)++[V.int 0])) h3;have b4:=za (o:=.tup [V.ref q3,V.int (r.2+1)]) h4;have b5:=za (o:=.lst [V.int 1]) h5;have B25:=b2.trans (b3.trans (b4.trans b5));refine⟨_,(b1.trans B25) _ _ x2,_,zb,by rw [il];simp;lia,λq6 h6 q7 h7 q8 h8=>?_⟩;have b6:=za (o:=.lst ((r.1.map λ(t:Nat)=>V.int t)++[V.int 1])) h6;have b7:=za (o:=.tup [V.ref q6,V.int (r.2:Nat)]) h7;have b8:=za (o:=.tup [V.str (S [117,110,108,105,107,101]),V.ref q1,V.ref q4,V.ref q7]) h8;have B58:=b5.trans (b6.trans (b7.trans b8));exact q _ _ (g1.trans (b1.trans (B25.trans (b6.trans (b7.trans b8))))) ⟨q8,_,rfl,zb,_,_,rfl,⟨rfl,rfl⟩,_,_,rfl,⟨q1,_,rfl,(B25.trans (b6.trans (b7.trans b8))) _ _ zb,jU [[105,102],mk]⟩,_,_,rfl,(show mz _ q4 (r.1++[0]) (r.2+1) from⟨q3,B58 _ _ zb,by rw [(b4.trans B58) _ _ zb];simp⟩).dt,_,_,rfl,(show mz _ q7 (r.1++[1]) r.2 from⟨q6,b8 _ _ zb,by rw [(b7.trans b8) _ _ zb];simp⟩).dt,rfl⟩
  | each=>
   walk_at "hi";rw [ub (by decide)]
   walk_at "hi";rw [ub (by decide)]
   walk_at "hi";rw [ub (by decide)]
   walk_at "hi";refine kM rfl ?_
   walk_at "hd";intro q1 h1 q2 h2;have b1:=za (o:=.tup [V.str (S [101,97,99,104]),V.str (S mk)]) h1;have b2:=za (o:=.lst [V.int 0]) h2;refine⟨_,(b1.trans b2) _ _ x2,_,zb,by rw [il];simp;lia,λq3 h3 q4 h4 q5 h5=>?_⟩;have b3:=za (o:=.lst ((r.1.map λ(t:Nat)=>V.int t)++[V.int 0])) h3;have b4:=za (o:=.tup [V.ref q3,V.int (r.2:Nat)]) h4;have b5:=za (o:=.lst [V.int 1]) h5;have B25:=b2.trans (b3.trans (b4.trans b5));refine⟨_,(b1.trans B25) _ _ x2,_,zb,by rw [il];simp;lia,λq6 h6 q7 h7 q8 h8=>?_⟩;have b6:=za (o:=.lst ((r.1.map λ(t:Nat)=>V.int t)++[V.int 1])) h6;have b7:=za (o:=.tup [V.ref q6,V.int (r.2+1)]) h7;have b8:=za (o:=.tup [V.str (S [117,110,108,105,107,101]),V.ref q1,V.ref q4,V.ref q7]) h8;have B58:=b5.trans (b6.trans (b7.trans b8));exact q _ _ (g1.trans (b1.trans (B25.trans (b6.trans (b7.trans b8))))) ⟨q8,_,rfl,zb,_,_,rfl,⟨rfl,rfl⟩,_,_,rfl,⟨q1,_,rfl,(B25.trans (b6.trans (b7.trans b8))) _ _ zb,jU [[101,97,99,104],mk]⟩,_,_,rfl,(show mz _ q4 (r.1++[0]) r.2 from⟨q3,B58 _ _ zb,by rw [(b4.trans B58) _ _ zb];simp⟩).dt,_,_,rfl,(show mz _ q7 (r.1++[1]) (r.2+1) from⟨q6,b8 _ _ zb,by rw [(b7.trans b8) _ _ zb];simp⟩).dt,rfl⟩
  | seat=>
   walk_at "hi";rw [ub (by decide)]
   walk_at "hi";rw [ub (by decide)]
   walk_at "hi";rw [ub (by decide)]
   walk_at "hi";rw [ub (by decide)]
   walk_at "hd";intro q1 h1;have b1:=za (o:=.tup [tx X9,tx JI,tx mk,tx []]) h1;intro q2 h2 q3 h3 q4 h4;have b2:=za (o:=.tup [V.ref tp,V.int (r.2+1)]) h2;have b3:=za (o:=.tup [V.ref tp,V.int (r.2+2)]) h3;have b4:=za (o:=.tup [V.str (S [117,110,108,105,107,101]),V.ref q1,V.ref q2,V.ref q3]) h4;have B24:=b2.trans (b3.trans b4);exact q _ _ (g1.trans (b1.trans B24)) ⟨q4,_,rfl,zb,_,_,rfl,⟨rfl,rfl⟩,_,_,rfl,⟨q1,_,rfl,B24 _ _ zb,jU [X9,JI,mk,[]]⟩,_,_,rfl,(show mz _ q2 r.1 (r.2+1) from⟨tp,(b3.trans b4) _ _ zb,(b1.trans B24) _ _ x2⟩).dt,_,_,rfl,(show mz _ q3 r.1 (r.2+2) from⟨tp,b4 _ _ zb,(b1.trans B24) _ _ x2⟩).dt,rfl⟩
theorem Vm (T:Txt w K mg t)(D:Df K mg "branches_of" y9 j4):fW P w K mg fQ 1 "branches_of" j4 xx:=by
 refine D.ok X1 ?_ ?_;walk_at "b"
 ·refine pK h λv x n B h=>?_;refine lC h λgB hv hx q=>?_;refine⟨_,(zd (zg (xf (ia zu (ic K (qv 0) ze) (qS fz)) (zh (f6 (zl zC) (ic K (qv 0) ze))) (zh (f6 (ic K (qv 0) ze) (ic K (qv 0) ze)))))).h,?_⟩
  walk_at "rd";obtain⟨p,vs,rfl,hp,hf⟩:=nM hv;have hp:=gB _ _ hp;rcases hx with⟨b,rfl⟩ | ⟨a,b,rfl⟩
  ·obtain⟨w2,rfl,⟨ab,vb,rfl,hb,hbs⟩⟩:=hf;refine⟨p,rfl,_,f7.of hp,_,rfl,rfl,?_⟩;rw [ue (show tx [101,97,99,104]=V.str (S [101,97,99,104]) from rfl)];intro q1 hq1;refine⟨p,rfl,_,f7.of (za hq1 _ _ hp),_,rfl,λq2 hq2=>?_⟩;have g:=(za (o:=.lst []) hq1).trans (za (o:=.tup [V.ref q1,V.ref ab]) hq2);exact q _ _ _ _ _ _ g zb (za hq2 _ _ zb) (g _ _ (gB _ _ hb)) rfl hbs (λD o h1 h2=>⟨(zv h1 hq1).symm,zv hb h2⟩)
  ·obtain⟨w2,w3,rfl,⟨ab,vb,rfl,hb,hbs⟩,⟨ac,vc,rfl,hc,hcs⟩⟩:=hf;refine⟨p,rfl,_,f7.of hp,_,rfl,rfl,?_⟩;rw [ub (zE (by decide))];refine⟨p,rfl,_,f7.of hp,_,rfl,p,rfl,_,f7.of hp,_,rfl,λq1 hq1=>?_⟩;have g:=za (o:=.tup [V.ref ab,V.ref ac]) hq1;exact q _ _ _ _ _ _ g zb (g _ _ (gB _ _ hb)) (g _ _ (gB _ _ hc)) hbs hcs (λD o h1 h2=>⟨zv hb h2,zv hc h2⟩)
structure WI (H:Hp)(ps:List Pc)(T:Ld)(n:Nat)(pa pl D1 D2 D3:Addr)(st:List It)(T':Ld)(th:List Dat)(tv av:List V)(H':Hp):Prop where
 g:fO H H'
 h1:H' D1=some (.lst tv)
 h2:H' D2=some (.lst av)
 h3:H' D3=some (.lst (T'.map λ(t:Nat)=>V.int t).reverse)
 tvs:nk H H' tv th
 avs:ni H H' av.reverse st
 e:th++out st T' = out (fX ps) T
 le:th.length<=n
def wI (H:Hp)(ps:List Pc)(T:Ld)(n:Nat)(pa pl D1 D2 D3:Addr)(m:Nat)(σ:L2.St)(H':Hp):Prop:=∃ (st:List It) (T':Ld) (th:List Dat) (tv av:List V) (o5:Option V),m=lb st/\m<=100000/\σ=[some (V.ref pa),some (V.ref pl),some (V.ref D1),some (V.ref D2),some (V.ref D3),o5]/\WI H ps T n pa pl D1 D2 D3 st T' th tv av H'/\(∀ t∈T',t<2)
theorem RR (T:Txt w K mg t)(D:Df K mg "walked" X2 vT)(cj:fW P w K mg fQ 1 "branches_of" j4 xx):fW P w K mg fQ 2 "walked" vT kB:=by
 refine D.ok ku ?_ ?_;walk_at "b"
 ·refine tq h λpa pl ta ps Tn n h=>?_;refine pL h λhpa hpl hta hT2 hTl hsz hn q=>?_;refine⟨_,(zc (ip 2 ku.nd (zl zC)) (zc (ip 3 ku.nd (W7 (by rfl) (qv 0))) (zc (ip 4 ku.nd (W7 (by rfl) (ic K (qv 1) ze))) (zc (PH PassesOwn.never (QW.qt (xK (Qa (K:=K) (by rfl) (qv 3)) (wC (ia tZ (zJ (wH (K:=K) (by rfl)) (by rfl) T.z_len yT (f9 (qv 2))) (ic K (qv 1) ze))))) (zc (ip 5 ku.nd (Yv (K:=K) (by rfl) uM Ga Gb Bg (qv 3))) (zd (zm (ia zu (ic K (qv 5) ze) (qS fD)) (zc (xS (yX (K:=K) (by rfl) uM Ut Uu xJ (qv 2) (f9 (zh (lp (qS [105,110,116,111]) (ic K (qv 5) ze) (ic K (qv 5) ze) (ic K (qv 5) ze)))))) (zc (xS (yX (K:=K) (by rfl) uM Ut Uu xJ (qv 3) (f9 (zh (f9 (qS [111,117,116])))))) (zd (xS (yX (K:=K) (by rfl) uM gC gE JS (qv 3) (f9 (W7 (by rfl) (ic K (qv 5) ze)))))))) (zd (zm (ia (Xx (K:=K) (by rfl)) (ic K (qv 5) ze) (zh (f6 (qS fz) (qS fA)))) (zd (xS (yX (K:=K) (by rfl) uM Ut Uu xJ (qv 2) (f9 (qv 5))))) (zd (zm (Qa (K:=K) (by rfl) (qv 4)) (zd (xS (yX (K:=K) (by rfl) uM gC gE JS (qv 3) (f9 (W7 (by rfl) (ic K (qF cj hr (f9 (qv 5))) (Yv (K:=K) (by rfl) uM Ga Gb Bg (qv 4)))))))) (zd PD))))))))) (zd (zg (qv 2))))))).h,?_⟩
  walk_at "hd";intro D1 f1;obtain⟨_,vs,e,hvs,hds⟩:=id hpa;cases e;have a1:=za (o:=.lst []) f1
  walk_at "hd";refine⟨vs,ij.of (a1 _ _ hvs),λD2 f2=>?_⟩;have a2:=za (o:=.lst vs.reverse) f2;have A2:=a1.trans a2
  walk_at "hd";refine⟨_,f7.of (A2 _ _ hpl),_,rfl,ta,rfl,_,ij.of (A2 _ _ hta),λD3 f3=>?_⟩;have a3:=za (o:=.lst (Tn.map λ(t:Nat)=>V.int t).reverse) f3;have n2:H D2=none:=qi a1 f2;have n3:H D3=none:=qi A2 f3;have d12:D1≠D2:=zv zb f2;have d13:D1≠D3:=zv (a2 _ _ zb) f3;have d23:D2≠D3:=zv zb f3
  walk_at "hd";refine FY (wI H ps Tn n pa pl D1 D2 D3) (lb (fX ps)) ⟨fX ps,Tn,[],[],vs.reverse,_,rfl,by rw [xw];lia,rfl,⟨A2.trans a3,(a2.trans a3) _ _ zb,a3 _ _ zb,zb,.nil,by rw [Uw];exact YS hds,rfl,by simp⟩,hT2⟩ ?_;rintro m σ H1 ⟨st,T',th,tv,av,o5,rfl,hm,rfl,I,hT'⟩
  have hfin:(th.length=n\/out st T' = [])->Q (V.ref D1) H1:=λh=>by
   refine q D1 H1 f1 I.g ⟨D1,tv,rfl,I.h1,?_⟩
   have e:(out (fX ps) Tn).take n=th:=by
    rw [← I.e];rcases h with h | h
    ·rw [← h,List.take_left]
    ·rw [h,uj,gY I.le]
   rw [e];exact I.tvs.ds I.g
  have hlen:=I.tvs.len;subst hN;generalize hB:iT _ _=B;cases st with
  | nil=>
   have hav:av=[]:=by
    have:=I.avs;cases hr:av.reverse with
    | nil=>simpa using hr
    | cons x r=>rw [hr] at this;cases this
   have h2:=I.h2;rw [hav] at h2
   walk_at "rd";refine⟨false,Fn h2,?_⟩;rw [ub (by decide)];exact hfin (.inr (by simp only [Zq,WT,vQ,xA,xB,xC,vR,xQ,yr]))
  | cons i st'=>
   obtain⟨v,r,hav,hv,hr⟩:∃ v r,av=r.reverse++[v]/\tG H H1 v i/\ni H H1 r st':=by
    have:=I.avs;cases hr:av.reverse with
    | nil=>rw [hr] at this;cases this
    | cons x r=>
     rw [hr] at this;cases this with
     | cons h1 h2=>exact⟨x,r,by rw [← Uw av,hr,Ul],h1,h2⟩
   have h2:=I.h2;rw [hav] at h2
   walk_at "rd";refine⟨true,sC h2,?_⟩;rw [ue rfl];refine⟨tv,.inl (ij.of I.h1),_,f7.of (I.g _ _ hpl),_,rfl,n,rfl,?_⟩;split
   ·rename_i hlt;have hlt:th.length<n:=by lia
    refine⟨λσ' H'=>∃ m',m' < lb (i::st')/\wI H ps Tn n pa pl D1 D2 D3 m' σ' H',λ_ _ h=>h,?_⟩;subst hB
    walk_at "hd";refine⟨.inl ⟨rfl,_,ij.of h2⟩,_,h2,v,by simp,?_⟩;rw [gc];have t1:iL H1 (upd H1 D2 (.lst r.reverse)):=iL.upd h2;have b1:∀ b o,H b=some o->upd H1 D2 (.lst r.reverse) b=some o:=λb o h=>by rw [zk (zv h n2)];exact I.g _ _ h
    have hsz':lb (i::st')=lR i+lb st':=rfl;have h1a:upd H1 D2 (.lst r.reverse) D1=some (.lst tv):=by rw [zk d12];exact I.h1
    have h3a:upd H1 D2 (.lst r.reverse) D3=some (.lst (T'.map λ(t:Nat)=>V.int t).reverse):=by rw [zk d23.symm];exact I.h3
    have h2a:upd H1 D2 (.lst r.reverse) D2=some (.lst r.reverse):=zb;generalize upd H1 D2 (.lst r.reverse)=HA at *
    have app:∀ (d:Dat) (vx:V),CW H H1 vx d->out (i::st') T' = d::out st' T'->0<lR i->∀ HB,fO HA HB ->
      se K "list" (V.ref D1) HB/\∃ x,HB D1=some (HO.lst x)/\x.length<16777216 /\
      ∃ m',m' < lb (i::st')/\wI H ps Tn n pa pl D1 D2 D3 m' [some (V.ref pa),some (V.ref pl),some (V.ref D1),some (V.ref D2),some (V.ref D3),some vx] (upd HB D1 (HO.lst (x++[vx]))):=by
     intro d vx hvx hout hpos HB k
     have h1b:=k _ _ h1a
     have tt:=t1.trans ((iL.of k).trans (iL.upd (ys:=tv++[vx]) h1b))
     refine⟨.inl ⟨rfl,_,ij.of h1b⟩,tv,h1b,by lia,lb st',by lia,st',T',th++[d],tv++[vx],r.reverse,_,rfl,by lia,rfl,⟨λb o h=>?_,zb,?_,?_,?_,?_,?_,?_⟩,hT'⟩
     ·rw [zk (zv h f1)];exact k _ _ (b1 _ _ h)
     ·rw [zk d12.symm];exact k _ _ h2a
     ·rw [zk d13.symm];exact k _ _ h3a
     ·refine(I.tvs.mono tt).snoc ?_
      rcases hvx with h | ⟨a,ts,e,h,e2⟩
      ·exact .inl h
      ·exact .inr ⟨a,ts,e,tt _ _ h,e2⟩
     ·rw [Uw];exact hr.mono tt
     ·rw [uz,← I.e,hout];rfl
     ·rw [uc,uu];lia
    have hfin2:∀ H2:Hp,(∀ b o,H b=some o->H2 b=some o)->iL H1 H2->H2 D1=some (.lst tv)->out (i::st') T' = []->Q (V.ref D1) H2:=λH2 g2 t2 hD1 hout=>by
     refine q D1 H2 f1 g2 ⟨D1,tv,rfl,hD1,?_⟩;have e:(out (fX ps) Tn).take n=th:=by rw [← I.e,hout,uj,gY I.le]
     rw [e];exact(I.tvs.mono t2).ds g2
    cases i with
    | o=>
     obtain⟨pv,rfl,hpv⟩:=hv
     walk_at "hi";refine⟨_,f7.of (t1 _ _ hpv),_,rfl,rfl,?_⟩;rw [ub (zE (by decide))]
     walk_at "hi";refine⟨_,f7.of (t1 _ _ hpv),_,rfl,λp hp=>⟨_,.inr (f7.of zb),rfl,rfl,?_⟩⟩;rw [ue (by decide)]
     walk_at "hd";exact app oj (V.ref pv) (.inr ⟨pv,[[111,117,116]],rfl,hpv,rfl⟩) (by simp only [Zq,WT,vQ,xA,xB,xC,vR,xQ,yr]) (by decide) _ (za hp)
    | p x=>
     obtain⟨pv,pvs,rfl,hpv,hf⟩:=nM hv;have hpv1:=b1 _ _ hpv;obtain(⟨t,rfl⟩ | ⟨t,rfl⟩) | ⟨w',n',m',b,rfl⟩ | ⟨n',hx⟩:((∃ t,x=.lit t)\/∃ t,x=.hole t)\/(∃ w n m b,x=.seat w n m b)\/∃ n',(∃ b,x=.each n' b)\/∃ a b,x=.ife n' a b:=by cases x<;>simp
     ·cases (show pvs=_ from hf)
      walk_at "hi";refine⟨_,f7.of hpv1,_,rfl,rfl,?_⟩;rw [ub (zE (by decide))]
      walk_at "hi";refine⟨_,f7.of hpv1,_,rfl,λp hp=>⟨_,.inr (f7.of zb),rfl,rfl,?_⟩⟩;rw [ue (by decide)]
      walk_at "hd";exact app (dP (.lit t)) (V.ref pv) (.inl hv) (by simp only [Zq,WT,vQ,xA,xB,xC,vR,xQ,yr]) (by simp [lR,iq]) _ (za hp)
     ·cases (show pvs=_ from hf)
      walk_at "hi";refine⟨_,f7.of hpv1,_,rfl,rfl,?_⟩;rw [ub (zE (by decide))]
      walk_at "hi";refine⟨_,f7.of hpv1,_,rfl,λp hp=>⟨_,.inr (f7.of zb),rfl,rfl,?_⟩⟩;rw [ue (by decide)]
      walk_at "hd";exact app (dP (.hole t)) (V.ref pv) (.inl hv) (by simp only [Zq,WT,vQ,xA,xB,xC,vR,xQ,yr]) (by simp [lR,iq]) _ (za hp)
     ·obtain⟨wb,rfl,hwb⟩:=hf
      walk_at "hi";refine⟨_,f7.of hpv1,_,rfl,rfl,?_⟩;rw [ue (show tx [115,101,97,116]=V.str (S [115,101,97,116]) from rfl)];obtain⟨ab,vb,rfl,hb,hbs⟩:=hwb;have l1:=Qj (fX b);rw [YT,xw] at l1;have l2:=hbs.len;rw [qB] at l2;have l3:=Qj st';have l4:=hr.len;simp only [lb,lR,iq] at hm
      walk_at "hd";refine⟨.inl ⟨rfl,_,ij.of h1a⟩,_,f7.of hpv1,_,rfl,_,f7.of hpv1,_,rfl,_,f7.of hpv1,_,rfl,λp3 h3'=>?_⟩;have k3:=za (o:=.tup [tx [105,110,116,111],tx w',tx n',tx m']) h3';have h1b:=k3 _ _ h1a;have h2b:=(zk (o:=.lst (tv++[V.ref p3])) d12.symm).trans (k3 _ _ h2a);refine⟨tv,h1b,by lia,?_⟩
      walk_at "hd";refine⟨.inl ⟨rfl,_,ij.of h2b⟩,λp4 h4=>?_⟩;have k4:=za (o:=.tup [tx [111,117,116]]) h4;have h2c:=k4 _ _ h2b;have u1:=iL.upd (ys:=tv++[V.ref p3]) h1b;have u2:=iL.upd (ys:=r.reverse++[V.ref p4]) h2c;have ta:=t1.trans ((iL.of k3).trans (u1.trans ((iL.of k4).trans u2)));have gH:fO H _:=λb o h=>(zk (o:=.lst (r.reverse++[V.ref p4])) (zv h n2)).trans (k4 _ _ ((zk (o:=.lst (tv++[V.ref p3])) (zv h f1)).trans (k3 _ _ (b1 _ _ h))));refine⟨_,h2c,by rw [UK];lia,?_⟩
      walk_at "hd";refine⟨.inl ⟨rfl,_,ij.of zb⟩,_,f7.of (gH _ _ hpv),_,rfl,ab,rfl,vb,ij.of (gH _ _ hb),λp5 h5=>?_⟩;have k5:=za (o:=.lst vb.reverse) h5;have h2d:=k5 _ _ (zb (a:=D2) (o:=.lst (r.reverse++[V.ref p4])));have u3:=iL.upd (ys:=r.reverse++[V.ref p4]++vb.reverse) h2d;have tt:=ta.trans ((iL.of k5).trans u3);refine⟨_,h2d,_,zb,by rw [uc,UK,UK,uu];lia,lb (fX b++.o::st'),by rw [yO,xw];simp only [lb,lR,iq];lia,fX b++.o::st',T',th++[sr w' n' m'],tv++[V.ref p3],r.reverse++[V.ref p4]++vb.reverse,_,rfl,by rw [yO,xw];simp only [lb,lR];lia,rfl,⟨λb o h=>?_,?_,zb,?_,?_,?_,?_,?_⟩,hT'⟩
      ·exact(zk (zv h n2)).trans (k5 _ _ (gH _ _ h))
      ·exact(zk d12).trans (k5 _ _ ((zk d12).trans (k4 _ _ zb)))
      ·exact(zk d23.symm).trans (k5 _ _ ((zk d23.symm).trans (k4 _ _ ((zk d13.symm).trans (k3 _ _ h3a)))))
      ·refine(I.tvs.mono tt).snoc (.inr ⟨p3,[[105,110,116,111],w',n',m'],rfl,?_,rfl⟩);exact(u1.trans ((iL.of k4).trans (u2.trans ((iL.of k5).trans u3)))) _ _ zb
      ·rw [Gu,Uw,Gu,Uw];exact(YS hbs).app (.cons ⟨p4,rfl,(u2.trans ((iL.of k5).trans u3)) _ _ zb⟩ (hr.mono tt))
      ·rw [uz,← I.e];simp only [Zq,WT,vQ,xA,xB,xC,vR,xQ,yr];rfl
      ·rw [uc,uu];lia
     ·obtain⟨k,r1,rfl,hk⟩:∃ k r1,pvs=tx k::r1/\(k=[101,97,99,104]\/k=[105,102]):=by
       rcases hx with⟨b,rfl⟩ | ⟨a,b,rfl⟩
       ·obtain⟨_,rfl,_⟩:=hf;exact⟨_,_,rfl,.inl rfl⟩
       ·obtain⟨_,_,rfl,_⟩:=hf;exact⟨_,_,rfl,.inr rfl⟩
      have hsz2:∀ t,fY (mT x t)<iq x:=λt=>by
       rcases hx with⟨b,rfl⟩ | ⟨a,b,rfl⟩
       ·have:=Fi n' b t;simp only [iq];lia
       ·have:=D5 n' a b t;simp only [iq];lia
      walk_at "hi"
      refine⟨_,f7.of hpv1,_,zx _ _,by rfl,?_⟩
      rw [ub (zE (by rcases hk with rfl | rfl<;>decide))]
      walk_at "hi"
      refine⟨_,f7.of hpv1,_,zx _ _,λp hp=>⟨_,.inr (f7.of zb),by rcases hk with rfl | rfl<;>rfl,by rfl,?_⟩⟩
      rw [ub (by rcases hk with rfl | rfl<;>decide)]
      have k1:=za (o:=HO.tup [V.str (S [101,97,99,104]),V.str (S [105,102])]) hp
      have gB:fO H _:=λb o h=>k1 _ _ (b1 _ _ h)
      have tk:=t1.trans (iL.of k1)
      have h2b:=k1 _ _ h2a
      walk_at "hi"
      cases T' with
      | nil=>
       refine⟨false,Fn (k1 _ _ h3a),?_⟩
       rw [ub (by decide)]
       walk_at "hd"
       exact hfin2 _ gB tk (k1 _ _ h1a) (by rcases hx with⟨b,rfl⟩ | ⟨a,b,rfl⟩<;>simp only [Zq,WT,vQ,xA,xB,xC,vR,xQ,yr])
      | cons t T''=>
       have h3b:=k1 _ _ h3a
       rw [uw,Ul] at h3b
       refine⟨true,sC h3b,?_⟩
       rw [ue rfl]
       walk_at "hd"
       refine⟨.inl ⟨rfl,_,ij.of h2b⟩,x,n',H,gB,hv,hx,λp1 a0 a1 v0 v1 H2 g2 hp1 ha0 ha1 hd0 hd1 hne=>?_⟩
       have ht2:t<2:=hT' t Up
       have h3c:=g2 _ _ h3b
       have hD3:=hne D3 _ h3b n3
       obtain⟨at_,vt,hat,hpt,hds,hne3⟩:∃ at_ vt,lQ [V.ref a0,V.ref a1] (t:Int)=some (V.ref at_)/\H2 at_=some (.lst vt)/\fZ H (iB (mT x t)) vt/\at_≠D3:=by
        have:t=0\/t=1:=by lia
        rcases this with rfl | rfl
        ·exact⟨a0,v0,rfl,ha0,hd0,hD3.1⟩
        ·exact⟨a1,v1,rfl,ha1,hd1,hD3.2⟩
       have hbs:=hsz2 t
       have l1:=Qj (fX (mT x t))
       rw [YT,xw] at l1
       have l2:=hds.len
       rw [qB] at l2
       have l3:=Qj st'
       have l4:=hr.len
       simp only [lb,lR,iq] at hm
       refine⟨.inl ⟨rfl,_,ij.of h3c⟩,_,h3c,V.int t,by simp,_,t,rfl,f7.of (iL.upd h3c _ _ hp1),_,hat,at_,rfl,vt,ij.of (by rw [zk hne3];exact hpt),λp4 h4=>?_⟩
       rw [gc] at h4 ⊢
       have k4:=za (o:=.lst vt.reverse) h4
       have h2c:=k4 _ _ ((zk (o:=.lst (T''.map λ(t:Nat)=>V.int t).reverse) d23).trans (g2 _ _ h2b))
       have tt:=tk.trans ((iL.of g2).trans ((iL.upd (ys:=(T''.map λ(t:Nat)=>V.int t).reverse) h3c).trans ((iL.of k4).trans (iL.upd (ys:=r.reverse++vt.reverse) h2c))))
       refine⟨_,h2c,_,zb,by rw [UK,UK];lia,lb (fX (mT x t)++st'),by rw [yO,xw];simp only [lb,lR,iq];lia,fX (mT x t)++st',T'',th,tv,r.reverse++vt.reverse,_,rfl,by rw [yO,xw];lia,rfl,⟨λb o h=>?_,?_,zb,?_,I.tvs.mono tt,?_,?_,I.le⟩,λx hx=>hT' x (uL _ hx)⟩
       ·exact(zk (zv h n2)).trans (k4 _ _ ((zk (zv h n3)).trans (g2 _ _ (gB _ _ h))))
       ·exact(zk d12).trans (k4 _ _ ((zk d13).trans (g2 _ _ (k1 _ _ h1a))))
       ·exact(zk d23.symm).trans (k4 _ _ zb)
       ·rw [Gu,Uw,Uw]
        exact(YS hds).app (hr.mono tt)
       ·rw [← I.e]
        rcases hx with⟨b,rfl⟩ | ⟨a,b,rfl⟩<;>simp only [Zq,WT,vQ,xA,xB,xC,vR,xQ,yr]
   ·rename_i hlt;exact hfin (.inl (by have:=I.le;lia))
def aI (pa pl D:Addr)(H:Hp)(ths:List V)(A:List Th)(sF:MS)(aF:List (List Tx))(p:Addr)(H2:Hp)(i:Nat)(σ:L2.St)(H':Hp):Prop:=∃ (sv:V) (o4:Option V) (s:MS) (a:List (List Tx)) (av:List V),σ=[some (.ref pa),some (.ref pl),some sv,some (.ref p),o4]/\fO H H'/\iL H2 H'/\H' D=some (.lst ths)/\lI H' sv s/\H' p=some (.lst av)/\nr H' av a.reverse/\av.length<=i/\Rn s a (A.drop i) sF aF
noncomputable def dTs:Th->List Tx
 | .lit t=>[[108,105,116],t]
 | .hole t=>[[104,111,108,101],t]
 | .into w n m=>[[105,110,116,111],w,n,m]
 | .out=>[[111,117,116]]
theorem LO {H:Hp}{h:Th}{v:V}(k:fV H (nG h) v):∃ p,v=.ref p/\H p=some (.tup ((dTs h).map tx)):=by
 cases h with
 | lit t=>
  obtain⟨p,vs,e,hp,v0,r0,rfl,⟨rfl,_⟩,v1,r1,rfl,⟨rfl,_⟩,rfl⟩:=(by simpa only [nG,dP] using k:fV H (.tp [ft [108,105,116],ft t]) v)
  exact⟨p,e,hp⟩
 | hole t=>
  obtain⟨p,vs,e,hp,v0,r0,rfl,⟨rfl,_⟩,v1,r1,rfl,⟨rfl,_⟩,rfl⟩:=(by simpa only [nG,dP] using k:fV H (.tp [ft [104,111,108,101],ft t]) v)
  exact⟨p,e,hp⟩
 | into w n m=>
  obtain⟨p,vs,e,hp,v0,r0,rfl,⟨rfl,_⟩,v1,r1,rfl,⟨rfl,_⟩,v2,r2,rfl,⟨rfl,_⟩,v3,r3,rfl,⟨rfl,_⟩,rfl⟩:=(by simpa only [nG,sr] using k:fV H (.tp [ft [105,110,116,111],ft w,ft n,ft m]) v)
  exact⟨p,e,hp⟩
 | out=>
  obtain⟨p,vs,e,hp,v0,r0,rfl,⟨rfl,_⟩,rfl⟩:=(by simpa only [nG,oj] using k:fV H (.tp [ft [111,117,116]]) v)
  exact⟨p,e,hp⟩
theorem zaY (T:Txt w K mg t)(D:Df K mg "state_at" Q5 vn)(aC:fW P w K mg fQ 1 "begin" yk ky)(aJ:fW P w K mg fQ 2 "walked" vT kB)(aB:nJ P w K mg fQ 8 "run" Q1 (Wv t))(aD:fW P w K mg fQ 1 "floored" wK xO):fW P w K mg fQ 9 "state_at" vn yP:=by
 refine D.ok j5 ?_ ?_;walk_at "b"
 ·refine ex9 h λpa pl ta ps Tn n A s a h=>?_;refine CQ h λh1 h2 h3 h4 h5 h6 h7 h8 h9 hrn q=>?_;refine⟨_,(zc (ip 2 j5.nd (JX aC hr (by decide))) (zc (ip 3 j5.nd (zl zC)) (zc (vB PassesOwn.never (by rfl) (xg (K:=K) (by rfl) (qF aJ hr (f6 (qv 0) (qv 1)))) (lz 4 j5.nd) (zd (zm (ia zu (ic K (qv 4) ze) (qS fE)) (zd (ip 2 j5.nd (ic K (PN aB hr (by decide) (f6 (qv 2) (ic K (qv 4) ze))) ze))) (zd (zm (ia zu (ic K (qv 4) ze) (qS [105,110,116,111])) (zc (xS (yX (K:=K) (by rfl) uM Ut Uu xJ (qv 3) (f9 (ic K (qv 2) ze)))) (zd (ip 2 j5.nd (qF aD hr (f9 (qv 2)))))) (zd (zm (ia zu (ic K (qv 4) ze) (qS [111,117,116])) (zd (ip 2 j5.nd (zh (lp (ic K (qv 2) ze) (ic K (qv 2) ze) (zr EX (Yv (K:=K) (by rfl) uM Ga Gb Bg (qv 3)) (ic K (qv 2) ze)) (ic K (qv 2) ze))))) zi))))))) (zd (zg (qv 2)))))).h,?_⟩
  walk_at "hd";intro v H1 g1 hv
  walk_at "hd";intro p hp;have gp:=za (o:=.lst []) hp;have g2:=g1.trans gp
  walk_at "hd";refine⟨ta,ps,h1.mono g2,Tn,n,g2 _ _ h2,g2 _ _ h3,h4,h5,h6,h7,λD H2 hD gD hw=>?_⟩;rw [h8] at hw;obtain⟨D',ths,e,eD,hth⟩:=(by simpa only [fV] using hw:∃ a vs,V.ref D=.ref a/\H2 a=some (.lst vs)/\fZ H2 (A.map nG) vs)
  cases e;have hlen:ths.length=A.length:=by rw [← hth.len,uk]
  have gH:fO H H2:=g2.trans gD;have hpD:p≠D:=λz=>by subst z;rw [zb] at hD;cases hD
  refine⟨⟨_,ij.of eD⟩,?_⟩;refine vI (xs:=ths) (aI pa pl D H ths A s a p H2) ⟨v,none,mY,[],[],rfl,gH,iL.of (fO.refl H2),eD,(hv.mono gp).mono gD,gD _ _ zb,.nil,ui _,hrn⟩ ?_ ?_ ?_
  ·rintro i σ H3 _ ⟨_,_,_,_,_,_,_,_,e,_⟩;exact ij.of e
  ·rintro i x σ H3 hi ⟨sv,o4,s',a',av,rfl,g3,t3,e3,hs3,hp3,ha3,hl3,hr3⟩;have hiA:i<A.length:=by have:=(uA.mp hi).1;lia
   obtain⟨dd,hd1,hd2⟩:=hth.get hi;rw [Uk,ux hiA] at hd1;cases hd1;obtain⟨xa,rfl,hx⟩:=LO hd2;rw [uV hiA] at hr3;obtain⟨s2,a2,hn,hr4⟩:=hr3.nx;have hH:H p=none:=none_of g1 hp;obtain⟨sa,so,rfl,hs1,hs2⟩:=hs3;generalize A[i]=h at hx hn;cases h with
   | lit tt=>
    have hx:H2 xa=some (.tup [tx [108,105,116],tx tt]):=hx;have hx:=t3 _ _ hx;obtain⟨⟨es,hr1⟩,hw,ho,rfl⟩:=hn
    walk_at "hi";refine⟨_,f7.of hx,_,zx _ _,rfl,?_⟩;rw [ue (by rfl)]
    walk_at "hd";refine⟨_,f7.of hx,_,q9 _ _ _,s',tt,rfl,⟨sa,so,rfl,hs1,hs2⟩,hw,ho,λs1 es1 e v4 H4 g4 hv4=>?_,λb e=>by rw [hr1] at e;cases e⟩;rw [hr1] at e;cases e;obtain⟨q4,sa4,ea4,rfl,f1,f2,_⟩:=hv4;exact⟨q4,rfl,_,f7.of f1,sa4,zx _ _,_,_,_,_,av,rfl,g3.trans g4,t3.trans (iL.of g4),g4 _ _ e3,f2,g4 _ _ hp3,ha3.mono (iL.of g4),by lia,hr4⟩
   | hole tt=>
    have hx:H2 xa=some (.tup [tx [104,111,108,101],tx tt]):=hx;have hx:=t3 _ _ hx;obtain⟨rfl,rfl⟩:=hn
    walk_at "hi";refine⟨_,f7.of hx,_,zx _ _,rfl,?_⟩;rw [ub (zE (by decide))]
    walk_at "hi";refine⟨_,f7.of hx,_,zx _ _,rfl,?_⟩;rw [ub (zE (by decide))]
    walk_at "hi";refine⟨_,f7.of hx,_,zx _ _,rfl,?_⟩;rw [ub (zE (by decide))]
    walk_at "hd";exact⟨_,_,_,_,av,rfl,g3,t3,e3,⟨sa,so,rfl,hs1,hs2⟩,hp3,ha3,by lia,hr4⟩
   | into w1 n1 m1=>
    have hx:H2 xa=some (.tup [tx [105,110,116,111],tx w1,tx n1,tx m1]):=hx;have hx:=t3 _ _ hx;obtain⟨rfl,rfl⟩:=hn
    walk_at "hi";refine⟨_,f7.of hx,_,zx _ _,rfl,?_⟩;rw [ub (zE (by decide))]
    walk_at "hi";refine⟨_,f7.of hx,_,zx _ _,rfl,?_⟩;rw [ue (by rfl)]
    walk_at "hd";have tp:iL H3 (upd H3 p (.lst (av++[.ref so]))):=iL.upd hp3;refine⟨.inl ⟨rfl,_,ij.of hp3⟩,_,f7.of hs1,.ref so,rfl,av,hp3,by lia,?_⟩
    walk_at "hd";refine⟨s',⟨sa,so,rfl,tp _ _ hs1,tp _ _ hs2⟩,λv4 H4 g4 hv4=>?_⟩;have tp4:=tp.trans (iL.of g4);refine⟨_,_,_,_,av++[.ref so],rfl,fO.trans (Z3 hH g3) g4,t3.trans tp4,g4 _ _ (by rw [zk hpD.symm];exact e3),hv4,g4 _ _ zb,?_,by simp;lia,hr4⟩;rw [Ul];exact(ha3.mono tp4).snoc ⟨so,rfl,tp4 _ _ hs2⟩
   | out=>
    have hx:H2 xa=some (.tup [tx [111,117,116]]):=hx;have hx:=t3 _ _ hx;obtain⟨o,rfl,hol,rfl⟩:=hn;rw [Ul] at ha3;obtain⟨pM,ov,rfl,ha1,oa,rfl,hoa⟩:=ha3.unsnoc
    walk_at "hi";refine⟨_,f7.of hx,_,zx _ _,rfl,?_⟩;rw [ub (zE (by decide))]
    walk_at "hi";refine⟨_,f7.of hx,_,zx _ _,rfl,?_⟩;rw [ub (zE (by decide))]
    walk_at "hi";refine⟨_,f7.of hx,_,zx _ _,rfl,?_⟩;rw [ue (by rfl)]
    walk_at "hd";have tp:iL H3 (upd H3 p (.lst pM)):=iL.upd hp3;have hs1':=tp _ _ hs1;refine⟨_,f7.of hs1,_,zx _ _,_,f7.of hs1,_,q9 _ _ _,.inl ⟨rfl,_,ij.of hp3⟩,_,hp3,.ref oa,by simp,?_⟩;rw [gc];refine⟨_,f7.of hs1',.ref so,rfl,oa,rfl,so,rfl,_,tp _ _ hoa,_,tp _ _ hs2,by rw [uk,uk];lia,λp2 H4 g4 e4=>?_⟩;refine⟨_,f7.of (g4 _ _ hs1'),tx s'.talk,rfl,λp5 hp5=>?_⟩;have g5:=za (o:=.tup [tx s'.mode,tx s'.word,.ref p2,tx s'.talk]) hp5;have g45:=g4.trans g5;have tp4:=tp.trans (iL.of g45);refine⟨_,_,{ s' with opens:=o++s'.opens },a2,pM,rfl,fO.trans (Z3 hH g3) g45,t3.trans tp4,g45 _ _ (by rw [zk hpD.symm];exact e3),⟨p5,p2,rfl,zb,?_⟩,g45 _ _ zb,ha1.mono tp4,by simp at hl3;lia,hr4⟩;show _=some (HO.tup ((o++s'.opens).map tx));rw [UE];exact g5 _ _ e4
  ·rintro σ H3 ⟨sv,o4,s',a',av,rfl,g3,t3,e3,hs3,hp3,ha3,hl3,hr3⟩
   walk_at "hd";rw [List.drop_of_length_le (by lia)] at hr3;cases hr3;exact q sv H3 g3 hs3
theorem SO (T:Txt w K mg t)(D:Df K mg "_law_ran" Jb vp)(aB:nJ P w K mg fQ 8 "run" Q1 (Wv t)):fW P w K mg fQ 9 "_law_ran" vp yQ:=by
 refine D.ok WQ ?_ ?_;walk_at "b"
 ·refine pK h λx s l b h=>?_;refine FI h λhx hl hw ho q=>?_;refine⟨_,(zc (DE (i:=2) T.m_Unread T.c_Unread WQ.nd (by rfl) (by rfl) (by rfl) (by rfl) (λE pn xe hp hx=>(zd (xS (Jy hx aB hr (by decide) (f6 (qv 0) (qv 1)))))) (λpn ea=>(zd (zg (yW (K:=K) (by rfl) (qv 2)))))) (zd (zg zH))).h,?_⟩
  walk_at "rd";refine⟨s,hx,hw,ho,λs' es e=>(by rw [hl] at e;cases e),λb' e d H1 g1 hd=>?_⟩;rw [hl] at e;cases e;refine⟨t.Unread,rfl,T.c_Unread,T.kit_up_ur,λea H2 g2 hc=>⟨_,_,⟨T.c_Unread,d,hc,g2 _ _ hd⟩,T.n_Unread_at,_,rfl,q _ (g1.trans g2)⟩⟩
theorem Jh (T:Txt w K mg t)(D:Df K mg "_law_told_places" wQ qM):fW P w K mg fQ 1 "_law_told_places" qM jt:=by
 refine D.ok Qm ?_ ?_;walk_at "b"
 ·refine nN h λr B f h=>?_;refine ng h λhf hfa q=>?_;refine⟨_,(zc (zm (ia zu (ic K (qv 0) ze) (qS fH)) (zd (zg (ic K (qv 0) ze))) zi) (zd (zg (ic K (qv 0) ze)))).h,?_⟩
  walk_at "rd";rcases hfa with⟨Tn,n,b,rfl⟩ | ⟨x,Tn,n,rfl⟩
  ·obtain⟨p,e,k⟩:=hf;exact⟨_,f7.of e,_,zx _ _,rfl,kM rfl ⟨_,f7.of e,_,q9 _ _ _,q _ _ _ k (.inl ⟨_,rfl⟩)⟩⟩
  ·obtain⟨p,e,k⟩:=hf;exact⟨_,f7.of e,_,zx _ _,rfl,XN (by decide) ⟨_,f7.of e,_,Zv _ _ _ _,q _ _ _ k (.inr ⟨_,rfl⟩)⟩⟩
theorem Y8 (T:Txt w K mg t)(D:Df K mg "_law_shows" k8 wy)(ck:fW P w K mg fQ 9 "state_at" vn yP)(aJ:fW P w K mg fQ 2 "walked" vT kB)(aN:fW P w K mg fQ 1 "place_of" wX vq)(cm:fW P w K mg fQ 9 "_law_ran" vp yQ):fW P w K mg fQ 40 "_law_shows" wy xZ:=by
 refine D.ok wz ?_ ?_;walk_at "b"
 ·refine pK h λpa da ps f h=>?_;refine av7 h λhp hd hfa hb1 hb2 hm q=>?_;refine⟨_,(zc (ip 2 wz.nd (ic K (qv 1) ze)) (zc (zm (ia zu (ic K (qv 1) ze) (qS fJ)) (zd (ip 2 wz.nd (ic K (qv 1) ze))) zi) (zc (ip 3 wz.nd (qF ck hr (f6 (qv 0) (qv 2)))) (zc (zm (ia tR (zJ (wH (K:=K) (by rfl)) (by rfl) T.z_len yT (f9 (qF aJ hr (f6 (qv 0) (qv 2))))) (ic K (qv 2) ze)) (zd (zg VZ)) zi) (zc (ip 4 wz.nd (qF aJ hr (f6 (qv 0) (zh (f6 (ic K (qv 2) ze) (zr qO (ic K (qv 2) ze) ze)))))) (zc (zm (ia tR (zJ (wH (K:=K) (by rfl)) (by rfl) T.z_len yT (f9 (qv 4))) (zr qO (ic K (qv 2) ze) ze)) (zd (zg VZ)) zi) (zc (zm (ia zu (ic K (qv 1) ze) (qS fJ)) (zd (zg (DH (nW (Yo (mw hr)) (ml K (qv 4) (V1 Qu ze)) (zh (f6 (qS fF) (ic K (qv 1) ze)))) (DF (nW Qv (qF aN hr (f9 (qv 3))) zH))))) zi) (zd (zg (DH (nW zu (ic K (ml K (qv 4) (V1 Qu ze)) ze) (qS fE)) (DF (nW zu (qF cm hr (f6 (qv 3) (ic K (ml K (qv 4) (V1 Qu ze)) ze))) (ic K (qv 1) ze))))))))))))).h,?_⟩;rcases hfa with⟨Tn,n,b,rfl⟩ | ⟨x,Tn,n,rfl⟩
  case' _=>
   obtain⟨e2,b1,b2⟩:=hb1 _ _ _ rfl;obtain⟨px,vs,e,hx,v0,r0,rfl,⟨rfl,_⟩,v1,r1,rfl,hpl,v2,r2,rfl,⟨rfl,_⟩,rfl⟩:=hd;cases e;obtain⟨pl,rfl,l,h1,h2⟩:=De hpl;obtain⟨tt,s,hM,hr,hwd,ho⟩:=hm;obtain⟨A,R,a,hA,hout,⟨R',rfl⟩,hrn⟩:=hM.at'.ex
   walk_at "hd";refine⟨_,f7.of hx,_,q9 _ _ _,?_⟩
   walk_at "hi";refine⟨_,f7.of hx,_,zx _ _,rfl,XN (by decide) ?_⟩;obtain⟨y,hy⟩:∃ y,y=Pc.lit tt:=⟨_,rfl⟩
   rw [← hy] at hout
  rotate_left
  case' _=>
   obtain⟨e2,b1,b2⟩:=hb2 _ _ _ rfl;obtain⟨px,vs,e,hx,v0,r0,rfl,⟨rfl,_⟩,v1,r1,rfl,⟨rfl,_⟩,v2,r2,rfl,hpl,rfl⟩:=hd;cases e;obtain⟨pl,rfl,l,h1,h2⟩:=De hpl;obtain⟨s,hM,hr⟩:=hm;obtain⟨A,R,a,hA,hout,⟨R',rfl⟩,hrn⟩:=hM.at'.ex
   walk_at "hd";refine⟨_,f7.of hx,_,q9 _ _ _,?_⟩
   walk_at "hi";refine⟨_,f7.of hx,_,zx _ _,rfl,kM rfl ?_⟩
   walk_at "hd";refine⟨_,f7.of hx,_,Zv _ _ _ _,?_⟩;obtain⟨y,hy⟩:∃ y,y=Pc.hole x:=⟨_,rfl⟩
   rw [← hy] at hout
  all_goals
   have sz:=hp.2.2;have et:(out (fX ps) Tn).take n=A.map nG:=by rw [hout];exact List.take_left' (by rw [uk,hA])
   have et1:(out (fX ps) Tn).take (n+1)=A.map nG++[dP y]:=by rw [hout,List.append_cons];exact List.take_left' (by rw [uc,uk,hA];rfl)
   walk_at "hd";refine⟨l,ps,hp.1,Tn,n,h1,h2,e2,by lia,by lia,by lia,A,et,by lia,s,⟨a,hrn⟩,λv H1 g1 hs=>?_⟩
   walk_at "hi";refine⟨l,ps,hp.1.mono g1,Tn,n,g1 _ _ h1,g1 _ _ h2,e2,by lia,by lia,by lia,λD H2 nD g2 hD=>?_⟩;rw [et] at hD;obtain⟨D',ws,e,eD,hw⟩:=hD;cases e;have lw:ws.length=n:=by rw [← hw.len,uk,hA]
   have g:=g1.trans g2;refine⟨ws,.inl (ij.of eD),_,f7.of (g _ _ h1),_,q9 _ _ _,rfl,?_⟩;refine XN (by rw [lw];simp) ?_
   walk_at "hd";refine⟨_,f7.of (g _ _ h1),_,zx _ _,_,f7.of (g _ _ h1),_,q9 _ _ _,_,rfl,λp3 h3=>?_⟩;have gp:=za (o:=.tup [V.ref l,V.int ((n:Int)+1)]) h3;have G:=g.trans gp;refine⟨l,ps,hp.1.mono G,Tn,n+1,zb,G _ _ h2,e2,by lia,by lia,by lia,λD3 H3 nD3 g3 hD3=>?_⟩;rw [et1] at hD3;obtain⟨D',ws3,e,eD3,hw3⟩:=hD3;cases e;have lw3:ws3.length=n+1:=by rw [← hw3.len,uc,uk,hA];rfl
   have G3:=G.trans g3
   walk_at "hi";refine⟨ws3,.inl (ij.of eD3),_,f7.of (G3 _ _ h1),_,q9 _ _ _,_,rfl,?_⟩;refine XN (by rw [lw3];simp) ?_;obtain⟨v4,e4,k4⟩:=Et hw3
  ·walk_at "hi";refine⟨_,f7.of (G3 _ _ hx),_,zx _ _,rfl,kM rfl ?_⟩
   walk_at "hd";refine⟨_,ij.of eD3,v4,e4,?_⟩;obtain⟨p4,us,rfl,hp4,v5,r5,rfl,⟨rfl,_⟩,v6,r6,rfl,⟨rfl,_⟩,rfl⟩:=(by simpa only [hy,dP] using k4:fV H3 (.tp [ft [104,111,108,101],ft x]) v4)
   refine⟨_,f7.of (G3 _ _ hx),_,q9 _ _ _,λp5 h5=>?_⟩;have g5:=za (o:=.tup [V.str (S [104,111,108,101]),tx x]) h5;have k5:fV (upd H3 p5 (.tup [V.str (S [104,111,108,101]),tx x])) (.tp [ft [104,111,108,101],ft x]) (.ref p5):=⟨p5,_,rfl,zb,_,_,rfl,⟨rfl,rfl⟩,_,_,rfl,⟨rfl,rfl⟩,rfl⟩
   refine⟨.tp [ft [104,111,108,101],ft x],.tp [ft [104,111,108,101],ft x],p4,rfl,⟨p4,_,rfl,g5 _ _ hp4,_,_,rfl,⟨rfl,rfl⟩,_,_,rfl,⟨rfl,rfl⟩,rfl⟩,k5,by simp [iO,xE,ft],?_⟩;rw [vW k5.flat];refine kM rfl ⟨s,hs.mono (g2.trans (gp.trans (g3.trans g5))),λH6 g6=>?_⟩;rw [hr];exact q _ (G3.trans (g5.trans g6))
  ·walk_at "hi";refine⟨_,f7.of (G3 _ _ hx),_,zx _ _,rfl,XN (by decide) ?_⟩
   walk_at "hd";refine⟨_,ij.of eD3,v4,e4,?_⟩;obtain⟨p4,us,rfl,hp4,v5,r5,rfl,⟨rfl,_⟩,v6,r6,rfl,⟨rfl,_⟩,rfl⟩:=(by simpa only [hy,dP] using k4:fV H3 (.tp [ft [108,105,116],ft tt]) v4)
   refine⟨p4,rfl,_,f7.of hp4,_,zx _ _,rfl,kM rfl ⟨_,ij.of eD3,_,e4,p4,rfl,_,f7.of hp4,_,q9 _ _ _,s,tt,rfl,hs.mono (g2.trans (gp.trans g3)),b,hr,hwd,ho,λH4 g4=>⟨_,f7.of ((G3.trans g4) _ _ hx),_,Zv _ _ _ _,rfl,?_⟩⟩⟩;rw [Uv rfl];exact q _ (G3.trans g4)
theorem Y9 (T:Txt w K mg t)(D:Df K mg "_law_right" Za wA)(ae:fW P w K mg fQ 1 "_law_mix" qT jf)(cn:fW P w K mg fQ 41 "_law_made" xm vP)(cp:fW P w K mg fQ 61 "_law_due" vo yM)(aG:fW P w K mg fQ 63 "_law_looked" jz j8)(aW:fW P w K mg fQ 1 "_law_told_places" qM jt)(cq:fW P w K mg fQ 40 "_law_shows" wy xZ):fW P w K mg fQ 65 "_law_right" wA va:=by
 refine D.ok xW ?_ ?_;walk_at "b"
 ·refine nE h λc wd h=>?_;refine mE h λhwd q=>?_;refine⟨_,(zc (ip 2 xW.nd (ic K (qF cn hr (f6 (qv 0) (zl (f9 (zl (iw (zr qO ze (qF ae hr (iw (qv 0) ze ze))) (qv 1) (qS [122,122]))))))) ze)) (zc (ip 3 xW.nd (qF cp hr (iw (qv 2) (qv 1) (qS [122,122])))) (zc (ip 4 xW.nd (qF aG hr (f9 (qv 2)))) (zc (zm (QW.qt (XH (ia (XA (mw hr)) (qv 4) (qv 3)) (XH (vZ (jV (zJ (Ru (K:=K) (n:="tuple") (by rfl)) (by rfl) T.z_isinstance zT (f6 (qF aW hr (f9 (qv 4))) (DG (v:=.ty "tuple") T.z_tuple PV (by rfl)))))) (Yw (vZ (jV (qF cq hr (f6 (qv 2) (qv 3))))))))) (zd (zg VZ)) zi) (zc (xS (yX (K:=K) (by rfl) uM Ut Uu xJ (ic K (qF aW hr (f9 (qv 4))) ze) (f9 ze))) (zd (zg (nW (Yo (mw hr)) (qF aG hr (f9 (qv 2))) (qv 3))))))))).h,?_⟩
  walk_at "hd";intro H1 g1 p h1 pa h2;have a1:=za (o:=.lst [V.int (1+((ix c 11 14:Nat):Int)),V.str (S (JK wd)),V.str (S [122,122])]) h1;have a2:=za (o:=.lst [V.ref p]) h2;have np:pa≠p:=λy=>by rw [y,zb] at h2;cases h2
  refine⟨[p],[(1+((ix c 11 14:Nat):Int),wd,[122,122])],⟨zb,λy=>np (uC.mp y),by simp,.cons (a2 _ _ zb) .nil,λy hy=>(by cases uC.mp hy;exact .inl rfl),by simp⟩,λy hy=>(by cases uC.mp hy;show(1+((ix c 11 14:Nat):Int)) > 0;lia),λr ps z L' H2 hr res z1 z2 bz=>?_⟩;obtain⟨rp,p',fa,da,xs,rfl,hp',hds,hda,np',nd,hxl⟩:=hr;have G:fO H H2:=λb o e=>rp.old (λy=>by cases uC.mp y;rw [none_of g1 h1] at e;cases e) ((g1.trans (a1.trans a2)) _ _ e);have hd:=hds.mono Qs;cases res with
  | ok hok=>cases z2 rfl
  | @bad wd' mk kk r0 hm hbad hkk=>
   cases uC.mp (z1 _ rfl);have hb:oC 3 zP ps wd [122,122] kk r0:=hbad;have hlk:jr ps=.error (lU wd [122,122] (oM kk) r0):=by have:=MD (qs:=[]) hb (by decide);rwa [uj] at this
   have rd:∀ {H':Hp},fO H2 H'->pB 5 H' (.ref fa) ps:=λg=>⟨hd.mono g,by have:=bz.dp;lia,by have:=bz.sz;lia⟩
   have lk:∀ {H':Hp},fO H2 H'->rZ H' (.ref fa) ps:=λg=>⟨hd.mono g,bz.nm,by have:=bz.dp;lia,by have:=bz.sz;lia,by have:=bz.tx;lia⟩
   have fa':Fa (lU wd [122,122] (oM kk) r0):=by
    rcases hwd with rfl | rfl
    ·exact .inl ⟨_,_,_,rfl⟩
    ·exact .inr ⟨_,_,_,rfl⟩
   refine⟨p',rfl,_,f7.of hp',_,zx _ _,?_⟩
   walk_at "hd";refine⟨ps,wd,rfl,rd (fO.refl _),kk,r0,hb.path,.inl rfl,hkk,λe=>hb.text e,λv H3 g3 hv=>?_⟩
   walk_at "hd";refine⟨ps,lk g3,λr1 H4 g4 hre hd4=>?_⟩;have hrv:=hre _ hlk;rw [hlk] at hd4;obtain⟨x,rfl⟩:=Mu hv
   walk_at "hi";refine⟨_,hd4,_,hv.mono g4,Xg _,?_⟩;rw [vW hd4.flat];refine XN (by decide) ⟨H3,_,hrv,fa',λp5 Tn n hpl _=>?_⟩;obtain⟨l,hl0,hl1,hl2⟩:=hpl;obtain⟨b1,b2⟩:=kC _ _ _ hb.path;have b3:=vw _ _ _ hb.path;have bs:=bz.sz;have bt:=bz.tx;have nl:∀ T n,lU wd [122,122] (oM kk) r0≠.left T n:=by rcases fa' with⟨_,_,_,e⟩ | ⟨_,_,_,e⟩<;>rw [e]<;>nofun
   refine⟨_,.tup hl1,true,rfl,XN (by decide) ⟨ps,rd (g3.trans g4),_,hv.mono g4,fa',λT n b e=>?_,λx T n e=>?_,Mr hlk nl (by lia),λH5 g5=>?_⟩⟩
   ·rcases hwd with rfl | rfl
    ·cases e;exact⟨b1,by lia,by lia⟩
    ·cases e
   ·rcases hwd with rfl | rfl
    ·cases e
    ·cases e;exact⟨b1,by lia,by lia⟩
   walk_at "hd";refine⟨H3,_,hrv.mono g5,fa',λp6 T6 n6 hpl6 hf6=>?_⟩;obtain⟨l6,z6,e6,e7⟩:=hpl6;have l6n:T6.length<=10000:=by rcases hf6 with⟨b,e⟩ | ⟨y,e⟩<;>rcases hwd with rfl | rfl<;>cases e<;>lia
   have gz:fO H3 (upd H5 l6 (.lst ((T6.map λ(t:Nat)=>V.int t)++[.int 1]))):=Z3 z6 (g4.trans g5);refine⟨_,f7.of e6,_,zx _ _,.inl ⟨rfl,_,ij.of e7⟩,l6,rfl,_,e7,by rw [uk];lia,?_⟩
   walk_at "hd";refine⟨ps,lk (g3.trans gz),λr2 H6 h6 _ hd6=>?_⟩;rw [hlk] at hd6;refine⟨_,hd6,_,hv.mono (gz.trans h6),Xg _,?_⟩;rw [vW hd6.flat];exact q _ (G.trans (g3.trans (gz.trans h6)))
def lwI (a:Addr)(H:Hp)(σ:L2.St)(H':Hp):Prop:=∃ (o1 o2 o3:Option V),σ=[some (.ref a),o1,o2,o3]/\fO H H'
theorem LN (T:Txt w K mg t)(D:Df K mg "law" AK YG)(cu:fW P w K mg fQ 1 "_law_cell" xl (vL K))(aX:fW P w K mg fQ 65 "_law_right" wA va)(aG:fW P w K mg fQ 63 "_law_looked" jz j8):fW P w K mg fQ 66 "law" YG (Wy K):=by
 refine D.ok X5 ?_ ?_;walk_at "b"
 ·refine nE h λa is h=>?_;refine ng h λhS h63 q=>?_;refine⟨_,(zc (vB PassesOwn.never (by rfl) (V2 (by rfl) T.z_range (f9 (zJ (Sh (by rfl)) (by rfl) T.z_max Lo (f6 ze (zJ (Sg (by rfl)) (by rfl) T.z_min Ln (f6 (zJ (wH (K:=K) (by rfl)) (by rfl) T.z_len yT (f9 (qv 0))) ze)))))) (lz 1 X5.nd) (zc (ip 2 X5.nd (qF cu hr (f6 (qv 0) (qv 1)))) (zd (zm (QW.qt (XH (vZ (jV (qF aX hr (f6 (qv 2) (qS fH))))) (Yw (vZ (jV (qF aX hr (f6 (zr qO (zr Pf (qv 2) ze) ze) (qS fJ)))))))) (zd (zg VZ)) zi)))) (zc (ip 3 X5.nd (zl (iw (zh (f6 (qS fE) (qS [60,97,62]))) (zh (iw (qS fz) (qS [101]) (zl (f9 (zh (f6 (qS fE) (qS [120]))))))) (zh (mD (qS fD) (qS fG) (qS [112]) (qS []) (zl (f9 (zh (f6 (qS fE) (qS [60,47,97,62,60,97,62])))))))))) (zc (zm (ia (XA (mw hr)) (qF aG hr (f9 (qv 3))) (zh (iw (qS fH) (zh (f6 (zl (f9 ze)) ze)) ze))) (zd (zg VZ)) zi) (zc (ip 3 X5.nd (zl (f9 (zh (lp (qS fA) (qS [105]) (zl (f9 (zh (f6 (qS fE) (qS [120]))))) (zl (f9 (zh (iw (qS fz) (qS [101]) (zl (f6 (zh (f6 (qS fE) (qS [60]))) (zh (f6 (qS fF) (qS [104])))))))))))))) (zd (zg (nW (Yo (mw hr)) (qF aG hr (f9 (qv 3))) (zh (iw (qS fJ) (qS [104]) (zh (f6 (zl (f6 ze ze)) ze))))))))))).h,?_⟩;have run1:jr [.lit [60,97,62],.each [101] [.lit [120]],.seat JI [112] [] [.lit [60,47,97,62,60,97,62]]]=.error (.astray [0] 2 3):=by rfl
  have run2:jr [.ife [105] [.lit [120]] [.each [101] [.lit [60],.hole [104]]]]=.error (.noplace [104] [1,1] 1):=by rfl
  walk_at "rd";refine⟨_,.inl hS,?_⟩;rw [uk];generalize hn0:(if (if (8:Int)<(is.length:Int) then 8 else(is.length:Int)) > 2 then if (8:Int)<(is.length:Int) then 8 else(is.length:Int) else 2)=n0;have hb:0<=n0/\n0<=8:=by rw [← hn0];split<;>(try split)<;>lia
  refine⟨by lia,by lia,?_⟩;refine KI (λ_ σ H'=>lwI a H σ H') ⟨_,_,_,rfl,fO.refl _⟩ ?_ ?_
  ·rintro i σ H1 hi ⟨o2,o3,o4,rfl,g1⟩
   walk_at "rd";exact⟨is,g1.seq hS,h63,by lia,λc H2 g2=>⟨.astray,rfl,.inl rfl,λH3 g3=>⟨⟨by decide,by decide⟩,.noplace,rfl,.inr rfl,λH4 g4=>⟨_,_,_,rfl,g1.trans (g2.trans (g3.trans g4))⟩⟩⟩⟩
  ·rintro σ H1 ⟨o2,o3,o4,rfl,g1⟩
   walk_at "hd";intro q0 hq0 q1 hq1 q2 hq2 q3 hq3 q4 hq4 q5 hq5 q6 hq6 q7 hq7;have b7:=za (o:=.lst [V.ref q0,V.ref q3,V.ref q6]) hq7;have b6:=(za (o:=.tup [V.str (S [115,101,97,116]),V.str (S [100,114,97,119]),V.str (S [112]),V.str (S []),V.ref q5]) hq6).trans b7;have b5:=(za (o:=.lst [V.ref q4]) hq5).trans b6;have b4:=(za (o:=.tup [V.str (S [108,105,116]),V.str (S [60,47,97,62,60,97,62])]) hq4).trans b5;have b3:=(za (o:=.tup [V.str (S [101,97,99,104]),V.str (S [101]),V.ref q2]) hq3).trans b4;have b2:=(za (o:=.lst [V.ref q1]) hq2).trans b3;have b1:=(za (o:=.tup [V.str (S [108,105,116]),V.str (S [120])]) hq1).trans b2;have b0:=(za (o:=.tup [V.str (S [108,105,116]),V.str (S [60,97,62])]) hq0).trans b1;have hD:=((wU (t:=[60,97,62]) (b1 _ _ zb)).app (Xc (n:=[101]) (b4 _ _ zb) ⟨q2,_,rfl,b3 _ _ zb,wU (t:=[120]) (b2 _ _ zb)⟩)).app (YJ (w:=JI) (n:=[112]) (m:=[]) (b7 _ _ zb) ⟨q5,_,rfl,b6 _ _ zb,wU (t:=[60,47,97,62,60,97,62]) (b5 _ _ zb)⟩);rw [← we,← we] at hD
   walk_at "hi";refine⟨[.lit [60,97,62],.each [101] [.lit [120]],.seat JI [112] [] [.lit [60,47,97,62,60,97,62]]],⟨⟨q7,_,rfl,zb,hD⟩,by decide,by decide,by decide,by decide⟩,λr H2 g2 _ hr j1 i1 j2 i2 j3 i3=>?_⟩;have c1:=za (o:=.lst [V.int 0]) i1;have c2:=za (o:=.tup [V.ref j1,V.int 2]) i2;have c3:=za (o:=.tup [V.str (S [97,115,116,114,97,121]),V.ref j2,V.int 3]) i3;rw [run1] at hr;have hx:fV _ (oR (.error (.astray [0] 2 3))) (.ref j3):=⟨j3,_,rfl,zb,_,_,rfl,⟨rfl,rfl⟩,_,_,rfl,(show mz _ j2 [0] 2 from⟨j1,c3 _ _ zb,(c2.trans c3) _ _ zb⟩).dt,_,_,rfl,⟨rfl,rfl⟩,rfl⟩
   refine⟨_,hr.mono (c1.trans (c2.trans c3)),_,hx,Xg _,?_⟩;rw [ub (by rw [vW hx.flat];decide)]
   walk_at "hd";intro a0 ha0 a1 ha1 a2 ha2 a3 ha3 a4 ha4 a5 ha5 a6 ha6 a7 ha7 a8 ha8;have d8:=za (o:=.lst [V.ref a7]) ha8;have d7:=(za (o:=.tup [V.str (S [105,102]),V.str (S [105]),V.ref a1,V.ref a6]) ha7).trans d8;have d6:=(za (o:=.lst [V.ref a5]) ha6).trans d7;have d5:=(za (o:=.tup [V.str (S [101,97,99,104]),V.str (S [101]),V.ref a4]) ha5).trans d6;have d4:=(za (o:=.lst [V.ref a2,V.ref a3]) ha4).trans d5;have d3:=(za (o:=.tup [V.str (S [104,111,108,101]),V.str (S [104])]) ha3).trans d4;have d2:=(za (o:=.tup [V.str (S [108,105,116]),V.str (S [60])]) ha2).trans d3;have d1:=(za (o:=.lst [V.ref a0]) ha1).trans d2;have d0:=(za (o:=.tup [V.str (S [108,105,116]),V.str (S [120])]) ha0).trans d1;have hE:=(wU (t:=[60]) (d3 _ _ zb)).app (YI (t:=[104]) (d4 _ _ zb));rw [← we] at hE
   walk_at "hd";refine⟨[.ife [105] [.lit [120]] [.each [101] [.lit [60],.hole [104]]]],⟨⟨a8,_,rfl,zb,Bn (d8 _ _ zb) ⟨a1,_,rfl,d2 _ _ zb,wU (t:=[120]) (d1 _ _ zb)⟩ ⟨a6,_,rfl,d7 _ _ zb,Xc (n:=[101]) (d6 _ _ zb) ⟨a4,_,rfl,d5 _ _ zb,hE⟩⟩⟩,by decide,by decide,by decide,by decide⟩,λr H3 g3 _ hr j1 i1 j2 i2 j3 i3=>?_⟩;have c1:=za (o:=.lst [V.int 1,V.int 1]) i1;have c2:=za (o:=.tup [V.ref j1,V.int 1]) i2;have c3:=za (o:=.tup [V.str (S [110,111,112,108,97,99,101]),V.str (S [104]),V.ref j2]) i3;rw [run2] at hr;have hx:fV _ (oR (.error (.noplace [104] [1,1] 1))) (.ref j3):=⟨j3,_,rfl,zb,_,_,rfl,⟨rfl,rfl⟩,_,_,rfl,⟨rfl,rfl⟩,_,_,rfl,(show mz _ j2 [1,1] 1 from⟨j1,c3 _ _ zb,(c2.trans c3) _ _ zb⟩).dt,rfl⟩
   refine⟨_,hr.mono (c1.trans (c2.trans c3)),_,hx,Xg _,?_⟩;rw [vW hx.flat];exact q _
end
end My
set_option maxHeartbeats 0
open PySem L2 PySem.Spec PyProof.Rows
namespace My
theorem len0 {α:Type}{us:List α}(h:us.length=0):us=[]:=List.length_eq_zero_iff.mp h
theorem Ce {α:Type}:∀ {us:List α},us.length=1->∃ a0,us=[a0]
 | [a0],_=>⟨a0,rfl⟩
theorem rA {α:Type}:∀ {us:List α},us.length=2->∃ a0 a1,us=[a0,a1]
 | [a0,a1],_=>⟨a0,a1,rfl⟩
theorem rq {α:Type}:∀ {us:List α},us.length=3->∃ a0 a1 a2,us=[a0,a1,a2]
 | [a0,a1,a2],_=>⟨a0,a1,a2,rfl⟩
theorem sZ {α:Type}:∀ {us:List α},us.length=4->∃ a0 a1 a2 a3,us=[a0,a1,a2,a3]
 | [a0,a1,a2,a3],_=>⟨a0,a1,a2,a3,rfl⟩
theorem Cd {α:Type}:∀ {us:List α},us.length=5->∃ a0 a1 a2 a3 a4,us=[a0,a1,a2,a3,a4]
 | [a0,a1,a2,a3,a4],_=>⟨a0,a1,a2,a3,a4,rfl⟩
theorem Cc {α:Type}:∀ {us:List α},us.length=6->∃ a0 a1 a2 a3 a4 a5,us=[a0,a1,a2,a3,a4,a5]
 | [a0,a1,a2,a3,a4,a5],_=>⟨a0,a1,a2,a3,a4,a5,rfl⟩
theorem Cb {α:Type}:∀ {us:List α},us.length=7->∃ a0 a1 a2 a3 a4 a5 a6,us=[a0,a1,a2,a3,a4,a5,a6]
 | [a0,a1,a2,a3,a4,a5,a6],_=>⟨a0,a1,a2,a3,a4,a5,a6,rfl⟩
local macro_rules | `(tactic| walk_at "bd") => `(tactic| (intro _ _ _ _ _ _ us hl; first | (have h := len0 hl; subst h; rfl) | (obtain ⟨_, h⟩ := Ce hl; subst h; rfl) | (obtain ⟨_, _, h⟩ := rA hl; subst h; rfl) | (obtain ⟨_, _, _, h⟩ := rq hl; subst h; rfl) | (obtain ⟨_, _, _, _, h⟩ := sZ hl; subst h; rfl) | (obtain ⟨_, _, _, _, _, h⟩ := Cd hl; subst h; rfl) | (obtain ⟨_, _, _, _, _, _, h⟩ := Cc hl; subst h; rfl) | (obtain ⟨_, _, _, _, _, _, _, h⟩ := Cb hl; subst h; rfl)))
theorem iy {K:Lf}{mg:La}{h:Heap}(x:Str)(st:Stmt)(ps:Lj)(f:Addr)(pm:Str)(pj:Addr)(X:K.In h)(G:h.Ns mainGlobals mg)
  (b:∀ (kV doc pm:Value) (an:Option Addr) (cdv ct:Value) (us:Lg),us.length=ps.length->bindArgs (PySem.W.fnOf x x (jd st) (zV st) (zf st) .none kV doc pm an cdv ct) ⟨us,[]⟩=pure (ps.zip us):=by walk_at "bd")
  (a:PySem.W.nsIn K mainGlobals x=some (some (.ref f)):=by kernel_rfl!) (l:K.lookup f=some ⟨.type "function",none,.func (PySem.W.fnOf x x (jd st) (zV st) (zf st) .none .none .none (.str pm pj) none (.ref (f - 1)) .none),#[]⟩:=by kernel_rfl!)
  (c:PySem.W.codeIn K (.ref (f - 1)) x=true:=by kernel_rfl!) (k:PySem.W.keepIn K (.ref f)=true:=by kernel_rfl!):Df K mg x st ps:=F1 X G b a l c k
theorem oK {K:Lf}{C:Addr}{m qual:Str}{st:Stmt}{ps:Lj}(f:Addr)(pm:Value)(cl:mB K C)
  (b:∀ (kV doc pm:Value) (an:Option Addr) (cdv ct:Value) (us:Lg),us.length=ps.length->bindArgs (PySem.W.fnOf m qual (jd st) (zV st) (zf st) .none kV doc pm an cdv ct) ⟨us,[]⟩=pure (ps.zip us):=by walk_at "bd")
  (l:K.lookup f=some ⟨.type "function",none,.func (PySem.W.fnOf m qual (jd st) (zV st) (zf st) .none .none .none pm none (.ref (f - 1)) .none),#[]⟩:=by kernel_rfl!)
  (c:PySem.W.codeIn K (.ref (f - 1)) qual=true:=by kernel_rfl!) (k:PySem.W.keepIn K (.ref f)=true:=by kernel_rfl!) (mt:Meth K C m f:=by exact⟨by kernel_rfl!,by kernel_rfl!,by kernel_rfl!⟩):Dm K C m qual st ps:=⟨f,_,ZC l c k,(ZC l c k).binds b,cl,mt⟩
theorem FF {K:Lf}{mg:La}{h:Heap}{C:Addr}{x qual:Str}{st:Stmt}{ps:Lj}(f:Addr)(pm:Value)(X:K.In h)(G:h.Ns mainGlobals mg)
  (b:∀ (kV doc pm:Value) (an:Option Addr) (cdv ct:Value) (us:Lg),us.length=ps.length->bindArgs (PySem.W.fnOf "__init__" qual (jd st) (zV st) (zf st) .none kV doc pm an cdv ct) ⟨us,[]⟩=pure (ps.zip us):=by walk_at "bd")
  (a:PySem.W.nsIn K mainGlobals x=some (some (.ref C)):=by kernel_rfl!) (l:K.lookup f=some ⟨.type "function",none,.func (PySem.W.fnOf "__init__" qual (jd st) (zV st) (zf st) .none .none .none pm none (.ref (f - 1)) .none),#[]⟩:=by kernel_rfl!)
  (c:PySem.W.codeIn K (.ref (f - 1)) qual=true:=by kernel_rfl!) (k:PySem.W.keepIn K (.ref f)=true:=by kernel_rfl!) (mk:L2.Mk K C f:=by exact⟨by kernel_rfl!,by kernel_rfl!,by kernel_rfl!,by kernel_rfl!⟩):Dc K mg C x qual st ps:=⟨f,_,ZC l c k,(ZC l c k).binds b,mk,Us X G a⟩
theorem n9 {K:Lf}{C:Addr}{qual:Str}{st:Stmt}{ps:Lj}{f cd:Addr}{pm:Value} (b:∀ (kV doc pm:Value) (an:Option Addr) (cdv ct:Value) (us:Lg),us.length=ps.length->bindArgs (PySem.W.fnOf "__init__" qual (jd st) (zV st) (zf st) .none kV doc pm an cdv ct) ⟨us,[]⟩=pure (ps.zip us)) (a:WK K C=some (some (.ref f))) (l:K.lookup f=some ⟨.type "function",none,.func (PySem.W.fnOf "__init__" qual (jd st) (zV st) (zf st) .none .none .none pm none (.ref cd) .none),#[]⟩) (c:PySem.W.codeIn K (.ref cd) qual=true) (k:PySem.W.keepIn K (.ref f)=true):nS K C qual st ps:=IV b a l c k
abbrev fR:PySem.Str:="sealpress.talks"
abbrev fS:PySem.Str:="sealpress.modes"
abbrev fT:PySem.Str:="sealpress.steps"
abbrev fU:PySem.Str:="law_sealpress_k74_astray_and_no_place"
theorem rP {l:PySem.W.OpenLaw}{w:World}{h:Heap}{mg:La}{fa:Addr}(X:(KH w.params).In h)(G:h.Ns mainGlobals mg)(hfa:mg "law" = some (.ref fa)) : ∃ fd:FuncData,(∀ (s:Shared) (v:Value),BindsTo s fd ⟨[v],[]⟩ [("_law_script",v)])/\∀ base:Heap,(KH w.params).In base->base.Ns mainGlobals mg->iD l.prog w (KH w.params) mg base mr 66 fa fd ["_law_script"] (Wy (KH w.params)):=by
 have aH:mB (KH w.params) 789:=by constructor<;>kernel_rfl!
 have aY:mB (KH w.params) 712:=by constructor<;>kernel_rfl!
 have cG:=iy "sign_of" J0 v7 393 "sealpress.signs" 688 X G;have cH:=iy "sign_told" ZH wa 400 "sealpress.signs" 688 X G;have cI:=iy "place_of" Qz wX 408 "sealpress.places" 715 X G;have cJ:=iy "fed_between" yZ jv 415 fR 729 X G;have cL:=iy "fed_word" QC ve 422 fR 729 X G;have cO:=iy "fed_said" QF vf 429 fR 729 X G;have cP:=iy "feed" Ba JC 436 fR 729 X G;have cQ:=iy "come_to" J2 zK 443 fS 760 X G;have cR:=iy "told" A9 wD 450 fS 760 X G;have cT:=iy "gathered" QJ ql 457 fS 760 X G;have cU:=iy "box_shut" QL jX 464 fS 760 X G;have cV:=iy "into_box" QN vg 471 fS 760 X G;have cW:=iy "led_on" XQ xM 478 fS 760 X G;have cX:=iy "fed" AJ J4 485 fS 760 X G;have cY:=iy "mark_ended" kN jk 492 fS 760 X G;have cZ:=iy "at_text" J5 v8 499 fS 760 X G;have c8:=iy "at_mark" J7 v9 506 fS 760 X G;have c9:=iy "at_open" J9 ya 513 fS 760 X G;have de:=iy "at_name" Wb yb 520 fS 760 X G;have dg:=iy "at_slash" QQ vh 527 fS 760 X G;have dh:=iy "at_shut" Wd yc 534 fS 760 X G;have di:=iy "at_gap" XT kn 541 fS 760 X G;have dj:=iy "at_attr" Wf yd 548 fS 760 X G;have dk:=iy "at_is" Yx ZJ 555 fS 760 X G;have dm:=iy "at_bang" Wh ye 562 fS 760 X G;have dn:=iy "at_bare" Wj yf 569 fS 760 X G;have dq:=iy "at_code" Wl yg 576 fS 760 X G;have du:=iy "at_row" XW ko 583 fS 760 X G;have dv:=iy "at_stroke" ZK xh 590 fS 760 X G;have dw:=iy "at_quoted" ZM xi 597 fS 760 X G;have dy:=iy "at_qmark" QU vi 604 fS 760 X G;have dz:=iy "at_done" Wn yh 611 fS 760 X G;have dA:=iy "at_talk" Wq yi 618 fS 760 X G;have dB:=iy "at_tmark" QY vj 625 fS 760 X G;have dC:=iy "at_asis" Qc yj 630 fS 760 X G;have dD:=iy "moved" YB ZO 639 fS 760 X G;have dF:=iy "begin" YD yk 646 fT 1085 X G;have dG:=iy "step" Bq JD 653 fT 1085 X G;have dH:=iy "run" AL Q1 660 fT 1085 X G;have dI:=iy "is_end" XY kq 667 fT 1085 X G;have dJ:=iy "floored" Ws wK 674 fT 1085 X G;have dM:Dc (KH w.params) mg 712 "Spot" "Spot.__init__" vC qp:=FF 688 (.str "sealpress.looker" 1128) X G;have dN:Dm (KH w.params) 712 "shown" "Spot.shown" kQ zU:=oK 695 (.str "sealpress.looker" 1128) aY;have dQ:Dm (KH w.params) 712 "met" "Spot.met" Q3 jD:=oK 702 (.str "sealpress.looker" 1128) aY;have dR:Dm (KH w.params) 712 "turned" "Spot.turned" y7 qY:=oK 709 (.str "sealpress.looker" 1128) aY;have dU:Dc (KH w.params) mg 789 "Looking" "Looking.__init__" wL qK:=FF 730 (.str "sealpress.looker" 1128) X G;have dW:Dm (KH w.params) 789 "look_all" "Looking.look_all" jG zw:=oK 737 (.str "sealpress.looker" 1128) aH;have bQ:Dm (KH w.params) 789 "look_piece" "Looking.look_piece" je zS:=oK 744 (.str "sealpress.looker" 1128) aH;have dX:Dm (KH w.params) 789 "look_literal" "Looking.look_literal" jH zI:=oK 751 (.str "sealpress.looker" 1128) aH;have dY:Dm (KH w.params) 789 "look_hole" "Looking.look_hole" wk zZ:=oK 758 (.str "sealpress.looker" 1128) aH;have bR:Dm (KH w.params) 789 "look_each" "Looking.look_each" jn z7:=oK 765 (.str "sealpress.looker" 1128) aH;have bS:Dm (KH w.params) 789 "look_if" "Looking.look_if" jR qq:=oK 772 (.str "sealpress.looker" 1128) aH;have bT:Dm (KH w.params) 789 "look_seat" "Looking.look_seat" jo z8:=oK 779 (.str "sealpress.looker" 1128) aH;have dZ:=iy "looked_at" ZP xk 800 "sealpress.looker" 1128 X G;have ec:=iy "look" Bp JE 807 "sealpress.looker" 1128 X G;have ee:=iy "branches_of" y9 j4 814 "sealpress.ways" 1322 X G;have ef:=iy "walked" X2 vT 821 "sealpress.ways" 1322 X G;have eg:=iy "state_at" Q5 vn 828 "sealpress.ways" 1322 X G;have ei:=iy "_law_cell" ZR xl 835 fU 1354 X G;have el:=iy "_law_mix" Q7 qT 842 fU 1354 X G;have eu:=iy "_law_other" kU wx 849 fU 1354 X G;have ez:=iy "_law_part" ZT qQ 856 fU 1354 X G;have eA:=iy "_law_fault" kX jl 863 fU 1354 X G;have eC:=iy "_law_good" yA qj 870 fU 1354 X G;have aP:=iy "_law_some" yB wc 877 fU 1354 X G;have aS:=iy "_law_within" xV jx 884 fU 1354 X G;have aO:=iy "_law_compound" wF qr 891 fU 1354 X G;have eE:=iy "_law_made" ZX xm 898 fU 1354 X G;have eF:=iy "_law_marked" kc jy 905 fU 1354 X G;have eG:=iy "_law_pass" yC zW 912 fU 1354 X G;have eH:=iy "_law_inner" kZ qU 919 fU 1354 X G;have eI:=iy "_law_path" yD qk 926 fU 1354 X G;have eJ:=iy "_law_text_of" xo zD 933 fU 1354 X G;have eK:=iy "_law_due" Q9 vo 940 fU 1354 X G;have eN:=iy "_law_looked" kf jz 947 fU 1354 X G;have eO:=iy "_law_refusal" yo jM 954 fU 1354 X G;have eQ:=iy "_law_ran" Jb vp 961 fU 1354 X G;have eR:=iy "_law_shows" k8 wy 968 fU 1354 X G;have eS:=iy "_law_told_places" wQ qM 975 fU 1354 X G;have eT:=iy "_law_right" Za wA 982 fU 1354 X G;have cv:=iy "law" AK YG 989 fU 1354 X G;have e_SIGNS:Str.ofString " !\"#$&'()*+,-./0123456789:;<=>?@ABCDEFGHIJKLMNOPQRSTUVWXYZ[\\]^_`abcdefghijklmnopqrstuvwxyz{|}~" = (S sg):=by decide +kernel
 have e_FIGURES:Str.ofString "0123456789" = (S fg):=by decide +kernel
 have e_LETTERS:Str.ofString "abcdefghijklmnopqrstuvwxyz" = (S lt):=by decide +kernel
 have e_WORDSIGNS:Str.ofString "abcdefghijklmnopqrstuvwxyz0123456789-" = (S ws):=by decide +kernel
 have e_ASIS_END:Str.ofString "</asis>" = (S kJ):=by decide +kernel
 have xl_MODES:(KH w.params).lookup 631=some ⟨.type "dict",none,.dict #[(en w.params "text" 1035 (.ref 499)),(en w.params "mark" 1037 (.ref 506)),(en w.params "open" 1039 (.ref 513)),(en w.params "name" 1041 (.ref 520)),(en w.params "slash" 1043 (.ref 527)),(en w.params "shut" 1045 (.ref 534)),(en w.params "gap" 1047 (.ref 541)),(en w.params "attr" 1049 (.ref 548)),(en w.params "is" 1051 (.ref 555)),(en w.params "bang" 1053 (.ref 562)),(en w.params "bare" 1055 (.ref 569)),(en w.params "code" 1057 (.ref 576)),(en w.params "row" 1059 (.ref 583)),(en w.params "stroke" 1061 (.ref 590)),(en w.params "quoted" 1063 (.ref 597)),(en w.params "qmark" 1065 (.ref 604)),(en w.params "done" 1067 (.ref 611)),(en w.params "talk" 1069 (.ref 618)),(en w.params "tmark" 1070 (.ref 625)),(en w.params "asis" 1071 (.ref 630))] 20,#[]⟩:=by kernel_rfl!
 have xl_PLACE_MODES:(KH w.params).lookup 401=some ⟨.type "tuple",none,.seq #[(.str "text" 717),(.str "bare" 718),(.str "row" 719),(.str "quoted" 720)] 0,#[]⟩:=by kernel_rfl!
 have T:Txt w (KH w.params) mg (⟨24,44,63,82,94,113,132,151,170,182,201,220,239,258,277,296,315,334,353,372,384,712,789,401,499,506,513,520,527,534,541,548,555,562,569,576,583,590,597,604,611,618,625,630⟩:iR):=by refine⟨?_,?_,?_,?_,?_,?_,?_,?_,?_,?_,?_,?_,?_,?_,?_,?_,?_,?_,?_,?_,?_,?_,?_,?_,?_,?_,?_,?_,?_,?_,?_,?_,?_,?_,?_,?_,?_,?_,?_,?_,?_,?_,?_,?_,?_,?_,?_,?_,?_,?_,?_,?_,?_,?_,?_,?_,?_,?_,?_,?_,?_,?_,?_,?_,?_,?_,?_,?_,?_,?_,?_,?_,?_,?_,?_,?_,?_,?_,?_,?_,?_,?_,?_,?_,?_,?_,?_,?_,?_,?_,?_,?_,?_,?_,⟨.str (Str.ofString " !\"#$&'()*+,-./0123456789:;<=>?@ABCDEFGHIJKLMNOPQRSTUVWXYZ[\\]^_`abcdefghijklmnopqrstuvwxyz{|}~") 690,Us X G (by kernel_rfl!),⟨_,by rw [e_SIGNS]⟩⟩,⟨.str (Str.ofString "0123456789") 692,Us X G (by kernel_rfl!),⟨_,by rw [e_FIGURES]⟩⟩,⟨.str (Str.ofString "abcdefghijklmnopqrstuvwxyz") 694,Us X G (by kernel_rfl!),⟨_,by rw [e_LETTERS]⟩⟩,⟨.int 8 696,Us X G (by kernel_rfl!),⟨_,rfl⟩⟩,⟨.str (Str.ofString "abcdefghijklmnopqrstuvwxyz0123456789-") 713,Us X G (by kernel_rfl!),⟨_,by rw [e_WORDSIGNS]⟩⟩,⟨.str (Str.ofString "</asis>") 762,Us X G (by kernel_rfl!),⟨_,by rw [e_ASIS_END]⟩⟩,⟨.int 2 764,Us X G (by kernel_rfl!),⟨_,rfl⟩⟩,⟨_,Us (v:=.ref 631) X G (by kernel_rfl!),by decide,_,_,_,xl_MODES,⟨rfl,rfl,rfl⟩,rfl,by repeat' (first | exact mj.nil | refine mj.cons rfl rfl rfl ?_),by decide +kernel⟩,?_,λ_=>.inr ⟨_,_,_,xl_PLACE_MODES,rfl,rfl,by decide,by repeat' (first | exact .nil | refine .cons ⟨_,rfl⟩ ?_)⟩,?_,?_,?_,?_,?_,?_,?_,?_,?_,?_,?_,aY,aH,?_,?_,?_,?_,?_,?_⟩<;>first | exact Us X G (by kernel_rfl!) | exact Ll (by kernel_rfl!) | exact PySem.W.mg_none_of X G (by kernel_rfl!) | (show _=_;kernel_rfl!)
 have eU:nS (KH w.params) 82 "Unread.__init__" Jd ["self","at"]:=n9 (f:=79) (pm:=(.str "sealpress.errors" 187)) (cd:=78) (λ_ _ _ _ _ _ us hl=>by obtain⟨_,_,rfl⟩:=rA hl;rfl) (by kernel_rfl!) (by kernel_rfl!) (by kernel_rfl!) (by kernel_rfl!);have eV:nS (KH w.params) 277 "Astray.__init__" Je ["self","place","at"]:=n9 (f:=274) (pm:=(.str "sealpress.errors" 187)) (cd:=273) (λ_ _ _ _ _ _ us hl=>by obtain⟨_,_,_,rfl⟩:=rq hl;rfl) (by kernel_rfl!) (by kernel_rfl!) (by kernel_rfl!) (by kernel_rfl!);have eW:nS (KH w.params) 315 "Unlike.__init__" Jf ["self","what","one","other"]:=n9 (f:=312) (pm:=(.str "sealpress.errors" 187)) (cd:=311) (λ_ _ _ _ _ _ us hl=>by obtain⟨_,_,_,_,rfl⟩:=sZ hl;rfl) (by kernel_rfl!) (by kernel_rfl!) (by kernel_rfl!) (by kernel_rfl!);have eX:nS (KH w.params) 296 "NoPlace.__init__" Z1 ["self","name","place"]:=n9 (f:=293) (pm:=(.str "sealpress.errors" 187)) (cd:=292) (λ_ _ _ _ _ _ us hl=>by obtain⟨_,_,_,rfl⟩:=rq hl;rfl) (by kernel_rfl!) (by kernel_rfl!) (by kernel_rfl!) (by kernel_rfl!);have eY:nS (KH w.params) 334 "LeftOpen.__init__" Zc ["self","place"]:=n9 (f:=331) (pm:=(.str "sealpress.errors" 187)) (cd:=330) (λ_ _ _ _ _ _ us hl=>by obtain⟨_,_,rfl⟩:=rA hl;rfl) (by kernel_rfl!) (by kernel_rfl!) (by kernel_rfl!) (by kernel_rfl!);refine Lu cv hfa (λ_ _ _ _ _ _ s v=>.of_eq rfl) λbase=>?_;have bN:=Tv (P:=l.prog) (w:=w) (base:=base) T eU;have bO:=Tu (P:=l.prog) (w:=w) (base:=base) T eV;have ak:=Tt (P:=l.prog) (w:=w) (base:=base) T eW;have bP:=TZ (P:=l.prog) (w:=w) (base:=base) T eX;have bW:=YL (P:=l.prog) (w:=w) (base:=base) T eY;have aZ:=TY (P:=l.prog) (fQ:=base) T cG;have aL:=YU T cH aZ;have aK:=Vi (P:=l.prog) (fQ:=base) T cJ;have a9:=zaH T cL aK;have bc:=zaI (P:=l.prog) (fQ:=base) T cO;have bg:=Mq T cP aK a9 bc;have aa:=TX (P:=l.prog) (fQ:=base) T cQ;have ag:=Mp T cR aa;have ah:=zaJ (P:=l.prog) (fQ:=base) T cT;have az:=zaK T cU aa;have bf:=zaL T cV aa;have ay:=P8 T cW aa bf;have aM:=LR T cX bg;have ax:=Vv T cY aL;have bh:=TV T cZ aa ag;have bj:=TU T c8 ah ax ag;have bo:=TR T c9 aa ah;have bp:=TQ T de ah ay;have bq:=zaM T dg az;have br:=TN T dh ah az;have bu:=P7 T di ah;have bw:=S7 T dj ah aa;have bx:=Ot T dk aa;have bA:=S6 (P:=l.prog) (fQ:=base) T dm;have bB:=S5 T dn ag aa ay;have bC:=S4 T dq ag aL;have bD:=P6 T du aa ag;have bE:=YV T dv ag;have bF:=YW T dw aa ag;have bG:=zaN T dy ah ax ag;have bH:=S2 T dz ay;have bI:=S1 T dA aa aM;have bJ:=zaO T dB ah ax aM;have bK:=SY T dC az aa;have bL:=Oq T dD bh bj bo bp bq br bu bw bx bA bB bC bD bE bF bG bH bI bJ bK;have aC:=Oo (P:=l.prog) (fQ:=base) T dF;have bM:=Mo T dG bL;have aD:=SX (P:=l.prog) (fQ:=base) T dJ;have aB:=LQ T dH bM bN;have cu:=zaP (P:=l.prog) (fQ:=base) T ei;have ae:=SU (P:=l.prog) (fQ:=base) T el;have af:=zaQ T ez ae;have aN:=zaR (P:=l.prog) (fQ:=base) T cI;have aA:=WB (P:=l.prog) (fQ:=base) T dM;have aj:=zaS T dQ aA;have aq:=Vj T dR aA;have bV:=Qn (P:=l.prog) (fQ:=base) T dU;have ai:=Vw (P:=l.prog) (fQ:=base) T dN;have aQ:=WW T dX aB aj ai bO;have aR:=YX T dY aN aj ai bP;have ar:=Y0 T dW bQ bR bS bT aQ aR aq aj ai aD ak;have bU:=P5 T dI aC;have bX:=Y1 T dZ ar aC bU aA bV ai bW;have bZ:=Mm T ec bX;have bY:=Y2 (P:=l.prog) (fQ:=base) T eu;have cb:=Vk T eO bY;have aG:=Vy T eN bZ cb;have ao:=Y3 (P:=l.prog) (fQ:=base) T eA;have au:=Y4 T eC aS aO aP ae af ao;have cn:=zaV T eE au ao;have aT:=Vz (P:=l.prog) (fQ:=base) T eF;have aw:=Y5 (P:=l.prog) (fQ:=base) T eH;have aE:=Y6 (P:=l.prog) (fQ:=base) T eG;have aU:=Y7 T eI aE aT aw;have aV:=WX T eJ aw;have cp:=SQ T eK aU aV;have cj:=Vm (P:=l.prog) (fQ:=base) T ee;have aJ:=RR T ef cj;have ck:=zaY T eg aC aJ aB aD;have cm:=SO T eQ aB;have aW:=Jh (P:=l.prog) (fQ:=base) T eS;have cq:=Y8 T eR ck aJ aN cm;have aX:=Y9 T eT ae cn cp aG aW cq;have eZ:=LN T cv cu aX aG;exact eZ
theorem walk {l:PySem.W.OpenLaw}{q:Program}{loose:Lj}{XP:(La)->Heap->Prop}{YP:World->Heap->Prop}{d:DefRec}{K:Params->Lf}(hn:l.most=some 63)(hdf:d.params.defaults=[])
  (hY:∀ (w:World) (h:Heap),YP w h->(K w.params).In h)
  (F:∀ (w:World) (mg:La) (fa:Addr) (h:Heap),(K w.params).In h->h.Ns mainGlobals mg->mg d.name=some (.ref fa) ->
   ∃ fd:FuncData,(∀ (s:Shared) (u:Value),BindsTo s fd ⟨[u],[]⟩ [("_law_script",u)])/\∀ base:Heap,(K w.params).In base->base.Ns mainGlobals mg->iD l.prog w (K w.params) mg base mr 66 fa fd ["_law_script"] (Wy (K w.params))) :
  PySem.W.WalkO q loose XP YP l.row.toRowW d [] (λf vs=>PySem.call f vs):=
 L2.ND (n:=63) (k:=66) (x:="_law_script") (CX:=λ_=>mr) (sp:=λw=>Wy (K w.params)) hn (by decide) hdf ⟨rfl,by decide,by decide,rfl⟩ hY F (λ_ _ a ns hl _ hS=>⟨a,ns,rfl,hS,hl,λ_=>rfl⟩) λ_ _ _ _ _ z=>z
end My
open PySem PySem.W PyProof.Rows
set_option maxRecDepth 100000 in
set_option maxHeartbeats 0 in
theorem PySem.Challenge.cw_sealpress_k74_astray_and_no_place_holds : PySem.Challenge.rw_sealpress_k74_astray_and_no_place.Holds := by
  w_on; o_law;refine PySem.W.holds_open (q := My.mI) (loose := My.iz) (Xt := My.tF) (XP := XL My.mI []) (Yf := Hook.obs My.HK) (Ya := Hook.val My.HK) (YP := Hook.says My.HK) (N := 8737) My.left (Hook.of My.HK) (Hook.keeps My.HK) (λs e => xl_of s (Bool.and_eq_true_iff.mp e).1) XL.keeps (by rfl) (by rfl) (by rfl) (λs e => recFacts_of (Bool.and_eq_true_iff.mp e).2) (by rfl) (by first | assumption | decide +kernel) (by decide +kernel) ⟨rfl, rfl, rfl, rfl, rfl, by decide +kernel⟩ ?hw ?hc
  (case hw => w_witness2);exact My.walk (l := PySem.Challenge.rw_sealpress_k74_astray_and_no_place) rfl rfl (λw h Y => PySem.W.kIn_of Y) (λw mg fa h KX G hmg => My.rP KX G hmg)
