import PyProof.Rows.All
import Wide.All
import OpenK.AllK
import Wide.FinOn
import Lean
import PyProof.EqAt
import PyProof.EqKinds
import PyProof.TupleCall
import PyProof.Draws
import PyProof.EnumMake
import PyProof.NeKinds
import PyProof.ZipIter
import PyProof.Rows.ZipGen
import PyProof.ReprRoads
import KE.KRevIter
import PyProof.StrLawsReplace
import PyProof.ToksMono
import PyProof.SliceList
import KE.KEqDict
import PySem.Challenge.RW_sealpress_k79_the_first_fault
set_option linter.all false
set_option genSizeOf false
set_option backward.match.sparseCases false
set_option compiler.extract_closed false
set_option bootstrap.genMatcherCode false
abbrev La:=PySem.Str->Option PySem.Value
abbrev Lc:=List Nat
abbrev Ld:=List PySem.Addr
abbrev Le:=PySem.W.Frag
abbrev Lf:=List PySem.Value
abbrev Lg:=List PySem.Expr
abbrev Lh:=List PySem.Str
abbrev Lp:=List (PySem.Addr×PySem.Obj)
abbrev ua:=@PySem.wpAny_bind
abbrev ub:=@if_neg
abbrev uc:=@PySem.wpAny_pure
abbrev ud:=@if_pos
abbrev ue:=@PySem.Heap.get?_push_of_some
abbrev uf:=@PySem.Heap.lt_size
abbrev ug:=@List.length_append
abbrev uh:=@List.size_toArray
abbrev ui:=@Nat.le_refl
abbrev uj:=@PySem.wpAny_mono
abbrev uk:=@List.length_map
abbrev um:=@List.mem_cons
abbrev uo:=@List.getElem?_eq_getElem
abbrev uq:=@List.length_cons
abbrev ur:=@List.getElem?_eq_some_iff
abbrev uu:=@List.map_cons
abbrev uw:=@List.append_nil
abbrev ux:=@PySem.Heap.get?_update_other
abbrev uy:=@Nat.lt_of_lt_of_le
abbrev uz:=@PySem.Heap.get?_push_size
abbrev uA:=@List.length_singleton
abbrev uB:=@PySem.wpAny_field
abbrev uC:=@decide_eq_false
abbrev uD:=@Bool.false_ne_true
abbrev uE:=@List.mem_singleton
abbrev uF:=@Option.some.inj
abbrev uG:=@Bool.and_eq_true
abbrev uH:=@List.cons_append
abbrev uI:=@PySem.wpAny_loadPart_at
abbrev uJ:=@Nat.le_trans
abbrev uK:=@PySem.wpAny_holding
abbrev uL:=@PySem.wpAny_Call_Name_kw
abbrev uM:=@beq_eq_false_iff_ne
abbrev uN:=@List.mem_of_getElem?
abbrev uO:=@PySem.sizeLine_eq
abbrev uP:=@PySem.mem_of_lookup
abbrev uQ:=@List.mem_cons_of_mem
abbrev uR:=@List.mem_append_right
abbrev uS:=@List.drop_eq_getElem_cons
abbrev uT:=@PySem.Heap.get?_update_self
abbrev uU:=@Option.map_some
abbrev uV:=@List.mem_append_left
abbrev uW:=@List.append_assoc
abbrev uX:=@Nat.lt_irrefl
abbrev uY:=@List.lookup_cons
abbrev uZ:=@List.getElem_mem
abbrev u0:=@PySem.wpAny_standAt
abbrev u4:=@beq_iff_eq
abbrev u5:=@Nat.ne_of_lt
abbrev u6:=@Array.getElem?_eq_some_iff
abbrev u7:=@Nat.not_lt_zero
abbrev u9:=@Option.map_eq_some_iff
abbrev Ua:=@PySem.wpAny_call
abbrev Ub:=@PySem.Value.ref.inj
abbrev Uc:=@List.getElem?_map
abbrev Ud:=@List.mem_append
abbrev Ue:=@List.nodup_cons
abbrev Ug:=@PySem.codeAny_mono
abbrev Uh:=@PySem.W.callWith_K
abbrev Ui:=@List.length_take
abbrev Uj:=@Prod.mk.injEq
abbrev Uk:=@List.nil_append
abbrev Ul:=@List.take_append_drop
abbrev Um:=@List.length_replicate
abbrev Uo:=@beq_self_eq_true
abbrev Up:=@Bool.false_eq_true
abbrev Uq:=@Nat.ne_of_gt
abbrev Ur:=@PySem.W.mg_of
abbrev Us:=@decide_eq_true
abbrev Ut:=@PySem.wpAny_newObj_type
abbrev Uu:=@decide_eq_true_eq
abbrev Uv:=@List.map_append
abbrev Uw:=@List.length_nil
abbrev Ux:=@List.take_length
abbrev Uy:=@List.mem_cons_self
abbrev Uz:=@List.getElem?_append_right
abbrev UA:=@List.getElem?_eq_none_iff
abbrev UB:=@List.getElem?_append_left
abbrev UC:=@Bool.eq_iff_iff
abbrev UD:=@Nat.zero_le
abbrev UE:=@PySem.wpAny_setField
abbrev UG:=@List.take_add_one
abbrev UH:=@Nat.mul_le_mul_right
abbrev UI:=@PySem.wpAny_callSpecial?_slot
abbrev UJ:=@PySem.wpAny_typeOf
abbrev UK:=@List.drop_eq_nil_of_le
abbrev UL:=@Array.getElem?_setIfInBounds
abbrev UM:=@PySem.wpAny_passesOwn
abbrev UN:=@PySem.W.methodCall_KW
abbrev UO:=@PySem.F.slot_dict_get
abbrev UP:=@Nat.le_succ
abbrev UQ:=@List.drop_zero
abbrev UR:=@Option.bind_some
abbrev US:=@PySem.plainObj_wpAny_Assign_Attribute
abbrev UT:=@List.mem_map
abbrev UU:=@PySem.wpAny_isSubtype_exc
abbrev UW:=@PySem.Obj.data_mapFields
abbrev UX:=@List.find?_cons
abbrev UY:=@Except.ok.injEq
abbrev UZ:=@List.contains_cons
abbrev U0:=@PySem.W.cellsFrom_some
abbrev U1:=@PySem.wpAny_newFunctionEnv_cells
abbrev U2:=@PySem.wpAny_call_entry
abbrev U3:=@Bool.and_false
abbrev U4:=@List.map_nil
abbrev U5:=@PySem.wpAny_execs_nil
abbrev U6:=@PySem.F.slot_zip_next
abbrev U7:=@List.all_eq_true
abbrev U8:=@List.any_cons
abbrev U9:=@Bool.and_true
abbrev gb:=@PySem.Heap.size_push
abbrev gc:=@if_false
abbrev gf:=@PySem.F.slot_zip_getattribute
abbrev gg:=@List.of_mem_zip
abbrev gh:=@List.filterMap_cons
abbrev gi:=@PySem.wpAny_attempt
abbrev gj:=@PySem.codeAny_call_function
abbrev gk:=@PySem.Heap.get?_none_of_le
abbrev gm:=@PySem.codeAny_call_builtin
abbrev gn:=@List.isPrefixOf_iff_prefix
abbrev gp:=@Nat.mul_le_mul
abbrev gq:=@Option.some.injEq
abbrev gr:=@PySem.F.args_tuple_add_2
abbrev gu:=@Nat.add_assoc
abbrev gw:=@Prod.ext
abbrev gx:=@PySem.wpAny_truthy_bool
abbrev gy:=@PySem.W.any_some
abbrev gz:=@List.getElem?_replicate
abbrev gA:=@PySem.F.entry_tuple_add
abbrev gB:=@List.length_drop
abbrev gC:=@Nat.add_sub_cancel_left
abbrev gD:=@PySem.F.plainAttrs_list
abbrev gE:=@Nat.le_of_lt
abbrev gF:=@Nat.le_of_eq
abbrev gG:=@PySem.noFill_tuple_add
abbrev gI:=@PySem.F.slot_tuple_add
abbrev gJ:=@Bool.or_true
abbrev gK:=@PySem.F.entry_dict_get
abbrev gL:=@List.forIn_cons
abbrev gN:=@PySem.codeAny_builtin
abbrev gO:=@Bool.false_and
abbrev gP:=@PySem.W.looks_findIn
abbrev gQ:=@PySem.arm_exec_Raise
abbrev gR:=@PySem.wpAny_seqItems
abbrev gU:=@Array.length_toList
abbrev gW:=@PySem.W.plainGet_of
abbrev gX:=@PySem.W.callWith_K0
abbrev gY:=@PySem.seq_tuple_add
abbrev gZ:=@List.map_congr_left
abbrev g8:=@PySem.W.looks_mroIn
abbrev g9:=@PySem.strLen_append
abbrev Ga:=@PyProof.Rows.subscriptTail_builtinR
abbrev Gb:=@List.all_cons
abbrev Gd:=@PySem.W.codeRec_of
abbrev Ge:=@PySem.codeAny_func
abbrev Gf:=@PySem.concat_meets
abbrev Gg:=@PySem.seqIndex_neg
abbrev Gh:=@Nat.not_lt
abbrev Gi:=@Array.append_empty
abbrev Gj:=@PySem.call_meetsIn
abbrev Gk:=@PySem.W.set_plain
abbrev Gm:=@PyProof.Rows.entry_tuple_getitem
abbrev Gn:=@PySem.seqIndex_of
abbrev Gp:=@Int.toNat_natCast
abbrev Gq:=@Bool.eq_false_iff
abbrev Gs:=@of_decide_eq_true
abbrev Gu:=@PyProof.Rows.args_tuple_getitem
abbrev Gv:=@PySem.wpAny_Name
abbrev Gw:=@PySem.call_meets
abbrev Gx:=@List.not_mem_nil
abbrev Gy:=@List.filter_cons
abbrev Gz:=@Nat.add_mul
abbrev GB:=@List.mem_filter
abbrev GC:=@Int.emod_nonneg
abbrev GD:=@PySem.wpAny_nextOf_list_item
abbrev GF:=@PyProof.Rows.slicePart_none
abbrev GG:=@PySem.Obj.isFreed_of_fields
abbrev GH:=@PyProof.Rows.joinParts_cons
abbrev GI:=@PySem.builtinLookup_eq_fast
abbrev GJ:=@List.mem_range
abbrev GK:=@PyProof.Rows.tupleItemsOf_
abbrev GL:=@or_false
abbrev GN:=@PySem.F.excBase_ValueError
abbrev GO:=@List.getD_eq_getElem?_getD
abbrev GP:=@PyProof.Rows.isTrue_plain
abbrev GQ:=@PySem.Heap.SameBut.update
abbrev GR:=@PySem.Heap.get?_update_ne
abbrev GS:=@List.getElem?_take_of_lt
abbrev GU:=@PySem.tupleKind_room_in1
abbrev GV:=@PySem.F.slot_list_append
abbrev GW:=@PySem.F.type_list_append
abbrev GX:=@PyProof.Rows.isTrue_and
abbrev GY:=@PySem.wpAny_assign_Name
abbrev GZ:=@PySem.Heap.Ns1.of_empty
abbrev G6:=@PySem.wpAny_sequenceKey
abbrev G7:=@PySem.F.attr_ValueError
abbrev G8:=@PySem.wpAny_pyIter_enum
abbrev G9:=@PySem.F.args_dict_get_3
abbrev hJ:=@PySem.wpAny_Call_method
abbrev hV:=@PySem.F.plainAttrs_dict
abbrev hX:=@PySem.F.args_zip_next_1
abbrev hZ:=@Nat.le_mul_of_pos_right
set_option Elab.async false
set_option linter.all false
set_option maxRecDepth 100000
set_option maxHeartbeats 0
noncomputable section
namespace PySem.W.Fast
noncomputable def tw9649202816150456013:PySem.Program:=PySem.Challenge.pw_sealpress_k79_the_first_fault
theorem te9649202816150456013:PySem.Challenge.pw_sealpress_k79_the_first_fault=tw9649202816150456013:=rfl
end PySem.W.Fast
namespace L2
open PySem PySem.W
theorem left_run {p q:Program}{loose:Lh}{Xt:Shared->Bool}{α:Type}{Yf:Shared->α}{Ya:World->α}{N M m0:Nat}{ann:Option Value}{H0:Params->Heap}{g0:Array GenState}{d0:Drawn}{k0:Nat}
  (hb:∀ w:World,(fencedOpening treeTable p w N).map (λs=>(s.heap,s.gens,s.drawn,s.toks))=some (H0 w.params,g0,d0,k0))
  (hz:∀ w:World,((H0 w.params).isNs mainGlobals&&g0.size == 0,(H0 w.params).objs.size,(H0 w.params).nsMap mainGlobals "__annotations__")=(true,m0,ann))
  (hr:∀ (w:World) (os:OsState),∃ s:Shared,topRun treeTable p w m0 ann M ⟨H0 w.params,g0,d0,k0,os⟩ (topStub p)=some s /\
   (staticsOk (importedModules p.main.body) (H0 w.params) s.heap&&namesBound p s.heap&&gensDone s&&laidKept (H0 w.params) s.heap)=true/\openSeen q loose (importedModules p.main.body) Xt true s=openGood q loose/\Yf s=Ya w)
  (hn:M<=N):LeftO p q loose Xt Yf Ya N:=λw=>by
 obtain⟨s0,e,e'⟩:=u9.mp (hb w)
 obtain⟨h,gs,d,k,os⟩:=s0
 simp only [Uj] at e'
 obtain⟨rfl,rfl,rfl,rfl⟩:=e'
 obtain⟨s,r,l1,l2,l3⟩:=hr w os
 have z:=hz w
 simp only [Uj] at z
 obtain⟨z1,z2,z3⟩:=z
 obtain⟨x,rfl⟩:=Nat.exists_eq_add_of_le hn
 have r':=topRun_mono x _ _ _ _ r
 have t:topFrom treeTable p w (M+x) ⟨H0 w.params,gs,d,k,os⟩=some s:=by
  unfold topFrom
  simp only [z1,z2,z3,r',UR,l1]
 unfold openEnds
 rw [e,UR,t,uU,l2,l3]
end L2
namespace My
open PySem PySem.W
abbrev pw:Program:=PySem.Challenge.pw_sealpress_k79_the_first_fault
noncomputable def tp (i:Nat):Stmt:=pw.main.body.getD i (.Pass ⟨0,0,0,0⟩)
def tc (i j:Nat):Stmt:=match tp i with
 | .ClassDef _ _ _ body _ _ _ _ _ _ _=>body.getD j (.Pass ⟨0,0,0,0⟩)
 | _=>.Pass ⟨0,0,0,0⟩
noncomputable def fnO (s:Stmt)(nm q:Str)(g:Addr)(cl:List (Str×Addr))(df kd dc pm:Value)(an:Option Addr)(cd ct:Value)(bl:Addr):Data:=match s with
 | .FunctionDef _ a b _ _ _ sc _ _ _=>.func ⟨nm,q,a,.stmts b,sc,g,cl,df,kd,dc,pm,an,cd,ct,bl⟩
 | _=>.plain
noncomputable def en (P:Params)(k:Str)(t:Nat)(v:Value):DictEntry:=⟨PyData.keyHash P k,.str k t,v⟩
noncomputable def o11 (_:Params):Obj:={ cls:=.type "tuple",data:=.seq #[] }
noncomputable def o12 (_:Params):Obj:={ cls:=.none,data:=.fields #[] }
noncomputable def o13 (_:Params):Obj:={ cls:=.type "code",data:=.fields #[.str "<module>" 182,.str "<module>" 183,.str "/claim/cut.py" 184,.int 1 0,.int 0 0,.int 0 0,.int 0 0,.int 0 0,.ref 11,.bool false,.int 181 0,.ref 12,.none,.none,.none,.none,.int 185 0,.int 1 0,.str "/claim/cut.py" 186] }
noncomputable def o14 (_:Params):Obj:={ cls:=.type "frame",slots:=#[some (.ref 13),some (.ref 3),some (.ref 3),none,some (.str "__main__" 164),none,some (.ref 0)] }
noncomputable def cM (n q:Str)(a:Nat)(l g k:Int)(r:Addr)(f:Bool)(b:Addr)(x y z w:Value)(t:Nat):Obj:=⟨.type "code",none,.fields #[.str n a,.str q (a+1),.str "/claim/cut.py" (a+2),.int l 0,.int g 0,.int 0 0,.int 0 0,.int k 0,.ref r,.bool f,.int 181 0,.ref b,x,y,z,w,.int t 0,.int l 0,.str "/claim/cut.py" (t+1)],#[]⟩
def cS (n q:Str)(a:Nat)(l g:Int)(r t:Nat):Obj:=cM n q a l g 3 r true (r+1) .none (.ref (r+2)) (.ref (r+3)) (.ref (r+4)) t
def cN (n:Str)(a:Nat)(l g:Int)(r t:Nat):Obj:=cS n n a l g r t
def cK (n:Str)(a:Nat)(l:Int)(r t:Nat):Obj:=cM n n a l 0 0 r false (r+1) .none .none .none .none t
def fM (s:Stmt)(n q:Str)(m:Value)(c:Addr):Obj:=⟨.type "function",none,fnO s n q 3 [] .none .none .none m none (.ref c) .none 0,#[]⟩
def gM (s:Stmt)(n q:Str):Obj:=⟨.none,none,fnO s n q 0 [] .none .none .none .none none .none .none 0,#[]⟩
noncomputable def rM (a c:Addr)(v:Value):Obj:=⟨.type "frame",none,.plain,#[some (.ref a),some (.ref 3),some (.ref c),none,some v,none,some (.ref 0)]⟩
noncomputable def dO (a:Array DictEntry)(n:Nat):Obj:=⟨.type "dict",none,.dict a n,#[]⟩
def e_A (P:Params)(a:Nat)(m:Value)(q:Str)(l:Int)(i:Nat)(r:Addr)(s:Nat)(u:Addr):Obj:=dO #[en P "__module__" a m,en P "__qualname__" (a+2) (.str q (a+1)),en P "__firstlineno__" (a+4) (.int l (a+3)),en P "__init__" i (.ref r),en P "__static_attributes__" s (.ref u)] 5
def e_B (P:Params)(a:Nat)(m:Value)(l:Int)(i:Nat)(r:Addr)(s:Nat)(u:Addr)(d:Nat):Obj:=dO #[en P "__module__" a m,en P "__firstlineno__" (a+4) (.int l (a+3)),en P "__init__" i (.ref r),en P "__static_attributes__" s (.ref u),en P "__doc__" d .none] 2
noncomputable def b_O (a:Addr):Obj:=⟨.type "builtin_function_or_method",none,.fields #[.builtin "object.__init_subclass__",.ref a],#[]⟩
noncomputable def tO (a:Array Value):Obj:=⟨.type "tuple",none,.seq a 0,#[]⟩
noncomputable def pO (a:Array Value):Obj:=⟨.none,none,.fields a,#[]⟩
noncomputable def sO (a:Addr):Obj:=⟨.type "super",none,.fields #[.ref a,.ref a,.ref a],#[]⟩
noncomputable def kO (n:Str)(c b d x i j:Nat):Obj:=⟨.type "type",none,.cls ⟨n,[.ref b],[.ref c,.ref b,.type "ValueError",.type "Exception",.type "BaseException",.type "object"],d,n,true,[],[],false,none,false⟩,#[some (.ref x),none,some (.str n i),some (.str n j),some (.builtin "ValueError.__new__"),some (.bool true)]⟩
noncomputable abbrev m0:Value:=.str "sealpress.errors" 187
noncomputable abbrev m1:Value:=.str "sealpress.signs" 688
noncomputable abbrev m2:Value:=.str "sealpress.places" 715
noncomputable abbrev m3:Value:=.str "sealpress.talks" 729
noncomputable abbrev m4:Value:=.str "sealpress.modes" 760
noncomputable abbrev m5:Value:=.str "sealpress.steps" 1085
noncomputable abbrev m6:Value:=.str "sealpress.looker" 1128
noncomputable abbrev m7:Value:=.str "law_sealpress_k79_the_first_fault" 1322
def x0 (P:Params):Obj:=dO #[en P "__name__" 165 (.str "sealpress.modes" 760),en P "__doc__" 166 .none,en P "__package__" 167 .none,en P "__loader__" 168 (.builtin "__main__.__loader__#opaque"),en P "__spec__" 169 .none,en P "__annotations__" 170 (.ref 6),en P "__builtins__" 171 (.ref 4),en P "__file__" 173 (.str "/claim/cut.py" 172),en P "__cached__" 174 .none,en P "SealError" 206 (.ref 24),en P "NoSign" 231 (.ref 44),en P "NoCode" 256 (.ref 63),en P "Unread" 281 (.ref 82),en P "Unended" 297 (.ref 94),en P "NoPage" 322 (.ref 113),en P "NoName" 347 (.ref 132),en P "NoSheet" 372 (.ref 151),en P "Twice" 397 (.ref 170),en P "TooMany" 413 (.ref 182),en P "Unknown" 438 (.ref 201),en P "RingOver" 463 (.ref 220),en P "Ringed" 488 (.ref 239),en P "NoElder" 513 (.ref 258),en P "Astray" 540 (.ref 277),en P "NoPlace" 567 (.ref 296),en P "Unlike" 596 (.ref 315),en P "LeftOpen" 621 (.ref 334),en P "NoValue" 646 (.ref 353),en P "NoKind" 671 (.ref 372),en P "NoRow" 687 (.ref 384),en P "SIGNS" 691 (.str " !\"#$&'()*+,-./0123456789:;<=>?@ABCDEFGHIJKLMNOPQRSTUVWXYZ[\\]^_`abcdefghijklmnopqrstuvwxyz{|}~" 690),en P "FIGURES" 693 (.str "0123456789" 692),en P "LETTERS" 695 (.str "abcdefghijklmnopqrstuvwxyz" 694),en P "LONGEST_NAME" 697 (.int 8 696),en P "sign_of" 704 (.ref 393),en P "sign_told" 712 (.ref 400),en P "WORDSIGNS" 714 (.str "abcdefghijklmnopqrstuvwxyz0123456789-" 713),en P "PLACE_MODES" 721 (.ref 401),en P "place_of" 728 (.ref 408),en P "fed_between" 737 (.ref 415),en P "fed_word" 744 (.ref 422),en P "fed_said" 751 (.ref 429),en P "feed" 759 (.ref 436),en P "ASIS_END" 763 (.str "</asis>" 762),en P "MARK_FIGURES" 765 (.int 2 764),en P "come_to" 774 (.ref 443),en P "told" 783 (.ref 450),en P "gathered" 794 (.ref 457),en P "box_shut" 802 (.ref 464),en P "into_box" 811 (.ref 471),en P "led_on" 820 (.ref 478),en P "fed" 830 (.ref 485),en P "mark_ended" 838 (.ref 492),en P "at_text" 848 (.ref 499),en P "at_mark" 858 (.ref 506),en P "at_open" 868 (.ref 513),en P "at_name" 878 (.ref 520),en P "at_slash" 888 (.ref 527),en P "at_shut" 898 (.ref 534),en P "at_gap" 908 (.ref 541),en P "at_attr" 918 (.ref 548),en P "at_is" 928 (.ref 555),en P "at_bang" 938 (.ref 562),en P "at_bare" 948 (.ref 569),en P "at_code" 958 (.ref 576),en P "at_row" 968 (.ref 583),en P "at_stroke" 978 (.ref 590),en P "at_quoted" 988 (.ref 597),en P "at_qmark" 998 (.ref 604),en P "at_done" 1008 (.ref 611),en P "at_talk" 1018 (.ref 618),en P "at_tmark" 1028 (.ref 625),en P "at_asis" 1034 (.ref 630)] 73
noncomputable def _root_.PySem.W.Fast.tw4752819795712237882:=@x0
theorem _root_.PySem.W.Fast.te4752819795712237882:@x0=@_root_.PySem.W.Fast.tw4752819795712237882:=rfl
def x1:Obj:=pO #[.int 2 0,.int 0 0,.ref 20,.int 4 0,.int 0 0,.ref 33,.int 9 0,.int 0 0,.ref 52,.int 14 0,.int 0 0,.ref 71,.int 19 0,.int 0 0,.ref 90,.int 21 0,.int 0 0,.ref 102,.int 26 0,.int 0 0,.ref 121,.int 31 0,.int 0 0,.ref 140,.int 36 0,.int 0 0,.ref 159,.int 41 0,.int 0 0,.ref 178,.int 43 0,.int 0 0,.ref 190,.int 48 0,.int 0 0,.ref 209,.int 53 0,.int 0 0,.ref 228,.int 58 0,.int 0 0,.ref 247,.int 63 0,.int 0 0,.ref 266,.int 69 0,.int 0 0,.ref 285,.int 75 0,.int 0 0,.ref 304,.int 82 0,.int 0 0,.ref 323,.int 87 0,.int 0 0,.ref 342,.int 92 0,.int 0 0,.ref 361,.int 97 0,.int 0 0,.ref 380,.int 104 0,.int 0 0,.ref 392,.int 106 0,.int 0 0,.ref 399,.int 114 0,.int 0 0,.ref 407,.int 119 0,.int 0 0,.ref 414,.int 127 0,.int 0 0,.ref 421,.int 131 0,.int 0 0,.ref 428,.int 137 0,.int 0 0,.ref 435,.int 150 0,.int 0 0,.ref 442,.int 152 0,.int 0 0,.ref 449,.int 156 0,.int 0 0,.ref 456,.int 160 0,.int 0 0,.ref 463,.int 164 0,.int 0 0,.ref 470,.int 169 0,.int 0 0,.ref 477,.int 177 0,.int 0 0,.ref 484,.int 182 0,.int 0 0,.ref 491,.int 184 0,.int 0 0,.ref 498,.int 190 0,.int 0 0,.ref 505,.int 194 0,.int 0 0,.ref 512,.int 200 0,.int 0 0,.ref 519,.int 204 0,.int 0 0,.ref 526,.int 208 0,.int 0 0,.ref 533,.int 214 0,.int 0 0,.ref 540,.int 218 0,.int 0 0,.ref 547,.int 230 0,.int 0 0,.ref 554,.int 234 0,.int 0 0,.ref 561,.int 238 0,.int 0 0,.ref 568,.int 244 0,.int 0 0,.ref 575,.int 248 0,.int 0 0,.ref 582,.int 256 0,.int 0 0,.ref 589,.int 258 0,.int 0 0,.ref 596,.int 264 0,.int 0 0,.ref 603,.int 268 0,.int 0 0,.ref 610,.int 270 0,.int 0 0,.ref 617,.int 276 0,.int 0 0,.ref 624,.int 280 0,.int 0 0,.ref 629]
def x2:Obj:=tO #[.type "ValueError"]
noncomputable def x3:Obj:=⟨(.type "builtin_function_or_method"),none,(.fields #[.builtin "type.__prepare__",.type "type"]),#[]⟩
def x4:Obj:=tO #[]
def x5:Obj:=pO #[]
def x6 (P:Params):Obj:=dO #[en P "__module__" 196 m0,en P "__firstlineno__" 200 (.int 2 199),en P "__static_attributes__" 201 (.ref 22),en P "__weakref__" 203 (.ref 25),en P "__doc__" 204 .none] 3
noncomputable def x7:Obj:=⟨(.type "type"),none,(.cls ⟨"SealError",[.type "ValueError"],[.ref 24,.type "ValueError",.type "Exception",.type "BaseException",.type "object"],23,"SealError",true,[],[.ref 44,.ref 63,.ref 82,.ref 94,.ref 113,.ref 132,.ref 151,.ref 170,.ref 182,.ref 201,.ref 220,.ref 239,.ref 258,.ref 277,.ref 296,.ref 315,.ref 334,.ref 353,.ref 372,.ref 384],false,none,false⟩),#[some (.ref 15),none,some (.str "SealError" 189),some (.str "SealError" 197),some (.builtin "ValueError.__new__"),some (.bool true)]⟩
noncomputable def x8:Obj:=⟨(.type "getset_descriptor"),none,(.fields #[.str "__weakref__" 202,.ref 24,.builtin "ExceptionGroup.__weakref__",.none]),#[]⟩
def x9:Obj:=tO #[.ref 24]
def x10 (P:Params):Obj:=e_B P 214 m0 4 226 41 228 42 229
def x11:Obj:=kO "NoSign" 44 24 43 28 207 215
def x12 (P:Params):Obj:=e_B P 239 m0 9 251 60 253 61 254
def x13:Obj:=kO "NoCode" 63 24 62 47 232 240
def x14:Obj:=cS "__init__" "Unread.__init__" 269 16 2 73 274
def x15:Obj:=fM (tc 4 0) "__init__" "Unread.__init__" m0 78
def x16 (P:Params):Obj:=e_B P 264 m0 14 276 79 278 80 279
def x17:Obj:=kO "Unread" 82 24 81 66 257 265
def x18 (P:Params):Obj:=dO #[en P "__module__" 289 m0,en P "__firstlineno__" 293 (.int 19 292),en P "__static_attributes__" 294 (.ref 92),en P "__doc__" 295 .none] 2
def x19:Obj:=kO "Unended" 94 24 93 85 282 290
def x20 (P:Params):Obj:=e_B P 305 m0 21 317 110 319 111 320
def x21:Obj:=kO "NoPage" 113 24 112 97 298 306
def x22 (P:Params):Obj:=e_B P 330 m0 26 342 129 344 130 345
def x23:Obj:=kO "NoName" 132 24 131 116 323 331
def x24 (P:Params):Obj:=e_B P 355 m0 31 367 148 369 149 370
def x25:Obj:=kO "NoSheet" 151 24 150 135 348 356
def x26 (P:Params):Obj:=e_B P 380 m0 36 392 167 394 168 395
def x27:Obj:=kO "Twice" 170 24 169 154 373 381
def x28 (P:Params):Obj:=dO #[en P "__module__" 405 m0,en P "__firstlineno__" 409 (.int 41 408),en P "__static_attributes__" 410 (.ref 180),en P "__doc__" 411 .none] 2
def x29:Obj:=kO "TooMany" 182 24 181 173 398 406
def x30 (P:Params):Obj:=e_B P 421 m0 43 433 198 435 199 436
def x31:Obj:=kO "Unknown" 201 24 200 185 414 422
def x32 (P:Params):Obj:=e_B P 446 m0 48 458 217 460 218 461
def x33:Obj:=kO "RingOver" 220 24 219 204 439 447
def x34 (P:Params):Obj:=e_B P 471 m0 53 483 236 485 237 486
def x35:Obj:=kO "Ringed" 239 24 238 223 464 472
def x36 (P:Params):Obj:=e_B P 496 m0 58 508 255 510 256 511
def x37:Obj:=kO "NoElder" 258 24 257 242 489 497
def x38:Obj:=cS "__init__" "Astray.__init__" 526 65 3 268 532
def x39:Obj:=fM (tc 15 0) "__init__" "Astray.__init__" m0 273
def x40 (P:Params):Obj:=e_B P 521 m0 63 534 274 537 275 538
def x41:Obj:=kO "Astray" 277 24 276 261 514 522
def x42:Obj:=cS "__init__" "NoPlace.__init__" 553 71 3 287 559
def x43:Obj:=fM (tc 16 0) "__init__" "NoPlace.__init__" m0 292
def x44 (P:Params):Obj:=e_B P 548 m0 69 561 293 564 294 565
def x45:Obj:=kO "NoPlace" 296 24 295 280 541 549
def x46:Obj:=cS "__init__" "Unlike.__init__" 580 77 4 306 587
def x47:Obj:=fM (tc 17 0) "__init__" "Unlike.__init__" m0 311
def x48 (P:Params):Obj:=e_B P 575 m0 75 589 312 593 313 594
def x49:Obj:=kO "Unlike" 315 24 314 299 568 576
def x50:Obj:=cS "__init__" "LeftOpen.__init__" 609 84 2 325 614
def x51:Obj:=fM (tc 18 0) "__init__" "LeftOpen.__init__" m0 330
def x52 (P:Params):Obj:=e_B P 604 m0 82 616 331 618 332 619
def x53:Obj:=kO "LeftOpen" 334 24 333 318 597 605
def x54 (P:Params):Obj:=e_B P 629 m0 87 641 350 643 351 644
def x55:Obj:=kO "NoValue" 353 24 352 337 622 630
def x56 (P:Params):Obj:=e_B P 654 m0 92 666 369 668 370 669
def x57:Obj:=kO "NoKind" 372 24 371 356 647 655
def x58 (P:Params):Obj:=dO #[en P "__module__" 679 m0,en P "__firstlineno__" 683 (.int 97 682),en P "__static_attributes__" 684 (.ref 382),en P "__doc__" 685 .none] 2
def x59:Obj:=kO "NoRow" 384 24 383 375 672 680
def x60:Obj:=cN "sign_of" 698 104 1 387 702
def x61:Obj:=fM (tp 27) "sign_of" "sign_of" m1 392
def x62:Obj:=cN "sign_told" 705 106 1 394 710
def x63:Obj:=fM (tp 28) "sign_told" "sign_told" m1 399
def x64:Obj:=tO #[.str "text" 717,.str "bare" 718,.str "row" 719,.str "quoted" 720]
def x65:Obj:=cN "place_of" 722 114 1 402 726
def x66:Obj:=fM (tp 32) "place_of" "place_of" m2 407
def x67:Obj:=cN "fed_between" 731 119 1 409 735
def x68:Obj:=fM (tp 34) "fed_between" "fed_between" m3 414
def x69:Obj:=cN "fed_word" 738 127 1 416 742
def x70:Obj:=fM (tp 35) "fed_word" "fed_word" m3 421
def x71:Obj:=cN "fed_said" 745 131 1 423 749
def x72:Obj:=fM (tp 36) "fed_said" "fed_said" m3 428
def x73:Obj:=cN "feed" 752 137 2 430 757
def x74:Obj:=fM (tp 37) "feed" "feed" m3 435
def x75:Obj:=cN "come_to" 766 150 3 437 772
def x76:Obj:=fM (tp 41) "come_to" "come_to" m4 442
def x77:Obj:=cN "told" 775 152 3 444 781
def x78:Obj:=fM (tp 42) "told" "told" m4 449
def x79:Obj:=cN "gathered" 784 156 5 451 792
def x80:Obj:=fM (tp 43) "gathered" "gathered" m4 456
def x81:Obj:=cN "box_shut" 795 160 2 458 800
def x82:Obj:=fM (tp 44) "box_shut" "box_shut" m4 463
def x83:Obj:=cN "into_box" 803 164 2 465 809
def x84:Obj:=fM (tp 45) "into_box" "into_box" m4 470
def x85:Obj:=cN "led_on" 812 169 3 472 818
def x86:Obj:=fM (tp 46) "led_on" "led_on" m4 477
def x87:Obj:=cN "fed" 821 177 3 479 828
def x88:Obj:=fM (tp 47) "fed" "fed" m4 484
def x89:Obj:=cN "mark_ended" 831 182 2 486 836
def x90:Obj:=fM (tp 48) "mark_ended" "mark_ended" m4 491
def x91:Obj:=cN "at_text" 839 184 4 493 846
def x92:Obj:=fM (tp 49) "at_text" "at_text" m4 498
def x93:Obj:=cN "at_mark" 849 190 4 500 856
def x94:Obj:=fM (tp 50) "at_mark" "at_mark" m4 505
def x95:Obj:=cN "at_open" 859 194 4 507 866
def x96:Obj:=fM (tp 51) "at_open" "at_open" m4 512
def x97:Obj:=cN "at_name" 869 200 4 514 876
def x98:Obj:=fM (tp 52) "at_name" "at_name" m4 519
def x99:Obj:=cN "at_slash" 879 204 4 521 886
def x100:Obj:=fM (tp 53) "at_slash" "at_slash" m4 526
def x101:Obj:=cN "at_shut" 889 208 4 528 896
def x102:Obj:=fM (tp 54) "at_shut" "at_shut" m4 533
def x103:Obj:=cN "at_gap" 899 214 4 535 906
def x104:Obj:=fM (tp 55) "at_gap" "at_gap" m4 540
def x105:Obj:=cN "at_attr" 909 218 4 542 916
def x106:Obj:=fM (tp 56) "at_attr" "at_attr" m4 547
def x107:Obj:=cN "at_is" 919 230 4 549 926
def x108:Obj:=fM (tp 57) "at_is" "at_is" m4 554
def x109:Obj:=cN "at_bang" 929 234 4 556 936
def x110:Obj:=fM (tp 58) "at_bang" "at_bang" m4 561
def x111:Obj:=cN "at_bare" 939 238 4 563 946
def x112:Obj:=fM (tp 59) "at_bare" "at_bare" m4 568
def x113:Obj:=cN "at_code" 949 244 4 570 956
def x114:Obj:=fM (tp 60) "at_code" "at_code" m4 575
def x115:Obj:=cN "at_row" 959 248 4 577 966
def x116:Obj:=fM (tp 61) "at_row" "at_row" m4 582
def x117:Obj:=cN "at_stroke" 969 256 4 584 976
def x118:Obj:=fM (tp 62) "at_stroke" "at_stroke" m4 589
def x119:Obj:=cN "at_quoted" 979 258 4 591 986
def x120:Obj:=fM (tp 63) "at_quoted" "at_quoted" m4 596
def x121:Obj:=cN "at_qmark" 989 264 4 598 996
def x122:Obj:=fM (tp 64) "at_qmark" "at_qmark" m4 603
def x123:Obj:=cN "at_done" 999 268 4 605 1006
def x124:Obj:=fM (tp 65) "at_done" "at_done" m4 610
def x125:Obj:=cN "at_talk" 1009 270 4 612 1016
def x126:Obj:=fM (tp 66) "at_talk" "at_talk" m4 617
def x127:Obj:=cN "at_tmark" 1019 276 4 619 1026
def x128:Obj:=fM (tp 67) "at_tmark" "at_tmark" m4 624
def x129:Obj:=cM "at_asis" "at_asis" 1029 280 4 3 626 true 627 .none .none .none (.ref 628) 1032
def x130:Obj:=fM (tp 68) "at_asis" "at_asis" m4 629
def x131 (P:Params):Obj:=dO #[en P "__name__" 165 (.str "law_sealpress_k79_the_first_fault" 1322),en P "__doc__" 166 .none,en P "__package__" 167 .none,en P "__loader__" 168 (.builtin "__main__.__loader__#opaque"),en P "__spec__" 169 .none,en P "__annotations__" 170 (.ref 6),en P "__builtins__" 171 (.ref 4),en P "__file__" 173 (.str "/claim/cut.py" 172),en P "__cached__" 174 .none,en P "SealError" 206 (.ref 24),en P "NoSign" 231 (.ref 44),en P "NoCode" 256 (.ref 63),en P "Unread" 281 (.ref 82),en P "Unended" 297 (.ref 94),en P "NoPage" 322 (.ref 113),en P "NoName" 347 (.ref 132),en P "NoSheet" 372 (.ref 151),en P "Twice" 397 (.ref 170),en P "TooMany" 413 (.ref 182),en P "Unknown" 438 (.ref 201),en P "RingOver" 463 (.ref 220),en P "Ringed" 488 (.ref 239),en P "NoElder" 513 (.ref 258),en P "Astray" 540 (.ref 277),en P "NoPlace" 567 (.ref 296),en P "Unlike" 596 (.ref 315),en P "LeftOpen" 621 (.ref 334),en P "NoValue" 646 (.ref 353),en P "NoKind" 671 (.ref 372),en P "NoRow" 687 (.ref 384),en P "SIGNS" 691 (.str " !\"#$&'()*+,-./0123456789:;<=>?@ABCDEFGHIJKLMNOPQRSTUVWXYZ[\\]^_`abcdefghijklmnopqrstuvwxyz{|}~" 690),en P "FIGURES" 693 (.str "0123456789" 692),en P "LETTERS" 695 (.str "abcdefghijklmnopqrstuvwxyz" 694),en P "LONGEST_NAME" 697 (.int 8 696),en P "sign_of" 704 (.ref 393),en P "sign_told" 712 (.ref 400),en P "WORDSIGNS" 714 (.str "abcdefghijklmnopqrstuvwxyz0123456789-" 713),en P "PLACE_MODES" 721 (.ref 401),en P "place_of" 728 (.ref 408),en P "fed_between" 737 (.ref 415),en P "fed_word" 744 (.ref 422),en P "fed_said" 751 (.ref 429),en P "feed" 759 (.ref 436),en P "ASIS_END" 763 (.str "</asis>" 762),en P "MARK_FIGURES" 765 (.int 2 764),en P "come_to" 774 (.ref 443),en P "told" 783 (.ref 450),en P "gathered" 794 (.ref 457),en P "box_shut" 802 (.ref 464),en P "into_box" 811 (.ref 471),en P "led_on" 820 (.ref 478),en P "fed" 830 (.ref 485),en P "mark_ended" 838 (.ref 492),en P "at_text" 848 (.ref 499),en P "at_mark" 858 (.ref 506),en P "at_open" 868 (.ref 513),en P "at_name" 878 (.ref 520),en P "at_slash" 888 (.ref 527),en P "at_shut" 898 (.ref 534),en P "at_gap" 908 (.ref 541),en P "at_attr" 918 (.ref 548),en P "at_is" 928 (.ref 555),en P "at_bang" 938 (.ref 562),en P "at_bare" 948 (.ref 569),en P "at_code" 958 (.ref 576),en P "at_row" 968 (.ref 583),en P "at_stroke" 978 (.ref 590),en P "at_quoted" 988 (.ref 597),en P "at_qmark" 998 (.ref 604),en P "at_done" 1008 (.ref 611),en P "at_talk" 1018 (.ref 618),en P "at_tmark" 1028 (.ref 625),en P "at_asis" 1034 (.ref 630),en P "MODES" 1075 (.ref 631),en P "moved" 1084 (.ref 639),en P "begin" 1092 (.ref 646),en P "step" 1100 (.ref 653),en P "run" 1113 (.ref 660),en P "is_end" 1120 (.ref 667),en P "floored" 1127 (.ref 674),en P "Spot" 1185 (.ref 712),en P "Looking" 1304 (.ref 789),en P "looked_at" 1314 (.ref 800),en P "look" 1321 (.ref 807),en P "_law_cell" 1332 (.ref 814),en P "_law_mix" 1344 (.ref 821),en P "_law_other" 1351 (.ref 828),en P "_law_part" 1359 (.ref 835),en P "_law_fault" 1371 (.ref 842),en P "_law_good" 1386 (.ref 849),en P "_law_some" 1402 (.ref 856),en P "_law_within" 1416 (.ref 863),en P "_law_compound" 1432 (.ref 870),en P "_law_made" 1443 (.ref 877),en P "_law_marked" 1451 (.ref 884),en P "_law_pass" 1462 (.ref 891),en P "_law_inner" 1469 (.ref 898),en P "_law_path" 1485 (.ref 905),en P "_law_text_of" 1498 (.ref 912),en P "_law_due" 1510 (.ref 919),en P "_law_looked" 1519 (.ref 926),en P "_law_refusal" 1526 (.ref 933),en P "_law_first" 1540 (.ref 940),en P "_law_plants" 1551 (.ref 947),en P "_law_pieces" 1561 (.ref 954),en P "_law_right" 1567 (.ref 959),en P "law" 1579 (.ref 966)] 107
noncomputable def _root_.PySem.W.Fast.tw15246587020478753792:=@x131
theorem _root_.PySem.W.Fast.te15246587020478753792:@x131=@_root_.PySem.W.Fast.tw15246587020478753792:=rfl
def x132 (P:Params):Obj:=dO #[en P "text" 1035 (.ref 499),en P "mark" 1037 (.ref 506),en P "open" 1039 (.ref 513),en P "name" 1041 (.ref 520),en P "slash" 1043 (.ref 527),en P "shut" 1045 (.ref 534),en P "gap" 1047 (.ref 541),en P "attr" 1049 (.ref 548),en P "is" 1051 (.ref 555),en P "bang" 1053 (.ref 562),en P "bare" 1055 (.ref 569),en P "code" 1057 (.ref 576),en P "row" 1059 (.ref 583),en P "stroke" 1061 (.ref 590),en P "quoted" 1063 (.ref 597),en P "qmark" 1065 (.ref 604),en P "done" 1067 (.ref 611),en P "talk" 1069 (.ref 618),en P "tmark" 1070 (.ref 625),en P "asis" 1071 (.ref 630)] 20
def x133 (P:Params):Obj:=dO #[en P "__module__" 1193 m6,en P "__firstlineno__" 1197 (.int 329 1196),en P "__init__" 1205 (.ref 730),en P "look_all" 1216 (.ref 737),en P "look_piece" 1226 (.ref 744),en P "look_literal" 1237 (.ref 751),en P "look_hole" 1247 (.ref 758),en P "look_each" 1258 (.ref 765),en P "look_if" 1269 (.ref 772),en P "look_seat" 1280 (.ref 779),en P "look_drawn" 1293 (.ref 786),en P "__static_attributes__" 1297 (.ref 787),en P "__dict__" 1299 (.ref 790),en P "__weakref__" 1301 (.ref 791),en P "__doc__" 1302 .none] 4
def kh0 (P:Params):Le:=[(2,boot_o_2 P),(3,x131 P),(15,x2),(22,x4),(23,x6 P),(24,x7),(25,x8),(43,x10 P),(44,x11),(62,x12 P),(63,x13),(78,x14)]
def kh1 (P:Params):Le:=[(79,x15),(81,x16 P),(82,x17),(93,x18 P),(94,x19),(112,x20 P),(113,x21),(131,x22 P),(132,x23),(150,x24 P),(151,x25),(169,x26 P)]
def kh2 (P:Params):Le:=[(170,x27),(181,x28 P),(182,x29),(200,x30 P),(201,x31),(219,x32 P),(220,x33),(238,x34 P),(239,x35),(257,x36 P),(258,x37),(273,x38)]
def kh3 (P:Params):Le:=[(274,x39),(276,x40 P),(277,x41),(292,x42),(293,x43),(295,x44 P),(296,x45),(311,x46),(312,x47),(314,x48 P),(315,x49),(330,x50)]
def kh4 (P:Params):Le:=[(331,x51),(333,x52 P),(334,x53),(352,x54 P),(353,x55),(371,x56 P),(372,x57),(383,x58 P),(384,x59),(392,x60),(393,x61),(399,x62)]
def kh5 (P:Params):Le:=[(400,x63),(401,x64),(407,x65),(408,x66),(414,x67),(415,x68),(421,x69),(422,x70),(428,x71),(429,x72),(435,x73),(436,x74)]
def kh6 (P:Params):Le:=[(442,x75),(443,x76),(449,x77),(450,x78),(456,x79),(457,x80),(463,x81),(464,x82),(470,x83),(471,x84),(477,x85),(478,x86)]
def kh7 (P:Params):Le:=[(484,x87),(485,x88),(491,x89),(492,x90),(498,x91),(499,x92),(505,x93),(506,x94),(512,x95),(513,x96),(519,x97),(520,x98)]
def kh8 (P:Params):Le:=[(526,x99),(527,x100),(533,x101),(534,x102),(540,x103),(541,x104),(547,x105),(548,x106),(554,x107),(555,x108),(561,x109),(562,x110)]
def kh9 (P:Params):Le:=[(568,x111),(569,x112),(575,x113),(576,x114),(582,x115),(583,x116),(589,x117),(590,x118),(596,x119),(597,x120),(603,x121),(604,x122)]
def kh10 (P:Params):Le:=[(610,x123),(611,x124),(617,x125),(618,x126),(624,x127),(625,x128),(629,x129),(630,x130),(631,x132 P),(638,cN "moved" 1076 291 2 633 1082),(639,fM (tp 70) "moved" "moved" m4 638),(645,cN "begin" 1087 295 0 640 1090)]
def kh11 (P:Params):Le:=[(646,fM (tp 72) "begin" "begin" m5 645),(652,cN "step" 1093 297 2 647 1098),(653,fM (tp 73) "step" "step" m5 652),(659,cN "run" 1101 299 2 654 1111),(660,fM (tp 74) "run" "run" m5 659),(666,cN "is_end" 1114 309 1 661 1118),(667,fM (tp 75) "is_end" "is_end" m5 666),(673,cN "floored" 1121 311 1 668 1125),(674,fM (tp 76) "floored" "floored" m5 673),(687,cS "__init__" "Spot.__init__" 1142 316 4 682 1149),(688,fM (tc 78 0) "__init__" "Spot.__init__" m6 687),(694,cS "shown" "Spot.shown" 1152 321 1 689 1156)]
def kh12 (P:Params):Le:=[(695,fM (tc 78 1) "shown" "Spot.shown" m6 694),(701,cS "met" "Spot.met" 1159 324 2 696 1164),(702,fM (tc 78 2) "met" "Spot.met" m6 701),(708,cS "turned" "Spot.turned" 1167 327 2 703 1172),(709,fM (tc 78 3) "turned" "Spot.turned" m6 708),(711,dO #[en P "__module__" 1137 m6,en P "__firstlineno__" 1141 (.int 314 1140),en P "__init__" 1151 (.ref 688),en P "shown" 1158 (.ref 695),en P "met" 1166 (.ref 702),en P "turned" 1174 (.ref 709),en P "__static_attributes__" 1178 (.ref 710),en P "__dict__" 1180 (.ref 713),en P "__weakref__" 1182 (.ref 714),en P "__doc__" 1183 .none] 4),(712,⟨(.type "type"),none,(.cls ⟨"Spot",[.type "object"],[.ref 712,.type "object"],711,"Spot",true,[],[],false,none,false⟩),#[none,none,some (.str "Spot" 1130),some (.str "Spot" 1138),some (.builtin "object.__new__"),some (.bool true)]⟩),(729,cS "__init__" "Looking.__init__" 1198 331 2 724 1203),(730,fM (tc 79 0) "__init__" "Looking.__init__" m6 729),(736,cS "look_all" "Looking.look_all" 1206 336 3 731 1214),(737,fM (tc 79 1) "look_all" "Looking.look_all" m6 736),(743,cS "look_piece" "Looking.look_piece" 1217 342 3 738 1224)]
def kh13 (P:Params):Le:=[(744,fM (tc 79 2) "look_piece" "Looking.look_piece" m6 743),(750,cS "look_literal" "Looking.look_literal" 1227 356 3 745 1235),(751,fM (tc 79 3) "look_literal" "Looking.look_literal" m6 750),(757,cS "look_hole" "Looking.look_hole" 1238 363 3 752 1245),(758,fM (tc 79 4) "look_hole" "Looking.look_hole" m6 757),(764,cS "look_each" "Looking.look_each" 1248 370 3 759 1256),(765,fM (tc 79 5) "look_each" "Looking.look_each" m6 764),(771,cS "look_if" "Looking.look_if" 1259 377 3 766 1267),(772,fM (tc 79 6) "look_if" "Looking.look_if" m6 771),(778,cS "look_seat" "Looking.look_seat" 1270 384 3 773 1278),(779,fM (tc 79 7) "look_seat" "Looking.look_seat" m6 778),(788,x133 P)]
def kh14 (P:Params):Le:=[(789,⟨(.type "type"),none,(.cls ⟨"Looking",[.type "object"],[.ref 789,.type "object"],788,"Looking",true,[],[],false,none,false⟩),#[none,none,some (.str "Looking" 1186),some (.str "Looking" 1194),some (.builtin "object.__new__"),some (.bool true)]⟩),(799,cN "looked_at" 1305 402 2 794 1312),(800,fM (tp 80) "looked_at" "looked_at" m6 799),(806,cN "look" 1315 408 1 801 1319),(807,fM (tp 81) "look" "look" m6 806),(813,cN "_law_cell" 1324 411 2 808 1330),(814,fM (tp 83) "_law_cell" "_law_cell" m7 813),(820,cN "_law_mix" 1333 418 3 815 1342),(821,fM (tp 84) "_law_mix" "_law_mix" m7 820),(827,cN "_law_other" 1345 425 1 822 1349),(828,fM (tp 85) "_law_other" "_law_other" m7 827),(834,cN "_law_part" 1352 429 2 829 1357)]
def kh15 (P:Params):Le:=[(835,fM (tp 86) "_law_part" "_law_part" m7 834),(841,cN "_law_fault" 1360 431 3 836 1369),(842,fM (tp 87) "_law_fault" "_law_fault" m7 841),(848,cN "_law_good" 1372 444 4 843 1384),(849,fM (tp 88) "_law_good" "_law_good" m7 848),(855,cN "_law_some" 1387 456 4 850 1400),(856,fM (tp 89) "_law_some" "_law_some" m7 855),(862,cN "_law_within" 1403 473 6 857 1414),(863,fM (tp 90) "_law_within" "_law_within" m7 862),(869,cN "_law_compound" 1417 476 4 864 1430),(870,fM (tp 91) "_law_compound" "_law_compound" m7 869),(876,cN "_law_made" 1433 487 2 871 1441)]
def kh16 (P:Params):Le:=[(877,fM (tp 92) "_law_made" "_law_made" m7 876),(883,cN "_law_marked" 1444 494 2 878 1449),(884,fM (tp 93) "_law_marked" "_law_marked" m7 883),(890,cN "_law_pass" 1452 500 1 885 1460),(891,fM (tp 94) "_law_pass" "_law_pass" m7 890),(897,cN "_law_inner" 1463 517 1 892 1467),(898,fM (tp 95) "_law_inner" "_law_inner" m7 897),(904,cN "_law_path" 1470 525 2 899 1483),(905,fM (tp 96) "_law_path" "_law_path" m7 904),(911,cN "_law_text_of" 1486 539 2 906 1496),(912,fM (tp 97) "_law_text_of" "_law_text_of" m7 911),(918,cN "_law_due" 1499 548 3 913 1508)]
def kh17 (P:Params):Le:=[(919,fM (tp 98) "_law_due" "_law_due" m7 918),(925,cN "_law_looked" 1511 560 1 920 1517),(926,fM (tp 99) "_law_looked" "_law_looked" m7 925),(932,cN "_law_refusal" 1520 566 1 927 1524),(933,fM (tp 100) "_law_refusal" "_law_refusal" m7 932),(939,cN "_law_first" 1527 577 2 934 1538),(940,fM (tp 101) "_law_first" "_law_first" m7 939),(946,cN "_law_plants" 1541 587 3 941 1549),(947,fM (tp 102) "_law_plants" "_law_plants" m7 946),(953,cN "_law_pieces" 1552 593 3 948 1559),(954,fM (tp 103) "_law_pieces" "_law_pieces" m7 953),(958,cM "_law_right" "_law_right" 1562 598 3 3 955 true 956 .none .none .none (.ref 957) 1565)]
def kh18 (P:Params):Le:=[(959,fM (tp 104) "_law_right" "_law_right" m7 958),(965,cN "law" 1568 609 1 960 1577),(966,fM (tp 105) "law" "law" m7 965)]
def zhL (P:Params):Le:=kh0 P++(kh1 P++(kh2 P++(kh3 P++(kh4 P++(kh5 P++(kh6 P++(kh7 P)))))))
def zhM (P:Params):Le:=kh8 P++(kh9 P++(kh10 P++(kh11 P++(kh12 P++(kh13 P++(kh14 P++(kh15 P)))))))
def zfL (P:Params):Le:=kh16 P++(kh17 P++(kh18 P))
def KH (P:Params):Le:=zhL P++(zhM P++(zfL P))
noncomputable def asL:Ld:=[2,3,15,22,23,24,25,43,44,62,63,78,79,81,82,93,94,112,113,131,132,150,151,169,170,181,182,200,201,219,220,238,239,257,258,273,274,276,277,292,293,295,296,311,312,314,315,330,331,333,334,352,353,371,372,383,384,392,393,399,400,401,407,408,414,415,421,422,428,429,435,436,442,443,449,450,456,457,463,464,470,471,477,478,484,485,491,492,498,499,505,506,512,513,519,520,526,527,533,534,540,541,547,548,554,555,561,562,568,569,575,576,582,583,589,590,596,597,603,604,610,611,617,618,624,625,629,630,631,638,639,645,646,652,653,659,660,666,667,673,674,687,688,694,695,701,702,708,709,711,712,729,730,736,737,743,744,750,751,757,758,764,765,771,772,778,779,788,789,799,800,806,807,813,814,820,821,827,828,834,835,841,842,848,849,855,856,862,863,869,870,876,877,883,884,890,891,897,898,904,905,911,912,918,919,925,926,932,933,939,940,946,947,953,954,958,959,965,966]
theorem zja (P:Params):asL=(KH P).map (λp=>p.1):=by kernel_rfl
@[reducible] def HK:Hook:=kHook KH asL zja
def obs0 (s:Shared):List (Option Obj):=asL.map s.heap.get?
def val0 (w:World):List (Option Obj):=(KH w.params).map λp=>some p.2
def tb0 (P:Params):BT:=.node (boot_o_0 P) (.node (boot_o_1 P) (.node (boot_o_3 P) (.node (boot_o_7 P) .nil .nil) (.node (o11 P) .nil .nil)) (.node (boot_o_5 P) (.node (boot_o_9 P) .nil .nil) (.node (o13 P) .nil .nil))) (.node (boot_o_2 P) (.node (boot_o_4 P) (.node (boot_o_8 P) .nil .nil) (.node (o12 P) .nil .nil)) (.node (boot_o_6 P) (.node (boot_o_10 P) .nil .nil) (.node (o14 P) .nil .nil)))
def sB (w:World)(os:OsState):SharedT:=⟨tb0 w.params,15,{},#[],{},187,os⟩
noncomputable def env0:Env:={ scope:=pw.main.scope,locals:=mainNs,globals:=mainNs,cells:=[],code:=.ref 13,frame:=some 14 }
noncomputable def XU:List Stmt:=behindTheImports pw
def cE:Code:=.body XU env0
noncomputable def pos0:Pos:=⟨0,0,0,0⟩
def B0:List Frame:=[topFrame pos0]
noncomputable def ann0:Option Value:=some (.ref 6)
noncomputable def qvw:Program:=view pw [1,2,3,4,5,6,7,8,9,10,11,12,13,14,15,16,17,18,19,20,21,23,24,25,26,27,28,29,31,32,34,35,36,37,39,40,41,42,43,44,45,46,47,48,49,50,51,52,53,54,55,56,57,58,59,60,61,62,63,64,65,66,67,68,69,70,72,73,74,75,76,78,79,80,81,83,84,85,86,87,88,89,90,91,92,93,94,95,96,97,98,99,100,101,102,103,104,105]
noncomputable def loose0:Lh:=["MODES"]
noncomputable def mods:Lh:=importedModules pw.main.body
def Xt0 (s:Shared):Bool:=xlAt qvw [] s&&recOk (RowW.records (OpenRow.toRowW (OpenLaw.row PySem.Challenge.rw_sealpress_k79_the_first_fault))) s
def zhC (w:World)(r:Flow×SharedT×Code×Pos):=(r.1,r.2.2.1,(staticsOk mods (boot_heap w.params) r.2.1.abs.heap&&namesBound pw r.2.1.abs.heap&&gensDone r.2.1.abs&&laidKept (boot_heap w.params) r.2.1.abs.heap),obs0 r.2.1.abs)
def J3 (r:Flow×SharedT×Code×Pos):=openSeen qvw loose0 mods Xt0 true r.2.1.abs
def t0_0 (P:Params):BT:=(.node x13 (.node (gM (tc 7 0) "__init__" "NoName.__init__") (.node (fM (tc 14 0) "__init__" "NoElder.__init__" m0 254) (.node (gM (tp 51) "at_open" "at_open") .nil .nil) .nil) (.node (x58 P) .nil .nil)) (.node (rM 190 187 m0) (.node x3 (.node x113 .nil .nil) .nil) (.node x4 .nil .nil)))
def t0_1 (P:Params):BT:=(.node (sO 94) (.node (cK "Twice" 375 36 157 378) (.node x4 (.node x5 .nil .nil) .nil) (.node x68 .nil .nil)) (.node x9 (.node (tO #[.str "name" 642]) (.node (tO #[.str "word" 1002,.str "opens" 1003,.str "talk" 1004,.str "sign" 1005]) .nil .nil) .nil) (.node x4 .nil .nil)))
def t0_2 (P:Params):BT:=(.node x15 (.node x5 (.node x4 (.node x100 .nil .nil) .nil) (.node x62 .nil .nil)) (.node x4 (.node (sO 334) (.node x4 .nil .nil) .nil) (.node x81 .nil .nil)))
def t0_3 (P:Params):BT:=(.node (tO #[.str "at" 318]) (.node (dO #[en P "__module__" 405 m0,en P "__qualname__" 407 (.str "TooMany" 406),en P "__firstlineno__" 409 (.int 41 408),en P "__static_attributes__" 410 (.ref 180)] 4) (.node (pO #[.int 77 0,.int 4 0,.ref 311]) (.node x4 .nil .nil) .nil) (.node x5 .nil .nil)) (.node x35 (.node (gM (tc 20 0) "__init__" "NoKind.__init__") (.node (gM (tp 67) "at_tmark" "at_tmark") .nil .nil) .nil) (.node (tO #[.str "word" 842,.str "opens" 843,.str "talk" 844,.str "sign" 845]) .nil .nil)))
def t0_4 (P:Params):BT:=(.node (cK "Unread" 259 14 69 262) (.node x9 (.node (e_A P 521 m0 "Astray" 63 534 274 537 275) (.node x97 .nil .nil) .nil) (.node (gM (tp 27) "sign_of" "sign_of") .nil .nil)) (.node (tO #[.str "name" 434]) (.node (tO #[.str "self" 612,.str "place" 613]) (.node x116 .nil .nil) .nil) (.node (gM (tp 43) "gathered" "gathered") .nil .nil)))
def t0_5 (P:Params):BT:=(.node (rM 102 99 m0) (.node (fM (tc 9 0) "__init__" "Twice.__init__" m0 166) (.node (x44 P) (.node (tO #[.str "word" 922,.str "opens" 923,.str "talk" 924,.str "sign" 925]) .nil .nil) .nil) (.node x4 .nil .nil)) (.node x5 (.node x4 (.node x4 .nil .nil) .nil) (.node x5 .nil .nil)))
def t0_6 (P:Params):BT:=(.node (dO #[en P "__module__" 289 m0,en P "__qualname__" 291 (.str "Unended" 290),en P "__firstlineno__" 293 (.int 19 292),en P "__static_attributes__" 294 (.ref 92)] 4) (.node x25 (.node (b_O 277) (.node x4 .nil .nil) .nil) (.node x65 .nil .nil)) (.node (gM (tc 12 0) "__init__" "RingOver.__init__") (.node (rM 342 339 m0) (.node x5 .nil .nil) .nil) (.node x84 .nil .nil)))
def t0_7 (P:Params):BT:=(.node x4 (.node (sO 182) (.node x46 (.node (gM (tp 59) "at_bare" "at_bare") .nil .nil) .nil) (.node (tO #[.str "mode" 769,.str "opens" 770,.str "events" 771]) .nil .nil)) (.node (cK "NoElder" 491 58 245 494) (.node x9 .nil .nil) (.node x4 .nil .nil)))
def t0_8 (P:Params):BT:=(.node x3 (.node (x22 P) (.node (sO 258) (.node x5 .nil .nil) .nil) (.node x4 .nil .nil)) (.node x4 (.node (cK "LeftOpen" 599 82 321 602) (.node (tO #[.str "word" 962,.str "opens" 963,.str "talk" 964,.str "sign" 965]) .nil .nil) .nil) (.node x4 .nil .nil)))
def t0_9 (P:Params):BT:=(.node (e_A P 305 m0 "NoPage" 21 317 110 319 111) (.node (tO #[.str "self" 388,.str "name" 389]) (.node (gM (tc 16 0) "__init__" "NoPlace.__init__") (.node x105 .nil .nil) .nil) (.node x4 .nil .nil)) (.node (pO #[.int 55 0,.int 4 0,.ref 235]) (.node (b_O 353) (.node x124 .nil .nil) .nil) (.node (gM (tp 47) "fed" "fed") .nil .nil)))
def zjb (P:Params):BT:=(.node (sO 82) (.node (cS "__init__" "NoSheet.__init__" 360 33 2 142 365) (.node (tO #[.str "at" 535,.str "place" 536]) (.node x4 .nil .nil) .nil) (.node x5 .nil .nil)) (.node x4 (.node (e_A P 629 m0 "NoValue" 87 641 350 643 351) (.node (gM (tp 63) "at_quoted" "at_quoted") .nil .nil) .nil) (.node (tO #[.str "opens" 806,.str "events" 807,.str "mode" 808]) .nil .nil)))
def zjc (P:Params):BT:=(.node (b_O 113) (.node (rM 178 175 m0) (.node x5 (.node x4 .nil .nil) .nil) (.node x73 .nil .nil)) (.node x3 (.node (x56 P) (.node x5 .nil .nil) .nil) (.node x92 .nil .nil)))
def zjd (P:Params):BT:=(.node (tO #[.str "self" 272,.str "at" 273]) (.node (pO #[.int 33 0,.int 4 0,.ref 147]) (.node (rM 266 263 m0) (.node (tO #[.str "word" 882,.str "opens" 883,.str "talk" 884,.str "sign" 885]) .nil .nil) .nil) (.node x5 .nil .nil)) (.node (b_O 201) (.node x51 (.node x4 .nil .nil) .nil) (.node x5 .nil .nil)))
def zje (P:Params):BT:=(.node x4 (.node (sO 170) (.node x9 (.node x108 .nil .nil) .nil) (.node (gM (tp 36) "fed_said" "fed_said") .nil .nil)) (.node (cS "__init__" "Ringed.__init__" 476 55 2 230 481) (.node x4 (.node x4 .nil .nil) .nil) (.node x89 .nil .nil)))
def zjf (P:Params):BT:=(.node (rM 90 87 m0) (.node x3 (.node x4 (.node (gM (tp 55) "at_gap" "at_gap") .nil .nil) .nil) (.node (tO #[.str "sign" 734]) .nil .nil)) (.node (x32 P) (.node x4 (.node x121 .nil .nil) .nil) (.node x4 .nil .nil)))
def zjg (P:Params):BT:=(.node x4 (.node (e_A P 421 m0 "Unknown" 43 433 198 435 199) (.node x49 (.node x5 .nil .nil) .nil) (.node x76 .nil .nil)) (.node (tO #[.str "self" 504,.str "name" 505]) (.node x5 .nil .nil) (.node x4 .nil .nil)))
def zjh (P:Params):BT:=(.node (b_O 63) (.node (fM (tc 7 0) "__init__" "NoName.__init__" m0 128) (.node (x36 P) (.node x96 .nil .nil) .nil) (.node (sO 384) .nil .nil)) (.node x5 (.node x4 (.node x4 .nil .nil) .nil) (.node x77 .nil .nil)))
def zji (P:Params):BT:=(.node x9 (.node x4 (.node (tO #[.str "self" 556,.str "name" 557,.str "place" 558]) (.node x4 .nil .nil) .nil) (.node x5 .nil .nil)) (.node (e_A P 471 m0 "Ringed" 53 483 236 485 237) (.node x55 (.node (gM (tp 65) "at_done" "at_done") .nil .nil) .nil) (.node (tO #[.str "opens" 824,.str "talk" 825,.str "sign" 826,.str "answer" 827]) .nil .nil)))
def zjj (P:Params):BT:=(.node (x16 P) (.node x4 (.node x38 (.node x5 .nil .nil) .nil) (.node x64 .nil .nil)) (.node (cK "RingOver" 441 48 207 444) (.node x9 (.node (tO #[.str "word" 982,.str "opens" 983,.str "talk" 984,.str "sign" 985]) .nil .nil) .nil) (.node x4 .nil .nil)))
def zjk (P:Params):BT:=(.node x21 (.node x5 (.node (rM 304 301 m0) (.node x109 .nil .nil) .nil) (.node x4 .nil .nil)) (.node (b_O 239) (.node (fM (tc 20 0) "__init__" "NoKind.__init__" m0 368) (.node x128 .nil .nil) .nil) (.node (gM (tp 49) "at_text" "at_text") .nil .nil)))
def zjl (P:Params):BT:=(.node x4 (.node (e_A P 355 m0 "NoSheet" 31 367 148 369 149) (.node (pO #[.int 65 0,.int 4 0,.ref 273]) (.node x4 .nil .nil) .nil) (.node x61 .nil .nil)) (.node x31 (.node (gM (tc 18 0) "__init__" "LeftOpen.__init__") (.node x5 .nil .nil) .nil) (.node x80 .nil .nil)))
def zjm (P:Params):BT:=(.node x5 (.node (x26 P) (.node (sO 296) (.node (gM (tp 57) "at_is" "at_is") .nil .nil) .nil) (.node (tO #[.str "sign" 748]) .nil .nil)) (.node x4 (.node (cK "NoKind" 649 92 359 652) (.node x125 .nil .nil) .nil) (.node x4 .nil .nil)))
def zjn (P:Params):BT:=(.node x5 (.node (b_O 151) (.node x3 (.node (tO #[.str "word" 902,.str "opens" 903,.str "talk" 904,.str "sign" 905]) .nil .nil) .nil) (.node x4 .nil .nil)) (.node (fM (tc 12 0) "__init__" "RingOver.__init__" m0 216) (.node x5 (.node x4 .nil .nil) .nil) (.node x5 .nil .nil)))
def zjo (P:Params):BT:=(.node (cK "NoName" 325 26 119 328) (.node x9 (.node (tO #[.str "one" 590,.str "other" 591,.str "what" 592]) (.node x112 .nil .nil) .nil) (.node (gM (tp 41) "come_to" "come_to") .nil .nil)) (.node x4 (.node (dO #[en P "__module__" 679 m0,en P "__qualname__" 681 (.str "NoRow" 680),en P "__firstlineno__" 683 (.int 97 682),en P "__static_attributes__" 684 (.ref 382)] 4) .nil .nil) (.node x93 .nil .nil)))
def zjp (P:Params):BT:=(.node x4 (.node (sO 132) (.node x9 (.node x4 .nil .nil) .nil) (.node (tO #[.str "number" 701]) .nil .nil)) (.node (cS "__init__" "Unknown.__init__" 426 45 2 192 431) (.node x4 (.node (gM (tp 61) "at_row" "at_row") .nil .nil) .nil) (.node (tO #[.str "mode" 787,.str "word" 788,.str "opens" 789,.str "talk" 790,.str "most" 791]) .nil .nil)))
def zjq (P:Params):BT:=(.node (pO #[.int 23 0,.int 4 0,.ref 109]) (.node (gM (tc 9 0) "__init__" "Twice.__init__") (.node x43 (.node x4 .nil .nil) .nil) (.node x69 .nil .nil)) (.node (rM 228 225 m0) (.node x3 (.node x5 .nil .nil) .nil) (.node x88 .nil .nil)))
def zjr (P:Params):BT:=(.node x9 (.node (tO #[.str "at" 368]) (.node x41 (.node x101 .nil .nil) .nil) (.node x4 .nil .nil)) (.node (tO #[.str "self" 454,.str "ring" 455]) (.node (pO #[.int 89 0,.int 4 0,.ref 349]) (.node x120 .nil .nil) .nil) (.node (gM (tp 45) "into_box" "into_box") .nil .nil)))
def zjs (P:Params):BT:=(.node x3 (.node (x28 P) (.node x4 (.node (tO #[.str "word" 942,.str "opens" 943,.str "talk" 944,.str "sign" 945]) .nil .nil) .nil) (.node x4 .nil .nil)) (.node x4 (.node (sO 372) (.node x129 .nil .nil) .nil) (.node x5 .nil .nil)))
def zjt (P:Params):BT:=(.node (gM (tc 4 0) "__init__" "Unread.__init__") (.node (rM 140 137 m0) (.node x5 (.node (gM (tp 53) "at_slash" "at_slash") .nil .nil) .nil) (.node x4 .nil .nil)) (.node x3 (.node (x52 P) (.node x117 .nil .nil) .nil) (.node x4 .nil .nil)))
def zju (P:Params):BT:=(.node (cS "__init__" "NoPage.__init__" 310 23 2 104 315) (.node x9 (.node (e_A P 575 m0 "Unlike" 75 589 312 593 313) (.node x5 .nil .nil) .nil) (.node x72 .nil .nil)) (.node (tO #[.str "ring" 484]) (.node (tO #[.str "self" 662,.str "name" 663]) (.node (tO #[.str "word" 1022,.str "opens" 1023,.str "talk" 1024,.str "sign" 1025]) .nil .nil) .nil) (.node x4 .nil .nil)))
def zjv (P:Params):BT:=(.node (x18 P) (.node x4 (.node (cK "NoPlace" 543 69 283 546) (.node x104 .nil .nil) .nil) (.node (gM (tp 34) "fed_between" "fed_between") .nil .nil)) (.node (sO 220) (.node (cS "__init__" "NoValue.__init__" 634 89 2 344 639) (.node x4 .nil .nil) .nil) (.node x85 .nil .nil)))
def zjw (P:Params):BT:=(.node (tO #[.str "self" 338,.str "name" 339]) (.node (pO #[.int 45 0,.int 4 0,.ref 197]) (.node (b_O 315) (.node x4 .nil .nil) .nil) (.node x5 .nil .nil)) (.node (gM (tc 14 0) "__init__" "NoElder.__init__") (.node (rM 380 377 m0) .nil .nil) (.node (tO #[.str "word" 862,.str "opens" 863,.str "talk" 864,.str "sign" 865]) .nil .nil)))
def zjx (P:Params):BT:=(.node (sO 63) (.node (cS "__init__" "NoName.__init__" 335 28 2 123 340) (.node (tO #[.str "name" 509]) (.node x95 .nil .nil) .nil) (.node x59 .nil .nil)) (.node x4 (.node (e_A P 604 m0 "LeftOpen" 82 616 331 618 332) (.node x114 .nil .nil) .nil) (.node (gM (tp 42) "told" "told") .nil .nil)))
def zjy (P:Params):BT:=(.node (b_O 94) (.node (rM 159 156 m0) (.node x5 (.node (tO #[.str "word" 912,.str "opens" 913,.str "talk" 914,.str "sign" 915]) .nil .nil) .nil) (.node x4 .nil .nil)) (.node x3 (.node (x54 P) (.node x4 .nil .nil) .nil) (.node x5 .nil .nil)))
def zjz (P:Params):BT:=(.node (tO #[.str "at" 277]) (.node (tO #[.str "self" 363,.str "at" 364]) (.node (gM (tc 15 0) "__init__" "Astray.__init__") (.node x4 .nil .nil) .nil) (.node x63 .nil .nil)) (.node (pO #[.int 50 0,.int 4 0,.ref 216]) (.node (b_O 334) (.node x5 .nil .nil) .nil) (.node x82 .nil .nil)))
def zjA (P:Params):BT:=(.node (x20 P) (.node x4 (.node (cK "Unlike" 570 75 302 573) (.node (gM (tp 58) "at_bang" "at_bang") .nil .nil) .nil) (.node (tO #[.str "talk" 755,.str "sign" 756]) .nil .nil)) (.node (sO 239) (.node (cS "__init__" "NoKind.__init__" 659 94 2 363 664) (.node x127 .nil .nil) .nil) (.node x4 .nil .nil)))
def zjB (P:Params):BT:=(.node (rM 71 68 m0) (.node x3 (.node x4 (.node x98 .nil .nil) .nil) (.node x60 .nil .nil)) (.node (x30 P) (.node x4 (.node x4 .nil .nil) .nil) (.node x79 .nil .nil)))
def zjC (P:Params):BT:=(.node x4 (.node (tO #[.str "name" 393]) (.node x45 (.node x4 .nil .nil) .nil) (.node x5 .nil .nil)) (.node (tO #[.str "self" 479,.str "ring" 480]) (.node (pO #[.int 94 0,.int 4 0,.ref 368]) (.node (gM (tp 66) "at_talk" "at_talk") .nil .nil) .nil) (.node (tO #[.str "word" 834,.str "sign" 835]) .nil .nil)))
def zjD (P:Params):BT:=(.node x4 (.node (sO 151) (.node x9 (.node x5 .nil .nil) .nil) (.node x66 .nil .nil)) (.node (cS "__init__" "RingOver.__init__" 451 50 2 211 456) (.node x4 (.node (tO #[.str "word" 992,.str "opens" 993,.str "talk" 994,.str "sign" 995]) .nil .nil) .nil) (.node x4 .nil .nil)))
def zjE (P:Params):BT:=(.node (pO #[.int 28 0,.int 4 0,.ref 128]) (.node (b_O 182) (.node x47 (.node x111 .nil .nil) .nil) (.node x4 .nil .nil)) (.node (rM 247 244 m0) (.node x3 .nil .nil) (.node (gM (tp 50) "at_mark" "at_mark") .nil .nil)))
def zjF (P:Params):BT:=(.node (e_A P 264 m0 "Unread" 14 276 79 278 80) (.node x23 (.node (b_O 258) (.node (tO #[.str "word" 872,.str "opens" 873,.str "talk" 874,.str "sign" 875]) .nil .nil) .nil) (.node x5 .nil .nil)) (.node (gM (tc 11 0) "__init__" "Unknown.__init__") (.node (rM 323 320 m0) (.node x4 .nil .nil) .nil) (.node x5 .nil .nil)))
def zjG (P:Params):BT:=(.node x4 (.node x4 (.node x42 (.node x106 .nil .nil) .nil) (.node (gM (tp 35) "fed_word" "fed_word") .nil .nil)) (.node (cK "Ringed" 466 53 226 469) (.node x9 (.node x4 .nil .nil) .nil) (.node x87 .nil .nil)))
def zjH (P:Params):BT:=(.node (b_O 82) (.node (fM (tc 8 0) "__init__" "NoSheet.__init__" m0 147) (.node (x40 P) (.node (gM (tp 54) "at_shut" "at_shut") .nil .nil) .nil) (.node (tO #[.str "state" 725]) .nil .nil)) (.node x5 (.node x4 (.node x119 .nil .nil) .nil) (.node x4 .nil .nil)))
def zjI (P:Params):BT:=(.node x9 (.node x4 (.node (tO #[.str "self" 583,.str "what" 584,.str "one" 585,.str "other" 586]) (.node x5 .nil .nil) .nil) (.node x74 .nil .nil)) (.node (e_A P 496 m0 "NoElder" 58 508 255 510 256) (.node x57 (.node (gM (tp 68) "at_asis" "at_asis") .nil .nil) .nil) (.node x4 .nil .nil)))
def zjJ (P:Params):BT:=(.node x4 (.node (cK "NoSheet" 350 31 138 353) (.node x4 (.node x4 .nil .nil) .nil) (.node (tO #[.str "figures" 708,.str "number" 709]) .nil .nil)) (.node x9 (.node (tO #[.str "place" 617]) (.node (gM (tp 62) "at_stroke" "at_stroke") .nil .nil) .nil) (.node (tO #[.str "opens" 798,.str "events" 799]) .nil .nil)))
def zjK (P:Params):BT:=(.node (gM (tc 6 0) "__init__" "NoPage.__init__") (.node (b_O 170) (.node x3 (.node x4 .nil .nil) .nil) (.node x71 .nil .nil)) (.node (fM (tc 13 0) "__init__" "Ringed.__init__" m0 235) (.node x5 (.node x5 .nil .nil) .nil) (.node x90 .nil .nil)))
def zjL (P:Params):BT:=(.node x4 (.node (e_A P 380 m0 "Twice" 36 392 167 394 168) (.node (pO #[.int 71 0,.int 4 0,.ref 292]) (.node x103 .nil .nil) .nil) (.node x4 .nil .nil)) (.node x33 (.node (gM (tc 19 0) "__init__" "NoValue.__init__") (.node x122 .nil .nil) .nil) (.node (gM (tp 46) "led_on" "led_on") .nil .nil)))
def zjM (P:Params):BT:=(.node x5 (.node x4 (.node (sO 315) (.node (tO #[.str "word" 952,.str "opens" 953,.str "talk" 954,.str "sign" 955]) .nil .nil) .nil) (.node x4 .nil .nil)) (.node x4 (.node (cK "NoRow" 674 97 378 677) .nil .nil) (.node x5 .nil .nil)))
def zjN (P:Params):BT:=(.node x9 (.node (tO #[.str "name" 343]) (.node x37 (.node x4 .nil .nil) .nil) (.node (b_O 384) .nil .nil)) (.node (tO #[.str "self" 429,.str "name" 430]) (.node (pO #[.int 84 0,.int 4 0,.ref 330]) (.node x5 .nil .nil) .nil) (.node x78 .nil .nil)))
def zjO (P:Params):BT:=(.node x3 (.node x5 (.node x4 (.node (gM (tp 56) "at_attr" "at_attr") .nil .nil) .nil) (.node (tO #[.str "sign" 741]) .nil .nil)) (.node x4 (.node (sO 353) (.node x123 .nil .nil) .nil) (.node x4 .nil .nil)))
def zjP (P:Params):BT:=(.node x17 (.node (gM (tc 8 0) "__init__" "NoSheet.__init__") (.node x39 (.node (tO #[.str "word" 892,.str "opens" 893,.str "talk" 894,.str "sign" 895]) .nil .nil) .nil) (.node x4 .nil .nil)) (.node (rM 209 206 m0) (.node x3 (.node x4 .nil .nil) .nil) (.node x5 .nil .nil)))
def zjQ (P:Params):BT:=(.node (sO 113) (.node (cK "TooMany" 400 41 176 403) (.node x4 (.node x110 .nil .nil) .nil) (.node (gM (tp 37) "feed" "feed") .nil .nil)) (.node x9 (.node (tO #[.str "name" 667]) (.node x4 .nil .nil) .nil) (.node x91 .nil .nil)))
def zjR (P:Params):BT:=(.node x5 (.node x4 (.node (cK "Astray" 516 63 264 519) (.node x5 .nil .nil) .nil) (.node x4 .nil .nil)) (.node (sO 201) (.node x50 (.node (tO #[.str "word" 972,.str "opens" 973,.str "talk" 974,.str "sign" 975]) .nil .nil) .nil) (.node x4 .nil .nil)))
def zjS (P:Params):BT:=(.node (tO #[.str "self" 313,.str "at" 314]) (.node x27 (.node (b_O 296) (.node x107 .nil .nil) .nil) (.node x4 .nil .nil)) (.node (gM (tc 13 0) "__init__" "Ringed.__init__") (.node (rM 361 358 m0) (.node x126 .nil .nil) .nil) (.node (gM (tp 48) "mark_ended" "mark_ended") .nil .nil)))
def zjT (P:Params):BT:=(.node (cK "Unended" 284 19 88 287) (.node x9 (.node (e_A P 548 m0 "NoPlace" 69 561 293 564 294) (.node x4 .nil .nil) .nil) (.node x5 .nil .nil)) (.node (tO #[.str "ring" 459]) (.node (tO #[.str "self" 637,.str "name" 638]) (.node (gM (tp 64) "at_qmark" "at_qmark") .nil .nil) .nil) (.node (tO #[.str "opens" 815,.str "sign" 816,.str "events" 817]) .nil .nil)))
def zjU (P:Params):BT:=(.node (rM 121 118 m0) (.node x3 (.node (x48 P) (.node x4 .nil .nil) .nil) (.node x75 .nil .nil)) (.node x5 (.node x4 .nil .nil) (.node x94 .nil .nil)))
def zjV (P:Params):BT:=(.node (pO #[.int 16 0,.int 4 0,.ref 78]) (.node (b_O 132) (.node x3 (.node (gM (tp 52) "at_name" "at_name") .nil .nil) .nil) (.node x4 .nil .nil)) (.node (fM (tc 11 0) "__init__" "Unknown.__init__" m0 197) (.node x5 (.node x115 .nil .nil) .nil) (.node x4 .nil .nil)))
def zjW (P:Params):BT:=(.node (cK "NoPage" 300 21 100 303) (.node (cS "__init__" "Twice.__init__" 385 38 2 161 390) (.node (tO #[.str "name" 562,.str "place" 563]) (.node x5 .nil .nil) .nil) (.node x70 .nil .nil)) (.node x4 (.node (e_A P 654 m0 "NoKind" 92 666 369 668 370) (.node (tO #[.str "word" 1012,.str "opens" 1013,.str "talk" 1014,.str "sign" 1015]) .nil .nil) .nil) (.node x4 .nil .nil)))
def zjX (P:Params):BT:=(.node x3 (.node (x24 P) (.node (sO 277) (.node x102 .nil .nil) .nil) (.node (gM (tp 32) "place_of" "place_of") .nil .nil)) (.node x4 (.node (cK "NoValue" 624 87 340 627) (.node x4 .nil .nil) .nil) (.node x83 .nil .nil)))
def zjY (P:Params):BT:=(.node (e_A P 330 m0 "NoName" 26 342 129 344 130) (.node x29 (.node (gM (tc 17 0) "__init__" "Unlike.__init__") (.node x4 .nil .nil) .nil) (.node x5 .nil .nil)) (.node (pO #[.int 60 0,.int 4 0,.ref 254]) (.node (b_O 372) (.node x130 .nil .nil) .nil) (.node (tO #[.str "word" 852,.str "opens" 853,.str "talk" 854,.str "sign" 855]) .nil .nil)))
def zjZ (P:Params):BT:=(.node x14 (.node x4 (.node (tO #[.str "self" 529,.str "place" 530,.str "at" 531]) (.node x99 .nil .nil) .nil) (.node (gM (tp 28) "sign_told" "sign_told") .nil .nil)) (.node (e_A P 446 m0 "RingOver" 48 458 217 460 218) (.node x53 (.node x118 .nil .nil) .nil) (.node (gM (tp 44) "box_shut" "box_shut") .nil .nil)))
def zj0 (P:Params):BT:=(.node (fM (tc 6 0) "__init__" "NoPage.__init__" m0 109) (.node x3 (.node x4 (.node (tO #[.str "word" 932,.str "opens" 933,.str "talk" 934,.str "sign" 935]) .nil .nil) .nil) (.node x4 .nil .nil)) (.node (x34 P) (.node x4 (.node x4 .nil .nil) .nil) (.node x5 .nil .nil)))
def zj1 (P:Params):BT:=(.node x19 (.node (pO #[.int 38 0,.int 4 0,.ref 166]) (.node (rM 285 282 m0) (.node x4 .nil .nil) .nil) (.node x67 .nil .nil)) (.node (b_O 220) (.node (fM (tc 19 0) "__init__" "NoValue.__init__" m0 349) (.node x5 .nil .nil) .nil) (.node x86 .nil .nil)))
def zj2 (P:Params):BT:=(.node x4 (.node (cK "Unknown" 416 43 188 419) (.node x9 (.node (gM (tp 60) "at_code" "at_code") .nil .nil) .nil) (.node (tO #[.str "mode" 778,.str "opens" 779,.str "sign" 780]) .nil .nil)) (.node (cS "__init__" "NoElder.__init__" 501 60 2 249 506) (.node x4 .nil .nil) (.node x4 .nil .nil)))
def tr0 (P:Params):BT:=(.node (boot_o_0 P) (.node (boot_o_1 P) (.node (x0 P) (.node (boot_o_7 P) (.node x2 (.node x4 (t0_0 P) (t0_1 P)) (.node x9 (t0_2 P) (t0_3 P))) (.node (x6 P) (.node (gM (tc 2 0) "__init__" "NoSign.__init__") (t0_4 P) (t0_5 P)) (.node x5 (t0_6 P) (t0_7 P)))) (.node (o11 P) (.node x5 (.node x4 (t0_8 P) (t0_9 P)) (.node (pO #[.int 11 0,.int 4 0,.ref 59]) (zjb P) (zjc P))) (.node (b_O 24) (.node (x10 P) (zjd P) (zje P)) (.node (cS "__init__" "NoCode.__init__" 244 11 2 54 249) (zjf P) (zjg P))))) (.node (boot_o_5 P) (.node (boot_o_9 P) (.node (dO #[en P "__module__" 196 (.str "sealpress.errors" 187),en P "__qualname__" 198 (.str "SealError" 197),en P "__firstlineno__" 200 (.int 2 199),en P "__static_attributes__" 201 (.ref 22)] 4) (.node (cK "NoSign" 209 4 31 212) (zjh P) (zji P)) (.node (e_A P 239 m0 "NoCode" 9 251 60 253 61) (zjj P) (zjk P))) (.node x8 (.node (fM (tc 2 0) "__init__" "NoSign.__init__" m0 40) (zjl P) (zjm P)) (.node x4 (zjn P) (zjo P)))) (.node (o13 P) (.node (rM 20 17 m0) (.node (tO #[.str "self" 222,.str "at" 223]) (zjp P) (zjq P)) (.node (rM 52 49 m0) (zjr P) (zjs P))) (.node x3 (.node (sO 44) (zjt P) (zju P)) (.node (tO #[.str "at" 252]) (zjv P) (zjw P)))))) (.node (boot_o_2 P) (.node (boot_o_4 P) (.node (boot_o_8 P) (.node x3 (.node (pO #[.int 6 0,.int 4 0,.ref 40]) (zjx P) (zjy P)) (.node x3 (zjz P) (zjA P))) (.node x7 (.node (cS "__init__" "NoSign.__init__" 219 6 2 35 224) (zjB P) (zjC P)) (.node (tO #[.str "self" 247,.str "at" 248]) (zjD P) (zjE P)))) (.node x1 (.node (cK "SealError" 191 2 18 194) (.node x5 (zjF P) (zjG P)) (.node (cK "NoCode" 234 9 50 237) (zjH P) (zjI P))) (.node x9 (.node x11 (zjJ P) (zjK P)) (.node (fM (tc 3 0) "__init__" "NoCode.__init__" m0 59) (zjL P) (zjM P))))) (.node (boot_o_6 P) (.node (boot_o_10 P) (.node x4 (.node (rM 33 30 m0) (zjN P) (zjO P)) (.node x4 (zjP P) (zjQ P))) (.node (sO 24) (.node (tO #[.str "at" 227]) (zjR P) (zjS P)) (.node (gM (tc 3 0) "__init__" "NoCode.__init__") (zjT P) (zjU P)))) (.node (o14 P) (.node x4 (.node x4 (zjV P) (zjW P)) (.node x4 (zjX P) (zjY P))) (.node (e_A P 214 m0 "NoSign" 4 226 41 228 42) (.node (b_O 44) (zjZ P) (zj0 P)) (.node (x12 P) (zj1 P) (zj2 P)))))))
def sC0 (w:World)(os:OsState):SharedT:=⟨tr0 w.params,631,{},#[],{},1035,os⟩
def ck0:List Stmt:=XU.take 69
def ck1:List Stmt:=XU.drop 69
def pjA:=λ(r:Flow×SharedT×Code×Pos)=>(λx=>x.1) (J3 r)
def Yq (w:World)(os:OsState):=(segRunT treeTable pw w 11 ann0 1 2310 (sC0 w os) (piecesOf ck1 env0 cE (⟨280,0,289,60⟩:Pos) B0)).map pjA
def Yr (_:World)(_:OsState):=some ((λx=>x.1) (openGood qvw loose0))
theorem zfM:@Yq = @Yq:=rfl
theorem zfN:@Yr = @Yr:=rfl
name_quick lhsGAQ for My.Yq by My.zfM
name_quick rhsGAQ for My.Yr by My.zfN
theorem zj3 (w:World):PySem.W.Fast.lhsGAQ (w.withFollow "special-get-raises" false)=PySem.W.Fast.rhsGAQ (w.withFollow "special-get-raises" false):=by kernel_rfl
theorem zj4 (w:World):PySem.W.Fast.lhsGAQ (w.withFollow "special-get-raises" true)=PySem.W.Fast.rhsGAQ (w.withFollow "special-get-raises" true):=by kernel_rfl
theorem krGA (w:World):PySem.W.Fast.lhsGAQ w=PySem.W.Fast.rhsGAQ w:=byRow2 "special-get-raises" (P:=λw=>PySem.W.Fast.lhsGAQ w=PySem.W.Fast.rhsGAQ w) zj3 zj4 w
theorem zcO (w:World):Yq w=Yr w:=(congrFun PySem.W.Fast.lhsGAQ_eq w).trans ((krGA w).trans (congrFun PySem.W.Fast.rhsGAQ_eq w).symm)
def pjB:=λ(r:Flow×SharedT×Code×Pos)=>(λx=>x.2.1) (J3 r)
def Ys (w:World)(os:OsState):=(segRunT treeTable pw w 11 ann0 1 2310 (sC0 w os) (piecesOf ck1 env0 cE (⟨280,0,289,60⟩:Pos) B0)).map pjB
def Yt (_:World)(_:OsState):=some ((λx=>x.2.1) (openGood qvw loose0))
theorem zfO:@Ys = @Ys:=rfl
theorem zfP:@Yt = @Yt:=rfl
name_quick lhsGBQ for My.Ys by My.zfO
name_quick rhsGBQ for My.Yt by My.zfP
theorem zj5 (w:World):PySem.W.Fast.lhsGBQ (w.withFollow "special-get-raises" false)=PySem.W.Fast.rhsGBQ (w.withFollow "special-get-raises" false):=by kernel_rfl
theorem zj6 (w:World):PySem.W.Fast.lhsGBQ (w.withFollow "special-get-raises" true)=PySem.W.Fast.rhsGBQ (w.withFollow "special-get-raises" true):=by kernel_rfl
theorem krGB (w:World):PySem.W.Fast.lhsGBQ w=PySem.W.Fast.rhsGBQ w:=byRow2 "special-get-raises" (P:=λw=>PySem.W.Fast.lhsGBQ w=PySem.W.Fast.rhsGBQ w) zj5 zj6 w
theorem zcP (w:World):Ys w=Yt w:=(congrFun PySem.W.Fast.lhsGBQ_eq w).trans ((krGB w).trans (congrFun PySem.W.Fast.rhsGBQ_eq w).symm)
def pjC:=λ(r:Flow×SharedT×Code×Pos)=>(λx=>x.2.2.1) (J3 r)
def Yu (w:World)(os:OsState):=(segRunT treeTable pw w 11 ann0 1 2310 (sC0 w os) (piecesOf ck1 env0 cE (⟨280,0,289,60⟩:Pos) B0)).map pjC
def Yv (_:World)(_:OsState):=some ((λx=>x.2.2.1) (openGood qvw loose0))
theorem zfQ:@Yu = @Yu:=rfl
theorem zfR:@Yv = @Yv:=rfl
name_quick lhsGCQ for My.Yu by My.zfQ
name_quick rhsGCQ for My.Yv by My.zfR
theorem zj7 (w:World):PySem.W.Fast.lhsGCQ (w.withFollow "special-get-raises" false)=PySem.W.Fast.rhsGCQ (w.withFollow "special-get-raises" false):=by kernel_rfl
theorem zj8 (w:World):PySem.W.Fast.lhsGCQ (w.withFollow "special-get-raises" true)=PySem.W.Fast.rhsGCQ (w.withFollow "special-get-raises" true):=by kernel_rfl
theorem krGC (w:World):PySem.W.Fast.lhsGCQ w=PySem.W.Fast.rhsGCQ w:=byRow2 "special-get-raises" (P:=λw=>PySem.W.Fast.lhsGCQ w=PySem.W.Fast.rhsGCQ w) zj7 zj8 w
theorem zcQ (w:World):Yu w=Yv w:=(congrFun PySem.W.Fast.lhsGCQ_eq w).trans ((krGC w).trans (congrFun PySem.W.Fast.rhsGCQ_eq w).symm)
def pjD:=λ(r:Flow×SharedT×Code×Pos)=>(λx=>x.2.2.2.1) (J3 r)
def Yw (w:World)(os:OsState):=(segRunT treeTable pw w 11 ann0 1 2310 (sC0 w os) (piecesOf ck1 env0 cE (⟨280,0,289,60⟩:Pos) B0)).map pjD
def Yx (_:World)(_:OsState):=some ((λx=>x.2.2.2.1) (openGood qvw loose0))
theorem zfS:@Yw = @Yw:=rfl
theorem zfT:@Yx = @Yx:=rfl
name_quick lhsGDQ for My.Yw by My.zfS
name_quick rhsGDQ for My.Yx by My.zfT
theorem zj9 (w:World):PySem.W.Fast.lhsGDQ (w.withFollow "special-get-raises" false)=PySem.W.Fast.rhsGDQ (w.withFollow "special-get-raises" false):=by kernel_rfl
theorem zka (w:World):PySem.W.Fast.lhsGDQ (w.withFollow "special-get-raises" true)=PySem.W.Fast.rhsGDQ (w.withFollow "special-get-raises" true):=by kernel_rfl
theorem krGD (w:World):PySem.W.Fast.lhsGDQ w=PySem.W.Fast.rhsGDQ w:=byRow2 "special-get-raises" (P:=λw=>PySem.W.Fast.lhsGDQ w=PySem.W.Fast.rhsGDQ w) zj9 zka w
theorem zcR (w:World):Yw w=Yx w:=(congrFun PySem.W.Fast.lhsGDQ_eq w).trans ((krGD w).trans (congrFun PySem.W.Fast.rhsGDQ_eq w).symm)
def pjE:=λ(r:Flow×SharedT×Code×Pos)=>(λx=>x.2.2.2.2.1) (J3 r)
def Yy (w:World)(os:OsState):=(segRunT treeTable pw w 11 ann0 1 2310 (sC0 w os) (piecesOf ck1 env0 cE (⟨280,0,289,60⟩:Pos) B0)).map pjE
def Yz (_:World)(_:OsState):=some ((λx=>x.2.2.2.2.1) (openGood qvw loose0))
theorem zfU:@Yy = @Yy:=rfl
theorem zfV:@Yz = @Yz:=rfl
name_quick lhsGEQ for My.Yy by My.zfU
name_quick rhsGEQ for My.Yz by My.zfV
theorem zkb (w:World):PySem.W.Fast.lhsGEQ (w.withFollow "special-get-raises" false)=PySem.W.Fast.rhsGEQ (w.withFollow "special-get-raises" false):=by kernel_rfl
theorem zkc (w:World):PySem.W.Fast.lhsGEQ (w.withFollow "special-get-raises" true)=PySem.W.Fast.rhsGEQ (w.withFollow "special-get-raises" true):=by kernel_rfl
theorem krGE (w:World):PySem.W.Fast.lhsGEQ w=PySem.W.Fast.rhsGEQ w:=byRow2 "special-get-raises" (P:=λw=>PySem.W.Fast.lhsGEQ w=PySem.W.Fast.rhsGEQ w) zkb zkc w
theorem zcS (w:World):Yy w=Yz w:=(congrFun PySem.W.Fast.lhsGEQ_eq w).trans ((krGE w).trans (congrFun PySem.W.Fast.rhsGEQ_eq w).symm)
def pjF:=λ(r:Flow×SharedT×Code×Pos)=>(λx=>x.2.2.2.2.2.1) (J3 r)
def YA (w:World)(os:OsState):=(segRunT treeTable pw w 11 ann0 1 2310 (sC0 w os) (piecesOf ck1 env0 cE (⟨280,0,289,60⟩:Pos) B0)).map pjF
def YB (_:World)(_:OsState):=some ((λx=>x.2.2.2.2.2.1) (openGood qvw loose0))
theorem zfW:@YA = @YA:=rfl
theorem zfX:@YB = @YB:=rfl
name_quick lhsGFQ for My.YA by My.zfW
name_quick rhsGFQ for My.YB by My.zfX
theorem zkd (w:World):PySem.W.Fast.lhsGFQ (w.withFollow "special-get-raises" false)=PySem.W.Fast.rhsGFQ (w.withFollow "special-get-raises" false):=by kernel_rfl
theorem zke (w:World):PySem.W.Fast.lhsGFQ (w.withFollow "special-get-raises" true)=PySem.W.Fast.rhsGFQ (w.withFollow "special-get-raises" true):=by kernel_rfl
theorem krGF (w:World):PySem.W.Fast.lhsGFQ w=PySem.W.Fast.rhsGFQ w:=byRow2 "special-get-raises" (P:=λw=>PySem.W.Fast.lhsGFQ w=PySem.W.Fast.rhsGFQ w) zkd zke w
theorem zcT (w:World):YA w=YB w:=(congrFun PySem.W.Fast.lhsGFQ_eq w).trans ((krGF w).trans (congrFun PySem.W.Fast.rhsGFQ_eq w).symm)
def pjG:=λ(r:Flow×SharedT×Code×Pos)=>(λx=>x.2.2.2.2.2.2.1) (J3 r)
def YC (w:World)(os:OsState):=(segRunT treeTable pw w 11 ann0 1 2310 (sC0 w os) (piecesOf ck1 env0 cE (⟨280,0,289,60⟩:Pos) B0)).map pjG
def YD (_:World)(_:OsState):=some ((λx=>x.2.2.2.2.2.2.1) (openGood qvw loose0))
theorem zfY:@YC = @YC:=rfl
theorem zfZ:@YD = @YD:=rfl
name_quick lhsGGQ for My.YC by My.zfY
name_quick rhsGGQ for My.YD by My.zfZ
theorem zkf (w:World):PySem.W.Fast.lhsGGQ (w.withFollow "special-get-raises" false)=PySem.W.Fast.rhsGGQ (w.withFollow "special-get-raises" false):=by kernel_rfl
theorem zkg (w:World):PySem.W.Fast.lhsGGQ (w.withFollow "special-get-raises" true)=PySem.W.Fast.rhsGGQ (w.withFollow "special-get-raises" true):=by kernel_rfl
theorem krGG (w:World):PySem.W.Fast.lhsGGQ w=PySem.W.Fast.rhsGGQ w:=byRow2 "special-get-raises" (P:=λw=>PySem.W.Fast.lhsGGQ w=PySem.W.Fast.rhsGGQ w) zkf zkg w
theorem zcU (w:World):YC w=YD w:=(congrFun PySem.W.Fast.lhsGGQ_eq w).trans ((krGG w).trans (congrFun PySem.W.Fast.rhsGGQ_eq w).symm)
def pjH:=λ(r:Flow×SharedT×Code×Pos)=>(λx=>x.2.2.2.2.2.2.2) (J3 r)
def YE (w:World)(os:OsState):=(segRunT treeTable pw w 11 ann0 1 2310 (sC0 w os) (piecesOf ck1 env0 cE (⟨280,0,289,60⟩:Pos) B0)).map pjH
def YF (_:World)(_:OsState):=some ((λx=>x.2.2.2.2.2.2.2) (openGood qvw loose0))
theorem zf0:@YE = @YE:=rfl
theorem zf1:@YF = @YF:=rfl
name_quick lhsGHQ for My.YE by My.zf0
name_quick rhsGHQ for My.YF by My.zf1
theorem zkh (w:World):PySem.W.Fast.lhsGHQ (w.withFollow "special-get-raises" false)=PySem.W.Fast.rhsGHQ (w.withFollow "special-get-raises" false):=by kernel_rfl
theorem zki (w:World):PySem.W.Fast.lhsGHQ (w.withFollow "special-get-raises" true)=PySem.W.Fast.rhsGHQ (w.withFollow "special-get-raises" true):=by kernel_rfl
theorem krGH (w:World):PySem.W.Fast.lhsGHQ w=PySem.W.Fast.rhsGHQ w:=byRow2 "special-get-raises" (P:=λw=>PySem.W.Fast.lhsGHQ w=PySem.W.Fast.rhsGHQ w) zkh zki w
theorem zcV (w:World):YE w=YF w:=(congrFun PySem.W.Fast.lhsGHQ_eq w).trans ((krGH w).trans (congrFun PySem.W.Fast.rhsGHQ_eq w).symm)
def zbF (w:World)(os:OsState):=segRunT treeTable pw w 11 ann0 1 6210 (sB w os) (piecesOf ck0 env0 cE pos0 B0)
def zbG (w:World)(os:OsState):Option (Flow×SharedT×Code×Pos):=some (Flow.next,sC0 w os,cE,(⟨280,0,289,60⟩:Pos))
theorem zf2:@zbF = @zbF:=rfl
theorem zf3:@zbG = @zbG:=rfl
name_quick lhsC0Q for My.zbF by My.zf2
name_quick rhsC0Q for My.zbG by My.zf3
theorem zkj (w:World):PySem.W.Fast.lhsC0Q (w.withFollow "special-get-raises" false)=PySem.W.Fast.rhsC0Q (w.withFollow "special-get-raises" false):=by kernel_rfl
theorem zkk (w:World):PySem.W.Fast.lhsC0Q (w.withFollow "special-get-raises" true)=PySem.W.Fast.rhsC0Q (w.withFollow "special-get-raises" true):=by kernel_rfl
theorem krC0 (w:World):PySem.W.Fast.lhsC0Q w=PySem.W.Fast.rhsC0Q w:=byRow2 "special-get-raises" (P:=λw=>PySem.W.Fast.lhsC0Q w=PySem.W.Fast.rhsC0Q w) zkj zkk w
theorem zcW (w:World):zbF w=zbG w:=(congrFun PySem.W.Fast.lhsC0Q_eq w).trans ((krC0 w).trans (congrFun PySem.W.Fast.rhsC0Q_eq w).symm)
def lhs (w:World)(os:OsState):=(segRunT treeTable pw w 11 ann0 1 2310 (sC0 w os) (piecesOf ck1 env0 cE (⟨280,0,289,60⟩:Pos) B0)).map (zhC w)
def rhs (w:World)(_:OsState):=some (Flow.next,cE,true,val0 w)
theorem zkl:@lhs = @lhs:=rfl
theorem zkm:@rhs = @rhs:=rfl
name_quick lhsQ for My.lhs by My.zkl
name_quick rhsQ for My.rhs by My.zkm
theorem krf (w:World):PySem.W.Fast.lhsQ (w.withFollow "special-get-raises" false)=PySem.W.Fast.rhsQ (w.withFollow "special-get-raises" false):=by kernel_rfl
theorem krt (w:World):PySem.W.Fast.lhsQ (w.withFollow "special-get-raises" true)=PySem.W.Fast.rhsQ (w.withFollow "special-get-raises" true):=by kernel_rfl
theorem kr (w:World):PySem.W.Fast.lhsQ w=PySem.W.Fast.rhsQ w:=byRow2 "special-get-raises" (P:=λw=>PySem.W.Fast.lhsQ w=PySem.W.Fast.rhsQ w) krf krt w
theorem zf4 (w:World):lhs w=rhs w:=(congrFun PySem.W.Fast.lhsQ_eq w).trans ((kr w).trans (congrFun PySem.W.Fast.rhsQ_eq w).symm)
def lhs1 (w:World)(os:OsState):=topGo treeTable pw w 11 ann0 12 ⟨boot_heap w.params,#[],boot_drawn,boot_toks,os⟩ (topStub pw)
def rhs1 (w:World)(os:OsState):Option (Shared×Thread):=some ((sB w os).abs,⟨denote treeTable cE,cE,pos0,B0⟩)
theorem zhN:@lhs1 = @lhs1:=rfl
theorem zhO:@rhs1 = @rhs1:=rfl
name_quick lhs1Q for My.lhs1 by My.zhN
name_quick rhs1Q for My.rhs1 by My.zhO
theorem kr1 (w:World):PySem.W.Fast.lhs1Q w=PySem.W.Fast.rhs1Q w:=by kernel_rfl
theorem zkn (w:World):lhs1 w=rhs1 w:=(congrFun PySem.W.Fast.lhs1Q_eq w).trans ((kr1 w).trans (congrFun PySem.W.Fast.rhs1Q_eq w).symm)
def lhs2 (w:World)(os:OsState):=segRun treeTable pw w 11 ann0 1 1 (sB w os).abs (blockOf XU env0 cE pos0 B0)
def rhs2 (w:World)(os:OsState):Option (Flow×Shared×Code×Pos):=some (.next,(sB w os).abs,cE,pos0)
theorem zhP:@lhs2 = @lhs2:=rfl
theorem zhQ:@rhs2 = @rhs2:=rfl
name_quick lhs2Q for My.lhs2 by My.zhP
name_quick rhs2Q for My.rhs2 by My.zhQ
theorem kr2 (w:World):PySem.W.Fast.lhs2Q w=PySem.W.Fast.rhs2Q w:=by kernel_rfl
theorem zko (w:World):lhs2 w=rhs2 w:=(congrFun PySem.W.Fast.lhs2Q_eq w).trans ((kr2 w).trans (congrFun PySem.W.Fast.rhs2Q_eq w).symm)
noncomputable def lhs3 (w:World):Bool×Nat×Option Value:=((boot_heap w.params).isNs mainGlobals&&(#[]:Array GenState).size == 0,(boot_heap w.params).objs.size,(boot_heap w.params).nsMap mainGlobals "__annotations__")
theorem zhR:@lhs3 = @lhs3:=rfl
name_quick lhs3Q for My.lhs3 by My.zhR
theorem kr3 (w:World):PySem.W.Fast.lhs3Q w=(true,11,ann0):=by kernel_rfl
theorem zkp (w:World):lhs3 w=(true,11,ann0):=(congrFun PySem.W.Fast.lhs3Q_eq w).trans (kr3 w)
theorem fin0 (w:World)(s:Shared)(q:Pos):topRun treeTable pw w 11 ann0 2 s (restOf [] env0 cE q B0)=some s:=rfl
theorem zf5:XU=ck0++(ck1++[]):=by rw [uw];unfold ck0 ck1;exact(Ul _ _).symm
theorem zf6 (w:World)(os:OsState):∃ s:Shared,topRun treeTable pw w 11 ann0 (12+(1+(6210+(2310+2)))) ⟨boot_heap w.params,#[],boot_drawn,boot_toks,os⟩ (topStub pw)=some s /\ (staticsOk mods (boot_heap w.params) s.heap&&namesBound pw s.heap&&gensDone s&&laidKept (boot_heap w.params) s.heap)=true/\openSeen qvw loose0 mods Xt0 true s=openGood qvw loose0/\obs0 s=val0 w:=by
 obtain⟨⟨f,s,c,q⟩,hr,hF⟩:=u9.mp (congrFun (zf4 w) os);unfold zhC at hF;simp only [Uj] at hF;obtain⟨rfl,rfl,h1,h3⟩:=hF;have h2:openSeen qvw loose0 mods Xt0 true s.abs=openGood qvw loose0:=by have hA:=congrFun (zcO w) os;unfold Yq Yr at hA;rw [hr,uU] at hA;have hA:=uF hA;have hB:=congrFun (zcP w) os;unfold Ys Yt at hB;rw [hr,uU] at hB;have hB:=uF hB;have hC:=congrFun (zcQ w) os;unfold Yu Yv at hC;rw [hr,uU] at hC;have hC:=uF hC;have hD:=congrFun (zcR w) os;unfold Yw Yx at hD;rw [hr,uU] at hD;have hD:=uF hD;have hE:=congrFun (zcS w) os;unfold Yy Yz at hE;rw [hr,uU] at hE;have hE:=uF hE;have hF:=congrFun (zcT w) os;unfold YA YB at hF;rw [hr,uU] at hF;have hF:=uF hF;have hG:=congrFun (zcU w) os;unfold YC YD at hG;rw [hr,uU] at hG;have hG:=uF hG;have hH:=congrFun (zcV w) os;unfold YE YF at hH;rw [hr,uU] at hH;have hH:=uF hH;exact gw hA (gw hB (gw hC (gw hD (gw hE (gw hF (gw hG hH))))))
 refine⟨s.abs,?_,h1,h2,h3⟩;refine go_top (congrFun (zkn w) os) (piece_block (congrFun (zko w) os) ?_);rw [show restOf XU env0 cE pos0 [topFrame pos0]=restOf (ck0++(ck1++[])) env0 cE pos0 [topFrame pos0] from congrArg (λx=>restOf x env0 cE pos0 [topFrame pos0]) zf5];exact(piece_app (segRun_of (congrFun (zcW w) os)) (piece_app (segRun_of hr) (fin0 w s.abs q)))
theorem zkq (w:World):(fencedOpening treeTable pw w 8635).map (λs=>(s.heap,s.gens,s.drawn,s.toks))=some (boot_heap w.params,Array.mk [],boot_drawn,boot_toks):=boot_open (p:=pw) (N:=8635) (by kernel_rfl) (by kernel_rfl) (λ_=>rfl) w
theorem left:LeftO pw qvw loose0 Xt0 HK.obs HK.val 8635:=L2.left_run (M:=12+(1+(6210+(2310+2)))) (m0:=11) (ann:=ann0) zkq zkp zf6 (by decide)
end My
set_option maxHeartbeats 1000000
namespace L2
open PySem PySem.Spec PyProof.Rows
noncomputable abbrev Key:=Sum Int Str
noncomputable def WA:Key->Value->Bool
 | .inl k,v=>Value.isInt k v
 | .inr x,v=>Value.isStrOf x v
noncomputable def keyH (w:World):Key->Int
 | .inl k=>hashInt k
 | .inr x=>hashStr w x
theorem ji:∀ {k:Key} {v:Value},WA k v=true->(∃ i t,k=Sum.inl i/\v=Value.int i t)\/(∃ x t,k=Sum.inr x/\v=Value.str x t)
 | .inl i,v,h=>by obtain⟨t,e⟩:=Value.isInt_shape (k:=i) (v:=v) h;exact .inl ⟨i,t,rfl,e⟩
 | .inr x,v,h=>by obtain⟨t,e⟩:=Value.isStrOf_shape (x:=x) (v:=v) h;exact .inr ⟨x,t,rfl,e⟩
theorem zcX (i:Int)(t:Tok):WA (.inl i) (.int i t)=true:=by simp [WA,Value.isInt]
theorem zcY (x:Str)(t:Tok):WA (.inr x) (.str x t)=true:=by simp [WA,Value.isStrOf]
theorem zhS (a b:Int):decide ((Sum.inl a:Key)=Sum.inl b)=(a == b):=by
 by_cases e:a=b
 ·subst e;simp
 ·have h:¬ (Sum.inl a:Key)=Sum.inl b:=λq=>e (Sum.inl.inj q);rw [uC h];exact(uM.mpr e).symm
theorem zhT (a b:Str):decide ((Sum.inr a:Key)=Sum.inr b)=decide (a=b):=by
 by_cases e:a=b
 ·subst e;simp
 ·have h:¬ (Sum.inr a:Key)=Sum.inr b:=λq=>e (Sum.inr.inj q);rw [uC h,uC e]
theorem zhU (a:Int)(b:Str):decide ((Sum.inl a:Key)=Sum.inr b)=false:=uC (λq=>nomatch q)
theorem zhV (a:Str)(b:Int):decide ((Sum.inr a:Key)=Sum.inl b)=false:=uC (λq=>nomatch q)
noncomputable def zI (prog:Program)(w:World):PySem.KeyKind prog w Key where
 is:=WA
 hash:=keyH w
 inj:=λv a b ha hb=>by
  rcases ji ha with⟨i,t,rfl,rfl⟩ | ⟨x,t,rfl,rfl⟩
  ·rcases ji hb with⟨j,u,rfl,e⟩ | ⟨y,u,rfl,e⟩
   ·injection e with e1 _;rw [e1]
   ·exact nomatch e
  ·rcases ji hb with⟨j,u,rfl,e⟩ | ⟨y,u,rfl,e⟩
   ·exact nomatch e
   ·injection e with e1 _;rw [e1]
 byValue:=λk v h=>by
  rcases ji h with⟨i,t,rfl,rfl⟩ | ⟨x,t,rfl,rfl⟩<;>rfl
 pyHash:=λhv h=>by
  rcases ji hv with⟨i,t,rfl,rfl⟩ | ⟨x,t,rfl,rfl⟩
  ·exact wpAny_pyHash_int h
  ·exact wpAny_pyHash_str h
 eqBool:=λhu hv h=>by
  rcases ji hu with⟨i,t,rfl,rfl⟩ | ⟨x,t,rfl,rfl⟩
  ·rcases ji hv with⟨j,u,rfl,rfl⟩ | ⟨y,u,rfl,rfl⟩
   ·rw [zhS] at h;exact wpAny_eqBool_int h
   ·rw [zhU] at h;exact SeqAt.EqAt.int_str i t y u _ _ _ _ h
  ·rcases ji hv with⟨j,u,rfl,rfl⟩ | ⟨y,u,rfl,rfl⟩
   ·rw [zhV] at h;exact SeqAt.EqAt.str_int x t j u _ _ _ _ h
   ·rw [zhT] at h;exact wpAny_eqBool_str h
 «strs»:=λk x t v h=>by
  rcases ji h with⟨i,u,rfl,e⟩ | ⟨y,u,rfl,e⟩
  ·exact nomatch e
  ·injection e with e1 _
   subst e1
   cases v<;>rfl
theorem YG (prog:Program)(w:World)(i:Int)(t:Tok):(zI prog w).is (.inl i) (.int i t)=true:=zcX i t
theorem YH (prog:Program)(w:World)(x:Str)(t:Tok):(zI prog w).is (.inr x) (.str x t)=true:=zcY x t
inductive V where
 | non | bl (b:Bool) | int (i:Int) | str (x:Str) | byt (b:Array UInt8) | flt (b:UInt64) | ref (a:Addr) | ty (n:String)
 deriving DecidableEq
noncomputable def RelV:V->Value->Prop
 | .non,u=>u=Value.none
 | .bl b,u=>u=Value.bool b
 | .int i,u=>∃ t,u=Value.int i t
 | .str x,u=>∃ t,u=Value.str x t
 | .byt b,u=>∃ t,u=Value.bytes b t
 | .flt b,u=>∃ t,u=Value.float b t
 | .ref a,u=>u=Value.ref a
 | .ty n,u=>u=Value.type n
noncomputable abbrev Vals:List V->Lf->Prop:=Paired RelV
theorem Vals.length {xs:List V}{us:Lf}(r:Vals xs us):xs.length=us.length:=Paired.length r
theorem Vals.get:∀ {xs:List V} {us:Lf} {i:Nat} {x:V},Vals xs us->xs[i]? = some x->∃ u,us[i]? = some u/\RelV x u
 | _,_,_,_,.nil,e=>by simp at e
 | _,_,0,_,.cons r _,e=>by simp at e;subst e;exact⟨_,rfl,r⟩
 | _,_,i+1,x,.cons _ t,e=>by obtain⟨u,h1,h2⟩:=Vals.get (i:=i) (x:=x) t (by simpa using e);exact⟨u,by simpa using h1,h2⟩
theorem Vals.set (r:RelV x u):∀ {xs:List V} {us:Lf} (i:Nat),Vals xs us->Vals (xs.set i x) (us.set i u)
 | _,_,_,.nil=>.nil
 | _,_,0,.cons _ t=>.cons r t
 | _,_,i+1,.cons q t=>.cons q (Vals.set r i t)
theorem Vals.append:∀ {xs ys:List V} {us ws:Lf},Vals xs us->Vals ys ws->Vals (xs++ys) (us++ws)
 | _,_,_,_,.nil,s=>s
 | _,_,_,_,.cons r t,s=>.cons r (Vals.append t s)
theorem Vals.take:∀ {xs:List V} {us:Lf} (n:Nat),Vals xs us->Vals (xs.take n) (us.take n)
 | _,_,0,_=>.nil
 | _,_,_+1,.nil=>.nil
 | _,_,n+1,.cons r t=>.cons r (Vals.take n t)
theorem Vals.drop:∀ {xs:List V} {us:Lf} (n:Nat),Vals xs us->Vals (xs.drop n) (us.drop n)
 | _,_,0,r=>r
 | _,_,_+1,.nil=>.nil
 | _,_,n+1,.cons _ t=>Vals.drop n t
theorem Vals.none_of:∀ {xs:List V} {us:Lf} {i:Nat},Vals xs us->xs[i]? = none->us[i]? = none:=λ{xs us i} r e=>by have h1:=r.length;have h2:xs.length<=i:=UA.mp e;exact UA.mpr (by lia)
noncomputable def RelO:Option V->Option Value->Prop
 | some v,some u=>RelV v u
 | none,none=>True
 | _,_=>False
noncomputable def KV {κ:Type}:List (κ×V)->List (κ×Value)->Prop:=Paired λ(p:κ×V) (q:κ×Value)=>p.1=q.1/\RelV p.2 q.2
noncomputable def kV:Key->V
 | .inl i=>.int i
 | .inr x=>.str x
inductive HO where
 | lst (xs:List V)
 | tup (xs:List V)
 | dK (kvs:List (Key×V)) | dT (kvs:List (List Key×V))
 | set (S:Int->Bool) (n:Nat)
 | ins (C dx:Addr) (fs:List (Str×V))
 | own (x:Addr)
 | xd (fs:List (Str×V))
 | met (f x:Addr)
 | rng (lo hi:Int)
 | frz (o:Obj) (u:HO)
 | tbl (ps:Array Value)
 | ext (φ:Heap->Prop)
noncomputable abbrev Hp:=Addr->Option HO
noncomputable def upd (H:Hp)(a:Addr)(o:HO):Hp:=λb=>if b=a then some o else H b
theorem zb:upd H a o a=some o:=by unfold upd;rw [ud rfl]
theorem zl (h:b≠a):upd H a o b=H b:=by unfold upd;rw [ub h]
theorem QK:upd (upd H a o) a u=upd H a u:=by funext b;unfold upd;split<;>rfl
theorem zbH {H:Hp}{a b:Addr}{o u:HO}(h:H a=some o)(h':H b=some u)(d:o≠u):a≠b:=by intro e;subst e;rw [h] at h';exact d (uF h')
theorem zM {H:Hp}{a b:Addr}{o:HO}(h:H a=some o)(h':H b=none):a≠b:=by intro e;subst e;rw [h] at h';cases h'
section
variable (P:Program) (w:World)
noncomputable def jj (H:Hp)(h:Heap)(a:Addr):HO->Prop
 | .lst xs=>xs.length<=sizeLine/\∃ (its:Lf) (n:Nat),Vals xs its/\h.get? a=some { cls:=.type "list",data:=.seq its.toArray n }
 | .tup xs=>xs.length<=sizeLine/\∃ its:Lf,Vals xs its/\IsTup h a its.toArray
 | .dK kvs=>kvs.length<=sizeLine/\(a == sysModules)=false/\∃ vs,KV kvs vs/\h.DictOf (zI P w) a vs
 | .dT kvs=>kvs.length<=sizeLine/\(a == sysModules)=false/\∃ xs:List (List Key×Addr×Value),
   Paired (λ(p:List Key×V) (q:List Key×Addr×Value)=>p.1=q.1/\H q.2.1=some (.tup (p.1.map kV))/\RelV p.2 q.2.2) kvs xs /\
   ∃ o es ep,h.get? a=some o/\o.ExactDict/\o.data=.dict es ep/\es.toList=xs.map (entryOfKey (tupleKind (zI P w)))/\(xs.map (·.1)).Nodup
 | .set S n=>h.SetOf (intKind P w) a S n
 | .ins C dx fs=>H dx=some (.own a)/\fs.length<=1000/\dx≠a/\h.get? a=some (PySem.W.instObj C dx) /\
   ∃ mA,h.Ns1 dx mA/\(∀ f,RelO (fs.lookup f) (mA f))/\PySem.Within mA (fs.map (·.1))
 | .own _=>∃ o,h.get? a=some o
 | .xd fs=>∃ mA,h.Ns1 a mA/\∀ f,RelO (fs.lookup f) (mA f)
 | .rng lo hi=>∃ t u v,h.get? a=some { cls:=.type "range",data:=.fields #[.int lo t,.int hi u,.int 1 v] }
 | .frz o u=>h.get? a=some o/\jj H h a u
 | .tbl ps=>h.get? a=some { cls:=.none,data:=.fields ps }
 | .met f x=>h.get? a=some (PySem.W.methodObj (.ref f) (.ref x))
 | .ext φ=>φ h/\(∃ o,h.get? a=some o)/\∀ h1 h2:Heap,φ h1->(∀ o,h1.get? a=some o->h2.get? a=some o)->φ h2
def HOk (H:Hp)(h:Heap):Prop:=∀ a o,H a=some o->jj P w H h a o
end
section
variable {P:Program} {w:World} {H H':Hp} {h h':Heap} {a:Addr} {o:HO}
theorem jj.lt (x:jj P w H h a o):a<h.objs.size:=by
 cases o with
 | lst xs=>obtain⟨_,_,_,_,e⟩:=x;exact uf e
 | tup xs=>obtain⟨_,_,_,p⟩:=x;exact p.lt
 | dK kvs=>obtain⟨_,_,_,_,o,_,_,e,_⟩:=x;exact uf e
 | dT kvs=>obtain⟨_,_,_,_,o,_,_,e,_⟩:=x;exact uf e
 | set S n=>obtain⟨o,_,_,_,e,_⟩:=x;exact uf e
 | ins C dx fs=>obtain⟨_,_,_,e,_⟩:=x;exact uf e
 | own y=>obtain⟨_,e⟩:=x;exact uf e
 | xd fs=>obtain⟨_,⟨_,_,_,e,_⟩,_⟩:=x;exact uf e
 | rng lo hi=>obtain⟨_,_,_,e⟩:=x;exact uf e
 | frz ob u=>obtain⟨e,_⟩:=x;exact uf e
 | tbl ps=>exact uf (show h.get? a=some _ from x)
 | met f y=>exact uf (show h.get? a=some _ from x)
 | ext φ=>obtain⟨_,⟨_,e⟩,_⟩:=x;exact uf e
theorem Paired.mapP {α β:Type}{F G:α->β->Prop}:∀ {l₁:List α} {l₂:List β},Paired F l₁ l₂->(∀ a b,F a b->G a b)->Paired G l₁ l₂
 | _,_,.nil,_=>.nil
 | _,_,.cons r t,f=>.cons (f _ _ r) (Paired.mapP t f)
theorem jj.stay (x:jj P w H h a o)(k:∀ b u,(b=a\/H b=some (.own a))->h.get? b=some u->h'.get? b=some u) (ho:∀ b,H b=some (.own a)->H' b=some (.own a)) (ht:∀ b xs,H b=some (.tup xs)->H' b=some (.tup xs)):jj P w H' h' a o:=by
 induction o with
 | lst xs=>obtain⟨z,its,n,r,e⟩:=x;exact⟨z,its,n,r,k _ _ (.inl rfl) e⟩
 | tup xs=>obtain⟨z,its,r,ob,e,c⟩:=x;exact⟨z,its,r,ob,k _ _ (.inl rfl) e,c⟩
 | dK kvs=>obtain⟨z,y,vs,r,ob,es,ep,e,c⟩:=x;exact⟨z,y,vs,r,ob,es,ep,k _ _ (.inl rfl) e,c⟩
 | dT kvs=>obtain⟨z,y,xs,r,ob,es,ep,e,c⟩:=x;exact⟨z,y,xs,Paired.mapP r λp q z=>⟨z.1,ht _ _ z.2.1,z.2.2⟩,ob,es,ep,k _ _ (.inl rfl) e,c⟩
 | set S n=>obtain⟨ob,es,ep,t,e,c⟩:=x;exact⟨ob,es,ep,t,k _ _ (.inl rfl) e,c⟩
 | ins C dx fs=>obtain⟨d,z,ne,e,mA,⟨od,es,ep,e2,c⟩,r⟩:=x;exact⟨ho _ d,z,ne,k _ _ (.inl rfl) e,mA,⟨od,es,ep,k _ _ (.inr d) e2,c⟩,r⟩
 | own y=>obtain⟨ob,e⟩:=x;exact⟨ob,k _ _ (.inl rfl) e⟩
 | xd fs=>obtain⟨mA,⟨od,es,ep,e,c⟩,r⟩:=x;exact⟨mA,⟨od,es,ep,k _ _ (.inl rfl) e,c⟩,r⟩
 | rng lo hi=>obtain⟨t,u,v,e⟩:=x;exact⟨t,u,v,k _ _ (.inl rfl) e⟩
 | frz ob u ih=>obtain⟨e,q⟩:=x;exact⟨k _ _ (.inl rfl) e,ih q⟩
 | tbl ps=>have e:h.get? a=some { cls:=.none,data:=.fields ps }:=x;show h'.get? a=some { cls:=.none,data:=.fields ps };exact k a _ (.inl rfl) e
 | met f y=>have e:h.get? a=some (PySem.W.methodObj (.ref f) (.ref y)):=x;show h'.get? a=some (PySem.W.methodObj (.ref f) (.ref y));exact k a _ (.inl rfl) e
 | ext φ=>obtain⟨p,⟨o,e⟩,st⟩:=x;exact⟨st _ _ p λo q=>k _ _ (.inl rfl) q,⟨o,k _ _ (.inl rfl) e⟩,st⟩
theorem HOk.lt (x:HOk P w H h)(e:H a=some o):a<h.objs.size:=(x a o e).lt
theorem HOk.fresh (x:HOk P w H h)(e:h.objs.size<=a):H a=none:=by
 cases q:H a with
 | none=>rfl
 | some u=>exact absurd (uy (x.lt q) e) (uX _)
theorem HOk.kept (x:HOk P w H h)(k:∀ b u,h.get? b=some u->h'.get? b=some u):HOk P w H h':=λa o e=>
 (x a o e).stay (λb u _ q=>k b u q) (λ_ q=>q) λ_ _ q=>q
theorem HOk.laid (x:HOk P w H h)(k:∀ b u,h.get? b=some u->h'.get? b=some u)(hp:h.objs.size<=a)(new:jj P w (upd H a o) h' a o):HOk P w (upd H a o) h':=λb u e=>by
 have hn:=x.fresh hp;by_cases hb:b=a
 ·subst hb;rw [zb] at e;cases e;exact new
 ·rw [zl hb] at e;exact(x b u e).stay (λc v _ q=>k c v q) (λc q=>by rw [zl (zM q hn)];exact q) λc xs q=>by rw [zl (zM q hn)];exact q
end
def Rd (H:Hp)(a:Addr)(u:HO):Prop:=H a=some u\/∃ o,H a=some (.frz o u)
theorem Rd.of (h:H a=some u):Rd H a u:=.inl h
theorem Rd.ok (r:Rd H a u)(x:HOk P w H h):jj P w H h a u:=by
 rcases r with r | ⟨o,r⟩
 ·exact x a u r
 ·obtain⟨_,q⟩:=x a _ r;exact q
noncomputable def Mut:Option HO->Prop
 | some (.lst _)=>True
 | some (.dK _)=>True
 | some (.dT _)=>True
 | some (.set _ _)=>True
 | some (.ins _ _ _)=>True
 | some (.ext _)=>True
 | _=>False
section
variable {P:Program} {w:World} {H:Hp} {h h':Heap} {x e:Addr} {o':HO}
theorem HOk.write (ok:HOk P w H h)(mu:Mut (H x))(he:e=x\/H e=some (.own x))(k:∀ b u,b≠e->h.get? b=some u->h'.get? b=some u)(heo:∃ u,h'.get? e=some u)
  (new:jj P w (upd H x o') h' x o'):HOk P w (upd H x o') h':=λb u q=>by
 have nown:∀ c y,H c=some (.own y)->c≠x:=λc y r z=>by subst z;rw [r] at mu;exact mu
 have ntup:∀ c xs,H c=some (.tup xs)->c≠x:=λc xs r z=>by subst z;rw [r] at mu;exact mu
 by_cases hb:b=x
 ·subst hb;rw [zb] at q;cases q;exact new
 ·rw [zl hb] at q
  by_cases hbe:b=e
  ·have q':H b=some (.own x):=by
    rcases he with z | z
    ·exact absurd (hbe.trans z) hb
    ·rw [hbe];exact z
   rw [q] at q';cases q'
   obtain⟨v,hv⟩:=heo
   exact⟨v,by rw [hbe];exact hv⟩
  ·refine(ok b u q).stay (λc v hc r=>k c v ?_ r) (λc r=>by rw [zl (nown c b r)];exact r) λc xs r=>by rw [zl (ntup c xs r)];exact r
   rcases hc with rfl | hc
   ·exact hbe
   ·rintro rfl
    rcases he with z | z
    ·exact nown c b hc z
    ·rw [hc] at z;cases z;exact hb rfl
end
structure Un (fs ex:Ld)(H H':Hp)(h h':Heap):Prop where
 keep:∀ b o,h.get? b=some o->H b=none->b∉fs->b∉ex->h'.get? b=some o
 slot:∀ b o,h.get? b=some o->H b=none->b∈fs->b∉ex->∃ sl,h'.get? b=some { o with slots:=sl }
 free:∀ b o,h.get? b=some o->H b=none->b∉ex->H' b=none
 there:∀ b o,h.get? b=some o->b∉ex->∃ o',h'.get? b=some o'
 tups:∀ b xs,H b=some (.tup xs)->H' b=some (.tup xs)
 frzs:∀ b o u,H b=some (.frz o u)->H' b=some (.frz o u)
 tbls:∀ b ps,H b=some (.tbl ps)->∃ more,H' b=some (.tbl (ps++more))
section
variable {fs fs' ex ex':Ld} {H H1 H2:Hp} {h h1 h2 h':Heap} {a x e:Addr} {o:HO}
theorem Un.any (u:Un fs ex H H1 h h1)(q:h.get? b=some ob)(n:H b=none)(hx:b∉ex):∃ sl,h1.get? b=some { ob with slots:=sl }:=by
 by_cases hb:b∈fs
 ·exact u.slot b ob q n hb hx
 ·exact⟨ob.slots,u.keep b ob q n hb hx⟩
theorem Un.trans (a:Un fs ex H H1 h h1)(b:Un fs ex H1 H2 h1 h2):Un fs ex H H2 h h2 where
 keep:=λc ob q n hc hx=>b.keep c ob (a.keep c ob q n hc hx) (a.free c ob q n hx) hc hx
 slot:=λc ob q n hc hx=>by
  obtain⟨sl,e1⟩:=a.slot c ob q n hc hx
  obtain⟨sl',e2⟩:=b.slot c _ e1 (a.free c ob q n hx) hc hx
  exact⟨sl',e2⟩
 free:=λc ob q n hx=>by
  obtain⟨o',e1⟩:=a.there c ob q hx
  exact b.free c o' e1 (a.free c ob q n hx) hx
 there:=λc ob q hx=>by
  obtain⟨o',e1⟩:=a.there c ob q hx
  exact b.there c o' e1 hx
 tups:=λc xs q=>b.tups c xs (a.tups c xs q)
 frzs:=λc ob xs q=>b.frzs c ob xs (a.frzs c ob xs q)
 tbls:=λc ps q=>by
  obtain⟨m1,e1⟩:=a.tbls c ps q
  obtain⟨m2,e2⟩:=b.tbls c _ e1
  exact⟨m1++m2,by rw [e2,Array.append_assoc]⟩
theorem Un.kept (k:∀ b u,h.get? b=some u->h'.get? b=some u):Un fs ex H H h h':=
 ⟨λb ob q _ _ _=>k b ob q,λb ob q _ _ _=>⟨ob.slots,k b ob q⟩,λ_ _ _ n _=>n,λb ob q _=>⟨ob,k b ob q⟩,λ_ _ q=>q,λ_ _ _ q=>q,λ_ ps q=>⟨#[],by rw [q];simp⟩⟩
theorem Un.refl:Un fs ex H H h h:=Un.kept λ_ _ q=>q
theorem Un.laid (k:∀ b u,h.get? b=some u->h'.get? b=some u)(hp:h.objs.size<=a)(hn:H a=none):Un fs ex H (upd H a o) h h' where
 keep:=λb u q _ _ _=>k b u q
 slot:=λb u q _ _ _=>⟨u.slots,k b u q⟩
 free:=λb u q n _=>by rw [zl (u5 (uy (uf q) hp))];exact n
 there:=λb u q _=>⟨u,k b u q⟩
 tups:=λb xs q=>by rw [zl (zM q hn)];exact q
 frzs:=λb u xs q=>by rw [zl (zM q hn)];exact q
 tbls:=λb ps q=>⟨#[],by rw [zl (zM q hn),q];simp⟩
theorem Un.write (mu:Mut (H x))(he:e=x\/H e=some (.own x))(k:∀ b u,b≠e->h.get? b=some u->h'.get? b=some u)(heo:∃ u,h'.get? e=some u):Un fs ex H (upd H x o) h h':=by
 have hx:∀ b,H b=none->b≠x:=λb n z=>by subst z;rw [n] at mu;exact mu
 have hb:∀ b,H b=none->b≠e:=λb n z=>by
  subst z;rcases he with r | r
  ·exact hx b n r
  ·rw [n] at r;cases r
 have hm:∀ b u,H b=some u->¬ Mut (some u)->b≠x:=λb u q nm z=>by subst z;rw [q] at mu;exact nm mu
 refine⟨λb u q n _ _=>k b u (hb b n) q,λb u q n _ _=>⟨u.slots,k b u (hb b n) q⟩,λb u q n _=>by rw [zl (hx b n)];exact n,λb u q _=>?_,
  λb xs q=>by rw [zl (hm b _ q λz=>z)];exact q,λb u xs q=>by rw [zl (hm b _ q λz=>z)];exact q,λb ps q=>⟨#[],by rw [zl (hm b _ q λz=>z),q];simp⟩⟩
 by_cases hbe:b=e
 ·subst hbe;exact heo
 ·exact⟨u,k b u hbe q⟩
theorem Un.mono (u:Un fs ex H H1 h h1)(hs:∀ b∈fs,b∈fs')(hx:∀ b∈ex,b∈ex'):Un fs' ex' H H1 h h1:= ⟨λb ob q n hb he=>u.keep b ob q n (λz=>hb (hs b z)) λz=>he (hx b z),λ_ _ q n _ he=>u.any q n λz=>he (hx _ z),λb ob q n he=>u.free b ob q n λz=>he (hx b z),λb ob q he=>u.there b ob q λz=>he (hx b z),u.tups,u.frzs,u.tbls⟩
end
noncomputable def trk (h:Heap)(H:Hp):Ld:=(List.range h.objs.size).filter λa=>(H a).isSome
noncomputable def hidT (h:Heap)(H:Hp):Heap:=PySem.W.hideAll h (trk h H)
theorem zcZ (h:Heap)(H:Hp):(hidT h H).objs.size=h.objs.size:=PySem.W.hideAll_size _ _
theorem zdL {h:Heap}(e:h.get? b=some o)(n:H b=none):(hidT h H).get? b=some o:=
 PySem.W.hideAll_get _ e λhm=>by
  have q:(H b).isSome=true:=(GB.mp hm).2
  rw [n] at q;simp at q
theorem zf7 {h:Heap}(e:(hidT h H).get? b=some o):h.get? b=some o/\H b=none:=by
 have e':h.get? b=some o:=PySem.W.of_hideAll (trk h H) e;refine⟨e',?_⟩;cases q:H b with
 | none=>rfl
 | some x=>have hm:b∈trk h H:=GB.mpr ⟨GJ.mpr (uf e'),by simp [q]⟩;have z:(hidT h H).get? b=none:=PySem.W.hideAll_none (trk h H) hm;rw [z] at e;cases e
noncomputable def zf8 (g h:Heap)(L:Addr):Lp:=(List.range h.objs.size).filterMap λa=>if a=L\/(g.get? a).isSome=true then none else(h.get? a).map λo=>(a,o)
noncomputable def rest (g h:Heap)(L d:Addr):Lp:=(zf8 g h L).filter λp=>decide (p.1≠d)
structure Mod (K:Le)(mg:La)(base:Heap):Prop where
 kin:K.In base
 glob:base.Ns mainGlobals mg
 blt:∃ mb,base.Ns builtinsNs mb/\∀ x:Str,x≠"__name__"->mb x=bootBuiltins x
 nolimit:base.NoLimit
structure Cx where
 prog:Program
 w:World
 K:Le
 mg:Str->Option Value
 base:Heap
 A:Around
 N:Lh
 s₀:Shared
 H₀:Hp
 env:Env
 outer:List Env
 stack:List Env
 ex:Ld
 fn:Str->Bool
 calm:Bool
 pn:Lp
 xe:Value->Shared->Prop
noncomputable def frs (l:List Env):Ld:=l.filterMap (·.frame)
noncomputable abbrev Cx.fs (X:Cx):Ld:=frs X.outer
def Vis (sc:Scope)(x:Str):Prop:=sc.names.lookup x=some .local\/sc.names.lookup x=some .cell\/sc.names.lookup x=some .free
def Loc (sc:Scope)(x:Str):Prop:=sc.names.lookup x=some .local\/sc.names.lookup x=some .cell
def Look (env:Env)(h:Heap)(m:La)(x:Str)(u:Value):Prop:= (env.kindOf x=some .local/\m x=some u)\/((env.kindOf x=some .cell\/env.kindOf x=some .free)/\∃ c,env.cells.lookup x=some c/\h.IsCell c (some u))
structure Cx.Ok (X:Cx):Prop where
 mod:Mod X.K X.mg X.base
 kind:X.env.scope.kind=.function
 glob:X.env.globals=mainGlobals
 blt:X.env.builtins=builtinsNs
 above:X.s₀.heap.objs.size<=X.env.locals
 inj:∀ x y c,X.env.cells.lookup x=some c->X.env.cells.lookup y=some c->x=y
 has:∀ x,(X.env.kindOf x=some .cell\/X.env.kindOf x=some .free)->∃ c,X.env.cells.lookup x=some c
 cab:∀ x c,X.fn x=true->X.env.cells.lookup x=some c->X.s₀.heap.objs.size<=c
 hd:X.calm=true->X.A.handled=none
 frames:X.A.frames=some X.stack
 stk:X.stack=X.outer\/(X.stack=X.env::X.outer/\X.env.frame=some X.env.locals)
 exf:∀ b∈X.ex,b≠X.env.locals/\∀ x c,X.env.cells.lookup x=some c->c≠b
 bs:∀ b o,X.base.get? b=some o->X.s₀.heap.get? b=some o/\X.H₀ b=none
 bsz:X.base.objs.size<=X.s₀.heap.objs.size
 noex:∀ b o,X.base.get? b=some o->b∉X.ex
 exfs:∀ b∈X.ex,b∉X.fs
 funs:X.s₀.heap.FunFrames X.base X.outer
 frf:∀ b∈X.fs,X.H₀ b=none
structure Inv (X:Cx)(pins:Lp)(σ:List (Option V))(H:Hp)(s:Shared):Prop where
 ok:X.Ok
 os:s.os=X.s₀.os
 bare:AllBare s.gens
 base:Un X.fs X.ex X.H₀ H X.s₀.heap s.heap
 loc:∃ m,s.heap.Ns X.env.locals m/\∀ (i:Nat) (x:Str) (v:V),X.N[i]? = some x->σ[i]? = some (some v)->Vis X.env.scope x->∃ u,RelV v u/\Look X.env s.heap m x u
 cell:∀ x c,X.env.cells.lookup x=some c->∃ v,s.heap.IsCell c v
 free:H X.env.locals=none
 freeC:∀ x c,X.env.cells.lookup x=some c->H c=none
 pin:∀ p∈X.pn++pins,s.heap.get? p.1=some p.2/\H p.1=none/\p.1≠X.env.locals/\p.1∉X.fs/\∀ v,p.2.data≠.cell v
 hok:HOk X.prog X.w H s.heap
 len:σ.length=X.N.length
section
variable {X:Cx} {pins:Lp} {σ:List (Option V)} {H H':Hp} {s:Shared} {h':Heap}
theorem Cx.Ok.nofr (ok:X.Ok)(e:X.base.get? b=some o):b∉X.fs:=λhb=>by have:=(ok.funs.mem hb).1;rw [e] at this;cases this
theorem Inv.bs (I:Inv X pins σ H s):∀ b o,X.base.get? b=some o->s.heap.get? b=some o/\H b=none:=λb o e=>
 ⟨I.base.keep b o (I.ok.bs b o e).1 (I.ok.bs b o e).2 (I.ok.nofr e) (I.ok.noex b o e),I.base.free b o (I.ok.bs b o e).1 (I.ok.bs b o e).2 (I.ok.noex b o e)⟩
theorem Inv.bk (I:Inv X pins σ H s):∀ b o,X.base.get? b=some o->s.heap.get? b=some o:=λb o e=>(I.bs b o e).1
theorem Inv.mod (I:Inv X pins σ H s):Mod X.K X.mg X.base:=I.ok.mod
theorem Inv.kIn (I:Inv X pins σ H s):X.K.In s.heap:=I.ok.mod.kin.keeps I.bk
theorem Inv.nolimit (I:Inv X pins σ H s):s.heap.NoLimit:=I.ok.mod.nolimit.keeps I.bk
theorem Inv.fr (I:Inv X pins σ H s):∃ m,Fr X.base X.env.locals s.heap m:=
 let ⟨m,hn,_⟩:=I.loc
 ⟨m,hn,I.bk,uJ I.ok.bsz I.ok.above⟩
theorem Inv.lt (I:Inv X pins σ H s):X.env.locals<s.heap.objs.size:=let ⟨_,hn,_⟩:=I.loc;hn.lt
theorem Inv.sz (I:Inv X pins σ H s):X.s₀.heap.objs.size<=s.heap.objs.size:=uJ I.ok.above (gE I.lt)
theorem Inv.nofs (I:Inv X pins σ H s)(h:s.heap.objs.size<=a):a∉X.fs:=λhb=>by obtain⟨_,o,ho,_⟩:=I.ok.funs.mem hb;exact absurd (uy (uf ho) (uJ I.sz h)) (uX _)
theorem Inv.cne (I:Inv X pins σ H s):∀ x c,X.env.cells.lookup x=some c->c≠X.env.locals:=λx c e z=>by obtain⟨v,o,ho,hd⟩:=I.cell x c e;obtain⟨m,⟨o',es,ep,ho',hd',_⟩,_⟩:=I.loc;rw [z,ho'] at ho;cases ho;rw [hd'] at hd;cases hd
theorem Inv.funs (I:Inv X pins σ H s):s.heap.FunFrames X.base X.outer:=by
 have all:∀ (l:List Env),(∀ b∈frs l,b∈X.fs)->X.s₀.heap.FunFrames X.base l->s.heap.FunFrames X.base l:=by
  intro l
  induction l with
  | nil=>intro _ _;trivial
  | cons env r ih=>intro hs hl;obtain⟨hk,⟨L,o,hf,hn,ho,hd⟩,hr⟩:=hl;have hL:L∈X.fs:=hs L (by unfold frs;rw [gh,hf];exact Uy);obtain⟨sl,e⟩:=I.base.slot L o ho (I.ok.frf L hL) hL λz=>I.ok.exfs L z hL;exact⟨hk,⟨L,_,hf,hn,e,hd⟩,ih (λb hb=>hs b (by unfold frs;rw [gh,hf];exact uQ _ hb)) hr⟩
 exact all X.outer (λ_ hb=>hb) I.ok.funs
theorem Inv.stack (I:Inv X pins σ H s):s.heap.FunFrames X.base X.stack:=by
 rcases I.ok.stk with e | ⟨e,hf⟩
 ·rw [e];exact I.funs
 ·rw [e];obtain⟨m,hn,_⟩:=I.loc;refine .cons (by rw [I.ok.kind];decide) hf hn ?_ I.funs;exact gk (uJ I.ok.bsz I.ok.above)
theorem Inv.stkSub (I:Inv X pins σ H s):∀ b∈frs X.stack,b∈X.env.locals::X.fs:=λb hb=>by
 rcases I.ok.stk with e | ⟨e,hf⟩
 ·rw [e] at hb;exact uQ _ hb
 ·rw [e] at hb;unfold frs at hb;rw [gh,hf] at hb;exact hb
theorem Inv.stkFree (I:Inv X pins σ H s):∀ b∈frs X.stack,H b=none:=λb hb=>by
 rcases um.mp (I.stkSub b hb) with e | hb
 ·rw [e];exact I.free
 ·obtain⟨_,o,ho,_⟩:=I.ok.funs.mem hb;exact I.base.free b o ho (I.ok.frf b hb) λz=>I.ok.exfs b z hb
theorem Inv.step {g':Array GenState}{t':Nat}{d':Drawn}{ch:Ld}(I:Inv X pins σ H s) (hch:∀ b∈ch,(b∈X.ex\/X.s₀.heap.objs.size<=b)/\b≠X.env.locals/\(∀ x c,X.env.cells.lookup x=some c->c≠b)/\∀ p∈X.pn++pins,p.1≠b) (keep:∀ b o,b≠X.env.locals->b∉X.fs->b∉ch->s.heap.get? b=some o->H b=none->h'.get? b=some o) (slot:∀ b o,b≠X.env.locals->b∈X.fs->b∉ch->s.heap.get? b=some o->H b=none->∃ sl,h'.get? b=some { o with slots:=sl }) (free:∀ b o,b∉ch->s.heap.get? b=some o->H b=none->H' b=none) (there:∀ b o,b∉ch->s.heap.get? b=some o->∃ o',h'.get? b=some o') (tups:∀ b xs,H b=some (.tup xs)->H' b=some (.tup xs)) (frzs:∀ b o u,H b=some (.frz o u)->H' b=some (.frz o u)) (tbls:∀ b ps,H b=some (.tbl ps)->∃ more,H' b=some (.tbl (ps++more))) (ns:∀ m,s.heap.Ns X.env.locals m->h'.Ns X.env.locals m) (hok:HOk X.prog X.w H' h') (hg:AllBare g') : Inv X pins σ H' { s with heap:=h',gens:=g',drawn:=d',toks:=t' }:=by
 have neL:∀ b o,X.s₀.heap.get? b=some o->b≠X.env.locals:=λb o e=>u5 (uy (uf e) I.ok.above)
 have neC:∀ b o,X.s₀.heap.get? b=some o->b∉X.ex->b∉ch:=λb o e hx hb=>by
  rcases(hch b hb).1 with z | z
  ·exact hx z
  ·exact absurd (uy (uf e) z) (uX _)
 have cellK:∀ x c,X.env.cells.lookup x=some c->∀ v,s.heap.IsCell c v->h'.IsCell c v:=λx c e v ⟨o,ho,hd⟩=>by
  have nch:c∉ch:=λz=>(hch c z).2.2.1 x c e rfl;by_cases hc:c∈X.fs
  ·obtain⟨sl,q⟩:=slot c o (I.cne x c e) hc nch ho (I.freeC x c e);exact⟨_,q,hd⟩
  ·exact⟨o,keep c o (I.cne x c e) hc nch ho (I.freeC x c e),hd⟩
 refine⟨I.ok,I.os,hg,⟨λb o e n hb hx=>?_,λb o e n hb hx=>?_,λb o e n hx=>?_,λb o e hx=>?_,λb xs e=>tups b xs (I.base.tups b xs e),λb o xs e=>frzs b o xs (I.base.frzs b o xs e),λb ps e=>?_⟩,?_,λx c e=>?_,?_,λx c e=>?_,λp hp=>?_,hok,I.len⟩
 ·exact keep b o (neL b o e) hb (neC b o e hx) (I.base.keep b o e n hb hx) (I.base.free b o e n hx)
 ·obtain⟨sl,e1⟩:=I.base.slot b o e n hb hx;obtain⟨sl',e2⟩:=slot b _ (neL b o e) hb (neC b o e hx) e1 (I.base.free b o e n hx);exact⟨sl',e2⟩
 ·obtain⟨o',e1⟩:=I.base.there b o e hx;exact free b o' (neC b o e hx) e1 (I.base.free b o e n hx)
 ·obtain⟨o',e1⟩:=I.base.there b o e hx;exact there b o' (neC b o e hx) e1
 ·obtain⟨m1,e1⟩:=I.base.tbls b ps e;obtain⟨m2,e2⟩:=tbls b _ e1;exact⟨m1++m2,by rw [e2,Array.append_assoc]⟩
 ·obtain⟨m,hn,hl⟩:=I.loc;refine⟨m,ns m hn,λi x v e1 e2 e3=>?_⟩;obtain⟨u,r,l⟩:=hl i x v e1 e2 e3;refine⟨u,r,?_⟩;rcases l with l | ⟨k,c,e,z⟩
  ·exact .inl l
  ·exact .inr ⟨k,c,e,cellK x c e _ z⟩
 ·obtain⟨v,z⟩:=I.cell x c e;exact⟨v,cellK x c e v z⟩
 ·obtain⟨m,⟨o,_,_,ho,_⟩,_⟩:=I.loc;exact free _ o (λz=>(hch _ z).2.1 rfl) ho I.free
 ·obtain⟨v,o,ho,hd⟩:=I.cell x c e;exact free c o (λz=>(hch c z).2.2.1 x c e rfl) ho (I.freeC x c e)
 ·obtain⟨e,n,ne,nf,d⟩:=I.pin p hp;have nch:p.1∉ch:=λz=>(hch p.1 z).2.2.2 p hp rfl;exact⟨keep p.1 p.2 ne nf nch e n,free p.1 p.2 nch e n,ne,nf,d⟩
theorem Inv.un {t':Nat}(I:Inv X pins σ H s)(u:Un X.fs [] H H' s.heap h')(hok:HOk X.prog X.w H' h'):Inv X pins σ H' { s with heap:=h',toks:=t' }:=by
 obtain⟨m,⟨o,es,ep,ho,r⟩,_⟩:=id I.loc;obtain⟨sl,hL⟩:=u.any ho I.free (by simp)
 exact I.step (g':=s.gens) (d':=s.drawn) (ch:=[]) (λ_ z=>nomatch z) (λb o _ hb _ e n=>u.keep b o e n hb (by simp)) (λb o _ hb _ e n=>u.slot b o e n hb (by simp)) (λb o _ e n=>u.free b o e n (by simp)) (λb o _ e=>u.there b o e (by simp)) u.tups u.frzs u.tbls (λm' hm=>by
  obtain⟨o',es',ep',ho',r'⟩:=hm
  rw [ho] at ho';cases ho'
  exact⟨_,es',ep',hL,r'⟩) hok I.bare
theorem Inv.call {g':Array GenState}{t':Nat}{d':Drawn}{ch:Ld}(I:Inv X pins σ H s)(u:Un (frs X.stack) ch H H' s.heap h')(hok:HOk X.prog X.w H' h')(hg:AllBare g') (hch:∀ b∈ch,(b∈X.ex\/X.s₀.heap.objs.size<=b)/\b≠X.env.locals/\(∀ x c,X.env.cells.lookup x=some c->c≠b)/\∀ p∈X.pn++pins,p.1≠b) : Inv X pins σ H' { s with heap:=h',gens:=g',drawn:=d',toks:=t' }:=by
 obtain⟨m,⟨o,es,ep,ho,r⟩,_⟩:=id I.loc;obtain⟨sl,hL⟩:=u.any ho I.free λz=>(hch _ z).2.1 rfl
 exact I.step (ch:=ch) hch (λb o hL hb hc e n=>u.keep b o e n (λz=>(um.mp (I.stkSub b z)).elim hL hb) hc) (λb o _ _ hc e n=>u.any e n hc) (λb o hc e n=>u.free b o e n hc) (λb o hc e=>u.there b o e hc) u.tups u.frzs u.tbls (λm' hm=>by
  obtain⟨o',es',ep',ho',r'⟩:=hm
  rw [ho] at ho';cases ho'
  exact⟨_,es',ep',hL,r'⟩) hok hg
theorem Inv.turned {t':Nat}{it:Addr}(I:Inv X pins σ H s)(k:∀ b o,b≠it->s.heap.get? b=some o->h'.get? b=some o)(hn:H it=none)(hL:it≠X.env.locals) (h1:it∈X.ex\/X.s₀.heap.objs.size<=it) (h2:∀ x c,X.env.cells.lookup x=some c->c≠it) (h3:∀ p∈X.pn++pins,p.1≠it):Inv X pins σ H { s with heap:=h',toks:=t' }:=by
 have nit:∀ b u,H b=some u->b≠it:=λb u e z=>by rw [z,hn] at e;cases e
 refine I.step (g':=s.gens) (d':=s.drawn) (ch:=[it]) (λb hb=>?_) (λb o _ _ hc e _=>k b o (λz=>hc (by simp [z])) e) (λb o _ _ hc e _=>⟨o.slots,k b o (λz=>hc (by simp [z])) e⟩) (λ_ _ _ _ n=>n)
  (λb o hc e=>⟨o,k b o (λz=>hc (by simp [z])) e⟩) (λ_ _ e=>e) (λ_ _ _ e=>e) (λb ps e=>⟨#[],by rw [e];simp⟩) (λm hm=>?_) (λb u e=>?_) I.bare
 ·have e:b=it:=by simpa using hb
  subst e;exact⟨h1,hL,h2,h3⟩
 ·obtain⟨o,es,ep,ho,r⟩:=hm;exact⟨o,es,ep,k _ o (Ne.symm hL) ho,r⟩
 ·refine(I.hok b u e).stay (λc v hc q=>k c v ?_ q) (λ_ q=>q) λ_ _ q=>q;rcases hc with z | z
  ·rw [z];exact nit b u e
  ·exact nit c _ z
theorem Inv.tok (I:Inv X pins σ H s)(t:Nat):Inv X pins σ H { s with toks:=t }:=I.un (h':=s.heap) (t':=t) Un.refl I.hok
theorem Inv.kept (I:Inv X pins σ H s)(k:∀ b u,s.heap.get? b=some u->h'.get? b=some u):Inv X pins σ H { s with heap:=h',toks:=t' }:=I.un (Un.kept k) (I.hok.kept k)
theorem Inv.laid (I:Inv X pins σ H s)(k:∀ b u,s.heap.get? b=some u->h'.get? b=some u)(hp:s.heap.objs.size<=a)(new:jj X.prog X.w (upd H a o) h' a o) :
  Inv X pins σ (upd H a o) { s with heap:=h',toks:=t' }:=I.un (Un.laid k hp (I.hok.fresh hp)) (I.hok.laid k hp new)
theorem Inv.write (I:Inv X pins σ H s)(mu:Mut (H x))(he:e=x\/H e=some (.own x))(k:∀ b u,b≠e->s.heap.get? b=some u->h'.get? b=some u)(heo:∃ u,h'.get? e=some u)
  (new:jj X.prog X.w (upd H x o) h' x o):Inv X pins σ (upd H x o) { s with heap:=h',toks:=t' }:=I.un (Un.write mu he k heo) (I.hok.write mu he k heo new)
theorem Inv.pins_of {pins':Lp}(I:Inv X pins σ H s)(h:∀ p∈pins',s.heap.get? p.1=some p.2/\H p.1=none/\p.1≠X.env.locals/\p.1∉X.fs/\∀ v,p.2.data≠.cell v):Inv X pins' σ H s:= ⟨I.ok,I.os,I.bare,I.base,I.loc,I.cell,I.free,I.freeC,λp hp=>(Ud.mp hp).elim (λz=>I.pin p (uV _ z)) (h p),I.hok,I.len⟩
theorem YI {N:Lh}(hN:N.Nodup){i j:Nat}{x:Str}(a:N[i]? = some x)(b:N[j]? = some x):i=j:=by obtain⟨h1,e1⟩:=ur.mp a;obtain⟨h2,e2⟩:=ur.mp b;exact(List.getElem_inj hN).mp (e1.trans e2.symm)
theorem XW (I:Inv X pins σ H s)(hN:X.N.Nodup)(hi:X.N[i]? = some x)(hx:Loc X.env.scope x)(r:RelV v u) (h:∀ s',Inv X pins (σ.set i (some v)) H s'->(∃ a,Heap.SameBut a s.heap s'.heap/\(a=X.env.locals\/X.env.cells.lookup x=some a))->Q () s') (hf:X.fn x=true\/X.env.scope.names.lookup x=some .local:=by first | exact .inl rfl | exact .inr rfl | assumption):wpAny M A (storeName X.env x u) Q E s:=by
 obtain⟨m,hn,hl⟩:=id I.loc;have hcls:(X.env.scope.kind == .class||(X.env.scope.kind == .module&&X.env.locals != X.env.globals))=false:=by rw [I.ok.kind];rfl
 have hiσ:i<σ.length:=by rw [I.len];exact(ur.mp hi).1
 have cne:=I.cne
 have tracked:∀ {a:Addr} {h':Heap},(∃ o,s.heap.get? a=some o/\H a=none)->Heap.SameBut a s.heap h'->HOk X.prog X.w H h':=λ{a h'} ha hs b ob e=>by
  obtain⟨_,_,hfree⟩:=ha;refine(I.hok b ob e).stay (λc w' hc q=>(hs.2 c ?_).trans q) (λ_ q=>q) λ_ _ q=>q;rintro rfl;rcases hc with rfl | hc
  ·rw [hfree] at e;cases e
  ·rw [hfree] at hc;cases hc
 rcases hx with hk | hk
 ·refine wpAny_storeName_local hk hn (λh' hn' hs=>?_) hcls;obtain⟨oL,_,_,hoL,_⟩:=id hn;refine h _ ⟨I.ok,I.os,I.bare,⟨λb o e n hb hx=>?_,λb o e n hb hx=>?_,I.base.free,λb o e hx=>?_,I.base.tups,I.base.frzs,I.base.tbls⟩,⟨_,hn',λj y v' e1 e2 e3=>?_⟩,λy c e=>?_,I.free,I.freeC,λp hp=>?_,tracked ⟨oL,hoL,I.free⟩ hs,by simpa using I.len⟩ ⟨_,hs,.inl rfl⟩
  ·exact(hs.2 b (u5 (uy (uf e) I.ok.above))).trans (I.base.keep b o e n hb hx)
  ·obtain⟨sl,e1⟩:=I.base.slot b o e n hb hx;exact⟨sl,(hs.2 b (u5 (uy (uf e) I.ok.above))).trans e1⟩
  ·obtain⟨o',e1⟩:=I.base.there b o e hx;exact⟨o',(hs.2 b (u5 (uy (uf e) I.ok.above))).trans e1⟩
  ·by_cases hj:j=i
   ·subst hj;rw [hi] at e1;cases e1;rw [List.getElem?_set_self hiσ] at e2;cases e2;exact⟨u,r,.inl ⟨hk,by simp⟩⟩
   ·rw [List.getElem?_set_ne (Ne.symm hj)] at e2;obtain⟨u',r',q⟩:=hl j y v' e1 e2 e3;refine⟨u',r',?_⟩;rcases q with⟨k,e⟩ | ⟨k,c,e,z⟩
    ·refine .inl ⟨k,?_⟩;have:y≠x:=λe=>hj (YI hN e1 (e ▸ hi));simp [this,e]
    ·exact .inr ⟨k,c,e,z.sameBut hs (cne y c e)⟩
  ·obtain⟨w',z⟩:=I.cell y c e;exact⟨w',z.sameBut hs (cne y c e)⟩
  ·obtain⟨e,n,ne,nf,d⟩:=I.pin p hp;exact⟨(hs.2 p.1 ne).trans e,n,ne,nf,d⟩
 ·have hfn:X.fn x=true:=by
   rcases hf with z | z
   ·exact z
   ·rw [z] at hk;cases hk
  obtain⟨c,hc⟩:=I.ok.has x (.inl hk)
  obtain⟨w',z⟩:=I.cell x c hc
  refine wpAny_storeName_cell I.ok.kind hk hc z (λh' hc' hs=>?_)
  obtain⟨oc,hoc,hocd⟩:=id z
  refine h { s with heap:=h' } ⟨I.ok,I.os,I.bare,⟨λb o e n hb hx=>?_,λb o e n hb hx=>?_,I.base.free,λb o e hx=>?_,I.base.tups,I.base.frzs,I.base.tbls⟩,⟨m,hn.sameBut hs (Ne.symm (cne x c hc)),λj y v' e1 e2 e3=>?_⟩,λy c' e=>?_,I.free,I.freeC,λp hp=>?_,tracked ⟨oc,hoc,I.freeC x c hc⟩ hs,by simpa using I.len⟩ ⟨c,hs,.inr hc⟩
  ·exact(hs.2 b (u5 (uy (uf e) (I.ok.cab x c hfn hc)))).trans (I.base.keep b o e n hb hx)
  ·obtain⟨sl,e1⟩:=I.base.slot b o e n hb hx
   exact⟨sl,(hs.2 b (u5 (uy (uf e) (I.ok.cab x c hfn hc)))).trans e1⟩
  ·obtain⟨o',e1⟩:=I.base.there b o e hx
   exact⟨o',(hs.2 b (u5 (uy (uf e) (I.ok.cab x c hfn hc)))).trans e1⟩
  ·by_cases hj:j=i
   ·subst hj
    rw [hi] at e1;cases e1
    rw [List.getElem?_set_self hiσ] at e2
    cases e2
    exact⟨u,r,.inr ⟨.inl hk,c,hc,hc'⟩⟩
   ·rw [List.getElem?_set_ne (Ne.symm hj)] at e2
    obtain⟨u',r',q⟩:=hl j y v' e1 e2 e3
    refine⟨u',r',?_⟩
    rcases q with q | ⟨k,c',e,z'⟩
    ·exact .inl q
    ·refine .inr ⟨k,c',e,z'.sameBut hs ?_⟩
     rintro rfl
     exact hj (YI hN e1 (I.ok.inj _ _ _ e hc ▸ hi))
  ·by_cases hcc:c' = c
   ·subst hcc;exact⟨_,hc'⟩
   ·obtain⟨w2,z2⟩:=I.cell y c' e
    exact⟨w2,z2.sameBut hs hcc⟩
  ·obtain⟨e,n,ne,nf,d⟩:=I.pin p hp
   refine⟨(hs.2 p.1 ?_).trans e,n,ne,nf,d⟩
   intro q
   rw [q,hoc] at e
   have q':oc=p.2:=uF e
   exact d w' (by rw [← q'];exact hocd)
theorem WB (I:Inv X pins σ H s)(hN:X.N.Nodup)(hi:X.N[i]? = some x)(hx:Loc X.env.scope x)(r:RelV v u)
  (h:∀ s',Inv X pins (σ.set i (some v)) H s'->Q () s') (hf:X.fn x=true\/X.env.scope.names.lookup x=some .local:=by first | exact .inl rfl | exact .inr rfl | assumption):wpAny M A (storeName X.env x u) Q E s:=
 XW I hN hi hx r (λs' I' _=>h s' I') hf
theorem Inv.call' {s':Shared}(I:Inv X pins σ H s)(ho:s'.os=s.os)(u:Un (frs X.stack) ch H H' s.heap s'.heap)(hok:HOk X.prog X.w H' s'.heap)(hg:AllBare s'.gens) (hch:∀ b∈ch,(b∈X.ex\/X.s₀.heap.objs.size<=b)/\b≠X.env.locals/\(∀ x c,X.env.cells.lookup x=some c->c≠b)/\∀ p∈X.pn++pins,p.1≠b):Inv X pins σ H' s':=by obtain⟨h',g',d',t',o'⟩:=s';have e:o' = s.os:=ho;subst e;exact I.call (g':=g') (t':=t') (d':=d') u hok hg hch
end
noncomputable abbrev XK:=Value->Option Addr->Hp->Prop
noncomputable abbrev St:=List (Option V)
noncomputable abbrev VK:=V->Hp->Prop
noncomputable abbrev TE:=St->Hp->VK->Prop
noncomputable abbrev TT:=St->Hp->(Bool->Hp->Prop)->Prop
noncomputable abbrev TA:=St->Hp->(List V->Hp->Prop)->Prop
structure Ends where
 nx:St->Hp->Prop
 rt:VK
 bk:St->Hp->Prop:=λ_ _=>False
 ct:St->Hp->Prop:=λ_ _=>False
noncomputable abbrev TS:=Ends->St->Hp->Prop
def EP (X:Cx)(pins:Lp)(σ:St)(Q:VK)(u:Value)(s':Shared):Prop:=∃ v H',Inv X pins σ H' s'/\RelV v u/\Q v H'
def TP (X:Cx)(pins:Lp)(σ:St)(Q:Bool->Hp->Prop)(b:Bool)(s':Shared):Prop:=∃ H',Inv X pins σ H' s'/\Q b H'
def AP (X:Cx)(pins:Lp)(σ:St)(Q:List V->Hp->Prop)(us:Lf)(s':Shared):Prop:=∃ vs H',Inv X pins σ H' s'/\Vals vs us/\Q vs H'
def SP (X:Cx)(pins:Lp)(D:Ends)(f:Flow)(s':Shared):Prop:=
 match f with
 | .next=>∃ σ' H',Inv X pins σ' H' s'/\D.nx σ' H'
 | .brk=>∃ σ' H',Inv X pins σ' H' s'/\D.bk σ' H'
 | .cont=>∃ σ' H',Inv X pins σ' H' s'/\D.ct σ' H'
 | .ret u=>∃ v σ' H',Inv X pins σ' H' s'/\RelV v u/\D.rt v H'
def PE (X:Cx)(e:Expr)(t:TE):Prop:= ∀ (pins:Lp) (s:Shared) (σ:St) (H:Hp) (Q:VK),Inv X pins σ H s->t σ H Q->wpAny (model X.prog X.w) X.A (eval e X.env) (EP X pins σ Q) X.xe s
def PT (X:Cx)(e:Expr)(t:TT):Prop:= ∀ (pins:Lp) (s:Shared) (σ:St) (H:Hp) (Q:Bool->Hp->Prop),Inv X pins σ H s->t σ H Q->wpAny (model X.prog X.w) X.A (isTrue e X.env (eval e X.env)) (TP X pins σ Q) X.xe s
def PW (X:Cx)(e:Expr)(t:TT):Prop:= ∀ (whole:Sem Value) (pins:Lp) (s:Shared) (σ:St) (H:Hp) (Q:Bool->Hp->Prop),Inv X pins σ H s->t σ H Q->wpAny (model X.prog X.w) X.A (isTrue e X.env whole) (TP X pins σ Q) X.xe s
theorem PW.pt {X:Cx}(h:PW X e t):PT X e t:=h _
def PA (X:Cx)(es:Lg)(t:TA):Prop:= ∀ (pos:Pos) (pins:Lp) (s:Shared) (σ:St) (H:Hp) (Q:List V->Hp->Prop),Inv X pins σ H s->t σ H Q->wpAny (model X.prog X.w) X.A (spliced (backTo pos (starEach es X.env))) (AP X pins σ Q) X.xe s
def PS (X:Cx)(st:Stmt)(t:TS):Prop:= ∀ (pins:Lp) (s:Shared) (σ:St) (H:Hp) (D:Ends),Inv X pins σ H s->t D σ H->wpAny (model X.prog X.w) X.A (exec st X.env) (SP X pins D) X.xe s
def PSs (X:Cx)(st:List Stmt)(t:TS):Prop:= ∀ (pins:Lp) (s:Shared) (σ:St) (H:Hp) (D:Ends),Inv X pins σ H s->t D σ H->wpAny (model X.prog X.w) X.A (execs st X.env) (SP X pins D) X.xe s
theorem thn {α:Type}{t:Sem α}{Q Q':α->Shared->Prop}{M:Model}{A:Around}{E:Value->Shared->Prop}{s:Shared}(h:wpAny M A t Q E s)(hQ:∀ a s,Q a s->Q' a s):wpAny M A t Q' E s:=uj h hQ λ_ _ x=>x
section
variable {X:Cx}
noncomputable def tVar (i:Nat):TE:=λσ H Q=>∃ v,σ[i]? = some (some v)/\Q v H
noncomputable def tC (v:V):TE:=λ_ H Q=>Q v H
theorem zhW (hN:X.N[i]? = some x)(hv:Vis X.env.scope x)(hd:(x == ("__debug__":Str))=false:=by decide) (hcd:(x == ("__classdict__":Str))=false:=by decide):PE X (.Name x pos) (tVar i):=by
 intro pins s σ H Q I h;obtain⟨v,e,h⟩:=h;obtain⟨m,hn,hl⟩:=I.loc;obtain⟨u,r,l⟩:=hl i x v hN e hv;have fin:EP X pins σ Q u s:=⟨v,H,I,r,h⟩
 rcases l with⟨hk,hm⟩ | ⟨hk,c,hc,hcell⟩
 ·exact Gv (wpAny_loadName_local I.ok.kind hk hn hm fin) hd
 ·rcases hk with hk | hk
  ·exact Gv (wpAny_loadName_cell I.ok.kind hk hc hcell fin) hd
  ·exact Gv (wpAny_loadName_free I.ok.kind hk hc hcell fin hcd) hd
theorem zhX {i j pos}:PE X (.Constant (.int i) j pos) (tC (.int i)):=λ_ _ _ H _ I h=>wpAny_Constant_int ⟨.int i,H,I.tok _,⟨_,rfl⟩,h⟩
theorem zkr {b j pos}:PE X (.Constant (.bool b) j pos) (tC (.bl b)):=λ_ _ _ H _ I h=>Constant_bool ⟨.bl b,H,I,rfl,h⟩
theorem zhY {j pos}:PE X (.Constant .none j pos) (tC .non):=λ_ _ _ H _ I h=>Constant_none ⟨.non,H,I,rfl,h⟩
theorem zae {x j pos}:PE X (.Constant (.str x) j pos) (tC (.str x)):=λ_ _ _ H _ I h=>Calls.Constant_str ⟨.str x,H,I.tok _,⟨_,rfl⟩,h⟩
def Gl (X:Cx)(x:Str):Prop:=X.env.kindOf x=some .globalImplicit
theorem wZ {pins:Lp}(I:Inv X pins σ H s)(hg:Gl X x)(hm:X.mg x=some u)(h:Q u s)
  (hd:(x == ("__debug__":Str))=false:=by decide):wpAny (model X.prog X.w) X.A (eval (.Name x pos) X.env) Q E s:=
 Calls.Name_function_global I.ok.kind hg (Calls.loadGlobal_global (by rw [I.ok.glob];exact I.mod.glob.keeps I.bk) hm h) hd
theorem Z7 {pins:Lp}(I:Inv X pins σ H s)(hg:Gl X x)(hm:X.mg x=none)(hv:bootBuiltins x=some u)(h:Q u s) (hn:x≠"__name__":=by decide) (hd:(x == ("__debug__":Str))=false:=by decide):wpAny (model X.prog X.w) X.A (eval (.Name x pos) X.env) Q E s:=by obtain⟨mb,h1,h2⟩:=I.mod.blt;exact Calls.Name_function_global I.ok.kind hg (Calls.loadGlobal_builtin (by rw [I.ok.glob];exact I.mod.glob.keeps I.bk) hm (by rw [I.ok.blt];exact h1.keeps I.bk) ((h2 x hn).trans hv) h) hd
theorem zbI (hg:Gl X x)(hm:X.mg x=some u)(r:RelV v u)(hd:(x == ("__debug__":Str))=false:=by decide):PE X (.Name x pos) (tC v):=
 λ_ _ _ H _ I h=>wZ I hg hm ⟨v,H,I,r,h⟩ hd
theorem zf9 (hg:Gl X x)(hm:X.mg x=none)(hv:bootBuiltins x=some u)(r:RelV v u)(hn:x≠"__name__":=by decide) (hd:(x == ("__debug__":Str))=false:=by decide):PE X (.Name x pos) (tC v):=
 λ_ _ _ H _ I h=>Z7 I hg hm hv ⟨v,H,I,r,h⟩ hn hd
variable {a b:Expr} {ta tb:TE} {pos:Pos}
noncomputable def tB (t:TE):TT:=λσ H Q=>t σ H λx H1=>∃ c,x=.bl c/\Q c H1
theorem zhZ {e:Expr}{t:TE}(h:PE X e t)(he:∀ whole,isTrue e X.env whole=(do let v ← whole;standAt e.pos;holding [v] (truthy v)):=by intro _;rfl):PT X e (tB t):=by intro pins s σ H Q I hw;refine GP (thn (h pins s σ H _ I hw) λv s1 zq=>?_) (he _);obtain⟨x,H1,I1,r1,q1⟩:=zq;obtain⟨d,rfl,q⟩:=q1;cases r1;exact gx ⟨H1,I1,q⟩
variable {tA tB':TT} {rest:Lg}
noncomputable def tAnd (t u:TT):TT:=λσ H Q=>t σ H λc H1=>if c=true then u σ H1 Q else Q false H1
noncomputable def tOr (t u:TT):TT:=λσ H Q=>t σ H λc H1=>if c=true then Q true H1 else u σ H1 Q
noncomputable def tNot (t:TT):TT:=λσ H Q=>t σ H λc H1=>Q (!c) H1
theorem zga (ha:PT X a tA):PW X (.BoolOp .And [a] pos) tA:=by
 intro wh pins s σ H Q I h;refine GX (thn (ha pins s σ H Q I h) λc s1 e=>?_);cases c with
 | true=>exact isTrue_and_nil e
 | false=>exact e
theorem zh0 (ha:PT X a tA):PW X (.BoolOp .Or [a] pos) tA:=by
 intro wh pins s σ H Q I h;refine isTrue_or (thn (ha pins s σ H Q I h) λc s1 e=>?_);cases c with
 | false=>exact isTrue_or_nil e
 | true=>exact e
theorem zh6 (ha:PT X a tA)(hb:PW X (.BoolOp .And (b::rest) pos) tB'):PW X (.BoolOp .And (a::b::rest) pos) (tAnd tA tB'):=by
 intro wh pins s σ H Q I h;refine GX (thn (ha pins s σ H _ I h) λc s1 zq=>?_);obtain⟨H1,I1,q1⟩:=zq;cases c with
 | true=>exact hb wh pins s1 σ H1 Q I1 q1
 | false=>exact⟨H1,I1,q1⟩
theorem zks (ha:PT X a tA)(hb:PW X (.BoolOp .Or (b::rest) pos) tB'):PW X (.BoolOp .Or (a::b::rest) pos) (tOr tA tB'):=by
 intro wh pins s σ H Q I h;refine isTrue_or (thn (ha pins s σ H _ I h) λc s1 zq=>?_);obtain⟨H1,I1,q1⟩:=zq;cases c with
 | true=>exact⟨H1,I1,q1⟩
 | false=>exact hb wh pins s1 σ H1 Q I1 q1
theorem zia (ha:PT X a tA):PT X (.UnaryOp .Not a pos) (tNot tA):=by intro pins s σ H Q I h;exact isTrue_not (ha pins s σ H (λc H1=>Q (!c) H1) I h)
noncomputable def tIf (t:TT)(ta tb:TE):TE:=λσ H Q=>t σ H λc H1=>if c=true then ta σ H1 Q else tb σ H1 Q
theorem zdM {c:Expr}(hc:PT X c tA)(ha:PE X a ta)(hb:PE X b tb):PE X (.IfExp c a b pos) (tIf tA ta tb):=by
 intro pins s σ H Q I h;refine wpAny_IfExp (thn (hc pins s σ H _ I h) λd s1 zq=>?_);obtain⟨H1,I1,q1⟩:=zq;cases d with
 | true=>exact ha pins s1 σ H1 Q I1 q1
 | false=>exact hb pins s1 σ H1 Q I1 q1
end
def SqL (K:Le)(H:Hp)(a:Addr)(xs:List V):Prop:= Rd H a (.lst xs) \/ ∃ (o:Obj) (its:Array Value) (n:Nat),K.lookup a=some o/\o.cls=.type "list"/\o.dict=none/\o.data=.seq its n/\its.size<=sizeLine/\Vals xs its.toList
def SqT (K:Le)(H:Hp)(a:Addr)(xs:List V):Prop:= Rd H a (.tup xs) \/ ∃ (o:Obj) (its:Array Value) (n:Nat),K.lookup a=some o/\o.cls=.type "tuple"/\o.data=.seq its n/\its.size<=sizeLine/\Vals xs its.toList
noncomputable def absV:Value->Option V
 | .none=>some .non
 | .bool b=>some (.bl b)
 | .int i _=>some (.int i)
 | .str x _=>some (.str x)
 | .bytes b _=>some (.byt b)
 | .float b _=>some (.flt b)
 | .ref a=>some (.ref a)
 | .type n=>some (.ty n)
 | _=>none
theorem RelV.abs (r:RelV x u):absV u=some x:=by
 cases x with
 | non=>cases r;rfl
 | bl _=>cases r;rfl
 | int _=>obtain⟨t,rfl⟩:=r;rfl
 | str _=>obtain⟨t,rfl⟩:=r;rfl
 | byt _=>obtain⟨t,rfl⟩:=r;rfl
 | flt _=>obtain⟨t,rfl⟩:=r;rfl
 | ref _=>cases r;rfl
 | ty _=>cases r;rfl
theorem RelV.inj (r:RelV x u)(q:RelV y u):x=y:=uF (r.abs.symm.trans q.abs)
theorem Vals.inj:∀ {xs ys:List V} {us:Lf},Vals xs us->Vals ys us->xs=ys
 | _,_,_,.nil,.nil=>rfl
 | _,_,_,.cons r t,.cons r' t'=>by rw [r.inj r',Vals.inj t t']
section
variable {X:Cx} {pins:Lp} {σ:St} {H:Hp} {s:Shared} {a:Addr} {xs ys:List V}
theorem SqL.of {K:Le}(h:H a=some (.lst xs)):SqL K H a xs:=.inl (.inl h)
theorem SqT.of {K:Le}(h:H a=some (.tup xs)):SqT K H a xs:=.inl (.inl h)
theorem Inv.list (I:Inv X pins σ H s)(h:SqL X.K H a xs):∃ its:Lf,Vals xs its/\PlainL s.heap a its.toArray/\xs.length<=sizeLine:=by
 rcases h with h | ⟨o,its,n,hk,hc,hd,hs,hz,r⟩
 ·obtain⟨z,its,n,r,e⟩:=h.ok I.hok;exact⟨its,r,⟨_,n,e,rfl,rfl,rfl⟩,z⟩
 ·refine⟨its.toList,r,⟨o,n,I.kIn a o hk,hc,hd,by simpa using hs⟩,?_⟩;have e:=r.length;simp only [gU] at e;lia
theorem Inv.tuple (I:Inv X pins σ H s)(h:SqT X.K H a xs):∃ its:Lf,Vals xs its/\IsTup s.heap a its.toArray/\xs.length<=sizeLine:=by
 rcases h with h | ⟨o,its,n,hk,hc,hs,hz,r⟩
 ·obtain⟨z,its,r,p⟩:=h.ok I.hok;exact⟨its,r,p,z⟩
 ·refine⟨its.toList,r,⟨o,I.kIn a o hk,hc,n,by simpa using hs⟩,?_⟩;have e:=r.length;simp only [gU] at e;lia
theorem Inv.list_inj (I:Inv X pins σ H s)(h:SqL X.K H a xs)(h':SqL X.K H a ys):xs=ys:=by
 obtain⟨its,r,⟨o,n,e,_,_,d⟩,_⟩:=I.list h;obtain⟨its',r',⟨o',n',e',_,_,d'⟩,_⟩:=I.list h';rw [e] at e';cases e';rw [d] at d';injection d' with d1 _;have:its=its':=by simpa using congrArg Array.toList d1
 subst this;exact r.inj r'
end
noncomputable abbrev Cx.wish (X:Cx)(E:Value->Shared->Prop):Cx:={ X with xe:=E }
noncomputable abbrev Cx.nox (X:Cx):Cx:=X.wish λ_ _=>False
theorem Cx.Ok.wish {X:Cx}(ok:X.Ok)(E:Value->Shared->Prop):(X.wish E).Ok:= ⟨ok.mod,ok.kind,ok.glob,ok.blt,ok.above,ok.inj,ok.has,ok.cab,ok.hd,ok.frames,ok.stk,ok.exf,ok.bs,ok.bsz,ok.noex,ok.exfs,ok.funs,ok.frf⟩
theorem Cx.Ok.unwish {X:Cx}(ok:(X.wish E).Ok):X.Ok:= ⟨ok.mod,ok.kind,ok.glob,ok.blt,ok.above,ok.inj,ok.has,ok.cab,ok.hd,ok.frames,ok.stk,ok.exf,ok.bs,ok.bsz,ok.noex,ok.exfs,ok.funs,ok.frf⟩
section
variable {X:Cx} {pins:Lp} {σ:St} {H:Hp} {s:Shared} {E:Value->Shared->Prop}
theorem Inv.wish (I:Inv X pins σ H s)(E:Value->Shared->Prop):Inv (X.wish E) pins σ H s:=⟨I.ok.wish E,I.os,I.bare,I.base,I.loc,I.cell,I.free,I.freeC,I.pin,I.hok,I.len⟩
theorem Inv.unwish (I:Inv (X.wish E) pins σ H s):Inv X pins σ H s:=⟨I.ok.unwish,I.os,I.bare,I.base,I.loc,I.cell,I.free,I.freeC,I.pin,I.hok,I.len⟩
theorem SP.unwish (h:SP (X.wish E) pins D f s'):SP X pins D f s':=by
 cases f with
 | next=>obtain⟨σ',H',I,q⟩:=h;exact⟨σ',H',I.unwish,q⟩
 | brk=>obtain⟨σ',H',I,q⟩:=h;exact⟨σ',H',I.unwish,q⟩
 | cont=>obtain⟨σ',H',I,q⟩:=h;exact⟨σ',H',I.unwish,q⟩
 | ret u=>obtain⟨v,σ',H',I,r,q⟩:=h;exact⟨v,σ',H',I.unwish,r,q⟩
theorem PE.nox (h:PE X.nox e t):PE X e t:=λpins s σ H Q I hw=>
 uj (h pins s σ H Q (I.wish _) hw) (λ_ _ ⟨v,H',I',r,q⟩=>⟨v,H',I'.unwish,r,q⟩) λ_ _ z=>False.elim z
theorem PT.nox (h:PT X.nox e t):PT X e t:=λpins s σ H Q I hw=>
 uj (h pins s σ H Q (I.wish _) hw) (λ_ _ ⟨H',I',q⟩=>⟨H',I'.unwish,q⟩) λ_ _ z=>False.elim z
theorem PSs.nox {st:List Stmt}{t:TS}(h:PSs X.nox st t):PSs X st t:=λpins s σ H D I hw=>
 uj (h pins s σ H D (I.wish _) hw) (λ_ _ q=>q.unwish) λ_ _ z=>False.elim z
end
section
variable {X:Cx} {st:Stmt} {rest:List Stmt} {t u:TS} {e:Expr} {te:TE} {pos:Pos}
noncomputable def zbJ:TS:=λD σ H=>D.nx σ H
noncomputable def tSeq (t u:TS):TS:=λD σ H=>t { D with nx:=u D } σ H
theorem zgb:PSs X [] zbJ:=λ_ _ σ H _ I h=>U5 ⟨σ,H,I,h⟩
theorem wz (h1:PS X st t)(h2:PSs X rest u):PSs X (st::rest) (tSeq t u):=by
 intro pins s σ H D I h;refine wpAny_execs_cons (thn (h1 pins s σ H { D with nx:=u D } I h) λf s1 q=>?_);cases f with
 | next=>obtain⟨σ',H',I',q⟩:=q;exact h2 pins s1 σ' H' D I' q
 | ret v=>exact q
 | brk=>exact q
 | cont=>exact q
theorem ZL (h1:PS X st t):PSs X [st] t:=by
 intro pins s σ H D I h;refine wpAny_execs_cons (thn (h1 pins s σ H D I h) λf s1 q=>?_);cases f with
 | next=>exact U5 q
 | ret v=>exact q
 | brk=>exact q
 | cont=>exact q
theorem Inv.quiet {pins:Lp}(I:Inv X pins σ H s):interactive X.env=false:=by simp [interactive,I.ok.kind]
noncomputable def J4 (te:TE):TS:=λD σ H=>te σ H λ_ H1=>D.nx σ H1
theorem ZM (he:PE X e te)(hs:swapsWith e none pos.line X.env=pure false:=by rfl):PS X (.Expr e pos) (J4 te):=by intro pins s σ H D I h;exact wpAny_Expr_any (thn (he pins s σ H _ I h) λv s1 ⟨x,H1,I1,r1,q1⟩=>⟨σ,H1,I1,q1⟩) I.quiet hs
noncomputable def tRet (te:TE):TS:=λD σ H=>te σ H D.rt
theorem zib (he:PE X e te):PS X (.Return (some e) pos) (tRet te):=by intro pins s σ H D I h;exact wpAny_Return_some (thn (he pins s σ H _ I h) λv s1 ⟨x,H1,I1,r1,q1⟩=>⟨x,σ,H1,I1,r1,q1⟩)
noncomputable def tIfS (c:TT)(t u:TS):TS:=λD σ H=>c σ H λb H1=>if b=true then t D σ H1 else u D σ H1
theorem zkt {c:Expr}{a b:List Stmt}{tc:TT}(hc:PT X c tc)(ha:PSs X a t)(hb:PSs X b u):PS X (.If c a b pos) (tIfS tc t u):=by
 intro pins s σ H D I h;refine wpAny_If (thn (hc pins s σ H _ I h) λd s1 zq=>?_);obtain⟨H1,I1,q1⟩:=zq;cases d with
 | true=>exact ha pins s1 σ H1 D I1 q1
 | false=>exact hb pins s1 σ H1 D I1 q1
noncomputable def Vl:TS:=λ_ _ _=>False
theorem zdN:PS X st Vl:=λ_ _ _ _ _ _ h=>h.elim
end
noncomputable abbrev TG:=V->St->Hp->(St->Hp->Prop)->Prop
noncomputable abbrev TGs:=List V->St->Hp->(St->Hp->Prop)->Prop
def PG (X:Cx)(target:Expr)(t:TG):Prop:= ∀ (pins:Lp) (s:Shared) (σ:St) (H:Hp) (v:V) (u:Value) (Q:St->Hp->Prop),Inv X pins σ H s->RelV v u->t v σ H Q -> wpAny (model X.prog X.w) X.A (assign target X.env u) (λ_ s'=>∃ σ' H',Inv X pins σ' H' s'/\Q σ' H') X.xe s
def PGs (X:Cx)(ts:Lg)(t:TGs):Prop:= ∀ (pins:Lp) (s:Shared) (σ:St) (H:Hp) (vs:List V) (us:Lf) (Q:St->Hp->Prop),Inv X pins σ H s->Vals vs us->t vs σ H Q -> wpAny (model X.prog X.w) X.A (assignInOrder ((assignEach ts X.env).map (·.2)) us) (λ_ s'=>∃ σ' H',Inv X pins σ' H' s'/\Q σ' H') X.xe s
noncomputable abbrev TSet:=V->V->V->Hp->(Hp->Prop)->Prop
def PSet (X:Cx)(t:TSet):Prop:= ∀ (pins:Lp) (s:Shared) (σ:St) (H:Hp) (o i v:V) (ov iv u:Value) (Q:Hp->Prop),Inv X pins σ H s->RelV o ov->RelV i iv->RelV v u->t o i v H Q -> wpAny (model X.prog X.w) X.A (setItem ov iv u) (λ_ s'=>∃ H',Inv X pins σ H' s'/\Q H') X.xe s
noncomputable abbrev TIp:=V->V->Hp->VK->Prop
section
variable {X:Cx} {pos:Pos}
noncomputable def xC (i:Nat):TG:=λv σ H Q=>Q (σ.set i (some v)) H
theorem zbK (hN:X.N.Nodup)(hi:X.N[i]? = some x)(hx:Loc X.env.scope x)(hf:X.fn x=true\/X.env.scope.names.lookup x=some .local:=by first | exact .inl rfl | exact .inr rfl | assumption):PG X (.Name x pos) (xC i):=by intro pins s σ H v u Q I r h;exact GY (WB I hN hi hx r (λs' I'=>⟨_,H,I',h⟩) hf)
noncomputable def gNil:TGs:=λvs σ H Q=>vs=[]/\Q σ H
noncomputable def XX (t:TG)(u:TGs):TGs:=λvs σ H Q=>∃ v r,vs=v::r/\t v σ H λσ' H'=>u r σ' H' Q
theorem zgc:PGs X [] gNil:=by intro pins s σ H vs us Q I r h;obtain⟨e,h⟩:=h;subst e;cases r;exact assignInOrder_nil ⟨σ,H,I,h⟩
theorem zdO {e:Expr}{es:Lg}{t:TG}{u:TGs}(h1:PG X e t)(h2:PGs X es u) (hs:(assignEach (e::es) X.env).map (·.2)=assign e X.env::(assignEach es X.env).map (·.2):=by rfl):PGs X (e::es) (XX t u):=by
 intro pins s σ H vs us Q I r h;obtain⟨v,vr,e1,h⟩:=h;subst e1;cases r with
 | cons r rr=>rw [hs];refine assignInOrder_cons (thn (h1 pins s σ H _ _ _ I r h) λ_ s1 zq=>?_);obtain⟨σ1,H1,I1,q1⟩:=zq;exact h2 pins s1 σ1 H1 _ _ Q I1 rr q1
noncomputable def gTup (K:Le)(n:Nat)(t:TGs):TG:=λv σ H Q=>∃ a xs,v=.ref a/\SqT K H a xs/\xs.length=n/\t xs σ H Q
theorem zic (hc:X.calm=true)(h:PGs X es t) (hn:(assignEach es X.env).length=n:=by rfl) (hst:(assignEach es X.env).findIdx? (·.1)=none:=by rfl):PG X (.Tuple es k pos) (gTup X.K n t):=by intro pins s σ H v u Q I r hw;obtain⟨a,xs,e1,hq,hl,hw⟩:=hw;subst e1;cases r;obtain⟨its,rv,ht,hz⟩:=I.tuple hq;refine assign_Tuple_tuple (I.ok.hd hc) ht (by simp [hn,← hl,rv.length]) hst λh' hx=>?_;have I1:Inv X pins σ H { s with heap:=h' }:=I.kept (t':=s.toks) λb o e=>hx b o (u5 (uf e)) e;exact h pins _ σ H xs _ Q I1 (by simpa using rv) hw
noncomputable def gSub (to ti:TE)(t:TSet):TG:=λv σ H Q=>to σ H λo H1=>ti σ H1 λi H2=>t o i v H2 λH3=>Q σ H3
theorem zid {o i:Expr}{to ti:TE}{t:TSet}(ho:PE X o to)(hi:PE X i ti)(hs:PSet X t)
  (ha:∀ v,assign (.Subscript o i pos) X.env v=(do
   let ov ← holding [v] (eval o X.env)
   let iv ← holding [v,ov] (eval i X.env)
   standAt pos
   holding [v,ov,iv] (setItem ov iv v)
   release [v,ov,iv] []):=by intro _;rfl):PG X (.Subscript o i pos) (gSub to ti t):=by
 intro pins s σ H v u Q I r h
 rw [ha]
 refine ua (uK (thn (ho pins s σ H _ I h) λov s1 zq=>?_))
 obtain⟨x,H1,I1,r1,q1⟩:=zq
 refine ua (uK (thn (hi pins s1 σ H1 _ I1 q1) λiv s2 zq=>?_))
 obtain⟨y,H2,I2,r2,q2⟩:=zq
 refine ua (u0 (ua (uK (thn (hs pins s2 σ H2 x y v ov iv u _ I2 r1 r2 r q2) λ_ s3 zq=>?_))))
 obtain⟨H3,I3,q3⟩:=zq
 exact wpAny_release ⟨σ,H3,I3,q3⟩
noncomputable def tAsg (te:TE)(g:TG):TS:=λD σ H=>te σ H λx H1=>g x σ H1 D.nx
theorem zie {tg e:Expr}{te:TE}{g:TG}(he:PE X e te)(hg:PG X tg g)(hs:swapsWithSole [tg] e pos.line X.env=pure false:=by rfl) (hw:swappedStores [tg] e X.env=pure none:=by rfl) (h1:(assignEach [tg] X.env).map (·.2)=[assign tg X.env]:=by rfl):PS X (.Assign [tg] e pos) (tAsg te g):=by intro pins s σ H D I h;refine wpAny_Assign_stores (thn (he pins s σ H _ I h) λv s1 zq=>?_) hs hw;obtain⟨x,H1,I1,r1,q1⟩:=zq;rw [h1];exact thn (hg pins s1 σ H1 x v _ I1 r1 q1) λ_ s2 q=>q
theorem zif {i:Nat}{x:Str}{e:Expr}{te:TE}{pos':Pos}(hN:X.N.Nodup)(hi:X.N[i]? = some x)(hx:Loc X.env.scope x)(he:PE X e te)(hs:swapsWith e (some (.Name x pos')) pos.line X.env=pure false:=by rfl) (hf:X.fn x=true\/X.env.scope.names.lookup x=some .local:=by first | exact .inl rfl | exact .inr rfl | assumption) : PS X (.Assign [.Name x pos'] e pos) (tAsg te (xC i)):=by intro pins s σ H D I h;refine wpAny_Assign_Name (thn (he pins s σ H _ I h) λv s1 zq=>?_) hs;obtain⟨y,H1,I1,r1,q1⟩:=zq;exact WB I1 hN hi hx r1 (λs2 I2=>⟨_,H1,I2,q1⟩) hf
noncomputable def tAug (i:Nat)(te:TE)(ti:TIp):TS:=λD σ H=>∃ x,σ[i]? = some (some x)/\te σ H λy H1=>ti x y H1 λz H2=>D.nx (σ.set i (some z)) H2
noncomputable def ipI (f:Int->Int->Int):TIp:=λx y H Q=>∃ i j,x=.int i/\y=.int j/\Q (.int (f i j)) H
end
section
variable {X:Cx} {pos:Pos}
noncomputable def zig (c:TT)(tb:TS):TS:=λD σ H=>∃ W:Nat->St->Hp->Prop,(∃ m,W m σ H)/\∀ m σ H,W m σ H ->
 c σ H λb H1=>if b=true then ∃ N:St->Hp->Prop,(∀ σ' H',N σ' H'->∃ m',m' < m/\W m' σ' H')/\tb { D with nx:=N,ct:=N,bk:=D.nx } σ H1 else D.nx σ H1
end
structure It where
 go:Nat->Hp->Prop
 yld:Nat->Hp->V->Hp->Prop
 stop:Nat->Hp->Prop
def FpOk (X:Cx)(pins:Lp)(H:Hp)(b:Addr):Prop:= H b=none/\b≠X.env.locals/\b∉X.fs/\(b∈X.ex\/X.s₀.heap.objs.size<=b)/\(∀ x c,X.env.cells.lookup x=some c->c≠b)/\∀ p∈X.pn++pins,p.1≠b
theorem Inv.fpOk {pins:Lp}{s:Shared}(I:Inv X pins σ H s)(hb:s.heap.objs.size<=b)(hn:H' b=none):FpOk X pins H' b:=by
 refine⟨hn,Uq (uy I.lt hb),I.nofs hb,.inr (uJ I.sz hb),λx c e z=>?_,λp hp z=>?_⟩
 ·obtain⟨v,q⟩:=I.cell x c e;exact absurd (uy q.lt (by rw [z];exact hb)) (uX _)
 ·exact absurd (uy (uf (I.pin p hp).1) (by rw [z];exact hb)) (uX _)
structure Turn (P:Program)(w:World)(K:Le)(tg:Expr)(J:It)(fp:Ld)(it:Addr)(tn:Nat->Heap->Prop):Prop where
 mem:it∈fp
 obj:∀ i h,tn i h->∀ b∈fp,∃ o,h.get? b=some o/\∀ v,o.data≠.cell v
 keep:∀ i h h',tn i h->(∀ b∈fp,∀ o,h.get? b=some o->h'.get? b=some o)->tn i h'
 item:∀ (X:Cx),X.prog=P->X.w=w->X.K=K->X.calm=true->∀ (i:Nat) (pins:Lp) (s:Shared) (σ:St) (H:Hp) (E:Value->Shared->Prop),Inv X pins σ H s->(∀ b∈fp,FpOk X pins H b)->tn i s.heap->J.go i H ->
  wpAny (model P w) X.A (pyNext (.ref it)) (λr s1=>∃ u,r=some u /\
   wpAny (model P w) X.A (letOwnedTupleGo tg (.ref it) u) (λ_ s2=>∃ x H',Inv X pins σ H' s2/\RelV x u/\J.yld i H x H'/\tn (i+1) s2.heap/\∀ b∈fp,H' b=none) E s1) E s
 done:∀ (X:Cx),X.prog=P->X.w=w->X.K=K->X.calm=true->∀ (i:Nat) (pins:Lp) (s:Shared) (σ:St) (H:Hp) (E:Value->Shared->Prop),Inv X pins σ H s->(∀ b∈fp,FpOk X pins H b)->tn i s.heap->J.stop i H ->
  wpAny (model P w) X.A (pyNext (.ref it)) (λr s1=>r=none/\Inv X pins σ H s1) E s
 self:∀ (A:Around) (i:Nat) (s:Shared) (Q:Value->Shared->Prop) (E:Value->Shared->Prop),tn i s.heap->Q (.ref it) s->wpAny (model P w) A (pyIter (.ref it)) Q E s
noncomputable abbrev TI:=St->Hp->(It->Hp->Prop)->Prop
def PIE (X:Cx)(pins:Lp)(σ:St)(tg:Expr)(R:It->Hp->Prop)(itv:Value)(s2:Shared):Prop:= ∃ (it:Addr) (fp:Ld) (tn:Nat->Heap->Prop) (J:It) (H':Hp),itv=.ref it/\Inv X pins σ H' s2/\Turn X.prog X.w X.K tg J fp it tn/\tn 0 s2.heap/\(∀ b∈fp,FpOk X pins H' b)/\R J H'
def PI (X:Cx)(tg iter:Expr)(wi:TI):Prop:= ∀ (pins:Lp) (s:Shared) (σ:St) (H:Hp) (R:It->Hp->Prop),Inv X pins σ H s->wi σ H R -> wpAny (model X.prog X.w) X.A (eval iter X.env) (λv s1=>wpAny (model X.prog X.w) X.A (pyIter v) (PIE X pins σ tg R) X.xe s1) X.xe s
theorem zdP {s:Shared}{o:Obj}(ho:s.heap.get? it=some o)(hc:o.cls=.type n)(hd:o.data=.fields vs) (hn:["enumerate","zip","dict_itemiterator","dict_reverseitemiterator","odict_iterator","itertools.zip_longest","itertools.pairwise"].contains n=false) (hQ:Q () s):wpAny M A (letOwnedTupleGo tg (.ref it) u) Q E s:=by
  unfold letOwnedTupleGo
  cases tg<;>first
    | exact uc hQ
    | (cases u<;>first
        | exact uc hQ
        | (refine ua (wpAny_load ho ?_)
           rw [hc,hd]
           show wpAny M A (if (["enumerate","zip","dict_itemiterator","dict_reverseitemiterator","odict_iterator","itertools.zip_longest","itertools.pairwise"].contains n&&vs[0]? == some (rawInt _))=true then _ else _) Q E s
           rw [ub (by intro h;rw [hn,gO] at h;cases h)]
           exact uc hQ))
noncomputable def Itl (K:Le)(a:Addr):It:= ⟨λi H=>∃ xs x,SqL K H a xs/\xs[i]? = some x,λi H x H'=>H' = H/\∀ xs,SqL K H a xs->xs[i]? = some x,λi H=>∃ xs,SqL K H a xs/\xs.length<=i⟩
noncomputable def Itr (lo:Int)(n:Nat):It:=⟨λi _=>i<n,λi H x H'=>H' = H/\x=.int (lo+i),λi _=>n<=i⟩
theorem zc0 {P:Program}{w:World}{K:Le}{tg:Expr}(a it:Addr):Turn P w K tg (Itl K a) [it] it (λi h=>h.IsListIter it a i) where
 mem:=by simp
 obj:=λi h st b hb=>by
  have e:b=it:=by simpa using hb
  subst e
  obtain⟨o,e,c,d⟩:=st
  exact⟨o,e,λv z=>by rw [d] at z;cases z⟩
 keep:=λi h h' st k=>st.at λo e=>k it (by simp) o e
 item:=by
  intro X hP hw hK hc i pins s σ H E I hf st hg
  subst hP hw hK
  obtain⟨xs,x,hq,hx⟩:=hg
  obtain⟨its,rv,p,hz⟩:=I.list hq
  obtain⟨u,hu,ru⟩:=rv.get hx
  obtain⟨f0,f1,f2,f3,f4,f5⟩:=hf it (by simp)
  refine wpAny_pyNext_list_item st p.isList (x:=u) (by simpa using hu) λh' st' sb=>?_
  have I1:Inv X pins σ H { s with heap:=h' }:=I.turned (t':=s.toks) (λb o hb e=>(sb.2 b hb).trans e) f0 f1 f3 f4 f5
  obtain⟨o,e,c,d⟩:=id st'
  exact⟨u,rfl,zdP (s:={ s with heap:=h' }) e c d (by decide) ⟨x,H,I1,ru,⟨rfl,λys hy=>by rw [I.list_inj hy hq];exact hx⟩,st',λb hb=>(hf b hb).1⟩⟩
 done:=by
  intro X hP hw hK hc i pins s σ H E I hf st hg
  subst hP hw hK
  obtain⟨xs,hq,hx⟩:=hg
  obtain⟨its,rv,p,hz⟩:=I.list hq
  obtain⟨f0,f1,f2,f3,f4,f5⟩:=hf it (by simp)
  have hl:=rv.length
  exact wpAny_pyNext_list_end (I.ok.hd hc) st p.isList (by simp;lia) λh' eb=>⟨rfl,I.turned (t':=s.toks) (λb o hb e=>eb b o hb e) f0 f1 f3 f4 f5⟩
 self:=λ_ _ _ _ _ st h=>wpAny_pyIter_listiter st h
theorem zaf {P:Program}{w:World}{K:Le}{tg:Expr}(it:Addr)(lo:Int)(n:Nat):Turn P w K tg (Itr lo n) [it] it (λi h=>IsRangeIter h it (lo+(i:Nat) * 1) ((n:Int) - (i:Nat)) 1) where
 mem:=by simp
 obj:=λi h st b hb=>by
  have e:b=it:=by simpa using hb
  subst e
  exact⟨_,st,λv z=>by
   have z':Data.fields _=Data.cell v:=z
   cases z'⟩
 keep:=λi h h' st k=>k it (by simp) _ st
 item:=by
  intro X hP hw hK hc i pins s σ H E I hf st hg
  subst hP hw hK
  obtain⟨f0,f1,f2,f3,f4,f5⟩:=hf it (by simp)
  have W:=Walks.range (prog:=X.prog) (w:=X.w) (I.ok.hd hc) it lo 1 n
  refine W.item i s _ _ hg st λv h' tk hv st' kk=>?_
  obtain⟨t,rfl⟩:=hv
  have I1:Inv X pins σ H { s with heap:=h',toks:=tk }:=I.turned (λb o hb e=>kk b o (by simpa using hb) e) f0 f1 f3 f4 f5
  refine⟨_,rfl,zdP (s:={ s with heap:=h',toks:=tk }) (n:="range_iterator") st' rfl rfl (by decide) ⟨.int (lo+i),H,I1,⟨t,?_⟩,⟨rfl,rfl⟩,st',λb hb=>(hf b hb).1⟩⟩
  rw [Int.mul_one]
 done:=by
  intro X hP hw hK hc i pins s σ H E I hf st hg
  subst hP hw hK
  obtain⟨f0,f1,f2,f3,f4,f5⟩:=hf it (by simp)
  exact wpAny_pyNext_range_end (I.ok.hd hc) st (by have:n<=i:=hg;lia) λh' eb=>⟨rfl,I.turned (t':=s.toks) (λb o hb e=>eb b o hb e) f0 f1 f3 f4 f5⟩
 self:=λ_ _ _ _ _ st h=>wpAny_pyIter_rangeiter st h
section
variable {X:Cx} {tg:Expr}
noncomputable def YJ (K:Le)(tl:TE):TI:=λσ H R=>tl σ H λx H1=>∃ a,x=.ref a/\(∃ xs,SqL K H1 a xs)/\R (Itl K a) H1
theorem zgd {l:Expr}{tl:TE}(hl:PE X l tl):PI X tg l (YJ X.K tl):=by
 intro pins s σ H R I h;refine thn (hl pins s σ H _ I h) λv s1 zq=>?_;obtain⟨x,H1,I1,r1,q1⟩:=zq;obtain⟨a,e,⟨xs,hq⟩,q⟩:=q1;subst e;cases r1;obtain⟨its,rv,p,hz⟩:=I1.list hq;refine wpAny_pyIter_list p.isList ?_;refine⟨s1.heap.objs.size,[s1.heap.objs.size],_,_,H1,rfl,I1.kept (t':=s1.toks) λb o e=>ue _ e,zc0 a _,⟨_,uz _ rfl,rfl,rfl⟩,λb hb=>?_,q⟩;have e:b=s1.heap.objs.size:=by simpa using hb
 subst e;exact I1.fpOk (ui _) (I1.hok.fresh (ui _))
theorem zdQ {pins:Lp}{σ:St}{H:Hp}{s:Shared}{R:It->Hp->Prop}{E:Value->Shared->Prop}{lo hi:Int}{t u v:Tok}{tk:Nat}(I:Inv X pins σ H s)(h1:-(2 ^ 62)<=lo)(h2:lo<2 ^ 62)(h3:-(2 ^ 62)<=hi)(h4:hi<2 ^ 62) (q:R (Itr lo (hi - lo).toNat) H):wpAny (model X.prog X.w) X.A (pyIter (.ref s.heap.objs.size)) (PIE X pins σ tg R) E { s with heap:=s.heap.push { cls:=.type "range",data:=.fields #[.int lo t,.int hi u,.int 1 v] },toks:=tk }:=by
 refine wpAny_pyIter_range (IsRange.new ..) (small_one h1 h2 h3 h4) ?_;have I1:Inv X pins σ H { s with heap:=s.heap.push { cls:=.type "range",data:=.fields #[.int lo t,.int hi u,.int 1 v] },toks:=tk }:=I.kept λb o e=>ue _ e
 refine⟨(s.heap.push { cls:=.type "range",data:=.fields #[.int lo t,.int hi u,.int 1 v] }).objs.size,[(s.heap.push { cls:=.type "range",data:=.fields #[.int lo t,.int hi u,.int 1 v] }).objs.size],_,_,H,rfl,
  I1.kept (t':=tk) λb o e=>ue _ e,zaf _ lo (hi - lo).toNat,?_,λb hb=>?_,q⟩
 ·have e1:lo+((0:Nat):Int) * 1=lo:=by simp
  have e2:(((hi - lo).toNat:Nat):Int) - ((0:Nat):Int)=Builtin.Range.rangeSize lo hi 1:=by rw [rangeSize_one];split<;>lia
  show IsRangeIter _ _ (lo+((0:Nat):Int) * 1) ((((hi - lo).toNat:Nat):Int) - ((0:Nat):Int)) 1;rw [e1,e2];exact uz _ rfl
 ·have e:b=(s.heap.push { cls:=.type "range",data:=.fields #[.int lo t,.int hi u,.int 1 v] }).objs.size:=by simpa using hb
  subst e;exact I1.fpOk (ui _) (I1.hok.fresh (ui _))
noncomputable def zbL (ta:TA):TI:=λσ H R=>ta σ H λvs H1=>∃ j:Int,vs=[.int j]/\-(2 ^ 62)<=j/\j<2 ^ 62/\R (Itr 0 j.toNat) H1
theorem zc1 {a:Expr}{ta:TA}{p pos:Pos}(hg:Gl X "range")(hm:X.mg "range" = none)(ha:PA X [a] ta)(hs:starEach [a] X.env=[(false,eval a X.env)]:=by rfl):PI X tg (.Call (.Name "range" p) [a] [] pos) (zbL ta):=by
 intro pins s σ H R I h;refine Call_ (Z7 I hg hm boot_range (PyProof.Rows.callWith_type1 (thn (ha pos pins s σ H _ I h) λus s1 zq=>?_) hs rfl));obtain⟨vs,H1,I1,r1,q1⟩:=zq;obtain⟨j,e,q1,q2,q⟩:=q1;subst e;cases r1 with
 | cons r rr=>cases rr;obtain⟨t,rfl⟩:=r;exact call_range_1 (zdQ I1 (by omega) (by omega) q1 q2 (by simpa using q))
noncomputable def tFor (wi:TI)(g:TG)(tb:TS):TS:=λD σ H=>wi σ H λJ H1=>∃ W:Nat->Nat->St->Hp->Prop,(∃ m,W 0 m σ H1)/\∀ i m σ H,W i m σ H ->
 (J.stop i H/\D.nx σ H)\/(J.go i H/\∃ N:St->Hp->Prop,(∀ σ' H',N σ' H'->∃ m',m' < m/\W (i+1) m' σ' H')/\∀ x H',J.yld i H x H'->g x σ H' λσ2 H2=>tb { D with nx:=N,ct:=N,bk:=D.nx } σ2 H2)
noncomputable def Jg (fp:Ld)(h:Heap):Lp:=fp.filterMap λb=>(h.get? b).map λo=>(b,o)
theorem y3 {h:Heap}(hb:b∈fp)(e:h.get? b=some o):(b,o)∈Jg fp h:=List.mem_filterMap.mpr ⟨b,hb,by rw [e];rfl⟩
theorem zc2 {h:Heap}(hp:p∈Jg fp h):p.1∈fp/\h.get? p.1=some p.2:=by
 obtain⟨b,hb,e⟩:=List.mem_filterMap.mp hp;cases q:h.get? b with
 | none=>rw [q] at e;cases e
 | some o=>rw [q] at e;have e':(b,o)=p:=uF e;subst e';exact⟨hb,q⟩
theorem Inv.pinned {pins:Lp}{s:Shared}(I:Inv X pins σ H s)(hf:∀ b∈fp,FpOk X pins H b)(ho:∀ b∈fp,∃ o,s.heap.get? b=some o/\∀ v,o.data≠.cell v):Inv X (pins++Jg fp s.heap) σ H s:=
 I.pins_of λp hp=>(Ud.mp hp).elim (λz=>I.pin p (uR _ z)) λz=>by
  obtain⟨hb,e⟩:=zc2 z
  obtain⟨f0,f1,f2,_⟩:=hf p.1 hb
  obtain⟨o,e',d⟩:=ho p.1 hb
  rw [e] at e';cases e'
  exact⟨e,f0,f1,f2,d⟩
theorem Inv.unpinned {pins pl:Lp}(I:Inv X (pins++pl) σ H s):Inv X pins σ H s:=I.pins_of λp hp=>I.pin p (uR _ (uV _ hp))
theorem zih {iter:Expr}{body:List Stmt}{wi:TI}{g:TG}{tb:TS}{pos:Pos}(hp:PassesOwn (model X.prog X.w) X.A X.env X.xe)(hc:X.calm=true)(hi:PI X tg iter wi)(hg:PG X tg g)(hb:PSs X body tb) (hs:∀ x,foldedSetIterable iter X.env x=pure x:=by intro _;rfl):PS X (.For tg iter body [] pos) (tFor wi g tb):=by
 intro pins s σ H D I h;refine wpAny_For (thn (hi pins s σ H _ I h) λv s1 h1=>thn h1 λitv s2 h2=>?_) hs;obtain⟨it,fp,tn,J,H2,e,I2,T,st2,f2,W,⟨m0,w0⟩,turn⟩:=h2;subst e;have stat:∀ {H':Hp},(∀ b∈fp,H' b=none)->∀ b∈fp,FpOk X pins H' b:=λhn b hb=>⟨hn b hb,(f2 b hb).2⟩
 refine codeAny_forLoop_any (λn s'=>∃ i σ' H',Inv X pins σ' H' s'/\tn i s'.heap/\(∀ b∈fp,H' b=none)/\W i n σ' H') ?_ m0 ⟨0,σ,H2,I2,st2,λb hb=>(f2 b hb).1,w0⟩;rintro n s3 ⟨i,σ3,H3,I3,st3,fr3,w3⟩;rcases turn i n σ3 H3 w3 with⟨stop,qn⟩ | ⟨go,N,hN,step⟩
 ·refine UM hp (thn (T.done X rfl rfl rfl hc i pins s3 σ3 H3 X.xe I3 (stat fr3) st3 stop) λr s4 zq=>?_);obtain⟨hr,I4⟩:=zq;subst hr;exact U5 ⟨σ3,H3,I4,qn⟩
 ·refine UM hp (thn (T.item X rfl rfl rfl hc i pins s3 σ3 H3 X.xe I3 (stat fr3) st3 go) λr s4 zq=>?_);obtain⟨u,hr,h4⟩:=zq;subst hr;refine UM hp (thn h4 λ_ s5 zq=>?_);obtain⟨x,H5,I5,r5,y5,st5,fr5⟩:=zq;have I5':=I5.pinned (stat fr5) (T.obj _ _ st5);refine UM hp (thn (hg _ s5 σ3 H5 x u _ I5' r5 (step x H5 y5)) λ_ s6 zq=>?_);obtain⟨σ6,H6,I6,q6⟩:=zq;refine UM hp (thn (hb _ s6 σ6 H6 _ I6 q6) λf s7 q7=>?_);have again:∀ {σ7:St} {H7:Hp},Inv X (pins++Jg fp s5.heap) σ7 H7 s7->N σ7 H7->∃ m,m<n/\∃ i σ' H',Inv X pins σ' H' s7/\tn i s7.heap/\(∀ b∈fp,H' b=none)/\W i m σ' H':=λ{σ7 H7} I7 n7=>by obtain⟨m',hm,w7⟩:=hN σ7 H7 n7;refine⟨m',hm,i+1,σ7,H7,I7.unpinned,T.keep _ _ _ st5 λb hb o e=>(I7.pin (b,o) (uR _ (uR _ (y3 hb e)))).1,λb hb=>?_,w7⟩;obtain⟨o,e,d⟩:=T.obj _ _ st5 b hb;exact(I7.pin (b,o) (uR _ (uR _ (y3 hb e)))).2.1
  cases f with
  | next=>obtain⟨σ7,H7,I7,n7⟩:=q7;exact again I7 n7
  | cont=>obtain⟨σ7,H7,I7,n7⟩:=q7;exact again I7 n7
  | brk=>obtain⟨σ7,H7,I7,q7⟩:=q7;exact⟨σ7,H7,I7.unpinned,q7⟩
  | ret v=>obtain⟨x7,σ7,H7,I7,r7,q7⟩:=q7;exact⟨x7,σ7,H7,I7.unpinned,r7,q7⟩
end
theorem zdR {K:Le}{a:Addr}{xs:List V}{g:TG}{tb:TS}{D:Ends}{σ:St}{H:Hp}(Pv:Nat->St->Hp->Prop)(h0:Pv 0 σ H)(hl:∀ i σ H,i<=xs.length->Pv i σ H->SqL K H a xs) (hs:∀ i x σ H,xs[i]? = some x->Pv i σ H->g x σ H λσ2 H2=>tb { D with nx:=Pv (i+1),ct:=Pv (i+1),bk:=D.nx } σ2 H2) (hd:∀ σ H,Pv xs.length σ H->D.nx σ H) : ∃ W:Nat->Nat->St->Hp->Prop,(∃ m,W 0 m σ H)/\∀ i m σ H,W i m σ H -> ((Itl K a).stop i H/\D.nx σ H)\/((Itl K a).go i H/\∃ N:St->Hp->Prop,(∀ σ' H',N σ' H'->∃ m',m' < m/\W (i+1) m' σ' H')/\∀ x H',(Itl K a).yld i H x H'->g x σ H' λσ2 H2=>tb { D with nx:=N,ct:=N,bk:=D.nx } σ2 H2):=by
 refine⟨λi m σ H=>m=xs.length - i/\i<=xs.length/\Pv i σ H,⟨xs.length,by simp,UD _,h0⟩,?_⟩;rintro i m σ H ⟨rfl,hi,p⟩;have q:=hl i σ H hi p;by_cases hlt:i<xs.length
 ·refine .inr ⟨⟨xs,xs[i],q,by simp [hlt]⟩,Pv (i+1),λσ' H' p'=>⟨xs.length - (i+1),by lia,rfl,hlt,p'⟩,λx H' y=>?_⟩;obtain⟨e,y⟩:=y;subst e;exact hs i x σ _ (y xs q) p
 ·have e:i=xs.length:=by lia
  subst e;exact .inl ⟨⟨xs,q,ui _⟩,hd σ H p⟩
noncomputable abbrev R2:=V->V->Hp->VK->Prop
def OpR (X:Cx)(f:Value->Value->Sem Value)(r:R2):Prop:= ∀ (pins:Lp) (s:Shared) (σ:St) (H:Hp) (x y:V) (v u:Value) (Q:VK),Inv X pins σ H s->RelV x v->RelV y u->r x y H Q -> wpAny (model X.prog X.w) X.A (f v u) (EP X pins σ Q) X.xe s
def UnR (X:Cx)(f:Value->Sem Value)(r:V->Hp->VK->Prop):Prop:= ∀ (pins:Lp) (s:Shared) (σ:St) (H:Hp) (x:V) (v:Value) (Q:VK),Inv X pins σ H s->RelV x v->r x H Q -> wpAny (model X.prog X.w) X.A (f v) (EP X pins σ Q) X.xe s
def jV (X:Cx)(f:Value)(r:List V->Hp->VK->Prop):Prop:= ∀ (pins:Lp) (s:Shared) (σ:St) (H:Hp) (xs:List V) (us:Lf) (Q:VK),Inv X pins σ H s->Vals xs us->r xs H Q -> wpAny (model X.prog X.w) X.A (call f us) (EP X pins σ Q) X.xe s
def TruR (X:Cx)(r:V->Hp->(Bool->Hp->Prop)->Prop):Prop:= ∀ (pins:Lp) (s:Shared) (σ:St) (H:Hp) (x:V) (v:Value) (Q:Bool->Hp->Prop),Inv X pins σ H s->RelV x v->r x H Q -> wpAny (model X.prog X.w) X.A (truthy v) (TP X pins σ Q) X.xe s
noncomputable def tOp (r:R2)(ta tb:TE):TE:=λσ H Q=>ta σ H λx H1=>tb σ H1 λy H2=>r x y H2 Q
noncomputable def tUn (r:V->Hp->VK->Prop)(ta:TE):TE:=λσ H Q=>ta σ H λx H1=>r x H1 Q
noncomputable def rI (C:Int->Int->Prop)(g:Int->Int->V):R2:=λx y H Q=>∃ i j,x=.int i/\y=.int j/\C i j/\Q (g i j) H
noncomputable def rI0 (g:Int->Int->V):R2:=λx y H Q=>∃ i j,x=.int i/\y=.int j/\Q (g i j) H
noncomputable def rU (g:Int->V):V->Hp->VK->Prop:=λx H Q=>∃ i,x=.int i/\Q (g i) H
section
variable {X:Cx} {a b c:Expr} {ta tb tc:TE} {pos:Pos}
theorem binT (ha:PE X a ta)(hb:PE X b tb){pins:Lp}{s:Shared}{σ:St}{H:Hp}{R:V->V->Hp->Prop}(I:Inv X pins σ H s) (h:ta σ H λx H1=>tb σ H1 λy H2=>R x y H2) {Q:Value->Shared->Prop} {f:Value->Value->Sem Value} (hf:∀ v u s2 x y H2,Inv X pins σ H2 s2->RelV x v->RelV y u->R x y H2->wpAny (model X.prog X.w) X.A (f v u) Q X.xe s2) : wpAny (model X.prog X.w) X.A (eval a X.env) (λv s₁=>wpAny (model X.prog X.w) X.A (eval b X.env) (λu s₂=>wpAny (model X.prog X.w) X.A (f v u) Q X.xe s₂) X.xe s₁) X.xe s:=by refine thn (ha pins s σ H _ I h) λv s1 zq=>?_;obtain⟨x,H1,I1,r1,q1⟩:=zq;refine thn (hb pins s1 σ H1 _ I1 q1) λu s2 zq=>?_;obtain⟨y,H2,I2,r2,q2⟩:=zq;exact hf v u s2 x y H2 I2 r1 r2 q2
theorem zku (ho:OpR X (binaryOp op) r)(ha:PE X a ta)(hb:PE X b tb):PE X (.BinOp a op b pos) (tOp r ta tb):=by intro pins s σ H Q I h;exact wpAny_BinOp (binT ha hb I h λv u s2 x y H2 I2 rx ry q=>ho pins s2 σ H2 x y v u Q I2 rx ry q)
theorem zkv {op:UnaryOp}{r:V->Hp->VK->Prop}(ho:UnR X (unaryOp op) r)(ha:PE X a ta):PE X (.UnaryOp op a pos) (tUn r ta):=by intro pins s σ H Q I h;exact UnaryOp_ (thn (ha pins s σ H _ I h) λv s1 ⟨x,H1,I1,r1,q1⟩=>ho pins s1 σ H1 x v Q I1 r1 q1)
theorem opI {f:Value->Value->Sem Value}{C:Int->Int->Prop}{g:Int->Int->Int} (rule:∀ (i j:Int) (t u:Tok) (s:Shared) (Q:Value->Shared->Prop) (E:Value->Shared->Prop),C i j->Q (.int (g i j) s.toks) { s with toks:=s.toks+1 }->wpAny (model X.prog X.w) X.A (f (.int i t) (.int j u)) Q E s) : OpR X f (rI C λi j=>.int (g i j)):=by intro pins s σ H x y v u Q I rx ry h;obtain⟨i,j,rfl,rfl,hc,q⟩:=h;obtain⟨t,rfl⟩:=rx;obtain⟨t',rfl⟩:=ry;exact rule i j t t' s _ _ hc ⟨.int (g i j),H,I.tok _,⟨_,rfl⟩,q⟩
theorem opI0 {f:Value->Value->Sem Value}{g:Int->Int->Int} (rule:∀ (i j:Int) (t u:Tok) (s:Shared) (Q:Value->Shared->Prop) (E:Value->Shared->Prop),Q (.int (g i j) s.toks) { s with toks:=s.toks+1 }->wpAny (model X.prog X.w) X.A (f (.int i t) (.int j u)) Q E s) : OpR X f (rI0 λi j=>.int (g i j)):=by intro pins s σ H x y v u Q I rx ry h;obtain⟨i,j,rfl,rfl,q⟩:=h;obtain⟨t,rfl⟩:=rx;obtain⟨t',rfl⟩:=ry;exact rule i j t t' s _ _ ⟨.int (g i j),H,I.tok _,⟨_,rfl⟩,q⟩
theorem opB0 {f:Value->Value->Sem Value}{g:Int->Int->Bool} (rule:∀ (i j:Int) (t u:Tok) (s:Shared) (Q:Value->Shared->Prop) (E:Value->Shared->Prop),Q (.bool (g i j)) s->wpAny (model X.prog X.w) X.A (f (.int i t) (.int j u)) Q E s) : OpR X f (rI0 λi j=>.bl (g i j)):=by intro pins s σ H x y v u Q I rx ry h;obtain⟨i,j,rfl,rfl,q⟩:=h;obtain⟨t,rfl⟩:=rx;obtain⟨t',rfl⟩:=ry;exact rule i j t t' s _ _ ⟨.bl (g i j),H,I,rfl,q⟩
def CPow (i j:Int):Prop:=0<=j/\j<=1000000/\i.natAbs<2 ^ 64
def CMul (i j:Int):Prop:=(-(2 ^ 64)<i/\i<2 ^ 64)\/(-(2 ^ 64)<j/\j<2 ^ 64)
theorem CMul.ok (h:CMul i j):IntMulOk i j:=by
 rcases h with⟨h1,h2⟩ | ⟨h1,h2⟩
 ·exact .of_left (intBits_le_64 h1 h2)
 ·exact .of_right (intBits_le_64 h1 h2)
theorem zag (k:Nat):(0:Int)<=2 ^ k:=by rw [two_pow_cast];exact Int.natCast_nonneg _
theorem jh:OpR X (binaryOp .Add) (rI0 λi j=>.int (i+j)):=opI0 λ_ _ _ _ _ _ _ q=>add_int q
theorem WC:OpR X (binaryOp .Sub) (rI0 λi j=>.int (i - j)):=opI0 λ_ _ _ _ _ _ _ q=>sub_int q
theorem xF:OpR X (binaryOp .Mod) (rI (λ_ j=>0<j) λi j=>.int (i % j)):=opI λi j _ _ _ _ _ hc q=>by have h1:(0:Int)<j:=hc;exact mod_int' (by lia) (by rw [Int.fmod_eq_emod_of_nonneg i (by lia)];exact q)
theorem WD:OpR X (binaryOp .Pow) (rI CPow λi j=>.int (i ^ j.toNat)):=opI λ_ _ _ _ _ _ _ hc q=>pow_int_small hc.1 hc.2.1 hc.2.2 q
theorem zdS:OpR X (binaryOp .RShift) (rI (λ_ j=>0<=j) λi j=>.int (i / 2 ^ j.toNat)):=opI λi j _ _ _ _ _ hc q=>
 rshift_int hc (by rw [Int.fdiv_eq_ediv_of_nonneg i (zag _)];exact q)
theorem unI {f:Value->Sem Value}{g:Int->Int} (rule:∀ (i:Int) (t:Tok) (s:Shared) (Q:Value->Shared->Prop) (E:Value->Shared->Prop),Q (.int (g i) s.toks) { s with toks:=s.toks+1 }->wpAny (model X.prog X.w) X.A (f (.int i t)) Q E s) : UnR X f (rU λi=>.int (g i)):=by intro pins s σ H x v Q I rx h;obtain⟨i,rfl,q⟩:=h;obtain⟨t,rfl⟩:=rx;exact rule i t s _ _ ⟨.int (g i),H,I.tok _,⟨_,rfl⟩,q⟩
theorem zah:UnR X (unaryOp .USub) (rU λi=>.int (-i)):=unI λ_ _ _ _ _ q=>neg_int q
end
noncomputable def scal:V->V->Bool
 | .non,.non=>true | .non,.int _=>true | .int _,.non=>true | .non,.bl _=>true | .bl _,.non=>true | .non,.str _=>true | .str _,.non=>true
 | .int _,.int _=>true | .bl _,.bl _=>true | .str _,.str _=>true | .byt _,.byt _=>true
 | .int _,.str _=>true | .str _,.int _=>true | .bl _,.str _=>true | .str _,.bl _=>true
 | _,_=>false
noncomputable def rEq:R2:=λx y H Q=>scal x y=true/\Q (.bl (decide (x=y))) H
noncomputable def rNe:R2:=λx y H Q=>scal x y=true/\Q (.bl (!decide (x=y))) H
theorem zbM:decide (V.int i=V.int j)=(i == j):=by rw [UC];simp
theorem zdT:decide (V.bl i=V.bl j)=(i == j):=by rw [UC];simp
theorem zbN:decide (V.str i=V.str j)=(i == j):=by rw [UC];simp
theorem zbO {i j:Array UInt8}:decide (V.byt i=V.byt j)=(i.toList == j.toList):=by rw [UC];cases i;cases j;simp
section
variable {X:Cx} {a b c:Expr} {ta tb tc:TE} {pos:Pos}
theorem zQ {pins:Lp}(I:Inv X pins σ H s)(q:Q (.bl k) H)(e:k=k'):EP X pins σ Q (.bool k') s:=by subst e;exact⟨.bl k,H,I,rfl,q⟩
theorem zv:OpR X (compareOp .Eq) rEq:=by
 intro pins s σ H x y v u Q I rx ry h;obtain⟨hs,q⟩:=h;cases x with
 | non=>
  cases rx;cases y with
  | non=>cases ry;exact PySem.EqNone.eq_none_none (zQ I q (by simp))
  | bl j=>cases ry;exact PySem.EqNone.eq_none_bool (zQ I q (by simp))
  | int j=>obtain⟨t',rfl⟩:=ry;exact PySem.EqNone.eq_none_int (zQ I q (by simp))
  | str j=>obtain⟨t',rfl⟩:=ry;exact PySem.EqNone.eq_none_str (zQ I q (by simp))
  | _=>exact absurd (show false=true from hs) uD
 | bl i=>
  cases rx;cases y with
  | non=>cases ry;exact PySem.EqNone.eq_bool_none (zQ I q (by simp))
  | bl j=>cases ry;exact eq_bool (zQ I q zdT)
  | str j=>obtain⟨t',rfl⟩:=ry;exact PySem.EqMixed.eq_bool_str (zQ I q (by simp))
  | _=>exact absurd (show false=true from hs) uD
 | int i=>
  obtain⟨t,rfl⟩:=rx;cases y with
  | non=>cases ry;exact PySem.EqNone.eq_int_none (zQ I q (by simp))
  | int j=>obtain⟨t',rfl⟩:=ry;exact eq_int (zQ I q zbM)
  | str j=>obtain⟨t',rfl⟩:=ry;exact PySem.EqMixed.eq_int_str (zQ I q (by simp))
  | _=>exact absurd (show false=true from hs) uD
 | str i=>
  obtain⟨t,rfl⟩:=rx;cases y with
  | non=>cases ry;exact PySem.EqNone.eq_str_none (zQ I q (by simp))
  | bl j=>cases ry;exact PySem.EqMixed.eq_str_bool (zQ I q (by simp))
  | int j=>obtain⟨t',rfl⟩:=ry;exact PySem.EqMixed.eq_str_int (zQ I q (by simp))
  | str j=>obtain⟨t',rfl⟩:=ry;exact eq_str (zQ I q zbN)
  | _=>exact absurd (show false=true from hs) uD
 | byt i=>
  obtain⟨t,rfl⟩:=rx;cases y with
  | byt j=>obtain⟨t',rfl⟩:=ry;exact PySem.W.eq_bytes (zQ I q zbO)
  | _=>exact absurd (show false=true from hs) uD
 | _=>cases y<;>exact absurd (show false=true from hs) uD
theorem zdU:OpR X (compareOp .NotEq) rNe:=by
 intro pins s σ H x y v u Q I rx ry h;obtain⟨hs,q⟩:=h;cases x with
 | non=>
  cases rx;cases y with
  | non=>cases ry;exact PySem.EqNone.ne_none_none (zQ I q (by simp))
  | bl j=>cases ry;exact PySem.EqNone.ne_none_bool (zQ I q (by simp))
  | int j=>obtain⟨t',rfl⟩:=ry;exact PySem.EqNone.ne_none_int (zQ I q (by simp))
  | str j=>obtain⟨t',rfl⟩:=ry;exact PySem.EqNone.ne_none_str (zQ I q (by simp))
  | _=>exact absurd (show false=true from hs) uD
 | bl i=>
  cases rx;cases y with
  | non=>cases ry;exact PySem.EqNone.ne_bool_none (zQ I q (by simp))
  | bl j=>cases ry;exact ne_bool (zQ I q (congrArg not zdT))
  | str j=>obtain⟨t',rfl⟩:=ry;exact PySem.EqMixed.ne_bool_str (zQ I q (by simp))
  | _=>exact absurd (show false=true from hs) uD
 | int i=>
  obtain⟨t,rfl⟩:=rx;cases y with
  | non=>cases ry;exact PySem.EqNone.ne_int_none (zQ I q (by simp))
  | int j=>obtain⟨t',rfl⟩:=ry;exact ne_int (zQ I q (congrArg not zbM))
  | str j=>obtain⟨t',rfl⟩:=ry;exact PySem.EqMixed.ne_int_str (zQ I q (by simp))
  | _=>exact absurd (show false=true from hs) uD
 | str i=>
  obtain⟨t,rfl⟩:=rx;cases y with
  | non=>cases ry;exact PySem.EqNone.ne_str_none (zQ I q (by simp))
  | bl j=>cases ry;exact PySem.EqMixed.ne_str_bool (zQ I q (by simp))
  | int j=>obtain⟨t',rfl⟩:=ry;exact PySem.EqMixed.ne_str_int (zQ I q (by simp))
  | str j=>obtain⟨t',rfl⟩:=ry;exact ne_str (zQ I q (congrArg not zbN))
  | _=>exact absurd (show false=true from hs) uD
 | byt i=>
  obtain⟨t,rfl⟩:=rx;cases y with
  | byt j=>obtain⟨t',rfl⟩:=ry;exact PySem.W.ne_bytes (zQ I q (congrArg not zbO))
  | _=>exact absurd (show false=true from hs) uD
 | _=>cases y<;>exact absurd (show false=true from hs) uD
theorem zdV:OpR X (compareOp .Lt) (rI0 λi j=>.bl (decide (i<j))):=opB0 λ_ _ _ _ _ _ _ q=>lt_int q
theorem WE:OpR X (compareOp .Gt) (rI0 λi j=>.bl (decide (j<i))):=opB0 λ_ _ _ _ _ _ _ q=>gt_int q
theorem XY:OpR X (compareOp .In) (λx y H Q=>∃ i j,x=.str i/\y=.str j/\Q (.bl (!(Builtin.Str.occurrences j i 0 j.length 1).isEmpty)) H):=by intro pins s σ H x y v u Q I rx ry h;obtain⟨i,j,rfl,rfl,q⟩:=h;obtain⟨t,rfl⟩:=rx;obtain⟨t',rfl⟩:=ry;exact in_str (zQ I q rfl)
theorem Jh:OpR X (compareOp .Is) (λx y H Q=>y=.non/\Q (.bl (decide (x=.non))) H):=by
 intro pins s σ H x y v u Q I rx ry h;obtain⟨rfl,q⟩:=h;cases ry;refine is_none_gen (zQ I q ?_)
 cases x<;>first
  | (cases rx;rfl)
  | (obtain⟨t,rfl⟩:=rx;rfl)
theorem Wj:OpR X (compareOp .IsNot) (λx y H Q=>y=.non/\Q (.bl (!decide (x=.non))) H):=by
 intro pins s σ H x y v u Q I rx ry h;obtain⟨rfl,q⟩:=h;cases ry;refine isnot_none_gen (zQ I q ?_)
 cases x<;>first
  | (cases rx;rfl)
  | (obtain⟨t,rfl⟩:=rx;rfl)
theorem Vm:OpR X (compareOp .NotIn) (λx y H Q=>∃ i j,x=.str i/\y=.str j/\Q (.bl (!(!(Builtin.Str.occurrences j i 0 j.length 1).isEmpty))) H):=by intro pins s σ H x y v u Q I rx ry h;obtain⟨i,j,rfl,rfl,q⟩:=h;obtain⟨t,rfl⟩:=rx;obtain⟨t',rfl⟩:=ry;exact notIn_str (zQ I q rfl)
theorem OpR.or (h:OpR X f r)(h':OpR X f r'):OpR X f (λx y H Q=>r x y H Q\/r' x y H Q):=by
 intro pins s σ H x y v u Q I rx ry q;rcases q with q | q
 ·exact h pins s σ H x y v u Q I rx ry q
 ·exact h' pins s σ H x y v u Q I rx ry q
theorem zdW (b:Expr)(h:op≠.In:=by decide) (h2:op≠.NotIn:=by decide):behindInMarks op b=false:=by
 have e1:(op == CmpOp.In)=false:=by cases op<;>first | rfl | exact absurd rfl h
 have e2:(op == CmpOp.NotIn)=false:=by cases op<;>first | rfl | exact absurd rfl h2
 cases b<;>simp [behindInMarks,e1,e2]
theorem zge (ho:OpR X (compareOp op) r)(ha:PE X a ta)(hb:PE X b tb)(hm:behindInMarks op b=false):PE X (.Compare a [op] [b] pos) (tOp r ta tb):=by intro pins s σ H Q I h;exact wpAny_Compare1 (binT ha hb I h λv u s2 x y H2 I2 rx ry q=>ho pins s2 σ H2 x y v u Q I2 rx ry q) hm
noncomputable def YK (t:TE):TT:=λσ H Q=>t σ H λx H'=>∃ k,x=.bl k/\Q k H'
theorem zgf {op:CmpOp}{r:R2}(ho:OpR X (compareOp op) r)(ha:PE X a ta)(hb:PE X b tb)(hm:behindInMarks op b=false):PT X (.Compare a [op] [b] pos) (YK (tOp r ta tb)):=by
 intro pins s σ H Q I h
 refine wpAny_isTrue_Compare1 (thn (ha pins s σ H _ I h) λv s1 ⟨x,H1,I1,r1,q1⟩=>thn (hb pins s1 σ H1 _ I1 q1) λu s2 ⟨y,H2,I2,r2,q2⟩=>
  thn (ho pins s2 σ H2 x y v u _ I2 r1 r2 q2) λc s3 ⟨z,H3,I3,r3,k,e,q3⟩=>?_) hm
 subst e;cases r3;exact gx ⟨H3,I3,q3⟩
def TruV (K:Le)(x:V)(H:Hp)(k:Bool):Prop:=
 match x with
 | .non=>k=false
 | .bl b=>k=b
 | .int i=>k=(i != 0)
 | .str y=>y.length<=sizeLine/\k=((y.length:Int) != 0)
 | .byt y=>y.size<=sizeLine/\k=((y.size:Int) != 0)
 | .ref p=>(∃ xs,SqL K H p xs/\k = !xs.isEmpty)\/(∃ xs,SqT K H p xs/\k = !xs.isEmpty)\/∃ kvs,H p=some (.dK kvs)/\k = !kvs.isEmpty
 | _=>False
theorem zai {κ:Type}{kvs:List (κ×V)}{vs:List (κ×Value)}(r:KV kvs vs):(!vs.isEmpty) = !kvs.isEmpty:=by cases r<;>rfl
theorem WG {xs:List V}{its:Lf}(r:Vals xs its):(!its.toArray.isEmpty) = !xs.isEmpty:=by cases r<;>simp
theorem Z8:(sizeLine:Nat)<2 ^ 63:=by rw [uO];decide
theorem zii:TruR X (λx H Q=>∃ k,TruV X.K x H k/\Q k H):=by
 intro pins s σ H x v Q I rx h;obtain⟨k,e,q⟩:=h;have hl:=Z8;have hs:sizeLine=16777216:=uO;cases x with
 | non=>cases rx;have e':k=false:=e;subst e';exact truthy_none ⟨H,I,q⟩
 | bl b=>cases rx;have e':k=b:=e;subst e';exact gx ⟨H,I,q⟩
 | int i=>obtain⟨t,rfl⟩:=rx;have e':k=(i != 0):=e;subst e';exact PySem.P.truthy_int ⟨H,I,q⟩
 | str y=>obtain⟨t,rfl⟩:=rx;obtain⟨hy,e'⟩:y.length<=sizeLine/\k=((y.length:Int) != 0):=e;subst e';exact PySem.P.truthy_str (by omega) ⟨H,I.tok _,q⟩
 | byt y=>obtain⟨t,rfl⟩:=rx;obtain⟨hy,e'⟩:y.size<=sizeLine/\k=((y.size:Int) != 0):=e;subst e';exact PySem.W.truthy_bytes (by omega) ⟨H,I.tok _,q⟩
 | ref p=>
  cases rx;have e':(∃ xs,SqL X.K H p xs/\k = !xs.isEmpty)\/(∃ xs,SqT X.K H p xs/\k = !xs.isEmpty)\/∃ kvs,H p=some (.dK kvs)/\k = !kvs.isEmpty:=e;rcases e' with⟨xs,hx,e'⟩ | ⟨xs,hx,e'⟩ | ⟨kvs,hx,e'⟩
  ·subst e';obtain⟨its,r,pl,hz⟩:=I.list hx;have hlen:=r.length;exact wpAny_truthy_list pl.isList (by simp only [uh];lia) ⟨H,I.tok _,by rw [WG r];exact q⟩
  ·subst e';obtain⟨its,r,pl,hz⟩:=I.tuple hx;have hlen:=r.length;exact truthy_tuple pl (by simp only [uh];lia) ⟨H,I.tok _,by rw [WG r];exact q⟩
  ·subst e';obtain⟨hz,hS,vs,r,m⟩:kvs.length<=sizeLine/\(p == sysModules)=false/\∃ vs,KV kvs vs/\s.heap.DictOf (zI X.prog X.w) p vs:=I.hok p _ hx;have hlen:kvs.length=vs.length:=Paired.length r;exact wpAny_truthy_dict hS m (by lia) ⟨H,I.tok _,by rw [zai r];exact q⟩
 | _=>exact(show False from e).elim
theorem zdX (ha:PE X a ta)(he:∀ whole,isTrue a X.env whole=(do let v ← whole;standAt a.pos;holding [v] (truthy v))) :
  PT X a (λσ H Q=>ta σ H λx H'=>∃ k,TruV X.K x H' k/\Q k H'):=by
 intro pins s σ H Q I h
 exact GP (thn (ha pins s σ H _ I h) λv s1 ⟨x,H1,I1,r1,q1⟩=>zii pins s1 σ H1 x v Q I1 r1 q1) (he _)
theorem zaj:OpR X (binaryOp .Add) (λx y H Q=>∃ i j,x=.str i/\y=.str j/\i.length+j.length<=sizeLine/\Q (.str (i++j)) H):=by intro pins s σ H x y v u Q I rx ry h;obtain⟨i,j,rfl,rfl,hz,q⟩:=h;obtain⟨t,rfl⟩:=rx;obtain⟨t',rfl⟩:=ry;exact add_str (λt' tk=>⟨.str (i++j),H,I.tok _,⟨_,rfl⟩,q⟩) hz
theorem vals1 (r:Vals [x] us):∃ u,us=[u]/\RelV x u:=by
 cases r with
 | cons r1 r2=>cases r2;exact⟨_,rfl,r1⟩
theorem vals2 (r:Vals [x,y] us):∃ u w',us=[u,w']/\RelV x u/\RelV y w':=by
 cases r with
 | cons r1 r2=>
  cases r2 with
  | cons r3 r4=>cases r4;exact⟨_,_,rfl,r1,r3⟩
theorem zc3 (hc:X.calm=true):jV X (.builtin "max") (λxs H Q=>∃ i j,xs=[.int i,.int j]/\Q (.int (if j > i then j else i)) H):=by
 intro pins s σ H xs us Q I r h;obtain⟨i,j,rfl,q⟩:=h;obtain⟨u,w',rfl,⟨t,rfl⟩,⟨t',rfl⟩⟩:=vals2 r;refine max_two_ints (I.ok.hd hc) λh' tk k=>⟨_,H,I.kept k,?_,q⟩
 by_cases hj:j > i
 ·rw [ud hj,ud hj];exact⟨_,rfl⟩
 ·rw [ub hj,ub hj];exact⟨_,rfl⟩
theorem zc4 (hc:X.calm=true):jV X (.builtin "min") (λxs H Q=>∃ i j,xs=[.int i,.int j]/\Q (.int (if j<i then j else i)) H):=by
 intro pins s σ H xs us Q I r h;obtain⟨i,j,rfl,q⟩:=h;obtain⟨u,w',rfl,⟨t,rfl⟩,⟨t',rfl⟩⟩:=vals2 r;refine min_two_ints (I.ok.hd hc) λh' tk k=>⟨_,H,I.kept k,?_,q⟩
 by_cases hj:j<i
 ·rw [ud hj,ud hj];exact⟨_,rfl⟩
 ·rw [ub hj,ub hj];exact⟨_,rfl⟩
theorem zc5:jV X (.type "int") (λxs H Q=>(∃ i,xs=[.int i]/\Q (.int i) H)\/∃ k,xs=[.bl k]/\Q (.int (if k then 1 else 0)) H):=by
 intro pins s σ H xs us Q I r h;rcases h with⟨i,rfl,q⟩ | ⟨k,rfl,q⟩
 ·obtain⟨u,rfl,t,rfl⟩:=vals1 r;exact call_int_int ⟨.int i,H,I,⟨_,rfl⟩,q⟩
 ·obtain⟨u,rfl,r1⟩:=vals1 r;cases r1;exact call_int_bool ⟨.int (if k then 1 else 0),H,I.tok _,⟨_,rfl⟩,q⟩
end
structure ObjM (h:Heap)(x dx C:Addr)(mA:La):Prop where
 obj:h.get? x=some (PySem.W.instObj C dx)
 ns:h.Ns1 dx mA
 ne:dx≠x
theorem XZ {h:Heap}(n:h.Ns1 dx mA):∃ od,h.get? dx=some od/\∀ name,PySem.W.lookIn name od=some (mA name):=by
 obtain⟨o,es,ep,ho,hd,hk,_,hm⟩:=n;refine⟨o,ho,λname=>?_⟩;have e:=hm name;unfold nsFind findBy at e;rw [← Array.find?_toList] at e;unfold PySem.W.lookIn;rw [hd];dsimp only;split
 ·rename_i y q;rw [q] at e;exact congrArg some e
 ·rename_i q;rw [q] at e;have a:es.toList.any (·.refKey)=false:=by rw [List.any_eq_false];intro y hy;obtain⟨z,t,hkey⟩:=hk y (Array.mem_toList_iff.mp hy);simp [DictEntry.refKey,hkey]
  have a':¬ es.toList.any (·.refKey)=true:=by rw [a];exact uD
  rw [ub a'];exact congrArg some e
theorem ObjM.look (I:ObjM h x dx C mA):∃ od,PySem.W.InstAt h x (PySem.W.instObj C dx) C (some od)/\∀ name,PySem.W.lookIn name od=some (mA name):=
 let ⟨od,ho,hl⟩:=XZ I.ns
 ⟨od,⟨I.obj,rfl,rfl,ho⟩,hl⟩
section
variable {prog:Program} {w:World} {A:Around} {E:Value->Shared->Prop} {s:Shared} {K:Le} {x dx C f:Addr} {mA:La} {name:Str} {v:Value}
theorem get_map {expr:Bool}(X:K.In s.heap)(I:ObjM s.heap x dx C mA)(hg:PySem.W.plainGet K C name=true)(hh:PySem.W.hasDictIn K C=true) (ha:PySem.W.findIn K (.ref C) name=some none) (hv:mA name=some v) (hv':PySem.W.handedIn v=true) (h:Q v { s with toks:=s.toks+1 }) : wpAny (model prog w) A (getAttr (.ref x) name expr) Q E s:=by obtain⟨od,J,hl⟩:=I.look;exact PySem.W.get_value X J (gW hg).1 (PySem.W.findObj_own hh ha rfl (by rw [hl,hv])) hv' h
theorem zdY (X:K.In s.heap)(I:ObjM s.heap x dx C mA)(hg:PySem.W.plainGet K C name=true) (hf:PySem.W.findIn K (.ref C) name=some (some (.ref f))) (ht:PySem.W.isFn K (.ref f)=true) (hv:mA name=none) (h:Q (.ref f,[.ref x]) s) : wpAny (model prog w) A (getMethod (.ref x) name pl) Q E s:=by obtain⟨od,J,hl⟩:=I.look;exact PySem.W.method_fn X J (gW hg).1 (gW hg).2 hf (u4.mp ht) (by show(PySem.W.lookIn name od).map (·.isSome)=some false;rw [hl,hv];rfl) h
theorem zgg {ns:Lh}(X:K.In s.heap)(I:ObjM s.heap x dx C mA) (hs:PySem.W.findIn K (.ref C) "__setattr__" = some (some (.builtin "object.__setattr__"))) (hp:PySem.W.plainOver K C=true) (ht:PySem.W.takerIn K C name=some none) (hh:PySem.W.hasDictIn K C=true) (hw:PySem.Within mA ns) (hsz:ns.length<=sizeLine) (h:∀ h',ObjM h' x dx C (λy=>if y=name then some v else mA y)->Heap.SameBut dx s.heap h'->Q () { s with heap:=h',toks:=s.toks+2 }) : wpAny (model prog w) A (setAttr (.ref x) name v) Q E s:=by obtain⟨od,J,hl⟩:=I.look;refine Gk X J hs (PySem.W.osa_open (s:={ s with toks:=s.toks+1 }) (r:=none) X J hp ht λb=>?_);obtain⟨cd,hc,hd'⟩:=gy hh;have hx:s.heap.get? x=some ⟨.ref C,some dx,.plain,#[]⟩:=I.obj;refine ua (uc (ua (ua (wpAny_loadPart hx (ua (PySem.W.Looks.here (s:={ s with toks:=s.toks+1 }) (PySem.W.looks_clsIn X hc) ?_))))));rw [hd'];refine uc (a:=some dx) (ua (uc (ua ?_)));refine wpAny_nsSet1 (s:={ s with toks:=s.toks+1 }) I.ns λh' hn2 hs2=>?_;obtain⟨oD,esD,epD,hoD,hdD,hcD⟩:=hn2.count (PySem.Within.cons name v hw);refine ua (wpAny_lookBehind hoD (by rw [hdD];exact pastItsLine_dict (uJ hcD (by rw [uq];lia))) ?_);exact uc (h _ ⟨(hs2.2 _ (Ne.symm I.ne)).trans I.obj,hn2,I.ne⟩ hs2)
theorem zdZ (X:K.In s.heap)(hm:PySem.W.makesIn K C=true) (hi:PySem.W.findIn K (.ref C) "__init__" = some (some (.ref f))) (hf:PySem.W.typeIn K (.ref f)=some (.type "function")) (h:codeAny (model prog w) (A.under (.builtin "type.__call__" ⟨.ref C::vs,kw⟩)) (.call (.ref f) ⟨.ref (s.heap.objs.size+1)::vs,kw⟩) (PySem.W.InitBack (s.heap.objs.size+1) R) { s with heap:=(s.heap.push PySem.W.emptyDict).push (PySem.W.instObj C s.heap.objs.size) }) : codeAny (model prog w) A (.call (.ref C) ⟨vs,kw⟩) R s:=by obtain⟨hh,g,d,t,os⟩:=s;exact PySem.W.make_core (PySem.W.makes_of X hm) (gP X hi) (λself=>PySem.W.bind_fn X self hf) (.inl rfl) h
end
noncomputable def putF (f:Str)(v:V):List (Str×V)->List (Str×V)
 | []=>[(f,v)]
 | (g,x)::r=>if g=f then(g,v)::r else(g,x)::putF f v r
theorem J5 (f g:Str)(v:V):∀ fs:List (Str×V),(putF f v fs).lookup g=if g=f then some v else fs.lookup g
 | []=>by
  show List.lookup g [(f,v)]=_;by_cases h:g=f
  ·have hb:(g == f)=true:=u4.mpr h;simp only [List.lookup,hb,ud h]
  ·have hb:(g == f)=false:=uM.mpr h;simp only [List.lookup,hb,ub h]
 | (k,x)::r=>by
  have ih:=J5 f g v r;rw [show putF f v ((k,x)::r)=(if k=f then(k,v)::r else(k,x)::putF f v r) from rfl];by_cases hk:k=f
  ·rw [ud hk];by_cases h:g=k
   ·have hb:(g == k)=true:=u4.mpr h;simp only [List.lookup,hb,ud (h.trans hk)]
   ·have hb:(g == k)=false:=uM.mpr h;simp only [List.lookup,hb,ub (λe:g=f=>h (e.trans hk.symm))]
  ·rw [ub hk];by_cases h:g=k
   ·have hb:(g == k)=true:=u4.mpr h;simp only [List.lookup,hb,ub (λe:g=f=>hk (h.symm.trans e))]
   ·have hb:(g == k)=false:=uM.mpr h;simp only [List.lookup,hb];exact ih
theorem Ji (f:Str)(v:V):∀ fs:List (Str×V),f∈(putF f v fs).map (·.1)/\∀ g,g∈fs.map (·.1)->g∈(putF f v fs).map (·.1)
 | []=>⟨by simp [putF],λg h=>by simp at h⟩
 | (k,x)::r=>by
  obtain⟨i1,i2⟩:=Ji f v r;rw [show putF f v ((k,x)::r)=(if k=f then(k,v)::r else(k,x)::putF f v r) from rfl];by_cases hk:k=f
  ·rw [ud hk];subst hk;exact⟨by simp,λg h=>by simpa using h⟩
  ·rw [ub hk];refine⟨?_,λg h=>?_⟩
   ·rw [uu];exact uQ _ i1
   ·rw [uu] at h ⊢;rcases um.mp h with e | e
    ·exact um.mpr (.inl e)
    ·exact uQ _ (i2 g e)
theorem J6 (f:Str)(v:V):∀ fs:List (Str×V),(putF f v fs).length<=fs.length+1
 | []=>by simp [putF]
 | (k,x)::r=>by
  have ih:=J6 f v r;rw [show putF f v ((k,x)::r)=(if k=f then(k,v)::r else(k,x)::putF f v r) from rfl];by_cases hk:k=f
  ·rw [ud hk,uq,uq];lia
  ·rw [ub hk,uq,uq];lia
theorem RelO.some_of (r:RelO (some v) o):∃ u,o=some u/\RelV v u:=by
 cases o with
 | none=>exact(show False from r).elim
 | some u=>exact⟨u,rfl,r⟩
theorem RelO.none_of (r:RelO none o):o=none:=by
 cases o with
 | none=>rfl
 | some u=>exact(show False from r).elim
theorem X0 (r:RelV v u):PySem.W.handedIn u=true:=by
 cases v with
 | non=>cases (show u=Value.none from r);rfl
 | bl b=>cases (show u=Value.bool b from r);rfl
 | int i=>obtain⟨t,e⟩:=(show ∃ t,u=Value.int i t from r);cases e;rfl
 | str x=>obtain⟨t,e⟩:=(show ∃ t,u=Value.str x t from r);cases e;rfl
 | byt b=>obtain⟨t,e⟩:=(show ∃ t,u=Value.bytes b t from r);cases e;rfl
 | flt b=>obtain⟨t,e⟩:=(show ∃ t,u=Value.float b t from r);cases e;rfl
 | ref a=>cases (show u=Value.ref a from r);rfl
 | ty n=>cases (show u=Value.type n from r);rfl
section
variable {P:Program} {w:World} {H H':Hp} {h h':Heap} {a C dx:Addr} {fs fs':List (Str×V)}
theorem Vn (hok:HOk P w H h)(e:H a=some (.ins C dx fs)):∃ mA,ObjM h a dx C mA/\(∀ f,RelO (fs.lookup f) (mA f))/\PySem.Within mA (fs.map (·.1))/\fs.length<=1000/\H dx=some (.own a):=by
 obtain⟨d,z,ne,ob,mA,n,r,q⟩:=(show jj P w H h a (.ins C dx fs) from hok a _ e)
 exact⟨mA,⟨ob,n,ne⟩,r,q,z,d⟩
end
structure Cls (K:Le)(C:Addr):Prop where
 pg:PySem.W.plainGet K C Str.empty=true
 hd:PySem.W.hasDictIn K C=true
 po:PySem.W.plainOver K C=true
 sa:PySem.W.findIn K (.ref C) "__setattr__" = some (some (.builtin "object.__setattr__"))
theorem Cls.get {K:Le}{C:Addr}(c:Cls K C)(f:Str):PySem.W.plainGet K C f=true:=c.pg
def ve (K:Le)(C:Addr)(f:Str):Prop:=PySem.W.findIn K (.ref C) f=some none
theorem ve.taker {K:Le}{C:Addr}{f:Str}(n:ve K C f):PySem.W.takerIn K C f=some none:=by unfold PySem.W.takerIn;rw [show PySem.W.findIn K (.ref C) f=some none from n];rfl
structure Meth (K:Le)(C:Addr)(m:Str)(f:Addr):Prop where
 at_:PySem.W.findIn K (.ref C) m=some (some (.ref f))
 fn:PySem.W.isFn K (.ref f)=true
 kp:PySem.W.keepIn K (.ref f)=true
section
variable {X:Cx} {pins:Lp} {σ:St} {H:Hp} {s:Shared} {a C dx:Addr} {fs:List (Str×V)} {f:Str} {v:V} {A:Around} {E:Value->Shared->Prop}
theorem zak (I:Inv X pins σ H s)(e:H a=some (.ins C dx fs))(c:Cls X.K C)(n:ve X.K C f)(l:fs.lookup f=some v) (h:∀ u s',Inv X pins σ H s'->RelV v u->Q u s'):wpAny (model X.prog X.w) A (getAttr (.ref a) f b) Q E s:=by obtain⟨mA,O,r,_,_,_⟩:=Vn I.hok e;obtain⟨u,hu,ru⟩:=RelO.some_of (v:=v) (o:=mA f) (by rw [← l];exact r f);exact get_map I.kIn O (c.get f) c.hd n hu (X0 ru) (h u _ (I.tok _) ru)
theorem y7 (I:Inv X pins σ H s)(e:H a=some (.ins C dx fs))(c:Cls X.K C)(k:Meth X.K C m g)(l:fs.lookup m=none) (h:Q (.ref g,[.ref a]) s):wpAny (model X.prog X.w) A (getMethod (.ref a) m pl) Q E s:=by obtain⟨mA,O,r,_,_,_⟩:=Vn I.hok e;have hn:mA m=none:=RelO.none_of (by rw [← l];exact r m);exact zdY I.kIn O (c.get m) k.at_ k.fn hn h
theorem zal (I:Inv X pins σ H s)(e:H a=some (.ins C dx fs))(c:Cls X.K C)(n:ve X.K C f)(hl:fs.length<1000)(ry:RelV y u) (h:∀ s',Inv X pins σ (upd H a (.ins C dx (putF f y fs))) s'->Q () s'):wpAny (model X.prog X.w) A (setAttr (.ref a) f u) Q E s:=by
 obtain⟨mA,O,r,wi,_,ho⟩:=Vn I.hok e;have hz:(fs.map (·.1)).length<=sizeLine:=by rw [uk,uO];lia
 refine zgg I.kIn O c.sa c.po n.taker c.hd wi hz λh' O' sb=>h _ ?_;have hd:∃ o,h'.get? dx=some o:=let ⟨o,_,_,e',_⟩:=O'.ns;⟨o,e'⟩;refine I.write (x:=a) (e:=dx) (by rw [e];exact True.intro) (.inr ho) (λb q hb z=>(sb.2 b hb).trans z) hd ?_;refine⟨by rw [zl O.ne];exact ho,?_,O.ne,O'.obj,_,O'.ns,λg=>?_,λg hg=>?_⟩
 ·have:=J6 f y fs;lia
 ·show RelO ((putF f y fs).lookup g) (if g=f then some u else mA g);rw [J5];by_cases q:g=f
  ·rw [ud q,ud q];exact ry
  ·rw [ub q,ub q];exact r g
 ·by_cases q:g=f
  ·rw [q];exact(Ji f y fs).1
  ·refine(Ji f y fs).2 g (wi g λz=>hg ?_);show(if g=f then some u else mA g)=none;rw [ub q];exact z
theorem Inv.made (I:Inv X pins σ H s):Inv X pins σ (upd (upd H s.heap.objs.size (.own (s.heap.objs.size+1))) (s.heap.objs.size+1) (.ins C s.heap.objs.size [])) { s with heap:=(s.heap.push PySem.W.emptyDict).push (PySem.W.instObj C s.heap.objs.size) }:=by
 have e1:(s.heap.push PySem.W.emptyDict).get? s.heap.objs.size=some PySem.W.emptyDict:=uz s.heap rfl;have e2:((s.heap.push PySem.W.emptyDict).push (PySem.W.instObj C s.heap.objs.size)).get? (s.heap.objs.size+1)=some (PySem.W.instObj C s.heap.objs.size):=by have:=uz (s.heap.push PySem.W.emptyDict) (o:=PySem.W.instObj C s.heap.objs.size) rfl;rwa [gb] at this
 have e3:(s.heap.push PySem.W.emptyDict).Ns s.heap.objs.size (λ_=>none):=⟨PySem.W.emptyDict,#[],_,e1,rfl,(λe he=>absurd he (by simp)),λ_=>rfl⟩
 have I1:=I.laid (a:=s.heap.objs.size) (o:=.own (s.heap.objs.size+1)) (h':=s.heap.push PySem.W.emptyDict) (t':=s.toks) (λb u q=>ue _ q) (ui _) ⟨_,e1⟩;refine I1.laid (a:=s.heap.objs.size+1) (o:=.ins C s.heap.objs.size []) (t':=s.toks) (λb u q=>ue _ q) (gF (gb _ _)) ?_;have ne:s.heap.objs.size≠s.heap.objs.size+1:=u5 (Nat.lt_succ_self _);refine⟨by rw [zl ne,zb],UD _,ne,e2,λ_=>none,(GZ e3).at λo q=>ue _ q,λ_=>True.intro,λy hy=>absurd rfl hy⟩
theorem zbP {prog:Program}{e:Expr}(hb:attributeBase e f env (eval e env)=eval e env)
  (h:wpAny (model prog w) A (eval e env) (λo s₁=>wpAny (model prog w) A (getAttr o f true) Q E s₁) E s):wpAny (model prog w) A (eval (.Attribute e f pos) env) Q E s:=
 Attribute_any_ h (by rw [arm_eval_Attribute,hb])
end
noncomputable def tFld (K:Le)(ta:TE)(f:Str):TE:=λσ H Q=>ta σ H λx H1=>∃ a C dx fs v,x=.ref a/\H1 a=some (.ins C dx fs)/\Cls K C/\ve K C f/\fs.lookup f=some v/\Q v H1
noncomputable def sFld (K:Le)(ta tv:TE)(f:Str):TS:=λD σ H=>tv σ H λy H1=>ta σ H1 λx H2=>∃ a C dx fs,x=.ref a/\H2 a=some (.ins C dx fs)/\Cls K C/\ve K C f/\fs.length<1000 /\ D.nx σ (upd H2 a (.ins C dx (putF f y fs)))
section
variable {X:Cx} {o e value:Expr} {f:Str} {pos pos' tpos:Pos} {ta tv:TE}
theorem zij (he:PE X e ta)(hb:attributeBase e f X.env (eval e X.env)=eval e X.env):PE X (.Attribute e f pos) (tFld X.K ta f):=by intro pins s σ H Q I h;refine zbP hb (thn (he pins s σ H _ I h) λu s1 zq=>?_);obtain⟨x,H1,I1,rx,a,C,dx,fs,v,ex,ea,c,n,l,q⟩:=zq;subst ex;obtain rfl:u=Value.ref a:=rx;exact zak I1 ea c n l λu' s2 I2 ru=>⟨v,H1,I2,ru,q⟩
theorem zik (ha:PE X o ta)(hv:PE X value tv)(hs:swapsWith value (some (.Attribute o f pos')) pos.line X.env=pure false):PS X (.Assign [.Attribute o f pos'] value pos) (sFld X.K ta tv f):=by intro pins s σ H D I h;refine US (thn (hv pins s σ H _ I h) λu s1 ⟨y,H1,I1,ry,q⟩=>thn (ha pins s1 σ H1 _ I1 q) λov s2 zq=>?_) hs;obtain⟨x,H2,I2,rx,a,C,dx,fs,ex,ea,c,n,l,q2⟩:=zq;subst ex;obtain rfl:ov=Value.ref a:=rx;exact zal I2 ea c n l ry λs3 I3=>⟨σ,_,I3,q2⟩
end
section
variable {X:Cx} {pins:Lp} {σ:St} {H:Hp} {s:Shared} {A:Around} {E:Value->Shared->Prop} {Q:Value->Shared->Prop} {c:Value} {b:Bool}
end
structure Room (k:Nat)(A:Around):Prop where
 hd:A.handled=none
 dp:A.depth+3 * k+5<recursionLimit
 un:A.units+16 * k+200<cLine
 gd:A.guards=some []
theorem Room.mono (r:Room k A)(h:j<=k):Room j A:=⟨r.hd,by have:=r.dp;lia,by have:=r.un;lia,r.gd⟩
theorem Room.deeper {A:Around}(r:Room (k+1) A)(env:Env):Room k (A.deeper env):=
 ⟨r.hd,by have:=r.dp;show A.depth+1+3 * k+5<_;lia,by have:=r.un;show A.units+3+16 * k+200<_;lia,r.gd⟩
theorem Room.in1 {A:Around}(r:Room (k+1) A):Room k A.in1:=
 ⟨r.hd,by have:=r.dp;show A.depth+3 * k+5<_;lia,by have:=r.un;show A.units+1+16 * k+200<_;lia,r.gd⟩
theorem WH {A:Around}:(A.under (.builtin "type.__call__" ⟨.ref C::us,kw⟩)).depth=A.depth+1:=by first | rfl | simp [Around.under,Code.weight,Code.isCreation,Code.isGuard,Code.isCaller,Code.frames,Code.isFrame,guardIds]
theorem WI {A:Around}:(A.under (.builtin "type.__call__" ⟨.ref C::us,kw⟩)).units=A.units+1:=by first | rfl | simp [Around.under,Code.cUnits,Code.frames,Code.isFrame]
theorem J7 {A:Around}:(A.under (.builtin "type.__call__" ⟨.ref C::us,kw⟩)).guards=A.guards:=by first | rfl | simp [Around.under,Code.weight,Code.isCreation,Code.isGuard,Code.isCaller,Code.frames,Code.isFrame,guardIds]
theorem Room.make {A:Around}(r:Room (k+1) A)(C:Addr)(us:Lf)(kw:List (Str×Value)):Room k (A.under (.builtin "type.__call__" ⟨.ref C::us,kw⟩)):=
 ⟨r.hd,by have:=r.dp;rw [WH];lia,by have:=r.un;rw [WI];lia,by rw [J7];exact r.gd⟩
theorem Room.depth {A:Around}(r:Room k A):A.depth<recursionLimit:=by have:=r.dp;lia
theorem Room.units {A:Around}(r:Room k A):A.units+64<cLine:=by have:=r.un;lia
noncomputable def tNil:TA:=λ_ H Q=>Q [] H
noncomputable def jy (ta:TE)(tr:TA):TA:=λσ H Q=>ta σ H λx H1=>tr σ H1 λxs H2=>Q (x::xs) H2
section
variable {X:Cx} {e:Expr} {es:Lg} {te:TE} {t:TA} {pos:Pos}
theorem Jj:PA X [] tNil:=λ_ _ _ _ H Q I h=>Calls.spliced_nil ⟨[],H,I,.nil,h⟩
theorem w4 (ha:PE X e te)(hr:PA X es t)(hs:starEach (e::es) X.env=(false,eval e X.env)::starEach es X.env:=by rfl):PA X (e::es) (jy te t):=by intro pos pins s σ H Q I h;rw [hs];show wpAny _ _ (spliced ((false,eval e X.env)::backTo pos (starEach es X.env))) _ _ s;refine Calls.spliced_cons (thn (ha pins s σ H _ I h) λu s1 zq=>?_);obtain⟨x,H1,I1,r1,q1⟩:=zq;exact thn (hr pos pins s1 σ H1 _ I1 q1) λus s2 ⟨xs,H2,I2,r2,q2⟩=>⟨x::xs,H2,I2,.cons r1 r2,q2⟩
noncomputable def tTup (t:TA):TE:=λσ H Q=>t σ H λxs H1=>xs.length<=sizeLine/\∀ p,H1 p=none->Q (.ref p) (upd H1 p (.tup xs))
noncomputable def tLst (t:TA):TE:=λσ H Q=>t σ H λxs H1=>xs.length<=sizeLine/\∀ p,H1 p=none->Q (.ref p) (upd H1 p (.lst xs))
theorem zil {x1}(h:PA X es t):PE X (.Tuple es x1 pos) (tTup t):=by intro pins s σ H Q I hq;refine wpAny_Tuple_spliced (thn (h pos pins s σ H _ I hq) λus s1 ⟨xs,H1,I1,r,z,q⟩=>⟨by rw [← r.length];exact z,?_⟩);have hf:H1 s1.heap.objs.size=none:=I1.hok.fresh (ui _);refine⟨.ref s1.heap.objs.size,upd H1 s1.heap.objs.size (.tup xs),I1.laid (t':=s1.toks) (λb u e=>ue _ e) (ui _) ?_,rfl,q _ hf⟩;exact⟨z,us,r,⟨_,uz _ rfl,rfl,_,rfl⟩⟩
theorem zim (h:PA X es t):PE X (.List es pos) (tLst t):=by intro pins s σ H Q I hq;refine wpAny_List_spliced (thn (h pos pins s σ H _ I hq) λus s1 ⟨xs,H1,I1,r,z,q⟩=>⟨by rw [← r.length];exact z,?_⟩);have hf:H1 s1.heap.objs.size=none:=I1.hok.fresh (ui _);refine⟨.ref s1.heap.objs.size,upd H1 s1.heap.objs.size (.lst xs),I1.laid (t':=s1.toks) (λb u e=>ue _ e) (ui _) ?_,rfl,q _ hf⟩;exact⟨z,us,0,r,uz _ rfl⟩
end
noncomputable abbrev Sp:=List V->Hp->VK->XK->Prop
noncomputable abbrev CXT:=List Env->Hp->Shared->XK->Value->Shared->Prop
structure Env0 (P:Program)(w:World)(K:Le)(mg:La)(base:Heap)(A:Around)(outer:List Env)(s:Shared)(H:Hp):Prop where
 frames:A.frames=some outer
 mod:Mod K mg base
 bs:∀ b o,base.get? b=some o->s.heap.get? b=some o/\H b=none
 bsz:base.objs.size<=s.heap.objs.size
 funs:s.heap.FunFrames base outer
 frf:∀ b∈frs outer,H b=none
 hok:HOk P w H s.heap
 bare:AllBare s.gens
def CE (outer:List Env)(P:Program)(w:World)(H:Hp)(s:Shared)(Q:VK)(u:Value)(s':Shared):Prop:= ∃ v H',s'.os=s.os/\AllBare s'.gens/\Un (frs outer) [] H H' s.heap s'.heap/\HOk P w H' s'.heap/\RelV v u/\Q v H'
def CR (CX:CXT)(outer:List Env)(P:Program)(w:World)(H:Hp)(s:Shared)(Q:VK)(E:XK)(r:Result)(s':Shared):Prop:=
 match r with
 | .ok (.ret u)=>CE outer P w H s Q u s'
 | .ok _=>False
 | .error e=>CX outer H s E e s'
structure FnOk (P:Program)(w:World)(K:Le)(mg:La)(base:Heap)(CX:CXT)(k:Nat)(f:Addr)(fd:FuncData)(ps:Lh)(sp:Sp):Prop where
 len:∀ vs H Q E,sp vs H Q E->vs.length=ps.length
 run:∀ (A:Around) (outer:List Env) (s:Shared) (H:Hp) (args:Args) (us:Lf) (vs:List V) (Q:VK) (E:XK),Room k A->Env0 P w K mg base A outer s H->BindsTo s fd args (ps.zip us)->Vals vs us->sp vs H Q E ->
  codeAny (model P w) A (.call (.ref f) args) (CR CX outer P w H s Q E) s
theorem FnOk.mono {P:Program}{w:World}{K:Le}{mg:La}{base:Heap}{CX:CXT}{j k:Nat}{f:Addr}{fd:FuncData}{ps:Lh}{sp:Sp}(F:FnOk P w K mg base CX j f fd ps sp)(h:j<=k) : FnOk P w K mg base CX k f fd ps sp:=⟨F.len,λA outer s H args us vs Q E hr=>F.run A outer s H args us vs Q E (hr.mono h)⟩
theorem FnOk.imp {P:Program}{w:World}{K:Le}{mg:La}{base:Heap}{CX:CXT}{k:Nat}{f:Addr}{fd:FuncData}{ps:Lh}{sp sp':Sp}(F:FnOk P w K mg base CX k f fd ps sp) (h:∀ vs H Q E,sp' vs H Q E->sp vs H Q E):FnOk P w K mg base CX k f fd ps sp':= ⟨λvs H Q E q=>F.len vs H Q E (h _ _ _ _ q),λA outer s H args us vs Q E hr he hb hv hs=>F.run A outer s H args us vs Q E hr he hb hv (h _ _ _ _ hs)⟩
theorem Env0.make {P:Program}{w:World}{K:Le}{mg:La}{base:Heap}{A:Around}{outer:List Env}{s:Shared}{H:Hp}(e:Env0 P w K mg base A outer s H)(C:Addr)(us:Lf)(kw:List (Str×Value)) :
  Env0 P w K mg base (A.under (.builtin "type.__call__" ⟨.ref C::us,kw⟩)) outer s H:=⟨by first | exact e.frames | (simpa [Around.under,Code.envs,Code.isFrame,pushEnvs] using e.frames),e.mod,e.bs,e.bsz,e.funs,e.frf,e.hok,e.bare⟩
theorem Env0.in1 {P:Program}{w:World}{K:Le}{mg:La}{base:Heap}{A:Around}{outer:List Env}{s:Shared}{H:Hp}(e:Env0 P w K mg base A outer s H) : Env0 P w K mg base A.in1 outer s H:=⟨e.frames,e.mod,e.bs,e.bsz,e.funs,e.frf,e.hok,e.bare⟩
section
variable {X:Cx} {pins:Lp} {σ:St} {H:Hp} {s s':Shared}
theorem Inv.env0 (I:Inv X pins σ H s):Env0 X.prog X.w X.K X.mg X.base X.A X.stack s H:= ⟨I.ok.frames,I.ok.mod,I.bs,uJ I.ok.bsz I.sz,I.stack,I.stkFree,I.hok,I.bare⟩
theorem Inv.after (I:Inv X pins σ H s)(h:CE X.stack X.prog X.w H s Q u s'):EP X pins σ Q u s':=by obtain⟨v,H',os,bare,un,hok,r,q⟩:=h;obtain⟨hh,g,d,t,os'⟩:=s';obtain rfl:os' = s.os:=os;exact⟨v,H',I.call (h':=hh) (g':=g) (d':=d) (t':=t) (ch:=[]) un hok bare (λb z=>absurd z (by simp)),r,q⟩
end
noncomputable def kR (sp:Sp)(dvs:List V)(E:XK)(t:TA):TE:=λσ H Q=>t σ H λvs H1=>sp (vs++dvs) H1 Q E
noncomputable def QL (C:Addr)(m:Str)(sp:Sp)(dvs:List V)(E:XK)(ta:TE)(t:TA):TE:=λσ H Q=>ta σ H λx H1=>∃ a dx fs,x=.ref a/\H1 a=some (.ins C dx fs)/\fs.lookup m=none /\ t σ H1 λvs H2=>sp (x::(vs++dvs)) H2 Q E
noncomputable def YL (C:Addr)(sp:Sp)(dvs:List V)(E:XK)(t:TA):TE:=λσ H Q=>t σ H λvs H1=>∀ x dx,H1 x=none->H1 dx=none->dx≠x -> sp (.ref x::(vs++dvs)) (upd (upd H1 dx (.own x)) x (.ins C dx [])) (λv H2=>v=.non/\Q (.ref x) H2) E
def Binds (K:Le)(fd:FuncData)(ps:Lh)(ds:Lf):Prop:= ∀ (s:Shared) (us:Lf),K.In s.heap->(us++ds).length=ps.length->BindsTo s fd ⟨us,[]⟩ (ps.zip (us++ds))
theorem Binds.all {K:Le}{fd:FuncData}{ps:Lh}(h:∀ us:Lf,us.length=ps.length->bindArgs fd ⟨us,[]⟩=pure (ps.zip us)):Binds K fd ps []:=λs us _ hl=>by rw [uw] at hl ⊢;exact .of_eq (h us hl)
def Passes (CX:CXT)(X:Cx)(E:XK):Prop:=∀ (pins:Lp) (σ:St) (H:Hp) (s:Shared) (e:Value) (s':Shared),Inv X pins σ H s->CX X.stack H s E e s'->X.xe e s'
section
variable {X:Cx} {CX:CXT} {k:Nat} {f C:Addr} {fd:FuncData} {ps:Lh} {sp:Sp} {dvs:List V} {ds:Lf} {E:XK} {x m:Str} {p pos apos:Pos} {e o:Expr} {es:Lg} {ta:TE} {t:TA}
theorem WJ {pins:Lp}(F:FnOk X.prog X.w X.K X.mg X.base CX k f fd ps sp)(hr:Room k X.A)(hb:Binds X.K fd ps ds)(hd:Vals dvs ds)(hx:Passes CX X E) (I:Inv X pins σ H s) (r:Vals vs us) (h:sp (vs++dvs) H Q E):wpAny (model X.prog X.w) X.A (call (.ref f) us) (EP X pins σ Q) X.xe s:=by
 have r2:Vals (vs++dvs) (us++ds):=r.append hd;have hl:(us++ds).length=ps.length:=by rw [← r2.length];exact F.len _ _ _ _ h
 refine Ua (Ug (F.run X.A X.stack s H ⟨us,[]⟩ (us++ds) (vs++dvs) Q E hr I.env0 (hb s us I.kIn hl) r2 h) λr s' hq=>?_);cases r with
 | error e=>exact hx pins σ H s e s' I hq
 | ok fl=>
  cases fl with
  | ret u=>exact I.after hq
  | next=>exact False.elim hq
  | brk=>exact False.elim hq
  | cont=>exact False.elim hq
theorem zgh (F:FnOk X.prog X.w X.K X.mg X.base CX k f fd ps sp)(hr:Room k X.A)(hg:Gl X x)(hm:X.mg x=some (.ref f))(hk:PySem.W.keepIn X.K (.ref f)=true)(hb:Binds X.K fd ps ds)(hd:Vals dvs ds)(hx:Passes CX X E) (ha:PA X (e::es) t) (hdb:(x == ("__debug__":Str))=false:=by decide) (he:starEach (e::es) X.env=(false,eval e X.env)::starEach es X.env:=by rfl) (hpl:(backTo pos (starEach es X.env)).any (·.1)=false:=by rfl) : PE X (.Call (.Name x p) (e::es) [] pos) (kR sp dvs E t):=by intro pins s σ H Q I h;refine uL (wZ I hg hm ?_ hdb);refine Uh (h₀:=X.base) I.ok.mod.kin hk (thn (ha pos pins s σ H _ I h) λus s1 ⟨vs,H1,I1,r,q⟩=>⟨I1.kIn,?_⟩) he hpl;exact WJ F hr hb hd hx I1 r q
theorem zd0 (F:FnOk X.prog X.w X.K X.mg X.base CX k f fd ps sp)(hr:Room k X.A)(hg:Gl X x)(hm:X.mg x=some (.ref f))(hk:PySem.W.keepIn X.K (.ref f)=true)(hb:Binds X.K fd ps ds)(hd:Vals dvs ds)(hx:Passes CX X E) (hdb:(x == ("__debug__":Str))=false:=by decide):PE X (.Call (.Name x p) [] [] pos) (kR sp dvs E tNil):=by intro pins s σ H Q I h;refine uL (wZ I hg hm ?_ hdb);exact gX I.kIn hk (WJ (us:=[]) F hr hb hd hx I .nil h)
theorem zgi {pl:Sem Bool}(he:PE X o ta)(c:Cls X.K C)(hm:Meth X.K C m f)(F:FnOk X.prog X.w X.K X.mg X.base CX k f fd ps sp)(hr:Room k X.A)(hb:Binds X.K fd ps ds)(hd:Vals dvs ds)(hx:Passes CX X E)(ha:PA X (e::es) t)
  (hst:starEach (e::es) X.env=(false,eval e X.env)::starEach es X.env:=by rfl) (hpl:(backTo pos (starEach es X.env)).any (·.1)=false:=by rfl)
  (ht:eval (.Call (.Attribute o m apos) (e::es) [] pos) X.env=(do
   let ov ← eval o X.env
   standAt apos.atName
   let (f,first) ← holding [ov] (getMethod ov m pl)
   callWith pos f first (backTo pos (starEach (e::es) X.env)) (backToKw pos (keywordEach [] X.env))):=by rfl) :
  PE X (.Call (.Attribute o m apos) (e::es) [] pos) (QL C m sp dvs E ta t):=by
 intro pins s σ H Q I h
 refine UN (pl:=pl) (thn (he pins s σ H _ I h) λu s1 zq=>?_) ht
 obtain⟨x,H1,I1,rx,a,dx,fs,ex,ea,l,q⟩:=zq
 subst ex
 obtain rfl:u=Value.ref a:=rx
 refine y7 I1 ea c hm l ?_
 refine Uh (first:=[.ref a]) (h₀:=X.base) I.ok.mod.kin hm.kp (thn (ha pos pins s1 σ H1 _ I1 q) λus s2 ⟨vs,H2,I2,r,q2⟩=>⟨I2.kIn,?_⟩) hst hpl
 exact WJ (us:=.ref a::us) (vs:=.ref a::vs) F hr hb hd hx I2 (.cons rfl r) q2
theorem zd1 {pl:Sem Bool}(he:PE X o ta)(c:Cls X.K C)(hm:Meth X.K C m f)(F:FnOk X.prog X.w X.K X.mg X.base CX k f fd ps sp)(hr:Room k X.A)(hb:Binds X.K fd ps ds)(hd:Vals dvs ds)(hx:Passes CX X E)
  (ht:eval (.Call (.Attribute o m apos) [] [] pos) X.env=(do
   let ov ← eval o X.env
   standAt apos.atName
   let (f,first) ← holding [ov] (getMethod ov m pl)
   callWith pos f first (backTo pos (starEach [] X.env)) (backToKw pos (keywordEach [] X.env))):=by rfl) :
  PE X (.Call (.Attribute o m apos) [] [] pos) (QL C m sp dvs E ta tNil):=by
 intro pins s σ H Q I h
 refine UN (pl:=pl) (thn (he pins s σ H _ I h) λu s1 zq=>?_) ht
 obtain⟨x,H1,I1,rx,a,dx,fs,ex,ea,l,q⟩:=zq
 subst ex
 obtain rfl:u=Value.ref a:=rx
 refine y7 I1 ea c hm l ?_
 exact gX (first:=[.ref a]) I1.kIn hm.kp (WJ (us:=[.ref a]) (vs:=[.ref a]) F hr hb hd hx I1 (.cons rfl .nil) q)
structure Mk (K:Le)(C f:Addr):Prop where
 makes:PySem.W.makesIn K C=true
 init:PySem.W.findIn K (.ref C) "__init__" = some (some (.ref f))
 fn:PySem.W.isFn K (.ref f)=true
 kp:PySem.W.keepIn K (.ref C)=true
theorem zd2 {pins:Lp}(M:Mk X.K C f)(F:FnOk X.prog X.w X.K X.mg X.base CX k f fd ps sp)(hr:Room (k+1) X.A)(hb:Binds X.K fd ps ds)(hd:Vals dvs ds) (hx:Passes CX X E) (I:Inv X pins σ H s) (r:Vals vs us) (h:∀ x dx,H x=none->H dx=none->dx≠x->sp (.ref x::(vs++dvs)) (upd (upd H dx (.own x)) x (.ins C dx [])) (λv H2=>v=.non/\Q (.ref x) H2) E) : wpAny (model X.prog X.w) X.A (call (.ref C) us) (EP X pins σ Q) X.xe s:=by
 have hq:=h (s.heap.objs.size+1) s.heap.objs.size (I.hok.fresh (UP _)) (I.hok.fresh (ui _)) (u5 (Nat.lt_succ_self _));have I2:=Inv.made (C:=C) I;have r2:Vals (V.ref (s.heap.objs.size+1)::(vs++dvs)) (Value.ref (s.heap.objs.size+1)::(us++ds)):=.cons rfl (r.append hd);have hl:(Value.ref (s.heap.objs.size+1)::us++ds).length=ps.length:=by have e:=r2.length;rw [F.len _ _ _ _ hq] at e;exact e.symm
 refine Ua (zdZ (f:=f) I.kIn M.makes M.init (u4.mp M.fn) (Ug (F.run _ X.stack _ _ ⟨Value.ref (s.heap.objs.size+1)::us,[]⟩ (Value.ref (s.heap.objs.size+1)::(us++ds)) _ _ E (hr.make C us [])
  (I2.env0.make C us []) (hb _ (Value.ref (s.heap.objs.size+1)::us) I2.kIn hl) r2 hq) λr s' hq'=>?_))
 cases r with
 | error e=>exact hx pins σ _ _ e s' I2 hq'
 | ok fl=>
  cases fl with
  | ret u=>obtain⟨v,H',I3,rv,ev,q3⟩:=I2.after hq';subst ev;exact⟨rv,⟨V.ref (s.heap.objs.size+1),H',I3,rfl,q3⟩⟩
  | next=>exact False.elim hq'
  | brk=>exact False.elim hq'
  | cont=>exact False.elim hq'
theorem zgj (M:Mk X.K C f)(F:FnOk X.prog X.w X.K X.mg X.base CX k f fd ps sp)(hr:Room (k+1) X.A)(hg:Gl X x)(hm:X.mg x=some (.ref C))(hb:Binds X.K fd ps ds)(hd:Vals dvs ds)(hx:Passes CX X E) (ha:PA X (e::es) t) (hdb:(x == ("__debug__":Str))=false:=by decide) (he:starEach (e::es) X.env=(false,eval e X.env)::starEach es X.env:=by rfl) (hpl:(backTo pos (starEach es X.env)).any (·.1)=false:=by rfl) : PE X (.Call (.Name x p) (e::es) [] pos) (YL C sp dvs E t):=by intro pins s σ H Q I h;refine uL (wZ I hg hm ?_ hdb);refine Uh (h₀:=X.base) I.ok.mod.kin M.kp (thn (ha pos pins s σ H _ I h) λus s1 ⟨vs,H1,I1,r,q⟩=>⟨I1.kIn,?_⟩) he hpl;exact zd2 M F hr hb hd hx I1 r q
end
section
variable {X:Cx} {CX:CXT} {k:Nat} {f C:Addr} {fd:FuncData} {ps ks:Lh} {sp:Sp} {E:XK} {x m:Str} {p pos apos kpos:Pos} {e o:Expr} {es:Lg} {kws:List Keyword} {te ta:TE} {t tk:TA} {nm:Option Str}
variable {g:Lf->Lf->Lf} {gV:List V->List V->List V}
end
structure zj (N P:Lh)(sc:Scope):Prop where
 kind:sc.kind=.function
 co:sc.isCoroutine=false
 gen:sc.isGenerator=false
 nd:N.Nodup
 pre:N.take P.length=P
 par:∀ x∈P,sc.names.lookup x=some .local\/sc.names.lookup x=some .cell
 nofree:∀ y∈sc.names,y.2≠.free
theorem X1 {kindOf:Str->Option NameKind}:∀ {binds:List (Str×Value)} {m:La},(∀ v,(x,v)∉binds)->bindL kindOf binds m x=m x
 | [],_,_=>rfl
 | (n,v)::r,m,h=>by
  unfold bindL;rw [X1 λw hw=>h w (uQ _ hw)];split
  ·have:x≠n:=by rintro rfl;exact h v Uy
   simp [this]
  ·rfl
theorem X2 {kindOf:Str->Option NameKind}:∀ {binds:List (Str×Value)} {m:La},(∀ v,(x,v)∉binds)->bindC kindOf binds m x=m x
 | [],_,_=>rfl
 | (n,v)::r,m,h=>by
  unfold bindC;rw [X2 λw hw=>h w (uQ _ hw)];split
  ·rfl
  ·have:x≠n:=by rintro rfl;exact h v Uy
   simp [this]
theorem Jk {kindOf:Str->Option NameKind}:∀ {P:Lh} {vs:Lf} {i:Nat} {m:La},P.Nodup->P[i]? = some x->vs[i]? = some v->kindOf x=some .local ->
  bindL kindOf (P.zip vs) m x=some v
 | [],_,_,_,_,h,_,_=>by simp at h
 | _::_,[],_,_,_,_,h,_=>by simp at h
 | p::P,w::vs,0,m,nd,h1,h2,hk=>by simp at h1 h2;subst h1;subst h2;show bindL kindOf ((p,w)::P.zip vs) m p=_;unfold bindL;rw [X1 λv hv=>(Ue.mp nd).1 (gg hv).1,ud hk];simp
 | p::P,w::vs,i+1,m,nd,h1,h2,hk=>by show bindL kindOf ((p,w)::P.zip vs) m x=_;unfold bindL;exact Jk (i:=i) (Ue.mp nd).2 (by simpa using h1) (by simpa using h2) hk
theorem Jl {kindOf:Str->Option NameKind}:∀ {P:Lh} {vs:Lf} {i:Nat} {m:La},P.Nodup->P[i]? = some x->vs[i]? = some v->kindOf x≠some .local ->
  bindC kindOf (P.zip vs) m x=some v
 | [],_,_,_,_,h,_,_=>by simp at h
 | _::_,[],_,_,_,_,h,_=>by simp at h
 | p::P,w::vs,0,m,nd,h1,h2,hk=>by simp at h1 h2;subst h1;subst h2;show bindC kindOf ((p,w)::P.zip vs) m p=_;unfold bindC;rw [X2 λv hv=>(Ue.mp nd).1 (gg hv).1,ub hk];simp
 | p::P,w::vs,i+1,m,nd,h1,h2,hk=>by show bindC kindOf ((p,w)::P.zip vs) m x=_;unfold bindC;exact Jl (i:=i) (Ue.mp nd).2 (by simpa using h1) (by simpa using h2) hk
noncomputable def start (N:Lh)(vs:List V):St:=vs.map some++List.replicate (N.length - vs.length) none
noncomputable def cxOf (CX:CXT)(P:Program)(w:World)(K:Le)(mg:La)(base:Heap)(N:Lh)(qual:Str)(scope:Scope)(f:Addr)(cd:Value)(A:Around)(outer:List Env)(s:Shared)(H:Hp)(E:XK):Cx where
 prog:=P
 w:=w
 K:=K
 mg:=mg
 base:=base
 A:=A.deeper (envOfC qual scope s.heap.objs.size f cd)
 N:=N
 s₀:=s
 H₀:=H
 env:=envOfC qual scope s.heap.objs.size f cd
 outer:=outer
 stack:=envOfC qual scope s.heap.objs.size f cd::outer
 ex:=[]
 calm:=true
 fn:=λ_=>true
 pn:=[]
 xe:=λe s'=>wpAny (model P w) (A.deeper (envOfC qual scope s.heap.objs.size f cd)) (leaving (envOfC qual scope s.heap.objs.size f cd) e) (λ_ s''=>CX outer H s E e s'') (λe' s''=>CX outer H s E e' s'') s'
theorem QM {sc:Scope}(h:sc.names.lookup x=some .cell):∃ c,(cellsFrom n sc.names []).lookup x=some c:=by have q:=U0 sc.names n [] (.inl h);exact Option.isSome_iff_exists.mp q
theorem X3 {CX:CXT}{P:Program}{w:World}{K:Le}{mg:La}{base:Heap}{N ps:Lh}{qual:Str}{scope:Scope}{f:Addr}{cd:Value}{A:Around}{outer:List Env}{s s1:Shared}{H:Hp}{E:XK}{us:Lf}{vs:List V} (S:zj N ps scope) (hd:A.handled=none) (e0:Env0 P w K mg base A outer s H) (hl:vs.length=ps.length) (r:Vals vs us) (x:InCallC s s.heap.objs.size (bindL (envOfC qual scope s.heap.objs.size f cd).kindOf (ps.zip us) λ_=>none) (cellsFrom (s.heap.objs.size+1) scope.names []) (bindC (envOfC qual scope s.heap.objs.size f cd).kindOf (ps.zip us) λ_=>none) s1) : Inv (cxOf CX P w K mg base N qual scope f cd A outer s H E) [] (start N vs) H s1:=by
 have hpl:ps.length<=N.length:=by have:=congrArg List.length S.pre;rw [Ui] at this;lia
 obtain⟨h1,tk,rfl,hk⟩:=x.done;have noA:∀ b:Addr,b∉(cxOf CX P w K mg base N qual scope f cd A outer s H E).ex:=λb z=>absurd (show b∈([]:Ld) from z) (by simp)
 refine⟨⟨e0.mod,S.kind,rfl,rfl,ui _,λy z c h1 h2=>?_,λy hy=>?_,λy c _ h=>?_,λ_=>hd,Around.frames_deeper e0.frames,.inr ⟨rfl,rfl⟩,λb z=>absurd z (noA b),e0.bs,e0.bsz,λb _ _=>noA b,λb z=>absurd z (noA b),e0.funs,e0.frf⟩,
  rfl,e0.bare,Un.kept hk,⟨_,x.toInCall.ns,λi y v h1 h2 h3=>?_⟩,λy c h=>⟨_,x.cell y c h⟩,e0.hok.fresh (ui _),λy c h=>?_,λp hp=>absurd (show p∈([]:Lp) from hp) (by simp),e0.hok.kept hk,?_⟩
 ·exact name_of_addr x.apart (uP h1) (uP h2)
 ·have hy:scope.names.lookup y=some .cell\/scope.names.lookup y=some .free:=hy;rcases hy with hy | hy
  ·exact QM hy
  ·exact absurd rfl (S.nofree _ (uP hy))
 ·exact gE (x.above y c (uP h))
 ·have hi:i<vs.length:=by
   unfold start at h2
   by_cases hi:i<vs.length
   ·exact hi
   ·rw [Uz (by simpa using hi)] at h2
    rw [gz] at h2
    split at h2<;>cases h2
  have ha:vs[i]? = some v:=by
   unfold start at h2
   rw [UB (by simpa using hi),Uc] at h2
   cases e:vs[i]? with
   | none=>rw [e] at h2;cases h2
   | some a=>rw [e] at h2;cases h2;rfl
  obtain⟨u,hu,rv⟩:=r.get ha
  have hp:ps[i]? = some y:=by
   rw [← S.pre,GS (by lia)];exact h1
  have ndP:ps.Nodup:=by rw [← S.pre];exact S.nd.sublist (List.take_sublist _ _)
  refine⟨u,rv,?_⟩
  rcases S.par y (uN hp) with k | k
  ·exact .inl ⟨k,Jk ndP hp hu k⟩
  ·obtain⟨c,e⟩:=QM (n:=s.heap.objs.size+1) k
   refine .inr ⟨.inl k,c,e,?_⟩
   have q:=x.cell y c e
   rw [Jl ndP hp hu (by show scope.names.lookup y≠_;rw [k];decide)] at q
   exact q
 ·exact e0.hok.fresh (gE (x.above y c (uP h)))
 ·unfold start;show _=N.length;rw [ug,uk,Um];lia
theorem zbQ {CX:CXT}{P:Program}{w:World}{K:Le}{mg:La}{base:Heap}{k:Nat}{f:Addr}{name qual:Str}{params:Arguments}{body:List Stmt}{scope:Scope}{dV kV doc pm cdv ct oc:Value}{an od:Option Addr} {osl:Array (Option Value)} {N ps:Lh} {sp:Sp} (lk:K.lookup f=some ⟨oc,od,.func (PySem.W.fnOf name qual params body scope dV kV doc pm an cdv ct),osl⟩) (hcd:PySem.W.codeIn K cdv qual=true) (S:zj N ps scope) (len:∀ vs H Q E,sp vs H Q E->vs.length=ps.length) (hbody:∀ (A:Around) (outer:List Env) (s:Shared) (H:Hp) (vs:List V) (Q:VK) (E:XK),Room k (A.deeper (envOfC qual scope s.heap.objs.size f cdv))->sp vs H Q E -> ∃ t,PSs (cxOf CX P w K mg base N qual scope f cdv A outer s H E) body t/\t { nx:=λ_ H'=>Q .non H',rt:=Q } (start N vs) H) : FnOk P w K mg base CX (k+1) f (PySem.W.fnOf name qual params body scope dV kV doc pm an cdv ct) ps sp:=by
 refine⟨len,λA outer s H args us vs Q E hr e0 hb r hsp=>?_⟩;have hl:=len _ _ _ _ hsp;have KX:K.In s.heap:=e0.mod.kin.keeps λb o e=>(e0.bs b o e).1;have lim:s.heap.NoLimit:=e0.mod.nolimit.keeps λb o e=>(e0.bs b o e).1
 have hkind:∀ y∈ps.zip us,scope.names.lookup y.1=some .local\/(scope.names.lookup y.1=some .cell/\((cellsFrom (s.heap.objs.size+1) scope.names []).lookup y.1).isSome=true):=λ⟨n,v⟩ hy=>by
  rcases S.par n (gg hy).1 with q | q
  ·exact .inl q
  ·exact .inr ⟨q,U0 _ _ _ (.inl q)⟩
 refine gj hr.depth (KX _ _ lk) rfl S.co S.gen rfl (Gd KX hcd) (hb _ _ _ _ ?_);refine U1 S.kind hkind λenv he s1 x=>?_;subst he;refine⟨lim.keeps x.toInCall.keep,Ge ?_⟩;obtain⟨t,ht,hq⟩:=hbody A outer s H vs Q E (hr.deeper _) hsp;have I:Inv (cxOf CX P w K mg base N qual scope f cdv A outer s H E) [] (start N vs) H s1:=X3 S hr.hd e0 hl r x;refine uj (ht [] s1 (start N vs) H _ I hq) (λfl s' hs=>?_) λe s' hs=>hs
 have fin:∀ {σ':St} {H':Hp} {v:V} {u:Value},Inv (cxOf CX P w K mg base N qual scope f cdv A outer s H E) [] σ' H' s'->RelV v u->Q v H'->CE outer P w H s Q u s':=
  λ{σ' H' v u} J rv q=>⟨v,H',J.os,J.bare,J.base,J.hok,rv,q⟩
 cases fl with
 | ret u=>obtain⟨v,σ',H',J,rv,q⟩:=hs;exact fin J rv q
 | next=>obtain⟨σ',H',J,q⟩:=hs;exact fin (v:=V.non) (u:=Value.none) J rfl q
 | brk=>obtain⟨_,_,_,q⟩:=hs;exact False.elim q
 | cont=>obtain⟨_,_,_,q⟩:=hs;exact False.elim q
section
variable {X:Cx} {x:Str} {p pos:Pos} {e:Expr} {es:Lg} {t:TA} {id T:String} {r:List V->Hp->VK->Prop}
noncomputable def tCB (r:List V->Hp->VK->Prop)(t:TA):TE:=λσ H Q=>t σ H λvs H1=>r vs H1 Q
theorem zd3 (hc:jV X (.builtin id) r)(hg:Gl X x)(hm:X.mg x=none)(hv:bootBuiltins x=some (.builtin id))(ha:PA X (e::es) t)(hn:x≠"__name__":=by decide) (hdb:(x == ("__debug__":Str))=false:=by decide) (he:starEach (e::es) X.env=(false,eval e X.env)::starEach es X.env:=by rfl) (hpl:(backTo pos (starEach es X.env)).any (·.1)=false:=by rfl):PE X (.Call (.Name x p) (e::es) [] pos) (tCB r t):=by intro pins s σ H Q I h;refine uL (Z7 I hg hm hv ?_ hn hdb);exact PyProof.Rows.callWith_builtin1 (thn (ha pos pins s σ H _ I h) λus s1 ⟨vs,H1,I1,r1,q1⟩=>hc pins s1 σ H1 vs us Q I1 r1 q1) he hpl
theorem zc6 (hc:jV X (.type T) r)(hg:Gl X x)(hm:X.mg x=none)(hv:bootBuiltins x=some (.type T))(ha:PA X (e::es) t)(hn:x≠"__name__":=by decide) (hdb:(x == ("__debug__":Str))=false:=by decide) (he:starEach (e::es) X.env=(false,eval e X.env)::starEach es X.env:=by rfl) (hpl:(backTo pos (starEach es X.env)).any (·.1)=false:=by rfl):PE X (.Call (.Name x p) (e::es) [] pos) (tCB r t):=by intro pins s σ H Q I h;refine uL (Z7 I hg hm hv ?_ hn hdb);exact PyProof.Rows.callWith_type1 (thn (ha pos pins s σ H _ I h) λus s1 ⟨vs,H1,I1,r1,q1⟩=>hc pins s1 σ H1 vs us Q I1 r1 q1) he hpl
end
end L2
namespace HT
open PySem PyProof.Rows
section
open PySem.SeqAt
open PySem.AutoSeq1 (wpAny_loadPart')
open PySem.MeetsSeq PySem.MeetsSeq2 PySem.MeetsSeq3
end
section
variable {prog:Program} {w:World} {A:Around} {E:Value->Shared->Prop} {s:Shared}
theorem zgk {vs ws:Lf}(ht:IsTup s.heap t vs.toArray)(hb:IsTup s.heap b ws.toArray)(hv:vs≠[]) (h1:ws=[]->Q (.ref t) s) (h2:ws≠[]->Q (.ref s.heap.objs.size) { s with heap:=s.heap.push { cls:=.type "tuple",data:=.seq (vs++ws).toArray } }) (hsz:vs.length+ws.length<=sizeLine):wpAny (model prog w) A (binaryOp .Add (.ref t) (.ref b)) Q E s:=by
 obtain⟨⟨cls,dd,data,sl⟩,ho,hc,n,hd⟩:=id ht;obtain⟨⟨cls2,dd2,data2,sl2⟩,ho2,hc2,n2,hd2⟩:=id hb;simp only at hc hd hc2 hd2;subst hc hd hc2 hd2;have e:vs.toArray++ws.toArray=(vs++ws).toArray:=by simp
 by_cases hw:ws=[]
 ·exact Gf ⟨_,ho,rfl⟩ ⟨_,ho2,rfl⟩ gG gY gI gA (gr _ _)
   (tuple_addW1 t b vs.toArray ws.toArray n n2 dd dd2 sl sl2 (by simpa using hv) (by simp [hw])) ⟨ho,ho2,h1 hw⟩
 ·refine Gf ⟨_,ho,rfl⟩ ⟨_,ho2,rfl⟩ gG gY gI gA (gr _ _)
   (tuple_addW2 t b vs.toArray ws.toArray n n2 dd dd2 sl sl2 (by simpa using hv) (by simpa using hw) (by rw [uh,uh];exact hsz)) ⟨ho,ho2,?_⟩
  rw [e]
  exact h2 hw
noncomputable def sIx (n d:Nat):Option Int->Nat
 | none=>d
 | some v=>if v<0 then(v+(n:Int)).toNat else min v.toNat n
theorem sIx_none (n d:Nat):sIx n d none=d:=rfl
theorem zin (n d:Nat)(hd:d<=n)(o:Option Int):sIx n d o<=n:=by
 cases o with
 | none=>exact hd
 | some v=>
  show(if v<0 then(v+(n:Int)).toNat else min v.toNat n)<=n;by_cases hv:v<0
  ·rw [ud hv];lia
  ·rw [ub hv];exact Nat.min_le_right _ _
theorem zbR (v:Int)(n d:Nat):(if v<0 then max (v+(n:Int)) 0 else min v (n:Int))=((sIx n d (some v):Nat):Int):=by
 show(if v<0 then max (v+(n:Int)) 0 else min v (n:Int))=(((if v<0 then(v+(n:Int)).toNat else min v.toNat n):Nat):Int)
 by_cases hv:v<0
 ·simp only [ud hv];lia
 ·simp only [ub hv];lia
theorem zam (lo hi:Option Int)(n:Nat):Builtin.Slice.sliceAdjust lo hi 1 (n:Int)=(((sIx n 0 lo:Nat):Int),((sIx n n hi:Nat):Int)):=by
 have h1:¬ ((1:Int)<0):=by lia
 unfold Builtin.Slice.sliceAdjust;simp only [h1,gc];refine gw ?_ ?_
 ·cases lo with
  | none=>rfl
  | some v=>exact zbR v n 0
 ·cases hi with
  | none=>rfl
  | some v=>exact zbR v n n
theorem zan (i j:Nat):Builtin.Slice.slicePlaces (i:Int) (j:Int) 1=j - i:=by
 unfold Builtin.Slice.slicePlaces;have h1:(1:Int) > 0:=by lia
 simp only [h1,if_true,Int.ediv_one];split<;>lia
theorem WK (p:IsPart v o)(h:Q o s):wpAny (model prog w) A (Builtin.Slice.slicePartIndex v) Q E s:=by
 cases p with
 | none=>exact GF h
 | int i t=>exact slicePart_int h
theorem yP {sl:Addr}{vl vu:Value}{lo hi:Option Int}{n:Nat}{Q:Int×Int×Nat->Shared->Prop}(hs:s.heap.IsSliceOf sl vl vu .none)(pl:IsPart vl lo)(pu:IsPart vu hi) (h:Q (((sIx n 0 lo:Nat):Int),1,sIx n n hi - sIx n 0 lo) s):wpAny (model prog w) A (Builtin.Slice.sliceApplied (.ref sl) (pure (n:Int))) Q E s:=by obtain⟨os,hos,hcs,hds⟩:=id hs;unfold Builtin.Slice.sliceApplied Builtin.Slice.sliceFields;refine ua (ua (uB hos hds (x:=vl) rfl (ua (uB hos hds (x:=vu) rfl (ua (uB hos hds (x:=.none) rfl (uc ?_)))))));refine ua (GF ?_);show wpAny _ _ (if ((1:Int) == 0)=true then _ else _) _ _ s;rw [ub (by decide)];refine ua (WK pl (ua (WK pu (ua (uc ?_)))));show wpAny _ _ (match Builtin.Slice.sliceAdjust lo hi 1 (n:Int) with | (lo,hi)=>pure (lo,(1:Int),Builtin.Slice.slicePlaces lo hi 1)) _ _ s;rw [zam lo hi n];show wpAny _ _ (pure (((sIx n 0 lo:Nat):Int),(1:Int),Builtin.Slice.slicePlaces ((sIx n 0 lo:Nat):Int) ((sIx n n hi:Nat):Int) 1)) _ _ s;rw [zan];exact uc h
theorem zd4 (xs:Array Value)(i k:Nat):((List.range k).filterMap λ(m:Nat)=>xs[((i:Int)+(m:Int) * 1).toNat]?).toArray=((xs.toList.drop i).take k).toArray:=by
 have e:(λ(m:Nat)=>xs[((i:Int)+(m:Int) * 1).toNat]?)=λm=>xs[i+m]?:=by
  funext m;have:((i:Int)+(m:Int) * 1).toNat=i+m:=by lia
  rw [this]
 rw [e];have:=pick_run xs i k;rw [List.filterMap_map] at this;have e2:((λx=>xs[x]?) ∘ λx=>i+x)=λm=>xs[i+m]?:=rfl;rw [e2] at this;rw [this]
theorem QN {t sl:Addr}{items:Array Value}{vl vu:Value}{lo hi:Option Int}{Q:Value->Shared->Prop}(ht:IsTup s.heap t items)(hs:s.heap.IsSliceOf sl vl vu .none)(pl:IsPart vl lo)(pu:IsPart vu hi) (hw:¬ (sIx items.size 0 lo=0/\sIx items.size items.size hi=items.size)) (h:Q (.ref s.heap.objs.size) { s with heap:=s.heap.push { cls:=.type "tuple",data:=.seq ((items.toList.drop (sIx items.size 0 lo)).take (sIx items.size items.size hi - sIx items.size 0 lo)).toArray } }) (hsz:items.size<=sizeLine):wpAny (model prog w) A (getItem (.ref t) (.ref sl)) Q E s:=by
 have htake:sizeOk (.seq ((items.toList.drop (sIx items.size 0 lo)).take (sIx items.size items.size hi - sIx items.size 0 lo)).toArray):=by show((items.toList.drop (sIx items.size 0 lo)).take (sIx items.size items.size hi - sIx items.size 0 lo)).toArray.size<=sizeLine;rw [uh,Ui,gB,gU];lia
 have hj:sIx items.size items.size hi<=items.size:=zin _ _ (ui _) hi;obtain⟨os,hos,hcs,hds⟩:=id hs;have hTs:s.TypeIs (.ref sl) "slice":=⟨os,hos,hcs⟩
 unfold getItem
 try with_reducible refine uK ?_
 first | refine ua (uc ?_) | skip
 refine ua (G6 ht.typeIs (by decide) ?_)
 refine ua (UI (name:=Str.ofString "__getitem__") ht.typeIs PyProof.Rows.slot_tuple_getitem
  (U2 PyProof.Rows.slot_tuple_getitem ht.typeIs Gm ?_ (Gu _ _)))
 show wpAny _ _ (Builtin.Tuple.tupleItemsOf (.ref t) >>= _) _ _ s;refine ua (GK ht ?_);refine ua (UJ hTs ?_);rw [ud (by decide)];refine ua (yP hs pl pu ?_);have hno:¬ ((((sIx items.size 0 lo:Nat):Int) == 0&&(1:Int) == 1&&(sIx items.size items.size hi - sIx items.size 0 lo) == items.size)=true):=by intro q;rw [uG,uG] at q;have q1:((sIx items.size 0 lo:Nat):Int)=0:=eq_of_beq q.1.1;have q2:sIx items.size items.size hi - sIx items.size 0 lo=items.size:=eq_of_beq q.2;exact hw ⟨by lia,by lia⟩
 show wpAny _ _ (if (((sIx items.size 0 lo:Nat):Int) == 0&&(1:Int) == 1&&(sIx items.size items.size hi - sIx items.size 0 lo) == items.size)=true then _ else _) _ _ s;rw [ub hno,zd4]
 first
  | exact ua (m:=Builtin.Tuple.tupleExact _) (Ut (uc ⟨_,rfl,uc h⟩) htake)
  | exact ua (m:=Builtin.Tuple.tupleExact _) (Ut (ua (uc (uc ⟨_,rfl,uc h⟩))) htake)
  | exact ua (ua (m:=Builtin.Tuple.tupleExact _) (Ut (uc (uc ⟨_,rfl,uc h⟩)) htake))
  | exact ua (ua (m:=Builtin.Tuple.tupleExact _) (Ut (uc ⟨_,rfl,uc h⟩) htake))
end
end HT
namespace L2
open PySem PySem.Spec PyProof.Rows
noncomputable abbrev TO:=St->Hp->(Option Int->Hp->Prop)->Prop
def PO (X:Cx)(e:Option Expr)(t:TO):Prop:= ∀ (pins:Lp) (s:Shared) (σ:St) (H:Hp) (Q:Option Int->Hp->Prop),Inv X pins σ H s->t σ H Q -> wpAny (model X.prog X.w) X.A (evalPart e X.env) (λu s'=>∃ o H',Inv X pins σ H' s'/\IsPart u o/\Q o H') X.xe s
noncomputable def Wk:TO:=λ_ H Q=>Q none H
noncomputable def zbS (t:TE):TO:=λσ H Q=>t σ H λx H1=>∃ i,x=.int i/\Q (some i) H1
section
variable {X:Cx} {e:Expr} {te:TE} {lo hi:Option Expr} {tl th:TO} {pos p2:Pos}
theorem zgl:PO X none Wk:=by intro pins s σ H Q I h;rw [evalPart_none];exact uc ⟨none,H,I,.none,h⟩
theorem zgm (h:PE X e te):PO X (some e) (zbS te):=by intro pins s σ H Q I hw;rw [evalPart_some];refine thn (h pins s σ H _ I hw) λu s1 zq=>?_;obtain⟨x,H1,I1,r1,q1⟩:=zq;obtain⟨i,rfl,q⟩:=q1;obtain⟨t,rfl⟩:=r1;exact⟨some i,H1,I1,.int i t,q⟩
def SlR (X:Cx)(r:V->Option Int->Option Int->Hp->VK->Prop):Prop:= ∀ (pins:Lp) (s:Shared) (σ:St) (H:Hp) (x:V) (v vl vu:Value) (lo hi:Option Int) (sl:Addr) (Q:VK),Inv X pins σ H s->RelV x v->s.heap.IsSliceOf sl vl vu .none->IsPart vl lo->IsPart vu hi->r x lo hi H Q -> ∃ T id,typeLookup (.type T) "__getitem__" = pure (some (.builtin id))/\s.TypeIs v T/\wpAny (model X.prog X.w) X.A (getItem v (.ref sl)) (EP X pins σ Q) X.xe s
theorem SlR.or (h:SlR X r)(h':SlR X r'):SlR X (λx lo hi H Q=>r x lo hi H Q\/r' x lo hi H Q):=by
 intro pins s σ H x v vl vu lo hi sl Q I rx hs pl pu q;rcases q with q | q
 ·exact h pins s σ H x v vl vu lo hi sl Q I rx hs pl pu q
 ·exact h' pins s σ H x v vl vu lo hi sl Q I rx hs pl pu q
noncomputable def tSl (r:V->Option Int->Option Int->Hp->VK->Prop)(te:TE)(tl th:TO):TE:=λσ H Q=>te σ H λx H1=>tl σ H1 λl H2=>th σ H2 λu H3=>r x l u H3 Q
theorem zd5 {r:V->Option Int->Option Int->Hp->VK->Prop}(hr:SlR X r)(he:PE X e te)(hl:PO X lo tl)(hu:PO X hi th):PE X (.Subscript e (.Slice lo hi none p2) pos) (tSl r te tl th):=by intro pins s σ H Q I h;refine Subscript_ (thn (he pins s σ H _ I h) λv s1 zq=>?_);obtain⟨x,H1,I1,r1,q1⟩:=zq;refine wpAny_Slice (thn (hl pins s1 σ H1 _ I1 q1) λvl s2 ⟨l,H2,I2,pl,q2⟩=>thn (hu pins s2 σ H2 _ I2 q2) λvu s3 zq=>?_);obtain⟨u,H3,I3,pu,q3⟩:=zq;rw [evalPart_none];refine uc ?_;have I4:Inv X pins σ H3 { s3 with heap:=s3.heap.push { cls:=.type "slice",data:=.fields #[vl,vu,.none] } }:=I3.kept (t':=s3.toks) λb ob q=>ue _ q;obtain⟨T,id,hT,ht,hg⟩:=hr pins { s3 with heap:=s3.heap.push { cls:=.type "slice",data:=.fields #[vl,vu,.none] } } σ H3 x v vl vu l u s3.heap.objs.size Q I4 r1 (Heap.IsSliceOf.new ..) pl pu q3;show wpAny (model X.prog X.w) X.A (subscriptTail e (.Slice lo hi none p2) v (.ref s3.heap.objs.size)) (EP X pins σ Q) X.xe { s3 with heap:=s3.heap.push { cls:=.type "slice",data:=.fields #[vl,vu,.none] } };exact tail_any (ops:=[.ref s3.heap.objs.size,v]) ht hT hg (by with_unfolding_all rfl)
noncomputable def cutV (xs:List V)(lo hi:Option Int):List V:=(xs.drop (HT.sIx xs.length 0 lo)).take (HT.sIx xs.length xs.length hi - HT.sIx xs.length 0 lo)
theorem YM (xs:List V)(lo hi:Option Int):(cutV xs lo hi).length<=xs.length:=by unfold cutV;rw [Ui,gB];lia
noncomputable def rSlT (K:Le):V->Option Int->Option Int->Hp->VK->Prop:=λx lo hi H Q=>∃ a xs,x=.ref a/\SqT K H a xs /\ ¬ (HT.sIx xs.length 0 lo=0/\HT.sIx xs.length xs.length hi=xs.length)/\∀ p,H p=none->Q (.ref p) (upd H p (.tup (cutV xs lo hi)))
theorem zio:SlR X (rSlT X.K):=by
 intro pins s σ H x v vl vu lo hi sl Q I rx hs pl pu h;obtain⟨a,xs,rfl,hx,hw,q⟩:=h;cases rx;obtain⟨its,r,ht,hz⟩:=I.tuple hx;have hlen:its.toArray.size=xs.length:=by rw [uh];exact r.length.symm
 refine⟨"tuple",_,PyProof.Rows.slot_tuple_getitem.lookup,ht.typeIs,?_⟩;refine HT.QN ht hs pl pu (by rw [hlen];exact hw) ?_ (by rw [hlen];exact hz);rw [hlen];refine⟨.ref s.heap.objs.size,_,I.laid (t':=s.toks) (o:=.tup (cutV xs lo hi)) (λb ob q=>ue _ q) (ui _) ?_,rfl,q _ (I.hok.fresh (ui _))⟩;exact⟨uJ (YM xs lo hi) hz,_,(r.drop (HT.sIx xs.length 0 lo)).take (HT.sIx xs.length xs.length hi - HT.sIx xs.length 0 lo),IsTup.new _ _⟩
noncomputable def zkw (K:Le):R2:=λx y H Q=>∃ a b xs ys,x=.ref a/\y=.ref b/\SqT K H a xs/\SqT K H b ys/\xs≠[]/\xs.length+ys.length<=sizeLine /\ (ys=[]->Q (.ref a) H)/\(ys≠[]->∀ p,H p=none->Q (.ref p) (upd H p (.tup (xs++ys))))
theorem Vals.nil_iff (r:Vals xs us):us=[]↔xs=[]:=by
 cases r with
 | nil=>simp
 | cons _ _=>simp
theorem zgn:OpR X (binaryOp .Add) (zkw X.K):=by intro pins s σ H x y v u Q I rx ry h;obtain⟨a,b,xs,ys,rfl,rfl,ha,hb,hx,hz,q1,q2⟩:=h;cases rx;cases ry;obtain⟨its,r1,p1,_⟩:=I.tuple ha;obtain⟨its2,r2,p2,_⟩:=I.tuple hb;refine HT.zgk p1 p2 (λz=>hx (r1.nil_iff.mp z)) (λz=>⟨.ref a,H,I,rfl,q1 (r2.nil_iff.mp z)⟩) (λz=>?_) (by rw [← r1.length,← r2.length];exact hz);refine⟨.ref s.heap.objs.size,_,I.laid (t':=s.toks) (o:=.tup (xs++ys)) (λb ob q=>ue _ q) (ui _) ?_,rfl,q2 (λw=>z (r2.nil_iff.mpr w)) _ (I.hok.fresh (ui _))⟩;exact⟨by rw [ug];exact hz,_,r1.append r2,IsTup.new _ _⟩
end
noncomputable def ixN (n:Nat)(i:Int):Option Nat:=if 0<=i then(if i<n then some i.toNat else none) else if -(n:Int)<=i then some (i+n).toNat else none
noncomputable def atI {α:Type}(xs:List α)(i:Int):Option α:=(ixN xs.length i).bind λj=>xs[j]?
theorem zbT (h:ixN n i=some j):seqIndex? i n=some j/\j<n/\-(n:Int)<=i/\i<n:=by
 unfold ixN at h;by_cases h0:0<=i
 ·rw [ud h0] at h;by_cases h1:i<n
  ·rw [ud h1] at h;have e:i.toNat=j:=uF h;exact⟨by rw [Gn h0 h1,e],by lia,by lia,h1⟩
  ·rw [ub h1] at h;cases h
 ·rw [ub h0] at h;by_cases h1:-(n:Int)<=i
  ·rw [ud h1] at h;have e:(i+n).toNat=j:=uF h;exact⟨by rw [Gg (by lia) h1,e],by lia,h1,by lia⟩
  ·rw [ub h1] at h;cases h
theorem Vo {α:Type}{xs:List α}{i:Int}{v:α}(h:atI xs i=some v):∃ j,seqIndex? i xs.length=some j/\xs[j]? = some v/\j<xs.length/\-(xs.length:Int)<=i/\i<xs.length:=by
 unfold atI at h;cases e:ixN xs.length i with
 | none=>rw [e] at h;cases h
 | some j=>rw [e] at h;obtain⟨h1,h2,h3,h4⟩:=zbT e;exact⟨j,h1,h,h2,h3,h4⟩
theorem zgo {α:Type}{xs:List α}{j:Nat}{v:α}(h:xs[j]? = some v):atI xs (j:Int)=some v:=by
 have hj:j<xs.length:=(ur.mp h).1;have e:ixN xs.length (j:Int)=some j:=by unfold ixN;rw [ud (by lia),ud (by lia)];simp
 unfold atI;rw [e];exact h
def Wl (b:Expr):Prop:=∀ o i,subscripted b false o i=operate [o,i] (getItem o i)
def IxR (X:Cx)(r:R2):Prop:= ∀ (value slice:Expr) (pins:Lp) (s:Shared) (σ:St) (H:Hp) (x y:V) (v u:Value) (Q:VK),Inv X pins σ H s->RelV x v->RelV y u->r x y H Q -> subscripted slice false v u=operate [v,u] (getItem v u)->wpAny (model X.prog X.w) X.A (subscriptTail value slice v u) (EP X pins σ Q) X.xe s
def MtR (X:Cx)(id:String)(r:V->List V->Hp->VK->Prop):Prop:= ∀ (pins:Lp) (s:Shared) (σ:St) (H:Hp) (x:V) (xs:List V) (v:Value) (us:Lf) (Q:VK),Inv X pins σ H s->RelV x v->Vals xs us->r x xs H Q -> wpAny (model X.prog X.w) X.A (call (.builtin id) (v::us)) (EP X pins σ Q) X.xe s
section
variable {X:Cx} {a b:Expr} {ta tb:TE} {pos:Pos}
theorem IxR.or (h:IxR X r)(h':IxR X r'):IxR X (λx y H Q=>r x y H Q\/r' x y H Q):=by
 intro value slice pins s σ H x y v u Q I rx ry q hs;rcases q with q | q
 ·exact h value slice pins s σ H x y v u Q I rx ry q hs
 ·exact h' value slice pins s σ H x y v u Q I rx ry q hs
theorem MtR.or {id:String}{r r':V->List V->Hp->VK->Prop}(h:MtR X id r)(h':MtR X id r'):MtR X id (λx xs H Q=>r x xs H Q\/r' x xs H Q):=by
 intro pins s σ H x xs v us Q I rx rs q;rcases q with q | q
 ·exact h pins s σ H x xs v us Q I rx rs q
 ·exact h' pins s σ H x xs v us Q I rx rs q
theorem zkx (hr:IxR X r)(ha:PE X a ta)(hb:PE X b tb)(hs:Wl b):PE X (.Subscript a b pos) (tOp r ta tb):=by intro pins s σ H Q I h;exact Subscript_ (binT ha hb I h λv u s2 x y H2 I2 rx ry q=>hr a b pins s2 σ H2 x y v u Q I2 rx ry q (hs _ _))
noncomputable def rIxL (K:Le):R2:=λx y H Q=>∃ p xs i v,x=.ref p/\y=.int i/\SqL K H p xs/\atI xs i=some v/\Q v H
noncomputable def rIxT (K:Le):R2:=λx y H Q=>∃ p xs i v,x=.ref p/\y=.int i/\SqT K H p xs/\atI xs i=some v/\Q v H
noncomputable def rIxS:R2:=λx y H Q=>∃ z i c,x=.str z/\y=.int i/\z.length<=sizeLine/\atI z.cps.toList i=some c/\Q (.str ⟨#[c]⟩) H
theorem zgp:IxR X (rIxL X.K):=by
 intro value slice pins s σ H x y v u Q I rx ry h hs;obtain⟨p,xs,i,z,rfl,rfl,hq,he,q⟩:=h;cases rx;obtain⟨t,rfl⟩:=ry;obtain⟨its,r,pl,hz⟩:=I.list hq;obtain⟨j,h1,h2,h3,h4,h5⟩:=Vo he;obtain⟨w,ew,rw'⟩:=r.get h2;have hl:=r.length;have hn:=Z8;have fin:EP X pins σ Q w s:=⟨z,H,I,rw',q⟩
 by_cases h0:0<=i
 ·have hj:i.toNat=j:=by
   rw [Gn h0 h5] at h1
   exact uF h1
  exact item_listR pl.isList h0 (by lia) (by rw [hj];simpa using ew) fin hs
 ·have hj:(i+(its.toArray.size:Int)).toNat=j:=by
   rw [Gg (by lia) h4] at h1
   rw [uh,← hl]
   exact uF h1
  exact Ga (x:=w) pl.isList.typeIs slot_list_getitem.lookup
   (wpAny_getItem_list_neg (Q:=λr s'=>r=w/\EP X pins σ Q r s') pl.isList (by lia) (by rw [uh]<;>lia) (by lia) (by rw [hj];simpa using ew) ⟨rfl,fin⟩) hs
theorem ziq:IxR X (rIxT X.K):=by
 intro value slice pins s σ H x y v u Q I rx ry h hs;obtain⟨p,xs,i,z,rfl,rfl,hq,he,q⟩:=h;cases rx;obtain⟨t,rfl⟩:=ry;obtain⟨its,r,pl,hz⟩:=I.tuple hq;obtain⟨j,h1,h2,h3,h4,h5⟩:=Vo he;obtain⟨w,ew,rw'⟩:=r.get h2;have hl:=r.length;have hn:=Z8;have fin:EP X pins σ Q w s:=⟨z,H,I,rw',q⟩
 exact Ga (x:=w) pl.typeIs slot_tuple_getitem.lookup
  (getItem_tuple (j:=j) (Q:=λr s'=>r=w/\EP X pins σ Q r s') pl (by lia) (by lia) (by rw [uh,← hl];exact h1) (by simpa using ew) ⟨rfl,fin⟩) hs
theorem zir:IxR X rIxS:=by
 intro value slice pins s σ H x y v u Q I rx ry h hs;obtain⟨z,i,c,rfl,rfl,hz,he,q⟩:=h;obtain⟨t,rfl⟩:=rx;obtain⟨t',rfl⟩:=ry;obtain⟨j,h1,h2,h3,h4,h5⟩:=Vo he;have hl:z.cps.toList.length=z.length:=by simp [Str.length]
 rw [hl] at h1 h4 h5;have hn:=Z8
 exact tail_any (typeIs_str s z t) slot_str_getitem.lookup (getItem_str (c:=c) (by
  have e1:decide (i < -(2 ^ 63:Int))=false:=uC (by lia)
  have e2:decide (i ≥ 2 ^ 63)=false:=uC (by lia)
  rw [e1,e2,Bool.or_false]) (by rw [h1];simpa using h2) ⟨.str ⟨#[c]⟩,H,I.tok _,⟨_,rfl⟩,q⟩) hs
theorem zao (its:Lf)(n j:Nat)(u:Value):Obj.mapSeq (·.setIfInBounds j u) { cls:=.type "list",data:=.seq its.toArray n }={ cls:=.type "list",data:=.seq (its.set j u).toArray n }:=by simp [Obj.mapSeq]
theorem Inv.lst {pins:Lp}{s:Shared}{xs:List V}(I:Inv X pins σ H s)(h:H p=some (.lst xs)) : ∃ (its:Lf) (n:Nat),Vals xs its/\s.heap.get? p=some { cls:=.type "list",data:=.seq its.toArray n }/\xs.length<=sizeLine:=by obtain⟨z,its,n,r,e⟩:=I.hok p _ h;exact⟨its,n,r,e,z⟩
theorem Inv.lstUpd {pins:Lp}{s:Shared}{xs ys:List V}{its its':Lf}(I:Inv X pins σ H s)(h:H p=some (.lst xs)) (ho:s.heap.get? p=some { cls:=.type "list",data:=.seq its.toArray n }) (hf:f { cls:=.type "list",data:=.seq its.toArray n }={ cls:=.type "list",data:=.seq its'.toArray n' }) (r:Vals ys its') (hz:ys.length<=sizeLine) (t:Nat) : Inv X pins σ (upd H p (.lst ys)) { s with heap:=s.heap.update p f,toks:=t }:=by
 have e:(s.heap.update p f).get? p=some { cls:=.type "list",data:=.seq its'.toArray n' }:=by rw [uT f ho (by rw [hf]<;>rfl),hf]
 refine I.write (x:=p) (e:=p) (by rw [h];trivial) (.inl rfl) (λb u hb q=>(ux _ _ (Ne.symm hb)).trans q) ⟨_,e⟩ ?_;exact⟨hz,its',n',r,e⟩
noncomputable def zd6:V->V->V->Hp->(Hp->Prop)->Prop:=λo i v H Q=>∃ p xs k j,o=.ref p/\i=.int k/\H p=some (.lst xs)/\ixN xs.length k=some j/\Q (upd H p (.lst (xs.set j v)))
theorem set_list:PSet X zd6:=by
 intro pins s σ H o i v ov iv u Q I ro ri rv h;obtain⟨p,xs,k,j,rfl,rfl,hp,hj,q⟩:=h;cases ro;obtain⟨t,rfl⟩:=ri;obtain⟨its,n,r,ho,hz⟩:=I.lst hp;obtain⟨h1,h2,h3,h4⟩:=zbT hj;have hl:=r.length;have hn:=Z8
 have I':Inv X pins σ (upd H p (.lst (xs.set j v))) { s with heap:=s.heap.update p (Obj.mapSeq (·.setIfInBounds j u)) }:=
  I.lstUpd hp ho (zao its n j u) (r.set rv j) (by rw [List.length_set];exact hz) s.toks
 by_cases h0:0<=k
 ·have hk:k.toNat=j:=by
   rw [Gn h0 h4] at h1
   exact uF h1
  exact PySem.W.ki_setAt ho h0 (by lia) (by rw [uh,← hl];exact h4) (by rw [hk];exact⟨_,I',q⟩)
 ·have hk:(k+(its.toArray.size:Int)).toNat=j:=by
   rw [Gg (by lia) h3] at h1
   rw [uh,← hl]
   exact uF h1
  exact PySem.W.ki_setBack ho (by lia) (by rw [uh,← hl];exact h3) (by lia) (by rw [hk];exact⟨_,I',q⟩)
noncomputable def zU:V->Bool
 | .non=>true
 | .bl _=>true
 | .int _=>true
 | .str _=>true
 | _=>false
noncomputable def eqV:V->V->Bool
 | .non,.non=>true
 | .bl a,.bl b=>a == b
 | .bl a,.int b=>(if a then 1 else 0) == b
 | .int a,.bl b=>a == (if b then 1 else 0)
 | .int a,.int b=>a == b
 | .str a,.str b=>a == b
 | _,_=>false
theorem zap (ry:RelV y u)(rx:RelV x v)(fy:zU y=true)(fx:zU x=true):SeqAt.EqAt A s u v (eqV y x):=by
 cases y with
 | non=>
  cases ry;cases x with
  | non=>cases rx;exact SeqAt.EqAt.same _
  | bl b=>cases rx;exact SeqAt.EqAt.none_bool b
  | int b=>obtain⟨t,rfl⟩:=rx;exact SeqAt.EqAt.none_int b t
  | str b=>obtain⟨t,rfl⟩:=rx;exact SeqAt.EqAt.none_str b t
  | _=>exact absurd (show false=true from fx) uD
 | bl a=>
  cases ry;cases x with
  | non=>cases rx;exact SeqAt.EqAt.bool_none a
  | bl b=>cases rx;exact SeqAt.EqAt.bool_bool a b
  | int b=>obtain⟨t,rfl⟩:=rx;exact SeqAt.EqAt.bool_int a b t
  | str b=>obtain⟨t,rfl⟩:=rx;exact SeqAt.EqAt.bool_str a b t
  | _=>exact absurd (show false=true from fx) uD
 | int a=>
  obtain⟨t',rfl⟩:=ry;cases x with
  | non=>cases rx;exact SeqAt.EqAt.int_none a t'
  | bl b=>cases rx;exact SeqAt.EqAt.int_bool a t' b
  | int b=>obtain⟨t,rfl⟩:=rx;exact SeqAt.EqAt.int_int a t' b t
  | str b=>obtain⟨t,rfl⟩:=rx;exact SeqAt.EqAt.int_str a t' b t
  | _=>exact absurd (show false=true from fx) uD
 | str a=>
  obtain⟨t',rfl⟩:=ry;cases x with
  | non=>cases rx;exact SeqAt.EqAt.str_none a t'
  | bl b=>cases rx;exact SeqAt.EqAt.str_bool a t' b
  | int b=>obtain⟨t,rfl⟩:=rx;exact SeqAt.EqAt.str_int a t' b t
  | str b=>obtain⟨t,rfl⟩:=rx;exact SeqAt.EqAt.str_str a t' b t
  | _=>exact absurd (show false=true from fx) uD
 | _=>exact absurd (show false=true from fy) uD
noncomputable def eqU (x:V)(u:Value):Bool:=match u with
 | .none=>eqV .non x
 | .bool b=>eqV (.bl b) x
 | .int i _=>eqV (.int i) x
 | .str z _=>eqV (.str z) x
 | _=>false
theorem zd7 (r:RelV y u)(f:zU y=true):eqU x u=eqV y x:=by
 cases y with
 | non=>cases r;rfl
 | bl b=>cases r;rfl
 | int i=>obtain⟨t,rfl⟩:=r;rfl
 | str z=>obtain⟨t,rfl⟩:=r;rfl
 | _=>exact absurd (show false=true from f) uD
theorem QP:∀ {xs:List V} {us:Lf},Vals xs us->xs.all zU=true->us.any (eqU x)=xs.any λy=>eqV y x
 | _,_,.nil,_=>rfl
 | y::xs,u::us,.cons r t,f=>by rw [Gb,uG] at f;rw [U8,U8,zd7 r f.1,QP t f.2]
theorem k8 (rx:RelV x v)(fx:zU x=true):∀ {xs:List V} {us:Lf},Vals xs us->xs.all zU=true->∀ u∈us,SeqAt.EqAt A s u v (eqU x u)
 | _,_,.nil,_=>λu hu=>by cases hu
 | y::xs,u::us,.cons r t,f=>λu' hu=>by
  rw [Gb,uG] at f;rcases um.mp hu with rfl | hu
  ·rw [zd7 r f.1];exact zap r rx f.1 fx
  ·exact k8 rx fx t f.2 u' hu
noncomputable def inV (x:V)(xs:List V):Bool:=xs.any λy=>eqV y x
noncomputable def rIn (K:Le)(neg:Bool):R2:=λx y H Q=>∃ p xs,y=.ref p/\(SqL K H p xs\/SqT K H p xs)/\zU x=true/\xs.all zU=true/\Q (.bl (if neg then !inV x xs else inV x xs)) H
theorem zc7:OpR X (compareOp .In) (rIn X.K false):=by
 intro pins s σ H x y v u Q I rx ry h;obtain⟨p,xs,rfl,hq,fx,fs,q⟩:=h;cases ry;rcases hq with hq | hq
 ·obtain⟨its,r,pl,hz⟩:=I.list hq;refine SeqAt.in_listAt (eqU x) pl.isList (λw hw=>k8 rx fx r fs w (by simpa using hw)) ⟨.bl _,H,I,rfl,?_⟩;rw [show its.toArray.any (eqU x)=its.any (eqU x) by simp,QP r fs];exact q
 ·obtain⟨its,r,pl,hz⟩:=I.tuple hq;refine SeqAt.in_tupleAt (eqU x) pl (λw hw=>k8 rx fx r fs w (by simpa using hw)) ⟨.bl _,H,I,rfl,?_⟩;rw [show its.toArray.any (eqU x)=its.any (eqU x) by simp,QP r fs];exact q
theorem Vp:OpR X (compareOp .NotIn) (rIn X.K true):=by
 intro pins s σ H x y v u Q I rx ry h;obtain⟨p,xs,rfl,hq,fx,fs,q⟩:=h;cases ry;rcases hq with hq | hq
 ·obtain⟨its,r,pl,hz⟩:=I.list hq;refine SeqAt.notIn_listAt (eqU x) pl.isList (λw hw=>k8 rx fx r fs w (by simpa using hw)) ⟨.bl _,H,I,rfl,?_⟩;rw [show its.toArray.any (eqU x)=its.any (eqU x) by simp,QP r fs];exact q
 ·obtain⟨its,r,pl,hz⟩:=I.tuple hq;refine SeqAt.notIn_tupleAt (eqU x) pl (λw hw=>k8 rx fx r fs w (by simpa using hw)) ⟨.bl _,H,I,rfl,?_⟩;rw [show its.toArray.any (eqU x)=its.any (eqU x) by simp,QP r fs];exact q
theorem Vq:jV X (.builtin "len") (λxs H Q=>∃ p ys,xs=[.ref p]/\(SqL X.K H p ys\/SqT X.K H p ys)/\Q (.int ys.length) H):=by
 intro pins s σ H xs us Q I r h;obtain⟨p,ys,rfl,hq,q⟩:=h;obtain⟨u,rfl,rx⟩:=vals1 r;cases rx;have hn:=Z8;rcases hq with hq | hq
 ·obtain⟨its,r',pl,hz⟩:=I.list hq;have hlen:=r'.length;exact Calls.call_len_list pl.isList (by simp only [uh]<;>lia) ⟨.int ys.length,H,I.tok _,⟨s.toks+1,by rw [uh,hlen]⟩,q⟩
 ·obtain⟨its,r',pl,hz⟩:=I.tuple hq;have hlen:=r'.length;exact len_tuple pl (by simp only [uh]<;>lia) ⟨.int ys.length,H,I.tok _,⟨s.toks+1,by rw [uh,hlen]⟩,q⟩
theorem Vr:jV X (.builtin "len") (λxs H Q=>∃ z,xs=[.str z]/\z.length<=sizeLine/\Q (.int z.length) H):=by intro pins s σ H xs us Q I r h;obtain⟨z,rfl,hz,q⟩:=h;obtain⟨u,rfl,t,rfl⟩:=vals1 r;have hn:=Z8;exact len_str (by lia) ⟨.int z.length,H,I.tok _,⟨_,rfl⟩,q⟩
theorem jV.or (h:jV X f r)(h':jV X f r'):jV X f (λxs H Q=>r xs H Q\/r' xs H Q):=by
 intro pins s σ H xs us Q I rs q;rcases q with q | q
 ·exact h pins s σ H xs us Q I rs q
 ·exact h' pins s σ H xs us Q I rs q
theorem Vs:jV X (.type "list") (λxs H Q=>∃ p ys,xs=[.ref p]/\(SqL X.K H p ys\/SqT X.K H p ys)/\∀ l,H l=none->Q (.ref l) (upd H l (.lst ys))):=by
 intro pins s σ H xs us Q I r h;obtain⟨p,ys,rfl,hq,q⟩:=h;obtain⟨u,rfl,rx⟩:=vals1 r;cases rx
 have fin:∀ (its:Lf),Vals ys its->ys.length<=sizeLine->∀ (h':Heap) (c':Nat),(∀ b o',s.heap.get? b=some o'->h'.get? b=some o') ->
   h'.get? s.heap.objs.size=some { cls:=.type "list",dict:=none,data:=.seq its.toArray c',slots:=#[] }->EP X pins σ Q (.ref s.heap.objs.size) { s with heap:=h' }:=λits r' hz h' c' kp e=>
  ⟨.ref s.heap.objs.size,_,I.laid (t':=s.toks) kp (ui _) (show jj X.prog X.w _ h' _ (.lst ys) from⟨hz,its,c',r',e⟩),rfl,q _ (I.hok.fresh (ui _))⟩
 rcases hq with hq | hq
 ·obtain⟨its,r',pl,hz⟩:=I.list hq;have hlen:=r'.length;obtain⟨o,ho,hc,n,hd⟩:=pl.isList;exact call_list_seq p (.inl rfl) ho hc hd (λh' c' kp e=>fin its r' hz h' c' kp e) (by simp only [uh]<;>lia)
 ·obtain⟨its,r',pl,hz⟩:=I.tuple hq;have hlen:=r'.length;obtain⟨o,ho,hc,n,hd⟩:=pl;exact call_list_seq p (.inr rfl) ho hc hd (λh' c' kp e=>fin its r' hz h' c' kp e) (by simp only [uh]<;>lia)
def tyV (K:Le)(T:String)(x:V)(H:Hp):Prop:=match x with
 | .str _=>T="str"
 | .int _=>T="int"
 | .ref p=>(T="list"/\∃ xs,SqL K H p xs)\/(T="tuple"/\∃ o,K.lookup p=some o/\o.cls=.type "tuple"/\o.dict=none) \/
   (T="dict"/\((∃ kvs,H p=some (.dK kvs))\/∃ kvs,H p=some (.dT kvs)))\/(T="set"/\∃ S n,H p=some (.set S n))
 | _=>False
theorem zis {pins:Lp}{s:Shared}(I:Inv X pins σ H s)(r:RelV x v)(ty:tyV X.K T x H) : s.TypeIs v T/\∀ a,v=.ref a->∃ ob,s.heap.get? a=some ob/\ob.dict=none:=by
 cases x with
 | str z=>obtain⟨t,rfl⟩:=r;cases (show T="str" from ty);exact⟨typeIs_str s z t,λ_ e=>nomatch e⟩
 | int i=>obtain⟨t,rfl⟩:=r;cases (show T="int" from ty);exact⟨typeIs_int s i t,λ_ e=>nomatch e⟩
 | ref p=>
  cases r;rcases ty with⟨rfl,xs,hq⟩ | ⟨rfl,o,hk,hc,hd⟩ | ⟨rfl,hk⟩ | ⟨rfl,S,n,hk⟩
  ·obtain⟨its,_,pl,_⟩:=I.list hq;refine⟨pl.isList.typeIs,λa e=>?_⟩;cases e;obtain⟨o,n,e,c,hd,_⟩:=pl;exact⟨o,e,hd⟩
  ·refine⟨⟨o,I.kIn p o hk,hc⟩,λa e=>?_⟩;cases e;exact⟨o,I.kIn _ o hk,hd⟩
  ·have z:∃ o,s.heap.get? p=some o/\o.ExactDict:=by
    rcases hk with⟨kvs,hk⟩ | ⟨kvs,hk⟩
    ·obtain⟨_,_,_,_,o,_,_,e,ex,_⟩:=I.hok p _ hk
     exact⟨o,e,ex⟩
    ·obtain⟨_,_,_,_,o,_,_,e,ex,_⟩:=I.hok p _ hk
     exact⟨o,e,ex⟩
   obtain⟨o,e,ex⟩:=z
   refine⟨⟨o,e,ex.1⟩,λa e2=>?_⟩
   cases e2
   exact⟨o,e,ex.2.1⟩
  ·obtain⟨o,_,_,_,e,ex,_⟩:=I.hok p _ hk;refine⟨⟨o,e,ex.1⟩,λa e2=>?_⟩;cases e2;exact⟨o,e,ex.2.1⟩
 | _=>exact False.elim ty
noncomputable def tBM (K:Le)(T:String)(r:V->List V->Hp->VK->Prop)(to:TE)(t:TA):TE:=λσ H Q=>to σ H λx H1=>tyV K T x H1/\t σ H1 λxs H2=>r x xs H2 Q
variable {o e:Expr} {es:Lg} {to:TE} {t:TA} {name:Str} {apos cpos:Pos} {T id:String} {r:V->List V->Hp->VK->Prop}
theorem zky (pa:PlainAttrs T)(slot:Slot T name id)(hty:typeOf (.builtin id)=pure (.type "method_descriptor"))(hm:MtR X id r)(ho:PE X o to)(ha:PA X (e::es) t) (hbase:attributeBase o name X.env (eval o X.env)=eval o X.env:=by rfl) (hfew:((backTo cpos (starEach (e::es) X.env)).all (λx=>!x.1)&&(backToKw cpos (keywordEach [] X.env)).all (λx=>x.1.isSome) && decide ((e::es).length+([]:List Keyword).length+(if ([]:List Keyword).isEmpty then 0 else 1)<30))=true:=by rfl) (hline:(apos.endLine == cpos.line)=true:=by rfl) (hs:starEach (e::es) X.env=(false,eval e X.env)::starEach es X.env:=by rfl) (hplain:(backTo cpos (starEach es X.env)).any (·.1)=false:=by rfl) : PE X (.Call (.Attribute o name apos) (e::es) [] cpos) (tBM X.K T r to t):=by intro pins s σ H Q I h;refine wpAny_Call_method_late hbase hfew hline rfl (thn (ho pins s σ H _ I h) λv s1 zq=>?_);obtain⟨x,H1,I1,r1,ty,q1⟩:=zq;obtain⟨h1,h2⟩:=zis I1 r1 ty;refine⟨T,id,pa,slot,hty,h1,h2,?_⟩;have hA:=ha cpos pins s1 σ H1 _ I1 q1;rw [hs] at hA ⊢;refine Calls.callWith_builtin (by show(false||(backTo cpos (starEach es X.env)).any (·.1))=false;rw [hplain]<;>rfl) (Calls.evalArgs_plain ?_);exact thn hA λus s2 ⟨vs,H2,I2,r2,q2⟩=>hm pins s2 σ H2 x vs v us Q I2 r1 r2 q2
end
def MtM (X:Cx)(id:String)(r:V->List V->Hp->VK->Prop):Prop:= ∀ (pins:Lp) (s:Shared) (σ:St) (H:Hp) (x:V) (xs:List V) (v:Value) (us:Lf) (Q:VK),Inv X pins σ H s->RelV x v->Vals xs us->r x xs H Q -> wpAny (model X.prog X.w) X.A (call (.builtin id) (v::us)) (EP X pins σ Q) X.xe s
theorem Vals.one:∀ {x:V} {us:Lf},Vals [x] us->∃ u,us=[u]/\RelV x u:=by intro x us h;cases h with | cons r z=>cases z;exact⟨_,rfl,r⟩
theorem Vals.two:∀ {x y:V} {us:Lf},Vals [x,y] us->∃ u v,us=[u,v]/\RelV x u/\RelV y v:=by intro x y us h;cases h with | cons r t=>cases t with | cons q z=>cases z;exact⟨_,_,rfl,r,q⟩
theorem Vals.zero:∀ {us:Lf},Vals [] us->us=[]
 | _,.nil=>rfl
theorem Vals.dropLast {xs:List V}{us:Lf}(h:Vals xs us):Vals xs.dropLast us.dropLast:=by
 induction h with
 | nil=>exact .nil
 | cons r t ih=>
  cases t with
  | nil=>exact .nil
  | cons q t'=>exact .cons r ih
section
variable {X:Cx} {pins:Lp} {σ:St} {H:Hp} {s:Shared} {l b:Addr} {xs ys zs:List V}
theorem Inv.lset {its its':Lf}(I:Inv X pins σ H s)(hH:H l=some (.lst xs)) (e:s.heap.get? l=some { cls:=.type "list",data:=.seq its.toArray n }) (hf:f its.toArray=its'.toArray) (hv:Vals ys its') (hz:ys.length<=sizeLine) : Inv X pins σ (upd H l (.lst ys)) { s with heap:=s.heap.update l (Obj.mapSeq f),toks:=t' }:=by have q:=PySem.IsL.update e f;rw [hf] at q;refine I.write (x:=l) (e:=l) (by rw [hH];exact trivial) (.inl rfl) (λb' u hb hu=>(ux s.heap (Obj.mapSeq f) (Ne.symm hb)).trans hu) ⟨_,q⟩ ?_;exact⟨hz,its',_,hv,q⟩
theorem Inv.lnew {its:Lf}(I:Inv X pins σ H s)(hv:Vals ys its)(hz:ys.length<=sizeLine) :
  Inv X pins σ (upd H s.heap.objs.size (.lst ys)) { s with heap:=s.heap.push { cls:=.type "list",data:=.seq its.toArray },toks:=t' }:=
 I.laid (λ_ _ q=>ue _ q) (ui _) ⟨hz,its,0,hv,uz _ rfl⟩
theorem Inv.fresh (I:Inv X pins σ H s):H s.heap.objs.size=none:=I.hok.fresh (ui _)
theorem Inv.lstM (I:Inv X pins σ H s)(hH:H l=some (.lst xs)):xs.length<=sizeLine/\∃ (its:Lf) (n:Nat),Vals xs its/\xs.length=its.length/\s.heap.get? l=some { cls:=.type "list",data:=.seq its.toArray n }:=by obtain⟨z,its,n,r,e⟩:=I.hok l _ hH;exact⟨z,its,n,r,r.length,e⟩
theorem zd8 (h:n<=sizeLine):Builtin.List.listTooLong n=false:=by unfold Builtin.List.listTooLong;exact uC (by lia)
end
section
variable {X:Cx}
noncomputable def Vt:V->List V->Hp->VK->Prop:=λx vs H Q=>∃ l xs y,x=.ref l/\vs=[y]/\H l=some (.lst xs)/\xs.length<sizeLine/\Q .non (upd H l (.lst (xs++[y])))
theorem Jm:MtM X "list.append" Vt:=by intro pins s σ H x vs v us Q I rx rv h;obtain⟨l,xs,y,rfl,rfl,hH,hz,q⟩:=h;cases rx;obtain⟨u,rfl,ru⟩:=rv.one;obtain⟨z,its,n,r,hl,e⟩:=I.lstM hH;refine Gw F.slot_list_append ⟨_,e,rfl⟩ F.entry_list_append (F.args_list_append_2 _ _) (PySem.list_append l its.toArray n u (by rw [uh];lia)) ⟨e,?_⟩;refine⟨.non,_,I.lset (its':=its++[u]) hH e (by simp) (r.append (.cons ru .nil)) ?_,rfl,q⟩;rw [ug,uA];lia
noncomputable def Vu:V->List V->Hp->VK->Prop:=λx vs H Q=>∃ l b xs zs,x=.ref l/\vs=[.ref b]/\H l=some (.lst xs)/\H b=some (.lst zs)/\xs.length+zs.length<=sizeLine/\Q .non (upd H l (.lst (xs++zs)))
theorem zc8:MtM X "list.extend" Vu:=by
 intro pins s σ H x vs v us Q I rx rv h;obtain⟨l,b,xs,zs,rfl,rfl,hH,hB,hz,q⟩:=h;cases rx;obtain⟨u,rfl,ru⟩:=rv.one;cases ru;obtain⟨z,its,n,r,hl,e⟩:=I.lstM hH;obtain⟨z2,its2,n2,r2,hl2,e2⟩:=I.lstM hB;have hsz:its.toArray.size+its2.toArray.size<=sizeLine:=by rw [uh,uh];lia
 have hlong:¬ (!its.toArray.isEmpty&&Builtin.List.listTooLong (its.toArray.size+its2.toArray.size))=true:=by rw [zd8 hsz,U3];exact uD
 refine Gw F.slot_list_extend ⟨_,e,rfl⟩ F.entry_list_extend (F.args_list_extend_2 _ _)
  (AutoSeq1.list_extend_list_list_0 l its.toArray n b its2.toArray n2 hlong (by rw [uh];lia) (by lia)) ⟨e,e2,?_⟩
 refine⟨.non,_,I.lset (its':=its++its2) hH e (by simp) (r.append r2) ?_,rfl,q⟩;rw [ug];lia
noncomputable def rCat:R2:=λx y H Q=>∃ l b xs zs,x=.ref l/\y=.ref b/\H l=some (.lst xs)/\H b=some (.lst zs)/\xs.length+zs.length<=sizeLine/\∀ p,H p=none->Q (.ref p) (upd H p (.lst (xs++zs)))
theorem qI:OpR X (binaryOp .Add) rCat:=by
 intro pins s σ H x y v u Q I rx ry h;obtain⟨l,b,xs,zs,rfl,rfl,hH,hB,hz,q⟩:=h;cases rx;cases ry;obtain⟨z,its,n,r,hl,e⟩:=I.lstM hH;obtain⟨z2,its2,n2,r2,hl2,e2⟩:=I.lstM hB;refine PySem.P.add_list e e2 ?_ (by rw [uh,uh];lia);have ea:its.toArray++its2.toArray=(its++its2).toArray:=by simp
 rw [ea];exact⟨.ref _,_,I.lnew (t':=s.toks) (r.append r2) (by rw [ug];lia),rfl,q _ I.fresh⟩
end
section
variable {prog:Program} {w:World} {A:Around} {E:Value->Shared->Prop} {s:Shared}
set_option maxRecDepth 100000 in
end
section
variable {X:Cx}
end
end L2
namespace Att
open PySem PySem.W PySem.Calls PyProof.Rows
theorem Wf:∀ (ns:List Int) (vs:Lf),WellAll P h vs (ns.map WData.int)->IntsAre vs ns:=by
 intro ns
 induction ns with
 | nil=>intro vs w;rw [U4] at w;cases w;exact .nil
 | cons n ns ih=>
  intro vs w;rw [uu] at w;cases w with
  | cons a b=>cases a;exact .cons _ _ (ih _ b)
theorem zc9 {l:OpenLaw}(hn:l.most=some n){h:Heap}{args:List WData}{vals:Lf} (hpre:l.row.toRowW.claim.pre args=true) (hwl:WellAll P h vals args) : ∃ a vs ns,vals=[Value.ref a]/\args=[WData.list (ns.map WData.int)]/\h.get? a=some { cls:=.type "list",data:=.seq vs.toArray }/\IntsAre vs ns/\ns.length<=n:=by
 have hsh:WShape.hasAll [] args [.list .int]=true:=(pre_splitW hpre).1;have hc:l.pre.holds [] { args:=args }=true:=(pre_splitW hpre).2;obtain⟨d,r,rfl,h1,h2⟩:=hasAllW_cons hsh;obtain rfl:=hasAllW_nil h2;obtain⟨xs,rfl,h3⟩:=hasW_list h1;obtain⟨ns,rfl⟩:=items_int h3
 have hlen:ns.length<=n:=by
  unfold OpenLaw.pre at hc;have h4:(WTm.not (.lt (.lit (.int (n:Int))) (.len (.arg 0)))).holds [] { args:=[.list (ns.map .int)] }=true:=by have h4:=(holds_andW hc).1;rw [hn] at h4;exact h4
  have h5:=condW_of h4 (w_not (w_lt w_lit (w_len_list (w_arg rfl))));rw [uk] at h5;refine Nat.le_of_not_lt λq=>?_;have q':(n:Int)<((ns.length:Nat):Int):=by lia
  first
   | (rw [Us q'] at h5;exact absurd h5 (by decide))
   | (simp at h5;omega)
 cases hwl with
 | cons w1 w2=>
  cases w2;cases w1 with
  | list ho hall=>exact⟨_,_,ns,rfl,rfl,ho,Wf ns _ hall,hlen⟩
theorem zda (l:OpenLaw)(args:List WData):l.row.toRowW.claim.post args (.bool true) args=true:=
 postW_of (r:=l.row.toRowW) (X:=(true == true))
  (show WShape.has [] (.bool true) .bool=true by first | rfl | decide | simp [WShape.has,WShape.arms,WShape.armsAll])
  (show(WTm.eq .res (.lit (.bool true))).value [] { args:=args,res:=some (.bool true),after:=args }=some (.bool (true == true)) from w_eq_bool (w_res rfl) w_lit) rfl
theorem attach_call {l:OpenLaw}{loose:Lh}{d:DefRec} (hn:l.most=some n) (hdf:d.params.defaults=[]) (call:∀ (w:World) (s₀ s₁:Shared) (mg mb:La) (fa:Addr) (o:Obj) (pm cd doc:Value) (a:Addr) (vs:Lf) (ns:List Int), Ground q loose [] XP w s₀ mg mb s₁.heap->YP w s₁.heap -> s₁.heap.get? fa=some o->o.data=.func (docDef d.name d.params d.body d.scope pm cd doc)->s₁.heap.CodeRec cd d.name->mg d.name=some (.ref fa) -> s₁.heap.get? a=some { cls:=.type "list",data:=.seq vs.toArray }->IntsAre vs ns->ns.length<=n->s₁.gens = #[] -> codeAny (model l.prog w) callerA (.call (.ref fa) ⟨[.ref a],[]⟩) (λr s'=>r=.ok (.ret (.bool true))/\OldK s₁.heap s'.heap/\s'.os=s₁.os/\AllBare s'.gens) s₁) : WalkO q loose XP YP l.row.toRowW d [] (λf vs=>PySem.call f vs):=by intro w s₀ s₁ mg mb G Y fa o pm cd doc dV kV ho hd hcd hD hmg hg args vals as hpre hlay hrd hwl hlo;obtain rfl:dV=.none:=Dflts.none hD hdf;obtain rfl:kV=.none:=Dflts.noKw hD;obtain⟨a,vs,ns,rfl,rfl,hobj,hints,hlen⟩:=zc9 hn hpre hwl;refine enter_call (Ug (call w s₀ s₁ mg mb fa o pm cd doc a vs ns G Y ho (fd_plain hd) hcd hmg hobj hints hlen hg) λr s' hq=>?_);obtain⟨rfl,h2,h3,h4⟩:=hq;exact⟨.inl ⟨.bool true,.bool true,[],rfl,λ_=>rfl,.bool true,zda l _,λ_=>⟨List.Pairwise.nil,λ_ hm=>(nomatch hm)⟩⟩,h2,h3,h4⟩
section
variable {prog:Program} {w:World} {A:Around} {E:Value->Shared->Prop} {s:Shared} {K:Frag}
end
end Att
namespace L2
open PySem PySem.Spec PyProof.Rows
theorem X4:∀ {vs:Lf} {ns:List Int},IntsAre vs ns->Vals (ns.map V.int) vs
 | _,_,.nil=>.nil
 | _,_,.cons n t h=>.cons ⟨t,rfl⟩ (X4 h)
def Only (H:Hp):Prop:=∀ b,H b=none\/∃ o xs,H b=some (.frz o (.lst xs))
theorem zd9 {K:Le}{s₁:Shared}{vs:Lf}{ns:List Int} (KX:K.In s₁.heap) (hns:s₁.heap.Ns mainGlobals mg) (hb:s₁.heap.Ns builtinsNs mb) (hbb:∀ x:Str,x≠"__name__"->mb x=bootBuiltins x) (hlim:s₁.heap.NoLimit) (hg:s₁.gens = #[]) (ha:s₁.heap.get? a=some { cls:=.type "list",data:=.seq vs.toArray }) (hi:IntsAre vs ns) (hl:ns.length<=sizeLine) (hr:Room k callerA) (F:∀ base:Heap,K.In base->base.Ns mainGlobals mg->FnOk P w K mg base CX k fa fd [x] sp) (hbind:∀ (s:Shared) (u:Value),BindsTo s fd ⟨[u],[]⟩ [(x,u)]) (hsp:∀ H:Hp,Only H->SqL K H a (ns.map V.int)->sp [.ref a] H (λv _=>v=.bl true) λ_ _ _=>False) (hCX:∀ H e s',CX [] H s₁ (λ_ _ _=>False) e s'->False) : codeAny (model P w) callerA (.call (.ref fa) ⟨[.ref a],[]⟩) (λr s'=>r=.ok (.ret (.bool true))/\OldK s₁.heap s'.heap/\s'.os=s₁.os/\AllBare s'.gens) s₁:=by
 have rv:=X4 hi;have lenV:=hi.length
 have core:∀ H:Hp,Only H->SqL K H a (ns.map V.int)->HOk P w H s₁.heap->(∀ b,H b≠none->b=a)->(H a≠none->K.lookup a=none) ->
   codeAny (model P w) callerA (.call (.ref fa) ⟨[.ref a],[]⟩) (λr s'=>r=.ok (.ret (.bool true))/\OldK s₁.heap s'.heap/\s'.os=s₁.os/\AllBare s'.gens) s₁:=by
  intro H hO hS hok hA hK
  have base_of:∀ {b:Addr} {o:Obj},s₁.heap.get? b=some o->H b=none->(hidT s₁.heap H).get? b=some o:=λe n=>zdL e n
  have noA:∀ {b:Addr} {o:Obj} {es:Array DictEntry} {ep:Nat},s₁.heap.get? b=some o->o.data=.dict es ep->H b=none:=λ{b o es ep} e d=>by
   cases q:H b with
   | none=>rfl
   | some u=>
    have e':b=a:=hA b (by rw [q];simp)
    subst e'
    rw [ha] at e;cases e
    have d':Data.seq vs.toArray _=Data.dict es ep:=d
    cases d'
  have nsK:∀ {b:Addr} {m:La},s₁.heap.Ns b m->(hidT s₁.heap H).Ns b m:=λ{b m} ⟨o,es,ep,e,d,r⟩=>⟨o,es,ep,base_of e (noA e d),d,r⟩
  have hKb:K.In (hidT s₁.heap H):=λb o e=>base_of (KX b o e) (by
   cases q:H b with
   | none=>rfl
   | some u=>
    have e':b=a:=hA b (by rw [q];simp)
    subst e'
    rw [hK (by rw [q];simp)] at e;cases e)
  have hM:Mod K mg (hidT s₁.heap H):=⟨hKb,nsK hns,⟨mb,nsK hb,hbb⟩,let ⟨mc,h1,h2⟩:=hlim;⟨mc,nsK h1,h2⟩⟩
  have e0:Env0 P w K mg (hidT s₁.heap H) callerA [] s₁ H:=⟨rfl,hM,λb o e=>zf7 e,gF (zcZ _ _),trivial,λb hb=>absurd (show b∈([]:Ld) from hb) (by simp),hok,.of_eq hg⟩
  refine Ug ((F _ hKb (nsK hns)).run callerA [] s₁ H ⟨[.ref a],[]⟩ [.ref a] [.ref a] _ _ hr e0 (hbind s₁ (.ref a)) (.cons rfl .nil) (hsp H hO hS)) λr s' h=>?_
  cases r with
  | error e=>exact(hCX H e s' h).elim
  | ok fl=>
   cases fl with
   | next=>exact False.elim h
   | brk=>exact False.elim h
   | cont=>exact False.elim h
   | ret u=>
    obtain⟨v,H',os,bare,un,hok',r',q⟩:=h
    have q':v=.bl true:=q
    subst q'
    obtain rfl:u=Value.bool true:=r'
    refine⟨rfl,OldK.of_keep λb o e=>?_,os,bare⟩
    cases q:H b with
    | none=>exact un.keep b o e q (by intro z;exact absurd (show b∈([]:Ld) from z) (by simp)) (by simp)
    | some u=>
     rcases hO b with z | ⟨ob,xs,z⟩
     ·rw [q] at z;cases z
     ·have z2:=un.frzs b ob _ z
      obtain⟨e1,_⟩:=hok b _ z
      obtain⟨e2,_⟩:=hok' b _ z2
      rw [e] at e1;cases e1
      exact e2
 cases hk:K.lookup a with
 | some o=>have e:=KX a o hk;rw [ha] at e;cases e;refine core (λ_=>none) (λ_=>.inl rfl) (.inr ⟨_,vs.toArray,_,hk,rfl,rfl,rfl,by rw [uh,lenV];exact hl,by simpa using rv⟩) (λb u z=>by have z':(none:Option HO)=some u:=z;cases z') (λb z=>absurd rfl z) λz=>absurd rfl z
 | none=>
  refine core (λb=>if b=a then some (.frz { cls:=.type "list",data:=.seq vs.toArray } (.lst (ns.map V.int))) else none) (λb=>?_) (.inl (.inr ⟨{ cls:=.type "list",data:=.seq vs.toArray },ud rfl⟩)) (λb u z=>?_) (λb z=>?_) λ_=>hk
  ·by_cases hb:b=a
   ·exact .inr ⟨_,_,ud hb⟩
   ·exact .inl (ub hb)
  ·by_cases hb:b=a
   ·have z':=(ud hb).symm.trans z;cases z';subst hb;exact⟨ha,by rw [uk];exact hl,vs,_,rv,ha⟩
   ·have z':=(ub hb).symm.trans z;cases z'
  ·by_cases hb:b=a
   ·exact hb
   ·exact absurd (ub hb) z
theorem zgq {l:PySem.W.OpenLaw}{n k:Nat}{q:Program}{loose:Lh}{XP:(La)->Heap->Prop}{YP:World->Heap->Prop}{d:DefRec}{K:Params->Le}{CX:World->CXT}{sp:World->Sp}{x:Str} (hn:l.most=some n) (hn2:n<=sizeLine) (hdf:d.params.defaults=[]) (hr:Room k callerA) (hY:∀ (w:World) (h:Heap),YP w h->(K w.params).In h) (F:∀ (w:World) (mg:La) (fa:Addr) (h:Heap),(K w.params).In h->h.Ns mainGlobals mg->mg d.name=some (.ref fa) -> ∃ fd:FuncData,(∀ (s:Shared) (u:Value),BindsTo s fd ⟨[u],[]⟩ [(x,u)]) /\ ∀ base:Heap,(K w.params).In base->base.Ns mainGlobals mg->FnOk l.prog w (K w.params) mg base (CX w) k fa fd [x] (sp w)) (hsp:∀ (w:World) (H:Hp) (a:Addr) (ns:List Int),ns.length<=n->Only H->SqL (K w.params) H a (ns.map V.int)->sp w [.ref a] H (λv _=>v=.bl true) λ_ _ _=>False) (hCX:∀ (w:World) (H:Hp) (s:Shared) (e:Value) (s':Shared),CX w [] H s (λ_ _ _=>False) e s'->False) : PySem.W.WalkO q loose XP YP l.row.toRowW d [] (λf vs=>PySem.call f vs):=by refine Att.attach_call hn hdf λw s₀ s₁ mg mb fa o pm cd doc a vs ns G Y ho hd hcd hmg hobj hints hlen hg=>?_;have KX:=hY w _ Y;obtain⟨fd,hb,hF⟩:=F w mg fa _ KX G.T.g hmg;exact zd9 KX G.T.g G.T.b G.T.builtins G.T.nolimit hg hobj hints (uJ hlen hn2) hr hF hb (λH hO hS=>hsp w H a ns hlen hO hS) λH e s'=>hCX w H s₁ e s'
noncomputable def inClass (s:Stmt)(j:Nat):Stmt:=match s with
 | .ClassDef _ _ _ body _ _ _ _ _ _ _=>body.getD j (.Pass ⟨0,0,0,0⟩)
 | _=>.Pass ⟨0,0,0,0⟩
noncomputable def jk (s:Stmt):Arguments:=match s with
 | .FunctionDef _ a _ _ _ _ _ _ _ _=>a
 | _=>{ posonlyargs:=[],args:=[],vararg:=none,kwonlyargs:=[],kw_defaults:=[],kwarg:=none,defaults:=[] }
noncomputable def zZ (s:Stmt):List Stmt:=match s with
 | .FunctionDef _ _ b _ _ _ _ _ _ _=>b
 | _=>[]
noncomputable def zf (s:Stmt):Scope:=match s with
 | .FunctionDef _ _ _ _ _ _ sc _ _ _=>sc
 | _=>{ kind:=.function,names:=[],isGenerator:=false,isCoroutine:=false }
noncomputable abbrev CX0:CXT:=λ_ _ _ _ _ _=>False
noncomputable abbrev E0:XK:=λ_ _ _=>False
theorem zea:Passes CX0 X E0:=λ_ _ _ _ _ _ _ h=>h.elim
structure Fun (K:Le)(x qual:Str)(st:Stmt)(f:Addr)(fd:FuncData):Prop where
 ex:∃ (oc:Value) (od:Option Addr) (kV doc pm:Value) (an:Option Addr) (cdv ct:Value) (osl:Array (Option Value)),
  fd=PySem.W.fnOf x qual (jk st) (zZ st) (zf st) .none kV doc pm an cdv ct/\K.lookup f=some ⟨oc,od,.func fd,osl⟩/\PySem.W.codeIn K cdv qual=true
 kp:PySem.W.keepIn K (.ref f)=true
section
variable {P:Program} {w:World} {K:Le} {mg:La} {base:Heap}
theorem Fun.ok {x qual:Str}{st:Stmt}{f:Addr}{fd:FuncData}{N ps:Lh}{k:Nat}{sp:Sp}(F:Fun K x qual st f fd)(S:zj N ps (zf st))(len:∀ vs H Q E,sp vs H Q E->vs.length=ps.length) (hbody:∀ (cdv:Value) (A:Around) (outer:List Env) (s:Shared) (H:Hp) (vs:List V) (Q:VK) (E:XK),Room k (A.deeper (envOfC qual (zf st) s.heap.objs.size f cdv))->sp vs H Q E -> ∃ t,PSs (cxOf CX0 P w K mg base N qual (zf st) f cdv A outer s H E).nox (zZ st) t/\t { nx:=λ_ H'=>Q .non H',rt:=Q } (start N vs) H):FnOk P w K mg base CX0 (k+1) f fd ps sp:=by obtain⟨oc,od,kV,doc,pm,an,cdv,ct,osl,rfl,lk,hcd⟩:=F.ex;refine zbQ lk hcd S len λA outer s H vs Q E hr hsp=>?_;obtain⟨t,h,q⟩:=hbody cdv A outer s H vs Q E hr hsp;exact⟨t,h.nox,q⟩
theorem Fun.binds {x qual:Str}{st:Stmt}{f:Addr}{fd:FuncData}{ps:Lh}(F:Fun K x qual st f fd) (h:∀ (kV doc pm:Value) (an:Option Addr) (cdv ct:Value) (us:Lf),us.length=ps.length->bindArgs (PySem.W.fnOf x qual (jk st) (zZ st) (zf st) .none kV doc pm an cdv ct) ⟨us,[]⟩=pure (ps.zip us)):Binds K fd ps []:=by obtain⟨oc,od,kV,doc,pm,an,cdv,ct,osl,rfl,lk,hcd⟩:=F.ex;exact .all (h kV doc pm an cdv ct)
theorem k9 {x qual:Str}{st:Stmt}{f:Addr}{oc:Value}{od an:Option Addr}{osl:Array (Option Value)}{kV doc pm cdv ct:Value}(l:K.lookup f=some ⟨oc,od,.func (PySem.W.fnOf x qual (jk st) (zZ st) (zf st) .none kV doc pm an cdv ct),osl⟩) (c:PySem.W.codeIn K cdv qual=true) (k:PySem.W.keepIn K (.ref f)=true):Fun K x qual st f (PySem.W.fnOf x qual (jk st) (zZ st) (zf st) .none kV doc pm an cdv ct):=⟨⟨oc,od,kV,doc,pm,an,cdv,ct,osl,rfl,l,c⟩,k⟩
end
theorem WL {A:Around}(hr:Room k A):A.units+1<cLine:=Nat.lt_of_le_of_lt (Nat.add_le_add_left (by decide:1<=64) _) hr.units
section
variable {X:Cx}
theorem pv (i:Nat)(hN:X.N[i]? = some x:=by rfl) (hv:Vis X.env.scope x:=by first | exact Or.inl rfl | exact Or.inr (Or.inl rfl) | exact Or.inr (Or.inr rfl)) (hd:(x == ("__debug__":Str))=false:=by decide)
  (hcd:(x == ("__classdict__":Str))=false:=by decide):PE X (.Name x pos) (tVar i):=zhW hN hv hd hcd
end
def Same (H H':Hp):Prop:=∀ b o,H b=some o->H' b=some o
theorem Same.refl (H:Hp):Same H H:=λ_ _ h=>h
theorem Same.trans (a:Same H H1)(b:Same H1 H2):Same H H2:=λc o h=>b c o (a c o h)
theorem Same.free (e:Same H H')(h:H' l=Option.none):H l=Option.none:=by
 cases q:H l with
 | none=>rfl
 | some o=>rw [e l o q] at h;cases h
theorem Same.seq {K:Le}{H H':Hp}{a:Addr}{xs:List V}(e:Same H H')(h:SqL K H a xs):SqL K H' a xs:=by
 rcases h with(h | ⟨o,h⟩) | h
 ·exact .inl (.inl (e _ _ h))
 ·exact .inl (.inr ⟨o,e _ _ h⟩)
 ·exact .inr h
noncomputable def Its (x:Str):It:=⟨λi _=>i<x.cps.size,λi H v H'=>H' = H/\∃ c,x.cps[i]? = some c/\v=.str ⟨#[c]⟩,λi _=>x.cps.size<=i⟩
section
variable {X:Cx} {tg:Expr}
theorem J8 {P:Program}{w:World}{K:Le}{tg:Expr}{x:Str}{t:Tok}{ty:String}{it:Addr}
  (hty:["enumerate","zip","dict_itemiterator","dict_reverseitemiterator","odict_iterator","itertools.zip_longest","itertools.pairwise"].contains ty=false)
  (W:∀ A':Around,A'.handled=none->Walks P w A' it [it] [it] x.cps.size (SignAt x) (λi h=>h.IsStrIter it ty x t i))
  (hend:∀ (A':Around) (s:Shared) (i:Nat) (E:Value->Shared->Prop) (Q:Option Value->Shared->Prop),A'.handled=none->s.heap.IsStrIter it ty x t i->x.cps[i]? = none ->
   (∀ h',(∀ b o,b≠it->s.heap.get? b=some o->h'.get? b=some o)->Q none { s with heap:=h' })->wpAny (model P w) A' (pyNext (.ref it)) Q E s)
  (hself:∀ (A':Around) (s:Shared) (i:Nat) (E:Value->Shared->Prop) (Q:Value->Shared->Prop),s.heap.IsStrIter it ty x t i->Q (.ref it) s->wpAny (model P w) A' (pyIter (.ref it)) Q E s) :
  Turn P w K tg (Its x) [it] it (λi h=>h.IsStrIter it ty x t i) where
 mem:=by simp
 obj:=λi h st b hb=>by
  have e:b=it:=by simpa using hb
  subst e
  obtain⟨o,e,c,d⟩:=st
  exact⟨o,e,λv z=>by rw [d] at z;cases z⟩
 keep:=λi h h' st k=>let ⟨o,ho,r⟩:=st;⟨o,k it (by simp) o ho,r⟩
 item:=by
  intro X hP hw hK hc i pins s σ H E I hf st hg
  subst hP hw hK
  obtain⟨f0,f1,f2,f3,f4,f5⟩:=hf it (by simp)
  refine(W X.A (I.ok.hd hc)).item i s _ _ hg st λv h' tk hv st' kk=>?_
  obtain⟨c,u,hcu,rfl⟩:=hv
  have I1:Inv X pins σ H { s with heap:=h',toks:=tk }:=I.turned (λb o hb e=>kk b o (by simpa using hb) e) f0 f1 f3 f4 f5
  obtain⟨o,e,hcl,d⟩:=id st'
  exact⟨_,rfl,zdP (s:={ s with heap:=h',toks:=tk }) e hcl d hty ⟨.str ⟨#[c]⟩,H,I1,⟨u,rfl⟩,⟨rfl,c,hcu,rfl⟩,st',λb hb=>(hf b hb).1⟩⟩
 done:=by
  intro X hP hw hK hc i pins s σ H E I hf st hg
  subst hP hw hK
  obtain⟨f0,f1,f2,f3,f4,f5⟩:=hf it (by simp)
  have hg':x.cps.size<=i:=hg
  exact hend X.A s i E _ (I.ok.hd hc) st (by simp [hg']) λh' eb=>⟨rfl,I.turned (t':=s.toks) (λb o hb e=>eb b o hb e) f0 f1 f3 f4 f5⟩
 self:=λA i s Q E st h=>hself A s i E Q st h
noncomputable def iStr (tl:TE):TI:=λσ H R=>tl σ H λx H1=>∃ z,x=.str z/\R (Its z) H1
theorem zit (hl:PE X l tl):PI X tg l (iStr tl):=by
 intro pins s σ H R I h;refine thn (hl pins s σ H _ I h) λv s1 zq=>?_;obtain⟨x,H1,I1,r1,q1⟩:=zq;obtain⟨z,rfl,q⟩:=q1;obtain⟨t,rfl⟩:=r1
 have fin:∀ (ty:String) (o:Obj),Turn X.prog X.w X.K tg (Its z) [s1.heap.objs.size] s1.heap.objs.size (λi h=>h.IsStrIter s1.heap.objs.size ty z t i)->(s1.heap.push o).IsStrIter s1.heap.objs.size ty z t 0 ->
   PIE X pins σ tg R (.ref s1.heap.objs.size) { s1 with heap:=s1.heap.push o }:=λty o T st=>by
  refine⟨s1.heap.objs.size,[s1.heap.objs.size],_,_,H1,rfl,I1.kept (t':=s1.toks) λb o e=>ue _ e,T,st,λb hb=>?_,q⟩
  have e:b=s1.heap.objs.size:=by simpa using hb
  subst e
  exact I1.fpOk (ui _) (I1.hok.fresh (ui _))
 cases ha:z.cps.all (· < 128)
 ·refine wpAny_pyIter_wide ha (fin "str_iterator" _ (J8 (by decide) (λA' hA=>Walks.strWide hA _ z t) ?_ ?_) ⟨_,uz _ rfl,rfl,rfl⟩)
  ·intro A' s i E Q hA st hx hq;exact wpAny_pyNext_wide_end hA st hx hq
  ·intro A' s i E Q st h;exact wpAny_pyIter_striter_wide st h
 ·refine wpAny_pyIter_ascii ha (fin "str_ascii_iterator" _ (J8 (by decide) (λA' hA=>Walks.strAscii hA _ z t) ?_ ?_) ⟨_,uz _ rfl,rfl,rfl⟩)
  ·intro A' s i E Q hA st hx hq;exact wpAny_pyNext_ascii_end hA st hx hq
  ·intro A' s i E Q st h;exact wpAny_pyIter_striter_ascii st h
end
theorem vG {env:Env}(y:Str):∀ (names:List (Str×NameKind)),
  (names.map λ(n,k)=>if (k == NameKind.free&&env.scope.kind == .function&&env.kindOf n == some .cell) then(n,NameKind.cell) else(n,k)).lookup y =
   (names.lookup y).map λk=>if (k == NameKind.free&&env.scope.kind == .function&&env.kindOf y == some .cell) then NameKind.cell else k
 | []=>rfl
 | (n,k)::r=>by
  have ih:=vG y r (env:=env);rw [uu];by_cases hy:y=n
  ·subst hy;show List.lookup y ((if (k == NameKind.free&&env.scope.kind == .function&&env.kindOf y == some .cell)=true then(y,NameKind.cell) else(y,k))::_)=_;by_cases hc:(k == NameKind.free&&env.scope.kind == .function&&env.kindOf y == some .cell)=true
   ·rw [ud hc];simp only [uY,Uo,uU,hc,if_true]
   ·rw [ub hc];simp only [uY,Uo,uU,hc,gc];rfl
  ·have hb:(y == n)=false:=by simpa using hy
   show List.lookup y ((if (k == NameKind.free&&env.scope.kind == .function&&env.kindOf n == some .cell)=true then(n,NameKind.cell) else(n,k))::_)=_;by_cases hc:(k == NameKind.free&&env.scope.kind == .function&&env.kindOf n == some .cell)=true
   ·rw [ud hc];simp only [uY,hb];exact ih
   ·rw [ub hc];simp only [uY,hb];exact ih
theorem Z9 {env:Env}:∀ (names:List (Str×NameKind)) (cs:List (Str×Addr)),(∀ y∈names,y.2=.free->∃ c,env.cells.lookup y.1=some c)->(∀ y c,cs.lookup y=some c->env.cells.lookup y=some c) ->
  ∃ cl,(forIn (m:=Sem) names cs λ(x:Str×NameKind) (r:List (Str×Addr))=>(if (x.2 == .free)=true then(do let c ← cellOf env x.1;pure (ForInStep.yield ((x.1,c)::r))) else pure (ForInStep.yield r)))=pure cl /\
   (∀ y c,cl.lookup y=some c->env.cells.lookup y=some c)/\(∀ y∈names,y.2=.free->∃ c,cl.lookup y.1=some c)/\∀ y,(∃ c,cs.lookup y=some c)->∃ c,cl.lookup y=some c
 | [],cs,_,hcs=>⟨cs,rfl,hcs,(λ_ h=>nomatch h),(λ_ h=>h)⟩
 | (n,k)::r,cs,h,hcs=>by
  by_cases hk:k=.free
  ·subst hk;obtain⟨c,hc⟩:=h (n,.free) Uy rfl;have hc:env.cells.lookup n=some c:=hc
   have hcs':∀ y c',((n,c)::cs).lookup y=some c'->env.cells.lookup y=some c':=λy c' e=>by
    by_cases hy:y=n
    ·subst hy;simp only [uY,Uo] at e;cases e;exact hc
    ·have hb:(y == n)=false:=by simpa using hy
     simp only [uY,hb] at e;exact hcs y c' e
   obtain⟨cl,e1,e2,e3,e4⟩:=Z9 r ((n,c)::cs) (λy hy=>h y (uQ _ hy)) hcs';refine⟨cl,?_,e2,λy hy hf=>?_,λy hy=>e4 y ?_⟩
   ·rw [gL];simp only [Uo,if_true,cellOf,hc];exact e1
   ·rcases um.mp hy with rfl | hy
    ·exact e4 n ⟨c,by simp only [uY,Uo]⟩
    ·exact e3 y hy hf
   ·obtain⟨c',hc'⟩:=hy;by_cases hy:y=n
    ·subst hy;exact⟨c,by simp only [uY,Uo]⟩
    ·have hb:(y == n)=false:=by simpa using hy
     exact⟨c',by simp only [uY,hb];exact hc'⟩
  ·obtain⟨cl,e1,e2,e3,e4⟩:=Z9 r cs (λy hy=>h y (uQ _ hy)) hcs;refine⟨cl,?_,e2,λy hy hf=>?_,e4⟩
   ·have hb:(k == NameKind.free)=false:=by simpa using hk
    rw [gL];simp only [hb,Up,gc];exact e1
   ·rcases um.mp hy with rfl | hy
    ·exact absurd hf hk
    ·exact e3 y hy hf
theorem zaq {env:Env}{scope:Scope}(h:∀ y∈scope.names,y.2=.free->∃ c,env.cells.lookup y.1=some c) : ∃ cl,closureFor scope env=pure cl/\(∀ y c,cl.lookup y=some c->env.cells.lookup y=some c)/\(∀ y∈scope.names,y.2=.free->∃ c,cl.lookup y.1=some c):=by obtain⟨cl,e1,e2,e3,_⟩:=Z9 scope.names [] h (λy c e=>by simp at e);refine⟨cl,?_,e2,e3⟩;have e:closureFor scope env=(forIn (m:=Sem) scope.names [] λ(x:Str×NameKind) (r:List (Str×Addr))=>(if (x.2 == .free)=true then(do let c ← cellOf env x.1;pure (ForInStep.yield ((x.1,c)::r))) else pure (ForInStep.yield r))) >>= λcs=>pure cs:=rfl;rw [e,e1];rfl
theorem YN {prog:Program}{elt target iter:Expr}{scope:Scope}(I:Nat->Shared->Prop)
  (turn:∀ n s,I n s->wpAny (model prog w) A (pyNext it) (λr s₁=>match r with
   | none=>R (.ok .next) s₁
   | some v=>wpAny (model prog w) A (letOwnedTupleGo target it v) (λ_ s₁=>wpAny (model prog w) A (assign target env v) (λ_ s₂=>
     wpAny (model prog w) A (forIn ifs true λc r=>if r=true then do let ok ← isTrue c env (eval c env);pure (ForInStep.yield ok) else pure (ForInStep.yield r)) (λok s₃=>
      if ok=true then wpAny (model prog w) A (eval elt env) (λx s₄=>
       wpAny (model prog w) A (call (.builtin "list.append") [acc,x]) (λ_ s₅=>∃ m,m<n/\I m s₅) (λ_ _=>False) s₄) (λ_ _=>False) s₃
      else ∃ m,m<n/\I m s₃) (λ_ _=>False) s₂) (λ_ _=>False) s₁) (λ_ _=>False) s₁) (λ_ _=>False) s)
  (n:Nat) (h:I n s) :
  codeAny (model prog w) A (.compLoop (.ListComp elt [⟨target,iter,ifs,0⟩] scope pos) 0 it acc env) R s:=by
 refine codeAny_loop rfl I (λn s hI=>?_) n h
 show wpAny _ A ((compTurn (.ListComp elt [⟨target,iter,ifs,0⟩] scope pos) 0 it acc env).onRaise (λx=>do noteFrame x env;theTreesLotGoes x)) _ _ s
 refine wpAny_noted ?_
 rw [compTurn_list]
 refine ua (u0 (ua (uj (turn n s hI) (λr s₁ h₁=>?_) λ_ _ h'=>h'.elim)))
 cases r with
 | none=>exact uc h₁
 | some v=>
  refine ua (uj h₁ (λ_ s₁ h₁=>?_) λ_ _ h'=>h'.elim)
  refine ua (uj h₁ (λ_ s₂ h₂=>ua (uj h₂ (λok s₃ h₃=>?_) λ_ _ h'=>h'.elim)) λ_ _ h'=>h'.elim)
  cases ok with
  | false=>exact uc ⟨rfl,h₃⟩
  | true=>
   exact ua (ua (uj h₃ (λx s₄ h₄=>ua (uj h₄ (λ_ s₅ h₅=>uc (uc ⟨rfl,h₅⟩)) λ_ _ h'=>h'.elim)) λ_ _ h'=>h'.elim))
noncomputable def blk (X:Cx)(x:Str)(scope:Scope)(cl:List (Str×Addr))(C:Addr)(s3:Shared)(H3:Hp)(fp:Ld):Cx:=
 { X with N:=x::X.N,s₀:=s3,H₀:=H3,env:=compEnvC scope cl C X.env,outer:=X.stack,ex:=fp,fn:=λ_=>false,pn:=[],xe:=λ_ _=>False }
def PTs (X:Cx)(ifs:Lg)(t:TT):Prop:=
 ∀ (pins:Lp) (s:Shared) (σ:St) (H:Hp) (Q:Bool->Hp->Prop),Inv X pins σ H s->t σ H Q ->
  wpAny (model X.prog X.w) X.A (forIn ifs true λc r=>if r=true then do let ok ← isTrue c X.env (eval c X.env);pure (ForInStep.yield ok) else pure (ForInStep.yield r)) (TP X pins σ Q) X.xe s
noncomputable def X5:TT:=λ_ H Q=>Q true H
theorem zgr:PTs X [] X5:=λ_ _ _ H _ I h=>wpAny_tests_nil ⟨H,I,h⟩
theorem zgs {X:Cx}(h:PT X c t):PTs X [c] t:=λpins s σ H Q I hw=>wpAny_tests_one (h pins s σ H Q I hw)
def zar (J:It)(tt:TT)(te:TE)(σ:St)(H1:Hp)(Q:VK):Prop:=∀ D,H1 D=none->∃ W:Nat->Nat->List V->Hp->Prop,(∃ m,W 0 m [] (upd H1 D (.lst [])))/\∀ i m ys H',W i m ys H'->H' D=some (.lst ys) /\
 ((J.stop i H'/\Q (.ref D) H')\/(J.go i H'/\∀ v H2,J.yld i H' v H2->tt (some v::σ) H2 λb H3=>
  if b=true then te (some v::σ) H3 λy H4=>H4 D=some (.lst ys)/\ys.length<sizeLine/\∃ m',m' < m/\W (i+1) m' (ys++[y]) (upd H4 D (.lst (ys++[y]))) else ∃ m',m' < m/\W (i+1) m' ys H3))
noncomputable def tLC (wi:TI)(tt:TT)(te:TE):TE:=λσ H Q=>wi σ H λJ H1=>zar J tt te σ H1 Q
structure ZN (X:Cx)(x:Str)(scope:Scope):Prop where
 xN:x∉X.N
 nd:X.N.Nodup
 kind:scope.kind=.function
 cell:∀ y∈scope.names,y.2≠.cell
 names:∀ y∈scope.names,y.2=.local->scope.names.lookup y.1=some .local
 var:scope.names.lookup x=some .local
 free:∀ y∈scope.names,y.2=.free->X.env.kindOf y.1=some .cell
 out:∀ y∈X.N,scope.names.lookup y≠some .local
 calm:X.calm=true
noncomputable def renL (xs:Lh)(y:Str):Str:=if y∈xs then Str.ofString "" else y
structure Za (X:Cx)(xs:Lh)(scope:Scope):Prop where
 nd:(xs++X.N.map (renL xs)).Nodup
 kind:scope.kind=.function
 cell:∀ y∈scope.names,y.2≠.cell
 names:∀ y∈scope.names,y.2=.local->scope.names.lookup y.1=some .local
 var:∀ x∈xs,scope.names.lookup x=some .local
 free:∀ y∈scope.names,y.2=.free->X.env.kindOf y.1=some .cell
 out:∀ y∈X.N.map (renL xs),scope.names.lookup y≠some .local
 blank:∀ y∈X.N,y∈xs->scope.names.lookup (Str.ofString "")=none
 calm:X.calm=true
noncomputable def blkG (X:Cx)(xs:Lh)(scope:Scope)(cl:List (Str×Addr))(C:Addr)(s3:Shared)(H3:Hp)(fp:Ld):Cx:=
 { X with N:=xs++X.N.map (renL xs),s₀:=s3,H₀:=H3,env:=compEnvC scope cl C X.env,outer:=X.stack,ex:=fp,fn:=λ_=>false,pn:=[],xe:=λ_ _=>False }
section
variable {X:Cx} {elt iter tg:Expr} {xs:Lh} {pos:Pos} {ifs:Lg} {scope:Scope} {wi:TI} {tt:TT} {te:TE} {g:TG} {bnd:V->Hp->(List V->Prop)->Prop}
theorem zeb {pins:Lp}{σ:St}{H:Hp}{s:Shared}{E:Value->Shared->Prop}{Q:Value->Shared->Prop}{use:Option (Value->Sem Unit)}{QV:VK}(L:Za X xs scope)(I:Inv X pins σ H s) (hi:wpAny (model X.prog X.w) X.A (eval iter X.env) (λv s1=>wpAny (model X.prog X.w) X.A (pyIter v) (PIE X pins σ (tg) (λJ H1=>∀ D,H1 D=none->∃ W:Nat->Nat->List V->Hp->Prop,(∃ m,W 0 m [] (upd H1 D (.lst [])))/\∀ i m ys H',W i m ys H'->H' D=some (.lst ys) /\ ((J.stop i H'/\QV (.ref D) H')\/(J.go i H'/\∀ v H2,J.yld i H' v H2->bnd v H2 λus=>tt (us.map some++σ) H2 λb H3=> if b=true then te (us.map some++σ) H3 λy H4=>H4 D=some (.lst ys)/\ys.length<sizeLine/\∃ m',m' < m/\W (i+1) m' (ys++[y]) (upd H4 D (.lst (ys++[y]))) else ∃ m',m' < m/\W (i+1) m' ys H3)))) E s1) E s) (ht:∀ cl C s3 H3 fp,PTs (blkG X xs scope cl C s3 H3 fp) ifs tt) (he:∀ cl C s3 H3 fp,PE (blkG X xs scope cl C s3 H3 fp) elt te) (hg:∀ cl C s3 H3 fp,PG (blkG X xs scope cl C s3 H3 fp) tg g) (hb:∀ v H (os:St) (K:List V->Prop),os.length=xs.length->bnd v H K->g v (os++σ) H λσ' H'=>∃ us,us.length=xs.length/\σ' = us.map some++σ/\H' = H/\K us) (hs:∀ x,foldedSetIterable iter X.env x=pure x) (fin:∀ (D C:Addr) (H':Hp) (s':Shared) (m:La),Inv X pins σ H' s'->FpOk X pins H' C->s'.heap.Ns C m->QV (.ref D) H'->compPost (model X.prog X.w) X.A E use Q (.ref D) C (.ok .next) s') : wpAny (model X.prog X.w) X.A (comprehension (.ListComp elt [⟨tg,iter,ifs,0⟩] scope pos) scope X.env (firstIterPos [⟨tg,iter,ifs,0⟩] pos) (newList []) false (eval iter X.env) use) Q E s:=by
 obtain⟨cl,hcl,cl1,cl2⟩:=zaq (env:=X.env) (scope:=scope) (λy hy hf=>I.ok.has y.1 (.inl (L.free y hy hf)));refine wpAny_comprehension_free (use:=use) rfl hs hcl L.kind L.names (uj hi (λxv s₁ h₁=>uj h₁ (λit s2 h₂=>?_) λ_ _ e=>e) λ_ _ e=>e);obtain⟨it,fp,tn,J,H2,rfl,I2,T,st2,f2,hW⟩:=h₂;have fr2:H2 s2.heap.objs.size=none:=I2.hok.fresh (ui _);obtain⟨W,⟨m0,w0⟩,turn⟩:=hW _ fr2;refine Ut ?_
 have I3:Inv X pins σ (upd H2 s2.heap.objs.size (.lst [])) { s2 with heap:=s2.heap.push { cls:=.type "list",dict:=none,data:=.seq ([]:Lf).toArray } }:=
  I2.laid (t':=s2.toks) (o:=.lst []) (λb ob q=>ue _ q) (ui _) ⟨UD _,[],0,.nil,uz _ rfl⟩
 generalize hD:s2.heap.objs.size=D at I3 turn w0 fr2 ⊢;generalize hH3:upd H2 D (.lst [])=H3 at I3 w0;generalize hs3:({ s2 with heap:=s2.heap.push { cls:=.type "list",dict:=none,data:=.seq ([]:Lf).toArray } }:Shared)=s3 at I3 ⊢;have k23:∀ b o,s2.heap.get? b=some o->s3.heap.get? b=some o:=λb o e=>by rw [← hs3];exact ue _ e
 have os3:s3.os=s2.os:=by rw [← hs3]
 have fpD:∀ b∈fp,b≠D:=λb hb z=>by obtain⟨o,e,_⟩:=T.obj _ _ st2 b hb;exact absurd (uf e) (by rw [z,← hD];exact uX _)
 have f3:∀ b∈fp,FpOk X pins H3 b:=λb hb=>⟨by rw [← hH3,zl (fpD b hb)];exact(f2 b hb).1,(f2 b hb).2⟩
 have st3:tn 0 s3.heap:=T.keep _ _ _ st2 λb hb o e=>k23 b o e;refine wpAny_newFunctionEnv L.cell (λy hy=>by simp at hy) (λh₁ hns₁ hsb₁=>?_) L.kind;generalize hC:s3.heap.objs.size=C at hns₁ hsb₁ ⊢;have k34:∀ b o,s3.heap.get? b=some o->h₁.get? b=some o:=λb o e=>hsb₁.extBut b o (by rintro rfl;exact absurd (uf e) (by rw [hC];exact uX _)) (ue _ e)
 let X':Cx:=blkG X xs scope cl C s3 H3 fp;have relab:∀ y,X'.env.scope.names.lookup y=(scope.names.lookup y).map λk=>if (k == NameKind.free&&X.env.scope.kind == .function&&X.env.kindOf y == some .cell) then NameKind.cell else k:=λy=>vG y scope.names
 have visC:∀ y,(X'.env.kindOf y=some .cell\/X'.env.kindOf y=some .free)->scope.names.lookup y=some .free:=λy hy=>by
  have e:=relab y;have hy:X'.env.scope.names.lookup y=some .cell\/X'.env.scope.names.lookup y=some .free:=hy;rw [e] at hy;cases q:scope.names.lookup y with
  | none=>rw [q] at hy;simp at hy
  | some k=>
   rw [q] at hy;simp only [uU,gq] at hy;by_cases hf:k=.free
   ·rw [hf]
   ·have hb:(k == NameKind.free)=false:=by simpa using hf
    simp only [hb,gO,Up,gc] at hy;rcases hy with rfl | rfl
    ·exact absurd rfl (L.cell _ (uP q))
    ·exact absurd rfl hf
 have okX':X'.Ok:=by
  refine⟨I3.ok.mod,?_,I3.ok.glob,I3.ok.blt,?_,?_,?_,?_,I3.ok.hd,I3.ok.frames,.inl rfl,?_,?_,?_,?_,?_,?_,?_⟩
  ·show(relabel scope X.env).kind=.function;exact L.kind
  ·show s3.heap.objs.size<=C;exact gF hC
  ·exact λa b c h1 h2=>I3.ok.inj a b c (cl1 a c h1) (cl1 b c h2)
  ·exact λy hy=>cl2 (y,.free) (uP (visC y hy)) rfl
  ·exact λy c hf=>by cases hf
  ·refine λb hb=>⟨?_,λy c e z=>(f3 b hb).2.2.2.2.1 y c (cl1 y c e) z⟩
   show b≠C;intro z;obtain⟨o,e,_⟩:=T.obj _ _ st3 b hb;exact absurd (uf e) (by rw [z,← hC];exact uX _)
  ·exact λb o e=>I3.bs b o e
  ·exact uJ I3.ok.bsz I3.sz
  ·intro b o e hb;rcases(f3 b hb).2.2.2.1 with z | z
   ·exact I3.ok.noex b o e z
   ·exact absurd (uy (uf e) (uJ I3.ok.bsz z)) (uX _)
  ·intro b hb z;rcases um.mp (I3.stkSub b z) with e | e
   ·exact(f3 b hb).2.1 e
   ·exact(f3 b hb).2.2.1 e
  ·exact I3.stack
  ·exact I3.stkFree
 have hfreeC:H3 C=none:=I3.hok.fresh (gF hC)
 have I4:Inv X' [] (List.replicate xs.length none++σ) H3 { s3 with heap:=h₁,toks:=s3.toks+([]:List (Str×Value)).length }:=by
  refine⟨okX',rfl,I3.bare,Un.kept k34,⟨_,hns₁,?_⟩,?_,hfreeC,?_,λp hp=>absurd (show p∈([]:Lp) from hp) (by simp),I3.hok.kept k34,?_⟩
  ·intro i y v e1 e2 e3;rcases Nat.lt_or_ge i xs.length with hlt | hge
   ·rw [UB (by rw [Um];exact hlt),gz,ud hlt] at e2;cases e2
   ·obtain⟨j,rfl⟩:∃ j,i=xs.length+j:=⟨i - xs.length,by lia⟩
    have e1:(X.N.map (renL xs))[j]? = some y:=by have z:(xs++X.N.map (renL xs))[xs.length+j]? = some y:=e1;rwa [Uz (by lia),gC] at z
    have e2:σ[j]? = some (some v):=by rwa [Uz (by rw [Um];lia),Um,gC] at e2
    have hyN:y∈X.N.map (renL xs):=uN e1
    have hfr:scope.names.lookup y=some .free:=by
     rcases e3 with e3 | e3 | e3
     ·rw [relab y] at e3;cases q:scope.names.lookup y with
      | none=>rw [q] at e3;simp at e3
      | some k=>
       rw [q] at e3;simp only [uU,gq] at e3;by_cases hf:k=.free
       ·rw [hf]
       ·have hb:(k == NameKind.free)=false:=by simpa using hf
        simp only [hb,gO,Up,gc] at e3;exact absurd (by rw [q,e3]) (L.out y hyN)
     ·exact visC y (.inl e3)
     ·exact visC y (.inr e3)
    have e1:X.N[j]? = some y:=by
     rw [Uc] at e1;cases q0:X.N[j]? with
     | none=>rw [q0] at e1;cases e1
     | some y0=>
      rw [q0] at e1;have e1:renL xs y0=y:=uF e1;unfold renL at e1;split at e1
      ·rename_i hy0;rw [← e1,L.blank _ (uN q0) hy0] at hfr;cases hfr
      ·rw [e1]
    have hkc:=L.free (y,.free) (uP hfr) rfl;have hkc:X.env.kindOf y=some .cell:=hkc;obtain⟨mX,_,hlX⟩:=I3.loc;obtain⟨u,r,l⟩:=hlX j y v e1 e2 (.inr (.inl hkc));refine⟨u,r,?_⟩;rcases l with⟨l,_⟩ | ⟨_,c,hc,hcell⟩
    ·rw [hkc] at l;cases l
    ·obtain⟨c',hc'⟩:=cl2 (y,.free) (uP hfr) rfl;have hc':cl.lookup y=some c':=hc';have:=cl1 y c' hc';rw [hc] at this;cases this;refine .inr ⟨?_,c,hc',?_⟩
     ·rcases e3 with e3 | e3 | e3
      ·rw [relab y,hfr] at e3;simp only [uU,gq] at e3;split at e3<;>cases e3
      ·exact .inl e3
      ·exact .inr e3
     ·obtain⟨o,ho,hd⟩:=hcell;exact⟨o,k34 _ _ ho,hd⟩
  ·intro y c e;obtain⟨v,o,ho,hd⟩:=I3.cell y c (cl1 y c e);exact⟨v,o,k34 _ _ ho,hd⟩
  ·exact λy c e=>I3.freeC y c (cl1 y c e)
  ·show(List.replicate xs.length none++σ).length=(xs++X.N.map (renL xs)).length;rw [ug,ug,Um,uk,I3.len]
 have st4:tn 0 h₁:=T.keep _ _ _ st3 λb hb o e=>k34 b o e;have stat:∀ {H':Hp},(∀ b∈fp,H' b=none)->∀ b∈fp,FpOk X' [] H' b:=λhn b hb=>by refine⟨hn b hb,(okX'.exf b hb).1,okX'.exfs b hb,.inl hb,(okX'.exf b hb).2,λp hp=>absurd (show p∈([]:Lp) from hp) (by simp)⟩
 have loop:∀ s4:Shared,s4={ s3 with heap:=h₁,toks:=s3.toks+([]:List (Str×Value)).length } ->
   codeAny (model X.prog X.w) X.A (.compLoop (.ListComp elt [⟨tg,iter,ifs,0⟩] scope pos) 0 (.ref it) (.ref D) X'.env) (compPost (model X.prog X.w) X.A E use Q (.ref D) C) s4:=by
  rintro s4 rfl
  refine YN (λn s'=>∃ i ys os H',os.length=xs.length/\Inv X' [] (os++σ) H' s'/\tn i s'.heap/\(∀ b∈fp,H' b=none)/\W i n ys H') ?_ m0 ⟨0,[],List.replicate xs.length none,H3,Um,I4,st4,λb hb=>(f3 b hb).1,w0⟩
  rintro n s5 ⟨i,ys,os,H5,hos,I5,st5,fr5,w5⟩
  obtain⟨hD5,turn5⟩:=turn i n ys H5 w5
  rcases turn5 with⟨stop,qn⟩ | ⟨go,step⟩
  ·refine uj (T.done X' rfl rfl rfl L.calm i [] s5 (os++σ) H5 (λ_ _=>False) I5 (stat fr5) st5 stop) (λr s6 h6=>?_) λ_ _ z=>z
   obtain⟨rfl,I6⟩:=h6
   have un6:Un (frs X.stack) fp H3 H5 s3.heap s6.heap:=I6.base
   have IX:Inv X pins σ H5 s6:=I3.call' I6.os un6 I6.hok I6.bare λb hb=>⟨(f3 b hb).2.2.2.1,(f3 b hb).2.1,(f3 b hb).2.2.2.2.1,(f3 b hb).2.2.2.2.2⟩
   obtain⟨mC,hnC,_⟩:=I6.loc
   exact fin D C H5 s6 mC IX (I3.fpOk (H':=H5) (gF hC) I6.free) hnC qn
  ·refine uj (T.item X' rfl rfl rfl L.calm i [] s5 (os++σ) H5 (λ_ _=>False) I5 (stat fr5) st5 go) (λr s6 h6=>?_) λ_ _ z=>z.elim
   obtain⟨u,rfl,h6⟩:=h6
   refine uj h6 (λ_ s6 h6=>?_) λ_ _ z=>z
   obtain⟨v,H6,I6,r6,y6,st6,fr6⟩:=h6
   have I6':=I6.pinned (stat fr6) (T.obj _ _ st6)
   have hv6:=step v H6 y6
   show wpAny (model X'.prog X'.w) X'.A (assign tg X'.env u) _ _ s6
   refine uj (Q:=λ_ s7=>∃ us:List V,us.length=xs.length/\Inv X' ([]++Jg fp s6.heap) (us.map some++σ) H6 s7/\tt (us.map some++σ) H6 λb H3=>if b=true then te (us.map some++σ) H3 λy H4=>H4 D=some (.lst ys)/\ys.length<sizeLine/\∃ m',m' < n/\W (i+1) m' (ys++[y]) (upd H4 D (.lst (ys++[y]))) else ∃ m',m' < n/\W (i+1) m' ys H3) (E:=λ_ _=>False) (uj (hg cl C s3 H3 fp _ s6 _ H6 v u _ I6' r6 (hb v H6 os _ hos hv6)) (λ_ s7 h7=>?_) λ_ _ z=>z) (λ_ s7 h7=>?_) λ_ _ z=>z.elim
   ·obtain⟨σ7,H7,I7,us,hl,rfl,rfl,hk⟩:=h7
    exact⟨us,hl,I7,hk⟩
   obtain⟨us,hus,I7,hv6⟩:=h7
   refine uj ((ht cl C s3 H3 fp) _ s7 _ H6 _ I7 hv6) (λb s8 h8=>?_) λ_ _ z=>z.elim
   obtain⟨H8,I8,q8⟩:=h8
   have done:∀ {ys':List V} {H9:Hp} {s9:Shared} {n':Nat},Inv X' ([]++Jg fp s6.heap) (us.map some++σ) H9 s9->W (i+1) n' ys' H9->∃ i ys os H',os.length=xs.length/\Inv X' [] (os++σ) H' s9/\tn i s9.heap/\(∀ b∈fp,H' b=none)/\W i n' ys H':=λ{ys' H9 s9 n'} I9 w9=>by
    refine⟨i+1,ys',us.map some,H9,by rw [uk];exact hus,I9.unpinned,T.keep _ _ _ st6 λb hb o e=>(I9.pin (b,o) (uR _ (uR _ (y3 hb e)))).1,λb hb=>?_,w9⟩
    obtain⟨o,e,d⟩:=T.obj _ _ st6 b hb
    exact(I9.pin (b,o) (uR _ (uR _ (y3 hb e)))).2.1
   cases b with
   | false=>
    have q8:∃ m',m' < n/\W (i+1) m' ys H8:=q8
    obtain⟨m',hm,w8⟩:=q8
    exact⟨m',hm,done I8 w8⟩
   | true=>
    have q8:te (us.map some++σ) H8 _:=q8
    refine uj ((he cl C s3 H3 fp) _ s8 _ H8 _ I8 q8) (λyv s9 h9=>?_) λ_ _ z=>z.elim
    obtain⟨y,H9,I9,r9,hD9,hz9,m',hm,w9⟩:=h9
    refine uj (Jm (X:=X') _ s9 _ H9 (.ref D) [y] (.ref D) [yv] (λv' H'=>v' = .non/\H' = upd H9 D (.lst (ys++[y]))) I9 rfl (.cons r9 .nil) ⟨D,ys,y,rfl,rfl,hD9,hz9,rfl,rfl⟩) (λ_ s10 h10=>?_) λ_ _ z=>z.elim
    obtain⟨_,H10,I10,_,_,rfl⟩:=h10
    exact⟨m',hm,done I10 w9⟩
 exact codeAny_compStart_list (loop _ rfl) (T.self _ 0 _ _ _ st4 (loop _ rfl))
end
theorem ziu {v:V}{H:Hp}{os σ:St}{K:List V->Prop}(hl:os.length=1)(h:K [v]):xC 0 v (os++σ) H λσ' H'=>∃ us:List V,us.length=1/\σ' = us.map some++σ/\H' = H/\K us:=by
 obtain _ | ⟨o,_ | ⟨o',os⟩⟩:=os
 ·cases hl
 ·exact⟨[v],rfl,rfl,rfl,h⟩
 ·cases hl
theorem zbU {l:Lh}(h:x∉l):l.map (renL [x])=l:=by refine(gZ λy hy=>?_).trans (List.map_id l);unfold renL;rw [ub (λz=>h (by rwa [← uE.mp z]))];rfl
theorem ZN.gen {scope:Scope}(L:ZN X x scope):Za X [x] scope:=by have e:=zbU L.xN;refine⟨?_,L.kind,L.cell,L.names,λy hy=>by rw [uE.mp hy];exact L.var,L.free,by rw [e];exact L.out,λy hy h=>absurd (by rwa [← uE.mp h]) L.xN,L.calm⟩;rw [e];exact Ue.mpr ⟨L.xN,L.nd⟩
theorem YO {X:Cx}{scope:Scope}(h:x∉X.N):blkG X [x] scope cl C s3 H3 fp=blk X x scope cl C s3 H3 fp:=by unfold blkG blk;rw [zbU h];rfl
theorem YQ {scope:Scope}(h:scope.names.lookup x=some .local):(compEnvC scope cl C env).scope.names.lookup x=some .local:=by show(relabel scope env).names.lookup x=_;exact(vG x scope.names).trans (by rw [h];rfl)
theorem ziv {scope:Scope}(L:Za X (x::xs) scope):PG (blkG X (x::xs) scope cl C s3 H3 fp) (.Name x px) (xC 0):=by have hv:(compEnvC scope cl C X.env).scope.names.lookup x=some .local:=YQ (L.var x Uy);exact zbK (X:=blkG X (x::xs) scope cl C s3 H3 fp) L.nd rfl (.inl hv) (.inr hv)
section
variable {X:Cx} {elt iter:Expr} {x:Str} {px pos:Pos} {ifs:Lg} {scope:Scope} {wi:TI} {tt:TT} {te:TE}
theorem zbV {pins:Lp}{σ:St}{H:Hp}{s:Shared}{E:Value->Shared->Prop}{Q:Value->Shared->Prop}{use:Option (Value->Sem Unit)}{QV:VK}(L:ZN X x scope)(I:Inv X pins σ H s) (hi:wpAny (model X.prog X.w) X.A (eval iter X.env) (λv s1=>wpAny (model X.prog X.w) X.A (pyIter v) (PIE X pins σ (.Name x px) (λJ H1=>∀ D,H1 D=none->∃ W:Nat->Nat->List V->Hp->Prop,(∃ m,W 0 m [] (upd H1 D (.lst [])))/\∀ i m ys H',W i m ys H'->H' D=some (.lst ys) /\ ((J.stop i H'/\QV (.ref D) H')\/(J.go i H'/\∀ v H2,J.yld i H' v H2->tt (some v::σ) H2 λb H3=> if b=true then te (some v::σ) H3 λy H4=>H4 D=some (.lst ys)/\ys.length<sizeLine/\∃ m',m' < m/\W (i+1) m' (ys++[y]) (upd H4 D (.lst (ys++[y]))) else ∃ m',m' < m/\W (i+1) m' ys H3)))) E s1) E s) (ht:∀ cl C s3 H3 fp,PTs (blk X x scope cl C s3 H3 fp) ifs tt) (he:∀ cl C s3 H3 fp,PE (blk X x scope cl C s3 H3 fp) elt te) (hs:∀ x,foldedSetIterable iter X.env x=pure x) (fin:∀ (D C:Addr) (H':Hp) (s':Shared) (m:La),Inv X pins σ H' s'->FpOk X pins H' C->s'.heap.Ns C m->QV (.ref D) H'->compPost (model X.prog X.w) X.A E use Q (.ref D) C (.ok .next) s') : wpAny (model X.prog X.w) X.A (comprehension (.ListComp elt [⟨.Name x px,iter,ifs,0⟩] scope pos) scope X.env (firstIterPos [⟨.Name x px,iter,ifs,0⟩] pos) (newList []) false (eval iter X.env) use) Q E s:=by refine zeb (bnd:=λv _ k=>k [v]) (g:=xC 0) L.gen I hi (λcl C s3 H3 fp=>by rw [YO L.xN];exact ht cl C s3 H3 fp) (λcl C s3 H3 fp=>by rw [YO L.xN];exact he cl C s3 H3 fp) (λcl C s3 H3 fp=>ziv L.gen) (λv H os K hl h=>ziu hl h) hs fin
theorem zec {pz spos:Pos}(hN:X.N.Nodup)(hi':X.N[i]? = some z)(hz:Loc X.env.scope z)(L:ZN X x scope)(hi:PI X (.Name x px) iter wi)(ht:∀ cl C s3 H3 fp,PTs (blk X x scope cl C s3 H3 fp) ifs tt)(he:∀ cl C s3 H3 fp,PE (blk X x scope cl C s3 H3 fp) elt te) (hs:∀ x,foldedSetIterable iter X.env x=pure x:=by intro _;rfl) (hsw:swapsWith (.ListComp elt [⟨.Name x px,iter,ifs,0⟩] scope pos) (some (.Name z pz)) spos.line X.env=pure true:=by rfl) (hf:X.fn z=true\/X.env.scope.names.lookup z=some .local:=by first | exact .inl rfl | exact .inr rfl | assumption):PS X (.Assign [.Name z pz] (.ListComp elt [⟨.Name x px,iter,ifs,0⟩] scope pos) spos) (tAsg (tLC wi tt te) (xC i)):=by
 intro pins s σ H D I h;rw [exec_Assign_Name_used _ _ _ _ hsw];refine ua (u0 (ua ?_));show wpAny _ X.A (do let _ ← comprehension (.ListComp elt [⟨.Name x px,iter,ifs,0⟩] scope pos) scope X.env _ (newList []) false (eval iter X.env) (some (assign (.Name z pz) X.env))) _ _ s;refine ua (uj (zbV (use:=some (assign (.Name z pz) X.env)) (Q:=λ_ s'=>SP X pins D .next s') (QV:=λv H'=>D.nx (σ.set i (some v)) H') L I (hi pins s σ H _ I h) ht he hs λD' C H' s' m IX fC hn q=>?_) (λ_ s' hq=>uc (uc hq)) λ_ _ e=>e);show wpAny _ X.A (assign (.Name z pz) X.env (.ref D')) _ _ s';refine GY (XW IX hN hi' hz (show RelV (.ref D') (.ref D') from rfl) (λs2 I2 hch=>?_) hf);obtain⟨a,sb,ha⟩:=hch
 have hCa:C≠a:=by
  rcases ha with e | e
  ·rw [e];exact fC.2.1
  ·intro z';exact fC.2.2.2.2.1 _ _ e z'.symm
 refine⟨m,hn.sameBut sb hCa,λh' hs'=>?_⟩;exact⟨_,H',I2.turned (t':=s2.toks) (λb o hb e=>hs'.extBut b o hb e) fC.1 fC.2.1 fC.2.2.2.1 fC.2.2.2.2.1 fC.2.2.2.2.2,q⟩
theorem zkz (L:ZN X x scope)(hi:PI X (.Name x px) iter wi)(ht:∀ cl C s3 H3 fp,PTs (blk X x scope cl C s3 H3 fp) ifs tt)(he:∀ cl C s3 H3 fp,PE (blk X x scope cl C s3 H3 fp) elt te) (hs:∀ x,foldedSetIterable iter X.env x=pure x:=by intro _;rfl):PE X (.ListComp elt [⟨.Name x px,iter,ifs,0⟩] scope pos) (tLC wi tt te):=by intro pins s σ H Q I h;rw [eval_ListComp];refine zbV (use:=none) (QV:=Q) L I (hi pins s σ H _ I h) ht he hs λD C H' s' m IX fC hn q=>?_;refine⟨m,hn,λh' hs'=>⟨.ref D,H',IX.turned (t':=s'.toks) (λb o hb e=>hs'.extBut b o hb e) fC.1 fC.2.1 fC.2.2.2.1 fC.2.2.2.2.1 fC.2.2.2.2.2,rfl,q⟩⟩
end
noncomputable def S (l:Lc):Str:=⟨l.toArray⟩
theorem zed (l:Lc):(S l).cps.toList=l:=rfl
theorem kS (l:Lc):(S l).length=l.length:=by simp [S,Str.length]
theorem Vv (l:Lc):(S l).cps.size=l.length:=by simp [S]
theorem zhD (l:Lc)(i:Nat):(S l).cps[i]? = l[i]?:=by simp [S]
theorem vo:S a=S b↔a=b:=⟨λh=>by have:=congrArg (λx=>x.cps.toList) h;simpa [S] using this,λh=>by rw [h]⟩
theorem zkA (a b:Lc):S a++S b=S (a++b):=by show Str.append (S a) (S b)=_;simp [S,Str.append]
theorem zhE:(V.str (S a)=V.str (S b))=(a=b):=by rw [V.str.injEq,vo]
section
variable {X:Cx} {a b e:Expr} {ta tb te:TE} {pos:Pos}
theorem pe_S {j pos}(h:x=S l):PE X (.Constant (.str x) j pos) (tC (.str (S l))):=by subst h;exact zae
theorem jJ:OpR X (binaryOp .Add) (λx y H Q=>∃ i j,x=.str (S i)/\y=.str (S j)/\i.length+j.length<=sizeLine/\Q (.str (S (i++j))) H):=by intro pins s σ H x y v u Q I rx ry h;obtain⟨i,j,rfl,rfl,hz,q⟩:=h;exact zaj pins s σ H _ _ v u Q I rx ry ⟨S i,S j,rfl,rfl,by rw [kS,kS];exact hz,by rw [zkA];exact q⟩
theorem jW:OpR X (binaryOp .Mult) (rI IntMulOk λi j=>.int (i * j)):=opI λ_ _ _ _ _ _ _ hc q=>mul_int q hc
theorem vf:OpR X (compareOp .In) (λx y H Q=>∃ c l,x=.str (S [c])/\y=.str (S l)/\Q (.bl (decide (c∈l))) H):=by intro pins s σ H x y v u Q I rx ry h;obtain⟨c,l,rfl,rfl,q⟩:=h;refine XY pins s σ H _ _ v u Q I rx ry ⟨S [c],S l,rfl,rfl,?_⟩;rw [show S [c]=⟨#[c]⟩ from rfl,StrLaws.found_one];exact q
theorem X6:OpR X (compareOp .NotIn) (λx y H Q=>∃ c l,x=.str (S [c])/\y=.str (S l)/\Q (.bl (!decide (c∈l))) H):=by intro pins s σ H x y v u Q I rx ry h;obtain⟨c,l,rfl,rfl,q⟩:=h;refine Vm pins s σ H _ _ v u Q I rx ry ⟨S [c],S l,rfl,rfl,?_⟩;rw [show S [c]=⟨#[c]⟩ from rfl,StrLaws.found_one];exact q
noncomputable def zee:R2:=λx y H Q=>∃ l i c,x=.str (S l)/\y=.int i/\l.length<=sizeLine/\atI l i=some c/\Q (.str (S [c])) H
theorem ix_S:IxR X zee:=by intro value slice pins s σ H x y v u Q I rx ry h hs;obtain⟨l,i,c,rfl,rfl,hz,he,q⟩:=h;exact zir value slice pins s σ H _ _ v u Q I rx ry ⟨S l,i,c,rfl,rfl,by rw [kS];exact hz,he,q⟩ hs
theorem Jn:jV X (.builtin "len") (λxs H Q=>∃ l,xs=[.str (S l)]/\l.length<=sizeLine/\Q (.int l.length) H):=by intro pins s σ H xs us Q I r h;obtain⟨l,rfl,hz,q⟩:=h;exact Vr pins s σ H _ us Q I r ⟨S l,rfl,by rw [kS];exact hz,by rw [kS];exact q⟩
end
section
variable {X:Cx} {a b e:Expr} {ta tb te:TE} {pos:Pos}
theorem zdb {i:Int}(h0:0<=i)(h1:i<1000000):i.natAbs.log2<1920:=by
 have:i.natAbs<2 ^ 20:=by lia
 by_cases hz:i.natAbs=0
 ·rw [hz];decide
 ·have:=(Nat.log2_lt hz).mpr this;lia
noncomputable def yQ (c:Nat):Bool:=48<=c&&c<=57
theorem zdc:jV X (.type "int") (λxs H Q=>∃ c d:Nat,xs=[.str (S [c,d])]/\yQ c=true/\yQ d=true/\Q (.int (((c - 48) * 10+(d - 48):Nat):Int)) H):=by
 intro pins s σ H xs us Q I r h;obtain⟨c,d,rfl,hc,hd,q⟩:=h;obtain⟨u,rfl,t,rfl⟩:=vals1 r;unfold yQ at hc hd;simp only [uG,Uu] at hc hd
 have hn:PySem.intText? (S [c,d])=some (((c - 48) * 10+(d - 48):Nat):Int):=by
  rw [intText_digits (x:=S [c,d]) (λz hz=>?_) (by simp [S]) (by rw [kS];show 2<=4300;decide)]
  ·rw [zed];simp [NumText.digitsVal]
  ·rw [zed] at hz;simp at hz;rcases hz with rfl | rfl
   ·exact hc
   ·exact hd
 exact PySem.W.KIN.call_text hn (by rw [kS];show 2<=640;decide) ⟨.int _,H,I.tok _,⟨_,rfl⟩,q⟩
end
structure OkF (P:Program)(w:World)(K:Le)(mg:La)(base:Heap)(k:Nat)(x:Str)(ps:Lh)(sp:Sp):Prop where
 ex:∃ (f:Addr) (fd:FuncData),PySem.W.keepIn K (.ref f)=true/\Binds K fd ps []/\(mg x=some (.ref f)/\∃ oc od osl,K.lookup f=some ⟨oc,od,.func fd,osl⟩)/\FnOk P w K mg base CX0 k f fd ps sp
structure Df (K:Le)(mg:La)(x:Str)(st:Stmt)(ps:Lh):Prop where
 ex:∃ (f:Addr) (fd:FuncData),Fun K x x st f fd/\Binds K fd ps []/\mg x=some (.ref f)
section
variable {P:Program} {w:World} {K:Le} {mg:La} {base:Heap}
theorem Df.ok {x:Str}{st:Stmt}{ps N:Lh}{k:Nat}{sp:Sp}(D:Df K mg x st ps)(Sc:zj N ps (zf st))(len:∀ vs H Q E,sp vs H Q E->vs.length=ps.length) (hbody:∀ (f:Addr) (cdv:Value) (A:Around) (outer:List Env) (s:Shared) (H:Hp) (vs:List V) (Q:VK) (E:XK),Room k (A.deeper (envOfC x (zf st) s.heap.objs.size f cdv))->sp vs H Q E -> ∃ t,PSs (cxOf CX0 P w K mg base N x (zf st) f cdv A outer s H E).nox (zZ st) t/\t { nx:=λ_ H'=>Q .non H',rt:=Q } (start N vs) H):OkF P w K mg base (k+1) x ps sp:=by obtain⟨f,fd,F,b,m⟩:=D.ex;refine⟨f,fd,F.kp,b,⟨m,?_⟩,F.ok Sc len (λcdv A outer s H vs Q E hr h=>hbody f cdv A outer s H vs Q E hr h)⟩;obtain⟨oc,od,kV,doc,pm,an,cdv,ct,osl,rfl,lk,hcd⟩:=F.ex;exact⟨oc,od,osl,lk⟩
theorem OkF.mono (F:OkF P w K mg base j x ps sp)(h:j<=k):OkF P w K mg base k x ps sp:=by obtain⟨f,fd,kp,b,m,G⟩:=F.ex;exact⟨f,fd,kp,b,m,G.mono h⟩
theorem OkF.imp (F:OkF P w K mg base k x ps sp)(h:∀ vs H Q E,sp' vs H Q E->sp vs H Q E):OkF P w K mg base k x ps sp':=by obtain⟨f,fd,kp,b,m,G⟩:=F.ex;exact⟨f,fd,kp,b,m,G.imp h⟩
end
section
variable {P:Program} {w:World} {K:Le} {mg:La} {base:Heap}
theorem zkB {h:Heap}{x:Str}{st:Stmt}{ps:Lh}{f:Addr}{oc:Value}{od an:Option Addr}{osl:Array (Option Value)}{kV doc pm cdv ct:Value}(X:K.In h)(G:h.Ns mainGlobals mg) (b:∀ (kV doc pm:Value) (an:Option Addr) (cdv ct:Value) (us:Lf),us.length=ps.length->bindArgs (PySem.W.fnOf x x (jk st) (zZ st) (zf st) .none kV doc pm an cdv ct) ⟨us,[]⟩=pure (ps.zip us)) (a:PySem.W.nsIn K mainGlobals x=some (some (.ref f))) (l:K.lookup f=some ⟨oc,od,.func (PySem.W.fnOf x x (jk st) (zZ st) (zf st) .none kV doc pm an cdv ct),osl⟩) (c:PySem.W.codeIn K cdv x=true) (k:PySem.W.keepIn K (.ref f)=true):Df K mg x st ps:= ⟨f,_,k9 l c k,(k9 l c k).binds b,Ur X G a⟩
theorem ziw {st:Stmt}{x:Str}{k:Nat}{fa:Addr}{sp:Sp}(D:Df K mg "law" st [x])(hfa:mg "law" = some (.ref fa)) (hb:∀ (kV doc pm:Value) (an:Option Addr) (cdv ct:Value) (s:Shared) (u:Value),BindsTo s (PySem.W.fnOf "law" "law" (jk st) (zZ st) (zf st) .none kV doc pm an cdv ct) ⟨[u],[]⟩ [(x,u)]) (F:∀ base:Heap,OkF P w K mg base k "law" [x] sp) : ∃ fd:FuncData,(∀ (s:Shared) (v:Value),BindsTo s fd ⟨[v],[]⟩ [(x,v)])/\∀ base:Heap,K.In base->base.Ns mainGlobals mg->FnOk P w K mg base CX0 k fa fd [x] sp:=by
 obtain⟨f,fd,G,b,m⟩:=D.ex;have e:f=fa:=by rw [hfa] at m;cases m;rfl
 subst e;obtain⟨oc,od,kV,doc,pm,an,cdv,ct,osl,rfl,lk,hcd⟩:=G.ex;refine⟨_,λs v=>hb kV doc pm an cdv ct s v,λbase _ _=>?_⟩;obtain⟨f',fd',_,_,⟨m',oc',od',osl',lk'⟩,ok⟩:=(F base).ex;have e:f' = f:=by rw [hfa] at m';cases m';rfl
 subst e;rw [lk] at lk';cases lk';exact ok
end
section
variable {X:Cx} {k j:Nat} {x:Str} {ps:Lh} {sp:Sp} {p pos:Pos} {e:Expr} {es:Lg} {t:TA}
theorem zef (F:OkF X.prog X.w X.K X.mg X.base k x ps sp)(hr:Room j X.A)(hk:k<=j)(ha:PA X (e::es) t)(hg:Gl X x:=by rfl) (hdb:(x == ("__debug__":Str))=false:=by decide) (he:starEach (e::es) X.env=(false,eval e X.env)::starEach es X.env:=by rfl) (hpl:(backTo pos (starEach es X.env)).any (·.1)=false:=by rfl):PE X (.Call (.Name x p) (e::es) [] pos) (kR sp [] E0 t):=by obtain⟨f,fd,kp,b,m,G⟩:=F.ex;exact zgh G (hr.mono hk) hg m.1 kp b .nil zea ha hdb he hpl
theorem zdd (F:OkF X.prog X.w X.K X.mg X.base k x ps sp)(hr:Room j X.A)(hk:k<=j)(hg:Gl X x:=by rfl) (hdb:(x == ("__debug__":Str))=false:=by decide):PE X (.Call (.Name x p) [] [] pos) (kR sp [] E0 tNil):=by obtain⟨f,fd,kp,b,m,G⟩:=F.ex;exact zd0 G (hr.mono hk) hg m.1 kp b .nil zea hdb
theorem zkC (h:∃ u,X.mg x=some u/\RelV v u)(hg:Gl X x:=by rfl) (hd:(x == ("__debug__":Str))=false:=by decide):PE X (.Name x pos) (tC v):=by obtain⟨u,m,r⟩:=h;exact zbI hg m r hd
theorem zix (hm:X.mg x=none)(hv:bootBuiltins x=some u)(r:RelV v u)(hg:Gl X x:=by rfl) (hn:x≠"__name__":=by decide) (hd:(x == ("__debug__":Str))=false:=by decide):PE X (.Name x pos) (tC v):=
 zf9 hg hm hv r hn hd
theorem lcs {N:Lh}{sc scope:Scope}(e1:X.N=N)(e2:X.env.scope=sc)(c:X.calm=true) (h:x∉N/\N.Nodup/\scope.kind=.function/\(∀ y∈scope.names,y.2≠.cell)/\(∀ y∈scope.names,y.2=.local->scope.names.lookup y.1=some .local)/\scope.names.lookup x=some .local /\ (∀ y∈scope.names,y.2=.free->sc.names.lookup y.1=some .cell)/\(∀ y∈N,scope.names.lookup y≠some .local)):ZN X x scope:=by subst e1 e2;obtain⟨h1,h2,h3,h4,h5,h6,h7,h8⟩:=h;exact⟨h1,h2,h3,h4,h5,h6,h7,h8,c⟩
theorem zgt:OpR X (binaryOp .Add) (λx y H Q=>(∃ i j,x=.int i/\y=.int j/\Q (.int (i+j)) H)\/∃ i j,x=.str (S i)/\y=.str (S j)/\i.length+j.length<=sizeLine/\Q (.str (S (i++j))) H):=jh.or jJ
section
variable {K:Le} {o:Expr} {to:TE} {name:Str} {apos cpos:Pos} {T id:String} {r:V->List V->Hp->VK->Prop}
theorem ziy (hK:X.K=K)(pa:PlainAttrs T)(slot:Slot T name id)(hty:typeOf (.builtin id)=pure (.type "method_descriptor"))(hm:MtR X id r)(ho:PE X o to)(ha:PA X (e::es) t) (hbase:attributeBase o name X.env (eval o X.env)=eval o X.env:=by rfl) (hfew:((backTo cpos (starEach (e::es) X.env)).all (λx=>!x.1)&&(backToKw cpos (keywordEach [] X.env)).all (λx=>x.1.isSome) && decide ((e::es).length+([]:List Keyword).length+(if ([]:List Keyword).isEmpty then 0 else 1)<30))=true:=by rfl) (hline:(apos.endLine == cpos.line)=true:=by rfl) (hs:starEach (e::es) X.env=(false,eval e X.env)::starEach es X.env:=by rfl) (hplain:(backTo cpos (starEach es X.env)).any (·.1)=false:=by rfl) : PE X (.Call (.Attribute o name apos) (e::es) [] cpos) (tBM K T r to t):=by subst hK;exact zky pa slot hty hm ho ha hbase hfew hline hs hplain
theorem zeg (hK:X.K=K):IxR X (rIxL K):=by subst hK;exact zgp
theorem zgu (hK:X.K=K):IxR X (rIxT K):=by subst hK;exact ziq
noncomputable def zeh (K:Le):List V->Hp->VK->Prop:=λxs H Q=>∃ p ys,xs=[.ref p]/\(SqL K H p ys\/SqT K H p ys)/\Q (.int ys.length) H
theorem y8 (hK:X.K=K):jV X (.builtin "len") (zeh K):=by subst hK;exact Vq
theorem zei (hK:X.K=K)(hl:PE X l tl):PI X tg l (YJ K tl):=by subst hK;exact zgd hl
end
end
theorem Qa:bootBuiltins "len" = some (.builtin "len"):=by decide +kernel
theorem ziz:bootBuiltins "max" = some (.builtin "max"):=by decide +kernel
theorem ziA:bootBuiltins "min" = some (.builtin "min"):=by decide +kernel
theorem zej:bootBuiltins "int" = some (.type "int"):=by decide +kernel
theorem qm:bootBuiltins "isinstance" = some (.builtin "isinstance"):=by decide +kernel
noncomputable def sg:Lc:=[32,33,34,35,36,38,39,40,41,42,43,44,45,46,47,48,49,50,51,52,53,54,55,56,57,58,59,60,61,62,63,64,65,66,67,68,69,70,71,72,73,74,75,76,77,78,79,80,81,82,83,84,85,86,87,88,89,90,91,92,93,94,95,96,97,98,99,100,101,102,103,104,105,106,107,108,109,110,111,112,113,114,115,116,117,118,119,120,121,122,123,124,125,126]
noncomputable def fg:Lc:=[48,49,50,51,52,53,54,55,56,57]
theorem zas:sg.length=94:=by decide
theorem Vw (c:Nat):c∈fg↔yQ c=true:=by unfold fg yQ;simp only [um,List.mem_nil_iff,GL,uG,Uu];omega
theorem WM {α:Type}(xs:List α)(i:Nat):atI xs (i:Int)=xs[i]?:=by
 cases h:xs[i]? with
 | some v=>exact zgo h
 | none=>have h1:xs.length<=i:=UA.mp h;unfold atI ixN;rw [ud (by omega),ub (by omega)];rfl
theorem za (h:H a=none):Same H (upd H a o):=λb u e=>by rw [zl (zM e h)];exact e
def Wm (J:It)(g:TG)(tb:TS)(D:Ends)(σ:St)(H1:Hp):Prop:=∃ W:Nat->Nat->St->Hp->Prop,(∃ m,W 0 m σ H1)/\∀ i m σ H,W i m σ H ->
 (J.stop i H/\D.nx σ H)\/(J.go i H/\∃ N:St->Hp->Prop,(∀ σ' H',N σ' H'->∃ m',m' < m/\W (i+1) m' σ' H')/\∀ x H',J.yld i H x H'->g x σ H' λσ2 H2=>tb { D with nx:=N,ct:=N,bk:=D.nx } σ2 H2)
theorem zgv (wi:TI)(g:TG)(tb:TS):tFor wi g tb=λD σ H=>wi σ H λJ H1=>Wm J g tb D σ H1:=rfl
def ziB (c:TT)(tb:TS)(D:Ends)(σ:St)(H:Hp):Prop:=∃ W:Nat->St->Hp->Prop,(∃ m,W m σ H)/\∀ m σ H,W m σ H ->
 c σ H λb H1=>if b=true then ∃ N:St->Hp->Prop,(∀ σ' H',N σ' H'->∃ m',m' < m/\W m' σ' H')/\tb { D with nx:=N,ct:=N,bk:=D.nx } σ H1 else D.nx σ H1
theorem zde (c:TT)(tb:TS):zig c tb=λD σ H=>ziB c tb D σ H:=rfl
theorem w6 {K:Le}{a:Addr}{xs:List V}{g:TG}{tb:TS}{D:Ends}{σ:St}{H:Hp}(Pv:Nat->St->Hp->Prop)(h0:Pv 0 σ H)(hl:∀ i σ H,i<=xs.length->Pv i σ H->SqL K H a xs)
  (hs:∀ i x σ H,xs[i]? = some x->Pv i σ H->g x σ H λσ2 H2=>tb { D with nx:=Pv (i+1),ct:=Pv (i+1),bk:=D.nx } σ2 H2) (hd:∀ σ H,Pv xs.length σ H->D.nx σ H):Wm (Itl K a) g tb D σ H:=zdR Pv h0 hl hs hd
theorem WN {D:Ends}(Pv:Nat->St->Hp->Prop)(h0:Pv 0 σ H) (hs:∀ i σ H,i<n->Pv i σ H->g (.int (i:Int)) σ H λσ2 H2=>tb { D with nx:=Pv (i+1),ct:=Pv (i+1),bk:=D.nx } σ2 H2) (hd:∀ σ H,Pv n σ H->D.nx σ H):Wm (Itr 0 n) g tb D σ H:=by
 refine⟨λi m σ H=>m=n - i/\i<=n/\Pv i σ H,⟨n,by simp,UD _,h0⟩,?_⟩;rintro i m σ H ⟨rfl,hi,p⟩;by_cases hlt:i<n
 ·refine .inr ⟨hlt,Pv (i+1),λσ' H' p'=>⟨n - (i+1),by lia,rfl,hlt,p'⟩,λx H' y=>?_⟩;obtain⟨rfl,rfl⟩:=y;rw [Int.zero_add];exact hs i σ _ hlt p
 ·have e:i=n:=by lia
  subst e;exact .inl ⟨ui _,hd σ H p⟩
theorem zA {α:Type}(c:α)(l:List α):atI (c::l) 0=some c:=by rw [show(0:Int)=((0:Nat):Int) from rfl,WM];rfl
theorem wV {α:Type}(c d:α)(l:List α):atI (c::d::l) 1=some d:=by rw [show(1:Int)=((1:Nat):Int) from rfl,WM];rfl
theorem zgw {α:Type}{xs:List α}{i:Int}(h0:0<=i)(h1:i<xs.length):∃ v,atI xs i=some v/\xs[i.toNat]? = some v:=by
 obtain⟨n,rfl⟩:=Int.eq_ofNat_of_zero_le h0;have hn:n<xs.length:=by lia
 refine⟨xs[n],?_,?_⟩
 ·rw [show((n:Nat):Int)=((n:Nat):Int) from rfl];rw [WM,uo hn]
 ·rw [Gp,uo hn]
theorem zek {ns:List Int}{i:Int}(h0:0<=i)(h1:i<ns.length):∃ n,atI (ns.map V.int) i=some (.int n)/\n∈ns:=by
 obtain⟨v,h2,h3⟩:=zgw (xs:=ns.map V.int) h0 (by rw [uk];exact h1);rw [Uc] at h3;cases e:ns[i.toNat]? with
 | none=>rw [e] at h3;cases h3
 | some n=>rw [e] at h3;cases h3;exact⟨n,h2,uN e⟩
theorem y9 (h:-(2 ^ 64)<i/\i<2 ^ 64):IntMulOk i j:=CMul.ok (.inl h)
theorem ZO (h:-(2 ^ 64)<j/\j<2 ^ 64):IntMulOk i j:=CMul.ok (.inr h)
theorem Vx {a m:Int}(h:0<m):0<=a % m/\a % m<m:=⟨GC _ (by lia),Int.emod_lt_of_pos _ h⟩
theorem cpow {i j:Int}(h:0<=j/\j<=1000000/\i.natAbs<2 ^ 64):CPow i j:=h
noncomputable def told (l:Lc):Option Nat:=match l with
 | [c,d]=>if yQ c=true/\yQ d=true then sg[(c - 48) * 10+(d - 48)]? else none
 | _=>none
theorem zgx {l:Lc}(h:l.length≠2):told l=none:=by
 match l,h with
 | [],_=>rfl
 | [_],_=>rfl
 | [_,_],h=>exact absurd rfl h
 | _::_::_::_,_=>rfl
noncomputable def oV:Option Nat->V
 | some c=>.str (S [c])
 | none=>.non
noncomputable def ws:Lc:=[97,98,99,100,101,102,103,104,105,106,107,108,109,110,111,112,113,114,115,116,117,118,119,120,121,122,48,49,50,51,52,53,54,55,56,57,45]
def Fly (p:Prop)(h:Heap)(e T:Addr)(cls:Value)(d:Option Addr)(fl:Value):Prop:= ∃ sl vs oT ts,h.get? e=some ⟨cls,d,.fields vs,sl⟩/\vs[1]? = some (.ref T)/\T≠e/\h.get? T=some oT/\oT.data=.fields ts/\ts[3]? = some fl/\(p->vs[2]? = some .none)
structure Kp (ch fs:Ld)(h h':Heap):Prop where
 keep:∀ b o,b∉ch->b∉fs->h.get? b=some o->h'.get? b=some o
 slot:∀ b o,b∉ch->h.get? b=some o->∃ sl,h'.get? b=some { o with slots:=sl }
theorem Kp.trans (a:Kp ch fs h h1)(b:Kp ch' fs h1 h2):Kp (ch++ch') fs h h2 where
 keep:=λx o hx hf q=>b.keep x o (λz=>hx (uR _ z)) hf (a.keep x o (λz=>hx (uV _ z)) hf q)
 slot:=λx o hx q=>by
  obtain⟨sl,q1⟩:=a.slot x o (λz=>hx (uV _ z)) q
  obtain⟨sl',q2⟩:=b.slot x _ (λz=>hx (uR _ z)) q1
  exact⟨sl',q2⟩
theorem Kp.mono (a:Kp ch fs h h1)(h1':∀ b∈ch,b∈ch')(h2':∀ b∈fs,b∈fs'):Kp ch' fs' h h1:= ⟨λb o hx hf q=>a.keep b o (λz=>hx (h1' b z)) (λz=>hf (h2' b z)) q,λb o hx q=>a.slot b o (λz=>hx (h1' b z)) q⟩
section
variable {M:Model} {A:Around} {E:Value->Shared->Prop} {s:Shared}
theorem X7 {base:Heap}{env:Env}{outer:List Env}{cls head:Value}{vs:Array Value}
  (hfr:A.frames=some (env::outer)) (hl:s.heap.FunFrames base (env::outer)) (hf:env.frame=some L) (he:s.heap.get? e=some ⟨cls,d,.fields vs,sl⟩) (hv:1<vs.size) (hp:p->vs[2]? = some .none)
  (k:∀ h' T,s.heap.objs.size<=T->Fly p h' e T cls d (rawInt L)->Kp [e] (frs (env::outer)) s.heap h'->Q () { s with heap:=h' }) :
  wpAny M A (do let a ← frameOf env;let pl ← entryPlaceOf L nx;let b ← EntryCells.newEntry head a .none (rawInt L) .none pl;setField (.ref e) 1 b) Q E s:=by
 have ne:e∉(env::outer).filterMap (·.frame):=λhm=>by
  obtain⟨_,o,ho,hn⟩:=hl.mem hm
  rw [he] at ho
  cases ho
  exact hn vs rfl
 refine ua (wpAny_frameOf_fun hfr hl hf λg hg=>ua (wpAny_entryPlaceOf λpl hpl=>?_))
 have e1:g.get? e=some ⟨cls,d,.fields vs,sl⟩:=(hg.2.1 e ne).trans he
 unfold EntryCells.newEntry newFields
 refine ua (Ut ?_ (hpl.sizeOk5 _ _ _ _ _))
 generalize hT:({ cls:=.type "traceback",dict:=none,data:=.fields ([head,.ref L,.none,rawInt L,.none]++(if pl.isEmpty then List.replicate 6 Value.none else pl)).toArray }:Obj)=tb
 have e2:=ue (h:=g) tb e1
 have tn:g.objs.size≠e:=Uq (uf e1)
 refine UE e2 rfl hv (k _ g.objs.size ?_ ?_ ?_)
 ·rw [hg.1];exact ui _
 ·refine⟨sl,_,tb,([head,.ref L,.none,rawInt L,.none]++(if pl.isEmpty then List.replicate 6 Value.none else pl)).toArray,uT _ e2 (by rfl),by simp [hv],tn,?_,by rw [← hT],by simp,λz=>by simpa [UL] using hp z⟩
  rw [ux _ _ (Ne.symm tn)]
  exact uz g (by rw [← hT];rfl)
 ·refine⟨λb o hb hfs q=>?_,λb o hb q=>?_⟩
  ·have hbe:b≠e:=λz=>hb (by simp [z])
   rw [ux _ _ (Ne.symm hbe)]
   exact ue _ ((hg.2.1 b hfs).trans q)
  ·have hbe:b≠e:=λz=>hb (by simp [z])
   obtain⟨sl',q'⟩:=hg.2.2 b o q
   refine⟨sl',?_⟩
   rw [ux _ _ (Ne.symm hbe)]
   exact ue _ q'
theorem Qb {base:Heap}{env:Env}{outer:List Env} (hfr:A.frames=some (env::outer)) (hl:s.heap.FunFrames base (env::outer)) (hf:env.frame=some L) (he:s.heap.get? e=some ⟨cls,d,.fields vs,sl⟩) (hv:vs[1]? = some .none) (hp:p->vs[2]? = some .none) (k:∀ h' T,s.heap.objs.size<=T->Fly p h' e T cls d (rawInt L)->Kp [e] (frs (env::outer)) s.heap h'->Q () { s with heap:=h' }):wpAny M A (noteFrame (.ref e) env) Q E s:=by unfold noteFrame;simp only [hf];refine ua (uB he rfl hv ?_);rw [ub (by decide)];exact X7 hfr hl hf he (u6.mp hv).1 hp k
theorem X8 {base:Heap}{env:Env}{outer:List Env} (hfr:A.frames=some (env::outer)) (hl:s.heap.FunFrames base (env::outer)) (hf:env.frame=some L) (F:Fly p s.heap e T cls d .none) (k:∀ h' T',s.heap.objs.size<=T'->Fly p h' e T' cls d (rawInt L)->Kp [T,e] (frs (env::outer)) s.heap h'->Q () { s with heap:=h' }):wpAny M A (noteFrame (.ref e) env) Q E s:=by
 obtain⟨sl,vs,oT,ts,he,hv,tn,hT,hd,h3,hp⟩:=F;unfold noteFrame;simp only [hf];refine ua (uB he rfl hv ?_);rw [ud (show(Value.ref T != Value.none)=true by simp)];refine ua (uB hT hd h3 ?_);rw [ub (show ¬ (Value.none == rawInt L)=true by simp [rawInt])];refine ua (UE hT hd (u6.mp h3).1 ?_);have oth:∀ b,b≠T->(s.heap.update T (Obj.mapFields (·.setIfInBounds 3 Value.none))).get? b=s.heap.get? b:=λb hb=>ux _ _ (Ne.symm hb);have nT:∀ b o,s.heap.get? b=some o->(∀ ws,o.data≠.fields ws)->b≠T:=λb o q hn z=>by rw [z,hT] at q;cases q;exact hn ts hd
 have hsz:(s.heap.update T (Obj.mapFields (·.setIfInBounds 3 Value.none))).objs.size=s.heap.objs.size:=(GQ s.heap T _).1;refine X7 (base:=base) hfr (hl.of_keeps λb o q hn=>⟨o,(oth b (nT b o q hn)).trans q,rfl⟩) hf ((oth e (Ne.symm tn)).trans he) (u6.mp hv).1 hp λh' T' g1 g2 g3=>?_;refine k h' T' (by rw [← hsz];exact g1) g2 ⟨λb o hb hfs q=>?_,λb o hb q=>?_⟩
 ·exact g3.keep b o (λz=>hb (uQ _ z)) hfs ((oth b λz=>hb (by simp [z])).trans q)
 ·exact g3.slot b o (λz=>hb (uQ _ z)) ((oth b λz=>hb (by simp [z])).trans q)
theorem wJ (F:Fly p s.heap e T cls d fl)(k:∀ h',Fly p h' e T cls d .none->Kp [T] [] s.heap h'->h'.objs.size=s.heap.objs.size->Q () { s with heap:=h' }):wpAny M A (setFlight (.ref e) none) Q E s:=by obtain⟨sl,vs,oT,ts,he,hv,tn,hT,hd,h3,hp⟩:=F;have h3':=(u6.mp h3).1;unfold setFlight;refine ua (uB he rfl hv ?_);rw [ud (show(Value.ref T != Value.none)=true by simp)];have oth:∀ b,b≠T->(s.heap.update T (Obj.mapFields (·.setIfInBounds 3 Value.none))).get? b=s.heap.get? b:=λb hb=>ux _ _ (Ne.symm hb);refine UE hT hd h3' (k _ ⟨sl,vs,_,_,(oth e (Ne.symm tn)).trans he,hv,tn,uT _ hT (GG (UW hd _)),UW hd _,by simp [h3'],hp⟩ ?_ (GQ s.heap T _).1);exact⟨λb o hb _ q=>(oth b λz=>hb (by simp [z])).trans q,λb o hb q=>⟨o.slots,(oth b λz=>hb (by simp [z])).trans q⟩⟩
theorem Jo {env:Env}{L e T:Addr}{cls:Value}{d:Option Addr}{p:Prop}{Q:Unit->Shared->Prop}(hf:env.frame=some L)(F:Fly p s.heap e T cls d (rawInt L))(k:Q () s):wpAny M A (noteFrame (.ref e) env) Q E s:=by obtain⟨sl,vs,oT,ts,he,hv,tn,hT,hd,h3,hp⟩:=F;unfold noteFrame;simp only [hf];refine ua (uB he rfl hv ?_);rw [ud (show(Value.ref T != Value.none)=true by simp)];refine ua (uB hT hd h3 ?_);rw [ud (show(rawInt L == rawInt L)=true from Uo _)];exact uc k
theorem zdf {env:Env}{L e T:Addr}{cls fl:Value}{d:Option Addr}{p:Prop}{Q:Unit->Shared->Prop}(hf:env.frame=some L)(F:Fly p s.heap e T cls d fl)(k:∀ h',Fly p h' e T cls d (rawInt L)->Kp [T] [] s.heap h'->Q () { s with heap:=h' }):wpAny M A (setFlight (.ref e) env.frame) Q E s:=by obtain⟨sl,vs,oT,ts,he,hv,tn,hT,hd,h3,hp⟩:=F;have h3':=(u6.mp h3).1;unfold setFlight;rw [hf];refine ua (uB he rfl hv ?_);rw [ud (show(Value.ref T != Value.none)=true by simp)];have oth:∀ b,b≠T->(s.heap.update T (Obj.mapFields (·.setIfInBounds 3 (rawInt L)))).get? b=s.heap.get? b:=λb hb=>ux _ _ (Ne.symm hb);refine UE hT hd h3' (k _ ⟨sl,vs,_,_,(oth e (Ne.symm tn)).trans he,hv,tn,uT _ hT (GG (UW hd _)),UW hd _,by simp [h3'],hp⟩ ?_);exact⟨λb o hb _ q=>(oth b λz=>hb (by simp [z])).trans q,λb o hb q=>⟨o.slots,(oth b λz=>hb (by simp [z])).trans q⟩⟩
theorem zat {env:Env}{L e T:Addr}{cls:Value}{d:Option Addr}{p:Prop}{Q:Unit->Shared->Prop}(hf:env.frame=some L)(F:Fly p s.heap e T cls d (rawInt L))(k:∀ h',Fly p h' e T cls d .none->Kp [T] [] s.heap h'->Q () { s with heap:=h' }):wpAny M A (leaving env (.ref e)) Q E s:=by unfold leaving;exact ua (Jo hf F (wJ F λh2 f1 f2 f3=>k h2 f1 f2))
theorem YR {base:Heap}{env:Env}{outer:List Env} (hfr:A.frames=some (env::outer)) (hl:s.heap.FunFrames base (env::outer)) (hf:env.frame=some L) (he:s.heap.get? e=some ⟨cls,d,.fields vs,sl⟩) (hv:vs[1]? = some .none) (hp:p->vs[2]? = some .none) (k:∀ h' T,s.heap.objs.size<=T->Fly p h' e T cls d .none->Kp [e] (frs (env::outer)) s.heap h'->Q () { s with heap:=h' }):wpAny M A (leaving env (.ref e)) Q E s:=by
 unfold leaving;refine ua (Qb hfr hl hf he hv hp λh1 T g1 g2 g3=>wJ (s:={ s with heap:=h1 }) g2 λh2 f1 f2 f3=>k h2 T g1 f1 ⟨λb o hb hfs q=>?_,λb o hb q=>?_⟩)
 all_goals
  have hbT:b≠T:=λz=>absurd (uf q) (by rw [z];exact Gh.mpr g1)
 ·exact f2.keep b o (by simpa using hbT) (by simp) (g3.keep b o hb hfs q)
 ·obtain⟨sl',q'⟩:=g3.slot b o hb q;obtain⟨sl2,q2⟩:=f2.slot b _ (by simpa using hbT) q';exact⟨sl2,q2⟩
theorem zau {base:Heap}{env:Env}{outer:List Env} (hfr:A.frames=some (env::outer)) (hl:s.heap.FunFrames base (env::outer)) (hf:env.frame=some L) (F:Fly p s.heap e T cls d .none) (k:∀ h' T',s.heap.objs.size<=T'->Fly p h' e T' cls d .none->Kp [T,e] (frs (env::outer)) s.heap h'->Q () { s with heap:=h' }):wpAny M A (leaving env (.ref e)) Q E s:=by
 unfold leaving;refine ua (X8 hfr hl hf F λh1 T' g1 g2 g3=>wJ (s:={ s with heap:=h1 }) g2 λh2 f1 f2 f3=>k h2 T' g1 f1 ⟨λb o hb hfs q=>?_,λb o hb q=>?_⟩)
 all_goals
  have hbT:b≠T':=λz=>absurd (uf q) (by rw [z];exact Gh.mpr g1)
 ·exact f2.keep b o (by simpa using hbT) (by simp) (g3.keep b o hb hfs q)
 ·obtain⟨sl',q'⟩:=g3.slot b o hb q;obtain⟨sl2,q2⟩:=f2.slot b _ (by simpa using hbT) q';exact⟨sl2,q2⟩
end
end L2
namespace L2
open PySem PySem.Spec PySem.Calls PyProof.Rows PySem.W
noncomputable abbrev vBM:Lf:=[.type "ValueError",.type "Exception",.type "BaseException",.type "object"]
noncomputable def bNew:Option Value->Bool
 | some (.builtin n)=>n == "ValueError.__new__"
 | _=>false
noncomputable def mro1 (K:Frag)(C:Addr):Lf->Bool
 | []=>false
 | v::m=>valR C v&&tailIn K vBM m
where valR (C:Addr):Value->Bool
 | .ref B=>B == C
 | _=>false
noncomputable def clsO:Data->Option ClassData
 | .cls c=>some c
 | _=>none
noncomputable def vg (K:Frag)(C:Addr):Bool:=(K.lookup C).any λo=>o.cls == .type "type"&&(clsO o.data).any λc=>!c.hasDel&&nsOkIn K c.ns&&mro1 K C c.mro&&(o.slots.toList.length == 6&&(o.slots.toList[4]?).any bNew)
noncomputable def J9 (K:Frag)(C:Addr):Option (Option Value):=(clsIn K C).bind λc=>nsIn K c.ns "__init__"
theorem zav {K:Frag}{h:Heap}(X:K.In h)(e:nsOkIn K N=true)(q:nsIn K N x=some (some v)):h.nsMap N x=some v:=by
 obtain⟨o,es,ep,ho,hd,_,hf⟩:=(Heap.Ns.of_isNs (isNs_of_in X e):h.Ns N (h.nsMap N))
 unfold nsIn at q;split at q
 ·rename_i c d es' n' sl z;have:=X _ _ z;rw [ho] at this;cases this;cases hd;split at q
  ·rename_i en he;rw [← hf];unfold nsFind findBy;rw [← Array.find?_toList,he];cases q;rfl
  ·split at q<;>cases q
 ·cases q
theorem zbW {α:Type}{o:Option α}{p:α->Bool}(h:o.any p=true):∃ a,o=some a/\p a=true:=by
 cases o with
 | none=>cases h
 | some a=>exact⟨a,rfl,h⟩
theorem zgy (h:clsO d=some c):d=.cls c:=by
 cases d with
 | cls c'=>cases h;rfl
 | _=>exact nomatch (show none=some c from h)
theorem zgz (h:bNew v=true):v=some (.builtin "ValueError.__new__"):=by
 cases v with
 | none=>cases h
 | some v=>
  cases v with
  | builtin n=>exact congrArg (λn=>some (Value.builtin n)) (u4.mp h)
  | _=>exact nomatch (show false=true from h)
theorem ziC {K:Frag}{C:Addr}{l:Lf}(h:mro1 K C l=true):∃ m,l=.ref C::m/\tailIn K vBM m=true:=by
 cases l with
 | nil=>cases h
 | cons v m=>
  obtain⟨h,ht⟩:=(uG _ _).mp h;cases v with
  | ref B=>exact⟨m,by rw [show B=C from u4.mp h],ht⟩
  | _=>exact nomatch (show false=true from h)
theorem six_is {l:List (Option Value)}(h:l.length=6)(h4:(l[4]?).any bNew=true):∃ a b c d f,l=[a,b,c,d,some (.builtin "ValueError.__new__"),f]:=by
 obtain _ | ⟨a,_ | ⟨b,_ | ⟨c,_ | ⟨d,_ | ⟨e,_ | ⟨f,_ | ⟨g,l⟩⟩⟩⟩⟩⟩⟩:=l
 ·cases h
 ·cases h
 ·cases h
 ·cases h
 ·cases h
 ·cases h
 ·exact⟨a,b,c,d,f,by rw [zgz h4]⟩
 ·cases h
theorem kT {K:Frag}{h:Heap}{C:Addr}(X:K.In h)(e:vg K C=true):∃ nm q N bs bm hd sn sub ab col dd k0 k1 k2 k3 k5 cd, h.get? C=some (excClassObj nm q C N bs bm hd sn sub ab col dd k0 k1 k2 k3 k5 "ValueError.__new__")/\clsIn K C=some cd/\cd.mro=.ref C::bm/\cd.ns=N/\cd.hasDict=hd/\OwnTail h vBM bm/\nsOkIn K N=true:=by unfold vg at e;obtain⟨o,hl,e⟩:=zbW e;simp only [uG,u4] at e;obtain⟨hc,e⟩:=e;obtain⟨c,hd,e⟩:=zbW e;simp only [uG,u4,Bool.not_eq_true'] at e;obtain⟨⟨⟨hdel,hok⟩,hm⟩,h6,h4⟩:=e;have hd:o.data=.cls c:=zgy hd;obtain⟨oc,od,oda,⟨osl⟩⟩:=o;subst hc hd;obtain⟨k0,k1,k2,k3,k5,rfl⟩:=six_is h6 h4;obtain⟨nm,bs,mro,ns,qn,hdc,sn,sub,ab,col,del⟩:=c;obtain⟨m,hm,ht⟩:=ziC hm;dsimp only at hm hdel hok;subst hm hdel;exact⟨nm,qn,ns,bs,m,hdc,sn,sub,ab,col,od,k0,k1,k2,k3,k5,⟨nm,bs,.ref C::m,ns,qn,hdc,sn,sub,ab,col,false⟩,X _ _ hl,by unfold clsIn;rw [hl],rfl,rfl,rfl,tail_of_in X ht,hok⟩
section
variable {prog:Program} {w:World} {A:Around} {E:Value->Shared->Prop} {K:Frag} {C:Addr}
theorem zgA {h:Heap}{g:Array GenState}{d:Drawn}{t:Nat}{os:OsState}{rest:Lf}{fI:Addr}{oI:Obj}{Q:Fin->Shared->Prop}(X:K.In h)(e:vg K C=true)(hi:J9 K C=some (some (.ref fI)))(hf:K.lookup fI=some oI) (hfc:oI.cls=.type "function") (hr:rest.length<=sizeLine) (hq:∀ h' x,h.objs.size<=x->Heap.MadeExcOf h h' x (.ref C) rest->wpAny (model prog w) A (call (.ref fI) (.ref x::rest)) (λr s'=>r=.none/\Q (.done (.ret (.ref x))) s') E ⟨h',g,d,t,os⟩) : wpAny (model prog w) A (Builtin.«type.__call__» ⟨.ref C::rest,[]⟩) Q E ⟨h,g,d,t,os⟩:=by
 obtain⟨nm,q,N,bs,bm,hd,sn,sub,ab,col,dd,k0,k1,k2,k3,k5,cd,hC,hcd,hmro,hns,_,T,hok⟩:=kT X e;have F:=GN;have hi':nsIn K N "__init__" = some (some (.ref fI)):=by unfold J9 at hi;rw [hcd] at hi;rw [← hns];exact hi
 have hn:h.Ns N (h.nsMap N):=Heap.Ns.of_isNs (isNs_of_in X hok);have hm:=zav X hok hi';have hfI:=X _ _ hf;generalize h.nsMap N=mN at hn hm
 repeat (first | (with_reducible refine uI hC ?_) | (with_reducible refine wpAny_madeBy_exc hC ?_) | wp_step)
 refine codeAny_call_builtin_code (Code.quiet_builtin _ F.quiet) (wpAny_check_new_subT F T hC (codeAny_exc_new_subT F T hC ?_ hr));show wpAny (model prog w) _ _ _ _ _;have up:∀ b o,h.get? b=some o->((h.push ({ cls:=.type "tuple",data:=.seq rest.toArray }:Obj)).push ({ cls:=.ref C,data:=.fields #[.ref h.objs.size,.none,.none,.none,.bool false,.none] }:Obj)).get? b=some o:=λb o z=>ue ({ cls:=.ref C,data:=.fields #[.ref h.objs.size,.none,.none,.none,.bool false,.none] }:Obj) (ue ({ cls:=.type "tuple",data:=.seq rest.toArray }:Obj) z);have hC1:=up _ _ hC;have hfI1:=up _ _ hfI;have hn1:((h.push ({ cls:=.type "tuple",data:=.seq rest.toArray }:Obj)).push ({ cls:=.ref C,data:=.fields #[.ref h.objs.size,.none,.none,.none,.bool false,.none] }:Obj)).Ns N mN:=hn.keeps up;have T1:=T.keeps up;have hget:((h.push ({ cls:=.type "tuple",data:=.seq rest.toArray }:Obj)).push ({ cls:=.ref C,data:=.fields #[.ref h.objs.size,.none,.none,.none,.bool false,.none] }:Obj)).get? (h.objs.size+1)=some ({ cls:=.ref C,data:=.fields #[.ref h.objs.size,.none,.none,.none,.bool false,.none] }:Obj):=by have:=uz (h.push ({ cls:=.type "tuple",data:=.seq rest.toArray }:Obj)) (o:=({ cls:=.ref C,data:=.fields #[.ref h.objs.size,.none,.none,.none,.bool false,.none] }:Obj)) rfl;rwa [gb] at this
 have hcC:(Value.ref C::bm).contains (.ref C)=true:=by simp
 unfold isInstance
 repeat (first | (with_reducible refine uI hget ?_) | (with_reducible refine UU hC1 ?_;rw [hcC]) | wp_step)
 show wpAny (model prog w) _ (typeLookup (.ref C) _) _ _ _;refine wpAny_typeLookup_tail hC1 hn1 T1 F.mroIs F.init.lookup ?_;rw [hm];refine uK (ua ?_);unfold bindSpecial;refine ua (UJ (T:="function") ⟨_,hfI1,hfc⟩ ?_);rw [ud (by decide)];refine uc (ua (uj (hq _ (h.objs.size+1) (UP _) ⟨up,gk (UP _),h.objs.size,hget,gk (ui _),?_⟩) (λr s' z=>?_) λ_ _ z=>z))
 ·exact ue _ (uz h rfl)
 ·obtain⟨rfl,z⟩:=z
  wp_walk;exact z
theorem YS {s:Shared}{rest:Lf}{oI:Obj}(X:K.In s.heap)(e:vg K C=true)(hi:J9 K C=some (some (.ref fI)))(hf:K.lookup fI=some oI)(hfc:oI.cls=.type "function")(hr:rest.length<=sizeLine) (hq:∀ h' x,s.heap.objs.size<=x->Heap.MadeExcOf s.heap h' x (.ref C) rest->wpAny (model prog w) (A.under (.builtin "type.__call__" ⟨.ref C::rest,[]⟩)) (call (.ref fI) (.ref x::rest)) (λr s'=>r=.none/\Q (.ref x) s') E { s with heap:=h' }) : wpAny (model prog w) A (call (.ref C) rest) Q E s:=by
 obtain⟨h,g,d,t,os⟩:=s;obtain⟨nm,q,N,bs,bm,hd,sn,sub,ab,col,dd,k0,k1,k2,k3,k5,cd,hC,_⟩:=kT X e;have f1:=tc_lookup;have f2:=tc_bind (.ref C);have hT:(⟨h,g,d,t,os⟩:Shared).TypeIs (.ref C) "type":=⟨_,hC,rfl⟩
 refine Ua (codeAny_of_tree ?_);show wpAny (model prog w) _ (callAny (.ref C) _) _ _ _
 repeat (any_goals (first | assumption | (with_reducible refine uI hC ?_) | wp_step))
 exact⟨rfl,codeAny_call_builtin_at (Code.quiet_builtin _ (by decide +kernel)) entry_typeCall (wpAny_check_type_call_sub hC (zgA X e hi hf hfc hr λh' x y z=>hq h' x y z))⟩
end
end L2
namespace L2
open PySem PySem.Spec PySem.Calls PyProof.Rows PySem.W Builtin Builtin.ObjectAttr
section
variable {prog:Program} {w:World} {A:Around} {E:Value->Shared->Prop} {K:Frag} {C x:Addr} {s:Shared}
theorem zel {rest:Lf}{vs:Array Value}(X:K.In s.heap)(e:vg K C=true)(hx:s.heap.get? x=some ⟨.ref C,dd,.fields vs,sl⟩)(h0:vs[0]? = some (.ref t0))(hr:rest.length<=sizeLine) (hq:∀ h',(∀ b o,b≠x->s.heap.get? b=some o->h'.get? b=some o)->h'.get? x=some ⟨.ref C,dd,.fields (vs.setIfInBounds 0 (.ref s.heap.objs.size)),sl⟩->Q .none { s with heap:=h' }) : wpAny (model prog w) A (call (.builtin "ValueError.__init__") (.ref x::rest)) Q E s:=by
 obtain⟨h,g,d,t,os⟩:=s;obtain⟨nm,q,N,bs,bm,hd,sn,sub,ab,col,dd',k0,k1,k2,k3,k5,cd,hC,hcd,hmro,hns,_,T,hok⟩:=kT X e;have F:=GN;refine Ua (gm F.init.plain F.initEntry (wpAny_check_init_subT F T hC hx rfl ?_));have hx1:(h.push ({ cls:=.type "tuple",data:=.seq rest.toArray }:Obj)).get? x=some ⟨.ref C,dd,.fields vs,sl⟩:=ue _ hx;have hz:0<vs.size:=(u6.mp h0).1
 repeat (first | (with_reducible refine uB hx1 rfl h0 ?_) | (with_reducible refine UE hx1 rfl hz ?_) | wp_step)
 refine hq _ (λb o hb z=>?_) ?_
 ·exact(ux _ _ (Ne.symm hb)).trans (ue _ z)
 ·exact uT _ hx1 rfl
theorem zgB {self:Value}(T:OwnTail h vBM l):refuseLoop self "__setattr__" l=pure ():=by
 induction T with
 | base=>exact PySem.F.store_ValueError.passes self
 | own _ _ _ _ ih=>rw [refuseLoop_ref];exact ih
theorem zbX {name:Str}(X:K.In s.heap)(I:InstAt s.heap x ox C od)(e:vg K C=true)(ha:findIn K (.ref C) name=some none)
  (h:∀ b,wpAny (model prog w) A.in1 (storeInOwnDict (.ref x) (.ref C) (.str name tk) name v b)
   (λfin s'=>match fin with | .done f=>R (.ok f) s' | .again c'=>c'.quiet=true/\codeAny (model prog w) A c' R s') (λe s'=>R (.error e) s') s) :
  codeAny (model prog w) A (.call (.builtin "object.__setattr__") ⟨[.ref x,.str name tk,v],[]⟩) R s:=by
 have SF:=PySem.F.store_object
 obtain⟨nm,q,N,bs,bm,hd,sn,sub,ab,col,dd',k0,k1,k2,k3,k5,cd,hC,hcd,hmro,hns,_,T,hok⟩:=kT X e
 have hobj:cd.mro.contains (.type "object")=true:=by rw [hmro,UZ,T.hasType (X:="object") (b:=true) (by decide +kernel),gJ]
 have sub:Looks (model prog w) s.heap (isInstance (.ref x) (.type "object")) true:=I.type.andThen (g8 X (by unfold mroIn;rw [hcd,UR,ub (by rw [hmro];simp),hobj]))
 refine gm SF.slot.plain SF.entry (@check_slot (model prog w) _ _ s "object.__setattr__" "object" "__setattr__" (.ref x) [.str name tk,v] [] _ SF.kind SF.split sub (SF.args (.ref x) (.str name tk) v) ?_)
 have hm:Looks (model prog w) s.heap (mroOf (.ref C)) cd.mro:=(looks_clsIn X hcd).andThen .now
 rw [osa_eq,refuse_eq]
 refine ua (ua (I.type.here (ua (hm.here ?_))))
 rw [hmro,refuseLoop_ref,zgB T]
 exact uc (ua (I.type.here (ua ((gP X ha).here (ua (uc (h _)))))))
theorem YT {ns:Lh}{name:Str}(hns:s.heap.Ns1 d mA)(hw:Within mA ns)(hz:ns.length<sizeLine) (hq:∀ h' tk',h'.Ns1 d (λy=>if y=name then some v else mA y)->Heap.SameBut d s.heap h'->Q (.done (.ret .none)) { s with heap:=h',toks:=tk' }):wpAny M A (storeInDict d (.str name tk) name v) Q E s:=by obtain⟨h,g,dr,t,os⟩:=s;unfold storeInDict newKeyGuard;refine ua (uc (ua (wpAny_nsSet1 hns λh' hn' hs=>?_)));obtain⟨oD,es,ep,ho,hd,hc⟩:=hn'.count (Within.cons name v hw);refine ua (wpAny_lookBehind ho (by rw [hd];exact pastItsLine_dict (uJ hc (by rw [uq];lia))) ?_);exact uc (hq h' _ hn' hs)
theorem zgC (X:K.In s.heap)(hx:s.heap.get? x=some ⟨.ref C,none,.fields vs,sl⟩)(e:vg K C=true)(hh:hasDictIn K C=true) (hq:Q (some s.heap.objs.size) { s with heap:=(s.heap.push ({ cls:=.type "dict",data:=.dict #[] }:Obj)).update x λo=>{ cls:=o.cls,dict:=some s.heap.objs.size,data:=o.data,slots:=o.slots } }):wpAny M A (ownDictForStores (.ref x)) Q E s:=by
 obtain⟨h,g,dr,t,os⟩:=s;obtain⟨nm,q,N,bs,bm,hd,sn,sub,ab,col,dd',k0,k1,k2,k3,k5,cd,hC,hcd,hmro,hns,hdd,T,hok⟩:=kT X e;have hT:hd=true:=by obtain⟨cd',hc',hd'⟩:=gy hh;rw [hcd] at hc';cases hc';rw [← hdd];exact hd'
 subst hT;have hx1:(h.push ({ cls:=.type "dict",data:=.dict #[] }:Obj)).get? x=some ⟨.ref C,none,.fields vs,sl⟩:=ue _ hx
 repeat (first | (with_reducible refine uI hx ?_) | (with_reducible refine uI hC ?_) | (with_reducible refine wpAny_update' hx1 ?_) | wp_step)
 exact hq
theorem zgD (X:K.In s.heap)(hx:s.heap.get? x=some ⟨.ref C,some d,.fields vs,sl⟩)(e:vg K C=true)(hh:hasDictIn K C=true) (hq:Q (some d) s):wpAny M A (ownDictForStores (.ref x)) Q E s:=by
 obtain⟨h,g,dr,t,os⟩:=s;obtain⟨nm,q,N,bs,bm,hd,sn,sub,ab,col,dd',k0,k1,k2,k3,k5,cd,hC,hcd,hmro,hns,hdd,T,hok⟩:=kT X e;have hT:hd=true:=by obtain⟨cd',hc',hd'⟩:=gy hh;rw [hcd] at hc';cases hc';rw [← hdd];exact hd'
 subst hT
 repeat (first | (with_reducible refine uI hx ?_) | (with_reducible refine uI hC ?_) | wp_step)
 exact hq
theorem zem {name:Str}(X:K.In s.heap)(hx:s.heap.get? x=some ⟨.ref C,none,.fields vs,sl⟩)(e:vg K C=true)(hh:hasDictIn K C=true) (hsa:findIn K (.ref C) "__setattr__" = some (some (.builtin "object.__setattr__"))) (ha:findIn K (.ref C) name=some none) (hq:∀ h' d tk,s.heap.objs.size<=d->h'.get? x=some ⟨.ref C,some d,.fields vs,sl⟩->h'.Ns1 d (λy=>if y=name then some v else none)->(∀ b o,b≠x->s.heap.get? b=some o->h'.get? b=some o)->Q () { s with heap:=h',toks:=tk }) : wpAny (model prog w) A (setAttr (.ref x) name v) Q E s:=by
 have I:InstAt s.heap x ⟨.ref C,none,.fields vs,sl⟩ C none:=⟨hx,rfl,rfl,trivial⟩
 refine Gk X I hsa (zbX (s:={ s with toks:=s.toks+1 }) X I e ha λb=>?_);have hxs:x≠s.heap.objs.size:=u5 (uf hx);have hx1:(s.heap.push ({ cls:=.type "dict",data:=.dict #[] }:Obj)).get? x=some ⟨.ref C,none,.fields vs,sl⟩:=ue _ hx;unfold storeInOwnDict;refine ua (uc ?_);rw [ub (show ¬ (Value.ref C == Value.type "module")=true from λz=>by cases u4.mp z)];refine ua (zgC (s:={ s with toks:=s.toks+1 }) X hx e hh ?_)
 have hgd:((s.heap.push ({ cls:=.type "dict",data:=.dict #[] }:Obj)).update x λo=>{ cls:=o.cls,dict:=some s.heap.objs.size,data:=o.data,slots:=o.slots }).get? s.heap.objs.size=some ({ cls:=.type "dict",data:=.dict #[] }:Obj):=
  (GR _ _ _ _ hxs.symm).trans (uz _ rfl)
 have hnd:Heap.Ns ((s.heap.push ({ cls:=.type "dict",data:=.dict #[] }:Obj)).update x λo=>{ cls:=o.cls,dict:=some s.heap.objs.size,data:=o.data,slots:=o.slots }) s.heap.objs.size (λ_=>none):=
  ⟨_,#[],_,hgd,rfl,λe he=>absurd he (by simp),λ_=>rfl⟩
 refine YT (ns:=[]) (GZ hnd) Within.nil (by rw [uO];decide) λh' tk' hn hs=>?_;refine hq h' s.heap.objs.size _ (ui _) ((hs.2 x hxs).trans (uT _ hx1 rfl)) hn λb o hb z=>?_;exact(hs.2 b (u5 (uf z))).trans ((GR _ _ _ _ hb).trans (ue _ z))
theorem zen {name:Str}{ns:Lh}(X:K.In s.heap)(hx:s.heap.get? x=some ⟨.ref C,some d,.fields vs,sl⟩)(e:vg K C=true)(hh:hasDictIn K C=true) (hsa:findIn K (.ref C) "__setattr__" = some (some (.builtin "object.__setattr__"))) (ha:findIn K (.ref C) name=some none) (hd:s.heap.Ns1 d mA) (hw:Within mA ns) (hz:ns.length<sizeLine) (hq:∀ h' tk,h'.Ns1 d (λy=>if y=name then some v else mA y)->(∀ b o,b≠d->s.heap.get? b=some o->h'.get? b=some o)->Q () { s with heap:=h',toks:=tk }) : wpAny (model prog w) A (setAttr (.ref x) name v) Q E s:=by
 obtain⟨od,es,ep,hod,hrest⟩:=id hd;have I:InstAt s.heap x ⟨.ref C,some d,.fields vs,sl⟩ C (some od):=⟨hx,rfl,rfl,hod⟩
 refine Gk X I hsa (zbX (s:={ s with toks:=s.toks+1 }) X I e ha λb=>?_);unfold storeInOwnDict;refine ua (uc ?_);rw [ub (show ¬ (Value.ref C == Value.type "module")=true from λz=>by cases u4.mp z)];refine ua (zgD (s:={ s with toks:=s.toks+1 }) X hx e hh ?_);exact YT (s:={ s with toks:=s.toks+1 }) hd hw hz λh' tk' hn hs=>hq h' _ hn λb o hb z=>(hs.2 b hb).trans z
end
structure XCl (K:Frag)(C:Addr):Prop where
 sh:vg K C=true
 hd:hasDictIn K C=true
 ga:findIn K (.ref C) "__getattribute__" = some (some (.builtin "BaseException.__getattribute__"))
 gt:findIn K (.ref C) "__getattr__" = some none
 sa:findIn K (.ref C) "__setattr__" = some (some (.builtin "object.__setattr__"))
 ca:findIn K (.ref C) "__class__" = some (some (.builtin "object.__class__"))
 cg:specialIn K (.builtin "object.__class__") "__get__" = some (some (.builtin "getset_descriptor.__get__"))
 ct:takesIn K (.builtin "object.__class__")=some true
noncomputable def zhF (K:Frag)(C:Addr):Bool:=vg K C&&hasDictIn K C&&findIn K (.ref C) "__getattribute__" == some (some (.builtin "BaseException.__getattribute__"))&&findIn K (.ref C) "__getattr__" == some none && findIn K (.ref C) "__setattr__" == some (some (.builtin "object.__setattr__"))&&findIn K (.ref C) "__class__" == some (some (.builtin "object.__class__"))&&specialIn K (.builtin "object.__class__") "__get__" == some (some (.builtin "getset_descriptor.__get__"))&&takesIn K (.builtin "object.__class__") == some true
theorem ziD {K:Frag}{C:Addr}(e:zhF K C=true):XCl K C:=by simp only [zhF,uG,u4] at e;obtain⟨⟨⟨⟨⟨⟨⟨a,b⟩,c⟩,d⟩,e⟩,f⟩,g⟩,h⟩:=e;exact⟨a,b,c,d,e,f,g,h⟩
theorem XCl.mro {K:Frag}(c:XCl K C)(X:K.In h)(T:String)(ht:vBM.contains (.type T)=true):mroIn K C (.type T)=some true:=by obtain⟨nm,q,N,bs,bm,hd,sn,sub,ab,col,dd',k0,k1,k2,k3,k5,cd,hC,hcd,hmro,hns,hdd,OT,hok⟩:=kT X c.sh;unfold mroIn;rw [hcd,UR,ub (by rw [hmro];simp),hmro,UZ,OT.hasType (X:=T) ht,gJ]
section
variable {prog:Program} {w:World} {A:Around} {E:Value->Shared->Prop} {K:Frag} {C x:Addr} {s:Shared} {ox:Obj} {od:Option Obj} {name:Str} {tk:Tok} {fill expr:Bool}
theorem zeo (X:K.In s.heap)(I:InstAt s.heap x ox C od)(c:XCl K C)
  (h:wpAny (model prog w) A.in1 (Builtin.«object.__getattribute__» ⟨[.ref x,.str name tk],[]⟩) (λfin s'=>match fin with | .done (.ret v)=>wpAny (model prog w) A (handedOut v) Q E s' | _=>False) (λ_ _=>False) s) :
  wpAny (model prog w) A (getAttrBy (.ref x) (.str name tk) fill expr) Q E s:=by
 have L0:=I.type (M:=model prog w)
 unfold getAttrBy
 refine uK (ua (L0.here (ua ((gP X c.ga).here ?_))))
 dsimp only
 have ne:(Value.builtin "BaseException.__getattribute__" == Value.builtin "object.__getattribute__")=false:=by decide +kernel
 rw [ne,U3,ub (by decide)]
 unfold getAttrByItsOwn
 refine ua ((looks_hook (mc:=.ref C) X (r:=none) (by rw [ud (show onTheHeap (.ref C)=true from rfl)];exact c.gt)).here (ua (gi (uK ?_))))
 unfold callGetattribute
 rw [show(expr&&onTheHeap (Value.builtin "BaseException.__getattribute__"))=false from U3 _,ub (by decide)]
 unfold boundAndCalled
 rw [G7.ga.bind]
 refine ua (uc ?_)
 show wpAny _ _ (call (.builtin "BaseException.__getattribute__") [.ref x,.str name tk]) _ _ _
 refine Ua (gm G7.ga.plain PySem.F.entry_bexc_ga ?_)
 refine @check_slot (model prog w) _ _ s "BaseException.__getattribute__" "BaseException" "__getattribute__" (.ref x) [.str name tk] [] _ (by decide +kernel) (by decide +kernel) (L0.andThen (g8 X (c.mro X "BaseException" (by decide +kernel)))) (PySem.F.args_bexc_ga _ _) ?_
 refine uj h (λfin s' z=>?_) λ_ _ z=>z.elim
 rcases fin with(_ | _ | _ | _) | _<;>first | exact z | exact z.elim
theorem zgE (X:K.In s.heap)(I:InstAt s.heap x ox C od)(c:XCl K C)(hf:findObj K C od name=some (.value v))(hh:handedIn v=true)(h:Q v { s with toks:=s.toks+1 }) : wpAny (model prog w) A (getAttr (.ref x) name expr) Q E s:=by refine ua (wpAny_mkText (zeo (s:={ s with toks:=s.toks+1 }) X I c ?_));have L0:=I.type (M:=model prog w);have L1:=looks_find (M:=model prog w) X I hf;unfold Builtin.«object.__getattribute__»;refine ua (uc (ua (uc (ua (L0.here (s:={ s with toks:=s.toks+1 }) (ua (L1.here (s:={ s with toks:=s.toks+1 }) ?_)))))));refine uc ?_;show wpAny _ _ (handedOut v) _ _ _;rw [handedOut_of hh];exact uc h
theorem zdg (X:K.In s.heap)(I:InstAt s.heap x ox C od)(c:XCl K C)(h:Q (some (.ref C)) { s with toks:=s.toks+1 }):wpAny (model prog w) A (getAttr? (.ref x) "__class__") Q E s:=by
 have hf:findObj K C od "__class__" = some (.bind (.builtin "getset_descriptor.__get__") (.builtin "object.__class__")):=by obtain⟨cd,hc,_⟩:=gy c.hd;simp only [findObj,hc,c.ca,c.cg,c.ct,UR]
 refine ua (wpAny_mkText ?_);unfold getAttrBy?;refine ua (gi (zeo (s:={ s with toks:=s.toks+1 }) X I c ?_));have L0:=I.type (M:=model prog w);have L1:=looks_find (M:=model prog w) X I hf;unfold Builtin.«object.__getattribute__»;refine ua (uc (ua (uc (ua (L0.here (s:={ s with toks:=s.toks+1 }) (ua (L1.here (s:={ s with toks:=s.toks+1 }) ?_)))))));show wpAny _ _ (holding [.builtin "object.__class__"] (call (.builtin "getset_descriptor.__get__") [.builtin "object.__class__",.ref x,.ref C]) >>= ret) _ _ _;refine ua (uK (Ua (class_get (s:={ s with toks:=s.toks+1 }) (ox:=ox) (od:=od) X I (c.mro X "object" (by decide +kernel)) ?_)));exact uc (handed_on rfl (uc h))
theorem zbY (c:XCl K C):KitX K (.ref x) (.ref C) (λh=>InstAt h x ox C od) where
 ty:=λ_ _ _ I=>I.type
 it:=λ_ h X _=>by
  obtain⟨nm,q,N,bs,bm,hd,sn,sub,ab,col,dd',k0,k1,k2,k3,k5,cd,hC,_⟩:=kT X c.sh
  intro A' Q' E' s' k z
  unfold isType loadHead
  exact ua (wpAny_loadPart (k _ _ hC) (uc z))
 ne:=λh tp dd its n sl X htp=>by
  obtain⟨nm,q,N,bs,bm,hd,sn,sub,ab,col,dd',k0,k1,k2,k3,k5,cd,hC,_⟩:=kT X c.sh
  refine Gq.mpr λz=>?_
  have e:C=tp:=Ub (u4.mp z)
  subst e
  have y:=uF (hC.symm.trans htp)
  injection y with y1
  injection y1 with y1
  exact absurd y1 (by decide)
 ca:=λX I k=>zdg X I c k
theorem zdh (X:K.In s.heap)(hx:s.heap.get? x=some ox)(hxc:ox.cls=.ref C)(c:XCl K C)(d:XCl K D)(hb:mroIn K C (.ref D)=some b)(h:Q b s):wpAny (model prog w) A (excMatches (.ref x) (.ref D)) Q E s:=by
 obtain⟨nm,q,N,bs,bm,hd,sn,sub,ab,col,dd',k0,k1,k2,k3,k5,cd,hD,hcd,hmro,hns,hdd,OT,hok⟩:=kT X d.sh;obtain⟨hp,g,dr,t,os⟩:=s;have f:=tc_notTuple;have L1:=g8 (M:=model prog w) X hb;have hcB:(Value.ref D::bm).contains (.type "BaseException")=true:=by rw [UZ,OT.hasType (X:="BaseException") (b:=true) (by decide +kernel),gJ]
 have hT:(⟨hp,g,dr,t,os⟩:Shared).TypeIs (.ref D) "type":=⟨_,hD,rfl⟩
 unfold excMatches
 repeat (first | assumption | (with_reducible refine uI hx ?_;rw [hxc]) | (with_reducible refine uI hD ?_) | (with_reducible refine L1.at ?_) | (with_reducible refine UU hD ?_;rw [hcB]) | wp_step)
 cases b<;>(wp_walk;exact h)
theorem X9 (hh:A.handled=none) (h:wpAny (model prog w) A y (λv s₁=>∃ x dd vs sl,v=.ref x/\K.In s₁.heap/\XCl K C/\s₁.heap.get? x=some ⟨.ref C,dd,.fields vs,sl⟩/\vs[1]? = some .none/\E (.ref x) s₁) E s):wpAny (model prog w) A (raiseStmt env (some y) none) Q E s:=by
 unfold raiseStmt;refine ua (uj h (λv s₁ z=>?_) λ_ _ z=>z);obtain⟨x,dd,vs,sl,rfl,X,c,he,h1,hE⟩:=z;obtain⟨nm,q,N,bs,bm,hd,sn,sub,ab,col,dd',k0,k1,k2,k3,k5,cd,hC,hcd,hmro,hns,hdd,OT,hok⟩:=kT X c.sh;obtain⟨hp,g,d,tk,os⟩:=s₁;have hcB:(Value.ref C::bm).contains (.type "BaseException")=true:=by rw [UZ,OT.hasType (X:="BaseException") (b:=true) (by decide +kernel),gJ]
 repeat (first | (with_reducible refine uI he ?_) | (with_reducible refine uI hC ?_) | (with_reducible refine uB he rfl h1 ?_) | (with_reducible refine UU hC ?_;rw [hcB]) | wp_step)
 exact wpAny_raiseNew_none hh hE
end
end L2
namespace L2
open PySem PySem.Spec PyProof.Rows
noncomputable abbrev XS:=Value->Option Addr->St->Hp->Prop
def One (H:Hp)(d:Option Addr):Prop:=∃ a f v,d=some a/\H a=some (.xd [(f,v)])
def Nw (p:Prop)(h:Heap)(e:Addr)(c:Value)(d:Option Addr):Prop:=∃ sl vs,h.get? e=some ⟨c,d,.fields vs,sl⟩/\vs[1]? = some .none/\(p->vs[2]? = some .none)
def Fl (X:Cx)(E:XS)(e:Value)(s':Shared):Prop:=∃ (ea:Addr) (c:Value) (d:Option Addr) (H':Hp) (pins:Lp) (σ:St),e=.ref ea/\Inv X pins σ H' s'/\X.s₀.heap.objs.size<=ea/\H' ea=none/\(∀ q∈X.pn,q.1≠ea) /\ (Nw (One H' d) s'.heap ea c d\/∃ T fl,Fly (One H' d) s'.heap ea T c d fl/\(fl=.none\/∃ L,X.env.frame=some L/\fl=rawInt L)/\X.s₀.heap.objs.size<=T/\H' T=none/\∀ q∈X.pn,q.1≠T)/\E c d σ H'
def Thr (X:Cx)(E:XS):Prop:=∀ e s',Fl X E e s'->X.xe e s'
noncomputable def CXE (P:Program)(w:World):CXT:=λouter H s E e s'=>∃ (ea T:Addr) (c:Value) (d:Option Addr) (H':Hp),e=.ref ea/\s.heap.objs.size<=ea/\s.heap.objs.size<=T/\Fly (One H' d) s'.heap ea T c d .none/\H' ea=none/\H' T=none /\ s'.os=s.os/\AllBare s'.gens/\Un (frs outer) [] H H' s.heap s'.heap/\HOk P w H' s'.heap/\E c d H'
section
variable {X:Cx} {pins:Lp} {σ:St} {H:Hp} {s s':Shared}
theorem Un.kp {h h1 h2:Heap}(u:Un fs [] H H' h h1)(k:Kp ch fs' h1 h2)(hc:∀ b∈ch,h.objs.size<=b)(hf:∀ b∈fs',b∈fs\/h.objs.size<=b):Un fs [] H H' h h2:=by
 have nc:∀ b o,h.get? b=some o->b∉ch:=λb o q z=>absurd (uy (uf q) (hc b z)) (uX _);refine⟨λb o q n hb _=>?_,λb o q n hb _=>?_,u.free,λb o q _=>?_,u.tups,u.frzs,u.tbls⟩
 ·refine k.keep b o (nc b o q) (λz=>?_) (u.keep b o q n hb (by simp));rcases hf b z with z | z
  ·exact hb z
  ·exact absurd (uy (uf q) z) (uX _)
 ·obtain⟨sl,e1⟩:=u.slot b o q n hb (by simp);obtain⟨sl',e2⟩:=k.slot b _ (nc b o q) e1;exact⟨sl',e2⟩
 ·obtain⟨o',e1⟩:=u.there b o q (by simp);obtain⟨sl',e2⟩:=k.slot b _ (nc b o q) e1;exact⟨_,e2⟩
theorem HOk.kp (x:HOk P w H h1)(k:Kp ch fs h1 h2)(hc:∀ b∈ch,H b=none)(hf:∀ b∈fs,H b=none):HOk P w H h2:=λa o q=>
 (x a o q).stay (λb u hb z=>by
  have t:∃ v,H b=some v:=by
   rcases hb with rfl | hb
   ·exact⟨o,q⟩
   ·exact⟨_,hb⟩
  obtain⟨v,t⟩:=t
  exact k.keep b u (λy=>by rw [hc b y] at t;cases t) (λy=>by rw [hf b y] at t;cases t) z) (λ_ z=>z) λ_ _ z=>z
theorem Inv.frame (I:Inv X pins σ H s):X.stack=X.outer\/(X.A.frames=some (X.env::X.outer)/\s.heap.FunFrames X.base (X.env::X.outer)/\X.env.frame=some X.env.locals/\frs (X.env::X.outer)=X.env.locals::X.fs):=by
 rcases I.ok.stk with e | ⟨e,hf⟩
 ·exact .inl e
 ·refine .inr ⟨by rw [← e];exact I.ok.frames,by rw [← e];exact I.stack,hf,?_⟩;unfold frs;rw [gh,hf];rfl
theorem zR {P:Program}{w:World}{K:Le}{mg:La}{base:Heap}{N:Lh}{qual:Str}{scope:Scope}{f:Addr}{cd:Value}{A:Around}{outer:List Env}{s:Shared}{H:Hp}{E:XK} : Thr (cxOf (CXE P w) P w K mg base N qual scope f cd A outer s H E) (λc d _ H'=>E c d H'):=by
 intro e s' hF;obtain⟨ea,c,d,H',pins,σ,rfl,I,hea,hHe,_,hv,hE⟩:=hF;have hst:(cxOf (CXE P w) P w K mg base N qual scope f cd A outer s H E).stack=(cxOf (CXE P w) P w K mg base N qual scope f cd A outer s H E).env::outer:=rfl;have hfr:=I.ok.frames;have hl:=I.stack;have hsub:=I.stkSub;have hfree:=I.stkFree;rw [hst] at hfr hl hsub hfree
 have fin:∀ (h':Heap) (T:Addr) (ch:Ld),(s.heap.objs.size<=T/\H' T=none)->Fly (One H' d) h' ea T c d .none->Kp ch (frs ((cxOf (CXE P w) P w K mg base N qual scope f cd A outer s H E).env::outer)) s'.heap h'->(∀ b∈ch,s.heap.objs.size<=b/\H' b=none) ->
   CXE P w outer H s E (.ref ea) { s' with heap:=h' }:=λh' T ch g1 g2 g3 g4=>by
  refine⟨ea,T,c,d,H',rfl,hea,g1.1,g2,hHe,g1.2,I.os,I.bare,?_,I.hok.kp g3 (λb hb=>(g4 b hb).2) hfree,hE⟩
  refine Un.kp (fs:=frs outer) I.base g3 (λb hb=>(g4 b hb).1) λb hb=>?_
  rcases um.mp (hsub b hb) with z | z
  ·rw [z];exact .inr I.ok.above
  ·exact .inl z
 rcases hv with⟨sl,vs,he,h1,hp⟩ | ⟨T0,fl,hF,hfl,hT,hHT,_⟩
 ·exact YR hfr hl rfl he h1 hp λh' T g1 g2 g3=>fin h' T [ea] ⟨uJ I.sz g1,I.hok.fresh g1⟩ g2 g3 λb hb=>by
   obtain rfl:b=ea:=by simpa using hb
   exact⟨hea,hHe⟩
 ·rcases hfl with hfl | ⟨L,hL,rfl⟩;rotate_left
  ·exact zat hL hF λh2 f1 f2=>fin h2 T0 [T0] ⟨hT,hHT⟩ f1 (f2.mono (λ_ z=>z) λb z=>absurd z (by simp)) λb hb=>by
    obtain rfl:b=T0:=by simpa using hb
    exact⟨hT,hHT⟩
  subst hfl
  exact zau hfr hl rfl hF λh' T g1 g2 g3=>fin h' T [T0,ea] ⟨uJ I.sz g1,I.hok.fresh g1⟩ g2 g3 λb hb=>by
   rcases um.mp hb with z | z
   ·subst z;exact⟨hT,hHT⟩
   ·obtain rfl:b=ea:=by simpa using z
    exact⟨hea,hHe⟩
theorem zgF (I:Inv X pins σ H s)(h:CXE X.prog X.w X.stack H s (λc d H'=>E c d σ H') e s'):Fl X E e s':=by
 obtain⟨ea,T,c,d,H',rfl,h1,h2,hF,n1,n2,ho,hg,hu,hk,hE⟩:=h;have np:∀ a,s.heap.objs.size<=a->∀ q∈X.pn,q.1≠a:=λa z q hq y=>by have:=(I.pin q (uV _ hq)).1;exact absurd (uy (uf this) (y ▸ z)) (uX _)
 exact⟨ea,c,d,H',pins,σ,rfl,I.call' ho hu hk hg (λb z=>absurd z (by simp)),uJ I.sz h1,n1,np ea h1,.inr ⟨T,_,hF,.inl rfl,uJ I.sz h2,n2,np T h2⟩,hE⟩
end
structure OkX (P:Program)(w:World)(K:Le)(mg:La)(base:Heap)(k:Nat)(x:Str)(ps:Lh)(sp:Sp):Prop where
 ex:∃ (f:Addr) (fd:FuncData),PySem.W.keepIn K (.ref f)=true/\Binds K fd ps []/\mg x=some (.ref f)/\FnOk P w K mg base (CXE P w) k f fd ps sp
section
variable {P:Program} {w:World} {K:Le} {mg:La} {base:Heap}
theorem Df.okX {x:Str}{st:Stmt}{ps N:Lh}{k:Nat}{sp:Sp}(D:Df K mg x st ps)(Sc:zj N ps (zf st))(len:∀ vs H Q E,sp vs H Q E->vs.length=ps.length) (hbody:∀ (f:Addr) (cdv:Value) (A:Around) (outer:List Env) (s:Shared) (H:Hp) (vs:List V) (Q:VK) (E:XK),Room k (A.deeper (envOfC x (zf st) s.heap.objs.size f cdv))->sp vs H Q E -> ∃ t,PSs (cxOf (CXE P w) P w K mg base N x (zf st) f cdv A outer s H E) (zZ st) t/\t { nx:=λ_ H'=>Q .non H',rt:=Q } (start N vs) H):OkX P w K mg base (k+1) x ps sp:=by obtain⟨f,fd,F,b,m⟩:=D.ex;refine⟨f,fd,F.kp,b,m,?_⟩;obtain⟨oc,od,kV,doc,pm,an,cdv,ct,osl,rfl,lk,hcd⟩:=F.ex;exact zbQ lk hcd Sc len λA outer s H vs Q E hr h=>hbody f cdv A outer s H vs Q E hr h
end
section
variable {X:Cx} {k j:Nat} {x:Str} {ps:Lh} {sp:Sp} {p pos:Pos} {e:Expr} {es:Lg} {t:TA} {E:XS}
noncomputable def Vy (sp:Sp)(E:XS)(t:TA):TE:=λσ H Q=>t σ H λvs H1=>sp vs H1 Q λc d H'=>E c d σ H'
theorem zbZ {pins:Lp}(F:FnOk X.prog X.w X.K X.mg X.base (CXE X.prog X.w) k f fd ps sp)(hr:Room k X.A)(hb:Binds X.K fd ps [])(hx:Thr X E) (I:Inv X pins σ H s) (r:Vals vs us) (h:sp vs H Q λc d H'=>E c d σ H'):wpAny (model X.prog X.w) X.A (call (.ref f) us) (EP X pins σ Q) X.xe s:=by
 have hl:(us++[]).length=ps.length:=by rw [uw,← r.length];exact F.len _ _ _ _ h
 have hb':=hb s us I.kIn hl;rw [uw] at hb';refine Ua (Ug (F.run X.A X.stack s H ⟨us,[]⟩ us vs Q (λc d H'=>E c d σ H') hr I.env0 hb' r h) λr s' hq=>?_);rcases r with e | (u | _ | _ | _)
 ·exact hx e s' (zgF I hq)
 all_goals first | exact I.after hq | exact False.elim hq
theorem zep (hx:Thr X E)(F:OkX X.prog X.w X.K X.mg X.base k x ps sp)(hr:Room j X.A)(hk:k<=j)(ha:PA X (e::es) t)(hg:Gl X x:=by rfl) (hdb:(x == ("__debug__":Str))=false:=by decide) (he:starEach (e::es) X.env=(false,eval e X.env)::starEach es X.env:=by rfl) (hpl:(backTo pos (starEach es X.env)).any (·.1)=false:=by rfl):PE X (.Call (.Name x p) (e::es) [] pos) (Vy sp E t):=by intro pins s σ H Q I h;obtain⟨f,fd,kp,b,m,G⟩:=F.ex;refine uL (wZ I hg m ?_ hdb);refine Uh (h₀:=X.base) I.ok.mod.kin kp (thn (ha pos pins s σ H _ I h) λus s1 ⟨vs,H1,I1,r,q⟩=>⟨I1.kIn,?_⟩) he hpl;exact zbZ G (hr.mono hk) b hx I1 r q
end
end L2
namespace L2
open PySem PySem.Spec PyProof.Rows PySem.W
noncomputable def ExN (C a:Addr):HO:=.ext λh=>∃ (vs:Array Value) (sl:Array (Option Value)) (t:Addr),h.get? a=some ⟨.ref C,none,.fields vs,sl⟩/\vs[0]? = some (.ref t)/\vs[1]? = some .none/\vs[2]? = some .none/\vs.size=6
noncomputable def ExD (C d a:Addr):HO:=.ext λh=>∃ (vs:Array Value) (sl:Array (Option Value)),h.get? a=some ⟨.ref C,some d,.fields vs,sl⟩/\vs[1]? = some .none/\vs[2]? = some .none/\vs.size=6
theorem ziE (e:H a=some o):upd H a o=H:=by
 funext b;unfold upd;split
 ·rename_i z;rw [z,e]
 ·rfl
section
variable {P:Program} {w:World} {H:Hp} {h:Heap} {C d a:Addr}
theorem zaw (e:h.get? a=some ⟨.ref C,none,.fields vs,sl⟩)(h0:vs[0]? = some (.ref t))(h1:vs[1]? = some .none/\vs[2]? = some .none/\vs.size=6):jj P w H h a (ExN C a):= ⟨⟨vs,sl,t,e,h0,h1⟩,⟨_,e⟩,λ_ _ ⟨vs,sl,t,e,r⟩ k=>⟨vs,sl,t,k _ e,r⟩⟩
theorem ziF (e:h.get? a=some ⟨.ref C,some d,.fields vs,sl⟩)(h1:vs[1]? = some .none/\vs[2]? = some .none/\vs.size=6):jj P w H h a (ExD C d a):= ⟨⟨vs,sl,e,h1⟩,⟨_,e⟩,λ_ _ ⟨vs,sl,e,r⟩ k=>⟨vs,sl,k _ e,r⟩⟩
end
section
variable {X:Cx} {C B:Addr} {b self name:Str} {e a1:Expr} {es:Lg} {te:TE} {t:TA} {np p1 apos cpos pos pos':Pos} {i:Nat}
noncomputable def Va (C:Addr):List V->Hp->VK->Prop:=λxs H Q=>∃ a v,xs=[.ref a,v]/\H a=some (ExN C a)/\Q .non H
theorem zdi (c:XCl X.K C):jV X (.builtin "ValueError.__init__") (Va C):=by
 intro pins s σ H xs us Q I r h;obtain⟨a,v,rfl,ea,q⟩:=h;obtain⟨u1,u2,rfl,r1,r2⟩:=vals2 r;obtain rfl:u1=Value.ref a:=r1;obtain⟨⟨vs,sl,t,e,h0,h1⟩,_⟩:=I.hok a _ ea;refine zel I.kIn c.sh e h0 (by show 1<=_;rw [uO];decide) λh' k z=>⟨.non,H,?_,rfl,q⟩
 have I':=I.write (x:=a) (e:=a) (o:=ExN C a) (h':=h') (t':=s.toks) (by rw [ea];exact True.intro) (.inl rfl) k ⟨_,z⟩ (zaw (t:=s.heap.objs.size) z (by
  have:0<vs.size:=(u6.mp h0).1
  simp [this]) (by simpa [UL] using h1))
 rw [ziE ea] at I';exact I'
noncomputable def upIn (K:Frag)(B:Addr):Bool:=specialIn K (.ref B) "__getattribute__" == some (some (.builtin "type.__getattribute__"))&&readsIn K B (.type "type")&&(match findCls K (.ref B) (.type "type") "__init__" with | some (.val v)=>v == .builtin "ValueError.__init__" | _=>false)
theorem QQ (hm:X.mg b=some (.ref B))(hu:upIn X.K B=true)(c:XCl X.K C)(ha:PA X (a1::es) t)(hg:Gl X b:=by rfl) (hd:(b == ("__debug__":Str))=false:=by decide)
  (hst:starEach (a1::es) X.env=(false,eval a1 X.env)::starEach es X.env:=by rfl) (hpl:(backTo cpos (starEach es X.env)).any (·.1)=false:=by rfl)
  (ht:eval (.Call (.Attribute (.Name b np) "__init__" apos) (a1::es) [] cpos) X.env=(do
   let ov ← eval (.Name b np) X.env
   standAt apos.atName
   let (f,first) ← holding [ov] (getMethod ov "__init__" pl)
   callWith cpos f first (backTo cpos (starEach (a1::es) X.env)) (backToKw cpos (keywordEach [] X.env))):=by rfl):PE X (.Call (.Attribute (.Name b np) "__init__" apos) (a1::es) [] cpos) (tCB (Va C) t):=by
 intro pins s σ H Q I h
 simp only [upIn,uG,u4] at hu
 obtain⟨⟨u1,u2⟩,u3⟩:=hu
 split at u3
 ·rename_i v hv
  obtain rfl:v=.builtin "ValueError.__init__":=u4.mp u3
  refine UN (pl:=pl) (wZ I hg hm (method_cls I.kIn u1 (cls_value I.kIn u2 hv rfl ?_)) hd) ht
  exact callWith_builtin1 (thn (ha cpos pins _ σ H _ (I.tok _) h) λus s1 ⟨vs,H1,I1,r1,q1⟩=>zdi c pins s1 σ H1 vs us Q I1 r1 q1) hst hpl
 ·cases u3
noncomputable def YU (K:Frag)(C:Addr)(ta tv:TE)(name:Str):TS:=λD σ H=>tv σ H λy H1=>ta σ H1 λx H2=>∃ a,x=.ref a/\H2 a=some (ExN C a)/\∀ d,H2 d=none->d≠a->D.nx σ (upd (upd H2 a (ExD C d a)) d (.xd [(name,y)]))
theorem QR {o value:Expr}(c:XCl X.K C)(hn:findIn X.K (.ref C) name=some none)(ha:PE X o ta)(hv:PE X value tv)(hs:swapsWith value (some (.Attribute o name pos')) pos.line X.env=pure false:=by rfl) : PS X (.Assign [.Attribute o name pos'] value pos) (YU X.K C ta tv name):=by
 intro pins s σ H D I h;refine US (thn (hv pins s σ H _ I h) λu s1 ⟨y,H1,I1,ry,q⟩=>thn (ha pins s1 σ H1 _ I1 q) λov s2 zq=>?_) hs;obtain⟨x,H2,I2,rx,a,ex,ea,q2⟩:=zq;subst ex;obtain rfl:ov=Value.ref a:=rx;obtain⟨⟨vs,sl,t,e,h0,h1⟩,_⟩:=I2.hok a _ ea;refine zem I2.kIn e c.sh c.hd c.sa hn λh' d tk g1 g2 g3 g4=>?_;have hn:=I2.hok.fresh g1;have nd:d≠a:=λz=>by rw [z,ea] at hn;cases hn
 refine⟨σ,_,?_,q2 d hn nd⟩
 have u:Un X.fs [] H2 (upd (upd H2 a (ExD C d a)) d (.xd [(name,y)])) s2.heap h':=by
  have na:∀ b,H2 b=none->b≠a:=λb z y=>by rw [y,ea] at z;cases z
  have nd':∀ b o,s2.heap.get? b=some o->b≠d:=λb o z y=>absurd (uy (uf z) (y ▸ g1)) (uX _);have nx:∀ b o,H2 b=some o->b≠d:=λb o z y=>by rw [y,hn] at z;cases z
  refine⟨λb o z n _ _=>g4 b o (na b n) z,λb o z n _ _=>⟨o.slots,g4 b o (na b n) z⟩,λb o z n _=>by rw [zl (nd' b o z),zl (na b n)];exact n,λb o z _=>?_,λb xs z=>?_,λb o u z=>?_,λb ps z=>⟨#[],?_⟩⟩
  ·by_cases hb:b=a
   ·rw [hb];exact⟨_,g2⟩
   ·exact⟨o,g4 b o hb z⟩
  all_goals
   have nb:b≠a:=λy=>by rw [y,ea] at z;cases z
   rw [zl (nx b _ z),zl nb,z]
  simp
 refine I2.un u λb o z=>?_;by_cases hb:b=d
 ·subst hb;rw [zb] at z;cases z;refine⟨_,g3,λf=>?_⟩;by_cases hf:f=name
  ·subst hf;simp only [ud];simpa [List.lookup,RelO] using ry
  ·have:(f == name)=false:=uM.mpr hf;simp only [ub hf,List.lookup,this];trivial
 ·rw [zl hb] at z;by_cases hb2:b=a
  ·subst hb2;rw [zb] at z;cases z;exact ziF g2 h1
  ·rw [zl hb2] at z;have nown:∀ c y,H2 c=some (.own y)->c≠a:=λc y r q=>by rw [q,ea] at r;cases r
   have ntup:∀ c y,H2 c=some (.tup y)->c≠a:=λc y r q=>by rw [q,ea] at r;cases r
   have nx:∀ b o,H2 b=some o->b≠d:=λb o z y=>by rw [y,hn] at z;cases z
   refine(I2.hok b o z).stay (λc v hc q=>g4 c v ?_ q) (λc q=>by rw [zl (nx c _ q),zl (nown c _ q)];exact q) λc xs q=>by rw [zl (nx c _ q),zl (ntup c _ q)];exact q
   rcases hc with rfl | hc
   ·exact hb2
   ·exact nown c _ hc
noncomputable def tFs (te:TE):TE:=λσ H Q=>te σ H λv H1=>((∃ n:Int,v=.int n/\0<=n/\n<1000000)\/∃ z:Str,v=.str z/\z.length<=1000000)/\∀ y,Q (.str y) H1
theorem zeq {a:Str}(he:PE X e te)(ha:a.length<=1000:=by decide +kernel):PE X (.JoinedStr [.Constant (.str a) j q1,.FormattedValue e (-1) none q2] q3) (tFs te):=by
 intro pins s σ H Q I h;refine JoinedStr_many (GH (Calls.Constant_str ⟨?_,?_⟩))
 ·rw [g9,uO];show 0+a.length<=_;lia
 refine GH (FormattedValue_plain (thn (he pins _ σ H _ (I.tok _) h) λu s1 zq=>?_));obtain⟨v,H1,I1,r,hv,q⟩:=zq
 have fin:∀ (y:Str) (tk:Nat),y.length<=1000001->(Str.empty++a++y).length<=sizeLine/\wpAny (model X.prog X.w) X.A (joinParts (Str.empty++a++y) []) (EP X pins σ Q) X.xe { s1 with toks:=tk }:=λy tk hy=>by
  have hz:(Str.empty++a++y).length<=sizeLine:=by rw [g9,g9,uO];show 0+a.length+y.length<=_;lia
  exact⟨hz,joinParts_nil ⟨.str _,H1,I1.tok _,⟨_,rfl⟩,q _⟩ hz⟩
 rcases hv with⟨n,rfl,n0,n1⟩ | ⟨z,rfl,hz⟩
 ·obtain⟨tk,rfl⟩:=r;refine formatField_int_small (zdb n0 n1) (fin _ _ ?_);have e1:=int_text_length_le10 (a:=n) (k:=7) (by decide) (by lia);show(Str.ofString (toString n)).length<=_;rw [PySem.ofString_length];lia
 ·obtain⟨tk,rfl⟩:=r;exact formatField_str (λt' tk'=>fin _ _ (by lia)) (by rw [uO];lia)
end
noncomputable def zb0 (C:Addr)(f:Str)(pay:V->Prop):Sp:=λvs H Q _=>∃ a v,vs=[.ref a,v]/\H a=some (ExN C a)/\pay v/\∀ d,H d=none->d≠a->Q .non (upd (upd H a (ExD C d a)) d (.xd [(f,v)]))
def payT (v:V):Prop:=(∃ n:Int,v=.int n/\0<=n/\n<1000000)\/∃ z:Str,v=.str z/\z.length<=1000000
structure Err (P:Program)(w:World)(K:Frag)(mg:La)(base:Heap)(x:Str)(C:Addr)(f:Str)(pay:V->Prop):Prop where
 gl:mg x=some (.ref C)
 cl:XCl K C
 kp:keepIn K (.ref C)=true
 ex:∃ (fI:Addr) (fd:FuncData) (oI:Obj) (ps:Lh),J9 K C=some (some (.ref fI))/\K.lookup fI=some oI/\oI.cls=.type "function"/\Binds K fd ps []/\FnOk P w K mg base CX0 1 fI fd ps (zb0 C f pay)
theorem zdj {K:Frag}{C:Addr}{f p:Str}{a:Addr}{v:V}{H:Hp}{Q:VK}(ea:H a=some (ExN C a))(hp:payT v)(q:∀ d,H d=none->d≠a->Q .non (upd (upd H a (ExD C d a)) d (.xd [(f,v)]))) :
  tSeq (J4 (tCB (Va C) (jy (tVar 0) (jy (tFs (tVar 1)) tNil)))) (YU K C (tVar 0) (tVar 1) f) { nx:=λ_ H'=>Q .non H',rt:=Q } (start ["self",p] [.ref a,v]) H:=
 ⟨.ref a,rfl,v,rfl,hp,λy=>⟨a,.str y,rfl,ea,v,rfl,.ref a,rfl,a,rfl,ea,λd h1 h2=>q d h1 h2⟩⟩
section
variable {X:Cx} {E:XS} {C:Addr} {x f:Str} {pay:V->Prop} {e:Expr} {es:Lg} {t:TA} {np cpos pos:Pos} {j:Nat}
noncomputable def Vz (C:Addr)(f:Str)(pay:V->Prop)(E:XS)(t:TA):TS:=λ_ σ H=>t σ H λvs H1=>∃ v,vs=[v]/\pay v/\∀ d H2,Same H1 H2->H1 d=none->H2 d=some (.xd [(f,v)])->E (.ref C) (some d) σ H2
theorem zer (hx:Thr X E)(R:Err X.prog X.w X.K X.mg X.base x C f pay)(hr:Room j X.A)(hj:2<=j)(ha:PA X (e::es) t)(hg:Gl X x:=by rfl) (hdb:(x == ("__debug__":Str))=false:=by decide) (he:starEach (e::es) X.env=(false,eval e X.env)::starEach es X.env:=by rfl) (hpl:(backTo cpos (starEach es X.env)).any (·.1)=false:=by rfl) : PS X (.Raise (some (.Call (.Name x np) (e::es) [] cpos)) none pos) (Vz C f pay E t):=by
 intro pins s σ H D I h;have c:=R.cl;rw [gQ];refine ua (u0 (X9 (C:=C) (K:=X.K) hr.hd ?_));refine ua (uj (Q:=λv s₁=>∃ x dd vs sl,v=.ref x/\X.K.In s₁.heap/\XCl X.K C/\s₁.heap.get? x=some ⟨.ref C,dd,.fields vs,sl⟩/\vs[1]? = some .none/\X.xe (.ref x) s₁) ?_ (λv s₁ h₁=>ua (u0 (uc h₁))) λ_ _ z=>z);refine uL (wZ I hg R.gl ?_ hdb);refine Uh (h₀:=X.base) I.ok.mod.kin R.kp (thn (ha cpos pins s σ H _ I h) λus s1 ⟨vs,H1,I1,r,v,hvs,hp,q⟩=>⟨I1.kIn,?_⟩) he hpl;subst hvs;obtain⟨u,rfl,rv⟩:=vals1 r;obtain⟨fI,fd,oI,ps,i1,i2,i3,hb,F⟩:=R.ex;refine YS I1.kIn c.sh i1 i2 i3 (by show 1<=_;rw [uO];decide) λh' a g1 g2=>?_;obtain⟨t0,z1,_,_⟩:=g2.there;have n1:=I1.hok.fresh g1;have I2:Inv X pins σ (upd H1 a (ExN C a)) { s1 with heap:=h' }:=I1.laid (t':=s1.toks) g2.keeps g1 (zaw (t:=t0) z1 rfl ⟨rfl,rfl,rfl⟩)
 have hsp:zb0 C f pay [.ref a,v] (upd H1 a (ExN C a)) (λw2 H2=>w2=.non/\∃ d,upd H1 a (ExN C a) d=none/\d≠a/\H2=upd (upd (upd H1 a (ExN C a)) a (ExD C d a)) d (.xd [(f,v)])) E0:=
  ⟨a,v,rfl,zb,hp,λd q1 q2=>⟨rfl,d,q1,q2,rfl⟩⟩
 have r2:Vals [V.ref a,v] [Value.ref a,u]:=.cons rfl (.cons rv .nil);have hb':=hb { s1 with heap:=h' } [.ref a,u] I2.kIn (by rw [← F.len _ _ _ _ hsp];rfl);refine Ua (Ug (F.run (X.A.under (.builtin "type.__call__" ⟨.ref C::[u],[]⟩)) X.stack { s1 with heap:=h' } _ ⟨[.ref a,u],[]⟩ _ _ _ _ ((hr.mono hj).make C [u] []) (I2.env0.make C [u] []) hb' (by simpa using r2) hsp) λr s' hq=>?_);rcases r with er | fl
 ·exact False.elim hq
 cases fl with
 | next=>exact False.elim hq
 | brk=>exact False.elim hq
 | cont=>exact False.elim hq
 | ret w2=>
  obtain⟨v2,H2,I3,rv2,rfl,d,q1,q2,rfl⟩:=I2.after hq;refine⟨rv2,a,some d,?_⟩;have hx1:jj X.prog X.w (upd (upd (upd H1 a (ExN C a)) a (ExD C d a)) d (.xd [(f,v)])) s'.heap a (ExD C d a):=I3.hok a _ (by rw [zl (Ne.symm q2),zb]);obtain⟨⟨vs',sl',e1,e2⟩,_⟩:=hx1;refine⟨vs',sl',rfl,I3.kIn,c,e1,e2.1,hx _ _ ?_⟩;have np:∀ q∈X.pn,q.1≠a:=λq hq y=>by have:=(I1.pin q (uV _ hq)).1;exact absurd (uy (uf this) (y ▸ g1)) (uX _)
  have q1':H1 d=none:=by rw [zl q2] at q1;exact q1
  have sa:Same H1 (λb=>if b=a then none else upd (upd (upd H1 a (ExN C a)) a (ExD C d a)) d (.xd [(f,v)]) b):=λb o hb=>by
   have ba:b≠a:=λy=>by rw [y,n1] at hb;cases hb
   have bd:b≠d:=λy=>by rw [y,q1'] at hb;cases hb
   simp only [ub ba];rw [zl bd,zl ba,zl ba];exact hb
  refine⟨a,.ref C,some d,_,[],σ,rfl,?_,uJ I1.sz g1,?_,np,.inl ⟨sl',vs',e1,e2.1,λ_=>e2.2.1⟩,q d _ sa q1' ?_⟩
  ·have I4:Inv X [] σ (upd (upd (upd H1 a (ExN C a)) a (ExD C d a)) d (.xd [(f,v)])) s':=I3.pins_of λp hp=>absurd hp (by simp)
   have key:∀ b o,(λb=>if b=a then none else upd (upd (upd H1 a (ExN C a)) a (ExD C d a)) d (.xd [(f,v)]) b) b=some o->b≠a/\upd (upd (upd H1 a (ExN C a)) a (ExD C d a)) d (.xd [(f,v)]) b=some o:=λb o z=>by
    by_cases hb:b=a
    ·simp [hb] at z
    ·simp only [ub hb] at z;exact⟨hb,z⟩
   have back:∀ b o,b≠a->upd (upd (upd H1 a (ExN C a)) a (ExD C d a)) d (.xd [(f,v)]) b=some o->(λb=>if b=a then none else upd (upd (upd H1 a (ExN C a)) a (ExD C d a)) d (.xd [(f,v)]) b) b=some o:=λb o hb z=>by simp only [ub hb];exact z
   have nex:∀ b o,upd (upd (upd H1 a (ExN C a)) a (ExD C d a)) d (.xd [(f,v)]) b=some o->(∀ φ,o≠.ext φ)->b≠a:=λb o z no y=>by rw [y,zl (Ne.symm q2),zb] at z;cases z;exact no _ rfl
   refine I4.step (h':=s'.heap) (g':=s'.gens) (t':=s'.toks) (d':=s'.drawn) (ch:=[]) (λ_ z=>absurd z (by simp)) (λb o _ _ _ z _=>z) (λb o _ _ _ z _=>⟨o.slots,z⟩) (λb o _ _ z=>?_) (λb o _ z=>⟨o,z⟩) (λb xs z=>back b _ (nex b _ z λ_ y=>by cases y) z) (λb o u z=>back b _ (nex b _ z λ_ y=>by cases y) z)
    (λb ps z=>⟨#[],by rw [Gi];exact back b _ (nex b _ z λ_ y=>by cases y) z⟩) (λm z=>z) (λb o z=>?_) I4.bare
   ·by_cases hb:b=a
    ·simp [hb]
    ·simp only [ub hb];exact z
   ·obtain⟨hb,z⟩:=key b o z;exact(I4.hok b o z).stay (λ_ _ _ y=>y) (λc y=>back c _ (nex c _ y λ_ y=>by cases y) y) λc xs y=>back c _ (nex c _ y λ_ y=>by cases y) y
  ·simp
  ·simp only [ub q2];rw [zb]
end
section
variable {X:Cx} {pins:Lp} {σ:St} {H:Hp} {s:Shared}
def Ours (X:Cx)(b:Addr):Prop:=X.s₀.heap.objs.size<=b/\b≠X.env.locals/\(∀ x c,X.env.cells.lookup x=some c->c≠b)/\∀ p∈X.pn,p.1≠b
theorem ka (I:Inv X pins σ H s){b:Addr}{o:Obj}{vs:Array Value}(e:s.heap.get? b=some o)(hd:o.data=.fields vs)(h0:X.s₀.heap.objs.size<=b)(hp:∀ p∈X.pn,p.1≠b):Ours X b:=by
 refine⟨h0,λz=>?_,λx c hc z=>?_,hp⟩
 ·obtain⟨m,⟨o',es,ep,e',d',_⟩,_⟩:=I.loc;rw [← z,e] at e';cases e';rw [hd] at d';cases d'
 ·obtain⟨v,o',e',d'⟩:=I.cell x c hc;rw [z,e] at e';cases e';rw [hd] at d';cases d'
theorem WO (I:Inv X pins σ H s){b:Addr}(h:s.heap.objs.size<=b):Ours X b:=by
 refine⟨uJ I.sz h,λz=>absurd I.lt (by rw [← z];exact Gh.mpr h),λx c hc z=>?_,λp hp z=>?_⟩
 ·obtain⟨v,o',e',d'⟩:=I.cell x c hc;exact absurd (uy (uf e') (z ▸ h)) (uX _)
 ·have:=(I.pin p (uV _ hp)).1;exact absurd (uy (uf this) (z ▸ h)) (uX _)
theorem Inv.kp {h':Heap}{H':Hp}{ch:Ld}(I:Inv X [] σ H s)(k:Kp ch (frs X.stack) s.heap h')(hc:∀ b∈ch,Ours X b/\H b=none)(hH:∀ b,b∉ch->H' b=H b)(hok:HOk X.prog X.w H' h'):Inv X [] σ H' { s with heap:=h' }:=by
 have nt:∀ b o,H b=some o->b∉ch:=λb o z y=>by rw [(hc b y).2] at z;cases z
 refine I.step (h':=h') (g':=s.gens) (t':=s.toks) (d':=s.drawn) (ch:=ch) (λb hb=>?_) (λb o n1 n2 n3 z _=>?_) (λb o n1 n2 n3 z _=>k.slot b o n3 z) (λb o n3 z n=>by rw [hH b n3];exact n) (λb o n3 z=>let ⟨sl,q⟩:=k.slot b o n3 z;⟨_,q⟩)
  (λb xs z=>by rw [hH b (nt b _ z)];exact z) (λb o u z=>by rw [hH b (nt b _ z)];exact z) (λb ps z=>⟨#[],by rw [hH b (nt b _ z),Gi];exact z⟩) (λm hm=>?_) hok I.bare
 ·obtain⟨a1,a2,a3,a4⟩:=(hc b hb).1;exact⟨.inr a1,a2,a3,λp hp=>(Ud.mp hp).elim (a4 p) λz=>absurd z (by simp)⟩
 ·exact k.keep b o n3 (λy=>(um.mp (I.stkSub b y)).elim n1 n2) z
 ·obtain⟨o,es,ep,ho,r⟩:=hm;obtain⟨sl,q⟩:=k.slot _ o (λz=>(hc _ z).1.2.1 rfl) ho;exact⟨_,es,ep,q,r⟩
theorem Inv.lost {h':Heap}{tk:Nat}{m':La}(I:Inv X pins σ H s)(hn:h'.Ns X.env.locals m')(hs:Heap.SameBut X.env.locals s.heap h'):Inv X pins (σ.map λ_=>none) H { s with heap:=h',toks:=tk }:=by
 have lt:∀ b o,X.s₀.heap.get? b=some o->b≠X.env.locals:=λb o e=>u5 (uy (uf e) I.ok.above);refine⟨I.ok,I.os,I.bare,⟨λb o e n hb hx=>?_,λb o e n hb hx=>?_,I.base.free,λb o e hx=>?_,I.base.tups,I.base.frzs,I.base.tbls⟩,⟨_,hn,λj y v' e1 e2 e3=>?_⟩,λy c e=>?_,I.free,I.freeC,λp hp=>?_,λb ob e=>?_,by simpa using I.len⟩
 ·exact(hs.2 b (lt b o e)).trans (I.base.keep b o e n hb hx)
 ·obtain⟨sl,e1⟩:=I.base.slot b o e n hb hx;exact⟨sl,(hs.2 b (lt b o e)).trans e1⟩
 ·obtain⟨o',e1⟩:=I.base.there b o e hx;exact⟨o',(hs.2 b (lt b o e)).trans e1⟩
 ·rw [Uc] at e2;cases q:σ[j]? with
  | none=>rw [q] at e2;cases e2
  | some z=>rw [q] at e2;cases e2
 ·obtain⟨w',z⟩:=I.cell y c e;exact⟨w',z.sameBut hs (I.cne y c e)⟩
 ·obtain⟨e,n,ne,nf,d⟩:=I.pin p hp;exact⟨(hs.2 p.1 ne).trans e,n,ne,nf,d⟩
 ·refine(I.hok b ob e).stay (λc w' hc q=>(hs.2 c ?_).trans q) (λ_ q=>q) λ_ _ q=>q;rintro rfl;rcases hc with rfl | hc
  ·rw [I.free] at e;cases e
  ·rw [I.free] at hc;cases hc
noncomputable abbrev Cx.tryIn (X:Cx)(pn:Lp)(xe:Value->Shared->Prop):Cx:={ X with pn:=pn,xe:=xe }
noncomputable abbrev Cx.exInG (X:Cx)(pn:Lp)(ea:Addr)(xe:Value->Shared->Prop):Cx:={ X with pn:=pn,A:=X.A.mark (some (.ref ea)),calm:=false,xe:=xe }
noncomputable abbrev Cx.exIn (X:Cx)(pn:Lp)(ea:Addr):Cx:=X.exInG pn ea λ_ _=>False
theorem Cx.Ok.tryIn (ok:X.Ok)(pn:Lp)(xe:Value->Shared->Prop):(X.tryIn pn xe).Ok:= ⟨ok.mod,ok.kind,ok.glob,ok.blt,ok.above,ok.inj,ok.has,ok.cab,ok.hd,ok.frames,ok.stk,ok.exf,ok.bs,ok.bsz,ok.noex,ok.exfs,ok.funs,ok.frf⟩
theorem Cx.Ok.exIn (ok:X.Ok)(pn:Lp)(ea:Addr)(xe:Value->Shared->Prop):(X.exInG pn ea xe).Ok:=
 ⟨ok.mod,ok.kind,ok.glob,ok.blt,ok.above,ok.inj,ok.has,ok.cab,λz=>absurd (show false=true from z) (by decide),ok.frames,ok.stk,ok.exf,ok.bs,ok.bsz,ok.noex,ok.exfs,ok.funs,ok.frf⟩
theorem Inv.tryIn (I:Inv X pins σ H s)(xe:Value->Shared->Prop):Inv (X.tryIn (X.pn++pins) xe) [] σ H s:=⟨I.ok.tryIn _ _,I.os,I.bare,I.base,I.loc,I.cell,I.free,I.freeC,λp hp=>I.pin p (by simpa using hp),I.hok,I.len⟩
theorem Inv.untry {xe:Value->Shared->Prop}(ok:X.Ok)(I:Inv (X.tryIn (X.pn++pins) xe) [] σ H s):Inv X pins σ H s:=⟨ok,I.os,I.bare,I.base,I.loc,I.cell,I.free,I.freeC,λp hp=>I.pin p (by simpa using hp),I.hok,I.len⟩
theorem Inv.toEx {xe xe':Value->Shared->Prop}(ok:X.Ok)(ea:Addr)(I:Inv (X.tryIn (X.pn++pins) xe) [] σ H s):Inv (X.exInG (X.pn++pins) ea xe') [] σ H s:=⟨ok.exIn _ _ _,I.os,I.bare,I.base,I.loc,I.cell,I.free,I.freeC,I.pin,I.hok,I.len⟩
theorem Inv.unEx {ea:Addr}(ok:X.Ok)(I:Inv (X.exInG (X.pn++pins) ea xe) [] σ H s):Inv X pins σ H s:=⟨ok,I.os,I.bare,I.base,I.loc,I.cell,I.free,I.freeC,λp hp=>I.pin p (by simpa using hp),I.hok,I.len⟩
end
def yw (H:Hp)(a C:Addr)(d:Option Addr):Prop:=∃ o,H a=some (.frz o (.own a))/\o.cls=.ref C/\o.dict=d/\∃ vs,o.data=.fields vs
def Pla (H:Hp)(a:Addr):Prop:=∃ o vs,H a=some (.frz o (.own a))/\o.data=.fields vs/\vs[2]? = some .none
def FlN (X:Cx)(E:XS)(e:Value)(s':Shared):Prop:=∃ (ea:Addr) (c:Value) (d:Option Addr) (H':Hp) (σ:St),e=.ref ea/\Inv X [] σ H' s'/\X.s₀.heap.objs.size<=ea/\H' ea=none/\(∀ q∈X.pn,q.1≠ea)/\Nw (One H' d) s'.heap ea c d/\E c d σ H'
noncomputable abbrev zes (D:Ends):Ends:={ nx:=λσ2 H2=>D.nx (σ2.map λ_=>none) H2,rt:=D.rt,bk:=λσ2 H2=>D.bk (σ2.map λ_=>none) H2,ct:=λσ2 H2=>D.ct (σ2.map λ_=>none) H2 }
noncomputable def tTry (K:Frag)(Dc:Addr)(i:Nat)(tb:XS->TS)(th:TS):TS:=λD σ H=>
 tb (λc d σ' H'=>∃ C,c=.ref C/\XCl K C/\mroIn K C (.ref Dc)=some true/\∀ ea H2,Same H' H2->yw H2 ea C d->th { nx:=λσ2 H2=>D.nx (σ2.map λ_=>none) H2,rt:=D.rt,bk:=λσ2 H2=>D.bk (σ2.map λ_=>none) H2,ct:=λσ2 H2=>D.ct (σ2.map λ_=>none) H2 } (σ'.set i (some (.ref ea))) H2) D σ H
noncomputable def zb1 (K:Frag)(Dc:Addr)(i:Nat)(tb:XS->TS)(th:Addr->TS):TS:=λD σ H=>
 tb (λc d σ' H'=>∃ C,c=.ref C/\XCl K C/\mroIn K C (.ref Dc)=some true/\One H' d/\∀ ea H2,Same H' H2->yw H2 ea C d->Pla H2 ea->th ea (zes D) (σ'.set i (some (.ref ea))) H2) D σ H
section
variable {X:Cx} {Dc:Addr} {x n:Str} {i:Nat} {tb:XS->TS} {th:TS} {body suite:List Stmt} {b₀:Stmt} {np hpos pos:Pos}
def Outs (X:Cx)(ea:Addr)(n:Str)(hpos:Pos)(e:Value)(s3:Shared):Prop:=
 wpAny (model X.prog X.w) (X.A.mark (some (.ref ea))) (noteFrame e X.env) (λ_ s4=>wpAny (model X.prog X.w) (X.A.mark (some (.ref ea))) (do bindName X.env n .none;unbindBehindTheSuite X.env n hpos)
  (λ_ s5=>wpAny (model X.prog X.w) (X.A.mark (some (.ref ea))) (PySem.passOn "try.except-as" e X.env:Sem Flow) (λ_ _=>False) (notedBy (model X.prog X.w) (X.A.mark (some (.ref ea))) X.env (cameBackBy (model X.prog X.w) X.A X.env X.xe)) s5)
  (λy s5=>wpAny (model X.prog X.w) (X.A.mark (some (.ref ea))) (setFlight e none) (λ_ s6=>(notedBy (model X.prog X.w) (X.A.mark (some (.ref ea))) X.env (cameBackBy (model X.prog X.w) X.A X.env X.xe)) y s6) (notedBy (model X.prog X.w) (X.A.mark (some (.ref ea))) X.env (cameBackBy (model X.prog X.w) X.A X.env X.xe)) s5) s4)
  (notedBy (model X.prog X.w) (X.A.mark (some (.ref ea))) X.env (cameBackBy (model X.prog X.w) X.A X.env X.xe)) s3
theorem zdk {pins:Lp}(ok:X.Ok)(hl:X.env.scope.names.lookup n=some .local)(hst:X.stack=X.env::X.outer)(hf:X.env.frame=some X.env.locals)(hx:Thr X E) (h:FlN (X.exIn (X.pn++pins) ea) (λc d σ H=>E c d (σ.map λ_=>none) H) e s3):Outs X ea n hpos e s3:=by
 obtain⟨x,c,d,H',σ,rfl,I,hx0,hHx,hpn,⟨sl,vs,he,h1,hp⟩,hE⟩:=h;have hfr:(X.A.mark (some (.ref ea))).frames=some (X.env::X.outer):=by rw [← hst];exact ok.frames
 have hlf:s3.heap.FunFrames X.base (X.env::X.outer):=by rw [← hst];exact I.stack
 have hfree:∀ b∈frs (X.env::X.outer),H' b=none:=by rw [← hst];exact I.stkFree
 have ox:=ka I he rfl hx0 hpn;refine Qb (p:=One H' d) hfr hlf hf he h1 hp λh4 T g1 g2 g3=>?_;have oT:=WO I g1;have nT:=I.hok.fresh g1;have xT:x≠T:=λz=>absurd (uf he) (by rw [z];exact Gh.mpr g1);have I4:Inv (X.exIn (X.pn++pins) ea) [] σ H' { s3 with heap:=h4 }:=I.kp (by rw [hst];exact g3) (λb hb=>by rw [show b=x by simpa using hb];exact⟨ox,hHx⟩) (λ_ _=>rfl) (I.hok.kp g3 (λb hb=>by rw [show b=x by simpa using hb];exact hHx) hfree);obtain⟨m,hn,_⟩:=I4.loc;refine wpAny_nameGoes hl hn (by rw [I4.ok.kind];rfl) λh5 m' z1 z2=>?_;have I5:Inv X [] (σ.map λ_=>none) H' { s3 with heap:=h5,toks:=s3.toks+1 }:=((I4.unEx ok).lost z1 z2).pins_of λp hp=>absurd hp (by simp);have F5:Fly (One H' d) h5 x T c d (rawInt X.env.locals):=by obtain⟨sl',vs',oT',ts,he',hv',tn,hT',hd',h3'⟩:=g2;exact⟨sl',vs',oT',ts,(z2.2 x ox.2.1).trans he',hv',tn,(z2.2 T oT.2.1).trans hT',hd',h3'⟩
 have tail:∀ (h6:Heap),Inv X [] (σ.map λ_=>none) H' { s3 with heap:=h6,toks:=s3.toks+1 }->Fly (One H' d) h6 x T c d (rawInt X.env.locals)->∀ (Q:Unit->Shared->Prop) (A:Around) (E':Value->Shared->Prop),(∀ h7,Inv X [] (σ.map λ_=>none) H' { s3 with heap:=h7,toks:=s3.toks+1 }->Fly (One H' d) h7 x T c d (rawInt X.env.locals)->Q () { s3 with heap:=h7,toks:=s3.toks+1 }) ->
   wpAny (model X.prog X.w) A (setFlight (.ref x) X.env.frame) Q E' { s3 with heap:=h6,toks:=s3.toks+1 }:=λh6 J F Q A E' k=>
  zdf (s:={ s3 with heap:=h6,toks:=s3.toks+1 }) hf F λh7 f1 f2=>k h7 (Inv.kp (s:={ s3 with heap:=h6,toks:=s3.toks+1 }) J (f2.mono (λ_ z=>z) λb z=>absurd z (by simp)) (λb hb=>by rw [show b=T by simpa using hb];exact⟨⟨oT.1,oT.2.1,oT.2.2.1,λp hp=>oT.2.2.2 p (uV _ hp)⟩,nT⟩) (λ_ _=>rfl)
   (J.hok.kp (fs:=[]) f2 (λb hb=>by rw [show b=T by simpa using hb];exact nT) λb z=>absurd z (by simp))) f1
 obtain⟨sl5,vs5,oT5,ts5,he5,hv5,_⟩:=id F5;unfold PySem.passOn;refine ua (uB he5 rfl hv5 ?_);rw [ub (show ¬ (Value.ref T == Value.none)=true by simp)];refine ua (tail h5 I5 F5 _ _ _ λh6 I6 F6=>wpAny_throw ?_);refine Jo hf F6 ?_;obtain⟨sl6,vs6,oT6,ts6,he6,hv6,_⟩:=id F6;unfold cameBackBy;refine ua (uB he6 rfl hv6 ?_);rw [ub (show ¬ (Value.ref T == Value.none)=true by simp)];refine tail h6 I6 F6 _ _ _ λh7 I7 F7=>hx _ _ ⟨x,c,d,H',[],_,rfl,I7,hx0,hHx,λq hq=>hpn q (uV _ hq),.inr ⟨T,_,F7,.inr ⟨_,hf,rfl⟩,oT.1,nT,λq hq=>oT.2.2.2 q (uV _ hq)⟩,hE⟩
theorem zb2 {th:Addr->TS}{xe':Lp->Addr->Value->Shared->Prop}{pins:Lp}{s:Shared}{σ:St}{H:Hp}{D:Ends}{Ex:XS}(hm:X.mg x=some (.ref Dc))(cD:XCl X.K Dc)(hN:X.N.Nodup)(hi:X.N[i]? = some n)(hl:X.env.scope.names.lookup n=some .local)(hst:X.stack=X.env::X.outer)(hf:X.env.frame=some X.env.locals) (hb:∀ (E:XS) (pn:Lp) (xe:Value->Shared->Prop),PassesOwn (model X.prog X.w) X.A X.env xe->Thr (X.tryIn pn xe) E->PSs (X.tryIn pn xe) body (tb E)) (hh:∀ pn ea,PSs (X.exInG pn ea (xe' pn ea)) (b₀::suite) (th ea)) (hxe:∀ ea e s3,xe' (X.pn++pins) ea e s3->Outs X ea n hpos e s3) (hg:Gl X x) (hdb:(x == ("__debug__":Str))=false) (I:Inv X pins σ H s) (h:tb Ex D σ H) (hE:∀ c d σ' H',Ex c d σ' H'->∃ C,c=.ref C/\XCl X.K C/\mroIn X.K C (.ref Dc)=some true/\∀ ea H2,Same H' H2->yw H2 ea C d->(One H' d->Pla H2 ea)->th ea (zes D) (σ'.set i (some (.ref ea))) H2) : wpAny (model X.prog X.w) X.A (exec (.Try body [.ExceptHandler (some (.Name x np)) (some n) (b₀::suite) hpos] [] [] pos) X.env) (SP X pins D) X.xe s:=by
 refine wpAny_Try_except ?_
 refine uj (hb _ (X.pn++pins) (λe s₁=>wpAny (model X.prog X.w) X.A (noteFrame e X.env) (λ_ s₂=>wpAny (model X.prog X.w) X.A (setFlight e none) (λ_ s₃=>
  wpAny (model X.prog X.w) X.A (handleBy e X.env [.ExceptHandler (some (.Name x np)) (some n) (b₀::suite) hpos]) (SP X pins D) X.xe s₃) X.xe s₂) X.xe s₁) PassesOwn.looking ?_ [] s σ H D (I.tryIn _) h) (λf s1 q=>?_) λe s1 z=>z
 ·intro e s' hF;obtain⟨ea,c,d,H',pins',σ',rfl,I1',hea,hHe,hpn,hv,hEx⟩:=hF;obtain⟨C,rfl,cC,hmr,hth⟩:=hE _ _ _ _ hEx;have I1:Inv (X.tryIn (X.pn++pins) _) [] σ' H' s':=I1'.pins_of λp hp=>absurd hp (by simp);clear I1';have hfr:X.A.frames=some (X.env::X.outer):=by rw [← hst];exact I.ok.frames
  have hlf:s'.heap.FunFrames X.base (X.env::X.outer):=by rw [← hst];exact I1.stack
  have hfree:∀ b∈frs (X.env::X.outer),H' b=none:=by rw [← hst];exact I1.stkFree
  have go:∀ (h2:Heap) (T:Addr) (ch:Ld),(s'.heap.objs.size<=T\/True)->Fly (One H' d) h2 ea T (.ref C) d .none->Kp ch (frs (X.env::X.outer)) s'.heap h2->ea∈ch->T∈ch->(∀ b∈ch,Ours (X.tryIn (X.pn++pins) λ_ _=>True) b/\H' b=none) ->
    wpAny (model X.prog X.w) X.A (handleBy (.ref ea) X.env [.ExceptHandler (some (.Name x np)) (some n) (b₀::suite) hpos]) (SP X pins D) X.xe { s' with heap:=h2 }:=by
   intro h2 T ch g1 g2 g3 m1 m2 g4
   have I2:Inv (X.tryIn (X.pn++pins) _) [] σ' H' { s' with heap:=h2 }:=I1.kp (by rw [hst];exact g3) (λb hb=>⟨(g4 b hb).1,(g4 b hb).2⟩) (λ_ _=>rfl) (I1.hok.kp g3 (λb hb=>(g4 b hb).2) hfree)
   have I3:=I2.toEx (xe':=xe' (X.pn++pins) ea) I.ok ea
   obtain⟨sl,vs,oT,ts,he,hv1,tn,hT,hd,h3,_⟩:=id g2
   refine wpAny_handleBy_cons (codeAny_handlers_test (wZ (X:=X.exInG (X.pn++pins) ea (xe' (X.pn++pins) ea)) I3 hg hm ?_ hdb)) (by intro q;cases q)
   refine zdh (s:={ s' with heap:=h2 }) I3.kIn he rfl cC cD hmr ?_
   refine codeAny_handlers_suite_as ?_
   refine wJ (s:={ s' with heap:=h2 }) g2 λh4 f1 f2 f3=>?_
   obtain⟨sl4,vs4,oT4,ts4,he4,_,_,_,_,_,hp4⟩:=id f1
   have I4:Inv (X.exInG (X.pn++pins) ea (xe' (X.pn++pins) ea)) [] σ' (upd H' ea (.frz ⟨.ref C,d,.fields vs4,sl4⟩ (.own ea))) { s' with heap:=h4 }:=by
    have k:Kp [ea,T] (frs X.stack) h2 h4:=f2.mono (λb hb=>uQ _ hb) (λb hb=>absurd hb (by simp))
    refine Inv.kp (s:={ s' with heap:=h2 }) I3 k (λb hb=>?_) (λb hb=>?_) λb o z=>?_
    ·have:b∈ch:=by
      rcases um.mp hb with z | z
      ·rw [z];exact m1
      ·rw [show b=T by simpa using z];exact m2
     exact⟨(g4 b this).1,(g4 b this).2⟩
    ·exact zl λz=>hb (by simp [z])
    ·by_cases hb:b=ea
     ·subst hb
      rw [zb] at z
      cases z
      exact⟨he4,⟨_,he4⟩⟩
     ·rw [zl hb] at z
      have nT:∀ c u,H' c=some u->c∉[T]:=λc u q y=>by
       rw [show c=T by simpa using y,(g4 T m2).2] at q;cases q
      have ne:∀ c u,H' c=some u->c≠ea:=λc u q y=>by rw [y,hHe] at q;cases q
      refine(I2.hok b o z).stay (λc u hc q=>?_) (λc q=>by rw [zl (ne c _ q)];exact q) λc xs q=>by rw [zl (ne c _ q)];exact q
      rcases hc with rfl | hc
      ·exact f2.keep _ u (nT _ _ z) (by simp) q
      ·exact f2.keep _ u (nT _ _ hc) (by simp) q
   refine WB (X:=X.exInG (X.pn++pins) ea (xe' (X.pn++pins) ea)) I4 hN hi (.inl hl) (v:=.ref ea) rfl (λs5 I5=>?_) (.inr hl)
   have hsm:Same H' (upd H' ea (.frz ⟨.ref C,d,.fields vs4,sl4⟩ (.own ea))):=λb o q=>by rw [zl λy=>by rw [y,hHe] at q;cases q];exact q
   refine uj (hh (X.pn++pins) ea [] s5 _ _ _ I5 (hth ea _ hsm ⟨_,zb,rfl,rfl,_,rfl⟩ λz=>⟨_,_,zb,rfl,hp4 z⟩)) (λf s6 q=>?_) λe s6 z=>hxe ea e s6 z
   have gone:∀ σ6 H6,Inv (X.exInG (X.pn++pins) ea (xe' (X.pn++pins) ea)) [] σ6 H6 s6->(∀ s7,Inv X pins (σ6.map λ_=>none) H6 s7->SP X pins D f s7)->wpAny (model X.prog X.w) X.A (do bindName X.env n .none;unbindBehindTheSuite X.env n hpos) (λ_ s7=>SP X pins D f s7) X.xe s6:=by
    intro σ6 H6 J k
    obtain⟨m,hn,_⟩:=J.loc
    exact wpAny_nameGoes hl hn (by rw [J.ok.kind];rfl) λh' m' z1 z2=>k _ ((J.unEx I.ok).lost z1 z2)
   cases f with
   | next=>obtain⟨σ6,H6,J,q⟩:=q;exact gone σ6 H6 J λs7 J'=>⟨_,H6,J',q⟩
   | brk=>obtain⟨σ6,H6,J,q⟩:=q;exact gone σ6 H6 J λs7 J'=>⟨_,H6,J',q⟩
   | cont=>obtain⟨σ6,H6,J,q⟩:=q;exact gone σ6 H6 J λs7 J'=>⟨_,H6,J',q⟩
   | ret u=>obtain⟨v,σ6,H6,J,r,q⟩:=q;exact gone σ6 H6 J λs7 J'=>⟨v,_,H6,J',r,q⟩
  rcases hv with⟨sl,vs,he,h1,hp⟩ | ⟨T0,fl,hF,hfl,hT,hHT,hpT⟩
  ·refine Qb hfr hlf hf he h1 hp λh1' T g1 g2 g3=>wJ (s:={ s' with heap:=h1' }) g2 λh2 f1 f2 f3=>?_;refine go h2 T ([ea]++[T]) (.inr trivial) f1 (g3.trans (f2.mono (λ_ z=>z) λb z=>absurd z (by simp))) (by simp) (by simp) λb hb=>?_;rcases Ud.mp hb with z | z
   ·rw [show b=ea by simpa using z];exact⟨ka I1 he rfl hea hpn,hHe⟩
   ·rw [show b=T by simpa using z];exact⟨WO I1 g1,I1.hok.fresh g1⟩
  ·obtain⟨sl,vs,oT,ts,he,hv1,tn,hTT,hd,h3,_⟩:=id hF;rcases hfl with hfl | ⟨L,hL,rfl⟩;rotate_left
   ·refine Jo (by exact hL) hF (wJ hF λh2 f1 f2 f3=>go h2 T0 [T0,ea] (.inr trivial) f1 (f2.mono (λb z=>by rw [show b=T0 by simpa using z];exact .head _) λb z=>absurd z (by simp)) (by simp) (by simp) λb hb=>?_);rcases um.mp hb with z | z
    ·rw [z];exact⟨ka I1 hTT hd hT hpT,hHT⟩
    ·rw [show b=ea by simpa using z];exact⟨ka I1 he rfl hea hpn,hHe⟩
   subst hfl;refine X8 hfr hlf hf hF λh1' T g1 g2 g3=>wJ (s:={ s' with heap:=h1' }) g2 λh2 f1 f2 f3=>?_;refine go h2 T ([T0,ea]++[T]) (.inr trivial) f1 (g3.trans (f2.mono (λ_ z=>z) λb z=>absurd z (by simp))) (by simp) (by simp) λb hb=>?_;rcases Ud.mp hb with z | z
   ·rcases um.mp z with z | z
    ·rw [z];exact⟨ka I1 hTT hd hT hpT,hHT⟩
    ·rw [show b=ea by simpa using z];exact⟨ka I1 he rfl hea hpn,hHe⟩
   ·rw [show b=T by simpa using z];exact⟨WO I1 g1,I1.hok.fresh g1⟩
 ·cases f with
  | next=>obtain⟨σ',H',I',q⟩:=q;exact U5 ⟨σ',H',I'.untry I.ok,q⟩
  | brk=>obtain⟨σ',H',I',q⟩:=q;exact⟨σ',H',I'.untry I.ok,q⟩
  | cont=>obtain⟨σ',H',I',q⟩:=q;exact⟨σ',H',I'.untry I.ok,q⟩
  | ret u=>obtain⟨v,σ',H',I',r,q⟩:=q;exact⟨v,σ',H',I'.untry I.ok,r,q⟩
theorem ziG (hm:X.mg x=some (.ref Dc))(cD:XCl X.K Dc)(hN:X.N.Nodup)(hi:X.N[i]? = some n)(hl:X.env.scope.names.lookup n=some .local)(hst:X.stack=X.env::X.outer)(hf:X.env.frame=some X.env.locals)
  (hb:∀ (E:XS) (pn:Lp) (xe:Value->Shared->Prop),PassesOwn (model X.prog X.w) X.A X.env xe->Thr (X.tryIn pn xe) E->PSs (X.tryIn pn xe) body (tb E))
  (hh:∀ pn ea,PSs (X.exIn pn ea) (b₀::suite) th) (hg:Gl X x:=by rfl) (hdb:(x == ("__debug__":Str))=false:=by decide) :
  PS X (.Try body [.ExceptHandler (some (.Name x np)) (some n) (b₀::suite) hpos] [] [] pos) (tTry X.K Dc i tb th):=λpins s σ H D I h=>
 zb2 (th:=λ_=>th) (xe':=λ_ _ _ _=>False) hm cD hN hi hl hst hf hb hh (λ_ _ _ z=>z.elim) hg hdb I h λ_ _ _ _ ⟨C,e,a,b,k⟩=>⟨C,e,a,b,λea H2 z1 z2 _=>k ea H2 z1 z2⟩
theorem zgG {th:Addr->TS}{E:XS}(hx:Thr X E)(hm:X.mg x=some (.ref Dc))(cD:XCl X.K Dc)(hN:X.N.Nodup)(hi:X.N[i]? = some n)(hl:X.env.scope.names.lookup n=some .local)(hst:X.stack=X.env::X.outer)(hf:X.env.frame=some X.env.locals)
  (hb:∀ (E:XS) (pn:Lp) (xe:Value->Shared->Prop),PassesOwn (model X.prog X.w) X.A X.env xe->Thr (X.tryIn pn xe) E->PSs (X.tryIn pn xe) body (tb E))
  (hh:∀ pn ea,PSs (X.exInG pn ea (FlN (X.exIn pn ea) λc d σ H=>E c d (σ.map λ_=>none) H)) (b₀::suite) (th ea)) (hg:Gl X x:=by rfl) (hdb:(x == ("__debug__":Str))=false:=by decide) :
  PS X (.Try body [.ExceptHandler (some (.Name x np)) (some n) (b₀::suite) hpos] [] [] pos) (zb1 X.K Dc i tb th):=λpins s σ H D I h=>
 zb2 hm cD hN hi hl hst hf hb hh (λea e s3 z=>zdk I.ok hl hst hf hx z) hg hdb I h λ_ _ _ _ ⟨C,e,a,b,o,k⟩=>⟨C,e,a,b,λea H2 z1 z2 z3=>k ea H2 z1 z2 (z3 o)⟩
end
structure Got (K:Frag)(H:Hp)(a C:Addr)(fs:List (Str×V)):Prop where
 cl:XCl K C
 ex:∃ d,yw H a C (some d)/\H d=some (.xd fs)
theorem yw.mono (c:yw H a C d)(s:Same H H'):yw H' a C d:=by obtain⟨o,e,r⟩:=c;exact⟨o,s _ _ e,r⟩
theorem Got.mono {K:Frag}{H H':Hp}{a C:Addr}{fs:List (Str×V)}(g:Got K H a C fs)(s:Same H H'):Got K H' a C fs:=by obtain⟨d,c,e⟩:=g.ex;exact⟨g.cl,d,c.mono s,s _ _ e⟩
section
variable {X:Cx} {pins:Lp} {σ:St} {H:Hp} {s:Shared} {a C:Addr} {fs:List (Str×V)}
theorem WQ (I:Inv X pins σ H s)(g:Got X.K H a C fs):∃ (ox od:Obj) (mA:La),InstAt s.heap a ox C (some od)/\(∀ f,lookIn f od=some (mA f))/\∀ f,RelO (fs.lookup f) (mA f):=by
 obtain⟨d,⟨o,e,h1,h2,vs,h3⟩,ed⟩:=g.ex;obtain⟨e',_⟩:=(show jj X.prog X.w H s.heap a (.frz o (.own a)) from I.hok a _ e)
 obtain⟨mA,n,r⟩:=(show jj X.prog X.w H s.heap d (.xd fs) from I.hok d _ ed)
 obtain⟨od,ho,hl⟩:=XZ n;obtain⟨oc,odi,oda,osl⟩:=o;dsimp only at h1 h2 h3;subst h1 h2 h3;exact⟨_,od,mA,⟨e',rfl,rfl,ho⟩,hl,r⟩
noncomputable def isC:V->Bool | .ref _=>true | .ty _=>true | _=>false
noncomputable def clsU:V->Value | .ref a=>.ref a | .ty n=>.type n | _=>.none
theorem zb3 (h:isC v=true)(r:RelV v u):u=clsU v:=by cases v<;>first | exact r | cases h
theorem YV:∀ {vs:List V} {us:Lf},vs.all isC=true->Vals vs us->us=vs.map clsU
 | _,_,_,.nil=>rfl
 | _,_,h,.cons r t=>by simp only [Gb,uG] at h;rw [uu,← zb3 h.1 r,← YV h.2 t]
noncomputable def rIsX (K:Frag):List V->Hp->VK->Prop:=λxs H Q=>∃ a c C fs b,xs=[.ref a,c]/\Got K H a C fs/\isC c=true/\kitOne K (.ref C) (clsU c)=some b/\Q (.bl b) H
noncomputable def zb4 (K:Frag):List V->Hp->VK->Prop:=λxs H Q=>∃ a p C fs ys b,xs=[.ref a,.ref p]/\H p=some (.tup ys)/\Got K H a C fs/\ys.all isC=true/\kitAny K (.ref C) (ys.map clsU)=some b/\Q (.bl b) H
theorem zet:jV X (.builtin "isinstance") (rIsX X.K):=by intro pins s σ H xs us Q I r h;obtain⟨a,c,C,fs,b,rfl,g,hc,e,q⟩:=h;obtain⟨u1,u2,rfl,r1,r2⟩:=vals2 r;obtain rfl:u1=Value.ref a:=r1;obtain rfl:=zb3 hc r2;obtain⟨ox,od,mA,J,_⟩:=WQ I g;exact kia_one (zbY g.cl) I.kIn J e (λz=>nomatch z) λtk=>⟨.bl b,H,I.tok _,rfl,q⟩
theorem zdl:jV X (.builtin "isinstance") (zb4 X.K):=by
 intro pins s σ H xs us Q I r h;obtain⟨a,p,C,fs,ys,b,rfl,ep,g,hc,e,q⟩:=h;obtain⟨u1,u2,rfl,r1,r2⟩:=vals2 r;obtain rfl:u1=Value.ref a:=r1;obtain rfl:u2=Value.ref p:=r2;obtain⟨ox,od,mA,J,_⟩:=WQ I g;obtain⟨_,its,rv,o,ho,hoc,n,hod⟩:=(show jj X.prog X.w H s.heap p (.tup ys) from I.hok p _ ep)
 obtain rfl:=YV hc rv;obtain⟨oc,odi,oda,osl⟩:=o;dsimp only at hoc hod;subst hoc hod;exact kia_tup (zbY g.cl) I.kIn J ho e (λz=>nomatch z) λtk=>⟨.bl b,H,I.tok _,rfl,q⟩
theorem vD {K:Frag}(hK:X.K=K):jV X (.builtin "isinstance") (rIsX K):=by subst hK;exact zet
theorem kb {K:Frag}(hK:X.K=K):jV X (.builtin "isinstance") (zb4 K):=by subst hK;exact zdl
noncomputable def tAtX (K:Frag)(te:TE)(f:Str):TE:=λσ H Q=>te σ H λx H1=>∃ a C fs v,x=.ref a/\Got K H1 a C fs/\findIn K (.ref C) f=some none/\fs.lookup f=some v/\Q v H1
theorem ziH {K:Frag}{e:Expr}{te:TE}{f:Str}{pos:Pos}(hK:X.K=K)(he:PE X e te)(hb:attributeBase e f X.env (eval e X.env)=eval e X.env:=by rfl):PE X (.Attribute e f pos) (tAtX K te f):=by subst hK;intro pins s σ H Q I h;refine zbP hb (thn (he pins s σ H _ I h) λu s1 zq=>?_);obtain⟨x,H1,I1,rx,a,C,fs,v,ex,g,n,l,q⟩:=zq;subst ex;obtain rfl:u=Value.ref a:=rx;obtain⟨ox,od,mA,J,hl,hr⟩:=WQ I1 g;obtain⟨u,hu,ru⟩:=RelO.some_of (v:=v) (o:=mA f) (by rw [← l];exact hr f);exact zgE I1.kIn J g.cl (findObj_own g.cl.hd n rfl (by rw [hl,hu])) (X0 ru) ⟨v,H1,I1.tok _,ru,q⟩
end
section
variable {X:Cx}
end
section
variable {X:Cx} {k j:Nat} {x:Str} {ps:Lh} {sp:Sp} {p pos:Pos} {e:Expr} {es:Lg} {t:TA} {a:Addr}
theorem zb5:Passes (CXE P w) X E0:=λ_ _ _ _ _ _ _ h=>by obtain⟨_,_,_,_,_,_,_,_,_,_,_,_,_,_,_,z⟩:=h;exact z.elim
theorem ziI (h:X.mg x=some (.ref a))(hg:Gl X x:=by rfl) (hd:(x == ("__debug__":Str))=false:=by decide):PE X (.Name x pos) (tC (.ref a)):=zbI hg h rfl hd
end
theorem XA:bootBuiltins "ValueError" = some (.type "ValueError"):=by decide +kernel
structure Ini (K:Frag)(C:Addr)(qual:Str)(st:Stmt)(ps:Lh):Prop where
 ex:∃ (fI:Addr) (fd:FuncData) (oI:Obj),J9 K C=some (some (.ref fI))/\K.lookup fI=some oI/\oI.cls=.type "function"/\Fun K "__init__" qual st fI fd/\Binds K fd ps []
theorem ziJ {K:Frag}{C:Addr}{qual:Str}{st:Stmt}{ps:Lh}{f:Addr}{od an:Option Addr}{osl:Array (Option Value)}{kV doc pm cdv ct:Value} (b:∀ (kV doc pm:Value) (an:Option Addr) (cdv ct:Value) (us:Lf),us.length=ps.length->bindArgs (fnOf "__init__" qual (jk st) (zZ st) (zf st) .none kV doc pm an cdv ct) ⟨us,[]⟩=pure (ps.zip us)) (a:J9 K C=some (some (.ref f))) (l:K.lookup f=some ⟨.type "function",od,.func (fnOf "__init__" qual (jk st) (zZ st) (zf st) .none kV doc pm an cdv ct),osl⟩) (c:codeIn K cdv qual=true) (k:keepIn K (.ref f)=true):Ini K C qual st ps:= ⟨f,_,_,a,l,rfl,k9 l c k,(k9 l c k).binds b⟩
end L2
namespace L2
open PySem PySem.Spec PySem.Calls PyProof.Rows PySem.W
section
variable {X:Cx}
noncomputable def eqS (xs ys:List V):Bool:=(List.range (min xs.length ys.length)).all (λj=>eqV (xs.getD j .non) (ys.getD j .non))&&xs.length == ys.length
noncomputable def rEqS (K:Le):R2:=λx y H Q=>∃ a b xs ys,x=.ref a/\y=.ref b/\((SqL K H a xs/\SqL K H b ys)\/(SqT K H a xs/\SqT K H b ys))/\xs.all zU=true/\ys.all zU=true/\Q (.bl (eqS xs ys)) H
theorem zeu {xs ys:List V}{us vs:Lf}(r1:Vals xs us)(r2:Vals ys vs)(f1:xs.all zU=true)(f2:ys.all zU=true) : ∀ j (h1:j<us.toArray.size) (h2:j<vs.toArray.size),SeqAt.EqAt A s us.toArray[j] vs.toArray[j] (eqV (xs.getD j .non) (ys.getD j .non)):=by intro j h1 h2;rw [uh] at h1 h2;have l1:=r1.length;have l2:=r2.length;have e1:xs[j]? = some xs[j]:=uo (by lia);have e2:ys[j]? = some ys[j]:=uo (by lia);obtain⟨u,hu,ru⟩:=r1.get e1;obtain⟨v,hv,rv⟩:=r2.get e2;rw [uo h1] at hu;rw [uo h2] at hv;rw [List.getElem_toArray,List.getElem_toArray,uF hu,uF hv,GO,GO,e1,e2];exact zap ru rv (U7.mp f1 _ (uZ _)) (U7.mp f2 _ (uZ _))
theorem ziK (hu:X.A.units<cLine):OpR X (compareOp .Eq) (rEqS X.K):=by
 intro pins s σ H x y v u Q I rx ry h;obtain⟨a,b,xs,ys,rfl,rfl,hq,f1,f2,q⟩:=h;cases rx;cases ry;rcases hq with⟨ha,hb⟩ | ⟨ha,hb⟩
 ·obtain⟨its,r1,p1,_⟩:=I.list ha;obtain⟨its2,r2,p2,_⟩:=I.list hb;have l1:=r1.length;have l2:=r2.length;by_cases hl:xs.length=ys.length
  ·refine SeqAt.eq_listAt p1.isList p2.isList (by simp;lia) hu (zeu r1 r2 f1 f2) ⟨.bl _,H,I,rfl,?_⟩;have:eqS xs ys=(List.range its.toArray.size).all (λj=>eqV (xs.getD j .non) (ys.getD j .non)):=by unfold eqS;rw [uh,← l1,hl,Nat.min_self];simp
   rw [← this];exact q
  ·refine SeqAt.eq_list_lengthsAt p1.isList p2.isList (by simp;lia) hu ⟨.bl _,H,I,rfl,?_⟩;have:eqS xs ys=false:=by unfold eqS;rw [show(xs.length == ys.length)=false by simp [hl],U3]
   rw [← this];exact q
 ·obtain⟨its,r1,p1,_⟩:=I.tuple ha;obtain⟨its2,r2,p2,_⟩:=I.tuple hb;have l1:=r1.length;have l2:=r2.length;refine SeqAt.eq_tupleAt p1 p2 hu (zeu r1 r2 f1 f2) ⟨.bl _,H,I,rfl,?_⟩;rw [uh,uh,← l1,← l2];exact q
theorem zgH {K:Frag}(hK:X.K=K)(hu:X.A.units<cLine):OpR X (compareOp .Eq) (rEqS K):=by subst hK;exact ziK hu
theorem zhG {A:Around}(hr:Room k A):A.units<cLine:=Nat.lt_of_succ_lt (WL hr)
end
end L2
namespace L2
open PySem PySem.W
end L2
namespace L2
open PySem PySem.Spec PySem.Calls PyProof.Rows PySem.W
section
variable {X:Cx} {pins:Lp} {σ:St} {H:Hp} {s:Shared} {h':Heap}
theorem Inv.turned2 (I:Inv X pins σ H s)(k:∀ b o,b≠e->b≠it->s.heap.get? b=some o->h'.get? b=some o)(fe:FpOk X pins H e)(fi:FpOk X pins H it) : Inv X pins σ H { s with heap:=h',toks:=t' }:=by
 obtain⟨e0,e1,_,e3,e4,e5⟩:=fe;obtain⟨i0,i1,_,i3,i4,i5⟩:=fi;have hk:∀ b o,b∉[e,it]->s.heap.get? b=some o->h'.get? b=some o:=λb o hb q=>k b o (λz=>hb (by simp [z])) (λz=>hb (by simp [z])) q
 have nn:∀ b u,H b=some u->b∉[e,it]:=λb u q z=>by
  rcases um.mp z with z | z
  ·rw [z,e0] at q;cases q
  ·rw [uE.mp z,i0] at q;cases q
 refine I.step (g':=s.gens) (d':=s.drawn) (ch:=[e,it]) ?_ (λb o _ _ hc q _=>hk b o hc q) (λb o _ _ hc q _=>⟨o.slots,hk b o hc q⟩) (λ_ _ _ _ n=>n) (λb o hc q=>⟨o,hk b o hc q⟩)
  (λ_ _ q=>q) (λ_ _ _ q=>q) (λb ps q=>⟨#[],by rw [q];simp⟩) ?_ ?_ I.bare
 ·intro b hb;rcases um.mp hb with z | z
  ·rw [z];exact⟨e3,e1,e4,e5⟩
  ·rw [uE.mp z];exact⟨i3,i1,i4,i5⟩
 ·intro m hm;obtain⟨o,es,ep,ho,r⟩:=hm;exact⟨o,es,ep,k _ o (Ne.symm e1) (Ne.symm i1) ho,r⟩
 ·intro b u q;refine(I.hok b u q).stay (λc v hc z=>hk c v ?_ z) (λ_ z=>z) λ_ _ z=>z;rcases hc with z' | z'
  ·rw [z'];exact nn b u q
  ·exact nn c _ z'
end
noncomputable def Ite (go:Nat->Hp->Prop)(yv:Nat->Hp->V->Prop)(stop:Nat->Hp->Prop):It:=⟨go,λi H x H'=>∃ p v,H p=none/\yv i H v/\x=.ref p/\H' = upd H p (.tup [.int i,v]),stop⟩
theorem zdm {P:Program}{w:World}{K:Le}{elts:Lg}{ek:Nat}{epos:Pos}{e it:Addr}{go:Nat->Hp->Prop}{yv:Nat->Hp->V->Prop}{stop:Nat->Hp->Prop}{tn:Nat->Heap->Prop}(hne:e≠it)
  (hobj:∀ i h,tn i h->∃ o,h.get? it=some o/\∀ v,o.data≠.cell v)
  (hkeep:∀ i h h',tn i h->(∀ o,h.get? it=some o->h'.get? it=some o)->tn i h')
  (hitem:∀ (X:Cx),X.prog=P->X.w=w->X.K=K->X.calm=true->∀ (i:Nat) (pins:Lp) (s:Shared) (σ:St) (H:Hp),Inv X pins σ H s->tn i s.heap->go i H->(∃ old,IsEnum s.heap e it i old) ->
   ∃ fp n Pd St,Draws P w X.A.in1 it fp n Pd St/\St i s.heap/\i<n/\e∉fp/\(∀ h,St (i+1) h->tn (i+1) h)/\∀ x,Pd i x->∃ v,RelV v x/\yv i H v)
  (hdone:∀ (X:Cx),X.prog=P->X.w=w->X.K=K->X.calm=true->∀ (i:Nat) (pins:Lp) (s:Shared) (σ:St) (H:Hp),Inv X pins σ H s->tn i s.heap->stop i H ->
   ∃ fp n Pd St,Draws P w X.A.in1 it fp n Pd St/\St n s.heap) :
  Turn P w K (.Tuple elts ek epos) (Ite go yv stop) [e,it] e (λi h=>(∃ old,IsEnum h e it i old)/\tn i h) where
 mem:=by simp
 obj:=λi h st b hb=>by
  rcases um.mp hb with z | z
  ·obtain⟨⟨old,q⟩,_⟩:=st
   rw [z]
   exact⟨_,q,λv z=>nomatch z⟩
  ·rw [uE.mp z]
   exact hobj i h st.2
 keep:=λi h h' st k=>by
  obtain⟨⟨old,q⟩,st⟩:=st
  exact⟨⟨old,k e (by simp) _ q⟩,hkeep i h h' st (k it (by simp))⟩
 item:=by
  intro X hP hw hK hc i pins s σ H E I hf st hg
  obtain⟨⟨old,q⟩,st⟩:=st
  obtain⟨fp,n,Pd,St,D,hs,hlt,hef,hst,hv⟩:=hitem X hP hw hK hc i pins s σ H I st hg ⟨old,q⟩
  refine wpAny_pyNext_enum_itemD D q hs hlt hne hef λx h1 tk hx ho hs1 hT hsz hk=>⟨_,rfl,?_⟩
  obtain⟨v,rv,yv'⟩:=hv x hx
  have helt:e<s.heap.objs.size:=uf q
  refine wpAny_letOwnedTupleGo_enum ho λh2 he2 hs2=>?_
  have hTe:s.heap.objs.size≠e:=Uq helt
  have hT2:h2.get? s.heap.objs.size=some { cls:=.type "tuple",data:=.seq #[.int i tk,x] }:=(hs2.2 _ hTe).trans hT
  have fe:=hf e (by simp)
  have fi:=hf it (by simp)
  have fresh:H s.heap.objs.size=none:=I.hok.fresh (ui _)
  have hit:s.heap.objs.size≠it:=by
   obtain⟨o,z⟩:=D.live _ _ hs
   exact Uq (uf z)
  have I0:=I.laid (t':=s.toks) (a:=s.heap.objs.size) (o:=.tup [.int i,v]) (h':=s.heap.push { cls:=.type "tuple",data:=.seq #[.int i tk,x] }) (λb o z=>ue _ z) (ui _) (by
   refine⟨by show 2<=sizeLine;decide,[.int i tk,x],.cons ⟨tk,rfl⟩ (.cons rv .nil),?_⟩
   exact⟨_,uz _ rfl,rfl,_,rfl⟩)
  have fe0:FpOk X pins (upd H s.heap.objs.size (.tup [.int i,v])) e:=⟨by rw [zl (Ne.symm hTe)];exact fe.1,fe.2⟩
  have fi0:FpOk X pins (upd H s.heap.objs.size (.tup [.int i,v])) it:=⟨by rw [zl (Ne.symm hit)];exact fi.1,fi.2⟩
  have I2:=I0.turned2 (h':=h2) (t':=tk+1) (e:=e) (it:=it) (λb o hbe hbi z=>by
   by_cases hb:b=s.heap.objs.size
   ·rw [hb] at z ⊢
    have z':some ({ cls:=.type "tuple",data:=.seq #[.int i tk,x] }:Obj)=some o:=(uz _ rfl).symm.trans z
    rw [hT2];exact z'
   ·have z':s.heap.get? b=some o:=by
     have z2:=z
     rw [Heap.get?_push_ne _ _ _ hb] at z2
     exact z2
    exact(hs2.2 b hbe).trans (hk b o hbe hbi z')) fe0 fi0
  refine⟨.ref s.heap.objs.size,upd H s.heap.objs.size (.tup [.int i,v]),I2,rfl,⟨_,v,fresh,yv',rfl,rfl⟩,⟨⟨_,he2⟩,?_⟩,λb hb=>?_⟩
  ·refine hkeep _ _ _ (hst h1 hs1) λo z=>(hs2.2 it (Ne.symm hne)).trans z
  ·rcases um.mp hb with z | z
   ·rw [z];exact fe0.1
   ·rw [uE.mp z];exact fi0.1
 done:=by
  intro X hP hw hK hc i pins s σ H E I hf st hg
  obtain⟨⟨old,q⟩,st⟩:=st
  obtain⟨fp,n,Pd,St,D,hs⟩:=hdone X hP hw hK hc i pins s σ H I st hg
  have fi:=hf it (by simp)
  refine wpAny_pyNext_enum_endD D q hs λh1 hx=>⟨rfl,I.turned (t':=s.toks) (λb o hb z=>hx b o hb z) fi.1 fi.2.1 fi.2.2.2.1 fi.2.2.2.2.1 fi.2.2.2.2.2⟩
 self:=λA i s Q E st h=>by
  obtain⟨⟨old,q⟩,_⟩:=st
  exact G8 q h
section
variable {X:Cx}
noncomputable def goS (x:Str):Nat->Hp->Prop:=λi _=>i<x.cps.size
noncomputable def yvS (x:Str):Nat->Hp->V->Prop:=λi _ v=>∃ c,x.cps[i]? = some c/\v=.str ⟨#[c]⟩
noncomputable def stS (x:Str):Nat->Hp->Prop:=λi _=>x.cps.size<=i
theorem zax {P:Program}{w:World}{K:Le}{elts:Lg}{ek:Nat}{epos:Pos}{e it:Addr}(hne:e≠it)(x:Str)(t:Tok) : Turn P w K (.Tuple elts ek epos) (Ite (goS x) (yvS x) (stS x)) [e,it] e (λi h=>(∃ old,IsEnum h e it i old)/\(h.IsStrIter it (strIterType x) x t i/\i<=x.cps.size)):=by
 have dr:∀ A:Around,A.handled=none->Draws P w A it [it] x.cps.size (λi v=>∃ c u,x.cps[i]? = some c/\v=.str ⟨#[c]⟩ u) (λi h=>h.IsStrIter it (strIterType x) x t i):=λA hA=>by
  unfold strIterType;cases ha:x.cps.all (· < 128)
  ·exact Draws.strWide hA it x t
  ·exact Draws.strAscii hA it x t
 refine zdm hne ?_ ?_ ?_ ?_
 ·intro i h st;obtain⟨o,ho,_,hd⟩:=st.1;exact⟨o,ho,λv z=>by rw [hd] at z;cases z⟩
 ·intro i h h' st k;obtain⟨⟨o,ho,r⟩,hl⟩:=st;exact⟨⟨o,k o ho,r⟩,hl⟩
 ·intro X hP hw hK hc i pins s σ H I st hg he;refine⟨[it],_,_,_,dr X.A.in1 (I.ok.hd hc),st.1,hg,by simp [hne],λh z=>⟨z,hg⟩,λv hv=>?_⟩;obtain⟨c,u,hcu,rfl⟩:=hv;exact⟨.str ⟨#[c]⟩,⟨u,rfl⟩,c,hcu,rfl⟩
 ·intro X hP hw hK hc i pins s σ H I st hg;have hi:i=x.cps.size:=Nat.le_antisymm st.2 hg;subst hi;exact⟨[it],_,_,_,dr X.A.in1 (I.ok.hd hc),st.1⟩
noncomputable def VA (ta:TA):TI:=λσ H R=>ta σ H λvs H1=>∃ z,vs=[.str z]/\R (Ite (goS z) (yvS z) (stS z)) H1
theorem zew {a:Expr}{ta:TA}{p pos:Pos}{elts:Lg}{ek:Nat}{epos:Pos}(hg:Gl X "enumerate")(hm:X.mg "enumerate" = none)(ha:PA X [a] ta)(hs:starEach [a] X.env=[(false,eval a X.env)]:=by rfl) : PI X (.Tuple elts ek epos) (.Call (.Name "enumerate" p) [a] [] pos) (VA ta):=by
 intro pins s σ H R I h;refine Call_ (Z7 I hg hm boot_enumerate (PyProof.Rows.callWith_type1 (thn (ha pos pins s σ H _ I h) λus s1 zq=>?_) hs rfl));obtain⟨vs,H1,I1,r1,q1⟩:=zq;obtain⟨z,e,q⟩:=q1;subst e;obtain⟨u,rfl,t,rfl⟩:=r1.one;refine call_enumerate_str λh' he hit hsz hk=>G8 he ?_;have hlt:s1.heap.objs.size<=s1.heap.objs.size+1:=UP _;refine⟨s1.heap.objs.size+1,[s1.heap.objs.size+1,s1.heap.objs.size],_,_,H1,rfl,I1.kept (t':=s1.toks) hk,zax (Nat.succ_ne_self _) z t,⟨⟨_,he⟩,hit,UD _⟩,λb hb=>?_,q⟩
 have hb':s1.heap.objs.size<=b:=by
  rcases um.mp hb with z | z
  ·rw [z];exact hlt
  ·rw [uE.mp z];exact ui _
 exact I1.fpOk hb' (I1.hok.fresh hb')
theorem zex {K:Le}{l:Lc}{a b:Nat}{tb:TS}{D:Ends}{σ:St}{H:Hp}(Pv:Nat->St->Hp->Prop)(h0:Pv 0 σ H) (hs:∀ i c σ H,l[i]? = some c->Pv i σ H->∀ p,H p=none->tb { D with nx:=Pv (i+1),ct:=Pv (i+1),bk:=D.nx } ((σ.set a (some (.int i))).set b (some (.str (S [c])))) (upd H p (.tup [.int i,.str (S [c])]))) (hd:∀ σ H,Pv l.length σ H->D.nx σ H):Wm (Ite (goS (S l)) (yvS (S l)) (stS (S l))) (gTup K 2 (XX (xC a) (XX (xC b) gNil))) tb D σ H:=by
 refine⟨λi m σ H=>m=l.length - i/\i<=l.length/\Pv i σ H,⟨l.length,by simp,UD _,h0⟩,?_⟩;rintro i m σ H ⟨rfl,hi,p⟩;by_cases hlt:i<l.length
 ·refine .inr ⟨by show i<(S l).cps.size;rw [Vv];exact hlt,Pv (i+1),λσ' H' p'=>⟨l.length - (i+1),by lia,rfl,hlt,p'⟩,λx H' y=>?_⟩;obtain⟨q,v,hq,⟨c,hc,rfl⟩,rfl,rfl⟩:=y;rw [zhD] at hc;exact⟨q,_,rfl,SqT.of zb,rfl,_,_,rfl,_,_,rfl,rfl,hs i c σ H hc p q hq⟩
 ·have e:i=l.length:=by lia
  subst e;exact .inl ⟨by show(S l).cps.size<=l.length;rw [Vv];exact ui _,hd σ H p⟩
end
structure kU (k:Nat)(A:Around):Prop where
 dp:A.depth+3 * k+5<recursionLimit
 un:A.units+16 * k+200<cLine
theorem kU.mono (r:kU k A)(h:j<=k):kU j A:=⟨by have:=r.dp;lia,by have:=r.un;lia⟩
theorem kU.deeper {A:Around}(r:kU (k+1) A)(env:Env):kU k (A.deeper env):=
 ⟨by have:=r.dp;show A.depth+1+3 * k+5<_;lia,by have:=r.un;show A.units+3+16 * k+200<_;lia⟩
theorem Room.marked {A:Around}(r:Room k A)(v:Option Value):kU k (A.mark v):=⟨by have:=r.dp;exact this,by have:=r.un;exact this⟩
noncomputable abbrev Cx.hot (X:Cx):Cx:={ X with calm:=false }
structure zhH (P:Program)(w:World)(K:Le)(mg:La)(base:Heap)(k:Nat)(f:Addr)(fd:FuncData)(ps:Lh)(sp:Sp):Prop where
 len:∀ vs H Q E,sp vs H Q E->vs.length=ps.length
 run:∀ (A:Around) (outer:List Env) (s:Shared) (H:Hp) (args:Args) (us:Lf) (vs:List V) (Q:VK) (E:XK),kU k A->Env0 P w K mg base A outer s H->BindsTo s fd args (ps.zip us)->Vals vs us->sp vs H Q E ->
  codeAny (model P w) A (.call (.ref f) args) (CR CX0 outer P w H s Q E) s
theorem ziL {P:Program}{w:World}{K:Le}{mg:La}{base:Heap}{k:Nat}{f:Addr}{name qual:Str}{params:Arguments}{body:List Stmt}{scope:Scope}{dV kV doc pm cdv ct oc:Value}{an od:Option Addr} {osl:Array (Option Value)} {N ps:Lh} {sp:Sp} (lk:K.lookup f=some ⟨oc,od,.func (PySem.W.fnOf name qual params body scope dV kV doc pm an cdv ct),osl⟩) (hcd:PySem.W.codeIn K cdv qual=true) (S:zj N ps scope) (len:∀ vs H Q E,sp vs H Q E->vs.length=ps.length) (hbody:∀ (A:Around) (outer:List Env) (s:Shared) (H:Hp) (vs:List V) (Q:VK) (E:XK),kU k (A.deeper (envOfC qual scope s.heap.objs.size f cdv))->sp vs H Q E -> ∃ t,PSs (cxOf CX0 P w K mg base N qual scope f cdv A outer s H E).hot.nox body t/\t { nx:=λ_ H'=>Q .non H',rt:=Q } (start N vs) H) : zhH P w K mg base (k+1) f (PySem.W.fnOf name qual params body scope dV kV doc pm an cdv ct) ps sp:=by
 refine⟨len,λA outer s H args us vs Q E hr e0 hb r hsp=>?_⟩;have hl:=len _ _ _ _ hsp;have KX:K.In s.heap:=e0.mod.kin.keeps λb o e=>(e0.bs b o e).1;have lim:s.heap.NoLimit:=e0.mod.nolimit.keeps λb o e=>(e0.bs b o e).1
 have hkind:∀ y∈ps.zip us,scope.names.lookup y.1=some .local\/(scope.names.lookup y.1=some .cell/\((cellsFrom (s.heap.objs.size+1) scope.names []).lookup y.1).isSome=true):=λy hy=>by
  obtain⟨n,v⟩:=y;rcases S.par n (gg hy).1 with q | q
  ·exact .inl q
  ·exact .inr ⟨q,U0 _ _ _ (.inl q)⟩
 have hdp:A.depth<recursionLimit:=by have:=hr.dp;lia
 refine gj hdp (KX _ _ lk) rfl S.co S.gen rfl (Gd KX hcd) (hb _ _ _ _ ?_);refine U1 S.kind hkind λenv he s1 x=>?_;subst he;refine⟨lim.keeps x.toInCall.keep,Ge ?_⟩;obtain⟨t,ht,hq⟩:=hbody A outer s H vs Q E (hr.deeper _) hsp;have e1:Env0 P w K mg base { A with handled:=none } outer s H:=⟨e0.frames,e0.mod,e0.bs,e0.bsz,e0.funs,e0.frf,e0.hok,e0.bare⟩
 have I0:Inv (cxOf CX0 P w K mg base N qual scope f cdv { A with handled:=none } outer s H E) [] (start N vs) H s1:=X3 S rfl e1 hl r x;have I:Inv (cxOf CX0 P w K mg base N qual scope f cdv A outer s H E).hot.nox [] (start N vs) H s1:=by obtain⟨ok,I1,I2,I3,I4,I5,I6,I7,I8,I9,I10⟩:=I0;exact⟨⟨ok.mod,ok.kind,ok.glob,ok.blt,ok.above,ok.inj,ok.has,ok.cab,λz=>absurd (show false=true from z) (by decide),Around.frames_deeper e0.frames,ok.stk,ok.exf,ok.bs,ok.bsz,ok.noex,ok.exfs,ok.funs,ok.frf⟩,I1,I2,I3,I4,I5,I6,I7,I8,I9,I10⟩
 refine uj (ht [] s1 (start N vs) H _ I hq) (λfl s' hs=>?_) λe s' hs=>hs.elim
 have fin:∀ {σ':St} {H':Hp} {v:V} {u:Value},Inv (cxOf CX0 P w K mg base N qual scope f cdv A outer s H E).hot.nox [] σ' H' s'->RelV v u->Q v H'->CE outer P w H s Q u s':=
  λ{σ' H' v u} J rv q=>⟨v,H',J.os,J.bare,J.base,J.hok,rv,q⟩
 cases fl with
 | ret u=>obtain⟨v,σ',H',J,rv,q⟩:=hs;exact fin J rv q
 | next=>obtain⟨σ',H',J,q⟩:=hs;exact fin (v:=V.non) (u:=Value.none) J rfl q
 | brk=>obtain⟨_,_,_,q⟩:=hs;exact False.elim q
 | cont=>obtain⟨_,_,_,q⟩:=hs;exact False.elim q
structure OkH (P:Program)(w:World)(K:Le)(mg:La)(base:Heap)(k:Nat)(x:Str)(ps:Lh)(sp:Sp):Prop where
 ex:∃ (f:Addr) (fd:FuncData),PySem.W.keepIn K (.ref f)=true/\Binds K fd ps []/\mg x=some (.ref f)/\zhH P w K mg base k f fd ps sp
section
variable {P:Program} {w:World} {K:Le} {mg:La} {base:Heap}
theorem Df.okH {x:Str}{st:Stmt}{ps N:Lh}{k:Nat}{sp:Sp}(D:Df K mg x st ps)(Sc:zj N ps (zf st))(len:∀ vs H Q E,sp vs H Q E->vs.length=ps.length) (hbody:∀ (f:Addr) (cdv:Value) (A:Around) (outer:List Env) (s:Shared) (H:Hp) (vs:List V) (Q:VK) (E:XK),kU k (A.deeper (envOfC x (zf st) s.heap.objs.size f cdv))->sp vs H Q E -> ∃ t,PSs (cxOf CX0 P w K mg base N x (zf st) f cdv A outer s H E).hot.nox (zZ st) t/\t { nx:=λ_ H'=>Q .non H',rt:=Q } (start N vs) H):OkH P w K mg base (k+1) x ps sp:=by obtain⟨f,fd,F,b,m⟩:=D.ex;refine⟨f,fd,F.kp,b,m,?_⟩;obtain⟨oc,od,kV,doc,pm,an,cdv,ct,osl,rfl,lk,hcd⟩:=F.ex;exact ziL lk hcd Sc len λA outer s H vs Q E hr h=>hbody f cdv A outer s H vs Q E hr h
end
section
variable {X:Cx} {k j:Nat} {x:Str} {ps:Lh} {sp:Sp} {p pos:Pos} {e:Expr} {es:Lg} {t:TA}
theorem zey (F:OkH X.prog X.w X.K X.mg X.base k x ps sp)(hr:kU j X.A)(hk:k<=j)(ha:PA X (e::es) t)(hg:Gl X x:=by rfl) (hdb:(x == ("__debug__":Str))=false:=by decide) (he:starEach (e::es) X.env=(false,eval e X.env)::starEach es X.env:=by rfl) (hpl:(backTo pos (starEach es X.env)).any (·.1)=false:=by rfl):PE X (.Call (.Name x p) (e::es) [] pos) (kR sp [] E0 t):=by
 obtain⟨f,fd,kp,b,m,G⟩:=F.ex;intro pins s σ H Q I h;refine uL (wZ I hg m ?_ hdb);refine Uh (h₀:=X.base) I.ok.mod.kin kp (thn (ha pos pins s σ H _ I h) λus s1 ⟨vs,H1,I1,r,q⟩=>⟨I1.kIn,?_⟩) he hpl;have r2:Vals (vs++[]) (us++[]):=r.append .nil;have hl:(us++[]).length=ps.length:=by rw [← r2.length];exact G.len _ _ _ _ q
 refine Ua (Ug (G.run X.A X.stack s1 H1 ⟨us,[]⟩ (us++[]) (vs++[]) Q E0 (hr.mono hk) I1.env0 (b s1 us I1.kIn hl) r2 q) λr s' hq=>?_);cases r with
 | error e=>exact False.elim hq
 | ok fl=>
  cases fl with
  | ret u=>exact I1.after hq
  | next=>exact False.elim hq
  | brk=>exact False.elim hq
  | cont=>exact False.elim hq
end
end L2
namespace L2
open PySem PySem.Spec PyProof.Rows
def zb6 (K:Le)(J:It)(tt:TT)(te:TE)(σ:St)(H1:Hp)(Q:VK):Prop:=∀ D,H1 D=none->∃ W:Nat->Nat->List V->Hp->Prop,(∃ m,W 0 m [] (upd H1 D (.lst [])))/\∀ i m ys H',W i m ys H'->H' D=some (.lst ys) /\
 ((J.stop i H'/\Q (.ref D) H')\/(J.go i H'/\∀ v H2,J.yld i H' v H2->∃ pa u1 u2,v=.ref pa/\SqT K H2 pa [u1,u2]/\tt (some u1::some u2::σ) H2 λb H3=>
  if b=true then te (some u1::some u2::σ) H3 λy H4=>H4 D=some (.lst ys)/\ys.length<sizeLine/\∃ m',m' < m/\W (i+1) m' (ys++[y]) (upd H4 D (.lst (ys++[y]))) else ∃ m',m' < m/\W (i+1) m' ys H3))
noncomputable def tLC2 (K:Le)(wi:TI)(tt:TT)(te:TE):TE:=λσ H Q=>wi σ H λJ H1=>zb6 K J tt te σ H1 Q
structure QU (X:Cx)(x x2:Str)(scope:Scope):Prop where
 xN:x∉X.N
 yN:x2∉X.N
 xy:x≠x2
 nd:X.N.Nodup
 kind:scope.kind=.function
 cell:∀ y∈scope.names,y.2≠.cell
 names:∀ y∈scope.names,y.2=.local->scope.names.lookup y.1=some .local
 var:scope.names.lookup x=some .local
 vay:scope.names.lookup x2=some .local
 free:∀ y∈scope.names,y.2=.free->X.env.kindOf y.1=some .cell
 out:∀ y∈X.N,scope.names.lookup y≠some .local
 calm:X.calm=true
section
variable {X:Cx} {elt iter:Expr} {x x2:Str} {px py pt pos:Pos} {kt:Nat} {ifs:Lg} {scope:Scope} {wi:TI} {tt:TT} {te:TE}
theorem QU.ren (L:QU X x x2 scope):X.N.map (renL [x,x2])=X.N:=by
 refine(gZ λy hy=>?_).trans (List.map_id _);unfold renL;rw [ub]
 ·rfl
 ·intro z;rcases um.mp z with z | z
  ·exact L.xN (z ▸ hy)
  ·exact L.yN (uE.mp z ▸ hy)
theorem QU.gen (L:QU X x x2 scope):Za X [x,x2] scope:=by
 refine⟨?_,L.kind,L.cell,L.names,λy hy=>?_,L.free,by rw [L.ren];exact L.out,λy hy h=>?_,L.calm⟩
 ·rw [L.ren];refine Ue.mpr ⟨λz=>?_,Ue.mpr ⟨L.yN,L.nd⟩⟩;rcases um.mp z with z | z
  ·exact L.xy z
  ·exact L.xN z
 ·rcases um.mp hy with z | z
  ·rw [z];exact L.var
  ·rw [uE.mp z];exact L.vay
 ·rcases um.mp h with z | z
  ·exact absurd (z ▸ hy) L.xN
  ·exact absurd (uE.mp z ▸ hy) L.yN
end
end L2
namespace L2
open PySem PySem.Spec PySem.Calls PyProof.Rows PySem.W
section
variable {X:Cx}
end
def Pairs (H:Hp)(a:Addr)(ps:List (Lc×Lc)):Prop:=∃ as:Ld,H a=some (.lst (as.map V.ref))/\as.length=ps.length/\∀ (i:Nat) p,ps[i]? = some p->∃ b,as[i]? = some b/\H b=some (.tup [.str (S p.1),.str (S p.2)])
theorem Pairs.mono (h:Pairs H a ps)(g:Same H H'):Pairs H' a ps:=by obtain⟨as,h1,h2,h3⟩:=h;refine⟨as,g _ _ h1,h2,λi p e=>?_⟩;obtain⟨b,h4,h5⟩:=h3 i p e;exact⟨b,h4,g _ _ h5⟩
theorem zgI (K:Frag)(wi:TI)(tt:TT)(te:TE):tLC2 K wi tt te=λσ H Q=>wi σ H λJ H1=>zb6 K J tt te σ H1 Q:=rfl
theorem zgJ:bootBuiltins "list" = some (.type "list"):=by decide +kernel
section
variable {X:Cx}
def NoT (K:Frag)(H:Hp)(x:V):Prop:=x=.non\/(∃ b,x=.bl b)\/(∃ i,x=.int i)\/(∃ a xs,x=.ref a/\H a=some (.lst xs))\/(∃ a xs,x=.ref a/\H a=some (.tup xs))\/∃ a kvs,x=.ref a/\H a=some (.dK kvs)
theorem NoT.mono {K:Frag}{H H':Hp}{x:V}(h:NoT K H x)(g:Same H H'):NoT K H' x:=by
 rcases h with h | h | h | ⟨a,xs,h,e⟩ | ⟨a,xs,h,e⟩ | ⟨a,xs,h,e⟩
 ·exact .inl h
 ·exact .inr (.inl h)
 ·exact .inr (.inr (.inl h))
 ·exact .inr (.inr (.inr (.inl ⟨a,xs,h,g _ _ e⟩)))
 ·exact .inr (.inr (.inr (.inr (.inl ⟨a,xs,h,g _ _ e⟩))))
 ·exact .inr (.inr (.inr (.inr (.inr ⟨a,xs,h,g _ _ e⟩))))
theorem VB {K:Frag}(hK:X.K=K):OpR X (compareOp .In) (rIn K false):=by subst hK;exact zc7
theorem zay {K:Frag}(hK:X.K=K):OpR X (compareOp .NotIn) (rIn K true):=by subst hK;exact Vp
theorem Inv.big' {pins:Lp}{s:Shared}(I:Inv X pins σ H s):sysModules<s.heap.objs.size:=by have h:mainGlobals<s.heap.objs.size:=(I.mod.glob.keeps I.bk).lt;exact Nat.lt_trans (by decide) h
end
inductive Dat where
 | fl (v:V)
 | tp (xs:List Dat)
 | ls (xs:List Dat)
mutual
noncomputable def IsDt (H:Hp):Dat->V->Prop
 | .fl x,v=>v=x/\zU x=true
 | .tp ds,v=>∃ a vs,v=.ref a/\H a=some (.tup vs)/\IsDs H ds vs
 | .ls ds,v=>∃ a vs,v=.ref a/\H a=some (.lst vs)/\IsDs H ds vs
noncomputable def IsDs (H:Hp):List Dat->List V->Prop
 | [],vs=>vs=[]
 | d::ds,vs=>∃ v r,vs=v::r/\IsDt H d v/\IsDs H ds r
end
mutual
noncomputable def eqD:Dat->Dat->Bool
 | .fl x,.fl y=>eqV x y
 | .tp xs,.tp ys=>eqDs xs ys
 | .ls xs,.ls ys=>eqDs xs ys
 | .fl _,.tp _=>false
 | .fl _,.ls _=>false
 | .tp _,.fl _=>false
 | .tp _,.ls _=>false
 | .ls _,.fl _=>false
 | .ls _,.tp _=>false
noncomputable def eqDs:List Dat->List Dat->Bool
 | [],[]=>true
 | x::xs,y::ys=>eqD x y&&eqDs xs ys
 | [],_::_=>false
 | _::_,[]=>false
end
mutual
noncomputable def depD:Dat->Nat
 | .fl _=>0
 | .tp xs=>xP xs+1
 | .ls xs=>xP xs+1
noncomputable def xP:List Dat->Nat
 | []=>0
 | d::ds=>max (depD d) (xP ds)
end
mutual
theorem IsDt.mono (g:Same H H'):∀ {d:Dat} {v:V},IsDt H d v->IsDt H' d v
 | .fl x,v,h=>by simp only [IsDt] at h ⊢;exact h
 | .tp ds,v,h=>by simp only [IsDt] at h ⊢;obtain⟨a,vs,e,h1,h2⟩:=h;exact⟨a,vs,e,g _ _ h1,IsDs.mono g h2⟩
 | .ls ds,v,h=>by simp only [IsDt] at h ⊢;obtain⟨a,vs,e,h1,h2⟩:=h;exact⟨a,vs,e,g _ _ h1,IsDs.mono g h2⟩
theorem IsDs.mono (g:Same H H'):∀ {ds:List Dat} {vs:List V},IsDs H ds vs->IsDs H' ds vs
 | [],vs,h=>by simp only [IsDs] at h ⊢;exact h
 | d::ds,vs,h=>by simp only [IsDs] at h ⊢;obtain⟨v,r,e,h1,h2⟩:=h;exact⟨v,r,e,IsDt.mono g h1,IsDs.mono g h2⟩
end
theorem IsDs.len:∀ {ds:List Dat} {vs:List V},IsDs H ds vs->ds.length=vs.length
 | [],vs,h=>by simp only [IsDs] at h;subst h;rfl
 | d::ds,vs,h=>by simp only [IsDs] at h;obtain⟨v,r,e,h1,h2⟩:=h;rw [e,uq,uq,IsDs.len h2]
theorem IsDs.snoc:∀ {ds:List Dat} {vs:List V},IsDs H ds vs->IsDt H d v->IsDs H (ds++[d]) (vs++[v])
 | [],vs,h,k=>by simp only [IsDs] at h;subst h;simp only [Uk,IsDs];exact⟨v,[],rfl,k,rfl⟩
 | d::ds,vs,h,k=>by simp only [IsDs] at h;obtain⟨v,r,e,h1,h2⟩:=h;subst e;simp only [uH,IsDs];exact⟨v,_,rfl,h1,IsDs.snoc h2 k⟩
theorem IsDs.app:∀ {ds:List Dat} {vs:List V},IsDs H ds vs->IsDs H es us->IsDs H (ds++es) (vs++us)
 | [],vs,h,k=>by simp only [IsDs] at h;subst h;exact k
 | d::ds,vs,h,k=>by simp only [IsDs] at h;obtain⟨v,r,e,h1,h2⟩:=h;subst e;simp only [uH,IsDs];exact⟨v,_,rfl,h1,IsDs.app h2 k⟩
theorem IsDs.get:∀ {ds:List Dat} {vs:List V} {j:Nat} {v:V},IsDs H ds vs->vs[j]? = some v->∃ d,ds[j]? = some d/\IsDt H d v
 | [],vs,j,v,h,k=>by simp only [IsDs] at h;subst h;simp at k
 | d::ds,vs,j,v,h,k=>by
  simp only [IsDs] at h;obtain⟨v',r,e,h1,h2⟩:=h;subst e;cases j with
  | zero=>simp at k;subst k;exact⟨d,rfl,h1⟩
  | succ j=>simpa using IsDs.get h2 (j:=j) (by simpa using k)
theorem YW (h:zU v=true):eqV v v=true:=by cases v<;>first | exact rfl | exact Uo _ | cases h
mutual
theorem WR:∀ {d e:Dat} {v:V},IsDt H d v->IsDt H e v->eqD d e=true
 | .fl x,.fl y,v,h,k=>by simp only [IsDt] at h k;obtain⟨rfl,f⟩:=h;obtain⟨rfl,_⟩:=k;simp only [eqD];exact YW f
 | .tp xs,.tp ys,v,h,k=>by simp only [IsDt] at h k;obtain⟨a,vs,rfl,h1,h2⟩:=h;obtain⟨b,us,e,k1,k2⟩:=k;cases e;rw [h1] at k1;cases k1;simp only [eqD];exact Jp h2 k2
 | .ls xs,.ls ys,v,h,k=>by simp only [IsDt] at h k;obtain⟨a,vs,rfl,h1,h2⟩:=h;obtain⟨b,us,e,k1,k2⟩:=k;cases e;rw [h1] at k1;cases k1;simp only [eqD];exact Jp h2 k2
 | .fl x,.tp ys,v,h,k=>by simp only [IsDt] at h k;obtain⟨rfl,f⟩:=h;obtain⟨b,us,rfl,k1,k2⟩:=k;simp [zU] at f
 | .fl x,.ls ys,v,h,k=>by simp only [IsDt] at h k;obtain⟨rfl,f⟩:=h;obtain⟨b,us,rfl,k1,k2⟩:=k;simp [zU] at f
 | .tp xs,.fl y,v,h,k=>by simp only [IsDt] at h k;obtain⟨rfl,f⟩:=k;obtain⟨b,us,rfl,k1,k2⟩:=h;simp [zU] at f
 | .ls xs,.fl y,v,h,k=>by simp only [IsDt] at h k;obtain⟨rfl,f⟩:=k;obtain⟨b,us,rfl,k1,k2⟩:=h;simp [zU] at f
 | .tp xs,.ls ys,v,h,k=>by simp only [IsDt] at h k;obtain⟨a,vs,rfl,h1,h2⟩:=h;obtain⟨b,us,e,k1,k2⟩:=k;cases e;rw [h1] at k1;cases k1
 | .ls xs,.tp ys,v,h,k=>by simp only [IsDt] at h k;obtain⟨a,vs,rfl,h1,h2⟩:=h;obtain⟨b,us,e,k1,k2⟩:=k;cases e;rw [h1] at k1;cases k1
theorem Jp:∀ {ds es:List Dat} {vs:List V},IsDs H ds vs->IsDs H es vs->eqDs ds es=true
 | [],[],_,_,_=>rfl
 | d::ds,e::es,vs,h,k=>by simp only [IsDs] at h k;obtain⟨v,r,rfl,h1,h2⟩:=h;obtain⟨v',r',e',k1,k2⟩:=k;cases e';simp only [eqDs,uG];exact⟨WR h1 k1,Jp h2 k2⟩
 | [],e::es,vs,h,k=>by simp only [IsDs] at h k;subst h;obtain⟨v',r',e',k1,k2⟩:=k;cases e'
 | d::ds,[],vs,h,k=>by simp only [IsDs] at h k;subst k;obtain⟨v',r',e',k1,k2⟩:=h;cases e'
end
mutual
noncomputable def Z1:Dat->Bool
 | .fl v=>zU v
 | .tp xs=>yx xs
 | .ls xs=>yx xs
noncomputable def yx:List Dat->Bool
 | []=>true
 | d::ds=>Z1 d&&yx ds
end
mutual
theorem Zb:∀ {d:Dat},Z1 d=true->eqD d d=true
 | .fl v,h=>by simp only [eqD];exact YW h
 | .tp xs,h=>by simp only [eqD];simp only [Z1] at h;exact Jq h
 | .ls xs,h=>by simp only [eqD];simp only [Z1] at h;exact Jq h
theorem Jq:∀ {ds:List Dat},yx ds=true->eqDs ds ds=true
 | [],_=>rfl
 | d::ds,h=>by simp only [yx,uG] at h;simp only [eqDs,uG];exact⟨Zb h.1,Jq h.2⟩
end
mutual
theorem IsDt.flat:∀ {d:Dat} {v:V},IsDt H d v->Z1 d=true
 | .fl x,v,h=>by simp only [IsDt] at h;simp only [Z1];exact h.2
 | .tp ds,v,h=>by simp only [IsDt] at h;obtain⟨a,vs,e,h1,h2⟩:=h;simp only [Z1];exact IsDs.flat h2
 | .ls ds,v,h=>by simp only [IsDt] at h;obtain⟨a,vs,e,h1,h2⟩:=h;simp only [Z1];exact IsDs.flat h2
theorem IsDs.flat:∀ {ds:List Dat} {vs:List V},IsDs H ds vs->yx ds=true
 | [],vs,h=>rfl
 | d::ds,vs,h=>by simp only [IsDs] at h;obtain⟨v,r,e,h1,h2⟩:=h;simp only [yx,uG];exact⟨IsDt.flat h1,IsDs.flat h2⟩
end
theorem Zc:∀ {ds es:List Dat},ds.length≠es.length->eqDs ds es=false
 | [],[],h=>absurd rfl h
 | d::ds,e::es,h=>by simp only [eqDs];rw [Zc (ds:=ds) (es:=es) (by simpa using h),U3]
 | [],_::_,_=>rfl
 | _::_,[],_=>rfl
noncomputable def dGet (ds:List Dat)(j:Nat):Dat:=ds.getD j (.fl .non)
theorem Zd:∀ {ds es:List Dat},ds.length=es.length->(List.range ds.length).all (λj=>eqD (dGet ds j) (dGet es j))=eqDs ds es
 | [],[],_=>rfl
 | d::ds,e::es,h=>by rw [uq,List.range_succ_eq_map,Gb,List.all_map];simp only [eqDs];have:=Zd (ds:=ds) (es:=es) (by simpa using h);rw [← this];rfl
 | [],_::_,h=>by simp at h
 | _::_,[],h=>by simp at h
theorem WS {ds es:List Dat}(hn:n=ds.length)(hm:m=es.length):((List.range (min n m)).all (λj=>eqD (dGet ds j) (dGet es j))&&n == m)=eqDs ds es:=by
 subst hn hm;by_cases h:ds.length=es.length
 ·rw [← h,Nat.min_self,Uo,U9];exact Zd h
 ·rw [Zc h,uM.mpr h,U3]
section
variable {X:Cx} {pins:Lp} {σ:L2.St} {H:Hp} {s:Shared}
theorem wK (I:Inv X pins σ H s)(h:H a=some (.tup vs)):∃ its:Lf,Vals vs its/\s.heap.IsTuple a its.toArray:=by obtain⟨its,r,p,_⟩:=I.tuple (SqT.of h);exact⟨its,r,p⟩
theorem xb (I:Inv X pins σ H s)(h:H a=some (.lst vs)):∃ its:Lf,Vals vs its/\s.heap.IsList a its.toArray:=by obtain⟨its,r,p,_⟩:=I.list (SqL.of h);exact⟨its,r,p.isList⟩
mutual
theorem ziM (I:Inv X pins σ H s):∀ (d e:Dat) (A:Around) (x y:V) (u w:Value),A.units+depD d<cLine->IsDt H d x->IsDt H e y->RelV x u->RelV y w->SeqAt.EqAt A s u w (eqD d e)
 | .fl x,.fl y,A,x',y',u,w,hu,h,k,ru,rw'=>by simp only [IsDt] at h k;obtain⟨rfl,f⟩:=h;obtain⟨rfl,g⟩:=k;simp only [eqD];exact zap ru rw' f g
 | .tp ds,.tp es,A,x,y,u,w,hu,h,k,ru,rw'=>by
  have hh:=h;have kk:=k;simp only [IsDt] at h k;obtain⟨a,vs,rfl,h1,h2⟩:=h;obtain⟨b,us,rfl,k1,k2⟩:=k;cases ru;cases rw';by_cases hab:a=b
  ·subst hab;rw [WR hh kk];exact SeqAt.EqAt.same _
  obtain⟨i1,r1,p1⟩:=wK I h1;obtain⟨i2,r2,p2⟩:=wK I k1;simp only [depD] at hu;refine SeqAt.EqAt.of_refs hab ?_;have:=SeqAt.RcAt.tuples (A:=A) (e:=λj=>eqD (dGet ds j) (dGet es j)) p1 p2 (by lia) (kc I ds es A.in1 vs us i1 i2 (by show A.units+1+_<_;lia) h2 k2 r1 r2);rw [WS (by rw [uh,← r1.length,h2.len]) (by rw [uh,← r2.length,k2.len])] at this;simp only [eqD];exact this
 | .ls ds,.ls es,A,x,y,u,w,hu,h,k,ru,rw'=>by
  have hh:=h;have kk:=k;simp only [IsDt] at h k;obtain⟨a,vs,rfl,h1,h2⟩:=h;obtain⟨b,us,rfl,k1,k2⟩:=k;cases ru;cases rw';by_cases hab:a=b
  ·subst hab;rw [WR hh kk];exact SeqAt.EqAt.same _
  obtain⟨i1,r1,p1⟩:=xb I h1;obtain⟨i2,r2,p2⟩:=xb I k1;have l1:=r1.length;have l2:=r2.length;have l3:=h2.len;have l4:=k2.len;simp only [depD] at hu;refine SeqAt.EqAt.of_refs hab ?_;simp only [eqD];by_cases hl:ds.length=es.length
  ·have:=SeqAt.RcAt.lists (A:=A) (e:=λj=>eqD (dGet ds j) (dGet es j)) p1 p2 (by simp;lia) (by lia) (kc I ds es A.in1 vs us i1 i2 (by show A.units+1+_<_;lia) h2 k2 r1 r2);rw [uh,← l1,← l3,Zd hl] at this;exact this
  ·rw [Zc hl];exact SeqAt.RcAt.lists_lengths p1 p2 (by simp;lia) (by lia)
 | .fl x,.tp es,A,x',y,u,w,hu,h,k,ru,rw'=>by
  simp only [IsDt] at h k;obtain⟨rfl,f⟩:=h;obtain⟨b,us,rfl,k1,k2⟩:=k;cases rw';obtain⟨i2,r2,p2⟩:=wK I k1;simp only [eqD];have hu:A.units<cLine:=by lia
  cases x' with
  | non=>cases ru;exact SeqAt.EqAt.none_tuple p2 hu
  | bl z=>cases ru;exact SeqAt.EqAt.bool_tuple z p2 hu
  | int z=>obtain⟨t,rfl⟩:=ru;exact SeqAt.EqAt.int_tuple z t p2 hu
  | str z=>obtain⟨t,rfl⟩:=ru;exact SeqAt.EqAt.str_tuple z t p2 hu
  | byt z=>simp [zU] at f
  | flt z=>simp [zU] at f
  | ref z=>simp [zU] at f
  | ty z=>simp [zU] at f
 | .fl x,.ls es,A,x',y,u,w,hu,h,k,ru,rw'=>by
  simp only [IsDt] at h k;obtain⟨rfl,f⟩:=h;obtain⟨b,us,rfl,k1,k2⟩:=k;cases rw';obtain⟨i2,r2,p2⟩:=xb I k1;simp only [eqD];have hu:A.units<cLine:=by lia
  cases x' with
  | non=>cases ru;exact SeqAt.EqAt.none_list p2 hu
  | bl z=>cases ru;exact SeqAt.EqAt.bool_list z p2 hu
  | int z=>obtain⟨t,rfl⟩:=ru;exact SeqAt.EqAt.int_list z t p2 hu
  | str z=>obtain⟨t,rfl⟩:=ru;exact SeqAt.EqAt.str_list z t p2 hu
  | byt z=>simp [zU] at f
  | flt z=>simp [zU] at f
  | ref z=>simp [zU] at f
  | ty z=>simp [zU] at f
 | .tp ds,.fl y,A,x,y',u,w,hu,h,k,ru,rw'=>by
  simp only [IsDt] at h k;obtain⟨rfl,f⟩:=k;obtain⟨b,us,rfl,k1,k2⟩:=h;cases ru;obtain⟨i2,r2,p2⟩:=wK I k1;simp only [eqD];have hu:A.units<cLine:=by lia
  cases y' with
  | non=>cases rw';exact SeqAt.EqAt.tuple_none p2 hu
  | bl z=>cases rw';exact SeqAt.EqAt.tuple_bool z p2 hu
  | int z=>obtain⟨t,rfl⟩:=rw';exact SeqAt.EqAt.tuple_int z t p2 hu
  | str z=>obtain⟨t,rfl⟩:=rw';exact SeqAt.EqAt.tuple_str z t p2 hu
  | byt z=>simp [zU] at f
  | flt z=>simp [zU] at f
  | ref z=>simp [zU] at f
  | ty z=>simp [zU] at f
 | .ls ds,.fl y,A,x,y',u,w,hu,h,k,ru,rw'=>by
  simp only [IsDt] at h k;obtain⟨rfl,f⟩:=k;obtain⟨b,us,rfl,k1,k2⟩:=h;cases ru;obtain⟨i2,r2,p2⟩:=xb I k1;simp only [eqD];have hu:A.units<cLine:=by lia
  cases y' with
  | non=>cases rw';exact SeqAt.EqAt.list_none p2 hu
  | bl z=>cases rw';exact SeqAt.EqAt.list_bool z p2 hu
  | int z=>obtain⟨t,rfl⟩:=rw';exact SeqAt.EqAt.list_int z t p2 hu
  | str z=>obtain⟨t,rfl⟩:=rw';exact SeqAt.EqAt.list_str z t p2 hu
  | byt z=>simp [zU] at f
  | flt z=>simp [zU] at f
  | ref z=>simp [zU] at f
  | ty z=>simp [zU] at f
 | .tp ds,.ls es,A,x,y,u,w,hu,h,k,ru,rw'=>by simp only [IsDt] at h k;obtain⟨a,vs,rfl,h1,h2⟩:=h;obtain⟨b,us,rfl,k1,k2⟩:=k;cases ru;cases rw';obtain⟨i1,r1,p1⟩:=wK I h1;obtain⟨i2,r2,p2⟩:=xb I k1;simp only [eqD];exact SeqAt.EqAt.tuple_list p1 p2 (by omega)
 | .ls ds,.tp es,A,x,y,u,w,hu,h,k,ru,rw'=>by simp only [IsDt] at h k;obtain⟨a,vs,rfl,h1,h2⟩:=h;obtain⟨b,us,rfl,k1,k2⟩:=k;cases ru;cases rw';obtain⟨i1,r1,p1⟩:=xb I h1;obtain⟨i2,r2,p2⟩:=wK I k1;simp only [eqD];exact SeqAt.EqAt.list_tuple p1 p2 (by omega)
theorem kc (I:Inv X pins σ H s):∀ (ds es:List Dat) (A:Around) (xs ys:List V) (us ws:Lf),A.units+xP ds<cLine->IsDs H ds xs->IsDs H es ys->Vals xs us->Vals ys ws ->
  ∀ j (h1:j<us.toArray.size) (h2:j<ws.toArray.size),SeqAt.EqAt A s us.toArray[j] ws.toArray[j] (eqD (dGet ds j) (dGet es j))
 | [],es,A,xs,ys,us,ws,hu,h,k,ru,rw',j,h1,h2=>by simp only [IsDs] at h;subst h;have:=ru.length;rw [uh] at h1;simp at this;omega
 | d::ds,[],A,xs,ys,us,ws,hu,h,k,ru,rw',j,h1,h2=>by simp only [IsDs] at k;subst k;have:=rw'.length;rw [uh] at h2;simp at this;omega
 | d::ds,e::es,A,xs,ys,us,ws,hu,h,k,ru,rw',j,h1,h2=>by
  simp only [IsDs] at h k;obtain⟨v,r,rfl,a1,a2⟩:=h;obtain⟨v',r',rfl,b1,b2⟩:=k;simp only [xP] at hu;cases ru with
  | cons q1 q2=>
   cases rw' with
   | cons q3 q4=>
    cases j with
    | zero=>exact ziM I d e A _ _ _ _ (by omega) a1 b1 q1 q3
    | succ j=>have:=kc I ds es A _ _ _ _ (by omega) a2 b2 q2 q4 j (by simpa using h1) (by simpa using h2);simpa [dGet] using this
end
end
section
variable {X:Cx}
noncomputable def rEqD:R2:=λx y H Q=>∃ d e a b,x=.ref a/\y=.ref b/\IsDt H d (.ref a)/\IsDt H e (.ref b)/\depD d<=50/\Q (.bl (eqD d e)) H
noncomputable def rNeD:R2:=λx y H Q=>∃ d e a b,x=.ref a/\y=.ref b/\IsDt H d (.ref a)/\IsDt H e (.ref b)/\depD d<=50/\Q (.bl (!eqD d e)) H
theorem zez (hu:X.A.units+64<cLine):OpR X (compareOp .Eq) rEqD:=by
 intro pins s σ H x y v u Q I rx ry h;obtain⟨d,e,a,b,rfl,rfl,h,k,hd,q⟩:=h;cases rx;cases ry
 match d,e,h,k,hd,q with
 | .tp ds,.tp es,h,k,hd,q=>simp only [IsDt] at h k;obtain⟨_,vs,e1,h1,h2⟩:=h;obtain⟨_,us,e2,k1,k2⟩:=k;cases e1;cases e2;obtain⟨i1,r1,p1⟩:=wK I h1;obtain⟨i2,r2,p2⟩:=wK I k1;simp only [depD] at hd;refine SeqAt.eq_tupleAt (e:=λj=>eqD (dGet ds j) (dGet es j)) p1 p2 (by omega) (kc I ds es X.A.in1 vs us i1 i2 (by show X.A.units+1+_<_;omega) h2 k2 r1 r2) ⟨.bl _,H,I,rfl,?_⟩;rw [WS (by rw [uh,← r1.length,h2.len]) (by rw [uh,← r2.length,k2.len])];exact q
 | .ls ds,.ls es,h,k,hd,q=>
  simp only [IsDt] at h k;obtain⟨_,vs,e1,h1,h2⟩:=h;obtain⟨_,us,e2,k1,k2⟩:=k;cases e1;cases e2;obtain⟨i1,r1,p1⟩:=xb I h1;obtain⟨i2,r2,p2⟩:=xb I k1;have l1:=r1.length;have l2:=r2.length;have l3:=h2.len;have l4:=k2.len;simp only [depD] at hd;by_cases hl:ds.length=es.length
  ·refine SeqAt.eq_listAt (e:=λj=>eqD (dGet ds j) (dGet es j)) p1 p2 (by simp;lia) (by lia) (kc I ds es X.A.in1 vs us i1 i2 (by show X.A.units+1+_<_;lia) h2 k2 r1 r2) ⟨.bl _,H,I,rfl,?_⟩;rw [uh,← l1,← l3,Zd hl];exact q
  ·refine SeqAt.eq_list_lengthsAt p1 p2 (by simp;lia) (by lia) ⟨.bl _,H,I,rfl,?_⟩;simp only [eqD] at q;rw [Zc hl] at q;exact q
 | .tp ds,.ls es,h,k,hd,q=>simp only [IsDt] at h k;obtain⟨_,vs,e1,h1,h2⟩:=h;obtain⟨_,us,e2,k1,k2⟩:=k;cases e1;cases e2;obtain⟨i1,r1,p1⟩:=wK I h1;obtain⟨i2,r2,p2⟩:=xb I k1;exact SeqAt.RcAt.tuple_list p1 p2 (by omega) _ _ _ _ ⟨.bl _,H,I,rfl,q⟩
 | .ls ds,.tp es,h,k,hd,q=>simp only [IsDt] at h k;obtain⟨_,vs,e1,h1,h2⟩:=h;obtain⟨_,us,e2,k1,k2⟩:=k;cases e1;cases e2;obtain⟨i1,r1,p1⟩:=xb I h1;obtain⟨i2,r2,p2⟩:=wK I k1;exact SeqAt.RcAt.list_tuple p1 p2 (by omega) _ _ _ _ ⟨.bl _,H,I,rfl,q⟩
 | .fl x,e,h,k,hd,q=>simp only [IsDt] at h;obtain⟨rfl,f⟩:=h;simp [zU] at f
 | .tp ds,.fl x,h,k,hd,q=>simp only [IsDt] at k;obtain⟨rfl,f⟩:=k;simp [zU] at f
 | .ls ds,.fl x,h,k,hd,q=>simp only [IsDt] at k;obtain⟨rfl,f⟩:=k;simp [zU] at f
theorem WT (hu:X.A.units+64<cLine):OpR X (compareOp .NotEq) rNeD:=by
 intro pins s σ H x y v u Q I rx ry h;obtain⟨d,e,a,b,rfl,rfl,h,k,hd,q⟩:=h;cases rx;cases ry
 match d,e,h,k,hd,q with
 | .tp ds,.tp es,h,k,hd,q=>simp only [IsDt] at h k;obtain⟨_,vs,e1,h1,h2⟩:=h;obtain⟨_,us,e2,k1,k2⟩:=k;cases e1;cases e2;obtain⟨i1,r1,p1⟩:=wK I h1;obtain⟨i2,r2,p2⟩:=wK I k1;simp only [depD] at hd;refine SeqAt.RcNeAt.tuples (e:=λj=>eqD (dGet ds j) (dGet es j)) p1 p2 (by omega) (kc I ds es X.A.in1 vs us i1 i2 (by show X.A.units+1+_<_;omega) h2 k2 r1 r2) _ _ _ _ ⟨.bl _,H,I,rfl,?_⟩;rw [WS (by rw [uh,← r1.length,h2.len]) (by rw [uh,← r2.length,k2.len])];exact q
 | .ls ds,.ls es,h,k,hd,q=>
  simp only [IsDt] at h k;obtain⟨_,vs,e1,h1,h2⟩:=h;obtain⟨_,us,e2,k1,k2⟩:=k;cases e1;cases e2;obtain⟨i1,r1,p1⟩:=xb I h1;obtain⟨i2,r2,p2⟩:=xb I k1;have l1:=r1.length;have l2:=r2.length;have l3:=h2.len;have l4:=k2.len;simp only [depD] at hd;by_cases hl:ds.length=es.length
  ·refine SeqAt.RcNeAt.lists (e:=λj=>eqD (dGet ds j) (dGet es j)) p1 p2 (by simp;lia) (by lia) (kc I ds es X.A.in1 vs us i1 i2 (by show X.A.units+1+_<_;lia) h2 k2 r1 r2) _ _ _ _ ⟨.bl _,H,I,rfl,?_⟩;rw [uh,← l1,← l3,Zd hl];exact q
  ·refine SeqAt.RcNeAt.lists_lengths p1 p2 (by simp;lia) (by lia) _ _ _ _ ⟨.bl _,H,I,rfl,?_⟩;simp only [eqD] at q;rw [Zc hl] at q;exact q
 | .tp ds,.ls es,h,k,hd,q=>simp only [IsDt] at h k;obtain⟨_,vs,e1,h1,h2⟩:=h;obtain⟨_,us,e2,k1,k2⟩:=k;cases e1;cases e2;obtain⟨i1,r1,p1⟩:=wK I h1;obtain⟨i2,r2,p2⟩:=xb I k1;exact SeqAt.RcNeAt.tuple_list p1 p2 (by omega) _ _ _ _ ⟨.bl _,H,I,rfl,q⟩
 | .ls ds,.tp es,h,k,hd,q=>simp only [IsDt] at h k;obtain⟨_,vs,e1,h1,h2⟩:=h;obtain⟨_,us,e2,k1,k2⟩:=k;cases e1;cases e2;obtain⟨i1,r1,p1⟩:=xb I h1;obtain⟨i2,r2,p2⟩:=wK I k1;exact SeqAt.RcNeAt.list_tuple p1 p2 (by omega) _ _ _ _ ⟨.bl _,H,I,rfl,q⟩
 | .fl x,e,h,k,hd,q=>simp only [IsDt] at h;obtain⟨rfl,f⟩:=h;simp [zU] at f
 | .tp ds,.fl x,h,k,hd,q=>simp only [IsDt] at k;obtain⟨rfl,f⟩:=k;simp [zU] at f
 | .ls ds,.fl x,h,k,hd,q=>simp only [IsDt] at k;obtain⟨rfl,f⟩:=k;simp [zU] at f
end
noncomputable abbrev Tx:=Lc
noncomputable def tx (x:Tx):V:=.str (S x)
noncomputable abbrev ft (x:Tx):Dat:=.fl (.str (S x))
structure MS where
 mode:Tx
 word:Tx
 opens:List Tx
 talk:Tx
noncomputable abbrev Ev:=List Tx
noncomputable abbrev Ans:=Option (MS×List Ev)
noncomputable abbrev xc:Tx:=[116,101,120,116]
noncomputable abbrev zb7:Tx:=[109,97,114,107]
noncomputable abbrev zeA:Tx:=[111,112,101,110]
noncomputable abbrev YX:Tx:=[110,97,109,101]
noncomputable abbrev zaz:Tx:=[115,108,97,115,104]
noncomputable abbrev Vb:Tx:=[115,104,117,116]
noncomputable abbrev mGap:Tx:=[103,97,112]
noncomputable abbrev zb8:Tx:=[97,116,116,114]
noncomputable abbrev mIs:Tx:=[105,115]
noncomputable abbrev zeB:Tx:=[98,97,110,103]
noncomputable abbrev vH:Tx:=[98,97,114,101]
noncomputable abbrev zb9:Tx:=[99,111,100,101]
noncomputable abbrev mRow:Tx:=[114,111,119]
noncomputable abbrev VC:Tx:=[115,116,114,111,107,101]
noncomputable abbrev jK:Tx:=[113,117,111,116,101,100]
noncomputable abbrev VD:Tx:=[113,109,97,114,107]
noncomputable abbrev YY:Tx:=[100,111,110,101]
noncomputable abbrev kW:Tx:=[116,97,108,107]
noncomputable abbrev VE:Tx:=[116,109,97,114,107]
noncomputable abbrev QX:Tx:=[97,115,105,115]
noncomputable abbrev eBox:Tx:=[98,111,120]
noncomputable abbrev Ze:Tx:=[97,116,116,114]
noncomputable abbrev eIn:Tx:=[105,110]
noncomputable abbrev wA:Tx:=[115,105,103,110]
noncomputable abbrev zeC:Tx:=[110,101,120,116]
noncomputable abbrev zeD:Tx:=[119,111,114,100]
noncomputable abbrev zhI:Tx:=[115,97,105,100]
noncomputable abbrev eOut:Tx:=[111,117,116]
noncomputable abbrev j6:Tx:=[98,101,116,119,101,101,110]
noncomputable abbrev Z3:Tx:=[119,111,114,100]
noncomputable abbrev vp:Tx:=[115,97,105,100]
noncomputable abbrev Wn:Tx:=[115,116,114,111,107,101]
noncomputable abbrev ke:Tx:=[60,47,97,115,105,115,62]
noncomputable abbrev lt:Tx:=[97,98,99,100,101,102,103,104,105,106,107,108,109,110,111,112,113,114,115,116,117,118,119,120,121,122]
noncomputable def qZ (m:Tx)(op:List Tx)(es:List Ev):Ans:=some (⟨m,[],op,[]⟩,es)
noncomputable def Z4 (m:Tx)(op:List Tx):Option Nat->Ans
 | none=>none
 | some c=>qZ m op [[wA,[c]]]
noncomputable def gath (m w:Tx)(op:List Tx)(t:Tx)(n:Nat):Ans:=if n<w.length then none else some (⟨m,w,op,t⟩,[])
noncomputable def yc (op:List Tx)(es:List Ev):Ans:=if op=[] then none else qZ xc op.dropLast (es++[[eOut]])
noncomputable def vq (op:List Tx)(es:List Ev):Ans:=if op=[] then none else qZ (if op.getLast? = some QX then QX else xc) op (es++[[eIn]])
noncomputable def WU (op:List Tx)(c:Nat)(es:List Ev):Ans:=if c=32 then qZ mGap op es else if c=47 then qZ zaz op es else if c=62 then vq op es else none
noncomputable def fedB (c:Nat):Option (Tx×List Ev):=if c=32 then some (j6,[]) else if c=39 then some (vp,[[zhI]]) else if c∈ws then some (Z3,[[zeD],[wA,[c]]]) else none
noncomputable def fedW (c:Nat):Option (Tx×List Ev):=if c∈ws then some (Z3,[[wA,[c]]]) else fedB c
noncomputable def fedS (c:Nat):Option (Tx×List Ev):=if c=39 then some (j6,[]) else if c=92 then some (Wn,[]) else some (vp,[[wA,[c]]])
noncomputable def WV (t:Tx)(c:Nat):Option (Tx×List Ev):=if t=j6 then fedB c else if t=Z3 then fedW c else if t=vp then fedS c else if t=Wn then some (vp,[[wA,[c]]]) else none
noncomputable def fedM (op:List Tx)(t:Tx)(c:Option Nat):Ans:=match c with
 | none=>none
 | some c=>match WV t c with
  | none=>none
  | some (t',es)=>some (⟨kW,[],op,t'⟩,es)
noncomputable def Wa (w:Tx)(c:Nat):Option Nat:=if c=59 then L2.told w else none
noncomputable abbrev AtF:=Tx->List Tx->Tx->Nat->Ans
noncomputable def YZ:AtF:=λ_ op _ c=>if c=60 then qZ zeA op [] else if c=38 then qZ zb7 op [] else Z4 xc op (some c)
noncomputable def Y0:AtF:=λw op _ c=>if c∈fg then gath zb7 (w++[c]) op [] 2 else Z4 xc op (Wa w c)
noncomputable def Y1:AtF:=λ_ op _ c=>if c=47 then qZ Vb op [] else if c∈lt then gath YX [c] op [] 8 else none
noncomputable def aName:AtF:=λw op _ c=>if c∈lt then gath YX (w++[c]) op [] 8 else WU (op++[w]) c [[eBox,w]]
noncomputable def WW:AtF:=λ_ op _ c=>if c=62 then yc op [[eIn]] else none
noncomputable def QY:AtF:=λw op _ c=>if c∈lt then gath Vb (w++[c]) op [] 8 else if c=62/\op.getLast? = some w then yc op [] else none
noncomputable def aGap:AtF:=λ_ op _ c=>if c∈lt then gath zb8 [c] op [] 8 else none
noncomputable def Y2:AtF:=λw op _ c=>if c∈lt then gath zb8 (w++[c]) op [] 8 else if c=58 then qZ vH op [[Ze,w,vH]] else if c=40 then qZ mRow op [[Ze,w,mRow]] else if c=61 then some (⟨mIs,w,op,[]⟩,[]) else if c=33 then some (⟨zeB,w,op,[]⟩,[]) else none
noncomputable def aIs:AtF:=λw op _ c=>if c=34 then qZ jK op [[Ze,w,jK]] else none
noncomputable def Y3:AtF:=λw op _ c=>if c=34 then some (⟨kW,[],op,j6⟩,[[Ze,w,kW]]) else none
noncomputable def Y4:AtF:=λ_ op _ c=>if c∈ws then Z4 vH op (some c) else if c=126 then qZ zb9 op [] else WU op c []
noncomputable def Y5:AtF:=λw op _ c=>if w=[] then(if c∈fg then some (⟨zb9,[c],op,[]⟩,[]) else none) else Z4 vH op (L2.told (w++[c]))
noncomputable def aRow:AtF:=λ_ op _ c=>if c=92 then qZ VC op [] else if c=44 then qZ mRow op [[zeC]] else if c=41 then qZ YY op [] else Z4 mRow op (some c)
noncomputable def QZ:AtF:=λ_ op _ c=>Z4 mRow op (some c)
noncomputable def Q0:AtF:=λ_ op _ c=>if c=34 then qZ YY op [] else if c=38 then qZ VD op [] else Z4 jK op (some c)
noncomputable def WX:AtF:=λw op _ c=>if c∈fg then gath VD (w++[c]) op [] 2 else Z4 jK op (Wa w c)
noncomputable def Y6:AtF:=λ_ op _ c=>WU op c []
noncomputable def Y7:AtF:=λ_ op t c=>if c=38 then some (⟨VE,[],op,t⟩,[]) else if c=34 then(if t=j6\/t=Z3 then qZ YY op [] else none) else fedM op t (some c)
noncomputable def WY:AtF:=λw op t c=>if c∈fg then gath VE (w++[c]) op t 2 else fedM op t (Wa w c)
noncomputable def Y8:AtF:=λw op _ c=>if w++[c]=ke then yc op [] else if (w++[c]).isPrefixOf ke then some (⟨QX,w++[c],op,[]⟩,[]) else if c=60 then some (⟨QX,[c],op,[]⟩,w.map λk=>[wA,[k]]) else qZ QX op ((w.map λk=>[wA,[k]])++[[wA,[c]]])
noncomputable def Vc:List (Tx×AtF):=[(xc,YZ),(zb7,Y0),(zeA,Y1),(YX,aName),(zaz,WW),(Vb,QY),(mGap,aGap),(zb8,Y2),(mIs,aIs),(zeB,Y3),(vH,Y4),(zb9,Y5),(mRow,aRow),(VC,QZ),(jK,Q0),(VD,WX),(YY,Y6),(kW,Y7),(VE,WY),(QX,Y8)]
noncomputable def yd (s:MS)(c:Nat):Ans:=match Vc.lookup s.mode with
 | none=>none
 | some f=>f s.word s.opens s.talk c
noncomputable def dS (s:MS):Dat:=.tp [ft s.mode,ft s.word,.tp (s.opens.map ft),ft s.talk]
noncomputable def dE (e:Ev):Dat:=.tp (e.map ft)
noncomputable def dEs (es:List Ev):Dat:=.ls (es.map dE)
def OpV (H:Hp)(a:Addr)(op:List Tx):Prop:=H a=some (.tup (op.map tx))
def StV (H:Hp)(v:V)(s:MS):Prop:=∃ p o,v=.ref p/\H p=some (.tup [tx s.mode,tx s.word,.ref o,tx s.talk])/\OpV H o s.opens
def EvV (H:Hp)(v:V)(e:Ev):Prop:=∃ a,v=.ref a/\H a=some (.tup (e.map tx))
inductive EvA (H:Hp):List V->List Ev->Prop
 | nil:EvA H [] []
 | cons {v:V} {e:Ev} {vs:List V} {es:List Ev}:EvV H v e->EvA H vs es->EvA H (v::vs) (e::es)
def EvL (H:Hp)(a:Addr)(es:List Ev):Prop:=∃ vs,H a=some (.lst vs)/\EvA H vs es
noncomputable def AnV (G:Addr->Prop)(H:Hp)(v:V):Ans->Prop
 | none=>v=.non
 | some (s,es)=>∃ p sa ea,v=.ref p/\H p=some (.tup [sa,.ref ea])/\StV H sa s/\EvL H ea es/\G ea
theorem OpV.mono (h:OpV H a op)(g:Same H H'):OpV H' a op:=g _ _ h
theorem StV.mono (h:StV H v s)(g:Same H H'):StV H' v s:=by obtain⟨p,o,e,h1,h2⟩:=h;exact⟨p,o,e,g _ _ h1,h2.mono g⟩
theorem EvV.mono (h:EvV H v e)(g:Same H H'):EvV H' v e:=by obtain⟨a,e1,h1⟩:=h;exact⟨a,e1,g _ _ h1⟩
theorem EvA.mono (h:EvA H vs es)(g:Same H H'):EvA H' vs es:=by
 induction h with
 | nil=>exact .nil
 | cons h1 h2 ih=>exact .cons (h1.mono g) ih
theorem EvL.mono (h:EvL H a es)(g:Same H H'):EvL H' a es:=by obtain⟨vs,h1,h2⟩:=h;exact⟨vs,g _ _ h1,h2.mono g⟩
theorem AnV.mono (h:AnV G H v r)(g:Same H H'):AnV G H' v r:=by
 cases r with
 | none=>exact h
 | some x=>obtain⟨s,es⟩:=x;obtain⟨p,sa,ea,e1,h1,h2,h3,h4⟩:=h;exact⟨p,sa,ea,e1,g _ _ h1,h2.mono g,h3.mono g,h4⟩
theorem AnV.imp (h:AnV G H v r)(k:∀ a,G a->G' a):AnV G' H v r:=by
 cases r with
 | none=>exact h
 | some x=>obtain⟨s,es⟩:=x;obtain⟨p,sa,ea,e1,h1,h2,h3,h4⟩:=h;exact⟨p,sa,ea,e1,h1,h2,h3,k _ h4⟩
theorem EvA.app (h:EvA H vs es)(k:EvA H us fs):EvA H (vs++us) (es++fs):=by
 induction h with
 | nil=>exact k
 | cons h1 h2 ih=>exact .cons h1 ih
theorem EvA.len {vs:List V}{es:List Ev}(h:EvA H vs es):vs.length=es.length:=by
 induction h with
 | nil=>rfl
 | cons h1 h2 ih=>rw [uq,uq,ih]
theorem wB:∀ (l:List Tx),IsDs H (l.map ft) (l.map tx)
 | []=>by simp only [U4,IsDs]
 | x::l=>by simp only [uu,IsDs];exact⟨_,_,rfl,by simp only [IsDt];exact⟨rfl,rfl⟩,wB l⟩
theorem StV.dat (h:StV H v s):IsDt H (dS s) v:=by obtain⟨p,o,e,h1,h2⟩:=h;unfold dS;simp only [IsDt,IsDs];refine⟨p,_,e,h1,_,_,rfl,⟨rfl,rfl⟩,_,_,rfl,⟨rfl,rfl⟩,_,_,rfl,⟨o,_,rfl,h2,wB _⟩,_,_,rfl,⟨rfl,rfl⟩,rfl⟩
theorem EvV.dat (h:EvV H v e):IsDt H (dE e) v:=by obtain⟨a,e1,h1⟩:=h;unfold dE;simp only [IsDt];exact⟨a,_,e1,h1,wB _⟩
theorem EvA.dat {es:List Ev}(h:EvA H vs es):IsDs H (es.map dE) vs:=by
 induction h with
 | nil=>simp only [U4,IsDs]
 | cons h1 h2 ih=>simp only [uu,IsDs];exact⟨_,_,rfl,h1.dat,ih⟩
theorem EvL.dat (h:EvL H a es):IsDt H (dEs es) (.ref a):=by obtain⟨vs,h1,h2⟩:=h;unfold dEs;simp only [IsDt];exact⟨a,_,rfl,h1,h2.dat⟩
theorem zkD (hp:H p=none)(hp1:upd H p (.tup [.str (S m),.str (S w),.ref oa,.str (S t)]) p1=none)(ho:OpV H oa op)(he:EvL H ea es)(hg:G ea) : Same H (upd (upd H p (.tup [.str (S m),.str (S w),.ref oa,.str (S t)])) p1 (.tup [.ref p,.ref ea]))/\AnV G (upd (upd H p (.tup [.str (S m),.str (S w),.ref oa,.str (S t)])) p1 (.tup [.ref p,.ref ea])) (.ref p1) (some (⟨m,w,op,t⟩,es)):=by have g1:Same H (upd H p (.tup [.str (S m),.str (S w),.ref oa,.str (S t)])):=za hp;have g2:=za (o:=.tup [.ref p,.ref ea]) hp1;refine⟨g1.trans g2,p1,.ref p,ea,rfl,zb,⟨p,oa,rfl,g2 _ _ zb,ho.mono (g1.trans g2)⟩,he.mono (g1.trans g2),hg⟩
theorem evl0:EvL (upd H q (.lst [])) q []:=⟨[],zb,.nil⟩
theorem evl1 {e:Ev}(hq:upd H p (.tup (e.map tx)) q=none):EvL (upd (upd H p (.tup (e.map tx))) q (.lst [.ref p])) q [e]:= ⟨_,zb,.cons ⟨p,rfl,za hq _ _ zb⟩ .nil⟩
noncomputable def TkV (G:Addr->Prop)(H:Hp)(v:V):Option (Tx×List Ev)->Prop
 | none=>v=.non
 | some (t,es)=>∃ p ea,v=.ref p/\H p=some (.tup [tx t,.ref ea])/\EvL H ea es/\G ea
theorem TkV.mono (h:TkV G H v r)(g:Same H H'):TkV G H' v r:=by
 cases r with
 | none=>exact h
 | some x=>obtain⟨s,es⟩:=x;obtain⟨p,ea,e1,h1,h2,h3⟩:=h;exact⟨p,ea,e1,g _ _ h1,h2.mono g,h3⟩
theorem Wb (hp:H p=none)(he:EvL H ea es)(hg:G ea):Same H (upd H p (.tup [.str (S t),.ref ea]))/\TkV G (upd H p (.tup [.str (S t),.ref ea])) (.ref p) (some (t,es)):= ⟨za hp,p,ea,rfl,zb,he.mono (za hp),hg⟩
theorem Q1 (h1:H p=some (.tup [.str (S m),.str (S w),.ref oa,.str (S t)]))(ho:OpV H oa op)(he:EvL H ea es)(hg:G ea)(hp2:H p2=none) : AnV G (upd H p2 (.tup [.ref p,.ref ea])) (.ref p2) (some (⟨m,w,op,t⟩,es)):=by have g2:=za (o:=.tup [.ref p,.ref ea]) hp2;exact⟨p2,.ref p,ea,rfl,zb,⟨p,oa,rfl,g2 _ _ h1,ho.mono g2⟩,he.mono g2,hg⟩
theorem zca {K:Frag}{H:Hp}{a:Addr}{xs:List V}(h:H a=some (.tup xs)):TruV K (.ref a) H (!xs.isEmpty):=.inr (.inl ⟨xs,SqT.of h,rfl⟩)
theorem zeE (xs:List V):cutV xs none (some (-1))=xs.dropLast:=by
 unfold cutV;rw [HT.sIx_none,UQ,Nat.sub_zero];have:HT.sIx xs.length xs.length (some (-1))=xs.length - 1:=by unfold HT.sIx;simp only [];rw [ud (by decide)];lia
 rw [this,List.dropLast_eq_take]
theorem Y9 (xs:List V):cutV xs (some (-1)) none=xs.drop (xs.length - 1):=by
 unfold cutV;have:HT.sIx xs.length 0 (some (-1))=xs.length - 1:=by unfold HT.sIx;simp only [];rw [ud (by decide)];lia
 rw [this,HT.sIx_none];exact List.take_of_length_le (by rw [gB];lia)
theorem map_dropLast (op:List Tx):(op.map tx).dropLast=op.dropLast.map tx:=by rw [List.map_dropLast]
theorem qT (g:Same H H')(h:H' p=none):H p=none:=by
 cases e:H p with
 | none=>rfl
 | some o=>rw [g _ _ e] at h;cases h
theorem zdn {α:Type}(xs:List α):atI xs (-1)=xs.getLast?:=by
 unfold atI ixN;rw [ub (by decide)];cases xs with
 | nil=>rfl
 | cons x xs=>rw [ud (by rw [uq];omega),List.getLast?_eq_getElem?];simp only [UR];congr 1;simp;omega
theorem zeF (l:List Tx):(l.map tx).all zU=true:=by rw [U7];intro v hv;obtain⟨x,_,rfl⟩:=UT.mp hv;rfl
theorem zdo {l:List V}(h:l.all zU=true):(l.drop n).all zU=true:=by rw [U7] at h ⊢;exact λv hv=>h v (List.mem_of_mem_drop hv)
theorem zcb (a b:Tx):(S a == S b)=decide (a=b):=by rw [UC,u4,vo,Uu]
theorem zgK (op:List Tx)(w:Tx):eqS ((op.map tx).drop ((op.map tx).length - 1)) [.str (S w)]=decide (op.getLast? = some w):=by
 rcases List.eq_nil_or_concat op with rfl | ⟨l,z,rfl⟩
 ·rfl
 ·have e:((l++[z]).map tx).drop (((l++[z]).map tx).length - 1)=[tx z]:=by
   rw [Uv,ug]
   simp
  rw [List.concat_eq_append,e,List.getLast?_append]
  simp [eqS,eqV,tx,zcb]
theorem VF (a:Tx)(l:List Tx):inV (.str (S a)) (l.map λx=>.str (S x))=decide (a∈l):=by
 unfold inV
 induction l with
 | nil=>rfl
 | cons x l ih=>rw [uu,U8,ih];show((S x == S a)||decide (a∈l))=decide (a∈x::l);rw [zcb,UC,Bool.or_eq_true,Uu,Uu,Uu,um];exact⟨λh=>h.elim (λe=>.inl e.symm) .inr,λh=>h.elim (λe=>.inl e.symm) .inr⟩
theorem OpV.updL (h:OpV H a op)(hp:H p=some (.lst xs)):OpV (upd H p (.lst ys)) a op:=by unfold OpV at h ⊢;rw [zl (zbH h hp (by intro z;cases z))];exact h
theorem StV.updL (h:StV H v s)(hp:H p=some (.lst xs)):StV (upd H p (.lst ys)) v s:=by obtain⟨q,o,e,h1,h2⟩:=h;exact⟨q,o,e,by rw [zl (zbH h1 hp (by intro z;cases z))];exact h1,h2.updL hp⟩
theorem EvV.updL (h:EvV H v e)(hp:H p=some (.lst xs)):EvV (upd H p (.lst ys)) v e:=by obtain⟨q,e1,h1⟩:=h;exact⟨q,e1,by rw [zl (zbH h1 hp (by intro z;cases z))];exact h1⟩
theorem EvA.updL (h:EvA H vs es)(hp:H p=some (.lst xs)):EvA (upd H p (.lst ys)) vs es:=by
 induction h with
 | nil=>exact .nil
 | cons h1 h2 ih=>exact .cons (h1.updL hp) ih
noncomputable def runM:MS->Lc->Except Nat (MS×List Ev)
 | s,[]=>.ok (s,[])
 | s,c::r=>match yd s c with
  | none=>.error 0
  | some (s',es)=>match runM s' r with
   | .error n=>.error (n+1)
   | .ok (s'',fs)=>.ok (s'',es++fs)
def ziN (s:MS)(r:Ans):Prop:=∀ s' es,r=some (s',es)->s.word.length<=8->s'.word.length<=8/\s'.opens.length<=s.opens.length+1/\es.length<=10
theorem zkE:∀ e∈Vc,∀ (w:Tx) (op:List Tx) (t:Tx) (c:Nat) (s':MS) (es:List Ev),e.2 w op t c=some (s',es)->w.length<=8->s'.word.length<=8/\s'.opens.length<=op.length+1/\es.length<=10:=by
 have led:∀ op c es s' es',WU op c es=some (s',es')->s'.word.length<=8/\s'.opens.length<=op.length/\es'.length<=es.length+1:=by
  intro op c es s' es' h;simp only [WU,qZ,vq] at h
  repeat' split at h
  all_goals (first | cases h | skip)
  all_goals simp
 have shut:∀ op es s' es',yc op es=some (s',es')->s'.word.length<=8/\s'.opens.length<=op.length/\es'.length<=es.length+1:=by
  intro op es s' es' h;simp only [yc,qZ] at h;split at h
  ·cases h
  ·cases h;simp
 have toldK:∀ m op o s' es',Z4 m op o=some (s',es')->s'.word.length<=8/\s'.opens.length<=op.length/\es'.length<=10:=by
  intro m op o s' es' h;cases o with
  | none=>cases h
  | some c=>cases h;simp
 have gathK:∀ m w op t n s' es',n<=8->gath m w op t n=some (s',es')->s'.word.length<=8/\s'.opens.length<=op.length/\es'.length<=10:=by
  intro m w op t n s' es' hn h;simp only [gath] at h;split at h
  ·cases h
  ·cases h;simp;lia
 have feedK:∀ t c t' es',WV t c=some (t',es')->es'.length<=10:=by
  intro t c t' es' h;simp only [WV,fedB,fedW,fedS] at h
  repeat' split at h
  all_goals (first | cases h | skip)
  all_goals simp
 have fedK:∀ op t o s' es',fedM op t o=some (s',es')->s'.word.length<=8/\s'.opens.length<=op.length/\es'.length<=10:=by
  intro op t o s' es' h;cases o with
  | none=>cases h
  | some c=>
   simp only [fedM] at h;cases hf:WV t c with
   | none=>rw [hf] at h;cases h
   | some r=>obtain⟨t',fs⟩:=r;rw [hf] at h;cases h;exact⟨by simp,by simp,feedK _ _ _ _ hf⟩
 have pre:∀ l:Tx,l.isPrefixOf ke=true->l.length<=8:=by intro l h;rw [gn] at h;have:=h.length_le;simp at this;lia
 intro e he w op t c s' es h hw;simp only [Vc,um,Gx,GL] at he;rcases he with rfl | rfl | rfl | rfl | rfl | rfl | rfl | rfl | rfl | rfl | rfl | rfl | rfl | rfl | rfl | rfl | rfl | rfl | rfl | rfl;all_goals simp only [YZ,Y0,Y1,aName,WW,QY,aGap,Y2,aIs,Y3,Y4,Y5,aRow,QZ,Q0,WX,Y6,Y7,WY,Y8] at h
 all_goals repeat' split at h
 all_goals first
  | (have:=toldK _ _ _ _ _ h;omega)
  | (have:=gathK _ _ _ _ _ _ _ (by decide) h;omega)
  | (have:=fedK _ _ _ _ _ h;omega)
  | (have:=led _ _ _ _ _ h;simp at this ⊢;omega)
  | (have:=shut _ _ _ _ h;simp at this ⊢;omega)
  | (cases h;simp;omega)
  | (cases h;simp;done)
  | (cases h;have:=pre _ (by assumption);simp at this ⊢;omega)
  | cases h
theorem zcc (s:MS)(c:Nat):ziN s (yd s c):=by
 intro s' es h hw;unfold yd at h;cases hl:Vc.lookup s.mode with
 | none=>rw [hl] at h;cases h
 | some f=>
  rw [hl] at h
  have hm:(s.mode,f)∈Vc:=by
   have:∀ (l:List (Tx×AtF)),l.lookup s.mode=some f->(s.mode,f)∈l:=by
    intro l
    induction l with
    | nil=>intro z;cases z
    | cons e l ih=>
     intro z;rw [uY] at z;split at z
     ·rename_i hb;cases z;have:s.mode=e.1:=by simpa using hb
      rw [this];exact Uy
     ·exact uQ _ (ih z)
   exact this _ hl
  exact zkE _ hm _ _ _ _ _ _ h hw
theorem EvA.get {H:Hp}{vs:List V}{es:List Ev}{i:Nat}{v:V}(h:EvA H vs es)(e:vs[i]? = some v):∃ x,es[i]? = some x/\EvV H v x:=by
 induction h generalizing i with
 | nil=>simp at e
 | cons h1 h2 ih=>
  cases i with
  | zero=>simp at e;subst e;exact⟨_,rfl,h1⟩
  | succ i=>simpa using ih (i:=i) (by simpa using e)
theorem Ka:∀ l:List Tx,xP (l.map ft)=0
 | []=>by simp only [U4,xP]
 | x::l=>by simp only [uu,xP,depD,Ka l,Nat.max_self]
theorem dep_S (s:MS):depD (dS s)<=2:=by unfold dS;simp only [depD,xP,Ka];decide
end L2
namespace L2
open PySem PySem.Spec PyProof.Rows
section
variable {κ:Type} [DecidableEq κ]
noncomputable def valV (kvs:List (κ×V))(k:κ):Option V:=(kvs.find? λkv=>decide (kv.1=k)).map (·.2)
noncomputable def putK (kvs:List (κ×V))(k:κ)(v:V):List (κ×V):= if (kvs.any λkv=>decide (kv.1=k))=true then kvs.map (λkv=>if kv.1=k then(kv.1,v) else kv) else kvs++[(k,v)]
noncomputable def zhJ (kvs:List (κ×V))(k:κ):List (κ×V):=kvs.filter λkv=>decide (kv.1≠k)
theorem Q2 {p:κ×V}{r:List (κ×V)}{k:κ}(e:p.1=k):valV (p::r) k=some p.2:=by simp [valV,UX,e]
theorem Q3 {p:κ×V}{r:List (κ×V)}{k:κ}(e:¬ p.1=k):valV (p::r) k=valV r k:=by simp [valV,UX,e]
theorem Kb (k:κ):∀ kvs:List (κ×V),(kvs.any λkv=>decide (kv.1=k))=(valV kvs k).isSome
 | []=>rfl
 | p::r=>by
  rw [U8];by_cases e:p.1=k
  ·simp only [Q2 e,Us e,Bool.true_or,Option.isSome_some]
  ·rw [Q3 e,uC e,Bool.false_or];exact Kb k r
theorem Kc (kvs:List (κ×V))(k:κ)(v:V):(putK kvs k v).length<=kvs.length+1:=by
 unfold putK;split
 ·rw [uk];lia
 ·rw [ug,uq,Uw];lia
theorem RelO.isSome_eq {o:Option V}{u:Option Value}(r:RelO o u):o.isSome=u.isSome:=by
 cases o with
 | none=>cases u with
  | none=>rfl
  | some _=>exact(show False from r).elim
 | some _=>cases u with
  | none=>exact(show False from r).elim
  | some _=>rfl
theorem RelO.getD {o:Option V}{u:Option Value}(r:RelO o u)(rd:RelV d d'):RelV (o.getD d) (u.getD d'):=by
 cases o with
 | none=>cases u with
  | none=>exact rd
  | some _=>exact(show False from r).elim
 | some _=>cases u with
  | none=>exact(show False from r).elim
  | some _=>exact r
theorem KV.val (r:KV kvs vs)(k:κ):RelO (valV kvs k) (valueAt vs k):=by
 unfold KV at r
 induction r with
 | nil=>exact True.intro
 | @cons p q ps qs h t ih=>
  obtain⟨h1,h2⟩:=h;by_cases e:p.1=k
  ·have e':q.1=k:=h1.symm.trans e;have b:valueAt (q::qs) k=some q.2:=by simp [valueAt,UX,e']
   rw [Q2 e,b];exact h2
  ·have e':¬ q.1=k:=λz=>e (h1.trans z);have b:valueAt (q::qs) k=valueAt qs k:=by simp [valueAt,UX,e']
   rw [Q3 e,b];exact ih
theorem KV.any {kvs:List (κ×V)}{vs:List (κ×Value)}(r:KV kvs vs)(k:κ):(kvs.any λkv=>decide (kv.1=k))=vs.any λkv=>decide (kv.1=k):=by
 unfold KV at r
 induction r with
 | nil=>rfl
 | cons h t ih=>rw [U8,U8,ih,h.1]
theorem KV.repl {kvs:List (κ×V)}{vs:List (κ×Value)}(r:KV kvs vs)(k:κ)(ry:RelV y u) : KV (kvs.map λkv=>if kv.1=k then(kv.1,y) else kv) (vs.map λkv=>if kv.1=k then(kv.1,u) else kv):=by
 unfold KV at r ⊢
 induction r with
 | nil=>exact .nil
 | @cons p q ps qs h t ih=>
  rw [uu,uu];refine .cons ?_ ih;obtain⟨h1,h2⟩:=h;by_cases e:p.1=k
  ·rw [ud e,ud (h1.symm.trans e)];exact⟨h1,ry⟩
  ·rw [ub e,ub (λz=>e (h1.trans z))];exact⟨h1,h2⟩
theorem KV.put (r:KV kvs vs)(k:κ)(ry:RelV y u):KV (putK kvs k y) (stored vs k u):=by
 unfold putK stored;rw [r.any k];by_cases e:(vs.any λkv=>decide (kv.1=k))=true
 ·rw [ud e,ud e];exact r.repl k ry
 ·rw [ub e,ub e];exact Paired.snoc r ⟨rfl,ry⟩
theorem KV.drop (r:KV kvs vs)(k:κ):KV (zhJ kvs k) (without vs k):=by
 unfold KV at r ⊢;unfold zhJ without
 induction r with
 | nil=>exact .nil
 | @cons p q ps qs h t ih=>
  obtain⟨h1,h2⟩:=h;rw [Gy,Gy];by_cases e:p.1=k
  ·have a:¬ decide (p.1≠k)=true:=by simp [e]
   have b:¬ decide (q.1≠k)=true:=by simp [h1.symm.trans e]
   rw [ub a,ub b];exact ih
  ·have e':¬ q.1=k:=λz=>e (h1.trans z);have a:decide (p.1≠k)=true:=by simp [e]
   have b:decide (q.1≠k)=true:=by simp [e']
   rw [ud a,ud b];exact .cons ⟨h1,h2⟩ ih
theorem KV.keys {kvs:List (κ×V)}{vs:List (κ×Value)}(r:KV kvs vs):kvs.map (·.1)=vs.map (·.1):=by
 unfold KV at r
 induction r with
 | nil=>rfl
 | cons h t ih=>rw [uu,uu,ih,h.1]
theorem KV.length {kvs:List (κ×V)}{vs:List (κ×Value)}(r:KV kvs vs):kvs.length=vs.length:=Paired.length r
end
theorem WZ (r:RelV (kV k) u):(zI P w).is k u=true:=by
 cases k with
 | inl i=>obtain⟨t,e⟩:=(show ∃ t,u=Value.int i t from r);subst e;exact YG P w i t
 | inr x=>obtain⟨t,e⟩:=(show ∃ t,u=Value.str x t from r);subst e;exact YH P w x t
theorem Vd:∀ {ks:List Key} {us:Lf},Vals (ks.map kV) us->ItemsAre (zI P w) ks us
 | [],_,r=>by rw [U4] at r;cases r;exact .nil
 | k::ks,_,r=>by
  rw [uu] at r;cases r with
  | cons h t=>exact .cons (WZ h) (Vd t)
noncomputable abbrev KT (H:Hp):List (List Key×V)->List (List Key×Addr×Value)->Prop:=Paired λp q=>p.1=q.1/\H q.2.1=some (.tup (p.1.map kV))/\RelV p.2 q.2.2
theorem KT.val (r:KT H kvs xs)(k:List Key):RelO (valV kvs k) ((atKey xs k).map (·.2)):=by
 induction r with
 | nil=>exact True.intro
 | @cons p q ps qs h t ih=>
  obtain⟨h1,_,h2⟩:=h;by_cases e:p.1=k
  ·have e':q.1=k:=h1.symm.trans e;have b:atKey (q::qs) k=some q.2:=by simp [atKey,UX,e']
   rw [Q2 e,b];exact h2
  ·have e':¬ q.1=k:=λz=>e (h1.trans z);have b:atKey (q::qs) k=atKey qs k:=by simp [atKey,UX,e']
   rw [Q3 e,b];exact ih
theorem KT.repl {kvs:List (List Key×V)}{xs:List (List Key×Addr×Value)}(r:KT H kvs xs)(k:List Key)(ry:RelV y u) : KT H (kvs.map λkv=>if kv.1=k then(kv.1,y) else kv) (xs.map (putAt k u)):=by
 induction r with
 | nil=>exact .nil
 | @cons p q ps qs h t ih=>
  rw [uu,uu];refine .cons ?_ ih;obtain⟨h1,h2,h3⟩:=h;unfold putAt;by_cases e:p.1=k
  ·rw [ud e,ud (h1.symm.trans e)];exact⟨h1,h2,ry⟩
  ·rw [ub e,ub (λz=>e (h1.trans z))];exact⟨h1,h2,h3⟩
theorem KT.put (r:KT H kvs xs)(k:List Key)(hb:H b=some (.tup (k.map kV)))(ry:RelV y u) : KT H (putK kvs k y) (storedH xs k b u):=by
 have e:(kvs.any λkv=>decide (kv.1=k))=(atKey xs k).isSome:=by rw [Kb,(r.val k).isSome_eq,Option.isSome_map]
 unfold putK storedH;rw [e];by_cases q:(atKey xs k).isSome=true
 ·rw [ud q,ud q];exact r.repl k ry
 ·rw [ub q,ub q];exact Paired.snoc r ⟨rfl,hb,ry⟩
theorem KT.keeps (r:KT H kvs xs)(ht:∀ b ys,H b=some (.tup ys)->H' b=some (.tup ys)):KT H' kvs xs:= Paired.mapP r λ_ _ z=>⟨z.1,ht _ _ z.2.1,z.2.2⟩
section
variable {P:Program} {w:World} {H:Hp} {h:Heap} {a:Addr}
theorem zhK (ok:HOk P w H h)(e:Rd H a u):jj P w H h a u:=e.ok ok
theorem Kd {kvs:List (Key×V)}(ok:HOk P w H h)(e:Rd H a (.dK kvs)):kvs.length<=sizeLine/\(a == sysModules)=false/\∃ vs,KV kvs vs/\h.DictOf (zI P w) a vs:=
 show jj P w H h a (.dK kvs) from zhK ok e
theorem zkF {kvs:List (Key×V)}(ok:HOk P w H h)(e:H a=some (.dK kvs)):kvs.length<=sizeLine/\(a == sysModules)=false/\∃ vs,KV kvs vs/\h.DictOf (zI P w) a vs:=Kd ok (.inl e)
theorem zaA {ks:List Key}(ok:HOk P w H h)(e:H a=some (.tup (ks.map kV))):(tupleKind (zI P w)).is h ks a:=by
 obtain⟨_,its,r,o,h1,h2,n,h3⟩:=(show jj P w H h a (.tup (ks.map kV)) from ok a _ e)
 exact⟨o,its.toArray,n,h1,h2,h3,by simpa using Vd r⟩
theorem zcd {kvs:List (List Key×V)}(ok:HOk P w H h)(e:Rd H a (.dT kvs)):kvs.length<=sizeLine/\(a == sysModules)=false /\ ∃ xs,KT H kvs xs/\h.DictOfH (tupleKind (zI P w)) a xs:=by
 obtain⟨z,y,xs,r,o,es,ep,h1,h2,h3,h4,h5⟩:=(show jj P w H h a (.dT kvs) from zhK ok e)
 refine⟨z,y,xs,r,o,es,ep,h1,h2,h3,h4,λx hx=>?_,h5⟩
 have all:∀ {l:List (List Key×V)} {m:List (List Key×Addr×Value)},KT H l m->∀ x∈m,(tupleKind (zI P w)).is h x.1 x.2.1:=by
  intro l m q
  induction q with
  | nil=>intro x hx;exact nomatch hx
  | @cons p q ps qs hq t ih=>
   intro x hx;rcases um.mp hx with e | hx
   ·subst e;exact zaA ok (by rw [← hq.1];exact hq.2.1)
   ·exact ih x hx
 exact all r x hx
end
def DGet (H:Hp)(a:Addr)(y:V)(r:Option V):Prop:= (∃ kvs k,Rd H a (.dK kvs)/\y=kV k/\r=valV kvs k)\/∃ kvs k b,Rd H a (.dT kvs)/\y=.ref b/\H b=some (.tup (k.map kV))/\r=valV kvs k
def DPut (H:Hp)(a:Addr)(y v:V)(H':Hp):Prop:= (∃ kvs k,H a=some (.dK kvs)/\y=kV k/\kvs.length<sizeLine/\H' = upd H a (.dK (putK kvs k v))) \/ ∃ kvs k b,H a=some (.dT kvs)/\y=.ref b/\H b=some (.tup (k.map kV))/\kvs.length<sizeLine/\H' = upd H a (.dT (putK kvs k v))
theorem DGet.k {H:Hp}{a:Addr}{kvs:List (Key×V)}{k:Key}(e:H a=some (.dK kvs)):DGet H a (kV k) (valV kvs k):=.inl ⟨kvs,k,.inl e,rfl,rfl⟩
theorem DGet.t {k:List Key}(e:H a=some (.dT kvs))(eb:H b=some (.tup (k.map kV))):DGet H a (.ref b) (valV kvs k):=.inr ⟨kvs,k,b,.inl e,rfl,eb,rfl⟩
theorem DPut.k {H:Hp}{a:Addr}{kvs:List (Key×V)}{k:Key}{v:V}(e:H a=some (.dK kvs))(hl:kvs.length<sizeLine):DPut H a (kV k) v (upd H a (.dK (putK kvs k v))):=.inl ⟨kvs,k,e,rfl,hl,rfl⟩
theorem DPut.t {kvs:List (List Key×V)}{k:List Key}(e:H a=some (.dT kvs))(eb:H b=some (.tup (k.map kV)))(hl:kvs.length<sizeLine) : DPut H a (.ref b) v (upd H a (.dT (putK kvs k v))):=.inr ⟨kvs,k,b,e,rfl,eb,hl,rfl⟩
section
variable {X:Cx} {pins:Lp} {σ:St} {H:Hp} {s:Shared} {a:Addr} {y v:V} {u r:Value} {o:Option V} {A:Around} {E:Value->Shared->Prop}
theorem Inv.big (I:Inv X pins σ H s):sysModules<s.heap.objs.size:=by have h:mainGlobals<s.heap.objs.size:=(I.mod.glob.keeps I.bk).lt;exact Nat.lt_trans (by decide) h
theorem zdp (hu:A.units+1<cLine)(I:Inv X pins σ H s)(g:DGet H a y (some v))(ry:RelV y u)(h:∀ w' s',Inv X pins σ H s'->RelV v w'->Q w' s') : wpAny (model X.prog X.w) A (getItem (.ref a) u) Q E s:=by
 rcases g with⟨kvs,k,e,ey,l⟩ | ⟨kvs,k,b,e,ey,eb,l⟩
 ·subst ey;obtain⟨z,hd,vs,rel,dd⟩:=Kd I.hok e;obtain⟨w',hw,rw'⟩:=RelO.some_of (v:=v) (o:=valueAt vs k) (by rw [l];exact rel.val k);exact wpAny_getItem_of (WZ ry) dd.mapOf hw (h w' _ (I.tok _) rw')
 ·subst ey;cases (show u=Value.ref b from ry);obtain⟨z,hd,xs,rel,dd⟩:=zcd I.hok e;obtain⟨w',hw,rw'⟩:=RelO.some_of (v:=v) (o:=(atKey xs k).map (·.2)) (by rw [l];exact rel.val k);obtain⟨p,hp,hp2⟩:=u9.mp hw;refine wpAny_getItem_heap (GU hu) (zaA I.hok eb) dd hp ?_;rw [hp2];exact h w' _ (I.tok _) rw'
theorem zgL {h':Heap}(I:Inv X pins σ H s)(mu:Mut (H a))(hs:Heap.SameBut a s.heap h')(he:∃ q,h'.get? a=some q)(new:jj X.prog X.w (upd H a ob) h' a ob) :
  Inv X pins σ (upd H a ob) { s with heap:=h',toks:=t' }:=
 I.write (x:=a) (e:=a) mu (.inl rfl) (λb q hb z=>(hs.2 b hb).trans z) he new
theorem zeG {h':Heap}{kvs:List (Key×V)}(z:kvs.length<=sizeLine)(hd:(a == sysModules)=false)(rel:KV kvs vs)(dd:h'.DictOf (zI P w) a vs) : jj P w H' h' a (.dK kvs):=⟨z,hd,vs,rel,dd⟩
end
section
variable {X:Cx} {pins:Lp} {σ:St} {H:Hp} {s:Shared} {a:Addr} {kvs:List (Key×V)} {k:Key} {u:Value} {A:Around} {E:Value->Shared->Prop}
end
def NoSl (i:Expr):Prop:=∀ ov iv,subscripted i false ov iv=operate [ov,iv] (getItem ov iv)
theorem zgM {prog:Program}{w:World}{A:Around}{E:Value->Shared->Prop}{s:Shared}{env:Env}{value slice:Expr}{pos:Pos}{T id:String}{Q:Value->Shared->Prop} (hl:typeLookup (.type T) "__getitem__" = pure (some (.builtin id))) (hs:NoSl slice) (h:wpAny (model prog w) A (eval value env) (λo s₁=>wpAny (model prog w) A (eval slice env) (λi s₂=>s₂.TypeIs o T/\wpAny (model prog w) A (getItem o i) Q E s₂) E s₁) E s) : wpAny (model prog w) A (eval (.Subscript value slice pos) env) Q E s:=by
 refine Subscript_ (uj h (λo s₁ h₁=>uj h₁ (λi s₂ h₂=>?_) λ_ _ x=>x) λ_ _ x=>x);obtain⟨hT,h₂⟩:=h₂;unfold subscriptTail;refine ua ?_;rw [getitemInPython_of_ne hT.not_modules];refine ua (wpAny_specialOf hT hl ?_);have fin:wpAny (model prog w) A (subscripted slice false o i) (λr s₃=>wpAny (model prog w) A (letTemporaryGo value o r >>= λ_=>pure r) Q E s₃) E s₂:=by rw [hs o i];exact wpAny_operating (uj h₂ (λr s₃ h₃=>ua (wpAny_letTemporaryGo (uc h₃))) λ_ _ x=>x)
 first
  | exact uc (ua fin)
  | exact ua (uc (ua fin))
  | exact ua fin
theorem Ke {pins:Lp}{s:Shared}(I:Inv X pins σ H s)(g:DGet H a y o):s.TypeIs (.ref a) "dict":=by
 rcases g with⟨kvs,k,e,_,_⟩ | ⟨kvs,k,b,e,_,_,_⟩
 ·obtain⟨_,_,vs,_,dd⟩:=Kd I.hok e;exact dd.typeIs
 ·obtain⟨_,_,xs,_,dd⟩:=zcd I.hok e;exact dd.typeIs
noncomputable def zce (td ty:TE):TE:=λσ H Q=>td σ H λx H1=>ty σ H1 λy H2=>∃ a v,x=.ref a/\DGet H2 a y (some v)/\Q v H2
section
variable {X:Cx} {o i e value:Expr} {pos pos' tpos:Pos} {td ty tv:TE}
theorem zcf (hu:X.A.units+1<cLine)(ho:PE X o td)(hi:PE X i ty)(hs:NoSl i):PE X (.Subscript o i pos) (zce td ty):=by intro pins s σ H Q I h;refine zgM PySem.F.slot_dict_getitem.lookup hs (thn (ho pins s σ H _ I h) λu s1 ⟨x,H1,I1,rx,q1⟩=>thn (hi pins s1 σ H1 _ I1 q1) λiv s2 zq=>?_);obtain⟨y,H2,I2,ry,a,v,ex,g,q2⟩:=zq;subst ex;obtain rfl:u=Value.ref a:=rx;exact⟨Ke I2 g,zdp hu I2 g ry λw' s3 I3 rw'=>⟨v,H2,I3,rw',q2⟩⟩
end
theorem zeH (h:Heap)(hb:sysModules<h.objs.size):jj P w H (h.push { cls:=.type "dict",data:=.dict #[] }) h.objs.size (.dK []):=
 ⟨UD _,uM.mpr (Ne.symm (u5 hb)),[],.nil,Heap.DictOf.new h⟩
section
variable {X:Cx} {pos:Pos}
end
noncomputable def W0:List (TE×TE)->St->Hp->(List (V×V)->Hp->Prop)->Prop
 | [],_,H,Q=>Q [] H
 | (tk,tv)::r,σ,H,Q=>tk σ H λx H1=>tv σ H1 λy H2=>W0 r σ H2 λps H3=>Q ((x,y)::ps) H3
noncomputable abbrev VV:List (V×V)->List (Value×Value)->Prop:=Paired λp q=>RelV p.1 q.1/\RelV p.2 q.2
def PPs (X:Cx)(pos:Pos)(keys:List (Option Expr))(values:Lg)(trs:List (TE×TE)):Prop:= ∀ (pins:Lp) (s:Shared) (σ:St) (H:Hp) (Q:List (V×V)->Hp->Prop),Inv X pins σ H s->W0 trs σ H Q -> wpAny (model X.prog X.w) X.A (evalPairs (pairTrees keys values X.env pos)) (λvs s'=>∃ ps H',Inv X pins σ H' s'/\VV ps vs/\Q ps H') X.xe s
theorem zcg:PPs X pos [] [] []:=λpins s σ H Q I h=>pairTrees_nil_walk ⟨[],H,I,.nil,h⟩
theorem vI (hk:PE X k tk)(hv:PE X v tv)(hr:PPs X pos ks vs trs) :
  PPs X pos (some k::ks) (v::vs) ((tk,tv)::trs):=λpins s σ H Q I h=>
 pairTrees_cons_walk (thn (hk pins s σ H _ I h) λu s1 ⟨x,H1,I1,rx,q1⟩=>thn (hv pins s1 σ H1 _ I1 q1) λw2 s2 ⟨y,H2,I2,ry,q2⟩=>
  thn (hr pins s2 σ H2 _ I2 q2) λws s3 ⟨ps,H3,I3,rel,q3⟩=>⟨(x,y)::ps,H3,I3,.cons ⟨rx,ry⟩ rel,q3⟩)
noncomputable def qy (kvs more:List (Key×V)):List (Key×V):=more.foldl (λacc kv=>putK acc kv.1 kv.2) kvs
theorem KV.merge:∀ {more:List (Key×V)} {rs:List (Key×Value)} {kvs:List (Key×V)} {vs:List (Key×Value)},KV more rs->KV kvs vs->KV (qy kvs more) (merged vs rs):=by
 intro more rs kvs vs r;unfold KV at r
 induction r generalizing kvs vs with
 | nil=>intro q;exact q
 | @cons p q ps qs h t ih=>
  intro r0;have e:KV (putK kvs p.1 p.2) (stored vs q.1 q.2):=by have:=r0.put p.1 h.2;rw [← h.1];exact this
  exact ih e
theorem yz:∀ (more kvs:List (Key×V)),(qy kvs more).length<=kvs.length+more.length
 | [],kvs=>by show kvs.length<=kvs.length+0;omega
 | p::r,kvs=>by have h1:=yz r (putK kvs p.1 p.2);have h2:=Kc kvs p.1 p.2;show(qy (putK kvs p.1 p.2) r).length<=_;rw [uq];omega
theorem W2:∀ {kvs:List (Key×V)} {ws:List (Value×Value)},VV (kvs.map λkv=>(kV kv.1,kv.2)) ws->∃ rs,Carries (zI P w) ws rs/\KV kvs rs
 | [],_,r=>by rw [U4] at r;cases r;exact⟨[],True.intro,.nil⟩
 | p::kvs,_,r=>by
  rw [uu] at r;cases r with
  | @cons a b as bs h t=>obtain⟨rs,c,q⟩:=W2 (P:=P) (w:=w) t;obtain⟨b1,b2⟩:=b;exact⟨(p.1,b2)::rs,⟨WZ h.1,rfl,c⟩,.cons ⟨rfl,h.2⟩ q⟩
noncomputable def zch (trs:List (TE×TE)):TE:=λσ H Q=>∀ p,H p=none->W0 trs σ (upd H p (.dK [])) λps H2=>H2 p=some (.dK [])/\∃ kvs:List (Key×V),ps=kvs.map (λkv=>(kV kv.1,kv.2))/\kvs.length<=15/\Q (.ref p) (upd H2 p (.dK (qy [] kvs)))
theorem zci {keys:List (Option Expr)}{values:Lg}(h:PPs X pos keys values trs)(hall:keys.all (·.isSome)=true)(hl:keys.length=values.length)(h0:keys≠[]) (h15:keys.length<=15):PE X (.Dict keys values pos) (zch trs):=by
 intro pins s σ H Q I q;have hn:=I.hok.fresh (ui s.heap.objs.size);have I1:=I.laid (a:=s.heap.objs.size) (o:=.dK []) (h':=s.heap.push { cls:=.type "dict",data:=.dict #[] }) (t':=s.toks) (λ_ _ q=>ue _ q) (ui _) (zeH s.heap I.big);refine wpAny_Dict_walk (knd:=zI X.prog X.w) hall hl h0 h15 (thn (h pins _ σ _ _ I1 (q _ hn)) λws s2 zq=>?_);obtain⟨ps,H2,I2,rel,e,kvs,ep,lk,q2⟩:=zq;subst ep;obtain⟨rs,c,rk⟩:=W2 (P:=X.prog) (w:=X.w) rel;obtain⟨z,hd,vs0,r0,dd⟩:=zkF I2.hok e;cases r0;refine⟨rs,c,dd,λh' dd' hs=>⟨.ref s.heap.objs.size,_,?_,rfl,q2⟩⟩;have hz:(qy [] kvs).length<=sizeLine:=by have h1:=yz kvs [];rw [Uw] at h1;rw [uO];lia
 have he:∃ q,h'.get? s.heap.objs.size=some q:=let ⟨q,_,_,hq,_⟩:=dd';⟨q,hq⟩;exact zgL I2 (by rw [e];exact True.intro) hs he (zeG hz hd (rk.merge .nil) dd')
structure M2 (X:Cx)(o:Expr)(m:Str)(apos:Pos)(e f:Expr)(cpos:Pos):Prop where
 base:attributeBase o m X.env (eval o X.env)=eval o X.env
 few:((backTo cpos (starEach [e,f] X.env)).all (λx=>!x.1)&&(backToKw cpos (keywordEach [] X.env)).all (λx=>x.1.isSome)
  && decide (([e,f]:Lg).length+([]:List Keyword).length+(if ([]:List Keyword).isEmpty then 0 else 1)<30))=true
 line:(apos.endLine == cpos.line)=true
 trees:backTo cpos (starEach [e,f] X.env)=[(false,eval e X.env),(false,eval f X.env)]
def IsD (H:Hp)(a:Addr):Prop:=(∃ kvs,Rd H a (.dK kvs))\/∃ kvs,Rd H a (.dT kvs)
theorem ziO {pins:Lp}{s:Shared}(I:Inv X pins σ H s)(d:IsD H a) : s.TypeIs (.ref a) "dict"/\(∀ b,Value.ref a=.ref b->∃ ob,s.heap.get? b=some ob/\ob.dict=none)/\(a == sysModules)=false:=by
 rcases d with⟨kvs,e⟩ | ⟨kvs,e⟩
 ·obtain⟨_,hd,vs,_,dd⟩:=Kd I.hok e;refine⟨dd.typeIs,λb q=>?_,hd⟩;cases q;obtain⟨ob,_,_,h1,h2,_⟩:=dd;exact⟨ob,h1,h2.2.1⟩
 ·obtain⟨_,hd,xs,_,dd⟩:=zcd I.hok e;refine⟨dd.typeIs,λb q=>?_,hd⟩;cases q;obtain⟨ob,_,_,h1,h2,_⟩:=dd;exact⟨ob,h1,h2.2.1⟩
section
variable {X:Cx} {pins:Lp} {σ:St} {H:Hp} {s:Shared} {a:Addr} {y d:V} {u r:Value} {o:Option V} {A:Around} {E:Value->Shared->Prop}
theorem ziP (hu:A.units+1<cLine)(I:Inv X pins σ H s)(g:DGet H a y o)(ry:RelV y u)(rd:RelV d r)(h:∀ w' s',Inv X pins σ H s'->RelV (o.getD d) w'->Q w' s') : wpAny (model X.prog X.w) A (call (.builtin "dict.get") [.ref a,u,r]) Q E s:=by
 rcases g with⟨kvs,k,e,ey,l⟩ | ⟨kvs,k,b,e,ey,eb,l⟩
 ·subst ey;obtain⟨z,hd,vs,rel,dd⟩:=Kd I.hok e;refine Gj UO dd.typeIs gK (G9 _ _ _) (meets_dict_get_default (zI X.prog X.w) a (WZ ry) hd r) ⟨_,dd.mapOf,h _ _ (I.tok _) ?_⟩;rw [l];exact(rel.val k).getD rd
 ·subst ey;cases (show u=Value.ref b from ry);obtain⟨z,hd,xs,rel,dd⟩:=zcd I.hok e;refine Gj UO dd.typeIs gK (G9 _ _ _) (meetsH_dict_get_default (tupleKind (zI X.prog X.w)) a b hd r) ⟨GU hu,k,xs,zaA I.hok eb,dd,h _ _ (I.tok _) ?_⟩;rw [l];exact(rel.val k).getD rd
end
noncomputable def VG (td ty tx:TE):TE:=λσ H Q=>td σ H λx H1=>∃ a,x=.ref a/\IsD H1 a/\ty σ H1 λy H2=>tx σ H2 λz H3=>∃ o,DGet H3 a y o/\Q (o.getD z) H3
section
variable {X:Cx} {o e f:Expr} {apos cpos:Pos} {td ty tx:TE}
theorem zeI (hu:X.A.units+1<cLine)(ho:PE X o td)(he:PE X e ty)(hf:PE X f tx)(m:M2 X o "get" apos e f cpos):PE X (.Call (.Attribute o "get" apos) [e,f] [] cpos) (VG td ty tx):=by
 intro pins s σ H Q I h;refine hJ m.base m.few m.line hV UO PySem.F.type_dict_get (thn (ho pins s σ H _ I h) λu s1 zq=>?_);obtain⟨x,H1,I1,rx,a,ex,d,q1⟩:=zq;subst ex;obtain rfl:u=Value.ref a:=rx;obtain⟨t1,t2,_⟩:=ziO I1 d;refine⟨t1,t2,?_⟩;rw [m.trees]
 refine Calls.callWith_builtin rfl (Calls.evalArgs_plain (Calls.spliced_cons (thn (he pins s1 σ H1 _ I1 q1) λiv s2 ⟨y,H2,I2,ry,q2⟩=>
  Calls.spliced_cons (thn (hf pins s2 σ H2 _ I2 q2) λfv s3 ⟨z,H3,I3,rz,ov,g,q3⟩=>Calls.spliced_nil ?_))))
 exact ziP hu I3 g ry rz λw' s4 I4 rw'=>⟨_,H3,I4,rw',q3⟩
end
section
variable {X:Cx} {pins:Lp} {σ:St} {H:Hp} {s:Shared} {a:Addr} {kvs:List (Key×V)} {A:Around} {E:Value->Shared->Prop}
end
section
variable {X:Cx} {pins:Lp} {σ:St} {H:Hp} {s:Shared} {a:Addr} {y:V} {u:Value} {A:Around} {E:Value->Shared->Prop}
end
end L2
namespace L2
open PySem PySem.Spec PySem.Calls PyProof.Rows PySem.W
section
variable {X:Cx} {k j:Nat} {x:Str} {p pos:Pos} {e:Expr} {es:Lg} {tf:TE} {t:TA}
def FnV (P:Program)(w:World)(K:Frag)(mg:La)(base:Heap)(k:Nat)(f:Addr)(sp:Sp):Prop:=∃ fd ps,keepIn K (.ref f)=true/\Binds K fd ps []/\FnOk P w K mg base CX0 k f fd ps sp
noncomputable def VH (P:Program)(w:World)(K:Frag)(mg:La)(base:Heap)(k:Nat)(tf:TE)(t:TA):TE:=λσ H Q=>tf σ H λv H0=>∃ f sp,v=.ref f/\FnV P w K mg base k f sp/\t σ H0 λvs H1=>sp vs H1 Q E0
theorem zeJ (hf:PE X (.Name x p) tf)(hr:Room j X.A)(hk:k<=j)(ha:PA X (e::es) t) (he:starEach (e::es) X.env=(false,eval e X.env)::starEach es X.env:=by rfl) (hpl:(backTo pos (starEach es X.env)).any (·.1)=false:=by rfl) : PE X (.Call (.Name x p) (e::es) [] pos) (VH X.prog X.w X.K X.mg X.base k tf t):=by intro pins s σ H Q I h;refine uL (thn (hf pins s σ H _ I h) λu s0 zq=>?_);obtain⟨v,H0,I0,r0,f,sp,ev,G,q⟩:=zq;subst ev;obtain rfl:u=Value.ref f:=r0;obtain⟨fd,ps,kp,b,G⟩:=G;refine Uh (h₀:=X.base) I0.ok.mod.kin kp (thn (ha pos pins s0 σ H0 _ I0 q) λus s1 ⟨vs,H1,I1,r,q⟩=>⟨I1.kIn,?_⟩) he hpl;exact WJ (dvs:=[]) (ds:=[]) G (hr.mono hk) b .nil zea I1 r (by rw [uw];exact q)
end
inductive EntK (w:World):List DictEntry->List (Key×V)->Prop
 | nil:EntK w [] []
 | cons {e:DictEntry} {k:Key} {v:V} {es:List DictEntry} {kvs:List (Key×V)}:e.hash=keyH w k->WA k e.key=true->RelV v e.val->EntK w es kvs->EntK w (e::es) ((k,v)::kvs)
theorem EntK.keys (h:EntK w es kvs):∀ e∈es,∃ k,(zI P w).is k e.key=true/\e.hash=(zI P w).hash k:=by
 induction h with
 | nil=>intro e he;cases he
 | cons h1 h2 h3 h4 ih=>
  intro e he;rcases um.mp he with rfl | he
  ·exact⟨_,h2,h1⟩
  ·exact ih e he
theorem EntK.pairs {kvs:List (Key×V)}(h:EntK w es kvs):∃ vs:List (Key×Value),PySem.Pairs (zI P w) es vs/\KV kvs vs/\vs.map (·.1)=kvs.map (·.1):=by
 induction h with
 | nil=>exact⟨[],.nil,.nil,rfl⟩
 | @cons e k v es kvs h1 h2 h3 h4 ih=>obtain⟨vs,i1,i2,i3⟩:=ih;exact⟨(k,e.val)::vs,.cons h2 rfl i1,.cons ⟨rfl,h3⟩ i2,by rw [uu,uu,i3]⟩
def Kf (w:World)(K:Frag)(a:Addr)(kvs:List (Key×V)):Prop:=(a == sysModules)=false/\∃ o es ep,K.lookup a=some o/\o.ExactDict/\o.data=.dict es ep/\EntK w es.toList kvs/\(kvs.map (·.1)).Nodup
section
variable {X:Cx} {pins:Lp} {σ:L2.St} {H:Hp} {s:Shared} {a:Addr} {kvs:List (Key×V)}
theorem Kf.at (I:Inv X pins σ H s)(h:Kf X.w X.K a kvs):(a == sysModules)=false/\∃ vs,KV kvs vs/\s.heap.DictOf (zI X.prog X.w) a vs:=by obtain⟨h0,o,es,ep,h1,h2,h3,h4,h5⟩:=h;obtain⟨vs,i1,i2,i3⟩:=h4.pairs (P:=X.prog);exact⟨h0,vs,i2,o,es,ep,I.kIn a o h1,h2,h3,λe he=>h4.keys (P:=X.prog) e (by simpa using he),i1,by rw [i3];exact h5⟩
end
section
variable {X:Cx} {x:Str} {p apos cpos:Pos} {e f:Expr} {ty tx':TE} {kvs:List (Key×V)}
noncomputable def zcj (kvs:List (Key×V))(ty:TE):TE:=λσ H Q=>ty σ H λy H1=>∃ k,y=kV k/\Q ((valV kvs k).getD .non) H1
theorem zgN (hm:∃ a,X.mg x=some (.ref a)/\Kf X.w X.K a kvs)(he:PE X e ty)(hg:Gl X x:=by rfl) (hd:(x == ("__debug__":Str))=false:=by decide) (hbase:attributeBase (.Name x p) "get" X.env (eval (.Name x p) X.env)=eval (.Name x p) X.env:=by rfl) (hfew:((backTo cpos (starEach [e] X.env)).all (λx=>!x.1)&&(backToKw cpos (keywordEach [] X.env)).all (λx=>x.1.isSome) && decide (([e]:Lg).length+([]:List Keyword).length+(if ([]:List Keyword).isEmpty then 0 else 1)<30))=true:=by rfl) (hline:(apos.endLine == cpos.line)=true:=by rfl) (htr:backTo cpos (starEach [e] X.env)=[(false,eval e X.env)]:=by rfl) : PE X (.Call (.Attribute (.Name x p) "get" apos) [e] [] cpos) (zcj kvs ty):=by
 intro pins s σ H Q I h;obtain⟨a,hm,D⟩:=hm;refine hJ hbase hfew hline hV UO PySem.F.type_dict_get (wZ I hg hm ?_ hd);obtain⟨h0,vs,rel,dd⟩:=D.at I;refine⟨dd.typeIs,λb q=>?_,?_⟩
 ·cases q;obtain⟨ob,_,_,h1,h2,_⟩:=dd;exact⟨ob,h1,h2.2.1⟩
 rw [htr];refine Calls.callWith_builtin rfl (Calls.evalArgs_plain (Calls.spliced_cons (thn (he pins s σ H _ I h) λiv s2 ⟨y,H2,I2,ry,k,ey,q2⟩=>Calls.spliced_nil ?_)));subst ey;obtain⟨_,vs2,rel2,dd2⟩:=D.at I2;refine Gj UO dd2.typeIs gK (PySem.F.args_dict_get_2 _ _) (meets_dict_get (zI X.prog X.w) a (WZ ry) h0) ⟨_,dd2.mapOf,_,H2,I2.tok _,?_,q2⟩;exact(rel2.val k).getD rfl
end
section
variable {X:Cx} {a:Expr} {ta:TE}
noncomputable def zck (K:Frag)(ta:TE):TT:=λσ H Q=>ta σ H λx H'=>∃ k,TruV K x H' k/\Q k H'
theorem zdq {K:Frag}(hK:X.K=K)(ha:PE X a ta)(he:∀ whole,isTrue a X.env whole=(do let v ← whole;standAt a.pos;holding [v] (truthy v)):=by intro _;rfl):PT X a (zck K ta):=by subst hK;exact zdX ha he
end
section
variable {X:Cx}
noncomputable def zeK:R2:=λx y H Q=>∃ a b xs ys,x=.ref a/\y=.ref b/\H a=some (.tup xs)/\H b=some (.tup ys)/\xs.length+ys.length<=1000000/\∀ p H',Same H H'->H' p=some (.tup (xs++ys))->Q (.ref p) H'
theorem zgO:OpR X (binaryOp .Add) zeK:=by
 intro pins s σ H x y v u Q I rx ry h;obtain⟨a,b,xs,ys,rfl,rfl,ha,hb,hz,q⟩:=h;by_cases hx:xs=[]
 ·subst hx;cases rx;cases ry;obtain⟨its,r1,p1,_⟩:=I.tuple (SqT.of ha);obtain⟨its2,r2,p2,_⟩:=I.tuple (SqT.of hb);obtain⟨⟨cls,dd,data,sl⟩,ho,hc,n,hd⟩:=id p1;obtain⟨⟨cls2,dd2,data2,sl2⟩,ho2,hc2,n2,hd2⟩:=id p2;simp only at hc hd hc2 hd2;subst hc hd hc2 hd2;have e0:its=[]:=r1.nil_iff.mpr rfl
  exact Gf ⟨_,ho,rfl⟩ ⟨_,ho2,rfl⟩ gG gY gI gA (gr _ _)
   (tuple_addW0 a b its.toArray its2.toArray n n2 dd dd2 sl sl2 (by simp [e0])) ⟨ho,ho2,.ref b,H,I,rfl,q b H (Same.refl H) (by rw [Uk];exact hb)⟩
 ·refine zgn pins s σ H _ _ v u Q I rx ry ⟨a,b,xs,ys,rfl,rfl,SqT.of ha,SqT.of hb,hx,by rw [uO];lia,λe=>q a H (Same.refl H) (by rw [e,uw];exact ha),λ_ p hp=>q p _ (za hp) zb⟩
noncomputable def VI:V->List V->Hp->VK->Prop:=λx vs H Q=>∃ l y,x=.str (S l)/\vs=[.str (S y)]/\Q (.bl (y.isPrefixOf l)) H
theorem zeL (l y:Lc):Txt.startswith (S l) (S y)=y.isPrefixOf l:=by
 unfold Txt.startswith Builtin.Str.subAt;rw [kS,kS];by_cases h:y.length<=l.length
 ·have h1:decide (0+y.length<=l.length)=true:=by simpa using h
  rw [h1,Bool.true_and];have e:(S l).cps.extract 0 (0+y.length)=(l.take y.length).toArray:=by simp [S]
  rw [e];rw [UC,u4,gn,List.prefix_iff_eq_take];constructor
  ·intro z;have:=congrArg Array.toList z;simp [S] at this;exact this.symm
  ·intro z;rw [← z];rfl
 ·have h1:decide (0+y.length<=l.length)=false:=by simpa using h
  rw [h1,gO];symm;rw [← Bool.not_eq_true,gn];intro z;exact h z.length_le
theorem W3:MtR X "str.startswith" VI:=by
 intro pins s σ H x xs v us Q I rx rs h;obtain⟨l,y,rfl,rfl,q⟩:=h;obtain⟨t,rfl⟩:=rx;obtain⟨u,rfl,t',rfl⟩:=vals1 rs;refine SC.startswith ⟨.bl _,H,I,rfl,?_⟩
 rw [zeL];exact q
end
theorem zgP {l:Lc}(G:Nat->V->Hp->Prop)(hG:∀ c v H1 H2,G c v H1->Same H1 H2->G c v H2)(hU:∀ c v H1 D xs ys,G c v H1->H1 D=some (.lst xs)->G c v (upd H1 D (.lst ys)))(hl:l.length<=sizeLine) (he:∀ c∈l,∀ H1,Same H H1->∀ R:VK,(∀ v H2,Same H1 H2->G c v H2->R v H2)->te (some (.str (S [c]))::σ) H1 R) (hq:∀ D H2 ys,H D=none->Same H H2->ys.length=l.length->(∀ (i:Nat) c v,l[i]? = some c->ys[i]? = some v->G c v H2)->H2 D=some (.lst ys)->Q (.ref D) H2):zar (Its (S l)) X5 te σ H Q:=by
 intro D hD;refine⟨λi m ys H'=>m=l.length - i/\i<=l.length/\ys.length=i/\(∀ (j:Nat) c v,l[j]? = some c->ys[j]? = some v->G c v H')/\Same H H'/\H' D=some (.lst ys),⟨l.length,by simp,UD _,rfl,by simp,za hD,zb⟩,?_⟩;rintro i m ys H' ⟨rfl,hi,hy,hg,sm,hDl⟩;refine⟨hDl,?_⟩;by_cases hlt:i<l.length
 ·refine .inr ⟨by show i<(S l).cps.size;rw [Vv];exact hlt,λv H2 y=>?_⟩;obtain⟨rfl,c,hc,rfl⟩:=y;rw [zhD] at hc;have hm:c∈l:=uN hc;simp only [X5,↓reduceIte];refine he c hm H2 sm _ λv H4 s4 gv=>?_;have hD4:=s4 D _ hDl;refine⟨hD4,by lia,l.length - (i+1),by lia,rfl,hlt,by simp [hy],λj c' u e1 e2=>?_,?_,zb⟩
  ·refine hU _ _ _ _ _ _ ?_ hD4;by_cases hj:j<ys.length
   ·rw [UB hj] at e2;exact hG _ _ _ _ (hg j c' u e1 e2) s4
   ·rw [Uz (by lia)] at e2
    have hj':j - ys.length=0:=by
     by_cases hz:j - ys.length=0
     ·exact hz
     ·rw [UA.mpr (by simp;lia)] at e2;cases e2
    have ej:j=i:=by lia
    subst ej;rw [hj'] at e2;simp at e2;subst e2;rw [hc] at e1;cases e1;exact gv
  ·intro b o e;rw [zl (zM e hD)];exact s4 b o (sm b o e)
 ·have e:i=l.length:=by lia
  subst e;exact .inl ⟨by show(S l).cps.size<=l.length;rw [Vv];exact ui _,hq D H' ys hD sm hy hg hDl⟩
section
variable {X:Cx} {pins:Lp} {σ:L2.St} {H:Hp} {s:Shared} {h':Heap}
end
section
variable {X:Cx}
theorem ziQ:bootBuiltins "zip" = some (.type "zip"):=by decide +kernel
end
theorem hu64 {A:Around}(hr:Room k A):A.units+64<cLine:=hr.units
section
variable {X:Cx}
noncomputable def zeM:List V->Hp->VK->Prop:=λxs H Q=>∃ k,xs=[.bl k]/\Q (.int (if k then 1 else 0)) H
theorem zdr:jV X (.type "int") zeM:=by intro pins s σ H xs us Q I r h;exact zc5 pins s σ H xs us Q I r (.inr h)
end
theorem OkF.fnv {P:Program}{w:World}{K:Frag}{mg:La}{base:Heap}{j k:Nat}{x:Str}{ps:Lh}{sp:Sp}{a:Addr}(F:OkF P w K mg base j x ps sp)(h:mg x=some (.ref a))(hk:j<=k):FnV P w K mg base k a sp:=by
 obtain⟨f,fd,kp,b,m,G⟩:=F.ex;have e:f=a:=by have:=m.1;rw [h] at this;cases this;rfl
 subst e;exact⟨fd,ps,kp,b,G.mono hk⟩
section
variable {X:Cx} {K:Frag} {o:Expr} {to:TE} {name:Str} {apos cpos:Pos} {T id:String} {r:V->List V->Hp->VK->Prop}
end
end L2
namespace HT
open PySem PySem.Spec PySem.Calls PyProof.Rows PySem.W
section
variable {prog:Program} {w:World} {A:Around} {E:Value->Shared->Prop} {s:Shared}
theorem ZX {t sl:Addr}{items:Array Value}{vl vu:Value}{lo hi:Option Int}{Q:Value->Shared->Prop}(ht:IsTup s.heap t items)(hs:s.heap.IsSliceOf sl vl vu .none)(pl:IsPart vl lo)(pu:IsPart vu hi) (hw:sIx items.size 0 lo=0/\sIx items.size items.size hi=items.size) (h:Q (.ref t) s):wpAny (model prog w) A (getItem (.ref t) (.ref sl)) Q E s:=by
 obtain⟨os,hos,hcs,hds⟩:=id hs;have hTs:s.TypeIs (.ref sl) "slice":=⟨os,hos,hcs⟩
 unfold getItem
 try with_reducible refine uK ?_
 first | refine ua (uc ?_) | skip
 refine ua (G6 ht.typeIs (by decide) ?_)
 refine ua (UI (name:=Str.ofString "__getitem__") ht.typeIs PyProof.Rows.slot_tuple_getitem
  (U2 PyProof.Rows.slot_tuple_getitem ht.typeIs Gm ?_ (Gu _ _)))
 show wpAny _ _ (Builtin.Tuple.tupleItemsOf (.ref t) >>= _) _ _ s;refine ua (GK ht ?_);refine ua (UJ hTs ?_);rw [ud (by decide)];refine ua (yP hs pl pu ?_);have hyes:(((sIx items.size 0 lo:Nat):Int) == 0&&(1:Int) == 1&&(sIx items.size items.size hi - sIx items.size 0 lo) == items.size)=true:=by rw [hw.1,hw.2];simp
 show wpAny _ _ (if (((sIx items.size 0 lo:Nat):Int) == 0&&(1:Int) == 1&&(sIx items.size items.size hi - sIx items.size 0 lo) == items.size)=true then _ else _) _ _ s;rw [ud hyes];unfold Builtin.Tuple.tupleIsExact;refine ua (ua (UJ ht.typeIs (uc ?_)));rw [ud (by decide)];exact ua (wpAny_rule (uc ⟨_,rfl,uc h⟩))
end
end HT
namespace L2
open PySem PySem.Spec PySem.Calls PyProof.Rows PySem.W
section
variable {X:Cx}
noncomputable def rSlU:V->Option Int->Option Int->Hp->VK->Prop:=λx lo hi H Q=>∃ a xs,x=.ref a/\H a=some (.tup xs)/\∀ p H',Same H H'->H' p=some (.tup (cutV xs lo hi))->Q (.ref p) H'
theorem zcl:SlR X rSlU:=by
 intro pins s σ H x v vl vu lo hi sl Q I rx hs pl pu h;obtain⟨a,xs,rfl,hx,q⟩:=h;by_cases hw:HT.sIx xs.length 0 lo=0/\HT.sIx xs.length xs.length hi=xs.length
 ·cases rx;obtain⟨its,r,ht,hz⟩:=I.tuple (SqT.of hx);have hlen:its.toArray.size=xs.length:=by rw [uh];exact r.length.symm
  refine⟨"tuple",_,PyProof.Rows.slot_tuple_getitem.lookup,ht.typeIs,?_⟩;refine HT.ZX ht hs pl pu (by rw [hlen];exact hw) ⟨.ref a,H,I,rfl,q a H (Same.refl H) ?_⟩;rw [hx];unfold cutV;rw [hw.1,hw.2,UQ,Nat.sub_zero,Ux]
 ·exact zio pins s σ H _ v vl vu lo hi sl Q I rx hs pl pu ⟨a,xs,rfl,SqT.of hx,hw,λp hp=>q p _ (za hp) zb⟩
end
theorem zm (h:upd H p o q=none):H q=none:=by
 unfold upd at h;by_cases e:q=p
 ·rw [ud e] at h;cases h
 ·rw [ub e] at h;exact h
theorem zeN:∀ {l:Lc} {ys:List V},ys.length=l.length->(∀ (i:Nat) c v,l[i]? = some c->ys[i]? = some v->EvV H v [wA,[c]])->EvA H ys (l.map λk=>[wA,[k]])
 | [],[],_,_=>.nil
 | c::l,y::ys,h,hG=>.cons (hG 0 c y rfl rfl) (zeN (by simpa using h) λi c' v e1 e2=>hG (i+1) c' v (by simpa using e1) (by simpa using e2))
 | [],_::_,h,_=>by simp at h
 | _::_,[],h,_=>by simp at h
structure QE (X:Cx)(e:Expr)(t:TE):Prop where
 h:PE X e t
structure QT (X:Cx)(e:Expr)(t:TT):Prop where
 h:PT X e t
structure QW (X:Cx)(e:Expr)(t:TT):Prop where
 h:PW X e t
structure QA (X:Cx)(es:Lg)(t:TA):Prop where
 h:PA X es t
structure QS (X:Cx)(st:Stmt)(t:TS):Prop where
 h:PS X st t
structure QSs (X:Cx)(st:List Stmt)(t:TS):Prop where
 h:PSs X st t
structure QI (X:Cx)(tg iter:Expr)(wi:TI):Prop where
 h:PI X tg iter wi
structure QG (X:Cx)(target:Expr)(t:TG):Prop where
 h:PG X target t
structure QGs (X:Cx)(ts:Lg)(t:TGs):Prop where
 h:PGs X ts t
structure QO (X:Cx)(e:Option Expr)(t:TO):Prop where
 h:PO X e t
structure QTs (X:Cx)(ifs:Lg)(t:TT):Prop where
 h:PTs X ifs t
section
set_option autoImplicit true
set_option relaxedAutoImplicit true
theorem qU {X:Cx}(ha:QE X e te)(hr:QA X es t)(hs:starEach (e::es) X.env=(false,eval e X.env)::starEach es X.env:=by rfl):QA X (e::es) (jy te t):=⟨w4 (ha:=ha.h) (hr:=hr.h) (hs:=hs)⟩
theorem zC:QA X [] tNil:=⟨Jj ⟩
theorem qe_S {j pos}(h:x=S l):QE X (.Constant (.str x) j pos) (tC (.str (S l))):=⟨pe_S (h:=h)⟩
theorem kf {X:Cx}{K:Frag}{e:Expr}{te:TE}{f:Str}{pos:Pos}(hK:X.K=K)(he:QE X e te)(hb:attributeBase e f X.env (eval e X.env)=eval e X.env:=by rfl):QE X (.Attribute e f pos) (tAtX K te f):=⟨ziH (hK:=hK) (he:=he.h) (hb:=hb)⟩
theorem zcm {b j pos}:QE X (.Constant (.bool b) j pos) (tC (.bl b)):=⟨zkr ⟩
theorem ziR {X:Cx}(hm:X.mg x=none)(hv:bootBuiltins x=some u)(r:RelV v u)(hg:Gl X x:=by rfl) (hn:x≠"__name__":=by decide) (hd:(x == ("__debug__":Str))=false:=by decide):QE X (.Name x pos) (tC v):=⟨zix (hm:=hm) (hv:=hv) (r:=r) (hg:=hg) (hn:=hn) (hd:=hd)⟩
theorem VJ {X:Cx}{id:String}{K:Frag}(hK:X.K=K)(pa:PlainAttrs T)(slot:Slot T name id)(hty:typeOf (.builtin id)=pure (.type "method_descriptor"))(hm:MtR X id r)(ho:QE X o to)(ha:QA X (e::es) t)
  (hbase:attributeBase o name X.env (eval o X.env)=eval o X.env:=by rfl)
  (hfew:((backTo cpos (starEach (e::es) X.env)).all (λx=>!x.1)&&(backToKw cpos (keywordEach [] X.env)).all (λx=>x.1.isSome)
   && decide ((e::es).length+([]:List Keyword).length+(if ([]:List Keyword).isEmpty then 0 else 1)<30))=true:=by rfl)
  (hline:(apos.endLine == cpos.line)=true:=by rfl) (hs:starEach (e::es) X.env=(false,eval e X.env)::starEach es X.env:=by rfl) (hplain:(backTo cpos (starEach es X.env)).any (·.1)=false:=by rfl) :
  QE X (.Call (.Attribute o name apos) (e::es) [] cpos) (tBM K T r to t):=⟨ziy (hK:=hK) (pa:=pa) (slot:=slot) (hty:=hty) (hm:=hm) (ho:=ho.h) (ha:=ha.h) (hbase:=hbase) (hfew:=hfew) (hline:=hline) (hs:=hs) (hplain:=hplain)⟩
theorem qr {X:Cx}{id:String}(hc:jV X (.builtin id) r)(hg:Gl X x)(hm:X.mg x=none)(hv:bootBuiltins x=some (.builtin id))(ha:QA X (e::es) t)(hn:x≠"__name__":=by decide) (hdb:(x == ("__debug__":Str))=false:=by decide)
  (he:starEach (e::es) X.env=(false,eval e X.env)::starEach es X.env:=by rfl) (hpl:(backTo pos (starEach es X.env)).any (·.1)=false:=by rfl):QE X (.Call (.Name x p) (e::es) [] pos) (tCB r t):=⟨zd3 (hc:=hc) (hg:=hg) (hm:=hm) (hv:=hv) (ha:=ha.h) (hn:=hn) (hdb:=hdb) (he:=he) (hpl:=hpl)⟩
theorem zeO {X:Cx}(F:OkF X.prog X.w X.K X.mg X.base k x ps sp)(hr:Room j X.A)(hk:k<=j)(ha:QA X (e::es) t)(hg:Gl X x:=by rfl) (hdb:(x == ("__debug__":Str))=false:=by decide)
  (he:starEach (e::es) X.env=(false,eval e X.env)::starEach es X.env:=by rfl) (hpl:(backTo pos (starEach es X.env)).any (·.1)=false:=by rfl):QE X (.Call (.Name x p) (e::es) [] pos) (kR sp [] E0 t):=⟨zef (F:=F) (hr:=hr) (hk:=hk) (ha:=ha.h) (hg:=hg) (hdb:=hdb) (he:=he) (hpl:=hpl)⟩
theorem Ve {X:Cx}(F:OkF X.prog X.w X.K X.mg X.base k x ps sp)(hr:Room j X.A)(hk:k<=j)(hg:Gl X x:=by rfl) (hdb:(x == ("__debug__":Str))=false:=by decide):QE X (.Call (.Name x p) [] [] pos) (kR sp [] E0 tNil):=⟨zdd (F:=F) (hr:=hr) (hk:=hk) (hg:=hg) (hdb:=hdb)⟩
theorem Kg {X:Cx}(F:OkH X.prog X.w X.K X.mg X.base k x ps sp)(hr:kU j X.A)(hk:k<=j)(ha:QA X (e::es) t)(hg:Gl X x:=by rfl) (hdb:(x == ("__debug__":Str))=false:=by decide)
  (he:starEach (e::es) X.env=(false,eval e X.env)::starEach es X.env:=by rfl) (hpl:(backTo pos (starEach es X.env)).any (·.1)=false:=by rfl):QE X (.Call (.Name x p) (e::es) [] pos) (kR sp [] E0 t):=⟨zey (F:=F) (hr:=hr) (hk:=hk) (ha:=ha.h) (hg:=hg) (hdb:=hdb) (he:=he) (hpl:=hpl)⟩
theorem Jr {X:Cx}(hc:jV X (.type T) r)(hg:Gl X x)(hm:X.mg x=none)(hv:bootBuiltins x=some (.type T))(ha:QA X (e::es) t)(hn:x≠"__name__":=by decide) (hdb:(x == ("__debug__":Str))=false:=by decide)
  (he:starEach (e::es) X.env=(false,eval e X.env)::starEach es X.env:=by rfl) (hpl:(backTo pos (starEach es X.env)).any (·.1)=false:=by rfl):QE X (.Call (.Name x p) (e::es) [] pos) (tCB r t):=⟨zc6 (hc:=hc) (hg:=hg) (hm:=hm) (hv:=hv) (ha:=ha.h) (hn:=hn) (hdb:=hdb) (he:=he) (hpl:=hpl)⟩
theorem zeP {X:Cx}(hf:QE X (.Name x p) tf)(hr:Room j X.A)(hk:k<=j)(ha:QA X (e::es) t)
  (he:starEach (e::es) X.env=(false,eval e X.env)::starEach es X.env:=by rfl) (hpl:(backTo pos (starEach es X.env)).any (·.1)=false:=by rfl) :
  QE X (.Call (.Name x p) (e::es) [] pos) (VH X.prog X.w X.K X.mg X.base k tf t):=⟨zeJ (hf:=hf.h) (hr:=hr) (hk:=hk) (ha:=ha.h) (he:=he) (hpl:=hpl)⟩
theorem W4 {X:Cx}(hx:Thr X E)(F:OkX X.prog X.w X.K X.mg X.base k x ps sp)(hr:Room j X.A)(hk:k<=j)(ha:QA X (e::es) t)(hg:Gl X x:=by rfl) (hdb:(x == ("__debug__":Str))=false:=by decide)
  (he:starEach (e::es) X.env=(false,eval e X.env)::starEach es X.env:=by rfl) (hpl:(backTo pos (starEach es X.env)).any (·.1)=false:=by rfl):QE X (.Call (.Name x p) (e::es) [] pos) (Vy sp E t):=⟨zep (hx:=hx) (F:=F) (hr:=hr) (hk:=hk) (ha:=ha.h) (hg:=hg) (hdb:=hdb) (he:=he) (hpl:=hpl)⟩
theorem qz {X:Cx}(h:X.mg x=some (.ref a))(hg:Gl X x:=by rfl) (hd:(x == ("__debug__":Str))=false:=by decide):QE X (.Name x pos) (tC (.ref a)):=⟨ziI (h:=h) (hg:=hg) (hd:=hd)⟩
theorem zgQ (ho:OpR X (compareOp op) r)(ha:QE X a ta)(hb:QE X b tb)(hm:behindInMarks op b=false):QE X (.Compare a [op] [b] pos) (tOp r ta tb):=⟨zge (ho:=ho) (ha:=ha.h) (hb:=hb.h) (hm:=hm)⟩
theorem jH {X:Cx}(h:∃ u,X.mg x=some u/\RelV v u)(hg:Gl X x:=by rfl) (hd:(x == ("__debug__":Str))=false:=by decide):QE X (.Name x pos) (tC v):=⟨zkC (h:=h) (hg:=hg) (hd:=hd)⟩
theorem xQ (hc:QT X c tA)(ha:QE X a ta)(hb:QE X b tb):QE X (.IfExp c a b pos) (tIf tA ta tb):=⟨zdM (hc:=hc.h) (ha:=ha.h) (hb:=hb.h)⟩
theorem ze {i j pos}:QE X (.Constant (.int i) j pos) (tC (.int i)):=⟨zhX ⟩
theorem Vf (hr:IxR X r)(ha:QE X a ta)(hb:QE X b tb)(hs:Wl b):QE X (.Subscript a b pos) (tOp r ta tb):=⟨zkx (hr:=hr) (ha:=ha.h) (hb:=hb.h) (hs:=hs)⟩
theorem zgR {X:Cx}(hm:∃ a,X.mg x=some (.ref a)/\Kf X.w X.K a kvs)(he:QE X e ty)(hg:Gl X x:=by rfl) (hd:(x == ("__debug__":Str))=false:=by decide)
  (hbase:attributeBase (.Name x p) "get" X.env (eval (.Name x p) X.env)=eval (.Name x p) X.env:=by rfl)
  (hfew:((backTo cpos (starEach [e] X.env)).all (λx=>!x.1)&&(backToKw cpos (keywordEach [] X.env)).all (λx=>x.1.isSome)
   && decide (([e]:Lg).length+([]:List Keyword).length+(if ([]:List Keyword).isEmpty then 0 else 1)<30))=true:=by rfl)
  (hline:(apos.endLine == cpos.line)=true:=by rfl) (htr:backTo cpos (starEach [e] X.env)=[(false,eval e X.env)]:=by rfl) :
  QE X (.Call (.Attribute (.Name x p) "get" apos) [e] [] cpos) (zcj kvs ty):=⟨zgN (hm:=hm) (he:=he.h) (hg:=hg) (hd:=hd) (hbase:=hbase) (hfew:=hfew) (hline:=hline) (htr:=htr)⟩
theorem zk (h:QA X es t):QE X (.List es pos) (tLst t):=⟨zim (h:=h.h)⟩
theorem zH {j pos}:QE X (.Constant .none j pos) (tC .non):=⟨zhY ⟩
theorem zr (ho:OpR X (binaryOp op) r)(ha:QE X a ta)(hb:QE X b tb):QE X (.BinOp a op b pos) (tOp r ta tb):=⟨zku (ho:=ho) (ha:=ha.h) (hb:=hb.h)⟩
theorem Kh {X:Cx}{lo hi:Option Expr}{r:V->Option Int->Option Int->Hp->VK->Prop}(hr:SlR X r)(he:QE X e te)(hl:QO X lo tl)(hu:QO X hi th):QE X (.Subscript e (.Slice lo hi none p2) pos) (tSl r te tl th):=⟨zd5 (hr:=hr) (he:=he.h) (hl:=hl.h) (hu:=hu.h)⟩
theorem zh {x1}(h:QA X es t):QE X (.Tuple es x1 pos) (tTup t):=⟨zil (h:=h.h)⟩
theorem zeQ (ho:UnR X (unaryOp op) r)(ha:QE X a ta):QE X (.UnaryOp op a pos) (tUn r ta):=⟨zkv (ho:=ho) (ha:=ha.h)⟩
theorem zgS {X:Cx}(hN:X.N.Nodup)(hi:X.N[i]? = some x)(hx:Loc X.env.scope x)(hf:X.fn x=true\/X.env.scope.names.lookup x=some .local:=by first | exact .inl rfl | exact .inr rfl | assumption):QG X (.Name x pos) (xC i):=⟨zbK (hN:=hN) (hi:=hi) (hx:=hx) (hf:=hf)⟩
theorem vJ {X:Cx}(hc:X.calm=true)(h:QGs X es t)
  (hn:(assignEach es X.env).length=n:=by rfl) (hst:(assignEach es X.env).findIdx? (·.1)=none:=by rfl):QG X (.Tuple es k pos) (gTup X.K n t):=⟨zic (hc:=hc) (h:=h.h) (hn:=hn) (hst:=hst)⟩
theorem zD {X:Cx}(h1:QG X e t)(h2:QGs X es u)
  (hs:(assignEach (e::es) X.env).map (·.2)=assign e X.env::(assignEach es X.env).map (·.2):=by rfl):QGs X (e::es) (XX t u):=⟨zdO (h1:=h1.h) (h2:=h2.h) (hs:=hs)⟩
theorem xf:QGs X [] gNil:=⟨zgc ⟩
theorem zeR {X:Cx}{elts:Lg}{epos:Pos}(hg:Gl X "enumerate")(hm:X.mg "enumerate" = none)(ha:QA X [a] ta)(hs:starEach [a] X.env=[(false,eval a X.env)]:=by rfl) :
  QI X (.Tuple elts ek epos) (.Call (.Name "enumerate" p) [a] [] pos) (VA ta):=⟨zew (hg:=hg) (hm:=hm) (ha:=ha.h) (hs:=hs)⟩
theorem jQ {X:Cx}{K:Frag}{tg l:Expr}{tl:TE}(hK:X.K=K)(hl:QE X l tl):QI X tg l (YJ K tl):=⟨zei (hK:=hK) (hl:=hl.h)⟩
theorem Js {X:Cx}(hg:Gl X "range")(hm:X.mg "range" = none)(ha:QA X [a] ta)(hs:starEach [a] X.env=[(false,eval a X.env)]:=by rfl):QI X tg (.Call (.Name "range" p) [a] [] pos) (zbL ta):=⟨zc1 (hg:=hg) (hm:=hm) (ha:=ha.h) (hs:=hs)⟩
theorem ziS (hl:QE X l tl):QI X tg l (iStr tl):=⟨zit (hl:=hl.h)⟩
theorem zcn:QO X none Wk:=⟨zgl ⟩
theorem zco (h:QE X e te):QO X (some e) (zbS te):=⟨zgm (h:=h.h)⟩
theorem kg {X:Cx}(he:QE X e te)(hg:QG X tg g)(hs:swapsWithSole [tg] e pos.line X.env=pure false:=by rfl) (hw:swappedStores [tg] e X.env=pure none:=by rfl)
  (h1:(assignEach [tg] X.env).map (·.2)=[assign tg X.env]:=by rfl):QS X (.Assign [tg] e pos) (tAsg te g):=⟨zie (he:=he.h) (hg:=hg.h) (hs:=hs) (hw:=hw) (h1:=h1)⟩
theorem VL {X:Cx}(he:QE X e te)(hs:swapsWith e none pos.line X.env=pure false:=by rfl):QS X (.Expr e pos) (J4 te):=⟨ZM (he:=he.h) (hs:=hs)⟩
theorem wL {X:Cx}{iter:Expr}{body:List Stmt}(hp:PassesOwn (model X.prog X.w) X.A X.env X.xe)(hc:X.calm=true)(hi:QI X tg iter wi)(hg:QG X tg g)(hb:QSs X body tb)
  (hs:∀ x,foldedSetIterable iter X.env x=pure x:=by intro _;rfl):QS X (.For tg iter body [] pos) (tFor wi g tb):=⟨zih (hp:=hp) (hc:=hc) (hi:=hi.h) (hg:=hg.h) (hb:=hb.h) (hs:=hs)⟩
theorem zo (hc:QT X c tc)(ha:QSs X a t)(hb:QSs X b u):QS X (.If c a b pos) (tIfS tc t u):=⟨zkt (hc:=hc.h) (ha:=ha.h) (hb:=hb.h)⟩
theorem zeS {X:Cx}{st:Stmt}:QS X st Vl:=⟨zdN ⟩
theorem zeT {X:Cx}(hx:Thr X E)(R:Err X.prog X.w X.K X.mg X.base x C f pay)(hr:Room j X.A)(hj:2<=j)(ha:QA X (e::es) t)(hg:Gl X x:=by rfl) (hdb:(x == ("__debug__":Str))=false:=by decide)
  (he:starEach (e::es) X.env=(false,eval e X.env)::starEach es X.env:=by rfl) (hpl:(backTo cpos (starEach es X.env)).any (·.1)=false:=by rfl) :
  QS X (.Raise (some (.Call (.Name x np) (e::es) [] cpos)) none pos) (Vz C f pay E t):=⟨zer (hx:=hx) (R:=R) (hr:=hr) (hj:=hj) (ha:=ha.h) (hg:=hg) (hdb:=hdb) (he:=he) (hpl:=hpl)⟩
theorem zg (he:QE X e te):QS X (.Return (some e) pos) (tRet te):=⟨zib (he:=he.h)⟩
theorem zeU {X:Cx}{pos':Pos}(hN:X.N.Nodup)(hi:X.N[i]? = some x)(hx:Loc X.env.scope x)(he:QE X e te)(hs:swapsWith e (some (.Name x pos')) pos.line X.env=pure false:=by rfl) (hf:X.fn x=true\/X.env.scope.names.lookup x=some .local:=by first | exact .inl rfl | exact .inr rfl | assumption) :
  QS X (.Assign [.Name x pos'] e pos) (tAsg te (xC i)):=⟨zif (hN:=hN) (hi:=hi) (hx:=hx) (he:=he.h) (hs:=hs) (hf:=hf)⟩
theorem ziT {X:Cx}(hm:X.mg x=some (.ref Dc))(cD:XCl X.K Dc)(hN:X.N.Nodup)(hi:X.N[i]? = some n)(hl:X.env.scope.names.lookup n=some .local)(hst:X.stack=X.env::X.outer)(hf:X.env.frame=some X.env.locals)
  (hb:∀ (E:XS) (pn:Lp) (xe:Value->Shared->Prop),PassesOwn (model X.prog X.w) X.A X.env xe->Thr (X.tryIn pn xe) E->QSs (X.tryIn pn xe) body (tb E))
  (hh:∀ pn ea,QSs (X.exIn pn ea) (b₀::suite) th) (hg:Gl X x:=by rfl) (hdb:(x == ("__debug__":Str))=false:=by decide) :
  QS X (.Try body [.ExceptHandler (some (.Name x np)) (some n) (b₀::suite) hpos] [] [] pos) (tTry X.K Dc i tb th):=⟨ziG (hm:=hm) (cD:=cD) (hN:=hN) (hi:=hi) (hl:=hl) (hst:=hst) (hf:=hf) (hb:=λE pn xe a b=>(hb E pn xe a b).h) (hh:=λpn ea=>(hh pn ea).h) (hg:=hg) (hdb:=hdb)⟩
theorem zc {X:Cx}{rest:List Stmt}{st:Stmt}(h1:QS X st t)(h2:QSs X rest u):QSs X (st::rest) (tSeq t u):=⟨wz (h1:=h1.h) (h2:=h2.h)⟩
theorem zi:QSs X [] zbJ:=⟨zgb ⟩
theorem zd {X:Cx}{st:Stmt}(h1:QS X st t):QSs X [st] t:=⟨ZL (h1:=h1.h)⟩
theorem zgT (ho:OpR X (compareOp op) r)(ha:QE X a ta)(hb:QE X b tb)(hm:behindInMarks op b=false):QT X (.Compare a [op] [b] pos) (YK (tOp r ta tb)):=⟨zgf (ho:=ho) (ha:=ha.h) (hb:=hb.h) (hm:=hm)⟩
theorem Zf (ha:QT X a tA):QT X (.UnaryOp .Not a pos) (tNot tA):=⟨zia (ha:=ha.h)⟩
theorem Vg {X:Cx}{K:Frag}(hK:X.K=K)(ha:QE X a ta)(he:∀ whole,isTrue a X.env whole=(do let v ← whole;standAt a.pos;holding [v] (truthy v)):=by intro _;rfl):QT X a (zck K ta):=⟨zdq (hK:=hK) (ha:=ha.h) (he:=he)⟩
theorem wM {X:Cx}{e:Expr}(h:QE X e t)(he:∀ whole,isTrue e X.env whole=(do let v ← whole;standAt e.pos;holding [v] (truthy v)):=by intro _;rfl):QT X e (tB t):=⟨zhZ (h:=h.h) (he:=he)⟩
theorem zgU:QTs X [] X5:=⟨zgr ⟩
theorem zgV (h:QT X c t):QTs X [c] t:=⟨zgs (h:=h.h)⟩
theorem qv {X:Cx}(i:Nat)(hN:X.N[i]? = some x:=by rfl) (hv:Vis X.env.scope x:=by first | exact Or.inl rfl | exact Or.inr (Or.inl rfl) | exact Or.inr (Or.inr rfl)) (hd:(x == ("__debug__":Str))=false:=by decide)
  (hcd:(x == ("__classdict__":Str))=false:=by decide):QE X (.Name x pos) (tVar i):=⟨pv (i:=i) (hN:=hN) (hv:=hv) (hd:=hd) (hcd:=hcd)⟩
theorem vh {rest:Lg}(ha:QT X a tA)(hb:QW X (.BoolOp .And (b::rest) pos) tB'):QW X (.BoolOp .And (a::b::rest) pos) (tAnd tA tB'):=⟨zh6 (ha:=ha.h) (hb:=hb.h)⟩
theorem xg (ha:QT X a tA):QW X (.BoolOp .And [a] pos) tA:=⟨zga (ha:=ha.h)⟩
theorem zcp {rest:Lg}(ha:QT X a tA)(hb:QW X (.BoolOp .Or (b::rest) pos) tB'):QW X (.BoolOp .Or (a::b::rest) pos) (tOr tA tB'):=⟨zks (ha:=ha.h) (hb:=hb.h)⟩
theorem zeV (ha:QT X a tA):QW X (.BoolOp .Or [a] pos) tA:=⟨zh0 (ha:=ha.h)⟩
theorem QW.qt (h:QW X e t):QT X e t:=⟨h.h.pt⟩
end
set_option autoImplicit false
section
variable {X:Cx} {pins:Lp} {σ:St} {H:Hp} {s:Shared} {a b:Addr} {kvs more:List (Key×V)} {A:Around} {E:Value->Shared->Prop}
end
section
variable {X:Cx} {o e:Expr} {apos cpos:Pos} {td ty:TE}
end
structure QPs (X:Cx)(pos:Pos)(keys:List (Option Expr))(values:Lg)(trs:List (TE×TE)):Prop where
 h:PPs X pos keys values trs
theorem Wo {X:Cx}{pos:Pos}:QPs X pos [] [] []:=⟨zcg⟩
theorem jR {X:Cx}{pos:Pos}{k v:Expr}{ks:List (Option Expr)}{vs:Lg}{tk tv:TE}{trs:List (TE×TE)}(hk:QE X k tk)(hv:QE X v tv)(hr:QPs X pos ks vs trs):QPs X pos (some k::ks) (v::vs) ((tk,tv)::trs):=⟨vI hk.h hv.h hr.h⟩
theorem Wq {X:Cx}{pos:Pos}{keys:List (Option Expr)}{values:Lg}{trs:List (TE×TE)}(h:QPs X pos keys values trs)(hall:keys.all (·.isSome)=true)(hl:keys.length=values.length)(h0:keys≠[]) (h15:keys.length<=15):QE X (.Dict keys values pos) (zch trs):=⟨zci h.h hall hl h0 h15⟩
theorem zgW {X:Cx}{o i:Expr}{pos:Pos}{td ty:TE}(hu:X.A.units+1<cLine)(ho:QE X o td)(hi:QE X i ty)(hs:NoSl i):QE X (.Subscript o i pos) (zce td ty):=⟨zcf hu ho.h hi.h hs⟩
end L2
namespace L2
open PySem PySem.Spec PyProof.Rows
section
variable {X:Cx} {tg:Expr}
end
noncomputable def ren (x y:Str):Str:=if y=x then Str.ofString "" else y
structure Ki (X:Cx)(x:Str)(scope:Scope):Prop where
 xN:x∉X.N.map (ren x)
 nd:(X.N.map (ren x)).Nodup
 kind:scope.kind=.function
 cell:∀ y∈scope.names,y.2≠.cell
 names:∀ y∈scope.names,y.2=.local->scope.names.lookup y.1=some .local
 var:scope.names.lookup x=some .local
 free:∀ y∈scope.names,y.2=.free->X.env.kindOf y.1=some .cell
 out:∀ y∈X.N.map (ren x),scope.names.lookup y≠some .local
 blank:scope.names.lookup (Str.ofString "")=none
 calm:X.calm=true
section
variable {X:Cx} {elt iter:Expr} {x:Str} {px pos:Pos} {ifs:Lg} {scope:Scope} {wi:TI} {tt:TT} {te:TE}
theorem zcq {l:Lh}:l.map (renL [x])=l.map (ren x):=by
 refine gZ λy _=>?_;unfold renL ren;by_cases h:y=x
 ·rw [ud (uE.mpr h),ud h]
 ·rw [ub λz=>h (uE.mp z),ub h]
theorem Ki.gen (L:Ki X x scope):Za X [x] scope:=by refine⟨?_,L.kind,L.cell,L.names,λy hy=>by rw [uE.mp hy];exact L.var,L.free,by rw [zcq];exact L.out,λ_ _ _=>L.blank,L.calm⟩;rw [zcq];exact Ue.mpr ⟨L.xN,L.nd⟩
end
section
variable {X:Cx}
end
section
variable {X:Cx}
noncomputable def zeW:R2:=λx y H Q=>(∃ (a:Addr) (xs:List V) (z:Str),x=.ref a/\y=.str z/\H a=some (.tup xs)/\Q (.bl false) H)\/∃ l m:Lc,x=.str (S l)/\y=.str (S m)/\Q (.bl (decide (l=m))) H
theorem zcr (hu:X.A.units+64<cLine):OpR X (compareOp .Eq) zeW:=by
 intro pins s σ H x y v u Q I rx ry h;rcases h with⟨a,xs,z,rfl,rfl,ha,q⟩ | ⟨l,m,rfl,rfl,q⟩
 ·cases rx;obtain⟨t,rfl⟩:=ry;obtain⟨its,r1,p1⟩:=wK I ha;exact SeqAt.RcAt.tuple_str z t p1 (by lia) _ _ _ _ ⟨.bl _,H,I,rfl,q⟩
 ·refine zv pins s σ H _ _ v u Q I rx ry ⟨rfl,?_⟩;rw [show decide (V.str (S l)=V.str (S m))=decide (l=m) from by rw [UC];simp [vo]];exact q
end
noncomputable def pdV:V->Option PyData
 | .non=>some .none
 | .bl b=>some (.bool b)
 | .int i=>some (.int i)
 | .str x=>some (.str x)
 | _=>none
noncomputable def pdVs:List V->Option (List PyData)
 | []=>some []
 | v::r=>match pdV v,pdVs r with
  | some d,some ds=>some (d::ds)
  | _,_=>none
inductive PdA (H:Hp):Addr->PyData->Prop
 | lst {a xs ds}:H a=some (.lst xs)->pdVs xs=some ds->PdA H a (.list ds)
 | tup {a xs ds}:H a=some (.tup xs)->pdVs xs=some ds->PdA H a (.tuple ds)
 | dct {a} {kvs:List (Key×V)} {ks vs:List PyData}:H a=some (.dK kvs)->pdVs (kvs.map λe=>kV e.1)=some ks->pdVs (kvs.map λe=>e.2)=some vs->PdA H a (.dict (ks.zip vs))
theorem PdA.mono (h:PdA H a d)(g:Same H H'):PdA H' a d:=by
 cases h with
 | lst h e=>exact .lst (g _ _ h) e
 | tup h e=>exact .tup (g _ _ h) e
 | dct h e k=>exact .dct (g _ _ h) e k
def PdT (H:Hp)(x:V)(d:PyData):Prop:=pdV x=some d\/∃ a,x=.ref a/\PdA H a d
theorem PdT.mono (h:PdT H x d)(g:Same H H'):PdT H' x d:=by
 rcases h with h | ⟨a,e,h⟩
 ·exact .inl h
 ·exact .inr ⟨a,e,h.mono g⟩
section
variable {X:Cx} {a b c:Expr} {ta tb tc:TE} {pos:Pos}
end
section
variable {X:Cx}
end
def W5 (h:Heap)(a l:Addr)(i:Int):Prop:=∃ o,h.get? a=some o/\o.cls=.type "reversed"/\o.data=.fields #[.ref l,rawInt i]
section
variable {prog:Program} {w:World} {A:Around} {E:Value->Shared->Prop} {s:Shared}
theorem W5.typeIs (x:W5 s.heap a l i):s.TypeIs (.ref a) "reversed":=let ⟨o,ho,hc,_⟩:=x;⟨o,ho,hc⟩
theorem W5.at {h h':Heap}(x:W5 h a l i)(e:∀ o,h.get? a=some o->h'.get? a=some o):W5 h' a l i:=let ⟨o,ho,r⟩:=x;⟨o,e _ ho,r⟩
end
section
variable {X:Cx} {tg:Expr}
end
section
variable {X:Cx}
variable {st:Stmt} {rest:List Stmt} {t u:TS}
end
section
variable {X:Cx} {pos:Pos}
theorem zeX (ho:QE X o to)(hi:QE X i ti)(hs:PSet X t)
  (ha:∀ v,assign (.Subscript o i pos) X.env v=(do
   let ov ← holding [v] (eval o X.env)
   let iv ← holding [v,ov] (eval i X.env)
   standAt pos
   holding [v,ov,iv] (setItem ov iv v)
   release [v,ov,iv] [])):QG X (.Subscript o i pos) (gSub to ti t):=⟨zid (ho:=ho.h) (hi:=hi.h) (hs:=hs) (ha:=ha)⟩
end
noncomputable def hide (st:Addr)(H:Hp):Hp:=λb=>if b=st then none else H b
theorem zp {st:Addr}{H:Hp}:Same (hide st H) H:=λb o h=>by
 unfold hide at h;split at h
 ·cases h
 ·exact h
theorem hide_ne {st b:Addr}{H:Hp}(h:b≠st):hide st H b=H b:=ub h
theorem Wr {st:Addr}{H:Hp}:hide st H st=none:=ud rfl
theorem zu {st:Addr}{H H':Hp}(g:Same H H'):Same (hide st H) (hide st H'):=λb o h=>by
 by_cases e:b=st
 ·rw [e,Wr] at h;cases h
 ·rw [hide_ne e] at h ⊢;exact g _ _ h
def Sd (K:Le)(st a:Addr)(ns:List Int)(H:Hp):Prop:=(∃ n:Nat,H st=some (.lst [.ref a,.int n]))/\SqL K (hide st H) a (ns.map V.int)/\ns.length<=63
def Dr (st a:Addr)(H H':Hp):Prop:=Same (hide st H) (hide st H')/\∃ n:Nat,H' st=some (.lst [.ref a,.int n])
theorem Dr.trans {st a:Addr}{H H1 H2:Hp}(h:Dr st a H H1)(k:Dr st a H1 H2):Dr st a H H2:=⟨h.1.trans k.1,k.2⟩
theorem Sd.same {K:Le}{st a:Addr}{ns:List Int}{H H':Hp}(h:Sd K st a ns H)(g:Same H H'):Dr st a H H':=by obtain⟨⟨n,hn⟩,_⟩:=h;exact⟨zu g,n,g _ _ hn⟩
theorem Sd.refl {K:Le}{st a:Addr}{ns:List Int}{H:Hp}(h:Sd K st a ns H):Dr st a H H:=h.same (Same.refl H)
theorem Sd.put {K:Le}{st a:Addr}{ns:List Int}{H:Hp}{n:Nat}(h:Sd K st a ns H):Dr st a H (upd H st (.lst [.ref a,.int n])):=
 ⟨λb o hb=>by
  by_cases e:b=st
  ·rw [e,Wr] at hb;cases hb
  ·rw [hide_ne e] at hb ⊢;rw [zl e];exact hb,n,zb⟩
theorem Sd.ne {K:Le}{st a p:Addr}{ns:List Int}{H:Hp}(h:Sd K st a ns H)(hp:H p=none):p≠st:=by obtain⟨⟨n,hn⟩,_⟩:=h;rintro rfl;rw [hn] at hp;cases hp
theorem Sd.new {K:Le}{st a p:Addr}{ns:List Int}{H:Hp}{o:HO}(h:Sd K st a ns H)(hp:H p=none):Dr st a H (upd H p o)/\hide st (upd H p o) p=some o:=⟨h.same (za hp),by rw [hide_ne (h.ne hp)];exact zb⟩
section
variable {X:Cx} {e:Expr} {te:TE} {pos p2:Pos} {K:Le}
theorem Q4 {o f i:Expr}{apos cpos:Pos}{td ty tx:TE}(hu:X.A.units+1<cLine)(ho:QE X o td)(he:QE X i ty)(hf:QE X f tx)(m:M2 X o "get" apos i f cpos):QE X (.Call (.Attribute o "get" apos) [i,f] [] cpos) (VG td ty tx):=⟨zeI hu ho.h he.h hf.h m⟩
end
variable {X:Cx}
end L2
namespace L2
open PySem PySem.Spec PySem.Calls PyProof.Rows PySem.W Builtin Builtin.ObjectAttr
section
variable {prog:Program} {w:World} {A:Around} {E:Value->Shared->Prop} {K:Frag} {C:Addr}
end
section
variable {X:Cx} {E:XS} {C:Addr} {x:Str} {e:Expr} {es:Lg} {t:TA} {np cpos pos:Pos} {j:Nat}
end
structure GotX (K:Frag)(H:Hp)(a C:Addr)(fs:List (Str×V)):Prop where
 cl:XCl K C
 ex:(∃ d,yw H a C (some d)/\H d=some (.xd fs))\/(fs=[]/\yw H a C none)
theorem GotX.mono {K:Frag}{H H':Hp}{a C:Addr}{fs:List (Str×V)}(g:GotX K H a C fs)(s:Same H H'):GotX K H' a C fs:= ⟨g.cl,g.ex.imp (λ⟨d,c,e⟩=>⟨d,c.mono s,s _ _ e⟩) λ⟨e,c⟩=>⟨e,c.mono s⟩⟩
section
variable {X:Cx} {pins:Lp} {σ:St} {H:Hp} {s:Shared} {a C:Addr} {fs:List (Str×V)}
end
end L2
namespace L2
open PySem PySem.Spec PySem.Calls PyProof.Rows PySem.W
theorem xh:plainId "dict.update.loop" = true:=by decide +kernel
theorem Zg:entryFor table "dict.update.loop" = some Builtin.«dict.update.loop»:=entryFor_of_fast (by kernel_rfl)
section
variable {prog:Program} {w:World} {A:Around} {R:Result->Shared->Prop} {I d:Addr} {fp wr:Ld} {n:Nat} {P:Nat->Value->Prop} {St:Nat->Heap->Prop} {K:Type} [DecidableEq K] {knd:KeyKind prog w K}
end
section
variable {X:Cx} {pins:Lp} {σ:L2.St} {H:Hp} {s:Shared}
end
section
variable {X:Cx} {pins:Lp} {σ:L2.St} {H:Hp} {s:Shared}
end
section
variable {P:Program} {w:World} {A:Around} {s:Shared} {a b:Addr} {xs ys:Array Value} {R:Result->Shared->Prop}
end
section
variable {X:Cx} {pins:Lp} {σ:L2.St} {H:Hp} {s:Shared}
noncomputable def rEq0 (K:Frag):R2:=λx y H Q=>∃ a b xs,x=.ref a/\y=.ref b/\SqL K H a xs/\SqL K H b []/\Q (.bl xs.isEmpty) H
theorem ziU {K:Frag}(hK:X.K=K)(hu:X.A.units<cLine):OpR X (compareOp .Eq) (rEq0 K):=by
 subst hK;intro pins s σ H x y v u Q I rx ry h;obtain⟨a,b,xs,rfl,rfl,ha,hb,q⟩:=h;cases rx;cases ry;obtain⟨its,r1,p1,_⟩:=I.list ha;obtain⟨its2,r2,p2,_⟩:=I.list hb;cases r2;have l1:=r1.length;cases xs with
 | nil=>cases r1;exact SeqAt.eq_listAt (e:=λ_=>true) p1.isList p2.isList rfl hu (λj h1=>by simp at h1) ⟨.bl _,H,I,rfl,q⟩
 | cons x xs=>exact SeqAt.eq_list_lengthsAt p1.isList p2.isList (by simp [← l1]) hu ⟨.bl _,H,I,rfl,q⟩
end
section
variable {X:Cx}
end
section
variable {X:Cx} {k j:Nat} {o i:Expr} {p pos:Pos} {e:Expr} {es:Lg} {tf:TE} {t:TA} {E:XS}
end
section
variable {X:Cx} {e:Expr} {te:TE}
end
section
variable {X:Cx} {elt iter:Expr} {x:Str} {px pos:Pos} {ifs:Lg} {scope:Scope} {wi:TI} {tt:TT} {te:TE}
end
theorem zgX:bootBuiltins "dict" = some (.type "dict"):=by decide +kernel
noncomputable def zaB (K:Frag):List V->Hp->VK->Prop:=λxs H Q=>∃ p ys,xs=[.ref p]/\SqL K H p ys/\∀ l,H l=none->Q (.ref l) (upd H l (.lst ys))
theorem zaC {X:Cx}{K:Frag}(hK:X.K=K):jV X (.type "list") (zaB K):=by subst hK;intro pins s σ H xs us Q I r h;obtain⟨p,ys,e,h1,h2⟩:=h;exact Vs pins s σ H xs us Q I r ⟨p,ys,e,.inl h1,h2⟩
structure OkM (P:Program)(w:World)(K:Frag)(mg:La)(base:Heap)(k:Nat)(C:Addr)(m:Str)(ps:Lh)(sp:Sp):Prop where
 ex:∃ (f:Addr) (fd:FuncData),Cls K C/\Meth K C m f/\Binds K fd ps []/\FnOk P w K mg base (CXE P w) k f fd ps sp
structure OkC (P:Program)(w:World)(K:Frag)(mg:La)(base:Heap)(k:Nat)(C:Addr)(x:Str)(ps:Lh)(sp:Sp):Prop where
 ex:∃ (f:Addr) (fd:FuncData),Mk K C f/\Binds K fd ps []/\mg x=some (.ref C)/\FnOk P w K mg base (CXE P w) k f fd ps sp
structure Dm (K:Frag)(C:Addr)(m qual:Str)(st:Stmt)(ps:Lh):Prop where
 ex:∃ (f:Addr) (fd:FuncData),Fun K m qual st f fd/\Binds K fd ps []/\Cls K C/\Meth K C m f
structure Dc (K:Frag)(mg:La)(C:Addr)(x qual:Str)(st:Stmt)(ps:Lh):Prop where
 ex:∃ (f:Addr) (fd:FuncData),Fun K "__init__" qual st f fd/\Binds K fd ps []/\Mk K C f/\mg x=some (.ref C)
section
variable {P:Program} {w:World} {K:Frag} {mg:La} {base:Heap} {k j:Nat} {C:Addr} {m x qual:Str} {st:Stmt} {ps N:Lh} {sp sp':Sp}
theorem OkM.mono (F:OkM P w K mg base j C m ps sp)(h:j<=k):OkM P w K mg base k C m ps sp:=by obtain⟨f,fd,c,hm,b,G⟩:=F.ex;exact⟨f,fd,c,hm,b,G.mono h⟩
theorem OkM.imp (F:OkM P w K mg base k C m ps sp)(h:∀ vs H Q E,sp' vs H Q E->sp vs H Q E):OkM P w K mg base k C m ps sp':=by obtain⟨f,fd,c,hm,b,G⟩:=F.ex;exact⟨f,fd,c,hm,b,G.imp h⟩
theorem Dm.ok (D:Dm K C m qual st ps)(Sc:zj N ps (zf st))(len:∀ vs H Q E,sp vs H Q E->vs.length=ps.length) (hbody:∀ (f:Addr) (cdv:Value) (A:Around) (outer:List Env) (s:Shared) (H:Hp) (vs:List V) (Q:VK) (E:XK),Room k (A.deeper (envOfC qual (zf st) s.heap.objs.size f cdv))->sp vs H Q E -> ∃ t,PSs (cxOf (CXE P w) P w K mg base N qual (zf st) f cdv A outer s H E) (zZ st) t/\t { nx:=λ_ H'=>Q .non H',rt:=Q } (start N vs) H):OkM P w K mg base (k+1) C m ps sp:=by obtain⟨f,fd,F,b,cl,hm⟩:=D.ex;refine⟨f,fd,cl,hm,b,?_⟩;obtain⟨oc,od,kV,doc,pm,an,cdv,ct,osl,rfl,lk,hcd⟩:=F.ex;exact zbQ lk hcd Sc len λA outer s H vs Q E hr h=>hbody f cdv A outer s H vs Q E hr h
theorem Dc.ok (D:Dc K mg C x qual st ps)(Sc:zj N ps (zf st))(len:∀ vs H Q E,sp vs H Q E->vs.length=ps.length) (hbody:∀ (f:Addr) (cdv:Value) (A:Around) (outer:List Env) (s:Shared) (H:Hp) (vs:List V) (Q:VK) (E:XK),Room k (A.deeper (envOfC qual (zf st) s.heap.objs.size f cdv))->sp vs H Q E -> ∃ t,PSs (cxOf (CXE P w) P w K mg base N qual (zf st) f cdv A outer s H E) (zZ st) t/\t { nx:=λ_ H'=>Q .non H',rt:=Q } (start N vs) H):OkC P w K mg base (k+1) C x ps sp:=by obtain⟨f,fd,F,b,M,hm⟩:=D.ex;refine⟨f,fd,M,b,hm,?_⟩;obtain⟨oc,od,kV,doc,pm,an,cdv,ct,osl,rfl,lk,hcd⟩:=F.ex;exact zbQ lk hcd Sc len λA outer s H vs Q E hr h=>hbody f cdv A outer s H vs Q E hr h
end
section
variable {X:Cx} {K:Frag} {k j:Nat} {C:Addr} {x m f:Str} {ps:Lh} {sp:Sp} {p pos apos pos':Pos} {e o value:Expr} {es:Lg} {to ta tv:TE} {t:TA} {E:XS}
theorem q9 (hK:X.K=K)(he:QE X e ta)(hb:attributeBase e f X.env (eval e X.env)=eval e X.env:=by rfl):QE X (.Attribute e f pos) (tFld K ta f):=⟨by subst hK;exact zij he.h hb⟩
theorem Jt (hK:X.K=K)(ha:QE X o ta)(hv:QE X value tv)(hs:swapsWith value (some (.Attribute o f pos')) pos.line X.env=pure false:=by rfl):QS X (.Assign [.Attribute o f pos'] value pos) (sFld K ta tv f):=⟨by subst hK;exact zik ha.h hv.h hs⟩
theorem xR (F:OkM X.prog X.w X.K X.mg X.base k C m ps sp)(hr:Room j X.A)(hk:k<=j)(ho:QE X o to)(ha:QA X (e::es) t)
  (hst:starEach (e::es) X.env=(false,eval e X.env)::starEach es X.env:=by rfl) (hpl:(backTo pos (starEach es X.env)).any (·.1)=false:=by rfl)
  (ht:eval (.Call (.Attribute o m apos) (e::es) [] pos) X.env=(do
   let ov ← eval o X.env
   standAt apos.atName
   let (f,first) ← holding [ov] (getMethod ov m pl)
   callWith pos f first (backTo pos (starEach (e::es) X.env)) (backToKw pos (keywordEach [] X.env))):=by rfl) :
  QE X (.Call (.Attribute o m apos) (e::es) [] pos) (QL C m sp [] E0 to t):=by
 obtain⟨f,fd,cl,hm,b,G⟩:=F.ex
 exact⟨zgi ho.h cl hm G (hr.mono hk) b .nil zb5 ha.h hst hpl ht⟩
theorem wW (F:OkM X.prog X.w X.K X.mg X.base k C m ps sp)(hr:Room j X.A)(hk:k<=j)(ho:QE X o to)
  (ht:eval (.Call (.Attribute o m apos) [] [] pos) X.env=(do
   let ov ← eval o X.env
   standAt apos.atName
   let (f,first) ← holding [ov] (getMethod ov m pl)
   callWith pos f first (backTo pos (starEach [] X.env)) (backToKw pos (keywordEach [] X.env))):=by rfl) :
  QE X (.Call (.Attribute o m apos) [] [] pos) (QL C m sp [] E0 to tNil):=by
 obtain⟨f,fd,cl,hm,b,G⟩:=F.ex
 exact⟨zd1 ho.h cl hm G (hr.mono hk) b .nil zb5 ht⟩
theorem Q5 (F:OkC X.prog X.w X.K X.mg X.base k C x ps sp)(hr:Room j X.A)(hk:k+1<=j)(ha:QA X (e::es) t)(hg:Gl X x:=by rfl) (hdb:(x == ("__debug__":Str))=false:=by decide) (he:starEach (e::es) X.env=(false,eval e X.env)::starEach es X.env:=by rfl) (hpl:(backTo pos (starEach es X.env)).any (·.1)=false:=by rfl):QE X (.Call (.Name x p) (e::es) [] pos) (YL C sp [] E0 t):=by obtain⟨f,fd,M,b,hm,G⟩:=F.ex;exact⟨zgj M G (hr.mono hk) hg hm b .nil zb5 ha.h hdb he hpl⟩
noncomputable def zaD (C:Addr)(m:Str)(sp:Sp)(E:XS)(ta:TE)(t:TA):TE:=λσ H Q=>ta σ H λx H1=>∃ a dx fs,x=.ref a/\H1 a=some (.ins C dx fs)/\fs.lookup m=none/\t σ H1 λvs H2=>sp (x::vs) H2 Q λc d H'=>E c d σ H'
theorem j7 (hx:Thr X E)(F:OkM X.prog X.w X.K X.mg X.base k C m ps sp)(hr:Room j X.A)(hk:k<=j)(ho:QE X o to)(ha:QA X (e::es) t)
  (hst:starEach (e::es) X.env=(false,eval e X.env)::starEach es X.env:=by rfl) (hpl:(backTo pos (starEach es X.env)).any (·.1)=false:=by rfl)
  (ht:eval (.Call (.Attribute o m apos) (e::es) [] pos) X.env=(do
   let ov ← eval o X.env
   standAt apos.atName
   let (f,first) ← holding [ov] (getMethod ov m pl)
   callWith pos f first (backTo pos (starEach (e::es) X.env)) (backToKw pos (keywordEach [] X.env))):=by rfl) :
  QE X (.Call (.Attribute o m apos) (e::es) [] pos) (zaD C m sp E to t):=by
 refine⟨λpins s σ H Q I h=>?_⟩
 obtain⟨f,fd,cl,hm,b,G⟩:=F.ex
 refine UN (pl:=pl) (thn (ho.h pins s σ H _ I h) λu s1 zq=>?_) ht
 obtain⟨x,H1,I1,rx,a,dx,fs,ex,ea,l,q⟩:=zq
 subst ex
 obtain rfl:u=Value.ref a:=rx
 refine y7 I1 ea cl hm l ?_
 refine Uh (first:=[.ref a]) (h₀:=X.base) I.ok.mod.kin hm.kp (thn (ha.h pos pins s1 σ H1 _ I1 q) λus s2 ⟨vs,H2,I2,r,q2⟩=>⟨I2.kIn,?_⟩) hst hpl
 exact zbZ (us:=.ref a::us) (vs:=.ref a::vs) G (hr.mono hk) b hx I2 (.cons rfl r) q2
end
structure jX (k:Nat)(A:Around):Prop where
 dp:A.depth+3 * k+5<recursionLimit
 un:A.units+16 * k+200<cLine
 gd:A.guards=some []
theorem Room.n (r:Room k A):jX k A:=⟨r.dp,r.un,r.gd⟩
theorem jX.mono (r:jX k A)(h:j<=k):jX j A:=⟨by have:=r.dp;lia,by have:=r.un;lia,r.gd⟩
theorem jX.deeper {A:Around}(r:jX (k+1) A)(env:Env):jX k (A.deeper env):=
 ⟨by have:=r.dp;show A.depth+1+3 * k+5<_;lia,by have:=r.un;show A.units+3+16 * k+200<_;lia,r.gd⟩
theorem jX.depth {A:Around}(r:jX k A):A.depth<recursionLimit:=by have:=r.dp;lia
structure Wc (P:Program)(w:World)(K:Le)(mg:La)(base:Heap)(CX:CXT)(k:Nat)(f:Addr)(fd:FuncData)(ps:Lh)(sp:Sp):Prop where
 len:∀ vs H Q E,sp vs H Q E->vs.length=ps.length
 run:∀ (A:Around) (outer:List Env) (s:Shared) (H:Hp) (args:Args) (us:Lf) (vs:List V) (Q:VK) (E:XK),jX k A->Env0 P w K mg base A outer s H->BindsTo s fd args (ps.zip us)->Vals vs us->sp vs H Q E ->
  codeAny (model P w) A (.call (.ref f) args) (CR CX outer P w H s Q E) s
theorem Wc.ok {P:Program}{w:World}{K:Le}{mg:La}{base:Heap}{CX:CXT}{k:Nat}{f:Addr}{fd:FuncData}{ps:Lh}{sp:Sp}(F:Wc P w K mg base CX k f fd ps sp):FnOk P w K mg base CX k f fd ps sp:=⟨F.len,λA outer s H args us vs Q E hr=>F.run A outer s H args us vs Q E hr.n⟩
noncomputable abbrev W6 (CX:CXT)(P:Program)(w:World)(K:Le)(mg:La)(base:Heap)(N:Lh)(qual:Str)(scope:Scope)(f:Addr)(cd:Value)(A:Around)(outer:List Env)(s:Shared)(H:Hp)(E:XK):Cx:={ cxOf CX P w K mg base N qual scope f cd A outer s H E with calm:=false }
theorem zaE {CX:CXT}{P:Program}{w:World}{K:Le}{mg:La}{base:Heap}{N ps:Lh}{qual:Str}{scope:Scope}{f:Addr}{cd:Value}{A:Around}{outer:List Env}{s s1:Shared}{H:Hp}{E:XK}{us:Lf}{vs:List V} (S:zj N ps scope) (e0:Env0 P w K mg base A outer s H) (hl:vs.length=ps.length) (r:Vals vs us) (x:InCallC s s.heap.objs.size (bindL (envOfC qual scope s.heap.objs.size f cd).kindOf (ps.zip us) λ_=>none) (cellsFrom (s.heap.objs.size+1) scope.names []) (bindC (envOfC qual scope s.heap.objs.size f cd).kindOf (ps.zip us) λ_=>none) s1) : Inv (W6 CX P w K mg base N qual scope f cd A outer s H E) [] (start N vs) H s1:=by
 have hpl:ps.length<=N.length:=by have:=congrArg List.length S.pre;rw [Ui] at this;lia
 obtain⟨h1,tk,rfl,hk⟩:=x.done;have noA:∀ b:Addr,b∉(W6 CX P w K mg base N qual scope f cd A outer s H E).ex:=λb z=>absurd (show b∈([]:Ld) from z) (by simp)
 refine⟨⟨e0.mod,S.kind,rfl,rfl,ui _,λy z c h1 h2=>?_,λy hy=>?_,λy c _ h=>?_,λz=>absurd (show false=true from z) (by decide),Around.frames_deeper e0.frames,.inr ⟨rfl,rfl⟩,λb z=>absurd z (noA b),e0.bs,e0.bsz,λb _ _=>noA b,λb z=>absurd z (noA b),e0.funs,e0.frf⟩,
  rfl,e0.bare,Un.kept hk,⟨_,x.toInCall.ns,λi y v h1 h2 h3=>?_⟩,λy c h=>⟨_,x.cell y c h⟩,e0.hok.fresh (ui _),λy c h=>?_,λp hp=>absurd (show p∈([]:Lp) from hp) (by simp),e0.hok.kept hk,?_⟩
 ·exact name_of_addr x.apart (uP h1) (uP h2)
 ·have hy:scope.names.lookup y=some .cell\/scope.names.lookup y=some .free:=hy;rcases hy with hy | hy
  ·exact QM hy
  ·exact absurd rfl (S.nofree _ (uP hy))
 ·exact gE (x.above y c (uP h))
 ·have hi:i<vs.length:=by
   unfold start at h2
   by_cases hi:i<vs.length
   ·exact hi
   ·rw [Uz (by simpa using hi)] at h2
    rw [gz] at h2
    split at h2<;>cases h2
  have ha:vs[i]? = some v:=by
   unfold start at h2
   rw [UB (by simpa using hi),Uc] at h2
   cases e:vs[i]? with
   | none=>rw [e] at h2;cases h2
   | some a=>rw [e] at h2;cases h2;rfl
  obtain⟨u,hu,rv⟩:=r.get ha
  have hp:ps[i]? = some y:=by
   rw [← S.pre,GS (by lia)];exact h1
  have ndP:ps.Nodup:=by rw [← S.pre];exact S.nd.sublist (List.take_sublist _ _)
  refine⟨u,rv,?_⟩
  rcases S.par y (uN hp) with k | k
  ·exact .inl ⟨k,Jk ndP hp hu k⟩
  ·obtain⟨c,e⟩:=QM (n:=s.heap.objs.size+1) k
   refine .inr ⟨.inl k,c,e,?_⟩
   have q:=x.cell y c e
   rw [Jl ndP hp hu (by show scope.names.lookup y≠_;rw [k];decide)] at q
   exact q
 ·exact e0.hok.fresh (gE (x.above y c (uP h)))
 ·unfold start;show _=N.length;rw [ug,uk,Um];lia
theorem zeY {CX:CXT}{P:Program}{w:World}{K:Le}{mg:La}{base:Heap}{k:Nat}{f:Addr}{name qual:Str}{params:Arguments}{body:List Stmt}{scope:Scope}{dV kV doc pm cdv ct oc:Value}{an od:Option Addr} {osl:Array (Option Value)} {N ps:Lh} {sp:Sp} (lk:K.lookup f=some ⟨oc,od,.func (PySem.W.fnOf name qual params body scope dV kV doc pm an cdv ct),osl⟩) (hcd:PySem.W.codeIn K cdv qual=true) (S:zj N ps scope) (len:∀ vs H Q E,sp vs H Q E->vs.length=ps.length) (hbody:∀ (A:Around) (outer:List Env) (s:Shared) (H:Hp) (vs:List V) (Q:VK) (E:XK),jX k (A.deeper (envOfC qual scope s.heap.objs.size f cdv))->sp vs H Q E -> ∃ t,PSs (W6 CX P w K mg base N qual scope f cdv A outer s H E) body t/\t { nx:=λ_ H'=>Q .non H',rt:=Q } (start N vs) H) : Wc P w K mg base CX (k+1) f (PySem.W.fnOf name qual params body scope dV kV doc pm an cdv ct) ps sp:=by
 refine⟨len,λA outer s H args us vs Q E hr e0 hb r hsp=>?_⟩;have hl:=len _ _ _ _ hsp;have KX:K.In s.heap:=e0.mod.kin.keeps λb o e=>(e0.bs b o e).1;have lim:s.heap.NoLimit:=e0.mod.nolimit.keeps λb o e=>(e0.bs b o e).1
 have hkind:∀ y∈ps.zip us,scope.names.lookup y.1=some .local\/(scope.names.lookup y.1=some .cell/\((cellsFrom (s.heap.objs.size+1) scope.names []).lookup y.1).isSome=true):=λ⟨n,v⟩ hy=>by
  rcases S.par n (gg hy).1 with q | q
  ·exact .inl q
  ·exact .inr ⟨q,U0 _ _ _ (.inl q)⟩
 refine gj hr.depth (KX _ _ lk) rfl S.co S.gen rfl (Gd KX hcd) (hb _ _ _ _ ?_);refine U1 S.kind hkind λenv he s1 x=>?_;subst he;refine⟨lim.keeps x.toInCall.keep,Ge ?_⟩;obtain⟨t,ht,hq⟩:=hbody A outer s H vs Q E (hr.deeper _) hsp;have I:Inv (W6 CX P w K mg base N qual scope f cdv A outer s H E) [] (start N vs) H s1:=zaE S e0 hl r x;refine uj (ht [] s1 (start N vs) H _ I hq) (λfl s' hs=>?_) λe s' hs=>hs
 have fin:∀ {σ':St} {H':Hp} {v:V} {u:Value},Inv (W6 CX P w K mg base N qual scope f cdv A outer s H E) [] σ' H' s'->RelV v u->Q v H'->CE outer P w H s Q u s':=
  λ{σ' H' v u} J rv q=>⟨v,H',J.os,J.bare,J.base,J.hok,rv,q⟩
 cases fl with
 | ret u=>obtain⟨v,σ',H',J,rv,q⟩:=hs;exact fin J rv q
 | next=>obtain⟨σ',H',J,q⟩:=hs;exact fin (v:=V.non) (u:=Value.none) J rfl q
 | brk=>obtain⟨_,_,_,q⟩:=hs;exact False.elim q
 | cont=>obtain⟨_,_,_,q⟩:=hs;exact False.elim q
section
variable {X:Cx} {CX:CXT} {k:Nat} {f C:Addr} {fd:FuncData} {ps:Lh} {sp:Sp} {dvs:List V} {ds:Lf} {E:XK} {x m:Str} {p pos apos:Pos} {e o:Expr} {es:Lg} {ta:TE} {t:TA}
theorem zgY {pins:Lp}(F:Wc X.prog X.w X.K X.mg X.base CX k f fd ps sp)(hr:jX k X.A)(hb:Binds X.K fd ps ds)(hd:Vals dvs ds)(hx:Passes CX X E) (I:Inv X pins σ H s) (r:Vals vs us) (h:sp (vs++dvs) H Q E):wpAny (model X.prog X.w) X.A (call (.ref f) us) (EP X pins σ Q) X.xe s:=by
 have r2:Vals (vs++dvs) (us++ds):=r.append hd;have hl:(us++ds).length=ps.length:=by rw [← r2.length];exact F.len _ _ _ _ h
 refine Ua (Ug (F.run X.A X.stack s H ⟨us,[]⟩ (us++ds) (vs++dvs) Q E hr I.env0 (hb s us I.kIn hl) r2 h) λr s' hq=>?_);cases r with
 | error e=>exact hx pins σ H s e s' I hq
 | ok fl=>
  cases fl with
  | ret u=>exact I.after hq
  | next=>exact False.elim hq
  | brk=>exact False.elim hq
  | cont=>exact False.elim hq
theorem zds (he:PE X o ta)(c:Cls X.K C)(hm:Meth X.K C m f)(F:Wc X.prog X.w X.K X.mg X.base CX k f fd ps sp)(hr:jX k X.A)(hb:Binds X.K fd ps ds)(hd:Vals dvs ds)(hx:Passes CX X E)
  (ht:eval (.Call (.Attribute o m apos) [] [] pos) X.env=(do
   let ov ← eval o X.env
   standAt apos.atName
   let (f,first) ← holding [ov] (getMethod ov m pl)
   callWith pos f first (backTo pos (starEach [] X.env)) (backToKw pos (keywordEach [] X.env))):=by rfl) :
  PE X (.Call (.Attribute o m apos) [] [] pos) (QL C m sp dvs E ta tNil):=by
 intro pins s σ H Q I h
 refine UN (pl:=pl) (thn (he pins s σ H _ I h) λu s1 zq=>?_) ht
 obtain⟨x,H1,I1,rx,a,dx,fs,ex,ea,l,q⟩:=zq
 subst ex
 obtain rfl:u=Value.ref a:=rx
 refine y7 I1 ea c hm l ?_
 exact gX (first:=[.ref a]) I1.kIn hm.kp (zgY (us:=[.ref a]) (vs:=[.ref a]) F hr hb hd hx I1 (.cons rfl .nil) q)
end
noncomputable def Kj (C:Addr)(fs:List V->List (Str×V))(pay:List V->Prop):Sp:=λvs H Q _=>∃ a xs,vs=.ref a::xs/\H a=some (ExN C a)/\pay xs/\∀ d,H d=none->d≠a->Q .non (upd (upd H a (ExD C d a)) d (.xd (fs xs)))
structure ErrN (P:Program)(w:World)(K:Frag)(mg:La)(base:Heap)(x:Str)(C:Addr)(fs:List V->List (Str×V))(pay:List V->Prop):Prop where
 gl:mg x=some (.ref C)
 cl:XCl K C
 kp:keepIn K (.ref C)=true
 ex:∃ (fI:Addr) (fd:FuncData) (oI:Obj) (ps:Lh),J9 K C=some (some (.ref fI))/\K.lookup fI=some oI/\oI.cls=.type "function"/\Binds K fd ps []/\Wc P w K mg base CX0 1 fI fd ps (Kj C fs pay)
section
variable {X:Cx} {E:XS} {C:Addr} {x f:Str} {fs:List V->List (Str×V)} {pay:List V->Prop} {e:Expr} {es:Lg} {t:TA} {np cpos pos pos':Pos} {j:Nat} {name:Str}
def MdE (X:Cx)(C:Addr)(E:XS)(σ:St)(v:Value)(s₁:Shared):Prop:=∃ a d vs sl H2,v=.ref a/\s₁.heap.get? a=some ⟨.ref C,some d,.fields vs,sl⟩/\(vs[1]? = some .none/\vs[2]? = some .none/\vs.size=6)/\Inv X [] σ H2 s₁/\X.s₀.heap.objs.size<=a/\H2 a=none/\(∀ q∈X.pn,q.1≠a)/\E (.ref C) (some d) σ H2
noncomputable def ZP (C:Addr)(fs:List V->List (Str×V))(pay:List V->Prop)(E:XS)(t:TA):TS:=λ_ σ H=>t σ H λvs H1=>pay vs/\vs.length<=1000/\∀ d H2,Same H1 H2->H1 d=none->H2 d=some (.xd (fs vs))->E (.ref C) (some d) σ H2
theorem jX.make {A:Around}(r:jX (k+1) A)(C:Addr)(us:Lf)(kw:List (Str×Value)):jX k (A.under (.builtin "type.__call__" ⟨.ref C::us,kw⟩)):=
 ⟨by have:=r.dp;rw [WH];lia,by have:=r.un;rw [WI];lia,by rw [J7];exact r.gd⟩
theorem zcs {pins:Lp}(R:ErrN X.prog X.w X.K X.mg X.base x C fs pay)(hr:jX j X.A)(hj:2<=j)(ha:PA X (e::es) t)(hg:Gl X x)(hdb:(x == ("__debug__":Str))=false) (he:starEach (e::es) X.env=(false,eval e X.env)::starEach es X.env) (hpl:(backTo cpos (starEach es X.env)).any (·.1)=false) (I:Inv X pins σ H s) (h:ZP C fs pay E t D σ H) : wpAny (model X.prog X.w) X.A (eval (.Call (.Name x np) (e::es) [] cpos) X.env) (MdE X C E σ) X.xe s:=by
 have c:=R.cl;refine uL (wZ I hg R.gl ?_ hdb);refine Uh (h₀:=X.base) I.ok.mod.kin R.kp (thn (ha cpos pins s σ H _ I h) λus s1 ⟨vs,H1,I1,r,hp,hl,q⟩=>⟨I1.kIn,?_⟩) he hpl;obtain⟨fI,fd,oI,ps,i1,i2,i3,hb,F⟩:=R.ex;refine YS I1.kIn c.sh i1 i2 i3 (by show us.length<=_;rw [← Vals.length r];exact uJ hl (by rw [uO];decide)) λh' a g1 g2=>?_;obtain⟨t0,z1,_,_⟩:=g2.there;have n1:=I1.hok.fresh g1;have I2:Inv X pins σ (upd H1 a (ExN C a)) { s1 with heap:=h' }:=I1.laid (t':=s1.toks) g2.keeps g1 (zaw (t:=t0) z1 rfl ⟨rfl,rfl,rfl⟩)
 have hsp:Kj C fs pay (.ref a::vs) (upd H1 a (ExN C a)) (λw2 H2=>w2=.non/\∃ d,upd H1 a (ExN C a) d=none/\d≠a/\H2=upd (upd (upd H1 a (ExN C a)) a (ExD C d a)) d (.xd (fs vs))) E0:=
  ⟨a,vs,rfl,zb,hp,λd q1 q2=>⟨rfl,d,q1,q2,rfl⟩⟩
 have r2:Vals (V.ref a::vs) (Value.ref a::us):=.cons rfl r;have hb':=hb { s1 with heap:=h' } (.ref a::us) I2.kIn (by rw [← F.len _ _ _ _ hsp,uw];exact congrArg (· + 1) (Vals.length r).symm);refine Ua (Ug (F.run (X.A.under (.builtin "type.__call__" ⟨.ref C::us,[]⟩)) X.stack { s1 with heap:=h' } _ ⟨.ref a::us,[]⟩ _ _ _ _ ((hr.mono hj).make C us []) (I2.env0.make C us []) hb' (by simpa using r2) hsp) λr s' hq=>?_);rcases r with er | fl
 ·exact False.elim hq
 cases fl with
 | next=>exact False.elim hq
 | brk=>exact False.elim hq
 | cont=>exact False.elim hq
 | ret w2=>
  obtain⟨v2,H2,I3,rv2,rfl,d,q1,q2,rfl⟩:=I2.after hq;have hx1:jj X.prog X.w (upd (upd (upd H1 a (ExN C a)) a (ExD C d a)) d (.xd (fs vs))) s'.heap a (ExD C d a):=I3.hok a _ (by rw [zl (Ne.symm q2),zb]);obtain⟨⟨vs',sl',e1,e2⟩,_⟩:=hx1;have np:∀ q∈X.pn,q.1≠a:=λq hq y=>by have:=(I1.pin q (uV _ hq)).1;exact absurd (uy (uf this) (y ▸ g1)) (uX _)
  have q1':H1 d=none:=by rw [zl q2] at q1;exact q1
  have sa:Same H1 (λb=>if b=a then none else upd (upd (upd H1 a (ExN C a)) a (ExD C d a)) d (.xd (fs vs)) b):=λb o hb=>by
   have ba:b≠a:=λy=>by rw [y,n1] at hb;cases hb
   have bd:b≠d:=λy=>by rw [y,q1'] at hb;cases hb
   simp only [ub ba];rw [zl bd,zl ba,zl ba];exact hb
  refine⟨rv2,a,d,vs',sl',_,rfl,e1,e2,?_,uJ I1.sz g1,?_,np,q d _ sa q1' ?_⟩
  ·have I4:Inv X [] σ (upd (upd (upd H1 a (ExN C a)) a (ExD C d a)) d (.xd (fs vs))) s':=I3.pins_of λp hp=>absurd hp (by simp)
   have key:∀ b o,(λb=>if b=a then none else upd (upd (upd H1 a (ExN C a)) a (ExD C d a)) d (.xd (fs vs)) b) b=some o->b≠a/\upd (upd (upd H1 a (ExN C a)) a (ExD C d a)) d (.xd (fs vs)) b=some o:=λb o z=>by
    by_cases hb:b=a
    ·simp [hb] at z
    ·simp only [ub hb] at z;exact⟨hb,z⟩
   have back:∀ b o,b≠a->upd (upd (upd H1 a (ExN C a)) a (ExD C d a)) d (.xd (fs vs)) b=some o->(λb=>if b=a then none else upd (upd (upd H1 a (ExN C a)) a (ExD C d a)) d (.xd (fs vs)) b) b=some o:=λb o hb z=>by simp only [ub hb];exact z
   have nex:∀ b o,upd (upd (upd H1 a (ExN C a)) a (ExD C d a)) d (.xd (fs vs)) b=some o->(∀ φ,o≠.ext φ)->b≠a:=λb o z no y=>by rw [y,zl (Ne.symm q2),zb] at z;cases z;exact no _ rfl
   refine I4.step (h':=s'.heap) (g':=s'.gens) (t':=s'.toks) (d':=s'.drawn) (ch:=[]) (λ_ z=>absurd z (by simp)) (λb o _ _ _ z _=>z) (λb o _ _ _ z _=>⟨o.slots,z⟩) (λb o _ _ z=>?_) (λb o _ z=>⟨o,z⟩) (λb xs z=>back b _ (nex b _ z λ_ y=>by cases y) z) (λb o u z=>back b _ (nex b _ z λ_ y=>by cases y) z)
    (λb ps z=>⟨#[],by rw [Gi];exact back b _ (nex b _ z λ_ y=>by cases y) z⟩) (λm z=>z) (λb o z=>?_) I4.bare
   ·by_cases hb:b=a
    ·simp [hb]
    ·simp only [ub hb];exact z
   ·obtain⟨hb,z⟩:=key b o z;exact(I4.hok b o z).stay (λ_ _ _ y=>y) (λc y=>back c _ (nex c _ y λ_ y=>by cases y) y) λc xs y=>back c _ (nex c _ y λ_ y=>by cases y) y
  ·simp
  ·simp only [ub q2];rw [zb]
theorem zdt (hx:Thr X E)(R:ErrN X.prog X.w X.K X.mg X.base x C fs pay)(hr:Room j X.A)(hj:2<=j)(ha:PA X (e::es) t)(hg:Gl X x:=by rfl) (hdb:(x == ("__debug__":Str))=false:=by decide) (he:starEach (e::es) X.env=(false,eval e X.env)::starEach es X.env:=by rfl) (hpl:(backTo cpos (starEach es X.env)).any (·.1)=false:=by rfl) : PS X (.Raise (some (.Call (.Name x np) (e::es) [] cpos)) none pos) (ZP C fs pay E t):=by intro pins s σ H D I h;rw [gQ];refine ua (u0 (X9 (C:=C) (K:=X.K) hr.hd ?_));refine ua (thn (zcs R hr.n hj ha hg hdb he hpl I h) λv s₁ zq=>?_);obtain⟨a,d,vs,sl,H2,e0,e1,e2,J,h1,h2,h3,q⟩:=zq;exact ua (u0 (uc ⟨a,_,vs,sl,e0,J.kIn,R.cl,e1,e2.1,hx _ _ ⟨a,_,_,H2,[],σ,rfl,J,h1,h2,h3,.inl ⟨sl,vs,e1,e2.1,λ_=>e2.2.1⟩,q⟩⟩))
theorem XB:entryFor table "proto.unchain" = some Builtin.«proto.unchain»:=entryFor_of_tree (by kernel_rfl)
theorem zaF {prog:Program}{A:Around}{K:Frag}(hh:A.handled=some (.ref ea))(hcz:∀ (Q:Value->Shared->Prop) (s:Shared),Q .none s->wpAny (model prog w) A cz Q Ee s) (h:wpAny (model prog w) A y (λv s₁=>∃ a dd vs sl eo ws,v=.ref a/\K.In s₁.heap/\XCl K C/\s₁.heap.get? a=some ⟨.ref C,dd,.fields vs,sl⟩/\vs[1]? = some .none/\vs.size=6/\ea≠a/\s₁.heap.get? ea=some eo/\eo.data=.fields ws/\ws[2]? = some .none /\ ∀ h' vs',Kp [a] [] s₁.heap h'->h'.get? a=some ⟨.ref C,dd,.fields vs',sl⟩->vs'[1]? = some .none->Ee (.ref a) { s₁ with heap:=h' }) Ee s):wpAny (model prog w) A (raiseStmt env (some y) (some cz)) Q Ee s:=by
 unfold raiseStmt;refine ua (uj h (λv s₁ z=>?_) λ_ _ z=>z);obtain⟨a,dd,vs,sl,eo,ws,rfl,KX,c,e0,h1,h6,ne,he,hd,h2,k⟩:=z;obtain⟨nm,q,N,bs,bm,hdd,sn,sub,ab,col,dd',k0,k1,k2,k3,k5,cd,hC,hcd,hmro,hns,hdd,OT,hok⟩:=kT KX c.sh;refine ua (uK (hcz _ _ (ua (uc ?_))));obtain⟨hp,g,dr,tk,os⟩:=s₁;have hcB:(Value.ref C::bm).contains (.type "BaseException")=true:=by rw [UZ,OT.hasType (X:="BaseException") (b:=true) (by decide +kernel),gJ]
 repeat (first | (with_reducible refine uI e0 ?_) | (with_reducible refine uI hC ?_) | (with_reducible refine uB e0 rfl h1 ?_) | (with_reducible refine UU hC ?_;rw [hcB]) | wp_step)
 have nC:C≠a:=λz=>by rw [z,e0] at hC;injection hC with hC;injection hC with hC;cases hC
 have hC2:((hp.update a (Obj.mapFields λx=>x.setIfInBounds 3 Value.none)).update a (Obj.mapFields λx=>x.setIfInBounds 4 (Value.bool true))).get? C=some (excClassObj nm q C N bs bm _ sn sub ab col dd' k0 k1 k2 k3 k5 "ValueError.__new__"):=(ux _ _ (Ne.symm nC)).trans ((ux _ _ (Ne.symm nC)).trans hC);have ea2:((hp.update a (Obj.mapFields λx=>x.setIfInBounds 3 Value.none)).update a (Obj.mapFields λx=>x.setIfInBounds 4 (Value.bool true))).get? ea=some eo:=(ux _ _ (Ne.symm ne)).trans ((ux _ _ (Ne.symm ne)).trans he);have a1:(hp.update a (Obj.mapFields λx=>x.setIfInBounds 3 Value.none)).get? a=some ⟨.ref C,dd,.fields (vs.setIfInBounds 3 .none),sl⟩:=uT _ e0 rfl;have a2:((hp.update a (Obj.mapFields λx=>x.setIfInBounds 3 Value.none)).update a (Obj.mapFields λx=>x.setIfInBounds 4 (Value.bool true))).get? a=some ⟨.ref C,dd,.fields ((vs.setIfInBounds 3 .none).setIfInBounds 4 (.bool true)),sl⟩:=uT _ a1 rfl
 have k2':Kp [a] [] hp ((hp.update a (Obj.mapFields λx=>x.setIfInBounds 3 Value.none)).update a (Obj.mapFields λx=>x.setIfInBounds 4 (Value.bool true))):=
  have oth:∀ b,b∉[a]->((hp.update a (Obj.mapFields λx=>x.setIfInBounds 3 Value.none)).update a (Obj.mapFields λx=>x.setIfInBounds 4 (Value.bool true))).get? b=hp.get? b:=λb hb=>(ux _ _ (λz=>hb (by simp [z]))).trans (ux _ _ (λz=>hb (by simp [z])))
  ⟨λb o hb _ q=>(oth b hb).trans q,λb o hb q=>⟨o.slots,(oth b hb).trans q⟩⟩
 have s1:((vs.setIfInBounds 3 .none).setIfInBounds 4 (.bool true))[1]? = some .none:=by simpa [UL] using h1
 have s2:2<((vs.setIfInBounds 3 .none).setIfInBounds 4 (.bool true)).size:=by simp [h6]
 generalize ((vs.setIfInBounds 3 Value.none).setIfInBounds 4 (.bool true))=vs2 at a2 s1 s2;generalize ((hp.update a (Obj.mapFields λx=>x.setIfInBounds 3 Value.none)).update a (Obj.mapFields λx=>x.setIfInBounds 4 (Value.bool true)))=hp2 at hC2 ea2 a2 k2' ⊢;clear a1
 repeat (first | (with_reducible refine uI hC2 ?_) | (with_reducible refine uB a2 rfl s1 ?_) | wp_step)
 unfold raiseNew;refine ua (wpAny_handled ?_);rw [hh];have hne:(Value.ref ea != Value.ref a)=true:=by simpa using ne
 show wpAny (model prog w) A (if (Value.ref ea != Value.ref a)=true then _ else _) Q Ee _;rw [ud hne];refine ua (uK (wpAny_runValue (gN XB ?_)));unfold Builtin.«proto.unchain»;refine ua (uB ea2 hd h2 ?_);rw [ud (show(Value.none == Value.none)=true from rfl)];refine ua (uc ?_);refine uc (ua ?_);show wpAny (model prog w) A (setField (.ref a) 2 (.ref ea)) _ Ee _;refine UE a2 rfl s2 (wpAny_throw ?_);refine k _ (vs2.setIfInBounds 2 (.ref ea)) ?_ (uT _ a2 rfl) (by simpa [UL] using s1);have oth:∀ b,b∉[a]->(hp2.update a (Obj.mapFields (·.setIfInBounds 2 (Value.ref ea)))).get? b=hp2.get? b:=λb hb=>ux _ _ (λz=>hb (by simp [z]));exact⟨λb o hb hf q=>(oth b hb).trans (k2'.keep b o hb hf q),λb o hb q=>let ⟨sl,q⟩:=k2'.slot b o hb q;⟨sl,(oth b hb).trans q⟩⟩
noncomputable def Ws (ea C:Addr)(fs:List V->List (Str×V))(pay:List V->Prop)(E:XS)(t:TA):TS:=ZP C fs pay (λc d σ H2=>E c d σ H2/\Pla H2 ea/\∃ dd ys,d=some dd/\H2 dd=some (.xd ys)/\ys.length≠1) t
theorem zdu (hx:∀ e s',FlN X E e s'->X.xe e s')(hh:X.A.handled=some (.ref ea))(R:ErrN X.prog X.w X.K X.mg X.base x C fs pay)(hr:jX j X.A)(hj:2<=j)(ha:PA X (e::es) t)(hg:Gl X x:=by rfl) (hdb:(x == ("__debug__":Str))=false:=by decide) (he:starEach (e::es) X.env=(false,eval e X.env)::starEach es X.env:=by rfl) (hpl:(backTo cpos (starEach es X.env)).any (·.1)=false:=by rfl) : PS X (.Raise (some (.Call (.Name x np) (e::es) [] cpos)) (some (.Constant .none jc pc)) pos) (Ws ea C fs pay E t):=by
 intro pins s σ H D I h;rw [gQ];refine ua (u0 (zaF (C:=C) (K:=X.K) hh (λQ s q=>ua (Constant_none (ua (u0 (uc q))))) ?_));refine ua (thn (zcs (D:=D) R hr hj ha hg hdb he hpl I h) λv s₁ zq=>?_);obtain⟨a,d,vs,sl,H2,e0,e1,e2,J,h1,h2,h3,q,⟨eo,ws,pE,pd,p2⟩,dd,ys,ed,hd,hl⟩:=zq;refine ua (u0 (uc ?_));obtain⟨ge,_⟩:=(show jj X.prog X.w H2 s₁.heap ea (.frz eo (.own ea)) from J.hok ea _ pE)
 refine⟨a,some d,vs,sl,eo,ws,e0,J.kIn,R.cl,e1,e2.1,e2.2.2,(λz=>by rw [z,h2] at pE;cases pE),ge,pd,p2,λh' vs' k z1 z2=>hx _ _ ⟨a,.ref C,some d,H2,σ,rfl,?_,h1,h2,h3,⟨sl,vs',z1,z2,λ⟨b,f,v,eb,hb⟩=>?_⟩,q⟩⟩
 ·exact J.kp (k.mono (λ_ z=>z) λb z=>absurd z (by simp)) (λb hb=>by rw [show b=a by simpa using hb];exact⟨ka J e1 rfl h1 h3,h2⟩) (λ_ _=>rfl) (J.hok.kp k (λb hb=>by rw [show b=a by simpa using hb];exact h2) λb z=>absurd z (by simp))
 ·cases ed;cases eb;rw [hd] at hb;cases hb;exact absurd rfl hl
noncomputable def zct (C:Addr)(ta tv:TE)(name:Str):TS:=λD σ H=>tv σ H λy H1=>ta σ H1 λx H2=>∃ a d fs,x=.ref a/\H2 a=some (ExD C d a)/\H2 d=some (.xd fs)/\fs.length<=1000/\fs.lookup name=none/\D.nx σ (upd H2 d (.xd (fs++[(name,y)])))
theorem zgZ {fs:List (Str×V)}(h:fs.lookup y=some v):y∈fs.map (·.1):=by
 induction fs with
 | nil=>cases h
 | cons p fs ih=>
  obtain⟨k,u⟩:=p;by_cases hk:y=k
  ·rw [hk];exact .head _
  ·rw [uY,show(y == k)=false from uM.mpr hk] at h;exact .tail _ (ih h)
theorem Wt {o value:Expr}(c:XCl X.K C)(hn:findIn X.K (.ref C) name=some none)(ha:PE X o ta)(hv:PE X value tv)(hs:swapsWith value (some (.Attribute o name pos')) pos.line X.env=pure false:=by rfl) : PS X (.Assign [.Attribute o name pos'] value pos) (zct C ta tv name):=by
 intro pins s σ H D I h;refine US (thn (hv pins s σ H _ I h) λu s1 ⟨y,H1,I1,ry,q⟩=>thn (ha pins s1 σ H1 _ I1 q) λov s2 zq=>?_) hs;obtain⟨x,H2,I2,rx,a,d,fs,ex,ea,ed,hl,hnl,q2⟩:=zq;subst ex;obtain rfl:ov=Value.ref a:=rx;obtain⟨⟨vs,sl,e,h1⟩,_⟩:=I2.hok a _ ea;obtain⟨mA,hN,hf⟩:=I2.hok d _ ed
 have hw:Within mA (fs.map (·.1)):=λy hy=>by
  have hy2:=hf y;cases hL:fs.lookup y with
  | none=>
   rw [hL] at hy2;cases hm:mA y with
   | none=>exact absurd hm hy
   | some u=>rw [hm] at hy2;exact hy2.elim
  | some v=>exact zgZ hL
 refine zen I2.kIn e c.sh c.hd c.sa hn hN hw (by rw [uk,uO];exact Nat.lt_of_le_of_lt hl (by decide)) λh' tk g3 g4=>?_;refine⟨σ,_,?_,q2⟩;have nb:∀ b,H2 b=none->b≠d:=λb z y=>by rw [y,ed] at z;cases z
 have u:Un X.fs [] H2 (upd H2 d (.xd (fs++[(name,y)]))) s2.heap h':=by
  refine⟨λb o z n _ _=>g4 b o (nb b n) z,λb o z n _ _=>⟨o.slots,g4 b o (nb b n) z⟩,λb o z n _=>by rw [zl (nb b n)];exact n,λb o z _=>?_,λb xs z=>?_,λb o u z=>?_,λb ps z=>⟨#[],?_⟩⟩
  ·by_cases hb:b=d
   ·obtain⟨od,es,ep,hod,_⟩:=id g3;rw [hb];exact⟨od,hod⟩
   ·exact⟨o,g4 b o hb z⟩
  all_goals
   have nb:b≠d:=λy=>by rw [y,ed] at z;cases z
   rw [zl nb,z]
  simp
 refine I2.un u λb o z=>?_;by_cases hb:b=d
 ·subst hb;rw [zb] at z;cases z;refine⟨_,g3,λf=>?_⟩;rw [List.lookup_append];by_cases hf2:f=name
  ·subst hf2;simp only [ud,hnl,Option.none_or];simpa [List.lookup,RelO] using ry
  ·have:(f == name)=false:=uM.mpr hf2;simp only [ub hf2,List.lookup,this,Option.or_none];exact hf f
 ·rw [zl hb] at z;have nown:∀ c y,H2 c=some (.own y)->c≠d:=λc y r q=>by rw [q,ed] at r;cases r
  have ntup:∀ c y,H2 c=some (.tup y)->c≠d:=λc y r q=>by rw [q,ed] at r;cases r
  refine(I2.hok b o z).stay (λc v hc q=>g4 c v ?_ q) (λc q=>by rw [zl (nown c _ q)];exact q) λc xs q=>by rw [zl (ntup c _ q)];exact q
  rcases hc with rfl | hc
  ·exact hb
  ·exact nown c _ hc
end
section
variable {P:Program} {w:World} {K:Frag} {mg:La} {base:Heap} {k j:Nat} {C:Addr} {m x qual:Str} {st:Stmt} {ps N:Lh} {sp sp':Sp}
theorem Fun.okN (F:Fun K x qual st f fd)(S:zj N ps (zf st))(len:∀ vs H Q E,sp vs H Q E->vs.length=ps.length) (hbody:∀ (cdv:Value) (A:Around) (outer:List Env) (s:Shared) (H:Hp) (vs:List V) (Q:VK) (E:XK),sp vs H Q E -> ∃ t,PSs (W6 CX0 P w K mg base N qual (zf st) f cdv A outer s H E) (zZ st) t/\t { nx:=λ_ H'=>Q .non H',rt:=Q } (start N vs) H):Wc P w K mg base CX0 (k+1) f fd ps sp:=by obtain⟨oc,od,kV,doc,pm,an,cdv,ct,osl,rfl,lk,hcd⟩:=F.ex;exact zeY lk hcd S len λA outer s H vs Q E hr hsp=>hbody cdv A outer s H vs Q E hsp
structure OkMN (P:Program)(w:World)(K:Frag)(mg:La)(base:Heap)(k:Nat)(C:Addr)(m:Str)(ps:Lh)(sp:Sp):Prop where
 ex:∃ (f:Addr) (fd:FuncData),Cls K C/\Meth K C m f/\Binds K fd ps []/\Wc P w K mg base (CXE P w) k f fd ps sp
theorem OkMN.ok (F:OkMN P w K mg base k C m ps sp):OkM P w K mg base k C m ps sp:=by obtain⟨f,fd,c,hm,b,G⟩:=F.ex;exact⟨f,fd,c,hm,b,G.ok⟩
theorem Dm.okN (D:Dm K C m qual st ps)(Sc:zj N ps (zf st))(len:∀ vs H Q E,sp vs H Q E->vs.length=ps.length) (hbody:∀ (f:Addr) (cdv:Value) (A:Around) (outer:List Env) (s:Shared) (H:Hp) (vs:List V) (Q:VK) (E:XK),jX k (A.deeper (envOfC qual (zf st) s.heap.objs.size f cdv))->sp vs H Q E -> ∃ t,PSs (W6 (CXE P w) P w K mg base N qual (zf st) f cdv A outer s H E) (zZ st) t/\t { nx:=λ_ H'=>Q .non H',rt:=Q } (start N vs) H):OkMN P w K mg base (k+1) C m ps sp:=by obtain⟨f,fd,F,b,cl,hm⟩:=D.ex;refine⟨f,fd,cl,hm,b,?_⟩;obtain⟨oc,od,kV,doc,pm,an,cdv,ct,osl,rfl,lk,hcd⟩:=F.ex;exact zeY lk hcd Sc len λA outer s H vs Q E hr h=>hbody f cdv A outer s H vs Q E hr h
theorem jX.marked {A:Around}(r:jX k A)(v:Option Value):jX k (A.mark v):=⟨r.dp,r.un,r.gd⟩
end
section
variable {X:Cx} {K:Frag} {k j:Nat} {C Dc:Addr} {x m n:Str} {ps:Lh} {sp:Sp} {p pos apos cpos np hpos:Pos} {e o:Expr} {es:Lg} {to:TE} {t:TA} {E:XS} {fs:List V->List (Str×V)} {pay:List V->Prop} {i:Nat} {tb:XS->TS} {th:Addr->TS} {body suite:List Stmt} {b₀:Stmt}
theorem zdv (F:OkMN X.prog X.w X.K X.mg X.base k C m ps sp)(hr:jX j X.A)(hk:k<=j)(ho:QE X o to)
  (ht:eval (.Call (.Attribute o m apos) [] [] pos) X.env=(do
   let ov ← eval o X.env
   standAt apos.atName
   let (f,first) ← holding [ov] (getMethod ov m pl)
   callWith pos f first (backTo pos (starEach [] X.env)) (backToKw pos (keywordEach [] X.env))):=by rfl) :
  QE X (.Call (.Attribute o m apos) [] [] pos) (QL C m sp [] E0 to tNil):=by
 obtain⟨f,fd,cl,hm,b,G⟩:=F.ex
 exact⟨zds ho.h cl hm G (hr.mono hk) b .nil zb5 ht⟩
theorem yR (hx:Thr X E)(R:ErrN X.prog X.w X.K X.mg X.base x C fs pay)(hr:Room j X.A)(hj:2<=j)(ha:QA X (e::es) t)(hg:Gl X x:=by rfl) (hdb:(x == ("__debug__":Str))=false:=by decide)
  (he:starEach (e::es) X.env=(false,eval e X.env)::starEach es X.env:=by rfl) (hpl:(backTo cpos (starEach es X.env)).any (·.1)=false:=by rfl) :
  QS X (.Raise (some (.Call (.Name x np) (e::es) [] cpos)) none pos) (ZP C fs pay E t):=⟨zdt hx R hr hj ha.h hg hdb he hpl⟩
theorem zdw (hx:∀ e s',FlN X E e s'->X.xe e s')(hh:X.A.handled=some (.ref ea))(R:ErrN X.prog X.w X.K X.mg X.base x C fs pay)(hr:jX j X.A)(hj:2<=j)(ha:QA X (e::es) t)(hg:Gl X x:=by rfl) (hdb:(x == ("__debug__":Str))=false:=by decide)
  (he:starEach (e::es) X.env=(false,eval e X.env)::starEach es X.env:=by rfl) (hpl:(backTo cpos (starEach es X.env)).any (·.1)=false:=by rfl) :
  QS X (.Raise (some (.Call (.Name x np) (e::es) [] cpos)) (some (.Constant .none jc pc)) pos) (Ws ea C fs pay E t):=⟨zdu hx hh R hr hj ha.h hg hdb he hpl⟩
theorem FlN.swap {pn:Lp}{ea:Addr}{xe xe':Value->Shared->Prop}{e:Value}{s:Shared}(h:FlN (X.exInG pn ea xe) E e s):FlN (X.exInG pn ea xe') E e s:=by obtain⟨a,c,d,H',σ,e1,I,r⟩:=h;have ok:=I.ok;exact⟨a,c,d,H',σ,e1,⟨⟨ok.mod,ok.kind,ok.glob,ok.blt,ok.above,ok.inj,ok.has,ok.cab,λz=>absurd (show false=true from z) (by decide),ok.frames,ok.stk,ok.exf,ok.bs,ok.bsz,ok.noex,ok.exfs,ok.funs,ok.frf⟩,I.os,I.bare,I.base,I.loc,I.cell,I.free,I.freeC,I.pin,I.hok,I.len⟩,r⟩
theorem zg0 (hx:Thr X E)(hm:X.mg x=some (.ref Dc))(cD:XCl X.K Dc)(hN:X.N.Nodup)(hi:X.N[i]? = some n)(hl:X.env.scope.names.lookup n=some .local)(hst:X.stack=X.env::X.outer)(hf:X.env.frame=some X.env.locals)
  (hb:∀ (E:XS) (pn:Lp) (xe:Value->Shared->Prop),PassesOwn (model X.prog X.w) X.A X.env xe->Thr (X.tryIn pn xe) E->QSs (X.tryIn pn xe) body (tb E))
  (hh:∀ pn ea xe,(∀ e s',FlN (X.exInG pn ea xe) (λc d σ H=>E c d (σ.map λ_=>none) H) e s'->xe e s')->QSs (X.exInG pn ea xe) (b₀::suite) (th ea)) (hg:Gl X x:=by rfl) (hdb:(x == ("__debug__":Str))=false:=by decide) :
  QS X (.Try body [.ExceptHandler (some (.Name x np)) (some n) (b₀::suite) hpos] [] [] pos) (zb1 X.K Dc i tb th):=
 ⟨zgG hx hm cD hN hi hl hst hf (λE pn xe a b=>(hb E pn xe a b).h) (λpn ea=>(hh pn ea _ λ_ _ z=>z.swap).h) hg hdb⟩
end
theorem W7 {K:Frag}{C:Addr}{f g p q:Str}{a:Addr}{v u:V}{i:Nat}{z:V}{H:Hp}{Q:VK}(ea:H a=some (ExN C a))(hi:([V.ref a,v,u]:List V)[i]? = some z)(hp:payT z)(hn:f≠g)(k:∀ d,H d=none->d≠a->Q .non (upd (upd H a (ExD C d a)) d (.xd [(f,v),(g,u)]))) : tSeq (J4 (tCB (Va C) (jy (tVar 0) (jy (tFs (tVar i)) tNil)))) (tSeq (YU K C (tVar 0) (tVar 1) f) (zct C (tVar 0) (tVar 2) g)) { nx:=λ_ H'=>Q .non H',rt:=Q } (start ["self",p,q] [.ref a,v,u]) H:=by
 refine⟨.ref a,rfl,z,?_,hp,λy=>⟨a,.str y,rfl,ea,v,rfl,.ref a,rfl,a,rfl,ea,λd h1 h2=>⟨u,rfl,.ref a,rfl,a,d,_,rfl,?_,zb,by show 1<=1000;decide,?_,?_⟩⟩⟩
 ·show(List.map some [V.ref a,v,u]++_)[i]? = some (some z);rw [UB (by rw [uk];exact(ur.mp hi).1),Uc,hi];rfl
 ·rw [zl (Ne.symm h2),zb]
 ·have:(g == f)=false:=uM.mpr (Ne.symm hn);simp [List.lookup,this]
 ·show Q _ _;rw [QK];exact k d h1 h2
theorem zaG {K:Frag}{C:Addr}{f g h p q r:Str}{a:Addr}{v u x:V}{tx:Str}{H:Hp}{Q:VK}(ea:H a=some (ExN C a))(hn:f≠g/\f≠h/\g≠h)(k:∀ d,H d=none->d≠a->Q .non (upd (upd H a (ExD C d a)) d (.xd [(f,v),(g,u),(h,x)]))) : tSeq (J4 (tCB (Va C) (jy (tVar 0) (jy (tC (.str tx)) tNil)))) (tSeq (YU K C (tVar 0) (tVar 1) f) (tSeq (zct C (tVar 0) (tVar 2) g) (zct C (tVar 0) (tVar 3) h))) { nx:=λ_ H'=>Q .non H',rt:=Q } (start ["self",p,q,r] [.ref a,v,u,x]) H:=by
 have n1:(g == f)=false:=uM.mpr (Ne.symm hn.1);have n2:(h == f)=false:=uM.mpr (Ne.symm hn.2.1);have n3:(h == g)=false:=uM.mpr (Ne.symm hn.2.2);refine⟨.ref a,rfl,a,.str tx,rfl,ea,v,rfl,.ref a,rfl,a,rfl,ea,λd h1 h2=>⟨u,rfl,.ref a,rfl,a,d,_,rfl,?_,zb,by show 1<=1000;decide,?_,⟨x,rfl,.ref a,rfl,a,d,_,rfl,?_,zb,by show 2<=1000;decide,?_,?_⟩⟩⟩
 ·rw [zl (Ne.symm h2),zb]
 ·simp [List.lookup,n1]
 ·rw [zl (Ne.symm h2),zl (Ne.symm h2),zb]
 ·simp [List.lookup,n2,n3]
 ·show Q _ _;rw [QK,QK];exact k d h1 h2
end L2
namespace L2
open PySem PySem.Spec PyProof.Rows
theorem ex1 {A0:Type}{G:Prop}{p:A0->Prop}(h:∃ a0,p a0)(k:∀ a0,p a0->G):G:=by obtain⟨a0,h⟩:=h;exact k _ h
theorem ex2 {A0 A1:Type}{G:Prop}{p:A0->A1->Prop}(h:∃ a0 a1,p a0 a1)(k:∀ a0 a1,p a0 a1->G):G:=by obtain⟨a0,a1,h⟩:=h;exact k _ _ h
theorem ex3 {A0 A1 A2:Type}{G:Prop}{p:A0->A1->A2->Prop}(h:∃ a0 a1 a2,p a0 a1 a2)(k:∀ a0 a1 a2,p a0 a1 a2->G):G:=by obtain⟨a0,a1,a2,h⟩:=h;exact k _ _ _ h
theorem ex4 {A0 A1 A2 A3:Type}{G:Prop}{p:A0->A1->A2->A3->Prop}(h:∃ a0 a1 a2 a3,p a0 a1 a2 a3)(k:∀ a0 a1 a2 a3,p a0 a1 a2 a3->G):G:=by obtain⟨a0,a1,a2,a3,h⟩:=h;exact k _ _ _ _ h
theorem ex5 {A0 A1 A2 A3 A4:Type}{G:Prop}{p:A0->A1->A2->A3->A4->Prop}(h:∃ a0 a1 a2 a3 a4,p a0 a1 a2 a3 a4)(k:∀ a0 a1 a2 a3 a4,p a0 a1 a2 a3 a4->G):G:=by obtain⟨a0,a1,a2,a3,a4,h⟩:=h;exact k _ _ _ _ _ h
theorem ex6 {A0 A1 A2 A3 A4 A5:Type}{G:Prop}{p:A0->A1->A2->A3->A4->A5->Prop}(h:∃ a0 a1 a2 a3 a4 a5,p a0 a1 a2 a3 a4 a5)(k:∀ a0 a1 a2 a3 a4 a5,p a0 a1 a2 a3 a4 a5->G):G:=by obtain⟨a0,a1,a2,a3,a4,a5,h⟩:=h;exact k _ _ _ _ _ _ h
theorem ex7 {A0 A1 A2 A3 A4 A5 A6:Type}{G:Prop}{p:A0->A1->A2->A3->A4->A5->A6->Prop}(h:∃ a0 a1 a2 a3 a4 a5 a6,p a0 a1 a2 a3 a4 a5 a6)(k:∀ a0 a1 a2 a3 a4 a5 a6,p a0 a1 a2 a3 a4 a5 a6->G):G:=by obtain⟨a0,a1,a2,a3,a4,a5,a6,h⟩:=h;exact k _ _ _ _ _ _ _ h
@[elab_as_elim] theorem av1 {V:Type}{G:V->Prop}{v l:V}{B0:Prop}(h:v=l/\B0)(k:B0->G l):G v:=by obtain⟨rfl,b0⟩:=h;exact k b0
@[elab_as_elim] theorem av2 {V:Type}{G:V->Prop}{v l:V}{B0 B1:Prop}(h:v=l/\B0/\B1)(k:B0->B1->G l):G v:=by obtain⟨rfl,b0,b1⟩:=h;exact k b0 b1
@[elab_as_elim] theorem av3 {V:Type}{G:V->Prop}{v l:V}{B0 B1 B2:Prop}(h:v=l/\B0/\B1/\B2)(k:B0->B1->B2->G l):G v:=by obtain⟨rfl,b0,b1,b2⟩:=h;exact k b0 b1 b2
@[elab_as_elim] theorem av4 {V:Type}{G:V->Prop}{v l:V}{B0 B1 B2 B3:Prop}(h:v=l/\B0/\B1/\B2/\B3)(k:B0->B1->B2->B3->G l):G v:=by obtain⟨rfl,b0,b1,b2,b3⟩:=h;exact k b0 b1 b2 b3
@[elab_as_elim] theorem av5 {V:Type}{G:V->Prop}{v l:V}{B0 B1 B2 B3 B4:Prop}(h:v=l/\B0/\B1/\B2/\B3/\B4)(k:B0->B1->B2->B3->B4->G l):G v:=by obtain⟨rfl,b0,b1,b2,b3,b4⟩:=h;exact k b0 b1 b2 b3 b4
@[elab_as_elim] theorem av6 {V:Type}{G:V->Prop}{v l:V}{B0 B1 B2 B3 B4 B5:Prop}(h:v=l/\B0/\B1/\B2/\B3/\B4/\B5)(k:B0->B1->B2->B3->B4->B5->G l):G v:=by obtain⟨rfl,b0,b1,b2,b3,b4,b5⟩:=h;exact k b0 b1 b2 b3 b4 b5
@[elab_as_elim] theorem av8 {V:Type}{G:V->Prop}{v l:V}{B0 B1 B2 B3 B4 B5 B6 B7:Prop}(h:v=l/\B0/\B1/\B2/\B3/\B4/\B5/\B6/\B7)(k:B0->B1->B2->B3->B4->B5->B6->B7->G l):G v:=by obtain⟨rfl,b0,b1,b2,b3,b4,b5,b6,b7⟩:=h;exact k b0 b1 b2 b3 b4 b5 b6 b7
theorem W8 {c:Prop} [Decidable c]{A B:Prop}(h:c)(q:A):if c then A else B:=by rw [ud h];exact q
theorem seq_step (h:∀ N:St->Hp->Prop,(∀ σ' H',b D σ' H'->N σ' H')->a { D with nx:=N } σ H):tSeq a b D σ H:=h (b D) λ_ _ z=>z
noncomputable def hasT (m t:Lc):Bool:=(List.range (t.length+1)).any λi=>(t.drop i).take m.length == m
theorem zeZ {l y:Lc}:StrLaws.At (S l) (S y) (S l).length i↔i+y.length<=l.length/\(l.drop i).take y.length=y:=by
 unfold StrLaws.At Builtin.Str.subAt;rw [kS,kS,u4];have e:(S l).cps.extract i (i+y.length)=(S y).cps↔(l.drop i).take y.length=y:=by show(l.toArray).extract i (i+y.length)=y.toArray↔_;rw [← Array.toList_inj];simp [Array.toList_extract,List.extract,gC]
 rw [e]
theorem zg1:(!(Builtin.Str.occurrences (S t) (S m) 0 (S t).length 1).isEmpty)=hasT m t:=by
 unfold hasT;rcases StrLaws.occ_head (S t) (S m) 1 (ui _) with⟨h1,h2⟩ | ⟨i,r,h1,h2,_⟩
 ·rw [h1];refine Eq.symm (Gq.mpr λh=>?_);obtain⟨i,hi,e⟩:=List.any_eq_true.mp h;have e:=u4.mp e;refine h2 i (zeZ.mpr ⟨?_,e⟩);have hi:=GJ.mp hi;have:=congrArg List.length e;rw [Ui,gB] at this;lia
 ·rw [h1];obtain⟨a,b⟩:=zeZ.mp h2;exact Eq.symm (List.any_eq_true.mpr ⟨i,GJ.mpr (by lia),u4.mpr b⟩)
noncomputable def rInT:R2:=λx y H Q=>∃ m l,x=.str (S m)/\y=.str (S l)/\Q (.bl (hasT m l)) H
variable {X:Cx}
theorem ze0:OpR X (compareOp .In) rInT:=by intro pins s σ H x y v u Q I rx ry h;obtain⟨m,l,rfl,rfl,q⟩:=h;refine XY pins s σ H _ _ v u Q I rx ry ⟨S m,S l,rfl,rfl,?_⟩;rw [zg1];exact q
end L2
namespace L2
open PySem PySem.Spec PySem.Calls PyProof.Rows PySem.W
open Sem (wp)
theorem Kk:typeLookup (.type "zip") "keys" = pure none:=by rw [typeLookup_type,GI];kernel_rfl
theorem zdx:typeLookup (.type "zip") "__getattr__" = pure none:=by rw [typeLookup_type,GI];kernel_rfl
theorem ziV:entryFor table "zip.__getattribute__" = some Builtin.«object.__getattribute__»:=entryFor_alias (id':="object.__getattribute__") (by kernel_rfl) (by decide +kernel) (by decide +kernel) (by kernel_rfl)
theorem ze1 (a:Addr)(fs:Array Value)(name:Str)(u:Tok)(hmiss:typeLookup (.type "zip") name=pure none)(hname:(["__module__","__name__","__qualname__","__doc__","__annotations__"]:Lh).contains name=false)(hsz:name.length+100<=sizeLine:=by size_fits) :
  Meets (Builtin.«object.__getattribute__» ⟨[.ref a,.str name u],[]⟩) (λA R s=>s.heap.get? a=some { cls:=.type "zip",dict:=none,data:=.fields fs,slots:=#[] }/\raisesAttr (.ref a) name A R s):=
 Meets.of_wp λprog w A R s hs=>by
  obtain⟨hp,g,d,tk,os⟩:=s
  obtain⟨hx,hs⟩:=hs
  have hT:(⟨hp,g,d,tk,os⟩:Shared).TypeIs (.ref a) "zip":=⟨_,hx,rfl⟩
  unfold Builtin.«object.__getattribute__»
  repeat (any_goals (first | assumption | wp_step))
  simp only [hname,Up,gc]
  repeat (any_goals (first | assumption | wp_step))
  exact wpAny_raiseAttrError hs.1 hs.2 (attrMsg_fits (by decide +kernel) hsz)
theorem ze2 {prog:Program}{A:Around}{s:Shared} (hx:s.heap.get? a=some { cls:=.type "zip",dict:=none,data:=.fields fs,slots:=#[] }) (hA:A.handled=none) (h:∀ h' tk,(∀ b ob,s.heap.get? b=some ob->h'.get? b=some ob)->Q none { s with heap:=h',toks:=tk }) : wpAny (model prog w) A (getAttr? (.ref a) "keys") Q E s:=by
 obtain⟨hp,g,d,tk,os⟩:=s;have hT:∀ tk',(⟨hp,g,d,tk',os⟩:Shared).TypeIs (.ref a) "zip":=λ_=>⟨_,hx,rfl⟩
 have f1:=sub_AttributeError;have f3:=gf.lookup;have f4:=gf.bind (.ref a);have f5:=zdx;unfold getAttr? getAttrBy? getAttrBy
 repeat (any_goals (first | assumption | exact hT _ | ((with_reducible show wpAny _ _ (call (Value.builtin "zip.__getattribute__") _ _) _ _ _);refine Gw gf (hT _) ziV (PySem.F.args_zip_getattribute_2 _ _) (ze1 a fs "keys" _ Kk (by decide) (by decide)) ⟨hx,hA,λh' tk' e hx'=>?_⟩) | wp_step))
 obtain⟨t',u',he⟩:=hx'.there;show wpAny _ _ (getattributeRaised _ _ _ _ _ _ _) _ _ _;unfold getattributeRaised
 repeat (any_goals (first | assumption | wp_step))
 exact h _ _ hx'.keeps
abbrev IsZ (h:Heap)(z TI TO T:Addr)(b:Bool):Prop:=h.get? z=some { cls:=.type "zip",dict:=none,data:=.fields #[rawInt T,.bool b,.bool false,.ref TI,.ref TO],slots:=#[] }
section
variable {prog:Program} {w:World} {A:Around} {E:Value->Shared->Prop} {s:Shared}
theorem ze3 (ho:s.heap.get? a=some o)(h:Q (some o) s):wpAny (model prog w) A (loadIfAlive a) Q E s:=by
 have h':Q (s.heap.get? a) s:=by rw [ho];exact h
 exact λ_ _ _=>h'
theorem zcu {z TI TO T:Addr}{b:Bool}{o:Obj}{Q:Bool->Shared->Prop}(hz:IsZ s.heap z TI TO T b)(hT:s.heap.get? T=some o) (hQ:∀ h',IsZ h' z TI TO T true->Heap.SameBut z s.heap h'->Q false { s with heap:=h' }):wpAny (model prog w) A (Builtin.SmallTypes.ownedTupleIsFree (.ref z)) Q E s:=by
 obtain⟨hp,g,d,tk,os⟩:=s;unfold Builtin.SmallTypes.ownedTupleIsFree;refine ua (uB hz rfl (x:=rawInt T) rfl ?_);show wpAny _ _ (loadIfAlive ((T:Int).toNat) >>= _) _ _ _;rw [Gp];refine ua (ze3 hT ?_);simp only [Option.isNone_some,Up,gc];refine ua (uB hz rfl (x:=.bool b) rfl ?_);cases b with
 | true=>rw [ub (show ¬ ((Value.bool true != Value.bool true)=true) from uD)];exact uc (hQ hp hz (Heap.SameBut.refl _ _))
 | false=>rw [ud (show(Value.bool false != Value.bool true)=true from rfl)];refine ua (wpAny_setField_rec hz (by simp) λh₃ hz₃ hs₃=>?_);exact uc (hQ h₃ hz₃ hs₃)
theorem zaH {z TI TO i1 i2 l1 l2 T:Addr}{b:Bool}{o:Obj}{k1 k2:Nat}{xs ys:Array Value}{x y:Value}{Q:Value->Shared->Prop}(D:ZipApart z TI TO i1 i2 l1 l2) (hz:IsZ s.heap z TI TO T b) (hT:s.heap.get? T=some o) (hTI:IsPair s.heap TI (.ref i1) (.ref i2)) (h1:s.heap.IsListIter i1 l1 k1) (h2:s.heap.IsListIter i2 l2 k2) (hl1:s.heap.IsList l1 xs) (hl2:s.heap.IsList l2 ys) (hx:xs[k1]? = some x) (hy:ys[k2]? = some y) (hQ:∀ h',IsZ h' z TI TO T true->h'.IsListIter i1 l1 (k1+1)->h'.IsListIter i2 l2 (k2+1)->IsPair h' s.heap.objs.size x y->h'.objs.size=s.heap.objs.size+1 -> (∀ c o,c≠z->c≠i1->c≠i2->s.heap.get? c=some o->h'.get? c=some o)->Q (.ref s.heap.objs.size) { s with heap:=h' }) : wpAny (model prog w) A (Builtin.«zip.__next__» ⟨[.ref z],[]⟩) (λfin s'=>∃ v,fin=.done (.ret v)/\Q v s') E s:=by
 show wpAny _ _ (field (.ref z) 2 >>= _) _ _ _;refine ua (uB hz rfl (x:=.bool false) rfl ?_);show wpAny _ _ (field (.ref z) 3 >>= _) _ _ _;refine ua (uB hz rfl (x:=.ref TI) rfl ?_);refine ua (gR hTI rfl ?_);show wpAny _ _ (Builtin.SmallTypes.ownedTupleIsFree (.ref z) >>= _) _ _ _;refine ua (zcu hz hT λh₁ hz₁ hs₁=>?_);simp only [Up,gc];refine ua ?_;simp only [← Array.forIn_toList,gL,List.forIn_nil];refine ua (ua (uK ?_));show wpAny _ _ (Builtin.SmallTypes.nextOf (.ref i1) >>= _) _ _ _;refine ua (GD (h1.extBut hs₁.extBut D.i1z) (hl1.extBut hs₁.extBut D.l1z) hx λh₂ h1₂ hs₂=>uc ?_);refine uc ?_;refine ua (ua (uK ?_));show wpAny _ _ (Builtin.SmallTypes.nextOf (.ref i2) >>= _) _ _ _;refine ua (GD ((h2.extBut hs₁.extBut D.i2z).extBut hs₂.extBut D.i12.symm) ((hl2.extBut hs₁.extBut D.l2z).extBut hs₂.extBut D.l2i1) hy λh₃ h2₃ hs₃=>uc ?_);refine uc (uc ?_);show wpAny _ _ (newTuple [x,y] >>= _) _ _ _;refine ua (wpAny_newTuple ?_);have hsz:h₃.objs.size=s.heap.objs.size:=by rw [hs₃.1,hs₂.1,hs₁.1]
 have up:∀ c o,c≠z->c≠i1->c≠i2->s.heap.get? c=some o->h₃.get? c=some o:=λc o c1 c2 c3 e=>hs₃.extBut _ _ c3 (hs₂.extBut _ _ c2 (hs₁.extBut _ _ c1 e));refine uc ⟨_,rfl,?_⟩;show Q (.ref h₃.objs.size) _;rw [hsz];refine hQ _ (ue _ (hs₃.extBut _ _ D.i2z.symm (hs₂.extBut _ _ D.i1z.symm hz₁))) ((h1₂.extBut hs₃.extBut D.i12).at λo e=>ue _ e) (h2₃.at λo e=>ue _ e) ?_ (by rw [gb,hsz]) λc o c1 c2 c3 e=>ue _ (up c o c1 c2 c3 e);show _=_;rw [← hsz];exact uz _ rfl
theorem zdy {z TI TO i1 i2 l1 l2 T:Addr}{b:Bool}{o:Obj}{k1:Nat}{xs:Array Value}{Q:Fin->Shared->Prop}(hh:A.handled=none)(D:ZipApart z TI TO i1 i2 l1 l2) (hz:IsZ s.heap z TI TO T b) (hT:s.heap.get? T=some o) (hTI:IsPair s.heap TI (.ref i1) (.ref i2)) (h1:s.heap.IsListIter i1 l1 k1) (hl1:s.heap.IsList l1 xs) (hx:xs[k1]? = none) (hE:∀ h' e,(∀ c o,c≠z->c≠i1->s.heap.get? c=some o->h'.get? c=some o)->(∃ ob,h'.get? e=some ob/\ob.cls=.type "StopIteration")->E (.ref e) { s with heap:=h' }) : wpAny (model prog w) A (Builtin.«zip.__next__» ⟨[.ref z],[]⟩) Q E s:=by show wpAny _ _ (field (.ref z) 2 >>= _) _ _ _;refine ua (uB hz rfl (x:=.bool false) rfl ?_);show wpAny _ _ (field (.ref z) 3 >>= _) _ _ _;refine ua (uB hz rfl (x:=.ref TI) rfl ?_);refine ua (gR hTI rfl ?_);show wpAny _ _ (Builtin.SmallTypes.ownedTupleIsFree (.ref z) >>= _) _ _ _;refine ua (zcu hz hT λh₁ hz₁ hs₁=>?_);simp only [Up,gc];refine ua ?_;simp only [← Array.forIn_toList,gL,List.forIn_nil];refine ua (ua (uK ?_));show wpAny _ _ (Builtin.SmallTypes.nextOf (.ref i1) >>= _) _ _ _;refine ua (wpAny_nextOf_list_end hh (h1.extBut hs₁.extBut D.i1z) (hl1.extBut hs₁.extBut D.l1z) hx λh₂ e hs₂ he=>?_);exact hE h₂ e (λc o c1 c2 x=>hs₂ _ _ c2 (hs₁.extBut _ _ c1 x)) he
theorem zg2 {z TI TO i1 i2 l1 l2 T:Addr}{b:Bool}{o:Obj}{k1 k2:Nat}{xs ys:Array Value}{x y:Value}{Q:Option Value->Shared->Prop}(D:ZipApart z TI TO i1 i2 l1 l2) (hz:IsZ s.heap z TI TO T b) (hT:s.heap.get? T=some o) (hTI:IsPair s.heap TI (.ref i1) (.ref i2)) (h1:s.heap.IsListIter i1 l1 k1) (h2:s.heap.IsListIter i2 l2 k2) (hl1:s.heap.IsList l1 xs) (hl2:s.heap.IsList l2 ys) (hx:xs[k1]? = some x) (hy:ys[k2]? = some y) (hQ:∀ h',IsZ h' z TI TO T true->h'.IsListIter i1 l1 (k1+1)->h'.IsListIter i2 l2 (k2+1)->IsPair h' s.heap.objs.size x y->h'.objs.size=s.heap.objs.size+1 -> (∀ c o,c≠z->c≠i1->c≠i2->s.heap.get? c=some o->h'.get? c=some o)->Q (some (.ref s.heap.objs.size)) { s with heap:=h' }) : wpAny (model prog w) A (pyNext (.ref z)) Q E s:=by
 have hT':s.TypeIs (.ref z) "zip":=⟨_,hz,rfl⟩
 unfold pyNext
 exact ua (gi (UI (name:=Str.ofString "__next__") hT' U6
  (U2 U6 hT' PySem.F.entry_zip_next
   (zaH D hz hT hTI h1 h2 hl1 hl2 hx hy λh' a1 a3 a4 a5 a6 a7=>uc (hQ h' a1 a3 a4 a5 a6 a7)) (hX _))))
theorem ziW {z TI TO i1 i2 l1 l2 T:Addr}{b:Bool}{o:Obj}{k1:Nat}{xs:Array Value}{Q:Option Value->Shared->Prop}(hh:A.handled=none)(D:ZipApart z TI TO i1 i2 l1 l2) (hz:IsZ s.heap z TI TO T b) (hT:s.heap.get? T=some o) (hTI:IsPair s.heap TI (.ref i1) (.ref i2)) (h1:s.heap.IsListIter i1 l1 k1) (hl1:s.heap.IsList l1 xs) (hx:xs[k1]? = none) (hQ:∀ h',(∀ c o,c≠z->c≠i1->s.heap.get? c=some o->h'.get? c=some o)->Q none { s with heap:=h' }) : wpAny (model prog w) A (pyNext (.ref z)) Q E s:=by
 have hT':s.TypeIs (.ref z) "zip":=⟨_,hz,rfl⟩
 unfold pyNext
 refine ua (gi (UI (name:=Str.ofString "__next__") hT' U6
  (U2 U6 hT' PySem.F.entry_zip_next (zdy hh D hz hT hTI h1 hl1 hx λh' e hk he=>?_) (hX _))))
 obtain⟨o,ho,hc⟩:=he;refine ua (wpAny_isInstance (T:="StopIteration") (b:=true) ⟨o,ho,hc⟩ isSubtype_stop ?_);exact uc (hQ _ hk)
end
section
variable {prog:Program} {w:World} {A:Around} {R:Result->Shared->Prop} {I d:Addr} {K:Type} [DecidableEq K] {knd:KeyKind prog w K}
theorem Kl {s:Shared}{kvs:List (K×Value)}{k:K}{key x res:Value}{j:Int}{t:Tok}{N:Heap->Prop}(hkey:knd.is k key=true)(hsz:kvs.length<sizeLine) (hn:∀ (Q:Option Value->Shared->Prop) (E:Value->Shared->Prop),(∀ h1 a,h1.IsTuple a #[key,x]->h1.DictOf knd d kvs->N h1->Q (some (.ref a)) { s with heap:=h1 })->wpAny (model prog w) A.in1 (pyNext (.ref I)) Q E s) (hR:∀ h1 h4 j' t' tk,N h1->h4.DictOf knd d (stored kvs k x)->(∀ b q,b≠d->h1.get? b=some q->h4.get? b=some q)->codeAny (model prog w) A (.builtin "dict.update.loop" ⟨[.ref d,.ref I,.int j' t',res],[]⟩) R { s with heap:=h4,toks:=tk }) : codeAny (model prog w) A (.builtin "dict.update.loop" ⟨[.ref d,.ref I,.int j t,res],[]⟩) R s:=by refine gN Zg ?_;rw [Around.under_plainId xh _];show wpAny _ A.in1 (pyNext (.ref I) >>= _) _ _ s;refine ua (hn _ _ λh1 a ht dd1 n1=>?_);obtain⟨o,ho1,h2⟩:=ht;show wpAny _ A.in1 (holding _ _ >>= _) _ _ _;refine ua (uK ?_);refine ua (wpAny_tryCatch ?_);unfold Builtin.Dict.pairItems;refine ua (UJ (T:="tuple") ⟨o,ho1,h2.1⟩ ?_);rw [ud (by decide)];obtain⟨m,h3⟩:=h2.2;refine ua (gR ho1 h3 (uc ?_));show wpAny _ A.in1 (holding _ (dictSet d key x)) _ _ _;refine uK (wpAny_dictSet_pairs (hsz:=by lia) hkey dd1 λh4 dd4 hs=>?_);have hk4:∀ b q,b≠d->h1.get? b=some q->h4.get? b=some q:=λb q hb z=>(hs.2 b hb).trans z;exact uc ⟨plainId_quiet xh _,hR h1 h4 _ _ _ n1 dd4 hk4⟩
theorem ze4 (hn:∀ (Q:Option Value->Shared->Prop) (E:Value->Shared->Prop),(∀ s',R (.ok (.ret res)) s'->Q none s')->wpAny (model prog w) A.in1 (pyNext (.ref I)) Q E s) : codeAny (model prog w) A (.builtin "dict.update.loop" ⟨[.ref d,.ref I,.int j t,res],[]⟩) R s:=by refine gN Zg ?_;rw [Around.under_plainId xh _];show wpAny _ A.in1 (pyNext (.ref I) >>= _) _ _ s;exact ua (hn _ _ λs' hr=>ua (uc (uc hr)))
structure Zs (h0:Heap)(d z TI TO i1 i2 l1 l2:Addr)(xs ys:Array Value)(h:Heap)(n:Nat):Prop where
 ti:IsPair h TI (.ref i1) (.ref i2)
 j1:h.IsListIter i1 l1 n
 j2:h.IsListIter i2 l2 n
 q1:h.IsList l1 xs
 q2:h.IsList l2 ys
 old:∀ c o,h0.get? c=some o->h.get? c=some o
 st:(IsZip h z TI TO .none/\∃ a b,IsPair h TO a b)\/∃ T o b,IsZ h z TI TO T b/\h.get? T=some o/\T≠d
theorem Zs.mono {h0 h h':Heap}{d z TI TO i1 i2 l1 l2:Addr}{xs ys:Array Value}{n:Nat}(Z:Zs h0 d z TI TO i1 i2 l1 l2 xs ys h n)(D:d≠z/\d≠TI/\d≠TO/\d≠i1/\d≠i2/\d≠l1/\d≠l2)(hd:h0.get? d=none)(k:∀ b o,b≠d->h.get? b=some o->h'.get? b=some o):Zs h0 d z TI TO i1 i2 l1 l2 xs ys h' n:=by
 obtain⟨d1,d2,d3,d4,d5,d6,d7⟩:=D;obtain⟨a1,a2,a3,a4,a5,a6,a7⟩:=Z;refine⟨k _ _ d2.symm a1,a2.at λo e=>k _ o d4.symm e,a3.at λo e=>k _ o d5.symm e,a4.at λo e=>k _ o d6.symm e,a5.at λo e=>k _ o d7.symm e,λc o e=>k c o (λy=>by rw [y,hd] at e;cases e) (a6 c o e),?_⟩;rcases a7 with⟨b1,a,b,b2⟩ | ⟨T,o,b,b1,b2,b3⟩
 ·exact .inl ⟨k _ _ d1.symm b1,a,b,k _ _ d3.symm b2⟩
 ·exact .inr ⟨T,o,b,k _ _ d1.symm b1,k _ _ b3 b2,b3⟩
theorem Zs.item {s:Shared}{h0:Heap}{d z TI TO i1 i2 l1 l2:Addr}{xs ys:Array Value}{n:Nat}{x y:Value}{od:Obj}(Z:Zs h0 d z TI TO i1 i2 l1 l2 xs ys s.heap n)(D:ZipApart z TI TO i1 i2 l1 l2)(D2:d≠z/\d≠TI/\d≠TO/\d≠i1/\d≠i2/\d≠l1/\d≠l2)(hd:s.heap.get? d=some od) (h00:h0.get? z=none/\h0.get? TO=none/\h0.get? i1=none/\h0.get? i2=none) (hx:xs[n]? = some x) (hy:ys[n]? = some y) {Q:Option Value->Shared->Prop} {E:Value->Shared->Prop} (hQ:∀ h' a,h'.IsTuple a #[x,y]->(∀ o,s.heap.get? d=some o->h'.get? d=some o)->Zs h0 d z TI TO i1 i2 l1 l2 xs ys h' (n+1)->Q (some (.ref a)) { s with heap:=h' }):wpAny (model prog w) A (pyNext (.ref z)) Q E s:=by
 obtain⟨d1,d2,d3,d4,d5,d6,d7⟩:=D2;obtain⟨n1,n2,n3,n4⟩:=h00;have ne:∀ {c c':Addr} {o:Obj},h0.get? c' = none->h0.get? c=some o->c≠c':=λa b z=>by rw [z,a] at b;cases b
 obtain⟨a1,a2,a3,a4,a5,a6,a7⟩:=Z;rcases a7 with⟨b1,a,b,b2⟩ | ⟨T,o,b,b1,b2,b3⟩
 ·refine wpAny_pyNext_zip_item D b1 a1 b2 a2 a3 a4 a5 hx hy λh' c1 c2 c3 c4 c5 c6 c7=>?_;exact hQ h' _ ⟨_,c5,rfl,_,rfl⟩ (λo e=>c7 _ _ d1 d3 d4 d5 e) ⟨c7 _ _ D.TIz D.TITO D.TIi1 D.TIi2 a1,c3,c4,a4.at λo e=>c7 _ o D.l1z D.l1TO D.l1i1 D.l1i2 e,a5.at λo e=>c7 _ o D.l2z D.l2TO D.l2i1 D.l2i2 e,λc o e=>c7 _ _ (ne n1 e) (ne n2 e) (ne n3 e) (ne n4 e) (a6 c o e),.inr ⟨_,_,false,c1,c5,Uq (uf hd)⟩⟩
 ·refine zg2 D b1 b2 a1 a2 a3 a4 a5 hx hy λh' c1 c3 c4 c5 c6 c7=>?_;by_cases hT:T≠z/\T≠i1/\T≠i2
  ·exact hQ h' _ ⟨_,c5,rfl,_,rfl⟩ (λo e=>c7 _ _ d1 d4 d5 e) ⟨c7 _ _ D.TIz D.TIi1 D.TIi2 a1,c3,c4,a4.at λo e=>c7 _ o D.l1z D.l1i1 D.l1i2 e,a5.at λo e=>c7 _ o D.l2z D.l2i1 D.l2i2 e,λc o e=>c7 _ _ (ne n1 e) (ne n3 e) (ne n4 e) (a6 c o e),.inr ⟨T,o,true,c1,c7 _ _ hT.1 hT.2.1 hT.2.2 b2,b3⟩⟩
  ·have:∃ ob,h'.get? T=some ob:=by
    by_cases e1:T=z
    ·exact⟨_,by rw [e1];exact c1⟩
    by_cases e2:T=i1
    ·obtain⟨ob,e,_⟩:=c3;exact⟨ob,by rw [e2];exact e⟩
    by_cases e3:T=i2
    ·obtain⟨ob,e,_⟩:=c4;exact⟨ob,by rw [e3];exact e⟩
    exact absurd ⟨e1,e2,e3⟩ hT
   obtain⟨ob,hob⟩:=this
   exact hQ h' _ ⟨_,c5,rfl,_,rfl⟩ (λo e=>c7 _ _ d1 d4 d5 e) ⟨c7 _ _ D.TIz D.TIi1 D.TIi2 a1,c3,c4,a4.at λo e=>c7 _ o D.l1z D.l1i1 D.l1i2 e,a5.at λo e=>c7 _ o D.l2z D.l2i1 D.l2i2 e,λc o e=>c7 _ _ (ne n1 e) (ne n3 e) (ne n4 e) (a6 c o e),.inr ⟨T,ob,true,c1,hob,b3⟩⟩
theorem Zs.done {s:Shared}{h0:Heap}{d z TI TO i1 i2 l1 l2:Addr}{xs ys:Array Value}{n:Nat}(hh:A.handled=none)(Z:Zs h0 d z TI TO i1 i2 l1 l2 xs ys s.heap n)(D:ZipApart z TI TO i1 i2 l1 l2)(D2:d≠z/\d≠TI/\d≠TO/\d≠i1/\d≠i2/\d≠l1/\d≠l2) (h00:h0.get? z=none/\h0.get? TO=none/\h0.get? i1=none/\h0.get? i2=none) (hx:xs[n]? = none) {Q:Option Value->Shared->Prop} {E:Value->Shared->Prop} (hQ:∀ h',(∀ o,s.heap.get? d=some o->h'.get? d=some o)->(∀ c o,h0.get? c=some o->h'.get? c=some o)->Q none { s with heap:=h' }):wpAny (model prog w) A (pyNext (.ref z)) Q E s:=by
 obtain⟨d1,d2,d3,d4,d5,d6,d7⟩:=D2;obtain⟨n1,n2,n3,n4⟩:=h00;have ne:∀ {c c':Addr} {o:Obj},h0.get? c' = none->h0.get? c=some o->c≠c':=λa b z=>by rw [z,a] at b;cases b
 obtain⟨a1,a2,a3,a4,a5,a6,a7⟩:=Z;rcases a7 with⟨b1,a,b,b2⟩ | ⟨T,o,b,b1,b2,b3⟩
 ·exact wpAny_pyNext_zip_end hh D b1 a1 b2 a2 a3 a4 a5 (.inl hx) λh' k=>hQ h' (λo e=>k _ _ d1 d3 d4 d5 e) λc o e=>k _ _ (ne n1 e) (ne n2 e) (ne n3 e) (ne n4 e) (a6 c o e)
 ·exact ziW hh D b1 b2 a1 a2 a4 hx λh' k=>hQ h' (λo e=>k _ _ d1 d4 e) λc o e=>k _ _ (ne n1 e) (ne n3 e) (a6 c o e)
end
end L2
namespace L2
open PySem PySem.Spec PySem.Calls PyProof.Rows PySem.W
noncomputable def zcv (K:Frag)(ta:TA):TE:=λσ H Q=>ta σ H λvs H1=>∃ (l1 l2:Addr) (k1 k2:Key) (v1 v2:V),vs=[.ref l1,.ref l2]/\SqL K H1 l1 [kV k1,kV k2]/\SqL K H1 l2 [v1,v2]/\∀ q,H1 q=none->Q (.ref q) (upd H1 q (.dK (qy [] [(k1,v1),(k2,v2)])))
theorem zg3 {X:Cx}{K:Frag}(hK:X.K=K)(hc:X.calm=true){a b:Expr}{ta:TA}{p p2 pos pos2:Pos}(hgd:Gl X "dict")(hmd:X.mg "dict" = none)(hgz:Gl X "zip")(hmz:X.mg "zip" = none)(ha:PA X [a,b] ta) (hs:starEach [a,b] X.env=[(false,eval a X.env),(false,eval b X.env)]:=by rfl) (hs2:starEach [b] X.env=[(false,eval b X.env)]:=by rfl) (hs3:starEach [.Call (.Name "zip" p2) [a,b] [] pos2] X.env=[(false,eval (.Call (.Name "zip" p2) [a,b] [] pos2) X.env)]:=by rfl) : PE X (.Call (.Name "dict" p) [.Call (.Name "zip" p2) [a,b] [] pos2] [] pos) (zcv K ta):=by
 subst hK;intro pins s σ H Q I h;refine uL (Z7 I hgd hmd zgX ?_);refine PyProof.Rows.callWith_type1 ?_ hs3 rfl;rw [hs3];refine Calls.spliced_cons (uL (Z7 I hgz hmz ziQ (PyProof.Rows.callWith_type1 (thn (ha pos2 pins s σ H _ I h) λus s1 zq=>?_) (by rw [hs,hs2]) (by rw [hs2];rfl))));obtain⟨vs,H1,I1,r1,q1⟩:=zq;obtain⟨l1,l2,k1,k2,v1,v2,e,hx,hy,q⟩:=q1;subst e;obtain⟨u1,u2,rfl,r1,r2⟩:=vals2 r1;cases r1;cases r2;obtain⟨its1,va1,p1,_⟩:=I1.list hx;obtain⟨its2,va2,p2,_⟩:=I1.list hy;obtain⟨x1,x2,rfl,rx1,rx2⟩:=vals2 va1;obtain⟨y1,y2,rfl,ry1,ry2⟩:=vals2 va2;have L1:=p1.isList;have L2:=p2.isList;have a1:l1<s1.heap.objs.size:=by obtain⟨_,e,_⟩:=L1;exact uf e
 have a2:l2<s1.heap.objs.size:=by obtain⟨_,e,_⟩:=L2;exact uf e
 refine call_zip_2 L1 L2 λh' hz hTI hTO hi1 hi2 hsz hk=>?_;refine Calls.spliced_nil ?_;have D:=zipApart_new a1 a2;refine callType_codes (Q₁:=λobj s₁=>obj=.ref h'.objs.size/\s₁={ s1 with heap:=h'.push { cls:=.type "dict",data:=.dict #[] } }) PySem.F.kt_called_dict (PySem.F.kt_typeCall_dict_1 _) PySem.F.entry_dict_init (kt_code_dict_new _ ⟨rfl,rfl⟩) ?_;rintro obj s₁ ⟨rfl,rfl⟩;have hnew:(h'.push { cls:=.type "dict",data:=.dict #[] }).DictOf (zI X.prog X.w) h'.objs.size []:=Heap.DictOf.new h';have up1:∀ {c:Addr} {o:Obj},h'.get? c=some o->(h'.push { cls:=.type "dict",data:=.dict #[] }).get? c=some o:=λe=>ue _ e;refine⟨hnew.typeIs,PySem.F.args_dict_init_2 _ _,?_⟩;unfold Builtin.«dict.__init__»;refine ua ?_;unfold Builtin.Dict.selfAndRest;refine ua (wpAny_notOrdered_dict hnew.typeIs ?_);show wpAny _ _ (pure (h'.objs.size,[Value.ref (s1.heap.objs.size+4)])) _ _ _;refine uc ?_;show wpAny _ _ (Builtin.Dict.updateFrom "dict.__init__" h'.objs.size (.ref (s1.heap.objs.size+4)) [] .none) _ _ _;unfold Builtin.Dict.updateFrom;refine ua (UJ (T:="zip") ⟨_,up1 hz,rfl⟩ ?_);rw [ud (by decide)];refine ua (ze2 (up1 hz) (I1.ok.hd hc) λh1 tk1 kp1=>?_);have up2:∀ {c:Addr} {o:Obj},h'.get? c=some o->h1.get? c=some o:=λe=>kp1 _ _ (up1 e);have hd1:h1.DictOf (zI X.prog X.w) h'.objs.size []:=let ⟨q,es,ep,hq,r⟩:=hnew;⟨q,es,ep,kp1 _ _ hq,r⟩;rw [ud (by decide)];refine ua (wpAny_rule ?_);refine ua (wpAny_pyIter_zip (up2 hz) ?_)
 have nn:∀ {n:Nat},s1.heap.get? (s1.heap.objs.size+n)=none:=λ{n}=>by
  cases e:s1.heap.get? (s1.heap.objs.size+n) with
  | none=>rfl
  | some o=>exact absurd (uf e) (Gh.mpr (Nat.le_add_right _ _))
 have h00:s1.heap.get? (s1.heap.objs.size+4)=none/\s1.heap.get? (s1.heap.objs.size+3)=none/\s1.heap.get? s1.heap.objs.size=none/\s1.heap.get? (s1.heap.objs.size+1)=none:=⟨nn,nn,nn (n:=0),nn⟩
 have D2:h'.objs.size≠s1.heap.objs.size+4/\h'.objs.size≠s1.heap.objs.size+2/\h'.objs.size≠s1.heap.objs.size+3/\h'.objs.size≠s1.heap.objs.size/\h'.objs.size≠s1.heap.objs.size+1/\h'.objs.size≠l1/\h'.objs.size≠l2:=⟨Uq (by rw [hsz];lia),Uq (by rw [hsz];lia),Uq (by rw [hsz];lia),Uq (by rw [hsz];lia),Uq (by rw [hsz];lia),Uq (by rw [hsz];exact Nat.lt_add_right 5 a1),Uq (by rw [hsz];exact Nat.lt_add_right 5 a2)⟩
 have hd0:s1.heap.get? h'.objs.size=none:=by rw [hsz];exact nn
 have Z0:Zs s1.heap h'.objs.size (s1.heap.objs.size+4) (s1.heap.objs.size+2) (s1.heap.objs.size+3) s1.heap.objs.size (s1.heap.objs.size+1) l1 l2 #[x1,x2] #[y1,y2] h1 0:=
  ⟨up2 hTI,hi1.at λo e=>up2 e,hi2.at λo e=>up2 e,L1.at λo e=>up2 (hk _ _ e),L2.at λo e=>up2 (hk _ _ e),λc o e=>up2 (hk _ _ e),.inl ⟨up2 hz,_,_,up2 hTO⟩⟩
 have fdict:∀ {h h2:Heap} {kvs:List (Key×Value)},h.DictOf (zI X.prog X.w) h'.objs.size kvs->(∀ o,h.get? h'.objs.size=some o->h2.get? h'.objs.size=some o)->h2.DictOf (zI X.prog X.w) h'.objs.size kvs:=λ⟨q,es,ep,hq,r⟩ k=>⟨q,es,ep,k _ hq,r⟩
 have hdo:∀ {h:Heap} {kvs:List (Key×Value)},h.DictOf (zI X.prog X.w) h'.objs.size kvs->∃ o,h.get? h'.objs.size=some o:=λ⟨q,_,_,hq,_⟩=>⟨q,hq⟩
 refine uc ⟨plainId_quiet xh _,?_⟩;obtain⟨o0,ho0⟩:=hdo hd1;refine Kl (A:=X.A.in1) (knd:=zI X.prog X.w) (kvs:=[]) (k:=k1) (key:=x1) (x:=y1) (N:=λh=>Zs s1.heap h'.objs.size (s1.heap.objs.size+4) (s1.heap.objs.size+2) (s1.heap.objs.size+3) s1.heap.objs.size (s1.heap.objs.size+1) l1 l2 #[x1,x2] #[y1,y2] h 1) (WZ rx1) (by decide) (λQ E g=>Zs.item (s:={ s1 with heap:=h1,toks:=tk1 }) Z0 D D2 ho0 h00 rfl rfl λh2 a t dd z=>g h2 a t (fdict hd1 dd) z) λh2 h4 j' t' tk z2 dd4 k4=>?_;have Z2:=z2.mono D2 hd0 k4;obtain⟨o4,ho4⟩:=hdo dd4;refine Kl (A:=X.A.in1) (knd:=zI X.prog X.w) (k:=k2) (key:=x2) (x:=y2) (N:=λh=>Zs s1.heap h'.objs.size (s1.heap.objs.size+4) (s1.heap.objs.size+2) (s1.heap.objs.size+3) s1.heap.objs.size (s1.heap.objs.size+1) l1 l2 #[x1,x2] #[y1,y2] h 2) (WZ rx2) (by have:=stored_length_le ([]:List (Key×Value)) k1 y1;simp at this;show _<16777216;lia) (λQ E g=>Zs.item (s:={ s1 with heap:=h4,toks:=tk }) Z2 D D2 ho4 h00 rfl rfl λh2 a t dd z=>g h2 a t (fdict dd4 dd) z) λh5 h6 j5 t5 tk5 z5 dd6 k6=>?_;have Z6:=z5.mono D2 hd0 k6;refine ze4 (A:=X.A.in1) λQ E g=>Zs.done (prog:=X.prog) (w:=X.w) (A:=X.A.in1.in1) (s:={ s1 with heap:=h6,toks:=tk5 }) (I1.ok.hd hc) Z6 D D2 h00 rfl λh7 dd7 old7=>g _ ?_;have hge:s1.heap.objs.size<=h'.objs.size:=by rw [hsz];exact Nat.le_add_right _ _
 have rel:KV [(k1,v1),(k2,v2)] [(k1,y1),(k2,y2)]:=.cons ⟨rfl,ry1⟩ (.cons ⟨rfl,ry2⟩ .nil);have hm:(qy [] [(k1,v1),(k2,v2)]).length<=sizeLine:=by have:=yz [(k1,v1),(k2,v2)] [];simp only [Uw,uq] at this;show _<=16777216;lia
 have I':Inv X pins σ (upd H1 h'.objs.size (.dK (qy [] [(k1,v1),(k2,v2)]))) { s1 with heap:=h7,toks:=tk5 }:=
  I1.laid (a:=h'.objs.size) old7 hge (zeG hm (uM.mpr (Ne.symm (u5 (uy I1.big' hge)))) (rel.merge .nil) (fdict dd6 dd7))
 exact⟨rfl,.ref h'.objs.size,_,I',rfl,q _ (I1.hok.fresh hge)⟩
theorem zg4 {X:Cx}{K:Frag}(hK:X.K=K)(hc:X.calm=true){a b:Expr}{ta:TA}{p p2 pos pos2:Pos}(hgd:Gl X "dict")(hmd:X.mg "dict" = none)(hgz:Gl X "zip")(hmz:X.mg "zip" = none)(ha:QA X [a,b] ta)
  (hs:starEach [a,b] X.env=[(false,eval a X.env),(false,eval b X.env)]:=by rfl) (hs2:starEach [b] X.env=[(false,eval b X.env)]:=by rfl)
  (hs3:starEach [.Call (.Name "zip" p2) [a,b] [] pos2] X.env=[(false,eval (.Call (.Name "zip" p2) [a,b] [] pos2) X.env)]:=by rfl) :
  QE X (.Call (.Name "dict" p) [.Call (.Name "zip" p2) [a,b] [] pos2] [] pos) (zcv K ta):=⟨zg3 hK hc hgd hmd hgz hmz ha.h hs hs2 hs3⟩
abbrev SE (X:Cx)(e:Expr)(es:Lg):Prop:=starEach (e::es) X.env=(false,eval e X.env)::starEach es X.env
section
variable {X:Cx} {a b c d e f:Expr} {ta tb tc td te tf:TE} {pos:Pos}
theorem qa1 (qa:QE X a ta)(h1:SE X a []:=by rfl):QA X [a] (jy ta tNil):=qU qa zC h1
theorem qa2 (qa:QE X a ta)(qb:QE X b tb)(h1:SE X a [b]:=by rfl) (h2:SE X b []:=by rfl):QA X [a,b] (jy ta (jy tb tNil)):=qU qa (qa1 qb h2) h1
theorem qa3 (qa:QE X a ta)(qb:QE X b tb)(qc:QE X c tc)(h1:SE X a [b,c]:=by rfl) (h2:SE X b [c]:=by rfl) (h3:SE X c []:=by rfl):QA X [a,b,c] (jy ta (jy tb (jy tc tNil))):=qU qa (qa2 qb qc h2 h3) h1
theorem qa4 (qa:QE X a ta)(qb:QE X b tb)(qc:QE X c tc)(qd:QE X d td)(h1:SE X a [b,c,d]:=by rfl) (h2:SE X b [c,d]:=by rfl) (h3:SE X c [d]:=by rfl) (h4:SE X d []:=by rfl):QA X [a,b,c,d] (jy ta (jy tb (jy tc (jy td tNil)))):=qU qa (qa3 qb qc qd h2 h3 h4) h1
theorem qa5 (qa:QE X a ta)(qb:QE X b tb)(qc:QE X c tc)(qd:QE X d td)(qe:QE X e te)(h1:SE X a [b,c,d,e]:=by rfl) (h2:SE X b [c,d,e]:=by rfl) (h3:SE X c [d,e]:=by rfl) (h4:SE X d [e]:=by rfl) (h5:SE X e []:=by rfl):QA X [a,b,c,d,e] (jy ta (jy tb (jy tc (jy td (jy te tNil))))):=qU qa (qa4 qb qc qd qe h2 h3 h4 h5) h1
theorem qS (l:Lc)(h:x=S l:=by decide +kernel):QE X (.Constant (.str x) j pos) (tC (.str (S l))):=qe_S h
theorem qtD (ho:OpR X (compareOp op) r)(ha:QE X a ta)(hb:QE X b tb)(hm:behindInMarks op b=false:=by first | rfl | exact zdW _):QT X (.Compare a [op] [b] pos) (YK (tOp r ta tb)):=zgT ho ha hb hm
theorem qeD (ho:OpR X (compareOp op) r)(ha:QE X a ta)(hb:QE X b tb)(hm:behindInMarks op b=false:=by first | rfl | exact zdW _):QE X (.Compare a [op] [b] pos) (tOp r ta tb):=zgQ ho ha hb hm
theorem qsE (i:Nat){pos':Pos}(hN:X.N.Nodup)(he:QE X e te)(hi:X.N[i]? = some x:=by rfl) (hx:Loc X.env.scope x:=by exact Or.inl (by rfl)) (hs:swapsWith e (some (.Name x pos')) pos.line X.env=pure false:=by rfl) (hf:X.fn x=true\/X.env.scope.names.lookup x=some .local:=by first | exact .inl rfl | exact .inr rfl | assumption) :
  QS X (.Assign [.Name x pos'] e pos) (tAsg te (xC i)):=zeU hN hi hx he hs hf
theorem qgE (i:Nat)(hN:X.N.Nodup)(hi:X.N[i]? = some x:=by rfl) (hx:Loc X.env.scope x:=by exact Or.inl (by rfl)) (hf:X.fn x=true\/X.env.scope.names.lookup x=some .local:=by first | exact .inl rfl | exact .inr rfl | assumption):QG X (.Name x pos) (xC i):=zgS hN hi hx hf
theorem qF (F:OkF X.prog X.w X.K X.mg X.base k x ps sp)(hr:Room j X.A)(ha:QA X (e::es) t)(hk:k<=j:=by first | decide | lia) (hg:Gl X x:=by rfl) (hdb:(x == ("__debug__":Str))=false:=by decide)
  (he:SE X e es:=by rfl) (hpl:(backTo pos (starEach es X.env)).any (·.1)=false:=by rfl):QE X (.Call (.Name x p) (e::es) [] pos) (kR sp [] E0 t):=zeO F hr hk ha hg hdb he hpl
theorem qxT (K:Frag)(ha:QE X a ta)(hb:QE X b tb)(hK:X.K=K:=by rfl) (hs:Wl b:=by exact λ_ _=>rfl):QE X (.Subscript a b pos) (tOp (rIxT K) ta tb):=Vf (zgu hK) ha hb hs
theorem qxL (K:Frag)(ha:QE X a ta)(hb:QE X b tb)(hK:X.K=K:=by rfl) (hs:Wl b:=by exact λ_ _=>rfl):QE X (.Subscript a b pos) (tOp (rIxL K) ta tb):=Vf (zeg hK) ha hb hs
end
theorem seqN (h:∀ N,N=u D->t { D with nx:=N } σ H):tSeq t u D σ H:=h _ rfl
section
variable {v z:V} {x:Option V} {σ:St} {H:Hp} {i:Nat} {p:Addr} {α β γ δ:Sort _} {c:Bool} {k l:Int}
theorem vS0:tVar 0 (some v::σ) H Q=Q v H:=by simp [tVar]
theorem vSs:tVar (i+1) (x::σ) H Q=tVar i σ H Q:=rfl
theorem gS0:xC 0 v (x::σ) H Q=Q (some v::σ) H:=rfl
theorem gSs:xC (i+1) v (x::σ) H Q=xC i v σ H λτ=>Q (x::τ):=rfl
theorem augD {D:Ends}:tAug i te ti D σ H=tVar i σ H λx _=>te σ H λy H1=>ti x y H1 λz H2=>xC i z σ H2 D.nx:=rfl
theorem exB {P:Bool->Prop}:(∃ k,V.bl c=.bl k/\P k)=P c:=by simp
theorem exI {P:Int->Prop}:(∃ i,V.int k=.int i/\P i)=P k:=by simp
theorem exR0 {P:Addr->Prop}:(∃ a,V.ref p=.ref a/\P a)=P p:=by simp
theorem exL1 {P:Addr->α->Prop}:(∃ a x,[V.ref p]=[.ref a]/\P a x)=∃ x,P p x:=by simp
theorem mC:List.map some (y::ys)++r=some y::(List.map some ys++r):=rfl
theorem mN:List.map some ([]:List V)++r=r:=rfl
theorem rC:List.replicate (n+1) (none:Option V)=none::List.replicate n none:=rfl
theorem rN:List.replicate 0 (none:Option V)=[]:=rfl
theorem exN {P:Prop}:(([]:List V)=[]/\P)=P:=by simp
theorem exSS {m n:Lc}{P:Lc->Lc->Prop}:(∃ a b,V.str (S m)=.str (S a)/\V.str (S n)=.str (S b)/\P a b)=P m n:=by simp [vo]
variable {y w:V}
theorem exII {P:Int->Int->Prop}:(∃ i j,w=.int i/\y=.int j/\P i j)=∃ i,w=.int i/\∃ j,y=.int j/\P i j:=by simp
theorem exR1 {P:Addr->α->Prop}:(∃ a x,w=.ref a/\P a x)=∃ a,w=.ref a/\∃ x,P a x:=by simp
theorem exR2 {P:Addr->α->β->Prop}:(∃ a x y,w=.ref a/\P a x y)=∃ a,w=.ref a/\∃ x y,P a x y:=by simp
theorem exR3 {P:Addr->α->β->γ->Prop}:(∃ a x y z,w=.ref a/\P a x y z)=∃ a,w=.ref a/\∃ x y z,P a x y z:=by simp
theorem exF {A:Addr->α->β->γ->Prop}{B C:α->Prop}{E:γ->δ->Prop}{Q:δ->Prop}:(∃ a c d f v,w=.ref a/\A a c d f/\B c/\C c/\E f v/\Q v)=∃ a,w=.ref a/\∃ c d f,A a c d f/\B c/\C c/\∃ v,E f v/\Q v:=by simp
theorem exD {A B:α->Addr->Prop}{C:α->Prop}{D:α->α->Prop}:(∃ d e a b,w=.ref a/\y=.ref b/\A d a/\B e b/\C d/\D d e)=∃ d e a,w=.ref a/\∃ b,y=.ref b/\A d a/\B e b/\C d/\D d e:=by simp
theorem exDD {q:Addr}{A B:α->Addr->Prop}{C:α->Prop}{D:α->α->Prop}:(∃ d e a b,V.ref p=.ref a/\V.ref q=.ref b/\A d a/\B e b/\C d/\D d e)=∃ d,A d p/\∃ e,B e q/\C d/\D d e:=by simp
theorem caN:kR sp [] E t σ H Q=t σ H λvs H1=>sp vs H1 Q E:=by simp only [kR,uw]
theorem meN:QL C m sp [] E ta t σ H Q=ta σ H λx H1=>∃ a dx fs,x=.ref a/\H1 a=some (.ins C dx fs)/\fs.lookup m=none/\t σ H1 λvs H2=>sp (x::vs) H2 Q E:=by simp only [QL,uw]
theorem maN:YL C sp [] E t σ H Q=t σ H λvs H1=>∀ x dx,H1 x=none->H1 dx=none->dx≠x->sp (.ref x::vs) (upd (upd H1 dx (.own x)) x (.ins C dx [])) (λv H2=>v=.non/\Q (.ref x) H2) E:=by simp only [YL,uw]
variable {a b:Str} {d:Bool}
theorem sL0:scal (.int k) (.int l)=true:=rfl
theorem sL1:scal (.bl c) (.bl d)=true:=rfl
theorem sL2:scal (.str a) (.str b)=true:=rfl
theorem sL3:scal .non (.int k)=true:=rfl
theorem sL4:scal (.int k) .non=true:=rfl
theorem sL5:scal .non (.str a)=true:=rfl
theorem sL6:scal (.str a) .non=true:=rfl
theorem sL7:scal .non .non=true:=rfl
theorem sL8:scal (.str a) (.int k)=true:=rfl
theorem sL9:scal (.int k) (.str a)=true:=rfl
end
end L2
set_option maxHeartbeats 4000000
set_option pp.deepTerms true
set_option pp.maxSteps 200000
namespace My
open PySem L2 PySem.Spec PyProof.Rows
noncomputable def top (i:Nat):Stmt:=PySem.Challenge.pw_sealpress_k79_the_first_fault.main.body.getD i (.Pass ⟨0,0,0,0⟩)
local macro_rules | `(tactic| walk_at "sc") => `(tactic| exact ⟨rfl, rfl, rfl, by decide +kernel, rfl, by decide +kernel, by decide +kernel⟩)
noncomputable abbrev Ju:Stmt:=top 27
noncomputable abbrev Jv:Lh:=["number"]
noncomputable abbrev vK:Lh:=["number"]
theorem zaI:zj Jv vK (zf Ju):=by walk_at "sc"
noncomputable abbrev Zh:Stmt:=top 28
noncomputable abbrev Zi:Lh:=["figures","number"]
noncomputable abbrev wm:Lh:=["figures"]
theorem Q6:zj Zi wm (zf Zh):=by walk_at "sc"
noncomputable abbrev Qc:Stmt:=top 32
noncomputable abbrev Qd:Lh:=["state"]
noncomputable abbrev xS:Lh:=["state"]
theorem Km:zj Qd xS (zf Qc):=by walk_at "sc"
noncomputable abbrev yA:Stmt:=top 34
noncomputable abbrev yB:Lh:=["sign"]
noncomputable abbrev jz:Lh:=["sign"]
theorem W9:zj yB jz (zf yA):=by walk_at "sc"
noncomputable abbrev Qe:Stmt:=top 35
noncomputable abbrev Qf:Lh:=["sign"]
noncomputable abbrev xU:Lh:=["sign"]
theorem Ko:zj Qf xU (zf Qe):=by walk_at "sc"
noncomputable abbrev Qg:Stmt:=top 36
noncomputable abbrev Qh:Lh:=["sign"]
noncomputable abbrev xV:Lh:=["sign"]
theorem Kq:zj Qh xV (zf Qg):=by walk_at "sc"
noncomputable abbrev zaJ:Stmt:=top 37
noncomputable abbrev zaK:Lh:=["talk","sign"]
noncomputable abbrev Q7:Lh:=["talk","sign"]
theorem zg5:zj zaK Q7 (zf zaJ):=by walk_at "sc"
noncomputable abbrev Jw:Stmt:=top 41
noncomputable abbrev Jx:Lh:=["mode","opens","events"]
noncomputable abbrev zN:Lh:=["mode","opens","events"]
theorem zaL:zj Jx zN (zf Jw):=by walk_at "sc"
noncomputable abbrev zaM:Stmt:=top 42
noncomputable abbrev zaN:Lh:=["mode","opens","sign"]
noncomputable abbrev wG:Lh:=["mode","opens","sign"]
theorem zg6:zj zaN wG (zf zaM):=by walk_at "sc"
noncomputable abbrev Qi:Stmt:=top 43
noncomputable abbrev Qj:Lh:=["mode","word","opens","talk","most"]
noncomputable abbrev qx:Lh:=["mode","word","opens","talk","most"]
theorem Kr:zj Qj qx (zf Qi):=by walk_at "sc"
noncomputable abbrev Qk:Stmt:=top 44
noncomputable abbrev Ql:Lh:=["opens","events"]
noncomputable abbrev j8:Lh:=["opens","events"]
theorem Ks:zj Ql j8 (zf Qk):=by walk_at "sc"
noncomputable abbrev Qm:Stmt:=top 45
noncomputable abbrev Qn:Lh:=["opens","events","mode"]
noncomputable abbrev xW:Lh:=["opens","events"]
theorem Wd:zj Qn xW (zf Qm):=by walk_at "sc"
noncomputable abbrev Xa:Stmt:=top 46
noncomputable abbrev Xb:Lh:=["opens","sign","events"]
noncomputable abbrev xG:Lh:=["opens","sign","events"]
theorem zdz:zj Xb xG (zf Xa):=by walk_at "sc"
noncomputable abbrev ze5:Stmt:=top 47
noncomputable abbrev ze6:Lh:=["opens","talk","sign","answer"]
noncomputable abbrev Jy:Lh:=["opens","talk","sign"]
theorem ze7:zj ze6 Jy (zf ze5):=by walk_at "sc"
noncomputable abbrev kh:Stmt:=top 48
noncomputable abbrev ki:Lh:=["word","sign"]
noncomputable abbrev jt:Lh:=["word","sign"]
theorem XC:zj ki jt (zf kh):=by walk_at "sc"
noncomputable abbrev Jz:Stmt:=top 49
noncomputable abbrev JA:Lh:=["word","opens","talk","sign"]
noncomputable abbrev vL:Lh:=["word","opens","talk","sign"]
theorem zaO:zj JA vL (zf Jz):=by walk_at "sc"
noncomputable abbrev JB:Stmt:=top 50
noncomputable abbrev JC:Lh:=["word","opens","talk","sign"]
noncomputable abbrev vM:Lh:=["word","opens","talk","sign"]
theorem zaP:zj JC vM (zf JB):=by walk_at "sc"
noncomputable abbrev JD:Stmt:=top 51
noncomputable abbrev JE:Lh:=["word","opens","talk","sign"]
noncomputable abbrev vN:Lh:=["word","opens","talk","sign"]
theorem zaQ:zj JE vN (zf JD):=by walk_at "sc"
noncomputable abbrev JF:Stmt:=top 52
noncomputable abbrev JG:Lh:=["word","opens","talk","sign"]
noncomputable abbrev vO:Lh:=["word","opens","talk","sign"]
theorem zaR:zj JG vO (zf JF):=by walk_at "sc"
noncomputable abbrev Qo:Stmt:=top 53
noncomputable abbrev Qp:Lh:=["word","opens","talk","sign"]
noncomputable abbrev xX:Lh:=["word","opens","talk","sign"]
theorem Kt:zj Qp xX (zf Qo):=by walk_at "sc"
noncomputable abbrev JH:Stmt:=top 54
noncomputable abbrev JI:Lh:=["word","opens","talk","sign"]
noncomputable abbrev vP:Lh:=["word","opens","talk","sign"]
theorem zaS:zj JI vP (zf JH):=by walk_at "sc"
noncomputable abbrev Xc:Stmt:=top 55
noncomputable abbrev Xd:Lh:=["word","opens","talk","sign"]
noncomputable abbrev yS:Lh:=["word","opens","talk","sign"]
theorem zdA:zj Xd yS (zf Xc):=by walk_at "sc"
noncomputable abbrev JJ:Stmt:=top 56
noncomputable abbrev JK:Lh:=["word","opens","talk","sign"]
noncomputable abbrev vQ:Lh:=["word","opens","talk","sign"]
theorem zaT:zj JK vQ (zf JJ):=by walk_at "sc"
noncomputable abbrev VM:Stmt:=top 57
noncomputable abbrev VN:Lh:=["word","opens","talk","sign"]
noncomputable abbrev Zj:Lh:=["word","opens","talk","sign"]
theorem ze8:zj VN Zj (zf VM):=by walk_at "sc"
noncomputable abbrev JL:Stmt:=top 58
noncomputable abbrev JM:Lh:=["word","opens","talk","sign"]
noncomputable abbrev vR:Lh:=["word","opens","talk","sign"]
theorem zaU:zj JM vR (zf JL):=by walk_at "sc"
noncomputable abbrev JN:Stmt:=top 59
noncomputable abbrev JO:Lh:=["word","opens","talk","sign"]
noncomputable abbrev vS:Lh:=["word","opens","talk","sign"]
theorem zaV:zj JO vS (zf JN):=by walk_at "sc"
noncomputable abbrev JP:Stmt:=top 60
noncomputable abbrev JQ:Lh:=["word","opens","talk","sign"]
noncomputable abbrev vT:Lh:=["word","opens","talk","sign"]
theorem zaW:zj JQ vT (zf JP):=by walk_at "sc"
noncomputable abbrev Xe:Stmt:=top 61
noncomputable abbrev Xf:Lh:=["word","opens","talk","sign"]
noncomputable abbrev yT:Lh:=["word","opens","talk","sign"]
theorem zdB:zj Xf yT (zf Xe):=by walk_at "sc"
noncomputable abbrev Zk:Stmt:=top 62
noncomputable abbrev Zl:Lh:=["word","opens","talk","sign"]
noncomputable abbrev xi:Lh:=["word","opens","talk","sign"]
theorem VO:zj Zl xi (zf Zk):=by walk_at "sc"
noncomputable abbrev Zm:Stmt:=top 63
noncomputable abbrev Zn:Lh:=["word","opens","talk","sign"]
noncomputable abbrev xj:Lh:=["word","opens","talk","sign"]
theorem VP:zj Zn xj (zf Zm):=by walk_at "sc"
noncomputable abbrev Qq:Stmt:=top 64
noncomputable abbrev Qr:Lh:=["word","opens","talk","sign"]
noncomputable abbrev xY:Lh:=["word","opens","talk","sign"]
theorem Ku:zj Qr xY (zf Qq):=by walk_at "sc"
noncomputable abbrev JR:Stmt:=top 65
noncomputable abbrev JS:Lh:=["word","opens","talk","sign"]
noncomputable abbrev vU:Lh:=["word","opens","talk","sign"]
theorem zaX:zj JS vU (zf JR):=by walk_at "sc"
noncomputable abbrev JT:Stmt:=top 66
noncomputable abbrev JU:Lh:=["word","opens","talk","sign"]
noncomputable abbrev vV:Lh:=["word","opens","talk","sign"]
theorem zaY:zj JU vV (zf JT):=by walk_at "sc"
noncomputable abbrev Qs:Stmt:=top 67
noncomputable abbrev Qt:Lh:=["word","opens","talk","sign"]
noncomputable abbrev xZ:Lh:=["word","opens","talk","sign"]
theorem Kv:zj Qt xZ (zf Qs):=by walk_at "sc"
noncomputable abbrev ZQ:Stmt:=top 68
noncomputable abbrev ZR:Lh:=["word","opens","talk","sign","grown","events"]
noncomputable abbrev vW:Lh:=["word","opens","talk","sign"]
theorem Qu:zj ZR vW (zf ZQ):=by walk_at "sc"
noncomputable abbrev VQ:Stmt:=top 70
noncomputable abbrev VR:Lh:=["state","sign","act"]
noncomputable abbrev Zo:Lh:=["state","sign"]
theorem Kw:zj VR Zo (zf VQ):=by walk_at "sc"
noncomputable abbrev VS:Stmt:=top 72
noncomputable abbrev VT:Lh:=[]
noncomputable abbrev yU:Lh:=[]
theorem ze9:zj VT yU (zf VS):=by walk_at "sc"
noncomputable abbrev zaZ:Stmt:=top 73
noncomputable abbrev za0:Lh:=["state","sign"]
noncomputable abbrev Q8:Lh:=["state","sign"]
theorem zg7:zj za0 Q8 (zf zaZ):=by walk_at "sc"
noncomputable abbrev zfa:Stmt:=top 74
noncomputable abbrev zfb:Lh:=["state","text","now","events","at","sign","answer"]
noncomputable abbrev Xg:Lh:=["state","text"]
theorem Qv:zj zfb Xg (zf zfa):=by walk_at "sc"
noncomputable abbrev Xh:Stmt:=top 75
noncomputable abbrev Xi:Lh:=["state"]
noncomputable abbrev yV:Lh:=["state"]
theorem zdC:zj Xi yV (zf Xh):=by walk_at "sc"
noncomputable abbrev JV:Stmt:=top 76
noncomputable abbrev JW:Lh:=["state"]
noncomputable abbrev xH:Lh:=["state"]
theorem za1:zj JW xH (zf JV):=by walk_at "sc"
noncomputable abbrev vi:Stmt:=inClass (top 78) 0
noncomputable abbrev vj:Lh:=["self","state","turns","many"]
noncomputable abbrev qA:Lh:=["self","state","turns","many"]
theorem JX:zj vj qA (zf vi):=by walk_at "sc"
noncomputable abbrev kj:Stmt:=inClass (top 78) 1
noncomputable abbrev kl:Lh:=["self"]
noncomputable abbrev zX:Lh:=["self"]
theorem XD:zj kl zX (zf kj):=by walk_at "sc"
noncomputable abbrev Qw:Stmt:=inClass (top 78) 2
noncomputable abbrev Qx:Lh:=["self","state"]
noncomputable abbrev jI:Lh:=["self","state"]
theorem Kx:zj Qx jI (zf Qw):=by walk_at "sc"
noncomputable abbrev yC:Stmt:=inClass (top 78) 3
noncomputable abbrev yD:Lh:=["self","turn"]
noncomputable abbrev ja:Lh:=["self","turn"]
theorem Xj:zj yD ja (zf yC):=by walk_at "sc"
noncomputable abbrev wN:Stmt:=inClass (top 79) 0
noncomputable abbrev wO:Lh:=["self","kept"]
noncomputable abbrev qQ:Lh:=["self","kept"]
theorem ZY:zj wO qQ (zf wN):=by walk_at "sc"
noncomputable abbrev jL:Stmt:=inClass (top 79) 1
noncomputable abbrev wQ:Lh:=["self","pieces","spot","now","piece"]
noncomputable abbrev zt:Lh:=["self","pieces","spot"]
theorem qR:zj wQ zt (zf jL):=by walk_at "sc"
noncomputable abbrev jl:Stmt:=inClass (top 79) 2
noncomputable abbrev j9:Lh:=["self","piece","spot","word"]
noncomputable abbrev zW:Lh:=["self","piece","spot"]
theorem xD:zj j9 zW (zf jl):=by walk_at "sc"
noncomputable abbrev jM:Stmt:=inClass (top 79) 3
noncomputable abbrev jN:Lh:=["self","piece","spot","answer","refusal"]
noncomputable abbrev zL:Lh:=["self","piece","spot"]
theorem jA:zj jN zL (zf jM):=by walk_at "sc"
noncomputable abbrev wt:Stmt:=inClass (top 79) 4
noncomputable abbrev wu:Lh:=["self","piece","spot","place"]
noncomputable abbrev qf:Lh:=["self","piece","spot"]
theorem va:zj wu qf (zf wt):=by walk_at "sc"
noncomputable abbrev jv:Stmt:=inClass (top 79) 5
noncomputable abbrev wx:Lh:=["self","piece","spot","passed","end"]
noncomputable abbrev qg:Lh:=["self","piece","spot"]
theorem wb:zj wx qg (zf jv):=by walk_at "sc"
noncomputable abbrev jY:Stmt:=inClass (top 79) 6
noncomputable abbrev xk:Lh:=["self","piece","spot","one","other"]
noncomputable abbrev qB:Lh:=["self","piece","spot"]
theorem wR:zj xk qB (zf jY):=by walk_at "sc"
noncomputable abbrev jw:Stmt:=inClass (top 79) 7
noncomputable abbrev wy:Lh:=["self","piece","spot","floor","end"]
noncomputable abbrev qh:Lh:=["self","piece","spot"]
theorem wc:zj wy qh (zf jw):=by walk_at "sc"
noncomputable abbrev vb:Lh:=["self","piece","spot","pair","part","first","behind"]
noncomputable abbrev Zp:Stmt:=top 80
noncomputable abbrev Zq:Lh:=["pieces","kept","looking","end"]
noncomputable abbrev xl:Lh:=["pieces","kept"]
theorem km:zj Zq xl (zf Zp):=by walk_at "sc"
noncomputable abbrev za2:Stmt:=top 81
noncomputable abbrev za3:Lh:=["pieces"]
noncomputable abbrev Q9:Lh:=["pieces"]
theorem zg8:zj za3 Q9 (zf za2):=by walk_at "sc"
noncomputable abbrev Zr:Stmt:=top 83
noncomputable abbrev Zt:Lh:=["_law_script","_law_k","_law_number"]
noncomputable abbrev xm:Lh:=["_law_script","_law_k"]
theorem kn:zj Zt xm (zf Zr):=by walk_at "sc"
noncomputable abbrev Qy:Stmt:=top 84
noncomputable abbrev Qz:Lh:=["_law_cell_here","_law_k","_law_many","_law_first_here","_law_second","_law_number"]
noncomputable abbrev zV:Lh:=["_law_cell_here","_law_k","_law_many"]
theorem ye:zj Qz zV (zf Qy):=by walk_at "sc"
noncomputable abbrev ko:Stmt:=top 85
noncomputable abbrev kq:Lh:=["_law_e"]
noncomputable abbrev wC:Lh:=["_law_e"]
theorem XE:zj kq wC (zf ko):=by walk_at "sc"
noncomputable abbrev Zu:Stmt:=top 86
noncomputable abbrev Zv:Lh:=["_law_cell_here","_law_k"]
noncomputable abbrev qV:Lh:=["_law_cell_here","_law_k"]
theorem VU:zj Zv qV (zf Zu):=by walk_at "sc"
noncomputable abbrev ku:Stmt:=top 87
noncomputable abbrev ky:Lh:=["_law_word","_law_mark","_law_kind","_law_bad","_law_ahead","_law_turn"]
noncomputable abbrev ju:Lh:=["_law_word","_law_mark","_law_kind"]
theorem xK:zj ky ju (zf ku):=by walk_at "sc"
noncomputable abbrev yf:Stmt:=top 88
noncomputable abbrev Zw:Lh:=["_law_cell_here","_law_kind","_law_deep","_law_plants_here","_law_found","_law_due_here","_law_k","_law_plant","_law_more"]
noncomputable abbrev qu:Lh:=["_law_cell_here","_law_kind","_law_deep","_law_plants_here"]
theorem qD:zj Zw qu (zf yf):=by walk_at "sc"
noncomputable abbrev yg:Stmt:=top 89
noncomputable abbrev Zx:Lh:=["_law_cell_here","_law_kind","_law_deep","_law_plants_here","_law_way","_law_name","_law_one","_law_due_here","_law_other_here","_law_word"]
noncomputable abbrev wo:Lh:=["_law_cell_here","_law_kind","_law_deep","_law_plants_here"]
theorem jO:zj Zx wo (zf yg):=by walk_at "sc"
noncomputable abbrev xM:Stmt:=top 90
noncomputable abbrev yE:Lh:=["_law_cell_here","_law_lead","_law_kind","_law_close","_law_deep","_law_plants_here","_law_one","_law_due_here"]
noncomputable abbrev jB:Lh:=["_law_cell_here","_law_lead","_law_kind","_law_close","_law_deep","_law_plants_here"]
theorem vX:zj yE jB (zf xM):=by walk_at "sc"
noncomputable abbrev wH:Stmt:=top 91
noncomputable abbrev vk:Lh:=["_law_cell_here","_law_kind","_law_deep","_law_plants_here","_law_way","_law_lead","_law_tag","_law_due_here","_law_inner_here","_law_more"]
noncomputable abbrev qC:Lh:=["_law_cell_here","_law_kind","_law_deep","_law_plants_here"]
theorem zG:zj vk qC (zf wH):=by walk_at "sc"
noncomputable abbrev Zy:Stmt:=top 92
noncomputable abbrev Zz:Lh:=["_law_cell_here","_law_plants_here","_law_found","_law_due_here","_law_plant"]
noncomputable abbrev xn:Lh:=["_law_cell_here","_law_plants_here"]
theorem xo:zj Zz xn (zf Zy):=by walk_at "sc"
noncomputable abbrev yF:Stmt:=top 93
noncomputable abbrev yG:Lh:=["_law_piece","_law_mark"]
noncomputable abbrev qJ:Lh:=["_law_piece","_law_mark"]
theorem Xk:zj yG qJ (zf yF):=by walk_at "sc"
noncomputable abbrev yh:Stmt:=top 94
noncomputable abbrev ZA:Lh:=["_law_pieces_here","_law_turns","_law_many","_law_piece","_law_inner_here"]
noncomputable abbrev zJ:Lh:=["_law_pieces_here"]
theorem zS:zj ZA zJ (zf yh):=by walk_at "sc"
noncomputable abbrev kz:Stmt:=top 95
noncomputable abbrev kA:Lh:=["_law_piece"]
noncomputable abbrev qo:Lh:=["_law_piece"]
theorem XF:zj kA qo (zf kz):=by walk_at "sc"
noncomputable abbrev yi:Stmt:=top 96
noncomputable abbrev ZC:Lh:=["_law_pieces_here","_law_mark","_law_turns","_law_many","_law_piece","_law_more","_law_things","_law_inner_here","_law_found","_law_ahead"]
noncomputable abbrev qw:Lh:=["_law_pieces_here","_law_mark"]
theorem z6:zj ZC qw (zf yi):=by walk_at "sc"
noncomputable abbrev xp:Stmt:=top 97
noncomputable abbrev vY:Lh:=["_law_pieces_here","_law_mark","_law_piece","_law_more","_law_things","_law_inner_here","_law_found"]
noncomputable abbrev zE:Lh:=["_law_pieces_here","_law_mark"]
theorem qN:zj vY zE (zf xp):=by walk_at "sc"
noncomputable abbrev QB:Stmt:=top 98
noncomputable abbrev QC:Lh:=["_law_pieces_here","_law_word","_law_mark","_law_turns","_law_many","_law_text"]
noncomputable abbrev wX:Lh:=["_law_pieces_here","_law_word","_law_mark"]
theorem yj:zj QC wX (zf QB):=by walk_at "sc"
noncomputable abbrev yH:Stmt:=top 99
noncomputable abbrev yI:Lh:=["_law_pieces_here","_law_found","_law_e"]
noncomputable abbrev jb:Lh:=["_law_pieces_here"]
theorem vZ:zj yI jb (zf yH):=by walk_at "sc"
noncomputable abbrev v5:Stmt:=top 100
noncomputable abbrev v7:Lh:=["_law_e"]
noncomputable abbrev jS:Lh:=["_law_e"]
theorem Wg:zj v7 jS (zf v5):=by walk_at "sc"
noncomputable abbrev vt:Stmt:=top 101
noncomputable abbrev kB:Lh:=["_law_pieces_here","_law_marks","_law_piece","_law_mark","_law_more","_law_things","_law_inner_here","_law_found"]
noncomputable abbrev zO:Lh:=["_law_pieces_here","_law_marks"]
theorem qX:zj kB zO (zf vt):=by walk_at "sc"
noncomputable abbrev yJ:Stmt:=top 102
noncomputable abbrev yK:Lh:=["_law_cell_here","_law_words","_law_marks","_law_plants_here","_law_k"]
noncomputable abbrev we:Lh:=["_law_cell_here","_law_words","_law_marks"]
theorem v8:zj yK we (zf yJ):=by walk_at "sc"
noncomputable abbrev yL:Stmt:=top 103
noncomputable abbrev yM:Lh:=["_law_cell_here","_law_words","_law_marks","_law_pieces_here"]
noncomputable abbrev jC:Lh:=["_law_cell_here","_law_words","_law_marks"]
theorem ZD:zj yM jC (zf yL):=by walk_at "sc"
noncomputable abbrev xq:Stmt:=top 104
noncomputable abbrev vv:Lh:=["_law_cell_here","_law_words","_law_marks","_law_pieces_here","_law_found","_law_first_here"]
noncomputable abbrev zY:Lh:=["_law_cell_here","_law_words","_law_marks"]
theorem wD:zj vv zY (zf xq):=by walk_at "sc"
noncomputable abbrev zfc:Stmt:=top 105
noncomputable abbrev zfd:Lh:=["_law_script","_law_some_here","_law_k","_law_cell_here","_law_words","_law_both"]
noncomputable abbrev VW:Lh:=["_law_script"]
theorem JY:zj zfd VW (zf zfc):=by walk_at "sc"
noncomputable abbrev QD:Stmt:=inClass (top 4) 0
theorem Ky:zj ["self","at"] ["self","at"] (zf QD):=by walk_at "sc"
noncomputable abbrev QF:Stmt:=inClass (top 15) 0
theorem Kz:zj ["self","place","at"] ["self","place","at"] (zf QF):=by walk_at "sc"
noncomputable abbrev QH:Stmt:=inClass (top 17) 0
theorem KA:zj ["self","what","one","other"] ["self","what","one","other"] (zf QH):=by walk_at "sc"
noncomputable abbrev ZE:Stmt:=inClass (top 16) 0
theorem VX:zj ["self","name","place"] ["self","name","place"] (zf ZE):=by walk_at "sc"
noncomputable abbrev kC:Stmt:=inClass (top 18) 0
theorem XG:zj ["self","place"] ["self","place"] (zf kC):=by walk_at "sc"
theorem cxK {CX:CXT}{P:Program}{w:World}{K:Le}{mg:La}{base:Heap}{N:Lh}{qual:Str}{scope:Scope}{f:Addr}{cd:Value}{A:Around}{outer:List Env}{s:Shared}{H:Hp}{E:XK}:(cxOf CX P w K mg base N qual scope f cd A outer s H E).nox.K=K:=rfl
theorem cxK0 {CX:CXT}{P:Program}{w:World}{K:Le}{mg:La}{base:Heap}{N:Lh}{qual:Str}{scope:Scope}{f:Addr}{cd:Value}{A:Around}{outer:List Env}{s:Shared}{H:Hp}{E:XK}:(cxOf CX P w K mg base N qual scope f cd A outer s H E).K=K:=rfl
theorem nc0:((0:Nat):Int)=0:=rfl
theorem nc1:((1:Nat):Int)=1:=rfl
theorem nc2:((2:Nat):Int)=2:=rfl
theorem nc3:((3:Nat):Int)=3:=rfl
theorem nc94:((94:Nat):Int)=94:=rfl
theorem blkK {X:Cx}{x:Str}{scope:Scope}{cl:List (Str×Addr)}{C:Addr}{s3:Shared}{H3:Hp}{fp:Ld}:(blk X x scope cl C s3 H3 fp).K=X.K:=rfl
theorem zg9 {K:Le}{x:Str}{H:Hp}:tyV K "str" (.str x) H=True:=by simp [tyV]
theorem zkG {A B:Prop}:(if true=true then A else B)=A:=by simp
theorem zkH {A B:Prop}:(if false=true then A else B)=B:=by simp
theorem cxKh {CX:CXT}{P:Program}{w:World}{K:Le}{mg:La}{base:Heap}{N:Lh}{qual:Str}{scope:Scope}{f:Addr}{cd:Value}{A:Around}{outer:List Env}{s:Shared}{H:Hp}{E:XK}:(cxOf CX P w K mg base N qual scope f cd A outer s H E).hot.nox.K=K:=rfl
structure Ads where
 SealError:Addr
 NoSign:Addr
 NoCode:Addr
 Unread:Addr
 Unended:Addr
 NoPage:Addr
 NoName:Addr
 NoSheet:Addr
 Twice:Addr
 TooMany:Addr
 Unknown:Addr
 RingOver:Addr
 Ringed:Addr
 NoElder:Addr
 Astray:Addr
 NoPlace:Addr
 Unlike:Addr
 LeftOpen:Addr
 NoValue:Addr
 NoKind:Addr
 NoRow:Addr
 Spot:Addr
 Looking:Addr
 PLACE_MODES:Addr
 at_text:Addr
 at_mark:Addr
 at_open:Addr
 at_name:Addr
 at_slash:Addr
 at_shut:Addr
 at_gap:Addr
 at_attr:Addr
 at_is:Addr
 at_bang:Addr
 at_bare:Addr
 at_code:Addr
 at_row:Addr
 at_stroke:Addr
 at_quoted:Addr
 at_qmark:Addr
 at_done:Addr
 at_talk:Addr
 at_tmark:Addr
 at_asis:Addr
noncomputable def tab2 (t:Ads):List (Tx×AtF×Addr):=[(xc,YZ,t.at_text),(zb7,Y0,t.at_mark),(zeA,Y1,t.at_open),(YX,aName,t.at_name),(zaz,WW,t.at_slash),(Vb,QY,t.at_shut),(mGap,aGap,t.at_gap),(zb8,Y2,t.at_attr),(mIs,aIs,t.at_is),(zeB,Y3,t.at_bang),(vH,Y4,t.at_bare),(zb9,Y5,t.at_code),(mRow,aRow,t.at_row),(VC,QZ,t.at_stroke),(jK,Q0,t.at_quoted),(VD,WX,t.at_qmark),(YY,Y6,t.at_done),(kW,Y7,t.at_talk),(VE,WY,t.at_tmark),(QX,Y8,t.at_asis)]
noncomputable def mtab (t:Ads):List (Key×V):=(tab2 t).map λe=>(.inr (S e.1),.ref e.2.2)
theorem zfe (t:Ads):Vc=(tab2 t).map λe=>(e.1,e.2.1):=rfl
theorem KC (m:Tx):∀ l:List (Tx×AtF×Addr),(∃ e∈l,valV (l.map λe=>((.inr (S e.1):Key),V.ref e.2.2)) (.inr (S m))=some (.ref e.2.2)/\(l.map λe=>(e.1,e.2.1)).lookup m=some e.2.1) \/
  (valV (l.map λe=>((.inr (S e.1):Key),V.ref e.2.2)) (.inr (S m))=none/\(l.map λe=>(e.1,e.2.1)).lookup m=none)
 | []=>.inr ⟨rfl,rfl⟩
 | e::l=>by
  by_cases h:e.1=m
  ·refine .inl ⟨e,Uy,?_,?_⟩
   ·rw [uu,Q2 (by show(Sum.inr (S e.1):Key)=Sum.inr (S m);rw [h])]
   ·rw [uu,uY,h];simp
  ·have e1:valV ((e::l).map λe=>((.inr (S e.1):Key),V.ref e.2.2)) (.inr (S m))=valV (l.map λe=>((.inr (S e.1):Key),V.ref e.2.2)) (.inr (S m)):=by
    rw [uu,Q3 (by intro z;exact h (vo.mp (Sum.inr.inj z)))]
   have e2:((e::l).map λe=>(e.1,e.2.1)).lookup m=(l.map λe=>(e.1,e.2.1)).lookup m:=by
    rw [uu,uY]
    have:(m == e.1)=false:=uM.mpr λz=>h z.symm
    simp [this]
   rw [e1,e2]
   rcases KC m l with⟨e',h1,h2⟩ | h2
   ·exact .inl ⟨e',uQ _ h1,h2⟩
   ·exact .inr h2
structure Txt (w:World)(K:Le)(mg:La)(t:Ads):Prop where
 m_SealError:mg "SealError" = some (.ref t.SealError)
 m_NoSign:mg "NoSign" = some (.ref t.NoSign)
 m_NoCode:mg "NoCode" = some (.ref t.NoCode)
 m_Unread:mg "Unread" = some (.ref t.Unread)
 m_Unended:mg "Unended" = some (.ref t.Unended)
 m_NoPage:mg "NoPage" = some (.ref t.NoPage)
 m_NoName:mg "NoName" = some (.ref t.NoName)
 m_NoSheet:mg "NoSheet" = some (.ref t.NoSheet)
 m_Twice:mg "Twice" = some (.ref t.Twice)
 m_TooMany:mg "TooMany" = some (.ref t.TooMany)
 m_Unknown:mg "Unknown" = some (.ref t.Unknown)
 m_RingOver:mg "RingOver" = some (.ref t.RingOver)
 m_Ringed:mg "Ringed" = some (.ref t.Ringed)
 m_NoElder:mg "NoElder" = some (.ref t.NoElder)
 m_Astray:mg "Astray" = some (.ref t.Astray)
 m_NoPlace:mg "NoPlace" = some (.ref t.NoPlace)
 m_Unlike:mg "Unlike" = some (.ref t.Unlike)
 m_LeftOpen:mg "LeftOpen" = some (.ref t.LeftOpen)
 m_NoValue:mg "NoValue" = some (.ref t.NoValue)
 m_NoKind:mg "NoKind" = some (.ref t.NoKind)
 m_NoRow:mg "NoRow" = some (.ref t.NoRow)
 m_Spot:mg "Spot" = some (.ref t.Spot)
 m_Looking:mg "Looking" = some (.ref t.Looking)
 m_at_text:mg "at_text" = some (.ref t.at_text)
 m_at_mark:mg "at_mark" = some (.ref t.at_mark)
 m_at_open:mg "at_open" = some (.ref t.at_open)
 m_at_name:mg "at_name" = some (.ref t.at_name)
 m_at_slash:mg "at_slash" = some (.ref t.at_slash)
 m_at_shut:mg "at_shut" = some (.ref t.at_shut)
 m_at_gap:mg "at_gap" = some (.ref t.at_gap)
 m_at_attr:mg "at_attr" = some (.ref t.at_attr)
 m_at_is:mg "at_is" = some (.ref t.at_is)
 m_at_bang:mg "at_bang" = some (.ref t.at_bang)
 m_at_bare:mg "at_bare" = some (.ref t.at_bare)
 m_at_code:mg "at_code" = some (.ref t.at_code)
 m_at_row:mg "at_row" = some (.ref t.at_row)
 m_at_stroke:mg "at_stroke" = some (.ref t.at_stroke)
 m_at_quoted:mg "at_quoted" = some (.ref t.at_quoted)
 m_at_qmark:mg "at_qmark" = some (.ref t.at_qmark)
 m_at_done:mg "at_done" = some (.ref t.at_done)
 m_at_talk:mg "at_talk" = some (.ref t.at_talk)
 m_at_tmark:mg "at_tmark" = some (.ref t.at_tmark)
 m_at_asis:mg "at_asis" = some (.ref t.at_asis)
 c_SealError:XCl K t.SealError
 c_Unread:XCl K t.Unread
 u_SealError:upIn K t.SealError=true
 k_Unread:PySem.W.keepIn K (.ref t.Unread)=true
 n_Unread_at:PySem.W.findIn K (.ref t.Unread) "at" = some none
 kit_up_ur:PySem.W.mroIn K t.Unread (.ref t.Unread)=some true
 c_Astray:XCl K t.Astray
 k_Astray:PySem.W.keepIn K (.ref t.Astray)=true
 n_Astray_place:PySem.W.findIn K (.ref t.Astray) "place" = some none
 n_Astray_at:PySem.W.findIn K (.ref t.Astray) "at" = some none
 kit_Astray_se:PySem.W.mroIn K t.Astray (.ref t.SealError)=some true
 kit_Astray_l1:PySem.W.kitAny K (.ref t.Astray) [.ref t.NoCode,.ref t.NoElder,.ref t.NoKind,.ref t.NoName,.ref t.NoPage,.ref t.NoRow,.ref t.NoSheet,.ref t.NoSign,.ref t.Unread]=some false
 kit_Astray_l2:PySem.W.kitAny K (.ref t.Astray) [.ref t.NoValue,.ref t.RingOver,.ref t.Ringed,.ref t.TooMany,.ref t.Twice,.ref t.Unended,.ref t.Unknown]=some false
 kit_Astray_ve:PySem.W.kitOne K (.ref t.Astray) (.type "ValueError")=some true
 kit_Astray_a:PySem.W.kitOne K (.ref t.Astray) (.ref t.Astray)=some true
 kit_Astray_o:PySem.W.kitAny K (.ref t.Astray) [.ref t.NoPlace,.ref t.Unlike,.ref t.LeftOpen]=some false
 c_Unlike:XCl K t.Unlike
 k_Unlike:PySem.W.keepIn K (.ref t.Unlike)=true
 n_Unlike_what:PySem.W.findIn K (.ref t.Unlike) "what" = some none
 n_Unlike_one:PySem.W.findIn K (.ref t.Unlike) "one" = some none
 n_Unlike_other:PySem.W.findIn K (.ref t.Unlike) "other" = some none
 kit_Unlike_se:PySem.W.mroIn K t.Unlike (.ref t.SealError)=some true
 kit_Unlike_l1:PySem.W.kitAny K (.ref t.Unlike) [.ref t.NoCode,.ref t.NoElder,.ref t.NoKind,.ref t.NoName,.ref t.NoPage,.ref t.NoRow,.ref t.NoSheet,.ref t.NoSign,.ref t.Unread]=some false
 kit_Unlike_l2:PySem.W.kitAny K (.ref t.Unlike) [.ref t.NoValue,.ref t.RingOver,.ref t.Ringed,.ref t.TooMany,.ref t.Twice,.ref t.Unended,.ref t.Unknown]=some false
 kit_Unlike_ve:PySem.W.kitOne K (.ref t.Unlike) (.type "ValueError")=some true
 kit_Unlike_a:PySem.W.kitOne K (.ref t.Unlike) (.ref t.Astray)=some false
 kit_Unlike_n:PySem.W.kitOne K (.ref t.Unlike) (.ref t.NoPlace)=some false
 kit_Unlike_u:PySem.W.kitOne K (.ref t.Unlike) (.ref t.Unlike)=some true
 kit_Unlike_o:PySem.W.kitOne K (.ref t.Unlike) (.ref t.LeftOpen)=some false
 c_NoPlace:XCl K t.NoPlace
 k_NoPlace:PySem.W.keepIn K (.ref t.NoPlace)=true
 n_NoPlace_name:PySem.W.findIn K (.ref t.NoPlace) "name" = some none
 n_NoPlace_place:PySem.W.findIn K (.ref t.NoPlace) "place" = some none
 kit_NoPlace_se:PySem.W.mroIn K t.NoPlace (.ref t.SealError)=some true
 kit_NoPlace_l1:PySem.W.kitAny K (.ref t.NoPlace) [.ref t.NoCode,.ref t.NoElder,.ref t.NoKind,.ref t.NoName,.ref t.NoPage,.ref t.NoRow,.ref t.NoSheet,.ref t.NoSign,.ref t.Unread]=some false
 kit_NoPlace_l2:PySem.W.kitAny K (.ref t.NoPlace) [.ref t.NoValue,.ref t.RingOver,.ref t.Ringed,.ref t.TooMany,.ref t.Twice,.ref t.Unended,.ref t.Unknown]=some false
 kit_NoPlace_ve:PySem.W.kitOne K (.ref t.NoPlace) (.type "ValueError")=some true
 kit_NoPlace_a:PySem.W.kitOne K (.ref t.NoPlace) (.ref t.Astray)=some false
 kit_NoPlace_n:PySem.W.kitOne K (.ref t.NoPlace) (.ref t.NoPlace)=some true
 kit_NoPlace_o:PySem.W.kitAny K (.ref t.NoPlace) [.ref t.Unlike,.ref t.LeftOpen]=some false
 c_LeftOpen:XCl K t.LeftOpen
 k_LeftOpen:PySem.W.keepIn K (.ref t.LeftOpen)=true
 n_LeftOpen_place:PySem.W.findIn K (.ref t.LeftOpen) "place" = some none
 kit_LeftOpen_se:PySem.W.mroIn K t.LeftOpen (.ref t.SealError)=some true
 kit_LeftOpen_l1:PySem.W.kitAny K (.ref t.LeftOpen) [.ref t.NoCode,.ref t.NoElder,.ref t.NoKind,.ref t.NoName,.ref t.NoPage,.ref t.NoRow,.ref t.NoSheet,.ref t.NoSign,.ref t.Unread]=some false
 kit_LeftOpen_l2:PySem.W.kitAny K (.ref t.LeftOpen) [.ref t.NoValue,.ref t.RingOver,.ref t.Ringed,.ref t.TooMany,.ref t.Twice,.ref t.Unended,.ref t.Unknown]=some false
 kit_LeftOpen_ve:PySem.W.kitOne K (.ref t.LeftOpen) (.type "ValueError")=some true
 kit_LeftOpen_a:PySem.W.kitOne K (.ref t.LeftOpen) (.ref t.Astray)=some false
 kit_LeftOpen_n:PySem.W.kitOne K (.ref t.LeftOpen) (.ref t.NoPlace)=some false
 kit_LeftOpen_u:PySem.W.kitOne K (.ref t.LeftOpen) (.ref t.Unlike)=some false
 kit_LeftOpen_o:PySem.W.kitOne K (.ref t.LeftOpen) (.ref t.LeftOpen)=some true
 g_SIGNS:∃ u,mg "SIGNS" = some u/\RelV (.str (S sg)) u
 g_FIGURES:∃ u,mg "FIGURES" = some u/\RelV (.str (S fg)) u
 g_LETTERS:∃ u,mg "LETTERS" = some u/\RelV (.str (S lt)) u
 g_LONGEST_NAME:∃ u,mg "LONGEST_NAME" = some u/\RelV (.int 8) u
 g_WORDSIGNS:∃ u,mg "WORDSIGNS" = some u/\RelV (.str (S ws)) u
 g_ASIS_END:∃ u,mg "ASIS_END" = some u/\RelV (.str (S ke)) u
 g_MARK_FIGURES:∃ u,mg "MARK_FIGURES" = some u/\RelV (.int 2) u
 d_MODES:∃ a,mg "MODES" = some (.ref a)/\Kf w K a (mtab t)
 m_PLACE_MODES:mg "PLACE_MODES" = some (.ref t.PLACE_MODES)
 s_PLACE_MODES:∀ H,SqT K H t.PLACE_MODES [.str (S xc),.str (S vH),.str (S mRow),.str (S jK)]
 z_len:mg "len" = none
 z_dict:mg "dict" = none
 z_zip:mg "zip" = none
 z_max:mg "max" = none
 z_min:mg "min" = none
 z_int:mg "int" = none
 z_str:mg "str" = none
 z_tuple:mg "tuple" = none
 z_list:mg "list" = none
 z_range:mg "range" = none
 z_enumerate:mg "enumerate" = none
 z_isinstance:mg "isinstance" = none
 z_ValueError:mg "ValueError" = none
 l_Spot:Cls K t.Spot
 l_Looking:Cls K t.Looking
 a_state:ve K t.Spot "state"
 a_turns:ve K t.Spot "turns"
 a_many:ve K t.Spot "many"
 a_kept:ve K t.Looking "kept"
 a_holes:ve K t.Looking "holes"
 a_pairs:ve K t.Looking "pairs"
theorem za4 {P:Program}{w:World}{K:Le}{mg:La}{base:Heap}{t:Ads}(T:Txt w K mg t)(D:Ini K t.Unread "Unread.__init__" QD ["self","at"]):Err P w K mg base "Unread" t.Unread "at" payT:=by obtain⟨fI,fd,oI,i1,i2,i3,F,b⟩:=D.ex;refine⟨T.m_Unread,T.c_Unread,T.k_Unread,fI,fd,oI,_,i1,i2,i3,b,?_⟩;refine F.ok Ky (λvs H Q E h=>by obtain⟨a,v,rfl,_⟩:=h;rfl) λcdv A outer s H vs Q E hr h=>?_;obtain⟨a,v,rfl,ea,hp,q⟩:=h;exact⟨_,wz (ZM (QQ (C:=t.Unread) T.m_SealError T.u_SealError T.c_Unread (w4 (pv 0) (w4 (zeq (pv 1)) Jj)))) (ZL (QR T.c_Unread T.n_Unread_at (pv 0) (pv 1))),zdj ea hp q⟩
theorem drawn {ys:List V}{n:Nat}(hl:ys.length=n)(h:∀ (i:Nat) v,ys[i]? = some v->∃ c∈sg,v=V.str (S [c])) : ∃ t:Lc,t.length=n/\(∀ c∈t,c∈sg)/\ys=(t.map λc=>[c]).map (λl=>V.str (S l)):=by
 induction ys generalizing n with
 | nil=>exact⟨[],hl,by simp,rfl⟩
 | cons y ys ih=>
  obtain⟨c,hc,rfl⟩:=h 0 y rfl;obtain⟨t,e1,e2,e3⟩:=ih (n:=ys.length) rfl λi v e=>h (i+1) v (by simpa using e);refine⟨c::t,by rw [uq,e1,← hl];rfl,λd hd=>?_,by rw [e3];rfl⟩;rcases um.mp hd with rfl | hd
  ·exact hc
  ·exact e2 d hd
noncomputable def spA (F:AtF):Sp:=λvs H Q _=>∃ (w:Tx) (oa:Addr) (op:List Tx) (t:Tx) (c:Nat),vs=[.str (S w),.ref oa,.str (S t),.str (S [c])]/\OpV H oa op/\w.length<=1000/\op.length<=100000/\∀ v H',Same H H'->AnV (λa=>H a=none) H' v (F w op t c)->Q v H'
noncomputable def kD:Sp:=λvs H Q _=>∃ n:Nat,vs=[.int n]/\n<94/\∀ c H',sg[n]? = some c->Same H H'->Q (.str (S [c])) H'
noncomputable def xr:Sp:=λvs H Q _=>∃ l,vs=[.str (S l)]/\l.length<=2000/\∀ H',Same H H'->Q (oV (L2.told l)) H'
noncomputable def wg:Sp:=λvs H Q _=>∃ c:Nat,vs=[.str (S [c])]/\∀ v H',Same H H'->TkV (λa=>H a=none) H' v (fedB c)->Q v H'
noncomputable def yk:Sp:=λvs H Q _=>∃ c:Nat,vs=[.str (S [c])]/\∀ v H',Same H H'->TkV (λa=>H a=none) H' v (fedW c)->Q v H'
noncomputable def yl:Sp:=λvs H Q _=>∃ c:Nat,vs=[.str (S [c])]/\∀ v H',Same H H'->TkV (λa=>H a=none) H' v (fedS c)->Q v H'
noncomputable def Wu:Sp:=λvs H Q _=>∃ (t:Tx) (c:Nat),vs=[.str (S t),.str (S [c])]/\∀ v H',Same H H'->TkV (λa=>H a=none) H' v (WV t c)->Q v H'
noncomputable def zT:Sp:=λvs H Q _=>∃ (m:Tx) (oa:Addr) (op:List Tx) (ea:Addr) (es:List Ev),vs=[.str (S m),.ref oa,.ref ea]/\OpV H oa op/\EvL H ea es/\∀ v H',Same H H'->AnV (λa=>a=ea) H' v (qZ m op es)->Q v H'
noncomputable def xt:Sp:=λvs H Q _=>∃ (m:Tx) (oa:Addr) (op:List Tx) (o:Option Nat),vs=[.str (S m),.ref oa,oV o]/\OpV H oa op/\∀ v H',Same H H'->AnV (λa=>H a=none) H' v (Z4 m op o)->Q v H'
noncomputable def qK:Sp:=λvs H Q _=>∃ (m w:Tx) (oa:Addr) (op:List Tx) (t:Tx) (n:Nat),vs=[.str (S m),.str (S w),.ref oa,.str (S t),.int n]/\OpV H oa op/\w.length<=2000/\∀ v H',Same H H'->AnV (λa=>H a=none) H' v (gath m w op t n)->Q v H'
noncomputable def wY:Sp:=λvs H Q _=>∃ (oa:Addr) (op:List Tx) (ea:Addr) (es:List Ev),vs=[.ref oa,.ref ea]/\OpV H oa op/\EvL H ea es/\es.length<=1000/\∀ v H',Same H H'->AnV (λa=>H a=none) H' v (yc op es)->Q v H'
noncomputable def ym:Sp:=λvs H Q _=>∃ (oa:Addr) (op:List Tx) (ea:Addr) (es:List Ev),vs=[.ref oa,.ref ea]/\OpV H oa op/\EvL H ea es/\es.length<=1000/\∀ v H',Same H H'->AnV (λa=>H a=none) H' v (vq op es)->Q v H'
noncomputable def vE:Sp:=λvs H Q _=>∃ (oa:Addr) (op:List Tx) (c:Nat) (ea:Addr) (es:List Ev),vs=[.ref oa,.str (S [c]),.ref ea]/\OpV H oa op/\EvL H ea es/\es.length<=1000/\∀ v H',Same H H'->AnV (λa=>H a=none\/a=ea) H' v (WU op c es)->Q v H'
noncomputable def Xl:Sp:=λvs H Q _=>∃ (oa:Addr) (op:List Tx) (t:Tx) (o:Option Nat),vs=[.ref oa,.str (S t),oV o]/\OpV H oa op/\∀ v H',Same H H'->AnV (λa=>H a=none) H' v (fedM op t o)->Q v H'
noncomputable def jT:Sp:=λvs H Q _=>∃ (w:Tx) (c:Nat),vs=[.str (S w),.str (S [c])]/\w.length<=1000/\∀ H',Same H H'->Q (oV (Wa w c)) H'
noncomputable def kE:Sp:=spA YZ
noncomputable def kF:Sp:=spA Y0
noncomputable def kG:Sp:=spA Y1
noncomputable def kH:Sp:=spA aName
noncomputable def yn:Sp:=spA WW
noncomputable def kI:Sp:=spA QY
noncomputable def ZS:Sp:=spA aGap
noncomputable def kJ:Sp:=spA Y2
noncomputable def Ja:Sp:=spA aIs
noncomputable def kK:Sp:=spA Y3
noncomputable def kL:Sp:=spA Y4
noncomputable def kM:Sp:=spA Y5
noncomputable def ZT:Sp:=spA aRow
noncomputable def vw:Sp:=spA QZ
noncomputable def vx:Sp:=spA Q0
noncomputable def yo:Sp:=spA WX
noncomputable def kN:Sp:=spA Y6
noncomputable def kP:Sp:=spA Y7
noncomputable def yp:Sp:=spA WY
noncomputable def kQ:Sp:=spA Y8
noncomputable def ZF:Sp:=λvs H Q _=>∃ (x:V) (s:MS) (c:Nat),vs=[x,.str (S [c])]/\StV H x s/\s.word.length<=1000/\s.opens.length<=100000/\∀ v H',Same H H'->AnV (λa=>H a=none) H' v (yd s c)->Q v H'
noncomputable def ZG:Sp:=λvs H Q _=>vs=[]/\∀ v H',Same H H'->StV H' v ⟨xc,[],[],[]⟩->Q v H'
noncomputable def Wv:Sp:=ZF
noncomputable def v9:Sp:=λvs H Q _=>∃ (x:V) (s:MS),vs=[x]/\StV H x s/\∀ v H',Same H H'->StV H' v { s with opens:=[] }->Q v H'
def RnV (G:Addr->Prop)(H:Hp)(v:V)(s:MS)(es:List Ev):Prop:=∃ p sa ea,v=.ref p/\H p=some (.tup [sa,.ref ea])/\StV H sa s/\EvL H ea es/\G ea
noncomputable def VY (t:Ads):Sp:=λvs H Q E=>∃ (x:V) (s:MS) (l:Lc),vs=[x,.str (S l)]/\StV H x s/\s.word.length<=8/\s.opens.length+l.length<=100000/\(∀ s' es,runM s l=.ok (s',es)->∀ v H',Same H H'->RnV (λa=>H a=none) H' v s' es->Q v H')/\(∀ b:Nat,runM s l=.error b->∀ d H',Same H H'->H' d=some (.xd [("at",.int b)])->E (.ref t.Unread) (some d) H')
noncomputable def ZH (s:MS):Option Tx:=if s.mode∈[xc,vH,mRow,jK] then some s.mode else if s.mode=kW/\s.talk=vp then some vp else none
noncomputable def plV:Option Tx->V
 | none=>.non
 | some x=>.str (S x)
noncomputable def yq:Sp:=λvs H Q _=>∃ (x:V) (s:MS),vs=[x]/\StV H x s/\∀ H',Same H H'->Q (plV (ZH s)) H'
noncomputable def vy (K:Le):Sp:=λvs H Q _=>∃ (a:Addr) (ns:List Int) (k:Nat),vs=[.ref a,.int k]/\SqL K H a (ns.map V.int)/\ns.length<=63/\k<=100/\∀ v H',Same H H'->Q (.int v) H'
noncomputable def L1 (k:Int):Int:=[1000000007,1181783503,1372345291,1518500279,1636201513,1734723539,1871234567,2012345681].getD (k % 8).toNat 0
noncomputable def L2' (k:Int):Int:=[100000000003,223606797763,314159265359,414213562379,577215664943,693147180563,732050807573].getD (k % 7).toNat 0
theorem at8 (k:Int):atI [V.int 1000000007,V.int 1181783503,V.int 1372345291,V.int 1518500279,V.int 1636201513,V.int 1734723539,V.int 1871234567,V.int 2012345681] (k % 8)=some (V.int (L1 k)):=by
 have:k % 8=0\/k % 8=1\/k % 8=2\/k % 8=3\/k % 8=4\/k % 8=5\/k % 8=6\/k % 8=7:=by lia
 unfold L1;rcases this with e | e | e | e | e | e | e | e<;>rw [e]<;>rfl
theorem at7 (k:Int):atI [V.int 100000000003,V.int 223606797763,V.int 314159265359,V.int 414213562379,V.int 577215664943,V.int 693147180563,V.int 732050807573] (k % 7)=some (V.int (L2' k)):=by
 have:k % 7=0\/k % 7=1\/k % 7=2\/k % 7=3\/k % 7=4\/k % 7=5\/k % 7=6:=by lia
 unfold L2';rcases this with e | e | e | e | e | e | e<;>rw [e]<;>rfl
noncomputable def mixB (c k:Int):Int:=(((c+k * k * k) % 1000000000039+1) * L1 k % 2147483629+1) * L2' k % 999999999989
noncomputable def mixA (c k:Int):Int:=if c % 2=0 then(if 10 ^ Int.toNat 18<c then(if 0<c / 2 ^ (7 * k+8).toNat then c / 2 ^ (7 * k+1).toNat else mixB c k) else mixB c k) else mixB c k
noncomputable def mixM (c k m:Int):Nat:=(mixA c k % m).toNat
theorem ZI {c k m:Int}(h:0<m):(mixM c k m:Int)<m:=by unfold mixM;have:=GC (mixA c k) (by lia:m≠0);have:=Int.emod_lt_of_pos (mixA c k) h;lia
theorem ziX {c k m:Int}(h:0<m):((mixM c k m:Nat):Int)=mixA c k % m:=Int.toNat_of_nonneg (GC _ (by lia))
noncomputable def qi:Sp:=λvs H Q _=>∃ c k m:Int,vs=[.int c,.int k,.int m]/\0<=k/\k<=1000/\0<m/\∀ H',Same H H'->Q (.int ((mixM c k m:Nat):Int)) H'
noncomputable def jm:Sp:=λvs H Q _=>∃ c k:Int,vs=[.int c,.int k]/\0<=k/\k<=100/\∀ H',Same H H'->Q (.int ((mixM c (30+k) 999999999989:Nat):Int)) H'
theorem zcw:∀ l m:List Tx,eqDs (l.map ft) (m.map ft)=true->l=m
 | [],[],_=>rfl
 | [],_::_,h=>by simp [eqDs] at h
 | _::_,[],h=>by simp [eqDs] at h
 | a::l,b::m,h=>by simp only [uu,eqDs,eqD,uG] at h;have h1:(S a == S b)=true:=h.1;rw [zcb] at h1;rw [Gs h1,zcw l m h.2]
theorem za5 {a b:Tx}(h:eqD (ft a) (ft b)=true):a=b:=by have h1:(S a == S b)=true:=h;rw [zcb] at h1;exact Gs h1
theorem ziY {a b:MS}(h:eqD (dS a) (dS b)=true):a=b:=by obtain⟨m,w,o,t⟩:=a;obtain⟨m',w',o',t'⟩:=b;simp only [dS,eqD,eqDs,uG] at h;obtain⟨h1,h2,h3,h4,_⟩:=h;rw [za5 h1,za5 h2,zcw _ _ h3,za5 h4]
inductive Pc where
 | lit (t:Tx)
 | hole (t:Tx)
 | each (n:Tx) (b:List Pc)
 | ife (n:Tx) (a b:List Pc)
 | seat (w n m:Tx) (b:List Pc)
mutual
noncomputable def dP:Pc->Dat
 | .lit t=>.tp [ft [108,105,116],ft t]
 | .hole t=>.tp [ft [104,111,108,101],ft t]
 | .each n b=>.tp [ft [101,97,99,104],ft n,.ls (dPs b)]
 | .ife n a b=>.tp [ft [105,102],ft n,.ls (dPs a),.ls (dPs b)]
 | .seat w n m b=>.tp [ft [115,101,97,116],ft w,ft n,ft m,.ls (dPs b)]
noncomputable def dPs:List Pc->List Dat
 | []=>[]
 | p::ps=>dP p::dPs ps
end
mutual
noncomputable def szP:Pc->Nat
 | .lit _=>1
 | .hole _=>1
 | .each _ b=>1+szPs b
 | .ife _ a b=>1+szPs a+szPs b
 | .seat _ _ _ b=>2+szPs b
noncomputable def szPs:List Pc->Nat
 | []=>0
 | p::ps=>szP p+szPs ps
end
noncomputable def PcF (H:Hp):Pc->List V->Prop
 | .lit t,vs=>vs=[tx [108,105,116],tx t]
 | .hole t,vs=>vs=[tx [104,111,108,101],tx t]
 | .each n b,vs=>∃ w,vs=[tx [101,97,99,104],tx n,w]/\IsDt H (.ls (dPs b)) w
 | .ife n a b,vs=>∃ w u,vs=[tx [105,102],tx n,w,u]/\IsDt H (.ls (dPs a)) w/\IsDt H (.ls (dPs b)) u
 | .seat x n m b,vs=>∃ w,vs=[tx [115,101,97,116],tx x,tx n,tx m,w]/\IsDt H (.ls (dPs b)) w
theorem pcF {H:Hp}{x:Pc}{v:V}(h:IsDt H (dP x) v):∃ p vs,v=.ref p/\H p=some (.tup vs)/\PcF H x vs:=by
 cases x with
 | lit t=>
  obtain⟨p,vs,e,hp,v0,r0,rfl,⟨rfl,_⟩,v1,r1,rfl,⟨rfl,_⟩,rfl⟩:=(by simpa only [dP] using h:IsDt H (.tp [ft [108,105,116],ft t]) v)
  exact⟨p,_,e,hp,rfl⟩
 | hole t=>
  obtain⟨p,vs,e,hp,v0,r0,rfl,⟨rfl,_⟩,v1,r1,rfl,⟨rfl,_⟩,rfl⟩:=(by simpa only [dP] using h:IsDt H (.tp [ft [104,111,108,101],ft t]) v)
  exact⟨p,_,e,hp,rfl⟩
 | each n b=>
  obtain⟨p,vs,e,hp,v0,r0,rfl,⟨rfl,_⟩,v1,r1,rfl,⟨rfl,_⟩,v2,r2,rfl,h2,rfl⟩:=(by simpa only [dP] using h:IsDt H (.tp [ft [101,97,99,104],ft n,.ls (dPs b)]) v)
  exact⟨p,_,e,hp,_,rfl,h2⟩
 | ife n a b=>
  obtain⟨p,vs,e,hp,v0,r0,rfl,⟨rfl,_⟩,v1,r1,rfl,⟨rfl,_⟩,v2,r2,rfl,h2,v3,r3,rfl,h3,rfl⟩:=(by simpa only [dP] using h:IsDt H (.tp [ft [105,102],ft n,.ls (dPs a),.ls (dPs b)]) v)
  exact⟨p,_,e,hp,_,_,rfl,h2,h3⟩
 | seat x n m b=>
  obtain⟨p,vs,e,hp,v0,r0,rfl,⟨rfl,_⟩,v1,r1,rfl,⟨rfl,_⟩,v2,r2,rfl,⟨rfl,_⟩,v3,r3,rfl,⟨rfl,_⟩,v4,r4,rfl,h4,rfl⟩:=(by simpa only [dP] using h:IsDt H (.tp [ft [115,101,97,116],ft x,ft n,ft m,.ls (dPs b)]) v)
  exact⟨p,_,e,hp,_,rfl,h4⟩
def TpS (H1 H2:Hp):Prop:=∀ b ts,H1 b=some (.tup ts)->H2 b=some (.tup ts)
theorem TpS.trans {H1 H2 H3:Hp}(a:TpS H1 H2)(b:TpS H2 H3):TpS H1 H3:=λp ts h=>b _ _ (a _ _ h)
theorem TpS.of {H1 H2:Hp}(g:Same H1 H2):TpS H1 H2:=λb ts h=>g _ _ h
theorem ql {x y:Tx}(h:x≠y):¬ tx x=V.str (S y):=λz=>h (vo.mp (V.str.inj z))
theorem qE:∀ ps:List Pc,(dPs ps).length=ps.length
 | []=>by simp only [dPs,Uw]
 | _::ps=>by simp only [dPs,uq,qE ps]
theorem jZ:∀ a b:List Pc,dPs (a++b)=dPs a++dPs b
 | [],_=>by simp only [dPs,Uk]
 | p::a,b=>by simp only [uH,dPs,jZ a b]
theorem qj:∀ a b:List Pc,szPs (a++b)=szPs a+szPs b
 | [],_=>by simp only [szPs,Uk,Nat.zero_add]
 | p::a,b=>by simp only [uH,szPs,qj a b];omega
theorem wU {H:Hp}{q:Addr}{t:Tx}(h:H q=some (.tup [tx [108,105,116],tx t])):IsDs H (dPs [.lit t]) [.ref q]:=by simp only [dPs,dP];exact⟨_,_,rfl,⟨q,_,rfl,h,wB [[108,105,116],t]⟩,rfl⟩
theorem Ww {H:Hp}{q:Addr}{t:Tx}(h:H q=some (.tup [tx [104,111,108,101],tx t])):IsDs H (dPs [.hole t]) [.ref q]:=by simp only [dPs,dP];exact⟨_,_,rfl,⟨q,_,rfl,h,wB [[104,111,108,101],t]⟩,rfl⟩
theorem VZ {H:Hp}{q fa:Addr}{n:Tx}{b:List Pc}(h:H q=some (.tup [tx [101,97,99,104],tx n,.ref fa]))(hb:IsDt H (.ls (dPs b)) (.ref fa)):IsDs H (dPs [.each n b]) [.ref q]:=by simp only [dPs,dP];exact⟨_,_,rfl,⟨q,_,rfl,h,_,_,rfl,⟨rfl,rfl⟩,_,_,rfl,⟨rfl,rfl⟩,_,_,rfl,hb,rfl⟩,rfl⟩
theorem za6 {H:Hp}{q fa fb:Addr}{n:Tx}{a b:List Pc}(h:H q=some (.tup [tx [105,102],tx n,.ref fa,.ref fb]))(ha:IsDt H (.ls (dPs a)) (.ref fa))(hb:IsDt H (.ls (dPs b)) (.ref fb)):IsDs H (dPs [.ife n a b]) [.ref q]:=by simp only [dPs,dP];exact⟨_,_,rfl,⟨q,_,rfl,h,_,_,rfl,⟨rfl,rfl⟩,_,_,rfl,⟨rfl,rfl⟩,_,_,rfl,ha,_,_,rfl,hb,rfl⟩,rfl⟩
theorem zcx {H:Hp}{q fa:Addr}{w n m:Tx}{b:List Pc}(h:H q=some (.tup [tx [115,101,97,116],tx w,tx n,tx m,.ref fa]))(hb:IsDt H (.ls (dPs b)) (.ref fa)):IsDs H (dPs [.seat w n m b]) [.ref q]:=by simp only [dPs,dP];exact⟨_,_,rfl,⟨q,_,rfl,h,_,_,rfl,⟨rfl,rfl⟩,_,_,rfl,⟨rfl,rfl⟩,_,_,rfl,⟨rfl,rfl⟩,_,_,rfl,⟨rfl,rfl⟩,_,_,rfl,hb,rfl⟩,rfl⟩
theorem KD {s s1 s2:MS}{e1 e2:List Ev}:∀ {a b:Lc},runM s a=.ok (s1,e1)->runM s1 b=.ok (s2,e2)->runM s (a++b)=.ok (s2,e1++e2):=by
 intro a
 induction a generalizing s e1 with
 | nil=>intro b h1 h2;simp only [runM,UY,Uj] at h1;obtain⟨rfl,rfl⟩:=h1;simpa using h2
 | cons c r ih=>
  intro b h1 h2;simp only [runM] at h1;cases hq:yd s c with
  | none=>rw [hq] at h1;cases h1
  | some x=>
   obtain⟨s',es⟩:=x;rw [hq] at h1;simp only at h1;cases hr:runM s' r with
   | error n=>rw [hr] at h1;cases h1
   | ok y=>obtain⟨s'',fs⟩:=y;rw [hr] at h1;simp only [UY,Uj] at h1;obtain⟨rfl,rfl⟩:=h1;have:=ih hr h2;simp only [uH,runM,hq,this,uW]
theorem Xm {s s':MS}{c:Nat}{es:List Ev}(h:yd s c=some (s',es)):runM s [c]=.ok (s',es):=by simp only [runM,h,uw]
theorem zha {s s':MS}{es:List Ev}:∀ {l:Lc},runM s l=.ok (s',es)->s.word.length<=8->s'.word.length<=8/\s'.opens.length<=s.opens.length+l.length/\es.length<=10 * l.length:=by
 intro l
 induction l generalizing s es with
 | nil=>intro h k;simp only [runM,UY,Uj] at h;obtain⟨rfl,rfl⟩:=h;exact⟨k,by simp,by simp⟩
 | cons c r ih=>
  intro h k;simp only [runM] at h;cases hq:yd s c with
  | none=>rw [hq] at h;cases h
  | some x=>
   obtain⟨s1,fs⟩:=x;rw [hq] at h;simp only at h;cases hr:runM s1 r with
   | error n=>rw [hr] at h;cases h
   | ok y=>
    obtain⟨s2,gs⟩:=y;rw [hr] at h;simp only [UY,Uj] at h;obtain⟨rfl,rfl⟩:=h;obtain⟨b1,b2,b3⟩:=zcc s c s1 fs hq k;obtain⟨c1,c2,c3⟩:=ih hr b1;refine⟨c1,?_,?_⟩
    ·rw [uq];lia
    ·rw [ug,uq];lia
theorem none_of {H H':Hp}{p:Addr}(g:Same H H')(h:H' p=none):H p=none:=by
 cases e:H p with
 | none=>rfl
 | some o=>rw [g _ _ e] at h;cases h
theorem KG {H H':Hp}{p:Addr}{o:HO}(hp:H p=none)(g:Same H H'):Same H (upd H' p o):=λb u e=>by rw [zl (zM e hp)];exact g b u e
theorem ZU:∀ (ps:List Pc) (i:Nat) (p:Pc),ps[i]? = some p->(dPs ps)[i]? = some (dP p)
 | q::ps,0,p,h=>by cases h;simp only [dPs];rfl
 | q::ps,i+1,p,h=>by simp only [dPs];exact ZU ps i p (by simpa using h)
noncomputable def dpP:Pc->Nat
 | .lit _=>0
 | .hole _=>0
 | .each _ b=>dpB b+1
 | .ife _ a b=>max (dpB a) (dpB b)+1
 | .seat _ _ _ b=>dpB b+1
where dpB:List Pc->Nat
 | []=>0
 | p::ps=>max (dpP p) (dpB ps)
theorem ziZ (s:MS):Z1 (dS s)=true:=by
 have:∀ l:List Tx,yx (l.map ft)=true:=λl=>by
  induction l with
  | nil=>rfl
  | cons x l ih=>simp only [uu,yx,ih];rfl
 simp only [dS,Z1,yx,this];rfl
theorem dep_S (s:MS):depD (dS s)<=50:=by
 have:∀ l:List Tx,xP (l.map ft)=0:=λl=>by
  induction l with
  | nil=>rfl
  | cons x l ih=>simp only [uu,xP,depD,ih];rfl
 simp only [dS,depD,xP,this];decide
theorem Xn {a b:TS}{D:Ends}{σ:L2.St}{H:Hp}(R:L2.St->Hp->Prop)(hr:∀ σ' H',R σ' H'->b D σ' H')(h:∀ N:L2.St->Hp->Prop,(∀ σ' H',R σ' H'->N σ' H')->a { D with nx:=N } σ H):tSeq a b D σ H:=h (b D) hr
theorem zff {a b c:TS}{D:Ends}{σ:L2.St}{H:Hp}(R:L2.St->Hp->Prop)(hr:∀ σ' H',R σ' H'->c D σ' H')(h:∀ N:L2.St->Hp->Prop,(∀ σ' H',R σ' H'->N σ' H')->tSeq a b { D with nx:=N } σ H):tSeq a (tSeq b c) D σ H:=h (c D) hr
noncomputable def s00:MS:=⟨xc,[],[],[]⟩
noncomputable abbrev Ho:=List (Tx×Tx)
def HoV (H:Hp)(v:V)(h:Tx×Tx):Prop:=∃ a,v=.ref a/\H a=some (.tup [tx h.1,tx h.2])
inductive HoA (H:Hp):List V->Ho->Prop
 | nil:HoA H [] []
 | cons {v:V} {h:Tx×Tx} {vs:List V} {hs:Ho}:HoV H v h->HoA H vs hs->HoA H (v::vs) (h::hs)
theorem HoA.mono {H H':Hp}{vs:List V}{hs:Ho}(h:HoA H vs hs)(g:TpS H H'):HoA H' vs hs:=by
 induction h with
 | nil=>exact .nil
 | cons h _ ih=>obtain⟨a,e,h⟩:=h;exact .cons ⟨a,e,g _ _ h⟩ ih
theorem HoA.app {H:Hp}{vs us:List V}{hs ks:Ho}(h:HoA H vs hs)(k:HoA H us ks):HoA H (vs++us) (hs++ks):=by
 induction h with
 | nil=>exact k
 | cons h _ ih=>exact .cons h ih
theorem HoA.len {H:Hp}{vs:List V}{hs:Ho}(h:HoA H vs hs):vs.length=hs.length:=by
 induction h with
 | nil=>rfl
 | cons _ _ ih=>simp [ih]
def LoV (t:Ads)(H:Hp)(lo ha:Addr):Prop:=∃ dx pa,H lo=some (.ins t.Looking dx [("kept",.non),("holes",.ref ha),("pairs",.ref pa)])
def SpV (t:Ads)(H:Hp)(sp:Addr)(s:MS)(T:Lc)(n:Nat):Prop:=∃ dx sv ta,H sp=some (.ins t.Spot dx [("state",sv),("turns",.ref ta),("many",.int n)])/\StV H sv s/\H ta=some (.lst (T.map λ(t:Nat)=>V.int t))
theorem LoV.mono {t:Ads}{H H':Hp}{lo ha:Addr}(h:LoV t H lo ha)(g:Same H H'):LoV t H' lo ha:=by obtain⟨dx,pa,e⟩:=h;exact⟨dx,pa,g _ _ e⟩
theorem SpV.mono {t:Ads}{H H':Hp}{sp:Addr}{s:MS}{T:Lc}{n:Nat}(h:SpV t H sp s T n)(g:Same H H'):SpV t H' sp s T n:=by obtain⟨dx,sv,ta,e1,e2,e3⟩:=h;exact⟨dx,sv,ta,g _ _ e1,e2.mono g,g _ _ e3⟩
def Gr (ha:Addr)(H H':Hp)(hv hv':List V):Prop:=Same (hide ha H) (hide ha H')/\H' ha=some (.lst (hv++hv'))
noncomputable def qY (t:Ads):Sp:=λvs H Q _=>∃ (a dx:Addr) (sv:V) (ta:Addr) (n:Nat),vs=[.ref a,sv,.ref ta,.int n]/\H a=some (.ins t.Spot dx [])/\Q .non (upd H a (.ins t.Spot dx [("state",sv),("turns",.ref ta),("many",.int n)]))
noncomputable abbrev spO (t:Ads)(dx:Addr)(sv:V)(ta:Addr)(n:Nat):HO:=.ins t.Spot dx [("state",sv),("turns",.ref ta),("many",.int n)]
noncomputable def wj (t:Ads):Sp:=λvs H Q _=>∃ (a dx ta:Addr) (sv0 sv:V) (n:Nat),vs=[.ref a,sv]/\H a=some (spO t dx sv0 ta n)/\∀ r dx' H',Same H H'->H r=none->H' r=some (spO t dx' sv ta (n+1))->Q (.ref r) H'
noncomputable def jD (t:Ads):Sp:=λvs H Q _=>∃ (a dx ta:Addr) (sv0:V) (T:Lc) (n b:Nat),vs=[.ref a,.int b]/\H a=some (spO t dx sv0 ta n)/\H ta=some (.lst (T.map λ(t:Nat)=>V.int t))/\T.length<=100000/\∀ r dx' ta' H',Same H H'->H r=none->H ta' = none->H' r=some (spO t dx' sv0 ta' n)->H' ta' = some (.lst ((T++[b]).map λ(t:Nat)=>V.int t))->Q (.ref r) H'
noncomputable def jx (t:Ads):Sp:=λvs H Q _=>∃ (a dx:Addr) (kv:V),vs=[.ref a,kv]/\H a=some (.ins t.Looking dx [])/\∀ ha pa H',H' a=some (.ins t.Looking dx [("kept",kv),("holes",.ref ha),("pairs",.ref pa)])->(∀ b o,b≠a->H b=some o->H' b=some o)->H' ha=some (.lst [])->H' pa=some (.lst [])->ha≠pa->H ha=none->H pa=none->Q .non H'
instance:DecidableEq MS:=λa b=>decidable_of_iff (a.mode=b.mode/\a.word=b.word/\a.opens=b.opens/\a.talk=b.talk) (by cases a;cases b;simp)
theorem Wx (a b:MS):eqD (dS a) (dS b)=decide (a=b):=by
 by_cases h:a=b
 ·rw [h,Zb (ziZ _)];simp
 ·rw [uC h];exact Gq.mpr λz=>h (ziY z)
structure Spt where
 s:MS
 T:Lc
 n:Nat
inductive Ft where
 | astray (T:Lc) (n b:Nat)
 | noplace (x:Tx) (T:Lc) (n:Nat)
 | unlike (w:List Tx) (T:Lc) (n:Nat) (T':Lc) (n':Nat)
 | left (T:Lc) (n:Nat)
noncomputable abbrev Lr:=Except Ft (Spt×Ho)
noncomputable abbrev flo (s:MS):MS:={ s with opens:=[] }
noncomputable abbrev Xo:Tx:=[115,101,97,116]
mutual
noncomputable def jE:Pc->Spt->Lr
 | .lit t,sp=>match runM sp.s t with
  | .ok r=>.ok (⟨r.1,sp.T,sp.n+1⟩,[])
  | .error b=>.error (.astray sp.T sp.n b)
 | .hole x,sp=>match ZH sp.s with
  | some k=>.ok (⟨sp.s,sp.T,sp.n+1⟩,[(x,k)])
  | none=>.error (.noplace x sp.T sp.n)
 | .each x b,sp=>match zy b ⟨sp.s,sp.T++[1],sp.n⟩ with
  | .error f=>.error f
  | .ok r=>if r.1.s=sp.s then .ok (⟨sp.s,sp.T++[0],sp.n⟩,r.2) else .error (.unlike [[101,97,99,104],x] (sp.T++[0]) sp.n r.1.T r.1.n)
 | .ife x a b,sp=>match zy a ⟨sp.s,sp.T++[0],sp.n⟩ with
  | .error f=>.error f
  | .ok r=>match zy b ⟨sp.s,sp.T++[1],sp.n⟩ with
   | .error f=>.error f
   | .ok r2=>if r.1.s=r2.1.s then .ok (r.1,r.2++r2.2) else .error (.unlike [[105,102],x] r.1.T r.1.n r2.1.T r2.1.n)
 | .seat w x y b,sp=>match zy b ⟨flo sp.s,sp.T,sp.n+1⟩ with
  | .error f=>.error f
  | .ok r=>if r.1.s=flo sp.s then .ok (⟨sp.s,r.1.T,r.1.n+1⟩,r.2) else .error (.unlike [Xo,w,x,y] sp.T (sp.n+1) r.1.T r.1.n)
noncomputable def zy:List Pc->Spt->Lr
 | [],sp=>.ok (sp,[])
 | p::ps,sp=>match jE p sp with
  | .error f=>.error f
  | .ok r=>match zy ps r.1 with
   | .error f=>.error f
   | .ok r2=>.ok (r2.1,r.2++r2.2)
end
noncomputable def jf (ps:List Pc):Except Ft Ho:=match zy ps ⟨s00,[],0⟩ with
 | .error f=>.error f
 | .ok r=>if r.1.s=s00 then .ok r.2 else .error (.left r.1.T r.1.n)
mutual
noncomputable def txP:Pc->Nat
 | .lit t=>t.length
 | .hole _=>0
 | .each _ b=>txPs b
 | .ife _ a b=>txPs a+txPs b
 | .seat _ _ _ b=>txPs b
noncomputable def txPs:List Pc->Nat
 | []=>0
 | p::ps=>txP p+txPs ps
end
def Bd (x:Spt)(e:Spt)(h:Ho)(l z:Nat):Prop:=e.s.word.length<=8/\e.s.opens.length<=x.s.opens.length+l/\e.T.length<=x.T.length+z/\e.n<=x.n+z/\h.length<=z
mutual
theorem zcy:∀ (p:Pc) (x e:Spt) (h:Ho),jE p x=.ok (e,h)->x.s.word.length<=8->Bd x e h (txP p) (szP p)
 | .lit t,x,e,h,q,k=>by
  simp only [jE] at q;split at q
  ·rename_i r hr;obtain⟨s',es⟩:=r;cases q;obtain⟨a,b,_⟩:=zha hr k;exact⟨a,b,by simp only [szP];lia,by simp only [szP];lia,by simp⟩
  ·cases q
 | .hole t,x,e,h,q,k=>by
  simp only [jE] at q;split at q
  ·cases q;exact⟨k,by simp only [txP];lia,by simp only [szP];lia,by simp only [szP];lia,by simp [szP]⟩
  ·cases q
 | .each n b,x,e,h,q,k=>by
  simp only [jE] at q;split at q
  ·cases q
  ·rename_i r hr;split at q
   ·cases q;obtain⟨a1,a2,a3,a4,a5⟩:=wF b _ r.1 r.2 hr k;exact⟨k,by simp only [txP];lia,by simp only [szP,ug,uA];lia,by simp only [szP];lia,by simp only [szP];lia⟩
   ·cases q
 | .ife n a b,x,e,h,q,k=>by
  simp only [jE] at q;split at q
  ·cases q
  ·rename_i r hr;split at q
   ·cases q
   ·rename_i r2 hr2;split at q
    ·cases q;obtain⟨a1,a2,a3,a4,a5⟩:=wF a _ r.1 r.2 hr k;obtain⟨b1,b2,b3,b4,b5⟩:=wF b _ r2.1 r2.2 hr2 k;simp only [ug,uA] at a3 b3;exact⟨a1,by simp only [txP];dsimp only at a2;lia,by simp only [szP];lia,by simp only [szP];dsimp only at a4;lia,by simp only [szP,ug];lia⟩
    ·cases q
 | .seat w m y b,x,e,h,q,k=>by
  simp only [jE] at q;split at q
  ·cases q
  ·rename_i r hr;split at q
   ·cases q;obtain⟨a1,a2,a3,a4,a5⟩:=wF b _ r.1 r.2 hr k;exact⟨k,by simp only [txP];lia,by simp only [szP];dsimp only at a3;lia,by simp only [szP];dsimp only at a4;lia,by simp only [szP];lia⟩
   ·cases q
theorem wF:∀ (ps:List Pc) (x e:Spt) (h:Ho),zy ps x=.ok (e,h)->x.s.word.length<=8->Bd x e h (txPs ps) (szPs ps)
 | [],x,e,h,q,k=>by simp only [zy] at q;cases q;exact⟨k,by omega,by omega,by omega,by simp⟩
 | p::ps,x,e,h,q,k=>by
  simp only [zy] at q;split at q
  ·cases q
  ·rename_i r hr;split at q
   ·cases q
   ·rename_i r2 hr2;cases q;obtain⟨a1,a2,a3,a4,a5⟩:=zcy p _ r.1 r.2 hr k;obtain⟨b1,b2,b3,b4,b5⟩:=wF ps _ r2.1 r2.2 hr2 a1;exact⟨b1,by simp only [txPs];lia,by simp only [szPs];lia,by simp only [szPs];lia,by simp only [szPs,ug];lia⟩
end
theorem xI (p:Pc)(x:Spt):zy [p] x=jE p x:=by
 simp only [zy];split
 ·rename_i f h;exact h.symm
 ·rename_i r h;rw [h];simp
def PlV (H:Hp)(p:Addr)(T:Lc)(n:Nat):Prop:=∃ l,H p=some (.tup [.ref l,.int n])/\H l=some (.lst (T.map λ(t:Nat)=>V.int t))
theorem PlV.mono {H H':Hp}{p:Addr}{T:Lc}{n:Nat}(h:PlV H p T n)(g:Same H H'):PlV H' p T n:=by obtain⟨l,a,b⟩:=h;exact⟨l,g _ _ a,g _ _ b⟩
noncomputable def FtV (t:Ads)(H:Hp)(c:Value)(d:Addr):Ft->Prop
 | .astray T n b=>c=.ref t.Astray/\∃ p,H d=some (.xd [("place",.ref p),("at",.int b)])/\PlV H p T n
 | .noplace x T n=>c=.ref t.NoPlace/\∃ p,H d=some (.xd [("name",tx x),("place",.ref p)])/\PlV H p T n
 | .unlike w T n T' n'=>c=.ref t.Unlike/\∃ a p q,H d=some (.xd [("what",.ref a),("one",.ref p),("other",.ref q)])/\H a=some (.tup (w.map tx))/\PlV H p T n/\PlV H q T' n'
 | .left T n=>c=.ref t.LeftOpen/\∃ p,H d=some (.xd [("place",.ref p)])/\PlV H p T n
theorem FtV.mono {t:Ads}{H H':Hp}{c:Value}{d:Addr}{f:Ft}(h:FtV t H c d f)(g:Same H H'):FtV t H' c d f:=by
 cases f with
 | astray T n b=>obtain⟨e,p,a,b⟩:=h;exact⟨e,p,g _ _ a,b.mono g⟩
 | noplace x T n=>obtain⟨e,p,a,b⟩:=h;exact⟨e,p,g _ _ a,b.mono g⟩
 | unlike w T n T' n'=>obtain⟨e,a,p,q,h1,h2,h3,h4⟩:=h;exact⟨e,a,p,q,g _ _ h1,g _ _ h2,h3.mono g,h4.mono g⟩
 | left T n=>obtain⟨e,p,a,b⟩:=h;exact⟨e,p,g _ _ a,b.mono g⟩
noncomputable def fsA:List V->List (Str×V):=λxs=>(["place","at"]:Lh).zip xs
noncomputable def fsU:List V->List (Str×V):=λxs=>(["what","one","other"]:Lh).zip xs
def payA (xs:List V):Prop:=∃ p n,xs=[p,.int n]/\payT (.int n)
def payU (xs:List V):Prop:=∃ a b c,xs=[a,b,c]
theorem za7 {P:Program}{w:World}{K:Le}{mg:La}{base:Heap}{t:Ads}(T:Txt w K mg t)(D:Ini K t.Astray "Astray.__init__" QF ["self","place","at"]):ErrN P w K mg base "Astray" t.Astray fsA payA:=by obtain⟨fI,fd,oI,i1,i2,i3,F,b⟩:=D.ex;refine⟨T.m_Astray,T.c_Astray,T.k_Astray,fI,fd,oI,_,i1,i2,i3,b,?_⟩;refine F.okN Kz (λvs H Q E h=>by obtain⟨a,xs,rfl,_,⟨p,n,rfl,_⟩,_⟩:=h;rfl) λcdv A outer s H vs Q E h=>?_;obtain⟨a,xs,rfl,ea,⟨p,n,rfl,hp⟩,q⟩:=h;exact⟨_,wz (ZM (QQ (C:=t.Astray) T.m_SealError T.u_SealError T.c_Astray (w4 (pv 0) (w4 (zeq (pv 2)) Jj)))) (wz (QR T.c_Astray T.n_Astray_place (pv 0) (pv 1)) (ZL (Wt T.c_Astray T.n_Astray_at (pv 0) (pv 2)))),W7 ea rfl hp (by decide) q⟩
theorem za8 {P:Program}{w:World}{K:Le}{mg:La}{base:Heap}{t:Ads}(T:Txt w K mg t)(D:Ini K t.Unlike "Unlike.__init__" QH ["self","what","one","other"]):ErrN P w K mg base "Unlike" t.Unlike fsU payU:=by obtain⟨fI,fd,oI,i1,i2,i3,F,b⟩:=D.ex;refine⟨T.m_Unlike,T.c_Unlike,T.k_Unlike,fI,fd,oI,_,i1,i2,i3,b,?_⟩;refine F.okN KA (λvs H Q E h=>by obtain⟨a,xs,rfl,_,⟨p,n,m,rfl⟩,_⟩:=h;rfl) λcdv A outer s H vs Q E h=>?_;obtain⟨a,xs,rfl,ea,⟨p,n,m,rfl⟩,q⟩:=h;exact⟨_,wz (ZM (QQ (C:=t.Unlike) T.m_SealError T.u_SealError T.c_Unlike (w4 (pv 0) (w4 zae Jj)))) (wz (QR T.c_Unlike T.n_Unlike_what (pv 0) (pv 1)) (wz (Wt T.c_Unlike T.n_Unlike_one (pv 0) (pv 2)) (ZL (Wt T.c_Unlike T.n_Unlike_other (pv 0) (pv 3))))),zaG ea (by decide) q⟩
noncomputable def qp (t:Ads):Sp:=λvs H Q _=>∃ (a dx ta:Addr) (sv:V) (n:Nat) (T:Lc),vs=[.ref a]/\H a=some (spO t dx sv ta n)/\H ta=some (.lst (T.map λ(t:Nat)=>V.int t))/\T.length<=100000/\∀ r l H',Same H H'->H l=none->H' r=some (.tup [.ref l,.int n])->H' l=some (.lst (T.map λ(t:Nat)=>V.int t))->Q (.ref r) H'
theorem Pla.mono {H H':Hp}{a:Addr}(h:Pla H a)(g:Same H H'):Pla H' a:=by obtain⟨o,vs,e,r⟩:=h;exact⟨o,vs,g _ _ e,r⟩
theorem yr {H H0:Hp}{ha r l:Addr}{hv:List V}{T:Lc}{n:Nat}(h:H ha=some (.lst hv))(h0:H0 ha=some (.lst hv))(hl:H0 l=none)(e1:H r=some (.tup [.ref l,.int n]))(e2:H l=some (.lst (T.map λ(t:Nat)=>V.int t))):PlV (hide ha H) r T n:=by
 refine⟨l,?_,?_⟩
 ·rw [hide_ne λz=>by rw [z,h] at e1;cases e1];exact e1
 ·rw [hide_ne λz=>by rw [z,h0] at hl;cases hl];exact e2
theorem zcz:∀ {l:Lc} {s:MS} {b:Nat},runM s l=.error b->b<l.length
 | [],s,b,h=>by simp only [runM] at h;cases h
 | c::l,s,b,h=>by
  simp only [runM] at h;split at h
  ·cases h;simp
  ·rename_i r hr;split at h
   ·rename_i n hn;cases h;have:=zcz hn;simp only [uq];lia
   ·cases h
noncomputable def spLk (t:Ads)(one:Bool)(P:List Pc->Prop):Sp:=λvs H Q E=>∃ (lo ha sp:Addr) (pv:V) (ps:List Pc) (x:Spt) (hv:List V),vs=[.ref lo,pv,.ref sp]/\P ps/\LoV t (hide ha H) lo ha/\(if one=true then ∃ p,ps=[p]/\IsDt (hide ha H) (dP p) pv else IsDt (hide ha H) (.ls (dPs ps)) pv)/\SpV t (hide ha H) sp x.s x.T x.n/\H ha=some (.lst hv) /\ (x.s.word.length<=8/\x.s.opens.length+txPs ps<=100000/\hv.length+szPs ps<=100000/\x.T.length+szPs ps<=100000/\x.n+szPs ps<=100000) /\ (∀ e hs,zy ps x=.ok (e,hs)->∀ r hv' H',Gr ha H H' hv hv'->HoA (hide ha H') hv' hs->SpV t (hide ha H') r e.s e.T e.n->Q (.ref r) H') /\ (∀ f,zy ps x=.error f->∀ c d H',Same (hide ha H) (hide ha H')->FtV t (hide ha H') c d f->E c (some d) H')
theorem Gr.same {ha:Addr}{H H':Hp}{hv:List V}(h:H ha=some (.lst hv))(g:Same H H'):Gr ha H H' hv []:=⟨zu g,by rw [uw];exact g _ _ h⟩
theorem Gr.trans {ha:Addr}{H H1 H2:Hp}{hv h1 h2:List V}(a:Gr ha H H1 hv h1)(b:Gr ha H1 H2 (hv++h1) h2):Gr ha H H2 hv (h1++h2):=⟨a.1.trans b.1,by rw [← uW];exact b.2⟩
theorem Gr.cast {ha:Addr}{H H':Hp}{hv h1 h2:List V}(a:Gr ha H H' hv h1)(e:h1=h2):Gr ha H H' hv h2:=e ▸ a
theorem KI {ha:Addr}{H:Hp}{o:HO}:hide ha (upd H ha o)=hide ha H:=by
 funext b;by_cases z:b=ha
 ·rw [z,Wr,Wr]
 ·rw [hide_ne z,hide_ne z,zl z]
theorem qO {ha r:Addr}{H:Hp}{hv:List V}(h:H ha=some (.lst hv))(hr:H r=none):r≠ha:=λz=>by rw [z,h] at hr;cases hr
theorem vz {t:Ads}{H:Hp}{ha r dx ta:Addr}{sv:V}{s:MS}{T:Lc}{n:Nat}(hr:r≠ha)(e:H r=some (spO t dx sv ta n))(hs:StV (hide ha H) sv s)(ht:hide ha H ta=some (.lst (T.map λ(t:Nat)=>V.int t))):SpV t (hide ha H) r s T n:=⟨dx,sv,ta,by rw [hide_ne hr];exact e,hs,ht⟩
theorem za9 {ha:Addr}{H:Hp}{v:V}{s:MS}{xs:List V}(h:H ha=some (.lst xs))(k:StV H v s):StV (hide ha H) v s:=by
 obtain⟨p,o,e,h1,h2⟩:=k;have n1:p≠ha:=λz=>by subst z;rw [h] at h1;cases h1
 have n2:o≠ha:=λz=>by subst z;have h2:H o=_:=h2;rw [h] at h2;cases h2
 exact⟨p,o,e,by rw [hide_ne n1];exact h1,by show hide ha H o=_;rw [hide_ne n2];exact h2⟩
theorem Gr.pre {ha:Addr}{H H1 H2:Hp}{hv h:List V}(b:Gr ha H1 H2 hv h)(g:Same H H1):Gr ha H H2 hv h:=⟨(zu g).trans b.1,b.2⟩
theorem JZ {H:Hp}{v:V}{s:MS}(h:StV H v s):∃ p,v=.ref p:=by obtain⟨p,o,e,_⟩:=h;exact⟨p,e⟩
theorem Jb {α:Type}(a b c:α)(l:List α):atI (a::b::c::l) 2=some c:=by rw [show(2:Int)=((2:Nat):Int) from rfl,WM];rfl
theorem zfg {α:Type}(a b c d:α)(l:List α):atI (a::b::c::d::l) 3=some d:=by rw [show(3:Int)=((3:Nat):Int) from rfl,WM];rfl
theorem zfh {α:Type}(a b c d e:α)(l:List α):atI (a::b::c::d::e::l) 4=some e:=by rw [show(4:Int)=((4:Nat):Int) from rfl,WM];rfl
theorem V0 {t:Ads}{H:Hp}{x dx ta:Addr}{sv:V}{n:Nat}(hx:H x=none)(hd:H dx=none)(o1:HO)(fs:List (Str×V)):Same H (upd (upd (upd H dx o1) x (.ins t.Spot dx fs)) x (spO t dx sv ta n)):=KG hx (KG hx (za hd))
noncomputable def nmP:Pc->Bool
 | .lit _=>true
 | .hole z=>decide (z.length<=1000)
 | .each _ b=>nmB b
 | .ife _ a b=>nmB a&&nmB b
 | .seat _ _ _ b=>nmB b
where nmB:List Pc->Bool
 | []=>true
 | p::ps=>nmP p&&nmB ps
noncomputable def fsN:List V->List (Str×V):=λxs=>(["name","place"]:Lh).zip xs
noncomputable def fsL:List V->List (Str×V):=λxs=>(["place"]:Lh).zip xs
def payN (xs:List V):Prop:=∃ n p,xs=[n,p]/\payT n
def payL (xs:List V):Prop:=∃ p,xs=[p]
theorem KJ {P:Program}{w:World}{K:Le}{mg:La}{base:Heap}{t:Ads}(T:Txt w K mg t)(D:Ini K t.NoPlace "NoPlace.__init__" ZE ["self","name","place"]):ErrN P w K mg base "NoPlace" t.NoPlace fsN payN:=by obtain⟨fI,fd,oI,i1,i2,i3,F,b⟩:=D.ex;refine⟨T.m_NoPlace,T.c_NoPlace,T.k_NoPlace,fI,fd,oI,_,i1,i2,i3,b,?_⟩;refine F.okN VX (λvs H Q E h=>by obtain⟨a,xs,rfl,_,⟨p,n,rfl,_⟩,_⟩:=h;rfl) λcdv A outer s H vs Q E h=>?_;obtain⟨a,xs,rfl,ea,⟨p,n,rfl,hp⟩,q⟩:=h;exact⟨_,wz (ZM (QQ (C:=t.NoPlace) T.m_SealError T.u_SealError T.c_NoPlace (w4 (pv 0) (w4 (zeq (pv 1)) Jj)))) (wz (QR T.c_NoPlace T.n_NoPlace_name (pv 0) (pv 1)) (ZL (Wt T.c_NoPlace T.n_NoPlace_place (pv 0) (pv 2)))),W7 ea rfl hp (by decide) q⟩
theorem zba {K:Le}{C:Addr}{f p:Str}{a:Addr}{v:V}{tx:Str}{H:Hp}{Q:VK}(ea:H a=some (ExN C a))(k:∀ d,H d=none->d≠a->Q .non (upd (upd H a (ExD C d a)) d (.xd [(f,v)]))) :
  tSeq (J4 (tCB (Va C) (jy (tVar 0) (jy (tC (.str tx)) tNil)))) (YU K C (tVar 0) (tVar 1) f) { nx:=λ_ H'=>Q .non H',rt:=Q } (L2.start ["self",p] [.ref a,v]) H:=⟨.ref a,rfl,a,.str tx,rfl,ea,v,rfl,.ref a,rfl,a,rfl,ea,λd h1 h2=>k d h1 h2⟩
theorem V1 {P:Program}{w:World}{K:Le}{mg:La}{base:Heap}{t:Ads}(T:Txt w K mg t)(D:Ini K t.LeftOpen "LeftOpen.__init__" kC ["self","place"]):ErrN P w K mg base "LeftOpen" t.LeftOpen fsL payL:=by obtain⟨fI,fd,oI,i1,i2,i3,F,b⟩:=D.ex;refine⟨T.m_LeftOpen,T.c_LeftOpen,T.k_LeftOpen,fI,fd,oI,_,i1,i2,i3,b,?_⟩;refine F.okN XG (λvs H Q E h=>by obtain⟨a,xs,rfl,_,⟨p,rfl⟩,_⟩:=h;rfl) λcdv A outer s H vs Q E h=>?_;obtain⟨a,xs,rfl,ea,⟨p,rfl⟩,q⟩:=h;exact⟨_,wz (ZM (QQ (C:=t.LeftOpen) T.m_SealError T.u_SealError T.c_LeftOpen (w4 (pv 0) (w4 zae Jj)))) (ZL (QR T.c_LeftOpen T.n_LeftOpen_place (pv 0) (pv 1))),zba ea q⟩
noncomputable def qk (t:Ads):Sp:=spLk t true λps=>∃ x,ps=[.lit x]
noncomputable def qL (t:Ads):Sp:=spLk t true λps=>∃ x,ps=[.hole x]/\x.length<=1000
noncomputable def zx (t:Ads)(d:Nat):Sp:=spLk t false λps=>nmP.nmB ps=true/\dpP.dpB ps<d
noncomputable def jg (t:Ads)(d:Nat):Sp:=spLk t true λps=>nmP.nmB ps=true/\dpP.dpB ps<d
noncomputable def jn (t:Ads)(d:Nat):Sp:=spLk t true λps=>∃ n b,ps=[.each n b]/\nmP.nmB ps=true/\dpP.dpB ps<d
noncomputable def jP (t:Ads)(d:Nat):Sp:=spLk t true λps=>∃ n a b,ps=[.ife n a b]/\nmP.nmB ps=true/\dpP.dpB ps<d
noncomputable def jo (t:Ads)(d:Nat):Sp:=spLk t true λps=>∃ w n m b,ps=[.seat w n m b]/\nmP.nmB ps=true/\dpP.dpB ps<d
noncomputable def ZV:Sp:=λvs H Q _=>∃ (x:V) (s:MS),vs=[x]/\StV H x s/\∀ H',Same H H'->Q (.bl (decide (s=s00))) H'
def LkP (H:Hp)(pv:V)(ps:List Pc):Prop:=IsDt H (.ls (dPs ps)) pv/\nmP.nmB ps=true/\dpP.dpB ps<5/\szPs ps<=10000/\txPs ps<=50000
noncomputable def vA (t:Ads):Sp:=λvs H Q E=>∃ (pv:V) (ps:List Pc),vs=[pv,.non]/\LkP H pv ps/\(∀ hs,jf ps=.ok hs->∀ r ha pa hv H',Same H H'->H' r=some (.tup [.ref ha,.ref pa])->H' ha=some (.lst hv)->HoA H' hv hs->Q (.ref r) H')/\(∀ f,jf ps=.error f->∀ c d H',Same H H'->FtV t H' c d f->E c (some d) H')
noncomputable def Wy (t:Ads):Sp:=λvs H Q E=>∃ (pv:V) (ps:List Pc),vs=[pv]/\LkP H pv ps/\(∀ hs,jf ps=.ok hs->∀ ha hv H',Same H H'->H' ha=some (.lst hv)->HoA H' hv hs->Q (.ref ha) H')/\(∀ f,jf ps=.error f->∀ c d H',Same H H'->FtV t H' c d f->E c (some d) H')
theorem LkP.mono {H H':Hp}{pv:V}{ps:List Pc}(h:LkP H pv ps)(g:Same H H'):LkP H' pv ps:=⟨h.1.mono g,h.2⟩
noncomputable def zfi:Tx:=[116,111,108,100]
noncomputable def dHo (hs:Ho):List Dat:=hs.map λh=>.tp [ft h.1,ft h.2]
noncomputable def plD (T:Lc)(n:Nat):Dat:=.tp [.ls (T.map λ(t:Nat)=>.fl (.int t)),.fl (.int n)]
noncomputable def reD:Except Ft Ho->Dat
 | .ok hs=>.tp [ft zfi,.ls (dHo hs)]
 | .error (.astray T n b)=>.tp [ft [97,115,116,114,97,121],plD T n,.fl (.int b)]
 | .error (.noplace x T n)=>.tp [ft [110,111,112,108,97,99,101],ft x,plD T n]
 | .error (.unlike w T n T' n')=>.tp [ft [117,110,108,105,107,101],.tp (w.map ft),plD T n,plD T' n']
 | .error (.left T n)=>.tp [ft [108,101,102,116],plD T n]
theorem HoA.ds {H:Hp}{vs:List V}{hs:Ho}(h:HoA H vs hs):IsDs H (dHo hs) vs:=by
 induction h with
 | nil=>rfl
 | @cons v h vs hs e _ ih=>obtain⟨a,rfl,e⟩:=e;exact⟨_,_,rfl,⟨a,_,rfl,e,wB [h.1,h.2]⟩,ih⟩
theorem zcA {H:Hp}:∀ T:Lc,IsDs H (T.map λ(t:Nat)=>.fl (.int t)) (T.map λ(t:Nat)=>V.int t)
 | []=>rfl
 | t::T=>⟨_,_,rfl,⟨rfl,rfl⟩,zcA T⟩
theorem PlV.dt {H:Hp}{p:Addr}{T:Lc}{n:Nat}(h:PlV H p T n):IsDt H (plD T n) (.ref p):=by obtain⟨l,a,b⟩:=h;exact⟨p,_,rfl,a,_,_,rfl,⟨l,_,rfl,b,zcA T⟩,_,_,rfl,⟨rfl,rfl⟩,rfl⟩
noncomputable def xO (K:Le)(t:Ads):Sp:=λvs H Q _=>∃ (ea C:Addr) (fs:List (Str×V)),vs=[.ref ea]/\L2.Got K H ea C fs/\(C=t.Astray\/C=t.Unlike\/C=t.NoPlace\/C=t.LeftOpen)/\∀ H',Same H H'->Q (.bl false) H'
noncomputable def wI (K:Le)(t:Ads):Sp:=λvs H Q _=>∃ (ea C d:Addr) (f:Ft),vs=[.ref ea]/\yw H ea C (some d)/\FtV t H (.ref C) d f/\∀ r H',Same H H'->IsDt H' (reD (.error f)) (.ref r)->Q (.ref r) H'
noncomputable def jF:Sp:=λvs H Q _=>∃ (pv:V) (ps:List Pc),vs=[pv]/\LkP H pv ps/\∀ r H',Same H H'->IsDt H' (reD (jf ps)) (.ref r)->Q (.ref r) H'
mutual
noncomputable def eP:Pc->Nat
 | .lit _=>1
 | .hole _=>1
 | .each _ b=>1+eB b
 | .ife _ a b=>eB a+eB b
 | .seat _ _ _ _=>1
noncomputable def eB:List Pc->Nat
 | []=>1
 | p::ps=>eP p * eB ps
end
mutual
noncomputable def fP:Pc->Nat
 | .lit _=>1
 | .hole _=>1
 | .each _ b=>fB b+1
 | .ife _ a b=>fB a+fB b+1
 | .seat _ _ _ b=>fB b+eB b
noncomputable def fB:List Pc->Nat
 | []=>0
 | p::ps=>fP p+eP p * fB ps
end
def SB (s:MS)(n:Nat):Prop:=s.word.length<=8/\s.opens.length<=n
theorem SB.mono {s:MS}{n m:Nat}(h:SB s n)(k:n<=m):SB s m:=⟨h.1,uJ h.2 k⟩
theorem zfj {K:Le}{a:Addr}{xs:List V}{α:Type}{ms:List α}{tt:TT}{σ:L2.St}{H:Hp}{Q:VK}(f:α->Bool)(hl:xs.length<=sizeLine)(hm:xs.length=ms.length) (ha:H a=some (.lst xs)) (ht:∀ (i:Nat) v m,xs[i]? = some v->ms[i]? = some m->∀ H1,Same H H1->∀ R:Bool->Hp->Prop,R (f m) H1->tt (some v::σ) H1 R) (hq:∀ D H2,H D=none->Same H H2->H2 D=some (.lst (((xs.zip ms).filter λz=>f z.2).map λz=>z.1))->Q (.ref D) H2):zar (Itl K a) tt (tVar 0) σ H Q:=by
 intro D hD;refine⟨λi m ys H'=>m=xs.length - i/\i<=xs.length/\ys=((((xs.zip ms).take i).filter λz=>f z.2).map λz=>z.1)/\Same H H'/\H' D=some (.lst ys),⟨xs.length,by simp,UD _,by simp,za hD,zb⟩,?_⟩;rintro i m ys H' ⟨rfl,hi,hy,sm,hDl⟩;refine⟨hDl,?_⟩;have sq:SqL K H' a xs:=SqL.of (sm _ _ ha);by_cases hlt:i<xs.length
 ·refine .inr ⟨⟨xs,xs[i],sq,by simp [hlt]⟩,λv H2 y=>?_⟩;obtain⟨rfl,y⟩:=y;have hc:=y xs sq;have hlm:i<ms.length:=by lia
  have hz:(xs.zip ms)[i]? = some (v,ms[i]):=by rw [List.getElem?_zip_eq_some];exact⟨hc,uo hlm⟩
  have hyl:ys.length<=i:=by rw [hy,uk];refine uJ (List.length_filter_le _ _) ?_;rw [Ui];exact Nat.min_le_left _ _
  have htk:(xs.zip ms).take (i+1)=(xs.zip ms).take i++[(v,ms[i])]:=by rw [UG,hz];rfl
  refine ht i v ms[i] hc (uo hlm) H2 sm _ ?_;cases hf:f ms[i] with
  | true=>
   rw [ud rfl];refine⟨_,rfl,hDl,by lia,xs.length - (i+1),by lia,rfl,hlt,?_,?_,zb⟩
   ·rw [htk,List.filter_append,Uv,← hy];simp [hf]
   ·intro b o e;rw [zl (zM e hD)];exact sm b o e
  | false=>rw [ub (by decide)];refine⟨xs.length - (i+1),by omega,rfl,hlt,?_,sm,hDl⟩;rw [htk,List.filter_append,Uv,← hy];simp [hf]
 ·have e:i=xs.length:=by lia
  subst e;refine .inl ⟨⟨xs,sq,ui _⟩,hq D H' hD sm ?_⟩;rw [hDl,hy,List.take_of_length_le (by rw [List.length_zip];lia)]
theorem J0:∀ {ps:List Pc} {p:Pc},p∈ps->dpP p<=dpP.dpB ps
 | _::_,_,.head _=>by simp only [dpP.dpB];omega
 | _::ps,_,.tail _ h=>by have:=J0 h;simp only [dpP.dpB];omega
inductive StA (H:Hp):List V->List MS->Prop
 | nil:StA H [] []
 | cons {v:V} {s:MS} {vs:List V} {ss:List MS}:StV H v s->StA H vs ss->StA H (v::vs) (s::ss)
theorem StA.mono {H H':Hp}{vs:List V}{ss:List MS}(h:StA H vs ss)(g:Same H H'):StA H' vs ss:=by
 induction h with
 | nil=>exact .nil
 | cons h _ ih=>exact .cons (h.mono g) ih
theorem StA.len {H:Hp}{vs:List V}{ss:List MS}(h:StA H vs ss):vs.length=ss.length:=by
 induction h with
 | nil=>rfl
 | cons _ _ ih=>simp [ih]
theorem StA.app {H:Hp}{vs us:List V}{ss ts:List MS}(h:StA H vs ss)(k:StA H us ts):StA H (vs++us) (ss++ts):=by
 induction h with
 | nil=>exact k
 | cons h _ ih=>exact .cons h ih
theorem StA.get {H:Hp}{vs:List V}{ss:List MS}(h:StA H vs ss):∀ {i:Nat} {v:V},vs[i]? = some v->∃ s,ss[i]? = some s/\StV H v s:=by
 induction h with
 | nil=>intro i v e;simp at e
 | cons h _ ih=>
  intro i v e;cases i with
  | zero=>cases e;exact⟨_,rfl,h⟩
  | succ i=>exact ih (by simpa using e)
theorem StA.ds {H:Hp}{vs:List V}{ss:List MS}(h:StA H vs ss):IsDs H (ss.map dS) vs:=by
 induction h with
 | nil=>rfl
 | cons h _ ih=>exact⟨_,_,rfl,h.dat,ih⟩
theorem Gr.len0 {fa:Addr}{H H':Hp}{fs gs:List V}(g:Gr fa H H' fs gs):H' fa=some (.lst (fs++gs)):=g.2
theorem Gr.put {fa:Addr}{H H1:Hp}{fs gs:List V}{v:V}(g:Gr fa H H1 fs gs):Gr fa H (upd H1 fa (.lst (fs++gs++[v]))) fs (gs++[v]):=⟨by rw [KI];exact g.1,by rw [zb,uW]⟩
theorem Gr.then {fa:Addr}{H H1 H2:Hp}{fs gs:List V}(g:Gr fa H H1 fs gs)(k:Same H1 H2):Gr fa H H2 fs gs:=⟨g.1.trans (zu k),k _ _ g.2⟩
theorem zfk {fa p:Addr}{H H':Hp}{xs ys:List V}(g:Same (hide fa H) (hide fa H'))(h:H fa=some (.lst xs))(h':H' fa=some (.lst ys))(hp:H' p=none):H p=none:=by
 cases e:H p with
 | none=>rfl
 | some o=>
  have hn:p≠fa:=λz=>by rw [z,h'] at hp;cases hp
  have:=zp _ _ (g p o (by rw [hide_ne hn];exact e));rw [hp] at this;cases this
theorem zbb:∀ a b:List Pc,eB (a++b)=eB a * eB b
 | [],b=>by simp [eB]
 | p::a,b=>by simp only [uH,eB,zbb a b,Nat.mul_assoc]
theorem zbc:∀ a b:List Pc,fB (a++b)=fB a+eB a * fB b
 | [],b=>by simp [fB,eB]
 | p::a,b=>by simp only [uH,fB,eB,zbc a b,Nat.mul_add,Nat.mul_assoc,gu]
theorem V2:∀ a b:List Pc,dpP.dpB (a++b)=max (dpP.dpB a) (dpP.dpB b)
 | [],b=>by simp only [Uk,dpP.dpB];omega
 | p::a,b=>by simp only [uH,dpP.dpB,V2 a b];omega
theorem Jc:∀ a b:List Pc,txPs (a++b)=txPs a+txPs b
 | [],b=>by simp [txPs]
 | p::a,b=>by simp only [uH,txPs,Jc a b];omega
theorem Wz:∀ a b:List Pc,nmP.nmB (a++b)=(nmP.nmB a&&nmP.nmB b)
 | [],b=>by simp [nmP.nmB]
 | p::a,b=>by simp only [uH,nmP.nmB,Wz a b,Bool.and_assoc]
noncomputable def lE (e:Nat):Nat:=e * e * e
noncomputable def ie:Nat->Nat
 | 0=>1
 | d+1=>2 * lE (ie d)
noncomputable def iF:Nat->Nat
 | 0=>1
 | d+1=>2 * (iF d * (1+ie d+ie d * ie d)+lE (ie d))+lE (ie d)+1
noncomputable def iS:Nat->Nat
 | 0=>1
 | d+1=>2+2 * (3 * iS d+1)
noncomputable def iX:Nat->Nat
 | 0=>10
 | d+1=>2 * (3 * iX d+10)
structure IB (d:Nat)(p:Pc):Prop where
 dp:dpP p<=d
 nm:nmP p=true
 sz:szP p<=iS d
 tx:txP p<=iX d
 e:eP p<=ie d
 f:fP p<=iF d
noncomputable def pwE (e:Nat):Nat->Nat
 | 0=>1
 | k+1=>pwE e k * e
noncomputable def smE (e:Nat):Nat->Nat
 | 0=>0
 | k+1=>smE e k+pwE e k
structure LB (d k:Nat)(ps:List Pc):Prop where
 dp:dpP.dpB ps<=d
 nm:nmP.nmB ps=true
 sz:szPs ps<=k * iS d
 tx:txPs ps<=k * iX d
 e:eB ps<=pwE (ie d) k
 f:fB ps<=iF d * smE (ie d) k
structure EB (d:Nat)(ps:List Pc):Prop where
 dp:dpP.dpB ps<=d
 nm:nmP.nmB ps=true
 sz:szPs ps<=3 * iS d+1
 tx:txPs ps<=3 * iX d+10
 e:eB ps<=lE (ie d)
 f:fB ps<=iF d * (1+ie d+ie d * ie d)+lE (ie d)
theorem zbd:∀ d,1<=ie d
 | 0=>by simp [ie]
 | d+1=>by
  have h:=zbd d;have h2:1<=lE (ie d):=by unfold lE;exact gp (gp h h) h
  simp only [ie];lia
theorem LB.snoc {d k:Nat}{ps:List Pc}{p:Pc}(h:LB d k ps)(i:IB d p):LB d (k+1) (ps++[p]):=by
 refine⟨by rw [V2];have:=h.dp;have:=i.dp;simp only [dpP.dpB];lia,by rw [Wz,h.nm];simp only [nmP.nmB,i.nm];rfl,?_,?_,?_,?_⟩
 ·have:=h.sz;have:=i.sz;rw [qj,Gz];simp only [szPs];lia
 ·have:=h.tx;have:=i.tx;rw [Jc,Gz];simp only [txPs];lia
 ·rw [zbb];simp only [eB,Nat.mul_one,pwE];exact gp h.e i.e
 ·rw [zbc];simp only [fB,eB,Nat.mul_zero,Nat.add_zero,smE,Nat.mul_add];have h1:=h.f;have h2:eB ps * fP p<=iF d * pwE (ie d) k:=by rw [Nat.mul_comm (iF d)];exact gp h.e i.f
  lia
theorem zcB (e:Nat)(he:1<=e):∀ k,k<=3->pwE e k<=lE e/\smE e k<=1+e+e * e:=by
 intro k hk;have h2:1<=e * e:=gp he he;have h3:e * e<=e * e * e:=hZ _ he;have h4:e<=e * e:=hZ _ he
 match k,hk with
 | 0,_=>simp only [pwE,smE,lE];omega
 | 1,_=>simp only [pwE,smE,lE,Nat.one_mul];omega
 | 2,_=>simp only [pwE,smE,lE,Nat.one_mul];omega
 | 3,_=>simp only [pwE,smE,lE,Nat.one_mul];omega
theorem LB.eb {d k:Nat}{ps:List Pc}(h:LB d k ps)(hk:k<=3):EB d ps:=by
 obtain⟨a,b⟩:=zcB (ie d) (zbd d) k hk;refine⟨h.dp,h.nm,?_,?_,uJ h.e a,?_⟩
 ·have:=h.sz;have:=UH (iS d) hk;lia
 ·have:=h.tx;have:=UH (iX d) hk;lia
 ·have:=h.f;have:=Nat.mul_le_mul_left (iF d) b;lia
noncomputable abbrev Lt (l:Tx):List Pc:=if l=[] then [] else [.lit l]
theorem LB.lt {d k:Nat}{ps:List Pc}(h:LB d k ps)(hk:k<=3){l:Tx}(hl:l.length<=10):EB d (ps++Lt l):=by
 by_cases h0:l=[]
 ·rw [show Lt l=[] from ud h0,uw];exact h.eb hk
 rw [show Lt l=[.lit l] from ub h0];obtain⟨a,b⟩:=zcB (ie d) (zbd d) k hk;refine⟨by rw [V2];have:=h.dp;simp only [dpP.dpB,dpP];lia,by rw [Wz,h.nm];rfl,?_,?_,?_,?_⟩
 ·have:=h.sz;have:=UH (iS d) hk;rw [qj];simp only [szPs,szP];lia
 ·have:=h.tx;have:=UH (iX d) hk;rw [Jc];simp only [txPs,txP];lia
 ·rw [zbb];simp only [eB,eP,Nat.mul_one];exact uJ h.e a
 ·rw [zbc];simp only [fB,eB,eP,fP,Nat.mul_one,Nat.mul_zero,Nat.add_zero];have:=h.f;have:=h.e;have:=Nat.mul_le_mul_left (iF d) b;lia
def StN (H:Hp)(x:V)(n:Nat):Prop:=x=.non\/∃ s,StV H x s/\SB s n
theorem StN.mono {H H':Hp}{x:V}{n:Nat}(h:StN H x n)(g:Same H H'):StN H' x n:=by
 rcases h with h | ⟨s,h,k⟩
 ·exact .inl h
 ·exact .inr ⟨s,h.mono g,k⟩
theorem StN.up {H:Hp}{x:V}{n m:Nat}(h:StN H x n)(k:n<=m):StN H x m:=by
 rcases h with h | ⟨s,h,l⟩
 ·exact .inl h
 ·exact .inr ⟨s,h,l.mono k⟩
noncomputable def nw (H H':Hp):Hp:=λb=>if H b=none then H' b else none
noncomputable def ov (Hs H H':Hp):Hp:=λb=>if H b=none then H' b else Hs b
theorem yW {H H':Hp}:Same (nw H H') H':=λb o h=>by unfold nw at h;split at h;exact h;cases h
theorem zbe {H H':Hp}{b:Addr}(h:H b=none):nw H H' b=H' b:=ud h
theorem xE {H H1 H2:Hp}(g:Same H1 H2):Same (nw H H1) (nw H H2):=λb o h=>by
 unfold nw at h ⊢;split at h
 ·rename_i z;rw [ud z];exact g _ _ h
 ·cases h
def Rm (ra:Addr)(H H':Hp):Prop:=Same (hide ra H) (hide ra H')/\∃ m:Int,H' ra=some (.lst [.int m])
theorem Rm.trans {ra:Addr}{H H1 H2:Hp}(a:Rm ra H H1)(b:Rm ra H1 H2):Rm ra H H2:=⟨a.1.trans b.1,b.2⟩
theorem Rm.same {ra:Addr}{H H':Hp}{m:Int}(h:H ra=some (.lst [.int m]))(g:Same H H'):Rm ra H H':=⟨zu g,m,g _ _ h⟩
theorem Rm.fresh {ra p:Addr}{H H':Hp}{m:Int}(g:Rm ra H H')(h:H ra=some (.lst [.int m]))(hp:H' p=none):H p=none:=by obtain⟨g1,m',h'⟩:=g;exact zfk g1 h h' hp
theorem xu:∀ ps:List Pc,ps.length<=szPs ps
 | []=>by simp
 | p::ps=>by
  have h1:=xu ps;have h2:1<=szP p:=by cases p<;>simp only [szP]<;>lia
  simp only [uq,szPs];lia
noncomputable def J1 (K:Le):Sp:=λvs H Q _=>∃ (a:Addr) (ns:List Int),vs=[.ref a]/\SqL K H a (ns.map V.int)/\ns.length<=63/\∀ H',Q (.bl true) H'
noncomputable abbrev Off:=Lc×Nat
noncomputable def Off.add (a b:Off):Off:=(a.1++b.1,a.2+b.2)
theorem Off.assoc (a b c:Off):(a.add b).add c=a.add (b.add c):=by unfold Off.add;simp [gu]
mutual
noncomputable def j0:Pc->Off
 | .lit _=>([],1)
 | .hole _=>([],1)
 | .each _ _=>([0],0)
 | .ife _ a _=>([0]++(zw a).1,(zw a).2)
 | .seat _ _ _ b=>((zw b).1,2+(zw b).2)
noncomputable def zw:List Pc->Off
 | []=>([],0)
 | p::ps=>(j0 p).add (zw ps)
end
theorem yX (a b:List Pc):zw (a++b)=(zw a).add (zw b):=by
 induction a with
 | nil=>simp [zw,Off.add]
 | cons p a ih=>rw [uH,zw,ih,zw,Off.assoc]
noncomputable def jq (mk:Tx):Pc->Bool
 | .lit t=>hasT mk t
 | .hole x=>decide (x=mk)
 | .each x _=>decide (x=mk)
 | .ife x _ _=>decide (x=mk)
 | .seat _ n _ _=>decide (n=mk)
mutual
noncomputable def jG (mk:Tx):Pc->Option Off
 | .lit t=>if jq mk (.lit t) then some ([],0) else none
 | .hole x=>if jq mk (.hole x) then some ([],0) else none
 | .each x b=>if decide (x=mk) then some ([],0) else(zP mk b).map (Off.add ([1],0))
 | .ife x a b=>if decide (x=mk) then some ([],0) else match zP mk a with
  | some r=>some (Off.add ([0],0) r)
  | none=>(zP mk b).map (Off.add ([1],0))
 | .seat _ n _ b=>if decide (n=mk) then some ([],0) else(zP mk b).map (Off.add ([],1))
noncomputable def zP (mk:Tx):List Pc->Option Off
 | []=>none
 | p::ps=>match jG mk p with
  | some r=>some r
  | none=>(zP mk ps).map (Off.add (j0 p))
end
theorem yY (mk:Tx):∀ (a b:List Pc),zP mk (a++b)=match zP mk a with
  | some r=>some r
  | none=>(zP mk b).map (Off.add (zw a))
 | [],b=>by
  simp only [Uk,zP,zw]
  cases zP mk b with
  | none=>rfl
  | some r=>simp [Off.add]
 | p::a,b=>by
  rw [uH,zP,zP,yY mk a b,zw]
  cases jG mk p with
  | some r=>rfl
  | none=>
   cases zP mk a with
   | some r=>rfl
   | none=>
    cases zP mk b with
    | none=>rfl
    | some r=>simp only [uU,Option.map_none,Off.assoc]
theorem KL {a b:List Pc}{x e:Spt}{h:Ho}(q:zy a x=.ok (e,h)):∀ {f:Ft},zy b e=.error f->zy (a++b) x=.error f:=by
 induction a generalizing x h with
 | nil=>intro f k;simp only [zy] at q;cases q;exact k
 | cons p a ih=>
  intro f k;simp only [zy] at q;rw [uH,zy];split at q
  ·cases q
  ·rename_i r hr;split at q
   ·cases q
   ·rename_i r2 hr2;cases q;rw [ih hr2 k]
theorem V3 {a b:List Pc}{x:Spt}{f:Ft}(q:zy a x=.error f):zy (a++b) x=.error f:=by
 induction a generalizing x with
 | nil=>simp only [zy] at q;cases q
 | cons p a ih=>
  simp only [zy] at q;rw [uH,zy];split at q
  ·exact q
  ·split at q
   ·rename_i e he;rw [ih (he.trans q)]
   ·cases q
noncomputable def zB:Tx:=[116,101,120,116]
noncomputable def xw:Tx:=[100,111,110,101]
noncomputable def litM (kind:Tx):Tx:=if kind=zB then [120,32,121,38,48,53,59] else if kind=xw then [32,99,61,34,121,34] else [122,48]
noncomputable def We:Tx:=[98,97,114,101]
noncomputable def ZW:Tx:=[113,117,111,116,101,100]
noncomputable def kRow:Tx:=[114,111,119]
noncomputable def KN:Tx:=[115,97,105,100]
inductive Kn:Tx->Prop
 | text:Kn zB
 | done:Kn xw
 | bare:Kn We
 | quoted:Kn ZW
 | row:Kn kRow
 | said:Kn KN
noncomputable def sK (kind:Tx)(op:List Tx):MS:=if kind=KN then⟨kW,[],op,vp⟩ else⟨kind,[],op,[]⟩
theorem zfl (kind:Tx)(op:List Tx):(sK kind op).opens=op:=by unfold sK;split<;>rfl
theorem V4 (kind:Tx)(op op':List Tx):{ sK kind op with opens:=op' }=sK kind op':=by unfold sK;split<;>rfl
theorem zhb {kind:Tx}{op:List Tx}(k:Kn kind):∃ es,runM (sK kind op) (litM kind)=.ok (sK kind op,es):=by cases k<;>exact⟨_,rfl⟩
theorem V5 {op:List Tx}{x:Tx}{es:List Ev}(hx:x≠QX):vq (op++[x]) es=qZ xc (op++[x]) (es++[[eIn]]):=by unfold vq;rw [ub (by simp),List.getLast?_concat,ub (by simpa using hx)]
theorem zfm {op:List Tx}:∃ es,runM (sK zB (op++[[98]])) [60,47,98,62]=.ok (sK zB op,es):=by refine⟨_,KD (a:=[60,47,98]) (b:=[62]) (s1:=⟨Vb,[98],op++[[98]],[]⟩) (e2:=[[eOut]]) rfl (Xm ?_)⟩;show QY [98] (op++[[98]]) [] 62=_;unfold QY;rw [ub (by decide),ud ⟨rfl,by rw [List.getLast?_concat]⟩];unfold yc;rw [ub (by simp),List.dropLast_concat];rfl
theorem zi0 {kind:Tx}{op:List Tx}(h:kind=We\/kind=xw):∃ es,runM (sK kind (op++[[98]])) [62]=.ok (sK zB (op++[[98]]),es):=by
 refine⟨[[eIn]],Xm ?_⟩;rcases h with rfl | rfl
 ·show vq (op++[[98]]) []=_;rw [V5 (by decide)];rfl
 ·show vq (op++[[98]]) []=_;rw [V5 (by decide)];rfl
inductive Fw where
 | astray | noplace | ife | each | seat
noncomputable abbrev Vh:Tx:=[100,114,97,119]
noncomputable def badM (mk kind:Tx):Tx:=if kind=zB then [60,47]++mk++[62] else if kind=ZW then [34,61]++mk else if kind=kRow then [41,61]++mk else if kind=KN then [39,61]++mk else [61]++mk
noncomputable def QJ (kind:Tx):Tx:=if kind=zB then [120,60] else if kind=xw then [32,117] else if kind=We then [126] else if kind=ZW then [38] else [92]
noncomputable def kX (kind:Tx):Tx:=if kind=zB then [60,117,62] else if kind=xw then [32,117,58,118] else if kind=We then [32] else if kind=ZW then [34] else if kind=kRow then [41] else [39]
noncomputable def atM (kind:Tx):Nat:=if kind=zB then 4 else if kind=xw\/kind=We then 0 else 1
noncomputable def qP (wd:Fw)(mk kind:Tx):List Pc:=match wd with
 | .astray=>[.lit (badM mk kind)]
 | .noplace=>[.lit (QJ kind),.hole mk,.lit [98]]
 | .ife=>[.ife mk [.lit (kX kind)] []]
 | .each=>[.each mk [.lit (kX kind)]]
 | .seat=>[.seat Vh mk [] [.lit (kX kind)]]
noncomputable def dueF (wd:Fw)(mk:Tx)(at_:Nat)(r:Off):Ft:=match wd with
 | .astray=>.astray r.1 r.2 at_
 | .noplace=>.noplace mk r.1 r.2
 | .ife=>.unlike [[105,102],mk] (r.1++[0]) (r.2+1) (r.1++[1]) r.2
 | .each=>.unlike [[101,97,99,104],mk] (r.1++[0]) r.2 (r.1++[1]) (r.2+1)
 | .seat=>.unlike [Xo,Vh,mk,[]] r.1 (r.2+1) r.1 (r.2+2)
noncomputable def offF (wd:Fw):Off:=match wd with
 | .noplace=>([],1)
 | _=>([],0)
noncomputable abbrev zz:Tx:=[122,122]
noncomputable abbrev yy:Tx:=[121,121]
def Mk (mk:Tx):Prop:=mk=zz\/mk=yy
def OpB (op:List Tx):Prop:=∀ x∈op,x=[98]
theorem KO {s s1:MS}{e1:List Ev}{c:Nat}:∀ {a:Lc},runM s a=.ok (s1,e1)->yd s1 c=none->runM s (a++[c])=.error a.length:=by
 intro a
 induction a generalizing s e1 with
 | nil=>intro h1 h2;simp only [runM,UY,Uj] at h1;obtain⟨rfl,rfl⟩:=h1;simp only [Uk,runM,h2];rfl
 | cons d r ih=>
  intro h1 h2;simp only [runM] at h1;cases hq:yd s d with
  | none=>rw [hq] at h1;cases h1
  | some x=>
   obtain⟨s',es⟩:=x;rw [hq] at h1;simp only at h1;cases hr:runM s' r with
   | error n=>rw [hr] at h1;cases h1
   | ok y=>obtain⟨s'',fs⟩:=y;rw [hr] at h1;simp only [UY,Uj] at h1;obtain⟨rfl,rfl⟩:=h1;simp only [uH,runM,hq,ih hr h2,uq]
theorem zhc {mk kind:Tx}{op:List Tx}(k:Kn kind)(hm:Mk mk)(ho:OpB op):runM (sK kind op) (badM mk kind)=.error (atM kind):=by
 cases k with
 | text=>
  have last:op.getLast?≠some mk:=λh=>by have:=ho mk (List.mem_of_getLast? h);rcases hm with rfl | rfl<;>cases this
  have st:yd ⟨Vb,mk,op,[]⟩ 62=none:=by show QY mk op [] 62=_;unfold QY;rw [ub (by decide),ub λh=>last h.2]
  rcases hm with rfl | rfl
  ·exact KO (a:=[60,47,122,122]) rfl st
  ·exact KO (a:=[60,47,121,121]) rfl st
 | done=>rcases hm with rfl | rfl<;>rfl
 | bare=>rcases hm with rfl | rfl<;>rfl
 | quoted=>rcases hm with rfl | rfl<;>rfl
 | row=>rcases hm with rfl | rfl<;>rfl
 | said=>rcases hm with rfl | rfl<;>rfl
theorem zdD {kind:Tx}{op:List Tx}(k:Kn kind):∃ s es,runM (sK kind op) (QJ kind)=.ok (s,es)/\ZH s=none:=by cases k<;>exact⟨_,_,rfl,rfl⟩
theorem Xp {kind:Tx}{op:List Tx}(k:Kn kind):∃ s es,runM (sK kind op) (kX kind)=.ok (s,es)/\s≠sK kind op:=by
 cases k with
 | text=>
  refine⟨⟨xc,[],op++[[117]],[]⟩,_,KD (a:=[60,117]) (b:=[62]) (s1:=⟨YX,[117],op,[]⟩) (e2:=[[eBox,[117]],[eIn]]) rfl (Xm ?_),?_⟩
  ·show vq (op++[[117]]) [[eBox,[117]]]=_;rw [V5 (by decide)];rfl
  ·intro h;have:=congrArg (λs:MS=>s.opens.length) h;rw [zfl] at this;simp at this
 | _=>exact⟨_,_,rfl,by intro h;cases h⟩
theorem zfn {t:Tx}{x:Spt}{s:MS}{es:List Ev}(e:runM x.s t=.ok (s,es)):zy [.lit t] x=.ok (⟨s,x.T,x.n+1⟩,[]):=by simp only [zy,jE,e];rfl
theorem zdE {wd:Fw}{mk kind:Tx}{op:List Tx}{T:Lc}{n:Nat}(k:Kn kind)(hm:Mk mk)(ho:OpB op):zy (qP wd mk kind) ⟨sK kind op,T,n⟩=.error (dueF wd mk (atM kind) (Off.add (T,n) (offF wd))):=by
 cases wd with
 | astray=>simp only [qP,zy,jE,zhc k hm ho];simp [dueF,offF,Off.add]
 | noplace=>obtain⟨s,es,e,p⟩:=zdD (op:=op) k;simp only [qP,zy,jE,e,p];simp [dueF,offF,Off.add]
 | ife=>obtain⟨s,es,e,p⟩:=Xp (op:=op) k;show zy [.ife mk [.lit (kX kind)] []] _=_;simp only [zy,jE,e];rw [ub p];simp [dueF,offF,Off.add]
 | each=>obtain⟨s,es,e,p⟩:=Xp (op:=op) k;show zy [.each mk [.lit (kX kind)]] _=_;simp only [zy,jE,e];rw [ub p];simp [dueF,offF,Off.add]
 | seat=>obtain⟨s,es,e,p⟩:=Xp (op:=[]) k;have f:flo (sK kind op)=sK kind []:=V4 kind op [];show zy [.seat Vh mk [] [.lit (kX kind)]] _=_;simp only [zy,jE,f,e];rw [ub p];simp [dueF,offF,Off.add]
theorem zbf {wd:Fw}{mk kind:Tx}(k:Kn kind)(hm:Mk mk):zP mk (qP wd mk kind)=some (offF wd):=by
 have h1:hasT mk (badM mk kind)=true:=by cases k<;>rcases hm with rfl | rfl<;>decide
 have h2:hasT mk (QJ kind)=false:=by cases k<;>rcases hm with rfl | rfl<;>decide
 cases wd<;>simp [qP,zP,jG,jq,h1,h2,offF,Off.add,j0]
mutual
noncomputable def xx (mk:Tx):Pc->Option Tx
 | .lit t=>if hasT mk t then some t else none
 | .hole _=>none
 | .each _ b=>qM mk b
 | .ife _ a b=>match qM mk a with
  | some t=>some t
  | none=>qM mk b
 | .seat _ _ _ b=>qM mk b
noncomputable def qM (mk:Tx):List Pc->Option Tx
 | []=>none
 | p::ps=>match xx mk p with
  | some t=>some t
  | none=>qM mk ps
end
theorem yZ (mk:Tx):∀ (a b:List Pc),qM mk (a++b)=match qM mk a with
  | some t=>some t
  | none=>qM mk b
 | [],b=>rfl
 | p::a,b=>by
  rw [uH,qM,qM,yZ mk a b]
  cases xx mk p with
  | some t=>rfl
  | none=>rfl
mutual
noncomputable def jd (ms:List Tx):Pc->Option Tx
 | .lit t=>ms.find? λm=>jq m (.lit t)
 | .hole x=>ms.find? λm=>jq m (.hole x)
 | .each x b=>match ms.find? λm=>decide (x=m) with
  | some m=>some m
  | none=>zF ms b
 | .ife x a b=>match ms.find? λm=>decide (x=m) with
  | some m=>some m
  | none=>match zF ms a with
   | some m=>some m
   | none=>zF ms b
 | .seat _ n _ b=>match ms.find? λm=>decide (n=m) with
  | some m=>some m
  | none=>zF ms b
noncomputable def zF (ms:List Tx):List Pc->Option Tx
 | []=>none
 | p::ps=>match jd ms p with
  | some m=>some m
  | none=>zF ms ps
end
theorem vF (ms:List Tx):∀ (a b:List Pc),zF ms (a++b)=match zF ms a with
  | some t=>some t
  | none=>zF ms b
 | [],b=>rfl
 | p::a,b=>by
  rw [uH,zF,zF,vF ms a b]
  cases jd ms p with
  | some t=>rfl
  | none=>rfl
def Ms (ms:List Tx):Prop:=∀ m∈ms,Mk m
structure OkT (d:Nat)(kd:Tx)(o:List Tx)(kd':Tx)(o':List Tx)(ps:List Pc):Prop where
 look:∀ op T n,OpB op->op.length+d<=1000->∃ hs,zy ps ⟨sK kd (op++o),T,n⟩=.ok (⟨sK kd' (op++o'),T++(zw ps).1,n+(zw ps).2⟩,hs)
 path:∀ mk,Mk mk->zP mk ps=none
 text:∀ mk,Mk mk->qM mk ps=none
 first:∀ ms,Ms ms->zF ms ps=none
structure BadT (d:Nat)(kd:Tx)(o:List Tx)(ps:List Pc)(wd:Fw)(mk kk:Tx)(r:Off):Prop where
 look:∀ op T n,OpB op->op.length+d<=1000->zy ps ⟨sK kd (op++o),T,n⟩=.error (dueF wd mk (atM kk) (Off.add (T,n) r))
 path:zP mk ps=some r
 text:wd=.astray->qM mk ps=some (badM mk kk)
 first:∀ ms,Ms ms->mk∈ms->zF ms ps=some mk
abbrev OkP (d:Nat)(kd:Tx)(ps:List Pc):Prop:=OkT d kd [] kd [] ps
abbrev BadP (d:Nat)(kd:Tx)(ps:List Pc)(wd:Fw)(mk kk:Tx)(r:Off):Prop:=BadT d kd [] ps wd mk kk r
theorem OkT.nil {d:Nat}{kd:Tx}{o:List Tx}:OkT d kd o kd o []:=⟨λop T n _ _=>⟨[],by simp [zy,zw]⟩,λ_ _=>rfl,λ_ _=>rfl,λ_ _=>rfl⟩
theorem Vi {a b:List Pc}{x e e2:Spt}{h h2:Ho}(q:zy a x=.ok (e,h))(k:zy b e=.ok (e2,h2)):zy (a++b) x=.ok (e2,h++h2):=by
 induction a generalizing x h with
 | nil=>simp only [zy] at q;cases q;exact k
 | cons p a ih=>
  simp only [zy] at q;rw [uH,zy];split at q
  ·cases q
  ·rename_i r hr;split at q
   ·cases q
   ·rename_i r2 hr2;cases q;rw [ih hr2];simp only [uW]
section
variable {d:Nat} {kd kd' kd2:Tx} {o o' o2:List Tx} {a b:List Pc} {wd:Fw} {mk kk:Tx} {r:Off}
theorem OkT.app (h:OkT d kd o kd' o' a)(k:OkT d kd' o' kd2 o2 b):OkT d kd o kd2 o2 (a++b):=by
 refine⟨λop T n ho hd=>?_,λmk hm=>?_,λmk hm=>?_,λms hm=>?_⟩
 ·obtain⟨h1,e1⟩:=h.look op T n ho hd;obtain⟨h2,e2⟩:=k.look op (T++(zw a).1) (n+(zw a).2) ho hd;refine⟨h1++h2,?_⟩;rw [Vi e1 e2,yX];simp [Off.add,gu]
 ·rw [yY,h.path mk hm,k.path mk hm];rfl
 ·rw [yZ,h.text mk hm,k.text mk hm]
 ·rw [vF,h.first ms hm,k.first ms hm]
theorem OkT.bad (h:OkT d kd o kd' o' a)(hm:Mk mk)(k:BadT d kd' o' b wd mk kk r):BadT d kd o (a++b) wd mk kk (Off.add (zw a) r):=by
 refine⟨λop T n ho hd=>?_,?_,λe=>?_,λms hs hi=>?_⟩
 ·obtain⟨h1,e1⟩:=h.look op T n ho hd;rw [KL e1 (k.look op _ _ ho hd),← Off.assoc];rfl
 ·rw [yY,h.path mk hm,k.path];rfl
 ·rw [yZ,h.text mk hm,k.text e]
 ·rw [vF,h.first ms hs,k.first ms hs hi]
theorem BadT.app (h:BadT d kd o a wd mk kk r):BadT d kd o (a++b) wd mk kk r:=by
 refine⟨λop T n ho hd=>V3 (h.look op T n ho hd),?_,λe=>?_,λms hs hi=>?_⟩
 ·rw [yY,h.path]
 ·rw [yZ,h.text e]
 ·rw [vF,h.first ms hs hi]
theorem OpB.app {op:List Tx}(h:OpB op)(k:OpB o):OpB (op++o):=λx hx=>(Ud.mp hx).elim (h x) (k x)
theorem OkT.inn (h:OkP d kd a)(ho:OpB o)(hl:o.length<=1):OkT (d+1) kd o kd o a:=by refine⟨λop T n hop hd=>?_,h.path,h.text,h.first⟩;have:=h.look (op++o) T n (hop.app ho) (by rw [ug];lia);rwa [uw] at this
theorem BadT.inn (h:BadP d kd a wd mk kk r)(ho:OpB o)(hl:o.length<=1):BadT (d+1) kd o a wd mk kk r:=by refine⟨λop T n hop hd=>?_,h.path,h.text,h.first⟩;have:=h.look (op++o) T n (hop.app ho) (by rw [ug];lia);rwa [uw] at this
theorem OkT.mono (h:OkT d kd o kd' o' a){e:Nat}(hd:d<=e):OkT e kd o kd' o' a:=⟨λop T n h1 h2=>h.look op T n h1 (by lia),h.path,h.text,h.first⟩
theorem BadT.mono (h:BadT d kd o a wd mk kk r){e:Nat}(hd:d<=e):BadT e kd o a wd mk kk r:=⟨λop T n h1 h2=>h.look op T n h1 (by lia),h.path,h.text,h.first⟩
theorem find_none {p:Tx->Bool}{ms:List Tx}(h:∀ m∈ms,p m=false):ms.find? p=none:=by rw [List.find?_eq_none];intro m hm;rw [h m hm];decide
theorem KP {p:Tx->Bool}{ms:List Tx}{mk:Tx}(hi:mk∈ms)(h1:p mk=true)(h:∀ m∈ms,p m=true->m=mk):ms.find? p=some mk:=by
 cases e:ms.find? p with
 | none=>exact absurd h1 (by have:=List.find?_eq_none.mp e mk hi;simpa using this)
 | some m=>rw [h m (List.mem_of_find?_eq_some e) (List.find?_some e)]
theorem ya {t:Tx}(h:∀ op,OpB op->∃ es,runM (sK kd (op++o)) t=.ok (sK kd' (op++o'),es))(hu:∀ mk,Mk mk->hasT mk t=false):OkT d kd o kd' o' [.lit t]:=by
 refine⟨λop T n ho _=>?_,λmk hm=>?_,λmk hm=>?_,λms hs=>?_⟩
 ·obtain⟨es,e⟩:=h op ho;exact⟨[],by rw [zfn e];simp [zw,j0,Off.add]⟩
 ·simp [zP,jG,jq,hu mk hm]
 ·simp [qM,xx,hu mk hm]
 ·simp only [zF,jd,jq];rw [find_none λm hm=>hu m (hs m hm)]
theorem zhd {x:Tx}(h:∀ op,∃ k,ZH (sK kd (op++o))=some k)(hx:¬ Mk x):OkT d kd o kd o [.hole x]:=by
 have ne:∀ {mk:Tx},Mk mk->x≠mk:=λhm e=>hx (e ▸ hm);refine⟨λop T n ho _=>?_,λmk hm=>?_,λmk hm=>?_,λms hs=>?_⟩
 ·obtain⟨k,e⟩:=h op;exact⟨[(x,k)],by simp [zy,jE,e,zw,j0,Off.add]⟩
 ·simp [zP,jG,jq,ne hm]
 ·rfl
 ·simp only [zF,jd,jq];rw [find_none λm hm=>uC (ne (hs m hm))]
theorem zhe {x:Tx}(h:OkT d kd o kd o a)(hx:¬ Mk x):OkT d kd o kd o [.each x a]:=by
 have ne:∀ {mk:Tx},Mk mk->x≠mk:=λhm e=>hx (e ▸ hm);refine⟨λop T n ho hd=>?_,λmk hm=>?_,λmk hm=>?_,λms hs=>?_⟩
 ·obtain⟨hs,e⟩:=h.look op (T++[1]) n ho hd;exact⟨hs,by simp [zy,jE,e,zw,j0,Off.add]⟩
 ·simp [zP,jG,ne hm,h.path mk hm]
 ·simp [qM,xx,h.text mk hm]
 ·simp only [zF,jd];rw [find_none λm hm=>uC (ne (hs m hm)),h.first ms hs]
theorem zfo {x:Tx}(h:BadT d kd o a wd mk kk r)(hm:Mk mk)(hx:¬ Mk x):BadT d kd o [.each x a] wd mk kk (Off.add ([1],0) r):=by
 have ne:∀ {mk:Tx},Mk mk->x≠mk:=λhm e=>hx (e ▸ hm);refine⟨λop T n ho hd=>?_,?_,λe=>?_,λms hs hi=>?_⟩
 ·have e:=h.look op (T++[1]) n ho hd;simp only [zy,jE,e];simp [Off.add]
 ·simp [zP,jG,ne hm,h.path]
 ·simp [qM,xx,h.text e]
 ·simp only [zF,jd];rw [find_none λm hm=>uC (ne (hs m hm)),h.first ms hs hi]
theorem zi1 {x:Tx}(h:OkT d kd o kd' o' a)(k:OkT d kd o kd' o' b)(hx:¬ Mk x):OkT d kd o kd' o' [.ife x a b]:=by
 have ne:∀ {mk:Tx},Mk mk->x≠mk:=λhm e=>hx (e ▸ hm);refine⟨λop T n ho hd=>?_,λmk hm=>?_,λmk hm=>?_,λms hs=>?_⟩
 ·obtain⟨h1,e1⟩:=h.look op (T++[0]) n ho hd;obtain⟨h2,e2⟩:=k.look op (T++[1]) n ho hd;exact⟨h1++h2,by simp [zy,jE,e1,e2,zw,j0,Off.add]⟩
 ·simp [zP,jG,ne hm,h.path mk hm,k.path mk hm]
 ·simp [qM,xx,h.text mk hm,k.text mk hm]
 ·simp only [zF,jd];rw [find_none λm hm=>uC (ne (hs m hm)),h.first ms hs,k.first ms hs]
theorem zhf {x:Tx}(h:BadT d kd o a wd mk kk r)(hm:Mk mk)(hx:¬ Mk x):BadT d kd o [.ife x a b] wd mk kk (Off.add ([0],0) r):=by
 have ne:∀ {mk:Tx},Mk mk->x≠mk:=λhm e=>hx (e ▸ hm);refine⟨λop T n ho hd=>?_,?_,λe=>?_,λms hs hi=>?_⟩
 ·have e:=h.look op (T++[0]) n ho hd;simp only [zy,jE,e];simp [Off.add]
 ·simp [zP,jG,ne hm,h.path]
 ·simp [qM,xx,h.text e]
 ·simp only [zF,jd];rw [find_none λm hm=>uC (ne (hs m hm)),h.first ms hs hi]
theorem zhg {x:Tx}(k:OkT d kd o kd' o' a)(h:BadT d kd o b wd mk kk r)(hm:Mk mk)(hx:¬ Mk x):BadT d kd o [.ife x a b] wd mk kk (Off.add ([1],0) r):=by
 have ne:∀ {mk:Tx},Mk mk->x≠mk:=λhm e=>hx (e ▸ hm);refine⟨λop T n ho hd=>?_,?_,λe=>?_,λms hs hi=>?_⟩
 ·obtain⟨h1,e1⟩:=k.look op (T++[0]) n ho hd;have e:=h.look op (T++[1]) n ho hd;simp only [zy,jE,e1,e];simp [Off.add]
 ·simp [zP,jG,ne hm,k.path mk hm,h.path]
 ·simp [qM,xx,k.text mk hm,h.text e]
 ·simp only [zF,jd];rw [find_none λm hm=>uC (ne (hs m hm)),k.first ms hs,h.first ms hs hi]
theorem zhh {w x y:Tx}(h:OkP d kd a)(hx:¬ Mk x)(hd0:d<=1000):OkT d kd o kd o [.seat w x y a]:=by
 have ne:∀ {mk:Tx},Mk mk->x≠mk:=λhm e=>hx (e ▸ hm);refine⟨λop T n ho hd=>?_,λmk hm=>?_,λmk hm=>?_,λms hs=>?_⟩
 ·have f:flo (sK kd (op++o))=sK kd ([]++[]):=V4 kd (op++o) [];obtain⟨hs,e⟩:=h.look [] T (n+1) nofun (by simpa using hd0);refine⟨hs,?_⟩;simp only [zy,jE,f,e];simp [zw,j0,Off.add];lia
 ·simp [zP,jG,ne hm,h.path mk hm]
 ·simp [qM,xx,h.text mk hm]
 ·simp only [zF,jd];rw [find_none λm hm=>uC (ne (hs m hm)),h.first ms hs]
theorem zfp {w x y:Tx}(h:BadP d kd a wd mk kk r)(hm:Mk mk)(hx:¬ Mk x)(hd0:d<=1000):BadT d kd o [.seat w x y a] wd mk kk (Off.add ([],1) r):=by
 have ne:∀ {mk:Tx},Mk mk->x≠mk:=λhm e=>hx (e ▸ hm);refine⟨λop T n ho hd=>?_,?_,λe=>?_,λms hs hi=>?_⟩
 ·have f:flo (sK kd (op++o))=sK kd ([]++[]):=V4 kd (op++o) [];have e:=h.look [] T (n+1) nofun (by simpa using hd0);simp only [zy,jE,f,e];simp [Off.add,gu]
 ·simp [zP,jG,ne hm,h.path]
 ·simp [qM,xx,h.text e]
 ·simp only [zF,jd];rw [find_none λm hm=>uC (ne (hs m hm)),h.first ms hs hi]
end
section
variable {d:Nat} {kd kd':Tx} {a b c:List Pc} {wd:Fw} {mk kk:Tx} {r:Off}
theorem Vj (k:Kn kd)(hm:Mk mk):BadP d kd (qP wd mk kd) wd mk kd (offF wd):=by
 refine⟨λop T n ho _=>by rw [uw];exact zdE k hm ho,zbf k hm,λe=>?_,λms hs hi=>?_⟩
 ·subst e;have h1:hasT mk (badM mk kd)=true:=by cases k<;>rcases hm with rfl | rfl<;>decide
  simp [qP,qM,xx,h1]
 ·have h1:∀ m∈ms,hasT m (badM mk kd)=true->m=mk:=λm hi e=>by
   have:=hs m hi
   cases k<;>rcases hm with rfl | rfl<;>rcases this with rfl | rfl<;>first | rfl | (revert e;decide)
  have h0:hasT mk (badM mk kd)=true:=by cases k<;>rcases hm with rfl | rfl<;>decide
  have h2:∀ m∈ms,hasT m (QJ kd)=false:=λm hi=>by
   have:=hs m hi
   cases k<;>rcases this with rfl | rfl<;>decide
  have eq1:∀ {p:Tx->Bool},(∀ m,p m=decide (mk=m))->ms.find? p=some mk:=λ{p} hp=>KP hi (by rw [hp];simp) λm _ e=>by rw [hp] at e;exact(Gs e).symm
  cases wd with
  | astray=>
   simp only [qP,zF,jd,jq]
   rw [KP hi h0 h1]
  | noplace=>
   simp only [qP,zF,jd,jq]
   rw [find_none h2]
   simp only []
   rw [eq1 λm=>rfl]
  | ife=>simp only [qP,zF,jd,jq];rw [eq1 λm=>rfl]
  | each=>simp only [qP,zF,jd,jq];rw [eq1 λm=>rfl]
  | seat=>simp only [qP,zF,jd,jq];rw [eq1 λm=>rfl]
theorem zfq (k:Kn kd):OkP d kd [.lit (litM kd)]:=
 ya (λop _=>by rw [uw];exact zhb k) λmk hm=>by cases k<;>rcases hm with rfl | rfl<;>decide
theorem zfr {x:Tx}(k:Kn kd)(h:kd≠xw)(hx:¬ Mk x):OkP d kd [.hole x]:=
 zhd (λop=>by cases k<;>first | exact⟨_,rfl⟩ | exact absurd rfl h) hx
theorem zhi {m:Nat}(hm:m=0\/m=1\/m=2):∃ kd',kd' = [ZW,kRow,KN].getD m []/\Kn kd'/\(∀ d,OkT d xw [] kd' [] [.lit ([[32,113,61,34],[32,114,40,121,44],[32,116,33,34,119,32,39]].getD m [])])/\∀ d,OkT d kd' [] xw [] [.lit ([[34],[41],[39,34]].getD m [])]:=by
 rcases hm with rfl | rfl | rfl
 ·exact⟨_,rfl,.quoted,λd=>ya (λop _=>⟨_,rfl⟩) λmk hm=>by rcases hm with rfl | rfl<;>decide,λd=>ya (λop _=>⟨_,rfl⟩) λmk hm=>by rcases hm with rfl | rfl<;>decide⟩
 ·exact⟨_,rfl,.row,λd=>ya (λop _=>⟨_,rfl⟩) λmk hm=>by rcases hm with rfl | rfl<;>decide,λd=>ya (λop _=>⟨_,rfl⟩) λmk hm=>by rcases hm with rfl | rfl<;>decide⟩
 ·exact⟨_,rfl,.said,λd=>ya (λop _=>⟨_,rfl⟩) λmk hm=>by rcases hm with rfl | rfl<;>decide,λd=>ya (λop _=>⟨_,rfl⟩) λmk hm=>by rcases hm with rfl | rfl<;>decide⟩
inductive Res1 (d:Nat)(kd:Tx)(o:List Tx)(kd':Tx)(o':List Tx)(ps:List Pc):Option (Fw×Tx)->Prop where
 | ok:OkT d kd o kd' o' ps->Res1 d kd o kd' o' ps none
 | bad {wd:Fw} {mk kk:Tx} {r:Off}:Mk mk->BadT d kd o ps wd mk kk r->Kn kk->Res1 d kd o kd' o' ps (some (wd,mk))
theorem Res1.app {o o' o2:List Tx}{kd2:Tx}{x y:Option (Fw×Tx)}(h:Res1 d kd o kd' o' a x)(k:Res1 d kd' o' kd2 o2 b y):Res1 d kd o kd2 o2 (a++b) (x <|> y):=by
 cases h with
 | bad h1 h2 h3=>exact .bad h1 h2.app h3
 | ok h=>
  cases k with
  | ok k=>exact .ok (h.app k)
  | bad k1 k2 k3=>exact .bad k1 (h.bad k1 k2) k3
theorem Res1.okl {o o' o2:List Tx}{kd2:Tx}{y:Option (Fw×Tx)}(h:OkT d kd o kd' o' a)(k:Res1 d kd' o' kd2 o2 b y):Res1 d kd o kd2 o2 (a++b) y:=by have:=Res1.app (.ok h) k;cases y<;>exact this
theorem Res1.okr {o o' o2:List Tx}{kd2:Tx}{x:Option (Fw×Tx)}(h:Res1 d kd o kd' o' a x)(k:OkT d kd' o' kd2 o2 b):Res1 d kd o kd2 o2 (a++b) x:=by have:=Res1.app h (.ok k);cases x<;>exact this
theorem Res1.inn {o:List Tx}{x:Option (Fw×Tx)}(h:Res1 d kd [] kd [] a x)(ho:OpB o)(hl:o.length<=1):Res1 (d+1) kd o kd o a x:=by
 cases h with
 | ok h=>exact .ok (h.inn ho hl)
 | bad h1 h2 h3=>exact .bad h1 (h2.inn ho hl) h3
theorem Res1.mono {o o':List Tx}{x:Option (Fw×Tx)}(h:Res1 d kd o kd' o' a x){e:Nat}(hd:d<=e):Res1 e kd o kd' o' a x:=by
 cases h with
 | ok h=>exact .ok (h.mono hd)
 | bad h1 h2 h3=>exact .bad h1 (h2.mono hd) h3
theorem zfs {x:Tx}{y:Option (Fw×Tx)}(h:Res1 d kd [] kd [] a y)(hx:¬ Mk x):Res1 d kd [] kd [] [.each x a] y:=by
 cases h with
 | ok h=>exact .ok (zhe h hx)
 | bad h1 h2 h3=>exact .bad h1 (zfo h2 h1 hx) h3
theorem zhj {x:Tx}{y z:Option (Fw×Tx)}(h:Res1 d kd [] kd [] a y)(k:Res1 d kd [] kd [] b z)(hx:¬ Mk x):Res1 d kd [] kd [] [.ife x a b] (y <|> z):=by
 cases h with
 | bad h1 h2 h3=>exact .bad h1 (zhf h2 h1 hx) h3
 | ok h=>
  cases k with
  | ok k=>exact .ok (zi1 h k hx)
  | bad k1 k2 k3=>exact .bad k1 (zhg h k2 k1 hx) k3
theorem zft {w x y:Tx}{z:Option (Fw×Tx)}(h:Res1 d kd [] kd [] a z)(hx:¬ Mk x)(hd:d<=1000):Res1 d kd [] kd [] [.seat w x y a] z:=by
 cases h with
 | ok h=>exact .ok (zhh h hx hd)
 | bad h1 h2 h3=>exact .bad h1 (zfp h2 h1 hx hd) h3
end
section
variable {d:Nat} {kd kd':Tx} {a b c:List Pc} {wd:Fw} {mk kk:Tx} {r:Off}
theorem zfu:OkT d zB [] We [[98]] [.lit [60,98,32,119,58]]:=by
 refine ya (λop _=>?_) λmk hm=>by rcases hm with rfl | rfl<;>decide
 rw [uw];exact⟨_,rfl⟩
theorem zfv:OkT d zB [] xw [[98]] [.lit [60,98,32,97,61,34,120,34]]:=by
 refine ya (λop _=>?_) λmk hm=>by rcases hm with rfl | rfl<;>decide
 rw [uw];exact⟨_,rfl⟩
theorem zkI {kd:Tx}(h:kd=We\/kd=xw):OkT d kd [[98]] zB [[98]] [.lit [62]]:=
 ya (λop _=>zi0 h) λmk hm=>by rcases hm with rfl | rfl<;>decide
theorem zhk:OkT d zB [[98]] zB [] [.lit [60,47,98,62]]:=by
 refine ya (λop _=>?_) λmk hm=>by rcases hm with rfl | rfl<;>decide
 rw [uw];exact zfm
theorem op_b:OpB [[98]]:=λx h=>by simpa using h
theorem zcC {m:Nat}{y z:Option (Fw×Tx)}(hk:kd=We/\m=0\/kd=xw/\m≠0)(h:Res1 d kd [] kd [] a y)(k:Res1 d zB [] zB [] b z):Res1 (d+1) zB [] zB [] ((.lit (if m=0 then [60,98,32,119,58] else [60,98,32,97,61,34,120,34])::a++[.lit [62]])++b++[.lit [60,47,98,62]]) (y <|> z):=by
 have h1:OkT (d+1) zB [] kd [[98]] [.lit (if m=0 then [60,98,32,119,58] else [60,98,32,97,61,34,120,34])]:=by
  rcases hk with⟨rfl,rfl⟩ | ⟨rfl,hm⟩
  ·exact zfu
  ·rw [ub hm];exact zfv
 have h2:=h.inn op_b (by decide);have h3:=k.inn op_b (by decide);have h4:OkT (d+1) kd [[98]] zB [[98]] [.lit [62]]:=zkI (hk.imp And.left And.left);exact Res1.okr (Res1.app (Res1.okr (Res1.okl h1 h2) h4) h3) zhk
theorem zfw {m:Nat}{y:Option (Fw×Tx)}(hm:m=0\/m=1\/m=2)(h:∀ kd',kd' = [ZW,kRow,KN].getD m []->Kn kd'->Res1 d kd' [] kd' [] a y):Res1 d xw [] xw [] (.lit ([[32,113,61,34],[32,114,40,121,44],[32,116,33,34,119,32,39]].getD m [])::a++[.lit ([[34],[41],[39,34]].getD m [])]) y:=by obtain⟨kd',e,hk,h1,h2⟩:=zhi hm;exact Res1.okr (Res1.okl (h1 d) (h kd' e hk)) (h2 d)
end
noncomputable abbrev Plt:=Int×Fw×Tx
noncomputable def rnd (kd:Tx):List Plt->List Pc×List Plt
 | []=>([],[])
 | (c,w,m)::L=>((if c - 1=0 then qP w m kd else [])++(rnd kd L).1,(c - 1,w,m)::(rnd kd L).2)
noncomputable def rst:List Plt->List Pc
 | []=>[]
 | (c,w,m)::L=>(if c > 0 then qP w m zB else [])++rst L
structure Tell (L L':List Plt)(y:Option (Fw×Tx)):Prop where
 eq:L'.map Prod.snd=L.map Prod.snd
 mem:∀ p,y=some p->p∈L.map Prod.snd
 pos:y=none->(∀ p∈L,p.1 > 0)->∀ p∈L',p.1 > 0
def MkL (L:List Plt):Prop:=∀ p∈L.map Prod.snd,Mk p.2
theorem Tell.rfl {L:List Plt}:Tell L L none:=⟨_root_.rfl,λ_ h=>by simp at h,λ_ h=>h⟩
theorem Tell.app {L L1 L2:List Plt}{x y:Option (Fw×Tx)}(h:Tell L L1 x)(k:Tell L1 L2 y):Tell L L2 (x <|> y):=by
 refine⟨k.eq.trans h.eq,λp e=>?_,λe g=>?_⟩
 ·cases x with
  | some q=>exact h.mem p e
  | none=>rw [← h.eq];exact k.mem p e
 ·cases x with
  | some q=>cases e
  | none=>exact k.pos e (h.pos _root_.rfl g)
theorem Tell.mkl {L L':List Plt}{y:Option (Fw×Tx)}(h:Tell L L' y)(k:MkL L):MkL L':=by unfold MkL at *;rw [h.eq];exact k
theorem zcD {d:Nat}{kd:Tx}(k:Kn kd):∀ {L:List Plt},MkL L->∃ y,Res1 d kd [] kd [] (rnd kd L).1 y/\Tell L (rnd kd L).2 y
 | [],_=>⟨none,.ok .nil,.rfl⟩
 | (c,w,m)::L,hm=>by
  have hm0:Mk m:=hm (w,m) (by simp);obtain⟨y,h1,h2⟩:=zcD (d:=d) k (L:=L) λp hp=>hm p (by simp only [uu,um];exact .inr hp);by_cases e:c - 1=0
  ·refine⟨some (w,m),?_,?_⟩
   ·simp only [rnd,ud e];exact .bad hm0 (Vj k hm0).app k
   ·refine⟨by simp only [rnd,uu,h2.eq],λp e=>?_,λe=>by cases e⟩;cases e;simp
  ·refine⟨y,?_,?_⟩
   ·simp only [rnd,ub e,Uk];exact h1
   ·refine⟨by simp only [rnd,uu,h2.eq],λp e=>?_,λe0 hp p hi=>?_⟩
    ·simp only [uu,um];exact .inr (h2.mem p e)
    ·simp only [rnd,um] at hi;rcases hi with rfl | hi
     ·have:=hp (c,w,m) (by simp);simp only at this ⊢;lia
     ·exact h2.pos e0 (λp hp'=>hp p (by simp [hp'])) p hi
theorem zcE {d:Nat}:∀ {L:List Plt},MkL L->∃ y,Res1 d zB [] zB [] (rst L) y/\(∀ p,y=some p->p∈L.map Prod.snd)/\(y=none->∀ p∈L,¬ p.1 > 0)
 | [],_=>⟨none,.ok .nil,λ_ h=>by simp at h,λ_ p hp=>by simp at hp⟩
 | (c,w,m)::L,hm=>by
  have hm0:Mk m:=hm (w,m) (by simp);by_cases e:c > 0
  ·refine⟨some (w,m),?_,λp e=>?_,λe=>by cases e⟩
   ·simp only [rst,ud e];exact .bad hm0 (Vj .text hm0).app .text
   ·cases e;simp
  ·obtain⟨y,h1,h2,h3⟩:=zcE (d:=d) (L:=L) λp hp=>hm p (by simp only [uu,um];exact .inr hp);refine⟨y,?_,λp e=>?_,λe0 p hp=>?_⟩
   ·simp only [rst,ub e,Uk];exact h1
   ·simp only [uu,um];exact .inr (h2 p e)
   ·rcases um.mp hp with rfl | hp
    ·exact e
    ·exact h3 e0 p hp
theorem zfx {d:Nat}{L L':List Plt}{ps:List Pc}{y:Option (Fw×Tx)}(h:Res1 d zB [] zB [] ps y)(t:Tell L L' y)(hm:MkL L)(hp:∀ p∈L,p.1 > 0):∃ z,Res1 d zB [] zB [] (ps++rst L') z/\(∀ p,z=some p->p∈L.map Prod.snd)/\(z=none->L=[]):=by
 obtain⟨x,h1,h2,h3⟩:=zcE (d:=d) (t.mkl hm);refine⟨(y <|> x),h.app h1,λp e=>?_,λe=>?_⟩
 ·cases y with
  | some q=>exact t.mem p e
  | none=>rw [← t.eq];exact h2 p e
 ·cases y with
  | some q=>cases e
  | none=>
   cases L' with
   | nil=>have:=t.eq;cases L with | nil=>rfl | cons p L=>simp at this
   | cons p L'=>exact absurd (t.pos _root_.rfl hp p (by simp)) (h3 e p (by simp))
theorem V6:OpB []:=λx h=>by simp at h
theorem zfy:s00=sK zB []:=by decide
theorem zhl {d:Nat}{ps qs:List Pc}{wd:Fw}{mk kk:Tx}{r:Off}(h:BadP d zB ps wd mk kk r)(hd:d<=1000):jf (ps++qs)=.error (dueF wd mk (atM kk) r):=by
 have:=h.app (b:=qs) |>.look [] [] 0 V6 (by simpa using hd)
 unfold jf;rw [zfy];rw [show(sK zB [])=sK zB ([]++[]) from rfl,this];simp [Off.add]
theorem zi2 {d:Nat}{ps:List Pc}(h:OkP d zB ps)(hd:d<=1000):∃ hs,jf ps=.ok hs:=by obtain⟨hs,e⟩:=h.look [] [] 0 V6 (by simpa using hd);refine⟨hs,?_⟩;unfold jf;rw [zfy];rw [show(sK zB [])=sK zB ([]++[]) from rfl,e];simp
theorem zfz {d:Nat}{ps:List Pc}(h:OkP d zB ps)(hd:d<=1000):jf (ps++[.lit [60,118,62]])=.error (.left (zw (ps++[.lit [60,118,62]])).1 (zw (ps++[.lit [60,118,62]])).2):=by obtain⟨hs,e⟩:=h.look [] [] 0 V6 (by simpa using hd);have e2:zy [.lit [60,118,62]] ⟨sK zB ([]++[]),[]++(zw ps).1,0+(zw ps).2⟩=.ok (⟨⟨xc,[],[[118]],[]⟩,[]++(zw ps).1,0+(zw ps).2+1⟩,[]):=zfn (show runM (sK zB []) [60,118,62]=.ok (_,_) from rfl);unfold jf;rw [zfy];rw [show(sK zB [])=sK zB ([]++[]) from rfl,Vi e e2,yX];simp [Off.add,zw,j0];decide
structure Bz (n s x:Nat)(ps:List Pc):Prop where
 dp:dpP.dpB ps<=n
 nm:nmP.nmB ps=true
 sz:szPs ps<=s
 tx:txPs ps<=x
theorem Bz.nil {n:Nat}:Bz n 0 0 []:=⟨by simp [dpP.dpB],rfl,by simp [szPs],by simp [txPs]⟩
theorem Bz.app {n s x s' x':Nat}{a b:List Pc}(h:Bz n s x a)(k:Bz n s' x' b):Bz n (s+s') (x+x') (a++b):=by
 refine⟨?_,?_,?_,?_⟩
 ·rw [V2];have:=h.dp;have:=k.dp;lia
 ·rw [Wz,h.nm,k.nm];rfl
 ·rw [qj];have:=h.sz;have:=k.sz;lia
 ·rw [Jc];have:=h.tx;have:=k.tx;lia
theorem Bz.up {n s x n' s' x':Nat}{a:List Pc}(h:Bz n s x a)(h1:n<=n')(h2:s<=s')(h3:x<=x'):Bz n' s' x' a:=⟨by have:=h.dp;lia,h.nm,by have:=h.sz;lia,by have:=h.tx;lia⟩
theorem xJ {n:Nat}{t:Tx}{x:Nat}(h:t.length<=x):Bz n 1 x [.lit t]:=⟨by simp [dpP.dpB,dpP],rfl,by simp [szPs,szP],by simp [txPs,txP];exact h⟩
theorem zcF {n:Nat}{t:Tx}(h:t.length<=10):Bz n 1 0 [.hole t]:=⟨by simp [dpP.dpB,dpP],by simp only [nmP.nmB,nmP,U9];exact Us (by lia),by simp [szPs,szP],by simp [txPs,txP]⟩
theorem zcG {n s x:Nat}{t:Tx}{a:List Pc}(h:Bz n s x a):Bz (n+1) (s+1) x [.each t a]:=⟨by have:=h.dp;simp [dpP.dpB,dpP];lia,by simp only [nmP.nmB,nmP,h.nm];rfl,by have:=h.sz;simp [szPs,szP];lia,by have:=h.tx;simp [txPs,txP];lia⟩
theorem zfA {n s x s' x':Nat}{t:Tx}{a b:List Pc}(h:Bz n s x a)(k:Bz n s' x' b):Bz (n+1) (s+s' + 1) (x+x') [.ife t a b]:=⟨by have:=h.dp;have:=k.dp;simp [dpP.dpB,dpP];lia,by simp only [nmP.nmB,nmP,h.nm,k.nm];rfl,by have:=h.sz;have:=k.sz;simp [szPs,szP];lia,by have:=h.tx;have:=k.tx;simp [txPs,txP];lia⟩
theorem zcH {n s x:Nat}{t y z:Tx}{a:List Pc}(h:Bz n s x a):Bz (n+1) (s+2) x [.seat t y z a]:=⟨by have:=h.dp;simp [dpP.dpB,dpP];lia,by simp only [nmP.nmB,nmP,h.nm];rfl,by have:=h.sz;simp [szPs,szP];lia,by have:=h.tx;simp [txPs,txP];lia⟩
theorem Jd {n:Nat}{wd:Fw}{mk kd:Tx}(k:Kn kd)(hm:Mk mk):Bz (n+1) 3 5 (qP wd mk kd):=by
 have h2:mk.length=2:=by rcases hm with rfl | rfl<;>rfl
 have h3:(kX kd).length<=5:=by cases k<;>decide
 cases wd with
 | astray=>exact(xJ (n:=0) (by cases k<;>rcases hm with rfl | rfl<;>decide:(badM mk kd).length<=5)).up (by omega) (by omega) (by omega)
 | noplace=>exact((xJ (n:=n+1) (by cases k<;>decide:(QJ kd).length<=2)).app ((zcF (by omega)).app (xJ (by decide:([98]:Tx).length<=1)))).up (by omega) (by omega) (by omega)
 | ife=>exact(zfA (xJ (n:=n) h3) .nil).up (by omega) (by omega) (by omega)
 | each=>exact(zcG (xJ (n:=n) h3)).up (by omega) (by omega) (by omega)
 | seat=>exact(zcH (xJ (n:=n) h3)).up (by omega) (by omega) (by omega)
theorem zbg {n:Nat}{kd:Tx}(k:Kn kd):∀ {L:List Plt},MkL L->Bz (n+1) (3 * L.length) (5 * L.length) (rnd kd L).1
 | [],_=>.nil
 | (c,w,m)::L,hm=>by
  have h1:=zbg (n:=n) k (L:=L) λp hp=>hm p (by simp only [uu,um];exact .inr hp)
  have h2:Bz (n+1) 3 5 (if c - 1=0 then qP w m kd else []):=by
   split
   ·exact Jd k (hm (w,m) (by simp))
   ·exact Bz.nil.up (ui _) (by lia) (by lia)
  exact(h2.app h1).up (ui _) (by simp only [uq];lia) (by simp only [uq];lia)
theorem zbh {n:Nat}:∀ {L:List Plt},MkL L->Bz (n+1) (3 * L.length) (5 * L.length) (rst L)
 | [],_=>.nil
 | (c,w,m)::L,hm=>by
  have h1:=zbh (n:=n) (L:=L) λp hp=>hm p (by simp only [uu,um];exact .inr hp)
  have h2:Bz (n+1) 3 5 (if c > 0 then qP w m zB else []):=by
   split
   ·exact Jd .text (hm (w,m) (by simp))
   ·exact Bz.nil.up (ui _) (by lia) (by lia)
  exact(h2.app h1).up (ui _) (by simp only [uq];lia) (by simp only [uq];lia)
noncomputable def gS:Nat->Nat
 | 0=>21
 | d+1=>3 * (2 * gS d+9)
noncomputable def gT:Nat->Nat
 | 0=>60
 | d+1=>3 * (2 * gT d+24)
noncomputable def iS1:Nat->Nat
 | 0=>1
 | d+1=>2 * gS d+3
noncomputable def iT1:Nat->Nat
 | 0=>9
 | d+1=>2 * gT d+13
def GdB (d:Nat)(ps:List Pc):Prop:=Bz (d+1) (gS d) (gT d) ps
def SmB (d:Nat)(ps:List Pc):Prop:=Bz (d+1) (iS1 d) (iT1 d) ps
theorem zhm (d:Nat):3 * (iS1 d+6)<=gS d/\3 * (iT1 d+10)<=gT d:=by
 cases d with
 | zero=>decide
 | succ d=>simp only [iS1,iT1,gS,gT];omega
def RwB (d i:Nat)(ps:List Pc):Prop:=Bz (d+1) (i * (iS1 d+6)) (i * (iT1 d+10)) ps
theorem RwB.nil {d:Nat}:RwB d 0 []:=(Bz.nil (n:=0)).up (by lia) (by lia) (by lia)
theorem RwB.next {d i:Nat}{kd:Tx}{L:List Plt}{a b:List Pc}(h:RwB d i a)(k:Kn kd)(hm:MkL L)(hl:L.length<=2)(s:SmB d b):RwB d (i+1) (a++(rnd kd L).1++b):=by
 refine((Bz.app (Bz.app h ((zbg k hm).up (ui _) (by lia:_<=6) (by lia:_<=10))) s)).up (ui _) ?_ ?_
 ·rw [Gz];lia
 ·rw [Gz];lia
theorem RwB.gd {d i:Nat}{a:List Pc}(h:RwB d i a)(hi:i<=3):GdB d a:=by obtain⟨h1,h2⟩:=zhm d;exact Bz.up h (ui _) (uJ (UH _ hi) h1) (uJ (UH _ hi) h2)
theorem zi3 {d:Nat}{t:Tx}(h:t.length<=9):SmB d [.lit t]:=by refine(xJ (n:=0) h).up (by lia) ?_ ?_<;>cases d<;>simp [iS1,iT1]<;>lia
theorem zhn {d:Nat}{t:Tx}(h:t.length<=9):SmB d [.hole t]:=by refine(zcF (by lia)).up (UD _) ?_ (UD _);cases d<;>simp [iS1]
theorem zho {d:Nat}{t:Tx}{a:List Pc}(h:GdB d a):SmB (d+1) [.each t a]:=(zcG h).up (by lia) (by simp only [iS1];lia) (by simp only [iT1];lia)
theorem zi4 {d:Nat}{t:Tx}{a b:List Pc}(h:GdB d a)(k:GdB d b):SmB (d+1) [.ife t a b]:=(zfA h k).up (by lia) (by simp only [iS1];lia) (by simp only [iT1];lia)
theorem zhp {d:Nat}{t y z:Tx}{a:List Pc}(h:GdB d a):SmB (d+1) [.seat t y z a]:=(zcH h).up (by lia) (by simp only [iS1];lia) (by simp only [iT1];lia)
theorem zi5 {d:Nat}{t u v:Tx}{a b:List Pc}(h:GdB d a)(k:GdB d b)(hl:t.length<=8)(hu:u.length<=1)(hv:v.length<=4):SmB (d+1) ((.lit t::a++[.lit u])++b++[.lit v]):=by refine(((((xJ hl).app h).app (xJ hu)).app k).app (xJ hv)).up (by lia) ?_ ?_<;>simp only [iS1,iT1]<;>lia
theorem zkJ {d:Nat}{t u:Tx}{a:List Pc}(h:GdB d a)(hl:t.length<=8)(hu:u.length<=4):SmB (d+1) (.lit t::a++[.lit u]):=by refine(((xJ hl).app h).app (xJ hu)).up (by lia) ?_ ?_<;>simp only [iS1,iT1]<;>lia
noncomputable def z9:Fw->Tx
 | .astray=>[97,115,116,114,97,121]
 | .noplace=>[110,111,112,108,97,99,101]
 | .ife=>[105,102]
 | .each=>[101,97,99,104]
 | .seat=>Xo
inductive PlA (H:Hp):Ld->List Plt->Prop
 | nil:PlA H [] []
 | cons {a:Addr} {c:Int} {wd:Fw} {mk:Tx} {as:Ld} {L:List Plt}:H a=some (.lst [.int c,tx (z9 wd),tx mk])->PlA H as L->PlA H (a::as) ((c,wd,mk)::L)
theorem PlA.mono {H H':Hp}{as:Ld}{L:List Plt}(h:PlA H as L)(g:Same H H'):PlA H' as L:=by
 induction h with
 | nil=>exact .nil
 | cons h _ ih=>exact .cons (g _ _ h) ih
theorem PlA.some {H:Hp}{as:Ld}{L:List Plt}(h:PlA H as L):∀ a∈as,H a≠none:=by
 induction h with
 | nil=>intro a ha;cases ha
 | cons h _ ih=>
  intro b hb;rcases um.mp hb with rfl | hb
  ·rw [h];intro z;cases z
  ·exact ih b hb
theorem PlA.len {H:Hp}{as:Ld}{L:List Plt}(h:PlA H as L):as.length=L.length:=by
 induction h with
 | nil=>rfl
 | cons _ _ ih=>simp only [uq,ih]
theorem PlA.of {H H':Hp}{as:Ld}{L:List Plt}(h:PlA H as L)(g:∀ a∈as,H' a=H a):PlA H' as L:=by
 induction h with
 | nil=>exact .nil
 | @cons a c wd mk as L h _ ih=>exact .cons (by rw [g a (by simp)];exact h) (ih λb hb=>g b (by simp [hb]))
theorem PlA.set {H:Hp}{a:Addr}{as:Ld}{c c':Int}{wd:Fw}{mk:Tx}{L:List Plt}(h:PlA H (a::as) ((c,wd,mk)::L))(hn:a∉as):PlA (upd H a (.lst [.int c',tx (z9 wd),tx mk])) (a::as) ((c',wd,mk)::L):=by
 cases h with
 | cons h k=>exact .cons zb (k.of λb hb=>zl λz=>hn (z ▸ hb))
theorem PlA.split {H:Hp}{as bs:Ld}{L M:List Plt}(h:PlA H as L)(k:PlA H bs M):PlA H (as++bs) (L++M):=by
 induction h with
 | nil=>exact k
 | cons h _ ih=>exact .cons h ih
noncomputable def hid (as:Ld)(H:Hp):Hp:=λb=>if b∈as then none else H b
theorem Xq {as:Ld}{H:Hp}{b:Addr}(h:b∉as):hid as H b=H b:=ub h
theorem zfB {as:Ld}{H:Hp}{b:Addr}(h:b∈as):hid as H b=none:=ud h
theorem zbi {as:Ld}{H:Hp}:Same (hid as H) H:=λb o h=>by
 unfold hid at h;split at h
 ·cases h
 ·exact h
theorem zfC {as:Ld}{H H':Hp}(g:Same H H'):Same (hid as H) (hid as H'):=λb o h=>by
 unfold hid at h ⊢;split at h
 ·cases h
 ·rename_i z;rw [ub z];exact g _ _ h
theorem zhq {as:Ld}{H:Hp}{a:Addr}{o:HO}(h:a∈as):hid as (upd H a o)=hid as H:=by
 funext b;by_cases z:b∈as
 ·rw [zfB z,zfB z]
 ·rw [Xq z,Xq z,zl (λy:b=a=>z (by rw [y];exact h))]
def Rp (as:Ld)(H H':Hp)(L':List Plt):Prop:=Same (hid as H) (hid as H')/\PlA H' as L'
theorem Rp.trans {as:Ld}{H H1 H2:Hp}{L1 L2:List Plt}(a:Rp as H H1 L1)(b:Rp as H1 H2 L2):Rp as H H2 L2:=⟨a.1.trans b.1,b.2⟩
theorem Rp.same {as:Ld}{H H':Hp}{L:List Plt}(h:PlA H as L)(g:Same H H'):Rp as H H' L:=⟨zfC g,h.mono g⟩
theorem Rp.fresh {as:Ld}{H H':Hp}{L L':List Plt}{p:Addr}(g:Rp as H H' L')(h:PlA H as L)(hp:H' p=none):H p=none:=by
 by_cases z:p∈as
 ·exact absurd hp (g.2.some p z)
 ·cases e:H p with
  | none=>rfl
  | some o=>have:=zbi _ _ (g.1 p o (by rw [Xq z];exact e));rw [hp] at this;cases this
theorem Rp.old {as:Ld}{H H':Hp}{L':List Plt}{p:Addr}{o:HO}(g:Rp as H H' L')(hp:p∉as)(h:H p=some o):H' p=some o:=zbi _ _ (g.1 p o (by rw [Xq hp];exact h))
theorem KQ {as:Ld}{H H1 H2:Hp}{L2:List Plt}(g:Rp as H1 H2 L2)(h:∀ a∈as,H a≠none):Same (nw H H1) (nw H H2):=λb o e=>by
 unfold nw at e ⊢;split at e
 ·rename_i z;rw [ud z];have hb:b∉as:=λy=>h b y z;exact zbi _ _ (g.1 _ _ (by rw [Xq hb];exact e))
 ·cases e
theorem kY {as:Ld}{H H1 H2:Hp}{L L1:List Plt}(h:PlA H as L)(g:Rp as H H1 L1):Same (nw H1 H2) (nw H H2):=λb o e=>by
 unfold nw at e;split at e
 ·rename_i z;rw [zbe (g.fresh h z)];exact e
 ·cases e
theorem zfD {as:Ld}{H:Hp}{a:Addr}{o:HO}{L':List Plt}(ha:a∈as)(h:PlA (upd H a o) as L'):Rp as H (upd H a o) L':=⟨by rw [zhq ha];exact Same.refl _,h⟩
structure MkR (as:Ld)(H H':Hp)(r:V)(L':List Plt)(ps:List Pc):Prop where
 rp:Rp as H H' L'
 lie:∃ p fa da xs,r=.ref p/\H' p=some (.tup [.ref fa,.ref da])/\IsDt (nw H H') (.ls (dPs ps)) (.ref fa)/\H' da=some (.lst xs)/\H p=none/\H da=none/\xs.length<=szPs ps
structure PlH (H:Hp)(pa:Addr)(as:Ld)(L:List Plt):Prop where
 at_:H pa=some (.lst (as.map .ref))
 out:pa∉as
 nd:as.Nodup
 lie:PlA H as L
 mks:MkL L
 two:L.length<=2
theorem PlH.go {H H':Hp}{pa:Addr}{as:Ld}{L L':List Plt}{y:Option (Fw×Tx)}(h:PlH H pa as L)(g:Rp as H H' L')(t:Tell L L' y):PlH H' pa as L':=⟨g.old h.out h.at_,h.out,h.nd,g.2,t.mkl h.mks,by have:=congrArg List.length t.eq;simp only [uk] at this;have:=h.two;lia⟩
theorem PlH.mono {H H':Hp}{pa:Addr}{as:Ld}{L:List Plt}(h:PlH H pa as L)(g:Same H H'):PlH H' pa as L:=⟨g _ _ h.at_,h.out,h.nd,h.lie.mono g,h.mks,h.two⟩
noncomputable def jU:Sp:=λvs H Q _=>∃ (wd:Fw) (mk kind:Tx),vs=[.str (S (z9 wd)),.str (S mk),.str (S kind)]/\Mk mk/\Kn kind/\∀ fa H',Same H H'->IsDt (nw H H') (.ls (dPs (qP wd mk kind))) (.ref fa)->Q (.ref fa) H'
noncomputable def jr (d:Nat):Sp:=λvs H Q _=>∃ (c:Int) (kind:Tx) (pa:Addr) (as:Ld) (L:List Plt),vs=[.int c,.str (S kind),.int d,.ref pa]/\PlH H pa as L/\Kn kind/\∀ r ps y L' H',MkR as H H' r L' ps->Res1 d kind [] kind [] ps y->Tell L L' y->GdB d ps->Q r H'
noncomputable def vB (d:Nat):Sp:=λvs H Q _=>∃ (c:Int) (kind:Tx) (pa:Addr) (as:Ld) (L:List Plt),vs=[.int c,.str (S kind),.int d,.ref pa]/\PlH H pa as L/\Kn kind/\∀ r ps y L' H',MkR as H H' r L' ps->Res1 d kind [] kind [] ps y->Tell L L' y->SmB d ps->Q r H'
noncomputable def xA (d:Nat):Sp:=λvs H Q _=>∃ (c:Int) (lead kind close:Tx) (pa:Addr) (as:Ld) (L:List Plt),vs=[.int c,.str (S lead),.str (S kind),.str (S close),.int ((d+1:Nat):Int),.ref pa]/\PlH H pa as L/\Kn kind/\∀ r ps y L' H',MkR as H H' r L' (.lit lead::ps++[.lit close])->Res1 d kind [] kind [] ps y->Tell L L' y->GdB d ps->Q r H'
noncomputable def wq (d:Nat):Sp:=λvs H Q _=>∃ (c:Int) (kind:Tx) (pa:Addr) (as:Ld) (L:List Plt),vs=[.int c,.str (S kind),.int ((d+1:Nat):Int),.ref pa]/\PlH H pa as L/\(kind=zB\/kind=xw)/\∀ r ps y L' H',MkR as H H' r L' ps->Res1 (d+1) kind [] kind [] ps y->Tell L L' y->SmB (d+1) ps->Q r H'
noncomputable def vC:Sp:=λvs H Q _=>∃ (c:Int) (pa:Addr) (as:Ld) (L:List Plt),vs=[.int c,.ref pa]/\PlH H pa as L/\(∀ p∈L,p.1 > 0)/\∀ r ps z L' H',MkR as H H' r L' ps->Res1 3 zB [] zB [] ps z->(∀ p,z=some p->p∈L.map Prod.snd)->(z=none->L=[])->Bz 4 5900 19900 ps->Q r H'
noncomputable def Z5 (c:Int):Tx:=[[97],[97,98],[119,104,111],[98]].getD (mixM c 2 4) []
noncomputable def Xr (c:Int):Tx:=[[98,108,111,99,107],[101,108,100,101,114],[100,114,97,119]].getD (mixM c 3 3) []
noncomputable def litK:List (Key×V):=[(.inr (S [116,101,120,116]),V.str (S [120,32,121,38,48,53,59])),(.inr (S [100,111,110,101]),V.str (S [32,99,61,34,121,34]))]
theorem zhr (kind:Tx):(valV (qy [] litK) (.inr (S kind))).getD (V.str (S [122,48]))=tx (litM kind):=by
 have e:qy [] litK=litK:=by decide +kernel
 rw [e];unfold litM litK valV;by_cases h1:kind=zB
 ·subst h1;rfl
 ·rw [ub h1];by_cases h2:kind=xw
  ·subst h2;rfl
  ·rw [ub h2];have n1:¬ S [116,101,120,116]=S kind:=λz=>h1 (vo.mp z).symm;have n2:¬ S [100,111,110,101]=S kind:=λz=>h2 (vo.mp z).symm;simp [List.find?,n1,n2];rfl
theorem Xs {as:Ld}{H Hi H':Hp}{L Li:List Plt}{p:Addr}{o:HO}(h:PlA H as L)(g:Rp as H Hi Li)(hp:Hi p=none)(e:H' p=some o):nw H H' p=some o:=by rw [zbe (g.fresh h hp)];exact e
theorem zhs (c:Int):¬ Mk (Z5 c)/\(Z5 c).length<=9:=by
 unfold Z5;have:=ZI (c:=c) (k:=2) (m:=4) (by decide);have key:∀ i:Fin 4,¬ Mk ([[97],[97,98],[119,104,111],[98]].getD i.1 [])/\([[97],[97,98],[119,104,111],[98]].getD i.1 ([]:Tx)).length<=9:=by unfold Mk;decide
 exact key ⟨mixM c 2 4,by lia⟩
theorem MkR.pre {as:Ld}{H H1 H':Hp}{r:V}{L L':List Plt}{ps:List Pc}(hl:PlA H as L)(g:Same H H1)(h:MkR as H1 H' r L' ps):MkR as H H' r L' ps:=by obtain⟨rp,p,fa,da,xs,e1,e2,e3,e4,e5,e6,e7⟩:=h;exact⟨(Rp.same hl g).trans rp,p,fa,da,xs,e1,e2,e3.mono (kY hl (Rp.same hl g)),e4,none_of g e5,none_of g e6,e7⟩
theorem Je {H:Hp}{p:Addr}{o o':HO}(hp:H p=none):Same H (upd (upd H p o) p o'):=λb u h=>by rw [zl (zM h hp),zl (zM h hp)];exact h
theorem j4 {H Hi H':Hp}{p:Addr}{o:HO}(g:Same H Hi)(hp:Hi p=none)(e:H' p=some o):nw H H' p=some o:=by rw [zbe (none_of g hp)];exact e
theorem zfE {H:Hp}{as:Ld}{a:Addr}{c:Int}{wd:Fw}{mk:Tx}{A B:List Plt}(h:PlA H as (A++(c,wd,mk)::B))(hi:as[A.length]? = some a):H a=some (.lst [.int c,tx (z9 wd),tx mk]):=by
 induction A generalizing as with
 | nil=>cases h with | cons h _=>cases hi;exact h
 | cons p A ih=>cases h with | cons _ h=>exact ih h (by simpa using hi)
theorem zcI {H:Hp}{as:Ld}{a:Addr}{c:Int}(c':Int){wd:Fw}{mk:Tx}{A B:List Plt}(h:PlA H as (A++(c,wd,mk)::B))(hi:as[A.length]? = some a)(nd:as.Nodup):PlA (upd H a (.lst [.int c',tx (z9 wd),tx mk])) as (A++(c',wd,mk)::B):=by
 induction A generalizing as with
 | nil=>
  cases as with
  | nil=>cases h
  | cons b as=>cases hi;exact h.set (Ue.mp nd).1
 | cons p A ih=>
  cases h with
  | cons hb h=>refine .cons ?_ (ih h (by simpa using hi) (Ue.mp nd).2);rw [zl λz=>(Ue.mp nd).1 (by rw [z];exact uN (i:=A.length) (by simpa using hi))];exact hb
theorem Xu {kd:Tx}{c:Int}{w:Fw}{m:Tx}:∀ (L:List Plt),rnd kd (L++[(c,w,m)])=((rnd kd L).1++(if c - 1=0 then qP w m kd else []),(rnd kd L).2++[(c - 1,w,m)])
 | []=>by simp [rnd]
 | (e,v,n)::L=>by simp only [uH,rnd,Xu L,uW]
theorem zcJ {kd:Tx}:∀ (L:List Plt),(rnd kd L).2.length=L.length
 | []=>rfl
 | (e,v,n)::L=>by simp only [rnd,uq,zcJ L]
theorem zcK {c:Int}{w:Fw}{m:Tx}{L:List Plt}{j:Nat}(h:L[j]? = some (c,w,m)):L.drop j=(c,w,m)::L.drop (j+1)/\L.take (j+1)=L.take j++[(c,w,m)]:=by obtain⟨h1,h2⟩:=ur.mp h;exact⟨by rw [uS h1,h2],by rw [UG,h];rfl⟩
theorem zfF {as:Ld}{j:Nat}{v:V}(h:(as.map V.ref)[j]? = some v):∃ a,as[j]? = some a/\v=.ref a:=by
 rw [Uc] at h;cases e:as[j]? with
 | none=>rw [e] at h;cases h
 | some a=>rw [e] at h;cases h;exact⟨a,rfl,rfl⟩
noncomputable def intL (T:Lc):List V:=T.map λ(t:Nat)=>V.int t
noncomputable def zK:Pc->List (Off×List Pc)
 | .lit _=>[]
 | .hole _=>[]
 | .each _ b=>[(([1],0),b)]
 | .ife _ a b=>[(([0],0),a),(([1],0),b)]
 | .seat _ _ _ b=>[(([],1),b)]
noncomputable def kZ (mk:Tx):List (Off×List Pc)->Option Off
 | []=>none
 | (o,b)::r=>match zP mk b with
  | some q=>some (o.add q)
  | none=>kZ mk r
theorem zcL (mk:Tx)(p:Pc):jG mk p=if jq mk p=true then some ([],0) else kZ mk (zK p):=by
 cases p with
 | lit t=>simp [jG,zK,kZ]
 | hole t=>simp [jG,zK,kZ]
 | each x b=>simp only [jG,zK,kZ,jq];split<;>(try rfl);cases zP mk b<;>rfl
 | ife x a b=>simp only [jG,zK,kZ,jq];split<;>(try rfl);cases zP mk a<;>cases zP mk b<;>rfl
 | seat w x y b=>simp only [jG,zK,kZ,jq];split<;>(try rfl);cases zP mk b<;>rfl
noncomputable def k7 (mk:Tx):List (Off×List Pc)->Option Tx
 | []=>none
 | (_,b)::r=>match qM mk b with
  | some q=>some q
  | none=>k7 mk r
theorem zcM (mk:Tx)(p:Pc)(h:∀ t,p=.lit t->hasT mk t=false):xx mk p=k7 mk (zK p):=by
 cases p with
 | lit t=>simp [xx,zK,k7,h t rfl]
 | hole t=>simp [xx,zK,k7]
 | each x b=>simp only [xx,zK,k7];cases qM mk b<;>rfl
 | ife x a b=>simp only [xx,zK,k7];cases qM mk a<;>cases qM mk b<;>rfl
 | seat w x y b=>simp only [xx,zK,k7];cases qM mk b<;>rfl
noncomputable def vm (ms:List Tx):List (Off×List Pc)->Option Tx
 | []=>none
 | (_,b)::r=>match zF ms b with
  | some q=>some q
  | none=>vm ms r
theorem KR (ms:List Tx)(p:Pc):jd ms p=match ms.find? (λm=>jq m p) with
  | some m=>some m
  | none=>vm ms (zK p):=by
 cases p with
 | lit t=>simp only [jd,zK,vm];cases ms.find? (λm=>jq m (.lit t))<;>rfl
 | hole t=>simp only [jd,zK,vm];cases ms.find? (λm=>jq m (.hole t))<;>rfl
 | each x b=>simp only [jd,zK,vm,jq];cases ms.find? (λm=>decide (x=m))<;>cases zF ms b<;>rfl
 | ife x a b=>simp only [jd,zK,vm,jq];cases ms.find? (λm=>decide (x=m))<;>cases zF ms a<;>cases zF ms b<;>rfl
 | seat w x y b=>simp only [jd,zK,vm,jq];cases ms.find? (λm=>decide (x=m))<;>cases zF ms b<;>rfl
inductive InA (H:Hp):List V->List (Off×List Pc)->Prop
 | nil:InA H [] []
 | cons {p ta:Addr} {v:V} {o:Off} {b:List Pc} {vs:List V} {is:List (Off×List Pc)}:H p=some (.tup [.ref ta,.int o.2,v])->H ta=some (.lst (o.1.map λ(t:Nat)=>V.int t))->IsDt H (.ls (dPs b)) v->InA H vs is->InA H (.ref p::vs) ((o,b)::is)
theorem InA.mono {H H':Hp}{vs:List V}{is:List (Off×List Pc)}(h:InA H vs is)(g:Same H H'):InA H' vs is:=by
 induction h with
 | nil=>exact .nil
 | cons a b c _ ih=>exact .cons (g _ _ a) (g _ _ b) (c.mono g) ih
theorem InA.get {H:Hp}{vs:List V}{is:List (Off×List Pc)}(h:InA H vs is){i:Nat}{v:V}(e:vs[i]? = some v):∃ p ta w o b,v=.ref p/\is[i]? = some (o,b)/\H p=some (.tup [.ref ta,.int (o:Off).2,w])/\H ta=some (.lst (o.1.map λ(t:Nat)=>V.int t))/\IsDt H (.ls (dPs b)) w:=by
 induction h generalizing i with
 | nil=>simp at e
 | cons a b c _ ih=>
  cases i with
  | zero=>cases e;exact⟨_,_,_,_,_,rfl,rfl,a,b,c⟩
  | succ i=>exact ih (by simpa using e)
theorem InA.len {H:Hp}{vs:List V}{is:List (Off×List Pc)}(h:InA H vs is):vs.length=is.length:=by
 induction h with
 | nil=>rfl
 | cons _ _ _ _ ih=>simp [ih]
mutual
theorem Vk:∀ (p:Pc),(j0 p).1.length<=szP p/\(j0 p).2<=szP p
 | .lit _=>by simp [j0,szP]
 | .hole _=>by simp [j0,szP]
 | .each _ b=>by simp only [j0,szP,uA];omega
 | .ife _ a b=>by have:=vc a;simp only [j0,szP,ug,uA];omega
 | .seat _ _ _ b=>by have:=vc b;simp only [j0,szP];omega
theorem vc:∀ (ps:List Pc),(zw ps).1.length<=szPs ps/\(zw ps).2<=szPs ps
 | []=>by simp [zw,szPs]
 | p::ps=>by have h1:=Vk p;have h2:=vc ps;simp only [zw,szPs,Off.add,ug];omega
end
mutual
theorem zdF:∀ (mk:Tx) (p:Pc) (r:Off),jG mk p=some r->r.1.length<=szP p
 | mk,.lit t,r,h=>by simp only [jG] at h;split at h<;>cases h;simp
 | mk,.hole t,r,h=>by simp only [jG] at h;split at h<;>cases h;simp
 | mk,.each x b,r,h=>by
  simp only [jG] at h;split at h
  ·cases h;simp
  ·obtain⟨q,hq,rfl⟩:=u9.mp h;have:=yb mk b q hq;simp only [Off.add,szP,ug,uA];lia
 | mk,.ife x a b,r,h=>by
  simp only [jG] at h;split at h
  ·cases h;simp
  ·cases ha:zP mk a with
   | some q=>rw [ha] at h;cases h;have:=yb mk a q ha;simp only [Off.add,szP,ug,uA];omega
   | none=>rw [ha] at h;obtain⟨q,hq,rfl⟩:=u9.mp h;have:=yb mk b q hq;simp only [Off.add,szP,ug,uA];omega
 | mk,.seat w x y b,r,h=>by
  simp only [jG] at h;split at h
  ·cases h;simp
  ·obtain⟨q,hq,rfl⟩:=u9.mp h;have:=yb mk b q hq;simp only [Off.add,szP,ug,Uw];lia
theorem yb:∀ (mk:Tx) (ps:List Pc) (r:Off),zP mk ps=some r->r.1.length<=szPs ps
 | mk,[],r,h=>by simp [zP] at h
 | mk,p::ps,r,h=>by
  simp only [zP] at h;cases hp:jG mk p with
  | some q=>rw [hp] at h;cases h;have:=zdF mk p _ hp;simp only [szPs];omega
  | none=>rw [hp] at h;obtain⟨q,hq,rfl⟩:=u9.mp h;have h1:=yb mk ps q hq;have h2:=(Vk p).1;simp only [Off.add,szPs,ug];omega
end
def RdP (d:Nat)(H:Hp)(pv:V)(ps:List Pc):Prop:=IsDt H (.ls (dPs ps)) pv/\dpP.dpB ps<d/\szPs ps<=10000
theorem RdP.mono {d:Nat}{H H':Hp}{pv:V}{ps:List Pc}(h:RdP d H pv ps)(g:Same H H'):RdP d H' pv ps:=⟨h.1.mono g,h.2⟩
theorem ZJ {p:Pc}{o:Off}{b:List Pc}(h:(o,b)∈zK p):dpP.dpB b<dpP p/\szPs b<=szP p/\o.1.length<=1/\o.2<=1:=by
 cases p<;>simp only [zK,um,Gx,GL,Uj] at h
 ·obtain⟨rfl,rfl⟩:=h;simp only [dpP,szP,uA];lia
 ·rcases h with⟨rfl,rfl⟩ | ⟨rfl,rfl⟩<;>simp only [dpP,szP,uA]<;>lia
 ·obtain⟨rfl,rfl⟩:=h;simp only [dpP,szP,Uw];lia
theorem Xv:∀ {ps:List Pc} {p:Pc},p∈ps->szP p<=szPs ps
 | q::ps,p,h=>by
  rcases um.mp h with rfl | h
  ·simp only [szPs];lia
  ·have:=Xv h;simp only [szPs];lia
noncomputable def OffV (H:Hp)(v:V):Option Off->Prop
 | none=>v=.non
 | some r=>∃ p,v=.ref p/\PlV H p r.1 r.2
noncomputable def TxV (v:V):Option Tx->Prop
 | none=>v=.non
 | some t=>v=tx t
noncomputable def je:Sp:=λvs H Q _=>∃ (pv:V) (p:Pc) (mk:Tx),vs=[pv,.str (S mk)]/\IsDt H (dP p) pv/\∀ H',Same H H'->Q (.bl (jq mk p)) H'
noncomputable def qG:Sp:=λvs H Q _=>∃ (pv:V) (p:Pc),vs=[pv]/\IsDt H (dP p) pv/\∀ r xs H',Same H H'->H' r=some (.lst xs)->InA H' xs (zK p)->Q (.ref r) H'
noncomputable def z7 (d:Nat):Sp:=λvs H Q _=>∃ (pv:V) (ps:List Pc),vs=[pv]/\RdP d H pv ps/\∀ r H',Same H H'->PlV H' r (zw ps).1 (zw ps).2->Q (.ref r) H'
noncomputable def qW (d:Nat):Sp:=λvs H Q _=>∃ (pv:V) (ps:List Pc) (mk:Tx),vs=[pv,.str (S mk)]/\RdP d H pv ps/\∀ v H',Same H H'->OffV H' v (zP mk ps)->Q v H'
noncomputable def z8 (d:Nat):Sp:=λvs H Q _=>∃ (pv:V) (ps:List Pc) (mk:Tx),vs=[pv,.str (S mk)]/\RdP d H pv ps/\∀ v H',Same H H'->TxV v (qM mk ps)->Q v H'
noncomputable def qq (d:Nat):Sp:=λvs H Q _=>∃ (pv:V) (ps:List Pc) (ma:Addr) (ms:List Tx),vs=[pv,.ref ma]/\RdP d H pv ps/\H ma=some (.lst (ms.map tx))/\∀ v H',Same H H'->TxV v (zF ms ps)->Q v H'
noncomputable def vd:Sp:=λvs H Q _=>∃ (pv:V) (ps:List Pc) (wd:Fw) (mk kk:Tx) (r:Off),vs=[pv,.str (S (z9 wd)),.str (S mk)]/\RdP 5 H pv ps/\zP mk ps=some r/\Mk mk/\Kn kk/\(wd=.astray->qM mk ps=some (badM mk kk))/\∀ v H',Same H H'->IsDt H' (reD (.error (dueF wd mk (atM kk) r))) v->Q v H'
noncomputable def plS (w1 w2:Fw)(ms:List Tx):List (Fw×Tx):=(if zz∈ms then [(w1,zz)] else [])++(if yy∈ms then [(w2,yy)] else [])
noncomputable def xB:Sp:=λvs H Q _=>∃ (c:Int) (wa ma:Addr) (w1 w2:Fw) (ms:List Tx),vs=[.int c,.ref wa,.ref ma]/\H wa=some (.lst [tx (z9 w1),tx (z9 w2)])/\H ma=some (.lst (ms.map tx))/\∀ pa as L H',Same H H'->PlH H' pa as L->L.map Prod.snd=plS w1 w2 ms->(∀ p∈L,p.1 > 0)->(∀ a∈as,H a=none)->H pa=none->Q (.ref pa) H'
noncomputable def js (c:Int)(ps:List Pc):List Pc:=if mixM c 13 2=1 then ps++[.lit [60,118,62]] else ps
noncomputable def wk:Sp:=λvs H Q _=>∃ (c:Int) (wa ma:Addr) (w1 w2:Fw) (ms:List Tx),vs=[.int c,.ref wa,.ref ma]/\H wa=some (.lst [tx (z9 w1),tx (z9 w2)])/\H ma=some (.lst (ms.map tx))/\∀ r ps z H',Same H H'->IsDt H' (.ls (dPs (js c ps))) (.ref r)->Res1 3 zB [] zB [] ps z->(∀ p,z=some p->p∈plS w1 w2 ms)->(z=none->plS w1 w2 ms=[])->Bz 4 6000 20000 (js c ps)->Q (.ref r) H'
noncomputable def qH (d:Nat):Sp:=λvs H Q _=>∃ (c:Int) (wa ma:Addr) (w1 w2:Fw) (ms:List Tx),vs=[.int c,.ref wa,.ref ma]/\H wa=some (.lst [tx (z9 w1),tx (z9 w2)])/\H ma=some (.lst (ms.map tx))/\Ms ms/\ms.length<d/\∀ H',Same H H'->Q (.bl true) H'
theorem V7 (f:Ft):depD (reD (.error f))<=50:=by
 have h1:∀ T:Lc,xP (T.map λ(t:Nat)=>Dat.fl (V.int t))=0:=λT=>by
  induction T with
  | nil=>rfl
  | cons x l ih=>simp only [uu,xP,depD,ih];rfl
 have h2:∀ l:List Tx,xP (l.map ft)=0:=λl=>by
  induction l with
  | nil=>rfl
  | cons x l ih=>simp only [uu,xP,depD,ih];rfl
 cases f<;>simp [reD,plD,depD,xP,h1,h2]
theorem zht {H:Hp}{f:Ft}{v:V}(h:IsDt H (reD (.error f)) v):∃ x,v=.ref x:=by cases f<;>(obtain⟨x,_,e,_⟩:=h;exact⟨x,e⟩)
theorem KS (f:Tx->Bool):∀ ms:List Tx,(((ms.map tx).zip ms).filter λz=>f z.2).map (λz=>z.1)=(ms.filter f).map tx
 | []=>rfl
 | m::ms=>by have ih:=KS f ms;simp only [uu,List.zip_cons_cons,Gy];cases f m<;>simp [ih]
theorem zhu {w1 w2:Fw}{ms:List Tx}(hm:Ms ms)(h:plS w1 w2 ms=[]):ms=[]:=by
 cases ms with
 | nil=>rfl
 | cons m ms=>
  unfold plS at h;obtain⟨h1,h2⟩:=List.append_eq_nil_iff.mp h;rcases hm m (by simp) with e | e
  ·rw [ud (by rw [e];simp)] at h1;cases h1
  ·rw [ud (by rw [e];simp)] at h2;cases h2
theorem zhv {w1 w2 w':Fw}{ms:List Tx}{mk:Tx}(h:(w',mk)∈plS w1 w2 ms):mk∈ms/\(mk=zz/\w' = w1\/mk=yy/\w' = w2):=by
 unfold plS at h;rcases Ud.mp h with h | h
 ·split at h
  ·rename_i hz;simp only [uE,Uj] at h;obtain⟨rfl,rfl⟩:=h;exact⟨hz,.inl ⟨rfl,rfl⟩⟩
  ·cases h
 ·split at h
  ·rename_i hz;simp only [uE,Uj] at h;obtain⟨rfl,rfl⟩:=h;exact⟨hz,.inr ⟨rfl,rfl⟩⟩
  ·cases h
local macro_rules | `(tactic| walk_at "z") => `(tactic| simp only [List.cons.injEq, V.ref.injEq, V.int.injEq, V.bl.injEq, zhE, Int.natCast_inj, and_true, true_and, and_assoc, exists_and_left, exists_eq_left'])
section
variable {p q r s:Addr} {i j k:Int} {l m n o:Lc} {t u v:Nat} {w x y z:V} {α β γ δ ε ζ η ι κ:Type}
theorem zh1 {P:Nat->Prop}:(∃ a,[V.int t]=[.int (a:Nat)]/\P a)=(P t):=by walk_at "z"
theorem zh2 {P:Lc->Prop}:(∃ a,[V.str (S l)]=[.str (S a)]/\P a)=(P l):=by walk_at "z"
theorem zh3 {P:Nat->Prop}:(∃ a,[V.str (S [t])]=[.str (S [a])]/\P a)=(P t):=by walk_at "z"
theorem zh4 {P:Lc->Nat->Prop}:(∃ a b,[V.str (S l),V.str (S [t])]=[.str (S a),.str (S [b])]/\P a b)=(P l t):=by walk_at "z"
theorem zh5 {P:Addr->α->Prop}{Q:Lc->Addr->α->Addr->β->Prop}:(∃ a b c d e,[V.str (S l),V.ref p,V.ref q]=[.str (S a),.ref b,.ref d]/\P b c/\Q a b c d e)=(∃ c,P p c/\∃ e,Q l p c q e):=by walk_at "z"
theorem zh7 {P:Addr->α->Prop}{Q:Addr->α->Addr->β->Prop}:(∃ a b c d,[V.ref p,V.ref q]=[.ref a,.ref c]/\P a b/\Q a b c d)=(∃ b,P p b/\∃ d,Q p b q d):=by walk_at "z"
theorem zh8 {P:Addr->α->Prop}{Q:Addr->α->Nat->Addr->β->Prop}:(∃ a b c d e,[V.ref p,V.str (S [t]),V.ref q]=[.ref a,.str (S [c]),.ref d]/\P a b/\Q a b c d e)=(∃ b,P p b/\∃ e,Q p b t q e):=by walk_at "z"
theorem zh9 {P:V->α->Nat->Prop}:(∃ a b c,[w,V.str (S [t])]=[a,.str (S [c])]/\P a b c)=(∃ b,P w b t):=by walk_at "z"
theorem zh10 {P:V->α->Prop}:(∃ a b,[w]=[a]/\P a b)=(∃ b,P w b):=by walk_at "z"
theorem zh11 {P:V->α->Lc->Prop}:(∃ a b c,[w,V.str (S l)]=[a,.str (S c)]/\P a b c)=(∃ b,P w b l):=by walk_at "z"
theorem zh12 {P:Addr->α->Nat->Prop}:(∃ a b c,[V.ref p,V.int t]=[.ref a,.int (c:Nat)]/\P a b c)=(∃ b,P p b t):=by walk_at "z"
theorem zh13 {P:Int->Int->Int->Prop}:(∃ a b c,[V.int i,V.int j,V.int k]=[.int a,.int b,.int c]/\P a b c)=(P i j k):=by walk_at "z"
theorem zh14 {P:Int->Int->Prop}:(∃ a b,[V.int i,V.int j]=[.int a,.int b]/\P a b)=(P i j):=by walk_at "z"
theorem zh16 {P:Addr->α->β->γ->V->δ->Prop}:(∃ a b c d e g,[V.ref p,w]=[.ref a,e]/\P a b c d e g)=(∃ b c d g,P p b c d w g):=by walk_at "z"
theorem zh18 {P:Addr->α->V->Prop}:(∃ a b c,[V.ref p,w]=[.ref a,c]/\P a b c)=(∃ b,P p b w):=by walk_at "z"
theorem zh19 {P:Addr->α->β->γ->δ->Prop}{Q:Addr->α->β->γ->δ->ε->Prop}:(∃ a b c d e g,[V.ref p]=[.ref a]/\P a b c d e/\Q a b c d e g)=(∃ b c d e,P p b c d e/\∃ g,Q p b c d e g):=by walk_at "z"
theorem zh21 {P:V->α->Prop}:(∃ a b,[w,x]=[a,y]/\P a b)=(x=y/\∃ b,P w b):=by walk_at "z"
theorem zh22 {P:Addr->α->β->Prop}:(∃ a b c,[V.ref p]=[.ref a]/\P a b c)=(∃ b c,P p b c):=by walk_at "z"
theorem zh25 {P:Int->Lc->Addr->α->β->Prop}:(∃ a b c d e,[V.int i,V.str (S l),w,V.ref p]=[.int a,.str (S b),x,.ref c]/\P a b c d e)=(w=x/\∃ d e,P i l p d e):=by walk_at "z"
theorem zh26 {P:Int->Lc->Lc->Lc->Addr->α->β->Prop}:(∃ a b c d e g h,[V.int i,V.str (S l),V.str (S m),V.str (S n),w,V.ref p]=[.int a,.str (S b),.str (S c),.str (S d),x,.ref e]/\P a b c d e g h)=(w=x/\∃ g h,P i l m n p g h):=by walk_at "z"
theorem zh27 {P:Int->Addr->α->β->Prop}:(∃ a b c d,[V.int i,V.ref p]=[.int a,.ref b]/\P a b c d)=(∃ c d,P i p c d):=by walk_at "z"
theorem zh28 {P:V->α->Prop}{Q:V->α->Addr->β->Prop}:(∃ a b c d,[w,V.ref p]=[a,.ref c]/\P a b/\Q a b c d)=(∃ b,P w b/\∃ d,Q w b p d):=by walk_at "z"
theorem zh29 {P:Addr->α->β->Prop}{Q:Int->Addr->Addr->α->β->γ->Prop}:(∃ a b c d e g,[V.int i,V.ref p,V.ref q]=[.int a,.ref b,.ref c]/\P b d e/\Q a b c d e g)=(∃ d e,P p d e/\∃ g,Q i p q d e g):=by walk_at "z"
end
set_option backward.dsimp.useDefEqAttr false
local macro_rules | `(tactic| walk_at "rd") => do
  let p := fun x => (x : String).splitOn " "
  let a := p "kD xr yq wg yk yl Wu zT xt qK wY ym vE Xl jT kE kF kG kH yn kI ZS kJ Ja kK kL kM ZT vw vx yo kN kP yp kQ ZF ZG Wv VY ZV v9 qY qp wj jD jx zx jg qk qL jn jP jo vA Wy vy qi xO jm jU jr vB xA wq vC je z7 qG qW z8 vd jF wI qq xB wk qH J1 tLC iStr zbL YJ X5 tSeq tIfS tRet tAsg J4 zbJ Vl tOp tUn tC YK tB tAnd tOr tNot tIf jy tNil tCB tLst rInT zcv zb1 ZP Ws Vy Vz tTry tAtX rIsX zb4 tTup tBM tSl zbS Wk ipI rI rI0 rU rEq rNe Vt rIxL rIxT zee zeh VA VH zcj zck zeK rSlU VI rEqD rNeD zeM Vu zce zch W0 zeW gSub zd6 VG tFld sFld zaD zaB rEq0 rIn rEqS rCat gTup XX gNil"
  let q := fun (x : List String) => x.toArray.mapM fun s => `(Lean.Parser.Tactic.simpLemma| $(Lean.mkIdent s.toName):ident)
  let d ← q (p "cxK cxK0 L2.start Jv Zi Qd yB Qf Qh zaK Jx zaN Qj Ql Qn Xb ze6 ki JA JC JE JG Qp JI Xd JK VN JM JO JQ Xf Zl Zn Qr JS JU Qt ZR VR VT za0 zfb Xi JW vj kl Qx yD wO wQ j9 jN wu wx xk wy vb Zq za3 Zt Qz kq Zv ky Zw Zx yE vk Zz yG ZA kA ZC vY QC yI v7 kB yK yM vv zfd mC mN rC rN uq Uw Nat.reduceAdd Nat.reduceSub")
  let l ← q (a ++ p "zgv zde uO zA wV Int.natCast_inj WM xC tVar kR zes sL0 sL1 sL2 sL3 sL4 sL5 sL6 sL7 sL8 sL9 cxKh zgI Nat.reduceEqDiff QL YL zg9 blkK nc0 nc1 nc2 nc3 nc94 zas uu U4 List.replicate uH Uk uw List.getElem?_cons_zero List.getElem?_cons_succ List.set_cons_zero List.set_cons_succ gq List.cons.injEq V.int.injEq V.str.injEq V.bl.injEq V.ref.injEq V.ty.injEq vo zhE and_true true_and eq_self and_assoc exists_eq_left exists_eq_left' exists_eq_right exists_eq exists_eq' exists_and_left exists_and_right exists_const reduceCtorEq false_and and_false GL false_or exists_false Int.reduceLT Int.reduceLE Nat.reduceLeDiff Nat.reduceLT Int.reduceEq Nat.sub_self Uu decide_true decide_false zkG zkH if_true gc Bool.not_true Bool.not_false Up")
  let m ← (a.map (· ++ ".eq_1") ++ p "mC mN vSs gS0 gSs augD exB exI exII exR0 exR1 exR2 exR3 exF exL1 exDD caN meN maN exN exD exSS vS0 zh1 zh2 zh3 zh4 zh5 zh7 zh8 zh9 zh10 zh11 zh12 zh13 zh14 zh16 zh18 zh19 zh21 zh22 zh25 zh26 zh27 zh28 zh29").toArray.mapM fun s => `(Lean.Parser.Tactic.simpLemma| ↓ $(Lean.mkIdent s.toName):ident)
  `(tactic| ((try dsimp only [$d,*]); simp only [$d,*, $l,*, $m,*, ↓reduceIte]))
local macro_rules | `(tactic| walk_at "hd") => do
 let h:=Lean.mkIdent `hN
 let n:=Lean.mkIdent `N_
 `(tactic| ((try subst $h:ident); (try refine seqN λ$n $h => ?_); walk_at "rd"))
local macro_rules | `(tactic| walk_at "ln") => `(tactic| (intro vs H Q E h; repeat (first | (have h1 := And.left h; subst h1; rfl) | obtain ⟨_, h⟩ := h)))
local macro_rules | `(tactic| walk_at "b") => do
  let l := ("f cdv A outer s H vs Q E hr h".splitOn " ").toArray.map fun s => Lean.mkIdent s.toName
  `(tactic| ((· walk_at "ln"); intro $l:ident*))
section
variable {P:Program} {w:World} {K:Le} {mg:La} {base:Heap} {t:Ads}
theorem zbj (T:Txt w K mg t)(D:Df K mg "sign_of" Ju vK):OkF P w K mg base 1 "sign_of" vK kD:=by
 refine D.ok zaI ?_ ?_;walk_at "b"
 ·refine ex1 h λn h=>?_;refine av2 h λhn k=>?_;refine⟨_,(zd (zg (Vf ix_S (jH T.g_SIGNS) (qv 0) (λ_ _=>(by rfl))))).h,?_⟩
  walk_at "rd";have hn':n<sg.length:=by rw [zas];exact hn
  have e:sg[n]? = some sg[n]:=uo hn';exact⟨_,e,k _ H e (Same.refl H)⟩
theorem V8 (T:Txt w K mg t)(D:Df K mg "sign_told" Zh wm)(aV:OkF P w K mg base 1 "sign_of" vK kD):OkF P w K mg base 2 "sign_told" wm xr:=by
 refine D.ok Q6 ?_ ?_;walk_at "b"
 ·refine ex1 h λl h=>?_;refine av2 h λhl k=>?_;refine⟨_,(zc (zo (QW.qt (zcp (qtD zdU (qr Jn (by rfl) T.z_len Qa (qa1 (qv 0))) ze) (zcp (qtD X6 (Vf ix_S (qv 0) ze (λ_ _=>(by rfl))) (jH T.g_FIGURES)) (zeV (qtD X6 (Vf ix_S (qv 0) ze (λ_ _=>(by rfl))) (jH T.g_FIGURES)))))) (zd (zg zH)) zi) (zc (qsE 1 Q6.nd (Jr zdc (by rfl) T.z_int zej (qa1 (qv 0)))) (zd (zg (xQ (qtD zdV (qv 1) (qr Jn (by rfl) T.z_len Qa (qa1 (jH T.g_SIGNS)))) (qF aV hr (qa1 (qv 1))) zH))))).h,?_⟩
  walk_at "rd";refine⟨by lia,?_⟩;by_cases hl2:l.length=2
  ·obtain⟨c,d,rfl⟩:∃ c d,l=[c,d]:=by
    match l,hl2 with
    | [c,d],_=>exact⟨c,d,rfl⟩
   walk_at "rd"
   by_cases h1:c∈fg
   ·rw [ub (by simp [h1])]
    by_cases h2:d∈fg
    ·rw [ub (by simp [h2])]
     have f1:=(Vw c).mp h1
     have f2:=(Vw d).mp h2
     refine⟨f1,f2,?_⟩
     have et:L2.told [c,d]=sg[(c - 48) * 10+(d - 48)]?:=by
      show(if yQ c=true/\yQ d=true then _ else _)=_
      rw [ud ⟨f1,f2⟩]
     by_cases h3:(c - 48) * 10+(d - 48)<94
     ·rw [ud (by lia)]
      refine⟨h3,λx H' e g=>?_⟩
      rw [et,e] at k
      exact k H' g
     ·rw [ub (by lia)]
      rw [et,UA.mpr (by rw [zas];lia)] at k
      exact k H (Same.refl H)
    ·rw [ud (by simp [h2])]
     have e:L2.told [c,d]=none:=by
      show(if yQ c=true/\yQ d=true then _ else _)=_
      rw [ub (by rintro⟨_,z⟩;exact h2 ((Vw d).mpr z))]
     rw [e] at k
     exact k H (Same.refl H)
   ·rw [ud (by simp [h1])]
    have e:L2.told [c,d]=none:=by
     show(if yQ c=true/\yQ d=true then _ else _)=_
     rw [ub (by rintro⟨z,_⟩;exact h1 ((Vw c).mpr z))]
    rw [e] at k
    exact k H (Same.refl H)
  ·rw [zgx hl2] at k;rw [ud (by simp;lia)];exact k H (Same.refl H)
theorem Xw (T:Txt w K mg t)(D:Df K mg "fed_between" yA jz):OkF P w K mg base 1 "fed_between" jz wg:=by
 refine D.ok W9 ?_ ?_;walk_at "b"
 ·refine ex1 h λc h=>?_;refine av1 h λk=>?_;refine⟨_,(zc (zo (qtD zv (qv 0) (qS [32])) (zd (zg (zh (qa2 (qS [98,101,116,119,101,101,110]) (zk zC))))) zi) (zc (zo (qtD zv (qv 0) (qS [39])) (zd (zg (zh (qa2 (qS [115,97,105,100]) (zk (qa1 (zh (qa1 (qS [115,97,105,100]))))))))) zi) (zc (zo (qtD vf (qv 0) (jH T.g_WORDSIGNS)) (zd (zg (zh (qa2 (qS [119,111,114,100]) (zk (qa2 (zh (qa1 (qS [119,111,114,100]))) (zh (qa2 (qS [115,105,103,110]) (qv 0))))))))) zi) (zd (zg zH))))).h,?_⟩
  walk_at "rd";unfold fedB at k;by_cases h1:c=32
  ·rw [ud h1] at k ⊢;intro p hp p1 hp1;have a:=Wb (G:=λa=>H a=none) (t:=j6) hp1 (evl0 (H:=H) (q:=p)) hp;exact k _ _ ((za hp).trans a.1) a.2
  rw [ub h1] at k ⊢;by_cases h2:c=39
  ·rw [ud h2] at k ⊢;intro p hp p1 hp1 p2 hp2;have a:=Wb (G:=λa=>H a=none) (t:=vp) hp2 (evl1 (e:=[zhI]) hp1) (zm hp1);exact k _ _ ((za hp).trans ((za hp1).trans a.1)) a.2
  rw [ub h2] at k ⊢;by_cases h3:c∈ws
  ·rw [ud h3] at k ⊢;intro p hp p1 hp1 p2 hp2 p3 hp3
   have he:EvL (upd (upd (upd H p (.tup [.str (S zeD)])) p1 (.tup [.str (S wA),.str (S [c])])) p2 (.lst [.ref p,.ref p1])) p2 [[zeD],[wA,[c]]]:=
    ⟨_,zb,.cons ⟨p,rfl,za hp2 _ _ (za hp1 _ _ zb)⟩ (.cons ⟨p1,rfl,za hp2 _ _ zb⟩ .nil)⟩
   have a:=Wb (G:=λa=>H a=none) (t:=Z3) hp3 he (zm (zm hp2));exact k _ _ ((za hp).trans ((za hp1).trans ((za hp2).trans a.1))) a.2
  ·rw [ub h3] at k ⊢;exact k _ _ (Same.refl H) rfl
theorem KU (T:Txt w K mg t)(D:Df K mg "fed_word" Qe xU)(aF:OkF P w K mg base 1 "fed_between" jz wg):OkF P w K mg base 2 "fed_word" xU yk:=by
 refine D.ok Ko ?_ ?_;walk_at "b"
 ·refine ex1 h λc h=>?_;refine av1 h λk=>?_;refine⟨_,(zc (zo (qtD vf (qv 0) (jH T.g_WORDSIGNS)) (zd (zg (zh (qa2 (qS [119,111,114,100]) (zk (qa1 (zh (qa2 (qS [115,105,103,110]) (qv 0))))))))) zi) (zd (zg (qF aF hr (qa1 (qv 0)))))).h,?_⟩
  walk_at "rd";unfold fedW at k;by_cases h3:c∈ws
  ·rw [ud h3] at k ⊢;intro p hp p1 hp1 p2 hp2;have a:=Wb (G:=λa=>H a=none) (t:=Z3) hp2 (evl1 (e:=[wA,[c]]) hp1) (zm hp1);exact k _ _ ((za hp).trans ((za hp1).trans a.1)) a.2
  ·rw [ub h3] at k ⊢;exact k
theorem KW (T:Txt w K mg t)(D:Df K mg "fed_said" Qg xV):OkF P w K mg base 1 "fed_said" xV yl:=by
 refine D.ok Kq ?_ ?_;walk_at "b"
 ·refine ex1 h λc h=>?_;refine av1 h λk=>?_;refine⟨_,(zc (zo (qtD zv (qv 0) (qS [39])) (zd (zg (zh (qa2 (qS [98,101,116,119,101,101,110]) (zk zC))))) zi) (zc (zo (qtD zv (qv 0) (qS [92])) (zd (zg (zh (qa2 (qS [115,116,114,111,107,101]) (zk zC))))) zi) (zd (zg (zh (qa2 (qS [115,97,105,100]) (zk (qa1 (zh (qa2 (qS [115,105,103,110]) (qv 0))))))))))).h,?_⟩
  walk_at "rd";unfold fedS at k;by_cases h1:c=39
  ·rw [ud h1] at k ⊢;intro p hp p1 hp1;have a:=Wb (G:=λa=>H a=none) (t:=j6) hp1 (evl0 (H:=H) (q:=p)) hp;exact k _ _ ((za hp).trans a.1) a.2
  rw [ub h1] at k ⊢;by_cases h2:c=92
  ·rw [ud h2] at k ⊢;intro p hp p1 hp1;have a:=Wb (G:=λa=>H a=none) (t:=Wn) hp1 (evl0 (H:=H) (q:=p)) hp;exact k _ _ ((za hp).trans a.1) a.2
  rw [ub h2] at k ⊢;intro p hp p1 hp1 p2 hp2;have a:=Wb (G:=λa=>H a=none) (t:=vp) hp2 (evl1 (e:=[wA,[c]]) hp1) (zm hp1);exact k _ _ ((za hp).trans ((za hp1).trans a.1)) a.2
theorem zhw (T:Txt w K mg t)(D:Df K mg "feed" zaJ Q7)(aF:OkF P w K mg base 1 "fed_between" jz wg)(aW:OkF P w K mg base 2 "fed_word" xU yk)(aX:OkF P w K mg base 1 "fed_said" xV yl):OkF P w K mg base 3 "feed" Q7 Wu:=by
 refine D.ok zg5 ?_ ?_;walk_at "b"
 ·refine ex2 h λtk c h=>?_;refine av1 h λk=>?_;refine⟨_,(zc (zo (qtD zv (qv 0) (qS [98,101,116,119,101,101,110])) (zd (zg (qF aF hr (qa1 (qv 1))))) zi) (zc (zo (qtD zv (qv 0) (qS [119,111,114,100])) (zd (zg (qF aW hr (qa1 (qv 1))))) zi) (zc (zo (qtD zv (qv 0) (qS [115,97,105,100])) (zd (zg (qF aX hr (qa1 (qv 1))))) zi) (zc (zo (qtD zv (qv 0) (qS [115,116,114,111,107,101])) (zd (zg (zh (qa2 (qS [115,97,105,100]) (zk (qa1 (zh (qa2 (qS [115,105,103,110]) (qv 1))))))))) zi) (zd (zg zH)))))).h,?_⟩
  walk_at "rd";unfold WV at k;by_cases h1:tk=j6
  ·rw [ud h1] at k ⊢;exact k
  rw [ub h1] at k ⊢;by_cases h2:tk=Z3
  ·rw [ud h2] at k ⊢;exact k
  rw [ub h2] at k ⊢;by_cases h3:tk=vp
  ·rw [ud h3] at k ⊢;exact k
  rw [ub h3] at k ⊢;by_cases h4:tk=Wn
  ·rw [ud h4] at k ⊢;intro p hp p1 hp1 p2 hp2;have a:=Wb (G:=λa=>H a=none) (t:=vp) hp2 (evl1 (e:=[wA,[c]]) hp1) (zm hp1);exact k _ _ ((za hp).trans ((za hp1).trans a.1)) a.2
  rw [ub h4] at k ⊢;exact k _ _ (Same.refl H) rfl
theorem zbk (T:Txt w K mg t)(D:Df K mg "come_to" Jw zN):OkF P w K mg base 1 "come_to" zN zT:=by
 refine D.ok zaL ?_ ?_;walk_at "b"
 ·refine ex5 h λm oa op ea es h=>?_;refine av3 h λho he k=>?_;refine⟨_,(zd (zg (zh (qa2 (zh (qa4 (qv 0) (qS []) (qv 1) (qS []))) (qv 2))))).h,?_⟩
  walk_at "rd";intro p hp p1 hp1;have a:=zkD (G:=λa=>a=ea) (m:=m) (w:=[]) (t:=[]) hp hp1 ho he rfl;exact k _ _ a.1 a.2
theorem zhx (T:Txt w K mg t)(D:Df K mg "told" zaM wG)(aa:OkF P w K mg base 1 "come_to" zN zT):OkF P w K mg base 2 "told" wG xt:=by
 refine D.ok zg6 ?_ ?_;walk_at "b"
 ·refine ex4 h λm oa op o h=>?_;refine av2 h λho k=>?_;refine⟨_,(zc (zo (qtD Jh (qv 2) zH) (zd (zg zH)) zi) (zd (zg (qF aa hr (qa3 (qv 0) (qv 1) (zk (qa1 (zh (qa2 (qS [115,105,103,110]) (qv 2)))))))))).h,?_⟩
  walk_at "rd";cases o with
  | none=>rw [ud (show oV none=V.non from rfl)];exact k _ _ (Same.refl H) rfl
  | some c=>rw [ub (by intro z;cases z)];intro p hp p1 hp1;exact⟨op,ho.mono ((za hp).trans (za hp1)),[[wA,[c]]],evl1 (e:=[wA,[c]]) hp1,λv H' g a=>k v H' (((za hp).trans (za hp1)).trans g) (a.imp λx e=>by subst e;exact zm hp1)⟩
theorem KY (T:Txt w K mg t)(D:Df K mg "gathered" Qi qx):OkF P w K mg base 1 "gathered" qx qK:=by
 refine D.ok Kr ?_ ?_;walk_at "b"
 ·refine ex6 h λm wd oa op tk n h=>?_;refine av3 h λho hl k=>?_;refine⟨_,(zc (zo (qtD WE (qr Jn (by rfl) T.z_len Qa (qa1 (qv 1))) (qv 4)) (zd (zg zH)) zi) (zd (zg (zh (qa2 (zh (qa4 (qv 0) (qv 1) (qv 2) (qv 3))) (zk zC)))))).h,?_⟩
  walk_at "rd";refine⟨by lia,?_⟩;unfold gath at k;by_cases h:n<wd.length
  ·rw [ud h] at k;rw [ud (by lia)];exact k _ _ (Same.refl H) rfl
  ·rw [ub h] at k;rw [ub (by lia)];intro p hp p1 hp1 p2 hp2;have g:=(za (o:=.tup [.str (S m),.str (S wd),.ref oa,.str (S tk)]) hp).trans (za (o:=.lst []) hp1);exact k _ _ (g.trans (za hp2)) (Q1 (za hp1 _ _ zb) (ho.mono g) evl0 (zm hp1) hp2)
theorem KZ (T:Txt w K mg t)(D:Df K mg "box_shut" Qk j8)(aa:OkF P w K mg base 1 "come_to" zN zT):OkF P w K mg base 2 "box_shut" j8 wY:=by
 refine D.ok Ks ?_ ?_;walk_at "b"
 ·refine ex4 h λoa op ea es h=>?_;refine av4 h λho he hl k=>?_;refine⟨_,(zc (zo (Zf (Vg (K:=K) (by rfl) (qv 0))) (zd (zg zH)) zi) (zd (zg (qF aa hr (qa3 (qS [116,101,120,116]) (Kh zcl (qv 0) zcn (zco (zeQ zah ze))) (zr qI (qv 1) (zk (qa1 (zh (qa1 (qS [111,117,116]))))))))))).h,?_⟩
  walk_at "rd";refine⟨_,zca ho,?_⟩;unfold yc at k;by_cases h:op=[]
  ·subst h;rw [ud rfl] at k;rw [ud (show(!!(List.map tx ([]:List Tx)).isEmpty)=true from rfl)];exact k _ _ (Same.refl H) rfl
  ·rw [ub h] at k;rw [ub (by cases op with | nil=>exact absurd rfl h | cons=>simp)];obtain⟨vs,e1,e2⟩:=he;refine⟨_,ho,λp H1 g1 hp p1 hp1 p2 hp2=>?_⟩;have g2:=(za (o:=.tup [.str (S eOut)]) hp1).trans (za (o:=.lst [.ref p1]) hp2);refine⟨vs,g2 _ _ (g1 _ _ e1),_,zb,by rw [e2.len];simp;lia,λp3 hp3=>?_⟩;have g3:=g2.trans (za (o:=.lst (vs++[.ref p1])) hp3);refine⟨op.dropLast,?_,es++[[eOut]],⟨_,zb,(e2.mono (g1.trans g3)).app (.cons ⟨p1,rfl,za hp3 _ _ (za hp2 _ _ zb)⟩ .nil)⟩,λv H' g a=>k v H' (g1.trans (g3.trans g)) (a.imp λx e=>?_)⟩
   ·rw [zeE,map_dropLast] at hp;exact g3 _ _ hp
   ·subst e;exact qT g1 (zm (zm hp3))
theorem K0 (T:Txt w K mg t)(D:Df K mg "into_box" Qm xW)(aa:OkF P w K mg base 1 "come_to" zN zT):OkF P w K mg base 2 "into_box" xW ym:=by
 refine D.ok Wd ?_ ?_;walk_at "b"
 ·refine ex4 h λoa op ea es h=>?_;refine av4 h λho he hl k=>?_;refine⟨_,(zc (zo (Zf (Vg (K:=K) (by rfl) (qv 0))) (zd (zg zH)) zi) (zc (qsE 2 Wd.nd (xQ (qtD zv (qxT K (qv 0) (zeQ zah ze)) (qS [97,115,105,115])) (qS [97,115,105,115]) (qS [116,101,120,116]))) (zd (zg (qF aa hr (qa3 (qv 2) (qv 0) (zr qI (qv 1) (zk (qa1 (zh (qa1 (qS [105,110])))))))))))).h,?_⟩
  walk_at "rd";refine⟨_,zca ho,?_⟩;unfold vq at k;by_cases h:op=[]
  ·subst h;rw [ud rfl] at k;rw [ud (show(!!(List.map tx ([]:List Tx)).isEmpty)=true from rfl)];exact k _ _ (Same.refl H) rfl
  ·rw [ub h] at k;rw [ub (by cases op with | nil=>exact absurd rfl h | cons=>simp)];obtain⟨vs,e1,e2⟩:=he
   obtain⟨l,hla⟩:∃ l,op.getLast? = some l:=by
    cases op with
    | nil=>exact absurd rfl h
    | cons a r=>exact⟨_,List.getLast?_eq_some_getLast (by simp)⟩
   refine⟨_,SqT.of ho,V.str (S l),by rw [zdn,List.getLast?_map,hla];rfl,rfl,?_⟩;rw [hla] at k;by_cases h2:l=QX
   ·subst h2;rw [ud rfl] at k ⊢;intro p1 hp1 p2 hp2;have g2:=(za (o:=.tup [.str (S eIn)]) hp1).trans (za (o:=.lst [.ref p1]) hp2);refine⟨vs,g2 _ _ e1,_,zb,by rw [e2.len];simp;lia,λp3 hp3=>?_⟩;have g3:=g2.trans (za (o:=.lst (vs++[.ref p1])) hp3);exact⟨op,ho.mono g3,es++[[eIn]],⟨_,zb,(e2.mono g3).app (.cons ⟨p1,rfl,za hp3 _ _ (za hp2 _ _ zb)⟩ .nil)⟩,λv H' g a=>k v H' (g3.trans g) (a.imp λx e=>by subst e;exact zm (zm hp3))⟩
   ·rw [ub (by intro z;exact h2 (uF z))] at k;rw [ub (by rw [V.str.injEq,vo];exact h2)];intro p1 hp1 p2 hp2;have g2:=(za (o:=.tup [.str (S eIn)]) hp1).trans (za (o:=.lst [.ref p1]) hp2);refine⟨vs,g2 _ _ e1,_,zb,by rw [e2.len];simp;lia,λp3 hp3=>?_⟩;have g3:=g2.trans (za (o:=.lst (vs++[.ref p1])) hp3);exact⟨op,ho.mono g3,es++[[eIn]],⟨_,zb,(e2.mono g3).app (.cons ⟨p1,rfl,za hp3 _ _ (za hp2 _ _ zb)⟩ .nil)⟩,λv H' g a=>k v H' (g3.trans g) (a.imp λx e=>by subst e;exact zm (zm hp3))⟩
theorem zdG (T:Txt w K mg t)(D:Df K mg "led_on" Xa xG)(aa:OkF P w K mg base 1 "come_to" zN zT)(aY:OkF P w K mg base 2 "into_box" xW ym):OkF P w K mg base 3 "led_on" xG vE:=by
 refine D.ok zdz ?_ ?_;walk_at "b"
 ·refine ex5 h λoa op c ea es h=>?_;refine av4 h λho he hl k=>?_;refine⟨_,(zc (zo (qtD zv (qv 1) (qS [32])) (zd (zg (qF aa hr (qa3 (qS [103,97,112]) (qv 0) (qv 2))))) zi) (zc (zo (qtD zv (qv 1) (qS [47])) (zd (zg (qF aa hr (qa3 (qS [115,108,97,115,104]) (qv 0) (qv 2))))) zi) (zc (zo (qtD zv (qv 1) (qS [62])) (zd (zg (qF aY hr (qa2 (qv 0) (qv 2))))) zi) (zd (zg zH))))).h,?_⟩
  walk_at "rd";unfold WU at k;by_cases h1:c=32
  ·rw [ud h1] at k ⊢;exact⟨op,ho,es,he,λv H' g a=>k v H' g (a.imp λx e=>.inr e)⟩
  rw [ub h1] at k ⊢;by_cases h2:c=47
  ·rw [ud h2] at k ⊢;exact⟨op,ho,es,he,λv H' g a=>k v H' g (a.imp λx e=>.inr e)⟩
  rw [ub h2] at k ⊢;by_cases h3:c=62
  ·rw [ud h3] at k ⊢;exact⟨op,ho,es,he,hl,λv H' g a=>k v H' g (a.imp λx e=>.inl e)⟩
  rw [ub h3] at k ⊢;exact k _ _ (Same.refl H) rfl
theorem zi6 (T:Txt w K mg t)(D:Df K mg "fed" ze5 Jy)(aZ:OkF P w K mg base 3 "feed" Q7 Wu):OkF P w K mg base 4 "fed" Jy Xl:=by
 refine D.ok ze7 ?_ ?_;walk_at "b"
 ·refine ex4 h λoa op tk o h=>?_;refine av2 h λho k=>?_;refine⟨_,(zc (qsE 3 ze7.nd (xQ (qtD Jh (qv 2) zH) zH (qF aZ hr (qa2 (qv 1) (qv 2))))) (zc (zo (qtD Jh (qv 3) zH) (zd (zg zH)) zi) (zd (zg (zh (qa2 (zh (qa4 (qS [116,97,108,107]) (qS []) (qv 0) (qxT K (qv 3) ze))) (qxT K (qv 3) ze))))))).h,?_⟩
  walk_at "rd";cases o with
  | none=>rw [ud (show oV none=V.non from rfl)];exact k _ _ (Same.refl H) rfl
  | some c=>
   rw [ub (by intro z;cases z)];refine⟨c,rfl,λv H1 g1 a=>?_⟩;unfold fedM at k;cases hf:WV tk c with
   | none=>rw [hf] at a;simp only [hf] at k;have a:v=.non:=a;subst a;rw [ud rfl];exact k _ _ g1 rfl
   | some r=>obtain⟨tk',es⟩:=r;rw [hf] at a;simp only [hf] at k;obtain⟨p,ea,rfl,hp,he,hg⟩:=a;rw [ub (by intro z;cases z)];exact⟨p,rfl,_,SqT.of hp,_,rfl,λp1 hp1=>⟨p,rfl,_,SqT.of (za hp1 _ _ hp),_,rfl,λp2 hp2=>k _ _ (g1.trans ((za hp1).trans (za hp2))) (Q1 zb ((ho.mono g1).mono (za hp1)) (he.mono (za hp1)) hg hp2)⟩⟩
theorem XH (T:Txt w K mg t)(D:Df K mg "mark_ended" kh jt)(aG:OkF P w K mg base 2 "sign_told" wm xr):OkF P w K mg base 3 "mark_ended" jt jT:=by
 refine D.ok XC ?_ ?_;walk_at "b"
 ·refine ex2 h λwd c h=>?_;refine av2 h λhl k=>?_;refine⟨_,(zd (zg (xQ (qtD zv (qv 1) (qS [59])) (qF aG hr (qa1 (qv 0))) zH))).h,?_⟩
  walk_at "rd";unfold Wa at k;by_cases h:c=59
  ·rw [ud h] at k ⊢;exact⟨by lia,k⟩
  ·rw [ub h] at k ⊢;exact k H (Same.refl H)
theorem zbl (T:Txt w K mg t)(D:Df K mg "at_text" Jz vL)(aa:OkF P w K mg base 1 "come_to" zN zT)(ag:OkF P w K mg base 2 "told" wG xt):OkF P w K mg base 3 "at_text" vL kE:=by
 refine D.ok zaO ?_ ?_;walk_at "b"
 ·refine ex5 h λwd oa op tk c h=>?_;refine av4 h λho hw hop k=>?_;refine⟨_,(zc (zo (qtD zv (qv 3) (qS [60])) (zd (zg (qF aa hr (qa3 (qS [111,112,101,110]) (qv 1) (zk zC))))) zi) (zc (zo (qtD zv (qv 3) (qS [38])) (zd (zg (qF aa hr (qa3 (qS [109,97,114,107]) (qv 1) (zk zC))))) zi) (zd (zg (qF ag hr (qa3 (qS [116,101,120,116]) (qv 1) (qv 3))))))).h,?_⟩
  walk_at "rd";unfold YZ at k;by_cases h0:c=60
  ·rw [ud h0] at k ⊢;exact λp hp=>⟨op,ho.mono (za hp),[],evl0,λv H' g a=>k v H' ((za hp).trans g) (a.imp λx e=>by subst e;exact hp)⟩
  rw [ub h0] at k ⊢;by_cases h1:c=38
  ·rw [ud h1] at k ⊢;exact λp hp=>⟨op,ho.mono (za hp),[],evl0,λv H' g a=>k v H' ((za hp).trans g) (a.imp λx e=>by subst e;exact hp)⟩
  rw [ub h1] at k ⊢;exact⟨op,some c,rfl,ho,λv H' g a=>k v H' g a⟩
theorem zbm (T:Txt w K mg t)(D:Df K mg "at_mark" JB vM)(ah:OkF P w K mg base 1 "gathered" qx qK)(ay:OkF P w K mg base 3 "mark_ended" jt jT)(ag:OkF P w K mg base 2 "told" wG xt):OkF P w K mg base 4 "at_mark" vM kF:=by
 refine D.ok zaP ?_ ?_;walk_at "b"
 ·refine ex5 h λwd oa op tk c h=>?_;refine av4 h λho hw hop k=>?_;refine⟨_,(zc (zo (qtD vf (qv 3) (jH T.g_FIGURES)) (zd (zg (qF ah hr (qa5 (qS [109,97,114,107]) (zr jJ (qv 0) (qv 3)) (qv 1) (qS []) (jH T.g_MARK_FIGURES))))) zi) (zd (zg (qF ag hr (qa3 (qS [116,101,120,116]) (qv 1) (qF ay hr (qa2 (qv 0) (qv 3)))))))).h,?_⟩
  walk_at "rd";unfold Y0 at k;by_cases h0:c∈fg
  ·rw [ud h0] at k ⊢;exact⟨by lia,op,2,rfl,ho,by rw [ug];simp;lia,λv H' g a=>k v H' g a⟩
  rw [ub h0] at k ⊢;exact⟨by lia,λH1 g1=>⟨op,Wa wd c,rfl,ho.mono g1,λv H' g a=>k v H' (g1.trans g) (a.imp λx e=>qT g1 e)⟩⟩
theorem zbn (T:Txt w K mg t)(D:Df K mg "at_open" JD vN)(aa:OkF P w K mg base 1 "come_to" zN zT)(ah:OkF P w K mg base 1 "gathered" qx qK):OkF P w K mg base 2 "at_open" vN kG:=by
 refine D.ok zaQ ?_ ?_;walk_at "b"
 ·refine ex5 h λwd oa op tk c h=>?_;refine av4 h λho hw hop k=>?_;refine⟨_,(zc (zo (qtD zv (qv 3) (qS [47])) (zd (zg (qF aa hr (qa3 (qS [115,104,117,116]) (qv 1) (zk zC))))) zi) (zc (zo (qtD vf (qv 3) (jH T.g_LETTERS)) (zd (zg (qF ah hr (qa5 (qS [110,97,109,101]) (qv 3) (qv 1) (qS []) (jH T.g_LONGEST_NAME))))) zi) (zd (zg zH)))).h,?_⟩
  walk_at "rd";unfold Y1 at k;by_cases h0:c=47
  ·rw [ud h0] at k ⊢;exact λp hp=>⟨op,ho.mono (za hp),[],evl0,λv H' g a=>k v H' ((za hp).trans g) (a.imp λx e=>by subst e;exact hp)⟩
  rw [ub h0] at k ⊢;by_cases h1:c∈lt
  ·rw [ud h1] at k ⊢;exact⟨op,8,rfl,ho,λv H' g a=>k v H' g a⟩
  rw [ub h1] at k ⊢;exact k _ _ (Same.refl H) rfl
theorem zbo (T:Txt w K mg t)(D:Df K mg "at_name" JF vO)(ah:OkF P w K mg base 1 "gathered" qx qK)(az:OkF P w K mg base 3 "led_on" xG vE):OkF P w K mg base 4 "at_name" vO kH:=by
 refine D.ok zaR ?_ ?_;walk_at "b"
 ·refine ex5 h λwd oa op tk c h=>?_;refine av4 h λho hw hop k=>?_;refine⟨_,(zc (zo (qtD vf (qv 3) (jH T.g_LETTERS)) (zd (zg (qF ah hr (qa5 (qS [110,97,109,101]) (zr jJ (qv 0) (qv 3)) (qv 1) (qS []) (jH T.g_LONGEST_NAME))))) zi) (zd (zg (qF az hr (qa3 (zr zgO (qv 1) (zh (qa1 (qv 0)))) (qv 3) (zk (qa1 (zh (qa2 (qS [98,111,120]) (qv 0)))))))))).h,?_⟩
  walk_at "rd";unfold aName at k;by_cases h0:c∈lt
  ·rw [ud h0] at k ⊢;exact⟨by lia,op,8,rfl,ho,by rw [ug];simp;lia,λv H' g a=>k v H' g a⟩
  rw [ub h0] at k ⊢;intro p hp;refine⟨_,za hp _ _ ho,_,zb,by simp;lia,λp1 H1 g1 hp1 p2 hp2 p3 hp3=>?_⟩;have g0:=(za (o:=.tup [.str (S wd)]) hp).trans g1;have g2:=(za (o:=.tup [.str (S eBox),.str (S wd)]) hp2).trans (za (o:=.lst [.ref p2]) hp3);have ho2:OpV H1 p1 (op++[wd]):=by unfold OpV;rw [hp1,Uv];rfl
  exact⟨op++[wd],ho2.mono g2,[[eBox,wd]],evl1 (e:=[eBox,wd]) hp3,by simp,λv H' g a=>k v H' (g0.trans (g2.trans g)) (a.imp λx e=>e.elim (λe=>qT g0 (zm (zm e))) λe=>by subst e;exact qT g0 (zm hp3))⟩
theorem K2 (T:Txt w K mg t)(D:Df K mg "at_slash" Qo xX)(aA:OkF P w K mg base 2 "box_shut" j8 wY):OkF P w K mg base 3 "at_slash" xX yn:=by
 refine D.ok Kt ?_ ?_;walk_at "b"
 ·refine ex5 h λwd oa op tk c h=>?_;refine av4 h λho hw hop k=>?_;refine⟨_,(zc (zo (qtD zv (qv 3) (qS [62])) (zd (zg (qF aA hr (qa2 (qv 1) (zk (qa1 (zh (qa1 (qS [105,110]))))))))) zi) (zd (zg zH))).h,?_⟩
  walk_at "rd";unfold WW at k;by_cases h0:c=62
  ·rw [ud h0] at k ⊢;exact λp hp p1 hp1=>⟨op,ho.mono ((za hp).trans (za hp1)),[[eIn]],evl1 (e:=[eIn]) hp1,by simp,λv H' g a=>k v H' (((za hp).trans (za hp1)).trans g) (a.imp λx e=>zm (zm e))⟩
  rw [ub h0] at k ⊢;exact k _ _ (Same.refl H) rfl
theorem zbp (T:Txt w K mg t)(D:Df K mg "at_shut" JH vP)(ah:OkF P w K mg base 1 "gathered" qx qK)(aA:OkF P w K mg base 2 "box_shut" j8 wY):OkF P w K mg base 3 "at_shut" vP kI:=by
 refine D.ok zaS ?_ ?_;walk_at "b"
 ·refine ex5 h λwd oa op tk c h=>?_;refine av4 h λho hw hop k=>?_;refine⟨_,(zc (zo (qtD vf (qv 3) (jH T.g_LETTERS)) (zd (zg (qF ah hr (qa5 (qS [115,104,117,116]) (zr jJ (qv 0) (qv 3)) (qv 1) (qS []) (jH T.g_LONGEST_NAME))))) zi) (zc (zo (QW.qt (vh (qtD zv (qv 3) (qS [62])) (xg (qtD (zgH (K:=K) (by rfl) (zhG hr)) (Kh zcl (qv 1) (zco (zeQ zah ze)) zcn) (zh (qa1 (qv 0))))))) (zd (zg (qF aA hr (qa2 (qv 1) (zk zC))))) zi) (zd (zg zH)))).h,?_⟩
  walk_at "rd";unfold QY at k;by_cases h0:c∈lt
  ·rw [ud h0] at k ⊢;exact⟨by lia,op,8,rfl,ho,by rw [ug];simp;lia,λv H' g a=>k v H' g a⟩
  rw [ub h0] at k ⊢;by_cases h1:c=62
  ·rw [ud h1];refine⟨_,ho,λp H1 g1 hp p1 hp1=>⟨_,_,.inr ⟨SqT.of (za hp1 _ _ hp),SqT.of zb⟩,by rw [Y9];exact zdo (zeF op),rfl,?_⟩⟩;rw [Y9,zgK];have g2:=g1.trans (za (o:=.tup [.str (S wd)]) hp1);by_cases h2:op.getLast? = some wd
   ·rw [ud (Us h2)];rw [ud ⟨h1,h2⟩] at k;exact λp2 hp2=>⟨op,(ho.mono g2).mono (za hp2),[],evl0,by simp,λv H' g a=>k v H' (g2.trans ((za hp2).trans g)) (a.imp λx e=>qT g2 (zm e))⟩
   ·rw [ub (by simp [h2])];rw [ub (by rintro⟨_,z⟩;exact h2 z)] at k;exact k _ _ g2 rfl
  ·rw [ub h1];rw [ub (by rintro⟨z,_⟩;exact h1 z)] at k;exact k _ _ (Same.refl H) rfl
theorem zdH (T:Txt w K mg t)(D:Df K mg "at_gap" Xc yS)(ah:OkF P w K mg base 1 "gathered" qx qK):OkF P w K mg base 2 "at_gap" yS ZS:=by
 refine D.ok zdA ?_ ?_;walk_at "b"
 ·refine ex5 h λwd oa op tk c h=>?_;refine av4 h λho hw hop k=>?_;refine⟨_,(zc (zo (qtD vf (qv 3) (jH T.g_LETTERS)) (zd (zg (qF ah hr (qa5 (qS [97,116,116,114]) (qv 3) (qv 1) (qS []) (jH T.g_LONGEST_NAME))))) zi) (zd (zg zH))).h,?_⟩
  walk_at "rd";unfold aGap at k;by_cases h0:c∈lt
  ·rw [ud h0] at k ⊢;exact⟨op,8,rfl,ho,λv H' g a=>k v H' g a⟩
  rw [ub h0] at k ⊢;exact k _ _ (Same.refl H) rfl
theorem zbq (T:Txt w K mg t)(D:Df K mg "at_attr" JJ vQ)(ah:OkF P w K mg base 1 "gathered" qx qK)(aa:OkF P w K mg base 1 "come_to" zN zT):OkF P w K mg base 2 "at_attr" vQ kJ:=by
 refine D.ok zaT ?_ ?_;walk_at "b"
 ·refine ex5 h λwd oa op tk c h=>?_;refine av4 h λho hw hop k=>?_;refine⟨_,(zc (zo (qtD vf (qv 3) (jH T.g_LETTERS)) (zd (zg (qF ah hr (qa5 (qS [97,116,116,114]) (zr jJ (qv 0) (qv 3)) (qv 1) (qS []) (jH T.g_LONGEST_NAME))))) zi) (zc (zo (qtD zv (qv 3) (qS [58])) (zd (zg (qF aa hr (qa3 (qS [98,97,114,101]) (qv 1) (zk (qa1 (zh (qa3 (qS [97,116,116,114]) (qv 0) (qS [98,97,114,101]))))))))) zi) (zc (zo (qtD zv (qv 3) (qS [40])) (zd (zg (qF aa hr (qa3 (qS [114,111,119]) (qv 1) (zk (qa1 (zh (qa3 (qS [97,116,116,114]) (qv 0) (qS [114,111,119]))))))))) zi) (zc (zo (qtD zv (qv 3) (qS [61])) (zd (zg (zh (qa2 (zh (qa4 (qS [105,115]) (qv 0) (qv 1) (qS []))) (zk zC))))) zi) (zc (zo (qtD zv (qv 3) (qS [33])) (zd (zg (zh (qa2 (zh (qa4 (qS [98,97,110,103]) (qv 0) (qv 1) (qS []))) (zk zC))))) zi) (zd (zg zH))))))).h,?_⟩
  walk_at "rd";unfold Y2 at k;by_cases h0:c∈lt
  ·rw [ud h0] at k ⊢;exact⟨by lia,op,8,rfl,ho,by rw [ug];simp;lia,λv H' g a=>k v H' g a⟩
  rw [ub h0] at k ⊢;by_cases h1:c=58
  ·rw [ud h1] at k ⊢;exact λp hp p1 hp1=>⟨op,ho.mono ((za hp).trans (za hp1)),[[Ze,wd,vH]],evl1 (e:=[Ze,wd,vH]) hp1,λv H' g a=>k v H' (((za hp).trans (za hp1)).trans g) (a.imp λx e=>by subst e;exact zm hp1)⟩
  rw [ub h1] at k ⊢;by_cases h2:c=40
  ·rw [ud h2] at k ⊢;exact λp hp p1 hp1=>⟨op,ho.mono ((za hp).trans (za hp1)),[[Ze,wd,mRow]],evl1 (e:=[Ze,wd,mRow]) hp1,λv H' g a=>k v H' (((za hp).trans (za hp1)).trans g) (a.imp λx e=>by subst e;exact zm hp1)⟩
  rw [ub h2] at k ⊢;by_cases h3:c=61
  ·rw [ud h3] at k ⊢;exact λp hp p1 hp1 p2 hp2=>k _ _ ((za hp).trans ((za hp1).trans (za hp2))) (Q1 (za hp1 _ _ zb) ((ho.mono (za hp)).mono (za hp1)) evl0 (zm hp1) hp2)
  rw [ub h3] at k ⊢;by_cases h4:c=33
  ·rw [ud h4] at k ⊢;exact λp hp p1 hp1 p2 hp2=>k _ _ ((za hp).trans ((za hp1).trans (za hp2))) (Q1 (za hp1 _ _ zb) ((ho.mono (za hp)).mono (za hp1)) evl0 (zm hp1) hp2)
  rw [ub h4] at k ⊢;exact k _ _ (Same.refl H) rfl
theorem zfG (T:Txt w K mg t)(D:Df K mg "at_is" VM Zj)(aa:OkF P w K mg base 1 "come_to" zN zT):OkF P w K mg base 2 "at_is" Zj Ja:=by
 refine D.ok ze8 ?_ ?_;walk_at "b"
 ·refine ex5 h λwd oa op tk c h=>?_;refine av4 h λho hw hop k=>?_;refine⟨_,(zc (zo (qtD zv (qv 3) (qS [34])) (zd (zg (qF aa hr (qa3 (qS [113,117,111,116,101,100]) (qv 1) (zk (qa1 (zh (qa3 (qS [97,116,116,114]) (qv 0) (qS [113,117,111,116,101,100]))))))))) zi) (zd (zg zH))).h,?_⟩
  walk_at "rd";unfold aIs at k;by_cases h0:c=34
  ·rw [ud h0] at k ⊢;exact λp hp p1 hp1=>⟨op,ho.mono ((za hp).trans (za hp1)),[[Ze,wd,jK]],evl1 (e:=[Ze,wd,jK]) hp1,λv H' g a=>k v H' (((za hp).trans (za hp1)).trans g) (a.imp λx e=>by subst e;exact zm hp1)⟩
  rw [ub h0] at k ⊢;exact k _ _ (Same.refl H) rfl
theorem zbr (T:Txt w K mg t)(D:Df K mg "at_bang" JL vR):OkF P w K mg base 1 "at_bang" vR kK:=by
 refine D.ok zaU ?_ ?_;walk_at "b"
 ·refine ex5 h λwd oa op tk c h=>?_;refine av4 h λho hw hop k=>?_;refine⟨_,(zc (zo (qtD zv (qv 3) (qS [34])) (zd (zg (zh (qa2 (zh (qa4 (qS [116,97,108,107]) (qS []) (qv 1) (qS [98,101,116,119,101,101,110]))) (zk (qa1 (zh (qa3 (qS [97,116,116,114]) (qv 0) (qS [116,97,108,107]))))))))) zi) (zd (zg zH))).h,?_⟩
  walk_at "rd";unfold Y3 at k;by_cases h0:c=34
  ·rw [ud h0] at k ⊢;exact λp hp p1 hp1 p2 hp2 p3 hp3=>k _ _ ((za hp).trans ((za hp1).trans ((za hp2).trans (za hp3)))) (Q1 (za hp2 _ _ (za hp1 _ _ zb)) (((ho.mono (za hp)).mono (za hp1)).mono (za hp2)) (evl1 (e:=[Ze,wd,kW]) hp2) (zm (zm hp2)) hp3)
  rw [ub h0] at k ⊢;exact k _ _ (Same.refl H) rfl
theorem zbs (T:Txt w K mg t)(D:Df K mg "at_bare" JN vS)(ag:OkF P w K mg base 2 "told" wG xt)(aa:OkF P w K mg base 1 "come_to" zN zT)(az:OkF P w K mg base 3 "led_on" xG vE):OkF P w K mg base 4 "at_bare" vS kL:=by
 refine D.ok zaV ?_ ?_;walk_at "b"
 ·refine ex5 h λwd oa op tk c h=>?_;refine av4 h λho hw hop k=>?_;refine⟨_,(zc (zo (qtD vf (qv 3) (jH T.g_WORDSIGNS)) (zd (zg (qF ag hr (qa3 (qS [98,97,114,101]) (qv 1) (qv 3))))) zi) (zc (zo (qtD zv (qv 3) (qS [126])) (zd (zg (qF aa hr (qa3 (qS [99,111,100,101]) (qv 1) (zk zC))))) zi) (zd (zg (qF az hr (qa3 (qv 1) (qv 3) (zk zC))))))).h,?_⟩
  walk_at "rd";unfold Y4 at k;by_cases h0:c∈ws
  ·rw [ud h0] at k ⊢;exact⟨op,some c,rfl,ho,λv H' g a=>k v H' g a⟩
  rw [ub h0] at k ⊢;by_cases h1:c=126
  ·rw [ud h1] at k ⊢;exact λp hp=>⟨op,ho.mono (za hp),[],evl0,λv H' g a=>k v H' ((za hp).trans g) (a.imp λx e=>by subst e;exact hp)⟩
  rw [ub h1] at k ⊢;exact λp hp=>⟨op,ho.mono (za hp),[],evl0,by simp,λv H' g a=>k v H' ((za hp).trans g) (a.imp λx e=>e.elim zm λe=>by subst e;exact hp)⟩
theorem zbt (T:Txt w K mg t)(D:Df K mg "at_code" JP vT)(ag:OkF P w K mg base 2 "told" wG xt)(aG:OkF P w K mg base 2 "sign_told" wm xr):OkF P w K mg base 3 "at_code" vT kM:=by
 refine D.ok zaW ?_ ?_;walk_at "b"
 ·refine ex5 h λwd oa op tk c h=>?_;refine av4 h λho hw hop k=>?_;refine⟨_,(zc (zo (qtD zv (qv 0) (qS [])) (zd (zg (xQ (qtD vf (qv 3) (jH T.g_FIGURES)) (zh (qa2 (zh (qa4 (qS [99,111,100,101]) (qv 3) (qv 1) (qS []))) (zk zC))) zH))) zi) (zd (zg (qF ag hr (qa3 (qS [98,97,114,101]) (qv 1) (qF aG hr (qa1 (zr jJ (qv 0) (qv 3))))))))).h,?_⟩
  walk_at "rd";unfold Y5 at k;by_cases h0:wd=[]
  ·rw [ud h0] at k ⊢;by_cases h5:c∈fg
   ·rw [ud h5] at k ⊢;exact λp hp p1 hp1 p2 hp2=>k _ _ ((za hp).trans ((za hp1).trans (za hp2))) (Q1 (za hp1 _ _ zb) ((ho.mono (za hp)).mono (za hp1)) evl0 (zm hp1) hp2)
   ·rw [ub h5] at k ⊢;exact k _ _ (Same.refl H) rfl
  rw [ub h0] at k ⊢;exact⟨by lia,by rw [ug];simp;lia,λH1 g1=>⟨op,L2.told (wd++[c]),rfl,ho.mono g1,λv H' g a=>k v H' (g1.trans g) (a.imp λx e=>qT g1 e)⟩⟩
theorem zdI (T:Txt w K mg t)(D:Df K mg "at_row" Xe yT)(aa:OkF P w K mg base 1 "come_to" zN zT)(ag:OkF P w K mg base 2 "told" wG xt):OkF P w K mg base 3 "at_row" yT ZT:=by
 refine D.ok zdB ?_ ?_;walk_at "b"
 ·refine ex5 h λwd oa op tk c h=>?_;refine av4 h λho hw hop k=>?_;refine⟨_,(zc (zo (qtD zv (qv 3) (qS [92])) (zd (zg (qF aa hr (qa3 (qS [115,116,114,111,107,101]) (qv 1) (zk zC))))) zi) (zc (zo (qtD zv (qv 3) (qS [44])) (zd (zg (qF aa hr (qa3 (qS [114,111,119]) (qv 1) (zk (qa1 (zh (qa1 (qS [110,101,120,116]))))))))) zi) (zc (zo (qtD zv (qv 3) (qS [41])) (zd (zg (qF aa hr (qa3 (qS [100,111,110,101]) (qv 1) (zk zC))))) zi) (zd (zg (qF ag hr (qa3 (qS [114,111,119]) (qv 1) (qv 3)))))))).h,?_⟩
  walk_at "rd";unfold aRow at k;by_cases h0:c=92
  ·rw [ud h0] at k ⊢;exact λp hp=>⟨op,ho.mono (za hp),[],evl0,λv H' g a=>k v H' ((za hp).trans g) (a.imp λx e=>by subst e;exact hp)⟩
  rw [ub h0] at k ⊢;by_cases h1:c=44
  ·rw [ud h1] at k ⊢;exact λp hp p1 hp1=>⟨op,ho.mono ((za hp).trans (za hp1)),[[zeC]],evl1 (e:=[zeC]) hp1,λv H' g a=>k v H' (((za hp).trans (za hp1)).trans g) (a.imp λx e=>by subst e;exact zm hp1)⟩
  rw [ub h1] at k ⊢;by_cases h2:c=41
  ·rw [ud h2] at k ⊢;exact λp hp=>⟨op,ho.mono (za hp),[],evl0,λv H' g a=>k v H' ((za hp).trans g) (a.imp λx e=>by subst e;exact hp)⟩
  rw [ub h2] at k ⊢;exact⟨op,some c,rfl,ho,λv H' g a=>k v H' g a⟩
theorem V9 (T:Txt w K mg t)(D:Df K mg "at_stroke" Zk xi)(ag:OkF P w K mg base 2 "told" wG xt):OkF P w K mg base 3 "at_stroke" xi vw:=by
 refine D.ok VO ?_ ?_;walk_at "b"
 ·refine ex5 h λwd oa op tk c h=>?_;refine av4 h λho hw hop k=>?_;refine⟨_,(zd (zg (qF ag hr (qa3 (qS [114,111,119]) (qv 1) (qv 3))))).h,?_⟩
  walk_at "rd";unfold QZ at k;exact⟨op,some c,rfl,ho,λv H' g a=>k v H' g a⟩
theorem Yb (T:Txt w K mg t)(D:Df K mg "at_quoted" Zm xj)(aa:OkF P w K mg base 1 "come_to" zN zT)(ag:OkF P w K mg base 2 "told" wG xt):OkF P w K mg base 3 "at_quoted" xj vx:=by
 refine D.ok VP ?_ ?_;walk_at "b"
 ·refine ex5 h λwd oa op tk c h=>?_;refine av4 h λho hw hop k=>?_;refine⟨_,(zc (zo (qtD zv (qv 3) (qS [34])) (zd (zg (qF aa hr (qa3 (qS [100,111,110,101]) (qv 1) (zk zC))))) zi) (zc (zo (qtD zv (qv 3) (qS [38])) (zd (zg (qF aa hr (qa3 (qS [113,109,97,114,107]) (qv 1) (zk zC))))) zi) (zd (zg (qF ag hr (qa3 (qS [113,117,111,116,101,100]) (qv 1) (qv 3))))))).h,?_⟩
  walk_at "rd";unfold Q0 at k;by_cases h0:c=34
  ·rw [ud h0] at k ⊢;exact λp hp=>⟨op,ho.mono (za hp),[],evl0,λv H' g a=>k v H' ((za hp).trans g) (a.imp λx e=>by subst e;exact hp)⟩
  rw [ub h0] at k ⊢;by_cases h1:c=38
  ·rw [ud h1] at k ⊢;exact λp hp=>⟨op,ho.mono (za hp),[],evl0,λv H' g a=>k v H' ((za hp).trans g) (a.imp λx e=>by subst e;exact hp)⟩
  rw [ub h1] at k ⊢;exact⟨op,some c,rfl,ho,λv H' g a=>k v H' g a⟩
theorem K3 (T:Txt w K mg t)(D:Df K mg "at_qmark" Qq xY)(ah:OkF P w K mg base 1 "gathered" qx qK)(ay:OkF P w K mg base 3 "mark_ended" jt jT)(ag:OkF P w K mg base 2 "told" wG xt):OkF P w K mg base 4 "at_qmark" xY yo:=by
 refine D.ok Ku ?_ ?_;walk_at "b"
 ·refine ex5 h λwd oa op tk c h=>?_;refine av4 h λho hw hop k=>?_;refine⟨_,(zc (zo (qtD vf (qv 3) (jH T.g_FIGURES)) (zd (zg (qF ah hr (qa5 (qS [113,109,97,114,107]) (zr jJ (qv 0) (qv 3)) (qv 1) (qS []) (jH T.g_MARK_FIGURES))))) zi) (zd (zg (qF ag hr (qa3 (qS [113,117,111,116,101,100]) (qv 1) (qF ay hr (qa2 (qv 0) (qv 3)))))))).h,?_⟩
  walk_at "rd";unfold WX at k;by_cases h0:c∈fg
  ·rw [ud h0] at k ⊢;exact⟨by lia,op,2,rfl,ho,by rw [ug];simp;lia,λv H' g a=>k v H' g a⟩
  rw [ub h0] at k ⊢;exact⟨by lia,λH1 g1=>⟨op,Wa wd c,rfl,ho.mono g1,λv H' g a=>k v H' (g1.trans g) (a.imp λx e=>qT g1 e)⟩⟩
theorem zbu (T:Txt w K mg t)(D:Df K mg "at_done" JR vU)(az:OkF P w K mg base 3 "led_on" xG vE):OkF P w K mg base 4 "at_done" vU kN:=by
 refine D.ok zaX ?_ ?_;walk_at "b"
 ·refine ex5 h λwd oa op tk c h=>?_;refine av4 h λho hw hop k=>?_;refine⟨_,(zd (zg (qF az hr (qa3 (qv 1) (qv 3) (zk zC))))).h,?_⟩
  walk_at "rd";unfold Y6 at k;exact λp hp=>⟨op,ho.mono (za hp),[],evl0,by simp,λv H' g a=>k v H' ((za hp).trans g) (a.imp λx e=>e.elim zm λe=>by subst e;exact hp)⟩
theorem zbv (T:Txt w K mg t)(D:Df K mg "at_talk" JT vV)(aa:OkF P w K mg base 1 "come_to" zN zT)(aH:OkF P w K mg base 4 "fed" Jy Xl):OkF P w K mg base 5 "at_talk" vV kP:=by
 refine D.ok zaY ?_ ?_;walk_at "b"
 ·refine ex5 h λwd oa op tk c h=>?_;refine av4 h λho hw hop k=>?_;refine⟨_,(zc (zo (qtD zv (qv 3) (qS [38])) (zd (zg (zh (qa2 (zh (qa4 (qS [116,109,97,114,107]) (qS []) (qv 1) (qv 2))) (zk zC))))) zi) (zc (zo (qtD zv (qv 3) (qS [34])) (zd (zg (xQ (qtD (VB (K:=K) (by rfl)) (qv 2) (zh (qa2 (qS [98,101,116,119,101,101,110]) (qS [119,111,114,100])))) (qF aa hr (qa3 (qS [100,111,110,101]) (qv 1) (zk zC))) zH))) zi) (zd (zg (qF aH hr (qa3 (qv 1) (qv 2) (qv 3))))))).h,?_⟩
  walk_at "rd";unfold Y7 at k;by_cases h0:c=38
  ·rw [ud h0] at k ⊢;exact λp hp p1 hp1 p2 hp2=>k _ _ ((za hp).trans ((za hp1).trans (za hp2))) (Q1 (za hp1 _ _ zb) ((ho.mono (za hp)).mono (za hp1)) evl0 (zm hp1) hp2)
  rw [ub h0] at k ⊢;by_cases h1:c=34
  ·rw [ud h1] at k ⊢;intro p hp;refine⟨_,.inr (SqT.of zb),rfl,rfl,?_⟩;have e:=VF tk [j6,Z3];rw [show([j6,Z3].map λx=>V.str (S x))=[V.str (S [98,101,116,119,101,101,110]),V.str (S [119,111,114,100])] from rfl] at e;rw [e];have g0:=za (o:=.tup [V.str (S [98,101,116,119,101,101,110]),V.str (S [119,111,114,100])]) hp;by_cases h5:tk=j6\/tk=Z3
   ·rw [ud h5] at k;rw [ud (by simpa using h5)];exact λp1 hp1=>⟨op,(ho.mono g0).mono (za hp1),[],evl0,λv H' g a=>k v H' (g0.trans ((za hp1).trans g)) (a.imp λx e=>by subst e;exact zm hp1)⟩
   ·rw [ub h5] at k;rw [ub (by simpa using h5)];exact k _ _ g0 rfl
  rw [ub h1] at k ⊢;exact⟨op,some c,rfl,ho,λv H' g a=>k v H' g a⟩
theorem K4 (T:Txt w K mg t)(D:Df K mg "at_tmark" Qs xZ)(ah:OkF P w K mg base 1 "gathered" qx qK)(ay:OkF P w K mg base 3 "mark_ended" jt jT)(aH:OkF P w K mg base 4 "fed" Jy Xl):OkF P w K mg base 5 "at_tmark" xZ yp:=by
 refine D.ok Kv ?_ ?_;walk_at "b"
 ·refine ex5 h λwd oa op tk c h=>?_;refine av4 h λho hw hop k=>?_;refine⟨_,(zc (zo (qtD vf (qv 3) (jH T.g_FIGURES)) (zd (zg (qF ah hr (qa5 (qS [116,109,97,114,107]) (zr jJ (qv 0) (qv 3)) (qv 1) (qv 2) (jH T.g_MARK_FIGURES))))) zi) (zd (zg (qF aH hr (qa3 (qv 1) (qv 2) (qF ay hr (qa2 (qv 0) (qv 3)))))))).h,?_⟩
  walk_at "rd";unfold WY at k;by_cases h0:c∈fg
  ·rw [ud h0] at k ⊢;exact⟨by lia,op,2,rfl,ho,by rw [ug];simp;lia,λv H' g a=>k v H' g a⟩
  rw [ub h0] at k ⊢;exact⟨by lia,λH1 g1=>⟨op,Wa wd c,rfl,ho.mono g1,λv H' g a=>k v H' (g1.trans g) (a.imp λx e=>qT g1 e)⟩⟩
theorem zbw (T:Txt w K mg t)(D:Df K mg "at_asis" ZQ vW)(aA:OkF P w K mg base 2 "box_shut" j8 wY)(aa:OkF P w K mg base 1 "come_to" zN zT):OkF P w K mg base 3 "at_asis" vW kQ:=by
 refine D.ok Qu ?_ ?_;walk_at "b"
 ·refine ex5 h λwd oa op tk c h=>?_;refine av4 h λho hw hop k=>?_;refine⟨_,(zc (qsE 4 Qu.nd (zr jJ (qv 0) (qv 3))) (zc (zo (qtD zv (qv 4) (jH T.g_ASIS_END)) (zd (zg (qF aA hr (qa2 (qv 1) (zk zC))))) zi) (zc (zo (wM (VJ (K:=K) (by rfl) PySem.F.plainAttrs_str PySem.F.slot_str_startswith PySem.F.type_str_startswith W3 (jH T.g_ASIS_END) (qa1 (qv 4)))) (zd (zg (zh (qa2 (zh (qa4 (qS [97,115,105,115]) (qv 4) (qv 1) (qS []))) (zk zC))))) zi) (zc ⟨zec (i:=5) Qu.nd rfl (Or.inl rfl) (lcs (N:=ZR) (sc:=zf ZQ) rfl rfl rfl (by decide +kernel)) (ziS (qv 0)).h (λ_ _ _ _ _=>zgU.h) (λ_ _ _ _ _=>(zh (qa2 (qS [115,105,103,110]) (qv 0))).h)⟩ (zc (zo (qtD zv (qv 3) (qS [60])) (zd (zg (zh (qa2 (zh (qa4 (qS [97,115,105,115]) (qv 3) (qv 1) (qS []))) (qv 5))))) zi) (zd (zg (qF aa hr (qa3 (qS [97,115,105,115]) (qv 1) (zr qI (qv 5) (zk (qa1 (zh (qa2 (qS [115,105,103,110]) (qv 3))))))))))))))).h,?_⟩
  walk_at "rd";unfold Y8 at k;refine⟨by lia,?_⟩;by_cases h1:wd++[c]=ke
  ·rw [ud h1] at k ⊢;exact λp hp=>⟨op,ho.mono (za hp),[],evl0,by simp,λv H' g a=>k v H' ((za hp).trans g) (a.imp λx e=>zm e)⟩
  rw [ub h1] at k ⊢;by_cases h2:(wd++[c]).isPrefixOf ke=true
  ·rw [ud h2] at k ⊢;exact λp hp p1 hp1 p2 hp2=>k _ _ ((za hp).trans ((za hp1).trans (za hp2))) (Q1 (za hp1 _ _ zb) ((ho.mono (za hp)).mono (za hp1)) evl0 (zm hp1) hp2)
  rw [ub h2] at k ⊢;refine zgP (λc v H=>EvV H v [wA,[c]]) (λc v H1 H2 h g=>h.mono g) (λc v H1 D xs ys h hD=>?_) (by rw [uO];lia) (λc _ H1 g R r=>?_) (λD H2 ys hD g2 hy hG hD2=>?_)
  ·obtain⟨a,e1,e2⟩:=h;exact⟨a,e1,by rw [zl (zbH e2 hD (by intro z;cases z))];exact e2⟩
  ·walk_at "rd";exact λp hp=>r _ _ (za hp) ⟨p,rfl,zb⟩
  have he:EvA H2 ys (wd.map λk=>[wA,[k]]):=zeN hy hG;have hel:EvL H2 D (wd.map λk=>[wA,[k]]):=⟨ys,hD2,he⟩
  by_cases h3:c=60
  ·rw [ud h3] at k ⊢;exact λp hp p1 hp1=>k _ _ (g2.trans ((za hp).trans (za hp1))) (Q1 zb ((ho.mono g2).mono (za hp)) (hel.mono (za hp)) hD hp1)
  rw [ub h3] at k ⊢;intro p hp p1 hp1;have g3:=(za (o:=.tup [.str (S wA),.str (S [c])]) hp).trans (za (o:=.lst [.ref p]) hp1);refine⟨D,rfl,ys,g3 _ _ hD2,_,zb,by rw [hy];simp;lia,λp2 hp2=>?_⟩;have g4:=g3.trans (za (o:=.lst (ys++[.ref p])) hp2);exact⟨op,(ho.mono g2).mono g4,_,⟨_,zb,(he.mono g4).app (.cons ⟨p,rfl,za hp2 _ _ (za hp1 _ _ zb)⟩ .nil)⟩,λv H' g a=>k v H' (g2.trans (g4.trans g)) (a.imp λx e=>by subst e;exact qT g2 (zm (zm hp2)))⟩
theorem zfH (T:Txt w K mg t)(D:Df K mg "moved" VQ Zo)(a8:OkF P w K mg base 3 "at_text" vL kE)(a9:OkF P w K mg base 4 "at_mark" vM kF)(bc:OkF P w K mg base 2 "at_open" vN kG)(bf:OkF P w K mg base 4 "at_name" vO kH)(bg:OkF P w K mg base 3 "at_slash" xX yn)(bh:OkF P w K mg base 3 "at_shut" vP kI)(bj:OkF P w K mg base 2 "at_gap" yS ZS)(bo:OkF P w K mg base 2 "at_attr" vQ kJ)(bp:OkF P w K mg base 2 "at_is" Zj Ja)(bq:OkF P w K mg base 1 "at_bang" vR kK)(br:OkF P w K mg base 4 "at_bare" vS kL)(bu:OkF P w K mg base 3 "at_code" vT kM)(bw:OkF P w K mg base 3 "at_row" yT ZT)(bx:OkF P w K mg base 3 "at_stroke" xi vw)(bA:OkF P w K mg base 3 "at_quoted" xj vx)(bB:OkF P w K mg base 4 "at_qmark" xY yo)(bC:OkF P w K mg base 4 "at_done" vU kN)(bD:OkF P w K mg base 5 "at_talk" vV kP)(bE:OkF P w K mg base 5 "at_tmark" xZ yp)(bF:OkF P w K mg base 3 "at_asis" vW kQ):OkF P w K mg base 6 "moved" Zo ZF:=by
 refine D.ok Kw ?_ ?_;walk_at "b"
 ·refine ex3 h λx st c h=>?_;refine av4 h λhst hw hop k=>?_;refine⟨_,(zc (qsE 2 Kw.nd (zgR T.d_MODES (qxT K (qv 0) ze))) (zd (zg (xQ (qtD Jh (qv 2) zH) zH (zeP (k:=5) (qv 2) hr (by decide) (qa4 (qxT K (qv 0) ze) (qxT K (qv 0) ze) (qxT K (qv 0) ze) (qv 1))))))).h,?_⟩
  walk_at "rd";obtain⟨p,o,rfl,hp,ho⟩:=hst
  have hF:∀ e∈tab2 t,FnV P w K mg base 5 e.2.2 (spA e.2.1):=by
   intro e he;simp only [tab2,um,Gx,GL] at he;rcases he with rfl | rfl | rfl | rfl | rfl | rfl | rfl | rfl | rfl | rfl | rfl | rfl | rfl | rfl | rfl | rfl | rfl | rfl | rfl | rfl
   ·exact a8.fnv T.m_at_text (by decide)
   ·exact a9.fnv T.m_at_mark (by decide)
   ·exact bc.fnv T.m_at_open (by decide)
   ·exact bf.fnv T.m_at_name (by decide)
   ·exact bg.fnv T.m_at_slash (by decide)
   ·exact bh.fnv T.m_at_shut (by decide)
   ·exact bj.fnv T.m_at_gap (by decide)
   ·exact bo.fnv T.m_at_attr (by decide)
   ·exact bp.fnv T.m_at_is (by decide)
   ·exact bq.fnv T.m_at_bang (by decide)
   ·exact br.fnv T.m_at_bare (by decide)
   ·exact bu.fnv T.m_at_code (by decide)
   ·exact bw.fnv T.m_at_row (by decide)
   ·exact bx.fnv T.m_at_stroke (by decide)
   ·exact bA.fnv T.m_at_quoted (by decide)
   ·exact bB.fnv T.m_at_qmark (by decide)
   ·exact bC.fnv T.m_at_done (by decide)
   ·exact bD.fnv T.m_at_talk (by decide)
   ·exact bE.fnv T.m_at_tmark (by decide)
   ·exact bF.fnv T.m_at_asis (by decide)
  refine⟨p,rfl,_,SqT.of hp,_,rfl,.inr (S st.mode),rfl,?_⟩;unfold yd at k;rw [zfe t] at k;rcases KC st.mode (tab2 t) with⟨e,he,h1,h2⟩ | ⟨h1,h2⟩
  ·rw [h2] at k;unfold mtab;rw [h1,ub (by intro z;cases z)];exact⟨e.2.2,rfl,spA e.2.1,hF e he,p,rfl,_,SqT.of hp,_,rfl,p,rfl,_,SqT.of hp,_,rfl,p,rfl,_,SqT.of hp,_,rfl,st.word,o,st.opens,st.talk,c,rfl,ho,hw,hop,k⟩
  ·rw [h2] at k;unfold mtab;rw [h1,ud (show(none:Option V).getD V.non=V.non from rfl)];exact k _ _ (Same.refl H) rfl
theorem zfI (T:Txt w K mg t)(D:Df K mg "begin" VS yU):OkF P w K mg base 1 "begin" yU ZG:=by
 refine D.ok ze9 ?_ ?_;walk_at "b"
 ·refine av1 h λk=>?_;refine⟨_,(zd (zg (zh (qa4 (qS [116,101,120,116]) (qS []) (zh zC) (qS []))))).h,?_⟩
  walk_at "rd";exact λp hp p1 hp1=>k _ _ ((za hp).trans (za hp1)) ⟨p1,p,rfl,zb,za hp1 _ _ zb⟩
theorem zhy (T:Txt w K mg t)(D:Df K mg "step" zaZ Q8)(bG:OkF P w K mg base 6 "moved" Zo ZF):OkF P w K mg base 7 "step" Q8 Wv:=by
 refine D.ok zg7 ?_ ?_;walk_at "b"
 ·refine ex3 h λx st c h=>?_;refine av4 h λhst hw hop k=>?_;refine⟨_,(zd (zg (qF bG hr (qa2 (qv 0) (qv 1))))).h,?_⟩
  walk_at "rd";exact⟨st,hst,hw,hop,k⟩
theorem zbx (T:Txt w K mg t)(D:Df K mg "floored" JV xH):OkF P w K mg base 1 "floored" xH v9:=by
 refine D.ok za1 ?_ ?_;walk_at "b"
 ·refine ex2 h λx st h=>?_;refine av2 h λhst k=>?_;refine⟨_,(zd (zg (zh (qa4 (qxT K (qv 0) ze) (qxT K (qv 0) ze) (zh zC) (qxT K (qv 0) ze))))).h,?_⟩
  walk_at "rd";obtain⟨p,o,rfl,hp,ho⟩:=hst;exact⟨p,rfl,_,SqT.of hp,_,rfl,p,rfl,_,SqT.of hp,_,rfl,λp1 hp1=>⟨p,rfl,_,SqT.of (za hp1 _ _ hp),_,rfl,λp2 hp2=>k _ _ ((za hp1).trans (za hp2)) ⟨p2,p1,rfl,zb,za hp2 _ _ zb⟩⟩⟩
noncomputable def Jf (es:List Ev)(i:Nat):Except Nat (MS×List Ev)->Except Nat (MS×List Ev)
 | .error n=>.error (n+i)
 | .ok (s',fs)=>.ok (s',es++fs)
theorem zhz (r:Except Nat (MS×List Ev)):Jf [] 0 r=r:=by
 cases r with
 | error n=>rfl
 | ok r=>cases r;rfl
theorem zby {s s':MS}{c:Nat}{r:Lc}{es fs:List Ev}{i:Nat}(h:yd s c=some (s',fs)):Jf es i (runM s (c::r))=Jf (es++fs) (i+1) (runM s' r):=by
 simp only [runM,h];cases runM s' r with
 | error n=>simp only [Jf];congr 1;omega
 | ok q=>obtain⟨s2,gs⟩:=q;simp only [Jf,uW]
theorem zbz {s:MS}{c:Nat}{r:Lc}{es:List Ev}{i:Nat}(h:yd s c=none):Jf es i (runM s (c::r))=.error i:=by simp only [runM,h,Jf,Nat.zero_add]
def rInv (x:V)(st:MS)(l:Lc)(p:Addr)(H:Hp)(i:Nat)(σ:L2.St)(H':Hp):Prop:=∃ (v:V) (s:MS) (es:List Ev) (o4 o5 o6:Option V),σ=[some x,some (V.str (S l)),some v,some (V.ref p),o4,o5,o6]/\Same H H'/\StV H' v s/\EvL H' p es/\s.word.length<=8/\s.opens.length<=st.opens.length+i/\es.length<=10 * i/\runM st l=Jf es i (runM s (l.drop i))
theorem zi7 (T:Txt w K mg t)(D:Df K mg "run" zfa Xg)(bH:OkF P w K mg base 7 "step" Q8 Wv)(bI:Err P w K mg base "Unread" t.Unread "at" payT):OkX P w K mg base 8 "run" Xg (VY t):=by
 refine D.okX Qv ?_ ?_;walk_at "b"
 ·refine ex3 h λx st l h=>?_;refine av5 h λhst hw hl k kx=>?_;refine⟨_,(zc (qsE 2 Qv.nd (qv 0)) (zc (qsE 3 Qv.nd (zk zC)) (zc (wL PassesOwn.leaving (by rfl) (zeR (by rfl) T.z_enumerate (qa1 (qv 1))) (vJ (n:=2) (by rfl) (zD (qgE 4 Qv.nd) (zD (qgE 5 Qv.nd) xf))) (zc (qsE 6 Qv.nd (qF bH hr (qa2 (qv 2) (qv 5)))) (zc (zo (qtD Jh (qv 6) zH) (zd (zeT zR bI hr (by decide) (qa1 (qv 4)))) zi) (zc (qsE 2 Qv.nd (qxT K (qv 6) ze)) (zd (VL (VJ (K:=K) (by rfl) gD PySem.F.slot_list_extend PySem.F.type_list_extend zc8 (qv 3) (qa1 (qxT K (qv 6) ze))))))))) (zd (zg (zh (qa2 (qv 2) (qv 3)))))))).h,?_⟩
  walk_at "rd";intro p hp;refine zex (K:=K) (rInv x st l p H) ⟨x,st,[],none,none,none,rfl,za hp,hst.mono (za hp),evl0,hw,by lia,by simp,by rw [UQ,zhz]⟩ ?_ ?_
  ·rintro i c σ H1 hi ⟨v,s,es,o4,o5,o6,rfl,g1,hs,he,hw1,ho1,hl1,hr⟩ p1 hp1;have hil:=(ur.mp hi).1;have ed:l.drop i=c::l.drop (i+1):=by rw [uS hil,(ur.mp hi).2]
   rw [ed] at hr
   walk_at "rd";have g2:=g1.trans (za (o:=.tup [.int i,.str (S [c])]) hp1);refine⟨s,hs.mono (za hp1),by lia,by lia,λv2 H2 g3 a=>?_⟩;cases hq:yd s c with
   | none=>rw [hq] at a;have a:v2=.non:=a;subst a;rw [ud rfl];exact⟨.inl ⟨_,rfl,by omega,by omega⟩,λd H3 s3 _ e=>kx i (by rw [hr,zbz hq]) d H3 (g2.trans (g3.trans s3)) e⟩
   | some r=>obtain⟨s',fs⟩:=r;rw [hq] at a;obtain⟨q,sa,ea,rfl,hq1,hs1,he1,hg⟩:=a;obtain⟨b1,b2,b3⟩:=zcc s c s' fs hq hw1;obtain⟨vs,e1,e2⟩:=he;obtain⟨us,f1,f2⟩:=he1;have e1':=g3 _ _ (za hp1 _ _ e1);rw [ub (by intro z;cases z)];have l1:=e2.len;have l2:=f2.len;refine⟨q,rfl,_,SqT.of hq1,_,rfl,.inl ⟨rfl,_,SqL.of e1'⟩,q,rfl,_,SqT.of hq1,_,rfl,ea,rfl,vs,e1',us,f1,by omega,?_⟩;refine⟨sa,s',es++fs,_,_,_,rfl,?_,hs1.updL e1',⟨_,zb,((e2.mono ((za hp1).trans g3)).updL e1').app (f2.updL e1')⟩,b1,by omega,by rw [ug];omega,by rw [hr,zby hq]⟩;intro b o e;rw [zl (zM e hp)];exact g3 _ _ (g2 _ _ e)
  ·rintro σ H1 ⟨v,s,es,o4,o5,o6,rfl,g1,hs,he,hw1,ho1,hl1,hr⟩;rw [List.drop_length] at hr
   walk_at "rd";intro p2 hp2;refine k s es (by rw [hr];simp only [runM,Jf,uw]) _ _ (g1.trans (za hp2)) ?_;exact⟨p2,v,p,rfl,zb,hs.mono (za hp2),he.mono (za hp2),hp⟩
theorem K5 (T:Txt w K mg t)(D:Df K mg "_law_cell" Zr xm):OkF P w K mg base 1 "_law_cell" xm (vy K):=by
 refine D.ok kn ?_ ?_;walk_at "b"
 ·refine ex3 h λa ns k h=>?_;refine av4 h λhS h63 hk q=>?_;refine⟨_,(zc (zo (qtD zdV (qv 1) (qr (y8 (K:=K) (by rfl)) (by rfl) T.z_len Qa (qa1 (qv 0)))) (zd (zg (zr xF (qxL K (qv 0) (qv 1)) (zr jW (zr jW (zr WD ze ze) (zr WD ze ze)) (zr WD ze ze))))) zi) (zc (qsE 2 kn.nd (zr jh (zr jW ze (qv 1)) ze)) (zc (zo (qtD WE (qr (y8 (K:=K) (by rfl)) (by rfl) T.z_len Qa (qa1 (qv 0))) ze) (zd (qsE 2 kn.nd (zr jh (zr jW (zr xF (qxL K (qv 0) (zr xF (zr jW (qv 1) ze) (qr (y8 (K:=K) (by rfl)) (by rfl) T.z_len Qa (qa1 (qv 0))))) (zr WD ze ze)) ze) (zr jW (zr jW (qv 1) (qv 1)) ze)))) zi) (zd (zg (zr xF (zr jW (zr xF (qv 2) ze) ze) ze)))))).h,?_⟩
  walk_at "rd";refine⟨_,.inl hS,?_⟩;rw [uk];by_cases hlt:k<ns.length
  ·rw [ud (by lia)];have hn:ns[k]? = some ns[k]:=uo hlt;refine⟨_,hS,.int ns[k],by rw [Uc,hn];rfl,cpow (by decide),cpow (by decide),(by unfold IntMulOk;decide +kernel),cpow (by decide),(by unfold IntMulOk;decide +kernel),_,rfl,by decide +kernel,q _ H (Same.refl H)⟩
  ·rw [ub (by lia)];refine⟨y9 (by decide),_,.inl hS,?_⟩;rw [uk];by_cases h0:0<ns.length
   ·rw [ud (by lia)];obtain⟨n,e,_⟩:=zek (ns:=ns) (i:=(k:Int) * 7 % (ns.length:Int)) (Vx (by lia)).1 (Vx (by lia)).2;refine⟨ZO (by decide),_,.inl hS,by rw [uk];lia,_,hS,.int n,by rw [uk];exact e,cpow (by decide),n,rfl,by decide +kernel,ZO (by decide),y9 (by lia),ZO (by decide),ZO (by decide),q _ H (Same.refl H)⟩
   ·rw [ub (by lia)];exact⟨ZO (by decide),q _ H (Same.refl H)⟩
theorem zbA (T:Txt w K mg t)(D:Df K mg "_law_mix" Qy zV):OkF P w K mg base 1 "_law_mix" zV qi:=by
 refine D.ok ye ?_ ?_;walk_at "b"
 ·refine ex3 h λc k m h=>?_;refine av4 h λhk0 hk hm q=>?_;refine⟨_,(zc (zo (QW.qt (vh (qtD zv (zr xF (qv 0) ze) ze) (vh (qtD WE (qv 0) (zr WD ze ze)) (xg (qtD WE (zr zdS (qv 0) (zr jh (zr jW ze (qv 1)) ze)) ze))))) (zd (zg (zr xF (zr zdS (qv 0) (zr jh (zr jW ze (qv 1)) ze)) (qv 2)))) zi) (zc (qsE 3 ye.nd (qxL K (zk (qU (by exact ze) (by exact(qU (by exact ze) (by exact(qU (by exact ze) (by exact(qa5 ze ze ze ze ze)))))))) (zr xF (qv 1) ze))) (zc (qsE 4 ye.nd (qxL K (zk (qU (by exact ze) (by exact(qU (by exact ze) (by exact(qa5 ze ze ze ze ze)))))) (zr xF (qv 1) ze))) (zc (qsE 5 ye.nd (zr xF (zr jW (zr jh (zr xF (zr zgt (qv 0) (zr jW (zr jW (qv 1) (qv 1)) (qv 1))) ze) ze) (qv 3)) ze)) (zd (zg (zr xF (zr xF (zr jW (zr jh (qv 5) ze) (qv 4)) ze) (qv 2)))))))).h,?_⟩;have fin:∀ (v:Int) (H':Hp),mixA c k=v->Same H H'->Q (.int (v % m)) H':=λv H' e g=>by have:=q H' g;rw [ziX hm,e] at this;exact this
  have els:mixA c k=mixB c k->∀ (p:Addr),H p=none->∃ x,SqL K (upd H p (HO.lst [V.int 1000000007,V.int 1181783503,V.int 1372345291,V.int 1518500279,V.int 1636201513,V.int 1734723539,V.int 1871234567,V.int 2012345681])) p x/\∃ x_1,atI x (k % 8)=some x_1 /\
    ∀ (p_1:Addr),upd H p (HO.lst [V.int 1000000007,V.int 1181783503,V.int 1372345291,V.int 1518500279,V.int 1636201513,V.int 1734723539,V.int 1871234567,V.int 2012345681]) p_1=none->∃ x,SqL K (upd (upd H p (HO.lst [V.int 1000000007,V.int 1181783503,V.int 1372345291,V.int 1518500279,V.int 1636201513,V.int 1734723539,V.int 1871234567,V.int 2012345681])) p_1 (HO.lst [V.int 100000000003,V.int 223606797763,V.int 314159265359,V.int 414213562379,V.int 577215664943,V.int 693147180563,V.int 732050807573])) p_1 x /\
    ∃ x_2,atI x (k % 7)=some x_2/\IntMulOk k k/\IntMulOk (k * k) k/\∃ x,x_1=V.int x/\IntMulOk ((c+k * k * k) % 1000000000039+1) x/\∃ x_3,x_2=V.int x_3/\IntMulOk (((c+k * k * k) % 1000000000039+1) * x % 2147483629+1) x_3/\0<m /\
    Q (V.int ((((c+k * k * k) % 1000000000039+1) * x % 2147483629+1) * x_3 % 999999999989 % m)) (upd (upd H p (HO.lst [V.int 1000000007,V.int 1181783503,V.int 1372345291,V.int 1518500279,V.int 1636201513,V.int 1734723539,V.int 1871234567,V.int 2012345681])) p_1 (HO.lst [V.int 100000000003,V.int 223606797763,V.int 314159265359,V.int 414213562379,V.int 577215664943,V.int 693147180563,V.int 732050807573])):=by
   intro e p hp
   refine⟨_,SqL.of zb,_,at8 k,λp2 hp2=>⟨_,SqL.of zb,_,at7 k,?_⟩⟩
   have m1:=Vx (a:=c+k * k * k) (m:=1000000000039) (by decide)
   refine⟨y9 (by lia),ZO (by lia),_,rfl,y9 (by lia),_,rfl,y9 ?_,hm,fin _ _ e ((za hp).trans (za hp2))⟩
   have m2:=Vx (a:=((c+k * k * k) % 1000000000039+1) * L1 k) (m:=2147483629) (by decide)
   lia
  walk_at "rd";by_cases h1:c % 2=0
  ·rw [ud h1];refine⟨cpow (by decide),?_⟩;by_cases h2:10 ^ Int.toNat 18<c
   ·rw [ud h2];refine⟨y9 (by decide),by lia,?_⟩;by_cases h3:0<c / 2 ^ (7 * k+8).toNat
    ·rw [ud h3];exact⟨y9 (by decide),by lia,hm,fin _ H (by unfold mixA;rw [ud h1,ud h2,ud h3]) (Same.refl H)⟩
    ·rw [ub h3];exact els (by unfold mixA;rw [ud h1,ud h2,ub h3])
   ·rw [ub h2];exact els (by unfold mixA;rw [ud h1,ub h2])
  ·rw [ub h1];exact els (by unfold mixA;rw [ub h1])
theorem K6 (T:Txt w K mg t)(D:Df K mg "_law_part" Zu qV)(ae:OkF P w K mg base 1 "_law_mix" zV qi):OkF P w K mg base 2 "_law_part" qV jm:=by
 refine D.ok VU ?_ ?_;walk_at "b"
 ·refine ex2 h λc k h=>?_;refine av3 h λhk0 hk q=>?_;refine⟨_,(zd (zg (qF ae hr (qa3 (qv 0) (zr jh ze (qv 1)) ze)))).h,?_⟩
  walk_at "rd";exact⟨by lia,by lia,q⟩
theorem zbB {x:V}{s:MS}{H:Hp}{Q:VK}(k:Q (plV (ZH s)) H)(hm:s.mode∉[xc,vH,mRow,jK]):if s.mode=kW then(if s.talk=vp then Q (.str (S vp)) H else Q .non H) else Q .non H:=by
 unfold ZH at k;rw [ub hm] at k;by_cases h1:s.mode=kW
 ·rw [ud h1];by_cases h2:s.talk=vp
  ·rw [ud h2];rw [ud ⟨h1,h2⟩] at k;exact k
  ·rw [ub h2];rw [ub (by rintro⟨_,z⟩;exact h2 z)] at k;exact k
 ·rw [ub h1];rw [ub (by rintro⟨z,_⟩;exact h1 z)] at k;exact k
theorem K7 (T:Txt w K mg t)(D:Df K mg "place_of" Qc xS):OkF P w K mg base 1 "place_of" xS yq:=by
 refine D.ok Km ?_ ?_;walk_at "b"
 ·refine ex2 h λx st h=>?_;refine av2 h λhst k=>?_;refine⟨_,(zc (zo (qtD (VB (K:=K) (by rfl)) (qxT K (qv 0) ze) (qz T.m_PLACE_MODES)) (zd (zg (qxT K (qv 0) ze))) zi) (zd (zg (xQ (QW.qt (vh (qtD zv (qxT K (qv 0) ze) (qS [116,97,108,107])) (xg (qtD zv (qxT K (qv 0) ze) (qS [115,97,105,100]))))) (qS [115,97,105,100]) zH)))).h,?_⟩
  walk_at "rd";obtain⟨p,o,rfl,hp,ho⟩:=hst;have e:=VF st.mode [xc,vH,mRow,jK];refine⟨p,rfl,_,SqT.of hp,_,rfl,_,.inr (T.s_PLACE_MODES H),rfl,rfl,?_⟩;rw [show([xc,vH,mRow,jK].map λx=>V.str (S x))=[V.str (S xc),V.str (S vH),V.str (S mRow),V.str (S jK)] from rfl] at e;rw [show tx st.mode=V.str (S st.mode) from rfl,e];by_cases h1:st.mode∈[xc,vH,mRow,jK]
  ·rw [ud (Us h1)];unfold ZH at k;rw [ud h1] at k;exact⟨p,rfl,_,SqT.of hp,_,rfl,k H (Same.refl H)⟩
  ·rw [ub (by simp only [Uu];exact h1)];have:=zbB (x:=.ref p) (k H (Same.refl H)) h1;refine⟨p,rfl,_,SqT.of hp,_,rfl,rfl,?_⟩;by_cases h2:st.mode=kW
   ·rw [ud h2] at this;rw [ud (show tx st.mode=V.str (S kW) by rw [h2];rfl)];refine⟨p,rfl,_,SqT.of hp,_,rfl,rfl,?_⟩;by_cases h3:st.talk=vp
    ·rw [ud h3] at this;rw [ud (show tx st.talk=V.str (S vp) by rw [h3];rfl)];exact this
    ·rw [ub h3] at this;rw [ub (by intro z;exact h3 (vo.mp (V.str.inj z)))];exact this
   ·rw [ub h2] at this;rw [ub (by intro z;exact h2 (vo.mp (V.str.inj z)))];exact this
theorem J2 (T:Txt w K mg t)(D:Dc K mg t.Spot "Spot" "Spot.__init__" vi qA):OkC P w K mg base 1 t.Spot "Spot" qA (qY t):=by
 refine D.ok JX ?_ ?_;walk_at "b"
 ·refine ex5 h λa dx sv ta n h=>?_;refine av2 h λha q=>?_;refine⟨_,(zc (Jt (K:=K) (by rfl) (qv 0) (qv 1)) (zc (Jt (K:=K) (by rfl) (qv 0) (qv 2)) (zd (Jt (K:=K) (by rfl) (qv 0) (qv 3))))).h,?_⟩
  walk_at "rd";refine⟨_,_,_,ha,T.l_Spot,T.a_state,by decide,_,_,_,zb,T.l_Spot,T.a_turns,by simp [putF],_,_,_,zb,T.l_Spot,T.a_many,by simp only [putF];split<;>simp,?_⟩;rw [QK,QK];exact q
theorem K8 (T:Txt w K mg t)(D:Dm K t.Spot "met" "Spot.met" Qw jI)(aB:OkC P w K mg base 1 t.Spot "Spot" qA (qY t)):OkM P w K mg base 3 t.Spot "met" jI (wj t):=by
 refine D.ok Kx ?_ ?_;walk_at "b"
 ·refine ex6 h λa dx ta sv0 sv n h=>?_;refine av2 h λe1 q=>?_;refine⟨_,(zd (zg (Q5 aB hr (by decide) (qa3 (qv 1) (q9 (K:=K) (by rfl) (qv 0)) (zr jh (q9 (K:=K) (by rfl) (qv 0)) ze))))).h,?_⟩
  walk_at "rd";refine⟨_,_,_,e1,T.l_Spot,T.a_turns,.ref ta,rfl,_,_,_,e1,T.l_Spot,T.a_many,_,rfl,_,rfl,λx dx' hx hd hne=>⟨_,ta,rfl,n+1,by lia,zb,?_⟩⟩;exact q x _ _ (V0 hx hd (.own x) []) hx zb
theorem Xx (T:Txt w K mg t)(D:Dm K t.Spot "turned" "Spot.turned" yC ja)(aB:OkC P w K mg base 1 t.Spot "Spot" qA (qY t)):OkM P w K mg base 3 t.Spot "turned" ja (jD t):=by
 refine D.ok Xj ?_ ?_;walk_at "b"
 ·refine ex7 h λa dx ta sv0 Tn n b h=>?_;refine av4 h λe1 e3 hn q=>?_;refine⟨_,(zd (zg (Q5 aB hr (by decide) (qa3 (q9 (K:=K) (by rfl) (qv 0)) (zr qI (q9 (K:=K) (by rfl) (qv 0)) (zk (qa1 (qv 1)))) (q9 (K:=K) (by rfl) (qv 0)))))).h,?_⟩
  walk_at "rd";refine⟨_,_,_,e1,T.l_Spot,T.a_state,sv0,rfl,_,_,_,e1,T.l_Spot,T.a_turns,.ref ta,rfl,λp hp=>⟨ta,rfl,_,za hp _ _ e3,_,zb,by rw [uk];simp;lia,λp1 hp1=>?_⟩⟩;have k0:=za (o:=.lst [V.int b]) hp;have k1:=za (o:=.lst ((Tn.map λ(t:Nat)=>V.int t)++[V.int b])) hp1;have k01:=k0.trans k1;refine⟨_,_,_,k01 _ _ e1,T.l_Spot,T.a_many,_,rfl,λx dx' hx hd hne=>⟨_,n,rfl,zb,?_⟩⟩;have g:=V0 (t:=t) (ta:=p1) (sv:=sv0) (n:=n) hx hd (.own x) [];refine q x _ p1 _ (k01.trans g) (none_of k01 hx) (none_of k0 hp1) zb ?_;refine g _ _ ?_;rw [zb,Uv];rfl
theorem ZZ (T:Txt w K mg t)(D:Dc K mg t.Looking "Looking" "Looking.__init__" wN qQ):OkC P w K mg base 1 t.Looking "Looking" qQ (jx t):=by
 refine D.ok ZY ?_ ?_;walk_at "b"
 ·refine ex3 h λa dx kv h=>?_;refine av2 h λha q=>?_;refine⟨_,(zc (Jt (K:=K) (by rfl) (qv 0) (qv 1)) (zc (Jt (K:=K) (by rfl) (qv 0) (zk zC)) (zd (Jt (K:=K) (by rfl) (qv 0) (zk zC))))).h,?_⟩
  walk_at "rd";refine⟨_,_,_,ha,T.l_Looking,T.a_kept,by decide,λp hp=>?_⟩;have hpa:p≠a:=λz=>by subst z;rw [zb] at hp;cases hp
  refine⟨_,_,_,by rw [zl hpa.symm];exact zb,T.l_Looking,T.a_holes,by simp [putF],λp1 hp1=>?_⟩;have hp1a:p1≠a:=λz=>by subst z;rw [zb] at hp1;cases hp1
  have hp1p:p1≠p:=λz=>by subst z;rw [zl hpa,zb] at hp1;cases hp1
  refine⟨_,_,_,by rw [zl hp1a.symm];exact zb,T.l_Looking,T.a_pairs,by simp only [putF];split<;>simp,?_⟩;rw [zl hpa] at hp;rw [zl hp1a,zl hp1p,zl hp1a] at hp1;refine q p p1 _ zb (λb o hb e=>?_) ?_ ?_ hp1p.symm hp hp1
  ·have b1:b≠p1:=λz=>by subst z;rw [hp1] at e;cases e
   have b2:b≠p:=λz=>by subst z;rw [hp] at e;cases e
   rw [zl hb,zl b1,zl hb,zl b2,zl hb];exact e
  ·rw [zl hpa,zl hp1p.symm,zl hpa,zb]
  ·rw [zl hp1a,zb]
theorem XI (T:Txt w K mg t)(D:Dm K t.Spot "shown" "Spot.shown" kj zX):OkMN P w K mg base 1 t.Spot "shown" zX (qp t):=by
 refine D.okN XD ?_ ?_;walk_at "b"
 ·refine ex6 h λa dx ta sv n Tn h=>?_;refine av4 h λe1 e2 e3 q=>?_;refine⟨_,(zd (zg (zh (qa2 (Jr (zaC (K:=K) (by rfl)) (by rfl) T.z_list zgJ (qa1 (q9 (K:=K) (by rfl) (qv 0)))) (q9 (K:=K) (by rfl) (qv 0)))))).h,?_⟩
  walk_at "rd";refine⟨_,_,_,e1,T.l_Spot,T.a_turns,.ref ta,rfl,ta,rfl,_,SqL.of e2,λl hl=>⟨_,_,_,za hl _ _ e1,T.l_Spot,T.a_many,_,rfl,λp hp=>?_⟩⟩;have k2:=za (o:=.tup [.ref l,.int n]) hp;exact q p l _ ((za hl).trans k2) hl zb (k2 _ _ zb)
theorem Wh (T:Txt w K mg t)(D:Dm K t.Looking "look_literal" "Looking.look_literal" jM zL)(bJ:OkX P w K mg base 8 "run" Xg (VY t))(ao:OkM P w K mg base 3 t.Spot "met" jI (wj t))(ai:OkMN P w K mg base 1 t.Spot "shown" zX (qp t))(bK:ErrN P w K mg base "Astray" t.Astray fsA payA):OkM P w K mg base 12 t.Looking "look_literal" zL (qk t):=by
 refine D.ok jA ?_ ?_;walk_at "b"
 ·refine ex7 h λlo ha sp pv ps x hv h=>?_;refine av8 h λzz0 hlo zz2 zz3 hha zz5 q qe=>?_;obtain⟨z,rfl⟩:=zz0;obtain⟨p,ep,hp⟩:=zz2;obtain⟨dx,sv,ta,e1,e2,e3⟩:=zz3;obtain⟨b1,b2,b3,b4,b5⟩:=zz5;refine⟨_,(zc (zg0 (i:=4) zR T.m_Unread T.c_Unread jA.nd (by rfl) (by rfl) (by rfl) (by rfl) (λE pn xe hp hx=>(zd (qsE 3 jA.nd (W4 hx bJ hr (by decide) (qa2 (q9 (K:=K) (by rfl) (qv 2)) (qxT K (qv 1) ze)))))) (λpn ea xe hxe=>(zd (zdw hxe (by rfl) bK (hr.n.marked _) (by decide) (qa2 (zdv ai (hr.n.marked _) (by decide) (qv 2)) (kf (K:=K) (by rfl) (qv 4))))))) (zd (zg (xR ao hr (by decide) (qv 2) (qa1 (qxT K (qv 3) ze)))))).h,?_⟩
  walk_at "rd";cases ep;obtain⟨pa,vs,rfl,hpa,rfl⟩:=pcF hp;simp only [txPs,txP,szPs,szP] at b2 b3 b4 b5;simp only [xI,jE] at q qe;have e1':=zp _ _ e1;refine⟨_,_,_,e1',T.l_Spot,T.a_state,sv,rfl,pa,rfl,_,SqT.of (zp _ _ hpa),_,wV _ _ _,x.s,z,rfl,e2.mono zp,b1,by lia,λs' es hr v H1 g1 hv1=>?_,λb hr d H1 g1 hd=>?_⟩
  ·obtain⟨p4,sa4,ea4,rfl,f1,f2,_⟩:=hv1;refine⟨dx,_,g1 _ _ e1',rfl,p4,rfl,_,SqT.of f1,sa4,zA _ _,dx,ta,sv,x.n,g1 _ _ e1',λr dx' H2 g2 hr2 er=>?_⟩;have g12:=g1.trans g2;refine q ⟨s',x.T,x.n+1⟩ [] (by rw [hr]) r [] H2 (Gr.same hha g12) .nil (vz (qO (g1 _ _ hha) hr2) er (za9 (g12 _ _ hha) (f2.mono g2)) (zu g12 _ _ e3))
  ·refine⟨t.Unread,rfl,T.c_Unread,T.kit_up_ur,⟨d,_,_,rfl,hd⟩,λea H2 g2 hc hpl=>?_⟩;have g12:=g1.trans g2;refine⟨dx,_,g12 _ _ e1',rfl,dx,ta,sv,x.n,g12 _ _ e1',x.T,g12 _ _ (zp _ _ e3),by lia,λr l H3 g3 hl hr3 hl3=>?_⟩;have G:L2.Got K H3 ea t.Unread [("at",.int (b:Nat))]:=L2.Got.mono ⟨T.c_Unread,d,hc,g2 _ _ hd⟩ g3;have hb:=zcz hr;refine⟨t.Unread,_,G,T.n_Unread_at,_,rfl,⟨_,_,rfl,.inl ⟨_,rfl,by lia,by lia⟩⟩,λd4 H4 g4 n4 h4=>⟨?_,Pla.mono hpl (g3.trans g4),_,h4,by show 2≠1;decide⟩⟩;have g14:=g12.trans (g3.trans g4);have h3:=g3 _ _ (g12 _ _ hha);refine qe (.astray x.T x.n b) (by rw [hr]) _ d4 H4 (zu g14) ⟨rfl,r,?_,yr (g14 _ _ hha) (g12 _ _ hha) hl (g4 _ _ hr3) (g4 _ _ hl3)⟩;rw [hide_ne (qO h3 n4)];exact h4
theorem Yc (T:Txt w K mg t)(D:Dm K t.Looking "look_hole" "Looking.look_hole" wt qf)(bL:OkF P w K mg base 1 "place_of" xS yq)(ao:OkM P w K mg base 3 t.Spot "met" jI (wj t))(ai:OkMN P w K mg base 1 t.Spot "shown" zX (qp t))(bM:ErrN P w K mg base "NoPlace" t.NoPlace fsN payN):OkM P w K mg base 12 t.Looking "look_hole" qf (qL t):=by
 refine D.ok va ?_ ?_;walk_at "b"
 ·refine ex7 h λlo ha sp pv ps x hv h=>?_;refine av8 h λzz0 zz1 zz2 zz3 hha zz5 q qe=>?_;obtain⟨z,rfl,hz⟩:=zz0;obtain⟨ldx,lpa,hlo⟩:=zz1;obtain⟨p,ep,hp⟩:=zz2;obtain⟨dx,sv,ta,e1,e2,e3⟩:=zz3;obtain⟨b1,b2,b3,b4,b5⟩:=zz5;refine⟨_,(zc (qsE 3 va.nd (qF bL hr (qa1 (q9 (K:=K) (by rfl) (qv 2))))) (zc (zo (qtD Jh (qv 3) zH) (zd (yR zR bM hr (by decide) (qa2 (qxT K (qv 1) ze) (wW ai.ok hr (by decide) (qv 2))))) zi) (zc (VL (VJ (K:=K) (by rfl) gD GV GW Jm (q9 (K:=K) (by rfl) (qv 0)) (qa1 (zh (qa2 (qxT K (qv 1) ze) (qv 3)))))) (zd (zg (xR ao hr (by decide) (qv 2) (qa1 (q9 (K:=K) (by rfl) (qv 2))))))))).h,?_⟩
  walk_at "rd";cases ep;obtain⟨pa,vs,rfl,hpa,rfl⟩:=pcF hp;simp only [txPs,txP,szPs,szP] at b2 b3 b4 b5;simp only [xI,jE] at q qe;have e1':=zp _ _ e1;refine⟨_,_,_,e1',T.l_Spot,T.a_state,sv,rfl,x.s,e2.mono zp,λH1 g1=>?_⟩;have hha1:=g1 _ _ hha;cases hk:ZH x.s with
  | none=>rw [hk] at qe;rw [ud (show plV none=V.non from rfl)];refine⟨pa,rfl,_,SqT.of (g1 _ _ (zp _ _ hpa)),_,wV _ _ _,dx,_,g1 _ _ e1',rfl,dx,ta,sv,x.n,g1 _ _ e1',x.T,g1 _ _ (zp _ _ e3),by omega,λr l H3 g3 hl hr3 hl3=>?_⟩;refine⟨⟨_,_,rfl,.inr ⟨_,rfl,by rw [kS];exact uJ hz (by decide)⟩⟩,λd4 H4 g4 n4 h4=>?_⟩;have h3:=g3 _ _ hha1;refine qe (.noplace z x.T x.n) rfl _ d4 H4 (zu (g1.trans (g3.trans g4))) ⟨rfl,r,?_,yr (g4 _ _ h3) hha1 hl (g4 _ _ hr3) (g4 _ _ hl3)⟩;rw [hide_ne (qO h3 n4)];exact h4
  | some kd=>
   rw [hk] at q;rw [ub (by intro z;cases z)];refine⟨_,_,_,g1 _ _ (zp _ _ hlo),T.l_Looking,T.a_holes,.ref ha,rfl,.inl ⟨rfl,_,SqL.of hha1⟩,pa,rfl,_,SqT.of (g1 _ _ (zp _ _ hpa)),_,wV _ _ _,λp3 h3=>⟨ha,rfl,hv,?_⟩⟩;have k3:=za (o:=.tup [tx z,plV (some kd)]) h3;have hp3:=qO hha1 h3;have hha3:=k3 _ _ hha1;refine⟨hha3,by lia,?_⟩;have hG:Gr ha H (upd (upd H1 p3 (.tup [tx z,plV (some kd)])) ha (.lst (hv++[.ref p3]))) hv [.ref p3]:=⟨by rw [KI];exact zu (g1.trans k3),zb⟩
   have hsp4:=zp _ _ (hG.1 _ _ e1);refine⟨dx,_,hsp4,rfl,_,_,_,hsp4,T.l_Spot,T.a_state,sv,rfl,dx,ta,sv,x.n,hsp4,λr dx' H2 g2 hr er=>?_⟩;have G2:=hG.trans (Gr.same hG.2 g2);refine q ⟨x.s,x.T,x.n+1⟩ [(z,kd)] rfl r [.ref p3] H2 (G2.cast (by rw [uw])) (.cons ⟨p3,rfl,?_⟩ .nil) (vz (qO hG.2 hr) er ((e2.mono hG.1).mono (zu g2)) (G2.1 _ _ e3));rw [hide_ne hp3];exact g2 _ _ (by rw [zl hp3];exact zb)
theorem Yd {k d:Nat}(hk10:20<=k)(T:Txt w K mg t)(D:Dm K t.Looking "look_each" "Looking.look_each" jv qg)(au:OkM P w K mg base 3 t.Spot "turned" ja (jD t))(ai:OkMN P w K mg base 1 t.Spot "shown" zX (qp t))(aq:ErrN P w K mg base "Unlike" t.Unlike fsU payU)(av:OkM P w K mg base k t.Looking "look_all" zt (zx t d)):OkM P w K mg base (k+1) t.Looking "look_each" qg (jn t (d+1)):=by
 refine D.ok wb ?_ ?_;walk_at "b"
 ·refine ex7 h λlo ha sp pv ps x hv h=>?_;refine av8 h λzz0 hlo zz2 hsp hha zz5 q qe=>?_;obtain⟨nm,b,rfl,hnm,hdp⟩:=zz0;obtain⟨p,ep,hp⟩:=zz2;obtain⟨b1,b2,b3,b4,b5⟩:=zz5;refine⟨_,(zc (qsE 3 wb.nd (xR au hr (by lia) (qv 2) (qa1 ze))) (zc (qsE 4 wb.nd (j7 zR av hr (by lia) (qv 0) (qa2 (qxT K (qv 1) ze) (xR au hr (by lia) (qv 2) (qa1 ze))))) (zc (zo (qtD (WT (hu64 hr)) (q9 (K:=K) (by rfl) (qv 4)) (q9 (K:=K) (by rfl) (qv 3))) (zd (yR zR aq hr (by lia) (qa3 (zh (qa2 (qS [101,97,99,104]) (qxT K (qv 1) ze))) (wW ai.ok hr (by lia) (qv 3)) (wW ai.ok hr (by lia) (qv 4))))) zi) (zd (zg (qv 3)))))).h,?_⟩;cases ep;obtain⟨pa,vs,rfl,hpa,wv,rfl,hw⟩:=pcF hp;simp only [txPs,txP,szPs,szP] at b2 b3 b4 b5;simp only [xI,jE] at q qe;simp only [dpP.dpB,dpP] at hdp;simp only [nmP.nmB,nmP,U9] at hnm;obtain⟨dx,sv,ta,e1,e2,e3⟩:=hsp;have e1':=zp _ _ e1;have e3':=zp _ _ e3;obtain⟨ldx,lpa,hlo'⟩:=hlo
  walk_at "hd";refine⟨dx,_,e1',rfl,dx,ta,sv,x.T,x.n,0,rfl,e1',e3',by lia,λr dx1 ta1 H1 g1 hr hta er et=>?_⟩;have hha1:=g1 _ _ hha
  walk_at "hd";refine⟨ldx,_,g1 _ _ (zp _ _ hlo'),rfl,_,SqT.of (g1 _ _ (zp _ _ hpa)),_,Jb _ _ _ _,dx,_,g1 _ _ e1',rfl,dx,ta,sv,x.T,x.n,1,rfl,g1 _ _ e1',g1 _ _ e3',by lia,λr2 dx2 ta2 H2 g2 hr2 hta2 er2 et2=>?_⟩;have g12:=g1.trans g2;have hha2:=g12 _ _ hha;refine⟨lo,ha,r2,_,b,⟨x.s,x.T++[1],x.n⟩,hv,rfl,⟨hnm,by lia⟩,⟨ldx,lpa,zu g12 _ _ hlo'⟩,?_,vz (qO hha1 hr2) er2 (e2.mono (zu g12)) (by rw [hide_ne (qO hha1 hta2)];exact et2),hha2,⟨b1,by dsimp only;lia,by lia,by simp only [ug,uA];lia,by dsimp only;lia⟩,λe hs hk r3 hv3 H3 G3 ho3 sp3=>?_,λf hk c d3 H3 g3 hf=>qe f (by rw [hk]) c d3 H3 ((zu g12).trans g3) hf⟩
  ·rw [ub (by decide)];exact hw.mono (zu g12)
  obtain⟨dx3,sv3,ta3,f1,f2,f3⟩:=sp3;obtain⟨p3,rfl⟩:=JZ f2;obtain⟨p0,rfl⟩:=JZ e2;have er':hide ha H1 r=some (spO t dx1 (.ref p0) ta1 x.n):=by rw [hide_ne (qO hha hr)];exact er
  have g3:=(zu g2).trans G3.1;have hr3:=zp _ _ (g3 _ _ er');have e23:=e2.mono ((zu g1).trans g3);have f1':=zp _ _ f1;have et3:=g3 _ _ (by rw [hide_ne (qO hha hta)];exact et);obtain⟨_,_,d3,d4,_⟩:=wF b _ e hs hk b1
  walk_at "hd";refine⟨_,_,_,f1',T.l_Spot,T.a_state,_,rfl,_,_,_,hr3,T.l_Spot,T.a_state,_,rfl,dS e.s,dS x.s,p3,rfl,p0,rfl,(f2.mono zp).dat,(e23.mono zp).dat,dep_S _,?_⟩;rw [Wx];have G3':=G3.pre g12;by_cases hz:e.s=x.s
  ·rw [ub (by rw [Us hz];decide)]
   walk_at "hd";exact q ⟨x.s,x.T++[0],x.n⟩ hs (by rw [hk];exact ud hz) r hv3 H3 G3' ho3 (vz (qO hha hr) hr3 e23 et3)
  ·rw [ud (by rw [uC hz];decide)];refine⟨_,SqT.of (zp _ _ (G3'.1 _ _ hpa)),_,wV _ _ _,λp4 h4=>?_⟩;have k4:=za (o:=.tup [V.str (S [101,97,99,104]),tx nm]) h4;have c4:=k4 _ _ G3.2;refine⟨dx1,_,k4 _ _ hr3,rfl,dx1,ta1,_,x.n,k4 _ _ hr3,x.T++[0],k4 _ _ (zp _ _ et3),by simp only [ug,uA];lia,λq5 l5 H5 g5 hl5 hq5 hq5'=>?_⟩;have c5:=g5 _ _ c4;have f15:=g5 _ _ (k4 _ _ f1');refine⟨dx3,_,f15,rfl,dx3,ta3,_,e.n,f15,e.T,g5 _ _ (k4 _ _ (zp _ _ f3)),by simp only [ug,uA] at d3;lia,λq6 l6 H6 g6 hl6 hq6 hq6'=>⟨⟨_,_,_,rfl⟩,λd7 H7 g7 n7 h7=>?_⟩⟩;have g67:=g6.trans g7;have c6:=g6 _ _ c5;have c7:=g7 _ _ c6;refine qe (.unlike [[101,97,99,104],nm] (x.T++[0]) x.n e.T e.n) (by rw [hk];exact ub hz) _ d7 H7 (G3'.1.trans (zu (k4.trans (g5.trans g67)))) ⟨rfl,p4,q5,q6,?_,?_,yr c7 c4 hl5 (g67 _ _ hq5) (g67 _ _ hq5'),yr c7 c5 hl6 (g7 _ _ hq6) (g7 _ _ hq6')⟩
   ·rw [hide_ne (qO c6 n7)];exact h7
   ·rw [hide_ne (qO G3.2 h4)];exact(g5.trans g67) _ _ zb
theorem zbC {k d:Nat}(hk10:20<=k)(T:Txt w K mg t)(D:Dm K t.Looking "look_if" "Looking.look_if" jY qB)(au:OkM P w K mg base 3 t.Spot "turned" ja (jD t))(ai:OkMN P w K mg base 1 t.Spot "shown" zX (qp t))(aq:ErrN P w K mg base "Unlike" t.Unlike fsU payU)(av:OkM P w K mg base k t.Looking "look_all" zt (zx t d)):OkM P w K mg base (k+1) t.Looking "look_if" qB (jP t (d+1)):=by
 refine D.ok wR ?_ ?_;walk_at "b"
 ·refine ex7 h λlo ha sp pv ps x hv h=>?_;refine av8 h λzz0 hlo zz2 hsp hha zz5 q qe=>?_;obtain⟨nm,a,b,rfl,hnm,hdp⟩:=zz0;obtain⟨p,ep,hp⟩:=zz2;obtain⟨b1,b2,b3,b4,b5⟩:=zz5;refine⟨_,(zc (qsE 3 wR.nd (j7 zR av hr (by lia) (qv 0) (qa2 (qxT K (qv 1) ze) (xR au hr (by lia) (qv 2) (qa1 ze))))) (zc (qsE 4 wR.nd (j7 zR av hr (by lia) (qv 0) (qa2 (qxT K (qv 1) ze) (xR au hr (by lia) (qv 2) (qa1 ze))))) (zc (zo (qtD (WT (hu64 hr)) (q9 (K:=K) (by rfl) (qv 3)) (q9 (K:=K) (by rfl) (qv 4))) (zd (yR zR aq hr (by lia) (qa3 (zh (qa2 (qS [105,102]) (qxT K (qv 1) ze))) (wW ai.ok hr (by lia) (qv 3)) (wW ai.ok hr (by lia) (qv 4))))) zi) (zd (zg (qv 3)))))).h,?_⟩;cases ep;obtain⟨pa,vs,rfl,hpa,wv,uv,rfl,hw,hu⟩:=pcF hp;simp only [txPs,txP,szPs,szP] at b2 b3 b4 b5;simp only [xI,jE] at q qe;simp only [dpP.dpB,dpP] at hdp;simp only [nmP.nmB,nmP,U9,uG] at hnm;obtain⟨dx,sv,ta,e1,e2,e3⟩:=hsp;have e1':=zp _ _ e1;have e3':=zp _ _ e3;obtain⟨ldx,lpa,hlo'⟩:=hlo
  walk_at "hd";refine⟨ldx,_,zp _ _ hlo',rfl,_,SqT.of (zp _ _ hpa),_,Jb _ _ _ _,dx,_,e1',rfl,dx,ta,sv,x.T,x.n,0,rfl,e1',e3',by lia,λr dx1 ta1 H1 g1 hr hta er et=>?_⟩;have hha1:=g1 _ _ hha;refine⟨lo,ha,r,_,a,⟨x.s,x.T++[0],x.n⟩,hv,rfl,⟨hnm.1,by lia⟩,⟨ldx,lpa,zu g1 _ _ hlo'⟩,?_,vz (qO hha hr) er (e2.mono (zu g1)) (by rw [hide_ne (qO hha hta)];exact et),hha1,⟨b1,by dsimp only;lia,by lia,by simp only [ug,uA];lia,by dsimp only;lia⟩,λe hs hk r3 hv3 H3 G3 ho3 sp3=>?_,λf hk c d3 H3 g3 hf=>qe f (by rw [hk]) c d3 H3 ((zu g1).trans g3) hf⟩
  ·rw [ub (by decide)];exact hw.mono (zu g1)
  have G3':=G3.pre g1;have j1:=zp _ _ (G3'.1 _ _ e1);have hl3:=ho3.len;obtain⟨_,_,d3,d4,d5⟩:=wF a _ e hs hk b1
  walk_at "hd";refine⟨ldx,_,zp _ _ (G3'.1 _ _ hlo'),rfl,_,SqT.of (zp _ _ (G3'.1 _ _ hpa)),_,zfg _ _ _ _ _,dx,_,j1,rfl,dx,ta,sv,x.T,x.n,1,rfl,j1,zp _ _ (G3'.1 _ _ e3),by lia,λr4 dx4 ta4 H4 g4 hr4 hta4 er4 et4=>?_⟩;have g34:=G3'.1.trans (zu g4);refine⟨lo,ha,r4,_,b,⟨x.s,x.T++[1],x.n⟩,hv++hv3,rfl,⟨hnm.2,by lia⟩,⟨ldx,lpa,g34 _ _ hlo'⟩,?_,vz (qO G3.2 hr4) er4 (e2.mono g34) (by rw [hide_ne (qO G3.2 hta4)];exact et4),g4 _ _ G3.2,⟨b1,by dsimp only;lia,by rw [ug];lia,by simp only [ug,uA];lia,by dsimp only;lia⟩,λe' hs' hk' r5 hv5 H5 G5 ho5 sp5=>?_,λf hk' c d3 H5 g5 hf=>qe f (by rw [hk];simp only [hk']) c d3 H5 (g34.trans g5) hf⟩
  ·rw [ub (by decide)];exact hu.mono g34
  have g35:=(zu g4).trans G5.1;have sp3':=sp3.mono g35;obtain⟨dx3,sv3,ta3,f1,f2,f3⟩:=sp3';obtain⟨dx5,sv5,ta5,c1,c2,c3⟩:=sp5;obtain⟨p3,rfl⟩:=JZ f2;obtain⟨p5,rfl⟩:=JZ c2;obtain⟨_,_,d6,d7,d8⟩:=wF b _ e' hs' hk' b1;have f1':=zp _ _ f1;have c1':=zp _ _ c1
  walk_at "hd";refine⟨_,_,_,f1',T.l_Spot,T.a_state,_,rfl,_,_,_,c1',T.l_Spot,T.a_state,_,rfl,dS e.s,dS e'.s,p3,rfl,p5,rfl,(f2.mono zp).dat,(c2.mono zp).dat,dep_S _,?_⟩;rw [Wx];have G5':=G3'.trans (G5.pre g4);by_cases hz:e.s=e'.s
  ·rw [ub (by rw [Us hz];decide)]
   walk_at "hd";exact q e (hs++hs') (by rw [hk];simp only [hk',ud hz]) r3 (hv3++hv5) H5 G5' ((ho3.mono (TpS.of g35)).app ho5) ⟨dx3,_,ta3,f1,f2,f3⟩
  ·rw [ud (by rw [uC hz];decide)];refine⟨_,SqT.of (zp _ _ (G5'.1 _ _ hpa)),_,wV _ _ _,λp4 h4=>?_⟩;have k4:=za (o:=.tup [V.str (S [105,102]),tx nm]) h4;have c4:=k4 _ _ G5.2;refine⟨dx3,_,k4 _ _ f1',rfl,dx3,ta3,_,e.n,k4 _ _ f1',e.T,k4 _ _ (zp _ _ f3),by simp only [ug,uA] at d3;lia,λq5 l5 H6 g5 hl5 hq5 hq5'=>?_⟩;have c5:=g5 _ _ c4;have c15:=g5 _ _ (k4 _ _ c1');refine⟨dx5,_,c15,rfl,dx5,ta5,_,e'.n,c15,e'.T,g5 _ _ (k4 _ _ (zp _ _ c3)),by simp only [ug,uA] at d6;lia,λq6 l6 H7 g6 hl6 hq6 hq6'=>⟨⟨_,_,_,rfl⟩,λd9 H8 g7 n7 h7=>?_⟩⟩;have g67:=g6.trans g7;have c6:=g6 _ _ c5;have c7:=g7 _ _ c6;refine qe (.unlike [[105,102],nm] e.T e.n e'.T e'.n) (by rw [hk];simp only [hk',ub hz]) _ d9 H8 (G5'.1.trans (zu (k4.trans (g5.trans g67)))) ⟨rfl,p4,q5,q6,?_,?_,yr c7 c4 hl5 (g67 _ _ hq5) (g67 _ _ hq5'),yr c7 c5 hl6 (g7 _ _ hq6) (g7 _ _ hq6')⟩
   ·rw [hide_ne (qO c6 n7)];exact h7
   ·rw [hide_ne (qO G5.2 h4)];exact(g5.trans g67) _ _ zb
theorem Ye {k d:Nat}(hk10:20<=k)(T:Txt w K mg t)(D:Dm K t.Looking "look_seat" "Looking.look_seat" jw qh)(aL:OkF P w K mg base 1 "floored" xH v9)(ao:OkM P w K mg base 3 t.Spot "met" jI (wj t))(ai:OkMN P w K mg base 1 t.Spot "shown" zX (qp t))(aq:ErrN P w K mg base "Unlike" t.Unlike fsU payU)(av:OkM P w K mg base k t.Looking "look_all" zt (zx t d)):OkM P w K mg base (k+1) t.Looking "look_seat" qh (jo t (d+1)):=by
 refine D.ok wc ?_ ?_;walk_at "b"
 ·refine ex7 h λlo ha sp pv ps x hv h=>?_;refine av8 h λzz0 hlo zz2 hsp hha zz5 q qe=>?_;obtain⟨wd,nm,mm,b,rfl,hnm,hdp⟩:=zz0;obtain⟨p,ep,hp⟩:=zz2;obtain⟨b1,b2,b3,b4,b5⟩:=zz5;refine⟨_,(zc (qsE 3 wc.nd (xR ao hr (by lia) (qv 2) (qa1 (qF aL hr (qa1 (q9 (K:=K) (by rfl) (qv 2))))))) (zc (qsE 4 wc.nd (j7 zR av hr (by lia) (qv 0) (qa2 (qxT K (qv 1) ze) (qv 3)))) (zc (zo (qtD (WT (hu64 hr)) (q9 (K:=K) (by rfl) (qv 4)) (q9 (K:=K) (by rfl) (qv 3))) (zd (yR zR aq hr (by lia) (qa3 (zh (qa4 (qS [115,101,97,116]) (qxT K (qv 1) ze) (qxT K (qv 1) ze) (qxT K (qv 1) ze))) (wW ai.ok hr (by lia) (qv 3)) (wW ai.ok hr (by lia) (qv 4))))) zi) (zd (zg (xR ao hr (by lia) (qv 4) (qa1 (q9 (K:=K) (by rfl) (qv 2))))))))).h,?_⟩;cases ep;obtain⟨pa,vs,rfl,hpa,wv,rfl,hw⟩:=pcF hp;simp only [txPs,txP,szPs,szP] at b2 b3 b4 b5;simp only [xI,jE] at q qe;simp only [dpP.dpB,dpP] at hdp;simp only [nmP.nmB,nmP,U9] at hnm;obtain⟨dx,sv,ta,e1,e2,e3⟩:=hsp;have e1':=zp _ _ e1;obtain⟨ldx,lpa,hlo'⟩:=hlo
  walk_at "hd";refine⟨dx,_,e1',rfl,_,_,_,e1',T.l_Spot,T.a_state,sv,rfl,x.s,e2.mono zp,λv H1 g1 hv1=>⟨dx,ta,sv,x.n,g1 _ _ e1',λr dx2 H2 g2 hr er=>?_⟩⟩;have hha1:=g1 _ _ hha;have g12:=g1.trans g2;have hha2:=g12 _ _ hha;have sv2:=za9 hha2 (hv1.mono g2);have er2:hide ha H2 r=some (spO t dx2 v ta (x.n+1)):=by rw [hide_ne (qO hha1 hr)];exact er
  walk_at "hd";refine⟨ldx,_,g12 _ _ (zp _ _ hlo'),rfl,_,SqT.of (g12 _ _ (zp _ _ hpa)),_,zfh _ _ _ _ _ _,lo,ha,r,_,b,⟨flo x.s,x.T,x.n+1⟩,hv,rfl,⟨hnm,by lia⟩,⟨ldx,lpa,zu g12 _ _ hlo'⟩,?_,vz (qO hha1 hr) er sv2 (zu g12 _ _ e3),hha2,⟨b1,by simp;lia,by lia,by dsimp only;lia,by dsimp only;lia⟩,λe hs hk r3 hv3 H3 G3 ho3 sp3=>?_,λf hk c d3 H3 g3 hf=>qe f (by rw [hk]) c d3 H3 ((zu g12).trans g3) hf⟩
  ·rw [ub (by decide)];exact hw.mono (zu g12)
  obtain⟨dx3,sv3,ta3,f1,f2,f3⟩:=sp3;obtain⟨p3,rfl⟩:=JZ f2;have sv3':=sv2.mono G3.1;obtain⟨p0,rfl⟩:=JZ sv3';have hr3:=zp _ _ (G3.1 _ _ er2);have f1':=zp _ _ f1;have G3':=G3.pre g12;obtain⟨_,_,d3,d4,_⟩:=wF b _ e hs hk b1
  walk_at "hd";refine⟨_,_,_,f1',T.l_Spot,T.a_state,_,rfl,_,_,_,hr3,T.l_Spot,T.a_state,_,rfl,_,_,p3,rfl,p0,rfl,(f2.mono zp).dat,(sv3'.mono zp).dat,dep_S _,?_⟩;rw [Wx];by_cases hz:e.s=flo x.s
  ·rw [ub (by rw [Us hz];decide)]
   walk_at "hd";refine⟨dx3,_,f1',rfl,_,_,_,zp _ _ (G3'.1 _ _ e1),T.l_Spot,T.a_state,sv,rfl,dx3,ta3,_,e.n,f1',λr5 dx5 H5 g5 hr5 er5=>?_⟩;exact q ⟨x.s,e.T,e.n+1⟩ hs (by rw [hk];exact ud hz) r5 hv3 H5 ((G3'.trans (Gr.same G3'.2 g5)).cast (by rw [uw])) (ho3.mono (TpS.of (zu g5))) (vz (qO G3'.2 hr5) er5 ((e2.mono G3'.1).mono (zu g5)) (zu g5 _ _ f3))
  ·rw [ud (by rw [uC hz];decide)];have hpa3:=SqT.of (K:=K) (zp _ _ (G3'.1 _ _ hpa));refine⟨_,hpa3,_,wV _ _ _,_,hpa3,_,Jb _ _ _ _,_,hpa3,_,zfg _ _ _ _ _,λp4 h4=>?_⟩;have k4:=za (o:=.tup [V.str (S [115,101,97,116]),tx wd,tx nm,tx mm]) h4;have c4:=k4 _ _ G3.2;refine⟨dx2,_,k4 _ _ hr3,rfl,dx2,ta,_,x.n+1,k4 _ _ hr3,x.T,k4 _ _ (zp _ _ (G3'.1 _ _ e3)),by lia,λq5 l5 H5 g5 hl5 hq5 hq5'=>?_⟩;have c5:=g5 _ _ c4;have f15:=g5 _ _ (k4 _ _ f1');refine⟨dx3,_,f15,rfl,dx3,ta3,_,e.n,f15,e.T,g5 _ _ (k4 _ _ (zp _ _ f3)),by dsimp only at d3;lia,λq6 l6 H6 g6 hl6 hq6 hq6'=>⟨⟨_,_,_,rfl⟩,λd7 H7 g7 n7 h7=>?_⟩⟩;have g67:=g6.trans g7;have c6:=g6 _ _ c5;have c7:=g7 _ _ c6;refine qe (.unlike [Xo,wd,nm,mm] x.T (x.n+1) e.T e.n) (by rw [hk];exact ub hz) _ d7 H7 (G3'.1.trans (zu (k4.trans (g5.trans g67)))) ⟨rfl,p4,q5,q6,?_,?_,yr c7 c4 hl5 (g67 _ _ hq5) (g67 _ _ hq5'),yr c7 c5 hl6 (g7 _ _ hq6) (g7 _ _ hq6')⟩
   ·rw [hide_ne (qO c6 n7)];exact h7
   ·rw [hide_ne (qO G3.2 h4)];exact(g5.trans g67) _ _ zb
theorem XJ {k d:Nat}(hk10:20<=k)(T:Txt w K mg t)(D:Dm K t.Looking "look_piece" "Looking.look_piece" jl zW)(aM:OkM P w K mg base 12 t.Looking "look_literal" zL (qk t))(aN:OkM P w K mg base 12 t.Looking "look_hole" qf (qL t))(cj:OkM P w K mg base k t.Looking "look_each" qg (jn t d))(ck:OkM P w K mg base k t.Looking "look_if" qB (jP t d))(cm:OkM P w K mg base k t.Looking "look_seat" qh (jo t d)):OkM P w K mg base (k+1) t.Looking "look_piece" zW (jg t d):=by
 refine D.ok xD ?_ ?_;walk_at "b"
 ·refine ex7 h λlo ha sp pv ps x hv h=>?_;refine av8 h λhdp hlo zz2 hsp hha bb q qe=>?_;obtain⟨p,ep,hp⟩:=zz2;refine⟨_,(zc (qsE 3 xD.nd (qxT K (qv 1) ze)) (zc (zo (qtD zv (qv 3) (qS [108,105,116])) (zd (zg (j7 zR aM hr (by lia) (qv 0) (qa2 (qv 1) (qv 2))))) zi) (zc (zo (qtD zv (qv 3) (qS [104,111,108,101])) (zd (zg (j7 zR aN hr (by lia) (qv 0) (qa2 (qv 1) (qv 2))))) zi) (zc (zo (qtD zv (qv 3) (qS [101,97,99,104])) (zd (zg (j7 zR cj hr (by lia) (qv 0) (qa2 (qv 1) (qv 2))))) zi) (zc (zo (qtD zv (qv 3) (qS [105,102])) (zd (zg (j7 zR ck hr (by lia) (qv 0) (qa2 (qv 1) (qv 2))))) zi) (zc (zo (QW.qt (vh (qtD zv (qxT K (qv 1) ze) (qS [100,114,97,119])) (xg (qtD Wj (q9 (K:=K) (by rfl) (qv 0)) zH)))) (zd zeS) zi) (zd (zg (j7 zR cm hr (by lia) (qv 0) (qa2 (qv 1) (qv 2))))))))))).h,?_⟩
  walk_at "rd";cases ep;obtain⟨pa,vs,rfl,hpa,hf⟩:=pcF hp;obtain⟨ldx,lpa,hlo'⟩:=hlo;have hl:=zp _ _ hlo';have hpa':=SqT.of (K:=K) (zp _ _ hpa);have S0:∀ {Pr:List Pc->Prop},Pr [p]->spLk t true Pr [.ref lo,.ref pa,.ref sp] H Q λc d H'=>E c d H':=λhP=>⟨lo,ha,sp,_,[p],x,hv,rfl,hP,⟨ldx,lpa,hlo'⟩,by rw [ud rfl];exact⟨p,rfl,hp⟩,hsp,hha,bb,q,qe⟩
  cases p with
  | lit x=>cases hf;refine⟨pa,rfl,_,hpa',_,zA _ _,rfl,?_⟩;rw [ud (show tx _=V.str (S _) from rfl)];exact⟨_,_,hl,rfl,S0 ⟨_,rfl⟩⟩
  | hole z=>cases hf;refine⟨pa,rfl,_,hpa',_,zA _ _,rfl,?_⟩;rw [ub (ql (by decide))];refine⟨rfl,?_⟩;rw [ud (show tx _=V.str (S _) from rfl)];exact⟨_,_,hl,rfl,S0 ⟨_,rfl,by simpa [nmP.nmB,nmP] using hdp.1⟩⟩
  | each nm b=>obtain⟨wv,rfl,_⟩:=hf;refine⟨pa,rfl,_,hpa',_,zA _ _,rfl,?_⟩;rw [ub (ql (by decide))];refine⟨rfl,?_⟩;rw [ub (ql (by decide))];refine⟨rfl,?_⟩;rw [ud (show tx _=V.str (S _) from rfl)];exact⟨_,_,hl,rfl,S0 ⟨⟨_,_,rfl⟩,hdp⟩⟩
  | ife nm a b=>obtain⟨wv,uv,rfl,_⟩:=hf;refine⟨pa,rfl,_,hpa',_,zA _ _,rfl,?_⟩;rw [ub (ql (by decide))];refine⟨rfl,?_⟩;rw [ub (ql (by decide))];refine⟨rfl,?_⟩;rw [ub (ql (by decide))];refine⟨rfl,?_⟩;rw [ud (show tx _=V.str (S _) from rfl)];exact⟨_,_,hl,rfl,S0 ⟨⟨_,_,_,rfl⟩,hdp⟩⟩
  | seat wd nm mm b=>
   obtain⟨wv,rfl,_⟩:=hf;refine⟨pa,rfl,_,hpa',_,zA _ _,rfl,?_⟩;rw [ub (ql (by decide))];refine⟨rfl,?_⟩;rw [ub (ql (by decide))];refine⟨rfl,?_⟩;rw [ub (ql (by decide))];refine⟨rfl,?_⟩;rw [ub (ql (by decide))];refine⟨pa,rfl,_,hpa',_,wV _ _ _,rfl,?_⟩;split
   ·refine⟨_,_,_,hl,T.l_Looking,T.a_kept,.non,rfl,?_⟩;rw [ub (by simp)];exact⟨_,_,hl,rfl,S0 ⟨⟨_,_,_,_,rfl⟩,hdp⟩⟩
   ·exact⟨_,_,hl,rfl,S0 ⟨⟨_,_,_,_,rfl⟩,hdp⟩⟩
theorem zcN:∀ {ps:List Pc} {p:Pc},nmP.nmB ps=true->p∈ps->nmP p=true
 | _::_,_,h,.head _=>by simp only [nmP.nmB,uG] at h;exact h.1
 | _::ps,_,h,.tail _ m=>by simp only [nmP.nmB,uG] at h;exact zcN h.2 m
def lkI (t:Ads)(lo xa sp ha:Addr)(ps:List Pc)(x:Spt)(hv:List V)(H:Hp)(i:Nat)(σ:L2.St)(H3:Hp):Prop:=∃ (r:Addr) (o4:Option V) (e:Spt) (h1:Ho) (hv':List V),σ=[some (.ref lo),some (.ref xa),some (.ref sp),some (.ref r),o4]/\Gr ha H H3 hv hv'/\HoA (hide ha H3) hv' h1/\SpV t (hide ha H3) r e.s e.T e.n/\(zy ps x=match zy (ps.drop i) e with
  | .error f=>.error f
  | .ok r=>.ok (r.1,h1++r.2))/\e.s.word.length<=8/\e.s.opens.length+txPs (ps.drop i)<=100000/\e.T.length+szPs (ps.drop i)<=100000/\e.n+szPs (ps.drop i)<=100000/\h1.length+szPs (ps.drop i)<=szPs ps
theorem K9 {k d:Nat}(hk10:20<=k)(T:Txt w K mg t)(D:Dm K t.Looking "look_all" "Looking.look_all" jL zt)(cn:OkM P w K mg base k t.Looking "look_piece" zW (jg t d)):OkM P w K mg base (k+1) t.Looking "look_all" zt (zx t d):=by
 refine D.ok qR ?_ ?_;walk_at "b"
 ·refine ex7 h λlo ha sp pv ps x hv h=>?_;refine av8 h λzz0 hlo hp hsp hha zz5 q qe=>?_;obtain⟨hnm,hdp⟩:=zz0;obtain⟨b1,b2,b3,b4,b5⟩:=zz5;refine⟨_,(zc (qsE 3 qR.nd (qv 2)) (zc (wL PassesOwn.leaving (by rfl) (jQ (K:=K) (by rfl) (qv 1)) (qgE 4 qR.nd) (zd (qsE 3 qR.nd (j7 zR cn hr (by lia) (qv 0) (qa2 (qv 4) (qv 3)))))) (zd (zg (qv 3))))).h,?_⟩
  walk_at "rd";rw [ub (by decide)] at hp;obtain⟨xa,xs,rfl,hxa,hxs⟩:=hp;refine⟨xa,rfl,⟨_,SqL.of (zp _ _ hxa)⟩,?_⟩;refine w6 (xs:=xs) (lkI t lo xa sp ha ps x hv H) ⟨sp,none,x,[],[],rfl,⟨λb o h=>h,by rw [uw];exact hha⟩,.nil,hsp,by rw [UQ];cases zy ps x<;>rfl,b1,b2,b4,b5,by simp⟩ ?_ ?_ ?_
  ·rintro i σ H3 _ ⟨_,_,_,_,_,_,g,_⟩;exact SqL.of (zp _ _ (g.1 _ _ hxa))
  ·rintro i y σ H3 hi ⟨r,o4,e,h1,hv',rfl,g3,ho3,sp3,hk3,w1,l1,l2,l3,l4⟩;have hil:i<ps.length:=by have:=(ur.mp hi).1;have:=hxs.len;rw [qE] at this;lia
   obtain⟨dd,hd1,hd2⟩:=hxs.get hi;rw [ZU ps i ps[i] (uo hil)] at hd1;cases hd1;rw [uS hil] at hk3 l1 l2 l3 l4;simp only [szPs,txPs] at l1 l2 l3 l4;have hl3:=ho3.len;have hpd:=J0 (uZ hil)
   walk_at "rd";obtain⟨ldx,lpa,hlo'⟩:=hlo;refine⟨ldx,_,zp _ _ (g3.1 _ _ hlo'),rfl,lo,ha,r,y,[ps[i]],e,hv++hv',rfl,⟨by simp only [nmP.nmB,U9];exact zcN hnm (uZ hil),by simp only [dpP.dpB];lia⟩,⟨ldx,lpa,g3.1 _ _ hlo'⟩,?_,sp3,g3.2,⟨w1,by simp only [txPs];lia,by simp only [szPs,ug];lia,by simp only [szPs];lia,by simp only [szPs];lia⟩,λe4 h4 k4 r4 hv4 H4 G4 ho4 sp4=>?_,λf k4 c d4 H4 g4 hf=>?_⟩
   ·rw [ud rfl];exact⟨_,rfl,hd2.mono g3.1⟩
   ·rw [xI] at k4;obtain⟨m1,m2,m3,m4,m5⟩:=zcy _ _ _ _ k4 w1;refine⟨r4,_,e4,h1++h4,hv'++hv4,rfl,g3.trans G4,(ho3.mono (TpS.of G4.1)).app ho4,sp4,?_,m1,by lia,by lia,by lia,by rw [ug];lia⟩;rw [hk3];simp only [zy,k4];cases zy (ps.drop (i+1)) e4<;>simp
   ·rw [xI] at k4;exact qe f (by rw [hk3];simp only [zy,k4]) c d4 H4 (g3.1.trans g4) hf
  ·rintro σ H3 ⟨r,o4,e,h1,hv',rfl,g3,ho3,sp3,hk3,w1,l1,l2,l3,l4⟩;rw [UK (by have:=hxs.len;rw [qE] at this;lia)] at hk3
   walk_at "rd";exact q e h1 (by rw [hk3];simp only [zy,uw]) r hv' H3 g3 ho3 sp3
theorem Yg (T:Txt w K mg t)(D:Dm K t.Looking "look_all" "Looking.look_all" jL zt)(bN:Dm K t.Looking "look_piece" "Looking.look_piece" jl zW)(bO:Dm K t.Looking "look_each" "Looking.look_each" jv qg)(bP:Dm K t.Looking "look_if" "Looking.look_if" jY qB)(bQ:Dm K t.Looking "look_seat" "Looking.look_seat" jw qh)(aM:OkM P w K mg base 12 t.Looking "look_literal" zL (qk t))(aN:OkM P w K mg base 12 t.Looking "look_hole" qf (qL t))(au:OkM P w K mg base 3 t.Spot "turned" ja (jD t))(ao:OkM P w K mg base 3 t.Spot "met" jI (wj t))(ai:OkMN P w K mg base 1 t.Spot "shown" zX (qp t))(aL:OkF P w K mg base 1 "floored" xH v9)(aq:ErrN P w K mg base "Unlike" t.Unlike fsU payU):OkM P w K mg base 60 t.Looking "look_all" zt (zx t 5):=by have a0:OkM P w K mg base 20 t.Looking "look_all" zt (zx t 0):=D.ok (k:=19) qR (λ_ _ _ _ ⟨_,_,_,_,_,_,_,_,h,_⟩=>absurd h.2 (u7 _)) (λ_ _ _ _ _ _ _ _ _ _ ⟨_,_,_,_,_,_,_,_,h,_⟩=>absurd h.2 (u7 _));have up:∀ {k d:Nat},20<=k->OkM P w K mg base k t.Looking "look_all" zt (zx t d)->OkM P w K mg base (k+3) t.Looking "look_all" zt (zx t (d+1)):=λ{k d} hk a=>K9 (k:=k+2) (by lia) T D (XJ (k:=k+1) (by lia) T bN aM aN (Yd hk T bO au ai aq a) (zbC hk T bP au ai aq a) (Ye hk T bQ aL ao ai aq a));exact(up (by decide) (up (by decide) (up (by decide) (up (by decide) (up (by decide) a0))))).mono (by decide)
theorem zdJ (T:Txt w K mg t)(D:Df K mg "is_end" Xh yV)(aI:OkF P w K mg base 1 "begin" yU ZG):OkF P w K mg base 2 "is_end" yV ZV:=by
 refine D.ok zdC ?_ ?_;walk_at "b"
 ·refine ex2 h λx s h=>?_;refine av2 h λhx q=>?_;refine⟨_,(zd (zg (qeD (zez (hu64 hr)) (qv 0) (Ve aI hr (by decide))))).h,?_⟩
  walk_at "rd";intro v H1 g1 hv;have d1:=(hx.mono g1).dat;have d2:=hv.dat;obtain⟨a,_,rfl,_,_⟩:=hx;obtain⟨b,_,rfl,_,_⟩:=hv;refine⟨_,_,a,rfl,b,rfl,d1,d2,dep_S _,?_⟩;rw [show(⟨xc,[],[],[]⟩:MS)=s00 from rfl,Wx];exact q _ g1
theorem Yh (T:Txt w K mg t)(D:Df K mg "looked_at" Zp xl)(av:OkM P w K mg base 60 t.Looking "look_all" zt (zx t 5))(aI:OkF P w K mg base 1 "begin" yU ZG)(bR:OkF P w K mg base 2 "is_end" yV ZV)(aB:OkC P w K mg base 1 t.Spot "Spot" qA (qY t))(bS:OkC P w K mg base 1 t.Looking "Looking" qQ (jx t))(ai:OkMN P w K mg base 1 t.Spot "shown" zX (qp t))(bT:ErrN P w K mg base "LeftOpen" t.LeftOpen fsL payL):OkX P w K mg base 61 "looked_at" xl (vA t):=by
 refine D.okX km ?_ ?_;walk_at "b"
 ·refine ex2 h λpv ps h=>?_;refine av3 h λzz0 q qe=>?_;obtain⟨hd1,hls,hd2',hd3,hd5⟩:=zz0;refine⟨_,(zc (qsE 2 km.nd (Q5 bS hr (by decide) (qa1 (qv 1)))) (zc (qsE 3 km.nd (j7 zR av hr (by decide) (qv 2) (qa2 (qv 0) (Q5 aB hr (by decide) (qa3 (Ve aI hr (by decide)) (zk zC) ze))))) (zc (zo (Zf (wM (qF bR hr (qa1 (q9 (K:=K) (by rfl) (qv 3)))))) (zd (yR zR bT hr (by decide) (qa1 (wW ai.ok hr (by decide) (qv 3))))) zi) (zd (zg (zh (qa2 (q9 (K:=K) (by rfl) (qv 2)) (q9 (K:=K) (by rfl) (qv 2))))))))).h,?_⟩
  walk_at "rd";intro x dx hx hd hne;refine⟨dx,zb,λha pa H1 e1 g1 eh ep hap nh np=>?_⟩;have hax:ha≠x:=λz=>by subst z;rw [zb] at nh;cases nh
  have had:ha≠dx:=λz=>by subst z;rw [zl hne,zb] at nh;cases nh
  have gH:Same H H1:=λb o e=>g1 b o (zM e hx) (by rw [zl (zM e hx),zl (zM e hd)];exact e);have nH:H ha=none:=by rw [zl hax,zl had] at nh;exact nh
  refine⟨dx,_,e1,rfl,λv H2 g2 hv p hp2 x2 dx2 hx2 hd2 hne2=>⟨dx2,0,rfl,zb,?_⟩⟩;have k1:=za (o:=.lst []) hp2;have k2:=V0 (t:=t) (ta:=p) (sv:=v) (n:=0) hx2 hd2 (.own x2) [];have er:upd (upd (upd (upd H2 p (.lst [])) dx2 (.own x2)) x2 (.ins t.Spot dx2 [])) x2 (spO t dx2 v p 0) x2=some (spO t dx2 v p 0):=zb;have ept:=k2 _ _ zb;have k12:=k1.trans k2;generalize hH3:upd (upd (upd (upd H2 p (.lst [])) dx2 (.own x2)) x2 (.ins t.Spot dx2 [])) x2 (spO t dx2 v p 0)=H3 at k2 er ept k12;have e3:H3 ha=some (.lst []):=k12 _ _ (g2 _ _ eh);have hx3:=k12 _ _ (g2 _ _ e1);rw [← hide_ne (H:=H3) hax.symm] at hx3;have hp3:p≠ha:=qO (g2 _ _ eh) hp2;have hx23:x2≠ha:=qO (k1 _ _ (g2 _ _ eh)) hx2;have g3:Same H (hide ha H3):=λb o e=>by rw [hide_ne (zM e nH)];exact k12 _ _ (g2 _ _ (gH _ _ e))
  refine⟨x,ha,x2,pv,ps,⟨s00,[],0⟩,[],rfl,⟨hls,hd2'⟩,⟨dx,pa,hx3⟩,?_,vz hx23 er (za9 e3 (hv.mono k12)) (by rw [hide_ne hp3];exact ept),e3,⟨by decide,by show 0+_<=_;lia,by show 0+_<=_;lia,by show 0+_<=_;lia,by show 0+_<=_;lia⟩,λe hs hk r hv4 H4 G4 ho4 sp4=>?_,λf hk c d4 H4 g4 hf=>?_⟩
  ·rw [ub (by decide)];exact hd1.mono g3
  ·obtain⟨dx4,sv4,ta4,f1,f2,f3⟩:=sp4;have hx4:=zp _ _ (G4.1 _ _ hx3);refine⟨r,rfl,_,_,_,zp _ _ f1,T.l_Spot,T.a_state,sv4,rfl,_,f2.mono zp,λH5 g5=>?_⟩;obtain⟨_,_,d3,d4,_⟩:=wF ps _ e hs hk (by decide);by_cases hz:e.s=s00
   ·rw [ub (by rw [Us hz];decide)];refine⟨_,_,_,g5 _ _ hx4,T.l_Looking,T.a_holes,.ref ha,rfl,_,_,_,g5 _ _ hx4,T.l_Looking,T.a_pairs,.ref pa,rfl,λp6 hp6=>?_⟩;have k6:=za (o:=.tup [.ref ha,.ref pa]) hp6;have g56:=g5.trans k6;exact q hs (by unfold jf;rw [hk];exact ud hz) p6 ha pa hv4 _ ((g3.trans G4.1).trans (zp.trans g56)) zb (g56 _ _ G4.2) (ho4.mono (TpS.of (zp.trans g56)))
   ·rw [ud (by rw [uC hz];decide)];have f15:=g5 _ _ (zp _ _ f1);refine⟨r,rfl,dx4,_,f15,rfl,r,rfl,dx4,ta4,sv4,e.n,f15,e.T,g5 _ _ (zp _ _ f3),uJ d3 (by show 0+_<=_;lia),λq6 l6 H6 g6 hl6 hq6 hq6'=>⟨⟨_,rfl⟩,λd7 H7 g7 n7 h7=>?_⟩⟩;have g57:=g5.trans (g6.trans g7);exact qe (.left e.T e.n) (by unfold jf;rw [hk];exact ub hz) _ d7 H7 ((g3.trans G4.1).trans (zp.trans g57)) ⟨rfl,q6,h7,l6,g7 _ _ hq6,g7 _ _ hq6'⟩
  ·exact qe f (by unfold jf;rw [hk]) c d4 H4 ((g3.trans g4).trans zp) (hf.mono zp)
theorem zhA (T:Txt w K mg t)(D:Df K mg "look" za2 Q9)(bU:OkX P w K mg base 61 "looked_at" xl (vA t)):OkX P w K mg base 62 "look" Q9 (Wy t):=by
 refine D.okX zg8 ?_ ?_;walk_at "b"
 ·refine ex2 h λpv ps h=>?_;refine av3 h λhp q qe=>?_;refine⟨_,(zd (zg (qxT K (W4 zR bU hr (by decide) (qa2 (qv 0) zH)) ze))).h,?_⟩
  walk_at "rd";exact⟨_,hp,λhs hk r ha pa hv H' g e1 e2 ho=>⟨_,SqT.of e1,_,zA _ _,q hs hk ha hv H' g e2 ho⟩,qe⟩
theorem Yi (T:Txt w K mg t)(D:Df K mg "_law_other" ko wC):OkH P w K mg base 1 "_law_other" wC (xO K t):=by
 refine D.okH XE ?_ ?_;walk_at "b"
 ·refine ex3 h λea C fs h=>?_;refine av3 h λG0 hC q=>?_;refine⟨_,(zc (zo (wM (qr (kb (K:=K) (by rfl)) (by rfl) T.z_isinstance qm (qa2 (qv 0) (zh (qU (by exact(qz T.m_NoCode)) (by exact(qU (by exact(qz T.m_NoElder)) (by exact(qU (by exact(qz T.m_NoKind)) (by exact(qU (by exact(qz T.m_NoName)) (by exact(qa5 (qz T.m_NoPage) (qz T.m_NoRow) (qz T.m_NoSheet) (qz T.m_NoSign) (qz T.m_Unread)))))))))))))) (zd (zg zcm)) zi) (zd (zg (qr (kb (K:=K) (by rfl)) (by rfl) T.z_isinstance qm (qa2 (qv 0) (zh (qU (by exact(qz T.m_NoValue)) (by exact(qU (by exact(qz T.m_RingOver)) (by exact(qa5 (qz T.m_Ringed) (qz T.m_TooMany) (qz T.m_Twice) (qz T.m_Unended) (qz T.m_Unknown)))))))))))).h,?_⟩
  walk_at "rd";intro p hp;have G1:=G0.mono (za (o:=.tup [V.ref t.NoCode,V.ref t.NoElder,V.ref t.NoKind,V.ref t.NoName,V.ref t.NoPage,V.ref t.NoRow,V.ref t.NoSheet,V.ref t.NoSign,V.ref t.Unread]) hp);refine⟨C,_,_,zb,G1,rfl,false,by rcases hC with rfl | rfl | rfl | rfl;exact T.kit_Astray_l1;exact T.kit_Unlike_l1;exact T.kit_NoPlace_l1;exact T.kit_LeftOpen_l1,?_⟩;rw [ub (by decide)];intro p1 hp1;have G2:=G1.mono (za (o:=.tup [V.ref t.NoValue,V.ref t.RingOver,V.ref t.Ringed,V.ref t.TooMany,V.ref t.Twice,V.ref t.Unended,V.ref t.Unknown]) hp1);exact⟨C,_,_,zb,G2,rfl,false,by rcases hC with rfl | rfl | rfl | rfl;exact T.kit_Astray_l2;exact T.kit_Unlike_l2;exact T.kit_NoPlace_l2;exact T.kit_LeftOpen_l2,q _ ((za hp).trans (za hp1))⟩
theorem seq_step {a b:TS}{D:Ends}{σ:L2.St}{H:Hp}(h:∀ N:L2.St->Hp->Prop,(∀ σ' H',b D σ' H'->N σ' H')->a { D with nx:=N } σ H):tSeq a b D σ H:=h (b D) λ_ _ z=>z
theorem zfJ {c:TT}{a b:TS}{D:Ends}{σ:L2.St}{H:Hp}(h:∀ S:TS,(∀ D σ H,a D σ H->S D σ H)->tIfS c S b D σ H):tIfS c a b D σ H:=h a λ_ _ _ z=>z
theorem Xy (T:Txt w K mg t)(D:Df K mg "_law_refusal" v5 jS)(bV:OkH P w K mg base 1 "_law_other" wC (xO K t)):OkH P w K mg base 2 "_law_refusal" jS (wI K t):=by
 refine D.okH Wg ?_ ?_;walk_at "b"
 ·refine ex4 h λea C d f h=>?_;refine av3 h λhc hf q=>?_;refine⟨_,(zc (zo (QW.qt (vh (wM (qr (vD (K:=K) (by rfl)) (by rfl) T.z_isinstance qm (qa2 (qv 0) (ziR (v:=.ty "ValueError") T.z_ValueError XA (by rfl))))) (xg (Zf (wM (Kg bV hr (by decide) (qa1 (qv 0)))))))) (zc (zo (QW.qt (vh (wM (qr (vD (K:=K) (by rfl)) (by rfl) T.z_isinstance qm (qa2 (qv 0) (qz T.m_Astray)))) (xg (Zf (wM (qr (kb (K:=K) (by rfl)) (by rfl) T.z_isinstance qm (qa2 (qv 0) (zh (qa3 (qz T.m_NoPlace) (qz T.m_Unlike) (qz T.m_LeftOpen)))))))))) (zd (zg (zh (qa3 (qS [97,115,116,114,97,121]) (kf (K:=K) (by rfl) (qv 0)) (kf (K:=K) (by rfl) (qv 0)))))) zi) (zc (zo (QW.qt (vh (wM (qr (vD (K:=K) (by rfl)) (by rfl) T.z_isinstance qm (qa2 (qv 0) (qz T.m_NoPlace)))) (xg (Zf (wM (qr (kb (K:=K) (by rfl)) (by rfl) T.z_isinstance qm (qa2 (qv 0) (zh (qa2 (qz T.m_Unlike) (qz T.m_LeftOpen)))))))))) (zd (zg (zh (qa3 (qS [110,111,112,108,97,99,101]) (kf (K:=K) (by rfl) (qv 0)) (kf (K:=K) (by rfl) (qv 0)))))) zi) (zc (zo (QW.qt (vh (wM (qr (vD (K:=K) (by rfl)) (by rfl) T.z_isinstance qm (qa2 (qv 0) (qz T.m_Unlike)))) (xg (Zf (wM (qr (vD (K:=K) (by rfl)) (by rfl) T.z_isinstance qm (qa2 (qv 0) (qz T.m_LeftOpen)))))))) (zd (zg (zh (qa4 (qS [117,110,108,105,107,101]) (kf (K:=K) (by rfl) (qv 0)) (kf (K:=K) (by rfl) (qv 0)) (kf (K:=K) (by rfl) (qv 0)))))) zi) (zd (zo (wM (qr (vD (K:=K) (by rfl)) (by rfl) T.z_isinstance qm (qa2 (qv 0) (qz T.m_LeftOpen)))) (zd (zg (zh (qa2 (qS [108,101,102,116]) (kf (K:=K) (by rfl) (qv 0)))))) zi))))) zi) (zd (zg (zh (qa1 (qS [111,100,100])))))).h,?_⟩
  have pre:∃ fs,L2.Got K H ea C fs/\(C=t.Astray\/C=t.Unlike\/C=t.NoPlace\/C=t.LeftOpen)/\PySem.W.kitOne K (.ref C) (.type "ValueError")=some true:=by
   cases f with
   | noplace x Tn n=>obtain⟨hC,p,hd,hp⟩:=hf;obtain rfl:C=t.NoPlace:=Ub hC;exact⟨_,⟨T.c_NoPlace,d,hc,hd⟩,.inr (.inr (.inl rfl)),T.kit_NoPlace_ve⟩
   | left Tn n=>obtain⟨hC,p,hd,hp⟩:=hf;obtain rfl:C=t.LeftOpen:=Ub hC;exact⟨_,⟨T.c_LeftOpen,d,hc,hd⟩,.inr (.inr (.inr rfl)),T.kit_LeftOpen_ve⟩
   | astray Tn n b=>obtain⟨hC,p,hd,hp⟩:=hf;obtain rfl:C=t.Astray:=Ub hC;exact⟨_,⟨T.c_Astray,d,hc,hd⟩,.inl rfl,T.kit_Astray_ve⟩
   | unlike wd Tn n T2 n2=>obtain⟨hC,a,p,p',hd,ha,hp,hp'⟩:=hf;obtain rfl:C=t.Unlike:=Ub hC;exact⟨_,⟨T.c_Unlike,d,hc,hd⟩,.inr (.inl rfl),T.kit_Unlike_ve⟩
  obtain⟨fs,G,hC0,kve⟩:=pre;refine seq_step λN hN=>zfJ λS0 hS=>?_
  walk_at "rd";refine⟨C,⟨_,G⟩,rfl,true,kve,?_⟩;rw [ud rfl];refine⟨C,⟨_,G⟩,hC0,λH1 g1=>hS _ _ _ ?_⟩;clear hS hN G kve hC0;cases f with
  | noplace x Tn n=>
   obtain⟨hC,p,hd,hp⟩:=hf;obtain rfl:C=t.NoPlace:=Ub hC;have G1:=(show L2.Got K H ea t.NoPlace [("name",tx x),("place",.ref p)] from⟨T.c_NoPlace,d,hc,hd⟩).mono g1;refine seq_step λN hN=>?_
   walk_at "rd";refine⟨t.NoPlace,⟨_,G1⟩,rfl,false,T.kit_NoPlace_a,?_⟩;rw [ub (by decide)];refine hN _ _ (seq_step λN hN=>?_)
   walk_at "rd";refine⟨t.NoPlace,⟨_,G1⟩,rfl,true,T.kit_NoPlace_n,?_⟩;rw [ud rfl];intro p1 hp1;have k1:=za (o:=.tup [V.ref t.Unlike,V.ref t.LeftOpen]) hp1;have G2:=G1.mono k1;refine⟨t.NoPlace,_,_,zb,G2,rfl,false,T.kit_NoPlace_o,?_⟩;rw [ud (by decide)];refine⟨t.NoPlace,_,G2,T.n_NoPlace_name,_,rfl,t.NoPlace,_,G2,T.n_NoPlace_place,_,rfl,λp2 hp2=>?_⟩;have k2:=za (o:=.tup [V.str (S [110,111,112,108,97,99,101]),tx x,V.ref p]) hp2;have g:=g1.trans (k1.trans k2);exact q p2 _ g ⟨p2,_,rfl,zb,_,_,rfl,⟨rfl,rfl⟩,_,_,rfl,⟨rfl,rfl⟩,_,_,rfl,(hp.mono g).dt,rfl⟩
  | left Tn n=>
   obtain⟨hC,p,hd,hp⟩:=hf;obtain rfl:C=t.LeftOpen:=Ub hC;have G1:=(show L2.Got K H ea t.LeftOpen [("place",.ref p)] from⟨T.c_LeftOpen,d,hc,hd⟩).mono g1;refine seq_step λN hN=>?_
   walk_at "rd";refine⟨t.LeftOpen,⟨_,G1⟩,rfl,false,T.kit_LeftOpen_a,?_⟩;rw [ub (by decide)];refine hN _ _ (seq_step λN hN=>?_)
   walk_at "rd";refine⟨t.LeftOpen,⟨_,G1⟩,rfl,false,T.kit_LeftOpen_n,?_⟩;rw [ub (by decide)];refine hN _ _ (seq_step λN hN=>?_)
   walk_at "rd";refine⟨t.LeftOpen,⟨_,G1⟩,rfl,false,T.kit_LeftOpen_u,?_⟩;rw [ub (by decide)];refine hN _ _ ?_
   walk_at "rd";refine⟨t.LeftOpen,⟨_,G1⟩,rfl,true,T.kit_LeftOpen_o,?_⟩;rw [ud rfl];refine⟨t.LeftOpen,_,G1,T.n_LeftOpen_place,_,rfl,λp2 hp2=>?_⟩;have k2:=za (o:=.tup [V.str (S [108,101,102,116]),V.ref p]) hp2;have g:=g1.trans k2;exact q p2 _ g ⟨p2,_,rfl,zb,_,_,rfl,⟨rfl,rfl⟩,_,_,rfl,(hp.mono g).dt,rfl⟩
  | astray Tn n b=>
   obtain⟨hC,p,hd,hp⟩:=hf;obtain rfl:C=t.Astray:=Ub hC;have G1:=(show L2.Got K H ea t.Astray [("place",.ref p),("at",.int (b:Nat))] from⟨T.c_Astray,d,hc,hd⟩).mono g1;refine seq_step λN hN=>?_
   walk_at "rd";refine⟨t.Astray,⟨_,G1⟩,rfl,true,T.kit_Astray_a,?_⟩;rw [ud rfl];intro p1 hp1;have k1:=za (o:=.tup [V.ref t.NoPlace,V.ref t.Unlike,V.ref t.LeftOpen]) hp1;have G2:=G1.mono k1;refine⟨t.Astray,_,_,zb,G2,rfl,false,T.kit_Astray_o,?_⟩;rw [ud (by decide)];refine⟨t.Astray,_,G2,T.n_Astray_place,_,rfl,t.Astray,_,G2,T.n_Astray_at,_,rfl,λp2 hp2=>?_⟩;have k2:=za (o:=.tup [V.str (S [97,115,116,114,97,121]),V.ref p,V.int (b:Nat)]) hp2;have g:=g1.trans (k1.trans k2);exact q p2 _ g ⟨p2,_,rfl,zb,_,_,rfl,⟨rfl,rfl⟩,_,_,rfl,(hp.mono g).dt,_,_,rfl,⟨rfl,rfl⟩,rfl⟩
  | unlike wd Tn n T2 n2=>
   obtain⟨hC,a,p,p',hd,ha,hp,hp'⟩:=hf;obtain rfl:C=t.Unlike:=Ub hC;have G1:=(show L2.Got K H ea t.Unlike [("what",.ref a),("one",.ref p),("other",.ref p')] from⟨T.c_Unlike,d,hc,hd⟩).mono g1;refine seq_step λN hN=>?_
   walk_at "rd";refine⟨t.Unlike,⟨_,G1⟩,rfl,false,T.kit_Unlike_a,?_⟩;rw [ub (by decide)];refine hN _ _ (seq_step λN hN=>?_)
   walk_at "rd";refine⟨t.Unlike,⟨_,G1⟩,rfl,false,T.kit_Unlike_n,?_⟩;rw [ub (by decide)];refine hN _ _ (seq_step λN hN=>?_)
   walk_at "rd";refine⟨t.Unlike,⟨_,G1⟩,rfl,true,T.kit_Unlike_u,?_⟩;rw [ud rfl];refine⟨t.Unlike,⟨_,G1⟩,rfl,false,T.kit_Unlike_o,?_⟩;rw [ud (by decide)];refine⟨t.Unlike,_,G1,T.n_Unlike_what,_,rfl,t.Unlike,_,G1,T.n_Unlike_one,_,rfl,t.Unlike,_,G1,T.n_Unlike_other,_,rfl,λp2 hp2=>?_⟩;have k2:=za (o:=.tup [V.str (S [117,110,108,105,107,101]),V.ref a,V.ref p,V.ref p']) hp2;have g:=g1.trans k2;exact q p2 _ g ⟨p2,_,rfl,zb,_,_,rfl,⟨rfl,rfl⟩,_,_,rfl,⟨a,_,rfl,g _ _ ha,wB wd⟩,_,_,rfl,(hp.mono g).dt,_,_,rfl,(hp'.mono g).dt,rfl⟩
theorem XM (T:Txt w K mg t)(D:Df K mg "_law_looked" yH jb)(bW:OkX P w K mg base 62 "look" Q9 (Wy t))(bX:OkH P w K mg base 2 "_law_refusal" jS (wI K t)):OkF P w K mg base 63 "_law_looked" jb jF:=by
 refine D.ok vZ ?_ ?_;walk_at "b"
 ·refine ex2 h λpv ps h=>?_;refine av2 h λhp q=>?_;refine⟨_,(zc (ziT (i:=2) T.m_SealError T.c_SealError vZ.nd (by rfl) (by rfl) (by rfl) (by rfl) (λE pn xe hp hx=>(zd (qsE 1 vZ.nd (W4 hx bW hr (by decide) (qa1 (qv 0)))))) (λpn ea=>(zd (zg (Kg bX (hr.marked _) (by decide) (qa1 (qv 2))))))) (zd (zg (zh (qa2 (qS [116,111,108,100]) (qv 1)))))).h,?_⟩
  walk_at "rd";refine⟨ps,hp,λhs hk ha hv H1 g1 e1 ho p1 hp1=>?_,λf hk c d H1 g1 hf=>?_⟩
  ·have k1:=za (o:=.tup [V.str (S [116,111,108,100]),V.ref ha]) hp1;rw [hk] at q;exact q p1 _ (g1.trans k1) ⟨p1,_,rfl,zb,_,_,rfl,⟨rfl,rfl⟩,_,_,rfl,⟨ha,_,rfl,k1 _ _ e1,(ho.mono (TpS.of k1)).ds⟩,rfl⟩
  ·rw [hk] at q
   obtain⟨C,rfl,hC⟩:∃ C,c=.ref C/\(C=t.Astray\/C=t.Unlike\/C=t.NoPlace\/C=t.LeftOpen):=by
    cases f with
    | noplace x Tn n=>exact⟨_,hf.1,.inr (.inr (.inl rfl))⟩
    | left Tn n=>exact⟨_,hf.1,.inr (.inr (.inr rfl))⟩
    | astray Tn n b=>exact⟨_,hf.1,.inl rfl⟩
    | unlike wd Tn n T2 n2=>exact⟨_,hf.1,.inr (.inl rfl)⟩
   refine⟨C,rfl,by rcases hC with rfl | rfl | rfl | rfl;exact T.c_Astray;exact T.c_Unlike;exact T.c_NoPlace;exact T.c_LeftOpen,by rcases hC with rfl | rfl | rfl | rfl;exact T.kit_Astray_se;exact T.kit_Unlike_se;exact T.kit_NoPlace_se;exact T.kit_LeftOpen_se,λea H2 g2 hc=>⟨C,d,hc,f,hf.mono g2,λr H3 g3 hr=>q r H3 (g1.trans (g2.trans g3)) hr⟩⟩
noncomputable def badK (mk:Tx):List (Key×V):=[(.inr (S [116,101,120,116]),V.str (S (60::47::(mk++[62])))),(.inr (S [113,117,111,116,101,100]),V.str (S (34::61::mk))),(.inr (S [114,111,119]),V.str (S (41::61::mk))),(.inr (S [115,97,105,100]),V.str (S (39::61::mk)))]
noncomputable def zbD:List (Key×V):=[(.inr (S [116,101,120,116]),V.str (S [120,60])),(.inr (S [100,111,110,101]),V.str (S [32,117])),(.inr (S [98,97,114,101]),V.str (S [126])),(.inr (S [113,117,111,116,101,100]),V.str (S [38]))]
noncomputable def zfK:List (Key×V):=[(.inr (S [116,101,120,116]),V.str (S [60,117,62])),(.inr (S [100,111,110,101]),V.str (S [32,117,58,118])),(.inr (S [98,97,114,101]),V.str (S [32])),(.inr (S [113,117,111,116,101,100]),V.str (S [34])),(.inr (S [114,111,119]),V.str (S [41])),(.inr (S [115,97,105,100]),V.str (S [39]))]
theorem zhB {mk kind:Tx}(hm:Mk mk)(k:Kn kind):(valV (qy [] (badK mk)) (.inr (S kind))).getD (V.str (S (61::mk)))=tx (badM mk kind):=by cases k<;>rcases hm with rfl | rfl<;>decide +kernel
theorem zdK {kind:Tx}(k:Kn kind):(valV (qy [] zbD) (.inr (S kind))).getD (V.str (S [92]))=tx (QJ kind):=by cases k<;>decide +kernel
theorem ZK {kind:Tx}(k:Kn kind):valV (qy [] zfK) (.inr (S kind))=some (tx (kX kind)):=by cases k<;>decide +kernel
theorem Yj (T:Txt w K mg t)(D:Df K mg "_law_fault" ku ju):OkF P w K mg base 1 "_law_fault" ju jU:=by
 refine D.ok xK ?_ ?_;walk_at "b"
 ·refine ex3 h λwd mk kind h=>?_;refine av3 h λhm hk q=>?_;refine⟨_,(zc (qsE 3 xK.nd (Wq (jR (by exact(qS [116,101,120,116])) (by exact(zr jJ (zr jJ (qS [60,47]) (qv 1)) (qS [62]))) (jR (by exact(qS [113,117,111,116,101,100])) (by exact(zr jJ (qS [34,61]) (qv 1))) (jR (by exact(qS [114,111,119])) (by exact(zr jJ (qS [41,61]) (qv 1))) (jR (by exact(qS [115,97,105,100])) (by exact(zr jJ (qS [39,61]) (qv 1))) Wo)))) (by rfl) (by rfl) (by intro z;cases z) (by decide))) (zc (qsE 4 xK.nd (Wq (jR (by exact(qS [116,101,120,116])) (by exact(qS [120,60])) (jR (by exact(qS [100,111,110,101])) (by exact(qS [32,117])) (jR (by exact(qS [98,97,114,101])) (by exact(qS [126])) (jR (by exact(qS [113,117,111,116,101,100])) (by exact(qS [38])) Wo)))) (by rfl) (by rfl) (by intro z;cases z) (by decide))) (zc (qsE 5 xK.nd ⟨zcf (WL hr) (zci (vI (qS [116,101,120,116]).h (qS [60,117,62]).h (vI (qS [100,111,110,101]).h (qS [32,117,58,118]).h (vI (qS [98,97,114,101]).h (qS [32]).h (vI (qS [113,117,111,116,101,100]).h (qS [34]).h (vI (qS [114,111,119]).h (qS [41]).h (vI (qS [115,97,105,100]).h (qS [39]).h zcg)))))) (by rfl) (by rfl) (by intro z;cases z) (by decide)) (qv 2).h (λ_ _=>rfl)⟩) (zc (zo (qtD zv (qv 0) (qS [97,115,116,114,97,121])) (zd (zg (zk (qa1 (zh (qa2 (qS [108,105,116]) (Q4 (WL hr) (qv 3) (qv 2) (zr jJ (qS [61]) (qv 1)) (by exact⟨rfl,rfl,rfl,rfl⟩)))))))) zi) (zc (zo (qtD zv (qv 0) (qS [110,111,112,108,97,99,101])) (zd (zg (zk (qa3 (zh (qa2 (qS [108,105,116]) (Q4 (WL hr) (qv 4) (qv 2) (qS [92]) (by exact⟨rfl,rfl,rfl,rfl⟩)))) (zh (qa2 (qS [104,111,108,101]) (qv 1))) (zh (qa2 (qS [108,105,116]) (qS [98]))))))) zi) (zc (zo (qtD zv (qv 0) (qS [105,102])) (zd (zg (zk (qa1 (zh (qa4 (qS [105,102]) (qv 1) (zk (qa1 (zh (qa2 (qS [108,105,116]) (qv 5))))) (zk zC))))))) zi) (zc (zo (qtD zv (qv 0) (qS [101,97,99,104])) (zd (zg (zk (qa1 (zh (qa3 (qS [101,97,99,104]) (qv 1) (zk (qa1 (zh (qa2 (qS [108,105,116]) (qv 5))))))))))) zi) (zd (zg (zk (qa1 (zh (qa5 (qS [115,101,97,116]) (qS [100,114,97,119]) (qv 1) (qS []) (zk (qa1 (zh (qa2 (qS [108,105,116]) (qv 5)))))))))))))))))).h,?_⟩;have hl:mk.length=2:=by rcases hm with rfl | rfl<;>rfl
  cases wd
  all_goals
   simp only [z9]
   walk_at "rd";intro p hp;refine⟨by lia,by lia,by lia,by lia,by lia,zb,badK mk,rfl,Nat.le_of_ble_eq_true rfl,λp1 h1=>⟨zb,zbD,rfl,by decide,λp2 h2=>⟨zb,zfK,rfl,by decide,?_⟩⟩⟩;have k1:=Je (o:=HO.dK []) (o':=HO.dK (qy [] (badK mk))) hp;have k2:=Je (o:=HO.dK []) (o':=HO.dK (qy [] zbD)) h1;have k3:=Je (o:=HO.dK []) (o':=HO.dK (qy [] zfK)) h2;have g0:=k1.trans (k2.trans k3)
  ·refine⟨⟨_,by rw [← ZK hk];exact DGet.k (k:=.inr (S kind)) zb⟩,?_⟩;have e1:=(k2.trans k3) p _ zb;refine⟨.inl ⟨_,.inl e1⟩,by lia,_,DGet.k (k:=.inr (S kind)) e1,?_⟩;rw [zhB hm hk];intro q1 z1 q2 z2;have b1:=za (o:=.tup [tx [108,105,116],tx (badM mk kind)]) z1;have b2:=za (o:=.lst [V.ref q1]) z2;exact q q2 _ (g0.trans (b1.trans b2)) ⟨q2,_,rfl,j4 (g0.trans b1) z2 zb,wU (j4 g0 z1 (b2 _ _ zb))⟩
  ·refine⟨⟨_,by rw [← ZK hk];exact DGet.k (k:=.inr (S kind)) zb⟩,?_⟩;have e1:=k3 p1 _ zb;refine⟨.inl ⟨_,.inl e1⟩,_,DGet.k (k:=.inr (S kind)) e1,?_⟩;rw [zdK hk];intro q1 z1 q2 z2 q3 z3 q4 z4;have b1:=za (o:=.tup [tx [108,105,116],tx (QJ kind)]) z1;have b2:=za (o:=.tup [tx [104,111,108,101],tx mk]) z2;have b3:=za (o:=.tup [tx [108,105,116],tx [98]]) z3;have b4:=za (o:=.lst [V.ref q1,V.ref q2,V.ref q3]) z4;refine q q4 _ (g0.trans (b1.trans (b2.trans (b3.trans b4)))) ⟨q4,_,rfl,j4 (g0.trans (b1.trans (b2.trans b3))) z4 zb,?_⟩;have d1:=wU (j4 g0 z1 ((b2.trans (b3.trans b4)) _ _ zb));have d2:=Ww (j4 (g0.trans b1) z2 ((b3.trans b4) _ _ zb));have d3:=wU (j4 (g0.trans (b1.trans b2)) z3 (b4 _ _ zb));have d4:=d1.app (d2.app d3);rw [← jZ,← jZ] at d4;exact d4
  ·refine⟨_,by rw [← ZK hk];exact DGet.k (k:=.inr (S kind)) zb,?_⟩;intro q1 z1 q2 z2 q3 z3 q4 z4 q5 z5;have b1:=za (o:=.tup [tx [108,105,116],tx (kX kind)]) z1;have b2:=za (o:=.lst [V.ref q1]) z2;have b3:=za (o:=.lst []) z3;have b4:=za (o:=.tup [tx [105,102],tx mk,V.ref q2,V.ref q3]) z4;have b5:=za (o:=.lst [V.ref q4]) z5;exact q q5 _ (g0.trans (b1.trans (b2.trans (b3.trans (b4.trans b5))))) ⟨q5,_,rfl,j4 (g0.trans (b1.trans (b2.trans (b3.trans b4)))) z5 zb,za6 (j4 (g0.trans (b1.trans (b2.trans b3))) z4 (b5 _ _ zb)) ⟨q2,_,rfl,j4 (g0.trans b1) z2 ((b3.trans (b4.trans b5)) _ _ zb),wU (j4 g0 z1 ((b2.trans (b3.trans (b4.trans b5))) _ _ zb))⟩ ⟨q3,_,rfl,j4 (g0.trans (b1.trans b2)) z3 ((b4.trans b5) _ _ zb),rfl⟩⟩
  ·refine⟨_,by rw [← ZK hk];exact DGet.k (k:=.inr (S kind)) zb,?_⟩;intro q1 z1 q2 z2 q3 z3 q4 z4;have b1:=za (o:=.tup [tx [108,105,116],tx (kX kind)]) z1;have b2:=za (o:=.lst [V.ref q1]) z2;have b3:=za (o:=.tup [tx [101,97,99,104],tx mk,V.ref q2]) z3;have b4:=za (o:=.lst [V.ref q3]) z4;exact q q4 _ (g0.trans (b1.trans (b2.trans (b3.trans b4)))) ⟨q4,_,rfl,j4 (g0.trans (b1.trans (b2.trans b3))) z4 zb,VZ (j4 (g0.trans (b1.trans b2)) z3 (b4 _ _ zb)) ⟨q2,_,rfl,j4 (g0.trans b1) z2 ((b3.trans b4) _ _ zb),wU (j4 g0 z1 ((b2.trans (b3.trans b4)) _ _ zb))⟩⟩
  ·refine⟨_,by rw [← ZK hk];exact DGet.k (k:=.inr (S kind)) zb,?_⟩;intro q1 z1 q2 z2 q3 z3 q4 z4;have b1:=za (o:=.tup [tx [108,105,116],tx (kX kind)]) z1;have b2:=za (o:=.lst [V.ref q1]) z2;have b3:=za (o:=.tup [tx Xo,tx Vh,tx mk,tx [],V.ref q2]) z3;have b4:=za (o:=.lst [V.ref q3]) z4;exact q q4 _ (g0.trans (b1.trans (b2.trans (b3.trans b4)))) ⟨q4,_,rfl,j4 (g0.trans (b1.trans (b2.trans b3))) z4 zb,zcx (j4 (g0.trans (b1.trans b2)) z3 (b4 _ _ zb)) ⟨q2,_,rfl,j4 (g0.trans b1) z2 ((b3.trans b4) _ _ zb),wU (j4 g0 z1 ((b2.trans (b3.trans b4)) _ _ zb))⟩⟩
theorem yO {k d:Nat}(hk:10<=k)(hd:gS d<=100000)(T:Txt w K mg t)(D:Df K mg "_law_within" xM jB)(af:OkF P w K mg base 2 "_law_part" qV jm)(aw:OkF P w K mg base k "_law_good" qu (jr d)):OkF P w K mg base (k+1) "_law_within" jB (xA d):=by
 refine D.ok vX ?_ ?_;walk_at "b"
 ·refine ex7 h λc lead kind close pa as L h=>?_;refine av3 h λhP hkn q=>?_;refine⟨_,(zc (kg (qF aw hr (qa4 (qF af hr (qa2 (qv 0) ze)) (qv 2) (zr WC (qv 4) ze) (qv 5))) (vJ (n:=2) (by rfl) (zD (qgE 6 vX.nd) (zD (qgE 7 vX.nd) xf)))) (zd (zg (zh (qa2 (zr qI (zr qI (zk (qa1 (zh (qa2 (qS [108,105,116]) (qv 1))))) (qv 6)) (zk (qa1 (zh (qa2 (qS [108,105,116]) (qv 3)))))) (qv 7)))))).h,?_⟩
  walk_at "rd";intro H1 g1;refine⟨by lia,as,L,hP.mono g1,hkn,λr ps y L' H2 hr hres ht hg=>?_⟩;obtain⟨rp,p,fa,da,xs,rfl,hp,⟨_,vs,e,hfa,hds⟩,hda,np,nd,hxl⟩:=hr;cases e;have R1:=Rp.same hP.lie g1;have R2:=R1.trans rp;refine⟨p,rfl,_,SqT.of hp,rfl,_,_,rfl,_,_,rfl,rfl,λq1 h1 q2 h2=>?_⟩;have a1:=za (o:=.tup [tx [108,105,116],tx lead]) h1;have a2:=za (o:=.lst [V.ref q1]) h2;have A2:=a1.trans a2;have l1:=hds.len;rw [qE] at l1;have l2:=xu ps;have l3:=hg.sz;refine⟨fa,rfl,_,zb,vs,A2 _ _ (yW _ _ hfa),by show 1+vs.length<=16777216;lia,λq3 h3 q4 h4 q5 h5=>?_⟩;have a3:=za (o:=.lst ([V.ref q1]++vs)) h3;have a4:=za (o:=.tup [tx [108,105,116],tx close]) h4;have a5:=za (o:=.lst [V.ref q4]) h5;have A3:=A2.trans a3;refine⟨_,(a4.trans a5) _ _ zb,_,zb,by rw [ug,uA,uA];lia,λq6 h6 q7 h7=>?_⟩;have a6:=za (o:=.lst ([V.ref q1]++vs++[V.ref q4])) h6;have a7:=za (o:=.tup [V.ref q6,V.ref da]) h7;have A5:=A3.trans (a4.trans a5);have A7:=A5.trans (a6.trans a7);have N:∀ {x:Addr} {o:HO} {Hi Hx:Hp},Same H2 Hi->Hi x=none->Hx x=some o->nw H Hx x=some o:=λg z e=>Xs hP.lie R2 (none_of g z) e;refine q _ ps y L' _ ⟨R2.trans (Rp.same rp.2 A7),q7,q6,da,xs,rfl,zb,⟨q6,_,rfl,N A5 h6 (a7 _ _ zb),?_⟩,A7 _ _ hda,R2.fresh hP.lie (none_of (A5.trans a6) h7),none_of g1 nd,?_⟩ hres ht hg
  ·show IsDs _ (dPs ([.lit lead]++ps++[.lit close])) _;rw [jZ,jZ];exact((wU (N (Same.refl _) h1 ((a2.trans (a3.trans (a4.trans (a5.trans (a6.trans a7))))) _ _ zb))).app (hds.mono ((kY hP.lie R1).trans (xE A7)))).app (wU (N A3 h4 ((a5.trans (a6.trans a7)) _ _ zb)))
  ·show xs.length<=szPs ([.lit lead]++ps++[.lit close]);rw [qj,qj];lia
theorem vn {k d:Nat}(hk:10<=k)(hd:gS d<=100000)(T:Txt w K mg t)(D:Df K mg "_law_compound" wH qC)(ae:OkF P w K mg base 1 "_law_mix" zV qi)(af:OkF P w K mg base 2 "_law_part" qV jm)(bY:OkF P w K mg base k "_law_within" jB (xA d))(aw:OkF P w K mg base k "_law_good" qu (jr d)):OkF P w K mg base (k+1) "_law_compound" qC (wq d):=by
 refine D.ok zG ?_ ?_;walk_at "b"
 ·refine ex5 h λc kind pa as L h=>?_;refine av3 h λhP hkn q=>?_;refine⟨_,(zc (qsE 4 zG.nd (qF ae hr (qa3 (qv 0) ze ze))) (zc (zo (qtD zv (qv 1) (qS [100,111,110,101])) (zc (qsE 5 zG.nd (qxL K (zk (qa3 (qS [32,113,61,34]) (qS [32,114,40,121,44]) (qS [32,116,33,34,119,32,39]))) (qv 4))) (zd (zg (qF bY hr (qU (by exact(qv 0)) (by exact(qa5 (qv 5) (qxL K (zk (qa3 (qS [113,117,111,116,101,100]) (qS [114,111,119]) (qS [115,97,105,100]))) (qv 4)) (qxL K (zk (qa3 (qS [34]) (qS [41]) (qS [39,34]))) (qv 4)) (qv 2) (qv 3)))))))) zi) (zc (zo (qtD zv (qv 4) ze) (zd (kg (qF bY hr (qU (by exact(qv 0)) (by exact(qa5 (qS [60,98,32,119,58]) (qS [98,97,114,101]) (qS [62]) (qv 2) (qv 3))))) (vJ (n:=2) (by rfl) (zD (qgE 6 zG.nd) (zD (qgE 7 zG.nd) xf))))) (zd (kg (qF bY hr (qU (by exact(qv 0)) (by exact(qa5 (qS [60,98,32,97,61,34,120,34]) (qS [100,111,110,101]) (qS [62]) (qv 2) (qv 3))))) (vJ (n:=2) (by rfl) (zD (qgE 6 zG.nd) (zD (qgE 7 zG.nd) xf)))))) (zc (kg (qF aw hr (qa4 (qF af hr (qa2 (qv 0) ze)) (qS [116,101,120,116]) (zr WC (qv 2) ze) (qv 3))) (vJ (n:=2) (by rfl) (zD (qgE 8 zG.nd) (zD (qgE 9 zG.nd) xf)))) (zd (zg (zh (qa2 (zr qI (zr qI (qv 6) (qv 8)) (zk (qa1 (zh (qa2 (qS [108,105,116]) (qS [60,47,98,62])))))) (zr qI (qv 7) (qv 9)))))))))).h,?_⟩
  walk_at "hd";intro H1 g1
  walk_at "hd";have hm3:mixM c 4 3<3:=by have:=ZI (c:=c) (k:=4) (m:=3) (by decide);lia
  have R1:=Rp.same hP.lie g1;by_cases hkd:kind=[100,111,110,101]
  ·rw [ud hkd];intro q1 h1;generalize hm:mixM c 4 3=m at hm3;have:m=0\/m=1\/m=2:=by lia
   have fin:∀ (q2 q3:Addr) (o1 o2 o3:HO),H1 q1=none->upd H1 q1 o1 q2=none->upd (upd H1 q1 o1) q2 o2 q3=none->Same H1 (upd (upd (upd H1 q1 o1) q2 o2) q3 o3):=λq2 q3 o1 o2 o3 z1 z2 z3=>(za z1).trans ((za z2).trans (za z3));have rd:=λ{ps y}=>zfw (d:=d) (a:=ps) (y:=y) this;rw [hkd] at q;have hb:∀ {t u:Tx} {ps:List Pc},GdB d ps->t.length<=8->u.length<=4->SmB (d+1) (.lit t::ps++[.lit u]):=zkJ;rcases this with rfl | rfl | rfl
   all_goals
    refine⟨_,SqL.of zb,_,rfl,λq2 h2=>⟨_,SqL.of zb,_,rfl,λq3 h3=>⟨_,SqL.of zb,_,rfl,_,rfl,_,rfl,_,rfl,as,L,hP.mono (g1.trans (fin _ _ _ _ _ h1 h2 h3)),by first | exact .quoted | exact .row | exact .said,λr ps y L' H5 hr res tl gd=>?_⟩⟩⟩;exact q r _ y L' _ (hr.pre hP.lie (g1.trans (fin _ _ _ _ _ h1 h2 h3))) ((rd λkd' e _=>by subst e;exact res).mono (UP d)) tl (hb gd (by decide) (by decide))
  rw [ub hkd];obtain rfl:kind=zB:=hkn.resolve_right hkd
  walk_at "hd";split
  all_goals
   refine⟨as,L,hP.mono g1,by first | exact .bare | exact .done,λr ps y L1 H2 hr res tl gd=>?_⟩;obtain⟨rp,p,fa,da,xs,rfl,hp,⟨_,vs,e,hfa,hds⟩,hda,np,nd,hxl⟩:=hr;cases e;have R2:=R1.trans rp;refine⟨p,rfl,_,SqT.of hp,rfl,_,_,rfl,_,_,rfl,rfl,?_⟩
   walk_at "hd";refine λH3 g3=>⟨by lia,as,L1,(hP.go R2 tl).mono g3,.text,λr ps2 y2 Lzz H4 hr res2 tl2 gd2=>?_⟩
   obtain⟨rp4,p',fb,db,ys,rfl,hp',⟨_,us,e,hfb,hdu⟩,hdb,np',nd',hyl⟩:=hr;cases e;have R3:=R2.trans (Rp.same rp.2 g3);have R4:=R3.trans rp4;have R34:=(Rp.same rp.2 g3).trans rp4;have O:∀ {x:Addr} {o:HO},H x=none->H2 x=some o->H4 x=some o:=λz e=>R34.old (λy=>hP.lie.some _ y z) e;have nfa:H fa=none:=by have:=kY hP.lie R1 _ _ hfa;unfold nw at this;split at this;assumption;cases this
   have l1:=hds.len;rw [qE] at l1;have l2:=xu ps;have l3:=gd.sz;have l4:=hdu.len;rw [qE] at l4;have l5:=xu ps2;have l6:=gd2.sz;simp only [uq,ug,Uw] at l1;refine⟨p',rfl,_,SqT.of hp',rfl,_,_,rfl,_,_,rfl,rfl,?_⟩
   walk_at "hd";refine⟨vs,O nfa (yW _ _ hfa),us,yW _ _ hfb,by lia,λq1 h1 q2 h2 q3 h3=>?_⟩;have a1:=za (o:=.lst (vs++us)) h1;have a2:=za (o:=.tup [tx [108,105,116],tx [60,47,98,62]]) h2;have a3:=za (o:=.lst [V.ref q2]) h3;have A3:=a1.trans (a2.trans a3);refine⟨_,(a2.trans a3) _ _ zb,_,zb,by rw [ug,uA];lia,λq4 h4=>?_⟩;have a4:=za (o:=.lst (vs++us++[V.ref q2])) h4;have A4:=A3.trans a4;simp only [szPs,szP,qj] at hxl;refine⟨xs,A4 _ _ (O (none_of g1 nd) hda),ys,A4 _ _ hdb,by lia,λq5 h5 q6 h6=>?_⟩;have a5:=za (o:=.lst (xs++ys)) h5;have a6:=za (o:=.tup [V.ref q4,V.ref q5]) h6;have A6:=A4.trans (a5.trans a6);have N:∀ {x:Addr} {o:HO} {Hi Hx:Hp},Same H4 Hi->Hi x=none->Hx x=some o->nw H Hx x=some o:=λg z e=>Xs hP.lie R4 (none_of g z) e;have F:∀ {x:Addr} {Hi:Hp},Same H4 Hi->Hi x=none->H x=none:=λg z=>R4.fresh hP.lie (none_of g z);have D:=((hds.mono ((kY hP.lie R1).trans ((KQ R34 hP.lie.some).trans (xE A6)))).app (hdu.mono ((kY hP.lie R3).trans (xE A6)))).app (wU (N a1 h2 ((a3.trans (a4.trans (a5.trans a6))) _ _ zb)));rw [← jZ,← jZ] at D;refine q _ _ (y <|> y2) Lzz _ ⟨R4.trans (Rp.same rp4.2 A6),q6,q4,q5,xs++ys,rfl,zb,⟨q4,_,rfl,N A3 h4 ((a5.trans a6) _ _ zb),D⟩,a6 _ _ zb,F (A4.trans a5) h6,F A4 h5,?_⟩ ?_ (tl.app tl2) ?_
   ·rw [qj,qj];simp only [szPs,szP,qj,ug];lia
   ·first
    | exact zcC (m:=0) (.inl ⟨rfl,rfl⟩) res res2
    | exact zcC (m:=1) (.inr ⟨rfl,by decide⟩) res res2
   ·exact zi5 gd gd2 (by decide) (by decide) (by decide)
noncomputable def smS (c:Int)(kind:Tx)(d:Nat)(pa:Addr):L2.St:=[some (V.int c),some (V.str (S kind)),some (V.int d),some (V.ref pa),some (V.int (mixM c 1 8)),some (V.str (S (Z5 c))),none,none,none,none]
theorem yt {k d:Nat}(hk:10<=k)(hd:gS d<=100000)(hd3:d<=3)(T:Txt w K mg t)(D:Df K mg "_law_some" yg wo)(ae:OkF P w K mg base 1 "_law_mix" zV qi)(af:OkF P w K mg base 2 "_law_part" qV jm)(cp:OkF P w K mg base k "_law_compound" qC (λvs H Q E=>∃ d',d=d' + 1/\wq d' vs H Q E))(aw:OkF P w K mg base k "_law_good" qu (λvs H Q E=>∃ d',d=d' + 1/\jr d' vs H Q E)):OkF P w K mg base (k+1) "_law_some" wo (vB d):=by
 refine D.ok jO ?_ ?_;walk_at "b"
 ·refine ex5 h λc kind pa as L h=>?_;refine av3 h λhP hkn q=>?_;refine⟨_,(zc (qsE 4 jO.nd (qF ae hr (qa3 (qv 0) ze ze))) (zc (qsE 5 jO.nd (qxL K (zk (qa4 (qS [97]) (qS [97,98]) (qS [119,104,111]) (qS [98]))) (qF ae hr (qa3 (qv 0) ze ze)))) (zc (zo (QW.qt (vh (qtD zv (qv 4) ze) (xg (qtD zdU (qv 1) (qS [100,111,110,101]))))) (zd (zg (zh (qa2 (zk (qa1 (zh (qa2 (qS [104,111,108,101]) (qv 5))))) (zk (qa1 (zh (qa2 (qv 5) (qv 1))))))))) zi) (zc (zo (QW.qt (zcp (qtD zdV (qv 4) ze) (zcp (qtD zv (qv 2) ze) (zeV (QW.qt (vh (qtD WE (qv 4) ze) (xg (qtD (zay (K:=K) (by rfl)) (qv 1) (zh (qa2 (qS [116,101,120,116]) (qS [100,111,110,101]))))))))))) (zd (zg (zh (qa2 (zk (qa1 (zh (qa2 (qS [108,105,116]) (Q4 (WL hr) (Wq (jR (by exact(qS [116,101,120,116])) (by exact(qS [120,32,121,38,48,53,59])) (jR (by exact(qS [100,111,110,101])) (by exact(qS [32,99,61,34,121,34])) Wo)) (by rfl) (by rfl) (by intro z;cases z) (by decide)) (qv 1) (qS [122,48]) (by exact⟨rfl,rfl,rfl,rfl⟩)))))) (zk zC))))) zi) (zc (zo (qtD WE (qv 4) ze) (zd (zg (qF cp hr (qa4 (qv 0) (qv 1) (qv 2) (qv 3))))) zi) (zc (kg (qF aw hr (qa4 (qF af hr (qa2 (qv 0) ze)) (qv 1) (zr WC (qv 2) ze) (qv 3))) (vJ (n:=2) (by rfl) (zD (qgE 6 jO.nd) (zD (qgE 7 jO.nd) xf)))) (zc (zo (qtD zv (qv 4) ze) (zd (zg (zh (qa2 (zk (qa1 (zh (qa3 (qS [101,97,99,104]) (qv 5) (qv 6))))) (qv 7))))) zi) (zc (zo (qtD zv (qv 4) ze) (zc (qsE 8 jO.nd (qF aw hr (qa4 (qF af hr (qa2 (qv 0) ze)) (qv 1) (zr WC (qv 2) ze) (qv 3)))) (zd (zg (zh (qa2 (zk (qa1 (zh (qa4 (qS [105,102]) (qv 5) (qv 6) (qxT K (qv 8) ze))))) (zr qI (qv 7) (qxT K (qv 8) ze))))))) zi) (zc (qsE 9 jO.nd (qxL K (zk (qa3 (qS [98,108,111,99,107]) (qS [101,108,100,101,114]) (qS [100,114,97,119]))) (qF ae hr (qa3 (qv 0) ze ze)))) (zd (zg (zh (qa2 (zk (qa1 (zh (qa5 (qS [115,101,97,116]) (qv 9) (qS [97]) (qxL K (zk (qa2 (qS [98]) (qS []))) (Jr zdr (by rfl) T.z_int zej (qa1 (qeD zv (qv 9) (qS [100,114,97,119]))))) (qv 6))))) (qv 7)))))))))))))).h,?_⟩;have hm8:mixM c 1 8<8:=by have:=ZI (c:=c) (k:=1) (m:=8) (by decide);lia
  have hm4:mixM c 2 4<4:=by have:=ZI (c:=c) (k:=2) (m:=4) (by decide);lia
  obtain⟨nm1,nm2⟩:=zhs c;have F0:∀ {x:Addr} {H':Hp},Same H H'->H' x=none->H x=none:=λg z=>none_of g z
  refine zff (λσ' H'=>σ' = smS c kind d pa/\Same H H') ?_ (λN hN=>by
   walk_at "rd"
   intro H1 g1 p hp H2 g2
   have a1:=za (o:=.lst [V.str (S [97]),V.str (S [97,98]),V.str (S [119,104,111]),V.str (S [98])]) hp
   refine⟨_,SqL.of (g2 _ _ zb),V.str (S (Z5 c)),?_,hN _ _ ⟨rfl,g1.trans (a1.trans g2)⟩⟩
   unfold Z5
   have:mixM c 2 4=0\/mixM c 2 4=1\/mixM c 2 4=2\/mixM c 2 4=3:=by lia
   rcases this with e | e | e | e<;>rw [e]<;>rfl)
  rintro σ1 H1 ⟨rfl,g1⟩
  refine Xn (λσ' H'=>σ' = smS c kind d pa/\Same H H'/\¬ (mixM c 1 8=1/\kind≠xw)) ?_ (λN hN=>by
   unfold smS
   walk_at "rd"
   by_cases h1:mixM c 1 8=1
   ·rw [ud (by lia)]
    by_cases h2:kind=[100,111,110,101]
    ·rw [ub (by simp [h2])]
     exact hN _ _ ⟨rfl,g1,λz=>z.2 h2⟩
    ·rw [ud (by simp [h2])]
     intro q1 z1 q2 z2 q3 z3 q4 z4 q5 z5
     have b1:=za (o:=.tup [tx [104,111,108,101],tx (Z5 c)]) z1
     have b2:=za (o:=.lst [V.ref q1]) z2
     have b3:=za (o:=.tup [tx (Z5 c),tx kind]) z3
     have b4:=za (o:=.lst [V.ref q3]) z4
     have b5:=za (o:=.tup [V.ref q2,V.ref q4]) z5
     have B3:=b3.trans (b4.trans b5)
     have G:=g1.trans (b1.trans (b2.trans B3))
     exact q _ _ none L _ ⟨Rp.same hP.lie G,q5,q2,q4,[V.ref q3],rfl,zb,⟨q2,_,rfl,j4 (g1.trans b1) z2 (B3 _ _ zb),Ww (j4 g1 z1 ((b2.trans B3) _ _ zb))⟩,b5 _ _ zb,none_of (g1.trans (b1.trans (b2.trans (b3.trans b4)))) z5,none_of (g1.trans (b1.trans (b2.trans b3))) z4,by simp [szPs,szP]⟩ (.ok (zfr hkn h2 nm1)) .rfl (zhn nm2)
   ·rw [ub (by lia)]
    exact hN _ _ ⟨rfl,g1,λz=>h1 z.1⟩)
  rintro σ2 H2 ⟨rfl,g2,n1⟩
  refine Xn (λσ' H'=>σ' = smS c kind d pa/\Same H H'/\¬ (mixM c 1 8<2\/d=0\/(4<mixM c 1 8/\kind≠zB/\kind≠xw))) ?_ (λN hN=>by
   unfold smS
   walk_at "rd"
   have lit:∀ (H0:Hp),Same H H0->∀ (p:Addr),H0 p=none->upd H0 p (HO.dK []) p=some (HO.dK []) /\
     ∃ kvs:List (Key×V),[(V.str (S [116,101,120,116]),V.str (S [120,32,121,38,48,53,59])),(V.str (S [100,111,110,101]),V.str (S [32,99,61,34,121,34]))]=List.map (λkv=>(kV kv.fst,kv.snd)) kvs/\kvs.length<=15/\IsD (upd (upd H0 p (HO.dK [])) p (HO.dK (qy [] kvs))) p /\
     ∃ o,DGet (upd (upd H0 p (HO.dK [])) p (HO.dK (qy [] kvs))) p (V.str (S kind)) o/\∀ (p_1:Addr),upd (upd H0 p (HO.dK [])) p (HO.dK (qy [] kvs)) p_1=none->∀ (p_2:Addr),upd (upd (upd H0 p (HO.dK [])) p (HO.dK (qy [] kvs))) p_1 (HO.tup [V.str (S [108,105,116]),o.getD (V.str (S [122,48]))]) p_2=none ->
     ∀ (p_3:Addr),upd (upd (upd (upd H0 p (HO.dK [])) p (HO.dK (qy [] kvs))) p_1 (HO.tup [V.str (S [108,105,116]),o.getD (V.str (S [122,48]))])) p_2 (HO.lst [V.ref p_1]) p_3=none->∀ (p_4:Addr),upd (upd (upd (upd (upd H0 p (HO.dK [])) p (HO.dK (qy [] kvs))) p_1 (HO.tup [V.str (S [108,105,116]),o.getD (V.str (S [122,48]))])) p_2 (HO.lst [V.ref p_1])) p_3 (HO.lst []) p_4=none ->
     Q (V.ref p_4) (upd (upd (upd (upd (upd (upd H0 p (HO.dK [])) p (HO.dK (qy [] kvs))) p_1 (HO.tup [V.str (S [108,105,116]),o.getD (V.str (S [122,48]))])) p_2 (HO.lst [V.ref p_1])) p_3 (HO.lst [])) p_4 (HO.tup [V.ref p_2,V.ref p_3])):=by
    intro H0 g0 p hp
    have g5:Same H0 (upd (upd H0 p (HO.dK [])) p (HO.dK (qy [] litK))):=Je hp
    refine⟨zb,litK,rfl,by decide,.inl ⟨_,.inl zb⟩,_,DGet.k (k:=.inr (S kind)) zb,?_⟩
    rw [zhr]
    intro q1 z1 q2 z2 q3 z3 q4 z4
    have b1:=za (o:=.tup [tx [108,105,116],tx (litM kind)]) z1
    have b2:=za (o:=.lst [V.ref q1]) z2
    have b3:=za (o:=.lst []) z3
    have b4:=za (o:=.tup [V.ref q2,V.ref q3]) z4
    have G5:=g0.trans g5
    exact q _ _ none L _ ⟨Rp.same hP.lie (G5.trans (b1.trans (b2.trans (b3.trans b4)))),q4,q2,q3,[],rfl,zb,⟨q2,_,rfl,j4 (G5.trans b1) z2 ((b3.trans b4) _ _ zb),wU (j4 G5 z1 ((b2.trans (b3.trans b4)) _ _ zb))⟩,b4 _ _ zb,none_of (G5.trans (b1.trans (b2.trans b3))) z4,none_of (G5.trans (b1.trans b2)) z3,by simp⟩ (.ok (zfq hkn)) .rfl (zi3 (by cases hkn<;>decide))
   split
   ·exact lit H2 g2
   ·split
    ·exact lit H2 g2
    ·split
     ·intro p hp
      have b0:=za (o:=.tup [V.str (S [116,101,120,116]),V.str (S [100,111,110,101])]) hp
      refine⟨_,.inr (SqT.of zb),rfl,rfl,?_⟩
      by_cases h:kind=zB\/kind=xw
      ·have hin:inV (V.str (S kind)) [V.str (S [116,101,120,116]),V.str (S [100,111,110,101])]=true:=by
        rcases h with rfl | rfl<;>decide
       rw [hin,ub (by decide)]
       refine hN _ _ ⟨rfl,g2.trans b0,?_⟩
       rintro(z | z | z)
       ·lia
       ·lia
       ·rcases h with h | h
        ·exact z.2.1 h
        ·exact z.2.2 h
      ·have hin:inV (V.str (S kind)) [V.str (S [116,101,120,116]),V.str (S [100,111,110,101])]=false:=by
        have k1:¬ S kind=S [116,101,120,116]:=λz=>h (.inl (vo.mp z))
        have k2:¬ S kind=S [100,111,110,101]:=λz=>h (.inr (vo.mp z))
        have k3:¬ S [116,101,120,116]=S kind:=λz=>k1 z.symm
        have k4:¬ S [100,111,110,101]=S kind:=λz=>k2 z.symm
        simp [inV,eqV,k1,k2,k3,k4]
       rw [hin,ud (by decide)]
       exact lit _ (g2.trans b0)
     ·exact hN _ _ ⟨rfl,g2,by lia⟩)
  rintro σ3 H3 ⟨rfl,g3,n2⟩;obtain⟨d',rfl⟩:∃ d',d=d' + 1:=⟨d - 1,by lia⟩
  refine Xn (λσ' H'=>σ' = smS c kind (d' + 1) pa/\Same H H'/\¬ 4<mixM c 1 8) ?_ (λN hN=>by
   unfold smS
   walk_at "rd"
   split
   ·rename_i h4
    refine⟨as,L,hP.mono g3,?_,λr ps y L' H' hr res tl sm=>q r ps y L' H' (hr.pre hP.lie g3) res tl sm⟩
    by_cases e:kind=zB
    ·exact .inl e
    ·exact .inr (Classical.byContradiction λe2=>n2 (.inr (.inr ⟨by lia,e,e2⟩)))
   ·rename_i h4
    exact hN _ _ ⟨rfl,g3,by lia⟩)
  rintro σ4 H4 ⟨rfl,g4,n3⟩;unfold smS
  walk_at "rd";have hgd:gS (d' + 1)=3 * (2 * gS d' + 9):=rfl;intro H5 g5;have G5:=g4.trans g5;have R5:=Rp.same hP.lie G5;refine⟨by lia,as,L,hP.mono G5,hkn,λr ps y L1 H6 hr res tl gd=>?_⟩;obtain⟨rp,p,fa,da,xs,rfl,hp,hfa,hda,np,nd,hxl⟩:=hr;have R6:=R5.trans rp;have gsz:=gd.sz;refine⟨p,rfl,_,SqT.of hp,rfl,_,_,rfl,_,_,rfl,rfl,?_⟩;have N:∀ {x:Addr} {o:HO} {Hi Hx:Hp},Same H6 Hi->Hi x=none->Hx x=some o->nw H Hx x=some o:=λg z e=>Xs hP.lie R6 (none_of g z) e;have F:∀ {x:Addr} {Hi:Hp},Same H6 Hi->Hi x=none->H x=none:=λg z=>R6.fresh hP.lie (none_of g z);by_cases h2:mixM c 1 8=2
  ·rw [ud (by lia)];intro q1 z1 q2 z2 q3 z3;have b1:=za (o:=.tup [tx [101,97,99,104],tx (Z5 c),.ref fa]) z1;have b2:=za (o:=.lst [V.ref q1]) z2;have b3:=za (o:=.tup [V.ref q2,V.ref da]) z3;have B2:=b1.trans b2;have B:=B2.trans b3;exact q _ _ y L1 _ ⟨R6.trans (Rp.same rp.2 B),q3,q2,da,xs,rfl,zb,⟨q2,_,rfl,N b1 z2 (b3 _ _ zb),VZ (N (Same.refl _) z1 ((b2.trans b3) _ _ zb)) (hfa.mono ((kY hP.lie R5).trans (xE B)))⟩,B _ _ hda,F B2 z3,none_of G5 nd,by simp only [szPs,szP];lia⟩ (zfs (res.mono (UP d')) nm1) tl (zho gd)
  ·rw [ub (by lia)];by_cases h3:mixM c 1 8=3
   ·rw [ud (by lia)];intro H7 g7;have R7:=R6.trans (Rp.same rp.2 g7);refine⟨by lia,as,L1,(hP.go R6 tl).mono g7,hkn,λr ps2 y2 L2 H8 hr res2 tl2 gd2=>?_⟩;obtain⟨rp8,pr2,fb,db,ys,rfl,hpr2,hfb,hdb,np2,nd2,hyl⟩:=hr;have R8:=R7.trans rp8;have R68:=(Rp.same rp.2 g7).trans rp8;have gsz2:=gd2.sz;have N8:∀ {x:Addr} {o:HO} {Hi Hx:Hp},Same H8 Hi->Hi x=none->Hx x=some o->nw H Hx x=some o:=λg z e=>Xs hP.lie R8 (none_of g z) e;have F8:∀ {x:Addr} {Hi:Hp},Same H8 Hi->Hi x=none->H x=none:=λg z=>R8.fresh hP.lie (none_of g z);refine⟨pr2,rfl,_,SqT.of hpr2,_,rfl,λq1 z1 q2 z2=>?_⟩;have b1:=za (o:=.tup [tx [105,102],tx (Z5 c),.ref fa,.ref fb]) z1;have b2:=za (o:=.lst [V.ref q1]) z2;have B2:=b1.trans b2;refine⟨pr2,rfl,_,SqT.of (B2 _ _ hpr2),_,rfl,da,rfl,db,rfl,xs,B2 _ _ (R68.old (λy=>hP.lie.some _ y (none_of G5 nd)) hda),ys,B2 _ _ hdb,by lia,λq3 z3 q4 z4=>?_⟩;have b3:=za (o:=.lst (xs++ys)) z3;have b4:=za (o:=.tup [V.ref q2,V.ref q3]) z4;have B3:=B2.trans b3;have B:=B3.trans b4;exact q _ _ (y <|> y2) L2 _ ⟨R8.trans (Rp.same rp8.2 B),q4,q2,q3,xs++ys,rfl,zb,⟨q2,_,rfl,N8 b1 z2 ((b3.trans b4) _ _ zb),za6 (N8 (Same.refl _) z1 ((b2.trans (b3.trans b4)) _ _ zb)) (hfa.mono ((kY hP.lie R5).trans ((KQ R68 hP.lie.some).trans (xE B)))) (hfb.mono ((kY hP.lie R7).trans (xE B)))⟩,b4 _ _ zb,F8 B3 z4,F8 B2 z3,by rw [ug];simp only [szPs,szP];lia⟩ (zhj (res.mono (UP d')) (res2.mono (UP d')) nm1) (tl.app tl2) (zi4 gd gd2)
   ·rw [ub (by lia)];intro q0 z0 H7 g7;have b0:=za (o:=.lst [V.str (S [98,108,111,99,107]),V.str (S [101,108,100,101,114]),V.str (S [100,114,97,119])]) z0;have hm3:mixM c 3 3<3:=by have:=ZI (c:=c) (k:=3) (m:=3) (by decide);lia
    refine⟨_,SqL.of (g7 _ _ zb),V.str (S (Xr c)),?_,λq1 z1=>⟨rfl,_,SqL.of zb,V.str (S (if Xr c=[100,114,97,119] then [] else [98])),?_,λq2 z2 q3 z3 q4 z4=>?_⟩⟩
    ·unfold Xr;have:mixM c 3 3=0\/mixM c 3 3=1\/mixM c 3 3=2:=by lia
     rcases this with e | e | e<;>rw [e]<;>rfl
    ·by_cases hw:Xr c=[100,114,97,119]
     ·rw [ud (by rw [hw]),ud hw];rfl
     ·rw [ub (show ¬ V.str (S (Xr c))=V.str (S [100,114,97,119]) from ql hw),ub hw];rfl
    ·have b1:=za (o:=.lst [V.str (S [98]),V.str (S [])]) z1;have b2:=za (o:=.tup [tx [115,101,97,116],tx (Xr c),tx [97],tx (if Xr c=[100,114,97,119] then [] else [98]),.ref fa]) z2;have b3:=za (o:=.lst [V.ref q2]) z3;have b4:=za (o:=.tup [V.ref q3,V.ref da]) z4;have B1:=b0.trans (g7.trans b1);have B2:=B1.trans b2;have B3:=B2.trans b3;have B:=B3.trans b4;exact q _ _ y L1 _ ⟨R6.trans (Rp.same rp.2 B),q4,q3,da,xs,rfl,zb,⟨q3,_,rfl,N B2 z3 (b4 _ _ zb),zcx (N B1 z2 ((b3.trans b4) _ _ zb)) (hfa.mono ((kY hP.lie R5).trans (xE B)))⟩,B _ _ hda,F B3 z4,none_of G5 nd,by simp only [szPs,szP];lia⟩ (zft (res.mono (UP d')) (by unfold Mk;decide) (by lia)) tl (zhp gd)
def goI (d:Nat)(c:Int)(kind:Tx)(pa:Addr)(as:Ld)(L:List Plt)(H:Hp)(i:Nat)(σ:L2.St)(H':Hp):Prop:=∃ (fa da:Addr) (vs xs:List V) (ps:List Pc) (y:Option (Fw×Tx)) (L':List Plt) (o6 o7 o8:Option V),σ=[some (V.int c),some (V.str (S kind)),some (V.int d),some (V.ref pa),some (V.ref fa),some (V.ref da),o6,o7,o8]/\Rp as H H' L'/\nw H H' fa=some (.lst vs)/\IsDs (nw H H') (dPs ps) vs/\H' da=some (.lst xs)/\H da=none/\xs.length<=szPs ps/\Res1 d kind [] kind [] ps y/\Tell L L' y/\RwB d i ps
def giI (d:Nat)(c:Int)(kind:Tx)(pa da:Addr)(as:Ld)(i:Nat)(H H2:Hp)(ps:List Pc)(L1:List Plt)(o8:Option V)(j:Nat)(σ:L2.St)(H':Hp):Prop:=∃ (fa:Addr) (vs:List V) (o7:Option V),σ=[some (V.int c),some (V.str (S kind)),some (V.int d),some (V.ref pa),some (V.ref fa),some (V.ref da),some (V.int i),o7,o8]/\Rp as H2 H' ((rnd kind (L1.take j)).2++L1.drop j)/\nw H H' fa=some (.lst vs)/\IsDs (nw H H') (dPs (ps++(rnd kind (L1.take j)).1)) vs
theorem yu {k d:Nat}(hk:20<=k)(hd:gS d<=100000)(T:Txt w K mg t)(D:Df K mg "_law_good" yf qu)(ae:OkF P w K mg base 1 "_law_mix" zV qi)(af:OkF P w K mg base 2 "_law_part" qV jm)(ar:OkF P w K mg base 1 "_law_fault" ju jU)(cq:OkF P w K mg base k "_law_some" wo (vB d)):OkF P w K mg base (k+1) "_law_good" qu (jr d):=by
 refine D.ok qD ?_ ?_;walk_at "b"
 ·refine ex5 h λc kind pa as L h=>?_;refine av3 h λhP hkn q=>?_;refine⟨_,(zc (qsE 4 qD.nd (zk zC)) (zc (qsE 5 qD.nd (zk zC)) (zc (wL PassesOwn.never (by rfl) (Js (by rfl) T.z_range (qa1 (qF ae hr (qa3 (qv 0) ze ze)))) (qgE 6 qD.nd) (zc (wL PassesOwn.never (by rfl) (jQ (K:=K) (by rfl) (qv 3)) (qgE 7 qD.nd) (zc (kg (zr WC (qxL K (qv 7) ze) ze) (zeX (qv 7) ze set_list (by intro _;rfl))) (zd (zo (qtD zv (qxL K (qv 7) ze) ze) (zd (qsE 4 qD.nd (zr qI (qv 4) (qF ar hr (qa3 (qxL K (qv 7) ze) (qxL K (qv 7) ze) (qv 1)))))) zi)))) (zc (qsE 8 qD.nd (qF cq hr (qa4 (qF af hr (qa2 (qv 0) (qv 6))) (qv 1) (qv 2) (qv 3)))) (zc (qsE 4 qD.nd (zr qI (qv 4) (qxT K (qv 8) ze))) (zd (qsE 5 qD.nd (zr qI (qv 5) (qxT K (qv 8) ze)))))))) (zd (zg (zh (qa2 (qv 4) (qv 5)))))))).h,?_⟩
  walk_at "rd";intro p hp p1 hp1 H1 g1;have hm4:mixM c 5 4<4:=by have:=ZI (c:=c) (k:=5) (m:=4) (by decide);lia
  have a1:=za (o:=.lst []) hp;have a2:=za (o:=.lst []) hp1;have A1:=a1.trans (a2.trans g1);refine⟨by lia,by lia,WN (goI d c kind pa as L H) ⟨p,p1,[],[],[],none,L,_,_,_,rfl,Rp.same hP.lie A1,j4 (Same.refl _) hp ((a2.trans g1) _ _ zb),by simp only [dPs];rfl,g1 _ _ zb,none_of a1 hp1,by simp,.ok .nil,.rfl,.nil⟩ ?_ ?_⟩
  ·rintro i σ H2 hi ⟨fa,da,vs,xs,ps,y,L1,o6,o7,o8,rfl,R2,hfa,hds,hda,nda,hxl,res,tl,rw_⟩;have hi:i<3:=by lia
   have hP2:=hP.go R2 tl;have hla:=hP2.lie.len
   walk_at "rd";refine⟨⟨_,SqL.of hP2.at_⟩,w6 (K:=K) (a:=pa) (xs:=as.map .ref) (giI d c kind pa da as i H H2 ps L1 o8) ⟨fa,vs,_,rfl,Rp.same hP2.lie (Same.refl _),hfa,by simpa [rnd] using hds⟩ ?_ ?_ ?_⟩
   ·rintro j σ H' _ ⟨fa,vs,o7,rfl,R3,_⟩;exact SqL.of (R3.old hP2.out hP2.at_)
   ·rintro j v σ H3 hj ⟨fa3,vs3,o7,rfl,R3,hfa3,hds3⟩;obtain⟨a,ha,rfl⟩:=zfF hj;have hjl:j<L1.length:=by have:=(ur.mp ha).1;lia
    obtain⟨⟨cc,wd,mk⟩,hx⟩:∃ x:Plt,L1[j]? = some x:=⟨L1[j]'hjl,uo hjl⟩
    obtain⟨e1,e2⟩:=zcK hx;rw [e1] at R3;have hA:(rnd kind (L1.take j)).2.length=j:=by rw [zcJ,Ui];lia
    have ha':as[(rnd kind (L1.take j)).2.length]? = some a:=by rw [hA];exact ha
    have h0:=zfE R3.2 ha';have hmk:Mk mk:=hP2.mks (wd,mk) (UT.mpr ⟨_,uN hx,rfl⟩);have hmt:MkL (L1.take j):=λp hp=>hP2.mks p (by obtain⟨z,h1,h2⟩:=UT.mp hp;exact UT.mpr ⟨z,List.mem_of_mem_take h1,h2⟩);have hp1:=zcI (cc - 1) R3.2 ha' hP.nd;have Rput:=zfD (uN ha) hp1;have eL:(rnd kind (L1.take j)).2++(cc - 1,wd,mk)::L1.drop (j+1)=(rnd kind (L1.take (j+1))).2++L1.drop (j+1):=by rw [e2,Xu,uW];rfl
    have eP:ps++(rnd kind (L1.take (j+1))).1=ps++(rnd kind (L1.take j)).1++(if cc - 1=0 then qP wd mk kind else []):=by rw [e2,Xu,uW]
    rw [eL] at Rput;have R3p:=R3.trans Rput;have S3:=KQ Rput hP.lie.some;have RH:=R2.trans R3p;have l0:=(rw_.gd (by lia)).sz;have l1:=hds3.len;rw [qE] at l1;have l2:=xu (ps++(rnd kind (L1.take j)).1);rw [qj] at l2;have l3:=(zbg (n:=0) hkn hmt).sz;have l4:=hP2.two;rw [Ui] at l3
    walk_at "rd";refine⟨_,SqL.of h0,_,zA _ _,_,rfl,_,h0,_,rfl,_,SqL.of zb,_,zA _ _,rfl,?_⟩;by_cases e:cc - 1=0
    ·rw [ud (by rw [e])];rw [ud e] at eP;refine⟨_,SqL.of zb,_,wV _ _ _,_,SqL.of zb,_,Jb _ _ _ _,wd,rfl,mk,rfl,hmk,hkn,λfb H4 g4 hfb=>?_⟩;obtain⟨_,us,e',hfb',hdu⟩:=hfb;cases e';have l5:=hdu.len;rw [qE] at l5;have l6:=xu (qP wd mk kind);have l7:=(Jd (n:=0) (wd:=wd) hkn hmk).sz;refine⟨vs3,yW _ _ (xE g4 _ _ (S3 _ _ hfa3)),us,yW _ _ hfb',by lia,λq1 h1=>?_⟩;have b1:=za (o:=.lst (vs3++us)) h1;refine⟨q1,vs3++us,_,rfl,R3p.trans (Rp.same R3p.2 (g4.trans b1)),Xs hP.lie (RH.trans (Rp.same RH.2 g4)) h1 zb,?_⟩;rw [eP,jZ];exact(hds3.mono (S3.trans (xE (g4.trans b1)))).app (hdu.mono ((kY hP.lie RH).trans (xE b1)))
    ·rw [ub (λz=>e (V.int.inj z))];rw [ub e,uw] at eP;exact⟨fa3,vs3,_,rfl,R3p,S3 _ _ hfa3,by rw [eP];exact hds3.mono S3⟩
   ·rintro σ H3 ⟨fa3,vs3,o7,rfl,R3,hfa3,hds3⟩;rw [uk,hla,Ux] at hds3 R3;rw [UK (ui _),uw] at R3;obtain⟨y2,r1,r2⟩:=zcD (d:=d) hkn hP2.mks;have tl2:=tl.app r2;have R23:=R2.trans R3;have hP3:=hP2.go R3 r2
    walk_at "rd";refine⟨by lia,by lia,λH4 g4=>⟨as,_,hP3.mono g4,hkn,λr ps4 y4 L4 H5 hr res4 tl4 sm=>?_⟩⟩;obtain⟨rp,pr,fb,db,ys,rfl,hpr,⟨_,us,e,hfb,hdu⟩,hdb,np,nd,hyl⟩:=hr;cases e;have R4:=R23.trans (Rp.same R3.2 g4);have R5:=R4.trans rp;have R45:=(Rp.same R3.2 g4).trans rp;have hdA:H3 da=some (.lst xs):=R3.old (λy=>hP.lie.some _ y nda) hda;have S45:Same (nw H H3) (nw H H5):=KQ R45 hP.lie.some;have RW:=rw_.next hkn hP2.mks hP2.two sm;have l0:=(RW.gd (by lia)).sz;have l1:=hds3.len;rw [qE] at l1;have l2:=xu (ps++(rnd kind L1).1);have l3:=hdu.len;rw [qE] at l3;have l4:=xu ps4;rw [qj,qj] at l0;rw [qj] at l2;refine⟨pr,rfl,_,SqT.of hpr,_,rfl,fb,rfl,vs3,yW _ _ (S45 _ _ hfa3),us,yW _ _ hfb,by lia,λq1 h1=>?_⟩;have b1:=za (o:=.lst (vs3++us)) h1;refine⟨pr,rfl,_,SqT.of (b1 _ _ hpr),_,rfl,db,rfl,xs,b1 _ _ (R45.old (λy=>hP.lie.some _ y nda) hdA),ys,b1 _ _ hdb,by lia,λq2 h2=>?_⟩;have b2:=za (o:=.lst (xs++ys)) h2;have B:=b1.trans b2;refine⟨q1,q2,vs3++us,xs++ys,_,_,_,_,_,_,rfl,R5.trans (Rp.same rp.2 B),Xs hP.lie R5 h1 (b2 _ _ zb),?_,zb,R5.fresh hP.lie (none_of b1 h2),?_,Res1.app (Res1.app res r1) res4,tl2.app tl4,RW⟩
    ·rw [jZ];exact(hds3.mono (S45.trans (xE B))).app (hdu.mono ((kY hP.lie R4).trans (xE B)))
    ·rw [ug,qj,qj];lia
  ·rintro σ H2 ⟨fa,da,vs,xs,ps,y,L1,o6,o7,o8,rfl,R2,hfa,hds,hda,nda,hxl,res,tl,rw_⟩
   walk_at "rd";intro p3 hp3;have a3:=za (o:=.tup [V.ref fa,V.ref da]) hp3;have eM:((mixM c 5 4:Nat):Int).toNat=mixM c 5 4:=Gp _;rw [eM] at rw_;exact q _ ps y L1 _ ⟨R2.trans (Rp.same R2.2 a3),p3,fa,da,xs,rfl,zb,⟨fa,vs,rfl,xE a3 _ _ hfa,hds.mono (xE a3)⟩,a3 _ _ hda,R2.fresh hP.lie hp3,nda,hxl⟩ res tl (rw_.gd (by lia))
theorem Yk (T:Txt w K mg t)(D:Df K mg "_law_good" yf qu)(aO:Df K mg "_law_within" xM jB)(aJ:Df K mg "_law_compound" wH qC)(aK:Df K mg "_law_some" yg wo)(ae:OkF P w K mg base 1 "_law_mix" zV qi)(af:OkF P w K mg base 2 "_law_part" qV jm)(ar:OkF P w K mg base 1 "_law_fault" ju jU):OkF P w K mg base 40 "_law_good" qu (jr 3):=by have g_:OkF P w K mg base 20 "_law_good" qu (λ_ _ _ _=>False):=D.ok (k:=19) qD (λ_ _ _ _ h=>h.elim) (λ_ _ _ _ _ _ _ _ _ _ h=>h.elim);have c_:OkF P w K mg base 20 "_law_compound" qC (λ_ _ _ _=>False):=aJ.ok (k:=19) zG (λ_ _ _ _ h=>h.elim) (λ_ _ _ _ _ _ _ _ _ _ h=>h.elim);have s0:=yt (k:=20) (d:=0) (by decide) (by decide) (by decide) T aK ae af (c_.imp λ_ _ _ _ ⟨d',e,_⟩=>by lia) (g_.imp λ_ _ _ _ ⟨d',e,_⟩=>by lia);have g0:=yu (k:=21) (by decide) (by decide) T D ae af ar s0;have w0:=yO (k:=22) (by decide) (by decide) T aO af g0;have c0:=vn (k:=23) (by decide) (by decide) T aJ ae af w0 (g0.mono (by decide));have s1:=yt (k:=24) (d:=1) (by decide) (by decide) (by decide) T aK ae af (c0.imp λ_ _ _ _ ⟨d',e,h⟩=>by cases e;exact h) ((g0.mono (by decide)).imp λ_ _ _ _ ⟨d',e,h⟩=>by cases e;exact h);have g1:=yu (k:=25) (by decide) (by decide) T D ae af ar s1;have w1:=yO (k:=26) (by decide) (by decide) T aO af g1;have c1:=vn (k:=27) (by decide) (by decide) T aJ ae af w1 (g1.mono (by decide));have s2:=yt (k:=28) (d:=2) (by decide) (by decide) (by decide) T aK ae af (c1.imp λ_ _ _ _ ⟨d',e,h⟩=>by cases e;exact h) ((g1.mono (by decide)).imp λ_ _ _ _ ⟨d',e,h⟩=>by cases e;exact h);have g2:=yu (k:=29) (by decide) (by decide) T D ae af ar s2;have w2:=yO (k:=30) (by decide) (by decide) T aO af g2;have c2:=vn (k:=31) (by decide) (by decide) T aJ ae af w2 (g2.mono (by decide));have s3:=yt (k:=32) (d:=3) (by decide) (by decide) (by decide) T aK ae af (c2.imp λ_ _ _ _ ⟨d',e,h⟩=>by cases e;exact h) ((g2.mono (by decide)).imp λ_ _ _ _ ⟨d',e,h⟩=>by cases e;exact h);exact(yu (k:=33) (by decide) (by decide) T D ae af ar s3).mono (by decide)
def mdI (c:Int)(pa da:Addr)(as:Ld)(H H2:Hp)(ps:List Pc)(L1:List Plt)(j:Nat)(σ:L2.St)(H':Hp):Prop:=∃ (fa:Addr) (vs:List V) (o4:Option V),σ=[some (V.int c),some (V.ref pa),some (V.ref fa),some (V.ref da),o4]/\Rp as H2 H' ((L1.take j).map (λx=>(if x.1 > 0 then 0 else x.1,x.2))++L1.drop j)/\nw H H' fa=some (.lst vs)/\IsDs (nw H H') (dPs (ps++rst (L1.take j))) vs
theorem zaa {c:Int}{w:Fw}{m:Tx}:∀ (L:List Plt),rst (L++[(c,w,m)])=rst L++(if c > 0 then qP w m zB else [])
 | []=>by simp [rst]
 | (e,v,n)::L=>by simp only [uH,rst,zaa L,uW]
theorem zab (T:Txt w K mg t)(D:Df K mg "_law_made" Zy xn)(aw:OkF P w K mg base 40 "_law_good" qu (jr 3))(ar:OkF P w K mg base 1 "_law_fault" ju jU):OkF P w K mg base 41 "_law_made" xn vC:=by
 refine D.ok xo ?_ ?_;walk_at "b"
 ·refine ex4 h λc pa as L h=>?_;refine av3 h λhP hps q=>?_;refine⟨_,(zc (kg (qF aw hr (qa4 (qv 0) (qS [116,101,120,116]) ze (qv 1))) (vJ (n:=2) (by rfl) (zD (qgE 2 xo.nd) (zD (qgE 3 xo.nd) xf)))) (zc (wL PassesOwn.never (by rfl) (jQ (K:=K) (by rfl) (qv 1)) (qgE 4 xo.nd) (zd (zo (qtD WE (qxL K (qv 4) ze) ze) (zc (qsE 2 xo.nd (zr qI (qv 2) (qF ar hr (qa3 (qxL K (qv 4) ze) (qxL K (qv 4) ze) (qS [116,101,120,116]))))) (zd (kg ze (zeX (qv 4) ze set_list (by intro _;rfl))))) zi))) (zd (zg (zh (qa2 (qv 2) (qv 3))))))).h,?_⟩
  walk_at "rd";refine⟨as,L,hP,.text,λr ps y L1 H1 hr res tl gd=>?_⟩;obtain⟨R1,p,fa,da,xs,rfl,hp,⟨_,vs,e,hfa,hds⟩,hda,np,nda,hxl⟩:=hr;cases e;have hP1:=hP.go R1 tl;have hla:=hP1.lie.len;have gsz:=gd.sz;refine⟨p,rfl,_,SqT.of hp,rfl,_,_,rfl,_,_,rfl,rfl,⟨_,SqL.of hP1.at_⟩,?_⟩;refine w6 (K:=K) (a:=pa) (xs:=as.map .ref) (mdI c pa da as H H1 ps L1) ⟨fa,vs,_,rfl,Rp.same hP1.lie (Same.refl _),hfa,by simpa [rst] using hds⟩ ?_ ?_ ?_
  ·rintro j σ H' _ ⟨fa,vs,o7,rfl,R3,_⟩;exact SqL.of (R3.old hP1.out hP1.at_)
  ·rintro j v σ H3 hj ⟨fa3,vs3,o7,rfl,R3,hfa3,hds3⟩;obtain⟨a,ha,rfl⟩:=zfF hj;have hjl:j<L1.length:=by have:=(ur.mp ha).1;lia
   obtain⟨⟨cc,wd,mk⟩,hx⟩:∃ x:Plt,L1[j]? = some x:=⟨L1[j]'hjl,uo hjl⟩
   obtain⟨e1,e2⟩:=zcK hx;rw [e1] at R3;have hA:((L1.take j).map (λ(x:Plt)=>((if x.1 > 0 then 0 else x.1:Int),x.2))).length=j:=by rw [uk,Ui];lia
   have ha':as[((L1.take j).map (λ(x:Plt)=>((if x.1 > 0 then 0 else x.1:Int),x.2))).length]? = some a:=by rw [hA];exact ha
   have h0:=zfE R3.2 ha';have hmk:Mk mk:=hP1.mks (wd,mk) (UT.mpr ⟨_,uN hx,rfl⟩);have hmt:MkL (L1.take j):=λp hp=>hP1.mks p (by obtain⟨z,h1,h2⟩:=UT.mp hp;exact UT.mpr ⟨z,List.mem_of_mem_take h1,h2⟩);have eP:ps++rst (L1.take (j+1))=ps++rst (L1.take j)++(if cc > 0 then qP wd mk zB else []):=by rw [e2,zaa,uW]
   have RH:=R1.trans R3;have l1:=hds3.len;rw [qE] at l1;have l2:=xu (ps++rst (L1.take j));rw [qj] at l2;have l3:=(zbh (n:=0) hmt).sz;have l4:=hP1.two;rw [Ui] at l3;have l8:gS 3=5697:=by decide
   walk_at "rd";refine⟨_,SqL.of h0,_,zA _ _,_,rfl,?_⟩;by_cases hcc:0<cc
   ·rw [ud hcc];rw [ud hcc] at eP;refine⟨_,SqL.of h0,_,wV _ _ _,_,SqL.of h0,_,Jb _ _ _ _,wd,rfl,mk,rfl,hmk,.text,λfb H4 g4 hfb=>?_⟩;obtain⟨_,us,e',hfb',hdu⟩:=hfb;cases e';have l5:(qP wd mk zB).length=us.length:=by have:=hdu.len;rw [qE] at this;exact this
    have l6:=xu (qP wd mk zB);have l7:=(Jd (n:=0) (wd:=wd) .text hmk).sz;refine⟨vs3,g4 _ _ (yW _ _ hfa3),us,yW _ _ hfb',by lia,λq1 h1=>?_⟩;have b1:=za (o:=.lst (vs3++us)) h1;have g41:=g4.trans b1;have p1:=R3.2.mono g41;have p2:=zcI 0 p1 ha' hP.nd;have Rput:=zfD (uN ha) p2;have eL:(L1.take j).map (λ(x:Plt)=>((if x.1 > 0 then 0 else x.1:Int),x.2))++(0,wd,mk)::L1.drop (j+1)=(L1.take (j+1)).map (λ(x:Plt)=>((if x.1 > 0 then 0 else x.1:Int),x.2))++L1.drop (j+1):=by rw [e2,Uv,uW];simp [hcc]
    rw [eL] at Rput;have S:=KQ Rput hP.lie.some;refine⟨_,g41 _ _ h0,_,rfl,q1,vs3++us,_,rfl,(R3.trans (Rp.same R3.2 g41)).trans Rput,S _ _ (Xs hP.lie (RH.trans (Rp.same RH.2 g4)) h1 zb),?_⟩;rw [eP,jZ];exact(hds3.mono ((xE g41).trans S)).app (hdu.mono ((kY hP.lie RH).trans ((xE b1).trans S)))
   ·rw [ub hcc];rw [ub hcc,uw] at eP;refine⟨fa3,vs3,_,rfl,?_,hfa3,by rw [eP];exact hds3⟩;rw [e2,Uv,uW];simpa [hcc] using R3
  ·rintro σ H3 ⟨fa3,vs3,o7,rfl,R3,hfa3,hds3⟩;rw [uk,hla,Ux] at hds3 R3
   walk_at "rd";intro p3 hp3;have a3:=za (o:=.tup [V.ref fa3,V.ref da]) hp3;have RH:=R1.trans R3;obtain⟨z,z1,z2,z3⟩:=zfx (d:=3) res tl hP.mks hps;have hl:L1.length<=2:=hP1.two;have l1:=(zbh (n:=3) hP1.mks).up (ui _) (by lia:_<=6) (by lia:_<=10);exact q _ (ps++rst L1) z _ _ ⟨RH.trans (Rp.same RH.2 a3),p3,fa3,da,xs,rfl,zb,⟨fa3,vs3,rfl,xE a3 _ _ hfa3,hds3.mono (xE a3)⟩,a3 _ _ (R3.old (λy=>hP.lie.some _ y nda) hda),RH.fresh hP.lie hp3,nda,by rw [qj];lia⟩ z1 z2 z3 ((Bz.app gd l1).up (ui _) (by decide) (by decide))
theorem XN (T:Txt w K mg t)(D:Df K mg "_law_marked" yF qJ):OkF P w K mg base 1 "_law_marked" qJ je:=by
 refine D.ok Xk ?_ ?_;walk_at "b"
 ·refine ex3 h λpv p mk h=>?_;refine av2 h λhp q=>?_;refine⟨_,(zc (zo (qtD zv (qxT K (qv 0) ze) (qS [108,105,116])) (zd (zg (qeD ze0 (qv 1) (qxT K (qv 0) ze)))) zi) (zc (zo (qtD zv (qxT K (qv 0) ze) (qS [115,101,97,116])) (zd (zg (qeD zv (qxT K (qv 0) ze) (qv 1)))) zi) (zd (zg (qeD zv (qxT K (qv 0) ze) (qv 1)))))).h,?_⟩
  walk_at "rd";obtain⟨pa,vs,rfl,hpa,hf⟩:=pcF hp;have hq:=SqT.of (K:=K) hpa;have eq1:∀ {x:Tx},decide (tx x=V.str (S mk))=decide (x=mk):=λ{x}=>decide_eq_decide.mpr ⟨λh=>vo.mp (V.str.inj h),λh=>by rw [h];rfl⟩;have q:=q H (Same.refl _);cases p with
  | lit z=>cases hf;refine⟨_,rfl,_,hq,_,zA _ _,rfl,?_⟩;rw [ud (show tx _=V.str (S _) from rfl)];exact⟨_,rfl,_,hq,_,wV _ _ _,z,rfl,q⟩
  | seat w' n m b=>obtain⟨wv,rfl,hw⟩:=hf;refine⟨_,rfl,_,hq,_,zA _ _,rfl,?_⟩;rw [ub (ql (by decide))];refine⟨_,rfl,_,hq,_,zA _ _,rfl,?_⟩;rw [ud (show tx _=V.str (S _) from rfl)];exact⟨_,rfl,_,hq,_,Jb _ _ _ _,rfl,by rw [eq1];exact q⟩
  | hole z=>cases hf;refine⟨_,rfl,_,hq,_,zA _ _,rfl,?_⟩;rw [ub (ql (by decide))];refine⟨_,rfl,_,hq,_,zA _ _,rfl,?_⟩;rw [ub (ql (by decide))];exact⟨_,rfl,_,hq,_,wV _ _ _,rfl,by rw [eq1];exact q⟩
  | each z b=>obtain⟨wv,rfl,hw⟩:=hf;refine⟨_,rfl,_,hq,_,zA _ _,rfl,?_⟩;rw [ub (ql (by decide))];refine⟨_,rfl,_,hq,_,zA _ _,rfl,?_⟩;rw [ub (ql (by decide))];exact⟨_,rfl,_,hq,_,wV _ _ _,rfl,by rw [eq1];exact q⟩
  | ife z a b=>obtain⟨wv,uv,rfl,hw,hu⟩:=hf;refine⟨_,rfl,_,hq,_,zA _ _,rfl,?_⟩;rw [ub (ql (by decide))];refine⟨_,rfl,_,hq,_,zA _ _,rfl,?_⟩;rw [ub (ql (by decide))];exact⟨_,rfl,_,hq,_,wV _ _ _,rfl,by rw [eq1];exact q⟩
theorem Yl (T:Txt w K mg t)(D:Df K mg "_law_inner" kz qo):OkF P w K mg base 1 "_law_inner" qo qG:=by
 refine D.ok XF ?_ ?_;walk_at "b"
 ·refine ex2 h λpv p h=>?_;refine av2 h λhp q=>?_;refine⟨_,(zc (zo (qtD zv (qxT K (qv 0) ze) (qS [101,97,99,104])) (zd (zg (zk (qa1 (zh (qa3 (zk (qa1 ze)) ze (qxT K (qv 0) ze))))))) zi) (zc (zo (qtD zv (qxT K (qv 0) ze) (qS [105,102])) (zd (zg (zk (qa2 (zh (qa3 (zk (qa1 ze)) ze (qxT K (qv 0) ze))) (zh (qa3 (zk (qa1 ze)) ze (qxT K (qv 0) ze))))))) zi) (zc (zo (qtD zv (qxT K (qv 0) ze) (qS [115,101,97,116])) (zd (zg (zk (qa1 (zh (qa3 (zk zC) ze (qxT K (qv 0) ze))))))) zi) (zd (zg (zk zC)))))).h,?_⟩
  walk_at "rd";obtain⟨pa,vs,rfl,hpa,hf⟩:=pcF hp;have hq:=SqT.of (K:=K) hpa;cases p with
  | each z b=>obtain⟨wv,rfl,hw⟩:=hf;refine⟨_,rfl,_,hq,_,zA _ _,rfl,?_⟩;rw [ud (show tx _=V.str (S _) from rfl)];intro q1 h1;have b1:=za (o:=.lst [V.int 1]) h1;refine⟨_,rfl,_,SqT.of (b1 _ _ hpa),_,Jb _ _ _ _,λq2 h2 q3 h3=>?_⟩;have b2:=za (o:=.tup [V.ref q1,V.int 0,wv]) h2;have b3:=za (o:=.lst [V.ref q2]) h3;exact q _ _ _ (b1.trans (b2.trans b3)) zb (.cons (b3 _ _ zb) ((b2.trans b3) _ _ zb) (hw.mono (b1.trans (b2.trans b3))) .nil)
  | ife z a b=>obtain⟨wv,uv,rfl,hw,hu⟩:=hf;refine⟨_,rfl,_,hq,_,zA _ _,rfl,?_⟩;rw [ub (ql (by decide))];refine⟨_,rfl,_,hq,_,zA _ _,rfl,?_⟩;rw [ud (show tx _=V.str (S _) from rfl)];intro q1 h1;have b1:=za (o:=.lst [V.int 0]) h1;refine⟨_,rfl,_,SqT.of (b1 _ _ hpa),_,Jb _ _ _ _,λq2 h2 q3 h3=>?_⟩;have b2:=za (o:=.tup [V.ref q1,V.int 0,wv]) h2;have b3:=za (o:=.lst [V.int 1]) h3;have B3:=b1.trans (b2.trans b3);refine⟨_,rfl,_,SqT.of (B3 _ _ hpa),_,zfg _ _ _ _ _,λq5 h5 q6 h6=>?_⟩;have b5:=za (o:=.tup [V.ref q3,V.int 0,uv]) h5;have b6:=za (o:=.lst [V.ref q2,V.ref q5]) h6;have b56:=b5.trans b6;exact q _ _ _ (B3.trans b56) zb (.cons ((b3.trans b56) _ _ zb) ((b2.trans (b3.trans b56)) _ _ zb) (hw.mono (B3.trans b56)) (.cons (b6 _ _ zb) (b56 _ _ zb) (hu.mono (B3.trans b56)) .nil))
  | seat w' n m b=>obtain⟨wv,rfl,hw⟩:=hf;refine⟨_,rfl,_,hq,_,zA _ _,rfl,?_⟩;rw [ub (ql (by decide))];refine⟨_,rfl,_,hq,_,zA _ _,rfl,?_⟩;rw [ub (ql (by decide))];refine⟨_,rfl,_,hq,_,zA _ _,rfl,?_⟩;rw [ud (show tx _=V.str (S _) from rfl)];intro q1 h1;have b1:=za (o:=.lst []) h1;refine⟨_,rfl,_,SqT.of (b1 _ _ hpa),_,zfh _ _ _ _ _ _,λq2 h2 q3 h3=>?_⟩;have b2:=za (o:=.tup [V.ref q1,V.int 1,wv]) h2;have b3:=za (o:=.lst [V.ref q2]) h3;exact q _ _ _ (b1.trans (b2.trans b3)) zb (.cons (b3 _ _ zb) ((b2.trans b3) _ _ zb) (hw.mono (b1.trans (b2.trans b3))) .nil)
  | lit z=>cases hf;refine⟨_,rfl,_,hq,_,zA _ _,rfl,?_⟩;rw [ub (ql (by decide))];refine⟨_,rfl,_,hq,_,zA _ _,rfl,?_⟩;rw [ub (ql (by decide))];refine⟨_,rfl,_,hq,_,zA _ _,rfl,?_⟩;rw [ub (ql (by decide))];exact λq1 h1=>q _ _ _ (za h1) zb .nil
  | hole z=>cases hf;refine⟨_,rfl,_,hq,_,zA _ _,rfl,?_⟩;rw [ub (ql (by decide))];refine⟨_,rfl,_,hq,_,zA _ _,rfl,?_⟩;rw [ub (ql (by decide))];refine⟨_,rfl,_,hq,_,zA _ _,rfl,?_⟩;rw [ub (ql (by decide))];exact λq1 h1=>q _ _ _ (za h1) zb .nil
def paI (xa:Addr)(ps:List Pc)(H:Hp)(i:Nat)(σ:L2.St)(H':Hp):Prop:=∃ (ta:Addr) (o3 o4:Option V),σ=[some (.ref xa),some (.ref ta),some (.int ((zw (ps.take i)).2:Nat)),o3,o4]/\Same H H'/\H' ta=some (.lst (intL (zw (ps.take i)).1))
theorem zac {k d:Nat}(hk:20<=k)(T:Txt w K mg t)(D:Df K mg "_law_pass" yh zJ)(ak:OkF P w K mg base k "_law_pass" zJ (z7 d)):OkF P w K mg base (k+1) "_law_pass" zJ (z7 (d+1)):=by
 refine D.ok zS ?_ ?_;walk_at "b"
 ·refine ex2 h λpv ps h=>?_;refine av2 h λhp q=>?_;refine⟨_,(zc (qsE 1 zS.nd (zk zC)) (zc (qsE 2 zS.nd ze) (zc (wL PassesOwn.never (by rfl) (jQ (K:=K) (by rfl) (qv 0)) (qgE 3 zS.nd) (zd (zo (qtD zv (qxT K (qv 3) ze) (qS [101,97,99,104])) (zd (qsE 1 zS.nd (zr qI (qv 1) (zk (qa1 ze))))) (zd (zo (qtD zv (qxT K (qv 3) ze) (qS [105,102])) (zc (qsE 4 zS.nd (qF ak hr (qa1 (qxT K (qv 3) ze)))) (zc (qsE 1 zS.nd (zr qI (zr qI (qv 1) (zk (qa1 ze))) (qxT K (qv 4) ze))) (zd (qsE 2 zS.nd (zr jh (qv 2) (qxT K (qv 4) ze)))))) (zd (zo (qtD zv (qxT K (qv 3) ze) (qS [115,101,97,116])) (zc (qsE 4 zS.nd (qF ak hr (qa1 (qxT K (qv 3) ze)))) (zc (qsE 1 zS.nd (zr qI (qv 1) (qxT K (qv 4) ze))) (zd (qsE 2 zS.nd (zr jh (zr jh (qv 2) ze) (qxT K (qv 4) ze)))))) (zd (qsE 2 zS.nd (zr jh (qv 2) ze)))))))))) (zd (zg (zh (qa2 (qv 1) (qv 2)))))))).h,?_⟩
  walk_at "rd";obtain⟨⟨xa,xs,rfl,hxa,hxs⟩,hdp,hsz⟩:=hp;intro p0 h0;have k0:=za (o:=.lst []) h0;refine⟨xa,rfl,⟨_,SqL.of (k0 _ _ hxa)⟩,w6 (xs:=xs) (paI xa ps H) ⟨p0,_,_,rfl,k0,zb⟩ ?_ ?_ ?_⟩
  ·rintro i σ H1 _ ⟨_,_,_,rfl,g,_⟩;exact SqL.of (g _ _ hxa)
  ·rintro i y σ H1 hi ⟨ta,o3,o4,rfl,g1,e1⟩;have hil:i<ps.length:=by have:=(ur.mp hi).1;have:=hxs.len;rw [qE] at this;lia
   obtain⟨dd,hd1,hd2⟩:=hxs.get hi;rw [ZU ps i ps[i] (uo hil)] at hd1;cases hd1;have hpd:=J0 (uZ hil);have hps:=Xv (uZ hil);have tk:zw (ps.take (i+1))=(zw (ps.take i)).add (j0 ps[i]):=by rw [UG,uo hil,yX];simp [zw,Off.add]
   have tl:=(vc (ps.take i)).1
   have ts:szPs (ps.take i)<=szPs ps:=by
    conv=>rhs;rw [← Ul i ps,qj]
    lia
   generalize ps[i]=p at hd2 hpd hps tk;obtain⟨pa,vs,rfl,hpa,hf⟩:=pcF hd2;have hq:=SqT.of (K:=K) (g1 _ _ hpa);have il:(intL (zw (ps.take i)).1).length=(zw (ps.take i)).1.length:=uk _
   walk_at "rd";cases p with
   | each z b=>obtain⟨wv,rfl,hw⟩:=hf;refine⟨_,hq,_,zA _ _,rfl,?_⟩;rw [ud (show tx _=V.str (S _) from rfl)];intro q1 h1;have b1:=za (o:=.lst [V.int 0]) h1;refine⟨_,b1 _ _ e1,_,zb,by simp;omega,λq2 h2=>?_⟩;have b2:=za (o:=.lst (intL (zw (ps.take i)).1++[V.int 0])) h2;exact⟨q2,_,_,by rw [tk];rfl,g1.trans (b1.trans b2),by rw [zb,tk];simp [intL,Off.add,j0]⟩
   | ife z a b=>obtain⟨wv,uv,rfl,hw,hu⟩:=hf;simp only [dpP,szP] at hpd hps;refine⟨_,hq,_,zA _ _,rfl,?_⟩;rw [ub (ql (by decide))];refine⟨_,hq,_,zA _ _,rfl,?_⟩;rw [ud (show tx _=V.str (S _) from rfl)];refine⟨_,hq,_,Jb _ _ _ _,a,⟨hw.mono g1,by omega,by omega⟩,λr H2 g2 ⟨la,r1,r2⟩ q1 h1=>?_⟩;have b1:=za (o:=.lst [V.int 0]) h1;refine⟨_,b1 _ _ (g2 _ _ e1),_,zb,by simp;omega,λq2 h2=>?_⟩;have b2:=za (o:=.lst (intL (zw (ps.take i)).1++[V.int 0])) h2;have al:=(vc a).1;have B2:=b1.trans b2;refine⟨_,SqT.of (B2 _ _ r1),_,zA _ _,_,rfl,_,zb,_,B2 _ _ r2,by simp;omega,λq3 h3=>?_⟩;have b3:=za (o:=.lst (intL (zw (ps.take i)).1++[V.int 0]++intL (zw a).1)) h3;have B3:=B2.trans b3;refine⟨_,SqT.of (B3 _ _ r1),_,wV _ _ _,_,rfl,?_⟩;exact⟨q3,_,_,by rw [tk];rfl,g1.trans (g2.trans B3),by rw [zb,tk];simp [intL,Off.add,j0]⟩
   | seat w' n m b=>
    obtain⟨wv,rfl,hw⟩:=hf;simp only [dpP,szP] at hpd hps;refine⟨_,hq,_,zA _ _,rfl,?_⟩;rw [ub (ql (by decide))];refine⟨_,hq,_,zA _ _,rfl,?_⟩;rw [ub (ql (by decide))];refine⟨_,hq,_,zA _ _,rfl,?_⟩;rw [ud (show tx _=V.str (S _) from rfl)];refine⟨_,hq,_,zfh _ _ _ _ _ _,b,⟨hw.mono g1,by lia,by lia⟩,λr H2 g2 ⟨la,r1,r2⟩=>?_⟩;have al:=(vc b).1;refine⟨_,SqT.of r1,_,zA _ _,_,rfl,_,g2 _ _ e1,_,r2,by simp;lia,λq3 h3=>?_⟩;have b3:=za (o:=.lst (intL (zw (ps.take i)).1++intL (zw b).1)) h3;refine⟨_,SqT.of (b3 _ _ r1),_,wV _ _ _,_,rfl,?_⟩;have e2:((((zw (ps.take i)).add (j0 (.seat w' n m b))).2:Nat):Int)=((zw (ps.take i)).2:Int)+2+((zw b).2:Int):=by simp only [Off.add,j0];lia
    exact⟨q3,some (.ref pa),some (.ref r),by rw [tk,e2],g1.trans (g2.trans b3),by rw [zb,tk];simp [intL,Off.add,j0]⟩
   | lit z=>cases hf;refine⟨_,hq,_,zA _ _,rfl,?_⟩;rw [ub (ql (by decide))];refine⟨_,hq,_,zA _ _,rfl,?_⟩;rw [ub (ql (by decide))];refine⟨_,hq,_,zA _ _,rfl,?_⟩;rw [ub (ql (by decide))];exact⟨ta,_,_,by rw [tk];rfl,g1,by rw [e1,tk];simp [Off.add,j0]⟩
   | hole z=>cases hf;refine⟨_,hq,_,zA _ _,rfl,?_⟩;rw [ub (ql (by decide))];refine⟨_,hq,_,zA _ _,rfl,?_⟩;rw [ub (ql (by decide))];refine⟨_,hq,_,zA _ _,rfl,?_⟩;rw [ub (ql (by decide))];exact⟨ta,_,_,by rw [tk];rfl,g1,by rw [e1,tk];simp [Off.add,j0]⟩
  ·rintro σ H1 ⟨ta,o3,o4,rfl,g1,e1⟩;rw [hxs.len.symm.trans (qE ps),Ux] at e1 ⊢
   walk_at "rd";intro p1 h1;have k1:=za (o:=.tup [V.ref ta,V.int ((zw ps).2:Nat)]) h1;exact q p1 _ (g1.trans k1) ⟨ta,zb,k1 _ _ e1⟩
theorem Ym (T:Txt w K mg t)(D:Df K mg "_law_pass" yh zJ):OkF P w K mg base 40 "_law_pass" zJ (z7 5):=by have a0:OkF P w K mg base 20 "_law_pass" zJ (z7 0):=D.ok (k:=19) zS (λ_ _ _ _ ⟨_,_,_,h,_⟩=>absurd h.2.1 (u7 _)) (λ_ _ _ _ _ _ _ _ _ _ ⟨_,_,_,h,_⟩=>absurd h.2.1 (u7 _));have up:∀ {k d:Nat},20<=k->OkF P w K mg base k "_law_pass" zJ (z7 d)->OkF P w K mg base (k+1) "_law_pass" zJ (z7 (d+1)):=λhk a=>zac hk T D a;exact(up (by decide) (up (by decide) (up (by decide) (up (by decide) (up (by decide) a0))))).mono (by decide)
def ptI (xa:Addr)(mk:Tx)(ps:List Pc)(H:Hp)(i:Nat)(σ:L2.St)(H':Hp):Prop:=∃ (ta:Addr) (o4 o5 o6 o7 o8 o9:Option V),σ=[some (.ref xa),some (.str (S mk)),some (.ref ta),some (.int ((zw (ps.take i)).2:Nat)),o4,o5,o6,o7,o8,o9]/\Same H H'/\H' ta=some (.lst (intL (zw (ps.take i)).1))/\zP mk (ps.take i)=none
def piI (xa ta:Addr)(v4 o9:Option V)(mk:Tx)(n:Nat)(p:Pc)(H:Hp)(i:Nat)(σ:L2.St)(H':Hp):Prop:=∃ (o5 o6 o7 o8:Option V),σ=[some (.ref xa),some (.str (S mk)),some (.ref ta),some (.int n),v4,o5,o6,o7,o8,o9]/\Same H H'/\kZ mk ((zK p).drop i)=kZ mk (zK p)
theorem zad {k d:Nat}(hk:41<=k)(hd:d<=4)(T:Txt w K mg t)(D:Df K mg "_law_path" yi qw)(ax:OkF P w K mg base 1 "_law_marked" qJ je)(aj:OkF P w K mg base 1 "_law_inner" qo qG)(ak:OkF P w K mg base 40 "_law_pass" zJ (z7 5))(aP:OkF P w K mg base k "_law_path" qw (qW d)):OkF P w K mg base (k+1) "_law_path" qw (qW (d+1)):=by
 refine D.ok z6 ?_ ?_;walk_at "b"
 ·refine ex3 h λpv ps mk h=>?_;refine av2 h λhp q=>?_;refine⟨_,(zc (qsE 2 z6.nd (zk zC)) (zc (qsE 3 z6.nd ze) (zc (wL PassesOwn.never (by rfl) (jQ (K:=K) (by rfl) (qv 0)) (qgE 4 z6.nd) (zc (zo (wM (qF ax hr (qa2 (qv 4) (qv 1)))) (zd (zg (zh (qa2 (qv 2) (qv 3))))) zi) (zc (wL PassesOwn.never (by rfl) (jQ (K:=K) (by rfl) (qF aj hr (qa1 (qv 4)))) (vJ (n:=3) (by rfl) (zD (qgE 5 z6.nd) (zD (qgE 6 z6.nd) (zD (qgE 7 z6.nd) xf)))) (zc (qsE 8 z6.nd (qF aP hr (qa2 (qv 7) (qv 1)))) (zd (zo (qtD Wj (qv 8) zH) (zd (zg (zh (qa2 (zr qI (zr qI (qv 2) (qv 5)) (qxT K (qv 8) ze)) (zr jh (zr jh (qv 3) (qv 6)) (qxT K (qv 8) ze)))))) zi)))) (zc (qsE 9 z6.nd (qF ak hr (qa1 (zk (qa1 (qv 4)))))) (zc (qsE 2 z6.nd (zr qI (qv 2) (qxT K (qv 9) ze))) (zd (qsE 3 z6.nd (zr jh (qv 3) (qxT K (qv 9) ze))))))))) (zd (zg zH))))).h,?_⟩
  walk_at "rd";obtain⟨⟨xa,xs,rfl,hxa,hxs⟩,hdp,hsz⟩:=hp;intro p0 h0;have k0:=za (o:=.lst []) h0;refine⟨xa,rfl,⟨_,SqL.of (k0 _ _ hxa)⟩,w6 (xs:=xs) (ptI xa mk ps H) ⟨p0,_,_,_,_,_,_,rfl,k0,zb,rfl⟩ ?_ ?_ ?_⟩
  ·rintro i σ H1 _ ⟨_,_,_,_,_,_,_,rfl,g,_⟩;exact SqL.of (g _ _ hxa)
  ·rintro i y σ H1 hi ⟨ta,o4,o5,o6,o7,o8,o9,rfl,g1,e1,n1⟩;have hil:i<ps.length:=by have:=(ur.mp hi).1;have:=hxs.len;rw [qE] at this;lia
   obtain⟨dd,hd1,hd2⟩:=hxs.get hi;rw [ZU ps i ps[i] (uo hil)] at hd1;cases hd1;have hpd:=J0 (uZ hil);have hps:=Xv (uZ hil);have tk:ps.take (i+1)=ps.take i++[ps[i]]:=by rw [UG,uo hil];rfl
   have all:zP mk ps=match jG mk ps[i] with
     | some r=>some ((zw (ps.take i)).add r)
     | none=>(zP mk (ps.drop (i+1))).map (Off.add (zw (ps.take (i+1)))):=by
    conv=>lhs;rw [← Ul i ps,uS hil,yY,n1]
    simp only [zP]
    cases jG mk ps[i] with
    | some r=>rfl
    | none=>
     rw [tk,yX]
     cases zP mk (ps.drop (i+1)) with
     | none=>rfl
     | some r=>simp [zw,Off.add,uW,gu]
   have tl:=(vc (ps.take i)).1
   have ts:szPs (ps.take i)<=szPs ps:=by
    conv=>rhs;rw [← Ul i ps,qj]
    lia
   rw [zcL] at all;generalize ps[i]=p at hd2 hpd hps tk all;have il:(intL (zw (ps.take i)).1).length=(zw (ps.take i)).1.length:=uk _
   walk_at "rd";refine⟨p,hd2.mono g1,λH2 g2=>?_⟩;by_cases hm:jq mk p=true
   ·rw [ud hm];rw [ud hm] at all;intro q1 h1;have b1:=za (o:=.tup [V.ref ta,V.int ((zw (ps.take i)).2:Nat)]) h1;refine q _ _ (g1.trans (g2.trans b1)) ?_;rw [all];exact⟨q1,rfl,ta,by rw [zb];rfl,by rw [b1 _ _ (g2 _ _ e1)];simp [Off.add,intL]⟩
   ·rw [ub hm];rw [ub hm] at all;refine⟨p,hd2.mono (g1.trans g2),λr is H3 g3 r1 r2=>⟨⟨_,SqL.of r1⟩,w6 (xs:=is) (piI xa ta (some y) o9 mk (zw (ps.take i)).2 p H3) ⟨_,_,_,_,rfl,Same.refl _,by rw [UQ]⟩ ?_ ?_ ?_⟩⟩
    ·rintro j σ H4 _ ⟨_,_,_,_,rfl,g4,_⟩;exact SqL.of (g4 _ _ r1)
    ·rintro j v σ H4 hj ⟨o5',o6',o7',o8',rfl,g4,n2⟩;obtain⟨pp,tt,wv,o,b,rfl,hjb,b1,b2,b3⟩:=r2.get hj;have sm:=ZJ (uN hjb)
     have n3:kZ mk (zK p)=match zP mk b with
       | some q=>some (Off.add o q)
       | none=>kZ mk ((zK p).drop (j+1)):=by
      obtain⟨h1,h2⟩:=ur.mp hjb
      rw [← n2,uS h1,h2]
      rfl
     walk_at "rd";refine⟨_,SqT.of (g4 _ _ b1),rfl,_,_,rfl,_,_,rfl,_,_,rfl,rfl,b,⟨b3.mono g4,by lia,by lia⟩,λv3 H5 g5 hv=>?_⟩;have G5:=g1.trans (g2.trans (g3.trans (g4.trans g5)));cases hb:zP mk b with
     | none=>rw [hb] at hv n3;rw [ub (by rw [show v3=V.non from hv];decide)];exact⟨_,_,_,_,rfl,g4.trans g5,n3.symm⟩
     | some r0=>rw [hb] at hv n3;obtain⟨px,rfl,lx,x1,x2⟩:=hv;rw [ud (by rw [uC (by intro z;cases z)];rfl)];have rl:=yb mk b r0 hb;have e5:=(g2.trans (g3.trans (g4.trans g5))) _ _ e1;refine⟨tt,rfl,_,e5,_,(g4.trans g5) _ _ b2,by rw [il,uk];omega,λq1 h1=>?_⟩;have k1:=za (o:=.lst (intL (zw (ps.take i)).1++o.1.map λ(t:Nat)=>V.int t)) h1;refine⟨px,rfl,_,SqT.of (k1 _ _ x1),_,zA _ _,lx,rfl,_,zb,_,k1 _ _ x2,by rw [ug,il,uk,uk];omega,λq2 h2=>?_⟩;have k2:=za (o:=.lst (intL (zw (ps.take i)).1++(o.1.map λ(t:Nat)=>V.int t)++r0.1.map λ(t:Nat)=>V.int t)) h2;refine⟨_,rfl,px,rfl,_,SqT.of (k2 _ _ (k1 _ _ x1)),_,wV _ _ _,_,rfl,λq3 h3=>?_⟩;have k3:=za (o:=.tup [V.ref q2,V.int ((zw (ps.take i)).2+o.2+r0.2)]) h3;refine q _ _ (G5.trans (k1.trans (k2.trans k3))) ?_;rw [all,n3];refine⟨q3,rfl,q2,?_,by rw [k3 _ _ zb];simp [Off.add,intL]⟩;rw [zb];simp [Off.add,Int.add_assoc]
    ·rintro σ H4 ⟨o5',o6',o7',o8',rfl,g4,n2⟩;rw [UK (by rw [r2.len];exact ui _)] at n2;have n3:kZ mk (zK p)=none:=n2.symm
     walk_at "rd";intro q1 h1;have k1:=za (o:=.lst [y]) h1;have G4:=g1.trans (g2.trans (g3.trans g4));refine⟨[p],⟨⟨q1,[y],rfl,zb,?_⟩,by simp [dpP.dpB];lia,by simp [szPs];lia⟩,λr H5 g5 ⟨lx,x1,x2⟩=>?_⟩
     ·simp only [dPs];exact⟨_,_,rfl,hd2.mono (G4.trans k1),rfl⟩
     have al:=(vc [p]).1;simp only [szPs,Nat.add_zero] at al;have e5:=((g2.trans (g3.trans g4)).trans (k1.trans g5)) _ _ e1;refine⟨_,SqT.of x1,_,zA _ _,lx,rfl,_,e5,_,x2,by rw [il,uk];lia,λq2 h2=>?_⟩;have k2:=za (o:=.lst (intL (zw (ps.take i)).1++(zw [p]).1.map λ(t:Nat)=>V.int t)) h2;refine⟨_,SqT.of (k2 _ _ x1),_,wV _ _ _,_,rfl,q2,some y,o5',o6',o7',o8',some (.ref r),?_,G4.trans (k1.trans (g5.trans k2)),?_,?_⟩
     ·rw [tk,yX];rfl
     ·rw [tk,yX,zb];simp [Off.add,intL]
     ·rw [tk,yY,n1];simp only [zP,zcL,ub hm,n3];rfl
  ·rintro σ H1 ⟨ta,o4,o5,o6,o7,o8,o9,rfl,g1,e1,n1⟩;rw [hxs.len.symm.trans (qE ps),Ux] at n1
   walk_at "rd";exact q _ H1 g1 (by rw [n1];rfl)
theorem Yn (T:Txt w K mg t)(D:Df K mg "_law_path" yi qw)(ak:OkF P w K mg base 40 "_law_pass" zJ (z7 5))(ax:OkF P w K mg base 1 "_law_marked" qJ je)(aj:OkF P w K mg base 1 "_law_inner" qo qG):OkF P w K mg base 60 "_law_path" qw (qW 5):=by have a0:OkF P w K mg base 41 "_law_path" qw (qW 0):=D.ok (k:=40) z6 (λ_ _ _ _ ⟨_,_,_,_,h,_⟩=>absurd h.2.1 (u7 _)) (λ_ _ _ _ _ _ _ _ _ _ ⟨_,_,_,_,h,_⟩=>absurd h.2.1 (u7 _));have up:∀ {k d:Nat},41<=k->d<=4->OkF P w K mg base k "_law_path" qw (qW d)->OkF P w K mg base (k+1) "_law_path" qw (qW (d+1)):=λhk hd a=>zad hk hd T D ax aj ak a;exact(up (by decide) (by decide) (up (by decide) (by decide) (up (by decide) (by decide) (up (by decide) (by decide) (up (by decide) (by decide) a0))))).mono (by decide)
def txI (xa:Addr)(mk:Tx)(ps:List Pc)(H:Hp)(i:Nat)(σ:L2.St)(H':Hp):Prop:=∃ (o2 o3 o4 o5 o6:Option V),σ=[some (.ref xa),some (.str (S mk)),o2,o3,o4,o5,o6]/\Same H H'/\qM mk (ps.take i)=none
def tiI (xa:Addr)(v2:Option V)(mk:Tx)(p:Pc)(H:Hp)(i:Nat)(σ:L2.St)(H':Hp):Prop:=∃ (o3 o4 o5 o6:Option V),σ=[some (.ref xa),some (.str (S mk)),v2,o3,o4,o5,o6]/\Same H H'/\k7 mk ((zK p).drop i)=k7 mk (zK p)
theorem Xz {k d:Nat}(hk:41<=k)(hd:d<=4)(T:Txt w K mg t)(D:Df K mg "_law_text_of" xp zE)(aj:OkF P w K mg base 1 "_law_inner" qo qG)(aQ:OkF P w K mg base k "_law_text_of" zE (z8 d)):OkF P w K mg base (k+1) "_law_text_of" zE (z8 (d+1)):=by
 refine D.ok qN ?_ ?_;walk_at "b"
 ·refine ex3 h λpv ps mk h=>?_;refine av2 h λhp q=>?_;refine⟨_,(zc (wL PassesOwn.never (by rfl) (jQ (K:=K) (by rfl) (qv 0)) (qgE 2 qN.nd) (zc (zo (QW.qt (vh (qtD zv (qxT K (qv 2) ze) (qS [108,105,116])) (xg (qtD ze0 (qv 1) (qxT K (qv 2) ze))))) (zd (zg (qxT K (qv 2) ze))) zi) (zd (wL PassesOwn.never (by rfl) (jQ (K:=K) (by rfl) (qF aj hr (qa1 (qv 2)))) (vJ (n:=3) (by rfl) (zD (qgE 3 qN.nd) (zD (qgE 4 qN.nd) (zD (qgE 5 qN.nd) xf)))) (zc (qsE 6 qN.nd (qF aQ hr (qa2 (qv 5) (qv 1)))) (zd (zo (qtD Wj (qv 6) zH) (zd (zg (qv 6))) zi))))))) (zd (zg zH))).h,?_⟩
  walk_at "rd";obtain⟨⟨xa,xs,rfl,hxa,hxs⟩,hdp,hsz⟩:=hp;refine⟨xa,rfl,⟨_,SqL.of hxa⟩,w6 (xs:=xs) (txI xa mk ps H) ⟨_,_,_,_,_,rfl,Same.refl _,rfl⟩ ?_ ?_ ?_⟩
  ·rintro i σ H1 _ ⟨_,_,_,_,_,rfl,g,_⟩;exact SqL.of (g _ _ hxa)
  ·rintro i y σ H1 hi ⟨o2,o3,o4,o5,o6,rfl,g1,n1⟩;have hil:i<ps.length:=by have:=(ur.mp hi).1;have:=hxs.len;rw [qE] at this;lia
   obtain⟨dd,hd1,hd2⟩:=hxs.get hi;rw [ZU ps i ps[i] (uo hil)] at hd1;cases hd1;have hpd:=J0 (uZ hil);have hps:=Xv (uZ hil);have tk:ps.take (i+1)=ps.take i++[ps[i]]:=by rw [UG,uo hil];rfl
   have all:qM mk ps=match xx mk ps[i] with
     | some r=>some r
     | none=>qM mk (ps.drop (i+1)):=by
    conv=>lhs;rw [← Ul i ps,uS hil,yZ,n1]
    rfl
   generalize ps[i]=p at hd2 hpd hps tk all;obtain⟨pa,vs,rfl,hpa,hf⟩:=pcF hd2;have hq:=SqT.of (K:=K) (g1 _ _ hpa);simp only [xC,List.set_cons_zero,List.set_cons_succ];refine seq_step λN hN=>?_
   have tail:(∀ t,p=.lit t->hasT mk t=false)->N [some (.ref xa),some (.str (S mk)),some (.ref pa),o3,o4,o5,o6] H1:=λhl=>hN _ _ (by
    rw [zcM mk p hl] at all
    walk_at "rd"
    refine⟨p,hd2.mono g1,λr is H3 g3 r1 r2=>⟨⟨_,SqL.of r1⟩,w6 (xs:=is) (tiI xa (some (.ref pa)) mk p H3) ⟨_,_,_,_,rfl,Same.refl _,by rw [UQ]⟩ ?_ ?_ ?_⟩⟩
    ·rintro j σ H4 _ ⟨_,_,_,_,rfl,g4,_⟩
     exact SqL.of (g4 _ _ r1)
    ·rintro j v σ H4 hj ⟨o5',o6',o7',o8',rfl,g4,n2⟩
     obtain⟨pp,tt,wv,o,b,rfl,hjb,b1,b2,b3⟩:=r2.get hj
     have sm:=ZJ (uN hjb)
     have n3:k7 mk (zK p)=match qM mk b with
       | some q=>some q
       | none=>k7 mk ((zK p).drop (j+1)):=by
      obtain⟨h1,h2⟩:=ur.mp hjb
      rw [← n2,uS h1,h2]
      rfl
     walk_at "rd"
     refine⟨_,SqT.of (g4 _ _ b1),rfl,_,_,rfl,_,_,rfl,_,_,rfl,rfl,b,⟨b3.mono g4,by lia,by lia⟩,λv3 H5 g5 hv=>?_⟩
     cases hb:qM mk b with
     | none=>
      rw [hb] at hv n3
      rw [ub (by rw [show v3=V.non from hv];decide)]
      exact⟨_,_,_,_,rfl,g4.trans g5,n3.symm⟩
     | some r0=>
      rw [hb] at hv n3
      cases (show v3=tx r0 from hv)
      rw [ud (by rw [uC (by intro z;cases z)];rfl)]
      exact q _ _ (g1.trans (g3.trans (g4.trans g5))) (by rw [all,n3];rfl)
    ·rintro σ H4 ⟨o5',o6',o7',o8',rfl,g4,n2⟩
     rw [UK (by rw [r2.len];exact ui _)] at n2
     have n3:k7 mk (zK p)=none:=n2.symm
     exact⟨_,_,_,_,_,rfl,g1.trans (g3.trans g4),by rw [tk,yZ,n1];simp only [qM,zcM mk p hl,n3]⟩)
   walk_at "rd";cases p with
   | lit z=>
    cases hf;refine⟨_,hq,_,zA _ _,rfl,?_⟩;rw [ud (show tx _=V.str (S _) from rfl)];refine⟨_,hq,_,wV _ _ _,z,rfl,?_⟩;cases hz:hasT mk z with
    | true=>rw [ud rfl];exact⟨_,hq,_,wV _ _ _,q _ _ g1 (by rw [all];simp [xx,hz,TxV])⟩
    | false=>rw [ub (by decide)];exact tail λt e=>by cases e;exact hz
   | hole z=>cases hf;refine⟨_,hq,_,zA _ _,rfl,?_⟩;rw [ub (ql (by decide))];exact tail nofun
   | each z b=>obtain⟨wv,rfl,hw⟩:=hf;refine⟨_,hq,_,zA _ _,rfl,?_⟩;rw [ub (ql (by decide))];exact tail nofun
   | ife z a b=>obtain⟨wv,uv,rfl,hw,hu⟩:=hf;refine⟨_,hq,_,zA _ _,rfl,?_⟩;rw [ub (ql (by decide))];exact tail nofun
   | seat w' n m b=>obtain⟨wv,rfl,hw⟩:=hf;refine⟨_,hq,_,zA _ _,rfl,?_⟩;rw [ub (ql (by decide))];exact tail nofun
  ·rintro σ H1 ⟨o2,o3,o4,o5,o6,rfl,g1,n1⟩;rw [hxs.len.symm.trans (qE ps),Ux] at n1
   walk_at "rd";exact q _ H1 g1 (by rw [n1];rfl)
theorem Wi (T:Txt w K mg t)(D:Df K mg "_law_text_of" xp zE)(aj:OkF P w K mg base 1 "_law_inner" qo qG):OkF P w K mg base 60 "_law_text_of" zE (z8 5):=by have a0:OkF P w K mg base 41 "_law_text_of" zE (z8 0):=D.ok (k:=40) qN (λ_ _ _ _ ⟨_,_,_,_,h,_⟩=>absurd h.2.1 (u7 _)) (λ_ _ _ _ _ _ _ _ _ _ ⟨_,_,_,_,h,_⟩=>absurd h.2.1 (u7 _));have up:∀ {k d:Nat},41<=k->d<=4->OkF P w K mg base k "_law_text_of" zE (z8 d)->OkF P w K mg base (k+1) "_law_text_of" zE (z8 (d+1)):=λhk hd a=>Xz hk hd T D aj a;exact(up (by decide) (by decide) (up (by decide) (by decide) (up (by decide) (by decide) (up (by decide) (by decide) (up (by decide) (by decide) a0))))).mono (by decide)
def fiI (xa ma:Addr)(ms:List Tx)(ps:List Pc)(H:Hp)(i:Nat)(σ:L2.St)(H':Hp):Prop:=∃ (o2 o3 o4 o5 o6 o7:Option V),σ=[some (.ref xa),some (.ref ma),o2,o3,o4,o5,o6,o7]/\Same H H'/\zF ms (ps.take i)=none
def fmI (xa ma:Addr)(v2 o4 o5 o6 o7:Option V)(ms:List Tx)(p:Pc)(H:Hp)(i:Nat)(σ:L2.St)(H':Hp):Prop:=∃ (o3:Option V),σ=[some (.ref xa),some (.ref ma),v2,o3,o4,o5,o6,o7]/\Same H H'/\(ms.take i).find? (λm=>jq m p)=none
def fjI (xa ma:Addr)(v2 o3:Option V)(ms:List Tx)(p:Pc)(H:Hp)(i:Nat)(σ:L2.St)(H':Hp):Prop:=∃ (o4 o5 o6 o7:Option V),σ=[some (.ref xa),some (.ref ma),v2,o3,o4,o5,o6,o7]/\Same H H'/\vm ms ((zK p).drop i)=vm ms (zK p)
theorem Yo {k d:Nat}(hk:41<=k)(hd:d<=4)(T:Txt w K mg t)(D:Df K mg "_law_first" vt zO)(ax:OkF P w K mg base 1 "_law_marked" qJ je)(aj:OkF P w K mg base 1 "_law_inner" qo qG)(aE:OkF P w K mg base k "_law_first" zO (qq d)):OkF P w K mg base (k+1) "_law_first" zO (qq (d+1)):=by
 refine D.ok qX ?_ ?_;walk_at "b"
 ·refine ex4 h λpv ps ma ms h=>?_;refine av3 h λhp hma q=>?_;refine⟨_,(zc (wL PassesOwn.never (by rfl) (jQ (K:=K) (by rfl) (qv 0)) (qgE 2 qX.nd) (zc (wL PassesOwn.never (by rfl) (jQ (K:=K) (by rfl) (qv 1)) (qgE 3 qX.nd) (zd (zo (wM (qF ax hr (qa2 (qv 2) (qv 3)))) (zd (zg (qv 3))) zi))) (zd (wL PassesOwn.never (by rfl) (jQ (K:=K) (by rfl) (qF aj hr (qa1 (qv 2)))) (vJ (n:=3) (by rfl) (zD (qgE 4 qX.nd) (zD (qgE 5 qX.nd) (zD (qgE 6 qX.nd) xf)))) (zc (qsE 7 qX.nd (qF aE hr (qa2 (qv 6) (qv 1)))) (zd (zo (qtD Wj (qv 7) zH) (zd (zg (qv 7))) zi))))))) (zd (zg zH))).h,?_⟩
  walk_at "rd";obtain⟨⟨xa,xs,rfl,hxa,hxs⟩,hdp,hsz⟩:=hp;refine⟨xa,rfl,⟨_,SqL.of hxa⟩,w6 (xs:=xs) (fiI xa ma ms ps H) ⟨_,_,_,_,_,_,rfl,Same.refl _,rfl⟩ ?_ ?_ ?_⟩
  ·rintro i σ H1 _ ⟨_,_,_,_,_,_,rfl,g,_⟩;exact SqL.of (g _ _ hxa)
  ·rintro i y σ H1 hi ⟨o2,o3,o4,o5,o6,o7,rfl,g1,n1⟩;have hil:i<ps.length:=by have:=(ur.mp hi).1;have:=hxs.len;rw [qE] at this;lia
   obtain⟨dd,hd1,hd2⟩:=hxs.get hi;rw [ZU ps i ps[i] (uo hil)] at hd1;cases hd1;have hpd:=J0 (uZ hil);have hps:=Xv (uZ hil);have tk:ps.take (i+1)=ps.take i++[ps[i]]:=by rw [UG,uo hil];rfl
   have all:zF ms ps=match jd ms ps[i] with
     | some r=>some r
     | none=>zF ms (ps.drop (i+1)):=by
    conv=>lhs;rw [← Ul i ps,uS hil,vF,n1]
    rfl
   rw [KR] at all;generalize ps[i]=p at hd2 hpd hps tk all
   walk_at "rd";refine⟨⟨_,SqL.of (g1 _ _ hma)⟩,w6 (xs:=ms.map tx) (fmI xa ma (some y) o4 o5 o6 o7 ms p H1) ⟨_,rfl,Same.refl _,rfl⟩ ?_ ?_ ?_⟩
   ·rintro j σ H2 _ ⟨_,rfl,g2,_⟩;exact SqL.of (g2 _ _ (g1 _ _ hma))
   ·rintro j v σ H2 hj ⟨o3',rfl,g2,m1⟩;obtain⟨m,hm,rfl⟩:∃ m,ms[j]? = some m/\v=tx m:=by rw [Uc] at hj;obtain⟨m,h1,h2⟩:=u9.mp hj;exact⟨m,h1,h2.symm⟩
    have hj':=(ur.mp hm)
    obtain⟨hj1,hj2⟩:=hj'
    walk_at "rd";refine⟨p,m,rfl,hd2.mono (g1.trans g2),λH3 g3=>?_⟩;by_cases hz:jq m p=true
    ·rw [ud hz];have f1:ms.find? (λm=>jq m p)=some m:=by rw [← Ul j ms,List.find?_append,m1,uS hj1,hj2];simp [List.find?,hz]
     exact q _ _ (g1.trans (g2.trans g3)) (by rw [all,f1];rfl)
    ·rw [ub hz];refine⟨_,rfl,g2.trans g3,?_⟩;rw [UG,hm,List.find?_append,m1];simp [List.find?,hz]
   ·rintro σ H2 ⟨o3',rfl,g2,m1⟩;rw [uk,Ux] at m1;rw [m1] at all
    walk_at "rd";refine⟨p,hd2.mono (g1.trans g2),λr is H3 g3 r1 r2=>⟨⟨_,SqL.of r1⟩,w6 (xs:=is) (fjI xa ma (some y) o3' ms p H3) ⟨_,_,_,_,rfl,Same.refl _,by rw [UQ]⟩ ?_ ?_ ?_⟩⟩
    ·rintro j σ H4 _ ⟨_,_,_,_,rfl,g4,_⟩;exact SqL.of (g4 _ _ r1)
    ·rintro j v σ H4 hj ⟨o5',o6',o7',o8',rfl,g4,n2⟩;obtain⟨pp,tt,wv,o,b,rfl,hjb,b1,b2,b3⟩:=r2.get hj;have sm:=ZJ (uN hjb)
     have n3:vm ms (zK p)=match zF ms b with
       | some q=>some q
       | none=>vm ms ((zK p).drop (j+1)):=by
      obtain⟨h1,h2⟩:=ur.mp hjb
      rw [← n2,uS h1,h2]
      rfl
     walk_at "rd";refine⟨_,SqT.of (g4 _ _ b1),rfl,_,_,rfl,_,_,rfl,_,_,rfl,rfl,b,⟨b3.mono g4,by lia,by lia⟩,ms,(g1.trans (g2.trans (g3.trans g4))) _ _ hma,λv3 H5 g5 hv=>?_⟩;cases hb:zF ms b with
     | none=>rw [hb] at hv n3;rw [ub (by rw [show v3=V.non from hv];decide)];exact⟨_,_,_,_,rfl,g4.trans g5,n3.symm⟩
     | some r0=>rw [hb] at hv n3;cases (show v3=tx r0 from hv);rw [ud (by rw [uC (by intro z;cases z)];rfl)];exact q _ _ (g1.trans (g2.trans (g3.trans (g4.trans g5)))) (by rw [all,n3];rfl)
    ·rintro σ H4 ⟨o5',o6',o7',o8',rfl,g4,n2⟩;rw [UK (by rw [r2.len];exact ui _)] at n2;have n3:vm ms (zK p)=none:=n2.symm;exact⟨_,_,_,_,_,_,rfl,g1.trans (g2.trans (g3.trans g4)),by rw [tk,vF,n1];simp only [zF,KR,m1,n3]⟩
  ·rintro σ H1 ⟨o2,o3,o4,o5,o6,o7,rfl,g1,n1⟩;rw [hxs.len.symm.trans (qE ps),Ux] at n1
   walk_at "rd";exact q _ H1 g1 (by rw [n1];rfl)
theorem XO (T:Txt w K mg t)(D:Df K mg "_law_first" vt zO)(ax:OkF P w K mg base 1 "_law_marked" qJ je)(aj:OkF P w K mg base 1 "_law_inner" qo qG):OkF P w K mg base 60 "_law_first" zO (qq 5):=by have a0:OkF P w K mg base 41 "_law_first" zO (qq 0):=D.ok (k:=40) qX (λ_ _ _ _ ⟨_,_,_,_,_,h,_⟩=>absurd h.2.1 (u7 _)) (λ_ _ _ _ _ _ _ _ _ _ ⟨_,_,_,_,_,h,_⟩=>absurd h.2.1 (u7 _));have up:∀ {k d:Nat},41<=k->d<=4->OkF P w K mg base k "_law_first" zO (qq d)->OkF P w K mg base (k+1) "_law_first" zO (qq (d+1)):=λhk hd a=>Yo hk hd T D ax aj a;exact(up (by decide) (by decide) (up (by decide) (by decide) (up (by decide) (by decide) (up (by decide) (by decide) (up (by decide) (by decide) a0))))).mono (by decide)
noncomputable def ltK:List (Key×V):=[(.inr (S [60]),V.int 4),(.inr (S [61]),V.int 0)]
theorem zi8 {mk kk:Tx}(hm:Mk mk)(k:Kn kk):∃ c,atI (badM mk kk) 0=some c/\(badM mk kk).length<=16777216/\(valV (qy [] ltK) (.inr (S [c]))).getD (V.int 1)=V.int (atM kk:Nat):=by cases k<;>rcases hm with rfl | rfl<;>exact⟨_,rfl,by decide,by decide +kernel⟩
theorem zbE (T:Txt w K mg t)(D:Df K mg "_law_due" QB wX)(aP:OkF P w K mg base 60 "_law_path" qw (qW 5))(aQ:OkF P w K mg base 60 "_law_text_of" zE (z8 5)):OkF P w K mg base 61 "_law_due" wX vd:=by
 refine D.ok yj ?_ ?_;walk_at "b"
 ·refine ex6 h λpv ps wd mk kk r h=>?_;refine av6 h λhp hpa hm hk ht q=>?_;refine⟨_,(zc (kg (qF aP hr (qa2 (qv 0) (qv 2))) (vJ (n:=2) (by rfl) (zD (qgE 3 yj.nd) (zD (qgE 4 yj.nd) xf)))) (zc (zo (qtD zv (qv 1) (qS [97,115,116,114,97,121])) (zc (qsE 5 yj.nd (qF aQ hr (qa2 (qv 0) (qv 2)))) (zd (zg (zh (qa3 (qS [97,115,116,114,97,121]) (zh (qa2 (qv 3) (qv 4))) (Q4 (WL hr) (Wq (jR (by exact(qS [60])) (by exact ze) (jR (by exact(qS [61])) (by exact ze) Wo)) (by rfl) (by rfl) (by intro z;cases z) (by decide)) (Vf ix_S (qv 5) ze (λ_ _=>(by rfl))) ze (by exact⟨rfl,rfl,rfl,rfl⟩))))))) zi) (zc (zo (qtD zv (qv 1) (qS [110,111,112,108,97,99,101])) (zd (zg (zh (qa3 (qS [110,111,112,108,97,99,101]) (qv 2) (zh (qa2 (qv 3) (qv 4))))))) zi) (zc (zo (qtD zv (qv 1) (qS [105,102])) (zd (zg (zh (qa4 (qS [117,110,108,105,107,101]) (zh (qa2 (qS [105,102]) (qv 2))) (zh (qa2 (zr qI (qv 3) (zk (qa1 ze))) (zr jh (qv 4) ze))) (zh (qa2 (zr qI (qv 3) (zk (qa1 ze))) (qv 4))))))) zi) (zc (zo (qtD zv (qv 1) (qS [101,97,99,104])) (zd (zg (zh (qa4 (qS [117,110,108,105,107,101]) (zh (qa2 (qS [101,97,99,104]) (qv 2))) (zh (qa2 (zr qI (qv 3) (zk (qa1 ze))) (qv 4))) (zh (qa2 (zr qI (qv 3) (zk (qa1 ze))) (zr jh (qv 4) ze))))))) zi) (zd (zg (zh (qa4 (qS [117,110,108,105,107,101]) (zh (qa4 (qS [115,101,97,116]) (qS [100,114,97,119]) (qv 2) (qS []))) (zh (qa2 (qv 3) (zr jh (qv 4) ze))) (zh (qa2 (qv 3) (zr jh (qv 4) ze)))))))))))).h,?_⟩
  walk_at "rd";have rl:=yb mk ps r hpa;have rsz:=hp.2.2;refine⟨ps,hp,λv H1 g1 hv=>?_⟩;rw [hpa] at hv;obtain⟨px,rfl,tp,x1,x2⟩:=hv;have il:(r.1.map λ(t:Nat)=>V.int t).length=r.1.length:=uk _;refine⟨px,rfl,_,SqT.of x1,rfl,_,_,rfl,_,_,rfl,rfl,?_⟩;cases wd with
  | astray=>refine W8 rfl ?_;refine⟨ps,hp.mono g1,λv2 H2 g2 hv q1 h1 q2 h2=>?_⟩;rw [ht rfl] at hv;cases (show v2=tx (badM mk kk) from hv);obtain⟨hd,c1,c2,c3⟩:=zi8 hm hk;have b1:=za (o:=.tup [V.ref tp,V.int (r.2:Nat)]) h1;have b2:=Je (o:=HO.dK []) (o':=HO.dK (qy [] ltK)) h2;refine⟨zb,ltK,rfl,by decide,.inl ⟨_,.inl zb⟩,_,rfl,c2,hd,c1,_,DGet.k (k:=.inr (S [hd])) zb,?_⟩;rw [c3];intro q3 h3;have b3:=za (o:=.tup [V.str (S [97,115,116,114,97,121]),V.ref q1,V.int (atM kk:Nat)]) h3;have B:=b2.trans b3;exact q _ _ (g1.trans (g2.trans (b1.trans B))) ⟨q3,_,rfl,zb,_,_,rfl,⟨rfl,rfl⟩,_,_,rfl,(show PlV _ q1 r.1 r.2 from⟨tp,B _ _ zb,(g2.trans (b1.trans B)) _ _ x2⟩).dt,_,_,rfl,⟨rfl,rfl⟩,rfl⟩
  | noplace=>rw [ub (by decide)];refine W8 rfl ?_;intro q1 h1 q2 h2;have b1:=za (o:=.tup [V.ref tp,V.int (r.2:Nat)]) h1;have b2:=za (o:=.tup [V.str (S [110,111,112,108,97,99,101]),V.str (S mk),V.ref q1]) h2;exact q _ _ (g1.trans (b1.trans b2)) ⟨q2,_,rfl,zb,_,_,rfl,⟨rfl,rfl⟩,_,_,rfl,⟨rfl,rfl⟩,_,_,rfl,(show PlV _ q1 r.1 r.2 from⟨tp,b2 _ _ zb,(b1.trans b2) _ _ x2⟩).dt,rfl⟩
  | ife=>rw [ub (by decide),ub (by decide)];refine W8 rfl ?_;intro q1 h1 q2 h2;have b1:=za (o:=.tup [V.str (S [105,102]),V.str (S mk)]) h1;have b2:=za (o:=.lst [V.int 0]) h2;refine⟨tp,rfl,_,(b1.trans b2) _ _ x2,_,zb,by rw [il];simp;omega,λq3 h3=>⟨_,rfl,λq4 h4 q5 h5=>?_⟩⟩;have b3:=za (o:=.lst ((r.1.map λ(t:Nat)=>V.int t)++[V.int 0])) h3;have b4:=za (o:=.tup [V.ref q3,V.int (r.2+1)]) h4;have b5:=za (o:=.lst [V.int 1]) h5;have B25:=b2.trans (b3.trans (b4.trans b5));refine⟨tp,rfl,_,(b1.trans B25) _ _ x2,_,zb,by rw [il];simp;omega,λq6 h6 q7 h7 q8 h8=>?_⟩;have b6:=za (o:=.lst ((r.1.map λ(t:Nat)=>V.int t)++[V.int 1])) h6;have b7:=za (o:=.tup [V.ref q6,V.int (r.2:Nat)]) h7;have b8:=za (o:=.tup [V.str (S [117,110,108,105,107,101]),V.ref q1,V.ref q4,V.ref q7]) h8;have B58:=b5.trans (b6.trans (b7.trans b8));exact q _ _ (g1.trans (b1.trans (B25.trans (b6.trans (b7.trans b8))))) ⟨q8,_,rfl,zb,_,_,rfl,⟨rfl,rfl⟩,_,_,rfl,⟨q1,_,rfl,(B25.trans (b6.trans (b7.trans b8))) _ _ zb,wB [[105,102],mk]⟩,_,_,rfl,(show PlV _ q4 (r.1++[0]) (r.2+1) from⟨q3,B58 _ _ zb,by rw [(b4.trans B58) _ _ zb];simp⟩).dt,_,_,rfl,(show PlV _ q7 (r.1++[1]) r.2 from⟨q6,b8 _ _ zb,by rw [(b7.trans b8) _ _ zb];simp⟩).dt,rfl⟩
  | each=>rw [ub (by decide),ub (by decide),ub (by decide)];refine W8 rfl ?_;intro q1 h1 q2 h2;have b1:=za (o:=.tup [V.str (S [101,97,99,104]),V.str (S mk)]) h1;have b2:=za (o:=.lst [V.int 0]) h2;refine⟨tp,rfl,_,(b1.trans b2) _ _ x2,_,zb,by rw [il];simp;omega,λq3 h3 q4 h4 q5 h5=>?_⟩;have b3:=za (o:=.lst ((r.1.map λ(t:Nat)=>V.int t)++[V.int 0])) h3;have b4:=za (o:=.tup [V.ref q3,V.int (r.2:Nat)]) h4;have b5:=za (o:=.lst [V.int 1]) h5;have B25:=b2.trans (b3.trans (b4.trans b5));refine⟨tp,rfl,_,(b1.trans B25) _ _ x2,_,zb,by rw [il];simp;omega,λq6 h6=>⟨_,rfl,λq7 h7 q8 h8=>?_⟩⟩;have b6:=za (o:=.lst ((r.1.map λ(t:Nat)=>V.int t)++[V.int 1])) h6;have b7:=za (o:=.tup [V.ref q6,V.int (r.2+1)]) h7;have b8:=za (o:=.tup [V.str (S [117,110,108,105,107,101]),V.ref q1,V.ref q4,V.ref q7]) h8;have B58:=b5.trans (b6.trans (b7.trans b8));exact q _ _ (g1.trans (b1.trans (B25.trans (b6.trans (b7.trans b8))))) ⟨q8,_,rfl,zb,_,_,rfl,⟨rfl,rfl⟩,_,_,rfl,⟨q1,_,rfl,(B25.trans (b6.trans (b7.trans b8))) _ _ zb,wB [[101,97,99,104],mk]⟩,_,_,rfl,(show PlV _ q4 (r.1++[0]) r.2 from⟨q3,B58 _ _ zb,by rw [(b4.trans B58) _ _ zb];simp⟩).dt,_,_,rfl,(show PlV _ q7 (r.1++[1]) (r.2+1) from⟨q6,b8 _ _ zb,by rw [(b7.trans b8) _ _ zb];simp⟩).dt,rfl⟩
  | seat=>rw [ub (by decide),ub (by decide),ub (by decide),ub (by decide)];intro q1 h1;have b1:=za (o:=.tup [tx Xo,tx Vh,tx mk,tx []]) h1;refine⟨_,rfl,λq2 h2=>⟨_,rfl,λq3 h3 q4 h4=>?_⟩⟩;have b2:=za (o:=.tup [V.ref tp,V.int (r.2+1)]) h2;have b3:=za (o:=.tup [V.ref tp,V.int (r.2+2)]) h3;have b4:=za (o:=.tup [V.str (S [117,110,108,105,107,101]),V.ref q1,V.ref q2,V.ref q3]) h4;have B24:=b2.trans (b3.trans b4);exact q _ _ (g1.trans (b1.trans B24)) ⟨q4,_,rfl,zb,_,_,rfl,⟨rfl,rfl⟩,_,_,rfl,⟨q1,_,rfl,B24 _ _ zb,wB [Xo,Vh,mk,[]]⟩,_,_,rfl,(show PlV _ q2 r.1 (r.2+1) from⟨tp,(b3.trans b4) _ _ zb,(b1.trans B24) _ _ x2⟩).dt,_,_,rfl,(show PlV _ q3 r.1 (r.2+2) from⟨tp,b4 _ _ zb,(b1.trans B24) _ _ x2⟩).dt,rfl⟩
noncomputable def psI (w1 w2:Fw)(ms:List Tx):Nat->List (Fw×Tx)
 | 0=>[]
 | 1=>if zz∈ms then [(w1,zz)] else []
 | _=>plS w1 w2 ms
def plI (c:Int)(wa ma pa:Addr)(w1 w2:Fw)(ms:List Tx)(H:Hp)(i:Nat)(σ:L2.St)(H':Hp):Prop:=∃ (as:Ld) (L:List Plt) (o4:Option V),σ=[some (.int c),some (.ref wa),some (.ref ma),some (.ref pa),o4]/\Same H H'/\H' pa=some (.lst (as.map .ref))/\pa∉as/\as.Nodup/\(∀ a∈as,H a=none)/\PlA H' as L/\L.map Prod.snd=psI w1 w2 ms i/\(∀ p∈L,p.1 > 0)
theorem XQ (T:Txt w K mg t)(D:Df K mg "_law_plants" yJ we)(ae:OkF P w K mg base 1 "_law_mix" zV qi):OkF P w K mg base 2 "_law_plants" we xB:=by
 refine D.ok v8 ?_ ?_;walk_at "b"
 ·refine ex6 h λc wa ma w1 w2 ms h=>?_;refine av3 h λhwa hma q=>?_;refine⟨_,(zc (qsE 3 v8.nd (zk zC)) (zc (wL PassesOwn.never (by rfl) (Js (by rfl) T.z_range (qa1 ze)) (qgE 4 v8.nd) (zd (zo (qtD (VB (K:=K) (by rfl)) (qxL K (zk (qa2 (qS [122,122]) (qS [121,121]))) (qv 4)) (qv 2)) (zd (VL (VJ (K:=K) (by rfl) gD GV GW Jm (qv 3) (qa1 (zk (qa3 (zr jh ze (qF ae hr (qa3 (qv 0) (zr jh ze (qv 4)) ze))) (qxL K (qv 1) (qv 4)) (qxL K (zk (qa2 (qS [122,122]) (qS [121,121]))) (qv 4)))))))) zi))) (zd (zg (qv 3))))).h,?_⟩
  walk_at "rd";intro pa h0;have k0:=za (o:=.lst []) h0;refine⟨by decide,by decide,WN (plI c wa ma pa w1 w2 ms H) ⟨[],[],_,rfl,k0,zb,by simp,.nil,by simp,.nil,rfl,by simp⟩ ?_ ?_⟩
  ·rintro i σ H1 hi ⟨as,L,o4,rfl,g1,e1,n1,nd,fr,hl,hs,ps⟩;have hi:i<2:=hi
   walk_at "rd";intro p1 h1;have k1:=za (o:=.lst [V.str (S zz),V.str (S yy)]) h1
   obtain⟨mk,w',hz,hw,hst⟩:∃ mk w',([V.str (S zz),V.str (S yy)]:List V)[i]? = some (tx mk)/\([tx (z9 w1),tx (z9 w2)]:List V)[i]? = some (tx (z9 w'))/\psI w1 w2 ms (i+1)=psI w1 w2 ms i++if mk∈ms then [(w',mk)] else []:=by
    have:i=0\/i=1:=by lia
    rcases this with rfl | rfl
    ·exact⟨zz,w1,rfl,rfl,rfl⟩
    ·exact⟨yy,w2,rfl,rfl,rfl⟩
   have hin:inV (tx mk) (ms.map tx)=decide (mk∈ms):=VF mk ms;refine⟨_,SqL.of zb,_,hz,_,.inl (SqL.of ((g1.trans k1) _ _ hma)),rfl,U7.mpr λv hv=>by obtain⟨x,_,rfl⟩:=UT.mp hv;rfl,?_⟩;rw [hin];have il:L.length=(psI w1 w2 ms i).length:=by have:=congrArg List.length hs;rwa [uk] at this
   have i2:(psI w1 w2 ms i).length<=1:=by
    have:i=0\/i=1:=by lia
    rcases this with rfl | rfl
    ·simp [psI]
    ·simp only [psI];split<;>simp
   by_cases hmm:mk∈ms
   ·rw [ud (Us hmm)];rw [ud hmm] at hst;refine⟨.inl ⟨rfl,_,SqL.of (k1 _ _ e1)⟩,by lia,by lia,λH2 g2=>?_⟩;refine⟨_,SqL.of ((g1.trans (k1.trans g2)) _ _ hwa),_,hw,λp3 h3=>⟨_,SqL.of zb,_,hz,λp4 h4=>?_⟩⟩;have b3:=za (o:=.lst [V.str (S zz),V.str (S yy)]) h3;have b4:=za (o:=.lst [V.int (1+(mixM c (11+i) 14:Nat)),tx (z9 w'),tx mk]) h4;have K1:=k1.trans (g2.trans (b3.trans b4));have e4:=K1 _ _ e1;have n4:p4≠pa:=λz=>by rw [z,b3 _ _ (g2 _ _ (k1 _ _ e1))] at h4;cases h4
    have f4:H p4=none:=none_of (g1.trans (k1.trans (g2.trans b3))) h4;have a4:p4∉as:=λz=>hl.some _ z (none_of (k1.trans (g2.trans b3)) h4);have up:Same H (upd (upd (upd H2 p3 (.lst [V.str (S zz),V.str (S yy)])) p4 (.lst [V.int (1+(mixM c (11+i) 14:Nat)),tx (z9 w'),tx mk])) pa (.lst (as.map .ref++[V.ref p4]))):=λb o e=>by rw [zl (zM e h0)];exact(g1.trans K1) _ _ e
    refine⟨_,e4,by rw [uk,hl.len];lia,as++[p4],L++[(((1:Int)+(mixM c (11+i) 14:Nat)),w',mk)],_,rfl,up,by rw [zb,Uv];rfl,?_,?_,?_,?_,?_,?_⟩
    ·intro z;rcases Ud.mp z with z | z
     ·exact n1 z
     ·exact n4 (uE.mp z).symm
    ·rw [List.nodup_append];exact⟨nd,by simp,λx hx y hy e=>a4 (by rw [← uE.mp hy,← e];exact hx)⟩
    ·intro x hx;rcases Ud.mp hx with z | z
     ·exact fr x z
     ·rw [uE.mp z];exact f4
    ·refine PlA.split ((hl.mono K1).of λb hb=>zl (show b≠pa from λz=>n1 (by rw [← z];exact hb))) (.cons ?_ .nil);rw [zl n4,zb]
    ·rw [Uv,hs,hst];rfl
    ·intro x hx;rcases Ud.mp hx with z | z
     ·exact ps x z
     ·rw [uE.mp z];show(1+((mixM c (11+i) 14:Nat):Int)) > 0;lia
   ·rw [ub (by rw [uC hmm];decide)];rw [ub hmm,uw] at hst;exact⟨as,L,_,rfl,g1.trans k1,k1 _ _ e1,n1,nd,fr,hl.mono k1,by rw [hst];exact hs,ps⟩
  ·rintro σ H1 ⟨as,L,o4,rfl,g1,e1,n1,nd,fr,hl,hs,ps⟩
   walk_at "rd";have hs:L.map Prod.snd=plS w1 w2 ms:=hs;refine q pa as L H1 g1 ⟨e1,n1,nd,hl,λp hp=>?_,?_⟩ hs ps fr h0
   ·rw [hs] at hp;unfold plS at hp;rcases Ud.mp hp with h | h<;>split at h<;>simp at h<;>subst h
    ·exact .inl rfl
    ·exact .inr rfl
   ·have:=congrArg List.length hs;rw [uk] at this;rw [this];unfold plS;split<;>split<;>simp
theorem XR (T:Txt w K mg t)(D:Df K mg "_law_pieces" yL jC)(ae:OkF P w K mg base 1 "_law_mix" zV qi)(bZ:OkF P w K mg base 41 "_law_made" xn vC)(b9:OkF P w K mg base 2 "_law_plants" we xB):OkF P w K mg base 62 "_law_pieces" jC wk:=by
 refine D.ok ZD ?_ ?_;walk_at "b"
 ·refine ex6 h λc wa ma w1 w2 ms h=>?_;refine av3 h λhwa hma q=>?_;refine⟨_,(zc (qsE 3 ZD.nd (qxT K (qF bZ hr (qa2 (qv 0) (qF b9 hr (qa3 (qv 0) (qv 1) (qv 2))))) ze)) (zc (zo (qtD zv (qF ae hr (qa3 (qv 0) ze ze)) ze) (zd (zg (zr qI (qv 3) (zk (qa1 (zh (qa2 (qS [108,105,116]) (qS [60,118,62])))))))) zi) (zd (zg (qv 3))))).h,?_⟩
  walk_at "rd";refine⟨w1,w2,hwa,ms,hma,λpa as L H1 g1 hP hsnd hpos hna hnp=>⟨as,L,hP,hpos,λr ps z L' H2 hr res z1 z2 bz=>?_⟩⟩;obtain⟨rp,p,fa,da,xs,rfl,hp,⟨_,vs,e,hfa,hds⟩,hda,np,nd,hxl⟩:=hr;cases e;have G:Same H H2:=λb o e=>rp.old (λy=>by have:=hna b y;rw [e] at this;cases this) (g1 _ _ e);have l1:=hds.len;rw [qE] at l1;have l2:=xu ps;have l3:=bz.sz;have z2':z=none->plS w1 w2 ms=[]:=λe=>by rw [← hsnd,z2 e];rfl
  rw [hsnd] at z1;refine⟨p,rfl,_,SqT.of hp,_,zA _ _,λH3 g3=>?_⟩;by_cases hc:mixM c 13 2=1
  ·rw [ud (by lia)];intro q1 h1 q2 h2;have b1:=za (o:=.tup [tx [108,105,116],tx [60,118,62]]) h1;have b2:=za (o:=.lst [V.ref q1]) h2;refine⟨fa,rfl,vs,(b1.trans b2) _ _ (g3 _ _ (yW _ _ hfa)),_,zb,by simp;lia,λq3 h3=>?_⟩;have b3:=za (o:=.lst (vs++[V.ref q1])) h3;have ep:js c ps=ps++[.lit [60,118,62]]:=ud hc;refine q q3 ps z _ (G.trans (g3.trans (b1.trans (b2.trans b3)))) ?_ res z1 z2' ?_
   ·rw [ep];refine⟨q3,_,rfl,zb,?_⟩;rw [jZ];exact(hds.mono (yW.trans (g3.trans (b1.trans (b2.trans b3))))).app (wU ((b2.trans b3) _ _ zb))
   ·rw [ep];exact(bz.app (xJ (n:=4) (by decide:([60,118,62]:Tx).length<=3))).up (ui _) (by decide) (by decide)
  ·rw [ub (by lia)];have ep:js c ps=ps:=ub hc;exact q fa ps z _ (G.trans g3) (by rw [ep];exact⟨fa,vs,rfl,g3 _ _ (yW _ _ hfa),hds.mono (yW.trans g3)⟩) res z1 z2' (by rw [ep];exact bz.up (ui _) (by decide) (by decide))
theorem Yp {k d:Nat}(hk:63<=k)(hd3:d<=3)(T:Txt w K mg t)(D:Df K mg "_law_right" xq zY)(aR:OkF P w K mg base 62 "_law_pieces" jC wk)(aC:OkF P w K mg base 63 "_law_looked" jb jF)(ae:OkF P w K mg base 1 "_law_mix" zV qi)(ak:OkF P w K mg base 40 "_law_pass" zJ (z7 5))(aE:OkF P w K mg base 60 "_law_first" zO (qq 5))(aS:OkF P w K mg base 61 "_law_due" wX vd)(aT:OkF P w K mg base k "_law_right" zY (qH d)):OkF P w K mg base (k+1) "_law_right" zY (qH (d+1)):=by
 refine D.ok wD ?_ ?_;walk_at "b"
 ·refine ex6 h λc wa ma w1 w2 ms h=>?_;refine av5 h λhwa hma hms hl q=>?_;refine⟨_,(zc (qsE 3 wD.nd (qF aR hr (qa3 (qv 0) (qv 1) (qv 2)))) (zc (qsE 4 wD.nd (qF aC hr (qa1 (qv 3)))) (zc (zo (qtD (ziU (K:=K) (by rfl) (zhG hr)) (qv 2) (zk zC)) (zc (zo (qtD zv (qF ae hr (qa3 (qv 0) ze ze)) ze) (zd (zg (qeD (zez (hu64 hr)) (qv 4) (zh (qa2 (qS [108,101,102,116]) (qF ak hr (qa1 (qv 3)))))))) zi) (zd (zg (qeD (zcr (hu64 hr)) (qxT K (qv 4) ze) (qS [116,111,108,100]))))) zi) (zc (zeU (i:=5) wD.nd (by rfl) (Or.inr (by rfl)) (qF aE hr (qa2 (qv 3) (qv 2)))) (zc (zo (qtD (WT (hu64 hr)) (qv 4) (qF aS hr (qa3 (qv 3) (zgW (WL hr) (zg4 (K:=K) (by rfl) (by rfl) (by rfl) T.z_dict (by rfl) T.z_zip (qa2 (zk (qa2 (qS [122,122]) (qS [121,121]))) (qv 1))) (qv 5) (by intro _ _;rfl)) (qv 5)))) (zd (zg zcm)) zi) (zd (zg (qF aT hr (qa3 (qv 0) (qv 1) ⟨zkz (lcs (N:=vv) (sc:=zf xq) rfl rfl rfl (by decide +kernel)) (jQ (K:=K) (by rfl) (qv 2)).h (λ_ _ _ _ _=>(zgV (qtD zdU (qv 0) (qv 6))).h) (λ_ _ _ _ _=>(qv 0).h)⟩))))))))).h,?_⟩
  walk_at "rd";refine⟨w1,w2,hwa,ms,hma,λr ps z H1 g1 hd res z1 z2 bz=>?_⟩;have bd:=bz.dp;have bs:=bz.sz;have bt:=bz.tx;have rd:∀ {H':Hp},Same H1 H'->RdP 5 H' (.ref r) (js c ps):=λg=>⟨hd.mono g,by lia,by lia⟩
  refine⟨js c ps,⟨hd,bz.nm,by lia,by lia,by lia⟩,λr1 H2 g2 hd2 q1 h1=>?_⟩;have b1:=za (o:=.lst []) h1;have G2:=g2.trans b1;refine⟨_,SqL.of (G2 _ _ (g1 _ _ hma)),SqL.of zb,?_⟩;cases res with
  | ok hok=>
   obtain rfl:=zhu hms (z2 rfl);refine W8 rfl λH3 g3=>?_;by_cases hc:mixM c 13 2=1
   ·rw [ud (by lia)];have ep:js c ps=ps++[.lit [60,118,62]]:=ud hc;have hlk:jf (js c ps)=.error (.left (zw (js c ps)).1 (zw (js c ps)).2):=by rw [ep];exact zfz hok (by decide)
    rw [hlk] at hd2;refine⟨_,rd (G2.trans g3),λr2 H4 g4 pl q2 h2=>?_⟩;have b2:=za (o:=.tup [V.str (S [108,101,102,116]),V.ref r2]) h2;have hx:IsDt _ (reD (.error (.left (zw (js c ps)).1 (zw (js c ps)).2))) (.ref q2):=⟨q2,_,rfl,zb,_,_,rfl,⟨rfl,rfl⟩,_,_,rfl,(pl.mono b2).dt,rfl⟩
    refine⟨_,hd2.mono (b1.trans (g3.trans (g4.trans b2))),_,hx,V7 _,?_⟩;rw [Zb hx.flat];exact q _ (g1.trans (G2.trans (g3.trans (g4.trans b2))))
   ·rw [ub (by lia)];have ep:js c ps=ps:=ub hc;obtain⟨hs,hlk⟩:=zi2 hok (by decide);rw [ep,hlk] at hd2;obtain⟨px,vs,e,hp,v0,r0,rfl,⟨rfl,_⟩,_⟩:=(hd2.mono (b1.trans g3):IsDt H3 (.tp [ft zfi,.ls (dHo hs)]) (.ref r1))
    cases e;exact⟨_,SqT.of hp,_,zA _ _,.inr ⟨zfi,rfl,q _ (g1.trans (G2.trans g3))⟩⟩
  | @bad wd mk kk r0 hm hbad hkk=>
   obtain⟨hmm,hwd⟩:=zhv (z1 _ rfl)
   have hb:BadP 3 zB (js c ps) wd mk kk r0:=by
    unfold js;split
    ·exact hbad.app
    ·exact hbad
   have hlk:jf (js c ps)=.error (dueF wd mk (atM kk) r0):=by have:=zhl (qs:=[]) hb (by decide);rwa [uw] at this
   rw [hlk] at hd2;rw [ub (by cases ms with | nil=>simp at hmm | cons m ms=>simp)];refine⟨_,rd G2,ms,G2 _ _ (g1 _ _ hma),λv H3 g3 hv q2 h2=>?_⟩;rw [hb.first ms hms hmm] at hv;cases (show v=tx mk from hv);have b2:=za (o:=.lst [V.str (S zz),V.str (S yy)]) h2;refine⟨.inr (S zz),.inr (S yy),SqL.of zb,_,_,SqL.of ((g1.trans (G2.trans (g3.trans b2))) _ _ hwa),λq3 h3=>?_⟩;have b3:=za (o:=.dK (qy [] [(.inr (S zz),tx (z9 w1)),(.inr (S yy),tx (z9 w2))])) h3;have hget:valV (qy [] [(.inr (S zz),tx (z9 w1)),(.inr (S yy),tx (z9 w2))]) (.inr (S mk))=some (tx (z9 wd)):=by rcases hwd with⟨rfl,rfl⟩ | ⟨rfl,rfl⟩<;>rfl
   have G3:=g3.trans (b2.trans b3);refine⟨tx (z9 wd),by rw [← hget];exact DGet.k (k:=.inr (S mk)) zb,js c ps,wd,rfl,mk,rfl,rd (G2.trans G3),kk,r0,hb.path,hm,hkk,hb.text,λv1 H4 g4 hv1=>?_⟩;obtain⟨x,rfl⟩:=zht hv1;refine⟨_,_,x,rfl,hd2.mono (b1.trans (G3.trans g4)),hv1,V7 _,?_⟩;rw [ub (by rw [Zb hv1.flat];decide)];have GA:=g1.trans (G2.trans (G3.trans g4));refine⟨⟨_,SqL.of (GA _ _ hma)⟩,zfj (K:=K) (α:=Tx) (ms:=ms) (λm=>decide (m≠mk)) (by rw [uO,uk];lia) (by rw [uk]) (GA _ _ hma) (λi v m k1 k2 H5 g5 R hR=>?_) (λD H5 hD g5 e5=>?_)⟩
   ·rw [Uc,k2] at k1;cases k1
    walk_at "rd";refine⟨rfl,?_⟩;have:(!decide (tx m=tx mk))=decide (m≠mk):=by rw [decide_not];congr 1;exact decide_eq_decide.mpr ⟨λh=>vo.mp (V.str.inj h),λh=>by rw [h]⟩
    rw [this];exact hR
   ·have e5:H5 D=some (.lst ((ms.filter λm=>decide (m≠mk)).map tx)):=by rw [← KS];exact e5
    refine⟨D,rfl,⟨w1,w2,g5 _ _ (GA _ _ hwa)⟩,_,e5,λm hm'=>hms m (GB.mp hm').1,?_,λH6 g6=>q _ (GA.trans (g5.trans g6))⟩
    have:(ms.filter λm=>decide (m≠mk)).length<ms.length:=by
     have h1:=List.length_filter_le (λm=>decide (m≠mk)) ms;rcases Nat.lt_or_eq_of_le h1 with h2 | h2
     ·exact h2
     ·have:=List.length_filter_eq_length_iff.mp h2 mk hmm;simp at this
    lia
theorem XT (T:Txt w K mg t)(D:Df K mg "_law_right" xq zY)(ak:OkF P w K mg base 40 "_law_pass" zJ (z7 5))(aE:OkF P w K mg base 60 "_law_first" zO (qq 5))(aR:OkF P w K mg base 62 "_law_pieces" jC wk)(aC:OkF P w K mg base 63 "_law_looked" jb jF)(ae:OkF P w K mg base 1 "_law_mix" zV qi)(aS:OkF P w K mg base 61 "_law_due" wX vd):OkF P w K mg base 70 "_law_right" zY (qH 3):=by have a0:OkF P w K mg base 63 "_law_right" zY (qH 0):=D.ok (k:=62) wD (λ_ _ _ _ ⟨_,_,_,_,_,_,_,_,_,_,h,_⟩=>absurd h (u7 _)) (λ_ _ _ _ _ _ _ _ _ _ ⟨_,_,_,_,_,_,_,_,_,_,h,_⟩=>absurd h (u7 _));have up:∀ {k d:Nat},63<=k->d<=3->OkF P w K mg base k "_law_right" zY (qH d)->OkF P w K mg base (k+1) "_law_right" zY (qH (d+1)):=λhk hd a=>Yp hk hd T D aR aC ae ak aE aS a;exact(up (by decide) (by decide) (up (by decide) (by decide) (up (by decide) (by decide) a0))).mono (by decide)
def lwI (a p:Addr)(H:Hp)(σ:L2.St)(H':Hp):Prop:=∃ (o2 o3 o4 o5:Option V),σ=[some (.ref a),some (.ref p),o2,o3,o4,o5]/\Same H H'
theorem zi9 (T:Txt w K mg t)(D:Df K mg "law" zfc VW)(aT:OkF P w K mg base 70 "_law_right" zY (qH 3))(cb:OkF P w K mg base 1 "_law_cell" xm (vy K))(ae:OkF P w K mg base 1 "_law_mix" zV qi)(aC:OkF P w K mg base 63 "_law_looked" jb jF):OkF P w K mg base 71 "law" VW (J1 K):=by
 refine D.ok JY ?_ ?_;walk_at "b"
 ·refine ex2 h λa is h=>?_;refine av3 h λhS h63 q=>?_;refine⟨_,(zc (qsE 1 JY.nd (zk (qa5 (qS [97,115,116,114,97,121]) (qS [110,111,112,108,97,99,101]) (qS [105,102]) (qS [101,97,99,104]) (qS [115,101,97,116])))) (zc (wL PassesOwn.never (by rfl) (Js (by rfl) T.z_range (qa1 (qr (zc3 (by rfl)) (by rfl) T.z_max ziz (qa2 ze (qr (zc4 (by rfl)) (by rfl) T.z_min ziA (qa2 (qr (y8 (K:=K) (by rfl)) (by rfl) T.z_len Qa (qa1 (qv 0))) ze)))))) (qgE 2 JY.nd) (zc (qsE 3 JY.nd (qF cb hr (qa2 (qv 0) (qv 2)))) (zc (qsE 4 JY.nd (zk (qa2 (qxL K (qv 1) (qF ae hr (qa3 (qv 3) ze ze))) (qxL K (qv 1) (qF ae hr (qa3 (qv 3) ze ze)))))) (zd (zo (Zf (wM (qF aT hr (qa3 (qv 3) (qv 4) (zk (qa2 (qS [122,122]) (qS [121,121]))))))) (zd (zg zcm)) zi))))) (zc (qsE 5 JY.nd (zk (qa1 (zh (qa4 (qS [105,102]) (qS [122,122]) (zk (qa1 (zh (qa2 (qS [108,105,116]) (qS [60,117,62]))))) (zk (qa3 (zh (qa2 (qS [104,111,108,101]) (qS [104]))) (zh (qa2 (qS [108,105,116]) (qS [60]))) (zh (qa2 (qS [104,111,108,101]) (qS [121,121])))))))))) (zc (zo (qtD (WT (hu64 hr)) (qF aC hr (qa1 (qv 5))) (zh (qa3 (qS [110,111,112,108,97,99,101]) (qS [121,121]) (zh (qa2 (zk (qa1 ze)) ze))))) (zd (zg zcm)) zi) (zd (zg (qeD (zcr (hu64 hr)) (qxT K (qF aC hr (qa1 (zk (qa2 (zh (qa3 (qS [101,97,99,104]) (qS [122,122]) (zk (qa1 (zh (qa2 (qS [108,105,116]) (qS [60,117,62]))))))) (zh (qa2 (qS [108,105,116]) (qS [60,47]))))))) ze) (qS [117,110,108,105,107,101])))))))).h,?_⟩;have run1:jf [.ife zz [.lit [60,117,62]] [.hole [104],.lit [60],.hole yy]]=.error (.noplace yy [1] 2):=by rfl
  have run2:jf [.each zz [.lit [60,117,62]],.lit [60,47]]=.error (.unlike [[101,97,99,104],zz] [0] 0 [1] 1):=by rfl
  walk_at "rd";intro p hp;have k0:=za (o:=.lst [V.str (S (z9 .astray)),V.str (S (z9 .noplace)),V.str (S (z9 .ife)),V.str (S (z9 .each)),V.str (S (z9 .seat))]) hp;refine⟨_,.inl (k0.seq hS),?_⟩;rw [uk];generalize hn0:(if (if (6:Int)<(is.length:Int) then 6 else(is.length:Int)) > 2 then if (6:Int)<(is.length:Int) then 6 else(is.length:Int) else 2)=n0;have hb:0<=n0/\n0<=6:=by rw [← hn0];split<;>(try split)<;>lia
  refine⟨by lia,by lia,?_⟩;refine WN (λ_ σ H'=>lwI a p (upd H p (.lst [V.str (S (z9 .astray)),V.str (S (z9 .noplace)),V.str (S (z9 .ife)),V.str (S (z9 .each)),V.str (S (z9 .seat))])) σ H') ⟨_,_,_,_,rfl,Same.refl _⟩ ?_ ?_
  ·rintro i σ H1 hi ⟨o2,o3,o4,o5,rfl,g1⟩
   walk_at "rd";refine⟨is,(k0.trans g1).seq hS,h63,by lia,λc H2 g2 H3 g3=>?_⟩
   have hix:∀ j:Fin 5,∃ w,[V.str (S (z9 .astray)),V.str (S (z9 .noplace)),V.str (S (z9 .ife)),V.str (S (z9 .each)),V.str (S (z9 .seat))][j.1]? = some (tx (z9 w)):=λj=>by
    rcases j with⟨j,hj⟩
    have:j=0\/j=1\/j=2\/j=3\/j=4:=by lia
    rcases this with rfl | rfl | rfl | rfl | rfl<;>exact⟨_,rfl⟩
   have m1:=ZI (c:=c) (k:=14) (m:=5) (by decide);have m2:=ZI (c:=c) (k:=15) (m:=5) (by decide);obtain⟨w1,e1⟩:=hix ⟨mixM c 14 5,by lia⟩;obtain⟨w2,e2⟩:=hix ⟨mixM c 15 5,by lia⟩;have ep:=(g1.trans (g2.trans g3)) _ _ zb;refine⟨_,SqL.of ep,_,e1,λH4 g4=>⟨_,SqL.of (g4 _ _ ep),_,e2,λq1 h1 q2 h2=>?_⟩⟩;have b1:=za (o:=.lst [tx (z9 w1),tx (z9 w2)]) h1;have b2:=za (o:=.lst [tx zz,tx yy]) h2;exact⟨⟨w1,w2,b2 _ _ zb⟩,[zz,yy],zb,λm hm=>by simpa [Mk] using hm,by decide,λH5 g5=>⟨_,_,_,_,rfl,g1.trans (g2.trans (g3.trans (g4.trans (b1.trans (b2.trans g5)))))⟩⟩
  ·rintro σ H1 ⟨o2,o3,o4,o5,rfl,g1⟩
   walk_at "rd";intro q1 h1 q2 h2 q3 h3 q4 h4 q5 h5 q6 h6 q7 h7 q8 h8;have b8:=za (o:=.lst [V.ref q7]) h8;have b7:=(za (o:=.tup [V.str (S [105,102]),tx zz,V.ref q2,V.ref q6]) h7).trans b8;have b6:=(za (o:=.lst [V.ref q3,V.ref q4,V.ref q5]) h6).trans b7;have b5:=(za (o:=.tup [V.str (S [104,111,108,101]),tx yy]) h5).trans b6;have b4:=(za (o:=.tup [V.str (S [108,105,116]),V.str (S [60])]) h4).trans b5;have b3:=(za (o:=.tup [V.str (S [104,111,108,101]),V.str (S [104])]) h3).trans b4;have b2:=(za (o:=.lst [V.ref q1]) h2).trans b3;have hD:=((Ww (t:=[104]) (b4 _ _ zb)).app (wU (t:=[60]) (b5 _ _ zb))).app (Ww (t:=yy) (b6 _ _ zb));rw [← jZ,← jZ] at hD;refine⟨[.ife zz [.lit [60,117,62]] [.hole [104],.lit [60],.hole yy]],⟨⟨q8,_,rfl,zb,za6 (b8 _ _ zb) ⟨q2,_,rfl,b3 _ _ zb,wU (t:=[60,117,62]) (b2 _ _ zb)⟩ ⟨q6,_,rfl,b7 _ _ zb,hD⟩⟩,by decide,by decide,by decide,by decide⟩,λr H2 g2 hr j1 i1 j2 i2 j3 i3=>?_⟩;have c1:=za (o:=.lst [V.int 1]) i1;have c2:=za (o:=.tup [V.ref j1,V.int 2]) i2;have c3:=za (o:=.tup [V.str (S [110,111,112,108,97,99,101]),tx yy,V.ref j2]) i3;rw [run1] at hr;have hx:IsDt _ (reD (.error (.noplace yy [1] 2))) (.ref j3):=⟨j3,_,rfl,zb,_,_,rfl,⟨rfl,rfl⟩,_,_,rfl,⟨rfl,rfl⟩,_,_,rfl,(show PlV _ j2 [1] 2 from⟨j1,c3 _ _ zb,(c2.trans c3) _ _ zb⟩).dt,rfl⟩
   refine⟨_,hr.mono (c1.trans (c2.trans c3)),_,hx,V7 _,?_⟩;rw [ub (by rw [Zb hx.flat];decide)];intro a1 k1 a2 k2 a3 k3 a4 k4 a5 k5;have d5:=za (o:=.lst [V.ref a3,V.ref a4]) k5;have d4:=(za (o:=.tup [V.str (S [108,105,116]),V.str (S [60,47])]) k4).trans d5;have d3:=(za (o:=.tup [V.str (S [101,97,99,104]),tx zz,V.ref a2]) k3).trans d4;have d2:=(za (o:=.lst [V.ref a1]) k2).trans d3;have hE:=(VZ (n:=zz) (d4 _ _ zb) ⟨a2,_,rfl,d3 _ _ zb,wU (t:=[60,117,62]) (d2 _ _ zb)⟩).app (wU (t:=[60,47]) (d5 _ _ zb));rw [← jZ] at hE;refine⟨[.each zz [.lit [60,117,62]],.lit [60,47]],⟨⟨a5,_,rfl,zb,hE⟩,by decide,by decide,by decide,by decide⟩,λr H3 g3 hr=>?_⟩;rw [run2] at hr;obtain⟨px,vs,e,hp,v0,r0,rfl,⟨rfl,_⟩,_⟩:=hr;cases e;exact⟨_,SqT.of hp,_,zA _ _,.inr ⟨_,rfl,q _⟩⟩
end
end My
set_option maxHeartbeats 0
open PySem L2 PySem.Spec PyProof.Rows
namespace My
theorem len0 {α:Type}{us:List α}(h:us.length=0):us=[]:=List.length_eq_zero_iff.mp h
theorem len1 {α:Type}:∀ {us:List α},us.length=1->∃ a0,us=[a0]
 | [a0],_=>⟨a0,rfl⟩
theorem len2 {α:Type}:∀ {us:List α},us.length=2->∃ a0 a1,us=[a0,a1]
 | [a0,a1],_=>⟨a0,a1,rfl⟩
theorem len3 {α:Type}:∀ {us:List α},us.length=3->∃ a0 a1 a2,us=[a0,a1,a2]
 | [a0,a1,a2],_=>⟨a0,a1,a2,rfl⟩
theorem len4 {α:Type}:∀ {us:List α},us.length=4->∃ a0 a1 a2 a3,us=[a0,a1,a2,a3]
 | [a0,a1,a2,a3],_=>⟨a0,a1,a2,a3,rfl⟩
theorem len5 {α:Type}:∀ {us:List α},us.length=5->∃ a0 a1 a2 a3 a4,us=[a0,a1,a2,a3,a4]
 | [a0,a1,a2,a3,a4],_=>⟨a0,a1,a2,a3,a4,rfl⟩
theorem len6 {α:Type}:∀ {us:List α},us.length=6->∃ a0 a1 a2 a3 a4 a5,us=[a0,a1,a2,a3,a4,a5]
 | [a0,a1,a2,a3,a4,a5],_=>⟨a0,a1,a2,a3,a4,a5,rfl⟩
theorem len7 {α:Type}:∀ {us:List α},us.length=7->∃ a0 a1 a2 a3 a4 a5 a6,us=[a0,a1,a2,a3,a4,a5,a6]
 | [a0,a1,a2,a3,a4,a5,a6],_=>⟨a0,a1,a2,a3,a4,a5,a6,rfl⟩
local macro_rules | `(tactic| walk_at "bd") => `(tactic| (intro _ _ _ _ _ _ us hl; first | (have h := len0 hl; subst h; rfl) | (obtain ⟨_, h⟩ := len1 hl; subst h; rfl) | (obtain ⟨_, _, h⟩ := len2 hl; subst h; rfl) | (obtain ⟨_, _, _, h⟩ := len3 hl; subst h; rfl) | (obtain ⟨_, _, _, _, h⟩ := len4 hl; subst h; rfl) | (obtain ⟨_, _, _, _, _, h⟩ := len5 hl; subst h; rfl) | (obtain ⟨_, _, _, _, _, _, h⟩ := len6 hl; subst h; rfl) | (obtain ⟨_, _, _, _, _, _, _, h⟩ := len7 hl; subst h; rfl)))
theorem dfm {K:Le}{mg:La}{h:Heap}(x:Str)(st:Stmt)(ps:Lh)(f:Addr)(pm:Str)(pj:Addr)(X:K.In h)(G:h.Ns mainGlobals mg)
  (b:∀ (kV doc pm:Value) (an:Option Addr) (cdv ct:Value) (us:Lf),us.length=ps.length->bindArgs (PySem.W.fnOf x x (jk st) (zZ st) (zf st) .none kV doc pm an cdv ct) ⟨us,[]⟩=pure (ps.zip us):=by walk_at "bd")
  (a:PySem.W.nsIn K mainGlobals x=some (some (.ref f)):=by kernel_rfl!) (l:K.lookup f=some ⟨.type "function",none,.func (PySem.W.fnOf x x (jk st) (zZ st) (zf st) .none .none .none (.str pm pj) none (.ref (f - 1)) .none),#[]⟩:=by kernel_rfl!)
  (c:PySem.W.codeIn K (.ref (f - 1)) x=true:=by kernel_rfl!) (k:PySem.W.keepIn K (.ref f)=true:=by kernel_rfl!):Df K mg x st ps:=zkB X G b a l c k
theorem dmm {K:Le}{C:Addr}{m qual:Str}{st:Stmt}{ps:Lh}(f:Addr)(pm:Value)(cl:Cls K C)
  (b:∀ (kV doc pm:Value) (an:Option Addr) (cdv ct:Value) (us:Lf),us.length=ps.length->bindArgs (PySem.W.fnOf m qual (jk st) (zZ st) (zf st) .none kV doc pm an cdv ct) ⟨us,[]⟩=pure (ps.zip us):=by walk_at "bd")
  (l:K.lookup f=some ⟨.type "function",none,.func (PySem.W.fnOf m qual (jk st) (zZ st) (zf st) .none .none .none pm none (.ref (f - 1)) .none),#[]⟩:=by kernel_rfl!)
  (c:PySem.W.codeIn K (.ref (f - 1)) qual=true:=by kernel_rfl!) (k:PySem.W.keepIn K (.ref f)=true:=by kernel_rfl!) (mt:Meth K C m f:=by exact⟨by kernel_rfl!,by kernel_rfl!,by kernel_rfl!⟩):Dm K C m qual st ps:=⟨f,_,k9 l c k,(k9 l c k).binds b,cl,mt⟩
theorem dcm {K:Le}{mg:La}{h:Heap}{C:Addr}{x qual:Str}{st:Stmt}{ps:Lh}(f:Addr)(pm:Value)(X:K.In h)(G:h.Ns mainGlobals mg)
  (b:∀ (kV doc pm:Value) (an:Option Addr) (cdv ct:Value) (us:Lf),us.length=ps.length->bindArgs (PySem.W.fnOf "__init__" qual (jk st) (zZ st) (zf st) .none kV doc pm an cdv ct) ⟨us,[]⟩=pure (ps.zip us):=by walk_at "bd")
  (a:PySem.W.nsIn K mainGlobals x=some (some (.ref C)):=by kernel_rfl!) (l:K.lookup f=some ⟨.type "function",none,.func (PySem.W.fnOf "__init__" qual (jk st) (zZ st) (zf st) .none .none .none pm none (.ref (f - 1)) .none),#[]⟩:=by kernel_rfl!)
  (c:PySem.W.codeIn K (.ref (f - 1)) qual=true:=by kernel_rfl!) (k:PySem.W.keepIn K (.ref f)=true:=by kernel_rfl!) (mk:L2.Mk K C f:=by exact⟨by kernel_rfl!,by kernel_rfl!,by kernel_rfl!,by kernel_rfl!⟩):Dc K mg C x qual st ps:=⟨f,_,k9 l c k,(k9 l c k).binds b,mk,Ur X G a⟩
theorem inim {K:Le}{C:Addr}{qual:Str}{st:Stmt}{ps:Lh}{f cd:Addr}{pm:Value} (b:∀ (kV doc pm:Value) (an:Option Addr) (cdv ct:Value) (us:Lf),us.length=ps.length->bindArgs (PySem.W.fnOf "__init__" qual (jk st) (zZ st) (zf st) .none kV doc pm an cdv ct) ⟨us,[]⟩=pure (ps.zip us)) (a:J9 K C=some (some (.ref f))) (l:K.lookup f=some ⟨.type "function",none,.func (PySem.W.fnOf "__init__" qual (jk st) (zZ st) (zf st) .none .none .none pm none (.ref cd) .none),#[]⟩) (c:PySem.W.codeIn K (.ref cd) qual=true) (k:PySem.W.keepIn K (.ref f)=true):Ini K C qual st ps:=ziJ b a l c k
theorem all_ok {l:PySem.W.OpenLaw}{w:World}{h:Heap}{mg:La}{fa:Addr}(X:(KH w.params).In h)(G:h.Ns mainGlobals mg)(hfa:mg "law" = some (.ref fa)) : ∃ fd:FuncData,(∀ (s:Shared) (v:Value),BindsTo s fd ⟨[v],[]⟩ [("_law_script",v)])/\∀ base:Heap,(KH w.params).In base->base.Ns mainGlobals mg->FnOk l.prog w (KH w.params) mg base CX0 71 fa fd ["_law_script"] (J1 (KH w.params)):=by
 have aD:Cls (KH w.params) 789:=⟨by kernel_rfl!,by kernel_rfl!,by kernel_rfl!,by kernel_rfl!⟩
 have aU:Cls (KH w.params) 712:=⟨by kernel_rfl!,by kernel_rfl!,by kernel_rfl!,by kernel_rfl!⟩
 have cu:=dfm "sign_of" Ju vK 393 "sealpress.signs" 688 X G;have cv:=dfm "sign_told" Zh wm 400 "sealpress.signs" 688 X G;have cw:=dfm "place_of" Qc xS 408 "sealpress.places" 715 X G;have cx:=dfm "fed_between" yA jz 415 "sealpress.talks" 729 X G;have cy:=dfm "fed_word" Qe xU 422 "sealpress.talks" 729 X G;have cA:=dfm "fed_said" Qg xV 429 "sealpress.talks" 729 X G;have cB:=dfm "feed" zaJ Q7 436 "sealpress.talks" 729 X G;have cF:=dfm "come_to" Jw zN 443 "sealpress.modes" 760 X G;have cG:=dfm "told" zaM wG 450 "sealpress.modes" 760 X G;have cH:=dfm "gathered" Qi qx 457 "sealpress.modes" 760 X G;have cI:=dfm "box_shut" Qk j8 464 "sealpress.modes" 760 X G;have cJ:=dfm "into_box" Qm xW 471 "sealpress.modes" 760 X G;have cL:=dfm "led_on" Xa xG 478 "sealpress.modes" 760 X G;have cO:=dfm "fed" ze5 Jy 485 "sealpress.modes" 760 X G;have cP:=dfm "mark_ended" kh jt 492 "sealpress.modes" 760 X G;have cQ:=dfm "at_text" Jz vL 499 "sealpress.modes" 760 X G;have cR:=dfm "at_mark" JB vM 506 "sealpress.modes" 760 X G;have cT:=dfm "at_open" JD vN 513 "sealpress.modes" 760 X G;have cU:=dfm "at_name" JF vO 520 "sealpress.modes" 760 X G;have cV:=dfm "at_slash" Qo xX 527 "sealpress.modes" 760 X G;have cW:=dfm "at_shut" JH vP 534 "sealpress.modes" 760 X G;have cX:=dfm "at_gap" Xc yS 541 "sealpress.modes" 760 X G;have cY:=dfm "at_attr" JJ vQ 548 "sealpress.modes" 760 X G;have cZ:=dfm "at_is" VM Zj 555 "sealpress.modes" 760 X G;have c8:=dfm "at_bang" JL vR 562 "sealpress.modes" 760 X G;have c9:=dfm "at_bare" JN vS 569 "sealpress.modes" 760 X G;have de:=dfm "at_code" JP vT 576 "sealpress.modes" 760 X G;have dg:=dfm "at_row" Xe yT 583 "sealpress.modes" 760 X G;have dh:=dfm "at_stroke" Zk xi 590 "sealpress.modes" 760 X G;have di:=dfm "at_quoted" Zm xj 597 "sealpress.modes" 760 X G;have dj:=dfm "at_qmark" Qq xY 604 "sealpress.modes" 760 X G;have dk:=dfm "at_done" JR vU 611 "sealpress.modes" 760 X G;have dm:=dfm "at_talk" JT vV 618 "sealpress.modes" 760 X G;have dn:=dfm "at_tmark" Qs xZ 625 "sealpress.modes" 760 X G;have dq:=dfm "at_asis" ZQ vW 630 "sealpress.modes" 760 X G;have du:=dfm "moved" VQ Zo 639 "sealpress.modes" 760 X G;have dv:=dfm "begin" VS yU 646 "sealpress.steps" 1085 X G;have dw:=dfm "step" zaZ Q8 653 "sealpress.steps" 1085 X G;have dy:=dfm "run" zfa Xg 660 "sealpress.steps" 1085 X G;have dz:=dfm "is_end" Xh yV 667 "sealpress.steps" 1085 X G;have dA:=dfm "floored" JV xH 674 "sealpress.steps" 1085 X G;have dB:Dc (KH w.params) mg 712 "Spot" "Spot.__init__" vi qA:=dcm 688 (.str "sealpress.looker" 1128) X G;have dC:Dm (KH w.params) 712 "shown" "Spot.shown" kj zX:=dmm 695 (.str "sealpress.looker" 1128) aU;have dD:Dm (KH w.params) 712 "met" "Spot.met" Qw jI:=dmm 702 (.str "sealpress.looker" 1128) aU;have dF:Dm (KH w.params) 712 "turned" "Spot.turned" yC ja:=dmm 709 (.str "sealpress.looker" 1128) aU;have dG:Dc (KH w.params) mg 789 "Looking" "Looking.__init__" wN qQ:=dcm 730 (.str "sealpress.looker" 1128) X G;have dH:Dm (KH w.params) 789 "look_all" "Looking.look_all" jL zt:=dmm 737 (.str "sealpress.looker" 1128) aD;have bN:Dm (KH w.params) 789 "look_piece" "Looking.look_piece" jl zW:=dmm 744 (.str "sealpress.looker" 1128) aD;have dI:Dm (KH w.params) 789 "look_literal" "Looking.look_literal" jM zL:=dmm 751 (.str "sealpress.looker" 1128) aD;have dJ:Dm (KH w.params) 789 "look_hole" "Looking.look_hole" wt qf:=dmm 758 (.str "sealpress.looker" 1128) aD;have bO:Dm (KH w.params) 789 "look_each" "Looking.look_each" jv qg:=dmm 765 (.str "sealpress.looker" 1128) aD;have bP:Dm (KH w.params) 789 "look_if" "Looking.look_if" jY qB:=dmm 772 (.str "sealpress.looker" 1128) aD;have bQ:Dm (KH w.params) 789 "look_seat" "Looking.look_seat" jw qh:=dmm 779 (.str "sealpress.looker" 1128) aD;have dM:=dfm "looked_at" Zp xl 800 "sealpress.looker" 1128 X G;have dN:=dfm "look" za2 Q9 807 "sealpress.looker" 1128 X G;have dQ:=dfm "_law_cell" Zr xm 814 "law_sealpress_k79_the_first_fault" 1322 X G;have dR:=dfm "_law_mix" Qy zV 821 "law_sealpress_k79_the_first_fault" 1322 X G;have dU:=dfm "_law_other" ko wC 828 "law_sealpress_k79_the_first_fault" 1322 X G;have dW:=dfm "_law_part" Zu qV 835 "law_sealpress_k79_the_first_fault" 1322 X G;have dX:=dfm "_law_fault" ku ju 842 "law_sealpress_k79_the_first_fault" 1322 X G;have dY:=dfm "_law_good" yf qu 849 "law_sealpress_k79_the_first_fault" 1322 X G;have aK:=dfm "_law_some" yg wo 856 "law_sealpress_k79_the_first_fault" 1322 X G;have aO:=dfm "_law_within" xM jB 863 "law_sealpress_k79_the_first_fault" 1322 X G;have aJ:=dfm "_law_compound" wH qC 870 "law_sealpress_k79_the_first_fault" 1322 X G;have dZ:=dfm "_law_made" Zy xn 877 "law_sealpress_k79_the_first_fault" 1322 X G;have ec:=dfm "_law_marked" yF qJ 884 "law_sealpress_k79_the_first_fault" 1322 X G;have ee:=dfm "_law_pass" yh zJ 891 "law_sealpress_k79_the_first_fault" 1322 X G;have ef:=dfm "_law_inner" kz qo 898 "law_sealpress_k79_the_first_fault" 1322 X G;have eg:=dfm "_law_path" yi qw 905 "law_sealpress_k79_the_first_fault" 1322 X G;have ei:=dfm "_law_text_of" xp zE 912 "law_sealpress_k79_the_first_fault" 1322 X G;have el:=dfm "_law_due" QB wX 919 "law_sealpress_k79_the_first_fault" 1322 X G;have eu:=dfm "_law_looked" yH jb 926 "law_sealpress_k79_the_first_fault" 1322 X G;have ez:=dfm "_law_refusal" v5 jS 933 "law_sealpress_k79_the_first_fault" 1322 X G;have eA:=dfm "_law_first" vt zO 940 "law_sealpress_k79_the_first_fault" 1322 X G;have eC:=dfm "_law_plants" yJ we 947 "law_sealpress_k79_the_first_fault" 1322 X G;have eD:=dfm "_law_pieces" yL jC 954 "law_sealpress_k79_the_first_fault" 1322 X G;have eE:=dfm "_law_right" xq zY 959 "law_sealpress_k79_the_first_fault" 1322 X G;have cf:=dfm "law" zfc VW 966 "law_sealpress_k79_the_first_fault" 1322 X G;have e_SIGNS:Str.ofString " !\"#$&'()*+,-./0123456789:;<=>?@ABCDEFGHIJKLMNOPQRSTUVWXYZ[\\]^_`abcdefghijklmnopqrstuvwxyz{|}~" = (S sg):=by decide +kernel
 have e_FIGURES:Str.ofString "0123456789" = (S fg):=by decide +kernel
 have e_LETTERS:Str.ofString "abcdefghijklmnopqrstuvwxyz" = (S lt):=by decide +kernel
 have e_WORDSIGNS:Str.ofString "abcdefghijklmnopqrstuvwxyz0123456789-" = (S ws):=by decide +kernel
 have e_ASIS_END:Str.ofString "</asis>" = (S ke):=by decide +kernel
 have xl_MODES:(KH w.params).lookup 631=some ⟨.type "dict",none,.dict #[(en w.params "text" 1035 (.ref 499)),(en w.params "mark" 1037 (.ref 506)),(en w.params "open" 1039 (.ref 513)),(en w.params "name" 1041 (.ref 520)),(en w.params "slash" 1043 (.ref 527)),(en w.params "shut" 1045 (.ref 534)),(en w.params "gap" 1047 (.ref 541)),(en w.params "attr" 1049 (.ref 548)),(en w.params "is" 1051 (.ref 555)),(en w.params "bang" 1053 (.ref 562)),(en w.params "bare" 1055 (.ref 569)),(en w.params "code" 1057 (.ref 576)),(en w.params "row" 1059 (.ref 583)),(en w.params "stroke" 1061 (.ref 590)),(en w.params "quoted" 1063 (.ref 597)),(en w.params "qmark" 1065 (.ref 604)),(en w.params "done" 1067 (.ref 611)),(en w.params "talk" 1069 (.ref 618)),(en w.params "tmark" 1070 (.ref 625)),(en w.params "asis" 1071 (.ref 630))] 20,#[]⟩:=by kernel_rfl!
 have xl_PLACE_MODES:(KH w.params).lookup 401=some ⟨.type "tuple",none,.seq #[(.str "text" 717),(.str "bare" 718),(.str "row" 719),(.str "quoted" 720)] 0,#[]⟩:=by kernel_rfl!
 have T:Txt w (KH w.params) mg (⟨24,44,63,82,94,113,132,151,170,182,201,220,239,258,277,296,315,334,353,372,384,712,789,401,499,506,513,520,527,534,541,548,555,562,569,576,583,590,597,604,611,618,625,630⟩:Ads):=by refine⟨?_,?_,?_,?_,?_,?_,?_,?_,?_,?_,?_,?_,?_,?_,?_,?_,?_,?_,?_,?_,?_,?_,?_,?_,?_,?_,?_,?_,?_,?_,?_,?_,?_,?_,?_,?_,?_,?_,?_,?_,?_,?_,?_,?_,?_,?_,?_,?_,?_,?_,?_,?_,?_,?_,?_,?_,?_,?_,?_,?_,?_,?_,?_,?_,?_,?_,?_,?_,?_,?_,?_,?_,?_,?_,?_,?_,?_,?_,?_,?_,?_,?_,?_,?_,?_,?_,?_,?_,?_,?_,?_,?_,?_,?_,⟨.str (Str.ofString " !\"#$&'()*+,-./0123456789:;<=>?@ABCDEFGHIJKLMNOPQRSTUVWXYZ[\\]^_`abcdefghijklmnopqrstuvwxyz{|}~") 690,Ur X G (by kernel_rfl!),⟨_,by rw [e_SIGNS]⟩⟩,⟨.str (Str.ofString "0123456789") 692,Ur X G (by kernel_rfl!),⟨_,by rw [e_FIGURES]⟩⟩,⟨.str (Str.ofString "abcdefghijklmnopqrstuvwxyz") 694,Ur X G (by kernel_rfl!),⟨_,by rw [e_LETTERS]⟩⟩,⟨.int 8 696,Ur X G (by kernel_rfl!),⟨_,rfl⟩⟩,⟨.str (Str.ofString "abcdefghijklmnopqrstuvwxyz0123456789-") 713,Ur X G (by kernel_rfl!),⟨_,by rw [e_WORDSIGNS]⟩⟩,⟨.str (Str.ofString "</asis>") 762,Ur X G (by kernel_rfl!),⟨_,by rw [e_ASIS_END]⟩⟩,⟨.int 2 764,Ur X G (by kernel_rfl!),⟨_,rfl⟩⟩,⟨_,Ur (v:=.ref 631) X G (by kernel_rfl!),by decide,_,_,_,xl_MODES,⟨rfl,rfl,rfl⟩,rfl,by repeat' (first | exact EntK.nil | refine EntK.cons rfl rfl rfl ?_),by decide +kernel⟩,?_,λ_=>.inr ⟨_,_,_,xl_PLACE_MODES,rfl,rfl,by decide,by repeat' (first | exact .nil | refine .cons ⟨_,rfl⟩ ?_)⟩,?_,?_,?_,?_,?_,?_,?_,?_,?_,?_,?_,?_,?_,aU,aD,?_,?_,?_,?_,?_,?_⟩<;>first | exact Ur X G (by kernel_rfl!) | exact ziD (by kernel_rfl!) | exact PySem.W.mg_none_of X G (by kernel_rfl!) | (show _=_;kernel_rfl!)
 have eF:Ini (KH w.params) 82 "Unread.__init__" QD ["self","at"]:=inim (f:=79) (pm:=(.str "sealpress.errors" 187)) (cd:=78) (λ_ _ _ _ _ _ us hl=>by obtain⟨_,_,rfl⟩:=len2 hl;rfl) (by kernel_rfl!) (by kernel_rfl!) (by kernel_rfl!) (by kernel_rfl!);have eG:Ini (KH w.params) 277 "Astray.__init__" QF ["self","place","at"]:=inim (f:=274) (pm:=(.str "sealpress.errors" 187)) (cd:=273) (λ_ _ _ _ _ _ us hl=>by obtain⟨_,_,_,rfl⟩:=len3 hl;rfl) (by kernel_rfl!) (by kernel_rfl!) (by kernel_rfl!) (by kernel_rfl!);have eH:Ini (KH w.params) 315 "Unlike.__init__" QH ["self","what","one","other"]:=inim (f:=312) (pm:=(.str "sealpress.errors" 187)) (cd:=311) (λ_ _ _ _ _ _ us hl=>by obtain⟨_,_,_,_,rfl⟩:=len4 hl;rfl) (by kernel_rfl!) (by kernel_rfl!) (by kernel_rfl!) (by kernel_rfl!);have eI:Ini (KH w.params) 296 "NoPlace.__init__" ZE ["self","name","place"]:=inim (f:=293) (pm:=(.str "sealpress.errors" 187)) (cd:=292) (λ_ _ _ _ _ _ us hl=>by obtain⟨_,_,_,rfl⟩:=len3 hl;rfl) (by kernel_rfl!) (by kernel_rfl!) (by kernel_rfl!) (by kernel_rfl!);have eJ:Ini (KH w.params) 334 "LeftOpen.__init__" kC ["self","place"]:=inim (f:=331) (pm:=(.str "sealpress.errors" 187)) (cd:=330) (λ_ _ _ _ _ _ us hl=>by obtain⟨_,_,rfl⟩:=len2 hl;rfl) (by kernel_rfl!) (by kernel_rfl!) (by kernel_rfl!) (by kernel_rfl!);refine ziw cf hfa (λ_ _ _ _ _ _ s v=>.of_eq rfl) λbase=>?_;have bI:=za4 (P:=l.prog) (w:=w) (base:=base) T eF;have bK:=za7 (P:=l.prog) (w:=w) (base:=base) T eG;have aq:=za8 (P:=l.prog) (w:=w) (base:=base) T eH;have bM:=KJ (P:=l.prog) (w:=w) (base:=base) T eI;have bT:=V1 (P:=l.prog) (w:=w) (base:=base) T eJ;have aV:=zbj (P:=l.prog) (base:=base) T cu;have aG:=V8 (P:=l.prog) (base:=base) T cv aV;have aF:=Xw (P:=l.prog) (base:=base) T cx;have aW:=KU (P:=l.prog) (base:=base) T cy aF;have aX:=KW (P:=l.prog) (base:=base) T cA;have aZ:=zhw (P:=l.prog) (base:=base) T cB aF aW aX;have aa:=zbk (P:=l.prog) (base:=base) T cF;have ag:=zhx (P:=l.prog) (base:=base) T cG aa;have ah:=KY (P:=l.prog) (base:=base) T cH;have aA:=KZ (P:=l.prog) (base:=base) T cI aa;have aY:=K0 (P:=l.prog) (base:=base) T cJ aa;have az:=zdG (P:=l.prog) (base:=base) T cL aa aY;have aH:=zi6 (P:=l.prog) (base:=base) T cO aZ;have ay:=XH (P:=l.prog) (base:=base) T cP aG;have a8:=zbl (P:=l.prog) (base:=base) T cQ aa ag;have a9:=zbm (P:=l.prog) (base:=base) T cR ah ay ag;have bc:=zbn (P:=l.prog) (base:=base) T cT aa ah;have bf:=zbo (P:=l.prog) (base:=base) T cU ah az;have bg:=K2 (P:=l.prog) (base:=base) T cV aA;have bh:=zbp (P:=l.prog) (base:=base) T cW ah aA;have bj:=zdH (P:=l.prog) (base:=base) T cX ah;have bo:=zbq (P:=l.prog) (base:=base) T cY ah aa;have bp:=zfG (P:=l.prog) (base:=base) T cZ aa;have bq:=zbr (P:=l.prog) (base:=base) T c8;have br:=zbs (P:=l.prog) (base:=base) T c9 ag aa az;have bu:=zbt (P:=l.prog) (base:=base) T de ag aG;have bw:=zdI (P:=l.prog) (base:=base) T dg aa ag;have bx:=V9 (P:=l.prog) (base:=base) T dh ag;have bA:=Yb (P:=l.prog) (base:=base) T di aa ag;have bB:=K3 (P:=l.prog) (base:=base) T dj ah ay ag;have bC:=zbu (P:=l.prog) (base:=base) T dk az;have bD:=zbv (P:=l.prog) (base:=base) T dm aa aH;have bE:=K4 (P:=l.prog) (base:=base) T dn ah ay aH;have bF:=zbw (P:=l.prog) (base:=base) T dq aA aa;have bG:=zfH (P:=l.prog) (base:=base) T du a8 a9 bc bf bg bh bj bo bp bq br bu bw bx bA bB bC bD bE bF;have aI:=zfI (P:=l.prog) (base:=base) T dv;have bH:=zhy (P:=l.prog) (base:=base) T dw bG;have aL:=zbx (P:=l.prog) (base:=base) T dA;have bJ:=zi7 (P:=l.prog) (base:=base) T dy bH bI;have cb:=K5 (P:=l.prog) (base:=base) T dQ;have ae:=zbA (P:=l.prog) (base:=base) T dR;have af:=K6 (P:=l.prog) (base:=base) T dW ae;have bL:=K7 (P:=l.prog) (base:=base) T cw;have aB:=J2 (P:=l.prog) (base:=base) T dB;have ao:=K8 (P:=l.prog) (base:=base) T dD aB;have au:=Xx (P:=l.prog) (base:=base) T dF aB;have bS:=ZZ (P:=l.prog) (base:=base) T dG;have ai:=XI (P:=l.prog) (base:=base) T dC;have aM:=Wh (P:=l.prog) (base:=base) T dI bJ ao ai bK;have aN:=Yc (P:=l.prog) (base:=base) T dJ bL ao ai bM;have av:=Yg (P:=l.prog) (base:=base) T dH bN bO bP bQ aM aN au ao ai aL aq;have bR:=zdJ (P:=l.prog) (base:=base) T dz aI;have bU:=Yh (P:=l.prog) (base:=base) T dM av aI bR aB bS ai bT;have bW:=zhA (P:=l.prog) (base:=base) T dN bU;have bV:=Yi (P:=l.prog) (base:=base) T dU;have bX:=Xy (P:=l.prog) (base:=base) T ez bV;have aC:=XM (P:=l.prog) (base:=base) T eu bW bX;have ar:=Yj (P:=l.prog) (base:=base) T dX;have aw:=Yk (P:=l.prog) (base:=base) T dY aO aJ aK ae af ar;have bZ:=zab (P:=l.prog) (base:=base) T dZ aw ar;have ax:=XN (P:=l.prog) (base:=base) T ec;have aj:=Yl (P:=l.prog) (base:=base) T ef;have ak:=Ym (P:=l.prog) (base:=base) T ee;have aP:=Yn (P:=l.prog) (base:=base) T eg ak ax aj;have aQ:=Wi (P:=l.prog) (base:=base) T ei aj;have aE:=XO (P:=l.prog) (base:=base) T eA ax aj;have aS:=zbE (P:=l.prog) (base:=base) T el aP aQ;have b9:=XQ (P:=l.prog) (base:=base) T eC ae;have aR:=XR (P:=l.prog) (base:=base) T eD ae bZ b9;have aT:=XT (P:=l.prog) (base:=base) T eE ak aE aR aC ae aS;have eK:=zi9 (P:=l.prog) (base:=base) T cf aT cb ae aC;exact eK
theorem walk {l:PySem.W.OpenLaw}{q:Program}{loose:Lh}{XP:(La)->Heap->Prop}{YP:World->Heap->Prop}{d:DefRec}{K:Params->Le}(hn:l.most=some 63)(hdf:d.params.defaults=[])
  (hY:∀ (w:World) (h:Heap),YP w h->(K w.params).In h)
  (F:∀ (w:World) (mg:La) (fa:Addr) (h:Heap),(K w.params).In h->h.Ns mainGlobals mg->mg d.name=some (.ref fa) ->
   ∃ fd:FuncData,(∀ (s:Shared) (u:Value),BindsTo s fd ⟨[u],[]⟩ [("_law_script",u)])/\∀ base:Heap,(K w.params).In base->base.Ns mainGlobals mg->FnOk l.prog w (K w.params) mg base CX0 71 fa fd ["_law_script"] (J1 (K w.params))) :
  PySem.W.WalkO q loose XP YP l.row.toRowW d [] (λf vs=>PySem.call f vs):=
 L2.zgq (n:=63) (k:=71) (x:="_law_script") (CX:=λ_=>CX0) (sp:=λw=>J1 (K w.params)) hn (by decide) hdf ⟨rfl,by decide,by decide,rfl⟩ hY F (λ_ _ a ns hl _ hS=>⟨a,ns,rfl,hS,hl,λ_=>rfl⟩) λ_ _ _ _ _ z=>z
end My
open PySem PySem.W PyProof.Rows
set_option maxRecDepth 100000 in
set_option maxHeartbeats 0 in
theorem PySem.Challenge.cw_sealpress_k79_the_first_fault_holds : PySem.Challenge.rw_sealpress_k79_the_first_fault.Holds := by
  w_on; o_law;refine PySem.W.holds_open (q := My.qvw) (loose := My.loose0) (Xt := My.Xt0) (XP := XL My.qvw []) (Yf := Hook.obs My.HK) (Ya := Hook.val My.HK) (YP := Hook.says My.HK) (N := 8635) My.left (Hook.of My.HK) (Hook.keeps My.HK) (λs e => xl_of s (Bool.and_eq_true_iff.mp e).1) XL.keeps (by rfl) (by rfl) (by rfl) (λs e => recFacts_of (Bool.and_eq_true_iff.mp e).2) (by rfl) (by first | assumption | decide +kernel) (by decide +kernel) ⟨rfl, rfl, rfl, rfl, rfl, by decide +kernel⟩ ?hw ?hc
  (case hw => w_witness2);exact My.walk (l := PySem.Challenge.rw_sealpress_k79_the_first_fault) rfl rfl (λw h Y => PySem.W.kIn_of Y) (λw mg fa h KX G hmg => My.all_ok KX G hmg)
