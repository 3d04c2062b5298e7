import PyProof.Rows.All
import Wide.All
import OpenK.AllK
import Wide.FinOn
import Lean
import PyProof.EqAt
import PyProof.EqKinds
import PyProof.TupleCall
import PyProof.Draws
import PyProof.EnumMake
import PyProof.NeKinds
import PyProof.ZipIter
import PyProof.Rows.ZipGen
import PyProof.ReprRoads
import KE.KRevIter
import PyProof.StrLawsReplace
import PyProof.ToksMono
import PyProof.SliceList
import KE.KEqDict
import PySem.Challenge.RW_sealpress_k52_the_first_refusal
set_option linter.all false
set_option genSizeOf false
set_option backward.match.sparseCases false
set_option compiler.extract_closed false
set_option bootstrap.genMatcherCode false
abbrev La:=PySem.Str->Option PySem.Value
noncomputable abbrev Lc:=List Nat
noncomputable abbrev Ld:=List PySem.Addr
noncomputable abbrev Le:=PySem.W.Frag
noncomputable abbrev Lf:=List PySem.Value
noncomputable abbrev Lg:=List PySem.Expr
noncomputable abbrev Lh:=List PySem.Str
abbrev ua:=@PySem.wpAny_bind
abbrev ub:=@List.length_append
abbrev uc:=@List.length_cons
abbrev ud:=@List.length_map
abbrev ue:=@List.append_assoc
abbrev uf:=@PySem.Heap.get?_push_of_some
abbrev ug:=@List.mem_cons_self
abbrev uh:=@PySem.wpAny_pure
abbrev uj:=@Nat.le_refl
abbrev uk:=@List.mem_cons_of_mem
abbrev um:=@PySem.Heap.lt_size
abbrev uo:=@List.mem_append
abbrev uq:=@of_decide_eq_true
abbrev ur:=@List.length_nil
abbrev uu:=@List.size_toArray
abbrev uv:=@decide_eq_false
abbrev uw:=@List.mem_cons
abbrev ux:=@if_neg
abbrev uy:=@List.mem_singleton
abbrev uz:=@List.getElem?_eq_getElem
abbrev uA:=@List.map_cons
abbrev uB:=@PySem.Heap.get?_push_size
abbrev uC:=@if_pos
abbrev uD:=@PySem.sizeLine_eq
abbrev uE:=@List.getElem?_map
abbrev uF:=@List.map_append
abbrev uG:=@PySem.wpAny_mono
abbrev uH:=@List.append_nil
abbrev uI:=@Nat.lt_of_lt_of_le
abbrev uJ:=@List.mem_append_right
abbrev uK:=@decide_eq_true
abbrev uL:=@List.perm_append_comm
abbrev uM:=@Option.map_eq_some_iff
abbrev uN:=@of_decide_eq_false
abbrev uO:=@Int.emod_lt_of_pos
abbrev uP:=@Bool.false_ne_true
abbrev uQ:=@Option.some.inj
abbrev uR:=@List.mem_of_getElem?
abbrev uS:=@Bool.and_eq_true
abbrev uT:=@List.perm_middle
abbrev uU:=@PySem.W.mg_of
abbrev uV:=@Int.emod_nonneg
abbrev uW:=@List.mem_append_left
abbrev uX:=@PySem.W.mg_none_of
abbrev uY:=@List.getElem?_eq_some_iff
abbrev uZ:=@Nat.le_trans
abbrev u4:=@Nat.zero_le
abbrev u5:=@List.getD_eq_getElem?_getD
abbrev u6:=@PySem.wpAny_loadPart_at
abbrev u7:=@Option.bind_some
abbrev u9:=@List.mem_map
abbrev Ua:=@List.getElem?_append_right
abbrev Ub:=@List.length_replicate
abbrev Uc:=@Nat.lt_irrefl
abbrev Ud:=@List.length_drop
abbrev Ue:=@PySem.Heap.get?_update_other
abbrev Ug:=@beq_self_eq_true
abbrev Uh:=@List.getElem?_set_self
abbrev Ui:=@Bool.and_eq_true_iff
abbrev Uj:=@PySem.wpAny_truthy_bool
abbrev Uk:=@List.length_take
abbrev Ul:=@List.lookup_cons
abbrev Um:=@List.isEmpty_iff
abbrev Uo:=@PySem.wpAny_holding
abbrev Up:=@Nat.ne_of_lt
abbrev Uq:=@PySem.wpAny_field
abbrev Ur:=@PySem.W.kia_one
abbrev Us:=@Nat.le_add_right
abbrev Ut:=@beq_eq_false_iff_ne
abbrev Uu:=@PySem.mem_of_lookup
abbrev Uv:=@PySem.wpAny_Call_Name_kw
abbrev Uw:=@List.map_map
abbrev Ux:=@List.cons_append
abbrev Uy:=@Int.toNat_natCast
abbrev Uz:=@Array.getElem?_eq_some_iff
abbrev UA:=@List.nodup_cons
abbrev UB:=@List.getElem?_append_left
abbrev UC:=@PySem.wpAny_passesOwn
abbrev UD:=@beq_iff_eq
abbrev UE:=@List.getElem?_set_ne
abbrev UG:=@PySem.wpAny_newObj_type
abbrev UH:=@List.nil_append
abbrev UI:=@PySem.wpAny_standAt
abbrev UJ:=@List.flatten_append
abbrev UK:=@PySem.Heap.get?_update_self
abbrev UL:=@Nat.zero_add
abbrev UM:=@Nat.le_succ
abbrev UN:=@PySem.call_meets
abbrev UO:=@PySem.wpAny_call
abbrev UP:=@List.takeWhile_cons_of_pos
abbrev UQ:=@List.take_append_drop
abbrev UR:=@List.drop_eq_getElem_cons
abbrev US:=@Option.map_some
abbrev UT:=@List.flatten_cons
abbrev UU:=@List.mem_of_mem_take
abbrev UW:=@List.all_cons
abbrev UX:=@List.any_cons
abbrev UY:=@List.map_congr_left
abbrev UZ:=@Bool.or_eq_true_iff
abbrev U0:=@List.map_eq_nil_iff
abbrev U1:=@List.length_pos_iff
abbrev U2:=@List.getElem_mem
abbrev U3:=@List.eq_nil_of_length_eq_zero
abbrev U4:=@Nat.le_of_eq
abbrev U5:=@Nat.sub_self
abbrev U6:=@List.drop_of_length_le
abbrev U7:=@Bool.eq_iff_iff
abbrev U8:=@List.find?_cons
abbrev U9:=@List.getLast?_cons_of_ne_nil
abbrev gb:=@PySem.wpAny_execs_nil
abbrev gc:=@List.eq_nil_or_concat
abbrev gg:=@List.concat_eq_append
abbrev gh:=@List.reverse_cons
abbrev gi:=@List.take_length_add_append
abbrev gj:=@List.mem_range
abbrev gk:=@PySem.Heap.get?_none_of_le
abbrev gm:=@List.drop_zero
abbrev gn:=@List.forall_mem_cons
abbrev gp:=@Nat.lt_succ_self
abbrev gq:=@PySem.typeIs_str
abbrev gr:=@List.map_nil
abbrev gu:=@PySem.wpAny_isSubtype_exc
abbrev gv:=@PySem.tupleKind_room_in1
abbrev gw:=@List.cons.inj
abbrev gx:=@PySem.codeAny_mono
abbrev gy:=@List.map_singleton
abbrev gz:=@List.contains_cons
abbrev gA:=@PySem.W.callWith_K
abbrev gB:=@Nat.add_sub_cancel_left
abbrev gC:=@Int.eq_ofNat_of_zero_le
abbrev gD:=@PySem.F.plainAttrs_list
abbrev gE:=@Bool.and_false
abbrev gF:=@List.take_of_length_le
abbrev gG:=@PySem.F.slot_str_split
abbrev gH:=@List.Perm.append_right
abbrev gI:=@List.length_range
abbrev gJ:=@List.drop_left
abbrev gK:=@List.set_append_right
abbrev gM:=@Nat.succ_le_succ
abbrev gO:=@Nat.add_assoc
abbrev gP:=@PySem.Heap.size_push
abbrev gQ:=@PySem.wpAny_setField
abbrev gR:=@List.drop_append_of_le_length
abbrev gS:=@List.getLast?_concat
abbrev gT:=@List.mem_filter
abbrev gU:=@List.replicate_succ
abbrev gW:=@List.perm_append_comm_assoc
abbrev gX:=@Nat.succ.inj
abbrev gY:=@List.map_id'
abbrev gZ:=@if_false
abbrev g9:=@PySem.wpAny_typeOf
abbrev Ga:=@PySem.F.excBase_ValueError
abbrev Gb:=@PySem.codeAny_call_builtin
abbrev Ge:=@List.findIdx?_cons
abbrev Gf:=@PySem.W.kitx_list
abbrev Gg:=@PySem.W.kitx_dict
abbrev Gh:=@if_true
abbrev Gi:=@Option.some.injEq
abbrev Gj:=@List.nodup_append
abbrev Gk:=@PySem.F.args_tuple_add_2
abbrev Gm:=@Bool.false_or
abbrev Gn:=@PySem.F.args_str_split_2
abbrev Gp:=@Bool.true_and
abbrev Gq:=@List.mem_of_mem_eraseIdx
abbrev Gr:=@PySem.F.entry_tuple_add
abbrev Gs:=@Option.getD_none
abbrev Gu:=@Nat.toDigits_of_lt_base
abbrev Gv:=@List.all_eq_true
abbrev Gw:=@PySem.F.entry_str_split
abbrev Gx:=@List.getElem?_cons_succ
abbrev Gy:=@List.not_mem_nil
abbrev Gz:=@Int.eq_natAbs_of_nonneg
abbrev GA:=@PySem.noFill_tuple_add
abbrev GB:=@PySem.F.slot_tuple_add
abbrev GC:=@List.map_set
abbrev GD:=@PySem.F.plainAttrs_str
abbrev GF:=@List.of_mem_zip
abbrev GG:=@PySem.Heap.Ns.of_isNs
abbrev GH:=@Nat.ble_eq_true_of_le
abbrev GI:=@List.Perm.append_left
abbrev GJ:=@PySem.W.looks_findIn
abbrev GK:=@PySem.pick_run
abbrev GL:=@List.mem_of_mem_drop
noncomputable abbrev GN:=@PySem.plainObj_wpAny_Assign_Attribute
abbrev GO:=@List.filterMap_cons
abbrev GP:=@Array.length_toList
abbrev GQ:=@PySem.W.plainGet_of
abbrev GR:=@PySem.seq_tuple_add
abbrev GS:=@PySem.W.looks_mroIn
abbrev GU:=@PySem.strLen_append
abbrev GV:=@List.reverse_append
abbrev GW:=@PySem.W.callWith_K0
abbrev GX:=@List.length_reverse
noncomputable abbrev GY:=@PyProof.Rows.subscriptTail_builtinR
abbrev GZ:=@List.map_take
abbrev G0:=@List.map_drop
abbrev G1:=@PySem.concat_meets
abbrev G2:=@PySem.seqIndex_neg
abbrev G3:=@Bool.false_eq_true
abbrev G4:=@PySem.W.isNs_of_in
abbrev G5:=@List.getElem?_drop
abbrev G6:=@decide_eq_true_iff
abbrev G7:=@Nat.ne_of_gt
noncomputable abbrev G8:=@PyProof.Rows.entry_tuple_getitem
abbrev G9:=@PySem.seqIndex_of
abbrev hJ:=@Bool.not_eq_true'
abbrev hU:=@Bool.or_true
abbrev hV:=@Option.isSome_map
abbrev hX:=@List.set_set
noncomputable abbrev hZ:=@PyProof.Rows.args_tuple_getitem
noncomputable abbrev Ha:=@List.eraseIdxIfInBounds_toArray
noncomputable abbrev Hb:=@PySem.codeAny_call_builtin_code
abbrev Hc:=@PySem.wpAny_check_type_call_sub
abbrev He:=@PySem.wpAny_Name
abbrev Hf:=@PySem.W.any_some
abbrev Hg:=@List.take_length
abbrev Hh:=@Nat.succ_lt_succ
abbrev Hi:=@List.drop_length
abbrev Hj:=@List.mem_flatten
abbrev Hk:=@PySem.wpAny_callSpecial?_slot
abbrev Hl:=@PySem.codeAny_call_builtin_at
abbrev Hm:=@Int.mul_le_mul_of_nonneg_left
abbrev Hn:=@Array.getElem?_setIfInBounds
abbrev Ho:=@List.append_inj
abbrev Hq:=@Nat.not_lt_zero
abbrev Hr:=@List.cons.injEq
abbrev Hs:=@Nat.min_eq_left
abbrev Ht:=@List.filter_map
abbrev Hu:=@PyProof.Rows.slicePart_none
abbrev Hv:=@PySem.wpAny_typeLookup_tail
abbrev Hw:=@PyProof.Rows.joinParts_cons
abbrev Hx:=@PySem.wpAny_loadName_local
abbrev Hy:=@Bool.false_and
abbrev Hz:=@PyProof.Rows.tupleItemsOf_
abbrev HA:=@PySem.wpAny_check_new_subT
abbrev HB:=@PySem.codeAny_exc_new_subT
abbrev HC:=@List.drop_drop
abbrev HD:=@PySem.wpAny_loadName_cell
abbrev HE:=@PySem.Heap.SameBut.update
abbrev HF:=@PySem.Heap.get?_update_ne
abbrev HG:=@Prod.mk.injEq
abbrev HH:=@List.getElem?_take_of_lt
abbrev HI:=@PySem.Obj.data_mapFields
abbrev HJ:=@PyProof.Rows.isTrue_and
abbrev HL:=@PySem.wpAny_assign_Name
abbrev HM:=@PyProof.Rows.boot_range
abbrev HN:=@PySem.Heap.Ns1.of_empty
abbrev HP:=@List.getElem?_replicate
abbrev HQ:=@PySem.wpAny_sequenceKey
abbrev HR:=@PySem.slot_list_getitem
abbrev HS:=@PySem.F.attr_ValueError
abbrev HU:=@PySem.wpAny_pyIter_enum
abbrev HV:=@List.length_eq_zero_iff
abbrev HW:=@PySem.wpAny_pyIter_list
set_option Elab.async false
set_option linter.all false
set_option maxRecDepth 100000
set_option maxHeartbeats 0
noncomputable abbrev Lj:=PySem.Value->PySem.Shared->Prop
def aA {p:Prop}(h:p:=by decide):p:=h
def aB {p:Prop}(h:p:=by lia):p:=h
def aC {p:Prop}(h:p:=by rfl):p:=h
def aD {p:Prop}(h:p:=by simp):p:=h
def aE {p:Prop}(h:p:=by decide +kernel):p:=h
def aF {p:Prop}(h:p:=by walk_at "sc"):p:=h
local macro_rules | `(tactic|let $p:term:=$v)=>do
  let rec c (n:Nat)(s:Lean.Syntax):Lean.MacroM (Lean.TSyntax `rcasesPat):=match n with
    | 0=>Lean.Macro.throwUnsupported
    | n+1=>match s with
      | `(⟨$x,*⟩)=>do
        let y<-x.getElems.mapM λx=>do let y<-c n x;`(Lean.Parser.Tactic.rcasesPatLo|$y:rcasesPat)
        `(rcasesPat|⟨$y,*⟩)
      | `(_)=>`(rcasesPat|_)
      | `($i:ident)=>`(rcasesPat|$i:ident)
      | _=>Lean.Macro.throwUnsupported
  if p.raw.isIdent then Lean.Macro.throwUnsupported
  let q<-c 9 p
  let m<-`(Lean.Parser.Tactic.rcasesPatMed|$q:rcasesPat)
  `(tactic|obtain $m:rcasesPatMed:=$v)
noncomputable section
namespace PySem.W.Fast
noncomputable def tw13101792642253617848:PySem.Program:=PySem.Challenge.pw_sealpress_k52_the_first_refusal
theorem te13101792642253617848:PySem.Challenge.pw_sealpress_k52_the_first_refusal=tw13101792642253617848:=rfl
end PySem.W.Fast
namespace L2
open PySem PySem.W
def i9 {p q:Program}{loose:Lh}{Xt:Shared->Bool}{α:Type}{Yf:Shared->α}{Ya:World->α}{N M m0:Nat}{ann:Option Value}{H0:Params->Heap}{g0:Array GenState}{d0:Drawn}{k0:Nat}
  (hb:∀ w:World,(fencedOpening treeTable p w N).map (λs=>(s.heap,s.gens,s.drawn,s.toks))=some (H0 w.params,g0,d0,k0))
  (hz:∀ w:World,((H0 w.params).isNs mainGlobals&&g0.size == 0,(H0 w.params).objs.size,(H0 w.params).nsMap mainGlobals "__annotations__")=(true,m0,ann))
  (hr:∀ (w:World) (os:OsState),∃ s:Shared,topRun treeTable p w m0 ann M ⟨H0 w.params,g0,d0,k0,os⟩ (topStub p)=some s /\
   (staticsOk (importedModules p.main.body) (H0 w.params) s.heap&&namesBound p s.heap&&gensDone s&&laidKept (H0 w.params) s.heap)=true/\openSeen q loose (importedModules p.main.body) Xt true s=openGood q loose/\Yf s=Ya w)
  (hn:M<=N):LeftO p q loose Xt Yf Ya N:=λw=>by
 let⟨s0,e,e'⟩:=uM.mp (hb w)
 let⟨h,gs,d,k,os⟩:=s0
 simp only[HG] at e'
 let⟨rfl,rfl,rfl,rfl⟩:=e'
 let⟨s,r,l1,l2,l3⟩:=hr w os
 have z:=hz w
 simp only[HG] at z
 let⟨z1,z2,z3⟩:=z
 let⟨x,rfl⟩:=Nat.exists_eq_add_of_le hn
 have r':=topRun_mono x _ _ _ _ r
 have t:topFrom treeTable p w (M+x) ⟨H0 w.params,gs,d,k,os⟩=some s:=by
  unfold topFrom
  simp only[z1,z2,z3,r',u7,l1]
 unfold openEnds
 rw[e,u7,t,US,l2,l3]
end L2
namespace My
open PySem PySem.W
noncomputable abbrev pw:Program:=PySem.Challenge.pw_sealpress_k52_the_first_refusal
noncomputable def tp (i:Nat):Stmt:=pw.main.body.getD i (.Pass ⟨0,0,0,0⟩)
noncomputable def tc (i j:Nat):Stmt:=match tp i with
 | .ClassDef _ _ _ body _ _ _ _ _ _ _=>body.getD j (.Pass ⟨0,0,0,0⟩)
 | _=>.Pass ⟨0,0,0,0⟩
noncomputable def Fx (s:Stmt)(nm q:Str)(g:Addr)(cl:List (Str×Addr))(df kd dc pm:Value)(an:Option Addr)(cd ct:Value)(bl:Addr):Data:=match s with
 | .FunctionDef _ a b _ _ _ sc _ _ _=>.func ⟨nm,q,a,.stmts b,sc,g,cl,df,kd,dc,pm,an,cd,ct,bl⟩
 | _=>.plain
noncomputable def en (P:Params)(k:Str)(t:Nat)(v:Value):DictEntry:=⟨PyData.keyHash P k,.str k t,v⟩
noncomputable def cM (n q:Str)(a:Nat)(l g:Int)(r b:Addr)(x y z w:Value)(t:Int)(u:Nat):Obj:=⟨.type "code",none,.fields #[.str n a,.str q (a+1),.str "/claim/cut.py" (a+2),.int l 0,.int g 0,.int 0 0,.int 0 0,.int 3 0,.ref r,.bool true,.int 181 0,.ref b,x,y,z,w,.int t 0,.int l 0,.str "/claim/cut.py" u],#[]⟩
noncomputable def cS (n q:Str)(a:Nat)(l g:Int)(r:Addr)(t:Nat):Obj:=cM n q a l g r (r+1) .none (.ref (r+2)) (.ref (r+3)) (.ref (r+4)) t (t+1)
def fM (i j:Nat)(n q:Str)(m:Value)(c:Addr):Obj:=⟨.type "function",none,Fx (tc i j) n q 3 [] .none .none .none m none (.ref c) .none 0,#[]⟩
noncomputable def kO (n:Str)(b r:Lf)(d:Addr)(s:Lf)(x:Addr)(i j:Nat):Obj:=⟨.type "type",none,.cls ⟨n,b,r,d,n,true,[],s,false,none,false⟩,#[some (.ref x),none,some (.str n i),some (.str n j),some (.builtin "ValueError.__new__"),some (.bool true)]⟩
noncomputable def dO (a:Array DictEntry)(n:Nat):Obj:=⟨.type "dict",none,.dict a n,#[]⟩
noncomputable def er (P:Params)(k:Str)(t:Nat)(a:Addr):DictEntry:=en P k t (.ref a)
noncomputable abbrev Fg:Value:=(.str "sealpress.pieces" 423)
noncomputable abbrev tG:Value:=(.str "sealpress.signs" 441)
noncomputable abbrev cT:Value:=(.str "sealpress.sheets" 464)
noncomputable abbrev bS:Value:=(.str "law_sealpress_k52_the_first_refusal" 703)
noncomputable abbrev eK:Value:=(.str "sealpress.errors" 187)
noncomputable def fO (i:Nat)(n:Str)(m:Value)(c:Addr):Obj:=⟨.type "function",none,Fx (tp i) n n 3 [] .none .none .none m none (.ref c) .none 0,#[]⟩
noncomputable def o11 (_:Params):Obj:={ cls:=.type "tuple",data:=.seq #[] }
noncomputable def o12 (_:Params):Obj:={ cls:=.none,data:=.fields #[] }
noncomputable def o13 (_:Params):Obj:={ cls:=.type "code",data:=.fields #[.str "<module>" 182,.str "<module>" 183,.str "/claim/cut.py" 184,.int 1 0,.int 0 0,.int 0 0,.int 0 0,.int 0 0,.ref 11,.bool false,.int 181 0,.ref 12,.none,.none,.none,.none,.int 185 0,.int 1 0,.str "/claim/cut.py" 186] }
noncomputable def o14 (_:Params):Obj:={ cls:=.type "frame",slots:=#[some (.ref 13),some (.ref 3),some (.ref 3),none,some (.str "__main__" 164),none,some (.ref 0)] }
def x0 (P:Params):Obj:=dO #[en P "__name__" 165 bS,en P "__doc__" 166 .none,en P "__package__" 167 .none,en P "__loader__" 168 (.builtin "__main__.__loader__#opaque"),en P "__spec__" 169 .none,er P "__annotations__" 170 6,er P "__builtins__" 171 4,en P "__file__" 173 (.str "/claim/cut.py" 172),en P "__cached__" 174 .none,er P "SealError" 206 24,er P "NoSign" 231 44,er P "NoCode" 256 63,er P "Unread" 281 82,er P "NoName" 306 101,er P "NoSheet" 331 120,er P "Twice" 356 139,er P "TooMany" 372 151,er P "Unknown" 397 170,er P "NoElder" 422 189,er P "copied" 430 196,er P "all_in" 440 203,en P "SIGNS" 444 (.str " !\"#$&'()*+,-./0123456789:;<=>?@ABCDEFGHIJKLMNOPQRSTUVWXYZ[\\]^_`abcdefghijklmnopqrstuvwxyz{|}~" 443),en P "LETTERS" 446 (.str "abcdefghijklmnopqrstuvwxyz" 445),en P "LONGEST_NAME" 448 (.int 8 447),er P "is_name" 454 208,er P "need_text" 463 215,en P "MOST_SIGNS" 467 (.int 2000 466),en P "MOST_OPENED" 469 (.int 12 468),er P "BRACE_WORDS" 478 216,er P "LONE_TOKENS" 496 217,er P "OPENERS" 500 223,er P "Sheet" 537 245,er P "Opened" 592 287,er P "Draft" 667 343,er P "is_own_name" 674 354,er P "token_of" 682 361,er P "token_at" 692 368,er P "sheet_read" 702 375,er P "_law_cell_at" 712 382,er P "_law_mixed" 723 389,er P "_law_rest" 730 396,er P "_law_signs" 737 403,er P "_law_names" 756 410,er P "_law_put" 765 417,er P "_law_shut" 775 424,er P "_law_literal" 787 431,er P "_law_opened" 799 438,er P "_law_word" 805 443,er P "_law_token" 817 450,er P "_law_made" 830 457,er P "_law_stack" 840 464,er P "_law_named" 846 469,er P "_law_odd" 852 474,er P "_law_wrong" 858 479,er P "_law_refused" 866 486,er P "_law_is" 874 493,er P "_law_other" 885 500,er P "_law_full" 891 505,er P "_law_cut" 897 510,er P "law" 917 517] 60
def _root_.PySem.W.Fast.tw4752819795712237882:=@x0
def _root_.PySem.W.Fast.te4752819795712237882:@x0=@_root_.PySem.W.Fast.tw4752819795712237882:=rfl
noncomputable def x1:Obj:=⟨(.type "tuple"),none,(.seq #[(.type "ValueError")] 0),#[]⟩
noncomputable def x2:Obj:=⟨(.type "tuple"),none,(.seq #[] 0),#[]⟩
def x3 (P:Params):Obj:=dO #[en P "__module__" 196 eK,en P "__firstlineno__" 200 (.int 2 199),er P "__static_attributes__" 201 22,er P "__weakref__" 203 25,en P "__doc__" 204 .none] 3
noncomputable def x4:Obj:=kO "SealError" [(.type "ValueError")] [(.ref 24),(.type "ValueError"),(.type "Exception"),(.type "BaseException"),(.type "object")] 23 [(.ref 44),(.ref 63),(.ref 82),(.ref 101),(.ref 120),(.ref 139),(.ref 151),(.ref 170),(.ref 189)] 15 189 197
noncomputable def x5:Obj:=⟨(.type "getset_descriptor"),none,(.fields #[(.str "__weakref__" 202),(.ref 24),(.builtin "ExceptionGroup.__weakref__"),.none]),#[]⟩
def x6:Obj:=cS "__init__" "NoSign.__init__" 219 6 2 35 224
def x7:Obj:=fM 2 0 "__init__" "NoSign.__init__" eK 40
def x8 (P:Params):Obj:=dO #[en P "__module__" 214 eK,en P "__firstlineno__" 218 (.int 4 217),er P "__init__" 226 41,er P "__static_attributes__" 228 42,en P "__doc__" 229 .none] 2
noncomputable def x9:Obj:=kO "NoSign" [(.ref 24)] [(.ref 44),(.ref 24),(.type "ValueError"),(.type "Exception"),(.type "BaseException"),(.type "object")] 43 [] 28 207 215
def x10 (P:Params):Obj:=dO #[en P "__module__" 239 eK,en P "__firstlineno__" 243 (.int 9 242),er P "__init__" 251 60,er P "__static_attributes__" 253 61,en P "__doc__" 254 .none] 2
noncomputable def x11:Obj:=kO "NoCode" [(.ref 24)] [(.ref 63),(.ref 24),(.type "ValueError"),(.type "Exception"),(.type "BaseException"),(.type "object")] 62 [] 47 232 240
def x12 (P:Params):Obj:=dO #[en P "__module__" 264 eK,en P "__firstlineno__" 268 (.int 14 267),er P "__init__" 276 79,er P "__static_attributes__" 278 80,en P "__doc__" 279 .none] 2
noncomputable def x13:Obj:=kO "Unread" [(.ref 24)] [(.ref 82),(.ref 24),(.type "ValueError"),(.type "Exception"),(.type "BaseException"),(.type "object")] 81 [] 66 257 265
def x14 (P:Params):Obj:=dO #[en P "__module__" 289 eK,en P "__firstlineno__" 293 (.int 19 292),er P "__init__" 301 98,er P "__static_attributes__" 303 99,en P "__doc__" 304 .none] 2
noncomputable def x15:Obj:=kO "NoName" [(.ref 24)] [(.ref 101),(.ref 24),(.type "ValueError"),(.type "Exception"),(.type "BaseException"),(.type "object")] 100 [] 85 282 290
def x16:Obj:=cS "__init__" "NoSheet.__init__" 319 26 2 111 324
def x17:Obj:=fM 6 0 "__init__" "NoSheet.__init__" eK 116
def x18 (P:Params):Obj:=dO #[en P "__module__" 314 eK,en P "__firstlineno__" 318 (.int 24 317),er P "__init__" 326 117,er P "__static_attributes__" 328 118,en P "__doc__" 329 .none] 2
noncomputable def x19:Obj:=kO "NoSheet" [(.ref 24)] [(.ref 120),(.ref 24),(.type "ValueError"),(.type "Exception"),(.type "BaseException"),(.type "object")] 119 [] 104 307 315
def x20:Obj:=cS "__init__" "Twice.__init__" 344 31 2 130 349
def x21:Obj:=fM 7 0 "__init__" "Twice.__init__" eK 135
def x22 (P:Params):Obj:=dO #[en P "__module__" 339 eK,en P "__firstlineno__" 343 (.int 29 342),er P "__init__" 351 136,er P "__static_attributes__" 353 137,en P "__doc__" 354 .none] 2
noncomputable def x23:Obj:=kO "Twice" [(.ref 24)] [(.ref 139),(.ref 24),(.type "ValueError"),(.type "Exception"),(.type "BaseException"),(.type "object")] 138 [] 123 332 340
def x24 (P:Params):Obj:=dO #[en P "__module__" 364 eK,en P "__firstlineno__" 368 (.int 34 367),er P "__static_attributes__" 369 149,en P "__doc__" 370 .none] 2
noncomputable def x25:Obj:=kO "TooMany" [(.ref 24)] [(.ref 151),(.ref 24),(.type "ValueError"),(.type "Exception"),(.type "BaseException"),(.type "object")] 150 [] 142 357 365
def x26 (P:Params):Obj:=dO #[en P "__module__" 380 eK,en P "__firstlineno__" 384 (.int 36 383),er P "__init__" 392 167,er P "__static_attributes__" 394 168,en P "__doc__" 395 .none] 2
noncomputable def x27:Obj:=kO "Unknown" [(.ref 24)] [(.ref 170),(.ref 24),(.type "ValueError"),(.type "Exception"),(.type "BaseException"),(.type "object")] 169 [] 154 373 381
def x28 (P:Params):Obj:=dO #[en P "__module__" 405 eK,en P "__firstlineno__" 409 (.int 41 408),er P "__init__" 417 186,er P "__static_attributes__" 419 187,en P "__doc__" 420 .none] 2
noncomputable def x29:Obj:=kO "NoElder" [(.ref 24)] [(.ref 189),(.ref 24),(.type "ValueError"),(.type "Exception"),(.type "BaseException"),(.type "object")] 188 [] 173 398 406
noncomputable def x30:Obj:=cM "copied" "copied" 425 47 1 192 193 .none .none .none (.ref 194) 428 429
def x31:Obj:=fO 12 "copied" Fg 195
noncomputable def x32:Obj:=cM "is_name" "is_name" 449 64 1 204 205 .none .none .none (.ref 206) 452 453
def x33:Obj:=fO 18 "is_name" tG 207
def x34:Obj:=cS "need_text" "need_text" 455 68 1 209 461
def x35:Obj:=fO 19 "need_text" tG 214
noncomputable def x36:Obj:=⟨(.type "tuple"),none,(.seq #[(.str "each" 470),(.str "if" 471),(.str "else" 472),(.str "end" 473),(.str "block" 474),(.str "elder" 475),(.str "draw" 476),(.str "over" 477)] 0),#[]⟩
def x37 (P:Params):Obj:=dO #[er P "(" 479 218,er P ")" 482 219,er P "else" 485 220,er P "end" 487 221,er P "elder" 489 222] 5
noncomputable def x38:Obj:=⟨(.type "tuple"),none,(.seq #[(.str "lit" 480),(.str "{" 481)] 0),#[]⟩
noncomputable def x39:Obj:=⟨(.type "tuple"),none,(.seq #[(.str "lit" 483),(.str "}" 484)] 0),#[]⟩
noncomputable def x40:Obj:=⟨(.type "tuple"),none,(.seq #[(.str "else" 486)] 0),#[]⟩
noncomputable def x41:Obj:=⟨(.type "tuple"),none,(.seq #[(.str "end" 488)] 0),#[]⟩
noncomputable def x42:Obj:=⟨(.type "tuple"),none,(.seq #[(.str "elder" 490)] 0),#[]⟩
noncomputable def x43:Obj:=⟨(.type "tuple"),none,(.seq #[(.str "each" 497),(.str "if" 498),(.str "block" 499)] 0),#[]⟩
def x44:Obj:=cS "__init__" "Sheet.__init__" 513 83 3 231 519
def x45:Obj:=fM 26 0 "__init__" "Sheet.__init__" cT 236
def x46 (P:Params):Obj:=dO #[en P "__module__" 508 cT,en P "__firstlineno__" 512 (.int 81 511),er P "__init__" 521 237,er P "blocks" 527 242,er P "__static_attributes__" 530 243,er P "__dict__" 532 246,er P "__weakref__" 534 247,en P "__doc__" 535 .none] 4
noncomputable def x47:Obj:=⟨(.type "type"),none,(.cls ⟨"Sheet",[(.type "object")],[(.ref 245),(.type "object")],244,"Sheet",true,[],[],false,none,false⟩),#[none,none,(some (.str "Sheet" 501)),(some (.str "Sheet" 509)),(some (.builtin "object.__new__")),(some (.bool true))]⟩
def x48:Obj:=cS "__init__" "Opened.__init__" 550 91 3 257 556
def x49:Obj:=fM 27 0 "__init__" "Opened.__init__" cT 262
def x50:Obj:=cS "add_piece" "Opened.add_piece" 559 96 2 264 565
def x51:Obj:=fM 27 1 "add_piece" "Opened.add_piece" cT 269
def x52:Obj:=cS "takes_else" "Opened.takes_else" 568 103 1 271 572
def x53:Obj:=fM 27 2 "takes_else" "Opened.takes_else" cT 276
def x54:Obj:=cS "whole" "Opened.whole" 575 106 1 278 579
def x55:Obj:=fM 27 3 "whole" "Opened.whole" cT 283
def x56 (P:Params):Obj:=dO #[en P "__module__" 545 cT,en P "__firstlineno__" 549 (.int 89 548),er P "__init__" 558 263,er P "add_piece" 567 270,er P "takes_else" 574 277,er P "whole" 581 284,er P "__static_attributes__" 585 285,er P "__dict__" 587 288,er P "__weakref__" 589 289,en P "__doc__" 590 .none] 4
noncomputable def x57:Obj:=⟨(.type "type"),none,(.cls ⟨"Opened",[(.type "object")],[(.ref 287),(.type "object")],286,"Opened",true,[],[],false,none,false⟩),#[none,none,(some (.str "Opened" 538)),(some (.str "Opened" 546)),(some (.builtin "object.__new__")),(some (.bool true))]⟩
def x58:Obj:=cS "__init__" "Draft.__init__" 605 112 1 299 609
def x59:Obj:=fM 28 0 "__init__" "Draft.__init__" cT 304
def x60:Obj:=cS "is_outside" "Draft.is_outside" 612 117 1 306 616
def x61:Obj:=fM 28 1 "is_outside" "Draft.is_outside" cT 311
def x62:Obj:=cS "can_stand" "Draft.can_stand" 619 120 3 313 626
def x63:Obj:=fM 28 2 "can_stand" "Draft.can_stand" cT 318
def x64:Obj:=cS "begin_piece" "Draft.begin_piece" 629 134 3 320 635
def x65:Obj:=fM 28 3 "begin_piece" "Draft.begin_piece" cT 325
def x66:Obj:=cS "take" "Draft.take" 638 143 3 327 646
def x67:Obj:=fM 28 4 "take" "Draft.take" cT 332
def x68:Obj:=cS "ended" "Draft.ended" 649 159 2 334 654
def x69:Obj:=fM 28 5 "ended" "Draft.ended" cT 339
def x70 (P:Params):Obj:=dO #[en P "__module__" 600 cT,en P "__firstlineno__" 604 (.int 110 603),er P "__init__" 611 305,er P "is_outside" 618 312,er P "can_stand" 628 319,er P "begin_piece" 637 326,er P "take" 648 333,er P "ended" 656 340,er P "__static_attributes__" 660 341,er P "__dict__" 662 344,er P "__weakref__" 664 345,en P "__doc__" 665 .none] 4
noncomputable def x71:Obj:=⟨(.type "type"),none,(.cls ⟨"Draft",[(.type "object")],[(.ref 343),(.type "object")],342,"Draft",true,[],[],false,none,false⟩),#[none,none,(some (.str "Draft" 593)),(some (.str "Draft" 601)),(some (.builtin "object.__new__")),(some (.bool true))]⟩
def x72:Obj:=cS "is_own_name" "is_own_name" 668 163 1 348 672
def x73:Obj:=fO 29 "is_own_name" cT 353
def x74:Obj:=cS "token_of" "token_of" 675 165 1 355 680
def x75:Obj:=fO 30 "token_of" cT 360
def x76:Obj:=cS "token_at" "token_at" 683 176 2 362 690
def x77:Obj:=fO 31 "token_at" cT 367
def x78:Obj:=cS "sheet_read" "sheet_read" 693 186 1 369 700
def x79:Obj:=fO 32 "sheet_read" cT 374
def x80:Obj:=cS "_law_cell_at" "_law_cell_at" 705 198 2 376 710
def x81:Obj:=fO 34 "_law_cell_at" bS 381
def x82:Obj:=cS "_law_mixed" "_law_mixed" 713 202 2 383 721
def x83:Obj:=fO 35 "_law_mixed" bS 388
def x84:Obj:=cS "_law_rest" "_law_rest" 724 207 1 390 728
def x85:Obj:=fO 36 "_law_rest" bS 395
def x86:Obj:=cS "_law_signs" "_law_signs" 731 211 0 397 735
def x87:Obj:=fO 37 "_law_signs" bS 402
def x88:Obj:=cS "_law_names" "_law_names" 738 214 2 404 754
def x89:Obj:=fO 38 "_law_names" bS 409
def x90:Obj:=cS "_law_put" "_law_put" 757 233 2 411 763
def x91:Obj:=fO 39 "_law_put" bS 416
def x92:Obj:=cS "_law_shut" "_law_shut" 766 238 1 418 773
def x93:Obj:=fO 40 "_law_shut" bS 423
def x94:Obj:=cS "_law_literal" "_law_literal" 776 243 2 425 785
def x95:Obj:=fO 41 "_law_literal" bS 430
def x96:Obj:=cS "_law_opened" "_law_opened" 788 255 4 432 797
def x97:Obj:=fO 42 "_law_opened" bS 437
noncomputable def x98:Obj:=cM "_law_word" "_law_word" 800 264 4 439 440 .none .none .none (.ref 441) 803 804
def x99:Obj:=fO 43 "_law_word" bS 442
def x100:Obj:=cS "_law_token" "_law_token" 806 283 5 444 815
def x101:Obj:=fO 44 "_law_token" bS 449
def x102:Obj:=cS "_law_made" "_law_made" 818 292 2 451 828
def x103:Obj:=fO 45 "_law_made" bS 456
def x104:Obj:=cS "_law_stack" "_law_stack" 831 303 1 458 838
def x105:Obj:=fO 46 "_law_stack" bS 463
noncomputable def x106:Obj:=cM "_law_named" "_law_named" 841 314 1 465 466 .none .none .none (.ref 467) 844 845
def x107:Obj:=fO 47 "_law_named" bS 468
noncomputable def x108:Obj:=cM "_law_odd" "_law_odd" 847 316 1 470 471 .none .none .none (.ref 472) 850 851
def x109:Obj:=fO 48 "_law_odd" bS 473
noncomputable def x110:Obj:=cM "_law_wrong" "_law_wrong" 853 324 3 475 476 .none .none .none (.ref 477) 856 857
def x111:Obj:=fO 49 "_law_wrong" bS 478
def x112:Obj:=cS "_law_refused" "_law_refused" 859 349 1 480 864
def x113:Obj:=fO 50 "_law_refused" bS 485
def x114:Obj:=cS "_law_is" "_law_is" 867 365 2 487 872
def x115:Obj:=fO 51 "_law_is" bS 492
def x116:Obj:=cS "_law_other" "_law_other" 875 369 3 494 883
def x117:Obj:=fO 52 "_law_other" bS 499
noncomputable def x118:Obj:=cM "_law_full" "_law_full" 886 377 2 501 502 .none .none .none (.ref 503) 889 890
def x119:Obj:=fO 53 "_law_full" bS 504
noncomputable def x120:Obj:=cM "_law_cut" "_law_cut" 892 385 2 506 507 .none .none .none (.ref 508) 895 896
def x121:Obj:=fO 54 "_law_cut" bS 509
def x122:Obj:=cS "law" "law" 898 390 1 511 915
def x123:Obj:=fO 55 "law" bS 516
def kh0 (P:Params):Le:=[(2,boot_o_2 P),(3,x0 P),(15,x1),(22,x2),(23,x3 P),(24,x4),(25,x5),(40,x6),(41,x7),(43,x8 P),(44,x9),(62,x10 P)]
def kh1 (P:Params):Le:=[(63,x11),(81,x12 P),(82,x13),(100,x14 P),(101,x15),(116,x16),(117,x17),(119,x18 P),(120,x19),(135,x20),(136,x21),(138,x22 P)]
def kh2 (P:Params):Le:=[(139,x23),(150,x24 P),(151,x25),(169,x26 P),(170,x27),(188,x28 P),(189,x29),(195,x30),(196,x31),(207,x32),(208,x33),(214,x34)]
def kh3 (P:Params):Le:=[(215,x35),(216,x36),(217,x37 P),(218,x38),(219,x39),(220,x40),(221,x41),(222,x42),(223,x43),(236,x44),(237,x45),(244,x46 P)]
def kh4 (P:Params):Le:=[(245,x47),(262,x48),(263,x49),(269,x50),(270,x51),(276,x52),(277,x53),(283,x54),(284,x55),(286,x56 P),(287,x57),(304,x58)]
def kh5 (P:Params):Le:=[(305,x59),(311,x60),(312,x61),(318,x62),(319,x63),(325,x64),(326,x65),(332,x66),(333,x67),(339,x68),(340,x69),(342,x70 P)]
def kh6 (P:Params):Le:=[(343,x71),(353,x72),(354,x73),(360,x74),(361,x75),(367,x76),(368,x77),(374,x78),(375,x79),(381,x80),(382,x81),(388,x82)]
def kh7 (P:Params):Le:=[(389,x83),(395,x84),(396,x85),(402,x86),(403,x87),(409,x88),(410,x89),(416,x90),(417,x91),(423,x92),(424,x93),(430,x94)]
def kh8 (P:Params):Le:=[(431,x95),(437,x96),(438,x97),(442,x98),(443,x99),(449,x100),(450,x101),(456,x102),(457,x103),(463,x104),(464,x105),(468,x106)]
def kh9 (P:Params):Le:=[(469,x107),(473,x108),(474,x109),(478,x110),(479,x111),(485,x112),(486,x113),(492,x114),(493,x115),(499,x116),(500,x117),(504,x118)]
def Bt (P:Params):Le:=[(505,x119),(509,x120),(510,x121),(516,x122),(517,x123)]
def Pz (P:Params):Le:=kh0 P++(kh1 P++(kh2 P++(kh3 P++(kh4 P++(kh5 P++(kh6 P++(kh7 P)))))))
def Py (P:Params):Le:=kh8 P++(kh9 P++(Bt P))
def KH (P:Params):Le:=Pz P++(Py P)
noncomputable def BS:Ld:=[2,3,15,22,23,24,25,40,41,43,44,62,63,81,82,100,101,116,117,119,120,135,136,138,139,150,151,169,170,188,189,195,196,207,208,214,215,216,217,218,219,220,221,222,223,236,237,244,245,262,263,269,270,276,277,283,284,286,287,304,305,311,312,318,319,325,326,332,333,339,340,342,343,353,354,360,361,367,368,374,375,381,382,388,389,395,396,402,403,409,410,416,417,423,424,430,431,437,438,442,443,449,450,456,457,463,464,468,469,473,474,478,479,485,486,492,493,499,500,504,505,509,510,516,517]
def II (P:Params):BS=(KH P).map (λp=>p.1):=by kernel_rfl
@[reducible] def HK:Hook:=kHook KH BS II
noncomputable def rj (s:Shared):List (Option Obj):=BS.map s.heap.get?
def pd (w:World):List (Option Obj):=(KH w.params).map λp=>some p.2
noncomputable def tb0 (P:Params):BT:=.node (boot_o_0 P) (.node (boot_o_1 P) (.node (boot_o_3 P) (.node (boot_o_7 P) .nil .nil) (.node (o11 P) .nil .nil)) (.node (boot_o_5 P) (.node (boot_o_9 P) .nil .nil) (.node (o13 P) .nil .nil))) (.node (boot_o_2 P) (.node (boot_o_4 P) (.node (boot_o_8 P) .nil .nil) (.node (o12 P) .nil .nil)) (.node (boot_o_6 P) (.node (boot_o_10 P) .nil .nil) (.node (o14 P) .nil .nil)))
def sB (w:World)(os:OsState):SharedT:=⟨tb0 w.params,15,{},#[],{},187,os⟩
noncomputable def eX:Env:={ scope:=pw.main.scope,locals:=mainNs,globals:=mainNs,cells:=[],code:=.ref 13,frame:=some 14 }
noncomputable def Am:List Stmt:=behindTheImports pw
def cE:Code:=.body Am eX
noncomputable def iH:Pos:=⟨0,0,0,0⟩
def B0:List Frame:=[topFrame iH]
noncomputable def eZ:Option Value:=some (.ref 6)
noncomputable def lG:Program:=view pw [1,2,3,4,5,6,7,8,9,10,12,13,15,16,17,18,19,21,22,23,24,25,26,27,28,29,30,31,32,34,35,36,37,38,39,40,41,42,43,44,45,46,47,48,49,50,51,52,53,54,55]
noncomputable def cZ:Lh:=["LONE_TOKENS"]
noncomputable def mods:Lh:=importedModules pw.main.body
noncomputable def sC (s:Shared):Bool:=xlAt lG [] s&&recOk (RowW.records (OpenRow.toRowW (OpenLaw.row PySem.Challenge.rw_sealpress_k52_the_first_refusal))) s
def Cd (w:World)(r:Flow×SharedT×Code×Pos):=(r.1,r.2.2.1,(staticsOk mods (boot_heap w.params) r.2.1.abs.heap&&namesBound pw r.2.1.abs.heap&&gensDone r.2.1.abs&&laidKept (boot_heap w.params) r.2.1.abs.heap),rj r.2.1.abs)
def IH (r:Flow×SharedT×Code×Pos):=openSeen lG cZ mods sC true r.2.1.abs
def FE:List Stmt:=Am
def lhs (w:World)(os:OsState):=(segRunT treeTable pw w 11 eZ 1 4560 (sB w os) (piecesOf FE eX cE iH B0)).map (Cd w)
def rhs (w:World)(_:OsState):=some (Flow.next,cE,true,pd w)
def i8 (w:World)(os:OsState):=(segRunT treeTable pw w 11 eZ 1 4560 (sB w os) (piecesOf FE eX cE iH B0)).map IH
noncomputable def iY (_:World)(_:OsState):=some (openGood lG cZ)
def IG:@lhs = @lhs:=rfl
def LZ:@rhs = @rhs:=rfl
name_quick lhsQ for My.lhs by My.IG
name_quick rhsQ for My.rhs by My.LZ
def krf (w:World):PySem.W.Fast.lhsQ (w.withFollow "special-get-raises" false)=PySem.W.Fast.rhsQ (w.withFollow "special-get-raises" false):=by kernel_rfl
def krt (w:World):PySem.W.Fast.lhsQ (w.withFollow "special-get-raises" true)=PySem.W.Fast.rhsQ (w.withFollow "special-get-raises" true):=by kernel_rfl
def kr (w:World):PySem.W.Fast.lhsQ w=PySem.W.Fast.rhsQ w:=byRow2 "special-get-raises" (P:=λw=>PySem.W.Fast.lhsQ w=PySem.W.Fast.rhsQ w) krf krt w
def RS (w:World):lhs w=rhs w:=(congrFun PySem.W.Fast.lhsQ_eq w).trans ((kr w).trans (congrFun PySem.W.Fast.rhsQ_eq w).symm)
def Px:@i8 = @i8:=rfl
def Pw:@iY = @iY:=rfl
name_quick lhsGQ for My.i8 by My.Px
name_quick rhsGQ for My.iY by My.Pw
def Br (w:World):PySem.W.Fast.lhsGQ (w.withFollow "special-get-raises" false)=PySem.W.Fast.rhsGQ (w.withFollow "special-get-raises" false):=by kernel_rfl
def Bq (w:World):PySem.W.Fast.lhsGQ (w.withFollow "special-get-raises" true)=PySem.W.Fast.rhsGQ (w.withFollow "special-get-raises" true):=by kernel_rfl
def krG (w:World):PySem.W.Fast.lhsGQ w=PySem.W.Fast.rhsGQ w:=byRow2 "special-get-raises" (P:=λw=>PySem.W.Fast.lhsGQ w=PySem.W.Fast.rhsGQ w) Br Bq w
def zdc (w:World):i8 w=iY w:=(congrFun PySem.W.Fast.lhsGQ_eq w).trans ((krG w).trans (congrFun PySem.W.Fast.rhsGQ_eq w).symm)
def l7 (w:World)(os:OsState):=topGo treeTable pw w 11 eZ 12 ⟨boot_heap w.params,#[],boot_drawn,boot_toks,os⟩ (topStub pw)
def lT (w:World)(os:OsState):Option (Shared×Thread):=some ((sB w os).abs,⟨denote treeTable cE,cE,iH,B0⟩)
def NP:@l7 = @l7:=rfl
def NO:@lT = @lT:=rfl
name_quick lhs1Q for My.l7 by My.NP
name_quick rhs1Q for My.lT by My.NO
def kr1 (w:World):PySem.W.Fast.lhs1Q w=PySem.W.Fast.rhs1Q w:=by kernel_rfl
def LY (w:World):l7 w=lT w:=(congrFun PySem.W.Fast.lhs1Q_eq w).trans ((kr1 w).trans (congrFun PySem.W.Fast.rhs1Q_eq w).symm)
def l6 (w:World)(os:OsState):=segRun treeTable pw w 11 eZ 1 1 (sB w os).abs (blockOf Am eX cE iH B0)
def lS (w:World)(os:OsState):Option (Flow×Shared×Code×Pos):=some (.next,(sB w os).abs,cE,iH)
def NN:@l6 = @l6:=rfl
def NM:@lS = @lS:=rfl
name_quick lhs2Q for My.l6 by My.NN
name_quick rhs2Q for My.lS by My.NM
def kr2 (w:World):PySem.W.Fast.lhs2Q w=PySem.W.Fast.rhs2Q w:=by kernel_rfl
def LX (w:World):l6 w=lS w:=(congrFun PySem.W.Fast.lhs2Q_eq w).trans ((kr2 w).trans (congrFun PySem.W.Fast.rhs2Q_eq w).symm)
noncomputable def l5 (w:World):Bool×Nat×Option Value:=((boot_heap w.params).isNs mainGlobals&&(#[]:Array GenState).size == 0,(boot_heap w.params).objs.size,(boot_heap w.params).nsMap mainGlobals "__annotations__")
def NL:@l5 = @l5:=rfl
name_quick lhs3Q for My.l5 by My.NL
def kr3 (w:World):PySem.W.Fast.lhs3Q w=(true,11,eZ):=by kernel_rfl
def LW (w:World):l5 w=(true,11,eZ):=(congrFun PySem.W.Fast.lhs3Q_eq w).trans (kr3 w)
def BF (w:World)(s:Shared)(q:Pos):topRun treeTable pw w 11 eZ 2 s (restOf [] eX cE q B0)=some s:=rfl
def SV (w:World)(os:OsState):∃ s:Shared,topRun treeTable pw w 11 eZ (12+(1+(4560+2))) ⟨boot_heap w.params,#[],boot_drawn,boot_toks,os⟩ (topStub pw)=some s /\ (staticsOk mods (boot_heap w.params) s.heap&&namesBound pw s.heap&&gensDone s&&laidKept (boot_heap w.params) s.heap)=true/\openSeen lG cZ mods sC true s=openGood lG cZ/\rj s=pd w:=by
 let⟨⟨f,s,c,q⟩,hr,hF⟩:=uM.mp (congrFun (RS w) os);unfold Cd at hF;simp only[HG] at hF;let⟨rfl,rfl,h1,h3⟩:=hF;have h2:openSeen lG cZ mods sC true s.abs=openGood lG cZ:=by have hG:=congrFun (zdc w) os;unfold i8 iY at hG;rw[hr,US] at hG;exact uQ hG
 refine⟨s.abs,?_,h1,h2,h3⟩;refine go_top (congrFun (LY w) os) (piece_block (congrFun (LX w) os) ?_);have k:=piece_app (segRun_of hr) (BF w s.abs q);rw[uH] at k;exact k
def LV (w:World):(fencedOpening treeTable pw w 4675).map (λs=>(s.heap,s.gens,s.drawn,s.toks))=some (boot_heap w.params,Array.mk [],boot_drawn,boot_toks):=boot_open (p:=pw) (N:=4675) (by kernel_rfl) (by kernel_rfl) (λ_=>rfl) w
def left:LeftO pw lG cZ sC HK.obs HK.val 4675:=L2.i9 (M:=12+(1+(4560+2))) (m0:=11) (ann:=eZ) LV LW SV aA
end My
set_option maxHeartbeats 1000000
namespace L2
open PySem PySem.Spec PyProof.Rows
noncomputable abbrev Key:=Sum Int Str
def Jx:Key->Value->Bool
 | .inl k,v=>Value.isInt k v
 | .inr x,v=>Value.isStrOf x v
def rQ (w:World):Key->Int
 | .inl k=>hashInt k
 | .inr x=>hashStr w x
theorem qf:∀ {k:Key} {v:Value},Jx k v=true->(∃ i t,k=Sum.inl i/\v=Value.int i t)\/(∃ x t,k=Sum.inr x/\v=Value.str x t)
 | .inl i,v,h=>by let⟨t,e⟩:=Value.isInt_shape (k:=i) (v:=v) h;exact .inl ⟨i,t,rfl,e⟩
 | .inr x,v,h=>by let⟨t,e⟩:=Value.isStrOf_shape (x:=x) (v:=v) h;exact .inr ⟨x,t,rfl,e⟩
def zcg (i:Int)(t:Tok):Jx (.inl i) (.int i t)=true:=by simp[Jx,Value.isInt]
def zch (x:Str)(t:Tok):Jx (.inr x) (.str x t)=true:=by simp[Jx,Value.isStrOf]
def NK (a b:Int):decide ((Sum.inl a:Key)=Sum.inl b)=(a == b):=by
 by_cases e:a=b
 ·subst e;simp
 ·have h:¬ (Sum.inl a:Key)=Sum.inl b:=λq=>e (Sum.inl.inj q);rw[uv h];exact(Ut.mpr e).symm
def NJ (a b:Str):decide ((Sum.inr a:Key)=Sum.inr b)=decide (a=b):=by
 by_cases e:a=b
 ·subst e;simp
 ·have h:¬ (Sum.inr a:Key)=Sum.inr b:=λq=>e (Sum.inr.inj q);rw[uv h,uv e]
def NI (a:Int)(b:Str):decide ((Sum.inl a:Key)=Sum.inr b)=false:=uv (λq=>nomatch q)
def NH (a:Str)(b:Int):decide ((Sum.inr a:Key)=Sum.inl b)=false:=uv (λq=>nomatch q)
def z5 (prog:Program)(w:World):PySem.KeyKind prog w Key where
 is:=Jx
 hash:=rQ w
 inj:=λv a b ha hb=>by
  rcases qf ha with⟨i,t,rfl,rfl⟩ | ⟨x,t,rfl,rfl⟩
  ·rcases qf hb with⟨j,u,rfl,e⟩ | ⟨y,u,rfl,e⟩
   ·injection e with e1 _;rw[e1]
   ·exact nomatch e
  ·rcases qf hb with⟨j,u,rfl,e⟩ | ⟨y,u,rfl,e⟩
   ·exact nomatch e
   ·injection e with e1 _;rw[e1]
 byValue:=λk v h=>by
  rcases qf h with⟨i,t,rfl,rfl⟩ | ⟨x,t,rfl,rfl⟩<;>rfl
 pyHash:=λhv h=>by
  rcases qf hv with⟨i,t,rfl,rfl⟩ | ⟨x,t,rfl,rfl⟩
  ·exact wpAny_pyHash_int h
  ·exact wpAny_pyHash_str h
 eqBool:=λhu hv h=>by
  rcases qf hu with⟨i,t,rfl,rfl⟩ | ⟨x,t,rfl,rfl⟩
  ·rcases qf hv with⟨j,u,rfl,rfl⟩ | ⟨y,u,rfl,rfl⟩
   ·rw[NK] at h;exact wpAny_eqBool_int h
   ·rw[NI] at h;exact SeqAt.EqAt.int_str i t y u _ _ _ _ h
  ·rcases qf hv with⟨j,u,rfl,rfl⟩ | ⟨y,u,rfl,rfl⟩
   ·rw[NH] at h;exact SeqAt.EqAt.str_int x t j u _ _ _ _ h
   ·rw[NJ] at h;exact wpAny_eqBool_str h
 «strs»:=λk x t v h=>by
  rcases qf h with⟨i,u,rfl,e⟩ | ⟨y,u,rfl,e⟩
  ·exact nomatch e
  ·injection e with e1 _
   subst e1
   cases v<;>rfl
def V9 (prog:Program)(w:World)(i:Int)(t:Tok):(z5 prog w).is (.inl i) (.int i t)=true:=zcg i t
def Yb (prog:Program)(w:World)(x:Str)(t:Tok):(z5 prog w).is (.inr x) (.str x t)=true:=zch x t
inductive V where
 | non | bl (b:Bool) | int (i:Int) | str (x:Str) | byt (b:Array UInt8) | flt (b:UInt64) | ref (a:Addr) | ty (n:String)
 deriving DecidableEq
def RelV:V->Value->Prop
 | .non,u=>u=Value.none
 | .bl b,u=>u=Value.bool b
 | .int i,u=>∃ t,u=Value.int i t
 | .str x,u=>∃ t,u=Value.str x t
 | .byt b,u=>∃ t,u=Value.bytes b t
 | .flt b,u=>∃ t,u=Value.float b t
 | .ref a,u=>u=Value.ref a
 | .ty n,u=>u=Value.type n
abbrev Vals:List V->Lf->Prop:=Paired RelV
theorem Vals.length {xs:List V}{us:Lf}(r:Vals xs us):xs.length=us.length:=Paired.length r
theorem Vals.get:∀ {xs:List V} {us:Lf} {i:Nat} {x:V},Vals xs us->xs[i]? = some x->∃ u,us[i]? = some u/\RelV x u
 | _,_,_,_,.nil,e=>by simp at e
 | _,_,0,_,.cons r _,e=>by simp at e;subst e;exact⟨_,rfl,r⟩
 | _,_,i+1,x,.cons _ t,e=>by let⟨u,h1,h2⟩:=Vals.get (i:=i) (x:=x) t (by simpa using e);exact⟨u,by simpa using h1,h2⟩
theorem Vals.set (r:RelV x u):∀ {xs:List V} {us:Lf} (i:Nat),Vals xs us->Vals (xs.set i x) (us.set i u)
 | _,_,_,.nil=>.nil
 | _,_,0,.cons _ t=>.cons r t
 | _,_,i+1,.cons q t=>.cons q (Vals.set r i t)
theorem Vals.append:∀ {xs ys:List V} {us ws:Lf},Vals xs us->Vals ys ws->Vals (xs++ys) (us++ws)
 | _,_,_,_,.nil,s=>s
 | _,_,_,_,.cons r t,s=>.cons r (Vals.append t s)
theorem Vals.take:∀ {xs:List V} {us:Lf} (n:Nat),Vals xs us->Vals (xs.take n) (us.take n)
 | _,_,0,_=>.nil
 | _,_,_+1,.nil=>.nil
 | _,_,n+1,.cons r t=>.cons r (Vals.take n t)
theorem Vals.drop:∀ {xs:List V} {us:Lf} (n:Nat),Vals xs us->Vals (xs.drop n) (us.drop n)
 | _,_,0,r=>r
 | _,_,_+1,.nil=>.nil
 | _,_,n+1,.cons _ t=>Vals.drop n t
def cI:Option V->Option Value->Prop
 | some v,some u=>RelV v u
 | none,none=>True
 | _,_=>False
def KV {κ:Type}:List (κ×V)->List (κ×Value)->Prop:=Paired λ(p:κ×V) (q:κ×Value)=>p.1=q.1/\RelV p.2 q.2
def kV:Key->V
 | .inl i=>.int i
 | .inr x=>.str x
inductive HO where
 | lst (xs:List V)
 | tup (xs:List V)
 | dK (kvs:List (Key×V)) | dT (kvs:List (List Key×V))
 | set (S:Int->Bool) (n:Nat)
 | ins (C dx:Addr) (fs:List (Str×V))
 | own (x:Addr)
 | xd (fs:List (Str×V))
 | met (f x:Addr)
 | rng (lo hi:Int)
 | aV (o:Obj) (u:HO)
 | tbl (ps:Array Value)
 | ext (φ:Heap->Prop)
noncomputable abbrev Hp:=Addr->Option HO
def upd (H:Hp)(a:Addr)(o:HO):Hp:=λb=>if b=a then some o else H b
def zI:upd H a o a=some o:=by unfold upd;rw[uC rfl]
def zp (h:b≠a):upd H a o b=H b:=by unfold upd;rw[ux h]
def LU {H:Hp}{a b:Addr}{o u:HO}(h:H a=some o)(h':H b=some u)(d:o≠u):a≠b:=by intro e;subst e;rw[h] at h';exact d (uQ h')
def wo {H:Hp}{a b:Addr}{o:HO}(h:H a=some o)(h':H b=none):a≠b:=by intro e;subst e;rw[h] at h';cases h'
section
variable (P:Program) (w:World)
def zN (H:Hp)(h:Heap)(a:Addr):HO->Prop
 | .lst xs=>xs.length<=sizeLine/\∃ (its:Lf) (n:Nat),Vals xs its/\h.get? a=some { cls:=.type "list",data:=.seq its.toArray n }
 | .tup xs=>xs.length<=sizeLine/\∃ its:Lf,Vals xs its/\IsTup h a its.toArray
 | .dK kvs=>kvs.length<=sizeLine/\(a == sysModules)=false/\∃ vs,KV kvs vs/\h.DictOf (z5 P w) a vs
 | .dT kvs=>kvs.length<=sizeLine/\(a == sysModules)=false/\∃ xs:List (List Key×Addr×Value),
   Paired (λ(p:List Key×V) (q:List Key×Addr×Value)=>p.1=q.1/\H q.2.1=some (.tup (p.1.map kV))/\RelV p.2 q.2.2) kvs xs /\
   ∃ o es ep,h.get? a=some o/\o.ExactDict/\o.data=.dict es ep/\es.toList=xs.map (entryOfKey (tupleKind (z5 P w)))/\(xs.map (·.1)).Nodup
 | .set S n=>h.SetOf (intKind P w) a S n
 | .ins C dx fs=>H dx=some (.own a)/\fs.length<=1000/\dx≠a/\h.get? a=some (PySem.W.instObj C dx) /\
   ∃ mA,h.Ns1 dx mA/\(∀ f,cI (fs.lookup f) (mA f))/\PySem.Within mA (fs.map (·.1))
 | .own _=>∃ o,h.get? a=some o
 | .xd fs=>∃ mA,h.Ns1 a mA/\∀ f,cI (fs.lookup f) (mA f)
 | .rng lo hi=>∃ t u v,h.get? a=some { cls:=.type "range",data:=.fields #[.int lo t,.int hi u,.int 1 v] }
 | .aV o u=>h.get? a=some o/\zN H h a u
 | .tbl ps=>h.get? a=some { cls:=.none,data:=.fields ps }
 | .met f x=>h.get? a=some (PySem.W.methodObj (.ref f) (.ref x))
 | .ext φ=>φ h/\(∃ o,h.get? a=some o)/\∀ h1 h2:Heap,φ h1->(∀ o,h1.get? a=some o->h2.get? a=some o)->φ h2
def dk (H:Hp)(h:Heap):Prop:=∀ a o,H a=some o->zN P w H h a o
end
section
variable {P:Program} {w:World} {H H':Hp} {h h':Heap} {a:Addr} {o:HO}
theorem zN.lt (x:zN P w H h a o):a<h.objs.size:=by
 cases o with
 | lst xs=>let⟨_,_,_,_,e⟩:=x;exact um e
 | tup xs=>let⟨_,_,_,p⟩:=x;exact p.lt
 | dK kvs=>let⟨_,_,_,_,o,_,_,e,_⟩:=x;exact um e
 | dT kvs=>let⟨_,_,_,_,o,_,_,e,_⟩:=x;exact um e
 | set S n=>let⟨o,_,_,_,e,_⟩:=x;exact um e
 | ins C dx fs=>let⟨_,_,_,e,_⟩:=x;exact um e
 | own y=>let⟨_,e⟩:=x;exact um e
 | xd fs=>let⟨_,⟨_,_,_,e,_⟩,_⟩:=x;exact um e
 | rng lo hi=>let⟨_,_,_,e⟩:=x;exact um e
 | aV ob u=>let⟨e,_⟩:=x;exact um e
 | tbl ps=>exact um (show h.get? a=some _ from x)
 | met f y=>exact um (show h.get? a=some _ from x)
 | ext φ=>let⟨_,⟨_,e⟩,_⟩:=x;exact um e
theorem Paired.mapP {α β:Type}{F G:α->β->Prop}:∀ {l₁:List α} {l₂:List β},Paired F l₁ l₂->(∀ a b,F a b->G a b)->Paired G l₁ l₂
 | _,_,.nil,_=>.nil
 | _,_,.cons r t,f=>.cons (f _ _ r) (Paired.mapP t f)
def zN.stay (x:zN P w H h a o)(k:∀ b u,(b=a\/H b=some (.own a))->h.get? b=some u->h'.get? b=some u) (ho:∀ b,H b=some (.own a)->H' b=some (.own a)) (ht:∀ b xs,H b=some (.tup xs)->H' b=some (.tup xs)):zN P w H' h' a o:=by
 induction o with
 | lst xs=>let⟨z,its,n,r,e⟩:=x;exact⟨z,its,n,r,k _ _ (.inl rfl) e⟩
 | tup xs=>let⟨z,its,r,ob,e,c⟩:=x;exact⟨z,its,r,ob,k _ _ (.inl rfl) e,c⟩
 | dK kvs=>let⟨z,y,vs,r,ob,es,ep,e,c⟩:=x;exact⟨z,y,vs,r,ob,es,ep,k _ _ (.inl rfl) e,c⟩
 | dT kvs=>let⟨z,y,xs,r,ob,es,ep,e,c⟩:=x;exact⟨z,y,xs,Paired.mapP r λp q z=>⟨z.1,ht _ _ z.2.1,z.2.2⟩,ob,es,ep,k _ _ (.inl rfl) e,c⟩
 | set S n=>let⟨ob,es,ep,t,e,c⟩:=x;exact⟨ob,es,ep,t,k _ _ (.inl rfl) e,c⟩
 | ins C dx fs=>let⟨d,z,ne,e,mA,⟨od,es,ep,e2,c⟩,r⟩:=x;exact⟨ho _ d,z,ne,k _ _ (.inl rfl) e,mA,⟨od,es,ep,k _ _ (.inr d) e2,c⟩,r⟩
 | own y=>let⟨ob,e⟩:=x;exact⟨ob,k _ _ (.inl rfl) e⟩
 | xd fs=>let⟨mA,⟨od,es,ep,e,c⟩,r⟩:=x;exact⟨mA,⟨od,es,ep,k _ _ (.inl rfl) e,c⟩,r⟩
 | rng lo hi=>let⟨t,u,v,e⟩:=x;exact⟨t,u,v,k _ _ (.inl rfl) e⟩
 | aV ob u ih=>let⟨e,q⟩:=x;exact⟨k _ _ (.inl rfl) e,ih q⟩
 | tbl ps=>have e:h.get? a=some { cls:=.none,data:=.fields ps }:=x;show h'.get? a=some { cls:=.none,data:=.fields ps };exact k a _ (.inl rfl) e
 | met f y=>have e:h.get? a=some (PySem.W.methodObj (.ref f) (.ref y)):=x;show h'.get? a=some (PySem.W.methodObj (.ref f) (.ref y));exact k a _ (.inl rfl) e
 | ext φ=>let⟨p,⟨o,e⟩,st⟩:=x;exact⟨st _ _ p λo q=>k _ _ (.inl rfl) q,⟨o,k _ _ (.inl rfl) e⟩,st⟩
theorem dk.lt (x:dk P w H h)(e:H a=some o):a<h.objs.size:=(x a o e).lt
def dk.fresh (x:dk P w H h)(e:h.objs.size<=a):H a=none:=by
 cases q:H a with
 | none=>rfl
 | some u=>exact absurd (uI (x.lt q) e) (Uc _)
def dk.kept (x:dk P w H h)(k:∀ b u,h.get? b=some u->h'.get? b=some u):dk P w H h':=λa o e=>
 (x a o e).stay (λb u _ q=>k b u q) (λ_ q=>q) λ_ _ q=>q
def dk.laid (x:dk P w H h)(k:∀ b u,h.get? b=some u->h'.get? b=some u)(hp:h.objs.size<=a)(new:zN P w (upd H a o) h' a o):dk P w (upd H a o) h':=λb u e=>by
 have hn:=x.fresh hp;by_cases hb:b=a
 ·subst hb;rw[zI] at e;cases e;exact new
 ·rw[zp hb] at e;exact(x b u e).stay (λc v _ q=>k c v q) (λc q=>by rw[zp (wo q hn)];exact q) λc xs q=>by rw[zp (wo q hn)];exact q
end
def Rd (H:Hp)(a:Addr)(u:HO):Prop:=H a=some u\/∃ o,H a=some (.aV o u)
def Rd.ok (r:Rd H a u)(x:dk P w H h):zN P w H h a u:=by
 rcases r with r | ⟨o,r⟩
 ·exact x a u r
 ·let⟨_,q⟩:=x a _ r;exact q
def sD:Option HO->Prop
 | some (.lst _)=>True
 | some (.dK _)=>True
 | some (.dT _)=>True
 | some (.set _ _)=>True
 | some (.ins _ _ _)=>True
 | some (.ext _)=>True
 | _=>False
section
variable {P:Program} {w:World} {H:Hp} {h h':Heap} {x e:Addr} {o':HO}
def dk.write (ok:dk P w H h)(mu:sD (H x))(he:e=x\/H e=some (.own x))(k:∀ b u,b≠e->h.get? b=some u->h'.get? b=some u)(heo:∃ u,h'.get? e=some u)
  (new:zN P w (upd H x o') h' x o'):dk P w (upd H x o') h':=λb u q=>by
 have nown:∀ c y,H c=some (.own y)->c≠x:=λc y r z=>by subst z;rw[r] at mu;exact mu
 have ntup:∀ c xs,H c=some (.tup xs)->c≠x:=λc xs r z=>by subst z;rw[r] at mu;exact mu
 by_cases hb:b=x
 ·subst hb;rw[zI] at q;cases q;exact new
 ·rw[zp hb] at q
  by_cases hbe:b=e
  ·have q':H b=some (.own x):=by
    rcases he with z | z
    ·exact absurd (hbe.trans z) hb
    ·rw[hbe];exact z
   rw[q] at q';cases q'
   let⟨v,hv⟩:=heo
   exact⟨v,by rw[hbe];exact hv⟩
  ·refine(ok b u q).stay (λc v hc r=>k c v ?_ r) (λc r=>by rw[zp (nown c b r)];exact r) λc xs r=>by rw[zp (ntup c xs r)];exact r
   rcases hc with rfl | hc
   ·exact hbe
   ·rintro rfl
    rcases he with z | z
    ·exact nown c b hc z
    ·rw[hc] at z;cases z;exact hb rfl
end
structure Un (fs ex:Ld)(H H':Hp)(h h':Heap):Prop where
 keep:∀ b o,h.get? b=some o->H b=none->b∉fs->b∉ex->h'.get? b=some o
 slot:∀ b o,h.get? b=some o->H b=none->b∈fs->b∉ex->∃ sl,h'.get? b=some { o with slots:=sl }
 free:∀ b o,h.get? b=some o->H b=none->b∉ex->H' b=none
 there:∀ b o,h.get? b=some o->b∉ex->∃ o',h'.get? b=some o'
 tups:∀ b xs,H b=some (.tup xs)->H' b=some (.tup xs)
 aL:∀ b o u,H b=some (.aV o u)->H' b=some (.aV o u)
 tbls:∀ b ps,H b=some (.tbl ps)->∃ more,H' b=some (.tbl (ps++more))
section
variable {fs fs' ex ex':Ld} {H H1 H2:Hp} {h h1 h2 h':Heap} {a x e:Addr} {o:HO}
def Un.any (u:Un fs ex H H1 h h1)(q:h.get? b=some ob)(n:H b=none)(hx:b∉ex):∃ sl,h1.get? b=some { ob with slots:=sl }:=by
 by_cases hb:b∈fs
 ·exact u.slot b ob q n hb hx
 ·exact⟨ob.slots,u.keep b ob q n hb hx⟩
def Un.kept (k:∀ b u,h.get? b=some u->h'.get? b=some u):Un fs ex H H h h':=
 ⟨λb ob q _ _ _=>k b ob q,λb ob q _ _ _=>⟨ob.slots,k b ob q⟩,λ_ _ _ n _=>n,λb ob q _=>⟨ob,k b ob q⟩,λ_ _ q=>q,λ_ _ _ q=>q,λ_ ps q=>⟨#[],by rw[q];simp⟩⟩
def Un.refl:Un fs ex H H h h:=Un.kept λ_ _ q=>q
def Un.laid (k:∀ b u,h.get? b=some u->h'.get? b=some u)(hp:h.objs.size<=a)(hn:H a=none):Un fs ex H (upd H a o) h h' where
 keep:=λb u q _ _ _=>k b u q
 slot:=λb u q _ _ _=>⟨u.slots,k b u q⟩
 free:=λb u q n _=>by rw[zp (Up (uI (um q) hp))];exact n
 there:=λb u q _=>⟨u,k b u q⟩
 tups:=λb xs q=>by rw[zp (wo q hn)];exact q
 aL:=λb u xs q=>by rw[zp (wo q hn)];exact q
 tbls:=λb ps q=>⟨#[],by rw[zp (wo q hn),q];simp⟩
def Un.write (mu:sD (H x))(he:e=x\/H e=some (.own x))(k:∀ b u,b≠e->h.get? b=some u->h'.get? b=some u)(heo:∃ u,h'.get? e=some u):Un fs ex H (upd H x o) h h':=by
 have hx:∀ b,H b=none->b≠x:=λb n z=>by subst z;rw[n] at mu;exact mu
 have hb:∀ b,H b=none->b≠e:=λb n z=>by
  subst z;rcases he with r | r
  ·exact hx b n r
  ·rw[n] at r;cases r
 have hm:∀ b u,H b=some u->¬ sD (some u)->b≠x:=λb u q nm z=>by subst z;rw[q] at mu;exact nm mu
 refine⟨λb u q n _ _=>k b u (hb b n) q,λb u q n _ _=>⟨u.slots,k b u (hb b n) q⟩,λb u q n _=>by rw[zp (hx b n)];exact n,λb u q _=>?_,
  λb xs q=>by rw[zp (hm b _ q λz=>z)];exact q,λb u xs q=>by rw[zp (hm b _ q λz=>z)];exact q,λb ps q=>⟨#[],by rw[zp (hm b _ q λz=>z),q];simp⟩⟩
 by_cases hbe:b=e
 ·subst hbe;exact heo
 ·exact⟨u,k b u hbe q⟩
end
def tB (h:Heap)(H:Hp):Ld:=(List.range h.objs.size).filter λa=>(H a).isSome
def eV (h:Heap)(H:Hp):Heap:=PySem.W.hideAll h (tB h H)
def zci (h:Heap)(H:Hp):(eV h H).objs.size=h.objs.size:=PySem.W.hideAll_size _ _
def zdd {h:Heap}(e:h.get? b=some o)(n:H b=none):(eV h H).get? b=some o:=
 PySem.W.hideAll_get _ e λhm=>by
  have q:(H b).isSome=true:=(gT.mp hm).2
  rw[n] at q;simp at q
def SU {h:Heap}(e:(eV h H).get? b=some o):h.get? b=some o/\H b=none:=by
 have e':h.get? b=some o:=PySem.W.of_hideAll (tB h H) e;refine⟨e',?_⟩;cases q:H b with
 | none=>rfl
 | some x=>have hm:b∈tB h H:=gT.mpr ⟨gj.mpr (um e'),by simp[q]⟩;have z:(eV h H).get? b=none:=PySem.W.hideAll_none (tB h H) hm;rw[z] at e;cases e
noncomputable def SR (g h:Heap)(L:Addr):List (Addr×Obj):=(List.range h.objs.size).filterMap λa=>if a=L\/(g.get? a).isSome=true then none else(h.get? a).map λo=>(a,o)
def rest (g h:Heap)(L d:Addr):List (Addr×Obj):=(SR g h L).filter λp=>decide (p.1≠d)
structure Mod (K:Le)(mg:La)(base:Heap):Prop where
 kin:K.In base
 glob:base.Ns mainGlobals mg
 blt:∃ mb,base.Ns builtinsNs mb/\∀ x:Str,x≠"__name__"->mb x=bootBuiltins x
 nolimit:base.NoLimit
structure Cx where
 prog:Program
 w:World
 K:Le
 mg:Str->Option Value
 base:Heap
 A:Around
 N:Lh
 s₀:Shared
 H₀:Hp
 env:Env
 outer:List Env
 stack:List Env
 ex:Ld
 fn:Str->Bool
 calm:Bool
 pn:List (Addr×Obj)
 xe:Value->Shared->Prop
abbrev Lb (X:Cx){α:Type}(m:Sem α)(Q:α->Shared->Prop)(E:Lj)(s:Shared):Prop:=wpAny (model X.prog X.w) X.A m Q E s
noncomputable abbrev Li:=List (Addr×Obj)
def d6 (l:List Env):Ld:=l.filterMap (·.frame)
abbrev Cx.fs (X:Cx):Ld:=d6 X.outer
def tR (sc:Scope)(x:Str):Prop:=sc.names.lookup x=some .local\/sc.names.lookup x=some .cell\/sc.names.lookup x=some .free
def Loc (sc:Scope)(x:Str):Prop:=sc.names.lookup x=some .local\/sc.names.lookup x=some .cell
def Look (env:Env)(h:Heap)(m:La)(x:Str)(u:Value):Prop:= (env.kindOf x=some .local/\m x=some u)\/((env.kindOf x=some .cell\/env.kindOf x=some .free)/\∃ c,env.cells.lookup x=some c/\h.IsCell c (some u))
structure Cx.Ok (X:Cx):Prop where
 mod:Mod X.K X.mg X.base
 kind:X.env.scope.kind=.function
 glob:X.env.globals=mainGlobals
 blt:X.env.builtins=builtinsNs
 above:X.s₀.heap.objs.size<=X.env.locals
 inj:∀ x y c,X.env.cells.lookup x=some c->X.env.cells.lookup y=some c->x=y
 has:∀ x,(X.env.kindOf x=some .cell\/X.env.kindOf x=some .free)->∃ c,X.env.cells.lookup x=some c
 cab:∀ x c,X.fn x=true->X.env.cells.lookup x=some c->X.s₀.heap.objs.size<=c
 hd:X.calm=true->X.A.handled=none
 frames:X.A.frames=some X.stack
 stk:X.stack=X.outer\/(X.stack=X.env::X.outer/\X.env.frame=some X.env.locals)
 exf:∀ b∈X.ex,b≠X.env.locals/\∀ x c,X.env.cells.lookup x=some c->c≠b
 bs:∀ b o,X.base.get? b=some o->X.s₀.heap.get? b=some o/\X.H₀ b=none
 bsz:X.base.objs.size<=X.s₀.heap.objs.size
 noex:∀ b o,X.base.get? b=some o->b∉X.ex
 exfs:∀ b∈X.ex,b∉X.fs
 funs:X.s₀.heap.FunFrames X.base X.outer
 frf:∀ b∈X.fs,X.H₀ b=none
structure Inv (X:Cx)(Lk:Li)(U:List (Option V))(H:Hp)(s:Shared):Prop where
 ok:X.Ok
 os:s.os=X.s₀.os
 bare:AllBare s.gens
 base:Un X.fs X.ex X.H₀ H X.s₀.heap s.heap
 loc:∃ m,s.heap.Ns X.env.locals m/\∀ (i:Nat) (x:Str) (v:V),X.N[i]? = some x->U[i]? = some (some v)->tR X.env.scope x->∃ u,RelV v u/\Look X.env s.heap m x u
 cell:∀ x c,X.env.cells.lookup x=some c->∃ v,s.heap.IsCell c v
 free:H X.env.locals=none
 freeC:∀ x c,X.env.cells.lookup x=some c->H c=none
 pin:∀ p∈X.pn++Lk,s.heap.get? p.1=some p.2/\H p.1=none/\p.1≠X.env.locals/\p.1∉X.fs/\∀ v,p.2.data≠.cell v
 hok:dk X.prog X.w H s.heap
 len:U.length=X.N.length
section
variable {X:Cx} {Lk:Li} {U:List (Option V)} {H H':Hp} {s:Shared} {h':Heap}
def Cx.Ok.nofr (ok:X.Ok)(e:X.base.get? b=some o):b∉X.fs:=λhb=>by have:=(ok.funs.mem hb).1;rw[e] at this;cases this
theorem Inv.bs (I:Inv X Lk U H s):∀ b o,X.base.get? b=some o->s.heap.get? b=some o/\H b=none:=λb o e=>
 ⟨I.base.keep b o (I.ok.bs b o e).1 (I.ok.bs b o e).2 (I.ok.nofr e) (I.ok.noex b o e),I.base.free b o (I.ok.bs b o e).1 (I.ok.bs b o e).2 (I.ok.noex b o e)⟩
def Inv.bk (I:Inv X Lk U H s):∀ b o,X.base.get? b=some o->s.heap.get? b=some o:=λb o e=>(I.bs b o e).1
theorem Inv.mod (I:Inv X Lk U H s):Mod X.K X.mg X.base:=I.ok.mod
def Inv.kIn (I:Inv X Lk U H s):X.K.In s.heap:=I.ok.mod.kin.keeps I.bk
theorem Inv.lt (I:Inv X Lk U H s):X.env.locals<s.heap.objs.size:=let ⟨_,hn,_⟩:=I.loc;hn.lt
def Inv.sz (I:Inv X Lk U H s):X.s₀.heap.objs.size<=s.heap.objs.size:=uZ I.ok.above (Nat.le_of_lt I.lt)
def Inv.nofs (I:Inv X Lk U H s)(h:s.heap.objs.size<=a):a∉X.fs:=λhb=>by let⟨_,o,ho,_⟩:=I.ok.funs.mem hb;exact absurd (uI (um ho) (uZ I.sz h)) (Uc _)
def Inv.cne (I:Inv X Lk U H s):∀ x c,X.env.cells.lookup x=some c->c≠X.env.locals:=λx c e z=>by let⟨v,o,ho,hd⟩:=I.cell x c e;let⟨m,⟨o',es,ep,ho',hd',_⟩,_⟩:=I.loc;rw[z,ho'] at ho;cases ho;rw[hd'] at hd;cases hd
theorem Inv.funs (I:Inv X Lk U H s):s.heap.FunFrames X.base X.outer:=by
 have all:∀ (l:List Env),(∀ b∈d6 l,b∈X.fs)->X.s₀.heap.FunFrames X.base l->s.heap.FunFrames X.base l:=by
  intro l
  induction l with
  | nil=>intro _ _;trivial
  | cons env r ih=>intro hs hl;let⟨hk,⟨L,o,hf,hn,ho,hd⟩,hr⟩:=hl;have hL:L∈X.fs:=hs L (by unfold d6;rw[GO,hf];exact ug);let⟨sl,e⟩:=I.base.slot L o ho (I.ok.frf L hL) hL λz=>I.ok.exfs L z hL;exact⟨hk,⟨L,_,hf,hn,e,hd⟩,ih (λb hb=>hs b (by unfold d6;rw[GO,hf];exact uk _ hb)) hr⟩
 exact all X.outer (λ_ hb=>hb) I.ok.funs
theorem Inv.stack (I:Inv X Lk U H s):s.heap.FunFrames X.base X.stack:=by
 rcases I.ok.stk with e | ⟨e,hf⟩
 ·rw[e];exact I.funs
 ·rw[e];let⟨m,hn,_⟩:=I.loc;refine .cons (by rw[I.ok.kind];decide) hf hn ?_ I.funs;exact gk (uZ I.ok.bsz I.ok.above)
def Inv.stkSub (I:Inv X Lk U H s):∀ b∈d6 X.stack,b∈X.env.locals::X.fs:=λb hb=>by
 rcases I.ok.stk with e | ⟨e,hf⟩
 ·rw[e] at hb;exact uk _ hb
 ·rw[e] at hb;unfold d6 at hb;rw[GO,hf] at hb;exact hb
def Inv.stkFree (I:Inv X Lk U H s):∀ b∈d6 X.stack,H b=none:=λb hb=>by
 rcases uw.mp (I.stkSub b hb) with e | hb
 ·rw[e];exact I.free
 ·let⟨_,o,ho,_⟩:=I.ok.funs.mem hb;exact I.base.free b o ho (I.ok.frf b hb) λz=>I.ok.exfs b z hb
def Inv.step {g':Array GenState}{t':Nat}{d':Drawn}{ch:Ld}(I:Inv X Lk U H s) (hch:∀ b∈ch,(b∈X.ex\/X.s₀.heap.objs.size<=b)/\b≠X.env.locals/\(∀ x c,X.env.cells.lookup x=some c->c≠b)/\∀ p∈X.pn++Lk,p.1≠b) (keep:∀ b o,b≠X.env.locals->b∉X.fs->b∉ch->s.heap.get? b=some o->H b=none->h'.get? b=some o) (slot:∀ b o,b≠X.env.locals->b∈X.fs->b∉ch->s.heap.get? b=some o->H b=none->∃ sl,h'.get? b=some { o with slots:=sl }) (free:∀ b o,b∉ch->s.heap.get? b=some o->H b=none->H' b=none) (there:∀ b o,b∉ch->s.heap.get? b=some o->∃ o',h'.get? b=some o') (tups:∀ b xs,H b=some (.tup xs)->H' b=some (.tup xs)) (aL:∀ b o u,H b=some (.aV o u)->H' b=some (.aV o u)) (tbls:∀ b ps,H b=some (.tbl ps)->∃ more,H' b=some (.tbl (ps++more))) (ns:∀ m,s.heap.Ns X.env.locals m->h'.Ns X.env.locals m) (hok:dk X.prog X.w H' h') (hg:AllBare g') : Inv X Lk U H' { s with heap:=h',gens:=g',drawn:=d',toks:=t' }:=by
 have neL:∀ b o,X.s₀.heap.get? b=some o->b≠X.env.locals:=λb o e=>Up (uI (um e) I.ok.above)
 have neC:∀ b o,X.s₀.heap.get? b=some o->b∉X.ex->b∉ch:=λb o e hx hb=>by
  rcases(hch b hb).1 with z | z
  ·exact hx z
  ·exact absurd (uI (um e) z) (Uc _)
 have cellK:∀ x c,X.env.cells.lookup x=some c->∀ v,s.heap.IsCell c v->h'.IsCell c v:=λx c e v ⟨o,ho,hd⟩=>by
  have nch:c∉ch:=λz=>(hch c z).2.2.1 x c e rfl;by_cases hc:c∈X.fs
  ·let⟨sl,q⟩:=slot c o (I.cne x c e) hc nch ho (I.freeC x c e);exact⟨_,q,hd⟩
  ·exact⟨o,keep c o (I.cne x c e) hc nch ho (I.freeC x c e),hd⟩
 refine⟨I.ok,I.os,hg,⟨λb o e n hb hx=>?_,λb o e n hb hx=>?_,λb o e n hx=>?_,λb o e hx=>?_,λb xs e=>tups b xs (I.base.tups b xs e),λb o xs e=>aL b o xs (I.base.aL b o xs e),λb ps e=>?_⟩,?_,λx c e=>?_,?_,λx c e=>?_,λp hp=>?_,hok,I.len⟩
 ·exact keep b o (neL b o e) hb (neC b o e hx) (I.base.keep b o e n hb hx) (I.base.free b o e n hx)
 ·let⟨sl,e1⟩:=I.base.slot b o e n hb hx;let⟨sl',e2⟩:=slot b _ (neL b o e) hb (neC b o e hx) e1 (I.base.free b o e n hx);exact⟨sl',e2⟩
 ·let⟨o',e1⟩:=I.base.there b o e hx;exact free b o' (neC b o e hx) e1 (I.base.free b o e n hx)
 ·let⟨o',e1⟩:=I.base.there b o e hx;exact there b o' (neC b o e hx) e1
 ·let⟨m1,e1⟩:=I.base.tbls b ps e;let⟨m2,e2⟩:=tbls b _ e1;exact⟨m1++m2,by rw[e2,Array.append_assoc]⟩
 ·let⟨m,hn,hl⟩:=I.loc;refine⟨m,ns m hn,λi x v e1 e2 e3=>?_⟩;let⟨u,r,l⟩:=hl i x v e1 e2 e3;refine⟨u,r,?_⟩;rcases l with l | ⟨k,c,e,z⟩
  ·exact .inl l
  ·exact .inr ⟨k,c,e,cellK x c e _ z⟩
 ·let⟨v,z⟩:=I.cell x c e;exact⟨v,cellK x c e v z⟩
 ·let⟨m,⟨o,_,_,ho,_⟩,_⟩:=I.loc;exact free _ o (λz=>(hch _ z).2.1 rfl) ho I.free
 ·let⟨v,o,ho,hd⟩:=I.cell x c e;exact free c o (λz=>(hch c z).2.2.1 x c e rfl) ho (I.freeC x c e)
 ·let⟨e,n,ne,nf,d⟩:=I.pin p hp;have nch:p.1∉ch:=λz=>(hch p.1 z).2.2.2 p hp rfl;exact⟨keep p.1 p.2 ne nf nch e n,free p.1 p.2 nch e n,ne,nf,d⟩
def Inv.un {t':Nat}(I:Inv X Lk U H s)(u:Un X.fs [] H H' s.heap h')(hok:dk X.prog X.w H' h'):Inv X Lk U H' { s with heap:=h',toks:=t' }:=by
 let⟨m,⟨o,es,ep,ho,r⟩,_⟩:=id I.loc;let⟨sl,hL⟩:=u.any ho I.free aD
 exact I.step (g':=s.gens) (d':=s.drawn) (ch:=[]) (λ_ z=>nomatch z) (λb o _ hb _ e n=>u.keep b o e n hb aD) (λb o _ hb _ e n=>u.slot b o e n hb aD) (λb o _ e n=>u.free b o e n aD) (λb o _ e=>u.there b o e aD) u.tups u.aL u.tbls (λm' hm=>by
  let⟨o',es',ep',ho',r'⟩:=hm
  rw[ho] at ho';cases ho'
  exact⟨_,es',ep',hL,r'⟩) hok I.bare
def Inv.call {g':Array GenState}{t':Nat}{d':Drawn}{ch:Ld}(I:Inv X Lk U H s)(u:Un (d6 X.stack) ch H H' s.heap h')(hok:dk X.prog X.w H' h')(hg:AllBare g') (hch:∀ b∈ch,(b∈X.ex\/X.s₀.heap.objs.size<=b)/\b≠X.env.locals/\(∀ x c,X.env.cells.lookup x=some c->c≠b)/\∀ p∈X.pn++Lk,p.1≠b) : Inv X Lk U H' { s with heap:=h',gens:=g',drawn:=d',toks:=t' }:=by
 let⟨m,⟨o,es,ep,ho,r⟩,_⟩:=id I.loc;let⟨sl,hL⟩:=u.any ho I.free λz=>(hch _ z).2.1 rfl
 exact I.step (ch:=ch) hch (λb o hL hb hc e n=>u.keep b o e n (λz=>(uw.mp (I.stkSub b z)).elim hL hb) hc) (λb o _ _ hc e n=>u.any e n hc) (λb o hc e n=>u.free b o e n hc) (λb o hc e=>u.there b o e hc) u.tups u.aL u.tbls (λm' hm=>by
  let⟨o',es',ep',ho',r'⟩:=hm
  rw[ho] at ho';cases ho'
  exact⟨_,es',ep',hL,r'⟩) hok hg
def Inv.turned {t':Nat}{it:Addr}(I:Inv X Lk U H s)(k:∀ b o,b≠it->s.heap.get? b=some o->h'.get? b=some o)(hn:H it=none)(hL:it≠X.env.locals) (h1:it∈X.ex\/X.s₀.heap.objs.size<=it) (h2:∀ x c,X.env.cells.lookup x=some c->c≠it) (h3:∀ p∈X.pn++Lk,p.1≠it):Inv X Lk U H { s with heap:=h',toks:=t' }:=by
 have nit:∀ b u,H b=some u->b≠it:=λb u e z=>by rw[z,hn] at e;cases e
 refine I.step (g':=s.gens) (d':=s.drawn) (ch:=[it]) (λb hb=>?_) (λb o _ _ hc e _=>k b o (λz=>hc (by simp[z])) e) (λb o _ _ hc e _=>⟨o.slots,k b o (λz=>hc (by simp[z])) e⟩) (λ_ _ _ _ n=>n)
  (λb o hc e=>⟨o,k b o (λz=>hc (by simp[z])) e⟩) (λ_ _ e=>e) (λ_ _ _ e=>e) (λb ps e=>⟨#[],by rw[e];simp⟩) (λm hm=>?_) (λb u e=>?_) I.bare
 ·have e:b=it:=by simpa using hb
  subst e;exact⟨h1,hL,h2,h3⟩
 ·let⟨o,es,ep,ho,r⟩:=hm;exact⟨o,es,ep,k _ o (Ne.symm hL) ho,r⟩
 ·refine(I.hok b u e).stay (λc v hc q=>k c v ?_ q) (λ_ q=>q) λ_ _ q=>q;rcases hc with z | z
  ·rw[z];exact nit b u e
  ·exact nit c _ z
def Inv.tok (I:Inv X Lk U H s)(t:Nat):Inv X Lk U H { s with toks:=t }:=I.un (h':=s.heap) (t':=t) Un.refl I.hok
theorem Inv.kept (I:Inv X Lk U H s)(k:∀ b u,s.heap.get? b=some u->h'.get? b=some u):Inv X Lk U H { s with heap:=h',toks:=t' }:=I.un (Un.kept k) (I.hok.kept k)
theorem Inv.laid (I:Inv X Lk U H s)(k:∀ b u,s.heap.get? b=some u->h'.get? b=some u)(hp:s.heap.objs.size<=a)(new:zN X.prog X.w (upd H a o) h' a o) :
  Inv X Lk U (upd H a o) { s with heap:=h',toks:=t' }:=I.un (Un.laid k hp (I.hok.fresh hp)) (I.hok.laid k hp new)
theorem Inv.write (I:Inv X Lk U H s)(mu:sD (H x))(he:e=x\/H e=some (.own x))(k:∀ b u,b≠e->s.heap.get? b=some u->h'.get? b=some u)(heo:∃ u,h'.get? e=some u)
  (new:zN X.prog X.w (upd H x o) h' x o):Inv X Lk U (upd H x o) { s with heap:=h',toks:=t' }:=I.un (Un.write mu he k heo) (I.hok.write mu he k heo new)
def Inv.pins_of {pins':Li}(I:Inv X Lk U H s)(h:∀ p∈pins',s.heap.get? p.1=some p.2/\H p.1=none/\p.1≠X.env.locals/\p.1∉X.fs/\∀ v,p.2.data≠.cell v):Inv X pins' U H s:= ⟨I.ok,I.os,I.bare,I.base,I.loc,I.cell,I.free,I.freeC,λp hp=>(uo.mp hp).elim (λz=>I.pin p (uW _ z)) (h p),I.hok,I.len⟩
def Yc {N:Lh}(hN:N.Nodup){i j:Nat}{x:Str}(a:N[i]? = some x)(b:N[j]? = some x):i=j:=by let⟨h1,e1⟩:=uY.mp a;let⟨h2,e2⟩:=uY.mp b;exact(List.getElem_inj hN).mp (e1.trans e2.symm)
def W3 (I:Inv X Lk U H s)(hN:X.N.Nodup)(hi:X.N[i]? = some x)(hx:Loc X.env.scope x)(r:RelV v u) (h:∀ s',Inv X Lk (U.set i (some v)) H s'->(∃ a,Heap.SameBut a s.heap s'.heap/\(a=X.env.locals\/X.env.cells.lookup x=some a))->Q () s') (hf:X.fn x=true\/X.env.scope.names.lookup x=some .local:=by first | exact .inl rfl | exact .inr rfl | assumption):wpAny M A (storeName X.env x u) Q E s:=by
 let⟨m,hn,hl⟩:=id I.loc;have hcls:(X.env.scope.kind == .class||(X.env.scope.kind == .module&&X.env.locals != X.env.globals))=false:=by rw[I.ok.kind];rfl
 have hiU:i<U.length:=by rw[I.len];exact(uY.mp hi).1
 have cne:=I.cne
 have tracked:∀ {a:Addr} {h':Heap},(∃ o,s.heap.get? a=some o/\H a=none)->Heap.SameBut a s.heap h'->dk X.prog X.w H h':=λ{a h'} ha hs b ob e=>by
  let⟨_,_,hfree⟩:=ha;refine(I.hok b ob e).stay (λc w' hc q=>(hs.2 c ?_).trans q) (λ_ q=>q) λ_ _ q=>q;rintro rfl;rcases hc with rfl | hc
  ·rw[hfree] at e;cases e
  ·rw[hfree] at hc;cases hc
 rcases hx with hk | hk
 ·refine wpAny_storeName_local hk hn (λh' hn' hs=>?_) hcls;let⟨oL,_,_,hoL,_⟩:=id hn;refine h _ ⟨I.ok,I.os,I.bare,⟨λb o e n hb hx=>?_,λb o e n hb hx=>?_,I.base.free,λb o e hx=>?_,I.base.tups,I.base.aL,I.base.tbls⟩,⟨_,hn',λj y v' e1 e2 e3=>?_⟩,λy c e=>?_,I.free,I.freeC,λp hp=>?_,tracked ⟨oL,hoL,I.free⟩ hs,by simpa using I.len⟩ ⟨_,hs,.inl rfl⟩
  ·exact(hs.2 b (Up (uI (um e) I.ok.above))).trans (I.base.keep b o e n hb hx)
  ·let⟨sl,e1⟩:=I.base.slot b o e n hb hx;exact⟨sl,(hs.2 b (Up (uI (um e) I.ok.above))).trans e1⟩
  ·let⟨o',e1⟩:=I.base.there b o e hx;exact⟨o',(hs.2 b (Up (uI (um e) I.ok.above))).trans e1⟩
  ·by_cases hj:j=i
   ·subst hj;rw[hi] at e1;cases e1;rw[Uh hiU] at e2;cases e2;exact⟨u,r,.inl ⟨hk,aD⟩⟩
   ·rw[UE (Ne.symm hj)] at e2;let⟨u',r',q⟩:=hl j y v' e1 e2 e3;refine⟨u',r',?_⟩;rcases q with⟨k,e⟩ | ⟨k,c,e,z⟩
    ·refine .inl ⟨k,?_⟩;have:y≠x:=λe=>hj (Yc hN e1 (e ▸ hi));simp[this,e]
    ·exact .inr ⟨k,c,e,z.sameBut hs (cne y c e)⟩
  ·let⟨w',z⟩:=I.cell y c e;exact⟨w',z.sameBut hs (cne y c e)⟩
  ·let⟨e,n,ne,nf,d⟩:=I.pin p hp;exact⟨(hs.2 p.1 ne).trans e,n,ne,nf,d⟩
 ·have hfn:X.fn x=true:=by
   rcases hf with z | z
   ·exact z
   ·rw[z] at hk;cases hk
  let⟨c,hc⟩:=I.ok.has x (.inl hk)
  let⟨w',z⟩:=I.cell x c hc
  refine wpAny_storeName_cell I.ok.kind hk hc z (λh' hc' hs=>?_)
  let⟨oc,hoc,hocd⟩:=id z
  refine h { s with heap:=h' } ⟨I.ok,I.os,I.bare,⟨λb o e n hb hx=>?_,λb o e n hb hx=>?_,I.base.free,λb o e hx=>?_,I.base.tups,I.base.aL,I.base.tbls⟩,⟨m,hn.sameBut hs (Ne.symm (cne x c hc)),λj y v' e1 e2 e3=>?_⟩,λy c' e=>?_,I.free,I.freeC,λp hp=>?_,tracked ⟨oc,hoc,I.freeC x c hc⟩ hs,by simpa using I.len⟩ ⟨c,hs,.inr hc⟩
  ·exact(hs.2 b (Up (uI (um e) (I.ok.cab x c hfn hc)))).trans (I.base.keep b o e n hb hx)
  ·let⟨sl,e1⟩:=I.base.slot b o e n hb hx
   exact⟨sl,(hs.2 b (Up (uI (um e) (I.ok.cab x c hfn hc)))).trans e1⟩
  ·let⟨o',e1⟩:=I.base.there b o e hx
   exact⟨o',(hs.2 b (Up (uI (um e) (I.ok.cab x c hfn hc)))).trans e1⟩
  ·by_cases hj:j=i
   ·subst hj
    rw[hi] at e1;cases e1
    rw[Uh hiU] at e2
    cases e2
    exact⟨u,r,.inr ⟨.inl hk,c,hc,hc'⟩⟩
   ·rw[UE (Ne.symm hj)] at e2
    let⟨u',r',q⟩:=hl j y v' e1 e2 e3
    refine⟨u',r',?_⟩
    rcases q with q | ⟨k,c',e,z'⟩
    ·exact .inl q
    ·refine .inr ⟨k,c',e,z'.sameBut hs ?_⟩
     rintro rfl
     exact hj (Yc hN e1 (I.ok.inj _ _ _ e hc ▸ hi))
  ·by_cases hcc:c' = c
   ·subst hcc;exact⟨_,hc'⟩
   ·let⟨w2,z2⟩:=I.cell y c' e
    exact⟨w2,z2.sameBut hs hcc⟩
  ·let⟨e,n,ne,nf,d⟩:=I.pin p hp
   refine⟨(hs.2 p.1 ?_).trans e,n,ne,nf,d⟩
   intro q
   rw[q,hoc] at e
   have q':oc=p.2:=uQ e
   exact d w' (by rw[<-q'];exact hocd)
def ZE (I:Inv X Lk U H s)(hN:X.N.Nodup)(hi:X.N[i]? = some x)(hx:Loc X.env.scope x)(r:RelV v u)
  (h:∀ s',Inv X Lk (U.set i (some v)) H s'->Q () s') (hf:X.fn x=true\/X.env.scope.names.lookup x=some .local:=by first | exact .inl rfl | exact .inr rfl | assumption):wpAny M A (storeName X.env x u) Q E s:=
 W3 I hN hi hx r (λs' I' _=>h s' I') hf
def Inv.call' {s':Shared}(I:Inv X Lk U H s)(ho:s'.os=s.os)(u:Un (d6 X.stack) ch H H' s.heap s'.heap)(hok:dk X.prog X.w H' s'.heap)(hg:AllBare s'.gens) (hch:∀ b∈ch,(b∈X.ex\/X.s₀.heap.objs.size<=b)/\b≠X.env.locals/\(∀ x c,X.env.cells.lookup x=some c->c≠b)/\∀ p∈X.pn++Lk,p.1≠b):Inv X Lk U H' s':=by let⟨h',g',d',t',o'⟩:=s';have e:o' = s.os:=ho;subst e;exact I.call (g':=g') (t':=t') (d':=d') u hok hg hch
end
abbrev XK:=Value->Option Addr->Hp->Prop
abbrev St:=List (Option V)
abbrev VK:=V->Hp->Prop
abbrev TE:=St->Hp->VK->Prop
abbrev TT:=St->Hp->(Bool->Hp->Prop)->Prop
abbrev TA:=St->Hp->(List V->Hp->Prop)->Prop
structure Ends where
 nx:St->Hp->Prop
 rt:VK
 bk:St->Hp->Prop:=λ_ _=>False
 ct:St->Hp->Prop:=λ_ _=>False
abbrev TS:=Ends->St->Hp->Prop
def EP (X:Cx)(Lk:Li)(U:St)(Q:VK)(u:Value)(s':Shared):Prop:=∃ v H',Inv X Lk U H' s'/\RelV v u/\Q v H'
def TP (X:Cx)(Lk:Li)(U:St)(Q:Bool->Hp->Prop)(b:Bool)(s':Shared):Prop:=∃ H',Inv X Lk U H' s'/\Q b H'
def AP (X:Cx)(Lk:Li)(U:St)(Q:List V->Hp->Prop)(us:Lf)(s':Shared):Prop:=∃ vs H',Inv X Lk U H' s'/\Vals vs us/\Q vs H'
def SP (X:Cx)(Lk:Li)(D:Ends)(f:Flow)(s':Shared):Prop:=
 match f with
 | .next=>∃ U' H',Inv X Lk U' H' s'/\D.nx U' H'
 | .brk=>∃ U' H',Inv X Lk U' H' s'/\D.bk U' H'
 | .cont=>∃ U' H',Inv X Lk U' H' s'/\D.ct U' H'
 | .ret u=>∃ v U' H',Inv X Lk U' H' s'/\RelV v u/\D.rt v H'
def PE (X:Cx)(e:Expr)(t:TE):Prop:= ∀ (Lk:Li) (s:Shared) (U:St) (H:Hp) (Q:VK),Inv X Lk U H s->t U H Q->Lb X (eval e X.env) (EP X Lk U Q) X.xe s
def PT (X:Cx)(e:Expr)(t:TT):Prop:= ∀ (Lk:Li) (s:Shared) (U:St) (H:Hp) (Q:Bool->Hp->Prop),Inv X Lk U H s->t U H Q->Lb X (isTrue e X.env (eval e X.env)) (TP X Lk U Q) X.xe s
def PW (X:Cx)(e:Expr)(t:TT):Prop:= ∀ (whole:Sem Value) (Lk:Li) (s:Shared) (U:St) (H:Hp) (Q:Bool->Hp->Prop),Inv X Lk U H s->t U H Q->Lb X (isTrue e X.env whole) (TP X Lk U Q) X.xe s
def PW.pt {X:Cx}(h:PW X e t):PT X e t:=h _
def PA (X:Cx)(es:Lg)(t:TA):Prop:= ∀ (pos:Pos) (Lk:Li) (s:Shared) (U:St) (H:Hp) (Q:List V->Hp->Prop),Inv X Lk U H s->t U H Q->Lb X (spliced (backTo pos (starEach es X.env))) (AP X Lk U Q) X.xe s
def PS (X:Cx)(st:Stmt)(t:TS):Prop:= ∀ (Lk:Li) (s:Shared) (U:St) (H:Hp) (D:Ends),Inv X Lk U H s->t D U H->Lb X (exec st X.env) (SP X Lk D) X.xe s
def eC (X:Cx)(st:List Stmt)(t:TS):Prop:= ∀ (Lk:Li) (s:Shared) (U:St) (H:Hp) (D:Ends),Inv X Lk U H s->t D U H->Lb X (execs st X.env) (SP X Lk D) X.xe s
def aX {α:Type}{t:Sem α}{Q Q':α->Shared->Prop}{M:Model}{A:Around}{E:Lj}{s:Shared}(h:wpAny M A t Q E s)(hQ:∀ a s,Q a s->Q' a s):wpAny M A t Q' E s:=uG h hQ λ_ _ x=>x
section
variable {X:Cx}
def eP (i:Nat):TE:=λU H Q=>∃ v,U[i]? = some (some v)/\Q v H
def tC (v:V):TE:=λ_ H Q=>Q v H
def NG (hN:X.N[i]? = some x)(hv:tR X.env.scope x)(hd:(x == ("__debug__":Str))=false:=by decide) (hcd:(x == ("__classdict__":Str))=false:=by decide):PE X (.Name x pos) (eP i):=by
 intro Lk s U H Q I h;let⟨v,e,h⟩:=h;let⟨m,hn,hl⟩:=I.loc;let⟨u,r,l⟩:=hl i x v hN e hv;have fin:EP X Lk U Q u s:=⟨v,H,I,r,h⟩
 rcases l with⟨hk,hm⟩ | ⟨hk,c,hc,hcell⟩
 ·exact He (Hx I.ok.kind hk hn hm fin) hd
 ·rcases hk with hk | hk
  ·exact He (HD I.ok.kind hk hc hcell fin) hd
  ·exact He (wpAny_loadName_free I.ok.kind hk hc hcell fin hcd) hd
def NF {i j pos}:PE X (.Constant (.int i) j pos) (tC (.int i)):=λ_ _ _ H _ I h=>wpAny_Constant_int ⟨.int i,H,I.tok _,⟨_,rfl⟩,h⟩
def LS {b j pos}:PE X (.Constant (.bool b) j pos) (tC (.bl b)):=λ_ _ _ H _ I h=>Constant_bool ⟨.bl b,H,I,rfl,h⟩
def ND {j pos}:PE X (.Constant .none j pos) (tC .non):=λ_ _ _ H _ I h=>Constant_none ⟨.non,H,I,rfl,h⟩
def NC {x j pos}:PE X (.Constant (.str x) j pos) (tC (.str x)):=λ_ _ _ H _ I h=>Calls.Constant_str ⟨.str x,H,I.tok _,⟨_,rfl⟩,h⟩
def Gl (X:Cx)(x:Str):Prop:=X.env.kindOf x=some .globalImplicit
def xu {Lk:Li}(I:Inv X Lk U H s)(hg:Gl X x)(hm:X.mg x=some u)(h:Q u s)
  (hd:(x == ("__debug__":Str))=false:=by decide):Lb X (eval (.Name x pos) X.env) Q E s:=
 Calls.Name_function_global I.ok.kind hg (Calls.loadGlobal_global (by rw[I.ok.glob];exact I.mod.glob.keeps I.bk) hm h) hd
def Qi {Lk:Li}(I:Inv X Lk U H s)(hg:Gl X x)(hm:X.mg x=none)(hv:bootBuiltins x=some u)(h:Q u s) (hn:x≠"__name__":=by decide) (hd:(x == ("__debug__":Str))=false:=by decide):Lb X (eval (.Name x pos) X.env) Q E s:=by let⟨mb,h1,h2⟩:=I.mod.blt;exact Calls.Name_function_global I.ok.kind hg (Calls.loadGlobal_builtin (by rw[I.ok.glob];exact I.mod.glob.keeps I.bk) hm (by rw[I.ok.blt];exact h1.keeps I.bk) ((h2 x hn).trans hv) h) hd
def SQ (hg:Gl X x)(hm:X.mg x=some u)(r:RelV v u)(hd:(x == ("__debug__":Str))=false:=by decide):PE X (.Name x pos) (tC v):=
 λ_ _ _ H _ I h=>xu I hg hm ⟨v,H,I,r,h⟩ hd
def SO (hg:Gl X x)(hm:X.mg x=none)(hv:bootBuiltins x=some u)(r:RelV v u)(hn:x≠"__name__":=by decide) (hd:(x == ("__debug__":Str))=false:=by decide):PE X (.Name x pos) (tC v):=
 λ_ _ _ H _ I h=>Qi I hg hm hv ⟨v,H,I,r,h⟩ hn hd
variable {a b:Expr} {ta tb:TE} {pos:Pos}
variable {tA tB':TT} {rest:Lg}
def pP (t u:TT):TT:=λU H Q=>t U H λc H1=>if c=true then u U H1 Q else Q false H1
def E3 (t u:TT):TT:=λU H Q=>t U H λc H1=>if c=true then Q true H1 else u U H1 Q
def pF (t:TT):TT:=λU H Q=>t U H λc H1=>Q (!c) H1
def SN (ha:PT X a tA):PW X (.BoolOp .And [a] pos) tA:=by
 intro wh Lk s U H Q I h;refine HJ (aX (ha Lk s U H Q I h) λc s1 e=>?_);cases c with
 | true=>exact isTrue_and_nil e
 | false=>exact e
def NB (ha:PT X a tA):PW X (.BoolOp .Or [a] pos) tA:=by
 intro wh Lk s U H Q I h;refine isTrue_or (aX (ha Lk s U H Q I h) λc s1 e=>?_);cases c with
 | false=>exact isTrue_or_nil e
 | true=>exact e
def NA (ha:PT X a tA)(hb:PW X (.BoolOp .And (b::rest) pos) tB'):PW X (.BoolOp .And (a::b::rest) pos) (pP tA tB'):=by
 intro wh Lk s U H Q I h;refine HJ (aX (ha Lk s U H _ I h) λc s1 zq=>?_);let⟨H1,I1,q1⟩:=zq;cases c with
 | true=>exact hb wh Lk s1 U H1 Q I1 q1
 | false=>exact⟨H1,I1,q1⟩
def LR (ha:PT X a tA)(hb:PW X (.BoolOp .Or (b::rest) pos) tB'):PW X (.BoolOp .Or (a::b::rest) pos) (E3 tA tB'):=by
 intro wh Lk s U H Q I h;refine isTrue_or (aX (ha Lk s U H _ I h) λc s1 zq=>?_);let⟨H1,I1,q1⟩:=zq;cases c with
 | true=>exact⟨H1,I1,q1⟩
 | false=>exact hb wh Lk s1 U H1 Q I1 q1
def Nz (ha:PT X a tA):PT X (.UnaryOp .Not a pos) (pF tA):=by intro Lk s U H Q I h;exact isTrue_not (ha Lk s U H (λc H1=>Q (!c) H1) I h)
def Cc (ta tb:TE):TE:=λU H Q=>ta U H λx H1=>∃ c,x=.bl c/\if c=true then tb U H1 Q else Q (.bl false) H1
def pD (ta tb:TE):TE:=λU H Q=>ta U H λx H1=>∃ c,x=.bl c/\if c=true then Q (.bl true) H1 else tb U H1 Q
def Cb (ta:TE):TE:=λU H Q=>ta U H λx H1=>∃ c,x=.bl c/\Q (.bl (!c)) H1
def Ny {op}(h:PE X a t):PE X (.BoolOp op [a] pos) t:=λLk s U H Q I hw=>BoolOp_one (h Lk s U H Q I hw)
def Nx (ha:PE X a ta)(hb:PE X (.BoolOp .And (b::rest) pos) tb):PE X (.BoolOp .And (a::b::rest) pos) (Cc ta tb):=by
 intro Lk s U H Q I h;refine BoolOp_and (aX (ha Lk s U H _ I h) λv s1 zq=>?_);let⟨x,H1,I1,r1,q1⟩:=zq;let⟨c,rfl,q1⟩:=q1;cases r1;refine Uj ?_;cases c with
 | true=>exact hb Lk s1 U H1 Q I1 q1
 | false=>exact⟨.bl false,H1,I1,rfl,q1⟩
def LP (ha:PE X a ta)(hb:PE X (.BoolOp .Or (b::rest) pos) tb):PE X (.BoolOp .Or (a::b::rest) pos) (pD ta tb):=by
 intro Lk s U H Q I h;refine BoolOp_or (aX (ha Lk s U H _ I h) λv s1 zq=>?_);let⟨x,H1,I1,r1,q1⟩:=zq;let⟨c,rfl,q1⟩:=q1;cases r1;refine Uj ?_;cases c with
 | false=>exact hb Lk s1 U H1 Q I1 q1
 | true=>exact⟨.bl true,H1,I1,rfl,q1⟩
def Nv (ha:PE X a ta):PE X (.UnaryOp .Not a pos) (Cb ta):=by intro Lk s U H Q I h;refine UnaryOp_ (aX (ha Lk s U H _ I h) λv s1 zq=>?_);let⟨x,H1,I1,r1,q1⟩:=zq;let⟨c,rfl,q1⟩:=q1;cases r1;exact not_of (Uj ⟨.bl (!c),H1,I1,rfl,q1⟩)
def E4 (t:TT)(ta tb:TE):TE:=λU H Q=>t U H λc H1=>if c=true then ta U H1 Q else tb U H1 Q
def zde {c:Expr}(hc:PT X c tA)(ha:PE X a ta)(hb:PE X b tb):PE X (.IfExp c a b pos) (E4 tA ta tb):=by
 intro Lk s U H Q I h;refine wpAny_IfExp (aX (hc Lk s U H _ I h) λd s1 zq=>?_);let⟨H1,I1,q1⟩:=zq;cases d with
 | true=>exact ha Lk s1 U H1 Q I1 q1
 | false=>exact hb Lk s1 U H1 Q I1 q1
end
def cJ (K:Le)(H:Hp)(a:Addr)(xs:List V):Prop:= Rd H a (.lst xs) \/ ∃ (o:Obj) (its:Array Value) (n:Nat),K.lookup a=some o/\o.cls=.type "list"/\o.dict=none/\o.data=.seq its n/\its.size<=sizeLine/\Vals xs its.toList
def bP (K:Le)(H:Hp)(a:Addr)(xs:List V):Prop:= Rd H a (.tup xs) \/ ∃ (o:Obj) (its:Array Value) (n:Nat),K.lookup a=some o/\o.cls=.type "tuple"/\o.data=.seq its n/\its.size<=sizeLine/\Vals xs its.toList
noncomputable def BV:Value->Option V
 | .none=>some .non
 | .bool b=>some (.bl b)
 | .int i _=>some (.int i)
 | .str x _=>some (.str x)
 | .bytes b _=>some (.byt b)
 | .float b _=>some (.flt b)
 | .ref a=>some (.ref a)
 | .type n=>some (.ty n)
 | _=>none
def RelV.abs (r:RelV x u):BV u=some x:=by
 cases x with
 | non=>cases r;rfl
 | bl _=>cases r;rfl
 | int _=>let⟨t,rfl⟩:=r;rfl
 | str _=>let⟨t,rfl⟩:=r;rfl
 | byt _=>let⟨t,rfl⟩:=r;rfl
 | flt _=>let⟨t,rfl⟩:=r;rfl
 | ref _=>cases r;rfl
 | ty _=>cases r;rfl
def RelV.inj (r:RelV x u)(q:RelV y u):x=y:=uQ (r.abs.symm.trans q.abs)
theorem Vals.inj:∀ {xs ys:List V} {us:Lf},Vals xs us->Vals ys us->xs=ys
 | _,_,_,.nil,.nil=>rfl
 | _,_,_,.cons r t,.cons r' t'=>by rw[r.inj r',Vals.inj t t']
section
variable {X:Cx} {Lk:Li} {U:St} {H:Hp} {s:Shared} {a:Addr} {xs ys:List V}
def cJ.of {K:Le}(h:H a=some (.lst xs)):cJ K H a xs:=.inl (.inl h)
def bP.of {K:Le}(h:H a=some (.tup xs)):bP K H a xs:=.inl (.inl h)
def Inv.list (I:Inv X Lk U H s)(h:cJ X.K H a xs):∃ its:Lf,Vals xs its/\PlainL s.heap a its.toArray/\xs.length<=sizeLine:=by
 rcases h with h | ⟨o,its,n,hk,hc,hd,hs,hz,r⟩
 ·let⟨z,its,n,r,e⟩:=h.ok I.hok;exact⟨its,r,⟨_,n,e,rfl,rfl,rfl⟩,z⟩
 ·refine⟨its.toList,r,⟨o,n,I.kIn a o hk,hc,hd,by simpa using hs⟩,?_⟩;have e:=r.length;simp only[GP] at e;lia
def Inv.tuple (I:Inv X Lk U H s)(h:bP X.K H a xs):∃ its:Lf,Vals xs its/\IsTup s.heap a its.toArray/\xs.length<=sizeLine:=by
 rcases h with h | ⟨o,its,n,hk,hc,hs,hz,r⟩
 ·let⟨z,its,r,p⟩:=h.ok I.hok;exact⟨its,r,p,z⟩
 ·refine⟨its.toList,r,⟨o,I.kIn a o hk,hc,n,by simpa using hs⟩,?_⟩;have e:=r.length;simp only[GP] at e;lia
def Inv.list_inj (I:Inv X Lk U H s)(h:cJ X.K H a xs)(h':cJ X.K H a ys):xs=ys:=by
 let⟨its,r,⟨o,n,e,_,_,d⟩,_⟩:=I.list h;let⟨its',r',⟨o',n',e',_,_,d'⟩,_⟩:=I.list h';rw[e] at e';cases e';rw[d] at d';injection d' with d1 _;have:its=its':=by simpa using congrArg Array.toList d1
 subst this;exact r.inj r'
def Inv.tuple_inj (I:Inv X Lk U H s)(h:bP X.K H a xs)(h':bP X.K H a ys):xs=ys:=by
 let⟨its,r,⟨o,e,_,n,d⟩,_⟩:=I.tuple h;let⟨its',r',⟨o',e',_,n',d'⟩,_⟩:=I.tuple h';rw[e] at e';cases e';rw[d] at d';injection d' with d1 _;have:its=its':=by simpa using congrArg Array.toList d1
 subst this;exact r.inj r'
end
abbrev Cx.wish (X:Cx)(E:Lj):Cx:={ X with xe:=E }
abbrev Cx.nox (X:Cx):Cx:=X.wish λ_ _=>False
theorem Cx.Ok.wish {X:Cx}(ok:X.Ok)(E:Lj):(X.wish E).Ok:= ⟨ok.mod,ok.kind,ok.glob,ok.blt,ok.above,ok.inj,ok.has,ok.cab,ok.hd,ok.frames,ok.stk,ok.exf,ok.bs,ok.bsz,ok.noex,ok.exfs,ok.funs,ok.frf⟩
def Cx.Ok.unwish {X:Cx}(ok:(X.wish E).Ok):X.Ok:= ⟨ok.mod,ok.kind,ok.glob,ok.blt,ok.above,ok.inj,ok.has,ok.cab,ok.hd,ok.frames,ok.stk,ok.exf,ok.bs,ok.bsz,ok.noex,ok.exfs,ok.funs,ok.frf⟩
section
variable {X:Cx} {Lk:Li} {U:St} {H:Hp} {s:Shared} {E:Lj}
theorem Inv.wish (I:Inv X Lk U H s)(E:Lj):Inv (X.wish E) Lk U H s:=⟨I.ok.wish E,I.os,I.bare,I.base,I.loc,I.cell,I.free,I.freeC,I.pin,I.hok,I.len⟩
theorem Inv.unwish (I:Inv (X.wish E) Lk U H s):Inv X Lk U H s:=⟨I.ok.unwish,I.os,I.bare,I.base,I.loc,I.cell,I.free,I.freeC,I.pin,I.hok,I.len⟩
theorem SP.unwish (h:SP (X.wish E) Lk D f s'):SP X Lk D f s':=by
 cases f with
 | next=>let⟨U',H',I,q⟩:=h;exact⟨U',H',I.unwish,q⟩
 | brk=>let⟨U',H',I,q⟩:=h;exact⟨U',H',I.unwish,q⟩
 | cont=>let⟨U',H',I,q⟩:=h;exact⟨U',H',I.unwish,q⟩
 | ret u=>let⟨v,U',H',I,r,q⟩:=h;exact⟨v,U',H',I.unwish,r,q⟩
theorem eC.nox {st:List Stmt}{t:TS}(h:eC X.nox st t):eC X st t:=λLk s U H D I hw=>
 uG (h Lk s U H D (I.wish _) hw) (λ_ _ q=>q.unwish) λ_ _ z=>False.elim z
end
section
variable {X:Cx} {st:Stmt} {rest:List Stmt} {t u:TS} {e:Expr} {te:TE} {pos:Pos}
def B9:TS:=λD U H=>D.nx U H
def mT (t u:TS):TS:=λD U H=>t { D with nx:=u D } U H
def E1:eC X [] B9:=λ_ _ U H _ I h=>gb ⟨U,H,I,h⟩
def yI (h1:PS X st t)(h2:eC X rest u):eC X (st::rest) (mT t u):=by
 intro Lk s U H D I h;refine wpAny_execs_cons (aX (h1 Lk s U H { D with nx:=u D } I h) λf s1 q=>?_);cases f with
 | next=>let⟨U',H',I',q⟩:=q;exact h2 Lk s1 U' H' D I' q
 | ret v=>exact q
 | brk=>exact q
 | cont=>exact q
def XR (h1:PS X st t):eC X [st] t:=by
 intro Lk s U H D I h;refine wpAny_execs_cons (aX (h1 Lk s U H D I h) λf s1 q=>?_);cases f with
 | next=>exact gb q
 | ret v=>exact q
 | brk=>exact q
 | cont=>exact q
def Inv.quiet {Lk:Li}(I:Inv X Lk U H s):interactive X.env=false:=by simp[interactive,I.ok.kind]
def Al (te:TE):TS:=λD U H=>te U H λ_ H1=>D.nx U H1
def Jc (he:PE X e te)(hs:swapsWith e none pos.line X.env=pure false:=by rfl):PS X (.Expr e pos) (Al te):=by intro Lk s U H D I h;exact wpAny_Expr_any (aX (he Lk s U H _ I h) λv s1 ⟨x,H1,I1,r1,q1⟩=>⟨U,H1,I1,q1⟩) I.quiet hs
def pC (te:TE):TS:=λD U H=>te U H D.rt
def Nu (he:PE X e te):PS X (.Return (some e) pos) (pC te):=by intro Lk s U H D I h;exact wpAny_Return_some (aX (he Lk s U H _ I h) λv s1 ⟨x,H1,I1,r1,q1⟩=>⟨x,U,H1,I1,r1,q1⟩)
def pH (c:TT)(t u:TS):TS:=λD U H=>c U H λb H1=>if b=true then t D U H1 else u D U H1
def LO {c:Expr}{a b:List Stmt}{tc:TT}(hc:PT X c tc)(ha:eC X a t)(hb:eC X b u):PS X (.If c a b pos) (pH tc t u):=by
 intro Lk s U H D I h;refine wpAny_If (aX (hc Lk s U H _ I h) λd s1 zq=>?_);let⟨H1,I1,q1⟩:=zq;cases d with
 | true=>exact ha Lk s1 U H1 D I1 q1
 | false=>exact hb Lk s1 U H1 D I1 q1
end
abbrev TG:=V->St->Hp->(St->Hp->Prop)->Prop
abbrev nD:=List V->St->Hp->(St->Hp->Prop)->Prop
def PG (X:Cx)(target:Expr)(t:TG):Prop:= ∀ (Lk:Li) (s:Shared) (U:St) (H:Hp) (v:V) (u:Value) (Q:St->Hp->Prop),Inv X Lk U H s->RelV v u->t v U H Q -> Lb X (assign target X.env u) (λ_ s'=>∃ U' H',Inv X Lk U' H' s'/\Q U' H') X.xe s
def nW (X:Cx)(ts:Lg)(t:nD):Prop:= ∀ (Lk:Li) (s:Shared) (U:St) (H:Hp) (vs:List V) (us:Lf) (Q:St->Hp->Prop),Inv X Lk U H s->Vals vs us->t vs U H Q -> Lb X (assignInOrder ((assignEach ts X.env).map (·.2)) us) (λ_ s'=>∃ U' H',Inv X Lk U' H' s'/\Q U' H') X.xe s
abbrev nC:=V->V->V->Hp->(Hp->Prop)->Prop
def nI (X:Cx)(t:nC):Prop:= ∀ (Lk:Li) (s:Shared) (U:St) (H:Hp) (o i v:V) (ov iv u:Value) (Q:Hp->Prop),Inv X Lk U H s->RelV o ov->RelV i iv->RelV v u->t o i v H Q -> Lb X (setItem ov iv u) (λ_ s'=>∃ H',Inv X Lk U H' s'/\Q H') X.xe s
abbrev tT:=V->V->Hp->VK->Prop
def BY (X:Cx)(op:Operator)(t:tT):Prop:= ∀ (Lk:Li) (s:Shared) (U:St) (H:Hp) (x y:V) (v u:Value) (Q:VK),Inv X Lk U H s->RelV x v->RelV y u->t x y H Q -> Lb X (inplaceOp op v u) (EP X Lk U Q) X.xe s
section
variable {X:Cx} {pos:Pos}
def vM (i:Nat):TG:=λv U H Q=>Q (U.set i (some v)) H
def XT (hN:X.N.Nodup)(hi:X.N[i]? = some x)(hx:Loc X.env.scope x)(hf:X.fn x=true\/X.env.scope.names.lookup x=some .local:=by first | exact .inl rfl | exact .inr rfl | assumption):PG X (.Name x pos) (vM i):=by intro Lk s U H v u Q I r h;exact HL (ZE I hN hi hx r (λs' I'=>⟨_,H,I',h⟩) hf)
def lg:nD:=λvs U H Q=>vs=[]/\Q U H
def Yd (t:TG)(u:nD):nD:=λvs U H Q=>∃ v r,vs=v::r/\t v U H λU' H'=>u r U' H' Q
def EZ:nW X [] lg:=by intro Lk s U H vs us Q I r h;let⟨e,h⟩:=h;subst e;cases r;exact assignInOrder_nil ⟨U,H,I,h⟩
def Ye {e:Expr}{es:Lg}{t:TG}{u:nD}(h1:PG X e t)(h2:nW X es u) (hs:(assignEach (e::es) X.env).map (·.2)=assign e X.env::(assignEach es X.env).map (·.2):=by rfl):nW X (e::es) (Yd t u):=by
 intro Lk s U H vs us Q I r h;let⟨v,vr,e1,h⟩:=h;subst e1;cases r with
 | cons r rr=>rw[hs];refine assignInOrder_cons (aX (h1 Lk s U H _ _ _ I r h) λ_ s1 zq=>?_);let⟨TR,H1,I1,q1⟩:=zq;exact h2 Lk s1 TR H1 _ _ Q I1 rr q1
def mh (K:Le)(n:Nat)(t:nD):TG:=λv U H Q=>∃ a xs,v=.ref a/\bP K H a xs/\xs.length=n/\t xs U H Q
def DI (hc:X.calm=true)(h:nW X es t) (hn:(assignEach es X.env).length=n:=by rfl) (hst:(assignEach es X.env).findIdx? (·.1)=none:=by rfl):PG X (.Tuple es k pos) (mh X.K n t):=by intro Lk s U H v u Q I r hw;let⟨a,xs,e1,hq,hl,hw⟩:=hw;subst e1;cases r;let⟨its,rv,ht,hz⟩:=I.tuple hq;refine assign_Tuple_tuple (I.ok.hd hc) ht (by simp[hn,<-hl,rv.length]) hst λh' hx=>?_;have I1:Inv X Lk U H { s with heap:=h' }:=I.kept (t':=s.toks) λb o e=>hx b o (Up (um e)) e;exact h Lk _ U H xs _ Q I1 (by simpa using rv) hw
def rZ (to ti:TE)(t:nC):TG:=λv U H Q=>to U H λo H1=>ti U H1 λi H2=>t o i v H2 λH3=>Q U H3
def Nt {o i:Expr}{to ti:TE}{t:nC}(ho:PE X o to)(hi:PE X i ti)(hs:nI X t)
  (ha:∀ v,assign (.Subscript o i pos) X.env v=(do
   let ov <-holding [v] (eval o X.env)
   let iv <-holding [v,ov] (eval i X.env)
   standAt pos
   holding [v,ov,iv] (setItem ov iv v)
   release [v,ov,iv] []):=by intro _;rfl):PG X (.Subscript o i pos) (rZ to ti t):=by
 intro Lk s U H v u Q I r h
 rw[ha]
 refine ua (Uo (aX (ho Lk s U H _ I h) λov s1 zq=>?_))
 let⟨x,H1,I1,r1,q1⟩:=zq
 refine ua (Uo (aX (hi Lk s1 U H1 _ I1 q1) λiv s2 zq=>?_))
 let⟨y,H2,I2,r2,q2⟩:=zq
 refine ua (UI (ua (Uo (aX (hs Lk s2 U H2 x y v ov iv u _ I2 r1 r2 r q2) λ_ s3 zq=>?_))))
 let⟨H3,I3,q3⟩:=zq
 exact wpAny_release ⟨U,H3,I3,q3⟩
def fK (te:TE)(g:TG):TS:=λD U H=>te U H λx H1=>g x U H1 D.nx
def Nr {tg e:Expr}{te:TE}{g:TG}(he:PE X e te)(hg:PG X tg g)(hs:swapsWithSole [tg] e pos.line X.env=pure false:=by rfl) (hw:swappedStores [tg] e X.env=pure none:=by rfl) (h1:(assignEach [tg] X.env).map (·.2)=[assign tg X.env]:=by rfl):PS X (.Assign [tg] e pos) (fK te g):=by intro Lk s U H D I h;refine wpAny_Assign_stores (aX (he Lk s U H _ I h) λv s1 zq=>?_) hs hw;let⟨x,H1,I1,r1,q1⟩:=zq;rw[h1];exact aX (hg Lk s1 U H1 x v _ I1 r1 q1) λ_ s2 q=>q
def Nq {i:Nat}{x:Str}{e:Expr}{te:TE}{pos':Pos}(hN:X.N.Nodup)(hi:X.N[i]? = some x)(hx:Loc X.env.scope x)(he:PE X e te)(hs:swapsWith e (some (.Name x pos')) pos.line X.env=pure false:=by rfl) (hf:X.fn x=true\/X.env.scope.names.lookup x=some .local:=by first | exact .inl rfl | exact .inr rfl | assumption) : PS X (.Assign [.Name x pos'] e pos) (fK te (vM i)):=by intro Lk s U H D I h;refine wpAny_Assign_Name (aX (he Lk s U H _ I h) λv s1 zq=>?_) hs;let⟨y,H1,I1,r1,q1⟩:=zq;exact ZE I1 hN hi hx r1 (λs2 I2=>⟨_,H1,I2,q1⟩) hf
def pN (i:Nat)(te:TE)(ti:tT):TS:=λD U H=>∃ x,U[i]? = some (some x)/\te U H λy H1=>ti x y H1 λz H2=>D.nx (U.set i (some z)) H2
def DH {i:Nat}{x:Str}{e:Expr}{te:TE}{op:Operator}{ti:tT}{pos':Pos}(hN:X.N.Nodup)(hi:X.N[i]? = some x)(hx:Loc X.env.scope x)(he:PE X e te)(ho:BY X op ti)(hf:X.fn x=true\/X.env.scope.names.lookup x=some .local:=by first | exact .inl rfl | exact .inr rfl | assumption) : PS X (.AugAssign (.Name x pos') op e pos) (pN i te ti):=by
 intro Lk s U H D I h;let⟨v,e1,h⟩:=h;let⟨m,hn,hl⟩:=I.loc;have AX:tR X.env.scope x:=by rcases hx with k | k;exact .inl k;exact .inr (.inl k)
 let⟨u,r,l⟩:=hl i x v hi e1 AX;refine wpAny_AugAssign_Name ?_;have go:Lb X (eval e X.env) (λw TU=>Lb X (inplaceOp op u w) (λr TX=>Lb X (storeName X.env x r) (λ_=>SP X Lk D .next) X.xe TX) X.xe TU) X.xe s:=by refine aX (he Lk s U H _ I h) λw s1 zq=>?_;let⟨y,H1,I1,r1,q1⟩:=zq;refine aX (ho Lk s1 U H1 v y u w _ I1 r r1 q1) λz s2 zq=>?_;let⟨zv,H2,I2,r2,q2⟩:=zq;exact ZE I2 hN hi hx r2 (λs3 I3=>⟨_,H2,I3,q2⟩) hf
 rcases l with⟨hk,hm⟩ | ⟨hk,c,hc,hcell⟩
 ·exact Hx I.ok.kind hk hn hm go
 ·rcases hk with hk | hk
  ·exact HD I.ok.kind hk hc hcell go
  ·rcases hx with k | k
   ·have:X.env.scope.names.lookup x=some .free:=hk;rw[k] at this;cases this
   ·have:X.env.scope.names.lookup x=some .free:=hk;rw[k] at this;cases this
def tK (f:Int->Int->Int):tT:=λx y H Q=>∃ i j,x=.int i/\y=.int j/\Q (.int (f i j)) H
def Np:BY X .Add (tK λi j=>i+j):=by intro Lk s U H x y v u Q I r1 r2 h;let⟨i,j,e1,e2,q⟩:=h;subst e1;subst e2;let⟨t,rfl⟩:=r1;let⟨t',rfl⟩:=r2;exact iadd_int ⟨.int _,H,I.tok _,⟨_,rfl⟩,q⟩
def Nn:BY X .Sub (tK λi j=>i - j):=by intro Lk s U H x y v u Q I r1 r2 h;let⟨i,j,e1,e2,q⟩:=h;subst e1;subst e2;let⟨t,rfl⟩:=r1;let⟨t',rfl⟩:=r2;exact isub_int ⟨.int _,H,I.tok _,⟨_,rfl⟩,q⟩
def DG (c:TT)(tb:TS):TS:=λD U H=>∃ W:Nat->St->Hp->Prop,(∃ m,W m U H)/\∀ m U H,W m U H ->
 c U H λb H1=>if b=true then ∃ N:St->Hp->Prop,(∀ U' H',N U' H'->∃ m',m' < m/\W m' U' H')/\tb { D with nx:=N,ct:=N,bk:=D.nx } U H1 else D.nx U H1
def zdj {c:Expr}{body:List Stmt}{tc:TT}{tb:TS}(hp:PassesOwn (model X.prog X.w) X.A X.env X.xe)(hc:PT X c tc)(hb:eC X body tb):PS X (.While c body [] pos) (DG tc tb):=by
 intro Lk s U H D I h;let⟨W,⟨m0,w0⟩,turn⟩:=h;refine wpAny_While (codeAny_whileLoop (λn s'=>∃ U' H',Inv X Lk U' H' s'/\W n U' H') ?_ m0 ⟨U,H,I,w0⟩);rintro n s1 ⟨TR,H1,I1,w1⟩;refine UC hp (aX (hc Lk s1 TR H1 _ I1 (turn n TR H1 w1)) λb s2 zq=>?_);let⟨H2,I2,q2⟩:=zq;cases b with
 | true=>
  let⟨N,hN,q2⟩:=q2;rw[uC rfl];refine UC hp (aX (hb Lk s2 TR H2 _ I2 q2) λf s3 q3=>?_);cases f with
  | next=>let⟨TY,H3,I3,n3⟩:=q3;let⟨m',hm,w3⟩:=hN TY H3 n3;exact⟨m',hm,TY,H3,I3,w3⟩
  | cont=>let⟨TY,H3,I3,n3⟩:=q3;let⟨m',hm,w3⟩:=hN TY H3 n3;exact⟨m',hm,TY,H3,I3,w3⟩
  | brk=>exact q3
  | ret v=>exact q3
 | false=>rw[ux uP];exact gb ⟨TR,H2,I2,q2⟩
end
structure It where
 go:Nat->Hp->Prop
 yld:Nat->Hp->V->Hp->Prop
 stop:Nat->Hp->Prop
def dR (X:Cx)(Lk:Li)(H:Hp)(b:Addr):Prop:= H b=none/\b≠X.env.locals/\b∉X.fs/\(b∈X.ex\/X.s₀.heap.objs.size<=b)/\(∀ x c,X.env.cells.lookup x=some c->c≠b)/\∀ p∈X.pn++Lk,p.1≠b
def Inv.fpOk {Lk:Li}{s:Shared}(I:Inv X Lk U H s)(hb:s.heap.objs.size<=b)(hn:H' b=none):dR X Lk H' b:=by
 refine⟨hn,G7 (uI I.lt hb),I.nofs hb,.inr (uZ I.sz hb),λx c e z=>?_,λp hp z=>?_⟩
 ·let⟨v,q⟩:=I.cell x c e;exact absurd (uI q.lt (by rw[z];exact hb)) (Uc _)
 ·exact absurd (uI (um (I.pin p hp).1) (by rw[z];exact hb)) (Uc _)
structure Turn (P:Program)(w:World)(K:Le)(tg:Expr)(J:It)(fp:Ld)(it:Addr)(tn:Nat->Heap->Prop):Prop where
 mem:it∈fp
 obj:∀ i h,tn i h->∀ b∈fp,∃ o,h.get? b=some o/\∀ v,o.data≠.cell v
 keep:∀ i h h',tn i h->(∀ b∈fp,∀ o,h.get? b=some o->h'.get? b=some o)->tn i h'
 item:∀ (X:Cx),X.prog=P->X.w=w->X.K=K->X.calm=true->∀ (i:Nat) (Lk:Li) (s:Shared) (U:St) (H:Hp) (E:Lj),Inv X Lk U H s->(∀ b∈fp,dR X Lk H b)->tn i s.heap->J.go i H ->
  wpAny (model P w) X.A (pyNext (.ref it)) (λr s1=>∃ u,r=some u /\
   wpAny (model P w) X.A (letOwnedTupleGo tg (.ref it) u) (λ_ s2=>∃ x H',Inv X Lk U H' s2/\RelV x u/\J.yld i H x H'/\tn (i+1) s2.heap/\∀ b∈fp,H' b=none) E s1) E s
 done:∀ (X:Cx),X.prog=P->X.w=w->X.K=K->X.calm=true->∀ (i:Nat) (Lk:Li) (s:Shared) (U:St) (H:Hp) (E:Lj),Inv X Lk U H s->(∀ b∈fp,dR X Lk H b)->tn i s.heap->J.stop i H ->
  wpAny (model P w) X.A (pyNext (.ref it)) (λr s1=>r=none/\Inv X Lk U H s1) E s
 self:∀ (A:Around) (i:Nat) (s:Shared) (Q:Lj) (E:Lj),tn i s.heap->Q (.ref it) s->wpAny (model P w) A (pyIter (.ref it)) Q E s
abbrev TI:=St->Hp->(It->Hp->Prop)->Prop
def tW (X:Cx)(Lk:Li)(U:St)(tg:Expr)(R:It->Hp->Prop)(itv:Value)(s2:Shared):Prop:= ∃ (it:Addr) (fp:Ld) (tn:Nat->Heap->Prop) (J:It) (H':Hp),itv=.ref it/\Inv X Lk U H' s2/\Turn X.prog X.w X.K tg J fp it tn/\tn 0 s2.heap/\(∀ b∈fp,dR X Lk H' b)/\R J H'
def PI (X:Cx)(tg iter:Expr)(wi:TI):Prop:= ∀ (Lk:Li) (s:Shared) (U:St) (H:Hp) (R:It->Hp->Prop),Inv X Lk U H s->wi U H R -> Lb X (eval iter X.env) (λv s1=>Lb X (pyIter v) (tW X Lk U tg R) X.xe s1) X.xe s
def tq {s:Shared}{o:Obj}(ho:s.heap.get? it=some o)(hc:o.cls=.type n)(hd:o.data=.fields vs) (hn:["enumerate","zip","dict_itemiterator","dict_reverseitemiterator","odict_iterator","itertools.zip_longest","itertools.pairwise"].contains n=false) (hQ:Q () s):wpAny M A (letOwnedTupleGo tg (.ref it) u) Q E s:=by
  unfold letOwnedTupleGo
  cases tg<;>first
    | exact uh hQ
    | (cases u<;>first
        | exact uh hQ
        | (refine ua (wpAny_load ho ?_)
           rw[hc,hd]
           show wpAny M A (if (["enumerate","zip","dict_itemiterator","dict_reverseitemiterator","odict_iterator","itertools.zip_longest","itertools.pairwise"].contains n&&vs[0]? == some (rawInt _))=true then _ else _) Q E s
           rw[ux (by intro h;rw[hn,Hy] at h;cases h)]
           exact uh hQ))
def t6 (K:Le)(a:Addr):It:= ⟨λi H=>∃ xs x,cJ K H a xs/\xs[i]? = some x,λi H x H'=>H' = H/\∀ xs,cJ K H a xs->xs[i]? = some x,λi H=>∃ xs,cJ K H a xs/\xs.length<=i⟩
def tZ (K:Le)(a:Addr):It:= ⟨λi H=>∃ xs x,bP K H a xs/\xs[i]? = some x,λi H x H'=>H' = H/\∀ xs,bP K H a xs->xs[i]? = some x,λi H=>∃ xs,bP K H a xs/\xs.length<=i⟩
noncomputable def my (lo:Int)(n:Nat):It:=⟨λi _=>i<n,λi H x H'=>H' = H/\x=.int (lo+i),λi _=>n<=i⟩
def zcj {P:Program}{w:World}{K:Le}{tg:Expr}(a it:Addr):Turn P w K tg (t6 K a) [it] it (λi h=>h.IsListIter it a i) where
 mem:=aD
 obj:=λi h st b hb=>by
  have e:b=it:=by simpa using hb
  subst e
  let⟨o,e,c,d⟩:=st
  exact⟨o,e,λv z=>by rw[d] at z;cases z⟩
 keep:=λi h h' st k=>st.at λo e=>k it aD o e
 item:=by
  intro X hP hw hK hc i Lk s U H E I hf st hg
  subst hP hw hK
  let⟨xs,x,hq,hx⟩:=hg
  let⟨its,rv,p,hz⟩:=I.list hq
  let⟨u,hu,ru⟩:=rv.get hx
  let⟨f0,f1,f2,f3,f4,f5⟩:=hf it aD
  refine wpAny_pyNext_list_item st p.isList (x:=u) (by simpa using hu) λh' st' sb=>?_
  have I1:Inv X Lk U H { s with heap:=h' }:=I.turned (t':=s.toks) (λb o hb e=>(sb.2 b hb).trans e) f0 f1 f3 f4 f5
  let⟨o,e,c,d⟩:=id st'
  exact⟨u,rfl,tq (s:={ s with heap:=h' }) e c d aA ⟨x,H,I1,ru,⟨rfl,λys hy=>by rw[I.list_inj hy hq];exact hx⟩,st',λb hb=>(hf b hb).1⟩⟩
 done:=by
  intro X hP hw hK hc i Lk s U H E I hf st hg
  subst hP hw hK
  let⟨xs,hq,hx⟩:=hg
  let⟨its,rv,p,hz⟩:=I.list hq
  let⟨f0,f1,f2,f3,f4,f5⟩:=hf it aD
  have hl:=rv.length
  exact wpAny_pyNext_list_end (I.ok.hd hc) st p.isList (by simp;lia) λh' eb=>⟨rfl,I.turned (t':=s.toks) (λb o hb e=>eb b o hb e) f0 f1 f3 f4 f5⟩
 self:=λ_ _ _ _ _ st h=>wpAny_pyIter_listiter st h
def KS {P:Program}{w:World}{K:Le}{tg:Expr}(a it:Addr):Turn P w K tg (tZ K a) [it] it (λi h=>h.IsTupleIter it a i) where
 mem:=aD
 obj:=λi h st b hb=>by
  have e:b=it:=by simpa using hb
  subst e
  let⟨o,e,c,d⟩:=st
  exact⟨o,e,λv z=>by rw[d] at z;cases z⟩
 keep:=λi h h' st k=>st.at λo e=>k it aD o e
 item:=by
  intro X hP hw hK hc i Lk s U H E I hf st hg
  subst hP hw hK
  let⟨xs,x,hq,hx⟩:=hg
  let⟨its,rv,p,hz⟩:=I.tuple hq
  let⟨u,hu,ru⟩:=rv.get hx
  let⟨f0,f1,f2,f3,f4,f5⟩:=hf it aD
  refine wpAny_pyNext_tuple_item st (show s.heap.IsTuple a its.toArray from p) (x:=u) (by simpa using hu) λh' st' sb=>?_
  have I1:Inv X Lk U H { s with heap:=h' }:=I.turned (t':=s.toks) (λb o hb e=>(sb.2 b hb).trans e) f0 f1 f3 f4 f5
  let⟨o,e,c,d⟩:=id st'
  exact⟨u,rfl,tq (s:={ s with heap:=h' }) e c d aA ⟨x,H,I1,ru,⟨rfl,λys hy=>by rw[I.tuple_inj hy hq];exact hx⟩,st',λb hb=>(hf b hb).1⟩⟩
 done:=by
  intro X hP hw hK hc i Lk s U H E I hf st hg
  subst hP hw hK
  let⟨xs,hq,hx⟩:=hg
  let⟨its,rv,p,hz⟩:=I.tuple hq
  let⟨f0,f1,f2,f3,f4,f5⟩:=hf it aD
  have hl:=rv.length
  exact wpAny_pyNext_tuple_end (I.ok.hd hc) st (show s.heap.IsTuple a its.toArray from p) (by simp;lia) λh' eb=>⟨rfl,I.turned (t':=s.toks) (λb o hb e=>eb b o hb e) f0 f1 f3 f4 f5⟩
 self:=λ_ _ _ _ _ st h=>wpAny_pyIter_tupleiter st h
def KU {P:Program}{w:World}{K:Le}{tg:Expr}(it:Addr)(lo:Int)(n:Nat):Turn P w K tg (my lo n) [it] it (λi h=>IsRangeIter h it (lo+(i:Nat) * 1) ((n:Int) - (i:Nat)) 1) where
 mem:=aD
 obj:=λi h st b hb=>by
  have e:b=it:=by simpa using hb
  subst e
  exact⟨_,st,λv z=>by
   have z':Data.fields _=Data.cell v:=z
   cases z'⟩
 keep:=λi h h' st k=>k it aD _ st
 item:=by
  intro X hP hw hK hc i Lk s U H E I hf st hg
  subst hP hw hK
  let⟨f0,f1,f2,f3,f4,f5⟩:=hf it aD
  have W:=Walks.range (prog:=X.prog) (w:=X.w) (I.ok.hd hc) it lo 1 n
  refine W.item i s _ _ hg st λv h' tk hv st' kk=>?_
  let⟨t,rfl⟩:=hv
  have I1:Inv X Lk U H { s with heap:=h',toks:=tk }:=I.turned (λb o hb e=>kk b o (by simpa using hb) e) f0 f1 f3 f4 f5
  refine⟨_,rfl,tq (s:={ s with heap:=h',toks:=tk }) (n:="range_iterator") st' rfl rfl aA ⟨.int (lo+i),H,I1,⟨t,?_⟩,⟨rfl,rfl⟩,st',λb hb=>(hf b hb).1⟩⟩
  rw[Int.mul_one]
 done:=by
  intro X hP hw hK hc i Lk s U H E I hf st hg
  subst hP hw hK
  let⟨f0,f1,f2,f3,f4,f5⟩:=hf it aD
  exact wpAny_pyNext_range_end (I.ok.hd hc) st (by have:n<=i:=hg;lia) λh' eb=>⟨rfl,I.turned (t':=s.toks) (λb o hb e=>eb b o hb e) f0 f1 f3 f4 f5⟩
 self:=λ_ _ _ _ _ st h=>wpAny_pyIter_rangeiter st h
section
variable {X:Cx} {tg:Expr}
def Yg {Lk:Li}{U:St}{H:Hp}{s:Shared}{R:It->Hp->Prop}{E:Lj}{lo hi:Int}{t u v:Tok}{tk:Nat}(I:Inv X Lk U H s)(h1:-(2 ^ 62)<=lo)(h2:lo<2 ^ 62)(h3:-(2 ^ 62)<=hi)(h4:hi<2 ^ 62) (q:R (my lo (hi - lo).toNat) H):Lb X (pyIter (.ref s.heap.objs.size)) (tW X Lk U tg R) E { s with heap:=s.heap.push { cls:=.type "range",data:=.fields #[.int lo t,.int hi u,.int 1 v] },toks:=tk }:=by
 refine wpAny_pyIter_range (IsRange.new ..) (small_one h1 h2 h3 h4) ?_;have I1:Inv X Lk U H { s with heap:=s.heap.push { cls:=.type "range",data:=.fields #[.int lo t,.int hi u,.int 1 v] },toks:=tk }:=I.kept λb o e=>uf _ e
 refine⟨(s.heap.push { cls:=.type "range",data:=.fields #[.int lo t,.int hi u,.int 1 v] }).objs.size,[(s.heap.push { cls:=.type "range",data:=.fields #[.int lo t,.int hi u,.int 1 v] }).objs.size],_,_,H,rfl,
  I1.kept (t':=tk) λb o e=>uf _ e,KU _ lo (hi - lo).toNat,?_,λb hb=>?_,q⟩
 ·have e1:lo+((0:Nat):Int) * 1=lo:=aD
  have e2:(((hi - lo).toNat:Nat):Int) - ((0:Nat):Int)=Builtin.Range.rangeSize lo hi 1:=by rw[rangeSize_one];split<;>lia
  show IsRangeIter _ _ (lo+((0:Nat):Int) * 1) ((((hi - lo).toNat:Nat):Int) - ((0:Nat):Int)) 1;rw[e1,e2];exact uB _ rfl
 ·have e:b=(s.heap.push { cls:=.type "range",data:=.fields #[.int lo t,.int hi u,.int 1 v] }).objs.size:=by simpa using hb
  subst e;exact I1.fpOk (uj _) (I1.hok.fresh (uj _))
def LN (ta:TA):TI:=λU H R=>ta U H λvs H1=>∃ j:Int,vs=[.int j]/\-(2 ^ 62)<=j/\j<2 ^ 62/\R (my 0 j.toNat) H1
def LM (ta:TA):TI:=λU H R=>ta U H λvs H1=>∃ i j:Int,vs=[.int i,.int j]/\(-(2 ^ 62)<=i/\i<2 ^ 62/\-(2 ^ 62)<=j/\j<2 ^ 62)/\R (my i (j - i).toNat) H1
def zck {a:Expr}{ta:TA}{p pos:Pos}(hg:Gl X "range")(hm:X.mg "range" = none)(ha:PA X [a] ta)(hs:starEach [a] X.env=[(false,eval a X.env)]:=by rfl):PI X tg (.Call (.Name "range" p) [a] [] pos) (LN ta):=by
 intro Lk s U H R I h;refine Call_ (Qi I hg hm HM (PyProof.Rows.callWith_type1 (aX (ha pos Lk s U H _ I h) λus s1 zq=>?_) hs rfl));let⟨vs,H1,I1,r1,q1⟩:=zq;let⟨j,e,q1,q2,q⟩:=q1;subst e;cases r1 with
 | cons r rr=>cases rr;let⟨t,rfl⟩:=r;exact call_range_1 (Yg I1 (by omega) (by omega) q1 q2 (by simpa using q))
def zcl {a b:Expr}{ta:TA}{p pos:Pos}(hg:Gl X "range")(hm:X.mg "range" = none)(ha:PA X [a,b] ta)(hs:starEach [a,b] X.env=[(false,eval a X.env),(false,eval b X.env)]:=by rfl) (hs2:starEach [b] X.env=[(false,eval b X.env)]:=by rfl) : PI X tg (.Call (.Name "range" p) [a,b] [] pos) (LM ta):=by
 intro Lk s U H R I h;refine Call_ (Qi I hg hm HM (PyProof.Rows.callWith_type1 (aX (ha pos Lk s U H _ I h) λus s1 zq=>?_) (by rw[hs,hs2]) (by rw[hs2];rfl)));let⟨vs,H1,I1,r1,q1⟩:=zq;let⟨i,j,e,⟨q1,q2,q3,q4⟩,q⟩:=q1;subst e;cases r1 with
 | cons r rr=>
  cases rr with
  | cons r' rr=>cases rr;let⟨t,rfl⟩:=r;let⟨t',rfl⟩:=r';exact call_range_2 (Yg I1 q1 q2 q3 q4 q)
def pI (wi:TI)(g:TG)(tb:TS):TS:=λD U H=>wi U H λJ H1=>∃ W:Nat->Nat->St->Hp->Prop,(∃ m,W 0 m U H1)/\∀ i m U H,W i m U H ->
 (J.stop i H/\D.nx U H)\/(J.go i H/\∃ N:St->Hp->Prop,(∀ U' H',N U' H'->∃ m',m' < m/\W (i+1) m' U' H')/\∀ x H',J.yld i H x H'->g x U H' λT4 H2=>tb { D with nx:=N,ct:=N,bk:=D.nx } T4 H2)
def Qj (fp:Ld)(h:Heap):Li:=fp.filterMap λb=>(h.get? b).map λo=>(b,o)
def v7 {h:Heap}(hb:b∈fp)(e:h.get? b=some o):(b,o)∈Qj fp h:=List.mem_filterMap.mpr ⟨b,hb,by rw[e];rfl⟩
def zcm {h:Heap}(hp:p∈Qj fp h):p.1∈fp/\h.get? p.1=some p.2:=by
 let⟨b,hb,e⟩:=List.mem_filterMap.mp hp;cases q:h.get? b with
 | none=>rw[q] at e;cases e
 | some o=>rw[q] at e;have e':(b,o)=p:=uQ e;subst e';exact⟨hb,q⟩
def Inv.pinned {Lk:Li}{s:Shared}(I:Inv X Lk U H s)(hf:∀ b∈fp,dR X Lk H b)(ho:∀ b∈fp,∃ o,s.heap.get? b=some o/\∀ v,o.data≠.cell v):Inv X (Lk++Qj fp s.heap) U H s:=
 I.pins_of λp hp=>(uo.mp hp).elim (λz=>I.pin p (uJ _ z)) λz=>by
  let⟨hb,e⟩:=zcm z
  let⟨f0,f1,f2,_⟩:=hf p.1 hb
  let⟨o,e',d⟩:=ho p.1 hb
  rw[e] at e';cases e'
  exact⟨e,f0,f1,f2,d⟩
def Inv.unpinned {Lk pl:Li}(I:Inv X (Lk++pl) U H s):Inv X Lk U H s:=I.pins_of λp hp=>I.pin p (uJ _ (uW _ hp))
def OW {iter:Expr}{body:List Stmt}{wi:TI}{g:TG}{tb:TS}{pos:Pos}(hp:PassesOwn (model X.prog X.w) X.A X.env X.xe)(hc:X.calm=true)(hi:PI X tg iter wi)(hg:PG X tg g)(hb:eC X body tb) (hs:∀ x,foldedSetIterable iter X.env x=pure x:=by intro _;rfl):PS X (.For tg iter body [] pos) (pI wi g tb):=by
 intro Lk s U H D I h;refine wpAny_For (aX (hi Lk s U H _ I h) λv s1 h1=>aX h1 λitv s2 h2=>?_) hs;let⟨it,fp,tn,J,H2,e,I2,T,st2,f2,W,⟨m0,w0⟩,turn⟩:=h2;subst e;have stat:∀ {H':Hp},(∀ b∈fp,H' b=none)->∀ b∈fp,dR X Lk H' b:=λhn b hb=>⟨hn b hb,(f2 b hb).2⟩
 refine codeAny_forLoop_any (λn s'=>∃ i U' H',Inv X Lk U' H' s'/\tn i s'.heap/\(∀ b∈fp,H' b=none)/\W i n U' H') ?_ m0 ⟨0,U,H2,I2,st2,λb hb=>(f2 b hb).1,w0⟩;rintro n s3 ⟨i,TY,H3,I3,st3,fr3,w3⟩;rcases turn i n TY H3 w3 with⟨stop,qn⟩ | ⟨go,N,hN,step⟩
 ·refine UC hp (aX (T.done X rfl rfl rfl hc i Lk s3 TY H3 X.xe I3 (stat fr3) st3 stop) λr s4 zq=>?_);let⟨hr,I4⟩:=zq;subst hr;exact gb ⟨TY,H3,I4,qn⟩
 ·refine UC hp (aX (T.item X rfl rfl rfl hc i Lk s3 TY H3 X.xe I3 (stat fr3) st3 go) λr s4 zq=>?_);let⟨u,hr,h4⟩:=zq;subst hr;refine UC hp (aX h4 λ_ s5 zq=>?_);let⟨x,H5,I5,r5,y5,st5,fr5⟩:=zq;have I5':=I5.pinned (stat fr5) (T.obj _ _ st5);refine UC hp (aX (hg _ s5 TY H5 x u _ I5' r5 (step x H5 y5)) λ_ s6 zq=>?_);let⟨T2,H6,I6,q6⟩:=zq;refine UC hp (aX (hb _ s6 T2 H6 _ I6 q6) λf s7 q7=>?_);have again:∀ {TZ:St} {H7:Hp},Inv X (Lk++Qj fp s5.heap) TZ H7 s7->N TZ H7->∃ m,m<n/\∃ i U' H',Inv X Lk U' H' s7/\tn i s7.heap/\(∀ b∈fp,H' b=none)/\W i m U' H':=λ{TZ H7} I7 n7=>by let⟨m',hm,w7⟩:=hN TZ H7 n7;refine⟨m',hm,i+1,TZ,H7,I7.unpinned,T.keep _ _ _ st5 λb hb o e=>(I7.pin (b,o) (uJ _ (uJ _ (v7 hb e)))).1,λb hb=>?_,w7⟩;let⟨o,e,d⟩:=T.obj _ _ st5 b hb;exact(I7.pin (b,o) (uJ _ (uJ _ (v7 hb e)))).2.1
  cases f with
  | next=>let⟨TZ,H7,I7,n7⟩:=q7;exact again I7 n7
  | cont=>let⟨TZ,H7,I7,n7⟩:=q7;exact again I7 n7
  | brk=>let⟨TZ,H7,I7,q7⟩:=q7;exact⟨TZ,H7,I7.unpinned,q7⟩
  | ret v=>let⟨x7,TZ,H7,I7,r7,q7⟩:=q7;exact⟨x7,TZ,H7,I7.unpinned,r7,q7⟩
end
abbrev R2:=V->V->Hp->VK->Prop
def bR (X:Cx)(f:Value->Value->Sem Value)(r:R2):Prop:= ∀ (Lk:Li) (s:Shared) (U:St) (H:Hp) (x y:V) (v u:Value) (Q:VK),Inv X Lk U H s->RelV x v->RelV y u->r x y H Q -> Lb X (f v u) (EP X Lk U Q) X.xe s
def tS (X:Cx)(f:Value->Sem Value)(r:V->Hp->VK->Prop):Prop:= ∀ (Lk:Li) (s:Shared) (U:St) (H:Hp) (x:V) (v:Value) (Q:VK),Inv X Lk U H s->RelV x v->r x H Q -> Lb X (f v) (EP X Lk U Q) X.xe s
def qD (X:Cx)(f:Value)(r:List V->Hp->VK->Prop):Prop:= ∀ (Lk:Li) (s:Shared) (U:St) (H:Hp) (xs:List V) (us:Lf) (Q:VK),Inv X Lk U H s->Vals xs us->r xs H Q -> Lb X (call f us) (EP X Lk U Q) X.xe s
def BW (X:Cx)(r:V->Hp->(Bool->Hp->Prop)->Prop):Prop:= ∀ (Lk:Li) (s:Shared) (U:St) (H:Hp) (x:V) (v:Value) (Q:Bool->Hp->Prop),Inv X Lk U H s->RelV x v->r x H Q -> Lb X (truthy v) (TP X Lk U Q) X.xe s
def pE (r:R2)(ta tb:TE):TE:=λU H Q=>ta U H λx H1=>tb U H1 λy H2=>r x y H2 Q
def tUn (r:V->Hp->VK->Prop)(ta:TE):TE:=λU H Q=>ta U H λx H1=>r x H1 Q
def rI (C:Int->Int->Prop)(g:Int->Int->V):R2:=λx y H Q=>∃ i j,x=.int i/\y=.int j/\C i j/\Q (g i j) H
def lU (g:Int->Int->V):R2:=λx y H Q=>∃ i j,x=.int i/\y=.int j/\Q (g i j) H
def rU (g:Int->V):V->Hp->VK->Prop:=λx H Q=>∃ i,x=.int i/\Q (g i) H
section
variable {X:Cx} {a b c:Expr} {ta tb tc:TE} {pos:Pos}
def nv (ha:PE X a ta)(hb:PE X b tb){Lk:Li}{s:Shared}{U:St}{H:Hp}{R:V->V->Hp->Prop}(I:Inv X Lk U H s) (h:ta U H λx H1=>tb U H1 λy H2=>R x y H2) {Q:Lj} {f:Value->Value->Sem Value} (hf:∀ v u s2 x y H2,Inv X Lk U H2 s2->RelV x v->RelV y u->R x y H2->Lb X (f v u) Q X.xe s2) : Lb X (eval a X.env) (λv T9=>Lb X (eval b X.env) (λu TU=>Lb X (f v u) Q X.xe TU) X.xe T9) X.xe s:=by refine aX (ha Lk s U H _ I h) λv s1 zq=>?_;let⟨x,H1,I1,r1,q1⟩:=zq;refine aX (hb Lk s1 U H1 _ I1 q1) λu s2 zq=>?_;let⟨y,H2,I2,r2,q2⟩:=zq;exact hf v u s2 x y H2 I2 r1 r2 q2
def LL (ho:bR X (binaryOp op) r)(ha:PE X a ta)(hb:PE X b tb):PE X (.BinOp a op b pos) (pE r ta tb):=by intro Lk s U H Q I h;exact wpAny_BinOp (nv ha hb I h λv u s2 x y H2 I2 rx ry q=>ho Lk s2 U H2 x y v u Q I2 rx ry q)
def LK {op:UnaryOp}{r:V->Hp->VK->Prop}(ho:tS X (unaryOp op) r)(ha:PE X a ta):PE X (.UnaryOp op a pos) (tUn r ta):=by intro Lk s U H Q I h;exact UnaryOp_ (aX (ha Lk s U H _ I h) λv s1 ⟨x,H1,I1,r1,q1⟩=>ho Lk s1 U H1 x v Q I1 r1 q1)
def tH {f:Value->Value->Sem Value}{C:Int->Int->Prop}{g:Int->Int->Int} (rule:∀ (i j:Int) (t u:Tok) (s:Shared) (Q:Lj) (E:Lj),C i j->Q (.int (g i j) s.toks) { s with toks:=s.toks+1 }->Lb X (f (.int i t) (.int j u)) Q E s) : bR X f (rI C λi j=>.int (g i j)):=by intro Lk s U H x y v u Q I rx ry h;let⟨i,j,rfl,rfl,hc,q⟩:=h;let⟨t,rfl⟩:=rx;let⟨t',rfl⟩:=ry;exact rule i j t t' s _ _ hc ⟨.int (g i j),H,I.tok _,⟨_,rfl⟩,q⟩
def rh {f:Value->Value->Sem Value}{g:Int->Int->Int} (rule:∀ (i j:Int) (t u:Tok) (s:Shared) (Q:Lj) (E:Lj),Q (.int (g i j) s.toks) { s with toks:=s.toks+1 }->Lb X (f (.int i t) (.int j u)) Q E s) : bR X f (lU λi j=>.int (g i j)):=by intro Lk s U H x y v u Q I rx ry h;let⟨i,j,rfl,rfl,q⟩:=h;let⟨t,rfl⟩:=rx;let⟨t',rfl⟩:=ry;exact rule i j t t' s _ _ ⟨.int (g i j),H,I.tok _,⟨_,rfl⟩,q⟩
def lV {f:Value->Value->Sem Value}{g:Int->Int->Bool} (rule:∀ (i j:Int) (t u:Tok) (s:Shared) (Q:Lj) (E:Lj),Q (.bool (g i j)) s->Lb X (f (.int i t) (.int j u)) Q E s) : bR X f (lU λi j=>.bl (g i j)):=by intro Lk s U H x y v u Q I rx ry h;let⟨i,j,rfl,rfl,q⟩:=h;let⟨t,rfl⟩:=rx;let⟨t',rfl⟩:=ry;exact rule i j t t' s _ _ ⟨.bl (g i j),H,I,rfl,q⟩
def B2 (i j:Int):Prop:=0<j/\j<1073741824
def B1 (i j:Int):Prop:=0<=j/\j<=1000000/\i.natAbs<2 ^ 64
def nO (i j:Int):Prop:=(-(2 ^ 64)<i/\i<2 ^ 64)\/(-(2 ^ 64)<j/\j<2 ^ 64)
def nO.ok (h:nO i j):IntMulOk i j:=by
 rcases h with⟨h1,h2⟩ | ⟨h1,h2⟩
 ·exact .of_left (intBits_le_64 h1 h2)
 ·exact .of_right (intBits_le_64 h1 h2)
def OV:bR X (binaryOp .Add) (lU λi j=>.int (i+j)):=rh λ_ _ _ _ _ _ _ q=>add_int q
def OU:bR X (binaryOp .Sub) (lU λi j=>.int (i - j)):=rh λ_ _ _ _ _ _ _ q=>sub_int q
def SM:bR X (binaryOp .FloorDiv) (rI B2 λi j=>.int (i / j)):=tH λi j _ _ _ _ _ hc q=>by have h1:(0:Int)<j:=hc.1;have h2:j<1073741824:=hc.2;exact floordiv_int aB (by rw[Int.fdiv_eq_ediv_of_nonneg i aB];exact q) (.inl (PyProof.noPylong_small aB))
def OS:bR X (binaryOp .Mod) (rI (λ_ j=>0<j) λi j=>.int (i % j)):=tH λi j _ _ _ _ _ hc q=>by have h1:(0:Int)<j:=hc;exact mod_int' aB (by rw[Int.fmod_eq_emod_of_nonneg i aB];exact q)
def OR:bR X (binaryOp .Pow) (rI B1 λi j=>.int (i ^ j.toNat)):=tH λ_ _ _ _ _ _ _ hc q=>pow_int_small hc.1 hc.2.1 hc.2.2 q
def unI {f:Value->Sem Value}{g:Int->Int} (rule:∀ (i:Int) (t:Tok) (s:Shared) (Q:Lj) (E:Lj),Q (.int (g i) s.toks) { s with toks:=s.toks+1 }->Lb X (f (.int i t)) Q E s) : tS X f (rU λi=>.int (g i)):=by intro Lk s U H x v Q I rx h;let⟨i,rfl,q⟩:=h;let⟨t,rfl⟩:=rx;exact rule i t s _ _ ⟨.int (g i),H,I.tok _,⟨_,rfl⟩,q⟩
def OQ:tS X (unaryOp .USub) (rU λi=>.int (-i)):=unI λ_ _ _ _ _ q=>neg_int q
end
noncomputable def iX:V->V->Bool
 | .non,.non=>true | .non,.int _=>true | .int _,.non=>true | .non,.bl _=>true | .bl _,.non=>true | .non,.str _=>true | .str _,.non=>true
 | .int _,.int _=>true | .bl _,.bl _=>true | .str _,.str _=>true | .byt _,.byt _=>true
 | .int _,.str _=>true | .str _,.int _=>true | .bl _,.str _=>true | .str _,.bl _=>true
 | _,_=>false
def rEq:R2:=λx y H Q=>iX x y=true/\Q (.bl (decide (x=y))) H
def rNe:R2:=λx y H Q=>iX x y=true/\Q (.bl (!decide (x=y))) H
def EY:decide (V.int i=V.int j)=(i == j):=by rw[U7];simp
def DF:decide (V.bl i=V.bl j)=(i == j):=by rw[U7];simp
def EX:decide (V.str i=V.str j)=(i == j):=by rw[U7];simp
def EW {i j:Array UInt8}:decide (V.byt i=V.byt j)=(i.toList == j.toList):=by rw[U7];cases i;cases j;simp
section
variable {X:Cx} {a b c:Expr} {ta tb tc:TE} {pos:Pos}
def aG {Lk:Li}(I:Inv X Lk U H s)(q:Q (.bl k) H)(e:k=k'):EP X Lk U Q (.bool k') s:=by subst e;exact⟨.bl k,H,I,rfl,q⟩
def LJ:bR X (compareOp .Eq) rEq:=by
 intro Lk s U H x y v u Q I rx ry h;let⟨hs,q⟩:=h;cases x with
 | non=>
  cases rx;cases y with
  | non=>cases ry;exact PySem.EqNone.eq_none_none (aG I q (by simp))
  | bl j=>cases ry;exact PySem.EqNone.eq_none_bool (aG I q (by simp))
  | int j=>let⟨t',rfl⟩:=ry;exact PySem.EqNone.eq_none_int (aG I q (by simp))
  | str j=>let⟨t',rfl⟩:=ry;exact PySem.EqNone.eq_none_str (aG I q (by simp))
  | _=>exact absurd (show false=true from hs) uP
 | bl i=>
  cases rx;cases y with
  | non=>cases ry;exact PySem.EqNone.eq_bool_none (aG I q (by simp))
  | bl j=>cases ry;exact eq_bool (aG I q DF)
  | str j=>let⟨t',rfl⟩:=ry;exact PySem.EqMixed.eq_bool_str (aG I q (by simp))
  | _=>exact absurd (show false=true from hs) uP
 | int i=>
  let⟨t,rfl⟩:=rx;cases y with
  | non=>cases ry;exact PySem.EqNone.eq_int_none (aG I q (by simp))
  | int j=>let⟨t',rfl⟩:=ry;exact eq_int (aG I q EY)
  | str j=>let⟨t',rfl⟩:=ry;exact PySem.EqMixed.eq_int_str (aG I q (by simp))
  | _=>exact absurd (show false=true from hs) uP
 | str i=>
  let⟨t,rfl⟩:=rx;cases y with
  | non=>cases ry;exact PySem.EqNone.eq_str_none (aG I q (by simp))
  | bl j=>cases ry;exact PySem.EqMixed.eq_str_bool (aG I q (by simp))
  | int j=>let⟨t',rfl⟩:=ry;exact PySem.EqMixed.eq_str_int (aG I q (by simp))
  | str j=>let⟨t',rfl⟩:=ry;exact eq_str (aG I q EX)
  | _=>exact absurd (show false=true from hs) uP
 | byt i=>
  let⟨t,rfl⟩:=rx;cases y with
  | byt j=>let⟨t',rfl⟩:=ry;exact PySem.W.eq_bytes (aG I q EW)
  | _=>exact absurd (show false=true from hs) uP
 | _=>cases y<;>exact absurd (show false=true from hs) uP
def LI:bR X (compareOp .NotEq) rNe:=by
 intro Lk s U H x y v u Q I rx ry h;let⟨hs,q⟩:=h;cases x with
 | non=>
  cases rx;cases y with
  | non=>cases ry;exact PySem.EqNone.ne_none_none (aG I q (by simp))
  | bl j=>cases ry;exact PySem.EqNone.ne_none_bool (aG I q (by simp))
  | int j=>let⟨t',rfl⟩:=ry;exact PySem.EqNone.ne_none_int (aG I q (by simp))
  | str j=>let⟨t',rfl⟩:=ry;exact PySem.EqNone.ne_none_str (aG I q (by simp))
  | _=>exact absurd (show false=true from hs) uP
 | bl i=>
  cases rx;cases y with
  | non=>cases ry;exact PySem.EqNone.ne_bool_none (aG I q (by simp))
  | bl j=>cases ry;exact ne_bool (aG I q (congrArg not DF))
  | str j=>let⟨t',rfl⟩:=ry;exact PySem.EqMixed.ne_bool_str (aG I q (by simp))
  | _=>exact absurd (show false=true from hs) uP
 | int i=>
  let⟨t,rfl⟩:=rx;cases y with
  | non=>cases ry;exact PySem.EqNone.ne_int_none (aG I q (by simp))
  | int j=>let⟨t',rfl⟩:=ry;exact ne_int (aG I q (congrArg not EY))
  | str j=>let⟨t',rfl⟩:=ry;exact PySem.EqMixed.ne_int_str (aG I q (by simp))
  | _=>exact absurd (show false=true from hs) uP
 | str i=>
  let⟨t,rfl⟩:=rx;cases y with
  | non=>cases ry;exact PySem.EqNone.ne_str_none (aG I q (by simp))
  | bl j=>cases ry;exact PySem.EqMixed.ne_str_bool (aG I q (by simp))
  | int j=>let⟨t',rfl⟩:=ry;exact PySem.EqMixed.ne_str_int (aG I q (by simp))
  | str j=>let⟨t',rfl⟩:=ry;exact ne_str (aG I q (congrArg not EX))
  | _=>exact absurd (show false=true from hs) uP
 | byt i=>
  let⟨t,rfl⟩:=rx;cases y with
  | byt j=>let⟨t',rfl⟩:=ry;exact PySem.W.ne_bytes (aG I q (congrArg not EW))
  | _=>exact absurd (show false=true from hs) uP
 | _=>cases y<;>exact absurd (show false=true from hs) uP
def LH:bR X (compareOp .Lt) (lU λi j=>.bl (decide (i<j))):=lV λ_ _ _ _ _ _ _ q=>lt_int q
def LG:bR X (compareOp .LtE) (lU λi j=>.bl (decide (i<=j))):=lV λ_ _ _ _ _ _ _ q=>le_int q
def LF:bR X (compareOp .Gt) (lU λi j=>.bl (decide (j<i))):=lV λ_ _ _ _ _ _ _ q=>gt_int q
def LD:bR X (compareOp .GtE) (lU λi j=>.bl (decide (j<=i))):=lV λ_ _ _ _ _ _ _ q=>ge_int q
def zcn:bR X (compareOp .In) (λx y H Q=>∃ i j,x=.str i/\y=.str j/\Q (.bl (!(Builtin.Str.occurrences j i 0 j.length 1).isEmpty)) H):=by intro Lk s U H x y v u Q I rx ry h;let⟨i,j,rfl,rfl,q⟩:=h;let⟨t,rfl⟩:=rx;let⟨t',rfl⟩:=ry;exact in_str (aG I q rfl)
def N9:bR X (compareOp .Is) (λx y H Q=>y=.non/\Q (.bl (decide (x=.non))) H):=by
 intro Lk s U H x y v u Q I rx ry h;let⟨rfl,q⟩:=h;cases ry;refine is_none_gen (aG I q ?_)
 cases x<;>first
  | (cases rx;rfl)
  | (let⟨t,rfl⟩:=rx;rfl)
def SK:bR X (compareOp .IsNot) (λx y H Q=>y=.non/\Q (.bl (!decide (x=.non))) H):=by
 intro Lk s U H x y v u Q I rx ry h;let⟨rfl,q⟩:=h;cases ry;refine isnot_none_gen (aG I q ?_)
 cases x<;>first
  | (cases rx;rfl)
  | (let⟨t,rfl⟩:=rx;rfl)
def XU:bR X (compareOp .NotIn) (λx y H Q=>∃ i j,x=.str i/\y=.str j/\Q (.bl (!(!(Builtin.Str.occurrences j i 0 j.length 1).isEmpty))) H):=by intro Lk s U H x y v u Q I rx ry h;let⟨i,j,rfl,rfl,q⟩:=h;let⟨t,rfl⟩:=rx;let⟨t',rfl⟩:=ry;exact notIn_str (aG I q rfl)
def SJ (ho:bR X (compareOp op) r)(ha:PE X a ta)(hb:PE X b tb)(hm:behindInMarks op b=false):PE X (.Compare a [op] [b] pos) (pE r ta tb):=by intro Lk s U H Q I h;exact wpAny_Compare1 (nv ha hb I h λv u s2 x y H2 I2 rx ry q=>ho Lk s2 U H2 x y v u Q I2 rx ry q) hm
def tm (t:TE):TT:=λU H Q=>t U H λx H'=>∃ k,x=.bl k/\Q k H'
def SI {op:CmpOp}{r:R2}(ho:bR X (compareOp op) r)(ha:PE X a ta)(hb:PE X b tb)(hm:behindInMarks op b=false):PT X (.Compare a [op] [b] pos) (tm (pE r ta tb)):=by
 intro Lk s U H Q I h
 refine wpAny_isTrue_Compare1 (aX (ha Lk s U H _ I h) λv s1 ⟨x,H1,I1,r1,q1⟩=>aX (hb Lk s1 U H1 _ I1 q1) λu s2 ⟨y,H2,I2,r2,q2⟩=>
  aX (ho Lk s2 U H2 x y v u _ I2 r1 r2 q2) λc s3 ⟨z,H3,I3,r3,k,e,q3⟩=>?_) hm
 subst e;cases r3;exact Uj ⟨H3,I3,q3⟩
def Qk (r r':R2)(ta tb tc:TE):TE:=λU H Q=>ta U H λx H1=>tb U H1 λy H2=>r x y H2 λz H3=>∃ k,z=.bl k /\ (if k=true then tc U H3 λw' H4=>r' y w' H4 Q else Q (.bl false) H3)
def zdl {op op':CmpOp}{r r':R2}(ho:bR X (compareOp op) r)(ho':bR X (compareOp op') r')(ha:PE X a ta)(hb:PE X b tb)(hc:PE X c tc) (hm:lastMarks [op,op'] [b,c]=false:=by with_unfolding_all rfl):PE X (.Compare a [op,op'] [b,c] pos) (Qk r r' ta tb tc):=by
 intro Lk s U H Q I h
 refine Compare_chain (aX (ha Lk s U H _ I h) λv s1 ⟨x,H1,I1,r1,q1⟩=>chain_link (aX (hb Lk s1 U H1 _ I1 q1) λu s2 ⟨y,H2,I2,r2,q2⟩=>
  aX (ho Lk s2 U H2 x y v u _ I2 r1 r2 q2) λd s3 ⟨z,H3,I3,r3,k,e,q3⟩=>?_)) hm
 subst e;cases r3;refine Uj ?_;cases k with
 | false=>exact ite_ff ⟨.bl false,H3,I3,rfl,q3⟩
 | true=>exact ite_tt (chain_last (aX (hc Lk s3 U H3 _ I3 q3) λw' s4 ⟨z',H4,I4,r4,q4⟩=>ho' Lk s4 U H4 y z' u w' Q I4 r2 r4 q4))
def zdm {op op':CmpOp}{r r':R2}(ho:bR X (compareOp op) r)(ho':bR X (compareOp op') r')(ha:PE X a ta)(hb:PE X b tb)(hc:PE X c tc) (hm:lastMarks [op,op'] [b,c]=false:=by with_unfolding_all rfl):PT X (.Compare a [op,op'] [b,c] pos) (tm (Qk r r' ta tb tc)):=by
 intro Lk s U H Q I h
 refine isTrue_chain (aX (ha Lk s U H _ I h) λv s1 ⟨x,H1,I1,r1,q1⟩=>test_link (aX (hb Lk s1 U H1 _ I1 q1) λu s2 ⟨y,H2,I2,r2,q2⟩=>
  aX (ho Lk s2 U H2 x y v u _ I2 r1 r2 q2) λd s3 ⟨z,H3,I3,r3,k,e,q3⟩=>?_)) hm
 subst e;cases r3;refine Uj ?_;cases k with
 | false=>let⟨k',e',q'⟩:=q3;cases e';exact ite_ff ⟨H3,I3,q'⟩
 | true=>refine ite_tt (test_last (aX (hc Lk s3 U H3 _ I3 q3) λw' s4 ⟨z',H4,I4,r4,q4⟩=>aX (ho' Lk s4 U H4 y z' u w' _ I4 r2 r4 q4) λd' s5 zq=>?_));let⟨z2,H5,I5,r5,k2,e2,q5⟩:=zq;subst e2;cases r5;exact Uj ⟨H5,I5,q5⟩
def mr (K:Le)(x:V)(H:Hp)(k:Bool):Prop:=
 match x with
 | .non=>k=false
 | .bl b=>k=b
 | .int i=>k=(i != 0)
 | .str y=>y.length<=sizeLine/\k=((y.length:Int) != 0)
 | .byt y=>y.size<=sizeLine/\k=((y.size:Int) != 0)
 | .ref p=>(∃ xs,cJ K H p xs/\k = !xs.isEmpty)\/(∃ xs,bP K H p xs/\k = !xs.isEmpty)\/∃ kvs,H p=some (.dK kvs)/\k = !kvs.isEmpty
 | _=>False
def KW {κ:Type}{kvs:List (κ×V)}{vs:List (κ×Value)}(r:KV kvs vs):(!vs.isEmpty) = !kvs.isEmpty:=by cases r<;>rfl
def Jy {xs:List V}{its:Lf}(r:Vals xs its):(!its.toArray.isEmpty) = !xs.isEmpty:=by cases r<;>simp
def yJ:(sizeLine:Nat)<2 ^ 63:=by rw[uD];decide
def N8:BW X (λx H Q=>∃ k,mr X.K x H k/\Q k H):=by
 intro Lk s U H x v Q I rx h;let⟨k,e,q⟩:=h;have hl:=yJ;have hs:sizeLine=16777216:=uD;cases x with
 | non=>cases rx;have e':k=false:=e;subst e';exact truthy_none ⟨H,I,q⟩
 | bl b=>cases rx;have e':k=b:=e;subst e';exact Uj ⟨H,I,q⟩
 | int i=>let⟨t,rfl⟩:=rx;have e':k=(i != 0):=e;subst e';exact PySem.P.truthy_int ⟨H,I,q⟩
 | str y=>let⟨t,rfl⟩:=rx;obtain⟨hy,e'⟩:y.length<=sizeLine/\k=((y.length:Int) != 0):=e;subst e';exact PySem.P.truthy_str (by omega) ⟨H,I.tok _,q⟩
 | byt y=>let⟨t,rfl⟩:=rx;obtain⟨hy,e'⟩:y.size<=sizeLine/\k=((y.size:Int) != 0):=e;subst e';exact PySem.W.truthy_bytes (by omega) ⟨H,I.tok _,q⟩
 | ref p=>
  cases rx;have e':(∃ xs,cJ X.K H p xs/\k = !xs.isEmpty)\/(∃ xs,bP X.K H p xs/\k = !xs.isEmpty)\/∃ kvs,H p=some (.dK kvs)/\k = !kvs.isEmpty:=e;rcases e' with⟨xs,hx,e'⟩ | ⟨xs,hx,e'⟩ | ⟨kvs,hx,e'⟩
  ·subst e';let⟨its,r,pl,hz⟩:=I.list hx;have hlen:=r.length;exact wpAny_truthy_list pl.isList (by simp only[uu];lia) ⟨H,I.tok _,by rw[Jy r];exact q⟩
  ·subst e';let⟨its,r,pl,hz⟩:=I.tuple hx;have hlen:=r.length;exact truthy_tuple pl (by simp only[uu];lia) ⟨H,I.tok _,by rw[Jy r];exact q⟩
  ·subst e';obtain⟨hz,hS,vs,r,m⟩:kvs.length<=sizeLine/\(p == sysModules)=false/\∃ vs,KV kvs vs/\s.heap.DictOf (z5 X.prog X.w) p vs:=I.hok p _ hx;have hlen:kvs.length=vs.length:=Paired.length r;exact wpAny_truthy_dict hS m aB ⟨H,I.tok _,by rw[KW r];exact q⟩
 | _=>exact(show False from e).elim
def zdn (ha:PE X a ta)(he:∀ whole,isTrue a X.env whole=(do let v <-whole;standAt a.pos;holding [v] (truthy v))) :
  PT X a (λU H Q=>ta U H λx H'=>∃ k,mr X.K x H' k/\Q k H'):=by
 intro Lk s U H Q I h
 exact isTrue_plain (aX (ha Lk s U H _ I h) λv s1 ⟨x,H1,I1,r1,q1⟩=>N8 Lk s1 U H1 x v Q I1 r1 q1) (he _)
def KY:bR X (binaryOp .Add) (λx y H Q=>∃ i j,x=.str i/\y=.str j/\i.length+j.length<=sizeLine/\Q (.str (i++j)) H):=by intro Lk s U H x y v u Q I rx ry h;let⟨i,j,rfl,rfl,hz,q⟩:=h;let⟨t,rfl⟩:=rx;let⟨t',rfl⟩:=ry;exact add_str (λt' tk=>⟨.str (i++j),H,I.tok _,⟨_,rfl⟩,q⟩) hz
def vals1 (r:Vals [x] us):∃ u,us=[u]/\RelV x u:=by
 cases r with
 | cons r1 r2=>cases r2;exact⟨_,rfl,r1⟩
def vals2 (r:Vals [x,y] us):∃ u w',us=[u,w']/\RelV x u/\RelV y w':=by
 cases r with
 | cons r1 r2=>
  cases r2 with
  | cons r3 r4=>cases r4;exact⟨_,_,rfl,r1,r3⟩
def zco:qD X (.type "int") (λxs H Q=>(∃ i,xs=[.int i]/\Q (.int i) H)\/∃ k,xs=[.bl k]/\Q (.int (if k then 1 else 0)) H):=by
 intro Lk s U H xs us Q I r h;rcases h with⟨i,rfl,q⟩ | ⟨k,rfl,q⟩
 ·let⟨u,rfl,t,rfl⟩:=vals1 r;exact call_int_int ⟨.int i,H,I,⟨_,rfl⟩,q⟩
 ·let⟨u,rfl,r1⟩:=vals1 r;cases r1;exact call_int_bool ⟨.int (if k then 1 else 0),H,I.tok _,⟨_,rfl⟩,q⟩
def XW:qD X (.type "str") (λxs H Q=>∃ i,xs=[.int i]/\i.natAbs.log2<1920/\Q (.str (toString i)) H):=by intro Lk s U H xs us Q I r h;let⟨i,rfl,hz,q⟩:=h;let⟨u,rfl,t,rfl⟩:=vals1 r;exact PySem.P.str_of_int hz ⟨.str _,H,I.tok _,⟨_,rfl⟩,q⟩
end
structure fY (h:Heap)(x dx C:Addr)(mA:La):Prop where
 obj:h.get? x=some (PySem.W.instObj C dx)
 ns:h.Ns1 dx mA
 ne:dx≠x
def W4 {h:Heap}(n:h.Ns1 dx mA):∃ od,h.get? dx=some od/\∀ name,PySem.W.lookIn name od=some (mA name):=by
 let⟨o,es,ep,ho,hd,hk,_,hm⟩:=n;refine⟨o,ho,λname=>?_⟩;have e:=hm name;unfold nsFind findBy at e;rw[<-Array.find?_toList] at e;unfold PySem.W.lookIn;rw[hd];dsimp only;split
 ·rename_i y q;rw[q] at e;exact congrArg some e
 ·rename_i q;rw[q] at e;have a:es.toList.any (·.refKey)=false:=by rw[List.any_eq_false];intro y hy;let⟨z,t,hkey⟩:=hk y (Array.mem_toList_iff.mp hy);simp[DictEntry.refKey,hkey]
  have a':¬ es.toList.any (·.refKey)=true:=by rw[a];exact uP
  rw[ux a'];exact congrArg some e
def fY.look (I:fY h x dx C mA):∃ od,PySem.W.InstAt h x (PySem.W.instObj C dx) C (some od)/\∀ name,PySem.W.lookIn name od=some (mA name):=
 let ⟨od,ho,hl⟩:=W4 I.ns
 ⟨od,⟨I.obj,rfl,rfl,ho⟩,hl⟩
section
variable {prog:Program} {w:World} {A:Around} {E:Lj} {s:Shared} {K:Le} {x dx C f:Addr} {mA:La} {name:Str} {v:Value}
def get_map {expr:Bool}(X:K.In s.heap)(I:fY s.heap x dx C mA)(hg:PySem.W.plainGet K C name=true)(hh:PySem.W.hasDictIn K C=true) (ha:PySem.W.findIn K (.ref C) name=some none) (hv:mA name=some v) (hv':PySem.W.handedIn v=true) (h:Q v { s with toks:=s.toks+1 }) : wpAny (model prog w) A (getAttr (.ref x) name expr) Q E s:=by let⟨od,J,hl⟩:=I.look;exact PySem.W.get_value X J (GQ hg).1 (PySem.W.findObj_own hh ha rfl (by rw[hl,hv])) hv' h
def zdo (X:K.In s.heap)(I:fY s.heap x dx C mA)(hg:PySem.W.plainGet K C name=true) (hf:PySem.W.findIn K (.ref C) name=some (some (.ref f))) (ht:PySem.W.isFn K (.ref f)=true) (hv:mA name=none) (h:Q (.ref f,[.ref x]) s) : wpAny (model prog w) A (getMethod (.ref x) name pl) Q E s:=by let⟨od,J,hl⟩:=I.look;exact PySem.W.method_fn X J (GQ hg).1 (GQ hg).2 hf (UD.mp ht) (by show(PySem.W.lookIn name od).map (·.isSome)=some false;rw[hl,hv];rfl) h
def SH {ns:Lh}(X:K.In s.heap)(I:fY s.heap x dx C mA) (hs:PySem.W.findIn K (.ref C) "__setattr__" = some (some (.builtin "object.__setattr__"))) (hp:PySem.W.plainOver K C=true) (ht:PySem.W.takerIn K C name=some none) (hh:PySem.W.hasDictIn K C=true) (hw:PySem.Within mA ns) (hsz:ns.length<=sizeLine) (h:∀ h',fY h' x dx C (λy=>if y=name then some v else mA y)->Heap.SameBut dx s.heap h'->Q () { s with heap:=h',toks:=s.toks+2 }) : wpAny (model prog w) A (setAttr (.ref x) name v) Q E s:=by let⟨od,J,hl⟩:=I.look;refine PySem.W.set_plain X J hs (PySem.W.osa_open (s:={ s with toks:=s.toks+1 }) (r:=none) X J hp ht λb=>?_);let⟨cd,hc,hd'⟩:=Hf hh;have hx:s.heap.get? x=some ⟨.ref C,some dx,.plain,#[]⟩:=I.obj;refine ua (uh (ua (ua (wpAny_loadPart hx (ua (PySem.W.Looks.here (s:={ s with toks:=s.toks+1 }) (PySem.W.looks_clsIn X hc) ?_))))));rw[hd'];refine uh (a:=some dx) (ua (uh (ua ?_)));refine wpAny_nsSet1 (s:={ s with toks:=s.toks+1 }) I.ns λh' hn2 hs2=>?_;let⟨oD,esD,epD,hoD,hdD,hcD⟩:=hn2.count (PySem.Within.cons name v hw);refine ua (wpAny_lookBehind hoD (by rw[hdD];exact pastItsLine_dict (uZ hcD (by rw[uc];lia))) ?_);exact uh (h _ ⟨(hs2.2 _ (Ne.symm I.ne)).trans I.obj,hn2,I.ne⟩ hs2)
def zdp (X:K.In s.heap)(hm:PySem.W.makesIn K C=true) (hi:PySem.W.findIn K (.ref C) "__init__" = some (some (.ref f))) (hf:PySem.W.typeIn K (.ref f)=some (.type "function")) (h:codeAny (model prog w) (A.under (.builtin "type.__call__" ⟨.ref C::vs,kw⟩)) (.call (.ref f) ⟨.ref (s.heap.objs.size+1)::vs,kw⟩) (PySem.W.InitBack (s.heap.objs.size+1) R) { s with heap:=(s.heap.push PySem.W.emptyDict).push (PySem.W.instObj C s.heap.objs.size) }) : codeAny (model prog w) A (.call (.ref C) ⟨vs,kw⟩) R s:=by let⟨hh,g,d,t,os⟩:=s;exact PySem.W.make_core (PySem.W.makes_of X hm) (GJ X hi) (λself=>PySem.W.bind_fn X self hf) (.inl rfl) h
end
noncomputable def cF (f:Str)(v:V):List (Str×V)->List (Str×V)
 | []=>[(f,v)]
 | (g,x)::r=>if g=f then(g,v)::r else(g,x)::cF f v r
theorem QO (f g:Str)(v:V):∀ fs:List (Str×V),(cF f v fs).lookup g=if g=f then some v else fs.lookup g
 | []=>by
  show List.lookup g [(f,v)]=_;by_cases h:g=f
  ·have hb:(g == f)=true:=UD.mpr h;simp only[List.lookup,hb,uC h]
  ·have hb:(g == f)=false:=Ut.mpr h;simp only[List.lookup,hb,ux h]
 | (k,x)::r=>by
  have ih:=QO f g v r;rw[show cF f v ((k,x)::r)=(if k=f then(k,v)::r else(k,x)::cF f v r) from rfl];by_cases hk:k=f
  ·rw[uC hk];by_cases h:g=k
   ·have hb:(g == k)=true:=UD.mpr h;simp only[List.lookup,hb,uC (h.trans hk)]
   ·have hb:(g == k)=false:=Ut.mpr h;simp only[List.lookup,hb,ux (λe:g=f=>h (e.trans hk.symm))]
  ·rw[ux hk];by_cases h:g=k
   ·have hb:(g == k)=true:=UD.mpr h;simp only[List.lookup,hb,ux (λe:g=f=>hk (h.symm.trans e))]
   ·have hb:(g == k)=false:=Ut.mpr h;simp only[List.lookup,hb];exact ih
theorem Ql (f:Str)(v:V):∀ fs:List (Str×V),f∈(cF f v fs).map (·.1)/\∀ g,g∈fs.map (·.1)->g∈(cF f v fs).map (·.1)
 | []=>⟨by simp[cF],λg h=>by simp at h⟩
 | (k,x)::r=>by
  let⟨i1,i2⟩:=Ql f v r;rw[show cF f v ((k,x)::r)=(if k=f then(k,v)::r else(k,x)::cF f v r) from rfl];by_cases hk:k=f
  ·rw[uC hk];subst hk;exact⟨aD,λg h=>by simpa using h⟩
  ·rw[ux hk];refine⟨?_,λg h=>?_⟩
   ·rw[uA];exact uk _ i1
   ·rw[uA] at h |-;rcases uw.mp h with e | e
    ·exact uw.mpr (.inl e)
    ·exact uk _ (i2 g e)
theorem QP (f:Str)(v:V):∀ fs:List (Str×V),(cF f v fs).length<=fs.length+1
 | []=>by simp[cF]
 | (k,x)::r=>by
  have ih:=QP f v r;rw[show cF f v ((k,x)::r)=(if k=f then(k,v)::r else(k,x)::cF f v r) from rfl];by_cases hk:k=f
  ·rw[uC hk,uc,uc];lia
  ·rw[ux hk,uc,uc];lia
def cI.some_of (r:cI (some v) o):∃ u,o=some u/\RelV v u:=by
 cases o with
 | none=>exact(show False from r).elim
 | some u=>exact⟨u,rfl,r⟩
def cI.none_of (r:cI none o):o=none:=by
 cases o with
 | none=>rfl
 | some u=>exact(show False from r).elim
def W5 (r:RelV v u):PySem.W.handedIn u=true:=by
 cases v with
 | non=>cases (show u=Value.none from r);rfl
 | bl b=>cases (show u=Value.bool b from r);rfl
 | int i=>let⟨t,e⟩:=(show ∃ t,u=Value.int i t from r);cases e;rfl
 | str x=>let⟨t,e⟩:=(show ∃ t,u=Value.str x t from r);cases e;rfl
 | byt b=>let⟨t,e⟩:=(show ∃ t,u=Value.bytes b t from r);cases e;rfl
 | flt b=>let⟨t,e⟩:=(show ∃ t,u=Value.float b t from r);cases e;rfl
 | ref a=>cases (show u=Value.ref a from r);rfl
 | ty n=>cases (show u=Value.type n from r);rfl
section
variable {P:Program} {w:World} {H H':Hp} {h h':Heap} {a C dx:Addr} {fs fs':List (Str×V)}
def ZF (hok:dk P w H h)(e:H a=some (.ins C dx fs)):∃ mA,fY h a dx C mA/\(∀ f,cI (fs.lookup f) (mA f))/\PySem.Within mA (fs.map (·.1))/\fs.length<=1000/\H dx=some (.own a):=by
 let⟨d,z,ne,ob,mA,n,r,q⟩:=(show zN P w H h a (.ins C dx fs) from hok a _ e)
 exact⟨mA,⟨ob,n,ne⟩,r,q,z,d⟩
end
structure dU (K:Le)(C:Addr):Prop where
 pg:PySem.W.plainGet K C Str.empty=true
 hd:PySem.W.hasDictIn K C=true
 po:PySem.W.plainOver K C=true
 sa:PySem.W.findIn K (.ref C) "__setattr__" = some (some (.builtin "object.__setattr__"))
def dU.get {K:Le}{C:Addr}(c:dU K C)(f:Str):PySem.W.plainGet K C f=true:=c.pg
def qT (K:Le)(C:Addr)(f:Str):Prop:=PySem.W.findIn K (.ref C) f=some none
def qT.taker {K:Le}{C:Addr}{f:Str}(n:qT K C f):PySem.W.takerIn K C f=some none:=by unfold PySem.W.takerIn;rw[show PySem.W.findIn K (.ref C) f=some none from n];rfl
structure Meth (K:Le)(C:Addr)(m:Str)(f:Addr):Prop where
 at_:PySem.W.findIn K (.ref C) m=some (some (.ref f))
 fn:PySem.W.isFn K (.ref f)=true
 kp:PySem.W.keepIn K (.ref f)=true
section
variable {X:Cx} {Lk:Li} {U:St} {H:Hp} {s:Shared} {a C dx:Addr} {fs:List (Str×V)} {f:Str} {v:V} {A:Around} {E:Lj}
def KZ (I:Inv X Lk U H s)(e:H a=some (.ins C dx fs))(c:dU X.K C)(n:qT X.K C f)(l:fs.lookup f=some v) (h:∀ u s',Inv X Lk U H s'->RelV v u->Q u s'):wpAny (model X.prog X.w) A (getAttr (.ref a) f b) Q E s:=by let⟨mA,Z',r,_,_,_⟩:=ZF I.hok e;let⟨u,hu,ru⟩:=cI.some_of (v:=v) (o:=mA f) (by rw[<-l];exact r f);exact get_map I.kIn Z' (c.get f) c.hd n hu (W5 ru) (h u _ (I.tok _) ru)
def K1 (I:Inv X Lk U H s)(e:H a=some (.ins C dx fs))(c:dU X.K C)(k:Meth X.K C m g)(l:fs.lookup m=none) (h:Q (.ref g,[.ref a]) s):wpAny (model X.prog X.w) A (getMethod (.ref a) m pl) Q E s:=by let⟨mA,Z',r,_,_,_⟩:=ZF I.hok e;have hn:mA m=none:=cI.none_of (by rw[<-l];exact r m);exact zdo I.kIn Z' (c.get m) k.at_ k.fn hn h
def K2 (I:Inv X Lk U H s)(e:H a=some (.ins C dx fs))(c:dU X.K C)(n:qT X.K C f)(hl:fs.length<1000)(ry:RelV y u) (h:∀ s',Inv X Lk U (upd H a (.ins C dx (cF f y fs))) s'->Q () s'):wpAny (model X.prog X.w) A (setAttr (.ref a) f u) Q E s:=by
 let⟨mA,Z',r,wi,_,ho⟩:=ZF I.hok e;have hz:(fs.map (·.1)).length<=sizeLine:=by rw[ud,uD];lia
 refine SH I.kIn Z' c.sa c.po n.taker c.hd wi hz λh' O' sb=>h _ ?_;have hd:∃ o,h'.get? dx=some o:=let ⟨o,_,_,e',_⟩:=O'.ns;⟨o,e'⟩;refine I.write (x:=a) (e:=dx) (by rw[e];exact True.intro) (.inr ho) (λb q hb z=>(sb.2 b hb).trans z) hd ?_;refine⟨by rw[zp Z'.ne];exact ho,?_,Z'.ne,O'.obj,_,O'.ns,λg=>?_,λg hg=>?_⟩
 ·have:=QP f y fs;lia
 ·show cI ((cF f y fs).lookup g) (if g=f then some u else mA g);rw[QO];by_cases q:g=f
  ·rw[uC q,uC q];exact ry
  ·rw[ux q,ux q];exact r g
 ·by_cases q:g=f
  ·rw[q];exact(Ql f y fs).1
  ·refine(Ql f y fs).2 g (wi g λz=>hg ?_);show(if g=f then some u else mA g)=none;rw[ux q];exact z
def Inv.made (I:Inv X Lk U H s):Inv X Lk U (upd (upd H s.heap.objs.size (.own (s.heap.objs.size+1))) (s.heap.objs.size+1) (.ins C s.heap.objs.size [])) { s with heap:=(s.heap.push PySem.W.emptyDict).push (PySem.W.instObj C s.heap.objs.size) }:=by
 have e1:(s.heap.push PySem.W.emptyDict).get? s.heap.objs.size=some PySem.W.emptyDict:=uB s.heap rfl;have e2:((s.heap.push PySem.W.emptyDict).push (PySem.W.instObj C s.heap.objs.size)).get? (s.heap.objs.size+1)=some (PySem.W.instObj C s.heap.objs.size):=by have:=uB (s.heap.push PySem.W.emptyDict) (o:=PySem.W.instObj C s.heap.objs.size) rfl;rwa [gP] at this
 have e3:(s.heap.push PySem.W.emptyDict).Ns s.heap.objs.size (λ_=>none):=⟨PySem.W.emptyDict,#[],_,e1,rfl,(λe he=>absurd he aD),λ_=>rfl⟩
 have I1:=I.laid (a:=s.heap.objs.size) (o:=.own (s.heap.objs.size+1)) (h':=s.heap.push PySem.W.emptyDict) (t':=s.toks) (λb u q=>uf _ q) (uj _) ⟨_,e1⟩;refine I1.laid (a:=s.heap.objs.size+1) (o:=.ins C s.heap.objs.size []) (t':=s.toks) (λb u q=>uf _ q) (U4 (gP _ _)) ?_;have ne:s.heap.objs.size≠s.heap.objs.size+1:=Up (gp _);refine⟨by rw[zp ne,zI],u4 _,ne,e2,λ_=>none,(HN e3).at λo q=>uf _ q,λ_=>True.intro,λy hy=>absurd rfl hy⟩
def EV {prog:Program}{e:Expr}(hb:attributeBase e f env (eval e env)=eval e env)
  (h:wpAny (model prog w) A (eval e env) (λo T9=>wpAny (model prog w) A (getAttr o f true) Q E T9) E s):wpAny (model prog w) A (eval (.Attribute e f pos) env) Q E s:=
 Attribute_any_ h (by rw[arm_eval_Attribute,hb])
end
def pJ (K:Le)(ta:TE)(f:Str):TE:=λU H Q=>ta U H λx H1=>∃ a C dx fs v,x=.ref a/\H1 a=some (.ins C dx fs)/\dU K C/\qT K C f/\fs.lookup f=some v/\Q v H1
def pW (K:Le)(ta tv:TE)(f:Str):TS:=λD U H=>tv U H λy H1=>ta U H1 λx H2=>∃ a C dx fs,x=.ref a/\H2 a=some (.ins C dx fs)/\dU K C/\qT K C f/\fs.length<1000 /\ D.nx U (upd H2 a (.ins C dx (cF f y fs)))
section
variable {X:Cx} {o e value:Expr} {f:Str} {pos pos' tpos:Pos} {ta tv:TE}
def N7 (he:PE X e ta)(hb:attributeBase e f X.env (eval e X.env)=eval e X.env):PE X (.Attribute e f pos) (pJ X.K ta f):=by intro Lk s U H Q I h;refine EV hb (aX (he Lk s U H _ I h) λu s1 zq=>?_);let⟨x,H1,I1,rx,a,C,dx,fs,v,ex,ea,c,n,l,q⟩:=zq;subst ex;obtain rfl:u=Value.ref a:=rx;exact KZ I1 ea c n l λu' s2 I2 ru=>⟨v,H1,I2,ru,q⟩
def N6 (ha:PE X o ta)(hv:PE X value tv)(hs:swapsWith value (some (.Attribute o f pos')) pos.line X.env=pure false):PS X (.Assign [.Attribute o f pos'] value pos) (pW X.K ta tv f):=by intro Lk s U H D I h;refine GN (aX (hv Lk s U H _ I h) λu s1 ⟨y,H1,I1,ry,q⟩=>aX (ha Lk s1 U H1 _ I1 q) λov s2 zq=>?_) hs;let⟨x,H2,I2,rx,a,C,dx,fs,ex,ea,c,n,l,q2⟩:=zq;subst ex;obtain rfl:ov=Value.ref a:=rx;exact K2 I2 ea c n l ry λs3 I3=>⟨U,_,I3,q2⟩
end
section
variable {X:Cx} {Lk:Li} {U:St} {H:Hp} {s:Shared} {A:Around} {E:Lj} {Q:Lj} {c:Value} {b:Bool}
inductive bV (K:Le)(H:Hp):V->Value->Prop where
 | non:bV K H .non (.type "NoneType")
 | bl (x:Bool):bV K H (.bl x) (.type "bool")
 | int (i:Int):bV K H (.int i) (.type "int")
 | str (x:Str):bV K H (.str x) (.type "str")
 | flt (x:UInt64):bV K H (.flt x) (.type "float")
 | lst {a:Addr} {xs:List V} (e:H a=some (.lst xs)):bV K H (.ref a) (.type "list")
 | aV {a:Addr} {o:Obj} {xs:List V} (e:H a=some (.aV o (.lst xs))):bV K H (.ref a) (.type "list")
 | tup {a:Addr} {xs:List V} (e:H a=some (.tup xs)):bV K H (.ref a) (.type "tuple")
 | dK {a:Addr} {kvs:List (Key×V)} (e:H a=some (.dK kvs)):bV K H (.ref a) (.type "dict")
 | dT {a:Addr} {kvs:List (List Key×V)} (e:H a=some (.dT kvs)):bV K H (.ref a) (.type "dict")
 | ins {a C dx:Addr} {fs:List (Str×V)} (e:H a=some (.ins C dx fs)) (cl:dU K C) (ha:PySem.W.findIn K (.ref C) "__class__" = some (some (.builtin "object.__class__")))
   (hn:PySem.W.specialIn K (.builtin "object.__class__") "__get__" = some (some (.builtin "getset_descriptor.__get__"))) (htk:PySem.W.takesIn K (.builtin "object.__class__")=some true)
   (hm:PySem.W.mroIn K C (.type "object")=some true):bV K H (.ref a) (.ref C)
def W6 (I:Inv X Lk U H s)(rx:RelV x u)(ty:bV X.K H x t)(e:PySem.W.kitOne X.K t c=some b)(h:∀ tk,Q (.bool b) { s with toks:=tk }) : wpAny (model X.prog X.w) A (call (.builtin "isinstance") [u,c]) Q E s:=by
 cases ty with
 | non=>cases (show u=Value.none from rx);exact Ur PySem.W.kitx_none I.kIn True.intro e (λz=>nomatch z) h
 | bl y=>cases (show u=Value.bool y from rx);exact Ur PySem.W.kitx_bool I.kIn True.intro e (λz=>nomatch z) h
 | int i=>let⟨t,q⟩:=(show ∃ t,u=Value.int i t from rx);cases q;exact Ur PySem.W.kitx_int I.kIn True.intro e (λz=>nomatch z) h
 | str y=>let⟨t,q⟩:=(show ∃ t,u=Value.str y t from rx);cases q;exact Ur PySem.W.kitx_str I.kIn True.intro e (λz=>nomatch z) h
 | flt y=>let⟨t,q⟩:=(show ∃ t,u=Value.float y t from rx);cases q;exact Ur PySem.W.kitx_float I.kIn True.intro e (λz=>nomatch z) h
 | @lst a xs ea=>
  cases (show u=Value.ref a from rx);let⟨_,_,n,_,h1⟩:=(show zN X.prog X.w H s.heap a (.lst xs) from I.hok a _ ea)
  exact Ur Gf I.kIn ⟨_,h1,rfl⟩ e (λz=>nomatch z) h
 | @aV a ob xs ea=>
  cases (show u=Value.ref a from rx);let⟨_,_,_,n,_,h1⟩:=(show zN X.prog X.w H s.heap a (.aV ob (.lst xs)) from I.hok a _ ea)
  exact Ur Gf I.kIn ⟨_,h1,rfl⟩ e (λz=>nomatch z) h
 | @tup a xs ea=>
  cases (show u=Value.ref a from rx);let⟨_,_,_,p⟩:=(show zN X.prog X.w H s.heap a (.tup xs) from I.hok a _ ea)
  let⟨o,h1,h2,_⟩:=p;exact Ur PySem.W.kitx_tuple I.kIn ⟨o,h1,h2⟩ e (λz=>nomatch z) h
 | @dK a kvs ea=>
  cases (show u=Value.ref a from rx);let⟨_,_,vs,_,p⟩:=(show zN X.prog X.w H s.heap a (.dK kvs) from I.hok a _ ea)
  let⟨o,es,ep,h1,h2,_⟩:=p;exact Ur Gg I.kIn ⟨o,h1,h2.1⟩ e (λz=>nomatch z) h
 | @dT a kvs ea=>
  cases (show u=Value.ref a from rx);let⟨_,_,xs,_,o,es,ep,h1,h2,_⟩:=(show zN X.prog X.w H s.heap a (.dT kvs) from I.hok a _ ea)
  exact Ur Gg I.kIn ⟨o,h1,h2.1⟩ e (λz=>nomatch z) h
 | @ins a C dx fs ea cl ha hn htk hm=>cases (show u=Value.ref a from rx);let⟨mA,Z',_⟩:=ZF I.hok ea;let⟨od,J,_⟩:=Z'.look;exact Ur (PySem.W.kitx_own (cl.get _) cl.hd ha hn htk hm) I.kIn J e (λz=>nomatch z) h
end
structure bT (k:Nat)(A:Around):Prop where
 hd:A.handled=none
 dp:A.depth+3 * k+5<recursionLimit
 un:A.units+16 * k+200<cLine
 gd:A.guards=some []
def bT.mono (r:bT k A)(h:j<=k):bT j A:=⟨r.hd,by have:=r.dp;lia,by have:=r.un;lia,r.gd⟩
theorem bT.deeper {A:Around}(r:bT (k+1) A)(env:Env):bT k (A.deeper env):=
 ⟨r.hd,by have:=r.dp;show A.depth+1+3 * k+5<_;lia,by have:=r.un;show A.units+3+16 * k+200<_;lia,r.gd⟩
def K3 {A:Around}:(A.under (.builtin "type.__call__" ⟨.ref C::us,kw⟩)).depth=A.depth+1:=by first | rfl | simp[Around.under,Code.weight,Code.isCreation,Code.isGuard,Code.isCaller,Code.frames,Code.isFrame,guardIds]
def K6 {A:Around}:(A.under (.builtin "type.__call__" ⟨.ref C::us,kw⟩)).units=A.units+1:=by first | rfl | simp[Around.under,Code.cUnits,Code.frames,Code.isFrame]
def Yh {A:Around}:(A.under (.builtin "type.__call__" ⟨.ref C::us,kw⟩)).guards=A.guards:=by first | rfl | simp[Around.under,Code.weight,Code.isCreation,Code.isGuard,Code.isCaller,Code.frames,Code.isFrame,guardIds]
def bT.make {A:Around}(r:bT (k+1) A)(C:Addr)(us:Lf)(kw:List (Str×Value)):bT k (A.under (.builtin "type.__call__" ⟨.ref C::us,kw⟩)):=
 ⟨r.hd,by have:=r.dp;rw[K3];lia,by have:=r.un;rw[K6];lia,by rw[Yh];exact r.gd⟩
theorem bT.depth {A:Around}(r:bT k A):A.depth<recursionLimit:=by have:=r.dp;lia
def fJ:TA:=λ_ H Q=>Q [] H
def Yi (ta:TE)(tr:TA):TA:=λU H Q=>ta U H λx H1=>tr U H1 λxs H2=>Q (x::xs) H2
section
variable {X:Cx} {e:Expr} {es:Lg} {te:TE} {t:TA} {pos:Pos}
def wq:PA X [] fJ:=λ_ _ _ _ H Q I h=>Calls.spliced_nil ⟨[],H,I,.nil,h⟩
def zT (ha:PE X e te)(hr:PA X es t)(hs:starEach (e::es) X.env=(false,eval e X.env)::starEach es X.env:=by rfl):PA X (e::es) (Yi te t):=by intro pos Lk s U H Q I h;rw[hs];show wpAny _ _ (spliced ((false,eval e X.env)::backTo pos (starEach es X.env))) _ _ s;refine Calls.spliced_cons (aX (ha Lk s U H _ I h) λu s1 zq=>?_);let⟨x,H1,I1,r1,q1⟩:=zq;exact aX (hr pos Lk s1 U H1 _ I1 q1) λus s2 ⟨xs,H2,I2,r2,q2⟩=>⟨x::xs,H2,I2,.cons r1 r2,q2⟩
def pA (t:TA):TE:=λU H Q=>t U H λxs H1=>xs.length<=sizeLine/\∀ p,H1 p=none->Q (.ref p) (upd H1 p (.tup xs))
def pG (t:TA):TE:=λU H Q=>t U H λxs H1=>xs.length<=sizeLine/\∀ p,H1 p=none->Q (.ref p) (upd H1 p (.lst xs))
def K7 {x1}(h:PA X es t):PE X (.Tuple es x1 pos) (pA t):=by intro Lk s U H Q I hq;refine wpAny_Tuple_spliced (aX (h pos Lk s U H _ I hq) λus s1 ⟨xs,H1,I1,r,z,q⟩=>⟨by rw[<-r.length];exact z,?_⟩);have hf:H1 s1.heap.objs.size=none:=I1.hok.fresh (uj _);refine⟨.ref s1.heap.objs.size,upd H1 s1.heap.objs.size (.tup xs),I1.laid (t':=s1.toks) (λb u e=>uf _ e) (uj _) ?_,rfl,q _ hf⟩;exact⟨z,us,r,⟨_,uB _ rfl,rfl,_,rfl⟩⟩
def N5 (h:PA X es t):PE X (.List es pos) (pG t):=by intro Lk s U H Q I hq;refine wpAny_List_spliced (aX (h pos Lk s U H _ I hq) λus s1 ⟨xs,H1,I1,r,z,q⟩=>⟨by rw[<-r.length];exact z,?_⟩);have hf:H1 s1.heap.objs.size=none:=I1.hok.fresh (uj _);refine⟨.ref s1.heap.objs.size,upd H1 s1.heap.objs.size (.lst xs),I1.laid (t':=s1.toks) (λb u e=>uf _ e) (uj _) ?_,rfl,q _ hf⟩;exact⟨z,us,0,r,uB _ rfl⟩
end
abbrev Sp:=List V->Hp->VK->XK->Prop
abbrev lQ:=List Env->Hp->Shared->XK->Lj
structure f9 (P:Program)(w:World)(K:Le)(mg:La)(base:Heap)(A:Around)(outer:List Env)(s:Shared)(H:Hp):Prop where
 frames:A.frames=some outer
 mod:Mod K mg base
 bs:∀ b o,base.get? b=some o->s.heap.get? b=some o/\H b=none
 bsz:base.objs.size<=s.heap.objs.size
 funs:s.heap.FunFrames base outer
 frf:∀ b∈d6 outer,H b=none
 hok:dk P w H s.heap
 bare:AllBare s.gens
def CE (outer:List Env)(P:Program)(w:World)(H:Hp)(s:Shared)(Q:VK)(u:Value)(s':Shared):Prop:= ∃ v H',s'.os=s.os/\AllBare s'.gens/\Un (d6 outer) [] H H' s.heap s'.heap/\dk P w H' s'.heap/\RelV v u/\Q v H'
def CR (CX:lQ)(outer:List Env)(P:Program)(w:World)(H:Hp)(s:Shared)(Q:VK)(E:XK)(r:Result)(s':Shared):Prop:=
 match r with
 | .ok (.ret u)=>CE outer P w H s Q u s'
 | .ok _=>False
 | .error e=>CX outer H s E e s'
structure dA (P:Program)(w:World)(K:Le)(mg:La)(base:Heap)(CX:lQ)(k:Nat)(f:Addr)(fd:FuncData)(ps:Lh)(sp:Sp):Prop where
 len:∀ vs H Q E,sp vs H Q E->vs.length=ps.length
 run:∀ (A:Around) (outer:List Env) (s:Shared) (H:Hp) (args:Args) (us:Lf) (vs:List V) (Q:VK) (E:XK),bT k A->f9 P w K mg base A outer s H->BindsTo s fd args (ps.zip us)->Vals vs us->sp vs H Q E ->
  codeAny (model P w) A (.call (.ref f) args) (CR CX outer P w H s Q E) s
def f9.make {P:Program}{w:World}{K:Le}{mg:La}{base:Heap}{A:Around}{outer:List Env}{s:Shared}{H:Hp}(e:f9 P w K mg base A outer s H)(C:Addr)(us:Lf)(kw:List (Str×Value)) :
  f9 P w K mg base (A.under (.builtin "type.__call__" ⟨.ref C::us,kw⟩)) outer s H:=⟨by first | exact e.frames | (simpa[Around.under,Code.envs,Code.isFrame,pushEnvs] using e.frames),e.mod,e.bs,e.bsz,e.funs,e.frf,e.hok,e.bare⟩
section
variable {X:Cx} {Lk:Li} {U:St} {H:Hp} {s s':Shared}
def Inv.eX (I:Inv X Lk U H s):f9 X.prog X.w X.K X.mg X.base X.A X.stack s H:= ⟨I.ok.frames,I.ok.mod,I.bs,uZ I.ok.bsz I.sz,I.stack,I.stkFree,I.hok,I.bare⟩
def Inv.after (I:Inv X Lk U H s)(h:CE X.stack X.prog X.w H s Q u s'):EP X Lk U Q u s':=by let⟨v,H',os,bare,un,hok,r,q⟩:=h;let⟨hh,g,d,t,os'⟩:=s';obtain rfl:os' = s.os:=os;exact⟨v,H',I.call (h':=hh) (g':=g) (d':=d) (t':=t) (ch:=[]) un hok bare (λb z=>absurd z aD),r,q⟩
end
def Binds (K:Le)(fd:FuncData)(ps:Lh)(ds:Lf):Prop:= ∀ (s:Shared) (us:Lf),K.In s.heap->(us++ds).length=ps.length->BindsTo s fd ⟨us,[]⟩ (ps.zip (us++ds))
def Binds.all {K:Le}{fd:FuncData}{ps:Lh}(h:∀ us:Lf,us.length=ps.length->bindArgs fd ⟨us,[]⟩=pure (ps.zip us)):Binds K fd ps []:=λs us _ hl=>by rw[uH] at hl |-;exact .of_eq (h us hl)
section
variable {X:Cx} {CX:lQ} {k:Nat} {f C:Addr} {fd:FuncData} {ps:Lh} {sp:Sp} {dvs:List V} {ds:Lf} {E:XK} {x m:Str} {p pos apos:Pos} {e o:Expr} {es:Lg} {ta:TE} {t:TA}
structure Mk (K:Le)(C f:Addr):Prop where
 makes:PySem.W.makesIn K C=true
 init:PySem.W.findIn K (.ref C) "__init__" = some (some (.ref f))
 fn:PySem.W.isFn K (.ref f)=true
 kp:PySem.W.keepIn K (.ref C)=true
end
section
variable {X:Cx} {CX:lQ} {k:Nat} {f C:Addr} {fd:FuncData} {ps ks:Lh} {sp:Sp} {E:XK} {x m:Str} {p pos apos kpos:Pos} {e o:Expr} {es:Lg} {kws:List Keyword} {te ta:TE} {t tk:TA} {nm:Option Str}
variable {g:Lf->Lf->Lf} {gV:List V->List V->List V}
end
structure zi (N P:Lh)(sc:Scope):Prop where
 kind:sc.kind=.function
 co:sc.isCoroutine=false
 gen:sc.isGenerator=false
 nd:N.Nodup
 pre:N.take P.length=P
 par:∀ x∈P,sc.names.lookup x=some .local\/sc.names.lookup x=some .cell
 nofree:∀ y∈sc.names,y.2≠.free
theorem W7 {kindOf:Str->Option NameKind}:∀ {binds:List (Str×Value)} {m:La},(∀ v,(x,v)∉binds)->bindL kindOf binds m x=m x
 | [],_,_=>rfl
 | (n,v)::r,m,h=>by
  unfold bindL;rw[W7 λw hw=>h w (uk _ hw)];split
  ·have:x≠n:=by rintro rfl;exact h v ug
   simp[this]
  ·rfl
theorem W8 {kindOf:Str->Option NameKind}:∀ {binds:List (Str×Value)} {m:La},(∀ v,(x,v)∉binds)->bindC kindOf binds m x=m x
 | [],_,_=>rfl
 | (n,v)::r,m,h=>by
  unfold bindC;rw[W8 λw hw=>h w (uk _ hw)];split
  ·rfl
  ·have:x≠n:=by rintro rfl;exact h v ug
   simp[this]
theorem W9 {kindOf:Str->Option NameKind}:∀ {P:Lh} {vs:Lf} {i:Nat} {m:La},P.Nodup->P[i]? = some x->vs[i]? = some v->kindOf x=some .local ->
  bindL kindOf (P.zip vs) m x=some v
 | [],_,_,_,_,h,_,_=>by simp at h
 | _::_,[],_,_,_,_,h,_=>by simp at h
 | p::P,w::vs,0,m,nd,h1,h2,hk=>by simp at h1 h2;subst h1;subst h2;show bindL kindOf ((p,w)::P.zip vs) m p=_;unfold bindL;rw[W7 λv hv=>(UA.mp nd).1 (GF hv).1,uC hk];simp
 | p::P,w::vs,i+1,m,nd,h1,h2,hk=>by show bindL kindOf ((p,w)::P.zip vs) m x=_;unfold bindL;exact W9 (i:=i) (UA.mp nd).2 (by simpa using h1) (by simpa using h2) hk
theorem Xa {kindOf:Str->Option NameKind}:∀ {P:Lh} {vs:Lf} {i:Nat} {m:La},P.Nodup->P[i]? = some x->vs[i]? = some v->kindOf x≠some .local ->
  bindC kindOf (P.zip vs) m x=some v
 | [],_,_,_,_,h,_,_=>by simp at h
 | _::_,[],_,_,_,_,h,_=>by simp at h
 | p::P,w::vs,0,m,nd,h1,h2,hk=>by simp at h1 h2;subst h1;subst h2;show bindC kindOf ((p,w)::P.zip vs) m p=_;unfold bindC;rw[W8 λv hv=>(UA.mp nd).1 (GF hv).1,ux hk];simp
 | p::P,w::vs,i+1,m,nd,h1,h2,hk=>by show bindC kindOf ((p,w)::P.zip vs) m x=_;unfold bindC;exact Xa (i:=i) (UA.mp nd).2 (by simpa using h1) (by simpa using h2) hk
def start (N:Lh)(vs:List V):St:=vs.map some++List.replicate (N.length - vs.length) none
def dH (CX:lQ)(P:Program)(w:World)(K:Le)(mg:La)(base:Heap)(N:Lh)(qual:Str)(scope:Scope)(f:Addr)(cd:Value)(A:Around)(outer:List Env)(s:Shared)(H:Hp)(E:XK):Cx where
 prog:=P
 w:=w
 K:=K
 mg:=mg
 base:=base
 A:=A.deeper (envOfC qual scope s.heap.objs.size f cd)
 N:=N
 s₀:=s
 H₀:=H
 env:=envOfC qual scope s.heap.objs.size f cd
 outer:=outer
 stack:=envOfC qual scope s.heap.objs.size f cd::outer
 ex:=[]
 calm:=true
 fn:=λ_=>true
 pn:=[]
 xe:=λe s'=>wpAny (model P w) (A.deeper (envOfC qual scope s.heap.objs.size f cd)) (leaving (envOfC qual scope s.heap.objs.size f cd) e) (λ_ s''=>CX outer H s E e s'') (λe' s''=>CX outer H s E e' s'') s'
def Yj {sc:Scope}(h:sc.names.lookup x=some .cell):∃ c,(cellsFrom n sc.names []).lookup x=some c:=by have q:=PySem.W.cellsFrom_some sc.names n [] (.inl h);exact Option.isSome_iff_exists.mp q
def zcp {CX:lQ}{P:Program}{w:World}{K:Le}{mg:La}{base:Heap}{N ps:Lh}{qual:Str}{scope:Scope}{f:Addr}{cd:Value}{A:Around}{outer:List Env}{s s1:Shared}{H:Hp}{E:XK}{us:Lf}{vs:List V} (S:zi N ps scope) (hd:A.handled=none) (e0:f9 P w K mg base A outer s H) (hl:vs.length=ps.length) (r:Vals vs us) (x:InCallC s s.heap.objs.size (bindL (envOfC qual scope s.heap.objs.size f cd).kindOf (ps.zip us) λ_=>none) (cellsFrom (s.heap.objs.size+1) scope.names []) (bindC (envOfC qual scope s.heap.objs.size f cd).kindOf (ps.zip us) λ_=>none) s1) : Inv (dH CX P w K mg base N qual scope f cd A outer s H E) [] (start N vs) H s1:=by
 have hpl:ps.length<=N.length:=by have:=congrArg List.length S.pre;rw[Uk] at this;lia
 let⟨h1,tk,rfl,hk⟩:=x.done;have noA:∀ b:Addr,b∉(dH CX P w K mg base N qual scope f cd A outer s H E).ex:=λb z=>absurd (show b∈([]:Ld) from z) aD
 refine⟨⟨e0.mod,S.kind,rfl,rfl,uj _,λy z c h1 h2=>?_,λy hy=>?_,λy c _ h=>?_,λ_=>hd,Around.frames_deeper e0.frames,.inr ⟨rfl,rfl⟩,λb z=>absurd z (noA b),e0.bs,e0.bsz,λb _ _=>noA b,λb z=>absurd z (noA b),e0.funs,e0.frf⟩,
  rfl,e0.bare,Un.kept hk,⟨_,x.toInCall.ns,λi y v h1 h2 h3=>?_⟩,λy c h=>⟨_,x.cell y c h⟩,e0.hok.fresh (uj _),λy c h=>?_,λp hp=>absurd (show p∈([]:Li) from hp) aD,e0.hok.kept hk,?_⟩
 ·exact name_of_addr x.apart (Uu h1) (Uu h2)
 ·have hy:scope.names.lookup y=some .cell\/scope.names.lookup y=some .free:=hy;rcases hy with hy | hy
  ·exact Yj hy
  ·exact absurd rfl (S.nofree _ (Uu hy))
 ·exact Nat.le_of_lt (x.above y c (Uu h))
 ·have hi:i<vs.length:=by
   unfold start at h2
   by_cases hi:i<vs.length
   ·exact hi
   ·rw[Ua (by simpa using hi)] at h2
    rw[HP] at h2
    split at h2<;>cases h2
  have ha:vs[i]? = some v:=by
   unfold start at h2
   rw[UB (by simpa using hi),uE] at h2
   cases e:vs[i]? with
   | none=>rw[e] at h2;cases h2
   | some a=>rw[e] at h2;cases h2;rfl
  let⟨u,hu,rv⟩:=r.get ha
  have hp:ps[i]? = some y:=by
   rw[<-S.pre,HH aB];exact h1
  have ndP:ps.Nodup:=by rw[<-S.pre];exact S.nd.sublist (List.take_sublist _ _)
  refine⟨u,rv,?_⟩
  rcases S.par y (uR hp) with k | k
  ·exact .inl ⟨k,W9 ndP hp hu k⟩
  ·let⟨c,e⟩:=Yj (n:=s.heap.objs.size+1) k
   refine .inr ⟨.inl k,c,e,?_⟩
   have q:=x.cell y c e
   rw[Xa ndP hp hu (by show scope.names.lookup y≠_;rw[k];decide)] at q
   exact q
 ·exact e0.hok.fresh (Nat.le_of_lt (x.above y c (Uu h)))
 ·unfold start;show _=N.length;rw[ub,ud,Ub];lia
def Ak {CX:lQ}{P:Program}{w:World}{K:Le}{mg:La}{base:Heap}{k:Nat}{f:Addr}{name qual:Str}{params:Arguments}{body:List Stmt}{scope:Scope}{dV kV doc pm cdv ct oc:Value}{an od:Option Addr} {osl:Array (Option Value)} {N ps:Lh} {sp:Sp} (lk:K.lookup f=some ⟨oc,od,.func (PySem.W.fnOf name qual params body scope dV kV doc pm an cdv ct),osl⟩) (hcd:PySem.W.codeIn K cdv qual=true) (S:zi N ps scope) (len:∀ vs H Q E,sp vs H Q E->vs.length=ps.length) (hbody:∀ (A:Around) (outer:List Env) (s:Shared) (H:Hp) (vs:List V) (Q:VK) (E:XK),bT k (A.deeper (envOfC qual scope s.heap.objs.size f cdv))->sp vs H Q E -> ∃ t,eC (dH CX P w K mg base N qual scope f cdv A outer s H E) body t/\t { nx:=λ_ H'=>Q .non H',rt:=Q } (start N vs) H) : dA P w K mg base CX (k+1) f (PySem.W.fnOf name qual params body scope dV kV doc pm an cdv ct) ps sp:=by
 refine⟨len,λA outer s H args us vs Q E hr e0 hb r hsp=>?_⟩;have hl:=len _ _ _ _ hsp;have KX:K.In s.heap:=e0.mod.kin.keeps λb o e=>(e0.bs b o e).1;have lim:s.heap.NoLimit:=e0.mod.nolimit.keeps λb o e=>(e0.bs b o e).1
 have hkind:∀ y∈ps.zip us,scope.names.lookup y.1=some .local\/(scope.names.lookup y.1=some .cell/\((cellsFrom (s.heap.objs.size+1) scope.names []).lookup y.1).isSome=true):=λ⟨n,v⟩ hy=>by
  rcases S.par n (GF hy).1 with q | q
  ·exact .inl q
  ·exact .inr ⟨q,PySem.W.cellsFrom_some _ _ _ (.inl q)⟩
 refine codeAny_call_function hr.depth (KX _ _ lk) rfl S.co S.gen rfl (PySem.W.codeRec_of KX hcd) (hb _ _ _ _ ?_);refine wpAny_newFunctionEnv_cells S.kind hkind λenv he s1 x=>?_;subst he;refine⟨lim.keeps x.toInCall.keep,codeAny_func ?_⟩;let⟨t,ht,hq⟩:=hbody A outer s H vs Q E (hr.deeper _) hsp;have I:Inv (dH CX P w K mg base N qual scope f cdv A outer s H E) [] (start N vs) H s1:=zcp S hr.hd e0 hl r x;refine uG (ht [] s1 (start N vs) H _ I hq) (λfl s' hs=>?_) λe s' hs=>hs
 have fin:∀ {U':St} {H':Hp} {v:V} {u:Value},Inv (dH CX P w K mg base N qual scope f cdv A outer s H E) [] U' H' s'->RelV v u->Q v H'->CE outer P w H s Q u s':=
  λ{U' H' v u} J rv q=>⟨v,H',J.os,J.bare,J.base,J.hok,rv,q⟩
 cases fl with
 | ret u=>let⟨v,U',H',J,rv,q⟩:=hs;exact fin J rv q
 | next=>let⟨U',H',J,q⟩:=hs;exact fin (v:=V.non) (u:=Value.none) J rfl q
 | brk=>let⟨_,_,_,q⟩:=hs;exact False.elim q
 | cont=>let⟨_,_,_,q⟩:=hs;exact False.elim q
section
variable {X:Cx} {x:Str} {p pos:Pos} {e:Expr} {es:Lg} {t:TA} {id T:String} {r:List V->Hp->VK->Prop}
def pK (r:List V->Hp->VK->Prop)(t:TA):TE:=λU H Q=>t U H λvs H1=>r vs H1 Q
def wQ (hc:qD X (.builtin id) r)(hg:Gl X x)(hm:X.mg x=none)(hv:bootBuiltins x=some (.builtin id))(ha:PA X (e::es) t)(hn:x≠"__name__":=by decide) (hdb:(x == ("__debug__":Str))=false:=by decide) (he:starEach (e::es) X.env=(false,eval e X.env)::starEach es X.env:=by rfl) (hpl:(backTo pos (starEach es X.env)).any (·.1)=false:=by rfl):PE X (.Call (.Name x p) (e::es) [] pos) (pK r t):=by intro Lk s U H Q I h;refine Uv (Qi I hg hm hv ?_ hn hdb);exact PyProof.Rows.callWith_builtin1 (aX (ha pos Lk s U H _ I h) λus s1 ⟨vs,H1,I1,r1,q1⟩=>hc Lk s1 U H1 vs us Q I1 r1 q1) he hpl
def vN (hc:qD X (.type T) r)(hg:Gl X x)(hm:X.mg x=none)(hv:bootBuiltins x=some (.type T))(ha:PA X (e::es) t)(hn:x≠"__name__":=by decide) (hdb:(x == ("__debug__":Str))=false:=by decide) (he:starEach (e::es) X.env=(false,eval e X.env)::starEach es X.env:=by rfl) (hpl:(backTo pos (starEach es X.env)).any (·.1)=false:=by rfl):PE X (.Call (.Name x p) (e::es) [] pos) (pK r t):=by intro Lk s U H Q I h;refine Uv (Qi I hg hm hv ?_ hn hdb);exact PyProof.Rows.callWith_type1 (aX (ha pos Lk s U H _ I h) λus s1 ⟨vs,H1,I1,r1,q1⟩=>hc Lk s1 U H1 vs us Q I1 r1 q1) he hpl
end
end L2
namespace HT
open PySem PyProof.Rows
section
open PySem.SeqAt
open PySem.AutoSeq1 (wpAny_loadPart')
open PySem.MeetsSeq PySem.MeetsSeq2 PySem.MeetsSeq3
end
section
variable {prog:Program} {w:World} {A:Around} {E:Lj} {s:Shared}
def SD {vs ws:Lf}(ht:IsTup s.heap t vs.toArray)(hb:IsTup s.heap b ws.toArray)(hv:vs≠[]) (h1:ws=[]->Q (.ref t) s) (h2:ws≠[]->Q (.ref s.heap.objs.size) { s with heap:=s.heap.push { cls:=.type "tuple",data:=.seq (vs++ws).toArray } }) (hsz:vs.length+ws.length<=sizeLine):wpAny (model prog w) A (binaryOp .Add (.ref t) (.ref b)) Q E s:=by
 let⟨⟨cls,dd,data,sl⟩,ho,hc,n,hd⟩:=id ht;let⟨⟨cls2,dd2,data2,iW⟩,ho2,hc2,n2,hd2⟩:=id hb;simp only at hc hd hc2 hd2;subst hc hd hc2 hd2;have e:vs.toArray++ws.toArray=(vs++ws).toArray:=aD
 by_cases hw:ws=[]
 ·exact G1 ⟨_,ho,rfl⟩ ⟨_,ho2,rfl⟩ GA GR GB Gr (Gk _ _)
   (tuple_addW1 t b vs.toArray ws.toArray n n2 dd dd2 sl iW (by simpa using hv) (by simp[hw])) ⟨ho,ho2,h1 hw⟩
 ·refine G1 ⟨_,ho,rfl⟩ ⟨_,ho2,rfl⟩ GA GR GB Gr (Gk _ _)
   (tuple_addW2 t b vs.toArray ws.toArray n n2 dd dd2 sl iW (by simpa using hv) (by simpa using hw) (by rw[uu,uu];exact hsz)) ⟨ho,ho2,?_⟩
  rw[e]
  exact h2 hw
noncomputable def aR (n d:Nat):Option Int->Nat
 | none=>d
 | some v=>if v<0 then(v+(n:Int)).toNat else min v.toNat n
def fo (n d:Nat):aR n d none=d:=rfl
def dm (n d k:Nat):aR n d (some (k:Int))=min k n:=by show(if (k:Int)<0 then((k:Int)+(n:Int)).toNat else min (k:Int).toNat n)=min k n;rw[ux aB,Uy]
def fL (n d:Nat)(hd:d<=n)(o:Option Int):aR n d o<=n:=by
 cases o with
 | none=>exact hd
 | some v=>
  show(if v<0 then(v+(n:Int)).toNat else min v.toNat n)<=n;by_cases hv:v<0
  ·rw[uC hv];lia
  ·rw[ux hv];exact Nat.min_le_right _ _
def Eo (v:Int)(n d:Nat):(if v<0 then max (v+(n:Int)) 0 else min v (n:Int))=((aR n d (some v):Nat):Int):=by
 show(if v<0 then max (v+(n:Int)) 0 else min v (n:Int))=(((if v<0 then(v+(n:Int)).toNat else min v.toNat n):Nat):Int)
 by_cases hv:v<0
 ·simp only[uC hv];lia
 ·simp only[ux hv];lia
def K8 (lo hi:Option Int)(n:Nat):Builtin.Slice.sliceAdjust lo hi 1 (n:Int)=(((aR n 0 lo:Nat):Int),((aR n n hi:Nat):Int)):=by
 have h1:¬ ((1:Int)<0):=aB
 unfold Builtin.Slice.sliceAdjust;simp only[h1,gZ];refine Prod.ext ?_ ?_
 ·cases lo with
  | none=>rfl
  | some v=>exact Eo v n 0
 ·cases hi with
  | none=>rfl
  | some v=>exact Eo v n n
def K9 (i j:Nat):Builtin.Slice.slicePlaces (i:Int) (j:Int) 1=j - i:=by
 unfold Builtin.Slice.slicePlaces;have h1:(1:Int) > 0:=aB
 simp only[h1,Gh,Int.ediv_one];split<;>lia
def Jz (p:IsPart v o)(h:Q o s):wpAny (model prog w) A (Builtin.Slice.slicePartIndex v) Q E s:=by
 cases p with
 | none=>exact Hu h
 | int i t=>exact slicePart_int h
def vO {sl:Addr}{vl vu:Value}{lo hi:Option Int}{n:Nat}{Q:Int×Int×Nat->Shared->Prop}(hs:s.heap.IsSliceOf sl vl vu .none)(pl:IsPart vl lo)(pu:IsPart vu hi) (h:Q (((aR n 0 lo:Nat):Int),1,aR n n hi - aR n 0 lo) s):wpAny (model prog w) A (Builtin.Slice.sliceApplied (.ref sl) (pure (n:Int))) Q E s:=by let⟨os,hos,hcs,hds⟩:=id hs;unfold Builtin.Slice.sliceApplied Builtin.Slice.sliceFields;refine ua (ua (Uq hos hds (x:=vl) rfl (ua (Uq hos hds (x:=vu) rfl (ua (Uq hos hds (x:=.none) rfl (uh ?_)))))));refine ua (Hu ?_);show wpAny _ _ (if ((1:Int) == 0)=true then _ else _) _ _ s;rw[ux aA];refine ua (Jz pl (ua (Jz pu (ua (uh ?_)))));show wpAny _ _ (match Builtin.Slice.sliceAdjust lo hi 1 (n:Int) with | (lo,hi)=>pure (lo,(1:Int),Builtin.Slice.slicePlaces lo hi 1)) _ _ s;rw[K8 lo hi n];show wpAny _ _ (pure (((aR n 0 lo:Nat):Int),(1:Int),Builtin.Slice.slicePlaces ((aR n 0 lo:Nat):Int) ((aR n n hi:Nat):Int) 1)) _ _ s;rw[K9];exact uh h
def zdr (xs:Array Value)(i k:Nat):((List.range k).filterMap λ(m:Nat)=>xs[((i:Int)+(m:Int) * 1).toNat]?).toArray=((xs.toList.drop i).take k).toArray:=by
 have e:(λ(m:Nat)=>xs[((i:Int)+(m:Int) * 1).toNat]?)=λm=>xs[i+m]?:=by
  funext m;have:((i:Int)+(m:Int) * 1).toNat=i+m:=aB
  rw[this]
 rw[e];have:=GK xs i k;rw[List.filterMap_map] at this;have e2:((λx=>xs[x]?) ∘ λx=>i+x)=λm=>xs[i+m]?:=rfl;rw[e2] at this;rw[this]
def ZG {t sl:Addr}{items:Array Value}{vl vu:Value}{lo hi:Option Int}{Q:Lj}(ht:IsTup s.heap t items)(hs:s.heap.IsSliceOf sl vl vu .none)(pl:IsPart vl lo)(pu:IsPart vu hi) (hw:¬ (aR items.size 0 lo=0/\aR items.size items.size hi=items.size)) (h:Q (.ref s.heap.objs.size) { s with heap:=s.heap.push { cls:=.type "tuple",data:=.seq ((items.toList.drop (aR items.size 0 lo)).take (aR items.size items.size hi - aR items.size 0 lo)).toArray } }) (hsz:items.size<=sizeLine):wpAny (model prog w) A (getItem (.ref t) (.ref sl)) Q E s:=by
 have htake:sizeOk (.seq ((items.toList.drop (aR items.size 0 lo)).take (aR items.size items.size hi - aR items.size 0 lo)).toArray):=by show((items.toList.drop (aR items.size 0 lo)).take (aR items.size items.size hi - aR items.size 0 lo)).toArray.size<=sizeLine;rw[uu,Uk,Ud,GP];lia
 have hj:aR items.size items.size hi<=items.size:=fL _ _ (uj _) hi;let⟨os,hos,hcs,hds⟩:=id hs;have hTs:s.TypeIs (.ref sl) "slice":=⟨os,hos,hcs⟩
 unfold getItem
 try with_reducible refine Uo ?_
 first | refine ua (uh ?_) | skip
 refine ua (HQ ht.typeIs aA ?_)
 refine ua (Hk (name:=Str.ofString "__getitem__") ht.typeIs PyProof.Rows.slot_tuple_getitem
  (wpAny_call_entry PyProof.Rows.slot_tuple_getitem ht.typeIs G8 ?_ (hZ _ _)))
 show wpAny _ _ (Builtin.Tuple.tupleItemsOf (.ref t) >>= _) _ _ s;refine ua (Hz ht ?_);refine ua (g9 hTs ?_);rw[uC aA];refine ua (vO hs pl pu ?_);have hno:¬ ((((aR items.size 0 lo:Nat):Int) == 0&&(1:Int) == 1&&(aR items.size items.size hi - aR items.size 0 lo) == items.size)=true):=by intro q;rw[uS,uS] at q;have q1:((aR items.size 0 lo:Nat):Int)=0:=eq_of_beq q.1.1;have q2:aR items.size items.size hi - aR items.size 0 lo=items.size:=eq_of_beq q.2;exact hw ⟨aB,aB⟩
 show wpAny _ _ (if (((aR items.size 0 lo:Nat):Int) == 0&&(1:Int) == 1&&(aR items.size items.size hi - aR items.size 0 lo) == items.size)=true then _ else _) _ _ s;rw[ux hno,zdr]
 first
  | exact ua (m:=Builtin.Tuple.tupleExact _) (UG (uh ⟨_,rfl,uh h⟩) htake)
  | exact ua (m:=Builtin.Tuple.tupleExact _) (UG (ua (uh (uh ⟨_,rfl,uh h⟩))) htake)
  | exact ua (ua (m:=Builtin.Tuple.tupleExact _) (UG (uh (uh ⟨_,rfl,uh h⟩)) htake))
  | exact ua (ua (m:=Builtin.Tuple.tupleExact _) (UG (uh ⟨_,rfl,uh h⟩) htake))
end
end HT
namespace L2
open PySem PySem.Spec PyProof.Rows
abbrev TO:=St->Hp->(Option Int->Hp->Prop)->Prop
section
variable {X:Cx} {e:Expr} {te:TE} {lo hi:Option Expr} {tl th:TO} {pos p2:Pos}
def iR (X:Cx)(r:V->Option Int->Option Int->Hp->VK->Prop):Prop:= ∀ (Lk:Li) (s:Shared) (U:St) (H:Hp) (x:V) (v vl vu:Value) (lo hi:Option Int) (sl:Addr) (Q:VK),Inv X Lk U H s->RelV x v->s.heap.IsSliceOf sl vl vu .none->IsPart vl lo->IsPart vu hi->r x lo hi H Q -> ∃ T id,typeLookup (.type T) "__getitem__" = pure (some (.builtin id))/\s.TypeIs v T/\Lb X (getItem v (.ref sl)) (EP X Lk U Q) X.xe s
def ei (xs:List V)(lo hi:Option Int):List V:=(xs.drop (HT.aR xs.length 0 lo)).take (HT.aR xs.length xs.length hi - HT.aR xs.length 0 lo)
def QQ (xs:List V)(lo hi:Option Int):(ei xs lo hi).length<=xs.length:=by unfold ei;rw[Uk,Ud];lia
def Bb (K:Le):V->Option Int->Option Int->Hp->VK->Prop:=λx lo hi H Q=>∃ a xs,x=.ref a/\bP K H a xs /\ ¬ (HT.aR xs.length 0 lo=0/\HT.aR xs.length xs.length hi=xs.length)/\∀ p,H p=none->Q (.ref p) (upd H p (.tup (ei xs lo hi)))
def N4:iR X (Bb X.K):=by
 intro Lk s U H x v vl vu lo hi sl Q I rx hs pl pu h;let⟨a,xs,rfl,hx,hw,q⟩:=h;cases rx;let⟨its,r,ht,hz⟩:=I.tuple hx;have hlen:its.toArray.size=xs.length:=by rw[uu];exact r.length.symm
 refine⟨"tuple",_,PyProof.Rows.slot_tuple_getitem.lookup,ht.typeIs,?_⟩;refine HT.ZG ht hs pl pu (by rw[hlen];exact hw) ?_ (by rw[hlen];exact hz);rw[hlen];refine⟨.ref s.heap.objs.size,_,I.laid (t':=s.toks) (o:=.tup (ei xs lo hi)) (λb ob q=>uf _ q) (uj _) ?_,rfl,q _ (I.hok.fresh (uj _))⟩;exact⟨uZ (QQ xs lo hi) hz,_,(r.drop (HT.aR xs.length 0 lo)).take (HT.aR xs.length xs.length hi - HT.aR xs.length 0 lo),IsTup.new _ _⟩
def LC (K:Le):R2:=λx y H Q=>∃ a b xs ys,x=.ref a/\y=.ref b/\bP K H a xs/\bP K H b ys/\xs≠[]/\xs.length+ys.length<=sizeLine /\ (ys=[]->Q (.ref a) H)/\(ys≠[]->∀ p,H p=none->Q (.ref p) (upd H p (.tup (xs++ys))))
def Vals.nil_iff (r:Vals xs us):us=[]↔xs=[]:=by
 cases r with
 | nil=>simp
 | cons _ _=>simp
def SA:bR X (binaryOp .Add) (LC X.K):=by intro Lk s U H x y v u Q I rx ry h;let⟨a,b,xs,ys,rfl,rfl,ha,hb,hx,hz,q1,q2⟩:=h;cases rx;cases ry;let⟨its,r1,p1,_⟩:=I.tuple ha;let⟨its2,r2,p2,_⟩:=I.tuple hb;refine HT.SD p1 p2 (λz=>hx (r1.nil_iff.mp z)) (λz=>⟨.ref a,H,I,rfl,q1 (r2.nil_iff.mp z)⟩) (λz=>?_) (by rw[<-r1.length,<-r2.length];exact hz);refine⟨.ref s.heap.objs.size,_,I.laid (t':=s.toks) (o:=.tup (xs++ys)) (λb ob q=>uf _ q) (uj _) ?_,rfl,q2 (λw=>z (r2.nil_iff.mpr w)) _ (I.hok.fresh (uj _))⟩;exact⟨by rw[ub];exact hz,_,r1.append r2,IsTup.new _ _⟩
end
noncomputable def eI (n:Nat)(i:Int):Option Nat:=if 0<=i then(if i<n then some i.toNat else none) else if -(n:Int)<=i then some (i+n).toNat else none
def iL {α:Type}(xs:List α)(i:Int):Option α:=(eI xs.length i).bind λj=>xs[j]?
def XX (h:eI n i=some j):seqIndex? i n=some j/\j<n/\-(n:Int)<=i/\i<n:=by
 unfold eI at h;by_cases h0:0<=i
 ·rw[uC h0] at h;by_cases h1:i<n
  ·rw[uC h1] at h;have e:i.toNat=j:=uQ h;exact⟨by rw[G9 h0 h1,e],aB,aB,h1⟩
  ·rw[ux h1] at h;cases h
 ·rw[ux h0] at h;by_cases h1:-(n:Int)<=i
  ·rw[uC h1] at h;have e:(i+n).toNat=j:=uQ h;exact⟨by rw[G2 aB h1,e],aB,h1,aB⟩
  ·rw[ux h1] at h;cases h
def XY {α:Type}{xs:List α}{i:Int}{v:α}(h:iL xs i=some v):∃ j,seqIndex? i xs.length=some j/\xs[j]? = some v/\j<xs.length/\-(xs.length:Int)<=i/\i<xs.length:=by
 unfold iL at h;cases e:eI xs.length i with
 | none=>rw[e] at h;cases h
 | some j=>rw[e] at h;let⟨h1,h2,h3,h4⟩:=XX e;exact⟨j,h1,h,h2,h3,h4⟩
def En (b:Expr):Prop:=∀ o i,subscripted b false o i=operate [o,i] (getItem o i)
def iT (X:Cx)(r:R2):Prop:= ∀ (value slice:Expr) (Lk:Li) (s:Shared) (U:St) (H:Hp) (x y:V) (v u:Value) (Q:VK),Inv X Lk U H s->RelV x v->RelV y u->r x y H Q -> subscripted slice false v u=operate [v,u] (getItem v u)->Lb X (subscriptTail value slice v u) (EP X Lk U Q) X.xe s
def lM (X:Cx)(id:String)(r:V->List V->Hp->VK->Prop):Prop:= ∀ (Lk:Li) (s:Shared) (U:St) (H:Hp) (x:V) (xs:List V) (v:Value) (us:Lf) (Q:VK),Inv X Lk U H s->RelV x v->Vals xs us->r x xs H Q -> Lb X (call (.builtin id) (v::us)) (EP X Lk U Q) X.xe s
section
variable {X:Cx} {a b:Expr} {ta tb:TE} {pos:Pos}
def LB (hr:iT X r)(ha:PE X a ta)(hb:PE X b tb)(hs:En b):PE X (.Subscript a b pos) (pE r ta tb):=by intro Lk s U H Q I h;exact Subscript_ (nv ha hb I h λv u s2 x y H2 I2 rx ry q=>hr a b Lk s2 U H2 x y v u Q I2 rx ry q (hs _ _))
def m4 (K:Le):R2:=λx y H Q=>∃ p xs i v,x=.ref p/\y=.int i/\cJ K H p xs/\iL xs i=some v/\Q v H
def mZ (K:Le):R2:=λx y H Q=>∃ p xs i v,x=.ref p/\y=.int i/\bP K H p xs/\iL xs i=some v/\Q v H
def Be:R2:=λx y H Q=>∃ z i c,x=.str z/\y=.int i/\z.length<=sizeLine/\iL z.cps.toList i=some c/\Q (.str ⟨#[c]⟩) H
def Sz:iT X (m4 X.K):=by
 intro value slice Lk s U H x y v u Q I rx ry h hs;let⟨p,xs,i,z,rfl,rfl,hq,he,q⟩:=h;cases rx;let⟨t,rfl⟩:=ry;let⟨its,r,pl,hz⟩:=I.list hq;let⟨j,h1,h2,h3,h4,h5⟩:=XY he;let⟨w,ew,rw'⟩:=r.get h2;have hl:=r.length;have hn:=yJ;have fin:EP X Lk U Q w s:=⟨z,H,I,rw',q⟩
 by_cases h0:0<=i
 ·have hj:i.toNat=j:=by
   rw[G9 h0 h5] at h1
   exact uQ h1
  exact item_listR pl.isList h0 aB (by rw[hj];simpa using ew) fin hs
 ·have hj:(i+(its.toArray.size:Int)).toNat=j:=by
   rw[G2 aB h4] at h1
   rw[uu,<-hl]
   exact uQ h1
  exact GY (x:=w) pl.isList.typeIs HR.lookup
   (wpAny_getItem_list_neg (Q:=λr s'=>r=w/\EP X Lk U Q r s') pl.isList aB (by rw[uu]<;>lia) aB (by rw[hj];simpa using ew) ⟨rfl,fin⟩) hs
def N3:iT X (mZ X.K):=by
 intro value slice Lk s U H x y v u Q I rx ry h hs;let⟨p,xs,i,z,rfl,rfl,hq,he,q⟩:=h;cases rx;let⟨t,rfl⟩:=ry;let⟨its,r,pl,hz⟩:=I.tuple hq;let⟨j,h1,h2,h3,h4,h5⟩:=XY he;let⟨w,ew,rw'⟩:=r.get h2;have hl:=r.length;have hn:=yJ;have fin:EP X Lk U Q w s:=⟨z,H,I,rw',q⟩
 exact GY (x:=w) pl.typeIs slot_tuple_getitem.lookup
  (getItem_tuple (j:=j) (Q:=λr s'=>r=w/\EP X Lk U Q r s') pl aB aB (by rw[uu,<-hl];exact h1) (by simpa using ew) ⟨rfl,fin⟩) hs
def N2:iT X Be:=by
 intro value slice Lk s U H x y v u Q I rx ry h hs;let⟨z,i,c,rfl,rfl,hz,he,q⟩:=h;let⟨t,rfl⟩:=rx;let⟨t',rfl⟩:=ry;let⟨j,h1,h2,h3,h4,h5⟩:=XY he;have hl:z.cps.toList.length=z.length:=by simp[Str.length]
 rw[hl] at h1 h4 h5;have hn:=yJ
 exact tail_any (gq s z t) slot_str_getitem.lookup (getItem_str (c:=c) (by
  have e1:decide (i < -(2 ^ 63:Int))=false:=uv aB
  have e2:decide (i ≥ 2 ^ 63)=false:=uv aB
  rw[e1,e2,Bool.or_false]) (by rw[h1];simpa using h2) ⟨.str ⟨#[c]⟩,H,I.tok _,⟨_,rfl⟩,q⟩) hs
def zaa (its:Lf)(n j:Nat)(u:Value):Obj.mapSeq (·.setIfInBounds j u) { cls:=.type "list",data:=.seq its.toArray n }={ cls:=.type "list",data:=.seq (its.set j u).toArray n }:=by simp[Obj.mapSeq]
theorem Inv.lst {Lk:Li}{s:Shared}{xs:List V}(I:Inv X Lk U H s)(h:H p=some (.lst xs)) : ∃ (its:Lf) (n:Nat),Vals xs its/\s.heap.get? p=some { cls:=.type "list",data:=.seq its.toArray n }/\xs.length<=sizeLine:=by let⟨z,its,n,r,e⟩:=I.hok p _ h;exact⟨its,n,r,e,z⟩
def Inv.lstUpd {Lk:Li}{s:Shared}{xs ys:List V}{its its':Lf}(I:Inv X Lk U H s)(h:H p=some (.lst xs)) (ho:s.heap.get? p=some { cls:=.type "list",data:=.seq its.toArray n }) (hf:f { cls:=.type "list",data:=.seq its.toArray n }={ cls:=.type "list",data:=.seq its'.toArray n' }) (r:Vals ys its') (hz:ys.length<=sizeLine) (t:Nat) : Inv X Lk U (upd H p (.lst ys)) { s with heap:=s.heap.update p f,toks:=t }:=by
 have e:(s.heap.update p f).get? p=some { cls:=.type "list",data:=.seq its'.toArray n' }:=by rw[UK f ho (by rw[hf]<;>rfl),hf]
 refine I.write (x:=p) (e:=p) (by rw[h];trivial) (.inl rfl) (λb u hb q=>(Ue _ _ (Ne.symm hb)).trans q) ⟨_,e⟩ ?_;exact⟨hz,its',n',r,e⟩
def B8:V->V->V->Hp->(Hp->Prop)->Prop:=λo i v H Q=>∃ p xs k j,o=.ref p/\i=.int k/\H p=some (.lst xs)/\eI xs.length k=some j/\Q (upd H p (.lst (xs.set j v)))
def set_list:nI X B8:=by
 intro Lk s U H o i v ov iv u Q I ro ri rv h;let⟨p,xs,k,j,rfl,rfl,hp,hj,q⟩:=h;cases ro;let⟨t,rfl⟩:=ri;let⟨its,n,r,ho,hz⟩:=I.lst hp;let⟨h1,h2,h3,h4⟩:=XX hj;have hl:=r.length;have hn:=yJ
 have I':Inv X Lk U (upd H p (.lst (xs.set j v))) { s with heap:=s.heap.update p (Obj.mapSeq (·.setIfInBounds j u)) }:=
  I.lstUpd hp ho (zaa its n j u) (r.set rv j) (by rw[List.length_set];exact hz) s.toks
 by_cases h0:0<=k
 ·have hk:k.toNat=j:=by
   rw[G9 h0 h4] at h1
   exact uQ h1
  exact PySem.W.ki_setAt ho h0 aB (by rw[uu,<-hl];exact h4) (by rw[hk];exact⟨_,I',q⟩)
 ·have hk:(k+(its.toArray.size:Int)).toNat=j:=by
   rw[G2 aB h3] at h1
   rw[uu,<-hl]
   exact uQ h1
  exact PySem.W.ki_setBack ho aB (by rw[uu,<-hl];exact h3) aB (by rw[hk];exact⟨_,I',q⟩)
def XZ (lo hi:Option Int)(n:Nat):(sliceBounds lo hi none n).1=((HT.aR n 0 lo:Nat):Int)/\(sliceBounds lo hi none n).2.1=((HT.aR n n hi:Nat):Int)/\(sliceBounds lo hi none n).2.2=1:=by
 refine⟨?_,?_,rfl⟩
 ·cases lo with
  | none=>simp[sliceBounds,HT.aR]
  | some i=>
   simp only[sliceBounds,HT.aR,Gs,show(1:Int) > 0 by decide,Gh];by_cases h:i<0
   ·simp only[h,Gh]<;>lia
   ·simp only[h,gZ]<;>lia
 ·cases hi with
  | none=>simp[sliceBounds,HT.aR]
  | some i=>
   simp only[sliceBounds,HT.aR,Gs,show(1:Int) > 0 by decide,Gh];by_cases h:i<0
   ·simp only[h,Gh]<;>lia
   ·simp only[h,gZ]<;>lia
def WD (its:Lf)(lo hi:Option Int):slicePick its.toArray lo hi none=((its.drop (HT.aR its.length 0 lo)).take (HT.aR its.length its.length hi - HT.aR its.length 0 lo)).toArray:=by let⟨h1,h2,h3⟩:=XZ lo hi its.toArray.size;unfold slicePick;rw[h1,h2,h3];simp only[sliceRange_one,GK,uu]<;>rfl
def pZ (K:Le):V->Option Int->Option Int->Hp->VK->Prop:=λx lo hi H Q=>∃ a xs,x=.ref a/\cJ K H a xs/\∀ p,H p=none->Q (.ref p) (upd H p (.lst (ei xs lo hi)))
def Sw:iR X (pZ X.K):=by intro Lk s U H x v vl vu lo hi sl Q I rx hs pl pu h;let⟨a,xs,rfl,hx,q⟩:=h;cases rx;let⟨its,r,ht,hz⟩:=I.list hx;have hlen:=r.length;refine⟨"list",_,HR.lookup,ht.isList.typeIs,?_⟩;refine wpAny_getItem_list_slice ht.isList hs pl pu .none aD ?_ (by rw[uu]<;>lia);rw[WD,<-hlen];refine⟨.ref s.heap.objs.size,_,I.laid (t':=s.toks) (o:=.lst (ei xs lo hi)) (λb ob q=>uf _ q) (uj _) ?_,rfl,q _ (I.hok.fresh (uj _))⟩;exact⟨uZ (QQ xs lo hi) hz,_,0,(r.drop (HT.aR xs.length 0 lo)).take (HT.aR xs.length xs.length hi - HT.aR xs.length 0 lo),uB _ rfl⟩
noncomputable def zL:V->Bool
 | .non=>true
 | .bl _=>true
 | .int _=>true
 | .str _=>true
 | _=>false
noncomputable def lj:V->V->Bool
 | .non,.non=>true
 | .bl a,.bl b=>a == b
 | .bl a,.int b=>(if a then 1 else 0) == b
 | .int a,.bl b=>a == (if b then 1 else 0)
 | .int a,.int b=>a == b
 | .str a,.str b=>a == b
 | _,_=>false
def DE (ry:RelV y u)(rx:RelV x v)(fy:zL y=true)(fx:zL x=true):SeqAt.EqAt A s u v (lj y x):=by
 cases y with
 | non=>
  cases ry;cases x with
  | non=>cases rx;exact SeqAt.EqAt.same _
  | bl b=>cases rx;exact SeqAt.EqAt.none_bool b
  | int b=>let⟨t,rfl⟩:=rx;exact SeqAt.EqAt.none_int b t
  | str b=>let⟨t,rfl⟩:=rx;exact SeqAt.EqAt.none_str b t
  | _=>exact absurd (show false=true from fx) uP
 | bl a=>
  cases ry;cases x with
  | non=>cases rx;exact SeqAt.EqAt.bool_none a
  | bl b=>cases rx;exact SeqAt.EqAt.bool_bool a b
  | int b=>let⟨t,rfl⟩:=rx;exact SeqAt.EqAt.bool_int a b t
  | str b=>let⟨t,rfl⟩:=rx;exact SeqAt.EqAt.bool_str a b t
  | _=>exact absurd (show false=true from fx) uP
 | int a=>
  let⟨t',rfl⟩:=ry;cases x with
  | non=>cases rx;exact SeqAt.EqAt.int_none a t'
  | bl b=>cases rx;exact SeqAt.EqAt.int_bool a t' b
  | int b=>let⟨t,rfl⟩:=rx;exact SeqAt.EqAt.int_int a t' b t
  | str b=>let⟨t,rfl⟩:=rx;exact SeqAt.EqAt.int_str a t' b t
  | _=>exact absurd (show false=true from fx) uP
 | str a=>
  let⟨t',rfl⟩:=ry;cases x with
  | non=>cases rx;exact SeqAt.EqAt.str_none a t'
  | bl b=>cases rx;exact SeqAt.EqAt.str_bool a t' b
  | int b=>let⟨t,rfl⟩:=rx;exact SeqAt.EqAt.str_int a t' b t
  | str b=>let⟨t,rfl⟩:=rx;exact SeqAt.EqAt.str_str a t' b t
  | _=>exact absurd (show false=true from fx) uP
 | _=>exact absurd (show false=true from fy) uP
def fS (x:V)(u:Value):Bool:=match u with
 | .none=>lj .non x
 | .bool b=>lj (.bl b) x
 | .int i _=>lj (.int i) x
 | .str z _=>lj (.str z) x
 | _=>false
def DD (r:RelV y u)(f:zL y=true):fS x u=lj y x:=by
 cases y with
 | non=>cases r;rfl
 | bl b=>cases r;rfl
 | int i=>let⟨t,rfl⟩:=r;rfl
 | str z=>let⟨t,rfl⟩:=r;rfl
 | _=>exact absurd (show false=true from f) uP
theorem ZH:∀ {xs:List V} {us:Lf},Vals xs us->xs.all zL=true->us.any (fS x)=xs.any λy=>lj y x
 | _,_,.nil,_=>rfl
 | y::xs,u::us,.cons r t,f=>by rw[UW,uS] at f;rw[UX,UX,DD r f.1,ZH t f.2]
theorem yK (rx:RelV x v)(fx:zL x=true):∀ {xs:List V} {us:Lf},Vals xs us->xs.all zL=true->∀ u∈us,SeqAt.EqAt A s u v (fS x u)
 | _,_,.nil,_=>λu hu=>by cases hu
 | y::xs,u::us,.cons r t,f=>λu' hu=>by
  rw[UW,uS] at f;rcases uw.mp hu with rfl | hu
  ·rw[DD r f.1];exact DE r rx f.1 fx
  ·exact yK rx fx t f.2 u' hu
def iz (x:V)(xs:List V):Bool:=xs.any λy=>lj y x
def tF (K:Le)(neg:Bool):R2:=λx y H Q=>∃ p xs,y=.ref p/\(cJ K H p xs\/bP K H p xs)/\zL x=true/\xs.all zL=true/\Q (.bl (if neg then !iz x xs else iz x xs)) H
def zcq:bR X (compareOp .In) (tF X.K false):=by
 intro Lk s U H x y v u Q I rx ry h;let⟨p,xs,rfl,hq,fx,fs,q⟩:=h;cases ry;rcases hq with hq | hq
 ·let⟨its,r,pl,hz⟩:=I.list hq;refine SeqAt.in_listAt (fS x) pl.isList (λw hw=>yK rx fx r fs w (by simpa using hw)) ⟨.bl _,H,I,rfl,?_⟩;rw[show its.toArray.any (fS x)=its.any (fS x) by simp,ZH r fs];exact q
 ·let⟨its,r,pl,hz⟩:=I.tuple hq;refine SeqAt.in_tupleAt (fS x) pl (λw hw=>yK rx fx r fs w (by simpa using hw)) ⟨.bl _,H,I,rfl,?_⟩;rw[show its.toArray.any (fS x)=its.any (fS x) by simp,ZH r fs];exact q
def X0:bR X (compareOp .NotIn) (tF X.K true):=by
 intro Lk s U H x y v u Q I rx ry h;let⟨p,xs,rfl,hq,fx,fs,q⟩:=h;cases ry;rcases hq with hq | hq
 ·let⟨its,r,pl,hz⟩:=I.list hq;refine SeqAt.notIn_listAt (fS x) pl.isList (λw hw=>yK rx fx r fs w (by simpa using hw)) ⟨.bl _,H,I,rfl,?_⟩;rw[show its.toArray.any (fS x)=its.any (fS x) by simp,ZH r fs];exact q
 ·let⟨its,r,pl,hz⟩:=I.tuple hq;refine SeqAt.notIn_tupleAt (fS x) pl (λw hw=>yK rx fx r fs w (by simpa using hw)) ⟨.bl _,H,I,rfl,?_⟩;rw[show its.toArray.any (fS x)=its.any (fS x) by simp,ZH r fs];exact q
def X1:qD X (.builtin "len") (λxs H Q=>∃ p ys,xs=[.ref p]/\(cJ X.K H p ys\/bP X.K H p ys)/\Q (.int ys.length) H):=by
 intro Lk s U H xs us Q I r h;let⟨p,ys,rfl,hq,q⟩:=h;let⟨u,rfl,rx⟩:=vals1 r;cases rx;have hn:=yJ;rcases hq with hq | hq
 ·let⟨its,r',pl,hz⟩:=I.list hq;have hlen:=r'.length;exact Calls.call_len_list pl.isList (by simp only[uu]<;>lia) ⟨.int ys.length,H,I.tok _,⟨s.toks+1,by rw[uu,hlen]⟩,q⟩
 ·let⟨its,r',pl,hz⟩:=I.tuple hq;have hlen:=r'.length;exact len_tuple pl (by simp only[uu]<;>lia) ⟨.int ys.length,H,I.tok _,⟨s.toks+1,by rw[uu,hlen]⟩,q⟩
def X2:qD X (.builtin "len") (λxs H Q=>∃ z,xs=[.str z]/\z.length<=sizeLine/\Q (.int z.length) H):=by intro Lk s U H xs us Q I r h;let⟨z,rfl,hz,q⟩:=h;let⟨u,rfl,t,rfl⟩:=vals1 r;have hn:=yJ;exact len_str aB ⟨.int z.length,H,I.tok _,⟨_,rfl⟩,q⟩
def X3:qD X (.type "list") (λxs H Q=>∃ p ys,xs=[.ref p]/\(cJ X.K H p ys\/bP X.K H p ys)/\∀ l,H l=none->Q (.ref l) (upd H l (.lst ys))):=by
 intro Lk s U H xs us Q I r h;let⟨p,ys,rfl,hq,q⟩:=h;let⟨u,rfl,rx⟩:=vals1 r;cases rx
 have fin:∀ (its:Lf),Vals ys its->ys.length<=sizeLine->∀ (h':Heap) (c':Nat),(∀ b o',s.heap.get? b=some o'->h'.get? b=some o') ->
   h'.get? s.heap.objs.size=some { cls:=.type "list",dict:=none,data:=.seq its.toArray c',slots:=#[] }->EP X Lk U Q (.ref s.heap.objs.size) { s with heap:=h' }:=λits r' hz h' c' kp e=>
  ⟨.ref s.heap.objs.size,_,I.laid (t':=s.toks) kp (uj _) (show zN X.prog X.w _ h' _ (.lst ys) from⟨hz,its,c',r',e⟩),rfl,q _ (I.hok.fresh (uj _))⟩
 rcases hq with hq | hq
 ·let⟨its,r',pl,hz⟩:=I.list hq;have hlen:=r'.length;let⟨o,ho,hc,n,hd⟩:=pl.isList;exact call_list_seq p (.inl rfl) ho hc hd (λh' c' kp e=>fin its r' hz h' c' kp e) (by simp only[uu]<;>lia)
 ·let⟨its,r',pl,hz⟩:=I.tuple hq;have hlen:=r'.length;let⟨o,ho,hc,n,hd⟩:=pl;exact call_list_seq p (.inr rfl) ho hc hd (λh' c' kp e=>fin its r' hz h' c' kp e) (by simp only[uu]<;>lia)
def Zc:qD X (.type "tuple") (λxs H Q=>∃ p ys,xs=[.ref p]/\((cJ X.K H p ys/\∀ l,H l=none->Q (.ref l) (upd H l (.tup ys)))\/(bP X.K H p ys/\Q (.ref p) H))):=by
 intro Lk s U H xs us Q I r h;let⟨p,ys,rfl,h⟩:=h;let⟨u,rfl,rx⟩:=vals1 r;cases rx;rcases h with⟨hq,q⟩ | ⟨hq,q⟩
 ·let⟨its,r',pl,hz⟩:=I.list hq;have hlen:=r'.length;refine call_tuple_list pl.isList (λh' kp=>?_) (by simp only[uu]<;>lia);have I1:Inv X Lk U H { s with heap:=h' }:=I.kept (t':=s.toks) kp
  have I2:Inv X Lk U (upd H h'.objs.size (.tup ys)) { s with heap:=h'.push { cls:=.type "tuple",data:=.seq its.toArray } }:=
   I1.laid (t':=s.toks) (λb o e=>uf _ e) (uj _) (show zN X.prog X.w _ _ _ (.tup ys) from⟨hz,its,r',IsTup.new _ _⟩)
  exact⟨.ref h'.objs.size,_,I2,rfl,q _ (I1.hok.fresh (uj _))⟩
 ·let⟨its,r',pl,hz⟩:=I.tuple hq;exact call_tuple_same pl ⟨.ref p,H,I,rfl,q⟩
def pk (K:Le)(T:String)(x:V)(H:Hp):Prop:=match x with
 | .str _=>T="str"
 | .int _=>T="int"
 | .ref p=>(T="list"/\∃ xs,cJ K H p xs)\/(T="tuple"/\∃ o,K.lookup p=some o/\o.cls=.type "tuple"/\o.dict=none) \/
   (T="dict"/\((∃ kvs,H p=some (.dK kvs))\/∃ kvs,H p=some (.dT kvs)))\/(T="set"/\∃ S n,H p=some (.set S n))
 | _=>False
def DC {Lk:Li}{s:Shared}(I:Inv X Lk U H s)(r:RelV x v)(ty:pk X.K T x H) : s.TypeIs v T/\∀ a,v=.ref a->∃ ob,s.heap.get? a=some ob/\ob.dict=none:=by
 cases x with
 | str z=>let⟨t,rfl⟩:=r;cases (show T="str" from ty);exact⟨gq s z t,λ_ e=>nomatch e⟩
 | int i=>let⟨t,rfl⟩:=r;cases (show T="int" from ty);exact⟨typeIs_int s i t,λ_ e=>nomatch e⟩
 | ref p=>
  cases r;rcases ty with⟨rfl,xs,hq⟩ | ⟨rfl,o,hk,hc,hd⟩ | ⟨rfl,hk⟩ | ⟨rfl,S,n,hk⟩
  ·let⟨its,_,pl,_⟩:=I.list hq;refine⟨pl.isList.typeIs,λa e=>?_⟩;cases e;let⟨o,n,e,c,hd,_⟩:=pl;exact⟨o,e,hd⟩
  ·refine⟨⟨o,I.kIn p o hk,hc⟩,λa e=>?_⟩;cases e;exact⟨o,I.kIn _ o hk,hd⟩
  ·have z:∃ o,s.heap.get? p=some o/\o.ExactDict:=by
    rcases hk with⟨kvs,hk⟩ | ⟨kvs,hk⟩
    ·let⟨_,_,_,_,o,_,_,e,ex,_⟩:=I.hok p _ hk
     exact⟨o,e,ex⟩
    ·let⟨_,_,_,_,o,_,_,e,ex,_⟩:=I.hok p _ hk
     exact⟨o,e,ex⟩
   let⟨o,e,ex⟩:=z
   refine⟨⟨o,e,ex.1⟩,λa e2=>?_⟩
   cases e2
   exact⟨o,e,ex.2.1⟩
  ·let⟨o,_,_,_,e,ex,_⟩:=I.hok p _ hk;refine⟨⟨o,e,ex.1⟩,λa e2=>?_⟩;cases e2;exact⟨o,e,ex.2.1⟩
 | _=>exact False.elim ty
def pM (K:Le)(T:String)(r:V->List V->Hp->VK->Prop)(to:TE):TE:=λU H Q=>to U H λx H1=>pk K T x H1/\r x [] H1 Q
def tD (K:Le)(T:String)(r:V->List V->Hp->VK->Prop)(to:TE)(t:TA):TE:=λU H Q=>to U H λx H1=>pk K T x H1/\t U H1 λxs H2=>r x xs H2 Q
variable {o e:Expr} {es:Lg} {to:TE} {t:TA} {name:Str} {apos cpos:Pos} {T id:String} {r:V->List V->Hp->VK->Prop}
def N1 (pa:PlainAttrs T)(slot:Slot T name id)(hty:typeOf (.builtin id)=pure (.type "method_descriptor"))(hm:lM X id r)(ho:PE X o to) (hbase:attributeBase o name X.env (eval o X.env)=eval o X.env:=by rfl) (hline:(apos.endLine == cpos.line)=true:=by rfl):PE X (.Call (.Attribute o name apos) [] [] cpos) (pM X.K T r to):=by intro Lk s U H Q I h;refine wpAny_Call_method0_late hbase hline (aX (ho Lk s U H _ I h) λv s1 zq=>?_);let⟨x,H1,I1,r1,ty,q1⟩:=zq;let⟨h1,h2⟩:=DC I1 r1 ty;exact⟨T,id,pa,slot,hty,h1,h2,Calls.callWith_builtin rfl (PySem.evalArgs_none (hm Lk s1 U H1 x [] v [] Q I1 r1 .nil q1))⟩
def Lz (pa:PlainAttrs T)(slot:Slot T name id)(hty:typeOf (.builtin id)=pure (.type "method_descriptor"))(hm:lM X id r)(ho:PE X o to)(ha:PA X (e::es) t) (hbase:attributeBase o name X.env (eval o X.env)=eval o X.env:=by rfl) (hfew:((backTo cpos (starEach (e::es) X.env)).all (λx=>!x.1)&&(backToKw cpos (keywordEach [] X.env)).all (λx=>x.1.isSome) && decide ((e::es).length+([]:List Keyword).length+(if ([]:List Keyword).isEmpty then 0 else 1)<30))=true:=by rfl) (hline:(apos.endLine == cpos.line)=true:=by rfl) (hs:starEach (e::es) X.env=(false,eval e X.env)::starEach es X.env:=by rfl) (hplain:(backTo cpos (starEach es X.env)).any (·.1)=false:=by rfl) : PE X (.Call (.Attribute o name apos) (e::es) [] cpos) (tD X.K T r to t):=by intro Lk s U H Q I h;refine wpAny_Call_method_late hbase hfew hline rfl (aX (ho Lk s U H _ I h) λv s1 zq=>?_);let⟨x,H1,I1,r1,ty,q1⟩:=zq;let⟨h1,h2⟩:=DC I1 r1 ty;refine⟨T,id,pa,slot,hty,h1,h2,?_⟩;have hA:=ha cpos Lk s1 U H1 _ I1 q1;rw[hs] at hA |-;refine Calls.callWith_builtin (by show(false||(backTo cpos (starEach es X.env)).any (·.1))=false;rw[hplain]<;>rfl) (Calls.evalArgs_plain ?_);exact aX hA λus s2 ⟨vs,H2,I2,r2,q2⟩=>hm Lk s2 U H2 x vs v us Q I2 r1 r2 q2
end
def tY (X:Cx)(id:String)(r:V->List V->Hp->VK->Prop):Prop:= ∀ (Lk:Li) (s:Shared) (U:St) (H:Hp) (x:V) (xs:List V) (v:Value) (us:Lf) (Q:VK),Inv X Lk U H s->RelV x v->Vals xs us->r x xs H Q -> Lb X (call (.builtin id) (v::us)) (EP X Lk U Q) X.xe s
def Vals.one:∀ {x:V} {us:Lf},Vals [x] us->∃ u,us=[u]/\RelV x u:=by intro x us h;cases h with | cons r h=>cases h;exact⟨_,rfl,r⟩
def Vals.two:∀ {x y:V} {us:Lf},Vals [x,y] us->∃ u v,us=[u,v]/\RelV x u/\RelV y v:=by intro x y us h;cases h with | cons r h=>cases h with | cons q h=>cases h;exact⟨_,_,rfl,r,q⟩
theorem Vals.zero:∀ {us:Lf},Vals [] us->us=[]
 | _,.nil=>rfl
theorem Vals.dropLast {xs:List V}{us:Lf}(h:Vals xs us):Vals xs.dropLast us.dropLast:=by
 induction h with
 | nil=>exact .nil
 | cons r t ih=>
  cases t with
  | nil=>exact .nil
  | cons q t'=>exact .cons r ih
theorem Vals.eraseIdx:∀ {xs:List V} {us:Lf} (i:Nat),Vals xs us->Vals (xs.eraseIdx i) (us.eraseIdx i)
 | _,_,_,.nil=>.nil
 | _,_,0,.cons _ t=>t
 | _,_,i+1,.cons r t=>.cons r (Vals.eraseIdx i t)
def zab {α:Type}(l:List α):l.eraseIdx (l.length - 1)=l.dropLast:=by
 induction l with
 | nil=>rfl
 | cons a r ih=>
  cases r with
  | nil=>rfl
  | cons b r=>
   have e:(a::b::r).length - 1=((b::r).length - 1)+1:=by have h1:(a::b::r).length=r.length+2:=rfl;have h2:(b::r).length=r.length+1:=rfl;lia
   rw[e,List.eraseIdx_cons_succ,ih];all_goals rfl
theorem Xb {α:Type}:∀ (l:List α) (i:Nat),(l.eraseIdx i).length<=l.length
 | [],_=>uj _
 | _::_,0=>UM _
 | _::r,i+1=>gM (Xb r i)
section
variable {X:Cx} {Lk:Li} {U:St} {H:Hp} {s:Shared} {l b:Addr} {xs ys zs:List V}
def Inv.lset {its its':Lf}(I:Inv X Lk U H s)(hH:H l=some (.lst xs)) (e:s.heap.get? l=some { cls:=.type "list",data:=.seq its.toArray n }) (hf:f its.toArray=its'.toArray) (hv:Vals ys its') (hz:ys.length<=sizeLine) : Inv X Lk U (upd H l (.lst ys)) { s with heap:=s.heap.update l (Obj.mapSeq f),toks:=t' }:=by have q:=PySem.IsL.update e f;rw[hf] at q;refine I.write (x:=l) (e:=l) (by rw[hH];exact trivial) (.inl rfl) (λb' u hb hu=>(Ue s.heap (Obj.mapSeq f) (Ne.symm hb)).trans hu) ⟨_,q⟩ ?_;exact⟨hz,its',_,hv,q⟩
def Inv.lnew {its:Lf}(I:Inv X Lk U H s)(hv:Vals ys its)(hz:ys.length<=sizeLine) :
  Inv X Lk U (upd H s.heap.objs.size (.lst ys)) { s with heap:=s.heap.push { cls:=.type "list",data:=.seq its.toArray },toks:=t' }:=
 I.laid (λ_ _ q=>uf _ q) (uj _) ⟨hz,its,0,hv,uB _ rfl⟩
theorem Inv.fresh (I:Inv X Lk U H s):H s.heap.objs.size=none:=I.hok.fresh (uj _)
def Inv.lstM (I:Inv X Lk U H s)(hH:H l=some (.lst xs)):xs.length<=sizeLine/\∃ (its:Lf) (n:Nat),Vals xs its/\xs.length=its.length/\s.heap.get? l=some { cls:=.type "list",data:=.seq its.toArray n }:=by let⟨z,its,n,r,e⟩:=I.hok l _ hH;exact⟨z,its,n,r,r.length,e⟩
end
section
variable {X:Cx}
def Em:V->List V->Hp->VK->Prop:=λx vs H Q=>∃ l xs y,x=.ref l/\vs=[y]/\H l=some (.lst xs)/\xs.length<sizeLine/\Q .non (upd H l (.lst (xs++[y])))
def Xc:tY X "list.append" Em:=by intro Lk s U H x vs v us Q I rx rv h;let⟨l,xs,y,rfl,rfl,hH,hz,q⟩:=h;cases rx;let⟨u,rfl,ru⟩:=rv.one;let⟨z,its,n,r,hl,e⟩:=I.lstM hH;refine UN F.slot_list_append ⟨_,e,rfl⟩ F.entry_list_append (F.args_list_append_2 _ _) (PySem.list_append l its.toArray n u (by rw[uu];lia)) ⟨e,?_⟩;refine⟨.non,_,I.lset (its':=its++[u]) hH e aD (r.append (.cons ru .nil)) ?_,rfl,q⟩;rw[ub,List.length_singleton];lia
def p5:V->List V->Hp->VK->Prop:=λx vs H Q=>∃ l xs y,x=.ref l/\vs=[]/\H l=some (.lst xs)/\xs[xs.length - 1]? = some y/\Q y (upd H l (.lst xs.dropLast))
def N0:tY X "list.pop" p5:=by
 intro Lk s U H x vs v us Q I rx rv h;let⟨l,xs,y,rfl,rfl,hH,hy,q⟩:=h;cases rx;have hus:=rv.zero;subst hus;let⟨z,its,n,r,hl,e⟩:=I.lstM hH;let⟨u,hu,ru⟩:=r.get hy;have hy':its.toArray[its.toArray.size - 1]? = some u:=by show its.toArray[its.length - 1]? = some u;rw[<-Array.getElem?_toList,<-hl];exact hu
 refine UN F.slot_list_pop ⟨_,e,rfl⟩ F.entry_list_pop (F.args_list_pop_1 _) (MeetsSeq.list_pop_last l its.toArray n u hy' (by rw[uu];lia)) ⟨e,?_⟩;refine⟨y,_,I.lset (its':=its.dropLast) hH e ?_ r.dropLast ?_,ru,q⟩
 ·show its.toArray.eraseIdxIfInBounds (its.toArray.size - 1)=its.dropLast.toArray;rw[uu,Ha,zab]
 ·rw[List.length_dropLast];lia
def DB:V->List V->Hp->VK->Prop:=λx vs H Q=>∃ l xs i k y,x=.ref l/\vs=[.int i]/\H l=some (.lst xs)/\-(2 ^ 63)<=i/\i<2 ^ 63/\seqIndex? i xs.length=some k/\xs[k]? = some y/\Q y (upd H l (.lst (xs.eraseIdx k)))
def zdx:tY X "list.pop" DB:=by
 intro Lk s U H x vs v us Q I rx rv h;let⟨l,xs,i,k,y,rfl,rfl,hH,h1,h2,hk,hy,q⟩:=h;cases rx;let⟨u,rfl,ru⟩:=rv.one;let⟨t,rfl⟩:=ru;let⟨z,its,n,r,hl,e⟩:=I.lstM hH;let⟨w,hw,rw'⟩:=r.get hy
 refine UN F.slot_list_pop ⟨_,e,rfl⟩ F.entry_list_pop (F.args_list_pop_2 _ _)
  (MeetsSeq.list_pop_at l its.toArray n i t k w (fitsIndex_both h1 h2) (by rw[uu,<-hl];exact hk) (by rw[<-Array.getElem?_toList];exact hw) (by rw[uu];lia)) ⟨e,?_⟩
 refine⟨y,_,I.lset (its':=its.eraseIdx k) hH e ?_ (r.eraseIdx k) ?_,rw',q⟩
 ·show its.toArray.eraseIdxIfInBounds k=(its.eraseIdx k).toArray;rw[Ha]
 ·have:=Xb xs k;lia
def Bh:R2:=λx y H Q=>∃ l b xs zs,x=.ref l/\y=.ref b/\H l=some (.lst xs)/\H b=some (.lst zs)/\xs.length+zs.length<=sizeLine/\∀ p,H p=none->Q (.ref p) (upd H p (.lst (xs++zs)))
def NZ:bR X (binaryOp .Add) Bh:=by
 intro Lk s U H x y v u Q I rx ry h;let⟨l,b,xs,zs,rfl,rfl,hH,hB,hz,q⟩:=h;cases rx;cases ry;let⟨z,its,n,r,hl,e⟩:=I.lstM hH;let⟨z2,its2,n2,r2,hl2,e2⟩:=I.lstM hB;refine PySem.P.add_list e e2 ?_ (by rw[uu,uu];lia);have ea:its.toArray++its2.toArray=(its++its2).toArray:=aD
 rw[ea];exact⟨.ref _,_,I.lnew (t':=s.toks) (r.append r2) (by rw[ub];lia),rfl,q _ I.fresh⟩
end
section
variable {prog:Program} {w:World} {A:Around} {E:Lj} {s:Shared}
set_option maxRecDepth 100000 in
end
section
variable {X:Cx}
end
end L2
namespace Att
open PySem PySem.W PySem.Calls PyProof.Rows
def Q6:∀ (ns:List Int) (vs:Lf),WellAll P h vs (ns.map WData.int)->IntsAre vs ns:=by
 intro ns
 induction ns with
 | nil=>intro vs w;rw[gr] at w;cases w;exact .nil
 | cons n ns ih=>
  intro vs w;rw[uA] at w;cases w with
  | cons a b=>cases a;exact .cons _ _ (ih _ b)
def zcr {l:OpenLaw}(hn:l.most=some n){h:Heap}{args:List WData}{vals:Lf} (hpre:l.row.toRowW.claim.pre args=true) (hwl:WellAll P h vals args) : ∃ a vs ns,vals=[Value.ref a]/\args=[WData.list (ns.map WData.int)]/\h.get? a=some { cls:=.type "list",data:=.seq vs.toArray }/\IntsAre vs ns/\ns.length<=n:=by
 have hsh:WShape.hasAll [] args [.list .int]=true:=(pre_splitW hpre).1;have hc:l.pre.holds [] { args:=args }=true:=(pre_splitW hpre).2;let⟨d,r,rfl,h1,h2⟩:=hasAllW_cons hsh;obtain rfl:=hasAllW_nil h2;let⟨xs,rfl,h3⟩:=hasW_list h1;let⟨ns,rfl⟩:=items_int h3
 have hlen:ns.length<=n:=by
  unfold OpenLaw.pre at hc;have h4:(WTm.not (.lt (.lit (.int (n:Int))) (.len (.arg 0)))).holds [] { args:=[.list (ns.map .int)] }=true:=by have h4:=(holds_andW hc).1;rw[hn] at h4;exact h4
  have h5:=condW_of h4 (w_not (w_lt w_lit (w_len_list (w_arg rfl))));rw[ud] at h5;refine Nat.le_of_not_lt λq=>?_;have q':(n:Int)<((ns.length:Nat):Int):=aB
  first
   | (rw[uK q'] at h5;exact absurd h5 (by decide))
   | (simp at h5;omega)
 cases hwl with
 | cons w1 w2=>
  cases w2;cases w1 with
  | list ho hall=>exact⟨_,_,ns,rfl,rfl,ho,Q6 ns _ hall,hlen⟩
def zcs (l:OpenLaw)(args:List WData):l.row.toRowW.claim.post args (.bool true) args=true:=
 postW_of (r:=l.row.toRowW) (X:=(true == true))
  (show WShape.has [] (.bool true) .bool=true by first | rfl | decide | simp[WShape.has,WShape.arms,WShape.armsAll])
  (show(WTm.eq .res (.lit (.bool true))).value [] { args:=args,res:=some (.bool true),after:=args }=some (.bool (true == true)) from w_eq_bool (w_res rfl) w_lit) rfl
def fA {l:OpenLaw}{loose:Lh}{d:DefRec} (hn:l.most=some n) (hdf:d.params.defaults=[]) (call:∀ (w:World) (s₀ T9:Shared) (mg mb:La) (fa:Addr) (o:Obj) (pm cd doc:Value) (a:Addr) (vs:Lf) (ns:List Int), Ground q loose [] XP w s₀ mg mb T9.heap->YP w T9.heap -> T9.heap.get? fa=some o->o.data=.func (docDef d.name d.params d.body d.scope pm cd doc)->T9.heap.CodeRec cd d.name->mg d.name=some (.ref fa) -> T9.heap.get? a=some { cls:=.type "list",data:=.seq vs.toArray }->IntsAre vs ns->ns.length<=n->T9.gens = #[] -> codeAny (model l.prog w) callerA (.call (.ref fa) ⟨[.ref a],[]⟩) (λr s'=>r=.ok (.ret (.bool true))/\OldK T9.heap s'.heap/\s'.os=T9.os/\AllBare s'.gens) T9) : WalkO q loose XP YP l.row.toRowW d [] (λf vs=>PySem.call f vs):=by intro w s₀ T9 mg mb G Y fa o pm cd doc dV kV ho hd hcd hD hmg hg args vals as hpre hlay hrd hwl hlo;obtain rfl:dV=.none:=Dflts.none hD hdf;obtain rfl:kV=.none:=Dflts.noKw hD;let⟨a,vs,ns,rfl,rfl,hobj,hints,hlen⟩:=zcr hn hpre hwl;refine enter_call (gx (call w s₀ T9 mg mb fa o pm cd doc a vs ns G Y ho (fd_plain hd) hcd hmg hobj hints hlen hg) λr s' hq=>?_);let⟨rfl,h2,h3,h4⟩:=hq;exact⟨.inl ⟨.bool true,.bool true,[],rfl,λ_=>rfl,.bool true,zcs l _,λ_=>⟨List.Pairwise.nil,λ_ hm=>(nomatch hm)⟩⟩,h2,h3,h4⟩
section
variable {prog:Program} {w:World} {A:Around} {E:Lj} {s:Shared} {K:Frag}
end
end Att
namespace L2
open PySem PySem.Spec PyProof.Rows
theorem Xd:∀ {vs:Lf} {ns:List Int},IntsAre vs ns->Vals (ns.map V.int) vs
 | _,_,.nil=>.nil
 | _,_,.cons n t h=>.cons ⟨t,rfl⟩ (Xd h)
def nJ (H:Hp):Prop:=∀ b,H b=none\/∃ o xs,H b=some (.aV o (.lst xs))
def zdy {K:Le}{T9:Shared}{vs:Lf}{ns:List Int} (KX:K.In T9.heap) (hns:T9.heap.Ns mainGlobals mg) (hb:T9.heap.Ns builtinsNs mb) (hbb:∀ x:Str,x≠"__name__"->mb x=bootBuiltins x) (hlim:T9.heap.NoLimit) (hg:T9.gens = #[]) (ha:T9.heap.get? a=some { cls:=.type "list",data:=.seq vs.toArray }) (hi:IntsAre vs ns) (hl:ns.length<=sizeLine) (hr:bT k callerA) (F:∀ base:Heap,K.In base->base.Ns mainGlobals mg->dA P w K mg base CX k fa fd [x] sp) (hbind:∀ (s:Shared) (u:Value),BindsTo s fd ⟨[u],[]⟩ [(x,u)]) (hsp:∀ H:Hp,nJ H->cJ K H a (ns.map V.int)->sp [.ref a] H (λv _=>v=.bl true) λ_ _ _=>False) (hCX:∀ H e s',CX [] H T9 (λ_ _ _=>False) e s'->False) : codeAny (model P w) callerA (.call (.ref fa) ⟨[.ref a],[]⟩) (λr s'=>r=.ok (.ret (.bool true))/\OldK T9.heap s'.heap/\s'.os=T9.os/\AllBare s'.gens) T9:=by
 have rv:=Xd hi;have lenV:=hi.length
 have core:∀ H:Hp,nJ H->cJ K H a (ns.map V.int)->dk P w H T9.heap->(∀ b,H b≠none->b=a)->(H a≠none->K.lookup a=none) ->
   codeAny (model P w) callerA (.call (.ref fa) ⟨[.ref a],[]⟩) (λr s'=>r=.ok (.ret (.bool true))/\OldK T9.heap s'.heap/\s'.os=T9.os/\AllBare s'.gens) T9:=by
  intro H hO hS hok hA hK
  have base_of:∀ {b:Addr} {o:Obj},T9.heap.get? b=some o->H b=none->(eV T9.heap H).get? b=some o:=λe n=>zdd e n
  have noA:∀ {b:Addr} {o:Obj} {es:Array DictEntry} {ep:Nat},T9.heap.get? b=some o->o.data=.dict es ep->H b=none:=λ{b o es ep} e d=>by
   cases q:H b with
   | none=>rfl
   | some u=>
    have e':b=a:=hA b (by rw[q];simp)
    subst e'
    rw[ha] at e;cases e
    have d':Data.seq vs.toArray _=Data.dict es ep:=d
    cases d'
  have nsK:∀ {b:Addr} {m:La},T9.heap.Ns b m->(eV T9.heap H).Ns b m:=λ{b m} ⟨o,es,ep,e,d,r⟩=>⟨o,es,ep,base_of e (noA e d),d,r⟩
  have hKb:K.In (eV T9.heap H):=λb o e=>base_of (KX b o e) (by
   cases q:H b with
   | none=>rfl
   | some u=>
    have e':b=a:=hA b (by rw[q];simp)
    subst e'
    rw[hK (by rw[q];simp)] at e;cases e)
  have hM:Mod K mg (eV T9.heap H):=⟨hKb,nsK hns,⟨mb,nsK hb,hbb⟩,let ⟨mc,h1,h2⟩:=hlim;⟨mc,nsK h1,h2⟩⟩
  have e0:f9 P w K mg (eV T9.heap H) callerA [] T9 H:=⟨rfl,hM,λb o e=>SU e,U4 (zci _ _),trivial,λb hb=>absurd (show b∈([]:Ld) from hb) aD,hok,.of_eq hg⟩
  refine gx ((F _ hKb (nsK hns)).run callerA [] T9 H ⟨[.ref a],[]⟩ [.ref a] [.ref a] _ _ hr e0 (hbind T9 (.ref a)) (.cons rfl .nil) (hsp H hO hS)) λr s' h=>?_
  cases r with
  | error e=>exact(hCX H e s' h).elim
  | ok fl=>
   cases fl with
   | next=>exact False.elim h
   | brk=>exact False.elim h
   | cont=>exact False.elim h
   | ret u=>
    let⟨v,H',os,bare,un,hok',r',q⟩:=h
    have q':v=.bl true:=q
    subst q'
    obtain rfl:u=Value.bool true:=r'
    refine⟨rfl,OldK.of_keep λb o e=>?_,os,bare⟩
    cases q:H b with
    | none=>exact un.keep b o e q (by intro z;exact absurd (show b∈([]:Ld) from z) (by simp)) (by simp)
    | some u=>
     rcases hO b with z | ⟨ob,xs,z⟩
     ·rw[q] at z;cases z
     ·have z2:=un.aL b ob _ z
      let⟨e1,_⟩:=hok b _ z
      let⟨e2,_⟩:=hok' b _ z2
      rw[e] at e1;cases e1
      exact e2
 cases hk:K.lookup a with
 | some o=>have e:=KX a o hk;rw[ha] at e;cases e;refine core (λ_=>none) (λ_=>.inl rfl) (.inr ⟨_,vs.toArray,_,hk,rfl,rfl,rfl,by rw[uu,lenV];exact hl,by simpa using rv⟩) (λb u z=>by have z':(none:Option HO)=some u:=z;cases z') (λb z=>absurd rfl z) λz=>absurd rfl z
 | none=>
  refine core (λb=>if b=a then some (.aV { cls:=.type "list",data:=.seq vs.toArray } (.lst (ns.map V.int))) else none) (λb=>?_) (.inl (.inr ⟨{ cls:=.type "list",data:=.seq vs.toArray },uC rfl⟩)) (λb u z=>?_) (λb z=>?_) λ_=>hk
  ·by_cases hb:b=a
   ·exact .inr ⟨_,_,uC hb⟩
   ·exact .inl (ux hb)
  ·by_cases hb:b=a
   ·have z':=(uC hb).symm.trans z;cases z';subst hb;exact⟨ha,by rw[ud];exact hl,vs,_,rv,ha⟩
   ·have z':=(ux hb).symm.trans z;cases z'
  ·by_cases hb:b=a
   ·exact hb
   ·exact absurd (ux hb) z
def Sv {l:PySem.W.OpenLaw}{n k:Nat}{q:Program}{loose:Lh}{XP:(La)->Heap->Prop}{YP:World->Heap->Prop}{d:DefRec}{K:Params->Le}{CX:World->lQ}{sp:World->Sp}{x:Str} (hn:l.most=some n) (hn2:n<=sizeLine) (hdf:d.params.defaults=[]) (hr:bT k callerA) (hY:∀ (w:World) (h:Heap),YP w h->(K w.params).In h) (F:∀ (w:World) (mg:La) (fa:Addr) (h:Heap),(K w.params).In h->h.Ns mainGlobals mg->mg d.name=some (.ref fa) -> ∃ fd:FuncData,(∀ (s:Shared) (u:Value),BindsTo s fd ⟨[u],[]⟩ [(x,u)]) /\ ∀ base:Heap,(K w.params).In base->base.Ns mainGlobals mg->dA l.prog w (K w.params) mg base (CX w) k fa fd [x] (sp w)) (hsp:∀ (w:World) (H:Hp) (a:Addr) (ns:List Int),ns.length<=n->nJ H->cJ (K w.params) H a (ns.map V.int)->sp w [.ref a] H (λv _=>v=.bl true) λ_ _ _=>False) (hCX:∀ (w:World) (H:Hp) (s:Shared) (e:Value) (s':Shared),CX w [] H s (λ_ _ _=>False) e s'->False) : PySem.W.WalkO q loose XP YP l.row.toRowW d [] (λf vs=>PySem.call f vs):=by refine Att.fA hn hdf λw s₀ T9 mg mb fa o pm cd doc a vs ns G Y ho hd hcd hmg hobj hints hlen hg=>?_;have KX:=hY w _ Y;let⟨fd,hb,hF⟩:=F w mg fa _ KX G.T.g hmg;exact zdy KX G.T.g G.T.b G.T.builtins G.T.nolimit hg hobj hints (uZ hlen hn2) hr hF hb (λH hO hS=>hsp w H a ns hlen hO hS) λH e s'=>hCX w H T9 e s'
noncomputable def jN (s:Stmt):Arguments:=match s with
 | .FunctionDef _ a _ _ _ _ _ _ _ _=>a
 | _=>{ posonlyargs:=[],args:=[],vararg:=none,kwonlyargs:=[],kw_defaults:=[],kwarg:=none,defaults:=[] }
noncomputable def zf (s:Stmt):List Stmt:=match s with
 | .FunctionDef _ _ b _ _ _ _ _ _ _=>b
 | _=>[]
noncomputable def zc (s:Stmt):Scope:=match s with
 | .FunctionDef _ _ _ _ _ _ sc _ _ _=>sc
 | _=>{ kind:=.function,names:=[],isGenerator:=false,isCoroutine:=false }
abbrev mE:lQ:=λ_ _ _ _ _ _=>False
abbrev E0:XK:=λ_ _ _=>False
structure lO (K:Le)(x qual:Str)(st:Stmt)(f:Addr)(fd:FuncData):Prop where
 ex:∃ (oc:Value) (od:Option Addr) (kV doc pm:Value) (an:Option Addr) (cdv ct:Value) (osl:Array (Option Value)),
  fd=PySem.W.fnOf x qual (jN st) (zf st) (zc st) .none kV doc pm an cdv ct/\K.lookup f=some ⟨oc,od,.func fd,osl⟩/\PySem.W.codeIn K cdv qual=true
 kp:PySem.W.keepIn K (.ref f)=true
section
variable {P:Program} {w:World} {K:Le} {mg:La} {base:Heap}
def lO.ok {x qual:Str}{st:Stmt}{f:Addr}{fd:FuncData}{N ps:Lh}{k:Nat}{sp:Sp}(F:lO K x qual st f fd)(S:zi N ps (zc st))(len:∀ vs H Q E,sp vs H Q E->vs.length=ps.length) (hbody:∀ (cdv:Value) (A:Around) (outer:List Env) (s:Shared) (H:Hp) (vs:List V) (Q:VK) (E:XK),bT k (A.deeper (envOfC qual (zc st) s.heap.objs.size f cdv))->sp vs H Q E -> ∃ t,eC (dH mE P w K mg base N qual (zc st) f cdv A outer s H E).nox (zf st) t/\t { nx:=λ_ H'=>Q .non H',rt:=Q } (start N vs) H):dA P w K mg base mE (k+1) f fd ps sp:=by let⟨oc,od,kV,doc,pm,an,cdv,ct,osl,rfl,lk,hcd⟩:=F.ex;refine Ak lk hcd S len λA outer s H vs Q E hr hsp=>?_;let⟨t,h,q⟩:=hbody cdv A outer s H vs Q E hr hsp;exact⟨t,h.nox,q⟩
def lO.binds {x qual:Str}{st:Stmt}{f:Addr}{fd:FuncData}{ps:Lh}(F:lO K x qual st f fd) (h:∀ (kV doc pm:Value) (an:Option Addr) (cdv ct:Value) (us:Lf),us.length=ps.length->bindArgs (PySem.W.fnOf x qual (jN st) (zf st) (zc st) .none kV doc pm an cdv ct) ⟨us,[]⟩=pure (ps.zip us)):Binds K fd ps []:=by let⟨oc,od,kV,doc,pm,an,cdv,ct,osl,rfl,lk,hcd⟩:=F.ex;exact .all (h kV doc pm an cdv ct)
def yL {x qual:Str}{st:Stmt}{f:Addr}{oc:Value}{od an:Option Addr}{osl:Array (Option Value)}{kV doc pm cdv ct:Value}(l:K.lookup f=some ⟨oc,od,.func (PySem.W.fnOf x qual (jN st) (zf st) (zc st) .none kV doc pm an cdv ct),osl⟩) (c:PySem.W.codeIn K cdv qual=true) (k:PySem.W.keepIn K (.ref f)=true):lO K x qual st f (PySem.W.fnOf x qual (jN st) (zf st) (zc st) .none kV doc pm an cdv ct):=⟨⟨oc,od,kV,doc,pm,an,cdv,ct,osl,rfl,l,c⟩,k⟩
end
section
variable {X:Cx}
def pv (i:Nat)(hN:X.N[i]? = some x:=by rfl) (hv:tR X.env.scope x:=by first | exact Or.inl rfl | exact Or.inr (Or.inl rfl) | exact Or.inr (Or.inr rfl)) (hd:(x == ("__debug__":Str))=false:=by decide)
  (hcd:(x == ("__classdict__":Str))=false:=by decide):PE X (.Name x pos) (eP i):=NG hN hv hd hcd
end
def aM (H H':Hp):Prop:=∀ b o,H b=some o->H' b=some o
noncomputable def nM (x:Str):It:=⟨λi _=>i<x.cps.size,λi H v H'=>H' = H/\∃ c,x.cps[i]? = some c/\v=.str ⟨#[c]⟩,λi _=>x.cps.size<=i⟩
section
variable {X:Cx} {tg:Expr}
def QR {P:Program}{w:World}{K:Le}{tg:Expr}{x:Str}{t:Tok}{ty:String}{it:Addr}
  (hty:["enumerate","zip","dict_itemiterator","dict_reverseitemiterator","odict_iterator","itertools.zip_longest","itertools.pairwise"].contains ty=false)
  (W:∀ A':Around,A'.handled=none->Walks P w A' it [it] [it] x.cps.size (SignAt x) (λi h=>h.IsStrIter it ty x t i))
  (hend:∀ (A':Around) (s:Shared) (i:Nat) (E:Lj) (Q:Option Value->Shared->Prop),A'.handled=none->s.heap.IsStrIter it ty x t i->x.cps[i]? = none ->
   (∀ h',(∀ b o,b≠it->s.heap.get? b=some o->h'.get? b=some o)->Q none { s with heap:=h' })->wpAny (model P w) A' (pyNext (.ref it)) Q E s)
  (hself:∀ (A':Around) (s:Shared) (i:Nat) (E:Lj) (Q:Lj),s.heap.IsStrIter it ty x t i->Q (.ref it) s->wpAny (model P w) A' (pyIter (.ref it)) Q E s) :
  Turn P w K tg (nM x) [it] it (λi h=>h.IsStrIter it ty x t i) where
 mem:=aD
 obj:=λi h st b hb=>by
  have e:b=it:=by simpa using hb
  subst e
  let⟨o,e,c,d⟩:=st
  exact⟨o,e,λv z=>by rw[d] at z;cases z⟩
 keep:=λi h h' st k=>let ⟨o,ho,r⟩:=st;⟨o,k it aD o ho,r⟩
 item:=by
  intro X hP hw hK hc i Lk s U H E I hf st hg
  subst hP hw hK
  let⟨f0,f1,f2,f3,f4,f5⟩:=hf it aD
  refine(W X.A (I.ok.hd hc)).item i s _ _ hg st λv h' tk hv st' kk=>?_
  let⟨c,u,hcu,rfl⟩:=hv
  have I1:Inv X Lk U H { s with heap:=h',toks:=tk }:=I.turned (λb o hb e=>kk b o (by simpa using hb) e) f0 f1 f3 f4 f5
  let⟨o,e,hcl,d⟩:=id st'
  exact⟨_,rfl,tq (s:={ s with heap:=h',toks:=tk }) e hcl d hty ⟨.str ⟨#[c]⟩,H,I1,⟨u,rfl⟩,⟨rfl,c,hcu,rfl⟩,st',λb hb=>(hf b hb).1⟩⟩
 done:=by
  intro X hP hw hK hc i Lk s U H E I hf st hg
  subst hP hw hK
  let⟨f0,f1,f2,f3,f4,f5⟩:=hf it aD
  have hg':x.cps.size<=i:=hg
  exact hend X.A s i E _ (I.ok.hd hc) st (by simp[hg']) λh' eb=>⟨rfl,I.turned (t':=s.toks) (λb o hb e=>eb b o hb e) f0 f1 f3 f4 f5⟩
 self:=λA i s Q E st h=>hself A s i E Q st h
end
theorem xM {env:Env}(y:Str):∀ (names:List (Str×NameKind)),
  (names.map λ(n,k)=>if (k == NameKind.free&&env.scope.kind == .function&&env.kindOf n == some .cell) then(n,NameKind.cell) else(n,k)).lookup y =
   (names.lookup y).map λk=>if (k == NameKind.free&&env.scope.kind == .function&&env.kindOf y == some .cell) then NameKind.cell else k
 | []=>rfl
 | (n,k)::r=>by
  have ih:=xM y r (env:=env);rw[uA];by_cases hy:y=n
  ·subst hy;show List.lookup y ((if (k == NameKind.free&&env.scope.kind == .function&&env.kindOf y == some .cell)=true then(y,NameKind.cell) else(y,k))::_)=_;by_cases hc:(k == NameKind.free&&env.scope.kind == .function&&env.kindOf y == some .cell)=true
   ·rw[uC hc];simp only[Ul,Ug,US,hc,Gh]
   ·rw[ux hc];simp only[Ul,Ug,US,hc,gZ];rfl
  ·have hb:(y == n)=false:=by simpa using hy
   show List.lookup y ((if (k == NameKind.free&&env.scope.kind == .function&&env.kindOf n == some .cell)=true then(n,NameKind.cell) else(n,k))::_)=_;by_cases hc:(k == NameKind.free&&env.scope.kind == .function&&env.kindOf n == some .cell)=true
   ·rw[uC hc];simp only[Ul,hb];exact ih
   ·rw[ux hc];simp only[Ul,hb];exact ih
theorem Zi {env:Env}:∀ (names:List (Str×NameKind)) (cs:List (Str×Addr)),(∀ y∈names,y.2=.free->∃ c,env.cells.lookup y.1=some c)->(∀ y c,cs.lookup y=some c->env.cells.lookup y=some c) ->
  ∃ cl,(forIn (m:=Sem) names cs λ(x:Str×NameKind) (r:List (Str×Addr))=>(if (x.2 == .free)=true then(do let c <-cellOf env x.1;pure (ForInStep.yield ((x.1,c)::r))) else pure (ForInStep.yield r)))=pure cl /\
   (∀ y c,cl.lookup y=some c->env.cells.lookup y=some c)/\(∀ y∈names,y.2=.free->∃ c,cl.lookup y.1=some c)/\∀ y,(∃ c,cs.lookup y=some c)->∃ c,cl.lookup y=some c
 | [],cs,_,hcs=>⟨cs,rfl,hcs,(λ_ h=>nomatch h),(λ_ h=>h)⟩
 | (n,k)::r,cs,h,hcs=>by
  by_cases hk:k=.free
  ·subst hk;let⟨c,hc⟩:=h (n,.free) ug rfl;have hc:env.cells.lookup n=some c:=hc
   have hcs':∀ y c',((n,c)::cs).lookup y=some c'->env.cells.lookup y=some c':=λy c' e=>by
    by_cases hy:y=n
    ·subst hy;simp only[Ul,Ug] at e;cases e;exact hc
    ·have hb:(y == n)=false:=by simpa using hy
     simp only[Ul,hb] at e;exact hcs y c' e
   let⟨cl,e1,e2,e3,e4⟩:=Zi r ((n,c)::cs) (λy hy=>h y (uk _ hy)) hcs';refine⟨cl,?_,e2,λy hy hf=>?_,λy hy=>e4 y ?_⟩
   ·rw[List.forIn_cons];simp only[Ug,Gh,cellOf,hc];exact e1
   ·rcases uw.mp hy with rfl | hy
    ·exact e4 n ⟨c,by simp only[Ul,Ug]⟩
    ·exact e3 y hy hf
   ·let⟨c',hc'⟩:=hy;by_cases hy:y=n
    ·subst hy;exact⟨c,by simp only[Ul,Ug]⟩
    ·have hb:(y == n)=false:=by simpa using hy
     exact⟨c',by simp only[Ul,hb];exact hc'⟩
  ·let⟨cl,e1,e2,e3,e4⟩:=Zi r cs (λy hy=>h y (uk _ hy)) hcs;refine⟨cl,?_,e2,λy hy hf=>?_,e4⟩
   ·have hb:(k == NameKind.free)=false:=by simpa using hk
    rw[List.forIn_cons];simp only[hb,G3,gZ];exact e1
   ·rcases uw.mp hy with rfl | hy
    ·exact absurd hf hk
    ·exact e3 y hy hf
def zac {env:Env}{scope:Scope}(h:∀ y∈scope.names,y.2=.free->∃ c,env.cells.lookup y.1=some c) : ∃ cl,closureFor scope env=pure cl/\(∀ y c,cl.lookup y=some c->env.cells.lookup y=some c)/\(∀ y∈scope.names,y.2=.free->∃ c,cl.lookup y.1=some c):=by let⟨cl,e1,e2,e3,_⟩:=Zi scope.names [] h (λy c e=>by simp at e);refine⟨cl,?_,e2,e3⟩;have e:closureFor scope env=(forIn (m:=Sem) scope.names [] λ(x:Str×NameKind) (r:List (Str×Addr))=>(if (x.2 == .free)=true then(do let c <-cellOf env x.1;pure (ForInStep.yield ((x.1,c)::r))) else pure (ForInStep.yield r))) >>= λcs=>pure cs:=rfl;rw[e,e1];rfl
def Yk {prog:Program}{elt target iter:Expr}{scope:Scope}(I:Nat->Shared->Prop)
  (turn:∀ n s,I n s->wpAny (model prog w) A (pyNext it) (λr T9=>match r with
   | none=>R (.ok .next) T9
   | some v=>wpAny (model prog w) A (letOwnedTupleGo target it v) (λ_ T9=>wpAny (model prog w) A (assign target env v) (λ_ TU=>
     wpAny (model prog w) A (forIn ifs true λc r=>if r=true then do let ok <-isTrue c env (eval c env);pure (ForInStep.yield ok) else pure (ForInStep.yield r)) (λok TX=>
      if ok=true then wpAny (model prog w) A (eval elt env) (λx TF=>
       wpAny (model prog w) A (call (.builtin "list.append") [acc,x]) (λ_ TC=>∃ m,m<n/\I m TC) (λ_ _=>False) TF) (λ_ _=>False) TX
      else ∃ m,m<n/\I m TX) (λ_ _=>False) TU) (λ_ _=>False) T9) (λ_ _=>False) T9) (λ_ _=>False) s)
  (n:Nat) (h:I n s) :
  codeAny (model prog w) A (.compLoop (.ListComp elt [⟨target,iter,ifs,0⟩] scope pos) 0 it acc env) R s:=by
 refine codeAny_loop rfl I (λn s hI=>?_) n h
 show wpAny _ A ((compTurn (.ListComp elt [⟨target,iter,ifs,0⟩] scope pos) 0 it acc env).onRaise (λx=>do noteFrame x env;theTreesLotGoes x)) _ _ s
 refine wpAny_noted ?_
 rw[compTurn_list]
 refine ua (UI (ua (uG (turn n s hI) (λr T9 T3=>?_) λ_ _ h'=>h'.elim)))
 cases r with
 | none=>exact uh T3
 | some v=>
  refine ua (uG T3 (λ_ T9 T3=>?_) λ_ _ h'=>h'.elim)
  refine ua (uG T3 (λ_ TU TK=>ua (uG TK (λok TX TM=>?_) λ_ _ h'=>h'.elim)) λ_ _ h'=>h'.elim)
  cases ok with
  | false=>exact uh ⟨rfl,TM⟩
  | true=>
   exact ua (ua (uG TM (λx TF h₄=>ua (uG h₄ (λ_ TC h₅=>uh (uh ⟨rfl,h₅⟩)) λ_ _ h'=>h'.elim)) λ_ _ h'=>h'.elim))
def nV (X:Cx)(ifs:Lg)(t:TT):Prop:=
 ∀ (Lk:Li) (s:Shared) (U:St) (H:Hp) (Q:Bool->Hp->Prop),Inv X Lk U H s->t U H Q ->
  Lb X (forIn ifs true λc r=>if r=true then do let ok <-isTrue c X.env (eval c X.env);pure (ForInStep.yield ok) else pure (ForInStep.yield r)) (TP X Lk U Q) X.xe s
def Ly:TT:=λ_ H Q=>Q true H
def Su:nV X [] Ly:=λ_ _ _ H _ I h=>wpAny_tests_nil ⟨H,I,h⟩
def Ss {X:Cx}(h:PT X c t):nV X [c] t:=λLk s U H Q I hw=>wpAny_tests_one (h Lk s U H Q I hw)
def dq (xs:Lh)(y:Str):Str:=if y∈xs then Str.ofString "" else y
structure yM (X:Cx)(xs:Lh)(scope:Scope):Prop where
 nd:(xs++X.N.map (dq xs)).Nodup
 kind:scope.kind=.function
 cell:∀ y∈scope.names,y.2≠.cell
 names:∀ y∈scope.names,y.2=.local->scope.names.lookup y.1=some .local
 var:∀ x∈xs,scope.names.lookup x=some .local
 free:∀ y∈scope.names,y.2=.free->X.env.kindOf y.1=some .cell
 out:∀ y∈X.N.map (dq xs),scope.names.lookup y≠some .local
 blank:∀ y∈X.N,y∈xs->scope.names.lookup (Str.ofString "")=none
 calm:X.calm=true
def dJ (X:Cx)(xs:Lh)(scope:Scope)(cl:List (Str×Addr))(C:Addr)(s3:Shared)(H3:Hp)(fp:Ld):Cx:=
 { X with N:=xs++X.N.map (dq xs),s₀:=s3,H₀:=H3,env:=compEnvC scope cl C X.env,outer:=X.stack,ex:=fp,fn:=λ_=>false,pn:=[],xe:=λ_ _=>False }
section
variable {X:Cx} {elt iter tg:Expr} {xs:Lh} {pos:Pos} {ifs:Lg} {scope:Scope} {wi:TI} {tt:TT} {te:TE} {g:TG} {bG:V->Hp->(List V->Prop)->Prop}
def Yl {Lk:Li}{U:St}{H:Hp}{s:Shared}{E:Lj}{Q:Lj}{use:Option (Value->Sem Unit)}{QV:VK}(L:yM X xs scope)(I:Inv X Lk U H s) (hi:Lb X (eval iter X.env) (λv s1=>Lb X (pyIter v) (tW X Lk U (tg) (λJ H1=>∀ D,H1 D=none->∃ W:Nat->Nat->List V->Hp->Prop,(∃ m,W 0 m [] (upd H1 D (.lst [])))/\∀ i m ys H',W i m ys H'->H' D=some (.lst ys) /\ ((J.stop i H'/\QV (.ref D) H')\/(J.go i H'/\∀ v H2,J.yld i H' v H2->bG v H2 λus=>tt (us.map some++U) H2 λb H3=> if b=true then te (us.map some++U) H3 λy H4=>H4 D=some (.lst ys)/\ys.length<sizeLine/\∃ m',m' < m/\W (i+1) m' (ys++[y]) (upd H4 D (.lst (ys++[y]))) else ∃ m',m' < m/\W (i+1) m' ys H3)))) E s1) E s) (ht:∀ cl C s3 H3 fp,nV (dJ X xs scope cl C s3 H3 fp) ifs tt) (he:∀ cl C s3 H3 fp,PE (dJ X xs scope cl C s3 H3 fp) elt te) (hg:∀ cl C s3 H3 fp,PG (dJ X xs scope cl C s3 H3 fp) tg g) (hb:∀ v H (os:St) (K:List V->Prop),os.length=xs.length->bG v H K->g v (os++U) H λU' H'=>∃ us,us.length=xs.length/\U' = us.map some++U/\H' = H/\K us) (hs:∀ x,foldedSetIterable iter X.env x=pure x) (fin:∀ (D C:Addr) (H':Hp) (s':Shared) (m:La),Inv X Lk U H' s'->dR X Lk H' C->s'.heap.Ns C m->QV (.ref D) H'->compPost (model X.prog X.w) X.A E use Q (.ref D) C (.ok .next) s') : Lb X (comprehension (.ListComp elt [⟨tg,iter,ifs,0⟩] scope pos) scope X.env (firstIterPos [⟨tg,iter,ifs,0⟩] pos) (newList []) false (eval iter X.env) use) Q E s:=by
 let⟨cl,hcl,cl1,cl2⟩:=zac (env:=X.env) (scope:=scope) (λy hy hf=>I.ok.has y.1 (.inl (L.free y hy hf)));refine wpAny_comprehension_free (use:=use) rfl hs hcl L.kind L.names (uG hi (λxv T9 T3=>uG T3 (λit s2 TK=>?_) λ_ _ e=>e) λ_ _ e=>e);let⟨it,fp,tn,J,H2,rfl,I2,T,st2,f2,hW⟩:=TK;have fr2:H2 s2.heap.objs.size=none:=I2.hok.fresh (uj _);let⟨W,⟨m0,w0⟩,turn⟩:=hW _ fr2;refine UG ?_
 have I3:Inv X Lk U (upd H2 s2.heap.objs.size (.lst [])) { s2 with heap:=s2.heap.push { cls:=.type "list",dict:=none,data:=.seq ([]:Lf).toArray } }:=
  I2.laid (t':=s2.toks) (o:=.lst []) (λb ob q=>uf _ q) (uj _) ⟨u4 _,[],0,.nil,uB _ rfl⟩
 generalize hD:s2.heap.objs.size=D at I3 turn w0 fr2 |-;generalize hH3:upd H2 D (.lst [])=H3 at I3 w0;generalize hs3:({ s2 with heap:=s2.heap.push { cls:=.type "list",dict:=none,data:=.seq ([]:Lf).toArray } }:Shared)=s3 at I3 |-;have k23:∀ b o,s2.heap.get? b=some o->s3.heap.get? b=some o:=λb o e=>by rw[<-hs3];exact uf _ e
 have os3:s3.os=s2.os:=by rw[<-hs3]
 have fpD:∀ b∈fp,b≠D:=λb hb z=>by let⟨o,e,_⟩:=T.obj _ _ st2 b hb;exact absurd (um e) (by rw[z,<-hD];exact Uc _)
 have f3:∀ b∈fp,dR X Lk H3 b:=λb hb=>⟨by rw[<-hH3,zp (fpD b hb)];exact(f2 b hb).1,(f2 b hb).2⟩
 have st3:tn 0 s3.heap:=T.keep _ _ _ st2 λb hb o e=>k23 b o e;refine wpAny_newFunctionEnv L.cell (λy hy=>by simp at hy) (λT3 hns1 hsb1=>?_) L.kind;generalize hC:s3.heap.objs.size=C at hns1 hsb1 |-;have k34:∀ b o,s3.heap.get? b=some o->T3.get? b=some o:=λb o e=>hsb1.extBut b o (by rintro rfl;exact absurd (um e) (by rw[hC];exact Uc _)) (uf _ e)
 let X':Cx:=dJ X xs scope cl C s3 H3 fp;have relab:∀ y,X'.env.scope.names.lookup y=(scope.names.lookup y).map λk=>if (k == NameKind.free&&X.env.scope.kind == .function&&X.env.kindOf y == some .cell) then NameKind.cell else k:=λy=>xM y scope.names
 have visC:∀ y,(X'.env.kindOf y=some .cell\/X'.env.kindOf y=some .free)->scope.names.lookup y=some .free:=λy hy=>by
  have e:=relab y;have hy:X'.env.scope.names.lookup y=some .cell\/X'.env.scope.names.lookup y=some .free:=hy;rw[e] at hy;cases q:scope.names.lookup y with
  | none=>rw[q] at hy;simp at hy
  | some k=>
   rw[q] at hy;simp only[US,Gi] at hy;by_cases hf:k=.free
   ·rw[hf]
   ·have hb:(k == NameKind.free)=false:=by simpa using hf
    simp only[hb,Hy,G3,gZ] at hy;rcases hy with rfl | rfl
    ·exact absurd rfl (L.cell _ (Uu q))
    ·exact absurd rfl hf
 have okX':X'.Ok:=by
  refine⟨I3.ok.mod,?_,I3.ok.glob,I3.ok.blt,?_,?_,?_,?_,I3.ok.hd,I3.ok.frames,.inl rfl,?_,?_,?_,?_,?_,?_,?_⟩
  ·show(relabel scope X.env).kind=.function;exact L.kind
  ·show s3.heap.objs.size<=C;exact U4 hC
  ·exact λa b c h1 h2=>I3.ok.inj a b c (cl1 a c h1) (cl1 b c h2)
  ·exact λy hy=>cl2 (y,.free) (Uu (visC y hy)) rfl
  ·exact λy c hf=>by cases hf
  ·refine λb hb=>⟨?_,λy c e z=>(f3 b hb).2.2.2.2.1 y c (cl1 y c e) z⟩
   show b≠C;intro z;let⟨o,e,_⟩:=T.obj _ _ st3 b hb;exact absurd (um e) (by rw[z,<-hC];exact Uc _)
  ·exact λb o e=>I3.bs b o e
  ·exact uZ I3.ok.bsz I3.sz
  ·intro b o e hb;rcases(f3 b hb).2.2.2.1 with z | z
   ·exact I3.ok.noex b o e z
   ·exact absurd (uI (um e) (uZ I3.ok.bsz z)) (Uc _)
  ·intro b hb z;rcases uw.mp (I3.stkSub b z) with e | e
   ·exact(f3 b hb).2.1 e
   ·exact(f3 b hb).2.2.1 e
  ·exact I3.stack
  ·exact I3.stkFree
 have hfreeC:H3 C=none:=I3.hok.fresh (U4 hC)
 have I4:Inv X' [] (List.replicate xs.length none++U) H3 { s3 with heap:=T3,toks:=s3.toks+([]:List (Str×Value)).length }:=by
  refine⟨okX',rfl,I3.bare,Un.kept k34,⟨_,hns1,?_⟩,?_,hfreeC,?_,λp hp=>absurd (show p∈([]:Li) from hp) aD,I3.hok.kept k34,?_⟩
  ·intro i y v e1 e2 e3;rcases Nat.lt_or_ge i xs.length with hlt | hge
   ·rw[UB (by rw[Ub];exact hlt),HP,uC hlt] at e2;cases e2
   ·obtain⟨j,rfl⟩:∃ j,i=xs.length+j:=⟨i - xs.length,aB⟩
    have e1:(X.N.map (dq xs))[j]? = some y:=by have z:(xs++X.N.map (dq xs))[xs.length+j]? = some y:=e1;rwa [Ua aB,gB] at z
    have e2:U[j]? = some (some v):=by rwa [Ua (by rw[Ub];lia),Ub,gB] at e2
    have hyN:y∈X.N.map (dq xs):=uR e1
    have hfr:scope.names.lookup y=some .free:=by
     rcases e3 with e3 | e3 | e3
     ·rw[relab y] at e3;cases q:scope.names.lookup y with
      | none=>rw[q] at e3;simp at e3
      | some k=>
       rw[q] at e3;simp only[US,Gi] at e3;by_cases hf:k=.free
       ·rw[hf]
       ·have hb:(k == NameKind.free)=false:=by simpa using hf
        simp only[hb,Hy,G3,gZ] at e3;exact absurd (by rw[q,e3]) (L.out y hyN)
     ·exact visC y (.inl e3)
     ·exact visC y (.inr e3)
    have e1:X.N[j]? = some y:=by
     rw[uE] at e1;cases q0:X.N[j]? with
     | none=>rw[q0] at e1;cases e1
     | some y0=>
      rw[q0] at e1;have e1:dq xs y0=y:=uQ e1;unfold dq at e1;split at e1
      ·rename_i hy0;rw[<-e1,L.blank _ (uR q0) hy0] at hfr;cases hfr
      ·rw[e1]
    have hkc:=L.free (y,.free) (Uu hfr) rfl;have hkc:X.env.kindOf y=some .cell:=hkc;let⟨mX,_,hlX⟩:=I3.loc;let⟨u,r,l⟩:=hlX j y v e1 e2 (.inr (.inl hkc));refine⟨u,r,?_⟩;rcases l with⟨l,_⟩ | ⟨_,c,hc,hcell⟩
    ·rw[hkc] at l;cases l
    ·let⟨c',hc'⟩:=cl2 (y,.free) (Uu hfr) rfl;have hc':cl.lookup y=some c':=hc';have:=cl1 y c' hc';rw[hc] at this;cases this;refine .inr ⟨?_,c,hc',?_⟩
     ·rcases e3 with e3 | e3 | e3
      ·rw[relab y,hfr] at e3;simp only[US,Gi] at e3;split at e3<;>cases e3
      ·exact .inl e3
      ·exact .inr e3
     ·let⟨o,ho,hd⟩:=hcell;exact⟨o,k34 _ _ ho,hd⟩
  ·intro y c e;let⟨v,o,ho,hd⟩:=I3.cell y c (cl1 y c e);exact⟨v,o,k34 _ _ ho,hd⟩
  ·exact λy c e=>I3.freeC y c (cl1 y c e)
  ·show(List.replicate xs.length none++U).length=(xs++X.N.map (dq xs)).length;rw[ub,ub,Ub,ud,I3.len]
 have st4:tn 0 T3:=T.keep _ _ _ st3 λb hb o e=>k34 b o e;have stat:∀ {H':Hp},(∀ b∈fp,H' b=none)->∀ b∈fp,dR X' [] H' b:=λhn b hb=>by refine⟨hn b hb,(okX'.exf b hb).1,okX'.exfs b hb,.inl hb,(okX'.exf b hb).2,λp hp=>absurd (show p∈([]:Li) from hp) aD⟩
 have loop:∀ s4:Shared,s4={ s3 with heap:=T3,toks:=s3.toks+([]:List (Str×Value)).length } ->
   codeAny (model X.prog X.w) X.A (.compLoop (.ListComp elt [⟨tg,iter,ifs,0⟩] scope pos) 0 (.ref it) (.ref D) X'.env) (compPost (model X.prog X.w) X.A E use Q (.ref D) C) s4:=by
  rintro s4 rfl
  refine Yk (λn s'=>∃ i ys os H',os.length=xs.length/\Inv X' [] (os++U) H' s'/\tn i s'.heap/\(∀ b∈fp,H' b=none)/\W i n ys H') ?_ m0 ⟨0,[],List.replicate xs.length none,H3,Ub,I4,st4,λb hb=>(f3 b hb).1,w0⟩
  rintro n s5 ⟨i,ys,os,H5,hos,I5,st5,fr5,w5⟩
  let⟨hD5,turn5⟩:=turn i n ys H5 w5
  rcases turn5 with⟨stop,qn⟩ | ⟨go,step⟩
  ·refine uG (T.done X' rfl rfl rfl L.calm i [] s5 (os++U) H5 (λ_ _=>False) I5 (stat fr5) st5 stop) (λr s6 h6=>?_) λ_ _ z=>z
   let⟨rfl,I6⟩:=h6
   have un6:Un (d6 X.stack) fp H3 H5 s3.heap s6.heap:=I6.base
   have IX:Inv X Lk U H5 s6:=I3.call' I6.os un6 I6.hok I6.bare λb hb=>⟨(f3 b hb).2.2.2.1,(f3 b hb).2.1,(f3 b hb).2.2.2.2.1,(f3 b hb).2.2.2.2.2⟩
   let⟨mC,hnC,_⟩:=I6.loc
   exact fin D C H5 s6 mC IX (I3.fpOk (H':=H5) (U4 hC) I6.free) hnC qn
  ·refine uG (T.item X' rfl rfl rfl L.calm i [] s5 (os++U) H5 (λ_ _=>False) I5 (stat fr5) st5 go) (λr s6 h6=>?_) λ_ _ z=>z.elim
   let⟨u,rfl,h6⟩:=h6
   refine uG h6 (λ_ s6 h6=>?_) λ_ _ z=>z
   let⟨v,H6,I6,r6,y6,st6,fr6⟩:=h6
   have I6':=I6.pinned (stat fr6) (T.obj _ _ st6)
   have hv6:=step v H6 y6
   show wpAny (model X'.prog X'.w) X'.A (assign tg X'.env u) _ _ s6
   refine uG (Q:=λ_ s7=>∃ us:List V,us.length=xs.length/\Inv X' ([]++Qj fp s6.heap) (us.map some++U) H6 s7/\tt (us.map some++U) H6 λb H3=>if b=true then te (us.map some++U) H3 λy H4=>H4 D=some (.lst ys)/\ys.length<sizeLine/\∃ m',m' < n/\W (i+1) m' (ys++[y]) (upd H4 D (.lst (ys++[y]))) else ∃ m',m' < n/\W (i+1) m' ys H3) (E:=λ_ _=>False) (uG (hg cl C s3 H3 fp _ s6 _ H6 v u _ I6' r6 (hb v H6 os _ hos hv6)) (λ_ s7 h7=>?_) λ_ _ z=>z) (λ_ s7 h7=>?_) λ_ _ z=>z.elim
   ·let⟨TZ,H7,I7,us,hl,rfl,rfl,hk⟩:=h7
    exact⟨us,hl,I7,hk⟩
   let⟨us,hus,I7,hv6⟩:=h7
   refine uG ((ht cl C s3 H3 fp) _ s7 _ H6 _ I7 hv6) (λb s8 h8=>?_) λ_ _ z=>z.elim
   let⟨H8,I8,q8⟩:=h8
   have done:∀ {ys':List V} {H9:Hp} {s9:Shared} {n':Nat},Inv X' ([]++Qj fp s6.heap) (us.map some++U) H9 s9->W (i+1) n' ys' H9->∃ i ys os H',os.length=xs.length/\Inv X' [] (os++U) H' s9/\tn i s9.heap/\(∀ b∈fp,H' b=none)/\W i n' ys H':=λ{ys' H9 s9 n'} I9 w9=>by
    refine⟨i+1,ys',us.map some,H9,by rw[ud];exact hus,I9.unpinned,T.keep _ _ _ st6 λb hb o e=>(I9.pin (b,o) (uJ _ (uJ _ (v7 hb e)))).1,λb hb=>?_,w9⟩
    let⟨o,e,d⟩:=T.obj _ _ st6 b hb
    exact(I9.pin (b,o) (uJ _ (uJ _ (v7 hb e)))).2.1
   cases b with
   | false=>
    have q8:∃ m',m' < n/\W (i+1) m' ys H8:=q8
    let⟨m',hm,w8⟩:=q8
    exact⟨m',hm,done I8 w8⟩
   | true=>
    have q8:te (us.map some++U) H8 _:=q8
    refine uG ((he cl C s3 H3 fp) _ s8 _ H8 _ I8 q8) (λyv s9 h9=>?_) λ_ _ z=>z.elim
    let⟨y,H9,I9,r9,hD9,hz9,m',hm,w9⟩:=h9
    refine uG (Xc (X:=X') _ s9 _ H9 (.ref D) [y] (.ref D) [yv] (λv' H'=>v' = .non/\H' = upd H9 D (.lst (ys++[y]))) I9 rfl (.cons r9 .nil) ⟨D,ys,y,rfl,rfl,hD9,hz9,rfl,rfl⟩) (λ_ s10 h10=>?_) λ_ _ z=>z.elim
    let⟨_,H10,I10,_,_,rfl⟩:=h10
    exact⟨m',hm,done I10 w9⟩
 exact codeAny_compStart_list (loop _ rfl) (T.self _ 0 _ _ _ st4 (loop _ rfl))
end
def NY {v:V}{H:Hp}{os U:St}{K:List V->Prop}(hl:os.length=1)(h:K [v]):vM 0 v (os++U) H λU' H'=>∃ us:List V,us.length=1/\U' = us.map some++U/\H' = H/\K us:=by
 obtain _ | ⟨o,_ | ⟨o',os⟩⟩:=os
 ·cases hl
 ·exact⟨[v],rfl,rfl,rfl,h⟩
 ·cases hl
section
variable {X:Cx} {elt iter:Expr} {x:Str} {px pos:Pos} {ifs:Lg} {scope:Scope} {wi:TI} {tt:TT} {te:TE}
end
def S (l:Lc):Str:=⟨l.toArray⟩
def DA (l:Lc):(S l).cps.toList=l:=rfl
def qL (l:Lc):(S l).length=l.length:=by simp[S,Str.length]
def DS (l:Lc):(S l).cps.size=l.length:=by simp[S]
def Lx (l:Lc)(i:Nat):(S l).cps[i]? = l[i]?:=by simp[S]
def nF (x:Str):S x.cps.toList=x:=by simp[S]
def QS:S a=S b↔a=b:=⟨λh=>by have:=congrArg (λx=>x.cps.toList) h;simpa[S] using this,λh=>by rw[h]⟩
def cR (a b:Lc):S a++S b=S (a++b):=by show Str.append (S a) (S b)=_;simp[S,Str.append]
section
variable {X:Cx} {a b e:Expr} {ta tb te:TE} {pos:Pos}
def Bj {j pos}(h:x=S l):PE X (.Constant (.str x) j pos) (tC (.str (S l))):=by subst h;exact NC
def Sr:bR X (binaryOp .Add) (λx y H Q=>∃ i j,x=.str (S i)/\y=.str (S j)/\i.length+j.length<=sizeLine/\Q (.str (S (i++j))) H):=by intro Lk s U H x y v u Q I rx ry h;let⟨i,j,rfl,rfl,hz,q⟩:=h;exact KY Lk s U H _ _ v u Q I rx ry ⟨S i,S j,rfl,rfl,by rw[qL,qL];exact hz,by rw[cR];exact q⟩
def So:bR X (binaryOp .Mult) (rI IntMulOk λi j=>.int (i * j)):=tH λ_ _ _ _ _ _ _ hc q=>mul_int q hc
def B7:R2:=λx y H Q=>∃ l i c,x=.str (S l)/\y=.int i/\l.length<=sizeLine/\iL l i=some c/\Q (.str (S [c])) H
def Bu:iT X B7:=by intro value slice Lk s U H x y v u Q I rx ry h hs;let⟨l,i,c,rfl,rfl,hz,he,q⟩:=h;exact N2 value slice Lk s U H _ _ v u Q I rx ry ⟨S l,i,c,rfl,rfl,by rw[qL];exact hz,he,q⟩ hs
def zct:qD X (.builtin "len") (λxs H Q=>∃ l,xs=[.str (S l)]/\l.length<=sizeLine/\Q (.int l.length) H):=by intro Lk s U H xs us Q I r h;let⟨l,rfl,hz,q⟩:=h;exact X2 Lk s U H _ us Q I r ⟨S l,rfl,by rw[qL];exact hz,by rw[qL];exact q⟩
def fw (xs:Lc)(lo hi:Option Int):Lc:=(xs.drop (HT.aR xs.length 0 lo)).take (HT.aR xs.length xs.length hi - HT.aR xs.length 0 lo)
def DR (lo hi:Option Int)(n:Nat):Builtin.Str.strSliceIndices lo hi 1 n=(List.range (HT.aR n n hi - HT.aR n 0 lo)).map (HT.aR n 0 lo + ·):=by
 have h1:(match lo with | none=>(0:Int) | some i=>max 0 (min (if i<0 then i+(n:Int) else i) (n:Int)))=((HT.aR n 0 lo:Nat):Int):=by
  cases lo with
  | none=>simp[HT.aR]
  | some i=>
   simp only[HT.aR];by_cases h:i<0
   ·simp only[h,Gh];lia
   ·simp only[h,gZ];lia
 have h2:(match hi with | none=>(n:Int) | some i=>max 0 (min (if i<0 then i+(n:Int) else i) (n:Int)))=((HT.aR n n hi:Nat):Int):=by
  cases hi with
  | none=>simp[HT.aR]
  | some i=>
   simp only[HT.aR];by_cases h:i<0
   ·simp only[h,Gh];lia
   ·simp only[h,gZ];lia
 rw[<-sliceRange_one,<-h1,<-h2];cases lo<;>cases hi<;>rfl
def zcu (n:Nat)(hi:Option Int):HT.aR n n hi<=n:=HT.fL n n (uj _) hi
def A6:iR X (λx lo hi H Q=>∃ l,x=.str (S l)/\l.length<=sizeLine/\Q (.str (S (fw l lo hi))) H):=by
 intro Lk s U H x v vl vu lo hi sl Q I rx hs pl pu h;let⟨l,rfl,hz,q⟩:=h;let⟨t,rfl⟩:=rx;refine⟨"str",_,F.slot_str_getitem.lookup,gq s _ t,?_⟩
 obtain⟨pl',el⟩:∃ p,vl=partValue p/\p.map (·.1)=lo:=by
  cases pl with
  | none=>exact⟨none,rfl,rfl⟩
  | int i t=>exact⟨some (i,t),rfl,rfl⟩
 obtain⟨pu',eu⟩:∃ p,vu=partValue p/\p.map (·.1)=hi:=by
  cases pu with
  | none=>exact⟨none,rfl,rfl⟩
  | int i t=>exact⟨some (i,t),rfl,rfl⟩
 have hsl:s.heap.IsSlice sl pl' pu' none:=by let⟨o,h1,h2,h3⟩:=hs;exact⟨o,h1,h2,by rw[h3,el.1,eu.1];rfl⟩
 refine wpAny_getItem_str_slice hsl rfl ?_;unfold sliceMade slicePicked;refine post_val_or_made (λ_=>?_) λt' k=>?_
 ·rw[el.2,eu.2,Option.map_none,Gs,DR,qL];have e:((List.range (HT.aR l.length l.length hi - HT.aR l.length 0 lo)).map (HT.aR l.length 0 lo + ·)).filterMap ((S l).cps[·]?)=fw l lo hi:=by rw[GK];rfl
  rw[e];show(S (fw l lo hi)).length<=sizeLine;rw[qL];unfold fw;rw[Uk,Ud];lia
 ·refine⟨.str _,H,I.tok _,⟨_,rfl⟩,?_⟩;rw[el.2,eu.2,Option.map_none,Gs,DR,qL];have e:((List.range (HT.aR l.length l.length hi - HT.aR l.length 0 lo)).map (HT.aR l.length 0 lo + ·)).filterMap ((S l).cps[·]?)=fw l lo hi:=by rw[GK];rfl
  rw[e];split
  ·rename_i hc;have hc':HT.aR l.length l.length hi - HT.aR l.length 0 lo=l.length:=by simpa using hc
   have h2:=zcu l.length hi
   have e2:fw l lo hi=l:=by
    unfold fw
    have h3:HT.aR l.length 0 lo=0:=by
     by_cases hl:l.length=0
     ·have:=HT.fL l.length 0 (u4 _) lo;lia
     ·lia
    rw[hc',h3,gm,Hg]
   rw[e2] at q;exact q
  ·exact q
theorem JA:∀ {ts:Lh} {us:Lf},Vals (ts.map V.str) us->StrsAre us ts
 | [],_,r=>by rw[gr] at r;cases r;exact .nil
 | t::ts,_,r=>by
  rw[uA] at r;cases r with
  | cons r1 r2=>let⟨k,e⟩:=r1;subst e;exact .cons t k (JA r2)
theorem DQ:∀ ls:List Lc,Str.join (S []) (ls.map S)=S ls.flatten
 | []=>rfl
 | [x]=>by simp[Str.join]
 | x::y::r=>by show S x++S []++Str.join (S []) ((y::r).map S)=_;rw[DQ (y::r),cR,cR,uH];rfl
def rJoin (K:Le):V->List V->Hp->VK->Prop:=λx vs H Q=>∃ (D:Addr) (ls:List Lc),x=.str (S [])/\vs=[.ref D]/\cJ K H D (ls.map λl=>V.str (S l))/\ls.flatten.length<=16777216/\Q (.str (S ls.flatten)) H
def zdD:lM X "str.join" (rJoin X.K):=by
 intro Lk s U H x xs v us Q I rx rs h;let⟨D,ls,rfl,rfl,hq,hz,q⟩:=h;let⟨t,rfl⟩:=rx;let⟨u,rfl,ru⟩:=vals1 rs;cases ru;let⟨its,rv,p,_⟩:=I.list hq;have rv':Vals ((ls.map S).map V.str) its:=by rw[Uw];exact rv
 refine join_list p.isList (by simpa using JA rv') ?_ λt' k=>⟨.str (S ls.flatten),H,I.tok _,⟨t',?_⟩,q⟩
 ·have e:((ls.map S).map (·.length)).sum=ls.flatten.length:=by
   rw[Uw,List.length_flatten]
   congr 1
   try (apply UY;intro l _;exact qL l)
  have e2:(S []).length=0:=rfl
  rw[e,e2]
  lia
 ·show Value.str (Builtin.Str.glued (S []) (ls.map S)) t' = _;rw[StrLaws.glued_eq_join,DQ]
def dg (n:Nat):Lc:=if n<10 then [48+n] else [48+n / 10,48+n % 10]
def X5:∀ d:Nat,d<10->(Nat.digitChar d).toNat=48+d:=aA
def NX (h:n<100):(PySem.Str.ofString (toString ((n:Nat):Int)))=S (dg n):=by
 have e:=PySem.W.KIN.signs_num n
 have e2:(Nat.toDigits 10 n).map Char.toNat=dg n:=by
  unfold dg;by_cases h1:n<10
  ·rw[Gu h1,uC h1,gy,X5 n h1]
  ·have t:Nat.toDigits 10 (n / 10)++Nat.toDigits 10 (n % 10)=Nat.toDigits 10 (10 * (n / 10)+n % 10):=Nat.toDigits_append_toDigits aA aB aB;rw[Nat.div_add_mod] at t;rw[<-t,Gu (by lia:n / 10<10),Gu (by lia:n % 10<10),ux h1,uF,gy,gy,X5 _ aB,X5 _ aB];rfl
 rw[<-nF (PySem.Str.ofString _),e,e2]
def Xe {i:Int}(h0:0<=i)(h1:i<1000000):i.natAbs.log2<1920:=by
 have:i.natAbs<2 ^ 20:=aB
 by_cases hz:i.natAbs=0
 ·rw[hz];decide
 ·have:=(Nat.log2_lt hz).mpr this;lia
def zcv:qD X (.type "str") (λxs H Q=>∃ n:Nat,xs=[.int n]/\n<100/\Q (.str (S (dg n))) H):=by intro Lk s U H xs us Q I r h;let⟨n,rfl,hn,q⟩:=h;refine XW Lk s U H _ us Q I r ⟨n,rfl,Xe aB aB,?_⟩;have e:(↑(toString (n:Int)):Str)=S (dg n):=NX hn;rw[e];exact q
def Ym (c:Nat):Bool:=48<=c&&c<=57
def zcw:qD X (.type "int") (λxs H Q=>∃ c d:Nat,xs=[.str (S [c,d])]/\Ym c=true/\Ym d=true/\Q (.int (((c - 48) * 10+(d - 48):Nat):Int)) H):=by
 intro Lk s U H xs us Q I r h;let⟨c,d,rfl,hc,hd,q⟩:=h;let⟨u,rfl,t,rfl⟩:=vals1 r;unfold Ym at hc hd;simp only[uS,decide_eq_true_eq] at hc hd
 have hn:PySem.intText? (S [c,d])=some (((c - 48) * 10+(d - 48):Nat):Int):=by
  rw[intText_digits (x:=S [c,d]) (λz hz=>?_) (by simp[S]) (by rw[qL];show 2<=4300;decide)]
  ·rw[DA];simp[NumText.digitsVal]
  ·rw[DA] at hz;simp at hz;rcases hz with rfl | rfl
   ·exact hc
   ·exact hd
 exact PySem.W.KIN.call_text hn (by rw[qL];show 2<=640;decide) ⟨.int _,H,I.tok _,⟨_,rfl⟩,q⟩
end
structure tX (P:Program)(w:World)(K:Le)(mg:La)(base:Heap)(k:Nat)(x:Str)(ps:Lh)(sp:Sp):Prop where
 ex:∃ (f:Addr) (fd:FuncData),PySem.W.keepIn K (.ref f)=true/\Binds K fd ps []/\(mg x=some (.ref f)/\∃ oc od osl,K.lookup f=some ⟨oc,od,.func fd,osl⟩)/\dA P w K mg base mE k f fd ps sp
structure Df (K:Le)(mg:La)(x:Str)(st:Stmt)(ps:Lh):Prop where
 ex:∃ (f:Addr) (fd:FuncData),lO K x x st f fd/\Binds K fd ps []/\mg x=some (.ref f)
section
variable {P:Program} {w:World} {K:Le} {mg:La} {base:Heap}
theorem Df.ok {x:Str}{st:Stmt}{ps N:Lh}{k:Nat}{sp:Sp}(D:Df K mg x st ps)(Sc:zi N ps (zc st))(len:∀ vs H Q E,sp vs H Q E->vs.length=ps.length) (hbody:∀ (f:Addr) (cdv:Value) (A:Around) (outer:List Env) (s:Shared) (H:Hp) (vs:List V) (Q:VK) (E:XK),bT k (A.deeper (envOfC x (zc st) s.heap.objs.size f cdv))->sp vs H Q E -> ∃ t,eC (dH mE P w K mg base N x (zc st) f cdv A outer s H E).nox (zf st) t/\t { nx:=λ_ H'=>Q .non H',rt:=Q } (start N vs) H):tX P w K mg base (k+1) x ps sp:=by let⟨f,fd,F,b,m⟩:=D.ex;refine⟨f,fd,F.kp,b,⟨m,?_⟩,F.ok Sc len (λcdv A outer s H vs Q E hr h=>hbody f cdv A outer s H vs Q E hr h)⟩;let⟨oc,od,kV,doc,pm,an,cdv,ct,osl,rfl,lk,hcd⟩:=F.ex;exact⟨oc,od,osl,lk⟩
def Lw {h:Heap}{x:Str}{st:Stmt}{ps:Lh}{f:Addr}{oc:Value}{od an:Option Addr}{osl:Array (Option Value)}{kV doc pm cdv ct:Value}(X:K.In h)(G:h.Ns mainGlobals mg) (b:∀ (kV doc pm:Value) (an:Option Addr) (cdv ct:Value) (us:Lf),us.length=ps.length->bindArgs (PySem.W.fnOf x x (jN st) (zf st) (zc st) .none kV doc pm an cdv ct) ⟨us,[]⟩=pure (ps.zip us)) (a:PySem.W.nsIn K mainGlobals x=some (some (.ref f))) (l:K.lookup f=some ⟨oc,od,.func (PySem.W.fnOf x x (jN st) (zf st) (zc st) .none kV doc pm an cdv ct),osl⟩) (c:PySem.W.codeIn K cdv x=true) (k:PySem.W.keepIn K (.ref f)=true):Df K mg x st ps:= ⟨f,_,yL l c k,(yL l c k).binds b,uU X G a⟩
def NW {st:Stmt}{x:Str}{k:Nat}{fa:Addr}{sp:Sp}(D:Df K mg "law" st [x])(hfa:mg "law" = some (.ref fa)) (hb:∀ (kV doc pm:Value) (an:Option Addr) (cdv ct:Value) (s:Shared) (u:Value),BindsTo s (PySem.W.fnOf "law" "law" (jN st) (zf st) (zc st) .none kV doc pm an cdv ct) ⟨[u],[]⟩ [(x,u)]) (F:∀ base:Heap,tX P w K mg base k "law" [x] sp) : ∃ fd:FuncData,(∀ (s:Shared) (v:Value),BindsTo s fd ⟨[v],[]⟩ [(x,v)])/\∀ base:Heap,K.In base->base.Ns mainGlobals mg->dA P w K mg base mE k fa fd [x] sp:=by
 let⟨f,fd,G,b,m⟩:=D.ex;have e:f=fa:=by rw[hfa] at m;cases m;rfl
 subst e;let⟨oc,od,kV,doc,pm,an,cdv,ct,osl,rfl,lk,hcd⟩:=G.ex;refine⟨_,λs v=>hb kV doc pm an cdv ct s v,λbase _ _=>?_⟩;let⟨f',fd',_,_,⟨m',oc',od',osl',lk'⟩,ok⟩:=(F base).ex;have e:f' = f:=by rw[hfa] at m';cases m';rfl
 subst e;rw[lk] at lk';cases lk';exact ok
end
section
variable {X:Cx} {k j:Nat} {x:Str} {ps:Lh} {sp:Sp} {p pos:Pos} {e:Expr} {es:Lg} {t:TA}
def sR (h:∃ u,X.mg x=some u/\RelV v u)(hg:Gl X x:=by rfl) (hd:(x == ("__debug__":Str))=false:=by decide):PE X (.Name x pos) (tC v):=by let⟨u,m,r⟩:=h;exact SQ hg m r hd
def Zj (hm:X.mg x=none)(hv:bootBuiltins x=some u)(r:RelV v u)(hg:Gl X x:=by rfl) (hn:x≠"__name__":=by decide) (hd:(x == ("__debug__":Str))=false:=by decide):PE X (.Name x pos) (tC v):=
 SO hg hm hv r hn hd
def Yn:qD X (.builtin "isinstance") (λxs H Q=>∃ x n t b,xs=[x,.ty n]/\bV X.K H x t/\PySem.W.kitOne X.K t (.type n)=some b/\Q (.bl b) H):=by intro Lk s U H xs us Q I r h;let⟨x,n,t,b,rfl,ty,e,q⟩:=h;let⟨u,w',rfl,rx,ry⟩:=vals2 r;cases ry;exact W6 I rx ty e λtk=>⟨.bl b,H,I.tok _,rfl,q⟩
section
variable {K:Le} {o:Expr} {to:TE} {name:Str} {apos cpos:Pos} {T id:String} {r:V->List V->Hp->VK->Prop}
def Qm (hK:X.K=K)(pa:PlainAttrs T)(slot:Slot T name id)(hty:typeOf (.builtin id)=pure (.type "method_descriptor"))(hm:lM X id r)(ho:PE X o to)(ha:PA X (e::es) t) (hbase:attributeBase o name X.env (eval o X.env)=eval o X.env:=by rfl) (hfew:((backTo cpos (starEach (e::es) X.env)).all (λx=>!x.1)&&(backToKw cpos (keywordEach [] X.env)).all (λx=>x.1.isSome) && decide ((e::es).length+([]:List Keyword).length+(if ([]:List Keyword).isEmpty then 0 else 1)<30))=true:=by rfl) (hline:(apos.endLine == cpos.line)=true:=by rfl) (hs:starEach (e::es) X.env=(false,eval e X.env)::starEach es X.env:=by rfl) (hplain:(backTo cpos (starEach es X.env)).any (·.1)=false:=by rfl) : PE X (.Call (.Attribute o name apos) (e::es) [] cpos) (tD K T r to t):=by subst hK;exact Lz pa slot hty hm ho ha hbase hfew hline hs hplain
def zcx (hK:X.K=K):lM X "str.join" (rJoin K):=by subst hK;exact zdD
def zdE (hK:X.K=K):iT X (m4 K):=by subst hK;exact Sz
def Sn (hK:X.K=K):iT X (mZ K):=by subst hK;exact N3
def Me (K:Le):List V->Hp->VK->Prop:=λxs H Q=>∃ p ys,xs=[.ref p]/\(cJ K H p ys\/bP K H p ys)/\Q (.int ys.length) H
def zad (hK:X.K=K):qD X (.builtin "len") (Me K):=by subst hK;exact X1
def zdF (hK:X.K=K):iR X (pZ K):=by subst hK;exact Sw
end
end
def NV:bootBuiltins "len" = some (.builtin "len"):=aE
def DP:bootBuiltins "str" = some (.type "str"):=aE
def DO:bootBuiltins "int" = some (.type "int"):=aE
def Sm:bootBuiltins "bool" = some (.type "bool"):=aE
def qN:bootBuiltins "isinstance" = some (.builtin "isinstance"):=aE
def sg:Lc:=[32,33,34,35,36,38,39,40,41,42,43,44,45,46,47,48,49,50,51,52,53,54,55,56,57,58,59,60,61,62,63,64,65,66,67,68,69,70,71,72,73,74,75,76,77,78,79,80,81,82,83,84,85,86,87,88,89,90,91,92,93,94,95,96,97,98,99,100,101,102,103,104,105,106,107,108,109,110,111,112,113,114,115,116,117,118,119,120,121,122,123,124,125,126]
def ix (c:Nat):Nat:=sg.idxOf c
def jO (h:H a=none):aM H (upd H a o):=λb u e=>by rw[zp (wo e h)];exact e
def Jd (h:-(2 ^ 64)<j/\j<2 ^ 64):IntMulOk i j:=nO.ok (.inr h)
theorem Xf (x:Array Nat):∀ (n:Nat) (acc:Array Nat),((List.replicate n x).foldl (·++·) acc).toList=acc.toList++(List.replicate n x.toList).flatten
 | 0,acc=>by simp
 | n+1,acc=>by rw[gU,List.foldl_cons,Xf x n,gU,UT];simp
def Mc (l:Lc)(n:Nat):Txt.mul (S l) (n:Int)=S (List.replicate n l).flatten:=by
 unfold Txt.mul;by_cases h0:(n:Int)<1
 ·have:n=0:=aB
  subst this;rw[uC h0];rfl
 ·rw[ux h0];split
  ·rename_i h;simp only[Bool.or_eq_true,UD] at h;rcases h with h | h
   ·have:n=1:=aB
    subst this;simp
   ·rw[qL] at h;have:l=[]:=U3 h;subst this
    have:(List.replicate n ([]:Lc)).flatten=[]:=by
     induction n with
     | zero=>rfl
     | succ n ih=>simp
    rw[this]
  ·rw[<-nF ⟨_⟩];show S ((List.replicate (n:Int).toNat (S l).cps).foldl (·++·) #[]).toList=_;rw[Xf,Uy];simp[S]
def Mb:R2:=λx y H Q=>∃ (l:Lc) (n:Int),x=.str (S l)/\y=.int n/\0<=n/\n<=100000/\l.length * n.toNat<=16777216/\Q (.str (S (List.replicate n.toNat l).flatten)) H
def Sk:bR X (binaryOp .Mult) Mb:=by
 intro Lk s U H x y v u Q I rx ry h;let⟨l,n,rfl,rfl,h0,h1,hz,q⟩:=h;let⟨t,rfl⟩:=rx;let⟨t',rfl⟩:=ry;let⟨m,rfl⟩:=gC h0;rw[Uy] at hz q;refine SB.mul ⟨?_,λg1 _=>?_,λg1 _=>?_⟩ λt' k=>⟨.str (S (List.replicate m l).flatten),H,I.tok _,⟨t',by rw[Mc]⟩,q⟩
 ·have e1:decide ((m:Int) < -(2 ^ 63:Int))=false:=uv aB;have e2:decide ((m:Int) ≥ 2 ^ 63)=false:=uv aB;rw[e1,e2];rfl
 ·have hm:0<(m:Int):=aB
  have hl:l.length<=16777216:=by have:l.length * 1<=l.length * m:=Nat.mul_le_mul_left _ aB;lia
  have:=Int.le_ediv_of_mul_le (a:=16777216) (b:=2 ^ 63 - 1) hm aB;rw[qL];lia
 ·have e:(2:Nat) ^ 24=16777216:=aA
  unfold Builtin.Str.tooLong sizeLine;rw[qL,Uy];exact uv aB
def iP (sh:Lc)(c:Nat):Lc:=if c=92\/c∈sh then [92,c] else [c]
def ws:Lc:=[97,98,99,100,101,102,103,104,105,106,107,108,109,110,111,112,113,114,115,116,117,118,119,120,121,122,48,49,50,51,52,53,54,55,56,57,45]
def fG (p:Prop)(h:Heap)(e T:Addr)(cls:Value)(d:Option Addr)(fl:Value):Prop:= ∃ sl vs oT ts,h.get? e=some ⟨cls,d,.fields vs,sl⟩/\vs[1]? = some (.ref T)/\T≠e/\h.get? T=some oT/\oT.data=.fields ts/\ts[3]? = some fl/\(p->vs[2]? = some .none)
structure Kp (ch fs:Ld)(h h':Heap):Prop where
 keep:∀ b o,b∉ch->b∉fs->h.get? b=some o->h'.get? b=some o
 slot:∀ b o,b∉ch->h.get? b=some o->∃ sl,h'.get? b=some { o with slots:=sl }
def Kp.trans (a:Kp ch fs h h1)(b:Kp ch' fs h1 h2):Kp (ch++ch') fs h h2 where
 keep:=λx o hx hf q=>b.keep x o (λz=>hx (uJ _ z)) hf (a.keep x o (λz=>hx (uW _ z)) hf q)
 slot:=λx o hx q=>by
  let⟨sl,q1⟩:=a.slot x o (λz=>hx (uW _ z)) q
  let⟨sl',q2⟩:=b.slot x _ (λz=>hx (uJ _ z)) q1
  exact⟨sl',q2⟩
def Kp.mono (a:Kp ch fs h h1)(h1':∀ b∈ch,b∈ch')(h2':∀ b∈fs,b∈fs'):Kp ch' fs' h h1:= ⟨λb o hx hf q=>a.keep b o (λz=>hx (h1' b z)) (λz=>hf (h2' b z)) q,λb o hx q=>a.slot b o (λz=>hx (h1' b z)) q⟩
section
variable {M:Model} {A:Around} {E:Lj} {s:Shared}
def Xg {base:Heap}{env:Env}{outer:List Env}{cls head:Value}{vs:Array Value}
  (hfr:A.frames=some (env::outer)) (hl:s.heap.FunFrames base (env::outer)) (hf:env.frame=some L) (he:s.heap.get? e=some ⟨cls,d,.fields vs,sl⟩) (hv:1<vs.size) (hp:p->vs[2]? = some .none)
  (k:∀ h' T,s.heap.objs.size<=T->fG p h' e T cls d (rawInt L)->Kp [e] (d6 (env::outer)) s.heap h'->Q () { s with heap:=h' }) :
  wpAny M A (do let a <-frameOf env;let pl <-entryPlaceOf L nx;let b <-EntryCells.newEntry head a .none (rawInt L) .none pl;setField (.ref e) 1 b) Q E s:=by
 have ne:e∉(env::outer).filterMap (·.frame):=λhm=>by
  let⟨_,o,ho,hn⟩:=hl.mem hm
  rw[he] at ho
  cases ho
  exact hn vs rfl
 refine ua (wpAny_frameOf_fun hfr hl hf λg hg=>ua (wpAny_entryPlaceOf λpl hpl=>?_))
 have e1:g.get? e=some ⟨cls,d,.fields vs,sl⟩:=(hg.2.1 e ne).trans he
 unfold EntryCells.newEntry newFields
 refine ua (UG ?_ (hpl.sizeOk5 _ _ _ _ _))
 generalize hT:({ cls:=.type "traceback",dict:=none,data:=.fields ([head,.ref L,.none,rawInt L,.none]++(if pl.isEmpty then List.replicate 6 Value.none else pl)).toArray }:Obj)=tb
 have e2:=uf (h:=g) tb e1
 have tn:g.objs.size≠e:=G7 (um e1)
 refine gQ e2 rfl hv (k _ g.objs.size ?_ ?_ ?_)
 ·rw[hg.1];exact uj _
 ·refine⟨sl,_,tb,([head,.ref L,.none,rawInt L,.none]++(if pl.isEmpty then List.replicate 6 Value.none else pl)).toArray,UK _ e2 aC,by simp[hv],tn,?_,by rw[<-hT],aD,λz=>by simpa[Hn] using hp z⟩
  rw[Ue _ _ (Ne.symm tn)]
  exact uB g (by rw[<-hT];rfl)
 ·refine⟨λb o hb hfs q=>?_,λb o hb q=>?_⟩
  ·have hbe:b≠e:=λz=>hb (by simp[z])
   rw[Ue _ _ (Ne.symm hbe)]
   exact uf _ ((hg.2.1 b hfs).trans q)
  ·have hbe:b≠e:=λz=>hb (by simp[z])
   let⟨sl',q'⟩:=hg.2.2 b o q
   refine⟨sl',?_⟩
   rw[Ue _ _ (Ne.symm hbe)]
   exact uf _ q'
def JB {base:Heap}{env:Env}{outer:List Env} (hfr:A.frames=some (env::outer)) (hl:s.heap.FunFrames base (env::outer)) (hf:env.frame=some L) (he:s.heap.get? e=some ⟨cls,d,.fields vs,sl⟩) (hv:vs[1]? = some .none) (hp:p->vs[2]? = some .none) (k:∀ h' T,s.heap.objs.size<=T->fG p h' e T cls d (rawInt L)->Kp [e] (d6 (env::outer)) s.heap h'->Q () { s with heap:=h' }):wpAny M A (noteFrame (.ref e) env) Q E s:=by unfold noteFrame;simp only[hf];refine ua (Uq he rfl hv ?_);rw[ux aA];exact Xg hfr hl hf he (Uz.mp hv).1 hp k
def Xh {base:Heap}{env:Env}{outer:List Env} (hfr:A.frames=some (env::outer)) (hl:s.heap.FunFrames base (env::outer)) (hf:env.frame=some L) (F:fG p s.heap e T cls d .none) (k:∀ h' T',s.heap.objs.size<=T'->fG p h' e T' cls d (rawInt L)->Kp [T,e] (d6 (env::outer)) s.heap h'->Q () { s with heap:=h' }):wpAny M A (noteFrame (.ref e) env) Q E s:=by
 let⟨sl,vs,oT,ts,he,hv,tn,hT,hd,h3,hp⟩:=F;unfold noteFrame;simp only[hf];refine ua (Uq he rfl hv ?_);rw[uC (show(Value.ref T != Value.none)=true by simp)];refine ua (Uq hT hd h3 ?_);rw[ux (show ¬ (Value.none == rawInt L)=true by simp[rawInt])];refine ua (gQ hT hd (Uz.mp h3).1 ?_);have oth:∀ b,b≠T->(s.heap.update T (Obj.mapFields (·.setIfInBounds 3 Value.none))).get? b=s.heap.get? b:=λb hb=>Ue _ _ (Ne.symm hb);have nT:∀ b o,s.heap.get? b=some o->(∀ ws,o.data≠.fields ws)->b≠T:=λb o q hn z=>by rw[z,hT] at q;cases q;exact hn ts hd
 have hsz:(s.heap.update T (Obj.mapFields (·.setIfInBounds 3 Value.none))).objs.size=s.heap.objs.size:=(HE s.heap T _).1;refine Xg (base:=base) hfr (hl.of_keeps λb o q hn=>⟨o,(oth b (nT b o q hn)).trans q,rfl⟩) hf ((oth e (Ne.symm tn)).trans he) (Uz.mp hv).1 hp λh' T' g1 g2 g3=>?_;refine k h' T' (by rw[<-hsz];exact g1) g2 ⟨λb o hb hfs q=>?_,λb o hb q=>?_⟩
 ·exact g3.keep b o (λz=>hb (uk _ z)) hfs ((oth b λz=>hb (by simp[z])).trans q)
 ·exact g3.slot b o (λz=>hb (uk _ z)) ((oth b λz=>hb (by simp[z])).trans q)
def jF (F:fG p s.heap e T cls d fl)(k:∀ h',fG p h' e T cls d .none->Kp [T] [] s.heap h'->h'.objs.size=s.heap.objs.size->Q () { s with heap:=h' }):wpAny M A (setFlight (.ref e) none) Q E s:=by let⟨sl,vs,oT,ts,he,hv,tn,hT,hd,h3,hp⟩:=F;have h3':=(Uz.mp h3).1;unfold setFlight;refine ua (Uq he rfl hv ?_);rw[uC (show(Value.ref T != Value.none)=true by simp)];have oth:∀ b,b≠T->(s.heap.update T (Obj.mapFields (·.setIfInBounds 3 Value.none))).get? b=s.heap.get? b:=λb hb=>Ue _ _ (Ne.symm hb);refine gQ hT hd h3' (k _ ⟨sl,vs,_,_,(oth e (Ne.symm tn)).trans he,hv,tn,UK _ hT (Obj.isFreed_of_fields (HI hd _)),HI hd _,by simp[h3'],hp⟩ ?_ (HE s.heap T _).1);exact⟨λb o hb _ q=>(oth b λz=>hb (by simp[z])).trans q,λb o hb q=>⟨o.slots,(oth b λz=>hb (by simp[z])).trans q⟩⟩
def Xi {env:Env}{L e T:Addr}{cls:Value}{d:Option Addr}{p:Prop}{Q:Unit->Shared->Prop}(hf:env.frame=some L)(F:fG p s.heap e T cls d (rawInt L))(k:Q () s):wpAny M A (noteFrame (.ref e) env) Q E s:=by let⟨sl,vs,oT,ts,he,hv,tn,hT,hd,h3,hp⟩:=F;unfold noteFrame;simp only[hf];refine ua (Uq he rfl hv ?_);rw[uC (show(Value.ref T != Value.none)=true by simp)];refine ua (Uq hT hd h3 ?_);rw[uC (show(rawInt L == rawInt L)=true from Ug _)];exact uh k
def zae {env:Env}{L e T:Addr}{cls:Value}{d:Option Addr}{p:Prop}{Q:Unit->Shared->Prop}(hf:env.frame=some L)(F:fG p s.heap e T cls d (rawInt L))(k:∀ h',fG p h' e T cls d .none->Kp [T] [] s.heap h'->Q () { s with heap:=h' }):wpAny M A (leaving env (.ref e)) Q E s:=by unfold leaving;exact ua (Xi hf F (jF F λh2 f1 f2 f3=>k h2 f1 f2))
def Yo {base:Heap}{env:Env}{outer:List Env} (hfr:A.frames=some (env::outer)) (hl:s.heap.FunFrames base (env::outer)) (hf:env.frame=some L) (he:s.heap.get? e=some ⟨cls,d,.fields vs,sl⟩) (hv:vs[1]? = some .none) (hp:p->vs[2]? = some .none) (k:∀ h' T,s.heap.objs.size<=T->fG p h' e T cls d .none->Kp [e] (d6 (env::outer)) s.heap h'->Q () { s with heap:=h' }):wpAny M A (leaving env (.ref e)) Q E s:=by
 unfold leaving;refine ua (JB hfr hl hf he hv hp λh1 T g1 g2 g3=>jF (s:={ s with heap:=h1 }) g2 λh2 f1 f2 f3=>k h2 T g1 f1 ⟨λb o hb hfs q=>?_,λb o hb q=>?_⟩)
 all_goals
  have hbT:b≠T:=λz=>absurd (um q) (by rw[z];exact Nat.not_lt.mpr g1)
 ·exact f2.keep b o (by simpa using hbT) aD (g3.keep b o hb hfs q)
 ·let⟨sl',q'⟩:=g3.slot b o hb q;let⟨iW,q2⟩:=f2.slot b _ (by simpa using hbT) q';exact⟨iW,q2⟩
def zaf {base:Heap}{env:Env}{outer:List Env} (hfr:A.frames=some (env::outer)) (hl:s.heap.FunFrames base (env::outer)) (hf:env.frame=some L) (F:fG p s.heap e T cls d .none) (k:∀ h' T',s.heap.objs.size<=T'->fG p h' e T' cls d .none->Kp [T,e] (d6 (env::outer)) s.heap h'->Q () { s with heap:=h' }):wpAny M A (leaving env (.ref e)) Q E s:=by
 unfold leaving;refine ua (Xh hfr hl hf F λh1 T' g1 g2 g3=>jF (s:={ s with heap:=h1 }) g2 λh2 f1 f2 f3=>k h2 T' g1 f1 ⟨λb o hb hfs q=>?_,λb o hb q=>?_⟩)
 all_goals
  have hbT:b≠T':=λz=>absurd (um q) (by rw[z];exact Nat.not_lt.mpr g1)
 ·exact f2.keep b o (by simpa using hbT) aD (g3.keep b o hb hfs q)
 ·let⟨sl',q'⟩:=g3.slot b o hb q;let⟨iW,q2⟩:=f2.slot b _ (by simpa using hbT) q';exact⟨iW,q2⟩
end
open PySem PySem.Spec PySem.Calls PyProof.Rows PySem.W
abbrev ph:Lf:=[.type "ValueError",.type "Exception",.type "BaseException",.type "object"]
noncomputable def ny:Option Value->Bool
 | some (.builtin n)=>n == "ValueError.__new__"
 | _=>false
def rL (K:Frag)(C:Addr):Lf->Bool
 | []=>false
 | v::m=>valR C v&&tailIn K ph m
where valR (C:Addr):Value->Bool
 | .ref B=>B == C
 | _=>false
noncomputable def sr:Data->Option ClassData
 | .cls c=>some c
 | _=>none
def xj (K:Frag)(C:Addr):Bool:=(K.lookup C).any λo=>o.cls == .type "type"&&(sr o.data).any λc=>!c.hasDel&&nsOkIn K c.ns&&rL K C c.mro&&(o.slots.toList.length == 6&&(o.slots.toList[4]?).any ny)
noncomputable def yN (K:Frag)(C:Addr):Option (Option Value):=(clsIn K C).bind λc=>nsIn K c.ns "__init__"
def zag {K:Frag}{h:Heap}(X:K.In h)(e:nsOkIn K N=true)(q:nsIn K N x=some (some v)):h.nsMap N x=some v:=by
 let⟨o,es,ep,ho,hd,_,hf⟩:=(GG (G4 X e):h.Ns N (h.nsMap N))
 unfold nsIn at q;split at q
 ·rename_i c d es' n' sl z;have:=X _ _ z;rw[ho] at this;cases this;cases hd;split at q
  ·rename_i en he;rw[<-hf];unfold nsFind findBy;rw[<-Array.find?_toList,he];cases q;rfl
  ·split at q<;>cases q
 ·cases q
def El {α:Type}{o:Option α}{p:α->Bool}(h:o.any p=true):∃ a,o=some a/\p a=true:=by
 cases o with
 | none=>cases h
 | some a=>exact⟨a,rfl,h⟩
def Sj (h:sr d=some c):d=.cls c:=by
 cases d with
 | cls c'=>cases h;rfl
 | _=>exact nomatch (show none=some c from h)
def Si (h:ny v=true):v=some (.builtin "ValueError.__new__"):=by
 cases v with
 | none=>cases h
 | some v=>
  cases v with
  | builtin n=>exact congrArg (λn=>some (Value.builtin n)) (UD.mp h)
  | _=>exact nomatch (show false=true from h)
def NU {K:Frag}{C:Addr}{l:Lf}(h:rL K C l=true):∃ m,l=.ref C::m/\tailIn K ph m=true:=by
 cases l with
 | nil=>cases h
 | cons v m=>
  let⟨h,ht⟩:=(uS _ _).mp h;cases v with
  | ref B=>exact⟨m,by rw[show B=C from UD.mp h],ht⟩
  | _=>exact nomatch (show false=true from h)
def six_is {l:List (Option Value)}(h:l.length=6)(h4:(l[4]?).any ny=true):∃ a b c d f,l=[a,b,c,d,some (.builtin "ValueError.__new__"),f]:=by
 obtain _ | ⟨a,_ | ⟨b,_ | ⟨c,_ | ⟨d,_ | ⟨e,_ | ⟨f,_ | ⟨g,l⟩⟩⟩⟩⟩⟩⟩:=l
 ·cases h
 ·cases h
 ·cases h
 ·cases h
 ·cases h
 ·cases h
 ·exact⟨a,b,c,d,f,by rw[Si h4]⟩
 ·cases h
def yC {K:Frag}{h:Heap}{C:Addr}(X:K.In h)(e:xj K C=true):∃ nm q N bs bm hd sn sub ab col dd k0 k1 k2 k3 k5 cd, h.get? C=some (excClassObj nm q C N bs bm hd sn sub ab col dd k0 k1 k2 k3 k5 "ValueError.__new__")/\clsIn K C=some cd/\cd.mro=.ref C::bm/\cd.ns=N/\cd.hasDict=hd/\OwnTail h ph bm/\nsOkIn K N=true:=by unfold xj at e;let⟨o,hl,e⟩:=El e;simp only[uS,UD] at e;let⟨hc,e⟩:=e;let⟨c,hd,e⟩:=El e;simp only[uS,UD,hJ] at e;let⟨⟨⟨hdel,hok⟩,hm⟩,h6,h4⟩:=e;have hd:o.data=.cls c:=Sj hd;let⟨oc,od,oda,⟨osl⟩⟩:=o;subst hc hd;let⟨k0,k1,k2,k3,k5,rfl⟩:=six_is h6 h4;let⟨nm,bs,mro,ns,qn,hdc,sn,sub,ab,col,del⟩:=c;let⟨m,hm,ht⟩:=NU hm;dsimp only at hm hdel hok;subst hm hdel;exact⟨nm,qn,ns,bs,m,hdc,sn,sub,ab,col,od,k0,k1,k2,k3,k5,⟨nm,bs,.ref C::m,ns,qn,hdc,sn,sub,ab,col,false⟩,X _ _ hl,by unfold clsIn;rw[hl],rfl,rfl,rfl,tail_of_in X ht,hok⟩
section
variable {prog:Program} {w:World} {A:Around} {E:Lj} {K:Frag} {C:Addr}
def S7 {h:Heap}{g:Array GenState}{d:Drawn}{t:Nat}{os:OsState}{rest:Lf}{fI:Addr}{oI:Obj}{Q:Fin->Shared->Prop}(X:K.In h)(e:xj K C=true)(hi:yN K C=some (some (.ref fI)))(hf:K.lookup fI=some oI) (hfc:oI.cls=.type "function") (hr:rest.length<=sizeLine) (hq:∀ h' x,h.objs.size<=x->Heap.MadeExcOf h h' x (.ref C) rest->wpAny (model prog w) A (call (.ref fI) (.ref x::rest)) (λr s'=>r=.none/\Q (.done (.ret (.ref x))) s') E ⟨h',g,d,t,os⟩) : wpAny (model prog w) A (Builtin.«type.__call__» ⟨.ref C::rest,[]⟩) Q E ⟨h,g,d,t,os⟩:=by
 let⟨nm,q,N,bs,bm,hd,sn,sub,ab,col,dd,k0,k1,k2,k3,k5,cd,hC,hcd,hmro,hns,_,T,hok⟩:=yC X e;have F:=Ga;have hi':nsIn K N "__init__" = some (some (.ref fI)):=by unfold yN at hi;rw[hcd] at hi;rw[<-hns];exact hi
 have hn:h.Ns N (h.nsMap N):=GG (G4 X hok);have hm:=zag X hok hi';have hfI:=X _ _ hf;generalize h.nsMap N=mN at hn hm
 repeat (first | (with_reducible refine u6 hC ?_) | (with_reducible refine wpAny_madeBy_exc hC ?_) | wp_step)
 refine Hb (Code.quiet_builtin _ F.quiet) (HA F T hC (HB F T hC ?_ hr));show wpAny (model prog w) _ _ _ _ _;have up:∀ b o,h.get? b=some o->((h.push ({ cls:=.type "tuple",data:=.seq rest.toArray }:Obj)).push ({ cls:=.ref C,data:=.fields #[.ref h.objs.size,.none,.none,.none,.bool false,.none] }:Obj)).get? b=some o:=λb o z=>uf ({ cls:=.ref C,data:=.fields #[.ref h.objs.size,.none,.none,.none,.bool false,.none] }:Obj) (uf ({ cls:=.type "tuple",data:=.seq rest.toArray }:Obj) z);have hC1:=up _ _ hC;have hfI1:=up _ _ hfI;have hn1:((h.push ({ cls:=.type "tuple",data:=.seq rest.toArray }:Obj)).push ({ cls:=.ref C,data:=.fields #[.ref h.objs.size,.none,.none,.none,.bool false,.none] }:Obj)).Ns N mN:=hn.keeps up;have T1:=T.keeps up;have hget:((h.push ({ cls:=.type "tuple",data:=.seq rest.toArray }:Obj)).push ({ cls:=.ref C,data:=.fields #[.ref h.objs.size,.none,.none,.none,.bool false,.none] }:Obj)).get? (h.objs.size+1)=some ({ cls:=.ref C,data:=.fields #[.ref h.objs.size,.none,.none,.none,.bool false,.none] }:Obj):=by have:=uB (h.push ({ cls:=.type "tuple",data:=.seq rest.toArray }:Obj)) (o:=({ cls:=.ref C,data:=.fields #[.ref h.objs.size,.none,.none,.none,.bool false,.none] }:Obj)) rfl;rwa [gP] at this
 have hcC:(Value.ref C::bm).contains (.ref C)=true:=aD
 unfold isInstance
 repeat (first | (with_reducible refine u6 hget ?_) | (with_reducible refine gu hC1 ?_;rw[hcC]) | wp_step)
 show wpAny (model prog w) _ (typeLookup (.ref C) _) _ _ _;refine Hv hC1 hn1 T1 F.mroIs F.init.lookup ?_;rw[hm];refine Uo (ua ?_);unfold bindSpecial;refine ua (g9 (T:="function") ⟨_,hfI1,hfc⟩ ?_);rw[uC aA];refine uh (ua (uG (hq _ (h.objs.size+1) (UM _) ⟨up,gk (UM _),h.objs.size,hget,gk (uj _),?_⟩) (λr s' z=>?_) λ_ _ z=>z))
 ·exact uf _ (uB h rfl)
 ·let⟨rfl,z⟩:=z
  wp_walk;exact z
def zdI {s:Shared}{rest:Lf}{oI:Obj}(X:K.In s.heap)(e:xj K C=true)(hi:yN K C=some (some (.ref fI)))(hf:K.lookup fI=some oI)(hfc:oI.cls=.type "function")(hr:rest.length<=sizeLine) (hq:∀ h' x,s.heap.objs.size<=x->Heap.MadeExcOf s.heap h' x (.ref C) rest->wpAny (model prog w) (A.under (.builtin "type.__call__" ⟨.ref C::rest,[]⟩)) (call (.ref fI) (.ref x::rest)) (λr s'=>r=.none/\Q (.ref x) s') E { s with heap:=h' }) : wpAny (model prog w) A (call (.ref C) rest) Q E s:=by
 let⟨h,g,d,t,os⟩:=s;let⟨nm,q,N,bs,bm,hd,sn,sub,ab,col,dd,k0,k1,k2,k3,k5,cd,hC,_⟩:=yC X e;have f1:=tc_lookup;have f2:=tc_bind (.ref C);have hT:(⟨h,g,d,t,os⟩:Shared).TypeIs (.ref C) "type":=⟨_,hC,rfl⟩
 refine UO (codeAny_of_tree ?_);show wpAny (model prog w) _ (callAny (.ref C) _) _ _ _
 repeat (any_goals (first | assumption | (with_reducible refine u6 hC ?_) | wp_step))
 exact⟨rfl,Hl (Code.quiet_builtin _ aE) entry_typeCall (Hc hC (S7 X e hi hf hfc hr λh' x y z=>hq h' x y z))⟩
end
open PySem PySem.Spec PySem.Calls PyProof.Rows PySem.W Builtin Builtin.ObjectAttr
section
variable {prog:Program} {w:World} {A:Around} {E:Lj} {K:Frag} {C x:Addr} {s:Shared}
def Yp {rest:Lf}{vs:Array Value}(X:K.In s.heap)(e:xj K C=true)(hx:s.heap.get? x=some ⟨.ref C,dd,.fields vs,sl⟩)(h0:vs[0]? = some (.ref t0))(hr:rest.length<=sizeLine) (hq:∀ h',(∀ b o,b≠x->s.heap.get? b=some o->h'.get? b=some o)->h'.get? x=some ⟨.ref C,dd,.fields (vs.setIfInBounds 0 (.ref s.heap.objs.size)),sl⟩->Q .none { s with heap:=h' }) : wpAny (model prog w) A (call (.builtin "ValueError.__init__") (.ref x::rest)) Q E s:=by
 let⟨h,g,d,t,os⟩:=s;let⟨nm,q,N,bs,bm,hd,sn,sub,ab,col,dd',k0,k1,k2,k3,k5,cd,hC,hcd,hmro,hns,_,T,hok⟩:=yC X e;have F:=Ga;refine UO (Gb F.init.plain F.initEntry (wpAny_check_init_subT F T hC hx rfl ?_));have hx1:(h.push ({ cls:=.type "tuple",data:=.seq rest.toArray }:Obj)).get? x=some ⟨.ref C,dd,.fields vs,sl⟩:=uf _ hx;have hz:0<vs.size:=(Uz.mp h0).1
 repeat (first | (with_reducible refine Uq hx1 rfl h0 ?_) | (with_reducible refine gQ hx1 rfl hz ?_) | wp_step)
 refine hq _ (λb o hb z=>?_) ?_
 ·exact(Ue _ _ (Ne.symm hb)).trans (uf _ z)
 ·exact UK _ hx1 rfl
def S6 {self:Value}(T:OwnTail h ph l):refuseLoop self "__setattr__" l=pure ():=by
 induction T with
 | base=>exact PySem.F.store_ValueError.passes self
 | own _ _ _ _ ih=>rw[refuseLoop_ref];exact ih
def S4 {name:Str}(X:K.In s.heap)(I:InstAt s.heap x ox C od)(e:xj K C=true)(ha:findIn K (.ref C) name=some none)
  (h:∀ b,wpAny (model prog w) A.in1 (storeInOwnDict (.ref x) (.ref C) (.str name tk) name v b)
   (λfin s'=>match fin with | .done f=>R (.ok f) s' | .again c'=>c'.quiet=true/\codeAny (model prog w) A c' R s') (λe s'=>R (.error e) s') s) :
  codeAny (model prog w) A (.call (.builtin "object.__setattr__") ⟨[.ref x,.str name tk,v],[]⟩) R s:=by
 have SF:=PySem.F.store_object
 let⟨nm,q,N,bs,bm,hd,sn,sub,ab,col,dd',k0,k1,k2,k3,k5,cd,hC,hcd,hmro,hns,_,T,hok⟩:=yC X e
 have hobj:cd.mro.contains (.type "object")=true:=by rw[hmro,gz,T.hasType (X:="object") (b:=true) aE,hU]
 have sub:Looks (model prog w) s.heap (isInstance (.ref x) (.type "object")) true:=I.type.andThen (GS X (by unfold mroIn;rw[hcd,u7,ux (by rw[hmro];simp),hobj]))
 refine Gb SF.slot.plain SF.entry (@check_slot (model prog w) _ _ s "object.__setattr__" "object" "__setattr__" (.ref x) [.str name tk,v] [] _ SF.kind SF.split sub (SF.args (.ref x) (.str name tk) v) ?_)
 have hm:Looks (model prog w) s.heap (mroOf (.ref C)) cd.mro:=(looks_clsIn X hcd).andThen .now
 rw[osa_eq,refuse_eq]
 refine ua (ua (I.type.here (ua (hm.here ?_))))
 rw[hmro,refuseLoop_ref,S6 T]
 exact uh (ua (I.type.here (ua ((GJ X ha).here (ua (uh (h _)))))))
def zdJ {ns:Lh}{name:Str}(hns:s.heap.Ns1 d mA)(hw:Within mA ns)(hz:ns.length<sizeLine) (hq:∀ h' tk',h'.Ns1 d (λy=>if y=name then some v else mA y)->Heap.SameBut d s.heap h'->Q (.done (.ret .none)) { s with heap:=h',toks:=tk' }):wpAny M A (storeInDict d (.str name tk) name v) Q E s:=by let⟨h,g,dr,t,os⟩:=s;unfold storeInDict newKeyGuard;refine ua (uh (ua (wpAny_nsSet1 hns λh' hn' hs=>?_)));let⟨oD,es,ep,ho,hd,hc⟩:=hn'.count (Within.cons name v hw);refine ua (wpAny_lookBehind ho (by rw[hd];exact pastItsLine_dict (uZ hc (by rw[uc];lia))) ?_);exact uh (hq h' _ hn' hs)
def S3 (X:K.In s.heap)(hx:s.heap.get? x=some ⟨.ref C,none,.fields vs,sl⟩)(e:xj K C=true)(hh:hasDictIn K C=true) (hq:Q (some s.heap.objs.size) { s with heap:=(s.heap.push ({ cls:=.type "dict",data:=.dict #[] }:Obj)).update x λo=>{ cls:=o.cls,dict:=some s.heap.objs.size,data:=o.data,slots:=o.slots } }):wpAny M A (ownDictForStores (.ref x)) Q E s:=by
 let⟨h,g,dr,t,os⟩:=s;let⟨nm,q,N,bs,bm,hd,sn,sub,ab,col,dd',k0,k1,k2,k3,k5,cd,hC,hcd,hmro,hns,hdd,T,hok⟩:=yC X e;have hT:hd=true:=by let⟨cd',hc',hd'⟩:=Hf hh;rw[hcd] at hc';cases hc';rw[<-hdd];exact hd'
 subst hT;have hx1:(h.push ({ cls:=.type "dict",data:=.dict #[] }:Obj)).get? x=some ⟨.ref C,none,.fields vs,sl⟩:=uf _ hx
 repeat (first | (with_reducible refine u6 hx ?_) | (with_reducible refine u6 hC ?_) | (with_reducible refine wpAny_update' hx1 ?_) | wp_step)
 exact hq
def zdK {name:Str}(X:K.In s.heap)(hx:s.heap.get? x=some ⟨.ref C,none,.fields vs,sl⟩)(e:xj K C=true)(hh:hasDictIn K C=true) (hsa:findIn K (.ref C) "__setattr__" = some (some (.builtin "object.__setattr__"))) (ha:findIn K (.ref C) name=some none) (hq:∀ h' d tk,s.heap.objs.size<=d->h'.get? x=some ⟨.ref C,some d,.fields vs,sl⟩->h'.Ns1 d (λy=>if y=name then some v else none)->(∀ b o,b≠x->s.heap.get? b=some o->h'.get? b=some o)->Q () { s with heap:=h',toks:=tk }) : wpAny (model prog w) A (setAttr (.ref x) name v) Q E s:=by
 have I:InstAt s.heap x ⟨.ref C,none,.fields vs,sl⟩ C none:=⟨hx,rfl,rfl,trivial⟩
 refine set_plain X I hsa (S4 (s:={ s with toks:=s.toks+1 }) X I e ha λb=>?_);have hxs:x≠s.heap.objs.size:=Up (um hx);have hx1:(s.heap.push ({ cls:=.type "dict",data:=.dict #[] }:Obj)).get? x=some ⟨.ref C,none,.fields vs,sl⟩:=uf _ hx;unfold storeInOwnDict;refine ua (uh ?_);rw[ux (show ¬ (Value.ref C == Value.type "module")=true from λz=>by cases UD.mp z)];refine ua (S3 (s:={ s with toks:=s.toks+1 }) X hx e hh ?_)
 have hgd:((s.heap.push ({ cls:=.type "dict",data:=.dict #[] }:Obj)).update x λo=>{ cls:=o.cls,dict:=some s.heap.objs.size,data:=o.data,slots:=o.slots }).get? s.heap.objs.size=some ({ cls:=.type "dict",data:=.dict #[] }:Obj):=
  (HF _ _ _ _ hxs.symm).trans (uB _ rfl)
 have hnd:Heap.Ns ((s.heap.push ({ cls:=.type "dict",data:=.dict #[] }:Obj)).update x λo=>{ cls:=o.cls,dict:=some s.heap.objs.size,data:=o.data,slots:=o.slots }) s.heap.objs.size (λ_=>none):=
  ⟨_,#[],_,hgd,rfl,λe he=>absurd he aD,λ_=>rfl⟩
 refine zdJ (ns:=[]) (HN hnd) Within.nil (by rw[uD];decide) λh' tk' hn hs=>?_;refine hq h' s.heap.objs.size _ (uj _) ((hs.2 x hxs).trans (UK _ hx1 rfl)) hn λb o hb z=>?_;exact(hs.2 b (Up (um z))).trans ((HF _ _ _ _ hb).trans (uf _ z))
end
structure dw (K:Frag)(C:Addr):Prop where
 sh:xj K C=true
 hd:hasDictIn K C=true
 ga:findIn K (.ref C) "__getattribute__" = some (some (.builtin "BaseException.__getattribute__"))
 gt:findIn K (.ref C) "__getattr__" = some none
 sa:findIn K (.ref C) "__setattr__" = some (some (.builtin "object.__setattr__"))
 ca:findIn K (.ref C) "__class__" = some (some (.builtin "object.__class__"))
 cg:specialIn K (.builtin "object.__class__") "__get__" = some (some (.builtin "getset_descriptor.__get__"))
 ct:takesIn K (.builtin "object.__class__")=some true
def B6 (K:Frag)(C:Addr):Bool:=xj K C&&hasDictIn K C&&findIn K (.ref C) "__getattribute__" == some (some (.builtin "BaseException.__getattribute__"))&&findIn K (.ref C) "__getattr__" == some none && findIn K (.ref C) "__setattr__" == some (some (.builtin "object.__setattr__"))&&findIn K (.ref C) "__class__" == some (some (.builtin "object.__class__"))&&specialIn K (.builtin "object.__class__") "__get__" == some (some (.builtin "getset_descriptor.__get__"))&&takesIn K (.builtin "object.__class__") == some true
def Qn {K:Frag}{C:Addr}(e:B6 K C=true):dw K C:=by simp only[B6,uS,UD] at e;let⟨⟨⟨⟨⟨⟨⟨a,b⟩,c⟩,d⟩,e⟩,f⟩,g⟩,h⟩:=e;exact⟨a,b,c,d,e,f,g,h⟩
def dw.mro {K:Frag}(c:dw K C)(X:K.In h)(T:String)(ht:ph.contains (.type T)=true):mroIn K C (.type T)=some true:=by let⟨nm,q,N,bs,bm,hd,sn,sub,ab,col,dd',k0,k1,k2,k3,k5,cd,hC,hcd,hmro,hns,hdd,OT,hok⟩:=yC X c.sh;unfold mroIn;rw[hcd,u7,ux (by rw[hmro];simp),hmro,gz,OT.hasType (X:=T) ht,hU]
section
variable {prog:Program} {w:World} {A:Around} {E:Lj} {K:Frag} {C x:Addr} {s:Shared} {ox:Obj} {od:Option Obj} {name:Str} {tk:Tok} {fill expr:Bool}
def DN (X:K.In s.heap)(I:InstAt s.heap x ox C od)(c:dw K C)
  (h:wpAny (model prog w) A.in1 (Builtin.«object.__getattribute__» ⟨[.ref x,.str name tk],[]⟩) (λfin s'=>match fin with | .done (.ret v)=>wpAny (model prog w) A (handedOut v) Q E s' | _=>False) (λ_ _=>False) s) :
  wpAny (model prog w) A (getAttrBy (.ref x) (.str name tk) fill expr) Q E s:=by
 have L0:=I.type (M:=model prog w)
 unfold getAttrBy
 refine Uo (ua (L0.here (ua ((GJ X c.ga).here ?_))))
 dsimp only
 have ne:(Value.builtin "BaseException.__getattribute__" == Value.builtin "object.__getattribute__")=false:=aE
 rw[ne,gE,ux aA]
 unfold getAttrByItsOwn
 refine ua ((looks_hook (mc:=.ref C) X (r:=none) (by rw[uC (show onTheHeap (.ref C)=true from rfl)];exact c.gt)).here (ua (wpAny_attempt (Uo ?_))))
 unfold callGetattribute
 rw[show(expr&&onTheHeap (Value.builtin "BaseException.__getattribute__"))=false from gE _,ux aA]
 unfold boundAndCalled
 rw[HS.ga.bind]
 refine ua (uh ?_)
 show wpAny _ _ (call (.builtin "BaseException.__getattribute__") [.ref x,.str name tk]) _ _ _
 refine UO (Gb HS.ga.plain PySem.F.entry_bexc_ga ?_)
 refine @check_slot (model prog w) _ _ s "BaseException.__getattribute__" "BaseException" "__getattribute__" (.ref x) [.str name tk] [] _ aE aE (L0.andThen (GS X (c.mro X "BaseException" aE))) (PySem.F.args_bexc_ga _ _) ?_
 refine uG h (λfin s' z=>?_) λ_ _ z=>z.elim
 rcases fin with(_ | _ | _ | _) | _<;>first | exact z | exact z.elim
def S2 (X:K.In s.heap)(I:InstAt s.heap x ox C od)(c:dw K C)(hf:findObj K C od name=some (.value v))(hh:handedIn v=true)(h:Q v { s with toks:=s.toks+1 }) : wpAny (model prog w) A (getAttr (.ref x) name expr) Q E s:=by refine ua (wpAny_mkText (DN (s:={ s with toks:=s.toks+1 }) X I c ?_));have L0:=I.type (M:=model prog w);have L1:=looks_find (M:=model prog w) X I hf;unfold Builtin.«object.__getattribute__»;refine ua (uh (ua (uh (ua (L0.here (s:={ s with toks:=s.toks+1 }) (ua (L1.here (s:={ s with toks:=s.toks+1 }) ?_)))))));refine uh ?_;show wpAny _ _ (handedOut v) _ _ _;rw[handedOut_of hh];exact uh h
def zcy (X:K.In s.heap)(I:InstAt s.heap x ox C od)(c:dw K C)(h:Q (some (.ref C)) { s with toks:=s.toks+1 }):wpAny (model prog w) A (getAttr? (.ref x) "__class__") Q E s:=by
 have hf:findObj K C od "__class__" = some (.bind (.builtin "getset_descriptor.__get__") (.builtin "object.__class__")):=by let⟨cd,hc,_⟩:=Hf c.hd;simp only[findObj,hc,c.ca,c.cg,c.ct,u7]
 refine ua (wpAny_mkText ?_);unfold getAttrBy?;refine ua (wpAny_attempt (DN (s:={ s with toks:=s.toks+1 }) X I c ?_));have L0:=I.type (M:=model prog w);have L1:=looks_find (M:=model prog w) X I hf;unfold Builtin.«object.__getattribute__»;refine ua (uh (ua (uh (ua (L0.here (s:={ s with toks:=s.toks+1 }) (ua (L1.here (s:={ s with toks:=s.toks+1 }) ?_)))))));show wpAny _ _ (holding [.builtin "object.__class__"] (call (.builtin "getset_descriptor.__get__") [.builtin "object.__class__",.ref x,.ref C]) >>= ret) _ _ _;refine ua (Uo (UO (class_get (s:={ s with toks:=s.toks+1 }) (ox:=ox) (od:=od) X I (c.mro X "object" aE) ?_)));exact uh (handed_on rfl (uh h))
def Ek (c:dw K C):KitX K (.ref x) (.ref C) (λh=>InstAt h x ox C od) where
 ty:=λ_ _ _ I=>I.type
 it:=λ_ h X _=>by
  let⟨nm,q,N,bs,bm,hd,sn,sub,ab,col,dd',k0,k1,k2,k3,k5,cd,hC,_⟩:=yC X c.sh
  intro A' Q' E' s' k z
  unfold isType loadHead
  exact ua (wpAny_loadPart (k _ _ hC) (uh z))
 ne:=λh tp dd its n sl X htp=>by
  let⟨nm,q,N,bs,bm,hd,sn,sub,ab,col,dd',k0,k1,k2,k3,k5,cd,hC,_⟩:=yC X c.sh
  refine Bool.eq_false_iff.mpr λz=>?_
  have e:C=tp:=Value.ref.inj (UD.mp z)
  subst e
  have y:=uQ (hC.symm.trans htp)
  injection y with y1
  injection y1 with y1
  exact absurd y1 aA
 ca:=λX I k=>zcy X I c k
def zcz (X:K.In s.heap)(hx:s.heap.get? x=some ox)(hxc:ox.cls=.ref C)(c:dw K C)(d:dw K D)(hb:mroIn K C (.ref D)=some b)(h:Q b s):wpAny (model prog w) A (excMatches (.ref x) (.ref D)) Q E s:=by
 let⟨nm,q,N,bs,bm,hd,sn,sub,ab,col,dd',k0,k1,k2,k3,k5,cd,hD,hcd,hmro,hns,hdd,OT,hok⟩:=yC X d.sh;let⟨hp,g,dr,t,os⟩:=s;have f:=tc_notTuple;have L1:=GS (M:=model prog w) X hb;have hcB:(Value.ref D::bm).contains (.type "BaseException")=true:=by rw[gz,OT.hasType (X:="BaseException") (b:=true) aE,hU]
 have hT:(⟨hp,g,dr,t,os⟩:Shared).TypeIs (.ref D) "type":=⟨_,hD,rfl⟩
 unfold excMatches
 repeat (first | assumption | (with_reducible refine u6 hx ?_;rw[hxc]) | (with_reducible refine u6 hD ?_) | (with_reducible refine L1.at ?_) | (with_reducible refine gu hD ?_;rw[hcB]) | wp_step)
 cases b<;>(wp_walk;exact h)
def Xj (hh:A.handled=none) (h:wpAny (model prog w) A y (λv T9=>∃ x dd vs sl,v=.ref x/\K.In T9.heap/\dw K C/\T9.heap.get? x=some ⟨.ref C,dd,.fields vs,sl⟩/\vs[1]? = some .none/\E (.ref x) T9) E s):wpAny (model prog w) A (raiseStmt env (some y) none) Q E s:=by
 unfold raiseStmt;refine ua (uG h (λv T9 z=>?_) λ_ _ z=>z);let⟨x,dd,vs,sl,rfl,X,c,he,h1,hE⟩:=z;let⟨nm,q,N,bs,bm,hd,sn,sub,ab,col,dd',k0,k1,k2,k3,k5,cd,hC,hcd,hmro,hns,hdd,OT,hok⟩:=yC X c.sh;let⟨hp,g,d,tk,os⟩:=T9;have hcB:(Value.ref C::bm).contains (.type "BaseException")=true:=by rw[gz,OT.hasType (X:="BaseException") (b:=true) aE,hU]
 repeat (first | (with_reducible refine u6 he ?_) | (with_reducible refine u6 hC ?_) | (with_reducible refine Uq he rfl h1 ?_) | (with_reducible refine gu hC ?_;rw[hcB]) | wp_step)
 exact wpAny_raiseNew_none hh hE
end
abbrev XS:=Value->Option Addr->St->Hp->Prop
def One (H:Hp)(d:Option Addr):Prop:=∃ a f v,d=some a/\H a=some (.xd [(f,v)])
def Nw (p:Prop)(h:Heap)(e:Addr)(c:Value)(d:Option Addr):Prop:=∃ sl vs,h.get? e=some ⟨c,d,.fields vs,sl⟩/\vs[1]? = some .none/\(p->vs[2]? = some .none)
def Fl (X:Cx)(E:XS)(e:Value)(s':Shared):Prop:=∃ (ea:Addr) (c:Value) (d:Option Addr) (H':Hp) (Lk:Li) (U:St),e=.ref ea/\Inv X Lk U H' s'/\X.s₀.heap.objs.size<=ea/\H' ea=none/\(∀ q∈X.pn,q.1≠ea) /\ (Nw (One H' d) s'.heap ea c d\/∃ T fl,fG (One H' d) s'.heap ea T c d fl/\(fl=.none\/∃ L,X.env.frame=some L/\fl=rawInt L)/\X.s₀.heap.objs.size<=T/\H' T=none/\∀ q∈X.pn,q.1≠T)/\E c d U H'
def lL (X:Cx)(E:XS):Prop:=∀ e s',Fl X E e s'->X.xe e s'
def ie (P:Program)(w:World):lQ:=λouter H s E e s'=>∃ (ea T:Addr) (c:Value) (d:Option Addr) (H':Hp),e=.ref ea/\s.heap.objs.size<=ea/\s.heap.objs.size<=T/\fG (One H' d) s'.heap ea T c d .none/\H' ea=none/\H' T=none /\ s'.os=s.os/\AllBare s'.gens/\Un (d6 outer) [] H H' s.heap s'.heap/\dk P w H' s'.heap/\E c d H'
section
variable {X:Cx} {Lk:Li} {U:St} {H:Hp} {s s':Shared}
def Un.kp {h h1 h2:Heap}(u:Un fs [] H H' h h1)(k:Kp ch fs' h1 h2)(hc:∀ b∈ch,h.objs.size<=b)(hf:∀ b∈fs',b∈fs\/h.objs.size<=b):Un fs [] H H' h h2:=by
 have nc:∀ b o,h.get? b=some o->b∉ch:=λb o q z=>absurd (uI (um q) (hc b z)) (Uc _);refine⟨λb o q n hb _=>?_,λb o q n hb _=>?_,u.free,λb o q _=>?_,u.tups,u.aL,u.tbls⟩
 ·refine k.keep b o (nc b o q) (λz=>?_) (u.keep b o q n hb aD);rcases hf b z with z | z
  ·exact hb z
  ·exact absurd (uI (um q) z) (Uc _)
 ·let⟨sl,e1⟩:=u.slot b o q n hb aD;let⟨sl',e2⟩:=k.slot b _ (nc b o q) e1;exact⟨sl',e2⟩
 ·let⟨o',e1⟩:=u.there b o q aD;let⟨sl',e2⟩:=k.slot b _ (nc b o q) e1;exact⟨_,e2⟩
def dk.kp (x:dk P w H h1)(k:Kp ch fs h1 h2)(hc:∀ b∈ch,H b=none)(hf:∀ b∈fs,H b=none):dk P w H h2:=λa o q=>
 (x a o q).stay (λb u hb z=>by
  have t:∃ v,H b=some v:=by
   rcases hb with rfl | hb
   ·exact⟨o,q⟩
   ·exact⟨_,hb⟩
  let⟨v,t⟩:=t
  exact k.keep b u (λy=>by rw[hc b y] at t;cases t) (λy=>by rw[hf b y] at t;cases t) z) (λ_ z=>z) λ_ _ z=>z
def zcA {P:Program}{w:World}{K:Le}{mg:La}{base:Heap}{N:Lh}{qual:Str}{scope:Scope}{f:Addr}{cd:Value}{A:Around}{outer:List Env}{s:Shared}{H:Hp}{E:XK} : lL (dH (ie P w) P w K mg base N qual scope f cd A outer s H E) (λc d _ H'=>E c d H'):=by
 intro e s' hF;let⟨ea,c,d,H',Lk,U,rfl,I,hea,hHe,_,hv,hE⟩:=hF;have hst:(dH (ie P w) P w K mg base N qual scope f cd A outer s H E).stack=(dH (ie P w) P w K mg base N qual scope f cd A outer s H E).env::outer:=rfl;have hfr:=I.ok.frames;have hl:=I.stack;have hsub:=I.stkSub;have hfree:=I.stkFree;rw[hst] at hfr hl hsub hfree
 have fin:∀ (h':Heap) (T:Addr) (ch:Ld),(s.heap.objs.size<=T/\H' T=none)->fG (One H' d) h' ea T c d .none->Kp ch (d6 ((dH (ie P w) P w K mg base N qual scope f cd A outer s H E).env::outer)) s'.heap h'->(∀ b∈ch,s.heap.objs.size<=b/\H' b=none) ->
   ie P w outer H s E (.ref ea) { s' with heap:=h' }:=λh' T ch g1 g2 g3 g4=>by
  refine⟨ea,T,c,d,H',rfl,hea,g1.1,g2,hHe,g1.2,I.os,I.bare,?_,I.hok.kp g3 (λb hb=>(g4 b hb).2) hfree,hE⟩
  refine Un.kp (fs:=d6 outer) I.base g3 (λb hb=>(g4 b hb).1) λb hb=>?_
  rcases uw.mp (hsub b hb) with z | z
  ·rw[z];exact .inr I.ok.above
  ·exact .inl z
 rcases hv with⟨sl,vs,he,h1,hp⟩ | ⟨T0,fl,hF,hfl,hT,hHT,_⟩
 ·exact Yo hfr hl rfl he h1 hp λh' T g1 g2 g3=>fin h' T [ea] ⟨uZ I.sz g1,I.hok.fresh g1⟩ g2 g3 λb hb=>by
   obtain rfl:b=ea:=by simpa using hb
   exact⟨hea,hHe⟩
 ·rcases hfl with hfl | ⟨L,hL,rfl⟩;rotate_left
  ·exact zae hL hF λh2 f1 f2=>fin h2 T0 [T0] ⟨hT,hHT⟩ f1 (f2.mono (λ_ z=>z) λb z=>absurd z aD) λb hb=>by
    obtain rfl:b=T0:=by simpa using hb
    exact⟨hT,hHT⟩
  subst hfl
  exact zaf hfr hl rfl hF λh' T g1 g2 g3=>fin h' T [T0,ea] ⟨uZ I.sz g1,I.hok.fresh g1⟩ g2 g3 λb hb=>by
   rcases uw.mp hb with z | z
   ·subst z;exact⟨hT,hHT⟩
   ·obtain rfl:b=ea:=by simpa using z
    exact⟨hea,hHe⟩
def Ej (I:Inv X Lk U H s)(h:ie X.prog X.w X.stack H s (λc d H'=>E c d U H') e s'):Fl X E e s':=by
 let⟨ea,T,c,d,H',rfl,h1,h2,hF,n1,n2,ho,hg,hu,hk,hE⟩:=h;have np:∀ a,s.heap.objs.size<=a->∀ q∈X.pn,q.1≠a:=λa z q hq y=>by have:=(I.pin q (uW _ hq)).1;exact absurd (uI (um this) (y ▸ z)) (Uc _)
 exact⟨ea,c,d,H',Lk,U,rfl,I.call' ho hu hk hg (λb z=>absurd z aD),uZ I.sz h1,n1,np ea h1,.inr ⟨T,_,hF,.inl rfl,uZ I.sz h2,n2,np T h2⟩,hE⟩
end
structure nK (P:Program)(w:World)(K:Le)(mg:La)(base:Heap)(k:Nat)(x:Str)(ps:Lh)(sp:Sp):Prop where
 ex:∃ (f:Addr) (fd:FuncData),PySem.W.keepIn K (.ref f)=true/\Binds K fd ps []/\mg x=some (.ref f)/\dA P w K mg base (ie P w) k f fd ps sp
section
variable {P:Program} {w:World} {K:Le} {mg:La} {base:Heap}
def Df.okX {x:Str}{st:Stmt}{ps N:Lh}{k:Nat}{sp:Sp}(D:Df K mg x st ps)(Sc:zi N ps (zc st))(len:∀ vs H Q E,sp vs H Q E->vs.length=ps.length) (hbody:∀ (f:Addr) (cdv:Value) (A:Around) (outer:List Env) (s:Shared) (H:Hp) (vs:List V) (Q:VK) (E:XK),bT k (A.deeper (envOfC x (zc st) s.heap.objs.size f cdv))->sp vs H Q E -> ∃ t,eC (dH (ie P w) P w K mg base N x (zc st) f cdv A outer s H E) (zf st) t/\t { nx:=λ_ H'=>Q .non H',rt:=Q } (start N vs) H):nK P w K mg base (k+1) x ps sp:=by let⟨f,fd,F,b,m⟩:=D.ex;refine⟨f,fd,F.kp,b,m,?_⟩;let⟨oc,od,kV,doc,pm,an,cdv,ct,osl,rfl,lk,hcd⟩:=F.ex;exact Ak lk hcd Sc len λA outer s H vs Q E hr h=>hbody f cdv A outer s H vs Q E hr h
end
section
variable {X:Cx} {k j:Nat} {x:Str} {ps:Lh} {sp:Sp} {p pos:Pos} {e:Expr} {es:Lg} {t:TA} {E:XS}
def JC (sp:Sp)(E:XS)(t:TA):TE:=λU H Q=>t U H λvs H1=>sp vs H1 Q λc d H'=>E c d U H'
def Je {Lk:Li}(F:dA X.prog X.w X.K X.mg X.base (ie X.prog X.w) k f fd ps sp)(hr:bT k X.A)(hb:Binds X.K fd ps [])(hx:lL X E) (I:Inv X Lk U H s) (r:Vals vs us) (h:sp vs H Q λc d H'=>E c d U H'):Lb X (call (.ref f) us) (EP X Lk U Q) X.xe s:=by
 have hl:(us++[]).length=ps.length:=by rw[uH,<-r.length];exact F.len _ _ _ _ h
 have hb':=hb s us I.kIn hl;rw[uH] at hb';refine UO (gx (F.run X.A X.stack s H ⟨us,[]⟩ us vs Q (λc d H'=>E c d U H') hr I.eX hb' r h) λr s' hq=>?_);rcases r with e | (u | _ | _ | _)
 ·exact hx e s' (Ej I hq)
 all_goals first | exact I.after hq | exact False.elim hq
def zdM (hx:lL X E)(F:nK X.prog X.w X.K X.mg X.base k x ps sp)(hr:bT j X.A)(hk:k<=j)(ha:PA X (e::es) t)(hg:Gl X x:=by rfl) (hdb:(x == ("__debug__":Str))=false:=by decide) (he:starEach (e::es) X.env=(false,eval e X.env)::starEach es X.env:=by rfl) (hpl:(backTo pos (starEach es X.env)).any (·.1)=false:=by rfl):PE X (.Call (.Name x p) (e::es) [] pos) (JC sp E t):=by intro Lk s U H Q I h;let⟨f,fd,kp,b,m,G⟩:=F.ex;refine Uv (xu I hg m ?_ hdb);refine gA (h₀:=X.base) I.ok.mod.kin kp (aX (ha pos Lk s U H _ I h) λus s1 ⟨vs,H1,I1,r,q⟩=>⟨I1.kIn,?_⟩) he hpl;exact Je G (hr.mono hk) b hx I1 r q
end
noncomputable def fk (C a:Addr):HO:=.ext λh=>∃ (vs:Array Value) (sl:Array (Option Value)) (t:Addr),h.get? a=some ⟨.ref C,none,.fields vs,sl⟩/\vs[0]? = some (.ref t)/\vs[1]? = some .none/\vs[2]? = some .none/\vs.size=6
noncomputable def fZ (C d a:Addr):HO:=.ext λh=>∃ (vs:Array Value) (sl:Array (Option Value)),h.get? a=some ⟨.ref C,some d,.fields vs,sl⟩/\vs[1]? = some .none/\vs[2]? = some .none/\vs.size=6
def NT (e:H a=some o):upd H a o=H:=by
 funext b;unfold upd;split
 ·rename_i z;rw[z,e]
 ·rfl
section
variable {P:Program} {w:World} {H:Hp} {h:Heap} {C d a:Addr}
def DM (e:h.get? a=some ⟨.ref C,none,.fields vs,sl⟩)(h0:vs[0]? = some (.ref t))(h1:vs[1]? = some .none/\vs[2]? = some .none/\vs.size=6):zN P w H h a (fk C a):= ⟨⟨vs,sl,t,e,h0,h1⟩,⟨_,e⟩,λ_ _ ⟨vs,sl,t,e,r⟩ k=>⟨vs,sl,t,k _ e,r⟩⟩
def NS (e:h.get? a=some ⟨.ref C,some d,.fields vs,sl⟩)(h1:vs[1]? = some .none/\vs[2]? = some .none/\vs.size=6):zN P w H h a (fZ C d a):= ⟨⟨vs,sl,e,h1⟩,⟨_,e⟩,λ_ _ ⟨vs,sl,e,r⟩ k=>⟨vs,sl,k _ e,r⟩⟩
end
section
variable {X:Cx} {C B:Addr} {b self name:Str} {e a1:Expr} {es:Lg} {te:TE} {t:TA} {np p1 apos cpos pos pos':Pos} {i:Nat}
def Ap (C:Addr):List V->Hp->VK->Prop:=λxs H Q=>∃ a v,xs=[.ref a,v]/\H a=some (fk C a)/\Q .non H
def zcB (c:dw X.K C):qD X (.builtin "ValueError.__init__") (Ap C):=by
 intro Lk s U H xs us Q I r h;let⟨a,v,rfl,ea,q⟩:=h;let⟨u1,u2,rfl,r1,r2⟩:=vals2 r;obtain rfl:u1=Value.ref a:=r1;let⟨⟨vs,sl,t,e,h0,h1⟩,_⟩:=I.hok a _ ea;refine Yp I.kIn c.sh e h0 (by show 1<=_;rw[uD];decide) λh' k z=>⟨.non,H,?_,rfl,q⟩
 have I':=I.write (x:=a) (e:=a) (o:=fk C a) (h':=h') (t':=s.toks) (by rw[ea];exact True.intro) (.inl rfl) k ⟨_,z⟩ (DM (t:=s.heap.objs.size) z (by
  have:0<vs.size:=(Uz.mp h0).1
  simp[this]) (by simpa[Hn] using h1))
 rw[NT ea] at I';exact I'
def mS (K:Frag)(B:Addr):Bool:=specialIn K (.ref B) "__getattribute__" == some (some (.builtin "type.__getattribute__"))&&readsIn K B (.type "type")&&(match findCls K (.ref B) (.type "type") "__init__" with | some (.val v)=>v == .builtin "ValueError.__init__" | _=>false)
def X6 (hm:X.mg b=some (.ref B))(hu:mS X.K B=true)(c:dw X.K C)(ha:PA X (a1::es) t)(hg:Gl X b:=by rfl) (hd:(b == ("__debug__":Str))=false:=by decide)
  (hst:starEach (a1::es) X.env=(false,eval a1 X.env)::starEach es X.env:=by rfl) (hpl:(backTo cpos (starEach es X.env)).any (·.1)=false:=by rfl)
  (ht:eval (.Call (.Attribute (.Name b np) "__init__" apos) (a1::es) [] cpos) X.env=(do
   let ov <-eval (.Name b np) X.env
   standAt apos.atName
   let (f,first) <-holding [ov] (getMethod ov "__init__" pl)
   callWith cpos f first (backTo cpos (starEach (a1::es) X.env)) (backToKw cpos (keywordEach [] X.env))):=by rfl):PE X (.Call (.Attribute (.Name b np) "__init__" apos) (a1::es) [] cpos) (pK (Ap C) t):=by
 intro Lk s U H Q I h
 simp only[mS,uS,UD] at hu
 let⟨⟨u1,u2⟩,u3⟩:=hu
 split at u3
 ·rename_i v hv
  obtain rfl:v=.builtin "ValueError.__init__":=UD.mp u3
  refine methodCall_KW (pl:=pl) (xu I hg hm (method_cls I.kIn u1 (cls_value I.kIn u2 hv rfl ?_)) hd) ht
  exact callWith_builtin1 (aX (ha cpos Lk _ U H _ (I.tok _) h) λus s1 ⟨vs,H1,I1,r1,q1⟩=>zcB c Lk s1 U H1 vs us Q I1 r1 q1) hst hpl
 ·cases u3
def B4 (K:Frag)(C:Addr)(ta tv:TE)(name:Str):TS:=λD U H=>tv U H λy H1=>ta U H1 λx H2=>∃ a,x=.ref a/\H2 a=some (fk C a)/\∀ d,H2 d=none->d≠a->D.nx U (upd (upd H2 a (fZ C d a)) d (.xd [(name,y)]))
def X7 {o value:Expr}(c:dw X.K C)(hn:findIn X.K (.ref C) name=some none)(ha:PE X o ta)(hv:PE X value tv)(hs:swapsWith value (some (.Attribute o name pos')) pos.line X.env=pure false:=by rfl) : PS X (.Assign [.Attribute o name pos'] value pos) (B4 X.K C ta tv name):=by
 intro Lk s U H D I h;refine GN (aX (hv Lk s U H _ I h) λu s1 ⟨y,H1,I1,ry,q⟩=>aX (ha Lk s1 U H1 _ I1 q) λov s2 zq=>?_) hs;let⟨x,H2,I2,rx,a,ex,ea,q2⟩:=zq;subst ex;obtain rfl:ov=Value.ref a:=rx;let⟨⟨vs,sl,t,e,h0,h1⟩,_⟩:=I2.hok a _ ea;refine zdK I2.kIn e c.sh c.hd c.sa hn λh' d tk g1 g2 g3 g4=>?_;have hn:=I2.hok.fresh g1;have nd:d≠a:=λz=>by rw[z,ea] at hn;cases hn
 refine⟨U,_,?_,q2 d hn nd⟩
 have u:Un X.fs [] H2 (upd (upd H2 a (fZ C d a)) d (.xd [(name,y)])) s2.heap h':=by
  have na:∀ b,H2 b=none->b≠a:=λb z y=>by rw[y,ea] at z;cases z
  have nd':∀ b o,s2.heap.get? b=some o->b≠d:=λb o z y=>absurd (uI (um z) (y ▸ g1)) (Uc _);have nx:∀ b o,H2 b=some o->b≠d:=λb o z y=>by rw[y,hn] at z;cases z
  refine⟨λb o z n _ _=>g4 b o (na b n) z,λb o z n _ _=>⟨o.slots,g4 b o (na b n) z⟩,λb o z n _=>by rw[zp (nd' b o z),zp (na b n)];exact n,λb o z _=>?_,λb xs z=>?_,λb o u z=>?_,λb ps z=>⟨#[],?_⟩⟩
  ·by_cases hb:b=a
   ·rw[hb];exact⟨_,g2⟩
   ·exact⟨o,g4 b o hb z⟩
  all_goals
   have nb:b≠a:=λy=>by rw[y,ea] at z;cases z
   rw[zp (nx b _ z),zp nb,z]
  simp
 refine I2.un u λb o z=>?_;by_cases hb:b=d
 ·subst hb;rw[zI] at z;cases z;refine⟨_,g3,λf=>?_⟩;by_cases hf:f=name
  ·subst hf;simp only[uC];simpa[List.lookup,cI] using ry
  ·have:(f == name)=false:=Ut.mpr hf;simp only[ux hf,List.lookup,this];trivial
 ·rw[zp hb] at z;by_cases hb2:b=a
  ·subst hb2;rw[zI] at z;cases z;exact NS g2 h1
  ·rw[zp hb2] at z;have nown:∀ c y,H2 c=some (.own y)->c≠a:=λc y r q=>by rw[q,ea] at r;cases r
   have ntup:∀ c y,H2 c=some (.tup y)->c≠a:=λc y r q=>by rw[q,ea] at r;cases r
   have nx:∀ b o,H2 b=some o->b≠d:=λb o z y=>by rw[y,hn] at z;cases z
   refine(I2.hok b o z).stay (λc v hc q=>g4 c v ?_ q) (λc q=>by rw[zp (nx c _ q),zp (nown c _ q)];exact q) λc xs q=>by rw[zp (nx c _ q),zp (ntup c _ q)];exact q
   rcases hc with rfl | hc
   ·exact hb2
   ·exact nown c _ hc
def E6 (te:TE):TE:=λU H Q=>te U H λv H1=>((∃ n:Int,v=.int n/\0<=n/\n<1000000)\/∃ z:Str,v=.str z/\z.length<=1000000)/\∀ y,Q (.str y) H1
def Ao {a:Str}(he:PE X e te)(ha:a.length<=1000:=by decide +kernel):PE X (.JoinedStr [.Constant (.str a) j q1,.FormattedValue e (-1) none q2] q3) (E6 te):=by
 intro Lk s U H Q I h;refine JoinedStr_many (Hw (Calls.Constant_str ⟨?_,?_⟩))
 ·rw[GU,uD];show 0+a.length<=_;lia
 refine Hw (FormattedValue_plain (aX (he Lk _ U H _ (I.tok _) h) λu s1 zq=>?_));let⟨v,H1,I1,r,hv,q⟩:=zq
 have fin:∀ (y:Str) (tk:Nat),y.length<=1000001->(Str.empty++a++y).length<=sizeLine/\Lb X (joinParts (Str.empty++a++y) []) (EP X Lk U Q) X.xe { s1 with toks:=tk }:=λy tk hy=>by
  have hz:(Str.empty++a++y).length<=sizeLine:=by rw[GU,GU,uD];show 0+a.length+y.length<=_;lia
  exact⟨hz,joinParts_nil ⟨.str _,H1,I1.tok _,⟨_,rfl⟩,q _⟩ hz⟩
 rcases hv with⟨n,rfl,n0,n1⟩ | ⟨z,rfl,hz⟩
 ·let⟨tk,rfl⟩:=r;refine formatField_int_small (Xe n0 n1) (fin _ _ ?_);have e1:=int_text_length_le10 (a:=n) (k:=7) aA aB;show(Str.ofString (toString n)).length<=_;rw[PySem.ofString_length];lia
 ·let⟨tk,rfl⟩:=r;exact formatField_str (λt' tk'=>fin _ _ aB) (by rw[uD];lia)
end
def Ei (C:Addr)(f:Str)(pay:V->Prop):Sp:=λvs H Q _=>∃ a v,vs=[.ref a,v]/\H a=some (fk C a)/\pay v/\∀ d,H d=none->d≠a->Q .non (upd (upd H a (fZ C d a)) d (.xd [(f,v)]))
def rf (v:V):Prop:=(∃ n:Int,v=.int n/\0<=n/\n<1000000)\/∃ z:Str,v=.str z/\z.length<=1000000
structure lP (P:Program)(w:World)(K:Frag)(mg:La)(base:Heap)(x:Str)(C:Addr)(f:Str)(pay:V->Prop):Prop where
 gl:mg x=some (.ref C)
 cl:dw K C
 kp:keepIn K (.ref C)=true
 ex:∃ (fI:Addr) (fd:FuncData) (oI:Obj) (ps:Lh),yN K C=some (some (.ref fI))/\K.lookup fI=some oI/\oI.cls=.type "function"/\Binds K fd ps []/\dA P w K mg base mE 1 fI fd ps (Ei C f pay)
def Qo {K:Frag}{C:Addr}{f p:Str}{a:Addr}{v:V}{H:Hp}{Q:VK}(ea:H a=some (fk C a))(hp:rf v)(q:∀ d,H d=none->d≠a->Q .non (upd (upd H a (fZ C d a)) d (.xd [(f,v)]))) :
  mT (Al (pK (Ap C) (Yi (eP 0) (Yi (E6 (eP 1)) fJ)))) (B4 K C (eP 0) (eP 1) f) { nx:=λ_ H'=>Q .non H',rt:=Q } (start ["self",p] [.ref a,v]) H:=
 ⟨.ref a,rfl,v,rfl,hp,λy=>⟨a,.str y,rfl,ea,v,rfl,.ref a,rfl,a,rfl,ea,λd h1 h2=>q d h1 h2⟩⟩
section
variable {X:Cx} {E:XS} {C:Addr} {x f:Str} {pay:V->Prop} {e:Expr} {es:Lg} {t:TA} {np cpos pos:Pos} {j:Nat}
def DL (C:Addr)(f:Str)(pay:V->Prop)(E:XS)(t:TA):TS:=λ_ U H=>t U H λvs H1=>∃ v,vs=[v]/\pay v/\∀ d H2,aM H1 H2->H1 d=none->H2 d=some (.xd [(f,v)])->E (.ref C) (some d) U H2
def zdR (hx:lL X E)(R:lP X.prog X.w X.K X.mg X.base x C f pay)(hr:bT j X.A)(hj:2<=j)(ha:PA X (e::es) t)(hg:Gl X x:=by rfl) (hdb:(x == ("__debug__":Str))=false:=by decide) (he:starEach (e::es) X.env=(false,eval e X.env)::starEach es X.env:=by rfl) (hpl:(backTo cpos (starEach es X.env)).any (·.1)=false:=by rfl) : PS X (.Raise (some (.Call (.Name x np) (e::es) [] cpos)) none pos) (DL C f pay E t):=by
 intro Lk s U H D I h;have c:=R.cl;rw[arm_exec_Raise];refine ua (UI (Xj (C:=C) (K:=X.K) hr.hd ?_));refine ua (uG (Q:=λv T9=>∃ x dd vs sl,v=.ref x/\X.K.In T9.heap/\dw X.K C/\T9.heap.get? x=some ⟨.ref C,dd,.fields vs,sl⟩/\vs[1]? = some .none/\X.xe (.ref x) T9) ?_ (λv T9 T3=>ua (UI (uh T3))) λ_ _ z=>z);refine Uv (xu I hg R.gl ?_ hdb);refine gA (h₀:=X.base) I.ok.mod.kin R.kp (aX (ha cpos Lk s U H _ I h) λus s1 ⟨vs,H1,I1,r,v,hvs,hp,q⟩=>⟨I1.kIn,?_⟩) he hpl;subst hvs;let⟨u,rfl,rv⟩:=vals1 r;let⟨fI,fd,oI,ps,i1,i2,i3,hb,F⟩:=R.ex;refine zdI I1.kIn c.sh i1 i2 i3 (by show 1<=_;rw[uD];decide) λh' a g1 g2=>?_;let⟨t0,z1,_,_⟩:=g2.there;have n1:=I1.hok.fresh g1;have I2:Inv X Lk U (upd H1 a (fk C a)) { s1 with heap:=h' }:=I1.laid (t':=s1.toks) g2.keeps g1 (DM (t:=t0) z1 rfl ⟨rfl,rfl,rfl⟩)
 have hsp:Ei C f pay [.ref a,v] (upd H1 a (fk C a)) (λw2 H2=>w2=.non/\∃ d,upd H1 a (fk C a) d=none/\d≠a/\H2=upd (upd (upd H1 a (fk C a)) a (fZ C d a)) d (.xd [(f,v)])) E0:=
  ⟨a,v,rfl,zI,hp,λd q1 q2=>⟨rfl,d,q1,q2,rfl⟩⟩
 have r2:Vals [V.ref a,v] [Value.ref a,u]:=.cons rfl (.cons rv .nil);have hb':=hb { s1 with heap:=h' } [.ref a,u] I2.kIn (by rw[<-F.len _ _ _ _ hsp];rfl);refine UO (gx (F.run (X.A.under (.builtin "type.__call__" ⟨.ref C::[u],[]⟩)) X.stack { s1 with heap:=h' } _ ⟨[.ref a,u],[]⟩ _ _ _ _ ((hr.mono hj).make C [u] []) (I2.eX.make C [u] []) hb' (by simpa using r2) hsp) λr s' hq=>?_);rcases r with er | fl
 ·exact False.elim hq
 cases fl with
 | next=>exact False.elim hq
 | brk=>exact False.elim hq
 | cont=>exact False.elim hq
 | ret w2=>
  let⟨v2,H2,I3,rv2,rfl,d,q1,q2,rfl⟩:=I2.after hq;refine⟨rv2,a,some d,?_⟩;have hx1:zN X.prog X.w (upd (upd (upd H1 a (fk C a)) a (fZ C d a)) d (.xd [(f,v)])) s'.heap a (fZ C d a):=I3.hok a _ (by rw[zp (Ne.symm q2),zI]);let⟨⟨vs',sl',e1,e2⟩,_⟩:=hx1;refine⟨vs',sl',rfl,I3.kIn,c,e1,e2.1,hx _ _ ?_⟩;have np:∀ q∈X.pn,q.1≠a:=λq hq y=>by have:=(I1.pin q (uW _ hq)).1;exact absurd (uI (um this) (y ▸ g1)) (Uc _)
  have q1':H1 d=none:=by rw[zp q2] at q1;exact q1
  have sa:aM H1 (λb=>if b=a then none else upd (upd (upd H1 a (fk C a)) a (fZ C d a)) d (.xd [(f,v)]) b):=λb o hb=>by
   have ba:b≠a:=λy=>by rw[y,n1] at hb;cases hb
   have bd:b≠d:=λy=>by rw[y,q1'] at hb;cases hb
   simp only[ux ba];rw[zp bd,zp ba,zp ba];exact hb
  refine⟨a,.ref C,some d,_,[],U,rfl,?_,uZ I1.sz g1,?_,np,.inl ⟨sl',vs',e1,e2.1,λ_=>e2.2.1⟩,q d _ sa q1' ?_⟩
  ·have I4:Inv X [] U (upd (upd (upd H1 a (fk C a)) a (fZ C d a)) d (.xd [(f,v)])) s':=I3.pins_of λp hp=>absurd hp aD
   have key:∀ b o,(λb=>if b=a then none else upd (upd (upd H1 a (fk C a)) a (fZ C d a)) d (.xd [(f,v)]) b) b=some o->b≠a/\upd (upd (upd H1 a (fk C a)) a (fZ C d a)) d (.xd [(f,v)]) b=some o:=λb o z=>by
    by_cases hb:b=a
    ·simp[hb] at z
    ·simp only[ux hb] at z;exact⟨hb,z⟩
   have back:∀ b o,b≠a->upd (upd (upd H1 a (fk C a)) a (fZ C d a)) d (.xd [(f,v)]) b=some o->(λb=>if b=a then none else upd (upd (upd H1 a (fk C a)) a (fZ C d a)) d (.xd [(f,v)]) b) b=some o:=λb o hb z=>by simp only[ux hb];exact z
   have nex:∀ b o,upd (upd (upd H1 a (fk C a)) a (fZ C d a)) d (.xd [(f,v)]) b=some o->(∀ φ,o≠.ext φ)->b≠a:=λb o z no y=>by rw[y,zp (Ne.symm q2),zI] at z;cases z;exact no _ rfl
   refine I4.step (h':=s'.heap) (g':=s'.gens) (t':=s'.toks) (d':=s'.drawn) (ch:=[]) (λ_ z=>absurd z aD) (λb o _ _ _ z _=>z) (λb o _ _ _ z _=>⟨o.slots,z⟩) (λb o _ _ z=>?_) (λb o _ z=>⟨o,z⟩) (λb xs z=>back b _ (nex b _ z λ_ y=>by cases y) z) (λb o u z=>back b _ (nex b _ z λ_ y=>by cases y) z)
    (λb ps z=>⟨#[],by rw[Array.append_empty];exact back b _ (nex b _ z λ_ y=>by cases y) z⟩) (λm z=>z) (λb o z=>?_) I4.bare
   ·by_cases hb:b=a
    ·simp[hb]
    ·simp only[ux hb];exact z
   ·let⟨hb,z⟩:=key b o z;exact(I4.hok b o z).stay (λ_ _ _ y=>y) (λc y=>back c _ (nex c _ y λ_ y=>by cases y) y) λc xs y=>back c _ (nex c _ y λ_ y=>by cases y) y
  ·simp
  ·simp only[ux q2];rw[zI]
end
section
variable {X:Cx} {Lk:Li} {U:St} {H:Hp} {s:Shared}
def mw (X:Cx)(b:Addr):Prop:=X.s₀.heap.objs.size<=b/\b≠X.env.locals/\(∀ x c,X.env.cells.lookup x=some c->c≠b)/\∀ p∈X.pn,p.1≠b
def ZI (I:Inv X Lk U H s){b:Addr}{o:Obj}{vs:Array Value}(e:s.heap.get? b=some o)(hd:o.data=.fields vs)(h0:X.s₀.heap.objs.size<=b)(hp:∀ p∈X.pn,p.1≠b):mw X b:=by
 refine⟨h0,λz=>?_,λx c hc z=>?_,hp⟩
 ·let⟨m,⟨o',es,ep,e',d',_⟩,_⟩:=I.loc;rw[<-z,e] at e';cases e';rw[hd] at d';cases d'
 ·let⟨v,o',e',d'⟩:=I.cell x c hc;rw[z,e] at e';cases e';rw[hd] at d';cases d'
def Yq (I:Inv X Lk U H s){b:Addr}(h:s.heap.objs.size<=b):mw X b:=by
 refine⟨uZ I.sz h,λz=>absurd I.lt (by rw[<-z];exact Nat.not_lt.mpr h),λx c hc z=>?_,λp hp z=>?_⟩
 ·let⟨v,o',e',d'⟩:=I.cell x c hc;exact absurd (uI (um e') (z ▸ h)) (Uc _)
 ·have:=(I.pin p (uW _ hp)).1;exact absurd (uI (um this) (z ▸ h)) (Uc _)
def Inv.kp {h':Heap}{H':Hp}{ch:Ld}(I:Inv X [] U H s)(k:Kp ch (d6 X.stack) s.heap h')(hc:∀ b∈ch,mw X b/\H b=none)(hH:∀ b,b∉ch->H' b=H b)(hok:dk X.prog X.w H' h'):Inv X [] U H' { s with heap:=h' }:=by
 have nt:∀ b o,H b=some o->b∉ch:=λb o z y=>by rw[(hc b y).2] at z;cases z
 refine I.step (h':=h') (g':=s.gens) (t':=s.toks) (d':=s.drawn) (ch:=ch) (λb hb=>?_) (λb o n1 n2 n3 z _=>?_) (λb o n1 n2 n3 z _=>k.slot b o n3 z) (λb o n3 z n=>by rw[hH b n3];exact n) (λb o n3 z=>let ⟨sl,q⟩:=k.slot b o n3 z;⟨_,q⟩)
  (λb xs z=>by rw[hH b (nt b _ z)];exact z) (λb o u z=>by rw[hH b (nt b _ z)];exact z) (λb ps z=>⟨#[],by rw[hH b (nt b _ z),Array.append_empty];exact z⟩) (λm hm=>?_) hok I.bare
 ·let⟨a1,a2,a3,a4⟩:=(hc b hb).1;exact⟨.inr a1,a2,a3,λp hp=>(uo.mp hp).elim (a4 p) λz=>absurd z aD⟩
 ·exact k.keep b o n3 (λy=>(uw.mp (I.stkSub b y)).elim n1 n2) z
 ·let⟨o,es,ep,ho,r⟩:=hm;let⟨sl,q⟩:=k.slot _ o (λz=>(hc _ z).1.2.1 rfl) ho;exact⟨_,es,ep,q,r⟩
def Inv.lost {h':Heap}{tk:Nat}{m':La}(I:Inv X Lk U H s)(hn:h'.Ns X.env.locals m')(hs:Heap.SameBut X.env.locals s.heap h'):Inv X Lk (U.map λ_=>none) H { s with heap:=h',toks:=tk }:=by
 have lt:∀ b o,X.s₀.heap.get? b=some o->b≠X.env.locals:=λb o e=>Up (uI (um e) I.ok.above);refine⟨I.ok,I.os,I.bare,⟨λb o e n hb hx=>?_,λb o e n hb hx=>?_,I.base.free,λb o e hx=>?_,I.base.tups,I.base.aL,I.base.tbls⟩,⟨_,hn,λj y v' e1 e2 e3=>?_⟩,λy c e=>?_,I.free,I.freeC,λp hp=>?_,λb ob e=>?_,by simpa using I.len⟩
 ·exact(hs.2 b (lt b o e)).trans (I.base.keep b o e n hb hx)
 ·let⟨sl,e1⟩:=I.base.slot b o e n hb hx;exact⟨sl,(hs.2 b (lt b o e)).trans e1⟩
 ·let⟨o',e1⟩:=I.base.there b o e hx;exact⟨o',(hs.2 b (lt b o e)).trans e1⟩
 ·rw[uE] at e2;cases q:U[j]? with
  | none=>rw[q] at e2;cases e2
  | some z=>rw[q] at e2;cases e2
 ·let⟨w',z⟩:=I.cell y c e;exact⟨w',z.sameBut hs (I.cne y c e)⟩
 ·let⟨e,n,ne,nf,d⟩:=I.pin p hp;exact⟨(hs.2 p.1 ne).trans e,n,ne,nf,d⟩
 ·refine(I.hok b ob e).stay (λc w' hc q=>(hs.2 c ?_).trans q) (λ_ q=>q) λ_ _ q=>q;rintro rfl;rcases hc with rfl | hc
  ·rw[I.free] at e;cases e
  ·rw[I.free] at hc;cases hc
abbrev Cx.tryIn (X:Cx)(pn:Li)(xe:Lj):Cx:={ X with pn:=pn,xe:=xe }
abbrev Cx.exInG (X:Cx)(pn:Li)(ea:Addr)(xe:Lj):Cx:={ X with pn:=pn,A:=X.A.mark (some (.ref ea)),calm:=false,xe:=xe }
abbrev Cx.exIn (X:Cx)(pn:Li)(ea:Addr):Cx:=X.exInG pn ea λ_ _=>False
theorem Cx.Ok.tryIn (ok:X.Ok)(pn:Li)(xe:Lj):(X.tryIn pn xe).Ok:= ⟨ok.mod,ok.kind,ok.glob,ok.blt,ok.above,ok.inj,ok.has,ok.cab,ok.hd,ok.frames,ok.stk,ok.exf,ok.bs,ok.bsz,ok.noex,ok.exfs,ok.funs,ok.frf⟩
def Cx.Ok.exIn (ok:X.Ok)(pn:Li)(ea:Addr)(xe:Lj):(X.exInG pn ea xe).Ok:=
 ⟨ok.mod,ok.kind,ok.glob,ok.blt,ok.above,ok.inj,ok.has,ok.cab,λz=>absurd (show false=true from z) aA,ok.frames,ok.stk,ok.exf,ok.bs,ok.bsz,ok.noex,ok.exfs,ok.funs,ok.frf⟩
theorem Inv.tryIn (I:Inv X Lk U H s)(xe:Lj):Inv (X.tryIn (X.pn++Lk) xe) [] U H s:=⟨I.ok.tryIn _ _,I.os,I.bare,I.base,I.loc,I.cell,I.free,I.freeC,λp hp=>I.pin p (by simpa using hp),I.hok,I.len⟩
def Inv.untry {xe:Lj}(ok:X.Ok)(I:Inv (X.tryIn (X.pn++Lk) xe) [] U H s):Inv X Lk U H s:=⟨ok,I.os,I.bare,I.base,I.loc,I.cell,I.free,I.freeC,λp hp=>I.pin p (by simpa using hp),I.hok,I.len⟩
def Inv.toEx {xe xe':Lj}(ok:X.Ok)(ea:Addr)(I:Inv (X.tryIn (X.pn++Lk) xe) [] U H s):Inv (X.exInG (X.pn++Lk) ea xe') [] U H s:=⟨ok.exIn _ _ _,I.os,I.bare,I.base,I.loc,I.cell,I.free,I.freeC,I.pin,I.hok,I.len⟩
def Inv.unEx {ea:Addr}(ok:X.Ok)(I:Inv (X.exInG (X.pn++Lk) ea xe) [] U H s):Inv X Lk U H s:=⟨ok,I.os,I.bare,I.base,I.loc,I.cell,I.free,I.freeC,λp hp=>I.pin p (by simpa using hp),I.hok,I.len⟩
end
def vE (H:Hp)(a C:Addr)(d:Option Addr):Prop:=∃ o,H a=some (.aV o (.own a))/\o.cls=.ref C/\o.dict=d/\∃ vs,o.data=.fields vs
def Pla (H:Hp)(a:Addr):Prop:=∃ o vs,H a=some (.aV o (.own a))/\o.data=.fields vs/\vs[2]? = some .none
noncomputable abbrev Ma (D:Ends):Ends:={ nx:=λT4 H2=>D.nx (T4.map λ_=>none) H2,rt:=D.rt,bk:=λT4 H2=>D.bk (T4.map λ_=>none) H2,ct:=λT4 H2=>D.ct (T4.map λ_=>none) H2 }
def pB (K:Frag)(Dc:Addr)(i:Nat)(tb:XS->TS)(th:TS):TS:=λD U H=>
 tb (λc d U' H'=>∃ C,c=.ref C/\dw K C/\mroIn K C (.ref Dc)=some true/\∀ ea H2,aM H' H2->vE H2 ea C d->th { nx:=λT4 H2=>D.nx (T4.map λ_=>none) H2,rt:=D.rt,bk:=λT4 H2=>D.bk (T4.map λ_=>none) H2,ct:=λT4 H2=>D.ct (T4.map λ_=>none) H2 } (U'.set i (some (.ref ea))) H2) D U H
section
variable {X:Cx} {Dc:Addr} {x n:Str} {i:Nat} {tb:XS->TS} {th:TS} {body suite:List Stmt} {TQ:Stmt} {np hpos pos:Pos}
def BZ (X:Cx)(ea:Addr)(n:Str)(hpos:Pos)(e:Value)(s3:Shared):Prop:=
 wpAny (model X.prog X.w) (X.A.mark (some (.ref ea))) (noteFrame e X.env) (λ_ s4=>wpAny (model X.prog X.w) (X.A.mark (some (.ref ea))) (do bindName X.env n .none;unbindBehindTheSuite X.env n hpos)
  (λ_ s5=>wpAny (model X.prog X.w) (X.A.mark (some (.ref ea))) (PySem.passOn "try.except-as" e X.env:Sem Flow) (λ_ _=>False) (notedBy (model X.prog X.w) (X.A.mark (some (.ref ea))) X.env (cameBackBy (model X.prog X.w) X.A X.env X.xe)) s5)
  (λy s5=>wpAny (model X.prog X.w) (X.A.mark (some (.ref ea))) (setFlight e none) (λ_ s6=>(notedBy (model X.prog X.w) (X.A.mark (some (.ref ea))) X.env (cameBackBy (model X.prog X.w) X.A X.env X.xe)) y s6) (notedBy (model X.prog X.w) (X.A.mark (some (.ref ea))) X.env (cameBackBy (model X.prog X.w) X.A X.env X.xe)) s5) s4)
  (notedBy (model X.prog X.w) (X.A.mark (some (.ref ea))) X.env (cameBackBy (model X.prog X.w) X.A X.env X.xe)) s3
def S1 {th:Addr->TS}{xe':Li->Addr->Lj}{Lk:Li}{s:Shared}{U:St}{H:Hp}{D:Ends}{Ex:XS}(hm:X.mg x=some (.ref Dc))(cD:dw X.K Dc)(hN:X.N.Nodup)(hi:X.N[i]? = some n)(hl:X.env.scope.names.lookup n=some .local)(hst:X.stack=X.env::X.outer)(hf:X.env.frame=some X.env.locals) (hb:∀ (E:XS) (pn:Li) (xe:Lj),PassesOwn (model X.prog X.w) X.A X.env xe->lL (X.tryIn pn xe) E->eC (X.tryIn pn xe) body (tb E)) (hh:∀ pn ea,eC (X.exInG pn ea (xe' pn ea)) (TQ::suite) (th ea)) (hxe:∀ ea e s3,xe' (X.pn++Lk) ea e s3->BZ X ea n hpos e s3) (hg:Gl X x) (hdb:(x == ("__debug__":Str))=false) (I:Inv X Lk U H s) (h:tb Ex D U H) (hE:∀ c d U' H',Ex c d U' H'->∃ C,c=.ref C/\dw X.K C/\mroIn X.K C (.ref Dc)=some true/\∀ ea H2,aM H' H2->vE H2 ea C d->(One H' d->Pla H2 ea)->th ea (Ma D) (U'.set i (some (.ref ea))) H2) : Lb X (exec (.Try body [.ExceptHandler (some (.Name x np)) (some n) (TQ::suite) hpos] [] [] pos) X.env) (SP X Lk D) X.xe s:=by
 refine wpAny_Try_except ?_
 refine uG (hb _ (X.pn++Lk) (λe T9=>Lb X (noteFrame e X.env) (λ_ TU=>Lb X (setFlight e none) (λ_ TX=>
  Lb X (handleBy e X.env [.ExceptHandler (some (.Name x np)) (some n) (TQ::suite) hpos]) (SP X Lk D) X.xe TX) X.xe TU) X.xe T9) PassesOwn.looking ?_ [] s U H D (I.tryIn _) h) (λf s1 q=>?_) λe s1 z=>z
 ·intro e s' hF;let⟨ea,c,d,H',pins',U',rfl,I1',hea,hHe,hpn,hv,hEx⟩:=hF;let⟨C,rfl,cC,hmr,hth⟩:=hE _ _ _ _ hEx;have I1:Inv (X.tryIn (X.pn++Lk) _) [] U' H' s':=I1'.pins_of λp hp=>absurd hp aD;clear I1';have hfr:X.A.frames=some (X.env::X.outer):=by rw[<-hst];exact I.ok.frames
  have hlf:s'.heap.FunFrames X.base (X.env::X.outer):=by rw[<-hst];exact I1.stack
  have hfree:∀ b∈d6 (X.env::X.outer),H' b=none:=by rw[<-hst];exact I1.stkFree
  have go:∀ (h2:Heap) (T:Addr) (ch:Ld),(s'.heap.objs.size<=T\/True)->fG (One H' d) h2 ea T (.ref C) d .none->Kp ch (d6 (X.env::X.outer)) s'.heap h2->ea∈ch->T∈ch->(∀ b∈ch,mw (X.tryIn (X.pn++Lk) λ_ _=>True) b/\H' b=none) ->
    Lb X (handleBy (.ref ea) X.env [.ExceptHandler (some (.Name x np)) (some n) (TQ::suite) hpos]) (SP X Lk D) X.xe { s' with heap:=h2 }:=by
   intro h2 T ch g1 g2 g3 m1 m2 g4
   have I2:Inv (X.tryIn (X.pn++Lk) _) [] U' H' { s' with heap:=h2 }:=I1.kp (by rw[hst];exact g3) (λb hb=>⟨(g4 b hb).1,(g4 b hb).2⟩) (λ_ _=>rfl) (I1.hok.kp g3 (λb hb=>(g4 b hb).2) hfree)
   have I3:=I2.toEx (xe':=xe' (X.pn++Lk) ea) I.ok ea
   let⟨sl,vs,oT,ts,he,hv1,tn,hT,hd,h3,_⟩:=id g2
   refine wpAny_handleBy_cons (codeAny_handlers_test (xu (X:=X.exInG (X.pn++Lk) ea (xe' (X.pn++Lk) ea)) I3 hg hm ?_ hdb)) (by intro q;cases q)
   refine zcz (s:={ s' with heap:=h2 }) I3.kIn he rfl cC cD hmr ?_
   refine codeAny_handlers_suite_as ?_
   refine jF (s:={ s' with heap:=h2 }) g2 λh4 f1 f2 f3=>?_
   let⟨sl4,vs4,oT4,ts4,he4,_,_,_,_,_,hp4⟩:=id f1
   have I4:Inv (X.exInG (X.pn++Lk) ea (xe' (X.pn++Lk) ea)) [] U' (upd H' ea (.aV ⟨.ref C,d,.fields vs4,sl4⟩ (.own ea))) { s' with heap:=h4 }:=by
    have k:Kp [ea,T] (d6 X.stack) h2 h4:=f2.mono (λb hb=>uk _ hb) (λb hb=>absurd hb aD)
    refine Inv.kp (s:={ s' with heap:=h2 }) I3 k (λb hb=>?_) (λb hb=>?_) λb o z=>?_
    ·have:b∈ch:=by
      rcases uw.mp hb with z | z
      ·rw[z];exact m1
      ·rw[show b=T by simpa using z];exact m2
     exact⟨(g4 b this).1,(g4 b this).2⟩
    ·exact zp λz=>hb (by simp[z])
    ·by_cases hb:b=ea
     ·subst hb
      rw[zI] at z
      cases z
      exact⟨he4,⟨_,he4⟩⟩
     ·rw[zp hb] at z
      have nT:∀ c u,H' c=some u->c∉[T]:=λc u q y=>by
       rw[show c=T by simpa using y,(g4 T m2).2] at q;cases q
      have ne:∀ c u,H' c=some u->c≠ea:=λc u q y=>by rw[y,hHe] at q;cases q
      refine(I2.hok b o z).stay (λc u hc q=>?_) (λc q=>by rw[zp (ne c _ q)];exact q) λc xs q=>by rw[zp (ne c _ q)];exact q
      rcases hc with rfl | hc
      ·exact f2.keep _ u (nT _ _ z) aD q
      ·exact f2.keep _ u (nT _ _ hc) aD q
   refine ZE (X:=X.exInG (X.pn++Lk) ea (xe' (X.pn++Lk) ea)) I4 hN hi (.inl hl) (v:=.ref ea) rfl (λs5 I5=>?_) (.inr hl)
   have hsm:aM H' (upd H' ea (.aV ⟨.ref C,d,.fields vs4,sl4⟩ (.own ea))):=λb o q=>by rw[zp λy=>by rw[y,hHe] at q;cases q];exact q
   refine uG (hh (X.pn++Lk) ea [] s5 _ _ _ I5 (hth ea _ hsm ⟨_,zI,rfl,rfl,_,rfl⟩ λz=>⟨_,_,zI,rfl,hp4 z⟩)) (λf s6 q=>?_) λe s6 z=>hxe ea e s6 z
   have gone:∀ T2 H6,Inv (X.exInG (X.pn++Lk) ea (xe' (X.pn++Lk) ea)) [] T2 H6 s6->(∀ s7,Inv X Lk (T2.map λ_=>none) H6 s7->SP X Lk D f s7)->Lb X (do bindName X.env n .none;unbindBehindTheSuite X.env n hpos) (λ_ s7=>SP X Lk D f s7) X.xe s6:=by
    intro T2 H6 J k
    let⟨m,hn,_⟩:=J.loc
    exact wpAny_nameGoes hl hn (by rw[J.ok.kind];rfl) λh' m' z1 z2=>k _ ((J.unEx I.ok).lost z1 z2)
   cases f with
   | next=>let⟨T2,H6,J,q⟩:=q;exact gone T2 H6 J λs7 J'=>⟨_,H6,J',q⟩
   | brk=>let⟨T2,H6,J,q⟩:=q;exact gone T2 H6 J λs7 J'=>⟨_,H6,J',q⟩
   | cont=>let⟨T2,H6,J,q⟩:=q;exact gone T2 H6 J λs7 J'=>⟨_,H6,J',q⟩
   | ret u=>let⟨v,T2,H6,J,r,q⟩:=q;exact gone T2 H6 J λs7 J'=>⟨v,_,H6,J',r,q⟩
  rcases hv with⟨sl,vs,he,h1,hp⟩ | ⟨T0,fl,hF,hfl,hT,hHT,hpT⟩
  ·refine JB hfr hlf hf he h1 hp λh1' T g1 g2 g3=>jF (s:={ s' with heap:=h1' }) g2 λh2 f1 f2 f3=>?_;refine go h2 T ([ea]++[T]) (.inr trivial) f1 (g3.trans (f2.mono (λ_ z=>z) λb z=>absurd z aD)) aD aD λb hb=>?_;rcases uo.mp hb with z | z
   ·rw[show b=ea by simpa using z];exact⟨ZI I1 he rfl hea hpn,hHe⟩
   ·rw[show b=T by simpa using z];exact⟨Yq I1 g1,I1.hok.fresh g1⟩
  ·let⟨sl,vs,oT,ts,he,hv1,tn,hTT,hd,h3,_⟩:=id hF;rcases hfl with hfl | ⟨L,hL,rfl⟩;rotate_left
   ·refine Xi (by exact hL) hF (jF hF λh2 f1 f2 f3=>go h2 T0 [T0,ea] (.inr trivial) f1 (f2.mono (λb z=>by rw[show b=T0 by simpa using z];exact .head _) λb z=>absurd z aD) aD aD λb hb=>?_);rcases uw.mp hb with z | z
    ·rw[z];exact⟨ZI I1 hTT hd hT hpT,hHT⟩
    ·rw[show b=ea by simpa using z];exact⟨ZI I1 he rfl hea hpn,hHe⟩
   subst hfl;refine Xh hfr hlf hf hF λh1' T g1 g2 g3=>jF (s:={ s' with heap:=h1' }) g2 λh2 f1 f2 f3=>?_;refine go h2 T ([T0,ea]++[T]) (.inr trivial) f1 (g3.trans (f2.mono (λ_ z=>z) λb z=>absurd z aD)) aD aD λb hb=>?_;rcases uo.mp hb with z | z
   ·rcases uw.mp z with z | z
    ·rw[z];exact⟨ZI I1 hTT hd hT hpT,hHT⟩
    ·rw[show b=ea by simpa using z];exact⟨ZI I1 he rfl hea hpn,hHe⟩
   ·rw[show b=T by simpa using z];exact⟨Yq I1 g1,I1.hok.fresh g1⟩
 ·cases f with
  | next=>let⟨U',H',I',q⟩:=q;exact gb ⟨U',H',I'.untry I.ok,q⟩
  | brk=>let⟨U',H',I',q⟩:=q;exact⟨U',H',I'.untry I.ok,q⟩
  | cont=>let⟨U',H',I',q⟩:=q;exact⟨U',H',I'.untry I.ok,q⟩
  | ret u=>let⟨v,U',H',I',r,q⟩:=q;exact⟨v,U',H',I'.untry I.ok,r,q⟩
def NR (hm:X.mg x=some (.ref Dc))(cD:dw X.K Dc)(hN:X.N.Nodup)(hi:X.N[i]? = some n)(hl:X.env.scope.names.lookup n=some .local)(hst:X.stack=X.env::X.outer)(hf:X.env.frame=some X.env.locals)
  (hb:∀ (E:XS) (pn:Li) (xe:Lj),PassesOwn (model X.prog X.w) X.A X.env xe->lL (X.tryIn pn xe) E->eC (X.tryIn pn xe) body (tb E))
  (hh:∀ pn ea,eC (X.exIn pn ea) (TQ::suite) th) (hg:Gl X x:=by rfl) (hdb:(x == ("__debug__":Str))=false:=by decide) :
  PS X (.Try body [.ExceptHandler (some (.Name x np)) (some n) (TQ::suite) hpos] [] [] pos) (pB X.K Dc i tb th):=λLk s U H D I h=>
 S1 (th:=λ_=>th) (xe':=λ_ _ _ _=>False) hm cD hN hi hl hst hf hb hh (λ_ _ _ z=>z.elim) hg hdb I h λ_ _ _ _ ⟨C,e,a,b,k⟩=>⟨C,e,a,b,λea H2 z1 z2 _=>k ea H2 z1 z2⟩
end
structure Got (K:Frag)(H:Hp)(a C:Addr)(fs:List (Str×V)):Prop where
 cl:dw K C
 ex:∃ d,vE H a C (some d)/\H d=some (.xd fs)
def vE.mono (c:vE H a C d)(s:aM H H'):vE H' a C d:=by let⟨o,e,r⟩:=c;exact⟨o,s _ _ e,r⟩
section
variable {X:Cx} {Lk:Li} {U:St} {H:Hp} {s:Shared} {a C:Addr} {fs:List (Str×V)}
def Yr (I:Inv X Lk U H s)(g:Got X.K H a C fs):∃ (ox od:Obj) (mA:La),InstAt s.heap a ox C (some od)/\(∀ f,lookIn f od=some (mA f))/\∀ f,cI (fs.lookup f) (mA f):=by
 let⟨d,⟨o,e,h1,h2,vs,h3⟩,ed⟩:=g.ex;let⟨e',_⟩:=(show zN X.prog X.w H s.heap a (.aV o (.own a)) from I.hok a _ e)
 let⟨mA,n,r⟩:=(show zN X.prog X.w H s.heap d (.xd fs) from I.hok d _ ed)
 let⟨od,ho,hl⟩:=W4 n;let⟨oc,odi,oda,osl⟩:=o;dsimp only at h1 h2 h3;subst h1 h2 h3;exact⟨_,od,mA,⟨e',rfl,rfl,ho⟩,hl,r⟩
noncomputable def rT:V->Bool | .ref _=>true | .ty _=>true | _=>false
noncomputable def lz:V->Value | .ref a=>.ref a | .ty n=>.type n | _=>.none
def Eh (h:rT v=true)(r:RelV v u):u=lz v:=by cases v<;>first | exact r | cases h
theorem Ys:∀ {vs:List V} {us:Lf},vs.all rT=true->Vals vs us->us=vs.map lz
 | _,_,_,.nil=>rfl
 | _,_,h,.cons r t=>by simp only[UW,uS] at h;rw[uA,<-Eh h.1 r,<-Ys h.2 t]
def pO (K:Frag)(te:TE)(f:Str):TE:=λU H Q=>te U H λx H1=>∃ a C fs v,x=.ref a/\Got K H1 a C fs/\findIn K (.ref C) f=some none/\fs.lookup f=some v/\Q v H1
def NQ {K:Frag}{e:Expr}{te:TE}{f:Str}{pos:Pos}(hK:X.K=K)(he:PE X e te)(hb:attributeBase e f X.env (eval e X.env)=eval e X.env:=by rfl):PE X (.Attribute e f pos) (pO K te f):=by subst hK;intro Lk s U H Q I h;refine EV hb (aX (he Lk s U H _ I h) λu s1 zq=>?_);let⟨x,H1,I1,rx,a,C,fs,v,ex,g,n,l,q⟩:=zq;subst ex;obtain rfl:u=Value.ref a:=rx;let⟨ox,od,mA,J,hl,hr⟩:=Yr I1 g;let⟨u,hu,ru⟩:=cI.some_of (v:=v) (o:=mA f) (by rw[<-l];exact hr f);exact S2 I1.kIn J g.cl (findObj_own g.cl.hd n rfl (by rw[hl,hu])) (W5 ru) ⟨v,H1,I1.tok _,ru,q⟩
end
section
variable {X:Cx}
end
section
variable {X:Cx} {k j:Nat} {x:Str} {ps:Lh} {sp:Sp} {p pos:Pos} {e:Expr} {es:Lg} {t:TA} {a:Addr}
end
def WH:bootBuiltins "ValueError" = some (.type "ValueError"):=aE
structure mQ (K:Frag)(C:Addr)(qual:Str)(st:Stmt)(ps:Lh):Prop where
 ex:∃ (fI:Addr) (fd:FuncData) (oI:Obj),yN K C=some (some (.ref fI))/\K.lookup fI=some oI/\oI.cls=.type "function"/\lO K "__init__" qual st fI fd/\Binds K fd ps []
def O7 {K:Frag}{C:Addr}{qual:Str}{st:Stmt}{ps:Lh}{f:Addr}{od an:Option Addr}{osl:Array (Option Value)}{kV doc pm cdv ct:Value} (b:∀ (kV doc pm:Value) (an:Option Addr) (cdv ct:Value) (us:Lf),us.length=ps.length->bindArgs (fnOf "__init__" qual (jN st) (zf st) (zc st) .none kV doc pm an cdv ct) ⟨us,[]⟩=pure (ps.zip us)) (a:yN K C=some (some (.ref f))) (l:K.lookup f=some ⟨.type "function",od,.func (fnOf "__init__" qual (jN st) (zf st) (zc st) .none kV doc pm an cdv ct),osl⟩) (c:codeIn K cdv qual=true) (k:keepIn K (.ref f)=true):mQ K C qual st ps:= ⟨f,_,_,a,l,rfl,yL l c k,(yL l c k).binds b⟩
section
variable {X:Cx}
def Eg:V->List V->Hp->VK->Prop:=λx vs H Q=>∃ l xs i y,x=.ref l/\vs=[.int i,y]/\H l=some (.lst xs)/\0<=i/\i<=xs.length/\xs.length<sizeLine/\Q .non (upd H l (.lst (xs.take i.toNat++y::xs.drop i.toNat)))
def zcC:tY X "list.insert" Eg:=by
 intro Lk s U H x vs v us Q I rx rv h;let⟨l,xs,i,y,rfl,rfl,hH,h0,h1,hz,q⟩:=h;cases rx;let⟨ui,u,rfl,ri,ru⟩:=rv.two;let⟨t,rfl⟩:=ri;let⟨z,its,n,r,hl,e⟩:=I.lstM hH;have hn:=yJ;have hxl:=r.length;refine UN F.slot_list_insert ⟨_,e,rfl⟩ F.entry_list_insert (F.args_list_insert_3 _ _ _) (PySem.AutoListH.list_insert_list_int_val_1 l its.toArray n i t u (by rw[fitsIndex_both aB aB];decide) (by rw[uu];lia)) ⟨e,?_⟩;refine⟨.non,_,I.lset (its':=its.take i.toNat++u::its.drop i.toNat) hH e ?_ ((r.take _).append (.cons ru (r.drop _))) ?_,rfl,q⟩
 ·dsimp only;rw[ux aB];have:min i.toNat its.toArray.size=i.toNat:=by rw[uu];lia
  rw[this];simp;exact gF (by rw[Ud];lia)
 ·simp;lia
end
section
variable {X:Cx} {Lk:Li} {U:St} {H:Hp} {s:Shared} {h':Heap}
def Inv.turned2 (I:Inv X Lk U H s)(k:∀ b o,b≠e->b≠it->s.heap.get? b=some o->h'.get? b=some o)(fe:dR X Lk H e)(fi:dR X Lk H it) : Inv X Lk U H { s with heap:=h',toks:=t' }:=by
 let⟨e0,e1,_,e3,e4,e5⟩:=fe;let⟨i0,i1,_,i3,i4,i5⟩:=fi;have hk:∀ b o,b∉[e,it]->s.heap.get? b=some o->h'.get? b=some o:=λb o hb q=>k b o (λz=>hb (by simp[z])) (λz=>hb (by simp[z])) q
 have nn:∀ b u,H b=some u->b∉[e,it]:=λb u q z=>by
  rcases uw.mp z with z | z
  ·rw[z,e0] at q;cases q
  ·rw[uy.mp z,i0] at q;cases q
 refine I.step (g':=s.gens) (d':=s.drawn) (ch:=[e,it]) ?_ (λb o _ _ hc q _=>hk b o hc q) (λb o _ _ hc q _=>⟨o.slots,hk b o hc q⟩) (λ_ _ _ _ n=>n) (λb o hc q=>⟨o,hk b o hc q⟩)
  (λ_ _ q=>q) (λ_ _ _ q=>q) (λb ps q=>⟨#[],by rw[q];simp⟩) ?_ ?_ I.bare
 ·intro b hb;rcases uw.mp hb with z | z
  ·rw[z];exact⟨e3,e1,e4,e5⟩
  ·rw[uy.mp z];exact⟨i3,i1,i4,i5⟩
 ·intro m hm;let⟨o,es,ep,ho,r⟩:=hm;exact⟨o,es,ep,k _ o (Ne.symm e1) (Ne.symm i1) ho,r⟩
 ·intro b u q;refine(I.hok b u q).stay (λc v hc z=>hk c v ?_ z) (λ_ z=>z) λ_ _ z=>z;rcases hc with z' | z'
  ·rw[z'];exact nn b u q
  ·exact nn c _ z'
end
def nN (go:Nat->Hp->Prop)(yv:Nat->Hp->V->Prop)(stop:Nat->Hp->Prop):It:=⟨go,λi H x H'=>∃ p v,H p=none/\yv i H v/\x=.ref p/\H' = upd H p (.tup [.int i,v]),stop⟩
def zcD {P:Program}{w:World}{K:Le}{elts:Lg}{ek:Nat}{epos:Pos}{e it:Addr}{go:Nat->Hp->Prop}{yv:Nat->Hp->V->Prop}{stop:Nat->Hp->Prop}{tn:Nat->Heap->Prop}(hne:e≠it)
  (hobj:∀ i h,tn i h->∃ o,h.get? it=some o/\∀ v,o.data≠.cell v)
  (hkeep:∀ i h h',tn i h->(∀ o,h.get? it=some o->h'.get? it=some o)->tn i h')
  (hitem:∀ (X:Cx),X.prog=P->X.w=w->X.K=K->X.calm=true->∀ (i:Nat) (Lk:Li) (s:Shared) (U:St) (H:Hp),Inv X Lk U H s->tn i s.heap->go i H->(∃ old,IsEnum s.heap e it i old) ->
   ∃ fp n Pd St,Draws P w X.A.in1 it fp n Pd St/\St i s.heap/\i<n/\e∉fp/\(∀ h,St (i+1) h->tn (i+1) h)/\∀ x,Pd i x->∃ v,RelV v x/\yv i H v)
  (hdone:∀ (X:Cx),X.prog=P->X.w=w->X.K=K->X.calm=true->∀ (i:Nat) (Lk:Li) (s:Shared) (U:St) (H:Hp),Inv X Lk U H s->tn i s.heap->stop i H ->
   ∃ fp n Pd St,Draws P w X.A.in1 it fp n Pd St/\St n s.heap) :
  Turn P w K (.Tuple elts ek epos) (nN go yv stop) [e,it] e (λi h=>(∃ old,IsEnum h e it i old)/\tn i h) where
 mem:=aD
 obj:=λi h st b hb=>by
  rcases uw.mp hb with z | z
  ·let⟨⟨old,q⟩,_⟩:=st
   rw[z]
   exact⟨_,q,λv z=>nomatch z⟩
  ·rw[uy.mp z]
   exact hobj i h st.2
 keep:=λi h h' st k=>by
  let⟨⟨old,q⟩,st⟩:=st
  exact⟨⟨old,k e aD _ q⟩,hkeep i h h' st (k it aD)⟩
 item:=by
  intro X hP hw hK hc i Lk s U H E I hf st hg
  let⟨⟨old,q⟩,st⟩:=st
  let⟨fp,n,Pd,St,D,hs,hlt,hef,hst,hv⟩:=hitem X hP hw hK hc i Lk s U H I st hg ⟨old,q⟩
  refine wpAny_pyNext_enum_itemD D q hs hlt hne hef λx h1 tk hx ho hs1 hT hsz hk=>⟨_,rfl,?_⟩
  let⟨v,rv,yv'⟩:=hv x hx
  have helt:e<s.heap.objs.size:=um q
  refine wpAny_letOwnedTupleGo_enum ho λh2 he2 hs2=>?_
  have hTe:s.heap.objs.size≠e:=G7 helt
  have hT2:h2.get? s.heap.objs.size=some { cls:=.type "tuple",data:=.seq #[.int i tk,x] }:=(hs2.2 _ hTe).trans hT
  have fe:=hf e aD
  have fi:=hf it aD
  have fresh:H s.heap.objs.size=none:=I.hok.fresh (uj _)
  have hit:s.heap.objs.size≠it:=by
   let⟨o,z⟩:=D.live _ _ hs
   exact G7 (um z)
  have I0:=I.laid (t':=s.toks) (a:=s.heap.objs.size) (o:=.tup [.int i,v]) (h':=s.heap.push { cls:=.type "tuple",data:=.seq #[.int i tk,x] }) (λb o z=>uf _ z) (uj _) (by
   refine⟨by show 2<=sizeLine;decide,[.int i tk,x],.cons ⟨tk,rfl⟩ (.cons rv .nil),?_⟩
   exact⟨_,uB _ rfl,rfl,_,rfl⟩)
  have fe0:dR X Lk (upd H s.heap.objs.size (.tup [.int i,v])) e:=⟨by rw[zp (Ne.symm hTe)];exact fe.1,fe.2⟩
  have fi0:dR X Lk (upd H s.heap.objs.size (.tup [.int i,v])) it:=⟨by rw[zp (Ne.symm hit)];exact fi.1,fi.2⟩
  have I2:=I0.turned2 (h':=h2) (t':=tk+1) (e:=e) (it:=it) (λb o hbe hbi z=>by
   by_cases hb:b=s.heap.objs.size
   ·rw[hb] at z |-
    have z':some ({ cls:=.type "tuple",data:=.seq #[.int i tk,x] }:Obj)=some o:=(uB _ rfl).symm.trans z
    rw[hT2];exact z'
   ·have z':s.heap.get? b=some o:=by
     have z2:=z
     rw[Heap.get?_push_ne _ _ _ hb] at z2
     exact z2
    exact(hs2.2 b hbe).trans (hk b o hbe hbi z')) fe0 fi0
  refine⟨.ref s.heap.objs.size,upd H s.heap.objs.size (.tup [.int i,v]),I2,rfl,⟨_,v,fresh,yv',rfl,rfl⟩,⟨⟨_,he2⟩,?_⟩,λb hb=>?_⟩
  ·refine hkeep _ _ _ (hst h1 hs1) λo z=>(hs2.2 it (Ne.symm hne)).trans z
  ·rcases uw.mp hb with z | z
   ·rw[z];exact fe0.1
   ·rw[uy.mp z];exact fi0.1
 done:=by
  intro X hP hw hK hc i Lk s U H E I hf st hg
  let⟨⟨old,q⟩,st⟩:=st
  let⟨fp,n,Pd,St,D,hs⟩:=hdone X hP hw hK hc i Lk s U H I st hg
  have fi:=hf it aD
  refine wpAny_pyNext_enum_endD D q hs λh1 hx=>⟨rfl,I.turned (t':=s.toks) (λb o hb z=>hx b o hb z) fi.1 fi.2.1 fi.2.2.2.1 fi.2.2.2.2.1 fi.2.2.2.2.2⟩
 self:=λA i s Q E st h=>by
  let⟨⟨old,q⟩,_⟩:=st
  exact HU q h
section
variable {X:Cx}
def rX (x:Str):Nat->Hp->Prop:=λi _=>i<x.cps.size
def tu (x:Str):Nat->Hp->V->Prop:=λi _ v=>∃ c,x.cps[i]? = some c/\v=.str ⟨#[c]⟩
def pR (x:Str):Nat->Hp->Prop:=λi _=>x.cps.size<=i
def zah {P:Program}{w:World}{K:Le}{elts:Lg}{ek:Nat}{epos:Pos}{e it:Addr}(hne:e≠it)(x:Str)(t:Tok) : Turn P w K (.Tuple elts ek epos) (nN (rX x) (tu x) (pR x)) [e,it] e (λi h=>(∃ old,IsEnum h e it i old)/\(h.IsStrIter it (strIterType x) x t i/\i<=x.cps.size)):=by
 have dr:∀ A:Around,A.handled=none->Draws P w A it [it] x.cps.size (λi v=>∃ c u,x.cps[i]? = some c/\v=.str ⟨#[c]⟩ u) (λi h=>h.IsStrIter it (strIterType x) x t i):=λA hA=>by
  unfold strIterType;cases ha:x.cps.all (· < 128)
  ·exact Draws.strWide hA it x t
  ·exact Draws.strAscii hA it x t
 refine zcD hne ?_ ?_ ?_ ?_
 ·intro i h st;let⟨o,ho,_,hd⟩:=st.1;exact⟨o,ho,λv z=>by rw[hd] at z;cases z⟩
 ·intro i h h' st k;let⟨⟨o,ho,r⟩,hl⟩:=st;exact⟨⟨o,k o ho,r⟩,hl⟩
 ·intro X hP hw hK hc i Lk s U H I st hg he;refine⟨[it],_,_,_,dr X.A.in1 (I.ok.hd hc),st.1,hg,by simp[hne],λh z=>⟨z,hg⟩,λv hv=>?_⟩;let⟨c,u,hcu,rfl⟩:=hv;exact⟨.str ⟨#[c]⟩,⟨u,rfl⟩,c,hcu,rfl⟩
 ·intro X hP hw hK hc i Lk s U H I st hg;have hi:i=x.cps.size:=Nat.le_antisymm st.2 hg;subst hi;exact⟨[it],_,_,_,dr X.A.in1 (I.ok.hd hc),st.1⟩
def O6 (ta:TA):TI:=λU H R=>ta U H λvs H1=>∃ z,vs=[.str z]/\R (nN (rX z) (tu z) (pR z)) H1
def zdS {a:Expr}{ta:TA}{p pos:Pos}{elts:Lg}{ek:Nat}{epos:Pos}(hg:Gl X "enumerate")(hm:X.mg "enumerate" = none)(ha:PA X [a] ta)(hs:starEach [a] X.env=[(false,eval a X.env)]:=by rfl) : PI X (.Tuple elts ek epos) (.Call (.Name "enumerate" p) [a] [] pos) (O6 ta):=by
 intro Lk s U H R I h;refine Call_ (Qi I hg hm boot_enumerate (PyProof.Rows.callWith_type1 (aX (ha pos Lk s U H _ I h) λus s1 zq=>?_) hs rfl));let⟨vs,H1,I1,r1,q1⟩:=zq;let⟨z,e,q⟩:=q1;subst e;let⟨u,rfl,t,rfl⟩:=r1.one;refine call_enumerate_str λh' he hit hsz hk=>HU he ?_;have hlt:s1.heap.objs.size<=s1.heap.objs.size+1:=UM _;refine⟨s1.heap.objs.size+1,[s1.heap.objs.size+1,s1.heap.objs.size],_,_,H1,rfl,I1.kept (t':=s1.toks) hk,zah (Nat.succ_ne_self _) z t,⟨⟨_,he⟩,hit,u4 _⟩,λb hb=>?_,q⟩
 have hb':s1.heap.objs.size<=b:=by
  rcases uw.mp hb with z | z
  ·rw[z];exact hlt
  ·rw[uy.mp z];exact uj _
 exact I1.fpOk hb' (I1.hok.fresh hb')
end
section
variable {P:Program} {w:World} {K:Le} {mg:La} {base:Heap}
end
section
variable {X:Cx} {k j:Nat} {x:Str} {ps:Lh} {sp:Sp} {p pos:Pos} {e:Expr} {es:Lg} {t:TA}
end
section
variable {X:Cx} {elt iter:Expr} {x x2:Str} {px py pt pos:Pos} {kt:Nat} {ifs:Lg} {scope:Scope} {wi:TI} {tt:TT} {te:TE}
end
section
variable {X:Cx}
end
def Ef:bootBuiltins "list" = some (.type "list"):=aE
section
variable {X:Cx}
def O5:List V->Hp->VK->Prop:=λxs H Q=>∃ l,xs=[.str (S l)]/\l.length<=1000000/\∀ p,H p=none->Q (.ref p) (upd H p (.lst (l.map λc=>.str (S [c]))))
theorem JD:∀ (l:Lc) (us:Lf),us.length=l.length->(∀ (j:Nat) v,us[j]? = some v->∃ (c:Nat) (u:Tok),l[j]? = some c/\v=Value.str ⟨#[c]⟩ u)->Vals (l.map λc=>V.str (S [c])) us
 | [],us,h,_=>by have:us=[]:=HV.mp h;subst this;exact .nil
 | c::l,[],h,_=>by simp at h
 | c::l,v::us,h,hp=>by
  refine .cons ?_ (JD l us (by simpa using h) λj w hj=>?_)
  ·let⟨d,u,e1,e2⟩:=hp 0 v rfl;simp at e1;subst e1;exact⟨u,e2⟩
  ·let⟨d,u,e1,e2⟩:=hp (j+1) w (by simpa using hj);exact⟨d,u,by simpa using e1,e2⟩
def zai (hc:X.calm=true):qD X (.type "list") O5:=by
 intro Lk s U H xs us Q I r h;let⟨l,rfl,hl,q⟩:=h;let⟨u,rfl,t,rfl⟩:=vals1 r;refine call_list_str (I.ok.hd hc) (S l) t (λh' tk acc c' kp e ia=>?_) (by rw[DS,uD];lia);let⟨i1,i2⟩:=ia;rw[DS] at i1;have hv:Vals (l.map λc=>V.str (S [c])) acc.toList:=JD l acc.toList (by simpa using i1) λj v hj=>by let⟨c,u,e1,e2⟩:=i2 j v (by simpa using hj);rw[Lx] at e1;exact⟨c,u,e1,e2⟩
 refine⟨.ref s.heap.objs.size,_,I.laid (t':=tk) kp (uj _) (show zN X.prog X.w _ h' _ (.lst (l.map λc=>V.str (S [c]))) from⟨by rw[ud,uD];lia,acc.toList,c',hv,by simpa using e⟩),rfl,q _ (I.hok.fresh (uj _))⟩
def S0 {K:Frag}(hK:X.K=K):bR X (compareOp .In) (tF K false):=by subst hK;exact zcq
def zaj {K:Frag}(hK:X.K=K):bR X (compareOp .NotIn) (tF K true):=by subst hK;exact X0
def Inv.big' {Lk:Li}{s:Shared}(I:Inv X Lk U H s):sysModules<s.heap.objs.size:=by have h:mainGlobals<s.heap.objs.size:=(I.mod.glob.keeps I.bk).lt;exact Nat.lt_trans aA h
def E7:TE:=λ_ H Q=>∀ p,H p=none->Q (.ref p) (upd H p (.dK []))
def L9:PE X (.Dict [] [] pos) E7:=λLk s U H Q I h=>
 wpAny_Dict_empty ⟨.ref s.heap.objs.size,_,I.laid (a:=s.heap.objs.size) (o:=.dK []) (t':=s.toks) (λ_ _ q=>uf _ q) (uj _) ⟨u4 _,Ut.mpr (Ne.symm (Up I.big')),[],.nil,Heap.DictOf.new s.heap⟩,rfl,h _ (I.hok.fresh (uj _))⟩
end
inductive Dat where
 | fl (v:V)
 | tp (xs:List Dat)
 | ls (xs:List Dat)
mutual
def aP (H:Hp):Dat->V->Prop
 | .fl x,v=>v=x/\zL x=true
 | .tp ds,v=>∃ a vs,v=.ref a/\H a=some (.tup vs)/\bM H ds vs
 | .ls ds,v=>∃ a vs,v=.ref a/\H a=some (.lst vs)/\bM H ds vs
def bM (H:Hp):List Dat->List V->Prop
 | [],vs=>vs=[]
 | d::ds,vs=>∃ v r,vs=v::r/\aP H d v/\bM H ds r
end
mutual
def cB:Dat->Dat->Bool
 | .fl x,.fl y=>lj x y
 | .tp xs,.tp ys=>d3 xs ys
 | .ls xs,.ls ys=>d3 xs ys
 | .fl _,.tp _=>false
 | .fl _,.ls _=>false
 | .tp _,.fl _=>false
 | .tp _,.ls _=>false
 | .ls _,.fl _=>false
 | .ls _,.tp _=>false
def d3:List Dat->List Dat->Bool
 | [],[]=>true
 | x::xs,y::ys=>cB x y&&d3 xs ys
 | [],_::_=>false
 | _::_,[]=>false
end
mutual
def bF:Dat->Nat
 | .fl _=>0
 | .tp xs=>wR xs+1
 | .ls xs=>wR xs+1
def wR:List Dat->Nat
 | []=>0
 | d::ds=>max (bF d) (wR ds)
end
mutual
theorem aP.mono (g:aM H H'):∀ {d:Dat} {v:V},aP H d v->aP H' d v
 | .fl x,v,h=>by simp only[aP] at h |-;exact h
 | .tp ds,v,h=>by simp only[aP] at h |-;let⟨a,vs,e,h1,h2⟩:=h;exact⟨a,vs,e,g _ _ h1,bM.mono g h2⟩
 | .ls ds,v,h=>by simp only[aP] at h |-;let⟨a,vs,e,h1,h2⟩:=h;exact⟨a,vs,e,g _ _ h1,bM.mono g h2⟩
theorem bM.mono (g:aM H H'):∀ {ds:List Dat} {vs:List V},bM H ds vs->bM H' ds vs
 | [],vs,h=>by simp only[bM] at h |-;exact h
 | d::ds,vs,h=>by simp only[bM] at h |-;let⟨v,r,e,h1,h2⟩:=h;exact⟨v,r,e,aP.mono g h1,bM.mono g h2⟩
end
theorem bM.len:∀ {ds:List Dat} {vs:List V},bM H ds vs->ds.length=vs.length
 | [],vs,h=>by simp only[bM] at h;subst h;rfl
 | d::ds,vs,h=>by simp only[bM] at h;let⟨v,r,e,h1,h2⟩:=h;rw[e,uc,uc,bM.len h2]
def Yt (h:zL v=true):lj v v=true:=by cases v<;>first | exact rfl | exact Ug _ | cases h
mutual
theorem JE:∀ {d e:Dat} {v:V},aP H d v->aP H e v->cB d e=true
 | .fl x,.fl y,v,h,k=>by simp only[aP] at h k;let⟨rfl,f⟩:=h;let⟨rfl,_⟩:=k;simp only[cB];exact Yt f
 | .tp xs,.tp ys,v,h,k=>by simp only[aP] at h k;let⟨a,vs,rfl,h1,h2⟩:=h;let⟨b,us,e,k1,k2⟩:=k;cases e;rw[h1] at k1;cases k1;simp only[cB];exact Qp h2 k2
 | .ls xs,.ls ys,v,h,k=>by simp only[aP] at h k;let⟨a,vs,rfl,h1,h2⟩:=h;let⟨b,us,e,k1,k2⟩:=k;cases e;rw[h1] at k1;cases k1;simp only[cB];exact Qp h2 k2
 | .fl x,.tp ys,v,h,k=>by simp only[aP] at h k;let⟨rfl,f⟩:=h;let⟨b,us,rfl,k1,k2⟩:=k;simp[zL] at f
 | .fl x,.ls ys,v,h,k=>by simp only[aP] at h k;let⟨rfl,f⟩:=h;let⟨b,us,rfl,k1,k2⟩:=k;simp[zL] at f
 | .tp xs,.fl y,v,h,k=>by simp only[aP] at h k;let⟨rfl,f⟩:=k;let⟨b,us,rfl,k1,k2⟩:=h;simp[zL] at f
 | .ls xs,.fl y,v,h,k=>by simp only[aP] at h k;let⟨rfl,f⟩:=k;let⟨b,us,rfl,k1,k2⟩:=h;simp[zL] at f
 | .tp xs,.ls ys,v,h,k=>by simp only[aP] at h k;let⟨a,vs,rfl,h1,h2⟩:=h;let⟨b,us,e,k1,k2⟩:=k;cases e;rw[h1] at k1;cases k1
 | .ls xs,.tp ys,v,h,k=>by simp only[aP] at h k;let⟨a,vs,rfl,h1,h2⟩:=h;let⟨b,us,e,k1,k2⟩:=k;cases e;rw[h1] at k1;cases k1
theorem Qp:∀ {ds es:List Dat} {vs:List V},bM H ds vs->bM H es vs->d3 ds es=true
 | [],[],_,_,_=>rfl
 | d::ds,e::es,vs,h,k=>by simp only[bM] at h k;let⟨v,r,rfl,h1,h2⟩:=h;let⟨v',r',e',k1,k2⟩:=k;cases e';simp only[d3,uS];exact⟨JE h1 k1,Qp h2 k2⟩
 | [],e::es,vs,h,k=>by simp only[bM] at h k;subst h;let⟨v',r',e',k1,k2⟩:=k;cases e'
 | d::ds,[],vs,h,k=>by simp only[bM] at h k;subst k;let⟨v',r',e',k1,k2⟩:=h;cases e'
end
mutual
def Yu:Dat->Bool
 | .fl v=>zL v
 | .tp xs=>Zk xs
 | .ls xs=>Zk xs
def Zk:List Dat->Bool
 | []=>true
 | d::ds=>Yu d&&Zk ds
end
mutual
theorem JF:∀ {d:Dat},Yu d=true->cB d d=true
 | .fl v,h=>by simp only[cB];exact Yt h
 | .tp xs,h=>by simp only[cB];simp only[Yu] at h;exact Qq h
 | .ls xs,h=>by simp only[cB];simp only[Yu] at h;exact Qq h
theorem Qq:∀ {ds:List Dat},Zk ds=true->d3 ds ds=true
 | [],_=>rfl
 | d::ds,h=>by simp only[Zk,uS] at h;simp only[d3,uS];exact⟨JF h.1,Qq h.2⟩
end
theorem yO:∀ {ds es:List Dat},ds.length≠es.length->d3 ds es=false
 | [],[],h=>absurd rfl h
 | d::ds,e::es,h=>by simp only[d3];rw[yO (ds:=ds) (es:=es) (by simpa using h),gE]
 | [],_::_,_=>rfl
 | _::_,[],_=>rfl
def cP (ds:List Dat)(j:Nat):Dat:=ds.getD j (.fl .non)
theorem yP:∀ {ds es:List Dat},ds.length=es.length->(List.range ds.length).all (λj=>cB (cP ds j) (cP es j))=d3 ds es
 | [],[],_=>rfl
 | d::ds,e::es,h=>by rw[uc,List.range_succ_eq_map,UW,List.all_map];simp only[d3];have:=yP (ds:=ds) (es:=es) (by simpa using h);rw[<-this];rfl
 | [],_::_,h=>by simp at h
 | _::_,[],h=>by simp at h
def JG {ds es:List Dat}(hn:n=ds.length)(hm:m=es.length):((List.range (min n m)).all (λj=>cB (cP ds j) (cP es j))&&n == m)=d3 ds es:=by
 subst hn hm;by_cases h:ds.length=es.length
 ·rw[<-h,Nat.min_self,Ug,Bool.and_true];exact yP h
 ·rw[yO h,Ut.mpr h,gE]
section
variable {X:Cx} {Lk:Li} {U:L2.St} {H:Hp} {s:Shared}
def jP (I:Inv X Lk U H s)(h:H a=some (.tup vs)):∃ its:Lf,Vals vs its/\s.heap.IsTuple a its.toArray:=by let⟨its,r,p,_⟩:=I.tuple (bP.of h);exact⟨its,r,p⟩
def jG (I:Inv X Lk U H s)(h:H a=some (.lst vs)):∃ its:Lf,Vals vs its/\s.heap.IsList a its.toArray:=by let⟨its,r,p,_⟩:=I.list (cJ.of h);exact⟨its,r,p.isList⟩
mutual
theorem O4 (I:Inv X Lk U H s):∀ (d e:Dat) (A:Around) (x y:V) (u w:Value),A.units+bF d<cLine->aP H d x->aP H e y->RelV x u->RelV y w->SeqAt.EqAt A s u w (cB d e)
 | .fl x,.fl y,A,x',y',u,w,hu,h,k,ru,rw'=>by simp only[aP] at h k;let⟨rfl,f⟩:=h;let⟨rfl,g⟩:=k;simp only[cB];exact DE ru rw' f g
 | .tp ds,.tp es,A,x,y,u,w,hu,h,k,ru,rw'=>by
  have hh:=h;have kk:=k;simp only[aP] at h k;let⟨a,vs,rfl,h1,h2⟩:=h;let⟨b,us,rfl,k1,k2⟩:=k;cases ru;cases rw';by_cases hab:a=b
  ·subst hab;rw[JE hh kk];exact SeqAt.EqAt.same _
  let⟨i1,r1,p1⟩:=jP I h1;let⟨i2,r2,p2⟩:=jP I k1;simp only[bF] at hu;refine SeqAt.EqAt.of_refs hab ?_;have:=SeqAt.RcAt.tuples (A:=A) (e:=λj=>cB (cP ds j) (cP es j)) p1 p2 aB (v8 I ds es A.in1 vs us i1 i2 (by show A.units+1+_<_;lia) h2 k2 r1 r2);rw[JG (by rw[uu,<-r1.length,h2.len]) (by rw[uu,<-r2.length,k2.len])] at this;simp only[cB];exact this
 | .ls ds,.ls es,A,x,y,u,w,hu,h,k,ru,rw'=>by
  have hh:=h;have kk:=k;simp only[aP] at h k;let⟨a,vs,rfl,h1,h2⟩:=h;let⟨b,us,rfl,k1,k2⟩:=k;cases ru;cases rw';by_cases hab:a=b
  ·subst hab;rw[JE hh kk];exact SeqAt.EqAt.same _
  let⟨i1,r1,p1⟩:=jG I h1;let⟨i2,r2,p2⟩:=jG I k1;have l1:=r1.length;have l2:=r2.length;have l3:=h2.len;have l4:=k2.len;simp only[bF] at hu;refine SeqAt.EqAt.of_refs hab ?_;simp only[cB];by_cases hl:ds.length=es.length
  ·have:=SeqAt.RcAt.lists (A:=A) (e:=λj=>cB (cP ds j) (cP es j)) p1 p2 (by simp;lia) aB (v8 I ds es A.in1 vs us i1 i2 (by show A.units+1+_<_;lia) h2 k2 r1 r2);rw[uu,<-l1,<-l3,yP hl] at this;exact this
  ·rw[yO hl];exact SeqAt.RcAt.lists_lengths p1 p2 (by simp;lia) aB
 | .fl x,.tp es,A,x',y,u,w,hu,h,k,ru,rw'=>by
  simp only[aP] at h k;let⟨rfl,f⟩:=h;let⟨b,us,rfl,k1,k2⟩:=k;cases rw';let⟨i2,r2,p2⟩:=jP I k1;simp only[cB];have hu:A.units<cLine:=aB
  cases x' with
  | non=>cases ru;exact SeqAt.EqAt.none_tuple p2 hu
  | bl z=>cases ru;exact SeqAt.EqAt.bool_tuple z p2 hu
  | int z=>let⟨t,rfl⟩:=ru;exact SeqAt.EqAt.int_tuple z t p2 hu
  | str z=>let⟨t,rfl⟩:=ru;exact SeqAt.EqAt.str_tuple z t p2 hu
  | byt z=>simp[zL] at f
  | flt z=>simp[zL] at f
  | ref z=>simp[zL] at f
  | ty z=>simp[zL] at f
 | .fl x,.ls es,A,x',y,u,w,hu,h,k,ru,rw'=>by
  simp only[aP] at h k;let⟨rfl,f⟩:=h;let⟨b,us,rfl,k1,k2⟩:=k;cases rw';let⟨i2,r2,p2⟩:=jG I k1;simp only[cB];have hu:A.units<cLine:=aB
  cases x' with
  | non=>cases ru;exact SeqAt.EqAt.none_list p2 hu
  | bl z=>cases ru;exact SeqAt.EqAt.bool_list z p2 hu
  | int z=>let⟨t,rfl⟩:=ru;exact SeqAt.EqAt.int_list z t p2 hu
  | str z=>let⟨t,rfl⟩:=ru;exact SeqAt.EqAt.str_list z t p2 hu
  | byt z=>simp[zL] at f
  | flt z=>simp[zL] at f
  | ref z=>simp[zL] at f
  | ty z=>simp[zL] at f
 | .tp ds,.fl y,A,x,y',u,w,hu,h,k,ru,rw'=>by
  simp only[aP] at h k;let⟨rfl,f⟩:=k;let⟨b,us,rfl,k1,k2⟩:=h;cases ru;let⟨i2,r2,p2⟩:=jP I k1;simp only[cB];have hu:A.units<cLine:=aB
  cases y' with
  | non=>cases rw';exact SeqAt.EqAt.tuple_none p2 hu
  | bl z=>cases rw';exact SeqAt.EqAt.tuple_bool z p2 hu
  | int z=>let⟨t,rfl⟩:=rw';exact SeqAt.EqAt.tuple_int z t p2 hu
  | str z=>let⟨t,rfl⟩:=rw';exact SeqAt.EqAt.tuple_str z t p2 hu
  | byt z=>simp[zL] at f
  | flt z=>simp[zL] at f
  | ref z=>simp[zL] at f
  | ty z=>simp[zL] at f
 | .ls ds,.fl y,A,x,y',u,w,hu,h,k,ru,rw'=>by
  simp only[aP] at h k;let⟨rfl,f⟩:=k;let⟨b,us,rfl,k1,k2⟩:=h;cases ru;let⟨i2,r2,p2⟩:=jG I k1;simp only[cB];have hu:A.units<cLine:=aB
  cases y' with
  | non=>cases rw';exact SeqAt.EqAt.list_none p2 hu
  | bl z=>cases rw';exact SeqAt.EqAt.list_bool z p2 hu
  | int z=>let⟨t,rfl⟩:=rw';exact SeqAt.EqAt.list_int z t p2 hu
  | str z=>let⟨t,rfl⟩:=rw';exact SeqAt.EqAt.list_str z t p2 hu
  | byt z=>simp[zL] at f
  | flt z=>simp[zL] at f
  | ref z=>simp[zL] at f
  | ty z=>simp[zL] at f
 | .tp ds,.ls es,A,x,y,u,w,hu,h,k,ru,rw'=>by simp only[aP] at h k;let⟨a,vs,rfl,h1,h2⟩:=h;let⟨b,us,rfl,k1,k2⟩:=k;cases ru;cases rw';let⟨i1,r1,p1⟩:=jP I h1;let⟨i2,r2,p2⟩:=jG I k1;simp only[cB];exact SeqAt.EqAt.tuple_list p1 p2 (by omega)
 | .ls ds,.tp es,A,x,y,u,w,hu,h,k,ru,rw'=>by simp only[aP] at h k;let⟨a,vs,rfl,h1,h2⟩:=h;let⟨b,us,rfl,k1,k2⟩:=k;cases ru;cases rw';let⟨i1,r1,p1⟩:=jG I h1;let⟨i2,r2,p2⟩:=jP I k1;simp only[cB];exact SeqAt.EqAt.list_tuple p1 p2 (by omega)
theorem v8 (I:Inv X Lk U H s):∀ (ds es:List Dat) (A:Around) (xs ys:List V) (us ws:Lf),A.units+wR ds<cLine->bM H ds xs->bM H es ys->Vals xs us->Vals ys ws ->
  ∀ j (h1:j<us.toArray.size) (h2:j<ws.toArray.size),SeqAt.EqAt A s us.toArray[j] ws.toArray[j] (cB (cP ds j) (cP es j))
 | [],es,A,xs,ys,us,ws,hu,h,k,ru,rw',j,h1,h2=>by simp only[bM] at h;subst h;have:=ru.length;rw[uu] at h1;simp at this;omega
 | d::ds,[],A,xs,ys,us,ws,hu,h,k,ru,rw',j,h1,h2=>by simp only[bM] at k;subst k;have:=rw'.length;rw[uu] at h2;simp at this;omega
 | d::ds,e::es,A,xs,ys,us,ws,hu,h,k,ru,rw',j,h1,h2=>by
  simp only[bM] at h k;let⟨v,r,rfl,a1,a2⟩:=h;let⟨v',r',rfl,b1,b2⟩:=k;simp only[wR] at hu;cases ru with
  | cons q1 q2=>
   cases rw' with
   | cons q3 q4=>
    cases j with
    | zero=>exact O4 I d e A _ _ _ _ (by omega) a1 b1 q1 q3
    | succ j=>have:=v8 I ds es A _ _ _ _ (by omega) a2 b2 q2 q4 j (by simpa using h1) (by simpa using h2);simpa[cP] using this
end
end
section
variable {X:Cx}
def Bg:R2:=λx y H Q=>∃ d e a b,x=.ref a/\y=.ref b/\aP H d (.ref a)/\aP H e (.ref b)/\bF d<=50/\Q (.bl (cB d e)) H
def Bc:R2:=λx y H Q=>∃ d e a b,x=.ref a/\y=.ref b/\aP H d (.ref a)/\aP H e (.ref b)/\bF d<=50/\Q (.bl (!cB d e)) H
def O3 (hu:X.A.units+64<cLine):bR X (compareOp .Eq) Bg:=by
 intro Lk s U H x y v u Q I rx ry h;let⟨d,e,a,b,rfl,rfl,h,k,hd,q⟩:=h;cases rx;cases ry
 match d,e,h,k,hd,q with
 | .tp ds,.tp es,h,k,hd,q=>simp only[aP] at h k;let⟨_,vs,e1,h1,h2⟩:=h;let⟨_,us,e2,k1,k2⟩:=k;cases e1;cases e2;let⟨i1,r1,p1⟩:=jP I h1;let⟨i2,r2,p2⟩:=jP I k1;simp only[bF] at hd;refine SeqAt.eq_tupleAt (e:=λj=>cB (cP ds j) (cP es j)) p1 p2 (by omega) (v8 I ds es X.A.in1 vs us i1 i2 (by show X.A.units+1+_<_;omega) h2 k2 r1 r2) ⟨.bl _,H,I,rfl,?_⟩;rw[JG (by rw[uu,<-r1.length,h2.len]) (by rw[uu,<-r2.length,k2.len])];exact q
 | .ls ds,.ls es,h,k,hd,q=>
  simp only[aP] at h k;let⟨_,vs,e1,h1,h2⟩:=h;let⟨_,us,e2,k1,k2⟩:=k;cases e1;cases e2;let⟨i1,r1,p1⟩:=jG I h1;let⟨i2,r2,p2⟩:=jG I k1;have l1:=r1.length;have l2:=r2.length;have l3:=h2.len;have l4:=k2.len;simp only[bF] at hd;by_cases hl:ds.length=es.length
  ·refine SeqAt.eq_listAt (e:=λj=>cB (cP ds j) (cP es j)) p1 p2 (by simp;lia) aB (v8 I ds es X.A.in1 vs us i1 i2 (by show X.A.units+1+_<_;lia) h2 k2 r1 r2) ⟨.bl _,H,I,rfl,?_⟩;rw[uu,<-l1,<-l3,yP hl];exact q
  ·refine SeqAt.eq_list_lengthsAt p1 p2 (by simp;lia) aB ⟨.bl _,H,I,rfl,?_⟩;simp only[cB] at q;rw[yO hl] at q;exact q
 | .tp ds,.ls es,h,k,hd,q=>simp only[aP] at h k;let⟨_,vs,e1,h1,h2⟩:=h;let⟨_,us,e2,k1,k2⟩:=k;cases e1;cases e2;let⟨i1,r1,p1⟩:=jP I h1;let⟨i2,r2,p2⟩:=jG I k1;exact SeqAt.RcAt.tuple_list p1 p2 (by omega) _ _ _ _ ⟨.bl _,H,I,rfl,q⟩
 | .ls ds,.tp es,h,k,hd,q=>simp only[aP] at h k;let⟨_,vs,e1,h1,h2⟩:=h;let⟨_,us,e2,k1,k2⟩:=k;cases e1;cases e2;let⟨i1,r1,p1⟩:=jG I h1;let⟨i2,r2,p2⟩:=jP I k1;exact SeqAt.RcAt.list_tuple p1 p2 (by omega) _ _ _ _ ⟨.bl _,H,I,rfl,q⟩
 | .fl x,e,h,k,hd,q=>simp only[aP] at h;let⟨rfl,f⟩:=h;simp[zL] at f
 | .tp ds,.fl x,h,k,hd,q=>simp only[aP] at k;let⟨rfl,f⟩:=k;simp[zL] at f
 | .ls ds,.fl x,h,k,hd,q=>simp only[aP] at k;let⟨rfl,f⟩:=k;simp[zL] at f
def O2 (hu:X.A.units+64<cLine):bR X (compareOp .NotEq) Bc:=by
 intro Lk s U H x y v u Q I rx ry h;let⟨d,e,a,b,rfl,rfl,h,k,hd,q⟩:=h;cases rx;cases ry
 match d,e,h,k,hd,q with
 | .tp ds,.tp es,h,k,hd,q=>simp only[aP] at h k;let⟨_,vs,e1,h1,h2⟩:=h;let⟨_,us,e2,k1,k2⟩:=k;cases e1;cases e2;let⟨i1,r1,p1⟩:=jP I h1;let⟨i2,r2,p2⟩:=jP I k1;simp only[bF] at hd;refine SeqAt.RcNeAt.tuples (e:=λj=>cB (cP ds j) (cP es j)) p1 p2 (by omega) (v8 I ds es X.A.in1 vs us i1 i2 (by show X.A.units+1+_<_;omega) h2 k2 r1 r2) _ _ _ _ ⟨.bl _,H,I,rfl,?_⟩;rw[JG (by rw[uu,<-r1.length,h2.len]) (by rw[uu,<-r2.length,k2.len])];exact q
 | .ls ds,.ls es,h,k,hd,q=>
  simp only[aP] at h k;let⟨_,vs,e1,h1,h2⟩:=h;let⟨_,us,e2,k1,k2⟩:=k;cases e1;cases e2;let⟨i1,r1,p1⟩:=jG I h1;let⟨i2,r2,p2⟩:=jG I k1;have l1:=r1.length;have l2:=r2.length;have l3:=h2.len;have l4:=k2.len;simp only[bF] at hd;by_cases hl:ds.length=es.length
  ·refine SeqAt.RcNeAt.lists (e:=λj=>cB (cP ds j) (cP es j)) p1 p2 (by simp;lia) aB (v8 I ds es X.A.in1 vs us i1 i2 (by show X.A.units+1+_<_;lia) h2 k2 r1 r2) _ _ _ _ ⟨.bl _,H,I,rfl,?_⟩;rw[uu,<-l1,<-l3,yP hl];exact q
  ·refine SeqAt.RcNeAt.lists_lengths p1 p2 (by simp;lia) aB _ _ _ _ ⟨.bl _,H,I,rfl,?_⟩;simp only[cB] at q;rw[yO hl] at q;exact q
 | .tp ds,.ls es,h,k,hd,q=>simp only[aP] at h k;let⟨_,vs,e1,h1,h2⟩:=h;let⟨_,us,e2,k1,k2⟩:=k;cases e1;cases e2;let⟨i1,r1,p1⟩:=jP I h1;let⟨i2,r2,p2⟩:=jG I k1;exact SeqAt.RcNeAt.tuple_list p1 p2 (by omega) _ _ _ _ ⟨.bl _,H,I,rfl,q⟩
 | .ls ds,.tp es,h,k,hd,q=>simp only[aP] at h k;let⟨_,vs,e1,h1,h2⟩:=h;let⟨_,us,e2,k1,k2⟩:=k;cases e1;cases e2;let⟨i1,r1,p1⟩:=jG I h1;let⟨i2,r2,p2⟩:=jP I k1;exact SeqAt.RcNeAt.list_tuple p1 p2 (by omega) _ _ _ _ ⟨.bl _,H,I,rfl,q⟩
 | .fl x,e,h,k,hd,q=>simp only[aP] at h;let⟨rfl,f⟩:=h;simp[zL] at f
 | .tp ds,.fl x,h,k,hd,q=>simp only[aP] at k;let⟨rfl,f⟩:=k;simp[zL] at f
 | .ls ds,.fl x,h,k,hd,q=>simp only[aP] at k;let⟨rfl,f⟩:=k;simp[zL] at f
end
abbrev Tx:=Lc
def tx (x:Tx):V:=.str (S x)
abbrev Ev:=List Tx
abbrev lt:Tx:=[97,98,99,100,101,102,103,104,105,106,107,108,109,110,111,112,113,114,115,116,117,118,119,120,121,122]
section
variable {n k:Nat} {m w t:Tx} {op:List Tx} {es:List Ev}
end
section
variable {κ:Type} [DecidableEq κ]
noncomputable def cL (kvs:List (κ×V))(k:κ):Option V:=(kvs.find? λkv=>decide (kv.1=k)).map (·.2)
noncomputable def putK (kvs:List (κ×V))(k:κ)(v:V):List (κ×V):= if (kvs.any λkv=>decide (kv.1=k))=true then kvs.map (λkv=>if kv.1=k then(kv.1,v) else kv) else kvs++[(k,v)]
def yQ {p:κ×V}{r:List (κ×V)}{k:κ}(e:p.1=k):cL (p::r) k=some p.2:=by simp[cL,U8,e]
def yR {p:κ×V}{r:List (κ×V)}{k:κ}(e:¬ p.1=k):cL (p::r) k=cL r k:=by simp[cL,U8,e]
theorem Yv (k:κ):∀ kvs:List (κ×V),(kvs.any λkv=>decide (kv.1=k))=(cL kvs k).isSome
 | []=>rfl
 | p::r=>by
  rw[UX];by_cases e:p.1=k
  ·simp only[yQ e,uK e,Bool.true_or,Option.isSome_some]
  ·rw[yR e,uv e,Gm];exact Yv k r
def QT (kvs:List (κ×V))(k:κ)(v:V):(putK kvs k v).length<=kvs.length+1:=by
 unfold putK;split
 ·rw[ud];lia
 ·rw[ub,uc,ur];lia
def cI.isSome_eq {o:Option V}{u:Option Value}(r:cI o u):o.isSome=u.isSome:=by
 cases o with
 | none=>cases u with
  | none=>rfl
  | some _=>exact(show False from r).elim
 | some _=>cases u with
  | none=>exact(show False from r).elim
  | some _=>rfl
theorem cI.getD {o:Option V}{u:Option Value}(r:cI o u)(rd:RelV d d'):RelV (o.getD d) (u.getD d'):=by
 cases o with
 | none=>cases u with
  | none=>exact rd
  | some _=>exact(show False from r).elim
 | some _=>cases u with
  | none=>exact(show False from r).elim
  | some _=>exact r
def KV.val (r:KV kvs vs)(k:κ):cI (cL kvs k) (valueAt vs k):=by
 unfold KV at r
 induction r with
 | nil=>exact True.intro
 | @cons p q ps qs h t ih=>
  let⟨h1,h2⟩:=h;by_cases e:p.1=k
  ·have e':q.1=k:=h1.symm.trans e;have b:valueAt (q::qs) k=some q.2:=by simp[valueAt,U8,e']
   rw[yQ e,b];exact h2
  ·have e':¬ q.1=k:=λz=>e (h1.trans z);have b:valueAt (q::qs) k=valueAt qs k:=by simp[valueAt,U8,e']
   rw[yR e,b];exact ih
theorem KV.any {kvs:List (κ×V)}{vs:List (κ×Value)}(r:KV kvs vs)(k:κ):(kvs.any λkv=>decide (kv.1=k))=vs.any λkv=>decide (kv.1=k):=by
 unfold KV at r
 induction r with
 | nil=>rfl
 | cons h t ih=>rw[UX,UX,ih,h.1]
def KV.repl {kvs:List (κ×V)}{vs:List (κ×Value)}(r:KV kvs vs)(k:κ)(ry:RelV y u) : KV (kvs.map λkv=>if kv.1=k then(kv.1,y) else kv) (vs.map λkv=>if kv.1=k then(kv.1,u) else kv):=by
 unfold KV at r |-
 induction r with
 | nil=>exact .nil
 | @cons p q ps qs h t ih=>
  rw[uA,uA];refine .cons ?_ ih;let⟨h1,h2⟩:=h;by_cases e:p.1=k
  ·rw[uC e,uC (h1.symm.trans e)];exact⟨h1,ry⟩
  ·rw[ux e,ux (λz=>e (h1.trans z))];exact⟨h1,h2⟩
def KV.put (r:KV kvs vs)(k:κ)(ry:RelV y u):KV (putK kvs k y) (stored vs k u):=by
 unfold putK stored;rw[r.any k];by_cases e:(vs.any λkv=>decide (kv.1=k))=true
 ·rw[uC e,uC e];exact r.repl k ry
 ·rw[ux e,ux e];exact Paired.snoc r ⟨rfl,ry⟩
theorem KV.length {kvs:List (κ×V)}{vs:List (κ×Value)}(r:KV kvs vs):kvs.length=vs.length:=Paired.length r
end
def Xk (r:RelV (kV k) u):(z5 P w).is k u=true:=by
 cases k with
 | inl i=>let⟨t,e⟩:=(show ∃ t,u=Value.int i t from r);subst e;exact V9 P w i t
 | inr x=>let⟨t,e⟩:=(show ∃ t,u=Value.str x t from r);subst e;exact Yb P w x t
theorem Xl:∀ {ks:List Key} {us:Lf},Vals (ks.map kV) us->ItemsAre (z5 P w) ks us
 | [],_,r=>by rw[gr] at r;cases r;exact .nil
 | k::ks,_,r=>by
  rw[uA] at r;cases r with
  | cons h t=>exact .cons (Xk h) (Xl t)
abbrev KT (H:Hp):List (List Key×V)->List (List Key×Addr×Value)->Prop:=Paired λp q=>p.1=q.1/\H q.2.1=some (.tup (p.1.map kV))/\RelV p.2 q.2.2
def KT.val (r:KT H kvs xs)(k:List Key):cI (cL kvs k) ((atKey xs k).map (·.2)):=by
 induction r with
 | nil=>exact True.intro
 | @cons p q ps qs h t ih=>
  let⟨h1,_,h2⟩:=h;by_cases e:p.1=k
  ·have e':q.1=k:=h1.symm.trans e;have b:atKey (q::qs) k=some q.2:=by simp[atKey,U8,e']
   rw[yQ e,b];exact h2
  ·have e':¬ q.1=k:=λz=>e (h1.trans z);have b:atKey (q::qs) k=atKey qs k:=by simp[atKey,U8,e']
   rw[yR e,b];exact ih
def KT.repl {kvs:List (List Key×V)}{xs:List (List Key×Addr×Value)}(r:KT H kvs xs)(k:List Key)(ry:RelV y u) : KT H (kvs.map λkv=>if kv.1=k then(kv.1,y) else kv) (xs.map (putAt k u)):=by
 induction r with
 | nil=>exact .nil
 | @cons p q ps qs h t ih=>
  rw[uA,uA];refine .cons ?_ ih;let⟨h1,h2,h3⟩:=h;unfold putAt;by_cases e:p.1=k
  ·rw[uC e,uC (h1.symm.trans e)];exact⟨h1,h2,ry⟩
  ·rw[ux e,ux (λz=>e (h1.trans z))];exact⟨h1,h2,h3⟩
def KT.put (r:KT H kvs xs)(k:List Key)(hb:H b=some (.tup (k.map kV)))(ry:RelV y u) : KT H (putK kvs k y) (storedH xs k b u):=by
 have e:(kvs.any λkv=>decide (kv.1=k))=(atKey xs k).isSome:=by rw[Yv,(r.val k).isSome_eq,hV]
 unfold putK storedH;rw[e];by_cases q:(atKey xs k).isSome=true
 ·rw[uC q,uC q];exact r.repl k ry
 ·rw[ux q,ux q];exact Paired.snoc r ⟨rfl,hb,ry⟩
def KT.keeps (r:KT H kvs xs)(ht:∀ b ys,H b=some (.tup ys)->H' b=some (.tup ys)):KT H' kvs xs:= Paired.mapP r λ_ _ z=>⟨z.1,ht _ _ z.2.1,z.2.2⟩
section
variable {P:Program} {w:World} {H:Hp} {h:Heap} {a:Addr}
def B3 (ok:dk P w H h)(e:Rd H a u):zN P w H h a u:=e.ok ok
def Yw {kvs:List (Key×V)}(ok:dk P w H h)(e:Rd H a (.dK kvs)):kvs.length<=sizeLine/\(a == sysModules)=false/\∃ vs,KV kvs vs/\h.DictOf (z5 P w) a vs:=
 show zN P w H h a (.dK kvs) from B3 ok e
def L8 {kvs:List (Key×V)}(ok:dk P w H h)(e:H a=some (.dK kvs)):kvs.length<=sizeLine/\(a == sysModules)=false/\∃ vs,KV kvs vs/\h.DictOf (z5 P w) a vs:=Yw ok (.inl e)
def JH {ks:List Key}(ok:dk P w H h)(e:H a=some (.tup (ks.map kV))):(tupleKind (z5 P w)).is h ks a:=by
 let⟨_,its,r,o,h1,h2,n,h3⟩:=(show zN P w H h a (.tup (ks.map kV)) from ok a _ e)
 exact⟨o,its.toArray,n,h1,h2,h3,by simpa using Xl r⟩
def Yx {kvs:List (List Key×V)}(ok:dk P w H h)(e:Rd H a (.dT kvs)):kvs.length<=sizeLine/\(a == sysModules)=false /\ ∃ xs,KT H kvs xs/\h.DictOfH (tupleKind (z5 P w)) a xs:=by
 let⟨z,y,xs,r,o,es,ep,h1,h2,h3,h4,h5⟩:=(show zN P w H h a (.dT kvs) from B3 ok e)
 refine⟨z,y,xs,r,o,es,ep,h1,h2,h3,h4,λx hx=>?_,h5⟩
 have all:∀ {l:List (List Key×V)} {m:List (List Key×Addr×Value)},KT H l m->∀ x∈m,(tupleKind (z5 P w)).is h x.1 x.2.1:=by
  intro l m q
  induction q with
  | nil=>intro x hx;exact nomatch hx
  | @cons p q ps qs hq t ih=>
   intro x hx;rcases uw.mp hx with e | hx
   ·subst e;exact JH ok (by rw[<-hq.1];exact hq.2.1)
   ·exact ih x hx
 exact all r x hx
def L7 {kvs:List (List Key×V)}(ok:dk P w H h)(e:H a=some (.dT kvs)):kvs.length<=sizeLine/\(a == sysModules)=false /\ ∃ xs,KT H kvs xs/\h.DictOfH (tupleKind (z5 P w)) a xs:=Yx ok (.inl e)
end
def dS (H:Hp)(a:Addr)(y:V)(r:Option V):Prop:= (∃ kvs k,Rd H a (.dK kvs)/\y=kV k/\r=cL kvs k)\/∃ kvs k b,Rd H a (.dT kvs)/\y=.ref b/\H b=some (.tup (k.map kV))/\r=cL kvs k
def iN (H:Hp)(a:Addr)(y v:V)(H':Hp):Prop:= (∃ kvs k,H a=some (.dK kvs)/\y=kV k/\kvs.length<sizeLine/\H' = upd H a (.dK (putK kvs k v))) \/ ∃ kvs k b,H a=some (.dT kvs)/\y=.ref b/\H b=some (.tup (k.map kV))/\kvs.length<sizeLine/\H' = upd H a (.dT (putK kvs k v))
theorem dS.k {H:Hp}{a:Addr}{kvs:List (Key×V)}{k:Key}(e:H a=some (.dK kvs)):dS H a (kV k) (cL kvs k):=.inl ⟨kvs,k,.inl e,rfl,rfl⟩
def dS.t {k:List Key}(e:H a=some (.dT kvs))(eb:H b=some (.tup (k.map kV))):dS H a (.ref b) (cL kvs k):=.inr ⟨kvs,k,b,.inl e,rfl,eb,rfl⟩
theorem iN.k {H:Hp}{a:Addr}{kvs:List (Key×V)}{k:Key}{v:V}(e:H a=some (.dK kvs))(hl:kvs.length<sizeLine):iN H a (kV k) v (upd H a (.dK (putK kvs k v))):=.inl ⟨kvs,k,e,rfl,hl,rfl⟩
def iN.t {kvs:List (List Key×V)}{k:List Key}(e:H a=some (.dT kvs))(eb:H b=some (.tup (k.map kV)))(hl:kvs.length<sizeLine) : iN H a (.ref b) v (upd H a (.dT (putK kvs k v))):=.inr ⟨kvs,k,b,e,rfl,eb,hl,rfl⟩
section
variable {X:Cx} {Lk:Li} {U:St} {H:Hp} {s:Shared} {a:Addr} {y v:V} {u r:Value} {o:Option V} {A:Around} {E:Lj}
def zcE (hu:A.units+1<cLine)(I:Inv X Lk U H s)(g:dS H a y (some v))(ry:RelV y u)(h:∀ w' s',Inv X Lk U H s'->RelV v w'->Q w' s') : wpAny (model X.prog X.w) A (getItem (.ref a) u) Q E s:=by
 rcases g with⟨kvs,k,e,ey,l⟩ | ⟨kvs,k,b,e,ey,eb,l⟩
 ·subst ey;let⟨z,hd,vs,rel,dd⟩:=Yw I.hok e;let⟨w',hw,rw'⟩:=cI.some_of (v:=v) (o:=valueAt vs k) (by rw[l];exact rel.val k);exact wpAny_getItem_of (Xk ry) dd.mapOf hw (h w' _ (I.tok _) rw')
 ·subst ey;cases (show u=Value.ref b from ry);let⟨z,hd,xs,rel,dd⟩:=Yx I.hok e;let⟨w',hw,rw'⟩:=cI.some_of (v:=v) (o:=(atKey xs k).map (·.2)) (by rw[l];exact rel.val k);let⟨p,hp,hp2⟩:=uM.mp hw;refine wpAny_getItem_heap (gv hu) (JH I.hok eb) dd hp ?_;rw[hp2];exact h w' _ (I.tok _) rw'
def BL (hu:A.units+1<cLine)(I:Inv X Lk U H s)(g:dS H a y o)(ry:RelV y u)(h:∀ s',Inv X Lk U H s'->Q (.bool o.isSome) s') : wpAny (model X.prog X.w) A (compareOp .In u (.ref a)) Q E s:=by
 rcases g with⟨kvs,k,e,ey,l⟩ | ⟨kvs,k,b,e,ey,eb,l⟩
 ·subst ey;let⟨z,hd,vs,rel,dd⟩:=Yw I.hok e;refine wpAny_in_of (Xk ry) hd dd.mapOf ?_;rw[<-(rel.val k).isSome_eq,<-l];exact h _ (I.tok _)
 ·subst ey;cases (show u=Value.ref b from ry);let⟨z,hd,xs,rel,dd⟩:=Yx I.hok e;refine wpAny_in_heap (gv hu) (JH I.hok eb) hd dd ?_;have q:=(rel.val k).isSome_eq;rw[hV] at q;rw[<-q,<-l];exact h _ (I.tok _)
def SY (hu:A.units+1<cLine)(I:Inv X Lk U H s)(g:dS H a y o)(ry:RelV y u)(h:∀ s',Inv X Lk U H s'->Q (.bool (!o.isSome)) s') : wpAny (model X.prog X.w) A (compareOp .NotIn u (.ref a)) Q E s:=by
 rcases g with⟨kvs,k,e,ey,l⟩ | ⟨kvs,k,b,e,ey,eb,l⟩
 ·subst ey;let⟨z,hd,vs,rel,dd⟩:=Yw I.hok e;refine wpAny_notIn_of (Xk ry) hd dd.mapOf ?_;rw[<-(rel.val k).isSome_eq,<-l];exact h _ (I.tok _)
 ·subst ey;cases (show u=Value.ref b from ry);let⟨z,hd,xs,rel,dd⟩:=Yx I.hok e;refine wpAny_notIn_heap (gv hu) (JH I.hok eb) hd dd ?_;have q:=(rel.val k).isSome_eq;rw[hV] at q;rw[<-q,<-l];exact h _ (I.tok _)
def Ee {h':Heap}(I:Inv X Lk U H s)(mu:sD (H a))(hs:Heap.SameBut a s.heap h')(he:∃ q,h'.get? a=some q)(new:zN X.prog X.w (upd H a ob) h' a ob) :
  Inv X Lk U (upd H a ob) { s with heap:=h',toks:=t' }:=
 I.write (x:=a) (e:=a) mu (.inl rfl) (λb q hb z=>(hs.2 b hb).trans z) he new
def O1 {h':Heap}{kvs:List (Key×V)}(z:kvs.length<=sizeLine)(hd:(a == sysModules)=false)(rel:KV kvs vs)(dd:h'.DictOf (z5 P w) a vs) : zN P w H' h' a (.dK kvs):=⟨z,hd,vs,rel,dd⟩
def zcF (hu:A.units+1<cLine)(I:Inv X Lk U H s)(g:iN H a y v H')(ry:RelV y u)(rv:RelV v r)(h:∀ s',Inv X Lk U H' s'->Q () s') : wpAny (model X.prog X.w) A (setItem (.ref a) u r) Q E s:=by
 rcases g with⟨kvs,k,e,ey,l,eH⟩ | ⟨kvs,k,b,e,ey,eb,l,eH⟩
 ·subst ey eH;let⟨z,hd,vs,rel,dd⟩:=L8 I.hok e;have hz:vs.length<=sizeLine:=by rw[<-rel.length];exact z
  have hl:(putK kvs k v).length<=sizeLine:=by have:=QT kvs k v;lia
  refine wpAny_setItem_pairs (hsz:=hz) (Xk ry) dd λh' dd' hs=>h _ ?_;have he:∃ q,h'.get? a=some q:=let ⟨q,_,_,hq,_⟩:=dd';⟨q,hq⟩;exact Ee I (by rw[e];exact True.intro) hs he (O1 hl hd (rel.put k rv) dd')
 ·subst ey eH;cases (show u=Value.ref b from ry);let⟨z,hd,xs,rel,dd⟩:=L7 I.hok e;have hz:xs.length<=sizeLine:=by rw[<-Paired.length rel];exact z
  have hl:(putK kvs k v).length<=sizeLine:=by have:=QT kvs k v;lia
  refine wpAny_setItem_heap (hsz:=hz) (gv hu) (JH I.hok eb) dd λh' dd' hs=>h _ ?_;let⟨q,es,ep,hq,h2,h3,h4,_,h5⟩:=dd';refine Ee I (by rw[e];exact True.intro) hs ⟨q,hq⟩ ⟨hl,hd,_,(rel.put k eb rv).keeps λc ys ec=>?_,q,es,ep,hq,h2,h3,h4,h5⟩;rw[zp (LU ec e (λz=>nomatch z))];exact ec
end
section
variable {X:Cx} {Lk:Li} {U:St} {H:Hp} {s:Shared} {a:Addr} {kvs:List (Key×V)} {k:Key} {u:Value} {A:Around} {E:Lj}
end
def Yy {Lk:Li}{s:Shared}(I:Inv X Lk U H s)(g:dS H a y o):s.TypeIs (.ref a) "dict":=by
 rcases g with⟨kvs,k,e,_,_⟩ | ⟨kvs,k,b,e,_,_,_⟩
 ·let⟨_,_,vs,_,dd⟩:=Yw I.hok e;exact dd.typeIs
 ·let⟨_,_,xs,_,dd⟩:=Yx I.hok e;exact dd.typeIs
section
variable {X:Cx} {o i e value:Expr} {pos pos' tpos:Pos} {td ty tv:TE}
end
section
variable {X:Cx} {pos:Pos}
end
structure M1 (X:Cx)(o:Expr)(m:Str)(apos:Pos)(e:Expr)(cpos:Pos):Prop where
 base:attributeBase o m X.env (eval o X.env)=eval o X.env
 few:((backTo cpos (starEach [e] X.env)).all (λx=>!x.1)&&(backToKw cpos (keywordEach [] X.env)).all (λx=>x.1.isSome)
  && decide (([e]:Lg).length+([]:List Keyword).length+(if ([]:List Keyword).isEmpty then 0 else 1)<30))=true
 line:(apos.endLine == cpos.line)=true
 trees:backTo cpos (starEach [e] X.env)=[(false,eval e X.env)]
section
variable {X:Cx} {Lk:Li} {U:St} {H:Hp} {s:Shared} {a:Addr} {y d:V} {u r:Value} {o:Option V} {A:Around} {E:Lj}
end
section
variable {X:Cx} {o e f:Expr} {apos cpos:Pos} {td ty tx:TE}
end
section
variable {X:Cx} {Lk:Li} {U:St} {H:Hp} {s:Shared} {a:Addr} {kvs:List (Key×V)} {A:Around} {E:Lj}
end
section
variable {X:Cx} {Lk:Li} {U:St} {H:Hp} {s:Shared} {a:Addr} {y:V} {u:Value} {A:Around} {E:Lj}
end
def JI:bootBuiltins "tuple" = some (.type "tuple"):=aE
section
variable {X:Cx} {k j:Nat} {x:Str} {p pos:Pos} {e:Expr} {es:Lg} {tf:TE} {t:TA}
end
inductive eE (w:World):List DictEntry->List (Key×V)->Prop
 | nil:eE w [] []
 | cons {e:DictEntry} {k:Key} {v:V} {es:List DictEntry} {kvs:List (Key×V)}:e.hash=rQ w k->Jx k e.key=true->RelV v e.val->eE w es kvs->eE w (e::es) ((k,v)::kvs)
def eE.keys (h:eE w es kvs):∀ e∈es,∃ k,(z5 P w).is k e.key=true/\e.hash=(z5 P w).hash k:=by
 induction h with
 | nil=>intro e he;cases he
 | cons h1 h2 h3 h4 ih=>
  intro e he;rcases uw.mp he with rfl | he
  ·exact⟨_,h2,h1⟩
  ·exact ih e he
def eE.pairs {kvs:List (Key×V)}(h:eE w es kvs):∃ vs:List (Key×Value),PySem.Pairs (z5 P w) es vs/\KV kvs vs/\vs.map (·.1)=kvs.map (·.1):=by
 induction h with
 | nil=>exact⟨[],.nil,.nil,rfl⟩
 | @cons e k v es kvs h1 h2 h3 h4 ih=>let⟨vs,i1,i2,i3⟩:=ih;exact⟨(k,e.val)::vs,.cons h2 rfl i1,.cons ⟨rfl,h3⟩ i2,by rw[uA,uA,i3]⟩
def sQ (w:World)(K:Frag)(a:Addr)(kvs:List (Key×V)):Prop:=(a == sysModules)=false/\∃ o es ep,K.lookup a=some o/\o.ExactDict/\o.data=.dict es ep/\eE w es.toList kvs/\(kvs.map (·.1)).Nodup
section
variable {X:Cx} {Lk:Li} {U:L2.St} {H:Hp} {s:Shared} {a:Addr} {kvs:List (Key×V)}
def sQ.at (I:Inv X Lk U H s)(h:sQ X.w X.K a kvs):(a == sysModules)=false/\∃ vs,KV kvs vs/\s.heap.DictOf (z5 X.prog X.w) a vs:=by let⟨h0,o,es,ep,h1,h2,h3,h4,h5⟩:=h;let⟨vs,i1,i2,i3⟩:=h4.pairs (P:=X.prog);exact⟨h0,vs,i2,o,es,ep,I.kIn a o h1,h2,h3,λe he=>h4.keys (P:=X.prog) e (by simpa using he),i1,by rw[i3];exact h5⟩
end
section
variable {X:Cx} {x:Str} {p apos cpos:Pos} {e f:Expr} {ty tx':TE} {kvs:List (Key×V)}
end
section
variable {X:Cx} {a:Expr} {ta:TE}
def CJ (K:Frag)(ta:TE):TT:=λU H Q=>ta U H λx H'=>∃ k,mr K x H' k/\Q k H'
def zcG {K:Frag}(hK:X.K=K)(ha:PE X a ta)(he:∀ whole,isTrue a X.env whole=(do let v <-whole;standAt a.pos;holding [v] (truthy v)):=by intro _;rfl):PT X a (CJ K ta):=by subst hK;exact zdn ha he
end
section
variable {X:Cx}
def qv (K:Frag)(n:String):List V->Hp->VK->Prop:=λxs H Q=>∃ x t b,xs=[x,.ty n]/\bV K H x t/\PySem.W.kitOne K t (.type n)=some b/\Q (.bl b) H
def zcH {K:Frag}{n:String}(hK:X.K=K):qD X (.builtin "isinstance") (qv K n):=by subst hK;intro Lk s U H xs us Q I r h;let⟨x,t,b,rfl,ty,e,q⟩:=h;exact Yn Lk s U H _ us Q I r ⟨x,n,t,b,rfl,ty,e,q⟩
end
section
variable {X:Cx} {Lk:Li} {U:L2.St} {H:Hp} {s:Shared} {h':Heap}
end
section
variable {X:Cx}
end
section
variable {X:Cx} {K:Frag} {o:Expr} {to:TE} {name:Str} {apos cpos:Pos} {T id:String} {r:V->List V->Hp->VK->Prop}
def SX (hK:X.K=K)(pa:PlainAttrs T)(slot:Slot T name id)(hty:typeOf (.builtin id)=pure (.type "method_descriptor"))(hm:lM X id r)(ho:PE X o to) (hbase:attributeBase o name X.env (eval o X.env)=eval o X.env:=by rfl) (hline:(apos.endLine == cpos.line)=true:=by rfl):PE X (.Call (.Attribute o name apos) [] [] cpos) (pM K T r to):=by subst hK;exact N1 pa slot hty hm ho hbase hline
end
end L2
namespace HT
open PySem PySem.Spec PySem.Calls PyProof.Rows PySem.W
section
variable {prog:Program} {w:World} {A:Around} {E:Lj} {s:Shared}
def kW {t sl:Addr}{items:Array Value}{vl vu:Value}{lo hi:Option Int}{Q:Lj}(ht:IsTup s.heap t items)(hs:s.heap.IsSliceOf sl vl vu .none)(pl:IsPart vl lo)(pu:IsPart vu hi) (hw:aR items.size 0 lo=0/\aR items.size items.size hi=items.size) (h:Q (.ref t) s):wpAny (model prog w) A (getItem (.ref t) (.ref sl)) Q E s:=by
 let⟨os,hos,hcs,hds⟩:=id hs;have hTs:s.TypeIs (.ref sl) "slice":=⟨os,hos,hcs⟩
 unfold getItem
 try with_reducible refine Uo ?_
 first | refine ua (uh ?_) | skip
 refine ua (HQ ht.typeIs aA ?_)
 refine ua (Hk (name:=Str.ofString "__getitem__") ht.typeIs PyProof.Rows.slot_tuple_getitem
  (wpAny_call_entry PyProof.Rows.slot_tuple_getitem ht.typeIs G8 ?_ (hZ _ _)))
 show wpAny _ _ (Builtin.Tuple.tupleItemsOf (.ref t) >>= _) _ _ s;refine ua (Hz ht ?_);refine ua (g9 hTs ?_);rw[uC aA];refine ua (vO hs pl pu ?_);have hyes:(((aR items.size 0 lo:Nat):Int) == 0&&(1:Int) == 1&&(aR items.size items.size hi - aR items.size 0 lo) == items.size)=true:=by rw[hw.1,hw.2];simp
 show wpAny _ _ (if (((aR items.size 0 lo:Nat):Int) == 0&&(1:Int) == 1&&(aR items.size items.size hi - aR items.size 0 lo) == items.size)=true then _ else _) _ _ s;rw[uC hyes];unfold Builtin.Tuple.tupleIsExact;refine ua (ua (g9 ht.typeIs (uh ?_)));rw[uC aA];exact ua (wpAny_rule (uh ⟨_,rfl,uh h⟩))
end
end HT
namespace L2
open PySem PySem.Spec PySem.Calls PyProof.Rows PySem.W
section
variable {X:Cx}
end
structure QE (X:Cx)(e:Expr)(t:TE):Prop where
 h:PE X e t
section
set_option autoImplicit true
set_option relaxedAutoImplicit true
end
set_option autoImplicit false
section
variable {X:Cx} {Lk:Li} {U:St} {H:Hp} {s:Shared} {a b:Addr} {kvs more:List (Key×V)} {A:Around} {E:Lj}
end
section
variable {X:Cx} {o e:Expr} {apos cpos:Pos} {td ty:TE}
end
end L2
namespace L2
open PySem PySem.Spec PyProof.Rows
section
variable {X:Cx} {tg:Expr}
end
section
variable {X:Cx} {elt iter:Expr} {x:Str} {px pos:Pos} {ifs:Lg} {scope:Scope} {wi:TI} {tt:TT} {te:TE}
end
section
variable {X:Cx}
def Bf:R2:=λx y H Q=>∃ c,y=.bl c/\((∃ b,x=.bl b/\Q (.bl (b == c)) H))
def SW:R2:=λx y H Q=>∃ c,y=.bl c/\((∃ b,x=.bl b/\Q (.bl (!(b == c))) H))
def Xm (b c:Bool):isSame (.bool b) (.bool c)=pure (b == c):=by cases b<;>cases c<;>rfl
def O0:bR X (compareOp .Is) Bf:=by intro Lk s U H x y v u Q I rx ry h;let⟨c,rfl,b,rfl,q⟩:=h;cases rx;cases ry;show wpAny _ _ (do let r <-isSame (.bool b) (.bool c);pure (Value.bool r)) _ _ s;rw[Xm];exact ua (uh (uh (aG I q rfl)))
def zcI:bR X (compareOp .IsNot) SW:=by intro Lk s U H x y v u Q I rx ry h;let⟨c,rfl,b,rfl,q⟩:=h;cases rx;cases ry;show wpAny _ _ (do let r <-isSame (.bool b) (.bool c);pure (Value.bool !r)) _ _ s;rw[Xm];exact ua (uh (uh (aG I q rfl)))
def L6:List V->Hp->VK->Prop:=λxs H Q=>∃ (p:Addr) (bs:List Bool),xs=[.ref p]/\H p=some (.lst (bs.map V.bl))/\Q (.bl (bs.all id)) H
theorem Ed:∀ {bs:List Bool} {us:Lf},Vals (bs.map V.bl) us->us=bs.map Value.bool
 | [],_,h=>by cases h;rfl
 | b::bs,_,h=>by
  cases h with
  | cons a r=>cases a;rw[Ed r];rfl
def zcJ (hc:X.calm=true):qD X (.builtin "all") L6:=by
 intro Lk s U H xs us Q I r h;let⟨p,bs,rfl,hp,q⟩:=h;let⟨u,rfl,hu⟩:=vals1 r;cases hu;let⟨its,rv,hl⟩:=jG I hp;have e:=Ed rv;subst e;have hlt:p<s.heap.objs.size:=by let⟨o,ho,_⟩:=hl;exact um ho
 refine call_all_walk (HW hl ?_);refine⟨s.heap.objs.size,_,_,_,_,_,λi=>bs.getD i false,rfl,Walks.list (A:=X.A.in1) (I.ok.hd hc) _ p (Up hlt) (bs.map Value.bool).toArray,⟨⟨_,uB _ rfl,rfl,rfl⟩,?_⟩,?_,λh' tk kp=>?_⟩
 ·let⟨o,ho,h1⟩:=hl;exact⟨o,uf _ ho,h1⟩
 ·intro i v s' R E' hv hR;have hv:(bs.map Value.bool)[i]? = some v:=by simpa using hv
  rw[uE] at hv;cases hb:bs[i]? with
  | none=>rw[hb] at hv;cases hv
  | some b=>rw[hb] at hv;cases hv;have hR:R (bs.getD i false) s':=hR;rw[u5,hb] at hR;exact Uj hR
 ·have I1:Inv X Lk U H { s with heap:=h',toks:=tk }:=I.kept λb o e=>kp b o (by
   have:=um e
   intro z
   rw[uy.mp z] at this
   exact Uc _ this) (uf _ e)
  refine⟨.bl (bs.all id),H,I1,?_,q⟩
  show Value.bool _=Value.bool _
  congr 1
  rw[show(bs.map Value.bool).toArray.size=bs.length by simp]
  rw[U7,Gv,Gv]
  constructor
  ·intro h x hx
   let⟨n,hn,rfl⟩:=List.mem_iff_getElem.mp hx
   have:=h n (gj.mpr hn)
   rw[u5,uz hn] at this
   exact this
  ·intro h n hn
   have hn:=gj.mp hn
   rw[u5,uz hn]
   exact h _ (U2 hn)
end
def OZ:bootBuiltins "all" = some (.builtin "all"):=aE
section
variable {X:Cx} {a b c:Expr} {ta tb tc:TE} {pos:Pos}
end
section
variable {X:Cx}
end
def AF (h:Heap)(a l:Addr)(i:Int):Prop:=∃ o,h.get? a=some o/\o.cls=.type "reversed"/\o.data=.fields #[.ref l,rawInt i]
section
variable {prog:Program} {w:World} {A:Around} {E:Lj} {s:Shared}
def AF.at {h h':Heap}(x:AF h a l i)(e:∀ o,h.get? a=some o->h'.get? a=some o):AF h' a l i:=let ⟨o,ho,r⟩:=x;⟨o,e _ ho,r⟩
end
section
variable {X:Cx} {tg:Expr}
end
section
variable {X:Cx}
variable {st:Stmt} {rest:List Stmt} {t u:TS}
end
section
variable {X:Cx} {pos:Pos}
end
section
variable {X:Cx} {e:Expr} {te:TE} {pos p2:Pos} {K:Le}
end
variable {X:Cx}
def OY:V->List V->Hp->VK->Prop:=λx vs H Q=>∃ (l y:Lc) (i:Int),x=.str (S l)/\vs=[.str (S y),.int i]/\Q (.int (Txt.find3 (S l) (S y) i)) H
def zdT:lM X "str.find" OY:=by
 intro Lk s U H x xs v us Q I rx rs h;let⟨l,y,i,rfl,rfl,q⟩:=h;let⟨t,rfl⟩:=rx;cases rs with
 | cons r1 rs=>
  let⟨t1,rfl⟩:=r1;cases rs with
  | cons r2 rs=>let⟨t2,rfl⟩:=r2;cases rs;exact SC.find3 ⟨.int _,H,I.tok _,⟨_,rfl⟩,q⟩
def MI:V->List V->Hp->VK->Prop:=λx vs H Q=>∃ (l y:Lc),x=.str (S l)/\vs=[.str (S y)]/\y≠[]/\l.length<=1000000/\∀ p,H p=none->Q (.ref p) (upd H p (.lst ((Txt.split (S l) (S y)).map V.str)))
theorem JJ (sep:Str)(h:0<sep.length):∀ xs:Lh,xs.length<=(sep.join xs).length+1/\∀ x∈xs,x.length<=(sep.join xs).length
 | []=>⟨u4 _,λ_ h=>by cases h⟩
 | [x]=>by
  have e:sep.join [x]=x:=by simp[Str.join]
  rw[e];exact⟨aD,λy hy=>by rw[uy.mp hy];exact uj _⟩
 | x::y::xs=>by
  let⟨h1,h2⟩:=JJ sep h (y::xs)
  have e:(sep.join (x::y::xs)).length=x.length+sep.length+(sep.join (y::xs)).length:=by
   simp only[Str.join];have al:∀ a b:Str,(a++b).length=a.length+b.length:=λa b=>by show(Str.append a b).length=_;simp[Str.append,Str.length]
   rw[al,al]
  rw[e];refine⟨by simp only[uc] at h1 |-;lia,λz hz=>?_⟩;rcases uw.mp hz with rfl | hz
  ·lia
  ·have:=h2 z hz;lia
theorem Xn:∀ (xs:Lh) (k:Nat),Vals (xs.map V.str) (strsFrom k xs)
 | [],k=>.nil
 | x::xs,k=>.cons ⟨k,rfl⟩ (Xn xs (k+1))
def zcK:lM X "str.split" MI:=by
 intro Lk s U H x xs v us Q I rx rs h;let⟨l,y,rfl,rfl,hy,hl,q⟩:=h;let⟨t,rfl⟩:=rx;let⟨u,rfl,t',rfl⟩:=vals1 rs
 have y0:((S y).length == 0)=false:=by
  rw[qL];cases y with
  | nil=>exact absurd rfl hy
  | cons _ _=>rfl
 have yp:0<(S y).length:=by
  rw[qL];cases y with
  | nil=>exact absurd rfl hy
  | cons _ _=>simp
 have hj:=JJ (S y) yp (Txt.split (S l) (S y));rw[StrLaws.join_split,qL] at hj;have fin:∀ (its:Lf) (n tk:Nat),Vals ((Txt.split (S l) (S y)).map V.str) its->EP X Lk U Q (Value.ref s.heap.objs.size) { heap:=s.heap.push { cls:=.type "list",data:=.seq its.toArray n },gens:=s.gens,drawn:=s.drawn,toks:=tk,os:=s.os }:=λits n tk hv=>⟨.ref s.heap.objs.size,_,I.laid (t':=tk) (o:=.lst ((Txt.split (S l) (S y)).map V.str)) (λb ob q=>uf _ q) (uj _) ⟨by rw[ud,uD];lia,its,n,hv,uB _ rfl⟩,rfl,q _ (I.hok.fresh (uj _))⟩
 cases c1:(decide ((S l).length<(S y).length)||decide (Builtin.Str.strKind (S l)<Builtin.Str.strKind (S y))) with
 | true=>
  have e:Txt.split (S l) (S y)=[S l]:=by unfold Txt.split;rw[uC c1]
  refine UN gG (gq s (S l) t) Gw (Gn _ _) (meets_str_split_cannot_occur _ _ _ _ c1) ?_;exact fin [.str (S l) t] 0 s.toks (by rw[e];exact .cons ⟨t,rfl⟩ .nil)
 | false=>
  cases c2:(Builtin.Str.occurrences (S l) (S y) 0 (S l).length ((S l).length+1)).isEmpty with
  | true=>
   have e:Txt.split (S l) (S y)=[S l]:=by unfold Txt.split;rw[ux (by rw[c1];decide),uC c2]
   refine UN gG (gq s (S l) t) Gw (Gn _ _) (meets_str_split_not_found _ _ _ _ c1 y0 c2) ?_;exact fin [.str (S l) t] 0 s.toks (by rw[e];exact .cons ⟨t,rfl⟩ .nil)
  | false=>
   have e:Txt.split (S l) (S y)=Builtin.Str.partsBetween (S l) (Builtin.Str.occurrences (S l) (S y) 0 (S l).length ((S l).length+1)) (S y).length:=by unfold Txt.split;rw[ux (by rw[c1];decide),ux (by rw[c2];decide)]
   refine UN gG (gq s (S l) t) Gw (Gn _ _) (meets_str_split_sep _ _ _ _ c1 y0 c2 (by rw[qL,uD];lia) (by rw[<-e,uD];lia)) ?_;rw[<-e];exact fin _ 0 _ (Xn _ _)
end L2
namespace L2
open PySem PySem.Spec PySem.Calls PyProof.Rows PySem.W Builtin Builtin.ObjectAttr
section
variable {prog:Program} {w:World} {A:Around} {E:Lj} {K:Frag} {C:Addr}
def zdU {h:Heap}{g:Array GenState}{d:Drawn}{t:Nat}{os:OsState}{rest:Lf}{Q:Fin->Shared->Prop}(X:K.In h)(e:xj K C=true)(hi:yN K C=some none)(hr:rest.length<=sizeLine) (hq:∀ h' x (vs:Array Value) (sl:Array (Option Value)),h.objs.size<=x->(∀ b o,h.get? b=some o->h'.get? b=some o)->h'.get? x=some ⟨.ref C,none,.fields vs,sl⟩->(∃ t0,vs[0]? = some (.ref t0))->vs[1]? = some .none->Q (.done (.ret (.ref x))) ⟨h',g,d,t,os⟩) : wpAny (model prog w) A (Builtin.«type.__call__» ⟨.ref C::rest,[]⟩) Q E ⟨h,g,d,t,os⟩:=by
 let⟨nm,q,N,bs,bm,hd,sn,sub,ab,col,dd,k0,k1,k2,k3,k5,cd,hC,hcd,hmro,hns,_,T,hok⟩:=yC X e;have F:=Ga;have hi':nsIn K N "__init__" = some none:=by unfold yN at hi;rw[hcd] at hi;rw[<-hns];exact hi
 have hn:h.Ns N (h.nsMap N):=GG (G4 X hok);have hm:=nsMap_none_of_in X hok hi';generalize h.nsMap N=mN at hn hm
 repeat (first | (with_reducible refine u6 hC ?_) | (with_reducible refine wpAny_madeBy_exc hC ?_) | wp_step)
 refine Hb (Code.quiet_builtin _ F.quiet) (HA F T hC (HB F T hC ?_ hr));show wpAny (model prog w) _ _ _ _ _;have up:∀ b o,h.get? b=some o->((h.push ({ cls:=.type "tuple",data:=.seq rest.toArray }:Obj)).push ({ cls:=.ref C,data:=.fields #[.ref h.objs.size,.none,.none,.none,.bool false,.none] }:Obj)).get? b=some o:=λb o z=>uf ({ cls:=.ref C,data:=.fields #[.ref h.objs.size,.none,.none,.none,.bool false,.none] }:Obj) (uf ({ cls:=.type "tuple",data:=.seq rest.toArray }:Obj) z);have hC1:=up _ _ hC;have hn1:((h.push ({ cls:=.type "tuple",data:=.seq rest.toArray }:Obj)).push ({ cls:=.ref C,data:=.fields #[.ref h.objs.size,.none,.none,.none,.bool false,.none] }:Obj)).Ns N mN:=hn.keeps up;have T1:=T.keeps up;have hget:((h.push ({ cls:=.type "tuple",data:=.seq rest.toArray }:Obj)).push ({ cls:=.ref C,data:=.fields #[.ref h.objs.size,.none,.none,.none,.bool false,.none] }:Obj)).get? (h.objs.size+1)=some ({ cls:=.ref C,data:=.fields #[.ref h.objs.size,.none,.none,.none,.bool false,.none] }:Obj):=by have:=uB (h.push ({ cls:=.type "tuple",data:=.seq rest.toArray }:Obj)) (o:=({ cls:=.ref C,data:=.fields #[.ref h.objs.size,.none,.none,.none,.bool false,.none] }:Obj)) rfl;rwa [gP] at this
 have hcC:(Value.ref C::bm).contains (.ref C)=true:=aD
 unfold isInstance
 repeat (first | (with_reducible refine u6 hget ?_) | (with_reducible refine gu hC1 ?_;rw[hcC]) | wp_step)
 show wpAny (model prog w) _ (typeLookup (.ref C) _) _ _ _;refine Hv hC1 hn1 T1 F.mroIs F.init.lookup ?_;rw[hm];refine Uo (ua (wpAny_of_eq (F.init.bind _) ?_));refine ua (Yp (K:=K) (C:=C) (λa o z=>up _ _ (X a o z)) e hget rfl hr λh' z1 z2=>?_)
 wp_walk;refine hq h' (h.objs.size+1) _ _ (UM _) (λb o hb=>z1 b o (λy=>?_) (up b o hb)) z2 ⟨_,rfl⟩ rfl;rw[y,gk (UM _)] at hb;cases hb
def zcL {s:Shared}{rest:Lf}(X:K.In s.heap)(e:xj K C=true)(hi:yN K C=some none)(hr:rest.length<=sizeLine) (hq:∀ h' x (vs:Array Value) (sl:Array (Option Value)),s.heap.objs.size<=x->(∀ b o,s.heap.get? b=some o->h'.get? b=some o)->h'.get? x=some ⟨.ref C,none,.fields vs,sl⟩->(∃ t0,vs[0]? = some (.ref t0))->vs[1]? = some .none->Q (.ref x) { s with heap:=h' }):wpAny (model prog w) A (call (.ref C) rest) Q E s:=by
 let⟨h,g,d,t,os⟩:=s;let⟨nm,q,N,bs,bm,hd,sn,sub,ab,col,dd,k0,k1,k2,k3,k5,cd,hC,_⟩:=yC X e;have f1:=tc_lookup;have f2:=tc_bind (.ref C);have hT:(⟨h,g,d,t,os⟩:Shared).TypeIs (.ref C) "type":=⟨_,hC,rfl⟩
 refine UO (codeAny_of_tree ?_);show wpAny (model prog w) _ (callAny (.ref C) _) _ _ _
 repeat (any_goals (first | assumption | (with_reducible refine u6 hC ?_) | wp_step))
 exact⟨rfl,Hl (Code.quiet_builtin _ aE) entry_typeCall (Hc hC (zdU X e hi hr hq))⟩
end
section
variable {X:Cx} {E:XS} {C:Addr} {x:Str} {e:Expr} {es:Lg} {t:TA} {np cpos pos:Pos} {j:Nat}
structure mD (K:Frag)(mg:La)(x:Str)(C:Addr):Prop where
 gl:mg x=some (.ref C)
 cl:dw K C
 kp:keepIn K (.ref C)=true
 ini:yN K C=some none
def Ec (C:Addr)(E:XS)(t:TA):TS:=λ_ U H=>t U H λvs H1=>vs.length<=1/\E (.ref C) none U H1
def zcM (hx:lL X E)(R:mD X.K X.mg x C)(hh:X.A.handled=none)(ha:PA X (e::es) t)(hg:Gl X x:=by rfl) (hdb:(x == ("__debug__":Str))=false:=by decide) (he:starEach (e::es) X.env=(false,eval e X.env)::starEach es X.env:=by rfl) (hpl:(backTo cpos (starEach es X.env)).any (·.1)=false:=by rfl) : PS X (.Raise (some (.Call (.Name x np) (e::es) [] cpos)) none pos) (Ec C E t):=by
 intro Lk s U H D I h;have c:=R.cl;rw[arm_exec_Raise];refine ua (UI (Xj (C:=C) (K:=X.K) hh ?_));refine ua (uG (Q:=λv T9=>∃ x dd vs sl,v=.ref x/\X.K.In T9.heap/\dw X.K C/\T9.heap.get? x=some ⟨.ref C,dd,.fields vs,sl⟩/\vs[1]? = some .none/\X.xe (.ref x) T9) ?_ (λv T9 T3=>ua (UI (uh T3))) λ_ _ z=>z);refine Uv (xu I hg R.gl ?_ hdb);refine gA (h₀:=X.base) I.ok.mod.kin R.kp (aX (ha cpos Lk s U H _ I h) λus s1 ⟨vs,H1,I1,r,hl,q⟩=>⟨I1.kIn,?_⟩) he hpl;have hlu:us.length=vs.length:=(Paired.length r).symm;refine zcL I1.kIn c.sh R.ini (by rw[uD,UH];lia) λh' a vs sl g1 up z1 ⟨t0,z2⟩ z3=>?_;have n1:=I1.hok.fresh g1;refine⟨a,none,_,_,rfl,I1.kIn.keeps up,c,z1,z3,hx _ _ ?_⟩;have np:∀ q∈X.pn,q.1≠a:=λq hq y=>by have:=(I1.pin q (uW _ hq)).1;exact absurd (uI (um this) (y ▸ g1)) (Uc _)
 refine⟨a,.ref C,none,H1,[],U,rfl,?_,uZ I1.sz g1,n1,np,.inl ⟨_,_,z1,z3,λ⟨_,_,_,z,_⟩=>nomatch z⟩,q⟩;have I4:Inv X [] U H1 s1:=I1.pins_of λp hp=>absurd hp aD;exact I4.kept (t':=s1.toks) up
end
structure fg (K:Frag)(H:Hp)(a C:Addr)(fs:List (Str×V)):Prop where
 cl:dw K C
 ex:(∃ d,vE H a C (some d)/\H d=some (.xd fs))\/(fs=[]/\vE H a C none)
theorem fg.mono {K:Frag}{H H':Hp}{a C:Addr}{fs:List (Str×V)}(g:fg K H a C fs)(s:aM H H'):fg K H' a C fs:= ⟨g.cl,g.ex.imp (λ⟨d,c,e⟩=>⟨d,c.mono s,s _ _ e⟩) λ⟨e,c⟩=>⟨e,c.mono s⟩⟩
section
variable {X:Cx} {Lk:Li} {U:St} {H:Hp} {s:Shared} {a C:Addr} {fs:List (Str×V)}
def Xo (I:Inv X Lk U H s)(g:fg X.K H a C fs):∃ (ox:Obj) (od:Option Obj),InstAt s.heap a ox C od:=by
 rcases g.ex with⟨d,c,e⟩ | ⟨_,o,e,h1,h2,vs,h3⟩
 ·let⟨ox,od,_,J,_⟩:=Yr I ⟨g.cl,d,c,e⟩;exact⟨ox,some od,J⟩
 ·let⟨e',_⟩:=(show zN X.prog X.w H s.heap a (.aV o (.own a)) from I.hok a _ e)
  exact⟨o,none,e',h1,by unfold notCls;rw[h3],by rw[h2];trivial⟩
def CI (K:Frag):List V->Hp->VK->Prop:=λxs H Q=>∃ a c C fs b,xs=[.ref a,c]/\fg K H a C fs/\rT c=true/\kitOne K (.ref C) (lz c)=some b/\Q (.bl b) H
def DK (K:Frag):List V->Hp->VK->Prop:=λxs H Q=>∃ a p C fs ys b,xs=[.ref a,.ref p]/\H p=some (.tup ys)/\fg K H a C fs/\ys.all rT=true/\kitAny K (.ref C) (ys.map lz)=some b/\Q (.bl b) H
def Xq {K:Frag}(hK:X.K=K):qD X (.builtin "isinstance") (CI K):=by subst hK;intro Lk s U H xs us Q I r h;let⟨a,c,C,fs,b,rfl,g,hc,e,q⟩:=h;let⟨u1,u2,rfl,r1,r2⟩:=vals2 r;obtain rfl:u1=Value.ref a:=r1;obtain rfl:=Eh hc r2;let⟨ox,od,J⟩:=Xo I g;exact Ur (Ek g.cl) I.kIn J e (λz=>nomatch z) λtk=>⟨.bl b,H,I.tok _,rfl,q⟩
def zal {K:Frag}(hK:X.K=K):qD X (.builtin "isinstance") (DK K):=by
 subst hK;intro Lk s U H xs us Q I r h;let⟨a,p,C,fs,ys,b,rfl,ep,g,hc,e,q⟩:=h;let⟨u1,u2,rfl,r1,r2⟩:=vals2 r;obtain rfl:u1=Value.ref a:=r1;obtain rfl:u2=Value.ref p:=r2;let⟨ox,od,J⟩:=Xo I g;let⟨_,its,rv,o,ho,hoc,n,hod⟩:=(show zN X.prog X.w H s.heap p (.tup ys) from I.hok p _ ep)
 obtain rfl:=Ys hc rv;let⟨oc,odi,oda,osl⟩:=o;dsimp only at hoc hod;subst hoc hod;exact kia_tup (Ek g.cl) I.kIn J ho e (λz=>nomatch z) λtk=>⟨.bl b,H,I.tok _,rfl,q⟩
end
section
variable {prog:Program} {w:World} {A:Around} {R:Result->Shared->Prop} {I d:Addr} {fp wr:Ld} {n:Nat} {P:Nat->Value->Prop} {St:Nat->Heap->Prop} {K:Type} [DecidableEq K] {knd:KeyKind prog w K}
end
section
variable {X:Cx} {Lk:Li} {U:L2.St} {H:Hp} {s:Shared}
end
end L2
namespace L5
open PySem L2 PySem.Spec PyProof.Rows
section
section
section
section
section
section
section
section
section
section
section
section
section
def L4:R2:=λx y H Q=>∃ a b xs ys,x=.ref a/\y=.ref b/\H a=some (.tup xs)/\H b=some (.tup ys)/\xs.length+ys.length<=1000000 /\ (ys=[]->Q (.ref a) H)/\(xs=[]->Q (.ref b) H)/\∀ p,H p=none->Q (.ref p) (upd H p (.tup (xs++ys)))
def Ra:bR X (binaryOp .Add) L4:=by
 intro Lk s U H x y v u Q I rx ry h;let⟨a,b,xs,ys,rfl,rfl,ha,hb,hz,q1,q2,q3⟩:=h;by_cases hx:xs=[]
 ·subst hx;cases rx;cases ry;let⟨its,r1,p1,_⟩:=I.tuple (bP.of ha);let⟨its2,r2,p2,_⟩:=I.tuple (bP.of hb);let⟨⟨cls,dd,data,sl⟩,ho,hc,n,hd⟩:=id p1;let⟨⟨cls2,dd2,data2,iW⟩,ho2,hc2,n2,hd2⟩:=id p2;simp only at hc hd hc2 hd2;subst hc hd hc2 hd2;have e0:its=[]:=r1.nil_iff.mpr rfl
  exact G1 ⟨_,ho,rfl⟩ ⟨_,ho2,rfl⟩ GA GR GB Gr (Gk _ _)
   (tuple_addW0 a b its.toArray its2.toArray n n2 dd dd2 sl iW (by simp[e0])) ⟨ho,ho2,.ref b,H,I,rfl,q2 rfl⟩
 ·exact SA Lk s U H _ _ v u Q I rx ry ⟨a,b,xs,ys,rfl,rfl,bP.of ha,bP.of hb,hx,by rw[uD];lia,λe=>q1 e,λ_ p hp=>q3 p hp⟩
def Ba:V->Option Int->Option Int->Hp->VK->Prop:=λx lo hi H Q=>∃ a xs,x=.ref a/\H a=some (.tup xs)/\(ei xs lo hi=xs->Q (.ref a) H)/\∀ p,H p=none->Q (.ref p) (upd H p (.tup (ei xs lo hi)))
def P9:iR X Ba:=by
 intro Lk s U H x v vl vu lo hi sl Q I rx hs pl pu h;let⟨a,xs,rfl,hx,q1,q2⟩:=h;by_cases hw:HT.aR xs.length 0 lo=0/\HT.aR xs.length xs.length hi=xs.length
 ·cases rx;let⟨its,r,ht,hz⟩:=I.tuple (bP.of hx);have hlen:its.toArray.size=xs.length:=by rw[uu];exact r.length.symm
  refine⟨"tuple",_,PyProof.Rows.slot_tuple_getitem.lookup,ht.typeIs,?_⟩;refine HT.kW ht hs pl pu (by rw[hlen];exact hw) ⟨.ref a,H,I,rfl,q1 ?_⟩;unfold ei;rw[hw.1,hw.2,gm,Nat.sub_zero,Hg]
 ·exact N4 Lk s U H _ v vl vu lo hi sl Q I rx hs pl pu ⟨a,xs,rfl,bP.of hx,hw,q2⟩
def xN (h:bR X f r)(k:bR X f r'):bR X f (λx y H Q=>r x y H Q\/r' x y H Q):=by
 intro Lk s U H x y v u Q I rx ry z;rcases z with z | z
 ·exact h Lk s U H x y v u Q I rx ry z
 ·exact k Lk s U H x y v u Q I rx ry z
def p7:R2:=λx y H Q=>∃ a v,x=.ref a/\dS H a y (some v)/\Q v H
def P8 {X:Cx}(hu:X.A.units+1<cLine):iT X p7:=by
 intro value slice Lk s U H x y v u Q I rx ry h hs;let⟨a,z,rfl,g,q⟩:=h;obtain rfl:v=Value.ref a:=rx;have hT:=Yy I g;unfold subscriptTail;refine ua ?_;rw[getitemInPython_of_ne hT.not_modules];refine ua (wpAny_specialOf hT PySem.F.slot_dict_getitem.lookup ?_);have fin:Lb X (subscripted slice false (.ref a) u) (λr TX=>Lb X (letTemporaryGo value (.ref a) r >>= λ_=>pure r) (EP X Lk U Q) X.xe TX) X.xe s:=by rw[hs];exact wpAny_operating (uG (zcE (Q:=EP X Lk U Q) hu I g ry λw' s3 I3 rw'=>⟨z,H,I3,rw',q⟩) (λr TX TM=>ua (wpAny_letTemporaryGo (uh TM))) λ_ _ x=>x)
 first
  | exact uh (ua fin)
  | exact ua (uh (ua fin))
  | exact ua fin
def AE (h:iT X r)(k:iT X r'):iT X (λx y H Q=>r x y H Q\/r' x y H Q):=by
 intro value slice Lk s U H x y v u Q I rx ry z hs;rcases z with z | z
 ·exact h value slice Lk s U H x y v u Q I rx ry z hs
 ·exact k value slice Lk s U H x y v u Q I rx ry z hs
def DJ (h:iR X r)(k:iR X r'):iR X (λx lo hi H Q=>r x lo hi H Q\/r' x lo hi H Q):=by
 intro Lk s U H x v vl vu lo hi sl Q I rx hs pl pu z;rcases z with z | z
 ·exact h Lk s U H x v vl vu lo hi sl Q I rx hs pl pu z
 ·exact k Lk s U H x v vl vu lo hi sl Q I rx hs pl pu z
def JK (h:qD X f r)(k:qD X f r'):qD X f (λxs H Q=>r xs H Q\/r' xs H Q):=by
 intro Lk s U H xs us Q I rx z;rcases z with z | z
 ·exact h Lk s U H xs us Q I rx z
 ·exact k Lk s U H xs us Q I rx z
def ra (n:Bool):R2:=λx y H Q=>∃ a o,y=.ref a/\dS H a x o/\Q (.bl (if n=true then !o.isSome else o.isSome)) H
def MH {X:Cx}(hu:X.A.units+1<cLine):bR X (compareOp .In) (ra false):=by intro Lk s U H x y v u Q I rx ry h;let⟨a,o,rfl,g,q⟩:=h;cases ry;exact BL hu I g rx λs' I'=>⟨.bl o.isSome,H,I',rfl,q⟩
def zcN {X:Cx}(hu:X.A.units+1<cLine):bR X (compareOp .NotIn) (ra true):=by intro Lk s U H x y v u Q I rx ry h;let⟨a,o,rfl,g,q⟩:=h;cases ry;exact SY hu I g rx λs' I'=>⟨.bl !o.isSome,H,I',rfl,q⟩
def MG {X:Cx}{Lk:Li}{s:Shared}(I:Inv X Lk U H s)(rx:RelV x u)(ty:bV X.K H x t):∃ P,PySem.W.KitX X.K u t P/\P s.heap/\u≠Value.builtin "__main__.__loader__#opaque":=by
 cases ty with
 | non=>cases (show u=Value.none from rx);exact⟨_,PySem.W.kitx_none,True.intro,λz=>nomatch z⟩
 | bl y=>cases (show u=Value.bool y from rx);exact⟨_,PySem.W.kitx_bool,True.intro,λz=>nomatch z⟩
 | int i=>let⟨t,q⟩:=(show ∃ t,u=Value.int i t from rx);cases q;exact⟨_,PySem.W.kitx_int,True.intro,λz=>nomatch z⟩
 | str y=>let⟨t,q⟩:=(show ∃ t,u=Value.str y t from rx);cases q;exact⟨_,PySem.W.kitx_str,True.intro,λz=>nomatch z⟩
 | flt y=>let⟨t,q⟩:=(show ∃ t,u=Value.float y t from rx);cases q;exact⟨_,PySem.W.kitx_float,True.intro,λz=>nomatch z⟩
 | @lst a xs ea=>
  cases (show u=Value.ref a from rx);let⟨_,_,n,_,h1⟩:=(show zN X.prog X.w H s.heap a (.lst xs) from I.hok a _ ea)
  exact⟨_,Gf,⟨_,h1,rfl⟩,λz=>nomatch z⟩
 | @aV a ob xs ea=>
  cases (show u=Value.ref a from rx);let⟨_,_,_,n,_,h1⟩:=(show zN X.prog X.w H s.heap a (.aV ob (.lst xs)) from I.hok a _ ea)
  exact⟨_,Gf,⟨_,h1,rfl⟩,λz=>nomatch z⟩
 | @tup a xs ea=>
  cases (show u=Value.ref a from rx);let⟨_,_,_,p⟩:=(show zN X.prog X.w H s.heap a (.tup xs) from I.hok a _ ea)
  let⟨o,h1,h2,_⟩:=p;exact⟨_,PySem.W.kitx_tuple,⟨o,h1,h2⟩,λz=>nomatch z⟩
 | @dK a kvs ea=>
  cases (show u=Value.ref a from rx);let⟨_,_,vs,_,p⟩:=(show zN X.prog X.w H s.heap a (.dK kvs) from I.hok a _ ea)
  let⟨o,es,ep,h1,h2,_⟩:=p;exact⟨_,Gg,⟨o,h1,h2.1⟩,λz=>nomatch z⟩
 | @dT a kvs ea=>
  cases (show u=Value.ref a from rx);let⟨_,_,xs,_,o,es,ep,h1,h2,_⟩:=(show zN X.prog X.w H s.heap a (.dT kvs) from I.hok a _ ea)
  exact⟨_,Gg,⟨o,h1,h2.1⟩,λz=>nomatch z⟩
 | @ins a C dx fs ea cl ha hn htk hm=>cases (show u=Value.ref a from rx);let⟨mA,Z',_⟩:=ZF I.hok ea;let⟨od,J,_⟩:=Z'.look;exact⟨_,PySem.W.kitx_own (cl.get _) cl.hd ha hn htk hm,J,λz=>nomatch z⟩
def p8 (K:Le)(ns:List String):List V->Hp->VK->Prop:=λxs H Q=>∃ x p t b,xs=[x,.ref p]/\H p=some (.tup (ns.map V.ty))/\bV K H x t/\PySem.W.kitAny K t (ns.map Value.type)=some b/\Q (.bl b) H
theorem Eb:∀ {ns:List String} {us:Lf},Vals (ns.map V.ty) us->us=ns.map Value.type
 | [],_,h=>by cases h;rfl
 | _::ns,_,h=>by
  cases h with
  | cons h t=>cases h;rw[Eb t];rfl
def zdX {X:Cx}{K:Le}{ns:List String}(hK:X.K=K):qD X (.builtin "isinstance") (p8 K ns):=by
 subst hK;intro Lk s U H xs us Q I r h;let⟨x,p,t,b,rfl,hp,ty,e,q⟩:=h;let⟨u1,u2,rfl,r1,r2⟩:=vals2 r;obtain rfl:u2=Value.ref p:=r2;let⟨P,k1,k2,k3⟩:=MG I r1 ty;let⟨_,its,rv,o,ho,hoc,n,hod⟩:=(show zN X.prog X.w H s.heap p (.tup (ns.map V.ty)) from I.hok p _ hp)
 obtain rfl:=Eb rv;let⟨oc,odi,oda,osl⟩:=o;dsimp only at hoc hod;subst hoc hod;exact PySem.W.kia_tup k1 I.kIn k2 ho e k3 λtk=>⟨.bl b,H,I.tok _,rfl,q⟩
def bV.mono {K:Le}{H H':Hp}(g:aM H H'){x:V}{t:Value}(h:bV K H x t):bV K H' x t:=by
 cases h with
 | non=>exact .non
 | bl y=>exact .bl y
 | int i=>exact .int i
 | str y=>exact .str y
 | flt y=>exact .flt y
 | lst e=>exact .lst (g _ _ e)
 | aV e=>exact .aV (g _ _ e)
 | tup e=>exact .tup (g _ _ e)
 | dK e=>exact .dK (g _ _ e)
 | dT e=>exact .dT (g _ _ e)
 | ins e cl ha hn htk hm=>exact .ins (g _ _ e) cl ha hn htk hm
def A1 (ns:List String):TA:=λU H Q=>Q (ns.map V.ty) H
noncomputable def star:Expr->Bool
 | .Starred _ _=>true
 | _=>false
def cG (es:Lg):Bool:=es.all λe=>!star e
def zg (h:star e=false):starEach (e::es) env=(false,eval e env)::starEach es env:=by cases e<;>first | rfl | cases h
theorem zP:∀ {es:Lg} {env:Env} {pos:Pos},cG es=true->(backTo pos (starEach es env)).any (·.1)=false
 | [],env,pos,_=>rfl
 | e::es,env,pos,h=>by unfold cG at h;rw[UW,uS] at h;rw[zg (by simpa using h.1)];have:=zP (es:=es) (env:=env) (pos:=pos) h.2;simp only[backTo,uA,UX,Gm] at this |-;exact this
theorem Yz:∀ {es:Lg} {env:Env} {pos:Pos},cG es=true->(backTo pos (starEach es env)).all (λx=>!x.1)=true
 | [],env,pos,_=>rfl
 | e::es,env,pos,h=>by unfold cG at h;rw[UW,uS] at h;rw[zg (by simpa using h.1)];have:=Yz (es:=es) (env:=env) (pos:=pos) h.2;simp only[backTo,uA,UW,Bool.not_false,Gp] at this |-;exact this
def yS {es:Lg}(h:cG es=true)(hl:es.length<30):((backTo pos (starEach es env)).all (λx=>!x.1)&&(backToKw pos (keywordEach [] env)).all (λx=>x.1.isSome) && decide (es.length+([]:List Keyword).length+(if ([]:List Keyword).isEmpty then 0 else 1)<30))=true:=by rw[Yz h];simp only[Gp,uS,decide_eq_true_eq];exact⟨rfl,by simpa using hl⟩
noncomputable def Jf:Expr->Bool
 | .Slice _ _ _ _=>false
 | _=>true
def zdY (h:Jf e=true):En e:=by intro o i;cases e<;>first | rfl | cases h
def zw (h:cG (e::es)=true):star e=false/\cG es=true:=by unfold cG at h;rw[UW,uS] at h;exact⟨by simpa using h.1,h.2⟩
noncomputable def qO:Expr->Bool
 | .Call (.Name _ _) [] [] _=>false
 | _=>true
def z8 (h:qO o=true):attributeBase o nm env wh=wh:=by
 cases o with
 | Call f a k p=>cases f<;>first | exact rfl | (cases a<;>cases k<;>first | exact rfl | cases h)
 | _=>rfl
noncomputable def plainT:Expr->Bool
 | .Name _ _=>true
 | .Call _ _ _ _=>true
 | .Subscript _ _ _=>true
 | .Attribute _ _ _=>true
 | .ListComp _ _ _ _=>true
 | .BinOp _ _ _ _=>true
 | _=>false
def P7 {e:Expr}(h:plainT e=true):∀ whole,isTrue e env whole=(do let v <-whole;standAt e.pos;holding [v] (truthy v)):=by intro wh;cases e<;>first | rfl | cases h
noncomputable def An:Expr->Bool
 | .Set _ _ _=>false
 | _=>true
def AD (h:An e=true):∀ x,foldedSetIterable e env x=pure x:=by intro x;cases e<;>first | rfl | cases h
noncomputable def X8:Expr->Bool
 | .ListComp _ _ _ _=>false
 | .SetComp _ _ _ _=>false
 | .DictComp _ _ _ _ _=>false
 | _=>true
def X9 (h:X8 e=true):swapsWith e tg l env=pure false:=by cases e<;>first | rfl | cases h
noncomputable def CH:Expr->Bool
 | .Tuple _ _ _=>false
 | _=>true
noncomputable def rH:Expr->Bool
 | .Tuple _ _ _=>false
 | .List _ _=>false
 | _=>true
def zJ {P:Prop}(h:false=true):P:=nomatch h
def zj {α:Type}{x:α}{P:Prop}(h:none=some x):P:=nomatch h
def zcO (h:(rH tg||CH e)=true):swappedStores [tg] e env=pure none:=by cases tg<;>first | exact rfl | (cases e<;>first | exact rfl | cases h)
def zao (h:star tg=false):(assignEach [tg] env).map (·.2)=[assign tg env]:=by cases tg<;>first | rfl | cases h
noncomputable def okN (x:Str):Bool:=!(x == ("__debug__":Str))&&!(x == ("__classdict__":Str))
noncomputable def AX (sc:Scope)(x:Str):Bool:=decide (sc.names.lookup x=some .local)||decide (sc.names.lookup x=some .cell)||decide (sc.names.lookup x=some .free)
def glb (sc:Scope)(x:Str):Bool:=decide (sc.names.lookup x=some .globalImplicit)&&okN x
noncomputable def mW (scope sc:Scope):Scope:={ kind:=scope.kind,names:=scope.names.map λx=>match x with
 | (n,k)=>if (k == NameKind.free&&sc.kind == ScopeKind.function&&sc.names.lookup n == some NameKind.cell)=true then(n,NameKind.cell) else(n,k),isGenerator:=scope.isGenerator,isCoroutine:=scope.isCoroutine,more:=scope.more }
def MF (kvs:List (Key×V))(t:TA):TE:=λU H Q=>t U H λvs H1=>∃ k z,vs=[kV k,z]/\Q ((cL kvs k).getD z) H1
def zd0 {X:Cx}{p apos cpos:Pos}(hm:∃ a,X.mg x=some (.ref a)/\sQ X.w X.K a kvs)(ha:PA X [e,f] t)(hg:Gl X x)(hd:(x == ("__debug__":Str))=false)(hs:cG [e,f]=true) (hl:(apos.endLine == cpos.line)=true):PE X (.Call (.Attribute (.Name x p) "get" apos) [e,f] [] cpos) (MF kvs t):=by
 intro Lk s U H Q I h;let⟨a,hm,D⟩:=hm;refine wpAny_Call_method (z8 rfl) (yS hs aD) hl PySem.F.plainAttrs_dict PySem.F.slot_dict_get PySem.F.type_dict_get (xu I hg hm ?_ hd);let⟨h0,vs,rel,dd⟩:=D.at I;refine⟨dd.typeIs,λb q=>?_,?_⟩
 ·cases q;let⟨ob,_,_,h1,h2,_⟩:=dd;exact⟨ob,h1,h2.2.1⟩
 have hA:=ha cpos Lk s U H _ I h;let⟨s1,s2⟩:=zw hs;rw[zg s1] at hA |-;refine Calls.callWith_builtin (by show(false||(backTo cpos (starEach [f] X.env)).any (·.1))=false;rw[zP s2]<;>rfl) (Calls.evalArgs_plain ?_);refine aX hA λus s2 ⟨xs,H2,I2,r,k,z,ex,q2⟩=>?_;subst ex;let⟨u1,u2,rfl,r1,r2⟩:=vals2 r;let⟨_,vs2,rel2,dd2⟩:=D.at I2;refine call_meetsIn PySem.F.slot_dict_get dd2.typeIs PySem.F.entry_dict_get (PySem.F.args_dict_get_3 _ _ _) (meets_dict_get_default (z5 X.prog X.w) a (Xk r1) h0 u2) ⟨_,dd2.mapOf,_,H2,I2.tok _,?_,q2⟩;exact(rel2.val k).getD r2
def L3 (h:S l=S m):l=m:=by
 have:(S l).cps.toList=(S m).cps.toList:=by rw[h]
 simpa[S] using this
def BC (K:Le)(tl:TE):TI:=λU H R=>tl U H λx H1=>(∃ a,x=.ref a/\(∃ xs,cJ K H1 a xs)/\R (t6 K a) H1)\/(∃ z,x=.str z/\R (nM z) H1)\/∃ a,x=.ref a/\(∃ xs,bP K H1 a xs)/\R (tZ K a) H1
def MD {X:Cx}{K:Le}{tg l:Expr}{tl:TE}(hK:X.K=K)(hl:PE X l tl):PI X tg l (BC K tl):=by
 subst hK;intro Lk s U H R I h;refine aX (hl Lk s U H _ I h) λv s1 ⟨x,H1,I1,r1,q1⟩=>?_;rcases q1 with⟨a,e,⟨xs,hq⟩,q⟩ | ⟨z,rfl,q⟩ | ⟨a,e,⟨xs,hq⟩,q⟩
 ·subst e;cases r1;let⟨its,rv,p,hz⟩:=I1.list hq;refine HW p.isList ?_;refine⟨s1.heap.objs.size,[s1.heap.objs.size],_,_,H1,rfl,I1.kept (t':=s1.toks) λb o e=>uf _ e,zcj a _,⟨_,uB _ rfl,rfl,rfl⟩,λb hb=>?_,q⟩;have e:b=s1.heap.objs.size:=by simpa using hb
  subst e;exact I1.fpOk (uj _) (I1.hok.fresh (uj _))
 ·let⟨t,rfl⟩:=r1
  have fin:∀ (ty:String) (o:Obj),Turn X.prog X.w X.K tg (nM z) [s1.heap.objs.size] s1.heap.objs.size (λi h=>h.IsStrIter s1.heap.objs.size ty z t i)->(s1.heap.push o).IsStrIter s1.heap.objs.size ty z t 0 ->
    tW X Lk U tg R (.ref s1.heap.objs.size) { s1 with heap:=s1.heap.push o }:=λty o T st=>by
   refine⟨s1.heap.objs.size,[s1.heap.objs.size],_,_,H1,rfl,I1.kept (t':=s1.toks) λb o e=>uf _ e,T,st,λb hb=>?_,q⟩
   have e:b=s1.heap.objs.size:=by simpa using hb
   subst e
   exact I1.fpOk (uj _) (I1.hok.fresh (uj _))
  cases ha:z.cps.all (· < 128)
  ·refine wpAny_pyIter_wide ha (fin "str_iterator" _ (QR aA (λA' hA=>Walks.strWide hA _ z t) ?_ ?_) ⟨_,uB _ rfl,rfl,rfl⟩)
   ·intro A' s i E Q hA st hx hq;exact wpAny_pyNext_wide_end hA st hx hq
   ·intro A' s i E Q st h;exact wpAny_pyIter_striter_wide st h
  ·refine wpAny_pyIter_ascii ha (fin "str_ascii_iterator" _ (QR aA (λA' hA=>Walks.strAscii hA _ z t) ?_ ?_) ⟨_,uB _ rfl,rfl,rfl⟩)
   ·intro A' s i E Q hA st hx hq;exact wpAny_pyNext_ascii_end hA st hx hq
   ·intro A' s i E Q st h;exact wpAny_pyIter_striter_ascii st h
 ·subst e;cases r1;let⟨its,rv,p,hz⟩:=I1.tuple hq;refine wpAny_pyIter_tuple (show s1.heap.IsTuple a its.toArray from p) ?_;refine⟨s1.heap.objs.size,[s1.heap.objs.size],_,_,H1,rfl,I1.kept (t':=s1.toks) λb o e=>uf _ e,KS a _,⟨_,uB _ rfl,rfl,rfl⟩,λb hb=>?_,q⟩;have e:b=s1.heap.objs.size:=by simpa using hb
  subst e;exact I1.fpOk (uj _) (I1.hok.fresh (uj _))
inductive Kd where
 | ls | dc (ks:List Key) | ob (c:Nat) (fs:Lh)
inductive T where
 | non | bl (b:Bool) | int (i:Int) | str (t:Lc)
 | tp (xs:List T) | nd (o:Bool) (k:Kd) (xs:List T)
 | ks (l:Bool) (xs:List T) | xo (c:Nat) (fs:Lh) (xs:List T) | any | pin (G:Hp)
mutual
def aV:T->T
 | .tp xs=>.tp (aL xs)
 | .nd _ k xs=>.nd false k (aL xs)
 | .ks l xs=>.ks l (aL xs)
 | .xo c fs xs=>.xo c fs (aL xs)
 | t=>t
def aL:List T->List T
 | []=>[]
 | t::ts=>aV t::aL ts
end
mutual
def shr:T->Bool
 | .tp xs=>aI xs
 | .nd o _ _=>!o
 | _=>true
def aI:List T->Bool
 | []=>true
 | t::ts=>shr t&&aI ts
end
mutual
def view:T->T
 | .tp xs=>.tp (views xs)
 | .nd o k xs=>cond o .any (.nd false k xs)
 | t=>t
def views:List T->List T
 | []=>[]
 | t::ts=>view t::views ts
end
mutual
theorem zd1:∀ t:T,shr (view t)=true
 | .non=>rfl
 | .bl _=>rfl
 | .int _=>rfl
 | .str _=>rfl
 | .any=>rfl
 | .pin _=>rfl
 | .ks _ _=>rfl
 | .xo _ _ _=>rfl
 | .tp ts=>v9 ts
 | .nd true _ _=>rfl
 | .nd false _ _=>rfl
theorem v9:∀ ts:List T,aI (views ts)=true
 | []=>rfl
 | t::ts=>Ui.mpr ⟨zd1 t,v9 ts⟩
end
mutual
theorem P6:∀ {t:T},shr t=true->view t=t
 | .non,_=>rfl
 | .bl _,_=>rfl
 | .int _,_=>rfl
 | .str _,_=>rfl
 | .any,_=>rfl
 | .pin _,_=>rfl
 | .ks _ _,_=>rfl
 | .xo _ _ _,_=>rfl
 | .tp ts,h=>congrArg T.tp (JL (ts:=ts) h)
 | .nd true _ _,h=>by cases h
 | .nd false _ _,_=>rfl
theorem JL:∀ {ts:List T},aI ts=true->views ts=ts
 | [],_=>rfl
 | t::ts,h=>by let⟨h1,h2⟩:=Ui.mp h;rw[views,P6 h1,JL h2]
end
theorem Qr:∀ ts:List T,(views ts).length=ts.length
 | []=>rfl
 | t::ts=>congrArg (· + 1) (Qr ts)
structure Wd where
 K:Le
 cl:Nat->Addr
 mg:Str->Option Value
 P:Program
 w:World
 base:Heap
def nL (W:Wd):Kd->List V->HO->Prop
 | .ls,vs,o=>o=.lst vs
 | .dc ks,vs,o=>∃ kvs,o=.dK kvs/\kvs.map (·.1)=ks/\kvs.map (·.2)=vs
 | .ob c fs,vs,o=>∃ dx kvs,o=.ins (W.cl c) dx kvs/\kvs.map (·.1)=fs/\kvs.map (·.2)=vs
variable {W:Wd}
mutual
def bY (W:Wd)(F:Hp):T->V->Prop
 | .non,v=>v=.non
 | .bl b,v=>v=.bl b
 | .int i,v=>v=.int i
 | .str t,v=>v=.str (S t)/\t.length<=16777216
 | .tp ts,v=>∃ p vs,v=.ref p/\F p=some (.tup vs)/\aH W F ts vs
 | .nd b k ts,v=>∃ p vs o,v=.ref p/\F p=some o/\nL W k vs o/\(b=false->aI ts=true)/\aH W F ts vs
 | .ks l ts,v=>∃ p vs,v=.ref p/\(if l=true then cJ W.K F p vs else bP W.K F p vs)/\aI ts=true/\aH W F ts vs
 | .xo c fs ts,v=>∃ p kvs,v=.ref p/\fg W.K F p (W.cl c) kvs/\kvs.map (·.1)=fs/\aI ts=true/\aH W F ts (kvs.map (·.2))
 | .any,_=>True
 | .pin G,_=>aM G F
def aH (W:Wd)(F:Hp):List T->List V->Prop
 | [],vs=>vs=[]
 | d::ds,vs=>∃ v r,vs=v::r/\bY W F d v/\aH W F ds r
end
def JM {K:Le}{H H':Hp}(g:aM H H'){a:Addr}{xs:List V}(h:cJ K H a xs):cJ K H' a xs:=by
 rcases h with(h | ⟨o,h⟩) | h
 ·exact .inl (.inl (g _ _ h))
 ·exact .inl (.inr ⟨o,g _ _ h⟩)
 ·exact .inr h
def JN {K:Le}{H H':Hp}(g:aM H H'){a:Addr}{xs:List V}(h:bP K H a xs):bP K H' a xs:=by
 rcases h with(h | ⟨o,h⟩) | h
 ·exact .inl (.inl (g _ _ h))
 ·exact .inl (.inr ⟨o,g _ _ h⟩)
 ·exact .inr h
mutual
theorem bY.mono (g:aM F F'):∀ {d:T} {v:V},bY W F d v->bY W F' d v
 | .non,_,h=>h
 | .bl _,_,h=>h
 | .int _,_,h=>h
 | .str _,_,h=>h
 | .any,_,h=>h
 | .pin _,_,h=>λb o e=>g _ _ (h b o e)
 | .tp _,_,⟨p,vs,e,h1,h2⟩=>⟨p,vs,e,g _ _ h1,aH.mono g h2⟩
 | .nd _ _ _,_,⟨p,vs,o,e,h1,h2,h3,h4⟩=>⟨p,vs,o,e,g _ _ h1,h2,h3,aH.mono g h4⟩
 | .ks true _,_,⟨p,vs,e,h1,h2,h3⟩=>⟨p,vs,e,JM g h1,h2,aH.mono g h3⟩
 | .ks false _,_,⟨p,vs,e,h1,h2,h3⟩=>⟨p,vs,e,JN g h1,h2,aH.mono g h3⟩
 | .xo _ _ _,_,⟨p,vs,e,h1,h4,h5,h6⟩=>⟨p,vs,e,h1.mono g,h4,h5,aH.mono g h6⟩
theorem aH.mono (g:aM F F'):∀ {ds:List T} {vs:List V},aH W F ds vs->aH W F' ds vs
 | [],_,h=>h
 | _::_,_,⟨v,r,e,h1,h2⟩=>⟨v,r,e,bY.mono g h1,aH.mono g h2⟩
end
mutual
theorem ZJ:∀ t:T,shr (aV t)=true
 | .non=>rfl
 | .bl _=>rfl
 | .int _=>rfl
 | .str _=>rfl
 | .any=>rfl
 | .pin _=>rfl
 | .ks _ _=>rfl
 | .xo _ _ _=>rfl
 | .tp ts=>xI ts
 | .nd _ _ _=>rfl
theorem xI:∀ ts:List T,aI (aL ts)=true
 | []=>rfl
 | t::ts=>Ui.mpr ⟨ZJ t,xI ts⟩
end
mutual
theorem bY.aV:∀ {d:T} {v:V},bY W F d v->bY W F (aV d) v
 | .non,_,h=>h
 | .bl _,_,h=>h
 | .int _,_,h=>h
 | .str _,_,h=>h
 | .any,_,h=>h
 | .pin _,_,h=>h
 | .ks _ ts,_,⟨p,vs,e,h1,_,h2⟩=>⟨p,vs,e,h1,xI ts,aH.aV h2⟩
 | .xo _ _ ts,_,⟨p,vs,e,h1,h2,_,h3⟩=>⟨p,vs,e,h1,h2,xI ts,aH.aV h3⟩
 | .tp _,_,⟨p,vs,e,h1,h2⟩=>⟨p,vs,e,h1,aH.aV h2⟩
 | .nd _ _ ts,_,⟨p,vs,o,e,h1,h2,_,h3⟩=>⟨p,vs,o,e,h1,h2,λ_=>xI ts,aH.aV h3⟩
theorem aH.aV:∀ {ds:List T} {vs:List V},aH W F ds vs->aH W F (aL ds) vs
 | [],_,h=>h
 | _::_,_,⟨v,r,e,h1,h2⟩=>⟨v,r,e,bY.aV h1,aH.aV h2⟩
end
mutual
theorem bY.view:∀ {d:T} {v:V},bY W F d v->bY W F (view d) v
 | .non,_,h=>h
 | .bl _,_,h=>h
 | .int _,_,h=>h
 | .str _,_,h=>h
 | .any,_,h=>h
 | .pin _,_,h=>h
 | .ks _ _,_,h=>h
 | .xo _ _ _,_,h=>h
 | .tp _,_,⟨p,vs,e,h1,h2⟩=>⟨p,vs,e,h1,aH.view h2⟩
 | .nd true _ _,_,_=>trivial
 | .nd false _ _,_,h=>h
theorem aH.view:∀ {ds:List T} {vs:List V},aH W F ds vs->aH W F (views ds) vs
 | [],_,h=>h
 | _::_,_,⟨v,r,e,h1,h2⟩=>⟨v,r,e,bY.view h1,aH.view h2⟩
end
theorem aH.len:∀ {ds:List T} {vs:List V},aH W F ds vs->vs.length=ds.length
 | [],_,h=>by rw[show _=[] from h];rfl
 | _::_,_,⟨v,r,e,_,h2⟩=>by rw[e,uc,uc,aH.len h2]
inductive AT where
 | lf (t:T) (v:V) | tp (a:Addr) (xs:List AT) | nd (a:Addr) (k:Kd) (xs:List AT)
noncomputable def val:AT->V
 | .lf _ v=>v
 | .tp a _=>.ref a
 | .nd a _ _=>.ref a
abbrev vals (xs:List AT):List V:=xs.map val
mutual
def era:AT->T
 | .lf t _=>t
 | .tp _ xs=>.tp (aJ xs)
 | .nd _ k xs=>.nd true k (aJ xs)
def aJ:List AT->List T
 | []=>[]
 | a::as=>era a::aJ as
end
mutual
def dj:AT->List Addr
 | .lf _ _=>[]
 | .tp _ xs=>aW xs
 | .nd a _ xs=>a::aW xs
def aW:List AT->List Addr
 | []=>[]
 | a::as=>dj a++aW as
end
mutual
def OK (W:Wd)(F H:Hp):AT->Prop
 | .lf t v=>shr t=true/\bY W F t v
 | .tp a xs=>F a=some (.tup (vals xs))/\bL W F H xs
 | .nd a k xs=>(∃ o,H a=some o/\nL W k (vals xs) o)/\bL W F H xs
def bL (W:Wd)(F H:Hp):List AT->Prop
 | []=>True
 | a::as=>OK W F H a/\bL W F H as
end
theorem zH:∀ {as:List AT},bL W F H as↔∀ a∈as,OK W F H a
 | []=>⟨λ_ _ h=>(by cases h),λ_=>trivial⟩
 | a::as=>by rw[gn];exact and_congr Iff.rfl zH
theorem zt:∀ {as:List AT},aJ as=as.map era
 | []=>rfl
 | a::as=>congrArg (era a::·) (zt (as:=as))
theorem qP:∀ {as:List AT},aW as=as.flatMap dj
 | []=>rfl
 | a::as=>by rw[List.flatMap_cons,<-qP];rfl
def z9:aW (as++bs)=aW as++aW bs:=by rw[qP,qP,qP,List.flatMap_append]
mutual
theorem OK.ext (g:aM F F'):∀ {a:AT},OK W F H a->(∀ b∈dj a,∀ x,H b=some x->H' b=some x)->OK W F' H' a
 | .lf _ _,h,_=>⟨h.1,h.2.mono g⟩
 | .tp _ _,h,k=>⟨g _ _ h.1,bL.ext g h.2 k⟩
 | .nd _ _ _,⟨⟨o,h1,h2⟩,h3⟩,k=>⟨⟨o,k _ ug _ h1,h2⟩,bL.ext g h3 λb hb=>k b (uk _ hb)⟩
theorem bL.ext (g:aM F F'):∀ {as:List AT},bL W F H as->(∀ b∈aW as,∀ x,H b=some x->H' b=some x)->bL W F' H' as
 | [],_,_=>trivial
 | _::_,h,k=>⟨OK.ext g h.1 λb hb=>k b (uW _ hb),bL.ext g h.2 λb hb=>k b (uJ _ hb)⟩
end
mutual
theorem OK.cell:∀ {a:AT},OK W F H a->∀ b∈dj a,∃ x,H b=some x
 | .lf _ _,_,b,hb=>by cases hb
 | .tp _ _,h,b,hb=>bL.cell h.2 b hb
 | .nd _ _ _,⟨⟨o,h1,_⟩,h3⟩,b,hb=>(uw.mp hb).elim (λz=>⟨o,by rw[z];exact h1⟩) (bL.cell h3 b)
theorem bL.cell:∀ {as:List AT},bL W F H as->∀ b∈aW as,∃ x,H b=some x
 | [],_,b,hb=>by cases hb
 | _::_,h,b,hb=>(uo.mp hb).elim (OK.cell h.1 b) (bL.cell h.2 b)
end
mutual
theorem OK.iu:∀ {a:AT},OK W F H a->∀ b∈dj a,∀ o u,H b≠some (.aV o u)
 | .lf _ _,_,b,hb=>by cases hb
 | .tp _ _,h,b,hb=>bL.iu h.2 b hb
 | .nd _ k _,⟨⟨o,h1,h2⟩,h3⟩,b,hb=>(uw.mp hb).elim (λz o' u e=>by
   rw[z,h1] at e
   cases e
   cases k with
   | ls=>cases h2
   | dc ks=>let⟨_,h2,_⟩:=h2;cases h2
   | ob c fs=>let⟨_,_,h2,_⟩:=h2;cases h2) (bL.iu h3 b)
theorem bL.iu:∀ {as:List AT},bL W F H as->∀ b∈aW as,∀ o u,H b≠some (.aV o u)
 | [],_,b,hb=>by cases hb
 | _::_,h,b,hb=>(uo.mp hb).elim (OK.iu h.1 b) (bL.iu h.2 b)
end
mutual
theorem OK.isv (g:aM F F'):∀ {a:AT},OK W F H a->(∀ b∈dj a,∀ x,H b=some x->F' b=some x)->bY W F' (era a) (val a)
 | .lf _ _,h,_=>h.2.mono g
 | .tp a xs,h,k=>⟨a,vals xs,rfl,g _ _ h.1,bL.isv g h.2 k⟩
 | .nd a _ xs,⟨⟨o,h1,h2⟩,h3⟩,k=>⟨a,vals xs,o,rfl,k _ ug _ h1,h2,nofun,bL.isv g h3 λb hb=>k b (uk _ hb)⟩
theorem bL.isv (g:aM F F'):∀ {as:List AT},bL W F H as->(∀ b∈aW as,∀ x,H b=some x->F' b=some x)->aH W F' (aJ as) (vals as)
 | [],_,_=>rfl
 | _::_,h,k=>⟨_,_,rfl,OK.isv g h.1 λb hb=>k b (uW _ hb),bL.isv g h.2 λb hb=>k b (uJ _ hb)⟩
end
def OK.now (g:aM F H)(h:OK W F H a):bY W H (era a) (val a):=h.isv g λ_ _ _ e=>e
mutual
theorem OK.leaf:∀ {a:AT},OK W F H a->shr (era a)=true->dj a=[]/\bY W F (era a) (val a)
 | .lf _ _,h,_=>⟨rfl,h.2⟩
 | .tp a xs,h,s=>by let⟨e,k⟩:=bL.leaf h.2 s;exact⟨e,a,vals xs,rfl,h.1,k⟩
 | .nd _ _ _,_,s=>by cases s
theorem bL.leaf:∀ {as:List AT},bL W F H as->aI (aJ as)=true->aW as=[]/\aH W F (aJ as) (vals as)
 | [],_,_=>⟨rfl,rfl⟩
 | _::_,h,s=>by let⟨s1,s2⟩:=Ui.mp s;let⟨e1,k1⟩:=OK.leaf h.1 s1;let⟨e2,k2⟩:=bL.leaf h.2 s2;exact⟨by rw[aW,e1,e2];rfl,_,_,rfl,k1,k2⟩
end
mutual
theorem OK.view:∀ {a:AT},OK W F H a->bY W F (view (era a)) (val a)
 | .lf _ _,h=>h.2.view
 | .tp a xs,h=>⟨a,vals xs,rfl,h.1,bL.view h.2⟩
 | .nd _ _ _,_=>trivial
theorem bL.view:∀ {as:List AT},bL W F H as->aH W F (views (aJ as)) (vals as)
 | [],_=>rfl
 | _::_,h=>⟨_,_,rfl,OK.view h.1,bL.view h.2⟩
end
noncomputable def aN:List T->List V->List AT
 | t::ts,v::vs=>.lf t v::aN ts vs
 | _,_=>[]
theorem Qs:∀ {ts:List T} {vs:List V},aH W F ts vs->aI ts=true->bL W F H (aN ts vs)/\aJ (aN ts vs)=ts/\vals (aN ts vs)=vs/\aW (aN ts vs)=[]
 | [],_,h,_=>by rw[show _=[] from h];exact⟨trivial,rfl,rfl,rfl⟩
 | _::_,_,⟨v,r,e,h1,h2⟩,s=>by let⟨s1,s2⟩:=Ui.mp s;subst e;let⟨k1,k2,k3,k4⟩:=Qs (H:=H) h2 s2;exact⟨⟨⟨s1,h1⟩,k1⟩,congrArg _ k2,congrArg _ k3,k4⟩
structure St (W:Wd)(F H:Hp)(as:List AT):Prop where
 fh:aM F H
 ok:bL W F H as
 nd:(aW as).Nodup
 fr:∀ b∈aW as,F b=none
section
variable {F H F' H':Hp} {as bs O:List AT} {a:AT} {p:Addr}
def St.perm (h:St W F H as)(e:as.Perm bs):St W F H bs:=by
 have pe:(aW as).Perm (aW bs):=by rw[qP,qP];exact e.flatMap_right _
 exact⟨h.fh,zH.mpr λa ha=>zH.mp h.ok a (e.mem_iff.mpr ha),pe.nodup_iff.mp h.nd,λb hb=>h.fr b (pe.mem_iff.mpr hb)⟩
def St.right (h:St W F H (as++bs)):St W F H bs:=by have nd:=h.nd;have fr:=h.fr;rw[z9] at nd fr;exact⟨h.fh,zH.mpr λa ha=>zH.mp h.ok a (uJ _ ha),(Gj.mp nd).2.1,λb hb=>fr b (uJ _ hb)⟩
def St.tail (h:St W F H (a::O)):St W F H O:=St.right (as:=[a]) h
def St.left (h:St W F H (as++bs)):bL W F H as:=zH.mpr λa ha=>zH.mp h.ok a (uW _ ha)
theorem St.ext (h:St W F H as)(g:aM F F')(fh:aM F' H')(k:∀ b∈aW as,∀ x,H b=some x->H' b=some x)(fr:∀ b∈aW as,F' b=none):St W F' H' as:=⟨fh,h.ok.ext g k,h.nd,fr⟩
def xO (g:aM F H)(hp:H p=none):F p=none:=by
 cases q:F p with
 | none=>rfl
 | some u=>rw[g _ _ q] at hp;cases hp
theorem St.none (h:St W F H as)(hp:H p=Option.none):p∉aW as:=λz=>by let⟨x,e⟩:=h.ok.cell p z;rw[hp] at e;cases e
def St.alloc (h:St W F H as)(hp:H p=Option.none):St W F (upd H p o) as:= h.ext (λ_ _ e=>e) (λb u e=>jO hp _ _ (h.fh _ _ e)) (λb _ x e=>jO hp _ _ e) h.fr
def St.allocF (h:St W F H as)(hp:H p=Option.none):St W (upd F p o) (upd H p o) as:=by
 refine h.ext (jO (xO h.fh hp)) (λb u e=>?_) (λb _ x e=>jO hp _ _ e) λb hb=>?_
 ·unfold upd at e |-;split
  ·rw[uC (by assumption)] at e;exact e
  ·rw[ux (by assumption)] at e;exact h.fh _ _ e
 ·rw[zp λz:b=p=>h.none hp (z ▸ hb)];exact h.fr b hb
def St.leaf (h:St W F H O)(s:shr t=true)(i:bY W F t v):St W F H (.lf t v::O):=⟨h.fh,⟨⟨s,i⟩,h.ok⟩,h.nd,h.fr⟩
theorem St.aN (h:St W F H O)(i:aH W F ts vs)(s:aI ts=true):St W F H (aN ts vs++O)/\aJ (aN ts vs)=ts/\vals (aN ts vs)=vs:=by
 let⟨k1,k2,k3,k4⟩:=Qs (H:=H) i s;refine⟨⟨h.fh,zH.mpr λa ha=>?_,by rw[z9,k4];exact h.nd,by rw[z9,k4];exact h.fr⟩,k2,k3⟩;rcases uo.mp ha with z | z
 ·exact zH.mp k1 a z
 ·exact zH.mp h.ok a z
def St.node (h:St W F H (as++O))(hp:H p=Option.none)(ob:nL W k (vals as) o):St W F (upd H p o) (.nd p k as::O):=by
 have h':=h.alloc (o:=o) hp;have n:=h.none hp;have nd:=h.nd;refine⟨h'.fh,⟨⟨⟨o,zI,ob⟩,h'.left⟩,h'.right.ok⟩,?_,?_⟩
 ·rw[z9] at n nd;exact UA.mpr ⟨n,nd⟩
 ·intro b hb;rcases uw.mp hb with z | z
  ·rw[z];exact xO h.fh hp
  ·exact h.fr b (by rw[z9];exact z)
def St.tuple (h:St W F H (as++O))(hp:H p=Option.none):St W (upd F p (.tup (vals as))) (upd H p (.tup (vals as))) (.tp p as::O):=by have h':=h.allocF (o:=.tup (vals as)) hp;have nd:=h'.nd;have fr:=h'.fr;rw[z9] at nd fr;exact⟨h'.fh,⟨⟨zI,h'.left⟩,h'.right.ok⟩,nd,fr⟩
def St.open (h:St W F H (.nd p k as::O)):St W F H (as++O):=by
 have nd:=h.nd;refine⟨h.fh,zH.mpr λa ha=>?_,by rw[z9];exact(UA.mp nd).2,λb hb=>h.fr b (uk _ (by rw[z9] at hb;exact hb))⟩;rcases uo.mp ha with z | z
 ·exact zH.mp h.ok.1.2 a z
 ·exact zH.mp h.ok.2 a z
def St.openT (h:St W F H (.tp p as::O)):St W F H (as++O):=by
 refine⟨h.fh,zH.mpr λa ha=>?_,by rw[z9];exact h.nd,λb hb=>h.fr b (by rw[z9] at hb;exact hb)⟩;rcases uo.mp ha with z | z
 ·exact zH.mp h.ok.1.2 a z
 ·exact zH.mp h.ok.2 a z
def St.mut {k k':Kd}{ys zs ws:List AT}{o:HO}(h:St W F H (.nd p k as::(ys++O)))(e:(as++ys).Perm (zs++ws))(ob:nL W k' (vals zs) o):St W F (upd H p o) (.nd p k' zs::(ws++O)):=by
 have np:p∉aW (as++(ys++O)):=by have:=(UA.mp h.nd).1;rw[z9];exact this
 have h1:St W F H (zs++(ws++O)):=h.open.perm (by rw[<-ue,<-ue];exact e.append_right _)
 have np':p∉aW (zs++(ws++O)):=λz=>np (by
  have pe:(aW (as++(ys++O))).Perm (aW (zs++(ws++O))):=by
   rw[qP,qP]
   refine List.Perm.flatMap_right _ ?_
   rw[<-ue,<-ue];exact e.append_right _
  exact pe.mem_iff.mpr z)
 have fp:F p=Option.none:=h.fr p ug;have ok:=h1.ok.ext (F':=F) (H':=upd H p o) (λ_ _ e=>e) λb hb x e=>by rw[zp λz:b=p=>np' (z ▸ hb)];exact e
 refine⟨λb u e=>?_,⟨⟨⟨o,zI,ob⟩,zH.mpr λa ha=>zH.mp ok a (uW _ ha)⟩,zH.mpr λa ha=>zH.mp ok a (uJ _ ha)⟩,?_,?_⟩
 ·rw[zp λz=>by rw[z,fp] at e;cases e];exact h.fh _ _ e
 ·have nd:=h1.nd;rw[z9] at np' nd;exact UA.mpr ⟨np',nd⟩
 ·intro b hb;rcases uw.mp hb with z | z
  ·rw[z];exact fp
  ·exact h1.fr b (by rw[z9];exact z)
def adds (F H:Hp)(A:Ld):Hp:=λb=>if b∈A then H b else F b
theorem St.aV (h:St W F H (a::O)):∃ F',aM F F'/\St W F' H (.lf (aV (era a)) (val a)::O):=by
 have nd:=Gj.mp h.nd;have g:aM F (adds F H (dj a)):=λb o e=>by unfold adds;rw[ux (λz=>by rw[h.fr b (uW _ z)] at e;cases e)];exact e
 have iv:=h.ok.1.isv (F':=adds F H (dj a)) g λb hb x e=>by unfold adds;rw[uC hb];exact e
 refine⟨_,g,St.leaf (h.tail.ext g (λb o e=>?_) (λ_ _ _ e=>e) λb hb=>?_) (ZJ _) iv.aV⟩
 ·unfold adds at e;split at e
  ·exact e
  ·exact h.fh _ _ e
 ·unfold adds;rw[ux λz=>nd.2.2 b z b hb rfl];exact h.fr b (uJ _ hb)
end
end
variable {W:Wd}
@[reducible] def bG {α:Type}(o:Option α)(Q:α->Prop):Prop:=Option.rec (motive:=λ_=>Prop) False Q o
@[reducible] def d4 (b:Bool)(p q:Prop):Prop:=Bool.rec (motive:=λ_=>Prop) q p b
def za {α:Type}{o:Option α}{z:α}{Q:α->Prop}(h:o=some z)(q:Q z):Option.rec (motive:=λ_=>Prop) False Q o:=by subst h;exact q
def zC {α:Type}{o:Option α}{Q:α->Prop}(h:bG o Q):∃ z,o=some z/\Q z:=by
 cases o with
 | none=>exact h.elim
 | some z=>exact⟨z,rfl,h⟩
def zh {b:Bool}{p q:Prop}(h1:b=true->p)(h2:b=false->q):Bool.rec (motive:=λ_=>Prop) q p b:=by
 cases b with
 | true=>exact h1 rfl
 | false=>exact h2 rfl
noncomputable def two {α β O:Type}(a:Option α)(b:Option β)(f:α->β->Option O):Option O:=a.bind λx=>b.bind λy=>f x y
def zb {α β:Type}{a:Option α}{f:α->Option β}{z:β}(h:a.bind f=some z):∃ x,a=some x/\f x=some z:=Option.bind_eq_some_iff.mp h
def zG {α β O:Type}{a:Option α}{b:Option β}{f:α->β->Option O}{z:O}(h:two a b f=some z):∃ x y,a=some x/\b=some y/\f x y=some z:=by let⟨x,e1,h⟩:=zb h;let⟨y,e2,h⟩:=zb h;exact⟨x,y,e1,e2,h⟩
def aT {α:Type}(f:α->Option α):List α->Option (List α)
 | []=>some []
 | x::s=>two (f x) (aT f s) λy ys=>some (y::ys)
noncomputable def putN {α:Type}:List α->Nat->α->Option (List α)
 | [],_,_=>none
 | _::xs,0,y=>some (y::xs)
 | x::xs,j+1,y=>(putN xs j y).bind λys=>some (x::ys)
theorem ZK {α:Type}:∀ {xs ys:List α} {j:Nat} {y:α},putN xs j y=some ys->j<xs.length/\ys=xs.set j y
 | [],_,_,_,h=>by cases h
 | _::xs,_,0,_,h=>by cases h;exact⟨Nat.succ_pos _,rfl⟩
 | x::xs,_,j+1,y,h=>by let⟨zs,e,h⟩:=zb h;cases h;let⟨h1,h2⟩:=ZK e;exact⟨Hh h1,by rw[h2];rfl⟩
theorem kG {α:Type}:∀ {xs:List α} {j:Nat} {y:α},j<xs.length->putN xs j y=some (xs.set j y)
 | [],_,_,h=>by cases h
 | _::xs,0,_,_=>rfl
 | x::xs,j+1,y,h=>by rw[putN,kG (Nat.lt_of_succ_lt_succ h)];rfl
noncomputable def ng:T->Option (List T)
 | .tp xs=>some xs
 | .nd true _ xs=>some xs
 | _=>none
noncomputable def CG:T->List T->Option T
 | .tp _,ys=>some (.tp ys)
 | .nd true k _,ys=>some (.nd true k ys)
 | _,_=>none
def dQ:Lc->T->Option T
 | [],t=>some t
 | j::p,t=>(ng t).bind λxs=>(xs[j]?).bind λx=>dQ p x
def dD:Lc->T->T->Option T
 | [],_,n=>some n
 | j::p,t,n=>(ng t).bind λxs=>(xs[j]?).bind λx=>(dD p x n).bind λy=>(putN xs j y).bind λys=>CG t ys
noncomputable def eT:AT->Option (List AT)
 | .tp _ xs=>some xs
 | .nd _ _ xs=>some xs
 | .lf _ _=>none
noncomputable def JO:AT->List AT->AT
 | .tp a _,ys=>.tp a ys
 | .nd a k _,ys=>.nd a k ys
 | .lf t v,_=>.lf t v
def bO:Lc->AT->Option AT
 | [],a=>some a
 | j::p,a=>(eT a).bind λxs=>(xs[j]?).bind λx=>bO p x
def aQ:Lc->AT->AT->AT
 | [],_,n=>n
 | j::p,a,n=>match eT a with
  | some xs=>match xs[j]? with
   | some x=>JO a (xs.set j (aQ p x n))
   | none=>a
  | none=>a
def qe (h:bO (j::p) a=some u):∃ xs x,eT a=some xs/\xs[j]? = some x/\bO p x=some u/\∀ n,aQ (j::p) a n=JO a (xs.set j (aQ p x n)):=by let⟨xs,e1,h⟩:=zb h;let⟨x,e2,h⟩:=zb h;exact⟨xs,x,e1,e2,h,λn=>by simp only[aQ,e1,e2]⟩
section
variable {a b u w x:AT} {F H:Hp} {O:List AT}
def Jg (h:eT a=some xs):ng (era a)=some (aJ xs)/\(∀ ys,CG (era a) (aJ ys)=some (era (JO a ys)))/\(∀ ys,val (JO a ys)=val a):=by cases a<;>cases h<;>exact⟨rfl,λ_=>rfl,λ_=>rfl⟩
def JP {xs:List AT}{j:Nat}(h:xs[j]? = some x):(aJ xs)[j]? = some (era x):=by rw[zt,uE,h];rfl
def yD {α:Type}{l:List α}{i:Nat}{x:α}(h:l[i]? = some x):i<l.length:=(uY.mp h).1
theorem Jh:∀ {p:Lc} {a u:AT},bO p a=some u->dQ p (era a)=some (era u)
 | [],_,_,h=>by cases h;rfl
 | j::p,a,u,h=>by let⟨xs,x,e1,e2,e3,_⟩:=qe h;simp only[dQ,(Jg e1).1,u7,JP e2];exact Jh e3
theorem Ea:∀ {p:Lc} {a u w:AT},bO p a=some u->dD p (era a) (era w)=some (era (aQ p a w))
 | [],_,_,_,_=>rfl
 | j::p,a,u,w,h=>by let⟨xs,x,e1,e2,e3,e4⟩:=qe h;have hj:j<(aJ xs).length:=yD (JP e2);simp only[dD,(Jg e1).1,u7,JP e2,Ea (w:=w) e3,kG hj,e4];rw[show(aJ xs).set j (era (aQ p x w))=aJ (xs.set j (aQ p x w)) by rw[zt,zt,GC]];exact(Jg e1).2.1 _
theorem Va:∀ {p:Lc} {a u w:AT},bO p a=some u->val w=val u->val (aQ p a w)=val a
 | [],_,_,_,h,e=>by cases h;exact e
 | j::p,a,u,w,h,e=>by let⟨xs,x,e1,e2,e3,e4⟩:=qe h;rw[e4];exact(Jg e1).2.2 _
def JQ {α:Type}{l:List α}{j:Nat}{x:α}(h:l[j]? = some x):l.set j x=l:=by
 apply List.ext_getElem?;intro i;rw[List.getElem?_set];split
 ·subst j;rw[<-h];split
  ·exact h.symm ▸ rfl
  ·rw[List.getElem?_eq_none aB]
 ·rfl
def zd2 {xs:List AT}(h:xs[j]? = some x)(e:val w=val x):vals (xs.set j w)=vals xs:=by unfold vals;rw[GC,e];exact JQ (by rw[uE,h];rfl)
theorem JR:∀ {p:Lc} {a u:AT},OK W F H a->bO p a=some u->OK W F H u
 | [],_,_,h,e=>by cases e;exact h
 | j::p,a,u,h,e=>by let⟨xs,x,e1,e2,e3,_⟩:=qe e;refine JR (zH.mp ?_ x (uR e2)) e3;cases a<;>cases e1<;>exact h.2
theorem AB:∀ {p:Lc} {a u w:AT},OK W F H a->bO p a=some u->OK W F H w->val w=val u->OK W F H (aQ p a w)
 | [],_,_,_,_,_,h,_=>h
 | j::p,a,u,w,h,e,hw,hv=>by
  let⟨xs,x,e1,e2,e3,e4⟩:=qe e;have hx:bL W F H xs:=by cases a<;>cases e1<;>exact h.2
  have h1:=AB (zH.mp hx x (uR e2)) e3 hw hv
  have h2:bL W F H (xs.set j (aQ p x w)):=zH.mpr λy hy=>by
   rcases List.mem_or_eq_of_mem_set hy with z | z
   ·exact zH.mp hx y z
   ·rw[z];exact h1
  have h3:=zd2 e2 (Va e3 hv);rw[e4];cases a with
  | lf=>cases e1
  | tp a xs'=>cases e1;exact⟨by rw[h3];exact h.1,h2⟩
  | nd a k xs'=>cases e1;exact⟨by rw[h3];exact h.1,h2⟩
theorem ZL {α:Type}:∀ {l:List α} {j:Nat} {x y:α},l[j]? = some x->(l.set j y++[x]).Perm (l++[y])
 | [],_,_,_,h=>by cases h
 | z::l,0,x,y,h=>by cases h;exact(uL (l₁:=y::l) (l₂:=[z])).trans ((uL (l₁:=l) (l₂:=[y])).symm.cons z)
 | z::l,j+1,x,y,h=>(ZL (l:=l) (j:=j) h).cons z
theorem Vb:∀ {p:Lc} {a u w:AT},bO p a=some u->(dj (aQ p a w)++dj u).Perm (dj a++dj w)
 | [],_,_,_,h=>by cases h;exact uL
 | j::p,a,u,w,h=>by
  let⟨xs,x,e1,e2,e3,e4⟩:=qe h;have ih:=Vb (w:=w) e3;have q:=(ZL (y:=aQ p x w) e2).flatMap_right dj;rw[<-qP,<-qP,z9,z9,aW,aW,aW,aW,uH,uH] at q
  have m:(aW (xs.set j (aQ p x w))++dj u).Perm (aW xs++dj w):=by
   have a1:((aW (xs.set j (aQ p x w))++dj u)++dj x).Perm ((aW xs++dj w)++dj x):=by rw[ue];refine(uL.append_left _).trans ?_;rw[<-ue];refine(q.append_right _).trans ?_;rw[ue,ue];exact(ih.trans uL).append_left _
   exact(List.perm_append_right_iff _).mp a1
  rw[e4];cases a with
  | lf=>cases e1
  | tp a xs'=>cases e1;exact m
  | nd a k xs'=>cases e1;exact m.cons a
theorem Xr:∀ {p q:Lc} {a u w x:AT},bO p a=some u->val w=val u->q.length<=p.length->bO q a=some x->∃ y,bO q (aQ p a w)=some y/\val y=val x
 | p,[],a,u,w,x,h,e,_,k=>by cases k;exact⟨_,rfl,Va h e⟩
 | [],_::_,_,_,_,_,_,_,hl,_=>by cases hl
 | j::p,i::q,a,u,w,x,h,e,hl,k=>by
  let⟨xs,y,e1,e2,e3,e4⟩:=qe h;let⟨xs',z,k1,k2,k3,_⟩:=qe k;rw[e1] at k1;cases k1;have kk:eT (JO a (xs.set j (aQ p y w)))=some (xs.set j (aQ p y w)):=by cases a<;>cases e1<;>rfl
  rw[e4];simp only[bO,kk,u7];by_cases ij:j=i
  ·subst ij;rw[e2] at k2;cases k2;rw[Uh (yD e2)];exact Xr e3 e (Nat.le_of_succ_le_succ hl) k3
  ·rw[UE ij,k2];exact⟨x,k3,rfl⟩
theorem get_set:∀ {p:Lc} {a u w:AT},bO p a=some u->bO p (aQ p a w)=some w
 | [],_,_,_,_=>rfl
 | j::p,a,u,w,h=>by
  let⟨xs,y,e1,e2,e3,e4⟩:=qe h;have kk:eT (JO a (xs.set j (aQ p y w)))=some (xs.set j (aQ p y w)):=by cases a<;>cases e1<;>rfl
  rw[e4];simp only[bO,kk,u7,Uh (yD e2)];exact get_set e3
theorem set_set:∀ {p:Lc} {a u w z:AT},bO p a=some u->aQ p (aQ p a w) z=aQ p a z
 | [],_,_,_,_,_=>rfl
 | j::p,a,u,w,z,h=>by
  let⟨xs,y,e1,e2,e3,e4⟩:=qe h;let⟨xs',y',k1,k2,k3,k4⟩:=qe (get_set (w:=w) h);have kk:eT (JO a (xs.set j (aQ p y w)))=some (xs.set j (aQ p y w)):=by cases a<;>cases e1<;>rfl
  rw[k4,e4,e4] at *;rw[kk] at k1;cases k1;rw[Uh (yD e2)] at k2;cases k2;rw[hX,set_set e3];cases a<;>cases e1<;>rfl
def hole (u:AT):AT:=.lf .any (val u)
def St.out (h:St W F H (a::O))(e:bO p a=some u):St W F H (u::aQ p a (hole u)::O):=by
 have pe:(dj u++dj (aQ p a (hole u))).Perm (dj a):=uL.trans ((Vb (w:=hole u) e).trans (by rw[hole,dj,uH]));have pa:(aW (u::aQ p a (hole u)::O)).Perm (aW (a::O)):=by show(dj u++(dj (aQ p a (hole u))++aW O)).Perm (dj a++aW O);rw[<-ue];exact pe.append_right _
 exact⟨h.fh,⟨JR h.ok.1 e,AB h.ok.1 e (show OK W F H (hole u) from⟨rfl,trivial⟩) rfl,h.ok.2⟩,pa.nodup_iff.mpr h.nd,λb hb=>h.fr b (pa.mem_iff.mp hb)⟩
def St.into (h:St W F H (w::a::O))(e:bO p a=some u)(hu:dj u=[])(hv:val w=val u):St W F H (aQ p a w::O):=by
 have pe:(dj (aQ p a w)).Perm (dj w++dj a):=by have:=Vb (w:=w) e;rw[hu,uH] at this;exact this.trans uL
 have pa:(aW (aQ p a w::O)).Perm (aW (w::a::O)):=by show(dj (aQ p a w)++aW O).Perm (dj w++(dj a++aW O));rw[<-ue];exact pe.append_right _
 exact⟨h.fh,⟨AB h.ok.2.1 e h.ok.1 hv,h.ok.2.2⟩,pa.nodup_iff.mpr h.nd,λb hb=>h.fr b (pa.mem_iff.mp hb)⟩
end
end
variable {W:Wd}
inductive Slot where
 | no | own (t:T) | al (i:Nat) (p:Lc)
noncomputable abbrev Sl:=List Slot
noncomputable def qM (i n:Nat):Slot->Slot
 | .al j q=>cond (j == i&&n.ble q.length) .no (.al j q)
 | .own t=>.own t
 | .no=>.no
def jQ (i n:Nat)(x:Slot):Option Slot:=some (qM i n x)
noncomputable def i6:Slot->Option T
 | .own t=>some t
 | _=>none
def aS (s:Sl)(i:Nat)(p:Lc):Option T:=(s[i]?).bind λx=>(i6 x).bind λr=>dQ p r
def res (s:Sl):Slot->Option T
 | .own t=>some t
 | .al i p=>aS s i p
 | .no=>none
def putSt (s Z:Sl)(i:Nat)(p:Lc)(n:T):Option (Sl×Sl):= (aT (jQ i (p.length+1)) s).bind λs1=>(s1[i]?).bind λx=>(i6 x).bind λr=>(dD p r n).bind λr'=>(putN s1 i (.own r')).bind λs2=>(aT (jQ i (p.length+1)) Z).bind λW'=>some (s2,W')
def ZM (s Z:Sl)(i:Nat)(x:Slot):Option (Sl×Sl):= (jQ i 0 x).bind λx'=>(aT (jQ i 0) s).bind λs1=>(putN s1 i x').bind λs2=>(aT (jQ i 0) Z).bind λW'=>some (s2,W')
def bK (i:Nat)(p:Lc)(as:List AT):Option AT:=(as[i]?).bind (bO p)
def bJ (i:Nat)(p:Lc)(as:List AT)(w:AT):List AT:=match as[i]? with
 | some a=>as.set i (aQ p a w)
 | none=>as
abbrev bB:AT:=.lf .any .non
def M1 (as:List AT):Slot->Option V->AT->Prop
 | .no,_,a=>a=bB
 | .own t,o,a=>era a=t/\o=some (val a)
 | .al i p,o,a=>a=bB/\∃ u,bK i p as=some u/\o=some (val u)
def Ms (as:List AT):Sl->List (Option V)->List AT->Prop
 | [],ρ,cs=>ρ=[]/\cs=[]
 | x::s,ρ,cs=>∃ o TL a cs',ρ=o::TL/\cs=a::cs'/\M1 as x o a/\Ms as s TL cs'
section
variable {as cs as':List AT} {s s' Z:Sl} {ρ:List (Option V)} {x:Slot} {o:Option V} {a u w:AT} {i:Nat} {p:Lc}
def jy (h:bK i p as=some u):∃ a,as[i]? = some a/\bO p a=some u/\∀ w,bJ i p as w=as.set i (aQ p a w):=by let⟨a,e,h⟩:=zb h;exact⟨a,e,h,λw=>by unfold bJ;rw[e]⟩
theorem Ms.len:∀ {s:Sl} {ρ:List (Option V)} {cs:List AT},Ms as s ρ cs->ρ.length=s.length/\cs.length=s.length
 | [],_,_,⟨h1,h2⟩=>by rw[h1,h2];exact⟨rfl,rfl⟩
 | _::_,_,_,⟨_,_,_,_,e1,e2,_,h⟩=>by rw[e1,e2];exact⟨congrArg _ h.len.1,congrArg _ h.len.2⟩
theorem Ms.get:∀ {s:Sl} {ρ:List (Option V)} {cs:List AT} {i:Nat} {x:Slot},Ms as s ρ cs->s[i]? = some x->∃ o a,ρ[i]? = some o/\cs[i]? = some a/\M1 as x o a
 | [],_,_,_,_,_,e=>by cases e
 | _::_,_,_,0,_,⟨o,_,a,_,e1,e2,h,_⟩,e=>by cases e;subst e1 e2;exact⟨o,a,rfl,rfl,h⟩
 | _::_,_,_,i+1,_,⟨_,_,_,_,e1,e2,_,h⟩,e=>by subst e1 e2;exact Ms.get (i:=i) h e
theorem Ms.set (hx:M1 as x o a):∀ {s:Sl} {ρ:List (Option V)} {cs:List AT} {i:Nat},Ms as s ρ cs->Ms as (s.set i x) (ρ.set i o) (cs.set i a)
 | [],_,_,_,⟨h1,h2⟩=>by subst h1 h2;exact⟨rfl,rfl⟩
 | _::_,_,_,0,⟨_,_,_,_,e1,e2,_,h⟩=>by subst e1 e2;exact⟨_,_,_,_,rfl,rfl,hx,h⟩
 | _::_,_,_,i+1,⟨_,_,_,_,e1,e2,h1,h⟩=>by subst e1 e2;exact⟨_,_,_,_,rfl,rfl,h1,Ms.set hx h⟩
theorem Ms.kill {i n:Nat}(h:∀ j q u,(j=i->q.length<n)->bK j q as=some u->∃ u',bK j q as' = some u'/\val u' = val u):∀ {s s':Sl} {ρ:List (Option V)} {cs:List AT},Ms as s ρ cs->aT (jQ i n) s=some s'->Ms as' s' ρ cs
 | [],_,_,_,h1,e=>by cases e;exact h1
 | x::s,s',_,_,⟨o,ρ,a,cs,e1,e2,h1,h2⟩,e=>by
  let⟨y,ys,k1,k2,k⟩:=zG e;cases k;refine⟨o,ρ,a,cs,e1,e2,?_,Ms.kill h h2 k2⟩;cases x with
  | no=>cases k1;exact h1
  | own t=>cases k1;exact h1
  | al j q=>
   simp only[jQ,qM] at k1;cases c:(j == i&&n.ble q.length) with
   | true=>rw[c] at k1;cases k1;exact h1.1
   | false=>
    rw[c] at k1;cases k1;let⟨hn,u,hu,ho⟩:=h1
    let⟨u',k3,k4⟩:=h j q u (λz=>by
     subst z
     rw[Ug,Gp] at c
     exact Nat.lt_of_not_le λz=>by rw[GH z] at c;cases c) hu
    exact⟨hn,u',k3,by rw[k4];exact ho⟩
def zcP (hu:bK i p as=some u)(hv:val w=val u):∀ j q x,(j=i->q.length<p.length+1)->bK j q as=some x->∃ x',bK j q (bJ i p as w)=some x'/\val x' = val x:=λj q x hl hx=>by
 let⟨a,e1,e2,e3⟩:=jy hu;rw[e3];by_cases ij:j=i
 ·subst ij;let⟨a',k1,k2,_⟩:=jy hx;rw[e1] at k1;cases k1;unfold bK;rw[Uh (yD e1)];exact Xr e2 hv (Nat.le_of_lt_succ (hl rfl)) k2
 ·refine⟨x,?_,rfl⟩;unfold bK at hx |-;rw[UE (Ne.symm ij)];exact hx
def Qt {vs:List V}(h1:Ms as s U as)(h2:Ms as Z (vs.map some) bs)(hu:bK i p as=some u)(hv:val w=val u)(e:putSt s Z i p (era w)=some (s',Y')):Ms (bJ i p as w) s' U (bJ i p as w)/\Ms (bJ i p as w) Y' (vs.map some) bs:=by
 let⟨s1,k1,e⟩:=zb e;let⟨y,k2,e⟩:=zb e;let⟨r,k3,e⟩:=zb e;let⟨r',k4,e⟩:=zb e;let⟨s2,k5,e⟩:=zb e;let⟨W',k6,e⟩:=zb e;cases e;have pp:=zcP hu hv;refine⟨?_,h2.kill pp k6⟩;have m1:=h1.kill pp k1;let⟨a,e1,e2,e3⟩:=jy hu;cases y with
 | no=>cases k3
 | al _ _=>cases k3
 | own r0=>cases k3;let⟨o,a',g1,g2,g3,g4⟩:=m1.get k2;rw[e1] at g2;cases g2;subst g3 g4;rw[Ea e2] at k4;cases k4;let⟨l,rfl⟩:=ZK k5;rw[e3];rw[e3] at m1;have:=m1.set (i:=i) (x:=.own (era (aQ p a w))) (o:=some (val a)) (a:=aQ p a w) ⟨rfl,by rw[Va e2 hv]⟩;rwa [JQ g1] at this
end
def St.nil (h:St W F H O):St W F H (bB::O):=h.leaf (t:=.any) rfl trivial
structure Rp (W:Wd)(F H:Hp)(s Z:Sl)(U:L2.St)(vs:List V)(O as bs:List AT):Prop where
 st:St W F H (as++(bs++O))
 ls:Ms as s U as
 ts:Ms as Z (vs.map some) bs
def Rep (W:Wd)(F H:Hp)(s Z:Sl)(U:L2.St)(vs:List V)(O:List AT):Prop:=∃ as bs,Rp W F H s Z U vs O as bs
section
variable {F H F' H':Hp} {s s' Z Y':Sl} {U:L2.St} {vs:List V} {O as bs:List AT} {x:Slot} {v:V} {t:T} {i:Nat} {p:Lc}
def yT {α:Type}{as bs O:List α}{b:α}:(b::(as++(bs++O))).Perm (as++(b::bs++O)):=uT.symm
def Rp.uncons (h:Rp W F H s (x::Z) U (v::vs) O as bs):∃ b bs',bs=b::bs'/\M1 as x (some v) b/\St W F H (b::(as++(bs'++O)))/\Rp W F H s Z U vs O as bs':=by let⟨o,ρ,b,bs',e1,e2,h1,h2⟩:=h.ts;cases e1;subst e2;have st:=h.st.perm yT.symm;exact⟨b,bs',rfl,h1,st,st.tail,h.ls,h2⟩
def Rp.cons (h:Rp W F H s Z U vs O as bs)(st:St W F H (b::(as++(bs++O))))(m:M1 as x (some v) b):Rp W F H s (x::Z) U (v::vs) O as (b::bs):= ⟨st.perm yT,h.ls,_,_,_,_,rfl,rfl,m,h.ts⟩
def Rep.pop (h:Rep W F H s (x::Z) U (v::vs) O):Rep W F H s Z U vs O:=by let⟨as,bs,R⟩:=h;let⟨b,bs',rfl,_,_,R'⟩:=R.uncons;exact⟨as,bs',R'⟩
theorem Rep.leaf (h:Rep W F H s Z U vs O)(hs:shr t=true)(hv:bY W F t v):Rep W F H s (.own t::Z) U (v::vs) O:=by let⟨as,bs,R⟩:=h;exact⟨as,_,R.cons (R.st.leaf hs hv) ⟨rfl,rfl⟩⟩
theorem Rep.fh (h:Rep W F H s Z U vs O):aM F H:=by let⟨as,bs,R⟩:=h;exact R.st.fh
theorem Rp.res (h:Rp W F H s (x::Z) U (v::vs) O as bs)(e:res s x=some t):∃ a,OK W F H a/\era a=t/\val a=v:=by
 let⟨b,bs',rfl,m,st,R⟩:=h.uncons;cases x with
 | no=>cases e
 | own t'=>cases e;cases m.2;exact⟨b,st.ok.1,m.1,rfl⟩
 | al i p=>
  let⟨_,u,hu,hv⟩:=m;cases hv;let⟨y,k1,e⟩:=zb e;let⟨r,k2,e⟩:=zb e;cases y with
  | no=>cases k2
  | al _ _=>cases k2
  | own r'=>cases k2;let⟨o,a,g1,g2,g3,g4⟩:=R.ls.get k1;let⟨a',f1,f2,_⟩:=jy hu;rw[g2] at f1;cases f1;subst g3;have e:dQ p (era a)=some t:=e;rw[Jh f2] at e;cases e;exact⟨u,JR (zH.mp R.st.left a (uR g2)) f2,rfl,rfl⟩
def cN (s:Sl):Nat->Sl->List T->Option (List T×Sl)
 | 0,Z,acc=>some (acc,Z)
 | n+1,x::Z,acc=>(res s x).bind λt=>cN s n Z (t::acc)
 | _+1,[],_=>none
theorem Rep.cN:∀ {n:Nat} {Z Y':Sl} {vs:List V} {acc ts:List T},Rep W F H s Z U vs O->cN s n Z acc=some (ts,Y')->∃ cs ws,ts=aJ cs++acc/\cs.length=n/\vs=(vals cs).reverse++ws/\bL W F H cs/\Rep W F H s Y' U ws O
 | 0,_,_,vs,_,_,h,e=>by cases e;exact⟨[],vs,rfl,rfl,rfl,trivial,h⟩
 | n+1,[],_,_,_,_,_,e=>by cases e
 | n+1,x::Z,_,vs,acc,_,h,e=>by
  let⟨t,e1,e2⟩:=zb e;let⟨as,bs,R⟩:=h;cases vs with
  | nil=>let⟨_,_,_,_,z,_⟩:=R.ts;cases z
  | cons v vs=>
   let⟨a,k1,k2,k3⟩:=R.res e1;let⟨cs,ws,g1,g2,g3,g4,g5⟩:=Rep.cN (Rep.pop ⟨as,bs,R⟩) e2;refine⟨cs++[a],ws,?_,by simp[g2],?_,zH.mpr λy hy=>?_,g5⟩
   ·rw[g1,zt,zt,uF,gy,k2,ue];rfl
   ·rw[g3];simp only[vals,uF,GV,uA,gr,k3];rfl
   ·rcases uo.mp hy with z | z
    ·exact zH.mp g4 y z
    ·rw[uy.mp z];exact k1
def dZ:Nat->Sl->List T->Option (List T×Sl)
 | 0,Z,acc=>some (acc,Z)
 | n+1,.own t::Z,acc=>dZ n Z (t::acc)
 | _,_,_=>none
theorem Rep.dZ:∀ {n:Nat} {Z Y':Sl} {vs:List V} {acc ts:List T} {O:List AT},Rep W F H s Z U vs O->dZ n Z acc=some (ts,Y')->∃ cs ws,ts=aJ cs++acc/\cs.length=n/\vs=(vals cs).reverse++ws/\Rep W F H s Y' U ws (cs++O)
 | 0,_,_,vs,_,_,_,h,e=>by cases e;exact⟨[],vs,rfl,rfl,rfl,h⟩
 | n+1,[],_,_,_,_,_,_,e=>by cases e
 | n+1,.no::_,_,_,_,_,_,_,e=>by cases e
 | n+1,.al _ _::_,_,_,_,_,_,_,e=>by cases e
 | n+1,.own t::Z,_,vs,acc,_,O,h,e=>by
  let⟨as,bs,R⟩:=h;cases vs with
  | nil=>let⟨_,_,_,_,z,_⟩:=R.ts;cases z
  | cons v vs=>
   let⟨b,bs',rfl,m,st,R'⟩:=R.uncons;cases m.2;have R2:Rep W F H s Z U vs (b::O):=⟨as,bs',st.perm (by rw[<-ue,<-ue];exact uT.symm),R'.ls,R'.ts⟩
   let⟨cs,ws,g1,g2,g3,g5⟩:=Rep.dZ (n:=n) R2 e;refine⟨cs++[b],ws,?_,by simp[g2],?_,by rw[ue];exact g5⟩
   ·rw[g1,zt,zt,uF,gy,m.1,ue];rfl
   ·rw[g3];simp only[vals,uF,GV,uA,gr];rfl
def Rep.push (h:Rep W F H s Z U vs (b::O)):Rep W F H s (.own (era b)::Z) U (val b::vs) O:=by let⟨as,bs,R⟩:=h;exact⟨as,b::bs,R.st.perm (by rw[<-ue];exact uT.trans (by rw[ue];exact yT)),R.ls,_,_,_,_,rfl,rfl,⟨rfl,rfl⟩,R.ts⟩
def Rep.all (h:Rep W F H s Z U vs O):∃ Γ,St W F H (O++Γ)/\∀ {F' H' γ'},St W F' H' (γ'++Γ)->Rep W F' H' s Z U vs γ':=by
 let⟨as,bs,R⟩:=h;have pm:∀ O:List AT,(as++(bs++O)).Perm (O++(as++bs)):=λO=>by rw[<-ue];exact uL
 exact⟨as++bs,R.st.perm (pm O),λst=>⟨as,bs,st.perm (pm _).symm,R.ls,R.ts⟩⟩
def iG (s:Sl)(i:Nat):Option Slot:=(s[i]?).bind λx=>match x with
 | .own t=>cond (shr t) (some (.own t)) (some (.al i []))
 | .al j p=>(aS s j p).bind λt=>cond (shr t) (some (.own t)) (some (.al j p))
 | .no=>none
def Rep.copy (h:Rep W F H s (x::Z) U (v::vs) O)(e:res s x=some t)(hs:shr t=true):Rep W F H s (.own t::Z) U (v::vs) O:=by let⟨as,bs,R⟩:=h;let⟨a,k1,rfl,rfl⟩:=R.res e;exact(Rep.pop ⟨as,bs,R⟩).leaf hs (k1.leaf hs).2
def Rep.alias (h:Rep W F H s Z U vs O)(e:s[i]? = some (.own t)):∃ v,U[i]? = some (some v)/\Rep W F H s (.al i []::Z) U (v::vs) O:=by let⟨as,bs,R⟩:=h;let⟨o,a,g1,g2,g3,g4⟩:=R.ls.get e;subst g4;exact⟨_,g1,as,_,R.cons R.st.nil ⟨rfl,a,by unfold bK;rw[g2];rfl,rfl⟩⟩
def Rep.again (h:Rep W F H s Z U vs O)(e:s[i]? = some (.al j p)):∃ v,U[i]? = some (some v)/\Rep W F H s (.al j p::Z) U (v::vs) O:=by let⟨as,bs,R⟩:=h;let⟨o,a,g1,g2,g3,u,g4,g5⟩:=R.ls.get e;subst g5;exact⟨_,g1,as,_,R.cons R.st.nil ⟨rfl,u,g4,rfl⟩⟩
def Rep.rd (h:Rep W F H s Z U vs O)(e:iG s i=some x):∃ v,U[i]? = some (some v)/\Rep W F H s (x::Z) U (v::vs) O:=by
 let⟨y,e1,e⟩:=zb e;cases y with
 | no=>cases e
 | own t=>
  let⟨v,k1,k2⟩:=h.alias e1;refine⟨v,k1,?_⟩;cases c:shr t<;>simp only[c] at e<;>cases e
  ·exact k2
  ·exact k2.copy (by show(s[i]?).bind _=_;rw[e1];rfl) c
 | al j p=>
  let⟨v,k1,k2⟩:=h.again e1;refine⟨v,k1,?_⟩;let⟨t,e2,e⟩:=zb e;cases c:shr t<;>simp only[c] at e<;>cases e
  ·exact k2
  ·exact k2.copy e2 c
end
end
noncomputable def aY:T->Option Int
 | .int i=>some i
 | _=>none
def bW:T->Option Lc
 | .str t=>some t
 | _=>none
noncomputable def lA:T->Option Bool
 | .bl b=>some b
 | _=>none
noncomputable def lJ:T->Option (List T)
 | .nd _ .ls xs=>some xs
 | .ks true xs=>some xs
 | _=>none
noncomputable def lE:T->Option (List T)
 | .tp xs=>some xs
 | .ks false xs=>some xs
 | _=>none
noncomputable def lR:T->Option (List T)
 | .nd _ .ls xs=>some xs
 | .tp xs=>some xs
 | .ks _ xs=>some xs
 | _=>none
def BK:T->Option (List Key×List T)
 | .nd _ (.dc ks) xs=>some (ks,xs)
 | _=>none
def mH:T->Option (Nat×Lh×List T)
 | .nd _ (.ob c fs) xs=>some (c,fs,xs)
 | _=>none
noncomputable def tE (o:Option (List T)):Option (List T):=o.bind λxs=>cond (aI xs) (some xs) none
def md:T->Option Key
 | .str t=>some (.inr (S t))
 | .int i=>some (.inl i)
 | _=>none
noncomputable def cQ {α:Type}(a b:Option α):Option α:=match a with
 | some x=>some x
 | none=>b
noncomputable instance decMulOk (i j:Int):Decidable (IntMulOk i j):=by unfold IntMulOk;infer_instance
def fv (f:Int->Int->Option T):List T->Option T
 | [x,y]=>two (aY x) (aY y) f
 | _=>none
def rk:List T->Option T:=fv λi j=>some (.int (i - j))
def rB:List T->Option T:=fv λi j=>if IntMulOk i j then some (.int (i * j)) else none
def CF:List T->Option T
 | [x,y]=>two (bW x) (aY y) λl n=>if 0<=n/\n<=100000/\l.length * n.toNat<=16777216 then some (.str (List.replicate n.toNat l).flatten) else none
 | _=>none
def oDiv:List T->Option T:=fv λi j=>if 0<j/\j<1073741824 then some (.int (i / j)) else none
def oMod:List T->Option T:=fv λi j=>if 0<j then some (.int (i % j)) else none
def rp:List T->Option T:=fv λi j=>if 0<=j/\j<=1000000/\i.natAbs<2 ^ 64 then some (.int (i ^ j.toNat)) else none
noncomputable def nS:T->Option (List T)
 | .nd _ .ls xs=>some xs
 | _=>none
noncomputable def nP:T->Option (List T)
 | .tp xs=>some xs
 | _=>none
def m8:List T->Option T
 | [x,y]=>cQ (two (aY x) (aY y) λi j=>some (.int (i+j))) (cQ (two (bW x) (bW y) λa b=>if a.length+b.length<=16777216 then some (.str (a++b)) else none)
   (cQ (two (nS x) (nS y) λa b=>if a.length+b.length<=16777216/\(aI a&&aI b)=true then some (.nd true .ls (a++b)) else none)
    (two (nP x) (nP y) λa b=>if a.length+b.length<=1000000/\(aI a&&aI b)=true then some (.tp (a++b)) else none)))
 | _=>none
def rz:List T->Option T
 | [x]=>(aY x).bind λi=>some (.int (-i))
 | _=>none
def mF:T->Option V
 | .non=>some .non
 | .bl b=>some (.bl b)
 | .int i=>some (.int i)
 | .str t=>some (.str (S t))
 | _=>none
def iF:List T->Option (List V)
 | []=>some []
 | d::ds=>two (mF d) (iF ds) λx xs=>some (x::xs)
mutual
def bX:T->Option Dat
 | .non=>some (.fl .non)
 | .bl b=>some (.fl (.bl b))
 | .int i=>some (.fl (.int i))
 | .str t=>some (.fl (.str (S t)))
 | .tp xs=>(xn xs).map .tp
 | .nd _ .ls xs=>(xn xs).map .ls
 | _=>none
def xn:List T->Option (List Dat)
 | []=>some []
 | d::ds=>two (bX d) (xn ds) λx xs=>some (x::xs)
end
def tP (a b:T):Option Bool:= cQ (two (aY a) (aY b) λi j=>some (decide (i=j))) (cQ (two (bW a) (bW b) λx y=>some (decide (x=y))) (cQ (two (mF a) (mF b) λx y=>if iX x y=true then some (decide (x=y)) else none) (two (bX a) (bX b) λd e=>if bF d<=50/\(mF a).isNone=true/\(mF b).isNone=true then some (cB d e) else none)))
noncomputable def vP (f:T->T->Option Bool)(n:Bool):List T->Option T
 | [x,y]=>(f x y).bind λb=>some (.bl (cond n (!b) b))
 | _=>none
def oEq:List T->Option T:=vP tP false
def Fj:List T->Option T:=vP tP true
def ly (f:Int->Int->Bool)(x y:T):Option Bool:=two (aY x) (aY y) λi j=>some (f i j)
def oLt:List T->Option T:=vP (ly λi j=>decide (i<j)) false
def oLe:List T->Option T:=vP (ly λi j=>decide (i<=j)) false
def Fp:List T->Option T:=vP (ly λi j=>decide (j<i)) false
def Fq:List T->Option T:=vP (ly λi j=>decide (j<=i)) false
def occs (l y:Lc):Lc:=Builtin.Str.occurrences (S l) (S y) 0 (S l).length 1
def mL (y l:Lc):Bool:=match y with
 | [c]=>decide (c∈l)
 | y=>!(occs l y).isEmpty
def nj (a b:T):Option Bool:= cQ (two (bW a) (bW b) λy l=>some (mL y l)) (cQ (two (md a) (BK b) λk d=>some (d.1.any λk'=>decide (k' = k))) (two (mF a) ((lR b).bind iF) λx vs=>some (iz x vs)))
def Fo:List T->Option T:=vP nj false
def rq:List T->Option T:=vP nj true
noncomputable def fQ:T->Option Bool
 | .non=>some true
 | .any=>none
 | .pin _=>none
 | _=>some false
noncomputable def mf:T->Option Unit
 | .non=>some ()
 | _=>none
def By (a b:T):Option Bool:=cQ (two (mf b) (fQ a) λ_ k=>some k) (two (lA b) (lA a) λc k=>some (k == c))
def Fm:List T->Option T:=vP By false
def rD:List T->Option T:=vP By true
def aO {α:Type}(xs:List α)(lo hi:Option Int):List α:=(xs.drop (HT.aR xs.length 0 lo)).take (HT.aR xs.length xs.length hi - HT.aR xs.length 0 lo)
def nR (x:T)(lo hi:Option Int):Option T:= cQ ((bW x).bind λt=>some (.str (aO t lo hi))) (cQ ((lJ x).bind λxs=>cond (aI xs) (some (.nd true .ls (aO xs lo hi))) none) ((nP x).bind λxs=>cond (aI xs) (some (.tp (aO xs lo hi))) none))
def tI (lo hi:Bool):List T->Option T
 | x::ts=>match lo,hi,ts with
  | false,false,[]=>nR x none none
  | true,false,[a]=>(aY a).bind λa=>nR x (some a) none
  | false,true,[b]=>(aY b).bind λb=>nR x none (some b)
  | true,true,[a,b]=>two (aY a) (aY b) λa b=>nR x (some a) (some b)
  | _,_,_=>none
 | _=>none
def pq (x:T):Option Bool:= cQ ((lA x).bind λb=>some b) (cQ ((aY x).bind λi=>some (i != 0)) (cQ ((bW x).bind λt=>some (!t.isEmpty)) (cQ ((lR x).bind λxs=>some (!xs.isEmpty)) (cQ ((BK x).bind λd=>some (!d.1.isEmpty)) ((mf x).bind λ_=>some false)))))
def rC:List T->Option T
 | [x]=>cQ ((bW x).bind λt=>some (.int t.length)) ((lR x).bind λxs=>some (.int xs.length))
 | _=>none
def BG:Lc->Option Int
 | [c,d]=>if Ym c=true/\Ym d=true then some (((c - 48) * 10+(d - 48):Nat):Int) else none
 | _=>none
def rF:List T->Option T
 | [x]=>cQ ((aY x).bind λi=>some (.int i)) (cQ ((lA x).bind λb=>some (.int (cond b 1 0))) ((bW x).bind λt=>(BG t).bind λi=>some (.int i)))
 | _=>none
def rn:List T->Option T
 | [x]=>(aY x).bind λi=>if 0<=i/\i<100 then some (.str (dg i.toNat)) else none
 | _=>none
def CD:List T->Option T
 | [x]=>cQ ((bW x).bind λt=>if t.length<=1000000 then some (.nd true .ls (t.map λc=>.str [c])) else none) ((tE (lR x)).bind λxs=>some (.nd true .ls xs))
 | _=>none
def DX:List T->Option T
 | [x]=>cQ ((tE (lJ x)).bind λxs=>some (.tp xs)) ((tE (nP x)).bind λxs=>some (.tp xs))
 | _=>none
def iK:List T->Option (List Bool)
 | []=>some []
 | d::ds=>two (lA d) (iK ds) λx xs=>some (x::xs)
def rG:List T->Option T
 | [x]=>(nS x).bind λxs=>(iK xs).bind λbs=>some (.bl (bs.all id))
 | _=>none
def dput (ks:List Key)(xs:List T)(k:Key)(x:T):List Key×List T:= if (ks.any λk'=>decide (k' = k))=true then(ks,(ks.zip xs).map λkv=>if kv.1=k then x else kv.2) else(ks++[k],xs++[x])
inductive iD where
 | str | int | bool | list | tuple | dict
 deriving DecidableEq
noncomputable def E2:T->Option iD
 | .bl _=>some .bool
 | .int _=>some .int
 | .str _=>some .str
 | .tp _=>some .tuple
 | .nd _ .ls _=>some .list
 | .nd _ (.dc _) _=>some .dict
 | _=>none
def rS (x:T)(ks:List iD):Option Bool:=cQ ((mf x).bind λ_=>some false) ((E2 x).bind λk=>some (ks.any λj=>j == k||(k == .bool&&j == .int)))
def lX (ks:List iD):List T->Option T
 | [x]=>(rS x ks).bind λb=>some (.bl b)
 | _=>none
def rE (c:Nat):List T->Option T
 | [x]=>(mH x).bind λo=>if o.1=c then some (.bl true) else none
 | _=>none
noncomputable def iI (tb:List (Nat×Bool)):List T->Option T
 | [.xo c _ _]=>(tb.lookup c).bind λb=>some (.bl b)
 | _=>none
def l9:List (Lc×T)->Lc->T->T
 | [],_,w=>w
 | p::d,t,w=>if p.1=t then p.2 else l9 d t w
def CC (d:List (Lc×T)):List T->Option T
 | [x,w]=>(bW x).bind λt=>cond (shr w) (some (l9 d t w)) none
 | _=>none
def Xs:List T->Option (List Lc)
 | []=>some []
 | d::ds=>two (bW d) (Xs ds) λx xs=>some (x::xs)
def splits (l y:Lc):List Lc:=(Txt.split (S l) (S y)).map λs=>s.cps.toList
inductive ME where
 | join | split | find
 deriving DecidableEq
noncomputable def m7 (f:T->Option T):List T->Option T
 | [x]=>f x
 | _=>none
def mJ:ME->Lc->List T->Option T
 | .join=>λl=>m7 λy=>(nS y).bind λxs=>(Xs xs).bind λts=>if l=[]/\ts.flatten.length<=16777216 then some (.str ts.flatten) else none
 | .split=>λl=>m7 λy=>(bW y).bind λy=>if y≠[]/\l.length<=1000000 then some (.nd true .ls ((splits l y).map .str)) else none
 | .find=>λl ts=>match ts with
  | [y,i]=>two (bW y) (aY i) λy i=>some (.int (Txt.find3 (S l) (S y) i))
  | _=>none
inductive Op where
 | add
 | sub
 | mul
 | muls
 | fdiv
 | mod
 | pow
 | neg
 | eq
 | ne
 | lt
 | le
 | gt
 | ge
 | isin
 | notin
 | is
 | isnot
 | sl (lo hi:Bool)
 | len
 | int
 | str
 | list
 | tuple
 | all
 | isi (ks:List iD)
 | isc (x:Str) (c:Nat)
 | kget (x:Str) (d:List (Lc×T))
 | isx (x:Str) (tb:List (Nat×Bool))
 | isxb (tb:List (Nat×Bool))
 | isxt (xs:Lh) (tb:List (Nat×Bool))
def bZ:Op->List T->Option T
 | .add=>m8
 | .sub=>rk
 | .mul=>rB
 | .muls=>CF
 | .fdiv=>oDiv
 | .mod=>oMod
 | .pow=>rp
 | .neg=>rz
 | .eq=>oEq
 | .ne=>Fj
 | .lt=>oLt
 | .le=>oLe
 | .gt=>Fp
 | .ge=>Fq
 | .isin=>Fo
 | .notin=>rq
 | .is=>Fm
 | .isnot=>rD
 | .sl lo hi=>tI lo hi
 | .len=>rC
 | .int=>rF
 | .str=>rn
 | .list=>CD
 | .tuple=>DX
 | .all=>rG
 | .isi ks=>lX ks
 | .isc _ c=>rE c
 | .kget _ d=>CC d
 | .isx _ tb=>iI tb
 | .isxb tb=>iI tb
 | .isxt _ tb=>iI tb
inductive MU where
 | append | pop | popI | insert
 deriving DecidableEq
noncomputable def Qu {α:Type}:List α->Nat->Option (α×List α)
 | [],_=>none
 | x::xs,0=>some (x,xs)
 | x::xs,j+1=>(Qu xs j).bind λr=>some (r.1,x::r.2)
noncomputable def sy:List T->Option Unit
 | []=>some ()
 | _=>none
noncomputable def nz:List T->Option T
 | [y]=>some y
 | _=>none
noncomputable def BU:List T->Option (T×T)
 | [x,y]=>some (x,y)
 | _=>none
def mI:MU->List T->List T->Option (List T×T)
 | .append=>λxs ts=>(nz ts).bind λy=>if xs.length<16777216 then some (xs++[y],.non) else none
 | .pop=>λxs ts=>(sy ts).bind λ_=>(xs.getLast?).bind λd=>some (xs.dropLast,d)
 | .popI=>λxs ts=>(nz ts).bind λi=>(aY i).bind λi=>(eI xs.length i).bind λj=>(Qu xs j).bind λr=>if xs.length<=16777216 then some (r.2,r.1) else none
 | .insert=>λxs ts=>(BU ts).bind λp=>(aY p.1).bind λi=>if 0<=i/\i<=xs.length/\xs.length<16777216 then some (xs.take i.toNat++p.2::xs.drop i.toNat,.non) else none
def fm (t k o:T):Option T:=
 match t with
 | .nd true .ls xs=>(aY k).bind λi=>(eI xs.length i).bind λj=>(putN xs j o).bind λys=>some (.nd true .ls ys)
 | .nd true (.dc ks) xs=>(md k).bind λk=>if ks.length<16777216/\(aI xs&&shr o)=true then some (.nd true (.dc (dput ks xs k o).1) (dput ks xs k o).2) else none
 | _=>none
def YA:Lh->List T->Str->T->Option (Lh×List T)
 | [],[],f,o=>some ([f],[o])
 | g::fs,x::xs,f,o=>cond (decide (g=f)) (some (g::fs,o::xs)) ((YA fs xs f o).bind λr=>some (g::r.1,x::r.2))
 | _,_,_,_=>none
def nk (t:T)(c:Nat)(f:Str)(o:T):Option T:=
 match t with
 | .nd true (.ob c' fs) xs=>if c' = c/\fs.length<1000 then(YA fs xs f o).bind λr=>some (.nd true (.ob c' r.1) r.2) else none
 | _=>none
structure d5 where
 c:Nat
 fs:Lh
 ts:List T
noncomputable abbrev Fn:=List T->(T->List T->Prop)->(d5->List T->Prop)->Prop
abbrev KP:=Sl->Sl->Prop
abbrev XP:=d5->Sl->Sl->Prop
inductive Md where
 | mv | mu
 deriving DecidableEq
inductive Hd where
 | fn (x:Str)
 | mt (c:Nat) (x:Str)
 | mk (c:Nat) (x:Str)
inductive IK where
 | seq | rng | enumS
 deriving DecidableEq
inductive Xp where
 | v (i:Nat)
 | m (i:Nat)
 | c (t:T)
 | g (x:Str) (t:T)
 | fz (e:Xp)
 | ap (o:Op) (es:List Xp)
 | me (m:ME) (o:Xp) (es:List Xp)
 | chn (o1 o2:Op) (a b c:Xp)
 | bo (k:Bool) (es:List Xp)
 | not (a:Xp)
 | t (a:Xp)
 | tn (a:Xp)
 | tb (k:Bool) (es:List Xp)
 | ife (t a b:Xp)
 | lst (es:List Xp)
 | tup (es:List Xp)
 | dct
 | tpl (e:Xp)
 | ix (a k:Xp)
 | at (a:Xp) (c:Nat) (f:Str)
 | atX (a:Xp) (f:Str) (cs:Lc)
 | call (h:Hd) (ms:List Md) (f:Fn) (es:List Xp)
 | mu (m:MU) (p:Xp) (es:List Xp)
 | lc (elt:Xp) (n:Nat) (k:IK) (its ifs:List Xp)
inductive Tg where
 | v (i:Nat)
 | tup (is:Lc)
 | sub (p k:Xp)
 | fld (p:Xp) (c:Nat) (f:Str)
inductive Cm where
 | ret (e:Xp)
 | asg (t:Tg) (e:Xp)
 | aug (i:Nat) (o:Op) (e:Xp)
 | ife (t:Xp) (a b:List Cm)
 | loop (t:Tg) (k:IK) (its:List Xp) (b:List Cm)
 | whl (t:Xp) (b:List Cm)
 | ex (e:Xp)
 | never
 | raise (c:Nat) (x f:Str) (any:Bool) (e:Xp)
 | raise0 (c:Nat) (x:Str) (e:Xp)
 | tri (x:Str) (i:Nat) (mt:Lc) (b h:List Cm)
structure Ends where
 rt:T->KP
 bk:KP
 ct:KP
 ex:XP
@[reducible] def aK {α β:Type}(o:Option (α×β))(Q:α->β->Prop):Prop:=Option.rec (motive:=λ_=>Prop) False (λp=>Prod.rec (motive:=λ_=>Prop) Q p) o
def zk {α β:Type}{o:Option (α×β)}{Q:α->β->Prop}(h:aK o Q):∃ y z,o=some (y,z)/\Q y z:=by
 match o,h with
 | none,h=>exact h.elim
 | some (y,z),h=>exact⟨y,z,rfl,h⟩
def Fs (s Z:Sl)(i:Nat):Option (Sl×Sl):=(s[i]?).bind λx=>(i6 x).bind λt=>(ZM s Z i .no).bind λr=>some (r.1,.own t::r.2)
def lh (s:Sl):Sl->Option (Sl×Sl)
 | .own t::Z=>cond (shr t) (some (s,.own t::Z)) (some (s,.own (aV t)::Z))
 | .al i p::Z=>(aS s i p).bind λt=>(putSt s Z i p (aV t)).bind λr=>some (r.1,.own (aV t)::r.2)
 | _=>none
def lK (t k:T):Option Nat:=
 match t with
 | .nd _ .ls xs=>(aY k).bind λi=>eI xs.length i
 | .tp xs=>(aY k).bind λi=>eI xs.length i
 | .ks _ xs=>(aY k).bind λi=>eI xs.length i
 | .nd _ (.dc ks) _=>(md k).bind λk=>ks.findIdx? λk'=>decide (k' = k)
 | _=>none
noncomputable def mi (t:T)(c:Nat)(f:Str):Option Nat:=
 match t with
 | .nd _ (.ob c' fs) _=>cond (c' == c) (fs.findIdx? λg=>decide (g=f)) none
 | _=>none
noncomputable def parts:T->Option (List T)
 | .nd _ _ xs=>some xs
 | .tp xs=>some xs
 | .ks _ xs=>some xs
 | _=>none
def QU (s:Sl)(x:Slot)(j:T->Option Nat):Option Slot:=
 match x with
 | .own t=>(j t).bind λn=>(parts t).bind λxs=>(xs[n]?).bind λu=>some (.own u)
 | .al i p=>(aS s i p).bind λt=>(j t).bind λn=>(parts t).bind λxs=>(xs[n]?).bind λu=>cond (shr u) (some (.own u)) (some (.al i (p++[n])))
 | .no=>none
def cV (s:Sl):Sl->Option Sl
 | y::x::Z=>(res s y).bind λk=>cQ (two (i6 x) (aY k) λt i=>(bW t).bind λl=>(iL l i).bind λc=>some (.own (.str [c])::Z)) ((QU s x λt=>lK t k).bind λz=>some (z::Z))
 | _=>none
def atS (s:Sl)(c:Nat)(f:Str):Sl->Option Sl
 | x::Z=>(QU s x λt=>mi t c f).bind λz=>some (z::Z)
 | _=>none
def BR (f:Str)(cs:Lc):Sl->Option Sl
 | .own (.xo c fs ts)::Z=>cond (cs.contains c) ((fs.findIdx? λg=>decide (g=f)).bind λn=>(ts[n]?).bind λu=>some (.own u::Z)) none
 | _=>none
def eR:Nat->Sl->Sl->Option (Sl×Sl)
 | 0,Z,acc=>some (acc,Z)
 | n+1,x::Z,acc=>eR n Z (x::acc)
 | _+1,[],_=>none
abbrev Pl:=List (Option (Nat×Lc))
def yE:List Md->Sl->Sl->Sl->Option ((List T×Pl)×(Sl×Sl))
 | [],[],s,Z=>some (([],[]),(s,Z))
 | _::ms,.own t::xs,s,Z=>(yE ms xs s Z).bind λr=>some ((t::r.1.1,none::r.1.2),r.2)
 | .mu::ms,.al i p::xs,s,Z=>(aS s i p).bind λt=>(putSt s Z i p .any).bind λq=>(aT (jQ i 0) xs).bind λxs=>(yE ms xs q.1 q.2).bind λr=>some ((t::r.1.1,some (i,p)::r.1.2),r.2)
 | _,_,_,_=>none
noncomputable def sA:T->Option Unit
 | .any=>some ()
 | _=>none
def wU:Pl->List T->Sl->Sl->Option (Sl×Sl)
 | [],[],s,Z=>some (s,Z)
 | none::ps,_::ts,s,Z=>wU ps ts s Z
 | some ip::ps,t::ts,s,Z=>(wU ps ts s Z).bind λq=>(aS q.1 ip.1 ip.2).bind λu=>(sA u).bind λ_=>putSt q.1 q.2 ip.1 ip.2 t
 | _,_,_,_=>none
@[reducible] def fU (o:Option ((List T×Pl)×(Sl×Sl)))(Q:List T->Pl->Sl->Sl->Prop):Prop:=Option.rec (motive:=λ_=>Prop) False (λp=>Prod.rec (motive:=λ_=>Prop) (λa b=>Prod.rec (motive:=λ_=>Prop) (λts ps=>Prod.rec (motive:=λ_=>Prop) (λs Z=>Q ts ps s Z) b) a) p) o
def Vc (h:fU o Q):∃ ts ps s Z,o=some ((ts,ps),(s,Z))/\Q ts ps s Z:=by
 match o,h with
 | none,h=>exact h.elim
 | some ((ts,ps),(s,Z)),h=>exact⟨ts,ps,s,Z,rfl,h⟩
def FD (s:Sl)(h:Hd)(Z:Sl):Bool:=
 match h with
 | .mt c m=>match Z with
  | x::_=>match (res s x).bind mH with
   | some o=>o.1 == c&&!o.2.1.contains m
   | none=>false
  | []=>false
 | .fn _=>true
 | .mk _ _=>true
def ckS:Sl->Bool
 | .own (.str _)::_=>true
 | _=>false
def BN (s:Sl):Sl->Bool
 | .al i p::_=>match aS s i p with
  | some (.nd true .ls _)=>true
  | _=>false
 | _=>false
def Bl (m:MU)(s Z:Sl)(ts:List T):Option (Sl×Sl):=
 match Z with
 | .al i p::Z=>(aS s i p).bind λt=>match t with
  | .nd true .ls xs=>(mI m xs ts).bind λr=>(putSt s Z i p (.nd true .ls r.1)).bind λq=>some (q.1,.own r.2::q.2)
  | _=>none
 | _=>none
def A3:Sl->Option (Lc×Sl)
 | .own (.str l)::Z=>some (l,Z)
 | _=>none
def FG:Sl->Option (Bool×Sl)
 | .own (.bl b)::Z=>some (b,Z)
 | _=>none
def iZ:Sl->Option (T×Sl)
 | .own t::Z=>some (t,Z)
 | _=>none
def signs (t:Lc):List T:=t.map λc=>.str [c]
noncomputable def yF (n:Nat):List T->List T
 | []=>[]
 | d::ds=>.tp [.int n,d]::yF (n+1) ds
def A8 (x:T):Option (List T):=cQ ((bW x).bind λt=>some (signs t)) ((lR x).bind λxs=>cond (aI xs) (some xs) (some (views xs)))
@[irreducible] noncomputable def lH (j:Int):Bool:=@decide (-(2 ^ 62)<=j/\j<2 ^ 62) (Classical.propDecidable _)
def AA (h:lH j=true):-(2 ^ 62)<=j/\j<2 ^ 62:=by unfold lH at h;exact @of_decide_eq_true _ (Classical.propDecidable _) h
def Az (h:-1000000000<=j/\j<=1000000000):lH j=true:=by unfold lH;exact @decide_eq_true _ (Classical.propDecidable _) ⟨aB,aB⟩
def Ay {α:Type}{b:Bool}{x y:α}(h:cond b (some x) none=some y):b=true/\x=y:=by
 cases b with
 | true=>exact⟨rfl,uQ h⟩
 | false=>cases h
def A9:List T->Option (List T)
 | [x]=>(aY x).bind λj=>cond (lH j) (some ((List.range j.toNat).map λ(k:Nat)=>.int (k:Int))) none
 | [x,y]=>two (aY x) (aY y) λi j=>cond (lH i&&lH j) (some ((List.range (j - i).toNat).map λ(k:Nat)=>.int (i+(k:Int)))) none
 | _=>none
noncomputable def rR (f:T->Option (List T)):List T->Option (List T)
 | [x]=>f x
 | _=>none
def mK:IK->List T->Option (List T)
 | .seq=>rR A8
 | .rng=>A9
 | .enumS=>rR λx=>(bW x).bind λt=>some (yF 0 (signs t))
def iy (k:IK)(n:Nat)(s Z:Sl):Option ((List T×Option T)×(Sl×Sl)):=
 match n,Z with
 | 1,.al i p::Z=>(aS s i p).bind λt=>(mK k [t]).bind λds=>(putSt s Z i p .any).bind λq=>some ((ds,some t),(q.1,.al i p::q.2))
 | n,Z=>(dZ n Z []).bind λr=>(mK k r.1).bind λds=>some ((ds,none),(s,r.2))
def ir (o:Option T)(s Z:Sl):Option (Sl×Sl):=match o with
 | none=>some (s,Z)
 | some t=>match Z with
  | .al i p::Z=>(aS s i p).bind λu=>(sA u).bind λ_=>putSt s Z i p t
  | .no::Z=>some (s,Z)
  | _=>none
@[reducible] def mn (o:Option ((List T×Option T)×(Sl×Sl)))(Q:List T->Option T->KP):Prop:=Option.rec (motive:=λ_=>Prop) False (λp=>Prod.rec (motive:=λ_=>Prop) (λa b=>Prod.rec (motive:=λ_=>Prop) (λds o=>Prod.rec (motive:=λ_=>Prop) (λs Z=>Q ds o s Z) b) a) p) o
def P5 (h:mn o Q):∃ ds l s Z,o=some ((ds,l),(s,Z))/\Q ds l s Z:=by
 match o,h with
 | none,h=>exact h.elim
 | some ((ds,l),(s,Z)),h=>exact⟨ds,l,s,Z,rfl,h⟩
noncomputable def shS (n:Nat):Slot->Slot
 | .al i p=>.al (n+i) p
 | .own t=>.own t
 | .no=>.no
def iE (n:Nat)(x:Slot):Option Slot:=some (shS n x)
noncomputable def pj (n:Nat):Slot->Slot
 | .al i p=>cond (n.ble i) (.al (i - n) p) .no
 | .own t=>.own t
 | .no=>.no
def fE (n:Nat)(x:Slot):Option Slot:=some (pj n x)
def Aq (n:Nat)(d:T):Option Sl:=match n with
 | 1=>some [.own d]
 | n=>(lE d).bind λxs=>cond (xs.length == n) (some (xs.map .own)) none
def QW (n:Nat)(tt:Sl->Sl->(Bool->KP)->Prop)(fe:Sl->Sl->KP->Prop):List T->List T->Sl->Sl->(List T->KP)->Prop
 | [],acc,s,Z,K=>K acc s Z
 | d::ds,acc,s,Z,K=>bG (Aq n d) λl=>bG (aT (iE n) s) λs1=>bG (aT (iE n) Z) λW'=>tt (l++s1) W' λb s2 V'=>d4 b
   (fe s2 V' λs3 T8=>aK (iZ T8) λt T7=>acc.length<16777216/\bG (aT (fE n) (s3.drop n)) λs5=>bG (aT (fE n) T7) λT6=>QW n tt fe ds (acc++[t]) s5 T6 K)
   (bG (aT (fE n) (s2.drop n)) λs5=>bG (aT (fE n) V') λT6=>QW n tt fe ds acc s5 T6 K)
def CB:List T->Option Bool
 | [t]=>pq t
 | _=>none
def iu:XP:=λ_ _ _=>False
mutual
def WE:Xp->Sl->Sl->KP->XP->Prop
 | .v i=>λs Z K _=>bG (iG s i) λx=>K s (x::Z)
 | .m i=>λs Z K _=>aK (Fs s Z i) K
 | .c t=>λs Z K _=>K s (.own t::Z)
 | .g _ t=>λs Z K _=>K s (.own t::Z)
 | .fz e=>λs Z K X=>WE e s Z (λs1 W'=>aK (lh s1 W') K) X
 | .ap o es=>λs Z K X=>iC es s Z (λs1 W'=>aK (cN s1 es.length W' []) λts V'=>bG (bZ o ts) λz=>K s1 (.own z::V')) X
 | .me m o es=>λs Z K X=>WE o s Z (λs1 W'=>d4 (ckS W') (iC es s1 W' (λs2 V'=>aK (cN s2 es.length V' []) λts T8=>aK (A3 T8) λl T7=>bG (mJ m l ts) λz=>K s2 (.own z::T7)) X) False) X
 | .chn o1 o2 a b c=>λs Z K X=>WE a s Z (λs0 TJ=>WE b s0 TJ (λs1 W'=>aK (cN s1 2 W' []) λts V'=>bG (bZ o1 ts) λz=>bG (lA z) λz=>d4 z
   (WE c s1 W' (λs2 T8=>aK (cN s2 2 T8 []) λts T7=>bG (bZ o2 ts) λz=>aK (eR 1 T7 []) λ_ T6=>K s2 (.own z::T6)) X) (K s1 (.own (.bl false)::V'))) X) X
 | .bo k es=>λs Z K X=>WB k es s Z K X
 | .not a=>λs Z K X=>WE a s Z (λs1 W'=>aK (FG W') λb V'=>K s1 (.own (.bl !b)::V')) X
 | .t a=>λs Z K X=>WE a s Z (λs1 W'=>aK (cN s1 1 W' []) λts V'=>bG (CB ts) λb=>K s1 (.own (.bl b)::V')) X
 | .tn a=>λs Z K X=>WT a s Z (λb s1 W'=>K s1 (.own (.bl !b)::W')) X
 | .tb k es=>λs Z K X=>nB k es s Z (λb s1 W'=>K s1 (.own (.bl b)::W')) X
 | .ife t a b=>λs Z K X=>WT t s Z (λz s1 W'=>d4 z (WE a s1 W' K X) (WE b s1 W' K X)) X
 | .lst es=>λs Z K X=>iC es s Z (λs1 W'=>aK (dZ es.length W' []) λts V'=>K s1 (.own (.nd true .ls ts)::V')) X
 | .tup es=>λs Z K X=>iC es s Z (λs1 W'=>aK (dZ es.length W' []) λts V'=>K s1 (.own (.tp ts)::V')) X
 | .dct=>λs Z K _=>K s (.own (.nd true (.dc []) [])::Z)
 | .tpl e=>λs Z K X=>WE e s Z (λs1 W'=>aK (iZ W') λt V'=>bG (lJ t) λts=>K s1 (.own (.tp ts)::V')) X
 | .ix a k=>λs Z K X=>WE a s Z (λs1 W'=>WE k s1 W' (λs2 V'=>bG (cV s2 V') λT8=>K s2 T8) X) X
 | .at a c f=>λs Z K X=>WE a s Z (λs1 W'=>bG (atS s1 c f W') λV'=>K s1 V') X
 | .atX a f cs=>λs Z K X=>WE a s Z (λs1 W'=>bG (BR f cs W') λV'=>K s1 V') X
 | .call h ms f es=>λs Z K X=>WEh h es s Z (λs1 W'=>aK (eR es.length W' []) λxs V'=>fU (yE ms xs s1 V') λts ps s2 T8=>match h with
   | .mk c _=>f (.nd true (.ob c []) []::ts) (λr ts'=>match r,ts' with
     | .non,o::os=>aK (wU ps os s2 T8) λs3 T7=>K s3 (.own o::T7)
     | _,_=>False) (λx ts'=>aK (wU ps ts'.tail s2 T8) (X x))
   | _=>f ts (λr ts'=>aK (wU ps ts' s2 T8) λs3 T7=>K s3 (.own r::T7)) (λx ts'=>aK (wU ps ts' s2 T8) (X x))) X
 | .mu m p es=>λs Z K X=>WE p s Z (λs1 W'=>d4 (BN s1 W') (iC es s1 W' (λs2 V'=>aK (dZ es.length V' []) λts T8=>aK (Bl m s2 T8 ts) K) X) False) X
 | .lc elt n k its ifs=>λs Z K X=>iC its s Z (λs1 W'=>mn (iy k its.length s1 W') λds o s2 V'=>
   QW n (λs Z K=>nB true ifs s Z K iu) (λs Z K=>WE elt s Z K iu) ds [] s2 V' λacc s3 T8=>aK (ir o s3 T8) λs4 T7=>K s4 (.own (.nd true .ls acc)::T7)) X
def iC:List Xp->Sl->Sl->KP->XP->Prop
 | []=>λs Z K _=>K s Z
 | e::es=>λs Z K X=>WE e s Z (λs1 W'=>iC es s1 W' K X) X
def WEh (h:Hd):List Xp->Sl->Sl->KP->XP->Prop
 | []=>λs Z K _=>K s Z
 | e::es=>λs Z K X=>WE e s Z (λs1 W'=>d4 (FD s1 h W') (iC es s1 W' K X) False) X
def WB (k:Bool):List Xp->Sl->Sl->KP->XP->Prop
 | []=>λ_ _ _ _=>False
 | e::es=>λs Z K X=>WE e s Z (λs1 W'=>match es with
  | []=>K s1 W'
  | _=>aK (FG W') λb V'=>match k with
   | true=>d4 b (WB k es s1 V' K X) (K s1 (.own (.bl false)::V'))
   | false=>d4 b (K s1 (.own (.bl true)::V')) (WB k es s1 V' K X)) X
def WT:Xp->Sl->Sl->(Bool->KP)->XP->Prop
 | .t a=>λs Z K X=>WE a s Z (λs1 W'=>aK (cN s1 1 W' []) λts V'=>bG (CB ts) λb=>K b s1 V') X
 | .tn a=>λs Z K X=>WT a s Z (λb=>K !b) X
 | .tb k es=>λs Z K X=>nB k es s Z K X
 | .ap o es=>λs Z K X=>iC es s Z (λs1 W'=>aK (cN s1 es.length W' []) λts V'=>bG (bZ o ts) λz=>bG (lA z) λb=>K b s1 V') X
 | .chn o1 o2 a b c=>λs Z K X=>WE a s Z (λs0 TJ=>WE b s0 TJ (λs1 W'=>aK (cN s1 2 W' []) λts V'=>bG (bZ o1 ts) λz=>bG (lA z) λz=>d4 z
   (WE c s1 W' (λs2 T8=>aK (cN s2 2 T8 []) λts T7=>bG (bZ o2 ts) λz=>aK (eR 1 T7 []) λ_ T6=>bG (lA z) λb=>K b s2 T6) X) (K false s1 V')) X) X
 | _=>λ_ _ _ _=>False
def nB (k:Bool):List Xp->Sl->Sl->(Bool->KP)->XP->Prop
 | []=>λs Z K _=>K k s Z
 | e::es=>λs Z K X=>WT e s Z (λb s1 W'=>match es with
  | []=>K b s1 W'
  | _=>match k with
   | true=>d4 b (nB k es s1 W' K X) (K false s1 W')
   | false=>d4 b (K true s1 W') (nB k es s1 W' K X)) X
end
def Xu:Lc->List T->Sl->Sl->Option (Sl×Sl)
 | [],[],s,Z=>some (s,Z)
 | i::is,t::ts,s,Z=>(ZM s Z i (.own t)).bind λq=>Xu is ts q.1 q.2
 | _,_,_,_=>none
def setTop (i:Nat)(s:Sl):Sl->Option (Sl×Sl)
 | x::Z=>ZM s Z i x
 | _=>none
def sP (t:Tg)(d:T)(s Z:Sl)(K:KP):Prop:=match t with
 | .v i=>aK (ZM s Z i (.own d)) K
 | .tup is=>bG (lE d) λds=>aK (Xu is ds s Z) K
 | _=>False
def Qv (t:Tg)(o:Option T)(body:Sl->Sl->KP->Ends->Prop)(K:KP)(D:Ends):List T->Sl->Sl->Prop
 | [],s,Z=>aK (ir o s Z) K
 | d::ds,s,Z=>sP t d s Z λs1 W'=>body s1 W' (λs Z=>Qv t o body K D ds s Z) { rt:=λr s Z=>aK (ir o s Z) (D.rt r),bk:=λs Z=>aK (ir o s Z) K,ct:=λs Z=>Qv t o body K D ds s Z,ex:=D.ex }
def Ii (m:Nat)(n:Nat×Bool)(s:Sl):Sl->Option Slot
 | .al i p::_=>(aS s i p).bind λt=>(lR t).bind λxs=>cond (xs.length == n.1&&(lJ t).isSome == n.2) ((xs[m]?).bind λu=>cond (shr u) (some (.own u)) (some (.al i (p++[m])))) none
 | _=>none
def MC (s:Sl):Sl->Option (Nat×Bool)
 | .al i p::_=>(aS s i p).bind λt=>(lR t).bind λxs=>some (xs.length,(lJ t).isSome)
 | _=>none
def YB:Sl->Option Sl
 | _::Z=>some Z
 | []=>none
def DW (j:Nat)(n:Nat×Bool)(body:Sl->Sl->KP->Ends->Prop)(K:KP)(D:Ends):Nat->Sl->Sl->Prop
 | 0,s,Z=>bG (MC s Z) λm=>m=n/\bG (YB Z) λW'=>K s W'
 | k+1,s,Z=>bG (Ii (n.1 - (k+1)) n s Z) λx=>aK (ZM s Z j x) λs1 W'=>body s1 W' (λs Z=>DW j n body K D k s Z) { rt:=λr s Z=>bG (YB Z) λW'=>D.rt r s W',bk:=λs Z=>bG (YB Z) λW'=>K s W',ct:=λs Z=>DW j n body K D k s Z,ex:=D.ex }
def Xv (test:Sl->Sl->(Bool->KP)->Prop)(body:Sl->Sl->KP->Ends->Prop)(K:KP)(D:Ends):Nat->Sl->Sl->Prop
 | 0,_,_=>False
 | n+1,s,Z=>test s Z λb s1 W'=>d4 b (body s1 W' (λs Z=>Xv test body K D n s Z) { rt:=D.rt,bk:=K,ct:=λs Z=>Xv test body K D n s Z,ex:=D.ex }) (K s1 W')
def pQ (s:Sl):Sl->Option (Sl×Sl)
 | k::.al i p::.own o::Z=>(res s k).bind λk=>(aS s i p).bind λt=>(fm t k o).bind λt'=>putSt s Z i p t'
 | _=>none
def BE (c:Nat)(f:Str)(s:Sl):Sl->Option (Sl×Sl)
 | .al i p::.own o::Z=>(aS s i p).bind λt=>(nk t c f o).bind λt'=>putSt s Z i p t'
 | _=>none
@[irreducible] noncomputable def iQ (n:Int):Bool:=@decide (0<=n/\n<1000000) (Classical.propDecidable _)
def MB (h:iQ n=true):0<=n/\n<1000000:=by unfold iQ at h;exact @of_decide_eq_true _ (Classical.propDecidable _) h
def Qw (h:0<=n/\n<1000000):iQ n=true:=by unfold iQ;exact @decide_eq_true _ (Classical.propDecidable _) h
noncomputable def m6 (any:Bool):T->Option Unit
 | .int n=>cond any (some ()) (cond (iQ n) (some ()) none)
 | .str s=>cond any (some ()) (if s.length<=1000000 then some () else none)
 | t=>cond (any&&shr t) (some ()) none
noncomputable def CA:Slot->Option Slot
 | .own t=>some (.own t)
 | _=>some .no
def YC (s Z:Sl):Option (Sl×Sl):=(aT CA Z).bind λY'=>some (s.map λ_=>.no,Y')
def AY (is:Lc)(s:Sl):Sl->Option (Sl×Sl)
 | .own t::Z=>(lE t).bind λts=>Xu is ts s Z
 | _=>none
mutual
def WS:Cm->Sl->Sl->KP->Ends->Prop
 | .ret e=>λs Z _ D=>WE e s Z (λs1 W'=>aK (iZ W') λt V'=>D.rt t s1 V') D.ex
 | .asg t e=>λs Z K D=>WE e s Z (λs1 W'=>match t with
  | .v i=>aK (setTop i s1 W') K
  | .tup is=>aK (AY is s1 W') K
  | .sub p k=>WE p s1 W' (λs2 V'=>WE k s2 V' (λs3 T8=>aK (pQ s3 T8) K) D.ex) D.ex
  | .fld p c f=>WE p s1 W' (λs2 V'=>aK (BE c f s2 V') K) D.ex) D.ex
 | .aug i o e=>λs Z K D=>bG (iG s i) λx=>bG (i6 x) λt=>bG (aY t) λ_=>WE e s (x::Z) (λs1 W'=>aK (cN s1 2 W' []) λts V'=>bG (bZ o ts) λz=>bG (aY z) λ_=>aK (ZM s1 V' i (.own z)) K) D.ex
 | .ife t a b=>λs Z K D=>WT t s Z (λz s1 W'=>d4 z (bN a s1 W' K D) (bN b s1 W' K D)) D.ex
 | .loop t k its b=>λs Z K D=>iC its s Z (λs1 W'=>mn (iy k its.length s1 W') λds o s2 V'=>Qv t o (bN b) K D ds s2 V') D.ex
 | .whl t b=>λs Z K D=>∃ n,Xv (λs Z K=>WT t s Z K D.ex) (bN b) K D n s Z
 | .ex e=>λs Z K D=>WE e s Z (λs1 W'=>bG (YB W') λV'=>K s1 V') D.ex
 | .never=>λ_ _ _ _=>False
 | .raise c _ f any e=>λs Z _ D=>WE e s Z (λs1 W'=>aK (iZ W') λt V'=>bG (m6 any t) λ_=>D.ex ⟨c,[f],[t]⟩ s1 V') D.ex
 | .raise0 c _ e=>λs Z _ D=>WE e s Z (λs1 W'=>bG (YB W') λV'=>D.ex ⟨c,[],[]⟩ s1 V') D.ex
 | .tri _ i mt b h=>λs Z K D=>bN b s Z K { rt:=D.rt,bk:=D.bk,ct:=D.ct,ex:=λx s1 W'=>mt.contains x.c=true/\aK (ZM s1 (W'.drop (W'.length - Z.length)) i (.own (.xo x.c x.fs x.ts))) λs2 V'=>bN h s2 V' (λs3 T8=>aK (YC s3 T8) K) { rt:=D.rt,bk:=λs3 T8=>aK (YC s3 T8) D.bk,ct:=λs3 T8=>aK (YC s3 T8) D.ct,ex:=λ_ _ _=>False } }
def bN:List Cm->Sl->Sl->KP->Ends->Prop
 | []=>λs Z K _=>K s Z
 | c::cs=>λs Z K D=>WS c s Z (λs1 W'=>bN cs s1 W' K D) D
end
def eW:List Md->Nat->Sl
 | [],_=>[]
 | .mu::ms,i=>.al i []::eW ms (i+1)
 | .mv::ms,i=>eW ms (i+1)
def cY:List Md->Nat->Sl->Sl->Option (List T)
 | [],_,_,_=>some []
 | .mu::ms,i,.own t::s,.al j []::Z=>cond (j == i) ((cY ms (i+1) s Z).bind λr=>some (t::r)) none
 | .mv::ms,i,_::s,Z=>(cY ms (i+1) s Z).bind λr=>some (.non::r)
 | _,_,_,_=>none
def sd (ts:List T):Nat->Sl:=λn=>match ts,n with
 | t::ts,n+1=>.own t::sd ts n
 | [],n+1=>.no::sd [] n
 | _,0=>[]
def fj (ms:List Md)(Q:T->List T->Prop)(X:d5->List T->Prop):Ends:={ rt:=λt s Z=>bG (cY ms 0 s Z) λr=>Q t r,bk:=λ_ _=>False,ct:=λ_ _=>False,ex:=λx s Z=>bG (cY ms 0 s (Z.drop (Z.length - (eW ms 0).length))) λr=>X x r }
def cA (ms:List Md)(nl:Nat)(body:List Cm):Fn:=λts Q X=>
 (ts.length=ms.length)/\bN body (sd ts nl) (eW ms 0) (λs Z=>bG (cY ms 0 s Z) λr=>Q .non r) (fj ms Q X)
variable {W:Wd} {F H:Hp} {a b:AT} {t:T} {v:V} {X:Cx}
def zM {α:Type}{a b:Option α}{z:α}(h:cQ a b=some z):a=some z\/b=some z:=by
 cases a with
 | none=>exact .inr h
 | some x=>exact .inl h
def Ax (h:tE o=some xs):o=some xs/\aI xs=true:=by let⟨ys,e,h⟩:=zb h;cases c:aI ys<;>simp only[c] at h<;>cases h;exact⟨e,c⟩
structure Sq (W:Wd)(F H:Hp)(xs:List T)(vs:List V):Prop where
 len:vs.length=xs.length
 now:aH W H xs vs
 sh:aI xs=true->aH W F xs vs
 vw:aH W F (views xs) vs
def QX (g:aM F H)(h:aH W F xs vs):Sq W F H xs vs:=⟨h.len,h.mono g,λ_=>h,h.view⟩
def YD (g:aM F H)(h:bL W F H xs):Sq W F H (aJ xs) (vals xs):=by have k:=h.isv (F':=H) g λ_ _ _ e=>e;exact⟨k.len,k,λs=>(h.leaf s).2,h.view⟩
def Xw (g:aM F H)(h:OK W F H a)(e:lJ (era a)=some xs):∃ p vs,val a=.ref p/\cJ W.K H p vs/\Sq W F H xs vs:=by
 cases a with
 | tp p ys=>cases e
 | nd p k ys=>cases k<;>cases e;let⟨⟨o,h1,h2⟩,h3⟩:=h;cases h2;exact⟨p,_,rfl,cJ.of h1,YD g h3⟩
 | lf t v=>
  have e:lJ t=some xs:=e;cases t with
  | nd b k ys=>cases k<;>first | exact zj e | (cases e;let⟨_,p,vs,o,h1,h2,h3,h4,h5⟩:=h;cases h3;exact⟨p,vs,h1,cJ.of (g _ _ h2),QX g h5⟩)
  | ks l ys=>cases l<;>first | exact zj e | (cases e;let⟨_,p,vs,h1,h2,h4,h5⟩:=h;exact⟨p,vs,h1,JM g h2,QX g h5⟩)
  | _=>exact zj e
def Xx (g:aM F H)(h:OK W F H a)(e:lE (era a)=some xs):∃ p vs,val a=.ref p/\bP W.K H p vs/\Sq W F H xs vs/\(∀ ys,era a=.tp ys->F p=some (.tup vs)):=by
 cases a with
 | nd p k ys=>cases e
 | tp p ys=>cases e;exact⟨p,_,rfl,bP.of (g _ _ h.1),YD g h.2,λ_ _=>h.1⟩
 | lf t v=>
  have e:lE t=some xs:=e;cases t with
  | tp ys=>cases e;let⟨_,p,vs,h1,h2,h3⟩:=h;exact⟨p,vs,h1,bP.of (g _ _ h2),QX g h3,λ_ _=>h2⟩
  | ks l ys=>cases l<;>first | exact zj e | (cases e;let⟨_,p,vs,h1,h2,h4,h5⟩:=h;exact⟨p,vs,h1,JN g h2,QX g h5,nofun⟩)
  | _=>exact zj e
def DV (e:lR t=some xs):lJ t=some xs\/lE t=some xs:=by
 cases t with
 | nd _ k _=>cases k<;>first | exact .inl e | exact zj e
 | tp _=>exact .inr e
 | ks l _=>cases l<;>first | exact .inl e | exact .inr e
 | _=>exact zj e
def sO (g:aM F H)(h:OK W F H a)(e:lR (era a)=some xs):∃ p vs,val a=.ref p/\(cJ W.K H p vs\/bP W.K H p vs)/\Sq W F H xs vs:=by
 rcases DV e with e | e
 ·let⟨p,vs,h1,h2,h3⟩:=Xw g h e;exact⟨p,vs,h1,.inl h2,h3⟩
 ·let⟨p,vs,h1,h2,h3,_⟩:=Xx g h e;exact⟨p,vs,h1,.inr h2,h3⟩
def Xy (g:aM F H)(h:OK W F H a)(e:era a=.nd o k xs):∃ p vs ob,val a=.ref p/\H p=some ob/\nL W k vs ob/\Sq W F H xs vs:=by
 cases a with
 | tp p ys=>cases e
 | nd p k ys=>cases e;let⟨⟨o,h1,h2⟩,h3⟩:=h;exact⟨p,_,o,rfl,h1,h2,YD g h3⟩
 | lf t v=>cases e;let⟨_,p,vs,o,h1,h2,h3,h4,h5⟩:=h;exact⟨p,vs,o,h1,g _ _ h2,h3,QX g h5⟩
def DU (h:OK W F H a)(e:era a=.int i):val a=.int i:=by cases a<;>cases e;exact h.2
def ZN (h:OK W F H a)(e:era a=.bl i):val a=.bl i:=by cases a<;>cases e;exact h.2
def qF {l:Lc}(h:OK W F H a)(e:era a=.str l):val a=.str (S l)/\l.length<=16777216:=by cases a<;>cases e;exact h.2
def Vd (e:aY t=some i):t=.int i:=by cases t<;>cases e;rfl
def Qx (e:lA t=some i):t=.bl i:=by cases t<;>cases e;rfl
def z6 (e:bW t=some i):t=.str i:=by cases t<;>cases e;rfl
def zE (h:OK W F H a)(e:aY (era a)=some i):val a=.int i:=DU h (Vd e)
def Aw (h:OK W F H a)(e:md (era a)=some k):val a=kV k:=by
 cases q:era a<;>rw[q] at e<;>cases e
 ·exact DU h q
 ·exact(qF h q).1
def rN (W:Wd)(f:List T->Option T)(vs:List V)(H:Hp)(Q:VK):Prop:=∃ F as Γ z,bL W F H as/\vals as=vs/\f (aJ as)=some z/\St W F H Γ/\∀ F' H' w,St W F' H' (w::Γ)->era w=z->Q (val w) H'
abbrev r2 (W:Wd)(f:List T->Option T):R2:=λv u H Q=>rN W f [v,u] H Q
def yU (h:r2 W f v u H Q):∃ F a b Γ z,aM F H/\OK W F H a/\OK W F H b/\val a=v/\val b=u/\f [era a,era b]=some z/\St W F H Γ/\∀ F' H' w,St W F' H' (w::Γ)->era w=z->Q (val w) H':=by
 let⟨F,as,Γ,z,h1,h2,h3,h4,h5⟩:=h
 match as,h2 with
 | [a,b],h2=>cases h2;exact⟨F,a,b,Γ,z,h4.fh,h1.1,h1.2.1,rfl,rfl,h3,h4,h5⟩
def YE (h:rN W f [v] H Q):∃ F a Γ z,aM F H/\OK W F H a/\val a=v/\f [era a]=some z/\St W F H Γ/\∀ F' H' w,St W F' H' (w::Γ)->era w=z->Q (val w) H':=by
 let⟨F,as,Γ,z,h1,h2,h3,h4,h5⟩:=h
 match as,h2 with
 | [a],h2=>cases h2;exact⟨F,a,Γ,z,h4.fh,h1.1,rfl,h3,h4,h5⟩
section
variable {Γ:List AT} {z:T} {Q:VK}
def yV (st:St W F H Γ)(q:∀ F' H' w,St W F' H' (w::Γ)->era w=z->Q (val w) H')(hs:shr z=true)(hv:bY W F z v):Q v H:=q F H (.lf z v) (st.leaf hs hv) rfl
def xw (st:St W F H Γ)(q:∀ F' H' w,St W F' H' (w::Γ)->era w=.int i->Q (val w) H'):Q (.int i) H:=yV st q rfl rfl
def aG (st:St W F H Γ)(q:∀ F' H' w,St W F' H' (w::Γ)->era w=.bl i->Q (val w) H'):Q (.bl i) H:=yV st q rfl rfl
def ZO {l:Lc}(st:St W F H Γ)(q:∀ F' H' w,St W F' H' (w::Γ)->era w=.str l->Q (val w) H')(hl:l.length<=16777216):Q (.str (S l)) H:=yV st q rfl ⟨rfl,hl⟩
def JS (st:St W F H Γ)(q:∀ F' H' w,St W F' H' (w::Γ)->era w=.nd true .ls ts->Q (val w) H')(s:aI ts=true)(i:aH W F ts vs):∀ p,H p=none->Q (.ref p) (upd H p (.lst vs)):=λp hp=>by let⟨h1,h2,h3⟩:=st.aN i s;have:=h1.node (k:=.ls) (o:=.lst vs) hp (by show HO.lst vs=.lst _;rw[h3]);exact q _ _ _ this (congrArg _ h2)
def Av (st:St W F H Γ)(q:∀ F' H' w,St W F' H' (w::Γ)->era w=.tp ts->Q (val w) H')(s:aI ts=true)(i:aH W F ts vs):∀ p,H p=none->Q (.ref p) (upd H p (.tup vs)):=λp hp=>by let⟨h1,h2,h3⟩:=st.aN i s;have:=h1.tuple hp;rw[h3] at this;exact q _ _ _ this (congrArg _ h2)
theorem aH.app:∀ {xs ys:List T} {vs us:List V},aH W F xs vs->aH W F ys us->aH W F (xs++ys) (vs++us)
 | [],_,_,_,h,k=>by rw[show _=[] from h];exact k
 | _::_,_,_,_,⟨v,r,e,h1,h2⟩,k=>⟨v,r++_,by rw[e];rfl,h1,h2.app k⟩
theorem aH.get:∀ {xs:List T} {vs:List V} {j:Nat} {x:T},aH W F xs vs->xs[j]? = some x->∃ v,vs[j]? = some v/\bY W F x v
 | [],_,_,_,_,e=>by cases e
 | _::_,_,0,_,⟨v,r,e,h1,h2⟩,k=>by cases k;exact⟨v,by rw[e];rfl,h1⟩
 | _::_,_,j+1,_,⟨v,r,e,h1,h2⟩,k=>by rw[e];exact h2.get (j:=j) k
theorem aH.drop:∀ {xs:List T} {vs:List V} (n:Nat),aH W F xs vs->aH W F (xs.drop n) (vs.drop n)
 | _,_,0,h=>h
 | [],_,_+1,h=>by rw[show _=[] from h];rfl
 | _::_,_,n+1,⟨v,r,e,_,h2⟩=>by rw[e];exact h2.drop n
theorem aH.take:∀ {xs:List T} {vs:List V} (n:Nat),aH W F xs vs->aH W F (xs.take n) (vs.take n)
 | _,_,0,_=>rfl
 | [],_,_+1,h=>by rw[show _=[] from h];rfl
 | _::_,_,n+1,⟨v,r,e,h1,h2⟩=>by rw[e];exact⟨v,_,rfl,h1,h2.take n⟩
def aH.cut (h:aH W F xs vs)(lo hi:Option Int):aH W F (aO xs lo hi) (ei vs lo hi):=by unfold aO ei;rw[h.len];exact(h.drop _).take _
theorem zZ:∀ {ts:List T},aI ts=true↔∀ t∈ts,shr t=true
 | []=>⟨λ_ _ h=>(by cases h),λ_=>rfl⟩
 | t::ts=>by rw[gn,aI,uS];exact and_congr Iff.rfl zZ
def JT (h:aI xs=true)(k:∀ y∈ys,y∈xs):aI ys=true:=zZ.mpr λy hy=>zZ.mp h y (k y hy)
def YF (h:aI xs=true)(k:aI ys=true):aI (xs++ys)=true:=zZ.mpr λy hy=>(uo.mp hy).elim (zZ.mp h y) (zZ.mp k y)
def JU {xs:List T}{lo hi:Option Int}:∀ y∈aO xs lo hi,y∈xs:=λy hy=>GL (UU hy)
def ZP (W:Wd)(o:Operator)(f:List T->Option T):Prop:=∀ X:Cx,bR X (binaryOp o) (r2 W f)
def P4 (h:fv f [era a,era b]=some z)(ha:OK W F H a)(hb:OK W F H b):∃ i j,val a=.int i/\val b=.int j/\f i j=some z:=by let⟨i,j,e1,e2,e3⟩:=zG h;exact⟨i,j,zE ha e1,zE hb e2,e3⟩
def jr (h:bR X f r)(k:∀ x y H Q,r' x y H Q->r x y H Q):bR X f r':=λLk s U H x y v u Q I rx ry z=>h Lk s U H x y v u Q I rx ry (k x y H Q z)
def ZQ (op:∀ X,bR X (binaryOp o) (rI C g))(k:∀ i j z,f i j=some z->C i j/\∃ n,z=.int n/\g i j=.int n):ZP W o (fv f):=λX=>jr (op X) λx y H Q h=>by let⟨F,a,b,Γ,z,g0,ha,hb,rfl,rfl,e,st,q⟩:=yU h;let⟨i,j,e1,e2,e3⟩:=P4 e ha hb;let⟨c,n,rfl,e4⟩:=k i j z e3;exact⟨i,j,e1,e2,c,by rw[e4];exact xw st q⟩
def z7 {α:Type}{c:Prop} [Decidable c]{x z:α}(h:(if c then some x else none)=some z):c/\x=z:=by
 split at h
 ·cases h;exact⟨by assumption,rfl⟩
 ·cases h
def MA:ZP W .Sub rk:=ZQ (C:=λ_ _=>True) (λX=>jr OU λx y H Q ⟨i,j,e1,e2,_,q⟩=>⟨i,j,e1,e2,q⟩) λi j z e=>by cases e;exact⟨trivial,_,rfl,rfl⟩
def Mz:ZP W .Mult rB:=ZQ (λX=>So) λi j z e=>by let⟨c,rfl⟩:=z7 e;exact⟨c,_,rfl,rfl⟩
def Mx:ZP W .FloorDiv oDiv:=ZQ (λX=>SM) λi j z e=>by let⟨c,rfl⟩:=z7 e;exact⟨c,_,rfl,rfl⟩
def Mw:ZP W .Mod oMod:=ZQ (λX=>OS) λi j z e=>by let⟨c,rfl⟩:=z7 e;exact⟨c,_,rfl,rfl⟩
def Mv:ZP W .Pow rp:=ZQ (λX=>OR) λi j z e=>by let⟨c,rfl⟩:=z7 e;exact⟨c,_,rfl,rfl⟩
end
end
variable {W:Wd} {F H:Hp} {a b:AT} {t:T} {v:V} {X:Cx}
def l1 (h:[a]=[x]):a=x:=(gw h).1
def l2 (h:[a,b]=[x,y]):a=x/\b=y:=⟨(gw h).1,l1 (gw h).2⟩
def Mu (e:nS t=some xs):∃ o,t=.nd o .ls xs:=by
 cases t with
 | nd o k ys=>cases k<;>cases e;exact⟨o,rfl⟩
 | _=>cases e
def Mt (e:nP t=some xs):t=.tp xs:=by cases t<;>cases e;rfl
def sN (g:aM F H)(h:OK W F H a)(e:nS (era a)=some xs):∃ p vs,val a=.ref p/\H p=some (.lst vs)/\Sq W F H xs vs:=by let⟨o,e⟩:=Mu e;let⟨p,vs,o,k1,k2,rfl,k4⟩:=Xy g h e;exact⟨p,vs,k1,k2,k4⟩
def sM (g:aM F H)(h:OK W F H a)(e:nP (era a)=some xs):∃ p vs,val a=.ref p/\F p=some (.tup vs)/\Sq W F H xs vs:=by have e:=Mt e;let⟨p,vs,k1,k2,k3,k4⟩:=Xx g h (by rw[e];rfl);exact⟨p,vs,k1,k4 _ e,k3⟩
def P2:ZP W .Mult CF:=λX=>jr Sk λx y H Q h=>by let⟨F,a,b,Γ,z,g,ha,hb,rfl,rfl,e,st,q⟩:=yU h;let⟨l,n,e1,e2,e⟩:=zG e;let⟨⟨c1,c2,c3⟩,rfl⟩:=z7 e;exact⟨_,_,(qF ha (z6 e1)).1,zE hb e2,c1,c2,c3,ZO st q (by simp only[List.length_flatten,List.map_replicate,List.sum_replicate_nat];rw[Nat.mul_comm];exact c3)⟩
def Mr:ZP W .Add m8:=λX=>jr (xN OV (xN Sr (xN Ra NZ))) λx y H Q h=>by
 let⟨F,a,b,Γ,z,g,ha,hb,rfl,rfl,e,st,q⟩:=yU h;rcases zM e with e | e
 ·let⟨i,j,e1,e2,e⟩:=zG e;cases e;exact .inl ⟨_,_,zE ha e1,zE hb e2,xw st q⟩
 rcases zM e with e | e
 ·let⟨i,j,e1,e2,e⟩:=zG e;let⟨c,rfl⟩:=z7 e;exact .inr (.inl ⟨_,_,(qF ha (z6 e1)).1,(qF hb (z6 e2)).1,by rw[uD];exact c,ZO st q (by rw[ub];exact c)⟩)
 rcases zM e with e | e
 ·let⟨i,j,e1,e2,e⟩:=zG e;let⟨⟨c,s⟩,rfl⟩:=z7 e;rw[uS] at s;let⟨p1,v1,k1,k2,k4⟩:=sN g ha e1;let⟨p2,v2,j1,j2,j4⟩:=sN g hb e2;exact .inr (.inr (.inr ⟨p1,p2,v1,v2,k1,j1,k2,j2,by rw[k4.len,j4.len,uD];exact c,JS st q (YF s.1 s.2) ((k4.sh s.1).app (j4.sh s.2))⟩))
 ·let⟨i,j,e1,e2,e⟩:=zG e;let⟨⟨c,s⟩,rfl⟩:=z7 e;rw[uS] at s;let⟨p1,v1,k1,k4,k3⟩:=sM g ha e1;let⟨p2,v2,j1,j4,j3⟩:=sM g hb e2;have iv:=(k3.sh s.1).app (j3.sh s.2);have sh:=YF s.1 s.2;refine .inr (.inr (.inl ⟨p1,p2,v1,v2,k1,j1,g _ _ k4,g _ _ j4,by rw[k3.len,j3.len];exact c,λz=>?_,λz=>?_,Av st q sh iv⟩))
  ·subst z;rw[uH] at iv;exact yV st q sh ⟨p1,v1,rfl,k4,iv⟩
  ·subst z;exact yV st q sh ⟨p2,v2,rfl,j4,iv⟩
def vQ (W:Wd)(o:CmpOp)(f:List T->Option T):Prop:=∀ X:Cx,X.K=W.K->X.A.units+64<cLine->bR X (compareOp o) (r2 W f)
def vR (h:vP f n [x,y]=some z):∃ b,f x y=some b/\z=.bl (cond n (!b) b):=by let⟨b,e,h⟩:=zb h;cases h;exact⟨b,e,rfl⟩
def Ve {a:V}(h:bY W H t v)(e:mF t=some a):v=a/\zL a=true:=by
 cases t<;>cases e
 ·exact⟨h,rfl⟩
 ·exact⟨h,rfl⟩
 ·exact⟨h,rfl⟩
 ·exact⟨h.1,rfl⟩
theorem D9:∀ {ts:List T} {vs xs:List V},aH W H ts vs->iF ts=some xs->vs=xs/\xs.all zL=true
 | [],_,_,h,e=>by cases e;exact⟨h,rfl⟩
 | t::ts,_,_,⟨v,r,e0,h1,h2⟩,e=>by let⟨a,as,e1,e2,e⟩:=zG e;cases e;let⟨rfl,f1⟩:=Ve h1 e1;let⟨rfl,f2⟩:=D9 h2 e2;exact⟨e0,by rw[UW,f1,f2];rfl⟩
mutual
theorem Vf:∀ {t:T} {v:V} {e:Dat},bY W H t v->bX t=some e->aP H e v
 | .non,_,_,h,e=>by cases e;exact⟨h,rfl⟩
 | .bl _,_,_,h,e=>by cases e;exact⟨h,rfl⟩
 | .int _,_,_,h,e=>by cases e;exact⟨h,rfl⟩
 | .str _,_,_,h,e=>by cases e;exact⟨h.1,rfl⟩
 | .tp ds,_,_,⟨p,vs,e0,h1,h2⟩,e=>by let⟨es,e1,rfl⟩:=uM.mp e;exact⟨p,vs,e0,h1,JV h2 e1⟩
 | .nd _ .ls ds,_,_,⟨p,vs,o,e0,h1,h2,_,h3⟩,e=>by let⟨es,e1,rfl⟩:=uM.mp e;cases h2;exact⟨p,vs,e0,h1,JV h3 e1⟩
 | .nd _ (.dc _) _,_,_,_,e=>by cases e
 | .nd _ (.ob _ _) _,_,_,_,e=>by cases e
 | .xo _ _ _,_,_,_,e=>by cases e
 | .ks _ _,_,_,_,e=>by cases e
 | .any,_,_,_,e=>by cases e
 | .pin _,_,_,_,e=>by cases e
theorem JV:∀ {ts:List T} {vs:List V} {es:List Dat},aH W H ts vs->xn ts=some es->bM H es vs
 | [],_,_,h,e=>by cases e;exact h
 | t::ts,_,_,⟨v,r,e0,h1,h2⟩,e=>by let⟨a,as,e1,e2,e⟩:=zG e;cases e;exact⟨v,r,e0,Vf h1 e1,JV h2 e2⟩
end
def D8 (h:bY W H t v)(e:bX t=some d)(k:(mF t).isNone=true):∃ p,v=.ref p:=by
 cases t with
 | tp xs=>let⟨p,vs,e,_⟩:=h;exact⟨p,e⟩
 | nd o k xs=>let⟨p,vs,o,e,_⟩:=h;exact⟨p,e⟩
 | ks l xs=>let⟨p,vs,e,_⟩:=h;exact⟨p,e⟩
 | xo c fs xs=>let⟨p,vs,e,_⟩:=h;exact⟨p,e⟩
 | any=>cases e
 | pin _=>cases e
 | _=>cases k
def Mq (hx:bY W H x v)(hy:bY W H y u)(e:tP x y=some k):(iX v u=true/\decide (v=u)=k)\/∃ d e p q,v=.ref p/\u=.ref q/\aP H d (.ref p)/\aP H e (.ref q)/\bF d<=50/\cB d e=k:=by
 rcases zM e with e | e
 ·let⟨i,j,e1,e2,e⟩:=zG e;cases e;have hx:bY W H x v:=hx;rw[Vd e1] at hx;rw[Vd e2] at hy;rw[show v=_ from hx,show u=_ from hy];exact .inl ⟨rfl,aD⟩
 rcases zM e with e | e
 ·let⟨l,m,e1,e2,e⟩:=zG e;cases e;rw[z6 e1] at hx;rw[z6 e2] at hy;rw[show v=_ from hx.1,show u=_ from hy.1];refine .inl ⟨rfl,?_⟩;by_cases c:l=m
  ·subst c;simp
  ·rw[uv c,uv];intro z;exact c (by have:=congrArg (λv=>match v with | V.str s=>s.cps.toList | _=>[]) z;simpa[S] using this)
 rcases zM e with e | e
 ·let⟨x',y',e1,e2,e⟩:=zG e;let⟨c,e⟩:=z7 e;let⟨rfl,_⟩:=Ve hx e1;let⟨rfl,_⟩:=Ve hy e2;exact .inl ⟨c,e⟩
 ·let⟨d,d',e1,e2,e⟩:=zG e;let⟨⟨c,n1,n2⟩,e⟩:=z7 e;let⟨p,rfl⟩:=D8 hx e1 n1;let⟨q,rfl⟩:=D8 hy e2 n2;exact .inr ⟨d,d',p,q,rfl,rfl,Vf hx e1,Vf hy e2,c,e⟩
def DT (n:Bool)(o:CmpOp)(op:∀ X:Cx,X.A.units+64<cLine->bR X (compareOp o) λx y H Q=>(iX x y=true/\Q (.bl (cond n (!decide (x=y)) (decide (x=y)))) H)\/∃ d e p q,x=.ref p/\y=.ref q/\aP H d (.ref p)/\aP H e (.ref q)/\bF d<=50/\Q (.bl (cond n (!cB d e) (cB d e))) H):vQ W o (vP tP n):=λX _ hu=>jr (op X hu) λx y H Q h=>by
 let⟨F,a,b,Γ,z,g,ha,hb,rfl,rfl,e,st,q⟩:=yU h;let⟨k,e',rfl⟩:=vR e
 replace e:=e';rcases Mq (ha.now g) (hb.now g) e with⟨h1,h2⟩ | ⟨d,d',p,p',h1,h2,h3,h4,h5,h6⟩
 ·exact .inl ⟨h1,by rw[h2];exact aG st q⟩
 ·exact .inr ⟨d,d',p,p',h1,h2,h3,h4,h5,by rw[h6];exact aG st q⟩
def Ih:vQ W .Eq oEq:=DT false .Eq λX hu=>xN LJ (O3 hu)
def Ig:vQ W .NotEq Fj:=DT true .NotEq λX hu=>xN LI (O2 hu)
def Ji (op:∀ X:Cx,bR X (compareOp o) (lU λi j=>.bl (f i j))):vQ W o (vP (ly f) false):=λX _ _=>jr (op X) λx y H Q h=>by
 let⟨F,a,b,Γ,z,g,ha,hb,rfl,rfl,e,st,q⟩:=yU h;let⟨k,e',rfl⟩:=vR e
 replace e:=e';let⟨i,j,e1,e2,e3⟩:=zG e;cases e3;exact⟨i,j,zE ha e1,zE hb e2,aG st q⟩
def Ie:vQ W .Lt oLt:=Ji λ_=>LH
def Ic:vQ W .LtE oLe:=Ji λ_=>LG
def Ib:vQ W .Gt Fp:=Ji λ_=>LF
def Ia:vQ W .GtE Fq:=Ji λ_=>LD
def zd9 {ks:List Key}{kvs:List (Key×V)}(e:kvs.map (·.1)=ks):(cL kvs k).isSome=ks.any λk'=>decide (k' = k):=by
 subst e;unfold cL
 induction kvs with
 | nil=>rfl
 | cons a l ih=>
  rw[U8,uA,UX];cases h:decide (a.1=k) with
  | true=>rfl
  | false=>rw[Gm];exact ih
def Di (e:BK t=some d):∃ o,t=.nd o (.dc d.1) d.2:=by
 cases t with
 | nd o k ys=>cases k<;>cases e;exact⟨o,rfl⟩
 | _=>cases e
def Dh (g:aM F H)(ha:OK W F H a)(hb:OK W F H b)(e:nj (era a) (era b)=some k) : (∃ i j,val a=.str i/\val b=.str j/\(!(Builtin.Str.occurrences j i 0 j.length 1).isEmpty)=k)\/(∃ p xs,val b=.ref p/\(cJ W.K H p xs\/bP W.K H p xs)/\zL (val a)=true/\xs.all zL=true/\iz (val a) xs=k)\/∃ p o,val b=.ref p/\dS H p (val a) o/\o.isSome=k:=by
 rcases zM e with e | e
 ·let⟨y,l,e1,e2,e⟩:=zG e;cases e;refine .inl ⟨_,_,(qF ha (z6 e1)).1,(qF hb (z6 e2)).1,?_⟩;unfold mL;split
  ·exact StrLaws.found_one (S l) _
  ·rfl
 rcases zM e with e | e
 ·let⟨k',d,e2,e1,e⟩:=zG e;cases e;let⟨o,e1⟩:=Di e1;let⟨p,vs,o,h1,h2,⟨kvs,rfl,h3,_⟩,_⟩:=Xy g hb e1;exact .inr (.inr ⟨p,cL kvs k',h1,by rw[Aw ha e2];exact dS.k h2,zd9 h3⟩)
 ·let⟨x,vs,e1,e2,e⟩:=zG e;cases e;let⟨ys,e2,e3⟩:=zb e2;let⟨h1,h2⟩:=Ve (ha.now g) e1;let⟨p,us,h3,h4,h5⟩:=sO g hb e2;let⟨rfl,h6⟩:=D9 h5.now e3;exact .inr (.inl ⟨p,us,h3,h4,by rw[h1];exact h2,h6,by rw[h1]⟩)
def HZ:vQ W .In Fo:=λX hK hu=>jr (xN zcn (xN (S0 hK) (MH aB))) λx y H Q h=>by
 let⟨F,a,b,Γ,z,g,ha,hb,rfl,rfl,e,st,q⟩:=yU h;let⟨k,e',rfl⟩:=vR e
 replace e:=e';have fin:Q (.bl k) H:=aG st q;rcases Dh g ha hb e with⟨i,j,e1,e2,h⟩ | ⟨p,xs,e1,h1,h2,h3,h⟩ | ⟨p,o,e1,h1,h⟩
 ·exact .inl ⟨i,j,e1,e2,by rw[h];exact fin⟩
 ·exact .inr (.inl ⟨p,xs,e1,h1,h2,h3,by rw[ux aA,h];exact fin⟩)
 ·exact .inr (.inr ⟨p,o,e1,h1,by rw[ux aA,h];exact fin⟩)
def Mp:vQ W .NotIn rq:=λX hK hu=>jr (xN XU (xN (zaj hK) (zcN aB))) λx y H Q h=>by
 let⟨F,a,b,Γ,z,g,ha,hb,rfl,rfl,e,st,q⟩:=yU h;let⟨k,e',rfl⟩:=vR e
 replace e:=e';have fin:Q (.bl (!k)) H:=aG st q;rcases Dh g ha hb e with⟨i,j,e1,e2,h⟩ | ⟨p,xs,e1,h1,h2,h3,h⟩ | ⟨p,o,e1,h1,h⟩
 ·exact .inl ⟨i,j,e1,e2,by rw[h];exact fin⟩
 ·exact .inr (.inl ⟨p,xs,e1,h1,h2,h3,by rw[uC rfl,h];exact fin⟩)
 ·exact .inr (.inr ⟨p,o,e1,h1,by rw[uC rfl,h];exact fin⟩)
def P1 (h:bY W H t v)(e:fQ t=some k):decide (v=.non)=k:=by
 cases t with
 | non=>cases e;rw[show v=_ from h];rfl
 | bl _=>cases e;rw[show v=_ from h];rfl
 | int _=>cases e;rw[show v=_ from h];rfl
 | str _=>cases e;rw[show v=_ from h.1];rfl
 | tp _=>cases e;let⟨p,vs,e,_⟩:=h;rw[e];rfl
 | nd _ _ _=>cases e;let⟨p,vs,o,e,_⟩:=h;rw[e];rfl
 | ks _ _=>cases e;let⟨p,vs,e,_⟩:=h;rw[e];rfl
 | xo _ _ _=>cases e;let⟨p,vs,e,_⟩:=h;rw[e];rfl
 | any=>cases e
 | pin _=>cases e
def Vg (e:mf t=some d):t=.non:=by cases t<;>cases e;rfl
def Dg (g:aM F H)(ha:OK W F H a)(hb:OK W F H b)(e:By (era a) (era b)=some k):(val b=.non/\decide (val a=.non)=k)\/∃ c,val b=.bl c/\∃ i,val a=.bl i/\(i == c)=k:=by
 rcases zM e with e | e
 ·let⟨_,k',e1,e2,e⟩:=zG e;cases e;refine .inl ⟨?_,P1 (ha.now g) e2⟩;have:=hb.now g;rw[Vg e1] at this;exact this
 ·let⟨c,i,e1,e2,e⟩:=zG e;cases e;exact .inr ⟨_,ZN hb (Qx e1),i,ZN ha (Qx e2),rfl⟩
def HY:vQ W .Is Fm:=λX hK hu=>jr (xN N9 O0) λx y H Q h=>by
 let⟨F,a,b,Γ,z,g,ha,hb,rfl,rfl,e,st,q⟩:=yU h;let⟨k,e',rfl⟩:=vR e
 replace e:=e';have fin:Q (.bl k) H:=aG st q;rcases Dg g ha hb e with⟨e1,h⟩ | ⟨c,e1,i,e2,h⟩
 ·exact .inl ⟨e1,by rw[h];exact fin⟩
 ·exact .inr ⟨c,e1,i,e2,by rw[h];exact fin⟩
def Mo:vQ W .IsNot rD:=λX hK hu=>jr (xN SK zcI) λx y H Q h=>by
 let⟨F,a,b,Γ,z,g,ha,hb,rfl,rfl,e,st,q⟩:=yU h;let⟨k,e',rfl⟩:=vR e
 replace e:=e';have fin:Q (.bl (!k)) H:=aG st q;rcases Dg g ha hb e with⟨e1,h⟩ | ⟨c,e1,i,e2,h⟩
 ·exact .inl ⟨e1,by rw[h];exact fin⟩
 ·exact .inr ⟨c,e1,i,e2,by rw[h];exact fin⟩
end
variable {W:Wd} {F H:Hp} {a b:AT} {t:T} {v:V} {X:Cx}
def Mn:tS X (unaryOp .USub) (λv H Q=>rN W rz [v] H Q):=λLk s U H x v Q I rx h=>by let⟨F,a,Γ,z,g,ha,rfl,e,st,q⟩:=YE h;let⟨i,e1,e⟩:=zb e;cases e;exact OQ Lk s U H _ v Q I rx ⟨i,zE ha e1,xw st q⟩
def De {α β:Type}{vs:List α}{xs:List β}(h:vs.length=xs.length):(!xs.isEmpty) = !vs.isEmpty:=by cases vs<;>cases xs<;>first | rfl | cases h
def Mm (g:aM F H)(h:OK W F H a)(e:pq (era a)=some k):mr W.K (val a) H k:=by
 rcases zM e with e | e
 ·let⟨i,e1,e⟩:=zb e;cases e;rw[ZN h (Qx e1)];rfl
 rcases zM e with e | e
 ·let⟨i,e1,e⟩:=zb e;cases e;rw[zE h e1];rfl
 rcases zM e with e | e
 ·let⟨t,e1,e⟩:=zb e;cases e;let⟨k1,k2⟩:=qF h (z6 e1);rw[k1];have e1:(S t).length=t.length:=by simp[S,Str.length]
  refine⟨by rw[e1,uD];exact k2,?_⟩;rw[e1];cases t<;>simp[bne];lia
 rcases zM e with e | e
 ·let⟨xs,e1,e⟩:=zb e;cases e;let⟨p,vs,k1,k2,k3⟩:=sO g h e1;rw[k1];rcases k2 with k2 | k2
  ·exact .inl ⟨vs,k2,De k3.len⟩
  ·exact .inr (.inl ⟨vs,k2,De k3.len⟩)
 rcases zM e with e | e
 ·let⟨d,e1,e⟩:=zb e;cases e;let⟨o,e1⟩:=Di e1;let⟨p,vs,o,k1,k2,⟨kvs,rfl,h3,_⟩,_⟩:=Xy g h e1;rw[k1];refine .inr (.inr ⟨kvs,k2,?_⟩);rw[<-h3];cases kvs<;>rfl
 ·let⟨_,e1,e⟩:=zb e;cases e;have:=h.now g;rw[Vg e1] at this;rw[show val a=_ from this];rfl
noncomputable def Cz (x:Str):Bool:=!(decide (x="len")||decide (x="int"))
def iq (W:Wd)(x:Str)(f:List T->Option T):Prop:=∀ (X:Cx) (e:Expr) (es:Lg) (t:TA) (p pos:Pos),X.K=W.K->(Cz x=true->X.calm=true)->X.mg x=none->PA X (e::es) t->Gl X x -> starEach (e::es) X.env=(false,eval e X.env)::starEach es X.env->(backTo pos (starEach es X.env)).any (·.1)=false->PE X (.Call (.Name x p) (e::es) [] pos) (pK (rN W f) t)
def wt (h:qD X f r)(k:∀ xs H Q,r' xs H Q->r xs H Q):qD X f r':=λLk s U H xs us Q I rx z=>h Lk s U H xs us Q I rx (k xs H Q z)
def mY (h:rN W f vs H Q)(k:∀ z,f []≠some z)(k2:∀ x y r z,f (x::y::r)≠some z):∃ F a Γ z,aM F H/\OK W F H a/\vs=[val a]/\f [era a]=some z/\St W F H Γ/\∀ F' H' w,St W F' H' (w::Γ)->era w=z->Q (val w) H':=by
 let⟨F,as,Γ,z,h1,h2,h3,h4,h5⟩:=h
 match as with
 | []=>exact absurd h3 (k z)
 | [a]=>exact⟨F,a,Γ,z,h4.fh,h1.1,h2.symm,h3,h4,h5⟩
 | x::y::r=>exact absurd h3 (k2 _ _ _ z)
def Fe (h:rN W f vs H Q)(k:∀ xs z,f xs=some z->∃ x y,xs=[x,y]):∃ v u,vs=[v,u]/\r2 W f v u H Q:=by
 let⟨F,as,Γ,z,h1,h2,h3,h4,h5⟩:=h;let⟨x,y,e⟩:=k _ z h3
 match as,e with
 | [a,b],_=>exact⟨_,_,h2.symm,F,[a,b],Γ,z,h1,rfl,h3,h4,h5⟩
def Ml:iq W "len" rC:=λX e es t p pos hK hc hm ha hg hs h=>wQ (wt (JK (zad hK) zct) λxs H Q h=>by
 let⟨F,a,Γ,z,g,ha,rfl,e,st,q⟩:=mY h (λ_=>nofun) (λ_ _ _ _=>nofun);rcases zM e with e | e
 ·let⟨l,e1,e⟩:=zb e;cases e;let⟨k1,k2⟩:=qF ha (z6 e1);exact .inr ⟨l,by rw[k1],by rw[uD];exact k2,xw st q⟩
 ·let⟨xs,e1,e⟩:=zb e;cases e;let⟨p,vs,k1,k2,k3⟩:=sO g ha e1;exact .inl ⟨p,vs,by rw[k1],k2,by rw[k3.len];exact xw st q⟩) hg hm NV ha aA aA hs h
def P0:iq W "int" rF:=λX e es t p pos hK hc hm ha hg hs h=>vN (wt (JK zco zcw) λxs H Q h=>by
 let⟨F,a,Γ,z,g,ha,rfl,e,st,q⟩:=mY h (λ_=>nofun) (λ_ _ _ _=>nofun);rcases zM e with e | e
 ·let⟨l,e1,e⟩:=zb e;cases e;exact .inl (.inl ⟨l,by rw[zE ha e1],xw st q⟩)
 rcases zM e with e | e
 ·let⟨l,e1,e⟩:=zb e;cases e;exact .inl (.inr ⟨l,by rw[ZN ha (Qx e1)],by cases l<;>exact xw st q⟩)
 ·let⟨l,e1,e⟩:=zb e;let⟨i,e2,e⟩:=zb e;cases e
  match l,e1,e2 with
  | [c,d],e1,e2=>let⟨k,rfl⟩:=z7 e2;exact .inr ⟨c,d,by rw[(qF ha (z6 e1)).1],k.1,k.2,xw st q⟩) hg hm DO ha (by decide) (by decide) hs h
def PZ:iq W "str" rn:=λX e es t p pos hK hc hm ha hg hs h=>vN (wt zcv λxs H Q h=>by
 let⟨F,a,Γ,z,g,ha,rfl,e,st,q⟩:=mY h (λ_=>nofun) (λ_ _ _ _=>nofun);let⟨i,e1,e⟩:=zb e;let⟨k,rfl⟩:=z7 e;refine⟨i.toNat,by rw[zE ha e1,Int.toNat_of_nonneg k.1],aB,ZO st q ?_⟩;have:∀ m∈List.range 100,(dg m).length<=16777216:=aE
 exact this _ (gj.mpr aB)) hg hm DP ha aA aA hs h
theorem aH.signs {l:Lc}:aH W F (signs l) (l.map λc=>.str (S [c]))/\aI (signs l)=true:=by
 induction l with
 | nil=>exact⟨rfl,rfl⟩
 | cons c l ih=>exact⟨⟨_,_,rfl,⟨rfl,by simp⟩,ih.1⟩,ih.2⟩
def PY:iq W "list" CD:=λX e es t p pos hK hc hm ha hg hs h=>vN (wt (JK X3 (zai (hc aA))) λxs H Q h=>by
 let⟨F,a,Γ,z,g,ha,rfl,e,st,q⟩:=mY h (λ_=>nofun) (λ_ _ _ _=>nofun);rcases zM e with e | e
 ·let⟨l,e1,e⟩:=zb e;let⟨k,rfl⟩:=z7 e;have sg:=aH.signs (W:=W) (F:=F) (l:=l);exact .inr ⟨l,by rw[(qF ha (z6 e1)).1],k,JS st q sg.2 sg.1⟩
 ·let⟨xs,e1,e⟩:=zb e;cases e;let⟨e1,s⟩:=Ax e1;let⟨p,vs,k1,k2,k3⟩:=sO g ha e1;exact .inl ⟨p,vs,by rw[k1],by rw[hK];exact k2,JS st q s (k3.sh s)⟩) hg hm Ef ha aA aA hs h
def Ti:iq W "tuple" DX:=λX e es t p pos hK hc hm ha hg hs h=>vN (wt Zc λxs H Q h=>by
 let⟨F,a,Γ,z,g,ha,rfl,e,st,q⟩:=mY h (λ_=>nofun) (λ_ _ _ _=>nofun);rcases zM e with e | e
 ·let⟨xs,e1,e⟩:=zb e;cases e;let⟨e1,s⟩:=Ax e1;let⟨p,vs,k1,k2,k3⟩:=Xw g ha e1;exact⟨p,vs,by rw[k1],.inl ⟨by rw[hK];exact k2,Av st q s (k3.sh s)⟩⟩
 ·let⟨xs,e1,e⟩:=zb e;cases e;let⟨e1,s⟩:=Ax e1;let⟨p,vs,k1,k2,k3⟩:=sM g ha e1;exact⟨p,vs,by rw[k1],.inr ⟨bP.of (g _ _ k2),yV st q s ⟨p,vs,rfl,k2,k3.sh s⟩⟩⟩) hg hm JI ha aA aA hs h
theorem D7:∀ {ts:List T} {vs:List V} {bs:List Bool},aH W H ts vs->iK ts=some bs->vs=bs.map V.bl
 | [],_,_,h,e=>by cases e;exact h
 | t::ts,_,_,⟨v,r,e0,h1,h2⟩,e=>by let⟨x,xs,e1,e2,e⟩:=zG e;cases e;rw[Qx e1] at h1;rw[e0,D7 h2 e2,show v=_ from h1];rfl
def Mj:iq W "all" rG:=λX e es t p pos hK hc hm ha hg hs h=>wQ (wt (zcJ (hc aA)) λxs H Q h=>by let⟨F,a,Γ,z,g,ha,rfl,e,st,q⟩:=mY h (λ_=>nofun) (λ_ _ _ _=>nofun);let⟨xs,e1,e⟩:=zb e;let⟨bs,e2,e⟩:=zb e;cases e;let⟨p,vs,k1,k2,k3⟩:=sN g ha e1;rw[D7 k3.now e2] at k2;exact⟨p,bs,by rw[k1],k2,aG st q⟩) hg hm OZ ha aA aA hs h
def Th (h:iR X r)(k:∀ x l u H Q,r' x l u H Q->r x l u H Q):iR X r':=λLk s U H x v vl vu lo hi sl Q I rx hs pl pu z=>h Lk s U H x v vl vu lo hi sl Q I rx hs pl pu (k x lo hi H Q z)
def p4 (W:Wd):V->Option Int->Option Int->Hp->VK->Prop:=λx lo hi H Q=>rN W (λts=>match ts with
 | [t]=>nR t lo hi
 | _=>none) [x] H Q
def sJ (hK:X.K=W.K):iR X (p4 W):=Th (DJ A6 (DJ (zdF hK) P9)) λx lo hi H Q h=>by
 let⟨F,a,Γ,z,g,ha,rfl,e,st,q⟩:=YE h;rcases zM e with e | e
 ·let⟨l,e1,e⟩:=zb e;cases e;let⟨k1,k2⟩:=qF ha (z6 e1);exact .inl ⟨l,k1,by rw[uD];exact k2,ZO st q (uZ (by unfold fw;rw[Uk,Ud];lia) k2)⟩
 rcases zM e with e | e
 ·let⟨xs,e1,e⟩:=zb e;cases s:aI xs<;>rw[s] at e<;>cases e;let⟨p,vs,k1,k2,k3⟩:=Xw g ha e1;exact .inr (.inl ⟨p,vs,k1,k2,JS st q (JT s JU) ((k3.sh s).cut lo hi)⟩)
 ·let⟨xs,e1,e⟩:=zb e;cases s:aI xs<;>rw[s] at e<;>cases e;let⟨p,vs,k1,k2,k3⟩:=sM g ha e1;have h3:=(k3.sh s).cut lo hi;refine .inr (.inr ⟨p,vs,k1,g _ _ k2,λz=>?_,Av st q (JT s JU) h3⟩);rw[z] at h3;exact yV st q (JT s JU) ⟨p,vs,rfl,k2,h3⟩
def Bd (W:Wd)(f:Lc->List T->Option T):V->List V->Hp->VK->Prop:=λv vs H Q=>∃ l,v=.str (S l)/\l.length<=16777216/\rN W (f l) vs H Q
def JW {id:String}{r r':V->List V->Hp->VK->Prop}(h:lM X id r)(k:∀ x xs H Q,r' x xs H Q->r x xs H Q):lM X id r':=λLk s U H x xs v us Q I rx rs z=>h Lk s U H x xs v us Q I rx rs (k x xs H Q z)
def p6 {f:Lc->T->Option T}{v:V}{vs:List V}{Q:VK}(h:Bd W (λl=>m7 (f l)) v vs H Q):∃ l F a Γ z,v=.str (S l)/\l.length<=16777216/\aM F H/\OK W F H a/\vs=[val a]/\f l (era a)=some z/\St W F H Γ/\∀ F' H' w,St W F' H' (w::Γ)->era w=z->Q (val w) H':=by let⟨l,h1,h2,h⟩:=h;let⟨F,a,Γ,z,k1,k2,k3,k4,k5,k6⟩:=mY h (λ_=>nofun) (λ_ _ _ _=>nofun);exact⟨l,F,a,Γ,z,h1,h2,k1,k2,k3,k4,k5,k6⟩
noncomputable def Fu:ME->Str
 | .join=>"join"
 | .split=>"split"
 | .find=>"find"
theorem YG:∀ {ds:List T} {vs:List V} {ts:List Lc},aH W H ds vs->Xs ds=some ts->vs=ts.map λl=>V.str (S l)
 | [],_,_,h,e=>by cases e;exact h
 | d::ds,_,_,⟨v,r,e0,h1,h2⟩,e=>by let⟨b,bs,e1,e2,e⟩:=zG e;cases e;rw[z6 e1] at h1;rw[e0,h1.1,YG h2 e2];rfl
def zaw {l y:Lc}(hy:y≠[]):∀ t∈splits l y,t.length<=l.length:=λt ht=>by
 let⟨s,hs,rfl⟩:=u9.mp ht
 have yp:0<(S y).length:=by
  rw[qL];cases y with
  | nil=>exact absurd rfl hy
  | cons _ _=>simp
 have h:=(JJ (S y) yp (Txt.split (S l) (S y))).2 s hs;rw[StrLaws.join_split,qL] at h;simpa[Str.length] using h
def PX {ts:List Lc}(h:∀ t∈ts,t.length<=16777216):aH W F (ts.map .str) (ts.map λt=>V.str (S t))/\aI (ts.map .str)=true:=by
 induction ts with
 | nil=>exact⟨rfl,rfl⟩
 | cons t ts ih=>let⟨h1,h2⟩:=ih λx hx=>h x (uk _ hx);exact⟨⟨_,_,rfl,⟨rfl,h t ug⟩,h1⟩,h2⟩
def HX {o e:Expr}{es:Lg}{to:TE}{ta:TA}{apos cpos:Pos}(m:ME)(hK:X.K=W.K)(ho:PE X o to)(ha:PA X (e::es) ta)(hb:qO o=true)(hl:(apos.endLine == cpos.line)=true)(hs:cG (e::es)=true)(hn:(e::es).length<30):PE X (.Call (.Attribute o (Fu m) apos) (e::es) [] cpos) (tD W.K "str" (Bd W (mJ m)) to ta):=by
 let⟨s1,s2⟩:=zw hs;cases m
 ·exact Qm hK GD PySem.F.slot_str_join PySem.F.type_str_join (JW (zcx hK) λx xs H Q h=>by
   let⟨l,F,a,Γ,z,h1,h2,g,ha,rfl,e,st,q⟩:=p6 h
   let⟨ys,e1,e⟩:=zb e
   let⟨ts,e2,e⟩:=zb e
   let⟨⟨rfl,k⟩,rfl⟩:=z7 e
   let⟨p,us,k1,k2,k3⟩:=sN g ha e1
   rw[YG k3.now e2] at k2
   exact⟨p,ts,h1,by rw[k1],cJ.of k2,k,ZO st q k⟩) ho ha (z8 hb) (yS hs hn) hl (zg s1) (zP s2)
 ·exact Qm hK GD gG PySem.F.type_str_split (JW zcK λx xs H Q h=>by
   let⟨l,F,a,Γ,z,h1,h2,g,ha,rfl,e,st,q⟩:=p6 h
   let⟨y,e1,e⟩:=zb e
   let⟨⟨hne,hl⟩,rfl⟩:=z7 e
   let⟨t1,t2⟩:=PX (W:=W) (F:=F) (ts:=splits l y) λt ht=>uZ (zaw hne t ht) aB
   have ee:(splits l y).map (λt=>V.str (S t))=(Txt.split (S l) (S y)).map V.str:=by
    unfold splits
    rw[Uw]
    exact UY λs _=>by show V.str (S s.cps.toList)=_;rw[nF]
   rw[ee] at t1
   exact⟨l,y,h1,by rw[(qF ha (z6 e1)).1],hne,hl,JS st q t2 t1⟩) ho ha (z8 hb) (yS hs hn) hl (zg s1) (zP s2)
 ·exact Qm hK GD PySem.F.slot_str_find PySem.F.type_str_find (JW zdT λx xs H Q h=>by
   let⟨l,h1,h2,h⟩:=h
   let⟨v,u,rfl,h⟩:=Fe h λts z e=>by
    match ts,e with
    | [x,y],_=>exact⟨x,y,rfl⟩
   let⟨F,a,b,Γ,z,g,ha,hb,rfl,rfl,e,st,q⟩:=yU h
   let⟨y,i,e1,e2,e⟩:=zG e
   cases e
   exact⟨l,y,i,h1,by rw[(qF ha (z6 e1)).1,zE hb e2],xw st q⟩) ho ha (z8 hb) (yS hs hn) hl (zg s1) (zP s2)
noncomputable def eM:iD->String
 | .str=>"str"
 | .int=>"int"
 | .bool=>"bool"
 | .list=>"list"
 | .tuple=>"tuple"
 | .dict=>"dict"
def F0 (h:bY W H t v)(e:E2 t=some n):bV W.K H v (.type (eM n)):=by
 cases t with
 | bl _=>cases e;rw[show v=_ from h];exact .bl _
 | int _=>cases e;rw[show v=_ from h];exact .int _
 | str _=>cases e;rw[h.1];exact .str _
 | tp _=>cases e;let⟨p,vs,e,h1,_⟩:=h;rw[e];exact .tup h1
 | nd o k xs=>
  let⟨p,vs,o,e0,h1,h2,_⟩:=h;cases k with
  | ls=>cases e;cases h2;rw[e0];exact .lst h1
  | dc ks=>cases e;let⟨kvs,rfl,_⟩:=h2;rw[e0];exact .dK h1
  | ob _ _=>cases e
 | _=>cases e
def Mi {K:Le}{n k:iD}:PySem.W.kitOne K (.type (eM n)) (.type (eM k))=some (k == n||(n == .bool&&k == .int)):=by cases n<;>cases k<;>rfl
def Mh {b:Bool}{ks:List iD}(g:aM F H)(ha:OK W F H a)(e:rS (era a) ks=some b):∃ t,bV W.K H (val a) t/\∃ f:iD->Bool,(∀ k,PySem.W.kitOne W.K t (.type (eM k))=some (f k))/\ks.any f=b:=by
 have hn:=ha.now g;rcases zM e with e | e
 ·let⟨_,e1,e⟩:=zb e;cases e;rw[Vg e1] at hn;exact⟨.type "NoneType",by rw[show val a=_ from hn];exact .non,λ_=>false,λk=>by cases k<;>rfl,by rw[List.any_eq_false];exact λ_ _=>nofun⟩
 ·let⟨k,e1,e⟩:=zb e;cases e;exact⟨_,F0 hn e1,_,λj=>Mi,rfl⟩
theorem D6 {K:Le}{t:Value}{f:iD->Bool}(h:∀ k,PySem.W.kitOne K t (.type (eM k))=some (f k)):∀ ks:List iD,PySem.W.kitAny K t ((ks.map eM).map Value.type)=some (ks.any f)
 | []=>by simp only[gr,PySem.W.kitAny,List.any_nil]
 | k::ks=>by
  have h1:=h k;rw[UX];cases e:f k with
  | true=>rw[e] at h1;simp only[uA,PySem.W.kitAny,h1,Bool.true_or]
  | false=>rw[e] at h1;simp only[uA,PySem.W.kitAny,h1,Gm];exact D6 h ks
def Dd {ks:List iD}(h:rN W (lX ks) [v] H Q):∃ F a Γ b t f,aM F H/\val a=v/\bV W.K H v t/\(∀ k,PySem.W.kitOne W.K t (.type (eM k))=some (f k))/\ks.any f=b/\St W F H Γ/\∀ F' H',St W F' H' Γ->Q (.bl b) H':=by let⟨F,a,Γ,z,g,ha,rfl,e,st,q⟩:=YE h;let⟨b,e1,e⟩:=zb e;cases e;let⟨t,k1,f,k2,k3⟩:=Mh g ha e1;exact⟨F,a,Γ,b,t,f,g,rfl,k1,k2,k3,st,λF' H' st'=>q F' H' (.lf (.bl b) (.bl b)) (st'.leaf rfl rfl) rfl⟩
def PU (h:rN W (lX [k]) [v] H Q):qv W.K (eM k) [v,.ty (eM k)] H Q:=by let⟨F,a,Γ,b,t,f,g,rfl,k1,k2,k3,st,q⟩:=Dd h;exact⟨_,t,b,rfl,k1,by rw[k2 k,<-k3];simp,q F H st⟩
def PR {ks:List iD}{Q:VK}(h:rN W (lX ks) [v] H Q):∀ p,H p=none->p8 W.K (ks.map eM) [v,.ref p] (upd H p (.tup ((ks.map eM).map V.ty))) Q:=λp hp=>by let⟨F,a,Γ,b,t,f,g,rfl,k1,k2,k3,st,q⟩:=Dd h;exact⟨_,p,t,b,rfl,zI,bV.mono (jO hp) k1,by rw[D6 k2,k3],q F _ (st.alloc hp)⟩
structure mz (W:Wd)(x:Str)(c:Nat):Prop where
 m:W.mg x=some (.ref (W.cl c))
 cl:dU W.K (W.cl c)
 ha:PySem.W.findIn W.K (.ref (W.cl c)) "__class__" = some (some (.builtin "object.__class__"))
 hn:PySem.W.specialIn W.K (.builtin "object.__class__") "__get__" = some (some (.builtin "getset_descriptor.__get__"))
 htk:PySem.W.takesIn W.K (.builtin "object.__class__")=some true
 hm:PySem.W.mroIn W.K (W.cl c) (.type "object")=some true
 kit:PySem.W.kitOne W.K (.ref (W.cl c)) (.ref (W.cl c))=some true
def p9 (K:Le)(C:Addr):List V->Hp->VK->Prop:=λxs H Q=>∃ x,xs=[x,.ref C]/\bV K H x (.ref C)/\Q (.bl true) H
def Tf (hK:X.K=W.K)(i:mz W x c):qD X (.builtin "isinstance") (p9 W.K (W.cl c)):=by intro Lk s U H xs us Q I r h;let⟨x,rfl,ty,q⟩:=h;let⟨u1,u2,rfl,r1,r2⟩:=vals2 r;obtain rfl:u2=Value.ref (W.cl c):=r2;exact W6 I r1 (by rw[hK];exact ty) (by rw[hK];exact i.kit) λtk=>⟨.bl true,H,I.tok _,rfl,q⟩
def C9 (e:mH t=some d):∃ o,t=.nd o (.ob d.1 d.2.1) d.2.2:=by
 cases t with
 | nd o k ys=>cases k<;>cases e;exact⟨o,rfl⟩
 | _=>cases e
def Mg (i:mz W x c)(h:rN W (rE c) [v] H Q):p9 W.K (W.cl c) [v,.ref (W.cl c)] H Q:=by let⟨F,a,Γ,z,g,ha,rfl,e,st,q⟩:=YE h;let⟨o,e1,e⟩:=zb e;let⟨rfl,rfl⟩:=z7 e;let⟨o',e1⟩:=C9 e1;let⟨p,vs,ob,k1,k2,⟨dx,kvs,rfl,_,_⟩,_⟩:=Xy g ha e1;exact⟨_,rfl,by rw[k1];exact .ins k2 i.cl i.ha i.hn i.htk i.hm,aG st q⟩
def Aa (W:Wd):List (Lc×T)->List (Key×V)->Prop
 | [],kvs=>kvs=[]
 | p::d,kvs=>∃ v r,kvs=(.inr (S p.1),v)::r/\(shr p.2=true/\∀ F:Hp,bY W F p.2 v)/\Aa W d r
def KGet (W:Wd)(x:Str)(d:List (Lc×T)):Prop:=∃ a kvs,W.mg x=some (.ref a)/\sQ W.w W.K a kvs/\Aa W d kvs
theorem EK (hs:shr w=true)(hw:bY W F w z):∀ {d:List (Lc×T)} {kvs:List (Key×V)},Aa W d kvs->shr (l9 d l w)=true/\bY W F (l9 d l w) ((cL kvs (.inr (S l))).getD z)
 | [],kvs,h=>by rw[show kvs=[] from h];exact⟨hs,hw⟩
 | p::d,kvs,⟨v,r,e,⟨h0,h1⟩,h2⟩=>by
  subst e;simp only[l9];split
  ·rename_i z;rw[yQ (by rw[z])];exact⟨h0,h1 F⟩
  ·rename_i z;rw[yR (λy=>z (L3 (Sum.inr.inj y)))];exact EK hs hw h2
def PQ (hd:Aa W d kvs)(h:rN W (CC d) vs H Q):∃ k z,vs=[kV k,z]/\Q ((cL kvs k).getD z) H:=by
 let⟨v,u,rfl,h⟩:=Fe h λts z e=>by
  match ts,e with
  | [x,y],_=>exact⟨x,y,rfl⟩
 let⟨F,a,b,Γ,z,g,ha,hb,rfl,rfl,e,st,q⟩:=yU h;let⟨l,e1,e⟩:=zb e;cases s:shr (era b)<;>rw[s] at e<;>cases e;let⟨k1,k2⟩:=EK (F:=F) (l:=l) s (hb.leaf s).2 hd;exact⟨.inr (S l),val b,by rw[(qF ha (z6 e1)).1];rfl,yV st q k1 k2⟩
def zm {e:Expr}{t t':TE}(h:PE X e t)(k:∀ U H Q,t' U H Q->t U H Q):PE X e t':=λLk s U H Q I z=>h Lk s U H Q I (k U H Q z)
def Jj {e:Expr}{t t':TT}(h:PT X e t)(k:∀ U H Q,t' U H Q->t U H Q):PT X e t':=λLk s U H Q I z=>h Lk s U H Q I (k U H Q z)
def EJ {e:Expr}{t t':TT}(h:PW X e t)(k:∀ U H Q,t' U H Q->t U H Q):PW X e t':=λwh Lk s U H Q I z=>h wh Lk s U H Q I (k U H Q z)
def EI {es:Lg}{t t':TA}(h:PA X es t)(k:∀ U H Q,t' U H Q->t U H Q):PA X es t':=λpos Lk s U H Q I z=>h pos Lk s U H Q I (k U H Q z)
end
variable {W:Wd} {E:XS} {F H:Hp} {s Z:Sl} {U:L2.St} {vs:List V} {O:List AT} {K:KP} {X4:XP} {Q:VK}
def t7 (W:Wd)(F:Hp)(x:d5)(c:Value)(d:Option Addr):Prop:=c=.ref (W.cl x.c)/\((∃ dd kvs,d=some dd/\F dd=some (.xd kvs)/\kvs.map (·.1)=x.fs/\aI x.ts=true/\aH W F x.ts (kvs.map (·.2)))\/(d=none/\x.fs=[]/\x.ts=[]))
def XK (W:Wd)(E:XS)(U:L2.St)(vs:List V)(O:List AT)(X4:XP):Prop:=∀ x F' H' s' Y' ws c d,Rep W F' H' s' Y' U (ws++vs) O->t7 W F' x c d->X4 x s' Y'->E c d U H'
def XK.app (h:XK W E U vs O X4)(us:List V):XK W E U (us++vs) O X4:=λx F' H' s' Y' ws c d R=>h x F' H' s' Y' (ws++us) c d (by rw[ue];exact R)
def E5 (W:Wd)(E:XS)(c:Xp):TE:=λU H Q=>∃ F s Z vs O K X4,Rep W F H s Z U vs O/\WE c s Z K X4/\(∀ F' H' s' x Y' v,Rep W F' H' s' (x::Y') U (v::vs) O->K s' (x::Y')->Q v H')/\XK W E U vs O X4
def T5 (W:Wd)(E:XS)(c:Xp):TT:=λU H Q=>∃ F s Z vs O K X4,Rep W F H s Z U vs O/\WT c s Z K X4/\(∀ b F' H' s' Y',Rep W F' H' s' Y' U vs O->K b s' Y'->Q b H')/\XK W E U vs O X4
def A5 (W:Wd)(E:XS)(cs:List Xp):TA:=λU H Q=>∃ F s Z vs O K X4,Rep W F H s Z U vs O/\iC cs s Z K X4/\(∀ F' H' s' Y' us,us.length=cs.length->Rep W F' H' s' Y' U (us.reverse++vs) O->K s' Y'->Q us H')/\XK W E U vs O X4
def q9 (h:E5 W E c U H Q)(k:∀ v H,Q v H->Q' v H):E5 W E c U H Q':=by let⟨F,s,Z,vs,O,K,X4,R,h,q,x⟩:=h;exact⟨F,s,Z,vs,O,K,X4,R,h,λF' H' s' y Y' v R' h'=>k v H' (q F' H' s' y Y' v R' h'),x⟩
def Mf {cs:List Xp}{Q Q':List V->Hp->Prop}(h:A5 W E cs U H Q)(k:∀ v H,Q v H->Q' v H):A5 W E cs U H Q':=by let⟨F,s,Z,vs,O,K,X4,R,h,q,x⟩:=h;exact⟨F,s,Z,vs,O,K,X4,R,h,λF' H' s' Y' us hl R' h'=>k us H' (q F' H' s' Y' us hl R' h'),x⟩
def JX {Q:List V->Hp->Prop}(h:A5 W E [] U H Q):fJ U H Q:=by let⟨F,s,Z,vs,O,K,X4,R,h,q,x⟩:=h;exact q F H s Z [] rfl R h
def PO {c:Xp}{cs:List Xp}{Q:List V->Hp->Prop}(h:A5 W E (c::cs) U H Q):Yi (E5 W E c) (A5 W E cs) U H Q:=by let⟨F,s,Z,vs,O,K,X4,R,h,q,x⟩:=h;refine⟨F,s,Z,vs,O,_,X4,R,h,λF' H' s' y Y' v R' h'=>?_,x⟩;refine⟨F',s',y::Y',v::vs,O,K,X4,R',h',λF2 H2 s2 V' us hl R2 h2=>?_,x.app [v]⟩;exact q F2 H2 s2 V' (v::us) (congrArg (· + 1) hl) (by rw[gh,ue];exact R2) h2
def ya {c:Xp}{Q:List V->Hp->Prop}(h:A5 W E [c] U H Q):E5 W E c U H λx H1=>Q [x] H1:=by let⟨F,s,Z,vs,O,K,X4,R,h,q,x⟩:=h;exact⟨F,s,Z,vs,O,_,X4,R,h,λF' H' s' y Y' v R' h'=>q F' H' s' _ [v] rfl R' h',x⟩
def JY {c d:Xp}{Q:List V->Hp->Prop}(h:A5 W E [c,d] U H Q):E5 W E c U H λx H1=>E5 W E d U H1 λy H2=>Q [x,y] H2:=by let⟨F,s,Z,vs,O,K,X4,R,h,q,x⟩:=h;refine⟨F,s,Z,vs,O,_,X4,R,h,λF' H' s' y Y' v R' h'=>?_,x⟩;exact⟨F',s',y::Y',v::vs,O,_,X4,R',h',λF2 H2 s2 y2 V' u R2 h2=>q F2 H2 s2 _ [v,u] rfl R2 h2,x.app [v]⟩
def EH {c:Xp}{Q Q':List V->Hp->Prop}(h:A5 W E [c] U H Q)(k:∀ v H,Q [v] H->Q' [v] H):A5 W E [c] U H Q':=by
 let⟨F,s,Z,vs,O,K,X4,R,h,q,x⟩:=h;refine⟨F,s,Z,vs,O,K,X4,R,h,λF' H' s' Y' us hl R' h'=>?_,x⟩
 match us,hl with
 | [v],hl=>exact k v H' (q F' H' s' Y' [v] hl R' h')
def PN {c d:Xp}{Q Q':List V->Hp->Prop}(h:A5 W E [c,d] U H Q)(k:∀ v u H,Q [v,u] H->Q' [v,u] H):A5 W E [c,d] U H Q':=by
 let⟨F,s,Z,vs,O,K,X4,R,h,q,x⟩:=h;refine⟨F,s,Z,vs,O,K,X4,R,h,λF' H' s' Y' us hl R' h'=>?_,x⟩
 match us,hl with
 | [v,u],hl=>exact k v u H' (q F' H' s' Y' [v,u] hl R' h')
def yW {us ws:List V}(R:Rep W F H s Z U (us.reverse++ws) O)(e:cN s n Z []=some (ts,Y'))(hl:us.length=n):∃ cs,ts=aJ cs/\vals cs=us/\bL W F H cs/\Rep W F H s Y' U ws O:=by let⟨cs,ws',h1,h2,h3,h4,h5⟩:=R.cN e;let⟨e1,e2⟩:=Ho h3 (by simp[hl,h2]);rw[List.reverse_inj] at e1;exact⟨cs,by rw[h1,uH],e1.symm,h4,by rw[e2];exact h5⟩
def kH {us ws:List V}(R:Rep W F H s Z U (us.reverse++ws) O)(e:dZ n Z []=some (ts,Y'))(hl:us.length=n):∃ cs,ts=aJ cs/\vals cs=us/\Rep W F H s Y' U ws (cs++O):=by let⟨cs,ws',h1,h2,h3,h5⟩:=R.dZ e;let⟨e1,e2⟩:=Ho h3 (by simp[hl,h2]);rw[List.reverse_inj] at e1;exact⟨cs,by rw[h1,uH],e1.symm,by rw[e2];exact h5⟩
def sY (hc:bL W F H cs)(e:f (aJ cs)=some z)(R:Rep W F H s Z U vs O)(q:∀ F' H' v,Rep W F' H' s (.own z::Z) U (v::vs) O->Q v H'):rN W f (vals cs) H Q:=by let⟨Γ,st,back⟩:=R.all;refine⟨F,cs,O++Γ,z,hc,rfl,e,st,λF' H' w st' ew=>?_⟩;have:=(back (γ':=w::O) st').push;rw[ew] at this;exact q F' H' _ this
def FZ (h:E5 W E (.ap o es) U H Q):A5 W E es U H λus H'=>rN W (bZ o) us H' Q:=by let⟨F,s,Z,vs,O,K,X4,R,h,q,x⟩:=h;refine⟨F,s,Z,vs,O,_,X4,R,h,λF' H' s' Y' us hl R' h'=>?_,x⟩;let⟨ts,V',e1,h'⟩:=zk h';let⟨z,e2,h2⟩:=zC h';let⟨cs,rfl,rfl,hc,R2⟩:=yW R' e1 hl;exact sY hc e2 R2 λF2 H2 v R3=>q F2 H2 s' _ _ v R3 h2
def BI (h:E5 W E (.v i) U H Q):eP i U H Q:=by let⟨F,s,Z,vs,O,K,X4,R,h,q,x⟩:=h;let⟨z,e,h⟩:=zC h;let⟨v,k1,k2⟩:=R.rd e;exact⟨v,k1,q F H s _ _ v k2 h⟩
def C8 (hc:∀ s Z K X,WE c s Z K X->K s (.own t::Z))(hs:shr t=true)(hv:∀ F:Hp,bY W F t v)(h:E5 W E c U H Q):tC v U H Q:=by let⟨F,s,Z,vs,O,K,X4,R,h,q,x⟩:=h;exact q F H s _ _ v (R.leaf hs (hv F)) (hc s Z K X4 h)
def C7 {as bs:List AT}{vs:List V}(h1:Ms as s U as)(h2:Ms as Z (vs.map some) bs)(hx:M1 as x o a)(hi:i<as.length)(e:ZM s Z i x=some (s',Y')):Ms (as.set i a) s' (U.set i o) (as.set i a)/\Ms (as.set i a) Y' (vs.map some) bs:=by
 let⟨x',k0,e⟩:=zb e;let⟨s1,k1,e⟩:=zb e;let⟨s2,k2,e⟩:=zb e;let⟨W',k3,e⟩:=zb e;cases e;have pp:∀ j q u,(j=i->q.length<0)->bK j q as=some u->∃ u',bK j q (as.set i a)=some u'/\val u' = val u:=λj q u hl hu=>by have ij:i≠j:=λz=>absurd (hl z.symm) (Hq _);exact⟨u,by unfold bK at hu |-;rw[UE ij];exact hu,rfl⟩
 let⟨_,rfl⟩:=ZK k2
 have mx:M1 (as.set i a) x' o a:=by
  cases x with
  | no=>cases k0;exact hx
  | own t=>cases k0;exact hx
  | al j q=>
   simp only[jQ,qM] at k0;cases c:(j == i&&Nat.ble 0 q.length) with
   | true=>rw[c] at k0;cases k0;exact hx.1
   | false=>rw[c] at k0;cases k0;let⟨hn,u,hu,ho⟩:=hx;let⟨u',g1,g2⟩:=pp j q u (λz=>by subst z;rw[Ug,Gp,GH (u4 _)] at c;cases c) hu;exact⟨hn,u',g1,by rw[g2];exact ho⟩
 exact⟨(h1.kill pp k1).set mx,h2.kill pp k3⟩
def wV {as δ:List AT}(h:as[i]? = some b):(b::(as.set i a++δ)).Perm (a::(as++δ)):=by have:=ZL (y:=a) h;have p1:(b::(as.set i a)).Perm (a::as):=(uL (l₁:=[b])).trans (this.trans uL);exact p1.append_right δ
def Rep.setTop (R:Rep W F H s (x::Z) U (v::vs) O)(e:ZM s Z i x=some (s',Y')):Rep W F H s' Y' (U.set i (some v)) vs O:=by
 let⟨as,bs,R⟩:=R;let⟨b,bs',rfl,m,st,R'⟩:=R.uncons
 have hi:i<as.length:=by
  rw[R'.ls.len.2];let⟨_,_,e⟩:=zb e;let⟨s1,k1,e⟩:=zb e;let⟨s2,k2,e⟩:=zb e;let⟨h,_⟩:=ZK k2
  have:∀ {s s1:Sl},aT (jQ i 0) s=some s1->s1.length=s.length:=λ{s s1} h=>by
   induction s generalizing s1 with
   | nil=>cases h;rfl
   | cons y s ih=>let⟨z,zs,_,h2,h⟩:=zG h;cases h;exact congrArg (· + 1) (ih h2)
  rw[<-this k1];exact h
 let⟨m1,m2⟩:=C7 R'.ls R'.ts m hi e;refine⟨as.set i b,bs',?_,m1,m2⟩;have:=st.perm (wV (a:=b) (δ:=bs'++O) (uz hi)).symm;exact this.tail
def Rep.mv (R:Rep W F H s Z U vs O)(e:Fs s Z i=some (s',Y')):∃ v x Z'',Y' = x::Z''/\U[i]? = some (some v)/\Rep W F H s' Y' U (v::vs) O:=by
 let⟨y,e1,e⟩:=zb e;let⟨t,e2,e⟩:=zb e;let⟨r,e3,e⟩:=zb e;cases e;cases y with
 | no=>cases e2
 | al _ _=>cases e2
 | own t'=>cases e2;let⟨as,bs,R⟩:=R;let⟨o,a,g1,g2,g3,g4⟩:=R.ls.get e1;subst g4;let⟨m1,m2⟩:=C7 (o:=some (val a)) (x:=.no) (a:=bB) R.ls R.ts rfl (yD g2) e3;rw[JQ g1] at m1;refine⟨val a,_,_,rfl,g1,as.set i bB,a::bs,?_,m1,_,_,_,_,rfl,rfl,⟨g3,rfl⟩,m2⟩;have:=R.st.nil.perm (wV g2).symm;exact this.perm yT
def BJ (h:E5 W E (.m i) U H Q):eP i U H Q:=by let⟨F,s,Z,vs,O,K,X4,R,h,q,x⟩:=h;let⟨s',Y',e,h⟩:=zk h;let⟨v,y,Z'',rfl,k1,k2⟩:=R.mv e;exact⟨v,k1,q F H s' _ _ v k2 h⟩
def ja {α:Type}{a b:α}{l:List α}:(a::b::l).Perm (b::a::l):=List.Perm.swap b a l
def St.outS (st:St W F H (as++δ))(e:bK i p as=some u):St W F H (u::(bJ i p as (hole u)++δ)):=by
 let⟨a,e1,e2,e3⟩:=jy e;rw[e3];have h1:(a::(as.set i (aQ p a (hole u))++δ)).Perm (aQ p a (hole u)::(as++δ)):=wV e1;have h2:(a::(as.set i bB++δ)).Perm (bB::(as++δ)):=wV e1;have iP:=(st.nil.perm h2.symm).out e2;have h3:(bB::(as.set i (aQ p a (hole u))++δ)).Perm (aQ p a (hole u)::(as.set i bB++δ)):=by have:=wV (as:=as.set i bB) (a:=aQ p a (hole u)) (b:=bB) (δ:=δ) (i:=i) (by rw[Uh (yD e1)]);rw[hX] at this;exact this
 exact(iP.perm ((h3.symm.cons u).trans ja)).tail
def St.mL (st:St W F H (w::(as++δ)))(e:bK i p as=some u)(hu:dj u=[])(hv:val w=val u):St W F H (bJ i p as w++δ):=by
 let⟨a,e1,e2,e3⟩:=jy e;rw[e3];have h2:(a::(as.set i bB++δ)).Perm (bB::(as++δ)):=wV e1
 have iP:St W F H (w::a::(as.set i bB++δ)):=by
  have:=(st.nil.perm (ja.trans (h2.symm.cons w)))
  exact this
 have st2:=iP.into e2 hu hv;have h3:(bB::(as.set i (aQ p a w)++δ)).Perm (aQ p a w::(as.set i bB++δ)):=by have:=wV (as:=as.set i bB) (a:=aQ p a w) (b:=bB) (δ:=δ) (i:=i) (by rw[Uh (yD e1)]);rw[hX] at this;exact this
 exact(st2.perm h3.symm).tail
def yX (e:bK i p as=some u):bK i p (bJ i p as w)=some w/\∀ z,bJ i p (bJ i p as w) z=bJ i p as z:=by
 let⟨a,e1,e2,e3⟩:=jy e;have e4:(as.set i (aQ p a w))[i]? = some (aQ p a w):=by rw[Uh (yD e1)]
 rw[e3];refine⟨by unfold bK;rw[e4];exact get_set e2,λz=>?_⟩;rw[e3];unfold bJ;rw[e4];show(as.set i (aQ p a w)).set i (aQ p (aQ p a w) z)=_;rw[hX,set_set e2]
def Rp.place (R:Rp W F H s (.al i p::Z) U (v::vs) O as bs)(e:aS s i p=some t):∃ u bs',bs=bB::bs'/\bK i p as=some u/\era u=t/\val u=v/\St W F H (u::(bJ i p as (hole u)++(bs'++O))) /\ ∀ {F' H' γ' w s' Y'},St W F' H' (w::(bJ i p as (hole u)++(bs'++γ')))->val w=v->putSt s Z i p (era w)=some (s',Y')->Rep W F' H' s' Y' U vs γ':=by
 let⟨b,bs',rfl,m,st,R'⟩:=R.uncons;let⟨rfl,u,hu,hv⟩:=m;cases hv;let⟨a,e1,e2,e3⟩:=jy hu
 have et:era u=t:=by
  let⟨y,k1,e⟩:=zb e;let⟨r,k2,e⟩:=zb e;cases y with
  | no=>cases k2
  | al _ _=>cases k2
  | own r'=>cases k2;let⟨o,a',g1,g2,g3,g4⟩:=R'.ls.get k1;rw[e1] at g2;cases g2;subst g3;have e:dQ p (era a)=some t:=e;rw[Jh e2] at e;cases e;rfl
 refine⟨u,bs',rfl,hu,et,rfl,R'.st.outS hu,λ{F' H' γ' w s' Y'} st' hw ep=>?_⟩;let⟨g1,g2⟩:=yX (w:=hole u) hu;have:=st'.mL g1 rfl hw;rw[g2] at this;let⟨m1,m2⟩:=Qt R'.ls R'.ts hu hw ep;exact⟨_,bs',this,m1,m2⟩
end
variable {W:Wd} {E:XS} {F H:Hp} {s Z:Sl} {U:L2.St} {vs:List V} {O:List AT} {K:KP} {X4:XP} {Q:VK}
theorem Rep.aV (R:Rep W F H s (x::Z) U (v::vs) O)(e:lh s (x::Z)=some (s',Y')):∃ F' y Z'',Y' = y::Z''/\Rep W F' H s' Y' U (v::vs) O:=by
 cases x with
 | no=>cases e
 | own t=>
  cases c:shr t with
  | true=>simp only[lh,c] at e;cases e;exact⟨F,_,_,rfl,R⟩
  | false=>
   simp only[lh,c] at e;cases e;let⟨as,bs,R⟩:=R;let⟨b,bs',rfl,m,st,R'⟩:=R.uncons;cases m.2;let⟨F',g,st'⟩:=st.aV;rw[m.1] at st';have R2:Rp W F' H s Z U vs O as bs':=⟨st'.tail,R'.ls,R'.ts⟩
   exact⟨F',_,_,rfl,as,_,R2.cons st' ⟨rfl,rfl⟩⟩
 | al i p=>let⟨t,e1,e⟩:=zb e;let⟨q,e2,e⟩:=zb e;cases e;let⟨as,bs,R⟩:=R;let⟨u,bs',rfl,hu,et,ev,st,back⟩:=R.place e1;let⟨F',g,st'⟩:=st.aV;rw[et,ev] at st';have R2:=back (w:=.lf (L5.aV t) v) st' rfl e2;exact⟨F',_,_,rfl,R2.leaf (ZJ t) st'.ok.1.2⟩
def Cy (h:E5 W E (.fz c) U H Q):E5 W E c U H Q:=by let⟨F,s,Z,vs,O,K,X4,R,h,q,x⟩:=h;refine⟨F,s,Z,vs,O,_,X4,R,h,λF' H' s' y Y' v R' h'=>?_,x⟩;let⟨s2,V',e,h2⟩:=zk h';let⟨F2,y2,T8,rfl,R2⟩:=R'.aV e;exact q F2 H' s2 y2 T8 v R2 h2
theorem Rep.node (R:Rep W F H s Z U vs (cs++O))(hp:H p=none)(ob:nL W k (vals cs) o):Rep W F (upd H p o) s (.own (.nd true k (aJ cs))::Z) U (.ref p::vs) O:=by let⟨Γ,st,back⟩:=R.all;rw[ue] at st;exact(back (γ':=.nd p k cs::O) (st.node hp ob)).push
theorem Rep.tuple (R:Rep W F H s Z U vs (cs++O))(hp:H p=none):Rep W (upd F p (.tup (vals cs))) (upd H p (.tup (vals cs))) s (.own (.tp (aJ cs))::Z) U (.ref p::vs) O:=by let⟨Γ,st,back⟩:=R.all;rw[ue] at st;exact(back (γ':=.tp p cs::O) (st.tuple hp)).push
def Nb {es:List Xp}(hl:es.length<=16777216)(h:E5 W E (.lst es) U H Q):pG (A5 W E es) U H Q:=by let⟨F,s,Z,vs,O,K,X4,R,h,q,x⟩:=h;refine⟨F,s,Z,vs,O,_,X4,R,h,λF' H' s' Y' us hn R' h'=>⟨by rw[hn,uD];exact hl,λp hp=>?_⟩,x⟩;let⟨ts,V',e,h2⟩:=zk h';let⟨cs,rfl,rfl,R2⟩:=kH R' e hn;exact q _ _ s' _ _ _ (R2.node (k:=.ls) hp rfl) h2
def Na {es:List Xp}(hl:es.length<=16777216)(h:E5 W E (.tup es) U H Q):pA (A5 W E es) U H Q:=by let⟨F,s,Z,vs,O,K,X4,R,h,q,x⟩:=h;refine⟨F,s,Z,vs,O,_,X4,R,h,λF' H' s' Y' us hn R' h'=>⟨by rw[hn,uD];exact hl,λp hp=>?_⟩,x⟩;let⟨ts,V',e,h2⟩:=zk h';let⟨cs,rfl,rfl,R2⟩:=kH R' e hn;exact q _ _ s' _ _ _ (R2.tuple hp) h2
def M9 (h:E5 W E .dct U H Q):E7 U H Q:=by let⟨F,s,Z,vs,O,K,X4,R,h,q,x⟩:=h;exact λp hp=>q _ _ s _ _ _ (Rep.node (k:=.dc []) (cs:=[]) R hp ⟨[],rfl,rfl,rfl⟩) h
def Rep.opened (R:Rep W F H s (.own t::Z) U (v::vs) O):∃ b,era b=t/\val b=v/\OK W F H b/\Rep W F H s Z U vs (b::O):=by let⟨as,bs,R⟩:=R;let⟨b,bs',rfl,m,st,R'⟩:=R.uncons;cases m.2;exact⟨b,m.1,rfl,st.ok.1,as,bs',st.perm (by rw[<-ue,<-ue];exact uT.symm),R'.ls,R'.ts⟩
def M8 (h:E5 W E (.tpl c) U H Q):E5 W E c U H λv H1=>∃ p ys,v=.ref p/\cJ W.K H1 p ys/\∀ l,H1 l=none->Q (.ref l) (upd H1 l (.tup ys)):=by
 let⟨F,s,Z,vs,O,K,X4,R,h,q,x⟩:=h;refine⟨F,s,Z,vs,O,_,X4,R,h,λF' H' s' y Y' v R' h'=>?_,x⟩;let⟨t,V',e,h3⟩:=zk h';let⟨ts,e2,h2⟩:=zC h3;clear h3;cases y<;>cases e;let⟨b,rfl,rfl,hb,R2⟩:=R'.opened;have g:=R2.fh;cases b with
 | tp p ys=>cases e2
 | nd p k ys=>cases k<;>cases e2;let⟨⟨o,h1,rfl⟩,h3⟩:=hb;let⟨Γ,st,back⟩:=R2.all;have R3:Rep W F' H' s' Y' U vs (ys++O):=back (by rw[ue];exact St.open st);exact⟨p,vals ys,rfl,cJ.of h1,λl hl=>q _ _ s' _ _ _ (Rep.tuple (cs:=ys) R3 hl) h2⟩
 | lf t v=>
  let⟨p,us,k1,k2,k3⟩:=Xw g hb e2;refine⟨p,us,k1,k2,λl hl=>?_⟩
  have sh:aI ts=true:=by
   have e2:lJ t=some ts:=e2;cases t with
   | nd b k ys=>cases k<;>first | exact zj e2 | (cases e2;let⟨hs,_,_,_,_,_,_,h4,_⟩:=hb;exact h4 (by simpa[shr] using hs))
   | ks l ys=>cases l<;>first | exact zj e2 | (cases e2;let⟨_,_,_,_,_,h4,_⟩:=hb;exact h4)
   | _=>exact zj e2
  let⟨Γ,st,back⟩:=R2.all;let⟨k4,k5,k6⟩:=(St.tail (a:=.lf t v) (O:=O++Γ) st).aN (k3.sh sh) sh;have:=Rep.tuple (cs:=aN ts us) (back (γ':=aN ts us++O) (by rw[ue];exact k4)) hl;rw[k5,k6] at this;exact q _ _ s' _ _ _ this h2
def Ac (W:Wd)(H:Hp)(t:T)(p:Addr)(vs:List V):Prop:=
 match t with
 | .nd _ .ls _=>cJ W.K H p vs
 | .nd _ (.dc ks) _=>∃ kvs,H p=some (.dK kvs)/\kvs.map (·.1)=ks/\kvs.map (·.2)=vs
 | .nd _ (.ob c fs) _=>∃ dx kvs,H p=some (.ins (W.cl c) dx kvs)/\kvs.map (·.1)=fs/\kvs.map (·.2)=vs
 | .tp _=>bP W.K H p vs
 | .ks l _=>if l=true then cJ W.K H p vs else bP W.K H p vs
 | _=>False
def EG (h:H p=some ob)(hk:nL W k us ob):Ac W H (.nd o k xs) p us:=by
 cases k with
 | ls=>cases hk;exact cJ.of h
 | dc ks=>let⟨kvs,rfl,h1,h2⟩:=hk;exact⟨kvs,h,h1,h2⟩
 | ob c fs=>let⟨dx,kvs,rfl,h1,h2⟩:=hk;exact⟨dx,kvs,h,h1,h2⟩
def YH (g:aM F H)(h:OK W F H b)(e:parts (era b)=some xs):∃ p us,val b=.ref p/\Ac W H (era b) p us/\Sq W F H xs us/\((aI xs=true)\/∃ ys,eT b=some ys/\aJ ys=xs/\vals ys=us):=by
 cases b with
 | tp p ys=>cases e;exact⟨p,_,rfl,bP.of (g _ _ h.1),YD g h.2,.inr ⟨ys,rfl,rfl,rfl⟩⟩
 | nd p k ys=>cases e;let⟨⟨ob,h1,h2⟩,h3⟩:=h;exact⟨p,_,rfl,EG h1 h2,YD g h3,.inr ⟨ys,rfl,rfl,rfl⟩⟩
 | lf t v=>
  cases t with
  | tp ys=>cases e;let⟨hs,p,us,h1,h2,h3⟩:=h;exact⟨p,us,h1,bP.of (g _ _ h2),QX g h3,.inl hs⟩
  | nd o k ys=>cases e;let⟨hs,p,us,ob,h1,h2,h3,h4,h5⟩:=h;exact⟨p,us,h1,EG (g _ _ h2) h3,QX g h5,.inl (h4 (by simpa[shr] using hs))⟩
  | ks l ys=>
   cases e;let⟨hs,p,us,h1,h2,h4,h5⟩:=h;refine⟨p,us,h1,?_,QX g h5,.inl h4⟩;cases l
   ·exact JN g h2
   ·exact JM g h2
  | _=>cases e
theorem Xz:∀ {p:Lc} {a u:AT},bO p a=some u->eT u=some ys->ys[n]? = some c->bO (p++[n]) a=some c
 | [],_,_,h,e1,e2=>by cases h;simp only[UH,bO,e1,u7,e2]
 | j::p,a,u,h,e1,e2=>by let⟨xs,x,k1,k2,k3,_⟩:=qe h;simp only[Ux,bO,k1,u7,k2];exact Xz k3 e1 e2
def Rep.part (R:Rep W F H s (x::Z) U (v::vs) O)(e:QU s x J=some z):∃ t p us n w,v=.ref p/\J t=some n/\Ac W H t p us/\us[n]? = some w/\(∃ xs,parts t=some xs/\us.length=xs.length)/\Rep W F H s (z::Z) U (w::vs) O:=by
 cases x with
 | no=>cases e
 | own t=>
  let⟨n,e1,e⟩:=zb e;let⟨xs,e2,e⟩:=zb e;let⟨u,e3,e⟩:=zb e;cases e;let⟨b,rfl,rfl,hb,R2⟩:=R.opened;let⟨p,us,k1,k2,k3,k4⟩:=YH R2.fh hb e2;rcases k4 with k4 | ⟨ys,k4,rfl,rfl⟩
  ·let⟨w,g1,g2⟩:=(k3.sh k4).get e3;exact⟨_,p,us,n,w,k1,e1,k2,g1,⟨xs,e2,k3.len⟩,R.pop.leaf (zZ.mp k4 u (uR e3)) g2⟩
  ·rw[zt,uE] at e3;let⟨c,e4,rfl⟩:=uM.mp e3;refine⟨_,p,_,n,val c,k1,e1,k2,by rw[uE,e4];rfl,⟨_,e2,k3.len⟩,Rep.push ?_⟩;let⟨Γ,st,back⟩:=R2.all
   have st2:St W F H (ys++(O++Γ)):=by
    cases b with
    | lf _ _=>cases k4
    | tp _ _=>cases k4;exact St.openT st
    | nd _ _ _=>cases k4;exact St.open st
   refine back (γ':=c::O) ?_;exact((st2.nil.perm (wV e4).symm).perm (uT.symm:(c::(ys.set n bB++(O++Γ))).Perm (ys.set n bB++c::(O++Γ)))).right
 | al i q=>
  let⟨t,e0,ea⟩:=zb e;let⟨n,e1,eb⟩:=zb ea;let⟨xs,e2,ec⟩:=zb eb;let⟨u,e3,ez⟩:=zb ec;clear e ea eb ec;let⟨as,bs,Rp⟩:=R;let⟨b,bs',rfl,m,st,R'⟩:=Rp.uncons;let⟨rfl,u0,hu,hv⟩:=m;cases hv;let⟨a',f1,f2,f3,f5,f6,f7,_⟩:=Rp.place e0;rw[hu] at f3;cases f3;subst f5;have hb:OK W F H u0:=by let⟨a,g1,g2,_⟩:=jy hu;exact JR (zH.mp R'.st.left a (uR g1)) g2
  let⟨p,us,k1,k2,k3,k4⟩:=YH R'.st.fh hb e2;have R0:Rep W F H s Z U vs O:=⟨as,bs',R'⟩
  cases c:shr u with
  | true=>
   rw[c] at ez;cases ez;let⟨w,g1,g2⟩:=k3.now.get e3;refine⟨_,p,us,n,w,k1,e1,k2,g1,⟨xs,e2,k3.len⟩,R0.leaf c ?_⟩;rcases k4 with k4 | ⟨ys,k4,rfl,rfl⟩
   ·let⟨w',g3,g4⟩:=(k3.sh k4).get e3;rw[g1] at g3;cases g3;exact g4
   ·rw[zt,uE] at e3;let⟨ch,e4,rfl⟩:=uM.mp e3;rw[uE,e4] at g1;cases g1;have:OK W F H ch:=JR (p:=[n]) hb (by simp only[bO,k4,u7,e4]);exact(this.leaf c).2
  | false=>
   rw[c] at ez;cases ez;rcases k4 with k4 | ⟨ys,k4,rfl,rfl⟩
   ·rw[zZ.mp k4 u (uR e3)] at c;cases c
   ·rw[zt,uE] at e3;let⟨ch,e4,rfl⟩:=uM.mp e3;refine⟨_,p,_,n,val ch,k1,e1,k2,by rw[uE,e4];rfl,⟨_,e2,k3.len⟩,as,_,R'.cons R'.st.nil ⟨rfl,ch,?_,rfl⟩⟩;let⟨a,g1,g2,_⟩:=jy hu;unfold bK;rw[g1];exact Xz g2 k4 e4
end
variable {W:Wd} {E:XS} {F H:Hp} {s Z:Sl} {U:L2.St} {vs:List V} {O:List AT} {K:KP} {X4:XP} {Q:VK}
theorem Rep.bl (R:Rep W F H s Z U vs O):Rep W F H s (.own (.bl b)::Z) U (.bl b::vs) O:=R.leaf (t:=.bl b) rfl rfl
def Rep.str1 (R:Rep W F H s Z U vs O):Rep W F H s (.own (.str [c])::Z) U (.str (S [c])::vs) O:=R.leaf (t:=.str [c]) rfl ⟨rfl,aD⟩
def Fw (K:Le):R2:=λx y H Q=>m4 K x y H Q\/mZ K x y H Q\/B7 x y H Q\/p7 x y H Q
def M7 {X:Cx}{K:Le}(hK:X.K=K)(hu:X.A.units+64<cLine):iT X (Fw K):=AE (zdE hK) (AE (Sn hK) (AE Bu (P8 aB)))
def Vh {us:List V}{xs:List T}(hl:us.length=xs.length)(e:eI xs.length i=some n)(k:us[n]? = some w):iL us i=some w:=by unfold iL;rw[hl,e];exact k
def PM {kvs:List (Key×V)}(h:(kvs.map (·.1)).findIdx? (λk'=>decide (k' = k))=some n)(e:(kvs.map (·.2))[n]? = some w):cL kvs k=some w:=by
 induction kvs generalizing n with
 | nil=>cases h
 | cons a l ih=>
  rw[uA,Ge] at h;cases c:decide (a.1=k) with
  | true=>rw[c] at h;cases h;cases e;exact yQ (uq c)
  | false=>rw[c] at h;let⟨m,h1,rfl⟩:=uM.mp h;rw[yR (uN c)];exact ih h1 e
def YI {kvs:List (Str×V)}(h:(kvs.map (·.1)).findIdx? (λk'=>decide (k' = f))=some n)(e:(kvs.map (·.2))[n]? = some w):kvs.lookup f=some w:=by
 induction kvs generalizing n with
 | nil=>cases h
 | cons a l ih=>
  rw[uA,Ge] at h;cases c:decide (a.1=f) with
  | true=>rw[c] at h;cases h;cases e;rw[Ul,<-uq c,Ug]
  | false=>rw[c] at h;let⟨m,h1,rfl⟩:=uM.mp h;rw[Ul,Ut.mpr (λz=>uN c z.symm)];exact ih h1 e
def FY (h:E5 W E (.ix a k) U H Q):pE (Fw W.K) (E5 W E a) (E5 W E k) U H Q:=by
 let⟨F,s,Z,vs,O,K,X4,R,h,q,x⟩:=h;refine⟨F,s,Z,vs,O,_,X4,R,h,λF1 H1 s1 y1 W' v1 R1 h1=>?_,x⟩;refine⟨F1,s1,y1::W',v1::vs,O,_,X4,R1,h1,λF2 H2 s2 y V' u R2 h2=>?_,x.app [v1]⟩;let⟨T8,e,h3⟩:=zC h2;cases V' with
 | nil=>cases e
 | cons y0 V'=>
  let⟨tk,e1,e⟩:=zb e;let⟨as,bs,Rk⟩:=id R2;let⟨bk,k1,k2,k3⟩:=Rk.res e1;subst k3;have R3:=R2.pop;rcases zM e with e | e
  ·let⟨t,i,e2,e3,e⟩:=zG e;let⟨l,e4,e⟩:=zb e;let⟨c,e5,e⟩:=zb e;cases e;cases y0<;>cases e2;let⟨b,rfl,rfl,hb,R4⟩:=R3.opened;let⟨g1,g2⟩:=qF hb (z6 e4);exact .inr (.inr (.inl ⟨l,i,c,g1,zE k1 (by rw[k2];exact e3),by rw[uD];exact g2,e5,q F2 H2 s2 _ _ _ R3.pop.str1 h3⟩))
  ·let⟨z,e2,e⟩:=zb e;cases e;let⟨t,p,us,n,w,g1,g2,g3,g4,⟨xs,g5,g6⟩,R4⟩:=R3.part e2;have fin:=q F2 H2 s2 _ _ _ R4 h3;unfold lK at g2;split at g2
   ·cases g5;let⟨i,g7,g8⟩:=zb g2;exact .inl ⟨p,us,i,w,g1,zE k1 (by rw[k2];exact g7),g3,Vh g6 g8 g4,fin⟩
   ·cases g5;let⟨i,g7,g8⟩:=zb g2;exact .inr (.inl ⟨p,us,i,w,g1,zE k1 (by rw[k2];exact g7),g3,Vh g6 g8 g4,fin⟩)
   ·rename_i l xs';cases g5;let⟨i,g7,g8⟩:=zb g2;cases l
    ·exact .inr (.inl ⟨p,us,i,w,g1,zE k1 (by rw[k2];exact g7),g3,Vh g6 g8 g4,fin⟩)
    ·exact .inl ⟨p,us,i,w,g1,zE k1 (by rw[k2];exact g7),g3,Vh g6 g8 g4,fin⟩
   ·let⟨key,g7,g8⟩:=zb g2;let⟨kvs,c1,rfl,rfl⟩:=g3;have hk:=Aw k1 (by rw[k2];exact g7);refine .inr (.inr (.inr ⟨p,w,g1,?_,fin⟩));rw[hk,<-PM g8 g4];exact dS.k c1
   ·cases g2
def FX (hc:dU W.K (W.cl c))(hn:qT W.K (W.cl c) f)(h:E5 W E (.at a c f) U H Q):pJ W.K (E5 W E a) f U H Q:=by
 let⟨F,s,Z,vs,O,K,X4,R,h,q,x⟩:=h;refine⟨F,s,Z,vs,O,_,X4,R,h,λF1 H1 s1 y W' v1 R1 h1=>?_,x⟩;let⟨T8,e,h3⟩:=zC h1;let⟨z,e2,e⟩:=zb e;cases e;let⟨t,p,us,n,w,g1,g2,g3,g4,_,R4⟩:=R1.part e2;unfold mi at g2;split at g2
 ·rename_i c' fs xs _;cases cc:c' == c with
  | false=>rw[cc] at g2;cases g2
  | true=>rw[cc] at g2;let⟨dx,kvs,c1,rfl,rfl⟩:=g3;have:c' = c:=eq_of_beq cc;subst this;exact⟨p,_,dx,kvs,w,g1,c1,hc,hn,YI g2 g4,q F1 H1 s1 _ _ _ R4 h3⟩
 ·cases g2
def wu {b:Bool}{p q:Prop}(h:d4 b p q):(b=true/\p)\/(b=false/\q):=by
 cases b with
 | true=>exact .inl ⟨rfl,h⟩
 | false=>exact .inr ⟨rfl,h⟩
def FW (h:E5 W E (.me m o es) U H Q):tD W.K "str" (Bd W (mJ m)) (E5 W E o) (A5 W E es) U H Q:=by
 let⟨F,s,Z,vs,O,K,X4,R,h,q,x⟩:=h;refine⟨F,s,Z,vs,O,_,X4,R,h,λF1 H1 s1 y W' v1 R1 h1=>?_,x⟩;rcases wu h1 with⟨c,h1⟩ | ⟨_,z⟩
 ·refine⟨?_,F1,s1,y::W',v1::vs,O,_,X4,R1,h1,λF2 H2 s2 V' us hl R2 h2=>?_,x.app [v1]⟩
  ·match y,c with
   | .own (.str l),_=>let⟨b,e,rfl,hb,_⟩:=R1.opened;rw[(qF hb e).1];exact rfl
  ·let⟨ts,T8,e1,h2⟩:=zk h2;let⟨l,T7,e2,h2⟩:=zk h2;let⟨z,e3,h3⟩:=zC h2;let⟨cs,rfl,rfl,hc,R3⟩:=yW R2 e1 hl
   match T8,e2 with
   | .own (.str _)::_,e2=>cases e2;let⟨b,e,rfl,hb,_⟩:=R3.opened;let⟨g1,g2⟩:=qF hb e;exact⟨l,g1,g2,sY hc e3 R3.pop λF4 H4 v R4=>q F4 H4 s2 _ _ v R4 h3⟩
 ·exact z.elim
def M6 (h:E5 W E (.not a) U H Q):Cb (E5 W E a) U H Q:=by
 let⟨F,s,Z,vs,O,K,X4,R,h,q,x⟩:=h;refine⟨F,s,Z,vs,O,_,X4,R,h,λF1 H1 s1 y W' v1 R1 h1=>?_,x⟩;let⟨b,V',e,h2⟩:=zk h1
 match y,e with
 | .own (.bl _),e=>cases e;let⟨b',e,rfl,hb,_⟩:=R1.opened;exact⟨b,ZN hb e,q F1 H1 s1 _ _ _ R1.pop.bl h2⟩
def B5 (W:Wd)(E:XS)(k:Bool)(es:List Xp):TE:=λU H Q=>∃ F s Z vs O K X4,Rep W F H s Z U vs O/\WB k es s Z K X4/\(∀ F' H' s' x Y' v,Rep W F' H' s' (x::Y') U (v::vs) O->K s' (x::Y')->Q v H')/\XK W E U vs O X4
def M5 (h:B5 W E true (e::e2::es) U H Q):Cc (E5 W E e) (B5 W E true (e2::es)) U H Q:=by
 let⟨F,s,Z,vs,O,K,X4,R,h,q,x⟩:=h;refine⟨F,s,Z,vs,O,_,X4,R,h,λF1 H1 s1 y W' v1 R1 h1=>?_,x⟩;let⟨b,V',e,h2⟩:=zk h1
 match y,e with
 | .own (.bl _),e=>
  cases e;let⟨b',e,rfl,hb,_⟩:=R1.opened;refine⟨b,ZN hb e,?_⟩;rcases wu h2 with⟨rfl,h3⟩ | ⟨rfl,h3⟩
  ·exact⟨F1,s1,W',vs,O,K,X4,R1.pop,h3,q,x⟩
  ·exact q F1 H1 s1 _ _ _ R1.pop.bl h3
def FV (h:B5 W E false (e::e2::es) U H Q):pD (E5 W E e) (B5 W E false (e2::es)) U H Q:=by
 let⟨F,s,Z,vs,O,K,X4,R,h,q,x⟩:=h;refine⟨F,s,Z,vs,O,_,X4,R,h,λF1 H1 s1 y W' v1 R1 h1=>?_,x⟩;let⟨b,V',e,h2⟩:=zk h1
 match y,e with
 | .own (.bl _),e=>
  cases e;let⟨b',e,rfl,hb,_⟩:=R1.opened;refine⟨b,ZN hb e,?_⟩;rcases wu h2 with⟨rfl,h3⟩ | ⟨rfl,h3⟩
  ·exact q F1 H1 s1 _ _ _ R1.pop.bl h3
  ·exact⟨F1,s1,W',vs,O,K,X4,R1.pop,h3,q,x⟩
section
variable {Q:Bool->Hp->Prop}
def A2 (h:T5 W E (.t a) U H Q):CJ W.K (E5 W E a) U H Q:=by
 let⟨F,s,Z,vs,O,K,X4,R,h,q,x⟩:=h;refine⟨F,s,Z,vs,O,_,X4,R,h,λF1 H1 s1 y W' v1 R1 h1=>?_,x⟩;let⟨ts,V',e,h2⟩:=zk h1;let⟨b,e2,h3⟩:=zC h2;let⟨cs,rfl,g1,g2,g3⟩:=yW (us:=[v1]) (ws:=vs) R1 e rfl
 match cs,g1,g2,e2 with
 | [c],g1,g2,e2=>cases g1;exact⟨b,Mm g3.fh g2.1 e2,q b F1 H1 s1 _ g3 h3⟩
def FU (h:T5 W E (.tn a) U H Q):pF (T5 W E a) U H Q:=by let⟨F,s,Z,vs,O,K,X4,R,h,q,x⟩:=h;exact⟨F,s,Z,vs,O,_,X4,R,h,λb F1 H1 s1 W' R1 h1=>q (!b) F1 H1 s1 W' R1 h1,x⟩
def nE (W:Wd)(E:XS)(k:Bool)(es:List Xp):TT:=λU H Q=>∃ F s Z vs O K X4,Rep W F H s Z U vs O/\nB k es s Z K X4/\(∀ b F' H' s' Y',Rep W F' H' s' Y' U vs O->K b s' Y'->Q b H')/\XK W E U vs O X4
def M4 (h:nE W E true (e::e2::es) U H Q):pP (T5 W E e) (nE W E true (e2::es)) U H Q:=by
 let⟨F,s,Z,vs,O,K,X4,R,h,q,x⟩:=h;refine⟨F,s,Z,vs,O,_,X4,R,h,λb F1 H1 s1 W' R1 h1=>?_,x⟩;rcases wu h1 with⟨rfl,h3⟩ | ⟨rfl,h3⟩
 ·exact⟨F1,s1,W',vs,O,K,X4,R1,h3,q,x⟩
 ·exact q false F1 H1 s1 _ R1 h3
def FT (h:nE W E false (e::e2::es) U H Q):E3 (T5 W E e) (nE W E false (e2::es)) U H Q:=by
 let⟨F,s,Z,vs,O,K,X4,R,h,q,x⟩:=h;refine⟨F,s,Z,vs,O,_,X4,R,h,λb F1 H1 s1 W' R1 h1=>?_,x⟩;rcases wu h1 with⟨rfl,h3⟩ | ⟨rfl,h3⟩
 ·exact q true F1 H1 s1 _ R1 h3
 ·exact⟨F1,s1,W',vs,O,K,X4,R1,h3,q,x⟩
def sX {f:List T->Option T}{cs:List AT}{z:T}{b:Bool}(hc:bL W F H cs)(e:f (aJ cs)=some z)(e2:lA z=some b)(R:Rep W F H s Z U vs O){Q:VK}(q:∀ F' H',Rep W F' H' s Z U vs O->Q (.bl b) H'):rN W f (vals cs) H Q:=sY hc e R λF' H' v R'=>by let⟨b',e',rfl,hb,_⟩:=R'.opened;rw[ZN hb (by rw[e',Qx e2])];exact q F' H' R'.pop
def FR {o:Op}{es:List Xp}(h:T5 W E (.ap o es) U H Q):A5 W E es U H λus H'=>rN W (bZ o) us H' λx H1=>∃ k,x=.bl k/\Q k H1:=by let⟨F,s,Z,vs,O,K,X4,R,h,q,x⟩:=h;refine⟨F,s,Z,vs,O,_,X4,R,h,λF' H' s' Y' us hl R' h'=>?_,x⟩;let⟨ts,V',e1,h'⟩:=zk h';let⟨z,e2,h2⟩:=zC h';let⟨b,e3,h3⟩:=zC h2;let⟨cs,rfl,rfl,hc,R2⟩:=yW R' e1 hl;exact sX hc e2 e3 R2 λF2 H2 R3=>⟨b,rfl,q b F2 H2 s' _ R3 h3⟩
end
def ZR (R:Rep W F H s (y::x::Z) U (u::v::vs) O)(e:cN s 2 (y::x::Z) []=some (ts,Y')):∃ a b,ts=[era a,era b]/\val a=v/\val b=u/\bL W F H [a,b]/\Y' = Z:=by
 have e2:Y' = Z:=by let⟨t,_,e⟩:=zb e;let⟨t',_,e⟩:=zb e;cases e;rfl
 let⟨cs,rfl,g1,g2,g3⟩:=yW (us:=[v,u]) (ws:=vs) R e rfl
 match cs,g1,g2 with
 | [a,b],g1,g2=>cases g1;exact⟨a,b,rfl,rfl,rfl,g2,e2⟩
def M3 {o1 o2:Op}{a b c:Xp}(h:E5 W E (.chn o1 o2 a b c) U H Q):Qk (r2 W (bZ o1)) (r2 W (bZ o2)) (E5 W E a) (E5 W E b) (E5 W E c) U H Q:=by
 let⟨F,s,Z,vs,O,K,X4,R,h,q,x⟩:=h;refine⟨F,s,Z,vs,O,_,X4,R,h,λF1 H1 s1 y1 W' v1 R1 h1=>?_,x⟩;refine⟨F1,s1,y1::W',v1::vs,O,_,X4,R1,h1,λF2 H2 s2 y2 V' v2 R2 h2=>?_,x.app [v1]⟩;let⟨ts,T8,e1,h2'⟩:=zk h2;let⟨z,e2,h2''⟩:=zC h2';let⟨k,e3,h2'''⟩:=zC h2'';clear h2 h2' h2'';have h2:=h2''';clear h2''';cases V' with
 | nil=>let⟨_,_,e⟩:=zb e1;cases e
 | cons y0 V'=>
  let⟨A,B,rfl,rfl,rfl,hc,rfl⟩:=ZR R2 e1;refine sX (cs:=[A,B]) hc e2 e3 R2 λF3 H3 R3=>⟨k,rfl,?_⟩
  rcases wu h2 with⟨rfl,h2⟩ | ⟨rfl,h2⟩
  ·rw[uC rfl];refine⟨F3,s2,_,_,O,_,X4,R3,h2,λF4 H4 s4 y4 T7 v4 R4 h4=>?_,x.app [_,_]⟩;let⟨ts,T6,e4,h4'⟩:=zk h4;let⟨z,e5,h4''⟩:=zC h4';let⟨_,TN,e6,h5⟩:=zk h4'';clear h4 h4' h4'';cases T7 with
   | nil=>let⟨_,_,e⟩:=zb e4;cases e
   | cons y5 T7=>
    let⟨A',B',rfl,g1,g2,hc',rfl⟩:=ZR R4 e4;have R5:=R4.pop.pop;cases T6 with
    | nil=>cases e6
    | cons y6 T6=>cases e6;have:=sY (f:=bZ o2) hc' e5 R5.pop λF6 H6 v6 R6=>q F6 H6 s4 _ _ v6 R6 h5;rw[show vals [A',B']=[val B,v4] by simp[vals,g1,g2]] at this;exact this
  ·rw[ux aA];exact q F3 H3 s2 _ _ _ R3.pop.pop.bl h2
def M0 {o1 o2:Op}{a b c:Xp}{Q:Bool->Hp->Prop}(h:T5 W E (.chn o1 o2 a b c) U H Q):tm (Qk (r2 W (bZ o1)) (r2 W (bZ o2)) (E5 W E a) (E5 W E b) (E5 W E c)) U H Q:=by
 let⟨F,s,Z,vs,O,K,X4,R,h,q,x⟩:=h;refine⟨F,s,Z,vs,O,_,X4,R,h,λF1 H1 s1 y1 W' v1 R1 h1=>?_,x⟩;refine⟨F1,s1,y1::W',v1::vs,O,_,X4,R1,h1,λF2 H2 s2 y2 V' v2 R2 h2=>?_,x.app [v1]⟩;let⟨ts,T8,e1,h2'⟩:=zk h2;let⟨z,e2,h2''⟩:=zC h2';let⟨k,e3,h2'''⟩:=zC h2'';clear h2 h2' h2'';have h2:=h2''';clear h2''';cases V' with
 | nil=>let⟨_,_,e⟩:=zb e1;cases e
 | cons y0 V'=>
  let⟨A,B,rfl,rfl,rfl,hc,rfl⟩:=ZR R2 e1;refine sX (cs:=[A,B]) hc e2 e3 R2 λF3 H3 R3=>⟨k,rfl,?_⟩
  rcases wu h2 with⟨rfl,h2⟩ | ⟨rfl,h2⟩
  ·rw[uC rfl];refine⟨F3,s2,_,_,O,_,X4,R3,h2,λF4 H4 s4 y4 T7 v4 R4 h4=>?_,x.app [_,_]⟩;let⟨ts,T6,e4,h4'⟩:=zk h4;let⟨z,e5,h4''⟩:=zC h4';let⟨_,TN,e6,h4'''⟩:=zk h4'';let⟨b,e7,h5⟩:=zC h4''';clear h4 h4' h4'' h4''';cases T7 with
   | nil=>let⟨_,_,e⟩:=zb e4;cases e
   | cons y5 T7=>
    let⟨A',B',rfl,g1,g2,hc',rfl⟩:=ZR R4 e4;have R5:=R4.pop.pop;cases T6 with
    | nil=>cases e6
    | cons y6 T6=>
     cases e6;have:=sX (f:=bZ o2) (Q:=λx H1=>∃ k,x=.bl k/\Q k H1) hc' e5 e7 R5.pop λF6 H6 R6=>⟨b,rfl,q b F6 H6 s4 _ R6 h5⟩
     rw[show vals [A',B']=[val B,v4] by simp[vals,g1,g2]] at this;exact this
  ·rw[ux aA];exact⟨false,rfl,q false F3 H3 s2 _ R3.pop.pop h2⟩
def MZ (h:E5 W E (.ife t a b) U H Q):E4 (T5 W E t) (E5 W E a) (E5 W E b) U H Q:=by
 let⟨F,s,Z,vs,O,K,X4,R,h,q,x⟩:=h;refine⟨F,s,Z,vs,O,_,X4,R,h,λc F1 H1 s1 W' R1 h1=>?_,x⟩;rcases wu h1 with⟨rfl,h1⟩ | ⟨rfl,h1⟩
 ·exact⟨F1,s1,W',vs,O,K,X4,R1,h1,q,x⟩
 ·exact⟨F1,s1,W',vs,O,K,X4,R1,h1,q,x⟩
def tJ:MU->V->List V->Hp->VK->Prop
 | .append=>Em
 | .pop=>p5
 | .popI=>DB
 | .insert=>Eg
theorem XA {α:Type}:∀ {xs:List α} {j:Nat} {r:α×List α},Qu xs j=some r->xs[j]? = some r.1/\r.2=xs.eraseIdx j
 | [],_,_,h=>by cases h
 | _::xs,0,_,h=>by cases h;exact⟨rfl,rfl⟩
 | x::xs,j+1,r,h=>by let⟨r',e,h⟩:=zb h;cases h;let⟨h1,h2⟩:=XA e;exact⟨h1,by rw[h2];rfl⟩
theorem Zl {α:Type}:∀ {l:List α} {j:Nat} {x:α},l[j]? = some x->l.Perm (l.eraseIdx j++[x])
 | [],_,_,h=>by cases h
 | z::l,0,x,h=>by cases h;exact(uL (l₁:=[z]))
 | z::l,j+1,x,h=>(Zl (l:=l) (j:=j) h).cons z
theorem Au {α β:Type}(f:α->β):∀ (l:List α) (j:Nat),(l.eraseIdx j).map f=(l.map f).eraseIdx j
 | [],_=>rfl
 | _::_,0=>rfl
 | x::l,j+1=>congrArg (f x::·) (Au f l j)
def FQ (st:St W F H (.nd p .ls xs::(cs++Γ)))(e:mI m (aJ xs) (aJ cs)=some (ys,r))(q:∀ F' H' us w,St W F' H' (.nd p .ls us::w::Γ)->aJ us=ys->era w=r->Q (val w) H'):tJ m (.ref p) (vals cs) H Q:=by
 let⟨⟨o,h1,rfl⟩,h2⟩:=st.ok.1;have el:(vals xs).length=(aJ xs).length:=by rw[zt,ud,ud]
 have one:∀ {t:T},nz (aJ cs)=some t->∃ c,cs=[c]/\era c=t:=λ{t} h=>by
  match cs,h with
  | [c],h=>exact⟨c,rfl,uQ h⟩
 have zero:∀ {u:Unit},sy (aJ cs)=some u->cs=[]:=λ{u} h=>by
  match cs,h with
  | [],_=>rfl
 have non:∀ {F' H' us},St W F' H' (.nd p .ls us::Γ)->St W F' H' (.nd p .ls us::.lf .non .non::Γ):=λst=>(St.leaf st (t:=.non) (v:=.non) rfl rfl).perm ja;cases m with
 | append=>
  let⟨y,e1,e⟩:=zb e;let⟨hl,e⟩:=z7 e;cases e;let⟨c,rfl,rfl⟩:=one e1;have:=st.mut (k':=.ls) (o:=.lst (vals (xs++[c]))) (ys:=[c]) (zs:=xs++[c]) (ws:=[]) (by rw[uH]) rfl;refine⟨p,vals xs,val c,rfl,rfl,h1,by rw[el,uD];exact hl,?_⟩;have e2:vals xs++[val c]=vals (xs++[c]):=by simp[vals]
  rw[e2];exact q F _ (xs++[c]) (.lf .non .non) (non this) (by rw[zt,zt,uF];rfl) rfl
 | pop=>
  let⟨_,e1,e⟩:=zb e;let⟨d,e2,e⟩:=zb e;cases e;cases zero e1;rw[List.getLast?_eq_getElem?] at e2;rw[zt,uE,ud] at e2;let⟨c,e3,rfl⟩:=uM.mp e2;have pm:=Zl e3;have ed:xs.eraseIdx (xs.length - 1)=xs.dropLast:=by rw[List.eraseIdx_length_sub_one]
  rw[ed] at pm;have:=st.mut (k':=.ls) (o:=.lst (vals xs.dropLast)) (ys:=[]) (zs:=xs.dropLast) (ws:=[c]) (by rw[uH];exact pm) rfl;refine⟨p,vals xs,val c,rfl,rfl,h1,by rw[ud,uE,e3];rfl,?_⟩;rw[show(vals xs).dropLast=vals xs.dropLast from(List.map_dropLast).symm];exact q F _ xs.dropLast c this (by rw[zt,zt,List.map_dropLast]) rfl
 | popI=>
  let⟨y,e1,e⟩:=zb e;let⟨i,e2,e⟩:=zb e;let⟨j,e3,e⟩:=zb e;let⟨r',e4,e⟩:=zb e;let⟨hl,e⟩:=z7 e;cases e;let⟨c,rfl,rfl⟩:=one e1;let⟨e5,e6⟩:=XA e4;rw[zt,uE] at e5;let⟨d,e7,e8⟩:=uM.mp e5;have:=(st.perm (ja.trans (List.Perm.refl _))).tail;have:=St.mut (k':=.ls) (o:=.lst (vals (xs.eraseIdx j))) (ys:=[]) (zs:=xs.eraseIdx j) (ws:=[d]) this (by rw[uH];exact Zl e7) rfl;have hj:=yD e7;have hv:=zE st.ok.2.1 e2;have hi:-(2 ^ 63)<=i/\i<2 ^ 63/\seqIndex? i (vals xs).length=some j:=by rw[<-el] at e3 hl;let⟨h1,h2,h3,h4⟩:=XX e3;exact⟨aB,aB,h1⟩
  refine⟨p,vals xs,i,j,val d,rfl,by show [val c]=_;rw[hv],h1,hi.1,hi.2.1,hi.2.2,by rw[uE,e7];rfl,?_⟩;rw[show(vals xs).eraseIdx j=vals (xs.eraseIdx j) from(Au ..).symm];exact q F _ (xs.eraseIdx j) d this (by rw[e6,zt,zt,Au]) e8
 | insert=>
  let⟨y,e1,e⟩:=zb e;let⟨i,e2,e⟩:=zb e;let⟨hl,e⟩:=z7 e;cases e
  obtain⟨c,d,rfl,rfl⟩:∃ c d,cs=[c,d]/\y=(era c,era d):=by
   match cs,e1 with
   | [c,d],e1=>exact⟨c,d,rfl,(uQ e1).symm⟩
  have hv:=zE st.ok.2.1 e2;have iP:St W F H (.nd p .ls xs::([d]++Γ)):=(st.perm ja).tail
  have:=iP.mut (k':=.ls) (o:=.lst (vals (xs.take i.toNat++d::xs.drop i.toNat))) (zs:=xs.take i.toNat++d::xs.drop i.toNat) (ws:=[]) (by
   rw[uH]
   refine List.Perm.trans ?_ uT.symm
   rw[UQ]
   exact uL (l₂:=[d])) rfl
  refine⟨p,vals xs,i,val d,rfl,by show [val c,val d]=_;rw[hv],h1,hl.1,by rw[el];exact hl.2.1,by rw[el,uD];exact hl.2.2,?_⟩;have e3:(vals xs).take i.toNat++val d::(vals xs).drop i.toNat=vals (xs.take i.toNat++d::xs.drop i.toNat):=by simp[vals]
  rw[e3];exact q F _ _ (.lf .non .non) (non this) (by rw[zt,zt,uF,uA,GZ,G0]) rfl
def MY {us:List V}(R:Rep W F H s Z U (us.reverse++(v::vs)) O)(e1:dZ es Z []=some (ts,T8))(hl:us.length=es)(e2:Bl m s T8 ts=some (s',Y'))(q:∀ F' H' y Z'' w,Y' = y::Z''->Rep W F' H' s' Y' U (w::vs) O->Q w H'):tJ m v us H Q:=by
 let⟨cs,rfl,rfl,R2⟩:=kH R e1 hl
 match T8,e2 with
 | .al i p::T7,e2=>
  let⟨t,e3,e2⟩:=zb e2
  match t,e3,e2 with
  | .nd true .ls xs,e3,e2=>
   let⟨r,e4,e2⟩:=zb e2;let⟨q',e5,e2⟩:=zb e2;cases e2;let⟨as,bs,R3⟩:=R2;let⟨u,bs',rfl,hu,et,rfl,st,back⟩:=R3.place e3;cases u with
   | lf t' v'=>have:=st.ok.1.1;rw[show t' = _ from et] at this;cases this
   | tp _ _=>cases et
   | nd pa k ys=>
    cases et;have pm:(AT.nd pa .ls ys::(bJ i p as (hole (.nd pa .ls ys))++(bs'++(cs++O)))).Perm (AT.nd pa .ls ys::(cs++(bJ i p as (hole (.nd pa .ls ys))++(bs'++O)))):=by refine List.Perm.cons _ ?_;rw[<-ue,<-ue,<-ue,<-ue];refine gH _ ?_;rw[ue cs];exact uL
    refine FQ (st.perm pm) e4 λF' H' us' w st' eu ew=>?_
    have st2:St W F' H' (.nd pa .ls us'::(bJ i p as (hole (.nd pa .ls ys))++(bs'++(w::O)))):=st'.perm (List.Perm.cons _ (by
     rw[<-ue,<-ue]
     exact uT.symm))
    have:=(back (γ':=w::O) st2 rfl (by rw[show era (.nd pa .ls us')=.nd true .ls r.1 by rw[<-eu];rfl];exact e5)).push;rw[ew] at this;exact q F' H' _ _ _ rfl this
def FP (h:E5 W E (.mu m p es) U H Q):E5 W E p U H λx H1=>pk W.K "list" x H1/\A5 W E es U H1 λus H2=>tJ m x us H2 Q:=by
 let⟨F,s,Z,vs,O,K,X4,R,h,q,x⟩:=h;refine⟨F,s,Z,vs,O,_,X4,R,h,λF1 H1 s1 y W' v1 R1 h1=>?_,x⟩;rcases wu h1 with⟨c,h1⟩ | ⟨_,z⟩
 ·refine⟨?_,F1,s1,y::W',v1::vs,O,_,X4,R1,h1,λF2 H2 s2 V' us hl R2 h2=>?_,x.app [v1]⟩
  ·cases y with
   | no=>cases c
   | own t=>cases c
   | al i p=>
    let⟨as,bs,Rp⟩:=id R1
    obtain⟨xs,e⟩:∃ xs,aS s1 i p=some (.nd true .ls xs):=by
     unfold BN at c;dsimp only at c;generalize aS s1 i p=o at c |-;cases o with
     | none=>cases c
     | some t=>
      cases t with
      | nd o k _=>cases o<;>cases k<;>first | exact⟨_,rfl⟩ | cases c
      | _=>cases c
    let⟨a,g1,g2,g3⟩:=Rp.res (x:=.al i p) e;let⟨pa,us,o,k1,k2,rfl,_⟩:=Xy R1.fh g1 g2;rw[<-g3,k1];exact .inl ⟨rfl,us,cJ.of k2⟩
  ·let⟨ts,T8,e1,h2'⟩:=zk h2;let⟨s3,T7,e2,h3⟩:=zk h2';exact MY R2 e1 hl e2 λF' H' y' Z'' w e R3=>by subst e;exact q F' H' s3 y' Z'' w R3 h3
 ·exact z.elim
end
variable {W:Wd} {E:XS} {F H:Hp} {s Z:Sl} {U:L2.St} {vs:List V} {O:List AT} {K:KP} {X4:XP} {Q:VK}
def t9 (W:Wd):List (Lc×T)->List (Key×V)->Prop
 | [],kvs=>kvs=[]
 | p::d,kvs=>∃ v r,kvs=(.inr (S p.1),v)::r/\p.1.length<=16777216/\shr p.2=true/\(∀ F:Hp,bY W F p.2 v)/\t9 W d r
theorem t9.all:∀ {d:List (Lc×T)} {kvs:List (Key×V)},t9 W d kvs->kvs.map (·.1)=d.map (λp=>.inr (S p.1))/\aH W F (d.map (·.2)) (kvs.map (·.2))/\aI (d.map (·.2))=true/\kvs.length=d.length
 | [],_,h=>by rw[show _=[] from h];exact⟨rfl,rfl,rfl,rfl⟩
 | p::d,_,⟨v,r,e,_,h1,h2,h3⟩=>by subst e;let⟨k1,k2,k3,k4⟩:=t9.all h3;exact⟨congrArg _ k1,⟨v,_,rfl,h2 F,k2⟩,Ui.mpr ⟨h1,k3⟩,congrArg (· + 1) k4⟩
end
variable {W:Wd} {E:XS} {F H:Hp} {s Z:Sl} {U:L2.St} {vs:List V} {O:List AT} {K:KP} {X4:XP} {Q:VK}
def Zd:List Md->List V->List AT->Prop
 | .mu::ms,v::vs,bs=>∃ b bs',bs=b::bs'/\val b=v/\Zd ms vs bs'
 | .mv::ms,_::vs,bs=>∃ b bs',bs=b::bs'/\b=.lf .non .non/\Zd ms vs bs'
 | _,_,bs=>bs=[]
def dW (W:Wd)(ms:List Md)(f:Fn):Sp:=λvs H Q E=>∃ F as O Q4 X4,St W F H (as++O)/\vals as=vs/\as.length=ms.length/\f (aJ as) Q4 X4 /\ (∀ F' H' r bs,St W F' H' (r::(bs++O))->Zd ms vs bs->Q4 (era r) (aJ bs)->Q (val r) H') /\ ∀ x F' H' bs c d,St W F' H' (bs++O)->Zd ms vs bs->t7 W F' x c d->X4 x (aJ bs)->E c d H'
def Ms.root (h:∀ j,j≠i->as'[j]? = as[j]?):∀ {xs xs':Sl} {ρ:List (Option V)} {cs:List AT},Ms as xs ρ cs->aT (jQ i 0) xs=some xs'->Ms as' xs' ρ cs/\∀ q,Slot.al i q∉xs':=λ{xs xs' ρ cs} m e=>by
 refine⟨m.kill (i:=i) (n:=0) (λj q u hl hu=>⟨u,?_,rfl⟩) e,λq=>?_⟩
 ·have:j≠i:=λz=>absurd (hl z) (Hq _);unfold bK at hu |-;rw[h j this];exact hu
 ·clear m
  induction xs generalizing xs' with
  | nil=>cases e;intro z;cases z
  | cons x xs ih=>
   let⟨y,ys,k1,k2,k⟩:=zG e;cases k;intro z;rcases uw.mp z with z | z
   ·subst z;cases x with
    | no=>cases k1
    | own _=>cases k1
    | al j p=>
     simp only[jQ,qM] at k1;cases c:(j == i&&Nat.ble 0 p.length) with
     | true=>rw[c] at k1;cases k1
     | false=>rw[c] at k1;cases k1;rw[Ug,Gp,GH (u4 _)] at c;cases c
   ·exact ih k2 z
def bS {α:Type}{x:α}{a b c:List α}:(x::(a++(b++c))).Perm (a++(b++(x::c))):=by rw[<-ue,<-ue];exact uT.symm
def eK {α:Type}{x:α}{a b c d:List α}:(x::(a++(b++(c++d)))).Perm (a++(b++(c++(x::d)))):=by rw[<-ue,<-ue,<-ue,<-ue];exact uT.symm
theorem YJ {i n j:Nat}:∀ {xs xs':Sl},aT (jQ i n) xs=some xs'->Slot.al j q∈xs'->Slot.al j q∈xs
 | [],_,e,z=>by cases e;cases z
 | x::xs,_,e,z=>by
  let⟨y,ys,g1,g2,g⟩:=zG e;cases g;rcases uw.mp z with z | z
  ·subst z;cases x with
   | no=>cases g1
   | own _=>cases g1
   | al j' p'=>simp only[jQ,qM] at g1;cases cc:(j' == i&&n.ble p'.length)<;>rw[cc] at g1<;>cases g1;exact ug
  ·exact uk _ (YJ g2 z)
def Vi (h:j≠i):(bJ i p as w)[j]? = as[j]?:=by
 unfold bJ;split
 ·rw[UE (Ne.symm h)]
 ·rfl
def PL (m:Ms as s U as)(e:aS s i p=some t)(hu:bK i p as=some u):era u=t:=by
 let⟨y,k1,e⟩:=zb e;let⟨r,k2,e⟩:=zb e;let⟨a,e1,e2,_⟩:=jy hu;cases y with
 | no=>cases k2
 | al _ _=>cases k2
 | own r'=>cases k2;let⟨o,a',g1,g2,g3,g4⟩:=m.get k1;rw[e1] at g2;cases g2;subst g3;have e:dQ p (era a)=some t:=e;rw[Jh e2] at e;cases e;rfl
theorem dC:∀ {ms:List Md} {xs s Z s' Y':Sl} {us:List V} {as cs bs O:List AT} {ts:List T} {ps:Pl},St W F H (as++(cs++(bs++O)))->Ms as s U as->Ms as xs (us.map some) cs->Ms as Z (vs.map some) bs->yE ms xs s Z=some ((ts,ps),(s',Y')) ->
  ∃ A as',aJ A=ts/\vals A=us/\A.length=ms.length/\St W F H (A++(as'++(bs++O)))/\Ms as' s' U as'/\Ms as' Y' (vs.map some) bs/\(∀ j,(∀ q,Slot.al j q∉xs)->as'[j]? = as[j]?) /\
   ∀ {F' H' Bs γ' s2 V'},St W F' H' (Bs++(as'++(bs++γ')))->Zd ms us Bs->wU ps (aJ Bs) s' Y' = some (s2,V')->∃ as2,St W F' H' (as2++(bs++γ'))/\Ms as2 s2 U as2/\Ms as2 V' (vs.map some) bs/\∀ j,(∀ q,Slot.al j q∉xs)->as2[j]? = as'[j]?
 | [],[],s,Z,s',Y',us,as,cs,bs,O,ts,ps,st,m1,m2,m3,e=>by
  cases e;let⟨e1,rfl⟩:=m2;have:us=[]:=by cases us with | nil=>rfl | cons _ _=>cases e1
  subst this;refine⟨[],as,rfl,rfl,rfl,st,m1,m3,λ_ _=>rfl,λ{F' H' Bs γ' s2 V'} st' hb e=>?_⟩;cases hb;cases e;exact⟨as,st',m1,m3,λ_ _=>rfl⟩
 | [],_::_,s,Z,s',Y',us,as,cs,bs,O,ts,ps,st,m1,m2,m3,e=>by cases e
 | m::ms,[],s,Z,s',Y',us,as,cs,bs,O,ts,ps,st,m1,m2,m3,e=>by cases m<;>cases e
 | m::ms,.no::xs,s,Z,s',Y',us,as,cs,bs,O,ts,ps,st,m1,m2,m3,e=>by cases m<;>cases e
 | m::ms,.own t::xs,s,Z,s',Y',us,as,cs,bs,O,ts,ps,st,m1,m2,m3,e=>by
  have e:((yE ms xs s Z).bind λr=>some ((t::r.1.1,none::r.1.2),r.2))=some ((ts,ps),(s',Y')):=by cases m<;>exact e
  let⟨r,e1,e⟩:=zb e;let⟨⟨ts1,ps1⟩,⟨s1,W'⟩⟩:=r;cases e;let⟨o,ρ,c,cs',k1,k2,k3,k4⟩:=m2;cases us with
  | nil=>cases k1
  | cons v us=>
   cases k1;subst k2;cases k3.2;have pm:(as++(c::cs'++(bs++O))).Perm (as++(cs'++(bs++(c::O)))):=GI _ bS;let⟨A,as',h1,h2,h3,h4,h5,h6,h7,h8⟩:=dC (st.perm pm) m1 k4 m3 e1;have cT:(A++(as'++(bs++(c::O)))).Perm (c::A++(as'++(bs++O))):=eK.symm;refine⟨c::A,as',by rw[aJ,h1,k3.1],by rw[vals,uA];exact congrArg _ h2,congrArg (· + 1) h3,h4.perm cT,h5,h6,λj hj=>h7 j λq z=>hj q (uk _ z),λ{F' H' Bs γ' s2 V'} st' hb e=>?_⟩;have:∃ b bs',Bs=b::bs'/\Zd ms us bs':=by cases m<;>(let⟨b,bs',e,_,h⟩:=hb;exact⟨b,bs',e,h⟩)
   let⟨b,Bs',rfl,hb'⟩:=this;let⟨as2,g1,g2,g3,g4⟩:=h8 (St.tail st') hb' e;exact⟨as2,g1,g2,g3,λj hj=>g4 j λq z=>hj q (uk _ z)⟩
 | .mv::ms,.al i p::xs,s,Z,s',Y',us,as,cs,bs,O,ts,ps,st,m1,m2,m3,e=>by cases e
 | .mu::ms,.al i p::xs,s,Z,s',Y',us,as,cs,bs,O,ts,ps,st,m1,m2,m3,e=>by
  let⟨t,e1,e⟩:=zb e;let⟨q1,e2,e⟩:=zb e;let⟨xs',e3,e⟩:=zb e;let⟨r,e4,e⟩:=zb e;let⟨⟨ts1,ps1⟩,⟨s1,W'⟩⟩:=r;cases e;let⟨o,ρ,c,cs',k1,k2,⟨rfl,u,hu,hv⟩,k4⟩:=m2;cases us with
  | nil=>cases k1
  | cons v us=>
   cases k1;subst k2;cases hv;have et:=PL m1 e1 hu;let⟨n1,n2⟩:=Qt (w:=hole u) m1 m3 hu rfl e2;let⟨n3,n4⟩:=k4.root (as':=bJ i p as (hole u)) (λj hj=>Vi hj) e3;have iP:St W F H (as++(cs'++(bs++O))):=(st.perm (uT:(as++(bB::cs'++(bs++O))).Perm (bB::(as++(cs'++(bs++O)))))).tail;have st2:=iP.outS hu;have pm:(u::(bJ i p as (hole u)++(cs'++(bs++O)))).Perm (bJ i p as (hole u)++(cs'++(bs++(u::O)))):=eK;let⟨A,as',h1,h2,h3,h4,h5,h6,h7,h8⟩:=dC (st2.perm pm) n1 n3 n2 e4;have cT:(A++(as'++(bs++(u::O)))).Perm (u::A++(as'++(bs++O))):=eK.symm;have keep:∀ {j},(∀ q,Slot.al j q∉Slot.al i p::xs)->j≠i/\∀ q,Slot.al j q∉xs':=λ{j} hj=>by refine⟨λz=>hj p (by rw[z];exact ug),λq z=>hj q (uk _ ?_)⟩;exact YJ e3 z
   refine⟨u::A,as',by rw[aJ,h1,et],by rw[vals,uA];exact congrArg _ h2,congrArg (· + 1) h3,h4.perm cT,h5,h6,λj hj=>?_,λ{F' H' Bs γ' s2 V'} st' hb e=>?_⟩
   ·let⟨j1,j2⟩:=keep hj;rw[h7 j j2,Vi j1]
   ·let⟨b,Bs',rfl,hbv,hb'⟩:=hb;let⟨q2,f1,e⟩:=zb e;let⟨t',f2,e⟩:=zb e;let⟨_,f3,e⟩:=zb e;have pmB:(b::Bs'++(as'++(bs++γ'))).Perm (Bs'++(as'++(bs++(b::γ')))):=eK;let⟨as2,g1,g2,g3,g4⟩:=h8 (st'.perm pmB) hb' f1;have hi2:as2[i]? = (bJ i p as (hole u))[i]?:=by rw[g4 i n4,h7 i n4]
    have gs:bK i p as2=some (hole u):=by have:=(yX (w:=hole u) hu).1;unfold bK at this |-;rw[hi2];exact this
    have st4:St W F' H' (b::(as2++(bs++γ'))):=g1.perm bS.symm;have:=st4.mL gs rfl hbv;let⟨p1,p2⟩:=Qt (w:=b) g2 g3 gs hbv e;refine⟨_,this,p1,p2,λj hj=>?_⟩;let⟨j1,j2⟩:=keep hj;rw[Vi j1,g4 j j2]
end
variable {W:Wd} {E:XS} {F H:Hp} {s Z:Sl} {U:L2.St} {vs:List V} {O:List AT} {K:KP} {X4:XP} {Q:VK}
theorem EF:∀ {n:Nat} {Z Y' acc xs:Sl} {us ws av:List V} {bs ac:List AT},Ms as Z ((us.reverse++ws).map some) bs->Ms as acc (av.map some) ac->eR n Z acc=some (xs,Y')->us.length=n->∃ cs bs',Ms as xs ((us++av).map some) cs/\Ms as Y' (ws.map some) bs'/\(bs++ac).Perm (cs++bs')
 | 0,Z,Y',acc,xs,us,ws,av,bs,ac,m1,m2,e,hl=>by cases e;have:us=[]:=U3 hl;subst this;exact⟨ac,bs,m2,m1,uL⟩
 | n+1,[],Y',acc,xs,us,ws,av,bs,ac,m1,m2,e,hl=>by cases e
 | n+1,x::Z,Y',acc,xs,us,ws,av,bs,ac,m1,m2,e,hl=>by
  obtain⟨us0,u,rfl⟩:∃ us0 u,us=us0++[u]:=⟨us.dropLast,us.getLast (λz=>by rw[z] at hl;cases hl),(List.dropLast_concat_getLast _).symm⟩
  rw[GV] at m1;let⟨o,ρ,b,bs',e1,e2,h1,h2⟩:=m1;cases e1;subst e2;have hl':us0.length=n:=by simpa using hl
  let⟨cs,bs2,g1,g2,g3⟩:=EF (us:=us0) (ws:=ws) (acc:=x::acc) (av:=u::av) (ac:=b::ac) h2 ⟨_,_,_,_,rfl,rfl,h1,m2⟩ e hl';refine⟨cs,bs2,by rw[ue];exact g1,g2,List.Perm.trans ?_ g3⟩;exact uT.symm
def EE {ms:List Md}{us:List V}(R:Rep W F H s Z U (us.reverse++vs) O)(e1:eR n Z []=some (xs,W'))(hl:us.length=n)(e2:yE ms xs s W'=some ((ts,ps),(s',Y'))) : ∃ A δ,aJ A=ts/\vals A=us/\A.length=ms.length/\St W F H (A++(δ++O))/\∀ {F' H' Bs γ' s2 V'},St W F' H' (Bs++(δ++γ'))->Zd ms us Bs->wU ps (aJ Bs) s' Y' = some (s2,V')->Rep W F' H' s2 V' U vs γ':=by let⟨as,bs,R⟩:=R;let⟨cs,bs',m2,m3,pm⟩:=EF (acc:=[]) (av:=[]) (ac:=[]) R.ts ⟨rfl,rfl⟩ e1 hl;rw[uH] at m2 pm;have st:St W F H (as++(cs++(bs'++O))):=R.st.perm (GI _ (by rw[<-ue];exact pm.append_right _));let⟨A,as',h1,h2,h3,h4,h5,h6,_,h8⟩:=dC st R.ls m2 m3 e2;refine⟨A,as'++bs',h1,h2,h3,by rw[ue];exact h4,λ{F' H' Bs γ' s2 V'} st' hb e=>?_⟩;rw[ue] at st';let⟨as2,g1,g2,g3,_⟩:=h8 st' hb e;exact⟨as2,bs',g1,g2,g3⟩
def Ff {α:Type}{r:α}{a b c:List α}:(r::(a++(b++c))).Perm (a++(b++(r::c))):=bS
def Cw {us:List V}(R:Rep W F H s Z U (us.reverse++vs) O)(e1:eR n Z []=some (xs,W'))(hl:us.length=n)(e2:yE ms xs s W'=some ((ts,ps),(s',Y'))) (h:f ts (λr ts'=>aK (wU ps ts' s' Y') λs3 T7=>K s3 (.own r::T7)) (λx ts'=>aK (wU ps ts' s' Y') (X4 x))) (q:∀ F' H' s' x Y' v,Rep W F' H' s' (x::Y') U (v::vs) O->K s' (x::Y')->Q v H') (x:XK W E U vs O X4):dW W ms f us H Q λc d H'=>E c d U H':=by
 let⟨A,δ,h1,h2,h3,h4,h5⟩:=EE R e1 hl e2;subst h1;refine⟨F,A,δ++O,_,_,h4,h2,h3,h,λF' H' r bs st hb hq=>?_,λex F' H' bs c d st hb hx hq=>?_⟩
 ·let⟨s3,T7,e,hq⟩:=zk hq;exact q F' H' s3 _ _ _ (h5 (γ':=r::O) (st.perm Ff) hb e).push hq
 ·let⟨s3,T7,e,hq⟩:=zk hq;exact x ex F' H' s3 T7 [] c d (h5 st hb e) hx hq
def ED (h:E5 W E (.call (.fn y) ms f es) U H Q):JC (dW W ms f) E (A5 W E es) U H Q:=by
 let⟨F,s,Z,vs,O,K,X4,R,h,q,x⟩:=h
 have hh:iC es s Z (λs1 W'=>aK (eR es.length W' []) λxs V'=>fU (yE ms xs s1 V') λts ps s2 T8=>f ts (λr ts'=>aK (wU ps ts' s2 T8) λs3 T7=>K s3 (.own r::T7)) (λx ts'=>aK (wU ps ts' s2 T8) (X4 x))) X4:=by
  cases es with
  | nil=>exact h
  | cons e es=>exact h
 refine⟨F,s,Z,vs,O,_,X4,R,hh,λF1 H1 s1 W' us hl R1 h1=>?_,x⟩;let⟨xs,V',e1,h1⟩:=zk h1;let⟨ts,ps,s2,T8,e2,h1⟩:=Vc h1;exact Cw R1 e1 hl e2 h1 q x
def FC (W:Wd)(c:Nat)(m:Str):V->Hp->Prop:=λx H=>∃ a dx fs,x=.ref a/\H a=some (.ins (W.cl c) dx fs)/\fs.lookup m=none
def E8 (ck:V->Hp->Prop)(to:TE)(t:TA):TA:=λU H Q=>to U H λx H1=>ck x H1/\t U H1 λxs H2=>Q (x::xs) H2
def zcQ {kvs:List (Str×V)}(h:(kvs.map (·.1)).contains m=false):kvs.lookup m=none:=by
 induction kvs with
 | nil=>rfl
 | cons a l ih=>rw[uA,gz,Bool.or_eq_false_iff] at h;rw[Ul,h.1];exact ih h.2
def PK (h:E5 W E (.call (.mt c y) ms f (o::es)) U H Q):JC (dW W ms f) E (E8 (FC W c y) (E5 W E o) (A5 W E es)) U H Q:=by
 let⟨F,s,Z,vs,O,K,X4,R,h,q,x⟩:=h;refine⟨F,s,Z,vs,O,_,X4,R,h,λF1 H1 s1 z W' v R1 h1=>?_,x⟩;rcases wu h1 with⟨ck,h1⟩ | ⟨_,z⟩
 ·refine⟨?_,F1,s1,z::W',v::vs,O,_,X4,R1,h1,λF2 H2 s2 V' us hl R2 h2=>?_,x.app [v]⟩
  ·have ck:(match (res s1 z).bind mH with
    | some o=>o.1 == c&&!o.2.1.contains y
    | none=>false)=true:=ck
   cases e:(res s1 z).bind mH with
   | none=>rw[e] at ck;cases ck
   | some ob=>
    rw[e] at ck
    have ck:(ob.1 == c&&!ob.2.1.contains y)=true:=ck
    rw[uS,hJ] at ck
    let⟨t,e1,e2⟩:=zb e
    let⟨as,bs,Rp⟩:=id R1
    let⟨a,g1,rfl,rfl⟩:=Rp.res e1
    let⟨o',e3⟩:=C9 e2
    let⟨p,us,oo,k1,k2,⟨dx,kvs,rfl,k3,_⟩,_⟩:=Xy R1.fh g1 e3
    exact⟨p,dx,kvs,k1,by rw[k2,eq_of_beq ck.1],zcQ (by rw[k3];exact ck.2)⟩
  ·let⟨xs,T8,e1,h2⟩:=zk h2;let⟨ts,ps,s4,T7,e2,h2⟩:=Vc h2;exact Cw (us:=v::us) (by rw[gh,ue];exact R2) e1 (congrArg (· + 1) hl) e2 h2 q x
 ·exact z.elim
def C6 (C:Addr)(sp:Sp)(E:XS)(t:TA):TE:=λU H Q=>t U H λvs H1=>∀ x dx,H1 x=none->H1 dx=none->dx≠x -> sp (.ref x::vs) (upd (upd H1 dx (.own x)) x (.ins C dx [])) (λv H2=>v=.non/\Q (.ref x) H2) λc d H'=>E c d U H'
def PJ (h:E5 W E (.call (.mk c y) ms f es) U H Q):C6 (W.cl c) (dW W (.mu::ms) f) E (A5 W E es) U H Q:=by
 let⟨F,s,Z,vs,O,K,X4,R,h,q,x⟩:=h
 have hh:iC es s Z (λs1 W'=>aK (eR es.length W' []) λxs V'=>fU (yE ms xs s1 V') λts ps s2 T8=>f (.nd true (.ob c []) []::ts) (λr ts'=>match r,ts' with
     | .non,o::os=>aK (wU ps os s2 T8) λs3 T7=>K s3 (.own o::T7)
     | _,_=>False) (λx ts'=>aK (wU ps ts'.tail s2 T8) (X4 x))) X4:=by
  cases es with
  | nil=>exact h
  | cons e es=>exact h
 refine⟨F,s,Z,vs,O,_,X4,R,hh,λF1 H1 s1 W' us hl R1 h1=>?_,x⟩;let⟨xs,V',e1,h1⟩:=zk h1;let⟨ts,ps,s2,T8,e2,h1⟩:=Vc h1;intro a dx n1 n2 ne;let⟨A,δ,g1,g2,g3,g4,g5⟩:=EE R1 e1 hl e2;subst g1;have iP:St W F1 (upd H1 dx (.own a)) (A++(δ++O)):=g4.alloc n2;have st2:=St.node (as:=[]) (k:=.ob c []) (o:=.ins (W.cl c) dx []) iP (by rw[zp (Ne.symm ne)];exact n1) ⟨dx,[],rfl,rfl,rfl⟩;refine⟨F1,.nd a (.ob c []) []::A,δ++O,_,_,st2,by rw[vals,uA];exact congrArg _ g2,congrArg (· + 1) g3,h1,λF' H' r bs st hb hq=>?_,λex F' H' bs cc d st hb hx hq=>?_⟩
 ·let⟨b,bs',rfl,hbv,hb'⟩:=hb
  match er:era r,hq with
  | .non,hq=>
   have hv:val r=.non:=by
    cases r with
    | lf t v=>cases er;exact st.ok.1.2
    | tp _ _=>cases er
    | nd _ _ _=>cases er
   let⟨s3,T7,e,hq⟩:=zk hq;refine⟨hv,?_⟩;rw[<-hbv];exact q F' H' s3 _ _ _ (g5 (γ':=b::O) ((St.tail st).perm Ff) hb' e).push hq
 ·let⟨b,bs',rfl,hbv,hb'⟩:=hb;let⟨s3,T7,e,hq⟩:=zk hq;exact x ex F' H' s3 T7 [] cc d (g5 (St.tail st) hb' e) hx hq
end
variable {W:Wd} {E:XS} {F H:Hp} {s Z:Sl} {U:L2.St} {vs:List V} {O:List AT} {K:KP} {X4:XP} {Q:VK}
structure ff (W:Wd)(J:It)(us:List AT)(ds:List T):Prop where
 sh:aI ds=true
 go:∀ i F H,i<ds.length->aM F H->bL W F H us->J.go i H
 yld:∀ i F H x H',i<ds.length->aM F H->bL W F H us->J.yld i H x H'->∃ d,ds[i]? = some d/\∀ O,St W F H O->∃ F',St W F' H' O/\bY W F' d x
 stop:∀ F H,aM F H->bL W F H us->J.stop ds.length H
def Jk (q:Sq W F H xs us)(hi:i<(views xs).length):∃ d v,(views xs)[i]? = some d/\us[i]? = some v/\bY W F d v:=by let⟨v,h1,h2⟩:=q.vw.get (uz hi);exact⟨_,v,uz hi,h1,h2⟩
def FO (hp:val u=.ref p)(e:lJ (era u)=some ds):ff W (t6 W.K p) [u] (views ds):=by
 have key:∀ F H,aM F H->bL W F H [u]->∃ vs,cJ W.K H p vs/\Sq W F H ds vs:=λF H g h=>by let⟨p',vs,h1,h2,h3⟩:=Xw g h.1 e;rw[hp] at h1;cases h1;exact⟨vs,h2,h3⟩
 refine⟨v9 ds,λi F H hi g h=>?_,λi F H x H' hi g h y=>?_,λF H g h=>?_⟩
 ·let⟨vs,h1,h2⟩:=key F H g h;let⟨d,v,_,h4,_⟩:=Jk h2 hi;exact⟨vs,v,h1,h4⟩
 ·let⟨rfl,y⟩:=y;let⟨vs,h1,h2⟩:=key F _ g h;let⟨d,v,h3,h4,h5⟩:=Jk h2 hi;have:=y vs h1;rw[h4] at this;cases this;exact⟨d,h3,λO st=>⟨F,st,h5⟩⟩
 ·let⟨vs,h1,h2⟩:=key F H g h;exact⟨vs,h1,U4 (h2.len.trans (Qr ds).symm)⟩
def FN (hp:val u=.ref p)(e:lE (era u)=some ds):ff W (tZ W.K p) [u] (views ds):=by
 have key:∀ F H,aM F H->bL W F H [u]->∃ vs,bP W.K H p vs/\Sq W F H ds vs:=λF H g h=>by let⟨p',vs,h1,h2,h3,_⟩:=Xx g h.1 e;rw[hp] at h1;cases h1;exact⟨vs,h2,h3⟩
 refine⟨v9 ds,λi F H hi g h=>?_,λi F H x H' hi g h y=>?_,λF H g h=>?_⟩
 ·let⟨vs,h1,h2⟩:=key F H g h;let⟨d,v,_,h4,_⟩:=Jk h2 hi;exact⟨vs,v,h1,h4⟩
 ·let⟨rfl,y⟩:=y;let⟨vs,h1,h2⟩:=key F _ g h;let⟨d,v,h3,h4,h5⟩:=Jk h2 hi;have:=y vs h1;rw[h4] at this;cases this;exact⟨d,h3,λO st=>⟨F,st,h5⟩⟩
 ·let⟨vs,h1,h2⟩:=key F H g h;exact⟨vs,h1,U4 (h2.len.trans (Qr ds).symm)⟩
def signs_at (hi:i<(signs l).length):∃ c,l[i]? = some c/\(signs l)[i]? = some (.str [c]):=by unfold signs at hi |-;rw[ud] at hi;exact⟨l[i],uz hi,by rw[uE,uz hi];rfl⟩
def MX:ff W (nM (S l)) u (signs l):=by
 refine⟨(aH.signs (W:=W) (F:=λ_=>none)).2,λi F H hi g h=>?_,λi F H x H' hi g h y=>?_,λF H g h=>?_⟩
 ·unfold signs at hi;rw[ud] at hi;exact(by simpa[nM,S] using hi)
 ·let⟨rfl,c,ec,rfl⟩:=y;let⟨c',h1,h2⟩:=signs_at hi;have ec:l[i]? = some c:=by simpa[S] using ec
  rw[ec] at h1;cases h1;exact⟨_,h2,λO st=>⟨F,st,rfl,aD⟩⟩
 ·unfold signs;rw[ud];exact(by simp[nM,S])
def Te {n:Nat}{f:Nat->Int}:aI ((List.range n).map λk=>T.int (f k))=true:=zZ.mpr λt ht=>by let⟨k,_,rfl⟩:=u9.mp ht;rfl
def C5 {u:List AT}{lo:Int}{n:Nat}:ff W (my lo n) u ((List.range n).map λ(k:Nat)=>.int (lo+(k:Int))):=by
 refine⟨Te,λi F H hi g _=>?_,λi F H x H' hi g _ y=>?_,λF H g _=>?_⟩
 ·simpa[my] using hi
 ·let⟨rfl,rfl⟩:=y;have hi':i<n:=by simpa using hi
  exact⟨.int (lo+i),by simp[hi'],λO st=>⟨F,st,rfl⟩⟩
 ·simp[my]
theorem kI:∀ (ds:List T) (n:Nat),(yF n ds).length=ds.length
 | [],_=>rfl
 | _::ds,n=>by simp only[yF,uc,kI ds]
theorem YK:∀ (ds:List T) (n i:Nat),(yF n ds)[i]? = (ds[i]?).map λd=>.tp [.int ((n+i:Nat):Int),d]
 | [],_,_=>rfl
 | d::ds,n,0=>rfl
 | d::ds,n,i+1=>by simp only[yF,Gx];rw[YK ds (n+1) i,show n+1+i=n+(i+1) by omega]
theorem YL:∀ {ds:List T} {n:Nat},aI ds=true->aI (yF n ds)=true
 | [],_,_=>rfl
 | d::ds,n,h=>by let⟨h1,h2⟩:=Ui.mp h;exact Ui.mpr ⟨by show(true&&(shr d&&true))=true;rw[h1];rfl,YL h2⟩
def PH (st:St W F H O)(hp:H p=none)(ha:bY W F a va)(hb:bY W F b vb):∃ F',St W F' (upd H p (.tup [va,vb])) O/\bY W F' (.tp [a,b]) (.ref p):=by have g:=jO (o:=HO.tup [va,vb]) (xO st.fh hp);exact⟨_,st.allocF hp,p,_,rfl,zI,_,_,rfl,ha.mono g,_,_,rfl,hb.mono g,rfl⟩
def Td:ff W (nN (rX (S l)) (tu (S l)) (pR (S l))) u (yF 0 (signs l)):=by
 refine⟨YL (aH.signs (W:=W) (F:=λ_=>none)).2,λi F H hi g _=>?_,λi F H x H' hi g _ y=>?_,λF H g _=>?_⟩
 ·rw[kI] at hi;unfold signs at hi;rw[ud] at hi;exact(by simpa[nN,rX,S] using hi)
 ·rw[kI] at hi;let⟨p',v,hp,⟨c,ec,rfl⟩,rfl,rfl⟩:=y;let⟨c',h1,h2⟩:=signs_at hi;have ec:l[i]? = some c:=by simpa[S] using ec
  rw[ec] at h1;cases h1;exact⟨_,by rw[YK,h2,UL];rfl,λO st=>PH st hp (a:=.int i) (b:=.str [c]) rfl ⟨rfl,aD⟩⟩
 ·rw[kI];unfold signs;rw[ud];exact(by simp[nN,pR,S])
def YM (o:Option T)(us:List AT)(vs vs':List V):Prop:=(o=none/\vs' = vs)\/∃ u,o=some (era u)/\us=[u]/\vs' = val u::vs
def Rep.dropG (R:Rep W F H s Z U vs (us++O)):Rep W F H s Z U vs O:=by let⟨Γ,st,back⟩:=R.all;rw[ue] at st;exact back st.right
def Rep.lend (R:Rep W F H s (.al i p::Z) U (v::vs) O)(e:aS s i p=some t)(e2:putSt s Z i p .any=some (s',Y')):∃ u,era u=t/\val u=v/\Rep W F H s' (.al i p::Y') U (v::vs) (u::O):=by let⟨as,bs,R⟩:=R;let⟨u,bs',rfl,hu,et,ev,st,_⟩:=R.place e;let⟨_,bs2,e0,_,_,R'⟩:=R.uncons;cases e0;let⟨m1,m2⟩:=Qt (w:=hole u) R'.ls R'.ts hu rfl e2;refine⟨u,et,ev,bJ i p as (hole u),bB::bs',?_,m1,_,_,_,_,rfl,rfl,⟨rfl,hole u,(yX hu).1,by rw[<-ev];rfl⟩,m2⟩;exact(st.perm bS).nil.perm yT
def Rep.unlend (R:Rep W F H s Z U vs' (us++O))(l:YM o us vs vs')(e:ir o s Z=some (s',Y')):Rep W F H s' Y' U vs O:=by
 rcases l with⟨rfl,rfl⟩ | ⟨u,rfl,rfl,rfl⟩
 ·cases e;exact R.dropG
 ·match Z,e with
  | .no::W',e=>cases e;exact R.pop.dropG
  | .al i p::W',e=>let⟨t,e1,e⟩:=zb e;let⟨_,e2,e⟩:=zb e;let⟨as,bs,R⟩:=R;let⟨u0,bs',rfl,hu,et,ev,st,back⟩:=R.place e1;have st2:St W F H (u::(bJ i p as (hole u0)++(bs'++O))):=st.tail.perm bS.symm;exact back st2 rfl e
def MW {us:List V}(R:Rep W F H s Z U (us.reverse++vs) O)(hl:us.length=n)(e:iy k n s Z=some ((ds,o),(s',Y'))):∃ cs vs',vals cs=us/\mK k (aJ cs)=some ds/\bL W F H cs/\YM o cs vs vs'/\Rep W F H s' Y' U vs' (cs++O):=by
 have own:∀ {r ds'},dZ n Z []=some r->mK k r.1=some ds'->((ds',none),(s,r.2))=((ds,o),(s',Y'))->∃ cs vs',vals cs=us/\mK k (aJ cs)=some ds/\bL W F H cs/\YM o cs vs vs'/\Rep W F H s' Y' U vs' (cs++O):=λ{r ds'} e1 e2 e3=>by let⟨ts,V'⟩:=r;cases e3;let⟨cs,rfl,h2,R2⟩:=kH R e1 hl;let⟨Γ,st,_⟩:=R2.all;rw[ue] at st;exact⟨cs,vs,h2,e2,st.left,.inl ⟨rfl,rfl⟩,R2⟩
 unfold iy at e;split at e
 ·rename_i i p W';let⟨t,e1,e⟩:=zb e;let⟨ds',e2,e⟩:=zb e;let⟨q,e3,e⟩:=zb e;cases e
  match us,hl with
  | [v],_=>let⟨u,rfl,rfl,R2⟩:=Rep.lend (vs:=vs) R e1 e3;let⟨Γ,st,_⟩:=R2.all;exact⟨[u],_,rfl,e2,⟨st.ok.1,trivial⟩,.inr ⟨u,rfl,rfl,rfl⟩,R2⟩
 ·let⟨r,e1,e⟩:=zb e;let⟨ds',e2,e⟩:=zb e;exact own e1 e2 (uQ e)
def I5 (W:Wd)(E:XS)(k:IK)(its:List Xp):TI:=λU H R=>∃ F s Z vs O K X4,Rep W F H s Z U vs O/\iC its s Z (λs1 W'=>mn (iy k its.length s1 W') K) X4 /\ (∀ ds o s' Y' F' H' J us vs',ff W J us ds->YM o us vs vs'->Rep W F' H' s' Y' U vs' (us++O)->K ds o s' Y'->R J H')/\XK W E U vs O X4
def itR (W:Wd)(k:IK)(us:List V)(H:Hp)(R:It->Hp->Prop):Prop:=∃ F cs ds,aM F H/\vals cs=us/\mK k (aJ cs)=some ds/\bL W F H cs/\∀ J,ff W J cs ds->R J H
def sW (h:I5 W E k its U H R):A5 W E its U H λus H'=>itR W k us H' R:=by let⟨F,s,Z,vs,O,K,X4,R0,h,q,x⟩:=h;refine⟨F,s,Z,vs,O,_,X4,R0,h,λF' H' s' Y' us hl R' h'=>?_,x⟩;let⟨ds,o,s2,V',e,h'⟩:=P5 h';let⟨cs,vs',h1,h2,h3,h4,R2⟩:=MW R' hl e;exact⟨F',cs,ds,R2.fh,h1,h2,h3,λJ it=>q ds o s2 V' F' H' J cs vs' it h4 R2 h'⟩
section
variable {R:It->Hp->Prop}
def Bx (h:itR W k [v] H R):∃ F c ds,aM F H/\val c=v/\mK k [era c]=some ds/\OK W F H c/\∀ J,ff W J [c] ds->R J H:=by
 let⟨F,cs,ds,g,h1,h2,h3,h4⟩:=h
 match cs,h1 with
 | [c],h1=>cases h1;exact⟨F,c,ds,g,rfl,h2,h3.1,h4⟩
def it2 (h:itR W k [v,w] H R):∃ F c d ds,aM F H/\val c=v/\val d=w/\mK k [era c,era d]=some ds/\OK W F H c/\OK W F H d/\∀ J,ff W J [c,d] ds->R J H:=by
 let⟨F,cs,ds,g,h1,h2,h3,h4⟩:=h
 match cs,h1 with
 | [c,d],h1=>cases h1;exact⟨F,c,d,ds,g,rfl,rfl,h2,h3.1,h3.2.1,h4⟩
def PD (h:itR W .seq [v] H R):(∃ a,v=.ref a/\(∃ xs,cJ W.K H a xs)/\R (t6 W.K a) H)\/(∃ z,v=.str z/\R (nM z) H)\/∃ a,v=.ref a/\(∃ xs,bP W.K H a xs)/\R (tZ W.K a) H:=by
 let⟨F,c,ds,g,rfl,e,hc,q⟩:=Bx h;rcases zM e with e | e
 ·let⟨l,e1,e⟩:=zb e;cases e;exact .inr (.inl ⟨_,(qF hc (z6 e1)).1,q _ MX⟩)
 ·let⟨xs,e1,e2⟩:=zb e
  have e3:ds=views xs:=by
   cases z:aI xs<;>rw[z] at e2<;>cases e2
   ·rfl
   ·exact(JL z).symm
  subst e3;rcases DV e1 with e | e
  ·let⟨p,us,h1,h2,_⟩:=Xw g hc e;exact .inl ⟨p,h1,⟨us,h2⟩,q _ (FO h1 e)⟩
  ·let⟨p,us,h1,h2,_⟩:=Xx g hc e;exact .inr (.inr ⟨p,h1,⟨us,h2⟩,q _ (FN h1 e)⟩)
def Tc {v:V}(h:itR W .rng [v] H R):∃ j:Int,[v]=[.int j]/\-(2 ^ 62)<=j/\j<2 ^ 62/\R (my 0 j.toNat) H:=by let⟨F,c,ds,g,rfl,e,hc,q⟩:=Bx h;let⟨j,e1,e⟩:=zb e;let⟨hb,rfl⟩:=Ay e;have hb:=AA hb;have:=C5 (W:=W) (u:=[c]) (lo:=0) (n:=j.toNat);simp only[Int.zero_add] at this;exact⟨j,by rw[zE hc e1],hb.1,hb.2,q _ this⟩
def Tb (h:itR W .rng [v,w] H R):∃ i j:Int,[v,w]=[.int i,.int j]/\(-(2 ^ 62)<=i/\i<2 ^ 62/\-(2 ^ 62)<=j/\j<2 ^ 62)/\R (my i (j - i).toNat) H:=by let⟨F,c,d,ds,g,rfl,rfl,e,hc,hd,q⟩:=it2 h;let⟨i,j,e1,e2,e⟩:=zG e;let⟨hb,rfl⟩:=Ay e;let⟨hb1,hb2⟩:=Ui.mp hb;have hb:=And.intro (AA hb1) (AA hb2);exact⟨i,j,by rw[zE hc e1,zE hd e2],⟨hb.1.1,hb.1.2,hb.2.1,hb.2.2⟩,q _ C5⟩
def zcR (h:itR W .enumS [v] H R):∃ z,[v]=[.str z]/\R (nN (rX z) (tu z) (pR z)) H:=by let⟨F,c,ds,g,rfl,e,hc,q⟩:=Bx h;let⟨l,e1,e⟩:=zb e;cases e;exact⟨_,by rw[(qF hc (z6 e1)).1],q _ Td⟩
end
end
def Bn (bG:V->Hp->(List V->Prop)->Prop)(J:It)(tt:TT)(te:TE)(U:L2.St)(H1:Hp)(Q:VK):Prop:=∀ D,H1 D=none->∃ I:Nat->Nat->List V->Hp->Prop,(∃ m,I 0 m [] (upd H1 D (.lst [])))/\∀ i m ys H',I i m ys H'->H' D=some (.lst ys) /\
 ((J.stop i H'/\Q (.ref D) H')\/(J.go i H'/\∀ v H2,J.yld i H' v H2->bG v H2 λus=>tt (us.map some++U) H2 λb H3=>
  if b=true then te (us.map some++U) H3 λy H4=>H4 D=some (.lst ys)/\ys.length<sizeLine/\∃ m',m' < m/\I (i+1) m' (ys++[y]) (upd H4 D (.lst (ys++[y]))) else ∃ m',m' < m/\I (i+1) m' ys H3))
end L5
namespace L2
open PySem PySem.Spec PyProof.Rows
section
variable {X:Cx} {elt iter tg:Expr} {xs:Lh} {pos:Pos} {ifs:Lg} {scope:Scope} {wi:TI} {tt:TT} {te:TE} {g:TG} {bG:V->Hp->(List V->Prop)->Prop}
def MV (L:yM X xs scope)(hi:PI X tg iter wi)(ht:∀ cl C s3 H3 fp,nV (dJ X xs scope cl C s3 H3 fp) ifs tt)(he:∀ cl C s3 H3 fp,PE (dJ X xs scope cl C s3 H3 fp) elt te) (hg:∀ cl C s3 H3 fp,PG (dJ X xs scope cl C s3 H3 fp) tg g) (hb:∀ v H (os U:St) (K:List V->Prop),os.length=xs.length->bG v H K->g v (os++U) H λU' H'=>∃ us,us.length=xs.length/\U' = us.map some++U/\H' = H/\K us) (hs:∀ x,foldedSetIterable iter X.env x=pure x):PE X (.ListComp elt [⟨tg,iter,ifs,0⟩] scope pos) (λU H Q=>wi U H λJ H1=>L5.Bn bG J tt te U H1 Q):=by intro Lk s U H Q I h;rw[eval_ListComp];refine Yl (use:=none) (QV:=Q) L I (hi Lk s U H _ I h) ht he hg (λv H os K=>hb v H os U K) hs λD C H' s' m IX fC hn q=>?_;refine⟨m,hn,λh' hs'=>⟨.ref D,H',IX.turned (t':=s'.toks) (λb o hb e=>hs'.extBut b o hb e) fC.1 fC.2.1 fC.2.2.2.1 fC.2.2.2.2.1 fC.2.2.2.2.2,rfl,q⟩⟩
def zcS {pz spos:Pos}(hN:X.N.Nodup)(hi':X.N[i]? = some z)(hz:Loc X.env.scope z)(L:yM X xs scope)(hi:PI X tg iter wi)(ht:∀ cl C s3 H3 fp,nV (dJ X xs scope cl C s3 H3 fp) ifs tt)(he:∀ cl C s3 H3 fp,PE (dJ X xs scope cl C s3 H3 fp) elt te) (hg:∀ cl C s3 H3 fp,PG (dJ X xs scope cl C s3 H3 fp) tg g) (hb:∀ v H (os U:St) (K:List V->Prop),os.length=xs.length->bG v H K->g v (os++U) H λU' H'=>∃ us,us.length=xs.length/\U' = us.map some++U/\H' = H/\K us) (hs:∀ x,foldedSetIterable iter X.env x=pure x) (hsw:swapsWith (.ListComp elt [⟨tg,iter,ifs,0⟩] scope pos) (some (.Name z pz)) spos.line X.env=pure true) (hf:X.fn z=true\/X.env.scope.names.lookup z=some .local):PS X (.Assign [.Name z pz] (.ListComp elt [⟨tg,iter,ifs,0⟩] scope pos) spos) (fK (λU H Q=>wi U H λJ H1=>L5.Bn bG J tt te U H1 Q) (vM i)):=by
 intro Lk s U H D I h;rw[exec_Assign_Name_used _ _ _ _ hsw];refine ua (UI (ua ?_));show wpAny _ X.A (do let _ <-comprehension (.ListComp elt [⟨tg,iter,ifs,0⟩] scope pos) scope X.env _ (newList []) false (eval iter X.env) (some (assign (.Name z pz) X.env))) _ _ s;refine ua (uG (Yl (use:=some (assign (.Name z pz) X.env)) (Q:=λ_ s'=>SP X Lk D .next s') (QV:=λv H'=>D.nx (U.set i (some v)) H') L I (hi Lk s U H _ I h) ht he hg (λv H os K=>hb v H os U K) hs λD' C H' s' m IX fC hn q=>?_) (λ_ s' hq=>uh (uh hq)) λ_ _ e=>e);show wpAny _ X.A (assign (.Name z pz) X.env (.ref D')) _ _ s';refine HL (W3 IX hN hi' hz (show RelV (.ref D') (.ref D') from rfl) (λs2 I2 hch=>?_) hf);let⟨a,sb,ha⟩:=hch
 have hCa:C≠a:=by
  rcases ha with e | e
  ·rw[e];exact fC.2.1
  ·intro z';exact fC.2.2.2.2.1 _ _ e z'.symm
 refine⟨m,hn.sameBut sb hCa,λh' hs'=>?_⟩;exact⟨_,H',I2.turned (t':=s2.toks) (λb o hb e=>hs'.extBut b o hb e) fC.1 fC.2.1 fC.2.2.2.1 fC.2.2.2.2.1 fC.2.2.2.2.2,q⟩
def gN (off:Nat):Nat->nD
 | 0=>lg
 | n+1=>Yd (vM off) (gN (off+1) n)
theorem Cv:∀ {n:Nat} {us:List V} {pre os:St},os.length=n->us.length=n->Q (pre++(us.map some++U)) H->gN pre.length n us (pre++(os++U)) H Q
 | 0,[],pre,[],_,_,q=>⟨rfl,by simpa using q⟩
 | n+1,u::us,pre,o::os,h1,h2,q=>by
  refine⟨u,us,rfl,?_⟩
  have e:(pre++(o::os++U)).set pre.length (some u)=(pre++[some u])++(os++U):=by
   have z:∀ (l:List (Option V)) (r:List (Option V)),(l++o::r).set l.length (some u)=(l++[some u])++r:=λl r=>by rw[gK _ _ (uj _),U5];simp
   exact z pre (os++U)
  show gN (pre.length+1) n us ((pre++(o::os++U)).set pre.length (some u)) H Q;rw[e,show pre.length+1=(pre++[some u]).length by simp];exact Cv (by simpa using h1) (by simpa using h2) (by simpa using q)
 | 0,_::_,_,_,_,h,_=>by cases h
 | 0,[],_,_::_,h,_,_=>by cases h
 | _+1,[],_,_,_,h,_=>by cases h
 | _+1,_::_,_,[],h,_,_=>by cases h
def fU (K:Le)(n:Nat):V->Hp->(List V->Prop)->Prop:=λv H k=>∃ pa us,v=.ref pa/\bP K H pa us/\us.length=n/\k us
def FL {C:Le}{n:Nat}{v:V}{H:Hp}{os U:St}{K:List V->Prop}(hl:os.length=n)(h:fU C n v H K):mh C n (gN 0 n) v (os++U) H λU' H'=>∃ us:List V,us.length=n/\U' = us.map some++U/\H' = H/\K us:=by let⟨pa,us,rfl,h1,h2,h3⟩:=h;exact⟨pa,us,rfl,h1,h2,Cv (pre:=[]) hl h2 ⟨us,h2,rfl,rfl,h3⟩⟩
end
end L2
namespace L5
open PySem L2 PySem.Spec PyProof.Rows
section
section
section
section
section
section
section
section
section
section
section
section
def mq (K:Le)(tup:Bool)(n:Nat):V->Hp->(List V->Prop)->Prop:=if tup=true then L2.fU K n else λv _ k=>k [v]
def tM (K:Le)(tup:Bool)(n:Nat):TG:=if tup=true then mh K n (gN 0 n) else vM 0
def C4 {K:Le}{tup:Bool}{n:Nat}(h:tup=decide (n≠1))(v:V)(H:Hp)(os U:L2.St)(k:List V->Prop)(hl:os.length=n)(hb:mq K tup n v H k):tM K tup n v (os++U) H λU' H'=>∃ us:List V,us.length=n/\U' = us.map some++U/\H' = H/\k us:=by
 unfold tM;unfold mq at hb;cases tup with
 | true=>rw[uC rfl] at hb |-;exact FL hl hb
 | false=>
  have hn:n=1:=by have:=uN h.symm;lia
  subst hn;rw[ux aA] at hb |-;exact NY hl hb
def lY:Lg->Option Lh
 | []=>some []
 | e::es=>match e with
  | .Name x _=>(lY es).map (x::·)
  | _=>none
def A0 (e:Expr):Option (Bool×Lh):=match e with
 | .Name x _=>some (false,[x])
 | .Tuple es _ _=>(lY es).map λl=>(true,l)
 | _=>none
theorem EC {X:Cx}(hN:X.N.Nodup)(hf:∀ x,X.fn x=false):∀ {es:Lg} {xs:Lh} {off:Nat},lY es=some xs->(∀ k x,xs[k]? = some x->X.N[off+k]? = some x)->(∀ x∈xs,X.env.scope.names.lookup x=some .local)->nW X es (gN off xs.length)/\(assignEach es X.env).length=xs.length/\(assignEach es X.env).findIdx? (·.1)=none
 | [],xs,off,h,_,_=>by cases h;exact⟨EZ,rfl,rfl⟩
 | e::es,xs,off,h,hk,hx=>by
  cases e with
  | Name x p=>
   have h:(lY es).map (x::·)=some xs:=h;rw[uM] at h;let⟨ys,h1,rfl⟩:=h
   let⟨p1,p2,p3⟩:=EC hN hf (off:=off+1) h1 (λk y hy=>by
    have:=hk (k+1) y (by simpa using hy)
    rwa [show off+(k+1)=off+1+k by lia] at this) λy hy=>hx y (uk _ hy)
   have hv:=hx x ug;have hn:PG X (.Name x p) (vM off):=XT hN (hk 0 x rfl) (.inl hv) (.inr hv);have ac:(assignEach (.Name x p::es) X.env)=(false,assign (.Name x p) X.env)::assignEach es X.env:=rfl;exact⟨Ye hn p1 rfl,by rw[ac,uc,uc,p2],by rw[ac,Ge,p3];rfl⟩
  | _=>exact zj h
def MT {X:Cx}(hc:X.calm=true)(hN:X.N.Nodup)(hf:∀ x,X.fn x=false)(h:A0 tg=some q)(hk:∀ (k:Nat) x,q.2[k]? = some x->X.N[k]? = some x)(hx:∀ x∈q.2,X.env.scope.names.lookup x=some .local):PG X tg (tM X.K q.1 q.2.length):=by
 cases tg with
 | Name x p=>cases h;have hv:=hx x ug;exact XT hN (hk 0 x rfl) (.inl hv) (.inr hv)
 | Tuple es k p=>have h:(lY es).map (λl=>(true,l))=some q:=h;rw[uM] at h;let⟨ys,h1,rfl⟩:=h;let⟨p1,p2,p3⟩:=EC hN hf (off:=0) h1 (λk y hy=>by rw[UL];exact hk k y hy) hx;exact DI hc p1 p2 p3
 | _=>exact zj h
variable {W:Wd} {E:XS} {F H:Hp} {s Z:Sl} {U:L2.St} {vs:List V} {O:List AT} {K:KP} {X4:XP} {Q:VK}
abbrev rJ:XS:=λ_ _ _ _=>False
def Cu:XK W rJ U vs O iu:=λ_ _ _ _ _ _ _ _ _ _ h=>h.elim
theorem Ms.shift {as l:List AT}(hl:l.length=n):∀ {s s':Sl} {ρ:List (Option V)} {cs:List AT},Ms as s ρ cs->aT (iE n) s=some s'->Ms (l++as) s' ρ cs
 | [],_,_,_,h,e=>by cases e;exact h
 | x::s,_,_,_,⟨o,ρ,a,cs,e1,e2,h1,h2⟩,e=>by
  let⟨y,ys,k1,k2,k⟩:=zG e;cases k;refine⟨o,ρ,a,cs,e1,e2,?_,Ms.shift hl h2 k2⟩;cases x with
  | no=>cases k1;exact h1
  | own t=>cases k1;exact h1
  | al i p=>cases k1;let⟨hn,u,hu,ho⟩:=h1;refine⟨hn,u,?_,ho⟩;unfold bK at hu |-;rw[Ua (by omega),hl,gB];exact hu
theorem Ms.unshift {as:List AT}{n:Nat}:∀ {s s':Sl} {ρ:List (Option V)} {cs:List AT},Ms as s ρ cs->aT (fE n) s=some s'->Ms (as.drop n) s' ρ cs
 | [],_,_,_,h,e=>by cases e;exact h
 | x::s,_,_,_,⟨o,ρ,a,cs,e1,e2,h1,h2⟩,e=>by
  let⟨y,ys,k1,k2,k⟩:=zG e;cases k;refine⟨o,ρ,a,cs,e1,e2,?_,Ms.unshift h2 k2⟩;cases x with
  | no=>cases k1;exact h1
  | own t=>cases k1;exact h1
  | al i p=>
   simp only[fE,pj] at k1;cases c:n.ble i with
   | false=>rw[c] at k1;cases k1;exact h1.1
   | true=>rw[c] at k1;cases k1;let⟨hn,u,hu,ho⟩:=h1;refine⟨hn,u,?_,ho⟩;unfold bK at hu |-;rw[G5,Nat.add_sub_cancel' (Nat.le_of_ble_eq_true c)];exact hu
theorem Ms.drop:∀ {as:List AT} {s:Sl} {ρ:List (Option V)} {cs:List AT} (n:Nat),Ms as s ρ cs->Ms as (s.drop n) (ρ.drop n) (cs.drop n)
 | _,_,_,_,0,h=>h
 | _,[],_,_,n+1,⟨h1,h2⟩=>by subst h1 h2;exact⟨rfl,rfl⟩
 | _,_::_,_,_,n+1,⟨_,_,_,_,e1,e2,_,h⟩=>by subst e1 e2;exact Ms.drop n h
theorem Ms.aN:∀ {ts:List T} {us:List V} {s:Sl} {ρ:List (Option V)} {cs:List AT},aH W F ts us->Ms as s ρ cs->Ms as (ts.map .own++s) (us.map some++ρ) (L5.aN ts us++cs)
 | [],_,_,_,_,h,m=>by rw[show _=[] from h];exact m
 | _::_,_,_,_,_,⟨v,r,e,h1,h2⟩,m=>by subst e;exact⟨_,_,_,_,rfl,rfl,⟨rfl,rfl⟩,Ms.aN h2 m⟩
def Rep.names {ts:List T}{us:List V}(R:Rep W F H s Z U vs O)(i:aH W F ts us)(sh:aI ts=true)(e1:aT (iE ts.length) s=some s1)(e2:aT (iE ts.length) Z=some W'):Rep W F H (ts.map .own++s1) W' (us.map some++U) vs O:=by
 let⟨as,bs,R⟩:=R;have hl:(aN ts us).length=ts.length:=by have:=congrArg List.length (Qs (H:=H) i sh).2.1;rw[zt,ud] at this;exact this
 refine⟨aN ts us++as,bs,?_,(R.ls.shift hl e1).aN i,R.ts.shift hl e2⟩;rw[ue];exact(R.st.aN i sh).1
def Rep.unname {us:List V}(R:Rep W F H s Z (us.map some++U) vs O)(hn:us.length=n)(e1:aT (fE n) (s.drop n)=some s1)(e2:aT (fE n) Z=some W'):Rep W F H s1 W' U vs O:=by let⟨as,bs,R⟩:=R;have m1:=(R.ls.drop n).unshift e1;rw[gR (by rw[ud,hn];exact uj _),show(us.map some).drop n=[] by rw[<-hn];exact U6 (by rw[ud];exact uj _),UH] at m1;refine⟨as.drop n,bs,?_,m1,R.ts.unshift e2⟩;have:=R.st;rw[<-UQ n as,ue] at this;exact this.right
def Ta {n:Nat}{d:T}{l:Sl}{v:V}{Q:List V->Prop}(g:aM F H)(hs:shr d=true)(hd:bY W F d v)(e:Aq n d=some l)(q:∀ us ts,l=ts.map .own->ts.length=n->aH W F ts us->aI ts=true->Q us):mq W.K (decide (n≠1)) n v H Q:=by
 by_cases hn:n=1
 ·subst hn;cases e;exact q [v] [d] rfl rfl ⟨v,[],rfl,hd,rfl⟩ (by show(shr d&&true)=true;rw[hs];rfl)
 ·rw[uK hn]
  have e:((lE d).bind λxs=>cond (xs.length == n) (some (xs.map .own)) none)=some l:=by
   unfold Aq at e;split at e
   ·exact absurd rfl hn
   ·exact e
  let⟨xs,e1,e⟩:=zb e;cases c:xs.length == n with
  | false=>rw[c] at e;cases e
  | true=>
   rw[c] at e;cases e;let⟨p,us,h1,h2,h3,_⟩:=Xx (a:=.lf d v) g ⟨hs,hd⟩ e1
   have sh:aI xs=true:=by
    cases d with
    | tp _=>cases e1;exact hs
    | ks l _=>cases l<;>cases e1;let⟨_,_,_,_,h,_⟩:=hd;exact h
    | _=>cases e1
   exact⟨p,us,h1,h2,h3.len.trans (eq_of_beq c),q us xs rfl (eq_of_beq c) (h3.sh sh) sh⟩
def Ct (h:E5 W E (.lc elt n k its ifs) U H Q):I5 W E k its U H λJ H1=>Bn (mq W.K (decide (n≠1)) n) J (nE W rJ true ifs) (E5 W rJ elt) U H1 Q:=by
 let⟨F,s,Z,vs,O,K,X4,R,h,q,x⟩:=h;refine⟨F,s,Z,vs,O,_,X4,R,h,λds o s1 W' F1 H1 J us vs' it lv R1 h1 D hD=>?_,x⟩
 let fin:List T->KP:=λacc s3 T8=>aK (ir o s3 T8) λs4 T7=>K s4 (.own (.nd true .ls acc)::T7)
 let I:Nat->Nat->List V->Hp->Prop:=λi m ys H'=>m=ds.length - i/\i<=ds.length/\∃ F' acc s' Y',vals acc=ys/\Rep W F' H' s' Y' U vs' (.nd D .ls acc::(us++O))/\QW n (λs Z K=>nB true ifs s Z K iu) (λs Z K=>WE elt s Z K iu) (ds.drop i) (aJ acc) s' Y' fin;refine⟨I,⟨ds.length,aB,u4 _,F1,[],s1,W',rfl,?_,by rw[gm];exact h1⟩,λi m ys H' hI=>?_⟩
 ·let⟨Γ,st,back⟩:=R1.all;exact back (γ':=.nd D .ls []::(us++O)) (St.node (as:=[]) st hD rfl)
 let⟨rfl,hle,F',acc,s',Y',rfl,R2,hp⟩:=hI;let⟨Γ,st,back⟩:=id R2.all;have okD:=st.ok.1;have cellD:H' D=some (.lst (vals acc)):=by let⟨⟨o,h1,rfl⟩,_⟩:=okD;exact h1
 have oku:bL W F' H' us:=by have:=St.tail (a:=.nd D .ls acc) (O:=us++O++Γ) st;rw[ue] at this;exact this.left
 refine⟨cellD,?_⟩;by_cases hlt:i<ds.length
 ·refine .inr ⟨it.go i F' H' hlt st.fh oku,λv H2 y=>?_⟩;let⟨d,ed,hd⟩:=it.yld i F' H' v H2 hlt st.fh oku y;let⟨F2,st2,iv⟩:=hd _ st;have R3:Rep W F2 H2 s' Y' U vs' (.nd D .ls acc::(us++O)):=back st2;have edr:ds.drop i=d::ds.drop (i+1):=by rw[UR hlt];rw[uz hlt] at ed;cases ed;rfl
  rw[edr] at hp;let⟨l,e1,hp⟩:=zC hp;let⟨s2,e2,hp⟩:=zC hp;let⟨V',e3,hp⟩:=zC hp;refine Ta st2.fh (zZ.mp it.sh d (uR ed)) iv e1 λws ts el hn hw sh=>?_;subst el;have hwl:ws.length=n:=by rw[hw.len,hn]
  have R4:=R3.names hw sh (by rw[hn];exact e2) (by rw[hn];exact e3);refine⟨F2,_,_,vs',_,_,iu,R4,hp,λb F3 H3 s3 T8 R5 h3=>?_,Cu⟩;rcases wu h3 with⟨rfl,h3⟩ | ⟨rfl,h3⟩
  ·rw[uC rfl];refine⟨F3,s3,T8,vs',_,_,iu,R5,h3,λF4 H4 s4 x4 T7 w R6 h4=>?_,Cu⟩;let⟨t,T6,e4,hlen,h5'⟩:=zk h4;let⟨s6,e5,h5''⟩:=zC h5';let⟨TN,e6,h5⟩:=zC h5'';clear h5' h5'';cases x4<;>cases e4;let⟨b,rfl,rfl,hb,R7⟩:=R6.opened;have R8:=R7.unname hwl e5 e6;let⟨Γ',st',back'⟩:=R8.all;have cD:H4 D=some (.lst (vals acc)):=by let⟨⟨o,h1,rfl⟩,_⟩:=st'.ok.2.1;exact h1
   refine⟨cD,by rw[ud,uD];rw[zt,ud] at hlen;exact hlen,ds.length - (i+1),aB,rfl,aB,F4,acc++[b],s6,TN,by simp[vals],?_,?_⟩
   ·refine back' (γ':=.nd D .ls (acc++[b])::(us++O)) ?_;have st3:St W F4 H4 (.nd D .ls acc::([b]++(us++O++Γ'))):=st'.perm ja;exact st3.mut (ys:=[b]) (zs:=acc++[b]) (ws:=[]) (by rw[uH]) (by show HO.lst _=.lst _;simp[vals])
   ·rw[zt,uF,<-zt];exact h5
  ·rw[ux aA];let⟨s6,e5,h5⟩:=zC h3;let⟨TN,e6,h5⟩:=zC h5;exact⟨ds.length - (i+1),aB,rfl,aB,F3,acc,s6,TN,rfl,R5.unname hwl e5 e6,h5⟩
 ·have hi':i=ds.length:=aB
  subst hi';rw[Hi] at hp;have hp:fin (aJ acc) s' Y':=hp;let⟨s4,T7,e4,h4⟩:=zk hp;refine .inl ⟨it.stop F' H' st.fh oku,?_⟩;have R4:Rep W F' H' s' Y' U vs' (us++(.nd D .ls acc::O)):=by refine back ?_;refine st.perm (gH _ ?_);exact uT.symm
  exact q F' H' s4 _ _ _ (R4.unlend lv e4).push h4
end
variable {W:Wd} {E:XS} {F H:Hp} {s Z:Sl} {U:L2.St} {vs:List V} {O:List AT} {K K4:KP} {X4:XP} {D:L2.Ends} {D4:Ends}
structure KO (W:Wd)(E:XS)(vs:List V)(O:List AT)(K4:KP)(D4:Ends)(D:L2.Ends):Prop where
 nx:∀ F' H' s' Y' U',Rep W F' H' s' Y' U' vs O->K4 s' Y'->D.nx U' H'
 rt:∀ F' H' s' Y' U' t v,Rep W F' H' s' (.own t::Y') U' (v::vs) O->D4.rt t s' Y'->D.rt v H'
 bk:∀ F' H' s' Y' U',Rep W F' H' s' Y' U' vs O->D4.bk s' Y'->D.bk U' H'
 ct:∀ F' H' s' Y' U',Rep W F' H' s' Y' U' vs O->D4.ct s' Y'->D.ct U' H'
 ex:∀ x F' H' s' Y' U' ws c d,Rep W F' H' s' Y' U' (ws++vs) O->t7 W F' x c d->D4.ex x s' Y'->E c d U' H'
def KO.xk (k:KO W E vs O K4 D4 D):XK W E U vs O D4.ex:=λx F' H' s' Y' ws c d R=>k.ex x F' H' s' Y' U ws c d R
def S5 (W:Wd)(E:XS)(m:Sl->Sl->KP->Ends->Prop):TS:=λD U H=>∃ F s Z vs O K4 D4,Rep W F H s Z U vs O/\m s Z K4 D4/\KO W E vs O K4 D4 D
def C3 (h:S5 W E (bN []) D U H):B9 D U H:=by let⟨F,s,Z,vs,O,K4,D4,R,h,k⟩:=h;exact k.nx F H s Z U R h
def EB (h:S5 W E (bN (c::cs)) D U H):mT (S5 W E (WS c)) (S5 W E (bN cs)) D U H:=by let⟨F,s,Z,vs,O,K4,D4,R,h,k⟩:=h;exact⟨F,s,Z,vs,O,_,D4,R,h,λF' H' s' Y' U' R' h'=>⟨F',s',Y',vs,O,K4,D4,R',h',k⟩,k.rt,k.bk,k.ct,k.ex⟩
def MS (h:S5 W E (WS (.ret e)) D U H):pC (E5 W E e) D U H:=by let⟨F,s,Z,vs,O,K4,D4,R,h,k⟩:=h;refine⟨F,s,Z,vs,O,_,_,R,h,λF' H' s' x Y' v R' h'=>?_,k.xk⟩;let⟨t,V',e1,h2⟩:=zk h';cases x<;>cases e1;exact k.rt F' H' s' _ U _ v R' h2
def S9 {P:Prop}(h:S5 W E (WS .never) D U H):P:=by let⟨F,s,Z,vs,O,K4,D4,R,h,k⟩:=h;exact h.elim
def FK (h:S5 W E (WS (.ex e)) D U H):Al (E5 W E e) D U H:=by let⟨F,s,Z,vs,O,K4,D4,R,h,k⟩:=h;refine⟨F,s,Z,vs,O,_,_,R,h,λF' H' s' x Y' v R' h'=>?_,k.xk⟩;exact k.nx F' H' s' Y' U R'.pop h'
def MR (h:S5 W E (WS (.ife t a b)) D U H):pH (T5 W E t) (S5 W E (bN a)) (S5 W E (bN b)) D U H:=by
 let⟨F,s,Z,vs,O,K4,D4,R,h,k⟩:=h;refine⟨F,s,Z,vs,O,_,_,R,h,λz F' H' s' Y' R' h'=>?_,k.xk⟩;rcases wu h' with⟨rfl,h'⟩ | ⟨rfl,h'⟩
 ·exact⟨F',s',Y',vs,O,K4,D4,R',h',k⟩
 ·exact⟨F',s',Y',vs,O,K4,D4,R',h',k⟩
def As (h:S5 W E (WS (.asg (.v i) e)) D U H):fK (E5 W E e) (vM i) D U H:=by let⟨F,s,Z,vs,O,K4,D4,R,h,k⟩:=h;refine⟨F,s,Z,vs,O,_,_,R,h,λF' H' s' x Y' v R' h'=>?_,k.xk⟩;let⟨s2,V',e1,h2⟩:=zk h';exact k.nx F' H' s2 V' _ (R'.setTop e1) h2
def Rep.untup (R:Rep W F H s (.own t::Z) U (v::vs) O)(e:lE t=some ts):∃ p cs,v=.ref p/\bP W.K H p (vals cs)/\aJ cs=ts/\Rep W F H s Z U vs (cs++O):=by
 let⟨b,rfl,rfl,hb,R2⟩:=R.opened;have g:=R2.fh;let⟨Γ,st,back⟩:=R2.all;cases b with
 | nd p k ys=>cases k<;>cases e
 | tp p ys=>cases e;exact⟨p,ys,rfl,bP.of (g _ _ hb.1),rfl,back (γ':=ys++O) (by rw[ue];exact St.openT st)⟩
 | lf t v=>
  let⟨p,us,k1,k2,k3,_⟩:=Xx g hb e
  have sh:aI ts=true:=by
   cases t with
   | tp _=>cases e;exact hb.1
   | ks l _=>cases l<;>cases e;let⟨_,_,_,_,_,h,_⟩:=hb;exact h
   | _=>cases e
  let⟨k4,k5,k6⟩:=(St.tail (a:=.lf t v) (O:=O++Γ) st).aN (k3.sh sh) sh;exact⟨p,aN ts us,k1,by rw[k6];exact k2,k5,back (γ':=aN ts us++O) (by rw[ue];exact k4)⟩
theorem XB:∀ {is:Lc} {cs:List AT} {s Z s' Y':Sl} {U:L2.St} {Q:L2.St->Hp->Prop},Rep W F H s Z U vs (cs++O)->Xu is (aJ cs) s Z=some (s',Y')->(∀ U',Rep W F H s' Y' U' vs O->Q U' H)->(is.foldr (λi g=>Yd (vM i) g) lg) (vals cs) U H Q
 | [],[],s,Z,s',Y',U,Q,R,e,q=>by cases e;exact⟨rfl,q U R⟩
 | [],_::_,s,Z,s',Y',U,Q,R,e,q=>by cases e
 | _::_,[],s,Z,s',Y',U,Q,R,e,q=>by cases e
 | i::is,c::cs,s,Z,s',Y',U,Q,R,e,q=>by let⟨r,e1,e⟩:=zb e;exact⟨val c,vals cs,rfl,XB (Rep.setTop (Rep.push R) e1) e q⟩
theorem XC:∀ {is:Lc} {ts:List T} {s Z:Sl} {r:Sl×Sl},Xu is ts s Z=some r->ts.length=is.length
 | [],[],_,_,_,_=>rfl
 | _::is,_::ts,_,_,_,h=>by let⟨_,_,h⟩:=zb h;exact congrArg (· + 1) (XC h)
 | [],_::_,_,_,_,h=>by cases h
 | _::_,[],_,_,_,h=>by cases h
def r8 (W:Wd)(is:Lc):TG:=mh W.K is.length (is.foldr (λi g=>Yd (vM i) g) lg)
def YN (R:Rep W F H s (.own t::Z) U (v::vs) O)(e:lE t=some ts)(e2:Xu is ts s Z=some (s',Y'))(q:∀ U',Rep W F H s' Y' U' vs O->Q U' H):r8 W is v U H Q:=by let⟨p,cs,rfl,h1,rfl,R2⟩:=R.untup e;refine⟨p,vals cs,rfl,h1,?_,XB R2 e2 q⟩;rw[<-XC e2,zt,ud,ud]
def PC (h:S5 W E (WS (.asg (.tup is) e)) D U H):fK (E5 W E e) (r8 W is) D U H:=by
 let⟨F,s,Z,vs,O,K4,D4,R,h,k⟩:=h;refine⟨F,s,Z,vs,O,_,_,R,h,λF' H' s' x Y' v R' h'=>?_,k.xk⟩;let⟨s2,V',e1,h2⟩:=zk h';cases x with
 | no=>cases e1
 | al _ _=>cases e1
 | own t=>let⟨ts,e2,e3⟩:=zb e1;exact YN R' e2 e3 λU' R2=>k.nx F' H' s2 V' U' R2 h2
def m5 (o i w:V)(H:Hp)(Q:Hp->Prop):Prop:=B8 o i w H Q\/∃ a H',o=.ref a/\iN H a i w H'/\Q H'
def S8 {X:Cx}(hu:X.A.units+64<cLine):nI X m5:=by
 intro Lk s U H o i v ov iv u Q I ro ri rv h;rcases h with h | ⟨a,H',rfl,g,q⟩
 ·exact set_list Lk s U H o i v ov iv u Q I ro ri rv h
 ·cases ro;exact zcF aB I g ri rv λs' I'=>⟨H',I',q⟩
theorem YO (hw:bY W F o w):∀ {xs:List T} {kvs:List (Key×V)},aH W F xs (kvs.map (·.2))->aH W F (((kvs.map (·.1)).zip xs).map λkv=>if kv.1=k then o else kv.2) ((kvs.map λkv=>if kv.1=k then(kv.1,w) else kv).map (·.2))
 | xs,[],h=>by rfl
 | [],_::_,h=>by cases h
 | x::xs,(k',v')::kvs,⟨v,r,e,h1,h2⟩=>by
  cases e;refine⟨_,_,rfl,?_,YO hw h2⟩;by_cases hk:k' = k
  ·simp only[uC hk];exact hw
  ·simp only[ux hk];exact h1
theorem YQ:∀ {xs:List T} {us vs:List V},aH W F xs us->aH W F ts vs->aH W F (xs++ts) (us++vs)
 | [],_,_,h,k=>by rw[show _=[] from h];exact k
 | _::_,_,_,⟨v,r,e,h1,h2⟩,k=>by subst e;exact⟨_,_,rfl,h1,YQ h2 k⟩
def PB {kvs:List (Key×V)}(e:kvs.map (·.1)=ks)(h:aH W F xs (kvs.map (·.2)))(hw:bY W F o w):(putK kvs k w).map (·.1)=(dput ks xs k o).1/\aH W F (dput ks xs k o).2 ((putK kvs k w).map (·.2)):=by
 subst e;have ea:(kvs.any λkv=>decide (kv.1=k))=(kvs.map (·.1)).any λk'=>decide (k' = k):=by rw[List.any_map];rfl
 unfold dput putK;rw[ea];split
 ·refine⟨?_,YO hw h⟩;rw[Uw];congr 1;funext kv;simp only[Function.comp];split<;>rfl
 ·rw[uF,uF];exact⟨rfl,YQ h ⟨w,[],rfl,hw,rfl⟩⟩
def RH (h:aI xs=true)(ho:shr o=true):aI (dput ks xs k o).2=true:=by
 unfold dput;split
 ·refine zZ.mpr λt ht=>?_;let⟨kv,h1,rfl⟩:=u9.mp ht;by_cases hk:kv.1=k
  ·rw[uC hk];exact ho
  ·rw[ux hk];exact zZ.mp h _ (GF h1).2
 ·refine zZ.mpr λt ht=>?_;rcases uo.mp ht with z | z
  ·exact zZ.mp h _ z
  ·rw[uy.mp z];exact ho
def dy (st:St W F H (.nd p k xs::c::Γ))(hk:OK W F H ck)(e:fm (.nd true k (aJ xs)) (era ck) (era c)=some t')(q:∀ H' k' us,St W F H' (.nd p k' us::Γ)->.nd true k' (aJ us)=t'->Q H'):m5 (.ref p) (val ck) (val c) H Q:=by
 let⟨⟨o,h1,h2⟩,h3⟩:=st.ok.1;cases k with
 | ob c fs=>cases e
 | ls=>
  let⟨i,e1,e⟩:=zb e;let⟨j,e2,e⟩:=zb e;let⟨ys,e3,e⟩:=zb e;cases e;cases h2;let⟨l,rfl⟩:=ZK e3;have l':j<xs.length:=by rw[zt,ud] at l;exact l
  have el:(vals xs).length=(aJ xs).length:=by rw[zt,ud,ud]
  refine .inl ⟨p,vals xs,i,j,rfl,zE hk e1,h1,by rw[el];exact e2,?_⟩;have pm:=ZL (y:=c) (uz l');have st2:St W F H (.nd p .ls xs::([c]++Γ)):=st;have:=st2.mut (k':=.ls) (o:=.lst ((vals xs).set j (val c))) (zs:=xs.set j c) (ws:=[xs[j]]) pm.symm (by show HO.lst _=.lst _;rw[vals,vals,GC]);refine q _ .ls (xs.set j c) ?_ (by rw[zt,zt,GC]);exact(this.perm ja).tail
 | dc ks=>let⟨key,e1,e⟩:=zb e;let⟨⟨hl,hs⟩,e⟩:=z7 e;cases e;let⟨sx,so⟩:=Ui.mp hs;let⟨kvs,rfl,rfl,e3⟩:=h2;have iv:=(h3.leaf sx).2;have ic:=(st.ok.2.1.leaf so).2;rw[<-e3] at iv;let⟨f1,f2⟩:=PB (k:=key) rfl iv ic;have hk':=Aw hk e1;refine .inr ⟨p,_,rfl,.inl ⟨kvs,key,h1,hk',by rw[uD];rw[ud] at hl;exact hl,rfl⟩,?_⟩;have st0:St W F H (.nd p (.dc (kvs.map (·.1))) xs::Γ):=(st.perm ja).tail;let⟨k4,k5,k6⟩:=st0.aN f2 (RH sx so);have iP:=k4.perm (uT:(aN _ _++AT.nd p (.dc (kvs.map (·.1))) xs::Γ).Perm (AT.nd p (.dc (kvs.map (·.1))) xs::(aN _ _++Γ)));have st2:=iP.mut (k':=.dc (dput (kvs.map (·.1)) (aJ xs) key (era c)).1) (o:=.dK (putK kvs key (val c))) (zs:=aN _ _) (ws:=xs) uL ⟨_,rfl,f1,k6.symm⟩;refine q _ _ _ ?_ (by rw[k5]);exact(st2.perm (uT.symm:(AT.nd p _ _::(xs++Γ)).Perm (xs++AT.nd p _ _::Γ))).right
def MQ (h:S5 W E (WS (.asg (.sub p k) e)) D U H):fK (E5 W E e) (rZ (E5 W E p) (E5 W E k) m5) D U H:=by
 let⟨F,s,Z,vs,O,K4,D4,R,h,ko⟩:=h;refine⟨F,s,Z,vs,O,_,_,R,h,λF1 H1 s1 x1 W' v1 R1 h1=>?_,ko.xk⟩;refine⟨F1,s1,_,_,O,_,_,R1,h1,λF2 H2 s2 x2 V' v2 R2 h2=>?_,ko.xk.app [v1]⟩;refine⟨F2,s2,_,_,O,_,_,R2,h2,λF3 H3 s3 x3 T8 v3 R3 h3=>?_,ko.xk.app [v2,v1]⟩;let⟨s4,T7,e1,h4⟩:=zk h3
 match T8,e1 with
 | .al i q::.own o::T6,e1=>
  let⟨kt,e2,e1a⟩:=zb e1;let⟨t,e3,e1b⟩:=zb e1a;let⟨t',e4,e1c⟩:=zb e1b;clear e1 e1a e1b;let⟨as,bs,Rp⟩:=id R3;let⟨ck,k1,rfl,rfl⟩:=Rp.res e2;let⟨as,bs,Rq⟩:=R3.pop;let⟨u,bs',rfl,hu,et,rfl,st,_⟩:=id (Rq.place e3);let⟨_,bs2,e0,_,_,Rq'⟩:=Rq.uncons;cases e0;let⟨b,bs3,rfl,m,st',Rr⟩:=Rq'.uncons;let⟨eb,evb⟩:=m;cases evb;cases u with
  | lf t0 v0=>
   have hs:=st.ok.1.1;rw[show t0=t from et] at hs;cases t with
   | nd o' k' xs'=>
    cases o'
    ·cases k'<;>cases e4
    ·cases hs
   | _=>cases e4
  | tp pa ys=>cases et;cases e4
  | nd pa kk ys=>cases et;have st2:St W F3 H3 (.nd pa kk ys::b::(bJ i q as (hole (.nd pa kk ys))++(bs3++O))):=st.perm (List.Perm.cons _ (by exact uT));have hkk:OK W F3 H3 ck:=k1;refine dy st2 hkk (by rw[eb];exact e4) λH' k' us st3 et=>?_;let⟨n1,n2⟩:=Qt (w:=.nd pa k' us) Rr.ls Rr.ts hu rfl (by rw[show era (.nd pa k' us)=_ from et];exact e1c);let⟨g1,g2⟩:=yX (w:=hole (.nd pa kk ys)) hu;have:=st3.mL g1 rfl rfl;rw[g2] at this;exact ko.nx F3 H' s4 T7 U ⟨_,bs3,this,n1,n2⟩ h4
theorem YR:∀ {fs:Lh} {xs:List AT} {r:Lh×List T},YA fs (aJ xs) f (era c)=some r->∃ zs ws,aJ zs=r.2/\(xs++[c]).Perm (zs++ws)/\∀ kvs:List (Str×V),kvs.map (·.1)=fs->kvs.map (·.2)=vals xs->(cF f (val c) kvs).map (·.1)=r.1/\(cF f (val c) kvs).map (·.2)=vals zs
 | [],[],r,h=>by
  cases h;refine⟨[c],[],rfl,List.Perm.refl _,λkvs h1 _=>?_⟩;cases kvs with
  | nil=>exact⟨rfl,rfl⟩
  | cons _ _=>cases h1
 | [],_::_,r,h=>by cases h
 | _::_,[],r,h=>by cases h
 | g::fs,x::xs,r,h=>by
  have h:cond (decide (g=f)) (some (g::fs,era c::aJ xs)) ((YA fs (aJ xs) f (era c)).bind λr=>some (g::r.1,era x::r.2))=some r:=h;cases hd:decide (g=f) with
  | true=>
   rw[hd] at h;cases h;refine⟨c::xs,[x],rfl,(uL (l₁:=x::xs) (l₂:=[c])).trans ((uL (l₁:=[x]) (l₂:=xs)).cons c),λkvs h1 h2=>?_⟩;cases kvs with
   | nil=>cases h1
   | cons a kvs=>simp only[uA,Hr,vals] at h1 h2;let⟨g',v'⟩:=a;have eg:g' = g:=h1.1;subst eg;simp only[cF,uC (uq hd),uA,vals,h1.2,h2.2,and_self]
  | false=>
   rw[hd] at h;let⟨r',e,h⟩:=zb h;cases h;let⟨zs,ws,k1,k2,k3⟩:=YR e;refine⟨x::zs,ws,by rw[aJ,k1],k2.cons x,λkvs h1 h2=>?_⟩;cases kvs with
   | nil=>cases h1
   | cons a kvs=>simp only[uA,Hr,vals] at h1 h2;let⟨g',v'⟩:=a;let⟨f1,f2⟩:=k3 kvs h1.2 h2.2;have eg:g' = g:=h1.1;subst eg;simp only[cF,ux (uN hd),uA,vals];exact⟨by rw[f1],by rw[f2,<-h2.1]⟩
def RG (h:nk t c f o=some t'):∃ fs xs r,t=.nd true (.ob c fs) xs/\fs.length<1000/\YA fs xs f o=some r/\t' = .nd true (.ob c r.1) r.2:=by
 unfold nk at h;split at h
 ·split at h
  ·rename_i hc;let⟨rfl,hl⟩:=hc;let⟨r,e,h⟩:=zb h;cases h;exact⟨_,_,r,rfl,hl,e,rfl⟩
  ·cases h
 ·cases h
def MP (hc:dU W.K (W.cl c))(hna:qT W.K (W.cl c) f)(h:S5 W E (WS (.asg (.fld p c f) e)) D U H):pW W.K (E5 W E p) (E5 W E e) f D U H:=by
 let⟨F,s,Z,vs,O,K4,D4,R,h,ko⟩:=h;refine⟨F,s,Z,vs,O,_,_,R,h,λF1 H1 s1 x1 W' v1 R1 h1=>?_,ko.xk⟩;refine⟨F1,s1,_,_,O,_,_,R1,h1,λF2 H2 s2 x2 V' v2 R2 h2=>?_,ko.xk.app [v1]⟩;let⟨s4,T7,e1,h4⟩:=zk h2
 match x2,V',e1 with
 | .al i q,.own o::T6,e1=>
  let⟨t,e3,e1a⟩:=zb e1;let⟨t',e4,e1c⟩:=zb e1a;clear e1 e1a;let⟨fs,xs,r,rfl,hl,e5,rfl⟩:=RG e4;let⟨as,bs,Rq⟩:=R2;let⟨u,bs',rfl,hu,et,rfl,st,_⟩:=id (Rq.place e3);let⟨_,bs2,e0,_,_,Rq'⟩:=Rq.uncons;cases e0;let⟨b,bs3,rfl,m,st',Rr⟩:=Rq'.uncons;let⟨eb,evb⟩:=m;cases evb;cases u with
  | lf t0 v0=>have hs:=st.ok.1.1;rw[show t0=_ from et] at hs;cases hs
  | tp pa ys=>cases et
  | nd pa kk ys=>cases et;rw[<-eb] at e5;let⟨zs,ws,k1,k2,k3⟩:=YR e5;let⟨⟨oo,h1',dx,kvs,rfl,h5,h6⟩,_⟩:=st.ok.1;let⟨f1,f2⟩:=k3 kvs h5 h6;have st2:St W F2 H2 (.nd pa (.ob c fs) ys::([b]++(bJ i q as (hole (.nd pa (.ob c fs) ys))++(bs3++O)))):=st.perm (List.Perm.cons _ (by exact uT));have st3:=st2.mut (k':=.ob c r.1) (o:=.ins (W.cl c) dx (cF f (val b) kvs)) k2 ⟨dx,_,rfl,f1,f2⟩;have st4:=(st3.perm (uT.symm:(AT.nd pa _ _::(ws++_)).Perm (ws++AT.nd pa _ _::_))).right;let⟨n1,n2⟩:=Qt (w:=.nd pa (.ob c r.1) zs) Rr.ls Rr.ts hu rfl (by rw[show era (.nd pa (.ob c r.1) zs)=.nd true (.ob c r.1) r.2 by rw[era,k1]];exact e1c);let⟨g1,g2⟩:=yX (w:=hole (.nd pa (.ob c fs) ys)) hu;have:=st4.mL g1 rfl rfl;rw[g2] at this;refine⟨pa,_,dx,kvs,rfl,h1',hc,hna,by rw[<-ud (f:=(·.1)),h5];exact hl,?_⟩;exact ko.nx F2 _ s4 T7 U ⟨_,bs3,this,n1,n2⟩ h4
end
variable {W:Wd} {E:XS} {F H:Hp} {s Z:Sl} {U:L2.St} {vs:List V} {O:List AT} {K K4:KP} {X4:XP} {D:L2.Ends} {D4:Ends}
noncomputable def lB:Op->Int->Int->Int
 | .sub=>λi j=>i - j
 | _=>λi j=>i+j
def C2 (ho:o=.add\/o=.sub)(h:S5 W E (WS (.aug i o e)) D U H):pN i (E5 W E e) (tK (lB o)) D U H:=by
 let⟨F,s,Z,vs,O,K4,D4,R,h,ko⟩:=h;let⟨x,e1,h⟩:=zC h;let⟨t,e2,h⟩:=zC h;let⟨n,e3,h⟩:=zC h;let⟨v,k1,R1⟩:=R.rd e1;refine⟨v,k1,F,s,_,_,O,_,_,R1,h,λF' H' s' y Y' u R' h'=>?_,ko.xk.app [v]⟩;let⟨ts,V',e4,h2⟩:=zk h';let⟨z,e5,h3⟩:=zC h2;let⟨m,e6,h4⟩:=zC h3;let⟨s3,T8,e7,h5⟩:=zk h4;clear h' h2 h3 h4;cases Y' with
 | nil=>let⟨_,_,e⟩:=zb e4;cases e
 | cons y0 Y'=>
  let⟨A,B,rfl,rfl,rfl,hc,rfl⟩:=ZR R' e4;have fin:∀ {a b:Int},aY (era A)=some a->aY (era B)=some b->z=.int (lB o a b)->tK (lB o) (val A) (val B) H' λz H2=>D.nx (U.set i (some z)) H2:=λ{a b} ea eb ez=>by subst ez;refine⟨a,b,zE hc.1 ea,zE hc.2.1 eb,?_⟩;exact ko.nx F' H' s3 T8 _ ((R'.pop.pop.leaf (t:=.int (lB o a b)) (v:=.int (lB o a b)) rfl rfl).setTop e7) h5
  rcases ho with rfl | rfl
  ·have e5:m8 [era A,era B]=some z:=e5;rcases zM e5 with e5 | e5
   ·let⟨a,b,ea,eb,ez⟩:=zG e5;exact fin ea eb (uQ ez).symm
   ·exfalso;cases z<;>first | cases e6 | skip
    rcases zM e5 with e5 | e5
    ·let⟨_,_,_,_,ez⟩:=zG e5;let⟨_,ez⟩:=z7 ez;cases ez
    ·rcases zM e5 with e5 | e5
     ·let⟨_,_,_,_,ez⟩:=zG e5;let⟨_,ez⟩:=z7 ez;cases ez
     ·let⟨_,_,_,_,ez⟩:=zG e5;let⟨_,ez⟩:=z7 ez;cases ez
  ·have e5:fv _ [era A,era B]=some z:=e5;let⟨a,b,ea,eb,ez⟩:=zG e5;exact fin ea eb (uQ ez).symm
def KO.whole {D5:Ends}{D':L2.Ends}(ko:KO W E vs O K4 D4 D)(l:YM o us vs vs')(nx:∀ F' H' s' Y' U',Rep W F' H' s' Y' U' vs' (us++O)->K5 s' Y'->D'.nx U' H')(ct:∀ F' H' s' Y' U',Rep W F' H' s' Y' U' vs' (us++O)->D5.ct s' Y'->D'.ct U' H') (e1:D5.rt=λr s Z=>aK (ir o s Z) (D4.rt r)) (e2:D5.bk=λs Z=>aK (ir o s Z) K4) (e3:D5.ex=D4.ex) (e4:D'.rt=D.rt) (e5:D'.bk=D.nx):KO W E vs' (us++O) K5 D5 D':=by
 refine⟨nx,λF' H' s' Y' U' t v R h=>?_,λF' H' s' Y' U' R h=>?_,ct,λx F' H' s' Y' U' ws c d R hx h=>?_⟩
 ·rw[e1] at h;rw[e4];let⟨s2,V',e,h⟩:=zk h;let⟨b,rfl,rfl,_,R2⟩:=R.opened;let⟨Γ,st,back⟩:=R2.all;have R3:Rep W F' H' s' Y' U' vs' (us++(b::O)):=back (st.perm (gH _ uT.symm));exact ko.rt F' H' s2 V' U' _ _ (R3.unlend l e).push h
 ·rw[e2] at h;rw[e5];let⟨s2,V',e,h⟩:=zk h;exact ko.nx F' H' s2 V' U' (R.unlend l e) h
 ·rw[e3] at h;rcases l with⟨rfl,rfl⟩ | ⟨u,rfl,rfl,rfl⟩
  ·exact ko.ex x F' H' s' Y' U' ws c d R.dropG hx h
  ·exact ko.ex x F' H' s' Y' U' (ws++[val u]) c d (by rw[ue];exact R.dropG) hx h
def AZ (W:Wd):Tg->TG
 | .v i=>vM i
 | .tup is=>r8 W is
 | _=>λ_ _ _ _=>False
def RF (R:Rep W F H s Z U vs O)(hs:shr d=true)(hd:bY W F d x)(h:sP t d s Z K)(q:∀ s' Y' U',Rep W F H s' Y' U' vs O->K s' Y'->Q U' H):AZ W t x U H Q:=by
 cases t with
 | v i=>let⟨s',Y',e,h⟩:=zk h;exact q s' Y' _ ((R.leaf hs hd).setTop e) h
 | tup is=>let⟨ds,e1,h⟩:=zC h;let⟨s',Y',e,h⟩:=zk h;exact YN (R.leaf hs hd) e1 e λU' R'=>q s' Y' U' R' h
 | sub _ _=>exact h.elim
 | fld _ _ _=>exact h.elim
def RE (h:S5 W E (WS (.loop t k its b)) D U H):pI (I5 W E k its) (AZ W t) (S5 W E (bN b)) D U H:=by
 let⟨F,s,Z,vs,O,K4,D4,R,h,ko⟩:=h;refine⟨F,s,Z,vs,O,_,_,R,h,λds o s1 W' F1 H1 J us vs' it lv R1 h1=>?_,ko.xk⟩
 let I:Nat->Nat->L2.St->Hp->Prop:=λi m U' H'=>m=ds.length - i/\i<=ds.length/\∃ F' s' Y',Rep W F' H' s' Y' U' vs' (us++O)/\Qv t o (bN b) K4 D4 (ds.drop i) s' Y';refine⟨I,⟨ds.length,aB,u4 _,F1,s1,W',R1,h1⟩,λi m U' H' hI=>?_⟩;let⟨rfl,hle,F',s',Y',R2,hp⟩:=hI;let⟨Γ,st,back⟩:=id R2.all;have oku:bL W F' H' us:=by rw[ue] at st;exact st.left
 by_cases hlt:i<ds.length
 ·refine .inr ⟨it.go i F' H' hlt st.fh oku,I (i+1) (ds.length - (i+1)),λT4 H2 z=>⟨_,aB,z⟩,λx H2 y=>?_⟩;let⟨d,ed,hd⟩:=it.yld i F' H' x H2 hlt st.fh oku y;let⟨F2,st2,iv⟩:=hd _ st;have R3:Rep W F2 H2 s' Y' U' vs' (us++O):=back st2;have edr:ds.drop i=d::ds.drop (i+1):=by rw[UR hlt];rw[uz hlt] at ed;cases ed;rfl
  rw[edr] at hp;refine RF R3 (zZ.mp it.sh d (uR ed)) iv hp λs4 T7 σ4 R4 h4=>⟨F2,s4,T7,vs',us++O,_,_,R4,h4,ko.whole lv (λF5 H5 s5 T6 TH R5 h5=>?_) (λF5 H5 s5 T6 TH R5 h5=>?_) rfl rfl rfl rfl rfl⟩
  ·exact⟨rfl,aB,F5,s5,T6,R5,h5⟩
  ·exact⟨rfl,aB,F5,s5,T6,R5,h5⟩
 ·have hi':i=ds.length:=aB
  subst hi';rw[Hi] at hp;let⟨s4,T7,e4,h4⟩:=zk hp;exact .inl ⟨it.stop F' H' st.fh oku,ko.nx F' H' s4 T7 U' (R2.unlend lv e4) h4⟩
def MO (h:S5 W E (WS (.whl t b)) D U H):DG (T5 W E t) (S5 W E (bN b)) D U H:=by
 let⟨F,s,Z,vs,O,K4,D4,R,⟨m0,h⟩,ko⟩:=h
 let I:Nat->L2.St->Hp->Prop:=λm U' H'=>∃ F' s' Y',Rep W F' H' s' Y' U' vs O/\Xv (λs Z K=>WT t s Z K D4.ex) (bN b) K4 D4 m s' Y';refine⟨I,⟨m0,F,s,Z,R,h⟩,λm U' H' hI=>?_⟩;let⟨F',s',Y',R2,hp⟩:=hI;cases m with
 | zero=>exact hp.elim
 | succ m=>
  refine⟨F',s',Y',vs,O,_,_,R2,hp,λz F1 H1 s1 W' R3 h3=>?_,ko.xk⟩;rcases wu h3 with⟨rfl,h3⟩ | ⟨rfl,h3⟩
  ·rw[uC rfl];exact⟨I m,λT4 H2 z=>⟨m,gp m,z⟩,F1,s1,W',vs,O,_,_,R3,h3,λF5 H5 s5 T6 TH R5 h5=>⟨F5,s5,T6,R5,h5⟩,ko.rt,ko.nx,λF5 H5 s5 T6 TH R5 h5=>⟨F5,s5,T6,R5,h5⟩,ko.ex⟩
  ·rw[ux aA];exact ko.nx F1 H1 s1 W' U' R3 h3
end
variable {W:Wd} {E:XS} {F H:Hp} {s Z:Sl} {U:L2.St} {vs:List V} {O:List AT} {K K4:KP} {X4:XP} {D:L2.Ends} {D4:Ends} {Q:VK} {v:V}
def Cr (hb:OK W F H b)(e:era b=.xo c fs ts):∃ p kvs,val b=.ref p/\fg W.K F p (W.cl c) kvs/\kvs.map (·.1)=fs/\aI ts=true/\aH W F ts (kvs.map (·.2)):=by
 cases b with
 | lf t v=>cases e;exact hb.2
 | tp _ _=>cases e
 | nd _ _ _=>cases e
def MN (hn:∀ c∈cs,PySem.W.findIn W.K (.ref (W.cl c)) f=some none)(h:E5 W E (.atX a f cs) U H Q):pO W.K (E5 W E a) f U H Q:=by
 let⟨F,s,Z,vs,O,K,X4,R,h,q,x⟩:=h;refine⟨F,s,Z,vs,O,_,X4,R,h,λF1 H1 s1 y W' v1 R1 h1=>?_,x⟩;let⟨T8,e,h3⟩:=zC h1
 obtain⟨c,fs,ts,rfl⟩:∃ c fs ts,y=.own (.xo c fs ts):=by
  cases y with
  | own t=>cases t<;>first | exact zj e | exact⟨_,_,_,rfl⟩
  | _=>exact zj e
 ·have e:cond (cs.contains c) ((fs.findIdx? λg=>decide (g=f)).bind λn=>(ts[n]?).bind λu=>some (Slot.own u::W')) none=some T8:=e;cases cc:cs.contains c with
  | false=>rw[cc] at e;cases e
  | true=>
   rw[cc] at e;let⟨n,e1,e⟩:=zb e;let⟨u,e2,e⟩:=zb e;cases e;let⟨b,eb,rfl,hb,_⟩:=R1.opened;let⟨p,kvs,g1,g2,rfl,g4,g5⟩:=Cr hb eb;let⟨w,w1,w2⟩:=g5.get e2;rcases g2.ex with⟨d,c1,c2⟩ | ⟨rfl,_⟩
   ·exact⟨p,_,kvs,w,g1,⟨g2.cl,d,c1.mono R1.fh,R1.fh _ _ c2⟩,hn c (by simpa using cc),YI e1 w1,q F1 H1 s1 _ _ _ (R1.pop.leaf (zZ.mp g4 _ (uR e2)) w2) h3⟩
   ·cases e1
def MM {tb:List (Nat×Bool)}(h:tb.lookup c=some b):(c,b)∈tb:=by
 induction tb with
 | nil=>cases h
 | cons p tb ih=>
  let⟨k,z⟩:=p;rw[Ul] at h;split at h
  ·rename_i e;cases h;rw[eq_of_beq e];exact ug
  ·exact uk _ (ih h)
def C1 (h:rN W (iI tb) [v] H Q):∃ F a c b kvs Γ,v=.ref a/\fg W.K F a (W.cl c) kvs/\aM F H/\(c,b)∈tb/\St W F H Γ/\∀ F' H',St W F' H' Γ->Q (.bl b) H':=by
 let⟨F,a,Γ,z,g,ha,rfl,e,st,q⟩:=YE h;have:∃ c fs ts,era a=.xo c fs ts:=by cases h':era a<;>rw[h'] at e<;>first | exact⟨_,_,_,rfl⟩ | cases e
 let⟨c,fs,ts,ea⟩:=this;rw[ea] at e;let⟨b,e1,e⟩:=zb e;cases e;let⟨p,kvs,g1,g2,_⟩:=Cr ha ea;exact⟨F,p,c,b,kvs,Γ,g1,g2,g,MM e1,st,λF' H' st'=>q F' H' (.lf (.bl b) (.bl b)) (st'.leaf rfl rfl) rfl⟩
def Du (hu:rT u=true)(hk:∀ p∈tb,PySem.W.kitOne W.K (.ref (W.cl p.1)) (lz u)=some p.2)(h:rN W (iI tb) [v] H Q):CI W.K [v,u] H Q:=by let⟨F,a,c,b,kvs,Γ,rfl,g,f,m,st,q⟩:=C1 h;exact⟨a,u,_,kvs,b,rfl,g.mono f,hu,hk _ m,q F H st⟩
def RD {Cs:Ld}(hk:∀ p∈tb,PySem.W.kitAny W.K (.ref (W.cl p.1)) (Cs.map Value.ref)=some p.2)(h:rN W (iI tb) [v] H Q):∀ p,H p=none->DK W.K [v,.ref p] (upd H p (.tup (Cs.map V.ref))) Q:=λp hp=>by
 let⟨F,a,c,b,kvs,Γ,rfl,g,f,m,st,q⟩:=C1 h;refine⟨a,p,_,kvs,_,b,rfl,zI,(g.mono f).mono (jO hp),?_,?_,q F _ (st.alloc hp)⟩
 ·rw[List.all_map];exact Gv.mpr λ_ _=>rfl
 ·rw[Uw];exact hk _ m
def d9 (any:Bool):V->Prop:=λv=>any=true\/rf v
def RC (h:m6 any t=some u):shr t=true/\∀ {F:Hp} {v:V},bY W F t v->d9 any v:=by
 cases any with
 | true=>
  refine⟨?_,λ_=>.inl rfl⟩;cases t<;>first | rfl | (rename_i a b c;cases a<;>first | rfl | cases h) | skip
  rename_i xs;have h:cond (true&&shr (.tp xs)) (some ()) none=some u:=h;cases z:shr (.tp xs) with
  | true=>rfl
  | false=>rw[z] at h;cases h
 | false=>
  cases t with
  | int n=>have h1:=MB (Ay (show cond (iQ n) (some ()) none=some u from h)).1;exact⟨rfl,λ{F v} hv=>.inr (.inl ⟨n,hv,h1.1,h1.2⟩)⟩
  | str l=>let⟨h1,_⟩:=z7 (show(if l.length<=1000000 then some () else none)=some u from h);exact⟨rfl,λ{F v} hv=>.inr (.inr ⟨S l,hv.1,by show(S l).length<=_;rw[qL];exact h1⟩)⟩
  | _=>cases h
def Rep.toX (R:Rep W F H s Z U vs O)(g:aM H H2)(hn:H d=none)(e:H2 d=some o):Rep W (upd F d o) H2 s Z U vs O:=by
 let⟨Γ,st,back⟩:=R.all;refine back (st.ext (jO (xO st.fh hn)) (λb u z=>?_) (λb hb x z=>g _ _ z) λb hb=>?_)
 ·by_cases hb:b=d
  ·subst hb;rw[zI] at z;rw[e];exact z
  ·rw[zp hb] at z;exact g _ _ (st.fh _ _ z)
 ·rw[zp λz:b=d=>st.none hn (z ▸ hb)];exact st.fr b hb
def Tt (h:S5 W E (WS (.raise c x f any e)) D U H):DL (W.cl c) f (d9 any) E (A5 W E [e]) D U H:=by
 let⟨F,s,Z,vs,O,K4,D4,R,h,k⟩:=h;refine⟨F,s,Z,vs,O,_,D4.ex,R,h,λF' H' s' Y' us hl R' h'=>?_,k.xk⟩;let⟨t,V',e1,h1⟩:=zk (o:=iZ Y') (Q:=λt V'=>bG (m6 any t) λ_=>D4.ex ⟨c,[f],[t]⟩ s' V') h';let⟨u,e2,h2⟩:=zC h1
 match us,hl with
 | [v],_=>
  match Y',e1 with
  | .own _::_,e1=>cases e1;let⟨b,eb,rfl,hb,_⟩:=R'.opened;let⟨s1,p1⟩:=RC (W:=W) e2;have iv:=(hb.leaf (by rw[eb];exact s1)).2;rw[eb] at iv;refine⟨val b,rfl,p1 iv,λd H2 g hn hd=>?_⟩;have R2:=R'.pop.toX g hn hd;refine k.ex ⟨c,[f],[t]⟩ _ H2 s' _ U [] _ _ R2 ⟨rfl,.inl ⟨d,[(f,val b)],rfl,zI,rfl,by show(shr t&&true)=true;rw[s1];rfl,_,_,rfl,?_,rfl⟩⟩ h2;exact iv.mono (jO (xO R'.fh hn))
def zcT (h:S5 W E (WS (.raise0 c x e)) D U H):Ec (W.cl c) E (A5 W E [e]) D U H:=by
 let⟨F,s,Z,vs,O,K4,D4,R,h,k⟩:=h;refine⟨F,s,Z,vs,O,_,D4.ex,R,h,λF' H' s' Y' us hl R' h'=>?_,k.xk⟩;let⟨V',e1,h1⟩:=zC h'
 match us,hl with
 | [v],_=>
  match Y',e1 with
  | _::_,e1=>cases e1;exact⟨uj _,k.ex ⟨c,[],[]⟩ _ H' s' _ U [] _ _ R'.pop ⟨rfl,.inr ⟨rfl,rfl,rfl⟩⟩ h1⟩
theorem St.nils (h:St W F H O):∀ n:Nat,St W F H (List.replicate n bB++O)
 | 0=>h
 | n+1=>(h.nils n).nil
def Rep.dropW {ws:List V}(R:Rep W F H s Z U (ws++vs) O){n:Nat}(hn:n=vs.length):Rep W F H s (Z.drop (Z.length - n)) U vs O:=by
 let⟨as,bs,R⟩:=R;have l:=R.ts.len;rw[ud,ub] at l;have e:Z.length - n=ws.length:=aB
 rw[e];have m:=R.ts.drop ws.length;rw[uF,gR (by rw[ud];exact uj _),show(ws.map some).drop ws.length=[] from U6 (by rw[ud];exact uj _),UH] at m;refine⟨as,bs.drop ws.length,?_,R.ls,m⟩;have st:=R.st;rw[<-UQ ws.length bs,ue] at st;exact(st.perm (gW _ _ _)).right
theorem EA:∀ {Z Y':Sl} {ρ:List (Option V)} {bs:List AT},Ms as Z ρ bs->aT CA Z=some Y'->Ms (List.replicate n bB) Y' ρ bs
 | [],_,_,_,h,e=>by cases e;exact h
 | x::Z,Y',_,_,⟨o,ρ,a,cs,e1,e2,h1,h2⟩,e=>by
  let⟨y,ys,k1,k2,k⟩:=zG e;cases k;refine⟨o,ρ,a,cs,e1,e2,?_,EA h2 k2⟩;cases x with
  | no=>cases k1;exact h1
  | own t=>cases k1;exact h1
  | al j q=>cases k1;exact h1.1
theorem Cq:∀ (n:Nat),Ms as (List.replicate n .no) (List.replicate n none) (List.replicate n bB)
 | 0=>⟨rfl,rfl⟩
 | n+1=>⟨_,_,_,_,rfl,rfl,rfl,Cq n⟩
def Rep.lost (R:Rep W F H s Z U vs O)(e:YC s Z=some (s',Y')):Rep W F H s' Y' (U.map λ_=>none) vs O:=by let⟨as,bs,R⟩:=R;let⟨W',e1,e⟩:=zb e;cases e;have l:=R.ls.len.1;refine⟨List.replicate s.length bB,bs,R.st.right.nils _,?_,EA R.ts e1⟩;rw[show(s.map λ_=>Slot.no)=List.replicate s.length .no from List.map_const' ..,show(U.map λ_=>(none:Option V))=List.replicate s.length none by rw[List.map_const',l]];exact Cq _
def Rep.caught {x:d5}(R:Rep W F H s Z U vs O)(g:aM H H2)(ct:vE H2 a C d)(cl:dw W.K C)(hx:t7 W F x (.ref C) d):∃ F2,Rep W F2 H2 s (.own (.xo x.c x.fs x.ts)::Z) U (.ref a::vs) O:=by
 let⟨hc,hx⟩:=hx;cases hc;let⟨o,e,r⟩:=ct;let⟨Γ,st,back⟩:=R.all
 have gf:aM F (upd F a (.aV o (.own a))):=λb u z=>by
  by_cases hb:b=a
  ·subst hb;have:=g _ _ (st.fh _ _ z);rw[e] at this;rw[zI];exact this
  ·rw[zp hb];exact z
 refine⟨upd F a (.aV o (.own a)),(back (F':=upd F a (.aV o (.own a))) (H':=H2) (st.ext gf (λb u z=>?_) (λb hb x z=>g _ _ z) λb hb=>?_)).leaf rfl ?_⟩
 ·by_cases hb:b=a
  ·subst hb;rw[zI] at z;rw[e];exact z
  ·rw[zp hb] at z;exact g _ _ (st.fh _ _ z)
 ·by_cases z:b=a
  ·subst z;let⟨u,hu⟩:=st.ok.cell _ hb;have h2:=g _ _ hu;rw[e] at h2;cases h2;exact absurd hu (st.ok.iu _ hb _ _)
  ·rw[zp z];exact st.fr b hb
 ·have ct':vE (upd F a (.aV o (.own a))) a (W.cl x.c) d:=⟨o,zI,r⟩
  rcases hx with⟨dd,kvs,rfl,h1,h2,h3,h4⟩ | ⟨rfl,h1,h2⟩
  ·exact⟨a,kvs,rfl,⟨cl,.inl ⟨dd,ct',gf _ _ h1⟩⟩,h2,h3,h4.mono gf⟩
  ·refine⟨a,[],rfl,⟨cl,.inr ⟨rfl,ct'⟩⟩,by rw[h1];rfl,by rw[h2];rfl,by rw[h2];rfl⟩
def ML {x:Str}{i:Nat}{mt:Lc}{b hd:List Cm}{Dc:Addr}(hm:∀ c∈mt,dw W.K (W.cl c)/\PySem.W.mroIn W.K (W.cl c) (.ref Dc)=some true)(h:S5 W E (WS (.tri x i mt b hd)) D U H):pB W.K Dc i (λE'=>S5 W E' (bN b)) (S5 W (λ_ _ _ _=>False) (bN hd)) D U H:=by
 let⟨F,s,Z,vs,O,K4,D4,R,h,k⟩:=h;refine⟨F,s,Z,vs,O,K4,_,R,h,k.nx,k.rt,k.bk,k.ct,λx F' H' s' Y' U' ws c d R' hx h'=>?_⟩;let⟨h1,h2⟩:=h';let⟨s2,V',e1,h2⟩:=zk h2;let⟨m1,m2⟩:=hm x.c (by simpa using h1);have hc:=hx.1;subst hc;refine⟨W.cl x.c,rfl,m1,m2,λea H2 g ct=>?_⟩;have lt:Z.length=vs.length:=by let⟨as,bs,R⟩:=R;have:=R.ts.len.1;rw[ud] at this;exact this.symm
 let⟨F2,R2⟩:=(R'.dropW lt).caught g ct m1 hx;have R3:=R2.setTop (i:=i) (show setTop i s' (.own (.xo x.c x.fs x.ts)::_)=some (s2,V') from e1);have fin:∀ {K:KP} {P:L2.St->Hp->Prop},(∀ F' H' s' Y' U',Rep W F' H' s' Y' U' vs O->K s' Y'->P U' H')->∀ F' H' s' Y' U',Rep W F' H' s' Y' U' vs O->aK (YC s' Y') K->P (U'.map λ_=>none) H':=λq F' H' s' Y' U' R h=>by let⟨s3,T8,e,h⟩:=zk h;exact q _ _ _ _ _ (R.lost e) h
 exact⟨F2,s2,V',vs,O,_,_,R3,h2,fin k.nx,k.rt,fin k.bk,fin k.ct,λ_ _ _ _ _ _ _ _ _ _ _ z=>z.elim⟩
end
variable {W:Wd} {F H:Hp} {Γ:List AT} {Q:VK}
end
def sv:T->Const->Bool
 | .non,.none=>true
 | .bl b,.bool c=>b == c
 | .int i,.int j=>i == j
 | .str t,.str x=>decide (x=S t)&&decide (t.length<=16777216)
 | _,_=>false
noncomputable def eName:Expr->Option Str
 | .Name x _=>some x
 | _=>none
noncomputable def sj:Expr->Option (Const×Nat×Pos)
 | .Constant k j p=>some (k,j,p)
 | _=>none
noncomputable def sm:Expr->Option (Expr×Operator×Expr)
 | .BinOp a o b _=>some (a,o,b)
 | _=>none
noncomputable def tQ:Expr->Option (UnaryOp×Expr)
 | .UnaryOp o a _=>some (o,a)
 | _=>none
def ml:Expr->Option (Expr×List CmpOp×Lg)
 | .Compare a os bs _=>some (a,os,bs)
 | _=>none
def BH:Expr->Option (BoolOp×Lg)
 | .BoolOp o es _=>some (o,es)
 | _=>none
noncomputable def Fz:Expr->Option (Expr×Expr×Expr)
 | .IfExp t a b _=>some (t,a,b)
 | _=>none
def si:Expr->Option Lg
 | .List es _=>some es
 | _=>none
def eY:Expr->Option Lg
 | .Tuple es _ _=>some es
 | _=>none
noncomputable def mj:Expr->Option (Expr×Expr)
 | .Subscript a b _=>some (a,b)
 | _=>none
noncomputable def se:Expr->Option (Option Expr×Option Expr×Option Expr)
 | .Slice a b c _=>some (a,b,c)
 | _=>none
def Aj:Expr->Option (Expr×Lg×List Keyword×Pos)
 | .Call f es ks p=>some (f,es,ks,p)
 | _=>none
noncomputable def lp:Expr->Option (Expr×Str×Pos)
 | .Attribute e x p=>some (e,x,p)
 | _=>none
noncomputable def Fy:Expr->Option (Expr×List Comprehension×Scope)
 | .ListComp e gs sc _=>some (e,gs,sc)
 | _=>none
noncomputable def FA:Expr->Bool
 | .Dict [] [] _=>true
 | _=>false
def JZ (h:eName e=some x):∃ p,e=.Name x p:=by cases e<;>first | exact zj h | (cases h;exact⟨_,rfl⟩)
def RB (h:sj e=some x):e=.Constant x.1 x.2.1 x.2.2:=by cases e<;>first | exact zj h | (cases h;rfl)
def RA (h:sm e=some x):∃ p,e=.BinOp x.1 x.2.1 x.2.2 p:=by cases e<;>first | exact zj h | (cases h;exact⟨_,rfl⟩)
def Ar (h:tQ e=some x):∃ p,e=.UnaryOp x.1 x.2 p:=by cases e<;>first | exact zj h | (cases h;exact⟨_,rfl⟩)
def Vj (h:ml e=some x):∃ p,e=.Compare x.1 x.2.1 x.2.2 p:=by cases e<;>first | exact zj h | (cases h;exact⟨_,rfl⟩)
def Dt (h:BH e=some x):∃ p,e=.BoolOp x.1 x.2 p:=by cases e<;>first | exact zj h | (cases h;exact⟨_,rfl⟩)
def MK (h:Fz e=some x):∃ p,e=.IfExp x.1 x.2.1 x.2.2 p:=by cases e<;>first | exact zj h | (cases h;exact⟨_,rfl⟩)
def Rz (h:si e=some x):∃ p,e=.List x p:=by cases e<;>first | exact zj h | (cases h;exact⟨_,rfl⟩)
def ZS (h:eY e=some x):∃ k p,e=.Tuple x k p:=by cases e<;>first | exact zj h | (cases h;exact⟨_,_,rfl⟩)
def Vk (h:mj e=some x):∃ p,e=.Subscript x.1 x.2 p:=by cases e<;>first | exact zj h | (cases h;exact⟨_,rfl⟩)
def Ry (h:se e=some x):∃ p,e=.Slice x.1 x.2.1 x.2.2 p:=by cases e<;>first | exact zj h | (cases h;exact⟨_,rfl⟩)
def YS (h:Aj e=some x):e=.Call x.1 x.2.1 x.2.2.1 x.2.2.2:=by cases e<;>first | exact zj h | (cases h;rfl)
def Jl (h:lp e=some x):e=.Attribute x.1 x.2.1 x.2.2:=by cases e<;>first | exact zj h | (cases h;rfl)
def Ds (h:Fy e=some x):∃ p,e=.ListComp x.1 x.2.1 x.2.2 p:=by cases e<;>first | exact zj h | (cases h;exact⟨_,rfl⟩)
def zl {α:Type}{o:Option α}{f:α->Bool}(h:o.any f=true):∃ x,o=some x/\f x=true:=by
 cases o with
 | none=>cases h
 | some x=>exact⟨x,rfl,h⟩
noncomputable def one? {α:Type}:List α->Option α
 | [a]=>some a
 | _=>none
noncomputable def fH {α:Type}:List α->Option (α×α)
 | [a,b]=>some (a,b)
 | _=>none
def yb {α:Type}{l:List α}{a:α}(h:one? l=some a):l=[a]:=by
 match l,h with
 | [_],h=>cases h;rfl
def kJ {α:Type}{l:List α}{a:α×α}(h:fH l=some a):l=[a.1,a.2]:=by
 match l,h with
 | [_,_],h=>cases h;rfl
noncomputable def cK (b:Bool){α:Type}(x:α):Option α:=cond b (some x) none
def qg {b:Bool}{α:Type}{x y:α}(h:cK b x=some y):b=true/\x=y:=by
 cases b with
 | true=>exact⟨rfl,uQ h⟩
 | false=>cases h
def zd (h:(a&&b)=true):a=true/\b=true:=Ui.mp h
def dec_is {p:Prop} [Decidable p](h:decide p=true):p:=uq h
structure Sy where
 N:Lh
 sc:Scope
 cm:Bool
noncomputable def Ft:MU->Str
 | .append=>"append"
 | .pop=>"pop"
 | .insert=>"insert"
 | .popI=>"pop"
noncomputable def rK:MU->Nat
 | .append=>1
 | .popI=>1
 | .insert=>2
 | _=>0
def nr (Y:Sy)(i:Nat)(e:Expr):Bool:=(eName e).any λx=>decide (Y.N[i]? = some x)&&AX Y.sc x&&okN x
def yG (sc:Scope)(x:Str)(e:Expr):Bool:=(eName e).any λy=>decide (y=x)&&glb sc y
def Ai (sc:Scope):List iD->Lg->Bool
 | [],es=>es.isEmpty
 | k::ks,es=>match es with
  | e::es=>yG sc (eM k) e&&Ai sc ks es
  | []=>false
def Ah (sc:Scope):Lh->Lg->Bool
 | [],es=>es.isEmpty
 | x::xs,es=>match es with
  | e::es=>yG sc x e&&Ah sc xs es
  | []=>false
def rY (gs:List Comprehension):Option (Expr×Expr×Lg):=match gs with
 | [⟨t,i,fs,0⟩]=>some (t,i,fs)
 | _=>none
def Dr (h:rY gs=some x):gs=[⟨x.1,x.2.1,x.2.2,0⟩]:=by
 cases gs with
 | nil=>exact zj h
 | cons a t=>obtain⟨u,i,f,(_ | _) | _⟩:=a<;>cases t<;>first | exact zj h | (cases h;rfl)
def Fv (Y:Sy)(scope:Scope)(xs:Lh):Bool:= decide ((xs++Y.N.map (dq xs)).Nodup)&&(decide (scope.kind=.function)&&(decide (∀ y∈scope.names,y.2≠.cell)&&(decide (∀ y∈scope.names,y.2=.local->scope.names.lookup y.1=some .local)&&(decide (∀ x∈xs,scope.names.lookup x=some .local) && (decide (∀ y∈scope.names,y.2=.free->Y.sc.names.lookup y.1=some .cell)&&(decide (∀ y∈Y.N.map (dq xs),scope.names.lookup y≠some .local)&&decide (scope.names.lookup (Str.ofString "")=none)))))))
noncomputable def tL:IK->Str
 | .seq=>""
 | .rng=>"range"
 | .enumS=>"enumerate"
noncomputable def rV:IK->Nat->Bool
 | .rng,n=>n == 1||n == 2
 | _,n=>n == 1
def Qy (e:Expr):Bool:=(eY e).isSome
noncomputable def FF:Op->Option Operator
 | .add=>some .Add
 | .sub=>some .Sub
 | .mul=>some .Mult
 | .muls=>some .Mult
 | .fdiv=>some .FloorDiv
 | .mod=>some .Mod
 | .pow=>some .Pow
 | _=>none
def sq:Op->Option CmpOp
 | .eq=>some .Eq
 | .ne=>some .NotEq
 | .lt=>some .Lt
 | .le=>some .LtE
 | .gt=>some .Gt
 | .ge=>some .GtE
 | .isin=>some .In
 | .notin=>some .NotIn
 | .is=>some .Is
 | .isnot=>some .IsNot
 | _=>none
noncomputable def BQ:Op->Option Str
 | .len=>some "len"
 | .int=>some "int"
 | .str=>some "str"
 | .list=>some "list"
 | .tuple=>some "tuple"
 | .all=>some "all"
 | _=>none
def vi (sc:Scope)(x:Str)(e:Expr):Option Lg:=(Aj e).bind λp=>cK (yG sc x p.1&&(p.2.2.1.isEmpty&&cG p.2.1)) p.2.1
def YT (x:Str)(e:Expr):Option (Expr×Lg):=(Aj e).bind λp=>(lp p.1).bind λq=>cK (decide (q.2.1=x)&&((q.2.2.endLine == p.2.2.2.line)&&(p.2.2.1.isEmpty&&(cG p.2.1&&decide (p.2.1.length<30))))) (q.1,p.2.1)
def Fh (Y:Sy)(e:Expr):Op->Option Lg
 | .neg=>(tQ e).bind λp=>cK (decide (p.1=.USub)) [p.2]
 | .sl lo hi=>(mj e).bind λp=>(se p.2).bind λq=>cK (q.2.2.isNone&&(q.1.isSome == lo&&q.2.1.isSome == hi)) (p.1::(q.1.toList++q.2.1.toList))
 | .isi ks=>(vi Y.sc "isinstance" e).bind λxs=>(fH xs).bind λq=>cK ((one? ks).any (λk=>yG Y.sc (eM k) q.2)||(decide (ks.length<=100)&&(eY q.2).any λes=>Ai Y.sc ks es)) [q.1]
 | .isc x _=>(vi Y.sc "isinstance" e).bind λxs=>(fH xs).bind λq=>cK (yG Y.sc x q.2) [q.1]
 | .isx x _=>(vi Y.sc "isinstance" e).bind λxs=>(fH xs).bind λq=>cK (yG Y.sc x q.2) [q.1]
 | .isxb _=>(vi Y.sc "isinstance" e).bind λxs=>(fH xs).bind λq=>cK (yG Y.sc "ValueError" q.2) [q.1]
 | .isxt ns _=>(vi Y.sc "isinstance" e).bind λxs=>(fH xs).bind λq=>cK ((eY q.2).any λes=>Ah Y.sc ns es) [q.1]
 | .kget x _=>(YT "get" e).bind λq=>cK (yG Y.sc x q.1&&decide (q.2.length=2)) q.2
 | _=>none
def Fi (Y:Sy)(e:Expr)(o:Op):Option Lg:= cQ ((FF o).bind λq=>(sm e).bind λp=>cK (decide (p.2.1=q)) [p.1,p.2.2]) (cQ ((sq o).bind λq=>(ml e).bind λp=>(one? p.2.2).bind λb=>cK (decide (p.2.1=[q])&&!behindInMarks q b) [p.1,b]) (cQ ((BQ o).bind λx=>(vi Y.sc x e).bind λxs=>cK ((!Cz x||Y.cm)&&!xs.isEmpty) xs) (Fh Y e o)))
def BM (e:Expr)(o:Op):Option Lg:=(sq o).bind λq=>(ml e).bind λp=>(one? p.2.2).bind λb=>cK (decide (p.2.1=[q])&&!behindInMarks q b) [p.1,b]
def nq (e:Expr)(o1 o2:Op):Option (Expr×Expr×Expr):=(ml e).bind λp=>(fH p.2.2).bind λq=>(sq o1).bind λc1=>(sq o2).bind λc2=>cK (decide (p.2.1=[c1,c2])&&!lastMarks [c1,c2] [q.1,q.2]) (p.1,q.1,q.2)
def hdA (Y:Sy)(e:Expr):Hd->Option Lg
 | .fn x=>vi Y.sc x e
 | .mk _ x=>vi Y.sc x e
 | .mt _ x=>(YT x e).bind λq=>cK (qO q.1&&!star q.1) (q.1::q.2)
def Bw (Y:Sy)(k:IK)(e:Expr)(tup:Bool):Option Lg:=match k with
 | .seq=>some [e]
 | k=>(vi Y.sc (tL k) e).bind λxs=>cK ((tup||decide (k=.rng))&&rV k xs.length) xs
mutual
def aZ (Y:Sy):Xp->Expr->Bool
 | .v i=>λe=>nr Y i e
 | .m i=>λe=>nr Y i e
 | .c t=>λe=>(sj e).any λk=>sv t k.1
 | .g x _=>λe=>yG Y.sc x e
 | .fz a=>λe=>aZ Y a e
 | .ap o es=>λe=>(Fi Y e o).any λxs=>yH Y es xs
 | .me m o es=>λe=>(YT (Fu m) e).any λq=>qO q.1&&(!q.2.isEmpty&&(aZ Y o q.1&&yH Y es q.2))
 | .chn o1 o2 a b c=>λe=>(nq e o1 o2).any λx=>aZ Y a x.1&&(aZ Y b x.2.1&&aZ Y c x.2.2)
 | .bo k es=>λe=>(BH e).any λp=>decide (p.1=if k then .And else .Or)&&(!es.isEmpty&&yH Y es p.2)
 | .not a=>λe=>(tQ e).any λp=>decide (p.1=.Not)&&aZ Y a p.2
 | .t _=>λ_=>false
 | .tn _=>λ_=>false
 | .tb _ _=>λ_=>false
 | .ife t a b=>λe=>(Fz e).any λp=>fT Y t p.1&&(aZ Y a p.2.1&&aZ Y b p.2.2)
 | .lst es=>λe=>(si e).any λp=>cG p&&(decide (p.length<=1000)&&yH Y es p)
 | .tup es=>λe=>(eY e).any λp=>cG p&&(decide (p.length<=1000)&&yH Y es p)
 | .dct=>λe=>FA e
 | .tpl a=>λe=>Y.cm&&(vi Y.sc "tuple" e).any λxs=>(one? xs).any λx=>aZ Y a x
 | .ix a k=>λe=>(mj e).any λp=>Jf p.2&&(aZ Y a p.1&&aZ Y k p.2)
 | .at a _ f=>λe=>(lp e).any λp=>decide (p.2.1=f)&&(qO p.1&&aZ Y a p.1)
 | .atX a f _=>λe=>(lp e).any λp=>decide (p.2.1=f)&&(qO p.1&&aZ Y a p.1)
 | .call h _ _ es=>λe=>Y.cm&&(hdA Y e h).any λxs=>yH Y es xs
 | .mu m o es=>λe=>(YT (Ft m) e).any λq=>qO q.1&&(decide (q.2.length=rK m)&&(aZ Y o q.1&&yH Y es q.2))
 | .lc elt n k its ifs=>λe=>(Fy e).any λp=>(rY p.2.1).any λg=>Y.cm&&(An g.2.1&&(decide (g.2.2.length<=1)&&((Bw Y k g.2.1 (Qy g.1)).any (λxs=>yH Y its xs) &&
   (A0 g.1).any λq=>decide (q.2.length=n)&&(decide (q.1=decide (n≠1))&&(Fv Y p.2.2 q.2&&(aZ ⟨q.2++Y.N.map (dq q.2),mW p.2.2 Y.sc,true⟩ elt p.1&&sV ⟨q.2++Y.N.map (dq q.2),mW p.2.2 Y.sc,true⟩ ifs g.2.2))))))
def yH (Y:Sy):List Xp->Lg->Bool
 | []=>λes=>es.isEmpty
 | c::cs=>λes=>match es with
  | e::es=>aZ Y c e&&yH Y cs es
  | []=>false
def fT (Y:Sy):Xp->Expr->Bool
 | .t a=>λe=>plainT e&&aZ Y a e
 | .tn a=>λe=>(tQ e).any λp=>decide (p.1=.Not)&&fT Y a p.2
 | .tb k es=>λe=>(BH e).any λp=>decide (p.1=if k then .And else .Or)&&(!es.isEmpty&&sV Y es p.2)
 | .ap o es=>λe=>(BM e o).any λxs=>yH Y es xs
 | .chn o1 o2 a b c=>λe=>(nq e o1 o2).any λx=>aZ Y a x.1&&(aZ Y b x.2.1&&aZ Y c x.2.2)
 | _=>λ_=>false
def sV (Y:Sy):List Xp->Lg->Bool
 | []=>λes=>es.isEmpty
 | c::cs=>λes=>match es with
  | e::es=>fT Y c e&&sV Y cs es
  | []=>false
end
variable (W:Wd)
def Ze:Op->Prop
 | .isi ks=>W.mg "isinstance" = none/\∀ k∈ks,W.mg (eM k)=none
 | .isc x c=>W.mg "isinstance" = none/\mz W x c
 | .kget x d=>KGet W x d
 | .isx x tb=>W.mg "isinstance" = none/\∃ C,W.mg x=some (.ref C)/\∀ p∈tb,PySem.W.kitOne W.K (.ref (W.cl p.1)) (.ref C)=some p.2
 | .isxb tb=>W.mg "isinstance" = none/\W.mg "ValueError" = none/\∀ p∈tb,PySem.W.kitOne W.K (.ref (W.cl p.1)) (.type "ValueError")=some p.2
 | .isxt xs tb=>W.mg "isinstance" = none/\∃ Cs:Ld,(xs.map W.mg=Cs.map λC=>some (.ref C))/\Cs.length<=100/\∀ p∈tb,PySem.W.kitAny W.K (.ref (W.cl p.1)) (Cs.map Value.ref)=some p.2
 | o=>match BQ o with
  | some x=>W.mg x=none
  | none=>True
def mR (x:Str)(t:T):Prop:=shr t=true/\∃ v,(∀ F:Hp,bY W F t v)/\∃ u,W.mg x=some u/\RelV v u
structure eD (k:Nat)(C:Addr)(m:Str)(ps:Lh)(sp:Sp):Prop where
 ex:∃ (f:Addr) (fd:FuncData),dU W.K C/\Meth W.K C m f/\Binds W.K fd ps []/\dA W.P W.w W.K W.mg W.base (ie W.P W.w) k f fd ps sp
structure iM (k:Nat)(C:Addr)(x:Str)(ps:Lh)(sp:Sp):Prop where
 ex:∃ (f:Addr) (fd:FuncData),Mk W.K C f/\Binds W.K fd ps []/\W.mg x=some (.ref C)/\dA W.P W.w W.K W.mg W.base (ie W.P W.w) k f fd ps sp
variable (k:Nat)
def FJ:Hd->List Md->Fn->Prop
 | .fn x,ms,f=>∃ k' ps,k'<=k/\nK W.P W.w W.K W.mg W.base k' x ps (dW W ms f)
 | .mt c x,ms,f=>∃ k' ps,k'<=k/\eD W k' (W.cl c) x ps (dW W ms f)
 | .mk c x,ms,f=>∃ k' ps,k' + 1<=k/\iM W k' (W.cl c) x ps (dW W (.mu::ms) f)
def Ag:IK->Prop
 | .seq=>True
 | k=>W.mg (tL k)=none
mutual
def bD:Xp->Prop
 | .g x t=>mR W x t
 | .fz a=>bD a
 | .ap o es=>Ze W o/\vj es
 | .me _ o es=>bD o/\vj es
 | .chn _ _ a b c=>bD a/\bD b/\bD c
 | .bo _ es=>vj es
 | .not a=>bD a
 | .t a=>bD a
 | .tn a=>bD a
 | .tb _ es=>vj es
 | .ife t a b=>bD t/\bD a/\bD b
 | .lst es=>vj es
 | .tup es=>vj es
 | .tpl a=>W.mg "tuple" = none/\bD a
 | .ix a k=>bD a/\bD k
 | .at a c f=>(dU W.K (W.cl c)/\qT W.K (W.cl c) f)/\bD a
 | .atX a f cs=>(∀ c∈cs,PySem.W.findIn W.K (.ref (W.cl c)) f=some none)/\bD a
 | .call h ms f es=>FJ W k h ms f/\vj es
 | .mu _ o es=>bD o/\vj es
 | .lc elt _ i its ifs=>Ag W i/\bD elt/\vj its/\vj ifs
 | _=>True
def vj:List Xp->Prop
 | []=>True
 | e::es=>bD e/\vj es
end
end
variable {W:Wd} {E:XS} {k:Nat} {X:Cx} {Y:Sy} {H:Hp} {U:L2.St} {Q:VK}
structure Ctx (W:Wd)(k:Nat)(X:Cx)(Y:Sy)(E:XS):Prop where
 hP:X.prog=W.P
 hw:X.w=W.w
 hK:X.K=W.K
 hmg:X.mg=W.mg
 hb:X.base=W.base
 hN:X.N=Y.N
 nd:Y.N.Nodup
 hs:X.env.scope=Y.sc
 hc:X.calm=Y.cm
 rm:Y.cm=true->bT k X.A
 hu:X.A.units+64<cLine
 th:lL X E
def Cp (h:okN x=true):(x == ("__debug__":Str))=false/\(x == ("__classdict__":Str))=false:=by let⟨h1,h2⟩:=zd h;exact⟨by simpa using h1,by simpa using h2⟩
def Ctx.gl (C:Ctx W k X Y E)(h:yG Y.sc x e=true):∃ p,e=.Name x p/\Gl X x/\(x == ("__debug__":Str))=false:=by let⟨y,h1,h2⟩:=zl h;let⟨p,rfl⟩:=JZ h1;let⟨h3,h4⟩:=zd h2;let⟨h5,h6⟩:=zd h4;have h7:=dec_is h3;subst h7;refine⟨p,rfl,?_,(Cp h6).1⟩;show X.env.scope.names.lookup _=_;rw[C.hs];exact dec_is h5
def Ctx.var (C:Ctx W k X Y E)(h:nr Y i e=true):PE X e (eP i):=by
 let⟨x,h1,h2⟩:=zl h;let⟨pos,rfl⟩:=JZ h1;let⟨h3,h4⟩:=zd h2;let⟨h1,h2⟩:=zd h3;let⟨d1,d2⟩:=Cp h4;refine pv i (by rw[C.hN];exact dec_is h1) ?_ d1 d2;rw[C.hs];rcases UZ.mp h2 with z | z
 ·rcases UZ.mp z with z | z
  ·exact .inl (dec_is z)
  ·exact .inr (.inl (dec_is z))
 ·exact .inr (.inr (dec_is z))
def Ctx.blk {scope:Scope}(C:Ctx W k X Y E)(hcm:Y.cm=true)(h:Fv Y scope xs=true):yM X xs scope/\∀ (cl:List (Str×Addr)) (Ca:Addr) (s3:Shared) (H3:Hp) (fp:Ld),Ctx W k (dJ X xs scope cl Ca s3 H3 fp) ⟨xs++Y.N.map (dq xs),mW scope Y.sc,true⟩ rJ:=by
 let⟨h1,h⟩:=zd h;let⟨h2,h⟩:=zd h;let⟨h3,h⟩:=zd h;let⟨h4,h⟩:=zd h;let⟨h5,h⟩:=zd h;let⟨h6,h⟩:=zd h;let⟨h7,h8⟩:=zd h;refine⟨⟨by rw[C.hN];exact dec_is h1,dec_is h2,dec_is h3,dec_is h4,dec_is h5,λy hy hf=>?_,by rw[C.hN];exact dec_is h7,λ_ _ _=>dec_is h8,C.hc.trans hcm⟩,λcl Ca s3 H3 fp=>?_⟩
 ·show X.env.scope.names.lookup y.1=some .cell;rw[C.hs];exact dec_is h6 y hy hf
 exact⟨C.hP,C.hw,C.hK,C.hmg,C.hb,by show xs++X.N.map (dq xs)=_;rw[C.hN],dec_is h1,by rw[<-C.hs];rfl,C.hc.trans hcm,λ_=>C.rm hcm,C.hu,λe s' z=>by
  let⟨_,_,_,_,_,_,_,_,_,_,_,_,z⟩:=z
  exact z.elim⟩
def Ctx.tgt {scope:Scope}(C:Ctx W k X Y E)(L:yM X q.2 scope)(h:A0 tg=some q):∀ (cl:List (Str×Addr)) (Ca:Addr) (s3:Shared) (H3:Hp) (fp:Ld),PG (dJ X q.2 scope cl Ca s3 H3 fp) tg (tM W.K q.1 q.2.length):=λcl Ca s3 H3 fp=>by
 rw[<-C.hK];refine MT (X:=dJ X q.2 scope cl Ca s3 H3 fp) L.calm L.nd (λ_=>rfl) h (λk x hx=>?_) λx hx=>?_
 ·show(q.2++X.N.map (dq q.2))[k]? = some x;rw[UB (uY.mp hx).1];exact hx
 ·have e:(dJ X q.2 scope cl Ca s3 H3 fp).env.scope.names.lookup x=(scope.names.lookup x).map λk=>if (k == NameKind.free&&X.env.scope.kind == .function&&X.env.kindOf x == some .cell) then NameKind.cell else k:=xM x scope.names
  rw[e,L.var x hx];rfl
def MJ (h:sv t c=true):shr t=true/\∃ v,(∀ X,PE X (.Constant c j pos) (tC v))/\∀ F:Hp,bY W F t v:=by
 cases t with
 | non=>cases c<;>first | exact zJ h | exact⟨rfl,.non,λX=>ND,λF=>rfl⟩
 | bl b=>
  cases c<;>first | exact zJ h | skip
  rename_i c;cases (eq_of_beq h:b=c);exact⟨rfl,.bl b,λX=>LS,λF=>rfl⟩
 | int i=>
  cases c<;>first | exact zJ h | skip
  rename_i c;cases (eq_of_beq h:i=c);exact⟨rfl,.int i,λX=>NF,λF=>rfl⟩
 | str l=>
  cases c<;>first | exact zJ h | skip
  let⟨h1,h2⟩:=zd h;exact⟨rfl,.str (S l),λX=>Bj (dec_is h1),λF=>⟨rfl,dec_is h2⟩⟩
 | _=>cases c<;>exact zJ h
def iS (X:Cx)(W:Wd)(E:XS):List Xp->Lg->Prop
 | [],es=>es=[]
 | c::cs,es=>∃ e r,es=e::r/\PE X e (E5 W E c)/\iS X W E cs r
theorem xP:∀ {cs:List Xp} {es:Lg},iS X W E cs es->cG es=true->PA X es (A5 W E cs)
 | [],_,h,_=>by rw[show _=[] from h];exact EI wq λU H Q=>JX
 | c::cs,_,⟨e,r,h,h1,h2⟩,hs=>by subst h;let⟨s1,s2⟩:=zw hs;exact EI (zT h1 (xP h2 s2) (zg s1)) λU H Q=>PO
def d8 (h:iS X W E cs [a]):∃ c,cs=[c]/\PE X a (E5 W E c):=by
 match cs,h with
 | [c],⟨e,r,h,h1,_⟩=>cases h;exact⟨c,rfl,h1⟩
 | _::_::_,⟨e,r,h,h1,e2,r2,h2,_⟩=>cases h;cases h2
def fN (h:iS X W E cs [a,b]):∃ c d,cs=[c,d]/\PE X a (E5 W E c)/\PE X b (E5 W E d):=by
 match cs,h with
 | c::cs,⟨e,r,h,h1,h2⟩=>cases h;let⟨d,rfl,h3⟩:=d8 h2;exact⟨c,d,rfl,h1,h3⟩
def Bi (h:iS X W E cs [a,b,c]):∃ x y z,cs=[x,y,z]/\PE X a (E5 W E x)/\PE X b (E5 W E y)/\PE X c (E5 W E z):=by
 match cs,h with
 | x::cs,⟨e,r,h,h1,h2⟩=>cases h;let⟨y,z,rfl,h3,h4⟩:=fN h2;exact⟨x,y,z,rfl,h1,h3,h4⟩
abbrev E9 (W:Wd)(E:XS)(o:Op)(es:List Xp):TE:=λU H Q=>A5 W E es U H λus H'=>rN W (bZ o) us H' Q
def Nm (h:FF o=some q):ZP W q (bZ o):=by
 cases o<;>first | exact zj h | cases h
 ·exact Mr
 ·exact MA
 ·exact Mz
 ·exact P2
 ·exact Mx
 ·exact Mw
 ·exact Mv
def Qz (h:sq o=some q):vQ W q (bZ o):=by
 cases o<;>first | exact zj h | cases h
 ·exact Ih
 ·exact Ig
 ·exact Ie
 ·exact Ic
 ·exact Ib
 ·exact Ia
 ·exact HZ
 ·exact Mp
 ·exact HY
 ·exact Mo
def IF (h:BQ o=some x)(n:Ze W o):iq W x (bZ o)/\W.mg x=none:=by
 cases o<;>first | exact zj h | cases h
 ·exact⟨Ml,n⟩
 ·exact⟨P0,n⟩
 ·exact⟨PZ,n⟩
 ·exact⟨PY,n⟩
 ·exact⟨Ti,n⟩
 ·exact⟨Mj,n⟩
def Ctx.call (C:Ctx W k X Y E)(h:vi Y.sc x e=some xs):∃ p pos,e=.Call (.Name x p) xs [] pos/\Gl X x/\(x == ("__debug__":Str))=false/\cG xs=true:=by let⟨p,h1,h2⟩:=zb h;let⟨h3,rfl⟩:=qg h2;let⟨h4,h5⟩:=zd h3;let⟨h6,h7⟩:=zd h5;let⟨q,hq,g1,g2⟩:=C.gl h4;refine⟨q,p.2.2.2,?_,g1,g2,h7⟩;rw[YS h1,hq,Um.mp h6]
def Jm (h:YT x e=some q):∃ apos pos,e=.Call (.Attribute q.1 x apos) q.2 [] pos/\(apos.endLine == pos.line)=true/\cG q.2=true/\q.2.length<30:=by let⟨p,h1,h2⟩:=zb h;let⟨r,h3,h4⟩:=zb h2;let⟨h5,rfl⟩:=qg h4;let⟨h6,h7⟩:=zd h5;let⟨h8,h9⟩:=zd h7;let⟨h10,h11⟩:=zd h9;let⟨h12,h13⟩:=zd h11;refine⟨r.2.2,p.2.2.2,?_,h8,h12,dec_is h13⟩;rw[YS h1,Jl h3,dec_is h6,Um.mp h10]
def Co (C:Ctx W k X Y E)(h:yG Y.sc (eM t) e=true)(hb:W.mg (eM t)=none):star e=false/\PE X e (tC (.ty (eM t))):=by
 let⟨pos,rfl,hg,_⟩:=C.gl h;refine⟨rfl,?_⟩;rw[<-C.hmg] at hb;cases t
 ·exact Zj hb DP rfl hg aA aA
 ·exact Zj hb DO rfl hg aA aA
 ·exact Zj hb Sm rfl hg aA aA
 ·exact Zj hb Ef rfl hg aA aA
 ·exact Zj hb JI rfl hg aA aA
 ·exact Zj hb aC rfl hg aA aA
theorem Dq (C:Ctx W k X Y E):∀ {ks:List iD} {es:Lg},Ai Y.sc ks es=true->(∀ t∈ks,W.mg (eM t)=none)->PA X es (A1 (ks.map eM))
 | [],es,h,_=>by rw[Um.mp h];exact wq
 | t::ks,[],h,hb=>zJ h
 | t::ks,e::es,h,hb=>by let⟨h1,h2⟩:=zd h;let⟨p1,p2⟩:=Co C h1 (hb t ug);exact zT p2 (Dq C h2 λk' hk=>hb k' (uk _ hk)) (zg p1)
def mU:Ld->TA
 | []=>fJ
 | a::as=>Yi (tC (.ref a)) (mU as)
theorem Dp (C:Ctx W k X Y E):∀ {xs:Lh} {es:Lg} {Cs:Ld},Ah Y.sc xs es=true->(xs.map W.mg=Cs.map λC=>some (.ref C))->PA X es (mU Cs)
 | [],es,[],h,_=>by rw[Um.mp h];exact wq
 | [],_,_::_,_,e=>by cases e
 | _::_,_,[],_,e=>by cases e
 | x::xs,[],_::_,h,_=>zJ h
 | x::xs,e::es,c::Cs,h,k=>by let⟨h1,h2⟩:=zd h;let⟨k1,k2⟩:=gw k;let⟨np,hx2,g3,g4⟩:=C.gl h1;subst hx2;exact zT (sR (by rw[C.hmg];exact⟨_,k1,rfl⟩) g3 g4) (Dp C h2 k2) (zg rfl)
theorem YU:∀ {Cs:Ld} {U:L2.St} {H:Hp} {Q:List V->Hp->Prop},Q (Cs.map V.ref) H->mU Cs U H Q
 | [],_,_,_,h=>h
 | c::Cs,_,_,_,h=>YU (Cs:=Cs) h
def FI:Option V->Value->Prop
 | none,u=>u=.none
 | some v,u=>RelV v u
abbrev TV:=L2.St->Hp->(Option V->Hp->Prop)->Prop
def PV (X:Cx)(e:Option Expr)(t:TV):Prop:=∀ (Lk:Li) (s:Shared) (U:L2.St) (H:Hp) (Q:Option V->Hp->Prop),Inv X Lk U H s->t U H Q->Lb X (evalPart e X.env) (λu s'=>∃ o H',Inv X Lk U H' s'/\FI o u/\Q o H') X.xe s
def Jn:PV X none (λ_ H Q=>Q none H):=by intro Lk s U H Q I h;rw[evalPart_none];exact uh ⟨none,H,I,rfl,h⟩
def Jo (h:PE X e te):PV X (some e) (λU H Q=>te U H λx H1=>Q (some x) H1):=by intro Lk s U H Q I hw;rw[evalPart_some];exact aX (h Lk s U H _ I hw) λu s1 ⟨x,H1,I1,r1,q1⟩=>⟨some x,H1,I1,r1,q1⟩
def nh:Option V->Option Int->Prop
 | none,i=>i=none
 | some v,i=>∃ j,v=.int j/\i=some j
def Ez (r:FI o u)(h:nh o i):IsPart u i:=by
 cases o with
 | none=>cases r;cases h;exact .none
 | some v=>let⟨j,rfl,rfl⟩:=h;let⟨t,rfl⟩:=r;exact .int j t
def kK {r:V->Option Int->Option Int->Hp->VK->Prop}{e:Expr}{te:TE}{lo hi:Option Expr}{tl th:TV}{pos p2:Pos}(hr:iR X r)(he:PE X e te)(hl:PV X lo tl)(hu:PV X hi th):PE X (.Subscript e (.Slice lo hi none p2) pos) (λU H Q=>te U H λx H1=>tl U H1 λl H2=>th U H2 λu H3=>∃ i j,nh l i/\nh u j/\r x i j H3 Q):=by intro Lk s U H Q I h;refine Subscript_ (aX (he Lk s U H _ I h) λv s1 ⟨x,H1,I1,r1,q1⟩=>?_);refine wpAny_Slice (aX (hl Lk s1 U H1 _ I1 q1) λvl s2 ⟨l,H2,I2,pl,q2⟩=>aX (hu Lk s2 U H2 _ I2 q2) λvu s3 ⟨u,H3,I3,pu,i,j,k1,k2,q3⟩=>?_);rw[evalPart_none];refine uh ?_;have I4:Inv X Lk U H3 { s3 with heap:=s3.heap.push { cls:=.type "slice",data:=.fields #[vl,vu,.none] } }:=I3.kept (t':=s3.toks) λb ob q=>uf _ q;let⟨T,id,hT,ht,hg⟩:=hr Lk { s3 with heap:=s3.heap.push { cls:=.type "slice",data:=.fields #[vl,vu,.none] } } U H3 x v vl vu i j s3.heap.objs.size Q I4 r1 (Heap.IsSliceOf.new ..) (Ez pl k1) (Ez pu k2) q3;show Lb X (subscriptTail e (.Slice lo hi none p2) v (.ref s3.heap.objs.size)) (EP X Lk U Q) X.xe { s3 with heap:=s3.heap.push { cls:=.type "slice",data:=.fields #[vl,vu,.none] } };exact tail_any (ops:=[.ref s3.heap.objs.size,v]) ht hT hg (by with_unfolding_all rfl)
def Ts {c d e:Xp}{Q:List V->Hp->Prop}(h:A5 W E [c,d,e] U H Q):E5 W E c U H λx H1=>E5 W E d U H1 λy H2=>E5 W E e U H2 λz H3=>Q [x,y,z] H3:=by let⟨F,s,Z,vs,O,K,X4,R,h,q,x⟩:=h;refine⟨F,s,Z,vs,O,_,X4,R,h,λF' H' s' y Y' v R' h'=>?_,x⟩;refine⟨F',s',y::Y',v::vs,O,_,X4,R',h',λF2 H2 s2 y2 V' u R2 h2=>?_,x.app [v]⟩;exact⟨F2,s2,y2::V',u::v::vs,O,_,X4,R2,h2,λF3 H3 s3 y3 T8 w R3 h3=>q F3 H3 s3 _ [v,u,w] rfl R3 h3,x.app [u,v]⟩
end
variable {W:Wd} {E:XS} {k:Nat} {X:Cx} {Y:Sy} {H:Hp} {U:L2.St} {Q:VK}
def sU {F:Hp}{a:AT}{Γ:List AT}{z:T}{lo hi:Option Int}(ha:OK W F H a)(e:nR (era a) lo hi=some z)(st:St W F H Γ)(q:∀ F' H' w,St W F' H' (w::Γ)->era w=z->Q (val w) H'):p4 W (val a) lo hi H Q:=⟨F,[a],Γ,z,⟨ha,trivial⟩,rfl,e,st,q⟩
def sl1 (h:rN W (tI false false) [x] H Q):p4 W x none none H Q:=by
 let⟨F,as,Γ,z,h1,h2,h3,h4,h5⟩:=h
 match as,h2 with
 | [a],h2=>cases h2;exact sU h1.1 h3 h4 h5
def iW {lo:Bool}{x y:V}(h:rN W (tI lo !lo) [x,y] H Q):∃ i:Int,y=.int i/\p4 W x (cond lo (some i) none) (cond lo none (some i)) H Q:=by
 let⟨F,as,Γ,z,h1,h2,h3,h4,h5⟩:=h
 match as,h2 with
 | [a,b],h2=>
  cases h2;cases lo with
  | true=>let⟨i,e1,e⟩:=zb h3;exact⟨i,zE h1.2.1 e1,sU h1.1 e h4 h5⟩
  | false=>let⟨i,e1,e⟩:=zb h3;exact⟨i,zE h1.2.1 e1,sU h1.1 e h4 h5⟩
def sl3 (h:rN W (tI true true) [x,y,w] H Q):∃ i j:Int,y=.int i/\w=.int j/\p4 W x (some i) (some j) H Q:=by
 let⟨F,as,Γ,z,h1,h2,h3,h4,h5⟩:=h
 match as,h2 with
 | [a,b,c],h2=>cases h2;let⟨i,j,e1,e2,e⟩:=zG h3;exact⟨i,j,zE h1.2.1 e1,zE h1.2.2.1 e2,sU h1.1 e h4 h5⟩
def IE (C:Ctx W k X Y E){o:Op}{e:Expr}{xs:Lg}{es:List Xp}(h:Fh Y e o=some xs)(n:Ze W o)(p:iS X W E es xs):PE X e (E9 W E o es):=by
 cases o with
 | neg=>let⟨q,h1,h2⟩:=zb h;let⟨h3,rfl⟩:=qg h2;let⟨pos,rfl⟩:=Ar h1;let⟨c,rfl,p1⟩:=d8 p;rw[dec_is h3];exact zm (LK Mn p1) λU H Q h=>ya h
 | sl lo hi=>
  let⟨q,h1,h2⟩:=zb h;let⟨r,h3,h4⟩:=zb h2;let⟨h5,rfl⟩:=qg h4;let⟨h6,h7⟩:=zd h5;let⟨h8,h9⟩:=zd h7;let⟨pos,rfl⟩:=Vk h1;let⟨pos2,hq⟩:=Ry h3;rw[hq,Option.isNone_iff_eq_none.mp h6];let⟨rlo,rhi,rst⟩:=r;cases (eq_of_beq h8:rlo.isSome=lo);cases (eq_of_beq h9:rhi.isSome=hi);cases rlo with
  | none=>
   cases rhi with
   | none=>let⟨c,rfl,p1⟩:=d8 p;exact zm (kK (sJ C.hK) p1 Jn Jn) λU H Q h=>q9 (ya h) λx H1 h=>⟨none,none,rfl,rfl,sl1 h⟩
   | some hi=>let⟨c,d,rfl,p1,p2⟩:=fN p;exact zm (kK (sJ C.hK) p1 Jn (Jo p2)) λU H Q h=>q9 (JY h) λx H1 h=>q9 h λy H2 h=>by let⟨i,e,h⟩:=iW (lo:=false) h;exact⟨none,some i,rfl,⟨i,e,rfl⟩,h⟩
  | some lo=>
   cases rhi with
   | none=>let⟨c,d,rfl,p1,p2⟩:=fN p;exact zm (kK (sJ C.hK) p1 (Jo p2) Jn) λU H Q h=>q9 (JY h) λx H1 h=>q9 h λy H2 h=>by let⟨i,e,h⟩:=iW (lo:=true) h;exact⟨some i,none,⟨i,e,rfl⟩,rfl,h⟩
   | some hi=>let⟨c,d,f,rfl,p1,p2,p3⟩:=Bi p;exact zm (kK (sJ C.hK) p1 (Jo p2) (Jo p3)) λU H Q h=>q9 (Ts h) λx H1 h=>q9 h λy H2 h=>q9 h λz H3 h=>by let⟨i,j,e1,e2,h⟩:=sl3 h;exact⟨some i,some j,⟨i,e1,rfl⟩,⟨j,e2,rfl⟩,h⟩
 | isi ks=>
  let⟨ys,h1,h2⟩:=zb h;let⟨q,h3,h4⟩:=zb h2;let⟨h5,rfl⟩:=qg h4;let⟨np,pos,rfl,hg,hd,hs⟩:=C.call h1;let⟨c,rfl,p1⟩:=d8 p;rw[kJ h3] at hs |-;let⟨s1,s2⟩:=zw hs;have hb:X.mg "isinstance" = none:=by rw[C.hmg];exact n.1
  rcases UZ.mp h5 with h5 | h5
  ·let⟨t,h6,h7⟩:=zl h5;cases yb h6;let⟨t1,t2⟩:=Co C h7 (n.2 t (uy.mpr rfl));exact zm (wQ (zcH C.hK) hg hb qN (zT p1 (zT t2 wq (zg t1)) (zg s1)) aA aA (zg s1) (zP s2)) λU H Q h=>q9 (ya h) λx H1 h=>PU h
  ·let⟨hl,h5⟩:=zd h5;let⟨es,h6,h7⟩:=zl h5;let⟨kk,pt,hx2⟩:=ZS h6;have hst:star q.2=false:=(zw s2).1;refine zm (wQ (zdX (ns:=ks.map eM) C.hK) hg hb qN (zT p1 (zT (by rw[hx2];exact K7 (Dq C h7 n.2)) wq (zg hst)) (zg s1)) aA aA (zg s1) (zP s2)) λU H Q h=>q9 (ya h) λx H1 h=>?_;have:=dec_is hl;exact⟨by rw[ud,ud,uD];lia,λp hp=>PR h p hp⟩
 | isc x c=>
  let⟨ys,h1,h2⟩:=zb h;let⟨q,h3,h4⟩:=zb h2;let⟨h5,rfl⟩:=qg h4;let⟨np,pos,rfl,hg,hd,hs⟩:=C.call h1;let⟨c',rfl,p1⟩:=d8 p;rw[kJ h3] at hs |-;let⟨s1,s2⟩:=zw hs;have hb:X.mg "isinstance" = none:=by rw[C.hmg];exact n.1
  let⟨np2,hx2,g3,g4⟩:=C.gl h5;have pc:PE X q.2 (tC (.ref (W.cl c))):=by rw[hx2];exact sR (by rw[C.hmg];exact⟨_,n.2.m,rfl⟩) g3 g4
  exact zm (wQ (Tf C.hK n.2) hg hb qN (zT p1 (zT pc wq (zg (zw s2).1)) (zg s1)) aA aA (zg s1) (zP s2)) λU H Q h=>q9 (ya h) λx H1 h=>Mg n.2 h
 | isx x tb=>
  let⟨ys,h1,h2⟩:=zb h;let⟨q,h3,h4⟩:=zb h2;let⟨h5,rfl⟩:=qg h4;let⟨np,pos,rfl,hg,hd,hs⟩:=C.call h1;let⟨c',rfl,p1⟩:=d8 p;rw[kJ h3] at hs |-;let⟨s1,s2⟩:=zw hs;have hb:X.mg "isinstance" = none:=by rw[C.hmg];exact n.1
  let⟨np2,hx2,g3,g4⟩:=C.gl h5;let⟨Ca,n1,n2⟩:=n.2;have pc:PE X q.2 (tC (.ref Ca)):=by rw[hx2];exact sR (by rw[C.hmg];exact⟨_,n1,rfl⟩) g3 g4
  exact zm (wQ (Xq C.hK) hg hb qN (zT p1 (zT pc wq (zg (zw s2).1)) (zg s1)) aA aA (zg s1) (zP s2)) λU H Q h=>q9 (ya h) λx H1 h=>Du rfl n2 h
 | isxb tb=>
  let⟨ys,h1,h2⟩:=zb h;let⟨q,h3,h4⟩:=zb h2;let⟨h5,rfl⟩:=qg h4;let⟨np,pos,rfl,hg,hd,hs⟩:=C.call h1;let⟨c',rfl,p1⟩:=d8 p;rw[kJ h3] at hs |-;let⟨s1,s2⟩:=zw hs;have hb:X.mg "isinstance" = none:=by rw[C.hmg];exact n.1
  let⟨np2,hx2,g3,g4⟩:=C.gl h5;have pc:PE X q.2 (tC (.ty "ValueError")):=by rw[hx2];exact Zj (by rw[C.hmg];exact n.2.1) WH rfl g3 aA aA
  exact zm (wQ (Xq C.hK) hg hb qN (zT p1 (zT pc wq (zg (zw s2).1)) (zg s1)) aA aA (zg s1) (zP s2)) λU H Q h=>q9 (ya h) λx H1 h=>Du rfl n.2.2 h
 | isxt ns tb=>
  let⟨ys,h1,h2⟩:=zb h;let⟨q,h3,h4⟩:=zb h2;let⟨h5,rfl⟩:=qg h4;let⟨np,pos,rfl,hg,hd,hs⟩:=C.call h1;let⟨c',rfl,p1⟩:=d8 p;rw[kJ h3] at hs |-;let⟨s1,s2⟩:=zw hs;have hb:X.mg "isinstance" = none:=by rw[C.hmg];exact n.1
  let⟨Cs,n1,n2,n3⟩:=n.2;let⟨es,h6,h7⟩:=zl h5;let⟨kk,pt,hx2⟩:=ZS h6;have hst:star q.2=false:=(zw s2).1;refine zm (wQ (zal C.hK) hg hb qN (zT p1 (zT (by rw[hx2];exact K7 (Dp C h7 n1)) wq (zg hst)) (zg s1)) aA aA (zg s1) (zP s2)) λU H Q h=>q9 (ya h) λx H1 h=>?_;refine YU ?_;exact⟨by rw[ud,uD];lia,λp hp=>RD n3 h p hp⟩
 | kget x d=>
  let⟨q,h1,h2⟩:=zb h;let⟨h5,rfl⟩:=qg h2;let⟨h6,h7⟩:=zd h5;let⟨apos,pos,rfl,hl,hs,_⟩:=Jm h1;let⟨np,hx,g1,g2⟩:=C.gl h6;let⟨a,kvs,k1,k2,k3⟩:=n;have h2l:q.2.length=2:=dec_is h7;rw[hx];revert p hs h2l
  match q.2 with
  | [e1,e2]=>intro p hs h2l;exact zm (zd0 ⟨a,by rw[C.hmg];exact k1,by rw[C.hw,C.hK];exact k2⟩ (xP p hs) g1 g2 hs hl) λU H Q h=>Mf h λus H1 h=>PQ k3 h
  | []=>intro _ _ h2l;cases h2l
  | [_]=>intro _ _ h2l;cases h2l
  | _::_::_::_=>intro _ _ h2l;cases h2l
 | _=>exact zj h
def ID (C:Ctx W k X Y E)(h:Fi Y e o=some xs)(n:Ze W o)(p:iS X W E es xs):PE X e (E9 W E o es):=by
 rcases zM h with h | h
 ·let⟨q,h1,h⟩:=zb h;let⟨r,h2,h⟩:=zb h;let⟨h3,rfl⟩:=qg h;let⟨pos,rfl⟩:=RA h2;let⟨c,d,rfl,p1,p2⟩:=fN p;rw[dec_is h3];exact zm (LL (Nm h1 X) p1 p2) λU H Q h=>JY h
 rcases zM h with h | h
 ·let⟨q,h1,h⟩:=zb h;let⟨r,h2,h⟩:=zb h;let⟨b,h4,h⟩:=zb h;let⟨h3,rfl⟩:=qg h;let⟨h5,h6⟩:=zd h3;let⟨pos,rfl⟩:=Vj h2;let⟨c,d,rfl,p1,p2⟩:=fN p;rw[dec_is h5,yb h4];exact zm (SJ (Qz h1 X C.hK C.hu) p1 p2 (by simpa using h6)) λU H Q h=>JY h
 rcases zM h with h | h
 ·let⟨x,h1,h⟩:=zb h;let⟨ys,h2,h⟩:=zb h;let⟨h3,rfl⟩:=qg h;let⟨h4,h5⟩:=zd h3;let⟨np,pos,rfl,hg,hd,hs⟩:=C.call h2;let⟨b1,b2⟩:=IF h1 n;cases ys with
  | nil=>exact zJ h5
  | cons e0 es0=>let⟨s1,s2⟩:=zw hs;exact b1 X e0 es0 _ np pos C.hK (λz=>C.hc.trans (by rw[z] at h4;exact h4)) (by rw[C.hmg];exact b2) (xP p hs) hg (zg s1) (zP s2)
 ·exact IE C h n p
end
variable {W:Wd} {E:XS} {k:Nat} {X:Cx} {Y:Sy} {H:Hp} {U:L2.St} {Q:VK}
section
variable {j:Nat} {C:Addr} {x m:Str} {ps:Lh} {sp:Sp} {p pos apos:Pos} {e o:Expr} {es:Lg} {to:TE} {t:TA} {c:Nat}
def zcU (hx:lL X E)(F:nK X.prog X.w X.K X.mg X.base j x ps sp)(hr:bT k X.A)(hk:j<=k)(hg:Gl X x)(hdb:(x == ("__debug__":Str))=false):PE X (.Call (.Name x p) [] [] pos) (JC sp E fJ):=by intro Lk s U H Q I h;let⟨f,fd,kp,b,m,G⟩:=F.ex;refine Uv (xu I hg m ?_ hdb);exact GW I.kIn kp (Je (us:=[]) G (hr.mono hk) b hx I .nil h)
def zcV (hb:qO o=true)(hs:cG es=true)(hn:es.length<30)(hl:(apos.endLine == pos.line)=true):eval (.Call (.Attribute o m apos) es [] pos) env=(do
   let ov <-eval o env
   standAt apos.atName
   let (f,first) <-holding [ov] (getMethod ov m (do
    let b <-importBound o env
    pure (b.getD true)))
   callWith pos f first (backTo pos (starEach es env)) (backToKw pos (keywordEach [] env))):=by
 show(do
  let ov <-attributeBase o m env (eval o env)
  standAt apos.atName
  methodCall o m apos pos env ov (es.length+([]:List Keyword).length) (backTo pos (starEach es env)) (backToKw pos (keywordEach [] env)))=_
 rw[z8 hb]
 have hf:methodCallForm (es.length+([]:List Keyword).length) (backTo pos (starEach es env)) (backToKw pos (keywordEach [] env))=true:=yS hs hn
 unfold methodCall
 rw[hf]
 simp only[calleeOf,methodCallPos,hl,Gh,Bool.not_true,Gm,pure_bind]
def Tr (Cx:Ctx W k X Y E)(hcm:Y.cm=true)(F:eD W j (W.cl c) m ps sp)(hk:j<=k)(ho:PE X o to)(ha:PA X es t)(h0:es=[]->∀ U H Q,t U H Q->fJ U H Q)(hb:qO o=true)(hs:cG es=true)(hn:es.length<30)(hl:(apos.endLine == pos.line)=true) : PE X (.Call (.Attribute o m apos) es [] pos) (JC sp E (E8 (FC W c m) to t)):=by
 intro Lk s U H Q I h;let⟨f,fd,cl,hm,b,G⟩:=F.ex;have hr:=(Cx.rm hcm).mono hk;have hx:=Cx.th;rw[<-Cx.hK] at cl hm b G;rw[<-Cx.hP,<-Cx.hw,<-Cx.hmg,<-Cx.hb] at G;refine PySem.W.methodCall_KW (aX (ho Lk s U H _ I h) λu s1 ⟨x,H1,I1,rx,⟨a,dx,fs,ex,ea,l⟩,q⟩=>?_) (zcV hb hs hn hl);subst ex;obtain rfl:u=Value.ref a:=rx;refine K1 I1 ea cl hm l ?_;cases es with
 | nil=>have q:=h0 rfl _ _ _ q;exact GW (first:=[.ref a]) I1.kIn hm.kp (Je (us:=[.ref a]) (vs:=[.ref a]) G hr b hx I1 (.cons rfl .nil) q)
 | cons e es=>let⟨s1',s2⟩:=zw hs;refine gA (first:=[.ref a]) (h₀:=X.base) I.ok.mod.kin hm.kp (aX (ha pos Lk s1 U H1 _ I1 q) λus s2 ⟨vs,H2,I2,r,q2⟩=>⟨I2.kIn,?_⟩) (zg s1') (zP s2);exact Je (us:=.ref a::us) (vs:=.ref a::vs) G hr b hx I2 (.cons rfl r) q2
def XD {Lk:Li}(M:Mk X.K C f)(F:dA X.prog X.w X.K X.mg X.base (ie X.prog X.w) j f fd ps sp)(hr:bT (j+1) X.A)(hb:Binds X.K fd ps []) (hx:lL X E) (I:Inv X Lk U H s) (r:Vals vs us) (h:∀ x dx,H x=none->H dx=none->dx≠x->sp (.ref x::vs) (upd (upd H dx (.own x)) x (.ins C dx [])) (λv H2=>v=.non/\Q (.ref x) H2) λc d H'=>E c d U H') : Lb X (call (.ref C) us) (EP X Lk U Q) X.xe s:=by
 have hq:=h (s.heap.objs.size+1) s.heap.objs.size (I.hok.fresh (UM _)) (I.hok.fresh (uj _)) (Up (gp _));have I2:=Inv.made (C:=C) I;have r2:Vals (V.ref (s.heap.objs.size+1)::vs) (Value.ref (s.heap.objs.size+1)::us):=.cons rfl r;have hl:(Value.ref (s.heap.objs.size+1)::us++[]).length=ps.length:=by have e:=r2.length;rw[F.len _ _ _ _ hq] at e;rw[uH];exact e.symm
 have hb':=hb _ (Value.ref (s.heap.objs.size+1)::us) I2.kIn hl;rw[uH] at hb'
 refine UO (zdp (f:=f) I.kIn M.makes M.init (UD.mp M.fn) (gx (F.run _ X.stack _ _ ⟨Value.ref (s.heap.objs.size+1)::us,[]⟩ (Value.ref (s.heap.objs.size+1)::us) _ _ _ (hr.make C us [])
  (I2.eX.make C us []) hb' r2 hq) λr s' hq'=>?_))
 cases r with
 | error e=>exact hx e s' (Ej I2 hq')
 | ok fl=>
  cases fl with
  | ret u=>let⟨v,H',I3,rv,ev,q3⟩:=I2.after hq';subst ev;exact⟨rv,⟨V.ref (s.heap.objs.size+1),H',I3,rfl,q3⟩⟩
  | next=>exact False.elim hq'
  | brk=>exact False.elim hq'
  | cont=>exact False.elim hq'
def Tq (Cx:Ctx W k X Y E)(hcm:Y.cm=true)(F:iM W j C x ps sp)(hk:j+1<=k)(ha:PA X es t)(h0:es=[]->∀ U H Q,t U H Q->fJ U H Q)(hs:cG es=true)(hg:Gl X x)(hdb:(x == ("__debug__":Str))=false):PE X (.Call (.Name x p) es [] pos) (C6 C sp E t):=by
 intro Lk s U H Q I h;let⟨f,fd,M,b,m,G⟩:=F.ex;have hr:=(Cx.rm hcm).mono hk;have hx:=Cx.th;rw[<-Cx.hK] at M b G;rw[<-Cx.hP,<-Cx.hw,<-Cx.hmg,<-Cx.hb] at G;rw[<-Cx.hmg] at m;refine Uv (xu I hg m ?_ hdb);cases es with
 | nil=>exact GW I.kIn M.kp (XD (us:=[]) M G hr b hx I .nil (h0 rfl _ _ _ h))
 | cons e es=>let⟨s1',s2⟩:=zw hs;refine gA (h₀:=X.base) I.ok.mod.kin M.kp (aX (ha pos Lk s U H _ I h) λus s1 ⟨vs,H1,I1,r,q⟩=>⟨I1.kIn,?_⟩) (zg s1') (zP s2);exact XD M G hr b hx I1 r q
def IC (m:MU)(hK:X.K=W.K)(ho:PE X o (E5 W E oc))(ha:PA X es (A5 W E ec))(hb:qO o=true)(hl:(apos.endLine == pos.line)=true)(hs:cG es=true)(hn:es.length=rK m)(h0:es=[]->ec=[]) : PE X (.Call (.Attribute o (Ft m) apos) es [] pos) (λU H Q=>E5 W E oc U H λx H1=>pk W.K "list" x H1/\A5 W E ec U H1 λxs H2=>tJ m x xs H2 Q):=by
 match m,es,hn,ha,hs,h0 with
 | .append,[e],_,ha,hs,_=>exact Qm hK gD PySem.F.slot_list_append PySem.F.type_list_append Xc ho ha (z8 hb) (yS hs (by simp)) hl (zg (zw hs).1) rfl
 | .popI,[e],_,ha,hs,_=>exact Qm hK gD PySem.F.slot_list_pop PySem.F.type_list_pop zdx ho ha (z8 hb) (yS hs (by simp)) hl (zg (zw hs).1) rfl
 | .pop,[],_,ha,hs,h0=>cases h0 rfl;exact zm (SX hK gD PySem.F.slot_list_pop PySem.F.type_list_pop N0 ho (z8 hb) hl) λU H Q h=>q9 h λx H1 h=>⟨h.1,JX h.2⟩
 | .insert,[e1,e2],_,ha,hs,_=>exact Qm hK gD PySem.F.slot_list_insert PySem.F.type_list_insert zcC ho ha (z8 hb) (yS hs (by simp)) hl (zg (zw hs).1) (zP (zw hs).2)
end
end
variable {W:Wd} {E:XS} {k:Nat} {X:Cx} {Y:Sy} {H:Hp} {U:L2.St}
def SE (W:Wd)(k:Nat)(c:Xp):Prop:=∀ {X:Cx} {Y:Sy} {E:XS} {e:Expr},Ctx W k X Y E->aZ Y c e=true->bD W k c->PE X e (E5 W E c)
def ST (W:Wd)(k:Nat)(c:Xp):Prop:=∀ {X:Cx} {Y:Sy} {E:XS} {e:Expr},Ctx W k X Y E->fT Y c e=true->bD W k c->PT X e (T5 W E c)
def nH (W:Wd)(k:Nat)(cs:List Xp):Prop:=∀ {X:Cx} {Y:Sy} {E:XS} {es:Lg},Ctx W k X Y E->yH Y cs es=true->vj W k cs->iS X W E cs es
def tV (X:Cx)(W:Wd)(E:XS):List Xp->Lg->Prop
 | [],es=>es=[]
 | c::cs,es=>∃ e r,es=e::r/\PT X e (T5 W E c)/\tV X W E cs r
def tU (W:Wd)(k:Nat)(cs:List Xp):Prop:=∀ {X:Cx} {Y:Sy} {E:XS} {es:Lg},Ctx W k X Y E->sV Y cs es=true->vj W k cs->tV X W E cs es
theorem Cn:∀ {cs:List Xp} {es:Lg},iS X W E cs es->cs.isEmpty=false->PE X (.BoolOp (if kk then .And else .Or) es pos) (B5 W E kk cs)
 | [],_,_,h=>zJ h.symm
 | [c],_,⟨e,r,h,h1,h2⟩,_=>by subst h;rw[show r=[] from h2];exact Ny h1
 | c::d::cs,_,⟨e,r,h,h1,h2⟩,_=>by
  subst h;have ih:=Cn (kk:=kk) (pos:=pos) h2 rfl;let⟨e2,r2,rfl,_,_⟩:=h2;cases kk with
  | true=>exact zm (Nx h1 ih) λU H Q=>M5
  | false=>exact zm (LP h1 ih) λU H Q=>FV
theorem Ck:∀ {cs:List Xp} {es:Lg},tV X W E cs es->cs.isEmpty=false->PW X (.BoolOp (if kk then .And else .Or) es pos) (nE W E kk cs)
 | [],_,_,h=>zJ h.symm
 | [c],_,⟨e,r,h,h1,h2⟩,_=>by
  subst h;rw[show r=[] from h2];cases kk with
  | true=>exact SN h1
  | false=>exact NB h1
 | c::d::cs,_,⟨e,r,h,h1,h2⟩,_=>by
  subst h;have ih:=Ck (kk:=kk) (pos:=pos) h2 rfl;let⟨e2,r2,rfl,_,_⟩:=h2;cases kk with
  | true=>exact EJ (NA h1 ih) λU H Q=>M4
  | false=>exact EJ (LR h1 ih) λU H Q=>FT
def Dn {es:Lg}(h:tV X W E cs es)(hl:es.length<=1):nV X es (nE W E true cs):=by
 match cs,h with
 | [],h=>rw[show es=[] from h];intro Lk s U H Q I h;let⟨F,s,Z,vs,O,K,X4,R,h,q,x⟩:=h;exact Su Lk _ U H Q I (q true F H s Z R h)
 | [c],⟨e,r,h,h1,h2⟩=>rw[h,show r=[] from h2];exact Ss h1
 | c::d::cs,⟨e,r,h,h1,e2,r2,h2,_⟩=>rw[h,h2] at hl;exact absurd hl (by simp)
def Jp (h:iS X W E cs es)(e:es=[]):cs=[]:=by
 cases cs with
 | nil=>rfl
 | cons c cs=>let⟨_,_,h,_⟩:=h;rw[e] at h;cases h
theorem Vl:∀ {cs:List Xp} {es:Lg},iS X W E cs es->es.length=cs.length
 | [],_,h=>by rw[show _=[] from h];rfl
 | _::_,_,⟨_,_,h,_,h2⟩=>by rw[h];exact congrArg (· + 1) (Vl h2)
def Nl (ih:nH W k es):SE W k (.ap o es)/\ST W k (.ap o es):=by
 refine⟨λ{X Y E e} C h n=>?_,λ{X Y E e} C h n=>?_⟩
 ·let⟨xs,h1,h2⟩:=zl h;exact zm (ID C h1 n.1 (ih C h2 n.2)) λU H Q=>FZ
 ·let⟨xs,h1,h2⟩:=zl h;let⟨q,h3,h⟩:=zb h1;let⟨r,h4,h⟩:=zb h;let⟨b,h5,h⟩:=zb h;let⟨h6,rfl⟩:=qg h;let⟨h7,h8⟩:=zd h6;let⟨pos,rfl⟩:=Vj h4;let⟨c,d,rfl,p1,p2⟩:=fN (ih C h2 n.2);rw[dec_is h7,yb h5];exact Jj (SI (Qz h3 X C.hK C.hu) p1 p2 (by simpa using h8)) λU H Q h=>JY (FR h)
def Dm (C:Ctx W k X Y E)(h:nq e o1 o2=some x)(pa:PE X x.1 (E5 W E a))(pb:PE X x.2.1 (E5 W E b))(pc:PE X x.2.2 (E5 W E c)):PE X e (Qk (r2 W (bZ o1)) (r2 W (bZ o2)) (E5 W E a) (E5 W E b) (E5 W E c))/\PT X e (tm (Qk (r2 W (bZ o1)) (r2 W (bZ o2)) (E5 W E a) (E5 W E b) (E5 W E c))):=by
 let⟨p,h1,h⟩:=zb h;let⟨q,h2,h⟩:=zb h;let⟨c1,h3,h⟩:=zb h;let⟨c2,h4,h⟩:=zb h;let⟨h5,rfl⟩:=qg h;let⟨h6,h7⟩:=zd h5;let⟨pos,rfl⟩:=Vj h1;have hm:lastMarks [c1,c2] [q.1,q.2]=false:=by simpa using h7
 rw[dec_is h6,kJ h2];exact⟨zdl (Qz h3 X C.hK C.hu) (Qz h4 X C.hK C.hu) pa pb pc hm,zdm (Qz h3 X C.hK C.hu) (Qz h4 X C.hK C.hu) pa pb pc hm⟩
def Rx (ha:SE W k a)(hb:SE W k b)(hc:SE W k c):SE W k (.chn o1 o2 a b c)/\ST W k (.chn o1 o2 a b c):=by
 refine⟨λ{X Y E e} C h n=>?_,λ{X Y E e} C h n=>?_⟩
 ·let⟨x,h1,h2⟩:=zl h;let⟨h3,h4⟩:=zd h2;let⟨h5,h6⟩:=zd h4;exact zm (Dm C h1 (ha C h3 n.1) (hb C h5 n.2.1) (hc C h6 n.2.2)).1 λU H Q=>M3
 ·let⟨x,h1,h2⟩:=zl h;let⟨h3,h4⟩:=zd h2;let⟨h5,h6⟩:=zd h4;exact Jj (Dm C h1 (ha C h3 n.1) (hb C h5 n.2.1) (hc C h6 n.2.2)).2 λU H Q=>M0
def tup_is (h:Qy tg=true):∃ l kk pp,tg=.Tuple l kk pp:=by
 cases hq:eY tg with
 | none=>unfold Qy at h;rw[hq] at h;cases h
 | some l=>let⟨kk,pp,z⟩:=ZS hq;exact⟨l,kk,pp,z⟩
def Af (C:Ctx W k X Y E)(h:Bw Y i e (Qy tg)=some xs)(n:Ag W i)(p:iS X W E its xs):PI X tg e (I5 W E i its):=by
 have mono:∀ {t:TI},PI X tg e t->(∀ U H R,I5 W E i its U H R->t U H R)->PI X tg e (I5 W E i its):=λ{t} h k Lk s U H R I z=>h Lk s U H R I (k U H R z);by_cases hq:i=.seq
 ·subst hq;cases h;let⟨c,rfl,p1⟩:=d8 p;exact mono (MD C.hK p1) λU H R h=>q9 (ya (sW h)) λv H1 h=>PD h
 have h':((vi Y.sc (tL i) e).bind λxs=>cK ((Qy tg||decide (i=.rng))&&rV i xs.length) xs)=some xs:=by cases i<;>first | exact absurd rfl hq | exact h
 let⟨ys,h1,h2⟩:=zb h';let⟨h3,rfl⟩:=qg h2;let⟨h4,h5⟩:=zd h3;let⟨np,pos,rfl,hg,hd,hs⟩:=C.call h1;have hb:X.mg (tL i)=none:=by rw[C.hmg];cases i<;>first | exact absurd rfl hq | exact n
 have one:ys.length=1->∃ e1,ys=[e1]:=λz=>by
  match ys,z with
  | [e1],_=>exact⟨e1,rfl⟩
 have two:ys.length=2->∃ e1 e2,ys=[e1,e2]:=λz=>by
  match ys,z with
  | [e1,e2],_=>exact⟨e1,e2,rfl⟩
 cases i with
 | seq=>exact absurd rfl hq
 | rng=>
  rcases UZ.mp h5 with z | z
  ·let⟨e1,rfl⟩:=one (eq_of_beq z);let⟨c,rfl,p1⟩:=d8 p;exact mono (zck hg hb (xP p hs) (zg (zw hs).1)) λU H R h=>EH (sW h) λv H1 h=>Tc h
  ·let⟨e1,e2,rfl⟩:=two (eq_of_beq z);let⟨c,d,rfl,p1,p2⟩:=fN p;let⟨s1,s2⟩:=zw hs;have st2:starEach [e2] X.env=[(false,eval e2 X.env)]:=zg (zw s2).1;exact mono (zcl hg hb (xP p hs) (by rw[zg s1,st2]) st2) λU H R h=>PN (sW h) λv u H1 h=>Tb h
 | enumS=>let⟨e1,rfl⟩:=one (eq_of_beq h5);let⟨c,rfl,p1⟩:=d8 p;let⟨l,kk,pp,rfl⟩:=tup_is (tg:=tg) (by simpa using h4);exact mono (zdS hg hb (xP p hs) (zg (zw hs).1)) λU H R h=>EH (sW h) λv H1 h=>zcR h
def Nk (io:SE W k o)(ih:nH W k es):SE W k (.me m o es):=λ{X Y E e} C h n=>by
 let⟨q,h1,h2⟩:=zl h;let⟨h3,h4⟩:=zd h2;let⟨h5,h6⟩:=zd h4;let⟨h7,h8⟩:=zd h6;let⟨apos,pos,rfl,hl,hs,hn⟩:=Jm h1;have p:=ih C h8 n.2;revert h5 hs hn p
 match q.2 with
 | []=>intro h5;exact zJ h5
 | e0::es0=>intro h5 hs hn p;exact zm (HX m C.hK (io C h7 n.1) (xP p hs) h3 hl hs hn) λU H Q=>FW
def Tp (ih:nH W k es):SE W k (.call hd ms f es):=λ{X Y E e} C h n=>by
 let⟨hcm,h⟩:=zd h;let⟨xs,h1,h2⟩:=zl h;have p:=ih C h2 n.2;cases hd with
 | fn x=>
  let⟨np,pos,rfl,hg,hdb,hs⟩:=C.call h1;let⟨k',ps,hk,F⟩:=n.1;rw[<-C.hP,<-C.hw,<-C.hK,<-C.hmg,<-C.hb] at F;cases xs with
  | nil=>cases Jp p rfl;exact zm (zcU C.th F (C.rm hcm) hk hg hdb) λU H Q h=>JX (ED h)
  | cons e0 es0=>let⟨s1,s2⟩:=zw hs;exact zm (zdM C.th F (C.rm hcm) hk (xP p hs) hg hdb (zg s1) (zP s2)) λU H Q=>ED
 | mk c x=>let⟨np,pos,rfl,hg,hdb,hs⟩:=C.call h1;let⟨k',ps,hk,F⟩:=n.1;exact zm (Tq C hcm F hk (xP p hs) (λz=>by cases Jp p z;exact λU H Q=>JX) hs hg hdb) λU H Q=>PJ
 | mt c x=>
  let⟨q,h3,h4⟩:=zb h1;let⟨h5,rfl⟩:=qg h4;let⟨h6,h7⟩:=zd h5;let⟨apos,pos,rfl,hl,hs,hn⟩:=Jm h3;let⟨k',ps,hk,F⟩:=n.1;cases es with
  | nil=>cases p
  | cons o es=>let⟨e0,r,e1,p1,p2⟩:=p;cases e1;exact zm (Tr C hcm F hk p1 (xP p2 hs) (λz=>by cases Jp p2 z;exact λU H Q=>JX) h6 hs hn hl) λU H Q=>PK
def Nj (io:SE W k o)(ih:nH W k es):SE W k (.mu m o es):=λ{X Y E e} C h n=>by let⟨q,h1,h2⟩:=zl h;let⟨h5,h6⟩:=zd h2;let⟨h7,h8⟩:=zd h6;let⟨h9,h10⟩:=zd h8;let⟨apos,pos,rfl,hl,hs,hn⟩:=Jm h1;have p:=ih C h10 n.2;exact zm (IC m C.hK (io C h9 n.1) (xP p hs) h5 hl hs (dec_is h7) (Jp p)) λU H Q=>FP
def Rw (ih:SE W k a):SE W k (.tpl a):=λ{X Y E e} C h n=>by
 let⟨hc,h⟩:=zd h;let⟨xs,h1,h2⟩:=zl h;let⟨x,h3,h4⟩:=zl h2;let⟨np,pos,rfl,hg,hdb,hs⟩:=C.call h1;rw[yb h3] at hs |-;let⟨s1,s2⟩:=zw hs;have hb:X.mg "tuple" = none:=by rw[C.hmg];exact n.1
 exact zm (vN Zc hg hb JI (zT (ih C h4 n.2) wq (zg s1)) aA aA (zg s1) (zP s2)) λU H Q h=>q9 (M8 h) λv H1 ⟨p,ys,e,h1,h2⟩=>by rw[<-C.hK] at h1;exact⟨p,ys,congrArg (λz=>[z]) e,.inl ⟨h1,h2⟩⟩
def Ni (he:SE W k elt)(hi:nH W k its)(ht:tU W k ifs):SE W k (.lc elt n i its ifs):=λ{X Y E e} C h nn=>by let⟨p,h1,h⟩:=zl h;let⟨g,h2,h⟩:=zl h;let⟨hc,h⟩:=zd h;let⟨h3,h⟩:=zd h;let⟨h4,h⟩:=zd h;let⟨h5,h⟩:=zd h;let⟨q,h6,h⟩:=zl h;let⟨h7,h⟩:=zd h;let⟨h8,h⟩:=zd h;let⟨h9,h⟩:=zd h;let⟨h10,h11⟩:=zd h;let⟨xs,h12,h13⟩:=zl h5;let⟨pos,rfl⟩:=Ds h1;let⟨L,bl⟩:=C.blk hc h9;obtain rfl:q.2.length=n:=dec_is h7;rw[Dr h2];have t1:q.1=decide (q.2.length≠1):=dec_is h8;refine zm (MV L (Af C h12 nn.1 (hi C h13 nn.2.2.1)) (λcl Ca s3 H3 fp=>Dn (ht (bl cl Ca s3 H3 fp) h11 nn.2.2.2) (dec_is h4)) (λcl Ca s3 H3 fp=>he (bl cl Ca s3 H3 fp) h10 nn.2.1) (C.tgt L h6) (C4 t1) (AD h3)) λU H Q h=>?_;rw[t1];exact Ct h
def eS (h:∀ Y e,fT Y c e=true->False):ST W k c:=λ{X Y E e} C z _=>(h Y e z).elim
def snd (c:Xp):SE W k c/\ST W k c:=by
 refine Xp.rec (motive_1:=λc=>SE W k c/\ST W k c) (motive_2:=λcs=>nH W k cs/\tU W k cs) ?_ ?_ ?_ ?_ ?_ ?_ ?_ ?_ ?_ ?_ ?_ ?_ ?_ ?_ ?_ ?_ ?_ ?_ ?_ ?_ ?_ ?_ ?_ ?_ ?_ ?_ c
 ·exact λi=>⟨λ{X Y E e} C h n=>zm (C.var h) λU H Q=>BI,eS λ_ _=>zJ⟩
 ·exact λi=>⟨λ{X Y E e} C h n=>zm (C.var h) λU H Q=>BJ,eS λ_ _=>zJ⟩
 ·refine λt=>⟨λ{X Y E e} C h n=>?_,eS λ_ _=>zJ⟩
  let⟨c,h1,h2⟩:=zl h;let⟨s1,v,k1,k2⟩:=MJ (W:=W) (j:=c.2.1) (pos:=c.2.2) h2;rw[RB h1];exact zm (k1 X) λU H Q=>C8 (λ_ _ _ _ z=>z) s1 k2
 ·refine λx t=>⟨λ{X Y E e} C h n=>?_,eS λ_ _=>zJ⟩
  let⟨p,rfl,g1,g2⟩:=C.gl h;let⟨s1,v,k1,u,k2,k3⟩:=n;exact zm (sR (by rw[C.hmg];exact⟨u,k2,k3⟩) g1 g2) λU H Q=>C8 (λ_ _ _ _ z=>z) s1 k1
 ·exact λa ih=>⟨λ{X Y E e} C h n=>zm (ih.1 C h n) λU H Q=>Cy,eS λ_ _=>zJ⟩
 ·exact λo es ih=>Nl ih.1
 ·exact λm o es io ih=>⟨Nk io.1 ih.1,eS λ_ _=>zJ⟩
 ·exact λo1 o2 a b c ha hb hc=>Rx ha.1 hb.1 hc.1
 ·refine λkk es ih=>⟨λ{X Y E e} C h n=>?_,eS λ_ _=>zJ⟩
  let⟨p,h1,h2⟩:=zl h;let⟨h3,h4⟩:=zd h2;let⟨h5,h6⟩:=zd h4;let⟨pos,rfl⟩:=Dt h1;rw[dec_is h3];exact Cn (ih.1 C h6 n) (by simpa using h5)
 ·refine λa ih=>⟨λ{X Y E e} C h n=>?_,eS λ_ _=>zJ⟩
  let⟨p,h1,h2⟩:=zl h;let⟨h3,h4⟩:=zd h2;let⟨pos,rfl⟩:=Ar h1;rw[dec_is h3];exact zm (Nv (ih.1 C h4 n)) λU H Q=>M6
 ·refine λa ih=>⟨λ{X Y E e} C h n=>zJ h,λ{X Y E e} C h n=>?_⟩
  let⟨h3,h4⟩:=zd h;exact Jj (zcG C.hK (ih.1 C h4 n) (P7 h3)) λU H Q=>A2
 ·refine λa ih=>⟨λ{X Y E e} C h n=>zJ h,λ{X Y E e} C h n=>?_⟩
  let⟨p,h1,h2⟩:=zl h;let⟨h3,h4⟩:=zd h2;let⟨pos,rfl⟩:=Ar h1;rw[dec_is h3];exact Jj (Nz (ih.2 C h4 n)) λU H Q=>FU
 ·refine λkk es ih=>⟨λ{X Y E e} C h n=>zJ h,λ{X Y E e} C h n=>?_⟩
  let⟨p,h1,h2⟩:=zl h;let⟨h3,h4⟩:=zd h2;let⟨h5,h6⟩:=zd h4;let⟨pos,rfl⟩:=Dt h1;rw[dec_is h3];exact(Ck (ih.2 C h6 n) (by simpa using h5)).pt
 ·refine λt a b it ia ib=>⟨λ{X Y E e} C h n=>?_,eS λ_ _=>zJ⟩
  let⟨p,h1,h2⟩:=zl h;let⟨h3,h4⟩:=zd h2;let⟨h5,h6⟩:=zd h4;let⟨pos,rfl⟩:=MK h1;exact zm (zde (it.2 C h3 n.1) (ia.1 C h5 n.2.1) (ib.1 C h6 n.2.2)) λU H Q=>MZ
 ·refine λes ih=>⟨λ{X Y E e} C h n=>?_,eS λ_ _=>zJ⟩
  let⟨p,h1,h2⟩:=zl h;let⟨h3,h4⟩:=zd h2;let⟨h5,h6⟩:=zd h4;let⟨pos,rfl⟩:=Rz h1;have pp:=ih.1 C h6 n;have hl:=Vl pp;have h7:=dec_is h5;exact zm (N5 (xP pp h3)) λU H Q=>Nb aB
 ·refine λes ih=>⟨λ{X Y E e} C h n=>?_,eS λ_ _=>zJ⟩
  let⟨p,h1,h2⟩:=zl h;let⟨h3,h4⟩:=zd h2;let⟨h5,h6⟩:=zd h4;let⟨kk,pos,rfl⟩:=ZS h1;have pp:=ih.1 C h6 n;have hl:=Vl pp;have h7:=dec_is h5;exact zm (K7 (xP pp h3)) λU H Q=>Na aB
 ·refine⟨λ{X Y E e} C h n=>?_,eS λ_ _=>zJ⟩;have h:FA e=true:=h;cases e with
  | Dict a b p=>cases a<;>cases b<;>first | exact zJ h | exact zm L9 λU H Q=>M9
  | _=>exact zJ h
 ·exact λa ih=>⟨Rw ih.1,eS λ_ _=>zJ⟩
 ·refine λa b ia ib=>⟨λ{X Y E e} C h n=>?_,eS λ_ _=>zJ⟩
  let⟨p,h1,h2⟩:=zl h;let⟨h3,h4⟩:=zd h2;let⟨h5,h6⟩:=zd h4;let⟨pos,rfl⟩:=Vk h1;exact zm (LB (M7 C.hK C.hu) (ia.1 C h5 n.1) (ib.1 C h6 n.2) (zdY h3)) λU H Q=>FY
 ·refine λa c f ia=>⟨λ{X Y E e} C h n=>?_,eS λ_ _=>zJ⟩
  let⟨p,h1,h2⟩:=zl h;let⟨h3,h4⟩:=zd h2;let⟨h5,h6⟩:=zd h4;rw[Jl h1,dec_is h3];refine zm (N7 (ia.1 C h6 n.2) (z8 h5)) λU H Q h=>?_;rw[C.hK];exact FX n.1.1 n.1.2 h
 ·refine λa f cs ia=>⟨λ{X Y E e} C h n=>?_,eS λ_ _=>zJ⟩
  let⟨p,h1,h2⟩:=zl h;let⟨h3,h4⟩:=zd h2;let⟨h5,h6⟩:=zd h4;rw[Jl h1,dec_is h3];exact zm (NQ C.hK (ia.1 C h6 n.2) (z8 h5)) λU H Q h=>MN n.1 h
 ·exact λhd ms f es ih=>⟨Tp ih.1,eS λ_ _=>zJ⟩
 ·exact λm o es io ih=>⟨Nj io.1 ih.1,eS λ_ _=>zJ⟩
 ·exact λelt n i its ifs he hi ht=>⟨Ni he.1 hi.1 ht.2,eS λ_ _=>zJ⟩
 ·exact⟨λ{X Y E es} C h n=>Um.mp h,λ{X Y E es} C h n=>Um.mp h⟩
 ·refine λc cs hc hs=>⟨λ{X Y E es} C h n=>?_,λ{X Y E es} C h n=>?_⟩
  ·cases es with
   | nil=>exact zJ h
   | cons e es=>let⟨h1,h2⟩:=zd h;exact⟨e,es,rfl,hc.1 C h1 n.1,hs.1 C h2 n.2⟩
  ·cases es with
   | nil=>exact zJ h
   | cons e es=>let⟨h1,h2⟩:=zd h;exact⟨e,es,rfl,hc.2 C h1 n.1,hs.2 C h2 n.2⟩
def pS (cs:List Xp):nH W k cs:=by
 induction cs with
 | nil=>exact λ{X Y E es} C h n=>Um.mp h
 | cons c cs ih=>
  refine λ{X Y E es} C h n=>?_;cases es with
  | nil=>exact zJ h
  | cons e es=>let⟨h1,h2⟩:=zd h;exact⟨e,es,rfl,(snd c).1 C h1 n.1,ih C h2 n.2⟩
end
variable {W:Wd} {E:XS} {k:Nat} {X:Cx} {Y:Sy} {H:Hp} {U:L2.St}
noncomputable def pU:Stmt->Option (Option Expr)
 | .Return e _=>some e
 | _=>none
def pY:Stmt->Option (Lg×Expr×Pos)
 | .Assign tg e p=>some (tg,e,p)
 | _=>none
noncomputable def pX:Stmt->Option (Expr×Operator×Expr)
 | .AugAssign t o e _=>some (t,o,e)
 | _=>none
noncomputable def Fc:Stmt->Option (Expr×List Stmt×List Stmt)
 | .If t a b _=>some (t,a,b)
 | _=>none
noncomputable def pV:Stmt->Option (Expr×Expr×List Stmt)
 | .For t i b [] _=>some (t,i,b)
 | _=>none
noncomputable def Fb:Stmt->Option (Expr×List Stmt)
 | .While t b [] _=>some (t,b)
 | _=>none
noncomputable def Fd:Stmt->Option Expr
 | .Expr e _=>some e
 | _=>none
def Rv (h:pU s=some x):∃ p,s=.Return x p:=by cases s<;>first | exact zj h | (cases h;exact⟨_,rfl⟩)
def Ru (h:pY s=some x):s=.Assign x.1 x.2.1 x.2.2:=by cases s<;>first | exact zj h | (cases h;rfl)
def Rt (h:pX s=some x):∃ p,s=.AugAssign x.1 x.2.1 x.2.2 p:=by cases s<;>first | exact zj h | (cases h;exact⟨_,rfl⟩)
def Nh (h:Fc s=some x):∃ p,s=.If x.1 x.2.1 x.2.2 p:=by cases s<;>first | exact zj h | (cases h;exact⟨_,rfl⟩)
def Ro (h:pV s=some x):∃ p,s=.For x.1 x.2.1 x.2.2 [] p:=by
 cases s with
 | For t i b e p=>
  cases e with
  | nil=>cases h;exact⟨_,rfl⟩
  | cons _ _=>cases h
 | _=>cases h
def Ng (h:Fb s=some x):∃ p,s=.While x.1 x.2 [] p:=by
 cases s with
 | While t b e p=>
  cases e with
  | nil=>cases h;exact⟨_,rfl⟩
  | cons _ _=>cases h
 | _=>cases h
def Nf (h:Fd s=some x):∃ p,s=.Expr x p:=by cases s<;>first | exact zj h | (cases h;exact⟨_,rfl⟩)
noncomputable def mV:Stmt->Option Expr
 | .Raise (some e) none _=>some e
 | _=>none
noncomputable def pT:Stmt->Option (List Stmt×List ExceptHandler)
 | .Try b hs [] [] _=>some (b,hs)
 | _=>none
noncomputable def rW:List ExceptHandler->Option (Expr×Str×List Stmt)
 | [.ExceptHandler (some t) (some n) b _]=>some (t,n,b)
 | _=>none
def Ey (h:mV s=some e):∃ p,s=.Raise (some e) none p:=by
 cases s with
 | Raise a b p=>cases a<;>cases b<;>first | exact zj h | (cases h;exact⟨_,rfl⟩)
 | _=>exact zj h
def Rn (h:pT s=some x):∃ p,s=.Try x.1 x.2 [] [] p:=by
 cases s with
 | Try a b c d p=>cases c<;>cases d<;>first | exact zj h | (cases h;exact⟨_,rfl⟩)
 | _=>exact zj h
def Rm (h:rW hs=some x):∃ p,hs=[.ExceptHandler (some x.1) (some x.2.1) x.2.2 p]:=by
 cases hs with
 | nil=>exact zj h
 | cons a t=>let⟨a,b,c,p⟩:=a;cases t<;>cases a<;>cases b<;>first | exact zj h | (cases h;exact⟨_,rfl⟩)
def fu (Y:Sy)(i:Nat)(e:Expr):Bool:=(eName e).any λx=>decide (Y.N[i]? = some x)&&(decide (Y.sc.names.lookup x=some .local)||decide (Y.sc.names.lookup x=some .cell))
def YV (Y:Sy):Lc->Lg->Bool
 | [],es=>es.isEmpty
 | i::is,es=>match es with
  | e::es=>fu Y i e&&YV Y is es
  | []=>false
noncomputable def BB:Xp->Bool
 | .lc _ _ _ _ _=>true
 | _=>false
def Bz:Xp->Bool
 | .lc _ _ _ _ _=>true
 | .fz e=>BB e
 | _=>false
def plainS (tg e:Expr):Bool:=X8 e&&(!star tg&&(rH tg||CH e))
def BP (Y:Sy)(t:Tg)(e:Xp)(tg e':Expr):Bool:=
 match t with
 | .v i=>(plainS tg e'||Bz e)&&(fu Y i tg&&aZ Y e e')
 | .tup is=>plainS tg e'&&(Y.cm&&((eY tg).any (λes=>YV Y is es)&&aZ Y e e'))
 | .sub p k=>plainS tg e'&&((mj tg).any (λq=>Jf q.2&&(aZ Y p q.1&&aZ Y k q.2))&&aZ Y e e')
 | .fld p _ f=>X8 e'&&((lp tg).any (λq=>decide (q.2.1=f)&&aZ Y p q.1)&&aZ Y e e')
def BO (Y:Sy)(t:Tg)(tg:Expr):Bool:=
 match t with
 | .v i=>fu Y i tg
 | .tup is=>(eY tg).any λes=>YV Y is es
 | _=>false
noncomputable def opN:Op->Option Operator
 | .add=>some .Add
 | .sub=>some .Sub
 | _=>none
mutual
def su (Y:Sy):Cm->Stmt->Bool
 | .ret e=>λs=>(pU s).any λo=>o.any λe'=>aZ Y e e'
 | .asg t e=>λs=>(pY s).any λp=>(one? p.1).any λtg=>BP Y t e tg p.2.1
 | .aug i op e=>λs=>(pX s).any λp=>decide (opN op=some p.2.1)&&(fu Y i p.1&&aZ Y e p.2.2)
 | .ife t a b=>λs=>(Fc s).any λp=>fT Y t p.1&&(zA Y a p.2.1&&zA Y b p.2.2)
 | .loop t k its b=>λs=>(pV s).any λp=>Y.cm&&(An p.2.1&&(BO Y t p.1&&((Bw Y k p.2.1 (Qy p.1)).any (λxs=>yH Y its xs)&&zA Y b p.2.2)))
 | .whl t b=>λs=>(Fb s).any λp=>fT Y t p.1&&zA Y b p.2
 | .ex e=>λs=>(Fd s).any λe'=>X8 e'&&aZ Y e e'
 | .never=>λ_=>true
 | .raise _ x _ _ e=>λs=>(mV s).any λc=>Y.cm&&(vi Y.sc x c).any λxs=>(one? xs).any λa=>aZ Y e a
 | .raise0 _ x e=>λs=>(mV s).any λc=>Y.cm&&(vi Y.sc x c).any λxs=>(one? xs).any λa=>aZ Y e a
 | .tri x i _ b h=>λs=>(pT s).any λp=>(rW p.2).any λq=>(decide (Y.N[i]? = some q.2.1)&&decide (Y.sc.names.lookup q.2.1=some .local))&&(yG Y.sc x q.1&&(!q.2.2.isEmpty&&(zA Y b p.1&&zA ⟨Y.N,Y.sc,false⟩ h q.2.2)))
def zA (Y:Sy):List Cm->List Stmt->Bool
 | []=>λss=>ss.isEmpty
 | c::cs=>λss=>match ss with
  | s::ss=>su Y c s&&zA Y cs ss
  | []=>false
end
def IB (W:Wd)(k:Nat):Tg->Prop
 | .sub p i=>bD W k p/\bD W k i
 | .fld p c f=>(dU W.K (W.cl c)/\qT W.K (W.cl c) f)/\bD W k p
 | _=>True
mutual
def Cj (W:Wd)(k:Nat):Cm->Prop
 | .ret e=>bD W k e
 | .asg t e=>IB W k t/\bD W k e
 | .aug _ _ e=>bD W k e
 | .ife t a b=>bD W k t/\jR W k a/\jR W k b
 | .loop _ i its b=>Ag W i/\vj W k its/\jR W k b
 | .whl t b=>bD W k t/\jR W k b
 | .ex e=>bD W k e
 | .raise c x f any e=>(2<=k/\lP W.P W.w W.K W.mg W.base x (W.cl c) f (d9 any))/\bD W k e
 | .raise0 c x e=>mD W.K W.mg x (W.cl c)/\bD W k e
 | .tri x _ mt b h=>(∃ Dc,W.mg x=some (.ref Dc)/\dw W.K Dc/\∀ c∈mt,dw W.K (W.cl c)/\PySem.W.mroIn W.K (W.cl c) (.ref Dc)=some true)/\jR W k b/\jR W k h
 | _=>True
def jR (W:Wd)(k:Nat):List Cm->Prop
 | []=>True
 | c::cs=>Cj W k c/\jR W k cs
end
structure eG (W:Wd)(k:Nat)(X:Cx)(Y:Sy)(E:XS):Prop extends Ctx W k X Y E where
 po:PassesOwn (model X.prog X.w) X.A X.env X.xe
 fn:∀ x,X.fn x=true
 sk:X.stack=X.env::X.outer
 fr:X.env.frame=some X.env.locals
def Ew (h:fu Y i e=true):∃ x p,e=.Name x p/\Y.N[i]? = some x/\Loc Y.sc x:=by
 let⟨x,h1,h2⟩:=zl h;let⟨p,rfl⟩:=JZ h1;let⟨h3,h4⟩:=zd h2;refine⟨x,p,rfl,dec_is h3,?_⟩;rcases UZ.mp h4 with z | z
 ·exact .inl (dec_is z)
 ·exact .inr (dec_is z)
def eG.loc (C:eG W k X Y E)(h:fu Y i e=true):∃ x p,e=.Name x p/\X.N.Nodup/\X.N[i]? = some x/\Loc X.env.scope x:=by let⟨x,p,rfl,h1,h2⟩:=Ew h;exact⟨x,p,rfl,by rw[C.hN];exact C.nd,by rw[C.hN];exact h1,by rw[C.hs];exact h2⟩
def eG.pgn (C:eG W k X Y E)(h:fu Y i e=true):PG X e (vM i):=by let⟨x,p,rfl,h1,h2,h3⟩:=C.loc h;exact XT h1 h2 h3 (.inl (C.fn x))
theorem eG.pgns (C:eG W k X Y E):∀ {is:Lc} {es:Lg},YV Y is es=true->nW X es (is.foldr (λi g=>Yd (vM i) g) lg)/\(assignEach es X.env).length=is.length/\(assignEach es X.env).findIdx? (·.1)=none
 | [],es,h=>by rw[Um.mp h];exact⟨EZ,rfl,rfl⟩
 | i::is,[],h=>zJ h
 | i::is,e::es,h=>by let⟨h1,h2⟩:=zd h;let⟨p1,p2,p3⟩:=C.pgns h2;have hn:=C.pgn h1;let⟨x,p,rfl,_⟩:=Ew h1;have ac:(assignEach (.Name x p::es) X.env)=(false,assign (.Name x p) X.env)::assignEach es X.env:=rfl;exact⟨Ye hn p1 rfl,by rw[ac,uc,uc,p2],by rw[ac,Ge,p3];rfl⟩
def eG.pgt (C:eG W k X Y E)(hc:Y.cm=true)(h:((eY tg).any λes=>YV Y is es)=true):PG X tg (r8 W is):=by let⟨es,h1,h2⟩:=zl h;let⟨kk,p,rfl⟩:=ZS h1;let⟨p1,p2,p3⟩:=C.pgns h2;unfold r8;rw[<-C.hK];exact DI (C.hc.trans hc) p1 p2 p3
def J0 (h:plainS tg e=true)(he:PE X e te)(hg:PG X tg g):PS X (.Assign [tg] e pos) (fK te g):=by let⟨h1,h2⟩:=zd h;let⟨h2,h3⟩:=zd h2;exact Nr he hg (X9 h1) (zcO h3) (zao (by simpa using h2))
def Nd (h:Jf i=true)(v:Value):assign (.Subscript o i pos) env v=(do
   let ov <-holding [v] (eval o env)
   let iv <-holding [v,ov] (eval i env)
   standAt pos
   holding [v,ov,iv] (setItem ov iv v)
   release [v,ov,iv] []):=by cases i<;>first | rfl | cases h
def qw (h:PS X s t)(k:∀ D U H,t' D U H->t D U H):PS X s t':=λLk sh U H D I z=>h Lk sh U H D I (k D U H z)
def ZT (h:eC X s t)(k:∀ D U H,t' D U H->t D U H):eC X s t':=λLk sh U H D I z=>h Lk sh U H D I (k D U H z)
def SS (W:Wd)(k:Nat)(c:Cm):Prop:=∀ {X:Cx} {Y:Sy} {E:XS} {s:Stmt},eG W k X Y E->su Y c s=true->Cj W k c->PS X s (S5 W E (WS c))
def FH (W:Wd)(k:Nat)(cs:List Cm):Prop:=∀ {X:Cx} {Y:Sy} {E:XS} {ss:List Stmt},eG W k X Y E->zA Y cs ss=true->jR W k cs->eC X ss (S5 W E (bN cs))
def XE (C:eG W k X Y E){spos:Pos}(hw:∀ {U:L2.St} {H:Hp} {Q:VK},E5 W E c' U H Q->E5 W E (.lc elt n ik its ifs) U H Q)(hl:fu Y i tg=true)(h:aZ Y (.lc elt n ik its ifs) e=true)(nn:bD W k (.lc elt n ik its ifs)):PS X (.Assign [tg] e spos) (S5 W E (WS (.asg (.v i) c'))):=by
 have pe:=(snd (.lc elt n ik its ifs)).1 C.toCtx h nn;let⟨z,pz,rfl,hN,hi',hz⟩:=C.loc hl;let⟨p,h1,h⟩:=zl h;let⟨g,h2,h⟩:=zl h;let⟨hc,h⟩:=zd h;let⟨h3,h⟩:=zd h;let⟨h4,h⟩:=zd h;let⟨h5,h⟩:=zd h;let⟨q,h6,h⟩:=zl h;let⟨h7,h⟩:=zd h;let⟨h8,h⟩:=zd h;let⟨h9,h⟩:=zd h;let⟨h10,h11⟩:=zd h;let⟨xs,h12,h13⟩:=zl h5;let⟨pos,rfl⟩:=Ds h1;obtain⟨b,hb⟩:∃ b,swapsWith (.ListComp p.1 p.2.1 p.2.2 pos) (some (.Name z pz)) spos.line X.env=pure b:=⟨_,rfl⟩
 cases b with
 | false=>exact qw (Nq hN hi' hz (zm pe λU H Q=>hw) hb (.inl (C.fn z))) λD U H=>As
 | true=>
  let⟨L,bl⟩:=C.toCtx.blk hc h9;obtain rfl:q.2.length=n:=dec_is h7;rw[Dr h2] at hb |-;have t1:q.1=decide (q.2.length≠1):=dec_is h8
  have ht:tU W k ifs:=λ{X Y E es} C h n=>by
   have:∀ cs:List Xp,tU W k cs:=λcs=>by
    induction cs with
    | nil=>exact λ{X Y E es} C h n=>Um.mp h
    | cons c cs ih=>
     refine λ{X Y E es} C h n=>?_;cases es with
     | nil=>exact zJ h
     | cons e es=>let⟨h1,h2⟩:=zd h;exact⟨e,es,rfl,(snd c).2 C h1 n.1,ih C h2 n.2⟩
   exact this ifs C h n
  refine qw (zcS hN hi' hz L (Af C.toCtx h12 nn.1 (pS its C.toCtx h13 nn.2.2.1)) (λcl Ca s3 H3 fp=>Dn (ht (bl cl Ca s3 H3 fp) h11 nn.2.2.2) (dec_is h4)) (λcl Ca s3 H3 fp=>(snd elt).1 (bl cl Ca s3 H3 fp) h10 nn.2.1) (C.toCtx.tgt L h6) (C4 t1) (AD h3) hb (.inl (C.fn z))) λD U H h=>?_;rw[t1];exact Ct (hw (As h))
def Rl:SS W k (.asg t c):=λ{X Y E s} C h n=>by
 let⟨p,h1,h2⟩:=zl h;let⟨tg,h3,h4⟩:=zl h2;rw[Ru h1,yb h3];have he:aZ Y c p.2.1=true->PE X p.2.1 (E5 W E c):=λh=>(snd c).1 C.toCtx h n.2;cases t with
 | v i=>
  let⟨h5,h6⟩:=zd h4;let⟨h7,h8⟩:=zd h6;rcases UZ.mp h5 with h5 | h5
  ·exact qw (J0 h5 (he h8) (C.pgn h7)) λD U H=>As
  ·cases c with
   | lc elt m ik its ifs=>exact XE C id h7 h8 n.2
   | fz c=>cases c with
    | lc elt m ik its ifs=>exact XE C Cy h7 h8 n.2
    | _=>exact zJ h5
   | _=>exact zJ h5
 | tup is=>let⟨h5,h6⟩:=zd h4;let⟨h7,h8⟩:=zd h6;let⟨h9,h10⟩:=zd h8;exact qw (J0 h5 (he h10) (C.pgt h7 h9)) λD U H=>PC
 | sub o i=>let⟨h5,h6⟩:=zd h4;let⟨h7,h8⟩:=zd h6;let⟨q,h9,h10⟩:=zl h7;let⟨h11,h12⟩:=zd h10;let⟨h13,h14⟩:=zd h12;let⟨pp,rfl⟩:=Vk h9;exact qw (J0 h5 (he h8) (Nt ((snd o).1 C.toCtx h13 n.1.1) ((snd i).1 C.toCtx h14 n.1.2) (S8 C.toCtx.hu) (Nd h11))) λD U H=>MQ
 | fld o cc f=>let⟨h5,h6⟩:=zd h4;let⟨h7,h8⟩:=zd h6;let⟨q,h9,h10⟩:=zl h7;let⟨h11,h12⟩:=zd h10;rw[Jl h9,dec_is h11];refine qw (N6 ((snd o).1 C.toCtx h12 n.1.2) (he h8) (X9 h5)) λD U H h=>?_;rw[C.hK];exact MP n.1.1.1 n.1.1.2 h
def A4 (c:Cm):SS W k c:=by
 refine Cm.rec (motive_1:=λc=>SS W k c) (motive_2:=λcs=>FH W k cs) ?_ ?_ ?_ ?_ ?_ ?_ ?_ ?_ ?_ ?_ ?_ ?_ ?_ c
 ·refine λe=>λ{X Y E s} C h n=>?_;let⟨o,h1,h2⟩:=zl h;let⟨p,rfl⟩:=Rv h1;let⟨e',rfl,h3⟩:=zl h2;exact qw (Nu ((snd e).1 C.toCtx h3 n)) λD U H=>MS
 ·exact λt e=>Rl
 ·refine λi o e=>λ{X Y E s} C h n=>?_;let⟨p,h1,h2⟩:=zl h;let⟨h3,h4⟩:=zd h2;let⟨h5,h6⟩:=zd h4;let⟨pos,rfl⟩:=Rt h1;let⟨x,px,hx,l1,l2,l3⟩:=C.loc h5;have pe:=(snd e).1 C.toCtx h6 n;rw[hx];have h3:=dec_is h3;revert h3;cases o<;>intro h3<;>first | exact zj h3 | skip
  ·rw[<-uQ h3];exact qw (DH l1 l2 l3 pe Np (.inl (C.fn _))) λD U H=>C2 (.inl rfl)
  ·rw[<-uQ h3];exact qw (DH l1 l2 l3 pe Nn (.inl (C.fn _))) λD U H=>C2 (.inr rfl)
 ·refine λt a b ia ib=>λ{X Y E s} C h n=>?_;let⟨p,h1,h2⟩:=zl h;let⟨h3,h4⟩:=zd h2;let⟨h5,h6⟩:=zd h4;let⟨pos,rfl⟩:=Nh h1;exact qw (LO ((snd t).2 C.toCtx h3 n.1) (ia C h5 n.2.1) (ib C h6 n.2.2)) λD U H=>MR
 ·refine λt i its b ib=>λ{X Y E s} C h n=>?_;let⟨p,h1,h2⟩:=zl h;let⟨hc,h⟩:=zd h2;let⟨h3,h⟩:=zd h;let⟨h4,h⟩:=zd h;let⟨h5,h6⟩:=zd h;let⟨xs,h7,h8⟩:=zl h5;let⟨pos,rfl⟩:=Ro h1
  have pg:PG X p.1 (AZ W t):=by
   cases t with
   | v i=>exact C.pgn h4
   | tup is=>exact C.pgt hc h4
   | _=>exact zJ h4
  exact qw (OW C.po (C.hc.trans hc) (Af C.toCtx h7 n.1 (pS its C.toCtx h8 n.2.1)) pg (ib C h6 n.2.2) (AD h3)) λD U H=>RE
 ·refine λt b ib=>λ{X Y E s} C h n=>?_;let⟨p,h1,h2⟩:=zl h;let⟨h3,h4⟩:=zd h2;let⟨pos,rfl⟩:=Ng h1;exact qw (zdj C.po ((snd t).2 C.toCtx h3 n.1) (ib C h4 n.2)) λD U H=>MO
 ·refine λe=>λ{X Y E s} C h n=>?_;let⟨e',h1,h2⟩:=zl h;let⟨h3,h4⟩:=zd h2;let⟨pos,rfl⟩:=Nf h1;exact qw (Jc ((snd e).1 C.toCtx h4 n) (X9 h3)) λD U H=>FK
 ·exact λ{X Y E s} C h n=>λLk sh U H D I z=>S9 z
 ·refine λc x f any e=>λ{X Y E s} C h n=>?_;let⟨ce,h1,h4⟩:=zl h;let⟨hc,h5⟩:=zd h4;let⟨xs,h2,h6⟩:=zl h5;let⟨a,h3,h7⟩:=zl h6;let⟨pos,rfl⟩:=Ey h1;let⟨np,cpos,rfl,hg,hd,hs⟩:=C.toCtx.call h2;rw[yb h3] at hs |-;let⟨s1,s2⟩:=zw hs;have pe:=(snd e).1 C.toCtx h7 n.2;have R:lP X.prog X.w X.K X.mg X.base x (W.cl c) f (d9 any):=by rw[C.hP,C.hw,C.hK,C.hmg,C.hb];exact n.1.2
  exact qw (zdR C.th R (C.rm hc) n.1.1 (xP (cs:=[e]) ⟨_,_,rfl,pe,rfl⟩ hs) hg hd (zg s1) (zP s2)) λD U H=>Tt
 ·refine λc x e=>λ{X Y E s} C h n=>?_;let⟨ce,h1,h4⟩:=zl h;let⟨hc,h5⟩:=zd h4;let⟨xs,h2,h6⟩:=zl h5;let⟨a,h3,h7⟩:=zl h6;let⟨pos,rfl⟩:=Ey h1;let⟨np,cpos,rfl,hg,hd,hs⟩:=C.toCtx.call h2;rw[yb h3] at hs |-;let⟨s1,s2⟩:=zw hs;have pe:=(snd e).1 C.toCtx h7 n.2;have R:mD X.K X.mg x (W.cl c):=by rw[C.hK,C.hmg];exact n.1
  exact qw (zcM C.th R (C.rm hc).hd (xP (cs:=[e]) ⟨_,_,rfl,pe,rfl⟩ hs) hg hd (zg s1) (zP s2)) λD U H=>zcT
 ·refine λx i mt b hd ib ih=>λ{X Y E s} C h n=>?_;let⟨p,h1,h⟩:=zl h;let⟨q,h2,h⟩:=zl h;let⟨h3,h⟩:=zd h;let⟨h3,h4⟩:=zd h3;let⟨h5,h⟩:=zd h;let⟨h6,h⟩:=zd h;let⟨h7,h8⟩:=zd h;let⟨pos,rfl⟩:=Rn h1;let⟨hp,e2⟩:=Rm h2;let⟨⟨Dc,n1,n2,n3⟩,n4,n5⟩:=n;let⟨np,hx2,g3,g4⟩:=C.toCtx.gl h5;rw[e2,hx2];cases hq:q.2.2 with
  | nil=>rw[hq] at h6;exact zJ h6
  | cons b0 bs=>
   rw[hq] at h8;refine qw (NR (tb:=λE'=>S5 W E' (bN b)) (th:=S5 W (λ_ _ _ _=>False) (bN hd)) (by rw[C.hmg];exact n1) (by rw[C.hK];exact n2) (by rw[C.hN];exact C.nd) (by rw[C.hN];exact dec_is h3) (by rw[C.hs];exact dec_is h4) C.sk C.fr (λE' pn xe po th=>?_) (λpn ea=>?_) g3 g4) λD U H h=>?_
   ·exact ib (X:=X.tryIn pn xe) ⟨⟨C.hP,C.hw,C.hK,C.hmg,C.hb,C.hN,C.nd,C.hs,C.hc,C.rm,C.hu,th⟩,po,C.fn,C.sk,C.fr⟩ h7 n4
   ·refine ih (X:=X.exIn pn ea) (Y:=⟨Y.N,Y.sc,false⟩) ⟨⟨C.hP,C.hw,C.hK,C.hmg,C.hb,C.hN,C.nd,C.hs,rfl,λz=>zJ z,C.hu,λe s' z=>?_⟩,PassesOwn.never,C.fn,C.sk,C.fr⟩ h8 n5;let⟨_,_,_,_,_,_,_,_,_,_,_,_,z⟩:=z;exact z
   ·rw[C.hK];exact ML n3 h
 ·refine λ{X Y E ss} C h n=>?_;rw[Um.mp h];exact ZT E1 λD U H=>C3
 ·refine λc cs hc hs=>λ{X Y E ss} C h n=>?_;cases ss with
  | nil=>exact zJ h
  | cons s ss=>let⟨h1,h2⟩:=zd h;exact ZT (yI (hc C h1 n.1) (hs C h2 n.2)) λD U H=>EB
def Ci (cs:List Cm):FH W k cs:=by
 induction cs with
 | nil=>refine λ{X Y E ss} C h n=>?_;rw[Um.mp h];exact ZT E1 λD U H=>C3
 | cons c cs ih=>
  refine λ{X Y E ss} C h n=>?_;cases ss with
  | nil=>exact zJ h
  | cons s ss=>let⟨h1,h2⟩:=zd h;exact ZT (yI (A4 c C h1 n.1) (ih C h2 n.2)) λD U H=>EB
end
variable {W:Wd} {k:Nat} {F H:Hp}
theorem Ae:∀ (as:List AT) (n:Nat),as.length<=n->Ms X (sd (aJ as) n) (as.map (λa=>some (val a))++List.replicate (n - as.length) none) (as++List.replicate (n - as.length) bB)
 | [],0,_=>⟨rfl,rfl⟩
 | [],n+1,_=>⟨none,_,bB,_,rfl,rfl,rfl,Ae (X:=X) [] n (u4 _)⟩
 | a::as,0,h=>by cases h
 | a::as,n+1,h=>by have ih:=Ae (X:=X) as n (Nat.le_of_succ_le_succ h);rw[show n+1 - (a::as).length=n - as.length by simp];exact⟨some (val a),_,a,_,rfl,rfl,⟨rfl,rfl⟩,ih⟩
noncomputable def eU:List Md->List V->List V
 | .mu::ms,v::vs=>v::eU ms vs
 | .mv::ms,_::vs=>eU ms vs
 | _,_=>[]
theorem AU:∀ (ms:List Md) (as:List AT) (i:Nat),as.length=ms.length->(∀ j,j<as.length->X[i+j]? = as[j]?)->Ms X (eW ms i) ((eU ms (vals as)).map some) (List.replicate (eW ms i).length bB)
 | [],as,i,hl,h=>⟨rfl,rfl⟩
 | m::ms,[],i,hl,h=>by cases hl
 | .mu::ms,a::as,i,hl,h=>by
  refine⟨some (val a),_,bB,_,rfl,rfl,⟨rfl,a,?_,rfl⟩,AU ms as (i+1) (gX hl) λj hj=>?_⟩
  ·have:=h 0 (Nat.succ_pos _);rw[Nat.add_zero] at this;unfold bK;rw[this];rfl
  ·have:=h (j+1) (Hh hj);rw[show i+1+j=i+(j+1) by lia];exact this
 | .mv::ms,a::as,i,hl,h=>AU ms as (i+1) (gX hl) λj hj=>by have:=h (j+1) (Hh hj);rw[show i+1+j=i+(j+1) by omega];exact this
def XF {ms:List Md}{as O:List AT}(st:St W F H (as++O))(hl:as.length=ms.length)(hn:as.length<=n):Rep W F H (sd (aJ as) n) (eW ms 0) ((vals as).map some++List.replicate (n - (vals as).length) none) (eU ms (vals as)) O:=by
 refine⟨as++List.replicate (n - as.length) bB,_,?_,?_,AU ms as 0 hl λj hj=>by rw[UL,UB hj]⟩
 ·have:=(st.nils (n - as.length)).nils (eW ms 0).length;refine this.perm ?_;rw[<-ue,<-ue,<-ue];refine gH _ ?_;refine List.Perm.trans ?_ uL;rw[ue];exact GI _ uL
 ·have:=Ae (X:=as++List.replicate (n - as.length) bB) as n hn;simp only[vals,Uw,ud];exact this
theorem Vm:∀ {ms:List Md} {i:Nat} {s Z:Sl} {ρ:List (Option V)} {cs bs O:List AT} {us:List V} {r:List T},(∀ j,as[i+j]? = cs[j]?)->Ms as s ρ cs->Ms as Z ((eU ms us).map some) bs->us.length=ms.length->cY ms i s Z=some r->St W F H (cs++O)->∃ Bs,aJ Bs=r/\Zd ms us Bs/\St W F H (Bs++O)
 | [],i,s,Z,ρ,cs,bs,O,us,r,h,m1,m2,hl,e,st=>by cases e;exact⟨[],rfl,rfl,st.right⟩
 | m::ms,i,s,Z,ρ,cs,bs,O,[],r,h,m1,m2,hl,e,st=>by cases hl
 | .mu::ms,i,s,Z,ρ,cs,bs,O,v::us,r,h,m1,m2,hl,e,st=>by
  match s,Z,e with
  | .own t::s,.al j []::Z,e=>
   have e:cond (j == i) ((cY ms (i+1) s Z).bind λr=>some (t::r)) none=some r:=e;cases c:j == i with
   | false=>rw[c] at e;cases e
   | true=>
    rw[c] at e;let⟨r',e1,e⟩:=zb e;cases e;cases (eq_of_beq c:j=i);let⟨o,TL,a,cs',k1,k2,k3,k4⟩:=m1;let⟨o2,ρ2,b,bs',g1,g2,⟨_,u,g3,g4⟩,g5⟩:=m2;cases g1;subst k2;have h0:=h 0;rw[Nat.add_zero] at h0;have hu:u=a:=by let⟨a',f1,f2,_⟩:=jy g3;rw[h0] at f1;cases f1;cases f2;rfl
    subst hu;let⟨Bs,q1,q2,q3⟩:=Vm (O:=u::O) (λn=>by have:=h (n+1);rw[show i+1+n=i+(n+1) by lia];exact this) k4 g5 (gX hl) e1 (st.perm uT.symm);exact⟨u::Bs,by rw[aJ,q1,k3.1],⟨u,Bs,rfl,(uQ g4).symm,q2⟩,q3.perm uT⟩
 | .mv::ms,i,s,Z,ρ,cs,bs,O,v::us,r,h,m1,m2,hl,e,st=>by
  match s,e with
  | x::s,e=>let⟨r',e1,e⟩:=zb e;cases e;let⟨o,TL,a,cs',k1,k2,k3,k4⟩:=m1;subst k2;let⟨Bs,q1,q2,q3⟩:=Vm (ms:=ms) (us:=us) (λn=>by have:=h (n+1);rw[show i+1+n=i+(n+1) by omega];exact this) k4 m2 (gX hl) e1 (St.tail st);exact⟨.lf .non .non::Bs,by rw[aJ,q1];rfl,⟨_,Bs,rfl,rfl,q2⟩,q3.leaf (t:=.non) rfl rfl⟩
def Rep.ret {ms:List Md}{us:List V}(R:Rep W F H s Z U (eU ms us) O)(hl:us.length=ms.length)(e:cY ms 0 s Z=some r):∃ Bs,aJ Bs=r/\Zd ms us Bs/\St W F H (Bs++O):=by let⟨as,bs,R⟩:=R;refine Vm (as:=as) (λj=>by rw[UL]) R.ls R.ts hl e ?_;have:=R.st.perm (gW as bs O);exact this.right
def Rep.retX {ms:List Md}{s Z:Sl}{us ws:List V}(R:Rep W F H s Z U (ws++eU ms us) O)(hn:n=(eU ms us).length)(hl:us.length=ms.length)(e:cY ms 0 s (Z.drop (Z.length - n))=some r):∃ Bs,aJ Bs=r/\Zd ms us Bs/\St W F H (Bs++O):=by let⟨as,bs,R⟩:=R;have l:=R.ts.len.1;rw[ud,ub] at l;have m:=R.ts.drop (Z.length - n);rw[show Z.length - n=ws.length by lia,uF,gR (by rw[ud];exact uj _),show(ws.map some).drop ws.length=[] from U6 (by rw[ud];exact uj _),UH,<-show Z.length - n=ws.length by lia] at m;refine Vm (as:=as) (λj=>by rw[UL]) R.ls m hl e ?_;have:=R.st.perm (gW as bs O);exact this.right
theorem Vn:∀ {ms:List Md} {us:List V} {i:Nat},us.length=ms.length->(eW ms i).length=(eU ms us).length
 | [],_,_,_=>rfl
 | _::_,[],_,h=>by cases h
 | .mu::ms,_::us,i,h=>congrArg (· + 1) (Vn (ms:=ms) (gX h))
 | .mv::ms,_::us,i,h=>Vn (ms:=ms) (gX h)
def Eu {x:Str}{st:Stmt}{ps N:Lh}{ms:List Md}{body:List Cm}(Sc:zi N ps (zc st))(hc:zA ⟨N,zc st,true⟩ body (zf st)=true)(hp:ms.length<=N.length)(n:jR W k body):∀ (f:Addr) (cdv:Value) (A:Around) (outer:List Env) (s:Shared) (H:Hp) (vs:List V) (Q:VK) (E:L2.XK),bT k (A.deeper (envOfC x (zc st) s.heap.objs.size f cdv))->dW W ms (cA ms N.length body) vs H Q E ->
   ∃ t,eC (dH (ie W.P W.w) W.P W.w W.K W.mg W.base N x (zc st) f cdv A outer s H E) (zf st) t/\t { nx:=λ_ H'=>Q .non H',rt:=Q } (L2.start N vs) H:=λf cdv A outer s H vs Q E hr h=>by
 let⟨F,as,O,Q4,X4,st0,rfl,hl,⟨_,po⟩,q,xx⟩:=h
 refine⟨_,Ci body (X:=dH (ie W.P W.w) W.P W.w W.K W.mg W.base N x (zc st) f cdv A outer s H E) (E:=λc d _ H'=>E c d H') ⟨⟨rfl,rfl,rfl,rfl,rfl,rfl,Sc.nd,rfl,rfl,λ_=>hr,Nat.lt_of_le_of_lt (uZ (Nat.add_le_add_left (by lia:64<=16 * k+200) _) (U4 (gO _ _ _).symm)) hr.un,zcA⟩,PassesOwn.leaving,λ_=>rfl,rfl,rfl⟩ hc n,?_⟩
 have hl':(vals as).length=ms.length:=by rw[ud];exact hl
 refine⟨F,_,_,_,O,_,_,XF st0 hl aB,po,λF' H' s' Y' U' R h=>?_,λF' H' s' Y' U' t v R h=>?_,λ_ _ _ _ _ _ h=>h.elim,λ_ _ _ _ _ _ h=>h.elim,λex F' H' s' Y' U' ws c d R hx h=>?_⟩
 ·let⟨r,e,h⟩:=zC h
  let⟨Bs,rfl,g2,g3⟩:=R.ret hl' e
  exact q F' H' (.lf .non .non) Bs (g3.leaf (t:=.non) rfl rfl) g2 h
 ·let⟨r,e,h⟩:=zC h
  let⟨b,rfl,rfl,_,R2⟩:=R.opened
  let⟨Bs,rfl,g2,g3⟩:=R2.ret hl' e
  exact q F' H' b Bs (g3.perm uT) g2 h
 ·let⟨r,e,h⟩:=zC h
  let⟨Bs,rfl,g2,g3⟩:=R.retX (Vn hl') hl' e
  exact xx ex F' H' Bs c d g3 g2 hx h
def AS {ms:List Md}{vs:List V}(h:dW W ms f vs H Q E):vs.length=ms.length:=by let⟨_,as,_,_,_,_,rfl,hl,_⟩:=h;rw[ud];exact hl
def qt {x:Str}{st:Stmt}{ps N:Lh}{ms:List Md}{body:List Cm}(D:Df W.K W.mg x st ps)(Sc:zi N ps (zc st))(hc:zA ⟨N,zc st,true⟩ body (zf st)=true)(hp:ms.length=ps.length)(hp':ms.length<=N.length)(n:jR W k body):nK W.P W.w W.K W.mg W.base (k+1) x ps (dW W ms (cA ms N.length body)):= D.okX Sc (λvs H Q E h=>(AS h).trans hp) (Eu Sc hc hp' n)
structure lN (K:Le)(C:Addr)(m qual:Str)(st:Stmt)(ps:Lh):Prop where
 ex:∃ (f:Addr) (fd:FuncData),lO K m qual st f fd/\Binds K fd ps []/\dU K C/\Meth K C m f
structure sH (K:Le)(mg:La)(C:Addr)(x qual:Str)(st:Stmt)(ps:Lh):Prop where
 ex:∃ (f:Addr) (fd:FuncData),lO K "__init__" qual st f fd/\Binds K fd ps []/\Mk K C f/\mg x=some (.ref C)
def Dl {m x:Str}{st:Stmt}{ps N:Lh}{ms:List Md}{body:List Cm}{f:Addr}{fd:FuncData}(F:lO W.K m x st f fd)(Sc:zi N ps (zc st))(hc:zA ⟨N,zc st,true⟩ body (zf st)=true)(hp:ms.length=ps.length)(hp':ms.length<=N.length)(n:jR W k body):dA W.P W.w W.K W.mg W.base (ie W.P W.w) (k+1) f fd ps (dW W ms (cA ms N.length body)):=by let⟨oc,od,kV,doc,pm,an,cdv,ct,osl,rfl,lk,hcd⟩:=F.ex;exact Ak lk hcd Sc (λvs H Q E h=>(AS h).trans hp) λA outer s H vs Q E hr h=>Eu Sc hc hp' n f cdv A outer s H vs Q E hr h
def QY {m x:Str}{c:Nat}{st:Stmt}{ps N:Lh}{ms:List Md}{body:List Cm}(D:lN W.K (W.cl c) m x st ps)(Sc:zi N ps (zc st))(hc:zA ⟨N,zc st,true⟩ body (zf st)=true)(hp:ms.length=ps.length)(hp':ms.length<=N.length)(n:jR W k body):eD W (k+1) (W.cl c) m ps (dW W ms (cA ms N.length body)):=by let⟨f,fd,F,b,cl,hm'⟩:=D.ex;exact⟨f,fd,cl,hm',b,Dl F Sc hc hp hp' n⟩
def Ad {x y:Str}{c:Nat}{st:Stmt}{ps N:Lh}{ms:List Md}{body:List Cm}(D:sH W.K W.mg (W.cl c) y x st ps)(Sc:zi N ps (zc st))(hc:zA ⟨N,zc st,true⟩ body (zf st)=true)(hp:ms.length=ps.length)(hp':ms.length<=N.length)(n:jR W k body):iM W (k+1) (W.cl c) y ps (dW W ms (cA ms N.length body)):=by let⟨f,fd,F,b,M,e⟩:=D.ex;exact⟨f,fd,M,b,e,Dl F Sc hc hp hp' n⟩
def YW (K:Le):Sp:=λvs H Q _=>∃ (a:Addr) (ns:List Int),vs=[.ref a]/\cJ K H a (ns.map V.int)/\ns.length<=63/\∀ H',Q (.bl true) H'
theorem Vo:∀ ns:List Int,aH W F (ns.map T.int) (ns.map V.int)/\aI (ns.map T.int)=true
 | []=>⟨rfl,rfl⟩
 | n::ns=>⟨⟨_,_,rfl,rfl,(Vo ns).1⟩,(Vo ns).2⟩
def Nc {x y:Str}{st:Stmt}{N:Lh}{body:List Cm}(D:Df W.K W.mg x st [y])(Sc:zi N [y] (zc st))(h1:1<=N.length) (hc:zA ⟨N,zc st,true⟩ body (zf st)=true) (n:jR W k body) (hl:∀ ns:List Int,ns.length<=63->cA [.mv] N.length body [.ks true (ns.map .int)] (λt _=>t=.bl true) (λ_ _=>False)):tX W.P W.w W.K W.mg W.base (k+1) x [y] (YW W.K):=by
 refine D.ok Sc (λvs H Q E h=>by let⟨_,_,rfl,_⟩:=h;rfl) (λf cdv A outer s H vs Q E hr h=>?_);let⟨a,ns,rfl,hS,h63,q⟩:=h;refine⟨_,Ci body (E:=rJ) ⟨⟨rfl,rfl,rfl,rfl,rfl,rfl,Sc.nd,rfl,rfl,λ_=>hr,Nat.lt_of_le_of_lt (uZ (Nat.add_le_add_left (by lia:64<=16 * k+200) _) (U4 (gO _ _ _).symm)) hr.un,λe s' z=>?_⟩,PassesOwn.never,λ_=>rfl,rfl,rfl⟩ hc n,?_⟩
 ·let⟨_,_,_,_,_,_,_,_,_,_,_,_,z⟩:=z;exact z.elim
 ·let⟨i1,i2⟩:=Vo (W:=W) (F:=H) ns;have st0:St W H H ([.lf (.ks true (ns.map .int)) (.ref a)]++[]):=⟨λ_ _ h=>h,⟨⟨rfl,a,_,rfl,hS,i2,i1⟩,trivial⟩,.nil,λ_ h=>by cases h⟩
  let⟨_,po⟩:=hl ns h63;refine⟨H,_,_,_,[],_,_,XF (ms:=[.mv]) st0 rfl h1,po,λF' H' s' Y' U' R h=>?_,λF' H' s' Y' U' t v R h=>?_,λ_ _ _ _ _ _ h=>h.elim,λ_ _ _ _ _ _ h=>h.elim,λex F' H' s' Y' U' ws c d R hx h=>?_⟩
  ·let⟨r,e,h⟩:=zC h;cases h
  ·let⟨r,e,h⟩:=zC h;let⟨b,eb,rfl,hb,_⟩:=R.opened;rw[ZN hb (eb.trans h)];exact q H'
  ·let⟨r,e,h⟩:=zC h;exact h.elim
end
theorem Vp {α:Type}{f g:α->T}{tt:Sl->Sl->(Bool->KP)->Prop}{fe:Sl->Sl->KP->Prop}{s Z s1 W':Sl}{K:List T->KP}(e1:aT (iE 1) s=some s1)(e2:aT (iE 1) Z=some W')(e3:aT (fE 1) s1=some s)(e4:aT (fE 1) W'=some Z) :
  ∀ {xs:List α} {acc:List T},(∀ a∈xs,∀ K:Bool->KP,K true (.own (f a)::s1) W'->tt (.own (f a)::s1) W' K)->(∀ a∈xs,∀ K:KP,K (.own (f a)::s1) (.own (g a)::W')->fe (.own (f a)::s1) W' K)->acc.length+xs.length<=16777216->K (acc++xs.map g) s Z->QW 1 tt fe (xs.map f) acc s Z K
 | [],acc,_,_,_,h=>by rw[gr,uH] at h;exact h
 | a::xs,acc,ht,hf,hl,h=>by
  rw[uc] at hl;refine za e1 (za e2 (ht a ug _ (hf a ug _ ⟨aB,za e3 (za e4 ?_)⟩)));refine Vp e1 e2 e3 e4 (λb hb=>ht b (uk _ hb)) (λb hb=>hf b (uk _ hb)) ?_ ?_
  ·rw[ub,uc,ur];lia
  ·rw[ue];exact h
def YX {g:T->T}{tt:Sl->Sl->(Bool->KP)->Prop}{fe:Sl->Sl->KP->Prop}{s Z s1 W':Sl}{K:List T->KP}(e1:aT (iE 1) s=some s1)(e2:aT (iE 1) Z=some W')(e3:aT (fE 1) s1=some s)(e4:aT (fE 1) W'=some Z){xs:List T}(ht:∀ a∈xs,∀ K:Bool->KP,K true (.own a::s1) W'->tt (.own a::s1) W' K)(hf:∀ a∈xs,∀ K:KP,K (.own a::s1) (.own (g a)::W')->fe (.own a::s1) W' K)(hl:xs.length<=16777216)(h:K (xs.map g) s Z):QW 1 tt fe xs [] s Z K:=by have:=Vp (f:=λx=>x) (g:=g) (acc:=[]) (K:=K) e1 e2 e3 e4 ht hf (by simpa using hl) h;rwa [gY] at this
theorem Et {t:Tg}{o:Option T}{body:Sl->Sl->KP->Ends->Prop}{K:KP}{D:Ends}(I:Nat->Sl->Sl->Prop):∀ {ds:List T} {i:Nat} {s Z:Sl},I i s Z->(∀ j d s Z (K':KP),ds[j]? = some d->I (i+j) s Z->(∀ s Z,I (i+j+1) s Z->K' s Z)->sP t d s Z λs1 W'=>body s1 W' K' { rt:=λr s Z=>aK (ir o s Z) (D.rt r),bk:=λs Z=>aK (ir o s Z) K,ct:=K',ex:=D.ex })->(∀ s Z,I (i+ds.length) s Z->aK (ir o s Z) K)->Qv t o body K D ds s Z
 | [],i,s,Z,h0,_,he=>he s Z h0
 | d::ds,i,s,Z,h0,hs,he=>by refine hs 0 d s Z _ rfl h0 λs1 W' h1=>Et I (i:=i+1) h1 (λj e s2 V' K' hd h2 hK=>?_) λs2 V' h2=>he s2 V' (by rw[uc,show i+(ds.length+1)=i+1+ds.length by omega];exact h2);exact hs (j+1) e s2 V' K' hd (by rw[show i+(j+1)=i+1+j by omega];exact h2) λs3 T8 h3=>hK s3 T8 (by rw[show i+1+j+1=i+(j+1)+1 by omega];exact h3)
def xy {t:Tg}{o:Option T}{body:Sl->Sl->KP->Ends->Prop}{K:KP}{D:Ends}{ds:List T}{s Z:Sl}(I:Nat->Sl->Sl->Prop)(h0:I 0 s Z)(hs:∀ j d s Z (K':KP),ds[j]? = some d->I j s Z->(∀ s Z,I (j+1) s Z->K' s Z)->sP t d s Z λs1 W'=>body s1 W' K' { rt:=λr s Z=>aK (ir o s Z) (D.rt r),bk:=λs Z=>aK (ir o s Z) K,ct:=K',ex:=D.ex }) (he:∀ s Z,I ds.length s Z->aK (ir o s Z) K):Qv t o body K D ds s Z:=
 Et I (i:=0) h0 (λj d s Z K' hd h1 hK=>hs j d s Z K' hd (by rw[<-UL j];exact h1) λs Z h=>hK s Z (by rw[UL];exact h)) λs Z h=>he s Z (by rw[<-UL ds.length];exact h)
theorem Dk {test:Sl->Sl->(Bool->KP)->Prop}{body:Sl->Sl->KP->Ends->Prop}{K:KP}{D:Ends}(I:Nat->Sl->Sl->Prop)(hs:∀ m s Z (K':KP),I m s Z->(∀ m' s Z,m' < m->I m' s Z->K' s Z)->test s Z λb s1 W'=>d4 b (body s1 W' K' { rt:=D.rt,bk:=K,ct:=K',ex:=D.ex }) (K s1 W')):∀ {n m:Nat} {s Z:Sl},m<n->I m s Z->Xv test body K D n s Z
 | 0,_,_,_,h,_=>absurd h (Hq _)
 | n+1,m,s,Z,h,h0=>hs m s Z _ h0 λm' s1 W' hm h1=>Dk I hs (by omega) h1
def Dj {test:Sl->Sl->(Bool->KP)->Prop}{body:Sl->Sl->KP->Ends->Prop}{K:KP}{D:Ends}{s Z:Sl}(I:Nat->Sl->Sl->Prop)(m:Nat)(h0:I m s Z)(hs:∀ m s Z (K':KP),I m s Z->(∀ m' s Z,m' < m->I m' s Z->K' s Z)->test s Z λb s1 W'=>d4 b (body s1 W' K' { rt:=D.rt,bk:=K,ct:=K',ex:=D.ex }) (K s1 W')):∃ n,Xv test body K D n s Z:=⟨m+1,Dk I hs (gp m) h0⟩
def kL (h:aI xs=true):iy .seq 1 s (.own (.nd b .ls xs)::Z)=some ((xs,none),(s,Z)):=by show(cond (aI xs) (some xs) (some (views xs))).bind _=_;rw[h];rfl
def Lv (h:aI xs=true):iy .seq 1 s (.own (.tp xs)::Z)=some ((xs,none),(s,Z)):=by show(cond (aI xs) (some xs) (some (views xs))).bind _=_;rw[h];rfl
def Lu (h:aI xs=true):iy .seq 1 s (.own (.ks l xs)::Z)=some ((xs,none),(s,Z)):=by show(cond (aI xs) (some xs) (some (views xs))).bind _=_;rw[h];rfl
def vk (h:k<n):eI n (k:Int)=some k:=by unfold eI;rw[uC aB,uC aB];rfl
def J1:eI (n+1) (-1)=some n:=by unfold eI;rw[ux aB,uC aB];congr 1;lia
def To {α β O:Type}{a:α}{b:β}{f:α->β->Option O}:two (some a) (some b) f=f a b:=rfl
theorem Es {α:Type}(f:α->Bool):∀ xs:List α,iK (xs.map λa=>.bl (f a))=some (xs.map f)
 | []=>rfl
 | x::xs=>by show two (some (f x)) (iK (xs.map λa=>.bl (f a))) _=_;rw[Es f xs];rfl
section
variable {s s' Z Y':Sl} {i m:Nat} {p:Lc} {t t' u k o r:T} {xs ys ts:List T} {x:T} {c:Nat} {f:Str}
def qU (h:s[i]? = some (.own r))(e:dQ p r=some t):aS s i p=some t:=by unfold aS;rw[h];exact e
def xQ (h1:aT (jQ i (p.length+1)) s=some s1)(h2:s1[i]? = some (.own r))(h3:dD p r n=some t')(h4:putN s1 i (.own t')=some s2)(h5:aT (jQ i (p.length+1)) Z=some W'):putSt s Z i p n=some (s2,W'):=by unfold putSt;rw[h1,u7,h2,u7];show(dD p r n).bind _=_;rw[h3,u7,h4,u7,h5];rfl
def vS {b:List T}:dQ (b.length::p) (.nd true .ls (b++[x]))=dQ p x:=by show((b++[x])[b.length]?).bind _=_;rw[Ua (uj _),U5];rfl
def kN {b:List T}(h:dD p x u=some t'):dD (b.length::p) (.nd true .ls (b++[x])) u=some (.nd true .ls (b++[t'])):=by show((b++[x])[b.length]?).bind _=_;rw[Ua (uj _),U5];show(dD p x u).bind _=_;rw[h];show(putN (b++[x]) b.length t').bind _=_;rw[kG aD];show some (T.nd true .ls ((b++[x]).set b.length t'))=_;rw[gK _ _ (uj _),U5];rfl
def qq (h:s[i]? = some (.own t))(hs:shr t=true):iG s i=some (.own t):=by unfold iG;rw[h];show cond (shr t) _ _=_;rw[hs];rfl
def Rj (h:shr t=true):lh s (.own t::Z)=some (s,.own t::Z):=by show cond (shr t) _ _=_;rw[h];rfl
def IA (h:s[i]? = some (.al j p))(g:aS s j p=some t)(hs:shr t=false):iG s i=some (.al j p):=by unfold iG;rw[h];show(aS s j p).bind _=_;rw[g];show cond (shr t) _ _=_;rw[hs];rfl
def QA (h1:lK t k=some m)(h2:parts t=some xs)(h3:xs[m]? = some u)(h0:bW t=none:=by rfl):cV s (.own k::.own t::Z)=some (.own u::Z):=by
 show cQ (two (some t) (aY k) _) ((QU s (.own t) λt=>lK t k).bind _)=_
 have e:two (some t) (aY k) (λt i=>(bW t).bind λl=>(iL l i).bind λc=>some (Slot.own (.str [c])::Z))=none:=by
  cases aY k with
  | none=>rfl
  | some i=>show((bW t).bind _)=none;rw[h0];rfl
 rw[e];show((lK t k).bind _).bind _=_;rw[h1];show((parts t).bind _).bind _=_;rw[h2];show((xs[m]?).bind _).bind _=_;rw[h3];rfl
def Vq (g:aS s i p=some t)(h1:J t=some m)(h2:parts t=some xs)(h3:xs[m]? = some u):QU s (.al i p) J=cond (shr u) (some (.own u)) (some (.al i (p++[m]))):=by show(aS s i p).bind _=_;rw[g];show(J t).bind _=_;rw[h1];show(parts t).bind _=_;rw[h2];show(xs[m]?).bind _=_;rw[h3];rfl
def Vr (g:aS s i p=some t)(h1:lK t k=some m)(h2:parts t=some xs)(h3:xs[m]? = some u)(hs:shr u=true):cV s (.own k::.al i p::Z)=some (.own u::Z):=by show((QU s (.al i p) λt=>lK t k).bind _)=_;rw[Vq g h1 h2 h3,hs];rfl
def vT (g:aS s i p=some t)(h1:lK t k=some m)(h2:parts t=some xs)(h3:xs[m]? = some u)(hs:shr u=false):cV s (.own k::.al i p::Z)=some (.al i (p++[m])::Z):=by show((QU s (.al i p) λt=>lK t k).bind _)=_;rw[Vq g h1 h2 h3,hs];rfl
def Iz (g:aS s i p=some t)(h1:mi t c f=some m)(h2:parts t=some xs)(h3:xs[m]? = some u)(hs:shr u=false):atS s c f (.al i p::Z)=some (.al i (p++[m])::Z):=by show((QU s (.al i p) λt=>mi t c f).bind _)=_;rw[Vq g h1 h2 h3,hs];rfl
def vm {b:List T}{o:Bool}:lK (.nd o .ls (b++[x])) (.int (-1))=some b.length:=by show eI (b++[x]).length (-1)=_;rw[ub];exact J1
def vn {b:List T}:(b++[x])[b.length]? = some x:=by rw[Ua (uj _),U5];rfl
def Vs (g:aS s i p=some t)(e:fm t k o=some t')(hp:putSt s Z i p t' = some (s',Y')):pQ s (.own k::.al i p::.own o::Z)=some (s',Y'):=by show(aS s i p).bind _=_;rw[g];show(fm t k o).bind _=_;rw[e];exact hp
def d7:fm (.nd true .ls (b++[x])) (.int (-1)) o=some (.nd true .ls (b++[o])):=by show(eI (b++[x]).length (-1)).bind _=_;rw[ub];rw[show eI (b.length + [x].length) (-1)=some b.length from J1];show(putN (b++[x]) b.length o).bind _=_;rw[kG aD];show some (T.nd true .ls ((b++[x]).set b.length o))=_;rw[gK _ _ (uj _),U5];rfl
def qW (g:aS s i p=some (.nd true .ls xs))(e:mI mm xs ts=some (ys,r))(hp:putSt s Z i p (.nd true .ls ys)=some (s',Y')):Bl mm s (.al i p::Z) ts=some (s',.own r::Y'):=by show(aS s i p).bind _=_;rw[g];show(mI mm xs ts).bind _=_;rw[e];show(putSt s Z i p (.nd true .ls ys)).bind _=_;rw[hp];rfl
def Zm (g:aS s i p=some (.nd true .ls xs)):BN s (.al i p::Z)=true:=by
 show(match aS s i p with
  | some (.nd true .ls _)=>true
  | _=>false)=true
 rw[g]
def jn (h:xs.length<16777216):mI .append xs [u]=some (xs++[u],.non):=by show(if xs.length<16777216 then some (xs++[u],T.non) else none)=_;rw[uC h]
def J2:mI .pop (b++[x]) []=some (b,x):=by show((b++[x]).getLast?).bind _=_;rw[gS];show some ((b++[x]).dropLast,x)=_;rw[List.dropLast_concat]
def zD {a b:Lc}(h:a.length+b.length<=16777216):bZ .add [.str a,.str b]=some (.str (a++b)):=by show cQ (if a.length+b.length<=16777216 then some (T.str (a++b)) else none) _=_;rw[uC h];rfl
def ZU {a b:List T}{o o':Bool}(h:a.length+b.length<=16777216)(ha:aI a=true)(hb:aI b=true):bZ .add [.nd o .ls a,.nd o' .ls b]=some (.nd true .ls (a++b)):=by show cQ (if a.length+b.length<=16777216/\(aI a&&aI b)=true then some (T.nd true .ls (a++b)) else none) _=_;rw[uC ⟨h,by rw[ha,hb];rfl⟩];rfl
def Ri (g:aS s i p=some t):cN s 2 (.own y::.al i p::Z) []=some ([t,y],Z):=by show(aS s i p).bind _=_;rw[g];rfl
def Rh (g:aS s i p=some t):cN s 1 (.al i p::Z) []=some ([t],Z):=by show(aS s i p).bind _=_;rw[g];rfl
end
section
variable {s s1 s2 Z W' V' xs xs1:Sl} {ms:List Md} {i:Nat} {p:Lc} {t:T} {ts:List T} {ps:Pl}
def qc {b:Bool}{P R:Prop}(h:b=true)(q:P):Bool.rec (motive:=λ_=>Prop) R P b:=by subst h;exact q
def qE {b:Bool}{P R:Prop}(h:b=false)(q:R):Bool.rec (motive:=λ_=>Prop) R P b:=by subst h;exact q
def take1 (g:aS s i p=some t)(hp:putSt s Z i p .any=some (s1,W'))(hx:aT (jQ i 0) xs=some xs1)(hr:yE ms xs1 s1 W'=some ((ts,ps),(s2,V'))):yE (.mu::ms) (.al i p::xs) s Z=some ((t::ts,some (i,p)::ps),(s2,V')):=by show(aS s i p).bind _=_;rw[g];show(putSt s Z i p .any).bind _=_;rw[hp];show(aT (jQ i 0) xs).bind _=_;rw[hx];show(yE ms xs1 s1 W').bind _=_;rw[hr];rfl
def sT (hr:wU ps ts s Z=some (s1,W'))(g:aS s1 i p=some .any)(hp:putSt s1 W' i p t=some (s2,V')):wU (some (i,p)::ps) (t::ts) s Z=some (s2,V'):=by show(wU ps ts s Z).bind _=_;rw[hr];show(aS s1 i p).bind _=_;rw[g];exact hp
def Vt (g:aS s i p=some t)(e:mH t=some o)(h1:o.1=c)(h2:o.2.1.contains m=false):FD s (.mt c m) (.al i p::Z)=true:=by
 show(match (aS s i p).bind mH with
   | some o=>o.1 == c&&!o.2.1.contains m
   | none=>false)=true
 rw[g]
 show(match mH t with
   | some o=>o.1 == c&&!o.2.1.contains m
   | none=>false)=true
 rw[e];show(o.1 == c&&!o.2.1.contains m)=true;rw[h1,h2,Ug];rfl
end
theorem YY {α:Type}(f:α->Lc):∀ xs:List α,Xs (xs.map λa=>.str (f a))=some (xs.map f)
 | []=>rfl
 | x::xs=>by show two (some (f x)) (Xs (xs.map λa=>.str (f a))) _=_;rw[YY f xs];rfl
def Rg {α:Type}{f:α->Lc}{xs:List α}{o:Bool}(h:(xs.map f).flatten.length<=16777216):mJ .join [] [.nd o .ls (xs.map λa=>.str (f a))]=some (.str (xs.map f).flatten):=by show(Xs (xs.map λa=>.str (f a))).bind _=_;rw[YY];show(if _ then _ else _)=_;rw[uC ⟨rfl,h⟩]
theorem qQ:∀ ws:List Lc,aI (ws.map T.str)=true
 | []=>rfl
 | _::ws=>qQ ws
def QB {α:Type}{t:List α}{k:Nat}:aO t none (some (k:Int))=t.take k:=by unfold aO;rw[HT.dm,HT.fo,gm,Nat.sub_zero,List.take_eq_take_iff];lia
def YZ {α:Type}{t:List α}{k:Nat}:aO t (some (k:Int)) none=t.drop k:=by
 unfold aO;rw[HT.dm,HT.fo,gF (by rw[Ud];lia)];by_cases h:k<=t.length
 ·rw[Hs h]
 ·rw[Nat.min_eq_right aB,U6 (uj _),U6 aB]
def Y0 {α β:Type}(f:α->β)(xs:List α)(a b:Option Int):aO (xs.map f) a b=(aO xs a b).map f:=by unfold aO;rw[ud,GZ,G0]
def J3 {ts:List Lc}{k:Nat}{o:Bool}:bZ (.sl false true) [.nd o .ls (ts.map .str),.int (k:Int)]=some (.nd true .ls ((ts.take k).map .str)):=by show cQ (cond (aI (ts.map T.str)) (some (T.nd true .ls (aO (ts.map T.str) none (some (k:Int))))) none) _=_;rw[qQ,Y0,QB];rfl
end L5
set_option maxHeartbeats 4000000
namespace My
open PySem L2 L5 PySem.Spec PyProof.Rows
noncomputable abbrev oa:List Nat:=[32,33,34,35,36,38,39,40,41,42,43,44,45,46,47,48,49,50,51,52,53,54,55,56,57,58,59,60,61,62,63,64,65,66,67,68,69,70,71,72,73,74,75,76,77,78,79,80,81,82,83,84,85,86,87,88,89,90,91,92,93,94,95,96,97,98,99,100,101,102,103,104,105,106,107,108,109,110,111,112,113,114,115,116,117,118,119,120,121,122,123,124,125,126]
noncomputable abbrev oe:List Nat:=[97,98,99,100,101,102,103,104,105,106,107,108,109,110,111,112,113,114,115,116,117,118,119,120,121,122]
abbrev og:List Nat:=[98,108,111,99,107]
abbrev oh:List Nat:=[101,108,100,101,114]
abbrev oi:List Nat:=[101,108,115,101]
noncomputable abbrev oj:List Nat:=[123,98,108,111,99,107,32]
abbrev om:List Nat:=[115,104,101,101,116]
abbrev oq:List Nat:=[108,105,116]
abbrev ot:List Nat:=[101,97,99,104]
abbrev ou:List Nat:=[101,110,100]
abbrev ow:List Nat:=[111,118,101,114]
noncomputable abbrev oy:List Nat:=[105,102]
abbrev oz:List Nat:=[100,114,97,119]
abbrev oA:List Nat:=[123,101,110,100,125]
noncomputable abbrev oB:List Nat:=[97,99,102,103,104,106,107,108,109,110,112,113,114,115,116,117,118,119,120,121,122]
noncomputable abbrev oC:List Nat:=[123,101,108,115,101,125]
noncomputable abbrev oE:List Nat:=[123,111,118,101,114,32,117,125]
abbrev oG:List Nat:=[116,119,105,99,101]
abbrev oH:List Nat:=[115,105,103,110]
abbrev oJ:List Nat:=[109,97,110,121]
abbrev oK:List Nat:=[32,97]
abbrev oM:List Nat:=[123,97,98]
noncomputable abbrev oN:List Nat:=[32,97,98,99,100,101,102,103,104,105]
abbrev oO:List Nat:=[104,111,108,101]
noncomputable abbrev oP:List Nat:=[123,101,108,100,101,114,125]
abbrev oQ:List Nat:=[3,4,5,6,8,9,10,11,12]
local macro_rules | `(tactic| walk_at "sc") => `(tactic| exact ⟨rfl, rfl, rfl, by decide +kernel, rfl, by decide +kernel, by decide +kernel⟩)
noncomputable def top (i:Nat):Stmt:=PySem.Challenge.pw_sealpress_k52_the_first_refusal.main.body.getD i (.Pass ⟨0,0,0,0⟩)
def topC (i j:Nat):Stmt:=match top i with
 | .ClassDef _ _ _ body _ _ _ _ _ _ _=>body.getD j (.Pass ⟨0,0,0,0⟩)
 | _=>.Pass ⟨0,0,0,0⟩
def nm (s:Stmt)(n:Nat):Lh:=((zc s).names.take n).map (·.1)
abbrev wW:Stmt:=top 19
abbrev QZ:Lh:=nm (top 19) 3
abbrev xA:Lh:=nm (top 19) 1
def Vu:zi QZ xA (zc wW):=aF
abbrev qh:Stmt:=topC 27 0
abbrev vo:Lh:=nm (topC 27 0) 3
abbrev qG:Lh:=nm (topC 27 0) 3
def Zn:zi vo qG (zc qh):=aF
abbrev qz:Stmt:=topC 28 0
abbrev vU:Lh:=nm (topC 28 0) 1
abbrev qX:Lh:=nm (topC 28 0) 1
def ZV:zi vU qX (zc qz):=aF
abbrev qa:Stmt:=topC 27 1
abbrev xR:Lh:=nm (topC 27 1) 3
abbrev qx:Lh:=nm (topC 27 1) 2
def kX:zi xR qx (zc qa):=aF
abbrev z0:Stmt:=topC 27 2
abbrev xp:Lh:=nm (topC 27 2) 1
abbrev qi:Lh:=nm (topC 27 2) 1
def yY:zi xp qi (zc z0):=aF
abbrev jb:Stmt:=topC 27 3
abbrev yZ:Lh:=nm (topC 27 3) 1
abbrev jz:Lh:=nm (topC 27 3) 1
def Q7:zi yZ jz (zc jb):=aF
abbrev qb:Stmt:=topC 28 1
abbrev xS:Lh:=nm (topC 28 1) 1
abbrev qy:Lh:=nm (topC 28 1) 1
def kY:zi xS qy (zc qb):=aF
abbrev qj:Stmt:=topC 28 2
abbrev vp:Lh:=nm (topC 28 2) 4
abbrev qH:Lh:=nm (topC 28 2) 3
def Zo:zi vp qH (zc qj):=aF
abbrev z4:Stmt:=topC 28 3
abbrev xq:Lh:=nm (topC 28 3) 3
abbrev qk:Lh:=nm (topC 28 3) 3
def ka:zi xq qk (zc z4):=aF
abbrev jS:Stmt:=topC 28 4
abbrev ZW:Lh:=nm (topC 28 4) 5
abbrev wD:Lh:=nm (topC 28 4) 3
def WI:zi ZW wD (zc jS):=aF
abbrev vV:Stmt:=top 12
abbrev Y1:Lh:=nm (top 12) 3
abbrev xJ:Lh:=nm (top 12) 1
def XG:zi Y1 xJ (zc vV):=aF
abbrev qA:Stmt:=topC 26 0
abbrev vW:Lh:=nm (topC 26 0) 3
abbrev qY:Lh:=nm (topC 26 0) 3
def ZX:zi vW qY (zc qA):=aF
abbrev js:Stmt:=topC 28 5
abbrev Zf:Lh:=nm (topC 28 5) 2
abbrev jT:Lh:=nm (topC 28 5) 2
def J4:zi Zf jT (zc js):=aF
abbrev vX:Stmt:=top 18
abbrev XH:Lh:=nm (top 18) 1
abbrev yc:Lh:=nm (top 18) 1
def zaC:zi XH yc (zc vX):=aF
abbrev jt:Stmt:=top 29
abbrev Zg:Lh:=nm (top 29) 1
abbrev jU:Lh:=nm (top 29) 1
def J5:zi Zg jU (zc jt):=aF
abbrev xT:Stmt:=top 30
abbrev J6:Lh:=nm (top 30) 2
abbrev vq:Lh:=nm (top 30) 1
def Y2:zi J6 vq (zc xT):=aF
abbrev xU:Stmt:=top 31
abbrev J7:Lh:=nm (top 31) 4
abbrev vt:Lh:=nm (top 31) 2
def Y3:zi J7 vt (zc xU):=aF
abbrev jV:Stmt:=top 32
abbrev ZY:Lh:=nm (top 32) 4
abbrev wF:Lh:=nm (top 32) 1
def WJ:zi ZY wF (zc jV):=aF
abbrev jc:Stmt:=top 34
abbrev kb:Lh:=nm (top 34) 2
abbrev jA:Lh:=nm (top 34) 2
def Q8:zi kb jA (zc jc):=aF
abbrev jW:Stmt:=top 35
abbrev ZZ:Lh:=nm (top 35) 5
abbrev wG:Lh:=nm (top 35) 2
def WK:zi ZZ wG (zc jW):=aF
abbrev wX:Stmt:=top 36
abbrev Q0:Lh:=nm (top 36) 1
abbrev xB:Lh:=nm (top 36) 1
def Vv:zi Q0 xB (zc wX):=aF
abbrev jX:Stmt:=top 38
abbrev Z0:Lh:=nm (top 38) 13
abbrev wH:Lh:=nm (top 38) 2
def WL:zi Z0 wH (zc jX):=aF
abbrev xV:Stmt:=top 39
abbrev J8:Lh:=nm (top 39) 3
abbrev vv:Lh:=nm (top 39) 2
def Y4:zi J8 vv (zc xV):=aF
abbrev wY:Stmt:=top 40
abbrev Q1:Lh:=nm (top 40) 4
abbrev xC:Lh:=nm (top 40) 1
def Vw:zi Q1 xC (zc wY):=aF
abbrev jY:Stmt:=top 37
abbrev Z1:Lh:=nm (top 37) 1
abbrev wI:Lh:=nm (top 37) 0
def WM:zi Z1 wI (zc jY):=aF
abbrev jd:Stmt:=top 41
abbrev kc:Lh:=nm (top 41) 6
abbrev jB:Lh:=nm (top 41) 2
def Q9:zi kc jB (zc jd):=aF
abbrev ju:Stmt:=top 42
abbrev Zh:Lh:=nm (top 42) 6
abbrev jZ:Lh:=nm (top 42) 4
def J9:zi Zh jZ (zc ju):=aF
abbrev wZ:Stmt:=top 43
abbrev Q2:Lh:=nm (top 43) 7
abbrev xD:Lh:=nm (top 43) 4
def Vx:zi Q2 xD (zc wZ):=aF
abbrev j0:Stmt:=top 44
abbrev Z2:Lh:=nm (top 44) 6
abbrev wJ:Lh:=nm (top 44) 5
def WN:zi Z2 wJ (zc j0):=aF
abbrev w6:Stmt:=top 45
abbrev Q3:Lh:=nm (top 45) 7
abbrev xE:Lh:=nm (top 45) 2
def Vy:zi Q3 xE (zc w6):=aF
abbrev j5:Stmt:=top 46
abbrev Z3:Lh:=nm (top 46) 4
abbrev wK:Lh:=nm (top 46) 1
def WO:zi Z3 wK (zc j5):=aF
abbrev j6:Stmt:=top 47
abbrev Z4:Lh:=nm (top 47) 1
abbrev wL:Lh:=nm (top 47) 1
def WQ:zi Z4 wL (zc j6):=aF
abbrev xW:Stmt:=top 48
abbrev Wa:Lh:=nm (top 48) 3
abbrev vx:Lh:=nm (top 48) 1
def Y5:zi Wa vx (zc xW):=aF
abbrev j7:Stmt:=top 49
abbrev Z5:Lh:=nm (top 49) 8
abbrev wM:Lh:=nm (top 49) 3
def WR:zi Z5 wM (zc j7):=aF
abbrev je:Stmt:=top 50
abbrev ke:Lh:=nm (top 50) 2
abbrev jC:Lh:=nm (top 50) 1
def Ja:zi ke jC (zc je):=aF
abbrev vY:Stmt:=top 51
abbrev XI:Lh:=nm (top 51) 2
abbrev yd:Lh:=nm (top 51) 2
def zaD:zi XI yd (zc vY):=aF
abbrev j8:Stmt:=top 52
abbrev Z6:Lh:=nm (top 52) 5
abbrev wN:Lh:=nm (top 52) 3
def WU:zi Z6 wN (zc j8):=aF
abbrev xa:Stmt:=top 53
abbrev Q5:Lh:=nm (top 53) 5
abbrev xF:Lh:=nm (top 53) 2
def Vz:zi Q5 xF (zc xa):=aF
abbrev xX:Stmt:=top 54
abbrev Wb:Lh:=nm (top 54) 3
abbrev vy:Lh:=nm (top 54) 2
def Y6:zi Wb vy (zc xX):=aF
abbrev Y7:Stmt:=top 55
abbrev Cg:Lh:=nm (top 55) 14
abbrev VA:Lh:=nm (top 55) 1
def Ls:zi Cg VA (zc Y7):=aF
abbrev Zp:Stmt:=topC 2 0
def Y8:zi ["self","at"] ["self","at"] (zc Zp):=aF
abbrev QC:Stmt:=topC 7 0
def zaE:zi ["self","name"] ["self","name"] (zc QC):=aF
abbrev kh:Stmt:=topC 6 0
def VB:zi ["self","at"] ["self","at"] (zc kh):=aF
abbrev iA:T:=.str oa
abbrev eO:T:=.str oe
abbrev dh:T:=.int 8
abbrev dE:T:=.int 2000
abbrev du:T:=.int 12
abbrev dv:T:=.ks false [.str ot,.str oy,.str oi,.str ou,.str og,.str oh,.str oz,.str ow]
abbrev jv:List (Lc×T):=[([40],.ks false [.str oq,.str [123]]),([41],.ks false [.str oq,.str [125]]),(oi,.ks false [.str oi]),(ou,.ks false [.str ou]),(oh,.ks false [.str oh])]
abbrev eN:T:=.ks false [.str ot,.str oy,.str og]
def ki:List Cm:=[.ife (.tn (.t (.ap (.isi [.str]) [(.v 0)]))) [.raise 6 "NoSign" "at" false (.c (.int 0))] [], .loop (.tup [1,2]) .enumS [(.v 0)] [.ife (.ap .notin [(.v 2),(.g "SIGNS" iA)]) [.raise 6 "NoSign" "at" false (.v 1)] []], .ret (.v 0)]
@[irreducible] def ql:Fn:=cA [.mv] 3 ki
noncomputable def j9:List Cm:=[.asg (.fld (.v 0) 1 "word") (.v 1), .asg (.fld (.v 0) 1 "name") (.v 2), .asg (.fld (.v 0) 1 "branches") (.lst [(.lst [])])]
@[irreducible] def zY:Fn:=cA [.mu,.mv,.mv] 3 j9
def wx:List Cm:=[.asg (.fld (.v 0) 2 "over") (.c .non), .asg (.fld (.v 0) 2 "opened") (.lst [(.call (.mk 1 "Opened") [.mv,.mv] zY [(.c (.str [])),(.c (.str []))])]), .asg (.fld (.v 0) 2 "named") .dct]
@[irreducible] def qB:Fn:=cA [.mu] 1 wx
def jH:List Cm:=[.asg (.v 2) (.ix (.at (.v 0) 1 "branches") (.ap .neg [(.c (.int 1))])), .ife (.tb true [(.ap .eq [(.ix (.v 1) (.c (.int 0))),(.c (.str oq))]),(.t (.v 2)),(.ap .eq [(.ix (.ix (.v 2) (.ap .neg [(.c (.int 1))])) (.c (.int 0))),(.c (.str oq))])]) [.asg (.sub (.v 2) (.ap .neg [(.c (.int 1))])) (.tup [(.c (.str oq)),(.ap .add [(.ix (.ix (.v 2) (.ap .neg [(.c (.int 1))])) (.c (.int 1))),(.ix (.v 1) (.c (.int 1)))])])] [.ex (.mu .append (.v 2) [(.v 1)])]]
@[irreducible] def zU:Fn:=cA [.mu,.mv] 3 jH
def jo:List Cm:=[.ret (.bo true [(.ap .eq [(.at (.v 0) 1 "word"),(.c (.str oy))]),(.ap .eq [(.ap .len [(.at (.v 0) 1 "branches")]),(.c (.int 1))])])]
@[irreducible] def zR:Fn:=cA [.mu] 1 jo
def xY:List Cm:=[.ife (.ap .ne [(.at (.v 0) 1 "word"),(.c (.str oy))]) [.ret (.tup [(.at (.v 0) 1 "word"),(.at (.v 0) 1 "name"),(.fz (.ix (.at (.v 0) 1 "branches") (.c (.int 0))))])] [], .ret (.tup [(.c (.str oy)),(.at (.v 0) 1 "name"),(.fz (.ix (.at (.v 0) 1 "branches") (.c (.int 0)))),(.ife (.t (.call (.mt 1 "takes_else") [.mu] zR [(.v 0)])) (.fz (.lst [])) (.fz (.ix (.at (.v 0) 1 "branches") (.c (.int 1)))))])]
@[irreducible] def jf:Fn:=cA [.mu] 1 xY
noncomputable def jI:List Cm:=[.ret (.ap .eq [(.ap .len [(.at (.v 0) 2 "opened")]),(.c (.int 1))])]
@[irreducible] def zK:Fn:=cA [.mu] 1 jI
def qm:List Cm:=[.asg (.v 3) (.ix (.v 1) (.c (.int 0))), .ife (.ap .eq [(.v 3),(.c (.str ow))]) [.ret (.ap .eq [(.v 2),(.c (.int 0))])] [], .ife (.tb true [(.ap .isnot [(.at (.v 0) 2 "over"),(.c .non)]),(.t (.call (.mt 2 "is_outside") [.mu] zK [(.v 0)])),(.ap .ne [(.v 3),(.c (.str og))])]) [.ret (.c (.bl false))] [], .ife (.ap .eq [(.v 3),(.c (.str oi))]) [.ret (.call (.mt 1 "takes_else") [.mu] zR [(.ix (.at (.v 0) 2 "opened") (.ap .neg [(.c (.int 1))]))])] [], .ife (.ap .eq [(.v 3),(.c (.str ou))]) [.ret (.not (.call (.mt 2 "is_outside") [.mu] zK [(.v 0)]))] [], .ife (.ap .eq [(.v 3),(.c (.str oh))]) [.ret (.ap .isnot [(.at (.v 0) 2 "over"),(.c .non)])] [], .ret (.c (.bl true))]
@[irreducible] def zo:Fn:=cA [.mu,.mv,.mv] 4 qm
def jq:List Cm:=[.ife (.tb true [(.ap .eq [(.v 1),(.c (.str og))]),(.ap .isin [(.v 2),(.at (.v 0) 2 "named")])]) [.raise 4 "Twice" "name" false (.v 2)] [], .ife (.ap .gt [(.ap .len [(.at (.v 0) 2 "opened")]),(.g "MOST_OPENED" du)]) [.raise0 5 "TooMany" (.c (.str [109,111,114,101,32,116,104,97,110,32,116,119,101,108,118,101,32,105,110,32,111,110,101,32,97,110,111,116,104,101,114]))] [], .ife (.ap .eq [(.v 1),(.c (.str og))]) [.asg (.sub (.at (.v 0) 2 "named") (.v 2)) (.c (.bl true))] [], .ex (.mu .append (.at (.v 0) 2 "opened") [(.call (.mk 1 "Opened") [.mv,.mv] zY [(.v 1),(.v 2)])])]
@[irreducible] def zu:Fn:=cA [.mu,.mv,.mv] 3 jq
def ye:List Cm:=[.ife (.tb false [(.ap .is [(.v 1),(.c .non)]),(.tn (.t (.call (.mt 2 "can_stand") [.mu,.mv,.mv] zo [(.v 0),(.v 1),(.v 2)])))]) [.raise 3 "NoSheet" "at" false (.v 2)] [], .asg (.v 3) (.ix (.v 1) (.c (.int 0))), .ife (.ap .eq [(.v 3),(.c (.str ow))]) [.asg (.fld (.v 0) 2 "over") (.ix (.v 1) (.c (.int 1)))] [.ife (.ap .isin [(.v 3),(.g "OPENERS" eN)]) [.ex (.call (.mt 2 "begin_piece") [.mu,.mv,.mv] zu [(.v 0),(.v 3),(.ix (.v 1) (.c (.int 1)))])] [.ife (.ap .eq [(.v 3),(.c (.str oi))]) [.ex (.mu .append (.at (.ix (.at (.v 0) 2 "opened") (.ap .neg [(.c (.int 1))])) 1 "branches") [(.lst [])])] [.ife (.ap .eq [(.v 3),(.c (.str ou))]) [.asg (.v 4) (.mu .pop (.at (.v 0) 2 "opened") []), .ex (.call (.mt 1 "add_piece") [.mu,.mv] zU [(.ix (.at (.v 0) 2 "opened") (.ap .neg [(.c (.int 1))])),(.call (.mt 1 "whole") [.mu] jf [(.v 4)])])] [.ex (.call (.mt 1 "add_piece") [.mu,.mv] zU [(.ix (.at (.v 0) 2 "opened") (.ap .neg [(.c (.int 1))])),(.v 1)])]]]]]
@[irreducible] def zy:Fn:=cA [.mu,.mv,.mv] 5 ye
def Wc (jg:Fn):List Cm:=[.asg (.v 1) (.lst []), .loop (.v 2) .seq [(.v 0)] [.ex (.mu .append (.v 1) [(.tpl (.lc (.ife (.t (.ap (.isi [.list]) [(.v 0)])) (.call (.fn "copied") [.mv] jg [(.v 0)]) (.v 0)) 1 .seq [(.v 2)] []))])], .ret (.m 1)]
def jg:Nat->Fn
 | 0=>λ_ _ _=>False
 | n+1=>cA [.mv] 3 (Wc (jg n))
def wy:List Cm:=[.asg (.fld (.v 0) 0 "over") (.v 1), .asg (.fld (.v 0) 0 "pieces") (.call (.fn "copied") [.mv] (jg 40) [(.v 2)])]
@[irreducible] def qC:Fn:=cA [.mu,.mv,.mv] 3 wy
def vF:List Cm:=[.ife (.tn (.t (.call (.mt 2 "is_outside") [.mu] zK [(.v 0)]))) [.raise 3 "NoSheet" "at" false (.v 1)] [], .ret (.call (.mk 0 "Sheet") [.mv,.mv] qC [(.at (.v 0) 2 "over"),(.fz (.ix (.at (.ix (.at (.v 0) 2 "opened") (.c (.int 0))) 1 "branches") (.c (.int 0))))])]
@[irreducible] def qr:Fn:=cA [.mu,.mv] 2 vF
def QD:List Cm:=[.ife (.tb false [(.tn (.t (.ap (.isi [.str]) [(.v 0)]))),(.tn (.chn .le .le (.c (.int 1)) (.ap .len [(.v 0)]) (.g "LONGEST_NAME" dh)))]) [.ret (.c (.bl false))] [], .ret (.ap .all [(.lc (.ap .isin [(.v 0),(.g "LETTERS" eO)]) 1 .seq [(.v 0)] [])])]
@[irreducible] def xK:Fn:=cA [.mv] 1 QD
def vG:List Cm:=[.ret (.bo true [(.call (.fn "is_name") [.mv] xK [(.v 0)]),(.ap .notin [(.v 0),(.g "BRACE_WORDS" dv)])])]
@[irreducible] def qR:Fn:=cA [.mv] 1 vG
def Zq:List Cm:=[.asg (.v 1) (.me .split (.v 0) [(.c (.str [32]))]), .ife (.ap .eq [(.ap .len [(.v 1)]),(.c (.int 1))]) [.ret (.ap (.kget "LONE_TOKENS" jv) [(.v 0),(.ife (.t (.call (.fn "is_own_name") [.mv] qR [(.v 0)])) (.tup [(.c (.str oO)),(.v 0)]) (.c .non))])] [], .ife (.ap .ne [(.ap .len [(.v 1)]),(.c (.int 2))]) [.ret (.c .non)] [], .ife (.ap .isin [(.ix (.v 1) (.c (.int 0))),(.tup [(.c (.str ot)),(.c (.str oy))])]) [.ret (.ife (.t (.call (.fn "is_own_name") [.mv] qR [(.ix (.v 1) (.c (.int 1)))])) (.tup [(.ix (.v 1) (.c (.int 0))),(.ix (.v 1) (.c (.int 1)))]) (.c .non))] [], .ife (.ap .isin [(.ix (.v 1) (.c (.int 0))),(.tup [(.c (.str og)),(.c (.str oz)),(.c (.str ow))])]) [.ret (.ife (.t (.call (.fn "is_name") [.mv] xK [(.ix (.v 1) (.c (.int 1)))])) (.tup [(.ix (.v 1) (.c (.int 0))),(.ix (.v 1) (.c (.int 1)))]) (.c .non))] [], .ret (.c .non)]
@[irreducible] def wz:Fn:=cA [.mv] 2 Zq
def Zr:List Cm:=[.ife (.ap .eq [(.ix (.v 0) (.v 1)),(.c (.str [125]))]) [.ret (.tup [(.c .non),(.c (.int 1))])] [], .ife (.ap .ne [(.ix (.v 0) (.v 1)),(.c (.str [123]))]) [.ret (.tup [(.tup [(.c (.str oq)),(.ix (.v 0) (.v 1))]),(.c (.int 1))])] [], .asg (.v 2) (.me .find (.v 0) [(.c (.str [125])),(.v 1)]), .ife (.ap .lt [(.v 2),(.c (.int 0))]) [.ret (.tup [(.c .non),(.c (.int 1))])] [], .asg (.v 3) (.ap (.sl true true) [(.v 0),(.ap .add [(.v 1),(.c (.int 1))]),(.v 2)]), .ret (.tup [(.call (.fn "token_of") [.mv] wz [(.v 3)]),(.ap .add [(.ap .len [(.v 3)]),(.c (.int 2))])])]
@[irreducible] def qI:Fn:=cA [.mv,.mv] 4 Zr
def yf:List Cm:=[.ife (.tb true [(.t (.ap (.isi [.str]) [(.v 0)])),(.ap .gt [(.ap .len [(.v 0)]),(.g "MOST_SIGNS" dE)])]) [.raise0 5 "TooMany" (.c (.str [109,111,114,101,32,116,104,97,110,32,116,119,111,32,116,104,111,117,115,97,110,100,32,115,105,103,110,115]))] [], .ex (.call (.fn "need_text") [.mv] ql [(.v 0)]), .asg (.v 1) (.call (.mk 2 "Draft") [] qB []), .asg (.v 2) (.c (.int 0)), .whl (.ap .lt [(.v 2),(.ap .len [(.v 0)])]) [.asg (.v 3) (.fz (.call (.fn "token_at") [.mv,.mv] qI [(.v 0),(.v 2)])), .ex (.call (.mt 2 "take") [.mu,.mv,.mv] zy [(.v 1),(.ix (.v 3) (.c (.int 0))),(.v 2)]), .aug 2 .add (.ix (.v 3) (.c (.int 1)))], .ret (.call (.mt 2 "ended") [.mu,.mv] qr [(.v 1),(.ap .len [(.v 0)])])]
@[irreducible] def zQ:Fn:=cA [.mv] 4 yf
def xZ:List Cm:=[.ife (.ap .lt [(.v 1),(.ap .len [(.v 0)])]) [.ret (.ix (.v 0) (.v 1))] [], .ret (.c (.int 0))]
@[irreducible] def zz:Fn:=cA [.mv,.mv] 2 xZ
def yg:List Cm:=[.asg (.v 2) (.ix (.lst [(.c (.int 1000000007)),(.c (.int 1181783503)),(.c (.int 1372345291)),(.c (.int 1518500279)),(.c (.int 1636201513)),(.c (.int 1734723539)),(.c (.int 1871234567)),(.c (.int 2012345681))]) (.ap .mod [(.v 1),(.c (.int 8))])), .asg (.v 3) (.ix (.lst [(.c (.int 100000000003)),(.c (.int 223606797763)),(.c (.int 314159265359)),(.c (.int 414213562379)),(.c (.int 577215664943)),(.c (.int 693147180563)),(.c (.int 732050807573))]) (.ap .mod [(.v 1),(.c (.int 7))])), .asg (.v 4) (.ap .mod [(.ap .mul [(.ap .add [(.ap .mod [(.v 0),(.c (.int 1000000000039))]),(.c (.int 1))]),(.v 2)]),(.c (.int 2147483629))]), .ret (.ap .mod [(.ap .mul [(.ap .add [(.v 4),(.c (.int 1))]),(.v 3)]),(.c (.int 999999999989))])]
@[irreducible] def zB:Fn:=cA [.mv,.mv] 5 yg
def kj:List Cm:=[.ife (.ap .ge [(.v 0),(.ap .pow [(.c (.int 10)),(.c (.int 18))])]) [.ret (.v 0)] [], .ret (.call (.fn "_law_mixed") [.mv,.mv] zB [(.v 0),(.c (.int 1))])]
@[irreducible] def xb:Fn:=cA [.mv] 1 kj
def yh:List Cm:=[.asg (.v 2) (.c (.str oe)), .asg (.v 3) (.c (.str oB)), .asg (.v 4) (.call (.fn "_law_mixed") [.mv,.mv] zB [(.v 0),(.c (.int 1))]), .asg (.v 5) (.ap .add [(.c (.int 1)),(.ap .mod [(.v 4),(.c (.int 8))])]), .asg (.v 6) (.ap .mod [(.ap .fdiv [(.v 4),(.c (.int 8))]),(.v 5)]), .asg (.v 7) (.lst []), .loop (.v 8) .rng [(.v 1)] [.asg (.v 9) (.c (.str [])), .loop (.v 10) .rng [(.v 5)] [.asg (.v 11) (.ix (.lst [(.v 2),(.v 3)]) (.ap .int [(.ap .eq [(.v 10),(.c (.int 0))])])), .asg (.v 9) (.ap .add [(.v 9),(.ix (.v 11) (.ap .mod [(.ap .add [(.call (.fn "_law_mixed") [.mv,.mv] zB [(.v 0),(.ap .add [(.c (.int 2)),(.v 10)])]),(.ap .mul [(.v 8),(.ap .int [(.ap .eq [(.v 10),(.v 6)])])])]),(.ap .len [(.v 11)])]))])], .ex (.mu .append (.v 7) [(.v 9)])], .ife (.ap .eq [(.ap .mod [(.ap .fdiv [(.v 4),(.c (.int 64))]),(.c (.int 4))]),(.c (.int 1))]) [.asg (.v 12) (.ix (.v 3) (.ap .mod [(.call (.fn "_law_mixed") [.mv,.mv] zB [(.v 0),(.c (.int 2))]),(.c (.int 21))])), .loop (.v 8) .rng [(.v 1)] [.asg (.sub (.v 7) (.v 8)) (.v 12), .asg (.v 12) (.ap .add [(.v 12),(.ix (.v 2) (.ap .mod [(.call (.fn "_law_mixed") [.mv,.mv] zB [(.v 0),(.ap .add [(.c (.int 12)),(.v 8)])]),(.c (.int 26))]))])]] [], .ret (.m 7)]
@[irreducible] def jk:Fn:=cA [.mv,.mv] 13 yh
def Zs:List Cm:=[.asg (.v 2) (.ix (.ix (.ix (.v 0) (.ap .neg [(.c (.int 1))])) (.c (.int 2))) (.ap .neg [(.c (.int 1))])), .ife (.tb true [(.ap .eq [(.ix (.v 1) (.c (.int 0))),(.c (.str oq))]),(.ap .ne [(.v 2),(.lst [])]),(.ap .eq [(.ix (.ix (.v 2) (.ap .neg [(.c (.int 1))])) (.c (.int 0))),(.c (.str oq))])]) [.asg (.v 1) (.tup [(.c (.str oq)),(.ap .add [(.ix (.mu .pop (.v 2) []) (.c (.int 1))),(.ix (.v 1) (.c (.int 1)))])])] [], .ex (.mu .append (.v 2) [(.v 1)])]
@[irreducible] def zV:Fn:=cA [.mu,.mv] 3 Zs
def km:List Cm:=[.asg (.tup [1,2,3]) (.mu .pop (.v 0) []), .ife (.tb true [(.ap .eq [(.v 1),(.c (.str oy))]),(.ap .eq [(.ap .len [(.v 3)]),(.c (.int 1))])]) [.ex (.mu .append (.v 3) [(.lst [])])] [], .ex (.call (.fn "_law_put") [.mu,.mv] zV [(.v 0),(.ap .add [(.tup [(.v 1),(.v 2)]),(.ap .tuple [(.fz (.v 3))])])])]
@[irreducible] def jK:Fn:=cA [.mu] 4 km
noncomputable def yi:List Cm:=[.asg (.v 0) (.c (.str [32,33,34,35,36,38,39,40,41,42,43,44,45,46,47,48,49,50,51,52,53,54,55,56,57,58,59,60,61,62,63,64])), .ret (.ap .add [(.v 0),(.c (.str [65,66,67,68,69,70,71,72,73,74,75,76,77,78,79,80,81,82,83,84,85,86,87,88,89,90,91,92,93,94,95,96,97,98,99,100,101,102,103,104,105,106,107,108,109,110,111,112,113,114,115,116,117,118,119,120,121,122,124,126]))])]
@[irreducible] def wa:Fn:=cA [] 1 yi
def vc:List Cm:=[.asg (.v 2) (.call (.fn "_law_signs") [] wa []), .ife (.ap .eq [(.ap .mod [(.v 1),(.c (.int 5))]),(.c (.int 0))]) [.ex (.call (.fn "_law_put") [.mu,.mv] zV [(.v 0),(.tup [(.c (.str oq)),(.ix (.c (.str [123,125])) (.ap .mod [(.ap .fdiv [(.v 1),(.c (.int 5))]),(.c (.int 2))]))])]), .ret (.ix (.lst [(.c (.str [123,40,125])),(.c (.str [123,41,125]))]) (.ap .mod [(.ap .fdiv [(.v 1),(.c (.int 5))]),(.c (.int 2))]))] [], .asg (.v 3) (.c (.str [])), .asg (.v 4) (.ap .fdiv [(.v 1),(.c (.int 15))]), .loop (.v 5) .rng [(.ap .add [(.c (.int 1)),(.ap .mod [(.ap .fdiv [(.v 1),(.c (.int 5))]),(.c (.int 3))])])] [.asg (.v 3) (.ap .add [(.v 3),(.ix (.v 2) (.ap .mod [(.v 4),(.c (.int 92))]))]), .asg (.v 4) (.ap .fdiv [(.v 4),(.c (.int 92))])], .ex (.call (.fn "_law_put") [.mu,.mv] zV [(.v 0),(.tup [(.c (.str oq)),(.v 3)])]), .ret (.v 3)]
@[irreducible] def jh:Fn:=cA [.mu,.mv] 6 vc
def vH:List Cm:=[.asg (.v 4) (.ix (.lst [(.c (.str ot)),(.c (.str oy)),(.c (.str og)),(.c (.str og))]) (.ap .mod [(.v 1),(.c (.int 4))])), .asg (.v 5) (.ix (.v 2) (.ap .mod [(.ap .fdiv [(.v 1),(.c (.int 4))]),(.ap .len [(.v 2)])])), .ife (.tb false [(.tb true [(.ap .eq [(.v 4),(.c (.str og))]),(.ap .eq [(.v 3),(.lst [])])]),(.ap .gt [(.ap .len [(.v 0)]),(.c (.int 12))])]) [.ret (.c (.str []))] [], .ife (.ap .eq [(.v 4),(.c (.str og))]) [.asg (.v 5) (.mu .popI (.v 3) [(.ap .mod [(.ap .fdiv [(.v 1),(.c (.int 4))]),(.ap .len [(.v 3)])])])] [], .ex (.mu .append (.v 0) [(.tup [(.v 4),(.v 5),(.lst [(.lst [])])])]), .ret (.ap .add [(.ap .add [(.ap .add [(.ap .add [(.c (.str [123])),(.v 4)]),(.c (.str [32]))]),(.v 5)]),(.c (.str [125]))])]
@[irreducible] def qS:Fn:=cA [.mu,.mv,.mv,.mu] 6 vH
def jL:List Cm:=[.asg (.v 4) (.ap .mod [(.v 1),(.c (.int 6))]), .ife (.tb true [(.ap .lt [(.v 4),(.c (.int 2))]),(.ap .gt [(.ap .len [(.v 0)]),(.c (.int 1))])]) [.ex (.call (.fn "_law_shut") [.mu] jK [(.v 0)]), .ret (.c (.str oA))] [], .ife (.tb true [(.ap .eq [(.v 4),(.c (.int 2))]),(.ap .eq [(.ix (.ix (.v 0) (.ap .neg [(.c (.int 1))])) (.c (.int 0))),(.c (.str oy))]),(.ap .eq [(.ap .len [(.ix (.ix (.v 0) (.ap .neg [(.c (.int 1))])) (.c (.int 2)))]),(.c (.int 1))])]) [.ex (.mu .append (.ix (.ix (.v 0) (.ap .neg [(.c (.int 1))])) (.c (.int 2))) [(.lst [])]), .ret (.c (.str oC))] [], .ife (.tb true [(.ap .eq [(.v 4),(.c (.int 3))]),(.t (.v 3)),(.ap .isin [(.c (.str og)),(.lc (.ix (.v 0) (.c (.int 0))) 1 .seq [(.v 0)] [])])]) [.ex (.call (.fn "_law_put") [.mu,.mv] zV [(.v 0),(.tup [(.c (.str oh))])]), .ret (.c (.str oP))] [], .ife (.ap .eq [(.v 4),(.c (.int 4))]) [.asg (.v 5) (.fz (.lst [(.c (.str ot)),(.c (.str oy)),(.c (.str oi)),(.c (.str ou)),(.c (.str og)),(.c (.str oh)),(.c (.str oz)),(.c (.str ow))])), .asg (.v 6) (.ix (.ap .add [(.v 2),(.v 5)]) (.ap .mod [(.ap .fdiv [(.v 1),(.c (.int 6))]),(.ap .add [(.ap .len [(.v 2)]),(.c (.int 8))])])), .ex (.call (.fn "_law_put") [.mu,.mv] zV [(.v 0),(.tup [(.c (.str oz)),(.v 6)])]), .ret (.ap .add [(.ap .add [(.c (.str [123,100,114,97,119,32])),(.v 6)]),(.c (.str [125]))])] [], .asg (.v 6) (.ix (.v 2) (.ap .mod [(.ap .fdiv [(.v 1),(.c (.int 6))]),(.ap .len [(.v 2)])])), .ex (.call (.fn "_law_put") [.mu,.mv] zV [(.v 0),(.tup [(.c (.str oO)),(.v 6)])]), .ret (.ap .add [(.ap .add [(.c (.str [123])),(.v 6)]),(.c (.str [125]))])]
@[irreducible] def xc:Fn:=cA [.mu,.mv,.mv,.mv] 7 jL
def xG:List Cm:=[.asg (.v 5) (.ap .mod [(.v 1),(.c (.int 8))]), .ife (.tb true [(.t (.v 4)),(.ap .eq [(.ap .len [(.v 0)]),(.c (.int 1))])]) [.ret (.call (.fn "_law_opened") [.mu,.mv,.mv,.mu] qS [(.v 0),(.ap .add [(.c (.int 2)),(.ap .mul [(.ap .fdiv [(.v 1),(.c (.int 8))]),(.c (.int 4))])]),(.v 2),(.v 3)])] [], .ife (.ap .lt [(.v 5),(.c (.int 3))]) [.ret (.call (.fn "_law_literal") [.mu,.mv] jh [(.v 0),(.ap .fdiv [(.v 1),(.c (.int 8))])])] [], .ife (.ap .lt [(.v 5),(.c (.int 5))]) [.ret (.call (.fn "_law_opened") [.mu,.mv,.mv,.mu] qS [(.v 0),(.ap .fdiv [(.v 1),(.c (.int 8))]),(.v 2),(.v 3)])] [], .ret (.call (.fn "_law_word") [.mu,.mv,.mv,.mv] xc [(.v 0),(.ap .fdiv [(.v 1),(.c (.int 8))]),(.v 2),(.v 4)])]
@[irreducible] def wb:Fn:=cA [.mu,.mv,.mv,.mu,.mv] 6 xG
def kn:List Cm:=[.asg (.v 2) (.fz (.call (.fn "_law_names") [.mv,.mv] jk [(.call (.fn "_law_cell_at") [.mv,.mv] zz [(.v 0),(.c (.int 0))]),(.c (.int 4))])), .asg (.v 3) (.ap .add [(.call (.fn "_law_names") [.mv,.mv] jk [(.call (.fn "_law_cell_at") [.mv,.mv] zz [(.v 0),(.c (.int 1))]),(.c (.int 6))]),(.lst [(.c (.str ot)),(.c (.str oy)),(.c (.str oi)),(.c (.str ou)),(.c (.str og)),(.c (.str oh)),(.c (.str oz)),(.c (.str ow))])]), .asg (.v 4) (.lst [(.tup [(.c (.str [])),(.c (.str [])),(.lst [(.lst [])])])]), .asg (.v 5) (.lst []), .loop (.v 6) .seq [(.ap (.sl true true) [(.v 0),(.c (.int 2)),(.c (.int 62))])] [.ex (.mu .append (.v 5) [(.call (.fn "_law_token") [.mu,.mv,.mv,.mu,.mv] wb [(.v 4),(.call (.fn "_law_rest") [.mv] xb [(.v 6)]),(.v 2),(.v 3),(.v 1)])])], .whl (.ap .gt [(.ap .len [(.v 4)]),(.c (.int 1))]) [.ex (.call (.fn "_law_shut") [.mu] jK [(.v 4)]), .ex (.mu .append (.v 5) [(.c (.str oA))])], .ret (.tup [(.fz (.v 5)),(.fz (.ix (.ix (.ix (.v 4) (.c (.int 0))) (.c (.int 2))) (.c (.int 0))))])]
@[irreducible] def xf:Fn:=cA [.mv,.mv] 7 kn
def yj:List Cm:=[.asg (.v 1) (.lst []), .loop (.v 2) .seq [(.v 0)] [.asg (.v 3) (.ix (.me .split (.ap (.sl true true) [(.v 2),(.c (.int 1)),(.ap .neg [(.c (.int 1))])]) [(.c (.str [32]))]) (.c (.int 0))), .ife (.tb true [(.ap .eq [(.ap (.sl false true) [(.v 2),(.c (.int 1))]),(.c (.str [123]))]),(.ap .isin [(.c (.str [32])),(.v 2)]),(.ap .isin [(.v 3),(.tup [(.c (.str ot)),(.c (.str oy)),(.c (.str og))])])]) [.ex (.mu .append (.v 1) [(.v 3)])] [], .ife (.ap .eq [(.v 2),(.c (.str oC))]) [.asg (.sub (.v 1) (.ap .neg [(.c (.int 1))])) (.c (.str oi))] [], .ife (.ap .eq [(.v 2),(.c (.str oA))]) [.ex (.mu .pop (.v 1) [])] []], .ret (.m 1)]
@[irreducible] def qJ:Fn:=cA [.mv] 4 yj
def yk:List Cm:=[.ret (.lc (.ap (.sl true true) [(.v 0),(.c (.int 7)),(.ap .neg [(.c (.int 1))])]) 1 .seq [(.v 0)] [(.ap .eq [(.ap (.sl false true) [(.v 0),(.c (.int 7))]),(.c (.str oj))])])]
@[irreducible] def jl:Fn:=cA [.mv] 1 yk
def Zt:List Cm:=[.asg (.v 1) (.fz (.lst [(.c (.str [125])),(.c (.str [123])),(.c (.str oM)),(.c (.str [123,125])),(.c (.str [123,32,125])),(.c (.str [123,32,97,125])),(.c (.str [123,97,32,125])),(.c (.str [123,97,32,98,32,99,125])),(.c (.str [123,97,32,98,125])),(.c (.str [123,101,97,99,104,125])),(.c (.str [123,105,102,125])),(.c (.str [123,98,108,111,99,107,125])),(.c (.str [123,100,114,97,119,125]))])), .asg (.v 1) (.fz (.ap .add [(.v 1),(.lst [(.c (.str [123,111,118,101,114,32,65,125])),(.c (.str [123,111,118,101,114,32,97,98,99,100,101,102,103,104,105,125])),(.c (.str [123,111,118,101,114,32,97,32,98,125]))])])), .asg (.v 1) (.fz (.ap .add [(.v 1),(.lst [(.c (.str [123,111,118,101,114,125])),(.c (.str [123,101,97,99,104,32,32,97,125])),(.c (.str [123,97,98,99,100,101,102,103,104,105,125])),(.c (.str [123,97,66,125])),(.c (.str [123,97,49,125])),(.c (.str [123,40,40,125])),(.c (.str [123,100,114,97,119,32,65,125])),(.c (.str [123,98,108,111,99,107,32,97,49,125])),(.c (.str [123,105,102,32,101,108,115,101,125]))])])), .asg (.v 1) (.fz (.ap .add [(.v 1),(.lst [(.c (.str [123,101,97,99,104,32,111,118,101,114,125])),(.c (.str [123,101,110,100,32,101,110,100,125])),(.c (.str [123,101,108,115,101,32,97,125])),(.c (.str [123,101,108,100,101,114,32,97,125])),(.c (.str [123,104,111,108,101,32,97,125])),(.c (.str [123,100,114,97,119,32,97,32,98,125])),(.c (.str [123,98,108,111,99,107,32,97,98,99,100,101,102,103,104,105,125]))])])), .asg (.v 2) (.fz (.lst [(.c (.str ot)),(.c (.str oy)),(.c (.str oi)),(.c (.str ou)),(.c (.str og)),(.c (.str oh)),(.c (.str oz)),(.c (.str ow))])), .asg (.v 1) (.fz (.ap .add [(.ap .add [(.v 1),(.lst [(.c (.str [123,105,102,32,97])),(.c (.str [123,40,32,125])),(.c (.str [123,101,110,100,32,125]))])]),(.lc (.ap .add [(.ap .add [(.c (.str [123,101,97,99,104,32])),(.v 0)]),(.c (.str [125]))]) 1 .seq [(.v 2)] [])])), .ret (.ix (.ap .add [(.v 1),(.lc (.ap .add [(.ap .add [(.c (.str [123,105,102,32])),(.v 0)]),(.c (.str [125]))]) 1 .seq [(.v 2)] [])]) (.ap .mod [(.v 0),(.c (.int 51))]))]
@[irreducible] def vd:Fn:=cA [.mv] 3 Zt
def zF:List Cm:=[.asg (.v 3) (.fz (.call (.fn "_law_stack") [.mv] qJ [(.v 1)])), .asg (.v 4) (.fz (.call (.fn "_law_named") [.mv] jl [(.v 1)])), .asg (.v 5) (.ap .len [(.me .join (.c (.str [])) [(.v 1)])]), .asg (.v 6) (.ap .mod [(.v 0),(.c (.int 8))]), .asg (.v 0) (.ap .fdiv [(.v 0),(.c (.int 8))]), .ife (.tb true [(.ap .eq [(.v 6),(.c (.int 3))]),(.ap .gt [(.v 5),(.c (.int 0))])]) [.ret (.tup [(.c (.str [123,111,118,101,114,32,97,125])),(.tup [(.c (.str om)),(.v 5)])])] [], .ife (.tb true [(.ap .eq [(.v 6),(.c (.int 4))]),(.ap .eq [(.v 3),(.lst [])])]) [.ret (.tup [(.ix (.lst [(.c (.str oA)),(.c (.str oC))]) (.ap .mod [(.v 0),(.c (.int 2))])),(.tup [(.c (.str om)),(.v 5)])])] [], .ife (.tb true [(.ap .eq [(.v 6),(.c (.int 4))]),(.ap .eq [(.ix (.v 3) (.ap .neg [(.c (.int 1))])),(.c (.str oy))])]) [.ret (.tup [(.c (.str [123,101,108,115,101,125,123,101,108,115,101,125])),(.tup [(.c (.str om)),(.ap .add [(.v 5),(.c (.int 6))])])])] [], .ife (.ap .eq [(.v 6),(.c (.int 4))]) [.ret (.tup [(.c (.str oC)),(.tup [(.c (.str om)),(.v 5)])])] [], .ife (.tb true [(.ap .eq [(.v 6),(.c (.int 5))]),(.tb false [(.tn (.t (.v 2))),(.ap .notin [(.c (.str og)),(.v 3)])])]) [.ret (.tup [(.c (.str oP)),(.tup [(.c (.str om)),(.v 5)])])] [], .ife (.tb true [(.ap .eq [(.v 6),(.c (.int 6))]),(.ap .ne [(.v 4),(.lst [])])]) [.asg (.v 7) (.ix (.v 4) (.ap .mod [(.v 0),(.ap .len [(.v 4)])])), .ret (.tup [(.ap .add [(.ap .add [(.c (.str oj)),(.v 7)]),(.c (.str [125]))]),(.tup [(.c (.str oG)),(.v 7)])])] [], .ife (.tb true [(.ap .eq [(.v 6),(.c (.int 6))]),(.ap .lt [(.ap .len [(.v 3)]),(.c (.int 12))])]) [.ret (.tup [(.c (.str [123,98,108,111,99,107,32,97,125,123,101,110,100,125,123,98,108,111,99,107,32,97,125])),(.tup [(.c (.str oG)),(.c (.str [97]))])])] [], .ife (.ap .eq [(.v 6),(.c (.int 7))]) [.asg (.v 7) (.ix (.lc (.v 0) 1 .seq [(.ap .add [(.lst [(.c (.str [117])),(.c (.str [118])),(.c (.str [119])),(.c (.str [120])),(.c (.str [121])),(.c (.str [122]))]),(.lc (.ap .muls [(.c (.str [107])),(.v 0)]) 1 .rng [(.c (.int 1)),(.c (.int 9))] [])])] [(.ap .notin [(.v 0),(.v 5)])]) (.c (.int 0))), .ret (.tup [(.ap .add [(.ap .add [(.ap .add [(.c (.str oj)),(.v 7)]),(.c (.str [125]))]),(.ap .muls [(.c (.str [123,101,97,99,104,32,97,125])),(.ap .sub [(.c (.int 12)),(.ap .len [(.v 3)])])])]),(.tup [(.c (.str oJ))])])] [], .ret (.tup [(.call (.fn "_law_odd") [.mv] vd [(.v 0)]),(.tup [(.c (.str om)),(.v 5)])])]
@[irreducible] def qo:Fn:=cA [.mv,.mv,.mv] 8 zF
def ve:List Cm:=[.tri "SealError" 1 oQ [.ex (.call (.fn "sheet_read") [.mv] zQ [(.v 0)])] [.ife (.tb false [(.t (.ap (.isxt ["NoCode","NoElder","NoName","Unknown","Unread"] [(3,false),(4,false),(5,false),(6,false),(8,true),(9,true),(10,true),(11,true),(12,true)]) [(.v 1)])),(.tn (.t (.ap (.isxb [(3,true),(4,true),(5,true),(6,true),(8,true),(9,true),(10,true),(11,true),(12,true)]) [(.v 1)])))]) [.ret (.tup [(.c (.str [110,111,110,101]))])] [], .ife (.t (.ap (.isx "NoSheet" [(3,true),(4,false),(5,false),(6,false),(8,false),(9,false),(10,false),(11,false),(12,false)]) [(.v 1)])) [.ret (.tup [(.c (.str om)),(.atX (.v 1) "at" [3,6,8,9])])] [], .ife (.t (.ap (.isx "Twice" [(3,false),(4,true),(5,false),(6,false),(8,false),(9,false),(10,false),(11,false),(12,false)]) [(.v 1)])) [.ret (.tup [(.c (.str oG)),(.atX (.v 1) "name" [4,10,11,12])])] [], .ife (.t (.ap (.isx "NoSign" [(3,false),(4,false),(5,false),(6,true),(8,false),(9,false),(10,false),(11,false),(12,false)]) [(.v 1)])) [.ret (.tup [(.c (.str oH)),(.atX (.v 1) "at" [3,6,8,9])])] [], .ife (.t (.ap (.isx "TooMany" [(3,false),(4,false),(5,true),(6,false),(8,false),(9,false),(10,false),(11,false),(12,false)]) [(.v 1)])) [.ret (.tup [(.c (.str oJ))])] [], .ret (.tup [(.c (.str [110,111,110,101]))])], .ret (.tup [(.c (.str [114,101,97,100]))])]
@[irreducible] def zW:Fn:=cA [.mv] 2 ve
def QF:List Cm:=[.ife (.tb false [(.ap .ne [(.ap .len [(.v 0)]),(.ap .len [(.v 1)])]),(.ap .ne [(.v 0),(.v 1)])]) [.ret (.c (.bl false))] [], .ret (.not (.ap (.isi [.bool]) [(.ix (.v 0) (.ap .neg [(.c (.int 1))]))]))]
@[irreducible] def jM:Fn:=cA [.mv,.mv] 2 QF
def yl:List Cm:=[.ife (.ap .eq [(.ap .mod [(.v 2),(.c (.int 6))]),(.c (.int 1))]) [.asg (.v 3) (.ap .mod [(.ap .fdiv [(.v 2),(.c (.int 6))]),(.ap .add [(.ap .len [(.v 0)]),(.c (.int 1))])]), .asg (.v 4) (.ix (.lst [(.c (.str [10])),(.c (.str [9]))]) (.ap .mod [(.ap .fdiv [(.v 2),(.c (.int 7919))]),(.c (.int 2))])), .ret (.tup [(.ap .add [(.ap .add [(.ap (.sl false true) [(.v 0),(.v 3)]),(.v 4)]),(.ap (.sl true false) [(.v 0),(.v 3)])]),(.tup [(.c (.str oH)),(.v 3)])])] [], .ife (.ap .eq [(.ap .mod [(.v 2),(.c (.int 6))]),(.c (.int 2))]) [.ret (.tup [(.ap .add [(.ap .add [(.v 0),(.ap .muls [(.c (.str [97])),(.ap .sub [(.c (.int 2001)),(.ap .len [(.v 0)])])])]),(.ap .muls [(.c (.str [10])),(.ap .mod [(.ap .fdiv [(.v 2),(.c (.int 6))]),(.c (.int 2))])])]),(.tup [(.c (.str oJ))])])] [], .ret (.tup [(.v 0),(.v 1)])]
@[irreducible] def wc:Fn:=cA [.mv,.mv,.mv] 5 yl
def vz:List Cm:=[.asg (.v 2) (.me .join (.c (.str [])) [(.v 0)]), .asg (.v 3) (.fz (.call (.fn "_law_named") [.mv] jl [(.v 0)])), .asg (.v 4) (.ix (.lc (.v 0) 1 .seq [(.ap .add [(.lst [(.c (.str [117])),(.c (.str [118])),(.c (.str [119])),(.c (.str [120])),(.c (.str [121])),(.c (.str [122]))]),(.lc (.ap .muls [(.c (.str [107])),(.v 0)]) 1 .rng [(.c (.int 1)),(.c (.int 9))] [])])] [(.ap .notin [(.v 0),(.v 4)])]) (.c (.int 0))), .ife (.t (.v 1)) [.asg (.v 2) (.ap .add [(.ap .add [(.ap .add [(.v 2),(.c (.str oj))]),(.v 4)]),(.c (.str [125]))]), .ret (.ap .add [(.ap .add [(.v 2),(.ap .muls [(.c (.str [97])),(.ap .sub [(.c (.int 1995)),(.ap .len [(.v 2)])])])]),(.c (.str oA))])] [], .ret (.ap .add [(.v 2),(.ap .muls [(.c (.str [97])),(.ap .sub [(.c (.int 2000)),(.ap .len [(.v 2)])])])])]
@[irreducible] def xg:Fn:=cA [.mv,.mv] 5 vz
def yo:List Cm:=[.asg (.v 2) (.fz (.lc (.v 0) 1 .rng [(.ap .len [(.v 0)])] [(.ap .ne [(.call (.fn "_law_stack") [.mv] qJ [(.fz (.ap (.sl false true) [(.v 1),(.v 0)]))]),(.lst [])])])), .ife (.ap .eq [(.v 2),(.lst [])]) [.ret (.v 0)] [], .ret (.ap (.sl false true) [(.v 0),(.ix (.v 2) (.ap .mod [(.v 1),(.ap .len [(.v 2)])]))])]
@[irreducible] def vf:Fn:=cA [.mv,.mv] 3 yo
def xr:List Cm:=[.asg (.v 1) (.ap .eq [(.ap .mod [(.call (.fn "_law_cell_at") [.mv,.mv] zz [(.v 0),(.c (.int 1))]),(.c (.int 2))]),(.c (.int 1))]), .asg (.tup [2,3]) (.call (.fn "_law_made") [.mv,.mv] xf [(.v 0),(.v 1)]), .ife (.t (.v 1)) [.asg (.v 2) (.fz (.ap .add [(.lst [(.c (.str oE))]),(.v 2)]))] [], .ife (.tn (.t (.ap (.isc "Sheet" 0) [(.fz (.call (.fn "sheet_read") [.mv] zQ [(.me .join (.c (.str [])) [(.v 2)])]))]))) [.ret (.c (.bl false))] [], .asg (.v 4) (.call (.fn "_law_full") [.mv,.mv] xg [(.v 2),(.v 1)]), .ife (.tb false [(.ap .ne [(.ap .len [(.v 4)]),(.c (.int 2000))]),(.tn (.t (.ap (.isc "Sheet" 0) [(.fz (.call (.fn "sheet_read") [.mv] zQ [(.v 4)]))])))]) [.ret (.c (.bl false))] [], .asg (.v 5) (.call (.fn "_law_mixed") [.mv,.mv] zB [(.call (.fn "_law_cell_at") [.mv,.mv] zz [(.v 0),(.c (.int 0))]),(.c (.int 5))]), .asg (.v 6) (.fz (.call (.fn "_law_cut") [.mv,.mv] vf [(.v 2),(.ap .fdiv [(.v 5),(.c (.int 4))])])), .ife (.tb true [(.ap .ne [(.v 6),(.v 2)]),(.tn (.t (.call (.fn "_law_is") [.mv,.mv] jM [(.call (.fn "_law_refused") [.mv] zW [(.me .join (.c (.str [])) [(.v 6)])]),(.tup [(.c (.str om)),(.ap .len [(.me .join (.c (.str [])) [(.v 6)])])])])))]) [.ret (.c (.bl false))] [], .asg (.v 7) (.ap .add [(.ap .int [(.v 1)]),(.ap .mod [(.call (.fn "_law_mixed") [.mv,.mv] zB [(.call (.fn "_law_cell_at") [.mv,.mv] zz [(.v 0),(.c (.int 1))]),(.c (.int 6))]),(.ap .sub [(.ap .add [(.ap .len [(.v 2)]),(.c (.int 1))]),(.ap .int [(.v 1)])])])]), .asg (.tup [8,9]) (.call (.fn "_law_wrong") [.mv,.mv,.mv] qo [(.call (.fn "_law_mixed") [.mv,.mv] zB [(.call (.fn "_law_cell_at") [.mv,.mv] zz [(.v 0),(.c (.int 1))]),(.c (.int 7))]),(.fz (.ap (.sl false true) [(.v 2),(.v 7)])),(.v 1)]), .asg (.v 10) (.ap (.sl true false) [(.v 2),(.v 7)]), .ife (.tb true [(.ap .eq [(.ap .mod [(.v 5),(.c (.int 2))]),(.c (.int 1))]),(.ap .eq [(.ap (.sl true false) [(.v 8),(.ap .neg [(.c (.int 1))])]),(.c (.str [125]))])]) [.asg (.v 11) (.ap .mod [(.call (.fn "_law_mixed") [.mv,.mv] zB [(.call (.fn "_law_cell_at") [.mv,.mv] zz [(.v 0),(.c (.int 0))]),(.c (.int 8))]),(.ap .add [(.ap .len [(.v 10)]),(.c (.int 1))])]), .ex (.mu .insert (.v 10) [(.v 11),(.ix (.call (.fn "_law_wrong") [.mv,.mv,.mv] qo [(.call (.fn "_law_mixed") [.mv,.mv] zB [(.call (.fn "_law_cell_at") [.mv,.mv] zz [(.v 0),(.c (.int 0))]),(.c (.int 9))]),(.fz (.ap (.sl false true) [(.v 2),(.ap .add [(.v 7),(.v 11)])])),(.v 1)]) (.c (.int 0)))])] [], .asg (.v 12) (.ap .add [(.ap .add [(.me .join (.c (.str [])) [(.fz (.ap (.sl false true) [(.v 2),(.v 7)]))]),(.v 8)]),(.me .join (.c (.str [])) [(.v 10)])]), .ife (.tn (.t (.call (.fn "_law_is") [.mv,.mv] jM [(.call (.fn "_law_refused") [.mv] zW [(.v 12)]),(.v 9)]))) [.ret (.c (.bl false))] [], .asg (.tup [12,9]) (.call (.fn "_law_other") [.mv,.mv,.mv] wc [(.v 12),(.v 9),(.call (.fn "_law_mixed") [.mv,.mv] zB [(.call (.fn "_law_cell_at") [.mv,.mv] zz [(.v 0),(.c (.int 0))]),(.c (.int 10))])]), .asg (.v 13) (.ix (.fz (.lst [(.c .non),(.c (.int 5)),(.lst [(.v 12)]),(.tup [(.v 12)]),(.c (.bl true))])) (.ap .mod [(.ap .fdiv [(.v 5),(.c (.int 2))]),(.c (.int 5))])), .ret (.bo true [(.call (.fn "_law_is") [.mv,.mv] jM [(.call (.fn "_law_refused") [.mv] zW [(.v 12)]),(.v 9)]),(.call (.fn "_law_is") [.mv,.mv] jM [(.call (.fn "_law_refused") [.mv] zW [(.v 13)]),(.tup [(.c (.str oH)),(.c (.int 0))])])])]
def Y9:zA ⟨QZ,zc wW,true⟩ ki (zf wW)=true:=aE
def Z7:zA ⟨vo,zc qh,true⟩ j9 (zf qh)=true:=aE
def QG:zA ⟨vU,zc qz,true⟩ wx (zf qz)=true:=aE
def Zu:zA ⟨xR,zc qa,true⟩ jH (zf qa)=true:=aE
def kZ:zA ⟨xp,zc z0,true⟩ jo (zf z0)=true:=aE
def We:zA ⟨yZ,zc jb,true⟩ xY (zf jb)=true:=aE
def Zv:zA ⟨xS,zc qb,true⟩ jI (zf qb)=true:=aE
def Z8:zA ⟨vp,zc qj,true⟩ qm (zf qj)=true:=aE
def k9:zA ⟨xq,zc z4,true⟩ jq (zf z4)=true:=aE
def VC:zA ⟨ZW,zc jS,true⟩ ye (zf jS)=true:=aE
def Tn {jg:Fn}:zA ⟨Y1,zc vV,true⟩ (Wc jg) (zf vV)=true:=by kernel_rfl
def QH:zA ⟨vW,zc qA,true⟩ wy (zf qA)=true:=aE
def WV:zA ⟨Zf,zc js,true⟩ vF (zf js)=true:=aE
def zcW:zA ⟨XH,zc vX,true⟩ QD (zf vX)=true:=aE
def WW:zA ⟨Zg,zc jt,true⟩ vG (zf jt)=true:=aE
def zaF:zA ⟨J6,zc xT,true⟩ Zq (zf xT)=true:=aE
def zaG:zA ⟨J7,zc xU,true⟩ Zr (zf xU)=true:=aE
def VD:zA ⟨ZY,zc jV,true⟩ yf (zf jV)=true:=aE
def Wf:zA ⟨kb,zc jc,true⟩ xZ (zf jc)=true:=aE
def VE:zA ⟨ZZ,zc jW,true⟩ yg (zf jW)=true:=aE
def Ka:zA ⟨Q0,zc wX,true⟩ kj (zf wX)=true:=aE
def VF:zA ⟨Z0,zc jX,true⟩ yh (zf jX)=true:=aE
def zaH:zA ⟨J8,zc xV,true⟩ Zs (zf xV)=true:=aE
def Kb:zA ⟨Q1,zc wY,true⟩ km (zf wY)=true:=aE
def VG:zA ⟨Z1,zc jY,true⟩ yi (zf jY)=true:=aE
def Wg:zA ⟨kc,zc jd,true⟩ vc (zf jd)=true:=aE
def WX:zA ⟨Zh,zc ju,true⟩ vH (zf ju)=true:=aE
def Kc:zA ⟨Q2,zc wZ,true⟩ jL (zf wZ)=true:=aE
def VH:zA ⟨Z2,zc j0,true⟩ xG (zf j0)=true:=aE
def Ke:zA ⟨Q3,zc w6,true⟩ kn (zf w6)=true:=aE
def VI:zA ⟨Z3,zc j5,true⟩ yj (zf j5)=true:=aE
def VJ:zA ⟨Z4,zc j6,true⟩ yk (zf j6)=true:=aE
def zaI:zA ⟨Wa,zc xW,true⟩ Zt (zf xW)=true:=aE
def VL:zA ⟨Z5,zc j7,true⟩ zF (zf j7)=true:=aE
def Wh:zA ⟨ke,zc je,true⟩ ve (zf je)=true:=aE
def zcX:zA ⟨XI,zc vY,true⟩ QF (zf vY)=true:=aE
def VM:zA ⟨Z6,zc j8,true⟩ yl (zf j8)=true:=aE
def Kf:zA ⟨Q5,zc xa,true⟩ vz (zf xa)=true:=aE
def zaJ:zA ⟨Wb,zc xX,true⟩ yo (zf xX)=true:=aE
def Iy:zA ⟨Cg,zc Y7,true⟩ xr (zf Y7)=true:=aE
section
abbrev bA:Lc:=oq
abbrev bE:Lc:=oy
abbrev zO:Lc:=ot
abbrev zX:Lc:=oi
abbrev bC:Lc:=ou
abbrev ze:Lc:=og
abbrev ji:Lc:=oh
abbrev wm:Lc:=oz
abbrev zS:Lc:=ow
abbrev XJ:Lc:=oO
abbrev qV:List Lc:=[zO,bE,zX,bC,ze,ji,wm,zS]
def SG:Lc:=oa
def dP:T->Lc
 | .tp (.str w::_)=>w
 | _=>[]
def hd2:T->Lc
 | .tp (_::.str s::_)=>s
 | _=>[]
noncomputable abbrev fl (xs:List T):T:=.nd false .ls xs
abbrev cH (s:Lc):T:=.tp [.str bA,.str s]
def dM (l:List T)(p:T):List T:=match l.getLast? with
 | some q=>if dP p=bA/\dP q=bA then l.dropLast++[cH (hd2 q++hd2 p)] else l++[p]
 | none=>l++[p]
def Kg:dM [] p=[p]:=rfl
def wA:dM (l++[q]) p=if dP p=bA/\dP q=bA then l++[cH (hd2 q++hd2 p)] else l++[q]++[p]:=by unfold dM;rw[gS];simp only[List.dropLast_concat]
def Tj (l:List T)(a b:Lc):dM (dM l (cH a)) (cH b)=dM l (cH (a++b)):=by
 rcases gc l with rfl | ⟨l',q,rfl⟩
 ·rfl
 ·rw[gg,wA,wA];by_cases h:dP q=bA
  ·rw[uC ⟨rfl,h⟩,uC ⟨rfl,h⟩,wA,uC ⟨rfl,rfl⟩];show l'++[cH ((hd2 q++a)++b)]=l'++[cH (hd2 q++(a++b))];rw[ue]
  ·rw[ux (λz=>h z.2),ux (λz=>h z.2),wA,uC ⟨rfl,rfl⟩];rfl
structure Fr where
 w:Lc
 n:Lc
 ps:List (List T)
 cur:List T
def Fr.put (f:Fr)(p:T):Fr:={ f with cur:=dM f.cur p }
def Fr.whole (f:Fr):T:=.tp (.str f.w::.str f.n::((f.ps++[f.cur]).map fl++if f.w=bE/\f.ps=[] then [fl []] else []))
abbrev Sx:=List Fr×List Lc
inductive Tok where
 | lit (s:Lc) | hole (n:Lc) | draw (n:Lc) | elder | op (w n:Lc) | els | fin
def Tok.xs:Tok->List T
 | .lit s=>[.str bA,.str s]
 | .hole n=>[.str XJ,.str n]
 | .draw n=>[.str wm,.str n]
 | .elder=>[.str ji]
 | .op w n=>[.str w,.str n]
 | .els=>[.str zX]
 | .fin=>[.str bC]
def Tok.isP (ov:Bool):Tok->Bool
 | .lit _=>true
 | .hole _=>true
 | .draw _=>true
 | .elder=>ov
 | _=>false
inductive fF (ov:Bool):Sx->Tok->Sx->Prop where
 | put {f:Fr} {st:List Fr} {nm:List Lc} {k:Tok}:k.isP ov=true->(ov=true->st≠[])->fF ov (f::st,nm) k (f.put (.tp k.xs)::st,nm)
 | op {st:List Fr} {nm:List Lc} {w n:Lc}:st.length<=12->st≠[]->(w=zO\/w=bE\/w=ze)->(ov=true->st.length=1->w=ze)->(w=ze->n∉nm)->fF ov (st,nm) (.op w n) (⟨w,n,[],[]⟩::st,if w=ze then nm++[n] else nm)
 | els {f:Fr} {st:List Fr} {nm:List Lc}:f.w=bE->f.ps=[]->(ov=true->st≠[])->fF ov (f::st,nm) .els ({ f with ps:=[f.cur],cur:=[] }::st,nm)
 | fin {f g:Fr} {st:List Fr} {nm:List Lc}:fF ov (f::g::st,nm) .fin (g.put f.whole::st,nm)
def zx (n:Lc):Prop:=1<=n.length/\n.length<=8/\∀ c∈n,97<=c/\c<=122
def jw (n:Lc):Prop:=zx n/\n∉qV
inductive eJ:Tok->Lc->Prop where
 | lb:eJ (.lit [123]) [40]
 | rb:eJ (.lit [125]) [41]
 | hole {n:Lc}:jw n->eJ (.hole n) n
 | draw {n:Lc}:zx n->eJ (.draw n) (wm++32::n)
 | elder:eJ .elder ji
 | els:eJ .els zX
 | fin:eJ .fin bC
 | op1 {w n:Lc}:w=zO\/w=bE->jw n->eJ (.op w n) (w++32::n)
 | op2 {n:Lc}:zx n->eJ (.op ze n) (ze++32::n)
inductive Tx:Tok->Lc->Prop where
 | sign {c:Nat}:c∈SG->c≠123->c≠125->Tx (.lit [c]) [c]
 | word {k:Tok} {i:Lc}:eJ k i->Tx k (123::(i++[125]))
inductive Rd (ov:Bool):Sx->Lc->Sx->Prop where
 | nil {s:Sx}:Rd ov s [] s
 | cons {s s1 s2:Sx} {k:Tok} {t r:Lc}:fF ov s k s1->Tx k t->Rd ov s1 r s2->Rd ov s (t++r) s2
def Rd.app (h:Rd ov s a s1)(k:Rd ov s1 b s2):Rd ov s (a++b) s2:=by
 induction h with
 | nil=>exact k
 | cons h1 h2 _ ih=>rw[ue];exact .cons h1 h2 (ih k)
def Rd.one (h:fF ov s k s1)(ht:Tx k t):Rd ov s t s1:=by have:=Rd.cons h ht .nil;rwa [uH] at this
theorem Rd.lits {ov:Bool}{st:List Fr}{nm:List Lc}(ho:ov=true->st≠[]):∀ (s:Lc),s≠[]->(∀ c∈s,c∈SG/\c≠123/\c≠125)->∀ {f:Fr},Rd ov (f::st,nm) s (f.put (cH s)::st,nm)
 | [],h,_,_=>absurd rfl h
 | [c],_,h,f=>.one (.put (k:=.lit [c]) rfl ho) (.sign (h c ug).1 (h c ug).2.1 (h c ug).2.2)
 | c::d::s,_,h,f=>by
  have h1:=h c ug;have:=Rd.cons (.put (ov:=ov) (f:=f) (nm:=nm) (k:=.lit [c]) rfl ho) (.sign h1.1 h1.2.1 h1.2.2) (Rd.lits ho (d::s) aD (λx hx=>h x (uk _ hx)));have e:(f.put (.tp (Tok.lit [c]).xs)).put (cH (d::s))=f.put (cH (c::d::s)):=by show({ f with cur:=dM (dM f.cur (cH [c])) (cH (d::s)) }:Fr)=_;rw[Tj];rfl
  rw[e] at this;exact this
def jD (h:zx n):∀ c∈n,c∈SG/\c≠125/\c≠32:=λc hc=>by
 have:=h.2.2 c hc
 have e:∀ c,97<=c/\c<=122->c∈SG/\c≠125/\c≠32:=λc h=>⟨by
  have:c=97+(c - 97)/\c - 97<26:=aB
  have z:∀ k,k<26->97+k∈SG:=aA
  rw[this.1]
  exact z _ this.2,aB,aB⟩
 exact e c this
def VN {i:Lc}(h:eJ k i):i.length<=14/\∀ c∈i,c∈SG/\c≠125:=by
 have two:∀ (w n:Lc),w.length<=5->(∀ c∈w,c∈SG/\c≠125)->zx n->(w++32::n).length<=14/\∀ c∈w++32::n,c∈SG/\c≠125:=λw n hl hw hn=>by
  refine⟨?_,λc hc=>?_⟩
  ·have:=hn.2.1;simp only[ub,uc];lia
  ·rcases uo.mp hc with z | z
   ·exact hw c z
   ·rcases uw.mp z with z | z
    ·subst z;decide
    ·exact⟨(jD hn c z).1,(jD hn c z).2.1⟩
 cases h with
 | lb=>decide
 | rb=>decide
 | hole h=>exact⟨by have:=h.1.2.1;omega,λc hc=>⟨(jD h.1 c hc).1,(jD h.1 c hc).2.1⟩⟩
 | draw h=>exact two _ _ (by decide) (by decide) h
 | elder=>decide
 | els=>decide
 | fin=>decide
 | op1 hw h=>
  rcases hw with rfl | rfl
  ·exact two _ _ aA aA h.1
  ·exact two _ _ aA aA h.1
 | op2 h=>exact two _ _ (by decide) (by decide) h
def sS {t:Lc}(h:Tx k t):1<=t.length/\∀ c∈t,c∈SG:=by
 cases h with
 | sign h _ _=>exact⟨uj _,λc hc=>by rw[uy.mp hc];exact h⟩
 | word h=>
  refine⟨aD,λc hc=>?_⟩;rcases uw.mp hc with rfl | hc
  ·decide
  ·rcases uo.mp hc with z | z
   ·exact((VN h).2 c z).1
   ·rw[uy.mp z];decide
def Rd.sg (h:Rd ov s a s1):∀ c∈a,c∈SG:=by
 induction h with
 | nil=>exact nofun
 | cons _ h2 _ ih=>exact λc hc=>(uo.mp hc).elim (λz=>(sS h2).2 c z) (ih c)
def Pb (B:Nat)(R:T->Prop)(t:T):Prop:=∃ (w:Lc) (xs:List T),t=.tp (.str w::xs)/\w.length<=B/\(w=bA->∃ s,xs=[.str s])/\xs.length<=8/\∀ x∈xs,(∃ s,x=.str s/\s.length<=B)\/∃ ps,x=fl ps/\ps.length<=B/\∀ p∈ps,R p
def Pc (B:Nat):Nat->T->Prop
 | 0=>Pb B λ_=>False
 | n+1=>Pb B (Pc B n)
def Pb.mono (h:Pb B R t)(hB:B<=B')(hR:∀ p,R p->R' p):Pb B' R' t:=by let⟨w,xs,e,h1,h2,h3,h4⟩:=h;refine⟨w,xs,e,aB,h2,h3,λx hx=>(h4 x hx).imp (λ⟨s,a,b⟩=>⟨s,a,aB⟩) λ⟨ps,a,b,c⟩=>⟨ps,a,aB,λp hp=>hR p (c p hp)⟩⟩
theorem Pc.mono (hB:B<=B'):∀ {n:Nat} {t:T},Pc B n t->Pc B' n t
 | 0,_,h=>Pb.mono h hB λ_ z=>z
 | n+1,_,h=>Pb.mono h hB λ_ z=>Pc.mono hB z
theorem Pc.up:∀ {n:Nat} {t:T},Pc B n t->Pc B (n+1) t
 | 0,_,h=>Pb.mono (R':=Pc B 0) h (uj _) λ_ z=>z.elim
 | n+1,_,h=>Pb.mono (R':=Pc B (n+1)) h (uj _) λ_ z=>Pc.up z
theorem Pc.body:∀ {n:Nat} {t:T},Pc B n t->Pb B (λp=>∃ m,m<n/\Pc B m p) t
 | 0,_,h=>Pb.mono h (uj _) λ_ z=>z.elim
 | n+1,_,h=>Pb.mono h (uj _) λ_ z=>⟨n,gp n,z⟩
def Pc.to (h:n<=m)(k:Pc B n t):Pc B m t:=by
 induction h with
 | refl=>exact k
 | step _ ih=>exact ih.up
def kP {w:Lc}{xs:List T}(h1:w.length<=B)(h2:w=bA->∃ s,xs=[.str s])(h3:xs.length<=8)(h:∀ x∈xs,∃ s,x=.str s/\s.length<=B):Pc B n (.tp (.str w::xs)):=by refine Pc.to (u4 n) (?_:Pc B 0 _);exact⟨w,xs,rfl,h1,h2,h3,λx hx=>.inl (h x hx)⟩
def fB (B n:Nat)(l:List T):Prop:=l.length<=B/\∀ p∈l,Pc B n p
theorem fB.mono (hB:B<=B')(h:fB B n l):fB B' n l:=⟨uZ h.1 hB,λp hp=>(h.2 p hp).mono hB⟩
def mB (B n:Nat)(f:Fr):Prop:=fB B n f.cur/\(∀ l∈f.ps,fB B n l)/\(f.ps=[]\/f.w=bE/\∃ a,f.ps=[a])/\f.w.length<=8/\f.n.length<=8/\f.w≠bA
theorem mB.mono (hB:B<=B')(h:mB B n f):mB B' n f:=⟨h.1.mono hB,λl hl=>(h.2.1 l hl).mono hB,h.2.2⟩
def e9 (B:Nat):List Fr->Prop
 | []=>True
 | f::st=>st.length<=12/\mB B (12 - st.length) f/\e9 B st
theorem e9.mono (hB:B<=B'):∀ {st:List Fr},e9 B st->e9 B' st
 | [],_=>trivial
 | _::_,h=>⟨h.1,h.2.1.mono hB,e9.mono hB h.2.2⟩
def VO (h:Pc B n t)(hl:dP t=bA):∃ s,t=cH s/\s.length<=B:=by
 let⟨w,xs,rfl,h1,h2,h3,h4⟩:=h.body;let⟨s,rfl⟩:=h2 hl;have hl:w=bA:=hl;subst hl;refine⟨s,rfl,?_⟩;rcases h4 _ ug with⟨u,e,z⟩ | ⟨ps,e,_⟩
 ·cases e;exact z
 ·cases e
def Er (hl:fB B n l)(hp:Pc (B+d) n p)(hd:1<=d)(hs:dP p=bA->(hd2 p).length<=d)(h8:8<=B):fB (B+d) n (dM l p):=by
 rcases gc l with rfl | ⟨l',q,rfl⟩
 ·exact⟨by rw[Kg];simp only[uc,ur];lia,λx hx=>by rw[Kg] at hx;rw[uy.mp hx];exact hp⟩
 ·rw[gg] at hl |-;have l1:=hl.1;rw[ub] at l1;rw[wA];split
  ·rename_i h;let⟨s,rfl,hs'⟩:=VO (hl.2 q (uJ _ ug)) h.2;refine⟨by rw[ub];simp only[uc,ur] at l1 |-;lia,λx hx=>?_⟩;rcases uo.mp hx with z | z
   ·exact(hl.2 x (uW _ z)).mono aB
   ·rw[uy.mp z];refine kP (by simp only[uc,ur];lia) (λ_=>⟨_,rfl⟩) aD λx hx=>⟨_,uy.mp hx,?_⟩
    have:=hs h.1;show(s++hd2 p).length<=_;rw[ub];lia
  ·refine⟨by rw[ub,ub];simp only[uc,ur] at l1 |-;lia,λx hx=>?_⟩;rcases uo.mp hx with z | z
   ·exact(hl.2 x z).mono aB
   ·rw[uy.mp z];exact hp
def Wi {f:Fr}(h:mB B n f)(h8:8<=B):Pc B (n+1) f.whole:=by
 let⟨h1,h2,h3,h4,h5,h6⟩:=h
 have hb:∀ l∈f.ps++[f.cur],fB B n l:=λl hl=>by
  rcases uo.mp hl with z | z
  ·exact h2 l z
  ·rw[uy.mp z];exact h1
 have hl:(f.ps++[f.cur]).length<=2:=by rcases h3 with z | ⟨_,a,z⟩<;>simp[z]
 refine⟨f.w,_,rfl,aB,λz=>absurd z h6,?_,λx hx=>?_⟩
 ·rw[uc,ub,ud];split<;>simp only[uc,ur]<;>lia
 ·rcases uw.mp hx with rfl | hx
  ·exact .inl ⟨_,rfl,aB⟩
  ·rcases uo.mp hx with z | z
   ·let⟨l,hl,rfl⟩:=u9.mp z;exact .inr ⟨l,rfl,(hb l hl).1,(hb l hl).2⟩
   ·split at z
    ·rw[uy.mp z];exact .inr ⟨[],rfl,u4 _,nofun⟩
    ·cases z
def Dz {k:Tok}{t:Lc}(hp:k.isP ov=true)(ht:Tx k t)(h8:8<=B):Pc (B+t.length) n (.tp k.xs)/\(dP (.tp k.xs)=bA->(hd2 (.tp k.xs)).length<=t.length):=by
 have leaf:∀ (w s:Lc),w.length<=8->s.length<=B+t.length->Pc (B+t.length) n (.tp [.str w,.str s]):=λw s h1 h2=>kP aB (λ_=>⟨_,rfl⟩) aD λx hx=>⟨s,uy.mp hx,h2⟩
 have nm:∀ {n:Lc},zx n->n.length<=B+t.length:=λh=>by have:=h.2.1;lia
 cases ht with
 | sign h=>exact⟨leaf _ _ (by decide) (by simp only[uc,ur];omega),λ_=>uj _⟩
 | word h=>
  cases h with
  | lb=>exact⟨leaf _ _ (by decide) (by simp only[uc,ur];omega),λ_=>by decide⟩
  | rb=>exact⟨leaf _ _ (by decide) (by simp only[uc,ur];omega),λ_=>by decide⟩
  | hole h=>exact⟨leaf _ _ (by decide) (nm h.1),λz=>absurd (show XJ=bA from z) (by decide)⟩
  | draw h=>exact⟨leaf _ _ (by decide) (nm h),λz=>absurd (show wm=bA from z) (by decide)⟩
  | elder=>exact⟨kP (by simp only[uc,ur];omega) (λz=>absurd z (by decide)) (by simp) nofun,λz=>absurd z (by decide)⟩
  | els=>cases hp
  | fin=>cases hp
  | op1 _ _=>cases hp
  | op2 _=>cases hp
def Dy {t:Lc}(h:fF ov s k s')(ht:Tx k t)(hk:e9 B s.1)(h8:8<=B):e9 (B+t.length) s'.1:=by
 have t1:=(sS ht).1;cases h with
 | put hp ho=>let⟨k1,k2,k3⟩:=hk;let⟨p1,p2⟩:=Dz (n:=12 - _) hp ht h8;exact⟨k1,⟨Er k2.1 p1 t1 p2 h8,(k2.mono (Us _ _)).2⟩,k3.mono (Us _ _)⟩
 | op h1 h2 h3 h4 h5=>
  refine⟨h1,⟨⟨u4 _,nofun⟩,nofun,.inl rfl,?_,?_,?_⟩,e9.mono (Us _ _) hk⟩
  ·rcases h3 with rfl | rfl | rfl<;>(simp only[uc,ur];lia)
  ·cases ht with
   | word h=>
    cases h with
    | op1 _ h=>exact h.1.2.1
    | op2 h=>exact h.2.1
  ·rcases h3 with rfl | rfl | rfl
   ·exact(by decide:zO≠bA)
   ·exact(by decide:bE≠bA)
   ·exact(by decide:ze≠bA)
 | els h1 h2 h3=>let⟨k1,k2,k3⟩:=hk;have k2:=k2.mono (Us B t.length);refine⟨k1,⟨⟨u4 _,nofun⟩,λl hl=>?_,.inr ⟨h1,_,rfl⟩,k2.2.2.2⟩,k3.mono (Us _ _)⟩;rw[uy.mp hl];exact k2.1
 | fin=>
  let⟨k1,k2,k3,k4,k5⟩:=hk;rename_i f g st nm;have e:12 - st.length=12 - (st.length+1)+1:=by simp only[uc] at k1;lia
  have w:=Wi k2 h8;have w1:Pc (B+t.length) (12 - st.length) f.whole:=by rw[e];exact w.mono (Us _ _)
  exact⟨k3,⟨Er k4.1 w1 t1 (λz=>absurd z k2.2.2.2.2.2) h8,(k4.mono (Us _ _)).2⟩,k5.mono (Us _ _)⟩
def Rd.ok {a:Lc}(h:Rd ov s a s'):∀ {B:Nat},e9 B s.1->8<=B->e9 (B+a.length) s'.1:=by
 induction h with
 | nil=>exact λh _=>h
 | cons h1 h2 _ ih=>intro B hk h8;have:=ih (Dy h1 h2 hk h8) (by omega);rwa [ub,<-gO]
end
section
def getD_at (l:Lc)(v:Nat):(S l).cps.getD v 0=l.getD v 0:=by
 simp[S,Array.getD];by_cases h:v<l.length
 ·rw[dif_pos h,uz h];rfl
 ·rw[dif_neg h,List.getElem?_eq_none aB];rfl
def Rf {l i r:Lc}(h:l.drop a=123::(i++125::r))(hi:125∉i):Txt.find3 (S l) (S [125]) (a:Int)=((a+1+i.length:Nat):Int):=by
 have hf:fromIndex (S l).length (a:Int)=a:=by unfold fromIndex;rw[ux aB];lia
 have hat:∀ j,l.getD (a+j) 0=(123::(i++125::r)).getD j 0:=λj=>by rw[<-h,u5,u5,G5]
 have h1:l.getD (a+(1+i.length)) 0=125:=by rw[hat,show 1+i.length=i.length+1 by lia,u5,Gx,Ua (uj _),U5];rfl
 have h2:∀ j,j<1+i.length->l.getD (a+j) 0≠125:=λj hj=>by
  rw[hat];cases j with
  | zero=>exact(by decide:(123:Nat)≠125)
  | succ j=>rw[u5,Gx,UB (by omega),uz (by omega)];exact λz=>hi (by rw[<-show i[j]=125 from z];exact U2 _)
 have hl:a+(1+i.length)<l.length:=by have:=congrArg List.length h;simp only[Ud,uc,ub] at this;lia
 rcases StrLaws.find3_spec (S l) 125 (a:Int) with⟨_,z⟩ | ⟨k,e,k1,k2,k3,k4⟩
 ·rw[hf] at z;exact absurd h1 (by rw[<-getD_at];exact z _ aB (by rw[qL];exact hl))
 ·rw[hf] at k1 k4;rw[getD_at] at k3;refine e.trans ?_;have a1:¬ k<a+(1+i.length):=λz=>h2 (k - a) aB (by rw[show a+(k - a)=k by lia];exact k3);have a2:¬ a+(1+i.length)<k:=λz=>k4 _ aB z (by rw[getD_at];exact h1);congr 1;lia
def vA (l:Lc)(c:Nat):∃ ps:List Lc,splits l [c]=ps/\(∀ p∈ps,c∉p)/\Str.join (S [c]) (ps.map S)=S l/\ps≠[]:=by
 refine⟨_,rfl,λp hp=>?_,?_,λz=>?_⟩
 ·let⟨q,hq,rfl⟩:=u9.mp hp;exact StrLaws.split_free (S l) c q hq
 ·have:=StrLaws.join_split (S l) (S [c])
  have e:(splits l [c]).map S=Txt.split (S l) (S [c]):=by
   unfold splits;rw[Uw];conv=>rhs;rw[<-List.map_id (Txt.split (S l) (S [c]))]
   exact UY λa _=>by simp[S]
  rw[e];exact this
 ·have z':Txt.split (S l) (S [c])=[]:=by
   unfold splits at z
   exact U0.mp z
  have:=StrLaws.join_split (S l) (S [c])
  rw[z'] at this
  have e:l=[]:=by
   have:=congrArg (λx=>x.cps.toList) this
   simpa[S,Str.join,Str.empty] using this.symm
  subst e
  unfold Txt.split at z'
  rw[uC (by rw[qL,qL];rfl)] at z'
  cases z'
def cR (a b:Lc):S a++S b=S (a++b):=by show Str.append (S a) (S b)=_;simp[S,Str.append]
def Kh (h:32∉l):splits l [32]=[l]:=by
 let⟨ps,e,h1,h2,h3⟩:=vA l 32;rw[e]
 match ps,h3,h1,h2 with
 | [p],_,_,h2=>have:S p=S l:=h2;rw[QS.mp this]
 | p::q::ps,_,_,h2=>
  have h2:S p++S [32]++Str.join (S [32]) ((q::ps).map S)=S l:=h2;refine absurd ?_ h;have z:(S p++S [32]++Str.join (S [32]) ((q::ps).map S)).cps.toList=l:=by rw[h2];simp[S]
  rw[<-z];show 32∈(Str.append (Str.append (S p) (S [32])) _).cps.toList;simp[Str.append,S]
def Wj (hp:c∉p)(hq:c∉q)(h:p++c::x=q++c::y):p=q/\x=y:=by
 induction p generalizing q with
 | nil=>
  cases q with
  | nil=>simpa using h
  | cons a q=>simp at h;exact absurd (ug) (h.1 ▸ hq)
 | cons a p ih=>
  cases q with
  | nil=>simp at h;exact absurd (ug) (h.1 ▸ hp)
  | cons b q=>simp only[Ux,Hr] at h;let⟨rfl,h⟩:=h;let⟨e1,e2⟩:=ih (λz=>hp (uk _ z)) (λz=>hq (uk _ z)) h;exact⟨by rw[e1],e2⟩
def kQ (ha:32∉a)(hb:32∉b):splits (a++32::b) [32]=[a,b]:=by
 let⟨ps,e,h1,h2,h3⟩:=vA (a++32::b) 32;rw[e]
 match ps,h3,h1,h2 with
 | [p],_,h1,h2=>have:S p=S (a++32::b):=h2;rw[QS.mp this] at h1;exact absurd (uJ _ ug) (h1 _ ug)
 | [p,q],_,h1,h2=>have h2:S p++S [32]++S q=S (a++32::b):=h2;rw[cR,cR] at h2;have:=QS.mp h2;rw[ue] at this;let⟨e1,e2⟩:=Wj (h1 p ug) ha this;have e2:q=b:=e2;rw[e1,e2]
 | p::q::r::ps,_,h1,h2=>
  have h2:S p++S [32]++(S q++S [32]++Str.join (S [32]) ((r::ps).map S))=S (a++32::b):=h2;have z:∃ y,Str.join (S [32]) ((r::ps).map S)=S y:=⟨_,(show _=S (Str.join (S [32]) ((r::ps).map S)).cps.toList by simp[S])⟩
  let⟨y,hy⟩:=z;rw[hy,cR,cR,cR,cR] at h2;have:=QS.mp h2;rw[ue] at this;let⟨e1,e2⟩:=Wj (h1 p ug) ha this;refine absurd ?_ hb;rw[<-e2];simp
end
section
variable {Q:T->List T->Prop} {X:d5->List T->Prop}
def LT:Lc:=oe
def Iw (h:97<=c/\c<=122):c∈LT:=by
 have e:c=97+(c - 97)/\c - 97<26:=aB
 have z:∀ k,k<26->97+k∈LT:=aA
 rw[e.1];exact z _ e.2
theorem kR:∀ {ws:List Lc},iz (.str (S n)) (ws.map λw=>.str (S w))=decide (n∈ws)
 | []=>rfl
 | w::ws=>by
  show(lj (.str (S w)) (.str (S n))||iz (.str (S n)) (ws.map λw=>.str (S w)))=_;rw[kR];show((S w == S n)||_)=_;by_cases h:n=w
  ·subst h;simp
  ·have:(S w == S n)=false:=by
    rw[Ut]
    exact λz=>h (QS.mp z).symm
   rw[this]
   simp[h]
def lC (xs:List T)(t:T):Prop:=t=.tp xs\/t=.ks false xs
def VP {l r:Lc}(h:l.drop a=c::r):a<l.length/\∀ {s Z:Sl},cV s (.own (.int (a:Int))::.own (.str l)::Z)=some (.own (.str [c])::Z):=by
 have hl:a<l.length:=by have:=congrArg List.length h;simp only[Ud,uc] at this;lia
 refine⟨hl,λ{s Z}=>?_⟩;have e:l[a]? = some c:=by have:=congrArg (λx=>x[0]?) h;simpa using this
 have e2:iL l (a:Int)=some c:=by unfold iL;rw[vk hl];exact e
 show cQ ((iL l (a:Int)).bind λc=>some (Slot.own (.str [c])::Z)) _=_;rw[e2];rfl
def WY {P:T->Prop}{l i r:Lc}{a:Nat}(hi:125∉i)(hF:∀ {Q:T->List T->Prop} {X:d5->List T->Prop},(∀ t,P t->Q t [.non])->wz [.str i] Q X)(hd':l.drop a=123::(i++125::r))(q:∀ u,P u->Q (.tp [u,.int ((i.length:Int)+2)]) [.non,.non]):qI [.str l,.int a] Q X:=by
 unfold qI;refine⟨rfl,?_⟩;let⟨hlt,e⟩:=VP hd';refine za e (za e ?_);have hf:=Rf hd' hi;refine zh (λh=>absurd (uq h) (by rw[hf];lia)) λ_=>?_
 have cu:aO l (some ((a:Int)+1)) (some (Txt.find3 (S l) (S [125]) (a:Int)))=i:=by
  have e1:((a:Int)+1)=((a+1:Nat):Int):=aB
  have ll:a+1+i.length<l.length:=by have:=congrArg List.length hd';simp only[Ud,uc,ub] at this;lia
  unfold aO;rw[hf,e1,HT.dm,HT.dm,Hs aB,Hs aB,<-HC,hd',show a+1+i.length - (a+1)=i.length by lia];simp
 rw[<-cu] at hF;refine hF λu hu=>?_;have:=q u hu;rw[<-cu] at this;exact this
mutual
def dB:T->T
 | .tp xs=>.tp (dt xs)
 | .nd _ k xs=>.nd false k (dt xs)
 | .ks l xs=>cond l (.ks true (dt xs)) (.tp (dt xs))
 | .xo c fs xs=>.xo c fs (dt xs)
 | t=>t
def dt:List T->List T
 | []=>[]
 | x::xs=>dB x::dt xs
end
theorem jx:∀ xs:List T,dt xs=xs.map dB
 | []=>rfl
 | x::xs=>congrArg (dB x::·) (jx xs)
mutual
theorem Rc:∀ t:T,dB (aV t)=dB t
 | .non=>rfl
 | .bl _=>rfl
 | .int _=>rfl
 | .str _=>rfl
 | .any=>rfl
 | .pin _=>rfl
 | .xo c fs xs=>congrArg (T.xo c fs) (wB xs)
 | .tp xs=>congrArg T.tp (wB xs)
 | .nd _ k xs=>congrArg (T.nd false k) (wB xs)
 | .ks true xs=>congrArg (T.ks true) (wB xs)
 | .ks false xs=>congrArg T.tp (wB xs)
theorem wB:∀ ts:List T,dt (aL ts)=dt ts
 | []=>rfl
 | t::ts=>by show dB (aV t)::dt (aL ts)=dB t::dt ts;rw[Rc t,wB ts]
end
mutual
theorem Jq:∀ t:T,aV (aV t)=aV t
 | .non=>rfl
 | .bl _=>rfl
 | .int _=>rfl
 | .str _=>rfl
 | .any=>rfl
 | .pin _=>rfl
 | .xo c fs xs=>congrArg (T.xo c fs) (vZ xs)
 | .tp xs=>congrArg T.tp (vZ xs)
 | .nd _ k xs=>congrArg (T.nd false k) (vZ xs)
 | .ks l xs=>congrArg (T.ks l) (vZ xs)
theorem vZ:∀ ts:List T,aL (aL ts)=aL ts
 | []=>rfl
 | t::ts=>by show aV (aV t)::aL (aL ts)=aV t::aL ts;rw[Jq t,vZ ts]
end
theorem xh:∀ xs:List T,aL xs=xs.map aV
 | []=>rfl
 | x::xs=>congrArg (aV x::·) (xh xs)
structure PF (t p:T):Prop where
 fz:aV t=t
 cn:dB t=p
def PF.sh (h:PF t p):shr t=true:=by rw[<-h.fz];exact ZJ t
theorem PF.xs (h:PF t (.tp ys)):∃ xs,aL xs=xs/\dt xs=ys/\(t=.tp xs\/t=.ks false xs):=by
 let⟨hs,hc⟩:=h;cases t with
 | tp xs=>cases hc;exact⟨xs,T.tp.inj hs,rfl,.inl rfl⟩
 | ks l xs=>
  cases l with
  | true=>cases hc
  | false=>cases hc;exact⟨xs,(T.ks.inj hs).2,rfl,.inr rfl⟩
 | _=>cases hc
def Ep (h:dB t=.str s):t=.str s:=by
 cases t with
 | ks l xs=>cases l<;>cases h
 | _=>first | exact h | cases h
def PF.ix {t:T}{ys:List T}(h:PF t (.tp ys)){k:Nat}{u:Lc}(e:ys[k]? = some (.str u)){s Z:Sl}:cV s (.own (.int (k:Int))::.own t::Z)=some (.own (.str u)::Z):=by
 let⟨xs,h1,rfl,h2⟩:=h.xs;rw[jx,uE] at e;let⟨x,e1,e2⟩:=uM.mp e;cases Ep e2;rcases h2 with rfl | rfl
 ·exact QA (vk (yD e1)) rfl e1
 ·exact QA (vk (yD e1)) rfl e1
def PF.ix0 (h:PF t p)(k:Pc B n p):cV s (.own (.int 0)::.own t::Z)=some (.own (.str (dP p))::Z):=by let⟨w,xs,rfl,_⟩:=k.body;exact h.ix (k:=0) rfl
def PF.ix1 (h:PF t p)(k:Pc B n p)(hl:dP p=bA):(∀ {s Z:Sl},cV s (.own (.int 1)::.own t::Z)=some (.own (.str (hd2 p))::Z))/\(hd2 p).length<=B:=by let⟨s,rfl,hs⟩:=VO k hl;exact⟨h.ix (k:=1) rfl,hs⟩
noncomputable abbrev ol (xs:List T):T:=.nd true .ls xs
abbrev oF:Lh:=["word","name","branches"]
abbrev BD (f:Fr)(bs:List (List T))(c:List T):T:=.nd true (.ob 1 oF) [.str f.w,.str f.n,ol (bs.map ol++[ol c])]
structure eL (c cur:List T):Prop where
 fz:aL c=c
 cn:dt c=cur
def eL.sh (h:eL c cur):aI c=true:=by rw[<-h.fz];exact xI c
def eL.snoc (h:eL c cur)(k:PF u p):eL (c++[u]) (cur++[p]):=by refine⟨by rw[xh,uF,<-xh,h.fz];exact congrArg (c++[·]) k.fz,by rw[jx,uF,<-jx,h.cn];exact congrArg (cur++[·]) k.cn⟩
def eL.last (h:eL (c++[v]) cur):∃ cur' v',cur=cur'++[v']/\eL c cur'/\PF v v':=by let⟨hs,hc⟩:=h;rw[jx,uF] at hc;rw[xh,uF] at hs;let⟨h1,h2⟩:=Ho hs aD;exact⟨_,_,hc.symm,⟨by rw[xh];exact h1,jx _⟩,(gw h2).1,rfl⟩
def eL.len {c cur:List T}(h:eL c cur):c.length=cur.length:=by rw[<-h.cn,jx,ud]
def t8 (f:Fr)(t:T):Prop:=∃ bs c,t=BD f bs c/\bs.map dt=f.ps/\(∀ b∈bs,aL b=b)/\eL c f.cur
def Lr:PF (cH s) (cH s):=⟨rfl,rfl⟩
def VQ {l:List T}(h:¬ (dP p=bA/\∃ q,l.getLast? = some q/\dP q=bA)):dM l p=l++[p]:=by
 unfold dM;split
 ·rename_i q e;rw[ux λz=>h ⟨z.1,q,e,z.2⟩]
 ·rfl
def Dx {f:Fr}(h:t8 f t)(hf:f.ps=[]\/∃ a,f.ps=[a])(hu:PF u p)(hc:fB B n f.cur)(hp:Pc B n p)(hB:B<=1000000)(q:∀ t',t8 (f.put p) t'->Q .non [t',.non]):zU [t,u] Q X:=by
 let⟨bs,c,rfl,h0,h1,h3⟩:=h;unfold zU;refine⟨rfl,?_⟩;have e0:=λs Z=>hu.ix0 hp (s:=s) (Z:=Z);have fin:∀ c',eL c' (dM f.cur p)->Q .non [BD f bs c',.non]:=λc' e1=>q _ ⟨bs,c',rfl,h0,h1,e1⟩;have hlen:c.length<=1000000:=by rw[h3.len];have:=hc.1;lia
 have l16:c.length<16777216:=aB
 clear q h1
 have hbs:bs=[]\/∃ b,bs=[b]:=by
  rcases hf with hf | ⟨a,hf⟩
  ·left;rw[hf] at h0;exact U0.mp h0
  ·right;rw[hf] at h0
   match bs,h0 with
   | [b],_=>exact⟨b,rfl⟩
 have r1:∀ {t':T} {x:Slot},iG [.own t',.own u,x] 1=some (.own u):=λ{t' x}=>qq rfl hu.sh;have app:¬ (dP p=bA/\∃ q,f.cur.getLast? = some q/\dP q=bA)->Q .non [BD f bs (c++[u]),.non]:=λhn=>fin _ (by rw[VQ hn];exact h3.snoc hu);rcases hbs with rfl | ⟨b,rfl⟩
 all_goals
  refine za r1 (za (e0 _ _) ?_);refine zh (λhw=>?_) (λhw=>?_)
  ·have hw:dP p=bA:=uq hw;rcases gc c with rfl | ⟨c',v,rfl⟩
   ·refine za r1 (app λ⟨_,z,e,_⟩=>?_);have:=h3.len;rw[U3 this.symm] at e;cases e
   ·rw[gg] at *;let⟨cur',v',ec,h5,hv⟩:=h3.last;have hvc:Pc B n v':=hc.2 _ (by rw[ec];simp);refine zh (λ_=>?_) (λz=>absurd z aD);refine za (Vr rfl vm rfl vn hv.sh) (za (hv.ix0 hvc) ?_);refine zh (λhv'=>?_) (λhv'=>?_)
    ·have hv':dP v' = bA:=uq hv';let⟨i3,l3⟩:=hv.ix1 hvc hv';let⟨i4,l4⟩:=hu.ix1 hp hw;refine za (Vr rfl vm rfl vn hv.sh) (za i3 (za r1 (za i4 (za (zD aB) ?_))));refine za (Vs rfl d7 rfl) ?_;refine fin _ ?_;rw[ec,wA,uC ⟨hw,hv'⟩];exact h5.snoc Lr
    ·refine za r1 ?_;refine za (qW aC (jn l16) aC) ?_;refine app λ⟨_,q,e,z⟩=>?_;rw[ec,gS] at e;cases e;exact uN hv' z
  ·refine za r1 ?_;refine za (qW aC (jn l16) aC) ?_;exact app λz=>uN hw z.1
def AR (q:Q .non [.nd true (.ob 1 oF) [.str w,.str n,ol [ol []]],.non,.non]):zY [.nd true (.ob 1 []) [],.str w,.str n] Q X:=by unfold zY;exact⟨rfl,q⟩
def Z9 {bl:List T}(hb:decide (w=bE/\bl.length=1)=b)(q:Q (.bl b) [.nd true (.ob 1 oF) [.str w,.str n,ol bl]]):zR [.nd true (.ob 1 oF) [.str w,.str n,ol bl]] Q X:=by
 unfold zR;refine⟨rfl,?_⟩;subst hb;refine zh (λh=>?_) (λh=>?_)
 ·have h:w=bE:=uq h;rw[show decide (w=bE/\bl.length=1)=decide ((bl.length:Int)=1) by simp[h];lia] at q;exact q
 ·have h:¬ w=bE:=uN h;rw[show decide (w=bE/\bl.length=1)=false by simp[h]] at q;exact q
def Rb {f:Fr}(h:t8 f t)(hf:f.ps=[]\/f.w=bE/\∃ a,f.ps=[a])(q:∀ r t',PF r f.whole->Q r [t']):jf [t] Q X:=by
 let⟨bs,c,rfl,h1,h2,h3⟩:=h;unfold jf;refine⟨rfl,?_⟩;have fc:∀ {c cur:List T},eL c cur->dB (fl (aL c))=fl cur:=λ{c cur} h=>by show T.nd false .ls (dt (aL c))=_;rw[wB,h.cn]
 have ff1:∀ {a b:Lc} {c:List T},aV (.tp [.str a,.str b,aV (ol c)])=.tp [.str a,.str b,aV (ol c)]:=λ{a b c}=>by show T.tp [.str a,.str b,aV (aV (ol c))]=_;rw[Jq]
 have ff3:∀ {a b:Lc} {c d:T},aV (.tp [.str a,.str b,aV c,aV d])=.tp [.str a,.str b,aV c,aV d]:=λ{a b c d}=>by show T.tp [.str a,.str b,aV (aV c),aV (aV d)]=_;rw[Jq,Jq]
 refine zh (λhw=>?_) (λhw=>?_)
 ·have hw:¬ f.w=bE:=uN (by simpa using hw);have hf:f.ps=[]:=hf.resolve_right λz=>hw z.1;rw[hf] at h1;cases U0.mp h1;refine q _ _ ⟨ff1,?_⟩;unfold Fr.whole;rw[hf,ux λz=>hw z.1];show T.tp [.str f.w,.str f.n,dB (fl (aL c))]=_;rw[fc h3];rfl
 ·have hw:f.w=bE:=by simpa using hw
  rcases hf with hf | ⟨_,a,hf⟩
  ·rw[hf] at h1;cases U0.mp h1;refine Z9 (uK ⟨hw,rfl⟩) (q _ _ ⟨ff3 (d:=ol []),?_⟩);unfold Fr.whole;rw[hf,uC ⟨hw,rfl⟩,hw];show T.tp [.str bE,.str f.n,dB (fl (aL c)),fl []]=_;rw[fc h3];rfl
  ·rw[hf] at h1
   match bs,h1 with
   | [b],h1=>
    have hb:eL b a:=⟨h2 b ug,by simpa using h1⟩
    refine Z9 (uv λz=>by cases z.2) (q _ _ ⟨ff3,?_⟩);unfold Fr.whole;rw[hf,ux (λz=>by cases z.2),hw];show T.tp [.str bE,.str f.n,dB (fl (aL b)),dB (fl (aL c))]=_;rw[fc h3,fc hb];rfl
def sG (R:Fr->T->Prop):List Fr->List T->Prop
 | [],fs=>fs=[]
 | f::st,fs=>∃ t r,fs=r++[t]/\R f t/\sG R st r
theorem sG.len:∀ {st:List Fr} {fs:List T},sG R st fs->fs.length=st.length
 | [],_,h=>by rw[show _=[] from h];rfl
 | _::st,_,⟨t,r,e,_,h⟩=>by rw[e,ub,sG.len h];rfl
abbrev dF:Lh:=["over","opened","named"]
def fq (nm:List Lc):T:=.nd true (.dc (nm.map λn=>.inr (S n))) (nm.map λ_=>.bl true)
abbrev di (ov:T)(fs:List T)(d:T):T:=.nd true (.ob 2 dF) [ov,ol fs,d]
def iU (ov:T)(s:Sx)(d:T):Prop:=∃ fs,d=di ov fs (fq s.2)/\sG t8 s.1 fs
def d_init (q:Q .non [di .non [.nd true (.ob 1 oF) [.str [],.str [],ol [ol []]]] (fq [])]):qB [.nd true (.ob 2 []) []] Q X:=by unfold qB;refine⟨rfl,?_⟩;exact AR q
def kq {fs:List T}(hb:decide (fs.length=1)=b)(q:Q (.bl b) [di ov fs d]):zK [di ov fs d] Q X:=by unfold zK;refine⟨rfl,?_⟩;rw[show decide (fs.length=1)=decide ((fs.length:Int)=1) by simp;lia] at hb;rw[<-hb] at q;exact q
def getD {gs:List T}:dQ (1::gs.length::p) (di ov (gs++[x]) d)=dQ p x:=vS
def eQ {gs:List T}(h:dD p x u=some t):dD (1::gs.length::p) (di ov (gs++[x]) d) u=some (di ov (gs++[t]) d):=by show(dD (gs.length::p) (ol (gs++[x])) u).bind _=_;rw[kN h];rfl
def Dw {fs:List T}(hv:ov=.non\/∃ n,ov=.str n)(hs:shr tok=true)(e0:∀ {s Z:Sl},cV s (.own (.int 0)::.own tok::Z)=some (.own (.str w)::Z))(h0:w≠zS)(h1:ov≠.non->fs.length=1->w=ze)(h2:w=zX->∃ gs u n bl,fs=gs++[.nd true (.ob 1 oF) [.str u,.str n,ol bl]]/\u=bE/\bl.length=1)(h3:w=bC->fs.length≠1)(h4:w=ji->ov≠.non)(q:Q (.bl true) [di ov fs d,.non,.non]):zo [di ov fs d,tok,.int a] Q X:=by
 unfold zo;refine⟨rfl,za (qq rfl hs) (za e0 ?_)⟩;refine qE (uv h0) ?_
 have rest:∀ {P:Prop},P=bN (qm.drop 3) [.own (di ov fs d),.own tok,.own (.int a),.own (.str w)] [.al 0 []] (λs Z=>bG (cY [.mu,.mv,.mv] 0 s Z) λr=>Q .non r) (fj [.mu,.mv,.mv] Q X)->P:=λ{P} e=>by
  rw[e];refine zh (λe1=>?_) (λe1=>?_)
  ·let⟨gs,u,n,bl,rfl,hu,hb⟩:=h2 (uq e1);refine za (vT aC vm aC vn aC) ?_;refine qc (Vt (qU aC getD) aC aC aC) ?_;refine za (take1 (qU aC getD) (xQ aC aC (eQ aC) aC aC) aC aC) ?_;refine Z9 (uK ⟨hu,hb⟩) ?_;refine za (sT aC (qU aC getD) (xQ aC aC (eQ aC) aC aC)) ?_;exact q
  ·refine zh (λe2=>?_) (λe2=>?_)
   ·exact kq (uv (h3 (uq e2))) q
   ·refine zh (λe3=>?_) (λe3=>q);rcases hv with rfl | ⟨n,rfl⟩
    ·exact absurd rfl (h4 (uq e3))
    ·exact q
 rcases hv with rfl | ⟨n,rfl⟩
 ·exact rest rfl
 ·by_cases hl:fs.length=1
  ·refine kq (uK hl) ?_;refine qE ?_ (rest rfl);rw[h1 nofun hl];rfl
  ·exact kq (uv hl) (rest rfl)
def tj {nm:List Lc}:((nm.map λn=>(.inr (S n):Key)).any λk'=>decide (k' = .inr (S n)))=decide (n∈nm):=by
 induction nm with
 | nil=>rfl
 | cons m nm ih=>
  rw[uA,UX,ih];by_cases h:n=m
  ·subst h;simp
  ·have:¬ ((.inr (S m):Key)=.inr (S n)):=λz=>h (QS.mp (Sum.inr.inj z)).symm;simp[this,h]
theorem EU:∀ nm:List Lc,aI (nm.map λ_=>T.bl true)=true
 | []=>rfl
 | _::nm=>EU nm
def Lq {nm:List Lc}(h:n∉nm)(hl:nm.length<=1000000):fm (fq nm) (.str n) (.bl true)=some (fq (nm++[n])):=by show(if (nm.map λn=>(.inr (S n):Key)).length<16777216/\(aI (nm.map λ_=>T.bl true)&&shr (.bl true))=true then some (T.nd true (.dc (dput _ _ _ _).1) (dput _ _ _ _).2) else none)=_;rw[uC ⟨by rw[ud];lia,by rw[EU];rfl⟩];unfold dput;rw[ux (by rw[tj,uv h];decide)];unfold fq;simp
def TB {st:List Fr}{nm:List Lc}(h:iU ov (st,nm) d)(h12:st.length<=12)(hb:w=ze->n∉nm)(hl:nm.length<=1000000)(q:∀ d',iU ov (⟨w,n,[],[]⟩::st,if w=ze then nm++[n] else nm) d'->Q .non [d',.non,.non]):zu [d,.str w,.str n] Q X:=by
 let⟨fs,rfl,h1⟩:=h;have hlen:fs.length=st.length:=h1.len;unfold zu;refine⟨rfl,?_⟩;have fin:∀ nm',nm' = (if w=ze then nm++[n] else nm)->Q .non [di ov (fs++[.nd true (.ob 1 oF) [.str w,.str n,ol [ol []]]]) (fq nm'),.non,.non]:=λnm' e=>by subst e;exact q _ ⟨_,rfl,_,_,rfl,⟨[],[],rfl,rfl,nofun,rfl,rfl⟩,h1⟩
 have l12:decide ((12:Int)<fs.length)=false:=uv aB;have l16:fs.length<16777216:=aB
 by_cases hw:w=ze
 ·subst hw;refine qE (tj.trans (uv (hb rfl))) ?_;refine qE l12 ?_;refine za (Vs aC (Lq (hb rfl) hl) aC) ?_;refine AR ?_;refine za (qW aC (jn l16) aC) ?_;exact fin _ rfl
 ·refine qE (uv hw) ?_;refine qE l12 ?_;refine qE (uv hw) ?_;refine AR ?_;refine za (qW aC (jn l16) aC) ?_;exact fin _ (ux hw).symm
def Tz (k:Tok):∀ x∈k.xs,∃ s,x=.str s:=by cases k<;>simp[Tok.xs]
def Tw (h:∀ x∈xs,∃ s,x=.str s):dt xs=xs/\aL xs=xs:=by
 induction xs with
 | nil=>exact⟨rfl,rfl⟩
 | cons x xs ih=>let⟨s,rfl⟩:=h x ug;let⟨h1,h2⟩:=ih λy hy=>h y (uk _ hy);exact⟨congrArg (T.str s::·) h1,congrArg (T.str s::·) h2⟩
def VR {k:Tok}(ht:lC k.xs tok):PF tok (.tp k.xs):=by
 let⟨h1,h2⟩:=Tw (Tz k);rcases ht with rfl | rfl
 ·exact⟨congrArg T.tp h2,congrArg T.tp h1⟩
 ·exact⟨congrArg (T.ks false) h2,congrArg T.tp h1⟩
def dC {k:Tok}{t:Lc}(h:iU ov s d)(hs:fF o s k s')(hx:Tx k t)(hv:(o=false/\ov=.non)\/(o=true/\∃ n,ov=.str n))(ht:lC k.xs tok)(hk:e9 B s.1)(h8:8<=B)(hB:B+t.length<=1000000)(hn:s.2.length<=1000000)(q:∀ d',iU ov s' d'->Q .non [d',.non,.non]):zy [d,tok,.int a] Q X:=by
 have t1:=(sS hx).1;have pf:=VR ht;have hv':ov=.non\/∃ n,ov=.str n:=hv.imp And.right And.right;have ho:ov≠.non->o=true:=λz=>by rcases hv with⟨_,rfl⟩ | ⟨e,_⟩<;>first | exact absurd rfl z | exact e
 let⟨fs,rfl,h1⟩:=h;have hlen:fs.length=s.1.length:=h1.len;have rt:∀ {x0 x2 x3 x4:Slot},iG [x0,.own tok,x2,x3,x4] 1=some (.own tok):=qq rfl pf.sh;have nn:bZ .is [tok,.non]=some (.bl false):=by rcases ht with rfl | rfl<;>rfl
 have dB:∀ {w:Lc} {r:List T},k.xs=.str w::r->w≠zS->(ov≠.non->fs.length=1->w=ze)->(w=zX->∃ gs u n bl,fs=gs++[.nd true (.ob 1 oF) [.str u,.str n,ol bl]]/\u=bE/\bl.length=1)->(w=bC->fs.length≠1)->(w=ji->ov≠.non) ->
   ∀ {Q:T->List T->Prop} {X:d5->List T->Prop},Q (.bl true) [di ov fs (fq s.2),.non,.non]->zo [di ov fs (fq s.2),tok,.int a] Q X:=λ{w r} e g0 g1 g2 g3 g4 {Q X} q=>
  Dw hv' pf.sh (pf.ix (k:=0) (by rw[e];rfl)) g0 g1 g2 g3 g4 q
 unfold zy;refine⟨rfl,za rt (za nn (za rt ?_))⟩;cases hs with
 | put hp hno=>
  rename_i f st nm
  have one:ov≠.non->fs.length=1->False:=λz1 z2=>by
   have:=hno (ho z1);cases st with
   | nil=>exact this rfl
   | cons _ _=>simp only[uc] at hlen;omega
  have hc:∃ w r,k.xs=.str w::r/\w≠zS/\w≠zX/\w≠bC/\(w=ji->ov≠.non)/\iz (.str (S w)) [.str (S zO),.str (S bE),.str (S ze)]=false:=by
   cases k with
   | lit s=>exact⟨_,_,rfl,by decide,by decide,by decide,λz=>absurd z (by decide),rfl⟩
   | hole s=>exact⟨_,_,rfl,by decide,by decide,by decide,λz=>absurd z (by decide),rfl⟩
   | draw s=>exact⟨_,_,rfl,by decide,by decide,by decide,λz=>absurd z (by decide),rfl⟩
   | elder=>
    refine⟨_,_,rfl,aA,aA,aA,λ_ z=>?_,rfl⟩;have hp:o=true:=hp;rcases hv with⟨e,_⟩ | ⟨_,n,e⟩
    ·rw[hp] at e;cases e
    ·rw[e] at z;cases z
   | op _ _=>cases hp
   | els=>cases hp
   | fin=>cases hp
  let⟨w,r,e,w1,w2,w3,w4,w5⟩:=hc;refine dB e w1 (λz1 z2=>(one z1 z2).elim) (λz=>absurd z w2) (λz=>absurd z w3) w4 ?_;let⟨tf,gs,rfl,k1,k3⟩:=h1;let⟨p1,p2⟩:=Dz (n:=12 - st.length) hp hx h8;refine za rt (za (pf.ix (k:=0) (by rw[e];rfl)) ?_);refine qE (uv w1) (qE w5 (qE (uv w2) (qE (uv w3) ?_)));let⟨bs,c,rfl,k1'⟩:=id k1;refine za (vT aC vm aC vn aC) ?_;refine qc (Vt (qU aC getD) aC aC aC) ?_;refine za rt ?_;refine za (take1 (qU aC getD) (xQ aC aC (eQ aC) aC aC) aC aC) ?_;refine Dx k1 ?_ pf (hk.2.1.1.mono (Us B t.length)) p1 hB λt' ht'=>?_
  ·rcases hk.2.1.2.2.1 with z | ⟨_,z⟩
   ·exact .inl z
   ·exact .inr z
  refine za (sT aC (qU aC getD) (xQ aC aC (eQ aC) aC aC)) ?_;exact q _ ⟨_,rfl,_,_,rfl,ht',k3⟩
 | op g1 g2 g3 g4 g5=>
  rename_i st nm w n;refine dB rfl ?_ (λz1 z2=>g4 (ho z1) (by rw[<-hlen];exact z2)) (λz=>?_) (λz=>?_) (λz=>?_) ?_
  ·rcases g3 with rfl | rfl | rfl<;>decide
  ·rcases g3 with rfl | rfl | rfl<;>cases z
  ·rcases g3 with rfl | rfl | rfl<;>cases z
  ·rcases g3 with rfl | rfl | rfl<;>cases z
  refine za rt (za (pf.ix (k:=0) rfl) ?_);refine qE (uv (by rcases g3 with rfl | rfl | rfl<;>decide)) ?_;refine qc (show iz (.str (S w)) [.str (S zO),.str (S bE),.str (S ze)]=true by rcases g3 with rfl | rfl | rfl<;>rfl) ?_;refine za rt (za (pf.ix (k:=1) rfl) ?_);exact TB ⟨fs,rfl,h1⟩ g1 g5 hn λd' hd'=>q _ hd'
 | els g1 g2 g3=>
  rename_i f st nm;let⟨tf,gs,rfl,⟨bs,c,rfl,k1,k2,k4⟩,k3⟩:=h1;rw[g2] at k1;cases U0.mp k1;refine dB rfl aA (λz1 z2=>?_) (λ_=>⟨gs,f.w,f.n,[ol c],rfl,g1,rfl⟩) (λz=>absurd z aA) (λz=>absurd z aA) ?_
  ·cases st with
   | nil=>exact absurd rfl (g3 (ho z1))
   | cons _ _=>simp only[uc] at hlen;omega
  refine za rt (za (pf.ix (k:=0) rfl) ?_);refine za (vT aC vm aC vn aC) ?_;refine za (Iz (qU aC getD) aC aC aC aC) ?_;refine qc (Zm (qU aC (by exact getD))) ?_;refine za (qW (qU aC (by exact getD)) aC (xQ aC aC (eQ aC) aC aC)) ?_;exact q _ ⟨_,rfl,_,_,rfl,⟨[c],[],rfl,by rw[<-k4.cn];rfl,λb hb=>by rw[uy.mp hb];exact k4.fz,rfl,rfl⟩,k3⟩
 | fin=>
  rename_i f g st nm;have l2:fs.length≠1:=by simp only[uc] at hlen;lia
  refine dB rfl aA (λz1 z2=>absurd z2 l2) (λz=>absurd z aA) (λ_=>l2) (λz=>absurd z aA) ?_;let⟨tf,r,rfl,k1,tg,gs,rfl,k2,k3⟩:=h1;refine za rt (za (pf.ix (k:=0) rfl) ?_);refine za (qW aC J2 aC) ?_;let⟨bs,c,rfl,k1'⟩:=id k1;let⟨bs',c',rfl,k2'⟩:=id k2;refine za (vT aC vm aC vn aC) ?_;refine qc (Vt (qU aC getD) aC aC aC) ?_;refine Rb k1 hk.2.1.2.2.1 λr t' hr=>?_;refine za (take1 (qU aC getD) (xQ aC aC (eQ aC) aC aC) aC aC) ?_;let⟨kk1,kk2,kk3,kk4,kk5⟩:=hk;have e:12 - st.length=12 - (st.length+1)+1:=by simp only[uc] at kk1;lia
  have w1:Pc (B+t.length) (12 - st.length) f.whole:=by rw[e];exact(Wi kk2 h8).mono (Us _ _)
  refine Dx k2 ?_ hr (kk4.1.mono (Us B t.length)) w1 hB λt2 ht2=>?_
  ·rcases kk4.2.2.1 with z | ⟨_,z⟩
   ·exact .inl z
   ·exact .inr z
  refine za (sT aC (qU aC getD) (xQ aC aC (eQ aC) aC aC)) ?_;exact q _ ⟨_,rfl,_,_,rfl,ht2,k3⟩
mutual
def nQ:T->T
 | .tp xs=>.tp (dX xs)
 | .nd _ k xs=>.nd true k (dX xs)
 | t=>t
def dX:List T->List T
 | []=>[]
 | x::xs=>nQ x::dX xs
end
theorem ku:∀ xs:List T,dX xs=xs.map nQ
 | []=>rfl
 | x::xs=>congrArg (nQ x::·) (ku xs)
def Lp (h:dB t=fl us)(hs:aV t=t):∃ qs,t=fl qs/\eL qs us:=by
 cases t with
 | nd o k xs=>cases h;let⟨rfl,_,h2⟩:=T.nd.inj hs;exact⟨xs,rfl,h2,rfl⟩
 | ks l xs=>cases l<;>cases h
 | _=>cases h
def eL.mem (h:eL c cur)(hx:x∈c):aV x=x:=by
 have e:∀ {c:List T},aL c=c->x∈c->aV x=x:=λ{c}=>by
  induction c with
  | nil=>exact λ_ z=>by cases z
  | cons y c ih=>
   intro e z;let⟨e1,e2⟩:=gw e;rcases uw.mp z with z | z
   ·rw[z];exact e1
   ·exact ih e2 z
 exact e h.fz hx
theorem XM:∀ (m n:Nat) {Q:T->List T->Prop} {X:d5->List T->Prop} {ps us:List T} {B:Nat},(us=[]/\0<m)\/n+1<m->eL ps us->(∀ u∈us,Pc B n u)->B<=1000000->us.length<=B->Q (ol (dX us)) [.non]->jg m [fl ps] Q X
 | 0,_,_,_,_,_,_,h,_,_,_,_,_=>by rcases h with⟨_,h⟩ | h<;>omega
 | m+1,n,Q,X,ps,us,B,hn,hf,hp,hB,hl,q=>by
  refine⟨rfl,?_⟩;refine za (kL hf.sh) ?_;refine xy (λk s Z=>Z=[]/\∃ x,s=[.own (fl ps),.own (ol (dX (us.take k))),x]/\(x=.no\/∃ t,x=.own t)) ⟨rfl,_,rfl,.inl rfl⟩ ?_ ?_
  ·rintro k p _ _ K hd ⟨rfl,x,rfl,hx⟩ hK;have hu:us[k]? = some (dB p):=by rw[<-hf.cn,jx,uE,hd];rfl
   have pc:=hp _ (uR hu);have pf:PF p (dB p):=⟨hf.mem (uR hd),rfl⟩
   let⟨w,ys,ec,b1,b2,b3,b4⟩:=pc.body;rw[ec] at pf;let⟨xs,e1,e2,e3⟩:=pf.xs
   have hm:n<m:=by
    rcases hn with⟨h,_⟩ | h
    ·rw[h] at hu;cases hu
    ·lia
   have hxs:eL xs (.str w::ys):=⟨e1,e2⟩
   refine za (qq rfl pf.sh) ?_
   have its:∀ {s Z:Sl},iy .seq 1 s (.own p::Z)=some ((xs,none),(s,Z)):=λ{s Z}=>by
    rcases e3 with rfl | rfl
    ·exact Lv hxs.sh
    ·exact Lu hxs.sh
   have l16:(dX (us.take k)).length<16777216:=by rw[ku,ud,Uk];lia
   have lx:xs.length<=16777216:=by rw[hxs.len,uc];lia
   have ek:dX (us.take (k+1))=dX (us.take k)++[.tp (xs.map λx=>nQ (dB x))]:=by rw[List.take_succ,hu,ec,ku,ku,uF];show _++[T.tp (dX (.str w::ys))]=_;rw[<-e2,ku,jx,Uw];rfl
   refine za its ?_;refine YX (g:=λx=>nQ (dB x)) rfl rfl rfl rfl (λa _ K h=>h) (λx hx K' hK'=>?_) lx ?_
   ·have hy:dB x∈T.str w::ys:=by rw[<-e2,jx];exact u9.mpr ⟨x,hx,rfl⟩
    have hP:(∃ s,dB x=.str s)\/∃ qs,dB x=fl qs/\qs.length<=B/\∀ p∈qs,∃ m,m<n/\Pc B m p:=by
     rcases uw.mp hy with e | hy
     ·exact .inl ⟨_,e⟩
     ·exact(b4 _ hy).imp (λ⟨s,e,_⟩=>⟨s,e⟩) id
    rcases hP with⟨s,e⟩ | ⟨us',e,l1,l2⟩
    ·cases Ep e;exact hK'
    ·let⟨qs,rfl,h5⟩:=Lp e (hxs.mem hx);refine XM m (n - 1) (B:=B) ?_ h5 (λu hu=>?_) hB l1 ?_
     ·by_cases h0:n=0
      ·left;refine⟨?_,aB⟩;cases us' with
       | nil=>rfl
       | cons u _=>let⟨m',h1,_⟩:=l2 u ug;omega
      ·right;lia
     ·let⟨m',h1,h2⟩:=l2 u hu;exact h2.to aB
     ·rw[show ol (dX us')=nQ (dB (fl qs)) by rw[e];rfl];exact hK'
   ·refine za (qW aC (jn l16) aC) ?_;exact hK _ _ ⟨rfl,.own p,by rw[ek];rfl,.inr ⟨p,rfl⟩⟩
  ·rintro _ _ ⟨rfl,x,rfl,hx⟩;rw[show us.take ps.length=us by rw[hf.len,Hg]];exact q
abbrev sF:Lh:=["over","pieces"]
abbrev A7 (ov:T)(us:List T):T:=.nd true (.ob 0 sF) [ov,ol (dX us)]
def Wk {c us:List T}(hv:ov=.non\/∃ n,ov=.str n)(hf:eL c us)(hp:∀ u∈us,Pc B n u)(hn:n<=30)(hB:B<=1000000)(hl:us.length<=B)(q:Q .non [A7 ov us,.non,.non]):qC [.nd true (.ob 0 []) [],ov,fl c] Q X:=by unfold qC;refine⟨rfl,?_⟩;rcases hv with rfl | ⟨_,rfl⟩;all_goals exact XM 40 n (B:=B) (.inr aB) hf hp hB hl q
def Tv {nm:List Lc}(hv:ov=.non\/∃ n,ov=.str n)(h:iU ov ([⟨[],[],[],us⟩],nm) d)(hp:fB B 12 us)(hB:B<=1000000)(q:∀ d',Q (A7 ov us) [d',.non]):qr [d,.int a] Q X:=by
 let⟨fs,rfl,t,r,rfl,⟨bs,c,rfl,h1,h2,h3⟩,h4⟩:=h;have h4:r=[]:=h4;subst h4;cases U0.mp h1;unfold qr;refine⟨rfl,?_⟩;refine kq (uK rfl) ?_;have h5:eL (aL c) us:=by rw[h3.fz];exact h3
 rcases hv with rfl | ⟨_,rfl⟩
 ·exact Wk (.inl rfl) h5 hp.2 aB hB hp.1 (q _)
 ·exact Wk (.inr ⟨_,rfl⟩) h5 hp.2 aB hB hp.1 (q _)
def RR (h:∀ c∈l,c∈SG)(q:Q (.str l) [.non]):ql [.str l] Q X:=by
 unfold ql;refine⟨rfl,?_⟩
 have en:∀ (l:Lc) (n:Nat),∀ d∈yF n (signs l),∃ (j:Nat) (c:Nat),d=.tp [.int j,.str [c]]/\c∈l:=λl=>by
  induction l with
  | nil=>intro n d hd;cases hd
  | cons c l ih=>
   intro n d hd;rcases uw.mp hd with rfl | hd
   ·exact⟨n,c,rfl,ug⟩
   ·let⟨j,c',e,hc⟩:=ih (n+1) d hd;exact⟨j,c',e,uk _ hc⟩
 refine xy (λk s Z=>Z=[]/\∃ x y,s=[.own (.str l),x,y]/\((x=.no/\y=.no)\/∃ a b,x=.own a/\y=.own b)) ⟨rfl,_,_,rfl,.inl ⟨rfl,rfl⟩⟩ ?_ ?_
 ·rintro k d _ _ K hd ⟨rfl,x,y,rfl,hxy⟩ hK;let⟨j,c,rfl,hc⟩:=en l 0 d (uR hd);refine qE (show(!decide (c∈SG))=false by rw[uK (h c hc)];rfl) ?_;exact hK _ _ ⟨rfl,_,_,rfl,.inr ⟨_,_,rfl,rfl⟩⟩
 ·rintro _ _ ⟨rfl,x,y,rfl,hxy⟩;exact q
def Lo (h:fF o s k s'):s'.2.length<=s.2.length+1:=by
 cases h with
 | put _ _=>exact UM _
 | op _ _ _ _ _=>
  show(if _ then _ else _:List Lc).length<=_;split
  ·rw[ub];exact uj _
  ·exact UM _
 | els _ _ _=>exact UM _
 | fin=>exact UM _
def root:Fr:=⟨[],[],[],[]⟩
def xt (n:Lc):Lc:=123::((zS++32::n)++[125])
def Reads (ov:T)(l:Lc)(us:List T):Prop:= (ov=.non/\∃ nm,Rd false ([root],[]) l ([⟨[],[],[],us⟩],nm))\/∃ n r nm,ov=.str n/\zx n/\l=xt n++r/\Rd true ([root],[]) r ([⟨[],[],[],us⟩],nm)
def zcY (h:iU .non s d)(q:∀ d',iU (.str n) s d'->Q .non [d',.non,.non]):zy [d,.tp [.str zS,.str n],.int 0] Q X:=by
 let⟨fs,rfl,h1⟩:=h;unfold zy;refine⟨rfl,?_⟩;have dB:∀ {Q:T->List T->Prop} {X:d5->List T->Prop},Q (.bl true) [di .non fs (fq s.2),.non,.non]->zo [di .non fs (fq s.2),.tp [.str zS,.str n],.int 0] Q X:=λq=>by unfold zo;exact⟨rfl,q⟩
 exact dB (q _ ⟨fs,rfl,h1⟩)
theorem Reads.sg (h:Reads ov l us):∀ c∈l,c∈SG:=by
 rcases h with⟨_,nm,h⟩ | ⟨n,r,nm,_,hn,rfl,h⟩
 ·exact h.sg
 ·intro c hc;rcases uo.mp hc with z | z
  ·unfold xt at z;rcases uw.mp z with rfl | z
   ·decide
   ·rcases uo.mp z with z | z
    ·rcases uo.mp z with z | z
     ·exact(by decide:∀ c∈zS,c∈SG) c z
     ·rcases uw.mp z with rfl | z
      ·decide
      ·exact(jD hn c z).1
    ·rw[uy.mp z];decide
  ·exact h.sg c z
def Ki (B:Nat):e9 B [root]:=⟨u4 _,⟨⟨u4 _,nofun⟩,nofun,.inl rfl,u4 _,u4 _,aA⟩,trivial⟩
end
section
def br (w:Lc):Lc:=123::(w++[125])
end
section
variable {Q:T->List T->Prop} {X:d5->List T->Prop}
def Wl {i:Int}(h0:0<=i)(h:xs[i.toNat]? = some u):cV s (.own (.int i)::.own (.nd o .ls xs)::Z)=some (.own u::Z):=by let⟨j,rfl⟩:=gC h0;rw[Uy] at h;exact QA (vk (uY.mp h).1) rfl h
def sZ {t:Lc}{i:Int}(h0:0<=i)(h1:i<t.length):cV s (.own (.int i)::.own (.str t)::Z)=some (.own (.str [t.getD i.toNat 0])::Z):=by
 let⟨j,rfl⟩:=gC h0;have l:j<t.length:=aB
 rw[Uy,u5,uz l];exact(VP (r:=t.drop (j+1)) (a:=j) (UR l)).2
def getD_mem {t:Lc}{i:Int}(h0:0<=i)(h1:i<t.length):t.getD i.toNat 0∈t:=by
 have l:i.toNat<t.length:=aB
 rw[u5,uz l];exact U2 _
def VS (h:IntMulOk x y):bZ .mul [.int x,.int y]=some (.int (x * y)):=by show(if IntMulOk x y then some (T.int (x * y)) else none)=_;rw[uC h]
def vg (h:0<y):bZ .mod [.int x,.int y]=some (.int (x % y)):=by show(if 0<y then some (T.int (x % y)) else none)=_;rw[uC h]
noncomputable def m1:List Int:=[1000000007,1181783503,1372345291,1518500279,1636201513,1734723539,1871234567,2012345681]
noncomputable def m2:List Int:=[100000000003,223606797763,314159265359,414213562379,577215664943,693147180563,732050807573]
def bI (c k:Int):Int:=((c % 1000000000039+1) * m1.getD (k % 8).toNat 0 % 2147483629+1) * m2.getD (k % 7).toNat 0 % 999999999989
def QI (c k:Int):0<=bI c k/\bI c k<999999999989:=⟨uV _ aA,uO _ aA⟩
def jj (q:Q (.int (bI c k)) [.non,.non]):zB [.int c,.int k] Q X:=by
 unfold zB;refine⟨rfl,?_⟩;have at_:∀ {ms:List Int} {n:Nat} {s Z:Sl},ms.length=n->0<n->cV s (.own (.int (k % (n:Int)))::.own (.nd true .ls (ms.map .int))::Z)=some (.own (.int (ms.getD (k % (n:Int)).toNat 0))::Z):=λ{ms n s Z} hn h0=>by have h1:=uV k (b:=(n:Int)) aB;have h2:=uO k (b:=(n:Int)) aB;refine Wl h1 ?_;rw[uE,u5,uz aB];rfl
 have b1:∀ j:Nat,j<8->-(2 ^ 64)<m1.getD j 0/\m1.getD j 0<2 ^ 64:=aA
 have b2:∀ j:Nat,j<7->-(2 ^ 64)<m2.getD j 0/\m2.getD j 0<2 ^ 64:=aA
 refine za (at_ (ms:=m1) (n:=8) rfl aA) ?_;refine za (at_ (ms:=m2) (n:=7) rfl aA) ?_;have k8:=uV k (b:=8) aA;have k8':=uO k (b:=8) aA;have k7:=uV k (b:=7) aA;have k7':=uO k (b:=7) aA;refine za (VS (Jd (b1 _ aB))) ?_;refine za (VS (Jd (b2 _ aB))) ?_;exact q
def xH {ns:List Int}{k:Nat}(q:∀ c,Q (.int c) [.non,.non]):zz [.ks true (ns.map .int),.int k] Q X:=by
 unfold zz;refine⟨rfl,?_⟩;refine zh (λh=>?_) λh=>?_
 ·have h:(k:Int)<((ns.map T.int).length:Nat):=uq h;have l:k<(ns.map T.int).length:=aB
  have l':k<ns.length:=by rw[ud] at l;exact l
  refine za (QA (t:=.ks true (ns.map .int)) (vk l) rfl (uz l)) ?_;rw[List.getElem_map];exact q _
 ·exact q _
def RQ (q:∀ n,0<=n->Q (.int n) [.non]):xb [.int c] Q X:=by
 unfold xb;refine⟨rfl,?_⟩;refine zh (λh=>?_) λh=>?_
 ·have h:(10:Int) ^ 18<=c:=uq h;exact q _ aB
 ·exact jj (q _ (QI _ _).1)
def AH:Lc:=oB
def Gd (n:Lc):Prop:=(∀ c∈n,c∈LT)/\∃ c r,n=c::r/\c∈AH
def Dv (h:c∈LT):97<=c/\c<=122:=(by decide:∀ c∈LT,97<=c/\c<=122) c h
def Cf (h:c∈AH):c∈LT:=(by decide:∀ c∈AH,c∈LT) c h
def Gd.own {n:Lc}(h:Gd n)(hl:n.length<=8):jw n:=by
 let⟨h1,c,r,rfl,hc⟩:=h;refine⟨⟨aD,hl,λc hc=>Dv (h1 c hc)⟩,λz=>?_⟩;have:∀ w∈qV,w.head?≠none/\∀ c,w.head? = some c->c∉AH:=aA
 exact(this _ z).2 c rfl hc
def qu (j:Nat):Lc:=if j=0 then AH else LT
def mM (c:Int)(a k j:Nat):Nat:=(qu j).getD ((bI c (2+(j:Int))+(if j=a then(k:Int) else 0)) % ((qu j).length:Int)).toNat 0
def Wm (j:Nat):21<=(qu j).length/\(qu j).length<=26:=by unfold qu;split<;>decide
def Tu {j a b:Nat}(ha:a<(qu j).length)(hb:b<(qu j).length)(h:(qu j).getD a 0=(qu j).getD b 0):a=b:=by
 unfold qu at *;split at ha
 ·rename_i e;rw[uC e] at hb h;exact(by decide:∀ a,a<21->∀ b,b<21->AH.getD a 0=AH.getD b 0->a=b) a ha b hb h
 ·rename_i e;rw[ux e] at hb h;exact(by decide:∀ a,a<26->∀ b,b<26->LT.getD a 0=LT.getD b 0->a=b) a ha b hb h
def Ce (c:Int)(a k j:Nat):mM c a k j∈qu j:=by have:=Wm j;unfold mM;exact getD_mem (uV _ aB) (uO _ aB)
def Ln {c:Int}{a k k':Nat}(hk:k<21)(hk':k' < 21)(h:mM c a k a=mM c a k' a):k=k':=by
 have pl:=Wm a;unfold mM at h;rw[uC rfl,uC rfl] at h;generalize bI c (2+(a:Int))=x at h;have h1:=uV (x+(k:Int)) (b:=((qu a).length:Int)) aB;have h2:=uO (x+(k:Int)) (b:=((qu a).length:Int)) aB;have h3:=uV (x+(k':Int)) (b:=((qu a).length:Int)) aB;have h4:=uO (x+(k':Int)) (b:=((qu a).length:Int)) aB;have e:=Tu aB aB h;have e:(x+(k:Int)) % ((qu a).length:Int)=(x+(k':Int)) % ((qu a).length:Int):=aB
 have e3:((x+(k:Int)) - (x+(k':Int))) % ((qu a).length:Int)=0:=Int.emod_eq_emod_iff_emod_sub_eq_zero.mp e;have e4:((k:Int) - k') % ((qu a).length:Int)=0:=by rw[<-e3];congr 1;lia
 let⟨z,hz⟩:=Int.dvd_of_emod_eq_zero e4;have pl':(21:Int)<=((qu a).length:Int):=aB
 clear h1 h2 h3 h4 e e3 e4 h;generalize ((qu a).length:Int)=L at *
 have:z=0:=by
  rcases Int.lt_trichotomy z 0 with y | y | y
  ·have:L * z<=L * (-1):=Hm aB aB;lia
  ·exact y
  ·have:L * 1<=L * z:=Hm aB aB;lia
 rw[this] at hz;lia
def lI (c:Int)(a s k:Nat):Lc:=(List.range s).map (mM c a k)
def Iv {c:Int}{a s k:Nat}(hs:0<s):Gd (lI c a s k):=by
 refine⟨λx hx=>?_,?_⟩
 ·let⟨j,_,rfl⟩:=u9.mp hx;have:=Ce c a k j;unfold qu at this;split at this
  ·exact Cf this
  ·exact this
 ·cases s with
  | zero=>omega
  | succ s=>unfold lI;rw[List.range_succ_eq_map,uA];exact⟨_,_,rfl,Ce c a k 0⟩
def Kj {ns:List Lc}(h:∀ (i j:Nat) (a b:Lc),i<j->ns[i]? = some a->ns[j]? = some b->a≠b):ns.Nodup:=by rw[List.nodup_iff_pairwise_ne,List.pairwise_iff_getElem];intro i j hi hj hij;exact h i j _ _ hij (uz hi) (uz hj)
def Nms (n:Nat)(ns:List Lc):Prop:=ns.length=n/\ns.Nodup/\∀ x∈ns,jw x
def Wn {n:Nat}{s Z:Sl}(h:n<1000000):iy .rng 1 s (.own (.int (n:Int))::Z)=some (((List.range n).map λ(k:Nat)=>.int (k:Int),none),(s,Z)):=by show(cond (lH (n:Int)) (some ((List.range (n:Int).toNat).map λ(k:Nat)=>T.int (k:Int))) none).bind _=_;rw[Az ⟨aB,aB⟩,Uy];rfl
def VT {n k:Nat}{d:T}(h:((List.range n).map λ(k:Nat)=>T.int (k:Int))[k]? = some d):d=.int (k:Int)/\k<n:=by rw[uE] at h;let⟨j,h1,rfl⟩:=uM.mp h;let⟨h2,h3⟩:=uY.mp h1;rw[List.getElem_range] at h3;subst h3;exact⟨rfl,by simpa using h2⟩
def Jr {n:Nat}:((List.range n).map λ(k:Nat)=>T.int (k:Int)).length=n:=aD
def Kk {c:Int}{many:Nat}(hm:many<=6)(q:∀ ns,Nms many ns->Q (.nd true .ls (ns.map .str)) [.non,.non]):jk [.int c,.int many] Q X:=by
 unfold jk;refine⟨rfl,?_⟩;refine jj ?_;have x0:=QI c 1;generalize bI c 1=x at *;obtain⟨sz,hsz⟩:∃ sz:Nat,(1+x % 8:Int)=sz:=⟨(1+x % 8).toNat,aB⟩
 refine za (vg (x:=x / 8) (y:=1+x % 8) aB) ?_;rw[hsz];obtain⟨a,ha⟩:∃ a:Nat,(x / 8 % (sz:Int))=a:=⟨(x / 8 % (sz:Int)).toNat,by have:=uV (x / 8) (b:=(sz:Int)) aB;lia⟩
 have ha':a<sz:=by have:=uO (x / 8) (b:=(sz:Int)) aB;lia
 rw[ha];have own8:∀ n,Gd n->n.length<=8->jw n:=λn h1 h2=>h1.own h2;refine za (Wn aB) ?_;refine xy (λk s Z=>Z=[]/\∃ y8 y9 y10 y11 y12,s=[.own (.int c),.own (.int many),.own (.str LT),.own (.str AH),.own (.int x),.own (.int sz),.own (.int a),.own (.nd true .ls ((List.range k).map λi=>.str (lI c a sz i))),y8,y9,y10,y11,y12]) ⟨rfl,_,_,_,_,_,rfl⟩ ?_ ?_
 ·rintro k d _ _ K hd ⟨rfl,y8,y9,y10,y11,y12,rfl⟩ hK;let⟨rfl,hk⟩:=VT hd;refine za (Wn aB) ?_;refine xy (λj s Z=>Z=[]/\∃ y10 y11 y12,s=[.own (.int c),.own (.int many),.own (.str LT),.own (.str AH),.own (.int x),.own (.int sz),.own (.int a),.own (.nd true .ls ((List.range k).map λi=>.str (lI c a sz i))),.own (.int k),.own (.str ((List.range j).map (mM c a k))),y10,y11,y12]) ⟨rfl,_,_,_,rfl⟩ ?_ ?_
  ·rintro j d _ _ K hd ⟨rfl,y10,y11,y12,rfl⟩ hK;let⟨rfl,hj⟩:=VT hd
   have p0:∀ {s Z:Sl},cV s (.own (.int (cond (decide ((j:Int)=0)) 1 0))::.own (.nd true .ls [.str LT,.str AH])::Z)=some (.own (.str (qu j))::Z):=λ{s Z}=>by
    unfold qu;by_cases z:j=0
    ·rw[uK aB,uC z];rfl
    ·rw[uv aB,ux z];rfl
   have em:(bI c (2+(j:Int))+(k:Int) * (cond (decide ((j:Int)=a)) 1 0))=bI c (2+(j:Int))+(if j=a then(k:Int) else 0):=by
    by_cases z:j=a
    ·rw[uK aB,uC z];show _+(k:Int) * 1=_;lia
    ·rw[uv aB,ux z];show _+(k:Int) * 0=_;lia
   have pl:=Wm j;refine za p0 ?_;refine jj ?_;refine za (VS (Jd (by cases decide ((j:Int)=a)<;>decide))) ?_;refine za (vg (y:=((qu j).length:Int)) aB) ?_;have ix:∀ {s Z:Sl},cV s (.own (.int ((bI c (2+(j:Int))+(k:Int) * (cond (decide ((j:Int)=a)) 1 0)) % ((qu j).length:Int)))::.own (.str (qu j))::Z)=some (.own (.str [mM c a k j])::Z):=λ{s Z}=>by rw[em];exact sZ (uV _ aB) (uO _ aB)
   refine za ix ?_;refine za (zD (by simp only[ud,gI,uc,ur];lia)) ?_;refine hK _ _ ⟨rfl,.own (.int j),.own (.str (qu j)),qM 9 0 (qM 11 0 (qM 10 0 y12)),?_⟩;rw[List.range_succ,uF];rfl
  ·rintro _ _ ⟨rfl,y10,y11,y12,rfl⟩;rw[Jr];refine za (qW aC (jn (by rw[ud,gI];lia)) aC) ?_;refine hK _ _ ⟨rfl,.own (.int k),.own (.str (lI c a sz k)),qM 7 1 y10,qM 7 1 y11,qM 7 1 y12,?_⟩;rw[List.range_succ,uF];rfl
 ·rintro _ _ ⟨rfl,y8,y9,y10,y11,y12,rfl⟩;have e:(List.range many).map (λi=>T.str (lI c a sz i))=((List.range many).map (lI c a sz)).map .str:=by rw[Uw];rfl
  rw[Jr,e];refine zh (λh1=>?_) λh1=>?_
  ·refine jj ?_;have b21:=uV (bI c 2) (b:=21) aA;have b21':=uO (bI c 2) (b:=21) aA;have g0:AH.getD (bI c 2 % 21).toNat 0∈AH:=getD_mem b21 b21';refine za (sZ (t:=AH) b21 b21') ?_;refine za (Wn aB) ?_;refine xy (λk s Z=>Z=[]/\∃ y8 y9 y10 y11 ns w,s=[.own (.int c),.own (.int many),.own (.str LT),.own (.str AH),.own (.int x),.own (.int sz),.own (.int a),.own (.nd true .ls (ns.map .str)),y8,y9,y10,y11,.own (.str w)]/\ns.length=many/\w.length=k+1/\Gd w/\∀ i,i<k->∃ n,ns[i]? = some n/\n.length=i+1/\Gd n) ⟨rfl,_,_,_,_,(List.range many).map (lI c a sz),[AH.getD (bI c 2 % 21).toNat 0],rfl,aD,rfl,⟨λy hy=>by rw[uy.mp hy];exact Cf g0,_,_,rfl,g0⟩,λi hi=>by lia⟩ ?_ ?_
   ·rintro k d _ _ K hd ⟨rfl,y8,y9,y10,y11,ns,w,rfl,hn1,hw1,hw2,hn2⟩ hK;let⟨rfl,hk⟩:=VT hd;have sb:fm (.nd true .ls (ns.map .str)) (.int (k:Int)) (.str w)=some (.nd true .ls ((ns.set k w).map .str)):=by show(eI (ns.map T.str).length (k:Int)).bind _=_;rw[vk (by rw[ud];lia)];show(putN (ns.map T.str) k (.str w)).bind _=_;rw[kG (by rw[ud];lia),GC];rfl
    refine za (Vs aC sb aC) ?_;refine jj ?_;have b26:=uV (bI c (12+(k:Int))) (b:=26) aA;have b26':=uO (bI c (12+(k:Int))) (b:=26) aA;have g1:LT.getD (bI c (12+(k:Int)) % 26).toNat 0∈LT:=getD_mem b26 b26';refine za (sZ (t:=LT) b26 b26') ?_;refine za (zD (by simp only[uc,ur];lia)) ?_;refine hK _ _ ⟨rfl,_,_,_,_,ns.set k w,w++[LT.getD (bI c (12+(k:Int)) % 26).toNat 0],rfl,by rw[List.length_set];exact hn1,by rw[ub,hw1];rfl,⟨λy hy=>?_,?_⟩,λi hi=>?_⟩
    ·rcases uo.mp hy with z | z
     ·exact hw2.1 y z
     ·rw[uy.mp z];exact g1
    ·let⟨_,e,r,rfl,h⟩:=hw2;exact⟨e,r++_,rfl,h⟩
    ·by_cases z:i=k
     ·subst z;exact⟨w,by rw[Uh aB],hw1,hw2⟩
     ·let⟨n,e1,e2⟩:=hn2 i aB;exact⟨n,by rw[UE (λz'=>z z'.symm)];exact e1,e2⟩
   ·rintro _ _ ⟨rfl,y8,y9,y10,y11,ns,w,rfl,hn1,hw1,hw2,hn2⟩;rw[Jr] at hn2;refine q ns ⟨hn1,Kj λi j u v hij e1 e2 z=>?_,λn hn=>?_⟩
    ·have hj:=(uY.mp e2).1;let⟨n1,a1,a2,_⟩:=hn2 i aB;let⟨n2,a3,a4,_⟩:=hn2 j aB;rw[e1] at a1;rw[e2] at a3;cases a1;cases a3;rw[z] at a2;lia
    ·let⟨i,hi⟩:=List.getElem?_of_mem hn;have hi':=(uY.mp hi).1;let⟨n1,a1,a2,a3⟩:=hn2 i aB;rw[hi] at a1;cases a1;exact own8 _ a3 aB
  ·refine q _ ⟨aD,Kj λi j u v hij e1 e2 z=>?_,λn hn=>?_⟩
   ·have hj:=(uY.mp e2).1;simp only[ud,gI] at hj;rw[uE,List.getElem?_range aB] at e1 e2;cases e1;cases e2;have:=congrArg (λl=>l[a]?) z;simp only[lI,uE,List.getElem?_range ha',US,Gi] at this;have:=Ln aB aB this;lia
   ·let⟨i,_,rfl⟩:=u9.mp hn;refine own8 _ (Iv aB) ?_;unfold lI;simp only[ud,gI];lia
abbrev iJ (f:Fr)(bl:List T)(c:List T):T:=.tp [.str f.w,.str f.n,ol (bl++[ol c])]
abbrev bU (f:Fr):T:=iJ f (f.ps.map ol) f.cur
def ne_nil {c:List T}(hd:∃ ds,xn c=some ds/\wR ds<=45/\ds.length=c.length):bZ .ne [.nd o .ls c,.nd true .ls []]=some (.bl (!c.isEmpty)):=by
 let⟨ds,h1,h2,h3⟩:=hd;show((two (bX (.nd o .ls c)) (some (Dat.ls [])) _).bind _)=_;rw[bX,h1];show((if bF (.ls ds)<=50/\_ then some (cB (.ls ds) (.ls [])) else none).bind _)=_;rw[uC ⟨by simp only[bF];lia,rfl,rfl⟩];cases ds with
 | nil=>
  cases c with
  | nil=>rfl
  | cons _ _=>cases h3
 | cons _ _=>
  cases c with
  | nil=>cases h3
  | cons _ _=>rfl
def Pc.dat:∀ {t:T},Pc B n t->∃ d,bX t=some d/\bF d<=2 * n+2:=by
 induction n using Nat.strongRecOn with
 | _ n ih=>
  intro t h;let⟨w,xs,rfl,_,_,_,h4⟩:=h.body
  have ls:∀ {m:Nat} {xs:List T},(∀ x∈xs,∃ d,bX x=some d/\bF d<=m)->∃ ds,xn xs=some ds/\wR ds<=m:=λ{m xs}=>by
   induction xs with
   | nil=>exact λ_=>⟨[],rfl,u4 _⟩
   | cons x xs ih=>intro h;let⟨d,h1,h2⟩:=h x ug;let⟨ds,k1,k2⟩:=ih λy hy=>h y (uk _ hy);exact⟨d::ds,by rw[xn,h1,k1];rfl,by simp only[wR];omega⟩
  let⟨ds,k1,k2⟩:=ls (m:=2 * n+1) (xs:=.str w::xs) λx hx=>by
   rcases uw.mp hx with rfl | hx
   ·exact⟨_,rfl,u4 _⟩
   ·rcases h4 x hx with⟨s,rfl,_⟩ | ⟨ps,rfl,_,hp⟩
    ·exact⟨_,rfl,u4 _⟩
    ·let⟨es,j1,j2⟩:=ls (m:=2 * n) (xs:=ps) λy hy=>by
      let⟨m,hm,hpc⟩:=hp y hy
      let⟨d,a1,a2⟩:=ih m hm hpc
      exact⟨d,a1,aB⟩
     exact⟨.ls es,by rw[bX,j1];rfl,by simp only[bF];lia⟩
  exact⟨.tp ds,by rw[bX,k1];rfl,by simp only[bF];lia⟩
def Pc.fz:∀ {t:T},Pc B n t->aV t=t:=by
 induction n using Nat.strongRecOn with
 | _ n ih=>
  intro t h;let⟨w,xs,rfl,_,_,_,h4⟩:=h.body
  have e:aL xs=xs:=by
   rw[xh];refine(UY λx hx=>?_).trans (gY _);rcases h4 x hx with⟨s,rfl,_⟩ | ⟨ps,rfl,_,hp⟩
   ·rfl
   ·show fl (aL ps)=_;rw[xh,(UY λy hy=>by let⟨m,hm,hpc⟩:=hp y hy;exact ih m hm hpc).trans (gY ps)]
  show T.tp (.str w::aL xs)=_;rw[e]
def Pc.sh (h:Pc B n t):shr t=true:=by rw[<-h.fz];exact ZJ t
theorem fB.fz (h:fB B n l):aL l=l:=by rw[xh];exact(UY λp hp=>(h.2 p hp).fz).trans (gY _)
theorem fB.dat {l:List T}(h:fB B n l):∃ ds,xn l=some ds/\wR ds<=2 * n+2/\ds.length=l.length:=by
 have:∀ {l:List T},(∀ p∈l,Pc B n p)->∃ ds,xn l=some ds/\wR ds<=2 * n+2/\ds.length=l.length:=λ{l}=>by
  induction l with
  | nil=>exact λ_=>⟨[],rfl,u4 _,rfl⟩
  | cons x xs ih=>intro h;let⟨d,h1,h2⟩:=(h x ug).dat;let⟨ds,k1,k2,k3⟩:=ih λy hy=>h y (uk _ hy);exact⟨d::ds,by rw[xn,h1,k1];rfl,by simp only[wR];omega,by rw[uc,uc,k3]⟩
 exact this h.2
def Pc.ix0 (h:Pc B n p):cV s (.own (.int 0)::.own p::Z)=some (.own (.str (dP p))::Z):=by let⟨w,xs,rfl,_⟩:=h.body;exact QA (vk (k:=0) aD) rfl rfl
def Pc.ix1 (h:Pc B n p)(hl:dP p=bA):(∀ {s Z:Sl},cV s (.own (.int 1)::.own p::Z)=some (.own (.str (hd2 p))::Z))/\(hd2 p).length<=B:=by let⟨s,rfl,hs⟩:=VO h hl;exact⟨rfl,hs⟩
section
variable {f:Fr} {r bl:List T}
def gL:aS (.own (ol (r++[iJ f bl c]))::l) 0 [r.length,2,bl.length]=some (ol c):=by refine qU rfl (vS.trans ?_);show dQ [bl.length] (ol (bl++[ol c]))=_;exact vS
def tO:aS (.own (ol (r++[iJ f bl c]))::l) 0 [r.length]=some (iJ f bl c):=qU rfl vS
def tN:aS (.own (ol (r++[iJ f bl c]))::l) 0 [r.length,2]=some (ol (bl++[ol c])):=qU rfl vS
def sL:dD [r.length,2,bl.length] (ol (r++[iJ f bl c])) (ol c')=some (ol (r++[iJ f bl c'])):=by refine kN ?_;show(dD [bl.length] (ol (bl++[ol c])) (ol c')).bind _=_;rw[kN (t':=ol c') rfl];rfl
def pL (h:aT (jQ 0 4) Z=some Y'):putSt [.own (ol (r++[iJ f bl c])),.own u,.al 0 [r.length,2,bl.length]] Z 0 [r.length,2,bl.length] (ol c')=some ([.own (ol (r++[iJ f bl c'])),.own u,.al 0 [r.length,2,bl.length]],Y'):=xQ rfl rfl sL rfl h
end
def RP (hc:fB B n c)(hp:Pc B n p)(hn:n<=20)(hB:B<=1000000)(q:Q .non [ol (r++[iJ f bl (dM c p)]),.non]):zV [ol (r++[iJ f bl c]),p] Q X:=by
 unfold zV;refine⟨rfl,?_⟩;have hlen:=hc.1;have hd:=hc.dat;have r1:∀ {t':T} {x:Slot},iG [.own t',.own p,x] 1=some (.own p):=λ{t' x}=>qq rfl hp.sh;refine za (vT (p:=[]) rfl vm rfl vn rfl) ?_;refine za (vT tO rfl rfl rfl rfl) ?_;refine za (vT tN vm rfl vn rfl) ?_;have l16:c.length<16777216:=aB
 have rA:∀ {c':List T} {u:T},iG [.own (ol (r++[iJ f bl c'])),.own u,.al 0 [r.length,2,bl.length]] 2=some (.al 0 [r.length,2,bl.length]):=λ{c' u}=>IA rfl gL rfl;have app:¬ (dP p=bA/\∃ q,c.getLast? = some q/\dP q=bA)->Q .non [ol (r++[iJ f bl (c++[p])]),.non]:=λhn=>by rw[VQ hn] at q;exact q
 refine za r1 (za hp.ix0 ?_);refine zh (λhw=>?_) (λhw=>?_)
 ·have hw:dP p=bA:=uq hw;refine za rA ?_;refine za (Ri gL) ?_;refine za (ne_nil (by let⟨ds,h1,h2,h3⟩:=hd;exact⟨ds,h1,aB,h3⟩)) ?_;rcases gc c with rfl | ⟨c',v,rfl⟩
  ·exact za rA (qc (Zm gL) (za r1 (za (qW gL (jn l16) (pL rfl)) (app λ⟨_,z,e,_⟩=>by cases e))))
  ·rw[gg] at *;have hv:Pc B n v:=hc.2 v aD;refine qc aD ?_;refine za rA (za (Vr gL vm rfl vn hv.sh) (za hv.ix0 ?_));refine zh (λhv'=>?_) (λhv'=>?_)
   ·have hv':dP v=bA:=uq hv';let⟨i3,l3⟩:=hv.ix1 hv';let⟨i4,l4⟩:=hp.ix1 hw;refine za rA (qc (Zm gL) ?_);refine za (qW gL J2 (pL rfl)) ?_;refine za i3 (za r1 (za i4 (za (zD aB) ?_)));refine za rA (qc (Zm gL) (za (qW gL (jn (by rw[ub] at l16;lia)) (pL rfl)) ?_));rw[wA,uC ⟨hw,hv'⟩] at q;exact q
   ·refine za rA (qc (Zm gL) (za r1 ?_));refine za (qW gL (jn l16) (pL rfl)) ?_;refine app λ⟨_,q,e,z⟩=>?_;rw[gS] at e;cases e;exact uN hv' z
 ·refine za rA (qc (Zm gL) (za r1 ?_));refine za (qW gL (jn l16) (pL rfl)) ?_;exact app λz=>uN hw z.1
def dy {f:Fr}(hc:fB B n f.cur)(hp:Pc B n p)(hn:n<=20)(hB:B<=1000000)(q:Q .non [ol (r++[bU (f.put p)]),.non]):zV [ol (r++[bU f]),p] Q X:=RP (f:=f) hc hp hn hB q
def ET {f g:Fr}(kf:mB B n f)(kg:mB B (n+1) g)(h8:8<=B)(hn:n<=15)(hB:B<=1000000)(q:Q .non [ol (r++[bU (g.put f.whole)])]):jK [ol (r++[bU g]++[bU f])] Q X:=by
 have hw:=Wi kf h8;have fin:∀ {Q:T->List T->Prop} {X:d5->List T->Prop} {u:T},u=f.whole->Q .non [ol (r++[bU (g.put f.whole)]),.non]->zV [ol (r++[bU g]),u] Q X:=λ{Q X u} e q=>by subst e;exact dy kg.1 hw aB hB q
 have fc:=kf.1.fz;unfold jK;refine⟨rfl,?_⟩;rcases kf.2.2.1 with e | ⟨ew,a,e⟩
 ·rw[show bU f=.tp [.str f.w,.str f.n,ol [ol f.cur]] by show T.tp [.str f.w,.str f.n,ol (f.ps.map ol++[ol f.cur])]=_;rw[e];rfl];refine za (qW (p:=[]) rfl J2 rfl) ?_;refine zh (λh=>?_) λh=>?_
  ·refine fin ?_ q;unfold Fr.whole;rw[e,uC ⟨uq h,rfl⟩];show T.tp [.str f.w,.str f.n,fl (aL f.cur),fl []]=_;rw[fc];rfl
  ·refine fin ?_ q;unfold Fr.whole;rw[e,ux λz=>uN h z.1];show T.tp [.str f.w,.str f.n,fl (aL f.cur)]=_;rw[fc];rfl
 ·have fa:=(kf.2.1 a (by rw[e];exact ug)).fz;rw[show bU f=.tp [.str f.w,.str f.n,ol [ol a,ol f.cur]] by show T.tp [.str f.w,.str f.n,ol (f.ps.map ol++[ol f.cur])]=_;rw[e];rfl];refine za (qW (p:=[]) rfl J2 rfl) ?_;refine zh (λh=>?_) λh=>absurd ew (uN h);refine fin ?_ q;unfold Fr.whole;rw[e,ux λz=>by cases z.2];show T.tp [.str f.w,.str f.n,fl (aL a),fl (aL f.cur)]=_;rw[fc,fa];rfl
def nG:Lc:=[32,33,34,35,36,38,39,40,41,42,43,44,45,46,47,48,49,50,51,52,53,54,55,56,57,58,59,60,61,62,63,64,65,66,67,68,69,70,71,72,73,74,75,76,77,78,79,80,81,82,83,84,85,86,87,88,89,90,91,92,93,94,95,96,97,98,99,100,101,102,103,104,105,106,107,108,109,110,111,112,113,114,115,116,117,118,119,120,121,122,124,126]
def sg2 {c:Nat}(h:c∈nG):c∈SG/\c≠123/\c≠125:=(by decide:∀ c∈nG,c∈SG/\c≠123/\c≠125) c h
def Sh (q:Q (.str nG) []):wa [] Q X:=by unfold wa;exact⟨rfl,q⟩
inductive Tk (ov:Bool):Sx->Lc->Sx->Prop where
 | nil {s:Sx}:Tk ov s [] s
 | sg {f:Fr} {st:List Fr} {nm:List Lc} {t:Lc}:(ov=true->st≠[])->t≠[]->t.length<=3->(∀ c∈t,c∈SG/\c≠123/\c≠125)->Tk ov (f::st,nm) t (f.put (cH t)::st,nm)
 | st {s s':Sx} {k:Tok} {i:Lc}:fF ov s k s'->eJ k i->Tk ov s (123::(i++[125])) s'
def Tk.rd {ov:Bool}{s s':Sx}{t:Lc}(h:Tk ov s t s'):Rd ov s t s':=by
 cases h with
 | nil=>exact .nil
 | sg h1 h2 _ h3=>exact Rd.lits h1 t h2 h3
 | st h1 h2=>exact .one h1 (.word h2)
def Tk.len {ov:Bool}{s s':Sx}{t:Lc}(h:Tk ov s t s'):t.length<=16:=by
 cases h with
 | nil=>decide
 | sg _ _ h _=>omega
 | st _ h=>have:=(VN h).1;simp only[uc,ub,ur];omega
def VU {f:Fr}{r:List T}{B n:Nat}{s:Lc}(hk:mB B n f)(h8:8<=B)(hs:s.length<=3)(hn:n<=20)(hB:B<=1000000)(q:Q .non [ol (r++[bU (f.put (cH s))]),.non]):zV [ol (r++[bU f]),cH s] Q X:=
 dy hk.1 (kP (by simp only[uc,ur];lia) (λ_=>⟨_,rfl⟩) aD λx hx=>⟨s,uy.mp hx,aB⟩) hn hB q
def zaL {f:Fr}{r:List T}{B m:Nat}{n:Int}(hk:mB B m f)(h8:8<=B)(hm:m<=20)(hB:B<=1000000)(h0:0<=n)(q:∀ t s,(∀ ov st nm,(ov=true->st≠[])->Tk ov (f::st,nm) t (f.put (cH s)::st,nm))->Q (.str t) [ol (r++[bU (f.put (cH s))]),.non]):jh [ol (r++[bU f]),.int n] Q X:=by
 unfold jh;refine⟨rfl,?_⟩;refine Sh ?_;refine zh (λh5=>?_) λh5=>?_
 ·have c2:n / 5 % 2=0\/n / 5 % 2=1:=aB
  rcases c2 with h2 | h2
  ·refine za (z:=[.own (.str [123]),.own (.str bA),.al 0 [],.al 0 []]) (by show cV _ (.own (.int (n / 5 % 2))::_)=_;rw[h2];rfl) ?_;refine VU (s:=[123]) hk h8 aA hm hB ?_;refine za (z:=[.own (.str [123,40,125]),.al 0 []]) (by show cV _ (.own (.int (n / 5 % 2))::_)=_;rw[h2];rfl) ?_;exact q _ _ λov st nm ho=>.st (.put (k:=.lit [123]) rfl ho) .lb
  ·refine za (z:=[.own (.str [125]),.own (.str bA),.al 0 [],.al 0 []]) (by show cV _ (.own (.int (n / 5 % 2))::_)=_;rw[h2];rfl) ?_;refine VU (s:=[125]) hk h8 aA hm hB ?_;refine za (z:=[.own (.str [123,41,125]),.al 0 []]) (by show cV _ (.own (.int (n / 5 % 2))::_)=_;rw[h2];rfl) ?_;exact q _ _ λov st nm ho=>.st (.put (k:=.lit [125]) rfl ho) .rb
 ·obtain⟨k,hk'⟩:∃ k:Nat,(1+n / 5 % 3:Int)=k:=⟨(1+n / 5 % 3).toNat,aB⟩
  have rg:∀ {s Z:Sl},iy .rng 1 s (.own (.int (1+n / 5 % 3))::Z)=some (((List.range k).map λ(k:Nat)=>.int (k:Int),none),(s,Z)):=λ{s Z}=>by rw[hk'];exact Wn aB
  refine za rg ?_;refine xy (λj s Z=>Z=[.al 0 []]/\∃ (t:Lc) (x:Int) (y:Slot),s=[.own (ol (r++[bU f])),.own (.int n),.own (.str nG),.own (.str t),.own (.int x),y]/\t.length=j/\0<=x/\∀ c∈t,c∈nG) ⟨rfl,[],n / 15,_,rfl,rfl,aB,nofun⟩ ?_ ?_
  ·rintro j d _ _ K hd ⟨rfl,t,x,y,rfl,ht,hx,hc⟩ hK;let⟨rfl,hj⟩:=VT hd;have b1:=uV x (b:=92) aA;have b2:=uO x (b:=92) aA;refine za (sZ (t:=nG) b1 b2) ?_;refine za (zD (by simp only[uc,ur];lia)) ?_;refine hK _ _ ⟨rfl,t++[nG.getD (x % 92).toNat 0],x / 92,_,rfl,by rw[ub,ht];rfl,aB,λc hc'=>?_⟩;rcases uo.mp hc' with z | z
   ·exact hc c z
   ·rw[uy.mp z];exact getD_mem b1 b2
  ·rintro _ _ ⟨rfl,t,x,y,rfl,ht,hx,hc⟩;rw[Jr] at ht;refine VU (s:=t) hk h8 aB hm hB ?_;exact q _ _ λov st nm ho=>.sg ho (λz=>by rw[z] at ht;simp at ht;lia) aB λc hc'=>sg2 (hc c hc')
def cX (st:List Fr):List T:=(st.map bU).reverse
def qp {f:Fr}{st:List Fr}:cX (f::st)=cX st++[bU f]:=by unfold cX;rw[uA,gh]
def kS (st:List Fr):(cX st).length=st.length:=by unfold cX;rw[GX,ud]
def fb (bl nm:List Lc):Prop:=∃ ns:List Lc,ns.length<=6/\∀ x,x∈bl\/x∈nm->x∈ns\/x∈qV
def il (bl nm:List Lc):Prop:=bl.Nodup/\(∀ x∈bl,zx x)/\(∀ x∈bl,x∉nm)/\fb bl nm
def Js {ns:List Lc}{i:Int}{o:Bool}(h0:0<=i)(h1:i<ns.length):∃ n∈ns,∀ {s Z:Sl},cV s (.own (.int i)::.own (.nd o .ls (ns.map .str))::Z)=some (.own (.str n)::Z):=by
 let⟨j,rfl⟩:=gC h0;have hj:j<ns.length:=aB
 refine⟨ns[j],U2 hj,λ{s Z}=>Wl h0 ?_⟩;rw[uE,Uy,uz hj];rfl
theorem Qa:∀ os:List Lc,∃ ds,xn (os.map .str)=some ds/\wR ds<=0/\ds.length=os.length
 | []=>⟨[],rfl,uj _,rfl⟩
 | o::os=>by let⟨ds,h1,h2,h3⟩:=Qa os;exact⟨_::ds,by rw[uA,xn,h1];rfl,by simp only[wR,bF];omega,by rw[uc,uc,h3]⟩
def eq_nil {os:List Lc}:bZ .eq [ol (os.map .str),ol []]=some (.bl os.isEmpty):=by let⟨ds,h1,h2,h3⟩:=Qa os;show((two (bX (ol (os.map .str))) (some (Dat.ls [])) _).bind _)=_;rw[bX,h1];show((if bF (.ls ds)<=50/\_ then some (cB (.ls ds) (.ls [])) else none).bind _)=_;rw[uC ⟨by simp only[bF];lia,rfl,rfl⟩];cases os<;>cases ds<;>first | rfl | cases h3
def Lm {l:List Lc}{j:Nat}(h:l.Nodup)(hj:j<l.length):l[j]∉l.eraseIdx j:=by
 rw[List.eraseIdx_eq_take_drop_succ];have e:l=l.take j++l[j]::l.drop (j+1):=by rw[<-UR hj,UQ]
 rw[e] at h;have n:=Gj.mp h;intro z;rcases uo.mp z with z | z
 ·exact n.2.2 _ z _ ug rfl
 ·exact(UA.mp n.2.1).1 z
theorem Kl:∀ {l:List Lc} {j:Nat} (hj:j<l.length),Qu (l.map T.str) j=some (.str l[j],(l.eraseIdx j).map .str)
 | x::l,0,_=>rfl
 | x::l,j+1,hj=>by show(Qu (l.map T.str) j).bind _=_;rw[Kl (Nat.lt_of_succ_lt_succ hj)];rfl
def XN {ov:Bool}{st:List Fr}{nm ns bl:List Lc}{n:Int}(hst:st≠[])(h0:0<=n)(hl:0<ns.length)(hns:∀ x∈ns,jw x)(hb:il bl nm)(ho:ov=true->st.length=1->n % 4=2)(hb2:bl.length<=100)(q:∀ t s' bl',Tk ov (st,nm) t s'->s'.1≠[]->il bl' s'.2->bl'.length<=100->Q (.str t) [ol (cX s'.1),.non,.non,ol (bl'.map .str)]):qS [ol (cX st),.int n,fl (ns.map .str),ol (bl.map .str)] Q X:=by
 unfold qS;refine⟨rfl,?_⟩;have q0:Q (.str []) [ol (cX st),.non,.non,ol (bl.map .str)]:=q [] (st,nm) bl .nil hst hb hb2
 have iw:∃ w,(∀ {s Z:Sl},cV s (.own (.int (n % 4))::.own (ol [.str zO,.str bE,.str ze,.str ze])::Z)=some (.own (.str w)::Z))/\(w=zO\/w=bE\/w=ze)/\(n % 4=2->w=ze):=by
  have:n % 4=0\/n % 4=1\/n % 4=2\/n % 4=3:=aB
  rcases this with e | e | e | e<;>rw[e]
  ·exact⟨_,rfl,.inl rfl,λz=>by lia⟩
  ·exact⟨_,rfl,.inr (.inl rfl),λz=>by lia⟩
  ·exact⟨_,rfl,.inr (.inr rfl),λ_=>rfl⟩
  ·exact⟨_,rfl,.inr (.inr rfl),λ_=>rfl⟩
 let⟨w,iw,hw,hw2⟩:=iw;have wl:w.length<=5:=by rcases hw with rfl | rfl | rfl<;>decide
 have ln:((ns.map T.str).length:Int)=ns.length:=by rw[ud]
 let⟨x,xin,ix⟩:=Js (ns:=ns) (o:=false) (i:=n / 4 % (ns.length:Int)) (uV _ aB) (uO _ aB);have xo:=hns x xin;have sl:=kS st;have tx:∀ y:Lc,[123]++w++[32]++y++[125]=123::((w++32::y)++[125]):=λy=>by simp
 have done:∀ (y:Lc) (bl' nm':List Lc),eJ (.op w y) (w++32::y)->st.length<=12->(w=ze->y∉nm)->nm' = (if w=ze then nm++[y] else nm)->il bl' nm'->bl'.length<=100->Q (.str ([123]++w++[32]++y++[125])) [ol (cX st++[.tp [.str w,.str y,ol [ol []]]]),.non,.non,ol (bl'.map .str)]:=λy bl' nm' hi h12 hyn e hbl hb'=>by subst e;rw[tx];have:=q _ (⟨w,y,[],[]⟩::st,_) bl' (.st (.op h12 hst hw (λz1 z2=>hw2 (ho z1 z2)) hyn) hi) aD hbl hb';rw[qp] at this;exact this
 refine za iw ?_;refine za (vg (by rw[ln];lia)) ?_;refine za (z:=[.own (.str x),.al 0 [],.al 3 []]) (by show cV _ (.own (.int (n / 4 % ((ns.map T.str).length:Int)))::_)=_;rw[ln];exact ix) ?_;have big:∀ {P R:Prop},(st.length<=12->R)->(¬ st.length<=12->P)->Bool.rec (motive:=λ_=>Prop) R P (decide ((12:Int)<((cX st).length:Nat))):=λ{P R} hR hP=>zh (λz=>hP (by have:=uq z;lia)) λz=>hR (by have:=uN z;lia);refine zh (λz=>?_) λz=>?_
 ·have hwb:w=ze:=uq z;refine za eq_nil ?_;cases bl with
  | nil=>exact q0
  | cons b0 bl0=>
   refine big (λh12=>?_) λ_=>q0;refine qc (uK hwb) ?_;have lb:(((b0::bl0).map T.str).length:Int)=(b0::bl0).length:=by rw[ud]
   have l0:0<(b0::bl0).length:=aD
   generalize b0::bl0=bl at *;obtain⟨j,hj⟩:∃ j:Nat,n / 4 % (bl.length:Int)=j:=⟨(n / 4 % (bl.length:Int)).toNat,by have:=uV (n / 4) (b:=(bl.length:Int)) aB;lia⟩
   have hj':j<bl.length:=by have:=uO (n / 4) (b:=(bl.length:Int)) aB;lia
   have mp:mI .popI (bl.map .str) [.int (n / 4 % ((bl.map T.str).length:Int))]=some ((bl.eraseIdx j).map .str,.str bl[j]):=by rw[lb,hj];show(eI (bl.map T.str).length (j:Int)).bind _=_;rw[vk (by rw[ud];exact hj')];show(Qu (bl.map T.str) j).bind _=_;rw[Kl hj'];show(if (bl.map T.str).length<=16777216 then _ else _)=_;rw[uC (by rw[ud];lia)]
   have ym:bl[j]∈bl:=U2 _;have yn:=hb.2.1 _ ym;have y8:=yn.2.1;refine za (vg (by rw[lb];lia)) ?_;refine za (qW aC mp aC) ?_;refine za (qW aC (jn aB) aC) ?_;refine za (zD (by simp only[uc,ur];lia)) ?_;refine za (zD (by simp only[ub,uc,ur];lia)) ?_;refine za (zD (by simp only[ub,uc,ur];lia)) ?_;refine za (zD (by simp only[ub,uc,ur];lia)) ?_;refine done bl[j] (bl.eraseIdx j) (nm++[bl[j]]) (by rw[hwb];exact .op2 yn) h12 (λ_=>hb.2.2.1 _ ym) (by rw[uC hwb]) ⟨hb.1.sublist (List.eraseIdx_sublist _ _),λx hx=>hb.2.1 x (Gq hx),λx hx z=>?_,?_⟩ (uZ (List.Sublist.length_le (List.eraseIdx_sublist _ _)) hb2)
   ·rcases uo.mp z with z | z
    ·exact hb.2.2.1 x (Gq hx) z
    ·rw[uy.mp z] at hx;exact Lm hb.1 hj' hx
   ·let⟨ns',h6,hs⟩:=hb.2.2.2;refine⟨ns',h6,λx hx=>hs x ?_⟩;rcases hx with hx | hx
    ·exact .inl (Gq hx)
    ·rcases uo.mp hx with z | z
     ·exact .inr z
     ·rw[uy.mp z];exact .inl ym
 ·have hwb:¬ w=ze:=uN z;refine big (λh12=>?_) λ_=>q0;refine qE (uv hwb) ?_;have x8:=xo.1.2.1;refine za (qW aC (jn aB) aC) ?_;refine za (zD (by simp only[uc,ur];lia)) ?_;refine za (zD (by simp only[ub,uc,ur];lia)) ?_;refine za (zD (by simp only[ub,uc,ur];lia)) ?_;refine za (zD (by simp only[ub,uc,ur];lia)) ?_;refine done x bl nm (.op1 ?_ xo) h12 (λz=>absurd z hwb) (by rw[ux hwb]) hb hb2;rcases hw with z | z | z
  ·exact .inl z
  ·exact .inr z
  ·exact absurd z hwb
def in_of {x:Lc}{ws:List Lc}{o:Bool}:bZ .isin [.str x,.nd o .ls (ws.map .str)]=some (.bl (decide (x∈ws))):=by
 have sc:∀ ws:List Lc,iF (ws.map T.str)=some (ws.map λw=>.str (S w)):=λws=>by
  induction ws with
  | nil=>rfl
  | cons w ws ih=>rw[uA,iF,ih];rfl
 have e:nj (.str x) (.nd o .ls (ws.map .str))=some (decide (x∈ws)):=by show two (some (V.str (S x))) ((some (ws.map T.str)).bind iF) (λx vs=>some (iz x vs))=_;rw[u7,sc,To,kR]
 show(nj (.str x) (.nd o .ls (ws.map .str))).bind _=_;rw[e];rfl
def RO {a:List T}{x:T}(h:shr x=false):aI (a++[x])=false:=by
 induction a with
 | nil=>show(shr x&&true)=false;rw[h];rfl
 | cons y a ih=>show(shr y&&aI (a++[x]))=false;rw[ih,gE]
def zcZ (a b:List T):views (a++b)=views a++views b:=by
 induction a with
 | nil=>rfl
 | cons x a ih=>show view x::views (a++b)=view x::(views a++views b);rw[ih]
theorem Km:∀ st:List Fr,views (cX st)=(st.map λf=>T.tp [.str f.w,.str f.n,.any]).reverse
 | []=>rfl
 | f::st=>by rw[qp,zcZ,Km st,uA,gh];rfl
abbrev iB:List Lc:=[zO,bE,zX,bC,ze,ji,wm,zS]
def C0:∀ w∈iB,zx w:=by intro w hw;simp only[uw,Gy,or_false] at hw;rcases hw with rfl | rfl | rfl | rfl | rfl | rfl | rfl | rfl<;>exact⟨aA,aA,aA⟩
section
variable {ov:Bool} {f:Fr} {st:List Fr} {nm ns:List Lc} {n:Int} {B:Nat}
def n9 (f:Fr)(st:List Fr)(n:Int)(ns:List Lc)(ov:Bool):Sl:=[.own (ol (cX st++[bU f])),.own (.int n),.own (fl (ns.map .str)),.own (.bl ov),.own (.int (n % 6)),.no,.no]
def AW (Q:T->List T->Prop):KP:=λs Z=>bG (cY [.mu,.mv,.mv,.mv] 0 s Z) λr=>Q .non r
def Iu (hk:e9 B (f::st))(h8:8<=B)(hB:B<=1000000)(hl:0<ns.length)(hl':ns.length<=100)(hns:∀ x∈ns,jw x)(ho:ov=true->st≠[])(q:∀ t s',Tk ov (f::st,nm) t s'->s'.1≠[]->s'.2=nm->Q (.str t) [ol (cX s'.1),.non,.non,.non]):bN (jL.drop 4) (n9 f st n ns ov) [.al 0 []] (AW Q) (fj [.mu,.mv,.mv,.mv] Q X):=by
 let⟨k1,k2,k3⟩:=hk;have leaf:∀ (w s:Lc),w.length<=8->w≠bA->s.length<=8->Pc B (12 - st.length) (.tp [.str w,.str s]):=λw s a b c=>kP aB (λz=>absurd z b) aD λx hx=>⟨s,uy.mp hx,aB⟩
 have done:∀ (k:Tok) (i:Lc),eJ k i->k.isP ov=true->Q (.str (123::(i++[125]))) [ol (cX st++[bU (f.put (.tp k.xs))]),.non,.non,.non]:=λk i hi hp=>by have:=q _ (f.put (.tp k.xs)::st,nm) (.st (.put hp ho) hi) aD rfl;rw[qp] at this;exact this
 have ln:((ns.map T.str).length:Int)=ns.length:=by rw[ud]
 refine zh (λz=>?_) λz=>?_
 ·have sb:∀ ws:List Lc,aI (ws.map T.str)=true:=λws=>by
   induction ws with
   | nil=>rfl
   | cons w ws ih=>exact ih
  have e:ns.map T.str++iB.map T.str=(ns++iB).map .str:=by rw[uF]
  refine za (ZU (b:=iB.map T.str) (by rw[ud];show ns.length+8<=_;lia) (sb ns) (sb iB)) ?_
  rw[e]
  refine za (vg (by rw[ln];lia)) ?_
  let⟨x,xin,ix⟩:=Js (ns:=ns++iB) (o:=true) (i:=n / 6 % ((ns.length:Int)+8)) (uV _ aB) (by rw[ub];exact uO _ aB)
  have xo:zx x:=by
   rcases uo.mp xin with z | z
   ·exact(hns x z).1
   ·exact C0 x z
  have x8:=xo.2.1
  refine za (z:=[.own (.str x),.al 0 []]) (by show cV _ (.own (.int (n / 6 % (((ns.map T.str).length:Int)+8)))::_)=_;rw[ln];exact ix) ?_
  refine dy k2.1 (leaf wm x aA aA x8) aB hB ?_
  refine za (zD (by simp only[uc,ur];lia)) ?_
  refine za (zD (by simp only[ub,uc,ur];lia)) ?_
  exact done (.draw x) _ (.draw xo) rfl
 ·let⟨x,xin,ix⟩:=Js (ns:=ns) (o:=false) (i:=n / 6 % (ns.length:Int)) (uV _ aB) (uO _ aB);have xo:=hns x xin;have x8:=xo.1.2.1;refine za (vg (by rw[ln];lia)) ?_;refine za (z:=[.own (.str x),.al 0 []]) (by show cV _ (.own (.int (n / 6 % ((ns.map T.str).length:Int)))::_)=_;rw[ln];exact ix) ?_;refine dy k2.1 (leaf XJ x aA aA x8) aB hB ?_;refine za (zD (by simp only[uc,ur];lia)) ?_;refine za (zD (by simp only[ub,uc,ur];lia)) ?_;exact done (.hole x) _ (.hole xo) rfl
def Ir (hk:e9 B (f::st))(h8:8<=B)(hB:B<=1000000)(hl:0<ns.length)(hl':ns.length<=100)(hns:∀ x∈ns,jw x)(ho:ov=true->st≠[])(q:∀ t s',Tk ov (f::st,nm) t s'->s'.1≠[]->s'.2=nm->Q (.str t) [ol (cX s'.1),.non,.non,.non]):bN (jL.drop 3) (n9 f st n ns ov) [.al 0 []] (AW Q) (fj [.mu,.mv,.mv,.mv] Q X):=by
 have t5:=Iu (X:=X) (n:=n) hk h8 hB hl hl' hns ho q;refine zh (λz=>?_) λz=>t5;cases ov with
 | false=>exact t5
 | true=>
  have sf:aI (cX st++[bU f])=false:=RO rfl;have it:iy .seq 1 (n9 f st n ns true) [.al 0 [],.own (.str ze),.al 0 []]=some (((st.reverse++[f]).map (λf=>T.tp [.str f.w,.str f.n,.any]),some (ol (cX st++[bU f]))),([.own .any,.own (.int n),.own (fl (ns.map .str)),.own (.bl true),.own (.int (n % 6)),.no,.no],[.al 0 [],.own (.str ze),.al 0 []])):=by show(cQ none (cond (aI (cX st++[bU f])) (some (cX st++[bU f])) (some (views (cX st++[bU f]))))).bind _=_;rw[sf,<-qp,Km,uF,uA,gh,<-List.map_reverse];rfl
  refine za it ?_;refine Vp (g:=λf:Fr=>.str f.w) rfl rfl rfl rfl (λa _ K h=>h) (λa _ K h=>h) (by have:=hk.1;simp only[ub,GX,uc,ur];lia) ?_;rw[show []++(st.reverse++[f]).map (λf=>T.str f.w)=((st.reverse++[f]).map λf=>f.w).map .str by rw[Uw];rfl];refine za in_of ?_;refine zh (λz=>?_) λz=>t5;let⟨k1,k2,k3⟩:=hk;refine dy k2.1 (kP (by simp only[uc,ur];lia) (λz=>absurd z aA) aD nofun) aB hB ?_;have:=q _ (f.put (.tp Tok.elder.xs)::st,nm) (.st (.put (k:=.elder) rfl ho) .elder) aD rfl;rw[qp] at this;exact this
end
end
section
variable {Q:T->List T->Prop} {X:d5->List T->Prop} {ov:Bool} {f:Fr} {st:List Fr} {nm ns:List Lc} {n:Int} {B:Nat}
def Iq (hk:e9 B (f::st))(h8:8<=B)(hB:B<=1000000)(hl:0<ns.length)(hl':ns.length<=100)(hns:∀ x∈ns,jw x)(ho:ov=true->st≠[])(q:∀ t s',Tk ov (f::st,nm) t s'->s'.1≠[]->s'.2=nm->Q (.str t) [ol (cX s'.1),.non,.non,.non]):bN (jL.drop 2) (n9 f st n ns ov) [.al 0 []] (AW Q) (fj [.mu,.mv,.mv,.mv] Q X):=by
 have t4:=Ir (X:=X) (n:=n) hk h8 hB hl hl' hns ho q;refine zh (λz=>?_) λz=>t4;refine za (vT (p:=[]) rfl vm rfl vn rfl) ?_;refine za (Vr tO rfl rfl rfl rfl) ?_;refine zh (λw=>?_) λz=>t4;refine za (vT (p:=[]) rfl vm rfl vn rfl) ?_;refine za (vT tO rfl rfl rfl rfl) ?_;refine za (Rh tN) ?_;refine zh (λz=>?_) λz=>t4;have hw:f.w=bE:=uq w;have hp:f.ps=[]:=by have z:(((f.ps.map ol++[ol f.cur]).length:Nat):Int)=1:=uq z;rw[ub,ud] at z;exact HV.mp (by simp only[uc,ur] at z;lia)
 refine za (vT (p:=[]) rfl vm rfl vn rfl) ?_;refine za (vT tO rfl rfl rfl rfl) ?_;refine qc (Zm tN) ?_;have pt:putSt (n9 f st n ns ov) [.al 0 []] 0 [(cX st).length,2] (ol (f.ps.map ol++[ol f.cur]++[ol []]))=some ([.own (ol (cX st++[.tp [.str f.w,.str f.n,ol (f.ps.map ol++[ol f.cur]++[ol []])]])),.own (.int n),.own (fl (ns.map .str)),.own (.bl ov),.own (.int (n % 6)),.no,.no],[.al 0 []]):=xQ rfl rfl (kN rfl) rfl rfl;refine za (qW tN (jn (by rw[hp];show 1<_;decide)) pt) ?_;have:=q _ ({ f with ps:=[f.cur],cur:=[] }::st,nm) (.st (.els hw hp ho) .els) aD rfl;rw[qp] at this;rw[hp];exact this
def RN (hk:e9 B (f::st))(h8:8<=B)(hB:B<=1000000)(hl:0<ns.length)(hl':ns.length<=100)(hns:∀ x∈ns,jw x)(ho:ov=true->st≠[])(q:∀ t s',Tk ov (f::st,nm) t s'->s'.1≠[]->s'.2=nm->Q (.str t) [ol (cX s'.1),.non,.non,.non]):xc [ol (cX (f::st)),.int n,fl (ns.map .str),.bl ov] Q X:=by
 have t3:=Iq (X:=X) (n:=n) hk h8 hB hl hl' hns ho q;unfold xc;refine⟨rfl,?_⟩;rw[qp];refine zh (λz=>?_) λz=>t3;refine zh (λz2=>?_) λz2=>t3;have l:(1:Int)<((cX st++[bU f]).length:Nat):=uq z2;let⟨k1,k2,k3⟩:=hk;cases st with
 | nil=>rw[ub,kS] at l;simp at l
 | cons g st=>
  let⟨j1,j2,j3⟩:=k3;have e12:12 - st.length=12 - (st.length+1)+1:=by simp only[uc] at k1;lia
  rw[e12] at j2;rw[qp];refine ET k2 j2 h8 (by simp only[uc];lia) hB ?_;have:=q _ (g.put f.whole::st,nm) (.st .fin .fin) aD rfl;rw[qp] at this;exact this
def Sg {bl:List Lc}(hk:e9 B (f::st))(h8:8<=B)(hB:B<=1000000)(h0:0<=n)(hl:0<ns.length)(hl':ns.length<=100)(hns:∀ x∈ns,jw x)(hb:il bl nm)(hb2:bl.length<=100)(q:∀ t s' bl',Tk ov (f::st,nm) t s'->s'.1≠[]->il bl' s'.2->bl'.length<=100->Q (.str t) [ol (cX s'.1),.non,.non,ol (bl'.map .str),.non]):wb [ol (cX (f::st)),.int n,fl (ns.map .str),ol (bl.map .str),.bl ov] Q X:=by
 unfold wb;refine⟨rfl,?_⟩
 have rest:(ov=true->st≠[])->bN (xG.drop 2) [.own (ol (cX (f::st))),.own (.int n),.own (fl (ns.map .str)),.own (ol (bl.map .str)),.own (.bl ov),.own (.int (n % 8))] [.al 0 [],.al 3 []] (λs Z=>bG (cY [.mu,.mv,.mv,.mu,.mv] 0 s Z) λr=>Q .non r) (fj [.mu,.mv,.mv,.mu,.mv] Q X):=λho=>by
  refine zh (λz=>?_) λz=>?_
  ·rw[qp];refine zaL hk.2.1 h8 aB hB aB λt s ht=>?_;have:=q t _ bl (ht ov st nm ho) aD hb hb2;rw[qp] at this;exact this
  ·refine zh (λz=>?_) λz=>?_
   ·exact XN aD aB hl hns hb (λz1 z2=>absurd (ho z1) (by simpa using z2)) hb2 λt s' bl' h1 h2 h3 h4=>q t s' bl' h1 h2 h3 h4
   ·exact RN hk h8 hB hl hl' hns ho λt s' h1 h2 h3=>q t s' bl h1 h2 (by rw[h3];exact hb) hb2
 cases ov with
 | false=>exact rest nofun
 | true=>
  refine zh (λz=>?_) λz=>?_
  ·have l:((cX (f::st)).length:Int)=1:=uq z;rw[kS] at l;refine za (VS (Jd ⟨aA,aA⟩)) ?_;exact XN aD aB hl hns hb (λ_ _=>by lia) hb2 λt s' bl' h1 h2 h3 h4=>q t s' bl' h1 h2 h3 h4
  ·have l:¬ ((cX (f::st)).length:Int)=1:=uN z;rw[kS] at l;exact rest λ_ e=>by rw[e] at l;exact l rfl
end
section
variable {Q:T->List T->Prop} {X:d5->List T->Prop} {ov:Bool}
theorem QJ:∀ ns:List Int,aI (ns.map T.int)=true
 | []=>rfl
 | _::ns=>QJ ns
def RM {α β:Type}(f:α->β)(xs:List α)(a b:Option Int):aO (xs.map f) a b=(aO xs a b).map f:=by unfold aO;rw[ud,GZ,G0]
def Jt {α:Type}(xs:List α)(a b:Option Int):(aO xs a b).length<=xs.length:=by unfold aO;rw[Uk,Ud];lia
def Sf {ns:List Int}{a b:Int}:bZ (.sl true true) [.ks true (ns.map .int),.int a,.int b]=some (.nd true .ls ((aO ns (some a) (some b)).map .int)):=by show cQ (cond (aI (ns.map T.int)) (some (T.nd true .ls (aO (ns.map T.int) (some a) (some b)))) none) _=_;rw[QJ,RM];rfl
inductive Tks (ov:Bool):Sx->List Lc->Sx->Prop where
 | nil {s:Sx}:Tks ov s [] s
 | cons {s s1 s2:Sx} {t:Lc} {ts:List Lc}:Tk ov s t s1->Tks ov s1 ts s2->Tks ov s (t::ts) s2
def Tks.app {s s1 s2:Sx}{a b:List Lc}(h:Tks ov s a s1)(k:Tks ov s1 b s2):Tks ov s (a++b) s2:=by
 induction h with
 | nil=>exact k
 | cons h1 _ ih=>exact .cons h1 (ih k)
def Tks.snoc {s s1 s2:Sx}{a:List Lc}{t:Lc}(h:Tks ov s a s1)(k:Tk ov s1 t s2):Tks ov s (a++[t]) s2:=h.app (.cons k .nil)
theorem Tks.rd {s s':Sx}{ts:List Lc}(h:Tks ov s ts s'):Rd ov s ts.flatten s':=by
 induction h with
 | nil=>exact .nil
 | cons h1 _ ih=>rw[UT];exact h1.rd.app ih
theorem Tks.len {s s':Sx}{ts:List Lc}(h:Tks ov s ts s'):ts.flatten.length<=16 * ts.length:=by
 induction h with
 | nil=>exact uj _
 | cons h1 _ ih=>have:=h1.len;rw[UT,ub,uc];omega
def ig (st:List Fr):Prop:=∃ c,st.getLast? = some ⟨[],[],[],c⟩
def fF.bot {s s':Sx}{k:Tok}(h:fF ov s k s')(b:ig s.1):ig s'.1:=by
 have tl:∀ {f g:Fr} {st:List Fr},st≠[]->ig (f::st)->ig (g::st):=λ{f g st} hs ⟨c,e⟩=>by refine⟨c,?_⟩;rw[U9 hs] at e |-;exact e
 cases h with
 | @put f st nm k hp ho=>
  cases st with
  | nil=>let⟨c,e⟩:=b;cases e;exact⟨_,rfl⟩
  | cons g st=>exact tl (by simp) b
 | op h1 h2 h3 h4 h5=>let⟨c,e⟩:=b;exact⟨c,by rw[U9 h2];exact e⟩
 | @els f st nm h1 h2 h3=>
  cases st with
  | nil=>let⟨c,e⟩:=b;cases e;cases h1
  | cons g st=>exact tl (by simp) b
 | @fin f g st nm=>
  let⟨c,e⟩:=b;rw[U9 aD] at e;cases st with
  | nil=>cases e;exact⟨_,rfl⟩
  | cons h st=>exact tl (f:=g) (by simp) ⟨c,e⟩
theorem Rd.bot {s s':Sx}{l:Lc}(h:Rd ov s l s'):ig s.1->ig s'.1:=by
 induction h with
 | nil=>exact id
 | cons h1 _ _ ih=>exact λb=>ih (h1.bot b)
def Made (ov:Bool)(toks:List Lc)(us:List T):Prop:=(∃ nm,Tks ov ([root],[]) toks ([⟨[],[],[],us⟩],nm)/\fb [] nm)/\toks.length<=80
theorem jE:∀ ws:List Lc,aL (ws.map T.str)=ws.map T.str
 | []=>rfl
 | w::ws=>congrArg (T.str w::·) (jE ws)
def RL {ns:List Int}(hns:ns.length<=63)(q:∀ toks us,Made ov toks us->Q (.tp [fl (toks.map .str),fl us]) [.non,.non]):xf [.ks true (ns.map .int),.bl ov] Q X:=by
 unfold xf;refine⟨rfl,?_⟩;refine xH (k:=0) λc=>Kk (many:=4) aA λlY hn=>?_;refine xH (k:=1) λc=>Kk (many:=6) aA λbls hb=>?_
 have sb:∀ ws:List Lc,aI (ws.map T.str)=true:=λws=>by
  induction ws with
  | nil=>rfl
  | cons w ws ih=>exact ih
 refine za (ZU (b:=iB.map T.str) (by rw[ud];show bls.length+8<=_;have:=hb.1;lia) (sb bls) (sb iB)) ?_;have eb:bls.map T.str++iB.map T.str=(bls++iB).map .str:=by rw[uF]
 rw[eb]
 have bok:il (bls++iB) []:=by
  refine⟨Gj.mpr ⟨hb.2.1,aA,λa ha b hb' e=>?_⟩,λx hx=>?_,λ_ _=>by simp,bls,by rw[hb.1];exact uj _,λx hx=>(uo.mp (hx.resolve_right aD))⟩
  ·subst e;exact(hb.2.2 a ha).2 hb'
  ·rcases uo.mp hx with z | z
   ·exact(hb.2.2 x z).1
   ·exact C0 x z
 have bl14:(bls++iB).length<=100:=by rw[ub,hb.1];decide
 refine za Sf ?_;have lc:=Jt ns (some 2) (some 62);generalize aO ns (some 2) (some 62)=cs at lc;refine za (kL (QJ cs)) ?_;refine xy (λj s Z=>Z=[]/\∃ f st nm toks bl y,s=[.own (.ks true (ns.map .int)),.own (.bl ov),.own (fl (lY.map .str)),.own (ol (bl.map .str)),.own (ol (cX (f::st))),.own (ol (toks.map .str)),y]/\Tks ov ([root],[]) toks (f::st,nm)/\il bl nm/\bl.length<=100/\toks.length=j) ⟨rfl,root,[],[],[],bls++iB,.no,?_,.nil,bok,bl14,rfl⟩ ?_ ?_
 ·show [Slot.own (.ks true (ns.map .int)),.own (.bl ov),.own (fl (aL (lY.map .str))),.own (ol ((bls++iB).map .str)),.own (ol [.tp [.str [],.str [],ol [ol []]]]),.own (ol []),.no]=_;rw[jE];rfl
 ·rintro j d _ _ K hd ⟨rfl,f,st,nm,toks,bl,y,rfl,ht,hbl,hb2,hj⟩ hK;rw[uE] at hd;let⟨cell,hc,rfl⟩:=uM.mp hd;have hj':j<cs.length:=(uY.mp hc).1;have tl:=ht.len;have stk:=ht.rd.ok (B:=8) (Ki 8) (uj _);refine RQ λn h0=>?_;refine Sg stk aB aB h0 (by rw[hn.1];decide) (by rw[hn.1];decide) hn.2.2 hbl hb2 λt s' bl' h1 h2 h3 h4=>?_;let⟨st',nm'⟩:=s';cases st' with
  | nil=>exact absurd rfl h2
  | cons f' st'=>refine za (qW (by rfl) (jn (by rw[ud];omega)) (by rfl)) ?_;refine hK _ _ ⟨rfl,f',st',nm',toks++[t],bl',.own (.int cell),?_,ht.snoc h1,h3,h4,by rw[ub,hj];rfl⟩;rw[uF];rfl
 ·rintro _ _ ⟨rfl,f,st,nm,toks,bl,y,rfl,ht,hbl,hb2,hj⟩;rw[ud] at hj;have six:fb [] nm:=by let⟨ns',h6,hs⟩:=hbl.2.2.2;exact⟨ns',h6,λx hx=>hs x (.inr (hx.resolve_left aD))⟩
  have stk:=ht.rd.ok (B:=8) (Ki 8) (uj _);refine Dj (λm s Z=>Z=[]/\∃ f st toks y,s=[.own (.ks true (ns.map .int)),.own (.bl ov),.own (fl (lY.map .str)),.own (ol (bl.map .str)),.own (ol (cX (f::st))),.own (ol (toks.map .str)),y]/\Tks ov ([root],[]) toks (f::st,nm)/\st.length=m/\toks.length+m<=80) st.length ⟨rfl,f,st,toks,y,rfl,ht,rfl,by have:=stk.1;lia⟩ ?_;clear hbl ht stk hj;rintro m _ _ K ⟨rfl,f,st,toks,y,rfl,ht,hm,hl⟩ hK;have tl:=ht.len;have stk:=ht.rd.ok (B:=8) (Ki 8) (uj _);have bot:=ht.rd.bot ⟨[],rfl⟩;refine zh (λz=>?_) λz=>?_
  ·have l:(1:Int)<((cX (f::st)).length:Nat):=uq z;cases st with
   | nil=>rw[kS] at l;simp at l
   | cons g st=>
    let⟨k1,k2,k3,k4,k5⟩:=stk;have e12:12 - st.length=12 - (st.length+1)+1:=by simp only[uc] at k1;lia
    rw[e12] at k4;rw[qp,qp];refine ET k2 k4 aB (by simp only[uc];lia) aB ?_;refine za (qW aC (jn (by rw[ud];lia)) aC) ?_;refine hK st.length _ _ (by rw[<-hm];simp) ⟨rfl,g.put f.whole,st,toks++[oA],qM 5 1 (qM 4 1 (qM 4 1 y)),?_,ht.snoc (.st .fin .fin),rfl,?_⟩
    ·rw[uF,qp];rfl
    ·rw[ub];simp only[uc,ur] at hm |-;lia
  ·have l:¬ (1:Int)<((cX (f::st)).length:Nat):=uN z;rw[kS] at l;have hs:st=[]:=U3 (by simp only[uc] at l;lia);subst hs;let⟨c,e⟩:=bot;cases e;have fc:=stk.2.1.1.fz;show Q (.tp [fl (aL (toks.map .str)),fl (aL c)]) [.non,.non];rw[jE,show aL c=c from fc];exact q toks c ⟨⟨nm,ht,six⟩,aB⟩
def Pre (ov:T)(l:Lc)(s:Sx):Prop:=(ov=.non/\Rd false ([root],[]) l s)\/∃ n r,ov=.str n/\zx n/\l=xt n++r/\Rd true ([root],[]) r s
def Ll {ov d tok:T}{fs:List T}{w:Lc}{a:Int}(hs:shr tok=true)(e0:∀ {s Z:Sl},cV s (.own (.int 0)::.own tok::Z)=some (.own (.str w)::Z))(h:(w=zS/\a≠0)\/(w≠zS/\w≠ze/\(∃ n,ov=.str n)/\fs.length=1)\/(w=ji/\ov=.non))(q:Q (.bl false) [di ov fs d,.non,.non]):zo [di ov fs d,tok,.int a] Q X:=by
 unfold zo;refine⟨rfl,?_⟩;refine za (qq rfl hs) (za e0 ?_);rcases h with⟨hw,ha⟩ | ⟨h1,h2,⟨n,rfl⟩,h4⟩ | ⟨hw,rfl⟩
 ·refine qc (uK hw) ?_;show Q (.bl (decide (a=0))) _;rw[uv ha];exact q
 ·refine qE (uv h1) ?_;refine kq (uK h4) ?_;refine qc (show(!decide (w=ze))=true by rw[uv h2];rfl) ?_;exact q
 ·subst hw;exact q
def VV {ov d tok:T}{fs:List T}{w:Lc}{a:Nat}(hs:shr tok=true)(hn:fQ tok=some false)(e0:∀ {s Z:Sl},cV s (.own (.int 0)::.own tok::Z)=some (.own (.str w)::Z))(h:(w=zS/\(a:Int)≠0)\/(w≠zS/\w≠ze/\(∃ n,ov=.str n)/\fs.length=1)\/(w=ji/\ov=.non))(ha:a<1000000)(x:X ⟨3,["at"],[.int a]⟩ [di ov fs d,.non,.non]):zy [di ov fs d,tok,.int a] Q X:=by unfold zy;refine⟨rfl,?_⟩;refine za (qq rfl hs) ?_;refine za (z:=T.bl false) (by show(cQ (two (some ()) (fQ tok) λ_ k=>some k) _).bind _=_;rw[hn];rfl) ?_;refine za (qq rfl hs) ?_;refine Ll hs e0 h ?_;refine za (z:=()) (by show cond (iQ (a:Int)) (some ()) none=_;rw[Qw ⟨aB,aB⟩];rfl) ?_;exact x
end
section
def eo:List Fr->Prop
 | []=>True
 | [b]=>∀ u∈b.cur,dP u=ze
 | [f,b]=>f.w=ze/\∀ u∈b.cur,dP u=ze
 | _::g::h::st=>eo (g::h::st)
def eo.top {f f':Fr}{st:List Fr}(h:eo (f::st))(hs:st≠[])(e:f'.w=f.w):eo (f'::st):=by
 match st,hs with
 | [b],_=>exact⟨e.trans h.1,h.2⟩
 | _::_::_,_=>exact h
def fF.topB {s s':Sx}{k:Tok}(h:fF true s k s')(b:eo s.1):eo s'.1:=by
 cases h with
 | put hp ho=>exact b.top (ho rfl) rfl
 | @op st nm w n h1 h2 h3 h4 h5=>
  match st,h2,h4 with
  | [r],_,h4=>exact⟨h4 rfl rfl,b⟩
  | _::_::_,_,_=>exact b
 | els h1 h2 h3=>exact b.top (h3 rfl) rfl
 | @fin f g st nm=>
  match st with
  | []=>
   intro u hu;have e:(g.put f.whole).cur=g.cur++[f.whole]:=VQ λz=>absurd (b.1.symm.trans z.1) aA;rw[e] at hu;rcases uo.mp hu with z | z
   ·exact b.2 u z
   ·rw[uy.mp z];exact b.1
  | [_]=>exact eo.top (f:=g) b (by simp) rfl
  | _::_::_=>exact b
theorem Rd.topB (h:Rd o s l s'):o=true->eo s.1->eo s'.1:=by
 induction h with
 | nil=>exact λ_=>id
 | cons h1 _ _ ih=>exact λe b=>by subst e;exact ih rfl (h1.topB b)
end
section
instance nameD (n:Lc):Decidable (zx n):=by unfold zx;infer_instance
instance ownD (n:Lc):Decidable (jw n):=by unfold jw;infer_instance
inductive Itm where
 | bad | over (n:Lc) | tok (k:Tok)
def eh (w:Lc):Itm:=if w=[40] then .tok (.lit [123]) else if w=[41] then .tok (.lit [125]) else if w=zX then .tok .els else if w=bC then .tok .fin else if w=ji then .tok .elder else if jw w then .tok (.hole w) else .bad
def cO (a b:Lc):Itm:= if a=zO\/a=bE then(if jw b then .tok (.op a b) else .bad) else if zx b then(if a=ze then .tok (.op a b) else if a=wm then .tok (.draw b) else if a=zS then .over b else .bad) else .bad
def Bv:List Lc->Itm
 | [w]=>eh w
 | [a,b]=>cO a b
 | _=>.bad
def qd (i:Lc):Itm:=Bv (splits i [32])
def bH (r:Lc):Lc:=r.takeWhile λc=>c != 125
def cU:Lc->Itm×Nat
 | []=>(.bad,1)
 | c::r=>if c=125 then(.bad,1) else if c≠123 then(.tok (.lit [c]),1) else if 125∈r then(qd (bH r),(bH r).length+2) else(.bad,1)
def VW (h:125∈r):∃ r',r=bH r++125::r':=by
 induction r with
 | nil=>cases h
 | cons c r ih=>
  by_cases e:c=125
  ·subst e;exact⟨r,rfl⟩
  ·let⟨r',k⟩:=ih ((uw.mp h).resolve_left λz=>e z.symm);refine⟨r',?_⟩;have:bH (c::r)=c::bH r:=by unfold bH;rw[UP (by simp[e])]
   rw[this,Ux,<-k]
def RK (r:Lc):125∉bH r:=λz=>by
 have:∀ {l:Lc},125∈l.takeWhile (λc=>c != 125)->False:=λ{l}=>by
  induction l with
  | nil=>exact λz=>by cases z
  | cons c l ih=>
   rw[List.takeWhile_cons];split
   ·rename_i h;intro z;rcases uw.mp z with z | z
    ·subst z;simp at h
    ·exact ih z
   ·exact λz=>by cases z
 exact this z
def RJ (h:125∉i):bH (i++125::r)=i:=by
 induction i with
 | nil=>rfl
 | cons c i ih=>
  have e:c≠125:=λz=>h (z ▸ ug);have:bH ((c::i)++125::r)=c::bH (i++125::r):=by unfold bH;rw[Ux,UP (by simp[e])]
  rw[this,ih λz=>h (uk _ z)]
def kT (i:Lc):(splits i [32]=[i]/\32∉i)\/(∃ a b,splits i [32]=[a,b]/\i=a++32::b/\32∉a/\32∉b)\/∃ a b c r,splits i [32]=a::b::c::r:=by
 let⟨ps,e,h1,h2,h3⟩:=vA i 32;rw[e]
 match ps,h3,h1,h2 with
 | [p],_,h1,h2=>have:S p=S i:=h2;cases QS.mp this;exact .inl ⟨rfl,h1 _ ug⟩
 | [p,q],_,h1,h2=>have h2:S p++S [32]++S q=S i:=h2;rw[cR,cR] at h2;have:=QS.mp h2;rw[ue] at this;exact .inr (.inl ⟨p,q,rfl,this.symm,h1 _ ug,h1 _ (uk _ ug)⟩)
 | p::q::r::ps,_,_,_=>exact .inr (.inr ⟨p,q,r,ps,rfl⟩)
def Se (h:eh i=.tok k):eJ k i:=by
 unfold eh at h;split at h
 ·rename_i e;subst e;cases h;exact .lb
 split at h
 ·rename_i e;subst e;cases h;exact .rb
 split at h
 ·rename_i e;subst e;cases h;exact .els
 split at h
 ·rename_i e;subst e;cases h;exact .fin
 split at h
 ·rename_i e;subst e;cases h;exact .elder
 split at h
 ·rename_i e;cases h;exact .hole e
 ·cases h
def VX:(cO a b=.bad/\¬ ((a=zO\/a=bE)/\jw b)/\¬ ((a=ze\/a=wm\/a=zS)/\zx b))\/(cO a b=.over b/\a=zS/\zx b)\/∃ k,cO a b=.tok k/\eJ k (a++32::b)/\k.xs=[.str a,.str b]/\(((a=zO\/a=bE)/\jw b)\/((a=ze\/a=wm)/\zx b)):=by
 unfold cO;split
 ·rename_i h;split
  ·rename_i hb;exact .inr (.inr ⟨_,rfl,.op1 h hb,rfl,.inl ⟨h,hb⟩⟩)
  ·rename_i hb;exact .inl ⟨rfl,λz=>hb z.2,λz=>by rcases h with rfl | rfl<;>rcases z.1 with z | z | z<;>cases z⟩
 ·rename_i h;split
  ·rename_i hb;split
   ·rename_i e;subst e;exact .inr (.inr ⟨_,rfl,.op2 hb,rfl,.inr ⟨.inl rfl,hb⟩⟩)
   ·rename_i e1;split
    ·rename_i e;subst e;exact .inr (.inr ⟨_,rfl,.draw hb,rfl,.inr ⟨.inr rfl,hb⟩⟩)
    ·rename_i e2;split
     ·rename_i e;exact .inr (.inl ⟨rfl,e,hb⟩)
     ·rename_i e3;exact .inl ⟨rfl,λz=>h z.1,λz=>by rcases z.1 with z | z | z<;>contradiction⟩
  ·rename_i hb;exact .inl ⟨rfl,λz=>h z.1,λz=>hb z.2⟩
def ES (h:qd i=.tok k):eJ k i:=by
 unfold qd at h;rcases kT i with⟨e,_⟩ | ⟨a,b,e,e2,_⟩ | ⟨a,b,c,r,e⟩
 ·rw[e] at h;exact Se h
 ·rw[e] at h;rcases VX (a:=a) (b:=b) with⟨z,_⟩ | ⟨z,_⟩ | ⟨k',z,hi,_⟩
  ·rw[show cO a b=.tok k from h] at z;cases z
  ·rw[show cO a b=.tok k from h] at z;cases z
  ·rw[show cO a b=.tok k from h] at z;cases z;rw[e2];exact hi
 ·rw[e] at h;cases h
def Ju (h:123∈n):¬ zx n:=λz=>by have:=(z.2.2 _ h).2;lia
def zc0 (hi:eJ k i):123∉i:=λz=>by
 have nn:∀ {w n:Lc},123∉w->zx n->123∈w++32::n->False:=λhw hn z=>by
  rcases uo.mp z with z | z
  ·exact hw z
  ·exact Ju ((uw.mp z).resolve_left aA) hn
 cases hi with
 | lb=>exact absurd z (by decide)
 | rb=>exact absurd z (by decide)
 | hole h=>exact Ju z h.1
 | draw h=>exact nn (by decide) h z
 | elder=>exact absurd z (by decide)
 | els=>exact absurd z (by decide)
 | fin=>exact absurd z (by decide)
 | op1 hw h=>exact nn (by rcases hw with rfl | rfl<;>decide) h.1 z
 | op2 h=>exact nn (by decide) h z
def zc1 (h:123∈i):qd i=.bad:=by
 unfold qd;rcases kT i with⟨e,_⟩ | ⟨a,b,e,e2,_⟩ | ⟨a,b,c,r,e⟩
 ·rw[e];show eh i=.bad;have nb:∀ {w:Lc},123∉w->i≠w:=λhw z=>hw (z ▸ h);unfold eh;rw[ux (nb aA),ux (nb aA),ux (nb aA),ux (nb aA),ux (nb aA),ux λz=>Ju h z.1]
 ·rw[e];show cO a b=.bad;rcases VX (a:=a) (b:=b) with⟨z,_⟩ | ⟨z,e3,hb⟩ | ⟨k',z,hi,_⟩
  ·exact z
  ·rw[e2,e3] at h;rcases uo.mp h with z | z
   ·exact absurd z aA
   ·exact absurd hb (Ju ((uw.mp z).resolve_left aA))
  ·exact absurd (e2 ▸ h) (zc0 hi)
 ·rw[e];rfl
end
section
variable {Q:T->List T->Prop} {X:d5->List T->Prop}
def lt_iff:c∈LT↔97<=c/\c<=122:=⟨Dv,Iw⟩
def vh {n:Lc}(hl:n.length<=1000000)(q:Q (.bl (decide (zx n))) [.non]):xK [.str n] Q X:=by
 unfold xK;refine⟨rfl,?_⟩;refine zh (λh=>?_) (λh=>?_)
 ·refine zh (λh2=>?_) (λh2=>?_)
  ·rw[uv λk:zx n=>absurd k.2.1 (by simp at h2;lia)] at q;exact q
  ·refine Vp (f:=λc=>.str [c]) (g:=λc=>.bl (decide (c∈LT))) rfl rfl rfl rfl (λc _ K h=>h) (λc _ K h=>h) (by simp;lia) ?_;refine za (z:=.bl ((n.map λc=>decide (c∈LT)).all id)) ?_ ?_
   ·show((iK (n.map λc=>T.bl (decide (c∈LT)))).bind λbs=>some (T.bl (bs.all id)))=_;rw[Es];rfl
   ·rw[show(n.map λc=>decide (c∈LT)).all id=decide (zx n) from ?_]
    ·exact q
    ·rw[U7,List.all_map,Gv,G6];simp at h h2;constructor
     ·exact λk=>⟨aB,aB,λc hc=>lt_iff.mp (uq (k c hc))⟩
     ·exact λk c hc=>uK (lt_iff.mpr (k.2.2 c hc))
 ·rw[uv λk:zx n=>absurd k.1 (by simp at h;lia)] at q;exact q
def kU {n:Lc}(hl:n.length<=1000000)(q:Q (.bl (decide (jw n))) [.non]):qR [.str n] Q X:=by
 unfold qR;refine⟨rfl,?_⟩;refine vh hl ?_;refine zh (λh=>?_) (λh=>?_)
 ·show Q (.bl (!iz (.str (S n)) (qV.map λw=>.str (S w)))) _;rw[kR];rw[show decide (jw n) = !decide (n∈qV) from ?_] at q
  ·exact q
  ·rw[U7];simp only[G6,hJ,decide_eq_false_iff_not];exact⟨λz=>z.2,λz=>⟨uq h,z⟩⟩
 ·rw[show decide (jw n)=false from uv λz=>uN h z.1] at q;exact q
def fD:Itm->T->Prop
 | .bad,u=>u=.non
 | .over n,u=>u=.tp [.str zS,.str n]
 | .tok k,u=>lC k.xs u
def CP (h:i≠[40])(h2:i≠[41])(h3:i≠zX)(h4:i≠bC)(h5:i≠ji):l9 jv i w=w:=by simp only[l9];rw[ux (Ne.symm h),ux (Ne.symm h2),ux (Ne.symm h3),ux (Ne.symm h4),ux (Ne.symm h5)]
def sps {i:Lc}(hl:i.length<=1000000):mJ .split i [.str [32]]=some (.nd true .ls ((splits i [32]).map .str)):=by show(if ([32]:Lc)≠[]/\i.length<=1000000 then some (T.nd true .ls ((splits i [32]).map .str)) else none)=_;rw[uC ⟨aA,hl⟩]
def Kn {i:Lc}(hl:i.length<=100000)(q:∀ u,fD (qd i) u->Q u [.non]):wz [.str i] Q X:=by
 unfold wz;refine⟨rfl,?_⟩;refine za (sps aB) ?_;unfold qd at q;rcases kT i with⟨e,_⟩ | ⟨a,b,e,e2,_⟩ | ⟨a,b,c,r,e⟩
 ·rw[e] at q |-;refine kU aB ?_;have q1:∀ u,fD (eh i) u->Q u [.non]:=q;clear q;by_cases h1:i=[40]
  ·subst h1;exact q1 _ (.inr rfl)
  by_cases h2:i=[41]
  ·subst h2;exact q1 _ (.inr rfl)
  by_cases h3:i=zX
  ·subst h3;exact q1 _ (.inr rfl)
  by_cases h4:i=bC
  ·subst h4;exact q1 _ (.inr rfl)
  by_cases h5:i=ji
  ·subst h5;exact q1 _ (.inr rfl)
  unfold eh at q1;rw[ux h1,ux h2,ux h3,ux h4,ux h5] at q1;refine zh (λh=>?_) (λh=>?_)
  ·rw[uC (uq h)] at q1;have q3:Q (l9 jv i (.tp [.str XJ,.str i])) [.non]:=by rw[CP h1 h2 h3 h4 h5];exact q1 _ (.inl rfl)
   exact q3
  ·rw[ux (uN h)] at q1;have q3:Q (l9 jv i .non) [.non]:=by rw[CP h1 h2 h3 h4 h5];exact q1 _ rfl
   exact q3
 ·rw[e] at q |-;have q2:∀ u,fD (cO a b) u->Q u [.non]:=q;clear q;have lb:b.length<=1000000:=by have:=congrArg List.length e2;simp only[ub,uc] at this;lia
  have inL:∀ {ws:List Lc},iz (.str (S a)) (ws.map λw=>.str (S w))=decide (a∈ws):=kR;rcases VX (a:=a) (b:=b) with⟨z,n1,n2⟩ | ⟨z,e3,hb⟩ | ⟨k,z,hi,ek,c⟩
  ·rw[z] at q2;have q:=q2 .non rfl;refine zh (λh=>?_) (λh=>?_)
   ·have ha:a=zO\/a=bE:=by
     have h:iz (.str (S a)) ([zO,bE].map λw=>.str (S w))=true:=h
     rw[inL] at h
     simpa using uq h
    refine kU lb ?_
    exact qE (uv λz=>n1 ⟨ha,z⟩) q
   ·refine zh (λh2=>?_) (λh2=>q);have ha:a=ze\/a=wm\/a=zS:=by have h:iz (.str (S a)) ([ze,wm,zS].map λw=>.str (S w))=true:=h2;rw[inL] at h;simpa using uq h
    refine vh lb ?_;exact qE (uv λz=>n2 ⟨ha,z⟩) q
  ·rw[z] at q2;subst e3;refine vh lb ?_;exact qc (uK hb) (q2 _ rfl)
  ·rw[z] at q2;have q:=q2 _ (.inl rfl);rw[ek] at q;rcases c with⟨rfl | rfl,hb⟩ | ⟨rfl | rfl,hb⟩
   ·exact kU lb (qc (uK hb) q)
   ·exact kU lb (qc (uK hb) q)
   ·exact vh lb (qc (uK hb) q)
   ·exact vh lb (qc (uK hb) q)
 ·rw[e] at q |-;exact q .non rfl
def RI {l:Lc}(h:125∉l.drop a):Txt.find3 (S l) (S [125]) (a:Int) = -1:=by
 rcases StrLaws.find3_spec (S l) 125 (a:Int) with⟨e,_⟩ | ⟨k,e,k1,k2,k3,k4⟩
 ·exact e
 ·exfalso;have hf:fromIndex (S l).length (a:Int)=a:=by unfold fromIndex;rw[ux aB];lia
  rw[hf] at k1;rw[getD_at] at k3;have kl:k<l.length:=by rw[qL] at k2;exact k2
  rw[u5,uz kl] at k3;have:(l.drop a)[k - a]? = some 125:=by rw[G5,show a+(k - a)=k by lia,uz kl];exact congrArg some k3
  exact h (uR this)
def we (c:Nat)(r:Lc):cU (c::r)=if c=125 then(.bad,1) else if c≠123 then(.tok (.lit [c]),1) else if 125∈r then(qd (bH r),(bH r).length+2) else(.bad,1):=rfl
def VY (h:125∈r):cU (123::r)=(qd (bH r),(bH r).length+2):=by rw[we,ux aA,ux aD,uC h]
def Ko {l r:Lc}(hd:l.drop a=c::r)(hl:l.length<=100000)(q:∀ u,fD (cU (c::r)).1 u->Q (.tp [u,.int ((cU (c::r)).2:Nat)]) [.non,.non]):qI [.str l,.int a] Q X:=by
 let⟨hlt,e⟩:=VP hd;have lr:r.length<l.length:=by have:=congrArg List.length hd;simp only[Ud,uc] at this;lia
 by_cases h1:c=125
 ·subst h1;unfold qI;exact⟨rfl,za e (q .non rfl)⟩
 by_cases h2:c=123
 ·subst h2;by_cases h3:125∈r
  ·let⟨r',e'⟩:=VW h3;rw[VY h3] at q;have lu:(bH r).length<=r.length:=by have:=congrArg List.length e';simp only[ub,uc] at this;lia
   refine WY (P:=fD (qd (bH r))) (i:=bH r) (r:=r') (RK r) (λq=>Kn aB q) (by rw[hd,<-e']) λu hu=>?_;have:=q u hu;rw[show(((bH r).length+2:Nat):Int)=((bH r).length:Int)+2 by lia] at this;exact this
  ·unfold qI;refine⟨rfl,?_⟩;have hn:cU (123::r)=(.bad,1):=by rw[we,ux aA,ux aD,ux h3]
   rw[hn] at q;have hf:=RI (l:=l) (a:=a) (by rw[hd];simpa using h3);refine za e (za e ?_);refine zh (λ_=>q .non rfl) λh=>absurd h (by rw[hf];decide)
 ·have hn:cU (c::r)=(.tok (.lit [c]),1):=by rw[we,ux h1,uC h2]
  rw[hn] at q;unfold qI;refine⟨rfl,?_⟩;refine za e ?_;refine zh (λh=>absurd (uq h) λz=>h1 (gw z).1) λ_=>?_;refine za e ?_;refine zh (λ_=>?_) (λh=>absurd h (by simp[h2]));exact za e (q _ (.inl rfl))
def oT:Option Lc->T
 | none=>.non
 | some n=>.str n
inductive Res where
 | sheet (a:Nat) | twice (n:Lc) | many | read (ov:Option Lc) (us:List T)
inductive fW (ov:Option Lc)(s:Sx)(a:Nat):Itm->(Res ⊕ (Option Lc×Sx))->Prop where
 | bad:fW ov s a .bad (.inl (.sheet a))
 | over0 {n:Lc}:a=0->ov=none->fW ov s a (.over n) (.inr (some n,s))
 | overN {n:Lc}:a≠0->fW ov s a (.over n) (.inl (.sheet a))
 | ok {k:Tok} {s':Sx}:fF ov.isSome s k s'->fW ov s a (.tok k) (.inr (ov,s'))
 | out {k:Tok}:ov.isSome=true->s.1.length=1->dP (.tp k.xs)≠ze->dP (.tp k.xs)≠zS->fW ov s a (.tok k) (.inl (.sheet a))
 | els {f:Fr} {st:List Fr}:s.1=f::st->¬ (f.w=bE/\f.ps=[])->(ov.isSome=true->st≠[])->fW ov s a (.tok .els) (.inl (.sheet a))
 | fin:s.1.length=1->ov=none->fW ov s a (.tok .fin) (.inl (.sheet a))
 | eld:ov=none->fW ov s a (.tok .elder) (.inl (.sheet a))
 | twice {n:Lc}:n∈s.2->fW ov s a (.tok (.op ze n)) (.inl (.twice n))
 | many {w n:Lc}:12<s.1.length->(w=ze->n∉s.2)->(w=zO\/w=bE\/w=ze)->fW ov s a (.tok (.op w n)) (.inl .many)
inductive Go (l:Lc):Nat->Option Lc->Sx->Res->Prop where
 | done {ov:Option Lc} {f:Fr} {nm:List Lc}:Go l l.length ov ([f],nm) (.read ov f.cur)
 | short {ov:Option Lc} {s:Sx}:1<s.1.length->Go l l.length ov s (.sheet l.length)
 | stop {a:Nat} {ov:Option Lc} {s:Sx} {r:Res}:a<l.length->fW ov s a (cU (l.drop a)).1 (.inl r)->Go l a ov s r
 | go {a:Nat} {ov ov':Option Lc} {s s':Sx} {r:Res}:a<l.length->fW ov s a (cU (l.drop a)).1 (.inr (ov',s'))->Go l (a+(cU (l.drop a)).2) ov' s' r->Go l a ov s r
def IZ {w n:Lc}(h:(cU r).1=.tok (.op w n)):n.length<=8:=by
 unfold cU at h;split at h
 ·cases h
 split at h
 ·cases h
 split at h
 ·cases h
 split at h
 ·have hi:=ES h;generalize bH _=i at hi;cases hi with
  | op1 _ hn=>exact hn.1.2.1
  | op2 hn=>exact hn.2.1
 ·cases h
def Pu:1<=(cU (c::r)).2/\(cU (c::r)).2<=(c::r).length:=by
 rw[we];split
 ·exact⟨uj _,gM (u4 _)⟩
 split
 ·exact⟨uj _,gM (u4 _)⟩
 split
 ·rename_i h;let⟨r',e⟩:=VW h;have:=congrArg List.length e;simp only[ub,uc] at this |-;lia
 ·exact⟨uj _,gM (u4 _)⟩
def drop_cons {l:Lc}(h:a<l.length):∃ c r,l.drop a=c::r/\a+(c::r).length=l.length:=by
 cases e:l.drop a with
 | nil=>have:=congrArg List.length e;simp only[Ud,ur] at this;omega
 | cons c r=>refine⟨c,r,rfl,?_⟩;have:=congrArg List.length e;simp only[Ud] at this;omega
def ER {fs:List T}(hv:ov=.non\/∃ n,ov=.str n)(hs:shr tok=true)(e0:∀ {s Z:Sl},cV s (.own (.int 0)::.own tok::Z)=some (.own (.str w)::Z))(h1:ov≠.non->fs.length≠1) (h:(w=zX/\∃ gs u n bl,fs=gs++[.nd true (.ob 1 oF) [.str u,.str n,ol bl]]/\¬ (u=bE/\bl.length=1))\/(w=bC/\fs.length=1)) (q:Q (.bl false) [di ov fs d,.non,.non]):zo [di ov fs d,tok,.int a] Q X:=by
 unfold zo;refine⟨rfl,za (qq rfl hs) (za e0 ?_)⟩;have h0:w≠zS:=by rcases h with⟨rfl,_⟩ | ⟨rfl,_⟩<;>decide
 refine qE (uv h0) ?_
 have rest:∀ {P:Prop},P=bN (qm.drop 3) [.own (di ov fs d),.own tok,.own (.int a),.own (.str w)] [.al 0 []] (λs Z=>bG (cY [.mu,.mv,.mv] 0 s Z) λr=>Q .non r) (fj [.mu,.mv,.mv] Q X)->P:=λ{P} e=>by
  rw[e];rcases h with⟨rfl,gs,u,n,bl,rfl,hb⟩ | ⟨rfl,hb⟩
  ·refine za (vT aC vm aC vn aC) ?_;refine qc (Vt (qU aC getD) aC aC aC) ?_;refine za (take1 (qU aC getD) (xQ aC aC (eQ aC) aC aC) aC aC) ?_;refine Z9 (uv hb) ?_;refine za (sT aC (qU aC getD) (xQ aC aC (eQ aC) aC aC)) ?_;exact q
  ·exact kq (uK hb) q
 rcases hv with rfl | ⟨n,rfl⟩
 ·exact rest rfl
 ·exact kq (uv (h1 nofun)) (rest rfl)
def Wo {ov d tok:T}{fs:List T}{a:Nat}(hs:shr tok=true)(hn:fQ tok=some false)(hc:∀ {Q:T->List T->Prop} {X:d5->List T->Prop},Q (.bl false) [di ov fs d,.non,.non]->zo [di ov fs d,tok,.int a] Q X)(ha:a<1000000)(x:X ⟨3,["at"],[.int a]⟩ [di ov fs d,.non,.non]):zy [di ov fs d,tok,.int a] Q X:=by unfold zy;refine⟨rfl,?_⟩;refine za (qq rfl hs) ?_;refine za (z:=T.bl false) (by show(cQ (two (some ()) (fQ tok) λ_ k=>some k) _).bind _=_;rw[hn];rfl) ?_;refine za (qq rfl hs) ?_;refine hc ?_;refine za (z:=()) (by show cond (iQ (a:Int)) (some ()) none=_;rw[Qw ⟨aB,aB⟩];rfl) ?_;exact x
def Sd {ov d:T}{fs:List T}{a:Nat}(ha:a<1000000)(x:X ⟨3,["at"],[.int a]⟩ [di ov fs d,.non,.non]):zy [di ov fs d,.non,.int a] Q X:=by unfold zy;refine⟨rfl,?_⟩;refine za (z:=()) (by show cond (iQ (a:Int)) (some ()) none=_;rw[Qw ⟨aB,aB⟩];rfl) ?_;exact x
def Kq {nm:List Lc}{n:Lc}(h:n∈nm)(hl:n.length<=1000000)(x:X ⟨4,["name"],[.str n]⟩ [di ov fs (fq nm),.non,.non]):zu [di ov fs (fq nm),.str ze,.str n] Q X:=by unfold zu;refine⟨rfl,?_⟩;refine qc (tj.trans (uK h)) ?_;refine za (z:=()) (uC hl) ?_;exact x
def zaM {nm:List Lc}{fs:List T}(h:12<fs.length)(hn:w=ze->n∉nm)(x:X ⟨5,[],[]⟩ [di ov fs (fq nm),.non,.non]):zu [di ov fs (fq nm),.str w,.str n] Q X:=by
 unfold zu;refine⟨rfl,?_⟩;have l12:decide ((12:Int)<fs.length)=true:=uK aB;by_cases hw:w=ze
 ·subst hw;refine qE (tj.trans (uv (hn rfl))) ?_;exact qc l12 x
 ·refine qE (uv hw) ?_;exact qc l12 x
noncomputable def fV:Res->Option d5
 | .sheet a=>some ⟨3,["at"],[.int a]⟩
 | .twice n=>some ⟨4,["name"],[.str n]⟩
 | .many=>some ⟨5,[],[]⟩
 | .read _ _=>none
def XO (h:iU ov s d)(hv:ov=.non\/∃ n,ov=.str n)(hw:w=zO\/w=bE\/w=ze)(ht:lC [.str w,.str n] tok)(h1:ov≠.non->s.1.length=1->w=ze) (hb:∀ {Q:T->List T->Prop} {X:d5->List T->Prop},X x [d,.non,.non]->zu [d,.str w,.str n] Q X) (q:X x [d,.non,.non]):zy [d,tok,.int a] Q X:=by
 have pf:=VR (k:=.op w n) ht;let⟨fs,rfl,h2⟩:=h;have hlen:fs.length=s.1.length:=h2.len;have rt:∀ {x0 x2 x3 x4:Slot},iG [x0,.own tok,x2,x3,x4] 1=some (.own tok):=qq rfl pf.sh;have nn:bZ .is [tok,.non]=some (.bl false):=by rcases ht with rfl | rfl<;>rfl
 unfold zy;refine⟨rfl,za rt (za nn (za rt ?_))⟩;refine Dw hv pf.sh (pf.ix (k:=0) rfl) ?_ (λz1 z2=>h1 z1 (by rw[<-hlen];exact z2)) (λz=>?_) (λz=>?_) (λz=>?_) ?_
 ·rcases hw with rfl | rfl | rfl<;>decide
 ·rcases hw with rfl | rfl | rfl<;>cases z
 ·rcases hw with rfl | rfl | rfl<;>cases z
 ·rcases hw with rfl | rfl | rfl<;>cases z
 refine za rt (za (pf.ix (k:=0) rfl) ?_);rcases hw with rfl | rfl | rfl
 all_goals
  refine za rt (za (pf.ix (k:=1) rfl) ?_);exact hb q
def lW (ov:Option Lc):oT ov=.non\/∃ n,oT ov=.str n:=by
 cases ov with
 | none=>exact .inl rfl
 | some n=>exact .inr ⟨n,rfl⟩
def Bk {ov:Option Lc}(h:oT ov≠.non):ov.isSome=true:=by
 cases ov with
 | none=>exact absurd rfl h
 | some n=>rfl
def zc2 {ov:Option Lc}{s:Sx}{a:Nat}{x:Itm}{r:Res}{e:d5}{u d:T}(h:fW ov s a x (.inl r))(hr:fV r=some e)(hd:iU (oT ov) s d)(hu:fD x u)(hk:∀ w n,x=.tok (.op w n)->n.length<=8)(ha:a<1000000)(q:X e [d,.non,.non]):zy [d,u,.int a] Q X:=by
 have hd':=hd;let⟨fs,rfl,h2⟩:=hd;have hlen:fs.length=s.1.length:=h2.len
 have tk:∀ {k:Tok},lC k.xs u->shr u=true/\fQ u=some false/\∀ {s Z:Sl},cV s (.own (.int 0)::.own u::Z)=some (.own (.str (dP (.tp k.xs)))::Z):=λ{k} hu=>by
  have pf:=VR hu;refine⟨pf.sh,by rcases hu with rfl | rfl<;>rfl,?_⟩;have h0:∃ w xs,k.xs=.str w::xs:=by cases k<;>exact⟨_,_,rfl⟩
  let⟨w,xs,ek⟩:=h0;rw[ek];exact λ{s Z}=>pf.ix (k:=0) (by rw[ek];rfl)
 cases h with
 | bad=>cases hr;cases hu;exact Sd ha q
 | overN h=>cases hr;cases hu;exact VV (w:=zS) rfl rfl rfl (.inl ⟨rfl,by omega⟩) ha q
 | @out k h1 h3 h4 h5=>
  cases hr;let⟨t1,t2,t3⟩:=tk hu;refine VV t1 t2 t3 (.inr (.inl ⟨h5,h4,?_,aB⟩)) ha q;cases ov with
  | none=>cases h1
  | some n=>exact⟨n,rfl⟩
 | @els f st h1 h3 h4=>
  cases hr;let⟨t1,t2,t3⟩:=tk (k:=.els) hu;refine Wo t1 t2 (λ{Q X} q=>ER (lW ov) t1 t3 (λz1 z2=>?_) (.inl ⟨rfl,?_⟩) q) ha q
  ·rw[hlen,h1] at z2;have:=h4 (Bk z1);cases st with
   | nil=>exact this rfl
   | cons _ _=>simp at z2
  ·rw[h1] at h2;let⟨tf,gs,rfl,⟨bs,c,rfl,k1,_⟩,_⟩:=h2;refine⟨gs,f.w,f.n,_,rfl,λz=>h3 ⟨z.1,?_⟩⟩;have z2:=z.2;rw[<-k1];cases bs with
   | nil=>rfl
   | cons _ _=>simp at z2
 | fin h1 h3=>cases hr;let⟨t1,t2,t3⟩:=tk (k:=.fin) hu;subst h3;exact Wo t1 t2 (λ{Q X} q=>ER (.inl rfl) t1 t3 (λz=>absurd rfl z) (.inr ⟨rfl,by omega⟩) q) ha q
 | eld h1=>cases hr;let⟨t1,t2,t3⟩:=tk (k:=.elder) hu;subst h1;exact VV t1 t2 t3 (.inr (.inr ⟨rfl,rfl⟩)) ha q
 | @twice n h1=>cases hr;exact XO hd' (lW ov) (.inr (.inr rfl)) hu (λ_ _=>rfl) (λ{Q X} x=>Kq h1 (by have:=hk _ _ rfl;omega) x) q
 | @many w n h1 h3 h4=>cases hr;exact XO hd' (lW ov) h4 hu (λ_ z=>by omega) (λ{Q X} x=>zaM (by omega) h3 x) q
def Tx.of {l:Lc}(hd:l.drop a=c::r)(hg:∀ c∈l,c∈SG)(h:(cU (c::r)).1=.tok k):Tx k ((c::r).take (cU (c::r)).2):=by
 by_cases h1:c=125
 ·subst h1;cases h
 by_cases h2:c=123
 ·subst h2;by_cases h3:125∈r
  ·let⟨r',e⟩:=VW h3;rw[VY h3] at h |-;have hi:=ES h;have:(123::r).take ((bH r).length+2)=123::(bH r++[125]):=by generalize bH r=i at e;subst e;rw[List.take_succ_cons,List.take_append,gF (UM _),gB];rfl
   rw[this];exact .word hi
  ·rw[we,ux aA,ux aD,ux h3] at h;cases h
 ·rw[we,ux h1,uC h2] at h |-;cases h;exact .sign (hg c (GL (show c∈l.drop a by rw[hd];exact ug))) h2 h1
theorem fD.sh (h:fD x u):shr u=true:=by
 cases x with
 | bad=>cases h;rfl
 | over n=>cases h;rfl
 | tok k=>exact(VR h).sh
def vI {l:Lc}(hl:l.length<=2000)(hg:∀ c∈l,c∈SG)(h:Go l 0 none ([root],[]) r)(q:∀ ov us,r=.read ov us->fB (8+l.length) 12 us->Q (A7 (oT ov) us) [.non])(x:∀ e,fV r=some e->X e [.non]):zQ [.str l] Q X:=by
 unfold zQ;refine⟨rfl,?_⟩;refine qE (uv aB) ?_;refine RR hg ?_;refine d_init ?_;have d0:iU .non ([root],[]) (di .non [.nd true (.ob 1 oF) [.str [],.str [],ol [ol []]]] (fq [])):=⟨_,rfl,_,[],rfl,⟨[],[],rfl,rfl,nofun,rfl,rfl⟩,rfl⟩
 refine Dj (λm s Z=>Z=[]/\∃ (a:Nat) (ov:Option Lc) (s1:Sx) (y:Slot) (d:T),s=[.own (.str l),.own d,.own (.int a),y]/\(y=.no\/∃ t,y=.own t)/\iU (oT ov) s1 d/\Go l a ov s1 r/\a+m=l.length/\e9 (8+a) s1.1/\s1.2.length<=a/\ig s1.1) l.length ⟨rfl,0,none,_,_,_,rfl,.inl rfl,d0,h,aB,Ki _,uj _,_,rfl⟩ ?_;rintro m _ _ K ⟨rfl,a,ov,s1,y,d,rfl,hy,hd,hr,hm,hk,hnm,hb⟩ hK;by_cases ha:a<l.length
 ·let⟨c,r',e,el⟩:=drop_cons ha;have nl:=Pu (c:=c) (r:=r');refine qc (uK aB) ?_;refine Ko e aB λu hu=>?_;rw[<-e] at hu nl;let⟨fs,rfl,_⟩:=id hd;have hsh:shr (.tp [u,.int ((cU (c::r')).2:Nat)])=true:=by show(shr u&&true)=true;rw[hu.sh];rfl
  refine za (Rj hsh) ?_;have stopped:∀ {r1:Res},r1=r->fW ov s1 a (cU (l.drop a)).1 (.inl r1)->∃ e,fV r1=some e:=λ{r1} _ hx=>by generalize (cU (l.drop a)).1=x' at hx;cases hx<;>exact⟨_,rfl⟩
  cases hr with
  | done=>omega
  | short _=>omega
  | stop _ hx=>
   let⟨ee,he⟩:=stopped rfl hx;rcases hy with rfl | ⟨_,rfl⟩
   all_goals
    refine za (qq rfl hsh) ?_;refine zc2 hx he hd hu (λw n z=>?_) aB ?_
    ·have:=IZ z;lia
    ·exact x ee he
  | @go _ _ ov' _ s' _ _ hx hg'=>
   have next:∀ {d'},iU (oT ov') s' d'->e9 (8+a+(cU (l.drop a)).2) s'.1->s'.2.length<=a+(cU (l.drop a)).2->ig s'.1->K [.own (.str l),.own d',.own (.int ((a:Int)+((cU (c::r')).2:Nat))),.own (.tp [u,.int ((cU (c::r')).2:Nat)])] []:=λ{d'} hd' k1 k2 k3=>by rw[<-e];rw[<-e] at el;refine hK (m - (cU (l.drop a)).2) _ _ aB ⟨rfl,a+(cU (l.drop a)).2,ov',s',.own (.tp [u,.int ((cU (l.drop a)).2:Nat)]),d',?_,.inr ⟨_,rfl⟩,hd',hg',aB,by rw[<-gO];exact k1,k2,k3⟩;rw[show((a+(cU (l.drop a)).2:Nat):Int)=(a:Int)+((cU (l.drop a)).2:Nat) by lia]
   have tx:=λk=>Tx.of (k:=k) e hg;rw[<-e] at tx;generalize hx':(cU (l.drop a)).1=x' at hx hu;cases hx with
   | @over0 n h0 h1=>
    cases hu;subst h0 h1;rcases hy with rfl | ⟨_,rfl⟩
    all_goals
     refine zcY hd λd' hd'=>?_;exact next hd' (hk.mono aB) aB hb
   | @ok k _ hs=>
    have ht:=tx k hx';have lt:((l.drop a).take (cU (l.drop a)).2).length=(cU (l.drop a)).2:=by rw[Uk];rw[e] at nl |-;lia
    rcases hy with rfl | ⟨_,rfl⟩
    all_goals
     refine za (qq rfl hsh) ?_;refine dC hd hs ht ?_ hu hk aB (by rw[lt];rw[<-e] at el;lia) aB λd' hd'=>?_
     ·cases ov with
      | none=>exact .inl ⟨rfl,rfl⟩
      | some n=>exact .inr ⟨rfl,n,rfl⟩
     refine za (qq rfl hsh) ?_;refine next hd' ?_ ?_ (hs.bot hb)
     ·have:=Dy hs ht hk aB;rw[lt] at this;exact this
     ·have:=Lo hs;lia
 ·refine qE (uv aB) ?_;let⟨fs,rfl,hfs⟩:=id hd;cases hr with
  | @done _ f nm=>let⟨c,hc⟩:=hb;cases hc;rcases hy with rfl | ⟨_,rfl⟩;all_goals exact Tv (B:=8+l.length) (lW ov) hd hk.2.1.1 (by omega) λd'=>q _ _ rfl hk.2.1.1
  | short h1=>
   have hlen:fs.length=s1.1.length:=hfs.len;have en:∀ {Q:T->List T->Prop} {X:d5->List T->Prop},X ⟨3,["at"],[.int (l.length:Nat)]⟩ [di (oT ov) fs (fq s1.2),.non]->qr [di (oT ov) fs (fq s1.2),.int (l.length:Nat)] Q X:=λ{Q X} q=>by unfold qr;refine⟨rfl,?_⟩;refine kq (uv aB) ?_;refine za (z:=()) (by show cond (iQ (l.length:Int)) (some ()) none=_;rw[Qw ⟨aB,aB⟩];rfl) ?_;exact q
   rcases hy with rfl | ⟨_,rfl⟩;all_goals exact en (x _ rfl)
  | stop h=>omega
  | go h=>omega
end
section
theorem Qb {c:T->Bool}{g:T->T}{tt:Sl->Sl->(Bool->KP)->Prop}{fe:Sl->Sl->KP->Prop}{s Z s1 W':Sl}{K:List T->KP}(e1:aT (iE 1) s=some s1)(e2:aT (iE 1) Z=some W')(e3:aT (fE 1) s1=some s)(e4:aT (fE 1) W'=some Z) :
  ∀ {xs:List T} {acc:List T},(∀ a∈xs,∀ K:Bool->KP,K (c a) (.own a::s1) W'->tt (.own a::s1) W' K)->(∀ a∈xs,c a=true->∀ K:KP,K (.own a::s1) (.own (g a)::W')->fe (.own a::s1) W' K)->acc.length+xs.length<=16777216->K (acc++(xs.filter c).map g) s Z->QW 1 tt fe xs acc s Z K
 | [],acc,_,_,_,h=>by rw[List.filter_nil,gr,uH] at h;exact h
 | a::xs,acc,ht,hf,hl,h=>by
  rw[uc] at hl;refine za e1 (za e2 (ht a ug _ ?_));cases ca:c a with
  | true=>
   refine hf a ug ca _ ⟨aB,za e3 (za e4 ?_)⟩;refine Qb e1 e2 e3 e4 (λb hb=>ht b (uk _ hb)) (λb hb=>hf b (uk _ hb)) ?_ ?_
   ·rw[ub,uc,ur];lia
   ·rw[List.filter_cons_of_pos ca,uA] at h;rw[ue];exact h
  | false=>refine za e3 (za e4 ?_);refine Qb e1 e2 e3 e4 (λb hb=>ht b (uk _ hb)) (λb hb=>hf b (uk _ hb)) (by omega) ?_;rw[List.filter_cons_of_neg (by rw[ca];decide)] at h;exact h
end
section
variable {Q:T->List T->Prop} {X:d5->List T->Prop}
def Pt {k:Tok}{i:Lc}(h:eJ k i):qd i=.tok k:=by
 have one:∀ {w:Lc},32∉w->qd w=eh w:=λ{w} hw=>by unfold qd;rw[Kh hw];rfl
 have two:∀ {a b:Lc},32∉a->zx b->qd (a++32::b)=cO a b:=λ{a b} ha hb=>by unfold qd;rw[kQ ha λz=>(jD hb 32 z).2.2 rfl];rfl
 cases h with
 | lb=>rw[one (by decide)];rfl
 | rb=>rw[one (by decide)];rfl
 | elder=>rw[one (by decide)];rfl
 | els=>rw[one (by decide)];rfl
 | fin=>rw[one (by decide)];rfl
 | hole h=>
  rw[one λz=>(jD h.1 32 z).2.2 rfl];have ne:∀ {c:Nat},c<97->¬ i=[c]:=λhc z=>by have:=(h.1.2.2 _ (z ▸ ug)).1;lia
  have nb:∀ {u:Lc},u∈qV->¬ i=u:=λhu z=>h.2 (z ▸ hu);unfold eh;rw[ux (ne aA),ux (ne aA),ux (nb aA),ux (nb aA),ux (nb aA),uC h]
 | draw h=>rw[two (by decide) h];unfold cO;rw[ux (by decide),uC h,ux (by decide),uC rfl]
 | op1 hw h=>rw[two (by rcases hw with rfl | rfl<;>decide) h.1];unfold cO;rw[uC hw,uC h]
 | op2 h=>rw[two (by decide) h];unfold cO;rw[ux (by decide),uC h,uC rfl]
def Wq {i r:Lc}(h:125∉i):cU (123::(i++125::r))=(qd i,i.length+2):=by rw[VY aD,RJ h]
def CZ {k:Tok}{t r:Lc}(h:Tx k t):cU (t++r)=(.tok k,t.length):=by
 cases h with
 | sign h1 h2 h3=>rw[Ux,we,ux h3,uC h2];rfl
 | @word _ i h=>rw[Ux,ue];show cU (123::(i++125::r))=_;rw[Wq λz=>((VN h).2 _ z).2 rfl,Pt h];simp
def Ab {l:Lc}{r:Res}{ov:Option Lc}{s s':Sx}{m:Lc}(h:Rd ov.isSome s m s'):∀ {a:Nat} {rest:Lc},l.drop a=m++rest->Go l (a+m.length) ov s' r->Go l a ov s r:=by
 generalize e:ov.isSome=o at h
 induction h with
 | nil=>exact λ_ g=>g
 | @cons s s1 s2 k t r' h1 h2 _ ih=>
  intro a rest hd g;have n:=CZ (r:=r'++rest) h2;rw[<-ue,<-hd] at n;have t1:=(sS h2).1;have la:a<l.length:=by have:=congrArg List.length hd;simp only[Ud,ub] at this;lia
  subst e;refine .go la (s':=s1) (ov':=ov) (by rw[n];exact .ok h1) ?_;rw[n];refine ih (rest:=rest) ?_ (by rw[gO,<-ub];exact g);rw[<-HC,hd,ue,gJ]
def Kr {n r:Lc}(h:zx n):cU (xt n++r)=(.over n,(xt n).length):=by
 have e:xt n++r=123::((zS++32::n)++125::r):=by unfold xt;simp
 have n125:125∉zS++32::n:=λz=>by
  rcases uo.mp z with z | z
  ·exact absurd z aA
  ·rcases uw.mp z with z | z
   ·cases z
   ·exact(jD h _ z).2.1 rfl
 rw[e,Wq n125];unfold qd;rw[kQ aA λz=>(jD h 32 z).2.2 rfl];show(cO zS n,_)=_;unfold cO;rw[ux aA,uC h,ux aA,ux aA,uC rfl];unfold xt;simp
def AQ {l pre rest:Lc}{r:Res}{ov:Option Lc}{s:Sx}(h:Pre (oT ov) pre s)(e:l=pre++rest)(g:Go l pre.length ov s r):Go l 0 none ([root],[]) r:=by
 rcases h with⟨e1,h⟩ | ⟨n,q,e1,hn,e2,h⟩
 ·cases ov with
  | none=>exact Ab (ov:=none) h (rest:=rest) (by rw[gm,e]) (by rw[UL];exact g)
  | some _=>cases e1
 ·cases ov with
  | none=>cases e1
  | some n'=>
   obtain rfl:n' = n:=by cases e1;rfl
   clear e1;have ed:l=xt n'++(q++rest):=by rw[e,e2,ue]
   have o:=Kr (r:=q++rest) hn;rw[<-ed] at o;have l0:0<l.length:=by rw[ed];unfold xt;simp
   refine .go l0 (ov':=some n') (s':=([root],[])) (by rw[gm,o];exact .over0 rfl rfl) ?_;rw[gm,o,UL];refine Ab (ov:=some n') h (rest:=rest) (by rw[ed,gJ]) ?_;rw[<-ub,<-e2];exact g
theorem Ks:∀ {l:Lc} {n k:Nat} {d:T},(yF n (L5.signs l))[k]? = some d->∃ c,l[k]? = some c/\d=.tp [.int ((n+k:Nat):Int),.str [c]]
 | [],_,_,_,h=>by simp[L5.signs,yF] at h
 | c::l,n,0,d,h=>by cases h;exact⟨c,rfl,rfl⟩
 | c::l,n,k+1,d,h=>by let⟨c',e1,e2⟩:=Ks (l:=l) (n:=n+1) (k:=k) h;exact⟨c',e1,by rw[e2,show n+1+k=n+(k+1) by omega]⟩
def zc3 {l r:Lc}{c:Nat}(h:∀ c∈l,c∈SG)(hc:c∉SG)(hl:l.length<1000000)(x:X ⟨6,["at"],[.int (l.length:Nat)]⟩ [.non]):ql [.str (l++c::r)] Q X:=by
 unfold ql;refine⟨rfl,?_⟩;refine xy (λk s Z=>Z=[]/\k<=l.length/\∃ y z,s=[.own (.str (l++c::r)),y,z]) ⟨rfl,u4 _,_,_,rfl⟩ ?_ ?_
 ·rintro k d _ _ K hd ⟨rfl,hk,y,z,rfl⟩ hK;let⟨c',e1,rfl⟩:=Ks hd;rw[UL];by_cases hk':k<l.length
  ·rw[UB hk'] at e1;refine qE (show(!decide (c'∈SG))=false by rw[uK (h c' (uR e1))];rfl) ?_;exact hK _ _ ⟨rfl,aB,_,_,rfl⟩
  ·obtain rfl:k=l.length:=aB
   rw[Ua (uj _),U5] at e1;cases e1;refine qc (show(!decide (c∈SG))=true by rw[uv hc];rfl) ?_;refine za (z:=()) (by show cond (iQ (l.length:Int)) (some ()) none=_;rw[Qw ⟨aB,aB⟩];rfl) ?_;exact x
 ·rintro _ _ ⟨rfl,hk,y,z,rfl⟩;exfalso
  have:∀ (l:Lc) (n:Nat),(yF n (L5.signs l)).length=l.length:=λl=>by
   induction l with
   | nil=>exact λ_=>rfl
   | cons _ l ih=>exact λn=>congrArg (· + 1) (ih (n+1))
  rw[this] at hk;simp at hk;lia
abbrev IY:Lc:=om
abbrev IW:Lc:=oG
abbrev Ip:Lc:=oJ
abbrev CO:Lc:=oH
inductive Due where
 | sheet (a:Nat) | twice (n:Lc) | many | sign (a:Nat)
def cW:Due->T
 | .sheet a=>.tp [.str IY,.int a]
 | .twice n=>.tp [.str IW,.str n]
 | .many=>.tp [.str Ip]
 | .sign a=>.tp [.str CO,.int a]
noncomputable def lq:Due->d5
 | .sheet a=>⟨3,["at"],[.int a]⟩
 | .twice n=>⟨4,["name"],[.str n]⟩
 | .many=>⟨5,[],[]⟩
 | .sign a=>⟨6,["at"],[.int a]⟩
def dN (t:T)(u:Due):Prop:=∀ {Q:T->List T->Prop} {X:d5->List T->Prop},X (lq u) [.non]->zQ [t] Q X
def yq {t:T}{u:Due}(h:dN t u)(ht:∀ {s:Sl},iG (.own t::s) 0=some (.own t))(q:Q (cW u) [.non]):zW [t] Q X:=by unfold zW;refine⟨rfl,?_⟩;refine za ht ?_;refine h ?_;cases u<;>exact⟨rfl,q⟩
def zc4 {l r:Lc}{c:Nat}(h:∀ c∈l,c∈SG)(hc:c∉SG)(hl:(l++c::r).length<=2000):dN (.str (l++c::r)) (.sign l.length):=λ{Q X} x=>by unfold zQ;refine⟨rfl,?_⟩;refine qE (uv aB) ?_;exact zc3 h hc (by simp at hl;lia) x
def zc5 {l:Lc}(hl:2000<l.length):dN (.str l) .many:=λ{Q X} x=>by unfold zQ;refine⟨rfl,?_⟩;exact qc (uK aB) x
def EO {l:Lc}{r:Res}{u:Due}(hl:l.length<=2000)(hg:∀ c∈l,c∈SG)(h:Go l 0 none ([root],[]) r)(hu:fV r=some (lq u)):dN (.str l) u:=λ{Q X} x=>
 vI hl hg h (λov us e=>by subst e;cases hu) λe he=>by rw[hu] at he;cases he;exact x
def Pr {i:Lc}(h:32∉i):qd i=eh i:=by unfold qd;rw[Kh h];rfl
def Pq {a b:Lc}(ha:32∉a)(hb:32∉b):qd (a++32::b)=cO a b:=by unfold qd;rw[kQ ha hb];rfl
def zc6 {a b c:Lc}(ha:32∉a):qd (a++32::(b++32::c))=.bad:=by
 unfold qd;rcases kT (a++32::(b++32::c)) with⟨_,h⟩ | ⟨x,y,_,e2,hx,hy⟩ | ⟨x,y,z,r,e⟩
 ·exact absurd aD h
 ·let⟨_,e3⟩:=Wj ha hx e2;rw[<-e3] at hy;exact absurd aD hy
 ·rw[e];rfl
def eB (r:Lc):Prop:=125∈r->123∈bH r
def Ws {x r:Lc}(hx:125∉x)(h:eB r):(cU (123::(x++r))).1=.bad:=by
 by_cases z:125∈x++r
 ·rw[VY z];refine zc1 ?_;have zr:125∈r:=(uo.mp z).resolve_left hx
  have:∀ x:Lc,125∉x->123∈bH (x++r):=λx=>by
   induction x with
   | nil=>exact λ_=>h zr
   | cons c x ih=>intro hc;have e:c≠125:=λz=>hc (z ▸ ug);unfold bH;rw[Ux,UP (by simp[e])];exact uk _ (ih λz=>hc (uk _ z))
  exact this x hx
 ·rw[we,ux aA,ux aD,ux z]
def eB.app {a r:Lc}(ha:125∉a\/a.head? = some 123)(h:eB r):eB (a++r):=λz=>by
 rcases ha with ha | ha
 ·have zr:125∈r:=(uo.mp z).resolve_left ha
  have:∀ x:Lc,125∉x->123∈bH (x++r):=λx=>by
   induction x with
   | nil=>exact λ_=>h zr
   | cons c x ih=>intro hc;have e:c≠125:=λz=>hc (z ▸ ug);unfold bH;rw[Ux,UP (by simp[e])];exact uk _ (ih λz=>hc (uk _ z))
  exact this a ha
 ·cases a with
  | nil=>cases ha
  | cons c a=>cases ha;unfold bH;rw[Ux,UP (by decide)];exact ug
def eB.nil:eB []:=λz=>by cases z
def fP:List Lc:=[[],[32],oK,[97,32],[97,32,98,32,99],[97,32,98],zO,bE,ze,wm,zS++[32,65],zS++oN,zS++[32,97,32,98],zS,zO++[32,32,97],[97,98,99,100,101,102,103,104,105],[97,66],[97,49],[40,40],wm++[32,65],ze++[32,97,49],bE++32::zX,zO++32::zS,bC++32::bC,zX++oK,ji++oK,XJ++oK,wm++[32,97,32,98],ze++oN,[40,32],bC++[32]]
def i7:List Lc:=fP++qV.map (λw=>zO++32::w)++qV.map λw=>bE++32::w
def EN:∀ i∈i7,qd i=.bad/\125∉i/\∀ c∈i,c∈SG:=by
 have n1:∀ {i:Lc},32∉i->eh i=.bad->qd i=.bad:=λh k=>(Pr h).trans k;have n2:∀ (a b:Lc),32∉a->32∉b->cO a b=.bad->qd (a++32::b)=.bad:=λa b ha hb k=>(Pq ha hb).trans k;have n3:∀ (a b c:Lc),32∉a->qd (a++32::(b++32::c))=.bad:=λa b c ha=>zc6 ha;have ma:∀ i∈fP,qd i=.bad:=by unfold fP;simp only[gn];refine⟨n1 aA rfl,n2 [] [] aA aA rfl,n2 [] [97] aA aA rfl,n2 [97] [] aA aA rfl,n3 [97] [98] [99] aA,n2 [97] [98] aA aA rfl,n1 aA rfl,n1 aA rfl,n1 aA rfl,n1 aA rfl,n2 zS [65] aA aA rfl,n2 zS _ aA aA rfl,n3 zS [97] [98] aA,n1 aA rfl,n3 zO [] [97] aA,n1 aA rfl,n1 aA rfl,n1 aA rfl,n1 aA rfl,n2 wm [65] aA aA rfl,n2 ze [97,49] aA aA rfl,n2 bE zX aA aA rfl,n2 zO zS aA aA rfl,n2 bC bC aA aA rfl,n2 zX [97] aA aA rfl,n2 ji [97] aA aA rfl,n2 XJ [97] aA aA rfl,n3 wm [97] [98] aA,n2 ze _ aA aA rfl,n2 [40] [] aA aA rfl,n2 bC [] aA aA rfl,nofun⟩
 have mb:∀ a,a=zO\/a=bE->∀ w∈qV,qd (a++32::w)=.bad:=λa ha w hw=>by refine n2 a w (by rcases ha with rfl | rfl<;>decide) ((by decide:∀ w∈qV,32∉w) w hw) ?_;unfold cO;rw[uC ha,ux λz=>z.2 hw]
 have main:∀ i∈i7,qd i=.bad:=λi hi=>by
  rcases uo.mp hi with z | z
  ·rcases uo.mp z with z | z
   ·exact ma i z
   ·let⟨w,hw,rfl⟩:=u9.mp z;exact mb _ (.inl rfl) w hw
  ·let⟨w,hw,rfl⟩:=u9.mp z;exact mb _ (.inr rfl) w hw
 exact λi hi=>⟨main i hi,(by decide:∀ i∈i7,125∉i/\∀ c∈i,c∈SG) i hi⟩
def iO (f:Fr):Lc:=if f.w=bE then(if f.ps=[] then bE else zX) else f.w
def bQ (st:List Fr):List Lc:=(st.dropLast.map iO).reverse
def Jv (st:List Fr):(bQ st).length=st.length - 1:=by unfold bQ;rw[GX,ud,List.length_dropLast]
def wg (f g:Fr)(st:List Fr):bQ (f::g::st)=bQ (g::st)++[iO f]:=by unfold bQ;rw[List.dropLast_cons₂,uA,gh]
theorem EM:∀ {st:List Fr},eo st->2<=st.length->ze∈bQ st
 | [],_,h=>by simp at h
 | [_],_,h=>by simp at h
 | [f,b],h,_=>by
  rw[wg];have:iO f=ze:=by unfold iO;rw[h.1];rfl
  rw[this];simp
 | f::g::k::st,h,_=>by rw[wg];exact uW _ (EM (st:=g::k::st) h (by simp))
end
section
variable {Q:T->List T->Prop} {X:d5->List T->Prop} {ov:Bool}
inductive nU (ov:Bool):Sx->Lc->Sx->Prop where
 | tk {s s':Sx} {t:Lc}:Tk ov s t s'->nU ov s t s'
 | over {s:Sx} {n:Lc}:zx n->nU ov s (xt n) s
inductive eA (ov:Bool):Sx->List Lc->Sx->Prop where
 | nil {s:Sx}:eA ov s [] s
 | cons {s s1 s2:Sx} {t:Lc} {ts:List Lc}:nU ov s t s1->eA ov s1 ts s2->eA ov s (t::ts) s2
def Jw (f:Fr)(p:T)(st:List Fr):bQ (f.put p::st)=bQ (f::st):=by
 cases st with
 | nil=>rfl
 | cons g st=>rw[wg,wg];rfl
def CY {i:Lc}:aO (123::(i++[125])) (some 1) (some (-1))=i:=by
 unfold aO;have e1:HT.aR (123::(i++[125])).length 0 (some 1)=1:=by have:=HT.dm (123::(i++[125])).length 0 1;rw[show((1:Nat):Int)=1 from rfl] at this;rw[this];simp
 have e2:HT.aR (123::(i++[125])).length (123::(i++[125])).length (some (-1))=i.length+1:=by unfold HT.aR;simp;lia
 rw[e1,e2];simp
def Sb (x:Lc):∃ w ws,splits x [32]=w::ws:=by
 let⟨ps,e,_,_,h⟩:=vA x 32;cases ps with
 | nil=>exact absurd rfl h
 | cons w ws=>exact⟨w,ws,e⟩
def AO {a b w:Lc}{ws:List Lc}(ha:32∉a)(hb:zx b)(e:splits (a++32::b) [32]=w::ws):w=a:=by rw[kQ ha λz=>(jD hb 32 z).2.2 rfl] at e;cases e;rfl
def Sa {s s':Sx}{t:Lc}(h:nU ov s t s')(hb:ig s.1):ig s'.1/\∀ {w:Lc} {ws:List Lc},splits (aO t (some 1) (some (-1))) [32]=w::ws -> (bQ s'.1=bQ s.1/\t≠br zX/\t≠br bC/\¬ (aO t none (some 1)=[123]/\32∈t/\w∈[zO,bE,ze])) \/ (bQ s'.1=bQ s.1++[w]/\t≠br zX/\t≠br bC/\aO t none (some 1)=[123]/\32∈t/\w∈[zO,bE,ze]) \/ (t=br zX/\∃ p x,bQ s.1=p++[x]/\bQ s'.1=p++[zX])\/(t=br bC/\∃ x,bQ s.1=bQ s'.1++[x]):=by
 have c1:∀ i:Lc,aO (123::i) none (some 1)=[123]:=λi=>by have:=QB (t:=123::i) (k:=1);rw[show((1:Nat):Int)=1 from rfl] at this;rw[this];rfl
 have no32:∀ {i:Lc},32∉i->32∉123::(i++[125]):=λh z=>by
  simp only[uw,uo,Gy,or_false] at z;rcases z with z | z | z
  ·cases z
  ·exact h z
  ·cases z
 have d4:∀ {i w:Lc},(123::(i++[125]):Lc)=br w->i=w:=λe=>by unfold br at e;simpa using e
 cases h with
 | @over n hn=>
  refine⟨hb,λ{w ws} e=>.inl ⟨rfl,λz=>?_,λz=>?_,λz=>?_⟩⟩
  ·have:=d4 (i:=zS++32::n) z;exact absurd (this ▸ (by simp:32∈zS++32::n)) aA
  ·have:=d4 (i:=zS++32::n) z;exact absurd (this ▸ (by simp:32∈zS++32::n)) aA
  ·unfold xt at e;rw[CY] at e;have:=AO aA hn e;subst this;exact absurd z.2.2 aA
 | tk h=>
  cases h with
  | nil=>exact⟨hb,λ_=>.inl ⟨rfl,by decide,by decide,λz=>absurd z.1 (by decide)⟩⟩
  | @sg f st nm t h1 h2 h3 h4=>
   have hb':ig (f.put (cH t)::st):=by
    let⟨c,e⟩:=hb;cases st with
    | nil=>cases e;exact⟨_,rfl⟩
    | cons g st=>exact⟨c,by rw[U9 (by simp)] at e |-;exact e⟩
   refine⟨hb',λ{w ws} _=>.inl ⟨Jw _ _ _,λz=>?_,λz=>?_,λz=>?_⟩⟩
   ·exact(h4 123 (z ▸ ug)).2.1 rfl
   ·exact(h4 123 (z ▸ ug)).2.1 rfl
   ·cases t with
    | nil=>exact h2 rfl
    | cons c r=>
     have e:=QB (t:=c::r) (k:=1);rw[show((1:Nat):Int)=1 from rfl] at e;rw[e] at z;have e2:c=123:=by simpa using z.1
     exact(h4 c ug).2.1 e2
  | @st _ _ k i hs hi=>
   refine⟨hs.bot hb,λ{w ws} e=>?_⟩;rw[CY] at e;have nb:∀ {n:Lc},zx n->32∉n:=λhn z=>(jD hn 32 z).2.2 rfl;cases hs with
   | @put f st nm k hp ho=>
    have one:32∉i->i≠zX->i≠bC->bQ (f.put (.tp k.xs)::st)=bQ (f::st)/\123::(i++[125])≠br zX/\123::(i++[125])≠br bC/\¬ (aO (123::(i++[125])) none (some 1)=[123]/\32∈123::(i++[125])/\w∈[zO,bE,ze]):=λa b c=>⟨Jw _ _ _,λz=>b (d4 z),λz=>c (d4 z),λz=>no32 a z.2.1⟩
    cases hi with
    | lb=>exact .inl (one (by decide) (by decide) (by decide))
    | rb=>exact .inl (one (by decide) (by decide) (by decide))
    | hole hn=>exact .inl (one (nb hn.1) (λz=>hn.2 (z ▸ (by decide))) (λz=>hn.2 (z ▸ (by decide))))
    | @draw n hn=>
     refine .inl ⟨Jw _ _ _,λz=>?_,λz=>?_,λz=>?_⟩
     ·exact absurd (d4 z ▸ (by simp:32∈wm++32::n)) aA
     ·exact absurd (d4 z ▸ (by simp:32∈wm++32::n)) aA
     ·have:=AO aA hn e;subst this;exact absurd z.2.2 aA
    | elder=>exact .inl (one (by decide) (by decide) (by decide))
    | els=>cases hp
    | fin=>cases hp
    | op1 _ _=>cases hp
    | op2 _=>cases hp
   | @op st nm w' n h1 h2 h3 h4 h5=>
    have key:∀ {n:Lc},zx n->32∉w'->bQ (⟨w',n,[],[]⟩::st)=bQ st++[w']->i=w'++32::n->w'∈[zO,bE,ze]->bQ (⟨w',n,[],[]⟩::st)=bQ st++[w]/\123::(i++[125])≠br zX/\123::(i++[125])≠br bC/\aO (123::(i++[125])) none (some 1)=[123]/\32∈123::(i++[125])/\w∈[zO,bE,ze]:=λ{n} hn hw hd hi hm=>by
     subst hi;have:=AO hw hn e;subst this;refine⟨hd,λz=>?_,λz=>?_,c1 _,aD,hm⟩
     ·exact absurd (d4 z ▸ (by simp:32∈w++32::n)) aA
     ·exact absurd (d4 z ▸ (by simp:32∈w++32::n)) aA
    have wd:bQ (⟨w',n,[],[]⟩::st)=bQ st++[w']:=by
     cases st with
     | nil=>exact absurd rfl h2
     | cons g st=>rw[wg];congr 2;rcases h3 with rfl | rfl | rfl<;>rfl
    cases hi with
    | op1 hw hn=>
     refine .inr (.inl (key hn.1 ?_ wd rfl ?_))
     ·rcases hw with rfl | rfl<;>decide
     ·rcases hw with rfl | rfl<;>decide
    | op2 hn=>exact .inr (.inl (key hn (by decide) wd rfl (by decide)))
   | @els f st nm h1 h2 h3=>
    cases hi;refine .inr (.inr (.inl ⟨rfl,?_⟩));cases st with
    | nil=>let⟨c,e⟩:=hb;cases e;cases h1
    | cons g st=>refine⟨bQ (g::st),iO f,wg _ _ _,?_⟩;rw[wg];congr 2;unfold iO;show(if f.w=bE then _ else _)=_;rw[uC h1];rfl
   | @fin f g st nm=>cases hi;refine .inr (.inr (.inr ⟨rfl,iO f,?_⟩));show bQ (f::g::st)=bQ (g.put f.whole::st)++_;rw[Jw,wg]
def Kt {t:Lc}:mL [32] t=true↔32∈t:=by show decide (32∈t)=true↔_;exact G6
def d7 {p:List Lc}{u v:Lc}:fm (ol ((p++[u]).map .str)) (.int (-1)) (.str v)=some (ol ((p++[v]).map .str)):=by show(eI ((p++[u]).map T.str).length (-1)).bind (λj=>(putN ((p++[u]).map T.str) j (T.str v)).bind λys=>some (T.nd true .ls ys))=_;rw[ud,ub];show(eI (p.length+1) (-1)).bind _=_;rw[J1];show(putN _ _ _).bind _=_;rw[kG (by rw[ud,ub];exact gp _)];show some _=_;congr 2;rw[uF,uF,gK _ _ (by rw[ud];exact uj _),ud,U5];rfl
def Qc {toks:List Lc}{s sE:Sx}(h:eA ov s toks sE)(hb:ig s.1)(h0:bQ s.1=[])(hl:∀ t∈toks,t.length<=16)(hn:toks.length<=1000)(q:Q (ol ((bQ sE.1).map .str)) [.non]):qJ [fl (toks.map .str)] Q X:=by
 unfold qJ;refine⟨rfl,?_⟩
 have sh:aI (toks.map T.str)=true:=by
  clear h hl hn q
  induction toks with
  | nil=>rfl
  | cons t ts ih=>exact ih
 refine za (kL sh) ?_;refine xy (λj s Z=>Z=[]/\∃ (z:Sx) (x y:Slot),s=[.own (fl (toks.map .str)),.own (ol ((bQ z.1).map .str)),x,y]/\eA ov z (toks.drop j) sE/\ig z.1/\(bQ z.1).length<=j/\((x=.no/\y=.no)\/∃ a b,x=.own a/\y=.own b)) ⟨rfl,s,.no,.no,by rw[h0];rfl,h,hb,by rw[h0];exact uj _,.inl ⟨rfl,rfl⟩⟩ ?_ ?_
 ·rintro j d _ _ K hd ⟨rfl,z,x,y,rfl,hz,hb,hq,hx⟩ hK;have hj:j<toks.length:=by let⟨h1,_⟩:=uY.mp hd;rw[ud] at h1;exact h1
  obtain⟨t,ht,rfl⟩:∃ t,toks[j]? = some t/\d=.str t:=by rw[uE] at hd;let⟨t,h1,h2⟩:=uM.mp hd;exact⟨t,h1,h2.symm⟩
  have hdr:toks.drop j=t::toks.drop (j+1):=by rw[UR hj];congr 1;rw[uz hj] at ht;exact uQ ht
  rw[hdr] at hz
  obtain⟨z',hk,hz⟩:∃ z',nU ov z t z'/\eA ov z' (toks.drop (j+1)) sE:=by
   cases hz with
   | cons a b=>exact⟨_,a,b⟩
  let⟨hb',hw⟩:=Sa hk hb;have tl:=hl t (uR ht);let⟨w,ws,hs⟩:=Sb (aO t (some 1) (some (-1)));have hw:=hw hs;have cl:(aO t (some 1) (some (-1))).length<=16:=uZ (Jt _ _ _) tl;have me:mJ .split (aO t (some 1) (some (-1))) [.str [32]]=some (.nd true .ls (T.str w::ws.map .str)):=by show(if ([32]:Lc)≠[]/\(aO t (some 1) (some (-1))).length<=1000000 then some (T.nd true .ls ((splits (aO t (some 1) (some (-1))) [32]).map .str)) else none)=_;rw[uC ⟨aA,aB⟩,hs];rfl
  have hq':(bQ z'.1).length<=j+1:=by
   rcases hw with⟨e1,_⟩ | ⟨e1,_⟩ | ⟨_,p,u,e1,e2⟩ | ⟨_,u,e1⟩
   ·rw[e1];lia
   ·rw[e1,ub];exact gM hq
   ·rw[e1,ub] at hq;rw[e2,ub];exact Nat.le_succ_of_le hq
   ·rw[e1,ub] at hq;lia
  have done:∀ {l:List Lc} {x y:Slot},l=bQ z'.1->((x=.no/\y=.no)\/∃ a b,x=.own a/\y=.own b)->K [.own (fl (toks.map .str)),.own (ol (l.map .str)),x,y] []:=λ{l x y} e hy=>hK _ _ ⟨rfl,z',x,y,by rw[e],hz,hb',hq',hy⟩;have body:∀ {x y:Slot},((x=.no/\y=.no)\/∃ a b,x=.own a/\y=.own b)->True:=λ_=>trivial;rcases hx with⟨rfl,rfl⟩ | ⟨a,b,rfl,rfl⟩
  all_goals
   refine za me ?_;refine za (Wl aA rfl) ?_;have fin:∀ {l:List Lc},l=bQ z'.1->K [.own (fl (toks.map .str)),.own (ol (l.map .str)),.own (.str t),.own (.str w)] []:=λe=>done e (.inr ⟨_,_,rfl,rfl⟩);rcases hw with⟨e1,n1,n2,n3⟩ | ⟨e1,n1,n2,n3,n4,n5⟩ | ⟨e1,p,u,n1,n2⟩ | ⟨e1,u,n1⟩
   ·have cont:K [.own (fl (toks.map .str)),.own (ol ((bQ z.1).map .str)),.own (.str t),.own (.str w)] []:=fin e1.symm;refine zh (λh1=>?_) λh1=>?_
    ·refine zh (λh2=>?_) λh2=>?_
     ·refine zh (λh3=>?_) λh3=>?_
      ·refine absurd ⟨uq (p:=aO t none (some 1)=[123]) h1,Kt.mp h2,?_⟩ n3;exact uq ((kR (n:=w) (ws:=[zO,bE,ze])).symm.trans h3)
      ·exact zh (λh=>absurd (uq (p:=t=br zX) h) n1) λ_=>zh (λh=>absurd (uq (p:=t=br bC) h) n2) λ_=>cont
     ·exact zh (λh=>absurd (uq (p:=t=br zX) h) n1) λ_=>zh (λh=>absurd (uq (p:=t=br bC) h) n2) λ_=>cont
    ·exact zh (λh=>absurd (uq (p:=t=br zX) h) n1) λ_=>zh (λh=>absurd (uq (p:=t=br bC) h) n2) λ_=>cont
   ·have g3:iz (.str (S w)) ([zO,bE,ze].map λw=>.str (S w))=true:=kR.trans (uK n5);refine qc (uK n3) (qc (Kt.mpr n4) (qc g3 ?_));refine za (qW rfl (jn (by rw[ud];lia)) rfl) ?_;refine zh (λh=>absurd (uq (p:=t=br zX) h) n1) λ_=>zh (λh=>absurd (uq (p:=t=br bC) h) n2) λ_=>?_;have:=fin e1.symm;rw[uF] at this;exact this
   ·subst e1;rw[n1];refine za (Vs rfl d7 rfl) ?_;exact fin n2.symm
   ·subst e1;rw[n1,uF];refine za (qW rfl J2 rfl) ?_;exact fin rfl
 ·rintro _ _ ⟨rfl,z,x,y,rfl,hz,hb,hq,hx⟩;rw[ud,Hi] at hz;cases hz;exact q
def mO:Lc:=oj
def wj (toks:List Lc):List Lc:=(toks.filter λt=>decide (aO t none (some 7)=mO)).map λt=>aO t (some 7) (some (-1))
theorem Ku:∀ (ts:List Lc),aI (ts.map T.str)=true
 | []=>rfl
 | _::ts=>Ku ts
def Qd {toks:List Lc}(hn:toks.length<=1000)(q:Q (ol ((wj toks).map .str)) [.non]):jl [fl (toks.map .str)] Q X:=by
 unfold jl;refine⟨rfl,?_⟩;refine za (kL (Ku toks)) ?_;refine Qb (c:=λt=>match t with | .str w=>decide (aO w none (some 7)=mO) | _=>false) (g:=λt=>match t with | .str w=>.str (aO w (some 7) (some (-1))) | t=>t) rfl rfl rfl rfl (λt ht K h=>?_) (λt ht _ K h=>?_) (by simp;lia) ?_
 ·let⟨w,_,rfl⟩:=u9.mp ht;exact h
 ·let⟨w,_,rfl⟩:=u9.mp ht;exact h
 ·rw[UH];have e:∀ ts:List Lc,((ts.map T.str).filter λt=>match t with | .str w=>decide (aO w none (some 7)=mO) | _=>false).map (λt=>match t with | .str w=>.str (aO w (some 7) (some (-1))) | t=>t)=(wj ts).map T.str:=λts=>by unfold wj;rw[Ht,Uw,Uw];rfl
  rw[e];exact q
def IV {t:Lc}(h:t.take 7≠mO):wj [t]=[]:=by unfold wj;have e:=QB (t:=t) (k:=7);rw[show((7:Nat):Int)=7 from rfl] at e;rw[List.filter_cons,e,uv h];rfl
def Pp {n:Lc}:aO (123::((ze++32::n)++[125])) (some 7) (some (-1))=n:=by
 unfold aO;have el:(123::((ze++32::n)++[125])).length=n.length+8:=by simp only[uc,ub,ur];have:ze.length=5:=rfl;lia
 have e1:HT.aR (123::((ze++32::n)++[125])).length 0 (some 7)=7:=by have:=HT.dm (123::((ze++32::n)++[125])).length 0 7;rw[show((7:Nat):Int)=7 from rfl] at this;rw[this,el];lia
 have e2:HT.aR (123::((ze++32::n)++[125])).length (123::((ze++32::n)++[125])).length (some (-1))=n.length+7:=by rw[el];unfold HT.aR;simp;lia
 rw[e1,e2];show List.take _ (n++[125])=n;simp
def Po {n:Lc}:wj [123::((ze++32::n)++[125])]=[n]:=by unfold wj;have e:=QB (t:=123::((ze++32::n)++[125])) (k:=7);rw[show((7:Nat):Int)=7 from rfl] at e;rw[List.filter_cons,e,uK (show List.take 7 (123::((ze++32::n)++[125]))=mO from rfl)];show [aO (123::((ze++32::n)++[125])) (some 7) (some (-1))]=_;rw[Pp]
def R9 {s s':Sx}{t:Lc}(h:nU ov s t s'):s'.2=s.2++wj [t]:=by
 have no:∀ {nm:List Lc} {t:Lc},t.take 7≠mO->nm=nm++wj [t]:=λh=>by rw[IV h,uH]
 have snd:∀ {t:Lc} {c:Nat},t[1]? = some c->c≠98->t.take 7≠mO:=λ{t c} h hc z=>by have:=congrArg (λl:Lc=>l[1]?) z;have e:(t.take 7)[1]? = t[1]?:=HH aA;have this:(t.take 7)[1]? = some 98:=this;rw[e,h] at this;exact hc (uQ this)
 cases h with
 | @over n hn=>exact no (snd (c:=111) rfl (by decide))
 | tk h=>
  cases h with
  | nil=>exact no (by decide)
  | @sg f st nm t h1 h2 h3 h4=>
   refine no λz=>?_;have:(123:Nat)∈t.take 7:=by rw[z];decide
   exact(h4 123 (UU this)).2.1 rfl
  | @st _ _ k i hs hi=>
   cases hs with
   | @put f st nm k hp ho=>
    cases hi with
    | lb=>exact no (by decide)
    | rb=>exact no (by decide)
    | hole hn=>
     refine no λz=>?_;have:(32:Nat)∈mO:=aA
     rw[<-z] at this;have:=UU this;simp only[uw,uo,Gy,or_false] at this;rcases this with z | z | z
     ·cases z
     ·exact(jD hn.1 32 z).2.2 rfl
     ·cases z
    | draw hn=>exact no (snd (c:=100) rfl (by decide))
    | elder=>exact no (by decide)
    | els=>cases hp
    | fin=>cases hp
    | op1 _ _=>cases hp
    | op2 _=>cases hp
   | @op st nm w' n h1 h2 h3 h4 h5=>
    cases hi with
    | op1 hw hn=>
     rcases hw with rfl | rfl
     ·exact no (snd (c:=101) rfl aA)
     ·exact no (snd (c:=105) rfl aA)
    | op2 hn=>rw[Po];rfl
   | els _ _ _=>cases hi;exact no (by decide)
   | fin=>cases hi;exact no (by decide)
def RZ (t:Lc)(ts:List Lc):wj (t::ts)=wj [t]++wj ts:=by unfold wj;rw[<-uF,<-List.filter_append];rfl
def XQ {s s':Sx}{ts:List Lc}(h:eA ov s ts s'):s'.2=s.2++wj ts:=by
 induction h with
 | nil=>exact(uH _).symm
 | cons a b ih=>rw[ih,R9 a,ue,<-RZ]
def fX (o:Lc):Prop:=o∈[[125],[123],oM,123::(bE++oK)]\/∃ i∈i7,o=br i
instance (o:Lc):Decidable (fX o):=inferInstanceAs (Decidable (_\/_))
def zaP {n:Int}(h0:0<=n)(q:∀ o,fX o->Q (.str o) [.non]):vd [.int n] Q X:=by
 unfold vd;refine⟨rfl,?_⟩;have m0:=uV n (b:=51) aA;have m1:=uO n (b:=51) aA
 have pick:∀ {xs:List T},xs.length=51->(∀ x∈xs,∃ o,fX o/\x=.str o)->∃ o,fX o/\xs[(n % 51).toNat]? = some (.str o):=λ{xs} hl hx=>by
  have hj:(n % 51).toNat<xs.length:=aB
  let⟨o,ho,e⟩:=hx _ (U2 hj);exact⟨o,ho,by rw[uz hj,e]⟩
 have lw:∀ w∈qV,w.length<=8:=aA
 refine YX (g:=λt=>match t with | .str w=>.str (br (zO++32::w)) | t=>t) rfl rfl rfl rfl (λa _ K h=>h) (λx hx K' hK'=>?_) aA ?_
 ·have hx:x∈qV.map T.str:=hx;let⟨w,hw,rfl⟩:=u9.mp hx;have:=lw w hw;refine za (zD (by simp only[uc,ur];lia)) ?_;refine za (zD (by simp only[ub,uc,ur];lia)) ?_;exact hK'
 refine YX (g:=λt=>match t with | .str w=>.str (br (bE++32::w)) | t=>t) rfl rfl rfl rfl (λa _ K h=>h) (λx hx K' hK'=>?_) aA ?_
 ·have hx:x∈qV.map T.str:=hx;let⟨w,hw,rfl⟩:=u9.mp hx;have:=lw w hw;refine za (zD (by simp only[uc,ur];lia)) ?_;refine za (zD (by simp only[ub,uc,ur];lia)) ?_;exact hK'
 let⟨o,ho,e⟩:=pick (xs:=(([[125],[123],oM]++(fP.take 29).map br++[123::(bE++oK)]++(fP.drop 29).map br++qV.map (λw=>br (zO++32::w))++qV.map (λw=>br (bE++32::w))).map T.str)) aA (λx hx=>by
  let⟨o,h,rfl⟩:=u9.mp hx
  exact⟨o,(by decide:∀ o∈([[125],[123],oM]++(fP.take 29).map br++[123::(bE++oK)]++(fP.drop 29).map br++qV.map (λw=>br (zO++32::w))++qV.map (λw=>br (bE++32::w))),fX o) o h,rfl⟩)
 refine za (Wl m0 e) ?_;exact q o ho
end
section
variable {ov:Option Lc} {s:Sx} {a:Nat} {b:Bool}
def Wr (b:Bool)(ov:Option Lc)(s:Sx)(a:Nat)(w:Lc)(u:Due):Prop:=∀ {l rest:Lc},l.drop a=w++rest->(b=false->eB rest)->∃ r,Go l a ov s r/\fV r=some (lq u)
def yr {l w r:Lc}(h:l.drop a=w++r)(hw:w≠[]):a<l.length:=by
 by_cases z:a<l.length
 ·exact z
 ·rw[List.drop_eq_nil_of_le aB] at h;cases w with
  | nil=>exact absurd rfl hw
  | cons _ _=>cases h
def Pn (h:a≠0){n:Lc}(hn:zx n):Wr b ov s a (xt n) (.sheet a):=λ{l rest} hd _=>
 ⟨.sheet a,.stop (yr hd (by unfold xt;simp)) (by rw[hd,Kr hn];exact .overN h),rfl⟩
def IU {o:Lc}(h:fX o)(hb:b=true->o.getLast? = some 125):Wr b ov s a o (.sheet a):=λ{l rest} hd hs=>by
 have key:o≠[]->(cU (o++rest)).1=.bad->∃ r,Go l a ov s r/\fV r=some (lq (.sheet a)):=λh1 h2=>⟨.sheet a,.stop (yr hd h1) (by rw[hd,h2];exact .bad),rfl⟩
 rcases h with h | ⟨i,hi,rfl⟩
 ·simp only[uw,Gy,or_false] at h;rcases h with rfl | rfl | rfl | rfl
  ·exact key aD (by rw[Ux,we,uC rfl])
  ·exact key aD (Ws (x:=[]) aD (hs (by cases b;rfl;exact absurd (hb rfl) aA)))
  ·exact key aD (Ws (x:=[97,98]) aA (hs (by cases b;rfl;exact absurd (hb rfl) aA)))
  ·exact key aD (Ws (x:=bE++oK) aA (hs (by cases b;rfl;exact absurd (hb rfl) aA)))
 ·let⟨h1,h2,_⟩:=EN i hi;refine key (by unfold br;simp) ?_;have e:br i++rest=123::(i++125::rest):=by unfold br;simp
  rw[e,Wq h2,h1]
def AN {k:Tok}{i r:Lc}(h:eJ k i):cU (br i++r)=(.tok k,(br i).length):=CZ (.word h)
def yt {k:Tok}{i:Lc}{r:Res}{u:Due}(h:eJ k i)(hx:fW ov s a (.tok k) (.inl r))(hu:fV r=some (lq u)):Wr b ov s a (br i) u:=λ{l rest} hd _=>
 ⟨r,.stop (yr hd (by unfold br;simp)) (by rw[hd,AN h];exact hx),hu⟩
def Kv {k:Tok}{i w:Lc}{s':Sx}{u:Due}(h:eJ k i)(hx:fF ov.isSome s k s')(hw:Wr b ov s' (a+(br i).length) w u):Wr b ov s a (br i++w) u:=λ{l rest} hd hs=>by rw[ue] at hd;let⟨r,g,e⟩:=hw (l:=l) (rest:=rest) (by rw[<-HC,hd,gJ]) hs;refine⟨r,.go (yr hd (by unfold br;simp)) (s':=s') (ov':=ov) (by rw[hd,AN h];exact .ok hx) ?_,e⟩;rw[hd,AN h];exact g
def Kw {n:Lc}(hn:zx n)(h:n∈s.2):Wr b ov s a (br (ze++32::n)) (.twice n):=yt (.op2 hn) (.twice h) rfl
def IT (h:s.1.length=1):Wr b ov s a (br bC) (.sheet a):=by
 cases ov with
 | none=>exact yt .fin (.fin h rfl) rfl
 | some n=>exact yt .fin (.out rfl h (by decide) (by decide)) rfl
def IS (h:ov=none\/s.1.length=1):Wr b ov s a (br ji) (.sheet a):=by
 cases ov with
 | none=>exact yt .elder (.eld rfl) rfl
 | some n=>exact yt .elder (.out rfl (h.resolve_left nofun) (by decide) (by decide)) rfl
def AM {f:Fr}{st:List Fr}{nm:List Lc}(h:¬ (f.w=bE/\f.ps=[])):Wr b ov (f::st,nm) a (br zX) (.sheet a):=by
 by_cases z:ov.isSome=true/\st=[]
 ·exact yt .els (.out z.1 (by rw[z.2];rfl) aA aA) rfl
 ·exact yt .els (.els rfl h λy w=>z ⟨y,w⟩) rfl
def Pm {f:Fr}{st:List Fr}{nm:List Lc}(h:f.w=bE)(h2:f.ps=[])(h3:st≠[]):Wr b ov (f::st,nm) a (br zX++br zX) (.sheet (a+6)):=
 Kv .els (.els h h2 λ_=>h3) (AM λz=>by cases z.2)
def lZ:zx [97]:=⟨aA,aA,aA⟩
def CN:jw [97]:=⟨lZ,aA⟩
def zc7 (h0:s.1≠[])(h1:s.1.length<=12)(h2:[97]∉s.2):Wr b ov s a (br (ze++32::[97])++(br bC++br (ze++32::[97]))) (.twice [97]):=by
 let⟨st,nm⟩:=s;cases st with
 | nil=>exact absurd rfl h0
 | cons g st=>refine Kv (.op2 lZ) (.op h1 h0 (.inr (.inr rfl)) (λ_ _=>rfl) λ_=>h2) ?_;refine Kv .fin .fin ?_;refine Kw lZ ?_;show [97]∈(if ze=ze then nm++[[97]] else nm);rw[uC rfl];simp
def dY:Nat->Lc
 | 0=>[]
 | k+1=>br (zO++32::[97])++dY k
theorem Kx:∀ {k:Nat} {s:Sx} {a:Nat},2<=s.1.length->s.1.length+k=13->Wr b ov s a (dY (k+1)) .many
 | 0,s,a,h2,h=>by rw[show dY (0+1)=br (zO++32::[97]) from uH _];exact yt (.op1 (.inl rfl) CN) (.many (by omega) (λz=>absurd z (by decide)) (.inl rfl)) rfl
 | k+1,(st,nm),a,h2,h=>by have h2:2<=st.length:=h2;have h:st.length+(k+1)=13:=h;refine Kv (w:=dY (k+1)) (.op1 (.inl rfl) CN) (.op (by omega) (by intro z;subst z;simp at h2) (.inl rfl) (λ_ z=>by omega) λz=>absurd z (by decide)) ?_;exact Kx (k:=k) (by simp only[uc];omega) (by simp only[uc];omega)
def Pk {n:Lc}(hn:zx n)(h0:s.1≠[])(h1:s.1.length<=13)(h2:n∉s.2):Wr b ov s a (br (ze++32::n)++dY (13 - s.1.length)) .many:=by
 let⟨st,nm⟩:=s;by_cases z:st.length=13
 ·rw[show(st,nm).1.length=13 from z,show dY (13 - 13)=[] from rfl,uH];exact yt (.op2 hn) (.many (by rw[z];decide) (λ_=>h2) (.inr (.inr rfl))) rfl
 ·have h1:st.length<=13:=h1;have l0:1<=st.length:=U1.mpr h0;obtain⟨k,hk⟩:∃ k,13 - st.length=k+1:=⟨12 - st.length,aB⟩
  have h12:st.length<=12:=aB
  rw[show 13 - (st,nm).1.length=k+1 from hk];refine Kv (.op2 hn) (.op h12 h0 (.inr (.inr rfl)) (λ_ _=>rfl) λ_=>h2) ?_;exact Kx (by simp only[uc];lia) (by simp only[uc];lia)
end
section
variable {ov:Bool}
def aU (ov:Bool):List Lc:=if ov=true then [xt [117]] else []
def mG (ov:Bool):Option Lc:=if ov=true then some [117] else none
def IQ:(mG ov).isSome=ov:=by cases ov<;>rfl
def m9:zx [117]:=⟨aA,aA,aA⟩
def Tks.toO {s s':Sx}{ts:List Lc}(h:Tks ov s ts s'):eA ov s ts s':=by
 induction h with
 | nil=>exact .nil
 | cons h1 _ ih=>exact .cons (.tk h1) ih
def Ky {s:Sx}{ts:List Lc}(h:Tks ov ([root],[]) ts s):eA ov ([root],[]) (aU ov++ts) s:=by
 cases ov with
 | false=>exact h.toO
 | true=>exact .cons (.over m9) h.toO
def AL {s:Sx}{ts:List Lc}(h:Tks ov ([root],[]) ts s):Pre (oT (mG ov)) (aU ov++ts).flatten s:=by
 cases ov with
 | false=>exact .inl ⟨rfl,h.rd⟩
 | true=>exact .inr ⟨[117],ts.flatten,rfl,m9,rfl,h.rd⟩
def Tks.cut {s s':Sx}{ts:List Lc}(h:Tks ov s ts s'):∀ k,∃ s1,Tks ov s (ts.take k) s1/\Tks ov s1 (ts.drop k) s':=by
 induction h with
 | nil=>exact λk=>⟨_,by rw[List.take_nil];exact .nil,by rw[List.drop_nil];exact .nil⟩
 | @cons s s1 s2 t ts h1 h2 ih=>
  intro k;cases k with
  | zero=>exact⟨s,.nil,.cons h1 h2⟩
  | succ k=>let⟨s3,a,b⟩:=ih k;exact⟨s3,.cons h1 a,b⟩
def Tks.tl {s s':Sx}{ts:List Lc}(h:Tks ov s ts s'):∀ t∈ts,t.length<=16:=by
 induction h with
 | nil=>exact nofun
 | cons h1 _ ih=>exact λt ht=>(uw.mp ht).elim (λe=>e ▸ h1.len) (ih t)
def Tks.shut {s s':Sx}{ts:List Lc}(h:Tks ov s ts s'):eB ts.flatten:=by
 induction h with
 | nil=>exact .nil
 | cons h1 _ ih=>
  rw[UT];refine eB.app ?_ ih;cases h1 with
  | nil=>exact .inl nofun
  | sg _ _ _ h4=>exact .inl λz=>(h4 125 z).2.2 rfl
  | st _ _=>exact .inr rfl
def AK:∀ c∈(aU ov).flatten,c∈SG:=by cases ov<;>decide
def EL:(aU ov).flatten.length<=8/\(aU ov).length=ov.toNat/\∀ t∈aU ov,t.length<=16:=by cases ov<;>decide
def RY {s s':Sx}{ts:List Lc}(h:Tks ov s ts s'):(∀ x∈s.2,zx x)->∀ x∈s'.2,zx x:=by
 induction h with
 | nil=>exact id
 | cons h1 _ ih=>
  intro k;refine ih ?_;cases h1 with
  | nil=>exact k
  | sg _ _ _ _=>exact k
  | st hs hi=>
   cases hs with
   | put _ _=>exact k
   | els _ _ _=>exact k
   | fin=>exact k
   | @op st nm w n _ _ _ _ _=>
    have hn:zx n:=by
     cases hi with
     | op1 _ h=>exact h.1
     | op2 h=>exact h
    intro x hx;have hx:x∈(if w=ze then nm++[n] else nm):=hx;by_cases e:w=ze
    ·rw[uC e] at hx;rcases uo.mp hx with z | z
     ·exact k x z
     ·rw[uy.mp z];exact hn
    ·rw[ux e] at hx;exact k x hx
theorem Kz:∀ {l m:List Lc},l.Nodup->(∀ x∈l,x∈m)->l.length<=m.length
 | [],_,_,_=>u4 _
 | a::l,m,hn,hs=>by have ha:=hs a ug;have h1:=UA.mp hn;have:=Kz (l:=l) (m:=m.erase a) h1.2 λx hx=>(List.mem_erase_of_ne (λz:x=a=>h1.1 (z ▸ hx))).mpr (hs x (uk _ hx));rw[List.length_erase_of_mem ha] at this;have:=List.length_pos_of_mem ha;rw[uc];omega
def kx:List Lc:=[[117],[118],[119],[120],[121],[122]]++(List.range 8).map λk=>List.replicate (k+1) 107
def D3:∀ x∈kx,zx x/\x∉qV:=by unfold zx;decide
def KA {nm:List Lc}(h:fb [] nm):∃ n r,(kx.filter λx=>decide (x∉nm))=n::r/\zx n/\n∉nm:=by
 cases e:kx.filter λx=>decide (x∉nm) with
 | nil=>
  exfalso;let⟨ns,h6,hs⟩:=h
  have sub:∀ x∈kx,x∈ns:=λx hx=>by
   have hx2:x∈nm:=by
    by_cases z:x∈nm
    ·exact z
    ·have:x∈kx.filter λx=>decide (x∉nm):=gT.mpr ⟨hx,uK z⟩;rw[e] at this;cases this
   exact(hs x (.inr hx2)).resolve_right (D3 x hx).2
  have:=Kz aA sub;have:kx.length=14:=aA
  lia
 | cons n r=>
  have hn:n∈kx.filter λx=>decide (x∉nm):=by rw[e];exact ug
  let⟨h1,h2⟩:=gT.mp hn;exact⟨n,r,rfl,(D3 n h1).1,uq h2⟩
def Pj {ts:List Lc}{s:Sx}{w rest:Lc}{u:Due}{b:Bool}(h:Tks ov ([root],[]) ts s)(hw:Wr b (mG ov) s (aU ov++ts).flatten.length w u)(hr:b=false->eB rest) (hl:((aU ov++ts).flatten++(w++rest)).length<=2000) (hg:∀ c∈w++rest,c∈SG):dN (.str ((aU ov++ts).flatten++(w++rest))) u:=by
 let⟨r,g,e⟩:=hw (l:=(aU ov++ts).flatten++(w++rest)) (rest:=rest) (by rw[gJ]) hr;refine EO hl (λc hc=>?_) (AQ (AL h) rfl g) e;rcases uo.mp hc with z | z
 ·rw[UJ] at z;rcases uo.mp z with z | z
  ·exact AK c z
  ·exact h.rd.sg c z
 ·exact hg c z
def RX {ts:List Lc}{s:Sx}(h:Tks ov ([root],[]) ts s)(h2:1<s.1.length)(hl:(aU ov++ts).flatten.length<=2000):dN (.str (aU ov++ts).flatten) (.sheet (aU ov++ts).flatten.length):=by
 refine EO hl (λc hc=>?_) (AQ (rest:=[]) (AL h) (uH _).symm (.short h2)) rfl;rw[UJ] at hc;rcases uo.mp hc with z | z
 ·exact AK c z
 ·exact h.rd.sg c z
end
section
variable {Q:T->List T->Prop} {X:d5->List T->Prop} {ov:Bool}
def WG (ov:Bool)(s:Sx)(a:Nat)(Q:T->List T->Prop):Prop:=∀ w u,(∀ b:Bool,(b=true->w.getLast? = some 125)->Wr b (mG ov) s a w u)->(∀ c∈w,c∈SG)->w.length<=120->Q (.tp [.str w,cW u]) [.non,.non,.non]
def iV (Q:T->List T->Prop):KP:=λs Z=>bG (cY [.mv,.mv,.mv] 0 s Z) λr=>Q .non r
def lD (n m:Int)(toks:List Lc)(ov:Bool)(s:Sx)(a:Nat):Sl:=[.own (.int n),.own (fl (toks.map .str)),.own (.bl ov),.own (fl ((bQ s.1).map .str)),.own (fl (s.2.map .str)),.own (.int (a:Int)),.own (.int m),.no]
def CW {o:Lc}(h:fX o):(∀ c∈o,c∈SG)/\o.length<=120:=by
 rcases h with h | ⟨i,hi,rfl⟩
 ·exact(by decide:∀ o∈([[125],[123],oM,123::(bE++oK)]:List Lc),(∀ c∈o,c∈SG)/\o.length<=120) o h
 ·have l:∀ i∈i7,i.length<=100:=aA
  refine⟨λc hc=>?_,?_⟩
  ·unfold br at hc;rcases uw.mp hc with z | z
   ·rw[z];decide
   ·rcases uo.mp z with z | z
    ·exact(EN i hi).2.2 c z
    ·rw[uy.mp z];decide
  ·unfold br;have:=l i hi;simp only[uc,ub,ur];lia
def wr8 {n m:Int}{toks:List Lc}{s:Sx}{a:Nat}(h0:0<=n)(g:WG ov s a Q):bN (zF.drop 13) (lD n m toks ov s a) [] (iV Q) (fj [.mv,.mv,.mv] Q X):=by refine zaP h0 λo ho=>?_;have:=g o (.sheet a) (λb hb=>IU ho hb) (CW ho).1 (CW ho).2;exact this
def CV {s Z:Sl}:iy .rng 2 s (.own (.int 9)::.own (.int 1)::Z)=some (((List.range 8).map λ(k:Nat)=>T.int (1+(k:Int)),none),(s,Z)):=by show(cond (lH 1&&lH 9) (some ((List.range ((9:Int) - 1).toNat).map λ(k:Nat)=>T.int (1+(k:Int)))) none).bind _=_;rw[Az ⟨aA,aA⟩,Az ⟨aA,aA⟩];rfl
def yu {w:Lc}{n:Int}(h0:0<=n)(h1:n<=3000)(hw:w.length<=1000):bZ .muls [.str w,.int n]=some (.str (List.replicate n.toNat w).flatten):=by show(if 0<=n/\n<=100000/\w.length * n.toNat<=16777216 then some (T.str (List.replicate n.toNat w).flatten) else none)=_;have:w.length * n.toNat<=1000 * 3000:=Nat.mul_le_mul hw aB;rw[uC ⟨h0,aB,aB⟩]
noncomputable def kM (t:T):T:=match t with | .int k=>.str (List.replicate k.toNat [107]).flatten | t=>t
def CM:((List.range 8).map λ(k:Nat)=>T.int (1+(k:Int))).map kM=((List.range 8).map λk=>List.replicate (k+1) 107).map T.str:=rfl
def D2 {nm:List Lc}{s Z s1 W':Sl}{K:List T->KP}{tt:Sl->Sl->(Bool->KP)->Prop}{fe:Sl->Sl->KP->Prop}(e1:aT (iE 1) s=some s1)(e2:aT (iE 1) Z=some W')(e3:aT (fE 1) s1=some s)(e4:aT (fE 1) W'=some Z) (ht:∀ w:Lc,∀ K:Bool->KP,K (decide (w∉nm)) (.own (.str w)::s1) W'->tt (.own (.str w)::s1) W' K) (hf:∀ w:Lc,∀ K:KP,K (.own (.str w)::s1) (.own (.str w)::W')->fe (.own (.str w)::s1) W' K) (h:K ((kx.filter λx=>decide (x∉nm)).map T.str) s Z):QW 1 tt fe (kx.map T.str) [] s Z K:=by
 refine Qb (c:=λt=>match t with | .str w=>decide (w∉nm) | _=>false) (g:=id) e1 e2 e3 e4 (λt hm K h=>?_) (λt hm _ K h=>?_) (by rw[ud];decide) ?_
 ·let⟨w,_,rfl⟩:=u9.mp hm;exact ht w K h
 ·let⟨w,_,rfl⟩:=u9.mp hm;exact hf w K h
 ·rw[UH,Ht,Uw];exact h
def Wt {x:Lc}{ws:List Lc}{o:Bool}:bZ .notin [.str x,.nd o .ls (ws.map .str)]=some (.bl (decide (x∉ws))):=by have:=in_of (x:=x) (ws:=ws) (o:=o);have e:(nj (.str x) (.nd o .ls (ws.map .str))).bind (λb=>some (T.bl (cond false (!b) b)))=some (.bl (decide (x∈ws))):=this;let⟨b,e1,e2⟩:=zb e;cases e2;show(nj (.str x) (.nd o .ls (ws.map .str))).bind (λb=>some (T.bl (cond true (!b) b)))=_;rw[e1,decide_not];rfl
theorem CU:∀ k,dY k=(List.replicate k (br (zO++32::[97]))).flatten
 | 0=>rfl
 | k+1=>by rw[gU,UT,<-CU k];rfl
def CT (k:Nat):(∀ c∈dY k,c∈SG)/\(dY k).length=8 * k:=by
 induction k with
 | zero=>exact⟨nofun,rfl⟩
 | succ k ih=>
  refine⟨λc hc=>?_,?_⟩
  ·rcases uo.mp hc with z | z
   ·exact(by decide:∀ c∈br (zO++32::[97]),c∈SG) c z
   ·exact ih.1 c z
  ·show(br (zO++32::[97])++dY k).length=_;rw[ub,ih.2];have:(br (zO++32::[97])).length=8:=rfl;lia
def Wu {n:Lc}(h:zx n):(∀ c∈br (ze++32::n),c∈SG)/\(br (ze++32::n)).length<=16:=by
 have k:=VN (.op2 h);refine⟨λc hc=>?_,?_⟩
 ·unfold br at hc;rcases uw.mp hc with z | z
  ·rw[z];decide
  ·rcases uo.mp z with z | z
   ·exact(k.2 c z).1
   ·rw[uy.mp z];decide
 ·unfold br;simp only[uc,ub,ur] at k |-;lia
def wr7 {n:Int}{toks:List Lc}{s:Sx}{a:Nat}(h0:0<=n){m:Int}(h1:s.1≠[])(h13:s.1.length<=13)(h6:fb [] s.2)(hn:s.2.length<=100)(g:WG ov s a Q):bN (zF.drop 12) (lD n m toks ov s a) [] (iV Q) (fj [.mv,.mv,.mv] Q X):=by
 refine zh (λz=>?_) λz=>wr8 h0 g;let⟨nm,r,e,hnm,hno⟩:=KA h6;refine za CV ?_;refine YX (g:=kM) rfl rfl rfl rfl (λa _ K h=>h) (λx hx K' hK'=>?_) aA ?_
 ·let⟨k,hk,rfl⟩:=u9.mp hx;have:=gj.mp hk;exact za (yu aB aB aA) hK'
 rw[CM]
 obtain⟨L,hL,ha⟩:∃ L,L=kx.map T.str/\∀ {o o':Bool},bZ .add [.nd o .ls (([[117],[118],[119],[120],[121],[122]]:List Lc).map T.str),.nd o' .ls (((List.range 8).map λk=>List.replicate (k+1) 107).map T.str)]=some (.nd true .ls L):=
  ⟨_,rfl,λ{o o'}=>ZU aA (qQ _) (qQ _)⟩
 generalize ((List.range 8).map λk=>List.replicate (k+1) 107).map T.str=ks at ha |-;refine za ha ?_;refine za (kL (xs:=L) (by rw[hL];exact qQ _)) ?_;rw[hL];refine D2 (nm:=s.2) rfl rfl rfl rfl (λw K h=>?_) (λw K h=>h) ?_
 ·skip;exact za Wt h
 ·rw[e];have n8:=hnm.2.1;have l1:1<=s.1.length:=U1.mpr h1;have wl:=Jv s.1;have el:(12 - (((bQ s.1).map T.str).length:Int))=((13 - s.1.length:Nat):Int):=by rw[ud,wl];lia
  refine za (Wl aA rfl) ?_;refine za (zD (by simp only[uc,ur];lia)) ?_;refine za (zD (by simp only[ub,uc,ur];lia)) ?_;refine za (z:=.str (dY (13 - s.1.length))) (by show bZ .muls [.str (br (zO++32::[97])),.int (12 - (((bQ s.1).map T.str).length:Int))]=_;rw[el,CU];exact yu aB aB aA) ?_;have rl:=(CT (13 - s.1.length)).2;refine za (zD (by simp only[ub,uc,ur];lia)) ?_;have:=g (br (ze++32::nm)++dY (13 - s.1.length)) .many (λb _=>Pk hnm h1 h13 hno) (λc hc=>?_) (by rw[ub];have:=(Wu hnm).2;lia)
  ·have et:br (ze++32::nm)=oj++nm++[125]:=by unfold br;simp
   rw[et] at this;exact this
  ·rcases uo.mp hc with z | z
   ·exact(Wu hnm).1 c z
   ·exact(CT _).1 c z
structure mP (ov:Bool)(s:Sx):Prop where
 h1:s.1≠[]
 h13:s.1.length<=13
 h6:fb [] s.2
 hn:s.2.length<=100
 hb:ig s.1
 ht:ov=true->eo s.1
 hm:∀ x∈s.2,zx x
def Ph {os:List Lc}{o:Bool}:bZ .eq [.nd o .ls (os.map .str),ol []]=some (.bl os.isEmpty):=by let⟨ds,h1,h2,h3⟩:=Qa os;show((two (bX (.nd o .ls (os.map .str))) (some (Dat.ls [])) _).bind _)=_;rw[bX,h1];show((if bF (.ls ds)<=50/\_ then some (cB (.ls ds) (.ls [])) else none).bind _)=_;rw[uC ⟨by simp only[bF];lia,rfl,rfl⟩];cases os<;>cases ds<;>first | rfl | cases h3
def D1 {os:List Lc}{o:Bool}:bZ .ne [.nd o .ls (os.map .str),ol []]=some (.bl (!os.isEmpty)):=by let⟨ds,h1,h2,h3⟩:=Qa os;show((two (bX (.nd o .ls (os.map .str))) (some (Dat.ls [])) _).bind _)=_;rw[bX,h1];show((if bF (.ls ds)<=50/\_ then some (cB (.ls ds) (.ls [])) else none).bind _)=_;rw[uC ⟨by simp only[bF];lia,rfl,rfl⟩];cases os<;>cases ds<;>first | rfl | cases h3
section
variable {n m:Int} {toks:List Lc} {s:Sx} {a:Nat}
def nX (h0:0<=n)(H:mP ov s)(g:WG ov s a Q)(hm:m=6->s.2=[]):bN (zF.drop 11) (lD n m toks ov s a) [] (iV Q) (fj [.mv,.mv,.mv] Q X):=by have k:=wr7 (n:=n) (toks:=toks) (m:=m) (X:=X) h0 H.h1 H.h13 H.h6 H.hn g;refine zh (λz=>?_) λ_=>k;refine zh (λz2=>?_) λ_=>k;have hm':=hm (uq z);have hl:(((bQ s.1).map T.str).length:Int)<12:=uq z2;rw[ud,Jv] at hl;have:=g (br (ze++32::[97])++(br bC++br (ze++32::[97]))) (.twice [97]) (λb _=>zc7 H.h1 aB (by rw[hm'];simp)) aA aA;exact this
def AV (h0:0<=n)(H:mP ov s)(g:WG ov s a Q):bN (zF.drop 10) (lD n m toks ov s a) [] (iV Q) (fj [.mv,.mv,.mv] Q X):=by
 refine zh (λz=>?_) λz=>nX h0 H g λe=>absurd e (uN z);refine za D1 ?_;refine zh (λz2=>?_) λz2=>nX h0 H g λ_=>?_
 ·have l0:0<s.2.length:=by
   cases e:s.2 with
   | nil=>rw[e] at z2;cases z2
   | cons _ _=>simp
  have ln:((s.2.map T.str).length:Int)=s.2.length:=by rw[ud]
  let⟨x,xin,ix⟩:=Js (ns:=s.2) (o:=false) (i:=n % (s.2.length:Int)) (uV _ aB) (uO _ aB)
  have xo:=H.hm x xin
  have x8:=xo.2.1
  refine za (vg (by rw[ln];lia)) ?_
  refine za (z:=[.own (.str x)]) (by show cV _ (.own (.int (n % ((s.2.map T.str).length:Int)))::_)=_;rw[ln];exact ix) ?_
  refine za (zD (by simp only[uc,ur];lia)) ?_
  refine za (zD (by simp only[ub,uc,ur];lia)) ?_
  have:=g (br (ze++32::x)) (.twice x) (λb _=>Kw xo xin) (Wu xo).1 (by have:=(Wu xo).2;lia)
  have et:br (ze++32::x)=oj++x++[125]:=by unfold br;simp
  rw[et] at this
  exact this
 ·cases e:s.2 with
  | nil=>rfl
  | cons _ _=>rw[e] at z2;cases z2
def wr5 (h0:0<=n)(H:mP ov s)(g:WG ov s a Q):bN (zF.drop 9) (lD n m toks ov s a) [] (iV Q) (fj [.mv,.mv,.mv] Q X):=by
 have k:=AV (n:=n) (toks:=toks) (m:=m) (X:=X) h0 H g;refine zh (λz=>?_) λ_=>k;have fin:(mG ov=none\/s.1.length=1)->Q (.tp [.str (br ji),cW (.sheet a)]) [.non,.non,.non]:=λh=>g (br ji) (.sheet a) (λb _=>IS h) aA aA;cases ov with
 | false=>exact fin (.inl rfl)
 | true=>
  refine za Wt ?_;refine zh (λz2=>?_) λ_=>k;have hz:ze∉bQ s.1:=uq z2;refine fin (.inr ?_);have:=U1.mpr H.h1;by_cases h2:2<=s.1.length
  ·exact absurd (EM (H.ht rfl) h2) hz
  ·lia
def nY (h0:0<=n)(H:mP ov s)(g:WG ov s a Q)(hm:m=4->∃ f st,s.1=f::st/\¬ (f.w=bE/\f.ps=[])):bN (zF.drop 8) (lD n m toks ov s a) [] (iV Q) (fj [.mv,.mv,.mv] Q X):=by refine zh (λz=>?_) λ_=>wr5 h0 H g;let⟨f,st,e,hf⟩:=hm (uq z);let⟨st0,nm⟩:=s;cases e;exact g (br zX) (.sheet a) (λb _=>AM hf) aA aA
def CS {f:Fr}:iO f=bE↔f.w=bE/\f.ps=[]:=by
 unfold iO;by_cases h:f.w=bE
 ·rw[uC h];by_cases h2:f.ps=[]
  ·rw[uC h2];exact⟨λ_=>⟨h,h2⟩,λ_=>rfl⟩
  ·rw[ux h2];exact⟨λz=>absurd z aA,λz=>absurd z.2 h2⟩
 ·rw[ux h];exact⟨λz=>absurd z h,λz=>absurd z.1 h⟩
def nZ (h0:0<=n)(H:mP ov s)(g:WG ov s a Q)(hm:m=4->2<=s.1.length):bN (zF.drop 7) (lD n m toks ov s a) [] (iV Q) (fj [.mv,.mv,.mv] Q X):=by
 refine zh (λz=>?_) λz=>nY h0 H g λe=>absurd e (uN z);have h2:=hm (uq z);let⟨st0,nm⟩:=s;cases st0 with
 | nil=>simp at h2
 | cons f st=>
  cases st with
  | nil=>simp at h2
  | cons f2 st=>
   have k:¬ (f.w=bE/\f.ps=[])->bN (zF.drop 8) (lD n m toks ov (f::f2::st,nm) a) [] (iV Q) (fj [.mv,.mv,.mv] Q X):=λz=>nY h0 H g λ_=>⟨f,f2::st,rfl,z⟩
   have ix:∀ {s Z:Sl},cV s (.own (.int (-1))::.own (fl ((bQ (f::f2::st)).map T.str))::Z)=some (.own (.str (iO f))::Z):=λ{s Z}=>by rw[wg,uF];exact QA vm rfl vn
   refine za ix ?_;refine zh (λz2=>?_) λz2=>k λy=>absurd (CS.mpr y) (uN (p:=iO f=bE) z2);let⟨y1,y2⟩:=CS.mp (uq (p:=iO f=bE) z2);exact g (br zX++br zX) (.sheet (a+6)) (λb _=>Pm y1 y2 aD) aA aA
def n6 (h0:0<=n)(H:mP ov s)(g:WG ov s a Q):bN (zF.drop 6) (lD n m toks ov s a) [] (iV Q) (fj [.mv,.mv,.mv] Q X):=by
 refine zh (λz=>?_) λz=>nZ h0 H g λe=>absurd e (uN z);refine za Ph ?_;have wl:=Jv s.1;have l1:1<=s.1.length:=U1.mpr H.h1;refine zh (λz2=>?_) λz2=>nZ h0 H g λ_=>?_
 ·have hw:bQ s.1=[]:=Um.mp z2;have l2:s.1.length=1:=by rw[hw] at wl;simp at wl;lia
  have e2:n % 2=0\/n % 2=1:=aB
  rcases e2 with e | e
  ·refine za (z:=[.own (.str (br bC))]) (by show cV _ (.own (.int (n % 2))::_)=_;rw[e];rfl) ?_;exact g (br bC) (.sheet a) (λb _=>IT l2) aA aA
  ·refine za (z:=[.own (.str (br zX))]) (by show cV _ (.own (.int (n % 2))::_)=_;rw[e];rfl) ?_;let⟨st0,nm⟩:=s;let⟨c,hc⟩:=H.hb;obtain⟨f,rfl⟩:∃ f,st0=[f]:=List.length_eq_one_iff.mp l2;cases hc;exact g (br zX) (.sheet a) (λb _=>AM (by rintro⟨y,_⟩;cases y)) aA aA
 ·have hw:bQ s.1≠[]:=λy=>by rw[y] at z2;cases z2
  have:=U1.mpr hw;lia
def wr3 (h0:0<=n)(H:mP ov s)(g:WG ov s a Q):bN (zF.drop 5) (lD n m toks ov s a) [] (iV Q) (fj [.mv,.mv,.mv] Q X):=by
 refine zh (λz=>?_) λ_=>n6 h0 H g;refine zh (λz2=>?_) λ_=>n6 h0 H g;have ha:a≠0:=by have:(0:Int)<(a:Int):=uq z2;lia
 exact g (xt [97]) (.sheet a) (λb _=>Pn ha lZ) aA aA
end
def yw {ws:List Lc}{o:Bool}(h:ws.flatten.length<=16777216):mJ .join [] [.nd o .ls (ws.map .str)]=some (.str ws.flatten):=by have:=Rg (f:=λw:Lc=>w) (xs:=ws) (o:=o) (by rw[gY];exact h);rw[gY] at this;exact this
def Pg (toks:List Lc):(wj toks).length<=toks.length:=by unfold wj;rw[ud];exact List.length_filter_le _ _
def yx {s:Sx}{ts:List Lc}(h:Tks ov ([root],[]) ts s)(hl:ts.length<=90):(∀ t∈aU ov++ts,t.length<=16)/\(aU ov++ts).length<=91/\(aU ov++ts).flatten.length<=8+16 * ts.length:=by
 have h1:=@EL ov;have h2:=h.len;refine⟨λt ht=>?_,?_,?_⟩
 ·rcases uo.mp ht with z | z
  ·exact h1.2.2 t z
  ·exact h.tl t z
 ·have:(aU ov).length<=1:=by cases ov<;>decide
  rw[ub];lia
 ·rw[UJ,ub];lia
def AJ {ts:List Lc}{s:Sx}(h:Tks ov ([root],[]) ts s):s.2=wj (aU ov++ts):=by have:=XQ (Ky h);rw[UH] at this;exact this
def IP {ts:List Lc}{s:Sx}(h:Tks ov ([root],[]) ts s)(h6:fb [] s.2)(hl:ts.length<=90):mP ov s:=by
 have k:=h.rd.ok (B:=8) (Ki 8) (uj _);have b:ig s.1:=h.rd.bot ⟨[],rfl⟩;refine⟨λz=>?_,?_,h6,?_,b,λe=>h.rd.topB e nofun,RY h nofun⟩
 ·let⟨c,e⟩:=b;rw[z] at e;cases e
 ·cases e:s.1 with
  | nil=>simp
  | cons f st=>rw[e] at k;have:=k.1;simp only[uc];omega
 ·rw[AJ h];have:=Pg (aU ov++ts);have:=(yx h hl).2.1;lia
def Qe {n:Int}(h0:0<=n){ts:List Lc}{s:Sx}(h:Tks ov ([root],[]) ts s)(h6:fb [] s.2)(hl:ts.length<=90)(g:WG ov s (aU ov++ts).flatten.length Q):qo [.int n,fl ((aU ov++ts).map .str),.bl ov] Q X:=by have H:=IP h h6 hl;let⟨a1,a2,a3⟩:=yx h hl;unfold qo;refine⟨rfl,?_⟩;refine Qc (Ky h) ⟨[],rfl⟩ rfl a1 aB ?_;refine Qd aB ?_;refine za (yw aB) ?_;show bN (zF.drop 5) [.own (.int (n / 8)),.own (fl ((aU ov++ts).map .str)),.own (.bl ov),.own (fl (aL ((bQ s.1).map .str))),.own (fl (aL ((wj (aU ov++ts)).map .str))),.own (.int ((aU ov++ts).flatten.length:Nat)),.own (.int (n % 8)),.no] [] (iV Q) _;rw[jE,jE,<-AJ h];exact wr3 aB H g
def sI {u:Due}(q:Q (.bl true) [.non,.non]):jM [cW u,cW u] Q X:=by unfold jM;refine⟨rfl,?_⟩;cases u<;>first | (refine qE ?_ q;show(!cB _ _)=false;rw[JF rfl];rfl) | exact q
def CL {ts:List Lc}{s:Sx}(h:Tks ov ([root],[]) ts s):∀ c∈(aU ov++ts).flatten,c∈SG:=λc hc=>by
 rw[UJ] at hc;rcases uo.mp hc with z | z
 ·exact AK c z
 ·exact h.rd.sg c z
def RW {l:Lc}{u:Due}{n:Int}(h0:0<=n)(hl:l.length<=1900)(hg:∀ c∈l,c∈SG)(hr:dN (.str l) u)(q:∀ l' u',dN (.str l') u'->l'.length<=3000->Q (.tp [.str l',cW u']) [.non,.non,.non]):wc [.str l,cW u,.int n] Q X:=by
 unfold wc;refine⟨rfl,?_⟩;refine zh (λz=>?_) λz=>?_
 ·have m0:=uV (n / 6) (b:=(l.length:Int)+1) aB;have m1:=uO (n / 6) (b:=(l.length:Int)+1) aB;obtain⟨k,hk⟩:∃ k:Nat,n / 6 % ((l.length:Int)+1)=k:=⟨_,Gz m0⟩
  refine za (vg aB) ?_;have e2:n / 7919 % 2=0\/n / 7919 % 2=1:=aB
  obtain⟨c,hc,ix⟩:∃ c:Nat,c∉SG/\∀ {s Z:Sl},cV s (.own (.int (n / 7919 % 2))::.own (ol [.str [10],.str [9]])::Z)=some (.own (.str [c])::Z):=by
   rcases e2 with e | e
   ·exact⟨10,aA,λ{s Z}=>by rw[e];rfl⟩
   ·exact⟨9,aA,λ{s Z}=>by rw[e];rfl⟩
  refine za ix ?_;have l1:=Jt l none (some (n / 6 % ((l.length:Int)+1)));have l2:=Jt l (some (n / 6 % ((l.length:Int)+1))) none;refine za (zD (by simp only[uc,ur];lia)) ?_;refine za (zD (by simp only[ub,uc,ur];lia)) ?_;have kl:(l.take k).length=k:=by rw[Uk];lia
  have:=q (l.take k++c::l.drop k) (.sign (l.take k).length) (zc4 (λc hc=>hg c (UU hc)) hc (by simp;lia)) (by simp;lia);show Q (.tp [.str (aO l none (some (n / 6 % ((l.length:Int)+1)))++[c]++aO l (some (n / 6 % ((l.length:Int)+1))) none),.tp [.str CO,.int (n / 6 % ((l.length:Int)+1))]]) [.non,.non,.non];rw[hk,QB,YZ,ue];rw[kl] at this;exact this
 ·have hs:shr (cW u)=true:=by cases u<;>rfl
  refine zh (λz2=>?_) λz2=>?_
  ·have e2:n / 6 % 2=0\/n / 6 % 2=1:=aB
   refine za (yu aB aB aA) ?_;have ll:(List.replicate (2001 - (l.length:Int)).toNat [97]).flatten.length=2001 - l.length:=aD
   refine za (zD aB) ?_;refine za (yu aB aB aA) ?_;have l3:(List.replicate (n / 6 % 2).toNat [10]).flatten.length<=1:=by simp;lia
   refine za (zD (by rw[ub];lia)) ?_;exact q _ .many (zc5 (by rw[ub,ub];lia)) (by rw[ub,ub];lia)
  ·refine za (qq (t:=cW u) rfl hs) ?_;exact q l u hr aB
def BX (l:Lc):Prop:=(∀ c∈l,c∈SG)/\∃ ov' us',Go l 0 none ([root],[]) (.read ov' us')
def AI {ts:List Lc}{s:Sx}{f:Fr}{nm:List Lc}{w:Lc}(h:Tks ov ([root],[]) ts s)(hr:Rd ov s w ([f],nm)):BX ((aU ov++ts).flatten++w):=by
 refine⟨λc hc=>?_,mG ov,f.cur,?_⟩
 ·rcases uo.mp hc with z | z
  ·exact CL h c z
  ·exact hr.sg c z
 ·refine AQ (AL h) rfl ?_;refine Ab (m:=w) (rest:=[]) (by rw[IQ];exact hr) (by rw[gJ,uH]) ?_;rw[<-ub];exact .done
def Pf {ts:List Lc}{b:Fr}{nm:List Lc}(h:Tks ov ([root],[]) ts ([b],nm))(h6:fb [] nm)(hl:ts.length<=90)(q:∀ l',l'.length=2000->BX l'->Q (.str l') [.non,.non]):xg [fl ((aU ov++ts).map .str),.bl ov] Q X:=by
 let⟨a1,a2,a3⟩:=yx h hl;let⟨x,r,e,hnm,hno⟩:=KA h6;unfold xg;refine⟨rfl,?_⟩;refine za (yw aB) ?_;refine Qd aB ?_;show bN (vz.drop 2) [.own (fl ((aU ov++ts).map .str)),.own (.bl ov),.own (.str (aU ov++ts).flatten),.own (fl (aL ((wj (aU ov++ts)).map .str))),.no] [] (λs Z=>bG (cY [.mv,.mv] 0 s Z) λr=>Q .non r) _;rw[jE,<-AJ h];refine za CV ?_;refine YX (g:=kM) rfl rfl rfl rfl (λa _ K h=>h) (λx hx K' hK'=>?_) aA ?_
 ·let⟨k,hk,rfl⟩:=u9.mp hx;have:=gj.mp hk;exact za (yu aB aB aA) hK'
 rw[CM]
 obtain⟨L,hL,ha⟩:∃ L,L=kx.map T.str/\∀ {o o':Bool},bZ .add [.nd o .ls (([[117],[118],[119],[120],[121],[122]]:List Lc).map T.str),.nd o' .ls (((List.range 8).map λk=>List.replicate (k+1) 107).map T.str)]=some (.nd true .ls L):=
  ⟨_,rfl,λ{o o'}=>ZU aA (qQ _) (qQ _)⟩
 generalize ((List.range 8).map λk=>List.replicate (k+1) 107).map T.str=ks at ha |-;refine za ha ?_;refine za (kL (xs:=L) (by rw[hL];exact qQ _)) ?_;rw[hL];refine D2 (nm:=nm) rfl rfl rfl rfl (λw K h=>?_) (λw K h=>h) ?_
 ·exact za Wt h
 rw[e];refine za (Wl aA rfl) ?_;have n8:=hnm.2.1;have lits:∀ k:Nat,k≠0->(List.replicate k 97≠[])/\∀ c∈List.replicate k 97,c∈SG/\c≠123/\c≠125:=λk hk=>⟨by simpa using hk,λc hc=>by rw[(List.mem_replicate.mp hc).2];decide⟩
 have fl1:∀ k:Nat,(List.replicate k [97]).flatten=List.replicate k 97:=λk=>by
  induction k with
  | zero=>rfl
  | succ k ih=>rw[gU,UT,ih];rfl
 cases ov with
 | false=>
  refine za (yu aB aB aA) ?_;have ek:(2000 - (((aU false++ts).flatten.length:Nat):Int)).toNat=2000 - (aU false++ts).flatten.length:=aB
  rw[ek,fl1];refine za (zD (by rw[Ub];lia)) ?_;let⟨l1,l2⟩:=lits (2000 - (aU false++ts).flatten.length) aB;exact q _ (by rw[ub,Ub];lia) (AI h (Rd.lits (ov:=false) (λz=>by cases z) _ l1 l2))
 | true=>
  have bl:=(Wu hnm).2;have et:(aU true++ts).flatten++oj++x++[125]=(aU true++ts).flatten++br (ze++32::x):=by unfold br;simp
  refine za (zD (by simp only[uc,ur];lia)) ?_;refine za (zD (by simp only[ub,uc,ur] at a3 |-;lia)) ?_;refine za (zD (by simp only[ub,uc,ur] at a3 |-;lia)) ?_;rw[et];have lt:((aU true++ts).flatten++br (ze++32::x)).length<=1990:=by rw[ub];lia
  refine za (yu aB aB aA) ?_;have ek:(1995 - ((((aU true++ts).flatten++br (ze++32::x)).length:Nat):Int)).toNat=1995 - ((aU true++ts).flatten++br (ze++32::x)).length:=aB
  rw[ek,fl1];refine za (zD (by rw[Ub];lia)) ?_;refine za (zD (by rw[ub,Ub];simp only[uc,ur];lia)) ?_;let⟨l1,l2⟩:=lits (1995 - ((aU true++ts).flatten++br (ze++32::x)).length) aB
  have R:Rd true ([b],nm) (br (ze++32::x)++(List.replicate (1995 - ((aU true++ts).flatten++br (ze++32::x)).length) 97++br bC)) _:=
   (Rd.one (.op (by show 1<=12;decide) aD (.inr (.inr rfl)) (λ_ _=>rfl) λ_=>hno) (.word (.op2 hnm))).app ((Rd.lits (λ_=>by simp) _ l1 l2).app (Rd.one .fin (.word .fin)))
  have k:=AI h R;rw[<-ue,<-ue] at k;refine q _ ?_ k;rw[ub,ub (as:=(aU true++ts).flatten++br (ze++32::x)),Ub];show _+_+5=2000;lia
def CQ {ts:List Lc}{sE:Sx}(h:Tks ov ([root],[]) ts sE)(k:Nat):∃ s1,eA ov ([root],[]) ((aU ov++ts).take k) s1/\(bQ s1.1≠[]->∃ j,(aU ov++ts).take k=aU ov++ts.take j/\Tks ov ([root],[]) (ts.take j) s1):=by
 cases ov with
 | false=>let⟨s1,a,_⟩:=h.cut k;exact⟨s1,a.toO,λ_=>⟨k,rfl,a⟩⟩
 | true=>
  cases k with
  | zero=>exact⟨_,.nil,λz=>absurd rfl z⟩
  | succ k=>let⟨s1,a,_⟩:=h.cut k;exact⟨s1,.cons (.over m9) a.toO,λ_=>⟨k,rfl,a⟩⟩
def ints_get {xs:List T}{i:Int}{L:Lc}{o:Bool}(e:xs=L.map λ(k:Nat)=>T.int (k:Int))(h0:0<=i)(h1:i<L.length):∃ k∈L,∀ {s Z:Sl},cV s (.own (.int i)::.own (.nd o .ls xs)::Z)=some (.own (.int (k:Int))::Z):=by
 subst e;have hj:i.toNat<L.length:=aB
 exact⟨L[i.toNat],U2 hj,λ{s Z}=>Wl h0 (by rw[uE,uz hj];rfl)⟩
def IM {n:Int}(h0:0<=n){ts:List Lc}{sE:Sx}(h:Tks ov ([root],[]) ts sE)(hl:ts.length<=90)(q1:Q (fl ((aU ov++ts).map .str)) [.non,.non]) (q2:∀ j s1,Tks ov ([root],[]) (ts.take j) s1->1<s1.1.length->Q (ol ((aU ov++ts.take j).map .str)) [.non,.non]):vf [fl ((aU ov++ts).map .str),.int n] Q X:=by
 let⟨a1,a2,a3⟩:=yx h hl;have ch:∃ f:Nat->Sx,∀ k,eA ov ([root],[]) ((aU ov++ts).take k) (f k)/\(bQ (f k).1≠[]->∃ j,(aU ov++ts).take k=aU ov++ts.take j/\Tks ov ([root],[]) (ts.take j) (f k)):=⟨λk=>(CQ h k).choose,λk=>(CQ h k).choose_spec⟩
 let⟨f,hf⟩:=ch;generalize hT:aU ov++ts=toks at *;unfold vf;refine⟨rfl,?_⟩;have ln:((toks.map T.str).length:Int)=(toks.length:Nat):=by rw[ud]
 refine za (z:=(((List.range toks.length).map λ(k:Nat)=>T.int (k:Int),none),_)) (by show iy .rng 1 _ (.own (.int ((toks.map T.str).length:Nat))::_)=_;rw[ud];exact Wn aB) ?_;refine Qb (c:=λt=>match t with | .int k=>!(bQ (f k.toNat).1).isEmpty | _=>false) (g:=id) rfl rfl rfl rfl (λt hm K hk=>?_) (λt hm _ K hk=>by let⟨k,_,rfl⟩:=u9.mp hm;exact hk) (by rw[ud,gI];simp only[ur];lia) ?_
 ·let⟨k,hk2,rfl⟩:=u9.mp hm;have:=gj.mp hk2;refine za J3 ?_;show qJ [fl (aL (((toks.take k)).map T.str))] _ _;rw[jE];refine Qc (hf k).1 ⟨[],rfl⟩ rfl (λt ht=>a1 t (UU ht)) (by rw[Uk];lia) ?_;refine za D1 ?_;exact hk
 ·have eF:(((List.range toks.length).map λ(k:Nat)=>T.int (k:Int)).filter λt=>match t with | .int k=>!(bQ (f k.toNat).1).isEmpty | _=>false).map id=((List.range toks.length).filter λk=>!(bQ (f k).1).isEmpty).map λ(k:Nat)=>T.int (k:Int):=by
   rw[Ht,Uw]
   rfl
  rw[UH,eF]
  have hF:∀ k∈(List.range toks.length).filter λk=>!(bQ (f k).1).isEmpty,bQ (f k).1≠[]:=λk hk=>by
   have:=(gT.mp hk).2
   intro z
   rw[z] at this;cases this
  generalize (List.range toks.length).filter (λk=>!(bQ (f k).1).isEmpty)=F at hF |-
  have ish:aL (F.map λ(k:Nat)=>T.int (k:Int))=F.map λ(k:Nat)=>T.int (k:Int):=by
   clear hF
   induction F with
   | nil=>rfl
   | cons k F ih=>exact congrArg (T.int (k:Int)::·) ih
  show bN (yo.drop 1) [.own (fl (toks.map .str)),.own (.int n),.own (fl (aL (F.map λ(k:Nat)=>T.int (k:Int))))] [] (λs Z=>bG (cY [.mv,.mv] 0 s Z) λr=>Q .non r) _
  rw[ish]
  have dI:∀ F:Lc,∃ ds,xn (F.map λ(k:Nat)=>T.int (k:Int))=some ds/\wR ds<=0/\ds.length=F.length:=λF=>by
   induction F with
   | nil=>exact⟨[],rfl,uj _,rfl⟩
   | cons k F ih=>
    let⟨ds,h1,h2,h3⟩:=ih
    exact⟨_::ds,by rw[uA,xn,h1];rfl,by simp only[wR,bF];lia,by rw[uc,uc,h3]⟩
  have eqI:bZ .eq [fl (F.map λ(k:Nat)=>T.int (k:Int)),ol []]=some (.bl F.isEmpty):=by
   let⟨ds,h1,h2,h3⟩:=dI F
   show((two (bX (.nd false .ls (F.map λ(k:Nat)=>T.int (k:Int)))) (some (Dat.ls [])) _).bind _)=_
   rw[bX,h1]
   show((if bF (.ls ds)<=50/\_ then some (cB (.ls ds) (.ls [])) else none).bind _)=_
   rw[uC ⟨by simp only[bF];lia,rfl,rfl⟩]
   cases F<;>cases ds<;>first | rfl | cases h3
  refine za eqI ?_
  refine zh (λ_=>q1) λz=>?_
  have l0:0<F.length:=by
   cases F with
   | nil=>cases z
   | cons _ _=>simp
  have lF:((F.map λ(k:Nat)=>T.int (k:Int)).length:Int)=F.length:=by rw[ud]
  let⟨k,hk,ix⟩:=ints_get (o:=false) (L:=F) rfl (i:=n % (F.length:Int)) (uV _ aB) (uO _ aB)
  refine za (vg (by rw[lF];lia)) ?_
  refine za (z:=.own (.int (k:Int))::[.own (fl (toks.map T.str))]) (by show cV _ (.own (.int (n % ((F.map λ(k:Nat)=>T.int (k:Int)).length:Int)))::_)=_;rw[lF];exact ix) ?_
  refine za J3 ?_
  let⟨j,ej,hj⟩:=(hf k).2 (hF k hk)
  have:=q2 j (f k) hj (by
   have:=Jv (f k).1
   have:=U1.mpr (hF k hk)
   lia)
  rw[<-ej] at this
  exact this
end
section
variable {ov:Bool}
abbrev LQ:T->List T->Prop:=λt _=>t=T.bl true
abbrev K0:KP:=λs Z=>bG (cY [.mv] 0 s Z) λr=>LQ T.non r
abbrev D0:L5.Ends:=fj [.mv] LQ (λ_ _=>False)
def AG {u:Due}:shr (cW u)=true:=by cases u<;>rfl
def Pe {t:T}(h:t=.non\/t=.int 5\/(∃ l,t=fl [.str l])\/(∃ l,t=.tp [.str l])\/t=.bl true):dN t (.sign 0):=λ{Q X} x=>by
 rcases h with rfl | rfl | ⟨l,rfl⟩ | ⟨l,rfl⟩ | rfl
 all_goals
  unfold zQ;refine⟨rfl,?_⟩;show ql _ _ _;unfold ql;refine⟨rfl,?_⟩;refine za (z:=()) (by show cond (iQ (0:Int)) (some ()) none=_;rw[Qw ⟨aA,aA⟩];rfl) ?_;exact x
def Io {ns:List Int}{l:Lc}{u:Due}{t:T}(hr:dN (.str l) u)(ht:dN t (.sign 0))(hsh:shr t=true){y1 y2 y3 y4 y5 y6 y7 y8 y10 y11:Slot}:bN (xr.drop 17) [.own (.ks true (ns.map .int)),y1,y2,y3,y4,y5,y6,y7,y8,.own (cW u),y10,y11,.own (.str l),.own t] [] K0 D0:=by refine yq hr (λ{s}=>rfl) ?_;refine za (qq (t:=cW u) rfl AG) ?_;refine sI ?_;refine za (qq (t:=t) rfl hsh) ?_;refine yq ht (λ{s}=>qq rfl hsh) ?_;refine sI (u:=.sign 0) ?_;exact rfl
def Im {ns:List Int}{l:Lc}{u:Due}{n5:Int}(h5:0<=n5)(hl:l.length<=1900)(hg:∀ c∈l,c∈SG)(hr:dN (.str l) u){y1 y2 y3 y4 y6 y7 y8 y10 y11:Slot}:bN (xr.drop 14) [.own (.ks true (ns.map .int)),y1,y2,y3,y4,.own (.int n5),y6,y7,y8,.own (cW u),y10,y11,.own (.str l),.no] [] K0 D0:=by
 refine yq hr (λ{s}=>rfl) ?_;refine za (qq (t:=cW u) rfl AG) ?_;refine sI ?_;refine za (qq (t:=cW u) rfl AG) ?_;refine xH (k:=0) λc=>?_;refine jj ?_;refine RW (QI _ _).1 hl hg hr λl' u' hr' hl'=>?_;have e5:n5 / 2 % 5=0\/n5 / 2 % 5=1\/n5 / 2 % 5=2\/n5 / 2 % 5=3\/n5 / 2 % 5=4:=aB
 obtain⟨t,ht,hsh,ix⟩:∃ t:T,(t=.non\/t=.int 5\/(∃ l,t=fl [.str l])\/(∃ l,t=.tp [.str l])\/t=.bl true)/\shr t=true/\∀ {s Z:Sl},cV s (.own (.int (n5 / 2 % 5))::.own (fl [.non,.int 5,fl [.str l'],.tp [.str l'],.bl true])::Z)=some (.own t::Z):=by
  rcases e5 with e | e | e | e | e<;>rw[e]
  ·exact⟨_,.inl rfl,rfl,λ{s Z}=>rfl⟩
  ·exact⟨_,.inr (.inl rfl),rfl,λ{s Z}=>rfl⟩
  ·exact⟨_,.inr (.inr (.inl ⟨l',rfl⟩)),rfl,λ{s Z}=>rfl⟩
  ·exact⟨_,.inr (.inr (.inr (.inl ⟨l',rfl⟩))),rfl,λ{s Z}=>rfl⟩
  ·exact⟨_,.inr (.inr (.inr (.inr rfl))),rfl,λ{s Z}=>rfl⟩
 refine za (ix (Z:=[])) ?_;exact Io hr' (Pe ht) hsh
def RV {ws:List Lc}{o:Bool}(h:ws.flatten.length<=16777216):mJ .join [] [.nd o .ls (aL (ws.map .str))]=some (.str ws.flatten):=by rw[jE];exact yw h
def RU {ts:List Lc}{k:Nat}{o:Bool}:bZ (.sl true false) [.nd o .ls (ts.map .str),.int (k:Int)]=some (.nd true .ls ((ts.drop k).map .str)):=by show cQ (cond (aI (ts.map T.str)) (some (T.nd true .ls (aO (ts.map T.str) (some (k:Int)) none))) none) _=_;rw[qQ,Y0,YZ];rfl
def IL {xs:List T}{p:Nat}{t:T}(hp:p<=xs.length)(hl:xs.length<16777216):mI .insert xs [.int (p:Int),t]=some (xs.take p++t::xs.drop p,.non):=by show(if 0<=(p:Int)/\(p:Int)<=xs.length/\xs.length<16777216 then some (xs.take (p:Int).toNat++t::xs.drop (p:Int).toNat,T.non) else none)=_;rw[uC ⟨aB,aB,hl⟩,Uy]
def Pa {w:Lc}(h:aO w (some (-1)) none=[125]):w.getLast? = some 125:=by
 rcases gc w with rfl | ⟨p,c,rfl⟩
 ·cases h
 ·have e:aO (p++[c]) (some (-1)) none=[c]:=by
   unfold aO
   have e1:HT.aR (p++[c]).length 0 (some (-1))=p.length:=by
    unfold HT.aR
    simp
    lia
   have e2:HT.aR (p++[c]).length (p++[c]).length none=(p++[c]).length:=by
    unfold HT.aR
    simp
   rw[e1,gJ,e2,gF aD]
  rw[gg] at h |-
  rw[e] at h
  cases h
  rw[List.getLast?_append];rfl
def RT {a b:List Lc}(h:fb [] (a++b)):fb [] a:=by let⟨ns,h6,hs⟩:=h;exact⟨ns,h6,λx hx=>hs x (hx.imp id λz=>uW _ z)⟩
def DZ {s s':Sx}{ts:List Lc}(h:Tks ov s ts s')(h6:fb [] s'.2):fb [] s.2:=by rw[XQ h.toO] at h6;exact RT h6
section
variable {ns:List Int} {ts:List Lc} {j:Nat} {s1 sE:Sx} {w:Lc} {u:Due} {n5:Int} {y3 y4 y6 y11:Slot}
def CK (hj:Tks ov ([root],[]) (ts.take j) s1)(hl:ts.length<=80)(hW:∀ b:Bool,(b=true->w.getLast? = some 125)->Wr b (mG ov) s1 (aU ov++ts.take j).flatten.length w u)(hg:∀ c∈w,c∈SG)(hw:w.length<=120)(h5:0<=n5) {rest:List Lc} (b:Bool) (hb:b=true->w.getLast? = some 125) (hs:b=false->eB rest.flatten) (hr:∀ c∈rest.flatten,c∈SG) (hrl:(ts.take j).flatten.length+rest.flatten.length<=1500) : bN (xr.drop 13) [.own (.ks true (ns.map .int)),.own (.bl ov),.own (fl ((aU ov++ts).map .str)),y3,y4,.own (.int n5),y6,.own (.int (((aU ov).length+j:Nat):Int)),.own (.str w),.own (cW u),.own (ol (rest.map .str)),y11,.no,.no] [] K0 D0:=by
 have l8:=(@EL ov).1;have pl:(aU ov++ts.take j).flatten.length<=8+(ts.take j).flatten.length:=by rw[UJ,ub];lia
 refine za J3 ?_;refine za (RV (by rw[gi];lia)) ?_;rw[gi];refine za (zD aB) ?_;refine za (yw aB) ?_;refine za (zD (by rw[ub];lia)) ?_;have R:dN (.str ((aU ov++ts.take j).flatten++(w++rest.flatten))) u:=Pj hj (hW b hb) hs (by rw[ub,ub];lia) λc hc=>(uo.mp hc).elim (hg c) (hr c);rw[<-ue] at R;refine Im h5 (by rw[ub,ub];lia) (λc hc=>?_) R;rcases uo.mp hc with z | z
 ·rcases uo.mp z with z | z
  ·exact CL hj c z
  ·exact hg c z
 ·exact hr c z
def Il (h:Tks ov ([root],[]) ts sE)(h6:fb [] sE.2)(hl:ts.length<=80)(hjl:j<=ts.length)(hj:Tks ov ([root],[]) (ts.take j) s1)(hj2:Tks ov s1 (ts.drop j) sE)(hW:∀ b:Bool,(b=true->w.getLast? = some 125)->Wr b (mG ov) s1 (aU ov++ts.take j).flatten.length w u)(hg:∀ c∈w,c∈SG)(hw:w.length<=120)(h5:0<=n5) : bN (xr.drop 12) [.own (.ks true (ns.map .int)),.own (.bl ov),.own (fl ((aU ov++ts).map .str)),y3,y4,.own (.int n5),y6,.own (.int (((aU ov).length+j:Nat):Int)),.own (.str w),.own (cW u),.own (ol ((ts.drop j).map .str)),.no,.no,.no] [] K0 D0:=by
 have fl1:=hj.len;have fl2:=hj2.len;have tl:(ts.take j).length+(ts.drop j).length<=80:=by rw[<-ub,UQ];exact hl
 have k:bN (xr.drop 13) [.own (.ks true (ns.map .int)),.own (.bl ov),.own (fl ((aU ov++ts).map .str)),y3,y4,.own (.int n5),y6,.own (.int (((aU ov).length+j:Nat):Int)),.own (.str w),.own (cW u),.own (ol ((ts.drop j).map .str)),.no,.no,.no] [] K0 D0:=
  CK hj hl hW hg hw h5 false nofun (λ_=>hj2.shut) (λc hc=>hj2.rd.sg c hc) aB
 refine zh (λz=>?_) λ_=>k;refine zh (λz2=>?_) λ_=>k;have hlast:=Pa (uq (p:=aO w (some (-1)) none=[125]) z2);refine xH (k:=0) λc=>?_;refine jj ?_;have p0:=uV (bI c 8) (b:=((ts.drop j).length:Int)+1) aB;have p1:=uO (bI c 8) (b:=((ts.drop j).length:Int)+1) aB;obtain⟨p,hp⟩:∃ p:Nat,bI c 8 % (((ts.drop j).length:Int)+1)=p:=⟨_,Gz p0⟩
 have hpl:p<=(ts.drop j).length:=aB
 refine za (z:=.int (p:Int)) (by show bZ .mod [.int (bI c 8),.int ((((ts.drop j).map T.str).length:Int)+1)]=_;rw[ud,vg aB,hp]) ?_;refine xH (k:=0) λc2=>?_;refine jj ?_;refine za (J3 (k:=(aU ov).length+j+p)) ?_;show qo [.int (bI c2 9),fl (aL (((aU ov++ts).take ((aU ov).length+j+p)).map T.str)),.bl ov] _ _;rw[jE,gO,gi];let⟨s2,hp1,hp2⟩:=h.cut (j+p);refine Qe (QI _ _).1 hp1 (DZ hp2 h6) (by rw[Uk];lia) λw2 u2 _ hg2 hl2=>?_;refine za (qW aC (IL (by rw[ud];exact hpl) (by rw[ud];lia)) aC) ?_;have er:((ts.drop j).map T.str).take p++T.str w2::((ts.drop j).map T.str).drop p=((ts.drop j).take p++w2::(ts.drop j).drop p).map T.str:=by simp only[uF,uA,GZ,G0]
 rw[er]
 have ef:((ts.drop j).take p++w2::(ts.drop j).drop p).flatten.length=(ts.drop j).flatten.length+w2.length:=by
  have e2:(ts.drop j).flatten.length=((ts.drop j).take p).flatten.length+((ts.drop j).drop p).flatten.length:=by rw[<-ub,<-UJ,UQ]
  rw[UJ,UT,ub,ub,e2];lia
 refine CK hj hl hW hg hw h5 true (λ_=>hlast) nofun (λc hc=>?_) (by rw[ef];lia);let⟨t,ht,hc⟩:=Hj.mp hc;have sg:=hj2.rd.sg;rcases uo.mp ht with z | z
 ·exact sg c (Hj.mpr ⟨t,UU z,hc⟩)
 ·rcases uw.mp z with z | z
  ·rw[z] at hc;exact hg2 c hc
  ·exact sg c (Hj.mpr ⟨t,GL z,hc⟩)
def Ik (h:Tks ov ([root],[]) ts sE)(h6:fb [] sE.2)(hl:ts.length<=80)(hjl:j<=ts.length)(h5:0<=n5) : bN (xr.drop 10) [.own (.ks true (ns.map .int)),.own (.bl ov),.own (fl ((aU ov++ts).map .str)),y3,y4,.own (.int n5),y6,.own (.int (((aU ov).length+j:Nat):Int)),.no,.no,.no,.no,.no,.no] [] K0 D0:=by refine xH (k:=1) λc2=>?_;refine jj ?_;refine za J3 ?_;show qo [.int (bI c2 7),fl (aL (((aU ov++ts).take ((aU ov).length+j)).map T.str)),.bl ov] _ _;rw[jE,gi];let⟨s1,hj,hj2⟩:=h.cut j;refine Qe (QI _ _).1 hj (DZ hj2 h6) (by rw[Uk];lia) λw u hW hg hw=>?_;refine za RU ?_;rw[List.drop_length_add_append];exact Il h h6 hl hjl hj hj2 hW hg hw h5
def Bo (h:Tks ov ([root],[]) ts sE)(h6:fb [] sE.2)(hl:ts.length<=80)(h5:0<=n5) : bN (xr.drop 9) [.own (.ks true (ns.map .int)),.own (.bl ov),.own (fl ((aU ov++ts).map .str)),y3,y4,.own (.int n5),y6,.no,.no,.no,.no,.no,.no,.no] [] K0 D0:=by
 have eb:(bif ov then(1:Int) else 0)=((aU ov).length:Nat):=by cases ov<;>rfl
 refine xH (k:=1) λc=>?_;refine jj ?_;have p0:=uV (bI c 6) (b:=(ts.length:Int)+1) aB;have p1:=uO (bI c 6) (b:=(ts.length:Int)+1) aB;obtain⟨j,hp⟩:∃ j:Nat,bI c 6 % ((ts.length:Int)+1)=j:=⟨_,Gz p0⟩
 have hjl:j<=ts.length:=aB
 refine za (z:=.int (j:Int)) (by
  show bZ .mod [.int (bI c 6),.int ((((aU ov++ts).map T.str).length:Int)+1 - (bif ov then 1 else 0))]=_
  have e:(((aU ov++ts).map T.str).length:Int)+1 - (bif ov then(1:Int) else 0)=(ts.length:Int)+1:=by rw[eb,ud,ub];lia
  rw[e,vg aB,hp]) ?_
 show bN (xr.drop 10) [.own (.ks true (ns.map .int)),.own (.bl ov),.own (fl ((aU ov++ts).map .str)),qM 7 0 y3,qM 7 0 y4,.own (.int n5),qM 7 0 y6,.own (.int ((bif ov then(1:Int) else 0)+(j:Int))),.no,.no,.no,.no,.no,.no] [] K0 D0;rw[eb,<-Int.natCast_add];exact Ik h h6 hl hjl h5
end
theorem VZ:∀ os:List Lc,∃ ds,xn (os.map .str)=some ds/\wR ds<=0/\Zk ds=true
 | []=>⟨[],rfl,uj _,rfl⟩
 | o::os=>by let⟨ds,h1,h2,h3⟩:=VZ os;exact⟨_::ds,by rw[uA,xn,h1];rfl,by simp only[wR,bF];omega,by simp only[Zk,h3,Bool.and_true];rfl⟩
def O9 {a c:List Lc}{o o':Bool}:∃ b,bZ .ne [.nd o .ls (a.map .str),.nd o' .ls (c.map .str)]=some (.bl b)/\(a=c->b=false):=by
 let⟨ds,h1,h2,h3⟩:=VZ a;let⟨es,k1,k2,k3⟩:=VZ c;refine⟨!cB (.ls ds) (.ls es),?_,λe=>?_⟩
 ·show((two (bX (.nd o .ls (a.map .str))) (bX (.nd o' .ls (c.map .str))) _).bind _)=_;rw[bX,bX,h1,k1];show((if bF (.ls ds)<=50/\_ then some (cB (.ls ds) (.ls es)) else none).bind _)=_;rw[uC ⟨by simp only[bF];lia,rfl,rfl⟩];rfl
 ·subst e;rw[h1] at k1;cases k1;rw[JF (by simp only[Yu];exact h3)];rfl
section
variable {ns:List Int} {ts:List Lc} {sE:Sx} {n5:Int} {y3 y4:Slot}
def rO {a:List Lc}(h:Tks ov ([root],[]) ts sE)(h6:fb [] sE.2)(hl:ts.length<=80)(h5:0<=n5)(ha:a=aU ov++ts\/dN (.str a.flatten) (.sheet a.flatten.length))(hal:a.flatten.length<=16777216) : bN (xr.drop 8) [.own (.ks true (ns.map .int)),.own (.bl ov),.own (fl ((aU ov++ts).map .str)),y3,y4,.own (.int n5),.own (fl (a.map .str)),.no,.no,.no,.no,.no,.no,.no] [] K0 D0:=by
 have k:=@Bo ov ns ts sE n5 y3 y4 (.own (fl (a.map .str))) h h6 hl h5;let⟨b,hb,e⟩:=O9 (a:=a) (c:=aU ov++ts) (o:=false) (o':=false);refine za hb ?_;cases b with
 | false=>exact k
 | true=>
  rcases ha with y | R
  ·cases e y
  refine za (yw hal) ?_;refine yq R (λ{s}=>rfl) ?_;refine za (yw hal) ?_;refine sI (u:=.sheet a.flatten.length) ?_;exact k
def Bp (h:Tks ov ([root],[]) ts sE)(h6:fb [] sE.2)(hl:ts.length<=80):bN (xr.drop 6) [.own (.ks true (ns.map .int)),.own (.bl ov),.own (fl ((aU ov++ts).map .str)),y3,y4,.no,.no,.no,.no,.no,.no,.no,.no,.no] [] K0 D0:=by
 let⟨a1,a2,a3⟩:=yx h aB;refine xH (k:=0) λc=>?_;refine jj ?_;have h5:=(QI c 5).1;refine IM aB h aB ?_ λj s1 hj h2=>?_
 ·show bN (xr.drop 8) [.own (.ks true (ns.map .int)),.own (.bl ov),.own (fl ((aU ov++ts).map .str)),qM 6 0 (qM 5 0 y3),qM 6 0 (qM 5 0 y4),.own (.int (bI c 5)),.own (fl ((aU ov++ts).map .str)),.no,.no,.no,.no,.no,.no,.no] [] K0 D0;exact rO h h6 hl h5 (.inl rfl) aB
 ·show bN (xr.drop 8) [.own (.ks true (ns.map .int)),.own (.bl ov),.own (fl ((aU ov++ts).map .str)),qM 6 0 (qM 5 0 y3),qM 6 0 (qM 5 0 y4),.own (.int (bI c 5)),.own (fl (aL ((aU ov++ts.take j).map .str))),.no,.no,.no,.no,.no,.no,.no] [] K0 D0;rw[jE];have tl:(ts.take j).length<=ts.length:=by rw[Uk];lia
  have:=(yx hj aB).2.2;exact rO h h6 hl h5 (.inr (RX hj h2 aB)) aB
def rP {b:Fr}{t3:T}(h:Tks ov ([root],[]) ts sE)(hE:sE.1=[b])(h6:fb [] sE.2)(hl:ts.length<=80):bN (xr.drop 3) [.own (.ks true (ns.map .int)),.own (.bl ov),.own (fl ((aU ov++ts).map .str)),.own t3,.no,.no,.no,.no,.no,.no,.no,.no,.no,.no] [] K0 D0:=by
 let⟨a1,a2,a3⟩:=yx h aB;let⟨st,nm⟩:=sE;cases hE;have R0:BX (aU ov++ts).flatten:=by have:=AI h .nil;rw[uH] at this;exact this
 refine za (yw aB) ?_;let⟨g1,ov',us',g2⟩:=R0;refine vI aB g1 g2 (λov2 us2 e pc=>?_) (λe he=>by cases he);refine Pf h h6 aB λl' hl' R=>?_;have e1:(l'.length:Int)=2000:=aB
 refine qE (show(!decide ((l'.length:Int)=2000))=false by rw[uK e1];rfl) ?_;let⟨g1,ov',us',g2⟩:=R;refine vI aB g1 g2 (λov2 us2 e pc=>?_) (λe he=>by cases he);exact Bp h h6 hl
end
def O8 (ns:List Int)(hns:ns.length<=63):cA [.mv] 14 xr [.ks true (ns.map .int)] (λt _=>t=.bl true) (λ_ _=>False):=by
 refine⟨rfl,?_⟩;refine xH (k:=1) λc=>?_;refine RL (ov:=decide (c % 2=1)) hns λtoks us hm=>?_;generalize decide (c % 2=1)=ov at hm |-;let⟨⟨nm,h,h6⟩,h80⟩:=hm;cases ov with
 | false=>exact rP (ov:=false) h rfl h6 h80
 | true=>
  refine za (ZU (a:=[.str oE]) (by simp;lia) rfl (qQ toks)) ?_;have e:fl ((aU true++toks).map T.str)=aV (ol ([.str oE]++toks.map .str)):=by show _=fl (aL ((aU true++toks).map .str));rw[jE]
  have:=rP (ov:=true) (ns:=ns) (t3:=fl us) h rfl h6 h80;rw[e] at this;exact this
end
structure Txt (W:Wd):Prop where
 oR:mR W "SIGNS" iA
 oS:mR W "LETTERS" eO
 oU:mR W "LONGEST_NAME" dh
 oV:mR W "MOST_SIGNS" dE
 oW:mR W "MOST_OPENED" du
 oX:mR W "BRACE_WORDS" dv
 oY:KGet W "LONE_TOKENS" jv
 oZ:mR W "OPENERS" eN
 o3:W.mg "all" = none
 o4:W.mg "bool" = none
 o5:W.mg "enumerate" = none
 o6:W.mg "int" = none
 o7:W.mg "isinstance" = none
 o8:W.mg "len" = none
 o9:W.mg "list" = none
 Oa:W.mg "range" = none
 Ob:W.mg "str" = none
 Oc:W.mg "tuple" = none
 Od:dU W.K (W.cl 0)/\qT W.K (W.cl 0) "over"
 Oe:dU W.K (W.cl 0)/\qT W.K (W.cl 0) "pieces"
 Of:dU W.K (W.cl 1)/\qT W.K (W.cl 1) "branches"
 Og:dU W.K (W.cl 1)/\qT W.K (W.cl 1) "name"
 Oh:dU W.K (W.cl 1)/\qT W.K (W.cl 1) "word"
 Oi:dU W.K (W.cl 2)/\qT W.K (W.cl 2) "named"
 Oj:dU W.K (W.cl 2)/\qT W.K (W.cl 2) "opened"
 Ol:dU W.K (W.cl 2)/\qT W.K (W.cl 2) "over"
 Om:mz W "Sheet" 0
 Oo:∃ Dc,W.mg "SealError" = some (.ref Dc)/\dw W.K Dc/\∀ c∈(oQ:Lc),dw W.K (W.cl c)/\PySem.W.mroIn W.K (W.cl c) (.ref Dc)=some true
 Oq:Ze W (.isx "NoSheet" [(3,true),(4,false),(5,false),(6,false),(8,false),(9,false),(10,false),(11,false),(12,false)])
 Ot:Ze W (.isx "Twice" [(3,false),(4,true),(5,false),(6,false),(8,false),(9,false),(10,false),(11,false),(12,false)])
 Ou:Ze W (.isx "NoSign" [(3,false),(4,false),(5,false),(6,true),(8,false),(9,false),(10,false),(11,false),(12,false)])
 Ov:Ze W (.isx "TooMany" [(3,false),(4,false),(5,true),(6,false),(8,false),(9,false),(10,false),(11,false),(12,false)])
 Ow:Ze W (.isxb [(3,true),(4,true),(5,true),(6,true),(8,true),(9,true),(10,true),(11,true),(12,true)])
 Ox:Ze W (.isxt ["NoCode","NoElder","NoName","Unknown","Unread"] [(3,false),(4,false),(5,false),(6,false),(8,true),(9,true),(10,true),(11,true),(12,true)])
 Oy:∀ c∈([3,6,8,9]:Lc),PySem.W.findIn W.K (.ref (W.cl c)) "at" = some none
 Oz:∀ c∈([4,10,11,12]:Lc),PySem.W.findIn W.K (.ref (W.cl c)) "name" = some none
 OA:W.mg "NoSign" = some (.ref (W.cl 6))
 OB:dw W.K (W.cl 6)
 OC:PySem.W.keepIn W.K (.ref (W.cl 6))=true
 OD:PySem.W.findIn W.K (.ref (W.cl 6)) "at" = some none
 OE:W.mg "Twice" = some (.ref (W.cl 4))
 OF:dw W.K (W.cl 4)
 OG:PySem.W.keepIn W.K (.ref (W.cl 4))=true
 OH:PySem.W.findIn W.K (.ref (W.cl 4)) "name" = some none
 OI:mD W.K W.mg "TooMany" (W.cl 5)
 OJ:W.mg "NoSheet" = some (.ref (W.cl 3))
 OL:dw W.K (W.cl 3)
 OM:PySem.W.keepIn W.K (.ref (W.cl 3))=true
 ON:PySem.W.findIn W.K (.ref (W.cl 3)) "at" = some none
 OO:W.mg "SealError" = some (.ref (W.cl 7))
 OP:mS W.K (W.cl 7)=true
section
variable {W:Wd}
def zaX (T:Txt W)(D:mQ W.K (W.cl 6) "NoSign.__init__" Zp ["self","at"]):lP W.P W.w W.K W.mg W.base "NoSign" (W.cl 6) "at" (d9 false):=by let⟨fI,fd,oI,i1,i2,i3,F,b⟩:=D.ex;refine⟨T.OA,T.OB,T.OC,fI,fd,oI,_,i1,i2,i3,b,?_⟩;refine F.ok Y8 (λvs H Q E h=>by let⟨a,v,rfl,_⟩:=h;rfl) λcdv A outer s H vs Q E hr h=>?_;let⟨a,v,rfl,ea,hp,q⟩:=h;exact⟨_,yI (Jc (X6 (C:=W.cl 6) T.OO T.OP T.OB (zT (pv 0) (zT (Ao (pv 1)) wq)))) (XR (X7 T.OB T.OD (pv 0) (pv 1))),Qo ea (hp.resolve_left nofun) q⟩
def zc8 (T:Txt W)(D:mQ W.K (W.cl 4) "Twice.__init__" QC ["self","name"]):lP W.P W.w W.K W.mg W.base "Twice" (W.cl 4) "name" (d9 false):=by let⟨fI,fd,oI,i1,i2,i3,F,b⟩:=D.ex;refine⟨T.OE,T.OF,T.OG,fI,fd,oI,_,i1,i2,i3,b,?_⟩;refine F.ok zaE (λvs H Q E h=>by let⟨a,v,rfl,_⟩:=h;rfl) λcdv A outer s H vs Q E hr h=>?_;let⟨a,v,rfl,ea,hp,q⟩:=h;exact⟨_,yI (Jc (X6 (C:=W.cl 4) T.OO T.OP T.OF (zT (pv 0) (zT (Ao (pv 1)) wq)))) (XR (X7 T.OF T.OH (pv 0) (pv 1))),Qo ea (hp.resolve_left nofun) q⟩
def KC (T:Txt W)(D:mQ W.K (W.cl 3) "NoSheet.__init__" kh ["self","at"]):lP W.P W.w W.K W.mg W.base "NoSheet" (W.cl 3) "at" (d9 false):=by let⟨fI,fd,oI,i1,i2,i3,F,b⟩:=D.ex;refine⟨T.OJ,T.OL,T.OM,fI,fd,oI,_,i1,i2,i3,b,?_⟩;refine F.ok VB (λvs H Q E h=>by let⟨a,v,rfl,_⟩:=h;rfl) λcdv A outer s H vs Q E hr h=>?_;let⟨a,v,rfl,ea,hp,q⟩:=h;exact⟨_,yI (Jc (X6 (C:=W.cl 3) T.OO T.OP T.OL (zT (pv 0) (zT (Ao (pv 1)) wq)))) (XR (X7 T.OL T.ON (pv 0) (pv 1))),Qo ea (hp.resolve_left nofun) q⟩
def Ij {k:Nat}{x:Str}{st:Stmt}{ps N:Lh}{ms:List Md}(D:Df W.K W.mg x st ps)(Sc:zi N ps (zc st))(hn:ms.length=ps.length):nK W.P W.w W.K W.mg W.base (k+1) x ps (dW W ms λ_ _ _=>False):=
 D.okX Sc (λvs H Q E h=>(AS h).trans hn) (λf cdv A outer s H vs Q E hr h=>by
  let⟨_,_,_,_,_,_,_,_,po,_⟩:=h
  exact po.elim)
local macro_rules | `(tactic| walk_at "need") => do
  let l <-("o3 o4 o5 o6 o7 o8 o9 Oa Ob Oc oR oS oU oV oW oX oY oZ Od Oe Of Og Oh Oi Oj Ol Om Oo Oq Ot Ou Ov Ow Ox Oy Oz OI".splitOn " ").toArray.mapM fun s => `(Lean.Parser.Tactic.tacticSeq| exact $(Lean.mkIdent (`Txt ++ s.toName)) (by assumption))
  `(tactic| repeat' (first | exact trivial | (refine ⟨_, _, ?_, by assumption⟩; omega) | first $[| $l]* | exact ⟨by omega, by assumption⟩ | (refine gn.mpr ⟨?_, ?_⟩) | exact List.forall_mem_nil _ | refine ⟨?_, ?_⟩))
abbrev OX (W:Wd)(k:Nat)(x:Str)(ps:Lh)(ms:List Md)(f:Fn):=nK W.P W.w W.K W.mg W.base k x ps (dW W ms f)
section
variable (W:Wd)
abbrev Zw:=OX W 3 "need_text" xA [.mv] ql
abbrev jm:=iM W 1 (W.cl 1) "Opened" qG (dW W [.mu,.mv,.mv] zY)
abbrev xl:=iM W 3 (W.cl 2) "Draft" qX (dW W [.mu] qB)
abbrev wk:=eD W 1 (W.cl 1) "add_piece" qx (dW W [.mu,.mv] zU)
abbrev qK:=eD W 1 (W.cl 1) "takes_else" qi (dW W [.mu] zR)
abbrev vJ:=eD W 2 (W.cl 1) "whole" jz (dW W [.mu] jf)
abbrev qZ:=eD W 1 (W.cl 2) "is_outside" qy (dW W [.mu] zK)
abbrev wC:=eD W 2 (W.cl 2) "can_stand" qH (dW W [.mu,.mv,.mv] zo)
abbrev jJ:=eD W 3 (W.cl 2) "begin_piece" qk (dW W [.mu,.mv,.mv] zu)
abbrev ky:=eD W 4 (W.cl 2) "take" wD (dW W [.mu,.mv,.mv] zy)
abbrev DY:=OX W 41 "copied" xJ [.mv] (jg 40)
abbrev xm:=iM W 42 (W.cl 0) "Sheet" qY (dW W [.mu,.mv,.mv] qC)
abbrev yy:=eD W 44 (W.cl 2) "ended" jT (dW W [.mu,.mv] qr)
abbrev Qf:=OX W 1 "is_name" yc [.mv] xK
abbrev yz:=OX W 2 "is_own_name" jU [.mv] qR
abbrev QK:=OX W 3 "token_of" vq [.mv] wz
abbrev QL:=OX W 4 "token_at" vt [.mv,.mv] qI
abbrev vB:=OX W 45 "sheet_read" wF [.mv] zQ
abbrev wO:=OX W 1 "_law_cell_at" jA [.mv,.mv] zz
abbrev xi:=OX W 1 "_law_mixed" wG [.mv,.mv] zB
abbrev Zx:=OX W 2 "_law_rest" xB [.mv] xb
abbrev kz:=OX W 2 "_law_names" wH [.mv,.mv] jk
abbrev v5:=OX W 1 "_law_put" vv [.mu,.mv] zV
abbrev yA:=OX W 2 "_law_shut" xC [.mu] jK
abbrev kA:=OX W 1 "_law_signs" wI [] wa
abbrev vK:=OX W 2 "_law_literal" jB [.mu,.mv] jh
abbrev yB:=OX W 1 "_law_opened" jZ [.mu,.mv,.mv,.mu] qS
abbrev Zy:=OX W 3 "_law_word" xD [.mu,.mv,.mv,.mv] xc
abbrev kB:=OX W 4 "_law_token" wJ [.mu,.mv,.mv,.mu,.mv] wb
abbrev Zz:=OX W 5 "_law_made" xE [.mv,.mv] xf
abbrev vC:=OX W 1 "_law_stack" wK [.mv] qJ
abbrev vD:=OX W 1 "_law_named" wL [.mv] jl
abbrev QM:=OX W 1 "_law_odd" vx [.mv] vd
abbrev kC:=OX W 2 "_law_wrong" wM [.mv,.mv,.mv] qo
abbrev vL:=OX W 46 "_law_refused" jC [.mv] zW
abbrev Wv:=OX W 1 "_law_is" yd [.mv,.mv] jM
abbrev kD:=OX W 1 "_law_other" wN [.mv,.mv,.mv] wc
abbrev ZA:=OX W 2 "_law_full" xF [.mv,.mv] xg
abbrev QN:=OX W 2 "_law_cut" vy [.mv,.mv] vf
end
def V0 (T:Txt W)(D:Df W.K W.mg "need_text" wW xA)(R1:lP W.P W.w W.K W.mg W.base "NoSign" (W.cl 6) "at" (d9 false)):Zw W:=by unfold Zw ql;exact qt (W:=W) (k:=2) D Vu Y9 rfl aA (by unfold ki;walk_at "need")
def ZC (T:Txt W)(D:sH W.K W.mg (W.cl 1) "Opened" "Opened.__init__" qh qG):jm W:=by unfold jm zY;exact Ad (c:=1) (W:=W) (k:=0) D Zn Z7 rfl aA (by unfold j9;walk_at "need")
def Qg (T:Txt W)(D:sH W.K W.mg (W.cl 2) "Draft" "Draft.__init__" qz qX)(F1:jm W):xl W:=by unfold xl qB;exact Ad (c:=2) (W:=W) (k:=2) D ZV QG rfl aA (by unfold wx;walk_at "need")
def Za (T:Txt W)(D:lN W.K (W.cl 1) "add_piece" "Opened.add_piece" qa qx):wk W:=by unfold wk zU;exact QY (c:=1) (W:=W) (k:=0) D kX Zu rfl aA (by unfold jH;walk_at "need")
def kE (T:Txt W)(D:lN W.K (W.cl 1) "takes_else" "Opened.takes_else" z0 qi):qK W:=by unfold qK zR;exact QY (c:=1) (W:=W) (k:=0) D yY kZ rfl aA (by unfold jo;walk_at "need")
def Jb (T:Txt W)(D:lN W.K (W.cl 1) "whole" "Opened.whole" jb jz)(F1:qK W):vJ W:=by unfold vJ jf;exact QY (c:=1) (W:=W) (k:=1) D Q7 We rfl aA (by unfold xY;walk_at "need")
def Zb (T:Txt W)(D:lN W.K (W.cl 2) "is_outside" "Draft.is_outside" qb qy):qZ W:=by unfold qZ zK;exact QY (c:=2) (W:=W) (k:=0) D kY Zv rfl aA (by unfold jI;walk_at "need")
def ZD (T:Txt W)(D:lN W.K (W.cl 2) "can_stand" "Draft.can_stand" qj qH)(F1:qK W)(F2:qZ W):wC W:=by unfold wC zo;exact QY (c:=2) (W:=W) (k:=1) D Zo Z8 rfl aA (by unfold qm;walk_at "need")
def kF (T:Txt W)(D:lN W.K (W.cl 2) "begin_piece" "Draft.begin_piece" z4 qk)(R1:lP W.P W.w W.K W.mg W.base "Twice" (W.cl 4) "name" (d9 false))(F1:jm W):jJ W:=by unfold jJ zu;exact QY (c:=2) (W:=W) (k:=2) D ka k9 rfl aA (by unfold jq;walk_at "need")
def WZ (T:Txt W)(D:lN W.K (W.cl 2) "take" "Draft.take" jS wD)(R1:lP W.P W.w W.K W.mg W.base "NoSheet" (W.cl 3) "at" (d9 false))(F1:wk W)(F2:vJ W)(F3:wC W)(F4:jJ W):ky W:=by unfold ky zy;exact QY (c:=2) (W:=W) (k:=3) D WI VC rfl aA (by unfold ye;walk_at "need")
theorem Ww (T:Txt W)(D:Df W.K W.mg "copied" vV xJ):∀ n,OX W (n+1) "copied" xJ [.mv] (jg n)
 | 0=>by rw[jg];exact Ij D XG rfl
 | n+1=>by have Fr:=Ww T D n;rw[jg,show n+1+1=n+1+1 by omega];exact qt (W:=W) (k:=n+1) D XG Tn rfl (by decide) (by unfold Wc;walk_at "need")
def zc9 (T:Txt W)(D:Df W.K W.mg "copied" vV xJ):DY W:=Ww T D 40
def Qh (T:Txt W)(D:sH W.K W.mg (W.cl 0) "Sheet" "Sheet.__init__" qA qY)(F1:DY W):xm W:=by unfold xm qC;exact Ad (c:=0) (W:=W) (k:=41) D ZX QH rfl aA (by unfold wy;walk_at "need")
def Wx (T:Txt W)(D:lN W.K (W.cl 2) "ended" "Draft.ended" js jT)(R1:lP W.P W.w W.K W.mg W.base "NoSheet" (W.cl 3) "at" (d9 false))(F1:xm W)(F2:qZ W):yy W:=by unfold yy qr;exact QY (c:=2) (W:=W) (k:=43) D J4 WV rfl aA (by unfold vF;walk_at "need")
def zaY (T:Txt W)(D:Df W.K W.mg "is_name" vX yc):Qf W:=by unfold Qf xK;exact qt (W:=W) (k:=0) D zaC zcW rfl aA (by unfold QD;walk_at "need")
def Wy (T:Txt W)(D:Df W.K W.mg "is_own_name" jt jU)(F1:Qf W):yz W:=by unfold yz qR;exact qt (W:=W) (k:=1) D J5 WW rfl aA (by unfold vG;walk_at "need")
def KD (T:Txt W)(D:Df W.K W.mg "token_of" xT vq)(F1:Qf W)(F2:yz W):QK W:=by unfold QK wz;exact qt (W:=W) (k:=2) D Y2 zaF rfl aA (by unfold Zq;walk_at "need")
def KG (T:Txt W)(D:Df W.K W.mg "token_at" xU vt)(F1:QK W):QL W:=by unfold QL qI;exact qt (W:=W) (k:=3) D Y3 zaG rfl aA (by unfold Zr;walk_at "need")
def W0 (T:Txt W)(D:Df W.K W.mg "sheet_read" jV wF)(F1:Zw W)(F2:xl W)(F3:ky W)(F4:yy W)(F5:QL W):vB W:=by unfold vB zQ;exact qt (W:=W) (k:=44) D WJ VD rfl aA (by unfold yf;walk_at "need")
def Wz (T:Txt W)(D:Df W.K W.mg "_law_cell_at" jc jA):wO W:=by unfold wO zz;exact qt (W:=W) (k:=0) D Q8 Wf rfl aA (by unfold xZ;walk_at "need")
def V1 (T:Txt W)(D:Df W.K W.mg "_law_mixed" jW wG):xi W:=by unfold xi zB;exact qt (W:=W) (k:=0) D WK VE rfl aA (by unfold yg;walk_at "need")
def KI (T:Txt W)(D:Df W.K W.mg "_law_rest" wX xB)(F1:xi W):Zx W:=by unfold Zx xb;exact qt (W:=W) (k:=1) D Vv Ka rfl aA (by unfold kj;walk_at "need")
def V2 (T:Txt W)(D:Df W.K W.mg "_law_names" jX wH)(F1:xi W):kz W:=by unfold kz jk;exact qt (W:=W) (k:=1) D WL VF rfl aA (by unfold yh;walk_at "need")
def zaZ (T:Txt W)(D:Df W.K W.mg "_law_put" xV vv):v5 W:=by unfold v5 zV;exact qt (W:=W) (k:=0) D Y4 zaH rfl aA (by unfold Zs;walk_at "need")
def KJ (T:Txt W)(D:Df W.K W.mg "_law_shut" wY xC)(F1:v5 W):yA W:=by unfold yA jK;exact qt (W:=W) (k:=1) D Vw Kb rfl aA (by unfold km;walk_at "need")
def V3 (T:Txt W)(D:Df W.K W.mg "_law_signs" jY wI):kA W:=by unfold kA wa;exact qt (W:=W) (k:=0) D WM VG rfl aA (by unfold yi;walk_at "need")
def WA (T:Txt W)(D:Df W.K W.mg "_law_literal" jd jB)(F1:kA W)(F2:v5 W):vK W:=by unfold vK jh;exact qt (W:=W) (k:=1) D Q9 Wg rfl aA (by unfold vc;walk_at "need")
def W2 (T:Txt W)(D:Df W.K W.mg "_law_opened" ju jZ):yB W:=by unfold yB qS;exact qt (W:=W) (k:=0) D J9 WX rfl aA (by unfold vH;walk_at "need")
def KL (T:Txt W)(D:Df W.K W.mg "_law_word" wZ xD)(F1:v5 W)(F2:yA W):Zy W:=by unfold Zy xc;exact qt (W:=W) (k:=2) D Vx Kc rfl aA (by unfold jL;walk_at "need")
def V4 (T:Txt W)(D:Df W.K W.mg "_law_token" j0 wJ)(F1:vK W)(F2:yB W)(F3:Zy W):kB W:=by unfold kB wb;exact qt (W:=W) (k:=3) D WN VH rfl aA (by unfold xG;walk_at "need")
def KN (T:Txt W)(D:Df W.K W.mg "_law_made" w6 xE)(F1:wO W)(F2:Zx W)(F3:kz W)(F4:yA W)(F5:kB W):Zz W:=by unfold Zz xf;exact qt (W:=W) (k:=4) D Vy Ke rfl aA (by unfold kn;walk_at "need")
def V5 (T:Txt W)(D:Df W.K W.mg "_law_stack" j5 wK):vC W:=by unfold vC qJ;exact qt (W:=W) (k:=0) D WO VI rfl aA (by unfold yj;walk_at "need")
def V6 (T:Txt W)(D:Df W.K W.mg "_law_named" j6 wL):vD W:=by unfold vD jl;exact qt (W:=W) (k:=0) D WQ VJ rfl aA (by unfold yk;walk_at "need")
def za0 (T:Txt W)(D:Df W.K W.mg "_law_odd" xW vx):QM W:=by unfold QM vd;exact qt (W:=W) (k:=0) D Y5 zaI rfl aA (by unfold Zt;walk_at "need")
def V7 (T:Txt W)(D:Df W.K W.mg "_law_wrong" j7 wM)(F1:vC W)(F2:vD W)(F3:QM W):kC W:=by unfold kC qo;exact qt (W:=W) (k:=1) D WR VL rfl aA (by unfold zF;walk_at "need")
def WC (T:Txt W)(D:Df W.K W.mg "_law_refused" je jC)(F1:vB W):vL W:=by unfold vL zW;exact qt (W:=W) (k:=45) D Ja Wh rfl aA (by unfold ve;walk_at "need")
def zda (T:Txt W)(D:Df W.K W.mg "_law_is" vY yd):Wv W:=by unfold Wv jM;exact qt (W:=W) (k:=0) D zaD zcX rfl aA (by unfold QF;walk_at "need")
def V8 (T:Txt W)(D:Df W.K W.mg "_law_other" j8 wN):kD W:=by unfold kD wc;exact qt (W:=W) (k:=0) D WU VM rfl aA (by unfold yl;walk_at "need")
def KQ (T:Txt W)(D:Df W.K W.mg "_law_full" xa xF)(F1:vD W):ZA W:=by unfold ZA xg;exact qt (W:=W) (k:=1) D Vz Kf rfl aA (by unfold vz;walk_at "need")
def za1 (T:Txt W)(D:Df W.K W.mg "_law_cut" xX vy)(F1:vC W):QN W:=by unfold QN vf;exact qt (W:=W) (k:=1) D Y6 zaJ rfl aA (by unfold yo;walk_at "need")
def IJ (T:Txt W)(D:Df W.K W.mg "law" Y7 VA)(F1:vB W)(F2:wO W)(F3:xi W)(F4:Zz W)(F5:kC W)(F6:vL W)(F7:Wv W)(F8:kD W)(F9:ZA W)(F10:QN W):tX W.P W.w W.K W.mg W.base 47 "law" VA (YW W.K):=
 Nc (W:=W) (k:=46) D Ls aA Iy (by unfold xr;walk_at "need") λns h=>O8 ns h
end
end My
set_option maxHeartbeats 0
open PySem L2 L5 PySem.Spec PyProof.Rows
namespace My
noncomputable def clA:Nat->Addr
 | 0=>245
 | 1=>287
 | 2=>343
 | 3=>120
 | 4=>139
 | 5=>151
 | 6=>44
 | 7=>24
 | 8=>63
 | 9=>82
 | 10=>101
 | 11=>170
 | 12=>189
 | _=>0
abbrev wd (P:Program)(w:World)(K:Le)(mg:La)(base:Heap):Wd:=⟨K,clA,mg,P,w,base⟩
theorem len0 {P:Lf->Prop}(h:P []):∀ us,us.length=0->P us
 | [],_=>h
theorem de {P:Lf->Prop}(h:∀ a0,P [a0]):∀ us,us.length=1->P us
 | [a0],_=>h a0
theorem dz {P:Lf->Prop}(h:∀ a0 a1,P [a0,a1]):∀ us,us.length=2->P us
 | [a0,a1],_=>h a0 a1
theorem fR {P:Lf->Prop}(h:∀ a0 a1 a2,P [a0,a1,a2]):∀ us,us.length=3->P us
 | [a0,a1,a2],_=>h a0 a1 a2
theorem rM {P:Lf->Prop}(h:∀ a0 a1 a2 a3,P [a0,a1,a2,a3]):∀ us,us.length=4->P us
 | [a0,a1,a2,a3],_=>h a0 a1 a2 a3
theorem Bm {P:Lf->Prop}(h:∀ a0 a1 a2 a3 a4,P [a0,a1,a2,a3,a4]):∀ us,us.length=5->P us
 | [a0,a1,a2,a3,a4],_=>h a0 a1 a2 a3 a4
abbrev BA (m x:Str)(st:Stmt)(ps:Lh):Prop:=∀ (kV doc pm:Value) (an:Option Addr) (cdv ct:Value) (us:Lf),us.length=ps.length->bindArgs (PySem.W.fnOf m x (jN st) (zf st) (zc st) .none kV doc pm an cdv ct) ⟨us,[]⟩=pure (ps.zip us)
abbrev LA (K:Le)(m x:Str)(st:Stmt)(f cd:Addr)(pm:Value):Prop:=K.lookup f=some ⟨.type "function",none,.func (PySem.W.fnOf m x (jN st) (zf st) (zc st) .none .none .none pm none (.ref cd) .none),#[]⟩/\PySem.W.codeIn K (.ref cd) x=true/\PySem.W.keepIn K (.ref f)=true
section
variable {K:Le} {mg:La} {h:Heap}
def dG (x:Str)(st:Stmt)(ps:Lh)(f cd:Addr)(pm:Value)(X:K.In h)(G:h.Ns mainGlobals mg)(b:BA x x st ps)(a:PySem.W.nsIn K mainGlobals x=some (some (.ref f))/\LA K x x st f cd pm):Df K mg x st ps:=Lw X G b a.1 a.2.1 a.2.2.1 a.2.2.2
def ft (C:Addr)(m x:Str)(st:Stmt)(ps:Lh)(f cd:Addr)(pm:Value)(b:BA m x st ps)(a:LA K m x st f cd pm)(cl:dU K C)(mt:Meth K C m f):lN K C m x st ps:=⟨f,_,yL a.1 a.2.1 a.2.2,(yL a.1 a.2.1 a.2.2).binds b,cl,mt⟩
def nu (C:Addr)(y x:Str)(st:Stmt)(ps:Lh)(f cd:Addr)(pm:Value)(X:K.In h)(G:h.Ns mainGlobals mg)(b:BA "__init__" x st ps)(a:PySem.W.nsIn K mainGlobals y=some (some (.ref C))/\LA K "__init__" x st f cd pm)(mk:Mk K C f):sH K mg C y x st ps:=⟨f,_,yL a.2.1 a.2.2.1 a.2.2.2,(yL a.2.1 a.2.2.1 a.2.2.2).binds b,mk,uU X G a.1⟩
def ni {C:Addr}{x:Str}{st:Stmt}{ps:Lh}{f cd:Addr}{pm:Value}(b:BA "__init__" x st ps)(a:yN K C=some (some (.ref f))/\LA K "__init__" x st f cd pm):mQ K C x st ps:=O7 b a.1 a.2.1 a.2.2.1 a.2.2.2
end
def KR {α:Type}{a b:α}{as bs:List α}(h:a=b)(k:as=bs):a::as=b::bs:=by rw[h,k]
section
local macro_rules | `(tactic| walk_at "r") => `(tactic| exact ⟨by kernel_rfl!, by kernel_rfl!, by kernel_rfl!, by kernel_rfl!⟩)
local macro_rules | `(tactic| walk_at "q") => `(tactic| exact ⟨by kernel_rfl!, by kernel_rfl!, by kernel_rfl!⟩)
local macro_rules | `(tactic| walk_at "m") => `(tactic| repeat (first | exact List.forall_mem_nil _ | refine gn.mpr ⟨by first | exact ⟨Qn (by kernel_rfl!), by kernel_rfl!⟩ | kernel_rfl!, ?_⟩))
local macro_rules | `(tactic| rfl) => `(tactic| kernel_rfl!)
def nA {l:PySem.W.OpenLaw}{w:World}{h:Heap}{mg:La}{fa:Addr}(X:(KH w.params).In h)(G:h.Ns mainGlobals mg)(hfa:mg "law" = some (.ref fa)) : ∃ fd:FuncData,(∀ (s:Shared) (v:Value),BindsTo s fd ⟨[v],[]⟩ [("_law_script",v)])/\∀ base:Heap,(KH w.params).In base->base.Ns mainGlobals mg->dA l.prog w (KH w.params) mg base mE 47 fa fd ["_law_script"] (YW (KH w.params)):=by
 have aa:dU (KH w.params) 343:=by walk_at "r"
 have ab:dU (KH w.params) 287:=by walk_at "r"
 have ae:dU (KH w.params) 245:=by walk_at "r"
 have bz:=dG "copied" vV xJ 196 195 Fg X G (λ_ _ _ _ _ _=>de λ_=>rfl) (by walk_at "r");have ci:=dG "is_name" vX yc 208 207 tG X G (λ_ _ _ _ _ _=>de λ_=>rfl) (by walk_at "r");have ch:=dG "need_text" wW xA 215 214 tG X G (λ_ _ _ _ _ _=>de λ_=>rfl) (by walk_at "r");have b2:=nu 245 "Sheet" "Sheet.__init__" qA qY 237 236 cT X G (λ_ _ _ _ _ _=>fR λ_ _ _=>rfl) (by walk_at "r") (by walk_at "r");have cj:=nu 287 "Opened" "Opened.__init__" qh qG 263 262 cT X G (λ_ _ _ _ _ _=>fR λ_ _ _=>rfl) (by walk_at "r") (by walk_at "r");have bd:=ft 287 "add_piece" "Opened.add_piece" qa qx 270 269 cT (λ_ _ _ _ _ _=>dz λ_ _=>rfl) (by walk_at "q") ab (by walk_at "q");have bo:=ft 287 "takes_else" "Opened.takes_else" z0 qi 277 276 cT (λ_ _ _ _ _ _=>de λ_=>rfl) (by walk_at "q") ab (by walk_at "q");have bl:=ft 287 "whole" "Opened.whole" jb jz 284 283 cT (λ_ _ _ _ _ _=>de λ_=>rfl) (by walk_at "q") ab (by walk_at "q");have bt:=nu 343 "Draft" "Draft.__init__" qz qX 305 304 cT X G (λ_ _ _ _ _ _=>de λ_=>rfl) (by walk_at "r") (by walk_at "r");have a9:=ft 343 "is_outside" "Draft.is_outside" qb qy 312 311 cT (λ_ _ _ _ _ _=>de λ_=>rfl) (by walk_at "q") aa (by walk_at "q");have c2:=ft 343 "can_stand" "Draft.can_stand" qj qH 319 318 cT (λ_ _ _ _ _ _=>fR λ_ _ _=>rfl) (by walk_at "q") aa (by walk_at "q");have bi:=ft 343 "begin_piece" "Draft.begin_piece" z4 qk 326 325 cT (λ_ _ _ _ _ _=>fR λ_ _ _=>rfl) (by walk_at "q") aa (by walk_at "q");have ax:=ft 343 "take" "Draft.take" jS wD 333 332 cT (λ_ _ _ _ _ _=>fR λ_ _ _=>rfl) (by walk_at "q") aa (by walk_at "q");have ck:=ft 343 "ended" "Draft.ended" js jT 340 339 cT (λ_ _ _ _ _ _=>dz λ_ _=>rfl) (by walk_at "q") aa (by walk_at "q");have a3:=dG "is_own_name" jt jU 354 353 cT X G (λ_ _ _ _ _ _=>de λ_=>rfl) (by walk_at "r");have cb:=dG "token_of" xT vq 361 360 cT X G (λ_ _ _ _ _ _=>de λ_=>rfl) (by walk_at "r");have c4:=dG "token_at" xU vt 368 367 cT X G (λ_ _ _ _ _ _=>dz λ_ _=>rfl) (by walk_at "r");have cq:=dG "sheet_read" jV wF 375 374 cT X G (λ_ _ _ _ _ _=>de λ_=>rfl) (by walk_at "r");have bh:=dG "_law_cell_at" jc jA 382 381 bS X G (λ_ _ _ _ _ _=>dz λ_ _=>rfl) (by walk_at "r");have a2:=dG "_law_mixed" jW wG 389 388 bS X G (λ_ _ _ _ _ _=>dz λ_ _=>rfl) (by walk_at "r");have bn:=dG "_law_rest" wX xB 396 395 bS X G (λ_ _ _ _ _ _=>de λ_=>rfl) (by walk_at "r");have a4:=dG "_law_signs" jY wI 403 402 bS X G (λ_ _ _ _ _ _=>len0 rfl) (by walk_at "r");have b4:=dG "_law_names" jX wH 410 409 bS X G (λ_ _ _ _ _ _=>dz λ_ _=>rfl) (by walk_at "r");have c3:=dG "_law_put" xV vv 417 416 bS X G (λ_ _ _ _ _ _=>dz λ_ _=>rfl) (by walk_at "r");have cl:=dG "_law_shut" wY xC 424 423 bS X G (λ_ _ _ _ _ _=>de λ_=>rfl) (by walk_at "r");have b5:=dG "_law_literal" jd jB 431 430 bS X G (λ_ _ _ _ _ _=>dz λ_ _=>rfl) (by walk_at "r");have b7:=dG "_law_opened" ju jZ 438 437 bS X G (λ_ _ _ _ _ _=>rM λ_ _ _ _=>rfl) (by walk_at "r");have db:=dG "_law_word" wZ xD 443 442 bS X G (λ_ _ _ _ _ _=>rM λ_ _ _ _=>rfl) (by walk_at "r");have aq:=dG "_law_token" j0 wJ 450 449 bS X G (λ_ _ _ _ _ _=>Bm λ_ _ _ _ _=>rfl) (by walk_at "r");have cn:=dG "_law_made" w6 xE 457 456 bS X G (λ_ _ _ _ _ _=>dz λ_ _=>rfl) (by walk_at "r");have az:=dG "_law_stack" j5 wK 464 463 bS X G (λ_ _ _ _ _ _=>de λ_=>rfl) (by walk_at "r");have a0:=dG "_law_named" j6 wL 469 468 bS X G (λ_ _ _ _ _ _=>de λ_=>rfl) (by walk_at "r");have be:=dG "_law_odd" xW vx 474 473 bS X G (λ_ _ _ _ _ _=>de λ_=>rfl) (by walk_at "r");have cz:=dG "_law_wrong" j7 wM 479 478 bS X G (λ_ _ _ _ _ _=>fR λ_ _ _=>rfl) (by walk_at "r");have cu:=dG "_law_refused" je jC 486 485 bS X G (λ_ _ _ _ _ _=>de λ_=>rfl) (by walk_at "r");have b3:=dG "_law_is" vY yd 493 492 bS X G (λ_ _ _ _ _ _=>dz λ_ _=>rfl) (by walk_at "r");have c1:=dG "_law_other" j8 wN 500 499 bS X G (λ_ _ _ _ _ _=>fR λ_ _ _=>rfl) (by walk_at "r");have a7:=dG "_law_full" xa xF 505 504 bS X G (λ_ _ _ _ _ _=>dz λ_ _=>rfl) (by walk_at "r");have bk:=dG "_law_cut" xX vy 510 509 bS X G (λ_ _ _ _ _ _=>dz λ_ _=>rfl) (by walk_at "r");have aj:=dG "law" Y7 VA 517 516 bS X G (λ_ _ _ _ _ _=>de λ_=>rfl) (by walk_at "r");have bv:Str.ofString " !\"#$&'()*+,-./0123456789:;<=>?@ABCDEFGHIJKLMNOPQRSTUVWXYZ[\\]^_`abcdefghijklmnopqrstuvwxyz{|}~" = S oa:=aE
 have ca:Str.ofString "abcdefghijklmnopqrstuvwxyz" = S oe:=aE
 have co:(KH w.params).lookup 216=some ⟨.type "tuple",none,.seq #[(.str "each" 470),(.str "if" 471),(.str "else" 472),(.str "end" 473),(.str "block" 474),(.str "elder" 475),(.str "draw" 476),(.str "over" 477)] 0,#[]⟩:=aC
 have cr:∀ F:Hp,bP (KH w.params) F 216 [.str (S ot),.str (S oy),.str (S oi),.str (S ou),.str (S og),.str (S oh),.str (S oz),.str (S ow)]:=λ_=>.inr ⟨_,_,_,co,rfl,rfl,aA,by repeat' (first | exact .nil | refine .cons ⟨_,rfl⟩ ?_)⟩;have c7:(KH w.params).lookup 218=some ⟨.type "tuple",none,.seq #[(.str "lit" 480),(.str "{" 481)] 0,#[]⟩:=aC
 have ct:∀ F:Hp,bP (KH w.params) F 218 [.str (S oq),.str (S [123])]:=λ_=>.inr ⟨_,_,_,c7,rfl,rfl,aA,by repeat' (first | exact .nil | refine .cons ⟨_,rfl⟩ ?_)⟩;have b6:(KH w.params).lookup 219=some ⟨.type "tuple",none,.seq #[(.str "lit" 483),(.str "}" 484)] 0,#[]⟩:=aC
 have bq:∀ F:Hp,bP (KH w.params) F 219 [.str (S oq),.str (S [125])]:=λ_=>.inr ⟨_,_,_,b6,rfl,rfl,aA,by repeat' (first | exact .nil | refine .cons ⟨_,rfl⟩ ?_)⟩;have bx:(KH w.params).lookup 220=some ⟨.type "tuple",none,.seq #[(.str "else" 486)] 0,#[]⟩:=aC
 have cv:∀ F:Hp,bP (KH w.params) F 220 [.str (S oi)]:=λ_=>.inr ⟨_,_,_,bx,rfl,rfl,aA,by repeat' (first | exact .nil | refine .cons ⟨_,rfl⟩ ?_)⟩;have ce:(KH w.params).lookup 221=some ⟨.type "tuple",none,.seq #[(.str "end" 488)] 0,#[]⟩:=aC
 have a8:∀ F:Hp,bP (KH w.params) F 221 [.str (S ou)]:=λ_=>.inr ⟨_,_,_,ce,rfl,rfl,aA,by repeat' (first | exact .nil | refine .cons ⟨_,rfl⟩ ?_)⟩;have bb:(KH w.params).lookup 222=some ⟨.type "tuple",none,.seq #[(.str "elder" 490)] 0,#[]⟩:=aC
 have c8:∀ F:Hp,bP (KH w.params) F 222 [.str (S oh)]:=λ_=>.inr ⟨_,_,_,bb,rfl,rfl,aA,by repeat' (first | exact .nil | refine .cons ⟨_,rfl⟩ ?_)⟩;have cf:(KH w.params).lookup 217=some ⟨.type "dict",none,.dict #[(en w.params "(" 479 (.ref 218)),(en w.params ")" 482 (.ref 219)),(en w.params "else" 485 (.ref 220)),(en w.params "end" 487 (.ref 221)),(en w.params "elder" 489 (.ref 222))] 5,#[]⟩:=aC
 have ba:(KH w.params).lookup 223=some ⟨.type "tuple",none,.seq #[(.str "each" 497),(.str "if" 498),(.str "block" 499)] 0,#[]⟩:=aC
 have cs:∀ F:Hp,bP (KH w.params) F 223 [.str (S ot),.str (S oy),.str (S og)]:=λ_=>.inr ⟨_,_,_,ba,rfl,rfl,aA,by repeat' (first | exact .nil | refine .cons ⟨_,rfl⟩ ?_)⟩;have bs:mQ (KH w.params) 44 "NoSign.__init__" Zp ["self","at"]:=ni (f:=41) (pm:=eK) (cd:=40) (λ_ _ _ _ _ _=>dz λ_ _=>rfl) (by walk_at "r");have bg:mQ (KH w.params) 139 "Twice.__init__" QC ["self","name"]:=ni (f:=136) (pm:=eK) (cd:=135) (λ_ _ _ _ _ _=>dz λ_ _=>rfl) (by walk_at "r");have cx:mQ (KH w.params) 120 "NoSheet.__init__" kh ["self","at"]:=ni (f:=117) (pm:=eK) (cd:=116) (λ_ _ _ _ _ _=>dz λ_ _=>rfl) (by walk_at "r");refine NW aj hfa (λ_ _ _ _ _ _ s v=>.of_eq rfl) λbase=>?_;have T:Txt (wd l.prog w (KH w.params) mg base):=⟨⟨rfl,.str (S oa),λ_=>⟨rfl,aA⟩,.str (Str.ofString " !\"#$&'()*+,-./0123456789:;<=>?@ABCDEFGHIJKLMNOPQRSTUVWXYZ[\\]^_`abcdefghijklmnopqrstuvwxyz{|}~") 443,uU X G aC,⟨_,by rw[bv]⟩⟩,⟨rfl,.str (S oe),λ_=>⟨rfl,aA⟩,.str (Str.ofString "abcdefghijklmnopqrstuvwxyz") 445,uU X G aC,⟨_,by rw[ca]⟩⟩,⟨rfl,.int 8,λ_=>rfl,.int 8 447,uU X G aC,⟨_,rfl⟩⟩,⟨rfl,.int 2000,λ_=>rfl,.int 2000 466,uU X G aC,⟨_,rfl⟩⟩,⟨rfl,.int 12,λ_=>rfl,.int 12 468,uU X G aC,⟨_,rfl⟩⟩,⟨rfl,.ref 216,λF=>⟨_,_,rfl,cr F,rfl,⟨_,_,rfl,⟨rfl,aA⟩,⟨_,_,rfl,⟨rfl,aA⟩,⟨_,_,rfl,⟨rfl,aA⟩,⟨_,_,rfl,⟨rfl,aA⟩,⟨_,_,rfl,⟨rfl,aA⟩,⟨_,_,rfl,⟨rfl,aA⟩,⟨_,_,rfl,⟨rfl,aA⟩,⟨_,_,rfl,⟨rfl,aA⟩,rfl⟩⟩⟩⟩⟩⟩⟩⟩⟩,_,uU (v:=.ref 216) X G aC,rfl⟩,⟨217,[(.inr (S [40]),.ref 218),(.inr (S [41]),.ref 219),(.inr (S oi),.ref 220),(.inr (S ou),.ref 221),(.inr (S oh),.ref 222)],uU (v:=.ref 217) X G aC,⟨aA,_,_,_,cf,⟨rfl,rfl,rfl⟩,rfl,by repeat' (first | exact eE.nil | refine eE.cons rfl rfl rfl ?_ | refine eE.cons rfl rfl ⟨_,rfl⟩ ?_),aE⟩,⟨_,_,rfl,⟨rfl,λF=>⟨_,_,rfl,ct F,rfl,⟨_,_,rfl,⟨rfl,aA⟩,⟨_,_,rfl,⟨rfl,aA⟩,rfl⟩⟩⟩⟩,⟨_,_,rfl,⟨rfl,λF=>⟨_,_,rfl,bq F,rfl,⟨_,_,rfl,⟨rfl,aA⟩,⟨_,_,rfl,⟨rfl,aA⟩,rfl⟩⟩⟩⟩,⟨_,_,rfl,⟨rfl,λF=>⟨_,_,rfl,cv F,rfl,⟨_,_,rfl,⟨rfl,aA⟩,rfl⟩⟩⟩,⟨_,_,rfl,⟨rfl,λF=>⟨_,_,rfl,a8 F,rfl,⟨_,_,rfl,⟨rfl,aA⟩,rfl⟩⟩⟩,⟨_,_,rfl,⟨rfl,λF=>⟨_,_,rfl,c8 F,rfl,⟨_,_,rfl,⟨rfl,aA⟩,rfl⟩⟩⟩,rfl⟩⟩⟩⟩⟩⟩,⟨rfl,.ref 223,λF=>⟨_,_,rfl,cs F,rfl,⟨_,_,rfl,⟨rfl,aA⟩,⟨_,_,rfl,⟨rfl,aA⟩,⟨_,_,rfl,⟨rfl,aA⟩,rfl⟩⟩⟩⟩,_,uU (v:=.ref 223) X G aC,rfl⟩,uX X G aC,uX X G aC,uX X G aC,uX X G aC,uX X G aC,uX X G aC,uX X G aC,uX X G aC,uX X G aC,uX X G aC,⟨ae,by show _=_;kernel_rfl!⟩,⟨ae,by show _=_;kernel_rfl!⟩,⟨ab,by show _=_;kernel_rfl!⟩,⟨ab,by show _=_;kernel_rfl!⟩,⟨ab,by show _=_;kernel_rfl!⟩,⟨aa,by show _=_;kernel_rfl!⟩,⟨aa,by show _=_;kernel_rfl!⟩,⟨aa,by show _=_;kernel_rfl!⟩,⟨uU (v:=.ref 245) X G aC,ae,aC,aC,aC,aC,aC⟩,⟨24,uU (v:=.ref 24) X G aC,Qn aC,by walk_at "m"⟩,⟨uX X G aC,120,uU (v:=.ref 120) X G aC,by walk_at "m"⟩,⟨uX X G aC,139,uU (v:=.ref 139) X G aC,by walk_at "m"⟩,⟨uX X G aC,44,uU (v:=.ref 44) X G aC,by walk_at "m"⟩,⟨uX X G aC,151,uU (v:=.ref 151) X G aC,by walk_at "m"⟩,⟨uX X G aC,uX X G aC,by walk_at "m"⟩,⟨uX X G aC,[63,189,101,170,82],(KR (uU (v:=.ref 63) X G aC) (KR (uU (v:=.ref 189) X G aC) (KR (uU (v:=.ref 101) X G aC) (KR (uU (v:=.ref 170) X G aC) (KR (uU (v:=.ref 82) X G aC) rfl))))),aA,by walk_at "m"⟩,by walk_at "m",by walk_at "m",uU (v:=.ref 44) X G aC,Qn aC,aC,aC,uU (v:=.ref 139) X G aC,Qn aC,aC,aC,⟨uU (v:=.ref 151) X G aC,Qn aC,aC,aC⟩,uU (v:=.ref 120) X G aC,Qn aC,aC,aC,uU (v:=.ref 24) X G aC,aC⟩
 have br:=zaX T bs;have c5:=zc8 T bg;have ah:=KC T cx;have cg:=V0 T ch br;have am:=ZC T cj;have bm:=Qg T bt am;have bw:=Za T bd;have ag:=kE T bo;have a6:=Jb T bl ag;have ak:=Zb T a9;have cm:=ZD T c2 ag ak;have da:=kF T bi c5 am;have av:=WZ T ax ah bw a6 cm da;have cy:=zc9 T bz;have b0:=Qh T b2 cy;have b9:=Wx T ck ah b0 ak;have ai:=zaY T ci;have ar:=Wy T a3 ai;have c6:=KD T cb ai ar;have cc:=KG T c4 c6;have ao:=W0 T cq cg bm av b9 cc;have ap:=Wz T bh;have ac:=V1 T a2;have bu:=KI T bn ac;have c9:=V2 T b4 ac;have ad:=zaZ T c3;have af:=KJ T cl ad;have cw:=V3 T a4;have b8:=WA T b5 cw ad;have a5:=W2 T b7;have bp:=KL T db ad af;have a1:=V4 T aq b8 a5 bp;have b1:=KN T cn ap bu c9 af a1;have an:=V5 T az;have al:=V6 T a0;have c0:=za0 T be;have bf:=V7 T cz an al c0;have aw:=WC T cu ao;have bc:=zda T b3;have cp:=V8 T c1;have ay:=KQ T a7 al;have bj:=za1 T bk an;have au:=IJ T aj ao ap ac b1 bf aw bc cp ay bj;exact au
end
def walk {l:PySem.W.OpenLaw}{q:Program}{loose:Lh}{XP:(La)->Heap->Prop}{YP:World->Heap->Prop}{d:DefRec}{K:Params->Le}(hn:l.most=some 63)(hdf:d.params.defaults=[])
  (hY:∀ (w:World) (h:Heap),YP w h->(K w.params).In h)
  (F:∀ (w:World) (mg:La) (fa:Addr) (h:Heap),(K w.params).In h->h.Ns mainGlobals mg->mg d.name=some (.ref fa) ->
   ∃ fd:FuncData,(∀ (s:Shared) (u:Value),BindsTo s fd ⟨[u],[]⟩ [("_law_script",u)])/\∀ base:Heap,(K w.params).In base->base.Ns mainGlobals mg->dA l.prog w (K w.params) mg base mE 47 fa fd ["_law_script"] (YW (K w.params))) :
  PySem.W.WalkO q loose XP YP l.row.toRowW d [] (λf vs=>PySem.call f vs):=
 L2.Sv (n:=63) (k:=47) (x:="_law_script") (CX:=λ_=>mE) (sp:=λw=>YW (K w.params)) hn aA hdf ⟨rfl,aA,aA,rfl⟩ hY F (λ_ _ a ns hl _ hS=>⟨a,ns,rfl,hS,hl,λ_=>rfl⟩) λ_ _ _ _ _ z=>z
end My
open PySem PySem.W PyProof.Rows
set_option maxRecDepth 100000 in
set_option maxHeartbeats 0 in
theorem PySem.Challenge.cw_sealpress_k52_the_first_refusal_holds : PySem.Challenge.rw_sealpress_k52_the_first_refusal.Holds := by
  w_on; o_law;refine PySem.W.holds_open (q := My.lG) (loose := My.cZ) (Xt := My.sC) (XP := XL My.lG []) (Yf := Hook.obs My.HK) (Ya := Hook.val My.HK) (YP := Hook.says My.HK) (N := 4675) My.left (Hook.of My.HK) (Hook.keeps My.HK) (λs e => xl_of s (Bool.and_eq_true_iff.mp e).1) XL.keeps aC aC aC (λs e => recFacts_of (Bool.and_eq_true_iff.mp e).2) aC (by first | assumption | decide +kernel) aE ⟨rfl, rfl, rfl, rfl, rfl, by decide +kernel⟩ ?hw ?hc
  (case hw => w_witness2);exact My.walk (l := PySem.Challenge.rw_sealpress_k52_the_first_refusal) rfl rfl (λw h Y => PySem.W.kIn_of Y) (λw mg fa h KX G hmg => My.nA KX G hmg)
