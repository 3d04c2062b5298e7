import PyProof.Rows.All
import Wide.All
import OpenK.AllK
import Wide.FinOn
import Lean
import PyProof.EqAt
import PyProof.EqKinds
import PyProof.TupleCall
import PyProof.Draws
import PyProof.EnumMake
import PyProof.NeKinds
import PyProof.ZipIter
import PyProof.Rows.ZipGen
import PyProof.ReprRoads
import KE.KRevIter
import PyProof.StrLawsReplace
import PyProof.ToksMono
import PyProof.SliceList
import KE.KEqDict
import PySem.Challenge.RW_sealpress_k73_places_of_holes
set_option Elab.async false
set_option linter.all false
set_option genSizeOf false
set_option backward.match.sparseCases false
set_option compiler.extract_closed false
set_option bootstrap.genMatcherCode false
set_option maxRecDepth 100000
set_option maxHeartbeats 0
namespace L2
open PySem PySem.W
theorem left_run {p q:Program}{loose:List Str}{Xt:Shared->Bool}{α:Type}{Yf:Shared->α}{Ya:World->α}{N M m0:Nat}{ann:Option Value}{H0:Params->Heap}{g0:Array GenState}{d0:Drawn}{k0:Nat}
    (hb:∀ w:World,(fencedOpening treeTable p w N).map (fun s=>(s.heap,s.gens,s.drawn,s.toks))=some (H0 w.params,g0,d0,k0))
    (hz:∀ w:World,((H0 w.params).isNs mainGlobals&&g0.size == 0,(H0 w.params).objs.size,(H0 w.params).nsMap mainGlobals "__annotations__")=(true,m0,ann))
    (hr:∀ (w:World) (os:OsState),∃ s:Shared,topRun treeTable p w m0 ann M ⟨H0 w.params,g0,d0,k0,os⟩ (topStub p)=some s /\
      (staticsOk (importedModules p.main.body) (H0 w.params) s.heap&&namesBound p s.heap&&gensDone s&&laidKept (H0 w.params) s.heap)=true/\openSeen q loose (importedModules p.main.body) Xt true s=openGood q loose/\Yf s=Ya w)
    (hn:M<=N):LeftO p q loose Xt Yf Ya N:=fun w=>by
  obtain⟨s0,e,e'⟩:=Option.map_eq_some_iff.mp (hb w)
  obtain⟨h,gs,d,k,os⟩:=s0
  simp only [Prod.mk.injEq] at e'
  obtain⟨rfl,rfl,rfl,rfl⟩:=e'
  obtain⟨s,r,l1,l2,l3⟩:=hr w os
  have z:=hz w
  simp only [Prod.mk.injEq] at z
  obtain⟨z1,z2,z3⟩:=z
  obtain⟨x,rfl⟩:=Nat.exists_eq_add_of_le hn
  have r':=topRun_mono x _ _ _ _ r
  have t:topFrom treeTable p w (M+x) ⟨H0 w.params,gs,d,k,os⟩=some s:=by
    unfold topFrom
    simp only [z1,z2,z3,r',Option.bind_some,l1]
  unfold openEnds
  rw [e,Option.bind_some,t,Option.map_some,l2,l3]
end L2
namespace My
open PySem PySem.W
abbrev pw:Program:=PySem.Challenge.pw_sealpress_k73_places_of_holes
noncomputable def tp (i:Nat):Stmt:=pw.main.body.getD i (.Pass ⟨0,0,0,0⟩)
noncomputable def tc (i j:Nat):Stmt:=match tp i with
  | .ClassDef _ _ _ body _ _ _ _ _ _ _=>body.getD j (.Pass ⟨0,0,0,0⟩)
  | _=>.Pass ⟨0,0,0,0⟩
noncomputable def fnO (s:Stmt)(nm q:Str)(g:Addr)(cl:List (Str×Addr))(df kd dc pm:Value)(an:Option Addr)(cd ct:Value)(bl:Addr):Data:=match s with
  | .FunctionDef _ a b _ _ _ sc _ _ _=>.func ⟨nm,q,a,.stmts b,sc,g,cl,df,kd,dc,pm,an,cd,ct,bl⟩
  | _=>.plain
noncomputable def en (P:Params)(k:Str)(t:Nat)(v:Value):DictEntry:=⟨PyData.keyHash P k,.str k t,v⟩
noncomputable def o11 (_:Params):Obj:={ cls:=.type "tuple",data:=.seq #[] }
noncomputable def o12 (_:Params):Obj:={ cls:=.none,data:=.fields #[] }
noncomputable def o13 (_:Params):Obj:={ cls:=.type "code",data:=.fields #[.str "<module>" 182,.str "<module>" 183,.str "/claim/cut.py" 184,.int 1 0,.int 0 0,.int 0 0,.int 0 0,.int 0 0,.ref 11,.bool false,.int 181 0,.ref 12,.none,.none,.none,.none,.int 185 0,.int 1 0,.str "/claim/cut.py" 186] }
noncomputable def o14 (_:Params):Obj:={ cls:=.type "frame",slots:=#[some (.ref 13),some (.ref 3),some (.ref 3),none,some (.str "__main__" 164),none,some (.ref 0)] }
noncomputable def x0 (P:Params):Obj:=⟨(.type "dict"),none,(.dict #[(en P "__name__" 165 (.str "sealpress.modes" 760)),(en P "__doc__" 166 .none),(en P "__package__" 167 .none),(en P "__loader__" 168 (.builtin "__main__.__loader__#opaque")),(en P "__spec__" 169 .none),(en P "__annotations__" 170 (.ref 6)),(en P "__builtins__" 171 (.ref 4)),(en P "__file__" 173 (.str "/claim/cut.py" 172)),(en P "__cached__" 174 .none),(en P "SealError" 206 (.ref 24)),(en P "NoSign" 231 (.ref 44)),(en P "NoCode" 256 (.ref 63)),(en P "Unread" 281 (.ref 82)),(en P "Unended" 297 (.ref 94)),(en P "NoPage" 322 (.ref 113)),(en P "NoName" 347 (.ref 132)),(en P "NoSheet" 372 (.ref 151)),(en P "Twice" 397 (.ref 170)),(en P "TooMany" 413 (.ref 182)),(en P "Unknown" 438 (.ref 201)),(en P "RingOver" 463 (.ref 220)),(en P "Ringed" 488 (.ref 239)),(en P "NoElder" 513 (.ref 258)),(en P "Astray" 540 (.ref 277)),(en P "NoPlace" 567 (.ref 296)),(en P "Unlike" 596 (.ref 315)),(en P "LeftOpen" 621 (.ref 334)),(en P "NoValue" 646 (.ref 353)),(en P "NoKind" 671 (.ref 372)),(en P "NoRow" 687 (.ref 384)),(en P "SIGNS" 691 (.str " !\"#$&'()*+,-./0123456789:;<=>?@ABCDEFGHIJKLMNOPQRSTUVWXYZ[\\]^_`abcdefghijklmnopqrstuvwxyz{|}~" 690)),(en P "FIGURES" 693 (.str "0123456789" 692)),(en P "LETTERS" 695 (.str "abcdefghijklmnopqrstuvwxyz" 694)),(en P "LONGEST_NAME" 697 (.int 8 696)),(en P "sign_of" 704 (.ref 393)),(en P "sign_told" 712 (.ref 400)),(en P "WORDSIGNS" 714 (.str "abcdefghijklmnopqrstuvwxyz0123456789-" 713)),(en P "PLACE_MODES" 721 (.ref 401)),(en P "place_of" 728 (.ref 408)),(en P "fed_between" 737 (.ref 415)),(en P "fed_word" 744 (.ref 422)),(en P "fed_said" 751 (.ref 429)),(en P "feed" 759 (.ref 436)),(en P "ASIS_END" 763 (.str "</asis>" 762)),(en P "MARK_FIGURES" 765 (.int 2 764)),(en P "come_to" 774 (.ref 443)),(en P "told" 783 (.ref 450)),(en P "gathered" 794 (.ref 457)),(en P "box_shut" 802 (.ref 464)),(en P "into_box" 811 (.ref 471)),(en P "led_on" 820 (.ref 478)),(en P "fed" 830 (.ref 485)),(en P "mark_ended" 838 (.ref 492)),(en P "at_text" 848 (.ref 499)),(en P "at_mark" 858 (.ref 506)),(en P "at_open" 868 (.ref 513)),(en P "at_name" 878 (.ref 520)),(en P "at_slash" 888 (.ref 527)),(en P "at_shut" 898 (.ref 534)),(en P "at_gap" 908 (.ref 541)),(en P "at_attr" 918 (.ref 548)),(en P "at_is" 928 (.ref 555)),(en P "at_bang" 938 (.ref 562)),(en P "at_bare" 948 (.ref 569)),(en P "at_code" 958 (.ref 576)),(en P "at_row" 968 (.ref 583)),(en P "at_stroke" 978 (.ref 590)),(en P "at_quoted" 988 (.ref 597)),(en P "at_qmark" 998 (.ref 604)),(en P "at_done" 1008 (.ref 611)),(en P "at_talk" 1018 (.ref 618)),(en P "at_tmark" 1028 (.ref 625)),(en P "at_asis" 1034 (.ref 630))] 73),#[]⟩
noncomputable def x1 (_:Params):Obj:=⟨.none,none,(.fields #[(.int 2 0),(.int 0 0),(.ref 20),(.int 4 0),(.int 0 0),(.ref 33),(.int 9 0),(.int 0 0),(.ref 52),(.int 14 0),(.int 0 0),(.ref 71),(.int 19 0),(.int 0 0),(.ref 90),(.int 21 0),(.int 0 0),(.ref 102),(.int 26 0),(.int 0 0),(.ref 121),(.int 31 0),(.int 0 0),(.ref 140),(.int 36 0),(.int 0 0),(.ref 159),(.int 41 0),(.int 0 0),(.ref 178),(.int 43 0),(.int 0 0),(.ref 190),(.int 48 0),(.int 0 0),(.ref 209),(.int 53 0),(.int 0 0),(.ref 228),(.int 58 0),(.int 0 0),(.ref 247),(.int 63 0),(.int 0 0),(.ref 266),(.int 69 0),(.int 0 0),(.ref 285),(.int 75 0),(.int 0 0),(.ref 304),(.int 82 0),(.int 0 0),(.ref 323),(.int 87 0),(.int 0 0),(.ref 342),(.int 92 0),(.int 0 0),(.ref 361),(.int 97 0),(.int 0 0),(.ref 380),(.int 104 0),(.int 0 0),(.ref 392),(.int 106 0),(.int 0 0),(.ref 399),(.int 114 0),(.int 0 0),(.ref 407),(.int 119 0),(.int 0 0),(.ref 414),(.int 127 0),(.int 0 0),(.ref 421),(.int 131 0),(.int 0 0),(.ref 428),(.int 137 0),(.int 0 0),(.ref 435),(.int 150 0),(.int 0 0),(.ref 442),(.int 152 0),(.int 0 0),(.ref 449),(.int 156 0),(.int 0 0),(.ref 456),(.int 160 0),(.int 0 0),(.ref 463),(.int 164 0),(.int 0 0),(.ref 470),(.int 169 0),(.int 0 0),(.ref 477),(.int 177 0),(.int 0 0),(.ref 484),(.int 182 0),(.int 0 0),(.ref 491),(.int 184 0),(.int 0 0),(.ref 498),(.int 190 0),(.int 0 0),(.ref 505),(.int 194 0),(.int 0 0),(.ref 512),(.int 200 0),(.int 0 0),(.ref 519),(.int 204 0),(.int 0 0),(.ref 526),(.int 208 0),(.int 0 0),(.ref 533),(.int 214 0),(.int 0 0),(.ref 540),(.int 218 0),(.int 0 0),(.ref 547),(.int 230 0),(.int 0 0),(.ref 554),(.int 234 0),(.int 0 0),(.ref 561),(.int 238 0),(.int 0 0),(.ref 568),(.int 244 0),(.int 0 0),(.ref 575),(.int 248 0),(.int 0 0),(.ref 582),(.int 256 0),(.int 0 0),(.ref 589),(.int 258 0),(.int 0 0),(.ref 596),(.int 264 0),(.int 0 0),(.ref 603),(.int 268 0),(.int 0 0),(.ref 610),(.int 270 0),(.int 0 0),(.ref 617),(.int 276 0),(.int 0 0),(.ref 624),(.int 280 0),(.int 0 0),(.ref 629)]),#[]⟩
noncomputable def x2 (_:Params):Obj:=⟨(.type "tuple"),none,(.seq #[(.type "ValueError")] 0),#[]⟩
noncomputable def x3 (_:Params):Obj:=⟨(.type "builtin_function_or_method"),none,(.fields #[(.builtin "type.__prepare__"),(.type "type")]),#[]⟩
noncomputable def x4 (P:Params):Obj:=⟨(.type "dict"),none,(.dict #[(en P "__module__" 196 (.str "sealpress.errors" 187)),(en P "__qualname__" 198 (.str "SealError" 197)),(en P "__firstlineno__" 200 (.int 2 199)),(en P "__static_attributes__" 201 (.ref 22))] 4),#[]⟩
noncomputable def x5 (_:Params):Obj:=⟨(.type "tuple"),none,(.seq #[] 0),#[]⟩
noncomputable def x6 (_:Params):Obj:=⟨.none,none,(.fields #[]),#[]⟩
noncomputable def x7 (_:Params):Obj:=⟨(.type "code"),none,(.fields #[(.str "SealError" 191),(.str "SealError" 192),(.str "/claim/cut.py" 193),(.int 2 0),(.int 0 0),(.int 0 0),(.int 0 0),(.int 0 0),(.ref 18),(.bool false),(.int 181 0),(.ref 19),.none,.none,.none,.none,(.int 194 0),(.int 2 0),(.str "/claim/cut.py" 195)]),#[]⟩
noncomputable def x8 (_:Params):Obj:=⟨(.type "frame"),none,.plain,#[(some (.ref 20)),(some (.ref 3)),(some (.ref 17)),none,(some (.str "sealpress.errors" 187)),none,(some (.ref 0))]⟩
noncomputable def x9 (P:Params):Obj:=⟨(.type "dict"),none,(.dict #[(en P "__module__" 196 (.str "sealpress.errors" 187)),(en P "__firstlineno__" 200 (.int 2 199)),(en P "__static_attributes__" 201 (.ref 22)),(en P "__weakref__" 203 (.ref 25)),(en P "__doc__" 204 .none)] 3),#[]⟩
noncomputable def x10 (_:Params):Obj:=⟨(.type "type"),none,(.cls ⟨"SealError",[(.type "ValueError")],[(.ref 24),(.type "ValueError"),(.type "Exception"),(.type "BaseException"),(.type "object")],23,"SealError",true,[],[(.ref 44),(.ref 63),(.ref 82),(.ref 94),(.ref 113),(.ref 132),(.ref 151),(.ref 170),(.ref 182),(.ref 201),(.ref 220),(.ref 239),(.ref 258),(.ref 277),(.ref 296),(.ref 315),(.ref 334),(.ref 353),(.ref 372),(.ref 384)],false,none,false⟩),#[(some (.ref 15)),none,(some (.str "SealError" 189)),(some (.str "SealError" 197)),(some (.builtin "ValueError.__new__")),(some (.bool true))]⟩
noncomputable def x11 (_:Params):Obj:=⟨(.type "getset_descriptor"),none,(.fields #[(.str "__weakref__" 202),(.ref 24),(.builtin "ExceptionGroup.__weakref__"),.none]),#[]⟩
noncomputable def x12 (_:Params):Obj:=⟨(.type "super"),none,(.fields #[(.ref 24),(.ref 24),(.ref 24)]),#[]⟩
noncomputable def x13 (_:Params):Obj:=⟨(.type "builtin_function_or_method"),none,(.fields #[(.builtin "object.__init_subclass__"),(.ref 24)]),#[]⟩
noncomputable def x14 (_:Params):Obj:=⟨(.type "tuple"),none,(.seq #[(.ref 24)] 0),#[]⟩
noncomputable def x15 (P:Params):Obj:=⟨(.type "dict"),none,(.dict #[(en P "__module__" 214 (.str "sealpress.errors" 187)),(en P "__qualname__" 216 (.str "NoSign" 215)),(en P "__firstlineno__" 218 (.int 4 217)),(en P "__init__" 226 (.ref 41)),(en P "__static_attributes__" 228 (.ref 42))] 5),#[]⟩
noncomputable def x16 (_:Params):Obj:=⟨.none,none,(.fields #[(.int 6 0),(.int 4 0),(.ref 40)]),#[]⟩
noncomputable def x17 (_:Params):Obj:=⟨(.type "code"),none,(.fields #[(.str "NoSign" 209),(.str "NoSign" 210),(.str "/claim/cut.py" 211),(.int 4 0),(.int 0 0),(.int 0 0),(.int 0 0),(.int 0 0),(.ref 31),(.bool false),(.int 181 0),(.ref 32),.none,.none,.none,.none,(.int 212 0),(.int 4 0),(.str "/claim/cut.py" 213)]),#[]⟩
noncomputable def x18 (_:Params):Obj:=⟨(.type "frame"),none,.plain,#[(some (.ref 33)),(some (.ref 3)),(some (.ref 30)),none,(some (.str "sealpress.errors" 187)),none,(some (.ref 0))]⟩
noncomputable def x19 (_:Params):Obj:=⟨(.type "tuple"),none,(.seq #[(.str "self" 222),(.str "at" 223)] 0),#[]⟩
noncomputable def x20 (_:Params):Obj:=⟨.none,none,(fnO (tc 2 0) "__init__" "NoSign.__init__" 0 [] .none .none .none .none none .none .none 0),#[]⟩
noncomputable def x21 (_:Params):Obj:=⟨(.type "code"),none,(.fields #[(.str "__init__" 219),(.str "NoSign.__init__" 220),(.str "/claim/cut.py" 221),(.int 6 0),(.int 2 0),(.int 0 0),(.int 0 0),(.int 3 0),(.ref 35),(.bool true),(.int 181 0),(.ref 36),.none,(.ref 37),(.ref 38),(.ref 39),(.int 224 0),(.int 6 0),(.str "/claim/cut.py" 225)]),#[]⟩
noncomputable def x22 (_:Params):Obj:=⟨(.type "function"),none,(fnO (tc 2 0) "__init__" "NoSign.__init__" 3 [] .none .none .none (.str "sealpress.errors" 187) none (.ref 40) .none 0),#[]⟩
noncomputable def x23 (_:Params):Obj:=⟨(.type "tuple"),none,(.seq #[(.str "at" 227)] 0),#[]⟩
noncomputable def x24 (P:Params):Obj:=⟨(.type "dict"),none,(.dict #[(en P "__module__" 214 (.str "sealpress.errors" 187)),(en P "__firstlineno__" 218 (.int 4 217)),(en P "__init__" 226 (.ref 41)),(en P "__static_attributes__" 228 (.ref 42)),(en P "__doc__" 229 .none)] 2),#[]⟩
noncomputable def x25 (_:Params):Obj:=⟨(.type "type"),none,(.cls ⟨"NoSign",[(.ref 24)],[(.ref 44),(.ref 24),(.type "ValueError"),(.type "Exception"),(.type "BaseException"),(.type "object")],43,"NoSign",true,[],[],false,none,false⟩),#[(some (.ref 28)),none,(some (.str "NoSign" 207)),(some (.str "NoSign" 215)),(some (.builtin "ValueError.__new__")),(some (.bool true))]⟩
noncomputable def x26 (_:Params):Obj:=⟨(.type "super"),none,(.fields #[(.ref 44),(.ref 44),(.ref 44)]),#[]⟩
noncomputable def x27 (_:Params):Obj:=⟨(.type "builtin_function_or_method"),none,(.fields #[(.builtin "object.__init_subclass__"),(.ref 44)]),#[]⟩
noncomputable def x28 (P:Params):Obj:=⟨(.type "dict"),none,(.dict #[(en P "__module__" 239 (.str "sealpress.errors" 187)),(en P "__qualname__" 241 (.str "NoCode" 240)),(en P "__firstlineno__" 243 (.int 9 242)),(en P "__init__" 251 (.ref 60)),(en P "__static_attributes__" 253 (.ref 61))] 5),#[]⟩
noncomputable def x29 (_:Params):Obj:=⟨.none,none,(.fields #[(.int 11 0),(.int 4 0),(.ref 59)]),#[]⟩
noncomputable def x30 (_:Params):Obj:=⟨(.type "code"),none,(.fields #[(.str "NoCode" 234),(.str "NoCode" 235),(.str "/claim/cut.py" 236),(.int 9 0),(.int 0 0),(.int 0 0),(.int 0 0),(.int 0 0),(.ref 50),(.bool false),(.int 181 0),(.ref 51),.none,.none,.none,.none,(.int 237 0),(.int 9 0),(.str "/claim/cut.py" 238)]),#[]⟩
noncomputable def x31 (_:Params):Obj:=⟨(.type "frame"),none,.plain,#[(some (.ref 52)),(some (.ref 3)),(some (.ref 49)),none,(some (.str "sealpress.errors" 187)),none,(some (.ref 0))]⟩
noncomputable def x32 (_:Params):Obj:=⟨(.type "tuple"),none,(.seq #[(.str "self" 247),(.str "at" 248)] 0),#[]⟩
noncomputable def x33 (_:Params):Obj:=⟨.none,none,(fnO (tc 3 0) "__init__" "NoCode.__init__" 0 [] .none .none .none .none none .none .none 0),#[]⟩
noncomputable def x34 (_:Params):Obj:=⟨(.type "code"),none,(.fields #[(.str "__init__" 244),(.str "NoCode.__init__" 245),(.str "/claim/cut.py" 246),(.int 11 0),(.int 2 0),(.int 0 0),(.int 0 0),(.int 3 0),(.ref 54),(.bool true),(.int 181 0),(.ref 55),.none,(.ref 56),(.ref 57),(.ref 58),(.int 249 0),(.int 11 0),(.str "/claim/cut.py" 250)]),#[]⟩
noncomputable def x35 (_:Params):Obj:=⟨(.type "function"),none,(fnO (tc 3 0) "__init__" "NoCode.__init__" 3 [] .none .none .none (.str "sealpress.errors" 187) none (.ref 59) .none 0),#[]⟩
noncomputable def x36 (_:Params):Obj:=⟨(.type "tuple"),none,(.seq #[(.str "at" 252)] 0),#[]⟩
noncomputable def x37 (P:Params):Obj:=⟨(.type "dict"),none,(.dict #[(en P "__module__" 239 (.str "sealpress.errors" 187)),(en P "__firstlineno__" 243 (.int 9 242)),(en P "__init__" 251 (.ref 60)),(en P "__static_attributes__" 253 (.ref 61)),(en P "__doc__" 254 .none)] 2),#[]⟩
noncomputable def x38 (_:Params):Obj:=⟨(.type "type"),none,(.cls ⟨"NoCode",[(.ref 24)],[(.ref 63),(.ref 24),(.type "ValueError"),(.type "Exception"),(.type "BaseException"),(.type "object")],62,"NoCode",true,[],[],false,none,false⟩),#[(some (.ref 47)),none,(some (.str "NoCode" 232)),(some (.str "NoCode" 240)),(some (.builtin "ValueError.__new__")),(some (.bool true))]⟩
noncomputable def x39 (_:Params):Obj:=⟨(.type "super"),none,(.fields #[(.ref 63),(.ref 63),(.ref 63)]),#[]⟩
noncomputable def x40 (_:Params):Obj:=⟨(.type "builtin_function_or_method"),none,(.fields #[(.builtin "object.__init_subclass__"),(.ref 63)]),#[]⟩
noncomputable def x41 (P:Params):Obj:=⟨(.type "dict"),none,(.dict #[(en P "__module__" 264 (.str "sealpress.errors" 187)),(en P "__qualname__" 266 (.str "Unread" 265)),(en P "__firstlineno__" 268 (.int 14 267)),(en P "__init__" 276 (.ref 79)),(en P "__static_attributes__" 278 (.ref 80))] 5),#[]⟩
noncomputable def x42 (_:Params):Obj:=⟨.none,none,(.fields #[(.int 16 0),(.int 4 0),(.ref 78)]),#[]⟩
noncomputable def x43 (_:Params):Obj:=⟨(.type "code"),none,(.fields #[(.str "Unread" 259),(.str "Unread" 260),(.str "/claim/cut.py" 261),(.int 14 0),(.int 0 0),(.int 0 0),(.int 0 0),(.int 0 0),(.ref 69),(.bool false),(.int 181 0),(.ref 70),.none,.none,.none,.none,(.int 262 0),(.int 14 0),(.str "/claim/cut.py" 263)]),#[]⟩
noncomputable def x44 (_:Params):Obj:=⟨(.type "frame"),none,.plain,#[(some (.ref 71)),(some (.ref 3)),(some (.ref 68)),none,(some (.str "sealpress.errors" 187)),none,(some (.ref 0))]⟩
noncomputable def x45 (_:Params):Obj:=⟨(.type "tuple"),none,(.seq #[(.str "self" 272),(.str "at" 273)] 0),#[]⟩
noncomputable def x46 (_:Params):Obj:=⟨.none,none,(fnO (tc 4 0) "__init__" "Unread.__init__" 0 [] .none .none .none .none none .none .none 0),#[]⟩
noncomputable def x47 (_:Params):Obj:=⟨(.type "code"),none,(.fields #[(.str "__init__" 269),(.str "Unread.__init__" 270),(.str "/claim/cut.py" 271),(.int 16 0),(.int 2 0),(.int 0 0),(.int 0 0),(.int 3 0),(.ref 73),(.bool true),(.int 181 0),(.ref 74),.none,(.ref 75),(.ref 76),(.ref 77),(.int 274 0),(.int 16 0),(.str "/claim/cut.py" 275)]),#[]⟩
noncomputable def x48 (_:Params):Obj:=⟨(.type "function"),none,(fnO (tc 4 0) "__init__" "Unread.__init__" 3 [] .none .none .none (.str "sealpress.errors" 187) none (.ref 78) .none 0),#[]⟩
noncomputable def x49 (_:Params):Obj:=⟨(.type "tuple"),none,(.seq #[(.str "at" 277)] 0),#[]⟩
noncomputable def x50 (P:Params):Obj:=⟨(.type "dict"),none,(.dict #[(en P "__module__" 264 (.str "sealpress.errors" 187)),(en P "__firstlineno__" 268 (.int 14 267)),(en P "__init__" 276 (.ref 79)),(en P "__static_attributes__" 278 (.ref 80)),(en P "__doc__" 279 .none)] 2),#[]⟩
noncomputable def x51 (_:Params):Obj:=⟨(.type "type"),none,(.cls ⟨"Unread",[(.ref 24)],[(.ref 82),(.ref 24),(.type "ValueError"),(.type "Exception"),(.type "BaseException"),(.type "object")],81,"Unread",true,[],[],false,none,false⟩),#[(some (.ref 66)),none,(some (.str "Unread" 257)),(some (.str "Unread" 265)),(some (.builtin "ValueError.__new__")),(some (.bool true))]⟩
noncomputable def x52 (_:Params):Obj:=⟨(.type "super"),none,(.fields #[(.ref 82),(.ref 82),(.ref 82)]),#[]⟩
noncomputable def x53 (_:Params):Obj:=⟨(.type "builtin_function_or_method"),none,(.fields #[(.builtin "object.__init_subclass__"),(.ref 82)]),#[]⟩
noncomputable def x54 (P:Params):Obj:=⟨(.type "dict"),none,(.dict #[(en P "__module__" 289 (.str "sealpress.errors" 187)),(en P "__qualname__" 291 (.str "Unended" 290)),(en P "__firstlineno__" 293 (.int 19 292)),(en P "__static_attributes__" 294 (.ref 92))] 4),#[]⟩
noncomputable def x55 (_:Params):Obj:=⟨(.type "code"),none,(.fields #[(.str "Unended" 284),(.str "Unended" 285),(.str "/claim/cut.py" 286),(.int 19 0),(.int 0 0),(.int 0 0),(.int 0 0),(.int 0 0),(.ref 88),(.bool false),(.int 181 0),(.ref 89),.none,.none,.none,.none,(.int 287 0),(.int 19 0),(.str "/claim/cut.py" 288)]),#[]⟩
noncomputable def x56 (_:Params):Obj:=⟨(.type "frame"),none,.plain,#[(some (.ref 90)),(some (.ref 3)),(some (.ref 87)),none,(some (.str "sealpress.errors" 187)),none,(some (.ref 0))]⟩
noncomputable def x57 (P:Params):Obj:=⟨(.type "dict"),none,(.dict #[(en P "__module__" 289 (.str "sealpress.errors" 187)),(en P "__firstlineno__" 293 (.int 19 292)),(en P "__static_attributes__" 294 (.ref 92)),(en P "__doc__" 295 .none)] 2),#[]⟩
noncomputable def x58 (_:Params):Obj:=⟨(.type "type"),none,(.cls ⟨"Unended",[(.ref 24)],[(.ref 94),(.ref 24),(.type "ValueError"),(.type "Exception"),(.type "BaseException"),(.type "object")],93,"Unended",true,[],[],false,none,false⟩),#[(some (.ref 85)),none,(some (.str "Unended" 282)),(some (.str "Unended" 290)),(some (.builtin "ValueError.__new__")),(some (.bool true))]⟩
noncomputable def x59 (_:Params):Obj:=⟨(.type "super"),none,(.fields #[(.ref 94),(.ref 94),(.ref 94)]),#[]⟩
noncomputable def x60 (_:Params):Obj:=⟨(.type "builtin_function_or_method"),none,(.fields #[(.builtin "object.__init_subclass__"),(.ref 94)]),#[]⟩
noncomputable def x61 (P:Params):Obj:=⟨(.type "dict"),none,(.dict #[(en P "__module__" 305 (.str "sealpress.errors" 187)),(en P "__qualname__" 307 (.str "NoPage" 306)),(en P "__firstlineno__" 309 (.int 21 308)),(en P "__init__" 317 (.ref 110)),(en P "__static_attributes__" 319 (.ref 111))] 5),#[]⟩
noncomputable def x62 (_:Params):Obj:=⟨.none,none,(.fields #[(.int 23 0),(.int 4 0),(.ref 109)]),#[]⟩
noncomputable def x63 (_:Params):Obj:=⟨(.type "code"),none,(.fields #[(.str "NoPage" 300),(.str "NoPage" 301),(.str "/claim/cut.py" 302),(.int 21 0),(.int 0 0),(.int 0 0),(.int 0 0),(.int 0 0),(.ref 100),(.bool false),(.int 181 0),(.ref 101),.none,.none,.none,.none,(.int 303 0),(.int 21 0),(.str "/claim/cut.py" 304)]),#[]⟩
noncomputable def x64 (_:Params):Obj:=⟨(.type "frame"),none,.plain,#[(some (.ref 102)),(some (.ref 3)),(some (.ref 99)),none,(some (.str "sealpress.errors" 187)),none,(some (.ref 0))]⟩
noncomputable def x65 (_:Params):Obj:=⟨(.type "tuple"),none,(.seq #[(.str "self" 313),(.str "at" 314)] 0),#[]⟩
noncomputable def x66 (_:Params):Obj:=⟨.none,none,(fnO (tc 6 0) "__init__" "NoPage.__init__" 0 [] .none .none .none .none none .none .none 0),#[]⟩
noncomputable def x67 (_:Params):Obj:=⟨(.type "code"),none,(.fields #[(.str "__init__" 310),(.str "NoPage.__init__" 311),(.str "/claim/cut.py" 312),(.int 23 0),(.int 2 0),(.int 0 0),(.int 0 0),(.int 3 0),(.ref 104),(.bool true),(.int 181 0),(.ref 105),.none,(.ref 106),(.ref 107),(.ref 108),(.int 315 0),(.int 23 0),(.str "/claim/cut.py" 316)]),#[]⟩
noncomputable def x68 (_:Params):Obj:=⟨(.type "function"),none,(fnO (tc 6 0) "__init__" "NoPage.__init__" 3 [] .none .none .none (.str "sealpress.errors" 187) none (.ref 109) .none 0),#[]⟩
noncomputable def x69 (_:Params):Obj:=⟨(.type "tuple"),none,(.seq #[(.str "at" 318)] 0),#[]⟩
noncomputable def x70 (P:Params):Obj:=⟨(.type "dict"),none,(.dict #[(en P "__module__" 305 (.str "sealpress.errors" 187)),(en P "__firstlineno__" 309 (.int 21 308)),(en P "__init__" 317 (.ref 110)),(en P "__static_attributes__" 319 (.ref 111)),(en P "__doc__" 320 .none)] 2),#[]⟩
noncomputable def x71 (_:Params):Obj:=⟨(.type "type"),none,(.cls ⟨"NoPage",[(.ref 24)],[(.ref 113),(.ref 24),(.type "ValueError"),(.type "Exception"),(.type "BaseException"),(.type "object")],112,"NoPage",true,[],[],false,none,false⟩),#[(some (.ref 97)),none,(some (.str "NoPage" 298)),(some (.str "NoPage" 306)),(some (.builtin "ValueError.__new__")),(some (.bool true))]⟩
noncomputable def x72 (_:Params):Obj:=⟨(.type "super"),none,(.fields #[(.ref 113),(.ref 113),(.ref 113)]),#[]⟩
noncomputable def x73 (_:Params):Obj:=⟨(.type "builtin_function_or_method"),none,(.fields #[(.builtin "object.__init_subclass__"),(.ref 113)]),#[]⟩
noncomputable def x74 (P:Params):Obj:=⟨(.type "dict"),none,(.dict #[(en P "__module__" 330 (.str "sealpress.errors" 187)),(en P "__qualname__" 332 (.str "NoName" 331)),(en P "__firstlineno__" 334 (.int 26 333)),(en P "__init__" 342 (.ref 129)),(en P "__static_attributes__" 344 (.ref 130))] 5),#[]⟩
noncomputable def x75 (_:Params):Obj:=⟨.none,none,(.fields #[(.int 28 0),(.int 4 0),(.ref 128)]),#[]⟩
noncomputable def x76 (_:Params):Obj:=⟨(.type "code"),none,(.fields #[(.str "NoName" 325),(.str "NoName" 326),(.str "/claim/cut.py" 327),(.int 26 0),(.int 0 0),(.int 0 0),(.int 0 0),(.int 0 0),(.ref 119),(.bool false),(.int 181 0),(.ref 120),.none,.none,.none,.none,(.int 328 0),(.int 26 0),(.str "/claim/cut.py" 329)]),#[]⟩
noncomputable def x77 (_:Params):Obj:=⟨(.type "frame"),none,.plain,#[(some (.ref 121)),(some (.ref 3)),(some (.ref 118)),none,(some (.str "sealpress.errors" 187)),none,(some (.ref 0))]⟩
noncomputable def x78 (_:Params):Obj:=⟨(.type "tuple"),none,(.seq #[(.str "self" 338),(.str "name" 339)] 0),#[]⟩
noncomputable def x79 (_:Params):Obj:=⟨.none,none,(fnO (tc 7 0) "__init__" "NoName.__init__" 0 [] .none .none .none .none none .none .none 0),#[]⟩
noncomputable def x80 (_:Params):Obj:=⟨(.type "code"),none,(.fields #[(.str "__init__" 335),(.str "NoName.__init__" 336),(.str "/claim/cut.py" 337),(.int 28 0),(.int 2 0),(.int 0 0),(.int 0 0),(.int 3 0),(.ref 123),(.bool true),(.int 181 0),(.ref 124),.none,(.ref 125),(.ref 126),(.ref 127),(.int 340 0),(.int 28 0),(.str "/claim/cut.py" 341)]),#[]⟩
noncomputable def x81 (_:Params):Obj:=⟨(.type "function"),none,(fnO (tc 7 0) "__init__" "NoName.__init__" 3 [] .none .none .none (.str "sealpress.errors" 187) none (.ref 128) .none 0),#[]⟩
noncomputable def x82 (_:Params):Obj:=⟨(.type "tuple"),none,(.seq #[(.str "name" 343)] 0),#[]⟩
noncomputable def x83 (P:Params):Obj:=⟨(.type "dict"),none,(.dict #[(en P "__module__" 330 (.str "sealpress.errors" 187)),(en P "__firstlineno__" 334 (.int 26 333)),(en P "__init__" 342 (.ref 129)),(en P "__static_attributes__" 344 (.ref 130)),(en P "__doc__" 345 .none)] 2),#[]⟩
noncomputable def x84 (_:Params):Obj:=⟨(.type "type"),none,(.cls ⟨"NoName",[(.ref 24)],[(.ref 132),(.ref 24),(.type "ValueError"),(.type "Exception"),(.type "BaseException"),(.type "object")],131,"NoName",true,[],[],false,none,false⟩),#[(some (.ref 116)),none,(some (.str "NoName" 323)),(some (.str "NoName" 331)),(some (.builtin "ValueError.__new__")),(some (.bool true))]⟩
noncomputable def x85 (_:Params):Obj:=⟨(.type "super"),none,(.fields #[(.ref 132),(.ref 132),(.ref 132)]),#[]⟩
noncomputable def x86 (_:Params):Obj:=⟨(.type "builtin_function_or_method"),none,(.fields #[(.builtin "object.__init_subclass__"),(.ref 132)]),#[]⟩
noncomputable def x87 (P:Params):Obj:=⟨(.type "dict"),none,(.dict #[(en P "__module__" 355 (.str "sealpress.errors" 187)),(en P "__qualname__" 357 (.str "NoSheet" 356)),(en P "__firstlineno__" 359 (.int 31 358)),(en P "__init__" 367 (.ref 148)),(en P "__static_attributes__" 369 (.ref 149))] 5),#[]⟩
noncomputable def x88 (_:Params):Obj:=⟨.none,none,(.fields #[(.int 33 0),(.int 4 0),(.ref 147)]),#[]⟩
noncomputable def x89 (_:Params):Obj:=⟨(.type "code"),none,(.fields #[(.str "NoSheet" 350),(.str "NoSheet" 351),(.str "/claim/cut.py" 352),(.int 31 0),(.int 0 0),(.int 0 0),(.int 0 0),(.int 0 0),(.ref 138),(.bool false),(.int 181 0),(.ref 139),.none,.none,.none,.none,(.int 353 0),(.int 31 0),(.str "/claim/cut.py" 354)]),#[]⟩
noncomputable def x90 (_:Params):Obj:=⟨(.type "frame"),none,.plain,#[(some (.ref 140)),(some (.ref 3)),(some (.ref 137)),none,(some (.str "sealpress.errors" 187)),none,(some (.ref 0))]⟩
noncomputable def x91 (_:Params):Obj:=⟨(.type "tuple"),none,(.seq #[(.str "self" 363),(.str "at" 364)] 0),#[]⟩
noncomputable def x92 (_:Params):Obj:=⟨.none,none,(fnO (tc 8 0) "__init__" "NoSheet.__init__" 0 [] .none .none .none .none none .none .none 0),#[]⟩
noncomputable def x93 (_:Params):Obj:=⟨(.type "code"),none,(.fields #[(.str "__init__" 360),(.str "NoSheet.__init__" 361),(.str "/claim/cut.py" 362),(.int 33 0),(.int 2 0),(.int 0 0),(.int 0 0),(.int 3 0),(.ref 142),(.bool true),(.int 181 0),(.ref 143),.none,(.ref 144),(.ref 145),(.ref 146),(.int 365 0),(.int 33 0),(.str "/claim/cut.py" 366)]),#[]⟩
noncomputable def x94 (_:Params):Obj:=⟨(.type "function"),none,(fnO (tc 8 0) "__init__" "NoSheet.__init__" 3 [] .none .none .none (.str "sealpress.errors" 187) none (.ref 147) .none 0),#[]⟩
noncomputable def x95 (_:Params):Obj:=⟨(.type "tuple"),none,(.seq #[(.str "at" 368)] 0),#[]⟩
noncomputable def x96 (P:Params):Obj:=⟨(.type "dict"),none,(.dict #[(en P "__module__" 355 (.str "sealpress.errors" 187)),(en P "__firstlineno__" 359 (.int 31 358)),(en P "__init__" 367 (.ref 148)),(en P "__static_attributes__" 369 (.ref 149)),(en P "__doc__" 370 .none)] 2),#[]⟩
noncomputable def x97 (_:Params):Obj:=⟨(.type "type"),none,(.cls ⟨"NoSheet",[(.ref 24)],[(.ref 151),(.ref 24),(.type "ValueError"),(.type "Exception"),(.type "BaseException"),(.type "object")],150,"NoSheet",true,[],[],false,none,false⟩),#[(some (.ref 135)),none,(some (.str "NoSheet" 348)),(some (.str "NoSheet" 356)),(some (.builtin "ValueError.__new__")),(some (.bool true))]⟩
noncomputable def x98 (_:Params):Obj:=⟨(.type "super"),none,(.fields #[(.ref 151),(.ref 151),(.ref 151)]),#[]⟩
noncomputable def x99 (_:Params):Obj:=⟨(.type "builtin_function_or_method"),none,(.fields #[(.builtin "object.__init_subclass__"),(.ref 151)]),#[]⟩
noncomputable def x100 (P:Params):Obj:=⟨(.type "dict"),none,(.dict #[(en P "__module__" 380 (.str "sealpress.errors" 187)),(en P "__qualname__" 382 (.str "Twice" 381)),(en P "__firstlineno__" 384 (.int 36 383)),(en P "__init__" 392 (.ref 167)),(en P "__static_attributes__" 394 (.ref 168))] 5),#[]⟩
noncomputable def x101 (_:Params):Obj:=⟨.none,none,(.fields #[(.int 38 0),(.int 4 0),(.ref 166)]),#[]⟩
noncomputable def x102 (_:Params):Obj:=⟨(.type "code"),none,(.fields #[(.str "Twice" 375),(.str "Twice" 376),(.str "/claim/cut.py" 377),(.int 36 0),(.int 0 0),(.int 0 0),(.int 0 0),(.int 0 0),(.ref 157),(.bool false),(.int 181 0),(.ref 158),.none,.none,.none,.none,(.int 378 0),(.int 36 0),(.str "/claim/cut.py" 379)]),#[]⟩
noncomputable def x103 (_:Params):Obj:=⟨(.type "frame"),none,.plain,#[(some (.ref 159)),(some (.ref 3)),(some (.ref 156)),none,(some (.str "sealpress.errors" 187)),none,(some (.ref 0))]⟩
noncomputable def x104 (_:Params):Obj:=⟨(.type "tuple"),none,(.seq #[(.str "self" 388),(.str "name" 389)] 0),#[]⟩
noncomputable def x105 (_:Params):Obj:=⟨.none,none,(fnO (tc 9 0) "__init__" "Twice.__init__" 0 [] .none .none .none .none none .none .none 0),#[]⟩
noncomputable def x106 (_:Params):Obj:=⟨(.type "code"),none,(.fields #[(.str "__init__" 385),(.str "Twice.__init__" 386),(.str "/claim/cut.py" 387),(.int 38 0),(.int 2 0),(.int 0 0),(.int 0 0),(.int 3 0),(.ref 161),(.bool true),(.int 181 0),(.ref 162),.none,(.ref 163),(.ref 164),(.ref 165),(.int 390 0),(.int 38 0),(.str "/claim/cut.py" 391)]),#[]⟩
noncomputable def x107 (_:Params):Obj:=⟨(.type "function"),none,(fnO (tc 9 0) "__init__" "Twice.__init__" 3 [] .none .none .none (.str "sealpress.errors" 187) none (.ref 166) .none 0),#[]⟩
noncomputable def x108 (_:Params):Obj:=⟨(.type "tuple"),none,(.seq #[(.str "name" 393)] 0),#[]⟩
noncomputable def x109 (P:Params):Obj:=⟨(.type "dict"),none,(.dict #[(en P "__module__" 380 (.str "sealpress.errors" 187)),(en P "__firstlineno__" 384 (.int 36 383)),(en P "__init__" 392 (.ref 167)),(en P "__static_attributes__" 394 (.ref 168)),(en P "__doc__" 395 .none)] 2),#[]⟩
noncomputable def x110 (_:Params):Obj:=⟨(.type "type"),none,(.cls ⟨"Twice",[(.ref 24)],[(.ref 170),(.ref 24),(.type "ValueError"),(.type "Exception"),(.type "BaseException"),(.type "object")],169,"Twice",true,[],[],false,none,false⟩),#[(some (.ref 154)),none,(some (.str "Twice" 373)),(some (.str "Twice" 381)),(some (.builtin "ValueError.__new__")),(some (.bool true))]⟩
noncomputable def x111 (_:Params):Obj:=⟨(.type "super"),none,(.fields #[(.ref 170),(.ref 170),(.ref 170)]),#[]⟩
noncomputable def x112 (_:Params):Obj:=⟨(.type "builtin_function_or_method"),none,(.fields #[(.builtin "object.__init_subclass__"),(.ref 170)]),#[]⟩
noncomputable def x113 (P:Params):Obj:=⟨(.type "dict"),none,(.dict #[(en P "__module__" 405 (.str "sealpress.errors" 187)),(en P "__qualname__" 407 (.str "TooMany" 406)),(en P "__firstlineno__" 409 (.int 41 408)),(en P "__static_attributes__" 410 (.ref 180))] 4),#[]⟩
noncomputable def x114 (_:Params):Obj:=⟨(.type "code"),none,(.fields #[(.str "TooMany" 400),(.str "TooMany" 401),(.str "/claim/cut.py" 402),(.int 41 0),(.int 0 0),(.int 0 0),(.int 0 0),(.int 0 0),(.ref 176),(.bool false),(.int 181 0),(.ref 177),.none,.none,.none,.none,(.int 403 0),(.int 41 0),(.str "/claim/cut.py" 404)]),#[]⟩
noncomputable def x115 (_:Params):Obj:=⟨(.type "frame"),none,.plain,#[(some (.ref 178)),(some (.ref 3)),(some (.ref 175)),none,(some (.str "sealpress.errors" 187)),none,(some (.ref 0))]⟩
noncomputable def x116 (P:Params):Obj:=⟨(.type "dict"),none,(.dict #[(en P "__module__" 405 (.str "sealpress.errors" 187)),(en P "__firstlineno__" 409 (.int 41 408)),(en P "__static_attributes__" 410 (.ref 180)),(en P "__doc__" 411 .none)] 2),#[]⟩
noncomputable def x117 (_:Params):Obj:=⟨(.type "type"),none,(.cls ⟨"TooMany",[(.ref 24)],[(.ref 182),(.ref 24),(.type "ValueError"),(.type "Exception"),(.type "BaseException"),(.type "object")],181,"TooMany",true,[],[],false,none,false⟩),#[(some (.ref 173)),none,(some (.str "TooMany" 398)),(some (.str "TooMany" 406)),(some (.builtin "ValueError.__new__")),(some (.bool true))]⟩
noncomputable def x118 (_:Params):Obj:=⟨(.type "super"),none,(.fields #[(.ref 182),(.ref 182),(.ref 182)]),#[]⟩
noncomputable def x119 (_:Params):Obj:=⟨(.type "builtin_function_or_method"),none,(.fields #[(.builtin "object.__init_subclass__"),(.ref 182)]),#[]⟩
noncomputable def x120 (P:Params):Obj:=⟨(.type "dict"),none,(.dict #[(en P "__module__" 421 (.str "sealpress.errors" 187)),(en P "__qualname__" 423 (.str "Unknown" 422)),(en P "__firstlineno__" 425 (.int 43 424)),(en P "__init__" 433 (.ref 198)),(en P "__static_attributes__" 435 (.ref 199))] 5),#[]⟩
noncomputable def x121 (_:Params):Obj:=⟨.none,none,(.fields #[(.int 45 0),(.int 4 0),(.ref 197)]),#[]⟩
noncomputable def x122 (_:Params):Obj:=⟨(.type "code"),none,(.fields #[(.str "Unknown" 416),(.str "Unknown" 417),(.str "/claim/cut.py" 418),(.int 43 0),(.int 0 0),(.int 0 0),(.int 0 0),(.int 0 0),(.ref 188),(.bool false),(.int 181 0),(.ref 189),.none,.none,.none,.none,(.int 419 0),(.int 43 0),(.str "/claim/cut.py" 420)]),#[]⟩
noncomputable def x123 (_:Params):Obj:=⟨(.type "frame"),none,.plain,#[(some (.ref 190)),(some (.ref 3)),(some (.ref 187)),none,(some (.str "sealpress.errors" 187)),none,(some (.ref 0))]⟩
noncomputable def x124 (_:Params):Obj:=⟨(.type "tuple"),none,(.seq #[(.str "self" 429),(.str "name" 430)] 0),#[]⟩
noncomputable def x125 (_:Params):Obj:=⟨.none,none,(fnO (tc 11 0) "__init__" "Unknown.__init__" 0 [] .none .none .none .none none .none .none 0),#[]⟩
noncomputable def x126 (_:Params):Obj:=⟨(.type "code"),none,(.fields #[(.str "__init__" 426),(.str "Unknown.__init__" 427),(.str "/claim/cut.py" 428),(.int 45 0),(.int 2 0),(.int 0 0),(.int 0 0),(.int 3 0),(.ref 192),(.bool true),(.int 181 0),(.ref 193),.none,(.ref 194),(.ref 195),(.ref 196),(.int 431 0),(.int 45 0),(.str "/claim/cut.py" 432)]),#[]⟩
noncomputable def x127 (_:Params):Obj:=⟨(.type "function"),none,(fnO (tc 11 0) "__init__" "Unknown.__init__" 3 [] .none .none .none (.str "sealpress.errors" 187) none (.ref 197) .none 0),#[]⟩
noncomputable def x128 (_:Params):Obj:=⟨(.type "tuple"),none,(.seq #[(.str "name" 434)] 0),#[]⟩
noncomputable def x129 (P:Params):Obj:=⟨(.type "dict"),none,(.dict #[(en P "__module__" 421 (.str "sealpress.errors" 187)),(en P "__firstlineno__" 425 (.int 43 424)),(en P "__init__" 433 (.ref 198)),(en P "__static_attributes__" 435 (.ref 199)),(en P "__doc__" 436 .none)] 2),#[]⟩
noncomputable def x130 (_:Params):Obj:=⟨(.type "type"),none,(.cls ⟨"Unknown",[(.ref 24)],[(.ref 201),(.ref 24),(.type "ValueError"),(.type "Exception"),(.type "BaseException"),(.type "object")],200,"Unknown",true,[],[],false,none,false⟩),#[(some (.ref 185)),none,(some (.str "Unknown" 414)),(some (.str "Unknown" 422)),(some (.builtin "ValueError.__new__")),(some (.bool true))]⟩
noncomputable def x131 (_:Params):Obj:=⟨(.type "super"),none,(.fields #[(.ref 201),(.ref 201),(.ref 201)]),#[]⟩
noncomputable def x132 (_:Params):Obj:=⟨(.type "builtin_function_or_method"),none,(.fields #[(.builtin "object.__init_subclass__"),(.ref 201)]),#[]⟩
noncomputable def x133 (P:Params):Obj:=⟨(.type "dict"),none,(.dict #[(en P "__module__" 446 (.str "sealpress.errors" 187)),(en P "__qualname__" 448 (.str "RingOver" 447)),(en P "__firstlineno__" 450 (.int 48 449)),(en P "__init__" 458 (.ref 217)),(en P "__static_attributes__" 460 (.ref 218))] 5),#[]⟩
noncomputable def x134 (_:Params):Obj:=⟨.none,none,(.fields #[(.int 50 0),(.int 4 0),(.ref 216)]),#[]⟩
noncomputable def x135 (_:Params):Obj:=⟨(.type "code"),none,(.fields #[(.str "RingOver" 441),(.str "RingOver" 442),(.str "/claim/cut.py" 443),(.int 48 0),(.int 0 0),(.int 0 0),(.int 0 0),(.int 0 0),(.ref 207),(.bool false),(.int 181 0),(.ref 208),.none,.none,.none,.none,(.int 444 0),(.int 48 0),(.str "/claim/cut.py" 445)]),#[]⟩
noncomputable def x136 (_:Params):Obj:=⟨(.type "frame"),none,.plain,#[(some (.ref 209)),(some (.ref 3)),(some (.ref 206)),none,(some (.str "sealpress.errors" 187)),none,(some (.ref 0))]⟩
noncomputable def x137 (_:Params):Obj:=⟨(.type "tuple"),none,(.seq #[(.str "self" 454),(.str "ring" 455)] 0),#[]⟩
noncomputable def x138 (_:Params):Obj:=⟨.none,none,(fnO (tc 12 0) "__init__" "RingOver.__init__" 0 [] .none .none .none .none none .none .none 0),#[]⟩
noncomputable def x139 (_:Params):Obj:=⟨(.type "code"),none,(.fields #[(.str "__init__" 451),(.str "RingOver.__init__" 452),(.str "/claim/cut.py" 453),(.int 50 0),(.int 2 0),(.int 0 0),(.int 0 0),(.int 3 0),(.ref 211),(.bool true),(.int 181 0),(.ref 212),.none,(.ref 213),(.ref 214),(.ref 215),(.int 456 0),(.int 50 0),(.str "/claim/cut.py" 457)]),#[]⟩
noncomputable def x140 (_:Params):Obj:=⟨(.type "function"),none,(fnO (tc 12 0) "__init__" "RingOver.__init__" 3 [] .none .none .none (.str "sealpress.errors" 187) none (.ref 216) .none 0),#[]⟩
noncomputable def x141 (_:Params):Obj:=⟨(.type "tuple"),none,(.seq #[(.str "ring" 459)] 0),#[]⟩
noncomputable def x142 (P:Params):Obj:=⟨(.type "dict"),none,(.dict #[(en P "__module__" 446 (.str "sealpress.errors" 187)),(en P "__firstlineno__" 450 (.int 48 449)),(en P "__init__" 458 (.ref 217)),(en P "__static_attributes__" 460 (.ref 218)),(en P "__doc__" 461 .none)] 2),#[]⟩
noncomputable def x143 (_:Params):Obj:=⟨(.type "type"),none,(.cls ⟨"RingOver",[(.ref 24)],[(.ref 220),(.ref 24),(.type "ValueError"),(.type "Exception"),(.type "BaseException"),(.type "object")],219,"RingOver",true,[],[],false,none,false⟩),#[(some (.ref 204)),none,(some (.str "RingOver" 439)),(some (.str "RingOver" 447)),(some (.builtin "ValueError.__new__")),(some (.bool true))]⟩
noncomputable def x144 (_:Params):Obj:=⟨(.type "super"),none,(.fields #[(.ref 220),(.ref 220),(.ref 220)]),#[]⟩
noncomputable def x145 (_:Params):Obj:=⟨(.type "builtin_function_or_method"),none,(.fields #[(.builtin "object.__init_subclass__"),(.ref 220)]),#[]⟩
noncomputable def x146 (P:Params):Obj:=⟨(.type "dict"),none,(.dict #[(en P "__module__" 471 (.str "sealpress.errors" 187)),(en P "__qualname__" 473 (.str "Ringed" 472)),(en P "__firstlineno__" 475 (.int 53 474)),(en P "__init__" 483 (.ref 236)),(en P "__static_attributes__" 485 (.ref 237))] 5),#[]⟩
noncomputable def x147 (_:Params):Obj:=⟨.none,none,(.fields #[(.int 55 0),(.int 4 0),(.ref 235)]),#[]⟩
noncomputable def x148 (_:Params):Obj:=⟨(.type "code"),none,(.fields #[(.str "Ringed" 466),(.str "Ringed" 467),(.str "/claim/cut.py" 468),(.int 53 0),(.int 0 0),(.int 0 0),(.int 0 0),(.int 0 0),(.ref 226),(.bool false),(.int 181 0),(.ref 227),.none,.none,.none,.none,(.int 469 0),(.int 53 0),(.str "/claim/cut.py" 470)]),#[]⟩
noncomputable def x149 (_:Params):Obj:=⟨(.type "frame"),none,.plain,#[(some (.ref 228)),(some (.ref 3)),(some (.ref 225)),none,(some (.str "sealpress.errors" 187)),none,(some (.ref 0))]⟩
noncomputable def x150 (_:Params):Obj:=⟨(.type "tuple"),none,(.seq #[(.str "self" 479),(.str "ring" 480)] 0),#[]⟩
noncomputable def x151 (_:Params):Obj:=⟨.none,none,(fnO (tc 13 0) "__init__" "Ringed.__init__" 0 [] .none .none .none .none none .none .none 0),#[]⟩
noncomputable def x152 (_:Params):Obj:=⟨(.type "code"),none,(.fields #[(.str "__init__" 476),(.str "Ringed.__init__" 477),(.str "/claim/cut.py" 478),(.int 55 0),(.int 2 0),(.int 0 0),(.int 0 0),(.int 3 0),(.ref 230),(.bool true),(.int 181 0),(.ref 231),.none,(.ref 232),(.ref 233),(.ref 234),(.int 481 0),(.int 55 0),(.str "/claim/cut.py" 482)]),#[]⟩
noncomputable def x153 (_:Params):Obj:=⟨(.type "function"),none,(fnO (tc 13 0) "__init__" "Ringed.__init__" 3 [] .none .none .none (.str "sealpress.errors" 187) none (.ref 235) .none 0),#[]⟩
noncomputable def x154 (_:Params):Obj:=⟨(.type "tuple"),none,(.seq #[(.str "ring" 484)] 0),#[]⟩
noncomputable def x155 (P:Params):Obj:=⟨(.type "dict"),none,(.dict #[(en P "__module__" 471 (.str "sealpress.errors" 187)),(en P "__firstlineno__" 475 (.int 53 474)),(en P "__init__" 483 (.ref 236)),(en P "__static_attributes__" 485 (.ref 237)),(en P "__doc__" 486 .none)] 2),#[]⟩
noncomputable def x156 (_:Params):Obj:=⟨(.type "type"),none,(.cls ⟨"Ringed",[(.ref 24)],[(.ref 239),(.ref 24),(.type "ValueError"),(.type "Exception"),(.type "BaseException"),(.type "object")],238,"Ringed",true,[],[],false,none,false⟩),#[(some (.ref 223)),none,(some (.str "Ringed" 464)),(some (.str "Ringed" 472)),(some (.builtin "ValueError.__new__")),(some (.bool true))]⟩
noncomputable def x157 (_:Params):Obj:=⟨(.type "super"),none,(.fields #[(.ref 239),(.ref 239),(.ref 239)]),#[]⟩
noncomputable def x158 (_:Params):Obj:=⟨(.type "builtin_function_or_method"),none,(.fields #[(.builtin "object.__init_subclass__"),(.ref 239)]),#[]⟩
noncomputable def x159 (P:Params):Obj:=⟨(.type "dict"),none,(.dict #[(en P "__module__" 496 (.str "sealpress.errors" 187)),(en P "__qualname__" 498 (.str "NoElder" 497)),(en P "__firstlineno__" 500 (.int 58 499)),(en P "__init__" 508 (.ref 255)),(en P "__static_attributes__" 510 (.ref 256))] 5),#[]⟩
noncomputable def x160 (_:Params):Obj:=⟨.none,none,(.fields #[(.int 60 0),(.int 4 0),(.ref 254)]),#[]⟩
noncomputable def x161 (_:Params):Obj:=⟨(.type "code"),none,(.fields #[(.str "NoElder" 491),(.str "NoElder" 492),(.str "/claim/cut.py" 493),(.int 58 0),(.int 0 0),(.int 0 0),(.int 0 0),(.int 0 0),(.ref 245),(.bool false),(.int 181 0),(.ref 246),.none,.none,.none,.none,(.int 494 0),(.int 58 0),(.str "/claim/cut.py" 495)]),#[]⟩
noncomputable def x162 (_:Params):Obj:=⟨(.type "frame"),none,.plain,#[(some (.ref 247)),(some (.ref 3)),(some (.ref 244)),none,(some (.str "sealpress.errors" 187)),none,(some (.ref 0))]⟩
noncomputable def x163 (_:Params):Obj:=⟨(.type "tuple"),none,(.seq #[(.str "self" 504),(.str "name" 505)] 0),#[]⟩
noncomputable def x164 (_:Params):Obj:=⟨.none,none,(fnO (tc 14 0) "__init__" "NoElder.__init__" 0 [] .none .none .none .none none .none .none 0),#[]⟩
noncomputable def x165 (_:Params):Obj:=⟨(.type "code"),none,(.fields #[(.str "__init__" 501),(.str "NoElder.__init__" 502),(.str "/claim/cut.py" 503),(.int 60 0),(.int 2 0),(.int 0 0),(.int 0 0),(.int 3 0),(.ref 249),(.bool true),(.int 181 0),(.ref 250),.none,(.ref 251),(.ref 252),(.ref 253),(.int 506 0),(.int 60 0),(.str "/claim/cut.py" 507)]),#[]⟩
noncomputable def x166 (_:Params):Obj:=⟨(.type "function"),none,(fnO (tc 14 0) "__init__" "NoElder.__init__" 3 [] .none .none .none (.str "sealpress.errors" 187) none (.ref 254) .none 0),#[]⟩
noncomputable def x167 (_:Params):Obj:=⟨(.type "tuple"),none,(.seq #[(.str "name" 509)] 0),#[]⟩
noncomputable def x168 (P:Params):Obj:=⟨(.type "dict"),none,(.dict #[(en P "__module__" 496 (.str "sealpress.errors" 187)),(en P "__firstlineno__" 500 (.int 58 499)),(en P "__init__" 508 (.ref 255)),(en P "__static_attributes__" 510 (.ref 256)),(en P "__doc__" 511 .none)] 2),#[]⟩
noncomputable def x169 (_:Params):Obj:=⟨(.type "type"),none,(.cls ⟨"NoElder",[(.ref 24)],[(.ref 258),(.ref 24),(.type "ValueError"),(.type "Exception"),(.type "BaseException"),(.type "object")],257,"NoElder",true,[],[],false,none,false⟩),#[(some (.ref 242)),none,(some (.str "NoElder" 489)),(some (.str "NoElder" 497)),(some (.builtin "ValueError.__new__")),(some (.bool true))]⟩
noncomputable def x170 (_:Params):Obj:=⟨(.type "super"),none,(.fields #[(.ref 258),(.ref 258),(.ref 258)]),#[]⟩
noncomputable def x171 (_:Params):Obj:=⟨(.type "builtin_function_or_method"),none,(.fields #[(.builtin "object.__init_subclass__"),(.ref 258)]),#[]⟩
noncomputable def x172 (P:Params):Obj:=⟨(.type "dict"),none,(.dict #[(en P "__module__" 521 (.str "sealpress.errors" 187)),(en P "__qualname__" 523 (.str "Astray" 522)),(en P "__firstlineno__" 525 (.int 63 524)),(en P "__init__" 534 (.ref 274)),(en P "__static_attributes__" 537 (.ref 275))] 5),#[]⟩
noncomputable def x173 (_:Params):Obj:=⟨.none,none,(.fields #[(.int 65 0),(.int 4 0),(.ref 273)]),#[]⟩
noncomputable def x174 (_:Params):Obj:=⟨(.type "code"),none,(.fields #[(.str "Astray" 516),(.str "Astray" 517),(.str "/claim/cut.py" 518),(.int 63 0),(.int 0 0),(.int 0 0),(.int 0 0),(.int 0 0),(.ref 264),(.bool false),(.int 181 0),(.ref 265),.none,.none,.none,.none,(.int 519 0),(.int 63 0),(.str "/claim/cut.py" 520)]),#[]⟩
noncomputable def x175 (_:Params):Obj:=⟨(.type "frame"),none,.plain,#[(some (.ref 266)),(some (.ref 3)),(some (.ref 263)),none,(some (.str "sealpress.errors" 187)),none,(some (.ref 0))]⟩
noncomputable def x176 (_:Params):Obj:=⟨(.type "tuple"),none,(.seq #[(.str "self" 529),(.str "place" 530),(.str "at" 531)] 0),#[]⟩
noncomputable def x177 (_:Params):Obj:=⟨.none,none,(fnO (tc 15 0) "__init__" "Astray.__init__" 0 [] .none .none .none .none none .none .none 0),#[]⟩
noncomputable def x178 (_:Params):Obj:=⟨(.type "code"),none,(.fields #[(.str "__init__" 526),(.str "Astray.__init__" 527),(.str "/claim/cut.py" 528),(.int 65 0),(.int 3 0),(.int 0 0),(.int 0 0),(.int 3 0),(.ref 268),(.bool true),(.int 181 0),(.ref 269),.none,(.ref 270),(.ref 271),(.ref 272),(.int 532 0),(.int 65 0),(.str "/claim/cut.py" 533)]),#[]⟩
noncomputable def x179 (_:Params):Obj:=⟨(.type "function"),none,(fnO (tc 15 0) "__init__" "Astray.__init__" 3 [] .none .none .none (.str "sealpress.errors" 187) none (.ref 273) .none 0),#[]⟩
noncomputable def x180 (_:Params):Obj:=⟨(.type "tuple"),none,(.seq #[(.str "at" 535),(.str "place" 536)] 0),#[]⟩
noncomputable def x181 (P:Params):Obj:=⟨(.type "dict"),none,(.dict #[(en P "__module__" 521 (.str "sealpress.errors" 187)),(en P "__firstlineno__" 525 (.int 63 524)),(en P "__init__" 534 (.ref 274)),(en P "__static_attributes__" 537 (.ref 275)),(en P "__doc__" 538 .none)] 2),#[]⟩
noncomputable def x182 (_:Params):Obj:=⟨(.type "type"),none,(.cls ⟨"Astray",[(.ref 24)],[(.ref 277),(.ref 24),(.type "ValueError"),(.type "Exception"),(.type "BaseException"),(.type "object")],276,"Astray",true,[],[],false,none,false⟩),#[(some (.ref 261)),none,(some (.str "Astray" 514)),(some (.str "Astray" 522)),(some (.builtin "ValueError.__new__")),(some (.bool true))]⟩
noncomputable def x183 (_:Params):Obj:=⟨(.type "super"),none,(.fields #[(.ref 277),(.ref 277),(.ref 277)]),#[]⟩
noncomputable def x184 (_:Params):Obj:=⟨(.type "builtin_function_or_method"),none,(.fields #[(.builtin "object.__init_subclass__"),(.ref 277)]),#[]⟩
noncomputable def x185 (P:Params):Obj:=⟨(.type "dict"),none,(.dict #[(en P "__module__" 548 (.str "sealpress.errors" 187)),(en P "__qualname__" 550 (.str "NoPlace" 549)),(en P "__firstlineno__" 552 (.int 69 551)),(en P "__init__" 561 (.ref 293)),(en P "__static_attributes__" 564 (.ref 294))] 5),#[]⟩
noncomputable def x186 (_:Params):Obj:=⟨.none,none,(.fields #[(.int 71 0),(.int 4 0),(.ref 292)]),#[]⟩
noncomputable def x187 (_:Params):Obj:=⟨(.type "code"),none,(.fields #[(.str "NoPlace" 543),(.str "NoPlace" 544),(.str "/claim/cut.py" 545),(.int 69 0),(.int 0 0),(.int 0 0),(.int 0 0),(.int 0 0),(.ref 283),(.bool false),(.int 181 0),(.ref 284),.none,.none,.none,.none,(.int 546 0),(.int 69 0),(.str "/claim/cut.py" 547)]),#[]⟩
noncomputable def x188 (_:Params):Obj:=⟨(.type "frame"),none,.plain,#[(some (.ref 285)),(some (.ref 3)),(some (.ref 282)),none,(some (.str "sealpress.errors" 187)),none,(some (.ref 0))]⟩
noncomputable def x189 (_:Params):Obj:=⟨(.type "tuple"),none,(.seq #[(.str "self" 556),(.str "name" 557),(.str "place" 558)] 0),#[]⟩
noncomputable def x190 (_:Params):Obj:=⟨.none,none,(fnO (tc 16 0) "__init__" "NoPlace.__init__" 0 [] .none .none .none .none none .none .none 0),#[]⟩
noncomputable def x191 (_:Params):Obj:=⟨(.type "code"),none,(.fields #[(.str "__init__" 553),(.str "NoPlace.__init__" 554),(.str "/claim/cut.py" 555),(.int 71 0),(.int 3 0),(.int 0 0),(.int 0 0),(.int 3 0),(.ref 287),(.bool true),(.int 181 0),(.ref 288),.none,(.ref 289),(.ref 290),(.ref 291),(.int 559 0),(.int 71 0),(.str "/claim/cut.py" 560)]),#[]⟩
noncomputable def x192 (_:Params):Obj:=⟨(.type "function"),none,(fnO (tc 16 0) "__init__" "NoPlace.__init__" 3 [] .none .none .none (.str "sealpress.errors" 187) none (.ref 292) .none 0),#[]⟩
noncomputable def x193 (_:Params):Obj:=⟨(.type "tuple"),none,(.seq #[(.str "name" 562),(.str "place" 563)] 0),#[]⟩
noncomputable def x194 (P:Params):Obj:=⟨(.type "dict"),none,(.dict #[(en P "__module__" 548 (.str "sealpress.errors" 187)),(en P "__firstlineno__" 552 (.int 69 551)),(en P "__init__" 561 (.ref 293)),(en P "__static_attributes__" 564 (.ref 294)),(en P "__doc__" 565 .none)] 2),#[]⟩
noncomputable def x195 (_:Params):Obj:=⟨(.type "type"),none,(.cls ⟨"NoPlace",[(.ref 24)],[(.ref 296),(.ref 24),(.type "ValueError"),(.type "Exception"),(.type "BaseException"),(.type "object")],295,"NoPlace",true,[],[],false,none,false⟩),#[(some (.ref 280)),none,(some (.str "NoPlace" 541)),(some (.str "NoPlace" 549)),(some (.builtin "ValueError.__new__")),(some (.bool true))]⟩
noncomputable def x196 (_:Params):Obj:=⟨(.type "super"),none,(.fields #[(.ref 296),(.ref 296),(.ref 296)]),#[]⟩
noncomputable def x197 (_:Params):Obj:=⟨(.type "builtin_function_or_method"),none,(.fields #[(.builtin "object.__init_subclass__"),(.ref 296)]),#[]⟩
noncomputable def x198 (P:Params):Obj:=⟨(.type "dict"),none,(.dict #[(en P "__module__" 575 (.str "sealpress.errors" 187)),(en P "__qualname__" 577 (.str "Unlike" 576)),(en P "__firstlineno__" 579 (.int 75 578)),(en P "__init__" 589 (.ref 312)),(en P "__static_attributes__" 593 (.ref 313))] 5),#[]⟩
noncomputable def x199 (_:Params):Obj:=⟨.none,none,(.fields #[(.int 77 0),(.int 4 0),(.ref 311)]),#[]⟩
noncomputable def x200 (_:Params):Obj:=⟨(.type "code"),none,(.fields #[(.str "Unlike" 570),(.str "Unlike" 571),(.str "/claim/cut.py" 572),(.int 75 0),(.int 0 0),(.int 0 0),(.int 0 0),(.int 0 0),(.ref 302),(.bool false),(.int 181 0),(.ref 303),.none,.none,.none,.none,(.int 573 0),(.int 75 0),(.str "/claim/cut.py" 574)]),#[]⟩
noncomputable def x201 (_:Params):Obj:=⟨(.type "frame"),none,.plain,#[(some (.ref 304)),(some (.ref 3)),(some (.ref 301)),none,(some (.str "sealpress.errors" 187)),none,(some (.ref 0))]⟩
noncomputable def x202 (_:Params):Obj:=⟨(.type "tuple"),none,(.seq #[(.str "self" 583),(.str "what" 584),(.str "one" 585),(.str "other" 586)] 0),#[]⟩
noncomputable def x203 (_:Params):Obj:=⟨.none,none,(fnO (tc 17 0) "__init__" "Unlike.__init__" 0 [] .none .none .none .none none .none .none 0),#[]⟩
noncomputable def x204 (_:Params):Obj:=⟨(.type "code"),none,(.fields #[(.str "__init__" 580),(.str "Unlike.__init__" 581),(.str "/claim/cut.py" 582),(.int 77 0),(.int 4 0),(.int 0 0),(.int 0 0),(.int 3 0),(.ref 306),(.bool true),(.int 181 0),(.ref 307),.none,(.ref 308),(.ref 309),(.ref 310),(.int 587 0),(.int 77 0),(.str "/claim/cut.py" 588)]),#[]⟩
noncomputable def x205 (_:Params):Obj:=⟨(.type "function"),none,(fnO (tc 17 0) "__init__" "Unlike.__init__" 3 [] .none .none .none (.str "sealpress.errors" 187) none (.ref 311) .none 0),#[]⟩
noncomputable def x206 (_:Params):Obj:=⟨(.type "tuple"),none,(.seq #[(.str "one" 590),(.str "other" 591),(.str "what" 592)] 0),#[]⟩
noncomputable def x207 (P:Params):Obj:=⟨(.type "dict"),none,(.dict #[(en P "__module__" 575 (.str "sealpress.errors" 187)),(en P "__firstlineno__" 579 (.int 75 578)),(en P "__init__" 589 (.ref 312)),(en P "__static_attributes__" 593 (.ref 313)),(en P "__doc__" 594 .none)] 2),#[]⟩
noncomputable def x208 (_:Params):Obj:=⟨(.type "type"),none,(.cls ⟨"Unlike",[(.ref 24)],[(.ref 315),(.ref 24),(.type "ValueError"),(.type "Exception"),(.type "BaseException"),(.type "object")],314,"Unlike",true,[],[],false,none,false⟩),#[(some (.ref 299)),none,(some (.str "Unlike" 568)),(some (.str "Unlike" 576)),(some (.builtin "ValueError.__new__")),(some (.bool true))]⟩
noncomputable def x209 (_:Params):Obj:=⟨(.type "super"),none,(.fields #[(.ref 315),(.ref 315),(.ref 315)]),#[]⟩
noncomputable def x210 (_:Params):Obj:=⟨(.type "builtin_function_or_method"),none,(.fields #[(.builtin "object.__init_subclass__"),(.ref 315)]),#[]⟩
noncomputable def x211 (P:Params):Obj:=⟨(.type "dict"),none,(.dict #[(en P "__module__" 604 (.str "sealpress.errors" 187)),(en P "__qualname__" 606 (.str "LeftOpen" 605)),(en P "__firstlineno__" 608 (.int 82 607)),(en P "__init__" 616 (.ref 331)),(en P "__static_attributes__" 618 (.ref 332))] 5),#[]⟩
noncomputable def x212 (_:Params):Obj:=⟨.none,none,(.fields #[(.int 84 0),(.int 4 0),(.ref 330)]),#[]⟩
noncomputable def x213 (_:Params):Obj:=⟨(.type "code"),none,(.fields #[(.str "LeftOpen" 599),(.str "LeftOpen" 600),(.str "/claim/cut.py" 601),(.int 82 0),(.int 0 0),(.int 0 0),(.int 0 0),(.int 0 0),(.ref 321),(.bool false),(.int 181 0),(.ref 322),.none,.none,.none,.none,(.int 602 0),(.int 82 0),(.str "/claim/cut.py" 603)]),#[]⟩
noncomputable def x214 (_:Params):Obj:=⟨(.type "frame"),none,.plain,#[(some (.ref 323)),(some (.ref 3)),(some (.ref 320)),none,(some (.str "sealpress.errors" 187)),none,(some (.ref 0))]⟩
noncomputable def x215 (_:Params):Obj:=⟨(.type "tuple"),none,(.seq #[(.str "self" 612),(.str "place" 613)] 0),#[]⟩
noncomputable def x216 (_:Params):Obj:=⟨.none,none,(fnO (tc 18 0) "__init__" "LeftOpen.__init__" 0 [] .none .none .none .none none .none .none 0),#[]⟩
noncomputable def x217 (_:Params):Obj:=⟨(.type "code"),none,(.fields #[(.str "__init__" 609),(.str "LeftOpen.__init__" 610),(.str "/claim/cut.py" 611),(.int 84 0),(.int 2 0),(.int 0 0),(.int 0 0),(.int 3 0),(.ref 325),(.bool true),(.int 181 0),(.ref 326),.none,(.ref 327),(.ref 328),(.ref 329),(.int 614 0),(.int 84 0),(.str "/claim/cut.py" 615)]),#[]⟩
noncomputable def x218 (_:Params):Obj:=⟨(.type "function"),none,(fnO (tc 18 0) "__init__" "LeftOpen.__init__" 3 [] .none .none .none (.str "sealpress.errors" 187) none (.ref 330) .none 0),#[]⟩
noncomputable def x219 (_:Params):Obj:=⟨(.type "tuple"),none,(.seq #[(.str "place" 617)] 0),#[]⟩
noncomputable def x220 (P:Params):Obj:=⟨(.type "dict"),none,(.dict #[(en P "__module__" 604 (.str "sealpress.errors" 187)),(en P "__firstlineno__" 608 (.int 82 607)),(en P "__init__" 616 (.ref 331)),(en P "__static_attributes__" 618 (.ref 332)),(en P "__doc__" 619 .none)] 2),#[]⟩
noncomputable def x221 (_:Params):Obj:=⟨(.type "type"),none,(.cls ⟨"LeftOpen",[(.ref 24)],[(.ref 334),(.ref 24),(.type "ValueError"),(.type "Exception"),(.type "BaseException"),(.type "object")],333,"LeftOpen",true,[],[],false,none,false⟩),#[(some (.ref 318)),none,(some (.str "LeftOpen" 597)),(some (.str "LeftOpen" 605)),(some (.builtin "ValueError.__new__")),(some (.bool true))]⟩
noncomputable def x222 (_:Params):Obj:=⟨(.type "super"),none,(.fields #[(.ref 334),(.ref 334),(.ref 334)]),#[]⟩
noncomputable def x223 (_:Params):Obj:=⟨(.type "builtin_function_or_method"),none,(.fields #[(.builtin "object.__init_subclass__"),(.ref 334)]),#[]⟩
noncomputable def x224 (P:Params):Obj:=⟨(.type "dict"),none,(.dict #[(en P "__module__" 629 (.str "sealpress.errors" 187)),(en P "__qualname__" 631 (.str "NoValue" 630)),(en P "__firstlineno__" 633 (.int 87 632)),(en P "__init__" 641 (.ref 350)),(en P "__static_attributes__" 643 (.ref 351))] 5),#[]⟩
noncomputable def x225 (_:Params):Obj:=⟨.none,none,(.fields #[(.int 89 0),(.int 4 0),(.ref 349)]),#[]⟩
noncomputable def x226 (_:Params):Obj:=⟨(.type "code"),none,(.fields #[(.str "NoValue" 624),(.str "NoValue" 625),(.str "/claim/cut.py" 626),(.int 87 0),(.int 0 0),(.int 0 0),(.int 0 0),(.int 0 0),(.ref 340),(.bool false),(.int 181 0),(.ref 341),.none,.none,.none,.none,(.int 627 0),(.int 87 0),(.str "/claim/cut.py" 628)]),#[]⟩
noncomputable def x227 (_:Params):Obj:=⟨(.type "frame"),none,.plain,#[(some (.ref 342)),(some (.ref 3)),(some (.ref 339)),none,(some (.str "sealpress.errors" 187)),none,(some (.ref 0))]⟩
noncomputable def x228 (_:Params):Obj:=⟨(.type "tuple"),none,(.seq #[(.str "self" 637),(.str "name" 638)] 0),#[]⟩
noncomputable def x229 (_:Params):Obj:=⟨.none,none,(fnO (tc 19 0) "__init__" "NoValue.__init__" 0 [] .none .none .none .none none .none .none 0),#[]⟩
noncomputable def x230 (_:Params):Obj:=⟨(.type "code"),none,(.fields #[(.str "__init__" 634),(.str "NoValue.__init__" 635),(.str "/claim/cut.py" 636),(.int 89 0),(.int 2 0),(.int 0 0),(.int 0 0),(.int 3 0),(.ref 344),(.bool true),(.int 181 0),(.ref 345),.none,(.ref 346),(.ref 347),(.ref 348),(.int 639 0),(.int 89 0),(.str "/claim/cut.py" 640)]),#[]⟩
noncomputable def x231 (_:Params):Obj:=⟨(.type "function"),none,(fnO (tc 19 0) "__init__" "NoValue.__init__" 3 [] .none .none .none (.str "sealpress.errors" 187) none (.ref 349) .none 0),#[]⟩
noncomputable def x232 (_:Params):Obj:=⟨(.type "tuple"),none,(.seq #[(.str "name" 642)] 0),#[]⟩
noncomputable def x233 (P:Params):Obj:=⟨(.type "dict"),none,(.dict #[(en P "__module__" 629 (.str "sealpress.errors" 187)),(en P "__firstlineno__" 633 (.int 87 632)),(en P "__init__" 641 (.ref 350)),(en P "__static_attributes__" 643 (.ref 351)),(en P "__doc__" 644 .none)] 2),#[]⟩
noncomputable def x234 (_:Params):Obj:=⟨(.type "type"),none,(.cls ⟨"NoValue",[(.ref 24)],[(.ref 353),(.ref 24),(.type "ValueError"),(.type "Exception"),(.type "BaseException"),(.type "object")],352,"NoValue",true,[],[],false,none,false⟩),#[(some (.ref 337)),none,(some (.str "NoValue" 622)),(some (.str "NoValue" 630)),(some (.builtin "ValueError.__new__")),(some (.bool true))]⟩
noncomputable def x235 (_:Params):Obj:=⟨(.type "super"),none,(.fields #[(.ref 353),(.ref 353),(.ref 353)]),#[]⟩
noncomputable def x236 (_:Params):Obj:=⟨(.type "builtin_function_or_method"),none,(.fields #[(.builtin "object.__init_subclass__"),(.ref 353)]),#[]⟩
noncomputable def x237 (P:Params):Obj:=⟨(.type "dict"),none,(.dict #[(en P "__module__" 654 (.str "sealpress.errors" 187)),(en P "__qualname__" 656 (.str "NoKind" 655)),(en P "__firstlineno__" 658 (.int 92 657)),(en P "__init__" 666 (.ref 369)),(en P "__static_attributes__" 668 (.ref 370))] 5),#[]⟩
noncomputable def x238 (_:Params):Obj:=⟨.none,none,(.fields #[(.int 94 0),(.int 4 0),(.ref 368)]),#[]⟩
noncomputable def x239 (_:Params):Obj:=⟨(.type "code"),none,(.fields #[(.str "NoKind" 649),(.str "NoKind" 650),(.str "/claim/cut.py" 651),(.int 92 0),(.int 0 0),(.int 0 0),(.int 0 0),(.int 0 0),(.ref 359),(.bool false),(.int 181 0),(.ref 360),.none,.none,.none,.none,(.int 652 0),(.int 92 0),(.str "/claim/cut.py" 653)]),#[]⟩
noncomputable def x240 (_:Params):Obj:=⟨(.type "frame"),none,.plain,#[(some (.ref 361)),(some (.ref 3)),(some (.ref 358)),none,(some (.str "sealpress.errors" 187)),none,(some (.ref 0))]⟩
noncomputable def x241 (_:Params):Obj:=⟨(.type "tuple"),none,(.seq #[(.str "self" 662),(.str "name" 663)] 0),#[]⟩
noncomputable def x242 (_:Params):Obj:=⟨.none,none,(fnO (tc 20 0) "__init__" "NoKind.__init__" 0 [] .none .none .none .none none .none .none 0),#[]⟩
noncomputable def x243 (_:Params):Obj:=⟨(.type "code"),none,(.fields #[(.str "__init__" 659),(.str "NoKind.__init__" 660),(.str "/claim/cut.py" 661),(.int 94 0),(.int 2 0),(.int 0 0),(.int 0 0),(.int 3 0),(.ref 363),(.bool true),(.int 181 0),(.ref 364),.none,(.ref 365),(.ref 366),(.ref 367),(.int 664 0),(.int 94 0),(.str "/claim/cut.py" 665)]),#[]⟩
noncomputable def x244 (_:Params):Obj:=⟨(.type "function"),none,(fnO (tc 20 0) "__init__" "NoKind.__init__" 3 [] .none .none .none (.str "sealpress.errors" 187) none (.ref 368) .none 0),#[]⟩
noncomputable def x245 (_:Params):Obj:=⟨(.type "tuple"),none,(.seq #[(.str "name" 667)] 0),#[]⟩
noncomputable def x246 (P:Params):Obj:=⟨(.type "dict"),none,(.dict #[(en P "__module__" 654 (.str "sealpress.errors" 187)),(en P "__firstlineno__" 658 (.int 92 657)),(en P "__init__" 666 (.ref 369)),(en P "__static_attributes__" 668 (.ref 370)),(en P "__doc__" 669 .none)] 2),#[]⟩
noncomputable def x247 (_:Params):Obj:=⟨(.type "type"),none,(.cls ⟨"NoKind",[(.ref 24)],[(.ref 372),(.ref 24),(.type "ValueError"),(.type "Exception"),(.type "BaseException"),(.type "object")],371,"NoKind",true,[],[],false,none,false⟩),#[(some (.ref 356)),none,(some (.str "NoKind" 647)),(some (.str "NoKind" 655)),(some (.builtin "ValueError.__new__")),(some (.bool true))]⟩
noncomputable def x248 (_:Params):Obj:=⟨(.type "super"),none,(.fields #[(.ref 372),(.ref 372),(.ref 372)]),#[]⟩
noncomputable def x249 (_:Params):Obj:=⟨(.type "builtin_function_or_method"),none,(.fields #[(.builtin "object.__init_subclass__"),(.ref 372)]),#[]⟩
noncomputable def x250 (P:Params):Obj:=⟨(.type "dict"),none,(.dict #[(en P "__module__" 679 (.str "sealpress.errors" 187)),(en P "__qualname__" 681 (.str "NoRow" 680)),(en P "__firstlineno__" 683 (.int 97 682)),(en P "__static_attributes__" 684 (.ref 382))] 4),#[]⟩
noncomputable def x251 (_:Params):Obj:=⟨(.type "code"),none,(.fields #[(.str "NoRow" 674),(.str "NoRow" 675),(.str "/claim/cut.py" 676),(.int 97 0),(.int 0 0),(.int 0 0),(.int 0 0),(.int 0 0),(.ref 378),(.bool false),(.int 181 0),(.ref 379),.none,.none,.none,.none,(.int 677 0),(.int 97 0),(.str "/claim/cut.py" 678)]),#[]⟩
noncomputable def x252 (_:Params):Obj:=⟨(.type "frame"),none,.plain,#[(some (.ref 380)),(some (.ref 3)),(some (.ref 377)),none,(some (.str "sealpress.errors" 187)),none,(some (.ref 0))]⟩
noncomputable def x253 (P:Params):Obj:=⟨(.type "dict"),none,(.dict #[(en P "__module__" 679 (.str "sealpress.errors" 187)),(en P "__firstlineno__" 683 (.int 97 682)),(en P "__static_attributes__" 684 (.ref 382)),(en P "__doc__" 685 .none)] 2),#[]⟩
noncomputable def x254 (_:Params):Obj:=⟨(.type "type"),none,(.cls ⟨"NoRow",[(.ref 24)],[(.ref 384),(.ref 24),(.type "ValueError"),(.type "Exception"),(.type "BaseException"),(.type "object")],383,"NoRow",true,[],[],false,none,false⟩),#[(some (.ref 375)),none,(some (.str "NoRow" 672)),(some (.str "NoRow" 680)),(some (.builtin "ValueError.__new__")),(some (.bool true))]⟩
noncomputable def x255 (_:Params):Obj:=⟨(.type "super"),none,(.fields #[(.ref 384),(.ref 384),(.ref 384)]),#[]⟩
noncomputable def x256 (_:Params):Obj:=⟨(.type "builtin_function_or_method"),none,(.fields #[(.builtin "object.__init_subclass__"),(.ref 384)]),#[]⟩
noncomputable def x257 (_:Params):Obj:=⟨(.type "tuple"),none,(.seq #[(.str "number" 701)] 0),#[]⟩
noncomputable def x258 (_:Params):Obj:=⟨.none,none,(fnO (tp 27) "sign_of" "sign_of" 0 [] .none .none .none .none none .none .none 0),#[]⟩
noncomputable def x259 (_:Params):Obj:=⟨(.type "code"),none,(.fields #[(.str "sign_of" 698),(.str "sign_of" 699),(.str "/claim/cut.py" 700),(.int 104 0),(.int 1 0),(.int 0 0),(.int 0 0),(.int 3 0),(.ref 387),(.bool true),(.int 181 0),(.ref 388),.none,(.ref 389),(.ref 390),(.ref 391),(.int 702 0),(.int 104 0),(.str "/claim/cut.py" 703)]),#[]⟩
noncomputable def x260 (_:Params):Obj:=⟨(.type "function"),none,(fnO (tp 27) "sign_of" "sign_of" 3 [] .none .none .none (.str "sealpress.signs" 688) none (.ref 392) .none 0),#[]⟩
noncomputable def x261 (_:Params):Obj:=⟨(.type "tuple"),none,(.seq #[(.str "figures" 708),(.str "number" 709)] 0),#[]⟩
noncomputable def x262 (_:Params):Obj:=⟨.none,none,(fnO (tp 28) "sign_told" "sign_told" 0 [] .none .none .none .none none .none .none 0),#[]⟩
noncomputable def x263 (_:Params):Obj:=⟨(.type "code"),none,(.fields #[(.str "sign_told" 705),(.str "sign_told" 706),(.str "/claim/cut.py" 707),(.int 106 0),(.int 1 0),(.int 0 0),(.int 0 0),(.int 3 0),(.ref 394),(.bool true),(.int 181 0),(.ref 395),.none,(.ref 396),(.ref 397),(.ref 398),(.int 710 0),(.int 106 0),(.str "/claim/cut.py" 711)]),#[]⟩
noncomputable def x264 (_:Params):Obj:=⟨(.type "function"),none,(fnO (tp 28) "sign_told" "sign_told" 3 [] .none .none .none (.str "sealpress.signs" 688) none (.ref 399) .none 0),#[]⟩
noncomputable def x265 (_:Params):Obj:=⟨(.type "tuple"),none,(.seq #[(.str "text" 717),(.str "bare" 718),(.str "row" 719),(.str "quoted" 720)] 0),#[]⟩
noncomputable def x266 (_:Params):Obj:=⟨(.type "tuple"),none,(.seq #[(.str "state" 725)] 0),#[]⟩
noncomputable def x267 (_:Params):Obj:=⟨.none,none,(fnO (tp 32) "place_of" "place_of" 0 [] .none .none .none .none none .none .none 0),#[]⟩
noncomputable def x268 (_:Params):Obj:=⟨(.type "code"),none,(.fields #[(.str "place_of" 722),(.str "place_of" 723),(.str "/claim/cut.py" 724),(.int 114 0),(.int 1 0),(.int 0 0),(.int 0 0),(.int 3 0),(.ref 402),(.bool true),(.int 181 0),(.ref 403),.none,(.ref 404),(.ref 405),(.ref 406),(.int 726 0),(.int 114 0),(.str "/claim/cut.py" 727)]),#[]⟩
noncomputable def x269 (_:Params):Obj:=⟨(.type "function"),none,(fnO (tp 32) "place_of" "place_of" 3 [] .none .none .none (.str "sealpress.places" 715) none (.ref 407) .none 0),#[]⟩
noncomputable def x270 (_:Params):Obj:=⟨(.type "tuple"),none,(.seq #[(.str "sign" 734)] 0),#[]⟩
noncomputable def x271 (_:Params):Obj:=⟨.none,none,(fnO (tp 34) "fed_between" "fed_between" 0 [] .none .none .none .none none .none .none 0),#[]⟩
noncomputable def x272 (_:Params):Obj:=⟨(.type "code"),none,(.fields #[(.str "fed_between" 731),(.str "fed_between" 732),(.str "/claim/cut.py" 733),(.int 119 0),(.int 1 0),(.int 0 0),(.int 0 0),(.int 3 0),(.ref 409),(.bool true),(.int 181 0),(.ref 410),.none,(.ref 411),(.ref 412),(.ref 413),(.int 735 0),(.int 119 0),(.str "/claim/cut.py" 736)]),#[]⟩
noncomputable def x273 (_:Params):Obj:=⟨(.type "function"),none,(fnO (tp 34) "fed_between" "fed_between" 3 [] .none .none .none (.str "sealpress.talks" 729) none (.ref 414) .none 0),#[]⟩
noncomputable def x274 (_:Params):Obj:=⟨(.type "tuple"),none,(.seq #[(.str "sign" 741)] 0),#[]⟩
noncomputable def x275 (_:Params):Obj:=⟨.none,none,(fnO (tp 35) "fed_word" "fed_word" 0 [] .none .none .none .none none .none .none 0),#[]⟩
noncomputable def x276 (_:Params):Obj:=⟨(.type "code"),none,(.fields #[(.str "fed_word" 738),(.str "fed_word" 739),(.str "/claim/cut.py" 740),(.int 127 0),(.int 1 0),(.int 0 0),(.int 0 0),(.int 3 0),(.ref 416),(.bool true),(.int 181 0),(.ref 417),.none,(.ref 418),(.ref 419),(.ref 420),(.int 742 0),(.int 127 0),(.str "/claim/cut.py" 743)]),#[]⟩
noncomputable def x277 (_:Params):Obj:=⟨(.type "function"),none,(fnO (tp 35) "fed_word" "fed_word" 3 [] .none .none .none (.str "sealpress.talks" 729) none (.ref 421) .none 0),#[]⟩
noncomputable def x278 (_:Params):Obj:=⟨(.type "tuple"),none,(.seq #[(.str "sign" 748)] 0),#[]⟩
noncomputable def x279 (_:Params):Obj:=⟨.none,none,(fnO (tp 36) "fed_said" "fed_said" 0 [] .none .none .none .none none .none .none 0),#[]⟩
noncomputable def x280 (_:Params):Obj:=⟨(.type "code"),none,(.fields #[(.str "fed_said" 745),(.str "fed_said" 746),(.str "/claim/cut.py" 747),(.int 131 0),(.int 1 0),(.int 0 0),(.int 0 0),(.int 3 0),(.ref 423),(.bool true),(.int 181 0),(.ref 424),.none,(.ref 425),(.ref 426),(.ref 427),(.int 749 0),(.int 131 0),(.str "/claim/cut.py" 750)]),#[]⟩
noncomputable def x281 (_:Params):Obj:=⟨(.type "function"),none,(fnO (tp 36) "fed_said" "fed_said" 3 [] .none .none .none (.str "sealpress.talks" 729) none (.ref 428) .none 0),#[]⟩
noncomputable def x282 (_:Params):Obj:=⟨(.type "tuple"),none,(.seq #[(.str "talk" 755),(.str "sign" 756)] 0),#[]⟩
noncomputable def x283 (_:Params):Obj:=⟨.none,none,(fnO (tp 37) "feed" "feed" 0 [] .none .none .none .none none .none .none 0),#[]⟩
noncomputable def x284 (_:Params):Obj:=⟨(.type "code"),none,(.fields #[(.str "feed" 752),(.str "feed" 753),(.str "/claim/cut.py" 754),(.int 137 0),(.int 2 0),(.int 0 0),(.int 0 0),(.int 3 0),(.ref 430),(.bool true),(.int 181 0),(.ref 431),.none,(.ref 432),(.ref 433),(.ref 434),(.int 757 0),(.int 137 0),(.str "/claim/cut.py" 758)]),#[]⟩
noncomputable def x285 (_:Params):Obj:=⟨(.type "function"),none,(fnO (tp 37) "feed" "feed" 3 [] .none .none .none (.str "sealpress.talks" 729) none (.ref 435) .none 0),#[]⟩
noncomputable def x286 (_:Params):Obj:=⟨(.type "tuple"),none,(.seq #[(.str "mode" 769),(.str "opens" 770),(.str "events" 771)] 0),#[]⟩
noncomputable def x287 (_:Params):Obj:=⟨.none,none,(fnO (tp 41) "come_to" "come_to" 0 [] .none .none .none .none none .none .none 0),#[]⟩
noncomputable def x288 (_:Params):Obj:=⟨(.type "code"),none,(.fields #[(.str "come_to" 766),(.str "come_to" 767),(.str "/claim/cut.py" 768),(.int 150 0),(.int 3 0),(.int 0 0),(.int 0 0),(.int 3 0),(.ref 437),(.bool true),(.int 181 0),(.ref 438),.none,(.ref 439),(.ref 440),(.ref 441),(.int 772 0),(.int 150 0),(.str "/claim/cut.py" 773)]),#[]⟩
noncomputable def x289 (_:Params):Obj:=⟨(.type "function"),none,(fnO (tp 41) "come_to" "come_to" 3 [] .none .none .none (.str "sealpress.modes" 760) none (.ref 442) .none 0),#[]⟩
noncomputable def x290 (_:Params):Obj:=⟨(.type "tuple"),none,(.seq #[(.str "mode" 778),(.str "opens" 779),(.str "sign" 780)] 0),#[]⟩
noncomputable def x291 (_:Params):Obj:=⟨.none,none,(fnO (tp 42) "told" "told" 0 [] .none .none .none .none none .none .none 0),#[]⟩
noncomputable def x292 (_:Params):Obj:=⟨(.type "code"),none,(.fields #[(.str "told" 775),(.str "told" 776),(.str "/claim/cut.py" 777),(.int 152 0),(.int 3 0),(.int 0 0),(.int 0 0),(.int 3 0),(.ref 444),(.bool true),(.int 181 0),(.ref 445),.none,(.ref 446),(.ref 447),(.ref 448),(.int 781 0),(.int 152 0),(.str "/claim/cut.py" 782)]),#[]⟩
noncomputable def x293 (_:Params):Obj:=⟨(.type "function"),none,(fnO (tp 42) "told" "told" 3 [] .none .none .none (.str "sealpress.modes" 760) none (.ref 449) .none 0),#[]⟩
noncomputable def x294 (_:Params):Obj:=⟨(.type "tuple"),none,(.seq #[(.str "mode" 787),(.str "word" 788),(.str "opens" 789),(.str "talk" 790),(.str "most" 791)] 0),#[]⟩
noncomputable def x295 (_:Params):Obj:=⟨.none,none,(fnO (tp 43) "gathered" "gathered" 0 [] .none .none .none .none none .none .none 0),#[]⟩
noncomputable def x296 (_:Params):Obj:=⟨(.type "code"),none,(.fields #[(.str "gathered" 784),(.str "gathered" 785),(.str "/claim/cut.py" 786),(.int 156 0),(.int 5 0),(.int 0 0),(.int 0 0),(.int 3 0),(.ref 451),(.bool true),(.int 181 0),(.ref 452),.none,(.ref 453),(.ref 454),(.ref 455),(.int 792 0),(.int 156 0),(.str "/claim/cut.py" 793)]),#[]⟩
noncomputable def x297 (_:Params):Obj:=⟨(.type "function"),none,(fnO (tp 43) "gathered" "gathered" 3 [] .none .none .none (.str "sealpress.modes" 760) none (.ref 456) .none 0),#[]⟩
noncomputable def x298 (_:Params):Obj:=⟨(.type "tuple"),none,(.seq #[(.str "opens" 798),(.str "events" 799)] 0),#[]⟩
noncomputable def x299 (_:Params):Obj:=⟨.none,none,(fnO (tp 44) "box_shut" "box_shut" 0 [] .none .none .none .none none .none .none 0),#[]⟩
noncomputable def x300 (_:Params):Obj:=⟨(.type "code"),none,(.fields #[(.str "box_shut" 795),(.str "box_shut" 796),(.str "/claim/cut.py" 797),(.int 160 0),(.int 2 0),(.int 0 0),(.int 0 0),(.int 3 0),(.ref 458),(.bool true),(.int 181 0),(.ref 459),.none,(.ref 460),(.ref 461),(.ref 462),(.int 800 0),(.int 160 0),(.str "/claim/cut.py" 801)]),#[]⟩
noncomputable def x301 (_:Params):Obj:=⟨(.type "function"),none,(fnO (tp 44) "box_shut" "box_shut" 3 [] .none .none .none (.str "sealpress.modes" 760) none (.ref 463) .none 0),#[]⟩
noncomputable def x302 (_:Params):Obj:=⟨(.type "tuple"),none,(.seq #[(.str "opens" 806),(.str "events" 807),(.str "mode" 808)] 0),#[]⟩
noncomputable def x303 (_:Params):Obj:=⟨.none,none,(fnO (tp 45) "into_box" "into_box" 0 [] .none .none .none .none none .none .none 0),#[]⟩
noncomputable def x304 (_:Params):Obj:=⟨(.type "code"),none,(.fields #[(.str "into_box" 803),(.str "into_box" 804),(.str "/claim/cut.py" 805),(.int 164 0),(.int 2 0),(.int 0 0),(.int 0 0),(.int 3 0),(.ref 465),(.bool true),(.int 181 0),(.ref 466),.none,(.ref 467),(.ref 468),(.ref 469),(.int 809 0),(.int 164 0),(.str "/claim/cut.py" 810)]),#[]⟩
noncomputable def x305 (_:Params):Obj:=⟨(.type "function"),none,(fnO (tp 45) "into_box" "into_box" 3 [] .none .none .none (.str "sealpress.modes" 760) none (.ref 470) .none 0),#[]⟩
noncomputable def x306 (_:Params):Obj:=⟨(.type "tuple"),none,(.seq #[(.str "opens" 815),(.str "sign" 816),(.str "events" 817)] 0),#[]⟩
noncomputable def x307 (_:Params):Obj:=⟨.none,none,(fnO (tp 46) "led_on" "led_on" 0 [] .none .none .none .none none .none .none 0),#[]⟩
noncomputable def x308 (_:Params):Obj:=⟨(.type "code"),none,(.fields #[(.str "led_on" 812),(.str "led_on" 813),(.str "/claim/cut.py" 814),(.int 169 0),(.int 3 0),(.int 0 0),(.int 0 0),(.int 3 0),(.ref 472),(.bool true),(.int 181 0),(.ref 473),.none,(.ref 474),(.ref 475),(.ref 476),(.int 818 0),(.int 169 0),(.str "/claim/cut.py" 819)]),#[]⟩
noncomputable def x309 (_:Params):Obj:=⟨(.type "function"),none,(fnO (tp 46) "led_on" "led_on" 3 [] .none .none .none (.str "sealpress.modes" 760) none (.ref 477) .none 0),#[]⟩
noncomputable def x310 (_:Params):Obj:=⟨(.type "tuple"),none,(.seq #[(.str "opens" 824),(.str "talk" 825),(.str "sign" 826),(.str "answer" 827)] 0),#[]⟩
noncomputable def x311 (_:Params):Obj:=⟨.none,none,(fnO (tp 47) "fed" "fed" 0 [] .none .none .none .none none .none .none 0),#[]⟩
noncomputable def x312 (_:Params):Obj:=⟨(.type "code"),none,(.fields #[(.str "fed" 821),(.str "fed" 822),(.str "/claim/cut.py" 823),(.int 177 0),(.int 3 0),(.int 0 0),(.int 0 0),(.int 3 0),(.ref 479),(.bool true),(.int 181 0),(.ref 480),.none,(.ref 481),(.ref 482),(.ref 483),(.int 828 0),(.int 177 0),(.str "/claim/cut.py" 829)]),#[]⟩
noncomputable def x313 (_:Params):Obj:=⟨(.type "function"),none,(fnO (tp 47) "fed" "fed" 3 [] .none .none .none (.str "sealpress.modes" 760) none (.ref 484) .none 0),#[]⟩
noncomputable def x314 (_:Params):Obj:=⟨(.type "tuple"),none,(.seq #[(.str "word" 834),(.str "sign" 835)] 0),#[]⟩
noncomputable def x315 (_:Params):Obj:=⟨.none,none,(fnO (tp 48) "mark_ended" "mark_ended" 0 [] .none .none .none .none none .none .none 0),#[]⟩
noncomputable def x316 (_:Params):Obj:=⟨(.type "code"),none,(.fields #[(.str "mark_ended" 831),(.str "mark_ended" 832),(.str "/claim/cut.py" 833),(.int 182 0),(.int 2 0),(.int 0 0),(.int 0 0),(.int 3 0),(.ref 486),(.bool true),(.int 181 0),(.ref 487),.none,(.ref 488),(.ref 489),(.ref 490),(.int 836 0),(.int 182 0),(.str "/claim/cut.py" 837)]),#[]⟩
noncomputable def x317 (_:Params):Obj:=⟨(.type "function"),none,(fnO (tp 48) "mark_ended" "mark_ended" 3 [] .none .none .none (.str "sealpress.modes" 760) none (.ref 491) .none 0),#[]⟩
noncomputable def x318 (_:Params):Obj:=⟨(.type "tuple"),none,(.seq #[(.str "word" 842),(.str "opens" 843),(.str "talk" 844),(.str "sign" 845)] 0),#[]⟩
noncomputable def x319 (_:Params):Obj:=⟨.none,none,(fnO (tp 49) "at_text" "at_text" 0 [] .none .none .none .none none .none .none 0),#[]⟩
noncomputable def x320 (_:Params):Obj:=⟨(.type "code"),none,(.fields #[(.str "at_text" 839),(.str "at_text" 840),(.str "/claim/cut.py" 841),(.int 184 0),(.int 4 0),(.int 0 0),(.int 0 0),(.int 3 0),(.ref 493),(.bool true),(.int 181 0),(.ref 494),.none,(.ref 495),(.ref 496),(.ref 497),(.int 846 0),(.int 184 0),(.str "/claim/cut.py" 847)]),#[]⟩
noncomputable def x321 (_:Params):Obj:=⟨(.type "function"),none,(fnO (tp 49) "at_text" "at_text" 3 [] .none .none .none (.str "sealpress.modes" 760) none (.ref 498) .none 0),#[]⟩
noncomputable def x322 (_:Params):Obj:=⟨(.type "tuple"),none,(.seq #[(.str "word" 852),(.str "opens" 853),(.str "talk" 854),(.str "sign" 855)] 0),#[]⟩
noncomputable def x323 (_:Params):Obj:=⟨.none,none,(fnO (tp 50) "at_mark" "at_mark" 0 [] .none .none .none .none none .none .none 0),#[]⟩
noncomputable def x324 (_:Params):Obj:=⟨(.type "code"),none,(.fields #[(.str "at_mark" 849),(.str "at_mark" 850),(.str "/claim/cut.py" 851),(.int 190 0),(.int 4 0),(.int 0 0),(.int 0 0),(.int 3 0),(.ref 500),(.bool true),(.int 181 0),(.ref 501),.none,(.ref 502),(.ref 503),(.ref 504),(.int 856 0),(.int 190 0),(.str "/claim/cut.py" 857)]),#[]⟩
noncomputable def x325 (_:Params):Obj:=⟨(.type "function"),none,(fnO (tp 50) "at_mark" "at_mark" 3 [] .none .none .none (.str "sealpress.modes" 760) none (.ref 505) .none 0),#[]⟩
noncomputable def x326 (_:Params):Obj:=⟨(.type "tuple"),none,(.seq #[(.str "word" 862),(.str "opens" 863),(.str "talk" 864),(.str "sign" 865)] 0),#[]⟩
noncomputable def x327 (_:Params):Obj:=⟨.none,none,(fnO (tp 51) "at_open" "at_open" 0 [] .none .none .none .none none .none .none 0),#[]⟩
noncomputable def x328 (_:Params):Obj:=⟨(.type "code"),none,(.fields #[(.str "at_open" 859),(.str "at_open" 860),(.str "/claim/cut.py" 861),(.int 194 0),(.int 4 0),(.int 0 0),(.int 0 0),(.int 3 0),(.ref 507),(.bool true),(.int 181 0),(.ref 508),.none,(.ref 509),(.ref 510),(.ref 511),(.int 866 0),(.int 194 0),(.str "/claim/cut.py" 867)]),#[]⟩
noncomputable def x329 (_:Params):Obj:=⟨(.type "function"),none,(fnO (tp 51) "at_open" "at_open" 3 [] .none .none .none (.str "sealpress.modes" 760) none (.ref 512) .none 0),#[]⟩
noncomputable def x330 (_:Params):Obj:=⟨(.type "tuple"),none,(.seq #[(.str "word" 872),(.str "opens" 873),(.str "talk" 874),(.str "sign" 875)] 0),#[]⟩
noncomputable def x331 (_:Params):Obj:=⟨.none,none,(fnO (tp 52) "at_name" "at_name" 0 [] .none .none .none .none none .none .none 0),#[]⟩
noncomputable def x332 (_:Params):Obj:=⟨(.type "code"),none,(.fields #[(.str "at_name" 869),(.str "at_name" 870),(.str "/claim/cut.py" 871),(.int 200 0),(.int 4 0),(.int 0 0),(.int 0 0),(.int 3 0),(.ref 514),(.bool true),(.int 181 0),(.ref 515),.none,(.ref 516),(.ref 517),(.ref 518),(.int 876 0),(.int 200 0),(.str "/claim/cut.py" 877)]),#[]⟩
noncomputable def x333 (_:Params):Obj:=⟨(.type "function"),none,(fnO (tp 52) "at_name" "at_name" 3 [] .none .none .none (.str "sealpress.modes" 760) none (.ref 519) .none 0),#[]⟩
noncomputable def x334 (_:Params):Obj:=⟨(.type "tuple"),none,(.seq #[(.str "word" 882),(.str "opens" 883),(.str "talk" 884),(.str "sign" 885)] 0),#[]⟩
noncomputable def x335 (_:Params):Obj:=⟨.none,none,(fnO (tp 53) "at_slash" "at_slash" 0 [] .none .none .none .none none .none .none 0),#[]⟩
noncomputable def x336 (_:Params):Obj:=⟨(.type "code"),none,(.fields #[(.str "at_slash" 879),(.str "at_slash" 880),(.str "/claim/cut.py" 881),(.int 204 0),(.int 4 0),(.int 0 0),(.int 0 0),(.int 3 0),(.ref 521),(.bool true),(.int 181 0),(.ref 522),.none,(.ref 523),(.ref 524),(.ref 525),(.int 886 0),(.int 204 0),(.str "/claim/cut.py" 887)]),#[]⟩
noncomputable def x337 (_:Params):Obj:=⟨(.type "function"),none,(fnO (tp 53) "at_slash" "at_slash" 3 [] .none .none .none (.str "sealpress.modes" 760) none (.ref 526) .none 0),#[]⟩
noncomputable def x338 (_:Params):Obj:=⟨(.type "tuple"),none,(.seq #[(.str "word" 892),(.str "opens" 893),(.str "talk" 894),(.str "sign" 895)] 0),#[]⟩
noncomputable def x339 (_:Params):Obj:=⟨.none,none,(fnO (tp 54) "at_shut" "at_shut" 0 [] .none .none .none .none none .none .none 0),#[]⟩
noncomputable def x340 (_:Params):Obj:=⟨(.type "code"),none,(.fields #[(.str "at_shut" 889),(.str "at_shut" 890),(.str "/claim/cut.py" 891),(.int 208 0),(.int 4 0),(.int 0 0),(.int 0 0),(.int 3 0),(.ref 528),(.bool true),(.int 181 0),(.ref 529),.none,(.ref 530),(.ref 531),(.ref 532),(.int 896 0),(.int 208 0),(.str "/claim/cut.py" 897)]),#[]⟩
noncomputable def x341 (_:Params):Obj:=⟨(.type "function"),none,(fnO (tp 54) "at_shut" "at_shut" 3 [] .none .none .none (.str "sealpress.modes" 760) none (.ref 533) .none 0),#[]⟩
noncomputable def x342 (_:Params):Obj:=⟨(.type "tuple"),none,(.seq #[(.str "word" 902),(.str "opens" 903),(.str "talk" 904),(.str "sign" 905)] 0),#[]⟩
noncomputable def x343 (_:Params):Obj:=⟨.none,none,(fnO (tp 55) "at_gap" "at_gap" 0 [] .none .none .none .none none .none .none 0),#[]⟩
noncomputable def x344 (_:Params):Obj:=⟨(.type "code"),none,(.fields #[(.str "at_gap" 899),(.str "at_gap" 900),(.str "/claim/cut.py" 901),(.int 214 0),(.int 4 0),(.int 0 0),(.int 0 0),(.int 3 0),(.ref 535),(.bool true),(.int 181 0),(.ref 536),.none,(.ref 537),(.ref 538),(.ref 539),(.int 906 0),(.int 214 0),(.str "/claim/cut.py" 907)]),#[]⟩
noncomputable def x345 (_:Params):Obj:=⟨(.type "function"),none,(fnO (tp 55) "at_gap" "at_gap" 3 [] .none .none .none (.str "sealpress.modes" 760) none (.ref 540) .none 0),#[]⟩
noncomputable def x346 (_:Params):Obj:=⟨(.type "tuple"),none,(.seq #[(.str "word" 912),(.str "opens" 913),(.str "talk" 914),(.str "sign" 915)] 0),#[]⟩
noncomputable def x347 (_:Params):Obj:=⟨.none,none,(fnO (tp 56) "at_attr" "at_attr" 0 [] .none .none .none .none none .none .none 0),#[]⟩
noncomputable def x348 (_:Params):Obj:=⟨(.type "code"),none,(.fields #[(.str "at_attr" 909),(.str "at_attr" 910),(.str "/claim/cut.py" 911),(.int 218 0),(.int 4 0),(.int 0 0),(.int 0 0),(.int 3 0),(.ref 542),(.bool true),(.int 181 0),(.ref 543),.none,(.ref 544),(.ref 545),(.ref 546),(.int 916 0),(.int 218 0),(.str "/claim/cut.py" 917)]),#[]⟩
noncomputable def x349 (_:Params):Obj:=⟨(.type "function"),none,(fnO (tp 56) "at_attr" "at_attr" 3 [] .none .none .none (.str "sealpress.modes" 760) none (.ref 547) .none 0),#[]⟩
noncomputable def x350 (_:Params):Obj:=⟨(.type "tuple"),none,(.seq #[(.str "word" 922),(.str "opens" 923),(.str "talk" 924),(.str "sign" 925)] 0),#[]⟩
noncomputable def x351 (_:Params):Obj:=⟨.none,none,(fnO (tp 57) "at_is" "at_is" 0 [] .none .none .none .none none .none .none 0),#[]⟩
noncomputable def x352 (_:Params):Obj:=⟨(.type "code"),none,(.fields #[(.str "at_is" 919),(.str "at_is" 920),(.str "/claim/cut.py" 921),(.int 230 0),(.int 4 0),(.int 0 0),(.int 0 0),(.int 3 0),(.ref 549),(.bool true),(.int 181 0),(.ref 550),.none,(.ref 551),(.ref 552),(.ref 553),(.int 926 0),(.int 230 0),(.str "/claim/cut.py" 927)]),#[]⟩
noncomputable def x353 (_:Params):Obj:=⟨(.type "function"),none,(fnO (tp 57) "at_is" "at_is" 3 [] .none .none .none (.str "sealpress.modes" 760) none (.ref 554) .none 0),#[]⟩
noncomputable def x354 (_:Params):Obj:=⟨(.type "tuple"),none,(.seq #[(.str "word" 932),(.str "opens" 933),(.str "talk" 934),(.str "sign" 935)] 0),#[]⟩
noncomputable def x355 (_:Params):Obj:=⟨.none,none,(fnO (tp 58) "at_bang" "at_bang" 0 [] .none .none .none .none none .none .none 0),#[]⟩
noncomputable def x356 (_:Params):Obj:=⟨(.type "code"),none,(.fields #[(.str "at_bang" 929),(.str "at_bang" 930),(.str "/claim/cut.py" 931),(.int 234 0),(.int 4 0),(.int 0 0),(.int 0 0),(.int 3 0),(.ref 556),(.bool true),(.int 181 0),(.ref 557),.none,(.ref 558),(.ref 559),(.ref 560),(.int 936 0),(.int 234 0),(.str "/claim/cut.py" 937)]),#[]⟩
noncomputable def x357 (_:Params):Obj:=⟨(.type "function"),none,(fnO (tp 58) "at_bang" "at_bang" 3 [] .none .none .none (.str "sealpress.modes" 760) none (.ref 561) .none 0),#[]⟩
noncomputable def x358 (_:Params):Obj:=⟨(.type "tuple"),none,(.seq #[(.str "word" 942),(.str "opens" 943),(.str "talk" 944),(.str "sign" 945)] 0),#[]⟩
noncomputable def x359 (_:Params):Obj:=⟨.none,none,(fnO (tp 59) "at_bare" "at_bare" 0 [] .none .none .none .none none .none .none 0),#[]⟩
noncomputable def x360 (_:Params):Obj:=⟨(.type "code"),none,(.fields #[(.str "at_bare" 939),(.str "at_bare" 940),(.str "/claim/cut.py" 941),(.int 238 0),(.int 4 0),(.int 0 0),(.int 0 0),(.int 3 0),(.ref 563),(.bool true),(.int 181 0),(.ref 564),.none,(.ref 565),(.ref 566),(.ref 567),(.int 946 0),(.int 238 0),(.str "/claim/cut.py" 947)]),#[]⟩
noncomputable def x361 (_:Params):Obj:=⟨(.type "function"),none,(fnO (tp 59) "at_bare" "at_bare" 3 [] .none .none .none (.str "sealpress.modes" 760) none (.ref 568) .none 0),#[]⟩
noncomputable def x362 (_:Params):Obj:=⟨(.type "tuple"),none,(.seq #[(.str "word" 952),(.str "opens" 953),(.str "talk" 954),(.str "sign" 955)] 0),#[]⟩
noncomputable def x363 (_:Params):Obj:=⟨.none,none,(fnO (tp 60) "at_code" "at_code" 0 [] .none .none .none .none none .none .none 0),#[]⟩
noncomputable def x364 (_:Params):Obj:=⟨(.type "code"),none,(.fields #[(.str "at_code" 949),(.str "at_code" 950),(.str "/claim/cut.py" 951),(.int 244 0),(.int 4 0),(.int 0 0),(.int 0 0),(.int 3 0),(.ref 570),(.bool true),(.int 181 0),(.ref 571),.none,(.ref 572),(.ref 573),(.ref 574),(.int 956 0),(.int 244 0),(.str "/claim/cut.py" 957)]),#[]⟩
noncomputable def x365 (_:Params):Obj:=⟨(.type "function"),none,(fnO (tp 60) "at_code" "at_code" 3 [] .none .none .none (.str "sealpress.modes" 760) none (.ref 575) .none 0),#[]⟩
noncomputable def x366 (_:Params):Obj:=⟨(.type "tuple"),none,(.seq #[(.str "word" 962),(.str "opens" 963),(.str "talk" 964),(.str "sign" 965)] 0),#[]⟩
noncomputable def x367 (_:Params):Obj:=⟨.none,none,(fnO (tp 61) "at_row" "at_row" 0 [] .none .none .none .none none .none .none 0),#[]⟩
noncomputable def x368 (_:Params):Obj:=⟨(.type "code"),none,(.fields #[(.str "at_row" 959),(.str "at_row" 960),(.str "/claim/cut.py" 961),(.int 248 0),(.int 4 0),(.int 0 0),(.int 0 0),(.int 3 0),(.ref 577),(.bool true),(.int 181 0),(.ref 578),.none,(.ref 579),(.ref 580),(.ref 581),(.int 966 0),(.int 248 0),(.str "/claim/cut.py" 967)]),#[]⟩
noncomputable def x369 (_:Params):Obj:=⟨(.type "function"),none,(fnO (tp 61) "at_row" "at_row" 3 [] .none .none .none (.str "sealpress.modes" 760) none (.ref 582) .none 0),#[]⟩
noncomputable def x370 (_:Params):Obj:=⟨(.type "tuple"),none,(.seq #[(.str "word" 972),(.str "opens" 973),(.str "talk" 974),(.str "sign" 975)] 0),#[]⟩
noncomputable def x371 (_:Params):Obj:=⟨.none,none,(fnO (tp 62) "at_stroke" "at_stroke" 0 [] .none .none .none .none none .none .none 0),#[]⟩
noncomputable def x372 (_:Params):Obj:=⟨(.type "code"),none,(.fields #[(.str "at_stroke" 969),(.str "at_stroke" 970),(.str "/claim/cut.py" 971),(.int 256 0),(.int 4 0),(.int 0 0),(.int 0 0),(.int 3 0),(.ref 584),(.bool true),(.int 181 0),(.ref 585),.none,(.ref 586),(.ref 587),(.ref 588),(.int 976 0),(.int 256 0),(.str "/claim/cut.py" 977)]),#[]⟩
noncomputable def x373 (_:Params):Obj:=⟨(.type "function"),none,(fnO (tp 62) "at_stroke" "at_stroke" 3 [] .none .none .none (.str "sealpress.modes" 760) none (.ref 589) .none 0),#[]⟩
noncomputable def x374 (_:Params):Obj:=⟨(.type "tuple"),none,(.seq #[(.str "word" 982),(.str "opens" 983),(.str "talk" 984),(.str "sign" 985)] 0),#[]⟩
noncomputable def x375 (_:Params):Obj:=⟨.none,none,(fnO (tp 63) "at_quoted" "at_quoted" 0 [] .none .none .none .none none .none .none 0),#[]⟩
noncomputable def x376 (_:Params):Obj:=⟨(.type "code"),none,(.fields #[(.str "at_quoted" 979),(.str "at_quoted" 980),(.str "/claim/cut.py" 981),(.int 258 0),(.int 4 0),(.int 0 0),(.int 0 0),(.int 3 0),(.ref 591),(.bool true),(.int 181 0),(.ref 592),.none,(.ref 593),(.ref 594),(.ref 595),(.int 986 0),(.int 258 0),(.str "/claim/cut.py" 987)]),#[]⟩
noncomputable def x377 (_:Params):Obj:=⟨(.type "function"),none,(fnO (tp 63) "at_quoted" "at_quoted" 3 [] .none .none .none (.str "sealpress.modes" 760) none (.ref 596) .none 0),#[]⟩
noncomputable def x378 (_:Params):Obj:=⟨(.type "tuple"),none,(.seq #[(.str "word" 992),(.str "opens" 993),(.str "talk" 994),(.str "sign" 995)] 0),#[]⟩
noncomputable def x379 (_:Params):Obj:=⟨.none,none,(fnO (tp 64) "at_qmark" "at_qmark" 0 [] .none .none .none .none none .none .none 0),#[]⟩
noncomputable def x380 (_:Params):Obj:=⟨(.type "code"),none,(.fields #[(.str "at_qmark" 989),(.str "at_qmark" 990),(.str "/claim/cut.py" 991),(.int 264 0),(.int 4 0),(.int 0 0),(.int 0 0),(.int 3 0),(.ref 598),(.bool true),(.int 181 0),(.ref 599),.none,(.ref 600),(.ref 601),(.ref 602),(.int 996 0),(.int 264 0),(.str "/claim/cut.py" 997)]),#[]⟩
noncomputable def x381 (_:Params):Obj:=⟨(.type "function"),none,(fnO (tp 64) "at_qmark" "at_qmark" 3 [] .none .none .none (.str "sealpress.modes" 760) none (.ref 603) .none 0),#[]⟩
noncomputable def x382 (_:Params):Obj:=⟨(.type "tuple"),none,(.seq #[(.str "word" 1002),(.str "opens" 1003),(.str "talk" 1004),(.str "sign" 1005)] 0),#[]⟩
noncomputable def x383 (_:Params):Obj:=⟨.none,none,(fnO (tp 65) "at_done" "at_done" 0 [] .none .none .none .none none .none .none 0),#[]⟩
noncomputable def x384 (_:Params):Obj:=⟨(.type "code"),none,(.fields #[(.str "at_done" 999),(.str "at_done" 1000),(.str "/claim/cut.py" 1001),(.int 268 0),(.int 4 0),(.int 0 0),(.int 0 0),(.int 3 0),(.ref 605),(.bool true),(.int 181 0),(.ref 606),.none,(.ref 607),(.ref 608),(.ref 609),(.int 1006 0),(.int 268 0),(.str "/claim/cut.py" 1007)]),#[]⟩
noncomputable def x385 (_:Params):Obj:=⟨(.type "function"),none,(fnO (tp 65) "at_done" "at_done" 3 [] .none .none .none (.str "sealpress.modes" 760) none (.ref 610) .none 0),#[]⟩
noncomputable def x386 (_:Params):Obj:=⟨(.type "tuple"),none,(.seq #[(.str "word" 1012),(.str "opens" 1013),(.str "talk" 1014),(.str "sign" 1015)] 0),#[]⟩
noncomputable def x387 (_:Params):Obj:=⟨.none,none,(fnO (tp 66) "at_talk" "at_talk" 0 [] .none .none .none .none none .none .none 0),#[]⟩
noncomputable def x388 (_:Params):Obj:=⟨(.type "code"),none,(.fields #[(.str "at_talk" 1009),(.str "at_talk" 1010),(.str "/claim/cut.py" 1011),(.int 270 0),(.int 4 0),(.int 0 0),(.int 0 0),(.int 3 0),(.ref 612),(.bool true),(.int 181 0),(.ref 613),.none,(.ref 614),(.ref 615),(.ref 616),(.int 1016 0),(.int 270 0),(.str "/claim/cut.py" 1017)]),#[]⟩
noncomputable def x389 (_:Params):Obj:=⟨(.type "function"),none,(fnO (tp 66) "at_talk" "at_talk" 3 [] .none .none .none (.str "sealpress.modes" 760) none (.ref 617) .none 0),#[]⟩
noncomputable def x390 (_:Params):Obj:=⟨(.type "tuple"),none,(.seq #[(.str "word" 1022),(.str "opens" 1023),(.str "talk" 1024),(.str "sign" 1025)] 0),#[]⟩
noncomputable def x391 (_:Params):Obj:=⟨.none,none,(fnO (tp 67) "at_tmark" "at_tmark" 0 [] .none .none .none .none none .none .none 0),#[]⟩
noncomputable def x392 (_:Params):Obj:=⟨(.type "code"),none,(.fields #[(.str "at_tmark" 1019),(.str "at_tmark" 1020),(.str "/claim/cut.py" 1021),(.int 276 0),(.int 4 0),(.int 0 0),(.int 0 0),(.int 3 0),(.ref 619),(.bool true),(.int 181 0),(.ref 620),.none,(.ref 621),(.ref 622),(.ref 623),(.int 1026 0),(.int 276 0),(.str "/claim/cut.py" 1027)]),#[]⟩
noncomputable def x393 (_:Params):Obj:=⟨(.type "function"),none,(fnO (tp 67) "at_tmark" "at_tmark" 3 [] .none .none .none (.str "sealpress.modes" 760) none (.ref 624) .none 0),#[]⟩
noncomputable def x394 (_:Params):Obj:=⟨.none,none,(fnO (tp 68) "at_asis" "at_asis" 0 [] .none .none .none .none none .none .none 0),#[]⟩
noncomputable def x395 (_:Params):Obj:=⟨(.type "code"),none,(.fields #[(.str "at_asis" 1029),(.str "at_asis" 1030),(.str "/claim/cut.py" 1031),(.int 280 0),(.int 4 0),(.int 0 0),(.int 0 0),(.int 3 0),(.ref 626),(.bool true),(.int 181 0),(.ref 627),.none,.none,.none,(.ref 628),(.int 1032 0),(.int 280 0),(.str "/claim/cut.py" 1033)]),#[]⟩
noncomputable def x396 (_:Params):Obj:=⟨(.type "function"),none,(fnO (tp 68) "at_asis" "at_asis" 3 [] .none .none .none (.str "sealpress.modes" 760) none (.ref 629) .none 0),#[]⟩
noncomputable def x397 (P:Params):Obj:=⟨(.type "dict"),none,(.dict #[(en P "__name__" 165 (.str "law_sealpress_k73_places_of_holes" 1322)),(en P "__doc__" 166 .none),(en P "__package__" 167 .none),(en P "__loader__" 168 (.builtin "__main__.__loader__#opaque")),(en P "__spec__" 169 .none),(en P "__annotations__" 170 (.ref 6)),(en P "__builtins__" 171 (.ref 4)),(en P "__file__" 173 (.str "/claim/cut.py" 172)),(en P "__cached__" 174 .none),(en P "SealError" 206 (.ref 24)),(en P "NoSign" 231 (.ref 44)),(en P "NoCode" 256 (.ref 63)),(en P "Unread" 281 (.ref 82)),(en P "Unended" 297 (.ref 94)),(en P "NoPage" 322 (.ref 113)),(en P "NoName" 347 (.ref 132)),(en P "NoSheet" 372 (.ref 151)),(en P "Twice" 397 (.ref 170)),(en P "TooMany" 413 (.ref 182)),(en P "Unknown" 438 (.ref 201)),(en P "RingOver" 463 (.ref 220)),(en P "Ringed" 488 (.ref 239)),(en P "NoElder" 513 (.ref 258)),(en P "Astray" 540 (.ref 277)),(en P "NoPlace" 567 (.ref 296)),(en P "Unlike" 596 (.ref 315)),(en P "LeftOpen" 621 (.ref 334)),(en P "NoValue" 646 (.ref 353)),(en P "NoKind" 671 (.ref 372)),(en P "NoRow" 687 (.ref 384)),(en P "SIGNS" 691 (.str " !\"#$&'()*+,-./0123456789:;<=>?@ABCDEFGHIJKLMNOPQRSTUVWXYZ[\\]^_`abcdefghijklmnopqrstuvwxyz{|}~" 690)),(en P "FIGURES" 693 (.str "0123456789" 692)),(en P "LETTERS" 695 (.str "abcdefghijklmnopqrstuvwxyz" 694)),(en P "LONGEST_NAME" 697 (.int 8 696)),(en P "sign_of" 704 (.ref 393)),(en P "sign_told" 712 (.ref 400)),(en P "WORDSIGNS" 714 (.str "abcdefghijklmnopqrstuvwxyz0123456789-" 713)),(en P "PLACE_MODES" 721 (.ref 401)),(en P "place_of" 728 (.ref 408)),(en P "fed_between" 737 (.ref 415)),(en P "fed_word" 744 (.ref 422)),(en P "fed_said" 751 (.ref 429)),(en P "feed" 759 (.ref 436)),(en P "ASIS_END" 763 (.str "</asis>" 762)),(en P "MARK_FIGURES" 765 (.int 2 764)),(en P "come_to" 774 (.ref 443)),(en P "told" 783 (.ref 450)),(en P "gathered" 794 (.ref 457)),(en P "box_shut" 802 (.ref 464)),(en P "into_box" 811 (.ref 471)),(en P "led_on" 820 (.ref 478)),(en P "fed" 830 (.ref 485)),(en P "mark_ended" 838 (.ref 492)),(en P "at_text" 848 (.ref 499)),(en P "at_mark" 858 (.ref 506)),(en P "at_open" 868 (.ref 513)),(en P "at_name" 878 (.ref 520)),(en P "at_slash" 888 (.ref 527)),(en P "at_shut" 898 (.ref 534)),(en P "at_gap" 908 (.ref 541)),(en P "at_attr" 918 (.ref 548)),(en P "at_is" 928 (.ref 555)),(en P "at_bang" 938 (.ref 562)),(en P "at_bare" 948 (.ref 569)),(en P "at_code" 958 (.ref 576)),(en P "at_row" 968 (.ref 583)),(en P "at_stroke" 978 (.ref 590)),(en P "at_quoted" 988 (.ref 597)),(en P "at_qmark" 998 (.ref 604)),(en P "at_done" 1008 (.ref 611)),(en P "at_talk" 1018 (.ref 618)),(en P "at_tmark" 1028 (.ref 625)),(en P "at_asis" 1034 (.ref 630)),(en P "MODES" 1075 (.ref 631)),(en P "moved" 1084 (.ref 639)),(en P "begin" 1092 (.ref 646)),(en P "step" 1100 (.ref 653)),(en P "run" 1113 (.ref 660)),(en P "is_end" 1120 (.ref 667)),(en P "floored" 1127 (.ref 674)),(en P "Spot" 1185 (.ref 712)),(en P "Looking" 1304 (.ref 789)),(en P "looked_at" 1314 (.ref 800)),(en P "look" 1321 (.ref 807)),(en P "_law_cell" 1332 (.ref 814)),(en P "_law_mix" 1344 (.ref 821)),(en P "_law_other" 1351 (.ref 828)),(en P "_law_part" 1359 (.ref 835)),(en P "_law_fault" 1371 (.ref 842)),(en P "_law_good" 1386 (.ref 849)),(en P "_law_some" 1402 (.ref 856)),(en P "_law_within" 1416 (.ref 863)),(en P "_law_compound" 1432 (.ref 870)),(en P "_law_made" 1443 (.ref 877)),(en P "_law_looked" 1452 (.ref 884)),(en P "_law_refusal" 1459 (.ref 891)),(en P "_law_is" 1468 (.ref 898)),(en P "law" 1483 (.ref 905))] 98),#[]⟩
noncomputable def x398 (P:Params):Obj:=⟨(.type "dict"),none,(.dict #[(en P "text" 1035 (.ref 499)),(en P "mark" 1037 (.ref 506)),(en P "open" 1039 (.ref 513)),(en P "name" 1041 (.ref 520)),(en P "slash" 1043 (.ref 527)),(en P "shut" 1045 (.ref 534)),(en P "gap" 1047 (.ref 541)),(en P "attr" 1049 (.ref 548)),(en P "is" 1051 (.ref 555)),(en P "bang" 1053 (.ref 562)),(en P "bare" 1055 (.ref 569)),(en P "code" 1057 (.ref 576)),(en P "row" 1059 (.ref 583)),(en P "stroke" 1061 (.ref 590)),(en P "quoted" 1063 (.ref 597)),(en P "qmark" 1065 (.ref 604)),(en P "done" 1067 (.ref 611)),(en P "talk" 1069 (.ref 618)),(en P "tmark" 1070 (.ref 625)),(en P "asis" 1071 (.ref 630))] 20),#[]⟩
noncomputable def x399 (_:Params):Obj:=⟨(.type "code"),none,(.fields #[(.str "moved" 1076),(.str "moved" 1077),(.str "/claim/cut.py" 1078),(.int 291 0),(.int 2 0),(.int 0 0),(.int 0 0),(.int 3 0),(.ref 633),(.bool true),(.int 181 0),(.ref 634),.none,(.ref 635),(.ref 636),(.ref 637),(.int 1082 0),(.int 291 0),(.str "/claim/cut.py" 1083)]),#[]⟩
noncomputable def x400 (_:Params):Obj:=⟨(.type "function"),none,(fnO (tp 70) "moved" "moved" 3 [] .none .none .none (.str "sealpress.modes" 760) none (.ref 638) .none 0),#[]⟩
noncomputable def x401 (_:Params):Obj:=⟨(.type "code"),none,(.fields #[(.str "begin" 1087),(.str "begin" 1088),(.str "/claim/cut.py" 1089),(.int 295 0),(.int 0 0),(.int 0 0),(.int 0 0),(.int 3 0),(.ref 640),(.bool true),(.int 181 0),(.ref 641),.none,(.ref 642),(.ref 643),(.ref 644),(.int 1090 0),(.int 295 0),(.str "/claim/cut.py" 1091)]),#[]⟩
noncomputable def x402 (_:Params):Obj:=⟨(.type "function"),none,(fnO (tp 72) "begin" "begin" 3 [] .none .none .none (.str "sealpress.steps" 1085) none (.ref 645) .none 0),#[]⟩
noncomputable def x403 (_:Params):Obj:=⟨(.type "code"),none,(.fields #[(.str "step" 1093),(.str "step" 1094),(.str "/claim/cut.py" 1095),(.int 297 0),(.int 2 0),(.int 0 0),(.int 0 0),(.int 3 0),(.ref 647),(.bool true),(.int 181 0),(.ref 648),.none,(.ref 649),(.ref 650),(.ref 651),(.int 1098 0),(.int 297 0),(.str "/claim/cut.py" 1099)]),#[]⟩
noncomputable def x404 (_:Params):Obj:=⟨(.type "function"),none,(fnO (tp 73) "step" "step" 3 [] .none .none .none (.str "sealpress.steps" 1085) none (.ref 652) .none 0),#[]⟩
noncomputable def x405 (_:Params):Obj:=⟨(.type "code"),none,(.fields #[(.str "run" 1101),(.str "run" 1102),(.str "/claim/cut.py" 1103),(.int 299 0),(.int 2 0),(.int 0 0),(.int 0 0),(.int 3 0),(.ref 654),(.bool true),(.int 181 0),(.ref 655),.none,(.ref 656),(.ref 657),(.ref 658),(.int 1111 0),(.int 299 0),(.str "/claim/cut.py" 1112)]),#[]⟩
noncomputable def x406 (_:Params):Obj:=⟨(.type "function"),none,(fnO (tp 74) "run" "run" 3 [] .none .none .none (.str "sealpress.steps" 1085) none (.ref 659) .none 0),#[]⟩
noncomputable def x407 (_:Params):Obj:=⟨(.type "code"),none,(.fields #[(.str "is_end" 1114),(.str "is_end" 1115),(.str "/claim/cut.py" 1116),(.int 309 0),(.int 1 0),(.int 0 0),(.int 0 0),(.int 3 0),(.ref 661),(.bool true),(.int 181 0),(.ref 662),.none,(.ref 663),(.ref 664),(.ref 665),(.int 1118 0),(.int 309 0),(.str "/claim/cut.py" 1119)]),#[]⟩
noncomputable def x408 (_:Params):Obj:=⟨(.type "function"),none,(fnO (tp 75) "is_end" "is_end" 3 [] .none .none .none (.str "sealpress.steps" 1085) none (.ref 666) .none 0),#[]⟩
noncomputable def x409 (_:Params):Obj:=⟨(.type "code"),none,(.fields #[(.str "floored" 1121),(.str "floored" 1122),(.str "/claim/cut.py" 1123),(.int 311 0),(.int 1 0),(.int 0 0),(.int 0 0),(.int 3 0),(.ref 668),(.bool true),(.int 181 0),(.ref 669),.none,(.ref 670),(.ref 671),(.ref 672),(.int 1125 0),(.int 311 0),(.str "/claim/cut.py" 1126)]),#[]⟩
noncomputable def x410 (_:Params):Obj:=⟨(.type "function"),none,(fnO (tp 76) "floored" "floored" 3 [] .none .none .none (.str "sealpress.steps" 1085) none (.ref 673) .none 0),#[]⟩
noncomputable def x411 (_:Params):Obj:=⟨(.type "code"),none,(.fields #[(.str "__init__" 1142),(.str "Spot.__init__" 1143),(.str "/claim/cut.py" 1144),(.int 316 0),(.int 4 0),(.int 0 0),(.int 0 0),(.int 3 0),(.ref 682),(.bool true),(.int 181 0),(.ref 683),.none,(.ref 684),(.ref 685),(.ref 686),(.int 1149 0),(.int 316 0),(.str "/claim/cut.py" 1150)]),#[]⟩
noncomputable def x412 (_:Params):Obj:=⟨(.type "function"),none,(fnO (tc 78 0) "__init__" "Spot.__init__" 3 [] .none .none .none (.str "sealpress.looker" 1128) none (.ref 687) .none 0),#[]⟩
noncomputable def x413 (_:Params):Obj:=⟨(.type "code"),none,(.fields #[(.str "met" 1159),(.str "Spot.met" 1160),(.str "/claim/cut.py" 1161),(.int 324 0),(.int 2 0),(.int 0 0),(.int 0 0),(.int 3 0),(.ref 696),(.bool true),(.int 181 0),(.ref 697),.none,(.ref 698),(.ref 699),(.ref 700),(.int 1164 0),(.int 324 0),(.str "/claim/cut.py" 1165)]),#[]⟩
noncomputable def x414 (_:Params):Obj:=⟨(.type "function"),none,(fnO (tc 78 2) "met" "Spot.met" 3 [] .none .none .none (.str "sealpress.looker" 1128) none (.ref 701) .none 0),#[]⟩
noncomputable def x415 (_:Params):Obj:=⟨(.type "code"),none,(.fields #[(.str "turned" 1167),(.str "Spot.turned" 1168),(.str "/claim/cut.py" 1169),(.int 327 0),(.int 2 0),(.int 0 0),(.int 0 0),(.int 3 0),(.ref 703),(.bool true),(.int 181 0),(.ref 704),.none,(.ref 705),(.ref 706),(.ref 707),(.int 1172 0),(.int 327 0),(.str "/claim/cut.py" 1173)]),#[]⟩
noncomputable def x416 (_:Params):Obj:=⟨(.type "function"),none,(fnO (tc 78 3) "turned" "Spot.turned" 3 [] .none .none .none (.str "sealpress.looker" 1128) none (.ref 708) .none 0),#[]⟩
noncomputable def x417 (P:Params):Obj:=⟨(.type "dict"),none,(.dict #[(en P "__module__" 1137 (.str "sealpress.looker" 1128)),(en P "__firstlineno__" 1141 (.int 314 1140)),(en P "__init__" 1151 (.ref 688)),(en P "shown" 1158 (.ref 695)),(en P "met" 1166 (.ref 702)),(en P "turned" 1174 (.ref 709)),(en P "__static_attributes__" 1178 (.ref 710)),(en P "__dict__" 1180 (.ref 713)),(en P "__weakref__" 1182 (.ref 714)),(en P "__doc__" 1183 .none)] 4),#[]⟩
noncomputable def x418 (_:Params):Obj:=⟨(.type "type"),none,(.cls ⟨"Spot",[(.type "object")],[(.ref 712),(.type "object")],711,"Spot",true,[],[],false,none,false⟩),#[none,none,(some (.str "Spot" 1130)),(some (.str "Spot" 1138)),(some (.builtin "object.__new__")),(some (.bool true))]⟩
noncomputable def x419 (_:Params):Obj:=⟨(.type "code"),none,(.fields #[(.str "__init__" 1198),(.str "Looking.__init__" 1199),(.str "/claim/cut.py" 1200),(.int 331 0),(.int 2 0),(.int 0 0),(.int 0 0),(.int 3 0),(.ref 724),(.bool true),(.int 181 0),(.ref 725),.none,(.ref 726),(.ref 727),(.ref 728),(.int 1203 0),(.int 331 0),(.str "/claim/cut.py" 1204)]),#[]⟩
noncomputable def x420 (_:Params):Obj:=⟨(.type "function"),none,(fnO (tc 79 0) "__init__" "Looking.__init__" 3 [] .none .none .none (.str "sealpress.looker" 1128) none (.ref 729) .none 0),#[]⟩
noncomputable def x421 (_:Params):Obj:=⟨(.type "code"),none,(.fields #[(.str "look_all" 1206),(.str "Looking.look_all" 1207),(.str "/claim/cut.py" 1208),(.int 336 0),(.int 3 0),(.int 0 0),(.int 0 0),(.int 3 0),(.ref 731),(.bool true),(.int 181 0),(.ref 732),.none,(.ref 733),(.ref 734),(.ref 735),(.int 1214 0),(.int 336 0),(.str "/claim/cut.py" 1215)]),#[]⟩
noncomputable def x422 (_:Params):Obj:=⟨(.type "function"),none,(fnO (tc 79 1) "look_all" "Looking.look_all" 3 [] .none .none .none (.str "sealpress.looker" 1128) none (.ref 736) .none 0),#[]⟩
noncomputable def x423 (_:Params):Obj:=⟨(.type "code"),none,(.fields #[(.str "look_piece" 1217),(.str "Looking.look_piece" 1218),(.str "/claim/cut.py" 1219),(.int 342 0),(.int 3 0),(.int 0 0),(.int 0 0),(.int 3 0),(.ref 738),(.bool true),(.int 181 0),(.ref 739),.none,(.ref 740),(.ref 741),(.ref 742),(.int 1224 0),(.int 342 0),(.str "/claim/cut.py" 1225)]),#[]⟩
noncomputable def x424 (_:Params):Obj:=⟨(.type "function"),none,(fnO (tc 79 2) "look_piece" "Looking.look_piece" 3 [] .none .none .none (.str "sealpress.looker" 1128) none (.ref 743) .none 0),#[]⟩
noncomputable def x425 (_:Params):Obj:=⟨(.type "code"),none,(.fields #[(.str "look_literal" 1227),(.str "Looking.look_literal" 1228),(.str "/claim/cut.py" 1229),(.int 356 0),(.int 3 0),(.int 0 0),(.int 0 0),(.int 3 0),(.ref 745),(.bool true),(.int 181 0),(.ref 746),.none,(.ref 747),(.ref 748),(.ref 749),(.int 1235 0),(.int 356 0),(.str "/claim/cut.py" 1236)]),#[]⟩
noncomputable def x426 (_:Params):Obj:=⟨(.type "function"),none,(fnO (tc 79 3) "look_literal" "Looking.look_literal" 3 [] .none .none .none (.str "sealpress.looker" 1128) none (.ref 750) .none 0),#[]⟩
noncomputable def x427 (_:Params):Obj:=⟨(.type "code"),none,(.fields #[(.str "look_hole" 1238),(.str "Looking.look_hole" 1239),(.str "/claim/cut.py" 1240),(.int 363 0),(.int 3 0),(.int 0 0),(.int 0 0),(.int 3 0),(.ref 752),(.bool true),(.int 181 0),(.ref 753),.none,(.ref 754),(.ref 755),(.ref 756),(.int 1245 0),(.int 363 0),(.str "/claim/cut.py" 1246)]),#[]⟩
noncomputable def x428 (_:Params):Obj:=⟨(.type "function"),none,(fnO (tc 79 4) "look_hole" "Looking.look_hole" 3 [] .none .none .none (.str "sealpress.looker" 1128) none (.ref 757) .none 0),#[]⟩
noncomputable def x429 (_:Params):Obj:=⟨(.type "code"),none,(.fields #[(.str "look_each" 1248),(.str "Looking.look_each" 1249),(.str "/claim/cut.py" 1250),(.int 370 0),(.int 3 0),(.int 0 0),(.int 0 0),(.int 3 0),(.ref 759),(.bool true),(.int 181 0),(.ref 760),.none,(.ref 761),(.ref 762),(.ref 763),(.int 1256 0),(.int 370 0),(.str "/claim/cut.py" 1257)]),#[]⟩
noncomputable def x430 (_:Params):Obj:=⟨(.type "function"),none,(fnO (tc 79 5) "look_each" "Looking.look_each" 3 [] .none .none .none (.str "sealpress.looker" 1128) none (.ref 764) .none 0),#[]⟩
noncomputable def x431 (_:Params):Obj:=⟨(.type "code"),none,(.fields #[(.str "look_if" 1259),(.str "Looking.look_if" 1260),(.str "/claim/cut.py" 1261),(.int 377 0),(.int 3 0),(.int 0 0),(.int 0 0),(.int 3 0),(.ref 766),(.bool true),(.int 181 0),(.ref 767),.none,(.ref 768),(.ref 769),(.ref 770),(.int 1267 0),(.int 377 0),(.str "/claim/cut.py" 1268)]),#[]⟩
noncomputable def x432 (_:Params):Obj:=⟨(.type "function"),none,(fnO (tc 79 6) "look_if" "Looking.look_if" 3 [] .none .none .none (.str "sealpress.looker" 1128) none (.ref 771) .none 0),#[]⟩
noncomputable def x433 (_:Params):Obj:=⟨(.type "code"),none,(.fields #[(.str "look_seat" 1270),(.str "Looking.look_seat" 1271),(.str "/claim/cut.py" 1272),(.int 384 0),(.int 3 0),(.int 0 0),(.int 0 0),(.int 3 0),(.ref 773),(.bool true),(.int 181 0),(.ref 774),.none,(.ref 775),(.ref 776),(.ref 777),(.int 1278 0),(.int 384 0),(.str "/claim/cut.py" 1279)]),#[]⟩
noncomputable def x434 (_:Params):Obj:=⟨(.type "function"),none,(fnO (tc 79 7) "look_seat" "Looking.look_seat" 3 [] .none .none .none (.str "sealpress.looker" 1128) none (.ref 778) .none 0),#[]⟩
noncomputable def x435 (P:Params):Obj:=⟨(.type "dict"),none,(.dict #[(en P "__module__" 1193 (.str "sealpress.looker" 1128)),(en P "__firstlineno__" 1197 (.int 329 1196)),(en P "__init__" 1205 (.ref 730)),(en P "look_all" 1216 (.ref 737)),(en P "look_piece" 1226 (.ref 744)),(en P "look_literal" 1237 (.ref 751)),(en P "look_hole" 1247 (.ref 758)),(en P "look_each" 1258 (.ref 765)),(en P "look_if" 1269 (.ref 772)),(en P "look_seat" 1280 (.ref 779)),(en P "look_drawn" 1293 (.ref 786)),(en P "__static_attributes__" 1297 (.ref 787)),(en P "__dict__" 1299 (.ref 790)),(en P "__weakref__" 1301 (.ref 791)),(en P "__doc__" 1302 .none)] 4),#[]⟩
noncomputable def x436 (_:Params):Obj:=⟨(.type "type"),none,(.cls ⟨"Looking",[(.type "object")],[(.ref 789),(.type "object")],788,"Looking",true,[],[],false,none,false⟩),#[none,none,(some (.str "Looking" 1186)),(some (.str "Looking" 1194)),(some (.builtin "object.__new__")),(some (.bool true))]⟩
noncomputable def x437 (_:Params):Obj:=⟨(.type "code"),none,(.fields #[(.str "looked_at" 1305),(.str "looked_at" 1306),(.str "/claim/cut.py" 1307),(.int 402 0),(.int 2 0),(.int 0 0),(.int 0 0),(.int 3 0),(.ref 794),(.bool true),(.int 181 0),(.ref 795),.none,(.ref 796),(.ref 797),(.ref 798),(.int 1312 0),(.int 402 0),(.str "/claim/cut.py" 1313)]),#[]⟩
noncomputable def x438 (_:Params):Obj:=⟨(.type "function"),none,(fnO (tp 80) "looked_at" "looked_at" 3 [] .none .none .none (.str "sealpress.looker" 1128) none (.ref 799) .none 0),#[]⟩
noncomputable def x439 (_:Params):Obj:=⟨(.type "code"),none,(.fields #[(.str "look" 1315),(.str "look" 1316),(.str "/claim/cut.py" 1317),(.int 408 0),(.int 1 0),(.int 0 0),(.int 0 0),(.int 3 0),(.ref 801),(.bool true),(.int 181 0),(.ref 802),.none,(.ref 803),(.ref 804),(.ref 805),(.int 1319 0),(.int 408 0),(.str "/claim/cut.py" 1320)]),#[]⟩
noncomputable def x440 (_:Params):Obj:=⟨(.type "function"),none,(fnO (tp 81) "look" "look" 3 [] .none .none .none (.str "sealpress.looker" 1128) none (.ref 806) .none 0),#[]⟩
noncomputable def x441 (_:Params):Obj:=⟨(.type "code"),none,(.fields #[(.str "_law_cell" 1324),(.str "_law_cell" 1325),(.str "/claim/cut.py" 1326),(.int 411 0),(.int 2 0),(.int 0 0),(.int 0 0),(.int 3 0),(.ref 808),(.bool true),(.int 181 0),(.ref 809),.none,(.ref 810),(.ref 811),(.ref 812),(.int 1330 0),(.int 411 0),(.str "/claim/cut.py" 1331)]),#[]⟩
noncomputable def x442 (_:Params):Obj:=⟨(.type "function"),none,(fnO (tp 83) "_law_cell" "_law_cell" 3 [] .none .none .none (.str "law_sealpress_k73_places_of_holes" 1322) none (.ref 813) .none 0),#[]⟩
noncomputable def x443 (_:Params):Obj:=⟨(.type "code"),none,(.fields #[(.str "_law_mix" 1333),(.str "_law_mix" 1334),(.str "/claim/cut.py" 1335),(.int 418 0),(.int 3 0),(.int 0 0),(.int 0 0),(.int 3 0),(.ref 815),(.bool true),(.int 181 0),(.ref 816),.none,(.ref 817),(.ref 818),(.ref 819),(.int 1342 0),(.int 418 0),(.str "/claim/cut.py" 1343)]),#[]⟩
noncomputable def x444 (_:Params):Obj:=⟨(.type "function"),none,(fnO (tp 84) "_law_mix" "_law_mix" 3 [] .none .none .none (.str "law_sealpress_k73_places_of_holes" 1322) none (.ref 820) .none 0),#[]⟩
noncomputable def x445 (_:Params):Obj:=⟨(.type "code"),none,(.fields #[(.str "_law_part" 1352),(.str "_law_part" 1353),(.str "/claim/cut.py" 1354),(.int 429 0),(.int 2 0),(.int 0 0),(.int 0 0),(.int 3 0),(.ref 829),(.bool true),(.int 181 0),(.ref 830),.none,(.ref 831),(.ref 832),(.ref 833),(.int 1357 0),(.int 429 0),(.str "/claim/cut.py" 1358)]),#[]⟩
noncomputable def x446 (_:Params):Obj:=⟨(.type "function"),none,(fnO (tp 86) "_law_part" "_law_part" 3 [] .none .none .none (.str "law_sealpress_k73_places_of_holes" 1322) none (.ref 834) .none 0),#[]⟩
noncomputable def x447 (_:Params):Obj:=⟨(.type "code"),none,(.fields #[(.str "_law_good" 1372),(.str "_law_good" 1373),(.str "/claim/cut.py" 1374),(.int 444 0),(.int 4 0),(.int 0 0),(.int 0 0),(.int 3 0),(.ref 843),(.bool true),(.int 181 0),(.ref 844),.none,(.ref 845),(.ref 846),(.ref 847),(.int 1384 0),(.int 444 0),(.str "/claim/cut.py" 1385)]),#[]⟩
noncomputable def x448 (_:Params):Obj:=⟨(.type "function"),none,(fnO (tp 88) "_law_good" "_law_good" 3 [] .none .none .none (.str "law_sealpress_k73_places_of_holes" 1322) none (.ref 848) .none 0),#[]⟩
noncomputable def x449 (_:Params):Obj:=⟨(.type "code"),none,(.fields #[(.str "_law_some" 1387),(.str "_law_some" 1388),(.str "/claim/cut.py" 1389),(.int 456 0),(.int 4 0),(.int 0 0),(.int 0 0),(.int 3 0),(.ref 850),(.bool true),(.int 181 0),(.ref 851),.none,(.ref 852),(.ref 853),(.ref 854),(.int 1400 0),(.int 456 0),(.str "/claim/cut.py" 1401)]),#[]⟩
noncomputable def x450 (_:Params):Obj:=⟨(.type "function"),none,(fnO (tp 89) "_law_some" "_law_some" 3 [] .none .none .none (.str "law_sealpress_k73_places_of_holes" 1322) none (.ref 855) .none 0),#[]⟩
noncomputable def x451 (_:Params):Obj:=⟨(.type "code"),none,(.fields #[(.str "_law_within" 1403),(.str "_law_within" 1404),(.str "/claim/cut.py" 1405),(.int 473 0),(.int 6 0),(.int 0 0),(.int 0 0),(.int 3 0),(.ref 857),(.bool true),(.int 181 0),(.ref 858),.none,(.ref 859),(.ref 860),(.ref 861),(.int 1414 0),(.int 473 0),(.str "/claim/cut.py" 1415)]),#[]⟩
noncomputable def x452 (_:Params):Obj:=⟨(.type "function"),none,(fnO (tp 90) "_law_within" "_law_within" 3 [] .none .none .none (.str "law_sealpress_k73_places_of_holes" 1322) none (.ref 862) .none 0),#[]⟩
noncomputable def x453 (_:Params):Obj:=⟨(.type "code"),none,(.fields #[(.str "_law_compound" 1417),(.str "_law_compound" 1418),(.str "/claim/cut.py" 1419),(.int 476 0),(.int 4 0),(.int 0 0),(.int 0 0),(.int 3 0),(.ref 864),(.bool true),(.int 181 0),(.ref 865),.none,(.ref 866),(.ref 867),(.ref 868),(.int 1430 0),(.int 476 0),(.str "/claim/cut.py" 1431)]),#[]⟩
noncomputable def x454 (_:Params):Obj:=⟨(.type "function"),none,(fnO (tp 91) "_law_compound" "_law_compound" 3 [] .none .none .none (.str "law_sealpress_k73_places_of_holes" 1322) none (.ref 869) .none 0),#[]⟩
noncomputable def x455 (_:Params):Obj:=⟨(.type "code"),none,(.fields #[(.str "_law_made" 1433),(.str "_law_made" 1434),(.str "/claim/cut.py" 1435),(.int 487 0),(.int 2 0),(.int 0 0),(.int 0 0),(.int 3 0),(.ref 871),(.bool true),(.int 181 0),(.ref 872),.none,(.ref 873),(.ref 874),(.ref 875),(.int 1441 0),(.int 487 0),(.str "/claim/cut.py" 1442)]),#[]⟩
noncomputable def x456 (_:Params):Obj:=⟨(.type "function"),none,(fnO (tp 92) "_law_made" "_law_made" 3 [] .none .none .none (.str "law_sealpress_k73_places_of_holes" 1322) none (.ref 876) .none 0),#[]⟩
noncomputable def x457 (_:Params):Obj:=⟨(.type "code"),none,(.fields #[(.str "_law_looked" 1444),(.str "_law_looked" 1445),(.str "/claim/cut.py" 1446),(.int 494 0),(.int 1 0),(.int 0 0),(.int 0 0),(.int 3 0),(.ref 878),(.bool true),(.int 181 0),(.ref 879),.none,(.ref 880),(.ref 881),(.ref 882),(.int 1450 0),(.int 494 0),(.str "/claim/cut.py" 1451)]),#[]⟩
noncomputable def x458 (_:Params):Obj:=⟨(.type "function"),none,(fnO (tp 93) "_law_looked" "_law_looked" 3 [] .none .none .none (.str "law_sealpress_k73_places_of_holes" 1322) none (.ref 883) .none 0),#[]⟩
noncomputable def x459 (_:Params):Obj:=⟨(.type "code"),none,(.fields #[(.str "_law_is" 1460),(.str "_law_is" 1461),(.str "/claim/cut.py" 1462),(.int 511 0),(.int 2 0),(.int 0 0),(.int 0 0),(.int 3 0),(.ref 892),(.bool true),(.int 181 0),(.ref 893),.none,(.ref 894),(.ref 895),(.ref 896),(.int 1466 0),(.int 511 0),(.str "/claim/cut.py" 1467)]),#[]⟩
noncomputable def x460 (_:Params):Obj:=⟨(.type "function"),none,(fnO (tp 95) "_law_is" "_law_is" 3 [] .none .none .none (.str "law_sealpress_k73_places_of_holes" 1322) none (.ref 897) .none 0),#[]⟩
noncomputable def x461 (_:Params):Obj:=⟨(.type "code"),none,(.fields #[(.str "law" 1469),(.str "law" 1470),(.str "/claim/cut.py" 1471),(.int 518 0),(.int 1 0),(.int 0 0),(.int 0 0),(.int 3 0),(.ref 899),(.bool true),(.int 181 0),(.ref 900),.none,(.ref 901),(.ref 902),(.ref 903),(.int 1481 0),(.int 518 0),(.str "/claim/cut.py" 1482)]),#[]⟩
noncomputable def x462 (_:Params):Obj:=⟨(.type "function"),none,(fnO (tp 96) "law" "law" 3 [] .none .none .none (.str "law_sealpress_k73_places_of_holes" 1322) none (.ref 904) .none 0),#[]⟩
noncomputable def kh0 (P:Params):PySem.W.Frag:=[(2,boot_o_2 P),(3,x397 P),(15,x2 P),(22,x5 P),(23,x9 P),(24,x10 P),(25,x11 P),(78,x47 P),(79,x48 P),(81,x50 P),(82,x51 P),(392,x259 P)]
noncomputable def kh1 (P:Params):PySem.W.Frag:=[(393,x260 P),(399,x263 P),(400,x264 P),(401,x265 P),(407,x268 P),(408,x269 P),(414,x272 P),(415,x273 P),(421,x276 P),(422,x277 P),(428,x280 P),(429,x281 P)]
noncomputable def kh2 (P:Params):PySem.W.Frag:=[(435,x284 P),(436,x285 P),(442,x288 P),(443,x289 P),(449,x292 P),(450,x293 P),(456,x296 P),(457,x297 P),(463,x300 P),(464,x301 P),(470,x304 P),(471,x305 P)]
noncomputable def kh3 (P:Params):PySem.W.Frag:=[(477,x308 P),(478,x309 P),(484,x312 P),(485,x313 P),(491,x316 P),(492,x317 P),(498,x320 P),(499,x321 P),(505,x324 P),(506,x325 P),(512,x328 P),(513,x329 P)]
noncomputable def kh4 (P:Params):PySem.W.Frag:=[(519,x332 P),(520,x333 P),(526,x336 P),(527,x337 P),(533,x340 P),(534,x341 P),(540,x344 P),(541,x345 P),(547,x348 P),(548,x349 P),(554,x352 P),(555,x353 P)]
noncomputable def kh5 (P:Params):PySem.W.Frag:=[(561,x356 P),(562,x357 P),(568,x360 P),(569,x361 P),(575,x364 P),(576,x365 P),(582,x368 P),(583,x369 P),(589,x372 P),(590,x373 P),(596,x376 P),(597,x377 P)]
noncomputable def kh6 (P:Params):PySem.W.Frag:=[(603,x380 P),(604,x381 P),(610,x384 P),(611,x385 P),(617,x388 P),(618,x389 P),(624,x392 P),(625,x393 P),(629,x395 P),(630,x396 P),(631,x398 P),(638,x399 P)]
noncomputable def kh7 (P:Params):PySem.W.Frag:=[(639,x400 P),(645,x401 P),(646,x402 P),(652,x403 P),(653,x404 P),(659,x405 P),(660,x406 P),(666,x407 P),(667,x408 P),(673,x409 P),(674,x410 P),(687,x411 P)]
noncomputable def kh8 (P:Params):PySem.W.Frag:=[(688,x412 P),(701,x413 P),(702,x414 P),(708,x415 P),(709,x416 P),(711,x417 P),(712,x418 P),(729,x419 P),(730,x420 P),(736,x421 P),(737,x422 P),(743,x423 P)]
noncomputable def kh9 (P:Params):PySem.W.Frag:=[(744,x424 P),(750,x425 P),(751,x426 P),(757,x427 P),(758,x428 P),(764,x429 P),(765,x430 P),(771,x431 P),(772,x432 P),(778,x433 P),(779,x434 P),(788,x435 P)]
noncomputable def kh10 (P:Params):PySem.W.Frag:=[(789,x436 P),(799,x437 P),(800,x438 P),(806,x439 P),(807,x440 P),(813,x441 P),(814,x442 P),(820,x443 P),(821,x444 P),(834,x445 P),(835,x446 P),(848,x447 P)]
noncomputable def kh11 (P:Params):PySem.W.Frag:=[(849,x448 P),(855,x449 P),(856,x450 P),(862,x451 P),(863,x452 P),(869,x453 P),(870,x454 P),(876,x455 P),(877,x456 P),(883,x457 P),(884,x458 P),(897,x459 P)]
noncomputable def kh12 (P:Params):PySem.W.Frag:=[(898,x460 P),(904,x461 P),(905,x462 P)]
noncomputable def kg13_0 (P:Params):PySem.W.Frag:=kh0 P++(kh1 P++(kh2 P++(kh3 P++(kh4 P++(kh5 P++(kh6 P++(kh7 P)))))))
noncomputable def kg13_8 (P:Params):PySem.W.Frag:=kh8 P++(kh9 P++(kh10 P++(kh11 P++(kh12 P))))
noncomputable def KH (P:Params):PySem.W.Frag:=kg13_0 P++(kg13_8 P)
noncomputable def asL:List Addr:=[2,3,15,22,23,24,25,78,79,81,82,392,393,399,400,401,407,408,414,415,421,422,428,429,435,436,442,443,449,450,456,457,463,464,470,471,477,478,484,485,491,492,498,499,505,506,512,513,519,520,526,527,533,534,540,541,547,548,554,555,561,562,568,569,575,576,582,583,589,590,596,597,603,604,610,611,617,618,624,625,629,630,631,638,639,645,646,652,653,659,660,666,667,673,674,687,688,701,702,708,709,711,712,729,730,736,737,743,744,750,751,757,758,764,765,771,772,778,779,788,789,799,800,806,807,813,814,820,821,834,835,848,849,855,856,862,863,869,870,876,877,883,884,897,898,904,905]
theorem as_eq (P:Params):asL=(KH P).map (fun p=>p.1):=by kernel_rfl
@[reducible] noncomputable def HK:Hook:=kHook KH asL as_eq
noncomputable def obs0 (s:Shared):List (Option Obj):=asL.map s.heap.get?
noncomputable def val0 (w:World):List (Option Obj):=(KH w.params).map fun p=>some p.2
noncomputable def tb0 (P:Params):BT:=.node (boot_o_0 P) (.node (boot_o_1 P) (.node (boot_o_3 P) (.node (boot_o_7 P) .nil .nil) (.node (o11 P) .nil .nil)) (.node (boot_o_5 P) (.node (boot_o_9 P) .nil .nil) (.node (o13 P) .nil .nil)))
  (.node (boot_o_2 P) (.node (boot_o_4 P) (.node (boot_o_8 P) .nil .nil) (.node (o12 P) .nil .nil)) (.node (boot_o_6 P) (.node (boot_o_10 P) .nil .nil) (.node (o14 P) .nil .nil)))
noncomputable def sB (w:World)(os:OsState):SharedT:=⟨tb0 w.params,15,{},#[],{},187,os⟩
noncomputable def env0:Env:={ scope:=pw.main.scope,locals:=mainNs,globals:=mainNs,cells:=[],code:=.ref 13,frame:=some 14 }
noncomputable def body0:List Stmt:=behindTheImports pw
noncomputable def cE:Code:=.body body0 env0
noncomputable def pos0:Pos:=⟨0,0,0,0⟩
noncomputable def B0:List Frame:=[topFrame pos0]
noncomputable def ann0:Option Value:=some (.ref 6)
noncomputable def qvw:Program:=view pw [1,2,3,4,5,6,7,8,9,10,11,12,13,14,15,16,17,18,19,20,21,23,24,25,26,27,28,29,31,32,34,35,36,37,39,40,41,42,43,44,45,46,47,48,49,50,51,52,53,54,55,56,57,58,59,60,61,62,63,64,65,66,67,68,69,70,72,73,74,75,76,78,79,80,81,83,84,85,86,87,88,89,90,91,92,93,94,95,96]
noncomputable def loose0:List Str:=["MODES"]
noncomputable def mods:List Str:=importedModules pw.main.body
noncomputable def Xt0 (s:Shared):Bool:=xlAt qvw [] s&&recOk (RowW.records (OpenRow.toRowW (OpenLaw.row PySem.Challenge.rw_sealpress_k73_places_of_holes))) s
noncomputable def lookF (w:World)(r:Flow×SharedT×Code×Pos):=(r.1,r.2.2.1,(staticsOk mods (boot_heap w.params) r.2.1.abs.heap&&namesBound pw r.2.1.abs.heap&&gensDone r.2.1.abs&&laidKept (boot_heap w.params) r.2.1.abs.heap),obs0 r.2.1.abs)
noncomputable def lookG (r:Flow×SharedT×Code×Pos):=openSeen qvw loose0 mods Xt0 true r.2.1.abs
noncomputable def t0_2 (P:Params):BT:=(.node (x327 P) .nil .nil)
noncomputable def t0_3 (P:Params):BT:=(.node (x364 P) .nil .nil)
noncomputable def t0_1 (P:Params):BT:=(.node (x38 P) (.node (x79 P) (.node (x166 P) (t0_2 P) .nil) (.node (x253 P) .nil .nil)) (.node (x123 P) (.node (x3 P) (t0_3 P) .nil) (.node (x5 P) .nil .nil)))
noncomputable def t0_5 (P:Params):BT:=(.node (x6 P) .nil .nil)
noncomputable def t0_6 (P:Params):BT:=(.node (x382 P) .nil .nil)
noncomputable def t0_4 (P:Params):BT:=(.node (x59 P) (.node (x102 P) (.node (x5 P) (t0_5 P) .nil) (.node (x273 P) .nil .nil)) (.node (x14 P) (.node (x232 P) (t0_6 P) .nil) (.node (x5 P) .nil .nil)))
noncomputable def t0_8 (P:Params):BT:=(.node (x337 P) .nil .nil)
noncomputable def t0_9 (P:Params):BT:=(.node (x5 P) .nil .nil)
noncomputable def t0_7 (P:Params):BT:=(.node (x48 P) (.node (x6 P) (.node (x5 P) (t0_8 P) .nil) (.node (x263 P) .nil .nil)) (.node (x5 P) (.node (x222 P) (t0_9 P) .nil) (.node (x300 P) .nil .nil)))
noncomputable def t0_11 (P:Params):BT:=(.node (x5 P) .nil .nil)
noncomputable def t0_12 (P:Params):BT:=(.node (x391 P) .nil .nil)
noncomputable def t0_10 (P:Params):BT:=(.node (x69 P) (.node (x113 P) (.node (x199 P) (t0_11 P) .nil) (.node (x6 P) .nil .nil)) (.node (x156 P) (.node (x242 P) (t0_12 P) .nil) (.node (x318 P) .nil .nil)))
noncomputable def t0_14 (P:Params):BT:=(.node (x332 P) .nil .nil)
noncomputable def t0_15 (P:Params):BT:=(.node (x369 P) .nil .nil)
noncomputable def t0_13 (P:Params):BT:=(.node (x43 P) (.node (x14 P) (.node (x172 P) (t0_14 P) .nil) (.node (x258 P) .nil .nil)) (.node (x128 P) (.node (x215 P) (t0_15 P) .nil) (.node (x295 P) .nil .nil)))
noncomputable def t0_17 (P:Params):BT:=(.node (x350 P) .nil .nil)
noncomputable def t0_18 (P:Params):BT:=(.node (x5 P) .nil .nil)
noncomputable def t0_16 (P:Params):BT:=(.node (x64 P) (.node (x107 P) (.node (x194 P) (t0_17 P) .nil) (.node (x5 P) .nil .nil)) (.node (x6 P) (.node (x5 P) (t0_18 P) .nil) (.node (x6 P) .nil .nil)))
noncomputable def t0_20 (P:Params):BT:=(.node (x5 P) .nil .nil)
noncomputable def t0_21 (P:Params):BT:=(.node (x6 P) .nil .nil)
noncomputable def t0_19 (P:Params):BT:=(.node (x54 P) (.node (x97 P) (.node (x184 P) (t0_20 P) .nil) (.node (x268 P) .nil .nil)) (.node (x138 P) (.node (x227 P) (t0_21 P) .nil) (.node (x305 P) .nil .nil)))
noncomputable def t0_23 (P:Params):BT:=(.node (x359 P) .nil .nil)
noncomputable def t0_22 (P:Params):BT:=(.node (x5 P) (.node (x118 P) (.node (x204 P) (t0_23 P) .nil) (.node (x286 P) .nil .nil)) (.node (x161 P) (.node (x14 P) .nil .nil) (.node (x5 P) .nil .nil)))
noncomputable def t0_0 (P:Params):BT:=(.node (boot_o_7 P) (.node (x2 P) (.node (x5 P) (t0_1 P) (t0_4 P)) (.node (x14 P) (t0_7 P) (t0_10 P))) (.node (x9 P) (.node (x20 P) (t0_13 P) (t0_16 P)) (.node (x6 P) (t0_19 P) (t0_22 P))))
noncomputable def t0_26 (P:Params):BT:=(.node (x6 P) .nil .nil)
noncomputable def t0_27 (P:Params):BT:=(.node (x366 P) .nil .nil)
noncomputable def t0_25 (P:Params):BT:=(.node (x3 P) (.node (x83 P) (.node (x170 P) (t0_26 P) .nil) (.node (x5 P) .nil .nil)) (.node (x5 P) (.node (x213 P) (t0_27 P) .nil) (.node (x5 P) .nil .nil)))
noncomputable def t0_29 (P:Params):BT:=(.node (x348 P) .nil .nil)
noncomputable def t0_30 (P:Params):BT:=(.node (x385 P) .nil .nil)
noncomputable def t0_28 (P:Params):BT:=(.node (x61 P) (.node (x104 P) (.node (x190 P) (t0_29 P) .nil) (.node (x5 P) .nil .nil)) (.node (x147 P) (.node (x236 P) (t0_30 P) .nil) (.node (x311 P) .nil .nil)))
noncomputable def t0_32 (P:Params):BT:=(.node (x5 P) .nil .nil)
noncomputable def t0_33 (P:Params):BT:=(.node (x375 P) .nil .nil)
noncomputable def t0_31 (P:Params):BT:=(.node (x52 P) (.node (x93 P) (.node (x180 P) (t0_32 P) .nil) (.node (x6 P) .nil .nil)) (.node (x5 P) (.node (x224 P) (t0_33 P) .nil) (.node (x302 P) .nil .nil)))
noncomputable def t0_35 (P:Params):BT:=(.node (x5 P) .nil .nil)
noncomputable def t0_36 (P:Params):BT:=(.node (x6 P) .nil .nil)
noncomputable def t0_34 (P:Params):BT:=(.node (x73 P) (.node (x115 P) (.node (x6 P) (t0_35 P) .nil) (.node (x284 P) .nil .nil)) (.node (x3 P) (.node (x246 P) (t0_36 P) .nil) (.node (x321 P) .nil .nil)))
noncomputable def t0_38 (P:Params):BT:=(.node (x334 P) .nil .nil)
noncomputable def t0_39 (P:Params):BT:=(.node (x5 P) .nil .nil)
noncomputable def t0_37 (P:Params):BT:=(.node (x45 P) (.node (x88 P) (.node (x175 P) (t0_38 P) .nil) (.node (x6 P) .nil .nil)) (.node (x132 P) (.node (x218 P) (t0_39 P) .nil) (.node (x6 P) .nil .nil)))
noncomputable def t0_41 (P:Params):BT:=(.node (x353 P) .nil .nil)
noncomputable def t0_42 (P:Params):BT:=(.node (x5 P) .nil .nil)
noncomputable def t0_40 (P:Params):BT:=(.node (x5 P) (.node (x111 P) (.node (x14 P) (t0_41 P) .nil) (.node (x279 P) .nil .nil)) (.node (x152 P) (.node (x5 P) (t0_42 P) .nil) (.node (x316 P) .nil .nil)))
noncomputable def t0_44 (P:Params):BT:=(.node (x343 P) .nil .nil)
noncomputable def t0_45 (P:Params):BT:=(.node (x380 P) .nil .nil)
noncomputable def t0_43 (P:Params):BT:=(.node (x56 P) (.node (x3 P) (.node (x5 P) (t0_44 P) .nil) (.node (x270 P) .nil .nil)) (.node (x142 P) (.node (x5 P) (t0_45 P) .nil) (.node (x5 P) .nil .nil)))
noncomputable def t0_47 (P:Params):BT:=(.node (x6 P) .nil .nil)
noncomputable def t0_46 (P:Params):BT:=(.node (x5 P) (.node (x120 P) (.node (x208 P) (t0_47 P) .nil) (.node (x289 P) .nil .nil)) (.node (x163 P) (.node (x6 P) .nil .nil) (.node (x5 P) .nil .nil)))
noncomputable def t0_24 (P:Params):BT:=(.node (o11 P) (.node (x6 P) (.node (x5 P) (t0_25 P) (t0_28 P)) (.node (x29 P) (t0_31 P) (t0_34 P))) (.node (x13 P) (.node (x24 P) (t0_37 P) (t0_40 P)) (.node (x34 P) (t0_43 P) (t0_46 P))))
noncomputable def t0_50 (P:Params):BT:=(.node (x329 P) .nil .nil)
noncomputable def t0_51 (P:Params):BT:=(.node (x5 P) .nil .nil)
noncomputable def t0_49 (P:Params):BT:=(.node (x40 P) (.node (x81 P) (.node (x168 P) (t0_50 P) .nil) (.node (x255 P) .nil .nil)) (.node (x6 P) (.node (x5 P) (t0_51 P) .nil) (.node (x292 P) .nil .nil)))
noncomputable def t0_53 (P:Params):BT:=(.node (x5 P) .nil .nil)
noncomputable def t0_54 (P:Params):BT:=(.node (x383 P) .nil .nil)
noncomputable def t0_52 (P:Params):BT:=(.node (x14 P) (.node (x5 P) (.node (x189 P) (t0_53 P) .nil) (.node (x6 P) .nil .nil)) (.node (x146 P) (.node (x234 P) (t0_54 P) .nil) (.node (x310 P) .nil .nil)))
noncomputable def t0_56 (P:Params):BT:=(.node (x6 P) .nil .nil)
noncomputable def t0_57 (P:Params):BT:=(.node (x374 P) .nil .nil)
noncomputable def t0_55 (P:Params):BT:=(.node (x50 P) (.node (x5 P) (.node (x178 P) (t0_56 P) .nil) (.node (x265 P) .nil .nil)) (.node (x135 P) (.node (x14 P) (t0_57 P) .nil) (.node (x5 P) .nil .nil)))
noncomputable def t0_59 (P:Params):BT:=(.node (x356 P) .nil .nil)
noncomputable def t0_60 (P:Params):BT:=(.node (x393 P) .nil .nil)
noncomputable def t0_58 (P:Params):BT:=(.node (x71 P) (.node (x6 P) (.node (x201 P) (t0_59 P) .nil) (.node (x5 P) .nil .nil)) (.node (x158 P) (.node (x244 P) (t0_60 P) .nil) (.node (x319 P) .nil .nil)))
noncomputable def t0_62 (P:Params):BT:=(.node (x5 P) .nil .nil)
noncomputable def t0_63 (P:Params):BT:=(.node (x6 P) .nil .nil)
noncomputable def t0_61 (P:Params):BT:=(.node (x5 P) (.node (x87 P) (.node (x173 P) (t0_62 P) .nil) (.node (x260 P) .nil .nil)) (.node (x130 P) (.node (x216 P) (t0_63 P) .nil) (.node (x297 P) .nil .nil)))
noncomputable def t0_65 (P:Params):BT:=(.node (x351 P) .nil .nil)
noncomputable def t0_66 (P:Params):BT:=(.node (x388 P) .nil .nil)
noncomputable def t0_64 (P:Params):BT:=(.node (x6 P) (.node (x109 P) (.node (x196 P) (t0_65 P) .nil) (.node (x278 P) .nil .nil)) (.node (x5 P) (.node (x239 P) (t0_66 P) .nil) (.node (x5 P) .nil .nil)))
noncomputable def t0_68 (P:Params):BT:=(.node (x342 P) .nil .nil)
noncomputable def t0_69 (P:Params):BT:=(.node (x5 P) .nil .nil)
noncomputable def t0_67 (P:Params):BT:=(.node (x6 P) (.node (x99 P) (.node (x3 P) (t0_68 P) .nil) (.node (x5 P) .nil .nil)) (.node (x140 P) (.node (x6 P) (t0_69 P) .nil) (.node (x6 P) .nil .nil)))
noncomputable def t0_71 (P:Params):BT:=(.node (x361 P) .nil .nil)
noncomputable def t0_70 (P:Params):BT:=(.node (x76 P) (.node (x14 P) (.node (x206 P) (t0_71 P) .nil) (.node (x287 P) .nil .nil)) (.node (x5 P) (.node (x250 P) .nil .nil) (.node (x324 P) .nil .nil)))
noncomputable def t0_48 (P:Params):BT:=(.node (boot_o_9 P) (.node (x4 P) (.node (x17 P) (t0_49 P) (t0_52 P)) (.node (x28 P) (t0_55 P) (t0_58 P))) (.node (x11 P) (.node (x22 P) (t0_61 P) (t0_64 P)) (.node (x5 P) (t0_67 P) (t0_70 P))))
noncomputable def t0_74 (P:Params):BT:=(.node (x5 P) .nil .nil)
noncomputable def t0_75 (P:Params):BT:=(.node (x367 P) .nil .nil)
noncomputable def t0_73 (P:Params):BT:=(.node (x5 P) (.node (x85 P) (.node (x14 P) (t0_74 P) .nil) (.node (x257 P) .nil .nil)) (.node (x126 P) (.node (x5 P) (t0_75 P) .nil) (.node (x294 P) .nil .nil)))
noncomputable def t0_77 (P:Params):BT:=(.node (x5 P) .nil .nil)
noncomputable def t0_78 (P:Params):BT:=(.node (x6 P) .nil .nil)
noncomputable def t0_76 (P:Params):BT:=(.node (x62 P) (.node (x105 P) (.node (x192 P) (t0_77 P) .nil) (.node (x276 P) .nil .nil)) (.node (x149 P) (.node (x3 P) (t0_78 P) .nil) (.node (x313 P) .nil .nil)))
noncomputable def t0_80 (P:Params):BT:=(.node (x340 P) .nil .nil)
noncomputable def t0_81 (P:Params):BT:=(.node (x377 P) .nil .nil)
noncomputable def t0_79 (P:Params):BT:=(.node (x14 P) (.node (x95 P) (.node (x182 P) (t0_80 P) .nil) (.node (x5 P) .nil .nil)) (.node (x137 P) (.node (x225 P) (t0_81 P) .nil) (.node (x303 P) .nil .nil)))
noncomputable def t0_83 (P:Params):BT:=(.node (x358 P) .nil .nil)
noncomputable def t0_84 (P:Params):BT:=(.node (x395 P) .nil .nil)
noncomputable def t0_82 (P:Params):BT:=(.node (x3 P) (.node (x116 P) (.node (x5 P) (t0_83 P) .nil) (.node (x5 P) .nil .nil)) (.node (x5 P) (.node (x248 P) (t0_84 P) .nil) (.node (x6 P) .nil .nil)))
noncomputable def t0_86 (P:Params):BT:=(.node (x335 P) .nil .nil)
noncomputable def t0_87 (P:Params):BT:=(.node (x372 P) .nil .nil)
noncomputable def t0_85 (P:Params):BT:=(.node (x46 P) (.node (x90 P) (.node (x6 P) (t0_86 P) .nil) (.node (x5 P) .nil .nil)) (.node (x3 P) (.node (x220 P) (t0_87 P) .nil) (.node (x5 P) .nil .nil)))
noncomputable def t0_89 (P:Params):BT:=(.node (x6 P) .nil .nil)
noncomputable def t0_90 (P:Params):BT:=(.node (x390 P) .nil .nil)
noncomputable def t0_88 (P:Params):BT:=(.node (x67 P) (.node (x14 P) (.node (x198 P) (t0_89 P) .nil) (.node (x281 P) .nil .nil)) (.node (x154 P) (.node (x241 P) (t0_90 P) .nil) (.node (x5 P) .nil .nil)))
noncomputable def t0_92 (P:Params):BT:=(.node (x345 P) .nil .nil)
noncomputable def t0_93 (P:Params):BT:=(.node (x5 P) .nil .nil)
noncomputable def t0_91 (P:Params):BT:=(.node (x57 P) (.node (x5 P) (.node (x187 P) (t0_92 P) .nil) (.node (x271 P) .nil .nil)) (.node (x144 P) (.node (x230 P) (t0_93 P) .nil) (.node (x308 P) .nil .nil)))
noncomputable def t0_95 (P:Params):BT:=(.node (x5 P) .nil .nil)
noncomputable def t0_94 (P:Params):BT:=(.node (x78 P) (.node (x121 P) (.node (x210 P) (t0_95 P) .nil) (.node (x6 P) .nil .nil)) (.node (x164 P) (.node (x252 P) .nil .nil) (.node (x326 P) .nil .nil)))
noncomputable def t0_72 (P:Params):BT:=(.node (o13 P) (.node (x8 P) (.node (x19 P) (t0_73 P) (t0_76 P)) (.node (x31 P) (t0_79 P) (t0_82 P))) (.node (x3 P) (.node (x26 P) (t0_85 P) (t0_88 P)) (.node (x36 P) (t0_91 P) (t0_94 P))))
noncomputable def t0_98 (P:Params):BT:=(.node (x328 P) .nil .nil)
noncomputable def t0_99 (P:Params):BT:=(.node (x365 P) .nil .nil)
noncomputable def t0_97 (P:Params):BT:=(.node (x39 P) (.node (x80 P) (.node (x167 P) (t0_98 P) .nil) (.node (x254 P) .nil .nil)) (.node (x5 P) (.node (x211 P) (t0_99 P) .nil) (.node (x291 P) .nil .nil)))
noncomputable def t0_101 (P:Params):BT:=(.node (x346 P) .nil .nil)
noncomputable def t0_102 (P:Params):BT:=(.node (x5 P) .nil .nil)
noncomputable def t0_100 (P:Params):BT:=(.node (x60 P) (.node (x103 P) (.node (x6 P) (t0_101 P) .nil) (.node (x5 P) .nil .nil)) (.node (x3 P) (.node (x233 P) (t0_102 P) .nil) (.node (x6 P) .nil .nil)))
noncomputable def t0_104 (P:Params):BT:=(.node (x5 P) .nil .nil)
noncomputable def t0_105 (P:Params):BT:=(.node (x6 P) .nil .nil)
noncomputable def t0_103 (P:Params):BT:=(.node (x49 P) (.node (x91 P) (.node (x177 P) (t0_104 P) .nil) (.node (x264 P) .nil .nil)) (.node (x134 P) (.node (x223 P) (t0_105 P) .nil) (.node (x301 P) .nil .nil)))
noncomputable def t0_107 (P:Params):BT:=(.node (x355 P) .nil .nil)
noncomputable def t0_108 (P:Params):BT:=(.node (x392 P) .nil .nil)
noncomputable def t0_106 (P:Params):BT:=(.node (x70 P) (.node (x5 P) (.node (x200 P) (t0_107 P) .nil) (.node (x282 P) .nil .nil)) (.node (x157 P) (.node (x243 P) (t0_108 P) .nil) (.node (x5 P) .nil .nil)))
noncomputable def t0_110 (P:Params):BT:=(.node (x333 P) .nil .nil)
noncomputable def t0_111 (P:Params):BT:=(.node (x5 P) .nil .nil)
noncomputable def t0_109 (P:Params):BT:=(.node (x44 P) (.node (x3 P) (.node (x5 P) (t0_110 P) .nil) (.node (x259 P) .nil .nil)) (.node (x129 P) (.node (x5 P) (t0_111 P) .nil) (.node (x296 P) .nil .nil)))
noncomputable def t0_113 (P:Params):BT:=(.node (x5 P) .nil .nil)
noncomputable def t0_114 (P:Params):BT:=(.node (x387 P) .nil .nil)
noncomputable def t0_112 (P:Params):BT:=(.node (x5 P) (.node (x108 P) (.node (x195 P) (t0_113 P) .nil) (.node (x6 P) .nil .nil)) (.node (x150 P) (.node (x238 P) (t0_114 P) .nil) (.node (x314 P) .nil .nil)))
noncomputable def t0_116 (P:Params):BT:=(.node (x6 P) .nil .nil)
noncomputable def t0_117 (P:Params):BT:=(.node (x378 P) .nil .nil)
noncomputable def t0_115 (P:Params):BT:=(.node (x5 P) (.node (x98 P) (.node (x14 P) (t0_116 P) .nil) (.node (x269 P) .nil .nil)) (.node (x139 P) (.node (x5 P) (t0_117 P) .nil) (.node (x5 P) .nil .nil)))
noncomputable def t0_119 (P:Params):BT:=(.node (x360 P) .nil .nil)
noncomputable def t0_118 (P:Params):BT:=(.node (x75 P) (.node (x119 P) (.node (x205 P) (t0_119 P) .nil) (.node (x5 P) .nil .nil)) (.node (x162 P) (.node (x3 P) .nil .nil) (.node (x323 P) .nil .nil)))
noncomputable def t0_96 (P:Params):BT:=(.node (boot_o_8 P) (.node (x3 P) (.node (x16 P) (t0_97 P) (t0_100 P)) (.node (x3 P) (t0_103 P) (t0_106 P))) (.node (x10 P) (.node (x21 P) (t0_109 P) (t0_112 P)) (.node (x32 P) (t0_115 P) (t0_118 P))))
noncomputable def t0_122 (P:Params):BT:=(.node (x330 P) .nil .nil)
noncomputable def t0_123 (P:Params):BT:=(.node (x5 P) .nil .nil)
noncomputable def t0_121 (P:Params):BT:=(.node (x41 P) (.node (x84 P) (.node (x171 P) (t0_122 P) .nil) (.node (x6 P) .nil .nil)) (.node (x125 P) (.node (x214 P) (t0_123 P) .nil) (.node (x6 P) .nil .nil)))
noncomputable def t0_125 (P:Params):BT:=(.node (x349 P) .nil .nil)
noncomputable def t0_126 (P:Params):BT:=(.node (x5 P) .nil .nil)
noncomputable def t0_124 (P:Params):BT:=(.node (x5 P) (.node (x5 P) (.node (x191 P) (t0_125 P) .nil) (.node (x275 P) .nil .nil)) (.node (x148 P) (.node (x14 P) (t0_126 P) .nil) (.node (x312 P) .nil .nil)))
noncomputable def t0_128 (P:Params):BT:=(.node (x339 P) .nil .nil)
noncomputable def t0_129 (P:Params):BT:=(.node (x376 P) .nil .nil)
noncomputable def t0_127 (P:Params):BT:=(.node (x53 P) (.node (x94 P) (.node (x181 P) (t0_128 P) .nil) (.node (x266 P) .nil .nil)) (.node (x6 P) (.node (x5 P) (t0_129 P) .nil) (.node (x5 P) .nil .nil)))
noncomputable def t0_131 (P:Params):BT:=(.node (x6 P) .nil .nil)
noncomputable def t0_132 (P:Params):BT:=(.node (x394 P) .nil .nil)
noncomputable def t0_130 (P:Params):BT:=(.node (x14 P) (.node (x5 P) (.node (x202 P) (t0_131 P) .nil) (.node (x285 P) .nil .nil)) (.node (x159 P) (.node (x247 P) (t0_132 P) .nil) (.node (x5 P) .nil .nil)))
noncomputable def t0_134 (P:Params):BT:=(.node (x5 P) .nil .nil)
noncomputable def t0_135 (P:Params):BT:=(.node (x371 P) .nil .nil)
noncomputable def t0_133 (P:Params):BT:=(.node (x5 P) (.node (x89 P) (.node (x5 P) (t0_134 P) .nil) (.node (x261 P) .nil .nil)) (.node (x14 P) (.node (x219 P) (t0_135 P) .nil) (.node (x298 P) .nil .nil)))
noncomputable def t0_137 (P:Params):BT:=(.node (x5 P) .nil .nil)
noncomputable def t0_138 (P:Params):BT:=(.node (x6 P) .nil .nil)
noncomputable def t0_136 (P:Params):BT:=(.node (x66 P) (.node (x112 P) (.node (x3 P) (t0_137 P) .nil) (.node (x280 P) .nil .nil)) (.node (x153 P) (.node (x6 P) (t0_138 P) .nil) (.node (x317 P) .nil .nil)))
noncomputable def t0_140 (P:Params):BT:=(.node (x344 P) .nil .nil)
noncomputable def t0_141 (P:Params):BT:=(.node (x381 P) .nil .nil)
noncomputable def t0_139 (P:Params):BT:=(.node (x5 P) (.node (x100 P) (.node (x186 P) (t0_140 P) .nil) (.node (x5 P) .nil .nil)) (.node (x143 P) (.node (x229 P) (t0_141 P) .nil) (.node (x307 P) .nil .nil)))
noncomputable def t0_143 (P:Params):BT:=(.node (x362 P) .nil .nil)
noncomputable def t0_142 (P:Params):BT:=(.node (x6 P) (.node (x5 P) (.node (x209 P) (t0_143 P) .nil) (.node (x5 P) .nil .nil)) (.node (x5 P) (.node (x251 P) .nil .nil) (.node (x6 P) .nil .nil)))
noncomputable def t0_120 (P:Params):BT:=(.node (x1 P) (.node (x7 P) (.node (x6 P) (t0_121 P) (t0_124 P)) (.node (x30 P) (t0_127 P) (t0_130 P))) (.node (x14 P) (.node (x25 P) (t0_133 P) (t0_136 P)) (.node (x35 P) (t0_139 P) (t0_142 P))))
noncomputable def t0_146 (P:Params):BT:=(.node (x5 P) .nil .nil)
noncomputable def t0_147 (P:Params):BT:=(.node (x6 P) .nil .nil)
noncomputable def t0_145 (P:Params):BT:=(.node (x14 P) (.node (x82 P) (.node (x169 P) (t0_146 P) .nil) (.node (x256 P) .nil .nil)) (.node (x124 P) (.node (x212 P) (t0_147 P) .nil) (.node (x293 P) .nil .nil)))
noncomputable def t0_149 (P:Params):BT:=(.node (x347 P) .nil .nil)
noncomputable def t0_150 (P:Params):BT:=(.node (x384 P) .nil .nil)
noncomputable def t0_148 (P:Params):BT:=(.node (x3 P) (.node (x6 P) (.node (x5 P) (t0_149 P) .nil) (.node (x274 P) .nil .nil)) (.node (x5 P) (.node (x235 P) (t0_150 P) .nil) (.node (x5 P) .nil .nil)))
noncomputable def t0_152 (P:Params):BT:=(.node (x338 P) .nil .nil)
noncomputable def t0_153 (P:Params):BT:=(.node (x5 P) .nil .nil)
noncomputable def t0_151 (P:Params):BT:=(.node (x51 P) (.node (x92 P) (.node (x179 P) (t0_152 P) .nil) (.node (x5 P) .nil .nil)) (.node (x136 P) (.node (x3 P) (t0_153 P) .nil) (.node (x6 P) .nil .nil)))
noncomputable def t0_155 (P:Params):BT:=(.node (x357 P) .nil .nil)
noncomputable def t0_156 (P:Params):BT:=(.node (x5 P) .nil .nil)
noncomputable def t0_154 (P:Params):BT:=(.node (x72 P) (.node (x114 P) (.node (x5 P) (t0_155 P) .nil) (.node (x283 P) .nil .nil)) (.node (x14 P) (.node (x245 P) (t0_156 P) .nil) (.node (x320 P) .nil .nil)))
noncomputable def t0_158 (P:Params):BT:=(.node (x6 P) .nil .nil)
noncomputable def t0_159 (P:Params):BT:=(.node (x370 P) .nil .nil)
noncomputable def t0_157 (P:Params):BT:=(.node (x6 P) (.node (x5 P) (.node (x174 P) (t0_158 P) .nil) (.node (x5 P) .nil .nil)) (.node (x131 P) (.node (x217 P) (t0_159 P) .nil) (.node (x5 P) .nil .nil)))
noncomputable def t0_161 (P:Params):BT:=(.node (x352 P) .nil .nil)
noncomputable def t0_162 (P:Params):BT:=(.node (x389 P) .nil .nil)
noncomputable def t0_160 (P:Params):BT:=(.node (x65 P) (.node (x110 P) (.node (x197 P) (t0_161 P) .nil) (.node (x5 P) .nil .nil)) (.node (x151 P) (.node (x240 P) (t0_162 P) .nil) (.node (x315 P) .nil .nil)))
noncomputable def t0_164 (P:Params):BT:=(.node (x5 P) .nil .nil)
noncomputable def t0_165 (P:Params):BT:=(.node (x379 P) .nil .nil)
noncomputable def t0_163 (P:Params):BT:=(.node (x55 P) (.node (x14 P) (.node (x185 P) (t0_164 P) .nil) (.node (x6 P) .nil .nil)) (.node (x141 P) (.node (x228 P) (t0_165 P) .nil) (.node (x306 P) .nil .nil)))
noncomputable def t0_167 (P:Params):BT:=(.node (x5 P) .nil .nil)
noncomputable def t0_166 (P:Params):BT:=(.node (x77 P) (.node (x3 P) (.node (x207 P) (t0_167 P) .nil) (.node (x288 P) .nil .nil)) (.node (x6 P) (.node (x5 P) .nil .nil) (.node (x325 P) .nil .nil)))
noncomputable def t0_144 (P:Params):BT:=(.node (boot_o_10 P) (.node (x5 P) (.node (x18 P) (t0_145 P) (t0_148 P)) (.node (x5 P) (t0_151 P) (t0_154 P))) (.node (x12 P) (.node (x23 P) (t0_157 P) (t0_160 P)) (.node (x33 P) (t0_163 P) (t0_166 P))))
noncomputable def t0_170 (P:Params):BT:=(.node (x331 P) .nil .nil)
noncomputable def t0_171 (P:Params):BT:=(.node (x368 P) .nil .nil)
noncomputable def t0_169 (P:Params):BT:=(.node (x42 P) (.node (x86 P) (.node (x3 P) (t0_170 P) .nil) (.node (x5 P) .nil .nil)) (.node (x127 P) (.node (x6 P) (t0_171 P) .nil) (.node (x5 P) .nil .nil)))
noncomputable def t0_173 (P:Params):BT:=(.node (x6 P) .nil .nil)
noncomputable def t0_174 (P:Params):BT:=(.node (x386 P) .nil .nil)
noncomputable def t0_172 (P:Params):BT:=(.node (x63 P) (.node (x106 P) (.node (x193 P) (t0_173 P) .nil) (.node (x277 P) .nil .nil)) (.node (x5 P) (.node (x237 P) (t0_174 P) .nil) (.node (x5 P) .nil .nil)))
noncomputable def t0_176 (P:Params):BT:=(.node (x341 P) .nil .nil)
noncomputable def t0_177 (P:Params):BT:=(.node (x5 P) .nil .nil)
noncomputable def t0_175 (P:Params):BT:=(.node (x3 P) (.node (x96 P) (.node (x183 P) (t0_176 P) .nil) (.node (x267 P) .nil .nil)) (.node (x5 P) (.node (x226 P) (t0_177 P) .nil) (.node (x304 P) .nil .nil)))
noncomputable def t0_179 (P:Params):BT:=(.node (x5 P) .nil .nil)
noncomputable def t0_180 (P:Params):BT:=(.node (x396 P) .nil .nil)
noncomputable def t0_178 (P:Params):BT:=(.node (x74 P) (.node (x117 P) (.node (x203 P) (t0_179 P) .nil) (.node (x6 P) .nil .nil)) (.node (x160 P) (.node (x249 P) (t0_180 P) .nil) (.node (x322 P) .nil .nil)))
noncomputable def t0_182 (P:Params):BT:=(.node (x336 P) .nil .nil)
noncomputable def t0_183 (P:Params):BT:=(.node (x373 P) .nil .nil)
noncomputable def t0_181 (P:Params):BT:=(.node (x47 P) (.node (x5 P) (.node (x176 P) (t0_182 P) .nil) (.node (x262 P) .nil .nil)) (.node (x133 P) (.node (x221 P) (t0_183 P) .nil) (.node (x299 P) .nil .nil)))
noncomputable def t0_185 (P:Params):BT:=(.node (x354 P) .nil .nil)
noncomputable def t0_186 (P:Params):BT:=(.node (x5 P) .nil .nil)
noncomputable def t0_184 (P:Params):BT:=(.node (x68 P) (.node (x3 P) (.node (x5 P) (t0_185 P) .nil) (.node (x5 P) .nil .nil)) (.node (x155 P) (.node (x5 P) (t0_186 P) .nil) (.node (x6 P) .nil .nil)))
noncomputable def t0_188 (P:Params):BT:=(.node (x5 P) .nil .nil)
noncomputable def t0_189 (P:Params):BT:=(.node (x6 P) .nil .nil)
noncomputable def t0_187 (P:Params):BT:=(.node (x58 P) (.node (x101 P) (.node (x188 P) (t0_188 P) .nil) (.node (x272 P) .nil .nil)) (.node (x145 P) (.node (x231 P) (t0_189 P) .nil) (.node (x309 P) .nil .nil)))
noncomputable def t0_191 (P:Params):BT:=(.node (x363 P) .nil .nil)
noncomputable def t0_190 (P:Params):BT:=(.node (x5 P) (.node (x122 P) (.node (x14 P) (t0_191 P) .nil) (.node (x290 P) .nil .nil)) (.node (x165 P) (.node (x5 P) .nil .nil) (.node (x5 P) .nil .nil)))
noncomputable def t0_168 (P:Params):BT:=(.node (o14 P) (.node (x5 P) (.node (x5 P) (t0_169 P) (t0_172 P)) (.node (x5 P) (t0_175 P) (t0_178 P))) (.node (x15 P) (.node (x27 P) (t0_181 P) (t0_184 P)) (.node (x37 P) (t0_187 P) (t0_190 P))))
noncomputable def tr0 (P:Params):BT:=(.node (boot_o_0 P) (.node (boot_o_1 P) (.node (x0 P) (t0_0 P) (t0_24 P)) (.node (boot_o_5 P) (t0_48 P) (t0_72 P))) (.node (boot_o_2 P) (.node (boot_o_4 P) (t0_96 P) (t0_120 P)) (.node (boot_o_6 P) (t0_144 P) (t0_168 P))))
noncomputable def sC0 (w:World)(os:OsState):SharedT:=⟨tr0 w.params,631,{},#[],{},1035,os⟩
noncomputable def ck0:List Stmt:=body0.take 69
noncomputable def ck1:List Stmt:=body0.drop 69
noncomputable def pjA:=fun(r:Flow×SharedT×Code×Pos)=>(fun x=>x.1) (lookG r)
noncomputable def lhsGA (w:World)(os:OsState):=(segRunT treeTable pw w 11 ann0 1 2018 (sC0 w os) (piecesOf ck1 env0 cE (⟨280,0,289,60⟩:Pos) B0)).map pjA
noncomputable def rhsGA (_:World)(_:OsState):=some ((fun x=>x.1) (openGood qvw loose0))
theorem lhsGA_r:@lhsGA = @lhsGA:=rfl
theorem rhsGA_r:@rhsGA = @rhsGA:=rfl
name_quick lhsGAQ for My.lhsGA by My.lhsGA_r
name_quick rhsGAQ for My.rhsGA by My.rhsGA_r
theorem krfGA (w:World):PySem.W.Fast.lhsGAQ (w.withFollow "special-get-raises" false)=PySem.W.Fast.rhsGAQ (w.withFollow "special-get-raises" false):=by kernel_rfl
theorem krtGA (w:World):PySem.W.Fast.lhsGAQ (w.withFollow "special-get-raises" true)=PySem.W.Fast.rhsGAQ (w.withFollow "special-get-raises" true):=by kernel_rfl
theorem krGA (w:World):PySem.W.Fast.lhsGAQ w=PySem.W.Fast.rhsGAQ w:=byRow2 "special-get-raises" (P:=fun w=>PySem.W.Fast.lhsGAQ w=PySem.W.Fast.rhsGAQ w) krfGA krtGA w
theorem run_allGA (w:World):lhsGA w=rhsGA w:=(congrFun PySem.W.Fast.lhsGAQ_eq w).trans ((krGA w).trans (congrFun PySem.W.Fast.rhsGAQ_eq w).symm)
noncomputable def pjB:=fun(r:Flow×SharedT×Code×Pos)=>(fun x=>x.2.1) (lookG r)
noncomputable def lhsGB (w:World)(os:OsState):=(segRunT treeTable pw w 11 ann0 1 2018 (sC0 w os) (piecesOf ck1 env0 cE (⟨280,0,289,60⟩:Pos) B0)).map pjB
noncomputable def rhsGB (_:World)(_:OsState):=some ((fun x=>x.2.1) (openGood qvw loose0))
theorem lhsGB_r:@lhsGB = @lhsGB:=rfl
theorem rhsGB_r:@rhsGB = @rhsGB:=rfl
name_quick lhsGBQ for My.lhsGB by My.lhsGB_r
name_quick rhsGBQ for My.rhsGB by My.rhsGB_r
theorem krfGB (w:World):PySem.W.Fast.lhsGBQ (w.withFollow "special-get-raises" false)=PySem.W.Fast.rhsGBQ (w.withFollow "special-get-raises" false):=by kernel_rfl
theorem krtGB (w:World):PySem.W.Fast.lhsGBQ (w.withFollow "special-get-raises" true)=PySem.W.Fast.rhsGBQ (w.withFollow "special-get-raises" true):=by kernel_rfl
theorem krGB (w:World):PySem.W.Fast.lhsGBQ w=PySem.W.Fast.rhsGBQ w:=byRow2 "special-get-raises" (P:=fun w=>PySem.W.Fast.lhsGBQ w=PySem.W.Fast.rhsGBQ w) krfGB krtGB w
theorem run_allGB (w:World):lhsGB w=rhsGB w:=(congrFun PySem.W.Fast.lhsGBQ_eq w).trans ((krGB w).trans (congrFun PySem.W.Fast.rhsGBQ_eq w).symm)
noncomputable def pjC:=fun(r:Flow×SharedT×Code×Pos)=>(fun x=>x.2.2.1) (lookG r)
noncomputable def lhsGC (w:World)(os:OsState):=(segRunT treeTable pw w 11 ann0 1 2018 (sC0 w os) (piecesOf ck1 env0 cE (⟨280,0,289,60⟩:Pos) B0)).map pjC
noncomputable def rhsGC (_:World)(_:OsState):=some ((fun x=>x.2.2.1) (openGood qvw loose0))
theorem lhsGC_r:@lhsGC = @lhsGC:=rfl
theorem rhsGC_r:@rhsGC = @rhsGC:=rfl
name_quick lhsGCQ for My.lhsGC by My.lhsGC_r
name_quick rhsGCQ for My.rhsGC by My.rhsGC_r
theorem krfGC (w:World):PySem.W.Fast.lhsGCQ (w.withFollow "special-get-raises" false)=PySem.W.Fast.rhsGCQ (w.withFollow "special-get-raises" false):=by kernel_rfl
theorem krtGC (w:World):PySem.W.Fast.lhsGCQ (w.withFollow "special-get-raises" true)=PySem.W.Fast.rhsGCQ (w.withFollow "special-get-raises" true):=by kernel_rfl
theorem krGC (w:World):PySem.W.Fast.lhsGCQ w=PySem.W.Fast.rhsGCQ w:=byRow2 "special-get-raises" (P:=fun w=>PySem.W.Fast.lhsGCQ w=PySem.W.Fast.rhsGCQ w) krfGC krtGC w
theorem run_allGC (w:World):lhsGC w=rhsGC w:=(congrFun PySem.W.Fast.lhsGCQ_eq w).trans ((krGC w).trans (congrFun PySem.W.Fast.rhsGCQ_eq w).symm)
noncomputable def pjD:=fun(r:Flow×SharedT×Code×Pos)=>(fun x=>x.2.2.2.1) (lookG r)
noncomputable def lhsGD (w:World)(os:OsState):=(segRunT treeTable pw w 11 ann0 1 2018 (sC0 w os) (piecesOf ck1 env0 cE (⟨280,0,289,60⟩:Pos) B0)).map pjD
noncomputable def rhsGD (_:World)(_:OsState):=some ((fun x=>x.2.2.2.1) (openGood qvw loose0))
theorem lhsGD_r:@lhsGD = @lhsGD:=rfl
theorem rhsGD_r:@rhsGD = @rhsGD:=rfl
name_quick lhsGDQ for My.lhsGD by My.lhsGD_r
name_quick rhsGDQ for My.rhsGD by My.rhsGD_r
theorem krfGD (w:World):PySem.W.Fast.lhsGDQ (w.withFollow "special-get-raises" false)=PySem.W.Fast.rhsGDQ (w.withFollow "special-get-raises" false):=by kernel_rfl
theorem krtGD (w:World):PySem.W.Fast.lhsGDQ (w.withFollow "special-get-raises" true)=PySem.W.Fast.rhsGDQ (w.withFollow "special-get-raises" true):=by kernel_rfl
theorem krGD (w:World):PySem.W.Fast.lhsGDQ w=PySem.W.Fast.rhsGDQ w:=byRow2 "special-get-raises" (P:=fun w=>PySem.W.Fast.lhsGDQ w=PySem.W.Fast.rhsGDQ w) krfGD krtGD w
theorem run_allGD (w:World):lhsGD w=rhsGD w:=(congrFun PySem.W.Fast.lhsGDQ_eq w).trans ((krGD w).trans (congrFun PySem.W.Fast.rhsGDQ_eq w).symm)
noncomputable def pjE:=fun(r:Flow×SharedT×Code×Pos)=>(fun x=>x.2.2.2.2.1) (lookG r)
noncomputable def lhsGE (w:World)(os:OsState):=(segRunT treeTable pw w 11 ann0 1 2018 (sC0 w os) (piecesOf ck1 env0 cE (⟨280,0,289,60⟩:Pos) B0)).map pjE
noncomputable def rhsGE (_:World)(_:OsState):=some ((fun x=>x.2.2.2.2.1) (openGood qvw loose0))
theorem lhsGE_r:@lhsGE = @lhsGE:=rfl
theorem rhsGE_r:@rhsGE = @rhsGE:=rfl
name_quick lhsGEQ for My.lhsGE by My.lhsGE_r
name_quick rhsGEQ for My.rhsGE by My.rhsGE_r
theorem krfGE (w:World):PySem.W.Fast.lhsGEQ (w.withFollow "special-get-raises" false)=PySem.W.Fast.rhsGEQ (w.withFollow "special-get-raises" false):=by kernel_rfl
theorem krtGE (w:World):PySem.W.Fast.lhsGEQ (w.withFollow "special-get-raises" true)=PySem.W.Fast.rhsGEQ (w.withFollow "special-get-raises" true):=by kernel_rfl
theorem krGE (w:World):PySem.W.Fast.lhsGEQ w=PySem.W.Fast.rhsGEQ w:=byRow2 "special-get-raises" (P:=fun w=>PySem.W.Fast.lhsGEQ w=PySem.W.Fast.rhsGEQ w) krfGE krtGE w
theorem run_allGE (w:World):lhsGE w=rhsGE w:=(congrFun PySem.W.Fast.lhsGEQ_eq w).trans ((krGE w).trans (congrFun PySem.W.Fast.rhsGEQ_eq w).symm)
noncomputable def pjF:=fun(r:Flow×SharedT×Code×Pos)=>(fun x=>x.2.2.2.2.2.1) (lookG r)
noncomputable def lhsGF (w:World)(os:OsState):=(segRunT treeTable pw w 11 ann0 1 2018 (sC0 w os) (piecesOf ck1 env0 cE (⟨280,0,289,60⟩:Pos) B0)).map pjF
noncomputable def rhsGF (_:World)(_:OsState):=some ((fun x=>x.2.2.2.2.2.1) (openGood qvw loose0))
theorem lhsGF_r:@lhsGF = @lhsGF:=rfl
theorem rhsGF_r:@rhsGF = @rhsGF:=rfl
name_quick lhsGFQ for My.lhsGF by My.lhsGF_r
name_quick rhsGFQ for My.rhsGF by My.rhsGF_r
theorem krfGF (w:World):PySem.W.Fast.lhsGFQ (w.withFollow "special-get-raises" false)=PySem.W.Fast.rhsGFQ (w.withFollow "special-get-raises" false):=by kernel_rfl
theorem krtGF (w:World):PySem.W.Fast.lhsGFQ (w.withFollow "special-get-raises" true)=PySem.W.Fast.rhsGFQ (w.withFollow "special-get-raises" true):=by kernel_rfl
theorem krGF (w:World):PySem.W.Fast.lhsGFQ w=PySem.W.Fast.rhsGFQ w:=byRow2 "special-get-raises" (P:=fun w=>PySem.W.Fast.lhsGFQ w=PySem.W.Fast.rhsGFQ w) krfGF krtGF w
theorem run_allGF (w:World):lhsGF w=rhsGF w:=(congrFun PySem.W.Fast.lhsGFQ_eq w).trans ((krGF w).trans (congrFun PySem.W.Fast.rhsGFQ_eq w).symm)
noncomputable def pjG:=fun(r:Flow×SharedT×Code×Pos)=>(fun x=>x.2.2.2.2.2.2.1) (lookG r)
noncomputable def lhsGG (w:World)(os:OsState):=(segRunT treeTable pw w 11 ann0 1 2018 (sC0 w os) (piecesOf ck1 env0 cE (⟨280,0,289,60⟩:Pos) B0)).map pjG
noncomputable def rhsGG (_:World)(_:OsState):=some ((fun x=>x.2.2.2.2.2.2.1) (openGood qvw loose0))
theorem lhsGG_r:@lhsGG = @lhsGG:=rfl
theorem rhsGG_r:@rhsGG = @rhsGG:=rfl
name_quick lhsGGQ for My.lhsGG by My.lhsGG_r
name_quick rhsGGQ for My.rhsGG by My.rhsGG_r
theorem krfGG (w:World):PySem.W.Fast.lhsGGQ (w.withFollow "special-get-raises" false)=PySem.W.Fast.rhsGGQ (w.withFollow "special-get-raises" false):=by kernel_rfl
theorem krtGG (w:World):PySem.W.Fast.lhsGGQ (w.withFollow "special-get-raises" true)=PySem.W.Fast.rhsGGQ (w.withFollow "special-get-raises" true):=by kernel_rfl
theorem krGG (w:World):PySem.W.Fast.lhsGGQ w=PySem.W.Fast.rhsGGQ w:=byRow2 "special-get-raises" (P:=fun w=>PySem.W.Fast.lhsGGQ w=PySem.W.Fast.rhsGGQ w) krfGG krtGG w
theorem run_allGG (w:World):lhsGG w=rhsGG w:=(congrFun PySem.W.Fast.lhsGGQ_eq w).trans ((krGG w).trans (congrFun PySem.W.Fast.rhsGGQ_eq w).symm)
noncomputable def pjH:=fun(r:Flow×SharedT×Code×Pos)=>(fun x=>x.2.2.2.2.2.2.2) (lookG r)
noncomputable def lhsGH (w:World)(os:OsState):=(segRunT treeTable pw w 11 ann0 1 2018 (sC0 w os) (piecesOf ck1 env0 cE (⟨280,0,289,60⟩:Pos) B0)).map pjH
noncomputable def rhsGH (_:World)(_:OsState):=some ((fun x=>x.2.2.2.2.2.2.2) (openGood qvw loose0))
theorem lhsGH_r:@lhsGH = @lhsGH:=rfl
theorem rhsGH_r:@rhsGH = @rhsGH:=rfl
name_quick lhsGHQ for My.lhsGH by My.lhsGH_r
name_quick rhsGHQ for My.rhsGH by My.rhsGH_r
theorem krfGH (w:World):PySem.W.Fast.lhsGHQ (w.withFollow "special-get-raises" false)=PySem.W.Fast.rhsGHQ (w.withFollow "special-get-raises" false):=by kernel_rfl
theorem krtGH (w:World):PySem.W.Fast.lhsGHQ (w.withFollow "special-get-raises" true)=PySem.W.Fast.rhsGHQ (w.withFollow "special-get-raises" true):=by kernel_rfl
theorem krGH (w:World):PySem.W.Fast.lhsGHQ w=PySem.W.Fast.rhsGHQ w:=byRow2 "special-get-raises" (P:=fun w=>PySem.W.Fast.lhsGHQ w=PySem.W.Fast.rhsGHQ w) krfGH krtGH w
theorem run_allGH (w:World):lhsGH w=rhsGH w:=(congrFun PySem.W.Fast.lhsGHQ_eq w).trans ((krGH w).trans (congrFun PySem.W.Fast.rhsGHQ_eq w).symm)
noncomputable def lhsC0 (w:World)(os:OsState):=segRunT treeTable pw w 11 ann0 1 6210 (sB w os) (piecesOf ck0 env0 cE pos0 B0)
noncomputable def rhsC0 (w:World)(os:OsState):Option (Flow×SharedT×Code×Pos):=some (Flow.next,sC0 w os,cE,(⟨280,0,289,60⟩:Pos))
theorem lhsC0_r:@lhsC0 = @lhsC0:=rfl
theorem rhsC0_r:@rhsC0 = @rhsC0:=rfl
name_quick lhsC0Q for My.lhsC0 by My.lhsC0_r
name_quick rhsC0Q for My.rhsC0 by My.rhsC0_r
theorem krfC0 (w:World):PySem.W.Fast.lhsC0Q (w.withFollow "special-get-raises" false)=PySem.W.Fast.rhsC0Q (w.withFollow "special-get-raises" false):=by kernel_rfl
theorem krtC0 (w:World):PySem.W.Fast.lhsC0Q (w.withFollow "special-get-raises" true)=PySem.W.Fast.rhsC0Q (w.withFollow "special-get-raises" true):=by kernel_rfl
theorem krC0 (w:World):PySem.W.Fast.lhsC0Q w=PySem.W.Fast.rhsC0Q w:=byRow2 "special-get-raises" (P:=fun w=>PySem.W.Fast.lhsC0Q w=PySem.W.Fast.rhsC0Q w) krfC0 krtC0 w
theorem run_allC0 (w:World):lhsC0 w=rhsC0 w:=(congrFun PySem.W.Fast.lhsC0Q_eq w).trans ((krC0 w).trans (congrFun PySem.W.Fast.rhsC0Q_eq w).symm)
noncomputable def lhs (w:World)(os:OsState):=(segRunT treeTable pw w 11 ann0 1 2018 (sC0 w os) (piecesOf ck1 env0 cE (⟨280,0,289,60⟩:Pos) B0)).map (lookF w)
noncomputable def rhs (w:World)(_:OsState):=some (Flow.next,cE,true,val0 w)
theorem lhs_r:@lhs = @lhs:=rfl
theorem rhs_r:@rhs = @rhs:=rfl
name_quick lhsQ for My.lhs by My.lhs_r
name_quick rhsQ for My.rhs by My.rhs_r
theorem krf (w:World):PySem.W.Fast.lhsQ (w.withFollow "special-get-raises" false)=PySem.W.Fast.rhsQ (w.withFollow "special-get-raises" false):=by kernel_rfl
theorem krt (w:World):PySem.W.Fast.lhsQ (w.withFollow "special-get-raises" true)=PySem.W.Fast.rhsQ (w.withFollow "special-get-raises" true):=by kernel_rfl
theorem kr (w:World):PySem.W.Fast.lhsQ w=PySem.W.Fast.rhsQ w:=byRow2 "special-get-raises" (P:=fun w=>PySem.W.Fast.lhsQ w=PySem.W.Fast.rhsQ w) krf krt w
theorem run_all (w:World):lhs w=rhs w:=(congrFun PySem.W.Fast.lhsQ_eq w).trans ((kr w).trans (congrFun PySem.W.Fast.rhsQ_eq w).symm)
noncomputable def lhs1 (w:World)(os:OsState):=topGo treeTable pw w 11 ann0 12 ⟨boot_heap w.params,#[],boot_drawn,boot_toks,os⟩ (topStub pw)
noncomputable def rhs1 (w:World)(os:OsState):Option (Shared×Thread):=some ((sB w os).abs,⟨denote treeTable cE,cE,pos0,B0⟩)
theorem lhs1_r:@lhs1 = @lhs1:=rfl
theorem rhs1_r:@rhs1 = @rhs1:=rfl
name_quick lhs1Q for My.lhs1 by My.lhs1_r
name_quick rhs1Q for My.rhs1 by My.rhs1_r
theorem kr1 (w:World):PySem.W.Fast.lhs1Q w=PySem.W.Fast.rhs1Q w:=by kernel_rfl
theorem run_1 (w:World):lhs1 w=rhs1 w:=(congrFun PySem.W.Fast.lhs1Q_eq w).trans ((kr1 w).trans (congrFun PySem.W.Fast.rhs1Q_eq w).symm)
noncomputable def lhs2 (w:World)(os:OsState):=segRun treeTable pw w 11 ann0 1 1 (sB w os).abs (blockOf body0 env0 cE pos0 B0)
noncomputable def rhs2 (w:World)(os:OsState):Option (Flow×Shared×Code×Pos):=some (.next,(sB w os).abs,cE,pos0)
theorem lhs2_r:@lhs2 = @lhs2:=rfl
theorem rhs2_r:@rhs2 = @rhs2:=rfl
name_quick lhs2Q for My.lhs2 by My.lhs2_r
name_quick rhs2Q for My.rhs2 by My.rhs2_r
theorem kr2 (w:World):PySem.W.Fast.lhs2Q w=PySem.W.Fast.rhs2Q w:=by kernel_rfl
theorem run_2 (w:World):lhs2 w=rhs2 w:=(congrFun PySem.W.Fast.lhs2Q_eq w).trans ((kr2 w).trans (congrFun PySem.W.Fast.rhs2Q_eq w).symm)
noncomputable def lhs3 (w:World):Bool×Nat×Option Value:=((boot_heap w.params).isNs mainGlobals&&(#[]:Array GenState).size == 0,(boot_heap w.params).objs.size,(boot_heap w.params).nsMap mainGlobals "__annotations__")
theorem lhs3_r:@lhs3 = @lhs3:=rfl
name_quick lhs3Q for My.lhs3 by My.lhs3_r
theorem kr3 (w:World):PySem.W.Fast.lhs3Q w=(true,11,ann0):=by kernel_rfl
theorem run_3 (w:World):lhs3 w=(true,11,ann0):=(congrFun PySem.W.Fast.lhs3Q_eq w).trans (kr3 w)
theorem fin0 (w:World)(s:Shared)(q:Pos):topRun treeTable pw w 11 ann0 2 s (restOf [] env0 cE q B0)=some s:=rfl
theorem cut_all:body0=ck0++(ck1++[]):=by
  rw [List.append_nil]
  unfold ck0 ck1
  exact(List.take_append_drop _ _).symm
theorem top_all (w:World)(os:OsState):∃ s:Shared,topRun treeTable pw w 11 ann0 (12+(1+(6210+(2018+2)))) ⟨boot_heap w.params,#[],boot_drawn,boot_toks,os⟩ (topStub pw)=some s /\
    (staticsOk mods (boot_heap w.params) s.heap&&namesBound pw s.heap&&gensDone s&&laidKept (boot_heap w.params) s.heap)=true/\openSeen qvw loose0 mods Xt0 true s=openGood qvw loose0/\obs0 s=val0 w:=by
  obtain⟨⟨f,s,c,q⟩,hr,hF⟩:=Option.map_eq_some_iff.mp (congrFun (run_all w) os)
  unfold lookF at hF
  simp only [Prod.mk.injEq] at hF
  obtain⟨rfl,rfl,h1,h3⟩:=hF
  have h2:openSeen qvw loose0 mods Xt0 true s.abs=openGood qvw loose0:=by
    have hA:=congrFun (run_allGA w) os
    unfold lhsGA rhsGA at hA
    rw [hr,Option.map_some] at hA
    have hA:=Option.some.inj hA
    have hB:=congrFun (run_allGB w) os
    unfold lhsGB rhsGB at hB
    rw [hr,Option.map_some] at hB
    have hB:=Option.some.inj hB
    have hC:=congrFun (run_allGC w) os
    unfold lhsGC rhsGC at hC
    rw [hr,Option.map_some] at hC
    have hC:=Option.some.inj hC
    have hD:=congrFun (run_allGD w) os
    unfold lhsGD rhsGD at hD
    rw [hr,Option.map_some] at hD
    have hD:=Option.some.inj hD
    have hE:=congrFun (run_allGE w) os
    unfold lhsGE rhsGE at hE
    rw [hr,Option.map_some] at hE
    have hE:=Option.some.inj hE
    have hF:=congrFun (run_allGF w) os
    unfold lhsGF rhsGF at hF
    rw [hr,Option.map_some] at hF
    have hF:=Option.some.inj hF
    have hG:=congrFun (run_allGG w) os
    unfold lhsGG rhsGG at hG
    rw [hr,Option.map_some] at hG
    have hG:=Option.some.inj hG
    have hH:=congrFun (run_allGH w) os
    unfold lhsGH rhsGH at hH
    rw [hr,Option.map_some] at hH
    have hH:=Option.some.inj hH
    exact Prod.ext hA (Prod.ext hB (Prod.ext hC (Prod.ext hD (Prod.ext hE (Prod.ext hF (Prod.ext hG hH))))))
  refine⟨s.abs,?_,h1,h2,h3⟩
  refine go_top (congrFun (run_1 w) os) (piece_block (congrFun (run_2 w) os) ?_)
  rw [show restOf body0 env0 cE pos0 [topFrame pos0]=restOf (ck0++(ck1++[])) env0 cE pos0 [topFrame pos0] from congrArg (fun x=>restOf x env0 cE pos0 [topFrame pos0]) cut_all]
  exact(piece_app (segRun_of (congrFun (run_allC0 w) os)) (piece_app (segRun_of hr) (fin0 w s.abs q)))
theorem boot0 (w:World):(fencedOpening treeTable pw w 8343).map (fun s=>(s.heap,s.gens,s.drawn,s.toks))=some (boot_heap w.params,Array.mk [],boot_drawn,boot_toks):=boot_open (p:=pw) (N:=8343) (by kernel_rfl) (by kernel_rfl) (fun _=>rfl) w
theorem left:LeftO pw qvw loose0 Xt0 HK.obs HK.val 8343:=L2.left_run (M:=12+(1+(6210+(2018+2)))) (m0:=11) (ann:=ann0) boot0 run_3 top_all (by decide)
end My
set_option maxHeartbeats 1000000
namespace L2
open PySem PySem.Spec PyProof.Rows
noncomputable abbrev Key:=Sum Int Str
noncomputable def keyIs:Key->Value->Bool
  | .inl k,v=>Value.isInt k v
  | .inr x,v=>Value.isStrOf x v
noncomputable def keyH (w:World):Key->Int
  | .inl k=>hashInt k
  | .inr x=>hashStr w x
theorem keyIs_shape:∀ {k:Key} {v:Value},keyIs k v=true->(∃ i t,k=Sum.inl i/\v=Value.int i t)\/(∃ x t,k=Sum.inr x/\v=Value.str x t)
  | .inl i,v,h=>by
    obtain⟨t,e⟩:=Value.isInt_shape (k:=i) (v:=v) h
    exact .inl ⟨i,t,rfl,e⟩
  | .inr x,v,h=>by
    obtain⟨t,e⟩:=Value.isStrOf_shape (x:=x) (v:=v) h
    exact .inr ⟨x,t,rfl,e⟩
theorem keyIs_int (i:Int)(t:Tok):keyIs (.inl i) (.int i t)=true:=by simp [keyIs,Value.isInt]
theorem keyIs_str (x:Str)(t:Tok):keyIs (.inr x) (.str x t)=true:=by simp [keyIs,Value.isStrOf]
theorem key_ll (a b:Int):decide ((Sum.inl a:Key)=Sum.inl b)=(a == b):=by
  by_cases e:a=b
  · subst e;simp
  · have h:¬ (Sum.inl a:Key)=Sum.inl b:=fun q=>e (Sum.inl.inj q)
    rw [decide_eq_false h]
    exact(beq_eq_false_iff_ne.mpr e).symm
theorem key_rr (a b:Str):decide ((Sum.inr a:Key)=Sum.inr b)=decide (a=b):=by
  by_cases e:a=b
  · subst e;simp
  · have h:¬ (Sum.inr a:Key)=Sum.inr b:=fun q=>e (Sum.inr.inj q)
    rw [decide_eq_false h,decide_eq_false e]
theorem key_lr (a:Int)(b:Str):decide ((Sum.inl a:Key)=Sum.inr b)=false:=decide_eq_false (fun q=>nomatch q)
theorem key_rl (a:Str)(b:Int):decide ((Sum.inr a:Key)=Sum.inl b)=false:=decide_eq_false (fun q=>nomatch q)
noncomputable def mixKind (prog:Program)(w:World):PySem.KeyKind prog w Key where
  is:=keyIs
  hash:=keyH w
  inj:=fun v a b ha hb=>by
    rcases keyIs_shape ha with⟨i,t,rfl,rfl⟩ | ⟨x,t,rfl,rfl⟩
    · rcases keyIs_shape hb with⟨j,u,rfl,e⟩ | ⟨y,u,rfl,e⟩
      · injection e with e1 _;rw [e1]
      · exact nomatch e
    · rcases keyIs_shape hb with⟨j,u,rfl,e⟩ | ⟨y,u,rfl,e⟩
      · exact nomatch e
      · injection e with e1 _;rw [e1]
  byValue:=fun k v h=>by
    rcases keyIs_shape h with⟨i,t,rfl,rfl⟩ | ⟨x,t,rfl,rfl⟩<;>rfl
  pyHash:=fun hv h=>by
    rcases keyIs_shape hv with⟨i,t,rfl,rfl⟩ | ⟨x,t,rfl,rfl⟩
    · exact wpAny_pyHash_int h
    · exact wpAny_pyHash_str h
  eqBool:=fun hu hv h=>by
    rcases keyIs_shape hu with⟨i,t,rfl,rfl⟩ | ⟨x,t,rfl,rfl⟩
    · rcases keyIs_shape hv with⟨j,u,rfl,rfl⟩ | ⟨y,u,rfl,rfl⟩
      · rw [key_ll] at h;exact wpAny_eqBool_int h
      · rw [key_lr] at h;exact SeqAt.EqAt.int_str i t y u _ _ _ _ h
    · rcases keyIs_shape hv with⟨j,u,rfl,rfl⟩ | ⟨y,u,rfl,rfl⟩
      · rw [key_rl] at h;exact SeqAt.EqAt.str_int x t j u _ _ _ _ h
      · rw [key_rr] at h;exact wpAny_eqBool_str h
  «strs»:=fun k x t v h=>by
    rcases keyIs_shape h with⟨i,u,rfl,e⟩ | ⟨y,u,rfl,e⟩
    · exact nomatch e
    · injection e with e1 _
      subst e1
      cases v<;>rfl
theorem mixKind_int (prog:Program)(w:World)(i:Int)(t:Tok):(mixKind prog w).is (.inl i) (.int i t)=true:=keyIs_int i t
theorem mixKind_str (prog:Program)(w:World)(x:Str)(t:Tok):(mixKind prog w).is (.inr x) (.str x t)=true:=keyIs_str x t
end L2
namespace L2
open PySem PySem.Spec PyProof.Rows
inductive V where
  | non | bl (b:Bool) | int (i:Int) | str (x:Str) | byt (b:Array UInt8) | flt (b:UInt64) | ref (a:Addr) | ty (n:String)
  deriving DecidableEq
noncomputable def RelV:V->Value->Prop
  | .non,u=>u=Value.none
  | .bl b,u=>u=Value.bool b
  | .int i,u=>∃ t,u=Value.int i t
  | .str x,u=>∃ t,u=Value.str x t
  | .byt b,u=>∃ t,u=Value.bytes b t
  | .flt b,u=>∃ t,u=Value.float b t
  | .ref a,u=>u=Value.ref a
  | .ty n,u=>u=Value.type n
noncomputable abbrev Vals:List V->List Value->Prop:=Paired RelV
theorem Vals.length {xs:List V}{us:List Value}(r:Vals xs us):xs.length=us.length:=Paired.length r
theorem Vals.get:∀ {xs:List V} {us:List Value} {i:Nat} {x:V},Vals xs us->xs[i]? = some x->∃ u,us[i]? = some u/\RelV x u
  | _,_,_,_,.nil,e=>by simp at e
  | _,_,0,_,.cons r _,e=>by simp at e;subst e;exact⟨_,rfl,r⟩
  | _,_,i+1,x,.cons _ t,e=>by
    obtain⟨u,h1,h2⟩:=Vals.get (i:=i) (x:=x) t (by simpa using e)
    exact⟨u,by simpa using h1,h2⟩
theorem Vals.set {x:V}{u:Value}(r:RelV x u):∀ {xs:List V} {us:List Value} (i:Nat),Vals xs us->Vals (xs.set i x) (us.set i u)
  | _,_,_,.nil=>.nil
  | _,_,0,.cons _ t=>.cons r t
  | _,_,i+1,.cons q t=>.cons q (Vals.set r i t)
theorem Vals.append:∀ {xs ys:List V} {us ws:List Value},Vals xs us->Vals ys ws->Vals (xs++ys) (us++ws)
  | _,_,_,_,.nil,s=>s
  | _,_,_,_,.cons r t,s=>.cons r (Vals.append t s)
theorem Vals.take:∀ {xs:List V} {us:List Value} (n:Nat),Vals xs us->Vals (xs.take n) (us.take n)
  | _,_,0,_=>.nil
  | _,_,_+1,.nil=>.nil
  | _,_,n+1,.cons r t=>.cons r (Vals.take n t)
theorem Vals.drop:∀ {xs:List V} {us:List Value} (n:Nat),Vals xs us->Vals (xs.drop n) (us.drop n)
  | _,_,0,r=>r
  | _,_,_+1,.nil=>.nil
  | _,_,n+1,.cons _ t=>Vals.drop n t
theorem Vals.none_of:∀ {xs:List V} {us:List Value} {i:Nat},Vals xs us->xs[i]? = none->us[i]? = none:=fun {xs us i} r e=>by
  have h1:=r.length
  have h2:xs.length<=i:=List.getElem?_eq_none_iff.mp e
  exact List.getElem?_eq_none_iff.mpr (by lia)
noncomputable def RelO:Option V->Option Value->Prop
  | some v,some u=>RelV v u
  | none,none=>True
  | _,_=>False
noncomputable def KV {κ:Type}:List (κ×V)->List (κ×Value)->Prop:=Paired fun(p:κ×V) (q:κ×Value)=>p.1=q.1/\RelV p.2 q.2
noncomputable def kV:Key->V
  | .inl i=>.int i
  | .inr x=>.str x
inductive HO where
  | lst (xs:List V)
  | tup (xs:List V)
  | dK (kvs:List (Key×V)) | dT (kvs:List (List Key×V))
  | set (S:Int->Bool) (n:Nat)
  | ins (C dx:Addr) (fs:List (Str×V))
  | own (x:Addr)
  | xd (fs:List (Str×V))
  | met (f x:Addr)
  | rng (lo hi:Int)
  | frz (o:Obj) (u:HO)
  | tbl (ps:Array Value)
  | ext (φ:Heap->Prop)
noncomputable abbrev Hp:=Addr->Option HO
noncomputable def upd (H:Hp)(a:Addr)(o:HO):Hp:=fun b=>if b=a then some o else H b
theorem upd_same {H:Hp}{a:Addr}{o:HO}:upd H a o a=some o:=by unfold upd;rw [if_pos rfl]
theorem upd_ne {H:Hp}{a b:Addr}{o:HO}(h:b≠a):upd H a o b=H b:=by unfold upd;rw [if_neg h]
theorem upd_upd {H:Hp}{a:Addr}{o u:HO}:upd (upd H a o) a u=upd H a u:=by
  funext b;unfold upd;split<;>rfl
theorem ne_of {H:Hp}{a b:Addr}{o u:HO}(h:H a=some o)(h':H b=some u)(d:o≠u):a≠b:=by
  intro e;subst e;rw [h] at h';exact d (Option.some.inj h')
theorem ne_of_none {H:Hp}{a b:Addr}{o:HO}(h:H a=some o)(h':H b=none):a≠b:=by
  intro e;subst e;rw [h] at h';cases h'
section
variable (P:Program) (w:World)
noncomputable def ObjOk (H:Hp)(h:Heap)(a:Addr):HO->Prop
  | .lst xs=>xs.length<=sizeLine/\∃ (its:List Value) (n:Nat),Vals xs its/\h.get? a=some { cls:=.type "list",data:=.seq its.toArray n }
  | .tup xs=>xs.length<=sizeLine/\∃ its:List Value,Vals xs its/\IsTup h a its.toArray
  | .dK kvs=>kvs.length<=sizeLine/\(a == sysModules)=false/\∃ vs,KV kvs vs/\h.DictOf (mixKind P w) a vs
  | .dT kvs=>kvs.length<=sizeLine/\(a == sysModules)=false/\∃ xs:List (List Key×Addr×Value),
      Paired (fun(p:List Key×V) (q:List Key×Addr×Value)=>p.1=q.1/\H q.2.1=some (.tup (p.1.map kV))/\RelV p.2 q.2.2) kvs xs /\
      ∃ o es ep,h.get? a=some o/\o.ExactDict/\o.data=.dict es ep/\es.toList=xs.map (entryOfKey (tupleKind (mixKind P w)))/\(xs.map (·.1)).Nodup
  | .set S n=>h.SetOf (intKind P w) a S n
  | .ins C dx fs=>H dx=some (.own a)/\fs.length<=1000/\dx≠a/\h.get? a=some (PySem.W.instObj C dx) /\
      ∃ mA,h.Ns1 dx mA/\(∀ f,RelO (fs.lookup f) (mA f))/\PySem.Within mA (fs.map (·.1))
  | .own _=>∃ o,h.get? a=some o
  | .xd fs=>∃ mA,h.Ns1 a mA/\∀ f,RelO (fs.lookup f) (mA f)
  | .rng lo hi=>∃ t u v,h.get? a=some { cls:=.type "range",data:=.fields #[.int lo t,.int hi u,.int 1 v] }
  | .frz o u=>h.get? a=some o/\ObjOk H h a u
  | .tbl ps=>h.get? a=some { cls:=.none,data:=.fields ps }
  | .met f x=>h.get? a=some (PySem.W.methodObj (.ref f) (.ref x))
  | .ext φ=>φ h/\(∃ o,h.get? a=some o)/\∀ h1 h2:Heap,φ h1->(∀ o,h1.get? a=some o->h2.get? a=some o)->φ h2
def HOk (H:Hp)(h:Heap):Prop:=∀ a o,H a=some o->ObjOk P w H h a o
end
section
variable {P:Program} {w:World} {H H':Hp} {h h':Heap} {a:Addr} {o:HO}
theorem ObjOk.lt (x:ObjOk P w H h a o):a<h.objs.size:=by
  cases o with
  | lst xs=>obtain⟨_,_,_,_,e⟩:=x;exact Heap.lt_size e
  | tup xs=>obtain⟨_,_,_,p⟩:=x;exact p.lt
  | dK kvs=>obtain⟨_,_,_,_,o,_,_,e,_⟩:=x;exact Heap.lt_size e
  | dT kvs=>obtain⟨_,_,_,_,o,_,_,e,_⟩:=x;exact Heap.lt_size e
  | set S n=>obtain⟨o,_,_,_,e,_⟩:=x;exact Heap.lt_size e
  | ins C dx fs=>obtain⟨_,_,_,e,_⟩:=x;exact Heap.lt_size e
  | own y=>obtain⟨_,e⟩:=x;exact Heap.lt_size e
  | xd fs=>obtain⟨_,⟨_,_,_,e,_⟩,_⟩:=x;exact Heap.lt_size e
  | rng lo hi=>obtain⟨_,_,_,e⟩:=x;exact Heap.lt_size e
  | frz ob u=>obtain⟨e,_⟩:=x;exact Heap.lt_size e
  | tbl ps=>exact Heap.lt_size (show h.get? a=some _ from x)
  | met f y=>exact Heap.lt_size (show h.get? a=some _ from x)
  | ext φ=>obtain⟨_,⟨_,e⟩,_⟩:=x;exact Heap.lt_size e
theorem Paired.mapP {α β:Type}{F G:α->β->Prop}:∀ {l₁:List α} {l₂:List β},Paired F l₁ l₂->(∀ a b,F a b->G a b)->Paired G l₁ l₂
  | _,_,.nil,_=>.nil
  | _,_,.cons r t,f=>.cons (f _ _ r) (Paired.mapP t f)
theorem ObjOk.stay (x:ObjOk P w H h a o)(k:∀ b u,(b=a\/H b=some (.own a))->h.get? b=some u->h'.get? b=some u)
    (ho:∀ b,H b=some (.own a)->H' b=some (.own a)) (ht:∀ b xs,H b=some (.tup xs)->H' b=some (.tup xs)):ObjOk P w H' h' a o:=by
  induction o with
  | lst xs=>obtain⟨z,its,n,r,e⟩:=x;exact⟨z,its,n,r,k _ _ (.inl rfl) e⟩
  | tup xs=>obtain⟨z,its,r,ob,e,c⟩:=x;exact⟨z,its,r,ob,k _ _ (.inl rfl) e,c⟩
  | dK kvs=>obtain⟨z,y,vs,r,ob,es,ep,e,c⟩:=x;exact⟨z,y,vs,r,ob,es,ep,k _ _ (.inl rfl) e,c⟩
  | dT kvs=>
    obtain⟨z,y,xs,r,ob,es,ep,e,c⟩:=x
    exact⟨z,y,xs,Paired.mapP r fun p q z=>⟨z.1,ht _ _ z.2.1,z.2.2⟩,ob,es,ep,k _ _ (.inl rfl) e,c⟩
  | set S n=>obtain⟨ob,es,ep,t,e,c⟩:=x;exact⟨ob,es,ep,t,k _ _ (.inl rfl) e,c⟩
  | ins C dx fs=>
    obtain⟨d,z,ne,e,mA,⟨od,es,ep,e2,c⟩,r⟩:=x
    exact⟨ho _ d,z,ne,k _ _ (.inl rfl) e,mA,⟨od,es,ep,k _ _ (.inr d) e2,c⟩,r⟩
  | own y=>obtain⟨ob,e⟩:=x;exact⟨ob,k _ _ (.inl rfl) e⟩
  | xd fs=>obtain⟨mA,⟨od,es,ep,e,c⟩,r⟩:=x;exact⟨mA,⟨od,es,ep,k _ _ (.inl rfl) e,c⟩,r⟩
  | rng lo hi=>obtain⟨t,u,v,e⟩:=x;exact⟨t,u,v,k _ _ (.inl rfl) e⟩
  | frz ob u ih=>obtain⟨e,q⟩:=x;exact⟨k _ _ (.inl rfl) e,ih q⟩
  | tbl ps=>
    have e:h.get? a=some { cls:=.none,data:=.fields ps }:=x
    show h'.get? a=some { cls:=.none,data:=.fields ps }
    exact k a _ (.inl rfl) e
  | met f y=>
    have e:h.get? a=some (PySem.W.methodObj (.ref f) (.ref y)):=x
    show h'.get? a=some (PySem.W.methodObj (.ref f) (.ref y))
    exact k a _ (.inl rfl) e
  | ext φ=>obtain⟨p,⟨o,e⟩,st⟩:=x;exact⟨st _ _ p fun o q=>k _ _ (.inl rfl) q,⟨o,k _ _ (.inl rfl) e⟩,st⟩
theorem HOk.lt (x:HOk P w H h)(e:H a=some o):a<h.objs.size:=(x a o e).lt
theorem HOk.fresh (x:HOk P w H h)(e:h.objs.size<=a):H a=none:=by
  cases q:H a with
  | none=>rfl
  | some u=>exact absurd (Nat.lt_of_lt_of_le (x.lt q) e) (Nat.lt_irrefl _)
theorem HOk.kept (x:HOk P w H h)(k:∀ b u,h.get? b=some u->h'.get? b=some u):HOk P w H h':=fun a o e=>
  (x a o e).stay (fun b u _ q=>k b u q) (fun _ q=>q) fun _ _ q=>q
theorem HOk.laid (x:HOk P w H h)(k:∀ b u,h.get? b=some u->h'.get? b=some u)(hp:h.objs.size<=a)(new:ObjOk P w (upd H a o) h' a o):HOk P w (upd H a o) h':=fun b u e=>by
  have hn:=x.fresh hp
  by_cases hb:b=a
  · subst hb;rw [upd_same] at e;cases e;exact new
  · rw [upd_ne hb] at e
    exact(x b u e).stay (fun c v _ q=>k c v q) (fun c q=>by rw [upd_ne (ne_of_none q hn)];exact q) fun c xs q=>by rw [upd_ne (ne_of_none q hn)];exact q
end
def Rd (H:Hp)(a:Addr)(u:HO):Prop:=H a=some u\/∃ o,H a=some (.frz o u)
theorem Rd.of {H:Hp}{a:Addr}{u:HO}(h:H a=some u):Rd H a u:=.inl h
theorem Rd.ok {P:Program}{w:World}{H:Hp}{h:Heap}{a:Addr}{u:HO}(r:Rd H a u)(x:HOk P w H h):ObjOk P w H h a u:=by
  rcases r with r | ⟨o,r⟩
  · exact x a u r
  · obtain⟨_,q⟩:=x a _ r
    exact q
noncomputable def Mut:Option HO->Prop
  | some (.lst _)=>True
  | some (.dK _)=>True
  | some (.dT _)=>True
  | some (.set _ _)=>True
  | some (.ins _ _ _)=>True
  | some (.ext _)=>True
  | _=>False
section
variable {P:Program} {w:World} {H:Hp} {h h':Heap} {x e:Addr} {o':HO}
theorem HOk.write (ok:HOk P w H h)(mu:Mut (H x))(he:e=x\/H e=some (.own x))(k:∀ b u,b≠e->h.get? b=some u->h'.get? b=some u)(heo:∃ u,h'.get? e=some u)
    (new:ObjOk P w (upd H x o') h' x o'):HOk P w (upd H x o') h':=fun b u q=>by
  have nown:∀ c y,H c=some (.own y)->c≠x:=fun c y r z=>by subst z;rw [r] at mu;exact mu
  have ntup:∀ c xs,H c=some (.tup xs)->c≠x:=fun c xs r z=>by subst z;rw [r] at mu;exact mu
  by_cases hb:b=x
  · subst hb;rw [upd_same] at q;cases q;exact new
  · rw [upd_ne hb] at q
    by_cases hbe:b=e
    · have q':H b=some (.own x):=by
        rcases he with z | z
        · exact absurd (hbe.trans z) hb
        · rw [hbe];exact z
      rw [q] at q';cases q'
      obtain⟨v,hv⟩:=heo
      exact⟨v,by rw [hbe];exact hv⟩
    · refine(ok b u q).stay (fun c v hc r=>k c v ?_ r) (fun c r=>by rw [upd_ne (nown c b r)];exact r) fun c xs r=>by rw [upd_ne (ntup c xs r)];exact r
      rcases hc with rfl | hc
      · exact hbe
      · rintro rfl
        rcases he with z | z
        · exact nown c b hc z
        · rw [hc] at z;cases z;exact hb rfl
end
structure Un (fs ex:List Addr)(H H':Hp)(h h':Heap):Prop where
  keep:∀ b o,h.get? b=some o->H b=none->b∉fs->b∉ex->h'.get? b=some o
  slot:∀ b o,h.get? b=some o->H b=none->b∈fs->b∉ex->∃ sl,h'.get? b=some { o with slots:=sl }
  free:∀ b o,h.get? b=some o->H b=none->b∉ex->H' b=none
  there:∀ b o,h.get? b=some o->b∉ex->∃ o',h'.get? b=some o'
  tups:∀ b xs,H b=some (.tup xs)->H' b=some (.tup xs)
  frzs:∀ b o u,H b=some (.frz o u)->H' b=some (.frz o u)
  tbls:∀ b ps,H b=some (.tbl ps)->∃ more,H' b=some (.tbl (ps++more))
section
variable {fs fs' ex ex':List Addr} {H H1 H2:Hp} {h h1 h2 h':Heap} {a x e:Addr} {o:HO}
theorem Un.any (u:Un fs ex H H1 h h1){b:Addr}{ob:Obj}(q:h.get? b=some ob)(n:H b=none)(hx:b∉ex):∃ sl,h1.get? b=some { ob with slots:=sl }:=by
  by_cases hb:b∈fs
  · exact u.slot b ob q n hb hx
  · exact⟨ob.slots,u.keep b ob q n hb hx⟩
theorem Un.trans (a:Un fs ex H H1 h h1)(b:Un fs ex H1 H2 h1 h2):Un fs ex H H2 h h2 where
  keep:=fun c ob q n hc hx=>b.keep c ob (a.keep c ob q n hc hx) (a.free c ob q n hx) hc hx
  slot:=fun c ob q n hc hx=>by
    obtain⟨sl,e1⟩:=a.slot c ob q n hc hx
    obtain⟨sl',e2⟩:=b.slot c _ e1 (a.free c ob q n hx) hc hx
    exact⟨sl',e2⟩
  free:=fun c ob q n hx=>by
    obtain⟨o',e1⟩:=a.there c ob q hx
    exact b.free c o' e1 (a.free c ob q n hx) hx
  there:=fun c ob q hx=>by
    obtain⟨o',e1⟩:=a.there c ob q hx
    exact b.there c o' e1 hx
  tups:=fun c xs q=>b.tups c xs (a.tups c xs q)
  frzs:=fun c ob xs q=>b.frzs c ob xs (a.frzs c ob xs q)
  tbls:=fun c ps q=>by
    obtain⟨m1,e1⟩:=a.tbls c ps q
    obtain⟨m2,e2⟩:=b.tbls c _ e1
    exact⟨m1++m2,by rw [e2,Array.append_assoc]⟩
theorem Un.kept (k:∀ b u,h.get? b=some u->h'.get? b=some u):Un fs ex H H h h':=
  ⟨fun b ob q _ _ _=>k b ob q,fun b ob q _ _ _=>⟨ob.slots,k b ob q⟩,fun _ _ _ n _=>n,fun b ob q _=>⟨ob,k b ob q⟩,fun _ _ q=>q,fun _ _ _ q=>q,fun _ ps q=>⟨#[],by rw [q];simp⟩⟩
theorem Un.refl:Un fs ex H H h h:=Un.kept fun _ _ q=>q
theorem Un.laid (k:∀ b u,h.get? b=some u->h'.get? b=some u)(hp:h.objs.size<=a)(hn:H a=none):Un fs ex H (upd H a o) h h' where
  keep:=fun b u q _ _ _=>k b u q
  slot:=fun b u q _ _ _=>⟨u.slots,k b u q⟩
  free:=fun b u q n _=>by rw [upd_ne (Nat.ne_of_lt (Nat.lt_of_lt_of_le (Heap.lt_size q) hp))];exact n
  there:=fun b u q _=>⟨u,k b u q⟩
  tups:=fun b xs q=>by rw [upd_ne (ne_of_none q hn)];exact q
  frzs:=fun b u xs q=>by rw [upd_ne (ne_of_none q hn)];exact q
  tbls:=fun b ps q=>⟨#[],by rw [upd_ne (ne_of_none q hn),q];simp⟩
theorem Un.write (mu:Mut (H x))(he:e=x\/H e=some (.own x))(k:∀ b u,b≠e->h.get? b=some u->h'.get? b=some u)(heo:∃ u,h'.get? e=some u):Un fs ex H (upd H x o) h h':=by
  have hx:∀ b,H b=none->b≠x:=fun b n z=>by subst z;rw [n] at mu;exact mu
  have hb:∀ b,H b=none->b≠e:=fun b n z=>by
    subst z
    rcases he with r | r
    · exact hx b n r
    · rw [n] at r;cases r
  have hm:∀ b u,H b=some u->¬ Mut (some u)->b≠x:=fun b u q nm z=>by subst z;rw [q] at mu;exact nm mu
  refine⟨fun b u q n _ _=>k b u (hb b n) q,fun b u q n _ _=>⟨u.slots,k b u (hb b n) q⟩,fun b u q n _=>by rw [upd_ne (hx b n)];exact n,fun b u q _=>?_,
    fun b xs q=>by rw [upd_ne (hm b _ q fun z=>z)];exact q,fun b u xs q=>by rw [upd_ne (hm b _ q fun z=>z)];exact q,fun b ps q=>⟨#[],by rw [upd_ne (hm b _ q fun z=>z),q];simp⟩⟩
  by_cases hbe:b=e
  · subst hbe;exact heo
  · exact⟨u,k b u hbe q⟩
theorem Un.mono (u:Un fs ex H H1 h h1)(hs:∀ b∈fs,b∈fs')(hx:∀ b∈ex,b∈ex'):Un fs' ex' H H1 h h1:=
  ⟨fun b ob q n hb he=>u.keep b ob q n (fun z=>hb (hs b z)) fun z=>he (hx b z),fun _ _ q n _ he=>u.any q n fun z=>he (hx _ z),fun b ob q n he=>u.free b ob q n fun z=>he (hx b z),fun b ob q he=>u.there b ob q fun z=>he (hx b z),u.tups,u.frzs,u.tbls⟩
end
noncomputable def trk (h:Heap)(H:Hp):List Addr:=(List.range h.objs.size).filter fun a=>(H a).isSome
noncomputable def hidT (h:Heap)(H:Hp):Heap:=PySem.W.hideAll h (trk h H)
theorem hidT_size (h:Heap)(H:Hp):(hidT h H).objs.size=h.objs.size:=PySem.W.hideAll_size _ _
theorem hidT_get {h:Heap}{H:Hp}{b:Addr}{o:Obj}(e:h.get? b=some o)(n:H b=none):(hidT h H).get? b=some o:=
  PySem.W.hideAll_get _ e fun hm=>by
    have q:(H b).isSome=true:=(List.mem_filter.mp hm).2
    rw [n] at q;simp at q
theorem of_hidT {h:Heap}{H:Hp}{b:Addr}{o:Obj}(e:(hidT h H).get? b=some o):h.get? b=some o/\H b=none:=by
  have e':h.get? b=some o:=PySem.W.of_hideAll (trk h H) e
  refine⟨e',?_⟩
  cases q:H b with
  | none=>rfl
  | some x=>
    have hm:b∈trk h H:=List.mem_filter.mpr ⟨List.mem_range.mpr (Heap.lt_size e'),by simp [q]⟩
    have z:(hidT h H).get? b=none:=PySem.W.hideAll_none (trk h H) hm
    rw [z] at e;cases e
noncomputable def allNews (g h:Heap)(L:Addr):List (Addr×Obj):=(List.range h.objs.size).filterMap fun a=>if a=L\/(g.get? a).isSome=true then none else(h.get? a).map fun o=>(a,o)
noncomputable def rest (g h:Heap)(L d:Addr):List (Addr×Obj):=(allNews g h L).filter fun p=>decide (p.1≠d)
end L2
namespace L2
open PySem PySem.Spec PyProof.Rows
structure Mod (K:PySem.W.Frag)(mg:Str->Option Value)(base:Heap):Prop where
  kin:K.In base
  glob:base.Ns mainGlobals mg
  blt:∃ mb,base.Ns builtinsNs mb/\∀ x:Str,x≠"__name__"->mb x=bootBuiltins x
  nolimit:base.NoLimit
structure Cx where
  prog:Program
  w:World
  K:PySem.W.Frag
  mg:Str->Option Value
  base:Heap
  A:Around
  N:List Str
  s₀:Shared
  H₀:Hp
  env:Env
  outer:List Env
  stack:List Env
  ex:List Addr
  fn:Str->Bool
  calm:Bool
  pn:List (Addr×Obj)
  xe:Value->Shared->Prop
noncomputable def frs (l:List Env):List Addr:=l.filterMap (·.frame)
noncomputable abbrev Cx.fs (X:Cx):List Addr:=frs X.outer
def Vis (sc:Scope)(x:Str):Prop:=sc.names.lookup x=some .local\/sc.names.lookup x=some .cell\/sc.names.lookup x=some .free
def Loc (sc:Scope)(x:Str):Prop:=sc.names.lookup x=some .local\/sc.names.lookup x=some .cell
def Look (env:Env)(h:Heap)(m:Str->Option Value)(x:Str)(u:Value):Prop:=
  (env.kindOf x=some .local/\m x=some u)\/((env.kindOf x=some .cell\/env.kindOf x=some .free)/\∃ c,env.cells.lookup x=some c/\h.IsCell c (some u))
structure Cx.Ok (X:Cx):Prop where
  mod:Mod X.K X.mg X.base
  kind:X.env.scope.kind=.function
  glob:X.env.globals=mainGlobals
  blt:X.env.builtins=builtinsNs
  above:X.s₀.heap.objs.size<=X.env.locals
  inj:∀ x y c,X.env.cells.lookup x=some c->X.env.cells.lookup y=some c->x=y
  has:∀ x,(X.env.kindOf x=some .cell\/X.env.kindOf x=some .free)->∃ c,X.env.cells.lookup x=some c
  cab:∀ x c,X.fn x=true->X.env.cells.lookup x=some c->X.s₀.heap.objs.size<=c
  hd:X.calm=true->X.A.handled=none
  frames:X.A.frames=some X.stack
  stk:X.stack=X.outer\/(X.stack=X.env::X.outer/\X.env.frame=some X.env.locals)
  exf:∀ b∈X.ex,b≠X.env.locals/\∀ x c,X.env.cells.lookup x=some c->c≠b
  bs:∀ b o,X.base.get? b=some o->X.s₀.heap.get? b=some o/\X.H₀ b=none
  bsz:X.base.objs.size<=X.s₀.heap.objs.size
  noex:∀ b o,X.base.get? b=some o->b∉X.ex
  exfs:∀ b∈X.ex,b∉X.fs
  funs:X.s₀.heap.FunFrames X.base X.outer
  frf:∀ b∈X.fs,X.H₀ b=none
structure Inv (X:Cx)(pins:List (Addr×Obj))(σ:List (Option V))(H:Hp)(s:Shared):Prop where
  ok:X.Ok
  os:s.os=X.s₀.os
  bare:AllBare s.gens
  base:Un X.fs X.ex X.H₀ H X.s₀.heap s.heap
  loc:∃ m,s.heap.Ns X.env.locals m/\∀ (i:Nat) (x:Str) (v:V),X.N[i]? = some x->σ[i]? = some (some v)->Vis X.env.scope x->∃ u,RelV v u/\Look X.env s.heap m x u
  cell:∀ x c,X.env.cells.lookup x=some c->∃ v,s.heap.IsCell c v
  free:H X.env.locals=none
  freeC:∀ x c,X.env.cells.lookup x=some c->H c=none
  pin:∀ p∈X.pn++pins,s.heap.get? p.1=some p.2/\H p.1=none/\p.1≠X.env.locals/\p.1∉X.fs/\∀ v,p.2.data≠.cell v
  hok:HOk X.prog X.w H s.heap
  len:σ.length=X.N.length
section
variable {X:Cx} {pins:List (Addr×Obj)} {σ:List (Option V)} {H H':Hp} {s:Shared} {h':Heap}
theorem Cx.Ok.nofr (ok:X.Ok){b:Addr}{o:Obj}(e:X.base.get? b=some o):b∉X.fs:=fun hb=>by
  have:=(ok.funs.mem hb).1
  rw [e] at this;cases this
theorem Inv.bs (I:Inv X pins σ H s):∀ b o,X.base.get? b=some o->s.heap.get? b=some o/\H b=none:=fun b o e=>
  ⟨I.base.keep b o (I.ok.bs b o e).1 (I.ok.bs b o e).2 (I.ok.nofr e) (I.ok.noex b o e),I.base.free b o (I.ok.bs b o e).1 (I.ok.bs b o e).2 (I.ok.noex b o e)⟩
theorem Inv.bk (I:Inv X pins σ H s):∀ b o,X.base.get? b=some o->s.heap.get? b=some o:=fun b o e=>(I.bs b o e).1
theorem Inv.mod (I:Inv X pins σ H s):Mod X.K X.mg X.base:=I.ok.mod
theorem Inv.kIn (I:Inv X pins σ H s):X.K.In s.heap:=I.ok.mod.kin.keeps I.bk
theorem Inv.nolimit (I:Inv X pins σ H s):s.heap.NoLimit:=I.ok.mod.nolimit.keeps I.bk
theorem Inv.lt (I:Inv X pins σ H s):X.env.locals<s.heap.objs.size:=let ⟨_,hn,_⟩:=I.loc;hn.lt
theorem Inv.sz (I:Inv X pins σ H s):X.s₀.heap.objs.size<=s.heap.objs.size:=Nat.le_trans I.ok.above (Nat.le_of_lt I.lt)
theorem Inv.nofs (I:Inv X pins σ H s){a:Addr}(h:s.heap.objs.size<=a):a∉X.fs:=fun hb=>by
  obtain⟨_,o,ho,_⟩:=I.ok.funs.mem hb
  exact absurd (Nat.lt_of_lt_of_le (Heap.lt_size ho) (Nat.le_trans I.sz h)) (Nat.lt_irrefl _)
theorem Inv.cne (I:Inv X pins σ H s):∀ x c,X.env.cells.lookup x=some c->c≠X.env.locals:=fun x c e z=>by
  obtain⟨v,o,ho,hd⟩:=I.cell x c e
  obtain⟨m,⟨o',es,ep,ho',hd',_⟩,_⟩:=I.loc
  rw [z,ho'] at ho;cases ho;rw [hd'] at hd;cases hd
theorem Inv.funs (I:Inv X pins σ H s):s.heap.FunFrames X.base X.outer:=by
  have all:∀ (l:List Env),(∀ b∈frs l,b∈X.fs)->X.s₀.heap.FunFrames X.base l->s.heap.FunFrames X.base l:=by
    intro l
    induction l with
    | nil=>intro _ _;trivial
    | cons env r ih=>
      intro hs hl
      obtain⟨hk,⟨L,o,hf,hn,ho,hd⟩,hr⟩:=hl
      have hL:L∈X.fs:=hs L (by unfold frs;rw [List.filterMap_cons,hf];exact List.mem_cons_self)
      obtain⟨sl,e⟩:=I.base.slot L o ho (I.ok.frf L hL) hL fun z=>I.ok.exfs L z hL
      exact⟨hk,⟨L,_,hf,hn,e,hd⟩,ih (fun b hb=>hs b (by unfold frs;rw [List.filterMap_cons,hf];exact List.mem_cons_of_mem _ hb)) hr⟩
  exact all X.outer (fun _ hb=>hb) I.ok.funs
theorem Inv.stack (I:Inv X pins σ H s):s.heap.FunFrames X.base X.stack:=by
  rcases I.ok.stk with e | ⟨e,hf⟩
  · rw [e];exact I.funs
  · rw [e]
    obtain⟨m,hn,_⟩:=I.loc
    refine .cons (by rw [I.ok.kind];decide) hf hn ?_ I.funs
    exact Heap.get?_none_of_le (Nat.le_trans I.ok.bsz I.ok.above)
theorem Inv.stkSub (I:Inv X pins σ H s):∀ b∈frs X.stack,b∈X.env.locals::X.fs:=fun b hb=>by
  rcases I.ok.stk with e | ⟨e,hf⟩
  · rw [e] at hb;exact List.mem_cons_of_mem _ hb
  · rw [e] at hb
    unfold frs at hb
    rw [List.filterMap_cons,hf] at hb
    exact hb
theorem Inv.stkFree (I:Inv X pins σ H s):∀ b∈frs X.stack,H b=none:=fun b hb=>by
  rcases List.mem_cons.mp (I.stkSub b hb) with e | hb
  · rw [e];exact I.free
  · obtain⟨_,o,ho,_⟩:=I.ok.funs.mem hb
    exact I.base.free b o ho (I.ok.frf b hb) fun z=>I.ok.exfs b z hb
theorem Inv.step {g':Array GenState}{t':Nat}{d':Drawn}{ch:List Addr}(I:Inv X pins σ H s)
    (hch:∀ b∈ch,(b∈X.ex\/X.s₀.heap.objs.size<=b)/\b≠X.env.locals/\(∀ x c,X.env.cells.lookup x=some c->c≠b)/\∀ p∈X.pn++pins,p.1≠b)
    (keep:∀ b o,b≠X.env.locals->b∉X.fs->b∉ch->s.heap.get? b=some o->H b=none->h'.get? b=some o)
    (slot:∀ b o,b≠X.env.locals->b∈X.fs->b∉ch->s.heap.get? b=some o->H b=none->∃ sl,h'.get? b=some { o with slots:=sl }) (free:∀ b o,b∉ch->s.heap.get? b=some o->H b=none->H' b=none)
    (there:∀ b o,b∉ch->s.heap.get? b=some o->∃ o',h'.get? b=some o')
    (tups:∀ b xs,H b=some (.tup xs)->H' b=some (.tup xs)) (frzs:∀ b o u,H b=some (.frz o u)->H' b=some (.frz o u)) (tbls:∀ b ps,H b=some (.tbl ps)->∃ more,H' b=some (.tbl (ps++more)))
    (ns:∀ m,s.heap.Ns X.env.locals m->h'.Ns X.env.locals m) (hok:HOk X.prog X.w H' h') (hg:AllBare g') :
    Inv X pins σ H' { s with heap:=h',gens:=g',drawn:=d',toks:=t' }:=by
  have neL:∀ b o,X.s₀.heap.get? b=some o->b≠X.env.locals:=fun b o e=>Nat.ne_of_lt (Nat.lt_of_lt_of_le (Heap.lt_size e) I.ok.above)
  have neC:∀ b o,X.s₀.heap.get? b=some o->b∉X.ex->b∉ch:=fun b o e hx hb=>by
    rcases(hch b hb).1 with z | z
    · exact hx z
    · exact absurd (Nat.lt_of_lt_of_le (Heap.lt_size e) z) (Nat.lt_irrefl _)
  have cellK:∀ x c,X.env.cells.lookup x=some c->∀ v,s.heap.IsCell c v->h'.IsCell c v:=fun x c e v ⟨o,ho,hd⟩=>by
    have nch:c∉ch:=fun z=>(hch c z).2.2.1 x c e rfl
    by_cases hc:c∈X.fs
    · obtain⟨sl,q⟩:=slot c o (I.cne x c e) hc nch ho (I.freeC x c e)
      exact⟨_,q,hd⟩
    · exact⟨o,keep c o (I.cne x c e) hc nch ho (I.freeC x c e),hd⟩
  refine⟨I.ok,I.os,hg,⟨fun b o e n hb hx=>?_,fun b o e n hb hx=>?_,fun b o e n hx=>?_,fun b o e hx=>?_,fun b xs e=>tups b xs (I.base.tups b xs e),fun b o xs e=>frzs b o xs (I.base.frzs b o xs e),fun b ps e=>?_⟩,?_,fun x c e=>?_,?_,fun x c e=>?_,fun p hp=>?_,hok,I.len⟩
  · exact keep b o (neL b o e) hb (neC b o e hx) (I.base.keep b o e n hb hx) (I.base.free b o e n hx)
  · obtain⟨sl,e1⟩:=I.base.slot b o e n hb hx
    obtain⟨sl',e2⟩:=slot b _ (neL b o e) hb (neC b o e hx) e1 (I.base.free b o e n hx)
    exact⟨sl',e2⟩
  · obtain⟨o',e1⟩:=I.base.there b o e hx
    exact free b o' (neC b o e hx) e1 (I.base.free b o e n hx)
  · obtain⟨o',e1⟩:=I.base.there b o e hx
    exact there b o' (neC b o e hx) e1
  · obtain⟨m1,e1⟩:=I.base.tbls b ps e
    obtain⟨m2,e2⟩:=tbls b _ e1
    exact⟨m1++m2,by rw [e2,Array.append_assoc]⟩
  · obtain⟨m,hn,hl⟩:=I.loc
    refine⟨m,ns m hn,fun i x v e1 e2 e3=>?_⟩
    obtain⟨u,r,l⟩:=hl i x v e1 e2 e3
    refine⟨u,r,?_⟩
    rcases l with l | ⟨k,c,e,z⟩
    · exact .inl l
    · exact .inr ⟨k,c,e,cellK x c e _ z⟩
  · obtain⟨v,z⟩:=I.cell x c e
    exact⟨v,cellK x c e v z⟩
  · obtain⟨m,⟨o,_,_,ho,_⟩,_⟩:=I.loc
    exact free _ o (fun z=>(hch _ z).2.1 rfl) ho I.free
  · obtain⟨v,o,ho,hd⟩:=I.cell x c e
    exact free c o (fun z=>(hch c z).2.2.1 x c e rfl) ho (I.freeC x c e)
  · obtain⟨e,n,ne,nf,d⟩:=I.pin p hp
    have nch:p.1∉ch:=fun z=>(hch p.1 z).2.2.2 p hp rfl
    exact⟨keep p.1 p.2 ne nf nch e n,free p.1 p.2 nch e n,ne,nf,d⟩
theorem Inv.un {t':Nat}(I:Inv X pins σ H s)(u:Un X.fs [] H H' s.heap h')(hok:HOk X.prog X.w H' h'):Inv X pins σ H' { s with heap:=h',toks:=t' }:=by
  obtain⟨m,⟨o,es,ep,ho,r⟩,_⟩:=id I.loc
  obtain⟨sl,hL⟩:=u.any ho I.free (by simp)
  exact I.step (g':=s.gens) (d':=s.drawn) (ch:=[]) (fun _ z=>nomatch z) (fun b o _ hb _ e n=>u.keep b o e n hb (by simp)) (fun b o _ hb _ e n=>u.slot b o e n hb (by simp)) (fun b o _ e n=>u.free b o e n (by simp)) (fun b o _ e=>u.there b o e (by simp)) u.tups u.frzs u.tbls (fun m' hm=>by
    obtain⟨o',es',ep',ho',r'⟩:=hm
    rw [ho] at ho';cases ho'
    exact⟨_,es',ep',hL,r'⟩) hok I.bare
theorem Inv.call {g':Array GenState}{t':Nat}{d':Drawn}{ch:List Addr}(I:Inv X pins σ H s)(u:Un (frs X.stack) ch H H' s.heap h')(hok:HOk X.prog X.w H' h')(hg:AllBare g')
    (hch:∀ b∈ch,(b∈X.ex\/X.s₀.heap.objs.size<=b)/\b≠X.env.locals/\(∀ x c,X.env.cells.lookup x=some c->c≠b)/\∀ p∈X.pn++pins,p.1≠b) :
    Inv X pins σ H' { s with heap:=h',gens:=g',drawn:=d',toks:=t' }:=by
  obtain⟨m,⟨o,es,ep,ho,r⟩,_⟩:=id I.loc
  obtain⟨sl,hL⟩:=u.any ho I.free fun z=>(hch _ z).2.1 rfl
  exact I.step (ch:=ch) hch (fun b o hL hb hc e n=>u.keep b o e n (fun z=>(List.mem_cons.mp (I.stkSub b z)).elim hL hb) hc) (fun b o _ _ hc e n=>u.any e n hc) (fun b o hc e n=>u.free b o e n hc) (fun b o hc e=>u.there b o e hc) u.tups u.frzs u.tbls (fun m' hm=>by
    obtain⟨o',es',ep',ho',r'⟩:=hm
    rw [ho] at ho';cases ho'
    exact⟨_,es',ep',hL,r'⟩) hok hg
theorem Inv.turned {t':Nat}{it:Addr}(I:Inv X pins σ H s)(k:∀ b o,b≠it->s.heap.get? b=some o->h'.get? b=some o)(hn:H it=none)(hL:it≠X.env.locals)
    (h1:it∈X.ex\/X.s₀.heap.objs.size<=it) (h2:∀ x c,X.env.cells.lookup x=some c->c≠it) (h3:∀ p∈X.pn++pins,p.1≠it):Inv X pins σ H { s with heap:=h',toks:=t' }:=by
  have nit:∀ b u,H b=some u->b≠it:=fun b u e z=>by rw [z,hn] at e;cases e
  refine I.step (g':=s.gens) (d':=s.drawn) (ch:=[it]) (fun b hb=>?_) (fun b o _ _ hc e _=>k b o (fun z=>hc (by simp [z])) e) (fun b o _ _ hc e _=>⟨o.slots,k b o (fun z=>hc (by simp [z])) e⟩) (fun _ _ _ _ n=>n)
    (fun b o hc e=>⟨o,k b o (fun z=>hc (by simp [z])) e⟩) (fun _ _ e=>e) (fun _ _ _ e=>e) (fun b ps e=>⟨#[],by rw [e];simp⟩) (fun m hm=>?_) (fun b u e=>?_) I.bare
  · have e:b=it:=by simpa using hb
    subst e
    exact⟨h1,hL,h2,h3⟩
  · obtain⟨o,es,ep,ho,r⟩:=hm
    exact⟨o,es,ep,k _ o (Ne.symm hL) ho,r⟩
  · refine(I.hok b u e).stay (fun c v hc q=>k c v ?_ q) (fun _ q=>q) fun _ _ q=>q
    rcases hc with z | z
    · rw [z];exact nit b u e
    · exact nit c _ z
theorem Inv.tok (I:Inv X pins σ H s)(t:Nat):Inv X pins σ H { s with toks:=t }:=I.un (h':=s.heap) (t':=t) Un.refl I.hok
theorem Inv.kept {t':Nat}(I:Inv X pins σ H s)(k:∀ b u,s.heap.get? b=some u->h'.get? b=some u):Inv X pins σ H { s with heap:=h',toks:=t' }:=I.un (Un.kept k) (I.hok.kept k)
theorem Inv.laid {a:Addr}{o:HO}{t':Nat}(I:Inv X pins σ H s)(k:∀ b u,s.heap.get? b=some u->h'.get? b=some u)(hp:s.heap.objs.size<=a)(new:ObjOk X.prog X.w (upd H a o) h' a o) :
    Inv X pins σ (upd H a o) { s with heap:=h',toks:=t' }:=I.un (Un.laid k hp (I.hok.fresh hp)) (I.hok.laid k hp new)
theorem Inv.write {x e:Addr}{o:HO}{t':Nat}(I:Inv X pins σ H s)(mu:Mut (H x))(he:e=x\/H e=some (.own x))(k:∀ b u,b≠e->s.heap.get? b=some u->h'.get? b=some u)(heo:∃ u,h'.get? e=some u)
    (new:ObjOk X.prog X.w (upd H x o) h' x o):Inv X pins σ (upd H x o) { s with heap:=h',toks:=t' }:=I.un (Un.write mu he k heo) (I.hok.write mu he k heo new)
theorem Inv.pins_of {pins':List (Addr×Obj)}(I:Inv X pins σ H s)(h:∀ p∈pins',s.heap.get? p.1=some p.2/\H p.1=none/\p.1≠X.env.locals/\p.1∉X.fs/\∀ v,p.2.data≠.cell v):Inv X pins' σ H s:=
  ⟨I.ok,I.os,I.bare,I.base,I.loc,I.cell,I.free,I.freeC,fun p hp=>(List.mem_append.mp hp).elim (fun z=>I.pin p (List.mem_append_left _ z)) (h p),I.hok,I.len⟩
theorem nodup_ix {N:List Str}(hN:N.Nodup){i j:Nat}{x:Str}(a:N[i]? = some x)(b:N[j]? = some x):i=j:=by
  obtain⟨h1,e1⟩:=List.getElem?_eq_some_iff.mp a
  obtain⟨h2,e2⟩:=List.getElem?_eq_some_iff.mp b
  exact(List.getElem_inj hN).mp (e1.trans e2.symm)
theorem store_ok2 {M:Model}{A:Around}{E:Value->Shared->Prop}{i:Nat}{x:Str}{v:V}{u:Value}{Q:Unit->Shared->Prop}(I:Inv X pins σ H s)(hN:X.N.Nodup)(hi:X.N[i]? = some x)(hx:Loc X.env.scope x)(r:RelV v u)
    (h:∀ s',Inv X pins (σ.set i (some v)) H s'->(∃ a,Heap.SameBut a s.heap s'.heap/\(a=X.env.locals\/X.env.cells.lookup x=some a))->Q () s') (hf:X.fn x=true\/X.env.scope.names.lookup x=some .local:=by first | exact .inl rfl | exact .inr rfl | assumption):wpAny M A (storeName X.env x u) Q E s:=by
  obtain⟨m,hn,hl⟩:=id I.loc
  have hcls:(X.env.scope.kind == .class||(X.env.scope.kind == .module&&X.env.locals != X.env.globals))=false:=by rw [I.ok.kind];rfl
  have hiσ:i<σ.length:=by rw [I.len];exact(List.getElem?_eq_some_iff.mp hi).1
  have cne:=I.cne
  have tracked:∀ {a:Addr} {h':Heap},(∃ o,s.heap.get? a=some o/\H a=none)->Heap.SameBut a s.heap h'->HOk X.prog X.w H h':=fun {a h'} ha hs b ob e=>by
    obtain⟨_,_,hfree⟩:=ha
    refine(I.hok b ob e).stay (fun c w' hc q=>(hs.2 c ?_).trans q) (fun _ q=>q) fun _ _ q=>q
    rintro rfl
    rcases hc with rfl | hc
    · rw [hfree] at e;cases e
    · rw [hfree] at hc;cases hc
  rcases hx with hk | hk
  · refine wpAny_storeName_local hk hn (fun h' hn' hs=>?_) hcls
    obtain⟨oL,_,_,hoL,_⟩:=id hn
    refine h _ ⟨I.ok,I.os,I.bare,⟨fun b o e n hb hx=>?_,fun b o e n hb hx=>?_,I.base.free,fun b o e hx=>?_,I.base.tups,I.base.frzs,I.base.tbls⟩,⟨_,hn',fun j y v' e1 e2 e3=>?_⟩,fun y c e=>?_,I.free,I.freeC,fun p hp=>?_,tracked ⟨oL,hoL,I.free⟩ hs,by simpa using I.len⟩ ⟨_,hs,.inl rfl⟩
    · exact(hs.2 b (Nat.ne_of_lt (Nat.lt_of_lt_of_le (Heap.lt_size e) I.ok.above))).trans (I.base.keep b o e n hb hx)
    · obtain⟨sl,e1⟩:=I.base.slot b o e n hb hx
      exact⟨sl,(hs.2 b (Nat.ne_of_lt (Nat.lt_of_lt_of_le (Heap.lt_size e) I.ok.above))).trans e1⟩
    · obtain⟨o',e1⟩:=I.base.there b o e hx
      exact⟨o',(hs.2 b (Nat.ne_of_lt (Nat.lt_of_lt_of_le (Heap.lt_size e) I.ok.above))).trans e1⟩
    · by_cases hj:j=i
      · subst hj
        rw [hi] at e1;cases e1
        rw [List.getElem?_set_self hiσ] at e2
        cases e2
        exact⟨u,r,.inl ⟨hk,by simp⟩⟩
      · rw [List.getElem?_set_ne (Ne.symm hj)] at e2
        obtain⟨u',r',q⟩:=hl j y v' e1 e2 e3
        refine⟨u',r',?_⟩
        rcases q with⟨k,e⟩ | ⟨k,c,e,z⟩
        · refine .inl ⟨k,?_⟩
          have:y≠x:=fun e=>hj (nodup_ix hN e1 (e ▸ hi))
          simp [this,e]
        · exact .inr ⟨k,c,e,z.sameBut hs (cne y c e)⟩
    · obtain⟨w',z⟩:=I.cell y c e
      exact⟨w',z.sameBut hs (cne y c e)⟩
    · obtain⟨e,n,ne,nf,d⟩:=I.pin p hp
      exact⟨(hs.2 p.1 ne).trans e,n,ne,nf,d⟩
  · have hfn:X.fn x=true:=by
      rcases hf with z | z
      · exact z
      · rw [z] at hk;cases hk
    obtain⟨c,hc⟩:=I.ok.has x (.inl hk)
    obtain⟨w',z⟩:=I.cell x c hc
    refine wpAny_storeName_cell I.ok.kind hk hc z (fun h' hc' hs=>?_)
    obtain⟨oc,hoc,hocd⟩:=id z
    refine h { s with heap:=h' } ⟨I.ok,I.os,I.bare,⟨fun b o e n hb hx=>?_,fun b o e n hb hx=>?_,I.base.free,fun b o e hx=>?_,I.base.tups,I.base.frzs,I.base.tbls⟩,⟨m,hn.sameBut hs (Ne.symm (cne x c hc)),fun j y v' e1 e2 e3=>?_⟩,fun y c' e=>?_,I.free,I.freeC,fun p hp=>?_,tracked ⟨oc,hoc,I.freeC x c hc⟩ hs,by simpa using I.len⟩ ⟨c,hs,.inr hc⟩
    · exact(hs.2 b (Nat.ne_of_lt (Nat.lt_of_lt_of_le (Heap.lt_size e) (I.ok.cab x c hfn hc)))).trans (I.base.keep b o e n hb hx)
    · obtain⟨sl,e1⟩:=I.base.slot b o e n hb hx
      exact⟨sl,(hs.2 b (Nat.ne_of_lt (Nat.lt_of_lt_of_le (Heap.lt_size e) (I.ok.cab x c hfn hc)))).trans e1⟩
    · obtain⟨o',e1⟩:=I.base.there b o e hx
      exact⟨o',(hs.2 b (Nat.ne_of_lt (Nat.lt_of_lt_of_le (Heap.lt_size e) (I.ok.cab x c hfn hc)))).trans e1⟩
    · by_cases hj:j=i
      · subst hj
        rw [hi] at e1;cases e1
        rw [List.getElem?_set_self hiσ] at e2
        cases e2
        exact⟨u,r,.inr ⟨.inl hk,c,hc,hc'⟩⟩
      · rw [List.getElem?_set_ne (Ne.symm hj)] at e2
        obtain⟨u',r',q⟩:=hl j y v' e1 e2 e3
        refine⟨u',r',?_⟩
        rcases q with q | ⟨k,c',e,z'⟩
        · exact .inl q
        · refine .inr ⟨k,c',e,z'.sameBut hs ?_⟩
          rintro rfl
          exact hj (nodup_ix hN e1 (I.ok.inj _ _ _ e hc ▸ hi))
    · by_cases hcc:c' = c
      · subst hcc;exact⟨_,hc'⟩
      · obtain⟨w2,z2⟩:=I.cell y c' e
        exact⟨w2,z2.sameBut hs hcc⟩
    · obtain⟨e,n,ne,nf,d⟩:=I.pin p hp
      refine⟨(hs.2 p.1 ?_).trans e,n,ne,nf,d⟩
      intro q
      rw [q,hoc] at e
      have q':oc=p.2:=Option.some.inj e
      exact d w' (by rw [← q'];exact hocd)
theorem store_ok {M:Model}{A:Around}{E:Value->Shared->Prop}{i:Nat}{x:Str}{v:V}{u:Value}{Q:Unit->Shared->Prop}(I:Inv X pins σ H s)(hN:X.N.Nodup)(hi:X.N[i]? = some x)(hx:Loc X.env.scope x)(r:RelV v u)
    (h:∀ s',Inv X pins (σ.set i (some v)) H s'->Q () s') (hf:X.fn x=true\/X.env.scope.names.lookup x=some .local:=by first | exact .inl rfl | exact .inr rfl | assumption):wpAny M A (storeName X.env x u) Q E s:=
  store_ok2 I hN hi hx r (fun s' I' _=>h s' I') hf
theorem Inv.call' {s':Shared}{ch:List Addr}(I:Inv X pins σ H s)(ho:s'.os=s.os)(u:Un (frs X.stack) ch H H' s.heap s'.heap)(hok:HOk X.prog X.w H' s'.heap)(hg:AllBare s'.gens)
    (hch:∀ b∈ch,(b∈X.ex\/X.s₀.heap.objs.size<=b)/\b≠X.env.locals/\(∀ x c,X.env.cells.lookup x=some c->c≠b)/\∀ p∈X.pn++pins,p.1≠b):Inv X pins σ H' s':=by
  obtain⟨h',g',d',t',o'⟩:=s'
  have e:o' = s.os:=ho
  subst e
  exact I.call (g':=g') (t':=t') (d':=d') u hok hg hch
end
noncomputable abbrev XK:=Value->Option Addr->Hp->Prop
noncomputable abbrev St:=List (Option V)
noncomputable abbrev VK:=V->Hp->Prop
noncomputable abbrev TE:=St->Hp->VK->Prop
noncomputable abbrev TT:=St->Hp->(Bool->Hp->Prop)->Prop
noncomputable abbrev TA:=St->Hp->(List V->Hp->Prop)->Prop
structure Ends where
  nx:St->Hp->Prop
  rt:VK
  bk:St->Hp->Prop:=fun _ _=>False
  ct:St->Hp->Prop:=fun _ _=>False
noncomputable abbrev TS:=Ends->St->Hp->Prop
def EP (X:Cx)(pins:List (Addr×Obj))(σ:St)(Q:VK)(u:Value)(s':Shared):Prop:=∃ v H',Inv X pins σ H' s'/\RelV v u/\Q v H'
def TP (X:Cx)(pins:List (Addr×Obj))(σ:St)(Q:Bool->Hp->Prop)(b:Bool)(s':Shared):Prop:=∃ H',Inv X pins σ H' s'/\Q b H'
def AP (X:Cx)(pins:List (Addr×Obj))(σ:St)(Q:List V->Hp->Prop)(us:List Value)(s':Shared):Prop:=∃ vs H',Inv X pins σ H' s'/\Vals vs us/\Q vs H'
def SP (X:Cx)(pins:List (Addr×Obj))(D:Ends)(f:Flow)(s':Shared):Prop:=
  match f with
  | .next=>∃ σ' H',Inv X pins σ' H' s'/\D.nx σ' H'
  | .brk=>∃ σ' H',Inv X pins σ' H' s'/\D.bk σ' H'
  | .cont=>∃ σ' H',Inv X pins σ' H' s'/\D.ct σ' H'
  | .ret u=>∃ v σ' H',Inv X pins σ' H' s'/\RelV v u/\D.rt v H'
def PE (X:Cx)(e:Expr)(t:TE):Prop:=
  ∀ (pins:List (Addr×Obj)) (s:Shared) (σ:St) (H:Hp) (Q:VK),Inv X pins σ H s->t σ H Q->wpAny (model X.prog X.w) X.A (eval e X.env) (EP X pins σ Q) X.xe s
def PT (X:Cx)(e:Expr)(t:TT):Prop:=
  ∀ (pins:List (Addr×Obj)) (s:Shared) (σ:St) (H:Hp) (Q:Bool->Hp->Prop),Inv X pins σ H s->t σ H Q->wpAny (model X.prog X.w) X.A (isTrue e X.env (eval e X.env)) (TP X pins σ Q) X.xe s
def PW (X:Cx)(e:Expr)(t:TT):Prop:=
  ∀ (whole:Sem Value) (pins:List (Addr×Obj)) (s:Shared) (σ:St) (H:Hp) (Q:Bool->Hp->Prop),Inv X pins σ H s->t σ H Q->wpAny (model X.prog X.w) X.A (isTrue e X.env whole) (TP X pins σ Q) X.xe s
theorem PW.pt {X:Cx}{e:Expr}{t:TT}(h:PW X e t):PT X e t:=h _
def PA (X:Cx)(es:List Expr)(t:TA):Prop:=
  ∀ (pos:Pos) (pins:List (Addr×Obj)) (s:Shared) (σ:St) (H:Hp) (Q:List V->Hp->Prop),Inv X pins σ H s->t σ H Q->wpAny (model X.prog X.w) X.A (spliced (backTo pos (starEach es X.env))) (AP X pins σ Q) X.xe s
def PS (X:Cx)(st:Stmt)(t:TS):Prop:=
  ∀ (pins:List (Addr×Obj)) (s:Shared) (σ:St) (H:Hp) (D:Ends),Inv X pins σ H s->t D σ H->wpAny (model X.prog X.w) X.A (exec st X.env) (SP X pins D) X.xe s
def PSs (X:Cx)(st:List Stmt)(t:TS):Prop:=
  ∀ (pins:List (Addr×Obj)) (s:Shared) (σ:St) (H:Hp) (D:Ends),Inv X pins σ H s->t D σ H->wpAny (model X.prog X.w) X.A (execs st X.env) (SP X pins D) X.xe s
theorem thn {α:Type}{t:Sem α}{Q Q':α->Shared->Prop}{M:Model}{A:Around}{E:Value->Shared->Prop}{s:Shared}(h:wpAny M A t Q E s)(hQ:∀ a s,Q a s->Q' a s):wpAny M A t Q' E s:=wpAny_mono h hQ fun _ _ x=>x
end L2
namespace L2
open PySem PySem.Spec PyProof.Rows
section
variable {X:Cx}
noncomputable def tVar (i:Nat):TE:=fun σ H Q=>∃ v,σ[i]? = some (some v)/\Q v H
noncomputable def tC (v:V):TE:=fun _ H Q=>Q v H
theorem pe_var {i:Nat}{x:Str}{pos:Pos}(hN:X.N[i]? = some x)(hv:Vis X.env.scope x)(hd:(x == ("__debug__":Str))=false:=by decide) (hcd:(x == ("__classdict__":Str))=false:=by decide):PE X (.Name x pos) (tVar i):=by
  intro pins s σ H Q I h
  obtain⟨v,e,h⟩:=h
  obtain⟨m,hn,hl⟩:=I.loc
  obtain⟨u,r,l⟩:=hl i x v hN e hv
  have fin:EP X pins σ Q u s:=⟨v,H,I,r,h⟩
  rcases l with⟨hk,hm⟩ | ⟨hk,c,hc,hcell⟩
  · exact wpAny_Name (wpAny_loadName_local I.ok.kind hk hn hm fin) hd
  · rcases hk with hk | hk
    · exact wpAny_Name (wpAny_loadName_cell I.ok.kind hk hc hcell fin) hd
    · exact wpAny_Name (wpAny_loadName_free I.ok.kind hk hc hcell fin hcd) hd
theorem pe_int {i j pos}:PE X (.Constant (.int i) j pos) (tC (.int i)):=fun _ _ _ H _ I h=>wpAny_Constant_int ⟨.int i,H,I.tok _,⟨_,rfl⟩,h⟩
theorem pe_bl {b j pos}:PE X (.Constant (.bool b) j pos) (tC (.bl b)):=fun _ _ _ H _ I h=>Constant_bool ⟨.bl b,H,I,rfl,h⟩
theorem pe_non {j pos}:PE X (.Constant .none j pos) (tC .non):=fun _ _ _ H _ I h=>Constant_none ⟨.non,H,I,rfl,h⟩
theorem pe_str {x j pos}:PE X (.Constant (.str x) j pos) (tC (.str x)):=fun _ _ _ H _ I h=>Calls.Constant_str ⟨.str x,H,I.tok _,⟨_,rfl⟩,h⟩
def Gl (X:Cx)(x:Str):Prop:=X.env.kindOf x=some .globalImplicit
theorem ld_glob {E:Value->Shared->Prop}{pins:List (Addr×Obj)}{s:Shared}{σ:St}{H:Hp}{x:Str}{u:Value}{pos:Pos}{Q:Value->Shared->Prop}(I:Inv X pins σ H s)(hg:Gl X x)(hm:X.mg x=some u)(h:Q u s)
    (hd:(x == ("__debug__":Str))=false:=by decide):wpAny (model X.prog X.w) X.A (eval (.Name x pos) X.env) Q E s:=
  Calls.Name_function_global I.ok.kind hg (Calls.loadGlobal_global (by rw [I.ok.glob];exact I.mod.glob.keeps I.bk) hm h) hd
theorem ld_blt {E:Value->Shared->Prop}{pins:List (Addr×Obj)}{s:Shared}{σ:St}{H:Hp}{x:Str}{u:Value}{pos:Pos}{Q:Value->Shared->Prop}(I:Inv X pins σ H s)(hg:Gl X x)(hm:X.mg x=none)(hv:bootBuiltins x=some u)(h:Q u s)
    (hn:x≠"__name__":=by decide) (hd:(x == ("__debug__":Str))=false:=by decide):wpAny (model X.prog X.w) X.A (eval (.Name x pos) X.env) Q E s:=by
  obtain⟨mb,h1,h2⟩:=I.mod.blt
  exact Calls.Name_function_global I.ok.kind hg (Calls.loadGlobal_builtin (by rw [I.ok.glob];exact I.mod.glob.keeps I.bk) hm (by rw [I.ok.blt];exact h1.keeps I.bk) ((h2 x hn).trans hv) h) hd
theorem pe_glob {x:Str}{v:V}{u:Value}{pos:Pos}(hg:Gl X x)(hm:X.mg x=some u)(r:RelV v u)(hd:(x == ("__debug__":Str))=false:=by decide):PE X (.Name x pos) (tC v):=
  fun _ _ _ H _ I h=>ld_glob I hg hm ⟨v,H,I,r,h⟩ hd
theorem pe_bltn {x:Str}{v:V}{u:Value}{pos:Pos}(hg:Gl X x)(hm:X.mg x=none)(hv:bootBuiltins x=some u)(r:RelV v u)(hn:x≠"__name__":=by decide) (hd:(x == ("__debug__":Str))=false:=by decide):PE X (.Name x pos) (tC v):=
  fun _ _ _ H _ I h=>ld_blt I hg hm hv ⟨v,H,I,r,h⟩ hn hd
variable {a b:Expr} {ta tb:TE} {pos:Pos}
noncomputable def tB (t:TE):TT:=fun σ H Q=>t σ H fun x H1=>∃ c,x=.bl c/\Q c H1
theorem pt_val {e:Expr}{t:TE}(h:PE X e t)(he:∀ whole,isTrue e X.env whole=(do let v ← whole;standAt e.pos;holding [v] (truthy v)):=by intro _;rfl):PT X e (tB t):=by
  intro pins s σ H Q I hw
  refine isTrue_plain (thn (h pins s σ H _ I hw) fun v s1 ⟨x,H1,I1,r1,q1⟩=>?_) (he _)
  obtain⟨d,rfl,q⟩:=q1
  cases r1
  exact wpAny_truthy_bool ⟨H1,I1,q⟩
variable {tA tB':TT} {rest:List Expr}
noncomputable def tAnd (t u:TT):TT:=fun σ H Q=>t σ H fun c H1=>if c=true then u σ H1 Q else Q false H1
noncomputable def tOr (t u:TT):TT:=fun σ H Q=>t σ H fun c H1=>if c=true then Q true H1 else u σ H1 Q
noncomputable def tNot (t:TT):TT:=fun σ H Q=>t σ H fun c H1=>Q (!c) H1
theorem pw_and1 (ha:PT X a tA):PW X (.BoolOp .And [a] pos) tA:=by
  intro wh pins s σ H Q I h
  refine isTrue_and (thn (ha pins s σ H Q I h) fun c s1 e=>?_)
  cases c with
  | true=>exact isTrue_and_nil e
  | false=>exact e
theorem pw_or1 (ha:PT X a tA):PW X (.BoolOp .Or [a] pos) tA:=by
  intro wh pins s σ H Q I h
  refine isTrue_or (thn (ha pins s σ H Q I h) fun c s1 e=>?_)
  cases c with
  | false=>exact isTrue_or_nil e
  | true=>exact e
theorem pw_and (ha:PT X a tA)(hb:PW X (.BoolOp .And (b::rest) pos) tB'):PW X (.BoolOp .And (a::b::rest) pos) (tAnd tA tB'):=by
  intro wh pins s σ H Q I h
  refine isTrue_and (thn (ha pins s σ H _ I h) fun c s1 ⟨H1,I1,q1⟩=>?_)
  cases c with
  | true=>exact hb wh pins s1 σ H1 Q I1 q1
  | false=>exact⟨H1,I1,q1⟩
theorem pw_or (ha:PT X a tA)(hb:PW X (.BoolOp .Or (b::rest) pos) tB'):PW X (.BoolOp .Or (a::b::rest) pos) (tOr tA tB'):=by
  intro wh pins s σ H Q I h
  refine isTrue_or (thn (ha pins s σ H _ I h) fun c s1 ⟨H1,I1,q1⟩=>?_)
  cases c with
  | true=>exact⟨H1,I1,q1⟩
  | false=>exact hb wh pins s1 σ H1 Q I1 q1
theorem pt_not (ha:PT X a tA):PT X (.UnaryOp .Not a pos) (tNot tA):=by
  intro pins s σ H Q I h
  exact isTrue_not (ha pins s σ H (fun c H1=>Q (!c) H1) I h)
noncomputable def tAndV (ta tb:TE):TE:=fun σ H Q=>ta σ H fun x H1=>∃ c,x=.bl c/\if c=true then tb σ H1 Q else Q (.bl false) H1
noncomputable def tOrV (ta tb:TE):TE:=fun σ H Q=>ta σ H fun x H1=>∃ c,x=.bl c/\if c=true then Q (.bl true) H1 else tb σ H1 Q
noncomputable def tNotV (ta:TE):TE:=fun σ H Q=>ta σ H fun x H1=>∃ c,x=.bl c/\Q (.bl (!c)) H1
noncomputable def tIf (t:TT)(ta tb:TE):TE:=fun σ H Q=>t σ H fun c H1=>if c=true then ta σ H1 Q else tb σ H1 Q
theorem pe_ifExp {c:Expr}(hc:PT X c tA)(ha:PE X a ta)(hb:PE X b tb):PE X (.IfExp c a b pos) (tIf tA ta tb):=by
  intro pins s σ H Q I h
  refine wpAny_IfExp (thn (hc pins s σ H _ I h) fun d s1 ⟨H1,I1,q1⟩=>?_)
  cases d with
  | true=>exact ha pins s1 σ H1 Q I1 q1
  | false=>exact hb pins s1 σ H1 Q I1 q1
end
end L2
namespace L2
open PySem PySem.Spec PyProof.Rows
def SqL (K:PySem.W.Frag)(H:Hp)(a:Addr)(xs:List V):Prop:=
  Rd H a (.lst xs) \/
    ∃ (o:Obj) (its:Array Value) (n:Nat),K.lookup a=some o/\o.cls=.type "list"/\o.dict=none/\o.data=.seq its n/\its.size<=sizeLine/\Vals xs its.toList
def SqT (K:PySem.W.Frag)(H:Hp)(a:Addr)(xs:List V):Prop:=
  Rd H a (.tup xs) \/
    ∃ (o:Obj) (its:Array Value) (n:Nat),K.lookup a=some o/\o.cls=.type "tuple"/\o.data=.seq its n/\its.size<=sizeLine/\Vals xs its.toList
noncomputable def absV:Value->Option V
  | .none=>some .non
  | .bool b=>some (.bl b)
  | .int i _=>some (.int i)
  | .str x _=>some (.str x)
  | .bytes b _=>some (.byt b)
  | .float b _=>some (.flt b)
  | .ref a=>some (.ref a)
  | .type n=>some (.ty n)
  | _=>none
theorem RelV.abs {x:V}{u:Value}(r:RelV x u):absV u=some x:=by
  cases x with
  | non=>cases r;rfl
  | bl _=>cases r;rfl
  | int _=>obtain⟨t,rfl⟩:=r;rfl
  | str _=>obtain⟨t,rfl⟩:=r;rfl
  | byt _=>obtain⟨t,rfl⟩:=r;rfl
  | flt _=>obtain⟨t,rfl⟩:=r;rfl
  | ref _=>cases r;rfl
  | ty _=>cases r;rfl
theorem RelV.inj {x y:V}{u:Value}(r:RelV x u)(q:RelV y u):x=y:=Option.some.inj (r.abs.symm.trans q.abs)
theorem Vals.inj:∀ {xs ys:List V} {us:List Value},Vals xs us->Vals ys us->xs=ys
  | _,_,_,.nil,.nil=>rfl
  | _,_,_,.cons r t,.cons r' t'=>by rw [r.inj r',Vals.inj t t']
section
variable {X:Cx} {pins:List (Addr×Obj)} {σ:St} {H:Hp} {s:Shared} {a:Addr} {xs ys:List V}
theorem SqL.of {K:PySem.W.Frag}(h:H a=some (.lst xs)):SqL K H a xs:=.inl (.inl h)
theorem SqT.of {K:PySem.W.Frag}(h:H a=some (.tup xs)):SqT K H a xs:=.inl (.inl h)
theorem Inv.list (I:Inv X pins σ H s)(h:SqL X.K H a xs):∃ its:List Value,Vals xs its/\PlainL s.heap a its.toArray/\xs.length<=sizeLine:=by
  rcases h with h | ⟨o,its,n,hk,hc,hd,hs,hz,r⟩
  · obtain⟨z,its,n,r,e⟩:=h.ok I.hok
    exact⟨its,r,⟨_,n,e,rfl,rfl,rfl⟩,z⟩
  · refine⟨its.toList,r,⟨o,n,I.kIn a o hk,hc,hd,by simpa using hs⟩,?_⟩
    have e:=r.length
    simp only [Array.length_toList] at e
    lia
theorem Inv.tuple (I:Inv X pins σ H s)(h:SqT X.K H a xs):∃ its:List Value,Vals xs its/\IsTup s.heap a its.toArray/\xs.length<=sizeLine:=by
  rcases h with h | ⟨o,its,n,hk,hc,hs,hz,r⟩
  · obtain⟨z,its,r,p⟩:=h.ok I.hok
    exact⟨its,r,p,z⟩
  · refine⟨its.toList,r,⟨o,I.kIn a o hk,hc,n,by simpa using hs⟩,?_⟩
    have e:=r.length
    simp only [Array.length_toList] at e
    lia
theorem Inv.list_inj (I:Inv X pins σ H s)(h:SqL X.K H a xs)(h':SqL X.K H a ys):xs=ys:=by
  obtain⟨its,r,⟨o,n,e,_,_,d⟩,_⟩:=I.list h
  obtain⟨its',r',⟨o',n',e',_,_,d'⟩,_⟩:=I.list h'
  rw [e] at e';cases e'
  rw [d] at d'
  injection d' with d1 _
  have:its=its':=by simpa using congrArg Array.toList d1
  subst this
  exact r.inj r'
end
noncomputable abbrev Cx.wish (X:Cx)(E:Value->Shared->Prop):Cx:={ X with xe:=E }
noncomputable abbrev Cx.nox (X:Cx):Cx:=X.wish fun _ _=>False
theorem Cx.Ok.wish {X:Cx}(ok:X.Ok)(E:Value->Shared->Prop):(X.wish E).Ok:=
  ⟨ok.mod,ok.kind,ok.glob,ok.blt,ok.above,ok.inj,ok.has,ok.cab,ok.hd,ok.frames,ok.stk,ok.exf,ok.bs,ok.bsz,ok.noex,ok.exfs,ok.funs,ok.frf⟩
theorem Cx.Ok.unwish {X:Cx}{E:Value->Shared->Prop}(ok:(X.wish E).Ok):X.Ok:=
  ⟨ok.mod,ok.kind,ok.glob,ok.blt,ok.above,ok.inj,ok.has,ok.cab,ok.hd,ok.frames,ok.stk,ok.exf,ok.bs,ok.bsz,ok.noex,ok.exfs,ok.funs,ok.frf⟩
section
variable {X:Cx} {pins:List (Addr×Obj)} {σ:St} {H:Hp} {s:Shared} {E:Value->Shared->Prop}
theorem Inv.wish (I:Inv X pins σ H s)(E:Value->Shared->Prop):Inv (X.wish E) pins σ H s:=⟨I.ok.wish E,I.os,I.bare,I.base,I.loc,I.cell,I.free,I.freeC,I.pin,I.hok,I.len⟩
theorem Inv.unwish (I:Inv (X.wish E) pins σ H s):Inv X pins σ H s:=⟨I.ok.unwish,I.os,I.bare,I.base,I.loc,I.cell,I.free,I.freeC,I.pin,I.hok,I.len⟩
theorem SP.unwish {D:Ends}{f:Flow}{s':Shared}(h:SP (X.wish E) pins D f s'):SP X pins D f s':=by
  cases f with
  | next=>obtain⟨σ',H',I,q⟩:=h;exact⟨σ',H',I.unwish,q⟩
  | brk=>obtain⟨σ',H',I,q⟩:=h;exact⟨σ',H',I.unwish,q⟩
  | cont=>obtain⟨σ',H',I,q⟩:=h;exact⟨σ',H',I.unwish,q⟩
  | ret u=>obtain⟨v,σ',H',I,r,q⟩:=h;exact⟨v,σ',H',I.unwish,r,q⟩
theorem PE.nox {e:Expr}{t:TE}(h:PE X.nox e t):PE X e t:=fun pins s σ H Q I hw=>
  wpAny_mono (h pins s σ H Q (I.wish _) hw) (fun _ _ ⟨v,H',I',r,q⟩=>⟨v,H',I'.unwish,r,q⟩) fun _ _ z=>False.elim z
theorem PT.nox {e:Expr}{t:TT}(h:PT X.nox e t):PT X e t:=fun pins s σ H Q I hw=>
  wpAny_mono (h pins s σ H Q (I.wish _) hw) (fun _ _ ⟨H',I',q⟩=>⟨H',I'.unwish,q⟩) fun _ _ z=>False.elim z
theorem PSs.nox {st:List Stmt}{t:TS}(h:PSs X.nox st t):PSs X st t:=fun pins s σ H D I hw=>
  wpAny_mono (h pins s σ H D (I.wish _) hw) (fun _ _ q=>q.unwish) fun _ _ z=>False.elim z
end
section
variable {X:Cx} {st:Stmt} {rest:List Stmt} {t u:TS} {e:Expr} {te:TE} {pos:Pos}
noncomputable def tNext:TS:=fun D σ H=>D.nx σ H
noncomputable def tSeq (t u:TS):TS:=fun D σ H=>t { D with nx:=u D } σ H
theorem pss_nil:PSs X [] tNext:=fun _ _ σ H _ I h=>wpAny_execs_nil ⟨σ,H,I,h⟩
theorem pss_cons (h1:PS X st t)(h2:PSs X rest u):PSs X (st::rest) (tSeq t u):=by
  intro pins s σ H D I h
  refine wpAny_execs_cons (thn (h1 pins s σ H { D with nx:=u D } I h) fun f s1 q=>?_)
  cases f with
  | next=>
    obtain⟨σ',H',I',q⟩:=q
    exact h2 pins s1 σ' H' D I' q
  | ret v=>exact q
  | brk=>exact q
  | cont=>exact q
theorem pss_one (h1:PS X st t):PSs X [st] t:=by
  intro pins s σ H D I h
  refine wpAny_execs_cons (thn (h1 pins s σ H D I h) fun f s1 q=>?_)
  cases f with
  | next=>exact wpAny_execs_nil q
  | ret v=>exact q
  | brk=>exact q
  | cont=>exact q
noncomputable def tBreak:TS:=fun D σ H=>D.bk σ H
theorem Inv.quiet {pins:List (Addr×Obj)}{σ:St}{H:Hp}{s:Shared}(I:Inv X pins σ H s):interactive X.env=false:=by simp [interactive,I.ok.kind]
noncomputable def tDrop (te:TE):TS:=fun D σ H=>te σ H fun _ H1=>D.nx σ H1
theorem ps_expr (he:PE X e te)(hs:swapsWith e none pos.line X.env=pure false:=by rfl):PS X (.Expr e pos) (tDrop te):=by
  intro pins s σ H D I h
  exact wpAny_Expr_any (thn (he pins s σ H _ I h) fun v s1 ⟨x,H1,I1,r1,q1⟩=>⟨σ,H1,I1,q1⟩) I.quiet hs
noncomputable def tRet (te:TE):TS:=fun D σ H=>te σ H D.rt
theorem ps_ret (he:PE X e te):PS X (.Return (some e) pos) (tRet te):=by
  intro pins s σ H D I h
  exact wpAny_Return_some (thn (he pins s σ H _ I h) fun v s1 ⟨x,H1,I1,r1,q1⟩=>⟨x,σ,H1,I1,r1,q1⟩)
noncomputable def tRetN:TS:=fun D _ H=>D.rt .non H
noncomputable def tIfS (c:TT)(t u:TS):TS:=fun D σ H=>c σ H fun b H1=>if b=true then t D σ H1 else u D σ H1
theorem ps_if {c:Expr}{a b:List Stmt}{tc:TT}(hc:PT X c tc)(ha:PSs X a t)(hb:PSs X b u):PS X (.If c a b pos) (tIfS tc t u):=by
  intro pins s σ H D I h
  refine wpAny_If (thn (hc pins s σ H _ I h) fun d s1 ⟨H1,I1,q1⟩=>?_)
  cases d with
  | true=>exact ha pins s1 σ H1 D I1 q1
  | false=>exact hb pins s1 σ H1 D I1 q1
noncomputable def tNever:TS:=fun _ _ _=>False
theorem ps_never:PS X st tNever:=fun _ _ _ _ _ _ h=>h.elim
end
noncomputable abbrev TG:=V->St->Hp->(St->Hp->Prop)->Prop
noncomputable abbrev TGs:=List V->St->Hp->(St->Hp->Prop)->Prop
def PG (X:Cx)(target:Expr)(t:TG):Prop:=
  ∀ (pins:List (Addr×Obj)) (s:Shared) (σ:St) (H:Hp) (v:V) (u:Value) (Q:St->Hp->Prop),Inv X pins σ H s->RelV v u->t v σ H Q ->
    wpAny (model X.prog X.w) X.A (assign target X.env u) (fun _ s'=>∃ σ' H',Inv X pins σ' H' s'/\Q σ' H') X.xe s
def PGs (X:Cx)(ts:List Expr)(t:TGs):Prop:=
  ∀ (pins:List (Addr×Obj)) (s:Shared) (σ:St) (H:Hp) (vs:List V) (us:List Value) (Q:St->Hp->Prop),Inv X pins σ H s->Vals vs us->t vs σ H Q ->
    wpAny (model X.prog X.w) X.A (assignInOrder ((assignEach ts X.env).map (·.2)) us) (fun _ s'=>∃ σ' H',Inv X pins σ' H' s'/\Q σ' H') X.xe s
noncomputable abbrev TSet:=V->V->V->Hp->(Hp->Prop)->Prop
noncomputable abbrev TIp:=V->V->Hp->VK->Prop
section
variable {X:Cx} {pos:Pos}
noncomputable def gName (i:Nat):TG:=fun v σ H Q=>Q (σ.set i (some v)) H
theorem pg_name {i:Nat}{x:Str}(hN:X.N.Nodup)(hi:X.N[i]? = some x)(hx:Loc X.env.scope x)(hf:X.fn x=true\/X.env.scope.names.lookup x=some .local:=by first | exact .inl rfl | exact .inr rfl | assumption):PG X (.Name x pos) (gName i):=by
  intro pins s σ H v u Q I r h
  exact wpAny_assign_Name (store_ok I hN hi hx r (fun s' I'=>⟨_,H,I',h⟩) hf)
noncomputable def gNil:TGs:=fun vs σ H Q=>vs=[]/\Q σ H
noncomputable def gCons (t:TG)(u:TGs):TGs:=fun vs σ H Q=>∃ v r,vs=v::r/\t v σ H fun σ' H'=>u r σ' H' Q
theorem pgs_nil:PGs X [] gNil:=by
  intro pins s σ H vs us Q I r h
  obtain⟨e,h⟩:=h
  subst e
  cases r
  exact assignInOrder_nil ⟨σ,H,I,h⟩
theorem pgs_cons {e:Expr}{es:List Expr}{t:TG}{u:TGs}(h1:PG X e t)(h2:PGs X es u)
    (hs:(assignEach (e::es) X.env).map (·.2)=assign e X.env::(assignEach es X.env).map (·.2):=by rfl):PGs X (e::es) (gCons t u):=by
  intro pins s σ H vs us Q I r h
  obtain⟨v,vr,e1,h⟩:=h
  subst e1
  cases r with
  | cons r rr=>
    rw [hs]
    refine assignInOrder_cons (thn (h1 pins s σ H _ _ _ I r h) fun _ s1 ⟨σ1,H1,I1,q1⟩=>?_)
    exact h2 pins s1 σ1 H1 _ _ Q I1 rr q1
noncomputable def gTup (K:PySem.W.Frag)(n:Nat)(t:TGs):TG:=fun v σ H Q=>∃ a xs,v=.ref a/\SqT K H a xs/\xs.length=n/\t xs σ H Q
theorem pg_tup {es:List Expr}{k:Nat}{t:TGs}{n:Nat}(hc:X.calm=true)(h:PGs X es t)
    (hn:(assignEach es X.env).length=n:=by rfl) (hst:(assignEach es X.env).findIdx? (·.1)=none:=by rfl):PG X (.Tuple es k pos) (gTup X.K n t):=by
  intro pins s σ H v u Q I r hw
  obtain⟨a,xs,e1,hq,hl,hw⟩:=hw
  subst e1
  cases r
  obtain⟨its,rv,ht,hz⟩:=I.tuple hq
  refine assign_Tuple_tuple (I.ok.hd hc) ht (by simp [hn,← hl,rv.length]) hst fun h' hx=>?_
  have I1:Inv X pins σ H { s with heap:=h' }:=I.kept (t':=s.toks) fun b o e=>hx b o (Nat.ne_of_lt (Heap.lt_size e)) e
  exact h pins _ σ H xs _ Q I1 (by simpa using rv) hw
noncomputable def gSub (to ti:TE)(t:TSet):TG:=fun v σ H Q=>to σ H fun o H1=>ti σ H1 fun i H2=>t o i v H2 fun H3=>Q σ H3
noncomputable def tAsg (te:TE)(g:TG):TS:=fun D σ H=>te σ H fun x H1=>g x σ H1 D.nx
theorem ps_asg {tg e:Expr}{te:TE}{g:TG}(he:PE X e te)(hg:PG X tg g)(hs:swapsWithSole [tg] e pos.line X.env=pure false:=by rfl) (hw:swappedStores [tg] e X.env=pure none:=by rfl)
    (h1:(assignEach [tg] X.env).map (·.2)=[assign tg X.env]:=by rfl):PS X (.Assign [tg] e pos) (tAsg te g):=by
  intro pins s σ H D I h
  refine wpAny_Assign_stores (thn (he pins s σ H _ I h) fun v s1 ⟨x,H1,I1,r1,q1⟩=>?_) hs hw
  rw [h1]
  exact thn (hg pins s1 σ H1 x v _ I1 r1 q1) fun _ s2 q=>q
theorem ps_set {i:Nat}{x:Str}{e:Expr}{te:TE}{pos':Pos}(hN:X.N.Nodup)(hi:X.N[i]? = some x)(hx:Loc X.env.scope x)(he:PE X e te)(hs:swapsWith e (some (.Name x pos')) pos.line X.env=pure false:=by rfl) (hf:X.fn x=true\/X.env.scope.names.lookup x=some .local:=by first | exact .inl rfl | exact .inr rfl | assumption) :
    PS X (.Assign [.Name x pos'] e pos) (tAsg te (gName i)):=by
  intro pins s σ H D I h
  refine wpAny_Assign_Name (thn (he pins s σ H _ I h) fun v s1 ⟨y,H1,I1,r1,q1⟩=>?_) hs
  exact store_ok I1 hN hi hx r1 (fun s2 I2=>⟨_,H1,I2,q1⟩) hf
noncomputable def tAug (i:Nat)(te:TE)(ti:TIp):TS:=fun D σ H=>∃ x,σ[i]? = some (some x)/\te σ H fun y H1=>ti x y H1 fun z H2=>D.nx (σ.set i (some z)) H2
noncomputable def ipI (f:Int->Int->Int):TIp:=fun x y H Q=>∃ i j,x=.int i/\y=.int j/\Q (.int (f i j)) H
end
section
variable {X:Cx} {pos:Pos}
noncomputable def tWhile (c:TT)(tb:TS):TS:=fun D σ H=>∃ W:Nat->St->Hp->Prop,(∃ m,W m σ H)/\∀ m σ H,W m σ H ->
  c σ H fun b H1=>if b=true then ∃ N:St->Hp->Prop,(∀ σ' H',N σ' H'->∃ m',m' < m/\W m' σ' H')/\tb { D with nx:=N,ct:=N,bk:=D.nx } σ H1 else D.nx σ H1
end
structure It where
  go:Nat->Hp->Prop
  yld:Nat->Hp->V->Hp->Prop
  stop:Nat->Hp->Prop
def FpOk (X:Cx)(pins:List (Addr×Obj))(H:Hp)(b:Addr):Prop:=
  H b=none/\b≠X.env.locals/\b∉X.fs/\(b∈X.ex\/X.s₀.heap.objs.size<=b)/\(∀ x c,X.env.cells.lookup x=some c->c≠b)/\∀ p∈X.pn++pins,p.1≠b
theorem Inv.fpOk {X:Cx}{pins:List (Addr×Obj)}{σ:St}{H H':Hp}{s:Shared}{b:Addr}(I:Inv X pins σ H s)(hb:s.heap.objs.size<=b)(hn:H' b=none):FpOk X pins H' b:=by
  refine⟨hn,Nat.ne_of_gt (Nat.lt_of_lt_of_le I.lt hb),I.nofs hb,.inr (Nat.le_trans I.sz hb),fun x c e z=>?_,fun p hp z=>?_⟩
  · obtain⟨v,q⟩:=I.cell x c e
    exact absurd (Nat.lt_of_lt_of_le q.lt (by rw [z];exact hb)) (Nat.lt_irrefl _)
  · exact absurd (Nat.lt_of_lt_of_le (Heap.lt_size (I.pin p hp).1) (by rw [z];exact hb)) (Nat.lt_irrefl _)
structure Turn (P:Program)(w:World)(K:PySem.W.Frag)(tg:Expr)(J:It)(fp:List Addr)(it:Addr)(tn:Nat->Heap->Prop):Prop where
  mem:it∈fp
  obj:∀ i h,tn i h->∀ b∈fp,∃ o,h.get? b=some o/\∀ v,o.data≠.cell v
  keep:∀ i h h',tn i h->(∀ b∈fp,∀ o,h.get? b=some o->h'.get? b=some o)->tn i h'
  item:∀ (X:Cx),X.prog=P->X.w=w->X.K=K->X.calm=true->∀ (i:Nat) (pins:List (Addr×Obj)) (s:Shared) (σ:St) (H:Hp) (E:Value->Shared->Prop),Inv X pins σ H s->(∀ b∈fp,FpOk X pins H b)->tn i s.heap->J.go i H ->
    wpAny (model P w) X.A (pyNext (.ref it)) (fun r s1=>∃ u,r=some u /\
      wpAny (model P w) X.A (letOwnedTupleGo tg (.ref it) u) (fun _ s2=>∃ x H',Inv X pins σ H' s2/\RelV x u/\J.yld i H x H'/\tn (i+1) s2.heap/\∀ b∈fp,H' b=none) E s1) E s
  done:∀ (X:Cx),X.prog=P->X.w=w->X.K=K->X.calm=true->∀ (i:Nat) (pins:List (Addr×Obj)) (s:Shared) (σ:St) (H:Hp) (E:Value->Shared->Prop),Inv X pins σ H s->(∀ b∈fp,FpOk X pins H b)->tn i s.heap->J.stop i H ->
    wpAny (model P w) X.A (pyNext (.ref it)) (fun r s1=>r=none/\Inv X pins σ H s1) E s
  self:∀ (A:Around) (i:Nat) (s:Shared) (Q:Value->Shared->Prop) (E:Value->Shared->Prop),tn i s.heap->Q (.ref it) s->wpAny (model P w) A (pyIter (.ref it)) Q E s
noncomputable abbrev TI:=St->Hp->(It->Hp->Prop)->Prop
def PIE (X:Cx)(pins:List (Addr×Obj))(σ:St)(tg:Expr)(R:It->Hp->Prop)(itv:Value)(s2:Shared):Prop:=
  ∃ (it:Addr) (fp:List Addr) (tn:Nat->Heap->Prop) (J:It) (H':Hp),itv=.ref it/\Inv X pins σ H' s2/\Turn X.prog X.w X.K tg J fp it tn/\tn 0 s2.heap/\(∀ b∈fp,FpOk X pins H' b)/\R J H'
def PI (X:Cx)(tg iter:Expr)(wi:TI):Prop:=
  ∀ (pins:List (Addr×Obj)) (s:Shared) (σ:St) (H:Hp) (R:It->Hp->Prop),Inv X pins σ H s->wi σ H R ->
    wpAny (model X.prog X.w) X.A (eval iter X.env) (fun v s1=>wpAny (model X.prog X.w) X.A (pyIter v) (PIE X pins σ tg R) X.xe s1) X.xe s
theorem go_of {M:Model}{A:Around}{E:Value->Shared->Prop}{s:Shared}{tg:Expr}{it:Addr}{u:Value}{o:Obj}{n:String}{vs:Array Value}{Q:Unit->Shared->Prop}(ho:s.heap.get? it=some o)(hc:o.cls=.type n)(hd:o.data=.fields vs)
    (hn:["enumerate","zip","dict_itemiterator","dict_reverseitemiterator","odict_iterator","itertools.zip_longest","itertools.pairwise"].contains n=false) (hQ:Q () s):wpAny M A (letOwnedTupleGo tg (.ref it) u) Q E s:=by
  unfold letOwnedTupleGo
  cases tg<;>first
    | exact wpAny_pure hQ
    | (cases u<;>first
        | exact wpAny_pure hQ
        | (refine wpAny_bind (wpAny_load ho ?_)
           rw [hc,hd]
           show wpAny M A (if (["enumerate","zip","dict_itemiterator","dict_reverseitemiterator","odict_iterator","itertools.zip_longest","itertools.pairwise"].contains n&&vs[0]? == some (rawInt _))=true then _ else _) Q E s
           rw [if_neg (by intro h;rw [hn,Bool.false_and] at h;cases h)]
           exact wpAny_pure hQ))
noncomputable def Itl (K:PySem.W.Frag)(a:Addr):It:=
  ⟨fun i H=>∃ xs x,SqL K H a xs/\xs[i]? = some x,fun i H x H'=>H' = H/\∀ xs,SqL K H a xs->xs[i]? = some x,fun i H=>∃ xs,SqL K H a xs/\xs.length<=i⟩
noncomputable def Itt (K:PySem.W.Frag)(a:Addr):It:=
  ⟨fun i H=>∃ xs x,SqT K H a xs/\xs[i]? = some x,fun i H x H'=>H' = H/\∀ xs,SqT K H a xs->xs[i]? = some x,fun i H=>∃ xs,SqT K H a xs/\xs.length<=i⟩
noncomputable def Itr (lo:Int)(n:Nat):It:=⟨fun i _=>i<n,fun i H x H'=>H' = H/\x=.int (lo+i),fun i _=>n<=i⟩
theorem turn_list {P:Program}{w:World}{K:PySem.W.Frag}{tg:Expr}(a it:Addr):Turn P w K tg (Itl K a) [it] it (fun i h=>h.IsListIter it a i) where
  mem:=by simp
  obj:=fun i h st b hb=>by
    have e:b=it:=by simpa using hb
    subst e
    obtain⟨o,e,c,d⟩:=st
    exact⟨o,e,fun v z=>by rw [d] at z;cases z⟩
  keep:=fun i h h' st k=>st.at fun o e=>k it (by simp) o e
  item:=by
    intro X hP hw hK hc i pins s σ H E I hf st hg
    subst hP hw hK
    obtain⟨xs,x,hq,hx⟩:=hg
    obtain⟨its,rv,p,hz⟩:=I.list hq
    obtain⟨u,hu,ru⟩:=rv.get hx
    obtain⟨f0,f1,f2,f3,f4,f5⟩:=hf it (by simp)
    refine wpAny_pyNext_list_item st p.isList (x:=u) (by simpa using hu) fun h' st' sb=>?_
    have I1:Inv X pins σ H { s with heap:=h' }:=I.turned (t':=s.toks) (fun b o hb e=>(sb.2 b hb).trans e) f0 f1 f3 f4 f5
    obtain⟨o,e,c,d⟩:=id st'
    exact⟨u,rfl,go_of (s:={ s with heap:=h' }) e c d (by decide) ⟨x,H,I1,ru,⟨rfl,fun ys hy=>by rw [I.list_inj hy hq];exact hx⟩,st',fun b hb=>(hf b hb).1⟩⟩
  done:=by
    intro X hP hw hK hc i pins s σ H E I hf st hg
    subst hP hw hK
    obtain⟨xs,hq,hx⟩:=hg
    obtain⟨its,rv,p,hz⟩:=I.list hq
    obtain⟨f0,f1,f2,f3,f4,f5⟩:=hf it (by simp)
    have hl:=rv.length
    exact wpAny_pyNext_list_end (I.ok.hd hc) st p.isList (by simp;lia) fun h' eb=>⟨rfl,I.turned (t':=s.toks) (fun b o hb e=>eb b o hb e) f0 f1 f3 f4 f5⟩
  self:=fun _ _ _ _ _ st h=>wpAny_pyIter_listiter st h
theorem turn_range {P:Program}{w:World}{K:PySem.W.Frag}{tg:Expr}(it:Addr)(lo:Int)(n:Nat):Turn P w K tg (Itr lo n) [it] it (fun i h=>IsRangeIter h it (lo+(i:Nat) * 1) ((n:Int) - (i:Nat)) 1) where
  mem:=by simp
  obj:=fun i h st b hb=>by
    have e:b=it:=by simpa using hb
    subst e
    exact⟨_,st,fun v z=>by
      have z':Data.fields _=Data.cell v:=z
      cases z'⟩
  keep:=fun i h h' st k=>k it (by simp) _ st
  item:=by
    intro X hP hw hK hc i pins s σ H E I hf st hg
    subst hP hw hK
    obtain⟨f0,f1,f2,f3,f4,f5⟩:=hf it (by simp)
    have W:=Walks.range (prog:=X.prog) (w:=X.w) (I.ok.hd hc) it lo 1 n
    refine W.item i s _ _ hg st fun v h' tk hv st' kk=>?_
    obtain⟨t,rfl⟩:=hv
    have I1:Inv X pins σ H { s with heap:=h',toks:=tk }:=I.turned (fun b o hb e=>kk b o (by simpa using hb) e) f0 f1 f3 f4 f5
    refine⟨_,rfl,go_of (s:={ s with heap:=h',toks:=tk }) (n:="range_iterator") st' rfl rfl (by decide) ⟨.int (lo+i),H,I1,⟨t,?_⟩,⟨rfl,rfl⟩,st',fun b hb=>(hf b hb).1⟩⟩
    rw [Int.mul_one]
  done:=by
    intro X hP hw hK hc i pins s σ H E I hf st hg
    subst hP hw hK
    obtain⟨f0,f1,f2,f3,f4,f5⟩:=hf it (by simp)
    exact wpAny_pyNext_range_end (I.ok.hd hc) st (by have:n<=i:=hg;lia) fun h' eb=>⟨rfl,I.turned (t':=s.toks) (fun b o hb e=>eb b o hb e) f0 f1 f3 f4 f5⟩
  self:=fun _ _ _ _ _ st h=>wpAny_pyIter_rangeiter st h
end L2
namespace L2
open PySem PySem.Spec PyProof.Rows
section
variable {X:Cx} {tg:Expr}
noncomputable def iList (K:PySem.W.Frag)(tl:TE):TI:=fun σ H R=>tl σ H fun x H1=>∃ a,x=.ref a/\(∃ xs,SqL K H1 a xs)/\R (Itl K a) H1
noncomputable def iTup (K:PySem.W.Frag)(tl:TE):TI:=fun σ H R=>tl σ H fun x H1=>∃ a,x=.ref a/\(∃ xs,SqT K H1 a xs)/\R (Itt K a) H1
theorem pi_list {l:Expr}{tl:TE}(hl:PE X l tl):PI X tg l (iList X.K tl):=by
  intro pins s σ H R I h
  refine thn (hl pins s σ H _ I h) fun v s1 ⟨x,H1,I1,r1,q1⟩=>?_
  obtain⟨a,e,⟨xs,hq⟩,q⟩:=q1
  subst e
  cases r1
  obtain⟨its,rv,p,hz⟩:=I1.list hq
  refine wpAny_pyIter_list p.isList ?_
  refine⟨s1.heap.objs.size,[s1.heap.objs.size],_,_,H1,rfl,I1.kept (t':=s1.toks) fun b o e=>Heap.get?_push_of_some _ e,turn_list a _,⟨_,Heap.get?_push_size _ rfl,rfl,rfl⟩,fun b hb=>?_,q⟩
  have e:b=s1.heap.objs.size:=by simpa using hb
  subst e
  exact I1.fpOk (Nat.le_refl _) (I1.hok.fresh (Nat.le_refl _))
theorem range_it {pins:List (Addr×Obj)}{σ:St}{H:Hp}{s:Shared}{R:It->Hp->Prop}{E:Value->Shared->Prop}{lo hi:Int}{t u v:Tok}{tk:Nat}(I:Inv X pins σ H s)(h1:-(2 ^ 62)<=lo)(h2:lo<2 ^ 62)(h3:-(2 ^ 62)<=hi)(h4:hi<2 ^ 62)
    (q:R (Itr lo (hi - lo).toNat) H):wpAny (model X.prog X.w) X.A (pyIter (.ref s.heap.objs.size)) (PIE X pins σ tg R) E { s with heap:=s.heap.push { cls:=.type "range",data:=.fields #[.int lo t,.int hi u,.int 1 v] },toks:=tk }:=by
  refine wpAny_pyIter_range (IsRange.new ..) (small_one h1 h2 h3 h4) ?_
  have I1:Inv X pins σ H { s with heap:=s.heap.push { cls:=.type "range",data:=.fields #[.int lo t,.int hi u,.int 1 v] },toks:=tk }:=I.kept fun b o e=>Heap.get?_push_of_some _ e
  refine⟨(s.heap.push { cls:=.type "range",data:=.fields #[.int lo t,.int hi u,.int 1 v] }).objs.size,[(s.heap.push { cls:=.type "range",data:=.fields #[.int lo t,.int hi u,.int 1 v] }).objs.size],_,_,H,rfl,
    I1.kept (t':=tk) fun b o e=>Heap.get?_push_of_some _ e,turn_range _ lo (hi - lo).toNat,?_,fun b hb=>?_,q⟩
  · have e1:lo+((0:Nat):Int) * 1=lo:=by simp
    have e2:(((hi - lo).toNat:Nat):Int) - ((0:Nat):Int)=Builtin.Range.rangeSize lo hi 1:=by rw [rangeSize_one];split<;>lia
    show IsRangeIter _ _ (lo+((0:Nat):Int) * 1) ((((hi - lo).toNat:Nat):Int) - ((0:Nat):Int)) 1
    rw [e1,e2]
    exact Heap.get?_push_size _ rfl
  · have e:b=(s.heap.push { cls:=.type "range",data:=.fields #[.int lo t,.int hi u,.int 1 v] }).objs.size:=by simpa using hb
    subst e
    exact I1.fpOk (Nat.le_refl _) (I1.hok.fresh (Nat.le_refl _))
noncomputable def iRng1 (ta:TA):TI:=fun σ H R=>ta σ H fun vs H1=>∃ j:Int,vs=[.int j]/\-(2 ^ 62)<=j/\j<2 ^ 62/\R (Itr 0 j.toNat) H1
noncomputable def iRng2 (ta:TA):TI:=fun σ H R=>ta σ H fun vs H1=>∃ i j:Int,vs=[.int i,.int j]/\(-(2 ^ 62)<=i/\i<2 ^ 62/\-(2 ^ 62)<=j/\j<2 ^ 62)/\R (Itr i (j - i).toNat) H1
theorem pi_range1 {a:Expr}{ta:TA}{p pos:Pos}(hg:Gl X "range")(hm:X.mg "range" = none)(ha:PA X [a] ta)(hs:starEach [a] X.env=[(false,eval a X.env)]:=by rfl):PI X tg (.Call (.Name "range" p) [a] [] pos) (iRng1 ta):=by
  intro pins s σ H R I h
  refine Call_ (ld_blt I hg hm boot_range (PyProof.Rows.callWith_type1 (thn (ha pos pins s σ H _ I h) fun us s1 ⟨vs,H1,I1,r1,q1⟩=>?_) hs rfl))
  obtain⟨j,e,q1,q2,q⟩:=q1
  subst e
  cases r1 with
  | cons r rr=>
    cases rr
    obtain⟨t,rfl⟩:=r
    exact call_range_1 (range_it I1 (by lia) (by lia) q1 q2 (by simpa using q))
noncomputable def tFor (wi:TI)(g:TG)(tb:TS):TS:=fun D σ H=>wi σ H fun J H1=>∃ W:Nat->Nat->St->Hp->Prop,(∃ m,W 0 m σ H1)/\∀ i m σ H,W i m σ H ->
  (J.stop i H/\D.nx σ H)\/(J.go i H/\∃ N:St->Hp->Prop,(∀ σ' H',N σ' H'->∃ m',m' < m/\W (i+1) m' σ' H')/\∀ x H',J.yld i H x H'->g x σ H' fun σ2 H2=>tb { D with nx:=N,ct:=N,bk:=D.nx } σ2 H2)
noncomputable def pinsAt (fp:List Addr)(h:Heap):List (Addr×Obj):=fp.filterMap fun b=>(h.get? b).map fun o=>(b,o)
theorem mem_pinsAt {fp:List Addr}{h:Heap}{b:Addr}{o:Obj}(hb:b∈fp)(e:h.get? b=some o):(b,o)∈pinsAt fp h:=List.mem_filterMap.mpr ⟨b,hb,by rw [e];rfl⟩
theorem of_pinsAt {fp:List Addr}{h:Heap}{p:Addr×Obj}(hp:p∈pinsAt fp h):p.1∈fp/\h.get? p.1=some p.2:=by
  obtain⟨b,hb,e⟩:=List.mem_filterMap.mp hp
  cases q:h.get? b with
  | none=>rw [q] at e;cases e
  | some o=>
    rw [q] at e
    have e':(b,o)=p:=Option.some.inj e
    subst e'
    exact⟨hb,q⟩
theorem Inv.pinned {pins:List (Addr×Obj)}{σ:St}{H:Hp}{s:Shared}{fp:List Addr}(I:Inv X pins σ H s)(hf:∀ b∈fp,FpOk X pins H b)(ho:∀ b∈fp,∃ o,s.heap.get? b=some o/\∀ v,o.data≠.cell v):Inv X (pins++pinsAt fp s.heap) σ H s:=
  I.pins_of fun p hp=>(List.mem_append.mp hp).elim (fun z=>I.pin p (List.mem_append_right _ z)) fun z=>by
    obtain⟨hb,e⟩:=of_pinsAt z
    obtain⟨f0,f1,f2,_⟩:=hf p.1 hb
    obtain⟨o,e',d⟩:=ho p.1 hb
    rw [e] at e';cases e'
    exact⟨e,f0,f1,f2,d⟩
theorem Inv.unpinned {pins pl:List (Addr×Obj)}{σ:St}{H:Hp}{s:Shared}(I:Inv X (pins++pl) σ H s):Inv X pins σ H s:=I.pins_of fun p hp=>I.pin p (List.mem_append_right _ (List.mem_append_left _ hp))
theorem ps_for {iter:Expr}{body:List Stmt}{wi:TI}{g:TG}{tb:TS}{pos:Pos}(hp:PassesOwn (model X.prog X.w) X.A X.env X.xe)(hc:X.calm=true)(hi:PI X tg iter wi)(hg:PG X tg g)(hb:PSs X body tb)
    (hs:∀ x,foldedSetIterable iter X.env x=pure x:=by intro _;rfl):PS X (.For tg iter body [] pos) (tFor wi g tb):=by
  intro pins s σ H D I h
  refine wpAny_For (thn (hi pins s σ H _ I h) fun v s1 h1=>thn h1 fun itv s2 h2=>?_) hs
  obtain⟨it,fp,tn,J,H2,e,I2,T,st2,f2,W,⟨m0,w0⟩,turn⟩:=h2
  subst e
  have stat:∀ {H':Hp},(∀ b∈fp,H' b=none)->∀ b∈fp,FpOk X pins H' b:=fun hn b hb=>⟨hn b hb,(f2 b hb).2⟩
  refine codeAny_forLoop_any (fun n s'=>∃ i σ' H',Inv X pins σ' H' s'/\tn i s'.heap/\(∀ b∈fp,H' b=none)/\W i n σ' H') ?_ m0 ⟨0,σ,H2,I2,st2,fun b hb=>(f2 b hb).1,w0⟩
  rintro n s3 ⟨i,σ3,H3,I3,st3,fr3,w3⟩
  rcases turn i n σ3 H3 w3 with⟨stop,qn⟩ | ⟨go,N,hN,step⟩
  · refine wpAny_passesOwn hp (thn (T.done X rfl rfl rfl hc i pins s3 σ3 H3 X.xe I3 (stat fr3) st3 stop) fun r s4 ⟨hr,I4⟩=>?_)
    subst hr
    exact wpAny_execs_nil ⟨σ3,H3,I4,qn⟩
  · refine wpAny_passesOwn hp (thn (T.item X rfl rfl rfl hc i pins s3 σ3 H3 X.xe I3 (stat fr3) st3 go) fun r s4 ⟨u,hr,h4⟩=>?_)
    subst hr
    refine wpAny_passesOwn hp (thn h4 fun _ s5 ⟨x,H5,I5,r5,y5,st5,fr5⟩=>?_)
    have I5':=I5.pinned (stat fr5) (T.obj _ _ st5)
    refine wpAny_passesOwn hp (thn (hg _ s5 σ3 H5 x u _ I5' r5 (step x H5 y5)) fun _ s6 ⟨σ6,H6,I6,q6⟩=>?_)
    refine wpAny_passesOwn hp (thn (hb _ s6 σ6 H6 _ I6 q6) fun f s7 q7=>?_)
    have again:∀ {σ7:St} {H7:Hp},Inv X (pins++pinsAt fp s5.heap) σ7 H7 s7->N σ7 H7->∃ m,m<n/\∃ i σ' H',Inv X pins σ' H' s7/\tn i s7.heap/\(∀ b∈fp,H' b=none)/\W i m σ' H':=fun {σ7 H7} I7 n7=>by
      obtain⟨m',hm,w7⟩:=hN σ7 H7 n7
      refine⟨m',hm,i+1,σ7,H7,I7.unpinned,T.keep _ _ _ st5 fun b hb o e=>(I7.pin (b,o) (List.mem_append_right _ (List.mem_append_right _ (mem_pinsAt hb e)))).1,fun b hb=>?_,w7⟩
      obtain⟨o,e,d⟩:=T.obj _ _ st5 b hb
      exact(I7.pin (b,o) (List.mem_append_right _ (List.mem_append_right _ (mem_pinsAt hb e)))).2.1
    cases f with
    | next=>obtain⟨σ7,H7,I7,n7⟩:=q7;exact again I7 n7
    | cont=>obtain⟨σ7,H7,I7,n7⟩:=q7;exact again I7 n7
    | brk=>obtain⟨σ7,H7,I7,q7⟩:=q7;exact⟨σ7,H7,I7.unpinned,q7⟩
    | ret v=>obtain⟨x7,σ7,H7,I7,r7,q7⟩:=q7;exact⟨x7,σ7,H7,I7.unpinned,r7,q7⟩
end
theorem for_list {K:PySem.W.Frag}{a:Addr}{xs:List V}{g:TG}{tb:TS}{D:Ends}{σ:St}{H:Hp}(Pv:Nat->St->Hp->Prop)(h0:Pv 0 σ H)(hl:∀ i σ H,i<=xs.length->Pv i σ H->SqL K H a xs)
    (hs:∀ i x σ H,xs[i]? = some x->Pv i σ H->g x σ H fun σ2 H2=>tb { D with nx:=Pv (i+1),ct:=Pv (i+1),bk:=D.nx } σ2 H2) (hd:∀ σ H,Pv xs.length σ H->D.nx σ H) :
    ∃ W:Nat->Nat->St->Hp->Prop,(∃ m,W 0 m σ H)/\∀ i m σ H,W i m σ H ->
      ((Itl K a).stop i H/\D.nx σ H)\/((Itl K a).go i H/\∃ N:St->Hp->Prop,(∀ σ' H',N σ' H'->∃ m',m' < m/\W (i+1) m' σ' H')/\∀ x H',(Itl K a).yld i H x H'->g x σ H' fun σ2 H2=>tb { D with nx:=N,ct:=N,bk:=D.nx } σ2 H2):=by
  refine⟨fun i m σ H=>m=xs.length - i/\i<=xs.length/\Pv i σ H,⟨xs.length,by simp,Nat.zero_le _,h0⟩,?_⟩
  rintro i m σ H ⟨rfl,hi,p⟩
  have q:=hl i σ H hi p
  by_cases hlt:i<xs.length
  · refine .inr ⟨⟨xs,xs[i],q,by simp [hlt]⟩,Pv (i+1),fun σ' H' p'=>⟨xs.length - (i+1),by lia,rfl,hlt,p'⟩,fun x H' y=>?_⟩
    obtain⟨e,y⟩:=y
    subst e
    exact hs i x σ _ (y xs q) p
  · have e:i=xs.length:=by lia
    subst e
    exact .inl ⟨⟨xs,q,Nat.le_refl _⟩,hd σ H p⟩
end L2
namespace L2
open PySem PySem.Spec PyProof.Rows
noncomputable abbrev R2:=V->V->Hp->VK->Prop
def OpR (X:Cx)(f:Value->Value->Sem Value)(r:R2):Prop:=
  ∀ (pins:List (Addr×Obj)) (s:Shared) (σ:St) (H:Hp) (x y:V) (v u:Value) (Q:VK),Inv X pins σ H s->RelV x v->RelV y u->r x y H Q ->
    wpAny (model X.prog X.w) X.A (f v u) (EP X pins σ Q) X.xe s
def UnR (X:Cx)(f:Value->Sem Value)(r:V->Hp->VK->Prop):Prop:=
  ∀ (pins:List (Addr×Obj)) (s:Shared) (σ:St) (H:Hp) (x:V) (v:Value) (Q:VK),Inv X pins σ H s->RelV x v->r x H Q ->
    wpAny (model X.prog X.w) X.A (f v) (EP X pins σ Q) X.xe s
def CallR (X:Cx)(f:Value)(r:List V->Hp->VK->Prop):Prop:=
  ∀ (pins:List (Addr×Obj)) (s:Shared) (σ:St) (H:Hp) (xs:List V) (us:List Value) (Q:VK),Inv X pins σ H s->Vals xs us->r xs H Q ->
    wpAny (model X.prog X.w) X.A (call f us) (EP X pins σ Q) X.xe s
def TruR (X:Cx)(r:V->Hp->(Bool->Hp->Prop)->Prop):Prop:=
  ∀ (pins:List (Addr×Obj)) (s:Shared) (σ:St) (H:Hp) (x:V) (v:Value) (Q:Bool->Hp->Prop),Inv X pins σ H s->RelV x v->r x H Q ->
    wpAny (model X.prog X.w) X.A (truthy v) (TP X pins σ Q) X.xe s
noncomputable def tOp (r:R2)(ta tb:TE):TE:=fun σ H Q=>ta σ H fun x H1=>tb σ H1 fun y H2=>r x y H2 Q
noncomputable def tUn (r:V->Hp->VK->Prop)(ta:TE):TE:=fun σ H Q=>ta σ H fun x H1=>r x H1 Q
noncomputable def rI (C:Int->Int->Prop)(g:Int->Int->V):R2:=fun x y H Q=>∃ i j,x=.int i/\y=.int j/\C i j/\Q (g i j) H
noncomputable def rI0 (g:Int->Int->V):R2:=fun x y H Q=>∃ i j,x=.int i/\y=.int j/\Q (g i j) H
noncomputable def rU (g:Int->V):V->Hp->VK->Prop:=fun x H Q=>∃ i,x=.int i/\Q (g i) H
section
variable {X:Cx} {a b c:Expr} {ta tb tc:TE} {pos:Pos}
theorem binT (ha:PE X a ta)(hb:PE X b tb){pins:List (Addr×Obj)}{s:Shared}{σ:St}{H:Hp}{R:V->V->Hp->Prop}(I:Inv X pins σ H s)
    (h:ta σ H fun x H1=>tb σ H1 fun y H2=>R x y H2) {Q:Value->Shared->Prop} {f:Value->Value->Sem Value}
    (hf:∀ v u s2 x y H2,Inv X pins σ H2 s2->RelV x v->RelV y u->R x y H2->wpAny (model X.prog X.w) X.A (f v u) Q X.xe s2) :
    wpAny (model X.prog X.w) X.A (eval a X.env) (fun v s₁=>wpAny (model X.prog X.w) X.A (eval b X.env) (fun u s₂=>wpAny (model X.prog X.w) X.A (f v u) Q X.xe s₂) X.xe s₁) X.xe s:=by
  refine thn (ha pins s σ H _ I h) fun v s1 ⟨x,H1,I1,r1,q1⟩=>?_
  refine thn (hb pins s1 σ H1 _ I1 q1) fun u s2 ⟨y,H2,I2,r2,q2⟩=>?_
  exact hf v u s2 x y H2 I2 r1 r2 q2
theorem pe_op {op:Operator}{r:R2}(ho:OpR X (binaryOp op) r)(ha:PE X a ta)(hb:PE X b tb):PE X (.BinOp a op b pos) (tOp r ta tb):=by
  intro pins s σ H Q I h
  exact wpAny_BinOp (binT ha hb I h fun v u s2 x y H2 I2 rx ry q=>ho pins s2 σ H2 x y v u Q I2 rx ry q)
theorem pe_un {op:UnaryOp}{r:V->Hp->VK->Prop}(ho:UnR X (unaryOp op) r)(ha:PE X a ta):PE X (.UnaryOp op a pos) (tUn r ta):=by
  intro pins s σ H Q I h
  exact UnaryOp_ (thn (ha pins s σ H _ I h) fun v s1 ⟨x,H1,I1,r1,q1⟩=>ho pins s1 σ H1 x v Q I1 r1 q1)
theorem opI {f:Value->Value->Sem Value}{C:Int->Int->Prop}{g:Int->Int->Int}
    (rule:∀ (i j:Int) (t u:Tok) (s:Shared) (Q:Value->Shared->Prop) (E:Value->Shared->Prop),C i j->Q (.int (g i j) s.toks) { s with toks:=s.toks+1 }->wpAny (model X.prog X.w) X.A (f (.int i t) (.int j u)) Q E s) :
    OpR X f (rI C fun i j=>.int (g i j)):=by
  intro pins s σ H x y v u Q I rx ry h
  obtain⟨i,j,rfl,rfl,hc,q⟩:=h
  obtain⟨t,rfl⟩:=rx
  obtain⟨t',rfl⟩:=ry
  exact rule i j t t' s _ _ hc ⟨.int (g i j),H,I.tok _,⟨_,rfl⟩,q⟩
theorem opI0 {f:Value->Value->Sem Value}{g:Int->Int->Int}
    (rule:∀ (i j:Int) (t u:Tok) (s:Shared) (Q:Value->Shared->Prop) (E:Value->Shared->Prop),Q (.int (g i j) s.toks) { s with toks:=s.toks+1 }->wpAny (model X.prog X.w) X.A (f (.int i t) (.int j u)) Q E s) :
    OpR X f (rI0 fun i j=>.int (g i j)):=by
  intro pins s σ H x y v u Q I rx ry h
  obtain⟨i,j,rfl,rfl,q⟩:=h
  obtain⟨t,rfl⟩:=rx
  obtain⟨t',rfl⟩:=ry
  exact rule i j t t' s _ _ ⟨.int (g i j),H,I.tok _,⟨_,rfl⟩,q⟩
theorem opB0 {f:Value->Value->Sem Value}{g:Int->Int->Bool}
    (rule:∀ (i j:Int) (t u:Tok) (s:Shared) (Q:Value->Shared->Prop) (E:Value->Shared->Prop),Q (.bool (g i j)) s->wpAny (model X.prog X.w) X.A (f (.int i t) (.int j u)) Q E s) :
    OpR X f (rI0 fun i j=>.bl (g i j)):=by
  intro pins s σ H x y v u Q I rx ry h
  obtain⟨i,j,rfl,rfl,q⟩:=h
  obtain⟨t,rfl⟩:=rx
  obtain⟨t',rfl⟩:=ry
  exact rule i j t t' s _ _ ⟨.bl (g i j),H,I,rfl,q⟩
def CPow (i j:Int):Prop:=0<=j/\j<=1000000/\i.natAbs<2 ^ 64
def CMul (i j:Int):Prop:=(-(2 ^ 64)<i/\i<2 ^ 64)\/(-(2 ^ 64)<j/\j<2 ^ 64)
theorem CMul.ok {i j:Int}(h:CMul i j):IntMulOk i j:=by
  rcases h with⟨h1,h2⟩ | ⟨h1,h2⟩
  · exact .of_left (intBits_le_64 h1 h2)
  · exact .of_right (intBits_le_64 h1 h2)
theorem two_pow_nn (k:Nat):(0:Int)<=2 ^ k:=by
  rw [two_pow_cast]
  exact Int.natCast_nonneg _
theorem op_add:OpR X (binaryOp .Add) (rI0 fun i j=>.int (i+j)):=opI0 fun _ _ _ _ _ _ _ q=>add_int q
theorem op_sub:OpR X (binaryOp .Sub) (rI0 fun i j=>.int (i - j)):=opI0 fun _ _ _ _ _ _ _ q=>sub_int q
theorem op_mod:OpR X (binaryOp .Mod) (rI (fun _ j=>0<j) fun i j=>.int (i % j)):=opI fun i j _ _ _ _ _ hc q=>by
  have h1:(0:Int)<j:=hc
  exact mod_int' (by lia) (by rw [Int.fmod_eq_emod_of_nonneg i (by lia)];exact q)
theorem op_pow:OpR X (binaryOp .Pow) (rI CPow fun i j=>.int (i ^ j.toNat)):=opI fun _ _ _ _ _ _ _ hc q=>pow_int_small hc.1 hc.2.1 hc.2.2 q
theorem op_shr:OpR X (binaryOp .RShift) (rI (fun _ j=>0<=j) fun i j=>.int (i / 2 ^ j.toNat)):=opI fun i j _ _ _ _ _ hc q=>
  rshift_int hc (by rw [Int.fdiv_eq_ediv_of_nonneg i (two_pow_nn _)];exact q)
theorem unI {f:Value->Sem Value}{g:Int->Int}
    (rule:∀ (i:Int) (t:Tok) (s:Shared) (Q:Value->Shared->Prop) (E:Value->Shared->Prop),Q (.int (g i) s.toks) { s with toks:=s.toks+1 }->wpAny (model X.prog X.w) X.A (f (.int i t)) Q E s) :
    UnR X f (rU fun i=>.int (g i)):=by
  intro pins s σ H x v Q I rx h
  obtain⟨i,rfl,q⟩:=h
  obtain⟨t,rfl⟩:=rx
  exact rule i t s _ _ ⟨.int (g i),H,I.tok _,⟨_,rfl⟩,q⟩
theorem un_neg:UnR X (unaryOp .USub) (rU fun i=>.int (-i)):=unI fun _ _ _ _ _ q=>neg_int q
end
noncomputable def scal:V->V->Bool
  | .non,.non=>true | .non,.int _=>true | .int _,.non=>true | .non,.bl _=>true | .bl _,.non=>true | .non,.str _=>true | .str _,.non=>true
  | .int _,.int _=>true | .bl _,.bl _=>true | .str _,.str _=>true | .byt _,.byt _=>true
  | .int _,.str _=>true | .str _,.int _=>true | .bl _,.str _=>true | .str _,.bl _=>true
  | _,_=>false
noncomputable def rEq:R2:=fun x y H Q=>scal x y=true/\Q (.bl (decide (x=y))) H
noncomputable def rNe:R2:=fun x y H Q=>scal x y=true/\Q (.bl (!decide (x=y))) H
theorem dec_int {i j:Int}:decide (V.int i=V.int j)=(i == j):=by
  rw [Bool.eq_iff_iff]
  simp
theorem dec_bl {i j:Bool}:decide (V.bl i=V.bl j)=(i == j):=by
  rw [Bool.eq_iff_iff]
  simp
theorem dec_str {i j:Str}:decide (V.str i=V.str j)=(i == j):=by
  rw [Bool.eq_iff_iff]
  simp
theorem dec_byt {i j:Array UInt8}:decide (V.byt i=V.byt j)=(i.toList == j.toList):=by
  rw [Bool.eq_iff_iff]
  cases i
  cases j
  simp
section
variable {X:Cx} {a b c:Expr} {ta tb tc:TE} {pos:Pos}
theorem fin_bl {pins:List (Addr×Obj)}{σ:St}{H:Hp}{s:Shared}{Q:VK}{k k':Bool}(I:Inv X pins σ H s)(q:Q (.bl k) H)(e:k=k'):EP X pins σ Q (.bool k') s:=by
  subst e
  exact⟨.bl k,H,I,rfl,q⟩
theorem op_eq:OpR X (compareOp .Eq) rEq:=by
  intro pins s σ H x y v u Q I rx ry h
  obtain⟨hs,q⟩:=h
  cases x with
  | non=>
    cases rx
    cases y with
    | non=>cases ry;exact PySem.EqNone.eq_none_none (fin_bl I q (by simp))
    | bl j=>cases ry;exact PySem.EqNone.eq_none_bool (fin_bl I q (by simp))
    | int j=>obtain⟨t',rfl⟩:=ry;exact PySem.EqNone.eq_none_int (fin_bl I q (by simp))
    | str j=>obtain⟨t',rfl⟩:=ry;exact PySem.EqNone.eq_none_str (fin_bl I q (by simp))
    | _=>exact absurd (show false=true from hs) Bool.false_ne_true
  | bl i=>
    cases rx
    cases y with
    | non=>cases ry;exact PySem.EqNone.eq_bool_none (fin_bl I q (by simp))
    | bl j=>cases ry;exact eq_bool (fin_bl I q dec_bl)
    | str j=>obtain⟨t',rfl⟩:=ry;exact PySem.EqMixed.eq_bool_str (fin_bl I q (by simp))
    | _=>exact absurd (show false=true from hs) Bool.false_ne_true
  | int i=>
    obtain⟨t,rfl⟩:=rx
    cases y with
    | non=>cases ry;exact PySem.EqNone.eq_int_none (fin_bl I q (by simp))
    | int j=>obtain⟨t',rfl⟩:=ry;exact eq_int (fin_bl I q dec_int)
    | str j=>obtain⟨t',rfl⟩:=ry;exact PySem.EqMixed.eq_int_str (fin_bl I q (by simp))
    | _=>exact absurd (show false=true from hs) Bool.false_ne_true
  | str i=>
    obtain⟨t,rfl⟩:=rx
    cases y with
    | non=>cases ry;exact PySem.EqNone.eq_str_none (fin_bl I q (by simp))
    | bl j=>cases ry;exact PySem.EqMixed.eq_str_bool (fin_bl I q (by simp))
    | int j=>obtain⟨t',rfl⟩:=ry;exact PySem.EqMixed.eq_str_int (fin_bl I q (by simp))
    | str j=>obtain⟨t',rfl⟩:=ry;exact eq_str (fin_bl I q dec_str)
    | _=>exact absurd (show false=true from hs) Bool.false_ne_true
  | byt i=>
    obtain⟨t,rfl⟩:=rx
    cases y with
    | byt j=>obtain⟨t',rfl⟩:=ry;exact PySem.W.eq_bytes (fin_bl I q dec_byt)
    | _=>exact absurd (show false=true from hs) Bool.false_ne_true
  | _=>cases y<;>exact absurd (show false=true from hs) Bool.false_ne_true
theorem op_ne:OpR X (compareOp .NotEq) rNe:=by
  intro pins s σ H x y v u Q I rx ry h
  obtain⟨hs,q⟩:=h
  cases x with
  | non=>
    cases rx
    cases y with
    | non=>cases ry;exact PySem.EqNone.ne_none_none (fin_bl I q (by simp))
    | bl j=>cases ry;exact PySem.EqNone.ne_none_bool (fin_bl I q (by simp))
    | int j=>obtain⟨t',rfl⟩:=ry;exact PySem.EqNone.ne_none_int (fin_bl I q (by simp))
    | str j=>obtain⟨t',rfl⟩:=ry;exact PySem.EqNone.ne_none_str (fin_bl I q (by simp))
    | _=>exact absurd (show false=true from hs) Bool.false_ne_true
  | bl i=>
    cases rx
    cases y with
    | non=>cases ry;exact PySem.EqNone.ne_bool_none (fin_bl I q (by simp))
    | bl j=>cases ry;exact ne_bool (fin_bl I q (congrArg not dec_bl))
    | str j=>obtain⟨t',rfl⟩:=ry;exact PySem.EqMixed.ne_bool_str (fin_bl I q (by simp))
    | _=>exact absurd (show false=true from hs) Bool.false_ne_true
  | int i=>
    obtain⟨t,rfl⟩:=rx
    cases y with
    | non=>cases ry;exact PySem.EqNone.ne_int_none (fin_bl I q (by simp))
    | int j=>obtain⟨t',rfl⟩:=ry;exact ne_int (fin_bl I q (congrArg not dec_int))
    | str j=>obtain⟨t',rfl⟩:=ry;exact PySem.EqMixed.ne_int_str (fin_bl I q (by simp))
    | _=>exact absurd (show false=true from hs) Bool.false_ne_true
  | str i=>
    obtain⟨t,rfl⟩:=rx
    cases y with
    | non=>cases ry;exact PySem.EqNone.ne_str_none (fin_bl I q (by simp))
    | bl j=>cases ry;exact PySem.EqMixed.ne_str_bool (fin_bl I q (by simp))
    | int j=>obtain⟨t',rfl⟩:=ry;exact PySem.EqMixed.ne_str_int (fin_bl I q (by simp))
    | str j=>obtain⟨t',rfl⟩:=ry;exact ne_str (fin_bl I q (congrArg not dec_str))
    | _=>exact absurd (show false=true from hs) Bool.false_ne_true
  | byt i=>
    obtain⟨t,rfl⟩:=rx
    cases y with
    | byt j=>obtain⟨t',rfl⟩:=ry;exact PySem.W.ne_bytes (fin_bl I q (congrArg not dec_byt))
    | _=>exact absurd (show false=true from hs) Bool.false_ne_true
  | _=>cases y<;>exact absurd (show false=true from hs) Bool.false_ne_true
theorem op_lt:OpR X (compareOp .Lt) (rI0 fun i j=>.bl (decide (i<j))):=opB0 fun _ _ _ _ _ _ _ q=>lt_int q
theorem op_gt:OpR X (compareOp .Gt) (rI0 fun i j=>.bl (decide (j<i))):=opB0 fun _ _ _ _ _ _ _ q=>gt_int q
theorem op_in_str:OpR X (compareOp .In) (fun x y H Q=>∃ i j,x=.str i/\y=.str j/\Q (.bl (!(Builtin.Str.occurrences j i 0 j.length 1).isEmpty)) H):=by
  intro pins s σ H x y v u Q I rx ry h
  obtain⟨i,j,rfl,rfl,q⟩:=h
  obtain⟨t,rfl⟩:=rx
  obtain⟨t',rfl⟩:=ry
  exact in_str (fin_bl I q rfl)
theorem op_isN:OpR X (compareOp .Is) (fun x y H Q=>y=.non/\Q (.bl (decide (x=.non))) H):=by
  intro pins s σ H x y v u Q I rx ry h
  obtain⟨rfl,q⟩:=h
  cases ry
  refine is_none_gen (fin_bl I q ?_)
  cases x<;>first
    | (cases rx;rfl)
    | (obtain⟨t,rfl⟩:=rx;rfl)
theorem op_notN:OpR X (compareOp .IsNot) (fun x y H Q=>y=.non/\Q (.bl (!decide (x=.non))) H):=by
  intro pins s σ H x y v u Q I rx ry h
  obtain⟨rfl,q⟩:=h
  cases ry
  refine isnot_none_gen (fin_bl I q ?_)
  cases x<;>first
    | (cases rx;rfl)
    | (obtain⟨t,rfl⟩:=rx;rfl)
theorem op_notin_str:OpR X (compareOp .NotIn) (fun x y H Q=>∃ i j,x=.str i/\y=.str j/\Q (.bl (!(!(Builtin.Str.occurrences j i 0 j.length 1).isEmpty))) H):=by
  intro pins s σ H x y v u Q I rx ry h
  obtain⟨i,j,rfl,rfl,q⟩:=h
  obtain⟨t,rfl⟩:=rx
  obtain⟨t',rfl⟩:=ry
  exact notIn_str (fin_bl I q rfl)
theorem OpR.or {f:Value->Value->Sem Value}{r r':R2}(h:OpR X f r)(h':OpR X f r'):OpR X f (fun x y H Q=>r x y H Q\/r' x y H Q):=by
  intro pins s σ H x y v u Q I rx ry q
  rcases q with q | q
  · exact h pins s σ H x y v u Q I rx ry q
  · exact h' pins s σ H x y v u Q I rx ry q
theorem nomark (b:Expr){op:CmpOp}(h:op≠.In:=by decide) (h2:op≠.NotIn:=by decide):behindInMarks op b=false:=by
  have e1:(op == CmpOp.In)=false:=by cases op<;>first | rfl | exact absurd rfl h
  have e2:(op == CmpOp.NotIn)=false:=by cases op<;>first | rfl | exact absurd rfl h2
  cases b<;>simp [behindInMarks,e1,e2]
theorem pe_cmpR {op:CmpOp}{r:R2}(ho:OpR X (compareOp op) r)(ha:PE X a ta)(hb:PE X b tb)(hm:behindInMarks op b=false):PE X (.Compare a [op] [b] pos) (tOp r ta tb):=by
  intro pins s σ H Q I h
  exact wpAny_Compare1 (binT ha hb I h fun v u s2 x y H2 I2 rx ry q=>ho pins s2 σ H2 x y v u Q I2 rx ry q) hm
noncomputable def tTest (t:TE):TT:=fun σ H Q=>t σ H fun x H'=>∃ k,x=.bl k/\Q k H'
theorem pt_cmpR {op:CmpOp}{r:R2}(ho:OpR X (compareOp op) r)(ha:PE X a ta)(hb:PE X b tb)(hm:behindInMarks op b=false):PT X (.Compare a [op] [b] pos) (tTest (tOp r ta tb)):=by
  intro pins s σ H Q I h
  refine wpAny_isTrue_Compare1 (thn (ha pins s σ H _ I h) fun v s1 ⟨x,H1,I1,r1,q1⟩=>thn (hb pins s1 σ H1 _ I1 q1) fun u s2 ⟨y,H2,I2,r2,q2⟩=>
    thn (ho pins s2 σ H2 x y v u _ I2 r1 r2 q2) fun c s3 ⟨z,H3,I3,r3,k,e,q3⟩=>?_) hm
  subst e
  cases r3
  exact wpAny_truthy_bool ⟨H3,I3,q3⟩
noncomputable def tChain (r r':R2)(ta tb tc:TE):TE:=fun σ H Q=>ta σ H fun x H1=>tb σ H1 fun y H2=>r x y H2 fun z H3=>∃ k,z=.bl k /\
  (if k=true then tc σ H3 fun w' H4=>r' y w' H4 Q else Q (.bl false) H3)
def TruV (K:PySem.W.Frag)(x:V)(H:Hp)(k:Bool):Prop:=
  match x with
  | .non=>k=false
  | .bl b=>k=b
  | .int i=>k=(i != 0)
  | .str y=>y.length<=sizeLine/\k=((y.length:Int) != 0)
  | .byt y=>y.size<=sizeLine/\k=((y.size:Int) != 0)
  | .ref p=>(∃ xs,SqL K H p xs/\k = !xs.isEmpty)\/(∃ xs,SqT K H p xs/\k = !xs.isEmpty)\/∃ kvs,H p=some (.dK kvs)/\k = !kvs.isEmpty
  | _=>False
theorem isEmpty_kv {κ:Type}{kvs:List (κ×V)}{vs:List (κ×Value)}(r:KV kvs vs):(!vs.isEmpty) = !kvs.isEmpty:=by
  cases r<;>rfl
theorem isEmpty_of {xs:List V}{its:List Value}(r:Vals xs its):(!its.toArray.isEmpty) = !xs.isEmpty:=by
  cases r<;>simp
theorem line63:(sizeLine:Nat)<2 ^ 63:=by rw [sizeLine_eq];decide
theorem tru_ok:TruR X (fun x H Q=>∃ k,TruV X.K x H k/\Q k H):=by
  intro pins s σ H x v Q I rx h
  obtain⟨k,e,q⟩:=h
  have hl:=line63
  have hs:sizeLine=16777216:=sizeLine_eq
  cases x with
  | non=>
    cases rx
    have e':k=false:=e
    subst e'
    exact truthy_none ⟨H,I,q⟩
  | bl b=>
    cases rx
    have e':k=b:=e
    subst e'
    exact wpAny_truthy_bool ⟨H,I,q⟩
  | int i=>
    obtain⟨t,rfl⟩:=rx
    have e':k=(i != 0):=e
    subst e'
    exact PySem.P.truthy_int ⟨H,I,q⟩
  | str y=>
    obtain⟨t,rfl⟩:=rx
    obtain⟨hy,e'⟩:y.length<=sizeLine/\k=((y.length:Int) != 0):=e
    subst e'
    exact PySem.P.truthy_str (by lia) ⟨H,I.tok _,q⟩
  | byt y=>
    obtain⟨t,rfl⟩:=rx
    obtain⟨hy,e'⟩:y.size<=sizeLine/\k=((y.size:Int) != 0):=e
    subst e'
    exact PySem.W.truthy_bytes (by lia) ⟨H,I.tok _,q⟩
  | ref p=>
    cases rx
    have e':(∃ xs,SqL X.K H p xs/\k = !xs.isEmpty)\/(∃ xs,SqT X.K H p xs/\k = !xs.isEmpty)\/∃ kvs,H p=some (.dK kvs)/\k = !kvs.isEmpty:=e
    rcases e' with⟨xs,hx,e'⟩ | ⟨xs,hx,e'⟩ | ⟨kvs,hx,e'⟩
    · subst e'
      obtain⟨its,r,pl,hz⟩:=I.list hx
      have hlen:=r.length
      exact wpAny_truthy_list pl.isList (by simp only [List.size_toArray];lia) ⟨H,I.tok _,by rw [isEmpty_of r];exact q⟩
    · subst e'
      obtain⟨its,r,pl,hz⟩:=I.tuple hx
      have hlen:=r.length
      exact truthy_tuple pl (by simp only [List.size_toArray];lia) ⟨H,I.tok _,by rw [isEmpty_of r];exact q⟩
    · subst e'
      obtain⟨hz,hS,vs,r,m⟩:kvs.length<=sizeLine/\(p == sysModules)=false/\∃ vs,KV kvs vs/\s.heap.DictOf (mixKind X.prog X.w) p vs:=I.hok p _ hx
      have hlen:kvs.length=vs.length:=Paired.length r
      exact wpAny_truthy_dict hS m (by lia) ⟨H,I.tok _,by rw [isEmpty_kv r];exact q⟩
  | _=>exact(show False from e).elim
theorem pt_truth (ha:PE X a ta)(he:∀ whole,isTrue a X.env whole=(do let v ← whole;standAt a.pos;holding [v] (truthy v))) :
    PT X a (fun σ H Q=>ta σ H fun x H'=>∃ k,TruV X.K x H' k/\Q k H'):=by
  intro pins s σ H Q I h
  exact isTrue_plain (thn (ha pins s σ H _ I h) fun v s1 ⟨x,H1,I1,r1,q1⟩=>tru_ok pins s1 σ H1 x v Q I1 r1 q1) (he _)
theorem op_add_str:OpR X (binaryOp .Add) (fun x y H Q=>∃ i j,x=.str i/\y=.str j/\i.length+j.length<=sizeLine/\Q (.str (i++j)) H):=by
  intro pins s σ H x y v u Q I rx ry h
  obtain⟨i,j,rfl,rfl,hz,q⟩:=h
  obtain⟨t,rfl⟩:=rx
  obtain⟨t',rfl⟩:=ry
  exact add_str (fun t' tk=>⟨.str (i++j),H,I.tok _,⟨_,rfl⟩,q⟩) hz
theorem vals1 {x:V}{us:List Value}(r:Vals [x] us):∃ u,us=[u]/\RelV x u:=by
  cases r with
  | cons r1 r2=>cases r2;exact⟨_,rfl,r1⟩
theorem vals2 {x y:V}{us:List Value}(r:Vals [x,y] us):∃ u w',us=[u,w']/\RelV x u/\RelV y w':=by
  cases r with
  | cons r1 r2=>
    cases r2 with
    | cons r3 r4=>cases r4;exact⟨_,_,rfl,r1,r3⟩
theorem call_max2 (hc:X.calm=true):CallR X (.builtin "max") (fun xs H Q=>∃ i j,xs=[.int i,.int j]/\Q (.int (if j > i then j else i)) H):=by
  intro pins s σ H xs us Q I r h
  obtain⟨i,j,rfl,q⟩:=h
  obtain⟨u,w',rfl,⟨t,rfl⟩,⟨t',rfl⟩⟩:=vals2 r
  refine max_two_ints (I.ok.hd hc) fun h' tk k=>⟨_,H,I.kept k,?_,q⟩
  by_cases hj:j > i
  · rw [if_pos hj,if_pos hj];exact⟨_,rfl⟩
  · rw [if_neg hj,if_neg hj];exact⟨_,rfl⟩
theorem call_min2 (hc:X.calm=true):CallR X (.builtin "min") (fun xs H Q=>∃ i j,xs=[.int i,.int j]/\Q (.int (if j<i then j else i)) H):=by
  intro pins s σ H xs us Q I r h
  obtain⟨i,j,rfl,q⟩:=h
  obtain⟨u,w',rfl,⟨t,rfl⟩,⟨t',rfl⟩⟩:=vals2 r
  refine min_two_ints (I.ok.hd hc) fun h' tk k=>⟨_,H,I.kept k,?_,q⟩
  by_cases hj:j<i
  · rw [if_pos hj,if_pos hj];exact⟨_,rfl⟩
  · rw [if_neg hj,if_neg hj];exact⟨_,rfl⟩
theorem call_int1:CallR X (.type "int") (fun xs H Q=>(∃ i,xs=[.int i]/\Q (.int i) H)\/∃ k,xs=[.bl k]/\Q (.int (if k then 1 else 0)) H):=by
  intro pins s σ H xs us Q I r h
  rcases h with⟨i,rfl,q⟩ | ⟨k,rfl,q⟩
  · obtain⟨u,rfl,t,rfl⟩:=vals1 r
    exact call_int_int ⟨.int i,H,I,⟨_,rfl⟩,q⟩
  · obtain⟨u,rfl,r1⟩:=vals1 r
    cases r1
    exact call_int_bool ⟨.int (if k then 1 else 0),H,I.tok _,⟨_,rfl⟩,q⟩
end
end L2
namespace L2
open PySem PySem.Spec PyProof.Rows
structure ObjM (h:Heap)(x dx C:Addr)(mA:Str->Option Value):Prop where
  obj:h.get? x=some (PySem.W.instObj C dx)
  ns:h.Ns1 dx mA
  ne:dx≠x
theorem lookIn_ns {h:Heap}{dx:Addr}{mA:Str->Option Value}(n:h.Ns1 dx mA):∃ od,h.get? dx=some od/\∀ name,PySem.W.lookIn name od=some (mA name):=by
  obtain⟨o,es,ep,ho,hd,hk,_,hm⟩:=n
  refine⟨o,ho,fun name=>?_⟩
  have e:=hm name
  unfold nsFind findBy at e
  rw [← Array.find?_toList] at e
  unfold PySem.W.lookIn
  rw [hd]
  dsimp only
  split
  · rename_i y q
    rw [q] at e
    exact congrArg some e
  · rename_i q
    rw [q] at e
    have a:es.toList.any (·.refKey)=false:=by
      rw [List.any_eq_false]
      intro y hy
      obtain⟨z,t,hkey⟩:=hk y (Array.mem_toList_iff.mp hy)
      simp [DictEntry.refKey,hkey]
    have a':¬ es.toList.any (·.refKey)=true:=by rw [a];exact Bool.false_ne_true
    rw [if_neg a']
    exact congrArg some e
theorem ObjM.look {h:Heap}{x dx C:Addr}{mA:Str->Option Value}(I:ObjM h x dx C mA):∃ od,PySem.W.InstAt h x (PySem.W.instObj C dx) C (some od)/\∀ name,PySem.W.lookIn name od=some (mA name):=
  let ⟨od,ho,hl⟩:=lookIn_ns I.ns
  ⟨od,⟨I.obj,rfl,rfl,ho⟩,hl⟩
section
variable {prog:Program} {w:World} {A:Around} {E:Value->Shared->Prop} {s:Shared} {K:PySem.W.Frag} {x dx C f:Addr} {mA:Str->Option Value} {name:Str} {v:Value}
theorem get_map {expr:Bool}{Q:Value->Shared->Prop}(X:K.In s.heap)(I:ObjM s.heap x dx C mA)(hg:PySem.W.plainGet K C name=true)(hh:PySem.W.hasDictIn K C=true)
    (ha:PySem.W.findIn K (.ref C) name=some none) (hv:mA name=some v) (hv':PySem.W.handedIn v=true) (h:Q v { s with toks:=s.toks+1 }) :
    wpAny (model prog w) A (getAttr (.ref x) name expr) Q E s:=by
  obtain⟨od,J,hl⟩:=I.look
  exact PySem.W.get_value X J (PySem.W.plainGet_of hg).1 (PySem.W.findObj_own hh ha rfl (by rw [hl,hv])) hv' h
theorem get_meth {pl:Sem Bool}{Q:Value×List Value->Shared->Prop}(X:K.In s.heap)(I:ObjM s.heap x dx C mA)(hg:PySem.W.plainGet K C name=true)
    (hf:PySem.W.findIn K (.ref C) name=some (some (.ref f))) (ht:PySem.W.isFn K (.ref f)=true) (hv:mA name=none) (h:Q (.ref f,[.ref x]) s) :
    wpAny (model prog w) A (getMethod (.ref x) name pl) Q E s:=by
  obtain⟨od,J,hl⟩:=I.look
  exact PySem.W.method_fn X J (PySem.W.plainGet_of hg).1 (PySem.W.plainGet_of hg).2 hf (beq_iff_eq.mp ht) (by show(PySem.W.lookIn name od).map (·.isSome)=some false;rw [hl,hv];rfl) h
theorem set_map {ns:List Str}{Q:Unit->Shared->Prop}(X:K.In s.heap)(I:ObjM s.heap x dx C mA)
    (hs:PySem.W.findIn K (.ref C) "__setattr__" = some (some (.builtin "object.__setattr__"))) (hp:PySem.W.plainOver K C=true) (ht:PySem.W.takerIn K C name=some none) (hh:PySem.W.hasDictIn K C=true)
    (hw:PySem.Within mA ns) (hsz:ns.length<=sizeLine)
    (h:∀ h',ObjM h' x dx C (fun y=>if y=name then some v else mA y)->Heap.SameBut dx s.heap h'->Q () { s with heap:=h',toks:=s.toks+2 }) :
    wpAny (model prog w) A (setAttr (.ref x) name v) Q E s:=by
  obtain⟨od,J,hl⟩:=I.look
  refine PySem.W.set_plain X J hs (PySem.W.osa_open (s:={ s with toks:=s.toks+1 }) (r:=none) X J hp ht fun b=>?_)
  obtain⟨cd,hc,hd'⟩:=PySem.W.any_some hh
  have hx:s.heap.get? x=some ⟨.ref C,some dx,.plain,#[]⟩:=I.obj
  refine wpAny_bind (wpAny_pure (wpAny_bind (wpAny_bind (wpAny_loadPart hx (wpAny_bind (PySem.W.Looks.here (s:={ s with toks:=s.toks+1 }) (PySem.W.looks_clsIn X hc) ?_))))))
  rw [hd']
  refine wpAny_pure (a:=some dx) (wpAny_bind (wpAny_pure (wpAny_bind ?_)))
  refine wpAny_nsSet1 (s:={ s with toks:=s.toks+1 }) I.ns fun h' hn2 hs2=>?_
  obtain⟨oD,esD,epD,hoD,hdD,hcD⟩:=hn2.count (PySem.Within.cons name v hw)
  refine wpAny_bind (wpAny_lookBehind hoD (by rw [hdD];exact pastItsLine_dict (Nat.le_trans hcD (by rw [List.length_cons];lia))) ?_)
  exact wpAny_pure (h _ ⟨(hs2.2 _ (Ne.symm I.ne)).trans I.obj,hn2,I.ne⟩ hs2)
theorem make_map {R:Result->Shared->Prop}{vs:List Value}{kw:List (Str×Value)}(X:K.In s.heap)(hm:PySem.W.makesIn K C=true)
    (hi:PySem.W.findIn K (.ref C) "__init__" = some (some (.ref f))) (hf:PySem.W.typeIn K (.ref f)=some (.type "function"))
    (h:codeAny (model prog w) (A.under (.builtin "type.__call__" ⟨.ref C::vs,kw⟩)) (.call (.ref f) ⟨.ref (s.heap.objs.size+1)::vs,kw⟩) (PySem.W.InitBack (s.heap.objs.size+1) R)
      { s with heap:=(s.heap.push PySem.W.emptyDict).push (PySem.W.instObj C s.heap.objs.size) }) :
    codeAny (model prog w) A (.call (.ref C) ⟨vs,kw⟩) R s:=by
  obtain⟨hh,g,d,t,os⟩:=s
  exact PySem.W.make_core (PySem.W.makes_of X hm) (PySem.W.looks_findIn X hi) (fun self=>PySem.W.bind_fn X self hf) (.inl rfl) h
end
noncomputable def putF (f:Str)(v:V):List (Str×V)->List (Str×V)
  | []=>[(f,v)]
  | (g,x)::r=>if g=f then(g,v)::r else(g,x)::putF f v r
theorem lookup_putF (f g:Str)(v:V):∀ fs:List (Str×V),(putF f v fs).lookup g=if g=f then some v else fs.lookup g
  | []=>by
    show List.lookup g [(f,v)]=_
    by_cases h:g=f
    · have hb:(g == f)=true:=beq_iff_eq.mpr h
      simp only [List.lookup,hb,if_pos h]
    · have hb:(g == f)=false:=beq_eq_false_iff_ne.mpr h
      simp only [List.lookup,hb,if_neg h]
  | (k,x)::r=>by
    have ih:=lookup_putF f g v r
    rw [show putF f v ((k,x)::r)=(if k=f then(k,v)::r else(k,x)::putF f v r) from rfl]
    by_cases hk:k=f
    · rw [if_pos hk]
      by_cases h:g=k
      · have hb:(g == k)=true:=beq_iff_eq.mpr h
        simp only [List.lookup,hb,if_pos (h.trans hk)]
      · have hb:(g == k)=false:=beq_eq_false_iff_ne.mpr h
        simp only [List.lookup,hb,if_neg (fun e:g=f=>h (e.trans hk.symm))]
    · rw [if_neg hk]
      by_cases h:g=k
      · have hb:(g == k)=true:=beq_iff_eq.mpr h
        simp only [List.lookup,hb,if_neg (fun e:g=f=>hk (h.symm.trans e))]
      · have hb:(g == k)=false:=beq_eq_false_iff_ne.mpr h
        simp only [List.lookup,hb]
        exact ih
theorem keys_putF (f:Str)(v:V):∀ fs:List (Str×V),f∈(putF f v fs).map (·.1)/\∀ g,g∈fs.map (·.1)->g∈(putF f v fs).map (·.1)
  | []=>⟨by simp [putF],fun g h=>by simp at h⟩
  | (k,x)::r=>by
    obtain⟨i1,i2⟩:=keys_putF f v r
    rw [show putF f v ((k,x)::r)=(if k=f then(k,v)::r else(k,x)::putF f v r) from rfl]
    by_cases hk:k=f
    · rw [if_pos hk]
      subst hk
      exact⟨by simp,fun g h=>by simpa using h⟩
    · rw [if_neg hk]
      refine⟨?_,fun g h=>?_⟩
      · rw [List.map_cons]
        exact List.mem_cons_of_mem _ i1
      · rw [List.map_cons] at h ⊢
        rcases List.mem_cons.mp h with e | e
        · exact List.mem_cons.mpr (.inl e)
        · exact List.mem_cons_of_mem _ (i2 g e)
theorem length_putF (f:Str)(v:V):∀ fs:List (Str×V),(putF f v fs).length<=fs.length+1
  | []=>by simp [putF]
  | (k,x)::r=>by
    have ih:=length_putF f v r
    rw [show putF f v ((k,x)::r)=(if k=f then(k,v)::r else(k,x)::putF f v r) from rfl]
    by_cases hk:k=f
    · rw [if_pos hk,List.length_cons,List.length_cons];lia
    · rw [if_neg hk,List.length_cons,List.length_cons];lia
theorem RelO.some_of {v:V}{o:Option Value}(r:RelO (some v) o):∃ u,o=some u/\RelV v u:=by
  cases o with
  | none=>exact(show False from r).elim
  | some u=>exact⟨u,rfl,r⟩
theorem RelO.none_of {o:Option Value}(r:RelO none o):o=none:=by
  cases o with
  | none=>rfl
  | some u=>exact(show False from r).elim
theorem handed_of {v:V}{u:Value}(r:RelV v u):PySem.W.handedIn u=true:=by
  cases v with
  | non=>cases (show u=Value.none from r);rfl
  | bl b=>cases (show u=Value.bool b from r);rfl
  | int i=>obtain⟨t,e⟩:=(show ∃ t,u=Value.int i t from r);cases e;rfl
  | str x=>obtain⟨t,e⟩:=(show ∃ t,u=Value.str x t from r);cases e;rfl
  | byt b=>obtain⟨t,e⟩:=(show ∃ t,u=Value.bytes b t from r);cases e;rfl
  | flt b=>obtain⟨t,e⟩:=(show ∃ t,u=Value.float b t from r);cases e;rfl
  | ref a=>cases (show u=Value.ref a from r);rfl
  | ty n=>cases (show u=Value.type n from r);rfl
section
variable {P:Program} {w:World} {H H':Hp} {h h':Heap} {a C dx:Addr} {fs fs':List (Str×V)}
theorem ins_get (hok:HOk P w H h)(e:H a=some (.ins C dx fs)):∃ mA,ObjM h a dx C mA/\(∀ f,RelO (fs.lookup f) (mA f))/\PySem.Within mA (fs.map (·.1))/\fs.length<=1000/\H dx=some (.own a):=by
  obtain⟨d,z,ne,ob,mA,n,r,q⟩:=(show ObjOk P w H h a (.ins C dx fs) from hok a _ e)
  exact⟨mA,⟨ob,n,ne⟩,r,q,z,d⟩
end
structure Cls (K:PySem.W.Frag)(C:Addr):Prop where
  pg:PySem.W.plainGet K C Str.empty=true
  hd:PySem.W.hasDictIn K C=true
  po:PySem.W.plainOver K C=true
  sa:PySem.W.findIn K (.ref C) "__setattr__" = some (some (.builtin "object.__setattr__"))
theorem Cls.get {K:PySem.W.Frag}{C:Addr}(c:Cls K C)(f:Str):PySem.W.plainGet K C f=true:=c.pg
def NoAttr (K:PySem.W.Frag)(C:Addr)(f:Str):Prop:=PySem.W.findIn K (.ref C) f=some none
theorem NoAttr.taker {K:PySem.W.Frag}{C:Addr}{f:Str}(n:NoAttr K C f):PySem.W.takerIn K C f=some none:=by
  unfold PySem.W.takerIn
  rw [show PySem.W.findIn K (.ref C) f=some none from n]
  rfl
structure Meth (K:PySem.W.Frag)(C:Addr)(m:Str)(f:Addr):Prop where
  at_:PySem.W.findIn K (.ref C) m=some (some (.ref f))
  fn:PySem.W.isFn K (.ref f)=true
  kp:PySem.W.keepIn K (.ref f)=true
section
variable {X:Cx} {pins:List (Addr×Obj)} {σ:St} {H:Hp} {s:Shared} {a C dx:Addr} {fs:List (Str×V)} {f:Str} {v:V} {A:Around} {E:Value->Shared->Prop}
theorem getattr_ok {b:Bool}{Q:Value->Shared->Prop}(I:Inv X pins σ H s)(e:H a=some (.ins C dx fs))(c:Cls X.K C)(n:NoAttr X.K C f)(l:fs.lookup f=some v)
    (h:∀ u s',Inv X pins σ H s'->RelV v u->Q u s'):wpAny (model X.prog X.w) A (getAttr (.ref a) f b) Q E s:=by
  obtain⟨mA,O,r,_,_,_⟩:=ins_get I.hok e
  obtain⟨u,hu,ru⟩:=RelO.some_of (v:=v) (o:=mA f) (by rw [← l];exact r f)
  exact get_map I.kIn O (c.get f) c.hd n hu (handed_of ru) (h u _ (I.tok _) ru)
theorem getmeth_ok {m:Str}{g:Addr}{pl:Sem Bool}{Q:Value×List Value->Shared->Prop}(I:Inv X pins σ H s)(e:H a=some (.ins C dx fs))(c:Cls X.K C)(k:Meth X.K C m g)(l:fs.lookup m=none)
    (h:Q (.ref g,[.ref a]) s):wpAny (model X.prog X.w) A (getMethod (.ref a) m pl) Q E s:=by
  obtain⟨mA,O,r,_,_,_⟩:=ins_get I.hok e
  have hn:mA m=none:=RelO.none_of (by rw [← l];exact r m)
  exact get_meth I.kIn O (c.get m) k.at_ k.fn hn h
theorem setattr_ok {y:V}{u:Value}{Q:Unit->Shared->Prop}(I:Inv X pins σ H s)(e:H a=some (.ins C dx fs))(c:Cls X.K C)(n:NoAttr X.K C f)(hl:fs.length<1000)(ry:RelV y u)
    (h:∀ s',Inv X pins σ (upd H a (.ins C dx (putF f y fs))) s'->Q () s'):wpAny (model X.prog X.w) A (setAttr (.ref a) f u) Q E s:=by
  obtain⟨mA,O,r,wi,_,ho⟩:=ins_get I.hok e
  have hz:(fs.map (·.1)).length<=sizeLine:=by rw [List.length_map,sizeLine_eq];lia
  refine set_map I.kIn O c.sa c.po n.taker c.hd wi hz fun h' O' sb=>h _ ?_
  have hd:∃ o,h'.get? dx=some o:=let ⟨o,_,_,e',_⟩:=O'.ns;⟨o,e'⟩
  refine I.write (x:=a) (e:=dx) (by rw [e];exact True.intro) (.inr ho) (fun b q hb z=>(sb.2 b hb).trans z) hd ?_
  refine⟨by rw [upd_ne O.ne];exact ho,?_,O.ne,O'.obj,_,O'.ns,fun g=>?_,fun g hg=>?_⟩
  · have:=length_putF f y fs;lia
  · show RelO ((putF f y fs).lookup g) (if g=f then some u else mA g)
    rw [lookup_putF]
    by_cases q:g=f
    · rw [if_pos q,if_pos q];exact ry
    · rw [if_neg q,if_neg q];exact r g
  · by_cases q:g=f
    · rw [q];exact(keys_putF f y fs).1
    · refine(keys_putF f y fs).2 g (wi g fun z=>hg ?_)
      show(if g=f then some u else mA g)=none
      rw [if_neg q];exact z
theorem Inv.made (I:Inv X pins σ H s):Inv X pins σ (upd (upd H s.heap.objs.size (.own (s.heap.objs.size+1))) (s.heap.objs.size+1) (.ins C s.heap.objs.size []))
    { s with heap:=(s.heap.push PySem.W.emptyDict).push (PySem.W.instObj C s.heap.objs.size) }:=by
  have e1:(s.heap.push PySem.W.emptyDict).get? s.heap.objs.size=some PySem.W.emptyDict:=Heap.get?_push_size s.heap rfl
  have e2:((s.heap.push PySem.W.emptyDict).push (PySem.W.instObj C s.heap.objs.size)).get? (s.heap.objs.size+1)=some (PySem.W.instObj C s.heap.objs.size):=by
    have:=Heap.get?_push_size (s.heap.push PySem.W.emptyDict) (o:=PySem.W.instObj C s.heap.objs.size) rfl
    rwa [Heap.size_push] at this
  have e3:(s.heap.push PySem.W.emptyDict).Ns s.heap.objs.size (fun _=>none):=⟨PySem.W.emptyDict,#[],_,e1,rfl,(fun e he=>absurd he (by simp)),fun _=>rfl⟩
  have I1:=I.laid (a:=s.heap.objs.size) (o:=.own (s.heap.objs.size+1)) (h':=s.heap.push PySem.W.emptyDict) (t':=s.toks) (fun b u q=>Heap.get?_push_of_some _ q) (Nat.le_refl _) ⟨_,e1⟩
  refine I1.laid (a:=s.heap.objs.size+1) (o:=.ins C s.heap.objs.size []) (t':=s.toks) (fun b u q=>Heap.get?_push_of_some _ q) (Nat.le_of_eq (Heap.size_push _ _)) ?_
  have ne:s.heap.objs.size≠s.heap.objs.size+1:=Nat.ne_of_lt (Nat.lt_succ_self _)
  refine⟨by rw [upd_ne ne,upd_same],Nat.zero_le _,ne,e2,fun _=>none,(Heap.Ns1.of_empty e3).at fun o q=>Heap.get?_push_of_some _ q,fun _=>True.intro,fun y hy=>absurd rfl hy⟩
theorem attr_of {prog:Program}{w:World}{env:Env}{e:Expr}{f:Str}{pos:Pos}{s:Shared}{Q:Value->Shared->Prop}(hb:attributeBase e f env (eval e env)=eval e env)
    (h:wpAny (model prog w) A (eval e env) (fun o s₁=>wpAny (model prog w) A (getAttr o f true) Q E s₁) E s):wpAny (model prog w) A (eval (.Attribute e f pos) env) Q E s:=
  Attribute_any_ h (by rw [arm_eval_Attribute,hb])
end
noncomputable def tFld (K:PySem.W.Frag)(ta:TE)(f:Str):TE:=fun σ H Q=>ta σ H fun x H1=>∃ a C dx fs v,x=.ref a/\H1 a=some (.ins C dx fs)/\Cls K C/\NoAttr K C f/\fs.lookup f=some v/\Q v H1
noncomputable def sFld (K:PySem.W.Frag)(ta tv:TE)(f:Str):TS:=fun D σ H=>tv σ H fun y H1=>ta σ H1 fun x H2=>∃ a C dx fs,x=.ref a/\H2 a=some (.ins C dx fs)/\Cls K C/\NoAttr K C f/\fs.length<1000 /\
  D.nx σ (upd H2 a (.ins C dx (putF f y fs)))
section
variable {X:Cx} {o e value:Expr} {f:Str} {pos pos' tpos:Pos} {ta tv:TE}
theorem pe_fld (he:PE X e ta)(hb:attributeBase e f X.env (eval e X.env)=eval e X.env):PE X (.Attribute e f pos) (tFld X.K ta f):=by
  intro pins s σ H Q I h
  refine attr_of hb (thn (he pins s σ H _ I h) fun u s1 ⟨x,H1,I1,rx,a,C,dx,fs,v,ex,ea,c,n,l,q⟩=>?_)
  subst ex
  obtain rfl:u=Value.ref a:=rx
  exact getattr_ok I1 ea c n l fun u' s2 I2 ru=>⟨v,H1,I2,ru,q⟩
theorem ps_fld (ha:PE X o ta)(hv:PE X value tv)(hs:swapsWith value (some (.Attribute o f pos')) pos.line X.env=pure false):PS X (.Assign [.Attribute o f pos'] value pos) (sFld X.K ta tv f):=by
  intro pins s σ H D I h
  refine plainObj_wpAny_Assign_Attribute (thn (hv pins s σ H _ I h) fun u s1 ⟨y,H1,I1,ry,q⟩=>thn (ha pins s1 σ H1 _ I1 q) fun ov s2 ⟨x,H2,I2,rx,a,C,dx,fs,ex,ea,c,n,l,q2⟩=>?_) hs
  subst ex
  obtain rfl:ov=Value.ref a:=rx
  exact setattr_ok I2 ea c n l ry fun s3 I3=>⟨σ,_,I3,q2⟩
end
section
variable {X:Cx} {pins:List (Addr×Obj)} {σ:St} {H:Hp} {s:Shared} {A:Around} {E:Value->Shared->Prop} {Q:Value->Shared->Prop} {c:Value} {b:Bool}
inductive TyOf (K:PySem.W.Frag)(H:Hp):V->Value->Prop where
  | non:TyOf K H .non (.type "NoneType")
  | bl (x:Bool):TyOf K H (.bl x) (.type "bool")
  | int (i:Int):TyOf K H (.int i) (.type "int")
  | str (x:Str):TyOf K H (.str x) (.type "str")
  | flt (x:UInt64):TyOf K H (.flt x) (.type "float")
  | lst {a:Addr} {xs:List V} (e:H a=some (.lst xs)):TyOf K H (.ref a) (.type "list")
  | frz {a:Addr} {o:Obj} {xs:List V} (e:H a=some (.frz o (.lst xs))):TyOf K H (.ref a) (.type "list")
  | tup {a:Addr} {xs:List V} (e:H a=some (.tup xs)):TyOf K H (.ref a) (.type "tuple")
  | dK {a:Addr} {kvs:List (Key×V)} (e:H a=some (.dK kvs)):TyOf K H (.ref a) (.type "dict")
  | dT {a:Addr} {kvs:List (List Key×V)} (e:H a=some (.dT kvs)):TyOf K H (.ref a) (.type "dict")
  | ins {a C dx:Addr} {fs:List (Str×V)} (e:H a=some (.ins C dx fs)) (cl:Cls K C) (ha:PySem.W.findIn K (.ref C) "__class__" = some (some (.builtin "object.__class__")))
      (hn:PySem.W.specialIn K (.builtin "object.__class__") "__get__" = some (some (.builtin "getset_descriptor.__get__"))) (htk:PySem.W.takesIn K (.builtin "object.__class__")=some true)
      (hm:PySem.W.mroIn K C (.type "object")=some true):TyOf K H (.ref a) (.ref C)
theorem isinst_ok {x:V}{u t:Value}(I:Inv X pins σ H s)(rx:RelV x u)(ty:TyOf X.K H x t)(e:PySem.W.kitOne X.K t c=some b)(h:∀ tk,Q (.bool b) { s with toks:=tk }) :
    wpAny (model X.prog X.w) A (call (.builtin "isinstance") [u,c]) Q E s:=by
  cases ty with
  | non=>cases (show u=Value.none from rx);exact PySem.W.kia_one PySem.W.kitx_none I.kIn True.intro e (fun z=>nomatch z) h
  | bl y=>cases (show u=Value.bool y from rx);exact PySem.W.kia_one PySem.W.kitx_bool I.kIn True.intro e (fun z=>nomatch z) h
  | int i=>obtain⟨t,q⟩:=(show ∃ t,u=Value.int i t from rx);cases q;exact PySem.W.kia_one PySem.W.kitx_int I.kIn True.intro e (fun z=>nomatch z) h
  | str y=>obtain⟨t,q⟩:=(show ∃ t,u=Value.str y t from rx);cases q;exact PySem.W.kia_one PySem.W.kitx_str I.kIn True.intro e (fun z=>nomatch z) h
  | flt y=>obtain⟨t,q⟩:=(show ∃ t,u=Value.float y t from rx);cases q;exact PySem.W.kia_one PySem.W.kitx_float I.kIn True.intro e (fun z=>nomatch z) h
  | @lst a xs ea=>
    cases (show u=Value.ref a from rx)
    obtain⟨_,_,n,_,h1⟩:=(show ObjOk X.prog X.w H s.heap a (.lst xs) from I.hok a _ ea)
    exact PySem.W.kia_one PySem.W.kitx_list I.kIn ⟨_,h1,rfl⟩ e (fun z=>nomatch z) h
  | @frz a ob xs ea=>
    cases (show u=Value.ref a from rx)
    obtain⟨_,_,_,n,_,h1⟩:=(show ObjOk X.prog X.w H s.heap a (.frz ob (.lst xs)) from I.hok a _ ea)
    exact PySem.W.kia_one PySem.W.kitx_list I.kIn ⟨_,h1,rfl⟩ e (fun z=>nomatch z) h
  | @tup a xs ea=>
    cases (show u=Value.ref a from rx)
    obtain⟨_,_,_,p⟩:=(show ObjOk X.prog X.w H s.heap a (.tup xs) from I.hok a _ ea)
    obtain⟨o,h1,h2,_⟩:=p
    exact PySem.W.kia_one PySem.W.kitx_tuple I.kIn ⟨o,h1,h2⟩ e (fun z=>nomatch z) h
  | @dK a kvs ea=>
    cases (show u=Value.ref a from rx)
    obtain⟨_,_,vs,_,p⟩:=(show ObjOk X.prog X.w H s.heap a (.dK kvs) from I.hok a _ ea)
    obtain⟨o,es,ep,h1,h2,_⟩:=p
    exact PySem.W.kia_one PySem.W.kitx_dict I.kIn ⟨o,h1,h2.1⟩ e (fun z=>nomatch z) h
  | @dT a kvs ea=>
    cases (show u=Value.ref a from rx)
    obtain⟨_,_,xs,_,o,es,ep,h1,h2,_⟩:=(show ObjOk X.prog X.w H s.heap a (.dT kvs) from I.hok a _ ea)
    exact PySem.W.kia_one PySem.W.kitx_dict I.kIn ⟨o,h1,h2.1⟩ e (fun z=>nomatch z) h
  | @ins a C dx fs ea cl ha hn htk hm=>
    cases (show u=Value.ref a from rx)
    obtain⟨mA,O,_⟩:=ins_get I.hok ea
    obtain⟨od,J,_⟩:=O.look
    exact PySem.W.kia_one (PySem.W.kitx_own (cl.get _) cl.hd ha hn htk hm) I.kIn J e (fun z=>nomatch z) h
end
end L2
namespace L2
open PySem PySem.Spec PyProof.Rows
structure Room (k:Nat)(A:Around):Prop where
  hd:A.handled=none
  dp:A.depth+3 * k+5<recursionLimit
  un:A.units+16 * k+200<cLine
  gd:A.guards=some []
theorem Room.mono {j k:Nat}{A:Around}(r:Room k A)(h:j<=k):Room j A:=⟨r.hd,by have:=r.dp;lia,by have:=r.un;lia,r.gd⟩
theorem Room.deeper {k:Nat}{A:Around}(r:Room (k+1) A)(env:Env):Room k (A.deeper env):=
  ⟨r.hd,by have:=r.dp;show A.depth+1+3 * k+5<_;lia,by have:=r.un;show A.units+3+16 * k+200<_;lia,r.gd⟩
theorem Room.in1 {k:Nat}{A:Around}(r:Room (k+1) A):Room k A.in1:=
  ⟨r.hd,by have:=r.dp;show A.depth+3 * k+5<_;lia,by have:=r.un;show A.units+1+16 * k+200<_;lia,r.gd⟩
theorem make_depth {A:Around}{C:Addr}{us:List Value}{kw:List (Str×Value)}:(A.under (.builtin "type.__call__" ⟨.ref C::us,kw⟩)).depth=A.depth+1:=by
  first | rfl | simp [Around.under,Code.weight,Code.isCreation,Code.isGuard,Code.isCaller,Code.frames,Code.isFrame,guardIds]
theorem make_units {A:Around}{C:Addr}{us:List Value}{kw:List (Str×Value)}:(A.under (.builtin "type.__call__" ⟨.ref C::us,kw⟩)).units=A.units+1:=by
  first | rfl | simp [Around.under,Code.cUnits,Code.frames,Code.isFrame]
theorem make_guards {A:Around}{C:Addr}{us:List Value}{kw:List (Str×Value)}:(A.under (.builtin "type.__call__" ⟨.ref C::us,kw⟩)).guards=A.guards:=by
  first | rfl | simp [Around.under,Code.weight,Code.isCreation,Code.isGuard,Code.isCaller,Code.frames,Code.isFrame,guardIds]
theorem Room.make {k:Nat}{A:Around}(r:Room (k+1) A)(C:Addr)(us:List Value)(kw:List (Str×Value)):Room k (A.under (.builtin "type.__call__" ⟨.ref C::us,kw⟩)):=
  ⟨r.hd,by have:=r.dp;rw [make_depth];lia,by have:=r.un;rw [make_units];lia,by rw [make_guards];exact r.gd⟩
theorem Room.depth {k:Nat}{A:Around}(r:Room k A):A.depth<recursionLimit:=by have:=r.dp;lia
theorem Room.units {k:Nat}{A:Around}(r:Room k A):A.units+64<cLine:=by have:=r.un;lia
noncomputable def tNil:TA:=fun _ H Q=>Q [] H
noncomputable def tCons (ta:TE)(tr:TA):TA:=fun σ H Q=>ta σ H fun x H1=>tr σ H1 fun xs H2=>Q (x::xs) H2
section
variable {X:Cx} {e:Expr} {es:List Expr} {te:TE} {t:TA} {pos:Pos}
theorem pa_nil:PA X [] tNil:=fun _ _ _ _ H Q I h=>Calls.spliced_nil ⟨[],H,I,.nil,h⟩
theorem pa_cons (ha:PE X e te)(hr:PA X es t)(hs:starEach (e::es) X.env=(false,eval e X.env)::starEach es X.env:=by rfl):PA X (e::es) (tCons te t):=by
  intro pos pins s σ H Q I h
  rw [hs]
  show wpAny _ _ (spliced ((false,eval e X.env)::backTo pos (starEach es X.env))) _ _ s
  refine Calls.spliced_cons (thn (ha pins s σ H _ I h) fun u s1 ⟨x,H1,I1,r1,q1⟩=>?_)
  exact thn (hr pos pins s1 σ H1 _ I1 q1) fun us s2 ⟨xs,H2,I2,r2,q2⟩=>⟨x::xs,H2,I2,.cons r1 r2,q2⟩
noncomputable def tTup (t:TA):TE:=fun σ H Q=>t σ H fun xs H1=>xs.length<=sizeLine/\∀ p,H1 p=none->Q (.ref p) (upd H1 p (.tup xs))
noncomputable def tLst (t:TA):TE:=fun σ H Q=>t σ H fun xs H1=>xs.length<=sizeLine/\∀ p,H1 p=none->Q (.ref p) (upd H1 p (.lst xs))
theorem pe_tup {x1}(h:PA X es t):PE X (.Tuple es x1 pos) (tTup t):=by
  intro pins s σ H Q I hq
  refine wpAny_Tuple_spliced (thn (h pos pins s σ H _ I hq) fun us s1 ⟨xs,H1,I1,r,z,q⟩=>⟨by rw [← r.length];exact z,?_⟩)
  have hf:H1 s1.heap.objs.size=none:=I1.hok.fresh (Nat.le_refl _)
  refine⟨.ref s1.heap.objs.size,upd H1 s1.heap.objs.size (.tup xs),I1.laid (t':=s1.toks) (fun b u e=>Heap.get?_push_of_some _ e) (Nat.le_refl _) ?_,rfl,q _ hf⟩
  exact⟨z,us,r,⟨_,Heap.get?_push_size _ rfl,rfl,_,rfl⟩⟩
theorem pe_lst (h:PA X es t):PE X (.List es pos) (tLst t):=by
  intro pins s σ H Q I hq
  refine wpAny_List_spliced (thn (h pos pins s σ H _ I hq) fun us s1 ⟨xs,H1,I1,r,z,q⟩=>⟨by rw [← r.length];exact z,?_⟩)
  have hf:H1 s1.heap.objs.size=none:=I1.hok.fresh (Nat.le_refl _)
  refine⟨.ref s1.heap.objs.size,upd H1 s1.heap.objs.size (.lst xs),I1.laid (t':=s1.toks) (fun b u e=>Heap.get?_push_of_some _ e) (Nat.le_refl _) ?_,rfl,q _ hf⟩
  exact⟨z,us,0,r,Heap.get?_push_size _ rfl⟩
end
noncomputable abbrev Sp:=List V->Hp->VK->XK->Prop
noncomputable abbrev CXT:=List Env->Hp->Shared->XK->Value->Shared->Prop
structure Env0 (P:Program)(w:World)(K:PySem.W.Frag)(mg:Str->Option Value)(base:Heap)(A:Around)(outer:List Env)(s:Shared)(H:Hp):Prop where
  frames:A.frames=some outer
  mod:Mod K mg base
  bs:∀ b o,base.get? b=some o->s.heap.get? b=some o/\H b=none
  bsz:base.objs.size<=s.heap.objs.size
  funs:s.heap.FunFrames base outer
  frf:∀ b∈frs outer,H b=none
  hok:HOk P w H s.heap
  bare:AllBare s.gens
def CE (outer:List Env)(P:Program)(w:World)(H:Hp)(s:Shared)(Q:VK)(u:Value)(s':Shared):Prop:=
  ∃ v H',s'.os=s.os/\AllBare s'.gens/\Un (frs outer) [] H H' s.heap s'.heap/\HOk P w H' s'.heap/\RelV v u/\Q v H'
def CR (CX:CXT)(outer:List Env)(P:Program)(w:World)(H:Hp)(s:Shared)(Q:VK)(E:XK)(r:Result)(s':Shared):Prop:=
  match r with
  | .ok (.ret u)=>CE outer P w H s Q u s'
  | .ok _=>False
  | .error e=>CX outer H s E e s'
structure FnOk (P:Program)(w:World)(K:PySem.W.Frag)(mg:Str->Option Value)(base:Heap)(CX:CXT)(k:Nat)(f:Addr)(fd:FuncData)(ps:List Str)(sp:Sp):Prop where
  len:∀ vs H Q E,sp vs H Q E->vs.length=ps.length
  run:∀ (A:Around) (outer:List Env) (s:Shared) (H:Hp) (args:Args) (us:List Value) (vs:List V) (Q:VK) (E:XK),Room k A->Env0 P w K mg base A outer s H->BindsTo s fd args (ps.zip us)->Vals vs us->sp vs H Q E ->
    codeAny (model P w) A (.call (.ref f) args) (CR CX outer P w H s Q E) s
theorem FnOk.mono {P:Program}{w:World}{K:PySem.W.Frag}{mg:Str->Option Value}{base:Heap}{CX:CXT}{j k:Nat}{f:Addr}{fd:FuncData}{ps:List Str}{sp:Sp}(F:FnOk P w K mg base CX j f fd ps sp)(h:j<=k) :
    FnOk P w K mg base CX k f fd ps sp:=⟨F.len,fun A outer s H args us vs Q E hr=>F.run A outer s H args us vs Q E (hr.mono h)⟩
theorem FnOk.imp {P:Program}{w:World}{K:PySem.W.Frag}{mg:Str->Option Value}{base:Heap}{CX:CXT}{k:Nat}{f:Addr}{fd:FuncData}{ps:List Str}{sp sp':Sp}(F:FnOk P w K mg base CX k f fd ps sp)
    (h:∀ vs H Q E,sp' vs H Q E->sp vs H Q E):FnOk P w K mg base CX k f fd ps sp':=
  ⟨fun vs H Q E q=>F.len vs H Q E (h _ _ _ _ q),fun A outer s H args us vs Q E hr he hb hv hs=>F.run A outer s H args us vs Q E hr he hb hv (h _ _ _ _ hs)⟩
theorem Env0.make {P:Program}{w:World}{K:PySem.W.Frag}{mg:Str->Option Value}{base:Heap}{A:Around}{outer:List Env}{s:Shared}{H:Hp}(e:Env0 P w K mg base A outer s H)(C:Addr)(us:List Value)(kw:List (Str×Value)) :
    Env0 P w K mg base (A.under (.builtin "type.__call__" ⟨.ref C::us,kw⟩)) outer s H:=⟨by first | exact e.frames | (simpa [Around.under,Code.envs,Code.isFrame,pushEnvs] using e.frames),e.mod,e.bs,e.bsz,e.funs,e.frf,e.hok,e.bare⟩
theorem Env0.in1 {P:Program}{w:World}{K:PySem.W.Frag}{mg:Str->Option Value}{base:Heap}{A:Around}{outer:List Env}{s:Shared}{H:Hp}(e:Env0 P w K mg base A outer s H) :
    Env0 P w K mg base A.in1 outer s H:=⟨e.frames,e.mod,e.bs,e.bsz,e.funs,e.frf,e.hok,e.bare⟩
section
variable {X:Cx} {pins:List (Addr×Obj)} {σ:St} {H:Hp} {s s':Shared}
theorem Inv.env0 (I:Inv X pins σ H s):Env0 X.prog X.w X.K X.mg X.base X.A X.stack s H:=
  ⟨I.ok.frames,I.ok.mod,I.bs,Nat.le_trans I.ok.bsz I.sz,I.stack,I.stkFree,I.hok,I.bare⟩
theorem Inv.after {Q:VK}{u:Value}(I:Inv X pins σ H s)(h:CE X.stack X.prog X.w H s Q u s'):EP X pins σ Q u s':=by
  obtain⟨v,H',os,bare,un,hok,r,q⟩:=h
  obtain⟨hh,g,d,t,os'⟩:=s'
  obtain rfl:os' = s.os:=os
  exact⟨v,H',I.call (h':=hh) (g':=g) (d':=d) (t':=t) (ch:=[]) un hok bare (fun b z=>absurd z (by simp)),r,q⟩
end
noncomputable def tCall (sp:Sp)(dvs:List V)(E:XK)(t:TA):TE:=fun σ H Q=>t σ H fun vs H1=>sp (vs++dvs) H1 Q E
noncomputable def tMeth (C:Addr)(m:Str)(sp:Sp)(dvs:List V)(E:XK)(ta:TE)(t:TA):TE:=fun σ H Q=>ta σ H fun x H1=>∃ a dx fs,x=.ref a/\H1 a=some (.ins C dx fs)/\fs.lookup m=none /\
  t σ H1 fun vs H2=>sp (x::(vs++dvs)) H2 Q E
noncomputable def tMake (C:Addr)(sp:Sp)(dvs:List V)(E:XK)(t:TA):TE:=fun σ H Q=>t σ H fun vs H1=>∀ x dx,H1 x=none->H1 dx=none->dx≠x ->
  sp (.ref x::(vs++dvs)) (upd (upd H1 dx (.own x)) x (.ins C dx [])) (fun v H2=>v=.non/\Q (.ref x) H2) E
def Binds (K:PySem.W.Frag)(fd:FuncData)(ps:List Str)(ds:List Value):Prop:=
  ∀ (s:Shared) (us:List Value),K.In s.heap->(us++ds).length=ps.length->BindsTo s fd ⟨us,[]⟩ (ps.zip (us++ds))
theorem Binds.all {K:PySem.W.Frag}{fd:FuncData}{ps:List Str}(h:∀ us:List Value,us.length=ps.length->bindArgs fd ⟨us,[]⟩=pure (ps.zip us)):Binds K fd ps []:=fun s us _ hl=>by
  rw [List.append_nil] at hl ⊢
  exact .of_eq (h us hl)
def Passes (CX:CXT)(X:Cx)(E:XK):Prop:=∀ (pins:List (Addr×Obj)) (σ:St) (H:Hp) (s:Shared) (e:Value) (s':Shared),Inv X pins σ H s->CX X.stack H s E e s'->X.xe e s'
section
variable {X:Cx} {CX:CXT} {k:Nat} {f C:Addr} {fd:FuncData} {ps:List Str} {sp:Sp} {dvs:List V} {ds:List Value} {E:XK} {x m:Str} {p pos apos:Pos} {e o:Expr} {es:List Expr} {ta:TE} {t:TA}
theorem run_fn {pins:List (Addr×Obj)}{σ:St}{H:Hp}{s:Shared}{Q:VK}{us:List Value}{vs:List V}(F:FnOk X.prog X.w X.K X.mg X.base CX k f fd ps sp)(hr:Room k X.A)(hb:Binds X.K fd ps ds)(hd:Vals dvs ds)(hx:Passes CX X E)
    (I:Inv X pins σ H s) (r:Vals vs us) (h:sp (vs++dvs) H Q E):wpAny (model X.prog X.w) X.A (call (.ref f) us) (EP X pins σ Q) X.xe s:=by
  have r2:Vals (vs++dvs) (us++ds):=r.append hd
  have hl:(us++ds).length=ps.length:=by rw [← r2.length];exact F.len _ _ _ _ h
  refine wpAny_call (codeAny_mono (F.run X.A X.stack s H ⟨us,[]⟩ (us++ds) (vs++dvs) Q E hr I.env0 (hb s us I.kIn hl) r2 h) fun r s' hq=>?_)
  cases r with
  | error e=>exact hx pins σ H s e s' I hq
  | ok fl=>
    cases fl with
    | ret u=>exact I.after hq
    | next=>exact False.elim hq
    | brk=>exact False.elim hq
    | cont=>exact False.elim hq
theorem pe_call (F:FnOk X.prog X.w X.K X.mg X.base CX k f fd ps sp)(hr:Room k X.A)(hg:Gl X x)(hm:X.mg x=some (.ref f))(hk:PySem.W.keepIn X.K (.ref f)=true)(hb:Binds X.K fd ps ds)(hd:Vals dvs ds)(hx:Passes CX X E)
    (ha:PA X (e::es) t) (hdb:(x == ("__debug__":Str))=false:=by decide) (he:starEach (e::es) X.env=(false,eval e X.env)::starEach es X.env:=by rfl) (hpl:(backTo pos (starEach es X.env)).any (·.1)=false:=by rfl) :
    PE X (.Call (.Name x p) (e::es) [] pos) (tCall sp dvs E t):=by
  intro pins s σ H Q I h
  refine wpAny_Call_Name_kw (ld_glob I hg hm ?_ hdb)
  refine PySem.W.callWith_K (h₀:=X.base) I.ok.mod.kin hk (thn (ha pos pins s σ H _ I h) fun us s1 ⟨vs,H1,I1,r,q⟩=>⟨I1.kIn,?_⟩) he hpl
  exact run_fn F hr hb hd hx I1 r q
theorem pe_call0 (F:FnOk X.prog X.w X.K X.mg X.base CX k f fd ps sp)(hr:Room k X.A)(hg:Gl X x)(hm:X.mg x=some (.ref f))(hk:PySem.W.keepIn X.K (.ref f)=true)(hb:Binds X.K fd ps ds)(hd:Vals dvs ds)(hx:Passes CX X E)
    (hdb:(x == ("__debug__":Str))=false:=by decide):PE X (.Call (.Name x p) [] [] pos) (tCall sp dvs E tNil):=by
  intro pins s σ H Q I h
  refine wpAny_Call_Name_kw (ld_glob I hg hm ?_ hdb)
  exact PySem.W.callWith_K0 I.kIn hk (run_fn (us:=[]) F hr hb hd hx I .nil h)
theorem pe_meth {pl:Sem Bool}(he:PE X o ta)(c:Cls X.K C)(hm:Meth X.K C m f)(F:FnOk X.prog X.w X.K X.mg X.base CX k f fd ps sp)(hr:Room k X.A)(hb:Binds X.K fd ps ds)(hd:Vals dvs ds)(hx:Passes CX X E)(ha:PA X (e::es) t)
    (hst:starEach (e::es) X.env=(false,eval e X.env)::starEach es X.env:=by rfl) (hpl:(backTo pos (starEach es X.env)).any (·.1)=false:=by rfl)
    (ht:eval (.Call (.Attribute o m apos) (e::es) [] pos) X.env=(do
      let ov ← eval o X.env
      standAt apos.atName
      let (f,first) ← holding [ov] (getMethod ov m pl)
      callWith pos f first (backTo pos (starEach (e::es) X.env)) (backToKw pos (keywordEach [] X.env))):=by rfl) :
    PE X (.Call (.Attribute o m apos) (e::es) [] pos) (tMeth C m sp dvs E ta t):=by
  intro pins s σ H Q I h
  refine PySem.W.methodCall_KW (pl:=pl) (thn (he pins s σ H _ I h) fun u s1 ⟨x,H1,I1,rx,a,dx,fs,ex,ea,l,q⟩=>?_) ht
  subst ex
  obtain rfl:u=Value.ref a:=rx
  refine getmeth_ok I1 ea c hm l ?_
  refine PySem.W.callWith_K (first:=[.ref a]) (h₀:=X.base) I.ok.mod.kin hm.kp (thn (ha pos pins s1 σ H1 _ I1 q) fun us s2 ⟨vs,H2,I2,r,q2⟩=>⟨I2.kIn,?_⟩) hst hpl
  exact run_fn (us:=.ref a::us) (vs:=.ref a::vs) F hr hb hd hx I2 (.cons rfl r) q2
structure Mk (K:PySem.W.Frag)(C f:Addr):Prop where
  makes:PySem.W.makesIn K C=true
  init:PySem.W.findIn K (.ref C) "__init__" = some (some (.ref f))
  fn:PySem.W.isFn K (.ref f)=true
  kp:PySem.W.keepIn K (.ref C)=true
theorem run_make {pins:List (Addr×Obj)}{σ:St}{H:Hp}{s:Shared}{Q:VK}{us:List Value}{vs:List V}(M:Mk X.K C f)(F:FnOk X.prog X.w X.K X.mg X.base CX k f fd ps sp)(hr:Room (k+1) X.A)(hb:Binds X.K fd ps ds)(hd:Vals dvs ds)
    (hx:Passes CX X E) (I:Inv X pins σ H s) (r:Vals vs us)
    (h:∀ x dx,H x=none->H dx=none->dx≠x->sp (.ref x::(vs++dvs)) (upd (upd H dx (.own x)) x (.ins C dx [])) (fun v H2=>v=.non/\Q (.ref x) H2) E) :
    wpAny (model X.prog X.w) X.A (call (.ref C) us) (EP X pins σ Q) X.xe s:=by
  have hq:=h (s.heap.objs.size+1) s.heap.objs.size (I.hok.fresh (Nat.le_succ _)) (I.hok.fresh (Nat.le_refl _)) (Nat.ne_of_lt (Nat.lt_succ_self _))
  have I2:=Inv.made (C:=C) I
  have r2:Vals (V.ref (s.heap.objs.size+1)::(vs++dvs)) (Value.ref (s.heap.objs.size+1)::(us++ds)):=.cons rfl (r.append hd)
  have hl:(Value.ref (s.heap.objs.size+1)::us++ds).length=ps.length:=by
    have e:=r2.length
    rw [F.len _ _ _ _ hq] at e
    exact e.symm
  refine wpAny_call (make_map (f:=f) I.kIn M.makes M.init (beq_iff_eq.mp M.fn) (codeAny_mono (F.run _ X.stack _ _ ⟨Value.ref (s.heap.objs.size+1)::us,[]⟩ (Value.ref (s.heap.objs.size+1)::(us++ds)) _ _ E (hr.make C us [])
    (I2.env0.make C us []) (hb _ (Value.ref (s.heap.objs.size+1)::us) I2.kIn hl) r2 hq) fun r s' hq'=>?_))
  cases r with
  | error e=>exact hx pins σ _ _ e s' I2 hq'
  | ok fl=>
    cases fl with
    | ret u=>
      obtain⟨v,H',I3,rv,ev,q3⟩:=I2.after hq'
      subst ev
      exact⟨rv,⟨V.ref (s.heap.objs.size+1),H',I3,rfl,q3⟩⟩
    | next=>exact False.elim hq'
    | brk=>exact False.elim hq'
    | cont=>exact False.elim hq'
theorem pe_make (M:Mk X.K C f)(F:FnOk X.prog X.w X.K X.mg X.base CX k f fd ps sp)(hr:Room (k+1) X.A)(hg:Gl X x)(hm:X.mg x=some (.ref C))(hb:Binds X.K fd ps ds)(hd:Vals dvs ds)(hx:Passes CX X E)
    (ha:PA X (e::es) t) (hdb:(x == ("__debug__":Str))=false:=by decide) (he:starEach (e::es) X.env=(false,eval e X.env)::starEach es X.env:=by rfl) (hpl:(backTo pos (starEach es X.env)).any (·.1)=false:=by rfl) :
    PE X (.Call (.Name x p) (e::es) [] pos) (tMake C sp dvs E t):=by
  intro pins s σ H Q I h
  refine wpAny_Call_Name_kw (ld_glob I hg hm ?_ hdb)
  refine PySem.W.callWith_K (h₀:=X.base) I.ok.mod.kin M.kp (thn (ha pos pins s σ H _ I h) fun us s1 ⟨vs,H1,I1,r,q⟩=>⟨I1.kIn,?_⟩) he hpl
  exact run_make M F hr hb hd hx I1 r q
end
section
variable {X:Cx} {CX:CXT} {k:Nat} {f C:Addr} {fd:FuncData} {ps ks:List Str} {sp:Sp} {E:XK} {x m:Str} {p pos apos kpos:Pos} {e o:Expr} {es:List Expr} {kws:List Keyword} {te ta:TE} {t tk:TA} {nm:Option Str}
variable {g:List Value->List Value->List Value} {gV:List V->List V->List V}
end
structure FnScope (N P:List Str)(sc:Scope):Prop where
  kind:sc.kind=.function
  co:sc.isCoroutine=false
  gen:sc.isGenerator=false
  nd:N.Nodup
  pre:N.take P.length=P
  par:∀ x∈P,sc.names.lookup x=some .local\/sc.names.lookup x=some .cell
  nofree:∀ y∈sc.names,y.2≠.free
theorem bindL_out {kindOf:Str->Option NameKind}{x:Str}:∀ {binds:List (Str×Value)} {m:Str->Option Value},(∀ v,(x,v)∉binds)->bindL kindOf binds m x=m x
  | [],_,_=>rfl
  | (n,v)::r,m,h=>by
    unfold bindL
    rw [bindL_out fun w hw=>h w (List.mem_cons_of_mem _ hw)]
    split
    · have:x≠n:=by rintro rfl;exact h v List.mem_cons_self
      simp [this]
    · rfl
theorem bindC_out {kindOf:Str->Option NameKind}{x:Str}:∀ {binds:List (Str×Value)} {m:Str->Option Value},(∀ v,(x,v)∉binds)->bindC kindOf binds m x=m x
  | [],_,_=>rfl
  | (n,v)::r,m,h=>by
    unfold bindC
    rw [bindC_out fun w hw=>h w (List.mem_cons_of_mem _ hw)]
    split
    · rfl
    · have:x≠n:=by rintro rfl;exact h v List.mem_cons_self
      simp [this]
theorem bindL_get {kindOf:Str->Option NameKind}{x:Str}{v:Value}:∀ {P:List Str} {vs:List Value} {i:Nat} {m:Str->Option Value},P.Nodup->P[i]? = some x->vs[i]? = some v->kindOf x=some .local ->
    bindL kindOf (P.zip vs) m x=some v
  | [],_,_,_,_,h,_,_=>by simp at h
  | _::_,[],_,_,_,_,h,_=>by simp at h
  | p::P,w::vs,0,m,nd,h1,h2,hk=>by
    simp at h1 h2;subst h1;subst h2
    show bindL kindOf ((p,w)::P.zip vs) m p=_
    unfold bindL
    rw [bindL_out fun v hv=>(List.nodup_cons.mp nd).1 (List.of_mem_zip hv).1,if_pos hk]
    simp
  | p::P,w::vs,i+1,m,nd,h1,h2,hk=>by
    show bindL kindOf ((p,w)::P.zip vs) m x=_
    unfold bindL
    exact bindL_get (i:=i) (List.nodup_cons.mp nd).2 (by simpa using h1) (by simpa using h2) hk
theorem bindC_get {kindOf:Str->Option NameKind}{x:Str}{v:Value}:∀ {P:List Str} {vs:List Value} {i:Nat} {m:Str->Option Value},P.Nodup->P[i]? = some x->vs[i]? = some v->kindOf x≠some .local ->
    bindC kindOf (P.zip vs) m x=some v
  | [],_,_,_,_,h,_,_=>by simp at h
  | _::_,[],_,_,_,_,h,_=>by simp at h
  | p::P,w::vs,0,m,nd,h1,h2,hk=>by
    simp at h1 h2;subst h1;subst h2
    show bindC kindOf ((p,w)::P.zip vs) m p=_
    unfold bindC
    rw [bindC_out fun v hv=>(List.nodup_cons.mp nd).1 (List.of_mem_zip hv).1,if_neg hk]
    simp
  | p::P,w::vs,i+1,m,nd,h1,h2,hk=>by
    show bindC kindOf ((p,w)::P.zip vs) m x=_
    unfold bindC
    exact bindC_get (i:=i) (List.nodup_cons.mp nd).2 (by simpa using h1) (by simpa using h2) hk
noncomputable def start (N:List Str)(vs:List V):St:=vs.map some++List.replicate (N.length - vs.length) none
noncomputable def cxOf (CX:CXT)(P:Program)(w:World)(K:PySem.W.Frag)(mg:Str->Option Value)(base:Heap)(N:List Str)(qual:Str)(scope:Scope)(f:Addr)(cd:Value)(A:Around)(outer:List Env)(s:Shared)(H:Hp)(E:XK):Cx where
  prog:=P
  w:=w
  K:=K
  mg:=mg
  base:=base
  A:=A.deeper (envOfC qual scope s.heap.objs.size f cd)
  N:=N
  s₀:=s
  H₀:=H
  env:=envOfC qual scope s.heap.objs.size f cd
  outer:=outer
  stack:=envOfC qual scope s.heap.objs.size f cd::outer
  ex:=[]
  calm:=true
  fn:=fun _=>true
  pn:=[]
  xe:=fun e s'=>wpAny (model P w) (A.deeper (envOfC qual scope s.heap.objs.size f cd)) (leaving (envOfC qual scope s.heap.objs.size f cd) e) (fun _ s''=>CX outer H s E e s'') (fun e' s''=>CX outer H s E e' s'') s'
theorem cell_has {sc:Scope}{n:Nat}{x:Str}(h:sc.names.lookup x=some .cell):∃ c,(cellsFrom n sc.names []).lookup x=some c:=by
  have q:=PySem.W.cellsFrom_some sc.names n [] (.inl h)
  exact Option.isSome_iff_exists.mp q
theorem inv_start {CX:CXT}{P:Program}{w:World}{K:PySem.W.Frag}{mg:Str->Option Value}{base:Heap}{N ps:List Str}{qual:Str}{scope:Scope}{f:Addr}{cd:Value}{A:Around}{outer:List Env}{s s1:Shared}{H:Hp}{E:XK}{us:List Value}{vs:List V}
    (S:FnScope N ps scope) (hd:A.handled=none) (e0:Env0 P w K mg base A outer s H) (hl:vs.length=ps.length) (r:Vals vs us)
    (x:InCallC s s.heap.objs.size (bindL (envOfC qual scope s.heap.objs.size f cd).kindOf (ps.zip us) fun _=>none) (cellsFrom (s.heap.objs.size+1) scope.names []) (bindC (envOfC qual scope s.heap.objs.size f cd).kindOf (ps.zip us) fun _=>none) s1) :
    Inv (cxOf CX P w K mg base N qual scope f cd A outer s H E) [] (start N vs) H s1:=by
  have hpl:ps.length<=N.length:=by have:=congrArg List.length S.pre;rw [List.length_take] at this;lia
  obtain⟨h1,tk,rfl,hk⟩:=x.done
  have noA:∀ b:Addr,b∉(cxOf CX P w K mg base N qual scope f cd A outer s H E).ex:=fun b z=>absurd (show b∈([]:List Addr) from z) (by simp)
  refine⟨⟨e0.mod,S.kind,rfl,rfl,Nat.le_refl _,fun y z c h1 h2=>?_,fun y hy=>?_,fun y c _ h=>?_,fun _=>hd,Around.frames_deeper e0.frames,.inr ⟨rfl,rfl⟩,fun b z=>absurd z (noA b),e0.bs,e0.bsz,fun b _ _=>noA b,fun b z=>absurd z (noA b),e0.funs,e0.frf⟩,
    rfl,e0.bare,Un.kept hk,⟨_,x.toInCall.ns,fun i y v h1 h2 h3=>?_⟩,fun y c h=>⟨_,x.cell y c h⟩,e0.hok.fresh (Nat.le_refl _),fun y c h=>?_,fun p hp=>absurd (show p∈([]:List (Addr×Obj)) from hp) (by simp),e0.hok.kept hk,?_⟩
  · exact name_of_addr x.apart (PySem.mem_of_lookup h1) (PySem.mem_of_lookup h2)
  · have hy:scope.names.lookup y=some .cell\/scope.names.lookup y=some .free:=hy
    rcases hy with hy | hy
    · exact cell_has hy
    · exact absurd rfl (S.nofree _ (PySem.mem_of_lookup hy))
  · exact Nat.le_of_lt (x.above y c (PySem.mem_of_lookup h))
  · have hi:i<vs.length:=by
      unfold start at h2
      by_cases hi:i<vs.length
      · exact hi
      · rw [List.getElem?_append_right (by simpa using hi)] at h2
        rw [List.getElem?_replicate] at h2
        split at h2<;>cases h2
    have ha:vs[i]? = some v:=by
      unfold start at h2
      rw [List.getElem?_append_left (by simpa using hi),List.getElem?_map] at h2
      cases e:vs[i]? with
      | none=>rw [e] at h2;cases h2
      | some a=>rw [e] at h2;cases h2;rfl
    obtain⟨u,hu,rv⟩:=r.get ha
    have hp:ps[i]? = some y:=by
      rw [← S.pre,List.getElem?_take_of_lt (by lia)];exact h1
    have ndP:ps.Nodup:=by rw [← S.pre];exact S.nd.sublist (List.take_sublist _ _)
    refine⟨u,rv,?_⟩
    rcases S.par y (List.mem_of_getElem? hp) with k | k
    · exact .inl ⟨k,bindL_get ndP hp hu k⟩
    · obtain⟨c,e⟩:=cell_has (n:=s.heap.objs.size+1) k
      refine .inr ⟨.inl k,c,e,?_⟩
      have q:=x.cell y c e
      rw [bindC_get ndP hp hu (by show scope.names.lookup y≠_;rw [k];decide)] at q
      exact q
  · exact e0.hok.fresh (Nat.le_of_lt (x.above y c (PySem.mem_of_lookup h)))
  · unfold start
    show _=N.length
    rw [List.length_append,List.length_map,List.length_replicate]
    lia
theorem fn_of {CX:CXT}{P:Program}{w:World}{K:PySem.W.Frag}{mg:Str->Option Value}{base:Heap}{k:Nat}{f:Addr}{name qual:Str}{params:Arguments}{body:List Stmt}{scope:Scope}{dV kV doc pm cdv ct oc:Value}{an od:Option Addr}
    {osl:Array (Option Value)} {N ps:List Str} {sp:Sp} (lk:K.lookup f=some ⟨oc,od,.func (PySem.W.fnOf name qual params body scope dV kV doc pm an cdv ct),osl⟩) (hcd:PySem.W.codeIn K cdv qual=true) (S:FnScope N ps scope)
    (len:∀ vs H Q E,sp vs H Q E->vs.length=ps.length)
    (hbody:∀ (A:Around) (outer:List Env) (s:Shared) (H:Hp) (vs:List V) (Q:VK) (E:XK),Room k (A.deeper (envOfC qual scope s.heap.objs.size f cdv))->sp vs H Q E ->
      ∃ t,PSs (cxOf CX P w K mg base N qual scope f cdv A outer s H E) body t/\t { nx:=fun _ H'=>Q .non H',rt:=Q } (start N vs) H) :
    FnOk P w K mg base CX (k+1) f (PySem.W.fnOf name qual params body scope dV kV doc pm an cdv ct) ps sp:=by
  refine⟨len,fun A outer s H args us vs Q E hr e0 hb r hsp=>?_⟩
  have hl:=len _ _ _ _ hsp
  have KX:K.In s.heap:=e0.mod.kin.keeps fun b o e=>(e0.bs b o e).1
  have lim:s.heap.NoLimit:=e0.mod.nolimit.keeps fun b o e=>(e0.bs b o e).1
  have hkind:∀ y∈ps.zip us,scope.names.lookup y.1=some .local\/(scope.names.lookup y.1=some .cell/\((cellsFrom (s.heap.objs.size+1) scope.names []).lookup y.1).isSome=true):=fun⟨n,v⟩ hy=>by
    rcases S.par n (List.of_mem_zip hy).1 with q | q
    · exact .inl q
    · exact .inr ⟨q,PySem.W.cellsFrom_some _ _ _ (.inl q)⟩
  refine codeAny_call_function hr.depth (KX _ _ lk) rfl S.co S.gen rfl (PySem.W.codeRec_of KX hcd) (hb _ _ _ _ ?_)
  refine wpAny_newFunctionEnv_cells S.kind hkind fun env he s1 x=>?_
  subst he
  refine⟨lim.keeps x.toInCall.keep,codeAny_func ?_⟩
  obtain⟨t,ht,hq⟩:=hbody A outer s H vs Q E (hr.deeper _) hsp
  have I:Inv (cxOf CX P w K mg base N qual scope f cdv A outer s H E) [] (start N vs) H s1:=inv_start S hr.hd e0 hl r x
  refine wpAny_mono (ht [] s1 (start N vs) H _ I hq) (fun fl s' hs=>?_) fun e s' hs=>hs
  have fin:∀ {σ':St} {H':Hp} {v:V} {u:Value},Inv (cxOf CX P w K mg base N qual scope f cdv A outer s H E) [] σ' H' s'->RelV v u->Q v H'->CE outer P w H s Q u s':=
    fun {σ' H' v u} J rv q=>⟨v,H',J.os,J.bare,J.base,J.hok,rv,q⟩
  cases fl with
  | ret u=>
    obtain⟨v,σ',H',J,rv,q⟩:=hs
    exact fin J rv q
  | next=>
    obtain⟨σ',H',J,q⟩:=hs
    exact fin (v:=V.non) (u:=Value.none) J rfl q
  | brk=>
    obtain⟨_,_,_,q⟩:=hs
    exact False.elim q
  | cont=>
    obtain⟨_,_,_,q⟩:=hs
    exact False.elim q
end L2
namespace L2
open PySem PySem.Spec PyProof.Rows
section
variable {X:Cx} {x:Str} {p pos:Pos} {e:Expr} {es:List Expr} {t:TA} {id T:String} {r:List V->Hp->VK->Prop}
noncomputable def tCB (r:List V->Hp->VK->Prop)(t:TA):TE:=fun σ H Q=>t σ H fun vs H1=>r vs H1 Q
theorem pe_callB (hc:CallR X (.builtin id) r)(hg:Gl X x)(hm:X.mg x=none)(hv:bootBuiltins x=some (.builtin id))(ha:PA X (e::es) t)(hn:x≠"__name__":=by decide) (hdb:(x == ("__debug__":Str))=false:=by decide)
    (he:starEach (e::es) X.env=(false,eval e X.env)::starEach es X.env:=by rfl) (hpl:(backTo pos (starEach es X.env)).any (·.1)=false:=by rfl):PE X (.Call (.Name x p) (e::es) [] pos) (tCB r t):=by
  intro pins s σ H Q I h
  refine wpAny_Call_Name_kw (ld_blt I hg hm hv ?_ hn hdb)
  exact PyProof.Rows.callWith_builtin1 (thn (ha pos pins s σ H _ I h) fun us s1 ⟨vs,H1,I1,r1,q1⟩=>hc pins s1 σ H1 vs us Q I1 r1 q1) he hpl
theorem pe_callTy (hc:CallR X (.type T) r)(hg:Gl X x)(hm:X.mg x=none)(hv:bootBuiltins x=some (.type T))(ha:PA X (e::es) t)(hn:x≠"__name__":=by decide) (hdb:(x == ("__debug__":Str))=false:=by decide)
    (he:starEach (e::es) X.env=(false,eval e X.env)::starEach es X.env:=by rfl) (hpl:(backTo pos (starEach es X.env)).any (·.1)=false:=by rfl):PE X (.Call (.Name x p) (e::es) [] pos) (tCB r t):=by
  intro pins s σ H Q I h
  refine wpAny_Call_Name_kw (ld_blt I hg hm hv ?_ hn hdb)
  exact PyProof.Rows.callWith_type1 (thn (ha pos pins s σ H _ I h) fun us s1 ⟨vs,H1,I1,r1,q1⟩=>hc pins s1 σ H1 vs us Q I1 r1 q1) he hpl
end
end L2
namespace HT
open PySem PyProof.Rows
section
open PySem.SeqAt
open PySem.AutoSeq1 (wpAny_loadPart')
open PySem.MeetsSeq PySem.MeetsSeq2 PySem.MeetsSeq3
end
section
variable {prog:Program} {w:World} {A:Around} {E:Value->Shared->Prop} {s:Shared}
theorem cat_tup {t b:Addr}{vs ws:List Value}{Q:Value->Shared->Prop}(ht:IsTup s.heap t vs.toArray)(hb:IsTup s.heap b ws.toArray)(hv:vs≠[])
    (h1:ws=[]->Q (.ref t) s) (h2:ws≠[]->Q (.ref s.heap.objs.size) { s with heap:=s.heap.push { cls:=.type "tuple",data:=.seq (vs++ws).toArray } })
    (hsz:vs.length+ws.length<=sizeLine):wpAny (model prog w) A (binaryOp .Add (.ref t) (.ref b)) Q E s:=by
  obtain⟨⟨cls,dd,data,sl⟩,ho,hc,n,hd⟩:=id ht
  obtain⟨⟨cls2,dd2,data2,sl2⟩,ho2,hc2,n2,hd2⟩:=id hb
  simp only at hc hd hc2 hd2
  subst hc hd hc2 hd2
  have e:vs.toArray++ws.toArray=(vs++ws).toArray:=by simp
  by_cases hw:ws=[]
  · exact concat_meets ⟨_,ho,rfl⟩ ⟨_,ho2,rfl⟩ noFill_tuple_add seq_tuple_add PySem.F.slot_tuple_add PySem.F.entry_tuple_add (PySem.F.args_tuple_add_2 _ _)
      (tuple_addW1 t b vs.toArray ws.toArray n n2 dd dd2 sl sl2 (by simpa using hv) (by simp [hw])) ⟨ho,ho2,h1 hw⟩
  · refine concat_meets ⟨_,ho,rfl⟩ ⟨_,ho2,rfl⟩ noFill_tuple_add seq_tuple_add PySem.F.slot_tuple_add PySem.F.entry_tuple_add (PySem.F.args_tuple_add_2 _ _)
      (tuple_addW2 t b vs.toArray ws.toArray n n2 dd dd2 sl sl2 (by simpa using hv) (by simpa using hw) (by rw [List.size_toArray,List.size_toArray];exact hsz)) ⟨ho,ho2,?_⟩
    rw [e]
    exact h2 hw
noncomputable def sIx (n d:Nat):Option Int->Nat
  | none=>d
  | some v=>if v<0 then(v+(n:Int)).toNat else min v.toNat n
theorem sIx_none (n d:Nat):sIx n d none=d:=rfl
theorem sIx_le (n d:Nat)(hd:d<=n)(o:Option Int):sIx n d o<=n:=by
  cases o with
  | none=>exact hd
  | some v=>
    show(if v<0 then(v+(n:Int)).toNat else min v.toNat n)<=n
    by_cases hv:v<0
    · rw [if_pos hv];lia
    · rw [if_neg hv];exact Nat.min_le_right _ _
theorem clip_eq (v:Int)(n d:Nat):(if v<0 then max (v+(n:Int)) 0 else min v (n:Int))=((sIx n d (some v):Nat):Int):=by
  show(if v<0 then max (v+(n:Int)) 0 else min v (n:Int))=(((if v<0 then(v+(n:Int)).toNat else min v.toNat n):Nat):Int)
  by_cases hv:v<0
  · simp only [if_pos hv];lia
  · simp only [if_neg hv];lia
theorem adjust_gen (lo hi:Option Int)(n:Nat):Builtin.Slice.sliceAdjust lo hi 1 (n:Int)=(((sIx n 0 lo:Nat):Int),((sIx n n hi:Nat):Int)):=by
  have h1:¬ ((1:Int)<0):=by lia
  unfold Builtin.Slice.sliceAdjust
  simp only [h1,if_false]
  refine Prod.ext ?_ ?_
  · cases lo with
    | none=>rfl
    | some v=>exact clip_eq v n 0
  · cases hi with
    | none=>rfl
    | some v=>exact clip_eq v n n
theorem places_gen (i j:Nat):Builtin.Slice.slicePlaces (i:Int) (j:Int) 1=j - i:=by
  unfold Builtin.Slice.slicePlaces
  have h1:(1:Int) > 0:=by lia
  simp only [h1,if_true,Int.ediv_one]
  split<;>lia
theorem slicePart_ {v:Value}{o:Option Int}{Q:Option Int->Shared->Prop}(p:IsPart v o)(h:Q o s):wpAny (model prog w) A (Builtin.Slice.slicePartIndex v) Q E s:=by
  cases p with
  | none=>exact slicePart_none h
  | int i t=>exact slicePart_int h
theorem sliceApplied_gen {sl:Addr}{vl vu:Value}{lo hi:Option Int}{n:Nat}{Q:Int×Int×Nat->Shared->Prop}(hs:s.heap.IsSliceOf sl vl vu .none)(pl:IsPart vl lo)(pu:IsPart vu hi)
    (h:Q (((sIx n 0 lo:Nat):Int),1,sIx n n hi - sIx n 0 lo) s):wpAny (model prog w) A (Builtin.Slice.sliceApplied (.ref sl) (pure (n:Int))) Q E s:=by
  obtain⟨os,hos,hcs,hds⟩:=id hs
  unfold Builtin.Slice.sliceApplied Builtin.Slice.sliceFields
  refine wpAny_bind (wpAny_bind (wpAny_field hos hds (x:=vl) rfl (wpAny_bind (wpAny_field hos hds (x:=vu) rfl (wpAny_bind (wpAny_field hos hds (x:=.none) rfl (wpAny_pure ?_)))))))
  refine wpAny_bind (slicePart_none ?_)
  show wpAny _ _ (if ((1:Int) == 0)=true then _ else _) _ _ s
  rw [if_neg (by decide)]
  refine wpAny_bind (slicePart_ pl (wpAny_bind (slicePart_ pu (wpAny_bind (wpAny_pure ?_)))))
  show wpAny _ _ (match Builtin.Slice.sliceAdjust lo hi 1 (n:Int) with | (lo,hi)=>pure (lo,(1:Int),Builtin.Slice.slicePlaces lo hi 1)) _ _ s
  rw [adjust_gen lo hi n]
  show wpAny _ _ (pure (((sIx n 0 lo:Nat):Int),(1:Int),Builtin.Slice.slicePlaces ((sIx n 0 lo:Nat):Int) ((sIx n n hi:Nat):Int) 1)) _ _ s
  rw [places_gen]
  exact wpAny_pure h
theorem pick_gen (xs:Array Value)(i k:Nat):((List.range k).filterMap fun(m:Nat)=>xs[((i:Int)+(m:Int) * 1).toNat]?).toArray=((xs.toList.drop i).take k).toArray:=by
  have e:(fun(m:Nat)=>xs[((i:Int)+(m:Int) * 1).toNat]?)=fun m=>xs[i+m]?:=by
    funext m
    have:((i:Int)+(m:Int) * 1).toNat=i+m:=by lia
    rw [this]
  rw [e]
  have:=pick_run xs i k
  rw [List.filterMap_map] at this
  have e2:((fun x=>xs[x]?) ∘ fun x=>i+x)=fun m=>xs[i+m]?:=rfl
  rw [e2] at this
  rw [this]
theorem getItem_tuple_cut {t sl:Addr}{items:Array Value}{vl vu:Value}{lo hi:Option Int}{Q:Value->Shared->Prop}(ht:IsTup s.heap t items)(hs:s.heap.IsSliceOf sl vl vu .none)(pl:IsPart vl lo)(pu:IsPart vu hi)
    (hw:¬ (sIx items.size 0 lo=0/\sIx items.size items.size hi=items.size))
    (h:Q (.ref s.heap.objs.size) { s with heap:=s.heap.push { cls:=.type "tuple",data:=.seq ((items.toList.drop (sIx items.size 0 lo)).take (sIx items.size items.size hi - sIx items.size 0 lo)).toArray } })
    (hsz:items.size<=sizeLine):wpAny (model prog w) A (getItem (.ref t) (.ref sl)) Q E s:=by
  have htake:sizeOk (.seq ((items.toList.drop (sIx items.size 0 lo)).take (sIx items.size items.size hi - sIx items.size 0 lo)).toArray):=by
    show((items.toList.drop (sIx items.size 0 lo)).take (sIx items.size items.size hi - sIx items.size 0 lo)).toArray.size<=sizeLine
    rw [List.size_toArray,List.length_take,List.length_drop,Array.length_toList]
    lia
  have hj:sIx items.size items.size hi<=items.size:=sIx_le _ _ (Nat.le_refl _) hi
  obtain⟨os,hos,hcs,hds⟩:=id hs
  have hTs:s.TypeIs (.ref sl) "slice":=⟨os,hos,hcs⟩
  unfold getItem
  try with_reducible refine wpAny_holding ?_
  first | refine wpAny_bind (wpAny_pure ?_) | skip
  refine wpAny_bind (wpAny_sequenceKey ht.typeIs (by decide) ?_)
  refine wpAny_bind (wpAny_callSpecial?_slot (name:=Str.ofString "__getitem__") ht.typeIs PyProof.Rows.slot_tuple_getitem
    (wpAny_call_entry PyProof.Rows.slot_tuple_getitem ht.typeIs entry_tuple_getitem ?_ (args_tuple_getitem _ _)))
  show wpAny _ _ (Builtin.Tuple.tupleItemsOf (.ref t) >>= _) _ _ s
  refine wpAny_bind (tupleItemsOf_ ht ?_)
  refine wpAny_bind (wpAny_typeOf hTs ?_)
  rw [if_pos (by decide)]
  refine wpAny_bind (sliceApplied_gen hs pl pu ?_)
  have hno:¬ ((((sIx items.size 0 lo:Nat):Int) == 0&&(1:Int) == 1&&(sIx items.size items.size hi - sIx items.size 0 lo) == items.size)=true):=by
    intro q
    rw [Bool.and_eq_true,Bool.and_eq_true] at q
    have q1:((sIx items.size 0 lo:Nat):Int)=0:=eq_of_beq q.1.1
    have q2:sIx items.size items.size hi - sIx items.size 0 lo=items.size:=eq_of_beq q.2
    exact hw ⟨by lia,by lia⟩
  show wpAny _ _ (if (((sIx items.size 0 lo:Nat):Int) == 0&&(1:Int) == 1&&(sIx items.size items.size hi - sIx items.size 0 lo) == items.size)=true then _ else _) _ _ s
  rw [if_neg hno,pick_gen]
  first
    | exact wpAny_bind (m:=Builtin.Tuple.tupleExact _) (wpAny_newObj_type (wpAny_pure ⟨_,rfl,wpAny_pure h⟩) htake)
    | exact wpAny_bind (m:=Builtin.Tuple.tupleExact _) (wpAny_newObj_type (wpAny_bind (wpAny_pure (wpAny_pure ⟨_,rfl,wpAny_pure h⟩))) htake)
    | exact wpAny_bind (wpAny_bind (m:=Builtin.Tuple.tupleExact _) (wpAny_newObj_type (wpAny_pure (wpAny_pure ⟨_,rfl,wpAny_pure h⟩)) htake))
    | exact wpAny_bind (wpAny_bind (m:=Builtin.Tuple.tupleExact _) (wpAny_newObj_type (wpAny_pure ⟨_,rfl,wpAny_pure h⟩) htake))
end
end HT
namespace L2
open PySem PySem.Spec PyProof.Rows
noncomputable abbrev TO:=St->Hp->(Option Int->Hp->Prop)->Prop
def PO (X:Cx)(e:Option Expr)(t:TO):Prop:=
  ∀ (pins:List (Addr×Obj)) (s:Shared) (σ:St) (H:Hp) (Q:Option Int->Hp->Prop),Inv X pins σ H s->t σ H Q ->
    wpAny (model X.prog X.w) X.A (evalPart e X.env) (fun u s'=>∃ o H',Inv X pins σ H' s'/\IsPart u o/\Q o H') X.xe s
noncomputable def tNoPart:TO:=fun _ H Q=>Q none H
noncomputable def tPart (t:TE):TO:=fun σ H Q=>t σ H fun x H1=>∃ i,x=.int i/\Q (some i) H1
section
variable {X:Cx} {e:Expr} {te:TE} {lo hi:Option Expr} {tl th:TO} {pos p2:Pos}
theorem po_none:PO X none tNoPart:=by
  intro pins s σ H Q I h
  rw [evalPart_none]
  exact wpAny_pure ⟨none,H,I,.none,h⟩
theorem po_some (h:PE X e te):PO X (some e) (tPart te):=by
  intro pins s σ H Q I hw
  rw [evalPart_some]
  refine thn (h pins s σ H _ I hw) fun u s1 ⟨x,H1,I1,r1,q1⟩=>?_
  obtain⟨i,rfl,q⟩:=q1
  obtain⟨t,rfl⟩:=r1
  exact⟨some i,H1,I1,.int i t,q⟩
def SlR (X:Cx)(r:V->Option Int->Option Int->Hp->VK->Prop):Prop:=
  ∀ (pins:List (Addr×Obj)) (s:Shared) (σ:St) (H:Hp) (x:V) (v vl vu:Value) (lo hi:Option Int) (sl:Addr) (Q:VK),Inv X pins σ H s->RelV x v->s.heap.IsSliceOf sl vl vu .none->IsPart vl lo->IsPart vu hi->r x lo hi H Q ->
    ∃ T id,typeLookup (.type T) "__getitem__" = pure (some (.builtin id))/\s.TypeIs v T/\wpAny (model X.prog X.w) X.A (getItem v (.ref sl)) (EP X pins σ Q) X.xe s
theorem SlR.or {r r':V->Option Int->Option Int->Hp->VK->Prop}(h:SlR X r)(h':SlR X r'):SlR X (fun x lo hi H Q=>r x lo hi H Q\/r' x lo hi H Q):=by
  intro pins s σ H x v vl vu lo hi sl Q I rx hs pl pu q
  rcases q with q | q
  · exact h pins s σ H x v vl vu lo hi sl Q I rx hs pl pu q
  · exact h' pins s σ H x v vl vu lo hi sl Q I rx hs pl pu q
noncomputable def tSl (r:V->Option Int->Option Int->Hp->VK->Prop)(te:TE)(tl th:TO):TE:=fun σ H Q=>te σ H fun x H1=>tl σ H1 fun l H2=>th σ H2 fun u H3=>r x l u H3 Q
theorem pe_slice {r:V->Option Int->Option Int->Hp->VK->Prop}(hr:SlR X r)(he:PE X e te)(hl:PO X lo tl)(hu:PO X hi th):PE X (.Subscript e (.Slice lo hi none p2) pos) (tSl r te tl th):=by
  intro pins s σ H Q I h
  refine Subscript_ (thn (he pins s σ H _ I h) fun v s1 ⟨x,H1,I1,r1,q1⟩=>?_)
  refine wpAny_Slice (thn (hl pins s1 σ H1 _ I1 q1) fun vl s2 ⟨l,H2,I2,pl,q2⟩=>thn (hu pins s2 σ H2 _ I2 q2) fun vu s3 ⟨u,H3,I3,pu,q3⟩=>?_)
  rw [evalPart_none]
  refine wpAny_pure ?_
  have I4:Inv X pins σ H3 { s3 with heap:=s3.heap.push { cls:=.type "slice",data:=.fields #[vl,vu,.none] } }:=I3.kept (t':=s3.toks) fun b ob q=>Heap.get?_push_of_some _ q
  obtain⟨T,id,hT,ht,hg⟩:=hr pins { s3 with heap:=s3.heap.push { cls:=.type "slice",data:=.fields #[vl,vu,.none] } } σ H3 x v vl vu l u s3.heap.objs.size Q I4 r1 (Heap.IsSliceOf.new ..) pl pu q3
  show wpAny (model X.prog X.w) X.A (subscriptTail e (.Slice lo hi none p2) v (.ref s3.heap.objs.size)) (EP X pins σ Q) X.xe { s3 with heap:=s3.heap.push { cls:=.type "slice",data:=.fields #[vl,vu,.none] } }
  exact tail_any (ops:=[.ref s3.heap.objs.size,v]) ht hT hg (by with_unfolding_all rfl)
noncomputable def cutV (xs:List V)(lo hi:Option Int):List V:=(xs.drop (HT.sIx xs.length 0 lo)).take (HT.sIx xs.length xs.length hi - HT.sIx xs.length 0 lo)
theorem cutV_length (xs:List V)(lo hi:Option Int):(cutV xs lo hi).length<=xs.length:=by
  unfold cutV
  rw [List.length_take,List.length_drop]
  lia
noncomputable def rSlT (K:PySem.W.Frag):V->Option Int->Option Int->Hp->VK->Prop:=fun x lo hi H Q=>∃ a xs,x=.ref a/\SqT K H a xs /\
  ¬ (HT.sIx xs.length 0 lo=0/\HT.sIx xs.length xs.length hi=xs.length)/\∀ p,H p=none->Q (.ref p) (upd H p (.tup (cutV xs lo hi)))
theorem sl_tup:SlR X (rSlT X.K):=by
  intro pins s σ H x v vl vu lo hi sl Q I rx hs pl pu h
  obtain⟨a,xs,rfl,hx,hw,q⟩:=h
  cases rx
  obtain⟨its,r,ht,hz⟩:=I.tuple hx
  have hlen:its.toArray.size=xs.length:=by rw [List.size_toArray];exact r.length.symm
  refine⟨"tuple",_,PyProof.Rows.slot_tuple_getitem.lookup,ht.typeIs,?_⟩
  refine HT.getItem_tuple_cut ht hs pl pu (by rw [hlen];exact hw) ?_ (by rw [hlen];exact hz)
  rw [hlen]
  refine⟨.ref s.heap.objs.size,_,I.laid (t':=s.toks) (o:=.tup (cutV xs lo hi)) (fun b ob q=>Heap.get?_push_of_some _ q) (Nat.le_refl _) ?_,rfl,q _ (I.hok.fresh (Nat.le_refl _))⟩
  exact⟨Nat.le_trans (cutV_length xs lo hi) hz,_,(r.drop (HT.sIx xs.length 0 lo)).take (HT.sIx xs.length xs.length hi - HT.sIx xs.length 0 lo),IsTup.new _ _⟩
noncomputable def rCatT (K:PySem.W.Frag):R2:=fun x y H Q=>∃ a b xs ys,x=.ref a/\y=.ref b/\SqT K H a xs/\SqT K H b ys/\xs≠[]/\xs.length+ys.length<=sizeLine /\
  (ys=[]->Q (.ref a) H)/\(ys≠[]->∀ p,H p=none->Q (.ref p) (upd H p (.tup (xs++ys))))
theorem Vals.nil_iff {xs:List V}{us:List Value}(r:Vals xs us):us=[]↔xs=[]:=by
  cases r with
  | nil=>simp
  | cons _ _=>simp
theorem op_catT:OpR X (binaryOp .Add) (rCatT X.K):=by
  intro pins s σ H x y v u Q I rx ry h
  obtain⟨a,b,xs,ys,rfl,rfl,ha,hb,hx,hz,q1,q2⟩:=h
  cases rx
  cases ry
  obtain⟨its,r1,p1,_⟩:=I.tuple ha
  obtain⟨its2,r2,p2,_⟩:=I.tuple hb
  refine HT.cat_tup p1 p2 (fun z=>hx (r1.nil_iff.mp z)) (fun z=>⟨.ref a,H,I,rfl,q1 (r2.nil_iff.mp z)⟩) (fun z=>?_) (by rw [← r1.length,← r2.length];exact hz)
  refine⟨.ref s.heap.objs.size,_,I.laid (t':=s.toks) (o:=.tup (xs++ys)) (fun b ob q=>Heap.get?_push_of_some _ q) (Nat.le_refl _) ?_,rfl,q2 (fun w=>z (r2.nil_iff.mpr w)) _ (I.hok.fresh (Nat.le_refl _))⟩
  exact⟨by rw [List.length_append];exact hz,_,r1.append r2,IsTup.new _ _⟩
end
end L2
namespace L2
open PySem PySem.Spec PyProof.Rows
noncomputable def ixN (n:Nat)(i:Int):Option Nat:=if 0<=i then(if i<n then some i.toNat else none) else if -(n:Int)<=i then some (i+n).toNat else none
noncomputable def atI {α:Type}(xs:List α)(i:Int):Option α:=(ixN xs.length i).bind fun j=>xs[j]?
theorem ixN_seq {n:Nat}{i:Int}{j:Nat}(h:ixN n i=some j):seqIndex? i n=some j/\j<n/\-(n:Int)<=i/\i<n:=by
  unfold ixN at h
  by_cases h0:0<=i
  · rw [if_pos h0] at h
    by_cases h1:i<n
    · rw [if_pos h1] at h
      have e:i.toNat=j:=Option.some.inj h
      exact⟨by rw [seqIndex_of h0 h1,e],by lia,by lia,h1⟩
    · rw [if_neg h1] at h;cases h
  · rw [if_neg h0] at h
    by_cases h1:-(n:Int)<=i
    · rw [if_pos h1] at h
      have e:(i+n).toNat=j:=Option.some.inj h
      exact⟨by rw [seqIndex_neg (by lia) h1,e],by lia,h1,by lia⟩
    · rw [if_neg h1] at h;cases h
theorem atI_get {α:Type}{xs:List α}{i:Int}{v:α}(h:atI xs i=some v):∃ j,seqIndex? i xs.length=some j/\xs[j]? = some v/\j<xs.length/\-(xs.length:Int)<=i/\i<xs.length:=by
  unfold atI at h
  cases e:ixN xs.length i with
  | none=>rw [e] at h;cases h
  | some j=>
    rw [e] at h
    obtain⟨h1,h2,h3,h4⟩:=ixN_seq e
    exact⟨j,h1,h,h2,h3,h4⟩
theorem atI_nat {α:Type}{xs:List α}{j:Nat}{v:α}(h:xs[j]? = some v):atI xs (j:Int)=some v:=by
  have hj:j<xs.length:=(List.getElem?_eq_some_iff.mp h).1
  have e:ixN xs.length (j:Int)=some j:=by
    unfold ixN
    rw [if_pos (by lia),if_pos (by lia)];simp
  unfold atI;rw [e];exact h
def PlainIx (b:Expr):Prop:=∀ o i,subscripted b false o i=operate [o,i] (getItem o i)
def IxR (X:Cx)(r:R2):Prop:=
  ∀ (value slice:Expr) (pins:List (Addr×Obj)) (s:Shared) (σ:St) (H:Hp) (x y:V) (v u:Value) (Q:VK),Inv X pins σ H s->RelV x v->RelV y u->r x y H Q ->
    subscripted slice false v u=operate [v,u] (getItem v u)->wpAny (model X.prog X.w) X.A (subscriptTail value slice v u) (EP X pins σ Q) X.xe s
def MtR (X:Cx)(id:String)(r:V->List V->Hp->VK->Prop):Prop:=
  ∀ (pins:List (Addr×Obj)) (s:Shared) (σ:St) (H:Hp) (x:V) (xs:List V) (v:Value) (us:List Value) (Q:VK),Inv X pins σ H s->RelV x v->Vals xs us->r x xs H Q ->
    wpAny (model X.prog X.w) X.A (call (.builtin id) (v::us)) (EP X pins σ Q) X.xe s
section
variable {X:Cx} {a b:Expr} {ta tb:TE} {pos:Pos}
theorem IxR.or {r r':R2}(h:IxR X r)(h':IxR X r'):IxR X (fun x y H Q=>r x y H Q\/r' x y H Q):=by
  intro value slice pins s σ H x y v u Q I rx ry q hs
  rcases q with q | q
  · exact h value slice pins s σ H x y v u Q I rx ry q hs
  · exact h' value slice pins s σ H x y v u Q I rx ry q hs
theorem MtR.or {id:String}{r r':V->List V->Hp->VK->Prop}(h:MtR X id r)(h':MtR X id r'):MtR X id (fun x xs H Q=>r x xs H Q\/r' x xs H Q):=by
  intro pins s σ H x xs v us Q I rx rs q
  rcases q with q | q
  · exact h pins s σ H x xs v us Q I rx rs q
  · exact h' pins s σ H x xs v us Q I rx rs q
theorem pe_ix {r:R2}(hr:IxR X r)(ha:PE X a ta)(hb:PE X b tb)(hs:PlainIx b):PE X (.Subscript a b pos) (tOp r ta tb):=by
  intro pins s σ H Q I h
  exact Subscript_ (binT ha hb I h fun v u s2 x y H2 I2 rx ry q=>hr a b pins s2 σ H2 x y v u Q I2 rx ry q (hs _ _))
noncomputable def rIxL (K:PySem.W.Frag):R2:=fun x y H Q=>∃ p xs i v,x=.ref p/\y=.int i/\SqL K H p xs/\atI xs i=some v/\Q v H
noncomputable def rIxT (K:PySem.W.Frag):R2:=fun x y H Q=>∃ p xs i v,x=.ref p/\y=.int i/\SqT K H p xs/\atI xs i=some v/\Q v H
noncomputable def rIxS:R2:=fun x y H Q=>∃ z i c,x=.str z/\y=.int i/\z.length<=sizeLine/\atI z.cps.toList i=some c/\Q (.str ⟨#[c]⟩) H
theorem ix_list:IxR X (rIxL X.K):=by
  intro value slice pins s σ H x y v u Q I rx ry h hs
  obtain⟨p,xs,i,z,rfl,rfl,hq,he,q⟩:=h
  cases rx
  obtain⟨t,rfl⟩:=ry
  obtain⟨its,r,pl,hz⟩:=I.list hq
  obtain⟨j,h1,h2,h3,h4,h5⟩:=atI_get he
  obtain⟨w,ew,rw'⟩:=r.get h2
  have hl:=r.length
  have hn:=line63
  have fin:EP X pins σ Q w s:=⟨z,H,I,rw',q⟩
  by_cases h0:0<=i
  · have hj:i.toNat=j:=by
      rw [seqIndex_of h0 h5] at h1
      exact Option.some.inj h1
    exact item_listR pl.isList h0 (by lia) (by rw [hj];simpa using ew) fin hs
  · have hj:(i+(its.toArray.size:Int)).toNat=j:=by
      rw [seqIndex_neg (by lia) h4] at h1
      rw [List.size_toArray,← hl]
      exact Option.some.inj h1
    exact subscriptTail_builtinR (x:=w) pl.isList.typeIs slot_list_getitem.lookup
      (wpAny_getItem_list_neg (Q:=fun r s'=>r=w/\EP X pins σ Q r s') pl.isList (by lia) (by rw [List.size_toArray]<;>lia) (by lia) (by rw [hj];simpa using ew) ⟨rfl,fin⟩) hs
theorem ix_tup:IxR X (rIxT X.K):=by
  intro value slice pins s σ H x y v u Q I rx ry h hs
  obtain⟨p,xs,i,z,rfl,rfl,hq,he,q⟩:=h
  cases rx
  obtain⟨t,rfl⟩:=ry
  obtain⟨its,r,pl,hz⟩:=I.tuple hq
  obtain⟨j,h1,h2,h3,h4,h5⟩:=atI_get he
  obtain⟨w,ew,rw'⟩:=r.get h2
  have hl:=r.length
  have hn:=line63
  have fin:EP X pins σ Q w s:=⟨z,H,I,rw',q⟩
  exact subscriptTail_builtinR (x:=w) pl.typeIs slot_tuple_getitem.lookup
    (getItem_tuple (j:=j) (Q:=fun r s'=>r=w/\EP X pins σ Q r s') pl (by lia) (by lia) (by rw [List.size_toArray,← hl];exact h1) (by simpa using ew) ⟨rfl,fin⟩) hs
theorem ix_str:IxR X rIxS:=by
  intro value slice pins s σ H x y v u Q I rx ry h hs
  obtain⟨z,i,c,rfl,rfl,hz,he,q⟩:=h
  obtain⟨t,rfl⟩:=rx
  obtain⟨t',rfl⟩:=ry
  obtain⟨j,h1,h2,h3,h4,h5⟩:=atI_get he
  have hl:z.cps.toList.length=z.length:=by simp [Str.length]
  rw [hl] at h1 h4 h5
  have hn:=line63
  exact tail_any (typeIs_str s z t) slot_str_getitem.lookup (getItem_str (c:=c) (by
    have e1:decide (i < -(2 ^ 63:Int))=false:=decide_eq_false (by lia)
    have e2:decide (i ≥ 2 ^ 63)=false:=decide_eq_false (by lia)
    rw [e1,e2,Bool.or_false]) (by rw [h1];simpa using h2) ⟨.str ⟨#[c]⟩,H,I.tok _,⟨_,rfl⟩,q⟩) hs
theorem Inv.lst {pins:List (Addr×Obj)}{σ:St}{H:Hp}{s:Shared}{p:Addr}{xs:List V}(I:Inv X pins σ H s)(h:H p=some (.lst xs)) :
    ∃ (its:List Value) (n:Nat),Vals xs its/\s.heap.get? p=some { cls:=.type "list",data:=.seq its.toArray n }/\xs.length<=sizeLine:=by
  obtain⟨z,its,n,r,e⟩:=I.hok p _ h
  exact⟨its,n,r,e,z⟩
noncomputable def rSetL:V->V->V->Hp->(Hp->Prop)->Prop:=fun o i v H Q=>∃ p xs k j,o=.ref p/\i=.int k/\H p=some (.lst xs)/\ixN xs.length k=some j/\Q (upd H p (.lst (xs.set j v)))
noncomputable def rSlL (K:PySem.W.Frag):V->Option Int->Option Int->Hp->VK->Prop:=fun x lo hi H Q=>∃ a xs,x=.ref a/\SqL K H a xs/\∀ p,H p=none->Q (.ref p) (upd H p (.lst (cutV xs lo hi)))
noncomputable def flatV:V->Bool
  | .non=>true
  | .bl _=>true
  | .int _=>true
  | .str _=>true
  | _=>false
noncomputable def eqV:V->V->Bool
  | .non,.non=>true
  | .bl a,.bl b=>a == b
  | .bl a,.int b=>(if a then 1 else 0) == b
  | .int a,.bl b=>a == (if b then 1 else 0)
  | .int a,.int b=>a == b
  | .str a,.str b=>a == b
  | _,_=>false
theorem eqAt_V {A:Around}{s:Shared}{y x:V}{u v:Value}(ry:RelV y u)(rx:RelV x v)(fy:flatV y=true)(fx:flatV x=true):SeqAt.EqAt A s u v (eqV y x):=by
  cases y with
  | non=>
    cases ry
    cases x with
    | non=>cases rx;exact SeqAt.EqAt.same _
    | bl b=>cases rx;exact SeqAt.EqAt.none_bool b
    | int b=>obtain⟨t,rfl⟩:=rx;exact SeqAt.EqAt.none_int b t
    | str b=>obtain⟨t,rfl⟩:=rx;exact SeqAt.EqAt.none_str b t
    | _=>exact absurd (show false=true from fx) Bool.false_ne_true
  | bl a=>
    cases ry
    cases x with
    | non=>cases rx;exact SeqAt.EqAt.bool_none a
    | bl b=>cases rx;exact SeqAt.EqAt.bool_bool a b
    | int b=>obtain⟨t,rfl⟩:=rx;exact SeqAt.EqAt.bool_int a b t
    | str b=>obtain⟨t,rfl⟩:=rx;exact SeqAt.EqAt.bool_str a b t
    | _=>exact absurd (show false=true from fx) Bool.false_ne_true
  | int a=>
    obtain⟨t',rfl⟩:=ry
    cases x with
    | non=>cases rx;exact SeqAt.EqAt.int_none a t'
    | bl b=>cases rx;exact SeqAt.EqAt.int_bool a t' b
    | int b=>obtain⟨t,rfl⟩:=rx;exact SeqAt.EqAt.int_int a t' b t
    | str b=>obtain⟨t,rfl⟩:=rx;exact SeqAt.EqAt.int_str a t' b t
    | _=>exact absurd (show false=true from fx) Bool.false_ne_true
  | str a=>
    obtain⟨t',rfl⟩:=ry
    cases x with
    | non=>cases rx;exact SeqAt.EqAt.str_none a t'
    | bl b=>cases rx;exact SeqAt.EqAt.str_bool a t' b
    | int b=>obtain⟨t,rfl⟩:=rx;exact SeqAt.EqAt.str_int a t' b t
    | str b=>obtain⟨t,rfl⟩:=rx;exact SeqAt.EqAt.str_str a t' b t
    | _=>exact absurd (show false=true from fx) Bool.false_ne_true
  | _=>exact absurd (show false=true from fy) Bool.false_ne_true
noncomputable def eqU (x:V)(u:Value):Bool:=match u with
  | .none=>eqV .non x
  | .bool b=>eqV (.bl b) x
  | .int i _=>eqV (.int i) x
  | .str z _=>eqV (.str z) x
  | _=>false
theorem eqU_of {x y:V}{u:Value}(r:RelV y u)(f:flatV y=true):eqU x u=eqV y x:=by
  cases y with
  | non=>cases r;rfl
  | bl b=>cases r;rfl
  | int i=>obtain⟨t,rfl⟩:=r;rfl
  | str z=>obtain⟨t,rfl⟩:=r;rfl
  | _=>exact absurd (show false=true from f) Bool.false_ne_true
theorem any_eqU {x:V}:∀ {xs:List V} {us:List Value},Vals xs us->xs.all flatV=true->us.any (eqU x)=xs.any fun y=>eqV y x
  | _,_,.nil,_=>rfl
  | y::xs,u::us,.cons r t,f=>by
    rw [List.all_cons,Bool.and_eq_true] at f
    rw [List.any_cons,List.any_cons,eqU_of r f.1,any_eqU t f.2]
theorem mem_eqAt {A:Around}{s:Shared}{x:V}{v:Value}(rx:RelV x v)(fx:flatV x=true):∀ {xs:List V} {us:List Value},Vals xs us->xs.all flatV=true->∀ u∈us,SeqAt.EqAt A s u v (eqU x u)
  | _,_,.nil,_=>fun u hu=>by cases hu
  | y::xs,u::us,.cons r t,f=>fun u' hu=>by
    rw [List.all_cons,Bool.and_eq_true] at f
    rcases List.mem_cons.mp hu with rfl | hu
    · rw [eqU_of r f.1];exact eqAt_V r rx f.1 fx
    · exact mem_eqAt rx fx t f.2 u' hu
noncomputable def inV (x:V)(xs:List V):Bool:=xs.any fun y=>eqV y x
noncomputable def rIn (K:PySem.W.Frag)(neg:Bool):R2:=fun x y H Q=>∃ p xs,y=.ref p/\(SqL K H p xs\/SqT K H p xs)/\flatV x=true/\xs.all flatV=true/\Q (.bl (if neg then !inV x xs else inV x xs)) H
theorem op_in_seq:OpR X (compareOp .In) (rIn X.K false):=by
  intro pins s σ H x y v u Q I rx ry h
  obtain⟨p,xs,rfl,hq,fx,fs,q⟩:=h
  cases ry
  rcases hq with hq | hq
  · obtain⟨its,r,pl,hz⟩:=I.list hq
    refine SeqAt.in_listAt (eqU x) pl.isList (fun w hw=>mem_eqAt rx fx r fs w (by simpa using hw)) ⟨.bl _,H,I,rfl,?_⟩
    rw [show its.toArray.any (eqU x)=its.any (eqU x) by simp,any_eqU r fs]
    exact q
  · obtain⟨its,r,pl,hz⟩:=I.tuple hq
    refine SeqAt.in_tupleAt (eqU x) pl (fun w hw=>mem_eqAt rx fx r fs w (by simpa using hw)) ⟨.bl _,H,I,rfl,?_⟩
    rw [show its.toArray.any (eqU x)=its.any (eqU x) by simp,any_eqU r fs]
    exact q
theorem op_notIn_seq:OpR X (compareOp .NotIn) (rIn X.K true):=by
  intro pins s σ H x y v u Q I rx ry h
  obtain⟨p,xs,rfl,hq,fx,fs,q⟩:=h
  cases ry
  rcases hq with hq | hq
  · obtain⟨its,r,pl,hz⟩:=I.list hq
    refine SeqAt.notIn_listAt (eqU x) pl.isList (fun w hw=>mem_eqAt rx fx r fs w (by simpa using hw)) ⟨.bl _,H,I,rfl,?_⟩
    rw [show its.toArray.any (eqU x)=its.any (eqU x) by simp,any_eqU r fs]
    exact q
  · obtain⟨its,r,pl,hz⟩:=I.tuple hq
    refine SeqAt.notIn_tupleAt (eqU x) pl (fun w hw=>mem_eqAt rx fx r fs w (by simpa using hw)) ⟨.bl _,H,I,rfl,?_⟩
    rw [show its.toArray.any (eqU x)=its.any (eqU x) by simp,any_eqU r fs]
    exact q
theorem call_len_seq:CallR X (.builtin "len") (fun xs H Q=>∃ p ys,xs=[.ref p]/\(SqL X.K H p ys\/SqT X.K H p ys)/\Q (.int ys.length) H):=by
  intro pins s σ H xs us Q I r h
  obtain⟨p,ys,rfl,hq,q⟩:=h
  obtain⟨u,rfl,rx⟩:=vals1 r
  cases rx
  have hn:=line63
  rcases hq with hq | hq
  · obtain⟨its,r',pl,hz⟩:=I.list hq
    have hlen:=r'.length
    exact Calls.call_len_list pl.isList (by simp only [List.size_toArray]<;>lia) ⟨.int ys.length,H,I.tok _,⟨s.toks+1,by rw [List.size_toArray,hlen]⟩,q⟩
  · obtain⟨its,r',pl,hz⟩:=I.tuple hq
    have hlen:=r'.length
    exact len_tuple pl (by simp only [List.size_toArray]<;>lia) ⟨.int ys.length,H,I.tok _,⟨s.toks+1,by rw [List.size_toArray,hlen]⟩,q⟩
theorem call_len_str:CallR X (.builtin "len") (fun xs H Q=>∃ z,xs=[.str z]/\z.length<=sizeLine/\Q (.int z.length) H):=by
  intro pins s σ H xs us Q I r h
  obtain⟨z,rfl,hz,q⟩:=h
  obtain⟨u,rfl,t,rfl⟩:=vals1 r
  have hn:=line63
  exact len_str (by lia) ⟨.int z.length,H,I.tok _,⟨_,rfl⟩,q⟩
theorem CallR.or {f:Value}{r r':List V->Hp->VK->Prop}(h:CallR X f r)(h':CallR X f r'):CallR X f (fun xs H Q=>r xs H Q\/r' xs H Q):=by
  intro pins s σ H xs us Q I rs q
  rcases q with q | q
  · exact h pins s σ H xs us Q I rs q
  · exact h' pins s σ H xs us Q I rs q
def tyV (K:PySem.W.Frag)(T:String)(x:V)(H:Hp):Prop:=match x with
  | .str _=>T="str"
  | .int _=>T="int"
  | .ref p=>(T="list"/\∃ xs,SqL K H p xs)\/(T="tuple"/\∃ o,K.lookup p=some o/\o.cls=.type "tuple"/\o.dict=none) \/
      (T="dict"/\((∃ kvs,H p=some (.dK kvs))\/∃ kvs,H p=some (.dT kvs)))\/(T="set"/\∃ S n,H p=some (.set S n))
  | _=>False
theorem tyV_is {pins:List (Addr×Obj)}{σ:St}{H:Hp}{s:Shared}{T:String}{x:V}{v:Value}(I:Inv X pins σ H s)(r:RelV x v)(ty:tyV X.K T x H) :
    s.TypeIs v T/\∀ a,v=.ref a->∃ ob,s.heap.get? a=some ob/\ob.dict=none:=by
  cases x with
  | str z=>
    obtain⟨t,rfl⟩:=r
    cases (show T="str" from ty)
    exact⟨typeIs_str s z t,fun _ e=>nomatch e⟩
  | int i=>
    obtain⟨t,rfl⟩:=r
    cases (show T="int" from ty)
    exact⟨typeIs_int s i t,fun _ e=>nomatch e⟩
  | ref p=>
    cases r
    rcases ty with⟨rfl,xs,hq⟩ | ⟨rfl,o,hk,hc,hd⟩ | ⟨rfl,hk⟩ | ⟨rfl,S,n,hk⟩
    · obtain⟨its,_,pl,_⟩:=I.list hq
      refine⟨pl.isList.typeIs,fun a e=>?_⟩
      cases e
      obtain⟨o,n,e,c,hd,_⟩:=pl
      exact⟨o,e,hd⟩
    · refine⟨⟨o,I.kIn p o hk,hc⟩,fun a e=>?_⟩
      cases e
      exact⟨o,I.kIn _ o hk,hd⟩
    · have z:∃ o,s.heap.get? p=some o/\o.ExactDict:=by
        rcases hk with⟨kvs,hk⟩ | ⟨kvs,hk⟩
        · obtain⟨_,_,_,_,o,_,_,e,ex,_⟩:=I.hok p _ hk
          exact⟨o,e,ex⟩
        · obtain⟨_,_,_,_,o,_,_,e,ex,_⟩:=I.hok p _ hk
          exact⟨o,e,ex⟩
      obtain⟨o,e,ex⟩:=z
      refine⟨⟨o,e,ex.1⟩,fun a e2=>?_⟩
      cases e2
      exact⟨o,e,ex.2.1⟩
    · obtain⟨o,_,_,_,e,ex,_⟩:=I.hok p _ hk
      refine⟨⟨o,e,ex.1⟩,fun a e2=>?_⟩
      cases e2
      exact⟨o,e,ex.2.1⟩
  | _=>exact False.elim ty
noncomputable def tBM0 (K:PySem.W.Frag)(T:String)(r:V->List V->Hp->VK->Prop)(to:TE):TE:=fun σ H Q=>to σ H fun x H1=>tyV K T x H1/\r x [] H1 Q
noncomputable def tBM (K:PySem.W.Frag)(T:String)(r:V->List V->Hp->VK->Prop)(to:TE)(t:TA):TE:=fun σ H Q=>to σ H fun x H1=>tyV K T x H1/\t σ H1 fun xs H2=>r x xs H2 Q
variable {o e:Expr} {es:List Expr} {to:TE} {t:TA} {name:Str} {apos cpos:Pos} {T id:String} {r:V->List V->Hp->VK->Prop}
theorem pe_bm0 (pa:PlainAttrs T)(slot:Slot T name id)(hty:typeOf (.builtin id)=pure (.type "method_descriptor"))(hm:MtR X id r)(ho:PE X o to)
    (hbase:attributeBase o name X.env (eval o X.env)=eval o X.env:=by rfl) (hline:(apos.endLine == cpos.line)=true:=by rfl):PE X (.Call (.Attribute o name apos) [] [] cpos) (tBM0 X.K T r to):=by
  intro pins s σ H Q I h
  refine wpAny_Call_method0_late hbase hline (thn (ho pins s σ H _ I h) fun v s1 ⟨x,H1,I1,r1,ty,q1⟩=>?_)
  obtain⟨h1,h2⟩:=tyV_is I1 r1 ty
  exact⟨T,id,pa,slot,hty,h1,h2,Calls.callWith_builtin rfl (PySem.evalArgs_none (hm pins s1 σ H1 x [] v [] Q I1 r1 .nil q1))⟩
theorem pe_bm (pa:PlainAttrs T)(slot:Slot T name id)(hty:typeOf (.builtin id)=pure (.type "method_descriptor"))(hm:MtR X id r)(ho:PE X o to)(ha:PA X (e::es) t)
    (hbase:attributeBase o name X.env (eval o X.env)=eval o X.env:=by rfl)
    (hfew:((backTo cpos (starEach (e::es) X.env)).all (fun x=>!x.1)&&(backToKw cpos (keywordEach [] X.env)).all (fun x=>x.1.isSome)
      && decide ((e::es).length+([]:List Keyword).length+(if ([]:List Keyword).isEmpty then 0 else 1)<30))=true:=by rfl)
    (hline:(apos.endLine == cpos.line)=true:=by rfl) (hs:starEach (e::es) X.env=(false,eval e X.env)::starEach es X.env:=by rfl) (hplain:(backTo cpos (starEach es X.env)).any (·.1)=false:=by rfl) :
    PE X (.Call (.Attribute o name apos) (e::es) [] cpos) (tBM X.K T r to t):=by
  intro pins s σ H Q I h
  refine wpAny_Call_method_late hbase hfew hline rfl (thn (ho pins s σ H _ I h) fun v s1 ⟨x,H1,I1,r1,ty,q1⟩=>?_)
  obtain⟨h1,h2⟩:=tyV_is I1 r1 ty
  refine⟨T,id,pa,slot,hty,h1,h2,?_⟩
  have hA:=ha cpos pins s1 σ H1 _ I1 q1
  rw [hs] at hA ⊢
  refine Calls.callWith_builtin (by show(false||(backTo cpos (starEach es X.env)).any (·.1))=false;rw [hplain]<;>rfl) (Calls.evalArgs_plain ?_)
  exact thn hA fun us s2 ⟨vs,H2,I2,r2,q2⟩=>hm pins s2 σ H2 x vs v us Q I2 r1 r2 q2
end
end L2
namespace L2
open PySem PySem.Spec PyProof.Rows
def MtM (X:Cx)(id:String)(r:V->List V->Hp->VK->Prop):Prop:=
  ∀ (pins:List (Addr×Obj)) (s:Shared) (σ:St) (H:Hp) (x:V) (xs:List V) (v:Value) (us:List Value) (Q:VK),Inv X pins σ H s->RelV x v->Vals xs us->r x xs H Q ->
    wpAny (model X.prog X.w) X.A (call (.builtin id) (v::us)) (EP X pins σ Q) X.xe s
theorem Vals.one:∀ {x:V} {us:List Value},Vals [x] us->∃ u,us=[u]/\RelV x u
  | _,_,.cons r .nil=>⟨_,rfl,r⟩
theorem Vals.zero:∀ {us:List Value},Vals [] us->us=[]
  | _,.nil=>rfl
theorem Vals.dropLast {xs:List V}{us:List Value}(h:Vals xs us):Vals xs.dropLast us.dropLast:=by
  induction h with
  | nil=>exact .nil
  | cons r t ih=>
    cases t with
    | nil=>exact .nil
    | cons q t'=>exact .cons r ih
theorem Vals.reverse {xs:List V}{us:List Value}(h:Vals xs us):Vals xs.reverse us.reverse:=by
  induction h with
  | nil=>exact .nil
  | cons r t ih=>rw [List.reverse_cons,List.reverse_cons];exact Vals.append ih (.cons r .nil)
section
variable {X:Cx} {pins:List (Addr×Obj)} {σ:St} {H:Hp} {s:Shared} {l b:Addr} {xs ys zs:List V}
theorem Inv.lset {its its':List Value}{n:Nat}{f:Array Value->Array Value}{t':Nat}(I:Inv X pins σ H s)(hH:H l=some (.lst xs))
    (e:s.heap.get? l=some { cls:=.type "list",data:=.seq its.toArray n }) (hf:f its.toArray=its'.toArray) (hv:Vals ys its') (hz:ys.length<=sizeLine) :
    Inv X pins σ (upd H l (.lst ys)) { s with heap:=s.heap.update l (Obj.mapSeq f),toks:=t' }:=by
  have q:=PySem.IsL.update e f
  rw [hf] at q
  refine I.write (x:=l) (e:=l) (by rw [hH];exact trivial) (.inl rfl) (fun b' u hb hu=>(Heap.get?_update_other s.heap (Obj.mapSeq f) (Ne.symm hb)).trans hu) ⟨_,q⟩ ?_
  exact⟨hz,its',_,hv,q⟩
theorem Inv.lnew {its:List Value}{t':Nat}(I:Inv X pins σ H s)(hv:Vals ys its)(hz:ys.length<=sizeLine) :
    Inv X pins σ (upd H s.heap.objs.size (.lst ys)) { s with heap:=s.heap.push { cls:=.type "list",data:=.seq its.toArray },toks:=t' }:=
  I.laid (fun _ _ q=>Heap.get?_push_of_some _ q) (Nat.le_refl _) ⟨hz,its,0,hv,Heap.get?_push_size _ rfl⟩
theorem Inv.fresh (I:Inv X pins σ H s):H s.heap.objs.size=none:=I.hok.fresh (Nat.le_refl _)
theorem Inv.lstM (I:Inv X pins σ H s)(hH:H l=some (.lst xs)):xs.length<=sizeLine/\∃ (its:List Value) (n:Nat),Vals xs its/\xs.length=its.length/\s.heap.get? l=some { cls:=.type "list",data:=.seq its.toArray n }:=by
  obtain⟨z,its,n,r,e⟩:=I.hok l _ hH
  exact⟨z,its,n,r,r.length,e⟩
theorem notLongL {n:Nat}(h:n<=sizeLine):Builtin.List.listTooLong n=false:=by
  unfold Builtin.List.listTooLong
  exact decide_eq_false (by lia)
end
section
variable {X:Cx}
noncomputable def rAppend:V->List V->Hp->VK->Prop:=fun x vs H Q=>∃ l xs y,x=.ref l/\vs=[y]/\H l=some (.lst xs)/\xs.length<sizeLine/\Q .non (upd H l (.lst (xs++[y])))
theorem mt_append:MtM X "list.append" rAppend:=by
  intro pins s σ H x vs v us Q I rx rv h
  obtain⟨l,xs,y,rfl,rfl,hH,hz,q⟩:=h
  cases rx
  obtain⟨u,rfl,ru⟩:=rv.one
  obtain⟨z,its,n,r,hl,e⟩:=I.lstM hH
  refine call_meets F.slot_list_append ⟨_,e,rfl⟩ F.entry_list_append (F.args_list_append_2 _ _) (PySem.list_append l its.toArray n u (by rw [List.size_toArray];lia)) ⟨e,?_⟩
  refine⟨.non,_,I.lset (its':=its++[u]) hH e (by simp) (r.append (.cons ru .nil)) ?_,rfl,q⟩
  rw [List.length_append,List.length_singleton]
  lia
noncomputable def rExtend:V->List V->Hp->VK->Prop:=fun x vs H Q=>∃ l b xs zs,x=.ref l/\vs=[.ref b]/\H l=some (.lst xs)/\H b=some (.lst zs)/\xs.length+zs.length<=sizeLine/\Q .non (upd H l (.lst (xs++zs)))
theorem mt_extend:MtM X "list.extend" rExtend:=by
  intro pins s σ H x vs v us Q I rx rv h
  obtain⟨l,b,xs,zs,rfl,rfl,hH,hB,hz,q⟩:=h
  cases rx
  obtain⟨u,rfl,ru⟩:=rv.one
  cases ru
  obtain⟨z,its,n,r,hl,e⟩:=I.lstM hH
  obtain⟨z2,its2,n2,r2,hl2,e2⟩:=I.lstM hB
  have hsz:its.toArray.size+its2.toArray.size<=sizeLine:=by rw [List.size_toArray,List.size_toArray];lia
  have hlong:¬ (!its.toArray.isEmpty&&Builtin.List.listTooLong (its.toArray.size+its2.toArray.size))=true:=by
    rw [notLongL hsz,Bool.and_false]
    exact Bool.false_ne_true
  refine call_meets F.slot_list_extend ⟨_,e,rfl⟩ F.entry_list_extend (F.args_list_extend_2 _ _)
    (AutoSeq1.list_extend_list_list_0 l its.toArray n b its2.toArray n2 hlong (by rw [List.size_toArray];lia) (by lia)) ⟨e,e2,?_⟩
  refine⟨.non,_,I.lset (its':=its++its2) hH e (by simp) (r.append r2) ?_,rfl,q⟩
  rw [List.length_append]
  lia
noncomputable def rPop:V->List V->Hp->VK->Prop:=fun x vs H Q=>∃ l xs y,x=.ref l/\vs=[]/\H l=some (.lst xs)/\xs[xs.length - 1]? = some y/\Q y (upd H l (.lst xs.dropLast))
noncomputable def rClear:V->List V->Hp->VK->Prop:=fun x vs H Q=>∃ l xs,x=.ref l/\vs=[]/\H l=some (.lst xs)/\Q .non (upd H l (.lst []))
theorem mt_clear:MtM X "list.clear" rClear:=by
  intro pins s σ H x vs v us Q I rx rv h
  obtain⟨l,xs,rfl,rfl,hH,q⟩:=h
  cases rx
  have hus:=rv.zero
  subst hus
  obtain⟨z,its,n,r,hl,e⟩:=I.lstM hH
  refine call_meets F.slot_list_clear ⟨_,e,rfl⟩ F.entry_list_clear (F.args_list_clear_1 _) (AutoSeq1.list_clear_list_0 l its.toArray n (by rw [List.size_toArray];lia)) ⟨e,?_⟩
  exact⟨.non,_,I.lset (its':=[]) (ys:=[]) hH e rfl .nil (Nat.zero_le _),rfl,q⟩
noncomputable def rCat:R2:=fun x y H Q=>∃ l b xs zs,x=.ref l/\y=.ref b/\H l=some (.lst xs)/\H b=some (.lst zs)/\xs.length+zs.length<=sizeLine/\∀ p,H p=none->Q (.ref p) (upd H p (.lst (xs++zs)))
theorem op_cat:OpR X (binaryOp .Add) rCat:=by
  intro pins s σ H x y v u Q I rx ry h
  obtain⟨l,b,xs,zs,rfl,rfl,hH,hB,hz,q⟩:=h
  cases rx
  cases ry
  obtain⟨z,its,n,r,hl,e⟩:=I.lstM hH
  obtain⟨z2,its2,n2,r2,hl2,e2⟩:=I.lstM hB
  refine PySem.P.add_list e e2 ?_ (by rw [List.size_toArray,List.size_toArray];lia)
  have ea:its.toArray++its2.toArray=(its++its2).toArray:=by simp
  rw [ea]
  exact⟨.ref _,_,I.lnew (t':=s.toks) (r.append r2) (by rw [List.length_append];lia),rfl,q _ I.fresh⟩
end
section
variable {prog:Program} {w:World} {A:Around} {E:Value->Shared->Prop} {s:Shared}
set_option maxRecDepth 100000 in
end
section
variable {X:Cx}
end
end L2
namespace Att
open PySem PySem.W PySem.Calls PyProof.Rows
theorem ints_of_wellAll {P:Params}{h:Heap}:∀ (ns:List Int) (vs:List Value),WellAll P h vs (ns.map WData.int)->IntsAre vs ns:=by
  intro ns
  induction ns with
  | nil=>
    intro vs w
    rw [List.map_nil] at w
    cases w
    exact .nil
  | cons n ns ih=>
    intro vs w
    rw [List.map_cons] at w
    cases w with
    | cons a b=>
      cases a
      exact .cons _ _ (ih _ b)
theorem script_of {l:OpenLaw}{n:Nat}(hn:l.most=some n){P:Params}{h:Heap}{args:List WData}{vals:List Value}
    (hpre:l.row.toRowW.claim.pre args=true) (hwl:WellAll P h vals args) :
    ∃ a vs ns,vals=[Value.ref a]/\args=[WData.list (ns.map WData.int)]/\h.get? a=some { cls:=.type "list",data:=.seq vs.toArray }/\IntsAre vs ns/\ns.length<=n:=by
  have hsh:WShape.hasAll [] args [.list .int]=true:=(pre_splitW hpre).1
  have hc:l.pre.holds [] { args:=args }=true:=(pre_splitW hpre).2
  obtain⟨d,r,rfl,h1,h2⟩:=hasAllW_cons hsh
  obtain rfl:=hasAllW_nil h2
  obtain⟨xs,rfl,h3⟩:=hasW_list h1
  obtain⟨ns,rfl⟩:=items_int h3
  have hlen:ns.length<=n:=by
    unfold OpenLaw.pre at hc
    have h4:(WTm.not (.lt (.lit (.int (n:Int))) (.len (.arg 0)))).holds [] { args:=[.list (ns.map .int)] }=true:=by
      have h4:=(holds_andW hc).1
      rw [hn] at h4
      exact h4
    have h5:=condW_of h4 (w_not (w_lt w_lit (w_len_list (w_arg rfl))))
    rw [List.length_map] at h5
    refine Nat.le_of_not_lt fun q=>?_
    have q':(n:Int)<((ns.length:Nat):Int):=by lia
    first
      | (rw [decide_eq_true q'] at h5;exact absurd h5 (by decide))
      | (simp at h5;omega)
  cases hwl with
  | cons w1 w2=>
    cases w2
    cases w1 with
    | list ho hall=>exact⟨_,_,ns,rfl,rfl,ho,ints_of_wellAll ns _ hall,hlen⟩
theorem post_true (l:OpenLaw)(args:List WData):l.row.toRowW.claim.post args (.bool true) args=true:=
  postW_of (r:=l.row.toRowW) (X:=(true == true))
    (show WShape.has [] (.bool true) .bool=true by first | rfl | decide | simp [WShape.has,WShape.arms,WShape.armsAll])
    (show(WTm.eq .res (.lit (.bool true))).value [] { args:=args,res:=some (.bool true),after:=args }=some (.bool (true == true)) from w_eq_bool (w_res rfl) w_lit) rfl
theorem attach_call {l:OpenLaw}{n:Nat}{q:Program}{loose:List Str}{XP:(Str->Option Value)->Heap->Prop}{YP:World->Heap->Prop}{d:DefRec}
    (hn:l.most=some n) (hdf:d.params.defaults=[])
    (call:∀ (w:World) (s₀ s₁:Shared) (mg mb:Str->Option Value) (fa:Addr) (o:Obj) (pm cd doc:Value) (a:Addr) (vs:List Value) (ns:List Int),
      Ground q loose [] XP w s₀ mg mb s₁.heap->YP w s₁.heap ->
      s₁.heap.get? fa=some o->o.data=.func (docDef d.name d.params d.body d.scope pm cd doc)->s₁.heap.CodeRec cd d.name->mg d.name=some (.ref fa) ->
      s₁.heap.get? a=some { cls:=.type "list",data:=.seq vs.toArray }->IntsAre vs ns->ns.length<=n->s₁.gens = #[] ->
      codeAny (model l.prog w) callerA (.call (.ref fa) ⟨[.ref a],[]⟩) (fun r s'=>r=.ok (.ret (.bool true))/\OldK s₁.heap s'.heap/\s'.os=s₁.os/\AllBare s'.gens) s₁) :
    WalkO q loose XP YP l.row.toRowW d [] (fun f vs=>PySem.call f vs):=by
  intro w s₀ s₁ mg mb G Y fa o pm cd doc dV kV ho hd hcd hD hmg hg args vals as hpre hlay hrd hwl hlo
  obtain rfl:dV=.none:=Dflts.none hD hdf
  obtain rfl:kV=.none:=Dflts.noKw hD
  obtain⟨a,vs,ns,rfl,rfl,hobj,hints,hlen⟩:=script_of hn hpre hwl
  refine enter_call (codeAny_mono (call w s₀ s₁ mg mb fa o pm cd doc a vs ns G Y ho (fd_plain hd) hcd hmg hobj hints hlen hg) fun r s' hq=>?_)
  obtain⟨rfl,h2,h3,h4⟩:=hq
  exact⟨.inl ⟨.bool true,.bool true,[],rfl,fun _=>rfl,.bool true,post_true l _,fun _=>⟨List.Pairwise.nil,fun _ hm=>(nomatch hm)⟩⟩,h2,h3,h4⟩
section
variable {prog:Program} {w:World} {A:Around} {E:Value->Shared->Prop} {s:Shared} {K:Frag}
end
end Att
namespace L2
open PySem PySem.Spec PyProof.Rows
theorem vals_ints:∀ {vs:List Value} {ns:List Int},IntsAre vs ns->Vals (ns.map V.int) vs
  | _,_,.nil=>.nil
  | _,_,.cons n t h=>.cons ⟨t,rfl⟩ (vals_ints h)
def Only (H:Hp):Prop:=∀ b,H b=none\/∃ o xs,H b=some (.frz o (.lst xs))
theorem law_call {P:Program}{w:World}{K:PySem.W.Frag}{mg mb:Str->Option Value}{CX:CXT}{k:Nat}{fa a:Addr}{fd:FuncData}{x:Str}{sp:Sp}{s₁:Shared}{vs:List Value}{ns:List Int}
    (KX:K.In s₁.heap) (hns:s₁.heap.Ns mainGlobals mg) (hb:s₁.heap.Ns builtinsNs mb) (hbb:∀ x:Str,x≠"__name__"->mb x=bootBuiltins x) (hlim:s₁.heap.NoLimit) (hg:s₁.gens = #[])
    (ha:s₁.heap.get? a=some { cls:=.type "list",data:=.seq vs.toArray }) (hi:IntsAre vs ns) (hl:ns.length<=sizeLine) (hr:Room k callerA)
    (F:∀ base:Heap,K.In base->base.Ns mainGlobals mg->FnOk P w K mg base CX k fa fd [x] sp) (hbind:∀ (s:Shared) (u:Value),BindsTo s fd ⟨[u],[]⟩ [(x,u)])
    (hsp:∀ H:Hp,Only H->SqL K H a (ns.map V.int)->sp [.ref a] H (fun v _=>v=.bl true) fun _ _ _=>False)
    (hCX:∀ H e s',CX [] H s₁ (fun _ _ _=>False) e s'->False) :
    codeAny (model P w) callerA (.call (.ref fa) ⟨[.ref a],[]⟩) (fun r s'=>r=.ok (.ret (.bool true))/\OldK s₁.heap s'.heap/\s'.os=s₁.os/\AllBare s'.gens) s₁:=by
  have rv:=vals_ints hi
  have lenV:=hi.length
  have core:∀ H:Hp,Only H->SqL K H a (ns.map V.int)->HOk P w H s₁.heap->(∀ b,H b≠none->b=a)->(H a≠none->K.lookup a=none) ->
      codeAny (model P w) callerA (.call (.ref fa) ⟨[.ref a],[]⟩) (fun r s'=>r=.ok (.ret (.bool true))/\OldK s₁.heap s'.heap/\s'.os=s₁.os/\AllBare s'.gens) s₁:=by
    intro H hO hS hok hA hK
    have base_of:∀ {b:Addr} {o:Obj},s₁.heap.get? b=some o->H b=none->(hidT s₁.heap H).get? b=some o:=fun e n=>hidT_get e n
    have noA:∀ {b:Addr} {o:Obj} {es:Array DictEntry} {ep:Nat},s₁.heap.get? b=some o->o.data=.dict es ep->H b=none:=fun {b o es ep} e d=>by
      cases q:H b with
      | none=>rfl
      | some u=>
        have e':b=a:=hA b (by rw [q];simp)
        subst e'
        rw [ha] at e;cases e
        have d':Data.seq vs.toArray _=Data.dict es ep:=d
        cases d'
    have nsK:∀ {b:Addr} {m:Str->Option Value},s₁.heap.Ns b m->(hidT s₁.heap H).Ns b m:=fun {b m} ⟨o,es,ep,e,d,r⟩=>⟨o,es,ep,base_of e (noA e d),d,r⟩
    have hKb:K.In (hidT s₁.heap H):=fun b o e=>base_of (KX b o e) (by
      cases q:H b with
      | none=>rfl
      | some u=>
        have e':b=a:=hA b (by rw [q];simp)
        subst e'
        rw [hK (by rw [q];simp)] at e;cases e)
    have hM:Mod K mg (hidT s₁.heap H):=⟨hKb,nsK hns,⟨mb,nsK hb,hbb⟩,let ⟨mc,h1,h2⟩:=hlim;⟨mc,nsK h1,h2⟩⟩
    have e0:Env0 P w K mg (hidT s₁.heap H) callerA [] s₁ H:=⟨rfl,hM,fun b o e=>of_hidT e,Nat.le_of_eq (hidT_size _ _),trivial,fun b hb=>absurd (show b∈([]:List Addr) from hb) (by simp),hok,.of_eq hg⟩
    refine codeAny_mono ((F _ hKb (nsK hns)).run callerA [] s₁ H ⟨[.ref a],[]⟩ [.ref a] [.ref a] _ _ hr e0 (hbind s₁ (.ref a)) (.cons rfl .nil) (hsp H hO hS)) fun r s' h=>?_
    cases r with
    | error e=>exact(hCX H e s' h).elim
    | ok fl=>
      cases fl with
      | next=>exact False.elim h
      | brk=>exact False.elim h
      | cont=>exact False.elim h
      | ret u=>
        obtain⟨v,H',os,bare,un,hok',r',q⟩:=h
        have q':v=.bl true:=q
        subst q'
        obtain rfl:u=Value.bool true:=r'
        refine⟨rfl,OldK.of_keep fun b o e=>?_,os,bare⟩
        cases q:H b with
        | none=>exact un.keep b o e q (by intro z;exact absurd (show b∈([]:List Addr) from z) (by simp)) (by simp)
        | some u=>
          rcases hO b with z | ⟨ob,xs,z⟩
          · rw [q] at z;cases z
          · have z2:=un.frzs b ob _ z
            obtain⟨e1,_⟩:=hok b _ z
            obtain⟨e2,_⟩:=hok' b _ z2
            rw [e] at e1;cases e1
            exact e2
  cases hk:K.lookup a with
  | some o=>
    have e:=KX a o hk
    rw [ha] at e
    cases e
    refine core (fun _=>none) (fun _=>.inl rfl) (.inr ⟨_,vs.toArray,_,hk,rfl,rfl,rfl,by rw [List.size_toArray,lenV];exact hl,by simpa using rv⟩) (fun b u z=>by have z':(none:Option HO)=some u:=z;cases z') (fun b z=>absurd rfl z) fun z=>absurd rfl z
  | none=>
    refine core (fun b=>if b=a then some (.frz { cls:=.type "list",data:=.seq vs.toArray } (.lst (ns.map V.int))) else none) (fun b=>?_) (.inl (.inr ⟨{ cls:=.type "list",data:=.seq vs.toArray },if_pos rfl⟩)) (fun b u z=>?_) (fun b z=>?_) fun _=>hk
    · by_cases hb:b=a
      · exact .inr ⟨_,_,if_pos hb⟩
      · exact .inl (if_neg hb)
    · by_cases hb:b=a
      · have z':=(if_pos hb).symm.trans z
        cases z'
        subst hb
        exact⟨ha,by rw [List.length_map];exact hl,vs,_,rv,ha⟩
      · have z':=(if_neg hb).symm.trans z
        cases z'
    · by_cases hb:b=a
      · exact hb
      · exact absurd (if_neg hb) z
end L2
namespace L2
open PySem PySem.Spec PyProof.Rows
theorem walk_of {l:PySem.W.OpenLaw}{n k:Nat}{q:Program}{loose:List Str}{XP:(Str->Option Value)->Heap->Prop}{YP:World->Heap->Prop}{d:DefRec}{K:Params->PySem.W.Frag}{CX:World->CXT}{sp:World->Sp}{x:Str}
    (hn:l.most=some n) (hn2:n<=sizeLine) (hdf:d.params.defaults=[]) (hr:Room k callerA)
    (hY:∀ (w:World) (h:Heap),YP w h->(K w.params).In h)
    (F:∀ (w:World) (mg:Str->Option Value) (fa:Addr) (h:Heap),(K w.params).In h->h.Ns mainGlobals mg->mg d.name=some (.ref fa) ->
      ∃ fd:FuncData,(∀ (s:Shared) (u:Value),BindsTo s fd ⟨[u],[]⟩ [(x,u)]) /\
        ∀ base:Heap,(K w.params).In base->base.Ns mainGlobals mg->FnOk l.prog w (K w.params) mg base (CX w) k fa fd [x] (sp w))
    (hsp:∀ (w:World) (H:Hp) (a:Addr) (ns:List Int),ns.length<=n->Only H->SqL (K w.params) H a (ns.map V.int)->sp w [.ref a] H (fun v _=>v=.bl true) fun _ _ _=>False)
    (hCX:∀ (w:World) (H:Hp) (s:Shared) (e:Value) (s':Shared),CX w [] H s (fun _ _ _=>False) e s'->False) :
    PySem.W.WalkO q loose XP YP l.row.toRowW d [] (fun f vs=>PySem.call f vs):=by
  refine Att.attach_call hn hdf fun w s₀ s₁ mg mb fa o pm cd doc a vs ns G Y ho hd hcd hmg hobj hints hlen hg=>?_
  have KX:=hY w _ Y
  obtain⟨fd,hb,hF⟩:=F w mg fa _ KX G.T.g hmg
  exact law_call KX G.T.g G.T.b G.T.builtins G.T.nolimit hg hobj hints (Nat.le_trans hlen hn2) hr hF hb (fun H hO hS=>hsp w H a ns hlen hO hS) fun H e s'=>hCX w H s₁ e s'
end L2
namespace L2
open PySem PySem.Spec PyProof.Rows
noncomputable def inClass (s:Stmt)(j:Nat):Stmt:=match s with
  | .ClassDef _ _ _ body _ _ _ _ _ _ _=>body.getD j (.Pass ⟨0,0,0,0⟩)
  | _=>.Pass ⟨0,0,0,0⟩
noncomputable def defArgs (s:Stmt):Arguments:=match s with
  | .FunctionDef _ a _ _ _ _ _ _ _ _=>a
  | _=>{ posonlyargs:=[],args:=[],vararg:=none,kwonlyargs:=[],kw_defaults:=[],kwarg:=none,defaults:=[] }
noncomputable def defBody (s:Stmt):List Stmt:=match s with
  | .FunctionDef _ _ b _ _ _ _ _ _ _=>b
  | _=>[]
noncomputable def defScope (s:Stmt):Scope:=match s with
  | .FunctionDef _ _ _ _ _ _ sc _ _ _=>sc
  | _=>{ kind:=.function,names:=[],isGenerator:=false,isCoroutine:=false }
noncomputable abbrev CX0:CXT:=fun _ _ _ _ _ _=>False
noncomputable abbrev E0:XK:=fun _ _ _=>False
theorem pass0 {X:Cx}:Passes CX0 X E0:=fun _ _ _ _ _ _ _ h=>h.elim
structure Fun (K:PySem.W.Frag)(x qual:Str)(st:Stmt)(f:Addr)(fd:FuncData):Prop where
  ex:∃ (oc:Value) (od:Option Addr) (kV doc pm:Value) (an:Option Addr) (cdv ct:Value) (osl:Array (Option Value)),
    fd=PySem.W.fnOf x qual (defArgs st) (defBody st) (defScope st) .none kV doc pm an cdv ct/\K.lookup f=some ⟨oc,od,.func fd,osl⟩/\PySem.W.codeIn K cdv qual=true
  kp:PySem.W.keepIn K (.ref f)=true
section
variable {P:Program} {w:World} {K:PySem.W.Frag} {mg:Str->Option Value} {base:Heap}
theorem Fun.ok {x qual:Str}{st:Stmt}{f:Addr}{fd:FuncData}{N ps:List Str}{k:Nat}{sp:Sp}(F:Fun K x qual st f fd)(S:FnScope N ps (defScope st))(len:∀ vs H Q E,sp vs H Q E->vs.length=ps.length)
    (hbody:∀ (cdv:Value) (A:Around) (outer:List Env) (s:Shared) (H:Hp) (vs:List V) (Q:VK) (E:XK),Room k (A.deeper (envOfC qual (defScope st) s.heap.objs.size f cdv))->sp vs H Q E ->
      ∃ t,PSs (cxOf CX0 P w K mg base N qual (defScope st) f cdv A outer s H E).nox (defBody st) t/\t { nx:=fun _ H'=>Q .non H',rt:=Q } (start N vs) H):FnOk P w K mg base CX0 (k+1) f fd ps sp:=by
  obtain⟨oc,od,kV,doc,pm,an,cdv,ct,osl,rfl,lk,hcd⟩:=F.ex
  refine fn_of lk hcd S len fun A outer s H vs Q E hr hsp=>?_
  obtain⟨t,h,q⟩:=hbody cdv A outer s H vs Q E hr hsp
  exact⟨t,h.nox,q⟩
theorem Fun.binds {x qual:Str}{st:Stmt}{f:Addr}{fd:FuncData}{ps:List Str}(F:Fun K x qual st f fd)
    (h:∀ (kV doc pm:Value) (an:Option Addr) (cdv ct:Value) (us:List Value),us.length=ps.length->bindArgs (PySem.W.fnOf x qual (defArgs st) (defBody st) (defScope st) .none kV doc pm an cdv ct) ⟨us,[]⟩=pure (ps.zip us)):Binds K fd ps []:=by
  obtain⟨oc,od,kV,doc,pm,an,cdv,ct,osl,rfl,lk,hcd⟩:=F.ex
  exact .all (h kV doc pm an cdv ct)
theorem fun_mk {x qual:Str}{st:Stmt}{f:Addr}{oc:Value}{od an:Option Addr}{osl:Array (Option Value)}{kV doc pm cdv ct:Value}(l:K.lookup f=some ⟨oc,od,.func (PySem.W.fnOf x qual (defArgs st) (defBody st) (defScope st) .none kV doc pm an cdv ct),osl⟩)
    (c:PySem.W.codeIn K cdv qual=true) (k:PySem.W.keepIn K (.ref f)=true):Fun K x qual st f (PySem.W.fnOf x qual (defArgs st) (defBody st) (defScope st) .none kV doc pm an cdv ct):=⟨⟨oc,od,kV,doc,pm,an,cdv,ct,osl,rfl,l,c⟩,k⟩
end
theorem hu_of {A:Around}{k:Nat}(hr:Room k A):A.units+1<cLine:=Nat.lt_of_le_of_lt (Nat.add_le_add_left (by decide:1<=64) _) hr.units
section
variable {X:Cx}
theorem pv (i:Nat){x:Str}{pos:Pos}(hN:X.N[i]? = some x:=by rfl) (hv:Vis X.env.scope x:=by first | exact Or.inl rfl | exact Or.inr (Or.inl rfl) | exact Or.inr (Or.inr rfl)) (hd:(x == ("__debug__":Str))=false:=by decide)
    (hcd:(x == ("__classdict__":Str))=false:=by decide):PE X (.Name x pos) (tVar i):=pe_var hN hv hd hcd
end
def Same (H H':Hp):Prop:=∀ b o,H b=some o->H' b=some o
theorem Same.refl (H:Hp):Same H H:=fun _ _ h=>h
theorem Same.trans {H H1 H2:Hp}(a:Same H H1)(b:Same H1 H2):Same H H2:=fun c o h=>b c o (a c o h)
theorem Same.free {H H':Hp}(e:Same H H'){l:Addr}(h:H' l=Option.none):H l=Option.none:=by
  cases q:H l with
  | none=>rfl
  | some o=>
    rw [e l o q] at h
    cases h
theorem Same.seq {K:PySem.W.Frag}{H H':Hp}{a:Addr}{xs:List V}(e:Same H H')(h:SqL K H a xs):SqL K H' a xs:=by
  rcases h with(h | ⟨o,h⟩) | h
  · exact .inl (.inl (e _ _ h))
  · exact .inl (.inr ⟨o,e _ _ h⟩)
  · exact .inr h
end L2
namespace L2
open PySem PySem.Spec PyProof.Rows
noncomputable def Its (x:Str):It:=⟨fun i _=>i<x.cps.size,fun i H v H'=>H' = H/\∃ c,x.cps[i]? = some c/\v=.str ⟨#[c]⟩,fun i _=>x.cps.size<=i⟩
section
variable {X:Cx} {tg:Expr}
theorem turn_of_str {P:Program}{w:World}{K:PySem.W.Frag}{tg:Expr}{x:Str}{t:Tok}{ty:String}{it:Addr}
    (hty:["enumerate","zip","dict_itemiterator","dict_reverseitemiterator","odict_iterator","itertools.zip_longest","itertools.pairwise"].contains ty=false)
    (W:∀ A':Around,A'.handled=none->Walks P w A' it [it] [it] x.cps.size (SignAt x) (fun i h=>h.IsStrIter it ty x t i))
    (hend:∀ (A':Around) (s:Shared) (i:Nat) (E:Value->Shared->Prop) (Q:Option Value->Shared->Prop),A'.handled=none->s.heap.IsStrIter it ty x t i->x.cps[i]? = none ->
      (∀ h',(∀ b o,b≠it->s.heap.get? b=some o->h'.get? b=some o)->Q none { s with heap:=h' })->wpAny (model P w) A' (pyNext (.ref it)) Q E s)
    (hself:∀ (A':Around) (s:Shared) (i:Nat) (E:Value->Shared->Prop) (Q:Value->Shared->Prop),s.heap.IsStrIter it ty x t i->Q (.ref it) s->wpAny (model P w) A' (pyIter (.ref it)) Q E s) :
    Turn P w K tg (Its x) [it] it (fun i h=>h.IsStrIter it ty x t i) where
  mem:=by simp
  obj:=fun i h st b hb=>by
    have e:b=it:=by simpa using hb
    subst e
    obtain⟨o,e,c,d⟩:=st
    exact⟨o,e,fun v z=>by rw [d] at z;cases z⟩
  keep:=fun i h h' st k=>let ⟨o,ho,r⟩:=st;⟨o,k it (by simp) o ho,r⟩
  item:=by
    intro X hP hw hK hc i pins s σ H E I hf st hg
    subst hP hw hK
    obtain⟨f0,f1,f2,f3,f4,f5⟩:=hf it (by simp)
    refine(W X.A (I.ok.hd hc)).item i s _ _ hg st fun v h' tk hv st' kk=>?_
    obtain⟨c,u,hcu,rfl⟩:=hv
    have I1:Inv X pins σ H { s with heap:=h',toks:=tk }:=I.turned (fun b o hb e=>kk b o (by simpa using hb) e) f0 f1 f3 f4 f5
    obtain⟨o,e,hcl,d⟩:=id st'
    exact⟨_,rfl,go_of (s:={ s with heap:=h',toks:=tk }) e hcl d hty ⟨.str ⟨#[c]⟩,H,I1,⟨u,rfl⟩,⟨rfl,c,hcu,rfl⟩,st',fun b hb=>(hf b hb).1⟩⟩
  done:=by
    intro X hP hw hK hc i pins s σ H E I hf st hg
    subst hP hw hK
    obtain⟨f0,f1,f2,f3,f4,f5⟩:=hf it (by simp)
    have hg':x.cps.size<=i:=hg
    exact hend X.A s i E _ (I.ok.hd hc) st (by simp [hg']) fun h' eb=>⟨rfl,I.turned (t':=s.toks) (fun b o hb e=>eb b o hb e) f0 f1 f3 f4 f5⟩
  self:=fun A i s Q E st h=>hself A s i E Q st h
noncomputable def iStr (tl:TE):TI:=fun σ H R=>tl σ H fun x H1=>∃ z,x=.str z/\R (Its z) H1
theorem pi_str {l:Expr}{tl:TE}(hl:PE X l tl):PI X tg l (iStr tl):=by
  intro pins s σ H R I h
  refine thn (hl pins s σ H _ I h) fun v s1 ⟨x,H1,I1,r1,q1⟩=>?_
  obtain⟨z,rfl,q⟩:=q1
  obtain⟨t,rfl⟩:=r1
  have fin:∀ (ty:String) (o:Obj),Turn X.prog X.w X.K tg (Its z) [s1.heap.objs.size] s1.heap.objs.size (fun i h=>h.IsStrIter s1.heap.objs.size ty z t i)->(s1.heap.push o).IsStrIter s1.heap.objs.size ty z t 0 ->
      PIE X pins σ tg R (.ref s1.heap.objs.size) { s1 with heap:=s1.heap.push o }:=fun ty o T st=>by
    refine⟨s1.heap.objs.size,[s1.heap.objs.size],_,_,H1,rfl,I1.kept (t':=s1.toks) fun b o e=>Heap.get?_push_of_some _ e,T,st,fun b hb=>?_,q⟩
    have e:b=s1.heap.objs.size:=by simpa using hb
    subst e
    exact I1.fpOk (Nat.le_refl _) (I1.hok.fresh (Nat.le_refl _))
  cases ha:z.cps.all (· < 128)
  · refine wpAny_pyIter_wide ha (fin "str_iterator" _ (turn_of_str (by decide) (fun A' hA=>Walks.strWide hA _ z t) ?_ ?_) ⟨_,Heap.get?_push_size _ rfl,rfl,rfl⟩)
    · intro A' s i E Q hA st hx hq
      exact wpAny_pyNext_wide_end hA st hx hq
    · intro A' s i E Q st h
      exact wpAny_pyIter_striter_wide st h
  · refine wpAny_pyIter_ascii ha (fin "str_ascii_iterator" _ (turn_of_str (by decide) (fun A' hA=>Walks.strAscii hA _ z t) ?_ ?_) ⟨_,Heap.get?_push_size _ rfl,rfl,rfl⟩)
    · intro A' s i E Q hA st hx hq
      exact wpAny_pyNext_ascii_end hA st hx hq
    · intro A' s i E Q st h
      exact wpAny_pyIter_striter_ascii st h
end
end L2
namespace L2
open PySem PySem.Spec PyProof.Rows
theorem relabel_lookup {env:Env}(y:Str):∀ (names:List (Str×NameKind)),
    (names.map fun(n,k)=>if (k == NameKind.free&&env.scope.kind == .function&&env.kindOf n == some .cell) then(n,NameKind.cell) else(n,k)).lookup y =
      (names.lookup y).map fun k=>if (k == NameKind.free&&env.scope.kind == .function&&env.kindOf y == some .cell) then NameKind.cell else k
  | []=>rfl
  | (n,k)::r=>by
    have ih:=relabel_lookup y r (env:=env)
    rw [List.map_cons]
    by_cases hy:y=n
    · subst hy
      show List.lookup y ((if (k == NameKind.free&&env.scope.kind == .function&&env.kindOf y == some .cell)=true then(y,NameKind.cell) else(y,k))::_)=_
      by_cases hc:(k == NameKind.free&&env.scope.kind == .function&&env.kindOf y == some .cell)=true
      · rw [if_pos hc]
        simp only [List.lookup_cons,beq_self_eq_true,Option.map_some,hc,if_true]
      · rw [if_neg hc]
        simp only [List.lookup_cons,beq_self_eq_true,Option.map_some,hc,if_false]
        rfl
    · have hb:(y == n)=false:=by simpa using hy
      show List.lookup y ((if (k == NameKind.free&&env.scope.kind == .function&&env.kindOf n == some .cell)=true then(n,NameKind.cell) else(n,k))::_)=_
      by_cases hc:(k == NameKind.free&&env.scope.kind == .function&&env.kindOf n == some .cell)=true
      · rw [if_pos hc]
        simp only [List.lookup_cons,hb]
        exact ih
      · rw [if_neg hc]
        simp only [List.lookup_cons,hb]
        exact ih
theorem closure_go {env:Env}:∀ (names:List (Str×NameKind)) (cs:List (Str×Addr)),(∀ y∈names,y.2=.free->∃ c,env.cells.lookup y.1=some c)->(∀ y c,cs.lookup y=some c->env.cells.lookup y=some c) ->
    ∃ cl,(forIn (m:=Sem) names cs fun(x:Str×NameKind) (r:List (Str×Addr))=>(if (x.2 == .free)=true then(do let c ← cellOf env x.1;pure (ForInStep.yield ((x.1,c)::r))) else pure (ForInStep.yield r)))=pure cl /\
      (∀ y c,cl.lookup y=some c->env.cells.lookup y=some c)/\(∀ y∈names,y.2=.free->∃ c,cl.lookup y.1=some c)/\∀ y,(∃ c,cs.lookup y=some c)->∃ c,cl.lookup y=some c
  | [],cs,_,hcs=>⟨cs,rfl,hcs,(fun _ h=>nomatch h),(fun _ h=>h)⟩
  | (n,k)::r,cs,h,hcs=>by
    by_cases hk:k=.free
    · subst hk
      obtain⟨c,hc⟩:=h (n,.free) List.mem_cons_self rfl
      have hc:env.cells.lookup n=some c:=hc
      have hcs':∀ y c',((n,c)::cs).lookup y=some c'->env.cells.lookup y=some c':=fun y c' e=>by
        by_cases hy:y=n
        · subst hy
          simp only [List.lookup_cons,beq_self_eq_true] at e
          cases e
          exact hc
        · have hb:(y == n)=false:=by simpa using hy
          simp only [List.lookup_cons,hb] at e
          exact hcs y c' e
      obtain⟨cl,e1,e2,e3,e4⟩:=closure_go r ((n,c)::cs) (fun y hy=>h y (List.mem_cons_of_mem _ hy)) hcs'
      refine⟨cl,?_,e2,fun y hy hf=>?_,fun y hy=>e4 y ?_⟩
      · rw [List.forIn_cons]
        simp only [beq_self_eq_true,if_true,cellOf,hc]
        exact e1
      · rcases List.mem_cons.mp hy with rfl | hy
        · exact e4 n ⟨c,by simp only [List.lookup_cons,beq_self_eq_true]⟩
        · exact e3 y hy hf
      · obtain⟨c',hc'⟩:=hy
        by_cases hy:y=n
        · subst hy
          exact⟨c,by simp only [List.lookup_cons,beq_self_eq_true]⟩
        · have hb:(y == n)=false:=by simpa using hy
          exact⟨c',by simp only [List.lookup_cons,hb];exact hc'⟩
    · obtain⟨cl,e1,e2,e3,e4⟩:=closure_go r cs (fun y hy=>h y (List.mem_cons_of_mem _ hy)) hcs
      refine⟨cl,?_,e2,fun y hy hf=>?_,e4⟩
      · have hb:(k == NameKind.free)=false:=by simpa using hk
        rw [List.forIn_cons]
        simp only [hb,Bool.false_eq_true,if_false]
        exact e1
      · rcases List.mem_cons.mp hy with rfl | hy
        · exact absurd hf hk
        · exact e3 y hy hf
theorem closure_of {env:Env}{scope:Scope}(h:∀ y∈scope.names,y.2=.free->∃ c,env.cells.lookup y.1=some c) :
    ∃ cl,closureFor scope env=pure cl/\(∀ y c,cl.lookup y=some c->env.cells.lookup y=some c)/\(∀ y∈scope.names,y.2=.free->∃ c,cl.lookup y.1=some c):=by
  obtain⟨cl,e1,e2,e3,_⟩:=closure_go scope.names [] h (fun y c e=>by simp at e)
  refine⟨cl,?_,e2,e3⟩
  have e:closureFor scope env=(forIn (m:=Sem) scope.names [] fun(x:Str×NameKind) (r:List (Str×Addr))=>(if (x.2 == .free)=true then(do let c ← cellOf env x.1;pure (ForInStep.yield ((x.1,c)::r))) else pure (ForInStep.yield r))) >>= fun cs=>pure cs:=rfl
  rw [e,e1]
  rfl
theorem compLoop_go {prog:Program}{w:World}{A:Around}{R:Result->Shared->Prop}{s:Shared}{elt target iter:Expr}{ifs:List Expr}{scope:Scope}{pos:Pos}{it acc:Value}{env:Env}(I:Nat->Shared->Prop)
    (turn:∀ n s,I n s->wpAny (model prog w) A (pyNext it) (fun r s₁=>match r with
      | none=>R (.ok .next) s₁
      | some v=>wpAny (model prog w) A (letOwnedTupleGo target it v) (fun _ s₁=>wpAny (model prog w) A (assign target env v) (fun _ s₂=>
          wpAny (model prog w) A (forIn ifs true fun c r=>if r=true then do let ok ← isTrue c env (eval c env);pure (ForInStep.yield ok) else pure (ForInStep.yield r)) (fun ok s₃=>
            if ok=true then wpAny (model prog w) A (eval elt env) (fun x s₄=>
              wpAny (model prog w) A (call (.builtin "list.append") [acc,x]) (fun _ s₅=>∃ m,m<n/\I m s₅) (fun _ _=>False) s₄) (fun _ _=>False) s₃
            else ∃ m,m<n/\I m s₃) (fun _ _=>False) s₂) (fun _ _=>False) s₁) (fun _ _=>False) s₁) (fun _ _=>False) s)
    (n:Nat) (h:I n s) :
    codeAny (model prog w) A (.compLoop (.ListComp elt [⟨target,iter,ifs,0⟩] scope pos) 0 it acc env) R s:=by
  refine codeAny_loop rfl I (fun n s hI=>?_) n h
  show wpAny _ A ((compTurn (.ListComp elt [⟨target,iter,ifs,0⟩] scope pos) 0 it acc env).onRaise (fun x=>do noteFrame x env;theTreesLotGoes x)) _ _ s
  refine wpAny_noted ?_
  rw [compTurn_list]
  refine wpAny_bind (wpAny_standAt (wpAny_bind (wpAny_mono (turn n s hI) (fun r s₁ h₁=>?_) fun _ _ h'=>h'.elim)))
  cases r with
  | none=>exact wpAny_pure h₁
  | some v=>
    refine wpAny_bind (wpAny_mono h₁ (fun _ s₁ h₁=>?_) fun _ _ h'=>h'.elim)
    refine wpAny_bind (wpAny_mono h₁ (fun _ s₂ h₂=>wpAny_bind (wpAny_mono h₂ (fun ok s₃ h₃=>?_) fun _ _ h'=>h'.elim)) fun _ _ h'=>h'.elim)
    cases ok with
    | false=>exact wpAny_pure ⟨rfl,h₃⟩
    | true=>
      exact wpAny_bind (wpAny_bind (wpAny_mono h₃ (fun x s₄ h₄=>wpAny_bind (wpAny_mono h₄ (fun _ s₅ h₅=>wpAny_pure (wpAny_pure ⟨rfl,h₅⟩)) fun _ _ h'=>h'.elim)) fun _ _ h'=>h'.elim))
noncomputable def blk (X:Cx)(x:Str)(scope:Scope)(cl:List (Str×Addr))(C:Addr)(s3:Shared)(H3:Hp)(fp:List Addr):Cx:=
  { X with N:=x::X.N,s₀:=s3,H₀:=H3,env:=compEnvC scope cl C X.env,outer:=X.stack,ex:=fp,fn:=fun _=>false,pn:=[],xe:=fun _ _=>False }
def PTs (X:Cx)(ifs:List Expr)(t:TT):Prop:=
  ∀ (pins:List (Addr×Obj)) (s:Shared) (σ:St) (H:Hp) (Q:Bool->Hp->Prop),Inv X pins σ H s->t σ H Q ->
    wpAny (model X.prog X.w) X.A (forIn ifs true fun c r=>if r=true then do let ok ← isTrue c X.env (eval c X.env);pure (ForInStep.yield ok) else pure (ForInStep.yield r)) (TP X pins σ Q) X.xe s
noncomputable def tTrue:TT:=fun _ H Q=>Q true H
theorem pts_nil {X:Cx}:PTs X [] tTrue:=fun _ _ _ H _ I h=>wpAny_tests_nil ⟨H,I,h⟩
def lcBody (J:It)(tt:TT)(te:TE)(σ:St)(H1:Hp)(Q:VK):Prop:=∀ D,H1 D=none->∃ W:Nat->Nat->List V->Hp->Prop,(∃ m,W 0 m [] (upd H1 D (.lst [])))/\∀ i m ys H',W i m ys H'->H' D=some (.lst ys) /\
  ((J.stop i H'/\Q (.ref D) H')\/(J.go i H'/\∀ v H2,J.yld i H' v H2->tt (some v::σ) H2 fun b H3=>
    if b=true then te (some v::σ) H3 fun y H4=>H4 D=some (.lst ys)/\ys.length<sizeLine/\∃ m',m' < m/\W (i+1) m' (ys++[y]) (upd H4 D (.lst (ys++[y]))) else ∃ m',m' < m/\W (i+1) m' ys H3))
noncomputable def tLC (wi:TI)(tt:TT)(te:TE):TE:=fun σ H Q=>wi σ H fun J H1=>lcBody J tt te σ H1 Q
structure LcScope (X:Cx)(x:Str)(scope:Scope):Prop where
  xN:x∉X.N
  nd:X.N.Nodup
  kind:scope.kind=.function
  cell:∀ y∈scope.names,y.2≠.cell
  names:∀ y∈scope.names,y.2=.local->scope.names.lookup y.1=some .local
  var:scope.names.lookup x=some .local
  free:∀ y∈scope.names,y.2=.free->X.env.kindOf y.1=some .cell
  out:∀ y∈X.N,scope.names.lookup y≠some .local
  calm:X.calm=true
section
variable {X:Cx} {elt iter:Expr} {x:Str} {px pos:Pos} {ifs:List Expr} {scope:Scope} {wi:TI} {tt:TT} {te:TE}
theorem lc_core {pins:List (Addr×Obj)}{σ:St}{H:Hp}{s:Shared}{E:Value->Shared->Prop}{Q:Value->Shared->Prop}{use:Option (Value->Sem Unit)}{QV:VK}(L:LcScope X x scope)(I:Inv X pins σ H s)
    (hi:wpAny (model X.prog X.w) X.A (eval iter X.env) (fun v s1=>wpAny (model X.prog X.w) X.A (pyIter v) (PIE X pins σ (.Name x px) (fun J H1=>∀ D,H1 D=none->∃ W:Nat->Nat->List V->Hp->Prop,(∃ m,W 0 m [] (upd H1 D (.lst [])))/\∀ i m ys H',W i m ys H'->H' D=some (.lst ys) /\
  ((J.stop i H'/\QV (.ref D) H')\/(J.go i H'/\∀ v H2,J.yld i H' v H2->tt (some v::σ) H2 fun b H3=>
    if b=true then te (some v::σ) H3 fun y H4=>H4 D=some (.lst ys)/\ys.length<sizeLine/\∃ m',m' < m/\W (i+1) m' (ys++[y]) (upd H4 D (.lst (ys++[y]))) else ∃ m',m' < m/\W (i+1) m' ys H3)))) E s1) E s)
    (ht:∀ cl C s3 H3 fp,PTs (blk X x scope cl C s3 H3 fp) ifs tt) (he:∀ cl C s3 H3 fp,PE (blk X x scope cl C s3 H3 fp) elt te)
    (hs:∀ x,foldedSetIterable iter X.env x=pure x)
    (fin:∀ (D C:Addr) (H':Hp) (s':Shared) (m:Str->Option Value),Inv X pins σ H' s'->FpOk X pins H' C->s'.heap.Ns C m->QV (.ref D) H'->compPost (model X.prog X.w) X.A E use Q (.ref D) C (.ok .next) s') :
    wpAny (model X.prog X.w) X.A (comprehension (.ListComp elt [⟨.Name x px,iter,ifs,0⟩] scope pos) scope X.env (firstIterPos [⟨.Name x px,iter,ifs,0⟩] pos) (newList []) false (eval iter X.env) use) Q E s:=by
  obtain⟨cl,hcl,cl1,cl2⟩:=closure_of (env:=X.env) (scope:=scope) (fun y hy hf=>I.ok.has y.1 (.inl (L.free y hy hf)))
  refine wpAny_comprehension_free (use:=use) rfl hs hcl L.kind L.names (wpAny_mono hi (fun xv s₁ h₁=>wpAny_mono h₁ (fun it s2 h₂=>?_) fun _ _ e=>e) fun _ _ e=>e)
  obtain⟨it,fp,tn,J,H2,rfl,I2,T,st2,f2,hW⟩:=h₂
  have fr2:H2 s2.heap.objs.size=none:=I2.hok.fresh (Nat.le_refl _)
  obtain⟨W,⟨m0,w0⟩,turn⟩:=hW _ fr2
  refine wpAny_newObj_type ?_
  have I3:Inv X pins σ (upd H2 s2.heap.objs.size (.lst [])) { s2 with heap:=s2.heap.push { cls:=.type "list",dict:=none,data:=.seq ([]:List Value).toArray } }:=
    I2.laid (t':=s2.toks) (o:=.lst []) (fun b ob q=>Heap.get?_push_of_some _ q) (Nat.le_refl _) ⟨Nat.zero_le _,[],0,.nil,Heap.get?_push_size _ rfl⟩
  generalize hD:s2.heap.objs.size=D at I3 turn w0 fr2 ⊢
  generalize hH3:upd H2 D (.lst [])=H3 at I3 w0
  generalize hs3:({ s2 with heap:=s2.heap.push { cls:=.type "list",dict:=none,data:=.seq ([]:List Value).toArray } }:Shared)=s3 at I3 ⊢
  have k23:∀ b o,s2.heap.get? b=some o->s3.heap.get? b=some o:=fun b o e=>by rw [← hs3];exact Heap.get?_push_of_some _ e
  have os3:s3.os=s2.os:=by rw [← hs3]
  have fpD:∀ b∈fp,b≠D:=fun b hb z=>by
    obtain⟨o,e,_⟩:=T.obj _ _ st2 b hb
    exact absurd (Heap.lt_size e) (by rw [z,← hD];exact Nat.lt_irrefl _)
  have f3:∀ b∈fp,FpOk X pins H3 b:=fun b hb=>⟨by rw [← hH3,upd_ne (fpD b hb)];exact(f2 b hb).1,(f2 b hb).2⟩
  have st3:tn 0 s3.heap:=T.keep _ _ _ st2 fun b hb o e=>k23 b o e
  refine wpAny_newFunctionEnv L.cell (fun y hy=>by simp at hy) (fun h₁ hns₁ hsb₁=>?_) L.kind
  generalize hC:s3.heap.objs.size=C at hns₁ hsb₁ ⊢
  have k34:∀ b o,s3.heap.get? b=some o->h₁.get? b=some o:=fun b o e=>hsb₁.extBut b o (by rintro rfl;exact absurd (Heap.lt_size e) (by rw [hC];exact Nat.lt_irrefl _)) (Heap.get?_push_of_some _ e)
  let X':Cx:=blk X x scope cl C s3 H3 fp
  have relab:∀ y,X'.env.scope.names.lookup y=(scope.names.lookup y).map fun k=>if (k == NameKind.free&&X.env.scope.kind == .function&&X.env.kindOf y == some .cell) then NameKind.cell else k:=fun y=>relabel_lookup y scope.names
  have visC:∀ y,(X'.env.kindOf y=some .cell\/X'.env.kindOf y=some .free)->scope.names.lookup y=some .free:=fun y hy=>by
    have e:=relab y
    have hy:X'.env.scope.names.lookup y=some .cell\/X'.env.scope.names.lookup y=some .free:=hy
    rw [e] at hy
    cases q:scope.names.lookup y with
    | none=>rw [q] at hy;simp at hy
    | some k=>
      rw [q] at hy
      simp only [Option.map_some,Option.some.injEq] at hy
      by_cases hf:k=.free
      · rw [hf]
      · have hb:(k == NameKind.free)=false:=by simpa using hf
        simp only [hb,Bool.false_and,Bool.false_eq_true,if_false] at hy
        rcases hy with rfl | rfl
        · exact absurd rfl (L.cell _ (PySem.mem_of_lookup q))
        · exact absurd rfl hf
  have okX':X'.Ok:=by
    refine⟨I3.ok.mod,?_,I3.ok.glob,I3.ok.blt,?_,?_,?_,?_,I3.ok.hd,I3.ok.frames,.inl rfl,?_,?_,?_,?_,?_,?_,?_⟩
    · show(relabel scope X.env).kind=.function
      exact L.kind
    · show s3.heap.objs.size<=C
      exact Nat.le_of_eq hC
    · exact fun a b c h1 h2=>I3.ok.inj a b c (cl1 a c h1) (cl1 b c h2)
    · exact fun y hy=>cl2 (y,.free) (PySem.mem_of_lookup (visC y hy)) rfl
    · exact fun y c hf=>by cases hf
    · refine fun b hb=>⟨?_,fun y c e z=>(f3 b hb).2.2.2.2.1 y c (cl1 y c e) z⟩
      show b≠C
      intro z
      obtain⟨o,e,_⟩:=T.obj _ _ st3 b hb
      exact absurd (Heap.lt_size e) (by rw [z,← hC];exact Nat.lt_irrefl _)
    · exact fun b o e=>I3.bs b o e
    · exact Nat.le_trans I3.ok.bsz I3.sz
    · intro b o e hb
      rcases(f3 b hb).2.2.2.1 with z | z
      · exact I3.ok.noex b o e z
      · exact absurd (Nat.lt_of_lt_of_le (Heap.lt_size e) (Nat.le_trans I3.ok.bsz z)) (Nat.lt_irrefl _)
    · intro b hb z
      rcases List.mem_cons.mp (I3.stkSub b z) with e | e
      · exact(f3 b hb).2.1 e
      · exact(f3 b hb).2.2.1 e
    · exact I3.stack
    · exact I3.stkFree
  have hfreeC:H3 C=none:=I3.hok.fresh (Nat.le_of_eq hC)
  have I4:Inv X' [] (none::σ) H3 { s3 with heap:=h₁,toks:=s3.toks+([]:List (Str×Value)).length }:=by
    refine⟨okX',rfl,I3.bare,Un.kept k34,⟨_,hns₁,?_⟩,?_,hfreeC,?_,fun p hp=>absurd (show p∈([]:List (Addr×Obj)) from hp) (by simp),I3.hok.kept k34,?_⟩
    · intro i y v e1 e2 e3
      cases i with
      | zero=>simp at e2
      | succ j=>
        have e1:X.N[j]? = some y:=by simpa using (show(x::X.N)[j+1]? = some y from e1)
        have e2:σ[j]? = some (some v):=by simpa using e2
        have hyN:y∈X.N:=List.mem_of_getElem? e1
        have hfr:scope.names.lookup y=some .free:=by
          rcases e3 with e3 | e3 | e3
          · rw [relab y] at e3
            cases q:scope.names.lookup y with
            | none=>rw [q] at e3;simp at e3
            | some k=>
              rw [q] at e3
              simp only [Option.map_some,Option.some.injEq] at e3
              by_cases hf:k=.free
              · rw [hf]
              · have hb:(k == NameKind.free)=false:=by simpa using hf
                simp only [hb,Bool.false_and,Bool.false_eq_true,if_false] at e3
                exact absurd (by rw [q,e3]) (L.out y hyN)
          · exact visC y (.inl e3)
          · exact visC y (.inr e3)
        have hkc:=L.free (y,.free) (PySem.mem_of_lookup hfr) rfl
        have hkc:X.env.kindOf y=some .cell:=hkc
        obtain⟨mX,_,hlX⟩:=I3.loc
        obtain⟨u,r,l⟩:=hlX j y v e1 e2 (.inr (.inl hkc))
        refine⟨u,r,?_⟩
        rcases l with⟨l,_⟩ | ⟨_,c,hc,hcell⟩
        · rw [hkc] at l;cases l
        · obtain⟨c',hc'⟩:=cl2 (y,.free) (PySem.mem_of_lookup hfr) rfl
          have hc':cl.lookup y=some c':=hc'
          have:=cl1 y c' hc'
          rw [hc] at this
          cases this
          refine .inr ⟨?_,c,hc',?_⟩
          · rcases e3 with e3 | e3 | e3
            · rw [relab y,hfr] at e3
              simp only [Option.map_some,Option.some.injEq] at e3
              split at e3<;>cases e3
            · exact .inl e3
            · exact .inr e3
          · obtain⟨o,ho,hd⟩:=hcell
            exact⟨o,k34 _ _ ho,hd⟩
    · intro y c e
      obtain⟨v,o,ho,hd⟩:=I3.cell y c (cl1 y c e)
      exact⟨v,o,k34 _ _ ho,hd⟩
    · exact fun y c e=>I3.freeC y c (cl1 y c e)
    · show(none::σ).length=(x::X.N).length
      rw [List.length_cons,List.length_cons,I3.len]
  have st4:tn 0 h₁:=T.keep _ _ _ st3 fun b hb o e=>k34 b o e
  have stat:∀ {H':Hp},(∀ b∈fp,H' b=none)->∀ b∈fp,FpOk X' [] H' b:=fun hn b hb=>by
    refine⟨hn b hb,(okX'.exf b hb).1,okX'.exfs b hb,.inl hb,(okX'.exf b hb).2,fun p hp=>absurd (show p∈([]:List (Addr×Obj)) from hp) (by simp)⟩
  have hNd:X'.N.Nodup:=List.nodup_cons.mpr ⟨L.xN,L.nd⟩
  have hvar:X'.env.scope.names.lookup x=some .local:=by
    rw [relab x,L.var]
    rfl
  have loop:∀ s4:Shared,s4={ s3 with heap:=h₁,toks:=s3.toks+([]:List (Str×Value)).length } ->
      codeAny (model X.prog X.w) X.A (.compLoop (.ListComp elt [⟨.Name x px,iter,ifs,0⟩] scope pos) 0 (.ref it) (.ref D) X'.env) (compPost (model X.prog X.w) X.A E use Q (.ref D) C) s4:=by
    rintro s4 rfl
    refine compLoop_go (fun n s'=>∃ i ys o H',Inv X' [] (o::σ) H' s'/\tn i s'.heap/\(∀ b∈fp,H' b=none)/\W i n ys H') ?_ m0 ⟨0,[],none,H3,I4,st4,fun b hb=>(f3 b hb).1,w0⟩
    rintro n s5 ⟨i,ys,o,H5,I5,st5,fr5,w5⟩
    obtain⟨hD5,turn5⟩:=turn i n ys H5 w5
    rcases turn5 with⟨stop,qn⟩ | ⟨go,step⟩
    · refine wpAny_mono (T.done X' rfl rfl rfl L.calm i [] s5 (o::σ) H5 (fun _ _=>False) I5 (stat fr5) st5 stop) (fun r s6 h6=>?_) fun _ _ z=>z
      obtain⟨rfl,I6⟩:=h6
      have un6:Un (frs X.stack) fp H3 H5 s3.heap s6.heap:=I6.base
      have IX:Inv X pins σ H5 s6:=I3.call' I6.os un6 I6.hok I6.bare fun b hb=>⟨(f3 b hb).2.2.2.1,(f3 b hb).2.1,(f3 b hb).2.2.2.2.1,(f3 b hb).2.2.2.2.2⟩
      obtain⟨mC,hnC,_⟩:=I6.loc
      exact fin D C H5 s6 mC IX (I3.fpOk (H':=H5) (Nat.le_of_eq hC) I6.free) hnC qn
    · refine wpAny_mono (T.item X' rfl rfl rfl L.calm i [] s5 (o::σ) H5 (fun _ _=>False) I5 (stat fr5) st5 go) (fun r s6 h6=>?_) fun _ _ z=>z.elim
      obtain⟨u,rfl,h6⟩:=h6
      refine wpAny_mono h6 (fun _ s6 h6=>?_) fun _ _ z=>z
      obtain⟨v,H6,I6,r6,y6,st6,fr6⟩:=h6
      have I6':=I6.pinned (stat fr6) (T.obj _ _ st6)
      have hv6:=step v H6 y6
      show wpAny (model X'.prog X'.w) X'.A (assign (.Name x px) X'.env u) _ _ s6
      refine wpAny_mono (Q:=fun _ s7=>Inv X' ([]++pinsAt fp s6.heap) (some v::σ) H6 s7) (E:=fun _ _=>False) (wpAny_assign_Name (store_ok I6' hNd (i:=0) rfl (.inl hvar) r6 (fun s7 I7=>(show Inv X' ([]++pinsAt fp s6.heap) (some v::σ) H6 s7 from I7)) (.inr hvar))) (fun _ s7 I7=>?_) fun _ _ z=>z.elim
      refine wpAny_mono ((ht cl C s3 H3 fp) _ s7 _ H6 _ I7 hv6) (fun b s8 h8=>?_) fun _ _ z=>z.elim
      obtain⟨H8,I8,q8⟩:=h8
      have done:∀ {ys':List V} {H9:Hp} {s9:Shared} {n':Nat},Inv X' ([]++pinsAt fp s6.heap) (some v::σ) H9 s9->W (i+1) n' ys' H9->∃ i ys o H',Inv X' [] (o::σ) H' s9/\tn i s9.heap/\(∀ b∈fp,H' b=none)/\W i n' ys H':=fun {ys' H9 s9 n'} I9 w9=>by
        refine⟨i+1,ys',some v,H9,I9.unpinned,T.keep _ _ _ st6 fun b hb o e=>(I9.pin (b,o) (List.mem_append_right _ (List.mem_append_right _ (mem_pinsAt hb e)))).1,fun b hb=>?_,w9⟩
        obtain⟨o,e,d⟩:=T.obj _ _ st6 b hb
        exact(I9.pin (b,o) (List.mem_append_right _ (List.mem_append_right _ (mem_pinsAt hb e)))).2.1
      cases b with
      | false=>
        have q8:∃ m',m' < n/\W (i+1) m' ys H8:=q8
        obtain⟨m',hm,w8⟩:=q8
        exact⟨m',hm,done I8 w8⟩
      | true=>
        have q8:te (some v::σ) H8 _:=q8
        refine wpAny_mono ((he cl C s3 H3 fp) _ s8 _ H8 _ I8 q8) (fun yv s9 h9=>?_) fun _ _ z=>z.elim
        obtain⟨y,H9,I9,r9,hD9,hz9,m',hm,w9⟩:=h9
        refine wpAny_mono (mt_append (X:=X') _ s9 _ H9 (.ref D) [y] (.ref D) [yv] (fun v' H'=>v' = .non/\H' = upd H9 D (.lst (ys++[y]))) I9 rfl (.cons r9 .nil) ⟨D,ys,y,rfl,rfl,hD9,hz9,rfl,rfl⟩) (fun _ s10 h10=>?_) fun _ _ z=>z.elim
        obtain⟨_,H10,I10,_,_,rfl⟩:=h10
        exact⟨m',hm,done I10 w9⟩
  exact codeAny_compStart_list (loop _ rfl) (T.self _ 0 _ _ _ st4 (loop _ rfl))
theorem ps_setLC {i:Nat}{z:Str}{pz spos:Pos}(hN:X.N.Nodup)(hi':X.N[i]? = some z)(hz:Loc X.env.scope z)(L:LcScope X x scope)(hi:PI X (.Name x px) iter wi)(ht:∀ cl C s3 H3 fp,PTs (blk X x scope cl C s3 H3 fp) ifs tt)(he:∀ cl C s3 H3 fp,PE (blk X x scope cl C s3 H3 fp) elt te)
    (hs:∀ x,foldedSetIterable iter X.env x=pure x:=by intro _;rfl) (hsw:swapsWith (.ListComp elt [⟨.Name x px,iter,ifs,0⟩] scope pos) (some (.Name z pz)) spos.line X.env=pure true:=by rfl)
    (hf:X.fn z=true\/X.env.scope.names.lookup z=some .local:=by first | exact .inl rfl | exact .inr rfl | assumption):PS X (.Assign [.Name z pz] (.ListComp elt [⟨.Name x px,iter,ifs,0⟩] scope pos) spos) (tAsg (tLC wi tt te) (gName i)):=by
  intro pins s σ H D I h
  rw [exec_Assign_Name_used _ _ _ _ hsw]
  refine wpAny_bind (wpAny_standAt (wpAny_bind ?_))
  show wpAny _ X.A (do let _ ← comprehension (.ListComp elt [⟨.Name x px,iter,ifs,0⟩] scope pos) scope X.env _ (newList []) false (eval iter X.env) (some (assign (.Name z pz) X.env))) _ _ s
  refine wpAny_bind (wpAny_mono (lc_core (use:=some (assign (.Name z pz) X.env)) (Q:=fun _ s'=>SP X pins D .next s') (QV:=fun v H'=>D.nx (σ.set i (some v)) H') L I (hi pins s σ H _ I h) ht he hs fun D' C H' s' m IX fC hn q=>?_) (fun _ s' hq=>wpAny_pure (wpAny_pure hq)) fun _ _ e=>e)
  show wpAny _ X.A (assign (.Name z pz) X.env (.ref D')) _ _ s'
  refine wpAny_assign_Name (store_ok2 IX hN hi' hz (show RelV (.ref D') (.ref D') from rfl) (fun s2 I2 hch=>?_) hf)
  obtain⟨a,sb,ha⟩:=hch
  have hCa:C≠a:=by
    rcases ha with e | e
    · rw [e];exact fC.2.1
    · intro z';exact fC.2.2.2.2.1 _ _ e z'.symm
  refine⟨m,hn.sameBut sb hCa,fun h' hs'=>?_⟩
  exact⟨_,H',I2.turned (t':=s2.toks) (fun b o hb e=>hs'.extBut b o hb e) fC.1 fC.2.1 fC.2.2.2.1 fC.2.2.2.2.1 fC.2.2.2.2.2,q⟩
end
end L2
namespace L2
open PySem PySem.Spec PyProof.Rows
noncomputable def S (l:List Nat):Str:=⟨l.toArray⟩
theorem S_list (l:List Nat):(S l).cps.toList=l:=rfl
theorem S_len (l:List Nat):(S l).length=l.length:=by simp [S,Str.length]
theorem S_size (l:List Nat):(S l).cps.size=l.length:=by simp [S]
theorem S_get (l:List Nat)(i:Nat):(S l).cps[i]? = l[i]?:=by simp [S]
theorem S_inj {a b:List Nat}:S a=S b↔a=b:=⟨fun h=>by have:=congrArg (fun x=>x.cps.toList) h;simpa [S] using this,fun h=>by rw [h]⟩
theorem S_app (a b:List Nat):S a++S b=S (a++b):=by
  show Str.append (S a) (S b)=_
  simp [S,Str.append]
theorem V_inj {a b:List Nat}:(V.str (S a)=V.str (S b))=(a=b):=by
  rw [V.str.injEq,S_inj]
section
variable {X:Cx} {a b e:Expr} {ta tb te:TE} {pos:Pos}
theorem pe_S {x:Str}{l:List Nat}{j pos}(h:x=S l):PE X (.Constant (.str x) j pos) (tC (.str (S l))):=by
  subst h;exact pe_str
theorem op_addS:OpR X (binaryOp .Add) (fun x y H Q=>∃ i j,x=.str (S i)/\y=.str (S j)/\i.length+j.length<=sizeLine/\Q (.str (S (i++j))) H):=by
  intro pins s σ H x y v u Q I rx ry h
  obtain⟨i,j,rfl,rfl,hz,q⟩:=h
  exact op_add_str pins s σ H _ _ v u Q I rx ry ⟨S i,S j,rfl,rfl,by rw [S_len,S_len];exact hz,by rw [S_app];exact q⟩
theorem op_mulI:OpR X (binaryOp .Mult) (rI IntMulOk fun i j=>.int (i * j)):=opI fun _ _ _ _ _ _ _ hc q=>mul_int q hc
theorem op_inS:OpR X (compareOp .In) (fun x y H Q=>∃ c l,x=.str (S [c])/\y=.str (S l)/\Q (.bl (decide (c∈l))) H):=by
  intro pins s σ H x y v u Q I rx ry h
  obtain⟨c,l,rfl,rfl,q⟩:=h
  refine op_in_str pins s σ H _ _ v u Q I rx ry ⟨S [c],S l,rfl,rfl,?_⟩
  rw [show S [c]=⟨#[c]⟩ from rfl,StrLaws.found_one]
  exact q
theorem op_notinS:OpR X (compareOp .NotIn) (fun x y H Q=>∃ c l,x=.str (S [c])/\y=.str (S l)/\Q (.bl (!decide (c∈l))) H):=by
  intro pins s σ H x y v u Q I rx ry h
  obtain⟨c,l,rfl,rfl,q⟩:=h
  refine op_notin_str pins s σ H _ _ v u Q I rx ry ⟨S [c],S l,rfl,rfl,?_⟩
  rw [show S [c]=⟨#[c]⟩ from rfl,StrLaws.found_one]
  exact q
noncomputable def rIxSS:R2:=fun x y H Q=>∃ l i c,x=.str (S l)/\y=.int i/\l.length<=sizeLine/\atI l i=some c/\Q (.str (S [c])) H
theorem ix_S:IxR X rIxSS:=by
  intro value slice pins s σ H x y v u Q I rx ry h hs
  obtain⟨l,i,c,rfl,rfl,hz,he,q⟩:=h
  exact ix_str value slice pins s σ H _ _ v u Q I rx ry ⟨S l,i,c,rfl,rfl,by rw [S_len];exact hz,he,q⟩ hs
theorem call_lenS:CallR X (.builtin "len") (fun xs H Q=>∃ l,xs=[.str (S l)]/\l.length<=sizeLine/\Q (.int l.length) H):=by
  intro pins s σ H xs us Q I r h
  obtain⟨l,rfl,hz,q⟩:=h
  exact call_len_str pins s σ H _ us Q I r ⟨S l,rfl,by rw [S_len];exact hz,by rw [S_len];exact q⟩
end
end L2
namespace L2
open PySem PySem.Spec PyProof.Rows
section
variable {X:Cx} {a b e:Expr} {ta tb te:TE} {pos:Pos}
noncomputable def rJoin (K:PySem.W.Frag):V->List V->Hp->VK->Prop:=fun x vs H Q=>∃ (D:Addr) (ls:List (List Nat)),x=.str (S [])/\vs=[.ref D]/\SqL K H D (ls.map fun l=>V.str (S l))/\ls.flatten.length<=16777216/\Q (.str (S ls.flatten)) H
noncomputable def rIndex:V->List V->Hp->VK->Prop:=fun x vs H Q=>∃ l c,x=.str (S l)/\vs=[.str (S [c])]/\c∈l/\∀ i:Nat,l[i]? = some c->Q (.int (i:Int)) H
noncomputable def dg (n:Nat):List Nat:=if n<10 then [48+n] else [48+n / 10,48+n % 10]
theorem log_small {i:Int}(h0:0<=i)(h1:i<1000000):i.natAbs.log2<1920:=by
  have:i.natAbs<2 ^ 20:=by lia
  by_cases hz:i.natAbs=0
  · rw [hz];decide
  · have:=(Nat.log2_lt hz).mpr this
    lia
noncomputable def dg2 (n:Nat):List Nat:=[48+n / 10,48+n % 10]
noncomputable def rZfill:V->List V->Hp->VK->Prop:=fun x vs H Q=>∃ n:Nat,x=.str (S (dg n))/\vs=[.int 2]/\n<100/\Q (.str (S (dg2 n))) H
noncomputable def isFig (c:Nat):Bool:=48<=c&&c<=57
theorem call_intS:CallR X (.type "int") (fun xs H Q=>∃ c d:Nat,xs=[.str (S [c,d])]/\isFig c=true/\isFig d=true/\Q (.int (((c - 48) * 10+(d - 48):Nat):Int)) H):=by
  intro pins s σ H xs us Q I r h
  obtain⟨c,d,rfl,hc,hd,q⟩:=h
  obtain⟨u,rfl,t,rfl⟩:=vals1 r
  unfold isFig at hc hd
  simp only [Bool.and_eq_true,decide_eq_true_eq] at hc hd
  have hn:PySem.intText? (S [c,d])=some (((c - 48) * 10+(d - 48):Nat):Int):=by
    rw [intText_digits (x:=S [c,d]) (fun z hz=>?_) (by simp [S]) (by rw [S_len];show 2<=4300;decide)]
    · rw [S_list]
      simp [NumText.digitsVal]
    · rw [S_list] at hz
      simp at hz
      rcases hz with rfl | rfl
      · exact hc
      · exact hd
  exact PySem.W.KIN.call_text hn (by rw [S_len];show 2<=640;decide) ⟨.int _,H,I.tok _,⟨_,rfl⟩,q⟩
end
end L2
namespace L2
open PySem PySem.Spec PyProof.Rows
structure OkF (P:Program)(w:World)(K:PySem.W.Frag)(mg:Str->Option Value)(base:Heap)(k:Nat)(x:Str)(ps:List Str)(sp:Sp):Prop where
  ex:∃ (f:Addr) (fd:FuncData),PySem.W.keepIn K (.ref f)=true/\Binds K fd ps []/\(mg x=some (.ref f)/\∃ oc od osl,K.lookup f=some ⟨oc,od,.func fd,osl⟩)/\FnOk P w K mg base CX0 k f fd ps sp
structure Df (K:PySem.W.Frag)(mg:Str->Option Value)(x:Str)(st:Stmt)(ps:List Str):Prop where
  ex:∃ (f:Addr) (fd:FuncData),Fun K x x st f fd/\Binds K fd ps []/\mg x=some (.ref f)
section
variable {P:Program} {w:World} {K:PySem.W.Frag} {mg:Str->Option Value} {base:Heap}
theorem Df.ok {x:Str}{st:Stmt}{ps N:List Str}{k:Nat}{sp:Sp}(D:Df K mg x st ps)(Sc:FnScope N ps (defScope st))(len:∀ vs H Q E,sp vs H Q E->vs.length=ps.length)
    (hbody:∀ (f:Addr) (cdv:Value) (A:Around) (outer:List Env) (s:Shared) (H:Hp) (vs:List V) (Q:VK) (E:XK),Room k (A.deeper (envOfC x (defScope st) s.heap.objs.size f cdv))->sp vs H Q E ->
      ∃ t,PSs (cxOf CX0 P w K mg base N x (defScope st) f cdv A outer s H E).nox (defBody st) t/\t { nx:=fun _ H'=>Q .non H',rt:=Q } (start N vs) H):OkF P w K mg base (k+1) x ps sp:=by
  obtain⟨f,fd,F,b,m⟩:=D.ex
  refine⟨f,fd,F.kp,b,⟨m,?_⟩,F.ok Sc len (fun cdv A outer s H vs Q E hr h=>hbody f cdv A outer s H vs Q E hr h)⟩
  obtain⟨oc,od,kV,doc,pm,an,cdv,ct,osl,rfl,lk,hcd⟩:=F.ex
  exact⟨oc,od,osl,lk⟩
theorem OkF.mono {j k:Nat}{x:Str}{ps:List Str}{sp:Sp}(F:OkF P w K mg base j x ps sp)(h:j<=k):OkF P w K mg base k x ps sp:=by
  obtain⟨f,fd,kp,b,m,G⟩:=F.ex
  exact⟨f,fd,kp,b,m,G.mono h⟩
theorem OkF.imp {k:Nat}{x:Str}{ps:List Str}{sp sp':Sp}(F:OkF P w K mg base k x ps sp)(h:∀ vs H Q E,sp' vs H Q E->sp vs H Q E):OkF P w K mg base k x ps sp':=by
  obtain⟨f,fd,kp,b,m,G⟩:=F.ex
  exact⟨f,fd,kp,b,m,G.imp h⟩
end
section
variable {P:Program} {w:World} {K:PySem.W.Frag} {mg:Str->Option Value} {base:Heap}
theorem df_mk {h:Heap}{x:Str}{st:Stmt}{ps:List Str}{f:Addr}{oc:Value}{od an:Option Addr}{osl:Array (Option Value)}{kV doc pm cdv ct:Value}(X:K.In h)(G:h.Ns mainGlobals mg)
    (b:∀ (kV doc pm:Value) (an:Option Addr) (cdv ct:Value) (us:List Value),us.length=ps.length->bindArgs (PySem.W.fnOf x x (defArgs st) (defBody st) (defScope st) .none kV doc pm an cdv ct) ⟨us,[]⟩=pure (ps.zip us))
    (a:PySem.W.nsIn K mainGlobals x=some (some (.ref f))) (l:K.lookup f=some ⟨oc,od,.func (PySem.W.fnOf x x (defArgs st) (defBody st) (defScope st) .none kV doc pm an cdv ct),osl⟩)
    (c:PySem.W.codeIn K cdv x=true) (k:PySem.W.keepIn K (.ref f)=true):Df K mg x st ps:=
  ⟨f,_,fun_mk l c k,(fun_mk l c k).binds b,PySem.W.mg_of X G a⟩
theorem law_of {st:Stmt}{x:Str}{k:Nat}{fa:Addr}{sp:Sp}(D:Df K mg "law" st [x])(hfa:mg "law" = some (.ref fa))
    (hb:∀ (kV doc pm:Value) (an:Option Addr) (cdv ct:Value) (s:Shared) (u:Value),BindsTo s (PySem.W.fnOf "law" "law" (defArgs st) (defBody st) (defScope st) .none kV doc pm an cdv ct) ⟨[u],[]⟩ [(x,u)])
    (F:∀ base:Heap,OkF P w K mg base k "law" [x] sp) :
    ∃ fd:FuncData,(∀ (s:Shared) (v:Value),BindsTo s fd ⟨[v],[]⟩ [(x,v)])/\∀ base:Heap,K.In base->base.Ns mainGlobals mg->FnOk P w K mg base CX0 k fa fd [x] sp:=by
  obtain⟨f,fd,G,b,m⟩:=D.ex
  have e:f=fa:=by rw [hfa] at m;cases m;rfl
  subst e
  obtain⟨oc,od,kV,doc,pm,an,cdv,ct,osl,rfl,lk,hcd⟩:=G.ex
  refine⟨_,fun s v=>hb kV doc pm an cdv ct s v,fun base _ _=>?_⟩
  obtain⟨f',fd',_,_,⟨m',oc',od',osl',lk'⟩,ok⟩:=(F base).ex
  have e:f' = f:=by rw [hfa] at m';cases m';rfl
  subst e
  rw [lk] at lk'
  cases lk'
  exact ok
end
section
variable {X:Cx} {k j:Nat} {x:Str} {ps:List Str} {sp:Sp} {p pos:Pos} {e:Expr} {es:List Expr} {t:TA}
theorem pe_callF (F:OkF X.prog X.w X.K X.mg X.base k x ps sp)(hr:Room j X.A)(hk:k<=j)(ha:PA X (e::es) t)(hg:Gl X x:=by rfl) (hdb:(x == ("__debug__":Str))=false:=by decide)
    (he:starEach (e::es) X.env=(false,eval e X.env)::starEach es X.env:=by rfl) (hpl:(backTo pos (starEach es X.env)).any (·.1)=false:=by rfl):PE X (.Call (.Name x p) (e::es) [] pos) (tCall sp [] E0 t):=by
  obtain⟨f,fd,kp,b,m,G⟩:=F.ex
  exact pe_call G (hr.mono hk) hg m.1 kp b .nil pass0 ha hdb he hpl
theorem pe_callF0 (F:OkF X.prog X.w X.K X.mg X.base k x ps sp)(hr:Room j X.A)(hk:k<=j)(hg:Gl X x:=by rfl) (hdb:(x == ("__debug__":Str))=false:=by decide):PE X (.Call (.Name x p) [] [] pos) (tCall sp [] E0 tNil):=by
  obtain⟨f,fd,kp,b,m,G⟩:=F.ex
  exact pe_call0 G (hr.mono hk) hg m.1 kp b .nil pass0 hdb
theorem pe_gl {v:V}{pos:Pos}(h:∃ u,X.mg x=some u/\RelV v u)(hg:Gl X x:=by rfl) (hd:(x == ("__debug__":Str))=false:=by decide):PE X (.Name x pos) (tC v):=by
  obtain⟨u,m,r⟩:=h
  exact pe_glob hg m r hd
theorem pe_blt {v:V}{u:Value}{pos:Pos}(hm:X.mg x=none)(hv:bootBuiltins x=some u)(r:RelV v u)(hg:Gl X x:=by rfl) (hn:x≠"__name__":=by decide) (hd:(x == ("__debug__":Str))=false:=by decide):PE X (.Name x pos) (tC v):=
  pe_bltn hg hm hv r hn hd
theorem lcs {N:List Str}{sc scope:Scope}(e1:X.N=N)(e2:X.env.scope=sc)(c:X.calm=true)
    (h:x∉N/\N.Nodup/\scope.kind=.function/\(∀ y∈scope.names,y.2≠.cell)/\(∀ y∈scope.names,y.2=.local->scope.names.lookup y.1=some .local)/\scope.names.lookup x=some .local /\
      (∀ y∈scope.names,y.2=.free->sc.names.lookup y.1=some .cell)/\(∀ y∈N,scope.names.lookup y≠some .local)):LcScope X x scope:=by
  subst e1 e2
  obtain⟨h1,h2,h3,h4,h5,h6,h7,h8⟩:=h
  exact⟨h1,h2,h3,h4,h5,h6,h7,h8,c⟩
theorem op_addA:OpR X (binaryOp .Add) (fun x y H Q=>(∃ i j,x=.int i/\y=.int j/\Q (.int (i+j)) H)\/∃ i j,x=.str (S i)/\y=.str (S j)/\i.length+j.length<=sizeLine/\Q (.str (S (i++j))) H):=op_add.or op_addS
theorem call_isinst:CallR X (.builtin "isinstance") (fun xs H Q=>∃ x n t b,xs=[x,.ty n]/\TyOf X.K H x t/\PySem.W.kitOne X.K t (.type n)=some b/\Q (.bl b) H):=by
  intro pins s σ H xs us Q I r h
  obtain⟨x,n,t,b,rfl,ty,e,q⟩:=h
  obtain⟨u,w',rfl,rx,ry⟩:=vals2 r
  cases ry
  exact isinst_ok I rx ty e fun tk=>⟨.bl b,H,I.tok _,rfl,q⟩
section
variable {K:PySem.W.Frag} {o:Expr} {to:TE} {name:Str} {apos cpos:Pos} {T id:String} {r:V->List V->Hp->VK->Prop}
theorem pe_bmK (hK:X.K=K)(pa:PlainAttrs T)(slot:Slot T name id)(hty:typeOf (.builtin id)=pure (.type "method_descriptor"))(hm:MtR X id r)(ho:PE X o to)(ha:PA X (e::es) t)
    (hbase:attributeBase o name X.env (eval o X.env)=eval o X.env:=by rfl)
    (hfew:((backTo cpos (starEach (e::es) X.env)).all (fun x=>!x.1)&&(backToKw cpos (keywordEach [] X.env)).all (fun x=>x.1.isSome)
      && decide ((e::es).length+([]:List Keyword).length+(if ([]:List Keyword).isEmpty then 0 else 1)<30))=true:=by rfl)
    (hline:(apos.endLine == cpos.line)=true:=by rfl) (hs:starEach (e::es) X.env=(false,eval e X.env)::starEach es X.env:=by rfl) (hplain:(backTo cpos (starEach es X.env)).any (·.1)=false:=by rfl) :
    PE X (.Call (.Attribute o name apos) (e::es) [] cpos) (tBM K T r to t):=by
  subst hK
  exact pe_bm pa slot hty hm ho ha hbase hfew hline hs hplain
theorem ix_listK (hK:X.K=K):IxR X (rIxL K):=by subst hK;exact ix_list
theorem ix_tupK (hK:X.K=K):IxR X (rIxT K):=by subst hK;exact ix_tup
noncomputable def rLenL (K:PySem.W.Frag):List V->Hp->VK->Prop:=fun xs H Q=>∃ p ys,xs=[.ref p]/\(SqL K H p ys\/SqT K H p ys)/\Q (.int ys.length) H
theorem call_lenLK (hK:X.K=K):CallR X (.builtin "len") (rLenL K):=by subst hK;exact call_len_seq
theorem pi_listK {tg l:Expr}{tl:TE}(hK:X.K=K)(hl:PE X l tl):PI X tg l (iList K tl):=by subst hK;exact pi_list hl
end
end
end L2
namespace L2
open PySem PySem.Spec PyProof.Rows
theorem bb_len:bootBuiltins "len" = some (.builtin "len"):=by decide +kernel
theorem bb_max:bootBuiltins "max" = some (.builtin "max"):=by decide +kernel
theorem bb_min:bootBuiltins "min" = some (.builtin "min"):=by decide +kernel
theorem bb_str:bootBuiltins "str" = some (.type "str"):=by decide +kernel
theorem bb_int:bootBuiltins "int" = some (.type "int"):=by decide +kernel
theorem bb_isinstance:bootBuiltins "isinstance" = some (.builtin "isinstance"):=by decide +kernel
noncomputable def sg:List Nat:=[32,33,34,35,36,38,39,40,41,42,43,44,45,46,47,48,49,50,51,52,53,54,55,56,57,58,59,60,61,62,63,64,65,66,67,68,69,70,71,72,73,74,75,76,77,78,79,80,81,82,83,84,85,86,87,88,89,90,91,92,93,94,95,96,97,98,99,100,101,102,103,104,105,106,107,108,109,110,111,112,113,114,115,116,117,118,119,120,121,122,123,124,125,126]
noncomputable def fg:List Nat:=[48,49,50,51,52,53,54,55,56,57]
theorem sg_len:sg.length=94:=by decide
theorem fg_iff (c:Nat):c∈fg↔isFig c=true:=by
  unfold fg isFig
  simp only [List.mem_cons,List.mem_nil_iff,or_false,Bool.and_eq_true,decide_eq_true_eq]
  omega
theorem atI_z {α:Type}(xs:List α)(i:Nat):atI xs (i:Int)=xs[i]?:=by
  cases h:xs[i]? with
  | some v=>exact atI_nat h
  | none=>
    have h1:xs.length<=i:=List.getElem?_eq_none_iff.mp h
    unfold atI ixN
    rw [if_pos (by lia),if_neg (by lia)]
    rfl
theorem same_upd {H:Hp}{a:Addr}{o:HO}(h:H a=none):Same H (upd H a o):=fun b u e=>by rw [upd_ne (ne_of_none e h)];exact e
end L2
namespace L2
open PySem PySem.Spec PyProof.Rows
def forBody (J:It)(g:TG)(tb:TS)(D:Ends)(σ:St)(H1:Hp):Prop:=∃ W:Nat->Nat->St->Hp->Prop,(∃ m,W 0 m σ H1)/\∀ i m σ H,W i m σ H ->
  (J.stop i H/\D.nx σ H)\/(J.go i H/\∃ N:St->Hp->Prop,(∀ σ' H',N σ' H'->∃ m',m' < m/\W (i+1) m' σ' H')/\∀ x H',J.yld i H x H'->g x σ H' fun σ2 H2=>tb { D with nx:=N,ct:=N,bk:=D.nx } σ2 H2)
theorem tFor_eq (wi:TI)(g:TG)(tb:TS):tFor wi g tb=fun D σ H=>wi σ H fun J H1=>forBody J g tb D σ H1:=rfl
def whBody (c:TT)(tb:TS)(D:Ends)(σ:St)(H:Hp):Prop:=∃ W:Nat->St->Hp->Prop,(∃ m,W m σ H)/\∀ m σ H,W m σ H ->
  c σ H fun b H1=>if b=true then ∃ N:St->Hp->Prop,(∀ σ' H',N σ' H'->∃ m',m' < m/\W m' σ' H')/\tb { D with nx:=N,ct:=N,bk:=D.nx } σ H1 else D.nx σ H1
theorem tWhile_eq (c:TT)(tb:TS):tWhile c tb=fun D σ H=>whBody c tb D σ H:=rfl
theorem fb_list {K:PySem.W.Frag}{a:Addr}{xs:List V}{g:TG}{tb:TS}{D:Ends}{σ:St}{H:Hp}(Pv:Nat->St->Hp->Prop)(h0:Pv 0 σ H)(hl:∀ i σ H,i<=xs.length->Pv i σ H->SqL K H a xs)
    (hs:∀ i x σ H,xs[i]? = some x->Pv i σ H->g x σ H fun σ2 H2=>tb { D with nx:=Pv (i+1),ct:=Pv (i+1),bk:=D.nx } σ2 H2) (hd:∀ σ H,Pv xs.length σ H->D.nx σ H):forBody (Itl K a) g tb D σ H:=for_list Pv h0 hl hs hd
theorem fb_range {n:Nat}{g:TG}{tb:TS}{D:Ends}{σ:St}{H:Hp}(Pv:Nat->St->Hp->Prop)(h0:Pv 0 σ H)
    (hs:∀ i σ H,i<n->Pv i σ H->g (.int (i:Int)) σ H fun σ2 H2=>tb { D with nx:=Pv (i+1),ct:=Pv (i+1),bk:=D.nx } σ2 H2) (hd:∀ σ H,Pv n σ H->D.nx σ H):forBody (Itr 0 n) g tb D σ H:=by
  refine⟨fun i m σ H=>m=n - i/\i<=n/\Pv i σ H,⟨n,by simp,Nat.zero_le _,h0⟩,?_⟩
  rintro i m σ H ⟨rfl,hi,p⟩
  by_cases hlt:i<n
  · refine .inr ⟨hlt,Pv (i+1),fun σ' H' p'=>⟨n - (i+1),by lia,rfl,hlt,p'⟩,fun x H' y=>?_⟩
    obtain⟨rfl,rfl⟩:=y
    rw [Int.zero_add]
    exact hs i σ _ hlt p
  · have e:i=n:=by lia
    subst e
    exact .inl ⟨Nat.le_refl _,hd σ H p⟩
end L2
namespace L2
open PySem PySem.Spec PyProof.Rows
theorem atI_0 {α:Type}(c:α)(l:List α):atI (c::l) 0=some c:=by rw [show(0:Int)=((0:Nat):Int) from rfl,atI_z];rfl
theorem atI_1 {α:Type}(c d:α)(l:List α):atI (c::d::l) 1=some d:=by rw [show(1:Int)=((1:Nat):Int) from rfl,atI_z];rfl
theorem atI_int {α:Type}{xs:List α}{i:Int}(h0:0<=i)(h1:i<xs.length):∃ v,atI xs i=some v/\xs[i.toNat]? = some v:=by
  obtain⟨n,rfl⟩:=Int.eq_ofNat_of_zero_le h0
  have hn:n<xs.length:=by lia
  refine⟨xs[n],?_,?_⟩
  · rw [show((n:Nat):Int)=((n:Nat):Int) from rfl]
    rw [atI_z,List.getElem?_eq_getElem hn]
  · rw [Int.toNat_natCast,List.getElem?_eq_getElem hn]
theorem atI_ints {ns:List Int}{i:Int}(h0:0<=i)(h1:i<ns.length):∃ n,atI (ns.map V.int) i=some (.int n)/\n∈ns:=by
  obtain⟨v,h2,h3⟩:=atI_int (xs:=ns.map V.int) h0 (by rw [List.length_map];exact h1)
  rw [List.getElem?_map] at h3
  cases e:ns[i.toNat]? with
  | none=>rw [e] at h3;cases h3
  | some n=>
    rw [e] at h3
    cases h3
    exact⟨n,h2,List.mem_of_getElem? e⟩
theorem mulOk_l {i j:Int}(h:-(2 ^ 64)<i/\i<2 ^ 64):IntMulOk i j:=CMul.ok (.inl h)
theorem mulOk_r {i j:Int}(h:-(2 ^ 64)<j/\j<2 ^ 64):IntMulOk i j:=CMul.ok (.inr h)
theorem mod_nn {a m:Int}(h:0<m):0<=a % m/\a % m<m:=⟨Int.emod_nonneg _ (by lia),Int.emod_lt_of_pos _ h⟩
theorem cpow {i j:Int}(h:0<=j/\j<=1000000/\i.natAbs<2 ^ 64):CPow i j:=h
noncomputable def told (l:List Nat):Option Nat:=match l with
  | [c,d]=>if isFig c=true/\isFig d=true then sg[(c - 48) * 10+(d - 48)]? else none
  | _=>none
theorem told_ne {l:List Nat}(h:l.length≠2):told l=none:=by
  match l,h with
  | [],_=>rfl
  | [_],_=>rfl
  | [_,_],h=>exact absurd rfl h
  | _::_::_::_,_=>rfl
noncomputable def oV:Option Nat->V
  | some c=>.str (S [c])
  | none=>.non
end L2
namespace L2
open PySem PySem.Spec PyProof.Rows
noncomputable def rMulS:R2:=fun x y H Q=>∃ (l:List Nat) (n:Int),x=.str (S l)/\y=.int n/\0<=n/\n<=100000/\l.length * n.toNat<=16777216/\Q (.str (S (List.replicate n.toNat l).flatten)) H
noncomputable def ws:List Nat:=[97,98,99,100,101,102,103,104,105,106,107,108,109,110,111,112,113,114,115,116,117,118,119,120,121,122,48,49,50,51,52,53,54,55,56,57,45]
end L2
namespace L2
open PySem PySem.Spec PyProof.Rows
def Fly (h:Heap)(e T:Addr)(cls:Value)(d:Option Addr)(fl:Value):Prop:=
  ∃ sl vs oT ts,h.get? e=some ⟨cls,d,.fields vs,sl⟩/\vs[1]? = some (.ref T)/\T≠e/\h.get? T=some oT/\oT.data=.fields ts/\ts[3]? = some fl
structure Kp (ch fs:List Addr)(h h':Heap):Prop where
  keep:∀ b o,b∉ch->b∉fs->h.get? b=some o->h'.get? b=some o
  slot:∀ b o,b∉ch->h.get? b=some o->∃ sl,h'.get? b=some { o with slots:=sl }
theorem Kp.trans {ch ch' fs:List Addr}{h h1 h2:Heap}(a:Kp ch fs h h1)(b:Kp ch' fs h1 h2):Kp (ch++ch') fs h h2 where
  keep:=fun x o hx hf q=>b.keep x o (fun z=>hx (List.mem_append_right _ z)) hf (a.keep x o (fun z=>hx (List.mem_append_left _ z)) hf q)
  slot:=fun x o hx q=>by
    obtain⟨sl,q1⟩:=a.slot x o (fun z=>hx (List.mem_append_left _ z)) q
    obtain⟨sl',q2⟩:=b.slot x _ (fun z=>hx (List.mem_append_right _ z)) q1
    exact⟨sl',q2⟩
theorem Kp.mono {ch ch' fs fs':List Addr}{h h1:Heap}(a:Kp ch fs h h1)(h1':∀ b∈ch,b∈ch')(h2':∀ b∈fs,b∈fs'):Kp ch' fs' h h1:=
  ⟨fun b o hx hf q=>a.keep b o (fun z=>hx (h1' b z)) (fun z=>hf (h2' b z)) q,fun b o hx q=>a.slot b o (fun z=>hx (h1' b z)) q⟩
section
variable {M:Model} {A:Around} {E:Value->Shared->Prop} {s:Shared}
theorem entry_new {base:Heap}{env:Env}{outer:List Env}{L e:Addr}{cls head:Value}{d:Option Addr}{vs:Array Value}{sl:Array (Option Value)}{nx:Bool}{Q:Unit->Shared->Prop}
    (hfr:A.frames=some (env::outer)) (hl:s.heap.FunFrames base (env::outer)) (hf:env.frame=some L) (he:s.heap.get? e=some ⟨cls,d,.fields vs,sl⟩) (hv:1<vs.size)
    (k:∀ h' T,s.heap.objs.size<=T->Fly h' e T cls d (rawInt L)->Kp [e] (frs (env::outer)) s.heap h'->Q () { s with heap:=h' }) :
    wpAny M A (do let a ← frameOf env;let pl ← entryPlaceOf L nx;let b ← EntryCells.newEntry head a .none (rawInt L) .none pl;setField (.ref e) 1 b) Q E s:=by
  have ne:e∉(env::outer).filterMap (·.frame):=fun hm=>by
    obtain⟨_,o,ho,hn⟩:=hl.mem hm
    rw [he] at ho
    cases ho
    exact hn vs rfl
  refine wpAny_bind (wpAny_frameOf_fun hfr hl hf fun g hg=>wpAny_bind (wpAny_entryPlaceOf fun pl hpl=>?_))
  have e1:g.get? e=some ⟨cls,d,.fields vs,sl⟩:=(hg.2.1 e ne).trans he
  unfold EntryCells.newEntry newFields
  refine wpAny_bind (wpAny_newObj_type ?_ (hpl.sizeOk5 _ _ _ _ _))
  generalize hT:({ cls:=.type "traceback",dict:=none,data:=.fields ([head,.ref L,.none,rawInt L,.none]++(if pl.isEmpty then List.replicate 6 Value.none else pl)).toArray }:Obj)=tb
  have e2:=Heap.get?_push_of_some (h:=g) tb e1
  have tn:g.objs.size≠e:=Nat.ne_of_gt (Heap.lt_size e1)
  refine wpAny_setField e2 rfl hv (k _ g.objs.size ?_ ?_ ?_)
  · rw [hg.1];exact Nat.le_refl _
  · refine⟨sl,_,tb,([head,.ref L,.none,rawInt L,.none]++(if pl.isEmpty then List.replicate 6 Value.none else pl)).toArray,Heap.get?_update_self _ e2 (by rfl),by simp [hv],tn,?_,by rw [← hT],by simp⟩
    rw [Heap.get?_update_other _ _ (Ne.symm tn)]
    exact Heap.get?_push_size g (by rw [← hT];rfl)
  · refine⟨fun b o hb hfs q=>?_,fun b o hb q=>?_⟩
    · have hbe:b≠e:=fun z=>hb (by simp [z])
      rw [Heap.get?_update_other _ _ (Ne.symm hbe)]
      exact Heap.get?_push_of_some _ ((hg.2.1 b hfs).trans q)
    · have hbe:b≠e:=fun z=>hb (by simp [z])
      obtain⟨sl',q'⟩:=hg.2.2 b o q
      refine⟨sl',?_⟩
      rw [Heap.get?_update_other _ _ (Ne.symm hbe)]
      exact Heap.get?_push_of_some _ q'
theorem note_first {base:Heap}{env:Env}{outer:List Env}{L e:Addr}{cls:Value}{d:Option Addr}{vs:Array Value}{sl:Array (Option Value)}{Q:Unit->Shared->Prop}
    (hfr:A.frames=some (env::outer)) (hl:s.heap.FunFrames base (env::outer)) (hf:env.frame=some L) (he:s.heap.get? e=some ⟨cls,d,.fields vs,sl⟩) (hv:vs[1]? = some .none)
    (k:∀ h' T,s.heap.objs.size<=T->Fly h' e T cls d (rawInt L)->Kp [e] (frs (env::outer)) s.heap h'->Q () { s with heap:=h' }):wpAny M A (noteFrame (.ref e) env) Q E s:=by
  unfold noteFrame
  simp only [hf]
  refine wpAny_bind (wpAny_field he rfl hv ?_)
  rw [if_neg (by decide)]
  exact entry_new hfr hl hf he (Array.getElem?_eq_some_iff.mp hv).1 k
theorem note_next {base:Heap}{env:Env}{outer:List Env}{L e T:Addr}{cls:Value}{d:Option Addr}{Q:Unit->Shared->Prop}
    (hfr:A.frames=some (env::outer)) (hl:s.heap.FunFrames base (env::outer)) (hf:env.frame=some L) (F:Fly s.heap e T cls d .none)
    (k:∀ h' T',s.heap.objs.size<=T'->Fly h' e T' cls d (rawInt L)->Kp [T,e] (frs (env::outer)) s.heap h'->Q () { s with heap:=h' }):wpAny M A (noteFrame (.ref e) env) Q E s:=by
  obtain⟨sl,vs,oT,ts,he,hv,tn,hT,hd,h3⟩:=F
  unfold noteFrame
  simp only [hf]
  refine wpAny_bind (wpAny_field he rfl hv ?_)
  rw [if_pos (show(Value.ref T != Value.none)=true by simp)]
  refine wpAny_bind (wpAny_field hT hd h3 ?_)
  rw [if_neg (show ¬ (Value.none == rawInt L)=true by simp [rawInt])]
  refine wpAny_bind (wpAny_setField hT hd (Array.getElem?_eq_some_iff.mp h3).1 ?_)
  have oth:∀ b,b≠T->(s.heap.update T (Obj.mapFields (·.setIfInBounds 3 Value.none))).get? b=s.heap.get? b:=fun b hb=>Heap.get?_update_other _ _ (Ne.symm hb)
  have nT:∀ b o,s.heap.get? b=some o->(∀ ws,o.data≠.fields ws)->b≠T:=fun b o q hn z=>by
    rw [z,hT] at q
    cases q
    exact hn ts hd
  have hsz:(s.heap.update T (Obj.mapFields (·.setIfInBounds 3 Value.none))).objs.size=s.heap.objs.size:=(Heap.SameBut.update s.heap T _).1
  refine entry_new (base:=base) hfr (hl.of_keeps fun b o q hn=>⟨o,(oth b (nT b o q hn)).trans q,rfl⟩) hf ((oth e (Ne.symm tn)).trans he) (Array.getElem?_eq_some_iff.mp hv).1 fun h' T' g1 g2 g3=>?_
  refine k h' T' (by rw [← hsz];exact g1) g2 ⟨fun b o hb hfs q=>?_,fun b o hb q=>?_⟩
  · exact g3.keep b o (fun z=>hb (List.mem_cons_of_mem _ z)) hfs ((oth b fun z=>hb (by simp [z])).trans q)
  · exact g3.slot b o (fun z=>hb (List.mem_cons_of_mem _ z)) ((oth b fun z=>hb (by simp [z])).trans q)
theorem flight_off {e T:Addr}{cls fl:Value}{d:Option Addr}{Q:Unit->Shared->Prop}(F:Fly s.heap e T cls d fl)(k:∀ h',Fly h' e T cls d .none->Kp [T] [] s.heap h'->h'.objs.size=s.heap.objs.size->Q () { s with heap:=h' }):wpAny M A (setFlight (.ref e) none) Q E s:=by
  obtain⟨sl,vs,oT,ts,he,hv,tn,hT,hd,h3⟩:=F
  have h3':=(Array.getElem?_eq_some_iff.mp h3).1
  unfold setFlight
  refine wpAny_bind (wpAny_field he rfl hv ?_)
  rw [if_pos (show(Value.ref T != Value.none)=true by simp)]
  have oth:∀ b,b≠T->(s.heap.update T (Obj.mapFields (·.setIfInBounds 3 Value.none))).get? b=s.heap.get? b:=fun b hb=>Heap.get?_update_other _ _ (Ne.symm hb)
  refine wpAny_setField hT hd h3' (k _ ⟨sl,vs,_,_,(oth e (Ne.symm tn)).trans he,hv,tn,Heap.get?_update_self _ hT (Obj.isFreed_of_fields (Obj.data_mapFields hd _)),Obj.data_mapFields hd _,by simp [h3']⟩ ?_ (Heap.SameBut.update s.heap T _).1)
  exact⟨fun b o hb _ q=>(oth b fun z=>hb (by simp [z])).trans q,fun b o hb q=>⟨o.slots,(oth b fun z=>hb (by simp [z])).trans q⟩⟩
theorem leave_first {base:Heap}{env:Env}{outer:List Env}{L e:Addr}{cls:Value}{d:Option Addr}{vs:Array Value}{sl:Array (Option Value)}{Q:Unit->Shared->Prop}
    (hfr:A.frames=some (env::outer)) (hl:s.heap.FunFrames base (env::outer)) (hf:env.frame=some L) (he:s.heap.get? e=some ⟨cls,d,.fields vs,sl⟩) (hv:vs[1]? = some .none)
    (k:∀ h' T,s.heap.objs.size<=T->Fly h' e T cls d .none->Kp [e] (frs (env::outer)) s.heap h'->Q () { s with heap:=h' }):wpAny M A (leaving env (.ref e)) Q E s:=by
  unfold leaving
  refine wpAny_bind (note_first hfr hl hf he hv fun h1 T g1 g2 g3=>flight_off (s:={ s with heap:=h1 }) g2 fun h2 f1 f2 f3=>k h2 T g1 f1 ⟨fun b o hb hfs q=>?_,fun b o hb q=>?_⟩)
  all_goals
    have hbT:b≠T:=fun z=>absurd (Heap.lt_size q) (by rw [z];exact Nat.not_lt.mpr g1)
  · exact f2.keep b o (by simpa using hbT) (by simp) (g3.keep b o hb hfs q)
  · obtain⟨sl',q'⟩:=g3.slot b o hb q
    obtain⟨sl2,q2⟩:=f2.slot b _ (by simpa using hbT) q'
    exact⟨sl2,q2⟩
theorem leave_next {base:Heap}{env:Env}{outer:List Env}{L e T:Addr}{cls:Value}{d:Option Addr}{Q:Unit->Shared->Prop}
    (hfr:A.frames=some (env::outer)) (hl:s.heap.FunFrames base (env::outer)) (hf:env.frame=some L) (F:Fly s.heap e T cls d .none)
    (k:∀ h' T',s.heap.objs.size<=T'->Fly h' e T' cls d .none->Kp [T,e] (frs (env::outer)) s.heap h'->Q () { s with heap:=h' }):wpAny M A (leaving env (.ref e)) Q E s:=by
  unfold leaving
  refine wpAny_bind (note_next hfr hl hf F fun h1 T' g1 g2 g3=>flight_off (s:={ s with heap:=h1 }) g2 fun h2 f1 f2 f3=>k h2 T' g1 f1 ⟨fun b o hb hfs q=>?_,fun b o hb q=>?_⟩)
  all_goals
    have hbT:b≠T':=fun z=>absurd (Heap.lt_size q) (by rw [z];exact Nat.not_lt.mpr g1)
  · exact f2.keep b o (by simpa using hbT) (by simp) (g3.keep b o hb hfs q)
  · obtain⟨sl',q'⟩:=g3.slot b o hb q
    obtain⟨sl2,q2⟩:=f2.slot b _ (by simpa using hbT) q'
    exact⟨sl2,q2⟩
end
end L2
namespace L2
open PySem PySem.Spec PySem.Calls PyProof.Rows PySem.W
noncomputable abbrev vBM:List Value:=[.type "ValueError",.type "Exception",.type "BaseException",.type "object"]
noncomputable def xShape (K:Frag)(C:Addr):Bool:=match K.lookup C with
  | none=>false
  | some o=>o.cls == .type "type"&&match o.data with
    | .cls c=>(match c.mro,o.slots.toList with | .ref B::m,[_,_,_,_,some (.builtin n),_]=>B == C&&n == "ValueError.__new__"&&!c.hasDel&&tailIn K vBM m&&nsOkIn K c.ns | _,_=>false)
    | _=>false
noncomputable def xInit (K:Frag)(C:Addr):Option (Option Value):=(clsIn K C).bind fun c=>nsIn K c.ns "__init__"
theorem ns_some_of {K:Frag}{h:Heap}{N:Addr}{x:Str}{v:Value}(X:K.In h)(e:nsOkIn K N=true)(q:nsIn K N x=some (some v)):h.nsMap N x=some v:=by
  obtain⟨o,es,ep,ho,hd,_,hf⟩:=(Heap.Ns.of_isNs (isNs_of_in X e):h.Ns N (h.nsMap N))
  unfold nsIn at q
  split at q
  · rename_i c d es' n' sl z
    have:=X _ _ z
    rw [ho] at this
    cases this
    cases hd
    split at q
    · rename_i en he
      rw [← hf]
      unfold nsFind findBy
      rw [← Array.find?_toList,he]
      cases q
      rfl
    · split at q<;>cases q
  · cases q
theorem x_obj {K:Frag}{h:Heap}{C:Addr}(X:K.In h)(e:xShape K C=true):∃ nm q N bs bm hd sn sub ab col dd k0 k1 k2 k3 k5 cd,
    h.get? C=some (excClassObj nm q C N bs bm hd sn sub ab col dd k0 k1 k2 k3 k5 "ValueError.__new__")/\clsIn K C=some cd/\cd.mro=.ref C::bm/\cd.ns=N/\cd.hasDict=hd/\OwnTail h vBM bm/\nsOkIn K N=true:=by
  unfold xShape at e
  cases hl:K.lookup C with
  | none=>rw [hl] at e;cases e
  | some o=>
    rw [hl] at e
    simp only [Bool.and_eq_true,beq_iff_eq] at e
    obtain⟨hc,e⟩:=e
    cases hd:o.data with
    | cls c=>
      rw [hd] at e
      simp only at e
      split at e
      · rename_i B m k0 k1 k2 k3 n k5 hm hs
        simp only [Bool.and_eq_true,beq_iff_eq,Bool.not_eq_true'] at e
        obtain⟨⟨⟨⟨hB,rfl⟩,hdel⟩,ht⟩,hok⟩:=e
        obtain rfl:C=B:=hB.symm
        have hci:clsIn K C=some c:=by
          unfold clsIn
          obtain⟨oc,od,oda,osl⟩:=o
          dsimp only at hd
          subst hd
          rw [hl]
        obtain⟨oc,od,oda,osl⟩:=o
        dsimp only at hc hd hs
        subst hc hd
        have z:osl = #[k0,k1,k2,k3,some (.builtin "ValueError.__new__"),k5]:=by
          obtain⟨l⟩:=osl
          simp only at hs
          rw [hs]
        subst z
        have hh:=X _ _ hl
        obtain⟨nm,bs,mro,ns,qn,hdc,sn,sub,ab,col,del⟩:=c
        dsimp only at hm hdel hok
        subst hm hdel
        exact⟨nm,qn,ns,bs,m,hdc,sn,sub,ab,col,od,k0,k1,k2,k3,k5,⟨nm,bs,.ref C::m,ns,qn,hdc,sn,sub,ab,col,false⟩,hh,hci,rfl,rfl,rfl,tail_of_in X ht,hok⟩
      · cases e
    | _=>rw [hd] at e;simp at e
section
variable {prog:Program} {w:World} {A:Around} {E:Value->Shared->Prop} {K:Frag} {C:Addr}
theorem exc_new {h:Heap}{g:Array GenState}{d:Drawn}{t:Nat}{os:OsState}{rest:List Value}{fI:Addr}{oI:Obj}{Q:Fin->Shared->Prop}(X:K.In h)(e:xShape K C=true)(hi:xInit K C=some (some (.ref fI)))(hf:K.lookup fI=some oI)
    (hfc:oI.cls=.type "function") (hr:rest.length<=sizeLine)
    (hq:∀ h' x,h.objs.size<=x->Heap.MadeExcOf h h' x (.ref C) rest->wpAny (model prog w) A (call (.ref fI) (.ref x::rest)) (fun r s'=>r=.none/\Q (.done (.ret (.ref x))) s') E ⟨h',g,d,t,os⟩) :
    wpAny (model prog w) A (Builtin.«type.__call__» ⟨.ref C::rest,[]⟩) Q E ⟨h,g,d,t,os⟩:=by
  obtain⟨nm,q,N,bs,bm,hd,sn,sub,ab,col,dd,k0,k1,k2,k3,k5,cd,hC,hcd,hmro,hns,_,T,hok⟩:=x_obj X e
  have F:=PySem.F.excBase_ValueError
  have hi':nsIn K N "__init__" = some (some (.ref fI)):=by
    unfold xInit at hi
    rw [hcd] at hi
    rw [← hns]
    exact hi
  have hn:h.Ns N (h.nsMap N):=Heap.Ns.of_isNs (isNs_of_in X hok)
  have hm:=ns_some_of X hok hi'
  have hfI:=X _ _ hf
  generalize h.nsMap N=mN at hn hm
  repeat (first | (with_reducible refine wpAny_loadPart_at hC ?_) | (with_reducible refine wpAny_madeBy_exc hC ?_) | wp_step)
  refine codeAny_call_builtin_code (Code.quiet_builtin _ F.quiet) (wpAny_check_new_subT F T hC (codeAny_exc_new_subT F T hC ?_ hr))
  show wpAny (model prog w) _ _ _ _ _
  have up:∀ b o,h.get? b=some o->((h.push ({ cls:=.type "tuple",data:=.seq rest.toArray }:Obj)).push ({ cls:=.ref C,data:=.fields #[.ref h.objs.size,.none,.none,.none,.bool false,.none] }:Obj)).get? b=some o:=fun b o z=>Heap.get?_push_of_some ({ cls:=.ref C,data:=.fields #[.ref h.objs.size,.none,.none,.none,.bool false,.none] }:Obj) (Heap.get?_push_of_some ({ cls:=.type "tuple",data:=.seq rest.toArray }:Obj) z)
  have hC1:=up _ _ hC
  have hfI1:=up _ _ hfI
  have hn1:((h.push ({ cls:=.type "tuple",data:=.seq rest.toArray }:Obj)).push ({ cls:=.ref C,data:=.fields #[.ref h.objs.size,.none,.none,.none,.bool false,.none] }:Obj)).Ns N mN:=hn.keeps up
  have T1:=T.keeps up
  have hget:((h.push ({ cls:=.type "tuple",data:=.seq rest.toArray }:Obj)).push ({ cls:=.ref C,data:=.fields #[.ref h.objs.size,.none,.none,.none,.bool false,.none] }:Obj)).get? (h.objs.size+1)=some ({ cls:=.ref C,data:=.fields #[.ref h.objs.size,.none,.none,.none,.bool false,.none] }:Obj):=by
    have:=Heap.get?_push_size (h.push ({ cls:=.type "tuple",data:=.seq rest.toArray }:Obj)) (o:=({ cls:=.ref C,data:=.fields #[.ref h.objs.size,.none,.none,.none,.bool false,.none] }:Obj)) rfl
    rwa [Heap.size_push] at this
  have hcC:(Value.ref C::bm).contains (.ref C)=true:=by simp
  unfold isInstance
  repeat (first | (with_reducible refine wpAny_loadPart_at hget ?_) | (with_reducible refine wpAny_isSubtype_exc hC1 ?_;rw [hcC]) | wp_step)
  show wpAny (model prog w) _ (typeLookup (.ref C) _) _ _ _
  refine wpAny_typeLookup_tail hC1 hn1 T1 F.mroIs F.init.lookup ?_
  rw [hm]
  refine wpAny_holding (wpAny_bind ?_)
  unfold bindSpecial
  refine wpAny_bind (wpAny_typeOf (T:="function") ⟨_,hfI1,hfc⟩ ?_)
  rw [if_pos (by decide)]
  refine wpAny_pure (wpAny_bind (wpAny_mono (hq _ (h.objs.size+1) (Nat.le_succ _) ⟨up,Heap.get?_none_of_le (Nat.le_succ _),h.objs.size,hget,Heap.get?_none_of_le (Nat.le_refl _),?_⟩) (fun r s' z=>?_) fun _ _ z=>z))
  · exact Heap.get?_push_of_some _ (Heap.get?_push_size h rfl)
  · obtain⟨rfl,z⟩:=z
    wp_walk
    exact z
theorem exc_make {s:Shared}{rest:List Value}{fI:Addr}{oI:Obj}{Q:Value->Shared->Prop}(X:K.In s.heap)(e:xShape K C=true)(hi:xInit K C=some (some (.ref fI)))(hf:K.lookup fI=some oI)(hfc:oI.cls=.type "function")(hr:rest.length<=sizeLine)
    (hq:∀ h' x,s.heap.objs.size<=x->Heap.MadeExcOf s.heap h' x (.ref C) rest->wpAny (model prog w) (A.under (.builtin "type.__call__" ⟨.ref C::rest,[]⟩)) (call (.ref fI) (.ref x::rest)) (fun r s'=>r=.none/\Q (.ref x) s') E { s with heap:=h' }) :
    wpAny (model prog w) A (call (.ref C) rest) Q E s:=by
  obtain⟨h,g,d,t,os⟩:=s
  obtain⟨nm,q,N,bs,bm,hd,sn,sub,ab,col,dd,k0,k1,k2,k3,k5,cd,hC,_⟩:=x_obj X e
  have f1:=tc_lookup
  have f2:=tc_bind (.ref C)
  have hT:(⟨h,g,d,t,os⟩:Shared).TypeIs (.ref C) "type":=⟨_,hC,rfl⟩
  refine wpAny_call (codeAny_of_tree ?_)
  show wpAny (model prog w) _ (callAny (.ref C) _) _ _ _
  repeat (any_goals (first | assumption | (with_reducible refine wpAny_loadPart_at hC ?_) | wp_step))
  exact⟨rfl,codeAny_call_builtin_at (Code.quiet_builtin _ (by decide +kernel)) entry_typeCall (wpAny_check_type_call_sub hC (exc_new X e hi hf hfc hr fun h' x y z=>hq h' x y z))⟩
end
end L2
namespace L2
open PySem PySem.Spec PySem.Calls PyProof.Rows PySem.W Builtin Builtin.ObjectAttr
section
variable {prog:Program} {w:World} {A:Around} {E:Value->Shared->Prop} {K:Frag} {C x:Addr} {s:Shared}
theorem exc_init {rest:List Value}{vs:Array Value}{sl:Array (Option Value)}{dd:Option Addr}{Q:Value->Shared->Prop}(X:K.In s.heap)(e:xShape K C=true)(hx:s.heap.get? x=some ⟨.ref C,dd,.fields vs,sl⟩){t0:Addr}(h0:vs[0]? = some (.ref t0))(hr:rest.length<=sizeLine)
    (hq:∀ h',(∀ b o,b≠x->s.heap.get? b=some o->h'.get? b=some o)->h'.get? x=some ⟨.ref C,dd,.fields (vs.setIfInBounds 0 (.ref s.heap.objs.size)),sl⟩->Q .none { s with heap:=h' }) :
    wpAny (model prog w) A (call (.builtin "ValueError.__init__") (.ref x::rest)) Q E s:=by
  obtain⟨h,g,d,t,os⟩:=s
  obtain⟨nm,q,N,bs,bm,hd,sn,sub,ab,col,dd',k0,k1,k2,k3,k5,cd,hC,hcd,hmro,hns,_,T,hok⟩:=x_obj X e
  have F:=PySem.F.excBase_ValueError
  refine wpAny_call (codeAny_call_builtin F.init.plain F.initEntry (wpAny_check_init_subT F T hC hx rfl ?_))
  have hx1:(h.push ({ cls:=.type "tuple",data:=.seq rest.toArray }:Obj)).get? x=some ⟨.ref C,dd,.fields vs,sl⟩:=Heap.get?_push_of_some _ hx
  have hz:0<vs.size:=(Array.getElem?_eq_some_iff.mp h0).1
  repeat (first | (with_reducible refine wpAny_field hx1 rfl h0 ?_) | (with_reducible refine wpAny_setField hx1 rfl hz ?_) | wp_step)
  refine hq _ (fun b o hb z=>?_) ?_
  · exact(Heap.get?_update_other _ _ (Ne.symm hb)).trans (Heap.get?_push_of_some _ z)
  · exact Heap.get?_update_self _ hx1 rfl
theorem ot_pass {h:Heap}{self:Value}{l:List Value}(T:OwnTail h vBM l):refuseLoop self "__setattr__" l=pure ():=by
  induction T with
  | base=>exact PySem.F.store_ValueError.passes self
  | own _ _ _ _ ih=>rw [refuseLoop_ref];exact ih
theorem x_store {ox:Obj}{od:Option Obj}{name:Str}{tk:Tok}{v:Value}{R:Result->Shared->Prop}(X:K.In s.heap)(I:InstAt s.heap x ox C od)(e:xShape K C=true)(ha:findIn K (.ref C) name=some none)
    (h:∀ b,wpAny (model prog w) A.in1 (storeInOwnDict (.ref x) (.ref C) (.str name tk) name v b)
      (fun fin s'=>match fin with | .done f=>R (.ok f) s' | .again c'=>c'.quiet=true/\codeAny (model prog w) A c' R s') (fun e s'=>R (.error e) s') s) :
    codeAny (model prog w) A (.call (.builtin "object.__setattr__") ⟨[.ref x,.str name tk,v],[]⟩) R s:=by
  have SF:=PySem.F.store_object
  obtain⟨nm,q,N,bs,bm,hd,sn,sub,ab,col,dd',k0,k1,k2,k3,k5,cd,hC,hcd,hmro,hns,_,T,hok⟩:=x_obj X e
  have hobj:cd.mro.contains (.type "object")=true:=by rw [hmro,List.contains_cons,T.hasType (X:="object") (b:=true) (by decide +kernel),Bool.or_true]
  have sub:Looks (model prog w) s.heap (isInstance (.ref x) (.type "object")) true:=I.type.andThen (looks_mroIn X (by unfold mroIn;rw [hcd,Option.bind_some,if_neg (by rw [hmro];simp),hobj]))
  refine codeAny_call_builtin SF.slot.plain SF.entry (@check_slot (model prog w) _ _ s "object.__setattr__" "object" "__setattr__" (.ref x) [.str name tk,v] [] _ SF.kind SF.split sub (SF.args (.ref x) (.str name tk) v) ?_)
  have hm:Looks (model prog w) s.heap (mroOf (.ref C)) cd.mro:=(looks_clsIn X hcd).andThen .now
  rw [osa_eq,refuse_eq]
  refine wpAny_bind (wpAny_bind (I.type.here (wpAny_bind (hm.here ?_))))
  rw [hmro,refuseLoop_ref,ot_pass T]
  exact wpAny_pure (wpAny_bind (I.type.here (wpAny_bind ((looks_findIn X ha).here (wpAny_bind (wpAny_pure (h _)))))))
theorem store_in {M:Model}{d:Addr}{mA:Str->Option Value}{ns:List Str}{name:Str}{tk:Tok}{v:Value}{Q:Fin->Shared->Prop}(hns:s.heap.Ns1 d mA)(hw:Within mA ns)(hz:ns.length<sizeLine)
    (hq:∀ h' tk',h'.Ns1 d (fun y=>if y=name then some v else mA y)->Heap.SameBut d s.heap h'->Q (.done (.ret .none)) { s with heap:=h',toks:=tk' }):wpAny M A (storeInDict d (.str name tk) name v) Q E s:=by
  obtain⟨h,g,dr,t,os⟩:=s
  unfold storeInDict newKeyGuard
  refine wpAny_bind (wpAny_pure (wpAny_bind (wpAny_nsSet1 hns fun h' hn' hs=>?_)))
  obtain⟨oD,es,ep,ho,hd,hc⟩:=hn'.count (Within.cons name v hw)
  refine wpAny_bind (wpAny_lookBehind ho (by rw [hd];exact pastItsLine_dict (Nat.le_trans hc (by rw [List.length_cons];lia))) ?_)
  exact wpAny_pure (hq h' _ hn' hs)
theorem own_new {M:Model}{vs:Array Value}{sl:Array (Option Value)}{Q:Option Addr->Shared->Prop}(X:K.In s.heap)(hx:s.heap.get? x=some ⟨.ref C,none,.fields vs,sl⟩)(e:xShape K C=true)(hh:hasDictIn K C=true)
    (hq:Q (some s.heap.objs.size) { s with heap:=(s.heap.push ({ cls:=.type "dict",data:=.dict #[] }:Obj)).update x fun o=>{ cls:=o.cls,dict:=some s.heap.objs.size,data:=o.data,slots:=o.slots } }):wpAny M A (ownDictForStores (.ref x)) Q E s:=by
  obtain⟨h,g,dr,t,os⟩:=s
  obtain⟨nm,q,N,bs,bm,hd,sn,sub,ab,col,dd',k0,k1,k2,k3,k5,cd,hC,hcd,hmro,hns,hdd,T,hok⟩:=x_obj X e
  have hT:hd=true:=by
    obtain⟨cd',hc',hd'⟩:=any_some hh
    rw [hcd] at hc'
    cases hc'
    rw [← hdd]
    exact hd'
  subst hT
  have hx1:(h.push ({ cls:=.type "dict",data:=.dict #[] }:Obj)).get? x=some ⟨.ref C,none,.fields vs,sl⟩:=Heap.get?_push_of_some _ hx
  repeat (first | (with_reducible refine wpAny_loadPart_at hx ?_) | (with_reducible refine wpAny_loadPart_at hC ?_) | (with_reducible refine wpAny_update' hx1 ?_) | wp_step)
  exact hq
theorem exc_set0 {vs:Array Value}{sl:Array (Option Value)}{name:Str}{v:Value}{Q:Unit->Shared->Prop}(X:K.In s.heap)(hx:s.heap.get? x=some ⟨.ref C,none,.fields vs,sl⟩)(e:xShape K C=true)(hh:hasDictIn K C=true)
    (hsa:findIn K (.ref C) "__setattr__" = some (some (.builtin "object.__setattr__"))) (ha:findIn K (.ref C) name=some none)
    (hq:∀ h' d tk,s.heap.objs.size<=d->h'.get? x=some ⟨.ref C,some d,.fields vs,sl⟩->h'.Ns1 d (fun y=>if y=name then some v else none)->(∀ b o,b≠x->s.heap.get? b=some o->h'.get? b=some o)->Q () { s with heap:=h',toks:=tk }) :
    wpAny (model prog w) A (setAttr (.ref x) name v) Q E s:=by
  have I:InstAt s.heap x ⟨.ref C,none,.fields vs,sl⟩ C none:=⟨hx,rfl,rfl,trivial⟩
  refine set_plain X I hsa (x_store (s:={ s with toks:=s.toks+1 }) X I e ha fun b=>?_)
  have hxs:x≠s.heap.objs.size:=Nat.ne_of_lt (Heap.lt_size hx)
  have hx1:(s.heap.push ({ cls:=.type "dict",data:=.dict #[] }:Obj)).get? x=some ⟨.ref C,none,.fields vs,sl⟩:=Heap.get?_push_of_some _ hx
  unfold storeInOwnDict
  refine wpAny_bind (wpAny_pure ?_)
  rw [if_neg (show ¬ (Value.ref C == Value.type "module")=true from fun z=>by cases beq_iff_eq.mp z)]
  refine wpAny_bind (own_new (s:={ s with toks:=s.toks+1 }) X hx e hh ?_)
  have hgd:((s.heap.push ({ cls:=.type "dict",data:=.dict #[] }:Obj)).update x fun o=>{ cls:=o.cls,dict:=some s.heap.objs.size,data:=o.data,slots:=o.slots }).get? s.heap.objs.size=some ({ cls:=.type "dict",data:=.dict #[] }:Obj):=
    (Heap.get?_update_ne _ _ _ _ hxs.symm).trans (Heap.get?_push_size _ rfl)
  have hnd:Heap.Ns ((s.heap.push ({ cls:=.type "dict",data:=.dict #[] }:Obj)).update x fun o=>{ cls:=o.cls,dict:=some s.heap.objs.size,data:=o.data,slots:=o.slots }) s.heap.objs.size (fun _=>none):=
    ⟨_,#[],_,hgd,rfl,fun e he=>absurd he (by simp),fun _=>rfl⟩
  refine store_in (ns:=[]) (Heap.Ns1.of_empty hnd) Within.nil (by rw [sizeLine_eq];decide) fun h' tk' hn hs=>?_
  refine hq h' s.heap.objs.size _ (Nat.le_refl _) ((hs.2 x hxs).trans (Heap.get?_update_self _ hx1 rfl)) hn fun b o hb z=>?_
  exact(hs.2 b (Nat.ne_of_lt (Heap.lt_size z))).trans ((Heap.get?_update_ne _ _ _ _ hb).trans (Heap.get?_push_of_some _ z))
end
end L2
namespace L2
open PySem PySem.Spec PySem.Calls PyProof.Rows PySem.W Builtin Builtin.ObjectAttr
structure XCl (K:Frag)(C:Addr):Prop where
  sh:xShape K C=true
  hd:hasDictIn K C=true
  ga:findIn K (.ref C) "__getattribute__" = some (some (.builtin "BaseException.__getattribute__"))
  gt:findIn K (.ref C) "__getattr__" = some none
  sa:findIn K (.ref C) "__setattr__" = some (some (.builtin "object.__setattr__"))
  ca:findIn K (.ref C) "__class__" = some (some (.builtin "object.__class__"))
  cg:specialIn K (.builtin "object.__class__") "__get__" = some (some (.builtin "getset_descriptor.__get__"))
  ct:takesIn K (.builtin "object.__class__")=some true
noncomputable def xclIn (K:Frag)(C:Addr):Bool:=xShape K C&&hasDictIn K C&&findIn K (.ref C) "__getattribute__" == some (some (.builtin "BaseException.__getattribute__"))&&findIn K (.ref C) "__getattr__" == some none &&
  findIn K (.ref C) "__setattr__" == some (some (.builtin "object.__setattr__"))&&findIn K (.ref C) "__class__" == some (some (.builtin "object.__class__"))&&specialIn K (.builtin "object.__class__") "__get__" == some (some (.builtin "getset_descriptor.__get__"))&&takesIn K (.builtin "object.__class__") == some true
theorem xcl_of {K:Frag}{C:Addr}(e:xclIn K C=true):XCl K C:=by
  simp only [xclIn,Bool.and_eq_true,beq_iff_eq] at e
  obtain⟨⟨⟨⟨⟨⟨⟨a,b⟩,c⟩,d⟩,e⟩,f⟩,g⟩,h⟩:=e
  exact⟨a,b,c,d,e,f,g,h⟩
theorem XCl.mro {K:Frag}{h:Heap}{C:Addr}(c:XCl K C)(X:K.In h)(T:String)(ht:vBM.contains (.type T)=true):mroIn K C (.type T)=some true:=by
  obtain⟨nm,q,N,bs,bm,hd,sn,sub,ab,col,dd',k0,k1,k2,k3,k5,cd,hC,hcd,hmro,hns,hdd,OT,hok⟩:=x_obj X c.sh
  unfold mroIn
  rw [hcd,Option.bind_some,if_neg (by rw [hmro];simp),hmro,List.contains_cons,OT.hasType (X:=T) ht,Bool.or_true]
section
variable {prog:Program} {w:World} {A:Around} {E:Value->Shared->Prop} {K:Frag} {C x:Addr} {s:Shared} {ox:Obj} {od:Option Obj} {name:Str} {tk:Tok} {fill expr:Bool}
theorem exc_raise {env:Env}{y:Sem Value}{Q:Flow->Shared->Prop}(hh:A.handled=none)
    (h:wpAny (model prog w) A y (fun v s₁=>∃ x dd vs sl,v=.ref x/\K.In s₁.heap/\XCl K C/\s₁.heap.get? x=some ⟨.ref C,dd,.fields vs,sl⟩/\vs[1]? = some .none/\E (.ref x) s₁) E s):wpAny (model prog w) A (raiseStmt env (some y) none) Q E s:=by
  unfold raiseStmt
  refine wpAny_bind (wpAny_mono h (fun v s₁ z=>?_) fun _ _ z=>z)
  obtain⟨x,dd,vs,sl,rfl,X,c,he,h1,hE⟩:=z
  obtain⟨nm,q,N,bs,bm,hd,sn,sub,ab,col,dd',k0,k1,k2,k3,k5,cd,hC,hcd,hmro,hns,hdd,OT,hok⟩:=x_obj X c.sh
  obtain⟨hp,g,d,tk,os⟩:=s₁
  have hcB:(Value.ref C::bm).contains (.type "BaseException")=true:=by rw [List.contains_cons,OT.hasType (X:="BaseException") (b:=true) (by decide +kernel),Bool.or_true]
  repeat (first | (with_reducible refine wpAny_loadPart_at he ?_) | (with_reducible refine wpAny_loadPart_at hC ?_) | (with_reducible refine wpAny_field he rfl h1 ?_) | (with_reducible refine wpAny_isSubtype_exc hC ?_;rw [hcB]) | wp_step)
  exact wpAny_raiseNew_none hh hE
end
end L2
namespace L2
open PySem PySem.Spec PyProof.Rows
noncomputable abbrev XS:=Value->Option Addr->St->Hp->Prop
def Nw (h:Heap)(e:Addr)(c:Value)(d:Option Addr):Prop:=∃ sl vs,h.get? e=some ⟨c,d,.fields vs,sl⟩/\vs[1]? = some .none
def Fl (X:Cx)(E:XS)(e:Value)(s':Shared):Prop:=∃ (ea:Addr) (c:Value) (d:Option Addr) (H':Hp) (pins:List (Addr×Obj)) (σ:St),e=.ref ea/\Inv X pins σ H' s'/\X.s₀.heap.objs.size<=ea/\H' ea=none/\(∀ q∈X.pn,q.1≠ea) /\
  (Nw s'.heap ea c d\/∃ T,Fly s'.heap ea T c d .none/\X.s₀.heap.objs.size<=T/\H' T=none/\∀ q∈X.pn,q.1≠T)/\E c d σ H'
def Thr (X:Cx)(E:XS):Prop:=∀ e s',Fl X E e s'->X.xe e s'
noncomputable def CXE (P:Program)(w:World):CXT:=fun outer H s E e s'=>∃ (ea T:Addr) (c:Value) (d:Option Addr) (H':Hp),e=.ref ea/\s.heap.objs.size<=ea/\s.heap.objs.size<=T/\Fly s'.heap ea T c d .none/\H' ea=none/\H' T=none /\
  s'.os=s.os/\AllBare s'.gens/\Un (frs outer) [] H H' s.heap s'.heap/\HOk P w H' s'.heap/\E c d H'
section
variable {X:Cx} {pins:List (Addr×Obj)} {σ:St} {H:Hp} {s s':Shared}
theorem Un.kp {fs fs' ch:List Addr}{H H':Hp}{h h1 h2:Heap}(u:Un fs [] H H' h h1)(k:Kp ch fs' h1 h2)(hc:∀ b∈ch,h.objs.size<=b)(hf:∀ b∈fs',b∈fs\/h.objs.size<=b):Un fs [] H H' h h2:=by
  have nc:∀ b o,h.get? b=some o->b∉ch:=fun b o q z=>absurd (Nat.lt_of_lt_of_le (Heap.lt_size q) (hc b z)) (Nat.lt_irrefl _)
  refine⟨fun b o q n hb _=>?_,fun b o q n hb _=>?_,u.free,fun b o q _=>?_,u.tups,u.frzs,u.tbls⟩
  · refine k.keep b o (nc b o q) (fun z=>?_) (u.keep b o q n hb (by simp))
    rcases hf b z with z | z
    · exact hb z
    · exact absurd (Nat.lt_of_lt_of_le (Heap.lt_size q) z) (Nat.lt_irrefl _)
  · obtain⟨sl,e1⟩:=u.slot b o q n hb (by simp)
    obtain⟨sl',e2⟩:=k.slot b _ (nc b o q) e1
    exact⟨sl',e2⟩
  · obtain⟨o',e1⟩:=u.there b o q (by simp)
    obtain⟨sl',e2⟩:=k.slot b _ (nc b o q) e1
    exact⟨_,e2⟩
theorem HOk.kp {P:Program}{w:World}{fs ch:List Addr}{h1 h2:Heap}(x:HOk P w H h1)(k:Kp ch fs h1 h2)(hc:∀ b∈ch,H b=none)(hf:∀ b∈fs,H b=none):HOk P w H h2:=fun a o q=>
  (x a o q).stay (fun b u hb z=>by
    have t:∃ v,H b=some v:=by
      rcases hb with rfl | hb
      · exact⟨o,q⟩
      · exact⟨_,hb⟩
    obtain⟨v,t⟩:=t
    exact k.keep b u (fun y=>by rw [hc b y] at t;cases t) (fun y=>by rw [hf b y] at t;cases t) z) (fun _ z=>z) fun _ _ z=>z
theorem Inv.frame (I:Inv X pins σ H s):X.stack=X.outer\/(X.A.frames=some (X.env::X.outer)/\s.heap.FunFrames X.base (X.env::X.outer)/\X.env.frame=some X.env.locals/\frs (X.env::X.outer)=X.env.locals::X.fs):=by
  rcases I.ok.stk with e | ⟨e,hf⟩
  · exact .inl e
  · refine .inr ⟨by rw [← e];exact I.ok.frames,by rw [← e];exact I.stack,hf,?_⟩
    unfold frs
    rw [List.filterMap_cons,hf]
    rfl
theorem thr_leave {P:Program}{w:World}{K:PySem.W.Frag}{mg:Str->Option Value}{base:Heap}{N:List Str}{qual:Str}{scope:Scope}{f:Addr}{cd:Value}{A:Around}{outer:List Env}{s:Shared}{H:Hp}{E:XK} :
    Thr (cxOf (CXE P w) P w K mg base N qual scope f cd A outer s H E) (fun c d _ H'=>E c d H'):=by
  intro e s' hF
  obtain⟨ea,c,d,H',pins,σ,rfl,I,hea,hHe,_,hv,hE⟩:=hF
  have hst:(cxOf (CXE P w) P w K mg base N qual scope f cd A outer s H E).stack=(cxOf (CXE P w) P w K mg base N qual scope f cd A outer s H E).env::outer:=rfl
  have hfr:=I.ok.frames
  have hl:=I.stack
  have hsub:=I.stkSub
  have hfree:=I.stkFree
  rw [hst] at hfr hl hsub hfree
  have fin:∀ (h':Heap) (T:Addr) (ch:List Addr),s'.heap.objs.size<=T->Fly h' ea T c d .none->Kp ch (frs ((cxOf (CXE P w) P w K mg base N qual scope f cd A outer s H E).env::outer)) s'.heap h'->(∀ b∈ch,s.heap.objs.size<=b/\H' b=none) ->
      CXE P w outer H s E (.ref ea) { s' with heap:=h' }:=fun h' T ch g1 g2 g3 g4=>by
    refine⟨ea,T,c,d,H',rfl,hea,Nat.le_trans I.sz g1,g2,hHe,I.hok.fresh g1,I.os,I.bare,?_,I.hok.kp g3 (fun b hb=>(g4 b hb).2) hfree,hE⟩
    refine Un.kp (fs:=frs outer) I.base g3 (fun b hb=>(g4 b hb).1) fun b hb=>?_
    rcases List.mem_cons.mp (hsub b hb) with z | z
    · rw [z];exact .inr I.ok.above
    · exact .inl z
  rcases hv with⟨sl,vs,he,h1⟩ | ⟨T0,hF,hT,hHT,_⟩
  · exact leave_first hfr hl rfl he h1 fun h' T g1 g2 g3=>fin h' T [ea] g1 g2 g3 fun b hb=>by
      obtain rfl:b=ea:=by simpa using hb
      exact⟨hea,hHe⟩
  · exact leave_next hfr hl rfl hF fun h' T g1 g2 g3=>fin h' T [T0,ea] g1 g2 g3 fun b hb=>by
      rcases List.mem_cons.mp hb with z | z
      · subst z;exact⟨hT,hHT⟩
      · obtain rfl:b=ea:=by simpa using z
        exact⟨hea,hHe⟩
end
structure OkX (P:Program)(w:World)(K:PySem.W.Frag)(mg:Str->Option Value)(base:Heap)(k:Nat)(x:Str)(ps:List Str)(sp:Sp):Prop where
  ex:∃ (f:Addr) (fd:FuncData),PySem.W.keepIn K (.ref f)=true/\Binds K fd ps []/\mg x=some (.ref f)/\FnOk P w K mg base (CXE P w) k f fd ps sp
section
variable {P:Program} {w:World} {K:PySem.W.Frag} {mg:Str->Option Value} {base:Heap}
theorem Df.okX {x:Str}{st:Stmt}{ps N:List Str}{k:Nat}{sp:Sp}(D:Df K mg x st ps)(Sc:FnScope N ps (defScope st))(len:∀ vs H Q E,sp vs H Q E->vs.length=ps.length)
    (hbody:∀ (f:Addr) (cdv:Value) (A:Around) (outer:List Env) (s:Shared) (H:Hp) (vs:List V) (Q:VK) (E:XK),Room k (A.deeper (envOfC x (defScope st) s.heap.objs.size f cdv))->sp vs H Q E ->
      ∃ t,PSs (cxOf (CXE P w) P w K mg base N x (defScope st) f cdv A outer s H E) (defBody st) t/\t { nx:=fun _ H'=>Q .non H',rt:=Q } (start N vs) H):OkX P w K mg base (k+1) x ps sp:=by
  obtain⟨f,fd,F,b,m⟩:=D.ex
  refine⟨f,fd,F.kp,b,m,?_⟩
  obtain⟨oc,od,kV,doc,pm,an,cdv,ct,osl,rfl,lk,hcd⟩:=F.ex
  exact fn_of lk hcd Sc len fun A outer s H vs Q E hr h=>hbody f cdv A outer s H vs Q E hr h
end
section
variable {X:Cx} {k j:Nat} {x:Str} {ps:List Str} {sp:Sp} {p pos:Pos} {e:Expr} {es:List Expr} {t:TA} {E:XS}
noncomputable def tCallX (sp:Sp)(E:XS)(t:TA):TE:=fun σ H Q=>t σ H fun vs H1=>sp vs H1 Q fun c d H'=>E c d σ H'
end
end L2
namespace L2
open PySem PySem.Spec PyProof.Rows PySem.W
noncomputable def ExN (C a:Addr):HO:=.ext fun h=>∃ (vs:Array Value) (sl:Array (Option Value)) (t:Addr),h.get? a=some ⟨.ref C,none,.fields vs,sl⟩/\vs[0]? = some (.ref t)/\vs[1]? = some .none
noncomputable def ExD (C d a:Addr):HO:=.ext fun h=>∃ (vs:Array Value) (sl:Array (Option Value)),h.get? a=some ⟨.ref C,some d,.fields vs,sl⟩/\vs[1]? = some .none
theorem upd_id {H:Hp}{a:Addr}{o:HO}(e:H a=some o):upd H a o=H:=by
  funext b
  unfold upd
  split
  · rename_i z;rw [z,e]
  · rfl
section
variable {P:Program} {w:World} {H:Hp} {h:Heap} {C d a:Addr}
theorem exn_ok {vs:Array Value}{sl:Array (Option Value)}{t:Addr}(e:h.get? a=some ⟨.ref C,none,.fields vs,sl⟩)(h0:vs[0]? = some (.ref t))(h1:vs[1]? = some .none):ObjOk P w H h a (ExN C a):=
  ⟨⟨vs,sl,t,e,h0,h1⟩,⟨_,e⟩,fun _ _ ⟨vs,sl,t,e,r⟩ k=>⟨vs,sl,t,k _ e,r⟩⟩
theorem exd_ok {vs:Array Value}{sl:Array (Option Value)}(e:h.get? a=some ⟨.ref C,some d,.fields vs,sl⟩)(h1:vs[1]? = some .none):ObjOk P w H h a (ExD C d a):=
  ⟨⟨vs,sl,e,h1⟩,⟨_,e⟩,fun _ _ ⟨vs,sl,e,r⟩ k=>⟨vs,sl,k _ e,r⟩⟩
end
section
variable {X:Cx} {C B:Addr} {b self name:Str} {e a1:Expr} {es:List Expr} {te:TE} {t:TA} {np p1 apos cpos pos pos':Pos} {i:Nat}
noncomputable def rInit (C:Addr):List V->Hp->VK->Prop:=fun xs H Q=>∃ a v,xs=[.ref a,v]/\H a=some (ExN C a)/\Q .non H
theorem call_init (c:XCl X.K C):CallR X (.builtin "ValueError.__init__") (rInit C):=by
  intro pins s σ H xs us Q I r h
  obtain⟨a,v,rfl,ea,q⟩:=h
  obtain⟨u1,u2,rfl,r1,r2⟩:=vals2 r
  obtain rfl:u1=Value.ref a:=r1
  obtain⟨⟨vs,sl,t,e,h0,h1⟩,_⟩:=I.hok a _ ea
  refine exc_init I.kIn c.sh e h0 (by show 1<=_;rw [sizeLine_eq];decide) fun h' k z=>⟨.non,H,?_,rfl,q⟩
  have I':=I.write (x:=a) (e:=a) (o:=ExN C a) (h':=h') (t':=s.toks) (by rw [ea];exact True.intro) (.inl rfl) k ⟨_,z⟩ (exn_ok (t:=s.heap.objs.size) z (by
    have:0<vs.size:=(Array.getElem?_eq_some_iff.mp h0).1
    simp [this]) (by simpa [Array.getElem?_setIfInBounds] using h1))
  rw [upd_id ea] at I'
  exact I'
noncomputable def upIn (K:Frag)(B:Addr):Bool:=specialIn K (.ref B) "__getattribute__" == some (some (.builtin "type.__getattribute__"))&&readsIn K B (.type "type")&&(match findCls K (.ref B) (.type "type") "__init__" with | some (.val v)=>v == .builtin "ValueError.__init__" | _=>false)
theorem pe_init {pl:Sem Bool}(hm:X.mg b=some (.ref B))(hu:upIn X.K B=true)(c:XCl X.K C)(ha:PA X (a1::es) t)(hg:Gl X b:=by rfl) (hd:(b == ("__debug__":Str))=false:=by decide)
    (hst:starEach (a1::es) X.env=(false,eval a1 X.env)::starEach es X.env:=by rfl) (hpl:(backTo cpos (starEach es X.env)).any (·.1)=false:=by rfl)
    (ht:eval (.Call (.Attribute (.Name b np) "__init__" apos) (a1::es) [] cpos) X.env=(do
      let ov ← eval (.Name b np) X.env
      standAt apos.atName
      let (f,first) ← holding [ov] (getMethod ov "__init__" pl)
      callWith cpos f first (backTo cpos (starEach (a1::es) X.env)) (backToKw cpos (keywordEach [] X.env))):=by rfl):PE X (.Call (.Attribute (.Name b np) "__init__" apos) (a1::es) [] cpos) (tCB (rInit C) t):=by
  intro pins s σ H Q I h
  simp only [upIn,Bool.and_eq_true,beq_iff_eq] at hu
  obtain⟨⟨u1,u2⟩,u3⟩:=hu
  split at u3
  · rename_i v hv
    obtain rfl:v=.builtin "ValueError.__init__":=beq_iff_eq.mp u3
    refine methodCall_KW (pl:=pl) (ld_glob I hg hm (method_cls I.kIn u1 (cls_value I.kIn u2 hv rfl ?_)) hd) ht
    exact callWith_builtin1 (thn (ha cpos pins _ σ H _ (I.tok _) h) fun us s1 ⟨vs,H1,I1,r1,q1⟩=>call_init c pins s1 σ H1 vs us Q I1 r1 q1) hst hpl
  · cases u3
noncomputable def tSet0 (K:Frag)(C:Addr)(ta tv:TE)(name:Str):TS:=fun D σ H=>tv σ H fun y H1=>ta σ H1 fun x H2=>∃ a,x=.ref a/\H2 a=some (ExN C a)/\∀ d,H2 d=none->d≠a->D.nx σ (upd (upd H2 a (ExD C d a)) d (.xd [(name,y)]))
theorem ps_set0 {o value:Expr}{ta tv:TE}(c:XCl X.K C)(hn:findIn X.K (.ref C) name=some none)(ha:PE X o ta)(hv:PE X value tv)(hs:swapsWith value (some (.Attribute o name pos')) pos.line X.env=pure false:=by rfl) :
    PS X (.Assign [.Attribute o name pos'] value pos) (tSet0 X.K C ta tv name):=by
  intro pins s σ H D I h
  refine plainObj_wpAny_Assign_Attribute (thn (hv pins s σ H _ I h) fun u s1 ⟨y,H1,I1,ry,q⟩=>thn (ha pins s1 σ H1 _ I1 q) fun ov s2 ⟨x,H2,I2,rx,a,ex,ea,q2⟩=>?_) hs
  subst ex
  obtain rfl:ov=Value.ref a:=rx
  obtain⟨⟨vs,sl,t,e,h0,h1⟩,_⟩:=I2.hok a _ ea
  refine exc_set0 I2.kIn e c.sh c.hd c.sa hn fun h' d tk g1 g2 g3 g4=>?_
  have hn:=I2.hok.fresh g1
  have nd:d≠a:=fun z=>by rw [z,ea] at hn;cases hn
  refine⟨σ,_,?_,q2 d hn nd⟩
  have u:Un X.fs [] H2 (upd (upd H2 a (ExD C d a)) d (.xd [(name,y)])) s2.heap h':=by
    have na:∀ b,H2 b=none->b≠a:=fun b z y=>by rw [y,ea] at z;cases z
    have nd':∀ b o,s2.heap.get? b=some o->b≠d:=fun b o z y=>absurd (Nat.lt_of_lt_of_le (Heap.lt_size z) (y ▸ g1)) (Nat.lt_irrefl _)
    have nx:∀ b o,H2 b=some o->b≠d:=fun b o z y=>by rw [y,hn] at z;cases z
    refine⟨fun b o z n _ _=>g4 b o (na b n) z,fun b o z n _ _=>⟨o.slots,g4 b o (na b n) z⟩,fun b o z n _=>by rw [upd_ne (nd' b o z),upd_ne (na b n)];exact n,fun b o z _=>?_,fun b xs z=>?_,fun b o u z=>?_,fun b ps z=>⟨#[],?_⟩⟩
    · by_cases hb:b=a
      · rw [hb];exact⟨_,g2⟩
      · exact⟨o,g4 b o hb z⟩
    all_goals
      have nb:b≠a:=fun y=>by rw [y,ea] at z;cases z
      rw [upd_ne (nx b _ z),upd_ne nb,z]
    simp
  refine I2.un u fun b o z=>?_
  by_cases hb:b=d
  · subst hb
    rw [upd_same] at z
    cases z
    refine⟨_,g3,fun f=>?_⟩
    by_cases hf:f=name
    · subst hf;simp only [if_pos];simpa [List.lookup,RelO] using ry
    · have:(f == name)=false:=beq_eq_false_iff_ne.mpr hf
      simp only [if_neg hf,List.lookup,this];trivial
  · rw [upd_ne hb] at z
    by_cases hb2:b=a
    · subst hb2
      rw [upd_same] at z
      cases z
      exact exd_ok g2 h1
    · rw [upd_ne hb2] at z
      have nown:∀ c y,H2 c=some (.own y)->c≠a:=fun c y r q=>by rw [q,ea] at r;cases r
      have ntup:∀ c y,H2 c=some (.tup y)->c≠a:=fun c y r q=>by rw [q,ea] at r;cases r
      have nx:∀ b o,H2 b=some o->b≠d:=fun b o z y=>by rw [y,hn] at z;cases z
      refine(I2.hok b o z).stay (fun c v hc q=>g4 c v ?_ q) (fun c q=>by rw [upd_ne (nx c _ q),upd_ne (nown c _ q)];exact q) fun c xs q=>by rw [upd_ne (nx c _ q),upd_ne (ntup c _ q)];exact q
      rcases hc with rfl | hc
      · exact hb2
      · exact nown c _ hc
noncomputable def tFs (te:TE):TE:=fun σ H Q=>te σ H fun v H1=>((∃ n:Int,v=.int n/\0<=n/\n<1000000)\/∃ z:Str,v=.str z/\z.length<=1000000)/\∀ y,Q (.str y) H1
theorem pe_fs {a:Str}{j:Nat}{q1 q2 q3:Pos}(he:PE X e te)(ha:a.length<=1000:=by decide +kernel):PE X (.JoinedStr [.Constant (.str a) j q1,.FormattedValue e (-1) none q2] q3) (tFs te):=by
  intro pins s σ H Q I h
  refine JoinedStr_many (joinParts_cons (Calls.Constant_str ⟨?_,?_⟩))
  · rw [strLen_append,sizeLine_eq]
    show 0+a.length<=_
    lia
  refine joinParts_cons (FormattedValue_plain (thn (he pins _ σ H _ (I.tok _) h) fun u s1 ⟨v,H1,I1,r,hv,q⟩=>?_))
  have fin:∀ (y:Str) (tk:Nat),y.length<=1000001->(Str.empty++a++y).length<=sizeLine/\wpAny (model X.prog X.w) X.A (joinParts (Str.empty++a++y) []) (EP X pins σ Q) X.xe { s1 with toks:=tk }:=fun y tk hy=>by
    have hz:(Str.empty++a++y).length<=sizeLine:=by
      rw [strLen_append,strLen_append,sizeLine_eq]
      show 0+a.length+y.length<=_
      lia
    exact⟨hz,joinParts_nil ⟨.str _,H1,I1.tok _,⟨_,rfl⟩,q _⟩ hz⟩
  rcases hv with⟨n,rfl,n0,n1⟩ | ⟨z,rfl,hz⟩
  · obtain⟨tk,rfl⟩:=r
    refine formatField_int_small (log_small n0 n1) (fin _ _ ?_)
    have e1:=int_text_length_le10 (a:=n) (k:=7) (by decide) (by lia)
    show(Str.ofString (toString n)).length<=_
    rw [PySem.ofString_length]
    lia
  · obtain⟨tk,rfl⟩:=r
    exact formatField_str (fun t' tk'=>fin _ _ (by lia)) (by rw [sizeLine_eq];lia)
end
end L2
namespace L2
open PySem PySem.Spec PyProof.Rows PySem.W
noncomputable def sp_init (C:Addr)(f:Str)(pay:V->Prop):Sp:=fun vs H Q _=>∃ a v,vs=[.ref a,v]/\H a=some (ExN C a)/\pay v/\∀ d,H d=none->d≠a->Q .non (upd (upd H a (ExD C d a)) d (.xd [(f,v)]))
def payT (v:V):Prop:=(∃ n:Int,v=.int n/\0<=n/\n<1000000)\/∃ z:Str,v=.str z/\z.length<=1000000
structure Err (P:Program)(w:World)(K:Frag)(mg:Str->Option Value)(base:Heap)(x:Str)(C:Addr)(f:Str)(pay:V->Prop):Prop where
  gl:mg x=some (.ref C)
  cl:XCl K C
  kp:keepIn K (.ref C)=true
  ex:∃ (fI:Addr) (fd:FuncData) (oI:Obj) (ps:List Str),xInit K C=some (some (.ref fI))/\K.lookup fI=some oI/\oI.cls=.type "function"/\Binds K fd ps []/\FnOk P w K mg base CX0 1 fI fd ps (sp_init C f pay)
theorem init_read {K:Frag}{C:Addr}{f p:Str}{a:Addr}{v:V}{H:Hp}{Q:VK}(ea:H a=some (ExN C a))(hp:payT v)(q:∀ d,H d=none->d≠a->Q .non (upd (upd H a (ExD C d a)) d (.xd [(f,v)]))) :
    tSeq (tDrop (tCB (rInit C) (tCons (tVar 0) (tCons (tFs (tVar 1)) tNil)))) (tSet0 K C (tVar 0) (tVar 1) f) { nx:=fun _ H'=>Q .non H',rt:=Q } (start ["self",p] [.ref a,v]) H:=
  ⟨.ref a,rfl,v,rfl,hp,fun y=>⟨a,.str y,rfl,ea,v,rfl,.ref a,rfl,a,rfl,ea,fun d h1 h2=>q d h1 h2⟩⟩
section
variable {X:Cx} {E:XS} {C:Addr} {x f:Str} {pay:V->Prop} {e:Expr} {es:List Expr} {t:TA} {np cpos pos:Pos} {j:Nat}
noncomputable def tRaise (C:Addr)(f:Str)(pay:V->Prop)(E:XS)(t:TA):TS:=fun _ σ H=>t σ H fun vs H1=>∃ v,vs=[v]/\pay v/\∀ d H2,Same H1 H2->H1 d=none->H2 d=some (.xd [(f,v)])->E (.ref C) (some d) σ H2
theorem ps_raise (hx:Thr X E)(R:Err X.prog X.w X.K X.mg X.base x C f pay)(hr:Room j X.A)(hj:2<=j)(ha:PA X (e::es) t)(hg:Gl X x:=by rfl) (hdb:(x == ("__debug__":Str))=false:=by decide)
    (he:starEach (e::es) X.env=(false,eval e X.env)::starEach es X.env:=by rfl) (hpl:(backTo cpos (starEach es X.env)).any (·.1)=false:=by rfl) :
    PS X (.Raise (some (.Call (.Name x np) (e::es) [] cpos)) none pos) (tRaise C f pay E t):=by
  intro pins s σ H D I h
  have c:=R.cl
  rw [arm_exec_Raise]
  refine wpAny_bind (wpAny_standAt (exc_raise (C:=C) (K:=X.K) hr.hd ?_))
  refine wpAny_bind (wpAny_mono (Q:=fun v s₁=>∃ x dd vs sl,v=.ref x/\X.K.In s₁.heap/\XCl X.K C/\s₁.heap.get? x=some ⟨.ref C,dd,.fields vs,sl⟩/\vs[1]? = some .none/\X.xe (.ref x) s₁) ?_ (fun v s₁ h₁=>wpAny_bind (wpAny_standAt (wpAny_pure h₁))) fun _ _ z=>z)
  refine wpAny_Call_Name_kw (ld_glob I hg R.gl ?_ hdb)
  refine callWith_K (h₀:=X.base) I.ok.mod.kin R.kp (thn (ha cpos pins s σ H _ I h) fun us s1 ⟨vs,H1,I1,r,v,hvs,hp,q⟩=>⟨I1.kIn,?_⟩) he hpl
  subst hvs
  obtain⟨u,rfl,rv⟩:=vals1 r
  obtain⟨fI,fd,oI,ps,i1,i2,i3,hb,F⟩:=R.ex
  refine exc_make I1.kIn c.sh i1 i2 i3 (by show 1<=_;rw [sizeLine_eq];decide) fun h' a g1 g2=>?_
  obtain⟨t0,z1,_,_⟩:=g2.there
  have n1:=I1.hok.fresh g1
  have I2:Inv X pins σ (upd H1 a (ExN C a)) { s1 with heap:=h' }:=I1.laid (t':=s1.toks) g2.keeps g1 (exn_ok (t:=t0) z1 rfl rfl)
  have hsp:sp_init C f pay [.ref a,v] (upd H1 a (ExN C a)) (fun w2 H2=>w2=.non/\∃ d,upd H1 a (ExN C a) d=none/\d≠a/\H2=upd (upd (upd H1 a (ExN C a)) a (ExD C d a)) d (.xd [(f,v)])) E0:=
    ⟨a,v,rfl,upd_same,hp,fun d q1 q2=>⟨rfl,d,q1,q2,rfl⟩⟩
  have r2:Vals [V.ref a,v] [Value.ref a,u]:=.cons rfl (.cons rv .nil)
  have hb':=hb { s1 with heap:=h' } [.ref a,u] I2.kIn (by rw [← F.len _ _ _ _ hsp];rfl)
  refine wpAny_call (codeAny_mono (F.run (X.A.under (.builtin "type.__call__" ⟨.ref C::[u],[]⟩)) X.stack { s1 with heap:=h' } _ ⟨[.ref a,u],[]⟩ _ _ _ _ ((hr.mono hj).make C [u] []) (I2.env0.make C [u] []) hb' (by simpa using r2) hsp) fun r s' hq=>?_)
  rcases r with er | fl
  · exact False.elim hq
  cases fl with
  | next=>exact False.elim hq
  | brk=>exact False.elim hq
  | cont=>exact False.elim hq
  | ret w2=>
    obtain⟨v2,H2,I3,rv2,rfl,d,q1,q2,rfl⟩:=I2.after hq
    refine⟨rv2,a,some d,?_⟩
    have hx1:ObjOk X.prog X.w (upd (upd (upd H1 a (ExN C a)) a (ExD C d a)) d (.xd [(f,v)])) s'.heap a (ExD C d a):=I3.hok a _ (by rw [upd_ne (Ne.symm q2),upd_same])
    obtain⟨⟨vs',sl',e1,e2⟩,_⟩:=hx1
    refine⟨vs',sl',rfl,I3.kIn,c,e1,e2,hx _ _ ?_⟩
    have np:∀ q∈X.pn,q.1≠a:=fun q hq y=>by
      have:=(I1.pin q (List.mem_append_left _ hq)).1
      exact absurd (Nat.lt_of_lt_of_le (Heap.lt_size this) (y ▸ g1)) (Nat.lt_irrefl _)
    have q1':H1 d=none:=by rw [upd_ne q2] at q1;exact q1
    have sa:Same H1 (fun b=>if b=a then none else upd (upd (upd H1 a (ExN C a)) a (ExD C d a)) d (.xd [(f,v)]) b):=fun b o hb=>by
      have ba:b≠a:=fun y=>by rw [y,n1] at hb;cases hb
      have bd:b≠d:=fun y=>by rw [y,q1'] at hb;cases hb
      simp only [if_neg ba]
      rw [upd_ne bd,upd_ne ba,upd_ne ba];exact hb
    refine⟨a,.ref C,some d,_,[],σ,rfl,?_,Nat.le_trans I1.sz g1,?_,np,.inl ⟨sl',vs',e1,e2⟩,q d _ sa q1' ?_⟩
    · have I4:Inv X [] σ (upd (upd (upd H1 a (ExN C a)) a (ExD C d a)) d (.xd [(f,v)])) s':=I3.pins_of fun p hp=>absurd hp (by simp)
      have key:∀ b o,(fun b=>if b=a then none else upd (upd (upd H1 a (ExN C a)) a (ExD C d a)) d (.xd [(f,v)]) b) b=some o->b≠a/\upd (upd (upd H1 a (ExN C a)) a (ExD C d a)) d (.xd [(f,v)]) b=some o:=fun b o z=>by
        by_cases hb:b=a
        · simp [hb] at z
        · simp only [if_neg hb] at z;exact⟨hb,z⟩
      have back:∀ b o,b≠a->upd (upd (upd H1 a (ExN C a)) a (ExD C d a)) d (.xd [(f,v)]) b=some o->(fun b=>if b=a then none else upd (upd (upd H1 a (ExN C a)) a (ExD C d a)) d (.xd [(f,v)]) b) b=some o:=fun b o hb z=>by
        simp only [if_neg hb];exact z
      have nex:∀ b o,upd (upd (upd H1 a (ExN C a)) a (ExD C d a)) d (.xd [(f,v)]) b=some o->(∀ φ,o≠.ext φ)->b≠a:=fun b o z no y=>by
        rw [y,upd_ne (Ne.symm q2),upd_same] at z
        cases z
        exact no _ rfl
      refine I4.step (h':=s'.heap) (g':=s'.gens) (t':=s'.toks) (d':=s'.drawn) (ch:=[]) (fun _ z=>absurd z (by simp)) (fun b o _ _ _ z _=>z) (fun b o _ _ _ z _=>⟨o.slots,z⟩) (fun b o _ _ z=>?_) (fun b o _ z=>⟨o,z⟩) (fun b xs z=>back b _ (nex b _ z fun _ y=>by cases y) z) (fun b o u z=>back b _ (nex b _ z fun _ y=>by cases y) z)
        (fun b ps z=>⟨#[],by rw [Array.append_empty];exact back b _ (nex b _ z fun _ y=>by cases y) z⟩) (fun m z=>z) (fun b o z=>?_) I4.bare
      · by_cases hb:b=a
        · simp [hb]
        · simp only [if_neg hb];exact z
      · obtain⟨hb,z⟩:=key b o z
        exact(I4.hok b o z).stay (fun _ _ _ y=>y) (fun c y=>back c _ (nex c _ y fun _ y=>by cases y) y) fun c xs y=>back c _ (nex c _ y fun _ y=>by cases y) y
    · simp
    · simp only [if_neg q2];rw [upd_same]
end
end L2
namespace L2
open PySem PySem.Spec PyProof.Rows PySem.W
section
variable {X:Cx} {pins:List (Addr×Obj)} {σ:St} {H:Hp} {s:Shared}
def Ours (X:Cx)(b:Addr):Prop:=X.s₀.heap.objs.size<=b/\b≠X.env.locals/\(∀ x c,X.env.cells.lookup x=some c->c≠b)/\∀ p∈X.pn,p.1≠b
theorem Inv.kp {h':Heap}{H':Hp}{ch:List Addr}(I:Inv X [] σ H s)(k:Kp ch (frs X.stack) s.heap h')(hc:∀ b∈ch,Ours X b/\H b=none)(hH:∀ b,b∉ch->H' b=H b)(hok:HOk X.prog X.w H' h'):Inv X [] σ H' { s with heap:=h' }:=by
  have nt:∀ b o,H b=some o->b∉ch:=fun b o z y=>by rw [(hc b y).2] at z;cases z
  refine I.step (h':=h') (g':=s.gens) (t':=s.toks) (d':=s.drawn) (ch:=ch) (fun b hb=>?_) (fun b o n1 n2 n3 z _=>?_) (fun b o n1 n2 n3 z _=>k.slot b o n3 z) (fun b o n3 z n=>by rw [hH b n3];exact n) (fun b o n3 z=>let ⟨sl,q⟩:=k.slot b o n3 z;⟨_,q⟩)
    (fun b xs z=>by rw [hH b (nt b _ z)];exact z) (fun b o u z=>by rw [hH b (nt b _ z)];exact z) (fun b ps z=>⟨#[],by rw [hH b (nt b _ z),Array.append_empty];exact z⟩) (fun m hm=>?_) hok I.bare
  · obtain⟨a1,a2,a3,a4⟩:=(hc b hb).1
    exact⟨.inr a1,a2,a3,fun p hp=>(List.mem_append.mp hp).elim (a4 p) fun z=>absurd z (by simp)⟩
  · exact k.keep b o n3 (fun y=>(List.mem_cons.mp (I.stkSub b y)).elim n1 n2) z
  · obtain⟨o,es,ep,ho,r⟩:=hm
    obtain⟨sl,q⟩:=k.slot _ o (fun z=>(hc _ z).1.2.1 rfl) ho
    exact⟨_,es,ep,q,r⟩
noncomputable abbrev Cx.tryIn (X:Cx)(pn:List (Addr×Obj))(xe:Value->Shared->Prop):Cx:={ X with pn:=pn,xe:=xe }
theorem Cx.Ok.tryIn (ok:X.Ok)(pn:List (Addr×Obj))(xe:Value->Shared->Prop):(X.tryIn pn xe).Ok:=
  ⟨ok.mod,ok.kind,ok.glob,ok.blt,ok.above,ok.inj,ok.has,ok.cab,ok.hd,ok.frames,ok.stk,ok.exf,ok.bs,ok.bsz,ok.noex,ok.exfs,ok.funs,ok.frf⟩
theorem Inv.tryIn (I:Inv X pins σ H s)(xe:Value->Shared->Prop):Inv (X.tryIn (X.pn++pins) xe) [] σ H s:=⟨I.ok.tryIn _ _,I.os,I.bare,I.base,I.loc,I.cell,I.free,I.freeC,fun p hp=>I.pin p (by simpa using hp),I.hok,I.len⟩
theorem Inv.untry {xe:Value->Shared->Prop}(ok:X.Ok)(I:Inv (X.tryIn (X.pn++pins) xe) [] σ H s):Inv X pins σ H s:=⟨ok,I.os,I.bare,I.base,I.loc,I.cell,I.free,I.freeC,fun p hp=>I.pin p (by simpa using hp),I.hok,I.len⟩
end
def Caught (H:Hp)(a C:Addr)(d:Option Addr):Prop:=∃ o,H a=some (.frz o (.own a))/\o.cls=.ref C/\o.dict=d/\∃ vs,o.data=.fields vs
noncomputable def tTry (K:Frag)(Dc:Addr)(i:Nat)(tb:XS->TS)(th:TS):TS:=fun D σ H=>
  tb (fun c d σ' H'=>∃ C,c=.ref C/\XCl K C/\mroIn K C (.ref Dc)=some true/\∀ ea H2,Same H' H2->Caught H2 ea C d->th { nx:=fun σ2 H2=>D.nx (σ2.map fun _=>none) H2,rt:=D.rt,bk:=fun σ2 H2=>D.bk (σ2.map fun _=>none) H2,ct:=fun σ2 H2=>D.ct (σ2.map fun _=>none) H2 } (σ'.set i (some (.ref ea))) H2) D σ H
section
variable {X:Cx} {Dc:Addr} {x n:Str} {i:Nat} {tb:XS->TS} {th:TS} {body suite:List Stmt} {b₀:Stmt} {np hpos pos:Pos}
end
end L2
namespace L2
open PySem PySem.Spec PyProof.Rows PySem.W
structure Got (K:Frag)(H:Hp)(a C:Addr)(fs:List (Str×V)):Prop where
  cl:XCl K C
  ex:∃ d,Caught H a C (some d)/\H d=some (.xd fs)
theorem Caught.mono {H H':Hp}{a C:Addr}{d:Option Addr}(c:Caught H a C d)(s:Same H H'):Caught H' a C d:=by
  obtain⟨o,e,r⟩:=c
  exact⟨o,s _ _ e,r⟩
theorem Got.mono {K:Frag}{H H':Hp}{a C:Addr}{fs:List (Str×V)}(g:Got K H a C fs)(s:Same H H'):Got K H' a C fs:=by
  obtain⟨d,c,e⟩:=g.ex
  exact⟨g.cl,d,c.mono s,s _ _ e⟩
section
variable {X:Cx} {pins:List (Addr×Obj)} {σ:St} {H:Hp} {s:Shared} {a C:Addr} {fs:List (Str×V)}
noncomputable def isC:V->Bool | .ref _=>true | .ty _=>true | _=>false
noncomputable def clsU:V->Value | .ref a=>.ref a | .ty n=>.type n | _=>.none
noncomputable def rIsX (K:Frag):List V->Hp->VK->Prop:=fun xs H Q=>∃ a c C fs b,xs=[.ref a,c]/\Got K H a C fs/\isC c=true/\kitOne K (.ref C) (clsU c)=some b/\Q (.bl b) H
noncomputable def rIsXT (K:Frag):List V->Hp->VK->Prop:=fun xs H Q=>∃ a p C fs ys b,xs=[.ref a,.ref p]/\H p=some (.tup ys)/\Got K H a C fs/\ys.all isC=true/\kitAny K (.ref C) (ys.map clsU)=some b/\Q (.bl b) H
noncomputable def tAtX (K:Frag)(te:TE)(f:Str):TE:=fun σ H Q=>te σ H fun x H1=>∃ a C fs v,x=.ref a/\Got K H1 a C fs/\findIn K (.ref C) f=some none/\fs.lookup f=some v/\Q v H1
end
section
variable {X:Cx}
noncomputable def rIsInt:List V->Hp->VK->Prop:=fun xs H Q=>(∃ i,xs=[.int i,.ty "int"]/\Q (.bl true) H)\/(∃ i,xs=[.bl i,.ty "int"]/\Q (.bl true) H)\/(∃ i,xs=[.str i,.ty "int"]/\Q (.bl false) H)\/(xs=[.non,.ty "int"]/\Q (.bl false) H)
noncomputable def rIsBool:List V->Hp->VK->Prop:=fun xs H Q=>(∃ i,xs=[.int i,.ty "bool"]/\Q (.bl false) H)\/(∃ i,xs=[.bl i,.ty "bool"]/\Q (.bl true) H)\/(∃ i,xs=[.str i,.ty "bool"]/\Q (.bl false) H)\/(xs=[.non,.ty "bool"]/\Q (.bl false) H)
noncomputable def rIsStr:List V->Hp->VK->Prop:=fun xs H Q=>(∃ i,xs=[.int i,.ty "str"]/\Q (.bl false) H)\/(∃ i,xs=[.bl i,.ty "str"]/\Q (.bl false) H)\/(∃ i,xs=[.str i,.ty "str"]/\Q (.bl true) H)\/(xs=[.non,.ty "str"]/\Q (.bl false) H)
end
end L2
namespace L2
open PySem PySem.Spec PyProof.Rows PySem.W
section
variable {X:Cx} {k j:Nat} {x:Str} {ps:List Str} {sp:Sp} {p pos:Pos} {e:Expr} {es:List Expr} {t:TA} {a:Addr}
theorem passN {P:Program}{w:World}:Passes (CXE P w) X E0:=fun _ _ _ _ _ _ _ h=>by
  obtain⟨_,_,_,_,_,_,_,_,_,_,_,_,_,_,_,z⟩:=h
  exact z.elim
theorem pe_callN (F:OkX X.prog X.w X.K X.mg X.base k x ps sp)(hr:Room j X.A)(hk:k<=j)(ha:PA X (e::es) t)(hg:Gl X x:=by rfl) (hdb:(x == ("__debug__":Str))=false:=by decide)
    (he:starEach (e::es) X.env=(false,eval e X.env)::starEach es X.env:=by rfl) (hpl:(backTo pos (starEach es X.env)).any (·.1)=false:=by rfl):PE X (.Call (.Name x p) (e::es) [] pos) (tCall sp [] E0 t):=by
  obtain⟨f,fd,kp,b,m,G⟩:=F.ex
  exact pe_call G (hr.mono hk) hg m kp b .nil passN ha hdb he hpl
theorem pe_cls (h:X.mg x=some (.ref a))(hg:Gl X x:=by rfl) (hd:(x == ("__debug__":Str))=false:=by decide):PE X (.Name x pos) (tC (.ref a)):=pe_glob hg h rfl hd
end
structure Ini (K:Frag)(C:Addr)(qual:Str)(st:Stmt)(ps:List Str):Prop where
  ex:∃ (fI:Addr) (fd:FuncData) (oI:Obj),xInit K C=some (some (.ref fI))/\K.lookup fI=some oI/\oI.cls=.type "function"/\Fun K "__init__" qual st fI fd/\Binds K fd ps []
theorem ini_mk {K:Frag}{C:Addr}{qual:Str}{st:Stmt}{ps:List Str}{f:Addr}{od an:Option Addr}{osl:Array (Option Value)}{kV doc pm cdv ct:Value}
    (b:∀ (kV doc pm:Value) (an:Option Addr) (cdv ct:Value) (us:List Value),us.length=ps.length->bindArgs (fnOf "__init__" qual (defArgs st) (defBody st) (defScope st) .none kV doc pm an cdv ct) ⟨us,[]⟩=pure (ps.zip us))
    (a:xInit K C=some (some (.ref f))) (l:K.lookup f=some ⟨.type "function",od,.func (fnOf "__init__" qual (defArgs st) (defBody st) (defScope st) .none kV doc pm an cdv ct),osl⟩)
    (c:codeIn K cdv qual=true) (k:keepIn K (.ref f)=true):Ini K C qual st ps:=
  ⟨f,_,_,a,l,rfl,fun_mk l c k,(fun_mk l c k).binds b⟩
end L2
namespace L2
open PySem PySem.Spec PySem.Calls PyProof.Rows PySem.W
section
variable {X:Cx}
noncomputable def rInsert:V->List V->Hp->VK->Prop:=fun x vs H Q=>∃ l xs i y,x=.ref l/\vs=[.int i,y]/\H l=some (.lst xs)/\0<=i/\i<=xs.length/\xs.length<sizeLine/\Q .non (upd H l (.lst (xs.take i.toNat++y::xs.drop i.toNat)))
noncomputable def eqS (xs ys:List V):Bool:=(List.range (min xs.length ys.length)).all (fun j=>eqV (xs.getD j .non) (ys.getD j .non))&&xs.length == ys.length
noncomputable def rEqS (K:PySem.W.Frag):R2:=fun x y H Q=>∃ a b xs ys,x=.ref a/\y=.ref b/\((SqL K H a xs/\SqL K H b ys)\/(SqT K H a xs/\SqT K H b ys))/\xs.all flatV=true/\ys.all flatV=true/\Q (.bl (eqS xs ys)) H
noncomputable def rNeS (K:PySem.W.Frag):R2:=fun x y H Q=>∃ a b xs ys,x=.ref a/\y=.ref b/\((SqL K H a xs/\SqL K H b ys)\/(SqT K H a xs/\SqT K H b ys))/\xs.all flatV=true/\ys.all flatV=true/\Q (.bl (!eqS xs ys)) H
theorem eqs_at {A:Around}{s:Shared}{xs ys:List V}{us vs:List Value}(r1:Vals xs us)(r2:Vals ys vs)(f1:xs.all flatV=true)(f2:ys.all flatV=true) :
    ∀ j (h1:j<us.toArray.size) (h2:j<vs.toArray.size),SeqAt.EqAt A s us.toArray[j] vs.toArray[j] (eqV (xs.getD j .non) (ys.getD j .non)):=by
  intro j h1 h2
  rw [List.size_toArray] at h1 h2
  have l1:=r1.length
  have l2:=r2.length
  have e1:xs[j]? = some xs[j]:=List.getElem?_eq_getElem (by lia)
  have e2:ys[j]? = some ys[j]:=List.getElem?_eq_getElem (by lia)
  obtain⟨u,hu,ru⟩:=r1.get e1
  obtain⟨v,hv,rv⟩:=r2.get e2
  rw [List.getElem?_eq_getElem h1] at hu
  rw [List.getElem?_eq_getElem h2] at hv
  rw [List.getElem_toArray,List.getElem_toArray,Option.some.inj hu,Option.some.inj hv,List.getD_eq_getElem?_getD,List.getD_eq_getElem?_getD,e1,e2]
  exact eqAt_V ru rv (List.all_eq_true.mp f1 _ (List.getElem_mem _)) (List.all_eq_true.mp f2 _ (List.getElem_mem _))
theorem op_eqS (hu:X.A.units<cLine):OpR X (compareOp .Eq) (rEqS X.K):=by
  intro pins s σ H x y v u Q I rx ry h
  obtain⟨a,b,xs,ys,rfl,rfl,hq,f1,f2,q⟩:=h
  cases rx
  cases ry
  rcases hq with⟨ha,hb⟩ | ⟨ha,hb⟩
  · obtain⟨its,r1,p1,_⟩:=I.list ha
    obtain⟨its2,r2,p2,_⟩:=I.list hb
    have l1:=r1.length
    have l2:=r2.length
    by_cases hl:xs.length=ys.length
    · refine SeqAt.eq_listAt p1.isList p2.isList (by simp;lia) hu (eqs_at r1 r2 f1 f2) ⟨.bl _,H,I,rfl,?_⟩
      have:eqS xs ys=(List.range its.toArray.size).all (fun j=>eqV (xs.getD j .non) (ys.getD j .non)):=by
        unfold eqS
        rw [List.size_toArray,← l1,hl,Nat.min_self]
        simp
      rw [← this]
      exact q
    · refine SeqAt.eq_list_lengthsAt p1.isList p2.isList (by simp;lia) hu ⟨.bl _,H,I,rfl,?_⟩
      have:eqS xs ys=false:=by
        unfold eqS
        rw [show(xs.length == ys.length)=false by simp [hl],Bool.and_false]
      rw [← this]
      exact q
  · obtain⟨its,r1,p1,_⟩:=I.tuple ha
    obtain⟨its2,r2,p2,_⟩:=I.tuple hb
    have l1:=r1.length
    have l2:=r2.length
    refine SeqAt.eq_tupleAt p1 p2 hu (eqs_at r1 r2 f1 f2) ⟨.bl _,H,I,rfl,?_⟩
    rw [List.size_toArray,List.size_toArray,← l1,← l2]
    exact q
theorem op_eqSK {K:Frag}(hK:X.K=K)(hu:X.A.units<cLine):OpR X (compareOp .Eq) (rEqS K):=by subst hK;exact op_eqS hu
theorem hu_lt {A:Around}{k:Nat}(hr:Room k A):A.units<cLine:=Nat.lt_of_succ_lt (hu_of hr)
end
end L2
namespace L2
open PySem PySem.W
end L2
namespace L2
open PySem PySem.Spec PySem.Calls PyProof.Rows PySem.W
section
variable {X:Cx} {pins:List (Addr×Obj)} {σ:St} {H:Hp} {s:Shared} {h':Heap}
theorem Inv.turned2 {t':Nat}{e it:Addr}(I:Inv X pins σ H s)(k:∀ b o,b≠e->b≠it->s.heap.get? b=some o->h'.get? b=some o)(fe:FpOk X pins H e)(fi:FpOk X pins H it) :
    Inv X pins σ H { s with heap:=h',toks:=t' }:=by
  obtain⟨e0,e1,_,e3,e4,e5⟩:=fe
  obtain⟨i0,i1,_,i3,i4,i5⟩:=fi
  have hk:∀ b o,b∉[e,it]->s.heap.get? b=some o->h'.get? b=some o:=fun b o hb q=>k b o (fun z=>hb (by simp [z])) (fun z=>hb (by simp [z])) q
  have nn:∀ b u,H b=some u->b∉[e,it]:=fun b u q z=>by
    rcases List.mem_cons.mp z with z | z
    · rw [z,e0] at q;cases q
    · rw [List.mem_singleton.mp z,i0] at q;cases q
  refine I.step (g':=s.gens) (d':=s.drawn) (ch:=[e,it]) ?_ (fun b o _ _ hc q _=>hk b o hc q) (fun b o _ _ hc q _=>⟨o.slots,hk b o hc q⟩) (fun _ _ _ _ n=>n) (fun b o hc q=>⟨o,hk b o hc q⟩)
    (fun _ _ q=>q) (fun _ _ _ q=>q) (fun b ps q=>⟨#[],by rw [q];simp⟩) ?_ ?_ I.bare
  · intro b hb
    rcases List.mem_cons.mp hb with z | z
    · rw [z];exact⟨e3,e1,e4,e5⟩
    · rw [List.mem_singleton.mp z];exact⟨i3,i1,i4,i5⟩
  · intro m hm
    obtain⟨o,es,ep,ho,r⟩:=hm
    exact⟨o,es,ep,k _ o (Ne.symm e1) (Ne.symm i1) ho,r⟩
  · intro b u q
    refine(I.hok b u q).stay (fun c v hc z=>hk c v ?_ z) (fun _ z=>z) fun _ _ z=>z
    rcases hc with z' | z'
    · rw [z'];exact nn b u q
    · exact nn c _ z'
end
noncomputable def Ite (go:Nat->Hp->Prop)(yv:Nat->Hp->V->Prop)(stop:Nat->Hp->Prop):It:=⟨go,fun i H x H'=>∃ p v,H p=none/\yv i H v/\x=.ref p/\H' = upd H p (.tup [.int i,v]),stop⟩
theorem turn_enum {P:Program}{w:World}{K:PySem.W.Frag}{elts:List Expr}{ek:Nat}{epos:Pos}{e it:Addr}{go:Nat->Hp->Prop}{yv:Nat->Hp->V->Prop}{stop:Nat->Hp->Prop}{tn:Nat->Heap->Prop}(hne:e≠it)
    (hobj:∀ i h,tn i h->∃ o,h.get? it=some o/\∀ v,o.data≠.cell v)
    (hkeep:∀ i h h',tn i h->(∀ o,h.get? it=some o->h'.get? it=some o)->tn i h')
    (hitem:∀ (X:Cx),X.prog=P->X.w=w->X.K=K->X.calm=true->∀ (i:Nat) (pins:List (Addr×Obj)) (s:Shared) (σ:St) (H:Hp),Inv X pins σ H s->tn i s.heap->go i H->(∃ old,IsEnum s.heap e it i old) ->
      ∃ fp n Pd St,Draws P w X.A.in1 it fp n Pd St/\St i s.heap/\i<n/\e∉fp/\(∀ h,St (i+1) h->tn (i+1) h)/\∀ x,Pd i x->∃ v,RelV v x/\yv i H v)
    (hdone:∀ (X:Cx),X.prog=P->X.w=w->X.K=K->X.calm=true->∀ (i:Nat) (pins:List (Addr×Obj)) (s:Shared) (σ:St) (H:Hp),Inv X pins σ H s->tn i s.heap->stop i H ->
      ∃ fp n Pd St,Draws P w X.A.in1 it fp n Pd St/\St n s.heap) :
    Turn P w K (.Tuple elts ek epos) (Ite go yv stop) [e,it] e (fun i h=>(∃ old,IsEnum h e it i old)/\tn i h) where
  mem:=by simp
  obj:=fun i h st b hb=>by
    rcases List.mem_cons.mp hb with z | z
    · obtain⟨⟨old,q⟩,_⟩:=st
      rw [z]
      exact⟨_,q,fun v z=>nomatch z⟩
    · rw [List.mem_singleton.mp z]
      exact hobj i h st.2
  keep:=fun i h h' st k=>by
    obtain⟨⟨old,q⟩,st⟩:=st
    exact⟨⟨old,k e (by simp) _ q⟩,hkeep i h h' st (k it (by simp))⟩
  item:=by
    intro X hP hw hK hc i pins s σ H E I hf st hg
    obtain⟨⟨old,q⟩,st⟩:=st
    obtain⟨fp,n,Pd,St,D,hs,hlt,hef,hst,hv⟩:=hitem X hP hw hK hc i pins s σ H I st hg ⟨old,q⟩
    refine wpAny_pyNext_enum_itemD D q hs hlt hne hef fun x h1 tk hx ho hs1 hT hsz hk=>⟨_,rfl,?_⟩
    obtain⟨v,rv,yv'⟩:=hv x hx
    have helt:e<s.heap.objs.size:=Heap.lt_size q
    refine wpAny_letOwnedTupleGo_enum ho fun h2 he2 hs2=>?_
    have hTe:s.heap.objs.size≠e:=Nat.ne_of_gt helt
    have hT2:h2.get? s.heap.objs.size=some { cls:=.type "tuple",data:=.seq #[.int i tk,x] }:=(hs2.2 _ hTe).trans hT
    have fe:=hf e (by simp)
    have fi:=hf it (by simp)
    have fresh:H s.heap.objs.size=none:=I.hok.fresh (Nat.le_refl _)
    have hit:s.heap.objs.size≠it:=by
      obtain⟨o,z⟩:=D.live _ _ hs
      exact Nat.ne_of_gt (Heap.lt_size z)
    have I0:=I.laid (t':=s.toks) (a:=s.heap.objs.size) (o:=.tup [.int i,v]) (h':=s.heap.push { cls:=.type "tuple",data:=.seq #[.int i tk,x] }) (fun b o z=>Heap.get?_push_of_some _ z) (Nat.le_refl _) (by
      refine⟨by show 2<=sizeLine;decide,[.int i tk,x],.cons ⟨tk,rfl⟩ (.cons rv .nil),?_⟩
      exact⟨_,Heap.get?_push_size _ rfl,rfl,_,rfl⟩)
    have fe0:FpOk X pins (upd H s.heap.objs.size (.tup [.int i,v])) e:=⟨by rw [upd_ne (Ne.symm hTe)];exact fe.1,fe.2⟩
    have fi0:FpOk X pins (upd H s.heap.objs.size (.tup [.int i,v])) it:=⟨by rw [upd_ne (Ne.symm hit)];exact fi.1,fi.2⟩
    have I2:=I0.turned2 (h':=h2) (t':=tk+1) (e:=e) (it:=it) (fun b o hbe hbi z=>by
      by_cases hb:b=s.heap.objs.size
      · rw [hb] at z ⊢
        have z':some ({ cls:=.type "tuple",data:=.seq #[.int i tk,x] }:Obj)=some o:=(Heap.get?_push_size _ rfl).symm.trans z
        rw [hT2];exact z'
      · have z':s.heap.get? b=some o:=by
          have z2:=z
          rw [Heap.get?_push_ne _ _ _ hb] at z2
          exact z2
        exact(hs2.2 b hbe).trans (hk b o hbe hbi z')) fe0 fi0
    refine⟨.ref s.heap.objs.size,upd H s.heap.objs.size (.tup [.int i,v]),I2,rfl,⟨_,v,fresh,yv',rfl,rfl⟩,⟨⟨_,he2⟩,?_⟩,fun b hb=>?_⟩
    · refine hkeep _ _ _ (hst h1 hs1) fun o z=>(hs2.2 it (Ne.symm hne)).trans z
    · rcases List.mem_cons.mp hb with z | z
      · rw [z];exact fe0.1
      · rw [List.mem_singleton.mp z];exact fi0.1
  done:=by
    intro X hP hw hK hc i pins s σ H E I hf st hg
    obtain⟨⟨old,q⟩,st⟩:=st
    obtain⟨fp,n,Pd,St,D,hs⟩:=hdone X hP hw hK hc i pins s σ H I st hg
    have fi:=hf it (by simp)
    refine wpAny_pyNext_enum_endD D q hs fun h1 hx=>⟨rfl,I.turned (t':=s.toks) (fun b o hb z=>hx b o hb z) fi.1 fi.2.1 fi.2.2.2.1 fi.2.2.2.2.1 fi.2.2.2.2.2⟩
  self:=fun A i s Q E st h=>by
    obtain⟨⟨old,q⟩,_⟩:=st
    exact wpAny_pyIter_enum q h
section
variable {X:Cx}
noncomputable def goS (x:Str):Nat->Hp->Prop:=fun i _=>i<x.cps.size
noncomputable def yvS (x:Str):Nat->Hp->V->Prop:=fun i _ v=>∃ c,x.cps[i]? = some c/\v=.str ⟨#[c]⟩
noncomputable def stS (x:Str):Nat->Hp->Prop:=fun i _=>x.cps.size<=i
theorem turn_enumS {P:Program}{w:World}{K:PySem.W.Frag}{elts:List Expr}{ek:Nat}{epos:Pos}{e it:Addr}(hne:e≠it)(x:Str)(t:Tok) :
    Turn P w K (.Tuple elts ek epos) (Ite (goS x) (yvS x) (stS x)) [e,it] e (fun i h=>(∃ old,IsEnum h e it i old)/\(h.IsStrIter it (strIterType x) x t i/\i<=x.cps.size)):=by
  have dr:∀ A:Around,A.handled=none->Draws P w A it [it] x.cps.size (fun i v=>∃ c u,x.cps[i]? = some c/\v=.str ⟨#[c]⟩ u) (fun i h=>h.IsStrIter it (strIterType x) x t i):=fun A hA=>by
    unfold strIterType
    cases ha:x.cps.all (· < 128)
    · exact Draws.strWide hA it x t
    · exact Draws.strAscii hA it x t
  refine turn_enum hne ?_ ?_ ?_ ?_
  · intro i h st
    obtain⟨o,ho,_,hd⟩:=st.1
    exact⟨o,ho,fun v z=>by rw [hd] at z;cases z⟩
  · intro i h h' st k
    obtain⟨⟨o,ho,r⟩,hl⟩:=st
    exact⟨⟨o,k o ho,r⟩,hl⟩
  · intro X hP hw hK hc i pins s σ H I st hg he
    refine⟨[it],_,_,_,dr X.A.in1 (I.ok.hd hc),st.1,hg,by simp [hne],fun h z=>⟨z,hg⟩,fun v hv=>?_⟩
    obtain⟨c,u,hcu,rfl⟩:=hv
    exact⟨.str ⟨#[c]⟩,⟨u,rfl⟩,c,hcu,rfl⟩
  · intro X hP hw hK hc i pins s σ H I st hg
    have hi:i=x.cps.size:=Nat.le_antisymm st.2 hg
    subst hi
    exact⟨[it],_,_,_,dr X.A.in1 (I.ok.hd hc),st.1⟩
noncomputable def iEnumS (ta:TA):TI:=fun σ H R=>ta σ H fun vs H1=>∃ z,vs=[.str z]/\R (Ite (goS z) (yvS z) (stS z)) H1
theorem pi_enumS {a:Expr}{ta:TA}{p pos:Pos}{elts:List Expr}{ek:Nat}{epos:Pos}(hg:Gl X "enumerate")(hm:X.mg "enumerate" = none)(ha:PA X [a] ta)(hs:starEach [a] X.env=[(false,eval a X.env)]:=by rfl) :
    PI X (.Tuple elts ek epos) (.Call (.Name "enumerate" p) [a] [] pos) (iEnumS ta):=by
  intro pins s σ H R I h
  refine Call_ (ld_blt I hg hm boot_enumerate (PyProof.Rows.callWith_type1 (thn (ha pos pins s σ H _ I h) fun us s1 ⟨vs,H1,I1,r1,q1⟩=>?_) hs rfl))
  obtain⟨z,e,q⟩:=q1
  subst e
  obtain⟨u,rfl,t,rfl⟩:=r1.one
  refine call_enumerate_str fun h' he hit hsz hk=>wpAny_pyIter_enum he ?_
  have hlt:s1.heap.objs.size<=s1.heap.objs.size+1:=Nat.le_succ _
  refine⟨s1.heap.objs.size+1,[s1.heap.objs.size+1,s1.heap.objs.size],_,_,H1,rfl,I1.kept (t':=s1.toks) hk,turn_enumS (Nat.succ_ne_self _) z t,⟨⟨_,he⟩,hit,Nat.zero_le _⟩,fun b hb=>?_,q⟩
  have hb':s1.heap.objs.size<=b:=by
    rcases List.mem_cons.mp hb with z | z
    · rw [z];exact hlt
    · rw [List.mem_singleton.mp z];exact Nat.le_refl _
  exact I1.fpOk hb' (I1.hok.fresh hb')
theorem fb_enumS {K:PySem.W.Frag}{l:List Nat}{a b:Nat}{tb:TS}{D:Ends}{σ:St}{H:Hp}(Pv:Nat->St->Hp->Prop)(h0:Pv 0 σ H)
    (hs:∀ i c σ H,l[i]? = some c->Pv i σ H->∀ p,H p=none->tb { D with nx:=Pv (i+1),ct:=Pv (i+1),bk:=D.nx } ((σ.set a (some (.int i))).set b (some (.str (S [c])))) (upd H p (.tup [.int i,.str (S [c])])))
    (hd:∀ σ H,Pv l.length σ H->D.nx σ H):forBody (Ite (goS (S l)) (yvS (S l)) (stS (S l))) (gTup K 2 (gCons (gName a) (gCons (gName b) gNil))) tb D σ H:=by
  refine⟨fun i m σ H=>m=l.length - i/\i<=l.length/\Pv i σ H,⟨l.length,by simp,Nat.zero_le _,h0⟩,?_⟩
  rintro i m σ H ⟨rfl,hi,p⟩
  by_cases hlt:i<l.length
  · refine .inr ⟨by show i<(S l).cps.size;rw [S_size];exact hlt,Pv (i+1),fun σ' H' p'=>⟨l.length - (i+1),by lia,rfl,hlt,p'⟩,fun x H' y=>?_⟩
    obtain⟨q,v,hq,⟨c,hc,rfl⟩,rfl,rfl⟩:=y
    rw [S_get] at hc
    exact⟨q,_,rfl,SqT.of upd_same,rfl,_,_,rfl,_,_,rfl,rfl,hs i c σ H hc p q hq⟩
  · have e:i=l.length:=by lia
    subst e
    exact .inl ⟨by show(S l).cps.size<=l.length;rw [S_size];exact Nat.le_refl _,hd σ H p⟩
end
end L2
namespace L2
open PySem PySem.Spec PySem.Calls PyProof.Rows PySem.W
structure RoomH (k:Nat)(A:Around):Prop where
  dp:A.depth+3 * k+5<recursionLimit
  un:A.units+16 * k+200<cLine
theorem RoomH.mono {j k:Nat}{A:Around}(r:RoomH k A)(h:j<=k):RoomH j A:=⟨by have:=r.dp;lia,by have:=r.un;lia⟩
theorem RoomH.deeper {k:Nat}{A:Around}(r:RoomH (k+1) A)(env:Env):RoomH k (A.deeper env):=
  ⟨by have:=r.dp;show A.depth+1+3 * k+5<_;lia,by have:=r.un;show A.units+3+16 * k+200<_;lia⟩
noncomputable abbrev Cx.hot (X:Cx):Cx:={ X with calm:=false }
section
variable {P:Program} {w:World} {K:PySem.W.Frag} {mg:Str->Option Value} {base:Heap}
end
section
variable {X:Cx} {k j:Nat} {x:Str} {ps:List Str} {sp:Sp} {p pos:Pos} {e:Expr} {es:List Expr} {t:TA}
end
end L2
namespace L2
open PySem PySem.Spec PyProof.Rows
def lcBody2 (K:PySem.W.Frag)(J:It)(tt:TT)(te:TE)(σ:St)(H1:Hp)(Q:VK):Prop:=∀ D,H1 D=none->∃ W:Nat->Nat->List V->Hp->Prop,(∃ m,W 0 m [] (upd H1 D (.lst [])))/\∀ i m ys H',W i m ys H'->H' D=some (.lst ys) /\
  ((J.stop i H'/\Q (.ref D) H')\/(J.go i H'/\∀ v H2,J.yld i H' v H2->∃ pa u1 u2,v=.ref pa/\SqT K H2 pa [u1,u2]/\tt (some u1::some u2::σ) H2 fun b H3=>
    if b=true then te (some u1::some u2::σ) H3 fun y H4=>H4 D=some (.lst ys)/\ys.length<sizeLine/\∃ m',m' < m/\W (i+1) m' (ys++[y]) (upd H4 D (.lst (ys++[y]))) else ∃ m',m' < m/\W (i+1) m' ys H3))
noncomputable def tLC2 (K:PySem.W.Frag)(wi:TI)(tt:TT)(te:TE):TE:=fun σ H Q=>wi σ H fun J H1=>lcBody2 K J tt te σ H1 Q
section
variable {X:Cx} {elt iter:Expr} {x x2:Str} {px py pt pos:Pos} {kt:Nat} {ifs:List Expr} {scope:Scope} {wi:TI} {tt:TT} {te:TE}
end
end L2
namespace L2
open PySem PySem.Spec PySem.Calls PyProof.Rows PySem.W
noncomputable def goL (K:Frag)(l:Addr):Nat->Hp->Prop:=fun i H=>∃ xs x,SqL K H l xs/\xs[i]? = some x
noncomputable def yvL (K:Frag)(l:Addr):Nat->Hp->V->Prop:=fun i H v=>∀ xs,SqL K H l xs->xs[i]? = some v
noncomputable def stL0 (K:Frag)(l:Addr):Nat->Hp->Prop:=fun i H=>∃ xs,SqL K H l xs/\xs.length=i
section
variable {X:Cx}
noncomputable def iEnumL (K:Frag)(ta:TA):TI:=fun σ H R=>ta σ H fun vs H1=>∃ l xs,vs=[.ref l]/\SqL K H1 l xs/\R (Ite (goL K l) (yvL K l) (stL0 K l)) H1
end
def Pairs (H:Hp)(a:Addr)(ps:List (List Nat×List Nat)):Prop:=∃ as:List Addr,H a=some (.lst (as.map V.ref))/\as.length=ps.length/\∀ (i:Nat) p,ps[i]? = some p->∃ b,as[i]? = some b/\H b=some (.tup [.str (S p.1),.str (S p.2)])
theorem Pairs.mono {H H':Hp}{a:Addr}{ps:List (List Nat×List Nat)}(h:Pairs H a ps)(g:Same H H'):Pairs H' a ps:=by
  obtain⟨as,h1,h2,h3⟩:=h
  refine⟨as,g _ _ h1,h2,fun i p e=>?_⟩
  obtain⟨b,h4,h5⟩:=h3 i p e
  exact⟨b,h4,g _ _ h5⟩
theorem tLC2_eq (K:Frag)(wi:TI)(tt:TT)(te:TE):tLC2 K wi tt te=fun σ H Q=>wi σ H fun J H1=>lcBody2 K J tt te σ H1 Q:=rfl
end L2
namespace L2
open PySem PySem.Spec PySem.Calls PyProof.Rows PySem.W
theorem bb_list:bootBuiltins "list" = some (.type "list"):=by decide +kernel
section
variable {X:Cx}
noncomputable def rListS:List V->Hp->VK->Prop:=fun xs H Q=>∃ l,xs=[.str (S l)]/\l.length<=1000000/\∀ p,H p=none->Q (.ref p) (upd H p (.lst (l.map fun c=>.str (S [c]))))
def NoT (K:Frag)(H:Hp)(x:V):Prop:=x=.non\/(∃ b,x=.bl b)\/(∃ i,x=.int i)\/(∃ a xs,x=.ref a/\H a=some (.lst xs))\/(∃ a xs,x=.ref a/\H a=some (.tup xs))\/∃ a kvs,x=.ref a/\H a=some (.dK kvs)
theorem NoT.mono {K:Frag}{H H':Hp}{x:V}(h:NoT K H x)(g:Same H H'):NoT K H' x:=by
  rcases h with h | h | h | ⟨a,xs,h,e⟩ | ⟨a,xs,h,e⟩ | ⟨a,xs,h,e⟩
  · exact .inl h
  · exact .inr (.inl h)
  · exact .inr (.inr (.inl h))
  · exact .inr (.inr (.inr (.inl ⟨a,xs,h,g _ _ e⟩)))
  · exact .inr (.inr (.inr (.inr (.inl ⟨a,xs,h,g _ _ e⟩))))
  · exact .inr (.inr (.inr (.inr (.inr ⟨a,xs,h,g _ _ e⟩))))
noncomputable def rIsStrA (K:Frag):List V->Hp->VK->Prop:=fun xs H Q=>∃ x,xs=[x,.ty "str"]/\((∃ i,x=.str i/\Q (.bl true) H)\/(NoT K H x/\Q (.bl false) H))
theorem call_isstrA:CallR X (.builtin "isinstance") (rIsStrA X.K):=by
  intro pins s σ H xs us Q I r h
  obtain⟨x,rfl,h⟩:=h
  rcases h with⟨i,rfl,q⟩ | ⟨h,q⟩
  · exact call_isinst pins s σ H _ us Q I r ⟨_,_,_,_,rfl,.str i,rfl,q⟩
  · rcases h with rfl | ⟨i,rfl⟩ | ⟨i,rfl⟩ | ⟨a,xs,rfl,e⟩ | ⟨a,xs,rfl,e⟩ | ⟨a,xs,rfl,e⟩
    · exact call_isinst pins s σ H _ us Q I r ⟨_,_,_,_,rfl,.non,rfl,q⟩
    · exact call_isinst pins s σ H _ us Q I r ⟨_,_,_,_,rfl,.bl i,rfl,q⟩
    · exact call_isinst pins s σ H _ us Q I r ⟨_,_,_,_,rfl,.int i,rfl,q⟩
    · exact call_isinst pins s σ H _ us Q I r ⟨_,_,_,_,rfl,.lst e,rfl,q⟩
    · exact call_isinst pins s σ H _ us Q I r ⟨_,_,_,_,rfl,.tup e,rfl,q⟩
    · exact call_isinst pins s σ H _ us Q I r ⟨_,_,_,_,rfl,.dK e,rfl,q⟩
theorem call_isstrAK {K:Frag}(hK:X.K=K):CallR X (.builtin "isinstance") (rIsStrA K):=by subst hK;exact call_isstrA
theorem op_inQK {K:Frag}(hK:X.K=K):OpR X (compareOp .In) (rIn K false):=by subst hK;exact op_in_seq
theorem op_notinQK {K:Frag}(hK:X.K=K):OpR X (compareOp .NotIn) (rIn K true):=by subst hK;exact op_notIn_seq
noncomputable def tD0:TE:=fun _ H Q=>∀ p,H p=none->Q (.ref p) (upd H p (.dK []))
end
end L2
namespace L2
open PySem PySem.Spec PySem.Calls PyProof.Rows PySem.W
inductive Dat where
  | fl (v:V)
  | tp (xs:List Dat)
  | ls (xs:List Dat)
mutual
noncomputable def IsDt (H:Hp):Dat->V->Prop
  | .fl x,v=>v=x/\flatV x=true
  | .tp ds,v=>∃ a vs,v=.ref a/\H a=some (.tup vs)/\IsDs H ds vs
  | .ls ds,v=>∃ a vs,v=.ref a/\H a=some (.lst vs)/\IsDs H ds vs
noncomputable def IsDs (H:Hp):List Dat->List V->Prop
  | [],vs=>vs=[]
  | d::ds,vs=>∃ v r,vs=v::r/\IsDt H d v/\IsDs H ds r
end
mutual
noncomputable def eqD:Dat->Dat->Bool
  | .fl x,.fl y=>eqV x y
  | .tp xs,.tp ys=>eqDs xs ys
  | .ls xs,.ls ys=>eqDs xs ys
  | .fl _,.tp _=>false
  | .fl _,.ls _=>false
  | .tp _,.fl _=>false
  | .tp _,.ls _=>false
  | .ls _,.fl _=>false
  | .ls _,.tp _=>false
noncomputable def eqDs:List Dat->List Dat->Bool
  | [],[]=>true
  | x::xs,y::ys=>eqD x y&&eqDs xs ys
  | [],_::_=>false
  | _::_,[]=>false
end
mutual
noncomputable def depD:Dat->Nat
  | .fl _=>0
  | .tp xs=>depDs xs+1
  | .ls xs=>depDs xs+1
noncomputable def depDs:List Dat->Nat
  | []=>0
  | d::ds=>max (depD d) (depDs ds)
end
mutual
theorem IsDt.mono {H H':Hp}(g:Same H H'):∀ {d:Dat} {v:V},IsDt H d v->IsDt H' d v
  | .fl x,v,h=>by simp only [IsDt] at h ⊢;exact h
  | .tp ds,v,h=>by
    simp only [IsDt] at h ⊢
    obtain⟨a,vs,e,h1,h2⟩:=h
    exact⟨a,vs,e,g _ _ h1,IsDs.mono g h2⟩
  | .ls ds,v,h=>by
    simp only [IsDt] at h ⊢
    obtain⟨a,vs,e,h1,h2⟩:=h
    exact⟨a,vs,e,g _ _ h1,IsDs.mono g h2⟩
theorem IsDs.mono {H H':Hp}(g:Same H H'):∀ {ds:List Dat} {vs:List V},IsDs H ds vs->IsDs H' ds vs
  | [],vs,h=>by simp only [IsDs] at h ⊢;exact h
  | d::ds,vs,h=>by
    simp only [IsDs] at h ⊢
    obtain⟨v,r,e,h1,h2⟩:=h
    exact⟨v,r,e,IsDt.mono g h1,IsDs.mono g h2⟩
end
theorem IsDs.len {H:Hp}:∀ {ds:List Dat} {vs:List V},IsDs H ds vs->ds.length=vs.length
  | [],vs,h=>by simp only [IsDs] at h;subst h;rfl
  | d::ds,vs,h=>by
    simp only [IsDs] at h
    obtain⟨v,r,e,h1,h2⟩:=h
    rw [e,List.length_cons,List.length_cons,IsDs.len h2]
theorem IsDs.snoc {H:Hp}{d:Dat}{v:V}:∀ {ds:List Dat} {vs:List V},IsDs H ds vs->IsDt H d v->IsDs H (ds++[d]) (vs++[v])
  | [],vs,h,k=>by simp only [IsDs] at h;subst h;simp only [List.nil_append,IsDs];exact⟨v,[],rfl,k,rfl⟩
  | d::ds,vs,h,k=>by
    simp only [IsDs] at h
    obtain⟨v,r,e,h1,h2⟩:=h
    subst e
    simp only [List.cons_append,IsDs]
    exact⟨v,_,rfl,h1,IsDs.snoc h2 k⟩
theorem IsDs.app {H:Hp}{es:List Dat}{us:List V}:∀ {ds:List Dat} {vs:List V},IsDs H ds vs->IsDs H es us->IsDs H (ds++es) (vs++us)
  | [],vs,h,k=>by simp only [IsDs] at h;subst h;exact k
  | d::ds,vs,h,k=>by
    simp only [IsDs] at h
    obtain⟨v,r,e,h1,h2⟩:=h
    subst e
    simp only [List.cons_append,IsDs]
    exact⟨v,_,rfl,h1,IsDs.app h2 k⟩
theorem IsDs.get {H:Hp}:∀ {ds:List Dat} {vs:List V} {j:Nat} {v:V},IsDs H ds vs->vs[j]? = some v->∃ d,ds[j]? = some d/\IsDt H d v
  | [],vs,j,v,h,k=>by simp only [IsDs] at h;subst h;simp at k
  | d::ds,vs,j,v,h,k=>by
    simp only [IsDs] at h
    obtain⟨v',r,e,h1,h2⟩:=h
    subst e
    cases j with
    | zero=>simp at k;subst k;exact⟨d,rfl,h1⟩
    | succ j=>simpa using IsDs.get h2 (j:=j) (by simpa using k)
theorem eqV_same {v:V}(h:flatV v=true):eqV v v=true:=by
  cases v<;>simp [eqV,flatV] at h ⊢
mutual
theorem eqD_same {H:Hp}:∀ {d e:Dat} {v:V},IsDt H d v->IsDt H e v->eqD d e=true
  | .fl x,.fl y,v,h,k=>by
    simp only [IsDt] at h k
    obtain⟨rfl,f⟩:=h
    obtain⟨rfl,_⟩:=k
    simp only [eqD]
    exact eqV_same f
  | .tp xs,.tp ys,v,h,k=>by
    simp only [IsDt] at h k
    obtain⟨a,vs,rfl,h1,h2⟩:=h
    obtain⟨b,us,e,k1,k2⟩:=k
    cases e
    rw [h1] at k1
    cases k1
    simp only [eqD]
    exact eqDs_same h2 k2
  | .ls xs,.ls ys,v,h,k=>by
    simp only [IsDt] at h k
    obtain⟨a,vs,rfl,h1,h2⟩:=h
    obtain⟨b,us,e,k1,k2⟩:=k
    cases e
    rw [h1] at k1
    cases k1
    simp only [eqD]
    exact eqDs_same h2 k2
  | .fl x,.tp ys,v,h,k=>by
    simp only [IsDt] at h k
    obtain⟨rfl,f⟩:=h
    obtain⟨b,us,rfl,k1,k2⟩:=k
    simp [flatV] at f
  | .fl x,.ls ys,v,h,k=>by
    simp only [IsDt] at h k
    obtain⟨rfl,f⟩:=h
    obtain⟨b,us,rfl,k1,k2⟩:=k
    simp [flatV] at f
  | .tp xs,.fl y,v,h,k=>by
    simp only [IsDt] at h k
    obtain⟨rfl,f⟩:=k
    obtain⟨b,us,rfl,k1,k2⟩:=h
    simp [flatV] at f
  | .ls xs,.fl y,v,h,k=>by
    simp only [IsDt] at h k
    obtain⟨rfl,f⟩:=k
    obtain⟨b,us,rfl,k1,k2⟩:=h
    simp [flatV] at f
  | .tp xs,.ls ys,v,h,k=>by
    simp only [IsDt] at h k
    obtain⟨a,vs,rfl,h1,h2⟩:=h
    obtain⟨b,us,e,k1,k2⟩:=k
    cases e
    rw [h1] at k1
    cases k1
  | .ls xs,.tp ys,v,h,k=>by
    simp only [IsDt] at h k
    obtain⟨a,vs,rfl,h1,h2⟩:=h
    obtain⟨b,us,e,k1,k2⟩:=k
    cases e
    rw [h1] at k1
    cases k1
theorem eqDs_same {H:Hp}:∀ {ds es:List Dat} {vs:List V},IsDs H ds vs->IsDs H es vs->eqDs ds es=true
  | [],[],_,_,_=>rfl
  | d::ds,e::es,vs,h,k=>by
    simp only [IsDs] at h k
    obtain⟨v,r,rfl,h1,h2⟩:=h
    obtain⟨v',r',e',k1,k2⟩:=k
    cases e'
    simp only [eqDs,Bool.and_eq_true]
    exact⟨eqD_same h1 k1,eqDs_same h2 k2⟩
  | [],e::es,vs,h,k=>by
    simp only [IsDs] at h k
    subst h
    obtain⟨v',r',e',k1,k2⟩:=k
    cases e'
  | d::ds,[],vs,h,k=>by
    simp only [IsDs] at h k
    subst k
    obtain⟨v',r',e',k1,k2⟩:=h
    cases e'
end
mutual
noncomputable def flatD:Dat->Bool
  | .fl v=>flatV v
  | .tp xs=>flatDs xs
  | .ls xs=>flatDs xs
noncomputable def flatDs:List Dat->Bool
  | []=>true
  | d::ds=>flatD d&&flatDs ds
end
mutual
theorem eqD_refl:∀ {d:Dat},flatD d=true->eqD d d=true
  | .fl v,h=>by simp only [eqD];exact eqV_same h
  | .tp xs,h=>by simp only [eqD];simp only [flatD] at h;exact eqDs_refl h
  | .ls xs,h=>by simp only [eqD];simp only [flatD] at h;exact eqDs_refl h
theorem eqDs_refl:∀ {ds:List Dat},flatDs ds=true->eqDs ds ds=true
  | [],_=>rfl
  | d::ds,h=>by
    simp only [flatDs,Bool.and_eq_true] at h
    simp only [eqDs,Bool.and_eq_true]
    exact⟨eqD_refl h.1,eqDs_refl h.2⟩
end
theorem eqDs_len:∀ {ds es:List Dat},ds.length≠es.length->eqDs ds es=false
  | [],[],h=>absurd rfl h
  | d::ds,e::es,h=>by
    simp only [eqDs]
    rw [eqDs_len (ds:=ds) (es:=es) (by simpa using h),Bool.and_false]
  | [],_::_,_=>rfl
  | _::_,[],_=>rfl
noncomputable def dGet (ds:List Dat)(j:Nat):Dat:=ds.getD j (.fl .non)
theorem eqDs_all:∀ {ds es:List Dat},ds.length=es.length->(List.range ds.length).all (fun j=>eqD (dGet ds j) (dGet es j))=eqDs ds es
  | [],[],_=>rfl
  | d::ds,e::es,h=>by
    rw [List.length_cons,List.range_succ_eq_map,List.all_cons,List.all_map]
    simp only [eqDs]
    have:=eqDs_all (ds:=ds) (es:=es) (by simpa using h)
    rw [← this]
    rfl
  | [],_::_,h=>by simp at h
  | _::_,[],h=>by simp at h
theorem eqDs_tup {ds es:List Dat}{n m:Nat}(hn:n=ds.length)(hm:m=es.length):((List.range (min n m)).all (fun j=>eqD (dGet ds j) (dGet es j))&&n == m)=eqDs ds es:=by
  subst hn hm
  by_cases h:ds.length=es.length
  · rw [← h,Nat.min_self,beq_self_eq_true,Bool.and_true]
    exact eqDs_all h
  · rw [eqDs_len h,beq_eq_false_iff_ne.mpr h,Bool.and_false]
section
variable {X:Cx} {pins:List (Addr×Obj)} {σ:L2.St} {H:Hp} {s:Shared}
theorem tup_at (I:Inv X pins σ H s){a:Addr}{vs:List V}(h:H a=some (.tup vs)):∃ its:List Value,Vals vs its/\s.heap.IsTuple a its.toArray:=by
  obtain⟨its,r,p,_⟩:=I.tuple (SqT.of h)
  exact⟨its,r,p⟩
theorem lst_at (I:Inv X pins σ H s){a:Addr}{vs:List V}(h:H a=some (.lst vs)):∃ its:List Value,Vals vs its/\s.heap.IsList a its.toArray:=by
  obtain⟨its,r,p,_⟩:=I.list (SqL.of h)
  exact⟨its,r,p.isList⟩
mutual
theorem eqD_at (I:Inv X pins σ H s):∀ (d e:Dat) (A:Around) (x y:V) (u w:Value),A.units+depD d<cLine->IsDt H d x->IsDt H e y->RelV x u->RelV y w->SeqAt.EqAt A s u w (eqD d e)
  | .fl x,.fl y,A,x',y',u,w,hu,h,k,ru,rw'=>by
    simp only [IsDt] at h k
    obtain⟨rfl,f⟩:=h
    obtain⟨rfl,g⟩:=k
    simp only [eqD]
    exact eqAt_V ru rw' f g
  | .tp ds,.tp es,A,x,y,u,w,hu,h,k,ru,rw'=>by
    have hh:=h
    have kk:=k
    simp only [IsDt] at h k
    obtain⟨a,vs,rfl,h1,h2⟩:=h
    obtain⟨b,us,rfl,k1,k2⟩:=k
    cases ru
    cases rw'
    by_cases hab:a=b
    · subst hab
      rw [eqD_same hh kk]
      exact SeqAt.EqAt.same _
    obtain⟨i1,r1,p1⟩:=tup_at I h1
    obtain⟨i2,r2,p2⟩:=tup_at I k1
    simp only [depD] at hu
    refine SeqAt.EqAt.of_refs hab ?_
    have:=SeqAt.RcAt.tuples (A:=A) (e:=fun j=>eqD (dGet ds j) (dGet es j)) p1 p2 (by lia) (eqDs_at I ds es A.in1 vs us i1 i2 (by show A.units+1+_<_;lia) h2 k2 r1 r2)
    rw [eqDs_tup (by rw [List.size_toArray,← r1.length,h2.len]) (by rw [List.size_toArray,← r2.length,k2.len])] at this
    simp only [eqD]
    exact this
  | .ls ds,.ls es,A,x,y,u,w,hu,h,k,ru,rw'=>by
    have hh:=h
    have kk:=k
    simp only [IsDt] at h k
    obtain⟨a,vs,rfl,h1,h2⟩:=h
    obtain⟨b,us,rfl,k1,k2⟩:=k
    cases ru
    cases rw'
    by_cases hab:a=b
    · subst hab
      rw [eqD_same hh kk]
      exact SeqAt.EqAt.same _
    obtain⟨i1,r1,p1⟩:=lst_at I h1
    obtain⟨i2,r2,p2⟩:=lst_at I k1
    have l1:=r1.length
    have l2:=r2.length
    have l3:=h2.len
    have l4:=k2.len
    simp only [depD] at hu
    refine SeqAt.EqAt.of_refs hab ?_
    simp only [eqD]
    by_cases hl:ds.length=es.length
    · have:=SeqAt.RcAt.lists (A:=A) (e:=fun j=>eqD (dGet ds j) (dGet es j)) p1 p2 (by simp;lia) (by lia) (eqDs_at I ds es A.in1 vs us i1 i2 (by show A.units+1+_<_;lia) h2 k2 r1 r2)
      rw [List.size_toArray,← l1,← l3,eqDs_all hl] at this
      exact this
    · rw [eqDs_len hl]
      exact SeqAt.RcAt.lists_lengths p1 p2 (by simp;lia) (by lia)
  | .fl x,.tp es,A,x',y,u,w,hu,h,k,ru,rw'=>by
    simp only [IsDt] at h k
    obtain⟨rfl,f⟩:=h
    obtain⟨b,us,rfl,k1,k2⟩:=k
    cases rw'
    obtain⟨i2,r2,p2⟩:=tup_at I k1
    simp only [eqD]
    have hu:A.units<cLine:=by lia
    cases x' with
    | non=>cases ru;exact SeqAt.EqAt.none_tuple p2 hu
    | bl z=>cases ru;exact SeqAt.EqAt.bool_tuple z p2 hu
    | int z=>obtain⟨t,rfl⟩:=ru;exact SeqAt.EqAt.int_tuple z t p2 hu
    | str z=>obtain⟨t,rfl⟩:=ru;exact SeqAt.EqAt.str_tuple z t p2 hu
    | byt z=>simp [flatV] at f
    | flt z=>simp [flatV] at f
    | ref z=>simp [flatV] at f
    | ty z=>simp [flatV] at f
  | .fl x,.ls es,A,x',y,u,w,hu,h,k,ru,rw'=>by
    simp only [IsDt] at h k
    obtain⟨rfl,f⟩:=h
    obtain⟨b,us,rfl,k1,k2⟩:=k
    cases rw'
    obtain⟨i2,r2,p2⟩:=lst_at I k1
    simp only [eqD]
    have hu:A.units<cLine:=by lia
    cases x' with
    | non=>cases ru;exact SeqAt.EqAt.none_list p2 hu
    | bl z=>cases ru;exact SeqAt.EqAt.bool_list z p2 hu
    | int z=>obtain⟨t,rfl⟩:=ru;exact SeqAt.EqAt.int_list z t p2 hu
    | str z=>obtain⟨t,rfl⟩:=ru;exact SeqAt.EqAt.str_list z t p2 hu
    | byt z=>simp [flatV] at f
    | flt z=>simp [flatV] at f
    | ref z=>simp [flatV] at f
    | ty z=>simp [flatV] at f
  | .tp ds,.fl y,A,x,y',u,w,hu,h,k,ru,rw'=>by
    simp only [IsDt] at h k
    obtain⟨rfl,f⟩:=k
    obtain⟨b,us,rfl,k1,k2⟩:=h
    cases ru
    obtain⟨i2,r2,p2⟩:=tup_at I k1
    simp only [eqD]
    have hu:A.units<cLine:=by lia
    cases y' with
    | non=>cases rw';exact SeqAt.EqAt.tuple_none p2 hu
    | bl z=>cases rw';exact SeqAt.EqAt.tuple_bool z p2 hu
    | int z=>obtain⟨t,rfl⟩:=rw';exact SeqAt.EqAt.tuple_int z t p2 hu
    | str z=>obtain⟨t,rfl⟩:=rw';exact SeqAt.EqAt.tuple_str z t p2 hu
    | byt z=>simp [flatV] at f
    | flt z=>simp [flatV] at f
    | ref z=>simp [flatV] at f
    | ty z=>simp [flatV] at f
  | .ls ds,.fl y,A,x,y',u,w,hu,h,k,ru,rw'=>by
    simp only [IsDt] at h k
    obtain⟨rfl,f⟩:=k
    obtain⟨b,us,rfl,k1,k2⟩:=h
    cases ru
    obtain⟨i2,r2,p2⟩:=lst_at I k1
    simp only [eqD]
    have hu:A.units<cLine:=by lia
    cases y' with
    | non=>cases rw';exact SeqAt.EqAt.list_none p2 hu
    | bl z=>cases rw';exact SeqAt.EqAt.list_bool z p2 hu
    | int z=>obtain⟨t,rfl⟩:=rw';exact SeqAt.EqAt.list_int z t p2 hu
    | str z=>obtain⟨t,rfl⟩:=rw';exact SeqAt.EqAt.list_str z t p2 hu
    | byt z=>simp [flatV] at f
    | flt z=>simp [flatV] at f
    | ref z=>simp [flatV] at f
    | ty z=>simp [flatV] at f
  | .tp ds,.ls es,A,x,y,u,w,hu,h,k,ru,rw'=>by
    simp only [IsDt] at h k
    obtain⟨a,vs,rfl,h1,h2⟩:=h
    obtain⟨b,us,rfl,k1,k2⟩:=k
    cases ru
    cases rw'
    obtain⟨i1,r1,p1⟩:=tup_at I h1
    obtain⟨i2,r2,p2⟩:=lst_at I k1
    simp only [eqD]
    exact SeqAt.EqAt.tuple_list p1 p2 (by lia)
  | .ls ds,.tp es,A,x,y,u,w,hu,h,k,ru,rw'=>by
    simp only [IsDt] at h k
    obtain⟨a,vs,rfl,h1,h2⟩:=h
    obtain⟨b,us,rfl,k1,k2⟩:=k
    cases ru
    cases rw'
    obtain⟨i1,r1,p1⟩:=lst_at I h1
    obtain⟨i2,r2,p2⟩:=tup_at I k1
    simp only [eqD]
    exact SeqAt.EqAt.list_tuple p1 p2 (by lia)
theorem eqDs_at (I:Inv X pins σ H s):∀ (ds es:List Dat) (A:Around) (xs ys:List V) (us ws:List Value),A.units+depDs ds<cLine->IsDs H ds xs->IsDs H es ys->Vals xs us->Vals ys ws ->
    ∀ j (h1:j<us.toArray.size) (h2:j<ws.toArray.size),SeqAt.EqAt A s us.toArray[j] ws.toArray[j] (eqD (dGet ds j) (dGet es j))
  | [],es,A,xs,ys,us,ws,hu,h,k,ru,rw',j,h1,h2=>by
    simp only [IsDs] at h
    subst h
    have:=ru.length
    rw [List.size_toArray] at h1
    simp at this
    lia
  | d::ds,[],A,xs,ys,us,ws,hu,h,k,ru,rw',j,h1,h2=>by
    simp only [IsDs] at k
    subst k
    have:=rw'.length
    rw [List.size_toArray] at h2
    simp at this
    lia
  | d::ds,e::es,A,xs,ys,us,ws,hu,h,k,ru,rw',j,h1,h2=>by
    simp only [IsDs] at h k
    obtain⟨v,r,rfl,a1,a2⟩:=h
    obtain⟨v',r',rfl,b1,b2⟩:=k
    simp only [depDs] at hu
    cases ru with
    | cons q1 q2=>
      cases rw' with
      | cons q3 q4=>
        cases j with
        | zero=>exact eqD_at I d e A _ _ _ _ (by omega) a1 b1 q1 q3
        | succ j=>
          have:=eqDs_at I ds es A _ _ _ _ (by lia) a2 b2 q2 q4 j (by simpa using h1) (by simpa using h2)
          simpa [dGet] using this
end
end
section
variable {X:Cx}
noncomputable def rEqD:R2:=fun x y H Q=>∃ d e a b,x=.ref a/\y=.ref b/\IsDt H d (.ref a)/\IsDt H e (.ref b)/\depD d<=50/\Q (.bl (eqD d e)) H
noncomputable def rNeD:R2:=fun x y H Q=>∃ d e a b,x=.ref a/\y=.ref b/\IsDt H d (.ref a)/\IsDt H e (.ref b)/\depD d<=50/\Q (.bl (!eqD d e)) H
theorem op_eqD (hu:X.A.units+64<cLine):OpR X (compareOp .Eq) rEqD:=by
  intro pins s σ H x y v u Q I rx ry h
  obtain⟨d,e,a,b,rfl,rfl,h,k,hd,q⟩:=h
  cases rx
  cases ry
  match d,e,h,k,hd,q with
  | .tp ds,.tp es,h,k,hd,q=>
    simp only [IsDt] at h k
    obtain⟨_,vs,e1,h1,h2⟩:=h
    obtain⟨_,us,e2,k1,k2⟩:=k
    cases e1
    cases e2
    obtain⟨i1,r1,p1⟩:=tup_at I h1
    obtain⟨i2,r2,p2⟩:=tup_at I k1
    simp only [depD] at hd
    refine SeqAt.eq_tupleAt (e:=fun j=>eqD (dGet ds j) (dGet es j)) p1 p2 (by lia) (eqDs_at I ds es X.A.in1 vs us i1 i2 (by show X.A.units+1+_<_;lia) h2 k2 r1 r2) ⟨.bl _,H,I,rfl,?_⟩
    rw [eqDs_tup (by rw [List.size_toArray,← r1.length,h2.len]) (by rw [List.size_toArray,← r2.length,k2.len])]
    exact q
  | .ls ds,.ls es,h,k,hd,q=>
    simp only [IsDt] at h k
    obtain⟨_,vs,e1,h1,h2⟩:=h
    obtain⟨_,us,e2,k1,k2⟩:=k
    cases e1
    cases e2
    obtain⟨i1,r1,p1⟩:=lst_at I h1
    obtain⟨i2,r2,p2⟩:=lst_at I k1
    have l1:=r1.length
    have l2:=r2.length
    have l3:=h2.len
    have l4:=k2.len
    simp only [depD] at hd
    by_cases hl:ds.length=es.length
    · refine SeqAt.eq_listAt (e:=fun j=>eqD (dGet ds j) (dGet es j)) p1 p2 (by simp;lia) (by lia) (eqDs_at I ds es X.A.in1 vs us i1 i2 (by show X.A.units+1+_<_;lia) h2 k2 r1 r2) ⟨.bl _,H,I,rfl,?_⟩
      rw [List.size_toArray,← l1,← l3,eqDs_all hl]
      exact q
    · refine SeqAt.eq_list_lengthsAt p1 p2 (by simp;lia) (by lia) ⟨.bl _,H,I,rfl,?_⟩
      simp only [eqD] at q
      rw [eqDs_len hl] at q
      exact q
  | .tp ds,.ls es,h,k,hd,q=>
    simp only [IsDt] at h k
    obtain⟨_,vs,e1,h1,h2⟩:=h
    obtain⟨_,us,e2,k1,k2⟩:=k
    cases e1
    cases e2
    obtain⟨i1,r1,p1⟩:=tup_at I h1
    obtain⟨i2,r2,p2⟩:=lst_at I k1
    exact SeqAt.RcAt.tuple_list p1 p2 (by lia) _ _ _ _ ⟨.bl _,H,I,rfl,q⟩
  | .ls ds,.tp es,h,k,hd,q=>
    simp only [IsDt] at h k
    obtain⟨_,vs,e1,h1,h2⟩:=h
    obtain⟨_,us,e2,k1,k2⟩:=k
    cases e1
    cases e2
    obtain⟨i1,r1,p1⟩:=lst_at I h1
    obtain⟨i2,r2,p2⟩:=tup_at I k1
    exact SeqAt.RcAt.list_tuple p1 p2 (by lia) _ _ _ _ ⟨.bl _,H,I,rfl,q⟩
  | .fl x,e,h,k,hd,q=>simp only [IsDt] at h;obtain⟨rfl,f⟩:=h;simp [flatV] at f
  | .tp ds,.fl x,h,k,hd,q=>simp only [IsDt] at k;obtain⟨rfl,f⟩:=k;simp [flatV] at f
  | .ls ds,.fl x,h,k,hd,q=>simp only [IsDt] at k;obtain⟨rfl,f⟩:=k;simp [flatV] at f
theorem op_neD (hu:X.A.units+64<cLine):OpR X (compareOp .NotEq) rNeD:=by
  intro pins s σ H x y v u Q I rx ry h
  obtain⟨d,e,a,b,rfl,rfl,h,k,hd,q⟩:=h
  cases rx
  cases ry
  match d,e,h,k,hd,q with
  | .tp ds,.tp es,h,k,hd,q=>
    simp only [IsDt] at h k
    obtain⟨_,vs,e1,h1,h2⟩:=h
    obtain⟨_,us,e2,k1,k2⟩:=k
    cases e1
    cases e2
    obtain⟨i1,r1,p1⟩:=tup_at I h1
    obtain⟨i2,r2,p2⟩:=tup_at I k1
    simp only [depD] at hd
    refine SeqAt.RcNeAt.tuples (e:=fun j=>eqD (dGet ds j) (dGet es j)) p1 p2 (by lia) (eqDs_at I ds es X.A.in1 vs us i1 i2 (by show X.A.units+1+_<_;lia) h2 k2 r1 r2) _ _ _ _ ⟨.bl _,H,I,rfl,?_⟩
    rw [eqDs_tup (by rw [List.size_toArray,← r1.length,h2.len]) (by rw [List.size_toArray,← r2.length,k2.len])]
    exact q
  | .ls ds,.ls es,h,k,hd,q=>
    simp only [IsDt] at h k
    obtain⟨_,vs,e1,h1,h2⟩:=h
    obtain⟨_,us,e2,k1,k2⟩:=k
    cases e1
    cases e2
    obtain⟨i1,r1,p1⟩:=lst_at I h1
    obtain⟨i2,r2,p2⟩:=lst_at I k1
    have l1:=r1.length
    have l2:=r2.length
    have l3:=h2.len
    have l4:=k2.len
    simp only [depD] at hd
    by_cases hl:ds.length=es.length
    · refine SeqAt.RcNeAt.lists (e:=fun j=>eqD (dGet ds j) (dGet es j)) p1 p2 (by simp;lia) (by lia) (eqDs_at I ds es X.A.in1 vs us i1 i2 (by show X.A.units+1+_<_;lia) h2 k2 r1 r2) _ _ _ _ ⟨.bl _,H,I,rfl,?_⟩
      rw [List.size_toArray,← l1,← l3,eqDs_all hl]
      exact q
    · refine SeqAt.RcNeAt.lists_lengths p1 p2 (by simp;lia) (by lia) _ _ _ _ ⟨.bl _,H,I,rfl,?_⟩
      simp only [eqD] at q
      rw [eqDs_len hl] at q
      exact q
  | .tp ds,.ls es,h,k,hd,q=>
    simp only [IsDt] at h k
    obtain⟨_,vs,e1,h1,h2⟩:=h
    obtain⟨_,us,e2,k1,k2⟩:=k
    cases e1
    cases e2
    obtain⟨i1,r1,p1⟩:=tup_at I h1
    obtain⟨i2,r2,p2⟩:=lst_at I k1
    exact SeqAt.RcNeAt.tuple_list p1 p2 (by lia) _ _ _ _ ⟨.bl _,H,I,rfl,q⟩
  | .ls ds,.tp es,h,k,hd,q=>
    simp only [IsDt] at h k
    obtain⟨_,vs,e1,h1,h2⟩:=h
    obtain⟨_,us,e2,k1,k2⟩:=k
    cases e1
    cases e2
    obtain⟨i1,r1,p1⟩:=lst_at I h1
    obtain⟨i2,r2,p2⟩:=tup_at I k1
    exact SeqAt.RcNeAt.list_tuple p1 p2 (by lia) _ _ _ _ ⟨.bl _,H,I,rfl,q⟩
  | .fl x,e,h,k,hd,q=>simp only [IsDt] at h;obtain⟨rfl,f⟩:=h;simp [flatV] at f
  | .tp ds,.fl x,h,k,hd,q=>simp only [IsDt] at k;obtain⟨rfl,f⟩:=k;simp [flatV] at f
  | .ls ds,.fl x,h,k,hd,q=>simp only [IsDt] at k;obtain⟨rfl,f⟩:=k;simp [flatV] at f
end
end L2
namespace L2
open PySem PySem.Spec PySem.Calls PyProof.Rows PySem.W
noncomputable abbrev Tx:=List Nat
noncomputable def tx (x:Tx):V:=.str (S x)
noncomputable abbrev ft (x:Tx):Dat:=.fl (.str (S x))
structure MS where
  mode:Tx
  word:Tx
  opens:List Tx
  talk:Tx
noncomputable abbrev Ev:=List Tx
noncomputable abbrev Ans:=Option (MS×List Ev)
noncomputable abbrev mText:Tx:=[116,101,120,116]
noncomputable abbrev mMark:Tx:=[109,97,114,107]
noncomputable abbrev mOpen:Tx:=[111,112,101,110]
noncomputable abbrev mName:Tx:=[110,97,109,101]
noncomputable abbrev mSlash:Tx:=[115,108,97,115,104]
noncomputable abbrev mShut:Tx:=[115,104,117,116]
noncomputable abbrev mGap:Tx:=[103,97,112]
noncomputable abbrev mAttr:Tx:=[97,116,116,114]
noncomputable abbrev mIs:Tx:=[105,115]
noncomputable abbrev mBang:Tx:=[98,97,110,103]
noncomputable abbrev mBare:Tx:=[98,97,114,101]
noncomputable abbrev mCode:Tx:=[99,111,100,101]
noncomputable abbrev mRow:Tx:=[114,111,119]
noncomputable abbrev mStroke:Tx:=[115,116,114,111,107,101]
noncomputable abbrev mQuoted:Tx:=[113,117,111,116,101,100]
noncomputable abbrev mQmark:Tx:=[113,109,97,114,107]
noncomputable abbrev mDone:Tx:=[100,111,110,101]
noncomputable abbrev mTalk:Tx:=[116,97,108,107]
noncomputable abbrev mTmark:Tx:=[116,109,97,114,107]
noncomputable abbrev mAsis:Tx:=[97,115,105,115]
noncomputable abbrev eBox:Tx:=[98,111,120]
noncomputable abbrev eAttr:Tx:=[97,116,116,114]
noncomputable abbrev eIn:Tx:=[105,110]
noncomputable abbrev eSign:Tx:=[115,105,103,110]
noncomputable abbrev eNext:Tx:=[110,101,120,116]
noncomputable abbrev eWord:Tx:=[119,111,114,100]
noncomputable abbrev eSaid:Tx:=[115,97,105,100]
noncomputable abbrev eOut:Tx:=[111,117,116]
noncomputable abbrev tBetween:Tx:=[98,101,116,119,101,101,110]
noncomputable abbrev tWord:Tx:=[119,111,114,100]
noncomputable abbrev tSaid:Tx:=[115,97,105,100]
noncomputable abbrev tStroke:Tx:=[115,116,114,111,107,101]
noncomputable abbrev asisEnd:Tx:=[60,47,97,115,105,115,62]
noncomputable abbrev lt:Tx:=[97,98,99,100,101,102,103,104,105,106,107,108,109,110,111,112,113,114,115,116,117,118,119,120,121,122]
noncomputable def comeTo (m:Tx)(op:List Tx)(es:List Ev):Ans:=some (⟨m,[],op,[]⟩,es)
noncomputable def toldM (m:Tx)(op:List Tx):Option Nat->Ans
  | none=>none
  | some c=>comeTo m op [[eSign,[c]]]
noncomputable def gath (m w:Tx)(op:List Tx)(t:Tx)(n:Nat):Ans:=if n<w.length then none else some (⟨m,w,op,t⟩,[])
noncomputable def boxShut (op:List Tx)(es:List Ev):Ans:=if op=[] then none else comeTo mText op.dropLast (es++[[eOut]])
noncomputable def intoBox (op:List Tx)(es:List Ev):Ans:=if op=[] then none else comeTo (if op.getLast? = some mAsis then mAsis else mText) op (es++[[eIn]])
noncomputable def ledOn (op:List Tx)(c:Nat)(es:List Ev):Ans:=if c=32 then comeTo mGap op es else if c=47 then comeTo mSlash op es else if c=62 then intoBox op es else none
noncomputable def fedB (c:Nat):Option (Tx×List Ev):=if c=32 then some (tBetween,[]) else if c=39 then some (tSaid,[[eSaid]]) else if c∈ws then some (tWord,[[eWord],[eSign,[c]]]) else none
noncomputable def fedW (c:Nat):Option (Tx×List Ev):=if c∈ws then some (tWord,[[eSign,[c]]]) else fedB c
noncomputable def fedS (c:Nat):Option (Tx×List Ev):=if c=39 then some (tBetween,[]) else if c=92 then some (tStroke,[]) else some (tSaid,[[eSign,[c]]])
noncomputable def feedM (t:Tx)(c:Nat):Option (Tx×List Ev):=if t=tBetween then fedB c else if t=tWord then fedW c else if t=tSaid then fedS c else if t=tStroke then some (tSaid,[[eSign,[c]]]) else none
noncomputable def fedM (op:List Tx)(t:Tx)(c:Option Nat):Ans:=match c with
  | none=>none
  | some c=>match feedM t c with
    | none=>none
    | some (t',es)=>some (⟨mTalk,[],op,t'⟩,es)
noncomputable def mkEnd (w:Tx)(c:Nat):Option Nat:=if c=59 then L2.told w else none
noncomputable abbrev AtF:=Tx->List Tx->Tx->Nat->Ans
noncomputable def aText:AtF:=fun _ op _ c=>if c=60 then comeTo mOpen op [] else if c=38 then comeTo mMark op [] else toldM mText op (some c)
noncomputable def aMark:AtF:=fun w op _ c=>if c∈fg then gath mMark (w++[c]) op [] 2 else toldM mText op (mkEnd w c)
noncomputable def aOpen:AtF:=fun _ op _ c=>if c=47 then comeTo mShut op [] else if c∈lt then gath mName [c] op [] 8 else none
noncomputable def aName:AtF:=fun w op _ c=>if c∈lt then gath mName (w++[c]) op [] 8 else ledOn (op++[w]) c [[eBox,w]]
noncomputable def aSlash:AtF:=fun _ op _ c=>if c=62 then boxShut op [[eIn]] else none
noncomputable def aShut:AtF:=fun w op _ c=>if c∈lt then gath mShut (w++[c]) op [] 8 else if c=62/\op.getLast? = some w then boxShut op [] else none
noncomputable def aGap:AtF:=fun _ op _ c=>if c∈lt then gath mAttr [c] op [] 8 else none
noncomputable def aAttr:AtF:=fun w op _ c=>if c∈lt then gath mAttr (w++[c]) op [] 8 else if c=58 then comeTo mBare op [[eAttr,w,mBare]] else if c=40 then comeTo mRow op [[eAttr,w,mRow]]
  else if c=61 then some (⟨mIs,w,op,[]⟩,[]) else if c=33 then some (⟨mBang,w,op,[]⟩,[]) else none
noncomputable def aIs:AtF:=fun w op _ c=>if c=34 then comeTo mQuoted op [[eAttr,w,mQuoted]] else none
noncomputable def aBang:AtF:=fun w op _ c=>if c=34 then some (⟨mTalk,[],op,tBetween⟩,[[eAttr,w,mTalk]]) else none
noncomputable def aBare:AtF:=fun _ op _ c=>if c∈ws then toldM mBare op (some c) else if c=126 then comeTo mCode op [] else ledOn op c []
noncomputable def aCode:AtF:=fun w op _ c=>if w=[] then(if c∈fg then some (⟨mCode,[c],op,[]⟩,[]) else none) else toldM mBare op (L2.told (w++[c]))
noncomputable def aRow:AtF:=fun _ op _ c=>if c=92 then comeTo mStroke op [] else if c=44 then comeTo mRow op [[eNext]] else if c=41 then comeTo mDone op [] else toldM mRow op (some c)
noncomputable def aStroke:AtF:=fun _ op _ c=>toldM mRow op (some c)
noncomputable def aQuoted:AtF:=fun _ op _ c=>if c=34 then comeTo mDone op [] else if c=38 then comeTo mQmark op [] else toldM mQuoted op (some c)
noncomputable def aQmark:AtF:=fun w op _ c=>if c∈fg then gath mQmark (w++[c]) op [] 2 else toldM mQuoted op (mkEnd w c)
noncomputable def aDone:AtF:=fun _ op _ c=>ledOn op c []
noncomputable def aTalk:AtF:=fun _ op t c=>if c=38 then some (⟨mTmark,[],op,t⟩,[]) else if c=34 then(if t=tBetween\/t=tWord then comeTo mDone op [] else none) else fedM op t (some c)
noncomputable def aTmark:AtF:=fun w op t c=>if c∈fg then gath mTmark (w++[c]) op t 2 else fedM op t (mkEnd w c)
noncomputable def aAsis:AtF:=fun w op _ c=>if w++[c]=asisEnd then boxShut op [] else if (w++[c]).isPrefixOf asisEnd then some (⟨mAsis,w++[c],op,[]⟩,[])
  else if c=60 then some (⟨mAsis,[c],op,[]⟩,w.map fun k=>[eSign,[k]]) else comeTo mAsis op ((w.map fun k=>[eSign,[k]])++[[eSign,[c]]])
noncomputable def atTab:List (Tx×AtF):=[(mText,aText),(mMark,aMark),(mOpen,aOpen),(mName,aName),(mSlash,aSlash),(mShut,aShut),(mGap,aGap),(mAttr,aAttr),(mIs,aIs),(mBang,aBang),(mBare,aBare),(mCode,aCode),(mRow,aRow),(mStroke,aStroke),(mQuoted,aQuoted),(mQmark,aQmark),(mDone,aDone),(mTalk,aTalk),(mTmark,aTmark),(mAsis,aAsis)]
noncomputable def stepM (s:MS)(c:Nat):Ans:=match atTab.lookup s.mode with
  | none=>none
  | some f=>f s.word s.opens s.talk c
noncomputable def dS (s:MS):Dat:=.tp [ft s.mode,ft s.word,.tp (s.opens.map ft),ft s.talk]
noncomputable def dE (e:Ev):Dat:=.tp (e.map ft)
noncomputable def dEs (es:List Ev):Dat:=.ls (es.map dE)
def OpV (H:Hp)(a:Addr)(op:List Tx):Prop:=H a=some (.tup (op.map tx))
def StV (H:Hp)(v:V)(s:MS):Prop:=∃ p o,v=.ref p/\H p=some (.tup [tx s.mode,tx s.word,.ref o,tx s.talk])/\OpV H o s.opens
def EvV (H:Hp)(v:V)(e:Ev):Prop:=∃ a,v=.ref a/\H a=some (.tup (e.map tx))
inductive EvA (H:Hp):List V->List Ev->Prop
  | nil:EvA H [] []
  | cons {v:V} {e:Ev} {vs:List V} {es:List Ev}:EvV H v e->EvA H vs es->EvA H (v::vs) (e::es)
def EvL (H:Hp)(a:Addr)(es:List Ev):Prop:=∃ vs,H a=some (.lst vs)/\EvA H vs es
noncomputable def AnV (G:Addr->Prop)(H:Hp)(v:V):Ans->Prop
  | none=>v=.non
  | some (s,es)=>∃ p sa ea,v=.ref p/\H p=some (.tup [sa,.ref ea])/\StV H sa s/\EvL H ea es/\G ea
theorem OpV.mono {H H':Hp}{a:Addr}{op:List Tx}(h:OpV H a op)(g:Same H H'):OpV H' a op:=g _ _ h
theorem StV.mono {H H':Hp}{v:V}{s:MS}(h:StV H v s)(g:Same H H'):StV H' v s:=by
  obtain⟨p,o,e,h1,h2⟩:=h
  exact⟨p,o,e,g _ _ h1,h2.mono g⟩
theorem EvV.mono {H H':Hp}{v:V}{e:Ev}(h:EvV H v e)(g:Same H H'):EvV H' v e:=by
  obtain⟨a,e1,h1⟩:=h
  exact⟨a,e1,g _ _ h1⟩
theorem EvA.mono {H H':Hp}{vs:List V}{es:List Ev}(h:EvA H vs es)(g:Same H H'):EvA H' vs es:=by
  induction h with
  | nil=>exact .nil
  | cons h1 h2 ih=>exact .cons (h1.mono g) ih
theorem EvL.mono {H H':Hp}{a:Addr}{es:List Ev}(h:EvL H a es)(g:Same H H'):EvL H' a es:=by
  obtain⟨vs,h1,h2⟩:=h
  exact⟨vs,g _ _ h1,h2.mono g⟩
theorem AnV.mono {G:Addr->Prop}{H H':Hp}{v:V}{r:Ans}(h:AnV G H v r)(g:Same H H'):AnV G H' v r:=by
  cases r with
  | none=>exact h
  | some x=>
    obtain⟨s,es⟩:=x
    obtain⟨p,sa,ea,e1,h1,h2,h3,h4⟩:=h
    exact⟨p,sa,ea,e1,g _ _ h1,h2.mono g,h3.mono g,h4⟩
theorem AnV.imp {G G':Addr->Prop}{H:Hp}{v:V}{r:Ans}(h:AnV G H v r)(k:∀ a,G a->G' a):AnV G' H v r:=by
  cases r with
  | none=>exact h
  | some x=>
    obtain⟨s,es⟩:=x
    obtain⟨p,sa,ea,e1,h1,h2,h3,h4⟩:=h
    exact⟨p,sa,ea,e1,h1,h2,h3,k _ h4⟩
theorem EvA.app {H:Hp}{vs us:List V}{es fs:List Ev}(h:EvA H vs es)(k:EvA H us fs):EvA H (vs++us) (es++fs):=by
  induction h with
  | nil=>exact k
  | cons h1 h2 ih=>exact .cons h1 ih
theorem EvA.len {H:Hp}{vs:List V}{es:List Ev}(h:EvA H vs es):vs.length=es.length:=by
  induction h with
  | nil=>rfl
  | cons h1 h2 ih=>rw [List.length_cons,List.length_cons,ih]
theorem isDs_txs {H:Hp}:∀ (l:List Tx),IsDs H (l.map ft) (l.map tx)
  | []=>by simp only [List.map_nil,IsDs]
  | x::l=>by
    simp only [List.map_cons,IsDs]
    exact⟨_,_,rfl,by simp only [IsDt];exact⟨rfl,rfl⟩,isDs_txs l⟩
theorem StV.dat {H:Hp}{v:V}{s:MS}(h:StV H v s):IsDt H (dS s) v:=by
  obtain⟨p,o,e,h1,h2⟩:=h
  unfold dS
  simp only [IsDt,IsDs]
  refine⟨p,_,e,h1,_,_,rfl,⟨rfl,rfl⟩,_,_,rfl,⟨rfl,rfl⟩,_,_,rfl,⟨o,_,rfl,h2,isDs_txs _⟩,_,_,rfl,⟨rfl,rfl⟩,rfl⟩
theorem EvV.dat {H:Hp}{v:V}{e:Ev}(h:EvV H v e):IsDt H (dE e) v:=by
  obtain⟨a,e1,h1⟩:=h
  unfold dE
  simp only [IsDt]
  exact⟨a,_,e1,h1,isDs_txs _⟩
theorem EvA.dat {H:Hp}{vs:List V}{es:List Ev}(h:EvA H vs es):IsDs H (es.map dE) vs:=by
  induction h with
  | nil=>simp only [List.map_nil,IsDs]
  | cons h1 h2 ih=>
    simp only [List.map_cons,IsDs]
    exact⟨_,_,rfl,h1.dat,ih⟩
theorem EvL.dat {H:Hp}{a:Addr}{es:List Ev}(h:EvL H a es):IsDt H (dEs es) (.ref a):=by
  obtain⟨vs,h1,h2⟩:=h
  unfold dEs
  simp only [IsDt]
  exact⟨a,_,rfl,h1,h2.dat⟩
end L2
namespace L2
open PySem PySem.Spec PySem.Calls PyProof.Rows PySem.W
theorem an_of {G:Addr->Prop}{H:Hp}{p p1 oa ea:Addr}{m w t:Tx}{op:List Tx}{es:List Ev}(hp:H p=none)(hp1:upd H p (.tup [.str (S m),.str (S w),.ref oa,.str (S t)]) p1=none)(ho:OpV H oa op)(he:EvL H ea es)(hg:G ea) :
    Same H (upd (upd H p (.tup [.str (S m),.str (S w),.ref oa,.str (S t)])) p1 (.tup [.ref p,.ref ea]))/\AnV G (upd (upd H p (.tup [.str (S m),.str (S w),.ref oa,.str (S t)])) p1 (.tup [.ref p,.ref ea])) (.ref p1) (some (⟨m,w,op,t⟩,es)):=by
  have g1:Same H (upd H p (.tup [.str (S m),.str (S w),.ref oa,.str (S t)])):=same_upd hp
  have g2:=same_upd (o:=.tup [.ref p,.ref ea]) hp1
  refine⟨g1.trans g2,p1,.ref p,ea,rfl,upd_same,⟨p,oa,rfl,g2 _ _ upd_same,ho.mono (g1.trans g2)⟩,he.mono (g1.trans g2),hg⟩
theorem evl0 {H:Hp}{q:Addr}:EvL (upd H q (.lst [])) q []:=⟨[],upd_same,.nil⟩
theorem evl1 {H:Hp}{p q:Addr}{e:Ev}(hq:upd H p (.tup (e.map tx)) q=none):EvL (upd (upd H p (.tup (e.map tx))) q (.lst [.ref p])) q [e]:=
  ⟨_,upd_same,.cons ⟨p,rfl,same_upd hq _ _ upd_same⟩ .nil⟩
noncomputable def TkV (G:Addr->Prop)(H:Hp)(v:V):Option (Tx×List Ev)->Prop
  | none=>v=.non
  | some (t,es)=>∃ p ea,v=.ref p/\H p=some (.tup [tx t,.ref ea])/\EvL H ea es/\G ea
theorem TkV.mono {G:Addr->Prop}{H H':Hp}{v:V}{r:Option (Tx×List Ev)}(h:TkV G H v r)(g:Same H H'):TkV G H' v r:=by
  cases r with
  | none=>exact h
  | some x=>
    obtain⟨s,es⟩:=x
    obtain⟨p,ea,e1,h1,h2,h3⟩:=h
    exact⟨p,ea,e1,g _ _ h1,h2.mono g,h3⟩
theorem tk_of {G:Addr->Prop}{H:Hp}{p ea:Addr}{t:Tx}{es:List Ev}(hp:H p=none)(he:EvL H ea es)(hg:G ea):Same H (upd H p (.tup [.str (S t),.ref ea]))/\TkV G (upd H p (.tup [.str (S t),.ref ea])) (.ref p) (some (t,es)):=
  ⟨same_upd hp,p,ea,rfl,upd_same,he.mono (same_upd hp),hg⟩
end L2
namespace L2
open PySem PySem.Spec PySem.Calls PyProof.Rows PySem.W
theorem an_up {G:Addr->Prop}{H:Hp}{p p2 oa ea:Addr}{m w t:Tx}{op:List Tx}{es:List Ev}(h1:H p=some (.tup [.str (S m),.str (S w),.ref oa,.str (S t)]))(ho:OpV H oa op)(he:EvL H ea es)(hg:G ea)(hp2:H p2=none) :
    AnV G (upd H p2 (.tup [.ref p,.ref ea])) (.ref p2) (some (⟨m,w,op,t⟩,es)):=by
  have g2:=same_upd (o:=.tup [.ref p,.ref ea]) hp2
  exact⟨p2,.ref p,ea,rfl,upd_same,⟨p,oa,rfl,g2 _ _ h1,ho.mono g2⟩,he.mono g2,hg⟩
theorem tru_tup {K:Frag}{H:Hp}{a:Addr}{xs:List V}(h:H a=some (.tup xs)):TruV K (.ref a) H (!xs.isEmpty):=.inr (.inl ⟨xs,SqT.of h,rfl⟩)
theorem cut_init (xs:List V):cutV xs none (some (-1))=xs.dropLast:=by
  unfold cutV
  rw [HT.sIx_none,List.drop_zero,Nat.sub_zero]
  have:HT.sIx xs.length xs.length (some (-1))=xs.length - 1:=by
    unfold HT.sIx
    simp only []
    rw [if_pos (by decide)]
    lia
  rw [this,List.dropLast_eq_take]
theorem cut_last (xs:List V):cutV xs (some (-1)) none=xs.drop (xs.length - 1):=by
  unfold cutV
  have:HT.sIx xs.length 0 (some (-1))=xs.length - 1:=by
    unfold HT.sIx
    simp only []
    rw [if_pos (by decide)]
    lia
  rw [this,HT.sIx_none]
  exact List.take_of_length_le (by rw [List.length_drop];lia)
theorem map_dropLast (op:List Tx):(op.map tx).dropLast=op.dropLast.map tx:=by rw [List.map_dropLast]
end L2
namespace L2
open PySem PySem.Spec PySem.Calls PyProof.Rows PySem.W
theorem none_of_same {H H':Hp}{p:Addr}(g:Same H H')(h:H' p=none):H p=none:=by
  cases e:H p with
  | none=>rfl
  | some o=>rw [g _ _ e] at h;cases h
theorem atI_last1 {α:Type}(xs:List α):atI xs (-1)=xs.getLast?:=by
  unfold atI ixN
  rw [if_neg (by decide)]
  cases xs with
  | nil=>rfl
  | cons x xs=>
    rw [if_pos (by rw [List.length_cons];lia),List.getLast?_eq_getElem?]
    simp only [Option.bind_some]
    congr 1
    simp
    lia
end L2
namespace L2
open PySem PySem.Spec PySem.Calls PyProof.Rows PySem.W
theorem flat_txs (l:List Tx):(l.map tx).all flatV=true:=by
  rw [List.all_eq_true]
  intro v hv
  obtain⟨x,_,rfl⟩:=List.mem_map.mp hv
  rfl
theorem flat_drop {l:List V}{n:Nat}(h:l.all flatV=true):(l.drop n).all flatV=true:=by
  rw [List.all_eq_true] at h ⊢
  exact fun v hv=>h v (List.mem_of_mem_drop hv)
theorem beq_S (a b:Tx):(S a == S b)=decide (a=b):=by
  rw [Bool.eq_iff_iff,beq_iff_eq,S_inj,decide_eq_true_eq]
theorem eq_last (op:List Tx)(w:Tx):eqS ((op.map tx).drop ((op.map tx).length - 1)) [.str (S w)]=decide (op.getLast? = some w):=by
  rcases List.eq_nil_or_concat op with rfl | ⟨l,z,rfl⟩
  · rfl
  · have e:((l++[z]).map tx).drop (((l++[z]).map tx).length - 1)=[tx z]:=by
      rw [List.map_append,List.length_append]
      simp
    rw [List.concat_eq_append,e,List.getLast?_append]
    simp [eqS,eqV,tx,beq_S]
theorem inV_txs (a:Tx)(l:List Tx):inV (.str (S a)) (l.map fun x=>.str (S x))=decide (a∈l):=by
  unfold inV
  induction l with
  | nil=>rfl
  | cons x l ih=>
    rw [List.map_cons,List.any_cons,ih]
    show((S x == S a)||decide (a∈l))=decide (a∈x::l)
    rw [beq_S,Bool.eq_iff_iff,Bool.or_eq_true,decide_eq_true_eq,decide_eq_true_eq,decide_eq_true_eq,List.mem_cons]
    exact⟨fun h=>h.elim (fun e=>.inl e.symm) .inr,fun h=>h.elim (fun e=>.inl e.symm) .inr⟩
end L2
namespace L2
open PySem PySem.Spec PySem.Calls PyProof.Rows PySem.W
theorem OpV.updL {H:Hp}{a p:Addr}{op:List Tx}{xs ys:List V}(h:OpV H a op)(hp:H p=some (.lst xs)):OpV (upd H p (.lst ys)) a op:=by
  unfold OpV at h ⊢
  rw [upd_ne (ne_of h hp (by intro z;cases z))]
  exact h
theorem StV.updL {H:Hp}{v:V}{s:MS}{p:Addr}{xs ys:List V}(h:StV H v s)(hp:H p=some (.lst xs)):StV (upd H p (.lst ys)) v s:=by
  obtain⟨q,o,e,h1,h2⟩:=h
  exact⟨q,o,e,by rw [upd_ne (ne_of h1 hp (by intro z;cases z))];exact h1,h2.updL hp⟩
theorem EvV.updL {H:Hp}{v:V}{e:Ev}{p:Addr}{xs ys:List V}(h:EvV H v e)(hp:H p=some (.lst xs)):EvV (upd H p (.lst ys)) v e:=by
  obtain⟨q,e1,h1⟩:=h
  exact⟨q,e1,by rw [upd_ne (ne_of h1 hp (by intro z;cases z))];exact h1⟩
theorem EvA.updL {H:Hp}{vs:List V}{es:List Ev}{p:Addr}{xs ys:List V}(h:EvA H vs es)(hp:H p=some (.lst xs)):EvA (upd H p (.lst ys)) vs es:=by
  induction h with
  | nil=>exact .nil
  | cons h1 h2 ih=>exact .cons (h1.updL hp) ih
noncomputable def runM:MS->List Nat->Except Nat (MS×List Ev)
  | s,[]=>.ok (s,[])
  | s,c::r=>match stepM s c with
    | none=>.error 0
    | some (s',es)=>match runM s' r with
      | .error n=>.error (n+1)
      | .ok (s'',fs)=>.ok (s'',es++fs)
def StepOk (s:MS)(r:Ans):Prop:=∀ s' es,r=some (s',es)->s.word.length<=8->s'.word.length<=8/\s'.opens.length<=s.opens.length+1/\es.length<=10
theorem at_ok:∀ e∈atTab,∀ (w:Tx) (op:List Tx) (t:Tx) (c:Nat) (s':MS) (es:List Ev),e.2 w op t c=some (s',es)->w.length<=8->s'.word.length<=8/\s'.opens.length<=op.length+1/\es.length<=10:=by
  have led:∀ op c es s' es',ledOn op c es=some (s',es')->s'.word.length<=8/\s'.opens.length<=op.length/\es'.length<=es.length+1:=by
    intro op c es s' es' h
    simp only [ledOn,comeTo,intoBox] at h
    repeat' split at h
    all_goals (first | cases h | skip)
    all_goals simp
  have shut:∀ op es s' es',boxShut op es=some (s',es')->s'.word.length<=8/\s'.opens.length<=op.length/\es'.length<=es.length+1:=by
    intro op es s' es' h
    simp only [boxShut,comeTo] at h
    split at h
    · cases h
    · cases h
      simp
  have toldK:∀ m op o s' es',toldM m op o=some (s',es')->s'.word.length<=8/\s'.opens.length<=op.length/\es'.length<=10:=by
    intro m op o s' es' h
    cases o with
    | none=>cases h
    | some c=>cases h;simp
  have gathK:∀ m w op t n s' es',n<=8->gath m w op t n=some (s',es')->s'.word.length<=8/\s'.opens.length<=op.length/\es'.length<=10:=by
    intro m w op t n s' es' hn h
    simp only [gath] at h
    split at h
    · cases h
    · cases h
      simp
      lia
  have feedK:∀ t c t' es',feedM t c=some (t',es')->es'.length<=10:=by
    intro t c t' es' h
    simp only [feedM,fedB,fedW,fedS] at h
    repeat' split at h
    all_goals (first | cases h | skip)
    all_goals simp
  have fedK:∀ op t o s' es',fedM op t o=some (s',es')->s'.word.length<=8/\s'.opens.length<=op.length/\es'.length<=10:=by
    intro op t o s' es' h
    cases o with
    | none=>cases h
    | some c=>
      simp only [fedM] at h
      cases hf:feedM t c with
      | none=>rw [hf] at h;cases h
      | some r=>
        obtain⟨t',fs⟩:=r
        rw [hf] at h
        cases h
        exact⟨by simp,by simp,feedK _ _ _ _ hf⟩
  have pre:∀ l:Tx,l.isPrefixOf asisEnd=true->l.length<=8:=by
    intro l h
    rw [List.isPrefixOf_iff_prefix] at h
    have:=h.length_le
    simp at this
    lia
  intro e he w op t c s' es h hw
  simp only [atTab,List.mem_cons,List.not_mem_nil,or_false] at he
  rcases he with rfl | rfl | rfl | rfl | rfl | rfl | rfl | rfl | rfl | rfl | rfl | rfl | rfl | rfl | rfl | rfl | rfl | rfl | rfl | rfl
  all_goals simp only [aText,aMark,aOpen,aName,aSlash,aShut,aGap,aAttr,aIs,aBang,aBare,aCode,aRow,aStroke,aQuoted,aQmark,aDone,aTalk,aTmark,aAsis] at h
  all_goals repeat' split at h
  all_goals first
    | (have:=toldK _ _ _ _ _ h;omega)
    | (have:=gathK _ _ _ _ _ _ _ (by decide) h;omega)
    | (have:=fedK _ _ _ _ _ h;omega)
    | (have:=led _ _ _ _ _ h;simp at this ⊢;omega)
    | (have:=shut _ _ _ _ h;simp at this ⊢;omega)
    | (cases h;simp;omega)
    | (cases h;simp;done)
    | (cases h;have:=pre _ (by assumption);simp at this ⊢;omega)
    | cases h
theorem step_ok (s:MS)(c:Nat):StepOk s (stepM s c):=by
  intro s' es h hw
  unfold stepM at h
  cases hl:atTab.lookup s.mode with
  | none=>rw [hl] at h;cases h
  | some f=>
    rw [hl] at h
    have hm:(s.mode,f)∈atTab:=by
      have:∀ (l:List (Tx×AtF)),l.lookup s.mode=some f->(s.mode,f)∈l:=by
        intro l
        induction l with
        | nil=>intro z;cases z
        | cons e l ih=>
          intro z
          rw [List.lookup_cons] at z
          split at z
          · rename_i hb
            cases z
            have:s.mode=e.1:=by simpa using hb
            rw [this]
            exact List.mem_cons_self
          · exact List.mem_cons_of_mem _ (ih z)
      exact this _ hl
    exact at_ok _ hm _ _ _ _ _ _ h hw
end L2
namespace L2
open PySem PySem.Spec PySem.Calls PyProof.Rows PySem.W
theorem EvA.get {H:Hp}{vs:List V}{es:List Ev}{i:Nat}{v:V}(h:EvA H vs es)(e:vs[i]? = some v):∃ x,es[i]? = some x/\EvV H v x:=by
  induction h generalizing i with
  | nil=>simp at e
  | cons h1 h2 ih=>
    cases i with
    | zero=>simp at e;subst e;exact⟨_,rfl,h1⟩
    | succ i=>simpa using ih (i:=i) (by simpa using e)
theorem depDs_ft:∀ l:List Tx,depDs (l.map ft)=0
  | []=>by simp only [List.map_nil,depDs]
  | x::l=>by simp only [List.map_cons,depDs,depD,depDs_ft l,Nat.max_self]
theorem dep_S (s:MS):depD (dS s)<=2:=by unfold dS;simp only [depD,depDs,depDs_ft];decide
end L2
namespace L2
open PySem PySem.Spec PyProof.Rows
section
variable {κ:Type} [DecidableEq κ]
noncomputable def valV (kvs:List (κ×V))(k:κ):Option V:=(kvs.find? fun kv=>decide (kv.1=k)).map (·.2)
noncomputable def putK (kvs:List (κ×V))(k:κ)(v:V):List (κ×V):=
  if (kvs.any fun kv=>decide (kv.1=k))=true then kvs.map (fun kv=>if kv.1=k then(kv.1,v) else kv) else kvs++[(k,v)]
noncomputable def dropK (kvs:List (κ×V))(k:κ):List (κ×V):=kvs.filter fun kv=>decide (kv.1≠k)
theorem valV_pos {p:κ×V}{r:List (κ×V)}{k:κ}(e:p.1=k):valV (p::r) k=some p.2:=by simp [valV,List.find?_cons,e]
theorem valV_neg {p:κ×V}{r:List (κ×V)}{k:κ}(e:¬ p.1=k):valV (p::r) k=valV r k:=by simp [valV,List.find?_cons,e]
theorem valV_any (k:κ):∀ kvs:List (κ×V),(kvs.any fun kv=>decide (kv.1=k))=(valV kvs k).isSome
  | []=>rfl
  | p::r=>by
    rw [List.any_cons]
    by_cases e:p.1=k
    · simp only [valV_pos e,decide_eq_true e,Bool.true_or,Option.isSome_some]
    · rw [valV_neg e,decide_eq_false e,Bool.false_or];exact valV_any k r
theorem length_putK (kvs:List (κ×V))(k:κ)(v:V):(putK kvs k v).length<=kvs.length+1:=by
  unfold putK
  split
  · rw [List.length_map];lia
  · rw [List.length_append,List.length_cons,List.length_nil];lia
theorem RelO.isSome_eq {o:Option V}{u:Option Value}(r:RelO o u):o.isSome=u.isSome:=by
  cases o with
  | none=>cases u with
    | none=>rfl
    | some _=>exact(show False from r).elim
  | some _=>cases u with
    | none=>exact(show False from r).elim
    | some _=>rfl
theorem RelO.getD {o:Option V}{u:Option Value}{d:V}{d':Value}(r:RelO o u)(rd:RelV d d'):RelV (o.getD d) (u.getD d'):=by
  cases o with
  | none=>cases u with
    | none=>exact rd
    | some _=>exact(show False from r).elim
  | some _=>cases u with
    | none=>exact(show False from r).elim
    | some _=>exact r
theorem KV.val {kvs:List (κ×V)}{vs:List (κ×Value)}(r:KV kvs vs)(k:κ):RelO (valV kvs k) (valueAt vs k):=by
  unfold KV at r
  induction r with
  | nil=>exact True.intro
  | @cons p q ps qs h t ih=>
    obtain⟨h1,h2⟩:=h
    by_cases e:p.1=k
    · have e':q.1=k:=h1.symm.trans e
      have b:valueAt (q::qs) k=some q.2:=by simp [valueAt,List.find?_cons,e']
      rw [valV_pos e,b];exact h2
    · have e':¬ q.1=k:=fun z=>e (h1.trans z)
      have b:valueAt (q::qs) k=valueAt qs k:=by simp [valueAt,List.find?_cons,e']
      rw [valV_neg e,b];exact ih
theorem KV.any {kvs:List (κ×V)}{vs:List (κ×Value)}(r:KV kvs vs)(k:κ):(kvs.any fun kv=>decide (kv.1=k))=vs.any fun kv=>decide (kv.1=k):=by
  unfold KV at r
  induction r with
  | nil=>rfl
  | cons h t ih=>rw [List.any_cons,List.any_cons,ih,h.1]
theorem KV.repl {kvs:List (κ×V)}{vs:List (κ×Value)}(r:KV kvs vs)(k:κ){y:V}{u:Value}(ry:RelV y u) :
    KV (kvs.map fun kv=>if kv.1=k then(kv.1,y) else kv) (vs.map fun kv=>if kv.1=k then(kv.1,u) else kv):=by
  unfold KV at r ⊢
  induction r with
  | nil=>exact .nil
  | @cons p q ps qs h t ih=>
    rw [List.map_cons,List.map_cons]
    refine .cons ?_ ih
    obtain⟨h1,h2⟩:=h
    by_cases e:p.1=k
    · rw [if_pos e,if_pos (h1.symm.trans e)];exact⟨h1,ry⟩
    · rw [if_neg e,if_neg (fun z=>e (h1.trans z))];exact⟨h1,h2⟩
theorem KV.put {kvs:List (κ×V)}{vs:List (κ×Value)}(r:KV kvs vs)(k:κ){y:V}{u:Value}(ry:RelV y u):KV (putK kvs k y) (stored vs k u):=by
  unfold putK stored
  rw [r.any k]
  by_cases e:(vs.any fun kv=>decide (kv.1=k))=true
  · rw [if_pos e,if_pos e];exact r.repl k ry
  · rw [if_neg e,if_neg e];exact Paired.snoc r ⟨rfl,ry⟩
theorem KV.drop {kvs:List (κ×V)}{vs:List (κ×Value)}(r:KV kvs vs)(k:κ):KV (dropK kvs k) (without vs k):=by
  unfold KV at r ⊢
  unfold dropK without
  induction r with
  | nil=>exact .nil
  | @cons p q ps qs h t ih=>
    obtain⟨h1,h2⟩:=h
    rw [List.filter_cons,List.filter_cons]
    by_cases e:p.1=k
    · have a:¬ decide (p.1≠k)=true:=by simp [e]
      have b:¬ decide (q.1≠k)=true:=by simp [h1.symm.trans e]
      rw [if_neg a,if_neg b];exact ih
    · have e':¬ q.1=k:=fun z=>e (h1.trans z)
      have a:decide (p.1≠k)=true:=by simp [e]
      have b:decide (q.1≠k)=true:=by simp [e']
      rw [if_pos a,if_pos b];exact .cons ⟨h1,h2⟩ ih
theorem KV.keys {kvs:List (κ×V)}{vs:List (κ×Value)}(r:KV kvs vs):kvs.map (·.1)=vs.map (·.1):=by
  unfold KV at r
  induction r with
  | nil=>rfl
  | cons h t ih=>rw [List.map_cons,List.map_cons,ih,h.1]
theorem KV.length {kvs:List (κ×V)}{vs:List (κ×Value)}(r:KV kvs vs):kvs.length=vs.length:=Paired.length r
end
theorem kV_is {P:Program}{w:World}{k:Key}{u:Value}(r:RelV (kV k) u):(mixKind P w).is k u=true:=by
  cases k with
  | inl i=>obtain⟨t,e⟩:=(show ∃ t,u=Value.int i t from r);subst e;exact mixKind_int P w i t
  | inr x=>obtain⟨t,e⟩:=(show ∃ t,u=Value.str x t from r);subst e;exact mixKind_str P w x t
theorem items_are {P:Program}{w:World}:∀ {ks:List Key} {us:List Value},Vals (ks.map kV) us->ItemsAre (mixKind P w) ks us
  | [],_,r=>by rw [List.map_nil] at r;cases r;exact .nil
  | k::ks,_,r=>by
    rw [List.map_cons] at r
    cases r with
    | cons h t=>exact .cons (kV_is h) (items_are t)
noncomputable abbrev KT (H:Hp):List (List Key×V)->List (List Key×Addr×Value)->Prop:=Paired fun p q=>p.1=q.1/\H q.2.1=some (.tup (p.1.map kV))/\RelV p.2 q.2.2
theorem KT.val {H:Hp}{kvs:List (List Key×V)}{xs:List (List Key×Addr×Value)}(r:KT H kvs xs)(k:List Key):RelO (valV kvs k) ((atKey xs k).map (·.2)):=by
  induction r with
  | nil=>exact True.intro
  | @cons p q ps qs h t ih=>
    obtain⟨h1,_,h2⟩:=h
    by_cases e:p.1=k
    · have e':q.1=k:=h1.symm.trans e
      have b:atKey (q::qs) k=some q.2:=by simp [atKey,List.find?_cons,e']
      rw [valV_pos e,b];exact h2
    · have e':¬ q.1=k:=fun z=>e (h1.trans z)
      have b:atKey (q::qs) k=atKey qs k:=by simp [atKey,List.find?_cons,e']
      rw [valV_neg e,b];exact ih
theorem KT.repl {H:Hp}{kvs:List (List Key×V)}{xs:List (List Key×Addr×Value)}(r:KT H kvs xs)(k:List Key){y:V}{u:Value}(ry:RelV y u) :
    KT H (kvs.map fun kv=>if kv.1=k then(kv.1,y) else kv) (xs.map (putAt k u)):=by
  induction r with
  | nil=>exact .nil
  | @cons p q ps qs h t ih=>
    rw [List.map_cons,List.map_cons]
    refine .cons ?_ ih
    obtain⟨h1,h2,h3⟩:=h
    unfold putAt
    by_cases e:p.1=k
    · rw [if_pos e,if_pos (h1.symm.trans e)];exact⟨h1,h2,ry⟩
    · rw [if_neg e,if_neg (fun z=>e (h1.trans z))];exact⟨h1,h2,h3⟩
theorem KT.put {H:Hp}{kvs:List (List Key×V)}{xs:List (List Key×Addr×Value)}(r:KT H kvs xs)(k:List Key){b:Addr}{y:V}{u:Value}(hb:H b=some (.tup (k.map kV)))(ry:RelV y u) :
    KT H (putK kvs k y) (storedH xs k b u):=by
  have e:(kvs.any fun kv=>decide (kv.1=k))=(atKey xs k).isSome:=by
    rw [valV_any,(r.val k).isSome_eq,Option.isSome_map]
  unfold putK storedH
  rw [e]
  by_cases q:(atKey xs k).isSome=true
  · rw [if_pos q,if_pos q];exact r.repl k ry
  · rw [if_neg q,if_neg q];exact Paired.snoc r ⟨rfl,hb,ry⟩
theorem KT.keeps {H H':Hp}{kvs:List (List Key×V)}{xs:List (List Key×Addr×Value)}(r:KT H kvs xs)(ht:∀ b ys,H b=some (.tup ys)->H' b=some (.tup ys)):KT H' kvs xs:=
  Paired.mapP r fun _ _ z=>⟨z.1,ht _ _ z.2.1,z.2.2⟩
section
variable {P:Program} {w:World} {H:Hp} {h:Heap} {a:Addr}
theorem rd_of {u:HO}(ok:HOk P w H h)(e:Rd H a u):ObjOk P w H h a u:=e.ok ok
theorem dk_rd {kvs:List (Key×V)}(ok:HOk P w H h)(e:Rd H a (.dK kvs)):kvs.length<=sizeLine/\(a == sysModules)=false/\∃ vs,KV kvs vs/\h.DictOf (mixKind P w) a vs:=
  show ObjOk P w H h a (.dK kvs) from rd_of ok e
theorem dk_of {kvs:List (Key×V)}(ok:HOk P w H h)(e:H a=some (.dK kvs)):kvs.length<=sizeLine/\(a == sysModules)=false/\∃ vs,KV kvs vs/\h.DictOf (mixKind P w) a vs:=dk_rd ok (.inl e)
theorem key_of {ks:List Key}(ok:HOk P w H h)(e:H a=some (.tup (ks.map kV))):(tupleKind (mixKind P w)).is h ks a:=by
  obtain⟨_,its,r,o,h1,h2,n,h3⟩:=(show ObjOk P w H h a (.tup (ks.map kV)) from ok a _ e)
  exact⟨o,its.toArray,n,h1,h2,h3,by simpa using items_are r⟩
theorem dt_rd {kvs:List (List Key×V)}(ok:HOk P w H h)(e:Rd H a (.dT kvs)):kvs.length<=sizeLine/\(a == sysModules)=false /\
    ∃ xs,KT H kvs xs/\h.DictOfH (tupleKind (mixKind P w)) a xs:=by
  obtain⟨z,y,xs,r,o,es,ep,h1,h2,h3,h4,h5⟩:=(show ObjOk P w H h a (.dT kvs) from rd_of ok e)
  refine⟨z,y,xs,r,o,es,ep,h1,h2,h3,h4,fun x hx=>?_,h5⟩
  have all:∀ {l:List (List Key×V)} {m:List (List Key×Addr×Value)},KT H l m->∀ x∈m,(tupleKind (mixKind P w)).is h x.1 x.2.1:=by
    intro l m q
    induction q with
    | nil=>intro x hx;exact nomatch hx
    | @cons p q ps qs hq t ih=>
      intro x hx
      rcases List.mem_cons.mp hx with e | hx
      · subst e
        exact key_of ok (by rw [← hq.1];exact hq.2.1)
      · exact ih x hx
  exact all r x hx
end
def DGet (H:Hp)(a:Addr)(y:V)(r:Option V):Prop:=
  (∃ kvs k,Rd H a (.dK kvs)/\y=kV k/\r=valV kvs k)\/∃ kvs k b,Rd H a (.dT kvs)/\y=.ref b/\H b=some (.tup (k.map kV))/\r=valV kvs k
def DPut (H:Hp)(a:Addr)(y v:V)(H':Hp):Prop:=
  (∃ kvs k,H a=some (.dK kvs)/\y=kV k/\kvs.length<sizeLine/\H' = upd H a (.dK (putK kvs k v))) \/
  ∃ kvs k b,H a=some (.dT kvs)/\y=.ref b/\H b=some (.tup (k.map kV))/\kvs.length<sizeLine/\H' = upd H a (.dT (putK kvs k v))
theorem DGet.k {H:Hp}{a:Addr}{kvs:List (Key×V)}{k:Key}(e:H a=some (.dK kvs)):DGet H a (kV k) (valV kvs k):=.inl ⟨kvs,k,.inl e,rfl,rfl⟩
theorem DGet.t {H:Hp}{a b:Addr}{kvs:List (List Key×V)}{k:List Key}(e:H a=some (.dT kvs))(eb:H b=some (.tup (k.map kV))):DGet H a (.ref b) (valV kvs k):=.inr ⟨kvs,k,b,.inl e,rfl,eb,rfl⟩
theorem DPut.k {H:Hp}{a:Addr}{kvs:List (Key×V)}{k:Key}{v:V}(e:H a=some (.dK kvs))(hl:kvs.length<sizeLine):DPut H a (kV k) v (upd H a (.dK (putK kvs k v))):=.inl ⟨kvs,k,e,rfl,hl,rfl⟩
theorem DPut.t {H:Hp}{a b:Addr}{kvs:List (List Key×V)}{k:List Key}{v:V}(e:H a=some (.dT kvs))(eb:H b=some (.tup (k.map kV)))(hl:kvs.length<sizeLine) :
    DPut H a (.ref b) v (upd H a (.dT (putK kvs k v))):=.inr ⟨kvs,k,b,e,rfl,eb,hl,rfl⟩
section
variable {X:Cx} {pins:List (Addr×Obj)} {σ:St} {H:Hp} {s:Shared} {a:Addr} {y v:V} {u r:Value} {o:Option V} {A:Around} {E:Value->Shared->Prop}
theorem Inv.big (I:Inv X pins σ H s):sysModules<s.heap.objs.size:=by
  have h:mainGlobals<s.heap.objs.size:=(I.mod.glob.keeps I.bk).lt
  exact Nat.lt_trans (by decide) h
theorem d_write {h':Heap}{t':Nat}{ob:HO}(I:Inv X pins σ H s)(mu:Mut (H a))(hs:Heap.SameBut a s.heap h')(he:∃ q,h'.get? a=some q)(new:ObjOk X.prog X.w (upd H a ob) h' a ob) :
    Inv X pins σ (upd H a ob) { s with heap:=h',toks:=t' }:=
  I.write (x:=a) (e:=a) mu (.inl rfl) (fun b q hb z=>(hs.2 b hb).trans z) he new
theorem dk_new {P:Program}{w:World}{H':Hp}{h':Heap}{kvs:List (Key×V)}{vs:List (Key×Value)}(z:kvs.length<=sizeLine)(hd:(a == sysModules)=false)(rel:KV kvs vs)(dd:h'.DictOf (mixKind P w) a vs) :
    ObjOk P w H' h' a (.dK kvs):=⟨z,hd,vs,rel,dd⟩
end
section
variable {X:Cx} {pins:List (Addr×Obj)} {σ:St} {H:Hp} {s:Shared} {a:Addr} {kvs:List (Key×V)} {k:Key} {u:Value} {A:Around} {E:Value->Shared->Prop}
end
noncomputable def tDGet (td ty:TE):TE:=fun σ H Q=>td σ H fun x H1=>ty σ H1 fun y H2=>∃ a v,x=.ref a/\DGet H2 a y (some v)/\Q v H2
section
variable {X:Cx} {o i e value:Expr} {pos pos' tpos:Pos} {td ty tv:TE}
end
theorem dk_empty {P:Program}{w:World}{H:Hp}(h:Heap)(hb:sysModules<h.objs.size):ObjOk P w H (h.push { cls:=.type "dict",data:=.dict #[] }) h.objs.size (.dK []):=
  ⟨Nat.zero_le _,beq_eq_false_iff_ne.mpr (Ne.symm (Nat.ne_of_lt hb)),[],.nil,Heap.DictOf.new h⟩
section
variable {X:Cx} {pos:Pos}
end
noncomputable def tPairs:List (TE×TE)->St->Hp->(List (V×V)->Hp->Prop)->Prop
  | [],_,H,Q=>Q [] H
  | (tk,tv)::r,σ,H,Q=>tk σ H fun x H1=>tv σ H1 fun y H2=>tPairs r σ H2 fun ps H3=>Q ((x,y)::ps) H3
noncomputable abbrev VV:List (V×V)->List (Value×Value)->Prop:=Paired fun p q=>RelV p.1 q.1/\RelV p.2 q.2
def PPs (X:Cx)(pos:Pos)(keys:List (Option Expr))(values:List Expr)(trs:List (TE×TE)):Prop:=
  ∀ (pins:List (Addr×Obj)) (s:Shared) (σ:St) (H:Hp) (Q:List (V×V)->Hp->Prop),Inv X pins σ H s->tPairs trs σ H Q ->
    wpAny (model X.prog X.w) X.A (evalPairs (pairTrees keys values X.env pos)) (fun vs s'=>∃ ps H',Inv X pins σ H' s'/\VV ps vs/\Q ps H') X.xe s
theorem pps_nil {X:Cx}{pos:Pos}:PPs X pos [] [] []:=fun pins s σ H Q I h=>pairTrees_nil_walk ⟨[],H,I,.nil,h⟩
theorem pps_cons {X:Cx}{pos:Pos}{k v:Expr}{ks:List (Option Expr)}{vs:List Expr}{tk tv:TE}{trs:List (TE×TE)}(hk:PE X k tk)(hv:PE X v tv)(hr:PPs X pos ks vs trs) :
    PPs X pos (some k::ks) (v::vs) ((tk,tv)::trs):=fun pins s σ H Q I h=>
  pairTrees_cons_walk (thn (hk pins s σ H _ I h) fun u s1 ⟨x,H1,I1,rx,q1⟩=>thn (hv pins s1 σ H1 _ I1 q1) fun w2 s2 ⟨y,H2,I2,ry,q2⟩=>
    thn (hr pins s2 σ H2 _ I2 q2) fun ws s3 ⟨ps,H3,I3,rel,q3⟩=>⟨(x,y)::ps,H3,I3,.cons ⟨rx,ry⟩ rel,q3⟩)
noncomputable def mergeK (kvs more:List (Key×V)):List (Key×V):=more.foldl (fun acc kv=>putK acc kv.1 kv.2) kvs
theorem KV.merge:∀ {more:List (Key×V)} {rs:List (Key×Value)} {kvs:List (Key×V)} {vs:List (Key×Value)},KV more rs->KV kvs vs->KV (mergeK kvs more) (merged vs rs):=by
  intro more rs kvs vs r
  unfold KV at r
  induction r generalizing kvs vs with
  | nil=>intro q;exact q
  | @cons p q ps qs h t ih=>
    intro r0
    have e:KV (putK kvs p.1 p.2) (stored vs q.1 q.2):=by
      have:=r0.put p.1 h.2
      rw [← h.1];exact this
    exact ih e
theorem length_mergeK:∀ (more kvs:List (Key×V)),(mergeK kvs more).length<=kvs.length+more.length
  | [],kvs=>by show kvs.length<=kvs.length+0;omega
  | p::r,kvs=>by
    have h1:=length_mergeK r (putK kvs p.1 p.2)
    have h2:=length_putK kvs p.1 p.2
    show(mergeK (putK kvs p.1 p.2) r).length<=_
    rw [List.length_cons];lia
theorem carries_of {P:Program}{w:World}:∀ {kvs:List (Key×V)} {ws:List (Value×Value)},VV (kvs.map fun kv=>(kV kv.1,kv.2)) ws->∃ rs,Carries (mixKind P w) ws rs/\KV kvs rs
  | [],_,r=>by rw [List.map_nil] at r;cases r;exact⟨[],True.intro,.nil⟩
  | p::kvs,_,r=>by
    rw [List.map_cons] at r
    cases r with
    | @cons a b as bs h t=>
      obtain⟨rs,c,q⟩:=carries_of (P:=P) (w:=w) t
      obtain⟨b1,b2⟩:=b
      exact⟨(p.1,b2)::rs,⟨kV_is h.1,rfl,c⟩,.cons ⟨rfl,h.2⟩ q⟩
noncomputable def tDisp (trs:List (TE×TE)):TE:=fun σ H Q=>∀ p,H p=none->tPairs trs σ (upd H p (.dK [])) fun ps H2=>H2 p=some (.dK [])/\∃ kvs:List (Key×V),ps=kvs.map (fun kv=>(kV kv.1,kv.2))/\kvs.length<=15/\Q (.ref p) (upd H2 p (.dK (mergeK [] kvs)))
theorem pe_disp {X:Cx}{pos:Pos}{keys:List (Option Expr)}{values:List Expr}{trs:List (TE×TE)}(h:PPs X pos keys values trs)(hall:keys.all (·.isSome)=true)(hl:keys.length=values.length)(h0:keys≠[])
    (h15:keys.length<=15):PE X (.Dict keys values pos) (tDisp trs):=by
  intro pins s σ H Q I q
  have hn:=I.hok.fresh (Nat.le_refl s.heap.objs.size)
  have I1:=I.laid (a:=s.heap.objs.size) (o:=.dK []) (h':=s.heap.push { cls:=.type "dict",data:=.dict #[] }) (t':=s.toks) (fun _ _ q=>Heap.get?_push_of_some _ q) (Nat.le_refl _) (dk_empty s.heap I.big)
  refine wpAny_Dict_walk (knd:=mixKind X.prog X.w) hall hl h0 h15 (thn (h pins _ σ _ _ I1 (q _ hn)) fun ws s2 ⟨ps,H2,I2,rel,e,kvs,ep,lk,q2⟩=>?_)
  subst ep
  obtain⟨rs,c,rk⟩:=carries_of (P:=X.prog) (w:=X.w) rel
  obtain⟨z,hd,vs0,r0,dd⟩:=dk_of I2.hok e
  cases r0
  refine⟨rs,c,dd,fun h' dd' hs=>⟨.ref s.heap.objs.size,_,?_,rfl,q2⟩⟩
  have hz:(mergeK [] kvs).length<=sizeLine:=by
    have h1:=length_mergeK kvs []
    rw [List.length_nil] at h1
    rw [sizeLine_eq];lia
  have he:∃ q,h'.get? s.heap.objs.size=some q:=let ⟨q,_,_,hq,_⟩:=dd';⟨q,hq⟩
  exact d_write I2 (by rw [e];exact True.intro) hs he (dk_new hz hd (rk.merge .nil) dd')
structure M2 (X:Cx)(o:Expr)(m:Str)(apos:Pos)(e f:Expr)(cpos:Pos):Prop where
  base:attributeBase o m X.env (eval o X.env)=eval o X.env
  few:((backTo cpos (starEach [e,f] X.env)).all (fun x=>!x.1)&&(backToKw cpos (keywordEach [] X.env)).all (fun x=>x.1.isSome)
    && decide (([e,f]:List Expr).length+([]:List Keyword).length+(if ([]:List Keyword).isEmpty then 0 else 1)<30))=true
  line:(apos.endLine == cpos.line)=true
  trees:backTo cpos (starEach [e,f] X.env)=[(false,eval e X.env),(false,eval f X.env)]
def IsD (H:Hp)(a:Addr):Prop:=(∃ kvs,Rd H a (.dK kvs))\/∃ kvs,Rd H a (.dT kvs)
theorem isD_at {X:Cx}{pins:List (Addr×Obj)}{σ:St}{H:Hp}{s:Shared}{a:Addr}(I:Inv X pins σ H s)(d:IsD H a) :
    s.TypeIs (.ref a) "dict"/\(∀ b,Value.ref a=.ref b->∃ ob,s.heap.get? b=some ob/\ob.dict=none)/\(a == sysModules)=false:=by
  rcases d with⟨kvs,e⟩ | ⟨kvs,e⟩
  · obtain⟨_,hd,vs,_,dd⟩:=dk_rd I.hok e
    refine⟨dd.typeIs,fun b q=>?_,hd⟩
    cases q
    obtain⟨ob,_,_,h1,h2,_⟩:=dd
    exact⟨ob,h1,h2.2.1⟩
  · obtain⟨_,hd,xs,_,dd⟩:=dt_rd I.hok e
    refine⟨dd.typeIs,fun b q=>?_,hd⟩
    cases q
    obtain⟨ob,_,_,h1,h2,_⟩:=dd
    exact⟨ob,h1,h2.2.1⟩
section
variable {X:Cx} {pins:List (Addr×Obj)} {σ:St} {H:Hp} {s:Shared} {a:Addr} {y d:V} {u r:Value} {o:Option V} {A:Around} {E:Value->Shared->Prop}
theorem d_get2 {Q:Value->Shared->Prop}(hu:A.units+1<cLine)(I:Inv X pins σ H s)(g:DGet H a y o)(ry:RelV y u)(rd:RelV d r)(h:∀ w' s',Inv X pins σ H s'->RelV (o.getD d) w'->Q w' s') :
    wpAny (model X.prog X.w) A (call (.builtin "dict.get") [.ref a,u,r]) Q E s:=by
  rcases g with⟨kvs,k,e,ey,l⟩ | ⟨kvs,k,b,e,ey,eb,l⟩
  · subst ey
    obtain⟨z,hd,vs,rel,dd⟩:=dk_rd I.hok e
    refine call_meetsIn PySem.F.slot_dict_get dd.typeIs PySem.F.entry_dict_get (PySem.F.args_dict_get_3 _ _ _) (meets_dict_get_default (mixKind X.prog X.w) a (kV_is ry) hd r) ⟨_,dd.mapOf,h _ _ (I.tok _) ?_⟩
    rw [l]
    exact(rel.val k).getD rd
  · subst ey
    cases (show u=Value.ref b from ry)
    obtain⟨z,hd,xs,rel,dd⟩:=dt_rd I.hok e
    refine call_meetsIn PySem.F.slot_dict_get dd.typeIs PySem.F.entry_dict_get (PySem.F.args_dict_get_3 _ _ _) (meetsH_dict_get_default (tupleKind (mixKind X.prog X.w)) a b hd r) ⟨tupleKind_room_in1 hu,k,xs,key_of I.hok eb,dd,h _ _ (I.tok _) ?_⟩
    rw [l]
    exact(rel.val k).getD rd
end
noncomputable def tDGet2 (td ty tx:TE):TE:=fun σ H Q=>td σ H fun x H1=>∃ a,x=.ref a/\IsD H1 a/\ty σ H1 fun y H2=>tx σ H2 fun z H3=>∃ o,DGet H3 a y o/\Q (o.getD z) H3
section
variable {X:Cx} {o e f:Expr} {apos cpos:Pos} {td ty tx:TE}
theorem pe_dget2 (hu:X.A.units+1<cLine)(ho:PE X o td)(he:PE X e ty)(hf:PE X f tx)(m:M2 X o "get" apos e f cpos):PE X (.Call (.Attribute o "get" apos) [e,f] [] cpos) (tDGet2 td ty tx):=by
  intro pins s σ H Q I h
  refine wpAny_Call_method m.base m.few m.line PySem.F.plainAttrs_dict PySem.F.slot_dict_get PySem.F.type_dict_get (thn (ho pins s σ H _ I h) fun u s1 ⟨x,H1,I1,rx,a,ex,d,q1⟩=>?_)
  subst ex
  obtain rfl:u=Value.ref a:=rx
  obtain⟨t1,t2,_⟩:=isD_at I1 d
  refine⟨t1,t2,?_⟩
  rw [m.trees]
  refine Calls.callWith_builtin rfl (Calls.evalArgs_plain (Calls.spliced_cons (thn (he pins s1 σ H1 _ I1 q1) fun iv s2 ⟨y,H2,I2,ry,q2⟩=>
    Calls.spliced_cons (thn (hf pins s2 σ H2 _ I2 q2) fun fv s3 ⟨z,H3,I3,rz,ov,g,q3⟩=>Calls.spliced_nil ?_))))
  exact d_get2 hu I3 g ry rz fun w' s4 I4 rw'=>⟨_,H3,I4,rw',q3⟩
end
section
variable {X:Cx} {pins:List (Addr×Obj)} {σ:St} {H:Hp} {s:Shared} {a:Addr} {kvs:List (Key×V)} {A:Around} {E:Value->Shared->Prop}
end
section
variable {X:Cx} {pins:List (Addr×Obj)} {σ:St} {H:Hp} {s:Shared} {a:Addr} {y:V} {u:Value} {A:Around} {E:Value->Shared->Prop}
end
end L2
namespace L2
open PySem PySem.Spec PySem.Calls PyProof.Rows PySem.W
theorem bb_tuple:bootBuiltins "tuple" = some (.type "tuple"):=by decide +kernel
section
variable {X:Cx} {k j:Nat} {x:Str} {p pos:Pos} {e:Expr} {es:List Expr} {tf:TE} {t:TA}
def FnV (P:Program)(w:World)(K:Frag)(mg:Str->Option Value)(base:Heap)(k:Nat)(f:Addr)(sp:Sp):Prop:=∃ fd ps,keepIn K (.ref f)=true/\Binds K fd ps []/\FnOk P w K mg base CX0 k f fd ps sp
noncomputable def tCallV (P:Program)(w:World)(K:Frag)(mg:Str->Option Value)(base:Heap)(k:Nat)(tf:TE)(t:TA):TE:=fun σ H Q=>tf σ H fun v H0=>∃ f sp,v=.ref f/\FnV P w K mg base k f sp/\t σ H0 fun vs H1=>sp vs H1 Q E0
theorem pe_callV (hf:PE X (.Name x p) tf)(hr:Room j X.A)(hk:k<=j)(ha:PA X (e::es) t)
    (he:starEach (e::es) X.env=(false,eval e X.env)::starEach es X.env:=by rfl) (hpl:(backTo pos (starEach es X.env)).any (·.1)=false:=by rfl) :
    PE X (.Call (.Name x p) (e::es) [] pos) (tCallV X.prog X.w X.K X.mg X.base k tf t):=by
  intro pins s σ H Q I h
  refine wpAny_Call_Name_kw (thn (hf pins s σ H _ I h) fun u s0 ⟨v,H0,I0,r0,f,sp,ev,G,q⟩=>?_)
  subst ev
  obtain rfl:u=Value.ref f:=r0
  obtain⟨fd,ps,kp,b,G⟩:=G
  refine PySem.W.callWith_K (h₀:=X.base) I0.ok.mod.kin kp (thn (ha pos pins s0 σ H0 _ I0 q) fun us s1 ⟨vs,H1,I1,r,q⟩=>⟨I1.kIn,?_⟩) he hpl
  exact run_fn (dvs:=[]) (ds:=[]) G (hr.mono hk) b .nil pass0 I1 r (by rw [List.append_nil];exact q)
end
inductive EntK (w:World):List DictEntry->List (Key×V)->Prop
  | nil:EntK w [] []
  | cons {e:DictEntry} {k:Key} {v:V} {es:List DictEntry} {kvs:List (Key×V)}:e.hash=keyH w k->keyIs k e.key=true->RelV v e.val->EntK w es kvs->EntK w (e::es) ((k,v)::kvs)
theorem EntK.keys {P:Program}{w:World}{es:List DictEntry}{kvs:List (Key×V)}(h:EntK w es kvs):∀ e∈es,∃ k,(mixKind P w).is k e.key=true/\e.hash=(mixKind P w).hash k:=by
  induction h with
  | nil=>intro e he;cases he
  | cons h1 h2 h3 h4 ih=>
    intro e he
    rcases List.mem_cons.mp he with rfl | he
    · exact⟨_,h2,h1⟩
    · exact ih e he
theorem EntK.pairs {P:Program}{w:World}{es:List DictEntry}{kvs:List (Key×V)}(h:EntK w es kvs):∃ vs:List (Key×Value),PySem.Pairs (mixKind P w) es vs/\KV kvs vs/\vs.map (·.1)=kvs.map (·.1):=by
  induction h with
  | nil=>exact⟨[],.nil,.nil,rfl⟩
  | @cons e k v es kvs h1 h2 h3 h4 ih=>
    obtain⟨vs,i1,i2,i3⟩:=ih
    exact⟨(k,e.val)::vs,.cons h2 rfl i1,.cons ⟨rfl,h3⟩ i2,by rw [List.map_cons,List.map_cons,i3]⟩
def KDict (w:World)(K:Frag)(a:Addr)(kvs:List (Key×V)):Prop:=(a == sysModules)=false/\∃ o es ep,K.lookup a=some o/\o.ExactDict/\o.data=.dict es ep/\EntK w es.toList kvs/\(kvs.map (·.1)).Nodup
section
variable {X:Cx} {pins:List (Addr×Obj)} {σ:L2.St} {H:Hp} {s:Shared} {a:Addr} {kvs:List (Key×V)}
theorem KDict.at (I:Inv X pins σ H s)(h:KDict X.w X.K a kvs):(a == sysModules)=false/\∃ vs,KV kvs vs/\s.heap.DictOf (mixKind X.prog X.w) a vs:=by
  obtain⟨h0,o,es,ep,h1,h2,h3,h4,h5⟩:=h
  obtain⟨vs,i1,i2,i3⟩:=h4.pairs (P:=X.prog)
  exact⟨h0,vs,i2,o,es,ep,I.kIn a o h1,h2,h3,fun e he=>h4.keys (P:=X.prog) e (by simpa using he),i1,by rw [i3];exact h5⟩
end
section
variable {X:Cx} {x:Str} {p apos cpos:Pos} {e f:Expr} {ty tx':TE} {kvs:List (Key×V)}
noncomputable def tKGet (kvs:List (Key×V))(ty:TE):TE:=fun σ H Q=>ty σ H fun y H1=>∃ k,y=kV k/\Q ((valV kvs k).getD .non) H1
theorem pe_kget (hm:∃ a,X.mg x=some (.ref a)/\KDict X.w X.K a kvs)(he:PE X e ty)(hg:Gl X x:=by rfl) (hd:(x == ("__debug__":Str))=false:=by decide)
    (hbase:attributeBase (.Name x p) "get" X.env (eval (.Name x p) X.env)=eval (.Name x p) X.env:=by rfl)
    (hfew:((backTo cpos (starEach [e] X.env)).all (fun x=>!x.1)&&(backToKw cpos (keywordEach [] X.env)).all (fun x=>x.1.isSome)
      && decide (([e]:List Expr).length+([]:List Keyword).length+(if ([]:List Keyword).isEmpty then 0 else 1)<30))=true:=by rfl)
    (hline:(apos.endLine == cpos.line)=true:=by rfl) (htr:backTo cpos (starEach [e] X.env)=[(false,eval e X.env)]:=by rfl) :
    PE X (.Call (.Attribute (.Name x p) "get" apos) [e] [] cpos) (tKGet kvs ty):=by
  intro pins s σ H Q I h
  obtain⟨a,hm,D⟩:=hm
  refine wpAny_Call_method hbase hfew hline PySem.F.plainAttrs_dict PySem.F.slot_dict_get PySem.F.type_dict_get (ld_glob I hg hm ?_ hd)
  obtain⟨h0,vs,rel,dd⟩:=D.at I
  refine⟨dd.typeIs,fun b q=>?_,?_⟩
  · cases q
    obtain⟨ob,_,_,h1,h2,_⟩:=dd
    exact⟨ob,h1,h2.2.1⟩
  rw [htr]
  refine Calls.callWith_builtin rfl (Calls.evalArgs_plain (Calls.spliced_cons (thn (he pins s σ H _ I h) fun iv s2 ⟨y,H2,I2,ry,k,ey,q2⟩=>Calls.spliced_nil ?_)))
  subst ey
  obtain⟨_,vs2,rel2,dd2⟩:=D.at I2
  refine call_meetsIn PySem.F.slot_dict_get dd2.typeIs PySem.F.entry_dict_get (PySem.F.args_dict_get_2 _ _) (meets_dict_get (mixKind X.prog X.w) a (kV_is ry) h0) ⟨_,dd2.mapOf,_,H2,I2.tok _,?_,q2⟩
  exact(rel2.val k).getD rfl
end
section
variable {X:Cx} {a:Expr} {ta:TE}
noncomputable def tTruK (K:Frag)(ta:TE):TT:=fun σ H Q=>ta σ H fun x H'=>∃ k,TruV K x H' k/\Q k H'
theorem pt_truthK {K:Frag}(hK:X.K=K)(ha:PE X a ta)(he:∀ whole,isTrue a X.env whole=(do let v ← whole;standAt a.pos;holding [v] (truthy v)):=by intro _;rfl):PT X a (tTruK K ta):=by
  subst hK
  exact pt_truth ha he
end
section
variable {X:Cx}
noncomputable def rIsA (K:Frag)(n:String):List V->Hp->VK->Prop:=fun xs H Q=>∃ x t b,xs=[x,.ty n]/\TyOf K H x t/\PySem.W.kitOne K t (.type n)=some b/\Q (.bl b) H
theorem call_isAK {K:Frag}{n:String}(hK:X.K=K):CallR X (.builtin "isinstance") (rIsA K n):=by
  subst hK
  intro pins s σ H xs us Q I r h
  obtain⟨x,t,b,rfl,ty,e,q⟩:=h
  exact call_isinst pins s σ H _ us Q I r ⟨x,n,t,b,rfl,ty,e,q⟩
noncomputable def rTupL (K:Frag):List V->Hp->VK->Prop:=fun xs H Q=>∃ p ys,xs=[.ref p]/\SqL K H p ys/\∀ l,H l=none->Q (.ref l) (upd H l (.tup ys))
noncomputable def rCatU:R2:=fun x y H Q=>∃ a b xs ys,x=.ref a/\y=.ref b/\H a=some (.tup xs)/\H b=some (.tup ys)/\xs.length+ys.length<=1000000/\∀ p H',Same H H'->H' p=some (.tup (xs++ys))->Q (.ref p) H'
theorem op_catU:OpR X (binaryOp .Add) rCatU:=by
  intro pins s σ H x y v u Q I rx ry h
  obtain⟨a,b,xs,ys,rfl,rfl,ha,hb,hz,q⟩:=h
  by_cases hx:xs=[]
  · subst hx
    cases rx
    cases ry
    obtain⟨its,r1,p1,_⟩:=I.tuple (SqT.of ha)
    obtain⟨its2,r2,p2,_⟩:=I.tuple (SqT.of hb)
    obtain⟨⟨cls,dd,data,sl⟩,ho,hc,n,hd⟩:=id p1
    obtain⟨⟨cls2,dd2,data2,sl2⟩,ho2,hc2,n2,hd2⟩:=id p2
    simp only at hc hd hc2 hd2
    subst hc hd hc2 hd2
    have e0:its=[]:=r1.nil_iff.mpr rfl
    exact concat_meets ⟨_,ho,rfl⟩ ⟨_,ho2,rfl⟩ noFill_tuple_add seq_tuple_add PySem.F.slot_tuple_add PySem.F.entry_tuple_add (PySem.F.args_tuple_add_2 _ _)
      (tuple_addW0 a b its.toArray its2.toArray n n2 dd dd2 sl sl2 (by simp [e0])) ⟨ho,ho2,.ref b,H,I,rfl,q b H (Same.refl H) (by rw [List.nil_append];exact hb)⟩
  · refine op_catT pins s σ H _ _ v u Q I rx ry ⟨a,b,xs,ys,rfl,rfl,SqT.of ha,SqT.of hb,hx,by rw [sizeLine_eq];lia,fun e=>q a H (Same.refl H) (by rw [e,List.append_nil];exact ha),fun _ p hp=>q p _ (same_upd hp) upd_same⟩
noncomputable def rStarts:V->List V->Hp->VK->Prop:=fun x vs H Q=>∃ l y,x=.str (S l)/\vs=[.str (S y)]/\Q (.bl (y.isPrefixOf l)) H
theorem starts_S (l y:List Nat):Txt.startswith (S l) (S y)=y.isPrefixOf l:=by
  unfold Txt.startswith Builtin.Str.subAt
  rw [S_len,S_len]
  by_cases h:y.length<=l.length
  · have h1:decide (0+y.length<=l.length)=true:=by simpa using h
    rw [h1,Bool.true_and]
    have e:(S l).cps.extract 0 (0+y.length)=(l.take y.length).toArray:=by
      simp [S]
    rw [e]
    rw [Bool.eq_iff_iff,beq_iff_eq,List.isPrefixOf_iff_prefix,List.prefix_iff_eq_take]
    constructor
    · intro z
      have:=congrArg Array.toList z
      simp [S] at this
      exact this.symm
    · intro z
      rw [← z]
      rfl
  · have h1:decide (0+y.length<=l.length)=false:=by simpa using h
    rw [h1,Bool.false_and]
    symm
    rw [← Bool.not_eq_true,List.isPrefixOf_iff_prefix]
    intro z
    exact h z.length_le
theorem mt_startswithS:MtR X "str.startswith" rStarts:=by
  intro pins s σ H x xs v us Q I rx rs h
  obtain⟨l,y,rfl,rfl,q⟩:=h
  obtain⟨t,rfl⟩:=rx
  obtain⟨u,rfl,t',rfl⟩:=vals1 rs
  refine SC.startswith ⟨.bl _,H,I,rfl,?_⟩
  rw [starts_S]
  exact q
end
theorem lc_strG {l:List Nat}{te:TE}{σ:L2.St}{H:Hp}{Q:VK}(G:Nat->V->Hp->Prop)(hG:∀ c v H1 H2,G c v H1->Same H1 H2->G c v H2)(hU:∀ c v H1 D xs ys,G c v H1->H1 D=some (.lst xs)->G c v (upd H1 D (.lst ys)))(hl:l.length<=sizeLine)
    (he:∀ c∈l,∀ H1,Same H H1->∀ R:VK,(∀ v H2,Same H1 H2->G c v H2->R v H2)->te (some (.str (S [c]))::σ) H1 R)
    (hq:∀ D H2 ys,H D=none->Same H H2->ys.length=l.length->(∀ (i:Nat) c v,l[i]? = some c->ys[i]? = some v->G c v H2)->H2 D=some (.lst ys)->Q (.ref D) H2):lcBody (Its (S l)) tTrue te σ H Q:=by
  intro D hD
  refine⟨fun i m ys H'=>m=l.length - i/\i<=l.length/\ys.length=i/\(∀ (j:Nat) c v,l[j]? = some c->ys[j]? = some v->G c v H')/\Same H H'/\H' D=some (.lst ys),⟨l.length,by simp,Nat.zero_le _,rfl,by simp,same_upd hD,upd_same⟩,?_⟩
  rintro i m ys H' ⟨rfl,hi,hy,hg,sm,hDl⟩
  refine⟨hDl,?_⟩
  by_cases hlt:i<l.length
  · refine .inr ⟨by show i<(S l).cps.size;rw [S_size];exact hlt,fun v H2 y=>?_⟩
    obtain⟨rfl,c,hc,rfl⟩:=y
    rw [S_get] at hc
    have hm:c∈l:=List.mem_of_getElem? hc
    simp only [tTrue,↓reduceIte]
    refine he c hm H2 sm _ fun v H4 s4 gv=>?_
    have hD4:=s4 D _ hDl
    refine⟨hD4,by lia,l.length - (i+1),by lia,rfl,hlt,by simp [hy],fun j c' u e1 e2=>?_,?_,upd_same⟩
    · refine hU _ _ _ _ _ _ ?_ hD4
      by_cases hj:j<ys.length
      · rw [List.getElem?_append_left hj] at e2
        exact hG _ _ _ _ (hg j c' u e1 e2) s4
      · rw [List.getElem?_append_right (by lia)] at e2
        have hj':j - ys.length=0:=by
          by_cases hz:j - ys.length=0
          · exact hz
          · rw [List.getElem?_eq_none_iff.mpr (by simp;lia)] at e2;cases e2
        have ej:j=i:=by lia
        subst ej
        rw [hj'] at e2
        simp at e2
        subst e2
        rw [hc] at e1
        cases e1
        exact gv
    · intro b o e
      rw [upd_ne (ne_of_none e hD)]
      exact s4 b o (sm b o e)
  · have e:i=l.length:=by lia
    subst e
    exact .inl ⟨by show(S l).cps.size<=l.length;rw [S_size];exact Nat.le_refl _,hq D H' ys hD sm hy hg hDl⟩
section
variable {X:Cx} {pins:List (Addr×Obj)} {σ:L2.St} {H:Hp} {s:Shared} {h':Heap}
end
noncomputable def Itz (K:Frag)(l1 l2:Addr):It:=⟨fun i H=>∃ xs ys x y,SqL K H l1 xs/\SqL K H l2 ys/\xs[i]? = some x/\ys[i]? = some y,
  fun i H v H'=>∃ p x y,H p=none/\(∀ xs,SqL K H l1 xs->xs[i]? = some x)/\(∀ ys,SqL K H l2 ys->ys[i]? = some y)/\v=.ref p/\H' = upd H p (.tup [x,y]),
  fun i H=>∃ xs ys,SqL K H l1 xs/\SqL K H l2 ys/\(xs.length<=i\/ys.length<=i)⟩
section
variable {X:Cx}
noncomputable def iZip (K:Frag)(ta:TA):TI:=fun σ H R=>ta σ H fun vs H1=>∃ l1 l2,vs=[.ref l1,.ref l2]/\(∃ xs,SqL K H1 l1 xs)/\(∃ ys,SqL K H1 l2 ys)/\R (Itz K l1 l2) H1
end
end L2
namespace L2
open PySem PySem.Spec PySem.Calls PyProof.Rows PySem.W
theorem hu64 {A:Around}{k:Nat}(hr:Room k A):A.units+64<cLine:=hr.units
section
variable {X:Cx}
noncomputable def rIntB:List V->Hp->VK->Prop:=fun xs H Q=>∃ k,xs=[.bl k]/\Q (.int (if k then 1 else 0)) H
theorem call_intB:CallR X (.type "int") rIntB:=by
  intro pins s σ H xs us Q I r h
  exact call_int1 pins s σ H xs us Q I r (.inr h)
end
theorem OkF.fnv {P:Program}{w:World}{K:Frag}{mg:Str->Option Value}{base:Heap}{j k:Nat}{x:Str}{ps:List Str}{sp:Sp}{a:Addr}(F:OkF P w K mg base j x ps sp)(h:mg x=some (.ref a))(hk:j<=k):FnV P w K mg base k a sp:=by
  obtain⟨f,fd,kp,b,m,G⟩:=F.ex
  have e:f=a:=by
    have:=m.1
    rw [h] at this
    cases this
    rfl
  subst e
  exact⟨fd,ps,kp,b,G.mono hk⟩
end L2
namespace L2
open PySem PySem.Spec PySem.Calls PyProof.Rows PySem.W
section
variable {X:Cx} {K:Frag} {o:Expr} {to:TE} {name:Str} {apos cpos:Pos} {T id:String} {r:V->List V->Hp->VK->Prop}
theorem pe_bm0K (hK:X.K=K)(pa:PlainAttrs T)(slot:Slot T name id)(hty:typeOf (.builtin id)=pure (.type "method_descriptor"))(hm:MtR X id r)(ho:PE X o to)
    (hbase:attributeBase o name X.env (eval o X.env)=eval o X.env:=by rfl) (hline:(apos.endLine == cpos.line)=true:=by rfl):PE X (.Call (.Attribute o name apos) [] [] cpos) (tBM0 K T r to):=by
  subst hK
  exact pe_bm0 pa slot hty hm ho hbase hline
end
end L2
namespace HT
open PySem PySem.Spec PySem.Calls PyProof.Rows PySem.W
section
variable {prog:Program} {w:World} {A:Around} {E:Value->Shared->Prop} {s:Shared}
theorem getItem_tuple_whole {t sl:Addr}{items:Array Value}{vl vu:Value}{lo hi:Option Int}{Q:Value->Shared->Prop}(ht:IsTup s.heap t items)(hs:s.heap.IsSliceOf sl vl vu .none)(pl:IsPart vl lo)(pu:IsPart vu hi)
    (hw:sIx items.size 0 lo=0/\sIx items.size items.size hi=items.size) (h:Q (.ref t) s):wpAny (model prog w) A (getItem (.ref t) (.ref sl)) Q E s:=by
  obtain⟨os,hos,hcs,hds⟩:=id hs
  have hTs:s.TypeIs (.ref sl) "slice":=⟨os,hos,hcs⟩
  unfold getItem
  try with_reducible refine wpAny_holding ?_
  first | refine wpAny_bind (wpAny_pure ?_) | skip
  refine wpAny_bind (wpAny_sequenceKey ht.typeIs (by decide) ?_)
  refine wpAny_bind (wpAny_callSpecial?_slot (name:=Str.ofString "__getitem__") ht.typeIs PyProof.Rows.slot_tuple_getitem
    (wpAny_call_entry PyProof.Rows.slot_tuple_getitem ht.typeIs entry_tuple_getitem ?_ (args_tuple_getitem _ _)))
  show wpAny _ _ (Builtin.Tuple.tupleItemsOf (.ref t) >>= _) _ _ s
  refine wpAny_bind (tupleItemsOf_ ht ?_)
  refine wpAny_bind (wpAny_typeOf hTs ?_)
  rw [if_pos (by decide)]
  refine wpAny_bind (sliceApplied_gen hs pl pu ?_)
  have hyes:(((sIx items.size 0 lo:Nat):Int) == 0&&(1:Int) == 1&&(sIx items.size items.size hi - sIx items.size 0 lo) == items.size)=true:=by
    rw [hw.1,hw.2]
    simp
  show wpAny _ _ (if (((sIx items.size 0 lo:Nat):Int) == 0&&(1:Int) == 1&&(sIx items.size items.size hi - sIx items.size 0 lo) == items.size)=true then _ else _) _ _ s
  rw [if_pos hyes]
  unfold Builtin.Tuple.tupleIsExact
  refine wpAny_bind (wpAny_bind (wpAny_typeOf ht.typeIs (wpAny_pure ?_)))
  rw [if_pos (by decide)]
  exact wpAny_bind (wpAny_rule (wpAny_pure ⟨_,rfl,wpAny_pure h⟩))
end
end HT
namespace L2
open PySem PySem.Spec PySem.Calls PyProof.Rows PySem.W
section
variable {X:Cx}
noncomputable def rSlU:V->Option Int->Option Int->Hp->VK->Prop:=fun x lo hi H Q=>∃ a xs,x=.ref a/\H a=some (.tup xs)/\∀ p H',Same H H'->H' p=some (.tup (cutV xs lo hi))->Q (.ref p) H'
theorem sl_tupU:SlR X rSlU:=by
  intro pins s σ H x v vl vu lo hi sl Q I rx hs pl pu h
  obtain⟨a,xs,rfl,hx,q⟩:=h
  by_cases hw:HT.sIx xs.length 0 lo=0/\HT.sIx xs.length xs.length hi=xs.length
  · cases rx
    obtain⟨its,r,ht,hz⟩:=I.tuple (SqT.of hx)
    have hlen:its.toArray.size=xs.length:=by rw [List.size_toArray];exact r.length.symm
    refine⟨"tuple",_,PyProof.Rows.slot_tuple_getitem.lookup,ht.typeIs,?_⟩
    refine HT.getItem_tuple_whole ht hs pl pu (by rw [hlen];exact hw) ⟨.ref a,H,I,rfl,q a H (Same.refl H) ?_⟩
    rw [hx]
    unfold cutV
    rw [hw.1,hw.2,List.drop_zero,Nat.sub_zero,List.take_length]
  · exact sl_tup pins s σ H _ v vl vu lo hi sl Q I rx hs pl pu ⟨a,xs,rfl,SqT.of hx,hw,fun p hp=>q p _ (same_upd hp) upd_same⟩
end
theorem seq_gen {a b:TS}{D:Ends}{σ:L2.St}{H:Hp}(R:L2.St->Hp->Prop)(hr:∀ σ' H',R σ' H'->b D σ' H')(h:∀ N:L2.St->Hp->Prop,(∀ σ' H',R σ' H'->N σ' H')->a { D with nx:=N } σ H):tSeq a b D σ H:=h (b D) hr
theorem none_of_upd {H:Hp}{p q:Addr}{o:HO}(h:upd H p o q=none):H q=none:=by
  unfold upd at h
  by_cases e:q=p
  · rw [if_pos e] at h;cases h
  · rw [if_neg e] at h;exact h
end L2
namespace L2
open PySem PySem.Spec PySem.Calls PyProof.Rows PySem.W
theorem evA_of {H:Hp}:∀ {l:List Nat} {ys:List V},ys.length=l.length->(∀ (i:Nat) c v,l[i]? = some c->ys[i]? = some v->EvV H v [eSign,[c]])->EvA H ys (l.map fun k=>[eSign,[k]])
  | [],[],_,_=>.nil
  | c::l,y::ys,h,hG=>.cons (hG 0 c y rfl rfl) (evA_of (by simpa using h) fun i c' v e1 e2=>hG (i+1) c' v (by simpa using e1) (by simpa using e2))
  | [],_::_,h,_=>by simp at h
  | _::_,[],h,_=>by simp at h
end L2
namespace L2
open PySem PySem.Spec PySem.Calls PyProof.Rows PySem.W
structure QE (X:Cx)(e:Expr)(t:TE):Prop where
  h:PE X e t
structure QT (X:Cx)(e:Expr)(t:TT):Prop where
  h:PT X e t
structure QW (X:Cx)(e:Expr)(t:TT):Prop where
  h:PW X e t
structure QA (X:Cx)(es:List Expr)(t:TA):Prop where
  h:PA X es t
structure QS (X:Cx)(st:Stmt)(t:TS):Prop where
  h:PS X st t
structure QSs (X:Cx)(st:List Stmt)(t:TS):Prop where
  h:PSs X st t
structure QI (X:Cx)(tg iter:Expr)(wi:TI):Prop where
  h:PI X tg iter wi
structure QG (X:Cx)(target:Expr)(t:TG):Prop where
  h:PG X target t
structure QGs (X:Cx)(ts:List Expr)(t:TGs):Prop where
  h:PGs X ts t
structure QO (X:Cx)(e:Option Expr)(t:TO):Prop where
  h:PO X e t
structure QTs (X:Cx)(ifs:List Expr)(t:TT):Prop where
  h:PTs X ifs t
section
set_option autoImplicit true
set_option relaxedAutoImplicit true
theorem qa_cons {X:Cx}(ha:QE X e te)(hr:QA X es t)(hs:starEach (e::es) X.env=(false,eval e X.env)::starEach es X.env:=by rfl):QA X (e::es) (tCons te t):=⟨pa_cons (ha:=ha.h) (hr:=hr.h) (hs:=hs)⟩
theorem qa_nil {X:Cx}:QA X [] tNil:=⟨pa_nil ⟩
theorem qe_S {X:Cx}{x:Str}{l:List Nat}{j pos}(h:x=S l):QE X (.Constant (.str x) j pos) (tC (.str (S l))):=⟨pe_S (h:=h)⟩
theorem qe_bl {X:Cx}{b j pos}:QE X (.Constant (.bool b) j pos) (tC (.bl b)):=⟨pe_bl ⟩
theorem qe_blt {X:Cx}{v:V}{u:Value}{pos:Pos}(hm:X.mg x=none)(hv:bootBuiltins x=some u)(r:RelV v u)(hg:Gl X x:=by rfl) (hn:x≠"__name__":=by decide) (hd:(x == ("__debug__":Str))=false:=by decide):QE X (.Name x pos) (tC v):=⟨pe_blt (hm:=hm) (hv:=hv) (r:=r) (hg:=hg) (hn:=hn) (hd:=hd)⟩
theorem qe_bm0K {X:Cx}{id:String}{K:Frag}(hK:X.K=K)(pa:PlainAttrs T)(slot:Slot T name id)(hty:typeOf (.builtin id)=pure (.type "method_descriptor"))(hm:MtR X id r)(ho:QE X o to)
    (hbase:attributeBase o name X.env (eval o X.env)=eval o X.env:=by rfl) (hline:(apos.endLine == cpos.line)=true:=by rfl):QE X (.Call (.Attribute o name apos) [] [] cpos) (tBM0 K T r to):=⟨pe_bm0K (hK:=hK) (pa:=pa) (slot:=slot) (hty:=hty) (hm:=hm) (ho:=ho.h) (hbase:=hbase) (hline:=hline)⟩
theorem qe_bmK {X:Cx}{id:String}{K:Frag}(hK:X.K=K)(pa:PlainAttrs T)(slot:Slot T name id)(hty:typeOf (.builtin id)=pure (.type "method_descriptor"))(hm:MtR X id r)(ho:QE X o to)(ha:QA X (e::es) t)
    (hbase:attributeBase o name X.env (eval o X.env)=eval o X.env:=by rfl)
    (hfew:((backTo cpos (starEach (e::es) X.env)).all (fun x=>!x.1)&&(backToKw cpos (keywordEach [] X.env)).all (fun x=>x.1.isSome)
      && decide ((e::es).length+([]:List Keyword).length+(if ([]:List Keyword).isEmpty then 0 else 1)<30))=true:=by rfl)
    (hline:(apos.endLine == cpos.line)=true:=by rfl) (hs:starEach (e::es) X.env=(false,eval e X.env)::starEach es X.env:=by rfl) (hplain:(backTo cpos (starEach es X.env)).any (·.1)=false:=by rfl) :
    QE X (.Call (.Attribute o name apos) (e::es) [] cpos) (tBM K T r to t):=⟨pe_bmK (hK:=hK) (pa:=pa) (slot:=slot) (hty:=hty) (hm:=hm) (ho:=ho.h) (ha:=ha.h) (hbase:=hbase) (hfew:=hfew) (hline:=hline) (hs:=hs) (hplain:=hplain)⟩
theorem qe_callB {X:Cx}{id:String}(hc:CallR X (.builtin id) r)(hg:Gl X x)(hm:X.mg x=none)(hv:bootBuiltins x=some (.builtin id))(ha:QA X (e::es) t)(hn:x≠"__name__":=by decide) (hdb:(x == ("__debug__":Str))=false:=by decide)
    (he:starEach (e::es) X.env=(false,eval e X.env)::starEach es X.env:=by rfl) (hpl:(backTo pos (starEach es X.env)).any (·.1)=false:=by rfl):QE X (.Call (.Name x p) (e::es) [] pos) (tCB r t):=⟨pe_callB (hc:=hc) (hg:=hg) (hm:=hm) (hv:=hv) (ha:=ha.h) (hn:=hn) (hdb:=hdb) (he:=he) (hpl:=hpl)⟩
theorem qe_callF {X:Cx}(F:OkF X.prog X.w X.K X.mg X.base k x ps sp)(hr:Room j X.A)(hk:k<=j)(ha:QA X (e::es) t)(hg:Gl X x:=by rfl) (hdb:(x == ("__debug__":Str))=false:=by decide)
    (he:starEach (e::es) X.env=(false,eval e X.env)::starEach es X.env:=by rfl) (hpl:(backTo pos (starEach es X.env)).any (·.1)=false:=by rfl):QE X (.Call (.Name x p) (e::es) [] pos) (tCall sp [] E0 t):=⟨pe_callF (F:=F) (hr:=hr) (hk:=hk) (ha:=ha.h) (hg:=hg) (hdb:=hdb) (he:=he) (hpl:=hpl)⟩
theorem qe_callF0 {X:Cx}(F:OkF X.prog X.w X.K X.mg X.base k x ps sp)(hr:Room j X.A)(hk:k<=j)(hg:Gl X x:=by rfl) (hdb:(x == ("__debug__":Str))=false:=by decide):QE X (.Call (.Name x p) [] [] pos) (tCall sp [] E0 tNil):=⟨pe_callF0 (F:=F) (hr:=hr) (hk:=hk) (hg:=hg) (hdb:=hdb)⟩
theorem qe_callN {X:Cx}(F:OkX X.prog X.w X.K X.mg X.base k x ps sp)(hr:Room j X.A)(hk:k<=j)(ha:QA X (e::es) t)(hg:Gl X x:=by rfl) (hdb:(x == ("__debug__":Str))=false:=by decide)
    (he:starEach (e::es) X.env=(false,eval e X.env)::starEach es X.env:=by rfl) (hpl:(backTo pos (starEach es X.env)).any (·.1)=false:=by rfl):QE X (.Call (.Name x p) (e::es) [] pos) (tCall sp [] E0 t):=⟨pe_callN (F:=F) (hr:=hr) (hk:=hk) (ha:=ha.h) (hg:=hg) (hdb:=hdb) (he:=he) (hpl:=hpl)⟩
theorem qe_callTy {X:Cx}(hc:CallR X (.type T) r)(hg:Gl X x)(hm:X.mg x=none)(hv:bootBuiltins x=some (.type T))(ha:QA X (e::es) t)(hn:x≠"__name__":=by decide) (hdb:(x == ("__debug__":Str))=false:=by decide)
    (he:starEach (e::es) X.env=(false,eval e X.env)::starEach es X.env:=by rfl) (hpl:(backTo pos (starEach es X.env)).any (·.1)=false:=by rfl):QE X (.Call (.Name x p) (e::es) [] pos) (tCB r t):=⟨pe_callTy (hc:=hc) (hg:=hg) (hm:=hm) (hv:=hv) (ha:=ha.h) (hn:=hn) (hdb:=hdb) (he:=he) (hpl:=hpl)⟩
theorem qe_callV {X:Cx}(hf:QE X (.Name x p) tf)(hr:Room j X.A)(hk:k<=j)(ha:QA X (e::es) t)
    (he:starEach (e::es) X.env=(false,eval e X.env)::starEach es X.env:=by rfl) (hpl:(backTo pos (starEach es X.env)).any (·.1)=false:=by rfl) :
    QE X (.Call (.Name x p) (e::es) [] pos) (tCallV X.prog X.w X.K X.mg X.base k tf t):=⟨pe_callV (hf:=hf.h) (hr:=hr) (hk:=hk) (ha:=ha.h) (he:=he) (hpl:=hpl)⟩
theorem qe_cls {X:Cx}(h:X.mg x=some (.ref a))(hg:Gl X x:=by rfl) (hd:(x == ("__debug__":Str))=false:=by decide):QE X (.Name x pos) (tC (.ref a)):=⟨pe_cls (h:=h) (hg:=hg) (hd:=hd)⟩
theorem qe_cmpR {X:Cx}{op:CmpOp}{r:R2}(ho:OpR X (compareOp op) r)(ha:QE X a ta)(hb:QE X b tb)(hm:behindInMarks op b=false):QE X (.Compare a [op] [b] pos) (tOp r ta tb):=⟨pe_cmpR (ho:=ho) (ha:=ha.h) (hb:=hb.h) (hm:=hm)⟩
theorem qe_gl {X:Cx}{v:V}{pos:Pos}(h:∃ u,X.mg x=some u/\RelV v u)(hg:Gl X x:=by rfl) (hd:(x == ("__debug__":Str))=false:=by decide):QE X (.Name x pos) (tC v):=⟨pe_gl (h:=h) (hg:=hg) (hd:=hd)⟩
theorem qe_ifExp {X:Cx}{c:Expr}(hc:QT X c tA)(ha:QE X a ta)(hb:QE X b tb):QE X (.IfExp c a b pos) (tIf tA ta tb):=⟨pe_ifExp (hc:=hc.h) (ha:=ha.h) (hb:=hb.h)⟩
theorem qe_int {X:Cx}{i j pos}:QE X (.Constant (.int i) j pos) (tC (.int i)):=⟨pe_int ⟩
theorem qe_ix {X:Cx}{r:R2}(hr:IxR X r)(ha:QE X a ta)(hb:QE X b tb)(hs:PlainIx b):QE X (.Subscript a b pos) (tOp r ta tb):=⟨pe_ix (hr:=hr) (ha:=ha.h) (hb:=hb.h) (hs:=hs)⟩
theorem qe_kget {X:Cx}(hm:∃ a,X.mg x=some (.ref a)/\KDict X.w X.K a kvs)(he:QE X e ty)(hg:Gl X x:=by rfl) (hd:(x == ("__debug__":Str))=false:=by decide)
    (hbase:attributeBase (.Name x p) "get" X.env (eval (.Name x p) X.env)=eval (.Name x p) X.env:=by rfl)
    (hfew:((backTo cpos (starEach [e] X.env)).all (fun x=>!x.1)&&(backToKw cpos (keywordEach [] X.env)).all (fun x=>x.1.isSome)
      && decide (([e]:List Expr).length+([]:List Keyword).length+(if ([]:List Keyword).isEmpty then 0 else 1)<30))=true:=by rfl)
    (hline:(apos.endLine == cpos.line)=true:=by rfl) (htr:backTo cpos (starEach [e] X.env)=[(false,eval e X.env)]:=by rfl) :
    QE X (.Call (.Attribute (.Name x p) "get" apos) [e] [] cpos) (tKGet kvs ty):=⟨pe_kget (hm:=hm) (he:=he.h) (hg:=hg) (hd:=hd) (hbase:=hbase) (hfew:=hfew) (hline:=hline) (htr:=htr)⟩
theorem qe_lst {X:Cx}(h:QA X es t):QE X (.List es pos) (tLst t):=⟨pe_lst (h:=h.h)⟩
theorem qe_non {X:Cx}{j pos}:QE X (.Constant .none j pos) (tC .non):=⟨pe_non ⟩
theorem qe_op {X:Cx}{op:Operator}{r:R2}(ho:OpR X (binaryOp op) r)(ha:QE X a ta)(hb:QE X b tb):QE X (.BinOp a op b pos) (tOp r ta tb):=⟨pe_op (ho:=ho) (ha:=ha.h) (hb:=hb.h)⟩
theorem qe_slice {X:Cx}{lo hi:Option Expr}{r:V->Option Int->Option Int->Hp->VK->Prop}(hr:SlR X r)(he:QE X e te)(hl:QO X lo tl)(hu:QO X hi th):QE X (.Subscript e (.Slice lo hi none p2) pos) (tSl r te tl th):=⟨pe_slice (hr:=hr) (he:=he.h) (hl:=hl.h) (hu:=hu.h)⟩
theorem qe_tup {X:Cx}{x1}(h:QA X es t):QE X (.Tuple es x1 pos) (tTup t):=⟨pe_tup (h:=h.h)⟩
theorem qe_un {X:Cx}{op:UnaryOp}{r:V->Hp->VK->Prop}(ho:UnR X (unaryOp op) r)(ha:QE X a ta):QE X (.UnaryOp op a pos) (tUn r ta):=⟨pe_un (ho:=ho) (ha:=ha.h)⟩
theorem qg_name {X:Cx}{i:Nat}{x:Str}(hN:X.N.Nodup)(hi:X.N[i]? = some x)(hx:Loc X.env.scope x)(hf:X.fn x=true\/X.env.scope.names.lookup x=some .local:=by first | exact .inl rfl | exact .inr rfl | assumption):QG X (.Name x pos) (gName i):=⟨pg_name (hN:=hN) (hi:=hi) (hx:=hx) (hf:=hf)⟩
theorem qg_tup {X:Cx}{es:List Expr}{k:Nat}{t:TGs}{n:Nat}(hc:X.calm=true)(h:QGs X es t)
    (hn:(assignEach es X.env).length=n:=by rfl) (hst:(assignEach es X.env).findIdx? (·.1)=none:=by rfl):QG X (.Tuple es k pos) (gTup X.K n t):=⟨pg_tup (hc:=hc) (h:=h.h) (hn:=hn) (hst:=hst)⟩
theorem qgs_cons {X:Cx}{e:Expr}{es:List Expr}{t:TG}{u:TGs}(h1:QG X e t)(h2:QGs X es u)
    (hs:(assignEach (e::es) X.env).map (·.2)=assign e X.env::(assignEach es X.env).map (·.2):=by rfl):QGs X (e::es) (gCons t u):=⟨pgs_cons (h1:=h1.h) (h2:=h2.h) (hs:=hs)⟩
theorem qgs_nil {X:Cx}:QGs X [] gNil:=⟨pgs_nil ⟩
theorem qi_enumS {X:Cx}{a:Expr}{ta:TA}{p pos:Pos}{elts:List Expr}{ek:Nat}{epos:Pos}(hg:Gl X "enumerate")(hm:X.mg "enumerate" = none)(ha:QA X [a] ta)(hs:starEach [a] X.env=[(false,eval a X.env)]:=by rfl) :
    QI X (.Tuple elts ek epos) (.Call (.Name "enumerate" p) [a] [] pos) (iEnumS ta):=⟨pi_enumS (hg:=hg) (hm:=hm) (ha:=ha.h) (hs:=hs)⟩
theorem qi_listK {X:Cx}{K:Frag}{tg l:Expr}{tl:TE}(hK:X.K=K)(hl:QE X l tl):QI X tg l (iList K tl):=⟨pi_listK (hK:=hK) (hl:=hl.h)⟩
theorem qi_range1 {X:Cx}{a:Expr}{ta:TA}{p pos:Pos}(hg:Gl X "range")(hm:X.mg "range" = none)(ha:QA X [a] ta)(hs:starEach [a] X.env=[(false,eval a X.env)]:=by rfl):QI X tg (.Call (.Name "range" p) [a] [] pos) (iRng1 ta):=⟨pi_range1 (hg:=hg) (hm:=hm) (ha:=ha.h) (hs:=hs)⟩
theorem qi_str {X:Cx}{l:Expr}{tl:TE}(hl:QE X l tl):QI X tg l (iStr tl):=⟨pi_str (hl:=hl.h)⟩
theorem qo_none {X:Cx}:QO X none tNoPart:=⟨po_none ⟩
theorem qo_some {X:Cx}(h:QE X e te):QO X (some e) (tPart te):=⟨po_some (h:=h.h)⟩
theorem qs_asg {X:Cx}{tg e:Expr}{te:TE}{g:TG}(he:QE X e te)(hg:QG X tg g)(hs:swapsWithSole [tg] e pos.line X.env=pure false:=by rfl) (hw:swappedStores [tg] e X.env=pure none:=by rfl)
    (h1:(assignEach [tg] X.env).map (·.2)=[assign tg X.env]:=by rfl):QS X (.Assign [tg] e pos) (tAsg te g):=⟨ps_asg (he:=he.h) (hg:=hg.h) (hs:=hs) (hw:=hw) (h1:=h1)⟩
theorem qs_expr {X:Cx}(he:QE X e te)(hs:swapsWith e none pos.line X.env=pure false:=by rfl):QS X (.Expr e pos) (tDrop te):=⟨ps_expr (he:=he.h) (hs:=hs)⟩
theorem qs_for {X:Cx}{iter:Expr}{body:List Stmt}{wi:TI}{g:TG}{tb:TS}{pos:Pos}(hp:PassesOwn (model X.prog X.w) X.A X.env X.xe)(hc:X.calm=true)(hi:QI X tg iter wi)(hg:QG X tg g)(hb:QSs X body tb)
    (hs:∀ x,foldedSetIterable iter X.env x=pure x:=by intro _;rfl):QS X (.For tg iter body [] pos) (tFor wi g tb):=⟨ps_for (hp:=hp) (hc:=hc) (hi:=hi.h) (hg:=hg.h) (hb:=hb.h) (hs:=hs)⟩
theorem qs_if {X:Cx}{c:Expr}{a b:List Stmt}{tc:TT}(hc:QT X c tc)(ha:QSs X a t)(hb:QSs X b u):QS X (.If c a b pos) (tIfS tc t u):=⟨ps_if (hc:=hc.h) (ha:=ha.h) (hb:=hb.h)⟩
theorem qs_never {X:Cx}{st:Stmt}:QS X st tNever:=⟨ps_never ⟩
theorem qs_raise {X:Cx}(hx:Thr X E)(R:Err X.prog X.w X.K X.mg X.base x C f pay)(hr:Room j X.A)(hj:2<=j)(ha:QA X (e::es) t)(hg:Gl X x:=by rfl) (hdb:(x == ("__debug__":Str))=false:=by decide)
    (he:starEach (e::es) X.env=(false,eval e X.env)::starEach es X.env:=by rfl) (hpl:(backTo cpos (starEach es X.env)).any (·.1)=false:=by rfl) :
    QS X (.Raise (some (.Call (.Name x np) (e::es) [] cpos)) none pos) (tRaise C f pay E t):=⟨ps_raise (hx:=hx) (R:=R) (hr:=hr) (hj:=hj) (ha:=ha.h) (hg:=hg) (hdb:=hdb) (he:=he) (hpl:=hpl)⟩
theorem qs_ret {X:Cx}(he:QE X e te):QS X (.Return (some e) pos) (tRet te):=⟨ps_ret (he:=he.h)⟩
theorem qs_set {X:Cx}{i:Nat}{x:Str}{e:Expr}{te:TE}{pos':Pos}(hN:X.N.Nodup)(hi:X.N[i]? = some x)(hx:Loc X.env.scope x)(he:QE X e te)(hs:swapsWith e (some (.Name x pos')) pos.line X.env=pure false:=by rfl) (hf:X.fn x=true\/X.env.scope.names.lookup x=some .local:=by first | exact .inl rfl | exact .inr rfl | assumption) :
    QS X (.Assign [.Name x pos'] e pos) (tAsg te (gName i)):=⟨ps_set (hN:=hN) (hi:=hi) (hx:=hx) (he:=he.h) (hs:=hs) (hf:=hf)⟩
theorem qss_cons {X:Cx}{rest:List Stmt}{st:Stmt}(h1:QS X st t)(h2:QSs X rest u):QSs X (st::rest) (tSeq t u):=⟨pss_cons (h1:=h1.h) (h2:=h2.h)⟩
theorem qss_nil {X:Cx}:QSs X [] tNext:=⟨pss_nil ⟩
theorem qss_one {X:Cx}{st:Stmt}(h1:QS X st t):QSs X [st] t:=⟨pss_one (h1:=h1.h)⟩
theorem qt_cmpR {X:Cx}{op:CmpOp}{r:R2}(ho:OpR X (compareOp op) r)(ha:QE X a ta)(hb:QE X b tb)(hm:behindInMarks op b=false):QT X (.Compare a [op] [b] pos) (tTest (tOp r ta tb)):=⟨pt_cmpR (ho:=ho) (ha:=ha.h) (hb:=hb.h) (hm:=hm)⟩
theorem qt_not {X:Cx}(ha:QT X a tA):QT X (.UnaryOp .Not a pos) (tNot tA):=⟨pt_not (ha:=ha.h)⟩
theorem qt_truthK {X:Cx}{K:Frag}(hK:X.K=K)(ha:QE X a ta)(he:∀ whole,isTrue a X.env whole=(do let v ← whole;standAt a.pos;holding [v] (truthy v)):=by intro _;rfl):QT X a (tTruK K ta):=⟨pt_truthK (hK:=hK) (ha:=ha.h) (he:=he)⟩
theorem qt_val {X:Cx}{e:Expr}{t:TE}(h:QE X e t)(he:∀ whole,isTrue e X.env whole=(do let v ← whole;standAt e.pos;holding [v] (truthy v)):=by intro _;rfl):QT X e (tB t):=⟨pt_val (h:=h.h) (he:=he)⟩
theorem qts_nil {X:Cx}:QTs X [] tTrue:=⟨pts_nil ⟩
theorem qv {X:Cx}(i:Nat){x:Str}{pos:Pos}(hN:X.N[i]? = some x:=by rfl) (hv:Vis X.env.scope x:=by first | exact Or.inl rfl | exact Or.inr (Or.inl rfl) | exact Or.inr (Or.inr rfl)) (hd:(x == ("__debug__":Str))=false:=by decide)
    (hcd:(x == ("__classdict__":Str))=false:=by decide):QE X (.Name x pos) (tVar i):=⟨pv (i:=i) (hN:=hN) (hv:=hv) (hd:=hd) (hcd:=hcd)⟩
theorem qw_and {X:Cx}{rest:List Expr}(ha:QT X a tA)(hb:QW X (.BoolOp .And (b::rest) pos) tB'):QW X (.BoolOp .And (a::b::rest) pos) (tAnd tA tB'):=⟨pw_and (ha:=ha.h) (hb:=hb.h)⟩
theorem qw_and1 {X:Cx}(ha:QT X a tA):QW X (.BoolOp .And [a] pos) tA:=⟨pw_and1 (ha:=ha.h)⟩
theorem qw_or {X:Cx}{rest:List Expr}(ha:QT X a tA)(hb:QW X (.BoolOp .Or (b::rest) pos) tB'):QW X (.BoolOp .Or (a::b::rest) pos) (tOr tA tB'):=⟨pw_or (ha:=ha.h) (hb:=hb.h)⟩
theorem qw_or1 {X:Cx}(ha:QT X a tA):QW X (.BoolOp .Or [a] pos) tA:=⟨pw_or1 (ha:=ha.h)⟩
theorem QW.qt {X:Cx}{e:Expr}{t:TT}(h:QW X e t):QT X e t:=⟨h.h.pt⟩
end
end L2
set_option autoImplicit false
namespace L2
open PySem PySem.Spec PySem.Calls PyProof.Rows PySem.W
section
variable {X:Cx} {pins:List (Addr×Obj)} {σ:St} {H:Hp} {s:Shared} {a b:Addr} {kvs more:List (Key×V)} {A:Around} {E:Value->Shared->Prop}
end
noncomputable def tDUpd (td ty:TE):TE:=fun σ H Q=>td σ H fun x H1=>∃ a,x=.ref a/\IsD H1 a/\ty σ H1 fun y H2=>∃ b kvs more,y=.ref b/\a≠b/\H2 a=some (.dK kvs)/\H2 b=some (.dK more)/\kvs.length+more.length<=sizeLine/\Q .non (upd H2 a (.dK (mergeK kvs more)))
section
variable {X:Cx} {o e:Expr} {apos cpos:Pos} {td ty:TE}
end
structure QPs (X:Cx)(pos:Pos)(keys:List (Option Expr))(values:List Expr)(trs:List (TE×TE)):Prop where
  h:PPs X pos keys values trs
theorem qpp_nil {X:Cx}{pos:Pos}:QPs X pos [] [] []:=⟨pps_nil⟩
theorem qpp_cons {X:Cx}{pos:Pos}{k v:Expr}{ks:List (Option Expr)}{vs:List Expr}{tk tv:TE}{trs:List (TE×TE)}(hk:QE X k tk)(hv:QE X v tv)(hr:QPs X pos ks vs trs):QPs X pos (some k::ks) (v::vs) ((tk,tv)::trs):=⟨pps_cons hk.h hv.h hr.h⟩
theorem qe_disp {X:Cx}{pos:Pos}{keys:List (Option Expr)}{values:List Expr}{trs:List (TE×TE)}(h:QPs X pos keys values trs)(hall:keys.all (·.isSome)=true)(hl:keys.length=values.length)(h0:keys≠[])
    (h15:keys.length<=15):QE X (.Dict keys values pos) (tDisp trs):=⟨pe_disp h.h hall hl h0 h15⟩
end L2
namespace L2
open PySem PySem.Spec PyProof.Rows
section
variable {X:Cx} {tg:Expr}
noncomputable def Itd (lo d:Int)(n:Nat):It:=⟨fun i _=>i<n,fun i H x H'=>H' = H/\x=.int (lo+i * d),fun i _=>n<=i⟩
noncomputable def iRng3 (ta:TA):TI:=fun σ H R=>ta σ H fun vs H1=>∃ i j k:Int,vs=[.int i,.int j,.int k]/\(k≠0/\Builtin.Range.small i j k=true/\Builtin.divisionGoesByPylong (j - i) k=false)/\∃ n:Nat,(n:Int)=Builtin.Range.rangeSize i j k/\R (Itd i k n) H1
end
end L2
namespace L2
open PySem PySem.Spec PyProof.Rows
section
variable {X:Cx} {elt iter:Expr} {x:Str} {px pos:Pos} {ifs:List Expr} {scope:Scope} {wi:TI} {tt:TT} {te:TE}
end
end L2
namespace L2
open PySem PySem.Spec PyProof.Rows
section
variable {X:Cx}
noncomputable def rMulL:R2:=fun x y H Q=>∃ (a:Addr) (xs:List V) (n:Int),x=.ref a/\y=.int n/\H a=some (.lst xs)/\0<=n/\n<=100000/\xs.length * n.toNat<=16777216/\∀ p,H p=none->Q (.ref p) (upd H p (.lst (List.replicate n.toNat xs).flatten))
noncomputable def rIsB:R2:=fun x y H Q=>∃ c,y=.bl c/\((∃ b,x=.bl b/\Q (.bl (b == c)) H))
noncomputable def rIsNotB:R2:=fun x y H Q=>∃ c,y=.bl c/\((∃ b,x=.bl b/\Q (.bl (!(b == c))) H))
noncomputable def rAllB:List V->Hp->VK->Prop:=fun xs H Q=>∃ (p:Addr) (bs:List Bool),xs=[.ref p]/\H p=some (.lst (bs.map V.bl))/\Q (.bl (bs.all id)) H
end
end L2
namespace L2
open PySem PySem.Spec PyProof.Rows
section
variable {X:Cx}
noncomputable def rEqTS:R2:=fun x y H Q=>(∃ (a:Addr) (xs:List V) (z:Str),x=.ref a/\y=.str z/\H a=some (.tup xs)/\Q (.bl false) H)\/∃ l m:List Nat,x=.str (S l)/\y=.str (S m)/\Q (.bl (decide (l=m))) H
end
end L2
namespace L2
open PySem PySem.Spec PyProof.Rows
noncomputable def pdV:V->Option PyData
  | .non=>some .none
  | .bl b=>some (.bool b)
  | .int i=>some (.int i)
  | .str x=>some (.str x)
  | _=>none
noncomputable def pdVs:List V->Option (List PyData)
  | []=>some []
  | v::r=>match pdV v,pdVs r with
    | some d,some ds=>some (d::ds)
    | _,_=>none
inductive PdA (H:Hp):Addr->PyData->Prop
  | lst {a xs ds}:H a=some (.lst xs)->pdVs xs=some ds->PdA H a (.list ds)
  | tup {a xs ds}:H a=some (.tup xs)->pdVs xs=some ds->PdA H a (.tuple ds)
  | dct {a} {kvs:List (Key×V)} {ks vs:List PyData}:H a=some (.dK kvs)->pdVs (kvs.map fun e=>kV e.1)=some ks->pdVs (kvs.map fun e=>e.2)=some vs->PdA H a (.dict (ks.zip vs))
theorem PdA.mono {H H':Hp}{a:Addr}{d:PyData}(h:PdA H a d)(g:Same H H'):PdA H' a d:=by
  cases h with
  | lst h e=>exact .lst (g _ _ h) e
  | tup h e=>exact .tup (g _ _ h) e
  | dct h e k=>exact .dct (g _ _ h) e k
def PdT (H:Hp)(x:V)(d:PyData):Prop:=pdV x=some d\/∃ a,x=.ref a/\PdA H a d
theorem PdT.mono {H H':Hp}{x:V}{d:PyData}(h:PdT H x d)(g:Same H H'):PdT H' x d:=by
  rcases h with h | ⟨a,e,h⟩
  · exact .inl h
  · exact .inr ⟨a,e,h.mono g⟩
noncomputable def rRepr:List V->Hp->VK->Prop:=fun xs H Q=>∃ (x:V) (d:PyData),xs=[x]/\PdT H x d/\d.showable=true/\d.shown.length<=sizeLine/\Q (.str d.shown) H
section
variable {X:Cx} {a b c:Expr} {ta tb tc:TE} {pos:Pos}
end
end L2
namespace L2
open PySem PySem.Spec PyProof.Rows
section
variable {X:Cx}
noncomputable def rMulT:R2:=fun x y H Q=>∃ (a:Addr) (xs:List V) (n:Int),x=.ref a/\y=.int n/\H a=some (.tup xs)/\xs≠[]/\2<=n/\n<=100000/\xs.length * n.toNat<=16777216/\∀ p,H p=none->Q (.ref p) (upd H p (.tup (List.replicate n.toNat xs).flatten))
end
end L2
namespace L2
open PySem PySem.Spec PyProof.Rows
def IsRevT (h:Heap)(a l:Addr)(i:Int):Prop:=∃ o,h.get? a=some o/\o.cls=.type "reversed"/\o.data=.fields #[.ref l,rawInt i]
section
variable {prog:Program} {w:World} {A:Around} {E:Value->Shared->Prop} {s:Shared}
theorem IsRevT.typeIs {a l:Addr}{i:Int}(x:IsRevT s.heap a l i):s.TypeIs (.ref a) "reversed":=let ⟨o,ho,hc,_⟩:=x;⟨o,ho,hc⟩
theorem IsRevT.at {h h':Heap}{a l:Addr}{i:Int}(x:IsRevT h a l i)(e:∀ o,h.get? a=some o->h'.get? a=some o):IsRevT h' a l i:=let ⟨o,ho,r⟩:=x;⟨o,e _ ho,r⟩
end
section
variable {X:Cx} {tg:Expr}
noncomputable def ItRT (K:PySem.W.Frag)(a:Addr)(n:Nat):It:=
  ⟨fun i H=>∃ xs x,SqT K H a xs/\xs.length=n/\xs.reverse[i]? = some x,fun i H x H'=>H' = H/\∀ xs,SqT K H a xs->xs.reverse[i]? = some x,fun i _=>i=n⟩
noncomputable def ItRL (K:PySem.W.Frag)(a:Addr)(n:Nat):It:=
  ⟨fun i H=>∃ xs x,SqL K H a xs/\xs.length=n/\xs.reverse[i]? = some x,fun i H x H'=>H' = H/\∀ xs,SqL K H a xs->xs.reverse[i]? = some x,fun i _=>i=n⟩
noncomputable def iRevT (K:PySem.W.Frag)(ta:TA):TI:=fun σ H R=>ta σ H fun vs H1=>∃ l xs,vs=[.ref l]/\SqT K H1 l xs/\R (ItRT K l xs.length) H1
noncomputable def iRevL (K:PySem.W.Frag)(ta:TA):TI:=fun σ H R=>ta σ H fun vs H1=>∃ l xs,vs=[.ref l]/\SqL K H1 l xs/\R (ItRL K l xs.length) H1
end
end L2
namespace L2
open PySem PySem.Spec PyProof.Rows
noncomputable def repN (c:Nat)(z:List Nat):List Nat->List Nat
  | []=>[]
  | k::r=>(if k=c then z else [k])++repN c z r
section
variable {X:Cx}
variable {st:Stmt} {rest:List Stmt} {t u:TS}
noncomputable def tRepl (c:Nat)(z:List Nat)(to:TE):TE:=fun σ H Q=>to σ H fun x H1=>∃ l,x=.str (S l)/\l.length<=100000/\Q (.str (S (repN c z l))) H1
end
end L2
namespace L2
open PySem PySem.Spec PyProof.Rows
section
variable {X:Cx} {pos:Pos}
end
noncomputable def hide (st:Addr)(H:Hp):Hp:=fun b=>if b=st then none else H b
theorem hide_le {st:Addr}{H:Hp}:Same (hide st H) H:=fun b o h=>by
  unfold hide at h
  split at h
  · cases h
  · exact h
theorem hide_ne {st b:Addr}{H:Hp}(h:b≠st):hide st H b=H b:=if_neg h
theorem hide_st {st:Addr}{H:Hp}:hide st H st=none:=if_pos rfl
theorem hide_mono {st:Addr}{H H':Hp}(g:Same H H'):Same (hide st H) (hide st H'):=fun b o h=>by
  by_cases e:b=st
  · rw [e,hide_st] at h;cases h
  · rw [hide_ne e] at h ⊢;exact g _ _ h
def Sd (K:PySem.W.Frag)(st a:Addr)(ns:List Int)(H:Hp):Prop:=(∃ n:Nat,H st=some (.lst [.ref a,.int n]))/\SqL K (hide st H) a (ns.map V.int)/\ns.length<=63
def Dr (st a:Addr)(H H':Hp):Prop:=Same (hide st H) (hide st H')/\∃ n:Nat,H' st=some (.lst [.ref a,.int n])
theorem Dr.trans {st a:Addr}{H H1 H2:Hp}(h:Dr st a H H1)(k:Dr st a H1 H2):Dr st a H H2:=⟨h.1.trans k.1,k.2⟩
theorem Sd.same {K:PySem.W.Frag}{st a:Addr}{ns:List Int}{H H':Hp}(h:Sd K st a ns H)(g:Same H H'):Dr st a H H':=by
  obtain⟨⟨n,hn⟩,_⟩:=h
  exact⟨hide_mono g,n,g _ _ hn⟩
theorem Sd.refl {K:PySem.W.Frag}{st a:Addr}{ns:List Int}{H:Hp}(h:Sd K st a ns H):Dr st a H H:=h.same (Same.refl H)
theorem Sd.put {K:PySem.W.Frag}{st a:Addr}{ns:List Int}{H:Hp}{n:Nat}(h:Sd K st a ns H):Dr st a H (upd H st (.lst [.ref a,.int n])):=
  ⟨fun b o hb=>by
    by_cases e:b=st
    · rw [e,hide_st] at hb;cases hb
    · rw [hide_ne e] at hb ⊢;rw [upd_ne e];exact hb,n,upd_same⟩
theorem Sd.ne {K:PySem.W.Frag}{st a p:Addr}{ns:List Int}{H:Hp}(h:Sd K st a ns H)(hp:H p=none):p≠st:=by
  obtain⟨⟨n,hn⟩,_⟩:=h
  rintro rfl
  rw [hn] at hp
  cases hp
theorem Sd.new {K:PySem.W.Frag}{st a p:Addr}{ns:List Int}{H:Hp}{o:HO}(h:Sd K st a ns H)(hp:H p=none):Dr st a H (upd H p o)/\hide st (upd H p o) p=some o:=⟨h.same (same_upd hp),by rw [hide_ne (h.ne hp)];exact upd_same⟩
end L2
namespace L2
open PySem PySem.Spec PyProof.Rows
section
variable {X:Cx} {e:Expr} {te:TE} {pos p2:Pos} {K:PySem.W.Frag}
noncomputable def tRevS (K:PySem.W.Frag)(te:TE):TE:=fun σ H Q=>te σ H fun x H1=>∃ a xs,x=.ref a/\SqL K H1 a xs/\∀ p,H1 p=none->Q (.ref p) (upd H1 p (.lst xs.reverse))
theorem qe_dget2 {o f i:Expr}{apos cpos:Pos}{td ty tx:TE}(hu:X.A.units+1<cLine)(ho:QE X o td)(he:QE X i ty)(hf:QE X f tx)(m:M2 X o "get" apos i f cpos):QE X (.Call (.Attribute o "get" apos) [i,f] [] cpos) (tDGet2 td ty tx):=⟨pe_dget2 hu ho.h he.h hf.h m⟩
end
end L2
namespace L2
open PySem PySem.Spec PyProof.Rows
variable {X:Cx}
end L2
namespace L2
open PySem PySem.Spec PySem.Calls PyProof.Rows PySem.W Builtin Builtin.ObjectAttr
section
variable {prog:Program} {w:World} {A:Around} {E:Value->Shared->Prop} {K:Frag} {C:Addr}
end
section
variable {X:Cx} {E:XS} {C:Addr} {x:Str} {e:Expr} {es:List Expr} {t:TA} {np cpos pos:Pos} {j:Nat}
end
structure GotX (K:Frag)(H:Hp)(a C:Addr)(fs:List (Str×V)):Prop where
  cl:XCl K C
  ex:(∃ d,Caught H a C (some d)/\H d=some (.xd fs))\/(fs=[]/\Caught H a C none)
theorem GotX.mono {K:Frag}{H H':Hp}{a C:Addr}{fs:List (Str×V)}(g:GotX K H a C fs)(s:Same H H'):GotX K H' a C fs:=
  ⟨g.cl,g.ex.imp (fun⟨d,c,e⟩=>⟨d,c.mono s,s _ _ e⟩) fun⟨e,c⟩=>⟨e,c.mono s⟩⟩
section
variable {X:Cx} {pins:List (Addr×Obj)} {σ:St} {H:Hp} {s:Shared} {a C:Addr} {fs:List (Str×V)}
end
theorem ps_tryN {X:Cx}{tb:TS}{body:List Stmt}{h₀:ExceptHandler}{hs:List ExceptHandler}{pos:Pos}(hb:∀ (pn:List (Addr×Obj)),PSs (X.tryIn pn fun _ _=>False) body tb):PS X (.Try body (h₀::hs) [] [] pos) tb:=by
  intro pins s σ H D I h
  refine wpAny_Try_except ?_
  refine wpAny_mono (hb (X.pn++pins) [] s σ H D (I.tryIn _) h) (fun f s1 q=>?_) fun _ _ z=>z.elim
  cases f with
  | next=>obtain⟨σ',H',I',q⟩:=q;exact wpAny_execs_nil ⟨σ',H',I'.untry I.ok,q⟩
  | brk=>obtain⟨σ',H',I',q⟩:=q;exact⟨σ',H',I'.untry I.ok,q⟩
  | cont=>obtain⟨σ',H',I',q⟩:=q;exact⟨σ',H',I'.untry I.ok,q⟩
  | ret u=>obtain⟨v,σ',H',I',r,q⟩:=q;exact⟨v,σ',H',I'.untry I.ok,r,q⟩
end L2
namespace L2
open PySem PySem.Spec PySem.Calls PyProof.Rows PySem.W
section
variable {prog:Program} {w:World} {A:Around} {R:Result->Shared->Prop} {I d:Addr} {fp wr:List Addr} {n:Nat} {P:Nat->Value->Prop} {St:Nat->Heap->Prop} {K:Type} [DecidableEq K] {knd:KeyKind prog w K}
end
section
variable {X:Cx} {pins:List (Addr×Obj)} {σ:L2.St} {H:Hp} {s:Shared}
end
end L2
namespace L2
open PySem PySem.Spec PySem.Calls PyProof.Rows PySem.W
section
variable {X:Cx} {pins:List (Addr×Obj)} {σ:L2.St} {H:Hp} {s:Shared}
end
end L2
namespace L2
open PySem PySem.Spec PySem.Calls PyProof.Rows PySem.W
section
variable {P:Program} {w:World} {A:Around} {s:Shared} {a b:Addr} {xs ys:Array Value} {R:Result->Shared->Prop}
end
section
variable {X:Cx} {pins:List (Addr×Obj)} {σ:L2.St} {H:Hp} {s:Shared}
def okV (x:V):Prop:=flatV x=true\/∃ a,x=.ref a
noncomputable def rNeI:R2:=fun x y H Q=>∃ a b xs,x=.ref a/\y=.ref b/\H a=some (.tup xs)/\H b=some (.tup xs)/\(∀ x∈xs,okV x)/\Q (.bl false) H
noncomputable def rEq0 (K:Frag):R2:=fun x y H Q=>∃ a b xs,x=.ref a/\y=.ref b/\SqL K H a xs/\SqL K H b []/\Q (.bl xs.isEmpty) H
noncomputable def rNe0 (K:Frag):R2:=fun x y H Q=>∃ a b xs,x=.ref a/\y=.ref b/\SqL K H a xs/\SqL K H b []/\Q (.bl (!xs.isEmpty)) H
def DcV (H:Hp)(x y:V):Prop:=∃ a b kvs,x=.ref a/\y=.ref b/\H a=some (.dK kvs)/\H b=some (.dK kvs)/\∀ kv∈kvs,okV kv.2
noncomputable def rEqDL (K:Frag):R2:=fun x y H Q=>∃ a b xs ys,x=.ref a/\y=.ref b/\SqL K H a xs/\SqL K H b ys/\xs.length=ys.length/\(∀ (j:Nat) x y,xs[j]? = some x->ys[j]? = some y->DcV H x y)/\Q (.bl true) H
end
section
variable {X:Cx}
noncomputable def rDIn:R2:=fun y x H Q=>∃ a o,x=.ref a/\DGet H a y o/\Q (.bl o.isSome) H
noncomputable def rSetD:TSet:=fun o i v H Q=>∃ a kvs k,o=.ref a/\i=kV k/\H a=some (.dK kvs)/\kvs.length<sizeLine/\Q (upd H a (.dK (putK kvs k v)))
noncomputable def rDictD:List V->Hp->VK->Prop:=fun xs H Q=>∃ a kvs,xs=[.ref a]/\H a=some (.dK kvs)/\∀ p,H p=none->Q (.ref p) (upd H p (.dK kvs))
end
def FnX (P:Program)(w:World)(K:Frag)(mg:Str->Option Value)(base:Heap)(k:Nat)(f:Addr)(sp:Sp):Prop:=∃ fd ps,keepIn K (.ref f)=true/\Binds K fd ps []/\FnOk P w K mg base (CXE P w) k f fd ps sp
section
variable {X:Cx} {k j:Nat} {o i:Expr} {p pos:Pos} {e:Expr} {es:List Expr} {tf:TE} {t:TA} {E:XS}
noncomputable def tCallXV (P:Program)(w:World)(K:Frag)(mg:Str->Option Value)(base:Heap)(k:Nat)(E:XS)(tf:TE)(t:TA):TE:=fun σ H Q=>tf σ H fun v H0=>∃ f sp,v=.ref f/\FnX P w K mg base k f sp/\t σ H0 fun vs H1=>sp vs H1 Q fun c d H'=>E c d σ H'
end
section
variable {X:Cx} {e:Expr} {te:TE}
end
section
variable {X:Cx} {elt iter:Expr} {x:Str} {px pos:Pos} {ifs:List Expr} {scope:Scope} {wi:TI} {tt:TT} {te:TE}
end
noncomputable def rListL (K:Frag):List V->Hp->VK->Prop:=fun xs H Q=>∃ p ys,xs=[.ref p]/\SqL K H p ys/\∀ l,H l=none->Q (.ref l) (upd H l (.lst ys))
end L2
namespace L2
open PySem PySem.Spec PySem.Calls PyProof.Rows PySem.W
structure OkM (P:Program)(w:World)(K:Frag)(mg:Str->Option Value)(base:Heap)(k:Nat)(C:Addr)(m:Str)(ps:List Str)(sp:Sp):Prop where
  ex:∃ (f:Addr) (fd:FuncData),Cls K C/\Meth K C m f/\Binds K fd ps []/\FnOk P w K mg base (CXE P w) k f fd ps sp
structure OkC (P:Program)(w:World)(K:Frag)(mg:Str->Option Value)(base:Heap)(k:Nat)(C:Addr)(x:Str)(ps:List Str)(sp:Sp):Prop where
  ex:∃ (f:Addr) (fd:FuncData),Mk K C f/\Binds K fd ps []/\mg x=some (.ref C)/\FnOk P w K mg base (CXE P w) k f fd ps sp
structure Dm (K:Frag)(C:Addr)(m qual:Str)(st:Stmt)(ps:List Str):Prop where
  ex:∃ (f:Addr) (fd:FuncData),Fun K m qual st f fd/\Binds K fd ps []/\Cls K C/\Meth K C m f
structure Dc (K:Frag)(mg:Str->Option Value)(C:Addr)(x qual:Str)(st:Stmt)(ps:List Str):Prop where
  ex:∃ (f:Addr) (fd:FuncData),Fun K "__init__" qual st f fd/\Binds K fd ps []/\Mk K C f/\mg x=some (.ref C)
section
variable {P:Program} {w:World} {K:Frag} {mg:Str->Option Value} {base:Heap} {k j:Nat} {C:Addr} {m x qual:Str} {st:Stmt} {ps N:List Str} {sp sp':Sp}
theorem OkM.mono (F:OkM P w K mg base j C m ps sp)(h:j<=k):OkM P w K mg base k C m ps sp:=by
  obtain⟨f,fd,c,hm,b,G⟩:=F.ex
  exact⟨f,fd,c,hm,b,G.mono h⟩
theorem OkM.imp (F:OkM P w K mg base k C m ps sp)(h:∀ vs H Q E,sp' vs H Q E->sp vs H Q E):OkM P w K mg base k C m ps sp':=by
  obtain⟨f,fd,c,hm,b,G⟩:=F.ex
  exact⟨f,fd,c,hm,b,G.imp h⟩
theorem Dm.ok (D:Dm K C m qual st ps)(Sc:FnScope N ps (defScope st))(len:∀ vs H Q E,sp vs H Q E->vs.length=ps.length)
    (hbody:∀ (f:Addr) (cdv:Value) (A:Around) (outer:List Env) (s:Shared) (H:Hp) (vs:List V) (Q:VK) (E:XK),Room k (A.deeper (envOfC qual (defScope st) s.heap.objs.size f cdv))->sp vs H Q E ->
      ∃ t,PSs (cxOf (CXE P w) P w K mg base N qual (defScope st) f cdv A outer s H E) (defBody st) t/\t { nx:=fun _ H'=>Q .non H',rt:=Q } (start N vs) H):OkM P w K mg base (k+1) C m ps sp:=by
  obtain⟨f,fd,F,b,cl,hm⟩:=D.ex
  refine⟨f,fd,cl,hm,b,?_⟩
  obtain⟨oc,od,kV,doc,pm,an,cdv,ct,osl,rfl,lk,hcd⟩:=F.ex
  exact fn_of lk hcd Sc len fun A outer s H vs Q E hr h=>hbody f cdv A outer s H vs Q E hr h
theorem Dc.ok (D:Dc K mg C x qual st ps)(Sc:FnScope N ps (defScope st))(len:∀ vs H Q E,sp vs H Q E->vs.length=ps.length)
    (hbody:∀ (f:Addr) (cdv:Value) (A:Around) (outer:List Env) (s:Shared) (H:Hp) (vs:List V) (Q:VK) (E:XK),Room k (A.deeper (envOfC qual (defScope st) s.heap.objs.size f cdv))->sp vs H Q E ->
      ∃ t,PSs (cxOf (CXE P w) P w K mg base N qual (defScope st) f cdv A outer s H E) (defBody st) t/\t { nx:=fun _ H'=>Q .non H',rt:=Q } (start N vs) H):OkC P w K mg base (k+1) C x ps sp:=by
  obtain⟨f,fd,F,b,M,hm⟩:=D.ex
  refine⟨f,fd,M,b,hm,?_⟩
  obtain⟨oc,od,kV,doc,pm,an,cdv,ct,osl,rfl,lk,hcd⟩:=F.ex
  exact fn_of lk hcd Sc len fun A outer s H vs Q E hr h=>hbody f cdv A outer s H vs Q E hr h
end
section
variable {X:Cx} {K:Frag} {k j:Nat} {C:Addr} {x m f:Str} {ps:List Str} {sp:Sp} {p pos apos pos':Pos} {e o value:Expr} {es:List Expr} {to ta tv:TE} {t:TA} {E:XS}
theorem qe_fld (hK:X.K=K)(he:QE X e ta)(hb:attributeBase e f X.env (eval e X.env)=eval e X.env:=by rfl):QE X (.Attribute e f pos) (tFld K ta f):=⟨by subst hK;exact pe_fld he.h hb⟩
theorem qs_fld (hK:X.K=K)(ha:QE X o ta)(hv:QE X value tv)(hs:swapsWith value (some (.Attribute o f pos')) pos.line X.env=pure false:=by rfl):QS X (.Assign [.Attribute o f pos'] value pos) (sFld K ta tv f):=⟨by subst hK;exact ps_fld ha.h hv.h hs⟩
theorem qe_methN {pl:Sem Bool}(F:OkM X.prog X.w X.K X.mg X.base k C m ps sp)(hr:Room j X.A)(hk:k<=j)(ho:QE X o to)(ha:QA X (e::es) t)
    (hst:starEach (e::es) X.env=(false,eval e X.env)::starEach es X.env:=by rfl) (hpl:(backTo pos (starEach es X.env)).any (·.1)=false:=by rfl)
    (ht:eval (.Call (.Attribute o m apos) (e::es) [] pos) X.env=(do
      let ov ← eval o X.env
      standAt apos.atName
      let (f,first) ← holding [ov] (getMethod ov m pl)
      callWith pos f first (backTo pos (starEach (e::es) X.env)) (backToKw pos (keywordEach [] X.env))):=by rfl) :
    QE X (.Call (.Attribute o m apos) (e::es) [] pos) (tMeth C m sp [] E0 to t):=by
  obtain⟨f,fd,cl,hm,b,G⟩:=F.ex
  exact⟨pe_meth ho.h cl hm G (hr.mono hk) b .nil passN ha.h hst hpl ht⟩
theorem qe_makeN (F:OkC X.prog X.w X.K X.mg X.base k C x ps sp)(hr:Room j X.A)(hk:k+1<=j)(ha:QA X (e::es) t)(hg:Gl X x:=by rfl) (hdb:(x == ("__debug__":Str))=false:=by decide)
    (he:starEach (e::es) X.env=(false,eval e X.env)::starEach es X.env:=by rfl) (hpl:(backTo pos (starEach es X.env)).any (·.1)=false:=by rfl):QE X (.Call (.Name x p) (e::es) [] pos) (tMake C sp [] E0 t):=by
  obtain⟨f,fd,M,b,hm,G⟩:=F.ex
  exact⟨pe_make M G (hr.mono hk) hg hm b .nil passN ha.h hdb he hpl⟩
noncomputable def tMethX (C:Addr)(m:Str)(sp:Sp)(E:XS)(ta:TE)(t:TA):TE:=fun σ H Q=>ta σ H fun x H1=>∃ a dx fs,x=.ref a/\H1 a=some (.ins C dx fs)/\fs.lookup m=none/\t σ H1 fun vs H2=>sp (x::vs) H2 Q fun c d H'=>E c d σ H'
theorem qs_tryN {tb:TS}{body:List Stmt}{h₀:ExceptHandler}{hs:List ExceptHandler}(hb:∀ (pn:List (Addr×Obj)),QSs (X.tryIn pn fun _ _=>False) body tb):QS X (.Try body (h₀::hs) [] [] pos) tb:=⟨ps_tryN fun pn=>(hb pn).h⟩
end
end L2
set_option maxHeartbeats 4000000
set_option pp.deepTerms true
set_option pp.maxSteps 200000
namespace My
open PySem L2 PySem.Spec PyProof.Rows
noncomputable def top (i:Nat):Stmt:=PySem.Challenge.pw_sealpress_k73_places_of_holes.main.body.getD i (.Pass ⟨0,0,0,0⟩)
noncomputable abbrev s_sign_of:Stmt:=top 27
noncomputable abbrev N_sign_of:List Str:=["number"]
noncomputable abbrev ps_sign_of:List Str:=["number"]
theorem sc_sign_of:FnScope N_sign_of ps_sign_of (defScope s_sign_of):=⟨rfl,rfl,rfl,by decide +kernel,rfl,by decide +kernel,by decide +kernel⟩
noncomputable abbrev s_sign_told:Stmt:=top 28
noncomputable abbrev N_sign_told:List Str:=["figures","number"]
noncomputable abbrev ps_sign_told:List Str:=["figures"]
theorem sc_sign_told:FnScope N_sign_told ps_sign_told (defScope s_sign_told):=⟨rfl,rfl,rfl,by decide +kernel,rfl,by decide +kernel,by decide +kernel⟩
noncomputable abbrev s_place_of:Stmt:=top 32
noncomputable abbrev N_place_of:List Str:=["state"]
noncomputable abbrev ps_place_of:List Str:=["state"]
theorem sc_place_of:FnScope N_place_of ps_place_of (defScope s_place_of):=⟨rfl,rfl,rfl,by decide +kernel,rfl,by decide +kernel,by decide +kernel⟩
noncomputable abbrev s_fed_between:Stmt:=top 34
noncomputable abbrev N_fed_between:List Str:=["sign"]
noncomputable abbrev ps_fed_between:List Str:=["sign"]
theorem sc_fed_between:FnScope N_fed_between ps_fed_between (defScope s_fed_between):=⟨rfl,rfl,rfl,by decide +kernel,rfl,by decide +kernel,by decide +kernel⟩
noncomputable abbrev s_fed_word:Stmt:=top 35
noncomputable abbrev N_fed_word:List Str:=["sign"]
noncomputable abbrev ps_fed_word:List Str:=["sign"]
theorem sc_fed_word:FnScope N_fed_word ps_fed_word (defScope s_fed_word):=⟨rfl,rfl,rfl,by decide +kernel,rfl,by decide +kernel,by decide +kernel⟩
noncomputable abbrev s_fed_said:Stmt:=top 36
noncomputable abbrev N_fed_said:List Str:=["sign"]
noncomputable abbrev ps_fed_said:List Str:=["sign"]
theorem sc_fed_said:FnScope N_fed_said ps_fed_said (defScope s_fed_said):=⟨rfl,rfl,rfl,by decide +kernel,rfl,by decide +kernel,by decide +kernel⟩
noncomputable abbrev s_feed:Stmt:=top 37
noncomputable abbrev N_feed:List Str:=["talk","sign"]
noncomputable abbrev ps_feed:List Str:=["talk","sign"]
theorem sc_feed:FnScope N_feed ps_feed (defScope s_feed):=⟨rfl,rfl,rfl,by decide +kernel,rfl,by decide +kernel,by decide +kernel⟩
noncomputable abbrev s_come_to:Stmt:=top 41
noncomputable abbrev N_come_to:List Str:=["mode","opens","events"]
noncomputable abbrev ps_come_to:List Str:=["mode","opens","events"]
theorem sc_come_to:FnScope N_come_to ps_come_to (defScope s_come_to):=⟨rfl,rfl,rfl,by decide +kernel,rfl,by decide +kernel,by decide +kernel⟩
noncomputable abbrev s_told:Stmt:=top 42
noncomputable abbrev N_told:List Str:=["mode","opens","sign"]
noncomputable abbrev ps_told:List Str:=["mode","opens","sign"]
theorem sc_told:FnScope N_told ps_told (defScope s_told):=⟨rfl,rfl,rfl,by decide +kernel,rfl,by decide +kernel,by decide +kernel⟩
noncomputable abbrev s_gathered:Stmt:=top 43
noncomputable abbrev N_gathered:List Str:=["mode","word","opens","talk","most"]
noncomputable abbrev ps_gathered:List Str:=["mode","word","opens","talk","most"]
theorem sc_gathered:FnScope N_gathered ps_gathered (defScope s_gathered):=⟨rfl,rfl,rfl,by decide +kernel,rfl,by decide +kernel,by decide +kernel⟩
noncomputable abbrev s_box_shut:Stmt:=top 44
noncomputable abbrev N_box_shut:List Str:=["opens","events"]
noncomputable abbrev ps_box_shut:List Str:=["opens","events"]
theorem sc_box_shut:FnScope N_box_shut ps_box_shut (defScope s_box_shut):=⟨rfl,rfl,rfl,by decide +kernel,rfl,by decide +kernel,by decide +kernel⟩
noncomputable abbrev s_into_box:Stmt:=top 45
noncomputable abbrev N_into_box:List Str:=["opens","events","mode"]
noncomputable abbrev ps_into_box:List Str:=["opens","events"]
theorem sc_into_box:FnScope N_into_box ps_into_box (defScope s_into_box):=⟨rfl,rfl,rfl,by decide +kernel,rfl,by decide +kernel,by decide +kernel⟩
noncomputable abbrev s_led_on:Stmt:=top 46
noncomputable abbrev N_led_on:List Str:=["opens","sign","events"]
noncomputable abbrev ps_led_on:List Str:=["opens","sign","events"]
theorem sc_led_on:FnScope N_led_on ps_led_on (defScope s_led_on):=⟨rfl,rfl,rfl,by decide +kernel,rfl,by decide +kernel,by decide +kernel⟩
noncomputable abbrev s_fed:Stmt:=top 47
noncomputable abbrev N_fed:List Str:=["opens","talk","sign","answer"]
noncomputable abbrev ps_fed:List Str:=["opens","talk","sign"]
theorem sc_fed:FnScope N_fed ps_fed (defScope s_fed):=⟨rfl,rfl,rfl,by decide +kernel,rfl,by decide +kernel,by decide +kernel⟩
noncomputable abbrev s_mark_ended:Stmt:=top 48
noncomputable abbrev N_mark_ended:List Str:=["word","sign"]
noncomputable abbrev ps_mark_ended:List Str:=["word","sign"]
theorem sc_mark_ended:FnScope N_mark_ended ps_mark_ended (defScope s_mark_ended):=⟨rfl,rfl,rfl,by decide +kernel,rfl,by decide +kernel,by decide +kernel⟩
noncomputable abbrev s_at_text:Stmt:=top 49
noncomputable abbrev N_at_text:List Str:=["word","opens","talk","sign"]
noncomputable abbrev ps_at_text:List Str:=["word","opens","talk","sign"]
theorem sc_at_text:FnScope N_at_text ps_at_text (defScope s_at_text):=⟨rfl,rfl,rfl,by decide +kernel,rfl,by decide +kernel,by decide +kernel⟩
noncomputable abbrev s_at_mark:Stmt:=top 50
noncomputable abbrev N_at_mark:List Str:=["word","opens","talk","sign"]
noncomputable abbrev ps_at_mark:List Str:=["word","opens","talk","sign"]
theorem sc_at_mark:FnScope N_at_mark ps_at_mark (defScope s_at_mark):=⟨rfl,rfl,rfl,by decide +kernel,rfl,by decide +kernel,by decide +kernel⟩
noncomputable abbrev s_at_open:Stmt:=top 51
noncomputable abbrev N_at_open:List Str:=["word","opens","talk","sign"]
noncomputable abbrev ps_at_open:List Str:=["word","opens","talk","sign"]
theorem sc_at_open:FnScope N_at_open ps_at_open (defScope s_at_open):=⟨rfl,rfl,rfl,by decide +kernel,rfl,by decide +kernel,by decide +kernel⟩
noncomputable abbrev s_at_name:Stmt:=top 52
noncomputable abbrev N_at_name:List Str:=["word","opens","talk","sign"]
noncomputable abbrev ps_at_name:List Str:=["word","opens","talk","sign"]
theorem sc_at_name:FnScope N_at_name ps_at_name (defScope s_at_name):=⟨rfl,rfl,rfl,by decide +kernel,rfl,by decide +kernel,by decide +kernel⟩
noncomputable abbrev s_at_slash:Stmt:=top 53
noncomputable abbrev N_at_slash:List Str:=["word","opens","talk","sign"]
noncomputable abbrev ps_at_slash:List Str:=["word","opens","talk","sign"]
theorem sc_at_slash:FnScope N_at_slash ps_at_slash (defScope s_at_slash):=⟨rfl,rfl,rfl,by decide +kernel,rfl,by decide +kernel,by decide +kernel⟩
noncomputable abbrev s_at_shut:Stmt:=top 54
noncomputable abbrev N_at_shut:List Str:=["word","opens","talk","sign"]
noncomputable abbrev ps_at_shut:List Str:=["word","opens","talk","sign"]
theorem sc_at_shut:FnScope N_at_shut ps_at_shut (defScope s_at_shut):=⟨rfl,rfl,rfl,by decide +kernel,rfl,by decide +kernel,by decide +kernel⟩
noncomputable abbrev s_at_gap:Stmt:=top 55
noncomputable abbrev N_at_gap:List Str:=["word","opens","talk","sign"]
noncomputable abbrev ps_at_gap:List Str:=["word","opens","talk","sign"]
theorem sc_at_gap:FnScope N_at_gap ps_at_gap (defScope s_at_gap):=⟨rfl,rfl,rfl,by decide +kernel,rfl,by decide +kernel,by decide +kernel⟩
noncomputable abbrev s_at_attr:Stmt:=top 56
noncomputable abbrev N_at_attr:List Str:=["word","opens","talk","sign"]
noncomputable abbrev ps_at_attr:List Str:=["word","opens","talk","sign"]
theorem sc_at_attr:FnScope N_at_attr ps_at_attr (defScope s_at_attr):=⟨rfl,rfl,rfl,by decide +kernel,rfl,by decide +kernel,by decide +kernel⟩
noncomputable abbrev s_at_is:Stmt:=top 57
noncomputable abbrev N_at_is:List Str:=["word","opens","talk","sign"]
noncomputable abbrev ps_at_is:List Str:=["word","opens","talk","sign"]
theorem sc_at_is:FnScope N_at_is ps_at_is (defScope s_at_is):=⟨rfl,rfl,rfl,by decide +kernel,rfl,by decide +kernel,by decide +kernel⟩
noncomputable abbrev s_at_bang:Stmt:=top 58
noncomputable abbrev N_at_bang:List Str:=["word","opens","talk","sign"]
noncomputable abbrev ps_at_bang:List Str:=["word","opens","talk","sign"]
theorem sc_at_bang:FnScope N_at_bang ps_at_bang (defScope s_at_bang):=⟨rfl,rfl,rfl,by decide +kernel,rfl,by decide +kernel,by decide +kernel⟩
noncomputable abbrev s_at_bare:Stmt:=top 59
noncomputable abbrev N_at_bare:List Str:=["word","opens","talk","sign"]
noncomputable abbrev ps_at_bare:List Str:=["word","opens","talk","sign"]
theorem sc_at_bare:FnScope N_at_bare ps_at_bare (defScope s_at_bare):=⟨rfl,rfl,rfl,by decide +kernel,rfl,by decide +kernel,by decide +kernel⟩
noncomputable abbrev s_at_code:Stmt:=top 60
noncomputable abbrev N_at_code:List Str:=["word","opens","talk","sign"]
noncomputable abbrev ps_at_code:List Str:=["word","opens","talk","sign"]
theorem sc_at_code:FnScope N_at_code ps_at_code (defScope s_at_code):=⟨rfl,rfl,rfl,by decide +kernel,rfl,by decide +kernel,by decide +kernel⟩
noncomputable abbrev s_at_row:Stmt:=top 61
noncomputable abbrev N_at_row:List Str:=["word","opens","talk","sign"]
noncomputable abbrev ps_at_row:List Str:=["word","opens","talk","sign"]
theorem sc_at_row:FnScope N_at_row ps_at_row (defScope s_at_row):=⟨rfl,rfl,rfl,by decide +kernel,rfl,by decide +kernel,by decide +kernel⟩
noncomputable abbrev s_at_stroke:Stmt:=top 62
noncomputable abbrev N_at_stroke:List Str:=["word","opens","talk","sign"]
noncomputable abbrev ps_at_stroke:List Str:=["word","opens","talk","sign"]
theorem sc_at_stroke:FnScope N_at_stroke ps_at_stroke (defScope s_at_stroke):=⟨rfl,rfl,rfl,by decide +kernel,rfl,by decide +kernel,by decide +kernel⟩
noncomputable abbrev s_at_quoted:Stmt:=top 63
noncomputable abbrev N_at_quoted:List Str:=["word","opens","talk","sign"]
noncomputable abbrev ps_at_quoted:List Str:=["word","opens","talk","sign"]
theorem sc_at_quoted:FnScope N_at_quoted ps_at_quoted (defScope s_at_quoted):=⟨rfl,rfl,rfl,by decide +kernel,rfl,by decide +kernel,by decide +kernel⟩
noncomputable abbrev s_at_qmark:Stmt:=top 64
noncomputable abbrev N_at_qmark:List Str:=["word","opens","talk","sign"]
noncomputable abbrev ps_at_qmark:List Str:=["word","opens","talk","sign"]
theorem sc_at_qmark:FnScope N_at_qmark ps_at_qmark (defScope s_at_qmark):=⟨rfl,rfl,rfl,by decide +kernel,rfl,by decide +kernel,by decide +kernel⟩
noncomputable abbrev s_at_done:Stmt:=top 65
noncomputable abbrev N_at_done:List Str:=["word","opens","talk","sign"]
noncomputable abbrev ps_at_done:List Str:=["word","opens","talk","sign"]
theorem sc_at_done:FnScope N_at_done ps_at_done (defScope s_at_done):=⟨rfl,rfl,rfl,by decide +kernel,rfl,by decide +kernel,by decide +kernel⟩
noncomputable abbrev s_at_talk:Stmt:=top 66
noncomputable abbrev N_at_talk:List Str:=["word","opens","talk","sign"]
noncomputable abbrev ps_at_talk:List Str:=["word","opens","talk","sign"]
theorem sc_at_talk:FnScope N_at_talk ps_at_talk (defScope s_at_talk):=⟨rfl,rfl,rfl,by decide +kernel,rfl,by decide +kernel,by decide +kernel⟩
noncomputable abbrev s_at_tmark:Stmt:=top 67
noncomputable abbrev N_at_tmark:List Str:=["word","opens","talk","sign"]
noncomputable abbrev ps_at_tmark:List Str:=["word","opens","talk","sign"]
theorem sc_at_tmark:FnScope N_at_tmark ps_at_tmark (defScope s_at_tmark):=⟨rfl,rfl,rfl,by decide +kernel,rfl,by decide +kernel,by decide +kernel⟩
noncomputable abbrev s_at_asis:Stmt:=top 68
noncomputable abbrev N_at_asis:List Str:=["word","opens","talk","sign","grown","events"]
noncomputable abbrev ps_at_asis:List Str:=["word","opens","talk","sign"]
theorem sc_at_asis:FnScope N_at_asis ps_at_asis (defScope s_at_asis):=⟨rfl,rfl,rfl,by decide +kernel,rfl,by decide +kernel,by decide +kernel⟩
noncomputable abbrev s_moved:Stmt:=top 70
noncomputable abbrev N_moved:List Str:=["state","sign","act"]
noncomputable abbrev ps_moved:List Str:=["state","sign"]
theorem sc_moved:FnScope N_moved ps_moved (defScope s_moved):=⟨rfl,rfl,rfl,by decide +kernel,rfl,by decide +kernel,by decide +kernel⟩
noncomputable abbrev s_begin:Stmt:=top 72
noncomputable abbrev N_begin:List Str:=[]
noncomputable abbrev ps_begin:List Str:=[]
theorem sc_begin:FnScope N_begin ps_begin (defScope s_begin):=⟨rfl,rfl,rfl,by decide +kernel,rfl,by decide +kernel,by decide +kernel⟩
noncomputable abbrev s_step:Stmt:=top 73
noncomputable abbrev N_step:List Str:=["state","sign"]
noncomputable abbrev ps_step:List Str:=["state","sign"]
theorem sc_step:FnScope N_step ps_step (defScope s_step):=⟨rfl,rfl,rfl,by decide +kernel,rfl,by decide +kernel,by decide +kernel⟩
noncomputable abbrev s_run:Stmt:=top 74
noncomputable abbrev N_run:List Str:=["state","text","now","events","at","sign","answer"]
noncomputable abbrev ps_run:List Str:=["state","text"]
theorem sc_run:FnScope N_run ps_run (defScope s_run):=⟨rfl,rfl,rfl,by decide +kernel,rfl,by decide +kernel,by decide +kernel⟩
noncomputable abbrev s_is_end:Stmt:=top 75
noncomputable abbrev N_is_end:List Str:=["state"]
noncomputable abbrev ps_is_end:List Str:=["state"]
theorem sc_is_end:FnScope N_is_end ps_is_end (defScope s_is_end):=⟨rfl,rfl,rfl,by decide +kernel,rfl,by decide +kernel,by decide +kernel⟩
noncomputable abbrev s_floored:Stmt:=top 76
noncomputable abbrev N_floored:List Str:=["state"]
noncomputable abbrev ps_floored:List Str:=["state"]
theorem sc_floored:FnScope N_floored ps_floored (defScope s_floored):=⟨rfl,rfl,rfl,by decide +kernel,rfl,by decide +kernel,by decide +kernel⟩
noncomputable abbrev s_Spot___init__:Stmt:=inClass (top 78) 0
noncomputable abbrev N_Spot___init__:List Str:=["self","state","turns","many"]
noncomputable abbrev ps_Spot___init__:List Str:=["self","state","turns","many"]
theorem sc_Spot___init__:FnScope N_Spot___init__ ps_Spot___init__ (defScope s_Spot___init__):=⟨rfl,rfl,rfl,by decide +kernel,rfl,by decide +kernel,by decide +kernel⟩
noncomputable abbrev N_Spot_shown:List Str:=["self"]
noncomputable abbrev s_Spot_met:Stmt:=inClass (top 78) 2
noncomputable abbrev N_Spot_met:List Str:=["self","state"]
noncomputable abbrev ps_Spot_met:List Str:=["self","state"]
theorem sc_Spot_met:FnScope N_Spot_met ps_Spot_met (defScope s_Spot_met):=⟨rfl,rfl,rfl,by decide +kernel,rfl,by decide +kernel,by decide +kernel⟩
noncomputable abbrev s_Spot_turned:Stmt:=inClass (top 78) 3
noncomputable abbrev N_Spot_turned:List Str:=["self","turn"]
noncomputable abbrev ps_Spot_turned:List Str:=["self","turn"]
theorem sc_Spot_turned:FnScope N_Spot_turned ps_Spot_turned (defScope s_Spot_turned):=⟨rfl,rfl,rfl,by decide +kernel,rfl,by decide +kernel,by decide +kernel⟩
noncomputable abbrev s_Looking___init__:Stmt:=inClass (top 79) 0
noncomputable abbrev N_Looking___init__:List Str:=["self","kept"]
noncomputable abbrev ps_Looking___init__:List Str:=["self","kept"]
theorem sc_Looking___init__:FnScope N_Looking___init__ ps_Looking___init__ (defScope s_Looking___init__):=⟨rfl,rfl,rfl,by decide +kernel,rfl,by decide +kernel,by decide +kernel⟩
noncomputable abbrev s_Looking_look_all:Stmt:=inClass (top 79) 1
noncomputable abbrev N_Looking_look_all:List Str:=["self","pieces","spot","now","piece"]
noncomputable abbrev ps_Looking_look_all:List Str:=["self","pieces","spot"]
theorem sc_Looking_look_all:FnScope N_Looking_look_all ps_Looking_look_all (defScope s_Looking_look_all):=⟨rfl,rfl,rfl,by decide +kernel,rfl,by decide +kernel,by decide +kernel⟩
noncomputable abbrev s_Looking_look_piece:Stmt:=inClass (top 79) 2
noncomputable abbrev N_Looking_look_piece:List Str:=["self","piece","spot","word"]
noncomputable abbrev ps_Looking_look_piece:List Str:=["self","piece","spot"]
theorem sc_Looking_look_piece:FnScope N_Looking_look_piece ps_Looking_look_piece (defScope s_Looking_look_piece):=⟨rfl,rfl,rfl,by decide +kernel,rfl,by decide +kernel,by decide +kernel⟩
noncomputable abbrev s_Looking_look_literal:Stmt:=inClass (top 79) 3
noncomputable abbrev N_Looking_look_literal:List Str:=["self","piece","spot","answer","refusal"]
noncomputable abbrev ps_Looking_look_literal:List Str:=["self","piece","spot"]
theorem sc_Looking_look_literal:FnScope N_Looking_look_literal ps_Looking_look_literal (defScope s_Looking_look_literal):=⟨rfl,rfl,rfl,by decide +kernel,rfl,by decide +kernel,by decide +kernel⟩
noncomputable abbrev s_Looking_look_hole:Stmt:=inClass (top 79) 4
noncomputable abbrev N_Looking_look_hole:List Str:=["self","piece","spot","place"]
noncomputable abbrev ps_Looking_look_hole:List Str:=["self","piece","spot"]
theorem sc_Looking_look_hole:FnScope N_Looking_look_hole ps_Looking_look_hole (defScope s_Looking_look_hole):=⟨rfl,rfl,rfl,by decide +kernel,rfl,by decide +kernel,by decide +kernel⟩
noncomputable abbrev s_Looking_look_each:Stmt:=inClass (top 79) 5
noncomputable abbrev N_Looking_look_each:List Str:=["self","piece","spot","passed","end"]
noncomputable abbrev ps_Looking_look_each:List Str:=["self","piece","spot"]
theorem sc_Looking_look_each:FnScope N_Looking_look_each ps_Looking_look_each (defScope s_Looking_look_each):=⟨rfl,rfl,rfl,by decide +kernel,rfl,by decide +kernel,by decide +kernel⟩
noncomputable abbrev s_Looking_look_if:Stmt:=inClass (top 79) 6
noncomputable abbrev N_Looking_look_if:List Str:=["self","piece","spot","one","other"]
noncomputable abbrev ps_Looking_look_if:List Str:=["self","piece","spot"]
theorem sc_Looking_look_if:FnScope N_Looking_look_if ps_Looking_look_if (defScope s_Looking_look_if):=⟨rfl,rfl,rfl,by decide +kernel,rfl,by decide +kernel,by decide +kernel⟩
noncomputable abbrev s_Looking_look_seat:Stmt:=inClass (top 79) 7
noncomputable abbrev N_Looking_look_seat:List Str:=["self","piece","spot","floor","end"]
noncomputable abbrev ps_Looking_look_seat:List Str:=["self","piece","spot"]
theorem sc_Looking_look_seat:FnScope N_Looking_look_seat ps_Looking_look_seat (defScope s_Looking_look_seat):=⟨rfl,rfl,rfl,by decide +kernel,rfl,by decide +kernel,by decide +kernel⟩
noncomputable abbrev N_Looking_look_drawn:List Str:=["self","piece","spot","pair","part","first","behind"]
noncomputable abbrev s_looked_at:Stmt:=top 80
noncomputable abbrev N_looked_at:List Str:=["pieces","kept","looking","end"]
noncomputable abbrev ps_looked_at:List Str:=["pieces","kept"]
theorem sc_looked_at:FnScope N_looked_at ps_looked_at (defScope s_looked_at):=⟨rfl,rfl,rfl,by decide +kernel,rfl,by decide +kernel,by decide +kernel⟩
noncomputable abbrev s_look:Stmt:=top 81
noncomputable abbrev N_look:List Str:=["pieces"]
noncomputable abbrev ps_look:List Str:=["pieces"]
theorem sc_look:FnScope N_look ps_look (defScope s_look):=⟨rfl,rfl,rfl,by decide +kernel,rfl,by decide +kernel,by decide +kernel⟩
noncomputable abbrev s__law_cell:Stmt:=top 83
noncomputable abbrev N__law_cell:List Str:=["_law_script","_law_k","_law_number"]
noncomputable abbrev ps__law_cell:List Str:=["_law_script","_law_k"]
theorem sc__law_cell:FnScope N__law_cell ps__law_cell (defScope s__law_cell):=⟨rfl,rfl,rfl,by decide +kernel,rfl,by decide +kernel,by decide +kernel⟩
noncomputable abbrev s__law_mix:Stmt:=top 84
noncomputable abbrev N__law_mix:List Str:=["_law_cell_here","_law_k","_law_many","_law_first","_law_second","_law_number"]
noncomputable abbrev ps__law_mix:List Str:=["_law_cell_here","_law_k","_law_many"]
theorem sc__law_mix:FnScope N__law_mix ps__law_mix (defScope s__law_mix):=⟨rfl,rfl,rfl,by decide +kernel,rfl,by decide +kernel,by decide +kernel⟩
noncomputable abbrev N__law_other:List Str:=["_law_e"]
noncomputable abbrev s__law_part:Stmt:=top 86
noncomputable abbrev N__law_part:List Str:=["_law_cell_here","_law_k"]
noncomputable abbrev ps__law_part:List Str:=["_law_cell_here","_law_k"]
theorem sc__law_part:FnScope N__law_part ps__law_part (defScope s__law_part):=⟨rfl,rfl,rfl,by decide +kernel,rfl,by decide +kernel,by decide +kernel⟩
noncomputable abbrev N__law_fault:List Str:=["_law_word","_law_mark","_law_kind","_law_bad","_law_ahead","_law_turn"]
noncomputable abbrev s__law_good:Stmt:=top 88
noncomputable abbrev N__law_good:List Str:=["_law_cell_here","_law_kind","_law_deep","_law_plants","_law_found","_law_due","_law_k","_law_plant","_law_more"]
noncomputable abbrev ps__law_good:List Str:=["_law_cell_here","_law_kind","_law_deep","_law_plants"]
theorem sc__law_good:FnScope N__law_good ps__law_good (defScope s__law_good):=⟨rfl,rfl,rfl,by decide +kernel,rfl,by decide +kernel,by decide +kernel⟩
noncomputable abbrev s__law_some:Stmt:=top 89
noncomputable abbrev N__law_some:List Str:=["_law_cell_here","_law_kind","_law_deep","_law_plants","_law_way","_law_name","_law_one","_law_due","_law_other_here","_law_word"]
noncomputable abbrev ps__law_some:List Str:=["_law_cell_here","_law_kind","_law_deep","_law_plants"]
theorem sc__law_some:FnScope N__law_some ps__law_some (defScope s__law_some):=⟨rfl,rfl,rfl,by decide +kernel,rfl,by decide +kernel,by decide +kernel⟩
noncomputable abbrev s__law_within:Stmt:=top 90
noncomputable abbrev N__law_within:List Str:=["_law_cell_here","_law_lead","_law_kind","_law_close","_law_deep","_law_plants","_law_one","_law_due"]
noncomputable abbrev ps__law_within:List Str:=["_law_cell_here","_law_lead","_law_kind","_law_close","_law_deep","_law_plants"]
theorem sc__law_within:FnScope N__law_within ps__law_within (defScope s__law_within):=⟨rfl,rfl,rfl,by decide +kernel,rfl,by decide +kernel,by decide +kernel⟩
noncomputable abbrev s__law_compound:Stmt:=top 91
noncomputable abbrev N__law_compound:List Str:=["_law_cell_here","_law_kind","_law_deep","_law_plants","_law_way","_law_lead","_law_tag","_law_due","_law_inner","_law_more"]
noncomputable abbrev ps__law_compound:List Str:=["_law_cell_here","_law_kind","_law_deep","_law_plants"]
theorem sc__law_compound:FnScope N__law_compound ps__law_compound (defScope s__law_compound):=⟨rfl,rfl,rfl,by decide +kernel,rfl,by decide +kernel,by decide +kernel⟩
noncomputable abbrev s__law_made:Stmt:=top 92
noncomputable abbrev N__law_made:List Str:=["_law_cell_here","_law_plants","_law_found","_law_due","_law_plant"]
noncomputable abbrev ps__law_made:List Str:=["_law_cell_here","_law_plants"]
theorem sc__law_made:FnScope N__law_made ps__law_made (defScope s__law_made):=⟨rfl,rfl,rfl,by decide +kernel,rfl,by decide +kernel,by decide +kernel⟩
noncomputable abbrev s__law_looked:Stmt:=top 93
noncomputable abbrev N__law_looked:List Str:=["_law_pieces","_law_found","_law_e"]
noncomputable abbrev ps__law_looked:List Str:=["_law_pieces"]
theorem sc__law_looked:FnScope N__law_looked ps__law_looked (defScope s__law_looked):=⟨rfl,rfl,rfl,by decide +kernel,rfl,by decide +kernel,by decide +kernel⟩
noncomputable abbrev N__law_refusal:List Str:=["_law_e"]
noncomputable abbrev s__law_is:Stmt:=top 95
noncomputable abbrev N__law_is:List Str:=["_law_found","_law_due","_law_row"]
noncomputable abbrev ps__law_is:List Str:=["_law_found","_law_due"]
theorem sc__law_is:FnScope N__law_is ps__law_is (defScope s__law_is):=⟨rfl,rfl,rfl,by decide +kernel,rfl,by decide +kernel,by decide +kernel⟩
noncomputable abbrev s_law:Stmt:=top 96
noncomputable abbrev N_law:List Str:=["_law_script","_law_k","_law_cell_here","_law_pieces","_law_due","_law_found","_law_holes","_law_branches","_law_asis"]
noncomputable abbrev ps_law:List Str:=["_law_script"]
theorem sc_law:FnScope N_law ps_law (defScope s_law):=⟨rfl,rfl,rfl,by decide +kernel,rfl,by decide +kernel,by decide +kernel⟩
noncomputable abbrev s_i_Unread:Stmt:=inClass (top 4) 0
theorem sc_i_Unread:FnScope ["self","at"] ["self","at"] (defScope s_i_Unread):=⟨rfl,rfl,rfl,by decide +kernel,rfl,by decide +kernel,by decide +kernel⟩
theorem cxK {CX:CXT}{P:Program}{w:World}{K:PySem.W.Frag}{mg:Str->Option Value}{base:Heap}{N:List Str}{qual:Str}{scope:Scope}{f:Addr}{cd:Value}{A:Around}{outer:List Env}{s:Shared}{H:Hp}{E:XK}:(cxOf CX P w K mg base N qual scope f cd A outer s H E).nox.K=K:=rfl
theorem cxK0 {CX:CXT}{P:Program}{w:World}{K:PySem.W.Frag}{mg:Str->Option Value}{base:Heap}{N:List Str}{qual:Str}{scope:Scope}{f:Addr}{cd:Value}{A:Around}{outer:List Env}{s:Shared}{H:Hp}{E:XK}:(cxOf CX P w K mg base N qual scope f cd A outer s H E).K=K:=rfl
theorem nc0:((0:Nat):Int)=0:=rfl
theorem nc1:((1:Nat):Int)=1:=rfl
theorem nc2:((2:Nat):Int)=2:=rfl
theorem nc3:((3:Nat):Int)=3:=rfl
theorem nc94:((94:Nat):Int)=94:=rfl
theorem blkK {X:Cx}{x:Str}{scope:Scope}{cl:List (Str×Addr)}{C:Addr}{s3:Shared}{H3:Hp}{fp:List Addr}:(blk X x scope cl C s3 H3 fp).K=X.K:=rfl
theorem tyV_str {K:PySem.W.Frag}{x:Str}{H:Hp}:tyV K "str" (.str x) H=True:=by simp [tyV]
theorem ite_t {A B:Prop}:(if true=true then A else B)=A:=by simp
theorem ite_f {A B:Prop}:(if false=true then A else B)=B:=by simp
theorem cxKh {CX:CXT}{P:Program}{w:World}{K:PySem.W.Frag}{mg:Str->Option Value}{base:Heap}{N:List Str}{qual:Str}{scope:Scope}{f:Addr}{cd:Value}{A:Around}{outer:List Env}{s:Shared}{H:Hp}{E:XK}:(cxOf CX P w K mg base N qual scope f cd A outer s H E).hot.nox.K=K:=rfl
structure Ads where
  SealError:Addr
  Unread:Addr
  Spot:Addr
  Looking:Addr
  PLACE_MODES:Addr
  at_text:Addr
  at_mark:Addr
  at_open:Addr
  at_name:Addr
  at_slash:Addr
  at_shut:Addr
  at_gap:Addr
  at_attr:Addr
  at_is:Addr
  at_bang:Addr
  at_bare:Addr
  at_code:Addr
  at_row:Addr
  at_stroke:Addr
  at_quoted:Addr
  at_qmark:Addr
  at_done:Addr
  at_talk:Addr
  at_tmark:Addr
  at_asis:Addr
noncomputable def tab2 (t:Ads):List (Tx×AtF×Addr):=[(mText,aText,t.at_text),(mMark,aMark,t.at_mark),(mOpen,aOpen,t.at_open),(mName,aName,t.at_name),(mSlash,aSlash,t.at_slash),(mShut,aShut,t.at_shut),(mGap,aGap,t.at_gap),(mAttr,aAttr,t.at_attr),(mIs,aIs,t.at_is),(mBang,aBang,t.at_bang),(mBare,aBare,t.at_bare),(mCode,aCode,t.at_code),(mRow,aRow,t.at_row),(mStroke,aStroke,t.at_stroke),(mQuoted,aQuoted,t.at_quoted),(mQmark,aQmark,t.at_qmark),(mDone,aDone,t.at_done),(mTalk,aTalk,t.at_talk),(mTmark,aTmark,t.at_tmark),(mAsis,aAsis,t.at_asis)]
noncomputable def mtab (t:Ads):List (Key×V):=(tab2 t).map fun e=>(.inr (S e.1),.ref e.2.2)
theorem atTab_eq (t:Ads):atTab=(tab2 t).map fun e=>(e.1,e.2.1):=rfl
theorem tab_find (m:Tx):∀ l:List (Tx×AtF×Addr),(∃ e∈l,valV (l.map fun e=>((.inr (S e.1):Key),V.ref e.2.2)) (.inr (S m))=some (.ref e.2.2)/\(l.map fun e=>(e.1,e.2.1)).lookup m=some e.2.1) \/
    (valV (l.map fun e=>((.inr (S e.1):Key),V.ref e.2.2)) (.inr (S m))=none/\(l.map fun e=>(e.1,e.2.1)).lookup m=none)
  | []=>.inr ⟨rfl,rfl⟩
  | e::l=>by
    by_cases h:e.1=m
    · refine .inl ⟨e,List.mem_cons_self,?_,?_⟩
      · rw [List.map_cons,valV_pos (by show(Sum.inr (S e.1):Key)=Sum.inr (S m);rw [h])]
      · rw [List.map_cons,List.lookup_cons,h]
        simp
    · have e1:valV ((e::l).map fun e=>((.inr (S e.1):Key),V.ref e.2.2)) (.inr (S m))=valV (l.map fun e=>((.inr (S e.1):Key),V.ref e.2.2)) (.inr (S m)):=by
        rw [List.map_cons,valV_neg (by intro z;exact h (S_inj.mp (Sum.inr.inj z)))]
      have e2:((e::l).map fun e=>(e.1,e.2.1)).lookup m=(l.map fun e=>(e.1,e.2.1)).lookup m:=by
        rw [List.map_cons,List.lookup_cons]
        have:(m == e.1)=false:=beq_eq_false_iff_ne.mpr fun z=>h z.symm
        simp [this]
      rw [e1,e2]
      rcases tab_find m l with⟨e',h1,h2⟩ | h2
      · exact .inl ⟨e',List.mem_cons_of_mem _ h1,h2⟩
      · exact .inr h2
structure Txt (w:World)(K:PySem.W.Frag)(mg:Str->Option Value)(t:Ads):Prop where
  m_SealError:mg "SealError" = some (.ref t.SealError)
  m_Unread:mg "Unread" = some (.ref t.Unread)
  m_Spot:mg "Spot" = some (.ref t.Spot)
  m_Looking:mg "Looking" = some (.ref t.Looking)
  m_at_text:mg "at_text" = some (.ref t.at_text)
  m_at_mark:mg "at_mark" = some (.ref t.at_mark)
  m_at_open:mg "at_open" = some (.ref t.at_open)
  m_at_name:mg "at_name" = some (.ref t.at_name)
  m_at_slash:mg "at_slash" = some (.ref t.at_slash)
  m_at_shut:mg "at_shut" = some (.ref t.at_shut)
  m_at_gap:mg "at_gap" = some (.ref t.at_gap)
  m_at_attr:mg "at_attr" = some (.ref t.at_attr)
  m_at_is:mg "at_is" = some (.ref t.at_is)
  m_at_bang:mg "at_bang" = some (.ref t.at_bang)
  m_at_bare:mg "at_bare" = some (.ref t.at_bare)
  m_at_code:mg "at_code" = some (.ref t.at_code)
  m_at_row:mg "at_row" = some (.ref t.at_row)
  m_at_stroke:mg "at_stroke" = some (.ref t.at_stroke)
  m_at_quoted:mg "at_quoted" = some (.ref t.at_quoted)
  m_at_qmark:mg "at_qmark" = some (.ref t.at_qmark)
  m_at_done:mg "at_done" = some (.ref t.at_done)
  m_at_talk:mg "at_talk" = some (.ref t.at_talk)
  m_at_tmark:mg "at_tmark" = some (.ref t.at_tmark)
  m_at_asis:mg "at_asis" = some (.ref t.at_asis)
  c_SealError:XCl K t.SealError
  c_Unread:XCl K t.Unread
  u_SealError:upIn K t.SealError=true
  k_Unread:PySem.W.keepIn K (.ref t.Unread)=true
  n_Unread_at:PySem.W.findIn K (.ref t.Unread) "at" = some none
  kit_up_ur:PySem.W.mroIn K t.Unread (.ref t.Unread)=some true
  g_SIGNS:∃ u,mg "SIGNS" = some u/\RelV (.str (S sg)) u
  g_FIGURES:∃ u,mg "FIGURES" = some u/\RelV (.str (S fg)) u
  g_LETTERS:∃ u,mg "LETTERS" = some u/\RelV (.str (S lt)) u
  g_LONGEST_NAME:∃ u,mg "LONGEST_NAME" = some u/\RelV (.int 8) u
  g_WORDSIGNS:∃ u,mg "WORDSIGNS" = some u/\RelV (.str (S ws)) u
  g_ASIS_END:∃ u,mg "ASIS_END" = some u/\RelV (.str (S asisEnd)) u
  g_MARK_FIGURES:∃ u,mg "MARK_FIGURES" = some u/\RelV (.int 2) u
  d_MODES:∃ a,mg "MODES" = some (.ref a)/\KDict w K a (mtab t)
  m_PLACE_MODES:mg "PLACE_MODES" = some (.ref t.PLACE_MODES)
  s_PLACE_MODES:∀ H,SqT K H t.PLACE_MODES [.str (S mText),.str (S mBare),.str (S mRow),.str (S mQuoted)]
  z_len:mg "len" = none
  z_max:mg "max" = none
  z_min:mg "min" = none
  z_int:mg "int" = none
  z_str:mg "str" = none
  z_tuple:mg "tuple" = none
  z_list:mg "list" = none
  z_range:mg "range" = none
  z_enumerate:mg "enumerate" = none
  z_isinstance:mg "isinstance" = none
  l_Spot:Cls K t.Spot
  l_Looking:Cls K t.Looking
  a_state:NoAttr K t.Spot "state"
  a_turns:NoAttr K t.Spot "turns"
  a_many:NoAttr K t.Spot "many"
  a_kept:NoAttr K t.Looking "kept"
  a_holes:NoAttr K t.Looking "holes"
  a_pairs:NoAttr K t.Looking "pairs"
theorem err_Unread {P:Program}{w:World}{K:PySem.W.Frag}{mg:Str->Option Value}{base:Heap}{t:Ads}(T:Txt w K mg t)(D:Ini K t.Unread "Unread.__init__" s_i_Unread ["self","at"]):Err P w K mg base "Unread" t.Unread "at" payT:=by
  obtain⟨fI,fd,oI,i1,i2,i3,F,b⟩:=D.ex
  refine⟨T.m_Unread,T.c_Unread,T.k_Unread,fI,fd,oI,_,i1,i2,i3,b,?_⟩
  refine F.ok sc_i_Unread (fun vs H Q E h=>by obtain⟨a,v,rfl,_⟩:=h;rfl) fun cdv A outer s H vs Q E hr h=>?_
  obtain⟨a,v,rfl,ea,hp,q⟩:=h
  exact⟨_,pss_cons (ps_expr (pe_init (C:=t.Unread) T.m_SealError T.u_SealError T.c_Unread (pa_cons (pv 0) (pa_cons (pe_fs (pv 1)) pa_nil)))) (pss_one (ps_set0 T.c_Unread T.n_Unread_at (pv 0) (pv 1))),init_read ea hp q⟩
noncomputable def spA (F:AtF):Sp:=fun vs H Q _=>∃ (w:Tx) (oa:Addr) (op:List Tx) (t:Tx) (c:Nat),vs=[.str (S w),.ref oa,.str (S t),.str (S [c])]/\OpV H oa op/\w.length<=1000/\op.length<=100000/\∀ v H',Same H H'->AnV (fun a=>H a=none) H' v (F w op t c)->Q v H'
noncomputable def sp_sign_of:Sp:=fun vs H Q _=>∃ n:Nat,vs=[.int n]/\n<94/\∀ c H',sg[n]? = some c->Same H H'->Q (.str (S [c])) H'
noncomputable def sp_sign_told:Sp:=fun vs H Q _=>∃ l,vs=[.str (S l)]/\l.length<=2000/\∀ H',Same H H'->Q (oV (L2.told l)) H'
noncomputable def sp_fed_between:Sp:=fun vs H Q _=>∃ c:Nat,vs=[.str (S [c])]/\∀ v H',Same H H'->TkV (fun a=>H a=none) H' v (fedB c)->Q v H'
noncomputable def sp_fed_word:Sp:=fun vs H Q _=>∃ c:Nat,vs=[.str (S [c])]/\∀ v H',Same H H'->TkV (fun a=>H a=none) H' v (fedW c)->Q v H'
noncomputable def sp_fed_said:Sp:=fun vs H Q _=>∃ c:Nat,vs=[.str (S [c])]/\∀ v H',Same H H'->TkV (fun a=>H a=none) H' v (fedS c)->Q v H'
noncomputable def sp_feed:Sp:=fun vs H Q _=>∃ (t:Tx) (c:Nat),vs=[.str (S t),.str (S [c])]/\∀ v H',Same H H'->TkV (fun a=>H a=none) H' v (feedM t c)->Q v H'
noncomputable def sp_come_to:Sp:=fun vs H Q _=>∃ (m:Tx) (oa:Addr) (op:List Tx) (ea:Addr) (es:List Ev),vs=[.str (S m),.ref oa,.ref ea]/\OpV H oa op/\EvL H ea es/\∀ v H',Same H H'->AnV (fun a=>a=ea) H' v (comeTo m op es)->Q v H'
noncomputable def sp_told:Sp:=fun vs H Q _=>∃ (m:Tx) (oa:Addr) (op:List Tx) (o:Option Nat),vs=[.str (S m),.ref oa,oV o]/\OpV H oa op/\∀ v H',Same H H'->AnV (fun a=>H a=none) H' v (toldM m op o)->Q v H'
noncomputable def sp_gathered:Sp:=fun vs H Q _=>∃ (m w:Tx) (oa:Addr) (op:List Tx) (t:Tx) (n:Nat),vs=[.str (S m),.str (S w),.ref oa,.str (S t),.int n]/\OpV H oa op/\w.length<=2000/\∀ v H',Same H H'->AnV (fun a=>H a=none) H' v (gath m w op t n)->Q v H'
noncomputable def sp_box_shut:Sp:=fun vs H Q _=>∃ (oa:Addr) (op:List Tx) (ea:Addr) (es:List Ev),vs=[.ref oa,.ref ea]/\OpV H oa op/\EvL H ea es/\es.length<=1000/\∀ v H',Same H H'->AnV (fun a=>H a=none) H' v (boxShut op es)->Q v H'
noncomputable def sp_into_box:Sp:=fun vs H Q _=>∃ (oa:Addr) (op:List Tx) (ea:Addr) (es:List Ev),vs=[.ref oa,.ref ea]/\OpV H oa op/\EvL H ea es/\es.length<=1000/\∀ v H',Same H H'->AnV (fun a=>H a=none) H' v (intoBox op es)->Q v H'
noncomputable def sp_led_on:Sp:=fun vs H Q _=>∃ (oa:Addr) (op:List Tx) (c:Nat) (ea:Addr) (es:List Ev),vs=[.ref oa,.str (S [c]),.ref ea]/\OpV H oa op/\EvL H ea es/\es.length<=1000/\∀ v H',Same H H'->AnV (fun a=>H a=none\/a=ea) H' v (ledOn op c es)->Q v H'
noncomputable def sp_fed:Sp:=fun vs H Q _=>∃ (oa:Addr) (op:List Tx) (t:Tx) (o:Option Nat),vs=[.ref oa,.str (S t),oV o]/\OpV H oa op/\∀ v H',Same H H'->AnV (fun a=>H a=none) H' v (fedM op t o)->Q v H'
noncomputable def sp_mark_ended:Sp:=fun vs H Q _=>∃ (w:Tx) (c:Nat),vs=[.str (S w),.str (S [c])]/\w.length<=1000/\∀ H',Same H H'->Q (oV (mkEnd w c)) H'
noncomputable def sp_at_text:Sp:=spA aText
noncomputable def sp_at_mark:Sp:=spA aMark
noncomputable def sp_at_open:Sp:=spA aOpen
noncomputable def sp_at_name:Sp:=spA aName
noncomputable def sp_at_slash:Sp:=spA aSlash
noncomputable def sp_at_shut:Sp:=spA aShut
noncomputable def sp_at_gap:Sp:=spA aGap
noncomputable def sp_at_attr:Sp:=spA aAttr
noncomputable def sp_at_is:Sp:=spA aIs
noncomputable def sp_at_bang:Sp:=spA aBang
noncomputable def sp_at_bare:Sp:=spA aBare
noncomputable def sp_at_code:Sp:=spA aCode
noncomputable def sp_at_row:Sp:=spA aRow
noncomputable def sp_at_stroke:Sp:=spA aStroke
noncomputable def sp_at_quoted:Sp:=spA aQuoted
noncomputable def sp_at_qmark:Sp:=spA aQmark
noncomputable def sp_at_done:Sp:=spA aDone
noncomputable def sp_at_talk:Sp:=spA aTalk
noncomputable def sp_at_tmark:Sp:=spA aTmark
noncomputable def sp_at_asis:Sp:=spA aAsis
noncomputable def sp_moved:Sp:=fun vs H Q _=>∃ (x:V) (s:MS) (c:Nat),vs=[x,.str (S [c])]/\StV H x s/\s.word.length<=1000/\s.opens.length<=100000/\∀ v H',Same H H'->AnV (fun a=>H a=none) H' v (stepM s c)->Q v H'
noncomputable def sp_begin:Sp:=fun vs H Q _=>vs=[]/\∀ v H',Same H H'->StV H' v ⟨mText,[],[],[]⟩->Q v H'
noncomputable def sp_step:Sp:=sp_moved
noncomputable def sp_floored:Sp:=fun vs H Q _=>∃ (x:V) (s:MS),vs=[x]/\StV H x s/\∀ v H',Same H H'->StV H' v { s with opens:=[] }->Q v H'
def RnV (G:Addr->Prop)(H:Hp)(v:V)(s:MS)(es:List Ev):Prop:=∃ p sa ea,v=.ref p/\H p=some (.tup [sa,.ref ea])/\StV H sa s/\EvL H ea es/\G ea
noncomputable def sp_run (t:Ads):Sp:=fun vs H Q E=>∃ (x:V) (s:MS) (l:List Nat),vs=[x,.str (S l)]/\StV H x s/\s.word.length<=8/\s.opens.length+l.length<=100000/\(∀ s' es,runM s l=.ok (s',es)->∀ v H',Same H H'->RnV (fun a=>H a=none) H' v s' es->Q v H')/\(∀ b:Nat,runM s l=.error b->∀ d H',Same H H'->H' d=some (.xd [("at",.int b)])->E (.ref t.Unread) (some d) H')
noncomputable def placeM (s:MS):Option Tx:=if s.mode∈[mText,mBare,mRow,mQuoted] then some s.mode else if s.mode=mTalk/\s.talk=tSaid then some tSaid else none
noncomputable def plV:Option Tx->V
  | none=>.non
  | some x=>.str (S x)
noncomputable def sp_place_of:Sp:=fun vs H Q _=>∃ (x:V) (s:MS),vs=[x]/\StV H x s/\∀ H',Same H H'->Q (plV (placeM s)) H'
noncomputable def sp__law_cell (K:PySem.W.Frag):Sp:=fun vs H Q _=>∃ (a:Addr) (ns:List Int) (k:Nat),vs=[.ref a,.int k]/\SqL K H a (ns.map V.int)/\ns.length<=63/\k<=100/\∀ v H',Same H H'->Q (.int v) H'
inductive Pc where
  | lit (t:Tx)
  | hole (t:Tx)
  | each (n:Tx) (b:List Pc)
  | ife (n:Tx) (a b:List Pc)
  | seat (w n m:Tx) (b:List Pc)
mutual
noncomputable def dP:Pc->Dat
  | .lit t=>.tp [ft [108,105,116],ft t]
  | .hole t=>.tp [ft [104,111,108,101],ft t]
  | .each n b=>.tp [ft [101,97,99,104],ft n,.ls (dPs b)]
  | .ife n a b=>.tp [ft [105,102],ft n,.ls (dPs a),.ls (dPs b)]
  | .seat w n m b=>.tp [ft [115,101,97,116],ft w,ft n,ft m,.ls (dPs b)]
noncomputable def dPs:List Pc->List Dat
  | []=>[]
  | p::ps=>dP p::dPs ps
end
mutual
noncomputable def szP:Pc->Nat
  | .lit _=>1
  | .hole _=>1
  | .each _ b=>1+szPs b
  | .ife _ a b=>1+szPs a+szPs b
  | .seat _ _ _ b=>2+szPs b
noncomputable def szPs:List Pc->Nat
  | []=>0
  | p::ps=>szP p+szPs ps
end
inductive It where
  | p (x:Pc)
  | o
noncomputable def szI:It->Nat
  | .p x=>szP x
  | .o=>1
noncomputable def szS:List It->Nat
  | []=>0
  | i::s=>szI i+szS s
theorem szS_app (a b:List It):szS (a++b)=szS a+szS b:=by
  induction a with
  | nil=>simp [szS]
  | cons i a ih=>simp only [List.cons_append,szS,ih];omega
noncomputable def its:List Pc->List It
  | []=>[]
  | p::ps=>.p p::its ps
theorem szS_map:∀ ps:List Pc,szS (its ps)=szPs ps
  | []=>rfl
  | p::ps=>by simp only [its,szS,szI,szPs,szS_map ps]
noncomputable def dInto (w n m:Tx):Dat:=.tp [ft [105,110,116,111],ft w,ft n,ft m]
noncomputable def dOut:Dat:=.tp [ft [111,117,116]]
noncomputable def brs:Pc->Nat->List Pc
  | .each _ _,0=>[]
  | .each _ b,_+1=>b
  | .ife _ a _,0=>a
  | .ife _ _ b,_+1=>b
  | _,_=>[]
theorem brs_each (n:Tx)(b:List Pc)(t:Nat):szPs (brs (.each n b) t)<=szPs b:=by cases t<;>simp [brs,szPs]
theorem brs_ife (n:Tx)(a b:List Pc)(t:Nat):szPs (brs (.ife n a b) t)<=szPs a+szPs b:=by cases t<;>simp [brs]
noncomputable def out:List It->List Nat->List Dat
  | [],_=>[]
  | .o::s,T=>dOut::out s T
  | .p (.lit t)::s,T=>dP (.lit t)::out s T
  | .p (.hole t)::s,T=>dP (.hole t)::out s T
  | .p (.seat w n m b)::s,T=>dInto w n m::out (its b++.o::s) T
  | .p (.each _ _)::_,[]=>[]
  | .p (.each n b)::s,t::T=>out (its (brs (.each n b) t)++s) T
  | .p (.ife _ _ _)::_,[]=>[]
  | .p (.ife n a b)::s,t::T=>out (its (brs (.ife n a b) t)++s) T
termination_by s _=>szS s
decreasing_by
  all_goals simp only [szS,szI,szP,szS_app,szS_map]
  all_goals first
    | omega
    | (have:=brs_each n b t;omega)
    | (have:=brs_ife n a b t;omega)
theorem runM_app {s s1 s2:MS}{e1 e2:List Ev}:∀ {a b:List Nat},runM s a=.ok (s1,e1)->runM s1 b=.ok (s2,e2)->runM s (a++b)=.ok (s2,e1++e2):=by
  intro a
  induction a generalizing s e1 with
  | nil=>
    intro b h1 h2
    simp only [runM,Except.ok.injEq,Prod.mk.injEq] at h1
    obtain⟨rfl,rfl⟩:=h1
    simpa using h2
  | cons c r ih=>
    intro b h1 h2
    simp only [runM] at h1
    cases hq:stepM s c with
    | none=>rw [hq] at h1;cases h1
    | some x=>
      obtain⟨s',es⟩:=x
      rw [hq] at h1
      simp only at h1
      cases hr:runM s' r with
      | error n=>rw [hr] at h1;cases h1
      | ok y=>
        obtain⟨s'',fs⟩:=y
        rw [hr] at h1
        simp only [Except.ok.injEq,Prod.mk.injEq] at h1
        obtain⟨rfl,rfl⟩:=h1
        have:=ih hr h2
        simp only [List.cons_append,runM,hq,this,List.append_assoc]
theorem runM_one {s s':MS}{c:Nat}{es:List Ev}(h:stepM s c=some (s',es)):runM s [c]=.ok (s',es):=by
  simp only [runM,h,List.append_nil]
noncomputable def L1 (k:Int):Int:=[1000000007,1181783503,1372345291,1518500279,1636201513,1734723539,1871234567,2012345681].getD (k % 8).toNat 0
noncomputable def L2' (k:Int):Int:=[100000000003,223606797763,314159265359,414213562379,577215664943,693147180563,732050807573].getD (k % 7).toNat 0
theorem at8 (k:Int):atI [V.int 1000000007,V.int 1181783503,V.int 1372345291,V.int 1518500279,V.int 1636201513,V.int 1734723539,V.int 1871234567,V.int 2012345681] (k % 8)=some (V.int (L1 k)):=by
  have:k % 8=0\/k % 8=1\/k % 8=2\/k % 8=3\/k % 8=4\/k % 8=5\/k % 8=6\/k % 8=7:=by lia
  unfold L1
  rcases this with e | e | e | e | e | e | e | e<;>rw [e]<;>rfl
theorem at7 (k:Int):atI [V.int 100000000003,V.int 223606797763,V.int 314159265359,V.int 414213562379,V.int 577215664943,V.int 693147180563,V.int 732050807573] (k % 7)=some (V.int (L2' k)):=by
  have:k % 7=0\/k % 7=1\/k % 7=2\/k % 7=3\/k % 7=4\/k % 7=5\/k % 7=6:=by lia
  unfold L2'
  rcases this with e | e | e | e | e | e | e<;>rw [e]<;>rfl
noncomputable def mixB (c k:Int):Int:=(((c+k * k * k) % 1000000000039+1) * L1 k % 2147483629+1) * L2' k % 999999999989
noncomputable def mixA (c k:Int):Int:=if c % 2=0 then(if 10 ^ Int.toNat 18<c then(if 0<c / 2 ^ (7 * k+8).toNat then c / 2 ^ (7 * k+1).toNat else mixB c k) else mixB c k) else mixB c k
noncomputable def mixM (c k m:Int):Nat:=(mixA c k % m).toNat
theorem mix_lt {c k m:Int}(h:0<m):(mixM c k m:Int)<m:=by
  unfold mixM
  have:=Int.emod_nonneg (mixA c k) (by lia:m≠0)
  have:=Int.emod_lt_of_pos (mixA c k) h
  lia
theorem mix_eq {c k m:Int}(h:0<m):((mixM c k m:Nat):Int)=mixA c k % m:=Int.toNat_of_nonneg (Int.emod_nonneg _ (by lia))
noncomputable def sp__law_mix:Sp:=fun vs H Q _=>∃ c k m:Int,vs=[.int c,.int k,.int m]/\0<=k/\k<=1000/\0<m/\∀ H',Same H H'->Q (.int ((mixM c k m:Nat):Int)) H'
noncomputable def sp__law_part:Sp:=fun vs H Q _=>∃ c k:Int,vs=[.int c,.int k]/\0<=k/\k<=100/\∀ H',Same H H'->Q (.int ((mixM c (30+k) 999999999989:Nat):Int)) H'
noncomputable def PcF (H:Hp):Pc->List V->Prop
  | .lit t,vs=>vs=[tx [108,105,116],tx t]
  | .hole t,vs=>vs=[tx [104,111,108,101],tx t]
  | .each n b,vs=>∃ w,vs=[tx [101,97,99,104],tx n,w]/\IsDt H (.ls (dPs b)) w
  | .ife n a b,vs=>∃ w u,vs=[tx [105,102],tx n,w,u]/\IsDt H (.ls (dPs a)) w/\IsDt H (.ls (dPs b)) u
  | .seat x n m b,vs=>∃ w,vs=[tx [115,101,97,116],tx x,tx n,tx m,w]/\IsDt H (.ls (dPs b)) w
theorem pcF {H:Hp}{x:Pc}{v:V}(h:IsDt H (dP x) v):∃ p vs,v=.ref p/\H p=some (.tup vs)/\PcF H x vs:=by
  cases x with
  | lit t=>
    obtain⟨p,vs,e,hp,v0,r0,rfl,⟨rfl,_⟩,v1,r1,rfl,⟨rfl,_⟩,rfl⟩:=(by simpa only [dP] using h:IsDt H (.tp [ft [108,105,116],ft t]) v)
    exact⟨p,_,e,hp,rfl⟩
  | hole t=>
    obtain⟨p,vs,e,hp,v0,r0,rfl,⟨rfl,_⟩,v1,r1,rfl,⟨rfl,_⟩,rfl⟩:=(by simpa only [dP] using h:IsDt H (.tp [ft [104,111,108,101],ft t]) v)
    exact⟨p,_,e,hp,rfl⟩
  | each n b=>
    obtain⟨p,vs,e,hp,v0,r0,rfl,⟨rfl,_⟩,v1,r1,rfl,⟨rfl,_⟩,v2,r2,rfl,h2,rfl⟩:=(by simpa only [dP] using h:IsDt H (.tp [ft [101,97,99,104],ft n,.ls (dPs b)]) v)
    exact⟨p,_,e,hp,_,rfl,h2⟩
  | ife n a b=>
    obtain⟨p,vs,e,hp,v0,r0,rfl,⟨rfl,_⟩,v1,r1,rfl,⟨rfl,_⟩,v2,r2,rfl,h2,v3,r3,rfl,h3,rfl⟩:=(by simpa only [dP] using h:IsDt H (.tp [ft [105,102],ft n,.ls (dPs a),.ls (dPs b)]) v)
    exact⟨p,_,e,hp,_,_,rfl,h2,h3⟩
  | seat x n m b=>
    obtain⟨p,vs,e,hp,v0,r0,rfl,⟨rfl,_⟩,v1,r1,rfl,⟨rfl,_⟩,v2,r2,rfl,⟨rfl,_⟩,v3,r3,rfl,⟨rfl,_⟩,v4,r4,rfl,h4,rfl⟩:=(by simpa only [dP] using h:IsDt H (.tp [ft [115,101,97,116],ft x,ft n,ft m,.ls (dPs b)]) v)
    exact⟨p,_,e,hp,_,rfl,h4⟩
def ThV (H H':Hp)(v:V)(d:Dat):Prop:=IsDt H d v\/∃ (a:Addr) (ts:List Tx),v=.ref a/\H' a=some (.tup (ts.map tx))/\d=.tp (ts.map ft)
inductive ThA (H H':Hp):List V->List Dat->Prop
  | nil:ThA H H' [] []
  | cons {v:V} {d:Dat} {vs:List V} {ds:List Dat}:ThV H H' v d->ThA H H' vs ds->ThA H H' (v::vs) (d::ds)
noncomputable def StV1 (H H':Hp):V->It->Prop
  | v,.p x=>IsDt H (dP x) v
  | v,.o=>∃ a,v=.ref a/\H' a=some (.tup [tx [111,117,116]])
inductive StA (H H':Hp):List V->List It->Prop
  | nil:StA H H' [] []
  | cons {v:V} {i:It} {vs:List V} {is:List It}:StV1 H H' v i->StA H H' vs is->StA H H' (v::vs) (i::is)
def TpS (H1 H2:Hp):Prop:=∀ b ts,H1 b=some (.tup ts)->H2 b=some (.tup ts)
theorem TpS.trans {H1 H2 H3:Hp}(a:TpS H1 H2)(b:TpS H2 H3):TpS H1 H3:=fun p ts h=>b _ _ (a _ _ h)
theorem TpS.of {H1 H2:Hp}(g:Same H1 H2):TpS H1 H2:=fun b ts h=>g _ _ h
theorem TpS.upd {H1:Hp}{D:Addr}{xs ys:List V}(h:H1 D=some (.lst xs)):TpS H1 (upd H1 D (.lst ys)):=fun b ts e=>by rw [upd_ne (ne_of e h (by intro z;cases z))];exact e
theorem ThA.mono {H H1 H2:Hp}{vs:List V}{ds:List Dat}(h:ThA H H1 vs ds)(g:TpS H1 H2):ThA H H2 vs ds:=by
  induction h with
  | nil=>exact .nil
  | cons h _ ih=>
    refine .cons ?_ ih
    rcases h with h | ⟨a,ts,e,h,e2⟩
    · exact .inl h
    · exact .inr ⟨a,ts,e,g _ _ h,e2⟩
theorem StA.mono {H H1 H2:Hp}{vs:List V}{is:List It}(h:StA H H1 vs is)(g:TpS H1 H2):StA H H2 vs is:=by
  induction h with
  | nil=>exact .nil
  | @cons v i _ _ h _ ih=>
    refine .cons ?_ ih
    cases i with
    | p x=>exact h
    | o=>obtain⟨a,e,h⟩:=h;exact⟨a,e,g _ _ h⟩
theorem ThA.snoc {H H1:Hp}{vs:List V}{ds:List Dat}{v:V}{d:Dat}(h:ThA H H1 vs ds)(k:ThV H H1 v d):ThA H H1 (vs++[v]) (ds++[d]):=by
  induction h with
  | nil=>exact .cons k .nil
  | cons h _ ih=>exact .cons h ih
theorem ThA.len {H H1:Hp}{vs:List V}{ds:List Dat}(h:ThA H H1 vs ds):vs.length=ds.length:=by
  induction h with
  | nil=>rfl
  | cons _ _ ih=>simp [ih]
theorem StA.app {H H1:Hp}{vs us:List V}{is js:List It}(h:StA H H1 vs is)(k:StA H H1 us js):StA H H1 (vs++us) (is++js):=by
  induction h with
  | nil=>exact k
  | cons h _ ih=>exact .cons h ih
theorem ThA.ds {H H1:Hp}{vs:List V}{ds:List Dat}(h:ThA H H1 vs ds)(g:Same H H1):IsDs H1 ds vs:=by
  induction h with
  | nil=>rfl
  | cons h _ ih=>
    refine⟨_,_,rfl,?_,ih⟩
    rcases h with h | ⟨a,ts,e,h,e2⟩
    · exact h.mono g
    · subst e2
      exact⟨a,_,e,h,isDs_txs ts⟩
theorem tx_ne {x y:Tx}(h:x≠y):¬ tx x=V.str (S y):=fun z=>h (S_inj.mp (V.str.inj z))
theorem szP_pos (x:Pc):1<=szP x:=by cases x<;>simp only [szP]<;>lia
theorem szS_len:∀ st:List It,st.length<=szS st
  | []=>Nat.le_refl _
  | .o::st=>by have:=szS_len st;simp only [List.length_cons,szS,szI];omega
  | .p x::st=>by have:=szS_len st;have:=szP_pos x;simp only [List.length_cons,szS,szI];omega
theorem dPs_len:∀ ps:List Pc,(dPs ps).length=ps.length
  | []=>by simp only [dPs,List.length_nil]
  | _::ps=>by simp only [dPs,List.length_cons,dPs_len ps]
theorem its_len:∀ ps:List Pc,(its ps).length=ps.length
  | []=>rfl
  | _::ps=>by simp only [its,List.length_cons,its_len ps]
theorem StA.len {H H1:Hp}{vs:List V}{is:List It}(h:StA H H1 vs is):vs.length=is.length:=by
  induction h with
  | nil=>rfl
  | cons _ _ ih=>simp [ih]
noncomputable def partM (c k:Int):Int:=(mixM c (30+k) 999999999989:Nat)
noncomputable def kText:Tx:=[116,101,120,116]
noncomputable def kDone:Tx:=[100,111,110,101]
noncomputable def nameM (c:Int):Tx:=[[97],[97,98],[119,104,111],[98]].getD (mixM c 2 4) []
noncomputable def wordM (c:Int):Tx:=[[98,108,111,99,107],[101,108,100,101,114],[100,114,97,119]].getD (mixM c 3 3) []
noncomputable def litM (kind:Tx):Tx:=if kind=kText then [120,32,121,38,48,53,59] else if kind=kDone then [32,99,61,34,121,34] else [122,48]
noncomputable def withF (G:Int->Tx->List Pc)(c:Int)(lead kind close:Tx):List Pc:=[.lit lead]++G (partM c 8) kind++[.lit close]
noncomputable def compF (G:Int->Tx->List Pc)(c:Int)(kind:Tx):List Pc:=
  if kind=kDone then withF G c ([[32,113,61,34],[32,114,40,121,44],[32,116,33,34,119,32,39]].getD (mixM c 4 3) []) ([[113,117,111,116,101,100],[114,111,119],[115,97,105,100]].getD (mixM c 4 3) []) ([[34],[41],[39,34]].getD (mixM c 4 3) [])
  else(if mixM c 4 3=0 then withF G c [60,98,32,119,58] [98,97,114,101] [62] else withF G c [60,98,32,97,61,34,120,34] kDone [62])++G (partM c 9) kText++[.lit [60,47,98,62]]
noncomputable def someF (z:Bool)(G:Int->Tx->List Pc)(c:Int)(kind:Tx):List Pc:=
  if mixM c 1 8=1/\kind≠kDone then [.hole (nameM c)]
  else if mixM c 1 8<2\/z=true\/(4<mixM c 1 8/\kind≠kText/\kind≠kDone) then [.lit (litM kind)]
  else if 4<mixM c 1 8 then compF G c kind
  else if mixM c 1 8=2 then [.each (nameM c) (G (partM c 6) kind)]
  else if mixM c 1 8=3 then [.ife (nameM c) (G (partM c 6) kind) (G (partM c 7) kind)]
  else [.seat (wordM c) [97] (if wordM c=[100,114,97,119] then [] else [98]) (G (partM c 6) kind)]
noncomputable def goodF (z:Bool)(G:Int->Tx->List Pc)(c:Int)(kind:Tx):List Pc:=((List.range (mixM c 5 4)).map fun(k:Nat)=>someF z G (partM c k) kind).flatten
noncomputable def goodM:Nat->Int->Tx->List Pc
  | 0=>goodF true fun _ _=>[]
  | d+1=>goodF false (goodM d)
noncomputable def someM:Nat->Int->Tx->List Pc
  | 0=>someF true fun _ _=>[]
  | d+1=>someF false (goodM d)
theorem none_of {H H':Hp}{p:Addr}(g:Same H H')(h:H' p=none):H p=none:=by
  cases e:H p with
  | none=>rfl
  | some o=>rw [g _ _ e] at h;cases h
theorem same_put {H H':Hp}{p:Addr}{o:HO}(hp:H p=none)(g:Same H H'):Same H (upd H' p o):=fun b u e=>by
  rw [upd_ne (ne_of_none e hp)]
  exact g b u e
theorem dPs_get:∀ (ps:List Pc) (i:Nat) (p:Pc),ps[i]? = some p->(dPs ps)[i]? = some (dP p)
  | q::ps,0,p,h=>by cases h;simp only [dPs];rfl
  | q::ps,i+1,p,h=>by simp only [dPs];exact dPs_get ps i p (by simpa using h)
noncomputable def dpP:Pc->Nat
  | .lit _=>0
  | .hole _=>0
  | .each _ b=>dpB b+1
  | .ife _ a b=>max (dpB a) (dpB b)+1
  | .seat _ _ _ b=>dpB b+1
where dpB:List Pc->Nat
  | []=>0
  | p::ps=>max (dpP p) (dpB ps)
theorem dp_app:∀ a b:List Pc,dpP.dpB (a++b)=max (dpP.dpB a) (dpP.dpB b)
  | [],b=>by simp only [List.nil_append,dpP.dpB];omega
  | p::a,b=>by simp only [List.cons_append,dpP.dpB,dp_app a b];omega
theorem dp_flat {n:Nat}:∀ {ls:List (List Pc)},(∀ l∈ls,dpP.dpB l<=n)->dpP.dpB ls.flatten<=n
  | [],_=>by simp only [List.flatten_nil,dpP.dpB];omega
  | l::ls,h=>by
    rw [List.flatten_cons,dp_app]
    have h1:=h l (.head _)
    have h2:=dp_flat fun x hx=>h x (.tail _ hx)
    lia
theorem dp_with {n:Nat}{G:Int->Tx->List Pc}(hG:∀ c k,dpP.dpB (G c k)<=n)(c:Int)(a k b:Tx):dpP.dpB (withF G c a k b)<=n:=by
  have:=hG (partM c 8) k
  unfold withF
  rw [dp_app,dp_app]
  simp only [dpP.dpB,dpP]
  lia
theorem dp_some {n:Nat}{z:Bool}{G:Int->Tx->List Pc}(hG:∀ c k,dpP.dpB (G c k)<=n)(c:Int)(kind:Tx):dpP.dpB (someF z G c kind)<=n+1:=by
  have h6:=hG (partM c 6) kind
  have h7:=hG (partM c 7) kind
  have h9:=hG (partM c 9) kText
  unfold someF
  split
  · simp only [dpP.dpB,dpP];lia
  split
  · simp only [dpP.dpB,dpP];lia
  split
  · unfold compF
    split
    · exact Nat.le_succ_of_le (dp_with hG _ _ _ _)
    · rw [dp_app,dp_app]
      have h1:=dp_with hG c [60,98,32,119,58] [98,97,114,101] [62]
      have h2:=dp_with hG c [60,98,32,97,61,34,120,34] kDone [62]
      simp only [dpP.dpB,dpP]
      split<;>lia
  split
  · simp only [dpP.dpB,dpP];lia
  split
  · simp only [dpP.dpB,dpP];lia
  · simp only [dpP.dpB,dpP];lia
theorem dp_good:∀ (d:Nat) (c:Int) (kind:Tx),dpP.dpB (goodM d c kind)<=d+1
  | 0,c,kind=>dp_flat fun l hl=>by
    obtain⟨i,_,rfl⟩:=List.mem_map.mp hl
    exact dp_some (fun _ _=>by simp only [dpP.dpB];lia) _ _
  | d+1,c,kind=>dp_flat fun l hl=>by
    obtain⟨i,_,rfl⟩:=List.mem_map.mp hl
    exact dp_some (fun c k=>dp_good d c k) _ _
theorem flat_S (s:MS):flatD (dS s)=true:=by
  have:∀ l:List Tx,flatDs (l.map ft)=true:=fun l=>by
    induction l with
    | nil=>rfl
    | cons x l ih=>simp only [List.map_cons,flatDs,ih];rfl
  simp only [dS,flatD,flatDs,this]
  rfl
theorem dep_S (s:MS):depD (dS s)<=50:=by
  have:∀ l:List Tx,depDs (l.map ft)=0:=fun l=>by
    induction l with
    | nil=>rfl
    | cons x l ih=>simp only [List.map_cons,depDs,depD,ih];rfl
  simp only [dS,depD,depDs,this]
  decide
theorem flat_P:∀ p:Pc,flatD (dP p)=true
  | .lit t=>rfl
  | .hole t=>rfl
  | .each n b=>by simp only [dP,flatD,flatDs,flat_Ps b];rfl
  | .ife n a b=>by simp only [dP,flatD,flatDs,flat_Ps a,flat_Ps b];rfl
  | .seat w n m b=>by simp only [dP,flatD,flatDs,flat_Ps b];rfl
where flat_Ps:∀ ps:List Pc,flatDs (dPs ps)=true
  | []=>rfl
  | p::ps=>by simp only [dPs,flatDs,flat_P p,flat_Ps ps,Bool.and_self]
theorem dep_P:∀ p:Pc,depD (dP p)<=2 * dpP p+1
  | .lit t=>by simp only [dP,depD,depDs];omega
  | .hole t=>by simp only [dP,depD,depDs];omega
  | .each n b=>by have:=dep_Ps b;simp only [dP,depD,depDs,dpP];omega
  | .ife n a b=>by have:=dep_Ps a;have:=dep_Ps b;simp only [dP,depD,depDs,dpP];omega
  | .seat w n m b=>by have:=dep_Ps b;simp only [dP,depD,depDs,dpP];omega
where dep_Ps:∀ ps:List Pc,depDs (dPs ps)<=2 * dpP.dpB ps+1
  | []=>by simp only [dPs,depDs];omega
  | p::ps=>by have:=dep_P p;have:=dep_Ps ps;simp only [dPs,depDs,dpP.dpB];omega
theorem seq_gen1 {a b:TS}{D:Ends}{σ:L2.St}{H:Hp}(R:L2.St->Hp->Prop)(hr:∀ σ' H',R σ' H'->b D σ' H')(h:∀ N:L2.St->Hp->Prop,(∀ σ' H',R σ' H'->N σ' H')->a { D with nx:=N } σ H):tSeq a b D σ H:=h (b D) hr
theorem seq_gen2 {a b c:TS}{D:Ends}{σ:L2.St}{H:Hp}(R:L2.St->Hp->Prop)(hr:∀ σ' H',R σ' H'->c D σ' H')(h:∀ N:L2.St->Hp->Prop,(∀ σ' H',R σ' H'->N σ' H')->tSeq a b { D with nx:=N } σ H):tSeq a (tSeq b c) D σ H:=h (c D) hr
noncomputable def kBare:Tx:=[98,97,114,101]
noncomputable def kQuoted:Tx:=[113,117,111,116,101,100]
noncomputable def kRow:Tx:=[114,111,119]
noncomputable def kSaid:Tx:=[115,97,105,100]
inductive Kn:Tx->Prop
  | text:Kn kText
  | done:Kn kDone
  | bare:Kn kBare
  | quoted:Kn kQuoted
  | row:Kn kRow
  | said:Kn kSaid
noncomputable def sK (kind:Tx)(op:List Tx):MS:=if kind=kSaid then⟨mTalk,[],op,tSaid⟩ else⟨kind,[],op,[]⟩
theorem sK_word (kind:Tx)(op:List Tx):(sK kind op).word=[]:=by unfold sK;split<;>rfl
theorem sK_opens (kind:Tx)(op:List Tx):(sK kind op).opens=op:=by unfold sK;split<;>rfl
theorem sK_with (kind:Tx)(op op':List Tx):{ sK kind op with opens:=op' }=sK kind op':=by unfold sK;split<;>rfl
theorem run_lit {kind:Tx}{op:List Tx}(k:Kn kind):∃ es,runM (sK kind op) (litM kind)=.ok (sK kind op,es):=by
  cases k<;>exact⟨_,rfl⟩
theorem into_ok {op:List Tx}{x:Tx}{es:List Ev}(hx:x≠mAsis):intoBox (op++[x]) es=comeTo mText (op++[x]) (es++[[eIn]]):=by
  unfold intoBox
  rw [if_neg (by simp),List.getLast?_concat,if_neg (by simpa using hx)]
theorem run_shut {op:List Tx}:∃ es,runM (sK kText (op++[[98]])) [60,47,98,62]=.ok (sK kText op,es):=by
  refine⟨_,runM_app (a:=[60,47,98]) (b:=[62]) (s1:=⟨mShut,[98],op++[[98]],[]⟩) (e2:=[[eOut]]) rfl (runM_one ?_)⟩
  show aShut [98] (op++[[98]]) [] 62=_
  unfold aShut
  rw [if_neg (by decide),if_pos ⟨rfl,by rw [List.getLast?_concat]⟩]
  unfold boxShut
  rw [if_neg (by simp),List.dropLast_concat]
  rfl
theorem run_in {kind:Tx}{op:List Tx}(h:kind=kBare\/kind=kDone):∃ es,runM (sK kind (op++[[98]])) [62]=.ok (sK kText (op++[[98]]),es):=by
  refine⟨[[eIn]],runM_one ?_⟩
  rcases h with rfl | rfl
  · show intoBox (op++[[98]]) []=_
    rw [into_ok (by decide)];rfl
  · show intoBox (op++[[98]]) []=_
    rw [into_ok (by decide)];rfl
noncomputable def s00:MS:=⟨mText,[],[],[]⟩
noncomputable abbrev Ho:=List (Tx×Tx)
inductive Lk:MS->List Pc->MS->Ho->Prop
  | nil {s:MS}:Lk s [] s []
  | lit {s s' z:MS} {t:Tx} {es:List Ev} {ps:List Pc} {hs:Ho}:runM s t=.ok (s',es)->s.word.length<=8->s.opens.length+t.length<=100000->Lk s' ps z hs->Lk s (.lit t::ps) z hs
  | hole {s z:MS} {n k:Tx} {ps:List Pc} {hs:Ho}:placeM s=some k->Lk s ps z hs->Lk s (.hole n::ps) z ((n,k)::hs)
  | each {s z:MS} {n:Tx} {b ps:List Pc} {h1 h2:Ho}:Lk s b s h1->Lk s ps z h2->Lk s (.each n b::ps) z (h1++h2)
  | ife {s s' z:MS} {n:Tx} {a b ps:List Pc} {h1 h2 h3:Ho}:Lk s a s' h1->Lk s b s' h2->Lk s' ps z h3->Lk s (.ife n a b::ps) z (h1++h2++h3)
  | seat {s z:MS} {w n m:Tx} {b ps:List Pc} {h1 h2:Ho}:Lk { s with opens:=[] } b { s with opens:=[] } h1->Lk s ps z h2->Lk s (.seat w n m b::ps) z (h1++h2)
theorem Lk.step {s z:MS}{p:Pc}{ps:List Pc}{hs:Ho}(h:Lk s (p::ps) z hs):∃ s' h1 h2,Lk s [p] s' h1/\Lk s' ps z h2/\hs=h1++h2:=by
  cases h with
  | lit e1 e2 e3 h=>exact⟨_,[],_,.lit e1 e2 e3 .nil,h,rfl⟩
  | hole e h=>exact⟨_,[_],_,.hole e .nil,h,rfl⟩
  | each b h=>exact⟨_,_++[],_,.each b .nil,h,by rw [List.append_nil]⟩
  | ife a b h=>exact⟨_,_++_++[],_,.ife a b .nil,h,by rw [List.append_nil]⟩
  | seat b h=>exact⟨_,_++[],_,.seat b .nil,h,by rw [List.append_nil]⟩
def HoV (H:Hp)(v:V)(h:Tx×Tx):Prop:=∃ a,v=.ref a/\H a=some (.tup [tx h.1,tx h.2])
inductive HoA (H:Hp):List V->Ho->Prop
  | nil:HoA H [] []
  | cons {v:V} {h:Tx×Tx} {vs:List V} {hs:Ho}:HoV H v h->HoA H vs hs->HoA H (v::vs) (h::hs)
theorem HoA.mono {H H':Hp}{vs:List V}{hs:Ho}(h:HoA H vs hs)(g:TpS H H'):HoA H' vs hs:=by
  induction h with
  | nil=>exact .nil
  | cons h _ ih=>obtain⟨a,e,h⟩:=h;exact .cons ⟨a,e,g _ _ h⟩ ih
theorem HoA.app {H:Hp}{vs us:List V}{hs ks:Ho}(h:HoA H vs hs)(k:HoA H us ks):HoA H (vs++us) (hs++ks):=by
  induction h with
  | nil=>exact k
  | cons h _ ih=>exact .cons h ih
theorem HoA.len {H:Hp}{vs:List V}{hs:Ho}(h:HoA H vs hs):vs.length=hs.length:=by
  induction h with
  | nil=>rfl
  | cons _ _ ih=>simp [ih]
def LoV (t:Ads)(H:Hp)(lo ha:Addr):Prop:=∃ dx pa,H lo=some (.ins t.Looking dx [("kept",.non),("holes",.ref ha),("pairs",.ref pa)])
def SpV (t:Ads)(H:Hp)(sp:Addr)(s:MS)(T:List Nat)(n:Nat):Prop:=∃ dx sv ta,H sp=some (.ins t.Spot dx [("state",sv),("turns",.ref ta),("many",.int n)])/\StV H sv s/\H ta=some (.lst (T.map fun(t:Nat)=>V.int t))
theorem LoV.mono {t:Ads}{H H':Hp}{lo ha:Addr}(h:LoV t H lo ha)(g:Same H H'):LoV t H' lo ha:=by obtain⟨dx,pa,e⟩:=h;exact⟨dx,pa,g _ _ e⟩
theorem SpV.mono {t:Ads}{H H':Hp}{sp:Addr}{s:MS}{T:List Nat}{n:Nat}(h:SpV t H sp s T n)(g:Same H H'):SpV t H' sp s T n:=by obtain⟨dx,sv,ta,e1,e2,e3⟩:=h;exact⟨dx,sv,ta,g _ _ e1,e2.mono g,g _ _ e3⟩
def Gr (ha:Addr)(H H':Hp)(hv hv':List V):Prop:=Same (hide ha H) (hide ha H')/\H' ha=some (.lst (hv++hv'))
noncomputable def sp_Spot___init__ (t:Ads):Sp:=fun vs H Q _=>∃ (a dx:Addr) (sv:V) (ta:Addr) (n:Nat),vs=[.ref a,sv,.ref ta,.int n]/\H a=some (.ins t.Spot dx [])/\Q .non (upd H a (.ins t.Spot dx [("state",sv),("turns",.ref ta),("many",.int n)]))
noncomputable abbrev spO (t:Ads)(dx:Addr)(sv:V)(ta:Addr)(n:Nat):HO:=.ins t.Spot dx [("state",sv),("turns",.ref ta),("many",.int n)]
noncomputable def sp_Spot_met (t:Ads):Sp:=fun vs H Q _=>∃ (a dx ta:Addr) (sv0 sv:V) (n:Nat),vs=[.ref a,sv]/\H a=some (spO t dx sv0 ta n)/\∀ r dx' H',Same H H'->H r=none->H' r=some (spO t dx' sv ta (n+1))->Q (.ref r) H'
noncomputable def sp_Spot_turned (t:Ads):Sp:=fun vs H Q _=>∃ (a dx ta:Addr) (sv0:V) (T:List Nat) (n b:Nat),vs=[.ref a,.int b]/\H a=some (spO t dx sv0 ta n)/\H ta=some (.lst (T.map fun(t:Nat)=>V.int t))/\T.length<=100000/\∀ r dx' ta' H',Same H H'->H r=none->H ta' = none->H' r=some (spO t dx' sv0 ta' n)->H' ta' = some (.lst ((T++[b]).map fun(t:Nat)=>V.int t))->Q (.ref r) H'
noncomputable def sp_Looking___init__ (t:Ads):Sp:=fun vs H Q _=>∃ (a dx:Addr) (kv:V),vs=[.ref a,kv]/\H a=some (.ins t.Looking dx [])/\∀ ha pa H',H' a=some (.ins t.Looking dx [("kept",kv),("holes",.ref ha),("pairs",.ref pa)])->(∀ b o,b≠a->H b=some o->H' b=some o)->H' ha=some (.lst [])->H' pa=some (.lst [])->ha≠pa->H ha=none->H pa=none->Q .non H'
noncomputable def spLk (t:Ads)(one:Bool)(P:List Pc->Prop):Sp:=fun vs H Q _=>∃ (lo ha sp:Addr) (pv:V) (ps:List Pc) (s z:MS) (hs:Ho) (T:List Nat) (n:Nat) (hv:List V),vs=[.ref lo,pv,.ref sp]/\P ps/\LoV t (hide ha H) lo ha/\(if one=true then ∃ p,ps=[p]/\IsDt (hide ha H) (dP p) pv else IsDt (hide ha H) (.ls (dPs ps)) pv)/\SpV t (hide ha H) sp s T n/\H ha=some (.lst hv)/\hv.length+szPs ps<=100000/\T.length+szPs ps<=100000/\n+szPs ps<=100000/\Lk s ps z hs /\
  ∀ r T' n' hv' H',Gr ha H H' hv hv'->HoA (hide ha H') hv' hs->SpV t (hide ha H') r z T' n'->T'.length<=T.length+szPs ps->n'<=n+szPs ps->Q (.ref r) H'
noncomputable def sp_Looking_look_all (t:Ads)(d:Nat):Sp:=spLk t false fun ps=>dpP.dpB ps<d
noncomputable def sp_Looking_look_piece (t:Ads)(d:Nat):Sp:=spLk t true fun ps=>dpP.dpB ps<d
noncomputable def sp_Looking_look_literal (t:Ads):Sp:=spLk t true fun ps=>∃ x,ps=[.lit x]
noncomputable def sp_Looking_look_hole (t:Ads):Sp:=spLk t true fun ps=>∃ x,ps=[.hole x]
noncomputable def sp_Looking_look_each (t:Ads)(d:Nat):Sp:=spLk t true fun ps=>∃ n b,ps=[.each n b]/\dpP.dpB ps<d
noncomputable def sp_Looking_look_if (t:Ads)(d:Nat):Sp:=spLk t true fun ps=>∃ n a b,ps=[.ife n a b]/\dpP.dpB ps<d
noncomputable def sp_Looking_look_seat (t:Ads)(d:Nat):Sp:=spLk t true fun ps=>∃ w n m b,ps=[.seat w n m b]/\dpP.dpB ps<d
theorem Gr.same {ha:Addr}{H H':Hp}{hv:List V}(h:H ha=some (.lst hv))(g:Same H H'):Gr ha H H' hv []:=⟨hide_mono g,by rw [List.append_nil];exact g _ _ h⟩
theorem Gr.trans {ha:Addr}{H H1 H2:Hp}{hv h1 h2:List V}(a:Gr ha H H1 hv h1)(b:Gr ha H1 H2 (hv++h1) h2):Gr ha H H2 hv (h1++h2):=⟨a.1.trans b.1,by rw [← List.append_assoc];exact b.2⟩
theorem Gr.cast {ha:Addr}{H H':Hp}{hv h1 h2:List V}(a:Gr ha H H' hv h1)(e:h1=h2):Gr ha H H' hv h2:=e ▸ a
theorem hide_upd {ha:Addr}{H:Hp}{o:HO}:hide ha (upd H ha o)=hide ha H:=by
  funext b
  by_cases z:b=ha
  · rw [z,hide_st,hide_st]
  · rw [hide_ne z,hide_ne z,upd_ne z]
theorem ne_new {ha r:Addr}{H:Hp}{hv:List V}(h:H ha=some (.lst hv))(hr:H r=none):r≠ha:=fun z=>by rw [z,h] at hr;cases hr
theorem spV_hid {t:Ads}{H:Hp}{ha r dx ta:Addr}{sv:V}{s:MS}{T:List Nat}{n:Nat}(hr:r≠ha)(e:H r=some (spO t dx sv ta n))(hs:StV (hide ha H) sv s)(ht:hide ha H ta=some (.lst (T.map fun(t:Nat)=>V.int t))):SpV t (hide ha H) r s T n:=⟨dx,sv,ta,by rw [hide_ne hr];exact e,hs,ht⟩
theorem st_hid {ha:Addr}{H:Hp}{v:V}{s:MS}{xs:List V}(h:H ha=some (.lst xs))(k:StV H v s):StV (hide ha H) v s:=by
  obtain⟨p,o,e,h1,h2⟩:=k
  have n1:p≠ha:=fun z=>by subst z;rw [h] at h1;cases h1
  have n2:o≠ha:=fun z=>by subst z;have h2:H o=_:=h2;rw [h] at h2;cases h2
  exact⟨p,o,e,by rw [hide_ne n1];exact h1,by show hide ha H o=_;rw [hide_ne n2];exact h2⟩
theorem Gr.pre {ha:Addr}{H H1 H2:Hp}{hv h:List V}(b:Gr ha H1 H2 hv h)(g:Same H H1):Gr ha H H2 hv h:=⟨(hide_mono g).trans b.1,b.2⟩
theorem st_ref {H:Hp}{v:V}{s:MS}(h:StV H v s):∃ p,v=.ref p:=by obtain⟨p,o,e,_⟩:=h;exact⟨p,e⟩
theorem atI_2 {α:Type}(a b c:α)(l:List α):atI (a::b::c::l) 2=some c:=by rw [show(2:Int)=((2:Nat):Int) from rfl,atI_z];rfl
theorem atI_3 {α:Type}(a b c d:α)(l:List α):atI (a::b::c::d::l) 3=some d:=by rw [show(3:Int)=((3:Nat):Int) from rfl,atI_z];rfl
theorem atI_4 {α:Type}(a b c d e:α)(l:List α):atI (a::b::c::d::e::l) 4=some e:=by rw [show(4:Int)=((4:Nat):Int) from rfl,atI_z];rfl
theorem szLk {s z:MS}{ps:List Pc}{hs:Ho}(h:Lk s ps z hs):hs.length<=szPs ps:=by
  induction h with
  | nil=>simp
  | lit _ _ _ _ ih=>simp only [szPs,szP];omega
  | hole _ _ ih=>simp only [szPs,szP,List.length_cons];omega
  | each _ _ i1 i2=>simp only [szPs,szP,List.length_append];omega
  | ife _ _ _ i1 i2 i3=>simp only [szPs,szP,List.length_append];omega
  | seat _ _ i1 i2=>simp only [szPs,szP,List.length_append];omega
theorem Lk.app {s m z:MS}{a b:List Pc}{h1 h2:Ho}(h:Lk s a m h1)(k:Lk m b z h2):Lk s (a++b) z (h1++h2):=by
  induction h with
  | nil=>exact k
  | lit e1 e2 e3 _ ih=>exact .lit e1 e2 e3 (ih k)
  | hole e _ ih=>exact .hole e (ih k)
  | each b _ _ ih=>rw [List.append_assoc];exact .each b (ih k)
  | ife a b _ _ _ ih=>rw [List.append_assoc];exact .ife a b (ih k)
  | seat b _ _ ih=>rw [List.append_assoc];exact .seat b (ih k)
def Fit (d:Nat)(kind:Tx)(ps:List Pc)(hs:Ho):Prop:=∀ op:List Tx,op.length+d<=1000->Lk (sK kind op) ps (sK kind op) hs
theorem lit1 {kind kind':Tx}{op op':List Tx}{t:Tx}{es:List Ev}(h:runM (sK kind op) t=.ok (sK kind' op',es))(ho:op.length<=1001)(ht:t.length<=100):Lk (sK kind op) [.lit t] (sK kind' op') []:=.lit h (by rw [sK_word];decide) (by rw [sK_opens];lia) .nil
theorem fit_lit {d:Nat}{kind:Tx}(k:Kn kind):Fit d kind [.lit (litM kind)] []:=fun op ho=>by
  obtain⟨es,e⟩:=run_lit (op:=op) k
  exact lit1 e (by lia) (by cases k<;>decide)
theorem fit_hole {d:Nat}{kind n:Tx}(k:Kn kind)(h:kind≠kDone):Fit d kind [.hole n] [(n,kind)]:=fun op ho=>.hole (by cases k<;>first | rfl | exact absurd rfl h) .nil
theorem fit_each {d:Nat}{kind n:Tx}{b:List Pc}{hs:Ho}(h:Fit d kind b hs):Fit (d+1) kind [.each n b] hs:=fun op ho=>by
  have:=Lk.each (n:=n) (h op (by lia)) .nil
  rw [List.append_nil] at this
  exact this
theorem fit_ife {d:Nat}{kind n:Tx}{a b:List Pc}{hs h2:Ho}(h:Fit d kind a hs)(k:Fit d kind b h2):Fit (d+1) kind [.ife n a b] (hs++h2):=fun op ho=>by
  have:=Lk.ife (n:=n) (h op (by lia)) (k op (by lia)) .nil
  rw [List.append_nil] at this
  exact this
theorem fit_seat {d:Nat}{kind w n m:Tx}{b:List Pc}{hs:Ho}(h:Fit d kind b hs):Fit (d+1) kind [.seat w n m b] hs:=fun op ho=>by
  have:=Lk.seat (s:=sK kind op) (w:=w) (n:=n) (m:=m) (b:=b) (h1:=hs) (by rw [sK_with];exact h [] (by simp;lia)) .nil
  rw [List.append_nil] at this
  exact this
theorem fit_app {d:Nat}{kind:Tx}{a b:List Pc}{hs h2:Ho}(h:Fit d kind a hs)(k:Fit d kind b h2):Fit d kind (a++b) (hs++h2):=fun op ho=>(h op ho).app (k op ho)
theorem fit_with {d:Nat}{lead kind kind' close:Tx}{ps:List Pc}{hs:Ho}(h1:∀ op,∃ es,runM (sK kind op) lead=.ok (sK kind' op,es))(h2:∀ op,∃ es,runM (sK kind' op) close=.ok (sK kind op,es))(l1:lead.length<=100)(l2:close.length<=100)(h:Fit d kind' ps hs):Fit (d+1) kind ([.lit lead]++ps++[.lit close]) hs:=fun op ho=>by
  obtain⟨e1,r1⟩:=h1 op
  obtain⟨e2,r2⟩:=h2 op
  have:=((lit1 r1 (by lia) l1).app (h op (by lia))).app (lit1 r2 (by lia) l2)
  rw [List.append_nil] at this
  exact this
theorem fit_done {d m:Nat}{G:Int->Tx->List Pc}{c:Int}{hs:Ho}(hm:m=0\/m=1\/m=2)(h:Fit d ([[113,117,111,116,101,100],[114,111,119],[115,97,105,100]].getD m []) (G (partM c 8) ([[113,117,111,116,101,100],[114,111,119],[115,97,105,100]].getD m [])) hs) :
    Fit (d+1) kDone (withF G c ([[32,113,61,34],[32,114,40,121,44],[32,116,33,34,119,32,39]].getD m []) ([[113,117,111,116,101,100],[114,111,119],[115,97,105,100]].getD m []) ([[34],[41],[39,34]].getD m [])) hs:=by
  rcases hm with rfl | rfl | rfl
  · exact fit_with (kind':=kQuoted) (fun op=>⟨_,rfl⟩) (fun op=>⟨_,rfl⟩) (by decide) (by decide) h
  · exact fit_with (kind':=kRow) (fun op=>⟨_,rfl⟩) (fun op=>⟨_,rfl⟩) (by decide) (by decide) h
  · exact fit_with (kind':=kSaid) (fun op=>⟨_,rfl⟩) (fun op=>⟨_,rfl⟩) (by decide) (by decide) h
theorem fit_box {d:Nat}{G:Int->Tx->List Pc}{c:Int}{lead kind':Tx}{qs:List Pc}{hs h2:Ho}(hk:kind' = kBare\/kind' = kDone)(h1:∀ op,∃ es,runM (sK kText op) lead=.ok (sK kind' (op++[[98]]),es))(l1:lead.length<=100)(h:Fit d kind' (G (partM c 8) kind') hs)(k:Fit d kText qs h2) :
    Fit (d+1) kText (withF G c lead kind' [62]++qs++[.lit [60,47,98,62]]) (hs++h2):=fun op ho=>by
  obtain⟨e1,r1⟩:=h1 op
  obtain⟨e2,r2⟩:=run_in (op:=op) hk
  obtain⟨e3,r3⟩:=run_shut (op:=op)
  have hl:(op++[[98]]).length+d<=1000:=by rw [List.length_append,List.length_singleton];lia
  have:=((((lit1 r1 (by lia) l1).app (h _ hl)).app (lit1 r2 (by lia) (by decide))).app (k _ hl)).app (lit1 r3 (by lia) (by decide))
  rw [List.append_nil,List.append_nil] at this
  exact this
def MkV (H:Hp)(r:V)(ps:List Pc)(n:Nat)(F:Ho->Prop):Prop:=∃ p fa da xs,r=.ref p/\H p=some (.tup [.ref fa,.ref da])/\IsDt H (.ls (dPs ps)) (.ref fa)/\H da=some (.lst xs)/\xs.length<=n/\szPs ps<=n/\∃ hs,HoA H xs hs/\F hs
noncomputable def gL:Nat->Nat
  | 0=>10
  | d+1=>3 * (3+2 * gL d)+10
noncomputable def sp__law_good (d:Nat):Sp:=fun vs H Q _=>∃ (c:Int) (kind:Tx) (pa:Addr),vs=[.int c,.str (S kind),.int d,.ref pa]/\H pa=some (.lst [])/\Kn kind/\∀ r H',Same H H'->MkV H' r (goodM d c kind) (gL d) (Fit d kind (goodM d c kind))->Q r H'
noncomputable def sp__law_some (d:Nat):Sp:=fun vs H Q _=>∃ (c:Int) (kind:Tx) (pa:Addr),vs=[.int c,.str (S kind),.int d,.ref pa]/\H pa=some (.lst [])/\Kn kind/\∀ r H',Same H H'->MkV H' r (someM d c kind) (if d=0 then 1 else 3+2 * gL (d - 1)) (Fit d kind (someM d c kind))->Q r H'
noncomputable def sp__law_compound (d:Nat):Sp:=fun vs H Q _=>∃ (c:Int) (kind:Tx) (pa:Addr),vs=[.int c,.str (S kind),.int ((d+1:Nat):Int),.ref pa]/\H pa=some (.lst [])/\(kind=kText\/kind=kDone)/\∀ r H',Same H H'->MkV H' r (compF (goodM d) c kind) (3+2 * gL d) (Fit (d+1) kind (compF (goodM d) c kind))->Q r H'
noncomputable def sp__law_within (d:Nat):Sp:=fun vs H Q _=>∃ (c:Int) (lead kind close:Tx) (pa:Addr),vs=[.int c,.str (S lead),.str (S kind),.str (S close),.int ((d+1:Nat):Int),.ref pa]/\H pa=some (.lst [])/\Kn kind/\∀ r H',Same H H'->MkV H' r (withF (goodM d) c lead kind close) (2+gL d) (Fit d kind (goodM d (partM c 8) kind))->Q r H'
theorem dPs_app:∀ a b:List Pc,dPs (a++b)=dPs a++dPs b
  | [],_=>by simp only [dPs,List.nil_append]
  | p::a,b=>by simp only [List.cons_append,dPs,dPs_app a b]
theorem szPs_app:∀ a b:List Pc,szPs (a++b)=szPs a+szPs b
  | [],_=>by simp only [szPs,List.nil_append,Nat.zero_add]
  | p::a,b=>by simp only [List.cons_append,szPs,szPs_app a b];omega
theorem dt_lit {H:Hp}{q:Addr}{t:Tx}(h:H q=some (.tup [tx [108,105,116],tx t])):IsDs H (dPs [.lit t]) [.ref q]:=by
  simp only [dPs,dP]
  exact⟨_,_,rfl,⟨q,_,rfl,h,isDs_txs [[108,105,116],t]⟩,rfl⟩
noncomputable def accM (d:Nat)(c:Int)(kind:Tx)(i:Nat):List Pc:=((List.range i).map fun(k:Nat)=>someM d (partM c k) kind).flatten
theorem accM_succ (d:Nat)(c:Int)(kind:Tx)(i:Nat):accM d c kind (i+1)=accM d c kind i++someM d (partM c i) kind:=by
  unfold accM
  rw [List.range_succ,List.map_append,List.flatten_append]
  simp
theorem goodM_acc (d:Nat)(c:Int)(kind:Tx):goodM d c kind=accM d c kind (mixM c 5 4):=by cases d<;>rfl
noncomputable def sBd (d:Nat):Nat:=if d=0 then 1 else 3+2 * gL (d - 1)
theorem sBd_le (d:Nat):3 * sBd d<=gL d:=by
  cases d with
  | zero=>decide
  | succ d=>show 3 * (3+2 * gL d)<=3 * (3+2 * gL d)+10;omega
theorem dt_hole {H:Hp}{q:Addr}{t:Tx}(h:H q=some (.tup [tx [104,111,108,101],tx t])):IsDs H (dPs [.hole t]) [.ref q]:=by
  simp only [dPs,dP]
  exact⟨_,_,rfl,⟨q,_,rfl,h,isDs_txs [[104,111,108,101],t]⟩,rfl⟩
theorem one_le (d:Nat):1<=(if d=0 then 1 else 3+2 * gL (d - 1)):=by split<;>lia
noncomputable def litK:List (Key×V):=[(.inr (S [116,101,120,116]),V.str (S [120,32,121,38,48,53,59])),(.inr (S [100,111,110,101]),V.str (S [32,99,61,34,121,34]))]
theorem lit_get (kind:Tx):(valV (mergeK [] litK) (.inr (S kind))).getD (V.str (S [122,48]))=tx (litM kind):=by
  have e:mergeK [] litK=litK:=by decide +kernel
  rw [e]
  unfold litM litK valV
  by_cases h1:kind=kText
  · subst h1;rfl
  · rw [if_neg h1]
    by_cases h2:kind=kDone
    · subst h2;rfl
    · rw [if_neg h2]
      have n1:¬ S [116,101,120,116]=S kind:=fun z=>h1 (S_inj.mp z).symm
      have n2:¬ S [100,111,110,101]=S kind:=fun z=>h2 (S_inj.mp z).symm
      simp [List.find?,n1,n2]
      rfl
theorem dt_each {H:Hp}{q fa:Addr}{n:Tx}{b:List Pc}(h:H q=some (.tup [tx [101,97,99,104],tx n,.ref fa]))(hb:IsDt H (.ls (dPs b)) (.ref fa)):IsDs H (dPs [.each n b]) [.ref q]:=by
  simp only [dPs,dP]
  exact⟨_,_,rfl,⟨q,_,rfl,h,_,_,rfl,⟨rfl,rfl⟩,_,_,rfl,⟨rfl,rfl⟩,_,_,rfl,hb,rfl⟩,rfl⟩
theorem dt_ife {H:Hp}{q fa fb:Addr}{n:Tx}{a b:List Pc}(h:H q=some (.tup [tx [105,102],tx n,.ref fa,.ref fb]))(ha:IsDt H (.ls (dPs a)) (.ref fa))(hb:IsDt H (.ls (dPs b)) (.ref fb)):IsDs H (dPs [.ife n a b]) [.ref q]:=by
  simp only [dPs,dP]
  exact⟨_,_,rfl,⟨q,_,rfl,h,_,_,rfl,⟨rfl,rfl⟩,_,_,rfl,⟨rfl,rfl⟩,_,_,rfl,ha,_,_,rfl,hb,rfl⟩,rfl⟩
theorem dt_seat {H:Hp}{q fa:Addr}{w n m:Tx}{b:List Pc}(h:H q=some (.tup [tx [115,101,97,116],tx w,tx n,tx m,.ref fa]))(hb:IsDt H (.ls (dPs b)) (.ref fa)):IsDs H (dPs [.seat w n m b]) [.ref q]:=by
  simp only [dPs,dP]
  exact⟨_,_,rfl,⟨q,_,rfl,h,_,_,rfl,⟨rfl,rfl⟩,_,_,rfl,⟨rfl,rfl⟩,_,_,rfl,⟨rfl,rfl⟩,_,_,rfl,⟨rfl,rfl⟩,_,_,rfl,hb,rfl⟩,rfl⟩
theorem made_is {t:Ads}{H:Hp}{x dx ta:Addr}{sv:V}{n:Nat}(hx:H x=none)(hd:H dx=none)(o1:HO)(fs:List (Str×V)):Same H (upd (upd (upd H dx o1) x (.ins t.Spot dx fs)) x (spO t dx sv ta n)):=same_put hx (same_put hx (same_upd hd))
noncomputable def sp_is_end:Sp:=fun vs H Q _=>∃ x:V,vs=[x]/\StV H x s00/\∀ H',Same H H'->Q (.bl true) H'
def LkP (H:Hp)(pv:V)(ps:List Pc)(hs:Ho):Prop:=IsDt H (.ls (dPs ps)) pv/\dpP.dpB ps<5/\szPs ps<=3000/\Lk s00 ps s00 hs
theorem LkP.mono {H H':Hp}{pv:V}{ps:List Pc}{hs:Ho}(h:LkP H pv ps hs)(g:Same H H'):LkP H' pv ps hs:=⟨h.1.mono g,h.2⟩
noncomputable def sp_looked_at:Sp:=fun vs H Q _=>∃ (pv:V) (ps:List Pc) (hs:Ho),vs=[pv,.non]/\LkP H pv ps hs/\∀ r ha pa hv H',Same H H'->H ha=none->H' r=some (.tup [.ref ha,.ref pa])->H' ha=some (.lst hv)->HoA H' hv hs->Q (.ref r) H'
noncomputable def sp_look:Sp:=fun vs H Q _=>∃ (pv:V) (ps:List Pc) (hs:Ho),vs=[pv]/\LkP H pv ps hs/\∀ ha hv H',Same H H'->H ha=none->H' ha=some (.lst hv)->HoA H' hv hs->Q (.ref ha) H'
noncomputable def kTold:Tx:=[116,111,108,100]
noncomputable def sp__law_looked:Sp:=fun vs H Q _=>∃ (pv:V) (ps:List Pc) (hs:Ho),vs=[pv]/\LkP H pv ps hs/\∀ r ha hv H',Same H H'->H ha=none->H' r=some (.tup [tx kTold,.ref ha])->H' ha=some (.lst hv)->HoA H' hv hs->Q (.ref r) H'
noncomputable def sp__law_is:Sp:=fun vs H Q _=>∃ (r ha da:Addr) (hv xs:List V) (hs:Ho),vs=[.ref r,.ref da]/\H r=some (.tup [tx kTold,.ref ha])/\H ha=some (.lst hv)/\HoA H hv hs/\H da=some (.lst xs)/\HoA H xs hs/\hs.length<=3000/\∀ H',Same H H'->Q (.bl true) H'
noncomputable def sp__law_made:Sp:=fun vs H Q _=>∃ (c:Int) (pa:Addr),vs=[.int c,.ref pa]/\H pa=some (.lst [])/\∀ r H',Same H H'->MkV H' r (goodM 3 c kText) (gL 3) (Fit 3 kText (goodM 3 c kText))->Q r H'
noncomputable def dHo (hs:Ho):List Dat:=hs.map fun h=>.tp [ft h.1,ft h.2]
theorem HoA.ds {H:Hp}{vs:List V}{hs:Ho}(h:HoA H vs hs):IsDs H (dHo hs) vs:=by
  induction h with
  | nil=>rfl
  | @cons v h vs hs e _ ih=>
    obtain⟨a,rfl,e⟩:=e
    exact⟨_,_,rfl,⟨a,_,rfl,e,isDs_txs [h.1,h.2]⟩,ih⟩
theorem flat_Ho (hs:Ho):flatDs (dHo hs)=true:=by
  induction hs with
  | nil=>rfl
  | cons h hs ih=>simp only [dHo,List.map_cons,flatDs] at ih ⊢;rw [ih];rfl
theorem dep_Ho (hs:Ho):depDs (dHo hs)<=1:=by
  induction hs with
  | nil=>simp only [dHo,List.map_nil,depDs];omega
  | cons h hs ih=>simp only [dHo,List.map_cons,depDs,depD] at ih ⊢;omega
theorem HoA.get {H:Hp}{vs:List V}{hs:Ho}(h:HoA H vs hs):∀ {i:Nat} {v:V},vs[i]? = some v->∃ (a:Addr) (x y:Tx),v=.ref a/\H a=some (.tup [tx x,tx y]):=by
  induction h with
  | nil=>intro i v e;simp at e
  | cons h _ ih=>
    intro i v e
    cases i with
    | zero=>cases e;obtain⟨a,e,h⟩:=h;exact⟨a,_,_,e,h⟩
    | succ i=>exact ih (by simpa using e)
noncomputable def sp_law (K:PySem.W.Frag):Sp:=fun vs H Q _=>∃ (a:Addr) (ns:List Int),vs=[.ref a]/\SqL K H a (ns.map V.int)/\ns.length<=63/\∀ H',Q (.bl true) H'
end My
namespace My
open PySem L2 PySem.Spec PyProof.Rows
local macro_rules | `(tactic| walk_at "rd") => `(tactic| simp only [L2.start, N_sign_of, N_sign_told, N_place_of, N_fed_between, N_fed_word, N_fed_said, N_feed, N_come_to, N_told, N_gathered, N_box_shut, N_into_box, N_led_on, N_fed, N_mark_ended, N_at_text, N_at_mark, N_at_open, N_at_name, N_at_slash, N_at_shut, N_at_gap, N_at_attr, N_at_is, N_at_bang, N_at_bare, N_at_code, N_at_row, N_at_stroke, N_at_quoted, N_at_qmark, N_at_done, N_at_talk, N_at_tmark, N_at_asis, N_moved, N_begin, N_step, N_run, N_is_end, N_floored, N_Spot___init__, N_Spot_shown, N_Spot_met, N_Spot_turned, N_Looking___init__, N_Looking_look_all, N_Looking_look_piece, N_Looking_look_literal, N_Looking_look_hole, N_Looking_look_each, N_Looking_look_if, N_Looking_look_seat, N_Looking_look_drawn, N_looked_at, N_look, N__law_cell, N__law_mix, N__law_other, N__law_part, N__law_fault, N__law_good, N__law_some, N__law_within, N__law_compound, N__law_made, N__law_looked, N__law_refusal, N__law_is, N_law, sp_sign_of, sp_sign_told, sp_place_of, sp_fed_between, sp_fed_word, sp_fed_said, sp_feed, sp_come_to, sp_told, sp_gathered, sp_box_shut, sp_into_box, sp_led_on, sp_fed, sp_mark_ended, sp_at_text, sp_at_mark, sp_at_open, sp_at_name, sp_at_slash, sp_at_shut, sp_at_gap, sp_at_attr, sp_at_is, sp_at_bang, sp_at_bare, sp_at_code, sp_at_row, sp_at_stroke, sp_at_quoted, sp_at_qmark, sp_at_done, sp_at_talk, sp_at_tmark, sp_at_asis, sp_moved, sp_begin, sp_step, sp_run, sp_is_end, sp_floored, sp_Spot___init__, sp_Spot_met, sp_Spot_turned, sp_Looking___init__, sp_Looking_look_all, sp_Looking_look_piece, sp_Looking_look_literal, sp_Looking_look_hole, sp_Looking_look_each, sp_Looking_look_if, sp_Looking_look_seat, sp_looked_at, sp_look, sp__law_cell, sp__law_mix, sp__law_part, sp__law_good, sp__law_some, sp__law_within, sp__law_compound, sp__law_made, sp__law_looked, sp__law_is, sp_law, tLC, iStr, iRng1, iRng2, iList, tFor_eq, tWhile_eq, tTrue, PySem.sizeLine_eq, atI_0, atI_1, Int.natCast_inj, atI_z, tSeq, tIfS, tRet, tRetN, tAsg, gName, tDrop, tNext, tNever, tOp, tUn, tVar, tC, tTest, tB, tAnd, tOr, tNot, tAndV, tOrV, tNotV, tIf, tCons, tNil, tCB, tCall, tLst, tCallX, tRaise, tTry, tAtX, rIsX, rIsXT, rIsInt, rIsBool, rIsStr, tTup, tBM, tBM0, tSl, tPart, tNoPart, tAug, ipI, rI, rI0, rU, rEq, rNe, scal, rIndex, rZfill, rJoin, rAppend, rIxL, rIxT, rIxSS, rLenL, rSlL, rMulS,iEnumS, cxKh, iEnumL, tLC2_eq, Nat.reduceEqDiff, tCallV, tKGet, tTruK, rIsA, rTupL, rCatU, rSlU, rStarts, rEqD, rNeD, iZip, rIntB, rClear, rExtend, tDGet, tDisp, tPairs, iRng3, rMulL, rIsB, rIsNotB, rEqTS, rAllB, rRepr, tChain, rMulT, iRevT, iRevL, tRepl, gSub, rSetL, tRevS, tBreak, rPop, tDGet2, tFld, sFld, tMeth, tMake, tMethX, rListL, rNeI, rEq0, rNe0, rEqDL, rDIn, rSetD, rDictD, tCallXV, tDUpd, iTup, rIn, rListS, rIsStrA, tD0, rEqS, rNeS, rInsert, rCat, gTup, gCons, gNil, tyV_str, cxK, cxK0, blkK, nc0, nc1, nc2, nc3, nc94, sg_len, List.map_cons, List.map_nil, List.length_cons, List.length_nil, List.replicate, List.cons_append, List.nil_append, List.append_nil, List.getElem?_cons_zero, List.getElem?_cons_succ, List.set_cons_zero, List.set_cons_succ, Option.some.injEq, List.cons.injEq, V.int.injEq, V.str.injEq, V.bl.injEq, V.ref.injEq, V.ty.injEq, S_inj, V_inj, and_true, true_and, eq_self, and_assoc, exists_eq_left, exists_eq_left', exists_eq_right, exists_eq, exists_eq', exists_and_left, exists_and_right, exists_const, reduceCtorEq, false_and, and_false, or_false, false_or, exists_false, Nat.reduceAdd, Nat.reduceSub, Int.reduceLT, Int.reduceLE, Nat.reduceLeDiff, Nat.reduceLT, Int.reduceEq, Nat.sub_self, decide_eq_true_eq, decide_true, decide_false, ite_t, ite_f, if_true, if_false, Bool.not_true, Bool.not_false, Bool.false_eq_true, ↓reduceIte])
section
variable {P:Program} {w:World} {K:PySem.W.Frag} {mg:Str->Option Value} {base:Heap} {t:Ads}
theorem ok_sign_of (T:Txt w K mg t)(D:Df K mg "sign_of" s_sign_of ps_sign_of):OkF P w K mg base 1 "sign_of" ps_sign_of sp_sign_of:=by
  refine D.ok sc_sign_of (fun vs H Q E h=>?_) (fun f cdv A outer s H vs Q E hr h=>?_)
  · obtain⟨_,rfl,_⟩:=h;rfl
  · obtain⟨n,rfl,hn,k⟩:=h
    refine⟨_,((qss_one (qs_ret (qe_ix ix_S (qe_gl T.g_SIGNS) (qv 0) (fun _ _=>(by rfl)))))).h,?_⟩
    walk_at "rd"
    have hn':n<sg.length:=by rw [sg_len];exact hn
    have e:sg[n]? = some sg[n]:=List.getElem?_eq_getElem hn'
    exact⟨_,e,k _ H e (Same.refl H)⟩
theorem ok_sign_told (T:Txt w K mg t)(D:Df K mg "sign_told" s_sign_told ps_sign_told)(F_sign_of:OkF P w K mg base 1 "sign_of" ps_sign_of sp_sign_of):OkF P w K mg base 2 "sign_told" ps_sign_told sp_sign_told:=by
  refine D.ok sc_sign_told (fun vs H Q E h=>?_) (fun f cdv A outer s H vs Q E hr h=>?_)
  · obtain⟨_,rfl,_⟩:=h;rfl
  · obtain⟨l,rfl,hl,k⟩:=h
    refine⟨_,((qss_cons (qs_if (QW.qt (qw_or (qt_cmpR op_ne (qe_callB call_lenS (by rfl) T.z_len bb_len (qa_cons (qv 0) qa_nil)) qe_int (nomark _)) (qw_or (qt_cmpR op_notinS (qe_ix ix_S (qv 0) qe_int (fun _ _=>(by rfl))) (qe_gl T.g_FIGURES) (by rfl)) (qw_or1 (qt_cmpR op_notinS (qe_ix ix_S (qv 0) qe_int (fun _ _=>(by rfl))) (qe_gl T.g_FIGURES) (by rfl)))))) (qss_one (qs_ret qe_non)) qss_nil)
      (qss_cons (qs_set (i:=1) sc_sign_told.nd (by rfl) (Or.inl (by rfl)) (qe_callTy call_intS (by rfl) T.z_int bb_int (qa_cons (qv 0) qa_nil)))
      (qss_one (qs_ret (qe_ifExp (qt_cmpR op_lt (qv 1) (qe_callB call_lenS (by rfl) T.z_len bb_len (qa_cons (qe_gl T.g_SIGNS) qa_nil)) (nomark _)) (qe_callF F_sign_of hr (by decide) (qa_cons (qv 1) qa_nil)) qe_non)))))).h,?_⟩
    walk_at "rd"
    refine⟨by lia,?_⟩
    by_cases hl2:l.length=2
    · obtain⟨c,d,rfl⟩:∃ c d,l=[c,d]:=by
        match l,hl2 with
        | [c,d],_=>exact⟨c,d,rfl⟩
      walk_at "rd"
      by_cases h1:c∈fg
      · rw [if_neg (by simp [h1])]
        by_cases h2:d∈fg
        · rw [if_neg (by simp [h2])]
          have f1:=(fg_iff c).mp h1
          have f2:=(fg_iff d).mp h2
          refine⟨f1,f2,?_⟩
          have et:L2.told [c,d]=sg[(c - 48) * 10+(d - 48)]?:=by
            show(if isFig c=true/\isFig d=true then _ else _)=_
            rw [if_pos ⟨f1,f2⟩]
          by_cases h3:(c - 48) * 10+(d - 48)<94
          · rw [if_pos (by lia)]
            refine⟨h3,fun x H' e g=>?_⟩
            rw [et,e] at k
            exact k H' g
          · rw [if_neg (by lia)]
            rw [et,List.getElem?_eq_none_iff.mpr (by rw [sg_len];lia)] at k
            exact k H (Same.refl H)
        · rw [if_pos (by simp [h2])]
          have e:L2.told [c,d]=none:=by
            show(if isFig c=true/\isFig d=true then _ else _)=_
            rw [if_neg (by rintro⟨_,z⟩;exact h2 ((fg_iff d).mpr z))]
          rw [e] at k
          exact k H (Same.refl H)
      · rw [if_pos (by simp [h1])]
        have e:L2.told [c,d]=none:=by
          show(if isFig c=true/\isFig d=true then _ else _)=_
          rw [if_neg (by rintro⟨z,_⟩;exact h1 ((fg_iff c).mpr z))]
        rw [e] at k
        exact k H (Same.refl H)
    · rw [told_ne hl2] at k
      rw [if_pos (by simp;lia)]
      exact k H (Same.refl H)
theorem ok_fed_between (T:Txt w K mg t)(D:Df K mg "fed_between" s_fed_between ps_fed_between):OkF P w K mg base 1 "fed_between" ps_fed_between sp_fed_between:=by
  refine D.ok sc_fed_between (fun vs H Q E h=>?_) (fun f cdv A outer s H vs Q E hr h=>?_)
  · obtain⟨_,rfl,_⟩:=h;rfl
  · obtain⟨c,rfl,k⟩:=h
    refine⟨_,((qss_cons (qs_if (qt_cmpR op_eq (qv 0) (qe_S (l:=[32]) (by decide +kernel)) (nomark _)) (qss_one (qs_ret (qe_tup (qa_cons (qe_S (l:=[98,101,116,119,101,101,110]) (by decide +kernel)) (qa_cons (qe_lst qa_nil) qa_nil))))) qss_nil)
      (qss_cons (qs_if (qt_cmpR op_eq (qv 0) (qe_S (l:=[39]) (by decide +kernel)) (nomark _)) (qss_one (qs_ret (qe_tup (qa_cons (qe_S (l:=[115,97,105,100]) (by decide +kernel)) (qa_cons (qe_lst (qa_cons (qe_tup (qa_cons (qe_S (l:=[115,97,105,100]) (by decide +kernel)) qa_nil)) qa_nil)) qa_nil))))) qss_nil)
      (qss_cons (qs_if (qt_cmpR op_inS (qv 0) (qe_gl T.g_WORDSIGNS) (by rfl)) (qss_one (qs_ret (qe_tup (qa_cons (qe_S (l:=[119,111,114,100]) (by decide +kernel)) (qa_cons (qe_lst (qa_cons (qe_tup (qa_cons (qe_S (l:=[119,111,114,100]) (by decide +kernel)) qa_nil)) (qa_cons (qe_tup (qa_cons (qe_S (l:=[115,105,103,110]) (by decide +kernel)) (qa_cons (qv 0) qa_nil))) qa_nil))) qa_nil))))) qss_nil)
      (qss_one (qs_ret qe_non)))))).h,?_⟩
    walk_at "rd"
    unfold fedB at k
    by_cases h1:c=32
    · rw [if_pos h1] at k ⊢
      intro p hp p1 hp1
      have a:=tk_of (G:=fun a=>H a=none) (t:=tBetween) hp1 (evl0 (H:=H) (q:=p)) hp
      exact k _ _ ((same_upd hp).trans a.1) a.2
    rw [if_neg h1] at k ⊢
    by_cases h2:c=39
    · rw [if_pos h2] at k ⊢
      intro p hp p1 hp1 p2 hp2
      have a:=tk_of (G:=fun a=>H a=none) (t:=tSaid) hp2 (evl1 (e:=[eSaid]) hp1) (none_of_upd hp1)
      exact k _ _ ((same_upd hp).trans ((same_upd hp1).trans a.1)) a.2
    rw [if_neg h2] at k ⊢
    by_cases h3:c∈ws
    · rw [if_pos h3] at k ⊢
      intro p hp p1 hp1 p2 hp2 p3 hp3
      have he:EvL (upd (upd (upd H p (.tup [.str (S eWord)])) p1 (.tup [.str (S eSign),.str (S [c])])) p2 (.lst [.ref p,.ref p1])) p2 [[eWord],[eSign,[c]]]:=
        ⟨_,upd_same,.cons ⟨p,rfl,same_upd hp2 _ _ (same_upd hp1 _ _ upd_same)⟩ (.cons ⟨p1,rfl,same_upd hp2 _ _ upd_same⟩ .nil)⟩
      have a:=tk_of (G:=fun a=>H a=none) (t:=tWord) hp3 he (none_of_upd (none_of_upd hp2))
      exact k _ _ ((same_upd hp).trans ((same_upd hp1).trans ((same_upd hp2).trans a.1))) a.2
    · rw [if_neg h3] at k ⊢
      exact k _ _ (Same.refl H) rfl
theorem ok_fed_word (T:Txt w K mg t)(D:Df K mg "fed_word" s_fed_word ps_fed_word)(F_fed_between:OkF P w K mg base 1 "fed_between" ps_fed_between sp_fed_between):OkF P w K mg base 2 "fed_word" ps_fed_word sp_fed_word:=by
  refine D.ok sc_fed_word (fun vs H Q E h=>?_) (fun f cdv A outer s H vs Q E hr h=>?_)
  · obtain⟨_,rfl,_⟩:=h;rfl
  · obtain⟨c,rfl,k⟩:=h
    refine⟨_,((qss_cons (qs_if (qt_cmpR op_inS (qv 0) (qe_gl T.g_WORDSIGNS) (by rfl)) (qss_one (qs_ret (qe_tup (qa_cons (qe_S (l:=[119,111,114,100]) (by decide +kernel)) (qa_cons (qe_lst (qa_cons (qe_tup (qa_cons (qe_S (l:=[115,105,103,110]) (by decide +kernel)) (qa_cons (qv 0) qa_nil))) qa_nil)) qa_nil))))) qss_nil)
      (qss_one (qs_ret (qe_callF F_fed_between hr (by decide) (qa_cons (qv 0) qa_nil)))))).h,?_⟩
    walk_at "rd"
    unfold fedW at k
    by_cases h3:c∈ws
    · rw [if_pos h3] at k ⊢
      intro p hp p1 hp1 p2 hp2
      have a:=tk_of (G:=fun a=>H a=none) (t:=tWord) hp2 (evl1 (e:=[eSign,[c]]) hp1) (none_of_upd hp1)
      exact k _ _ ((same_upd hp).trans ((same_upd hp1).trans a.1)) a.2
    · rw [if_neg h3] at k ⊢
      exact k
theorem ok_fed_said (T:Txt w K mg t)(D:Df K mg "fed_said" s_fed_said ps_fed_said):OkF P w K mg base 1 "fed_said" ps_fed_said sp_fed_said:=by
  refine D.ok sc_fed_said (fun vs H Q E h=>?_) (fun f cdv A outer s H vs Q E hr h=>?_)
  · obtain⟨_,rfl,_⟩:=h;rfl
  · obtain⟨c,rfl,k⟩:=h
    refine⟨_,((qss_cons (qs_if (qt_cmpR op_eq (qv 0) (qe_S (l:=[39]) (by decide +kernel)) (nomark _)) (qss_one (qs_ret (qe_tup (qa_cons (qe_S (l:=[98,101,116,119,101,101,110]) (by decide +kernel)) (qa_cons (qe_lst qa_nil) qa_nil))))) qss_nil)
      (qss_cons (qs_if (qt_cmpR op_eq (qv 0) (qe_S (l:=[92]) (by decide +kernel)) (nomark _)) (qss_one (qs_ret (qe_tup (qa_cons (qe_S (l:=[115,116,114,111,107,101]) (by decide +kernel)) (qa_cons (qe_lst qa_nil) qa_nil))))) qss_nil)
      (qss_one (qs_ret (qe_tup (qa_cons (qe_S (l:=[115,97,105,100]) (by decide +kernel)) (qa_cons (qe_lst (qa_cons (qe_tup (qa_cons (qe_S (l:=[115,105,103,110]) (by decide +kernel)) (qa_cons (qv 0) qa_nil))) qa_nil)) qa_nil)))))))).h,?_⟩
    walk_at "rd"
    unfold fedS at k
    by_cases h1:c=39
    · rw [if_pos h1] at k ⊢
      intro p hp p1 hp1
      have a:=tk_of (G:=fun a=>H a=none) (t:=tBetween) hp1 (evl0 (H:=H) (q:=p)) hp
      exact k _ _ ((same_upd hp).trans a.1) a.2
    rw [if_neg h1] at k ⊢
    by_cases h2:c=92
    · rw [if_pos h2] at k ⊢
      intro p hp p1 hp1
      have a:=tk_of (G:=fun a=>H a=none) (t:=tStroke) hp1 (evl0 (H:=H) (q:=p)) hp
      exact k _ _ ((same_upd hp).trans a.1) a.2
    rw [if_neg h2] at k ⊢
    intro p hp p1 hp1 p2 hp2
    have a:=tk_of (G:=fun a=>H a=none) (t:=tSaid) hp2 (evl1 (e:=[eSign,[c]]) hp1) (none_of_upd hp1)
    exact k _ _ ((same_upd hp).trans ((same_upd hp1).trans a.1)) a.2
theorem ok_feed (T:Txt w K mg t)(D:Df K mg "feed" s_feed ps_feed)(F_fed_between:OkF P w K mg base 1 "fed_between" ps_fed_between sp_fed_between)(F_fed_word:OkF P w K mg base 2 "fed_word" ps_fed_word sp_fed_word)(F_fed_said:OkF P w K mg base 1 "fed_said" ps_fed_said sp_fed_said):OkF P w K mg base 3 "feed" ps_feed sp_feed:=by
  refine D.ok sc_feed (fun vs H Q E h=>?_) (fun f cdv A outer s H vs Q E hr h=>?_)
  · obtain⟨_,_,rfl,_⟩:=h;rfl
  · obtain⟨tk,c,rfl,k⟩:=h
    refine⟨_,((qss_cons (qs_if (qt_cmpR op_eq (qv 0) (qe_S (l:=[98,101,116,119,101,101,110]) (by decide +kernel)) (nomark _)) (qss_one (qs_ret (qe_callF F_fed_between hr (by decide) (qa_cons (qv 1) qa_nil)))) qss_nil)
      (qss_cons (qs_if (qt_cmpR op_eq (qv 0) (qe_S (l:=[119,111,114,100]) (by decide +kernel)) (nomark _)) (qss_one (qs_ret (qe_callF F_fed_word hr (by decide) (qa_cons (qv 1) qa_nil)))) qss_nil)
      (qss_cons (qs_if (qt_cmpR op_eq (qv 0) (qe_S (l:=[115,97,105,100]) (by decide +kernel)) (nomark _)) (qss_one (qs_ret (qe_callF F_fed_said hr (by decide) (qa_cons (qv 1) qa_nil)))) qss_nil)
      (qss_cons (qs_if (qt_cmpR op_eq (qv 0) (qe_S (l:=[115,116,114,111,107,101]) (by decide +kernel)) (nomark _)) (qss_one (qs_ret (qe_tup (qa_cons (qe_S (l:=[115,97,105,100]) (by decide +kernel)) (qa_cons (qe_lst (qa_cons (qe_tup (qa_cons (qe_S (l:=[115,105,103,110]) (by decide +kernel)) (qa_cons (qv 1) qa_nil))) qa_nil)) qa_nil))))) qss_nil)
      (qss_one (qs_ret qe_non))))))).h,?_⟩
    walk_at "rd"
    unfold feedM at k
    by_cases h1:tk=tBetween
    · rw [if_pos h1] at k ⊢
      exact k
    rw [if_neg h1] at k ⊢
    by_cases h2:tk=tWord
    · rw [if_pos h2] at k ⊢
      exact k
    rw [if_neg h2] at k ⊢
    by_cases h3:tk=tSaid
    · rw [if_pos h3] at k ⊢
      exact k
    rw [if_neg h3] at k ⊢
    by_cases h4:tk=tStroke
    · rw [if_pos h4] at k ⊢
      intro p hp p1 hp1 p2 hp2
      have a:=tk_of (G:=fun a=>H a=none) (t:=tSaid) hp2 (evl1 (e:=[eSign,[c]]) hp1) (none_of_upd hp1)
      exact k _ _ ((same_upd hp).trans ((same_upd hp1).trans a.1)) a.2
    rw [if_neg h4] at k ⊢
    exact k _ _ (Same.refl H) rfl
end
section
variable {P:Program} {w:World} {K:PySem.W.Frag} {mg:Str->Option Value} {base:Heap} {t:Ads}
theorem ok_come_to (T:Txt w K mg t)(D:Df K mg "come_to" s_come_to ps_come_to):OkF P w K mg base 1 "come_to" ps_come_to sp_come_to:=by
  refine D.ok sc_come_to (fun vs H Q E h=>?_) (fun f cdv A outer s H vs Q E hr h=>?_)
  · obtain⟨_,_,_,_,_,rfl,_⟩:=h;rfl
  · obtain⟨m,oa,op,ea,es,rfl,ho,he,k⟩:=h
    refine⟨_,((qss_one (qs_ret (qe_tup (qa_cons (qe_tup (qa_cons (qv 0) (qa_cons (qe_S (l:=[]) (by decide +kernel)) (qa_cons (qv 1) (qa_cons (qe_S (l:=[]) (by decide +kernel)) qa_nil))))) (qa_cons (qv 2) qa_nil)))))).h,?_⟩
    walk_at "rd"
    intro p hp p1 hp1
    have a:=an_of (G:=fun a=>a=ea) (m:=m) (w:=[]) (t:=[]) hp hp1 ho he rfl
    exact k _ _ a.1 a.2
theorem ok_told (T:Txt w K mg t)(D:Df K mg "told" s_told ps_told)(F_come_to:OkF P w K mg base 1 "come_to" ps_come_to sp_come_to):OkF P w K mg base 2 "told" ps_told sp_told:=by
  refine D.ok sc_told (fun vs H Q E h=>?_) (fun f cdv A outer s H vs Q E hr h=>?_)
  · obtain⟨_,_,_,_,rfl,_⟩:=h;rfl
  · obtain⟨m,oa,op,o,rfl,ho,k⟩:=h
    refine⟨_,((qss_cons (qs_if (qt_cmpR op_isN (qv 2) qe_non (nomark _)) (qss_one (qs_ret qe_non)) qss_nil)
      (qss_one (qs_ret (qe_callF F_come_to hr (by decide) (qa_cons (qv 0) (qa_cons (qv 1) (qa_cons (qe_lst (qa_cons (qe_tup (qa_cons (qe_S (l:=[115,105,103,110]) (by decide +kernel)) (qa_cons (qv 2) qa_nil))) qa_nil)) qa_nil)))))))).h,?_⟩
    walk_at "rd"
    cases o with
    | none=>
      rw [if_pos (show oV none=V.non from rfl)]
      exact k _ _ (Same.refl H) rfl
    | some c=>
      rw [if_neg (by intro z;cases z)]
      intro p hp p1 hp1
      exact⟨op,ho.mono ((same_upd hp).trans (same_upd hp1)),[[eSign,[c]]],evl1 (e:=[eSign,[c]]) hp1,fun v H' g a=>k v H' (((same_upd hp).trans (same_upd hp1)).trans g) (a.imp fun x e=>by subst e;exact none_of_upd hp1)⟩
theorem ok_gathered (T:Txt w K mg t)(D:Df K mg "gathered" s_gathered ps_gathered):OkF P w K mg base 1 "gathered" ps_gathered sp_gathered:=by
  refine D.ok sc_gathered (fun vs H Q E h=>?_) (fun f cdv A outer s H vs Q E hr h=>?_)
  · obtain⟨_,_,_,_,_,_,rfl,_⟩:=h;rfl
  · obtain⟨m,wd,oa,op,tk,n,rfl,ho,hl,k⟩:=h
    refine⟨_,((qss_cons (qs_if (qt_cmpR op_gt (qe_callB call_lenS (by rfl) T.z_len bb_len (qa_cons (qv 1) qa_nil)) (qv 4) (nomark _)) (qss_one (qs_ret qe_non)) qss_nil)
      (qss_one (qs_ret (qe_tup (qa_cons (qe_tup (qa_cons (qv 0) (qa_cons (qv 1) (qa_cons (qv 2) (qa_cons (qv 3) qa_nil))))) (qa_cons (qe_lst qa_nil) qa_nil))))))).h,?_⟩
    walk_at "rd"
    refine⟨by lia,?_⟩
    unfold gath at k
    by_cases h:n<wd.length
    · rw [if_pos h] at k
      rw [if_pos (by lia)]
      exact k _ _ (Same.refl H) rfl
    · rw [if_neg h] at k
      rw [if_neg (by lia)]
      intro p hp p1 hp1 p2 hp2
      have g:=(same_upd (o:=.tup [.str (S m),.str (S wd),.ref oa,.str (S tk)]) hp).trans (same_upd (o:=.lst []) hp1)
      exact k _ _ (g.trans (same_upd hp2)) (an_up (same_upd hp1 _ _ upd_same) (ho.mono g) evl0 (none_of_upd hp1) hp2)
theorem ok_box_shut (T:Txt w K mg t)(D:Df K mg "box_shut" s_box_shut ps_box_shut)(F_come_to:OkF P w K mg base 1 "come_to" ps_come_to sp_come_to):OkF P w K mg base 2 "box_shut" ps_box_shut sp_box_shut:=by
  refine D.ok sc_box_shut (fun vs H Q E h=>?_) (fun f cdv A outer s H vs Q E hr h=>?_)
  · obtain⟨_,_,_,_,rfl,_⟩:=h;rfl
  · obtain⟨oa,op,ea,es,rfl,ho,he,hl,k⟩:=h
    refine⟨_,((qss_cons (qs_if (qt_not (qt_truthK (K:=K) (by rfl) (qv 0))) (qss_one (qs_ret qe_non)) qss_nil)
      (qss_one (qs_ret (qe_callF F_come_to hr (by decide) (qa_cons (qe_S (l:=[116,101,120,116]) (by decide +kernel)) (qa_cons (qe_slice sl_tupU (qv 0) qo_none (qo_some (qe_un un_neg qe_int))) (qa_cons (qe_op op_cat (qv 1) (qe_lst (qa_cons (qe_tup (qa_cons (qe_S (l:=[111,117,116]) (by decide +kernel)) qa_nil)) qa_nil))) qa_nil)))))))).h,?_⟩
    walk_at "rd"
    refine⟨_,tru_tup ho,?_⟩
    unfold boxShut at k
    by_cases h:op=[]
    · subst h
      rw [if_pos rfl] at k
      rw [if_pos (show(!!(List.map tx ([]:List Tx)).isEmpty)=true from rfl)]
      exact k _ _ (Same.refl H) rfl
    · rw [if_neg h] at k
      rw [if_neg (by cases op with | nil=>exact absurd rfl h | cons=>simp)]
      obtain⟨vs,e1,e2⟩:=he
      refine⟨_,ho,fun p H1 g1 hp p1 hp1 p2 hp2=>?_⟩
      have g2:=(same_upd (o:=.tup [.str (S eOut)]) hp1).trans (same_upd (o:=.lst [.ref p1]) hp2)
      refine⟨vs,g2 _ _ (g1 _ _ e1),_,upd_same,by rw [e2.len];simp;lia,fun p3 hp3=>?_⟩
      have g3:=g2.trans (same_upd (o:=.lst (vs++[.ref p1])) hp3)
      refine⟨op.dropLast,?_,es++[[eOut]],⟨_,upd_same,(e2.mono (g1.trans g3)).app (.cons ⟨p1,rfl,same_upd hp3 _ _ (same_upd hp2 _ _ upd_same)⟩ .nil)⟩,fun v H' g a=>k v H' (g1.trans (g3.trans g)) (a.imp fun x e=>?_)⟩
      · rw [cut_init,map_dropLast] at hp
        exact g3 _ _ hp
      · subst e
        exact none_of_same g1 (none_of_upd (none_of_upd hp3))
theorem ok_into_box (T:Txt w K mg t)(D:Df K mg "into_box" s_into_box ps_into_box)(F_come_to:OkF P w K mg base 1 "come_to" ps_come_to sp_come_to):OkF P w K mg base 2 "into_box" ps_into_box sp_into_box:=by
  refine D.ok sc_into_box (fun vs H Q E h=>?_) (fun f cdv A outer s H vs Q E hr h=>?_)
  · obtain⟨_,_,_,_,rfl,_⟩:=h;rfl
  · obtain⟨oa,op,ea,es,rfl,ho,he,hl,k⟩:=h
    refine⟨_,((qss_cons (qs_if (qt_not (qt_truthK (K:=K) (by rfl) (qv 0))) (qss_one (qs_ret qe_non)) qss_nil)
      (qss_cons (qs_set (i:=2) sc_into_box.nd (by rfl) (Or.inl (by rfl)) (qe_ifExp (qt_cmpR op_eq (qe_ix (ix_tupK (K:=K) (by rfl)) (qv 0) (qe_un un_neg qe_int) (fun _ _=>(by rfl))) (qe_S (l:=[97,115,105,115]) (by decide +kernel)) (nomark _)) (qe_S (l:=[97,115,105,115]) (by decide +kernel)) (qe_S (l:=[116,101,120,116]) (by decide +kernel))))
      (qss_one (qs_ret (qe_callF F_come_to hr (by decide) (qa_cons (qv 2) (qa_cons (qv 0) (qa_cons (qe_op op_cat (qv 1) (qe_lst (qa_cons (qe_tup (qa_cons (qe_S (l:=[105,110]) (by decide +kernel)) qa_nil)) qa_nil))) qa_nil))))))))).h,?_⟩
    walk_at "rd"
    refine⟨_,tru_tup ho,?_⟩
    unfold intoBox at k
    by_cases h:op=[]
    · subst h
      rw [if_pos rfl] at k
      rw [if_pos (show(!!(List.map tx ([]:List Tx)).isEmpty)=true from rfl)]
      exact k _ _ (Same.refl H) rfl
    · rw [if_neg h] at k
      rw [if_neg (by cases op with | nil=>exact absurd rfl h | cons=>simp)]
      obtain⟨vs,e1,e2⟩:=he
      obtain⟨l,hla⟩:∃ l,op.getLast? = some l:=by
        cases op with
        | nil=>exact absurd rfl h
        | cons a r=>exact⟨_,List.getLast?_eq_some_getLast (by simp)⟩
      refine⟨_,SqT.of ho,V.str (S l),by rw [atI_last1,List.getLast?_map,hla];rfl,rfl,?_⟩
      rw [hla] at k
      by_cases h2:l=mAsis
      · subst h2
        rw [if_pos rfl] at k ⊢
        intro p1 hp1 p2 hp2
        have g2:=(same_upd (o:=.tup [.str (S eIn)]) hp1).trans (same_upd (o:=.lst [.ref p1]) hp2)
        refine⟨vs,g2 _ _ e1,_,upd_same,by rw [e2.len];simp;lia,fun p3 hp3=>?_⟩
        have g3:=g2.trans (same_upd (o:=.lst (vs++[.ref p1])) hp3)
        exact⟨op,ho.mono g3,es++[[eIn]],⟨_,upd_same,(e2.mono g3).app (.cons ⟨p1,rfl,same_upd hp3 _ _ (same_upd hp2 _ _ upd_same)⟩ .nil)⟩,fun v H' g a=>k v H' (g3.trans g) (a.imp fun x e=>by subst e;exact none_of_upd (none_of_upd hp3))⟩
      · rw [if_neg (by intro z;exact h2 (Option.some.inj z))] at k
        rw [if_neg (by rw [V.str.injEq,S_inj];exact h2)]
        intro p1 hp1 p2 hp2
        have g2:=(same_upd (o:=.tup [.str (S eIn)]) hp1).trans (same_upd (o:=.lst [.ref p1]) hp2)
        refine⟨vs,g2 _ _ e1,_,upd_same,by rw [e2.len];simp;lia,fun p3 hp3=>?_⟩
        have g3:=g2.trans (same_upd (o:=.lst (vs++[.ref p1])) hp3)
        exact⟨op,ho.mono g3,es++[[eIn]],⟨_,upd_same,(e2.mono g3).app (.cons ⟨p1,rfl,same_upd hp3 _ _ (same_upd hp2 _ _ upd_same)⟩ .nil)⟩,fun v H' g a=>k v H' (g3.trans g) (a.imp fun x e=>by subst e;exact none_of_upd (none_of_upd hp3))⟩
theorem ok_led_on (T:Txt w K mg t)(D:Df K mg "led_on" s_led_on ps_led_on)(F_come_to:OkF P w K mg base 1 "come_to" ps_come_to sp_come_to)(F_into_box:OkF P w K mg base 2 "into_box" ps_into_box sp_into_box):OkF P w K mg base 3 "led_on" ps_led_on sp_led_on:=by
  refine D.ok sc_led_on (fun vs H Q E h=>?_) (fun f cdv A outer s H vs Q E hr h=>?_)
  · obtain⟨_,_,_,_,_,rfl,_⟩:=h;rfl
  · obtain⟨oa,op,c,ea,es,rfl,ho,he,hl,k⟩:=h
    refine⟨_,((qss_cons (qs_if (qt_cmpR op_eq (qv 1) (qe_S (l:=[32]) (by decide +kernel)) (nomark _)) (qss_one (qs_ret (qe_callF F_come_to hr (by decide) (qa_cons (qe_S (l:=[103,97,112]) (by decide +kernel)) (qa_cons (qv 0) (qa_cons (qv 2) qa_nil)))))) qss_nil)
      (qss_cons (qs_if (qt_cmpR op_eq (qv 1) (qe_S (l:=[47]) (by decide +kernel)) (nomark _)) (qss_one (qs_ret (qe_callF F_come_to hr (by decide) (qa_cons (qe_S (l:=[115,108,97,115,104]) (by decide +kernel)) (qa_cons (qv 0) (qa_cons (qv 2) qa_nil)))))) qss_nil)
      (qss_cons (qs_if (qt_cmpR op_eq (qv 1) (qe_S (l:=[62]) (by decide +kernel)) (nomark _)) (qss_one (qs_ret (qe_callF F_into_box hr (by decide) (qa_cons (qv 0) (qa_cons (qv 2) qa_nil))))) qss_nil)
      (qss_one (qs_ret qe_non)))))).h,?_⟩
    walk_at "rd"
    unfold ledOn at k
    by_cases h1:c=32
    · rw [if_pos h1] at k ⊢
      exact⟨op,ho,es,he,fun v H' g a=>k v H' g (a.imp fun x e=>.inr e)⟩
    rw [if_neg h1] at k ⊢
    by_cases h2:c=47
    · rw [if_pos h2] at k ⊢
      exact⟨op,ho,es,he,fun v H' g a=>k v H' g (a.imp fun x e=>.inr e)⟩
    rw [if_neg h2] at k ⊢
    by_cases h3:c=62
    · rw [if_pos h3] at k ⊢
      exact⟨op,ho,es,he,hl,fun v H' g a=>k v H' g (a.imp fun x e=>.inl e)⟩
    rw [if_neg h3] at k ⊢
    exact k _ _ (Same.refl H) rfl
theorem ok_fed (T:Txt w K mg t)(D:Df K mg "fed" s_fed ps_fed)(F_feed:OkF P w K mg base 3 "feed" ps_feed sp_feed):OkF P w K mg base 4 "fed" ps_fed sp_fed:=by
  refine D.ok sc_fed (fun vs H Q E h=>?_) (fun f cdv A outer s H vs Q E hr h=>?_)
  · obtain⟨_,_,_,_,rfl,_⟩:=h;rfl
  · obtain⟨oa,op,tk,o,rfl,ho,k⟩:=h
    refine⟨_,((qss_cons (qs_set (i:=3) sc_fed.nd (by rfl) (Or.inl (by rfl)) (qe_ifExp (qt_cmpR op_isN (qv 2) qe_non (nomark _)) qe_non (qe_callF F_feed hr (by decide) (qa_cons (qv 1) (qa_cons (qv 2) qa_nil)))))
      (qss_cons (qs_if (qt_cmpR op_isN (qv 3) qe_non (nomark _)) (qss_one (qs_ret qe_non)) qss_nil)
      (qss_one (qs_ret (qe_tup (qa_cons (qe_tup (qa_cons (qe_S (l:=[116,97,108,107]) (by decide +kernel)) (qa_cons (qe_S (l:=[]) (by decide +kernel)) (qa_cons (qv 0) (qa_cons (qe_ix (ix_tupK (K:=K) (by rfl)) (qv 3) qe_int (fun _ _=>(by rfl))) qa_nil))))) (qa_cons (qe_ix (ix_tupK (K:=K) (by rfl)) (qv 3) qe_int (fun _ _=>(by rfl))) qa_nil)))))))).h,?_⟩
    walk_at "rd"
    cases o with
    | none=>
      rw [if_pos (show oV none=V.non from rfl)]
      exact k _ _ (Same.refl H) rfl
    | some c=>
      rw [if_neg (by intro z;cases z)]
      refine⟨c,rfl,fun v H1 g1 a=>?_⟩
      unfold fedM at k
      cases hf:feedM tk c with
      | none=>
        rw [hf] at a
        simp only [hf] at k
        have a:v=.non:=a
        subst a
        rw [if_pos rfl]
        exact k _ _ g1 rfl
      | some r=>
        obtain⟨tk',es⟩:=r
        rw [hf] at a
        simp only [hf] at k
        obtain⟨p,ea,rfl,hp,he,hg⟩:=a
        rw [if_neg (by intro z;cases z)]
        exact⟨p,rfl,_,SqT.of hp,_,rfl,fun p1 hp1=>⟨p,rfl,_,SqT.of (same_upd hp1 _ _ hp),_,rfl,fun p2 hp2=>k _ _ (g1.trans ((same_upd hp1).trans (same_upd hp2))) (an_up upd_same ((ho.mono g1).mono (same_upd hp1)) (he.mono (same_upd hp1)) hg hp2)⟩⟩
theorem ok_mark_ended (T:Txt w K mg t)(D:Df K mg "mark_ended" s_mark_ended ps_mark_ended)(F_sign_told:OkF P w K mg base 2 "sign_told" ps_sign_told sp_sign_told):OkF P w K mg base 3 "mark_ended" ps_mark_ended sp_mark_ended:=by
  refine D.ok sc_mark_ended (fun vs H Q E h=>?_) (fun f cdv A outer s H vs Q E hr h=>?_)
  · obtain⟨_,_,rfl,_⟩:=h;rfl
  · obtain⟨wd,c,rfl,hl,k⟩:=h
    refine⟨_,((qss_one (qs_ret (qe_ifExp (qt_cmpR op_eq (qv 1) (qe_S (l:=[59]) (by decide +kernel)) (nomark _)) (qe_callF F_sign_told hr (by decide) (qa_cons (qv 0) qa_nil)) qe_non)))).h,?_⟩
    walk_at "rd"
    unfold mkEnd at k
    by_cases h:c=59
    · rw [if_pos h] at k ⊢
      exact⟨by lia,k⟩
    · rw [if_neg h] at k ⊢
      exact k H (Same.refl H)
end
section
variable {P:Program} {w:World} {K:PySem.W.Frag} {mg:Str->Option Value} {base:Heap} {t:Ads}
theorem ok_at_text (T:Txt w K mg t)(D:Df K mg "at_text" s_at_text ps_at_text)(F_come_to:OkF P w K mg base 1 "come_to" ps_come_to sp_come_to)(F_told:OkF P w K mg base 2 "told" ps_told sp_told):OkF P w K mg base 3 "at_text" ps_at_text sp_at_text:=by
  refine D.ok sc_at_text (fun vs H Q E h=>?_) (fun f cdv A outer s H vs Q E hr h=>?_)
  · obtain⟨_,_,_,_,_,rfl,_⟩:=h;rfl
  · obtain⟨wd,oa,op,tk,c,rfl,ho,hw,hop,k⟩:=h
    refine⟨_,((qss_cons (qs_if (qt_cmpR op_eq (qv 3) (qe_S (l:=[60]) (by decide +kernel)) (nomark _)) (qss_one (qs_ret (qe_callF F_come_to hr (by decide) (qa_cons (qe_S (l:=[111,112,101,110]) (by decide +kernel)) (qa_cons (qv 1) (qa_cons (qe_lst qa_nil) qa_nil)))))) qss_nil)
      (qss_cons (qs_if (qt_cmpR op_eq (qv 3) (qe_S (l:=[38]) (by decide +kernel)) (nomark _)) (qss_one (qs_ret (qe_callF F_come_to hr (by decide) (qa_cons (qe_S (l:=[109,97,114,107]) (by decide +kernel)) (qa_cons (qv 1) (qa_cons (qe_lst qa_nil) qa_nil)))))) qss_nil)
      (qss_one (qs_ret (qe_callF F_told hr (by decide) (qa_cons (qe_S (l:=[116,101,120,116]) (by decide +kernel)) (qa_cons (qv 1) (qa_cons (qv 3) qa_nil))))))))).h,?_⟩
    walk_at "rd"
    unfold aText at k
    by_cases h0:c=60
    · rw [if_pos h0] at k ⊢
      exact fun p hp=>⟨op,ho.mono (same_upd hp),[],evl0,fun v H' g a=>k v H' ((same_upd hp).trans g) (a.imp fun x e=>by subst e;exact hp)⟩
    rw [if_neg h0] at k ⊢
    by_cases h1:c=38
    · rw [if_pos h1] at k ⊢
      exact fun p hp=>⟨op,ho.mono (same_upd hp),[],evl0,fun v H' g a=>k v H' ((same_upd hp).trans g) (a.imp fun x e=>by subst e;exact hp)⟩
    rw [if_neg h1] at k ⊢
    exact⟨op,some c,rfl,ho,fun v H' g a=>k v H' g a⟩
theorem ok_at_mark (T:Txt w K mg t)(D:Df K mg "at_mark" s_at_mark ps_at_mark)(F_gathered:OkF P w K mg base 1 "gathered" ps_gathered sp_gathered)(F_mark_ended:OkF P w K mg base 3 "mark_ended" ps_mark_ended sp_mark_ended)(F_told:OkF P w K mg base 2 "told" ps_told sp_told):OkF P w K mg base 4 "at_mark" ps_at_mark sp_at_mark:=by
  refine D.ok sc_at_mark (fun vs H Q E h=>?_) (fun f cdv A outer s H vs Q E hr h=>?_)
  · obtain⟨_,_,_,_,_,rfl,_⟩:=h;rfl
  · obtain⟨wd,oa,op,tk,c,rfl,ho,hw,hop,k⟩:=h
    refine⟨_,((qss_cons (qs_if (qt_cmpR op_inS (qv 3) (qe_gl T.g_FIGURES) (by rfl)) (qss_one (qs_ret (qe_callF F_gathered hr (by decide) (qa_cons (qe_S (l:=[109,97,114,107]) (by decide +kernel)) (qa_cons (qe_op op_addS (qv 0) (qv 3)) (qa_cons (qv 1) (qa_cons (qe_S (l:=[]) (by decide +kernel)) (qa_cons (qe_gl T.g_MARK_FIGURES) qa_nil)))))))) qss_nil)
      (qss_one (qs_ret (qe_callF F_told hr (by decide) (qa_cons (qe_S (l:=[116,101,120,116]) (by decide +kernel)) (qa_cons (qv 1) (qa_cons (qe_callF F_mark_ended hr (by decide) (qa_cons (qv 0) (qa_cons (qv 3) qa_nil))) qa_nil)))))))).h,?_⟩
    walk_at "rd"
    unfold aMark at k
    by_cases h0:c∈fg
    · rw [if_pos h0] at k ⊢
      exact⟨by lia,op,2,rfl,ho,by rw [List.length_append];simp;lia,fun v H' g a=>k v H' g a⟩
    rw [if_neg h0] at k ⊢
    exact⟨by lia,fun H1 g1=>⟨op,mkEnd wd c,rfl,ho.mono g1,fun v H' g a=>k v H' (g1.trans g) (a.imp fun x e=>none_of_same g1 e)⟩⟩
theorem ok_at_open (T:Txt w K mg t)(D:Df K mg "at_open" s_at_open ps_at_open)(F_come_to:OkF P w K mg base 1 "come_to" ps_come_to sp_come_to)(F_gathered:OkF P w K mg base 1 "gathered" ps_gathered sp_gathered):OkF P w K mg base 2 "at_open" ps_at_open sp_at_open:=by
  refine D.ok sc_at_open (fun vs H Q E h=>?_) (fun f cdv A outer s H vs Q E hr h=>?_)
  · obtain⟨_,_,_,_,_,rfl,_⟩:=h;rfl
  · obtain⟨wd,oa,op,tk,c,rfl,ho,hw,hop,k⟩:=h
    refine⟨_,((qss_cons (qs_if (qt_cmpR op_eq (qv 3) (qe_S (l:=[47]) (by decide +kernel)) (nomark _)) (qss_one (qs_ret (qe_callF F_come_to hr (by decide) (qa_cons (qe_S (l:=[115,104,117,116]) (by decide +kernel)) (qa_cons (qv 1) (qa_cons (qe_lst qa_nil) qa_nil)))))) qss_nil)
      (qss_cons (qs_if (qt_cmpR op_inS (qv 3) (qe_gl T.g_LETTERS) (by rfl)) (qss_one (qs_ret (qe_callF F_gathered hr (by decide) (qa_cons (qe_S (l:=[110,97,109,101]) (by decide +kernel)) (qa_cons (qv 3) (qa_cons (qv 1) (qa_cons (qe_S (l:=[]) (by decide +kernel)) (qa_cons (qe_gl T.g_LONGEST_NAME) qa_nil)))))))) qss_nil)
      (qss_one (qs_ret qe_non))))).h,?_⟩
    walk_at "rd"
    unfold aOpen at k
    by_cases h0:c=47
    · rw [if_pos h0] at k ⊢
      exact fun p hp=>⟨op,ho.mono (same_upd hp),[],evl0,fun v H' g a=>k v H' ((same_upd hp).trans g) (a.imp fun x e=>by subst e;exact hp)⟩
    rw [if_neg h0] at k ⊢
    by_cases h1:c∈lt
    · rw [if_pos h1] at k ⊢
      exact⟨op,8,rfl,ho,fun v H' g a=>k v H' g a⟩
    rw [if_neg h1] at k ⊢
    exact k _ _ (Same.refl H) rfl
theorem ok_at_name (T:Txt w K mg t)(D:Df K mg "at_name" s_at_name ps_at_name)(F_gathered:OkF P w K mg base 1 "gathered" ps_gathered sp_gathered)(F_led_on:OkF P w K mg base 3 "led_on" ps_led_on sp_led_on):OkF P w K mg base 4 "at_name" ps_at_name sp_at_name:=by
  refine D.ok sc_at_name (fun vs H Q E h=>?_) (fun f cdv A outer s H vs Q E hr h=>?_)
  · obtain⟨_,_,_,_,_,rfl,_⟩:=h;rfl
  · obtain⟨wd,oa,op,tk,c,rfl,ho,hw,hop,k⟩:=h
    refine⟨_,((qss_cons (qs_if (qt_cmpR op_inS (qv 3) (qe_gl T.g_LETTERS) (by rfl)) (qss_one (qs_ret (qe_callF F_gathered hr (by decide) (qa_cons (qe_S (l:=[110,97,109,101]) (by decide +kernel)) (qa_cons (qe_op op_addS (qv 0) (qv 3)) (qa_cons (qv 1) (qa_cons (qe_S (l:=[]) (by decide +kernel)) (qa_cons (qe_gl T.g_LONGEST_NAME) qa_nil)))))))) qss_nil)
      (qss_one (qs_ret (qe_callF F_led_on hr (by decide) (qa_cons (qe_op op_catU (qv 1) (qe_tup (qa_cons (qv 0) qa_nil))) (qa_cons (qv 3) (qa_cons (qe_lst (qa_cons (qe_tup (qa_cons (qe_S (l:=[98,111,120]) (by decide +kernel)) (qa_cons (qv 0) qa_nil))) qa_nil)) qa_nil)))))))).h,?_⟩
    walk_at "rd"
    unfold aName at k
    by_cases h0:c∈lt
    · rw [if_pos h0] at k ⊢
      exact⟨by lia,op,8,rfl,ho,by rw [List.length_append];simp;lia,fun v H' g a=>k v H' g a⟩
    rw [if_neg h0] at k ⊢
    intro p hp
    refine⟨_,same_upd hp _ _ ho,_,upd_same,by simp;lia,fun p1 H1 g1 hp1 p2 hp2 p3 hp3=>?_⟩
    have g0:=(same_upd (o:=.tup [.str (S wd)]) hp).trans g1
    have g2:=(same_upd (o:=.tup [.str (S eBox),.str (S wd)]) hp2).trans (same_upd (o:=.lst [.ref p2]) hp3)
    have ho2:OpV H1 p1 (op++[wd]):=by
      unfold OpV
      rw [hp1,List.map_append]
      rfl
    exact⟨op++[wd],ho2.mono g2,[[eBox,wd]],evl1 (e:=[eBox,wd]) hp3,by simp,fun v H' g a=>k v H' (g0.trans (g2.trans g)) (a.imp fun x e=>e.elim (fun e=>none_of_same g0 (none_of_upd (none_of_upd e))) fun e=>by subst e;exact none_of_same g0 (none_of_upd hp3))⟩
theorem ok_at_slash (T:Txt w K mg t)(D:Df K mg "at_slash" s_at_slash ps_at_slash)(F_box_shut:OkF P w K mg base 2 "box_shut" ps_box_shut sp_box_shut):OkF P w K mg base 3 "at_slash" ps_at_slash sp_at_slash:=by
  refine D.ok sc_at_slash (fun vs H Q E h=>?_) (fun f cdv A outer s H vs Q E hr h=>?_)
  · obtain⟨_,_,_,_,_,rfl,_⟩:=h;rfl
  · obtain⟨wd,oa,op,tk,c,rfl,ho,hw,hop,k⟩:=h
    refine⟨_,((qss_cons (qs_if (qt_cmpR op_eq (qv 3) (qe_S (l:=[62]) (by decide +kernel)) (nomark _)) (qss_one (qs_ret (qe_callF F_box_shut hr (by decide) (qa_cons (qv 1) (qa_cons (qe_lst (qa_cons (qe_tup (qa_cons (qe_S (l:=[105,110]) (by decide +kernel)) qa_nil)) qa_nil)) qa_nil))))) qss_nil)
      (qss_one (qs_ret qe_non)))).h,?_⟩
    walk_at "rd"
    unfold aSlash at k
    by_cases h0:c=62
    · rw [if_pos h0] at k ⊢
      exact fun p hp p1 hp1=>⟨op,ho.mono ((same_upd hp).trans (same_upd hp1)),[[eIn]],evl1 (e:=[eIn]) hp1,by simp,fun v H' g a=>k v H' (((same_upd hp).trans (same_upd hp1)).trans g) (a.imp fun x e=>none_of_upd (none_of_upd e))⟩
    rw [if_neg h0] at k ⊢
    exact k _ _ (Same.refl H) rfl
theorem ok_at_shut (T:Txt w K mg t)(D:Df K mg "at_shut" s_at_shut ps_at_shut)(F_gathered:OkF P w K mg base 1 "gathered" ps_gathered sp_gathered)(F_box_shut:OkF P w K mg base 2 "box_shut" ps_box_shut sp_box_shut):OkF P w K mg base 3 "at_shut" ps_at_shut sp_at_shut:=by
  refine D.ok sc_at_shut (fun vs H Q E h=>?_) (fun f cdv A outer s H vs Q E hr h=>?_)
  · obtain⟨_,_,_,_,_,rfl,_⟩:=h;rfl
  · obtain⟨wd,oa,op,tk,c,rfl,ho,hw,hop,k⟩:=h
    refine⟨_,((qss_cons (qs_if (qt_cmpR op_inS (qv 3) (qe_gl T.g_LETTERS) (by rfl)) (qss_one (qs_ret (qe_callF F_gathered hr (by decide) (qa_cons (qe_S (l:=[115,104,117,116]) (by decide +kernel)) (qa_cons (qe_op op_addS (qv 0) (qv 3)) (qa_cons (qv 1) (qa_cons (qe_S (l:=[]) (by decide +kernel)) (qa_cons (qe_gl T.g_LONGEST_NAME) qa_nil)))))))) qss_nil)
      (qss_cons (qs_if (QW.qt (qw_and (qt_cmpR op_eq (qv 3) (qe_S (l:=[62]) (by decide +kernel)) (nomark _)) (qw_and1 (qt_cmpR (op_eqSK (K:=K) (by rfl) (hu_lt hr)) (qe_slice sl_tupU (qv 1) (qo_some (qe_un un_neg qe_int)) qo_none) (qe_tup (qa_cons (qv 0) qa_nil)) (nomark _))))) (qss_one (qs_ret (qe_callF F_box_shut hr (by decide) (qa_cons (qv 1) (qa_cons (qe_lst qa_nil) qa_nil))))) qss_nil)
      (qss_one (qs_ret qe_non))))).h,?_⟩
    walk_at "rd"
    unfold aShut at k
    by_cases h0:c∈lt
    · rw [if_pos h0] at k ⊢
      exact⟨by lia,op,8,rfl,ho,by rw [List.length_append];simp;lia,fun v H' g a=>k v H' g a⟩
    rw [if_neg h0] at k ⊢
    by_cases h1:c=62
    · rw [if_pos h1]
      refine⟨_,ho,fun p H1 g1 hp p1 hp1=>⟨_,_,.inr ⟨SqT.of (same_upd hp1 _ _ hp),SqT.of upd_same⟩,by rw [cut_last];exact flat_drop (flat_txs op),rfl,?_⟩⟩
      rw [cut_last,eq_last]
      have g2:=g1.trans (same_upd (o:=.tup [.str (S wd)]) hp1)
      by_cases h2:op.getLast? = some wd
      · rw [if_pos (decide_eq_true h2)]
        rw [if_pos ⟨h1,h2⟩] at k
        exact fun p2 hp2=>⟨op,(ho.mono g2).mono (same_upd hp2),[],evl0,by simp,fun v H' g a=>k v H' (g2.trans ((same_upd hp2).trans g)) (a.imp fun x e=>none_of_same g2 (none_of_upd e))⟩
      · rw [if_neg (by simp [h2])]
        rw [if_neg (by rintro⟨_,z⟩;exact h2 z)] at k
        exact k _ _ g2 rfl
    · rw [if_neg h1]
      rw [if_neg (by rintro⟨z,_⟩;exact h1 z)] at k
      exact k _ _ (Same.refl H) rfl
theorem ok_at_gap (T:Txt w K mg t)(D:Df K mg "at_gap" s_at_gap ps_at_gap)(F_gathered:OkF P w K mg base 1 "gathered" ps_gathered sp_gathered):OkF P w K mg base 2 "at_gap" ps_at_gap sp_at_gap:=by
  refine D.ok sc_at_gap (fun vs H Q E h=>?_) (fun f cdv A outer s H vs Q E hr h=>?_)
  · obtain⟨_,_,_,_,_,rfl,_⟩:=h;rfl
  · obtain⟨wd,oa,op,tk,c,rfl,ho,hw,hop,k⟩:=h
    refine⟨_,((qss_cons (qs_if (qt_cmpR op_inS (qv 3) (qe_gl T.g_LETTERS) (by rfl)) (qss_one (qs_ret (qe_callF F_gathered hr (by decide) (qa_cons (qe_S (l:=[97,116,116,114]) (by decide +kernel)) (qa_cons (qv 3) (qa_cons (qv 1) (qa_cons (qe_S (l:=[]) (by decide +kernel)) (qa_cons (qe_gl T.g_LONGEST_NAME) qa_nil)))))))) qss_nil)
      (qss_one (qs_ret qe_non)))).h,?_⟩
    walk_at "rd"
    unfold aGap at k
    by_cases h0:c∈lt
    · rw [if_pos h0] at k ⊢
      exact⟨op,8,rfl,ho,fun v H' g a=>k v H' g a⟩
    rw [if_neg h0] at k ⊢
    exact k _ _ (Same.refl H) rfl
end
section
variable {P:Program} {w:World} {K:PySem.W.Frag} {mg:Str->Option Value} {base:Heap} {t:Ads}
theorem ok_at_attr (T:Txt w K mg t)(D:Df K mg "at_attr" s_at_attr ps_at_attr)(F_gathered:OkF P w K mg base 1 "gathered" ps_gathered sp_gathered)(F_come_to:OkF P w K mg base 1 "come_to" ps_come_to sp_come_to):OkF P w K mg base 2 "at_attr" ps_at_attr sp_at_attr:=by
  refine D.ok sc_at_attr (fun vs H Q E h=>?_) (fun f cdv A outer s H vs Q E hr h=>?_)
  · obtain⟨_,_,_,_,_,rfl,_⟩:=h;rfl
  · obtain⟨wd,oa,op,tk,c,rfl,ho,hw,hop,k⟩:=h
    refine⟨_,((qss_cons (qs_if (qt_cmpR op_inS (qv 3) (qe_gl T.g_LETTERS) (by rfl)) (qss_one (qs_ret (qe_callF F_gathered hr (by decide) (qa_cons (qe_S (l:=[97,116,116,114]) (by decide +kernel)) (qa_cons (qe_op op_addS (qv 0) (qv 3)) (qa_cons (qv 1) (qa_cons (qe_S (l:=[]) (by decide +kernel)) (qa_cons (qe_gl T.g_LONGEST_NAME) qa_nil)))))))) qss_nil)
      (qss_cons (qs_if (qt_cmpR op_eq (qv 3) (qe_S (l:=[58]) (by decide +kernel)) (nomark _)) (qss_one (qs_ret (qe_callF F_come_to hr (by decide) (qa_cons (qe_S (l:=[98,97,114,101]) (by decide +kernel)) (qa_cons (qv 1) (qa_cons (qe_lst (qa_cons (qe_tup (qa_cons (qe_S (l:=[97,116,116,114]) (by decide +kernel)) (qa_cons (qv 0) (qa_cons (qe_S (l:=[98,97,114,101]) (by decide +kernel)) qa_nil)))) qa_nil)) qa_nil)))))) qss_nil)
      (qss_cons (qs_if (qt_cmpR op_eq (qv 3) (qe_S (l:=[40]) (by decide +kernel)) (nomark _)) (qss_one (qs_ret (qe_callF F_come_to hr (by decide) (qa_cons (qe_S (l:=[114,111,119]) (by decide +kernel)) (qa_cons (qv 1) (qa_cons (qe_lst (qa_cons (qe_tup (qa_cons (qe_S (l:=[97,116,116,114]) (by decide +kernel)) (qa_cons (qv 0) (qa_cons (qe_S (l:=[114,111,119]) (by decide +kernel)) qa_nil)))) qa_nil)) qa_nil)))))) qss_nil)
      (qss_cons (qs_if (qt_cmpR op_eq (qv 3) (qe_S (l:=[61]) (by decide +kernel)) (nomark _)) (qss_one (qs_ret (qe_tup (qa_cons (qe_tup (qa_cons (qe_S (l:=[105,115]) (by decide +kernel)) (qa_cons (qv 0) (qa_cons (qv 1) (qa_cons (qe_S (l:=[]) (by decide +kernel)) qa_nil))))) (qa_cons (qe_lst qa_nil) qa_nil))))) qss_nil)
      (qss_cons (qs_if (qt_cmpR op_eq (qv 3) (qe_S (l:=[33]) (by decide +kernel)) (nomark _)) (qss_one (qs_ret (qe_tup (qa_cons (qe_tup (qa_cons (qe_S (l:=[98,97,110,103]) (by decide +kernel)) (qa_cons (qv 0) (qa_cons (qv 1) (qa_cons (qe_S (l:=[]) (by decide +kernel)) qa_nil))))) (qa_cons (qe_lst qa_nil) qa_nil))))) qss_nil)
      (qss_one (qs_ret qe_non)))))))).h,?_⟩
    walk_at "rd"
    unfold aAttr at k
    by_cases h0:c∈lt
    · rw [if_pos h0] at k ⊢
      exact⟨by lia,op,8,rfl,ho,by rw [List.length_append];simp;lia,fun v H' g a=>k v H' g a⟩
    rw [if_neg h0] at k ⊢
    by_cases h1:c=58
    · rw [if_pos h1] at k ⊢
      exact fun p hp p1 hp1=>⟨op,ho.mono ((same_upd hp).trans (same_upd hp1)),[[eAttr,wd,mBare]],evl1 (e:=[eAttr,wd,mBare]) hp1,fun v H' g a=>k v H' (((same_upd hp).trans (same_upd hp1)).trans g) (a.imp fun x e=>by subst e;exact none_of_upd hp1)⟩
    rw [if_neg h1] at k ⊢
    by_cases h2:c=40
    · rw [if_pos h2] at k ⊢
      exact fun p hp p1 hp1=>⟨op,ho.mono ((same_upd hp).trans (same_upd hp1)),[[eAttr,wd,mRow]],evl1 (e:=[eAttr,wd,mRow]) hp1,fun v H' g a=>k v H' (((same_upd hp).trans (same_upd hp1)).trans g) (a.imp fun x e=>by subst e;exact none_of_upd hp1)⟩
    rw [if_neg h2] at k ⊢
    by_cases h3:c=61
    · rw [if_pos h3] at k ⊢
      exact fun p hp p1 hp1 p2 hp2=>k _ _ ((same_upd hp).trans ((same_upd hp1).trans (same_upd hp2))) (an_up (same_upd hp1 _ _ upd_same) ((ho.mono (same_upd hp)).mono (same_upd hp1)) evl0 (none_of_upd hp1) hp2)
    rw [if_neg h3] at k ⊢
    by_cases h4:c=33
    · rw [if_pos h4] at k ⊢
      exact fun p hp p1 hp1 p2 hp2=>k _ _ ((same_upd hp).trans ((same_upd hp1).trans (same_upd hp2))) (an_up (same_upd hp1 _ _ upd_same) ((ho.mono (same_upd hp)).mono (same_upd hp1)) evl0 (none_of_upd hp1) hp2)
    rw [if_neg h4] at k ⊢
    exact k _ _ (Same.refl H) rfl
theorem ok_at_is (T:Txt w K mg t)(D:Df K mg "at_is" s_at_is ps_at_is)(F_come_to:OkF P w K mg base 1 "come_to" ps_come_to sp_come_to):OkF P w K mg base 2 "at_is" ps_at_is sp_at_is:=by
  refine D.ok sc_at_is (fun vs H Q E h=>?_) (fun f cdv A outer s H vs Q E hr h=>?_)
  · obtain⟨_,_,_,_,_,rfl,_⟩:=h;rfl
  · obtain⟨wd,oa,op,tk,c,rfl,ho,hw,hop,k⟩:=h
    refine⟨_,((qss_cons (qs_if (qt_cmpR op_eq (qv 3) (qe_S (l:=[34]) (by decide +kernel)) (nomark _)) (qss_one (qs_ret (qe_callF F_come_to hr (by decide) (qa_cons (qe_S (l:=[113,117,111,116,101,100]) (by decide +kernel)) (qa_cons (qv 1) (qa_cons (qe_lst (qa_cons (qe_tup (qa_cons (qe_S (l:=[97,116,116,114]) (by decide +kernel)) (qa_cons (qv 0) (qa_cons (qe_S (l:=[113,117,111,116,101,100]) (by decide +kernel)) qa_nil)))) qa_nil)) qa_nil)))))) qss_nil)
      (qss_one (qs_ret qe_non)))).h,?_⟩
    walk_at "rd"
    unfold aIs at k
    by_cases h0:c=34
    · rw [if_pos h0] at k ⊢
      exact fun p hp p1 hp1=>⟨op,ho.mono ((same_upd hp).trans (same_upd hp1)),[[eAttr,wd,mQuoted]],evl1 (e:=[eAttr,wd,mQuoted]) hp1,fun v H' g a=>k v H' (((same_upd hp).trans (same_upd hp1)).trans g) (a.imp fun x e=>by subst e;exact none_of_upd hp1)⟩
    rw [if_neg h0] at k ⊢
    exact k _ _ (Same.refl H) rfl
theorem ok_at_bang (T:Txt w K mg t)(D:Df K mg "at_bang" s_at_bang ps_at_bang):OkF P w K mg base 1 "at_bang" ps_at_bang sp_at_bang:=by
  refine D.ok sc_at_bang (fun vs H Q E h=>?_) (fun f cdv A outer s H vs Q E hr h=>?_)
  · obtain⟨_,_,_,_,_,rfl,_⟩:=h;rfl
  · obtain⟨wd,oa,op,tk,c,rfl,ho,hw,hop,k⟩:=h
    refine⟨_,((qss_cons (qs_if (qt_cmpR op_eq (qv 3) (qe_S (l:=[34]) (by decide +kernel)) (nomark _)) (qss_one (qs_ret (qe_tup (qa_cons (qe_tup (qa_cons (qe_S (l:=[116,97,108,107]) (by decide +kernel)) (qa_cons (qe_S (l:=[]) (by decide +kernel)) (qa_cons (qv 1) (qa_cons (qe_S (l:=[98,101,116,119,101,101,110]) (by decide +kernel)) qa_nil))))) (qa_cons (qe_lst (qa_cons (qe_tup (qa_cons (qe_S (l:=[97,116,116,114]) (by decide +kernel)) (qa_cons (qv 0) (qa_cons (qe_S (l:=[116,97,108,107]) (by decide +kernel)) qa_nil)))) qa_nil)) qa_nil))))) qss_nil)
      (qss_one (qs_ret qe_non)))).h,?_⟩
    walk_at "rd"
    unfold aBang at k
    by_cases h0:c=34
    · rw [if_pos h0] at k ⊢
      exact fun p hp p1 hp1 p2 hp2 p3 hp3=>k _ _ ((same_upd hp).trans ((same_upd hp1).trans ((same_upd hp2).trans (same_upd hp3)))) (an_up (same_upd hp2 _ _ (same_upd hp1 _ _ upd_same)) (((ho.mono (same_upd hp)).mono (same_upd hp1)).mono (same_upd hp2)) (evl1 (e:=[eAttr,wd,mTalk]) hp2) (none_of_upd (none_of_upd hp2)) hp3)
    rw [if_neg h0] at k ⊢
    exact k _ _ (Same.refl H) rfl
theorem ok_at_bare (T:Txt w K mg t)(D:Df K mg "at_bare" s_at_bare ps_at_bare)(F_told:OkF P w K mg base 2 "told" ps_told sp_told)(F_come_to:OkF P w K mg base 1 "come_to" ps_come_to sp_come_to)(F_led_on:OkF P w K mg base 3 "led_on" ps_led_on sp_led_on):OkF P w K mg base 4 "at_bare" ps_at_bare sp_at_bare:=by
  refine D.ok sc_at_bare (fun vs H Q E h=>?_) (fun f cdv A outer s H vs Q E hr h=>?_)
  · obtain⟨_,_,_,_,_,rfl,_⟩:=h;rfl
  · obtain⟨wd,oa,op,tk,c,rfl,ho,hw,hop,k⟩:=h
    refine⟨_,((qss_cons (qs_if (qt_cmpR op_inS (qv 3) (qe_gl T.g_WORDSIGNS) (by rfl)) (qss_one (qs_ret (qe_callF F_told hr (by decide) (qa_cons (qe_S (l:=[98,97,114,101]) (by decide +kernel)) (qa_cons (qv 1) (qa_cons (qv 3) qa_nil)))))) qss_nil)
      (qss_cons (qs_if (qt_cmpR op_eq (qv 3) (qe_S (l:=[126]) (by decide +kernel)) (nomark _)) (qss_one (qs_ret (qe_callF F_come_to hr (by decide) (qa_cons (qe_S (l:=[99,111,100,101]) (by decide +kernel)) (qa_cons (qv 1) (qa_cons (qe_lst qa_nil) qa_nil)))))) qss_nil)
      (qss_one (qs_ret (qe_callF F_led_on hr (by decide) (qa_cons (qv 1) (qa_cons (qv 3) (qa_cons (qe_lst qa_nil) qa_nil))))))))).h,?_⟩
    walk_at "rd"
    unfold aBare at k
    by_cases h0:c∈ws
    · rw [if_pos h0] at k ⊢
      exact⟨op,some c,rfl,ho,fun v H' g a=>k v H' g a⟩
    rw [if_neg h0] at k ⊢
    by_cases h1:c=126
    · rw [if_pos h1] at k ⊢
      exact fun p hp=>⟨op,ho.mono (same_upd hp),[],evl0,fun v H' g a=>k v H' ((same_upd hp).trans g) (a.imp fun x e=>by subst e;exact hp)⟩
    rw [if_neg h1] at k ⊢
    exact fun p hp=>⟨op,ho.mono (same_upd hp),[],evl0,by simp,fun v H' g a=>k v H' ((same_upd hp).trans g) (a.imp fun x e=>e.elim none_of_upd fun e=>by subst e;exact hp)⟩
theorem ok_at_code (T:Txt w K mg t)(D:Df K mg "at_code" s_at_code ps_at_code)(F_told:OkF P w K mg base 2 "told" ps_told sp_told)(F_sign_told:OkF P w K mg base 2 "sign_told" ps_sign_told sp_sign_told):OkF P w K mg base 3 "at_code" ps_at_code sp_at_code:=by
  refine D.ok sc_at_code (fun vs H Q E h=>?_) (fun f cdv A outer s H vs Q E hr h=>?_)
  · obtain⟨_,_,_,_,_,rfl,_⟩:=h;rfl
  · obtain⟨wd,oa,op,tk,c,rfl,ho,hw,hop,k⟩:=h
    refine⟨_,((qss_cons (qs_if (qt_cmpR op_eq (qv 0) (qe_S (l:=[]) (by decide +kernel)) (nomark _)) (qss_one (qs_ret (qe_ifExp (qt_cmpR op_inS (qv 3) (qe_gl T.g_FIGURES) (by rfl)) (qe_tup (qa_cons (qe_tup (qa_cons (qe_S (l:=[99,111,100,101]) (by decide +kernel)) (qa_cons (qv 3) (qa_cons (qv 1) (qa_cons (qe_S (l:=[]) (by decide +kernel)) qa_nil))))) (qa_cons (qe_lst qa_nil) qa_nil))) qe_non))) qss_nil)
      (qss_one (qs_ret (qe_callF F_told hr (by decide) (qa_cons (qe_S (l:=[98,97,114,101]) (by decide +kernel)) (qa_cons (qv 1) (qa_cons (qe_callF F_sign_told hr (by decide) (qa_cons (qe_op op_addS (qv 0) (qv 3)) qa_nil)) qa_nil)))))))).h,?_⟩
    walk_at "rd"
    unfold aCode at k
    by_cases h0:wd=[]
    · rw [if_pos h0] at k ⊢
      by_cases h5:c∈fg
      · rw [if_pos h5] at k ⊢
        exact fun p hp p1 hp1 p2 hp2=>k _ _ ((same_upd hp).trans ((same_upd hp1).trans (same_upd hp2))) (an_up (same_upd hp1 _ _ upd_same) ((ho.mono (same_upd hp)).mono (same_upd hp1)) evl0 (none_of_upd hp1) hp2)
      · rw [if_neg h5] at k ⊢
        exact k _ _ (Same.refl H) rfl
    rw [if_neg h0] at k ⊢
    exact⟨by lia,by rw [List.length_append];simp;lia,fun H1 g1=>⟨op,L2.told (wd++[c]),rfl,ho.mono g1,fun v H' g a=>k v H' (g1.trans g) (a.imp fun x e=>none_of_same g1 e)⟩⟩
theorem ok_at_row (T:Txt w K mg t)(D:Df K mg "at_row" s_at_row ps_at_row)(F_come_to:OkF P w K mg base 1 "come_to" ps_come_to sp_come_to)(F_told:OkF P w K mg base 2 "told" ps_told sp_told):OkF P w K mg base 3 "at_row" ps_at_row sp_at_row:=by
  refine D.ok sc_at_row (fun vs H Q E h=>?_) (fun f cdv A outer s H vs Q E hr h=>?_)
  · obtain⟨_,_,_,_,_,rfl,_⟩:=h;rfl
  · obtain⟨wd,oa,op,tk,c,rfl,ho,hw,hop,k⟩:=h
    refine⟨_,((qss_cons (qs_if (qt_cmpR op_eq (qv 3) (qe_S (l:=[92]) (by decide +kernel)) (nomark _)) (qss_one (qs_ret (qe_callF F_come_to hr (by decide) (qa_cons (qe_S (l:=[115,116,114,111,107,101]) (by decide +kernel)) (qa_cons (qv 1) (qa_cons (qe_lst qa_nil) qa_nil)))))) qss_nil)
      (qss_cons (qs_if (qt_cmpR op_eq (qv 3) (qe_S (l:=[44]) (by decide +kernel)) (nomark _)) (qss_one (qs_ret (qe_callF F_come_to hr (by decide) (qa_cons (qe_S (l:=[114,111,119]) (by decide +kernel)) (qa_cons (qv 1) (qa_cons (qe_lst (qa_cons (qe_tup (qa_cons (qe_S (l:=[110,101,120,116]) (by decide +kernel)) qa_nil)) qa_nil)) qa_nil)))))) qss_nil)
      (qss_cons (qs_if (qt_cmpR op_eq (qv 3) (qe_S (l:=[41]) (by decide +kernel)) (nomark _)) (qss_one (qs_ret (qe_callF F_come_to hr (by decide) (qa_cons (qe_S (l:=[100,111,110,101]) (by decide +kernel)) (qa_cons (qv 1) (qa_cons (qe_lst qa_nil) qa_nil)))))) qss_nil)
      (qss_one (qs_ret (qe_callF F_told hr (by decide) (qa_cons (qe_S (l:=[114,111,119]) (by decide +kernel)) (qa_cons (qv 1) (qa_cons (qv 3) qa_nil)))))))))).h,?_⟩
    walk_at "rd"
    unfold aRow at k
    by_cases h0:c=92
    · rw [if_pos h0] at k ⊢
      exact fun p hp=>⟨op,ho.mono (same_upd hp),[],evl0,fun v H' g a=>k v H' ((same_upd hp).trans g) (a.imp fun x e=>by subst e;exact hp)⟩
    rw [if_neg h0] at k ⊢
    by_cases h1:c=44
    · rw [if_pos h1] at k ⊢
      exact fun p hp p1 hp1=>⟨op,ho.mono ((same_upd hp).trans (same_upd hp1)),[[eNext]],evl1 (e:=[eNext]) hp1,fun v H' g a=>k v H' (((same_upd hp).trans (same_upd hp1)).trans g) (a.imp fun x e=>by subst e;exact none_of_upd hp1)⟩
    rw [if_neg h1] at k ⊢
    by_cases h2:c=41
    · rw [if_pos h2] at k ⊢
      exact fun p hp=>⟨op,ho.mono (same_upd hp),[],evl0,fun v H' g a=>k v H' ((same_upd hp).trans g) (a.imp fun x e=>by subst e;exact hp)⟩
    rw [if_neg h2] at k ⊢
    exact⟨op,some c,rfl,ho,fun v H' g a=>k v H' g a⟩
theorem ok_at_stroke (T:Txt w K mg t)(D:Df K mg "at_stroke" s_at_stroke ps_at_stroke)(F_told:OkF P w K mg base 2 "told" ps_told sp_told):OkF P w K mg base 3 "at_stroke" ps_at_stroke sp_at_stroke:=by
  refine D.ok sc_at_stroke (fun vs H Q E h=>?_) (fun f cdv A outer s H vs Q E hr h=>?_)
  · obtain⟨_,_,_,_,_,rfl,_⟩:=h;rfl
  · obtain⟨wd,oa,op,tk,c,rfl,ho,hw,hop,k⟩:=h
    refine⟨_,((qss_one (qs_ret (qe_callF F_told hr (by decide) (qa_cons (qe_S (l:=[114,111,119]) (by decide +kernel)) (qa_cons (qv 1) (qa_cons (qv 3) qa_nil))))))).h,?_⟩
    walk_at "rd"
    unfold aStroke at k
    exact⟨op,some c,rfl,ho,fun v H' g a=>k v H' g a⟩
theorem ok_at_quoted (T:Txt w K mg t)(D:Df K mg "at_quoted" s_at_quoted ps_at_quoted)(F_come_to:OkF P w K mg base 1 "come_to" ps_come_to sp_come_to)(F_told:OkF P w K mg base 2 "told" ps_told sp_told):OkF P w K mg base 3 "at_quoted" ps_at_quoted sp_at_quoted:=by
  refine D.ok sc_at_quoted (fun vs H Q E h=>?_) (fun f cdv A outer s H vs Q E hr h=>?_)
  · obtain⟨_,_,_,_,_,rfl,_⟩:=h;rfl
  · obtain⟨wd,oa,op,tk,c,rfl,ho,hw,hop,k⟩:=h
    refine⟨_,((qss_cons (qs_if (qt_cmpR op_eq (qv 3) (qe_S (l:=[34]) (by decide +kernel)) (nomark _)) (qss_one (qs_ret (qe_callF F_come_to hr (by decide) (qa_cons (qe_S (l:=[100,111,110,101]) (by decide +kernel)) (qa_cons (qv 1) (qa_cons (qe_lst qa_nil) qa_nil)))))) qss_nil)
      (qss_cons (qs_if (qt_cmpR op_eq (qv 3) (qe_S (l:=[38]) (by decide +kernel)) (nomark _)) (qss_one (qs_ret (qe_callF F_come_to hr (by decide) (qa_cons (qe_S (l:=[113,109,97,114,107]) (by decide +kernel)) (qa_cons (qv 1) (qa_cons (qe_lst qa_nil) qa_nil)))))) qss_nil)
      (qss_one (qs_ret (qe_callF F_told hr (by decide) (qa_cons (qe_S (l:=[113,117,111,116,101,100]) (by decide +kernel)) (qa_cons (qv 1) (qa_cons (qv 3) qa_nil))))))))).h,?_⟩
    walk_at "rd"
    unfold aQuoted at k
    by_cases h0:c=34
    · rw [if_pos h0] at k ⊢
      exact fun p hp=>⟨op,ho.mono (same_upd hp),[],evl0,fun v H' g a=>k v H' ((same_upd hp).trans g) (a.imp fun x e=>by subst e;exact hp)⟩
    rw [if_neg h0] at k ⊢
    by_cases h1:c=38
    · rw [if_pos h1] at k ⊢
      exact fun p hp=>⟨op,ho.mono (same_upd hp),[],evl0,fun v H' g a=>k v H' ((same_upd hp).trans g) (a.imp fun x e=>by subst e;exact hp)⟩
    rw [if_neg h1] at k ⊢
    exact⟨op,some c,rfl,ho,fun v H' g a=>k v H' g a⟩
theorem ok_at_qmark (T:Txt w K mg t)(D:Df K mg "at_qmark" s_at_qmark ps_at_qmark)(F_gathered:OkF P w K mg base 1 "gathered" ps_gathered sp_gathered)(F_mark_ended:OkF P w K mg base 3 "mark_ended" ps_mark_ended sp_mark_ended)(F_told:OkF P w K mg base 2 "told" ps_told sp_told):OkF P w K mg base 4 "at_qmark" ps_at_qmark sp_at_qmark:=by
  refine D.ok sc_at_qmark (fun vs H Q E h=>?_) (fun f cdv A outer s H vs Q E hr h=>?_)
  · obtain⟨_,_,_,_,_,rfl,_⟩:=h;rfl
  · obtain⟨wd,oa,op,tk,c,rfl,ho,hw,hop,k⟩:=h
    refine⟨_,((qss_cons (qs_if (qt_cmpR op_inS (qv 3) (qe_gl T.g_FIGURES) (by rfl)) (qss_one (qs_ret (qe_callF F_gathered hr (by decide) (qa_cons (qe_S (l:=[113,109,97,114,107]) (by decide +kernel)) (qa_cons (qe_op op_addS (qv 0) (qv 3)) (qa_cons (qv 1) (qa_cons (qe_S (l:=[]) (by decide +kernel)) (qa_cons (qe_gl T.g_MARK_FIGURES) qa_nil)))))))) qss_nil)
      (qss_one (qs_ret (qe_callF F_told hr (by decide) (qa_cons (qe_S (l:=[113,117,111,116,101,100]) (by decide +kernel)) (qa_cons (qv 1) (qa_cons (qe_callF F_mark_ended hr (by decide) (qa_cons (qv 0) (qa_cons (qv 3) qa_nil))) qa_nil)))))))).h,?_⟩
    walk_at "rd"
    unfold aQmark at k
    by_cases h0:c∈fg
    · rw [if_pos h0] at k ⊢
      exact⟨by lia,op,2,rfl,ho,by rw [List.length_append];simp;lia,fun v H' g a=>k v H' g a⟩
    rw [if_neg h0] at k ⊢
    exact⟨by lia,fun H1 g1=>⟨op,mkEnd wd c,rfl,ho.mono g1,fun v H' g a=>k v H' (g1.trans g) (a.imp fun x e=>none_of_same g1 e)⟩⟩
theorem ok_at_done (T:Txt w K mg t)(D:Df K mg "at_done" s_at_done ps_at_done)(F_led_on:OkF P w K mg base 3 "led_on" ps_led_on sp_led_on):OkF P w K mg base 4 "at_done" ps_at_done sp_at_done:=by
  refine D.ok sc_at_done (fun vs H Q E h=>?_) (fun f cdv A outer s H vs Q E hr h=>?_)
  · obtain⟨_,_,_,_,_,rfl,_⟩:=h;rfl
  · obtain⟨wd,oa,op,tk,c,rfl,ho,hw,hop,k⟩:=h
    refine⟨_,((qss_one (qs_ret (qe_callF F_led_on hr (by decide) (qa_cons (qv 1) (qa_cons (qv 3) (qa_cons (qe_lst qa_nil) qa_nil))))))).h,?_⟩
    walk_at "rd"
    unfold aDone at k
    exact fun p hp=>⟨op,ho.mono (same_upd hp),[],evl0,by simp,fun v H' g a=>k v H' ((same_upd hp).trans g) (a.imp fun x e=>e.elim none_of_upd fun e=>by subst e;exact hp)⟩
end
section
variable {P:Program} {w:World} {K:PySem.W.Frag} {mg:Str->Option Value} {base:Heap} {t:Ads}
theorem ok_at_talk (T:Txt w K mg t)(D:Df K mg "at_talk" s_at_talk ps_at_talk)(F_come_to:OkF P w K mg base 1 "come_to" ps_come_to sp_come_to)(F_fed:OkF P w K mg base 4 "fed" ps_fed sp_fed):OkF P w K mg base 5 "at_talk" ps_at_talk sp_at_talk:=by
  refine D.ok sc_at_talk (fun vs H Q E h=>?_) (fun f cdv A outer s H vs Q E hr h=>?_)
  · obtain⟨_,_,_,_,_,rfl,_⟩:=h;rfl
  · obtain⟨wd,oa,op,tk,c,rfl,ho,hw,hop,k⟩:=h
    refine⟨_,((qss_cons (qs_if (qt_cmpR op_eq (qv 3) (qe_S (l:=[38]) (by decide +kernel)) (nomark _)) (qss_one (qs_ret (qe_tup (qa_cons (qe_tup (qa_cons (qe_S (l:=[116,109,97,114,107]) (by decide +kernel)) (qa_cons (qe_S (l:=[]) (by decide +kernel)) (qa_cons (qv 1) (qa_cons (qv 2) qa_nil))))) (qa_cons (qe_lst qa_nil) qa_nil))))) qss_nil)
      (qss_cons (qs_if (qt_cmpR op_eq (qv 3) (qe_S (l:=[34]) (by decide +kernel)) (nomark _)) (qss_one (qs_ret (qe_ifExp (qt_cmpR (op_inQK (K:=K) (by rfl)) (qv 2) (qe_tup (qa_cons (qe_S (l:=[98,101,116,119,101,101,110]) (by decide +kernel)) (qa_cons (qe_S (l:=[119,111,114,100]) (by decide +kernel)) qa_nil))) (by rfl)) (qe_callF F_come_to hr (by decide) (qa_cons (qe_S (l:=[100,111,110,101]) (by decide +kernel)) (qa_cons (qv 1) (qa_cons (qe_lst qa_nil) qa_nil)))) qe_non))) qss_nil)
      (qss_one (qs_ret (qe_callF F_fed hr (by decide) (qa_cons (qv 1) (qa_cons (qv 2) (qa_cons (qv 3) qa_nil))))))))).h,?_⟩
    walk_at "rd"
    unfold aTalk at k
    by_cases h0:c=38
    · rw [if_pos h0] at k ⊢
      exact fun p hp p1 hp1 p2 hp2=>k _ _ ((same_upd hp).trans ((same_upd hp1).trans (same_upd hp2))) (an_up (same_upd hp1 _ _ upd_same) ((ho.mono (same_upd hp)).mono (same_upd hp1)) evl0 (none_of_upd hp1) hp2)
    rw [if_neg h0] at k ⊢
    by_cases h1:c=34
    · rw [if_pos h1] at k ⊢
      intro p hp
      refine⟨_,.inr (SqT.of upd_same),rfl,rfl,?_⟩
      have e:=inV_txs tk [tBetween,tWord]
      rw [show([tBetween,tWord].map fun x=>V.str (S x))=[V.str (S [98,101,116,119,101,101,110]),V.str (S [119,111,114,100])] from rfl] at e
      rw [e]
      have g0:=same_upd (o:=.tup [V.str (S [98,101,116,119,101,101,110]),V.str (S [119,111,114,100])]) hp
      by_cases h5:tk=tBetween\/tk=tWord
      · rw [if_pos h5] at k
        rw [if_pos (by simpa using h5)]
        exact fun p1 hp1=>⟨op,(ho.mono g0).mono (same_upd hp1),[],evl0,fun v H' g a=>k v H' (g0.trans ((same_upd hp1).trans g)) (a.imp fun x e=>by subst e;exact none_of_upd hp1)⟩
      · rw [if_neg h5] at k
        rw [if_neg (by simpa using h5)]
        exact k _ _ g0 rfl
    rw [if_neg h1] at k ⊢
    exact⟨op,some c,rfl,ho,fun v H' g a=>k v H' g a⟩
theorem ok_at_tmark (T:Txt w K mg t)(D:Df K mg "at_tmark" s_at_tmark ps_at_tmark)(F_gathered:OkF P w K mg base 1 "gathered" ps_gathered sp_gathered)(F_mark_ended:OkF P w K mg base 3 "mark_ended" ps_mark_ended sp_mark_ended)(F_fed:OkF P w K mg base 4 "fed" ps_fed sp_fed):OkF P w K mg base 5 "at_tmark" ps_at_tmark sp_at_tmark:=by
  refine D.ok sc_at_tmark (fun vs H Q E h=>?_) (fun f cdv A outer s H vs Q E hr h=>?_)
  · obtain⟨_,_,_,_,_,rfl,_⟩:=h;rfl
  · obtain⟨wd,oa,op,tk,c,rfl,ho,hw,hop,k⟩:=h
    refine⟨_,((qss_cons (qs_if (qt_cmpR op_inS (qv 3) (qe_gl T.g_FIGURES) (by rfl)) (qss_one (qs_ret (qe_callF F_gathered hr (by decide) (qa_cons (qe_S (l:=[116,109,97,114,107]) (by decide +kernel)) (qa_cons (qe_op op_addS (qv 0) (qv 3)) (qa_cons (qv 1) (qa_cons (qv 2) (qa_cons (qe_gl T.g_MARK_FIGURES) qa_nil)))))))) qss_nil)
      (qss_one (qs_ret (qe_callF F_fed hr (by decide) (qa_cons (qv 1) (qa_cons (qv 2) (qa_cons (qe_callF F_mark_ended hr (by decide) (qa_cons (qv 0) (qa_cons (qv 3) qa_nil))) qa_nil)))))))).h,?_⟩
    walk_at "rd"
    unfold aTmark at k
    by_cases h0:c∈fg
    · rw [if_pos h0] at k ⊢
      exact⟨by lia,op,2,rfl,ho,by rw [List.length_append];simp;lia,fun v H' g a=>k v H' g a⟩
    rw [if_neg h0] at k ⊢
    exact⟨by lia,fun H1 g1=>⟨op,mkEnd wd c,rfl,ho.mono g1,fun v H' g a=>k v H' (g1.trans g) (a.imp fun x e=>none_of_same g1 e)⟩⟩
theorem ok_at_asis (T:Txt w K mg t)(D:Df K mg "at_asis" s_at_asis ps_at_asis)(F_box_shut:OkF P w K mg base 2 "box_shut" ps_box_shut sp_box_shut)(F_come_to:OkF P w K mg base 1 "come_to" ps_come_to sp_come_to):OkF P w K mg base 3 "at_asis" ps_at_asis sp_at_asis:=by
  refine D.ok sc_at_asis (fun vs H Q E h=>?_) (fun f cdv A outer s H vs Q E hr h=>?_)
  · obtain⟨_,_,_,_,_,rfl,_⟩:=h;rfl
  · obtain⟨wd,oa,op,tk,c,rfl,ho,hw,hop,k⟩:=h
    refine⟨_,((qss_cons (qs_set (i:=4) sc_at_asis.nd (by rfl) (Or.inl (by rfl)) (qe_op op_addS (qv 0) (qv 3)))
      (qss_cons (qs_if (qt_cmpR op_eq (qv 4) (qe_gl T.g_ASIS_END) (nomark _)) (qss_one (qs_ret (qe_callF F_box_shut hr (by decide) (qa_cons (qv 1) (qa_cons (qe_lst qa_nil) qa_nil))))) qss_nil)
      (qss_cons (qs_if (qt_val (qe_bmK (K:=K) (by rfl) PySem.F.plainAttrs_str PySem.F.slot_str_startswith PySem.F.type_str_startswith mt_startswithS (qe_gl T.g_ASIS_END) (qa_cons (qv 4) qa_nil))) (qss_one (qs_ret (qe_tup (qa_cons (qe_tup (qa_cons (qe_S (l:=[97,115,105,115]) (by decide +kernel)) (qa_cons (qv 4) (qa_cons (qv 1) (qa_cons (qe_S (l:=[]) (by decide +kernel)) qa_nil))))) (qa_cons (qe_lst qa_nil) qa_nil))))) qss_nil)
      (qss_cons ⟨ps_setLC (i:=5) sc_at_asis.nd rfl (Or.inl rfl) (lcs (N:=N_at_asis) (sc:=defScope s_at_asis) rfl rfl rfl (by decide +kernel)) ((qi_str (qv 0))).h (fun _ _ _ _ _=>qts_nil.h) (fun _ _ _ _ _=>((qe_tup (qa_cons (qe_S (l:=[115,105,103,110]) (by decide +kernel)) (qa_cons (qv 0) qa_nil)))).h)⟩
      (qss_cons (qs_if (qt_cmpR op_eq (qv 3) (qe_S (l:=[60]) (by decide +kernel)) (nomark _)) (qss_one (qs_ret (qe_tup (qa_cons (qe_tup (qa_cons (qe_S (l:=[97,115,105,115]) (by decide +kernel)) (qa_cons (qv 3) (qa_cons (qv 1) (qa_cons (qe_S (l:=[]) (by decide +kernel)) qa_nil))))) (qa_cons (qv 5) qa_nil))))) qss_nil)
      (qss_one (qs_ret (qe_callF F_come_to hr (by decide) (qa_cons (qe_S (l:=[97,115,105,115]) (by decide +kernel)) (qa_cons (qv 1) (qa_cons (qe_op op_cat (qv 5) (qe_lst (qa_cons (qe_tup (qa_cons (qe_S (l:=[115,105,103,110]) (by decide +kernel)) (qa_cons (qv 3) qa_nil))) qa_nil))) qa_nil)))))))))))).h,?_⟩
    walk_at "rd"
    unfold aAsis at k
    refine⟨by lia,?_⟩
    by_cases h1:wd++[c]=asisEnd
    · rw [if_pos h1] at k ⊢
      exact fun p hp=>⟨op,ho.mono (same_upd hp),[],evl0,by simp,fun v H' g a=>k v H' ((same_upd hp).trans g) (a.imp fun x e=>none_of_upd e)⟩
    rw [if_neg h1] at k ⊢
    by_cases h2:(wd++[c]).isPrefixOf asisEnd=true
    · rw [if_pos h2] at k ⊢
      exact fun p hp p1 hp1 p2 hp2=>k _ _ ((same_upd hp).trans ((same_upd hp1).trans (same_upd hp2))) (an_up (same_upd hp1 _ _ upd_same) ((ho.mono (same_upd hp)).mono (same_upd hp1)) evl0 (none_of_upd hp1) hp2)
    rw [if_neg h2] at k ⊢
    refine lc_strG (fun c v H=>EvV H v [eSign,[c]]) (fun c v H1 H2 h g=>h.mono g) (fun c v H1 D xs ys h hD=>?_) (by rw [PySem.sizeLine_eq];lia) (fun c _ H1 g R r=>?_) (fun D H2 ys hD g2 hy hG hD2=>?_)
    · obtain⟨a,e1,e2⟩:=h
      exact⟨a,e1,by rw [upd_ne (ne_of e2 hD (by intro z;cases z))];exact e2⟩
    · walk_at "rd"
      exact fun p hp=>r _ _ (same_upd hp) ⟨p,rfl,upd_same⟩
    have he:EvA H2 ys (wd.map fun k=>[eSign,[k]]):=evA_of hy hG
    have hel:EvL H2 D (wd.map fun k=>[eSign,[k]]):=⟨ys,hD2,he⟩
    by_cases h3:c=60
    · rw [if_pos h3] at k ⊢
      exact fun p hp p1 hp1=>k _ _ (g2.trans ((same_upd hp).trans (same_upd hp1))) (an_up upd_same ((ho.mono g2).mono (same_upd hp)) (hel.mono (same_upd hp)) hD hp1)
    rw [if_neg h3] at k ⊢
    intro p hp p1 hp1
    have g3:=(same_upd (o:=.tup [.str (S eSign),.str (S [c])]) hp).trans (same_upd (o:=.lst [.ref p]) hp1)
    refine⟨D,rfl,ys,g3 _ _ hD2,_,upd_same,by rw [hy];simp;lia,fun p2 hp2=>?_⟩
    have g4:=g3.trans (same_upd (o:=.lst (ys++[.ref p])) hp2)
    exact⟨op,(ho.mono g2).mono g4,_,⟨_,upd_same,(he.mono g4).app (.cons ⟨p,rfl,same_upd hp2 _ _ (same_upd hp1 _ _ upd_same)⟩ .nil)⟩,fun v H' g a=>k v H' (g2.trans (g4.trans g)) (a.imp fun x e=>by subst e;exact none_of_same g2 (none_of_upd (none_of_upd hp2)))⟩
end
section
variable {P:Program} {w:World} {K:PySem.W.Frag} {mg:Str->Option Value} {base:Heap} {t:Ads}
theorem ok_moved (T:Txt w K mg t)(D:Df K mg "moved" s_moved ps_moved)(F_at_text:OkF P w K mg base 3 "at_text" ps_at_text sp_at_text)(F_at_mark:OkF P w K mg base 4 "at_mark" ps_at_mark sp_at_mark)(F_at_open:OkF P w K mg base 2 "at_open" ps_at_open sp_at_open)(F_at_name:OkF P w K mg base 4 "at_name" ps_at_name sp_at_name)(F_at_slash:OkF P w K mg base 3 "at_slash" ps_at_slash sp_at_slash)(F_at_shut:OkF P w K mg base 3 "at_shut" ps_at_shut sp_at_shut)(F_at_gap:OkF P w K mg base 2 "at_gap" ps_at_gap sp_at_gap)(F_at_attr:OkF P w K mg base 2 "at_attr" ps_at_attr sp_at_attr)(F_at_is:OkF P w K mg base 2 "at_is" ps_at_is sp_at_is)(F_at_bang:OkF P w K mg base 1 "at_bang" ps_at_bang sp_at_bang)(F_at_bare:OkF P w K mg base 4 "at_bare" ps_at_bare sp_at_bare)(F_at_code:OkF P w K mg base 3 "at_code" ps_at_code sp_at_code)(F_at_row:OkF P w K mg base 3 "at_row" ps_at_row sp_at_row)(F_at_stroke:OkF P w K mg base 3 "at_stroke" ps_at_stroke sp_at_stroke)(F_at_quoted:OkF P w K mg base 3 "at_quoted" ps_at_quoted sp_at_quoted)(F_at_qmark:OkF P w K mg base 4 "at_qmark" ps_at_qmark sp_at_qmark)(F_at_done:OkF P w K mg base 4 "at_done" ps_at_done sp_at_done)(F_at_talk:OkF P w K mg base 5 "at_talk" ps_at_talk sp_at_talk)(F_at_tmark:OkF P w K mg base 5 "at_tmark" ps_at_tmark sp_at_tmark)(F_at_asis:OkF P w K mg base 3 "at_asis" ps_at_asis sp_at_asis):OkF P w K mg base 6 "moved" ps_moved sp_moved:=by
  refine D.ok sc_moved (fun vs H Q E h=>?_) (fun f cdv A outer s H vs Q E hr h=>?_)
  · obtain⟨_,_,_,rfl,_⟩:=h;rfl
  · obtain⟨x,st,c,rfl,hst,hw,hop,k⟩:=h
    refine⟨_,((qss_cons (qs_set (i:=2) sc_moved.nd (by rfl) (Or.inl (by rfl)) (qe_kget T.d_MODES (qe_ix (ix_tupK (K:=K) (by rfl)) (qv 0) qe_int (fun _ _=>(by rfl)))))
      (qss_one (qs_ret (qe_ifExp (qt_cmpR op_isN (qv 2) qe_non (nomark _)) qe_non (qe_callV (k:=5) (qv 2) hr (by decide) (qa_cons (qe_ix (ix_tupK (K:=K) (by rfl)) (qv 0) qe_int (fun _ _=>(by rfl))) (qa_cons (qe_ix (ix_tupK (K:=K) (by rfl)) (qv 0) qe_int (fun _ _=>(by rfl))) (qa_cons (qe_ix (ix_tupK (K:=K) (by rfl)) (qv 0) qe_int (fun _ _=>(by rfl))) (qa_cons (qv 1) qa_nil)))))))))).h,?_⟩
    walk_at "rd"
    obtain⟨p,o,rfl,hp,ho⟩:=hst
    have hF:∀ e∈tab2 t,FnV P w K mg base 5 e.2.2 (spA e.2.1):=by
      intro e he
      simp only [tab2,List.mem_cons,List.not_mem_nil,or_false] at he
      rcases he with rfl | rfl | rfl | rfl | rfl | rfl | rfl | rfl | rfl | rfl | rfl | rfl | rfl | rfl | rfl | rfl | rfl | rfl | rfl | rfl
      · exact F_at_text.fnv T.m_at_text (by decide)
      · exact F_at_mark.fnv T.m_at_mark (by decide)
      · exact F_at_open.fnv T.m_at_open (by decide)
      · exact F_at_name.fnv T.m_at_name (by decide)
      · exact F_at_slash.fnv T.m_at_slash (by decide)
      · exact F_at_shut.fnv T.m_at_shut (by decide)
      · exact F_at_gap.fnv T.m_at_gap (by decide)
      · exact F_at_attr.fnv T.m_at_attr (by decide)
      · exact F_at_is.fnv T.m_at_is (by decide)
      · exact F_at_bang.fnv T.m_at_bang (by decide)
      · exact F_at_bare.fnv T.m_at_bare (by decide)
      · exact F_at_code.fnv T.m_at_code (by decide)
      · exact F_at_row.fnv T.m_at_row (by decide)
      · exact F_at_stroke.fnv T.m_at_stroke (by decide)
      · exact F_at_quoted.fnv T.m_at_quoted (by decide)
      · exact F_at_qmark.fnv T.m_at_qmark (by decide)
      · exact F_at_done.fnv T.m_at_done (by decide)
      · exact F_at_talk.fnv T.m_at_talk (by decide)
      · exact F_at_tmark.fnv T.m_at_tmark (by decide)
      · exact F_at_asis.fnv T.m_at_asis (by decide)
    refine⟨p,rfl,_,SqT.of hp,_,rfl,.inr (S st.mode),rfl,?_⟩
    unfold stepM at k
    rw [atTab_eq t] at k
    rcases tab_find st.mode (tab2 t) with⟨e,he,h1,h2⟩ | ⟨h1,h2⟩
    · rw [h2] at k
      unfold mtab
      rw [h1,if_neg (by intro z;cases z)]
      exact⟨e.2.2,rfl,spA e.2.1,hF e he,p,rfl,_,SqT.of hp,_,rfl,p,rfl,_,SqT.of hp,_,rfl,p,rfl,_,SqT.of hp,_,rfl,st.word,o,st.opens,st.talk,c,rfl,ho,hw,hop,k⟩
    · rw [h2] at k
      unfold mtab
      rw [h1,if_pos (show(none:Option V).getD V.non=V.non from rfl)]
      exact k _ _ (Same.refl H) rfl
theorem ok_begin (T:Txt w K mg t)(D:Df K mg "begin" s_begin ps_begin):OkF P w K mg base 1 "begin" ps_begin sp_begin:=by
  refine D.ok sc_begin (fun vs H Q E h=>?_) (fun f cdv A outer s H vs Q E hr h=>?_)
  · obtain⟨rfl,_⟩:=h;rfl
  · obtain⟨rfl,k⟩:=h
    refine⟨_,((qss_one (qs_ret (qe_tup (qa_cons (qe_S (l:=[116,101,120,116]) (by decide +kernel)) (qa_cons (qe_S (l:=[]) (by decide +kernel)) (qa_cons (qe_tup qa_nil) (qa_cons (qe_S (l:=[]) (by decide +kernel)) qa_nil)))))))).h,?_⟩
    walk_at "rd"
    exact fun p hp p1 hp1=>k _ _ ((same_upd hp).trans (same_upd hp1)) ⟨p1,p,rfl,upd_same,same_upd hp1 _ _ upd_same⟩
theorem ok_step (T:Txt w K mg t)(D:Df K mg "step" s_step ps_step)(F_moved:OkF P w K mg base 6 "moved" ps_moved sp_moved):OkF P w K mg base 7 "step" ps_step sp_step:=by
  refine D.ok sc_step (fun vs H Q E h=>?_) (fun f cdv A outer s H vs Q E hr h=>?_)
  · obtain⟨_,_,_,rfl,_⟩:=h;rfl
  · obtain⟨x,st,c,rfl,hst,hw,hop,k⟩:=h
    refine⟨_,((qss_one (qs_ret (qe_callF F_moved hr (by decide) (qa_cons (qv 0) (qa_cons (qv 1) qa_nil)))))).h,?_⟩
    walk_at "rd"
    exact⟨st,hst,hw,hop,k⟩
theorem ok_floored (T:Txt w K mg t)(D:Df K mg "floored" s_floored ps_floored):OkF P w K mg base 1 "floored" ps_floored sp_floored:=by
  refine D.ok sc_floored (fun vs H Q E h=>?_) (fun f cdv A outer s H vs Q E hr h=>?_)
  · obtain⟨_,_,rfl,_⟩:=h;rfl
  · obtain⟨x,st,rfl,hst,k⟩:=h
    refine⟨_,((qss_one (qs_ret (qe_tup (qa_cons (qe_ix (ix_tupK (K:=K) (by rfl)) (qv 0) qe_int (fun _ _=>(by rfl))) (qa_cons (qe_ix (ix_tupK (K:=K) (by rfl)) (qv 0) qe_int (fun _ _=>(by rfl))) (qa_cons (qe_tup qa_nil) (qa_cons (qe_ix (ix_tupK (K:=K) (by rfl)) (qv 0) qe_int (fun _ _=>(by rfl))) qa_nil)))))))).h,?_⟩
    walk_at "rd"
    obtain⟨p,o,rfl,hp,ho⟩:=hst
    exact⟨p,rfl,_,SqT.of hp,_,rfl,p,rfl,_,SqT.of hp,_,rfl,fun p1 hp1=>⟨p,rfl,_,SqT.of (same_upd hp1 _ _ hp),_,rfl,fun p2 hp2=>k _ _ ((same_upd hp1).trans (same_upd hp2)) ⟨p2,p1,rfl,upd_same,same_upd hp2 _ _ upd_same⟩⟩⟩
end
section
variable {P:Program} {w:World} {K:PySem.W.Frag} {mg:Str->Option Value} {base:Heap} {t:Ads}
theorem place_last {x:V}{s:MS}{H:Hp}{Q:VK}(k:Q (plV (placeM s)) H)(hm:s.mode∉[mText,mBare,mRow,mQuoted]):if s.mode=mTalk then(if s.talk=tSaid then Q (.str (S tSaid)) H else Q .non H) else Q .non H:=by
  unfold placeM at k
  rw [if_neg hm] at k
  by_cases h1:s.mode=mTalk
  · rw [if_pos h1]
    by_cases h2:s.talk=tSaid
    · rw [if_pos h2]
      rw [if_pos ⟨h1,h2⟩] at k
      exact k
    · rw [if_neg h2]
      rw [if_neg (by rintro⟨_,z⟩;exact h2 z)] at k
      exact k
  · rw [if_neg h1]
    rw [if_neg (by rintro⟨z,_⟩;exact h1 z)] at k
    exact k
theorem ok_place_of (T:Txt w K mg t)(D:Df K mg "place_of" s_place_of ps_place_of):OkF P w K mg base 1 "place_of" ps_place_of sp_place_of:=by
  refine D.ok sc_place_of (fun vs H Q E h=>?_) (fun f cdv A outer s H vs Q E hr h=>?_)
  · obtain⟨_,_,rfl,_⟩:=h;rfl
  · obtain⟨x,st,rfl,hst,k⟩:=h
    refine⟨_,((qss_cons (qs_if (qt_cmpR (op_inQK (K:=K) (by rfl)) (qe_ix (ix_tupK (K:=K) (by rfl)) (qv 0) qe_int (fun _ _=>(by rfl))) (qe_cls T.m_PLACE_MODES) (by rfl)) (qss_one (qs_ret (qe_ix (ix_tupK (K:=K) (by rfl)) (qv 0) qe_int (fun _ _=>(by rfl))))) qss_nil)
      (qss_one (qs_ret (qe_ifExp (QW.qt (qw_and (qt_cmpR op_eq (qe_ix (ix_tupK (K:=K) (by rfl)) (qv 0) qe_int (fun _ _=>(by rfl))) (qe_S (l:=[116,97,108,107]) (by decide +kernel)) (nomark _)) (qw_and1 (qt_cmpR op_eq (qe_ix (ix_tupK (K:=K) (by rfl)) (qv 0) qe_int (fun _ _=>(by rfl))) (qe_S (l:=[115,97,105,100]) (by decide +kernel)) (nomark _))))) (qe_S (l:=[115,97,105,100]) (by decide +kernel)) qe_non))))).h,?_⟩
    walk_at "rd"
    obtain⟨p,o,rfl,hp,ho⟩:=hst
    have e:=inV_txs st.mode [mText,mBare,mRow,mQuoted]
    refine⟨p,rfl,_,SqT.of hp,_,rfl,_,.inr (T.s_PLACE_MODES H),rfl,rfl,?_⟩
    rw [show([mText,mBare,mRow,mQuoted].map fun x=>V.str (S x))=[V.str (S mText),V.str (S mBare),V.str (S mRow),V.str (S mQuoted)] from rfl] at e
    rw [show tx st.mode=V.str (S st.mode) from rfl,e]
    by_cases h1:st.mode∈[mText,mBare,mRow,mQuoted]
    · rw [if_pos (decide_eq_true h1)]
      unfold placeM at k
      rw [if_pos h1] at k
      exact⟨p,rfl,_,SqT.of hp,_,rfl,k H (Same.refl H)⟩
    · rw [if_neg (by simp only [decide_eq_true_eq];exact h1)]
      have:=place_last (x:=.ref p) (k H (Same.refl H)) h1
      refine⟨p,rfl,_,SqT.of hp,_,rfl,rfl,?_⟩
      by_cases h2:st.mode=mTalk
      · rw [if_pos h2] at this
        rw [if_pos (show tx st.mode=V.str (S mTalk) by rw [h2];rfl)]
        refine⟨p,rfl,_,SqT.of hp,_,rfl,rfl,?_⟩
        by_cases h3:st.talk=tSaid
        · rw [if_pos h3] at this
          rw [if_pos (show tx st.talk=V.str (S tSaid) by rw [h3];rfl)]
          exact this
        · rw [if_neg h3] at this
          rw [if_neg (by intro z;exact h3 (S_inj.mp (V.str.inj z)))]
          exact this
      · rw [if_neg h2] at this
        rw [if_neg (by intro z;exact h2 (S_inj.mp (V.str.inj z)))]
        exact this
end
section
variable {P:Program} {w:World} {K:PySem.W.Frag} {mg:Str->Option Value} {base:Heap} {t:Ads}
noncomputable def contM (es:List Ev)(i:Nat):Except Nat (MS×List Ev)->Except Nat (MS×List Ev)
  | .error n=>.error (n+i)
  | .ok (s',fs)=>.ok (s',es++fs)
theorem contM_0 (r:Except Nat (MS×List Ev)):contM [] 0 r=r:=by
  cases r with
  | error n=>rfl
  | ok r=>cases r;rfl
theorem contM_step {s s':MS}{c:Nat}{r:List Nat}{es fs:List Ev}{i:Nat}(h:stepM s c=some (s',fs)):contM es i (runM s (c::r))=contM (es++fs) (i+1) (runM s' r):=by
  simp only [runM,h]
  cases runM s' r with
  | error n=>simp only [contM];congr 1;omega
  | ok q=>obtain⟨s2,gs⟩:=q;simp only [contM,List.append_assoc]
theorem contM_stop {s:MS}{c:Nat}{r:List Nat}{es:List Ev}{i:Nat}(h:stepM s c=none):contM es i (runM s (c::r))=.error i:=by
  simp only [runM,h,contM,Nat.zero_add]
def rInv (x:V)(st:MS)(l:List Nat)(p:Addr)(H:Hp)(i:Nat)(σ:L2.St)(H':Hp):Prop:=∃ (v:V) (s:MS) (es:List Ev) (o4 o5 o6:Option V),σ=[some x,some (V.str (S l)),some v,some (V.ref p),o4,o5,o6]/\Same H H'/\StV H' v s/\EvL H' p es/\s.word.length<=8/\s.opens.length<=st.opens.length+i/\es.length<=10 * i/\runM st l=contM es i (runM s (l.drop i))
theorem ok_run (T:Txt w K mg t)(D:Df K mg "run" s_run ps_run)(F_step:OkF P w K mg base 7 "step" ps_step sp_step)(R_Unread:Err P w K mg base "Unread" t.Unread "at" payT):OkX P w K mg base 8 "run" ps_run (sp_run t):=by
  refine D.okX sc_run (fun vs H Q E h=>?_) (fun f cdv A outer s H vs Q E hr h=>?_)
  · obtain⟨_,_,_,rfl,_⟩:=h;rfl
  · obtain⟨x,st,l,rfl,hst,hw,hl,k,kx⟩:=h
    refine⟨_,((qss_cons (qs_set (i:=2) sc_run.nd (by rfl) (Or.inl (by rfl)) (qv 0))
      (qss_cons (qs_set (i:=3) sc_run.nd (by rfl) (Or.inl (by rfl)) (qe_lst qa_nil))
      (qss_cons (qs_for PassesOwn.leaving (by rfl) (qi_enumS (by rfl) T.z_enumerate (qa_cons (qv 1) qa_nil)) (qg_tup (n:=2) (by rfl) (qgs_cons (qg_name (i:=4) sc_run.nd (by rfl) (Or.inl (by rfl))) (qgs_cons (qg_name (i:=5) sc_run.nd (by rfl) (Or.inl (by rfl))) qgs_nil))) (qss_cons (qs_set (i:=6) sc_run.nd (by rfl) (Or.inl (by rfl)) (qe_callF F_step hr (by decide) (qa_cons (qv 2) (qa_cons (qv 5) qa_nil))))
      (qss_cons (qs_if (qt_cmpR op_isN (qv 6) qe_non (nomark _)) (qss_one (qs_raise thr_leave R_Unread hr (by decide) (qa_cons (qv 4) qa_nil))) qss_nil)
      (qss_cons (qs_set (i:=2) sc_run.nd (by rfl) (Or.inl (by rfl)) (qe_ix (ix_tupK (K:=K) (by rfl)) (qv 6) qe_int (fun _ _=>(by rfl))))
      (qss_one (qs_expr (qe_bmK (K:=K) (by rfl) PySem.F.plainAttrs_list PySem.F.slot_list_extend PySem.F.type_list_extend mt_extend (qv 3) (qa_cons (qe_ix (ix_tupK (K:=K) (by rfl)) (qv 6) qe_int (fun _ _=>(by rfl))) qa_nil))))))))
      (qss_one (qs_ret (qe_tup (qa_cons (qv 2) (qa_cons (qv 3) qa_nil))))))))).h,?_⟩
    walk_at "rd"
    intro p hp
    refine fb_enumS (K:=K) (rInv x st l p H) ⟨x,st,[],none,none,none,rfl,same_upd hp,hst.mono (same_upd hp),evl0,hw,by lia,by simp,by rw [List.drop_zero,contM_0]⟩ ?_ ?_
    · rintro i c σ H1 hi ⟨v,s,es,o4,o5,o6,rfl,g1,hs,he,hw1,ho1,hl1,hr⟩ p1 hp1
      have hil:=(List.getElem?_eq_some_iff.mp hi).1
      have ed:l.drop i=c::l.drop (i+1):=by rw [List.drop_eq_getElem_cons hil,(List.getElem?_eq_some_iff.mp hi).2]
      rw [ed] at hr
      walk_at "rd"
      have g2:=g1.trans (same_upd (o:=.tup [.int i,.str (S [c])]) hp1)
      refine⟨s,hs.mono (same_upd hp1),by lia,by lia,fun v2 H2 g3 a=>?_⟩
      cases hq:stepM s c with
      | none=>
        rw [hq] at a
        have a:v2=.non:=a
        subst a
        rw [if_pos rfl]
        exact⟨.inl ⟨_,rfl,by lia,by lia⟩,fun d H3 s3 _ e=>kx i (by rw [hr,contM_stop hq]) d H3 (g2.trans (g3.trans s3)) e⟩
      | some r=>
        obtain⟨s',fs⟩:=r
        rw [hq] at a
        obtain⟨q,sa,ea,rfl,hq1,hs1,he1,hg⟩:=a
        obtain⟨b1,b2,b3⟩:=step_ok s c s' fs hq hw1
        obtain⟨vs,e1,e2⟩:=he
        obtain⟨us,f1,f2⟩:=he1
        have e1':=g3 _ _ (same_upd hp1 _ _ e1)
        rw [if_neg (by intro z;cases z)]
        have l1:=e2.len
        have l2:=f2.len
        refine⟨q,rfl,_,SqT.of hq1,_,rfl,.inl ⟨rfl,_,SqL.of e1'⟩,q,rfl,_,SqT.of hq1,_,rfl,ea,rfl,vs,e1',us,f1,by lia,?_⟩
        refine⟨sa,s',es++fs,_,_,_,rfl,?_,hs1.updL e1',⟨_,upd_same,((e2.mono ((same_upd hp1).trans g3)).updL e1').app (f2.updL e1')⟩,b1,by lia,by rw [List.length_append];lia,by rw [hr,contM_step hq]⟩
        intro b o e
        rw [upd_ne (ne_of_none e hp)]
        exact g3 _ _ (g2 _ _ e)
    · rintro σ H1 ⟨v,s,es,o4,o5,o6,rfl,g1,hs,he,hw1,ho1,hl1,hr⟩
      rw [List.drop_length] at hr
      walk_at "rd"
      intro p2 hp2
      refine k s es (by rw [hr];simp only [runM,contM,List.append_nil]) _ _ (g1.trans (same_upd hp2)) ?_
      exact⟨p2,v,p,rfl,upd_same,hs.mono (same_upd hp2),he.mono (same_upd hp2),hp⟩
end
section
variable {P:Program} {w:World} {K:PySem.W.Frag} {mg:Str->Option Value} {base:Heap} {t:Ads}
theorem ok_law_cell (T:Txt w K mg t)(D:Df K mg "_law_cell" s__law_cell ps__law_cell):OkF P w K mg base 1 "_law_cell" ps__law_cell (sp__law_cell K):=by
  refine D.ok sc__law_cell (fun vs H Q E h=>?_) (fun f cdv A outer s H vs Q E hr h=>?_)
  · obtain⟨_,_,_,rfl,_⟩:=h;rfl
  · obtain⟨a,ns,k,rfl,hS,h63,hk,q⟩:=h
    refine⟨_,((qss_cons (qs_if (qt_cmpR op_lt (qv 1) (qe_callB (call_lenLK (K:=K) (by rfl)) (by rfl) T.z_len bb_len (qa_cons (qv 0) qa_nil)) (nomark _)) (qss_one (qs_ret (qe_op op_mod (qe_ix (ix_listK (K:=K) (by rfl)) (qv 0) (qv 1) (fun _ _=>(by rfl))) (qe_op op_mulI (qe_op op_mulI (qe_op op_pow qe_int qe_int) (qe_op op_pow qe_int qe_int)) (qe_op op_pow qe_int qe_int))))) qss_nil)
      (qss_cons (qs_set (i:=2) sc__law_cell.nd (by rfl) (Or.inl (by rfl)) (qe_op op_add (qe_op op_mulI qe_int (qv 1)) qe_int))
      (qss_cons (qs_if (qt_cmpR op_gt (qe_callB (call_lenLK (K:=K) (by rfl)) (by rfl) T.z_len bb_len (qa_cons (qv 0) qa_nil)) qe_int (nomark _)) (qss_one (qs_set (i:=2) sc__law_cell.nd (by rfl) (Or.inl (by rfl)) (qe_op op_add (qe_op op_mulI (qe_op op_mod (qe_ix (ix_listK (K:=K) (by rfl)) (qv 0) (qe_op op_mod (qe_op op_mulI (qv 1) qe_int) (qe_callB (call_lenLK (K:=K) (by rfl)) (by rfl) T.z_len bb_len (qa_cons (qv 0) qa_nil))) (fun _ _=>(by rfl))) (qe_op op_pow qe_int qe_int)) qe_int) (qe_op op_mulI (qe_op op_mulI (qv 1) (qv 1)) qe_int)))) qss_nil)
      (qss_one (qs_ret (qe_op op_mod (qe_op op_mulI (qe_op op_mod (qv 2) qe_int) qe_int) qe_int))))))).h,?_⟩
    walk_at "rd"
    refine⟨_,.inl hS,?_⟩
    rw [List.length_map]
    by_cases hlt:k<ns.length
    · rw [if_pos (by lia)]
      have hn:ns[k]? = some ns[k]:=List.getElem?_eq_getElem hlt
      refine⟨_,hS,.int ns[k],by rw [List.getElem?_map,hn];rfl,cpow (by decide),cpow (by decide),(by unfold IntMulOk;decide +kernel),cpow (by decide),(by unfold IntMulOk;decide +kernel),_,rfl,by decide +kernel,q _ H (Same.refl H)⟩
    · rw [if_neg (by lia)]
      refine⟨mulOk_l (by decide),_,.inl hS,?_⟩
      rw [List.length_map]
      by_cases h0:0<ns.length
      · rw [if_pos (by lia)]
        obtain⟨n,e,_⟩:=atI_ints (ns:=ns) (i:=(k:Int) * 7 % (ns.length:Int)) (mod_nn (by lia)).1 (mod_nn (by lia)).2
        refine⟨mulOk_r (by decide),_,.inl hS,by rw [List.length_map];lia,_,hS,.int n,by rw [List.length_map];exact e,cpow (by decide),n,rfl,by decide +kernel,mulOk_r (by decide),mulOk_l (by lia),mulOk_r (by decide),mulOk_r (by decide),q _ H (Same.refl H)⟩
      · rw [if_neg (by lia)]
        exact⟨mulOk_r (by decide),q _ H (Same.refl H)⟩
theorem ok_law_mix (T:Txt w K mg t)(D:Df K mg "_law_mix" s__law_mix ps__law_mix):OkF P w K mg base 1 "_law_mix" ps__law_mix sp__law_mix:=by
  refine D.ok sc__law_mix (fun vs H Q E h=>?_) (fun f cdv A outer s H vs Q E hr h=>?_)
  · obtain⟨_,_,_,rfl,_⟩:=h;rfl
  · obtain⟨c,k,m,rfl,hk0,hk,hm,q⟩:=h
    refine⟨_,((qss_cons (qs_if (QW.qt (qw_and (qt_cmpR op_eq (qe_op op_mod (qv 0) qe_int) qe_int (nomark _)) (qw_and (qt_cmpR op_gt (qv 0) (qe_op op_pow qe_int qe_int) (nomark _)) (qw_and1 (qt_cmpR op_gt (qe_op op_shr (qv 0) (qe_op op_add (qe_op op_mulI qe_int (qv 1)) qe_int)) qe_int (nomark _)))))) (qss_one (qs_ret (qe_op op_mod (qe_op op_shr (qv 0) (qe_op op_add (qe_op op_mulI qe_int (qv 1)) qe_int)) (qv 2)))) qss_nil)
      (qss_cons (qs_set (i:=3) sc__law_mix.nd (by rfl) (Or.inl (by rfl)) (qe_ix (ix_listK (K:=K) (by rfl)) (qe_lst (qa_cons qe_int (qa_cons qe_int (qa_cons qe_int (qa_cons qe_int (qa_cons qe_int (qa_cons qe_int (qa_cons qe_int (qa_cons qe_int qa_nil))))))))) (qe_op op_mod (qv 1) qe_int) (fun _ _=>(by rfl))))
      (qss_cons (qs_set (i:=4) sc__law_mix.nd (by rfl) (Or.inl (by rfl)) (qe_ix (ix_listK (K:=K) (by rfl)) (qe_lst (qa_cons qe_int (qa_cons qe_int (qa_cons qe_int (qa_cons qe_int (qa_cons qe_int (qa_cons qe_int (qa_cons qe_int qa_nil)))))))) (qe_op op_mod (qv 1) qe_int) (fun _ _=>(by rfl))))
      (qss_cons (qs_set (i:=5) sc__law_mix.nd (by rfl) (Or.inl (by rfl)) (qe_op op_mod (qe_op op_mulI (qe_op op_add (qe_op op_mod (qe_op op_addA (qv 0) (qe_op op_mulI (qe_op op_mulI (qv 1) (qv 1)) (qv 1))) qe_int) qe_int) (qv 3)) qe_int))
      (qss_one (qs_ret (qe_op op_mod (qe_op op_mod (qe_op op_mulI (qe_op op_add (qv 5) qe_int) (qv 4)) qe_int) (qv 2))))))))).h,?_⟩
    have fin:∀ (v:Int) (H':Hp),mixA c k=v->Same H H'->Q (.int (v % m)) H':=fun v H' e g=>by
      have:=q H' g
      rw [mix_eq hm,e] at this
      exact this
    have els:mixA c k=mixB c k->∀ (p:Addr),H p=none->∃ x,SqL K (upd H p (HO.lst [V.int 1000000007,V.int 1181783503,V.int 1372345291,V.int 1518500279,V.int 1636201513,V.int 1734723539,V.int 1871234567,V.int 2012345681])) p x/\∃ x_1,atI x (k % 8)=some x_1 /\
        ∀ (p_1:Addr),upd H p (HO.lst [V.int 1000000007,V.int 1181783503,V.int 1372345291,V.int 1518500279,V.int 1636201513,V.int 1734723539,V.int 1871234567,V.int 2012345681]) p_1=none->∃ x,SqL K (upd (upd H p (HO.lst [V.int 1000000007,V.int 1181783503,V.int 1372345291,V.int 1518500279,V.int 1636201513,V.int 1734723539,V.int 1871234567,V.int 2012345681])) p_1 (HO.lst [V.int 100000000003,V.int 223606797763,V.int 314159265359,V.int 414213562379,V.int 577215664943,V.int 693147180563,V.int 732050807573])) p_1 x /\
        ∃ x_2,atI x (k % 7)=some x_2/\IntMulOk k k/\IntMulOk (k * k) k/\∃ x,x_1=V.int x/\IntMulOk ((c+k * k * k) % 1000000000039+1) x/\∃ x_3,x_2=V.int x_3/\IntMulOk (((c+k * k * k) % 1000000000039+1) * x % 2147483629+1) x_3/\0<m /\
        Q (V.int ((((c+k * k * k) % 1000000000039+1) * x % 2147483629+1) * x_3 % 999999999989 % m)) (upd (upd H p (HO.lst [V.int 1000000007,V.int 1181783503,V.int 1372345291,V.int 1518500279,V.int 1636201513,V.int 1734723539,V.int 1871234567,V.int 2012345681])) p_1 (HO.lst [V.int 100000000003,V.int 223606797763,V.int 314159265359,V.int 414213562379,V.int 577215664943,V.int 693147180563,V.int 732050807573])):=by
      intro e p hp
      refine⟨_,SqL.of upd_same,_,at8 k,fun p2 hp2=>⟨_,SqL.of upd_same,_,at7 k,?_⟩⟩
      have m1:=mod_nn (a:=c+k * k * k) (m:=1000000000039) (by decide)
      refine⟨mulOk_l (by lia),mulOk_r (by lia),_,rfl,mulOk_l (by lia),_,rfl,mulOk_l ?_,hm,fin _ _ e ((same_upd hp).trans (same_upd hp2))⟩
      have m2:=mod_nn (a:=((c+k * k * k) % 1000000000039+1) * L1 k) (m:=2147483629) (by decide)
      lia
    walk_at "rd"
    by_cases h1:c % 2=0
    · rw [if_pos h1]
      refine⟨cpow (by decide),?_⟩
      by_cases h2:10 ^ Int.toNat 18<c
      · rw [if_pos h2]
        refine⟨mulOk_l (by decide),by lia,?_⟩
        by_cases h3:0<c / 2 ^ (7 * k+8).toNat
        · rw [if_pos h3]
          exact⟨mulOk_l (by decide),by lia,hm,fin _ H (by unfold mixA;rw [if_pos h1,if_pos h2,if_pos h3]) (Same.refl H)⟩
        · rw [if_neg h3]
          exact els (by unfold mixA;rw [if_pos h1,if_pos h2,if_neg h3])
      · rw [if_neg h2]
        exact els (by unfold mixA;rw [if_pos h1,if_neg h2])
    · rw [if_neg h1]
      exact els (by unfold mixA;rw [if_neg h1])
theorem ok_law_part (T:Txt w K mg t)(D:Df K mg "_law_part" s__law_part ps__law_part)(F__law_mix:OkF P w K mg base 1 "_law_mix" ps__law_mix sp__law_mix):OkF P w K mg base 2 "_law_part" ps__law_part sp__law_part:=by
  refine D.ok sc__law_part (fun vs H Q E h=>?_) (fun f cdv A outer s H vs Q E hr h=>?_)
  · obtain⟨_,_,rfl,_⟩:=h;rfl
  · obtain⟨c,k,rfl,hk0,hk,q⟩:=h
    refine⟨_,((qss_one (qs_ret (qe_callF F__law_mix hr (by decide) (qa_cons (qv 0) (qa_cons (qe_op op_add qe_int (qv 1)) (qa_cons qe_int qa_nil))))))).h,?_⟩
    walk_at "rd"
    exact⟨by lia,by lia,q⟩
end
section
variable {P:Program} {w:World} {K:PySem.W.Frag} {mg:Str->Option Value} {base:Heap} {t:Ads}
theorem ok_law_within {k d:Nat}(hk:10<=k)(hd:gL d<=100000)(T:Txt w K mg t)(D:Df K mg "_law_within" s__law_within ps__law_within)(F__law_part:OkF P w K mg base 2 "_law_part" ps__law_part sp__law_part)(F__law_good:OkF P w K mg base k "_law_good" ps__law_good (sp__law_good d)):OkF P w K mg base (k+1) "_law_within" ps__law_within (sp__law_within d):=by
  refine D.ok sc__law_within (fun vs H Q E h=>?_) (fun f cdv A outer s H vs Q E hr h=>?_)
  · obtain⟨_,_,_,_,_,rfl,_⟩:=h;rfl
  · obtain⟨c,lead,kind,close,pa,rfl,hpa,hkn,q⟩:=h
    refine⟨_,((qss_cons (qs_asg (qe_callF F__law_good hr (by lia) (qa_cons (qe_callF F__law_part hr (by lia) (qa_cons (qv 0) (qa_cons qe_int qa_nil))) (qa_cons (qv 2) (qa_cons (qe_op op_sub (qv 4) qe_int) (qa_cons (qv 5) qa_nil))))) (qg_tup (n:=2) (by rfl) (qgs_cons (qg_name (i:=6) sc__law_within.nd (by rfl) (Or.inl (by rfl))) (qgs_cons (qg_name (i:=7) sc__law_within.nd (by rfl) (Or.inl (by rfl))) qgs_nil))))
      (qss_one (qs_ret (qe_tup (qa_cons (qe_op op_cat (qe_op op_cat (qe_lst (qa_cons (qe_tup (qa_cons (qe_S (l:=[108,105,116]) (by decide +kernel)) (qa_cons (qv 1) qa_nil))) qa_nil)) (qv 6)) (qe_lst (qa_cons (qe_tup (qa_cons (qe_S (l:=[108,105,116]) (by decide +kernel)) (qa_cons (qv 3) qa_nil))) qa_nil))) (qa_cons (qv 7) qa_nil))))))).h,?_⟩
    walk_at "rd"
    intro H1 g1
    refine⟨by lia,g1 _ _ hpa,hkn,fun r H2 g2 ⟨p,fa,da,xs,hr,hp,⟨_,vs,e,hfa,hds⟩,hda,hxl,hsz,hs,hho,hft⟩=>?_⟩
    subst hr
    cases e
    refine⟨p,rfl,_,SqT.of hp,rfl,_,_,rfl,_,_,rfl,rfl,fun q1 h1 q2 h2=>?_⟩
    have a1:=same_upd (o:=.tup [tx [108,105,116],tx lead]) h1
    have a2:=same_upd (o:=.lst [V.ref q1]) h2
    have A2:=a1.trans a2
    have l1:=hds.len
    rw [dPs_len] at l1
    have l2:=szS_len (its (goodM d (partM c 8) kind))
    rw [its_len,szS_map] at l2
    have hsz':szPs (goodM d (partM c 8) kind)<=gL d:=hsz
    refine⟨fa,rfl,_,upd_same,vs,A2 _ _ hfa,by show 1+vs.length<=16777216;have:vs.length=(goodM d (partM c 8) kind).length:=l1.symm;lia,fun q3 h3 q4 h4 q5 h5=>?_⟩
    have a3:=same_upd (o:=.lst ([V.ref q1]++vs)) h3
    have a4:=same_upd (o:=.tup [tx [108,105,116],tx close]) h4
    have a5:=same_upd (o:=.lst [V.ref q4]) h5
    have lv:vs.length=(goodM d (partM c 8) kind).length:=l1.symm
    refine⟨_,(a4.trans a5) _ _ upd_same,_,upd_same,by rw [List.length_append,List.length_singleton,List.length_singleton];lia,fun q6 h6 q7 h7=>?_⟩
    have a6:=same_upd (o:=.lst ([V.ref q1]++vs++[V.ref q4])) h6
    have a7:=same_upd (o:=.tup [V.ref q6,V.ref da]) h7
    have A7:=A2.trans (a3.trans (a4.trans (a5.trans (a6.trans a7))))
    refine q _ _ (g1.trans (g2.trans A7)) ⟨q7,q6,da,xs,rfl,upd_same,⟨q6,_,rfl,a7 _ _ upd_same,?_⟩,A7 _ _ hda,by lia,?_,hs,hho.mono (TpS.of A7),hft⟩
    · show IsDs _ (dPs ([.lit lead]++goodM d (partM c 8) kind++[.lit close])) _
      rw [dPs_app,dPs_app]
      exact((dt_lit ((a2.trans (a3.trans (a4.trans (a5.trans (a6.trans a7))))) _ _ upd_same)).app (hds.mono A7)).app (dt_lit ((a5.trans (a6.trans a7)) _ _ upd_same))
    · show szPs ([.lit lead]++goodM d (partM c 8) kind++[.lit close])<=_
      rw [szPs_app,szPs_app]
      simp only [szPs,szP]
      lia
theorem ok_law_compound {k d:Nat}(hk:10<=k)(hd:gL d<=100000)(T:Txt w K mg t)(D:Df K mg "_law_compound" s__law_compound ps__law_compound)(F__law_mix:OkF P w K mg base 1 "_law_mix" ps__law_mix sp__law_mix)(F__law_part:OkF P w K mg base 2 "_law_part" ps__law_part sp__law_part)(F__law_within:OkF P w K mg base k "_law_within" ps__law_within (sp__law_within d))(F__law_good:OkF P w K mg base k "_law_good" ps__law_good (sp__law_good d)):OkF P w K mg base (k+1) "_law_compound" ps__law_compound (sp__law_compound d):=by
  refine D.ok sc__law_compound (fun vs H Q E h=>?_) (fun f cdv A outer s H vs Q E hr h=>?_)
  · obtain⟨_,_,_,rfl,_⟩:=h;rfl
  · obtain⟨c,kind,pa,rfl,hpa,hkn,q⟩:=h
    refine⟨_,((qss_cons (qs_set (i:=4) sc__law_compound.nd (by rfl) (Or.inl (by rfl)) (qe_callF F__law_mix hr (by lia) (qa_cons (qv 0) (qa_cons qe_int (qa_cons qe_int qa_nil)))))
      (qss_cons (qs_if (qt_cmpR op_eq (qv 1) (qe_S (l:=[100,111,110,101]) (by decide +kernel)) (nomark _)) (qss_cons (qs_set (i:=5) sc__law_compound.nd (by rfl) (Or.inl (by rfl)) (qe_ix (ix_listK (K:=K) (by rfl)) (qe_lst (qa_cons (qe_S (l:=[32,113,61,34]) (by decide +kernel)) (qa_cons (qe_S (l:=[32,114,40,121,44]) (by decide +kernel)) (qa_cons (qe_S (l:=[32,116,33,34,119,32,39]) (by decide +kernel)) qa_nil)))) (qv 4) (fun _ _=>(by rfl))))
      (qss_one (qs_ret (qe_callF F__law_within hr (by lia) (qa_cons (qv 0) (qa_cons (qv 5) (qa_cons (qe_ix (ix_listK (K:=K) (by rfl)) (qe_lst (qa_cons (qe_S (l:=[113,117,111,116,101,100]) (by decide +kernel)) (qa_cons (qe_S (l:=[114,111,119]) (by decide +kernel)) (qa_cons (qe_S (l:=[115,97,105,100]) (by decide +kernel)) qa_nil)))) (qv 4) (fun _ _=>(by rfl))) (qa_cons (qe_ix (ix_listK (K:=K) (by rfl)) (qe_lst (qa_cons (qe_S (l:=[34]) (by decide +kernel)) (qa_cons (qe_S (l:=[41]) (by decide +kernel)) (qa_cons (qe_S (l:=[39,34]) (by decide +kernel)) qa_nil)))) (qv 4) (fun _ _=>(by rfl))) (qa_cons (qv 2) (qa_cons (qv 3) qa_nil)))))))))) qss_nil)
      (qss_cons (qs_if (qt_cmpR op_eq (qv 4) qe_int (nomark _)) (qss_one (qs_asg (qe_callF F__law_within hr (by lia) (qa_cons (qv 0) (qa_cons (qe_S (l:=[60,98,32,119,58]) (by decide +kernel)) (qa_cons (qe_S (l:=[98,97,114,101]) (by decide +kernel)) (qa_cons (qe_S (l:=[62]) (by decide +kernel)) (qa_cons (qv 2) (qa_cons (qv 3) qa_nil))))))) (qg_tup (n:=2) (by rfl) (qgs_cons (qg_name (i:=6) sc__law_compound.nd (by rfl) (Or.inl (by rfl))) (qgs_cons (qg_name (i:=7) sc__law_compound.nd (by rfl) (Or.inl (by rfl))) qgs_nil))))) (qss_one (qs_asg (qe_callF F__law_within hr (by lia) (qa_cons (qv 0) (qa_cons (qe_S (l:=[60,98,32,97,61,34,120,34]) (by decide +kernel)) (qa_cons (qe_S (l:=[100,111,110,101]) (by decide +kernel)) (qa_cons (qe_S (l:=[62]) (by decide +kernel)) (qa_cons (qv 2) (qa_cons (qv 3) qa_nil))))))) (qg_tup (n:=2) (by rfl) (qgs_cons (qg_name (i:=6) sc__law_compound.nd (by rfl) (Or.inl (by rfl))) (qgs_cons (qg_name (i:=7) sc__law_compound.nd (by rfl) (Or.inl (by rfl))) qgs_nil))))))
      (qss_cons (qs_asg (qe_callF F__law_good hr (by lia) (qa_cons (qe_callF F__law_part hr (by lia) (qa_cons (qv 0) (qa_cons qe_int qa_nil))) (qa_cons (qe_S (l:=[116,101,120,116]) (by decide +kernel)) (qa_cons (qe_op op_sub (qv 2) qe_int) (qa_cons (qv 3) qa_nil))))) (qg_tup (n:=2) (by rfl) (qgs_cons (qg_name (i:=8) sc__law_compound.nd (by rfl) (Or.inl (by rfl))) (qgs_cons (qg_name (i:=9) sc__law_compound.nd (by rfl) (Or.inl (by rfl))) qgs_nil))))
      (qss_one (qs_ret (qe_tup (qa_cons (qe_op op_cat (qe_op op_cat (qv 6) (qv 8)) (qe_lst (qa_cons (qe_tup (qa_cons (qe_S (l:=[108,105,116]) (by decide +kernel)) (qa_cons (qe_S (l:=[60,47,98,62]) (by decide +kernel)) qa_nil))) qa_nil))) (qa_cons (qe_op op_cat (qv 7) (qv 9)) qa_nil)))))))))).h,?_⟩
    walk_at "rd"
    intro H1 g1
    have hm3:mixM c 4 3<3:=by have:=mix_lt (c:=c) (k:=4) (m:=3) (by decide);lia
    by_cases hkd:kind=[100,111,110,101]
    · rw [if_pos hkd]
      intro q1 h1
      generalize hm:mixM c 4 3=m at hm3
      have ec:compF (goodM d) c kind=withF (goodM d) c ([[32,113,61,34],[32,114,40,121,44],[32,116,33,34,119,32,39]].getD m []) ([[113,117,111,116,101,100],[114,111,119],[115,97,105,100]].getD m []) ([[34],[41],[39,34]].getD m []):=by
        unfold compF
        rw [if_pos (show kind=kDone from hkd),hm]
      rw [ec] at q
      have:m=0\/m=1\/m=2:=by lia
      have fin:∀ (q2 q3:Addr) (o1 o2 o3:HO),H1 q1=none->upd H1 q1 o1 q2=none->upd (upd H1 q1 o1) q2 o2 q3=none->Same H1 (upd (upd (upd H1 q1 o1) q2 o2) q3 o3):=fun q2 q3 o1 o2 o3 z1 z2 z3=>(same_upd z1).trans ((same_upd z2).trans (same_upd z3))
      have hkm:Kn ([[113,117,111,116,101,100],[114,111,119],[115,97,105,100]].getD m []):=by rcases this with rfl | rfl | rfl;exact .quoted;exact .row;exact .said
      have hfm:∀ hs,Fit d ([[113,117,111,116,101,100],[114,111,119],[115,97,105,100]].getD m []) (goodM d (partM c 8) ([[113,117,111,116,101,100],[114,111,119],[115,97,105,100]].getD m [])) hs->Fit (d+1) kind (withF (goodM d) c ([[32,113,61,34],[32,114,40,121,44],[32,116,33,34,119,32,39]].getD m []) ([[113,117,111,116,101,100],[114,111,119],[115,97,105,100]].getD m []) ([[34],[41],[39,34]].getD m [])) hs:=fun hs hf=>by rw [hkd];exact fit_done this hf
      rcases this with rfl | rfl | rfl
      all_goals
        refine⟨_,SqL.of upd_same,_,rfl,fun q2 h2=>⟨_,SqL.of upd_same,_,rfl,fun q3 h3=>⟨_,SqL.of upd_same,_,rfl,_,rfl,_,rfl,_,rfl,(g1.trans (fin _ _ _ _ _ h1 h2 h3)) _ _ hpa,hkm,fun r H5 g5 hr=>?_⟩⟩⟩
        obtain⟨p,fa,da,xs,e1,e2,e3,e4,e5,e6,hs,hho,hft⟩:=hr
        exact q _ _ (g1.trans ((fin _ _ _ _ _ h1 h2 h3).trans g5)) ⟨p,fa,da,xs,e1,e2,e3,e4,by lia,by exact Nat.le_trans e6 (by lia),hs,hho,hfm hs hft⟩
    rw [if_neg hkd]
    split
    · rename_i hz
      refine⟨g1 _ _ hpa,.bare,fun r H2 g2 ⟨p,fa,da,xs,hr,hp,⟨_,vs,e,hfa,hds⟩,hda,hxl,hsz,hs,hho,hft⟩=>?_⟩
      subst hr
      cases e
      refine⟨p,rfl,_,SqT.of hp,rfl,_,_,rfl,_,_,rfl,rfl,fun H3 g3=>⟨by lia,(g1.trans (g2.trans g3)) _ _ hpa,.text,fun r H4 g4 ⟨p',fb,db,ys,hr,hp',⟨_,us,e,hfb,hdu⟩,hdb,hyl,hsz2,hs2,hho2,hft2⟩=>?_⟩⟩
      subst hr
      cases e
      have g34:=g3.trans g4
      have l1:=hds.len
      rw [dPs_len] at l1
      have l2:=szS_len (its (withF (goodM d) c [60,98,32,119,58] [98,97,114,101] [62]))
      rw [its_len,szS_map] at l2
      have l3:=hdu.len
      rw [dPs_len] at l3
      have l4:=szS_len (its (goodM d (partM c 9) kText))
      rw [its_len,szS_map] at l4
      have hsz2':szPs (goodM d (partM c 9) kText)<=gL d:=hsz2
      have l3':(goodM d (partM c 9) kText).length=us.length:=l3
      refine⟨p',rfl,_,SqT.of hp',rfl,_,_,rfl,_,_,rfl,rfl,fa,rfl,fb,rfl,vs,g34 _ _ hfa,us,hfb,by lia,fun q1 h1 q2 h2 q3 h3=>?_⟩
      have a1:=same_upd (o:=.lst (vs++us)) h1
      have a2:=same_upd (o:=.tup [tx [108,105,116],tx [60,47,98,62]]) h2
      have a3:=same_upd (o:=.lst [V.ref q2]) h3
      have A3:=a1.trans (a2.trans a3)
      refine⟨_,(a2.trans a3) _ _ upd_same,_,upd_same,by rw [List.length_append,List.length_singleton];lia,fun q4 h4=>?_⟩
      have a4:=same_upd (o:=.lst (vs++us++[V.ref q2])) h4
      have A4:=A3.trans a4
      refine⟨da,rfl,db,rfl,xs,(g34.trans A4) _ _ hda,ys,A4 _ _ hdb,by lia,fun q5 h5 q6 h6=>?_⟩
      have a5:=same_upd (o:=.lst (xs++ys)) h5
      have a6:=same_upd (o:=.tup [V.ref q4,V.ref q5]) h6
      have A6:=A4.trans (a5.trans a6)
      have ec:compF (goodM d) c kind=withF (goodM d) c [60,98,32,119,58] [98,97,114,101] [62]++goodM d (partM c 9) kText++[.lit [60,47,98,62]]:=by
        unfold compF
        rw [if_neg (show ¬ kind=kDone from hkd),if_pos (by lia)]
      refine q _ _ (g1.trans (g2.trans (g34.trans A6))) ⟨q6,q4,q5,xs++ys,rfl,upd_same,⟨q4,_,rfl,(a5.trans a6) _ _ upd_same,?_⟩,a6 _ _ upd_same,by rw [List.length_append];lia,?_,hs++hs2,(hho.mono (TpS.of (g34.trans A6))).app (hho2.mono (TpS.of A6)),?_⟩
      · rw [ec,dPs_app,dPs_app]
        exact((hds.mono (g34.trans A6)).app (hdu.mono A6)).app (dt_lit ((a3.trans (a4.trans (a5.trans a6))) _ _ upd_same))
      · rw [ec,szPs_app,szPs_app]
        simp only [szPs,szP]
        lia
      · rw [ec,hkn.resolve_right hkd]
        exact fit_box (.inl rfl) (fun op=>⟨_,rfl⟩) (by decide) hft hft2
    · rename_i hz
      refine⟨g1 _ _ hpa,.done,fun r H2 g2 ⟨p,fa,da,xs,hr,hp,⟨_,vs,e,hfa,hds⟩,hda,hxl,hsz,hs,hho,hft⟩=>?_⟩
      subst hr
      cases e
      refine⟨p,rfl,_,SqT.of hp,rfl,_,_,rfl,_,_,rfl,rfl,fun H3 g3=>⟨by lia,(g1.trans (g2.trans g3)) _ _ hpa,.text,fun r H4 g4 ⟨p',fb,db,ys,hr,hp',⟨_,us,e,hfb,hdu⟩,hdb,hyl,hsz2,hs2,hho2,hft2⟩=>?_⟩⟩
      subst hr
      cases e
      have g34:=g3.trans g4
      have l1:=hds.len
      rw [dPs_len] at l1
      have l2:=szS_len (its (withF (goodM d) c [60,98,32,97,61,34,120,34] [100,111,110,101] [62]))
      rw [its_len,szS_map] at l2
      have l3:=hdu.len
      rw [dPs_len] at l3
      have l4:=szS_len (its (goodM d (partM c 9) kText))
      rw [its_len,szS_map] at l4
      have hsz2':szPs (goodM d (partM c 9) kText)<=gL d:=hsz2
      have l3':(goodM d (partM c 9) kText).length=us.length:=l3
      refine⟨p',rfl,_,SqT.of hp',rfl,_,_,rfl,_,_,rfl,rfl,fa,rfl,fb,rfl,vs,g34 _ _ hfa,us,hfb,by lia,fun q1 h1 q2 h2 q3 h3=>?_⟩
      have a1:=same_upd (o:=.lst (vs++us)) h1
      have a2:=same_upd (o:=.tup [tx [108,105,116],tx [60,47,98,62]]) h2
      have a3:=same_upd (o:=.lst [V.ref q2]) h3
      have A3:=a1.trans (a2.trans a3)
      refine⟨_,(a2.trans a3) _ _ upd_same,_,upd_same,by rw [List.length_append,List.length_singleton];lia,fun q4 h4=>?_⟩
      have a4:=same_upd (o:=.lst (vs++us++[V.ref q2])) h4
      have A4:=A3.trans a4
      refine⟨da,rfl,db,rfl,xs,(g34.trans A4) _ _ hda,ys,A4 _ _ hdb,by lia,fun q5 h5 q6 h6=>?_⟩
      have a5:=same_upd (o:=.lst (xs++ys)) h5
      have a6:=same_upd (o:=.tup [V.ref q4,V.ref q5]) h6
      have A6:=A4.trans (a5.trans a6)
      have ec:compF (goodM d) c kind=withF (goodM d) c [60,98,32,97,61,34,120,34] [100,111,110,101] [62]++goodM d (partM c 9) kText++[.lit [60,47,98,62]]:=by
        unfold compF
        rw [if_neg (show ¬ kind=kDone from hkd),if_neg (by lia)];rfl
      refine q _ _ (g1.trans (g2.trans (g34.trans A6))) ⟨q6,q4,q5,xs++ys,rfl,upd_same,⟨q4,_,rfl,(a5.trans a6) _ _ upd_same,?_⟩,a6 _ _ upd_same,by rw [List.length_append];lia,?_,hs++hs2,(hho.mono (TpS.of (g34.trans A6))).app (hho2.mono (TpS.of A6)),?_⟩
      · rw [ec,dPs_app,dPs_app]
        exact((hds.mono (g34.trans A6)).app (hdu.mono A6)).app (dt_lit ((a3.trans (a4.trans (a5.trans a6))) _ _ upd_same))
      · rw [ec,szPs_app,szPs_app]
        simp only [szPs,szP]
        lia
      · rw [ec,hkn.resolve_right hkd]
        exact fit_box (.inr rfl) (fun op=>⟨_,rfl⟩) (by decide) hft hft2
noncomputable def smS (c:Int)(kind:Tx)(d:Nat)(pa:Addr):L2.St:=[some (V.int c),some (V.str (S kind)),some (V.int d),some (V.ref pa),some (V.int (mixM c 1 8)),some (V.str (S (nameM c))),none,none,none,none]
theorem ok_law_some {k d:Nat}(hk:10<=k)(hd:gL d<=100000)(T:Txt w K mg t)(D:Df K mg "_law_some" s__law_some ps__law_some)(F__law_mix:OkF P w K mg base 1 "_law_mix" ps__law_mix sp__law_mix)(F__law_part:OkF P w K mg base 2 "_law_part" ps__law_part sp__law_part)(F__law_compound:OkF P w K mg base k "_law_compound" ps__law_compound (fun vs H Q E=>∃ d',d=d' + 1/\sp__law_compound d' vs H Q E))(F__law_good:OkF P w K mg base k "_law_good" ps__law_good (fun vs H Q E=>∃ d',d=d' + 1/\sp__law_good d' vs H Q E)):OkF P w K mg base (k+1) "_law_some" ps__law_some (sp__law_some d):=by
  refine D.ok sc__law_some (fun vs H Q E h=>?_) (fun f cdv A outer s H vs Q E hr h=>?_)
  · obtain⟨_,_,_,rfl,_⟩:=h;rfl
  · obtain⟨c,kind,pa,rfl,hpa,hkn,q⟩:=h
    refine⟨_,((qss_cons (qs_set (i:=4) sc__law_some.nd (by rfl) (Or.inl (by rfl)) (qe_callF F__law_mix hr (by lia) (qa_cons (qv 0) (qa_cons qe_int (qa_cons qe_int qa_nil)))))
      (qss_cons (qs_set (i:=5) sc__law_some.nd (by rfl) (Or.inl (by rfl)) (qe_ix (ix_listK (K:=K) (by rfl)) (qe_lst (qa_cons (qe_S (l:=[97]) (by decide +kernel)) (qa_cons (qe_S (l:=[97,98]) (by decide +kernel)) (qa_cons (qe_S (l:=[119,104,111]) (by decide +kernel)) (qa_cons (qe_S (l:=[98]) (by decide +kernel)) qa_nil))))) (qe_callF F__law_mix hr (by lia) (qa_cons (qv 0) (qa_cons qe_int (qa_cons qe_int qa_nil)))) (fun _ _=>(by rfl))))
      (qss_cons (qs_if (QW.qt (qw_and (qt_cmpR op_eq (qv 4) qe_int (nomark _)) (qw_and1 (qt_cmpR op_ne (qv 1) (qe_S (l:=[100,111,110,101]) (by decide +kernel)) (nomark _))))) (qss_one (qs_ret (qe_tup (qa_cons (qe_lst (qa_cons (qe_tup (qa_cons (qe_S (l:=[104,111,108,101]) (by decide +kernel)) (qa_cons (qv 5) qa_nil))) qa_nil)) (qa_cons (qe_lst (qa_cons (qe_tup (qa_cons (qv 5) (qa_cons (qv 1) qa_nil))) qa_nil)) qa_nil))))) qss_nil)
      (qss_cons (qs_if (QW.qt (qw_or (qt_cmpR op_lt (qv 4) qe_int (nomark _)) (qw_or (qt_cmpR op_eq (qv 2) qe_int (nomark _)) (qw_or1 (QW.qt (qw_and (qt_cmpR op_gt (qv 4) qe_int (nomark _)) (qw_and1 (qt_cmpR (op_notinQK (K:=K) (by rfl)) (qv 1) (qe_tup (qa_cons (qe_S (l:=[116,101,120,116]) (by decide +kernel)) (qa_cons (qe_S (l:=[100,111,110,101]) (by decide +kernel)) qa_nil))) (by rfl))))))))) (qss_one (qs_ret (qe_tup (qa_cons (qe_lst (qa_cons (qe_tup (qa_cons (qe_S (l:=[108,105,116]) (by decide +kernel)) (qa_cons (qe_dget2 (hu_of hr) (qe_disp (qpp_cons (by exact(qe_S (l:=[116,101,120,116]) (by decide +kernel))) (by exact(qe_S (l:=[120,32,121,38,48,53,59]) (by decide +kernel))) (qpp_cons (by exact(qe_S (l:=[100,111,110,101]) (by decide +kernel))) (by exact(qe_S (l:=[32,99,61,34,121,34]) (by decide +kernel))) qpp_nil)) (by rfl) (by rfl) (by intro z;cases z) (by decide)) (qv 1) (qe_S (l:=[122,48]) (by decide +kernel)) (by exact⟨rfl,rfl,rfl,rfl⟩)) qa_nil))) qa_nil)) (qa_cons (qe_lst qa_nil) qa_nil))))) qss_nil)
      (qss_cons (qs_if (qt_cmpR op_gt (qv 4) qe_int (nomark _)) (qss_one (qs_ret (qe_callF F__law_compound hr (by lia) (qa_cons (qv 0) (qa_cons (qv 1) (qa_cons (qv 2) (qa_cons (qv 3) qa_nil))))))) qss_nil)
      (qss_cons (qs_asg (qe_callF F__law_good hr (by lia) (qa_cons (qe_callF F__law_part hr (by lia) (qa_cons (qv 0) (qa_cons qe_int qa_nil))) (qa_cons (qv 1) (qa_cons (qe_op op_sub (qv 2) qe_int) (qa_cons (qv 3) qa_nil))))) (qg_tup (n:=2) (by rfl) (qgs_cons (qg_name (i:=6) sc__law_some.nd (by rfl) (Or.inl (by rfl))) (qgs_cons (qg_name (i:=7) sc__law_some.nd (by rfl) (Or.inl (by rfl))) qgs_nil))))
      (qss_cons (qs_if (qt_cmpR op_eq (qv 4) qe_int (nomark _)) (qss_one (qs_ret (qe_tup (qa_cons (qe_lst (qa_cons (qe_tup (qa_cons (qe_S (l:=[101,97,99,104]) (by decide +kernel)) (qa_cons (qv 5) (qa_cons (qv 6) qa_nil)))) qa_nil)) (qa_cons (qv 7) qa_nil))))) qss_nil)
      (qss_cons (qs_if (qt_cmpR op_eq (qv 4) qe_int (nomark _)) (qss_cons (qs_set (i:=8) sc__law_some.nd (by rfl) (Or.inl (by rfl)) (qe_callF F__law_good hr (by lia) (qa_cons (qe_callF F__law_part hr (by lia) (qa_cons (qv 0) (qa_cons qe_int qa_nil))) (qa_cons (qv 1) (qa_cons (qe_op op_sub (qv 2) qe_int) (qa_cons (qv 3) qa_nil))))))
      (qss_one (qs_ret (qe_tup (qa_cons (qe_lst (qa_cons (qe_tup (qa_cons (qe_S (l:=[105,102]) (by decide +kernel)) (qa_cons (qv 5) (qa_cons (qv 6) (qa_cons (qe_ix (ix_tupK (K:=K) (by rfl)) (qv 8) qe_int (fun _ _=>(by rfl))) qa_nil))))) qa_nil)) (qa_cons (qe_op op_cat (qv 7) (qe_ix (ix_tupK (K:=K) (by rfl)) (qv 8) qe_int (fun _ _=>(by rfl)))) qa_nil)))))) qss_nil)
      (qss_cons (qs_set (i:=9) sc__law_some.nd (by rfl) (Or.inl (by rfl)) (qe_ix (ix_listK (K:=K) (by rfl)) (qe_lst (qa_cons (qe_S (l:=[98,108,111,99,107]) (by decide +kernel)) (qa_cons (qe_S (l:=[101,108,100,101,114]) (by decide +kernel)) (qa_cons (qe_S (l:=[100,114,97,119]) (by decide +kernel)) qa_nil)))) (qe_callF F__law_mix hr (by lia) (qa_cons (qv 0) (qa_cons qe_int (qa_cons qe_int qa_nil)))) (fun _ _=>(by rfl))))
      (qss_one (qs_ret (qe_tup (qa_cons (qe_lst (qa_cons (qe_tup (qa_cons (qe_S (l:=[115,101,97,116]) (by decide +kernel)) (qa_cons (qv 9) (qa_cons (qe_S (l:=[97]) (by decide +kernel)) (qa_cons (qe_ix (ix_listK (K:=K) (by rfl)) (qe_lst (qa_cons (qe_S (l:=[98]) (by decide +kernel)) (qa_cons (qe_S (l:=[]) (by decide +kernel)) qa_nil))) (qe_callTy call_intB (by rfl) T.z_int bb_int (qa_cons (qe_cmpR op_eq (qv 9) (qe_S (l:=[100,114,97,119]) (by decide +kernel)) (nomark _)) qa_nil)) (fun _ _=>(by rfl))) (qa_cons (qv 6) qa_nil)))))) qa_nil)) (qa_cons (qv 7) qa_nil))))))))))))))).h,?_⟩
    have hm8:mixM c 1 8<8:=by have:=mix_lt (c:=c) (k:=1) (m:=8) (by decide);lia
    have hm4:mixM c 2 4<4:=by have:=mix_lt (c:=c) (k:=2) (m:=4) (by decide);lia
    refine seq_gen2 (fun σ' H'=>σ' = smS c kind d pa/\Same H H') ?_ (fun N hN=>by
      walk_at "rd"
      intro H1 g1 p hp H2 g2
      have a1:=same_upd (o:=.lst [V.str (S [97]),V.str (S [97,98]),V.str (S [119,104,111]),V.str (S [98])]) hp
      refine⟨_,SqL.of (g2 _ _ upd_same),V.str (S (nameM c)),?_,hN _ _ ⟨rfl,g1.trans (a1.trans g2)⟩⟩
      unfold nameM
      have:mixM c 2 4=0\/mixM c 2 4=1\/mixM c 2 4=2\/mixM c 2 4=3:=by lia
      rcases this with e | e | e | e<;>rw [e]<;>rfl)
    rintro σ1 H1 ⟨rfl,g1⟩
    refine seq_gen1 (fun σ' H'=>σ' = smS c kind d pa/\Same H H'/\¬ (mixM c 1 8=1/\kind≠kDone)) ?_ (fun N hN=>by
      unfold smS
      walk_at "rd"
      by_cases h1:mixM c 1 8=1
      · rw [if_pos (by lia)]
        by_cases h2:kind=[100,111,110,101]
        · rw [if_neg (by simp [h2])]
          exact hN _ _ ⟨rfl,g1,fun z=>z.2 h2⟩
        · rw [if_pos (by simp [h2])]
          intro q1 z1 q2 z2 q3 z3 q4 z4 q5 z5
          have b1:=same_upd (o:=.tup [tx [104,111,108,101],tx (nameM c)]) z1
          have b2:=same_upd (o:=.lst [V.ref q1]) z2
          have b3:=same_upd (o:=.tup [tx (nameM c),tx kind]) z3
          have b4:=same_upd (o:=.lst [V.ref q3]) z4
          have b5:=same_upd (o:=.tup [V.ref q2,V.ref q4]) z5
          have B3:=b3.trans (b4.trans b5)
          have es:someM d c kind=[.hole (nameM c)]:=by
            cases d<;>(show someF _ _ c kind=_;unfold someF;rw [if_pos ⟨h1,h2⟩])
          rw [es] at q
          exact q _ _ (g1.trans (b1.trans (b2.trans B3))) ⟨q5,q2,q4,[V.ref q3],rfl,upd_same,⟨q2,_,rfl,B3 _ _ upd_same,dt_hole ((b2.trans B3) _ _ upd_same)⟩,b5 _ _ upd_same,one_le d,by simp only [szPs,szP];exact one_le d,[(nameM c,kind)],.cons ⟨q3,rfl,(b4.trans b5) _ _ upd_same⟩ .nil,fit_hole hkn h2⟩
      · rw [if_neg (by lia)]
        exact hN _ _ ⟨rfl,g1,fun z=>h1 z.1⟩)
    rintro σ2 H2 ⟨rfl,g2,n1⟩
    refine seq_gen1 (fun σ' H'=>σ' = smS c kind d pa/\Same H H'/\¬ (mixM c 1 8<2\/d=0\/(4<mixM c 1 8/\kind≠kText/\kind≠kDone))) ?_ (fun N hN=>by
      unfold smS
      walk_at "rd"
      have lit:∀ (H0:Hp),Same H H0->(mixM c 1 8<2\/d=0\/(4<mixM c 1 8/\kind≠kText/\kind≠kDone))->∀ (p:Addr),H0 p=none->upd H0 p (HO.dK []) p=some (HO.dK []) /\
          ∃ kvs:List (Key×V),[(V.str (S [116,101,120,116]),V.str (S [120,32,121,38,48,53,59])),(V.str (S [100,111,110,101]),V.str (S [32,99,61,34,121,34]))]=List.map (fun kv=>(kV kv.fst,kv.snd)) kvs/\kvs.length<=15/\IsD (upd (upd H0 p (HO.dK [])) p (HO.dK (mergeK [] kvs))) p /\
          ∃ o,DGet (upd (upd H0 p (HO.dK [])) p (HO.dK (mergeK [] kvs))) p (V.str (S kind)) o/\∀ (p_1:Addr),upd (upd H0 p (HO.dK [])) p (HO.dK (mergeK [] kvs)) p_1=none->∀ (p_2:Addr),upd (upd (upd H0 p (HO.dK [])) p (HO.dK (mergeK [] kvs))) p_1 (HO.tup [V.str (S [108,105,116]),o.getD (V.str (S [122,48]))]) p_2=none ->
          ∀ (p_3:Addr),upd (upd (upd (upd H0 p (HO.dK [])) p (HO.dK (mergeK [] kvs))) p_1 (HO.tup [V.str (S [108,105,116]),o.getD (V.str (S [122,48]))])) p_2 (HO.lst [V.ref p_1]) p_3=none->∀ (p_4:Addr),upd (upd (upd (upd (upd H0 p (HO.dK [])) p (HO.dK (mergeK [] kvs))) p_1 (HO.tup [V.str (S [108,105,116]),o.getD (V.str (S [122,48]))])) p_2 (HO.lst [V.ref p_1])) p_3 (HO.lst []) p_4=none ->
          Q (V.ref p_4) (upd (upd (upd (upd (upd (upd H0 p (HO.dK [])) p (HO.dK (mergeK [] kvs))) p_1 (HO.tup [V.str (S [108,105,116]),o.getD (V.str (S [122,48]))])) p_2 (HO.lst [V.ref p_1])) p_3 (HO.lst [])) p_4 (HO.tup [V.ref p_2,V.ref p_3])):=by
        intro H0 g0 hcond p hp
        have es:someM d c kind=[.lit (litM kind)]:=by
          cases d with
          | zero=>
            show someF _ _ c kind=_
            unfold someF
            rw [if_neg n1,if_pos (.inr (.inl rfl))]
          | succ d=>
            show someF _ _ c kind=_
            unfold someF
            rw [if_neg n1,if_pos (by rcases hcond with z | z | z;exact .inl z;cases z;exact .inr (.inr z))]
        rw [es] at q
        have g5:Same H0 (upd (upd H0 p (HO.dK [])) p (HO.dK (mergeK [] litK))):=fun b o h=>by rw [upd_ne (ne_of_none h hp),upd_ne (ne_of_none h hp)];exact h
        refine⟨upd_same,litK,rfl,by decide,.inl ⟨_,.inl upd_same⟩,_,DGet.k (k:=.inr (S kind)) upd_same,?_⟩
        rw [lit_get]
        intro q1 z1 q2 z2 q3 z3 q4 z4
        have b1:=same_upd (o:=.tup [tx [108,105,116],tx (litM kind)]) z1
        have b2:=same_upd (o:=.lst [V.ref q1]) z2
        have b3:=same_upd (o:=.lst []) z3
        have b4:=same_upd (o:=.tup [V.ref q2,V.ref q3]) z4
        exact q _ _ (g0.trans (g5.trans (b1.trans (b2.trans (b3.trans b4))))) ⟨q4,q2,q3,[],rfl,upd_same,⟨q2,_,rfl,(b3.trans b4) _ _ upd_same,dt_lit ((b2.trans (b3.trans b4)) _ _ upd_same)⟩,b4 _ _ upd_same,by simp,by simp only [szPs,szP];exact one_le d,[],.nil,fit_lit hkn⟩
      split
      · exact lit H2 g2 (.inl (by lia))
      · split
        · exact lit H2 g2 (.inr (.inl (by lia)))
        · split
          · intro p hp
            have b0:=same_upd (o:=.tup [V.str (S [116,101,120,116]),V.str (S [100,111,110,101])]) hp
            refine⟨_,.inr (SqT.of upd_same),rfl,rfl,?_⟩
            by_cases h:kind=kText\/kind=kDone
            · have hin:inV (V.str (S kind)) [V.str (S [116,101,120,116]),V.str (S [100,111,110,101])]=true:=by
                rcases h with rfl | rfl<;>decide
              rw [hin,if_neg (by decide)]
              refine hN _ _ ⟨rfl,g2.trans b0,?_⟩
              rintro(z | z | z)
              · lia
              · lia
              · rcases h with h | h
                · exact z.2.1 h
                · exact z.2.2 h
            · have hin:inV (V.str (S kind)) [V.str (S [116,101,120,116]),V.str (S [100,111,110,101])]=false:=by
                have k1:¬ S kind=S [116,101,120,116]:=fun z=>h (.inl (S_inj.mp z))
                have k2:¬ S kind=S [100,111,110,101]:=fun z=>h (.inr (S_inj.mp z))
                have k3:¬ S [116,101,120,116]=S kind:=fun z=>k1 z.symm
                have k4:¬ S [100,111,110,101]=S kind:=fun z=>k2 z.symm
                simp [inV,eqV,k1,k2,k3,k4]
              rw [hin,if_pos (by decide)]
              exact lit _ (g2.trans b0) (.inr (.inr ⟨by lia,fun z=>h (.inl z),fun z=>h (.inr z)⟩))
          · exact hN _ _ ⟨rfl,g2,by lia⟩)
    rintro σ3 H3 ⟨rfl,g3,n2⟩
    obtain⟨d',rfl⟩:∃ d',d=d' + 1:=⟨d - 1,by lia⟩
    have es:someM (d' + 1) c kind=someF false (goodM d') c kind:=rfl
    refine seq_gen1 (fun σ' H'=>σ' = smS c kind (d' + 1) pa/\Same H H'/\¬ 4<mixM c 1 8) ?_ (fun N hN=>by
      unfold smS
      walk_at "rd"
      split
      · rename_i h4
        refine⟨g3 _ _ hpa,?_,fun r H' g hr=>?_⟩
        · by_cases e:kind=kText
          · exact .inl e
          · exact .inr (Classical.byContradiction fun e2=>n2 (.inr (.inr ⟨by lia,e,e2⟩)))
        have e2:someF false (goodM d') c kind=compF (goodM d') c kind:=by
          unfold someF
          rw [if_neg n1,if_neg (by rintro(z | z | z);exact n2 (.inl z);cases z;exact n2 (.inr (.inr z))),if_pos (by lia)]
        rw [es,e2] at q
        exact q r H' (g3.trans g) hr
      · rename_i h4
        exact hN _ _ ⟨rfl,g3,by lia⟩)
    rintro σ4 H4 ⟨rfl,g4,n3⟩
    unfold smS
    walk_at "rd"
    intro H5 g5
    refine⟨by lia,(g4.trans g5) _ _ hpa,hkn,fun r H6 g6 ⟨pr,fa,da,xs,hr,hpr,hfa,hda,hxl,hsz,hs,hho,hft⟩=>?_⟩
    subst hr
    refine⟨pr,rfl,_,SqT.of hpr,rfl,_,_,rfl,_,_,rfl,rfl,?_⟩
    have hsz':szPs (goodM d' (partM c 6) kind)<=gL d':=hsz
    have hfa':IsDt H6 (.ls (dPs (goodM d' (partM c 6) kind))) (.ref fa):=hfa
    have G6:=g4.trans (g5.trans g6)
    have e0:someF false (goodM d') c kind=if mixM c 1 8=2 then [.each (nameM c) (goodM d' (partM c 6) kind)] else if mixM c 1 8=3 then [.ife (nameM c) (goodM d' (partM c 6) kind) (goodM d' (partM c 7) kind)] else [.seat (wordM c) [97] (if wordM c=[100,114,97,119] then [] else [98]) (goodM d' (partM c 6) kind)]:=by
      show someF _ _ c kind=_
      unfold someF
      rw [if_neg n1,if_neg (by rintro(z | z | z);exact n2 (.inl z);cases z;exact n2 (.inr (.inr z))),if_neg n3]
    rw [es,e0] at q
    by_cases h2:mixM c 1 8=2
    · rw [if_pos (by lia)]
      rw [if_pos h2] at q
      intro q1 z1 q2 z2 q3 z3
      have b1:=same_upd (o:=.tup [tx [101,97,99,104],tx (nameM c),.ref fa]) z1
      have b2:=same_upd (o:=.lst [V.ref q1]) z2
      have b3:=same_upd (o:=.tup [V.ref q2,V.ref da]) z3
      have B:=b1.trans (b2.trans b3)
      exact q _ _ (G6.trans B) ⟨q3,q2,da,xs,rfl,upd_same,⟨q2,_,rfl,b3 _ _ upd_same,dt_each ((b2.trans b3) _ _ upd_same) (hfa'.mono B)⟩,B _ _ hda,by show _<=3+2 * gL d';lia,by simp only [szPs,szP];show _<=3+2 * gL d';lia,hs,hho.mono (TpS.of B),fit_each hft⟩
    · rw [if_neg (by lia)]
      rw [if_neg h2] at q
      by_cases h3:mixM c 1 8=3
      · rw [if_pos (by lia)]
        rw [if_pos h3] at q
        intro H7 g7
        refine⟨by lia,(G6.trans g7) _ _ hpa,hkn,fun r H8 g8 ⟨pr2,fb,db,ys,hr,hpr2,hfb,hdb,hyl,hsz2,hs2,hho2,hft2⟩=>?_⟩
        subst hr
        have hsz2':szPs (goodM d' (partM c 7) kind)<=gL d':=hsz2
        have hfb':IsDt H8 (.ls (dPs (goodM d' (partM c 7) kind))) (.ref fb):=hfb
        have g78:=g7.trans g8
        have hgd:gL (d' + 1)=3 * (3+2 * gL d')+10:=rfl
        refine⟨pr2,rfl,_,SqT.of hpr2,_,rfl,fun q1 z1 q2 z2=>?_⟩
        have b1:=same_upd (o:=.tup [tx [105,102],tx (nameM c),.ref fa,.ref fb]) z1
        have b2:=same_upd (o:=.lst [V.ref q1]) z2
        have B2:=b1.trans b2
        refine⟨pr2,rfl,_,SqT.of (B2 _ _ hpr2),_,rfl,da,rfl,db,rfl,xs,(g78.trans B2) _ _ hda,ys,B2 _ _ hdb,by lia,fun q3 z3 q4 z4=>?_⟩
        have b3:=same_upd (o:=.lst (xs++ys)) z3
        have b4:=same_upd (o:=.tup [V.ref q2,V.ref q3]) z4
        have B:=B2.trans (b3.trans b4)
        exact q _ _ (G6.trans (g78.trans B)) ⟨q4,q2,q3,xs++ys,rfl,upd_same,⟨q2,_,rfl,(b3.trans b4) _ _ upd_same,dt_ife ((b2.trans (b3.trans b4)) _ _ upd_same) (hfa'.mono (g78.trans B)) (hfb'.mono B)⟩,b4 _ _ upd_same,by rw [List.length_append];show _<=3+2 * gL d';lia,by simp only [szPs,szP];show _<=3+2 * gL d';lia,hs++hs2,(hho.mono (TpS.of (g78.trans B))).app (hho2.mono (TpS.of B)),fit_ife hft hft2⟩
      · rw [if_neg (by lia)]
        rw [if_neg h3] at q
        intro q0 z0 H7 g7
        have b0:=same_upd (o:=.lst [V.str (S [98,108,111,99,107]),V.str (S [101,108,100,101,114]),V.str (S [100,114,97,119])]) z0
        have hm3:mixM c 3 3<3:=by have:=mix_lt (c:=c) (k:=3) (m:=3) (by decide);lia
        refine⟨_,SqL.of (g7 _ _ upd_same),V.str (S (wordM c)),?_,fun q1 z1=>⟨rfl,_,SqL.of upd_same,V.str (S (if wordM c=[100,114,97,119] then [] else [98])),?_,fun q2 z2 q3 z3 q4 z4=>?_⟩⟩
        · unfold wordM
          have:mixM c 3 3=0\/mixM c 3 3=1\/mixM c 3 3=2:=by lia
          rcases this with e | e | e<;>rw [e]<;>rfl
        · by_cases hw:wordM c=[100,114,97,119]
          · rw [if_pos (by rw [hw]),if_pos hw];rfl
          · rw [if_neg (show ¬ V.str (S (wordM c))=V.str (S [100,114,97,119]) from tx_ne hw),if_neg hw];rfl
        · have b1:=same_upd (o:=.lst [V.str (S [98]),V.str (S [])]) z1
          have b2:=same_upd (o:=.tup [tx [115,101,97,116],tx (wordM c),tx [97],tx (if wordM c=[100,114,97,119] then [] else [98]),.ref fa]) z2
          have b3:=same_upd (o:=.lst [V.ref q2]) z3
          have b4:=same_upd (o:=.tup [V.ref q3,V.ref da]) z4
          have B:=b0.trans (g7.trans (b1.trans (b2.trans (b3.trans b4))))
          exact q _ _ (G6.trans B) ⟨q4,q3,da,xs,rfl,upd_same,⟨q3,_,rfl,b4 _ _ upd_same,dt_seat ((b3.trans b4) _ _ upd_same) (hfa'.mono B)⟩,B _ _ hda,by show _<=3+2 * gL d';lia,by simp only [szPs,szP];show _<=3+2 * gL d';lia,hs,hho.mono (TpS.of B),fit_seat hft⟩
def goI (d:Nat)(c:Int)(kind:Tx)(pa:Addr)(H:Hp)(i:Nat)(σ:L2.St)(H':Hp):Prop:=∃ (fa da:Addr) (vs xs:List V) (o6 o7 o8:Option V),σ=[some (V.int c),some (V.str (S kind)),some (V.int d),some (V.ref pa),some (V.ref fa),some (V.ref da),o6,o7,o8]/\Same H H'/\H' fa=some (.lst vs)/\IsDs H' (dPs (accM d c kind i)) vs/\H' da=some (.lst xs)/\xs.length<=i * sBd d/\szPs (accM d c kind i)<=i * sBd d/\∃ hs,HoA H' xs hs/\Fit d kind (accM d c kind i) hs
theorem ok_law_good {k d:Nat}(hk:10<=k)(hd:gL d<=100000)(T:Txt w K mg t)(D:Df K mg "_law_good" s__law_good ps__law_good)(F__law_mix:OkF P w K mg base 1 "_law_mix" ps__law_mix sp__law_mix)(F__law_part:OkF P w K mg base 2 "_law_part" ps__law_part sp__law_part)(F__law_some:OkF P w K mg base k "_law_some" ps__law_some (sp__law_some d)):OkF P w K mg base (k+1) "_law_good" ps__law_good (sp__law_good d):=by
  refine D.ok sc__law_good (fun vs H Q E h=>?_) (fun f cdv A outer s H vs Q E hr h=>?_)
  · obtain⟨_,_,_,rfl,_⟩:=h;rfl
  · obtain⟨c,kind,pa,rfl,hpa,hkn,q⟩:=h
    refine⟨_,((qss_cons (qs_set (i:=4) sc__law_good.nd (by rfl) (Or.inl (by rfl)) (qe_lst qa_nil))
      (qss_cons (qs_set (i:=5) sc__law_good.nd (by rfl) (Or.inl (by rfl)) (qe_lst qa_nil))
      (qss_cons (qs_for PassesOwn.never (by rfl) (qi_range1 (by rfl) T.z_range (qa_cons (qe_callF F__law_mix hr (by lia) (qa_cons (qv 0) (qa_cons qe_int (qa_cons qe_int qa_nil)))) qa_nil)) (qg_name (i:=6) sc__law_good.nd (by rfl) (Or.inl (by rfl))) (qss_cons (qs_for PassesOwn.never (by rfl) (qi_listK (K:=K) (by rfl) (qv 3)) (qg_name (i:=7) sc__law_good.nd (by rfl) (Or.inl (by rfl))) (qss_cons qs_never
      (qss_one qs_never)))
      (qss_cons (qs_set (i:=8) sc__law_good.nd (by rfl) (Or.inl (by rfl)) (qe_callF F__law_some hr (by lia) (qa_cons (qe_callF F__law_part hr (by lia) (qa_cons (qv 0) (qa_cons (qv 6) qa_nil))) (qa_cons (qv 1) (qa_cons (qv 2) (qa_cons (qv 3) qa_nil))))))
      (qss_cons (qs_set (i:=4) sc__law_good.nd (by rfl) (Or.inl (by rfl)) (qe_op op_cat (qv 4) (qe_ix (ix_tupK (K:=K) (by rfl)) (qv 8) qe_int (fun _ _=>(by rfl)))))
      (qss_one (qs_set (i:=5) sc__law_good.nd (by rfl) (Or.inl (by rfl)) (qe_op op_cat (qv 5) (qe_ix (ix_tupK (K:=K) (by rfl)) (qv 8) qe_int (fun _ _=>(by rfl))))))))))
      (qss_one (qs_ret (qe_tup (qa_cons (qv 4) (qa_cons (qv 5) qa_nil))))))))).h,?_⟩
    walk_at "rd"
    intro p hp p1 hp1 H1 g1
    have hm4:mixM c 5 4<4:=by have:=mix_lt (c:=c) (k:=5) (m:=4) (by decide);lia
    have a1:=same_upd (o:=.lst []) hp
    have a2:=same_upd (o:=.lst []) hp1
    have sbl:=sBd_le d
    refine⟨by lia,by lia,fb_range (goI d c kind pa H) ⟨p,p1,[],[],_,_,_,rfl,a1.trans (a2.trans g1),(a2.trans g1) _ _ upd_same,rfl,g1 _ _ upd_same,by simp,by simp [accM,szPs],[],.nil,fun op _=>.nil⟩ ?_ ?_⟩
    · rintro i σ H2 hi ⟨fa,da,vs,xs,o6,o7,o8,rfl,g2,hfa,hds,hda,hxl,hsz,hs,hho,hft⟩
      have hi:i<3:=by lia
      have hpa2:=g2 _ _ hpa
      walk_at "rd"
      refine⟨⟨_,SqL.of hpa2⟩,fb_list (K:=K) (a:=pa) (xs:=[]) (fun _ σ H'=>σ=[some (V.int c),some (V.str (S kind)),some (V.int d),some (V.ref pa),some (V.ref fa),some (V.ref da),some (V.int i),o7,o8]/\H' = H2) ⟨rfl,rfl⟩ (fun j σ H' _ hI=>by rw [hI.2];exact SqL.of hpa2) (fun j x σ H' hj=>by simp at hj) ?_⟩
      rintro σ H' ⟨rfl,rfl⟩
      walk_at "rd"
      refine⟨by lia,by lia,fun H3 g3=>⟨g3 _ _ hpa2,hkn,fun r H4 g4 ⟨pr,fb,db,ys,hr,hpr,⟨_,us,e,hfb,hdu⟩,hdb,hyl,hsz2,hs2,hho2,hft2⟩=>?_⟩⟩
      subst hr
      cases e
      have g34:=g3.trans g4
      have hyl:ys.length<=sBd d:=hyl
      have hsz2:szPs (someM d (partM c i) kind)<=sBd d:=hsz2
      have l1:=hds.len
      rw [dPs_len] at l1
      have l2:=szS_len (its (accM d c kind i))
      rw [its_len,szS_map] at l2
      have l3:(someM d (partM c i) kind).length=us.length:=by have:=hdu.len;rw [dPs_len] at this;exact this
      have l4:=szS_len (its (someM d (partM c i) kind))
      rw [its_len,szS_map] at l4
      have hb:i * sBd d<=2 * sBd d:=Nat.mul_le_mul_right _ (by lia)
      refine⟨pr,rfl,_,SqT.of hpr,_,rfl,fb,rfl,vs,g34 _ _ hfa,us,hfb,by lia,fun q1 h1=>?_⟩
      have b1:=same_upd (o:=.lst (vs++us)) h1
      refine⟨pr,rfl,_,SqT.of (b1 _ _ hpr),_,rfl,db,rfl,xs,(g34.trans b1) _ _ hda,ys,b1 _ _ hdb,by lia,fun q2 h2=>?_⟩
      have b2:=same_upd (o:=.lst (xs++ys)) h2
      have B2:=b1.trans b2
      refine⟨q1,q2,vs++us,xs++ys,_,_,_,rfl,g2.trans (g34.trans B2),b2 _ _ upd_same,?_,upd_same,?_,?_,hs++hs2,(hho.mono (TpS.of (g34.trans B2))).app (hho2.mono (TpS.of B2)),by rw [accM_succ];exact fit_app hft hft2⟩
      · rw [accM_succ,dPs_app]
        exact(hds.mono (g34.trans B2)).app (hdu.mono B2)
      · rw [List.length_append,Nat.succ_mul];lia
      · rw [accM_succ,szPs_app,Nat.succ_mul];lia
    · rintro σ H2 ⟨fa,da,vs,xs,o6,o7,o8,rfl,g2,hfa,hds,hda,hxl,hsz,hs,hho,hft⟩
      walk_at "rd"
      intro p3 hp3
      have a3:=same_upd (o:=.tup [V.ref fa,V.ref da]) hp3
      have eM:((mixM c 5 4:Nat):Int).toNat=mixM c 5 4:=Int.toNat_natCast _
      rw [eM] at hds hxl hsz hft
      rw [goodM_acc] at q
      have hb:mixM c 5 4 * sBd d<=3 * sBd d:=Nat.mul_le_mul_right _ (by lia)
      exact q _ _ (g2.trans a3) ⟨p3,fa,da,xs,rfl,upd_same,⟨fa,vs,rfl,a3 _ _ hfa,hds.mono a3⟩,a3 _ _ hda,by lia,by lia,hs,hho.mono (TpS.of a3),by exact hft⟩
theorem ok_law_goods (T:Txt w K mg t)(D:Df K mg "_law_good" s__law_good ps__law_good)(D__law_within:Df K mg "_law_within" s__law_within ps__law_within)(D__law_compound:Df K mg "_law_compound" s__law_compound ps__law_compound)(D__law_some:Df K mg "_law_some" s__law_some ps__law_some)(F__law_mix:OkF P w K mg base 1 "_law_mix" ps__law_mix sp__law_mix)(F__law_part:OkF P w K mg base 2 "_law_part" ps__law_part sp__law_part):OkF P w K mg base 40 "_law_good" ps__law_good (sp__law_good 3):=by
  have g_:OkF P w K mg base 10 "_law_good" ps__law_good (fun _ _ _ _=>False):=D.ok (k:=9) sc__law_good (fun _ _ _ _ h=>h.elim) (fun _ _ _ _ _ _ _ _ _ _ h=>h.elim)
  have c_:OkF P w K mg base 10 "_law_compound" ps__law_compound (fun _ _ _ _=>False):=D__law_compound.ok (k:=9) sc__law_compound (fun _ _ _ _ h=>h.elim) (fun _ _ _ _ _ _ _ _ _ _ h=>h.elim)
  have s0:=ok_law_some (k:=10) (d:=0) (by decide) (by decide) T D__law_some F__law_mix F__law_part (c_.imp fun _ _ _ _ ⟨d',e,_⟩=>by lia) (g_.imp fun _ _ _ _ ⟨d',e,_⟩=>by lia)
  have g0:=ok_law_good (k:=11) (by decide) (by decide) T D F__law_mix F__law_part s0
  have w0:=ok_law_within (k:=12) (by decide) (by decide) T D__law_within F__law_part g0
  have c0:=ok_law_compound (k:=13) (by decide) (by decide) T D__law_compound F__law_mix F__law_part w0 (g0.mono (by decide))
  have s1:=ok_law_some (k:=14) (d:=1) (by decide) (by decide) T D__law_some F__law_mix F__law_part (c0.imp fun _ _ _ _ ⟨d',e,h⟩=>by cases e;exact h) ((g0.mono (by decide)).imp fun _ _ _ _ ⟨d',e,h⟩=>by cases e;exact h)
  have g1:=ok_law_good (k:=15) (by decide) (by decide) T D F__law_mix F__law_part s1
  have w1:=ok_law_within (k:=16) (by decide) (by decide) T D__law_within F__law_part g1
  have c1:=ok_law_compound (k:=17) (by decide) (by decide) T D__law_compound F__law_mix F__law_part w1 (g1.mono (by decide))
  have s2:=ok_law_some (k:=18) (d:=2) (by decide) (by decide) T D__law_some F__law_mix F__law_part (c1.imp fun _ _ _ _ ⟨d',e,h⟩=>by cases e;exact h) ((g1.mono (by decide)).imp fun _ _ _ _ ⟨d',e,h⟩=>by cases e;exact h)
  have g2:=ok_law_good (k:=19) (by decide) (by decide) T D F__law_mix F__law_part s2
  have w2:=ok_law_within (k:=20) (by decide) (by decide) T D__law_within F__law_part g2
  have c2:=ok_law_compound (k:=21) (by decide) (by decide) T D__law_compound F__law_mix F__law_part w2 (g2.mono (by decide))
  have s3:=ok_law_some (k:=22) (d:=3) (by decide) (by decide) T D__law_some F__law_mix F__law_part (c2.imp fun _ _ _ _ ⟨d',e,h⟩=>by cases e;exact h) ((g2.mono (by decide)).imp fun _ _ _ _ ⟨d',e,h⟩=>by cases e;exact h)
  exact(ok_law_good (k:=23) (by decide) (by decide) T D F__law_mix F__law_part s3).mono (by decide)
end
section
variable {P:Program} {w:World} {K:PySem.W.Frag} {mg:Str->Option Value} {base:Heap} {t:Ads}
theorem ok_Spot___init__ (T:Txt w K mg t)(D:Dc K mg t.Spot "Spot" "Spot.__init__" s_Spot___init__ ps_Spot___init__):OkC P w K mg base 1 t.Spot "Spot" ps_Spot___init__ (sp_Spot___init__ t):=by
  refine D.ok sc_Spot___init__ (fun vs H Q E h=>?_) (fun f cdv A outer s H vs Q E hr h=>?_)
  · obtain⟨_,_,_,_,_,rfl,_⟩:=h;rfl
  · obtain⟨a,dx,sv,ta,n,rfl,ha,q⟩:=h
    refine⟨_,((qss_cons (qs_fld (K:=K) (by rfl) (qv 0) (qv 1))
      (qss_cons (qs_fld (K:=K) (by rfl) (qv 0) (qv 2))
      (qss_one (qs_fld (K:=K) (by rfl) (qv 0) (qv 3)))))).h,?_⟩
    walk_at "rd"
    refine⟨_,_,_,ha,T.l_Spot,T.a_state,by decide,_,_,_,upd_same,T.l_Spot,T.a_turns,by simp [putF],_,_,_,upd_same,T.l_Spot,T.a_many,by simp only [putF];split<;>simp,?_⟩
    rw [upd_upd,upd_upd]
    exact q
theorem ok_Spot_met (T:Txt w K mg t)(D:Dm K t.Spot "met" "Spot.met" s_Spot_met ps_Spot_met)(F_Spot___init__:OkC P w K mg base 1 t.Spot "Spot" ps_Spot___init__ (sp_Spot___init__ t)):OkM P w K mg base 3 t.Spot "met" ps_Spot_met (sp_Spot_met t):=by
  refine D.ok sc_Spot_met (fun vs H Q E h=>?_) (fun f cdv A outer s H vs Q E hr h=>?_)
  · obtain⟨_,_,_,_,_,_,rfl,_⟩:=h;rfl
  · obtain⟨a,dx,ta,sv0,sv,n,rfl,e1,q⟩:=h
    refine⟨_,((qss_one (qs_ret (qe_makeN F_Spot___init__ hr (by decide) (qa_cons (qv 1) (qa_cons (qe_fld (K:=K) (by rfl) (qv 0)) (qa_cons (qe_op op_add (qe_fld (K:=K) (by rfl) (qv 0)) qe_int) qa_nil))))))).h,?_⟩
    walk_at "rd"
    refine⟨_,_,_,e1,T.l_Spot,T.a_turns,.ref ta,rfl,_,_,_,e1,T.l_Spot,T.a_many,_,rfl,_,rfl,fun x dx' hx hd hne=>⟨_,ta,rfl,n+1,by lia,upd_same,?_⟩⟩
    exact q x _ _ (made_is hx hd (.own x) []) hx upd_same
theorem ok_Spot_turned (T:Txt w K mg t)(D:Dm K t.Spot "turned" "Spot.turned" s_Spot_turned ps_Spot_turned)(F_Spot___init__:OkC P w K mg base 1 t.Spot "Spot" ps_Spot___init__ (sp_Spot___init__ t)):OkM P w K mg base 3 t.Spot "turned" ps_Spot_turned (sp_Spot_turned t):=by
  refine D.ok sc_Spot_turned (fun vs H Q E h=>?_) (fun f cdv A outer s H vs Q E hr h=>?_)
  · obtain⟨_,_,_,_,_,_,_,rfl,_⟩:=h;rfl
  · obtain⟨a,dx,ta,sv0,Tn,n,b,rfl,e1,e3,hn,q⟩:=h
    refine⟨_,((qss_one (qs_ret (qe_makeN F_Spot___init__ hr (by decide) (qa_cons (qe_fld (K:=K) (by rfl) (qv 0)) (qa_cons (qe_op op_cat (qe_fld (K:=K) (by rfl) (qv 0)) (qe_lst (qa_cons (qv 1) qa_nil))) (qa_cons (qe_fld (K:=K) (by rfl) (qv 0)) qa_nil))))))).h,?_⟩
    walk_at "rd"
    refine⟨_,_,_,e1,T.l_Spot,T.a_state,sv0,rfl,_,_,_,e1,T.l_Spot,T.a_turns,.ref ta,rfl,fun p hp=>⟨ta,rfl,_,same_upd hp _ _ e3,_,upd_same,by rw [List.length_map];simp;lia,fun p1 hp1=>?_⟩⟩
    have k0:=same_upd (o:=.lst [V.int b]) hp
    have k1:=same_upd (o:=.lst ((Tn.map fun(t:Nat)=>V.int t)++[V.int b])) hp1
    have k01:=k0.trans k1
    refine⟨_,_,_,k01 _ _ e1,T.l_Spot,T.a_many,_,rfl,fun x dx' hx hd hne=>⟨_,n,rfl,upd_same,?_⟩⟩
    have g:=made_is (t:=t) (ta:=p1) (sv:=sv0) (n:=n) hx hd (.own x) []
    refine q x _ p1 _ (k01.trans g) (none_of k01 hx) (none_of k0 hp1) upd_same ?_
    refine g _ _ ?_
    rw [upd_same,List.map_append]
    rfl
theorem ok_Looking___init__ (T:Txt w K mg t)(D:Dc K mg t.Looking "Looking" "Looking.__init__" s_Looking___init__ ps_Looking___init__):OkC P w K mg base 1 t.Looking "Looking" ps_Looking___init__ (sp_Looking___init__ t):=by
  refine D.ok sc_Looking___init__ (fun vs H Q E h=>?_) (fun f cdv A outer s H vs Q E hr h=>?_)
  · obtain⟨_,_,_,rfl,_⟩:=h;rfl
  · obtain⟨a,dx,kv,rfl,ha,q⟩:=h
    refine⟨_,((qss_cons (qs_fld (K:=K) (by rfl) (qv 0) (qv 1))
      (qss_cons (qs_fld (K:=K) (by rfl) (qv 0) (qe_lst qa_nil))
      (qss_one (qs_fld (K:=K) (by rfl) (qv 0) (qe_lst qa_nil)))))).h,?_⟩
    walk_at "rd"
    refine⟨_,_,_,ha,T.l_Looking,T.a_kept,by decide,fun p hp=>?_⟩
    have hpa:p≠a:=fun z=>by subst z;rw [upd_same] at hp;cases hp
    refine⟨_,_,_,by rw [upd_ne hpa.symm];exact upd_same,T.l_Looking,T.a_holes,by simp [putF],fun p1 hp1=>?_⟩
    have hp1a:p1≠a:=fun z=>by subst z;rw [upd_same] at hp1;cases hp1
    have hp1p:p1≠p:=fun z=>by subst z;rw [upd_ne hpa,upd_same] at hp1;cases hp1
    refine⟨_,_,_,by rw [upd_ne hp1a.symm];exact upd_same,T.l_Looking,T.a_pairs,by simp only [putF];split<;>simp,?_⟩
    rw [upd_ne hpa] at hp
    rw [upd_ne hp1a,upd_ne hp1p,upd_ne hp1a] at hp1
    refine q p p1 _ upd_same (fun b o hb e=>?_) ?_ ?_ hp1p.symm hp hp1
    · have b1:b≠p1:=fun z=>by subst z;rw [hp1] at e;cases e
      have b2:b≠p:=fun z=>by subst z;rw [hp] at e;cases e
      rw [upd_ne hb,upd_ne b1,upd_ne hb,upd_ne b2,upd_ne hb]
      exact e
    · rw [upd_ne hpa,upd_ne hp1p.symm,upd_ne hpa,upd_same]
    · rw [upd_ne hp1a,upd_same]
end
section
variable {P:Program} {w:World} {K:PySem.W.Frag} {mg:Str->Option Value} {base:Heap} {t:Ads}
theorem ok_look_literal (T:Txt w K mg t)(D:Dm K t.Looking "look_literal" "Looking.look_literal" s_Looking_look_literal ps_Looking_look_literal)(F_run:OkX P w K mg base 8 "run" ps_run (sp_run t))(F_Spot_met:OkM P w K mg base 3 t.Spot "met" ps_Spot_met (sp_Spot_met t)):OkM P w K mg base 12 t.Looking "look_literal" ps_Looking_look_literal (sp_Looking_look_literal t):=by
  refine D.ok sc_Looking_look_literal (fun vs H Q E h=>?_) (fun f cdv A outer s H vs Q E hr h=>?_)
  · obtain⟨_,_,_,_,_,_,_,_,_,_,_,rfl,_⟩:=h;rfl
  · obtain⟨lo,ha,sp,pv,ps,s1,z,hs,Tn,n,hv,rfl,⟨x,rfl⟩,hlo,⟨p,ep,hp⟩,⟨dx,sv,ta,e1,e2,e3⟩,hha,b1,b2,b3,hk,q⟩:=h
    refine⟨_,((qss_cons (qs_tryN (fun pn=>(qss_one (qs_set (i:=3) sc_Looking_look_literal.nd (by rfl) (Or.inl (by rfl)) (qe_callN F_run hr (by decide) (qa_cons (qe_fld (K:=K) (by rfl) (qv 2)) (qa_cons (qe_ix (ix_tupK (K:=K) (by rfl)) (qv 1) qe_int (fun _ _=>(by rfl))) qa_nil)))))))
      (qss_one (qs_ret (qe_methN F_Spot_met hr (by decide) (qv 2) (qa_cons (qe_ix (ix_tupK (K:=K) (by rfl)) (qv 3) qe_int (fun _ _=>(by rfl))) qa_nil)))))).h,?_⟩
    walk_at "rd"
    cases ep
    obtain⟨pa,vs,rfl,hpa,rfl⟩:=pcF hp
    cases hk with
    | lit r1 r2 r3 r4=>
      cases r4
      have e1':=hide_le _ _ e1
      refine⟨_,_,_,e1',T.l_Spot,T.a_state,sv,rfl,pa,rfl,_,SqT.of (hide_le _ _ hpa),_,atI_1 _ _ _,s1,x,rfl,e2.mono hide_le,r2,r3,fun s' es e v H1 g1 hv1=>?_,fun b e=>by rw [r1] at e;cases e⟩
      rw [r1] at e
      cases e
      obtain⟨p4,sa4,ea4,rfl,f1,f2,_⟩:=hv1
      refine⟨dx,_,g1 _ _ e1',rfl,p4,rfl,_,SqT.of f1,sa4,atI_0 _ _,dx,ta,sv,n,g1 _ _ e1',fun r dx' H2 g2 hr er=>?_⟩
      have g12:=g1.trans g2
      have hha1:=g1 _ _ hha
      have hha2:=g12 _ _ hha
      refine q r Tn (n+1) [] H2 (Gr.same hha g12) .nil (spV_hid (ne_new hha1 hr) er ?_ (hide_mono g12 _ _ e3)) (by lia) (by simp only [szPs,szP];lia)
      exact st_hid hha2 (f2.mono g2)
theorem ok_look_hole (T:Txt w K mg t)(D:Dm K t.Looking "look_hole" "Looking.look_hole" s_Looking_look_hole ps_Looking_look_hole)(F_place_of:OkF P w K mg base 1 "place_of" ps_place_of sp_place_of)(F_Spot_met:OkM P w K mg base 3 t.Spot "met" ps_Spot_met (sp_Spot_met t)):OkM P w K mg base 12 t.Looking "look_hole" ps_Looking_look_hole (sp_Looking_look_hole t):=by
  refine D.ok sc_Looking_look_hole (fun vs H Q E h=>?_) (fun f cdv A outer s H vs Q E hr h=>?_)
  · obtain⟨_,_,_,_,_,_,_,_,_,_,_,rfl,_⟩:=h;rfl
  · obtain⟨lo,ha,sp,pv,ps,s1,z,hs,Tn,n,hv,rfl,⟨x,rfl⟩,⟨ldx,lpa,hlo⟩,⟨p,ep,hp⟩,⟨dx,sv,ta,e1,e2,e3⟩,hha,b1,b2,b3,hk,q⟩:=h
    refine⟨_,((qss_cons (qs_set (i:=3) sc_Looking_look_hole.nd (by rfl) (Or.inl (by rfl)) (qe_callF F_place_of hr (by decide) (qa_cons (qe_fld (K:=K) (by rfl) (qv 2)) qa_nil)))
      (qss_cons (qs_if (qt_cmpR op_isN (qv 3) qe_non (nomark _)) (qss_one qs_never) qss_nil)
      (qss_cons (qs_expr (qe_bmK (K:=K) (by rfl) PySem.F.plainAttrs_list PySem.F.slot_list_append PySem.F.type_list_append mt_append (qe_fld (K:=K) (by rfl) (qv 0)) (qa_cons (qe_tup (qa_cons (qe_ix (ix_tupK (K:=K) (by rfl)) (qv 1) qe_int (fun _ _=>(by rfl))) (qa_cons (qv 3) qa_nil))) qa_nil)))
      (qss_one (qs_ret (qe_methN F_Spot_met hr (by decide) (qv 2) (qa_cons (qe_fld (K:=K) (by rfl) (qv 2)) qa_nil)))))))).h,?_⟩
    walk_at "rd"
    cases ep
    obtain⟨pa,vs,rfl,hpa,rfl⟩:=pcF hp
    cases hk with
    | @hole _ _ _ kd _ _ r1 r4=>
      cases r4
      have e1':=hide_le _ _ e1
      simp only [szPs,szP] at b1 b2 b3
      refine⟨_,_,_,e1',T.l_Spot,T.a_state,sv,rfl,s1,e2.mono hide_le,fun H1 g1=>?_⟩
      rw [r1]
      rw [if_neg (by intro z;cases z)]
      have hha1:=g1 _ _ hha
      refine⟨_,_,_,g1 _ _ (hide_le _ _ hlo),T.l_Looking,T.a_holes,.ref ha,rfl,.inl ⟨rfl,_,SqL.of hha1⟩,pa,rfl,_,SqT.of (g1 _ _ (hide_le _ _ hpa)),_,atI_1 _ _ _,fun p3 h3=>⟨ha,rfl,hv,?_⟩⟩
      have k3:=same_upd (o:=.tup [tx x,plV (some kd)]) h3
      have hp3:=ne_new hha1 h3
      have hha3:=k3 _ _ hha1
      refine⟨hha3,by lia,?_⟩
      have hG:Gr ha H (upd (upd H1 p3 (.tup [tx x,plV (some kd)])) ha (.lst (hv++[.ref p3]))) hv [.ref p3]:=⟨by rw [hide_upd];exact hide_mono (g1.trans k3),upd_same⟩
      have hsp4:=hide_le _ _ (hG.1 _ _ e1)
      refine⟨dx,_,hsp4,rfl,_,_,_,hsp4,T.l_Spot,T.a_state,sv,rfl,dx,ta,sv,n,hsp4,fun r dx' H2 g2 hr er=>?_⟩
      have G2:=hG.trans (Gr.same hG.2 g2)
      refine q r Tn (n+1) [.ref p3] H2 (G2.cast (by rw [List.append_nil])) (.cons ⟨p3,rfl,?_⟩ .nil) (spV_hid (ne_new hG.2 hr) er ((e2.mono hG.1).mono (hide_mono g2)) (G2.1 _ _ e3)) (by lia) (by simp only [szPs,szP];lia)
      rw [hide_ne hp3]
      exact g2 _ _ (by rw [upd_ne hp3];exact upd_same)
end
section
variable {P:Program} {w:World} {K:PySem.W.Frag} {mg:Str->Option Value} {base:Heap} {t:Ads}
theorem ok_look_each {k d:Nat}(hk10:20<=k)(T:Txt w K mg t)(D:Dm K t.Looking "look_each" "Looking.look_each" s_Looking_look_each ps_Looking_look_each)(F_Spot_turned:OkM P w K mg base 3 t.Spot "turned" ps_Spot_turned (sp_Spot_turned t))(F_Looking_look_all:OkM P w K mg base k t.Looking "look_all" ps_Looking_look_all (sp_Looking_look_all t d)):OkM P w K mg base (k+1) t.Looking "look_each" ps_Looking_look_each (sp_Looking_look_each t (d+1)):=by
  refine D.ok sc_Looking_look_each (fun vs H Q E h=>?_) (fun f cdv A outer s H vs Q E hr h=>?_)
  · obtain⟨_,_,_,_,_,_,_,_,_,_,_,rfl,_⟩:=h;rfl
  · obtain⟨lo,ha,sp,pv,ps,s1,z,hs,Tn,n,hv,rfl,⟨nm,b,rfl,hdp⟩,hlo,⟨p,ep,hp⟩,hsp,hha,b1,b2,b3,hk,q⟩:=h
    refine⟨_,((qss_cons (qs_set (i:=3) sc_Looking_look_each.nd (by rfl) (Or.inl (by rfl)) (qe_methN F_Spot_turned hr (by lia) (qv 2) (qa_cons qe_int qa_nil)))
      (qss_cons (qs_set (i:=4) sc_Looking_look_each.nd (by rfl) (Or.inl (by rfl)) (qe_methN F_Looking_look_all hr (by lia) (qv 0) (qa_cons (qe_ix (ix_tupK (K:=K) (by rfl)) (qv 1) qe_int (fun _ _=>(by rfl))) (qa_cons (qe_methN F_Spot_turned hr (by lia) (qv 2) (qa_cons qe_int qa_nil)) qa_nil))))
      (qss_cons (qs_if (qt_cmpR (op_neD (hu64 hr)) (qe_fld (K:=K) (by rfl) (qv 4)) (qe_fld (K:=K) (by rfl) (qv 3)) (nomark _)) (qss_one qs_never) qss_nil)
      (qss_one (qs_ret (qv 3))))))).h,?_⟩
    walk_at "rd"
    cases ep
    obtain⟨pa,vs,rfl,hpa,wv,rfl,hw⟩:=pcF hp
    cases hk with
    | each k1 k2=>
      cases k2
      rw [List.append_nil] at q
      simp only [szPs,szP] at b1 b2 b3 q
      obtain⟨dx,sv,ta,e1,e2,e3⟩:=hsp
      have e1':=hide_le _ _ e1
      have e3':=hide_le _ _ e3
      refine⟨dx,_,e1',rfl,dx,ta,sv,Tn,n,0,rfl,e1',e3',by lia,fun r dx1 ta1 H1 g1 hr hta er et=>?_⟩
      obtain⟨ldx,lpa,hlo'⟩:=hlo
      have hha1:=g1 _ _ hha
      refine⟨ldx,_,g1 _ _ (hide_le _ _ hlo'),rfl,pa,rfl,_,SqT.of (g1 _ _ (hide_le _ _ hpa)),_,atI_2 _ _ _ _,dx,_,g1 _ _ e1',rfl,dx,ta,sv,Tn,n,1,rfl,g1 _ _ e1',g1 _ _ e3',by lia,fun r2 dx2 ta2 H2 g2 hr2 hta2 er2 et2=>?_⟩
      have g12:=g1.trans g2
      have hha2:=g12 _ _ hha
      refine⟨lo,ha,r2,_,b,s1,s1,_,Tn++[1],n,hv,rfl,?_,⟨ldx,lpa,hide_mono g12 _ _ hlo'⟩,?_,spV_hid (ne_new hha1 hr2 |> fun z=>z) er2 (e2.mono (hide_mono g12)) (by rw [hide_ne (ne_new hha1 hta2)];exact et2),hha2,by lia,by simp;lia,by lia,k1,fun r3 T3 n3 hv3 H3 G3 ho3 sp3 l1 l2=>?_⟩
      · simp only [dpP.dpB,dpP] at hdp;show dpP.dpB b<d;lia
      · rw [if_neg (by decide)];exact hw.mono (hide_mono g12)
      obtain⟨dx3,sv3,ta3,f1,f2,f3⟩:=sp3
      obtain⟨p3,rfl⟩:=st_ref f2
      obtain⟨p0,rfl⟩:=st_ref e2
      have er':hide ha H1 r=some (spO t dx1 (.ref p0) ta1 n):=by rw [hide_ne (ne_new hha hr)];exact er
      have g3:=(hide_mono g2).trans G3.1
      have hr3:=hide_le _ _ (g3 _ _ er')
      have e23:=e2.mono ((hide_mono g1).trans g3)
      refine⟨r3,rfl,_,_,_,hide_le _ _ f1,T.l_Spot,T.a_state,_,rfl,_,_,_,hr3,T.l_Spot,T.a_state,_,rfl,dS s1,dS s1,p3,rfl,p0,rfl,(f2.mono hide_le).dat,(e23.mono hide_le).dat,dep_S _,?_⟩
      rw [if_neg (by rw [eqD_refl (flat_S _)];decide)]
      refine q r (Tn++[0]) n hv3 H3 (G3.pre g12) ho3 (spV_hid (ne_new hha hr) hr3 e23 (g3 _ _ (by rw [hide_ne (ne_new hha hta)];exact et))) (by simp) (by lia)
theorem ok_look_if {k d:Nat}(hk10:20<=k)(T:Txt w K mg t)(D:Dm K t.Looking "look_if" "Looking.look_if" s_Looking_look_if ps_Looking_look_if)(F_Spot_turned:OkM P w K mg base 3 t.Spot "turned" ps_Spot_turned (sp_Spot_turned t))(F_Looking_look_all:OkM P w K mg base k t.Looking "look_all" ps_Looking_look_all (sp_Looking_look_all t d)):OkM P w K mg base (k+1) t.Looking "look_if" ps_Looking_look_if (sp_Looking_look_if t (d+1)):=by
  refine D.ok sc_Looking_look_if (fun vs H Q E h=>?_) (fun f cdv A outer s H vs Q E hr h=>?_)
  · obtain⟨_,_,_,_,_,_,_,_,_,_,_,rfl,_⟩:=h;rfl
  · obtain⟨lo,ha,sp,pv,ps,s1,z,hs,Tn,n,hv,rfl,⟨nm,a,b,rfl,hdp⟩,hlo,⟨p,ep,hp⟩,hsp,hha,b1,b2,b3,hk,q⟩:=h
    refine⟨_,((qss_cons (qs_set (i:=3) sc_Looking_look_if.nd (by rfl) (Or.inl (by rfl)) (qe_methN F_Looking_look_all hr (by lia) (qv 0) (qa_cons (qe_ix (ix_tupK (K:=K) (by rfl)) (qv 1) qe_int (fun _ _=>(by rfl))) (qa_cons (qe_methN F_Spot_turned hr (by lia) (qv 2) (qa_cons qe_int qa_nil)) qa_nil))))
      (qss_cons (qs_set (i:=4) sc_Looking_look_if.nd (by rfl) (Or.inl (by rfl)) (qe_methN F_Looking_look_all hr (by lia) (qv 0) (qa_cons (qe_ix (ix_tupK (K:=K) (by rfl)) (qv 1) qe_int (fun _ _=>(by rfl))) (qa_cons (qe_methN F_Spot_turned hr (by lia) (qv 2) (qa_cons qe_int qa_nil)) qa_nil))))
      (qss_cons (qs_if (qt_cmpR (op_neD (hu64 hr)) (qe_fld (K:=K) (by rfl) (qv 3)) (qe_fld (K:=K) (by rfl) (qv 4)) (nomark _)) (qss_one qs_never) qss_nil)
      (qss_one (qs_ret (qv 3))))))).h,?_⟩
    walk_at "rd"
    cases ep
    obtain⟨pa,vs,rfl,hpa,wv,uv,rfl,hw,hu⟩:=pcF hp
    cases hk with
    | @ife _ s' _ _ _ _ _ h1 h2 h3 k1 k2 k3=>
      cases k3
      rw [List.append_nil] at q
      simp only [szPs,szP] at b1 b2 b3 q
      simp only [dpP.dpB,dpP] at hdp
      obtain⟨dx,sv,ta,e1,e2,e3⟩:=hsp
      have e1':=hide_le _ _ e1
      have e3':=hide_le _ _ e3
      obtain⟨ldx,lpa,hlo'⟩:=hlo
      refine⟨ldx,_,hide_le _ _ hlo',rfl,pa,rfl,_,SqT.of (hide_le _ _ hpa),_,atI_2 _ _ _ _,dx,_,e1',rfl,dx,ta,sv,Tn,n,0,rfl,e1',e3',by lia,fun r dx1 ta1 H1 g1 hr hta er et=>?_⟩
      have hha1:=g1 _ _ hha
      refine⟨lo,ha,r,_,a,s1,z,h1,Tn++[0],n,hv,rfl,?_,⟨ldx,lpa,hide_mono g1 _ _ hlo'⟩,?_,spV_hid (ne_new hha hr) er (e2.mono (hide_mono g1)) (by rw [hide_ne (ne_new hha hta)];exact et),hha1,by lia,by simp;lia,by lia,k1,fun r3 T3 n3 hv3 H3 G3 ho3 sp3 l1 l2=>?_⟩
      · show dpP.dpB a<d;lia
      · rw [if_neg (by decide)];exact hw.mono (hide_mono g1)
      have G3':=G3.pre g1
      have j1:=hide_le _ _ (G3'.1 _ _ e1)
      have hl3:=ho3.len
      have sl:=szLk k1
      refine⟨ldx,_,hide_le _ _ (G3'.1 _ _ hlo'),rfl,pa,rfl,_,SqT.of (hide_le _ _ (G3'.1 _ _ hpa)),_,atI_3 _ _ _ _ _,dx,_,j1,rfl,dx,ta,sv,Tn,n,1,rfl,j1,hide_le _ _ (G3'.1 _ _ e3),by lia,fun r4 dx4 ta4 H4 g4 hr4 hta4 er4 et4=>?_⟩
      have g34:=G3'.1.trans (hide_mono g4)
      refine⟨lo,ha,r4,_,b,s1,z,h2,Tn++[1],n,hv++hv3,rfl,?_,⟨ldx,lpa,g34 _ _ hlo'⟩,?_,spV_hid (ne_new G3.2 hr4) er4 (e2.mono g34) (by rw [hide_ne (ne_new G3.2 hta4)];exact et4),g4 _ _ G3.2,by rw [List.length_append];lia,by simp;lia,by lia,k2,fun r5 T5 n5 hv5 H5 G5 ho5 sp5 m1 m2=>?_⟩
      · show dpP.dpB b<d;lia
      · rw [if_neg (by decide)];exact hu.mono g34
      have g35:=(hide_mono g4).trans G5.1
      have sp3':=sp3.mono g35
      obtain⟨dx3,sv3,ta3,f1,f2,f3⟩:=sp3'
      obtain⟨dx5,sv5,ta5,c1,c2,c3⟩:=sp5
      obtain⟨p3,rfl⟩:=st_ref f2
      obtain⟨p5,rfl⟩:=st_ref c2
      refine⟨r3,rfl,_,_,_,hide_le _ _ f1,T.l_Spot,T.a_state,_,rfl,r5,rfl,_,_,_,hide_le _ _ c1,T.l_Spot,T.a_state,_,rfl,dS z,dS z,p3,rfl,p5,rfl,(f2.mono hide_le).dat,(c2.mono hide_le).dat,dep_S _,?_⟩
      rw [if_neg (by rw [eqD_refl (flat_S _)];decide)]
      refine q r3 T3 n3 (hv3++hv5) H5 (G3'.trans (G5.pre g4)) ((ho3.mono (TpS.of g35)).app ho5) ⟨dx3,_,ta3,f1,f2,f3⟩ (by simp at l1;lia) (by lia)
theorem ok_look_seat {k d:Nat}(hk10:20<=k)(T:Txt w K mg t)(D:Dm K t.Looking "look_seat" "Looking.look_seat" s_Looking_look_seat ps_Looking_look_seat)(F_floored:OkF P w K mg base 1 "floored" ps_floored sp_floored)(F_Spot_met:OkM P w K mg base 3 t.Spot "met" ps_Spot_met (sp_Spot_met t))(F_Looking_look_all:OkM P w K mg base k t.Looking "look_all" ps_Looking_look_all (sp_Looking_look_all t d)):OkM P w K mg base (k+1) t.Looking "look_seat" ps_Looking_look_seat (sp_Looking_look_seat t (d+1)):=by
  refine D.ok sc_Looking_look_seat (fun vs H Q E h=>?_) (fun f cdv A outer s H vs Q E hr h=>?_)
  · obtain⟨_,_,_,_,_,_,_,_,_,_,_,rfl,_⟩:=h;rfl
  · obtain⟨lo,ha,sp,pv,ps,s1,z,hs,Tn,n,hv,rfl,⟨wd,nm,mm,b,rfl,hdp⟩,hlo,⟨p,ep,hp⟩,hsp,hha,b1,b2,b3,hk,q⟩:=h
    refine⟨_,((qss_cons (qs_set (i:=3) sc_Looking_look_seat.nd (by rfl) (Or.inl (by rfl)) (qe_methN F_Spot_met hr (by lia) (qv 2) (qa_cons (qe_callF F_floored hr (by lia) (qa_cons (qe_fld (K:=K) (by rfl) (qv 2)) qa_nil)) qa_nil)))
      (qss_cons (qs_set (i:=4) sc_Looking_look_seat.nd (by rfl) (Or.inl (by rfl)) (qe_methN F_Looking_look_all hr (by lia) (qv 0) (qa_cons (qe_ix (ix_tupK (K:=K) (by rfl)) (qv 1) qe_int (fun _ _=>(by rfl))) (qa_cons (qv 3) qa_nil))))
      (qss_cons (qs_if (qt_cmpR (op_neD (hu64 hr)) (qe_fld (K:=K) (by rfl) (qv 4)) (qe_fld (K:=K) (by rfl) (qv 3)) (nomark _)) (qss_one qs_never) qss_nil)
      (qss_one (qs_ret (qe_methN F_Spot_met hr (by lia) (qv 4) (qa_cons (qe_fld (K:=K) (by rfl) (qv 2)) qa_nil)))))))).h,?_⟩
    walk_at "rd"
    cases ep
    obtain⟨pa,vs,rfl,hpa,wv,rfl,hw⟩:=pcF hp
    cases hk with
    | seat k1 k2=>
      cases k2
      rw [List.append_nil] at q
      simp only [szPs,szP] at b1 b2 b3 q
      simp only [dpP.dpB,dpP] at hdp
      obtain⟨dx,sv,ta,e1,e2,e3⟩:=hsp
      have e1':=hide_le _ _ e1
      obtain⟨ldx,lpa,hlo'⟩:=hlo
      refine⟨dx,_,e1',rfl,_,_,_,e1',T.l_Spot,T.a_state,sv,rfl,s1,e2.mono hide_le,fun v H1 g1 hv1=>⟨dx,ta,sv,n,g1 _ _ e1',fun r dx2 H2 g2 hr er=>?_⟩⟩
      have hha1:=g1 _ _ hha
      have g12:=g1.trans g2
      have hha2:=g12 _ _ hha
      have sv2:=st_hid hha2 (hv1.mono g2)
      refine⟨ldx,_,g12 _ _ (hide_le _ _ hlo'),rfl,pa,rfl,_,SqT.of (g12 _ _ (hide_le _ _ hpa)),_,atI_4 _ _ _ _ _ _,lo,ha,r,_,b,{ s1 with opens:=[] },{ s1 with opens:=[] },_,Tn,n+1,hv,rfl,?_,⟨ldx,lpa,hide_mono g12 _ _ hlo'⟩,?_,spV_hid (ne_new hha1 hr) er sv2 (hide_mono g12 _ _ e3),hha2,by lia,by lia,by lia,k1,fun r3 T3 n3 hv3 H3 G3 ho3 sp3 l1 l2=>?_⟩
      · show dpP.dpB b<d;lia
      · rw [if_neg (by decide)];exact hw.mono (hide_mono g12)
      obtain⟨dx3,sv3,ta3,f1,f2,f3⟩:=sp3
      obtain⟨p3,rfl⟩:=st_ref f2
      have sv3':=sv2.mono G3.1
      obtain⟨p0,rfl⟩:=st_ref sv3'
      have hr3:=hide_le _ _ (G3.1 _ _ (by rw [hide_ne (ne_new hha1 hr)];exact er))
      have f1':=hide_le _ _ f1
      have G3':=G3.pre g12
      refine⟨r3,rfl,_,_,_,f1',T.l_Spot,T.a_state,_,rfl,_,_,_,hr3,T.l_Spot,T.a_state,_,rfl,_,_,p3,rfl,p0,rfl,(f2.mono hide_le).dat,(sv3'.mono hide_le).dat,dep_S _,?_⟩
      rw [if_neg (by rw [eqD_refl (flat_S _)];decide)]
      refine⟨r3,rfl,dx3,_,f1',rfl,_,_,_,hide_le _ _ (G3'.1 _ _ e1),T.l_Spot,T.a_state,sv,rfl,r3,rfl,dx3,ta3,_,n3,f1',fun r5 dx5 H5 g5 hr5 er5=>?_⟩
      refine q r5 T3 (n3+1) hv3 H5 ((G3'.trans (Gr.same G3'.2 g5)).cast (by rw [List.append_nil])) (ho3.mono (TpS.of (hide_mono g5))) (spV_hid (ne_new G3'.2 hr5) er5 ((e2.mono G3'.1).mono (hide_mono g5)) (hide_mono g5 _ _ f3)) (by lia) (by lia)
theorem ok_look_piece {k d:Nat}(hk10:20<=k)(T:Txt w K mg t)(D:Dm K t.Looking "look_piece" "Looking.look_piece" s_Looking_look_piece ps_Looking_look_piece)(F_Looking_look_literal:OkM P w K mg base 12 t.Looking "look_literal" ps_Looking_look_literal (sp_Looking_look_literal t))(F_Looking_look_hole:OkM P w K mg base 12 t.Looking "look_hole" ps_Looking_look_hole (sp_Looking_look_hole t))(F_Looking_look_each:OkM P w K mg base k t.Looking "look_each" ps_Looking_look_each (sp_Looking_look_each t d))(F_Looking_look_if:OkM P w K mg base k t.Looking "look_if" ps_Looking_look_if (sp_Looking_look_if t d))(F_Looking_look_seat:OkM P w K mg base k t.Looking "look_seat" ps_Looking_look_seat (sp_Looking_look_seat t d)):OkM P w K mg base (k+1) t.Looking "look_piece" ps_Looking_look_piece (sp_Looking_look_piece t d):=by
  refine D.ok sc_Looking_look_piece (fun vs H Q E h=>?_) (fun f cdv A outer s H vs Q E hr h=>?_)
  · obtain⟨_,_,_,_,_,_,_,_,_,_,_,rfl,_⟩:=h;rfl
  · obtain⟨lo,ha,sp,pv,ps,s1,z,hs,Tn,n,hv,rfl,hdp,hlo,⟨p,ep,hp⟩,hsp,hha,b1,b2,b3,hk,q⟩:=h
    refine⟨_,((qss_cons (qs_set (i:=3) sc_Looking_look_piece.nd (by rfl) (Or.inl (by rfl)) (qe_ix (ix_tupK (K:=K) (by rfl)) (qv 1) qe_int (fun _ _=>(by rfl))))
      (qss_cons (qs_if (qt_cmpR op_eq (qv 3) (qe_S (l:=[108,105,116]) (by decide +kernel)) (nomark _)) (qss_one (qs_ret (qe_methN F_Looking_look_literal hr (by lia) (qv 0) (qa_cons (qv 1) (qa_cons (qv 2) qa_nil))))) qss_nil)
      (qss_cons (qs_if (qt_cmpR op_eq (qv 3) (qe_S (l:=[104,111,108,101]) (by decide +kernel)) (nomark _)) (qss_one (qs_ret (qe_methN F_Looking_look_hole hr (by lia) (qv 0) (qa_cons (qv 1) (qa_cons (qv 2) qa_nil))))) qss_nil)
      (qss_cons (qs_if (qt_cmpR op_eq (qv 3) (qe_S (l:=[101,97,99,104]) (by decide +kernel)) (nomark _)) (qss_one (qs_ret (qe_methN F_Looking_look_each hr (by lia) (qv 0) (qa_cons (qv 1) (qa_cons (qv 2) qa_nil))))) qss_nil)
      (qss_cons (qs_if (qt_cmpR op_eq (qv 3) (qe_S (l:=[105,102]) (by decide +kernel)) (nomark _)) (qss_one (qs_ret (qe_methN F_Looking_look_if hr (by lia) (qv 0) (qa_cons (qv 1) (qa_cons (qv 2) qa_nil))))) qss_nil)
      (qss_cons (qs_if (QW.qt (qw_and (qt_cmpR op_eq (qe_ix (ix_tupK (K:=K) (by rfl)) (qv 1) qe_int (fun _ _=>(by rfl))) (qe_S (l:=[100,114,97,119]) (by decide +kernel)) (nomark _)) (qw_and1 (qt_cmpR op_notN (qe_fld (K:=K) (by rfl) (qv 0)) qe_non (nomark _))))) (qss_one qs_never) qss_nil)
      (qss_one (qs_ret (qe_methN F_Looking_look_seat hr (by lia) (qv 0) (qa_cons (qv 1) (qa_cons (qv 2) qa_nil)))))))))))).h,?_⟩
    walk_at "rd"
    cases ep
    obtain⟨pa,vs,rfl,hpa,hf⟩:=pcF hp
    obtain⟨ldx,lpa,hlo'⟩:=hlo
    have hl:=hide_le _ _ hlo'
    have hpa':=SqT.of (K:=K) (hide_le _ _ hpa)
    have S0:∀ {Pr:List Pc->Prop},Pr [p]->spLk t true Pr [.ref lo,.ref pa,.ref sp] H Q E0:=fun hP=>⟨lo,ha,sp,_,[p],s1,z,hs,Tn,n,hv,rfl,hP,⟨ldx,lpa,hlo'⟩,by rw [if_pos rfl];exact⟨p,rfl,hp⟩,hsp,hha,b1,b2,b3,hk,q⟩
    cases p with
    | lit x=>
      cases hf
      refine⟨pa,rfl,_,hpa',_,atI_0 _ _,rfl,?_⟩
      rw [if_pos (show tx _=V.str (S _) from rfl)]
      exact⟨_,_,hl,rfl,S0 ⟨_,rfl⟩⟩
    | hole x=>
      cases hf
      refine⟨pa,rfl,_,hpa',_,atI_0 _ _,rfl,?_⟩
      rw [if_neg (tx_ne (by decide))]
      refine⟨rfl,?_⟩
      rw [if_pos (show tx _=V.str (S _) from rfl)]
      exact⟨_,_,hl,rfl,S0 ⟨_,rfl⟩⟩
    | each nm b=>
      obtain⟨wv,rfl,_⟩:=hf
      refine⟨pa,rfl,_,hpa',_,atI_0 _ _,rfl,?_⟩
      rw [if_neg (tx_ne (by decide))]
      refine⟨rfl,?_⟩
      rw [if_neg (tx_ne (by decide))]
      refine⟨rfl,?_⟩
      rw [if_pos (show tx _=V.str (S _) from rfl)]
      exact⟨_,_,hl,rfl,S0 ⟨⟨_,_,rfl⟩,hdp⟩⟩
    | ife nm a b=>
      obtain⟨wv,uv,rfl,_⟩:=hf
      refine⟨pa,rfl,_,hpa',_,atI_0 _ _,rfl,?_⟩
      rw [if_neg (tx_ne (by decide))]
      refine⟨rfl,?_⟩
      rw [if_neg (tx_ne (by decide))]
      refine⟨rfl,?_⟩
      rw [if_neg (tx_ne (by decide))]
      refine⟨rfl,?_⟩
      rw [if_pos (show tx _=V.str (S _) from rfl)]
      exact⟨_,_,hl,rfl,S0 ⟨⟨_,_,_,rfl⟩,hdp⟩⟩
    | seat wd nm mm b=>
      obtain⟨wv,rfl,_⟩:=hf
      refine⟨pa,rfl,_,hpa',_,atI_0 _ _,rfl,?_⟩
      rw [if_neg (tx_ne (by decide))]
      refine⟨rfl,?_⟩
      rw [if_neg (tx_ne (by decide))]
      refine⟨rfl,?_⟩
      rw [if_neg (tx_ne (by decide))]
      refine⟨rfl,?_⟩
      rw [if_neg (tx_ne (by decide))]
      refine⟨pa,rfl,_,hpa',_,atI_1 _ _ _,rfl,?_⟩
      split
      · refine⟨_,_,_,hl,T.l_Looking,T.a_kept,.non,rfl,?_⟩
        rw [if_neg (by simp)]
        exact⟨_,_,hl,rfl,S0 ⟨⟨_,_,_,_,rfl⟩,hdp⟩⟩
      · exact⟨_,_,hl,rfl,S0 ⟨⟨_,_,_,_,rfl⟩,hdp⟩⟩
def lkI (t:Ads)(lo xa sp ha:Addr)(ps:List Pc)(z:MS)(hs:Ho)(Tn:List Nat)(n:Nat)(hv:List V)(H:Hp)(i:Nat)(σ:L2.St)(H3:Hp):Prop:=∃ (r:Addr) (o4:Option V) (s':MS) (h1 h2:Ho) (T':List Nat) (n':Nat) (hv':List V),σ=[some (.ref lo),some (.ref xa),some (.ref sp),some (.ref r),o4]/\Gr ha H H3 hv hv'/\HoA (hide ha H3) hv' h1/\SpV t (hide ha H3) r s' T' n'/\Lk s' (ps.drop i) z h2/\hs=h1++h2/\T'.length+szPs (ps.drop i)<=Tn.length+szPs ps/\n' + szPs (ps.drop i)<=n+szPs ps/\h1.length+szPs (ps.drop i)<=szPs ps
theorem dp_mem:∀ {ps:List Pc} {p:Pc},p∈ps->dpP p<=dpP.dpB ps
  | _::_,_,.head _=>by simp only [dpP.dpB];omega
  | _::ps,_,.tail _ h=>by have:=dp_mem h;simp only [dpP.dpB];omega
theorem ok_look_all {k d:Nat}(hk10:20<=k)(T:Txt w K mg t)(D:Dm K t.Looking "look_all" "Looking.look_all" s_Looking_look_all ps_Looking_look_all)(F_Looking_look_piece:OkM P w K mg base k t.Looking "look_piece" ps_Looking_look_piece (sp_Looking_look_piece t d)):OkM P w K mg base (k+1) t.Looking "look_all" ps_Looking_look_all (sp_Looking_look_all t d):=by
  refine D.ok sc_Looking_look_all (fun vs H Q E h=>?_) (fun f cdv A outer s H vs Q E hr h=>?_)
  · obtain⟨_,_,_,_,_,_,_,_,_,_,_,rfl,_⟩:=h;rfl
  · obtain⟨lo,ha,sp,pv,ps,s1,z,hs,Tn,n,hv,rfl,hdp,hlo,hp,hsp,hha,b1,b2,b3,hk,q⟩:=h
    refine⟨_,((qss_cons (qs_set (i:=3) sc_Looking_look_all.nd (by rfl) (Or.inl (by rfl)) (qv 2))
      (qss_cons (qs_for PassesOwn.leaving (by rfl) (qi_listK (K:=K) (by rfl) (qv 1)) (qg_name (i:=4) sc_Looking_look_all.nd (by rfl) (Or.inl (by rfl))) (qss_one (qs_set (i:=3) sc_Looking_look_all.nd (by rfl) (Or.inl (by rfl)) (qe_methN F_Looking_look_piece hr (by lia) (qv 0) (qa_cons (qv 4) (qa_cons (qv 3) qa_nil))))))
      (qss_one (qs_ret (qv 3)))))).h,?_⟩
    walk_at "rd"
    rw [if_neg (by decide)] at hp
    obtain⟨xa,xs,rfl,hxa,hxs⟩:=hp
    refine⟨xa,rfl,⟨_,SqL.of (hide_le _ _ hxa)⟩,?_⟩
    refine fb_list (xs:=xs) (lkI t lo xa sp ha ps z hs Tn n hv H) ⟨sp,none,s1,[],hs,Tn,n,[],rfl,⟨fun b o h=>h,by rw [List.append_nil];exact hha⟩,.nil,hsp,hk,rfl,Nat.le_refl _,Nat.le_refl _,by simp⟩ ?_ ?_ ?_
    · rintro i σ H3 _ ⟨_,_,_,_,_,_,_,_,_,g,_⟩
      exact SqL.of (hide_le _ _ (g.1 _ _ hxa))
    · rintro i x σ H3 hi ⟨r,o4,s',h1,h2,T',n',hv',rfl,g3,ho3,sp3,hk3,hh,l1,l2,l3⟩
      have hil:i<ps.length:=by
        have:=(List.getElem?_eq_some_iff.mp hi).1
        have:=hxs.len
        rw [dPs_len] at this
        lia
      obtain⟨dd,hd1,hd2⟩:=hxs.get hi
      rw [dPs_get ps i ps[i] (List.getElem?_eq_getElem hil)] at hd1
      cases hd1
      rw [List.drop_eq_getElem_cons hil] at hk3 l1 l2 l3
      obtain⟨s2,k1,k2,hka,hkb,rfl⟩:=hk3.step
      simp only [szPs] at l1 l2 l3
      have hl3:=ho3.len
      have hpd:=dp_mem (List.getElem_mem hil)
      walk_at "rd"
      obtain⟨ldx,lpa,hlo'⟩:=hlo
      refine⟨ldx,_,hide_le _ _ (g3.1 _ _ hlo'),rfl,lo,ha,r,x,[ps[i]],s',s2,k1,T',n',hv++hv',rfl,?_,⟨ldx,lpa,g3.1 _ _ hlo'⟩,?_,sp3,g3.2,?_,?_,?_,hka,fun r4 T4 n4 hv4 H4 G4 ho4 sp4 m1 m2=>?_⟩
      · simp only [dpP.dpB];lia
      · rw [if_pos rfl];exact⟨_,rfl,hd2.mono g3.1⟩
      · simp only [szPs,List.length_append];lia
      · simp only [szPs];lia
      · simp only [szPs];lia
      · simp only [szPs] at m1 m2
        have q1:=szLk hka
        simp only [szPs] at q1
        exact⟨r4,_,s2,h1++k1,k2,T4,n4,hv'++hv4,rfl,g3.trans G4,(ho3.mono (TpS.of G4.1)).app ho4,sp4,hkb,by rw [hh,List.append_assoc],by lia,by lia,by rw [List.length_append];lia⟩
    · rintro σ H3 ⟨r,o4,s',h1,h2,T',n',hv',rfl,g3,ho3,sp3,hk3,hh,l1,l2,l3⟩
      have e0:ps.drop xs.length=[]:=List.drop_eq_nil_of_le (by have:=hxs.len;rw [dPs_len] at this;lia)
      rw [e0] at hk3 l1 l2 l3
      cases hk3
      rw [List.append_nil] at hh
      subst hh
      simp only [szPs] at l1 l2 l3
      walk_at "rd"
      exact q r T' n' hv' H3 g3 ho3 sp3 (by lia) (by lia)
theorem ok_look_alls (T:Txt w K mg t)(D:Dm K t.Looking "look_all" "Looking.look_all" s_Looking_look_all ps_Looking_look_all)(D_Looking_look_piece:Dm K t.Looking "look_piece" "Looking.look_piece" s_Looking_look_piece ps_Looking_look_piece)(D_Looking_look_each:Dm K t.Looking "look_each" "Looking.look_each" s_Looking_look_each ps_Looking_look_each)(D_Looking_look_if:Dm K t.Looking "look_if" "Looking.look_if" s_Looking_look_if ps_Looking_look_if)(D_Looking_look_seat:Dm K t.Looking "look_seat" "Looking.look_seat" s_Looking_look_seat ps_Looking_look_seat)(F_Looking_look_literal:OkM P w K mg base 12 t.Looking "look_literal" ps_Looking_look_literal (sp_Looking_look_literal t))(F_Looking_look_hole:OkM P w K mg base 12 t.Looking "look_hole" ps_Looking_look_hole (sp_Looking_look_hole t))(F_Spot_turned:OkM P w K mg base 3 t.Spot "turned" ps_Spot_turned (sp_Spot_turned t))(F_Spot_met:OkM P w K mg base 3 t.Spot "met" ps_Spot_met (sp_Spot_met t))(F_floored:OkF P w K mg base 1 "floored" ps_floored sp_floored):OkM P w K mg base 60 t.Looking "look_all" ps_Looking_look_all (sp_Looking_look_all t 5):=by
  have a0:OkM P w K mg base 20 t.Looking "look_all" ps_Looking_look_all (sp_Looking_look_all t 0):=D.ok (k:=19) sc_Looking_look_all (fun _ _ _ _ ⟨_,_,_,_,_,_,_,_,_,_,_,_,h,_⟩=>absurd h (Nat.not_lt_zero _)) (fun _ _ _ _ _ _ _ _ _ _ ⟨_,_,_,_,_,_,_,_,_,_,_,_,h,_⟩=>absurd h (Nat.not_lt_zero _))
  have up:∀ {k d:Nat},20<=k->OkM P w K mg base k t.Looking "look_all" ps_Looking_look_all (sp_Looking_look_all t d)->OkM P w K mg base (k+3) t.Looking "look_all" ps_Looking_look_all (sp_Looking_look_all t (d+1)):=fun {k d} hk a=>
    ok_look_all (k:=k+2) (by lia) T D (ok_look_piece (k:=k+1) (by lia) T D_Looking_look_piece F_Looking_look_literal F_Looking_look_hole (ok_look_each hk T D_Looking_look_each F_Spot_turned a) (ok_look_if hk T D_Looking_look_if F_Spot_turned a) (ok_look_seat hk T D_Looking_look_seat F_floored F_Spot_met a))
  exact(up (by decide) (up (by decide) (up (by decide) (up (by decide) (up (by decide) a0))))).mono (by decide)
end
section
variable {P:Program} {w:World} {K:PySem.W.Frag} {mg:Str->Option Value} {base:Heap} {t:Ads}
theorem ok_is_end (T:Txt w K mg t)(D:Df K mg "is_end" s_is_end ps_is_end)(F_begin:OkF P w K mg base 1 "begin" ps_begin sp_begin):OkF P w K mg base 2 "is_end" ps_is_end sp_is_end:=by
  refine D.ok sc_is_end (fun vs H Q E h=>?_) (fun f cdv A outer s H vs Q E hr h=>?_)
  · obtain⟨_,rfl,_⟩:=h;rfl
  · obtain⟨x,rfl,hx,q⟩:=h
    refine⟨_,((qss_one (qs_ret (qe_cmpR (op_eqD (hu64 hr)) (qv 0) (qe_callF0 F_begin hr (by decide)) (nomark _))))).h,?_⟩
    walk_at "rd"
    intro v H1 g1 hv
    have d1:=(hx.mono g1).dat
    have d2:=hv.dat
    obtain⟨a,_,rfl,_,_⟩:=hx
    obtain⟨b,_,rfl,_,_⟩:=hv
    refine⟨_,_,a,rfl,b,rfl,d1,d2,dep_S _,?_⟩
    rw [show(⟨mText,[],[],[]⟩:MS)=s00 from rfl,eqD_refl (flat_S _)]
    exact q _ g1
theorem ok_looked_at (T:Txt w K mg t)(D:Df K mg "looked_at" s_looked_at ps_looked_at)(F_Looking_look_all:OkM P w K mg base 60 t.Looking "look_all" ps_Looking_look_all (sp_Looking_look_all t 5))(F_begin:OkF P w K mg base 1 "begin" ps_begin sp_begin)(F_is_end:OkF P w K mg base 2 "is_end" ps_is_end sp_is_end)(F_Spot___init__:OkC P w K mg base 1 t.Spot "Spot" ps_Spot___init__ (sp_Spot___init__ t))(F_Looking___init__:OkC P w K mg base 1 t.Looking "Looking" ps_Looking___init__ (sp_Looking___init__ t)):OkF P w K mg base 61 "looked_at" ps_looked_at sp_looked_at:=by
  refine D.ok sc_looked_at (fun vs H Q E h=>?_) (fun f cdv A outer s H vs Q E hr h=>?_)
  · obtain⟨_,_,_,rfl,_⟩:=h;rfl
  · obtain⟨pv,ps,hs,rfl,hp,q⟩:=h
    refine⟨_,((qss_cons (qs_set (i:=2) sc_looked_at.nd (by rfl) (Or.inl (by rfl)) (qe_makeN F_Looking___init__ hr (by decide) (qa_cons (qv 1) qa_nil)))
      (qss_cons (qs_set (i:=3) sc_looked_at.nd (by rfl) (Or.inl (by rfl)) (qe_methN F_Looking_look_all hr (by decide) (qv 2) (qa_cons (qv 0) (qa_cons (qe_makeN F_Spot___init__ hr (by decide) (qa_cons (qe_callF0 F_begin hr (by decide)) (qa_cons (qe_lst qa_nil) (qa_cons qe_int qa_nil)))) qa_nil))))
      (qss_cons (qs_if (qt_not (qt_val (qe_callF F_is_end hr (by decide) (qa_cons (qe_fld (K:=K) (by rfl) (qv 3)) qa_nil)))) (qss_one qs_never) qss_nil)
      (qss_one (qs_ret (qe_tup (qa_cons (qe_fld (K:=K) (by rfl) (qv 2)) (qa_cons (qe_fld (K:=K) (by rfl) (qv 2)) qa_nil))))))))).h,?_⟩
    walk_at "rd"
    intro x dx hx hd hne
    refine⟨dx,upd_same,fun ha pa H1 e1 g1 eh ep hap nh np=>?_⟩
    have hax:ha≠x:=fun z=>by subst z;rw [upd_same] at nh;cases nh
    have had:ha≠dx:=fun z=>by subst z;rw [upd_ne hne,upd_same] at nh;cases nh
    have gH:Same H H1:=fun b o e=>g1 b o (ne_of_none e hx) (by rw [upd_ne (ne_of_none e hx),upd_ne (ne_of_none e hd)];exact e)
    have nH:H ha=none:=by rw [upd_ne hax,upd_ne had] at nh;exact nh
    refine⟨dx,_,e1,rfl,fun v H2 g2 hv p hp2 x2 dx2 hx2 hd2 hne2=>⟨dx2,0,rfl,upd_same,?_⟩⟩
    have k1:=same_upd (o:=.lst []) hp2
    have k2:=made_is (t:=t) (ta:=p) (sv:=v) (n:=0) hx2 hd2 (.own x2) []
    have er:upd (upd (upd (upd H2 p (.lst [])) dx2 (.own x2)) x2 (.ins t.Spot dx2 [])) x2 (spO t dx2 v p 0) x2=some (spO t dx2 v p 0):=upd_same
    have ept:=k2 _ _ upd_same
    have k12:=k1.trans k2
    generalize hH3:upd (upd (upd (upd H2 p (.lst [])) dx2 (.own x2)) x2 (.ins t.Spot dx2 [])) x2 (spO t dx2 v p 0)=H3 at k2 er ept k12
    have e3:H3 ha=some (.lst []):=k12 _ _ (g2 _ _ eh)
    have hx3:=k12 _ _ (g2 _ _ e1)
    rw [← hide_ne (H:=H3) hax.symm] at hx3
    have hp3:p≠ha:=ne_new (g2 _ _ eh) hp2
    have hx23:x2≠ha:=ne_new (k1 _ _ (g2 _ _ eh)) hx2
    have g3:Same H (hide ha H3):=fun b o e=>by rw [hide_ne (ne_of_none e nH)];exact k12 _ _ (g2 _ _ (gH _ _ e))
    obtain⟨hd1,hd2',hd3,hd4⟩:=hp
    refine⟨x,ha,x2,pv,ps,s00,s00,hs,[],0,[],rfl,hd2',⟨dx,pa,hx3⟩,?_,spV_hid hx23 er (st_hid e3 (hv.mono k12)) (by rw [hide_ne hp3];exact ept),e3,by simp;lia,by simp;lia,by lia,hd4,fun r T4 n4 hv4 H4 G4 ho4 sp4 _ _=>?_⟩
    · rw [if_neg (by decide)];exact hd1.mono g3
    obtain⟨dx4,sv4,ta4,f1,f2,f3⟩:=sp4
    have hx4:=hide_le _ _ (G4.1 _ _ hx3)
    refine⟨r,rfl,_,_,_,hide_le _ _ f1,T.l_Spot,T.a_state,sv4,rfl,f2.mono hide_le,fun H5 g5=>⟨_,_,_,g5 _ _ hx4,T.l_Looking,T.a_holes,.ref ha,rfl,_,_,_,g5 _ _ hx4,T.l_Looking,T.a_pairs,.ref pa,rfl,fun p6 hp6=>?_⟩⟩
    have k6:=same_upd (o:=.tup [.ref ha,.ref pa]) hp6
    have g56:=g5.trans k6
    exact q p6 ha pa hv4 _ ((g3.trans G4.1).trans (hide_le.trans g56)) nH upd_same (g56 _ _ G4.2) (ho4.mono (TpS.of (hide_le.trans g56)))
theorem ok_look (T:Txt w K mg t)(D:Df K mg "look" s_look ps_look)(F_looked_at:OkF P w K mg base 61 "looked_at" ps_looked_at sp_looked_at):OkF P w K mg base 62 "look" ps_look sp_look:=by
  refine D.ok sc_look (fun vs H Q E h=>?_) (fun f cdv A outer s H vs Q E hr h=>?_)
  · obtain⟨_,_,_,rfl,_⟩:=h;rfl
  · obtain⟨pv,ps,hs,rfl,hp,q⟩:=h
    refine⟨_,((qss_one (qs_ret (qe_ix (ix_tupK (K:=K) (by rfl)) (qe_callF F_looked_at hr (by decide) (qa_cons (qv 0) (qa_cons qe_non qa_nil))) qe_int (fun _ _=>(by rfl)))))).h,?_⟩
    walk_at "rd"
    exact⟨_,_,hp,fun r ha pa hv H' g n0 e1 e2 ho=>⟨_,SqT.of e1,_,atI_0 _ _,q ha hv H' g n0 e2 ho⟩⟩
theorem ok_law_looked (T:Txt w K mg t)(D:Df K mg "_law_looked" s__law_looked ps__law_looked)(F_look:OkF P w K mg base 62 "look" ps_look sp_look):OkF P w K mg base 63 "_law_looked" ps__law_looked sp__law_looked:=by
  refine D.ok sc__law_looked (fun vs H Q E h=>?_) (fun f cdv A outer s H vs Q E hr h=>?_)
  · obtain⟨_,_,_,rfl,_⟩:=h;rfl
  · obtain⟨pv,ps,hs,rfl,hp,q⟩:=h
    refine⟨_,((qss_cons (qs_tryN (fun pn=>(qss_one (qs_set (i:=1) sc__law_looked.nd (by rfl) (Or.inl (by rfl)) (qe_callF F_look hr (by decide) (qa_cons (qv 0) qa_nil))))))
      (qss_one (qs_ret (qe_tup (qa_cons (qe_S (l:=[116,111,108,100]) (by decide +kernel)) (qa_cons (qv 1) qa_nil))))))).h,?_⟩
    walk_at "rd"
    refine⟨_,_,hp,fun ha hv H' g n0 e ho p hp'=>?_⟩
    have k:=same_upd (o:=.tup [tx kTold,.ref ha]) hp'
    exact q p ha hv _ (g.trans k) n0 upd_same (k _ _ e) (ho.mono (TpS.of k))
end
section
variable {P:Program} {w:World} {K:PySem.W.Frag} {mg:Str->Option Value} {base:Heap} {t:Ads}
theorem ok_law_is (T:Txt w K mg t)(D:Df K mg "_law_is" s__law_is ps__law_is):OkF P w K mg base 1 "_law_is" ps__law_is sp__law_is:=by
  refine D.ok sc__law_is (fun vs H Q E h=>?_) (fun f cdv A outer s H vs Q E hr h=>?_)
  · obtain⟨_,_,_,_,_,_,rfl,_⟩:=h;rfl
  · obtain⟨r,ha,da,hv,xs,hs,rfl,e1,e2,ho,e3,ho2,hl,q⟩:=h
    refine⟨_,((qss_cons (qs_if (QW.qt (qw_or (qt_cmpR op_ne (qe_ix (ix_tupK (K:=K) (by rfl)) (qv 0) qe_int (fun _ _=>(by rfl))) (qe_S (l:=[116,111,108,100]) (by decide +kernel)) (nomark _)) (qw_or (qt_not (qt_val (qe_callB (call_isAK (K:=K) (n:="list") (by rfl)) (by rfl) T.z_isinstance bb_isinstance (qa_cons (qe_ix (ix_tupK (K:=K) (by rfl)) (qv 0) qe_int (fun _ _=>(by rfl))) (qa_cons (qe_blt (v:=.ty "list") T.z_list bb_list (by rfl)) qa_nil))))) (qw_or1 (qt_cmpR (op_neD (hu64 hr)) (qe_ix (ix_tupK (K:=K) (by rfl)) (qv 0) qe_int (fun _ _=>(by rfl))) (qv 1) (nomark _)))))) (qss_one (qs_ret qe_bl)) qss_nil)
      (qss_cons (qs_for PassesOwn.never (by rfl) (qi_listK (K:=K) (by rfl) (qe_ix (ix_tupK (K:=K) (by rfl)) (qv 0) qe_int (fun _ _=>(by rfl)))) (qg_name (i:=2) sc__law_is.nd (by rfl) (Or.inl (by rfl))) (qss_one (qs_if (QW.qt (qw_or (qt_not (qt_val (qe_callB (call_isAK (K:=K) (n:="tuple") (by rfl)) (by rfl) T.z_isinstance bb_isinstance (qa_cons (qv 2) (qa_cons (qe_blt (v:=.ty "tuple") T.z_tuple bb_tuple (by rfl)) qa_nil))))) (qw_or (qt_not (qt_val (qe_callB (call_isstrAK (K:=K) (by rfl)) (by rfl) T.z_isinstance bb_isinstance (qa_cons (qe_ix (ix_tupK (K:=K) (by rfl)) (qv 2) qe_int (fun _ _=>(by rfl))) (qa_cons (qe_blt (v:=.ty "str") T.z_str bb_str (by rfl)) qa_nil))))) (qw_or1 (qt_not (qt_val (qe_callB (call_isstrAK (K:=K) (by rfl)) (by rfl) T.z_isinstance bb_isinstance (qa_cons (qe_ix (ix_tupK (K:=K) (by rfl)) (qv 2) qe_int (fun _ _=>(by rfl))) (qa_cons (qe_blt (v:=.ty "str") T.z_str bb_str (by rfl)) qa_nil))))))))) (qss_one (qs_ret qe_bl)) qss_nil)))
      (qss_one (qs_ret qe_bl))))).h,?_⟩
    walk_at "rd"
    have s1:=SqT.of (K:=K) e1
    refine⟨_,s1,_,atI_0 _ _,rfl,?_⟩
    rw [if_neg (by rw [decide_eq_true (show tx kTold=V.str (S [116,111,108,100]) from rfl)];decide)]
    refine⟨_,s1,_,atI_1 _ _ _,_,.lst e2,true,rfl,?_⟩
    rw [if_neg (by decide)]
    refine⟨_,s1,_,atI_1 _ _ _,.ls (dHo hs),.ls (dHo hs),ha,rfl,⟨ha,_,rfl,e2,ho.ds⟩,⟨da,_,rfl,e3,ho2.ds⟩,by simp only [depD];have:=dep_Ho hs;lia,?_⟩
    rw [if_neg (by rw [eqD_refl (by simp only [flatD];exact flat_Ho _)];decide)]
    refine⟨_,s1,_,atI_1 _ _ _,ha,rfl,⟨_,SqL.of e2⟩,?_⟩
    refine fb_list (xs:=hv) (fun _ σ H'=>∃ o,σ=[some (.ref r),some (.ref da),o]/\Same H H') ⟨_,rfl,Same.refl _⟩ ?_ ?_ ?_
    · rintro i σ H1 _ ⟨_,_,g⟩
      exact SqL.of (g _ _ e2)
    · rintro i x σ H1 hi ⟨o,rfl,g⟩
      obtain⟨a,x,y,rfl,e⟩:=ho.get hi
      have e':=g _ _ e
      have s2:=SqT.of (K:=K) e'
      walk_at "rd"
      refine⟨_,.tup e',true,rfl,?_⟩
      rw [if_neg (by decide)]
      exact⟨_,s2,_,atI_0 _ _,.inl ⟨⟨_,rfl⟩,_,s2,_,atI_1 _ _ _,.inl ⟨⟨_,rfl⟩,g⟩⟩⟩
    · rintro σ H1 ⟨o,rfl,g⟩
      walk_at "rd"
      exact q H1 g
theorem ok_law_made (T:Txt w K mg t)(D:Df K mg "_law_made" s__law_made ps__law_made)(F__law_good:OkF P w K mg base 40 "_law_good" ps__law_good (sp__law_good 3)):OkF P w K mg base 41 "_law_made" ps__law_made sp__law_made:=by
  refine D.ok sc__law_made (fun vs H Q E h=>?_) (fun f cdv A outer s H vs Q E hr h=>?_)
  · obtain⟨_,_,rfl,_⟩:=h;rfl
  · obtain⟨c,pa,rfl,hp,q⟩:=h
    refine⟨_,((qss_cons (qs_asg (qe_callF F__law_good hr (by decide) (qa_cons (qv 0) (qa_cons (qe_S (l:=[116,101,120,116]) (by decide +kernel)) (qa_cons qe_int (qa_cons (qv 1) qa_nil))))) (qg_tup (n:=2) (by rfl) (qgs_cons (qg_name (i:=2) sc__law_made.nd (by rfl) (Or.inl (by rfl))) (qgs_cons (qg_name (i:=3) sc__law_made.nd (by rfl) (Or.inl (by rfl))) qgs_nil))))
      (qss_cons (qs_for PassesOwn.never (by rfl) (qi_listK (K:=K) (by rfl) (qv 1)) (qg_name (i:=4) sc__law_made.nd (by rfl) (Or.inl (by rfl))) (qss_one qs_never))
      (qss_one (qs_ret (qe_tup (qa_cons (qv 2) (qa_cons (qv 3) qa_nil)))))))).h,?_⟩
    walk_at "rd"
    refine⟨hp,.text,fun r H1 g1 hm=>?_⟩
    obtain⟨p,fa,da,xs,rfl,e1,e2,e3,l1,l2,hs,hho,hft⟩:=hm
    refine⟨p,rfl,_,SqT.of e1,rfl,_,_,rfl,_,_,rfl,rfl,⟨_,SqL.of (g1 _ _ hp)⟩,?_⟩
    refine fb_list (xs:=[]) (fun _ σ H'=>σ=[some (V.int c),some (V.ref pa),some (V.ref fa),some (V.ref da),none]/\H' = H1) ⟨rfl,rfl⟩ ?_ ?_ ?_
    · rintro i σ H2 _ ⟨_,rfl⟩
      exact SqL.of (g1 _ _ hp)
    · rintro i x σ H2 hi _
      simp at hi
    · rintro σ H2 ⟨rfl,rfl⟩
      walk_at "rd"
      intro p2 hp2
      have g2:=same_upd (o:=.tup [V.ref fa,V.ref da]) hp2
      exact q _ _ (g1.trans g2) ⟨p2,fa,da,xs,rfl,upd_same,e2.mono g2,g2 _ _ e3,l1,l2,hs,hho.mono (TpS.of g2),hft⟩
end
section
variable {P:Program} {w:World} {K:PySem.W.Frag} {mg:Str->Option Value} {base:Heap} {t:Ads}
def y1 (a:Addr)(H:Hp)(σ:L2.St)(H':Hp):Prop:=∃ o1 o2 o3 o4 o5:Option V,σ=[some (.ref a),o1,o2,o3,o4,o5,none,none,none]/\Same H H'
def PsV (H:Hp)(x:Addr)(ps:List Pc):Prop:=∃ vs,H x=some (.lst vs)/\IsDs H (dPs ps) vs
theorem PsV.mono {H H':Hp}{x:Addr}{ps:List Pc}(h:PsV H x ps)(g:Same H H'):PsV H' x ps:=by obtain⟨vs,e,h⟩:=h;exact⟨vs,g _ _ e,h.mono g⟩
def HsV (H:Hp)(x:Addr)(hs:Ho):Prop:=∃ vs,H x=some (.lst vs)/\HoA H vs hs
theorem HsV.mono {H H':Hp}{x:Addr}{hs:Ho}(h:HsV H x hs)(g:Same H H'):HsV H' x hs:=by obtain⟨vs,e,h⟩:=h;exact⟨vs,g _ _ e,h.mono (TpS.of g)⟩
noncomputable def hA:List Pc:=[.lit [60,97,32,98,58],.hole [112],.lit [32,99,61,34],.hole [113],.lit [34,32,100,40,120,44],.hole [114]]
noncomputable def hB:List Pc:=[.lit [41,32,101,33,34,121,32,39],.hole [115],.lit [39,34,62],.hole [116],.lit [60,47,97,62]]
noncomputable def hC:List Pc:=[.ife [105] [.hole [109],.lit [38,48,53,59]] [.each [110] [.hole [111],.hole [109]]]]
noncomputable def hD:List Pc:=[.lit [60,97,115,105,115,62],.seat [100,114,97,119] [112] [] [.lit [97,60,98]],.lit [60,47,97,115,105,115,62]]
noncomputable def hE:Ho:=[([112],kBare),([113],kQuoted),([114],kRow),([115],kSaid),([116],kText)]
noncomputable def hF:Ho:=[([109],kText),([111],kText),([109],kText)]
def y2 (a:Addr)(H:Hp)(σ:L2.St)(H':Hp):Prop:=∃ (o1 o2 o3 o4 o5:Option V) (x:Addr),σ=[some (.ref a),o1,o2,o3,o4,o5,some (.ref x),none,none]/\Same H H'/\PsV H' x hA
def y3 (a:Addr)(H:Hp)(σ:L2.St)(H':Hp):Prop:=∃ (o1 o2 o3 o4 o5:Option V) (x:Addr),σ=[some (.ref a),o1,o2,o3,o4,o5,some (.ref x),none,none]/\Same H H'/\PsV H' x (hA++hB)
def y4 (a:Addr)(H:Hp)(σ:L2.St)(H':Hp):Prop:=∃ (o1 o2 o3 o5:Option V) (x d:Addr),σ=[some (.ref a),o1,o2,o3,some (.ref d),o5,some (.ref x),none,none]/\Same H H'/\PsV H' x (hA++hB)/\HsV H' d hE
def y5 (a:Addr)(H:Hp)(σ:L2.St)(H':Hp):Prop:=∃ (o1 o2 o3 o5:Option V) (x d b:Addr),σ=[some (.ref a),o1,o2,o3,some (.ref d),o5,some (.ref x),some (.ref b),none]/\Same H H'/\PsV H' x (hA++hB)/\HsV H' d hE/\PsV H' b hC
def y6 (a:Addr)(H:Hp)(σ:L2.St)(H':Hp):Prop:=∃ (o1 o2 o3 o5:Option V) (x d b e:Addr),σ=[some (.ref a),o1,o2,o3,some (.ref d),o5,some (.ref x),some (.ref b),some (.ref e)]/\Same H H'/\PsV H' x (hA++hB)/\HsV H' d hE/\PsV H' b hC/\PsV H' e hD
def y7 (a:Addr)(H:Hp)(σ:L2.St)(H':Hp):Prop:=∃ (o1 o2 o3 o5:Option V) (x d b e:Addr),σ=[some (.ref a),o1,o2,o3,some (.ref d),o5,some (.ref x),some (.ref b),some (.ref e)]/\Same H H'/\PsV H' x (hA++hB)/\HsV H' d hE/\PsV H' b hC
theorem lk_D:Lk s00 hD s00 []:=by
  refine .lit (s':=⟨mAsis,[],[mAsis],[]⟩) rfl (by decide) (by decide) ?_
  refine .seat (h1:=[]) (h2:=[]) (.lit rfl (by decide) (by decide) .nil) ?_
  exact .lit rfl (by decide) (by decide) .nil
theorem lk_ABC:Lk s00 (hA++hB++hC) s00 (hE++hF):=by
  refine Lk.app (m:=s00) ?_ (.ife (h1:=[([109],kText)]) (h2:=[([111],kText),([109],kText)]) (h3:=[]) (.hole rfl (.lit rfl (by decide) (by decide) .nil)) (.each (h1:=[([111],kText),([109],kText)]) (h2:=[]) (.hole rfl (.hole rfl .nil)) .nil) .nil)
  refine .lit rfl (by decide) (by decide) (.hole rfl (.lit rfl (by decide) (by decide) (.hole rfl (.lit rfl (by decide) (by decide) (.hole rfl ?_)))))
  refine .lit rfl (by decide) (by decide) (.hole rfl (.lit rfl (by decide) (by decide) (.hole rfl (.lit rfl (by decide) (by decide) .nil))))
theorem ps_cons {H:Hp}{p:Pc}{ps:List Pc}{v:V}{vs:List V}(h:IsDs H (dPs [p]) [v])(k:IsDs H (dPs ps) vs):IsDs H (dPs (p::ps)) (v::vs):=by
  have:=h.app k
  rw [← dPs_app] at this
  exact this
theorem ps_nil {H:Hp}:IsDs H (dPs []) []:=by simp only [dPs];rfl
theorem lkP_of {H:Hp}{x:Addr}{ps:List Pc}{hs:Ho}(h:PsV H x ps)(h1:dpP.dpB ps<5)(h2:szPs ps<=3000)(k:Lk s00 ps s00 hs):LkP H (.ref x) ps hs:=by obtain⟨vs,e,h⟩:=h;exact⟨⟨x,vs,rfl,e,h⟩,h1,h2,k⟩
theorem made_p {H:Hp}{fa:Addr}{c:Int}{hs:Ho}(h:IsDt H (.ls (dPs (goodM 3 c kText))) (.ref fa))(hl:szPs (goodM 3 c kText)<=gL 3)(hf:Fit 3 kText (goodM 3 c kText) hs):LkP H (.ref fa) (goodM 3 c kText) hs:=⟨h,Nat.lt_succ_of_le (dp_good 3 c kText),Nat.le_trans hl (by decide),hf [] (by decide)⟩
theorem ok_law (T:Txt w K mg t)(D:Df K mg "law" s_law ps_law)(F__law_cell:OkF P w K mg base 1 "_law_cell" ps__law_cell (sp__law_cell K))(F__law_made:OkF P w K mg base 41 "_law_made" ps__law_made sp__law_made)(F__law_looked:OkF P w K mg base 63 "_law_looked" ps__law_looked sp__law_looked)(F__law_is:OkF P w K mg base 1 "_law_is" ps__law_is sp__law_is):OkF P w K mg base 64 "law" ps_law (sp_law K):=by
  refine D.ok sc_law (fun vs H Q E h=>?_) (fun f cdv A outer s H vs Q E hr h=>?_)
  · obtain⟨_,_,rfl,_⟩:=h;rfl
  · obtain⟨a,is,rfl,hS,h63,q⟩:=h
    refine⟨_,((qss_cons (qs_for PassesOwn.never (by rfl) (qi_range1 (by rfl) T.z_range (qa_cons (qe_callB (call_max2 (by rfl)) (by rfl) T.z_max bb_max (qa_cons qe_int (qa_cons (qe_callB (call_min2 (by rfl)) (by rfl) T.z_min bb_min (qa_cons (qe_callB (call_lenLK (K:=K) (by rfl)) (by rfl) T.z_len bb_len (qa_cons (qv 0) qa_nil)) (qa_cons qe_int qa_nil))) qa_nil))) qa_nil)) (qg_name (i:=1) sc_law.nd (by rfl) (Or.inl (by rfl))) (qss_cons (qs_set (i:=2) sc_law.nd (by rfl) (Or.inl (by rfl)) (qe_callF F__law_cell hr (by decide) (qa_cons (qv 0) (qa_cons (qv 1) qa_nil))))
      (qss_cons (qs_asg (qe_callF F__law_made hr (by decide) (qa_cons (qv 2) (qa_cons (qe_lst qa_nil) qa_nil))) (qg_tup (n:=2) (by rfl) (qgs_cons (qg_name (i:=3) sc_law.nd (by rfl) (Or.inl (by rfl))) (qgs_cons (qg_name (i:=4) sc_law.nd (by rfl) (Or.inl (by rfl))) qgs_nil))))
      (qss_cons (qs_set (i:=5) sc_law.nd (by rfl) (Or.inl (by rfl)) (qe_callF F__law_looked hr (by decide) (qa_cons (qv 3) qa_nil)))
      (qss_cons (qs_if (qt_not (qt_val (qe_callF F__law_is hr (by decide) (qa_cons (qv 5) (qa_cons (qv 4) qa_nil))))) (qss_one (qs_ret qe_bl)) qss_nil)
      (qss_cons (qs_expr (qe_bm0K (K:=K) (by rfl) PySem.F.plainAttrs_list PySem.F.slot_list_clear PySem.F.type_list_clear mt_clear (qe_ix (ix_tupK (K:=K) (by rfl)) (qv 5) qe_int (fun _ _=>(by rfl)))))
      (qss_one (qs_if (QW.qt (qw_or (qt_not (qt_val (qe_callF F__law_is hr (by decide) (qa_cons (qe_callF F__law_looked hr (by decide) (qa_cons (qv 3) qa_nil)) (qa_cons (qv 4) qa_nil))))) (qw_or1 (qt_cmpR (op_neD (hu64 hr)) (qv 3) (qe_ix (ix_tupK (K:=K) (by rfl)) (qe_callF F__law_made hr (by decide) (qa_cons (qv 2) (qa_cons (qe_lst qa_nil) qa_nil))) qe_int (fun _ _=>(by rfl))) (nomark _))))) (qss_one (qs_ret qe_bl)) qss_nil))))))))
      (qss_cons (qs_set (i:=6) sc_law.nd (by rfl) (Or.inl (by rfl)) (qe_lst (qa_cons (qe_tup (qa_cons (qe_S (l:=[108,105,116]) (by decide +kernel)) (qa_cons (qe_S (l:=[60,97,32,98,58]) (by decide +kernel)) qa_nil))) (qa_cons (qe_tup (qa_cons (qe_S (l:=[104,111,108,101]) (by decide +kernel)) (qa_cons (qe_S (l:=[112]) (by decide +kernel)) qa_nil))) (qa_cons (qe_tup (qa_cons (qe_S (l:=[108,105,116]) (by decide +kernel)) (qa_cons (qe_S (l:=[32,99,61,34]) (by decide +kernel)) qa_nil))) (qa_cons (qe_tup (qa_cons (qe_S (l:=[104,111,108,101]) (by decide +kernel)) (qa_cons (qe_S (l:=[113]) (by decide +kernel)) qa_nil))) (qa_cons (qe_tup (qa_cons (qe_S (l:=[108,105,116]) (by decide +kernel)) (qa_cons (qe_S (l:=[34,32,100,40,120,44]) (by decide +kernel)) qa_nil))) (qa_cons (qe_tup (qa_cons (qe_S (l:=[104,111,108,101]) (by decide +kernel)) (qa_cons (qe_S (l:=[114]) (by decide +kernel)) qa_nil))) qa_nil))))))))
      (qss_cons (qs_set (i:=6) sc_law.nd (by rfl) (Or.inl (by rfl)) (qe_op op_cat (qv 6) (qe_lst (qa_cons (qe_tup (qa_cons (qe_S (l:=[108,105,116]) (by decide +kernel)) (qa_cons (qe_S (l:=[41,32,101,33,34,121,32,39]) (by decide +kernel)) qa_nil))) (qa_cons (qe_tup (qa_cons (qe_S (l:=[104,111,108,101]) (by decide +kernel)) (qa_cons (qe_S (l:=[115]) (by decide +kernel)) qa_nil))) (qa_cons (qe_tup (qa_cons (qe_S (l:=[108,105,116]) (by decide +kernel)) (qa_cons (qe_S (l:=[39,34,62]) (by decide +kernel)) qa_nil))) (qa_cons (qe_tup (qa_cons (qe_S (l:=[104,111,108,101]) (by decide +kernel)) (qa_cons (qe_S (l:=[116]) (by decide +kernel)) qa_nil))) (qa_cons (qe_tup (qa_cons (qe_S (l:=[108,105,116]) (by decide +kernel)) (qa_cons (qe_S (l:=[60,47,97,62]) (by decide +kernel)) qa_nil))) qa_nil))))))))
      (qss_cons (qs_set (i:=4) sc_law.nd (by rfl) (Or.inl (by rfl)) (qe_lst (qa_cons (qe_tup (qa_cons (qe_S (l:=[112]) (by decide +kernel)) (qa_cons (qe_S (l:=[98,97,114,101]) (by decide +kernel)) qa_nil))) (qa_cons (qe_tup (qa_cons (qe_S (l:=[113]) (by decide +kernel)) (qa_cons (qe_S (l:=[113,117,111,116,101,100]) (by decide +kernel)) qa_nil))) (qa_cons (qe_tup (qa_cons (qe_S (l:=[114]) (by decide +kernel)) (qa_cons (qe_S (l:=[114,111,119]) (by decide +kernel)) qa_nil))) (qa_cons (qe_tup (qa_cons (qe_S (l:=[115]) (by decide +kernel)) (qa_cons (qe_S (l:=[115,97,105,100]) (by decide +kernel)) qa_nil))) (qa_cons (qe_tup (qa_cons (qe_S (l:=[116]) (by decide +kernel)) (qa_cons (qe_S (l:=[116,101,120,116]) (by decide +kernel)) qa_nil))) qa_nil)))))))
      (qss_cons (qs_set (i:=7) sc_law.nd (by rfl) (Or.inl (by rfl)) (qe_lst (qa_cons (qe_tup (qa_cons (qe_S (l:=[105,102]) (by decide +kernel)) (qa_cons (qe_S (l:=[105]) (by decide +kernel)) (qa_cons (qe_lst (qa_cons (qe_tup (qa_cons (qe_S (l:=[104,111,108,101]) (by decide +kernel)) (qa_cons (qe_S (l:=[109]) (by decide +kernel)) qa_nil))) (qa_cons (qe_tup (qa_cons (qe_S (l:=[108,105,116]) (by decide +kernel)) (qa_cons (qe_S (l:=[38,48,53,59]) (by decide +kernel)) qa_nil))) qa_nil))) (qa_cons (qe_lst (qa_cons (qe_tup (qa_cons (qe_S (l:=[101,97,99,104]) (by decide +kernel)) (qa_cons (qe_S (l:=[110]) (by decide +kernel)) (qa_cons (qe_lst (qa_cons (qe_tup (qa_cons (qe_S (l:=[104,111,108,101]) (by decide +kernel)) (qa_cons (qe_S (l:=[111]) (by decide +kernel)) qa_nil))) (qa_cons (qe_tup (qa_cons (qe_S (l:=[104,111,108,101]) (by decide +kernel)) (qa_cons (qe_S (l:=[109]) (by decide +kernel)) qa_nil))) qa_nil))) qa_nil)))) qa_nil)) qa_nil))))) qa_nil)))
      (qss_cons (qs_set (i:=8) sc_law.nd (by rfl) (Or.inl (by rfl)) (qe_lst (qa_cons (qe_tup (qa_cons (qe_S (l:=[108,105,116]) (by decide +kernel)) (qa_cons (qe_S (l:=[60,97,115,105,115,62]) (by decide +kernel)) qa_nil))) (qa_cons (qe_tup (qa_cons (qe_S (l:=[115,101,97,116]) (by decide +kernel)) (qa_cons (qe_S (l:=[100,114,97,119]) (by decide +kernel)) (qa_cons (qe_S (l:=[112]) (by decide +kernel)) (qa_cons (qe_S (l:=[]) (by decide +kernel)) (qa_cons (qe_lst (qa_cons (qe_tup (qa_cons (qe_S (l:=[108,105,116]) (by decide +kernel)) (qa_cons (qe_S (l:=[97,60,98]) (by decide +kernel)) qa_nil))) qa_nil)) qa_nil)))))) (qa_cons (qe_tup (qa_cons (qe_S (l:=[108,105,116]) (by decide +kernel)) (qa_cons (qe_S (l:=[60,47,97,115,105,115,62]) (by decide +kernel)) qa_nil))) qa_nil)))))
      (qss_cons (qs_if (QW.qt (qw_or (qt_not (qt_val (qe_callF F__law_is hr (by decide) (qa_cons (qe_callF F__law_looked hr (by decide) (qa_cons (qv 8) qa_nil)) (qa_cons (qe_lst qa_nil) qa_nil))))) (qw_or1 (qt_not (qt_val (qe_callF F__law_is hr (by decide) (qa_cons (qe_callF F__law_looked hr (by decide) (qa_cons (qe_lst qa_nil) qa_nil)) (qa_cons (qe_lst qa_nil) qa_nil)))))))) (qss_one (qs_ret qe_bl)) qss_nil)
      (qss_one (qs_ret (qe_callF F__law_is hr (by decide) (qa_cons (qe_callF F__law_looked hr (by decide) (qa_cons (qe_op op_cat (qv 6) (qv 7)) qa_nil)) (qa_cons (qe_op op_cat (qv 4) (qe_lst (qa_cons (qe_tup (qa_cons (qe_S (l:=[109]) (by decide +kernel)) (qa_cons (qe_S (l:=[116,101,120,116]) (by decide +kernel)) qa_nil))) (qa_cons (qe_tup (qa_cons (qe_S (l:=[111]) (by decide +kernel)) (qa_cons (qe_S (l:=[116,101,120,116]) (by decide +kernel)) qa_nil))) (qa_cons (qe_tup (qa_cons (qe_S (l:=[109]) (by decide +kernel)) (qa_cons (qe_S (l:=[116,101,120,116]) (by decide +kernel)) qa_nil))) qa_nil))))) qa_nil))))))))))))).h,?_⟩
    refine seq_gen (y1 a H) ?_ fun N hN=>?_
    · rintro σ H1 ⟨o1,o2,o3,o4,o5,rfl,g1⟩
      refine seq_gen (y2 a H) ?_ fun N hN=>?_
      · rintro σ H2 ⟨o1,o2,o3,o4,o5,x,rfl,g2,hx⟩
        refine seq_gen (y3 a H) ?_ fun N hN=>?_
        · rintro σ H3 ⟨o1,o2,o3,o4,o5,x,rfl,g3,hx⟩
          refine seq_gen (y4 a H) ?_ fun N hN=>?_
          · rintro σ H4 ⟨o1,o2,o3,o5,x,d,rfl,g4,hx,hd⟩
            refine seq_gen (y5 a H) ?_ fun N hN=>?_
            · rintro σ H5 ⟨o1,o2,o3,o5,x,d,b,rfl,g5,hx,hd,hb⟩
              refine seq_gen (y6 a H) ?_ fun N hN=>?_
              · rintro σ H6 ⟨o1,o2,o3,o5,x,d,b,e,rfl,g6,hx,hd,hb,he⟩
                refine seq_gen (y7 a H) ?_ fun N hN=>?_
                · rintro σ H7 ⟨o1,o2,o3,o5,x,d,b,e,rfl,g7,hx,hd,hb⟩
                  walk_at "rd"
                  obtain⟨vx,ex,dx⟩:=hx
                  obtain⟨vb,eb,db⟩:=hb
                  have lx:vx.length=11:=by have:=dx.len;rw [dPs_len] at this;exact this.symm
                  have lb:vb.length=1:=by have:=db.len;rw [dPs_len] at this;exact this.symm
                  refine⟨vx,ex,vb,eb,by lia,fun p hp=>?_⟩
                  have k:=same_upd (o:=.lst (vx++vb)) hp
                  refine⟨hA++hB++hC,hE++hF,lkP_of ⟨_,upd_same,by rw [dPs_app];exact(dx.mono k).app (db.mono k)⟩ (by decide) (by decide) lk_ABC,fun r ha hv H8 g8 _ e1 e2 ho p0 h0 p1 h1 p2 h2 p3 h3=>?_⟩
                  have k0:=same_upd (o:=.tup [V.str (S [109]),V.str (S [116,101,120,116])]) h0
                  have k1:=same_upd (o:=.tup [V.str (S [111]),V.str (S [116,101,120,116])]) h1
                  have k2:=same_upd (o:=.tup [V.str (S [109]),V.str (S [116,101,120,116])]) h2
                  have k3:=same_upd (o:=.lst [V.ref p0,V.ref p1,V.ref p2]) h3
                  have a2:=k2.trans k3
                  have a1:=k1.trans a2
                  have a0:=k0.trans a1
                  obtain⟨vd,ed,hod⟩:=hd
                  have gd:=(k.trans g8).trans a0
                  refine⟨vd,gd _ _ ed,_,upd_same,by have:=hod.len;rw [this];show 5+3<=16777216;decide,fun p4 h4=>?_⟩
                  have k4:=same_upd (o:=.lst (vd++[V.ref p0,V.ref p1,V.ref p2])) h4
                  have b0:=a0.trans k4
                  refine⟨ha,b0 _ _ e1,hv,b0 _ _ e2,_,hE++hF,ho.mono (TpS.of b0),upd_same,(hod.mono (TpS.of (gd.trans k4))).app (HoA.mono (.cons ⟨p0,rfl,a1 _ _ upd_same⟩ (.cons ⟨p1,rfl,a2 _ _ upd_same⟩ (.cons ⟨p2,rfl,k3 _ _ upd_same⟩ .nil))) (TpS.of k4)),by decide,fun H9 g9=>?_⟩
                  exact q _
                · walk_at "rd"
                  refine⟨hD,[],lkP_of he (by decide) (by decide) lk_D,fun r ha hv H7 g7 _ e1 e2 ho p hp=>?_⟩
                  have k:=same_upd (o:=.lst []) hp
                  refine⟨ha,k _ _ e1,hv,k _ _ e2,[],[],ho.mono (TpS.of k),upd_same,.nil,by decide,fun H8 g8 p2 hp2=>?_⟩
                  have k2:=same_upd (o:=.lst []) hp2
                  refine⟨[],[],lkP_of ⟨[],upd_same,ps_nil⟩ (by decide) (by decide) .nil,fun r3 ha3 hv3 H9 g9 _ e31 e32 ho3 p4 hp4=>?_⟩
                  have k4:=same_upd (o:=.lst []) hp4
                  refine⟨ha3,k4 _ _ e31,hv3,k4 _ _ e32,[],[],ho3.mono (TpS.of k4),upd_same,.nil,by decide,fun H10 g10=>?_⟩
                  have gg:=g7.trans (k.trans (g8.trans (k2.trans (g9.trans (k4.trans g10)))))
                  exact hN _ _ ⟨_,_,_,_,x,d,b,e,rfl,g6.trans gg,hx.mono gg,hd.mono gg,hb.mono gg⟩
              · walk_at "rd"
                intro p0 h0 p1 h1 p2 h2 p3 h3 p4 h4 p5 h5
                have k0:=same_upd (o:=.tup [V.str (S [108,105,116]),V.str (S [60,97,115,105,115,62])]) h0
                have k1:=same_upd (o:=.tup [V.str (S [108,105,116]),V.str (S [97,60,98])]) h1
                have k2:=same_upd (o:=.lst [V.ref p1]) h2
                have k3:=same_upd (o:=.tup [V.str (S [115,101,97,116]),V.str (S [100,114,97,119]),V.str (S [112]),V.str (S []),V.ref p2]) h3
                have k4:=same_upd (o:=.tup [V.str (S [108,105,116]),V.str (S [60,47,97,115,105,115,62])]) h4
                have k5:=same_upd (o:=.lst [V.ref p0,V.ref p3,V.ref p4]) h5
                have a5:=k5
                have a4:=k4.trans a5
                have a3:=k3.trans a4
                have a2:=k2.trans a3
                have a1:=k1.trans a2
                have a0:=k0.trans a1
                exact hN _ _ ⟨_,_,_,_,x,d,b,p5,rfl,g5.trans a0,hx.mono a0,hd.mono a0,hb.mono a0,_,upd_same,ps_cons (dt_lit (a1 _ _ upd_same)) (ps_cons (dt_seat (w:=[100,114,97,119]) (n:=[112]) (m:=[]) (a4 _ _ upd_same) ⟨p2,_,rfl,a3 _ _ upd_same,dt_lit (a2 _ _ upd_same)⟩) (ps_cons (dt_lit (a5 _ _ upd_same)) ps_nil))⟩
            · walk_at "rd"
              intro p0 h0 p1 h1 p2 h2 p3 h3 p4 h4 p5 h5 p6 h6 p7 h7 p8 h8 p9 h9
              have k0:=same_upd (o:=.tup [V.str (S [104,111,108,101]),V.str (S [109])]) h0
              have k1:=same_upd (o:=.tup [V.str (S [108,105,116]),V.str (S [38,48,53,59])]) h1
              have k2:=same_upd (o:=.lst [V.ref p0,V.ref p1]) h2
              have k3:=same_upd (o:=.tup [V.str (S [104,111,108,101]),V.str (S [111])]) h3
              have k4:=same_upd (o:=.tup [V.str (S [104,111,108,101]),V.str (S [109])]) h4
              have k5:=same_upd (o:=.lst [V.ref p3,V.ref p4]) h5
              have k6:=same_upd (o:=.tup [V.str (S [101,97,99,104]),V.str (S [110]),V.ref p5]) h6
              have k7:=same_upd (o:=.lst [V.ref p6]) h7
              have k8:=same_upd (o:=.tup [V.str (S [105,102]),V.str (S [105]),V.ref p2,V.ref p7]) h8
              have k9:=same_upd (o:=.lst [V.ref p8]) h9
              have a9:=k9
              have a8:=k8.trans a9
              have a7:=k7.trans a8
              have a6:=k6.trans a7
              have a5:=k5.trans a6
              have a4:=k4.trans a5
              have a3:=k3.trans a4
              have a2:=k2.trans a3
              have a1:=k1.trans a2
              have a0:=k0.trans a1
              have d1:=ps_cons (dt_hole (t:=[109]) (a1 _ _ upd_same)) (ps_cons (dt_lit (t:=[38,48,53,59]) (a2 _ _ upd_same)) ps_nil)
              have d2:=ps_cons (dt_hole (t:=[111]) (a4 _ _ upd_same)) (ps_cons (dt_hole (t:=[109]) (a5 _ _ upd_same)) ps_nil)
              have d3:=dt_each (n:=[110]) (a7 _ _ upd_same) ⟨p5,_,rfl,a6 _ _ upd_same,d2⟩
              exact hN _ _ ⟨_,_,_,_,x,d,p9,rfl,g4.trans a0,hx.mono a0,hd.mono a0,_,upd_same,dt_ife (n:=[105]) (a9 _ _ upd_same) ⟨p2,_,rfl,a3 _ _ upd_same,d1⟩ ⟨p7,_,rfl,a8 _ _ upd_same,d3⟩⟩
          · walk_at "rd"
            intro p0 h0 p1 h1 p2 h2 p3 h3 p4 h4 p5 h5
            have k0:=same_upd (o:=.tup [V.str (S [112]),V.str (S [98,97,114,101])]) h0
            have k1:=same_upd (o:=.tup [V.str (S [113]),V.str (S [113,117,111,116,101,100])]) h1
            have k2:=same_upd (o:=.tup [V.str (S [114]),V.str (S [114,111,119])]) h2
            have k3:=same_upd (o:=.tup [V.str (S [115]),V.str (S [115,97,105,100])]) h3
            have k4:=same_upd (o:=.tup [V.str (S [116]),V.str (S [116,101,120,116])]) h4
            have k5:=same_upd (o:=.lst [V.ref p0,V.ref p1,V.ref p2,V.ref p3,V.ref p4]) h5
            have a5:=k5
            have a4:=k4.trans a5
            have a3:=k3.trans a4
            have a2:=k2.trans a3
            have a1:=k1.trans a2
            have a0:=k0.trans a1
            exact hN _ _ ⟨_,_,_,_,x,p5,rfl,g3.trans a0,hx.mono a0,_,upd_same,(.cons ⟨p0,rfl,a1 _ _ upd_same⟩ (.cons ⟨p1,rfl,a2 _ _ upd_same⟩ (.cons ⟨p2,rfl,a3 _ _ upd_same⟩ (.cons ⟨p3,rfl,a4 _ _ upd_same⟩ (.cons ⟨p4,rfl,a5 _ _ upd_same⟩ .nil)))))⟩
        · walk_at "rd"
          intro p0 h0 p1 h1 p2 h2 p3 h3 p4 h4 p5 h5
          have k0:=same_upd (o:=.tup [V.str (S [108,105,116]),V.str (S [41,32,101,33,34,121,32,39])]) h0
          have k1:=same_upd (o:=.tup [V.str (S [104,111,108,101]),V.str (S [115])]) h1
          have k2:=same_upd (o:=.tup [V.str (S [108,105,116]),V.str (S [39,34,62])]) h2
          have k3:=same_upd (o:=.tup [V.str (S [104,111,108,101]),V.str (S [116])]) h3
          have k4:=same_upd (o:=.tup [V.str (S [108,105,116]),V.str (S [60,47,97,62])]) h4
          have k5:=same_upd (o:=.lst [V.ref p0,V.ref p1,V.ref p2,V.ref p3,V.ref p4]) h5
          have a5:=k5
          have a4:=k4.trans a5
          have a3:=k3.trans a4
          have a2:=k2.trans a3
          have a1:=k1.trans a2
          have a0:=k0.trans a1
          obtain⟨vs,ex,hds⟩:=hx
          refine⟨vs,a0 _ _ ex,_,upd_same,?_,fun p6 h6=>?_⟩
          · have:=hds.len
            rw [dPs_len] at this
            rw [← this]
            show 6+5<=16777216
            decide
          · have k6:=same_upd (o:=.lst (vs++[V.ref p0,V.ref p1,V.ref p2,V.ref p3,V.ref p4])) h6
            refine hN _ _ ⟨_,_,_,_,_,p6,rfl,g2.trans (a0.trans k6),_,upd_same,?_⟩
            rw [dPs_app]
            have hb0:IsDs _ (dPs hB) _:=(ps_cons (dt_lit (a1 _ _ upd_same)) (ps_cons (dt_hole (a2 _ _ upd_same)) (ps_cons (dt_lit (a3 _ _ upd_same)) (ps_cons (dt_hole (a4 _ _ upd_same)) (ps_cons (dt_lit (a5 _ _ upd_same)) ps_nil)))))
            exact(hds.mono (a0.trans k6)).app (hb0.mono k6)
      · walk_at "rd"
        intro p0 h0 p1 h1 p2 h2 p3 h3 p4 h4 p5 h5 p6 h6
        have k0:=same_upd (o:=.tup [V.str (S [108,105,116]),V.str (S [60,97,32,98,58])]) h0
        have k1:=same_upd (o:=.tup [V.str (S [104,111,108,101]),V.str (S [112])]) h1
        have k2:=same_upd (o:=.tup [V.str (S [108,105,116]),V.str (S [32,99,61,34])]) h2
        have k3:=same_upd (o:=.tup [V.str (S [104,111,108,101]),V.str (S [113])]) h3
        have k4:=same_upd (o:=.tup [V.str (S [108,105,116]),V.str (S [34,32,100,40,120,44])]) h4
        have k5:=same_upd (o:=.tup [V.str (S [104,111,108,101]),V.str (S [114])]) h5
        have k6:=same_upd (o:=.lst [V.ref p0,V.ref p1,V.ref p2,V.ref p3,V.ref p4,V.ref p5]) h6
        have a6:=k6
        have a5:=k5.trans a6
        have a4:=k4.trans a5
        have a3:=k3.trans a4
        have a2:=k2.trans a3
        have a1:=k1.trans a2
        have a0:=k0.trans a1
        exact hN _ _ ⟨_,_,_,_,_,p6,rfl,g1.trans a0,_,upd_same,(ps_cons (dt_lit (a1 _ _ upd_same)) (ps_cons (dt_hole (a2 _ _ upd_same)) (ps_cons (dt_lit (a3 _ _ upd_same)) (ps_cons (dt_hole (a4 _ _ upd_same)) (ps_cons (dt_lit (a5 _ _ upd_same)) (ps_cons (dt_hole (a6 _ _ upd_same)) ps_nil))))))⟩
    · walk_at "rd"
      refine⟨_,.inl hS,?_⟩
      rw [List.length_map]
      generalize hn0:(if (if (10:Int)<(is.length:Int) then 10 else(is.length:Int)) > 2 then if (10:Int)<(is.length:Int) then 10 else(is.length:Int) else 2)=n0
      have hb:0<=n0/\n0<=10:=by rw [← hn0];split<;>(try split)<;>lia
      refine⟨by lia,by lia,?_⟩
      refine fb_range (fun _=>y1 a H) ⟨_,_,_,_,_,rfl,Same.refl H⟩ ?_ ?_
      · rintro i σ H1 hi ⟨o1,o2,o3,o4,o5,rfl,g1⟩
        walk_at "rd"
        refine⟨is,g1.seq hS,h63,by lia,fun c H2 g2 p2 h2=>⟨upd_same,fun r H3 g3 hm=>?_⟩⟩
        obtain⟨pm,fa,da,xs,rfl,m1,m2,m3,m4,m5,hs,hho,hft⟩:=hm
        have m4':xs.length<=2977:=m4
        have hhl:=hho.len
        refine⟨pm,rfl,_,SqT.of m1,rfl,_,_,rfl,_,_,rfl,rfl,goodM 3 c kText,hs,made_p m2 m5 hft,fun r4 ha hv H4 g4 n4 e1 e2 ho=>?_⟩
        refine⟨ha,da,rfl,e1,hv,e2,xs,hs,ho,g4 _ _ m3,hho.mono (TpS.of g4),by lia,fun H5 g5=>?_⟩
        have e2':=g5 _ _ e2
        refine⟨_,SqT.of (g5 _ _ e1),_,atI_1 _ _ _,.inl ⟨rfl,_,SqL.of e2'⟩,ha,rfl,⟨_,e2'⟩,?_⟩
        have gc:Same H3 (upd H5 ha (.lst [])):=same_put n4 (g4.trans g5)
        refine⟨goodM 3 c kText,hs,made_p (m2.mono gc) m5 hft,fun r6 ha6 hv6 H6 g6 n6 e61 e62 ho6=>?_⟩
        have g36:=gc.trans g6
        refine⟨ha6,da,rfl,e61,hv6,e62,xs,hs,ho6,g36 _ _ m3,hho.mono (TpS.of g36),by lia,fun H7 g7 p7 hp7=>⟨upd_same,fun r8 H8 g8 hm2=>?_⟩⟩
        obtain⟨pm2,fa2,da2,xs2,rfl,q1,q2,q3,q4,q5,_⟩:=hm2
        have g38:=g36.trans (g7.trans ((same_upd hp7).trans g8))
        refine⟨pm2,rfl,_,SqT.of q1,_,atI_0 _ _,.ls (dPs (goodM 3 c kText)),.ls (dPs (goodM 3 c kText)),fa,rfl,fa2,rfl,m2.mono g38,q2,?_,?_⟩
        · have:=dep_P.dep_Ps (goodM 3 c kText)
          have dg:=dp_good 3 c kText
          simp only [depD]
          lia
        · rw [if_neg (by rw [eqD_refl (by simp only [flatD];exact flat_P.flat_Ps _)];decide)]
          exact⟨_,_,_,_,_,rfl,g1.trans (g2.trans ((same_upd h2).trans (g3.trans g38)))⟩
      · rintro σ H1 h
        exact hN _ _ h
end
end My
set_option maxHeartbeats 0
open PySem L2 PySem.Spec PyProof.Rows
namespace My
theorem len0 {α:Type}{us:List α}(h:us.length=0):us=[]:=List.length_eq_zero_iff.mp h
theorem len1 {α:Type}:∀ {us:List α},us.length=1->∃ a0,us=[a0]
  | [a0],_=>⟨a0,rfl⟩
theorem len2 {α:Type}:∀ {us:List α},us.length=2->∃ a0 a1,us=[a0,a1]
  | [a0,a1],_=>⟨a0,a1,rfl⟩
theorem len3 {α:Type}:∀ {us:List α},us.length=3->∃ a0 a1 a2,us=[a0,a1,a2]
  | [a0,a1,a2],_=>⟨a0,a1,a2,rfl⟩
theorem len4 {α:Type}:∀ {us:List α},us.length=4->∃ a0 a1 a2 a3,us=[a0,a1,a2,a3]
  | [a0,a1,a2,a3],_=>⟨a0,a1,a2,a3,rfl⟩
theorem len5 {α:Type}:∀ {us:List α},us.length=5->∃ a0 a1 a2 a3 a4,us=[a0,a1,a2,a3,a4]
  | [a0,a1,a2,a3,a4],_=>⟨a0,a1,a2,a3,a4,rfl⟩
theorem len6 {α:Type}:∀ {us:List α},us.length=6->∃ a0 a1 a2 a3 a4 a5,us=[a0,a1,a2,a3,a4,a5]
  | [a0,a1,a2,a3,a4,a5],_=>⟨a0,a1,a2,a3,a4,a5,rfl⟩
theorem len7 {α:Type}:∀ {us:List α},us.length=7->∃ a0 a1 a2 a3 a4 a5 a6,us=[a0,a1,a2,a3,a4,a5,a6]
  | [a0,a1,a2,a3,a4,a5,a6],_=>⟨a0,a1,a2,a3,a4,a5,a6,rfl⟩
theorem dfm {K:PySem.W.Frag}{mg:Str->Option Value}{h:Heap}{x:Str}{st:Stmt}{ps:List Str}{f cd:Addr}{pm:Value}(X:K.In h)(G:h.Ns mainGlobals mg)
    (b:∀ (kV doc pm:Value) (an:Option Addr) (cdv ct:Value) (us:List Value),us.length=ps.length->bindArgs (PySem.W.fnOf x x (defArgs st) (defBody st) (defScope st) .none kV doc pm an cdv ct) ⟨us,[]⟩=pure (ps.zip us))
    (a:PySem.W.nsIn K mainGlobals x=some (some (.ref f))) (l:K.lookup f=some ⟨.type "function",none,.func (PySem.W.fnOf x x (defArgs st) (defBody st) (defScope st) .none .none .none pm none (.ref cd) .none),#[]⟩)
    (c:PySem.W.codeIn K (.ref cd) x=true) (k:PySem.W.keepIn K (.ref f)=true):Df K mg x st ps:=df_mk X G b a l c k
theorem dmm {K:PySem.W.Frag}{C:Addr}{m qual:Str}{st:Stmt}{ps:List Str}{f cd:Addr}{pm:Value}
    (b:∀ (kV doc pm:Value) (an:Option Addr) (cdv ct:Value) (us:List Value),us.length=ps.length->bindArgs (PySem.W.fnOf m qual (defArgs st) (defBody st) (defScope st) .none kV doc pm an cdv ct) ⟨us,[]⟩=pure (ps.zip us))
    (l:K.lookup f=some ⟨.type "function",none,.func (PySem.W.fnOf m qual (defArgs st) (defBody st) (defScope st) .none .none .none pm none (.ref cd) .none),#[]⟩)
    (c:PySem.W.codeIn K (.ref cd) qual=true) (k:PySem.W.keepIn K (.ref f)=true) (cl:Cls K C) (mt:Meth K C m f):Dm K C m qual st ps:=⟨f,_,fun_mk l c k,(fun_mk l c k).binds b,cl,mt⟩
theorem dcm {K:PySem.W.Frag}{mg:Str->Option Value}{h:Heap}{C:Addr}{x qual:Str}{st:Stmt}{ps:List Str}{f cd:Addr}{pm:Value}(X:K.In h)(G:h.Ns mainGlobals mg)
    (b:∀ (kV doc pm:Value) (an:Option Addr) (cdv ct:Value) (us:List Value),us.length=ps.length->bindArgs (PySem.W.fnOf "__init__" qual (defArgs st) (defBody st) (defScope st) .none kV doc pm an cdv ct) ⟨us,[]⟩=pure (ps.zip us))
    (a:PySem.W.nsIn K mainGlobals x=some (some (.ref C))) (l:K.lookup f=some ⟨.type "function",none,.func (PySem.W.fnOf "__init__" qual (defArgs st) (defBody st) (defScope st) .none .none .none pm none (.ref cd) .none),#[]⟩)
    (c:PySem.W.codeIn K (.ref cd) qual=true) (k:PySem.W.keepIn K (.ref f)=true) (mk:Mk K C f):Dc K mg C x qual st ps:=⟨f,_,fun_mk l c k,(fun_mk l c k).binds b,mk,PySem.W.mg_of X G a⟩
theorem inim {K:PySem.W.Frag}{C:Addr}{qual:Str}{st:Stmt}{ps:List Str}{f cd:Addr}{pm:Value}
    (b:∀ (kV doc pm:Value) (an:Option Addr) (cdv ct:Value) (us:List Value),us.length=ps.length->bindArgs (PySem.W.fnOf "__init__" qual (defArgs st) (defBody st) (defScope st) .none kV doc pm an cdv ct) ⟨us,[]⟩=pure (ps.zip us))
    (a:xInit K C=some (some (.ref f))) (l:K.lookup f=some ⟨.type "function",none,.func (PySem.W.fnOf "__init__" qual (defArgs st) (defBody st) (defScope st) .none .none .none pm none (.ref cd) .none),#[]⟩)
    (c:PySem.W.codeIn K (.ref cd) qual=true) (k:PySem.W.keepIn K (.ref f)=true):Ini K C qual st ps:=ini_mk b a l c k
theorem all_ok {l:PySem.W.OpenLaw}{w:World}{h:Heap}{mg:Str->Option Value}{fa:Addr}(X:(KH w.params).In h)(G:h.Ns mainGlobals mg)(hfa:mg "law" = some (.ref fa)) :
    ∃ fd:FuncData,(∀ (s:Shared) (v:Value),BindsTo s fd ⟨[v],[]⟩ [("_law_script",v)])/\∀ base:Heap,(KH w.params).In base->base.Ns mainGlobals mg->FnOk l.prog w (KH w.params) mg base CX0 64 fa fd ["_law_script"] (sp_law (KH w.params)):=by
  have C_Looking:Cls (KH w.params) 789:=⟨by kernel_rfl!,by kernel_rfl!,by kernel_rfl!,by kernel_rfl!⟩
  have C_Spot:Cls (KH w.params) 712:=⟨by kernel_rfl!,by kernel_rfl!,by kernel_rfl!,by kernel_rfl!⟩
  have D_sign_of:Df (KH w.params) mg "sign_of" s_sign_of ps_sign_of:=dfm (f:=393) (pm:=(.str "sealpress.signs" 688)) (cd:=392) X G (fun _ _ _ _ _ _ us hl=>by obtain⟨_,rfl⟩:=len1 hl;rfl) (by kernel_rfl!) (by kernel_rfl!) (by kernel_rfl!) (by kernel_rfl!)
  have D_sign_told:Df (KH w.params) mg "sign_told" s_sign_told ps_sign_told:=dfm (f:=400) (pm:=(.str "sealpress.signs" 688)) (cd:=399) X G (fun _ _ _ _ _ _ us hl=>by obtain⟨_,rfl⟩:=len1 hl;rfl) (by kernel_rfl!) (by kernel_rfl!) (by kernel_rfl!) (by kernel_rfl!)
  have D_place_of:Df (KH w.params) mg "place_of" s_place_of ps_place_of:=dfm (f:=408) (pm:=(.str "sealpress.places" 715)) (cd:=407) X G (fun _ _ _ _ _ _ us hl=>by obtain⟨_,rfl⟩:=len1 hl;rfl) (by kernel_rfl!) (by kernel_rfl!) (by kernel_rfl!) (by kernel_rfl!)
  have D_fed_between:Df (KH w.params) mg "fed_between" s_fed_between ps_fed_between:=dfm (f:=415) (pm:=(.str "sealpress.talks" 729)) (cd:=414) X G (fun _ _ _ _ _ _ us hl=>by obtain⟨_,rfl⟩:=len1 hl;rfl) (by kernel_rfl!) (by kernel_rfl!) (by kernel_rfl!) (by kernel_rfl!)
  have D_fed_word:Df (KH w.params) mg "fed_word" s_fed_word ps_fed_word:=dfm (f:=422) (pm:=(.str "sealpress.talks" 729)) (cd:=421) X G (fun _ _ _ _ _ _ us hl=>by obtain⟨_,rfl⟩:=len1 hl;rfl) (by kernel_rfl!) (by kernel_rfl!) (by kernel_rfl!) (by kernel_rfl!)
  have D_fed_said:Df (KH w.params) mg "fed_said" s_fed_said ps_fed_said:=dfm (f:=429) (pm:=(.str "sealpress.talks" 729)) (cd:=428) X G (fun _ _ _ _ _ _ us hl=>by obtain⟨_,rfl⟩:=len1 hl;rfl) (by kernel_rfl!) (by kernel_rfl!) (by kernel_rfl!) (by kernel_rfl!)
  have D_feed:Df (KH w.params) mg "feed" s_feed ps_feed:=dfm (f:=436) (pm:=(.str "sealpress.talks" 729)) (cd:=435) X G (fun _ _ _ _ _ _ us hl=>by obtain⟨_,_,rfl⟩:=len2 hl;rfl) (by kernel_rfl!) (by kernel_rfl!) (by kernel_rfl!) (by kernel_rfl!)
  have D_come_to:Df (KH w.params) mg "come_to" s_come_to ps_come_to:=dfm (f:=443) (pm:=(.str "sealpress.modes" 760)) (cd:=442) X G (fun _ _ _ _ _ _ us hl=>by obtain⟨_,_,_,rfl⟩:=len3 hl;rfl) (by kernel_rfl!) (by kernel_rfl!) (by kernel_rfl!) (by kernel_rfl!)
  have D_told:Df (KH w.params) mg "told" s_told ps_told:=dfm (f:=450) (pm:=(.str "sealpress.modes" 760)) (cd:=449) X G (fun _ _ _ _ _ _ us hl=>by obtain⟨_,_,_,rfl⟩:=len3 hl;rfl) (by kernel_rfl!) (by kernel_rfl!) (by kernel_rfl!) (by kernel_rfl!)
  have D_gathered:Df (KH w.params) mg "gathered" s_gathered ps_gathered:=dfm (f:=457) (pm:=(.str "sealpress.modes" 760)) (cd:=456) X G (fun _ _ _ _ _ _ us hl=>by obtain⟨_,_,_,_,_,rfl⟩:=len5 hl;rfl) (by kernel_rfl!) (by kernel_rfl!) (by kernel_rfl!) (by kernel_rfl!)
  have D_box_shut:Df (KH w.params) mg "box_shut" s_box_shut ps_box_shut:=dfm (f:=464) (pm:=(.str "sealpress.modes" 760)) (cd:=463) X G (fun _ _ _ _ _ _ us hl=>by obtain⟨_,_,rfl⟩:=len2 hl;rfl) (by kernel_rfl!) (by kernel_rfl!) (by kernel_rfl!) (by kernel_rfl!)
  have D_into_box:Df (KH w.params) mg "into_box" s_into_box ps_into_box:=dfm (f:=471) (pm:=(.str "sealpress.modes" 760)) (cd:=470) X G (fun _ _ _ _ _ _ us hl=>by obtain⟨_,_,rfl⟩:=len2 hl;rfl) (by kernel_rfl!) (by kernel_rfl!) (by kernel_rfl!) (by kernel_rfl!)
  have D_led_on:Df (KH w.params) mg "led_on" s_led_on ps_led_on:=dfm (f:=478) (pm:=(.str "sealpress.modes" 760)) (cd:=477) X G (fun _ _ _ _ _ _ us hl=>by obtain⟨_,_,_,rfl⟩:=len3 hl;rfl) (by kernel_rfl!) (by kernel_rfl!) (by kernel_rfl!) (by kernel_rfl!)
  have D_fed:Df (KH w.params) mg "fed" s_fed ps_fed:=dfm (f:=485) (pm:=(.str "sealpress.modes" 760)) (cd:=484) X G (fun _ _ _ _ _ _ us hl=>by obtain⟨_,_,_,rfl⟩:=len3 hl;rfl) (by kernel_rfl!) (by kernel_rfl!) (by kernel_rfl!) (by kernel_rfl!)
  have D_mark_ended:Df (KH w.params) mg "mark_ended" s_mark_ended ps_mark_ended:=dfm (f:=492) (pm:=(.str "sealpress.modes" 760)) (cd:=491) X G (fun _ _ _ _ _ _ us hl=>by obtain⟨_,_,rfl⟩:=len2 hl;rfl) (by kernel_rfl!) (by kernel_rfl!) (by kernel_rfl!) (by kernel_rfl!)
  have D_at_text:Df (KH w.params) mg "at_text" s_at_text ps_at_text:=dfm (f:=499) (pm:=(.str "sealpress.modes" 760)) (cd:=498) X G (fun _ _ _ _ _ _ us hl=>by obtain⟨_,_,_,_,rfl⟩:=len4 hl;rfl) (by kernel_rfl!) (by kernel_rfl!) (by kernel_rfl!) (by kernel_rfl!)
  have D_at_mark:Df (KH w.params) mg "at_mark" s_at_mark ps_at_mark:=dfm (f:=506) (pm:=(.str "sealpress.modes" 760)) (cd:=505) X G (fun _ _ _ _ _ _ us hl=>by obtain⟨_,_,_,_,rfl⟩:=len4 hl;rfl) (by kernel_rfl!) (by kernel_rfl!) (by kernel_rfl!) (by kernel_rfl!)
  have D_at_open:Df (KH w.params) mg "at_open" s_at_open ps_at_open:=dfm (f:=513) (pm:=(.str "sealpress.modes" 760)) (cd:=512) X G (fun _ _ _ _ _ _ us hl=>by obtain⟨_,_,_,_,rfl⟩:=len4 hl;rfl) (by kernel_rfl!) (by kernel_rfl!) (by kernel_rfl!) (by kernel_rfl!)
  have D_at_name:Df (KH w.params) mg "at_name" s_at_name ps_at_name:=dfm (f:=520) (pm:=(.str "sealpress.modes" 760)) (cd:=519) X G (fun _ _ _ _ _ _ us hl=>by obtain⟨_,_,_,_,rfl⟩:=len4 hl;rfl) (by kernel_rfl!) (by kernel_rfl!) (by kernel_rfl!) (by kernel_rfl!)
  have D_at_slash:Df (KH w.params) mg "at_slash" s_at_slash ps_at_slash:=dfm (f:=527) (pm:=(.str "sealpress.modes" 760)) (cd:=526) X G (fun _ _ _ _ _ _ us hl=>by obtain⟨_,_,_,_,rfl⟩:=len4 hl;rfl) (by kernel_rfl!) (by kernel_rfl!) (by kernel_rfl!) (by kernel_rfl!)
  have D_at_shut:Df (KH w.params) mg "at_shut" s_at_shut ps_at_shut:=dfm (f:=534) (pm:=(.str "sealpress.modes" 760)) (cd:=533) X G (fun _ _ _ _ _ _ us hl=>by obtain⟨_,_,_,_,rfl⟩:=len4 hl;rfl) (by kernel_rfl!) (by kernel_rfl!) (by kernel_rfl!) (by kernel_rfl!)
  have D_at_gap:Df (KH w.params) mg "at_gap" s_at_gap ps_at_gap:=dfm (f:=541) (pm:=(.str "sealpress.modes" 760)) (cd:=540) X G (fun _ _ _ _ _ _ us hl=>by obtain⟨_,_,_,_,rfl⟩:=len4 hl;rfl) (by kernel_rfl!) (by kernel_rfl!) (by kernel_rfl!) (by kernel_rfl!)
  have D_at_attr:Df (KH w.params) mg "at_attr" s_at_attr ps_at_attr:=dfm (f:=548) (pm:=(.str "sealpress.modes" 760)) (cd:=547) X G (fun _ _ _ _ _ _ us hl=>by obtain⟨_,_,_,_,rfl⟩:=len4 hl;rfl) (by kernel_rfl!) (by kernel_rfl!) (by kernel_rfl!) (by kernel_rfl!)
  have D_at_is:Df (KH w.params) mg "at_is" s_at_is ps_at_is:=dfm (f:=555) (pm:=(.str "sealpress.modes" 760)) (cd:=554) X G (fun _ _ _ _ _ _ us hl=>by obtain⟨_,_,_,_,rfl⟩:=len4 hl;rfl) (by kernel_rfl!) (by kernel_rfl!) (by kernel_rfl!) (by kernel_rfl!)
  have D_at_bang:Df (KH w.params) mg "at_bang" s_at_bang ps_at_bang:=dfm (f:=562) (pm:=(.str "sealpress.modes" 760)) (cd:=561) X G (fun _ _ _ _ _ _ us hl=>by obtain⟨_,_,_,_,rfl⟩:=len4 hl;rfl) (by kernel_rfl!) (by kernel_rfl!) (by kernel_rfl!) (by kernel_rfl!)
  have D_at_bare:Df (KH w.params) mg "at_bare" s_at_bare ps_at_bare:=dfm (f:=569) (pm:=(.str "sealpress.modes" 760)) (cd:=568) X G (fun _ _ _ _ _ _ us hl=>by obtain⟨_,_,_,_,rfl⟩:=len4 hl;rfl) (by kernel_rfl!) (by kernel_rfl!) (by kernel_rfl!) (by kernel_rfl!)
  have D_at_code:Df (KH w.params) mg "at_code" s_at_code ps_at_code:=dfm (f:=576) (pm:=(.str "sealpress.modes" 760)) (cd:=575) X G (fun _ _ _ _ _ _ us hl=>by obtain⟨_,_,_,_,rfl⟩:=len4 hl;rfl) (by kernel_rfl!) (by kernel_rfl!) (by kernel_rfl!) (by kernel_rfl!)
  have D_at_row:Df (KH w.params) mg "at_row" s_at_row ps_at_row:=dfm (f:=583) (pm:=(.str "sealpress.modes" 760)) (cd:=582) X G (fun _ _ _ _ _ _ us hl=>by obtain⟨_,_,_,_,rfl⟩:=len4 hl;rfl) (by kernel_rfl!) (by kernel_rfl!) (by kernel_rfl!) (by kernel_rfl!)
  have D_at_stroke:Df (KH w.params) mg "at_stroke" s_at_stroke ps_at_stroke:=dfm (f:=590) (pm:=(.str "sealpress.modes" 760)) (cd:=589) X G (fun _ _ _ _ _ _ us hl=>by obtain⟨_,_,_,_,rfl⟩:=len4 hl;rfl) (by kernel_rfl!) (by kernel_rfl!) (by kernel_rfl!) (by kernel_rfl!)
  have D_at_quoted:Df (KH w.params) mg "at_quoted" s_at_quoted ps_at_quoted:=dfm (f:=597) (pm:=(.str "sealpress.modes" 760)) (cd:=596) X G (fun _ _ _ _ _ _ us hl=>by obtain⟨_,_,_,_,rfl⟩:=len4 hl;rfl) (by kernel_rfl!) (by kernel_rfl!) (by kernel_rfl!) (by kernel_rfl!)
  have D_at_qmark:Df (KH w.params) mg "at_qmark" s_at_qmark ps_at_qmark:=dfm (f:=604) (pm:=(.str "sealpress.modes" 760)) (cd:=603) X G (fun _ _ _ _ _ _ us hl=>by obtain⟨_,_,_,_,rfl⟩:=len4 hl;rfl) (by kernel_rfl!) (by kernel_rfl!) (by kernel_rfl!) (by kernel_rfl!)
  have D_at_done:Df (KH w.params) mg "at_done" s_at_done ps_at_done:=dfm (f:=611) (pm:=(.str "sealpress.modes" 760)) (cd:=610) X G (fun _ _ _ _ _ _ us hl=>by obtain⟨_,_,_,_,rfl⟩:=len4 hl;rfl) (by kernel_rfl!) (by kernel_rfl!) (by kernel_rfl!) (by kernel_rfl!)
  have D_at_talk:Df (KH w.params) mg "at_talk" s_at_talk ps_at_talk:=dfm (f:=618) (pm:=(.str "sealpress.modes" 760)) (cd:=617) X G (fun _ _ _ _ _ _ us hl=>by obtain⟨_,_,_,_,rfl⟩:=len4 hl;rfl) (by kernel_rfl!) (by kernel_rfl!) (by kernel_rfl!) (by kernel_rfl!)
  have D_at_tmark:Df (KH w.params) mg "at_tmark" s_at_tmark ps_at_tmark:=dfm (f:=625) (pm:=(.str "sealpress.modes" 760)) (cd:=624) X G (fun _ _ _ _ _ _ us hl=>by obtain⟨_,_,_,_,rfl⟩:=len4 hl;rfl) (by kernel_rfl!) (by kernel_rfl!) (by kernel_rfl!) (by kernel_rfl!)
  have D_at_asis:Df (KH w.params) mg "at_asis" s_at_asis ps_at_asis:=dfm (f:=630) (pm:=(.str "sealpress.modes" 760)) (cd:=629) X G (fun _ _ _ _ _ _ us hl=>by obtain⟨_,_,_,_,rfl⟩:=len4 hl;rfl) (by kernel_rfl!) (by kernel_rfl!) (by kernel_rfl!) (by kernel_rfl!)
  have D_moved:Df (KH w.params) mg "moved" s_moved ps_moved:=dfm (f:=639) (pm:=(.str "sealpress.modes" 760)) (cd:=638) X G (fun _ _ _ _ _ _ us hl=>by obtain⟨_,_,rfl⟩:=len2 hl;rfl) (by kernel_rfl!) (by kernel_rfl!) (by kernel_rfl!) (by kernel_rfl!)
  have D_begin:Df (KH w.params) mg "begin" s_begin ps_begin:=dfm (f:=646) (pm:=(.str "sealpress.steps" 1085)) (cd:=645) X G (fun _ _ _ _ _ _ us hl=>by obtain rfl:=len0 hl;rfl) (by kernel_rfl!) (by kernel_rfl!) (by kernel_rfl!) (by kernel_rfl!)
  have D_step:Df (KH w.params) mg "step" s_step ps_step:=dfm (f:=653) (pm:=(.str "sealpress.steps" 1085)) (cd:=652) X G (fun _ _ _ _ _ _ us hl=>by obtain⟨_,_,rfl⟩:=len2 hl;rfl) (by kernel_rfl!) (by kernel_rfl!) (by kernel_rfl!) (by kernel_rfl!)
  have D_run:Df (KH w.params) mg "run" s_run ps_run:=dfm (f:=660) (pm:=(.str "sealpress.steps" 1085)) (cd:=659) X G (fun _ _ _ _ _ _ us hl=>by obtain⟨_,_,rfl⟩:=len2 hl;rfl) (by kernel_rfl!) (by kernel_rfl!) (by kernel_rfl!) (by kernel_rfl!)
  have D_is_end:Df (KH w.params) mg "is_end" s_is_end ps_is_end:=dfm (f:=667) (pm:=(.str "sealpress.steps" 1085)) (cd:=666) X G (fun _ _ _ _ _ _ us hl=>by obtain⟨_,rfl⟩:=len1 hl;rfl) (by kernel_rfl!) (by kernel_rfl!) (by kernel_rfl!) (by kernel_rfl!)
  have D_floored:Df (KH w.params) mg "floored" s_floored ps_floored:=dfm (f:=674) (pm:=(.str "sealpress.steps" 1085)) (cd:=673) X G (fun _ _ _ _ _ _ us hl=>by obtain⟨_,rfl⟩:=len1 hl;rfl) (by kernel_rfl!) (by kernel_rfl!) (by kernel_rfl!) (by kernel_rfl!)
  have D_Spot___init__:Dc (KH w.params) mg 712 "Spot" "Spot.__init__" s_Spot___init__ ps_Spot___init__:=dcm (f:=688) (pm:=(.str "sealpress.looker" 1128)) (cd:=687) X G (fun _ _ _ _ _ _ us hl=>by obtain⟨_,_,_,_,rfl⟩:=len4 hl;rfl) (by kernel_rfl!) (by kernel_rfl!) (by kernel_rfl!) (by kernel_rfl!) ⟨by kernel_rfl!,by kernel_rfl!,by kernel_rfl!,by kernel_rfl!⟩
  have D_Spot_met:Dm (KH w.params) 712 "met" "Spot.met" s_Spot_met ps_Spot_met:=dmm (f:=702) (pm:=(.str "sealpress.looker" 1128)) (cd:=701) (fun _ _ _ _ _ _ us hl=>by obtain⟨_,_,rfl⟩:=len2 hl;rfl) (by kernel_rfl!) (by kernel_rfl!) (by kernel_rfl!) C_Spot ⟨by kernel_rfl!,by kernel_rfl!,by kernel_rfl!⟩
  have D_Spot_turned:Dm (KH w.params) 712 "turned" "Spot.turned" s_Spot_turned ps_Spot_turned:=dmm (f:=709) (pm:=(.str "sealpress.looker" 1128)) (cd:=708) (fun _ _ _ _ _ _ us hl=>by obtain⟨_,_,rfl⟩:=len2 hl;rfl) (by kernel_rfl!) (by kernel_rfl!) (by kernel_rfl!) C_Spot ⟨by kernel_rfl!,by kernel_rfl!,by kernel_rfl!⟩
  have D_Looking___init__:Dc (KH w.params) mg 789 "Looking" "Looking.__init__" s_Looking___init__ ps_Looking___init__:=dcm (f:=730) (pm:=(.str "sealpress.looker" 1128)) (cd:=729) X G (fun _ _ _ _ _ _ us hl=>by obtain⟨_,_,rfl⟩:=len2 hl;rfl) (by kernel_rfl!) (by kernel_rfl!) (by kernel_rfl!) (by kernel_rfl!) ⟨by kernel_rfl!,by kernel_rfl!,by kernel_rfl!,by kernel_rfl!⟩
  have D_Looking_look_all:Dm (KH w.params) 789 "look_all" "Looking.look_all" s_Looking_look_all ps_Looking_look_all:=dmm (f:=737) (pm:=(.str "sealpress.looker" 1128)) (cd:=736) (fun _ _ _ _ _ _ us hl=>by obtain⟨_,_,_,rfl⟩:=len3 hl;rfl) (by kernel_rfl!) (by kernel_rfl!) (by kernel_rfl!) C_Looking ⟨by kernel_rfl!,by kernel_rfl!,by kernel_rfl!⟩
  have D_Looking_look_piece:Dm (KH w.params) 789 "look_piece" "Looking.look_piece" s_Looking_look_piece ps_Looking_look_piece:=dmm (f:=744) (pm:=(.str "sealpress.looker" 1128)) (cd:=743) (fun _ _ _ _ _ _ us hl=>by obtain⟨_,_,_,rfl⟩:=len3 hl;rfl) (by kernel_rfl!) (by kernel_rfl!) (by kernel_rfl!) C_Looking ⟨by kernel_rfl!,by kernel_rfl!,by kernel_rfl!⟩
  have D_Looking_look_literal:Dm (KH w.params) 789 "look_literal" "Looking.look_literal" s_Looking_look_literal ps_Looking_look_literal:=dmm (f:=751) (pm:=(.str "sealpress.looker" 1128)) (cd:=750) (fun _ _ _ _ _ _ us hl=>by obtain⟨_,_,_,rfl⟩:=len3 hl;rfl) (by kernel_rfl!) (by kernel_rfl!) (by kernel_rfl!) C_Looking ⟨by kernel_rfl!,by kernel_rfl!,by kernel_rfl!⟩
  have D_Looking_look_hole:Dm (KH w.params) 789 "look_hole" "Looking.look_hole" s_Looking_look_hole ps_Looking_look_hole:=dmm (f:=758) (pm:=(.str "sealpress.looker" 1128)) (cd:=757) (fun _ _ _ _ _ _ us hl=>by obtain⟨_,_,_,rfl⟩:=len3 hl;rfl) (by kernel_rfl!) (by kernel_rfl!) (by kernel_rfl!) C_Looking ⟨by kernel_rfl!,by kernel_rfl!,by kernel_rfl!⟩
  have D_Looking_look_each:Dm (KH w.params) 789 "look_each" "Looking.look_each" s_Looking_look_each ps_Looking_look_each:=dmm (f:=765) (pm:=(.str "sealpress.looker" 1128)) (cd:=764) (fun _ _ _ _ _ _ us hl=>by obtain⟨_,_,_,rfl⟩:=len3 hl;rfl) (by kernel_rfl!) (by kernel_rfl!) (by kernel_rfl!) C_Looking ⟨by kernel_rfl!,by kernel_rfl!,by kernel_rfl!⟩
  have D_Looking_look_if:Dm (KH w.params) 789 "look_if" "Looking.look_if" s_Looking_look_if ps_Looking_look_if:=dmm (f:=772) (pm:=(.str "sealpress.looker" 1128)) (cd:=771) (fun _ _ _ _ _ _ us hl=>by obtain⟨_,_,_,rfl⟩:=len3 hl;rfl) (by kernel_rfl!) (by kernel_rfl!) (by kernel_rfl!) C_Looking ⟨by kernel_rfl!,by kernel_rfl!,by kernel_rfl!⟩
  have D_Looking_look_seat:Dm (KH w.params) 789 "look_seat" "Looking.look_seat" s_Looking_look_seat ps_Looking_look_seat:=dmm (f:=779) (pm:=(.str "sealpress.looker" 1128)) (cd:=778) (fun _ _ _ _ _ _ us hl=>by obtain⟨_,_,_,rfl⟩:=len3 hl;rfl) (by kernel_rfl!) (by kernel_rfl!) (by kernel_rfl!) C_Looking ⟨by kernel_rfl!,by kernel_rfl!,by kernel_rfl!⟩
  have D_looked_at:Df (KH w.params) mg "looked_at" s_looked_at ps_looked_at:=dfm (f:=800) (pm:=(.str "sealpress.looker" 1128)) (cd:=799) X G (fun _ _ _ _ _ _ us hl=>by obtain⟨_,_,rfl⟩:=len2 hl;rfl) (by kernel_rfl!) (by kernel_rfl!) (by kernel_rfl!) (by kernel_rfl!)
  have D_look:Df (KH w.params) mg "look" s_look ps_look:=dfm (f:=807) (pm:=(.str "sealpress.looker" 1128)) (cd:=806) X G (fun _ _ _ _ _ _ us hl=>by obtain⟨_,rfl⟩:=len1 hl;rfl) (by kernel_rfl!) (by kernel_rfl!) (by kernel_rfl!) (by kernel_rfl!)
  have D__law_cell:Df (KH w.params) mg "_law_cell" s__law_cell ps__law_cell:=dfm (f:=814) (pm:=(.str "law_sealpress_k73_places_of_holes" 1322)) (cd:=813) X G (fun _ _ _ _ _ _ us hl=>by obtain⟨_,_,rfl⟩:=len2 hl;rfl) (by kernel_rfl!) (by kernel_rfl!) (by kernel_rfl!) (by kernel_rfl!)
  have D__law_mix:Df (KH w.params) mg "_law_mix" s__law_mix ps__law_mix:=dfm (f:=821) (pm:=(.str "law_sealpress_k73_places_of_holes" 1322)) (cd:=820) X G (fun _ _ _ _ _ _ us hl=>by obtain⟨_,_,_,rfl⟩:=len3 hl;rfl) (by kernel_rfl!) (by kernel_rfl!) (by kernel_rfl!) (by kernel_rfl!)
  have D__law_part:Df (KH w.params) mg "_law_part" s__law_part ps__law_part:=dfm (f:=835) (pm:=(.str "law_sealpress_k73_places_of_holes" 1322)) (cd:=834) X G (fun _ _ _ _ _ _ us hl=>by obtain⟨_,_,rfl⟩:=len2 hl;rfl) (by kernel_rfl!) (by kernel_rfl!) (by kernel_rfl!) (by kernel_rfl!)
  have D__law_good:Df (KH w.params) mg "_law_good" s__law_good ps__law_good:=dfm (f:=849) (pm:=(.str "law_sealpress_k73_places_of_holes" 1322)) (cd:=848) X G (fun _ _ _ _ _ _ us hl=>by obtain⟨_,_,_,_,rfl⟩:=len4 hl;rfl) (by kernel_rfl!) (by kernel_rfl!) (by kernel_rfl!) (by kernel_rfl!)
  have D__law_some:Df (KH w.params) mg "_law_some" s__law_some ps__law_some:=dfm (f:=856) (pm:=(.str "law_sealpress_k73_places_of_holes" 1322)) (cd:=855) X G (fun _ _ _ _ _ _ us hl=>by obtain⟨_,_,_,_,rfl⟩:=len4 hl;rfl) (by kernel_rfl!) (by kernel_rfl!) (by kernel_rfl!) (by kernel_rfl!)
  have D__law_within:Df (KH w.params) mg "_law_within" s__law_within ps__law_within:=dfm (f:=863) (pm:=(.str "law_sealpress_k73_places_of_holes" 1322)) (cd:=862) X G (fun _ _ _ _ _ _ us hl=>by obtain⟨_,_,_,_,_,_,rfl⟩:=len6 hl;rfl) (by kernel_rfl!) (by kernel_rfl!) (by kernel_rfl!) (by kernel_rfl!)
  have D__law_compound:Df (KH w.params) mg "_law_compound" s__law_compound ps__law_compound:=dfm (f:=870) (pm:=(.str "law_sealpress_k73_places_of_holes" 1322)) (cd:=869) X G (fun _ _ _ _ _ _ us hl=>by obtain⟨_,_,_,_,rfl⟩:=len4 hl;rfl) (by kernel_rfl!) (by kernel_rfl!) (by kernel_rfl!) (by kernel_rfl!)
  have D__law_made:Df (KH w.params) mg "_law_made" s__law_made ps__law_made:=dfm (f:=877) (pm:=(.str "law_sealpress_k73_places_of_holes" 1322)) (cd:=876) X G (fun _ _ _ _ _ _ us hl=>by obtain⟨_,_,rfl⟩:=len2 hl;rfl) (by kernel_rfl!) (by kernel_rfl!) (by kernel_rfl!) (by kernel_rfl!)
  have D__law_looked:Df (KH w.params) mg "_law_looked" s__law_looked ps__law_looked:=dfm (f:=884) (pm:=(.str "law_sealpress_k73_places_of_holes" 1322)) (cd:=883) X G (fun _ _ _ _ _ _ us hl=>by obtain⟨_,rfl⟩:=len1 hl;rfl) (by kernel_rfl!) (by kernel_rfl!) (by kernel_rfl!) (by kernel_rfl!)
  have D__law_is:Df (KH w.params) mg "_law_is" s__law_is ps__law_is:=dfm (f:=898) (pm:=(.str "law_sealpress_k73_places_of_holes" 1322)) (cd:=897) X G (fun _ _ _ _ _ _ us hl=>by obtain⟨_,_,rfl⟩:=len2 hl;rfl) (by kernel_rfl!) (by kernel_rfl!) (by kernel_rfl!) (by kernel_rfl!)
  have D_law:Df (KH w.params) mg "law" s_law ps_law:=dfm (f:=905) (pm:=(.str "law_sealpress_k73_places_of_holes" 1322)) (cd:=904) X G (fun _ _ _ _ _ _ us hl=>by obtain⟨_,rfl⟩:=len1 hl;rfl) (by kernel_rfl!) (by kernel_rfl!) (by kernel_rfl!) (by kernel_rfl!)
  have e_SIGNS:Str.ofString " !\"#$&'()*+,-./0123456789:;<=>?@ABCDEFGHIJKLMNOPQRSTUVWXYZ[\\]^_`abcdefghijklmnopqrstuvwxyz{|}~" = (S sg):=by decide +kernel
  have e_FIGURES:Str.ofString "0123456789" = (S fg):=by decide +kernel
  have e_LETTERS:Str.ofString "abcdefghijklmnopqrstuvwxyz" = (S lt):=by decide +kernel
  have e_WORDSIGNS:Str.ofString "abcdefghijklmnopqrstuvwxyz0123456789-" = (S ws):=by decide +kernel
  have e_ASIS_END:Str.ofString "</asis>" = (S asisEnd):=by decide +kernel
  have xl_MODES:(KH w.params).lookup 631=some ⟨.type "dict",none,.dict #[(en w.params "text" 1035 (.ref 499)),(en w.params "mark" 1037 (.ref 506)),(en w.params "open" 1039 (.ref 513)),(en w.params "name" 1041 (.ref 520)),(en w.params "slash" 1043 (.ref 527)),(en w.params "shut" 1045 (.ref 534)),(en w.params "gap" 1047 (.ref 541)),(en w.params "attr" 1049 (.ref 548)),(en w.params "is" 1051 (.ref 555)),(en w.params "bang" 1053 (.ref 562)),(en w.params "bare" 1055 (.ref 569)),(en w.params "code" 1057 (.ref 576)),(en w.params "row" 1059 (.ref 583)),(en w.params "stroke" 1061 (.ref 590)),(en w.params "quoted" 1063 (.ref 597)),(en w.params "qmark" 1065 (.ref 604)),(en w.params "done" 1067 (.ref 611)),(en w.params "talk" 1069 (.ref 618)),(en w.params "tmark" 1070 (.ref 625)),(en w.params "asis" 1071 (.ref 630))] 20,#[]⟩:=by kernel_rfl!
  have xl_PLACE_MODES:(KH w.params).lookup 401=some ⟨.type "tuple",none,.seq #[(.str "text" 717),(.str "bare" 718),(.str "row" 719),(.str "quoted" 720)] 0,#[]⟩:=by kernel_rfl!
  have T:Txt w (KH w.params) mg (⟨24,82,712,789,401,499,506,513,520,527,534,541,548,555,562,569,576,583,590,597,604,611,618,625,630⟩:Ads):=⟨PySem.W.mg_of (v:=.ref 24) X G (by kernel_rfl!),PySem.W.mg_of (v:=.ref 82) X G (by kernel_rfl!),PySem.W.mg_of (v:=.ref 712) X G (by kernel_rfl!),PySem.W.mg_of (v:=.ref 789) X G (by kernel_rfl!),PySem.W.mg_of (v:=.ref 499) X G (by kernel_rfl!),PySem.W.mg_of (v:=.ref 506) X G (by kernel_rfl!),PySem.W.mg_of (v:=.ref 513) X G (by kernel_rfl!),PySem.W.mg_of (v:=.ref 520) X G (by kernel_rfl!),PySem.W.mg_of (v:=.ref 527) X G (by kernel_rfl!),PySem.W.mg_of (v:=.ref 534) X G (by kernel_rfl!),PySem.W.mg_of (v:=.ref 541) X G (by kernel_rfl!),PySem.W.mg_of (v:=.ref 548) X G (by kernel_rfl!),PySem.W.mg_of (v:=.ref 555) X G (by kernel_rfl!),PySem.W.mg_of (v:=.ref 562) X G (by kernel_rfl!),PySem.W.mg_of (v:=.ref 569) X G (by kernel_rfl!),PySem.W.mg_of (v:=.ref 576) X G (by kernel_rfl!),PySem.W.mg_of (v:=.ref 583) X G (by kernel_rfl!),PySem.W.mg_of (v:=.ref 590) X G (by kernel_rfl!),PySem.W.mg_of (v:=.ref 597) X G (by kernel_rfl!),PySem.W.mg_of (v:=.ref 604) X G (by kernel_rfl!),PySem.W.mg_of (v:=.ref 611) X G (by kernel_rfl!),PySem.W.mg_of (v:=.ref 618) X G (by kernel_rfl!),PySem.W.mg_of (v:=.ref 625) X G (by kernel_rfl!),PySem.W.mg_of (v:=.ref 630) X G (by kernel_rfl!),xcl_of (by kernel_rfl!),xcl_of (by kernel_rfl!),by kernel_rfl!,by kernel_rfl!,by kernel_rfl!,by kernel_rfl!,⟨.str (Str.ofString " !\"#$&'()*+,-./0123456789:;<=>?@ABCDEFGHIJKLMNOPQRSTUVWXYZ[\\]^_`abcdefghijklmnopqrstuvwxyz{|}~") 690,PySem.W.mg_of X G (by kernel_rfl!),⟨_,by rw [e_SIGNS]⟩⟩,⟨.str (Str.ofString "0123456789") 692,PySem.W.mg_of X G (by kernel_rfl!),⟨_,by rw [e_FIGURES]⟩⟩,⟨.str (Str.ofString "abcdefghijklmnopqrstuvwxyz") 694,PySem.W.mg_of X G (by kernel_rfl!),⟨_,by rw [e_LETTERS]⟩⟩,⟨.int 8 696,PySem.W.mg_of X G (by kernel_rfl!),⟨_,rfl⟩⟩,⟨.str (Str.ofString "abcdefghijklmnopqrstuvwxyz0123456789-") 713,PySem.W.mg_of X G (by kernel_rfl!),⟨_,by rw [e_WORDSIGNS]⟩⟩,⟨.str (Str.ofString "</asis>") 762,PySem.W.mg_of X G (by kernel_rfl!),⟨_,by rw [e_ASIS_END]⟩⟩,⟨.int 2 764,PySem.W.mg_of X G (by kernel_rfl!),⟨_,rfl⟩⟩,⟨_,PySem.W.mg_of (v:=.ref 631) X G (by kernel_rfl!),by decide,_,_,_,xl_MODES,⟨rfl,rfl,rfl⟩,rfl,by repeat' (first | exact EntK.nil | refine EntK.cons rfl rfl rfl ?_),by decide +kernel⟩,PySem.W.mg_of (v:=.ref 401) X G (by kernel_rfl!),fun _=>.inr ⟨_,_,_,xl_PLACE_MODES,rfl,rfl,by decide,by repeat' (first | exact .nil | refine .cons ⟨_,rfl⟩ ?_)⟩,PySem.W.mg_none_of X G (by kernel_rfl!),PySem.W.mg_none_of X G (by kernel_rfl!),PySem.W.mg_none_of X G (by kernel_rfl!),PySem.W.mg_none_of X G (by kernel_rfl!),PySem.W.mg_none_of X G (by kernel_rfl!),PySem.W.mg_none_of X G (by kernel_rfl!),PySem.W.mg_none_of X G (by kernel_rfl!),PySem.W.mg_none_of X G (by kernel_rfl!),PySem.W.mg_none_of X G (by kernel_rfl!),PySem.W.mg_none_of X G (by kernel_rfl!),C_Spot,C_Looking,by show _=_;kernel_rfl!,by show _=_;kernel_rfl!,by show _=_;kernel_rfl!,by show _=_;kernel_rfl!,by show _=_;kernel_rfl!,by show _=_;kernel_rfl!⟩
  have I_Unread:Ini (KH w.params) 82 "Unread.__init__" s_i_Unread ["self","at"]:=inim (f:=79) (pm:=(.str "sealpress.errors" 187)) (cd:=78) (fun _ _ _ _ _ _ us hl=>by obtain⟨_,_,rfl⟩:=len2 hl;rfl) (by kernel_rfl!) (by kernel_rfl!) (by kernel_rfl!) (by kernel_rfl!)
  refine law_of D_law hfa (fun _ _ _ _ _ _ s v=>.of_eq rfl) fun base=>?_
  have R_Unread:=err_Unread (P:=l.prog) (w:=w) (base:=base) T I_Unread
  have F_sign_of:=ok_sign_of (P:=l.prog) (w:=w) (base:=base) T D_sign_of
  have F_sign_told:=ok_sign_told (P:=l.prog) (w:=w) (base:=base) T D_sign_told F_sign_of
  have F_fed_between:=ok_fed_between (P:=l.prog) (w:=w) (base:=base) T D_fed_between
  have F_fed_word:=ok_fed_word (P:=l.prog) (w:=w) (base:=base) T D_fed_word F_fed_between
  have F_fed_said:=ok_fed_said (P:=l.prog) (w:=w) (base:=base) T D_fed_said
  have F_feed:=ok_feed (P:=l.prog) (w:=w) (base:=base) T D_feed F_fed_between F_fed_word F_fed_said
  have F_come_to:=ok_come_to (P:=l.prog) (w:=w) (base:=base) T D_come_to
  have F_told:=ok_told (P:=l.prog) (w:=w) (base:=base) T D_told F_come_to
  have F_gathered:=ok_gathered (P:=l.prog) (w:=w) (base:=base) T D_gathered
  have F_box_shut:=ok_box_shut (P:=l.prog) (w:=w) (base:=base) T D_box_shut F_come_to
  have F_into_box:=ok_into_box (P:=l.prog) (w:=w) (base:=base) T D_into_box F_come_to
  have F_led_on:=ok_led_on (P:=l.prog) (w:=w) (base:=base) T D_led_on F_come_to F_into_box
  have F_fed:=ok_fed (P:=l.prog) (w:=w) (base:=base) T D_fed F_feed
  have F_mark_ended:=ok_mark_ended (P:=l.prog) (w:=w) (base:=base) T D_mark_ended F_sign_told
  have F_at_text:=ok_at_text (P:=l.prog) (w:=w) (base:=base) T D_at_text F_come_to F_told
  have F_at_mark:=ok_at_mark (P:=l.prog) (w:=w) (base:=base) T D_at_mark F_gathered F_mark_ended F_told
  have F_at_open:=ok_at_open (P:=l.prog) (w:=w) (base:=base) T D_at_open F_come_to F_gathered
  have F_at_name:=ok_at_name (P:=l.prog) (w:=w) (base:=base) T D_at_name F_gathered F_led_on
  have F_at_slash:=ok_at_slash (P:=l.prog) (w:=w) (base:=base) T D_at_slash F_box_shut
  have F_at_shut:=ok_at_shut (P:=l.prog) (w:=w) (base:=base) T D_at_shut F_gathered F_box_shut
  have F_at_gap:=ok_at_gap (P:=l.prog) (w:=w) (base:=base) T D_at_gap F_gathered
  have F_at_attr:=ok_at_attr (P:=l.prog) (w:=w) (base:=base) T D_at_attr F_gathered F_come_to
  have F_at_is:=ok_at_is (P:=l.prog) (w:=w) (base:=base) T D_at_is F_come_to
  have F_at_bang:=ok_at_bang (P:=l.prog) (w:=w) (base:=base) T D_at_bang
  have F_at_bare:=ok_at_bare (P:=l.prog) (w:=w) (base:=base) T D_at_bare F_told F_come_to F_led_on
  have F_at_code:=ok_at_code (P:=l.prog) (w:=w) (base:=base) T D_at_code F_told F_sign_told
  have F_at_row:=ok_at_row (P:=l.prog) (w:=w) (base:=base) T D_at_row F_come_to F_told
  have F_at_stroke:=ok_at_stroke (P:=l.prog) (w:=w) (base:=base) T D_at_stroke F_told
  have F_at_quoted:=ok_at_quoted (P:=l.prog) (w:=w) (base:=base) T D_at_quoted F_come_to F_told
  have F_at_qmark:=ok_at_qmark (P:=l.prog) (w:=w) (base:=base) T D_at_qmark F_gathered F_mark_ended F_told
  have F_at_done:=ok_at_done (P:=l.prog) (w:=w) (base:=base) T D_at_done F_led_on
  have F_at_talk:=ok_at_talk (P:=l.prog) (w:=w) (base:=base) T D_at_talk F_come_to F_fed
  have F_at_tmark:=ok_at_tmark (P:=l.prog) (w:=w) (base:=base) T D_at_tmark F_gathered F_mark_ended F_fed
  have F_at_asis:=ok_at_asis (P:=l.prog) (w:=w) (base:=base) T D_at_asis F_box_shut F_come_to
  have F_moved:=ok_moved (P:=l.prog) (w:=w) (base:=base) T D_moved F_at_text F_at_mark F_at_open F_at_name F_at_slash F_at_shut F_at_gap F_at_attr F_at_is F_at_bang F_at_bare F_at_code F_at_row F_at_stroke F_at_quoted F_at_qmark F_at_done F_at_talk F_at_tmark F_at_asis
  have F_begin:=ok_begin (P:=l.prog) (w:=w) (base:=base) T D_begin
  have F_step:=ok_step (P:=l.prog) (w:=w) (base:=base) T D_step F_moved
  have F_floored:=ok_floored (P:=l.prog) (w:=w) (base:=base) T D_floored
  have F_place_of:=ok_place_of (P:=l.prog) (w:=w) (base:=base) T D_place_of
  have F_run:=ok_run (P:=l.prog) (w:=w) (base:=base) T D_run F_step R_Unread
  have F__law_cell:=ok_law_cell (P:=l.prog) (w:=w) (base:=base) T D__law_cell
  have F__law_mix:=ok_law_mix (P:=l.prog) (w:=w) (base:=base) T D__law_mix
  have F__law_part:=ok_law_part (P:=l.prog) (w:=w) (base:=base) T D__law_part F__law_mix
  have F__law_good:=ok_law_goods (P:=l.prog) (w:=w) (base:=base) T D__law_good D__law_within D__law_compound D__law_some F__law_mix F__law_part
  have F_Spot___init__:=ok_Spot___init__ (P:=l.prog) (w:=w) (base:=base) T D_Spot___init__
  have F_Spot_met:=ok_Spot_met (P:=l.prog) (w:=w) (base:=base) T D_Spot_met F_Spot___init__
  have F_Spot_turned:=ok_Spot_turned (P:=l.prog) (w:=w) (base:=base) T D_Spot_turned F_Spot___init__
  have F_Looking___init__:=ok_Looking___init__ (P:=l.prog) (w:=w) (base:=base) T D_Looking___init__
  have F_Looking_look_literal:=ok_look_literal (P:=l.prog) (w:=w) (base:=base) T D_Looking_look_literal F_run F_Spot_met
  have F_Looking_look_hole:=ok_look_hole (P:=l.prog) (w:=w) (base:=base) T D_Looking_look_hole F_place_of F_Spot_met
  have F_Looking_look_all:=ok_look_alls (P:=l.prog) (w:=w) (base:=base) T D_Looking_look_all D_Looking_look_piece D_Looking_look_each D_Looking_look_if D_Looking_look_seat F_Looking_look_literal F_Looking_look_hole F_Spot_turned F_Spot_met F_floored
  have F_is_end:=ok_is_end (P:=l.prog) (w:=w) (base:=base) T D_is_end F_begin
  have F_looked_at:=ok_looked_at (P:=l.prog) (w:=w) (base:=base) T D_looked_at F_Looking_look_all F_begin F_is_end F_Spot___init__ F_Looking___init__
  have F_look:=ok_look (P:=l.prog) (w:=w) (base:=base) T D_look F_looked_at
  have F__law_looked:=ok_law_looked (P:=l.prog) (w:=w) (base:=base) T D__law_looked F_look
  have F__law_is:=ok_law_is (P:=l.prog) (w:=w) (base:=base) T D__law_is
  have F__law_made:=ok_law_made (P:=l.prog) (w:=w) (base:=base) T D__law_made F__law_good
  have F_law:=ok_law (P:=l.prog) (w:=w) (base:=base) T D_law F__law_cell F__law_made F__law_looked F__law_is
  exact F_law
theorem walk {l:PySem.W.OpenLaw}{q:Program}{loose:List Str}{XP:(Str->Option Value)->Heap->Prop}{YP:World->Heap->Prop}{d:DefRec}{K:Params->PySem.W.Frag}(hn:l.most=some 63)(hdf:d.params.defaults=[])
    (hY:∀ (w:World) (h:Heap),YP w h->(K w.params).In h)
    (F:∀ (w:World) (mg:Str->Option Value) (fa:Addr) (h:Heap),(K w.params).In h->h.Ns mainGlobals mg->mg d.name=some (.ref fa) ->
      ∃ fd:FuncData,(∀ (s:Shared) (u:Value),BindsTo s fd ⟨[u],[]⟩ [("_law_script",u)])/\∀ base:Heap,(K w.params).In base->base.Ns mainGlobals mg->FnOk l.prog w (K w.params) mg base CX0 64 fa fd ["_law_script"] (sp_law (K w.params))) :
    PySem.W.WalkO q loose XP YP l.row.toRowW d [] (fun f vs=>PySem.call f vs):=
  L2.walk_of (n:=63) (k:=64) (x:="_law_script") (CX:=fun _=>CX0) (sp:=fun w=>sp_law (K w.params)) hn (by decide) hdf ⟨rfl,by decide,by decide,rfl⟩ hY F (fun _ _ a ns hl _ hS=>⟨a,ns,rfl,hS,hl,fun _=>rfl⟩) fun _ _ _ _ _ z=>z
end My
open PySem PySem.W PyProof.Rows
set_option maxRecDepth 100000 in
set_option maxHeartbeats 0 in
theorem PySem.Challenge.cw_sealpress_k73_places_of_holes_holds : PySem.Challenge.rw_sealpress_k73_places_of_holes.Holds := by
  w_on; o_law
  refine PySem.W.holds_open (q := My.qvw) (loose := My.loose0) (Xt := My.Xt0) (XP := XL My.qvw []) (Yf := Hook.obs My.HK) (Ya := Hook.val My.HK) (YP := Hook.says My.HK) (N := 8343) My.left (Hook.of My.HK) (Hook.keeps My.HK) (fun s e => xl_of s (Bool.and_eq_true_iff.mp e).1) XL.keeps (by rfl) (by rfl) (by rfl) (fun s e => recFacts_of (Bool.and_eq_true_iff.mp e).2) (by rfl) (by first | assumption | decide +kernel) (by decide +kernel) ⟨rfl, rfl, rfl, rfl, rfl, by decide +kernel⟩ ?hw ?hc
  (case hw => w_witness2)
  exact My.walk (l := PySem.Challenge.rw_sealpress_k73_places_of_holes) rfl rfl (fun w h Y => PySem.W.kIn_of Y) (fun w mg fa h KX G hmg => My.all_ok KX G hmg)
