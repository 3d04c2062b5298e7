import PyProof.Rows.All
import Wide.All
import OpenK.AllK
import Wide.FinOn
import Lean
import PyProof.EqAt
import PyProof.EqKinds
import PyProof.TupleCall
import PyProof.Draws
import PyProof.EnumMake
import PyProof.NeKinds
import PyProof.ZipIter
import PyProof.Rows.ZipGen
import PyProof.ReprRoads
import KE.KRevIter
import PyProof.StrLawsReplace
import PyProof.ToksMono
import PyProof.SliceList
import KE.KEqDict
import PySem.Challenge.RW_sealpress_k77_seats_on_their_floors
set_option Elab.async false
set_option linter.all false
set_option genSizeOf false
set_option backward.match.sparseCases false
set_option compiler.extract_closed false
set_option bootstrap.genMatcherCode false
set_option maxRecDepth 100000
set_option maxHeartbeats 0
namespace L2
open PySem PySem.W
theorem left_run {p q:Program}{loose:List Str}{Xt:Shared->Bool}{α:Type}{Yf:Shared->α}{Ya:World->α}{N M m0:Nat}{ann:Option Value}{H0:Params->Heap}{g0:Array GenState}{d0:Drawn}{k0:Nat}
    (hb:∀ w:World,(fencedOpening treeTable p w N).map (fun s=>(s.heap,s.gens,s.drawn,s.toks))=some (H0 w.params,g0,d0,k0))
    (hz:∀ w:World,((H0 w.params).isNs mainGlobals&&g0.size == 0,(H0 w.params).objs.size,(H0 w.params).nsMap mainGlobals "__annotations__")=(true,m0,ann))
    (hr:∀ (w:World) (os:OsState),∃ s:Shared,topRun treeTable p w m0 ann M ⟨H0 w.params,g0,d0,k0,os⟩ (topStub p)=some s /\
      (staticsOk (importedModules p.main.body) (H0 w.params) s.heap&&namesBound p s.heap&&gensDone s&&laidKept (H0 w.params) s.heap)=true/\openSeen q loose (importedModules p.main.body) Xt true s=openGood q loose/\Yf s=Ya w)
    (hn:M<=N):LeftO p q loose Xt Yf Ya N:=fun w=>by
  obtain⟨s0,e,e'⟩:=Option.map_eq_some_iff.mp (hb w)
  obtain⟨h,gs,d,k,os⟩:=s0
  simp only [Prod.mk.injEq] at e'
  obtain⟨rfl,rfl,rfl,rfl⟩:=e'
  obtain⟨s,r,l1,l2,l3⟩:=hr w os
  have z:=hz w
  simp only [Prod.mk.injEq] at z
  obtain⟨z1,z2,z3⟩:=z
  obtain⟨x,rfl⟩:=Nat.exists_eq_add_of_le hn
  have r':=topRun_mono x _ _ _ _ r
  have t:topFrom treeTable p w (M+x) ⟨H0 w.params,gs,d,k,os⟩=some s:=by
    unfold topFrom
    simp only [z1,z2,z3,r',Option.bind_some,l1]
  unfold openEnds
  rw [e,Option.bind_some,t,Option.map_some,l2,l3]
end L2
namespace My
open PySem PySem.W
abbrev pw:Program:=PySem.Challenge.pw_sealpress_k77_seats_on_their_floors
noncomputable def tp (i:Nat):Stmt:=pw.main.body.getD i (.Pass ⟨0,0,0,0⟩)
noncomputable def tc (i j:Nat):Stmt:=match tp i with
  | .ClassDef _ _ _ body _ _ _ _ _ _ _=>body.getD j (.Pass ⟨0,0,0,0⟩)
  | _=>.Pass ⟨0,0,0,0⟩
noncomputable def fnO (s:Stmt)(nm q:Str)(g:Addr)(cl:List (Str×Addr))(df kd dc pm:Value)(an:Option Addr)(cd ct:Value)(bl:Addr):Data:=match s with
  | .FunctionDef _ a b _ _ _ sc _ _ _=>.func ⟨nm,q,a,.stmts b,sc,g,cl,df,kd,dc,pm,an,cd,ct,bl⟩
  | _=>.plain
noncomputable def en (P:Params)(k:Str)(t:Nat)(v:Value):DictEntry:=⟨PyData.keyHash P k,.str k t,v⟩
noncomputable def o11 (_:Params):Obj:={ cls:=.type "tuple",data:=.seq #[] }
noncomputable def o12 (_:Params):Obj:={ cls:=.none,data:=.fields #[] }
noncomputable def o13 (_:Params):Obj:={ cls:=.type "code",data:=.fields #[.str "<module>" 182,.str "<module>" 183,.str "/claim/cut.py" 184,.int 1 0,.int 0 0,.int 0 0,.int 0 0,.int 0 0,.ref 11,.bool false,.int 181 0,.ref 12,.none,.none,.none,.none,.int 185 0,.int 1 0,.str "/claim/cut.py" 186] }
noncomputable def o14 (_:Params):Obj:={ cls:=.type "frame",slots:=#[some (.ref 13),some (.ref 3),some (.ref 3),none,some (.str "__main__" 164),none,some (.ref 0)] }
noncomputable def cM (n q:Str)(a:Nat)(l g k:Int)(r:Addr)(f:Bool)(b:Addr)(x y z w:Value)(t:Nat):Obj:=⟨.type "code",none,.fields #[.str n a,.str q (a+1),.str "/claim/cut.py" (a+2),.int l 0,.int g 0,.int 0 0,.int 0 0,.int k 0,.ref r,.bool f,.int 181 0,.ref b,x,y,z,w,.int t 0,.int l 0,.str "/claim/cut.py" (t+1)],#[]⟩
noncomputable def cS (n q:Str)(a:Nat)(l g:Int)(r t:Nat):Obj:=cM n q a l g 3 r true (r+1) .none (.ref (r+2)) (.ref (r+3)) (.ref (r+4)) t
noncomputable def cN (n:Str)(a:Nat)(l g:Int)(r t:Nat):Obj:=cS n n a l g r t
noncomputable def cK (n:Str)(a:Nat)(l:Int)(r t:Nat):Obj:=cM n n a l 0 0 r false (r+1) .none .none .none .none t
noncomputable def fM (s:Stmt)(n q:Str)(m:Value)(c:Addr):Obj:=⟨.type "function",none,fnO s n q 3 [] .none .none .none m none (.ref c) .none 0,#[]⟩
noncomputable def gM (s:Stmt)(n q:Str):Obj:=⟨.none,none,fnO s n q 0 [] .none .none .none .none none .none .none 0,#[]⟩
noncomputable def rM (a c:Addr)(v:Value):Obj:=⟨.type "frame",none,.plain,#[some (.ref a),some (.ref 3),some (.ref c),none,some v,none,some (.ref 0)]⟩
noncomputable def dO (a:Array DictEntry)(n:Nat):Obj:=⟨.type "dict",none,.dict a n,#[]⟩
noncomputable def tO (a:Array Value):Obj:=⟨.type "tuple",none,.seq a 0,#[]⟩
noncomputable def pO (a:Array Value):Obj:=⟨.none,none,.fields a,#[]⟩
noncomputable def sO (a:Addr):Obj:=⟨.type "super",none,.fields #[.ref a,.ref a,.ref a],#[]⟩
noncomputable def kO (n:Str)(c b d x i j:Nat):Obj:=⟨.type "type",none,.cls ⟨n,[.ref b],[.ref c,.ref b,.type "ValueError",.type "Exception",.type "BaseException",.type "object"],d,n,true,[],[],false,none,false⟩,#[some (.ref x),none,some (.str n i),some (.str n j),some (.builtin "ValueError.__new__"),some (.bool true)]⟩
noncomputable abbrev m0:Value:=.str "sealpress.errors" 187
noncomputable abbrev m1:Value:=.str "sealpress.signs" 688
noncomputable abbrev m2:Value:=.str "sealpress.places" 715
noncomputable abbrev m3:Value:=.str "sealpress.talks" 729
noncomputable abbrev m4:Value:=.str "sealpress.modes" 760
noncomputable abbrev m5:Value:=.str "sealpress.steps" 1085
noncomputable abbrev m6:Value:=.str "sealpress.looker" 1128
noncomputable abbrev m7:Value:=.str "law_sealpress_k77_seats_on_their_floors" 1322
noncomputable def x0 (P:Params):Obj:=dO #[en P "__name__" 165 (.str "sealpress.modes" 760),en P "__doc__" 166 .none,en P "__package__" 167 .none,en P "__loader__" 168 (.builtin "__main__.__loader__#opaque"),en P "__spec__" 169 .none,en P "__annotations__" 170 (.ref 6),en P "__builtins__" 171 (.ref 4),en P "__file__" 173 (.str "/claim/cut.py" 172),en P "__cached__" 174 .none,en P "SealError" 206 (.ref 24),en P "NoSign" 231 (.ref 44),en P "NoCode" 256 (.ref 63),en P "Unread" 281 (.ref 82),en P "Unended" 297 (.ref 94),en P "NoPage" 322 (.ref 113),en P "NoName" 347 (.ref 132),en P "NoSheet" 372 (.ref 151),en P "Twice" 397 (.ref 170),en P "TooMany" 413 (.ref 182),en P "Unknown" 438 (.ref 201),en P "RingOver" 463 (.ref 220),en P "Ringed" 488 (.ref 239),en P "NoElder" 513 (.ref 258),en P "Astray" 540 (.ref 277),en P "NoPlace" 567 (.ref 296),en P "Unlike" 596 (.ref 315),en P "LeftOpen" 621 (.ref 334),en P "NoValue" 646 (.ref 353),en P "NoKind" 671 (.ref 372),en P "NoRow" 687 (.ref 384),en P "SIGNS" 691 (.str " !\"#$&'()*+,-./0123456789:;<=>?@ABCDEFGHIJKLMNOPQRSTUVWXYZ[\\]^_`abcdefghijklmnopqrstuvwxyz{|}~" 690),en P "FIGURES" 693 (.str "0123456789" 692),en P "LETTERS" 695 (.str "abcdefghijklmnopqrstuvwxyz" 694),en P "LONGEST_NAME" 697 (.int 8 696),en P "sign_of" 704 (.ref 393),en P "sign_told" 712 (.ref 400),en P "WORDSIGNS" 714 (.str "abcdefghijklmnopqrstuvwxyz0123456789-" 713),en P "PLACE_MODES" 721 (.ref 401),en P "place_of" 728 (.ref 408),en P "fed_between" 737 (.ref 415),en P "fed_word" 744 (.ref 422),en P "fed_said" 751 (.ref 429),en P "feed" 759 (.ref 436),en P "ASIS_END" 763 (.str "</asis>" 762),en P "MARK_FIGURES" 765 (.int 2 764),en P "come_to" 774 (.ref 443),en P "told" 783 (.ref 450),en P "gathered" 794 (.ref 457),en P "box_shut" 802 (.ref 464),en P "into_box" 811 (.ref 471),en P "led_on" 820 (.ref 478),en P "fed" 830 (.ref 485),en P "mark_ended" 838 (.ref 492),en P "at_text" 848 (.ref 499),en P "at_mark" 858 (.ref 506),en P "at_open" 868 (.ref 513),en P "at_name" 878 (.ref 520),en P "at_slash" 888 (.ref 527),en P "at_shut" 898 (.ref 534),en P "at_gap" 908 (.ref 541),en P "at_attr" 918 (.ref 548),en P "at_is" 928 (.ref 555),en P "at_bang" 938 (.ref 562),en P "at_bare" 948 (.ref 569),en P "at_code" 958 (.ref 576),en P "at_row" 968 (.ref 583),en P "at_stroke" 978 (.ref 590),en P "at_quoted" 988 (.ref 597),en P "at_qmark" 998 (.ref 604),en P "at_done" 1008 (.ref 611),en P "at_talk" 1018 (.ref 618),en P "at_tmark" 1028 (.ref 625),en P "at_asis" 1034 (.ref 630)] 73
noncomputable def x1:Obj:=pO #[.int 2 0,.int 0 0,.ref 20,.int 4 0,.int 0 0,.ref 33,.int 9 0,.int 0 0,.ref 52,.int 14 0,.int 0 0,.ref 71,.int 19 0,.int 0 0,.ref 90,.int 21 0,.int 0 0,.ref 102,.int 26 0,.int 0 0,.ref 121,.int 31 0,.int 0 0,.ref 140,.int 36 0,.int 0 0,.ref 159,.int 41 0,.int 0 0,.ref 178,.int 43 0,.int 0 0,.ref 190,.int 48 0,.int 0 0,.ref 209,.int 53 0,.int 0 0,.ref 228,.int 58 0,.int 0 0,.ref 247,.int 63 0,.int 0 0,.ref 266,.int 69 0,.int 0 0,.ref 285,.int 75 0,.int 0 0,.ref 304,.int 82 0,.int 0 0,.ref 323,.int 87 0,.int 0 0,.ref 342,.int 92 0,.int 0 0,.ref 361,.int 97 0,.int 0 0,.ref 380,.int 104 0,.int 0 0,.ref 392,.int 106 0,.int 0 0,.ref 399,.int 114 0,.int 0 0,.ref 407,.int 119 0,.int 0 0,.ref 414,.int 127 0,.int 0 0,.ref 421,.int 131 0,.int 0 0,.ref 428,.int 137 0,.int 0 0,.ref 435,.int 150 0,.int 0 0,.ref 442,.int 152 0,.int 0 0,.ref 449,.int 156 0,.int 0 0,.ref 456,.int 160 0,.int 0 0,.ref 463,.int 164 0,.int 0 0,.ref 470,.int 169 0,.int 0 0,.ref 477,.int 177 0,.int 0 0,.ref 484,.int 182 0,.int 0 0,.ref 491,.int 184 0,.int 0 0,.ref 498,.int 190 0,.int 0 0,.ref 505,.int 194 0,.int 0 0,.ref 512,.int 200 0,.int 0 0,.ref 519,.int 204 0,.int 0 0,.ref 526,.int 208 0,.int 0 0,.ref 533,.int 214 0,.int 0 0,.ref 540,.int 218 0,.int 0 0,.ref 547,.int 230 0,.int 0 0,.ref 554,.int 234 0,.int 0 0,.ref 561,.int 238 0,.int 0 0,.ref 568,.int 244 0,.int 0 0,.ref 575,.int 248 0,.int 0 0,.ref 582,.int 256 0,.int 0 0,.ref 589,.int 258 0,.int 0 0,.ref 596,.int 264 0,.int 0 0,.ref 603,.int 268 0,.int 0 0,.ref 610,.int 270 0,.int 0 0,.ref 617,.int 276 0,.int 0 0,.ref 624,.int 280 0,.int 0 0,.ref 629]
noncomputable def x2:Obj:=tO #[.type "ValueError"]
noncomputable def x3:Obj:=⟨(.type "builtin_function_or_method"),none,(.fields #[.builtin "type.__prepare__",.type "type"]),#[]⟩
noncomputable def x4 (P:Params):Obj:=dO #[en P "__module__" 196 (.str "sealpress.errors" 187),en P "__qualname__" 198 (.str "SealError" 197),en P "__firstlineno__" 200 (.int 2 199),en P "__static_attributes__" 201 (.ref 22)] 4
noncomputable def x5:Obj:=tO #[]
noncomputable def x6:Obj:=pO #[]
noncomputable def x7:Obj:=cK "SealError" 191 2 18 194
noncomputable def x8:Obj:=rM 20 17 m0
noncomputable def x9 (P:Params):Obj:=dO #[en P "__module__" 196 m0,en P "__firstlineno__" 200 (.int 2 199),en P "__static_attributes__" 201 (.ref 22),en P "__weakref__" 203 (.ref 25),en P "__doc__" 204 .none] 3
noncomputable def x10:Obj:=⟨(.type "type"),none,(.cls ⟨"SealError",[.type "ValueError"],[.ref 24,.type "ValueError",.type "Exception",.type "BaseException",.type "object"],23,"SealError",true,[],[.ref 44,.ref 63,.ref 82,.ref 94,.ref 113,.ref 132,.ref 151,.ref 170,.ref 182,.ref 201,.ref 220,.ref 239,.ref 258,.ref 277,.ref 296,.ref 315,.ref 334,.ref 353,.ref 372,.ref 384],false,none,false⟩),#[some (.ref 15),none,some (.str "SealError" 189),some (.str "SealError" 197),some (.builtin "ValueError.__new__"),some (.bool true)]⟩
noncomputable def x11:Obj:=⟨(.type "getset_descriptor"),none,(.fields #[.str "__weakref__" 202,.ref 24,.builtin "ExceptionGroup.__weakref__",.none]),#[]⟩
noncomputable def x12:Obj:=sO 24
noncomputable def x13:Obj:=⟨(.type "builtin_function_or_method"),none,(.fields #[.builtin "object.__init_subclass__",.ref 24]),#[]⟩
noncomputable def x14:Obj:=tO #[.ref 24]
noncomputable def x15 (P:Params):Obj:=dO #[en P "__module__" 214 m0,en P "__qualname__" 216 (.str "NoSign" 215),en P "__firstlineno__" 218 (.int 4 217),en P "__init__" 226 (.ref 41),en P "__static_attributes__" 228 (.ref 42)] 5
noncomputable def x16:Obj:=pO #[.int 6 0,.int 4 0,.ref 40]
noncomputable def x17:Obj:=cK "NoSign" 209 4 31 212
noncomputable def x18:Obj:=rM 33 30 m0
noncomputable def x19:Obj:=tO #[.str "self" 222,.str "at" 223]
noncomputable def x20:Obj:=gM (tc 2 0) "__init__" "NoSign.__init__"
noncomputable def x21:Obj:=cS "__init__" "NoSign.__init__" 219 6 2 35 224
noncomputable def x22:Obj:=fM (tc 2 0) "__init__" "NoSign.__init__" m0 40
noncomputable def x23:Obj:=tO #[.str "at" 227]
noncomputable def x24 (P:Params):Obj:=dO #[en P "__module__" 214 m0,en P "__firstlineno__" 218 (.int 4 217),en P "__init__" 226 (.ref 41),en P "__static_attributes__" 228 (.ref 42),en P "__doc__" 229 .none] 2
noncomputable def x25:Obj:=kO "NoSign" 44 24 43 28 207 215
noncomputable def x26:Obj:=sO 44
noncomputable def x27:Obj:=⟨(.type "builtin_function_or_method"),none,(.fields #[.builtin "object.__init_subclass__",.ref 44]),#[]⟩
noncomputable def x28 (P:Params):Obj:=dO #[en P "__module__" 239 m0,en P "__qualname__" 241 (.str "NoCode" 240),en P "__firstlineno__" 243 (.int 9 242),en P "__init__" 251 (.ref 60),en P "__static_attributes__" 253 (.ref 61)] 5
noncomputable def x29:Obj:=pO #[.int 11 0,.int 4 0,.ref 59]
noncomputable def x30:Obj:=cK "NoCode" 234 9 50 237
noncomputable def x31:Obj:=rM 52 49 m0
noncomputable def x32:Obj:=tO #[.str "self" 247,.str "at" 248]
noncomputable def x33:Obj:=gM (tc 3 0) "__init__" "NoCode.__init__"
noncomputable def x34:Obj:=cS "__init__" "NoCode.__init__" 244 11 2 54 249
noncomputable def x35:Obj:=fM (tc 3 0) "__init__" "NoCode.__init__" m0 59
noncomputable def x36:Obj:=tO #[.str "at" 252]
noncomputable def x37 (P:Params):Obj:=dO #[en P "__module__" 239 m0,en P "__firstlineno__" 243 (.int 9 242),en P "__init__" 251 (.ref 60),en P "__static_attributes__" 253 (.ref 61),en P "__doc__" 254 .none] 2
noncomputable def x38:Obj:=kO "NoCode" 63 24 62 47 232 240
noncomputable def x39:Obj:=sO 63
noncomputable def x40:Obj:=⟨(.type "builtin_function_or_method"),none,(.fields #[.builtin "object.__init_subclass__",.ref 63]),#[]⟩
noncomputable def x41 (P:Params):Obj:=dO #[en P "__module__" 264 m0,en P "__qualname__" 266 (.str "Unread" 265),en P "__firstlineno__" 268 (.int 14 267),en P "__init__" 276 (.ref 79),en P "__static_attributes__" 278 (.ref 80)] 5
noncomputable def x42:Obj:=pO #[.int 16 0,.int 4 0,.ref 78]
noncomputable def x43:Obj:=cK "Unread" 259 14 69 262
noncomputable def x44:Obj:=rM 71 68 m0
noncomputable def x45:Obj:=tO #[.str "self" 272,.str "at" 273]
noncomputable def x46:Obj:=gM (tc 4 0) "__init__" "Unread.__init__"
noncomputable def x47:Obj:=cS "__init__" "Unread.__init__" 269 16 2 73 274
noncomputable def x48:Obj:=fM (tc 4 0) "__init__" "Unread.__init__" m0 78
noncomputable def x49:Obj:=tO #[.str "at" 277]
noncomputable def x50 (P:Params):Obj:=dO #[en P "__module__" 264 m0,en P "__firstlineno__" 268 (.int 14 267),en P "__init__" 276 (.ref 79),en P "__static_attributes__" 278 (.ref 80),en P "__doc__" 279 .none] 2
noncomputable def x51:Obj:=kO "Unread" 82 24 81 66 257 265
noncomputable def x52:Obj:=sO 82
noncomputable def x53:Obj:=⟨(.type "builtin_function_or_method"),none,(.fields #[.builtin "object.__init_subclass__",.ref 82]),#[]⟩
noncomputable def x54 (P:Params):Obj:=dO #[en P "__module__" 289 m0,en P "__qualname__" 291 (.str "Unended" 290),en P "__firstlineno__" 293 (.int 19 292),en P "__static_attributes__" 294 (.ref 92)] 4
noncomputable def x55:Obj:=cK "Unended" 284 19 88 287
noncomputable def x56:Obj:=rM 90 87 m0
noncomputable def x57 (P:Params):Obj:=dO #[en P "__module__" 289 m0,en P "__firstlineno__" 293 (.int 19 292),en P "__static_attributes__" 294 (.ref 92),en P "__doc__" 295 .none] 2
noncomputable def x58:Obj:=kO "Unended" 94 24 93 85 282 290
noncomputable def x59:Obj:=sO 94
noncomputable def x60:Obj:=⟨(.type "builtin_function_or_method"),none,(.fields #[.builtin "object.__init_subclass__",.ref 94]),#[]⟩
noncomputable def x61 (P:Params):Obj:=dO #[en P "__module__" 305 m0,en P "__qualname__" 307 (.str "NoPage" 306),en P "__firstlineno__" 309 (.int 21 308),en P "__init__" 317 (.ref 110),en P "__static_attributes__" 319 (.ref 111)] 5
noncomputable def x62:Obj:=pO #[.int 23 0,.int 4 0,.ref 109]
noncomputable def x63:Obj:=cK "NoPage" 300 21 100 303
noncomputable def x64:Obj:=rM 102 99 m0
noncomputable def x65:Obj:=tO #[.str "self" 313,.str "at" 314]
noncomputable def x66:Obj:=gM (tc 6 0) "__init__" "NoPage.__init__"
noncomputable def x67:Obj:=cS "__init__" "NoPage.__init__" 310 23 2 104 315
noncomputable def x68:Obj:=fM (tc 6 0) "__init__" "NoPage.__init__" m0 109
noncomputable def x69:Obj:=tO #[.str "at" 318]
noncomputable def x70 (P:Params):Obj:=dO #[en P "__module__" 305 m0,en P "__firstlineno__" 309 (.int 21 308),en P "__init__" 317 (.ref 110),en P "__static_attributes__" 319 (.ref 111),en P "__doc__" 320 .none] 2
noncomputable def x71:Obj:=kO "NoPage" 113 24 112 97 298 306
noncomputable def x72:Obj:=sO 113
noncomputable def x73:Obj:=⟨(.type "builtin_function_or_method"),none,(.fields #[.builtin "object.__init_subclass__",.ref 113]),#[]⟩
noncomputable def x74 (P:Params):Obj:=dO #[en P "__module__" 330 m0,en P "__qualname__" 332 (.str "NoName" 331),en P "__firstlineno__" 334 (.int 26 333),en P "__init__" 342 (.ref 129),en P "__static_attributes__" 344 (.ref 130)] 5
noncomputable def x75:Obj:=pO #[.int 28 0,.int 4 0,.ref 128]
noncomputable def x76:Obj:=cK "NoName" 325 26 119 328
noncomputable def x77:Obj:=rM 121 118 m0
noncomputable def x78:Obj:=tO #[.str "self" 338,.str "name" 339]
noncomputable def x79:Obj:=gM (tc 7 0) "__init__" "NoName.__init__"
noncomputable def x80:Obj:=cS "__init__" "NoName.__init__" 335 28 2 123 340
noncomputable def x81:Obj:=fM (tc 7 0) "__init__" "NoName.__init__" m0 128
noncomputable def x82:Obj:=tO #[.str "name" 343]
noncomputable def x83 (P:Params):Obj:=dO #[en P "__module__" 330 m0,en P "__firstlineno__" 334 (.int 26 333),en P "__init__" 342 (.ref 129),en P "__static_attributes__" 344 (.ref 130),en P "__doc__" 345 .none] 2
noncomputable def x84:Obj:=kO "NoName" 132 24 131 116 323 331
noncomputable def x85:Obj:=sO 132
noncomputable def x86:Obj:=⟨(.type "builtin_function_or_method"),none,(.fields #[.builtin "object.__init_subclass__",.ref 132]),#[]⟩
noncomputable def x87 (P:Params):Obj:=dO #[en P "__module__" 355 m0,en P "__qualname__" 357 (.str "NoSheet" 356),en P "__firstlineno__" 359 (.int 31 358),en P "__init__" 367 (.ref 148),en P "__static_attributes__" 369 (.ref 149)] 5
noncomputable def x88:Obj:=pO #[.int 33 0,.int 4 0,.ref 147]
noncomputable def x89:Obj:=cK "NoSheet" 350 31 138 353
noncomputable def x90:Obj:=rM 140 137 m0
noncomputable def x91:Obj:=tO #[.str "self" 363,.str "at" 364]
noncomputable def x92:Obj:=gM (tc 8 0) "__init__" "NoSheet.__init__"
noncomputable def x93:Obj:=cS "__init__" "NoSheet.__init__" 360 33 2 142 365
noncomputable def x94:Obj:=fM (tc 8 0) "__init__" "NoSheet.__init__" m0 147
noncomputable def x95:Obj:=tO #[.str "at" 368]
noncomputable def x96 (P:Params):Obj:=dO #[en P "__module__" 355 m0,en P "__firstlineno__" 359 (.int 31 358),en P "__init__" 367 (.ref 148),en P "__static_attributes__" 369 (.ref 149),en P "__doc__" 370 .none] 2
noncomputable def x97:Obj:=kO "NoSheet" 151 24 150 135 348 356
noncomputable def x98:Obj:=sO 151
noncomputable def x99:Obj:=⟨(.type "builtin_function_or_method"),none,(.fields #[.builtin "object.__init_subclass__",.ref 151]),#[]⟩
noncomputable def x100 (P:Params):Obj:=dO #[en P "__module__" 380 m0,en P "__qualname__" 382 (.str "Twice" 381),en P "__firstlineno__" 384 (.int 36 383),en P "__init__" 392 (.ref 167),en P "__static_attributes__" 394 (.ref 168)] 5
noncomputable def x101:Obj:=pO #[.int 38 0,.int 4 0,.ref 166]
noncomputable def x102:Obj:=cK "Twice" 375 36 157 378
noncomputable def x103:Obj:=rM 159 156 m0
noncomputable def x104:Obj:=tO #[.str "self" 388,.str "name" 389]
noncomputable def x105:Obj:=gM (tc 9 0) "__init__" "Twice.__init__"
noncomputable def x106:Obj:=cS "__init__" "Twice.__init__" 385 38 2 161 390
noncomputable def x107:Obj:=fM (tc 9 0) "__init__" "Twice.__init__" m0 166
noncomputable def x108:Obj:=tO #[.str "name" 393]
noncomputable def x109 (P:Params):Obj:=dO #[en P "__module__" 380 m0,en P "__firstlineno__" 384 (.int 36 383),en P "__init__" 392 (.ref 167),en P "__static_attributes__" 394 (.ref 168),en P "__doc__" 395 .none] 2
noncomputable def x110:Obj:=kO "Twice" 170 24 169 154 373 381
noncomputable def x111:Obj:=sO 170
noncomputable def x112:Obj:=⟨(.type "builtin_function_or_method"),none,(.fields #[.builtin "object.__init_subclass__",.ref 170]),#[]⟩
noncomputable def x113 (P:Params):Obj:=dO #[en P "__module__" 405 m0,en P "__qualname__" 407 (.str "TooMany" 406),en P "__firstlineno__" 409 (.int 41 408),en P "__static_attributes__" 410 (.ref 180)] 4
noncomputable def x114:Obj:=cK "TooMany" 400 41 176 403
noncomputable def x115:Obj:=rM 178 175 m0
noncomputable def x116 (P:Params):Obj:=dO #[en P "__module__" 405 m0,en P "__firstlineno__" 409 (.int 41 408),en P "__static_attributes__" 410 (.ref 180),en P "__doc__" 411 .none] 2
noncomputable def x117:Obj:=kO "TooMany" 182 24 181 173 398 406
noncomputable def x118:Obj:=sO 182
noncomputable def x119:Obj:=⟨(.type "builtin_function_or_method"),none,(.fields #[.builtin "object.__init_subclass__",.ref 182]),#[]⟩
noncomputable def x120 (P:Params):Obj:=dO #[en P "__module__" 421 m0,en P "__qualname__" 423 (.str "Unknown" 422),en P "__firstlineno__" 425 (.int 43 424),en P "__init__" 433 (.ref 198),en P "__static_attributes__" 435 (.ref 199)] 5
noncomputable def x121:Obj:=pO #[.int 45 0,.int 4 0,.ref 197]
noncomputable def x122:Obj:=cK "Unknown" 416 43 188 419
noncomputable def x123:Obj:=rM 190 187 m0
noncomputable def x124:Obj:=tO #[.str "self" 429,.str "name" 430]
noncomputable def x125:Obj:=gM (tc 11 0) "__init__" "Unknown.__init__"
noncomputable def x126:Obj:=cS "__init__" "Unknown.__init__" 426 45 2 192 431
noncomputable def x127:Obj:=fM (tc 11 0) "__init__" "Unknown.__init__" m0 197
noncomputable def x128:Obj:=tO #[.str "name" 434]
noncomputable def x129 (P:Params):Obj:=dO #[en P "__module__" 421 m0,en P "__firstlineno__" 425 (.int 43 424),en P "__init__" 433 (.ref 198),en P "__static_attributes__" 435 (.ref 199),en P "__doc__" 436 .none] 2
noncomputable def x130:Obj:=kO "Unknown" 201 24 200 185 414 422
noncomputable def x131:Obj:=sO 201
noncomputable def x132:Obj:=⟨(.type "builtin_function_or_method"),none,(.fields #[.builtin "object.__init_subclass__",.ref 201]),#[]⟩
noncomputable def x133 (P:Params):Obj:=dO #[en P "__module__" 446 m0,en P "__qualname__" 448 (.str "RingOver" 447),en P "__firstlineno__" 450 (.int 48 449),en P "__init__" 458 (.ref 217),en P "__static_attributes__" 460 (.ref 218)] 5
noncomputable def x134:Obj:=pO #[.int 50 0,.int 4 0,.ref 216]
noncomputable def x135:Obj:=cK "RingOver" 441 48 207 444
noncomputable def x136:Obj:=rM 209 206 m0
noncomputable def x137:Obj:=tO #[.str "self" 454,.str "ring" 455]
noncomputable def x138:Obj:=gM (tc 12 0) "__init__" "RingOver.__init__"
noncomputable def x139:Obj:=cS "__init__" "RingOver.__init__" 451 50 2 211 456
noncomputable def x140:Obj:=fM (tc 12 0) "__init__" "RingOver.__init__" m0 216
noncomputable def x141:Obj:=tO #[.str "ring" 459]
noncomputable def x142 (P:Params):Obj:=dO #[en P "__module__" 446 m0,en P "__firstlineno__" 450 (.int 48 449),en P "__init__" 458 (.ref 217),en P "__static_attributes__" 460 (.ref 218),en P "__doc__" 461 .none] 2
noncomputable def x143:Obj:=kO "RingOver" 220 24 219 204 439 447
noncomputable def x144:Obj:=sO 220
noncomputable def x145:Obj:=⟨(.type "builtin_function_or_method"),none,(.fields #[.builtin "object.__init_subclass__",.ref 220]),#[]⟩
noncomputable def x146 (P:Params):Obj:=dO #[en P "__module__" 471 m0,en P "__qualname__" 473 (.str "Ringed" 472),en P "__firstlineno__" 475 (.int 53 474),en P "__init__" 483 (.ref 236),en P "__static_attributes__" 485 (.ref 237)] 5
noncomputable def x147:Obj:=pO #[.int 55 0,.int 4 0,.ref 235]
noncomputable def x148:Obj:=cK "Ringed" 466 53 226 469
noncomputable def x149:Obj:=rM 228 225 m0
noncomputable def x150:Obj:=tO #[.str "self" 479,.str "ring" 480]
noncomputable def x151:Obj:=gM (tc 13 0) "__init__" "Ringed.__init__"
noncomputable def x152:Obj:=cS "__init__" "Ringed.__init__" 476 55 2 230 481
noncomputable def x153:Obj:=fM (tc 13 0) "__init__" "Ringed.__init__" m0 235
noncomputable def x154:Obj:=tO #[.str "ring" 484]
noncomputable def x155 (P:Params):Obj:=dO #[en P "__module__" 471 m0,en P "__firstlineno__" 475 (.int 53 474),en P "__init__" 483 (.ref 236),en P "__static_attributes__" 485 (.ref 237),en P "__doc__" 486 .none] 2
noncomputable def x156:Obj:=kO "Ringed" 239 24 238 223 464 472
noncomputable def x157:Obj:=sO 239
noncomputable def x158:Obj:=⟨(.type "builtin_function_or_method"),none,(.fields #[.builtin "object.__init_subclass__",.ref 239]),#[]⟩
noncomputable def x159 (P:Params):Obj:=dO #[en P "__module__" 496 m0,en P "__qualname__" 498 (.str "NoElder" 497),en P "__firstlineno__" 500 (.int 58 499),en P "__init__" 508 (.ref 255),en P "__static_attributes__" 510 (.ref 256)] 5
noncomputable def x160:Obj:=pO #[.int 60 0,.int 4 0,.ref 254]
noncomputable def x161:Obj:=cK "NoElder" 491 58 245 494
noncomputable def x162:Obj:=rM 247 244 m0
noncomputable def x163:Obj:=tO #[.str "self" 504,.str "name" 505]
noncomputable def x164:Obj:=gM (tc 14 0) "__init__" "NoElder.__init__"
noncomputable def x165:Obj:=cS "__init__" "NoElder.__init__" 501 60 2 249 506
noncomputable def x166:Obj:=fM (tc 14 0) "__init__" "NoElder.__init__" m0 254
noncomputable def x167:Obj:=tO #[.str "name" 509]
noncomputable def x168 (P:Params):Obj:=dO #[en P "__module__" 496 m0,en P "__firstlineno__" 500 (.int 58 499),en P "__init__" 508 (.ref 255),en P "__static_attributes__" 510 (.ref 256),en P "__doc__" 511 .none] 2
noncomputable def x169:Obj:=kO "NoElder" 258 24 257 242 489 497
noncomputable def x170:Obj:=sO 258
noncomputable def x171:Obj:=⟨(.type "builtin_function_or_method"),none,(.fields #[.builtin "object.__init_subclass__",.ref 258]),#[]⟩
noncomputable def x172 (P:Params):Obj:=dO #[en P "__module__" 521 m0,en P "__qualname__" 523 (.str "Astray" 522),en P "__firstlineno__" 525 (.int 63 524),en P "__init__" 534 (.ref 274),en P "__static_attributes__" 537 (.ref 275)] 5
noncomputable def x173:Obj:=pO #[.int 65 0,.int 4 0,.ref 273]
noncomputable def x174:Obj:=cK "Astray" 516 63 264 519
noncomputable def x175:Obj:=rM 266 263 m0
noncomputable def x176:Obj:=tO #[.str "self" 529,.str "place" 530,.str "at" 531]
noncomputable def x177:Obj:=gM (tc 15 0) "__init__" "Astray.__init__"
noncomputable def x178:Obj:=cS "__init__" "Astray.__init__" 526 65 3 268 532
noncomputable def x179:Obj:=fM (tc 15 0) "__init__" "Astray.__init__" m0 273
noncomputable def x180:Obj:=tO #[.str "at" 535,.str "place" 536]
noncomputable def x181 (P:Params):Obj:=dO #[en P "__module__" 521 m0,en P "__firstlineno__" 525 (.int 63 524),en P "__init__" 534 (.ref 274),en P "__static_attributes__" 537 (.ref 275),en P "__doc__" 538 .none] 2
noncomputable def x182:Obj:=kO "Astray" 277 24 276 261 514 522
noncomputable def x183:Obj:=sO 277
noncomputable def x184:Obj:=⟨(.type "builtin_function_or_method"),none,(.fields #[.builtin "object.__init_subclass__",.ref 277]),#[]⟩
noncomputable def x185 (P:Params):Obj:=dO #[en P "__module__" 548 m0,en P "__qualname__" 550 (.str "NoPlace" 549),en P "__firstlineno__" 552 (.int 69 551),en P "__init__" 561 (.ref 293),en P "__static_attributes__" 564 (.ref 294)] 5
noncomputable def x186:Obj:=pO #[.int 71 0,.int 4 0,.ref 292]
noncomputable def x187:Obj:=cK "NoPlace" 543 69 283 546
noncomputable def x188:Obj:=rM 285 282 m0
noncomputable def x189:Obj:=tO #[.str "self" 556,.str "name" 557,.str "place" 558]
noncomputable def x190:Obj:=gM (tc 16 0) "__init__" "NoPlace.__init__"
noncomputable def x191:Obj:=cS "__init__" "NoPlace.__init__" 553 71 3 287 559
noncomputable def x192:Obj:=fM (tc 16 0) "__init__" "NoPlace.__init__" m0 292
noncomputable def x193:Obj:=tO #[.str "name" 562,.str "place" 563]
noncomputable def x194 (P:Params):Obj:=dO #[en P "__module__" 548 m0,en P "__firstlineno__" 552 (.int 69 551),en P "__init__" 561 (.ref 293),en P "__static_attributes__" 564 (.ref 294),en P "__doc__" 565 .none] 2
noncomputable def x195:Obj:=kO "NoPlace" 296 24 295 280 541 549
noncomputable def x196:Obj:=sO 296
noncomputable def x197:Obj:=⟨(.type "builtin_function_or_method"),none,(.fields #[.builtin "object.__init_subclass__",.ref 296]),#[]⟩
noncomputable def x198 (P:Params):Obj:=dO #[en P "__module__" 575 m0,en P "__qualname__" 577 (.str "Unlike" 576),en P "__firstlineno__" 579 (.int 75 578),en P "__init__" 589 (.ref 312),en P "__static_attributes__" 593 (.ref 313)] 5
noncomputable def x199:Obj:=pO #[.int 77 0,.int 4 0,.ref 311]
noncomputable def x200:Obj:=cK "Unlike" 570 75 302 573
noncomputable def x201:Obj:=rM 304 301 m0
noncomputable def x202:Obj:=tO #[.str "self" 583,.str "what" 584,.str "one" 585,.str "other" 586]
noncomputable def x203:Obj:=gM (tc 17 0) "__init__" "Unlike.__init__"
noncomputable def x204:Obj:=cS "__init__" "Unlike.__init__" 580 77 4 306 587
noncomputable def x205:Obj:=fM (tc 17 0) "__init__" "Unlike.__init__" m0 311
noncomputable def x206:Obj:=tO #[.str "one" 590,.str "other" 591,.str "what" 592]
noncomputable def x207 (P:Params):Obj:=dO #[en P "__module__" 575 m0,en P "__firstlineno__" 579 (.int 75 578),en P "__init__" 589 (.ref 312),en P "__static_attributes__" 593 (.ref 313),en P "__doc__" 594 .none] 2
noncomputable def x208:Obj:=kO "Unlike" 315 24 314 299 568 576
noncomputable def x209:Obj:=sO 315
noncomputable def x210:Obj:=⟨(.type "builtin_function_or_method"),none,(.fields #[.builtin "object.__init_subclass__",.ref 315]),#[]⟩
noncomputable def x211 (P:Params):Obj:=dO #[en P "__module__" 604 m0,en P "__qualname__" 606 (.str "LeftOpen" 605),en P "__firstlineno__" 608 (.int 82 607),en P "__init__" 616 (.ref 331),en P "__static_attributes__" 618 (.ref 332)] 5
noncomputable def x212:Obj:=pO #[.int 84 0,.int 4 0,.ref 330]
noncomputable def x213:Obj:=cK "LeftOpen" 599 82 321 602
noncomputable def x214:Obj:=rM 323 320 m0
noncomputable def x215:Obj:=tO #[.str "self" 612,.str "place" 613]
noncomputable def x216:Obj:=gM (tc 18 0) "__init__" "LeftOpen.__init__"
noncomputable def x217:Obj:=cS "__init__" "LeftOpen.__init__" 609 84 2 325 614
noncomputable def x218:Obj:=fM (tc 18 0) "__init__" "LeftOpen.__init__" m0 330
noncomputable def x219:Obj:=tO #[.str "place" 617]
noncomputable def x220 (P:Params):Obj:=dO #[en P "__module__" 604 m0,en P "__firstlineno__" 608 (.int 82 607),en P "__init__" 616 (.ref 331),en P "__static_attributes__" 618 (.ref 332),en P "__doc__" 619 .none] 2
noncomputable def x221:Obj:=kO "LeftOpen" 334 24 333 318 597 605
noncomputable def x222:Obj:=sO 334
noncomputable def x223:Obj:=⟨(.type "builtin_function_or_method"),none,(.fields #[.builtin "object.__init_subclass__",.ref 334]),#[]⟩
noncomputable def x224 (P:Params):Obj:=dO #[en P "__module__" 629 m0,en P "__qualname__" 631 (.str "NoValue" 630),en P "__firstlineno__" 633 (.int 87 632),en P "__init__" 641 (.ref 350),en P "__static_attributes__" 643 (.ref 351)] 5
noncomputable def x225:Obj:=pO #[.int 89 0,.int 4 0,.ref 349]
noncomputable def x226:Obj:=cK "NoValue" 624 87 340 627
noncomputable def x227:Obj:=rM 342 339 m0
noncomputable def x228:Obj:=tO #[.str "self" 637,.str "name" 638]
noncomputable def x229:Obj:=gM (tc 19 0) "__init__" "NoValue.__init__"
noncomputable def x230:Obj:=cS "__init__" "NoValue.__init__" 634 89 2 344 639
noncomputable def x231:Obj:=fM (tc 19 0) "__init__" "NoValue.__init__" m0 349
noncomputable def x232:Obj:=tO #[.str "name" 642]
noncomputable def x233 (P:Params):Obj:=dO #[en P "__module__" 629 m0,en P "__firstlineno__" 633 (.int 87 632),en P "__init__" 641 (.ref 350),en P "__static_attributes__" 643 (.ref 351),en P "__doc__" 644 .none] 2
noncomputable def x234:Obj:=kO "NoValue" 353 24 352 337 622 630
noncomputable def x235:Obj:=sO 353
noncomputable def x236:Obj:=⟨(.type "builtin_function_or_method"),none,(.fields #[.builtin "object.__init_subclass__",.ref 353]),#[]⟩
noncomputable def x237 (P:Params):Obj:=dO #[en P "__module__" 654 m0,en P "__qualname__" 656 (.str "NoKind" 655),en P "__firstlineno__" 658 (.int 92 657),en P "__init__" 666 (.ref 369),en P "__static_attributes__" 668 (.ref 370)] 5
noncomputable def x238:Obj:=pO #[.int 94 0,.int 4 0,.ref 368]
noncomputable def x239:Obj:=cK "NoKind" 649 92 359 652
noncomputable def x240:Obj:=rM 361 358 m0
noncomputable def x241:Obj:=tO #[.str "self" 662,.str "name" 663]
noncomputable def x242:Obj:=gM (tc 20 0) "__init__" "NoKind.__init__"
noncomputable def x243:Obj:=cS "__init__" "NoKind.__init__" 659 94 2 363 664
noncomputable def x244:Obj:=fM (tc 20 0) "__init__" "NoKind.__init__" m0 368
noncomputable def x245:Obj:=tO #[.str "name" 667]
noncomputable def x246 (P:Params):Obj:=dO #[en P "__module__" 654 m0,en P "__firstlineno__" 658 (.int 92 657),en P "__init__" 666 (.ref 369),en P "__static_attributes__" 668 (.ref 370),en P "__doc__" 669 .none] 2
noncomputable def x247:Obj:=kO "NoKind" 372 24 371 356 647 655
noncomputable def x248:Obj:=sO 372
noncomputable def x249:Obj:=⟨(.type "builtin_function_or_method"),none,(.fields #[.builtin "object.__init_subclass__",.ref 372]),#[]⟩
noncomputable def x250 (P:Params):Obj:=dO #[en P "__module__" 679 m0,en P "__qualname__" 681 (.str "NoRow" 680),en P "__firstlineno__" 683 (.int 97 682),en P "__static_attributes__" 684 (.ref 382)] 4
noncomputable def x251:Obj:=cK "NoRow" 674 97 378 677
noncomputable def x252:Obj:=rM 380 377 m0
noncomputable def x253 (P:Params):Obj:=dO #[en P "__module__" 679 m0,en P "__firstlineno__" 683 (.int 97 682),en P "__static_attributes__" 684 (.ref 382),en P "__doc__" 685 .none] 2
noncomputable def x254:Obj:=kO "NoRow" 384 24 383 375 672 680
noncomputable def x255:Obj:=sO 384
noncomputable def x256:Obj:=⟨(.type "builtin_function_or_method"),none,(.fields #[.builtin "object.__init_subclass__",.ref 384]),#[]⟩
noncomputable def x257:Obj:=tO #[.str "number" 701]
noncomputable def x258:Obj:=gM (tp 27) "sign_of" "sign_of"
noncomputable def x259:Obj:=cN "sign_of" 698 104 1 387 702
noncomputable def x260:Obj:=fM (tp 27) "sign_of" "sign_of" m1 392
noncomputable def x261:Obj:=tO #[.str "figures" 708,.str "number" 709]
noncomputable def x262:Obj:=gM (tp 28) "sign_told" "sign_told"
noncomputable def x263:Obj:=cN "sign_told" 705 106 1 394 710
noncomputable def x264:Obj:=fM (tp 28) "sign_told" "sign_told" m1 399
noncomputable def x265:Obj:=tO #[.str "text" 717,.str "bare" 718,.str "row" 719,.str "quoted" 720]
noncomputable def x266:Obj:=tO #[.str "state" 725]
noncomputable def x267:Obj:=gM (tp 32) "place_of" "place_of"
noncomputable def x268:Obj:=cN "place_of" 722 114 1 402 726
noncomputable def x269:Obj:=fM (tp 32) "place_of" "place_of" m2 407
noncomputable def x270:Obj:=tO #[.str "sign" 734]
noncomputable def x271:Obj:=gM (tp 34) "fed_between" "fed_between"
noncomputable def x272:Obj:=cN "fed_between" 731 119 1 409 735
noncomputable def x273:Obj:=fM (tp 34) "fed_between" "fed_between" m3 414
noncomputable def x274:Obj:=tO #[.str "sign" 741]
noncomputable def x275:Obj:=gM (tp 35) "fed_word" "fed_word"
noncomputable def x276:Obj:=cN "fed_word" 738 127 1 416 742
noncomputable def x277:Obj:=fM (tp 35) "fed_word" "fed_word" m3 421
noncomputable def x278:Obj:=tO #[.str "sign" 748]
noncomputable def x279:Obj:=gM (tp 36) "fed_said" "fed_said"
noncomputable def x280:Obj:=cN "fed_said" 745 131 1 423 749
noncomputable def x281:Obj:=fM (tp 36) "fed_said" "fed_said" m3 428
noncomputable def x282:Obj:=tO #[.str "talk" 755,.str "sign" 756]
noncomputable def x283:Obj:=gM (tp 37) "feed" "feed"
noncomputable def x284:Obj:=cN "feed" 752 137 2 430 757
noncomputable def x285:Obj:=fM (tp 37) "feed" "feed" m3 435
noncomputable def x286:Obj:=tO #[.str "mode" 769,.str "opens" 770,.str "events" 771]
noncomputable def x287:Obj:=gM (tp 41) "come_to" "come_to"
noncomputable def x288:Obj:=cN "come_to" 766 150 3 437 772
noncomputable def x289:Obj:=fM (tp 41) "come_to" "come_to" m4 442
noncomputable def x290:Obj:=tO #[.str "mode" 778,.str "opens" 779,.str "sign" 780]
noncomputable def x291:Obj:=gM (tp 42) "told" "told"
noncomputable def x292:Obj:=cN "told" 775 152 3 444 781
noncomputable def x293:Obj:=fM (tp 42) "told" "told" m4 449
noncomputable def x294:Obj:=tO #[.str "mode" 787,.str "word" 788,.str "opens" 789,.str "talk" 790,.str "most" 791]
noncomputable def x295:Obj:=gM (tp 43) "gathered" "gathered"
noncomputable def x296:Obj:=cN "gathered" 784 156 5 451 792
noncomputable def x297:Obj:=fM (tp 43) "gathered" "gathered" m4 456
noncomputable def x298:Obj:=tO #[.str "opens" 798,.str "events" 799]
noncomputable def x299:Obj:=gM (tp 44) "box_shut" "box_shut"
noncomputable def x300:Obj:=cN "box_shut" 795 160 2 458 800
noncomputable def x301:Obj:=fM (tp 44) "box_shut" "box_shut" m4 463
noncomputable def x302:Obj:=tO #[.str "opens" 806,.str "events" 807,.str "mode" 808]
noncomputable def x303:Obj:=gM (tp 45) "into_box" "into_box"
noncomputable def x304:Obj:=cN "into_box" 803 164 2 465 809
noncomputable def x305:Obj:=fM (tp 45) "into_box" "into_box" m4 470
noncomputable def x306:Obj:=tO #[.str "opens" 815,.str "sign" 816,.str "events" 817]
noncomputable def x307:Obj:=gM (tp 46) "led_on" "led_on"
noncomputable def x308:Obj:=cN "led_on" 812 169 3 472 818
noncomputable def x309:Obj:=fM (tp 46) "led_on" "led_on" m4 477
noncomputable def x310:Obj:=tO #[.str "opens" 824,.str "talk" 825,.str "sign" 826,.str "answer" 827]
noncomputable def x311:Obj:=gM (tp 47) "fed" "fed"
noncomputable def x312:Obj:=cN "fed" 821 177 3 479 828
noncomputable def x313:Obj:=fM (tp 47) "fed" "fed" m4 484
noncomputable def x314:Obj:=tO #[.str "word" 834,.str "sign" 835]
noncomputable def x315:Obj:=gM (tp 48) "mark_ended" "mark_ended"
noncomputable def x316:Obj:=cN "mark_ended" 831 182 2 486 836
noncomputable def x317:Obj:=fM (tp 48) "mark_ended" "mark_ended" m4 491
noncomputable def x318:Obj:=tO #[.str "word" 842,.str "opens" 843,.str "talk" 844,.str "sign" 845]
noncomputable def x319:Obj:=gM (tp 49) "at_text" "at_text"
noncomputable def x320:Obj:=cN "at_text" 839 184 4 493 846
noncomputable def x321:Obj:=fM (tp 49) "at_text" "at_text" m4 498
noncomputable def x322:Obj:=tO #[.str "word" 852,.str "opens" 853,.str "talk" 854,.str "sign" 855]
noncomputable def x323:Obj:=gM (tp 50) "at_mark" "at_mark"
noncomputable def x324:Obj:=cN "at_mark" 849 190 4 500 856
noncomputable def x325:Obj:=fM (tp 50) "at_mark" "at_mark" m4 505
noncomputable def x326:Obj:=tO #[.str "word" 862,.str "opens" 863,.str "talk" 864,.str "sign" 865]
noncomputable def x327:Obj:=gM (tp 51) "at_open" "at_open"
noncomputable def x328:Obj:=cN "at_open" 859 194 4 507 866
noncomputable def x329:Obj:=fM (tp 51) "at_open" "at_open" m4 512
noncomputable def x330:Obj:=tO #[.str "word" 872,.str "opens" 873,.str "talk" 874,.str "sign" 875]
noncomputable def x331:Obj:=gM (tp 52) "at_name" "at_name"
noncomputable def x332:Obj:=cN "at_name" 869 200 4 514 876
noncomputable def x333:Obj:=fM (tp 52) "at_name" "at_name" m4 519
noncomputable def x334:Obj:=tO #[.str "word" 882,.str "opens" 883,.str "talk" 884,.str "sign" 885]
noncomputable def x335:Obj:=gM (tp 53) "at_slash" "at_slash"
noncomputable def x336:Obj:=cN "at_slash" 879 204 4 521 886
noncomputable def x337:Obj:=fM (tp 53) "at_slash" "at_slash" m4 526
noncomputable def x338:Obj:=tO #[.str "word" 892,.str "opens" 893,.str "talk" 894,.str "sign" 895]
noncomputable def x339:Obj:=gM (tp 54) "at_shut" "at_shut"
noncomputable def x340:Obj:=cN "at_shut" 889 208 4 528 896
noncomputable def x341:Obj:=fM (tp 54) "at_shut" "at_shut" m4 533
noncomputable def x342:Obj:=tO #[.str "word" 902,.str "opens" 903,.str "talk" 904,.str "sign" 905]
noncomputable def x343:Obj:=gM (tp 55) "at_gap" "at_gap"
noncomputable def x344:Obj:=cN "at_gap" 899 214 4 535 906
noncomputable def x345:Obj:=fM (tp 55) "at_gap" "at_gap" m4 540
noncomputable def x346:Obj:=tO #[.str "word" 912,.str "opens" 913,.str "talk" 914,.str "sign" 915]
noncomputable def x347:Obj:=gM (tp 56) "at_attr" "at_attr"
noncomputable def x348:Obj:=cN "at_attr" 909 218 4 542 916
noncomputable def x349:Obj:=fM (tp 56) "at_attr" "at_attr" m4 547
noncomputable def x350:Obj:=tO #[.str "word" 922,.str "opens" 923,.str "talk" 924,.str "sign" 925]
noncomputable def x351:Obj:=gM (tp 57) "at_is" "at_is"
noncomputable def x352:Obj:=cN "at_is" 919 230 4 549 926
noncomputable def x353:Obj:=fM (tp 57) "at_is" "at_is" m4 554
noncomputable def x354:Obj:=tO #[.str "word" 932,.str "opens" 933,.str "talk" 934,.str "sign" 935]
noncomputable def x355:Obj:=gM (tp 58) "at_bang" "at_bang"
noncomputable def x356:Obj:=cN "at_bang" 929 234 4 556 936
noncomputable def x357:Obj:=fM (tp 58) "at_bang" "at_bang" m4 561
noncomputable def x358:Obj:=tO #[.str "word" 942,.str "opens" 943,.str "talk" 944,.str "sign" 945]
noncomputable def x359:Obj:=gM (tp 59) "at_bare" "at_bare"
noncomputable def x360:Obj:=cN "at_bare" 939 238 4 563 946
noncomputable def x361:Obj:=fM (tp 59) "at_bare" "at_bare" m4 568
noncomputable def x362:Obj:=tO #[.str "word" 952,.str "opens" 953,.str "talk" 954,.str "sign" 955]
noncomputable def x363:Obj:=gM (tp 60) "at_code" "at_code"
noncomputable def x364:Obj:=cN "at_code" 949 244 4 570 956
noncomputable def x365:Obj:=fM (tp 60) "at_code" "at_code" m4 575
noncomputable def x366:Obj:=tO #[.str "word" 962,.str "opens" 963,.str "talk" 964,.str "sign" 965]
noncomputable def x367:Obj:=gM (tp 61) "at_row" "at_row"
noncomputable def x368:Obj:=cN "at_row" 959 248 4 577 966
noncomputable def x369:Obj:=fM (tp 61) "at_row" "at_row" m4 582
noncomputable def x370:Obj:=tO #[.str "word" 972,.str "opens" 973,.str "talk" 974,.str "sign" 975]
noncomputable def x371:Obj:=gM (tp 62) "at_stroke" "at_stroke"
noncomputable def x372:Obj:=cN "at_stroke" 969 256 4 584 976
noncomputable def x373:Obj:=fM (tp 62) "at_stroke" "at_stroke" m4 589
noncomputable def x374:Obj:=tO #[.str "word" 982,.str "opens" 983,.str "talk" 984,.str "sign" 985]
noncomputable def x375:Obj:=gM (tp 63) "at_quoted" "at_quoted"
noncomputable def x376:Obj:=cN "at_quoted" 979 258 4 591 986
noncomputable def x377:Obj:=fM (tp 63) "at_quoted" "at_quoted" m4 596
noncomputable def x378:Obj:=tO #[.str "word" 992,.str "opens" 993,.str "talk" 994,.str "sign" 995]
noncomputable def x379:Obj:=gM (tp 64) "at_qmark" "at_qmark"
noncomputable def x380:Obj:=cN "at_qmark" 989 264 4 598 996
noncomputable def x381:Obj:=fM (tp 64) "at_qmark" "at_qmark" m4 603
noncomputable def x382:Obj:=tO #[.str "word" 1002,.str "opens" 1003,.str "talk" 1004,.str "sign" 1005]
noncomputable def x383:Obj:=gM (tp 65) "at_done" "at_done"
noncomputable def x384:Obj:=cN "at_done" 999 268 4 605 1006
noncomputable def x385:Obj:=fM (tp 65) "at_done" "at_done" m4 610
noncomputable def x386:Obj:=tO #[.str "word" 1012,.str "opens" 1013,.str "talk" 1014,.str "sign" 1015]
noncomputable def x387:Obj:=gM (tp 66) "at_talk" "at_talk"
noncomputable def x388:Obj:=cN "at_talk" 1009 270 4 612 1016
noncomputable def x389:Obj:=fM (tp 66) "at_talk" "at_talk" m4 617
noncomputable def x390:Obj:=tO #[.str "word" 1022,.str "opens" 1023,.str "talk" 1024,.str "sign" 1025]
noncomputable def x391:Obj:=gM (tp 67) "at_tmark" "at_tmark"
noncomputable def x392:Obj:=cN "at_tmark" 1019 276 4 619 1026
noncomputable def x393:Obj:=fM (tp 67) "at_tmark" "at_tmark" m4 624
noncomputable def x394:Obj:=gM (tp 68) "at_asis" "at_asis"
noncomputable def x395:Obj:=cM "at_asis" "at_asis" 1029 280 4 3 626 true 627 .none .none .none (.ref 628) 1032
noncomputable def x396:Obj:=fM (tp 68) "at_asis" "at_asis" m4 629
noncomputable def x397 (P:Params):Obj:=dO #[en P "__name__" 165 (.str "law_sealpress_k77_seats_on_their_floors" 1322),en P "__doc__" 166 .none,en P "__package__" 167 .none,en P "__loader__" 168 (.builtin "__main__.__loader__#opaque"),en P "__spec__" 169 .none,en P "__annotations__" 170 (.ref 6),en P "__builtins__" 171 (.ref 4),en P "__file__" 173 (.str "/claim/cut.py" 172),en P "__cached__" 174 .none,en P "SealError" 206 (.ref 24),en P "NoSign" 231 (.ref 44),en P "NoCode" 256 (.ref 63),en P "Unread" 281 (.ref 82),en P "Unended" 297 (.ref 94),en P "NoPage" 322 (.ref 113),en P "NoName" 347 (.ref 132),en P "NoSheet" 372 (.ref 151),en P "Twice" 397 (.ref 170),en P "TooMany" 413 (.ref 182),en P "Unknown" 438 (.ref 201),en P "RingOver" 463 (.ref 220),en P "Ringed" 488 (.ref 239),en P "NoElder" 513 (.ref 258),en P "Astray" 540 (.ref 277),en P "NoPlace" 567 (.ref 296),en P "Unlike" 596 (.ref 315),en P "LeftOpen" 621 (.ref 334),en P "NoValue" 646 (.ref 353),en P "NoKind" 671 (.ref 372),en P "NoRow" 687 (.ref 384),en P "SIGNS" 691 (.str " !\"#$&'()*+,-./0123456789:;<=>?@ABCDEFGHIJKLMNOPQRSTUVWXYZ[\\]^_`abcdefghijklmnopqrstuvwxyz{|}~" 690),en P "FIGURES" 693 (.str "0123456789" 692),en P "LETTERS" 695 (.str "abcdefghijklmnopqrstuvwxyz" 694),en P "LONGEST_NAME" 697 (.int 8 696),en P "sign_of" 704 (.ref 393),en P "sign_told" 712 (.ref 400),en P "WORDSIGNS" 714 (.str "abcdefghijklmnopqrstuvwxyz0123456789-" 713),en P "PLACE_MODES" 721 (.ref 401),en P "place_of" 728 (.ref 408),en P "fed_between" 737 (.ref 415),en P "fed_word" 744 (.ref 422),en P "fed_said" 751 (.ref 429),en P "feed" 759 (.ref 436),en P "ASIS_END" 763 (.str "</asis>" 762),en P "MARK_FIGURES" 765 (.int 2 764),en P "come_to" 774 (.ref 443),en P "told" 783 (.ref 450),en P "gathered" 794 (.ref 457),en P "box_shut" 802 (.ref 464),en P "into_box" 811 (.ref 471),en P "led_on" 820 (.ref 478),en P "fed" 830 (.ref 485),en P "mark_ended" 838 (.ref 492),en P "at_text" 848 (.ref 499),en P "at_mark" 858 (.ref 506),en P "at_open" 868 (.ref 513),en P "at_name" 878 (.ref 520),en P "at_slash" 888 (.ref 527),en P "at_shut" 898 (.ref 534),en P "at_gap" 908 (.ref 541),en P "at_attr" 918 (.ref 548),en P "at_is" 928 (.ref 555),en P "at_bang" 938 (.ref 562),en P "at_bare" 948 (.ref 569),en P "at_code" 958 (.ref 576),en P "at_row" 968 (.ref 583),en P "at_stroke" 978 (.ref 590),en P "at_quoted" 988 (.ref 597),en P "at_qmark" 998 (.ref 604),en P "at_done" 1008 (.ref 611),en P "at_talk" 1018 (.ref 618),en P "at_tmark" 1028 (.ref 625),en P "at_asis" 1034 (.ref 630),en P "MODES" 1075 (.ref 631),en P "moved" 1084 (.ref 639),en P "begin" 1092 (.ref 646),en P "step" 1100 (.ref 653),en P "run" 1113 (.ref 660),en P "is_end" 1120 (.ref 667),en P "floored" 1127 (.ref 674),en P "Spot" 1185 (.ref 712),en P "Looking" 1304 (.ref 789),en P "looked_at" 1314 (.ref 800),en P "look" 1321 (.ref 807),en P "_law_cell" 1332 (.ref 814),en P "_law_mix" 1344 (.ref 821),en P "_law_other" 1351 (.ref 828),en P "_law_looked" 1360 (.ref 835),en P "_law_refusal" 1367 (.ref 842),en P "_law_spots" 1374 (.ref 849),en P "_law_menu" 1380 (.ref 854),en P "_law_found" 1393 (.ref 861),en P "_law_ran" 1403 (.ref 868),en P "_law_seat" 1410 (.ref 875),en P "_law_due" 1420 (.ref 882),en P "_law_right" 1432 (.ref 889),en P "_law_evens" 1443 (.ref 896),en P "law" 1459 (.ref 903)] 98
noncomputable def x398 (P:Params):Obj:=dO #[en P "text" 1035 (.ref 499),en P "mark" 1037 (.ref 506),en P "open" 1039 (.ref 513),en P "name" 1041 (.ref 520),en P "slash" 1043 (.ref 527),en P "shut" 1045 (.ref 534),en P "gap" 1047 (.ref 541),en P "attr" 1049 (.ref 548),en P "is" 1051 (.ref 555),en P "bang" 1053 (.ref 562),en P "bare" 1055 (.ref 569),en P "code" 1057 (.ref 576),en P "row" 1059 (.ref 583),en P "stroke" 1061 (.ref 590),en P "quoted" 1063 (.ref 597),en P "qmark" 1065 (.ref 604),en P "done" 1067 (.ref 611),en P "talk" 1069 (.ref 618),en P "tmark" 1070 (.ref 625),en P "asis" 1071 (.ref 630)] 20
noncomputable def x399:Obj:=cN "moved" 1076 291 2 633 1082
noncomputable def x400:Obj:=fM (tp 70) "moved" "moved" m4 638
noncomputable def x401:Obj:=cN "begin" 1087 295 0 640 1090
noncomputable def x402:Obj:=fM (tp 72) "begin" "begin" m5 645
noncomputable def x403:Obj:=cN "step" 1093 297 2 647 1098
noncomputable def x404:Obj:=fM (tp 73) "step" "step" m5 652
noncomputable def x405:Obj:=cN "run" 1101 299 2 654 1111
noncomputable def x406:Obj:=fM (tp 74) "run" "run" m5 659
noncomputable def x407:Obj:=cN "is_end" 1114 309 1 661 1118
noncomputable def x408:Obj:=fM (tp 75) "is_end" "is_end" m5 666
noncomputable def x409:Obj:=cN "floored" 1121 311 1 668 1125
noncomputable def x410:Obj:=fM (tp 76) "floored" "floored" m5 673
noncomputable def x411:Obj:=cS "__init__" "Spot.__init__" 1142 316 4 682 1149
noncomputable def x412:Obj:=fM (tc 78 0) "__init__" "Spot.__init__" m6 687
noncomputable def x413:Obj:=cS "shown" "Spot.shown" 1152 321 1 689 1156
noncomputable def x414:Obj:=fM (tc 78 1) "shown" "Spot.shown" m6 694
noncomputable def x415:Obj:=cS "met" "Spot.met" 1159 324 2 696 1164
noncomputable def x416:Obj:=fM (tc 78 2) "met" "Spot.met" m6 701
noncomputable def x417 (P:Params):Obj:=dO #[en P "__module__" 1137 m6,en P "__firstlineno__" 1141 (.int 314 1140),en P "__init__" 1151 (.ref 688),en P "shown" 1158 (.ref 695),en P "met" 1166 (.ref 702),en P "turned" 1174 (.ref 709),en P "__static_attributes__" 1178 (.ref 710),en P "__dict__" 1180 (.ref 713),en P "__weakref__" 1182 (.ref 714),en P "__doc__" 1183 .none] 4
noncomputable def x418:Obj:=⟨(.type "type"),none,(.cls ⟨"Spot",[.type "object"],[.ref 712,.type "object"],711,"Spot",true,[],[],false,none,false⟩),#[none,none,some (.str "Spot" 1130),some (.str "Spot" 1138),some (.builtin "object.__new__"),some (.bool true)]⟩
noncomputable def x419:Obj:=cS "__init__" "Looking.__init__" 1198 331 2 724 1203
noncomputable def x420:Obj:=fM (tc 79 0) "__init__" "Looking.__init__" m6 729
noncomputable def x421:Obj:=cS "look_all" "Looking.look_all" 1206 336 3 731 1214
noncomputable def x422:Obj:=fM (tc 79 1) "look_all" "Looking.look_all" m6 736
noncomputable def x423:Obj:=cS "look_piece" "Looking.look_piece" 1217 342 3 738 1224
noncomputable def x424:Obj:=fM (tc 79 2) "look_piece" "Looking.look_piece" m6 743
noncomputable def x425:Obj:=cS "look_literal" "Looking.look_literal" 1227 356 3 745 1235
noncomputable def x426:Obj:=fM (tc 79 3) "look_literal" "Looking.look_literal" m6 750
noncomputable def x427:Obj:=cS "look_seat" "Looking.look_seat" 1270 384 3 773 1278
noncomputable def x428:Obj:=fM (tc 79 7) "look_seat" "Looking.look_seat" m6 778
noncomputable def x429 (P:Params):Obj:=dO #[en P "__module__" 1193 m6,en P "__firstlineno__" 1197 (.int 329 1196),en P "__init__" 1205 (.ref 730),en P "look_all" 1216 (.ref 737),en P "look_piece" 1226 (.ref 744),en P "look_literal" 1237 (.ref 751),en P "look_hole" 1247 (.ref 758),en P "look_each" 1258 (.ref 765),en P "look_if" 1269 (.ref 772),en P "look_seat" 1280 (.ref 779),en P "look_drawn" 1293 (.ref 786),en P "__static_attributes__" 1297 (.ref 787),en P "__dict__" 1299 (.ref 790),en P "__weakref__" 1301 (.ref 791),en P "__doc__" 1302 .none] 4
noncomputable def x430:Obj:=⟨(.type "type"),none,(.cls ⟨"Looking",[.type "object"],[.ref 789,.type "object"],788,"Looking",true,[],[],false,none,false⟩),#[none,none,some (.str "Looking" 1186),some (.str "Looking" 1194),some (.builtin "object.__new__"),some (.bool true)]⟩
noncomputable def x431:Obj:=cN "looked_at" 1305 402 2 794 1312
noncomputable def x432:Obj:=fM (tp 80) "looked_at" "looked_at" m6 799
noncomputable def x433:Obj:=cN "look" 1315 408 1 801 1319
noncomputable def x434:Obj:=fM (tp 81) "look" "look" m6 806
noncomputable def x435:Obj:=cN "_law_cell" 1324 411 2 808 1330
noncomputable def x436:Obj:=fM (tp 83) "_law_cell" "_law_cell" m7 813
noncomputable def x437:Obj:=cN "_law_mix" 1333 418 3 815 1342
noncomputable def x438:Obj:=fM (tp 84) "_law_mix" "_law_mix" m7 820
noncomputable def x439:Obj:=cN "_law_other" 1345 425 1 822 1349
noncomputable def x440:Obj:=fM (tp 85) "_law_other" "_law_other" m7 827
noncomputable def x441:Obj:=cN "_law_looked" 1352 429 1 829 1358
noncomputable def x442:Obj:=fM (tp 86) "_law_looked" "_law_looked" m7 834
noncomputable def x443:Obj:=cN "_law_refusal" 1361 435 1 836 1365
noncomputable def x444:Obj:=fM (tp 87) "_law_refusal" "_law_refusal" m7 841
noncomputable def x445:Obj:=cN "_law_spots" 1368 446 0 843 1372
noncomputable def x446:Obj:=fM (tp 88) "_law_spots" "_law_spots" m7 848
noncomputable def x447:Obj:=cM "_law_menu" "_law_menu" 1375 451 2 3 850 true 851 .none .none .none (.ref 852) 1378
noncomputable def x448:Obj:=fM (tp 89) "_law_menu" "_law_menu" m7 853
noncomputable def x449:Obj:=cN "_law_found" 1381 455 3 855 1391
noncomputable def x450:Obj:=fM (tp 90) "_law_found" "_law_found" m7 860
noncomputable def x451:Obj:=cN "_law_ran" 1394 466 2 862 1401
noncomputable def x452:Obj:=fM (tp 91) "_law_ran" "_law_ran" m7 867
noncomputable def x453:Obj:=cN "_law_seat" 1404 472 1 869 1408
noncomputable def x454:Obj:=fM (tp 92) "_law_seat" "_law_seat" m7 874
noncomputable def x455:Obj:=cN "_law_due" 1411 474 3 876 1418
noncomputable def x456:Obj:=fM (tp 93) "_law_due" "_law_due" m7 881
noncomputable def x457:Obj:=cN "_law_right" 1421 481 2 883 1430
noncomputable def x458:Obj:=fM (tp 94) "_law_right" "_law_right" m7 888
noncomputable def x459:Obj:=cN "_law_evens" 1433 494 2 890 1441
noncomputable def x460:Obj:=fM (tp 95) "_law_evens" "_law_evens" m7 895
noncomputable def x461:Obj:=cN "law" 1444 502 1 897 1457
noncomputable def x462:Obj:=fM (tp 96) "law" "law" m7 902
noncomputable def kh0 (P:Params):PySem.W.Frag:=[(2,boot_o_2 P),(3,x397 P),(15,x2),(22,x5),(23,x9 P),(24,x10),(25,x11),(43,x24 P),(44,x25),(62,x37 P),(63,x38),(78,x47)]
noncomputable def kh1 (P:Params):PySem.W.Frag:=[(79,x48),(81,x50 P),(82,x51),(93,x57 P),(94,x58),(112,x70 P),(113,x71),(131,x83 P),(132,x84),(150,x96 P),(151,x97),(169,x109 P)]
noncomputable def kh2 (P:Params):PySem.W.Frag:=[(170,x110),(181,x116 P),(182,x117),(200,x129 P),(201,x130),(219,x142 P),(220,x143),(238,x155 P),(239,x156),(257,x168 P),(258,x169),(273,x178)]
noncomputable def kh3 (P:Params):PySem.W.Frag:=[(274,x179),(276,x181 P),(277,x182),(295,x194 P),(296,x195),(311,x204),(312,x205),(314,x207 P),(315,x208),(333,x220 P),(334,x221),(352,x233 P)]
noncomputable def kh4 (P:Params):PySem.W.Frag:=[(353,x234),(371,x246 P),(372,x247),(383,x253 P),(384,x254),(392,x259),(393,x260),(399,x263),(400,x264),(414,x272),(415,x273),(421,x276)]
noncomputable def kh5 (P:Params):PySem.W.Frag:=[(422,x277),(428,x280),(429,x281),(435,x284),(436,x285),(442,x288),(443,x289),(449,x292),(450,x293),(456,x296),(457,x297),(463,x300)]
noncomputable def kh6 (P:Params):PySem.W.Frag:=[(464,x301),(470,x304),(471,x305),(477,x308),(478,x309),(484,x312),(485,x313),(491,x316),(492,x317),(498,x320),(499,x321),(505,x324)]
noncomputable def kh7 (P:Params):PySem.W.Frag:=[(506,x325),(512,x328),(513,x329),(519,x332),(520,x333),(526,x336),(527,x337),(533,x340),(534,x341),(540,x344),(541,x345),(547,x348)]
noncomputable def kh8 (P:Params):PySem.W.Frag:=[(548,x349),(554,x352),(555,x353),(561,x356),(562,x357),(568,x360),(569,x361),(575,x364),(576,x365),(582,x368),(583,x369),(589,x372)]
noncomputable def kh9 (P:Params):PySem.W.Frag:=[(590,x373),(596,x376),(597,x377),(603,x380),(604,x381),(610,x384),(611,x385),(617,x388),(618,x389),(624,x392),(625,x393),(629,x395)]
noncomputable def kh10 (P:Params):PySem.W.Frag:=[(630,x396),(631,x398 P),(638,x399),(639,x400),(645,x401),(646,x402),(652,x403),(653,x404),(659,x405),(660,x406),(666,x407),(667,x408)]
noncomputable def kh11 (P:Params):PySem.W.Frag:=[(673,x409),(674,x410),(687,x411),(688,x412),(694,x413),(695,x414),(701,x415),(702,x416),(711,x417 P),(712,x418),(729,x419),(730,x420)]
noncomputable def kh12 (P:Params):PySem.W.Frag:=[(736,x421),(737,x422),(743,x423),(744,x424),(750,x425),(751,x426),(778,x427),(779,x428),(788,x429 P),(789,x430),(799,x431),(800,x432)]
noncomputable def kh13 (P:Params):PySem.W.Frag:=[(806,x433),(807,x434),(813,x435),(814,x436),(820,x437),(821,x438),(827,x439),(828,x440),(834,x441),(835,x442),(841,x443),(842,x444)]
noncomputable def kh14 (P:Params):PySem.W.Frag:=[(848,x445),(849,x446),(853,x447),(854,x448),(860,x449),(861,x450),(867,x451),(868,x452),(874,x453),(875,x454),(881,x455),(882,x456)]
noncomputable def kh15 (P:Params):PySem.W.Frag:=[(888,x457),(889,x458),(895,x459),(896,x460),(902,x461),(903,x462)]
noncomputable def kg16_0 (P:Params):PySem.W.Frag:=kh0 P++(kh1 P++(kh2 P++(kh3 P++(kh4 P++(kh5 P++(kh6 P++(kh7 P)))))))
noncomputable def kg16_8 (P:Params):PySem.W.Frag:=kh8 P++(kh9 P++(kh10 P++(kh11 P++(kh12 P++(kh13 P++(kh14 P++(kh15 P)))))))
noncomputable def KH (P:Params):PySem.W.Frag:=kg16_0 P++(kg16_8 P)
noncomputable def asL:List Addr:=[2,3,15,22,23,24,25,43,44,62,63,78,79,81,82,93,94,112,113,131,132,150,151,169,170,181,182,200,201,219,220,238,239,257,258,273,274,276,277,295,296,311,312,314,315,333,334,352,353,371,372,383,384,392,393,399,400,414,415,421,422,428,429,435,436,442,443,449,450,456,457,463,464,470,471,477,478,484,485,491,492,498,499,505,506,512,513,519,520,526,527,533,534,540,541,547,548,554,555,561,562,568,569,575,576,582,583,589,590,596,597,603,604,610,611,617,618,624,625,629,630,631,638,639,645,646,652,653,659,660,666,667,673,674,687,688,694,695,701,702,711,712,729,730,736,737,743,744,750,751,778,779,788,789,799,800,806,807,813,814,820,821,827,828,834,835,841,842,848,849,853,854,860,861,867,868,874,875,881,882,888,889,895,896,902,903]
theorem as_eq (P:Params):asL=(KH P).map (fun p=>p.1):=by kernel_rfl
@[reducible] noncomputable def HK:Hook:=kHook KH asL as_eq
noncomputable def obs0 (s:Shared):List (Option Obj):=asL.map s.heap.get?
noncomputable def val0 (w:World):List (Option Obj):=(KH w.params).map fun p=>some p.2
noncomputable def tb0 (P:Params):BT:=.node (boot_o_0 P) (.node (boot_o_1 P) (.node (boot_o_3 P) (.node (boot_o_7 P) .nil .nil) (.node (o11 P) .nil .nil)) (.node (boot_o_5 P) (.node (boot_o_9 P) .nil .nil) (.node (o13 P) .nil .nil)))
  (.node (boot_o_2 P) (.node (boot_o_4 P) (.node (boot_o_8 P) .nil .nil) (.node (o12 P) .nil .nil)) (.node (boot_o_6 P) (.node (boot_o_10 P) .nil .nil) (.node (o14 P) .nil .nil)))
noncomputable def sB (w:World)(os:OsState):SharedT:=⟨tb0 w.params,15,{},#[],{},187,os⟩
noncomputable def env0:Env:={ scope:=pw.main.scope,locals:=mainNs,globals:=mainNs,cells:=[],code:=.ref 13,frame:=some 14 }
noncomputable def body0:List Stmt:=behindTheImports pw
noncomputable def cE:Code:=.body body0 env0
noncomputable def pos0:Pos:=⟨0,0,0,0⟩
noncomputable def B0:List Frame:=[topFrame pos0]
noncomputable def ann0:Option Value:=some (.ref 6)
noncomputable def qvw:Program:=view pw [1,2,3,4,5,6,7,8,9,10,11,12,13,14,15,16,17,18,19,20,21,23,24,25,26,27,28,29,31,32,34,35,36,37,39,40,41,42,43,44,45,46,47,48,49,50,51,52,53,54,55,56,57,58,59,60,61,62,63,64,65,66,67,68,69,70,72,73,74,75,76,78,79,80,81,83,84,85,86,87,88,89,90,91,92,93,94,95,96]
noncomputable def loose0:List Str:=["MODES"]
noncomputable def mods:List Str:=importedModules pw.main.body
noncomputable def Xt0 (s:Shared):Bool:=xlAt qvw [] s&&recOk (RowW.records (OpenRow.toRowW (OpenLaw.row PySem.Challenge.rw_sealpress_k77_seats_on_their_floors))) s
noncomputable def lookF (w:World)(r:Flow×SharedT×Code×Pos):=(r.1,r.2.2.1,(staticsOk mods (boot_heap w.params) r.2.1.abs.heap&&namesBound pw r.2.1.abs.heap&&gensDone r.2.1.abs&&laidKept (boot_heap w.params) r.2.1.abs.heap),obs0 r.2.1.abs)
noncomputable def lookG (r:Flow×SharedT×Code×Pos):=openSeen qvw loose0 mods Xt0 true r.2.1.abs
noncomputable def t0_2 (P:Params):BT:=(.node x327 .nil .nil)
noncomputable def t0_3 (P:Params):BT:=(.node x364 .nil .nil)
noncomputable def t0_1 (P:Params):BT:=(.node x38 (.node x79 (.node x166 (t0_2 P) .nil) (.node (x253 P) .nil .nil)) (.node x123 (.node x3 (t0_3 P) .nil) (.node x5 .nil .nil)))
noncomputable def t0_5 (P:Params):BT:=(.node x6 .nil .nil)
noncomputable def t0_6 (P:Params):BT:=(.node x382 .nil .nil)
noncomputable def t0_4 (P:Params):BT:=(.node x59 (.node x102 (.node x5 (t0_5 P) .nil) (.node x273 .nil .nil)) (.node x14 (.node x232 (t0_6 P) .nil) (.node x5 .nil .nil)))
noncomputable def t0_8 (P:Params):BT:=(.node x337 .nil .nil)
noncomputable def t0_9 (P:Params):BT:=(.node x5 .nil .nil)
noncomputable def t0_7 (P:Params):BT:=(.node x48 (.node x6 (.node x5 (t0_8 P) .nil) (.node x263 .nil .nil)) (.node x5 (.node x222 (t0_9 P) .nil) (.node x300 .nil .nil)))
noncomputable def t0_11 (P:Params):BT:=(.node x5 .nil .nil)
noncomputable def t0_12 (P:Params):BT:=(.node x391 .nil .nil)
noncomputable def t0_10 (P:Params):BT:=(.node x69 (.node (x113 P) (.node x199 (t0_11 P) .nil) (.node x6 .nil .nil)) (.node x156 (.node x242 (t0_12 P) .nil) (.node x318 .nil .nil)))
noncomputable def t0_14 (P:Params):BT:=(.node x332 .nil .nil)
noncomputable def t0_15 (P:Params):BT:=(.node x369 .nil .nil)
noncomputable def t0_13 (P:Params):BT:=(.node x43 (.node x14 (.node (x172 P) (t0_14 P) .nil) (.node x258 .nil .nil)) (.node x128 (.node x215 (t0_15 P) .nil) (.node x295 .nil .nil)))
noncomputable def t0_17 (P:Params):BT:=(.node x350 .nil .nil)
noncomputable def t0_18 (P:Params):BT:=(.node x5 .nil .nil)
noncomputable def t0_16 (P:Params):BT:=(.node x64 (.node x107 (.node (x194 P) (t0_17 P) .nil) (.node x5 .nil .nil)) (.node x6 (.node x5 (t0_18 P) .nil) (.node x6 .nil .nil)))
noncomputable def t0_20 (P:Params):BT:=(.node x5 .nil .nil)
noncomputable def t0_21 (P:Params):BT:=(.node x6 .nil .nil)
noncomputable def t0_19 (P:Params):BT:=(.node (x54 P) (.node x97 (.node x184 (t0_20 P) .nil) (.node x268 .nil .nil)) (.node x138 (.node x227 (t0_21 P) .nil) (.node x305 .nil .nil)))
noncomputable def t0_23 (P:Params):BT:=(.node x359 .nil .nil)
noncomputable def t0_22 (P:Params):BT:=(.node x5 (.node x118 (.node x204 (t0_23 P) .nil) (.node x286 .nil .nil)) (.node x161 (.node x14 .nil .nil) (.node x5 .nil .nil)))
noncomputable def t0_0 (P:Params):BT:=(.node (boot_o_7 P) (.node x2 (.node x5 (t0_1 P) (t0_4 P)) (.node x14 (t0_7 P) (t0_10 P))) (.node (x9 P) (.node x20 (t0_13 P) (t0_16 P)) (.node x6 (t0_19 P) (t0_22 P))))
noncomputable def t0_26 (P:Params):BT:=(.node x6 .nil .nil)
noncomputable def t0_27 (P:Params):BT:=(.node x366 .nil .nil)
noncomputable def t0_25 (P:Params):BT:=(.node x3 (.node (x83 P) (.node x170 (t0_26 P) .nil) (.node x5 .nil .nil)) (.node x5 (.node x213 (t0_27 P) .nil) (.node x5 .nil .nil)))
noncomputable def t0_29 (P:Params):BT:=(.node x348 .nil .nil)
noncomputable def t0_30 (P:Params):BT:=(.node x385 .nil .nil)
noncomputable def t0_28 (P:Params):BT:=(.node (x61 P) (.node x104 (.node x190 (t0_29 P) .nil) (.node x5 .nil .nil)) (.node x147 (.node x236 (t0_30 P) .nil) (.node x311 .nil .nil)))
noncomputable def t0_32 (P:Params):BT:=(.node x5 .nil .nil)
noncomputable def t0_33 (P:Params):BT:=(.node x375 .nil .nil)
noncomputable def t0_31 (P:Params):BT:=(.node x52 (.node x93 (.node x180 (t0_32 P) .nil) (.node x6 .nil .nil)) (.node x5 (.node (x224 P) (t0_33 P) .nil) (.node x302 .nil .nil)))
noncomputable def t0_35 (P:Params):BT:=(.node x5 .nil .nil)
noncomputable def t0_36 (P:Params):BT:=(.node x6 .nil .nil)
noncomputable def t0_34 (P:Params):BT:=(.node x73 (.node x115 (.node x6 (t0_35 P) .nil) (.node x284 .nil .nil)) (.node x3 (.node (x246 P) (t0_36 P) .nil) (.node x321 .nil .nil)))
noncomputable def t0_38 (P:Params):BT:=(.node x334 .nil .nil)
noncomputable def t0_39 (P:Params):BT:=(.node x5 .nil .nil)
noncomputable def t0_37 (P:Params):BT:=(.node x45 (.node x88 (.node x175 (t0_38 P) .nil) (.node x6 .nil .nil)) (.node x132 (.node x218 (t0_39 P) .nil) (.node x6 .nil .nil)))
noncomputable def t0_41 (P:Params):BT:=(.node x353 .nil .nil)
noncomputable def t0_42 (P:Params):BT:=(.node x5 .nil .nil)
noncomputable def t0_40 (P:Params):BT:=(.node x5 (.node x111 (.node x14 (t0_41 P) .nil) (.node x279 .nil .nil)) (.node x152 (.node x5 (t0_42 P) .nil) (.node x316 .nil .nil)))
noncomputable def t0_44 (P:Params):BT:=(.node x343 .nil .nil)
noncomputable def t0_45 (P:Params):BT:=(.node x380 .nil .nil)
noncomputable def t0_43 (P:Params):BT:=(.node x56 (.node x3 (.node x5 (t0_44 P) .nil) (.node x270 .nil .nil)) (.node (x142 P) (.node x5 (t0_45 P) .nil) (.node x5 .nil .nil)))
noncomputable def t0_47 (P:Params):BT:=(.node x6 .nil .nil)
noncomputable def t0_46 (P:Params):BT:=(.node x5 (.node (x120 P) (.node x208 (t0_47 P) .nil) (.node x289 .nil .nil)) (.node x163 (.node x6 .nil .nil) (.node x5 .nil .nil)))
noncomputable def t0_24 (P:Params):BT:=(.node (o11 P) (.node x6 (.node x5 (t0_25 P) (t0_28 P)) (.node x29 (t0_31 P) (t0_34 P))) (.node x13 (.node (x24 P) (t0_37 P) (t0_40 P)) (.node x34 (t0_43 P) (t0_46 P))))
noncomputable def t0_50 (P:Params):BT:=(.node x329 .nil .nil)
noncomputable def t0_51 (P:Params):BT:=(.node x5 .nil .nil)
noncomputable def t0_49 (P:Params):BT:=(.node x40 (.node x81 (.node (x168 P) (t0_50 P) .nil) (.node x255 .nil .nil)) (.node x6 (.node x5 (t0_51 P) .nil) (.node x292 .nil .nil)))
noncomputable def t0_53 (P:Params):BT:=(.node x5 .nil .nil)
noncomputable def t0_54 (P:Params):BT:=(.node x383 .nil .nil)
noncomputable def t0_52 (P:Params):BT:=(.node x14 (.node x5 (.node x189 (t0_53 P) .nil) (.node x6 .nil .nil)) (.node (x146 P) (.node x234 (t0_54 P) .nil) (.node x310 .nil .nil)))
noncomputable def t0_56 (P:Params):BT:=(.node x6 .nil .nil)
noncomputable def t0_57 (P:Params):BT:=(.node x374 .nil .nil)
noncomputable def t0_55 (P:Params):BT:=(.node (x50 P) (.node x5 (.node x178 (t0_56 P) .nil) (.node x265 .nil .nil)) (.node x135 (.node x14 (t0_57 P) .nil) (.node x5 .nil .nil)))
noncomputable def t0_59 (P:Params):BT:=(.node x356 .nil .nil)
noncomputable def t0_60 (P:Params):BT:=(.node x393 .nil .nil)
noncomputable def t0_58 (P:Params):BT:=(.node x71 (.node x6 (.node x201 (t0_59 P) .nil) (.node x5 .nil .nil)) (.node x158 (.node x244 (t0_60 P) .nil) (.node x319 .nil .nil)))
noncomputable def t0_62 (P:Params):BT:=(.node x5 .nil .nil)
noncomputable def t0_63 (P:Params):BT:=(.node x6 .nil .nil)
noncomputable def t0_61 (P:Params):BT:=(.node x5 (.node (x87 P) (.node x173 (t0_62 P) .nil) (.node x260 .nil .nil)) (.node x130 (.node x216 (t0_63 P) .nil) (.node x297 .nil .nil)))
noncomputable def t0_65 (P:Params):BT:=(.node x351 .nil .nil)
noncomputable def t0_66 (P:Params):BT:=(.node x388 .nil .nil)
noncomputable def t0_64 (P:Params):BT:=(.node x6 (.node (x109 P) (.node x196 (t0_65 P) .nil) (.node x278 .nil .nil)) (.node x5 (.node x239 (t0_66 P) .nil) (.node x5 .nil .nil)))
noncomputable def t0_68 (P:Params):BT:=(.node x342 .nil .nil)
noncomputable def t0_69 (P:Params):BT:=(.node x5 .nil .nil)
noncomputable def t0_67 (P:Params):BT:=(.node x6 (.node x99 (.node x3 (t0_68 P) .nil) (.node x5 .nil .nil)) (.node x140 (.node x6 (t0_69 P) .nil) (.node x6 .nil .nil)))
noncomputable def t0_71 (P:Params):BT:=(.node x361 .nil .nil)
noncomputable def t0_70 (P:Params):BT:=(.node x76 (.node x14 (.node x206 (t0_71 P) .nil) (.node x287 .nil .nil)) (.node x5 (.node (x250 P) .nil .nil) (.node x324 .nil .nil)))
noncomputable def t0_48 (P:Params):BT:=(.node (boot_o_9 P) (.node (x4 P) (.node x17 (t0_49 P) (t0_52 P)) (.node (x28 P) (t0_55 P) (t0_58 P))) (.node x11 (.node x22 (t0_61 P) (t0_64 P)) (.node x5 (t0_67 P) (t0_70 P))))
noncomputable def t0_74 (P:Params):BT:=(.node x5 .nil .nil)
noncomputable def t0_75 (P:Params):BT:=(.node x367 .nil .nil)
noncomputable def t0_73 (P:Params):BT:=(.node x5 (.node x85 (.node x14 (t0_74 P) .nil) (.node x257 .nil .nil)) (.node x126 (.node x5 (t0_75 P) .nil) (.node x294 .nil .nil)))
noncomputable def t0_77 (P:Params):BT:=(.node x5 .nil .nil)
noncomputable def t0_78 (P:Params):BT:=(.node x6 .nil .nil)
noncomputable def t0_76 (P:Params):BT:=(.node x62 (.node x105 (.node x192 (t0_77 P) .nil) (.node x276 .nil .nil)) (.node x149 (.node x3 (t0_78 P) .nil) (.node x313 .nil .nil)))
noncomputable def t0_80 (P:Params):BT:=(.node x340 .nil .nil)
noncomputable def t0_81 (P:Params):BT:=(.node x377 .nil .nil)
noncomputable def t0_79 (P:Params):BT:=(.node x14 (.node x95 (.node x182 (t0_80 P) .nil) (.node x5 .nil .nil)) (.node x137 (.node x225 (t0_81 P) .nil) (.node x303 .nil .nil)))
noncomputable def t0_83 (P:Params):BT:=(.node x358 .nil .nil)
noncomputable def t0_84 (P:Params):BT:=(.node x395 .nil .nil)
noncomputable def t0_82 (P:Params):BT:=(.node x3 (.node (x116 P) (.node x5 (t0_83 P) .nil) (.node x5 .nil .nil)) (.node x5 (.node x248 (t0_84 P) .nil) (.node x6 .nil .nil)))
noncomputable def t0_86 (P:Params):BT:=(.node x335 .nil .nil)
noncomputable def t0_87 (P:Params):BT:=(.node x372 .nil .nil)
noncomputable def t0_85 (P:Params):BT:=(.node x46 (.node x90 (.node x6 (t0_86 P) .nil) (.node x5 .nil .nil)) (.node x3 (.node (x220 P) (t0_87 P) .nil) (.node x5 .nil .nil)))
noncomputable def t0_89 (P:Params):BT:=(.node x6 .nil .nil)
noncomputable def t0_90 (P:Params):BT:=(.node x390 .nil .nil)
noncomputable def t0_88 (P:Params):BT:=(.node x67 (.node x14 (.node (x198 P) (t0_89 P) .nil) (.node x281 .nil .nil)) (.node x154 (.node x241 (t0_90 P) .nil) (.node x5 .nil .nil)))
noncomputable def t0_92 (P:Params):BT:=(.node x345 .nil .nil)
noncomputable def t0_93 (P:Params):BT:=(.node x5 .nil .nil)
noncomputable def t0_91 (P:Params):BT:=(.node (x57 P) (.node x5 (.node x187 (t0_92 P) .nil) (.node x271 .nil .nil)) (.node x144 (.node x230 (t0_93 P) .nil) (.node x308 .nil .nil)))
noncomputable def t0_95 (P:Params):BT:=(.node x5 .nil .nil)
noncomputable def t0_94 (P:Params):BT:=(.node x78 (.node x121 (.node x210 (t0_95 P) .nil) (.node x6 .nil .nil)) (.node x164 (.node x252 .nil .nil) (.node x326 .nil .nil)))
noncomputable def t0_72 (P:Params):BT:=(.node (o13 P) (.node x8 (.node x19 (t0_73 P) (t0_76 P)) (.node x31 (t0_79 P) (t0_82 P))) (.node x3 (.node x26 (t0_85 P) (t0_88 P)) (.node x36 (t0_91 P) (t0_94 P))))
noncomputable def t0_98 (P:Params):BT:=(.node x328 .nil .nil)
noncomputable def t0_99 (P:Params):BT:=(.node x365 .nil .nil)
noncomputable def t0_97 (P:Params):BT:=(.node x39 (.node x80 (.node x167 (t0_98 P) .nil) (.node x254 .nil .nil)) (.node x5 (.node (x211 P) (t0_99 P) .nil) (.node x291 .nil .nil)))
noncomputable def t0_101 (P:Params):BT:=(.node x346 .nil .nil)
noncomputable def t0_102 (P:Params):BT:=(.node x5 .nil .nil)
noncomputable def t0_100 (P:Params):BT:=(.node x60 (.node x103 (.node x6 (t0_101 P) .nil) (.node x5 .nil .nil)) (.node x3 (.node (x233 P) (t0_102 P) .nil) (.node x6 .nil .nil)))
noncomputable def t0_104 (P:Params):BT:=(.node x5 .nil .nil)
noncomputable def t0_105 (P:Params):BT:=(.node x6 .nil .nil)
noncomputable def t0_103 (P:Params):BT:=(.node x49 (.node x91 (.node x177 (t0_104 P) .nil) (.node x264 .nil .nil)) (.node x134 (.node x223 (t0_105 P) .nil) (.node x301 .nil .nil)))
noncomputable def t0_107 (P:Params):BT:=(.node x355 .nil .nil)
noncomputable def t0_108 (P:Params):BT:=(.node x392 .nil .nil)
noncomputable def t0_106 (P:Params):BT:=(.node (x70 P) (.node x5 (.node x200 (t0_107 P) .nil) (.node x282 .nil .nil)) (.node x157 (.node x243 (t0_108 P) .nil) (.node x5 .nil .nil)))
noncomputable def t0_110 (P:Params):BT:=(.node x333 .nil .nil)
noncomputable def t0_111 (P:Params):BT:=(.node x5 .nil .nil)
noncomputable def t0_109 (P:Params):BT:=(.node x44 (.node x3 (.node x5 (t0_110 P) .nil) (.node x259 .nil .nil)) (.node (x129 P) (.node x5 (t0_111 P) .nil) (.node x296 .nil .nil)))
noncomputable def t0_113 (P:Params):BT:=(.node x5 .nil .nil)
noncomputable def t0_114 (P:Params):BT:=(.node x387 .nil .nil)
noncomputable def t0_112 (P:Params):BT:=(.node x5 (.node x108 (.node x195 (t0_113 P) .nil) (.node x6 .nil .nil)) (.node x150 (.node x238 (t0_114 P) .nil) (.node x314 .nil .nil)))
noncomputable def t0_116 (P:Params):BT:=(.node x6 .nil .nil)
noncomputable def t0_117 (P:Params):BT:=(.node x378 .nil .nil)
noncomputable def t0_115 (P:Params):BT:=(.node x5 (.node x98 (.node x14 (t0_116 P) .nil) (.node x269 .nil .nil)) (.node x139 (.node x5 (t0_117 P) .nil) (.node x5 .nil .nil)))
noncomputable def t0_119 (P:Params):BT:=(.node x360 .nil .nil)
noncomputable def t0_118 (P:Params):BT:=(.node x75 (.node x119 (.node x205 (t0_119 P) .nil) (.node x5 .nil .nil)) (.node x162 (.node x3 .nil .nil) (.node x323 .nil .nil)))
noncomputable def t0_96 (P:Params):BT:=(.node (boot_o_8 P) (.node x3 (.node x16 (t0_97 P) (t0_100 P)) (.node x3 (t0_103 P) (t0_106 P))) (.node x10 (.node x21 (t0_109 P) (t0_112 P)) (.node x32 (t0_115 P) (t0_118 P))))
noncomputable def t0_122 (P:Params):BT:=(.node x330 .nil .nil)
noncomputable def t0_123 (P:Params):BT:=(.node x5 .nil .nil)
noncomputable def t0_121 (P:Params):BT:=(.node (x41 P) (.node x84 (.node x171 (t0_122 P) .nil) (.node x6 .nil .nil)) (.node x125 (.node x214 (t0_123 P) .nil) (.node x6 .nil .nil)))
noncomputable def t0_125 (P:Params):BT:=(.node x349 .nil .nil)
noncomputable def t0_126 (P:Params):BT:=(.node x5 .nil .nil)
noncomputable def t0_124 (P:Params):BT:=(.node x5 (.node x5 (.node x191 (t0_125 P) .nil) (.node x275 .nil .nil)) (.node x148 (.node x14 (t0_126 P) .nil) (.node x312 .nil .nil)))
noncomputable def t0_128 (P:Params):BT:=(.node x339 .nil .nil)
noncomputable def t0_129 (P:Params):BT:=(.node x376 .nil .nil)
noncomputable def t0_127 (P:Params):BT:=(.node x53 (.node x94 (.node (x181 P) (t0_128 P) .nil) (.node x266 .nil .nil)) (.node x6 (.node x5 (t0_129 P) .nil) (.node x5 .nil .nil)))
noncomputable def t0_131 (P:Params):BT:=(.node x6 .nil .nil)
noncomputable def t0_132 (P:Params):BT:=(.node x394 .nil .nil)
noncomputable def t0_130 (P:Params):BT:=(.node x14 (.node x5 (.node x202 (t0_131 P) .nil) (.node x285 .nil .nil)) (.node (x159 P) (.node x247 (t0_132 P) .nil) (.node x5 .nil .nil)))
noncomputable def t0_134 (P:Params):BT:=(.node x5 .nil .nil)
noncomputable def t0_135 (P:Params):BT:=(.node x371 .nil .nil)
noncomputable def t0_133 (P:Params):BT:=(.node x5 (.node x89 (.node x5 (t0_134 P) .nil) (.node x261 .nil .nil)) (.node x14 (.node x219 (t0_135 P) .nil) (.node x298 .nil .nil)))
noncomputable def t0_137 (P:Params):BT:=(.node x5 .nil .nil)
noncomputable def t0_138 (P:Params):BT:=(.node x6 .nil .nil)
noncomputable def t0_136 (P:Params):BT:=(.node x66 (.node x112 (.node x3 (t0_137 P) .nil) (.node x280 .nil .nil)) (.node x153 (.node x6 (t0_138 P) .nil) (.node x317 .nil .nil)))
noncomputable def t0_140 (P:Params):BT:=(.node x344 .nil .nil)
noncomputable def t0_141 (P:Params):BT:=(.node x381 .nil .nil)
noncomputable def t0_139 (P:Params):BT:=(.node x5 (.node (x100 P) (.node x186 (t0_140 P) .nil) (.node x5 .nil .nil)) (.node x143 (.node x229 (t0_141 P) .nil) (.node x307 .nil .nil)))
noncomputable def t0_143 (P:Params):BT:=(.node x362 .nil .nil)
noncomputable def t0_142 (P:Params):BT:=(.node x6 (.node x5 (.node x209 (t0_143 P) .nil) (.node x5 .nil .nil)) (.node x5 (.node x251 .nil .nil) (.node x6 .nil .nil)))
noncomputable def t0_120 (P:Params):BT:=(.node x1 (.node x7 (.node x6 (t0_121 P) (t0_124 P)) (.node x30 (t0_127 P) (t0_130 P))) (.node x14 (.node x25 (t0_133 P) (t0_136 P)) (.node x35 (t0_139 P) (t0_142 P))))
noncomputable def t0_146 (P:Params):BT:=(.node x5 .nil .nil)
noncomputable def t0_147 (P:Params):BT:=(.node x6 .nil .nil)
noncomputable def t0_145 (P:Params):BT:=(.node x14 (.node x82 (.node x169 (t0_146 P) .nil) (.node x256 .nil .nil)) (.node x124 (.node x212 (t0_147 P) .nil) (.node x293 .nil .nil)))
noncomputable def t0_149 (P:Params):BT:=(.node x347 .nil .nil)
noncomputable def t0_150 (P:Params):BT:=(.node x384 .nil .nil)
noncomputable def t0_148 (P:Params):BT:=(.node x3 (.node x6 (.node x5 (t0_149 P) .nil) (.node x274 .nil .nil)) (.node x5 (.node x235 (t0_150 P) .nil) (.node x5 .nil .nil)))
noncomputable def t0_152 (P:Params):BT:=(.node x338 .nil .nil)
noncomputable def t0_153 (P:Params):BT:=(.node x5 .nil .nil)
noncomputable def t0_151 (P:Params):BT:=(.node x51 (.node x92 (.node x179 (t0_152 P) .nil) (.node x5 .nil .nil)) (.node x136 (.node x3 (t0_153 P) .nil) (.node x6 .nil .nil)))
noncomputable def t0_155 (P:Params):BT:=(.node x357 .nil .nil)
noncomputable def t0_156 (P:Params):BT:=(.node x5 .nil .nil)
noncomputable def t0_154 (P:Params):BT:=(.node x72 (.node x114 (.node x5 (t0_155 P) .nil) (.node x283 .nil .nil)) (.node x14 (.node x245 (t0_156 P) .nil) (.node x320 .nil .nil)))
noncomputable def t0_158 (P:Params):BT:=(.node x6 .nil .nil)
noncomputable def t0_159 (P:Params):BT:=(.node x370 .nil .nil)
noncomputable def t0_157 (P:Params):BT:=(.node x6 (.node x5 (.node x174 (t0_158 P) .nil) (.node x5 .nil .nil)) (.node x131 (.node x217 (t0_159 P) .nil) (.node x5 .nil .nil)))
noncomputable def t0_161 (P:Params):BT:=(.node x352 .nil .nil)
noncomputable def t0_162 (P:Params):BT:=(.node x389 .nil .nil)
noncomputable def t0_160 (P:Params):BT:=(.node x65 (.node x110 (.node x197 (t0_161 P) .nil) (.node x5 .nil .nil)) (.node x151 (.node x240 (t0_162 P) .nil) (.node x315 .nil .nil)))
noncomputable def t0_164 (P:Params):BT:=(.node x5 .nil .nil)
noncomputable def t0_165 (P:Params):BT:=(.node x379 .nil .nil)
noncomputable def t0_163 (P:Params):BT:=(.node x55 (.node x14 (.node (x185 P) (t0_164 P) .nil) (.node x6 .nil .nil)) (.node x141 (.node x228 (t0_165 P) .nil) (.node x306 .nil .nil)))
noncomputable def t0_167 (P:Params):BT:=(.node x5 .nil .nil)
noncomputable def t0_166 (P:Params):BT:=(.node x77 (.node x3 (.node (x207 P) (t0_167 P) .nil) (.node x288 .nil .nil)) (.node x6 (.node x5 .nil .nil) (.node x325 .nil .nil)))
noncomputable def t0_144 (P:Params):BT:=(.node (boot_o_10 P) (.node x5 (.node x18 (t0_145 P) (t0_148 P)) (.node x5 (t0_151 P) (t0_154 P))) (.node x12 (.node x23 (t0_157 P) (t0_160 P)) (.node x33 (t0_163 P) (t0_166 P))))
noncomputable def t0_170 (P:Params):BT:=(.node x331 .nil .nil)
noncomputable def t0_171 (P:Params):BT:=(.node x368 .nil .nil)
noncomputable def t0_169 (P:Params):BT:=(.node x42 (.node x86 (.node x3 (t0_170 P) .nil) (.node x5 .nil .nil)) (.node x127 (.node x6 (t0_171 P) .nil) (.node x5 .nil .nil)))
noncomputable def t0_173 (P:Params):BT:=(.node x6 .nil .nil)
noncomputable def t0_174 (P:Params):BT:=(.node x386 .nil .nil)
noncomputable def t0_172 (P:Params):BT:=(.node x63 (.node x106 (.node x193 (t0_173 P) .nil) (.node x277 .nil .nil)) (.node x5 (.node (x237 P) (t0_174 P) .nil) (.node x5 .nil .nil)))
noncomputable def t0_176 (P:Params):BT:=(.node x341 .nil .nil)
noncomputable def t0_177 (P:Params):BT:=(.node x5 .nil .nil)
noncomputable def t0_175 (P:Params):BT:=(.node x3 (.node (x96 P) (.node x183 (t0_176 P) .nil) (.node x267 .nil .nil)) (.node x5 (.node x226 (t0_177 P) .nil) (.node x304 .nil .nil)))
noncomputable def t0_179 (P:Params):BT:=(.node x5 .nil .nil)
noncomputable def t0_180 (P:Params):BT:=(.node x396 .nil .nil)
noncomputable def t0_178 (P:Params):BT:=(.node (x74 P) (.node x117 (.node x203 (t0_179 P) .nil) (.node x6 .nil .nil)) (.node x160 (.node x249 (t0_180 P) .nil) (.node x322 .nil .nil)))
noncomputable def t0_182 (P:Params):BT:=(.node x336 .nil .nil)
noncomputable def t0_183 (P:Params):BT:=(.node x373 .nil .nil)
noncomputable def t0_181 (P:Params):BT:=(.node x47 (.node x5 (.node x176 (t0_182 P) .nil) (.node x262 .nil .nil)) (.node (x133 P) (.node x221 (t0_183 P) .nil) (.node x299 .nil .nil)))
noncomputable def t0_185 (P:Params):BT:=(.node x354 .nil .nil)
noncomputable def t0_186 (P:Params):BT:=(.node x5 .nil .nil)
noncomputable def t0_184 (P:Params):BT:=(.node x68 (.node x3 (.node x5 (t0_185 P) .nil) (.node x5 .nil .nil)) (.node (x155 P) (.node x5 (t0_186 P) .nil) (.node x6 .nil .nil)))
noncomputable def t0_188 (P:Params):BT:=(.node x5 .nil .nil)
noncomputable def t0_189 (P:Params):BT:=(.node x6 .nil .nil)
noncomputable def t0_187 (P:Params):BT:=(.node x58 (.node x101 (.node x188 (t0_188 P) .nil) (.node x272 .nil .nil)) (.node x145 (.node x231 (t0_189 P) .nil) (.node x309 .nil .nil)))
noncomputable def t0_191 (P:Params):BT:=(.node x363 .nil .nil)
noncomputable def t0_190 (P:Params):BT:=(.node x5 (.node x122 (.node x14 (t0_191 P) .nil) (.node x290 .nil .nil)) (.node x165 (.node x5 .nil .nil) (.node x5 .nil .nil)))
noncomputable def t0_168 (P:Params):BT:=(.node (o14 P) (.node x5 (.node x5 (t0_169 P) (t0_172 P)) (.node x5 (t0_175 P) (t0_178 P))) (.node (x15 P) (.node x27 (t0_181 P) (t0_184 P)) (.node (x37 P) (t0_187 P) (t0_190 P))))
noncomputable def tr0 (P:Params):BT:=(.node (boot_o_0 P) (.node (boot_o_1 P) (.node (x0 P) (t0_0 P) (t0_24 P)) (.node (boot_o_5 P) (t0_48 P) (t0_72 P))) (.node (boot_o_2 P) (.node (boot_o_4 P) (t0_96 P) (t0_120 P)) (.node (boot_o_6 P) (t0_144 P) (t0_168 P))))
noncomputable def sC0 (w:World)(os:OsState):SharedT:=⟨tr0 w.params,631,{},#[],{},1035,os⟩
noncomputable def ck0:List Stmt:=body0.take 69
noncomputable def ck1:List Stmt:=body0.drop 69
noncomputable def pjA:=fun(r:Flow×SharedT×Code×Pos)=>(fun x=>x.1) (lookG r)
noncomputable def lhsGA (w:World)(os:OsState):=(segRunT treeTable pw w 11 ann0 1 1992 (sC0 w os) (piecesOf ck1 env0 cE (⟨280,0,289,60⟩:Pos) B0)).map pjA
noncomputable def rhsGA (_:World)(_:OsState):=some ((fun x=>x.1) (openGood qvw loose0))
theorem lhsGA_r:@lhsGA = @lhsGA:=rfl
theorem rhsGA_r:@rhsGA = @rhsGA:=rfl
name_quick lhsGAQ for My.lhsGA by My.lhsGA_r
name_quick rhsGAQ for My.rhsGA by My.rhsGA_r
theorem krfGA (w:World):PySem.W.Fast.lhsGAQ (w.withFollow "special-get-raises" false)=PySem.W.Fast.rhsGAQ (w.withFollow "special-get-raises" false):=by kernel_rfl
theorem krtGA (w:World):PySem.W.Fast.lhsGAQ (w.withFollow "special-get-raises" true)=PySem.W.Fast.rhsGAQ (w.withFollow "special-get-raises" true):=by kernel_rfl
theorem krGA (w:World):PySem.W.Fast.lhsGAQ w=PySem.W.Fast.rhsGAQ w:=byRow2 "special-get-raises" (P:=fun w=>PySem.W.Fast.lhsGAQ w=PySem.W.Fast.rhsGAQ w) krfGA krtGA w
theorem run_allGA (w:World):lhsGA w=rhsGA w:=(congrFun PySem.W.Fast.lhsGAQ_eq w).trans ((krGA w).trans (congrFun PySem.W.Fast.rhsGAQ_eq w).symm)
noncomputable def pjB:=fun(r:Flow×SharedT×Code×Pos)=>(fun x=>x.2.1) (lookG r)
noncomputable def lhsGB (w:World)(os:OsState):=(segRunT treeTable pw w 11 ann0 1 1992 (sC0 w os) (piecesOf ck1 env0 cE (⟨280,0,289,60⟩:Pos) B0)).map pjB
noncomputable def rhsGB (_:World)(_:OsState):=some ((fun x=>x.2.1) (openGood qvw loose0))
theorem lhsGB_r:@lhsGB = @lhsGB:=rfl
theorem rhsGB_r:@rhsGB = @rhsGB:=rfl
name_quick lhsGBQ for My.lhsGB by My.lhsGB_r
name_quick rhsGBQ for My.rhsGB by My.rhsGB_r
theorem krfGB (w:World):PySem.W.Fast.lhsGBQ (w.withFollow "special-get-raises" false)=PySem.W.Fast.rhsGBQ (w.withFollow "special-get-raises" false):=by kernel_rfl
theorem krtGB (w:World):PySem.W.Fast.lhsGBQ (w.withFollow "special-get-raises" true)=PySem.W.Fast.rhsGBQ (w.withFollow "special-get-raises" true):=by kernel_rfl
theorem krGB (w:World):PySem.W.Fast.lhsGBQ w=PySem.W.Fast.rhsGBQ w:=byRow2 "special-get-raises" (P:=fun w=>PySem.W.Fast.lhsGBQ w=PySem.W.Fast.rhsGBQ w) krfGB krtGB w
theorem run_allGB (w:World):lhsGB w=rhsGB w:=(congrFun PySem.W.Fast.lhsGBQ_eq w).trans ((krGB w).trans (congrFun PySem.W.Fast.rhsGBQ_eq w).symm)
noncomputable def pjC:=fun(r:Flow×SharedT×Code×Pos)=>(fun x=>x.2.2.1) (lookG r)
noncomputable def lhsGC (w:World)(os:OsState):=(segRunT treeTable pw w 11 ann0 1 1992 (sC0 w os) (piecesOf ck1 env0 cE (⟨280,0,289,60⟩:Pos) B0)).map pjC
noncomputable def rhsGC (_:World)(_:OsState):=some ((fun x=>x.2.2.1) (openGood qvw loose0))
theorem lhsGC_r:@lhsGC = @lhsGC:=rfl
theorem rhsGC_r:@rhsGC = @rhsGC:=rfl
name_quick lhsGCQ for My.lhsGC by My.lhsGC_r
name_quick rhsGCQ for My.rhsGC by My.rhsGC_r
theorem krfGC (w:World):PySem.W.Fast.lhsGCQ (w.withFollow "special-get-raises" false)=PySem.W.Fast.rhsGCQ (w.withFollow "special-get-raises" false):=by kernel_rfl
theorem krtGC (w:World):PySem.W.Fast.lhsGCQ (w.withFollow "special-get-raises" true)=PySem.W.Fast.rhsGCQ (w.withFollow "special-get-raises" true):=by kernel_rfl
theorem krGC (w:World):PySem.W.Fast.lhsGCQ w=PySem.W.Fast.rhsGCQ w:=byRow2 "special-get-raises" (P:=fun w=>PySem.W.Fast.lhsGCQ w=PySem.W.Fast.rhsGCQ w) krfGC krtGC w
theorem run_allGC (w:World):lhsGC w=rhsGC w:=(congrFun PySem.W.Fast.lhsGCQ_eq w).trans ((krGC w).trans (congrFun PySem.W.Fast.rhsGCQ_eq w).symm)
noncomputable def pjD:=fun(r:Flow×SharedT×Code×Pos)=>(fun x=>x.2.2.2.1) (lookG r)
noncomputable def lhsGD (w:World)(os:OsState):=(segRunT treeTable pw w 11 ann0 1 1992 (sC0 w os) (piecesOf ck1 env0 cE (⟨280,0,289,60⟩:Pos) B0)).map pjD
noncomputable def rhsGD (_:World)(_:OsState):=some ((fun x=>x.2.2.2.1) (openGood qvw loose0))
theorem lhsGD_r:@lhsGD = @lhsGD:=rfl
theorem rhsGD_r:@rhsGD = @rhsGD:=rfl
name_quick lhsGDQ for My.lhsGD by My.lhsGD_r
name_quick rhsGDQ for My.rhsGD by My.rhsGD_r
theorem krfGD (w:World):PySem.W.Fast.lhsGDQ (w.withFollow "special-get-raises" false)=PySem.W.Fast.rhsGDQ (w.withFollow "special-get-raises" false):=by kernel_rfl
theorem krtGD (w:World):PySem.W.Fast.lhsGDQ (w.withFollow "special-get-raises" true)=PySem.W.Fast.rhsGDQ (w.withFollow "special-get-raises" true):=by kernel_rfl
theorem krGD (w:World):PySem.W.Fast.lhsGDQ w=PySem.W.Fast.rhsGDQ w:=byRow2 "special-get-raises" (P:=fun w=>PySem.W.Fast.lhsGDQ w=PySem.W.Fast.rhsGDQ w) krfGD krtGD w
theorem run_allGD (w:World):lhsGD w=rhsGD w:=(congrFun PySem.W.Fast.lhsGDQ_eq w).trans ((krGD w).trans (congrFun PySem.W.Fast.rhsGDQ_eq w).symm)
noncomputable def pjE:=fun(r:Flow×SharedT×Code×Pos)=>(fun x=>x.2.2.2.2.1) (lookG r)
noncomputable def lhsGE (w:World)(os:OsState):=(segRunT treeTable pw w 11 ann0 1 1992 (sC0 w os) (piecesOf ck1 env0 cE (⟨280,0,289,60⟩:Pos) B0)).map pjE
noncomputable def rhsGE (_:World)(_:OsState):=some ((fun x=>x.2.2.2.2.1) (openGood qvw loose0))
theorem lhsGE_r:@lhsGE = @lhsGE:=rfl
theorem rhsGE_r:@rhsGE = @rhsGE:=rfl
name_quick lhsGEQ for My.lhsGE by My.lhsGE_r
name_quick rhsGEQ for My.rhsGE by My.rhsGE_r
theorem krfGE (w:World):PySem.W.Fast.lhsGEQ (w.withFollow "special-get-raises" false)=PySem.W.Fast.rhsGEQ (w.withFollow "special-get-raises" false):=by kernel_rfl
theorem krtGE (w:World):PySem.W.Fast.lhsGEQ (w.withFollow "special-get-raises" true)=PySem.W.Fast.rhsGEQ (w.withFollow "special-get-raises" true):=by kernel_rfl
theorem krGE (w:World):PySem.W.Fast.lhsGEQ w=PySem.W.Fast.rhsGEQ w:=byRow2 "special-get-raises" (P:=fun w=>PySem.W.Fast.lhsGEQ w=PySem.W.Fast.rhsGEQ w) krfGE krtGE w
theorem run_allGE (w:World):lhsGE w=rhsGE w:=(congrFun PySem.W.Fast.lhsGEQ_eq w).trans ((krGE w).trans (congrFun PySem.W.Fast.rhsGEQ_eq w).symm)
noncomputable def pjF:=fun(r:Flow×SharedT×Code×Pos)=>(fun x=>x.2.2.2.2.2.1) (lookG r)
noncomputable def lhsGF (w:World)(os:OsState):=(segRunT treeTable pw w 11 ann0 1 1992 (sC0 w os) (piecesOf ck1 env0 cE (⟨280,0,289,60⟩:Pos) B0)).map pjF
noncomputable def rhsGF (_:World)(_:OsState):=some ((fun x=>x.2.2.2.2.2.1) (openGood qvw loose0))
theorem lhsGF_r:@lhsGF = @lhsGF:=rfl
theorem rhsGF_r:@rhsGF = @rhsGF:=rfl
name_quick lhsGFQ for My.lhsGF by My.lhsGF_r
name_quick rhsGFQ for My.rhsGF by My.rhsGF_r
theorem krfGF (w:World):PySem.W.Fast.lhsGFQ (w.withFollow "special-get-raises" false)=PySem.W.Fast.rhsGFQ (w.withFollow "special-get-raises" false):=by kernel_rfl
theorem krtGF (w:World):PySem.W.Fast.lhsGFQ (w.withFollow "special-get-raises" true)=PySem.W.Fast.rhsGFQ (w.withFollow "special-get-raises" true):=by kernel_rfl
theorem krGF (w:World):PySem.W.Fast.lhsGFQ w=PySem.W.Fast.rhsGFQ w:=byRow2 "special-get-raises" (P:=fun w=>PySem.W.Fast.lhsGFQ w=PySem.W.Fast.rhsGFQ w) krfGF krtGF w
theorem run_allGF (w:World):lhsGF w=rhsGF w:=(congrFun PySem.W.Fast.lhsGFQ_eq w).trans ((krGF w).trans (congrFun PySem.W.Fast.rhsGFQ_eq w).symm)
noncomputable def pjG:=fun(r:Flow×SharedT×Code×Pos)=>(fun x=>x.2.2.2.2.2.2.1) (lookG r)
noncomputable def lhsGG (w:World)(os:OsState):=(segRunT treeTable pw w 11 ann0 1 1992 (sC0 w os) (piecesOf ck1 env0 cE (⟨280,0,289,60⟩:Pos) B0)).map pjG
noncomputable def rhsGG (_:World)(_:OsState):=some ((fun x=>x.2.2.2.2.2.2.1) (openGood qvw loose0))
theorem lhsGG_r:@lhsGG = @lhsGG:=rfl
theorem rhsGG_r:@rhsGG = @rhsGG:=rfl
name_quick lhsGGQ for My.lhsGG by My.lhsGG_r
name_quick rhsGGQ for My.rhsGG by My.rhsGG_r
theorem krfGG (w:World):PySem.W.Fast.lhsGGQ (w.withFollow "special-get-raises" false)=PySem.W.Fast.rhsGGQ (w.withFollow "special-get-raises" false):=by kernel_rfl
theorem krtGG (w:World):PySem.W.Fast.lhsGGQ (w.withFollow "special-get-raises" true)=PySem.W.Fast.rhsGGQ (w.withFollow "special-get-raises" true):=by kernel_rfl
theorem krGG (w:World):PySem.W.Fast.lhsGGQ w=PySem.W.Fast.rhsGGQ w:=byRow2 "special-get-raises" (P:=fun w=>PySem.W.Fast.lhsGGQ w=PySem.W.Fast.rhsGGQ w) krfGG krtGG w
theorem run_allGG (w:World):lhsGG w=rhsGG w:=(congrFun PySem.W.Fast.lhsGGQ_eq w).trans ((krGG w).trans (congrFun PySem.W.Fast.rhsGGQ_eq w).symm)
noncomputable def pjH:=fun(r:Flow×SharedT×Code×Pos)=>(fun x=>x.2.2.2.2.2.2.2) (lookG r)
noncomputable def lhsGH (w:World)(os:OsState):=(segRunT treeTable pw w 11 ann0 1 1992 (sC0 w os) (piecesOf ck1 env0 cE (⟨280,0,289,60⟩:Pos) B0)).map pjH
noncomputable def rhsGH (_:World)(_:OsState):=some ((fun x=>x.2.2.2.2.2.2.2) (openGood qvw loose0))
theorem lhsGH_r:@lhsGH = @lhsGH:=rfl
theorem rhsGH_r:@rhsGH = @rhsGH:=rfl
name_quick lhsGHQ for My.lhsGH by My.lhsGH_r
name_quick rhsGHQ for My.rhsGH by My.rhsGH_r
theorem krfGH (w:World):PySem.W.Fast.lhsGHQ (w.withFollow "special-get-raises" false)=PySem.W.Fast.rhsGHQ (w.withFollow "special-get-raises" false):=by kernel_rfl
theorem krtGH (w:World):PySem.W.Fast.lhsGHQ (w.withFollow "special-get-raises" true)=PySem.W.Fast.rhsGHQ (w.withFollow "special-get-raises" true):=by kernel_rfl
theorem krGH (w:World):PySem.W.Fast.lhsGHQ w=PySem.W.Fast.rhsGHQ w:=byRow2 "special-get-raises" (P:=fun w=>PySem.W.Fast.lhsGHQ w=PySem.W.Fast.rhsGHQ w) krfGH krtGH w
theorem run_allGH (w:World):lhsGH w=rhsGH w:=(congrFun PySem.W.Fast.lhsGHQ_eq w).trans ((krGH w).trans (congrFun PySem.W.Fast.rhsGHQ_eq w).symm)
noncomputable def lhsC0 (w:World)(os:OsState):=segRunT treeTable pw w 11 ann0 1 6210 (sB w os) (piecesOf ck0 env0 cE pos0 B0)
noncomputable def rhsC0 (w:World)(os:OsState):Option (Flow×SharedT×Code×Pos):=some (Flow.next,sC0 w os,cE,(⟨280,0,289,60⟩:Pos))
theorem lhsC0_r:@lhsC0 = @lhsC0:=rfl
theorem rhsC0_r:@rhsC0 = @rhsC0:=rfl
name_quick lhsC0Q for My.lhsC0 by My.lhsC0_r
name_quick rhsC0Q for My.rhsC0 by My.rhsC0_r
theorem krfC0 (w:World):PySem.W.Fast.lhsC0Q (w.withFollow "special-get-raises" false)=PySem.W.Fast.rhsC0Q (w.withFollow "special-get-raises" false):=by kernel_rfl
theorem krtC0 (w:World):PySem.W.Fast.lhsC0Q (w.withFollow "special-get-raises" true)=PySem.W.Fast.rhsC0Q (w.withFollow "special-get-raises" true):=by kernel_rfl
theorem krC0 (w:World):PySem.W.Fast.lhsC0Q w=PySem.W.Fast.rhsC0Q w:=byRow2 "special-get-raises" (P:=fun w=>PySem.W.Fast.lhsC0Q w=PySem.W.Fast.rhsC0Q w) krfC0 krtC0 w
theorem run_allC0 (w:World):lhsC0 w=rhsC0 w:=(congrFun PySem.W.Fast.lhsC0Q_eq w).trans ((krC0 w).trans (congrFun PySem.W.Fast.rhsC0Q_eq w).symm)
noncomputable def lhs (w:World)(os:OsState):=(segRunT treeTable pw w 11 ann0 1 1992 (sC0 w os) (piecesOf ck1 env0 cE (⟨280,0,289,60⟩:Pos) B0)).map (lookF w)
noncomputable def rhs (w:World)(_:OsState):=some (Flow.next,cE,true,val0 w)
theorem lhs_r:@lhs = @lhs:=rfl
theorem rhs_r:@rhs = @rhs:=rfl
name_quick lhsQ for My.lhs by My.lhs_r
name_quick rhsQ for My.rhs by My.rhs_r
theorem krf (w:World):PySem.W.Fast.lhsQ (w.withFollow "special-get-raises" false)=PySem.W.Fast.rhsQ (w.withFollow "special-get-raises" false):=by kernel_rfl
theorem krt (w:World):PySem.W.Fast.lhsQ (w.withFollow "special-get-raises" true)=PySem.W.Fast.rhsQ (w.withFollow "special-get-raises" true):=by kernel_rfl
theorem kr (w:World):PySem.W.Fast.lhsQ w=PySem.W.Fast.rhsQ w:=byRow2 "special-get-raises" (P:=fun w=>PySem.W.Fast.lhsQ w=PySem.W.Fast.rhsQ w) krf krt w
theorem run_all (w:World):lhs w=rhs w:=(congrFun PySem.W.Fast.lhsQ_eq w).trans ((kr w).trans (congrFun PySem.W.Fast.rhsQ_eq w).symm)
noncomputable def lhs1 (w:World)(os:OsState):=topGo treeTable pw w 11 ann0 12 ⟨boot_heap w.params,#[],boot_drawn,boot_toks,os⟩ (topStub pw)
noncomputable def rhs1 (w:World)(os:OsState):Option (Shared×Thread):=some ((sB w os).abs,⟨denote treeTable cE,cE,pos0,B0⟩)
theorem lhs1_r:@lhs1 = @lhs1:=rfl
theorem rhs1_r:@rhs1 = @rhs1:=rfl
name_quick lhs1Q for My.lhs1 by My.lhs1_r
name_quick rhs1Q for My.rhs1 by My.rhs1_r
theorem kr1 (w:World):PySem.W.Fast.lhs1Q w=PySem.W.Fast.rhs1Q w:=by kernel_rfl
theorem run_1 (w:World):lhs1 w=rhs1 w:=(congrFun PySem.W.Fast.lhs1Q_eq w).trans ((kr1 w).trans (congrFun PySem.W.Fast.rhs1Q_eq w).symm)
noncomputable def lhs2 (w:World)(os:OsState):=segRun treeTable pw w 11 ann0 1 1 (sB w os).abs (blockOf body0 env0 cE pos0 B0)
noncomputable def rhs2 (w:World)(os:OsState):Option (Flow×Shared×Code×Pos):=some (.next,(sB w os).abs,cE,pos0)
theorem lhs2_r:@lhs2 = @lhs2:=rfl
theorem rhs2_r:@rhs2 = @rhs2:=rfl
name_quick lhs2Q for My.lhs2 by My.lhs2_r
name_quick rhs2Q for My.rhs2 by My.rhs2_r
theorem kr2 (w:World):PySem.W.Fast.lhs2Q w=PySem.W.Fast.rhs2Q w:=by kernel_rfl
theorem run_2 (w:World):lhs2 w=rhs2 w:=(congrFun PySem.W.Fast.lhs2Q_eq w).trans ((kr2 w).trans (congrFun PySem.W.Fast.rhs2Q_eq w).symm)
noncomputable def lhs3 (w:World):Bool×Nat×Option Value:=((boot_heap w.params).isNs mainGlobals&&(#[]:Array GenState).size == 0,(boot_heap w.params).objs.size,(boot_heap w.params).nsMap mainGlobals "__annotations__")
theorem lhs3_r:@lhs3 = @lhs3:=rfl
name_quick lhs3Q for My.lhs3 by My.lhs3_r
theorem kr3 (w:World):PySem.W.Fast.lhs3Q w=(true,11,ann0):=by kernel_rfl
theorem run_3 (w:World):lhs3 w=(true,11,ann0):=(congrFun PySem.W.Fast.lhs3Q_eq w).trans (kr3 w)
theorem fin0 (w:World)(s:Shared)(q:Pos):topRun treeTable pw w 11 ann0 2 s (restOf [] env0 cE q B0)=some s:=rfl
theorem cut_all:body0=ck0++(ck1++[]):=by
  rw [List.append_nil]
  unfold ck0 ck1
  exact(List.take_append_drop _ _).symm
theorem top_all (w:World)(os:OsState):∃ s:Shared,topRun treeTable pw w 11 ann0 (12+(1+(6210+(1992+2)))) ⟨boot_heap w.params,#[],boot_drawn,boot_toks,os⟩ (topStub pw)=some s /\
    (staticsOk mods (boot_heap w.params) s.heap&&namesBound pw s.heap&&gensDone s&&laidKept (boot_heap w.params) s.heap)=true/\openSeen qvw loose0 mods Xt0 true s=openGood qvw loose0/\obs0 s=val0 w:=by
  obtain⟨⟨f,s,c,q⟩,hr,hF⟩:=Option.map_eq_some_iff.mp (congrFun (run_all w) os)
  unfold lookF at hF
  simp only [Prod.mk.injEq] at hF
  obtain⟨rfl,rfl,h1,h3⟩:=hF
  have h2:openSeen qvw loose0 mods Xt0 true s.abs=openGood qvw loose0:=by
    have hA:=congrFun (run_allGA w) os
    unfold lhsGA rhsGA at hA
    rw [hr,Option.map_some] at hA
    have hA:=Option.some.inj hA
    have hB:=congrFun (run_allGB w) os
    unfold lhsGB rhsGB at hB
    rw [hr,Option.map_some] at hB
    have hB:=Option.some.inj hB
    have hC:=congrFun (run_allGC w) os
    unfold lhsGC rhsGC at hC
    rw [hr,Option.map_some] at hC
    have hC:=Option.some.inj hC
    have hD:=congrFun (run_allGD w) os
    unfold lhsGD rhsGD at hD
    rw [hr,Option.map_some] at hD
    have hD:=Option.some.inj hD
    have hE:=congrFun (run_allGE w) os
    unfold lhsGE rhsGE at hE
    rw [hr,Option.map_some] at hE
    have hE:=Option.some.inj hE
    have hF:=congrFun (run_allGF w) os
    unfold lhsGF rhsGF at hF
    rw [hr,Option.map_some] at hF
    have hF:=Option.some.inj hF
    have hG:=congrFun (run_allGG w) os
    unfold lhsGG rhsGG at hG
    rw [hr,Option.map_some] at hG
    have hG:=Option.some.inj hG
    have hH:=congrFun (run_allGH w) os
    unfold lhsGH rhsGH at hH
    rw [hr,Option.map_some] at hH
    have hH:=Option.some.inj hH
    exact Prod.ext hA (Prod.ext hB (Prod.ext hC (Prod.ext hD (Prod.ext hE (Prod.ext hF (Prod.ext hG hH))))))
  refine⟨s.abs,?_,h1,h2,h3⟩
  refine go_top (congrFun (run_1 w) os) (piece_block (congrFun (run_2 w) os) ?_)
  rw [show restOf body0 env0 cE pos0 [topFrame pos0]=restOf (ck0++(ck1++[])) env0 cE pos0 [topFrame pos0] from congrArg (fun x=>restOf x env0 cE pos0 [topFrame pos0]) cut_all]
  exact(piece_app (segRun_of (congrFun (run_allC0 w) os)) (piece_app (segRun_of hr) (fin0 w s.abs q)))
theorem boot0 (w:World):(fencedOpening treeTable pw w 8317).map (fun s=>(s.heap,s.gens,s.drawn,s.toks))=some (boot_heap w.params,Array.mk [],boot_drawn,boot_toks):=boot_open (p:=pw) (N:=8317) (by kernel_rfl) (by kernel_rfl) (fun _=>rfl) w
theorem left:LeftO pw qvw loose0 Xt0 HK.obs HK.val 8317:=L2.left_run (M:=12+(1+(6210+(1992+2)))) (m0:=11) (ann:=ann0) boot0 run_3 top_all (by decide)
end My
set_option maxHeartbeats 1000000
namespace L2
open PySem PySem.Spec PyProof.Rows
noncomputable abbrev Key:=Sum Int Str
noncomputable def keyIs:Key->Value->Bool
  | .inl k,v=>Value.isInt k v
  | .inr x,v=>Value.isStrOf x v
noncomputable def keyH (w:World):Key->Int
  | .inl k=>hashInt k
  | .inr x=>hashStr w x
theorem keyIs_shape:∀ {k:Key} {v:Value},keyIs k v=true->(∃ i t,k=Sum.inl i/\v=Value.int i t)\/(∃ x t,k=Sum.inr x/\v=Value.str x t)
  | .inl i,v,h=>by
    obtain⟨t,e⟩:=Value.isInt_shape (k:=i) (v:=v) h
    exact .inl ⟨i,t,rfl,e⟩
  | .inr x,v,h=>by
    obtain⟨t,e⟩:=Value.isStrOf_shape (x:=x) (v:=v) h
    exact .inr ⟨x,t,rfl,e⟩
theorem keyIs_int (i:Int)(t:Tok):keyIs (.inl i) (.int i t)=true:=by simp [keyIs,Value.isInt]
theorem keyIs_str (x:Str)(t:Tok):keyIs (.inr x) (.str x t)=true:=by simp [keyIs,Value.isStrOf]
theorem key_ll (a b:Int):decide ((Sum.inl a:Key)=Sum.inl b)=(a == b):=by
  by_cases e:a=b
  · subst e;simp
  · have h:¬ (Sum.inl a:Key)=Sum.inl b:=fun q=>e (Sum.inl.inj q)
    rw [decide_eq_false h]
    exact(beq_eq_false_iff_ne.mpr e).symm
theorem key_rr (a b:Str):decide ((Sum.inr a:Key)=Sum.inr b)=decide (a=b):=by
  by_cases e:a=b
  · subst e;simp
  · have h:¬ (Sum.inr a:Key)=Sum.inr b:=fun q=>e (Sum.inr.inj q)
    rw [decide_eq_false h,decide_eq_false e]
theorem key_lr (a:Int)(b:Str):decide ((Sum.inl a:Key)=Sum.inr b)=false:=decide_eq_false (fun q=>nomatch q)
theorem key_rl (a:Str)(b:Int):decide ((Sum.inr a:Key)=Sum.inl b)=false:=decide_eq_false (fun q=>nomatch q)
noncomputable def mixKind (prog:Program)(w:World):PySem.KeyKind prog w Key where
  is:=keyIs
  hash:=keyH w
  inj:=fun v a b ha hb=>by
    rcases keyIs_shape ha with⟨i,t,rfl,rfl⟩ | ⟨x,t,rfl,rfl⟩
    · rcases keyIs_shape hb with⟨j,u,rfl,e⟩ | ⟨y,u,rfl,e⟩
      · injection e with e1 _;rw [e1]
      · exact nomatch e
    · rcases keyIs_shape hb with⟨j,u,rfl,e⟩ | ⟨y,u,rfl,e⟩
      · exact nomatch e
      · injection e with e1 _;rw [e1]
  byValue:=fun k v h=>by
    rcases keyIs_shape h with⟨i,t,rfl,rfl⟩ | ⟨x,t,rfl,rfl⟩<;>rfl
  pyHash:=fun hv h=>by
    rcases keyIs_shape hv with⟨i,t,rfl,rfl⟩ | ⟨x,t,rfl,rfl⟩
    · exact wpAny_pyHash_int h
    · exact wpAny_pyHash_str h
  eqBool:=fun hu hv h=>by
    rcases keyIs_shape hu with⟨i,t,rfl,rfl⟩ | ⟨x,t,rfl,rfl⟩
    · rcases keyIs_shape hv with⟨j,u,rfl,rfl⟩ | ⟨y,u,rfl,rfl⟩
      · rw [key_ll] at h;exact wpAny_eqBool_int h
      · rw [key_lr] at h;exact SeqAt.EqAt.int_str i t y u _ _ _ _ h
    · rcases keyIs_shape hv with⟨j,u,rfl,rfl⟩ | ⟨y,u,rfl,rfl⟩
      · rw [key_rl] at h;exact SeqAt.EqAt.str_int x t j u _ _ _ _ h
      · rw [key_rr] at h;exact wpAny_eqBool_str h
  «strs»:=fun k x t v h=>by
    rcases keyIs_shape h with⟨i,u,rfl,e⟩ | ⟨y,u,rfl,e⟩
    · exact nomatch e
    · injection e with e1 _
      subst e1
      cases v<;>rfl
theorem mixKind_int (prog:Program)(w:World)(i:Int)(t:Tok):(mixKind prog w).is (.inl i) (.int i t)=true:=keyIs_int i t
theorem mixKind_str (prog:Program)(w:World)(x:Str)(t:Tok):(mixKind prog w).is (.inr x) (.str x t)=true:=keyIs_str x t
end L2
namespace L2
open PySem PySem.Spec PyProof.Rows
inductive V where
  | non | bl (b:Bool) | int (i:Int) | str (x:Str) | byt (b:Array UInt8) | flt (b:UInt64) | ref (a:Addr) | ty (n:String)
  deriving DecidableEq
noncomputable def RelV:V->Value->Prop
  | .non,u=>u=Value.none
  | .bl b,u=>u=Value.bool b
  | .int i,u=>∃ t,u=Value.int i t
  | .str x,u=>∃ t,u=Value.str x t
  | .byt b,u=>∃ t,u=Value.bytes b t
  | .flt b,u=>∃ t,u=Value.float b t
  | .ref a,u=>u=Value.ref a
  | .ty n,u=>u=Value.type n
noncomputable abbrev Vals:List V->List Value->Prop:=Paired RelV
theorem Vals.length {xs:List V}{us:List Value}(r:Vals xs us):xs.length=us.length:=Paired.length r
theorem Vals.get:∀ {xs:List V} {us:List Value} {i:Nat} {x:V},Vals xs us->xs[i]? = some x->∃ u,us[i]? = some u/\RelV x u
  | _,_,_,_,.nil,e=>by simp at e
  | _,_,0,_,.cons r _,e=>by simp at e;subst e;exact⟨_,rfl,r⟩
  | _,_,i+1,x,.cons _ t,e=>by
    obtain⟨u,h1,h2⟩:=Vals.get (i:=i) (x:=x) t (by simpa using e)
    exact⟨u,by simpa using h1,h2⟩
theorem Vals.set {x:V}{u:Value}(r:RelV x u):∀ {xs:List V} {us:List Value} (i:Nat),Vals xs us->Vals (xs.set i x) (us.set i u)
  | _,_,_,.nil=>.nil
  | _,_,0,.cons _ t=>.cons r t
  | _,_,i+1,.cons q t=>.cons q (Vals.set r i t)
theorem Vals.append:∀ {xs ys:List V} {us ws:List Value},Vals xs us->Vals ys ws->Vals (xs++ys) (us++ws)
  | _,_,_,_,.nil,s=>s
  | _,_,_,_,.cons r t,s=>.cons r (Vals.append t s)
theorem Vals.take:∀ {xs:List V} {us:List Value} (n:Nat),Vals xs us->Vals (xs.take n) (us.take n)
  | _,_,0,_=>.nil
  | _,_,_+1,.nil=>.nil
  | _,_,n+1,.cons r t=>.cons r (Vals.take n t)
theorem Vals.drop:∀ {xs:List V} {us:List Value} (n:Nat),Vals xs us->Vals (xs.drop n) (us.drop n)
  | _,_,0,r=>r
  | _,_,_+1,.nil=>.nil
  | _,_,n+1,.cons _ t=>Vals.drop n t
theorem Vals.none_of:∀ {xs:List V} {us:List Value} {i:Nat},Vals xs us->xs[i]? = none->us[i]? = none:=fun {xs us i} r e=>by
  have h1:=r.length
  have h2:xs.length<=i:=List.getElem?_eq_none_iff.mp e
  exact List.getElem?_eq_none_iff.mpr (by lia)
noncomputable def RelO:Option V->Option Value->Prop
  | some v,some u=>RelV v u
  | none,none=>True
  | _,_=>False
noncomputable def KV {κ:Type}:List (κ×V)->List (κ×Value)->Prop:=Paired fun(p:κ×V) (q:κ×Value)=>p.1=q.1/\RelV p.2 q.2
noncomputable def kV:Key->V
  | .inl i=>.int i
  | .inr x=>.str x
inductive HO where
  | lst (xs:List V)
  | tup (xs:List V)
  | dK (kvs:List (Key×V)) | dT (kvs:List (List Key×V))
  | set (S:Int->Bool) (n:Nat)
  | ins (C dx:Addr) (fs:List (Str×V))
  | own (x:Addr)
  | xd (fs:List (Str×V))
  | met (f x:Addr)
  | rng (lo hi:Int)
  | frz (o:Obj) (u:HO)
  | tbl (ps:Array Value)
  | ext (φ:Heap->Prop)
noncomputable abbrev Hp:=Addr->Option HO
noncomputable def upd (H:Hp)(a:Addr)(o:HO):Hp:=fun b=>if b=a then some o else H b
theorem upd_same {H:Hp}{a:Addr}{o:HO}:upd H a o a=some o:=by unfold upd;rw [if_pos rfl]
theorem upd_ne {H:Hp}{a b:Addr}{o:HO}(h:b≠a):upd H a o b=H b:=by unfold upd;rw [if_neg h]
theorem upd_upd {H:Hp}{a:Addr}{o u:HO}:upd (upd H a o) a u=upd H a u:=by
  funext b;unfold upd;split<;>rfl
theorem ne_of {H:Hp}{a b:Addr}{o u:HO}(h:H a=some o)(h':H b=some u)(d:o≠u):a≠b:=by
  intro e;subst e;rw [h] at h';exact d (Option.some.inj h')
theorem ne_of_none {H:Hp}{a b:Addr}{o:HO}(h:H a=some o)(h':H b=none):a≠b:=by
  intro e;subst e;rw [h] at h';cases h'
section
variable (P:Program) (w:World)
noncomputable def ObjOk (H:Hp)(h:Heap)(a:Addr):HO->Prop
  | .lst xs=>xs.length<=sizeLine/\∃ (its:List Value) (n:Nat),Vals xs its/\h.get? a=some { cls:=.type "list",data:=.seq its.toArray n }
  | .tup xs=>xs.length<=sizeLine/\∃ its:List Value,Vals xs its/\IsTup h a its.toArray
  | .dK kvs=>kvs.length<=sizeLine/\(a == sysModules)=false/\∃ vs,KV kvs vs/\h.DictOf (mixKind P w) a vs
  | .dT kvs=>kvs.length<=sizeLine/\(a == sysModules)=false/\∃ xs:List (List Key×Addr×Value),
      Paired (fun(p:List Key×V) (q:List Key×Addr×Value)=>p.1=q.1/\H q.2.1=some (.tup (p.1.map kV))/\RelV p.2 q.2.2) kvs xs /\
      ∃ o es ep,h.get? a=some o/\o.ExactDict/\o.data=.dict es ep/\es.toList=xs.map (entryOfKey (tupleKind (mixKind P w)))/\(xs.map (·.1)).Nodup
  | .set S n=>h.SetOf (intKind P w) a S n
  | .ins C dx fs=>H dx=some (.own a)/\fs.length<=1000/\dx≠a/\h.get? a=some (PySem.W.instObj C dx) /\
      ∃ mA,h.Ns1 dx mA/\(∀ f,RelO (fs.lookup f) (mA f))/\PySem.Within mA (fs.map (·.1))
  | .own _=>∃ o,h.get? a=some o
  | .xd fs=>∃ mA,h.Ns1 a mA/\∀ f,RelO (fs.lookup f) (mA f)
  | .rng lo hi=>∃ t u v,h.get? a=some { cls:=.type "range",data:=.fields #[.int lo t,.int hi u,.int 1 v] }
  | .frz o u=>h.get? a=some o/\ObjOk H h a u
  | .tbl ps=>h.get? a=some { cls:=.none,data:=.fields ps }
  | .met f x=>h.get? a=some (PySem.W.methodObj (.ref f) (.ref x))
  | .ext φ=>φ h/\(∃ o,h.get? a=some o)/\∀ h1 h2:Heap,φ h1->(∀ o,h1.get? a=some o->h2.get? a=some o)->φ h2
def HOk (H:Hp)(h:Heap):Prop:=∀ a o,H a=some o->ObjOk P w H h a o
end
section
variable {P:Program} {w:World} {H H':Hp} {h h':Heap} {a:Addr} {o:HO}
theorem ObjOk.lt (x:ObjOk P w H h a o):a<h.objs.size:=by
  cases o with
  | lst xs=>obtain⟨_,_,_,_,e⟩:=x;exact Heap.lt_size e
  | tup xs=>obtain⟨_,_,_,p⟩:=x;exact p.lt
  | dK kvs=>obtain⟨_,_,_,_,o,_,_,e,_⟩:=x;exact Heap.lt_size e
  | dT kvs=>obtain⟨_,_,_,_,o,_,_,e,_⟩:=x;exact Heap.lt_size e
  | set S n=>obtain⟨o,_,_,_,e,_⟩:=x;exact Heap.lt_size e
  | ins C dx fs=>obtain⟨_,_,_,e,_⟩:=x;exact Heap.lt_size e
  | own y=>obtain⟨_,e⟩:=x;exact Heap.lt_size e
  | xd fs=>obtain⟨_,⟨_,_,_,e,_⟩,_⟩:=x;exact Heap.lt_size e
  | rng lo hi=>obtain⟨_,_,_,e⟩:=x;exact Heap.lt_size e
  | frz ob u=>obtain⟨e,_⟩:=x;exact Heap.lt_size e
  | tbl ps=>exact Heap.lt_size (show h.get? a=some _ from x)
  | met f y=>exact Heap.lt_size (show h.get? a=some _ from x)
  | ext φ=>obtain⟨_,⟨_,e⟩,_⟩:=x;exact Heap.lt_size e
theorem Paired.mapP {α β:Type}{F G:α->β->Prop}:∀ {l₁:List α} {l₂:List β},Paired F l₁ l₂->(∀ a b,F a b->G a b)->Paired G l₁ l₂
  | _,_,.nil,_=>.nil
  | _,_,.cons r t,f=>.cons (f _ _ r) (Paired.mapP t f)
theorem ObjOk.stay (x:ObjOk P w H h a o)(k:∀ b u,(b=a\/H b=some (.own a))->h.get? b=some u->h'.get? b=some u)
    (ho:∀ b,H b=some (.own a)->H' b=some (.own a)) (ht:∀ b xs,H b=some (.tup xs)->H' b=some (.tup xs)):ObjOk P w H' h' a o:=by
  induction o with
  | lst xs=>obtain⟨z,its,n,r,e⟩:=x;exact⟨z,its,n,r,k _ _ (.inl rfl) e⟩
  | tup xs=>obtain⟨z,its,r,ob,e,c⟩:=x;exact⟨z,its,r,ob,k _ _ (.inl rfl) e,c⟩
  | dK kvs=>obtain⟨z,y,vs,r,ob,es,ep,e,c⟩:=x;exact⟨z,y,vs,r,ob,es,ep,k _ _ (.inl rfl) e,c⟩
  | dT kvs=>
    obtain⟨z,y,xs,r,ob,es,ep,e,c⟩:=x
    exact⟨z,y,xs,Paired.mapP r fun p q z=>⟨z.1,ht _ _ z.2.1,z.2.2⟩,ob,es,ep,k _ _ (.inl rfl) e,c⟩
  | set S n=>obtain⟨ob,es,ep,t,e,c⟩:=x;exact⟨ob,es,ep,t,k _ _ (.inl rfl) e,c⟩
  | ins C dx fs=>
    obtain⟨d,z,ne,e,mA,⟨od,es,ep,e2,c⟩,r⟩:=x
    exact⟨ho _ d,z,ne,k _ _ (.inl rfl) e,mA,⟨od,es,ep,k _ _ (.inr d) e2,c⟩,r⟩
  | own y=>obtain⟨ob,e⟩:=x;exact⟨ob,k _ _ (.inl rfl) e⟩
  | xd fs=>obtain⟨mA,⟨od,es,ep,e,c⟩,r⟩:=x;exact⟨mA,⟨od,es,ep,k _ _ (.inl rfl) e,c⟩,r⟩
  | rng lo hi=>obtain⟨t,u,v,e⟩:=x;exact⟨t,u,v,k _ _ (.inl rfl) e⟩
  | frz ob u ih=>obtain⟨e,q⟩:=x;exact⟨k _ _ (.inl rfl) e,ih q⟩
  | tbl ps=>
    have e:h.get? a=some { cls:=.none,data:=.fields ps }:=x
    show h'.get? a=some { cls:=.none,data:=.fields ps }
    exact k a _ (.inl rfl) e
  | met f y=>
    have e:h.get? a=some (PySem.W.methodObj (.ref f) (.ref y)):=x
    show h'.get? a=some (PySem.W.methodObj (.ref f) (.ref y))
    exact k a _ (.inl rfl) e
  | ext φ=>obtain⟨p,⟨o,e⟩,st⟩:=x;exact⟨st _ _ p fun o q=>k _ _ (.inl rfl) q,⟨o,k _ _ (.inl rfl) e⟩,st⟩
theorem HOk.lt (x:HOk P w H h)(e:H a=some o):a<h.objs.size:=(x a o e).lt
theorem HOk.fresh (x:HOk P w H h)(e:h.objs.size<=a):H a=none:=by
  cases q:H a with
  | none=>rfl
  | some u=>exact absurd (Nat.lt_of_lt_of_le (x.lt q) e) (Nat.lt_irrefl _)
theorem HOk.kept (x:HOk P w H h)(k:∀ b u,h.get? b=some u->h'.get? b=some u):HOk P w H h':=fun a o e=>
  (x a o e).stay (fun b u _ q=>k b u q) (fun _ q=>q) fun _ _ q=>q
theorem HOk.laid (x:HOk P w H h)(k:∀ b u,h.get? b=some u->h'.get? b=some u)(hp:h.objs.size<=a)(new:ObjOk P w (upd H a o) h' a o):HOk P w (upd H a o) h':=fun b u e=>by
  have hn:=x.fresh hp
  by_cases hb:b=a
  · subst hb;rw [upd_same] at e;cases e;exact new
  · rw [upd_ne hb] at e
    exact(x b u e).stay (fun c v _ q=>k c v q) (fun c q=>by rw [upd_ne (ne_of_none q hn)];exact q) fun c xs q=>by rw [upd_ne (ne_of_none q hn)];exact q
end
def Rd (H:Hp)(a:Addr)(u:HO):Prop:=H a=some u\/∃ o,H a=some (.frz o u)
theorem Rd.of {H:Hp}{a:Addr}{u:HO}(h:H a=some u):Rd H a u:=.inl h
theorem Rd.ok {P:Program}{w:World}{H:Hp}{h:Heap}{a:Addr}{u:HO}(r:Rd H a u)(x:HOk P w H h):ObjOk P w H h a u:=by
  rcases r with r | ⟨o,r⟩
  · exact x a u r
  · obtain⟨_,q⟩:=x a _ r
    exact q
noncomputable def Mut:Option HO->Prop
  | some (.lst _)=>True
  | some (.dK _)=>True
  | some (.dT _)=>True
  | some (.set _ _)=>True
  | some (.ins _ _ _)=>True
  | some (.ext _)=>True
  | _=>False
section
variable {P:Program} {w:World} {H:Hp} {h h':Heap} {x e:Addr} {o':HO}
theorem HOk.write (ok:HOk P w H h)(mu:Mut (H x))(he:e=x\/H e=some (.own x))(k:∀ b u,b≠e->h.get? b=some u->h'.get? b=some u)(heo:∃ u,h'.get? e=some u)
    (new:ObjOk P w (upd H x o') h' x o'):HOk P w (upd H x o') h':=fun b u q=>by
  have nown:∀ c y,H c=some (.own y)->c≠x:=fun c y r z=>by subst z;rw [r] at mu;exact mu
  have ntup:∀ c xs,H c=some (.tup xs)->c≠x:=fun c xs r z=>by subst z;rw [r] at mu;exact mu
  by_cases hb:b=x
  · subst hb;rw [upd_same] at q;cases q;exact new
  · rw [upd_ne hb] at q
    by_cases hbe:b=e
    · have q':H b=some (.own x):=by
        rcases he with z | z
        · exact absurd (hbe.trans z) hb
        · rw [hbe];exact z
      rw [q] at q';cases q'
      obtain⟨v,hv⟩:=heo
      exact⟨v,by rw [hbe];exact hv⟩
    · refine(ok b u q).stay (fun c v hc r=>k c v ?_ r) (fun c r=>by rw [upd_ne (nown c b r)];exact r) fun c xs r=>by rw [upd_ne (ntup c xs r)];exact r
      rcases hc with rfl | hc
      · exact hbe
      · rintro rfl
        rcases he with z | z
        · exact nown c b hc z
        · rw [hc] at z;cases z;exact hb rfl
end
structure Un (fs ex:List Addr)(H H':Hp)(h h':Heap):Prop where
  keep:∀ b o,h.get? b=some o->H b=none->b∉fs->b∉ex->h'.get? b=some o
  slot:∀ b o,h.get? b=some o->H b=none->b∈fs->b∉ex->∃ sl,h'.get? b=some { o with slots:=sl }
  free:∀ b o,h.get? b=some o->H b=none->b∉ex->H' b=none
  there:∀ b o,h.get? b=some o->b∉ex->∃ o',h'.get? b=some o'
  tups:∀ b xs,H b=some (.tup xs)->H' b=some (.tup xs)
  frzs:∀ b o u,H b=some (.frz o u)->H' b=some (.frz o u)
  tbls:∀ b ps,H b=some (.tbl ps)->∃ more,H' b=some (.tbl (ps++more))
section
variable {fs fs' ex ex':List Addr} {H H1 H2:Hp} {h h1 h2 h':Heap} {a x e:Addr} {o:HO}
theorem Un.any (u:Un fs ex H H1 h h1){b:Addr}{ob:Obj}(q:h.get? b=some ob)(n:H b=none)(hx:b∉ex):∃ sl,h1.get? b=some { ob with slots:=sl }:=by
  by_cases hb:b∈fs
  · exact u.slot b ob q n hb hx
  · exact⟨ob.slots,u.keep b ob q n hb hx⟩
theorem Un.trans (a:Un fs ex H H1 h h1)(b:Un fs ex H1 H2 h1 h2):Un fs ex H H2 h h2 where
  keep:=fun c ob q n hc hx=>b.keep c ob (a.keep c ob q n hc hx) (a.free c ob q n hx) hc hx
  slot:=fun c ob q n hc hx=>by
    obtain⟨sl,e1⟩:=a.slot c ob q n hc hx
    obtain⟨sl',e2⟩:=b.slot c _ e1 (a.free c ob q n hx) hc hx
    exact⟨sl',e2⟩
  free:=fun c ob q n hx=>by
    obtain⟨o',e1⟩:=a.there c ob q hx
    exact b.free c o' e1 (a.free c ob q n hx) hx
  there:=fun c ob q hx=>by
    obtain⟨o',e1⟩:=a.there c ob q hx
    exact b.there c o' e1 hx
  tups:=fun c xs q=>b.tups c xs (a.tups c xs q)
  frzs:=fun c ob xs q=>b.frzs c ob xs (a.frzs c ob xs q)
  tbls:=fun c ps q=>by
    obtain⟨m1,e1⟩:=a.tbls c ps q
    obtain⟨m2,e2⟩:=b.tbls c _ e1
    exact⟨m1++m2,by rw [e2,Array.append_assoc]⟩
theorem Un.kept (k:∀ b u,h.get? b=some u->h'.get? b=some u):Un fs ex H H h h':=
  ⟨fun b ob q _ _ _=>k b ob q,fun b ob q _ _ _=>⟨ob.slots,k b ob q⟩,fun _ _ _ n _=>n,fun b ob q _=>⟨ob,k b ob q⟩,fun _ _ q=>q,fun _ _ _ q=>q,fun _ ps q=>⟨#[],by rw [q];simp⟩⟩
theorem Un.refl:Un fs ex H H h h:=Un.kept fun _ _ q=>q
theorem Un.laid (k:∀ b u,h.get? b=some u->h'.get? b=some u)(hp:h.objs.size<=a)(hn:H a=none):Un fs ex H (upd H a o) h h' where
  keep:=fun b u q _ _ _=>k b u q
  slot:=fun b u q _ _ _=>⟨u.slots,k b u q⟩
  free:=fun b u q n _=>by rw [upd_ne (Nat.ne_of_lt (Nat.lt_of_lt_of_le (Heap.lt_size q) hp))];exact n
  there:=fun b u q _=>⟨u,k b u q⟩
  tups:=fun b xs q=>by rw [upd_ne (ne_of_none q hn)];exact q
  frzs:=fun b u xs q=>by rw [upd_ne (ne_of_none q hn)];exact q
  tbls:=fun b ps q=>⟨#[],by rw [upd_ne (ne_of_none q hn),q];simp⟩
theorem Un.write (mu:Mut (H x))(he:e=x\/H e=some (.own x))(k:∀ b u,b≠e->h.get? b=some u->h'.get? b=some u)(heo:∃ u,h'.get? e=some u):Un fs ex H (upd H x o) h h':=by
  have hx:∀ b,H b=none->b≠x:=fun b n z=>by subst z;rw [n] at mu;exact mu
  have hb:∀ b,H b=none->b≠e:=fun b n z=>by
    subst z
    rcases he with r | r
    · exact hx b n r
    · rw [n] at r;cases r
  have hm:∀ b u,H b=some u->¬ Mut (some u)->b≠x:=fun b u q nm z=>by subst z;rw [q] at mu;exact nm mu
  refine⟨fun b u q n _ _=>k b u (hb b n) q,fun b u q n _ _=>⟨u.slots,k b u (hb b n) q⟩,fun b u q n _=>by rw [upd_ne (hx b n)];exact n,fun b u q _=>?_,
    fun b xs q=>by rw [upd_ne (hm b _ q fun z=>z)];exact q,fun b u xs q=>by rw [upd_ne (hm b _ q fun z=>z)];exact q,fun b ps q=>⟨#[],by rw [upd_ne (hm b _ q fun z=>z),q];simp⟩⟩
  by_cases hbe:b=e
  · subst hbe;exact heo
  · exact⟨u,k b u hbe q⟩
theorem Un.mono (u:Un fs ex H H1 h h1)(hs:∀ b∈fs,b∈fs')(hx:∀ b∈ex,b∈ex'):Un fs' ex' H H1 h h1:=
  ⟨fun b ob q n hb he=>u.keep b ob q n (fun z=>hb (hs b z)) fun z=>he (hx b z),fun _ _ q n _ he=>u.any q n fun z=>he (hx _ z),fun b ob q n he=>u.free b ob q n fun z=>he (hx b z),fun b ob q he=>u.there b ob q fun z=>he (hx b z),u.tups,u.frzs,u.tbls⟩
end
noncomputable def trk (h:Heap)(H:Hp):List Addr:=(List.range h.objs.size).filter fun a=>(H a).isSome
noncomputable def hidT (h:Heap)(H:Hp):Heap:=PySem.W.hideAll h (trk h H)
theorem hidT_size (h:Heap)(H:Hp):(hidT h H).objs.size=h.objs.size:=PySem.W.hideAll_size _ _
theorem hidT_get {h:Heap}{H:Hp}{b:Addr}{o:Obj}(e:h.get? b=some o)(n:H b=none):(hidT h H).get? b=some o:=
  PySem.W.hideAll_get _ e fun hm=>by
    have q:(H b).isSome=true:=(List.mem_filter.mp hm).2
    rw [n] at q;simp at q
theorem of_hidT {h:Heap}{H:Hp}{b:Addr}{o:Obj}(e:(hidT h H).get? b=some o):h.get? b=some o/\H b=none:=by
  have e':h.get? b=some o:=PySem.W.of_hideAll (trk h H) e
  refine⟨e',?_⟩
  cases q:H b with
  | none=>rfl
  | some x=>
    have hm:b∈trk h H:=List.mem_filter.mpr ⟨List.mem_range.mpr (Heap.lt_size e'),by simp [q]⟩
    have z:(hidT h H).get? b=none:=PySem.W.hideAll_none (trk h H) hm
    rw [z] at e;cases e
noncomputable def allNews (g h:Heap)(L:Addr):List (Addr×Obj):=(List.range h.objs.size).filterMap fun a=>if a=L\/(g.get? a).isSome=true then none else(h.get? a).map fun o=>(a,o)
noncomputable def rest (g h:Heap)(L d:Addr):List (Addr×Obj):=(allNews g h L).filter fun p=>decide (p.1≠d)
end L2
namespace L2
open PySem PySem.Spec PyProof.Rows
structure Mod (K:PySem.W.Frag)(mg:Str->Option Value)(base:Heap):Prop where
  kin:K.In base
  glob:base.Ns mainGlobals mg
  blt:∃ mb,base.Ns builtinsNs mb/\∀ x:Str,x≠"__name__"->mb x=bootBuiltins x
  nolimit:base.NoLimit
structure Cx where
  prog:Program
  w:World
  K:PySem.W.Frag
  mg:Str->Option Value
  base:Heap
  A:Around
  N:List Str
  s₀:Shared
  H₀:Hp
  env:Env
  outer:List Env
  stack:List Env
  ex:List Addr
  fn:Str->Bool
  calm:Bool
  pn:List (Addr×Obj)
  xe:Value->Shared->Prop
noncomputable def frs (l:List Env):List Addr:=l.filterMap (·.frame)
noncomputable abbrev Cx.fs (X:Cx):List Addr:=frs X.outer
def Vis (sc:Scope)(x:Str):Prop:=sc.names.lookup x=some .local\/sc.names.lookup x=some .cell\/sc.names.lookup x=some .free
def Loc (sc:Scope)(x:Str):Prop:=sc.names.lookup x=some .local\/sc.names.lookup x=some .cell
def Look (env:Env)(h:Heap)(m:Str->Option Value)(x:Str)(u:Value):Prop:=
  (env.kindOf x=some .local/\m x=some u)\/((env.kindOf x=some .cell\/env.kindOf x=some .free)/\∃ c,env.cells.lookup x=some c/\h.IsCell c (some u))
structure Cx.Ok (X:Cx):Prop where
  mod:Mod X.K X.mg X.base
  kind:X.env.scope.kind=.function
  glob:X.env.globals=mainGlobals
  blt:X.env.builtins=builtinsNs
  above:X.s₀.heap.objs.size<=X.env.locals
  inj:∀ x y c,X.env.cells.lookup x=some c->X.env.cells.lookup y=some c->x=y
  has:∀ x,(X.env.kindOf x=some .cell\/X.env.kindOf x=some .free)->∃ c,X.env.cells.lookup x=some c
  cab:∀ x c,X.fn x=true->X.env.cells.lookup x=some c->X.s₀.heap.objs.size<=c
  hd:X.calm=true->X.A.handled=none
  frames:X.A.frames=some X.stack
  stk:X.stack=X.outer\/(X.stack=X.env::X.outer/\X.env.frame=some X.env.locals)
  exf:∀ b∈X.ex,b≠X.env.locals/\∀ x c,X.env.cells.lookup x=some c->c≠b
  bs:∀ b o,X.base.get? b=some o->X.s₀.heap.get? b=some o/\X.H₀ b=none
  bsz:X.base.objs.size<=X.s₀.heap.objs.size
  noex:∀ b o,X.base.get? b=some o->b∉X.ex
  exfs:∀ b∈X.ex,b∉X.fs
  funs:X.s₀.heap.FunFrames X.base X.outer
  frf:∀ b∈X.fs,X.H₀ b=none
structure Inv (X:Cx)(pins:List (Addr×Obj))(σ:List (Option V))(H:Hp)(s:Shared):Prop where
  ok:X.Ok
  os:s.os=X.s₀.os
  bare:AllBare s.gens
  base:Un X.fs X.ex X.H₀ H X.s₀.heap s.heap
  loc:∃ m,s.heap.Ns X.env.locals m/\∀ (i:Nat) (x:Str) (v:V),X.N[i]? = some x->σ[i]? = some (some v)->Vis X.env.scope x->∃ u,RelV v u/\Look X.env s.heap m x u
  cell:∀ x c,X.env.cells.lookup x=some c->∃ v,s.heap.IsCell c v
  free:H X.env.locals=none
  freeC:∀ x c,X.env.cells.lookup x=some c->H c=none
  pin:∀ p∈X.pn++pins,s.heap.get? p.1=some p.2/\H p.1=none/\p.1≠X.env.locals/\p.1∉X.fs/\∀ v,p.2.data≠.cell v
  hok:HOk X.prog X.w H s.heap
  len:σ.length=X.N.length
section
variable {X:Cx} {pins:List (Addr×Obj)} {σ:List (Option V)} {H H':Hp} {s:Shared} {h':Heap}
theorem Cx.Ok.nofr (ok:X.Ok){b:Addr}{o:Obj}(e:X.base.get? b=some o):b∉X.fs:=fun hb=>by
  have:=(ok.funs.mem hb).1
  rw [e] at this;cases this
theorem Inv.bs (I:Inv X pins σ H s):∀ b o,X.base.get? b=some o->s.heap.get? b=some o/\H b=none:=fun b o e=>
  ⟨I.base.keep b o (I.ok.bs b o e).1 (I.ok.bs b o e).2 (I.ok.nofr e) (I.ok.noex b o e),I.base.free b o (I.ok.bs b o e).1 (I.ok.bs b o e).2 (I.ok.noex b o e)⟩
theorem Inv.bk (I:Inv X pins σ H s):∀ b o,X.base.get? b=some o->s.heap.get? b=some o:=fun b o e=>(I.bs b o e).1
theorem Inv.mod (I:Inv X pins σ H s):Mod X.K X.mg X.base:=I.ok.mod
theorem Inv.kIn (I:Inv X pins σ H s):X.K.In s.heap:=I.ok.mod.kin.keeps I.bk
theorem Inv.nolimit (I:Inv X pins σ H s):s.heap.NoLimit:=I.ok.mod.nolimit.keeps I.bk
theorem Inv.lt (I:Inv X pins σ H s):X.env.locals<s.heap.objs.size:=let ⟨_,hn,_⟩:=I.loc;hn.lt
theorem Inv.sz (I:Inv X pins σ H s):X.s₀.heap.objs.size<=s.heap.objs.size:=Nat.le_trans I.ok.above (Nat.le_of_lt I.lt)
theorem Inv.nofs (I:Inv X pins σ H s){a:Addr}(h:s.heap.objs.size<=a):a∉X.fs:=fun hb=>by
  obtain⟨_,o,ho,_⟩:=I.ok.funs.mem hb
  exact absurd (Nat.lt_of_lt_of_le (Heap.lt_size ho) (Nat.le_trans I.sz h)) (Nat.lt_irrefl _)
theorem Inv.cne (I:Inv X pins σ H s):∀ x c,X.env.cells.lookup x=some c->c≠X.env.locals:=fun x c e z=>by
  obtain⟨v,o,ho,hd⟩:=I.cell x c e
  obtain⟨m,⟨o',es,ep,ho',hd',_⟩,_⟩:=I.loc
  rw [z,ho'] at ho;cases ho;rw [hd'] at hd;cases hd
theorem Inv.funs (I:Inv X pins σ H s):s.heap.FunFrames X.base X.outer:=by
  have all:∀ (l:List Env),(∀ b∈frs l,b∈X.fs)->X.s₀.heap.FunFrames X.base l->s.heap.FunFrames X.base l:=by
    intro l
    induction l with
    | nil=>intro _ _;trivial
    | cons env r ih=>
      intro hs hl
      obtain⟨hk,⟨L,o,hf,hn,ho,hd⟩,hr⟩:=hl
      have hL:L∈X.fs:=hs L (by unfold frs;rw [List.filterMap_cons,hf];exact List.mem_cons_self)
      obtain⟨sl,e⟩:=I.base.slot L o ho (I.ok.frf L hL) hL fun z=>I.ok.exfs L z hL
      exact⟨hk,⟨L,_,hf,hn,e,hd⟩,ih (fun b hb=>hs b (by unfold frs;rw [List.filterMap_cons,hf];exact List.mem_cons_of_mem _ hb)) hr⟩
  exact all X.outer (fun _ hb=>hb) I.ok.funs
theorem Inv.stack (I:Inv X pins σ H s):s.heap.FunFrames X.base X.stack:=by
  rcases I.ok.stk with e | ⟨e,hf⟩
  · rw [e];exact I.funs
  · rw [e]
    obtain⟨m,hn,_⟩:=I.loc
    refine .cons (by rw [I.ok.kind];decide) hf hn ?_ I.funs
    exact Heap.get?_none_of_le (Nat.le_trans I.ok.bsz I.ok.above)
theorem Inv.stkSub (I:Inv X pins σ H s):∀ b∈frs X.stack,b∈X.env.locals::X.fs:=fun b hb=>by
  rcases I.ok.stk with e | ⟨e,hf⟩
  · rw [e] at hb;exact List.mem_cons_of_mem _ hb
  · rw [e] at hb
    unfold frs at hb
    rw [List.filterMap_cons,hf] at hb
    exact hb
theorem Inv.stkFree (I:Inv X pins σ H s):∀ b∈frs X.stack,H b=none:=fun b hb=>by
  rcases List.mem_cons.mp (I.stkSub b hb) with e | hb
  · rw [e];exact I.free
  · obtain⟨_,o,ho,_⟩:=I.ok.funs.mem hb
    exact I.base.free b o ho (I.ok.frf b hb) fun z=>I.ok.exfs b z hb
theorem Inv.step {g':Array GenState}{t':Nat}{d':Drawn}{ch:List Addr}(I:Inv X pins σ H s)
    (hch:∀ b∈ch,(b∈X.ex\/X.s₀.heap.objs.size<=b)/\b≠X.env.locals/\(∀ x c,X.env.cells.lookup x=some c->c≠b)/\∀ p∈X.pn++pins,p.1≠b)
    (keep:∀ b o,b≠X.env.locals->b∉X.fs->b∉ch->s.heap.get? b=some o->H b=none->h'.get? b=some o)
    (slot:∀ b o,b≠X.env.locals->b∈X.fs->b∉ch->s.heap.get? b=some o->H b=none->∃ sl,h'.get? b=some { o with slots:=sl }) (free:∀ b o,b∉ch->s.heap.get? b=some o->H b=none->H' b=none)
    (there:∀ b o,b∉ch->s.heap.get? b=some o->∃ o',h'.get? b=some o')
    (tups:∀ b xs,H b=some (.tup xs)->H' b=some (.tup xs)) (frzs:∀ b o u,H b=some (.frz o u)->H' b=some (.frz o u)) (tbls:∀ b ps,H b=some (.tbl ps)->∃ more,H' b=some (.tbl (ps++more)))
    (ns:∀ m,s.heap.Ns X.env.locals m->h'.Ns X.env.locals m) (hok:HOk X.prog X.w H' h') (hg:AllBare g') :
    Inv X pins σ H' { s with heap:=h',gens:=g',drawn:=d',toks:=t' }:=by
  have neL:∀ b o,X.s₀.heap.get? b=some o->b≠X.env.locals:=fun b o e=>Nat.ne_of_lt (Nat.lt_of_lt_of_le (Heap.lt_size e) I.ok.above)
  have neC:∀ b o,X.s₀.heap.get? b=some o->b∉X.ex->b∉ch:=fun b o e hx hb=>by
    rcases(hch b hb).1 with z | z
    · exact hx z
    · exact absurd (Nat.lt_of_lt_of_le (Heap.lt_size e) z) (Nat.lt_irrefl _)
  have cellK:∀ x c,X.env.cells.lookup x=some c->∀ v,s.heap.IsCell c v->h'.IsCell c v:=fun x c e v ⟨o,ho,hd⟩=>by
    have nch:c∉ch:=fun z=>(hch c z).2.2.1 x c e rfl
    by_cases hc:c∈X.fs
    · obtain⟨sl,q⟩:=slot c o (I.cne x c e) hc nch ho (I.freeC x c e)
      exact⟨_,q,hd⟩
    · exact⟨o,keep c o (I.cne x c e) hc nch ho (I.freeC x c e),hd⟩
  refine⟨I.ok,I.os,hg,⟨fun b o e n hb hx=>?_,fun b o e n hb hx=>?_,fun b o e n hx=>?_,fun b o e hx=>?_,fun b xs e=>tups b xs (I.base.tups b xs e),fun b o xs e=>frzs b o xs (I.base.frzs b o xs e),fun b ps e=>?_⟩,?_,fun x c e=>?_,?_,fun x c e=>?_,fun p hp=>?_,hok,I.len⟩
  · exact keep b o (neL b o e) hb (neC b o e hx) (I.base.keep b o e n hb hx) (I.base.free b o e n hx)
  · obtain⟨sl,e1⟩:=I.base.slot b o e n hb hx
    obtain⟨sl',e2⟩:=slot b _ (neL b o e) hb (neC b o e hx) e1 (I.base.free b o e n hx)
    exact⟨sl',e2⟩
  · obtain⟨o',e1⟩:=I.base.there b o e hx
    exact free b o' (neC b o e hx) e1 (I.base.free b o e n hx)
  · obtain⟨o',e1⟩:=I.base.there b o e hx
    exact there b o' (neC b o e hx) e1
  · obtain⟨m1,e1⟩:=I.base.tbls b ps e
    obtain⟨m2,e2⟩:=tbls b _ e1
    exact⟨m1++m2,by rw [e2,Array.append_assoc]⟩
  · obtain⟨m,hn,hl⟩:=I.loc
    refine⟨m,ns m hn,fun i x v e1 e2 e3=>?_⟩
    obtain⟨u,r,l⟩:=hl i x v e1 e2 e3
    refine⟨u,r,?_⟩
    rcases l with l | ⟨k,c,e,z⟩
    · exact .inl l
    · exact .inr ⟨k,c,e,cellK x c e _ z⟩
  · obtain⟨v,z⟩:=I.cell x c e
    exact⟨v,cellK x c e v z⟩
  · obtain⟨m,⟨o,_,_,ho,_⟩,_⟩:=I.loc
    exact free _ o (fun z=>(hch _ z).2.1 rfl) ho I.free
  · obtain⟨v,o,ho,hd⟩:=I.cell x c e
    exact free c o (fun z=>(hch c z).2.2.1 x c e rfl) ho (I.freeC x c e)
  · obtain⟨e,n,ne,nf,d⟩:=I.pin p hp
    have nch:p.1∉ch:=fun z=>(hch p.1 z).2.2.2 p hp rfl
    exact⟨keep p.1 p.2 ne nf nch e n,free p.1 p.2 nch e n,ne,nf,d⟩
theorem Inv.un {t':Nat}(I:Inv X pins σ H s)(u:Un X.fs [] H H' s.heap h')(hok:HOk X.prog X.w H' h'):Inv X pins σ H' { s with heap:=h',toks:=t' }:=by
  obtain⟨m,⟨o,es,ep,ho,r⟩,_⟩:=id I.loc
  obtain⟨sl,hL⟩:=u.any ho I.free (by simp)
  exact I.step (g':=s.gens) (d':=s.drawn) (ch:=[]) (fun _ z=>nomatch z) (fun b o _ hb _ e n=>u.keep b o e n hb (by simp)) (fun b o _ hb _ e n=>u.slot b o e n hb (by simp)) (fun b o _ e n=>u.free b o e n (by simp)) (fun b o _ e=>u.there b o e (by simp)) u.tups u.frzs u.tbls (fun m' hm=>by
    obtain⟨o',es',ep',ho',r'⟩:=hm
    rw [ho] at ho';cases ho'
    exact⟨_,es',ep',hL,r'⟩) hok I.bare
theorem Inv.call {g':Array GenState}{t':Nat}{d':Drawn}{ch:List Addr}(I:Inv X pins σ H s)(u:Un (frs X.stack) ch H H' s.heap h')(hok:HOk X.prog X.w H' h')(hg:AllBare g')
    (hch:∀ b∈ch,(b∈X.ex\/X.s₀.heap.objs.size<=b)/\b≠X.env.locals/\(∀ x c,X.env.cells.lookup x=some c->c≠b)/\∀ p∈X.pn++pins,p.1≠b) :
    Inv X pins σ H' { s with heap:=h',gens:=g',drawn:=d',toks:=t' }:=by
  obtain⟨m,⟨o,es,ep,ho,r⟩,_⟩:=id I.loc
  obtain⟨sl,hL⟩:=u.any ho I.free fun z=>(hch _ z).2.1 rfl
  exact I.step (ch:=ch) hch (fun b o hL hb hc e n=>u.keep b o e n (fun z=>(List.mem_cons.mp (I.stkSub b z)).elim hL hb) hc) (fun b o _ _ hc e n=>u.any e n hc) (fun b o hc e n=>u.free b o e n hc) (fun b o hc e=>u.there b o e hc) u.tups u.frzs u.tbls (fun m' hm=>by
    obtain⟨o',es',ep',ho',r'⟩:=hm
    rw [ho] at ho';cases ho'
    exact⟨_,es',ep',hL,r'⟩) hok hg
theorem Inv.turned {t':Nat}{it:Addr}(I:Inv X pins σ H s)(k:∀ b o,b≠it->s.heap.get? b=some o->h'.get? b=some o)(hn:H it=none)(hL:it≠X.env.locals)
    (h1:it∈X.ex\/X.s₀.heap.objs.size<=it) (h2:∀ x c,X.env.cells.lookup x=some c->c≠it) (h3:∀ p∈X.pn++pins,p.1≠it):Inv X pins σ H { s with heap:=h',toks:=t' }:=by
  have nit:∀ b u,H b=some u->b≠it:=fun b u e z=>by rw [z,hn] at e;cases e
  refine I.step (g':=s.gens) (d':=s.drawn) (ch:=[it]) (fun b hb=>?_) (fun b o _ _ hc e _=>k b o (fun z=>hc (by simp [z])) e) (fun b o _ _ hc e _=>⟨o.slots,k b o (fun z=>hc (by simp [z])) e⟩) (fun _ _ _ _ n=>n)
    (fun b o hc e=>⟨o,k b o (fun z=>hc (by simp [z])) e⟩) (fun _ _ e=>e) (fun _ _ _ e=>e) (fun b ps e=>⟨#[],by rw [e];simp⟩) (fun m hm=>?_) (fun b u e=>?_) I.bare
  · have e:b=it:=by simpa using hb
    subst e
    exact⟨h1,hL,h2,h3⟩
  · obtain⟨o,es,ep,ho,r⟩:=hm
    exact⟨o,es,ep,k _ o (Ne.symm hL) ho,r⟩
  · refine(I.hok b u e).stay (fun c v hc q=>k c v ?_ q) (fun _ q=>q) fun _ _ q=>q
    rcases hc with z | z
    · rw [z];exact nit b u e
    · exact nit c _ z
theorem Inv.tok (I:Inv X pins σ H s)(t:Nat):Inv X pins σ H { s with toks:=t }:=I.un (h':=s.heap) (t':=t) Un.refl I.hok
theorem Inv.kept {t':Nat}(I:Inv X pins σ H s)(k:∀ b u,s.heap.get? b=some u->h'.get? b=some u):Inv X pins σ H { s with heap:=h',toks:=t' }:=I.un (Un.kept k) (I.hok.kept k)
theorem Inv.laid {a:Addr}{o:HO}{t':Nat}(I:Inv X pins σ H s)(k:∀ b u,s.heap.get? b=some u->h'.get? b=some u)(hp:s.heap.objs.size<=a)(new:ObjOk X.prog X.w (upd H a o) h' a o) :
    Inv X pins σ (upd H a o) { s with heap:=h',toks:=t' }:=I.un (Un.laid k hp (I.hok.fresh hp)) (I.hok.laid k hp new)
theorem Inv.write {x e:Addr}{o:HO}{t':Nat}(I:Inv X pins σ H s)(mu:Mut (H x))(he:e=x\/H e=some (.own x))(k:∀ b u,b≠e->s.heap.get? b=some u->h'.get? b=some u)(heo:∃ u,h'.get? e=some u)
    (new:ObjOk X.prog X.w (upd H x o) h' x o):Inv X pins σ (upd H x o) { s with heap:=h',toks:=t' }:=I.un (Un.write mu he k heo) (I.hok.write mu he k heo new)
theorem Inv.pins_of {pins':List (Addr×Obj)}(I:Inv X pins σ H s)(h:∀ p∈pins',s.heap.get? p.1=some p.2/\H p.1=none/\p.1≠X.env.locals/\p.1∉X.fs/\∀ v,p.2.data≠.cell v):Inv X pins' σ H s:=
  ⟨I.ok,I.os,I.bare,I.base,I.loc,I.cell,I.free,I.freeC,fun p hp=>(List.mem_append.mp hp).elim (fun z=>I.pin p (List.mem_append_left _ z)) (h p),I.hok,I.len⟩
theorem nodup_ix {N:List Str}(hN:N.Nodup){i j:Nat}{x:Str}(a:N[i]? = some x)(b:N[j]? = some x):i=j:=by
  obtain⟨h1,e1⟩:=List.getElem?_eq_some_iff.mp a
  obtain⟨h2,e2⟩:=List.getElem?_eq_some_iff.mp b
  exact(List.getElem_inj hN).mp (e1.trans e2.symm)
theorem store_ok2 {M:Model}{A:Around}{E:Value->Shared->Prop}{i:Nat}{x:Str}{v:V}{u:Value}{Q:Unit->Shared->Prop}(I:Inv X pins σ H s)(hN:X.N.Nodup)(hi:X.N[i]? = some x)(hx:Loc X.env.scope x)(r:RelV v u)
    (h:∀ s',Inv X pins (σ.set i (some v)) H s'->(∃ a,Heap.SameBut a s.heap s'.heap/\(a=X.env.locals\/X.env.cells.lookup x=some a))->Q () s') (hf:X.fn x=true\/X.env.scope.names.lookup x=some .local:=by first | exact .inl rfl | exact .inr rfl | assumption):wpAny M A (storeName X.env x u) Q E s:=by
  obtain⟨m,hn,hl⟩:=id I.loc
  have hcls:(X.env.scope.kind == .class||(X.env.scope.kind == .module&&X.env.locals != X.env.globals))=false:=by rw [I.ok.kind];rfl
  have hiσ:i<σ.length:=by rw [I.len];exact(List.getElem?_eq_some_iff.mp hi).1
  have cne:=I.cne
  have tracked:∀ {a:Addr} {h':Heap},(∃ o,s.heap.get? a=some o/\H a=none)->Heap.SameBut a s.heap h'->HOk X.prog X.w H h':=fun {a h'} ha hs b ob e=>by
    obtain⟨_,_,hfree⟩:=ha
    refine(I.hok b ob e).stay (fun c w' hc q=>(hs.2 c ?_).trans q) (fun _ q=>q) fun _ _ q=>q
    rintro rfl
    rcases hc with rfl | hc
    · rw [hfree] at e;cases e
    · rw [hfree] at hc;cases hc
  rcases hx with hk | hk
  · refine wpAny_storeName_local hk hn (fun h' hn' hs=>?_) hcls
    obtain⟨oL,_,_,hoL,_⟩:=id hn
    refine h _ ⟨I.ok,I.os,I.bare,⟨fun b o e n hb hx=>?_,fun b o e n hb hx=>?_,I.base.free,fun b o e hx=>?_,I.base.tups,I.base.frzs,I.base.tbls⟩,⟨_,hn',fun j y v' e1 e2 e3=>?_⟩,fun y c e=>?_,I.free,I.freeC,fun p hp=>?_,tracked ⟨oL,hoL,I.free⟩ hs,by simpa using I.len⟩ ⟨_,hs,.inl rfl⟩
    · exact(hs.2 b (Nat.ne_of_lt (Nat.lt_of_lt_of_le (Heap.lt_size e) I.ok.above))).trans (I.base.keep b o e n hb hx)
    · obtain⟨sl,e1⟩:=I.base.slot b o e n hb hx
      exact⟨sl,(hs.2 b (Nat.ne_of_lt (Nat.lt_of_lt_of_le (Heap.lt_size e) I.ok.above))).trans e1⟩
    · obtain⟨o',e1⟩:=I.base.there b o e hx
      exact⟨o',(hs.2 b (Nat.ne_of_lt (Nat.lt_of_lt_of_le (Heap.lt_size e) I.ok.above))).trans e1⟩
    · by_cases hj:j=i
      · subst hj
        rw [hi] at e1;cases e1
        rw [List.getElem?_set_self hiσ] at e2
        cases e2
        exact⟨u,r,.inl ⟨hk,by simp⟩⟩
      · rw [List.getElem?_set_ne (Ne.symm hj)] at e2
        obtain⟨u',r',q⟩:=hl j y v' e1 e2 e3
        refine⟨u',r',?_⟩
        rcases q with⟨k,e⟩ | ⟨k,c,e,z⟩
        · refine .inl ⟨k,?_⟩
          have:y≠x:=fun e=>hj (nodup_ix hN e1 (e ▸ hi))
          simp [this,e]
        · exact .inr ⟨k,c,e,z.sameBut hs (cne y c e)⟩
    · obtain⟨w',z⟩:=I.cell y c e
      exact⟨w',z.sameBut hs (cne y c e)⟩
    · obtain⟨e,n,ne,nf,d⟩:=I.pin p hp
      exact⟨(hs.2 p.1 ne).trans e,n,ne,nf,d⟩
  · have hfn:X.fn x=true:=by
      rcases hf with z | z
      · exact z
      · rw [z] at hk;cases hk
    obtain⟨c,hc⟩:=I.ok.has x (.inl hk)
    obtain⟨w',z⟩:=I.cell x c hc
    refine wpAny_storeName_cell I.ok.kind hk hc z (fun h' hc' hs=>?_)
    obtain⟨oc,hoc,hocd⟩:=id z
    refine h { s with heap:=h' } ⟨I.ok,I.os,I.bare,⟨fun b o e n hb hx=>?_,fun b o e n hb hx=>?_,I.base.free,fun b o e hx=>?_,I.base.tups,I.base.frzs,I.base.tbls⟩,⟨m,hn.sameBut hs (Ne.symm (cne x c hc)),fun j y v' e1 e2 e3=>?_⟩,fun y c' e=>?_,I.free,I.freeC,fun p hp=>?_,tracked ⟨oc,hoc,I.freeC x c hc⟩ hs,by simpa using I.len⟩ ⟨c,hs,.inr hc⟩
    · exact(hs.2 b (Nat.ne_of_lt (Nat.lt_of_lt_of_le (Heap.lt_size e) (I.ok.cab x c hfn hc)))).trans (I.base.keep b o e n hb hx)
    · obtain⟨sl,e1⟩:=I.base.slot b o e n hb hx
      exact⟨sl,(hs.2 b (Nat.ne_of_lt (Nat.lt_of_lt_of_le (Heap.lt_size e) (I.ok.cab x c hfn hc)))).trans e1⟩
    · obtain⟨o',e1⟩:=I.base.there b o e hx
      exact⟨o',(hs.2 b (Nat.ne_of_lt (Nat.lt_of_lt_of_le (Heap.lt_size e) (I.ok.cab x c hfn hc)))).trans e1⟩
    · by_cases hj:j=i
      · subst hj
        rw [hi] at e1;cases e1
        rw [List.getElem?_set_self hiσ] at e2
        cases e2
        exact⟨u,r,.inr ⟨.inl hk,c,hc,hc'⟩⟩
      · rw [List.getElem?_set_ne (Ne.symm hj)] at e2
        obtain⟨u',r',q⟩:=hl j y v' e1 e2 e3
        refine⟨u',r',?_⟩
        rcases q with q | ⟨k,c',e,z'⟩
        · exact .inl q
        · refine .inr ⟨k,c',e,z'.sameBut hs ?_⟩
          rintro rfl
          exact hj (nodup_ix hN e1 (I.ok.inj _ _ _ e hc ▸ hi))
    · by_cases hcc:c' = c
      · subst hcc;exact⟨_,hc'⟩
      · obtain⟨w2,z2⟩:=I.cell y c' e
        exact⟨w2,z2.sameBut hs hcc⟩
    · obtain⟨e,n,ne,nf,d⟩:=I.pin p hp
      refine⟨(hs.2 p.1 ?_).trans e,n,ne,nf,d⟩
      intro q
      rw [q,hoc] at e
      have q':oc=p.2:=Option.some.inj e
      exact d w' (by rw [← q'];exact hocd)
theorem store_ok {M:Model}{A:Around}{E:Value->Shared->Prop}{i:Nat}{x:Str}{v:V}{u:Value}{Q:Unit->Shared->Prop}(I:Inv X pins σ H s)(hN:X.N.Nodup)(hi:X.N[i]? = some x)(hx:Loc X.env.scope x)(r:RelV v u)
    (h:∀ s',Inv X pins (σ.set i (some v)) H s'->Q () s') (hf:X.fn x=true\/X.env.scope.names.lookup x=some .local:=by first | exact .inl rfl | exact .inr rfl | assumption):wpAny M A (storeName X.env x u) Q E s:=
  store_ok2 I hN hi hx r (fun s' I' _=>h s' I') hf
theorem Inv.call' {s':Shared}{ch:List Addr}(I:Inv X pins σ H s)(ho:s'.os=s.os)(u:Un (frs X.stack) ch H H' s.heap s'.heap)(hok:HOk X.prog X.w H' s'.heap)(hg:AllBare s'.gens)
    (hch:∀ b∈ch,(b∈X.ex\/X.s₀.heap.objs.size<=b)/\b≠X.env.locals/\(∀ x c,X.env.cells.lookup x=some c->c≠b)/\∀ p∈X.pn++pins,p.1≠b):Inv X pins σ H' s':=by
  obtain⟨h',g',d',t',o'⟩:=s'
  have e:o' = s.os:=ho
  subst e
  exact I.call (g':=g') (t':=t') (d':=d') u hok hg hch
end
noncomputable abbrev XK:=Value->Option Addr->Hp->Prop
noncomputable abbrev St:=List (Option V)
noncomputable abbrev VK:=V->Hp->Prop
noncomputable abbrev TE:=St->Hp->VK->Prop
noncomputable abbrev TT:=St->Hp->(Bool->Hp->Prop)->Prop
noncomputable abbrev TA:=St->Hp->(List V->Hp->Prop)->Prop
structure Ends where
  nx:St->Hp->Prop
  rt:VK
  bk:St->Hp->Prop:=fun _ _=>False
  ct:St->Hp->Prop:=fun _ _=>False
noncomputable abbrev TS:=Ends->St->Hp->Prop
def EP (X:Cx)(pins:List (Addr×Obj))(σ:St)(Q:VK)(u:Value)(s':Shared):Prop:=∃ v H',Inv X pins σ H' s'/\RelV v u/\Q v H'
def TP (X:Cx)(pins:List (Addr×Obj))(σ:St)(Q:Bool->Hp->Prop)(b:Bool)(s':Shared):Prop:=∃ H',Inv X pins σ H' s'/\Q b H'
def AP (X:Cx)(pins:List (Addr×Obj))(σ:St)(Q:List V->Hp->Prop)(us:List Value)(s':Shared):Prop:=∃ vs H',Inv X pins σ H' s'/\Vals vs us/\Q vs H'
def SP (X:Cx)(pins:List (Addr×Obj))(D:Ends)(f:Flow)(s':Shared):Prop:=
  match f with
  | .next=>∃ σ' H',Inv X pins σ' H' s'/\D.nx σ' H'
  | .brk=>∃ σ' H',Inv X pins σ' H' s'/\D.bk σ' H'
  | .cont=>∃ σ' H',Inv X pins σ' H' s'/\D.ct σ' H'
  | .ret u=>∃ v σ' H',Inv X pins σ' H' s'/\RelV v u/\D.rt v H'
def PE (X:Cx)(e:Expr)(t:TE):Prop:=
  ∀ (pins:List (Addr×Obj)) (s:Shared) (σ:St) (H:Hp) (Q:VK),Inv X pins σ H s->t σ H Q->wpAny (model X.prog X.w) X.A (eval e X.env) (EP X pins σ Q) X.xe s
def PT (X:Cx)(e:Expr)(t:TT):Prop:=
  ∀ (pins:List (Addr×Obj)) (s:Shared) (σ:St) (H:Hp) (Q:Bool->Hp->Prop),Inv X pins σ H s->t σ H Q->wpAny (model X.prog X.w) X.A (isTrue e X.env (eval e X.env)) (TP X pins σ Q) X.xe s
def PW (X:Cx)(e:Expr)(t:TT):Prop:=
  ∀ (whole:Sem Value) (pins:List (Addr×Obj)) (s:Shared) (σ:St) (H:Hp) (Q:Bool->Hp->Prop),Inv X pins σ H s->t σ H Q->wpAny (model X.prog X.w) X.A (isTrue e X.env whole) (TP X pins σ Q) X.xe s
theorem PW.pt {X:Cx}{e:Expr}{t:TT}(h:PW X e t):PT X e t:=h _
def PA (X:Cx)(es:List Expr)(t:TA):Prop:=
  ∀ (pos:Pos) (pins:List (Addr×Obj)) (s:Shared) (σ:St) (H:Hp) (Q:List V->Hp->Prop),Inv X pins σ H s->t σ H Q->wpAny (model X.prog X.w) X.A (spliced (backTo pos (starEach es X.env))) (AP X pins σ Q) X.xe s
def PS (X:Cx)(st:Stmt)(t:TS):Prop:=
  ∀ (pins:List (Addr×Obj)) (s:Shared) (σ:St) (H:Hp) (D:Ends),Inv X pins σ H s->t D σ H->wpAny (model X.prog X.w) X.A (exec st X.env) (SP X pins D) X.xe s
def PSs (X:Cx)(st:List Stmt)(t:TS):Prop:=
  ∀ (pins:List (Addr×Obj)) (s:Shared) (σ:St) (H:Hp) (D:Ends),Inv X pins σ H s->t D σ H->wpAny (model X.prog X.w) X.A (execs st X.env) (SP X pins D) X.xe s
theorem thn {α:Type}{t:Sem α}{Q Q':α->Shared->Prop}{M:Model}{A:Around}{E:Value->Shared->Prop}{s:Shared}(h:wpAny M A t Q E s)(hQ:∀ a s,Q a s->Q' a s):wpAny M A t Q' E s:=wpAny_mono h hQ fun _ _ x=>x
end L2
namespace L2
open PySem PySem.Spec PyProof.Rows
section
variable {X:Cx}
noncomputable def tVar (i:Nat):TE:=fun σ H Q=>∃ v,σ[i]? = some (some v)/\Q v H
noncomputable def tC (v:V):TE:=fun _ H Q=>Q v H
theorem pe_var {i:Nat}{x:Str}{pos:Pos}(hN:X.N[i]? = some x)(hv:Vis X.env.scope x)(hd:(x == ("__debug__":Str))=false:=by decide) (hcd:(x == ("__classdict__":Str))=false:=by decide):PE X (.Name x pos) (tVar i):=by
  intro pins s σ H Q I h
  obtain⟨v,e,h⟩:=h
  obtain⟨m,hn,hl⟩:=I.loc
  obtain⟨u,r,l⟩:=hl i x v hN e hv
  have fin:EP X pins σ Q u s:=⟨v,H,I,r,h⟩
  rcases l with⟨hk,hm⟩ | ⟨hk,c,hc,hcell⟩
  · exact wpAny_Name (wpAny_loadName_local I.ok.kind hk hn hm fin) hd
  · rcases hk with hk | hk
    · exact wpAny_Name (wpAny_loadName_cell I.ok.kind hk hc hcell fin) hd
    · exact wpAny_Name (wpAny_loadName_free I.ok.kind hk hc hcell fin hcd) hd
theorem pe_int {i j pos}:PE X (.Constant (.int i) j pos) (tC (.int i)):=fun _ _ _ H _ I h=>wpAny_Constant_int ⟨.int i,H,I.tok _,⟨_,rfl⟩,h⟩
theorem pe_bl {b j pos}:PE X (.Constant (.bool b) j pos) (tC (.bl b)):=fun _ _ _ H _ I h=>Constant_bool ⟨.bl b,H,I,rfl,h⟩
theorem pe_non {j pos}:PE X (.Constant .none j pos) (tC .non):=fun _ _ _ H _ I h=>Constant_none ⟨.non,H,I,rfl,h⟩
theorem pe_str {x j pos}:PE X (.Constant (.str x) j pos) (tC (.str x)):=fun _ _ _ H _ I h=>Calls.Constant_str ⟨.str x,H,I.tok _,⟨_,rfl⟩,h⟩
def Gl (X:Cx)(x:Str):Prop:=X.env.kindOf x=some .globalImplicit
theorem ld_glob {E:Value->Shared->Prop}{pins:List (Addr×Obj)}{s:Shared}{σ:St}{H:Hp}{x:Str}{u:Value}{pos:Pos}{Q:Value->Shared->Prop}(I:Inv X pins σ H s)(hg:Gl X x)(hm:X.mg x=some u)(h:Q u s)
    (hd:(x == ("__debug__":Str))=false:=by decide):wpAny (model X.prog X.w) X.A (eval (.Name x pos) X.env) Q E s:=
  Calls.Name_function_global I.ok.kind hg (Calls.loadGlobal_global (by rw [I.ok.glob];exact I.mod.glob.keeps I.bk) hm h) hd
theorem ld_blt {E:Value->Shared->Prop}{pins:List (Addr×Obj)}{s:Shared}{σ:St}{H:Hp}{x:Str}{u:Value}{pos:Pos}{Q:Value->Shared->Prop}(I:Inv X pins σ H s)(hg:Gl X x)(hm:X.mg x=none)(hv:bootBuiltins x=some u)(h:Q u s)
    (hn:x≠"__name__":=by decide) (hd:(x == ("__debug__":Str))=false:=by decide):wpAny (model X.prog X.w) X.A (eval (.Name x pos) X.env) Q E s:=by
  obtain⟨mb,h1,h2⟩:=I.mod.blt
  exact Calls.Name_function_global I.ok.kind hg (Calls.loadGlobal_builtin (by rw [I.ok.glob];exact I.mod.glob.keeps I.bk) hm (by rw [I.ok.blt];exact h1.keeps I.bk) ((h2 x hn).trans hv) h) hd
theorem pe_glob {x:Str}{v:V}{u:Value}{pos:Pos}(hg:Gl X x)(hm:X.mg x=some u)(r:RelV v u)(hd:(x == ("__debug__":Str))=false:=by decide):PE X (.Name x pos) (tC v):=
  fun _ _ _ H _ I h=>ld_glob I hg hm ⟨v,H,I,r,h⟩ hd
theorem pe_bltn {x:Str}{v:V}{u:Value}{pos:Pos}(hg:Gl X x)(hm:X.mg x=none)(hv:bootBuiltins x=some u)(r:RelV v u)(hn:x≠"__name__":=by decide) (hd:(x == ("__debug__":Str))=false:=by decide):PE X (.Name x pos) (tC v):=
  fun _ _ _ H _ I h=>ld_blt I hg hm hv ⟨v,H,I,r,h⟩ hn hd
variable {a b:Expr} {ta tb:TE} {pos:Pos}
noncomputable def tB (t:TE):TT:=fun σ H Q=>t σ H fun x H1=>∃ c,x=.bl c/\Q c H1
theorem pt_val {e:Expr}{t:TE}(h:PE X e t)(he:∀ whole,isTrue e X.env whole=(do let v ← whole;standAt e.pos;holding [v] (truthy v)):=by intro _;rfl):PT X e (tB t):=by
  intro pins s σ H Q I hw
  refine isTrue_plain (thn (h pins s σ H _ I hw) fun v s1 ⟨x,H1,I1,r1,q1⟩=>?_) (he _)
  obtain⟨d,rfl,q⟩:=q1
  cases r1
  exact wpAny_truthy_bool ⟨H1,I1,q⟩
variable {tA tB':TT} {rest:List Expr}
noncomputable def tAnd (t u:TT):TT:=fun σ H Q=>t σ H fun c H1=>if c=true then u σ H1 Q else Q false H1
noncomputable def tOr (t u:TT):TT:=fun σ H Q=>t σ H fun c H1=>if c=true then Q true H1 else u σ H1 Q
noncomputable def tNot (t:TT):TT:=fun σ H Q=>t σ H fun c H1=>Q (!c) H1
theorem pw_and1 (ha:PT X a tA):PW X (.BoolOp .And [a] pos) tA:=by
  intro wh pins s σ H Q I h
  refine isTrue_and (thn (ha pins s σ H Q I h) fun c s1 e=>?_)
  cases c with
  | true=>exact isTrue_and_nil e
  | false=>exact e
theorem pw_or1 (ha:PT X a tA):PW X (.BoolOp .Or [a] pos) tA:=by
  intro wh pins s σ H Q I h
  refine isTrue_or (thn (ha pins s σ H Q I h) fun c s1 e=>?_)
  cases c with
  | false=>exact isTrue_or_nil e
  | true=>exact e
theorem pw_and (ha:PT X a tA)(hb:PW X (.BoolOp .And (b::rest) pos) tB'):PW X (.BoolOp .And (a::b::rest) pos) (tAnd tA tB'):=by
  intro wh pins s σ H Q I h
  refine isTrue_and (thn (ha pins s σ H _ I h) fun c s1 ⟨H1,I1,q1⟩=>?_)
  cases c with
  | true=>exact hb wh pins s1 σ H1 Q I1 q1
  | false=>exact⟨H1,I1,q1⟩
theorem pw_or (ha:PT X a tA)(hb:PW X (.BoolOp .Or (b::rest) pos) tB'):PW X (.BoolOp .Or (a::b::rest) pos) (tOr tA tB'):=by
  intro wh pins s σ H Q I h
  refine isTrue_or (thn (ha pins s σ H _ I h) fun c s1 ⟨H1,I1,q1⟩=>?_)
  cases c with
  | true=>exact⟨H1,I1,q1⟩
  | false=>exact hb wh pins s1 σ H1 Q I1 q1
theorem pt_not (ha:PT X a tA):PT X (.UnaryOp .Not a pos) (tNot tA):=by
  intro pins s σ H Q I h
  exact isTrue_not (ha pins s σ H (fun c H1=>Q (!c) H1) I h)
noncomputable def tAndV (ta tb:TE):TE:=fun σ H Q=>ta σ H fun x H1=>∃ c,x=.bl c/\if c=true then tb σ H1 Q else Q (.bl false) H1
noncomputable def tOrV (ta tb:TE):TE:=fun σ H Q=>ta σ H fun x H1=>∃ c,x=.bl c/\if c=true then Q (.bl true) H1 else tb σ H1 Q
noncomputable def tNotV (ta:TE):TE:=fun σ H Q=>ta σ H fun x H1=>∃ c,x=.bl c/\Q (.bl (!c)) H1
noncomputable def tIf (t:TT)(ta tb:TE):TE:=fun σ H Q=>t σ H fun c H1=>if c=true then ta σ H1 Q else tb σ H1 Q
theorem pe_ifExp {c:Expr}(hc:PT X c tA)(ha:PE X a ta)(hb:PE X b tb):PE X (.IfExp c a b pos) (tIf tA ta tb):=by
  intro pins s σ H Q I h
  refine wpAny_IfExp (thn (hc pins s σ H _ I h) fun d s1 ⟨H1,I1,q1⟩=>?_)
  cases d with
  | true=>exact ha pins s1 σ H1 Q I1 q1
  | false=>exact hb pins s1 σ H1 Q I1 q1
end
end L2
namespace L2
open PySem PySem.Spec PyProof.Rows
def SqL (K:PySem.W.Frag)(H:Hp)(a:Addr)(xs:List V):Prop:=
  Rd H a (.lst xs) \/
    ∃ (o:Obj) (its:Array Value) (n:Nat),K.lookup a=some o/\o.cls=.type "list"/\o.dict=none/\o.data=.seq its n/\its.size<=sizeLine/\Vals xs its.toList
def SqT (K:PySem.W.Frag)(H:Hp)(a:Addr)(xs:List V):Prop:=
  Rd H a (.tup xs) \/
    ∃ (o:Obj) (its:Array Value) (n:Nat),K.lookup a=some o/\o.cls=.type "tuple"/\o.data=.seq its n/\its.size<=sizeLine/\Vals xs its.toList
noncomputable def absV:Value->Option V
  | .none=>some .non
  | .bool b=>some (.bl b)
  | .int i _=>some (.int i)
  | .str x _=>some (.str x)
  | .bytes b _=>some (.byt b)
  | .float b _=>some (.flt b)
  | .ref a=>some (.ref a)
  | .type n=>some (.ty n)
  | _=>none
theorem RelV.abs {x:V}{u:Value}(r:RelV x u):absV u=some x:=by
  cases x with
  | non=>cases r;rfl
  | bl _=>cases r;rfl
  | int _=>obtain⟨t,rfl⟩:=r;rfl
  | str _=>obtain⟨t,rfl⟩:=r;rfl
  | byt _=>obtain⟨t,rfl⟩:=r;rfl
  | flt _=>obtain⟨t,rfl⟩:=r;rfl
  | ref _=>cases r;rfl
  | ty _=>cases r;rfl
theorem RelV.inj {x y:V}{u:Value}(r:RelV x u)(q:RelV y u):x=y:=Option.some.inj (r.abs.symm.trans q.abs)
theorem Vals.inj:∀ {xs ys:List V} {us:List Value},Vals xs us->Vals ys us->xs=ys
  | _,_,_,.nil,.nil=>rfl
  | _,_,_,.cons r t,.cons r' t'=>by rw [r.inj r',Vals.inj t t']
section
variable {X:Cx} {pins:List (Addr×Obj)} {σ:St} {H:Hp} {s:Shared} {a:Addr} {xs ys:List V}
theorem SqL.of {K:PySem.W.Frag}(h:H a=some (.lst xs)):SqL K H a xs:=.inl (.inl h)
theorem SqT.of {K:PySem.W.Frag}(h:H a=some (.tup xs)):SqT K H a xs:=.inl (.inl h)
theorem Inv.list (I:Inv X pins σ H s)(h:SqL X.K H a xs):∃ its:List Value,Vals xs its/\PlainL s.heap a its.toArray/\xs.length<=sizeLine:=by
  rcases h with h | ⟨o,its,n,hk,hc,hd,hs,hz,r⟩
  · obtain⟨z,its,n,r,e⟩:=h.ok I.hok
    exact⟨its,r,⟨_,n,e,rfl,rfl,rfl⟩,z⟩
  · refine⟨its.toList,r,⟨o,n,I.kIn a o hk,hc,hd,by simpa using hs⟩,?_⟩
    have e:=r.length
    simp only [Array.length_toList] at e
    lia
theorem Inv.tuple (I:Inv X pins σ H s)(h:SqT X.K H a xs):∃ its:List Value,Vals xs its/\IsTup s.heap a its.toArray/\xs.length<=sizeLine:=by
  rcases h with h | ⟨o,its,n,hk,hc,hs,hz,r⟩
  · obtain⟨z,its,r,p⟩:=h.ok I.hok
    exact⟨its,r,p,z⟩
  · refine⟨its.toList,r,⟨o,I.kIn a o hk,hc,n,by simpa using hs⟩,?_⟩
    have e:=r.length
    simp only [Array.length_toList] at e
    lia
theorem Inv.list_inj (I:Inv X pins σ H s)(h:SqL X.K H a xs)(h':SqL X.K H a ys):xs=ys:=by
  obtain⟨its,r,⟨o,n,e,_,_,d⟩,_⟩:=I.list h
  obtain⟨its',r',⟨o',n',e',_,_,d'⟩,_⟩:=I.list h'
  rw [e] at e';cases e'
  rw [d] at d'
  injection d' with d1 _
  have:its=its':=by simpa using congrArg Array.toList d1
  subst this
  exact r.inj r'
theorem Inv.tuple_inj (I:Inv X pins σ H s)(h:SqT X.K H a xs)(h':SqT X.K H a ys):xs=ys:=by
  obtain⟨its,r,⟨o,e,_,n,d⟩,_⟩:=I.tuple h
  obtain⟨its',r',⟨o',e',_,n',d'⟩,_⟩:=I.tuple h'
  rw [e] at e';cases e'
  rw [d] at d'
  injection d' with d1 _
  have:its=its':=by simpa using congrArg Array.toList d1
  subst this
  exact r.inj r'
end
noncomputable abbrev Cx.wish (X:Cx)(E:Value->Shared->Prop):Cx:={ X with xe:=E }
noncomputable abbrev Cx.nox (X:Cx):Cx:=X.wish fun _ _=>False
theorem Cx.Ok.wish {X:Cx}(ok:X.Ok)(E:Value->Shared->Prop):(X.wish E).Ok:=
  ⟨ok.mod,ok.kind,ok.glob,ok.blt,ok.above,ok.inj,ok.has,ok.cab,ok.hd,ok.frames,ok.stk,ok.exf,ok.bs,ok.bsz,ok.noex,ok.exfs,ok.funs,ok.frf⟩
theorem Cx.Ok.unwish {X:Cx}{E:Value->Shared->Prop}(ok:(X.wish E).Ok):X.Ok:=
  ⟨ok.mod,ok.kind,ok.glob,ok.blt,ok.above,ok.inj,ok.has,ok.cab,ok.hd,ok.frames,ok.stk,ok.exf,ok.bs,ok.bsz,ok.noex,ok.exfs,ok.funs,ok.frf⟩
section
variable {X:Cx} {pins:List (Addr×Obj)} {σ:St} {H:Hp} {s:Shared} {E:Value->Shared->Prop}
theorem Inv.wish (I:Inv X pins σ H s)(E:Value->Shared->Prop):Inv (X.wish E) pins σ H s:=⟨I.ok.wish E,I.os,I.bare,I.base,I.loc,I.cell,I.free,I.freeC,I.pin,I.hok,I.len⟩
theorem Inv.unwish (I:Inv (X.wish E) pins σ H s):Inv X pins σ H s:=⟨I.ok.unwish,I.os,I.bare,I.base,I.loc,I.cell,I.free,I.freeC,I.pin,I.hok,I.len⟩
theorem SP.unwish {D:Ends}{f:Flow}{s':Shared}(h:SP (X.wish E) pins D f s'):SP X pins D f s':=by
  cases f with
  | next=>obtain⟨σ',H',I,q⟩:=h;exact⟨σ',H',I.unwish,q⟩
  | brk=>obtain⟨σ',H',I,q⟩:=h;exact⟨σ',H',I.unwish,q⟩
  | cont=>obtain⟨σ',H',I,q⟩:=h;exact⟨σ',H',I.unwish,q⟩
  | ret u=>obtain⟨v,σ',H',I,r,q⟩:=h;exact⟨v,σ',H',I.unwish,r,q⟩
theorem PE.nox {e:Expr}{t:TE}(h:PE X.nox e t):PE X e t:=fun pins s σ H Q I hw=>
  wpAny_mono (h pins s σ H Q (I.wish _) hw) (fun _ _ ⟨v,H',I',r,q⟩=>⟨v,H',I'.unwish,r,q⟩) fun _ _ z=>False.elim z
theorem PT.nox {e:Expr}{t:TT}(h:PT X.nox e t):PT X e t:=fun pins s σ H Q I hw=>
  wpAny_mono (h pins s σ H Q (I.wish _) hw) (fun _ _ ⟨H',I',q⟩=>⟨H',I'.unwish,q⟩) fun _ _ z=>False.elim z
theorem PSs.nox {st:List Stmt}{t:TS}(h:PSs X.nox st t):PSs X st t:=fun pins s σ H D I hw=>
  wpAny_mono (h pins s σ H D (I.wish _) hw) (fun _ _ q=>q.unwish) fun _ _ z=>False.elim z
end
section
variable {X:Cx} {st:Stmt} {rest:List Stmt} {t u:TS} {e:Expr} {te:TE} {pos:Pos}
noncomputable def tNext:TS:=fun D σ H=>D.nx σ H
noncomputable def tSeq (t u:TS):TS:=fun D σ H=>t { D with nx:=u D } σ H
theorem pss_nil:PSs X [] tNext:=fun _ _ σ H _ I h=>wpAny_execs_nil ⟨σ,H,I,h⟩
theorem pss_cons (h1:PS X st t)(h2:PSs X rest u):PSs X (st::rest) (tSeq t u):=by
  intro pins s σ H D I h
  refine wpAny_execs_cons (thn (h1 pins s σ H { D with nx:=u D } I h) fun f s1 q=>?_)
  cases f with
  | next=>
    obtain⟨σ',H',I',q⟩:=q
    exact h2 pins s1 σ' H' D I' q
  | ret v=>exact q
  | brk=>exact q
  | cont=>exact q
theorem pss_one (h1:PS X st t):PSs X [st] t:=by
  intro pins s σ H D I h
  refine wpAny_execs_cons (thn (h1 pins s σ H D I h) fun f s1 q=>?_)
  cases f with
  | next=>exact wpAny_execs_nil q
  | ret v=>exact q
  | brk=>exact q
  | cont=>exact q
noncomputable def tBreak:TS:=fun D σ H=>D.bk σ H
theorem Inv.quiet {pins:List (Addr×Obj)}{σ:St}{H:Hp}{s:Shared}(I:Inv X pins σ H s):interactive X.env=false:=by simp [interactive,I.ok.kind]
noncomputable def tDrop (te:TE):TS:=fun D σ H=>te σ H fun _ H1=>D.nx σ H1
theorem ps_expr (he:PE X e te)(hs:swapsWith e none pos.line X.env=pure false:=by rfl):PS X (.Expr e pos) (tDrop te):=by
  intro pins s σ H D I h
  exact wpAny_Expr_any (thn (he pins s σ H _ I h) fun v s1 ⟨x,H1,I1,r1,q1⟩=>⟨σ,H1,I1,q1⟩) I.quiet hs
noncomputable def tRet (te:TE):TS:=fun D σ H=>te σ H D.rt
theorem ps_ret (he:PE X e te):PS X (.Return (some e) pos) (tRet te):=by
  intro pins s σ H D I h
  exact wpAny_Return_some (thn (he pins s σ H _ I h) fun v s1 ⟨x,H1,I1,r1,q1⟩=>⟨x,σ,H1,I1,r1,q1⟩)
noncomputable def tRetN:TS:=fun D _ H=>D.rt .non H
noncomputable def tIfS (c:TT)(t u:TS):TS:=fun D σ H=>c σ H fun b H1=>if b=true then t D σ H1 else u D σ H1
theorem ps_if {c:Expr}{a b:List Stmt}{tc:TT}(hc:PT X c tc)(ha:PSs X a t)(hb:PSs X b u):PS X (.If c a b pos) (tIfS tc t u):=by
  intro pins s σ H D I h
  refine wpAny_If (thn (hc pins s σ H _ I h) fun d s1 ⟨H1,I1,q1⟩=>?_)
  cases d with
  | true=>exact ha pins s1 σ H1 D I1 q1
  | false=>exact hb pins s1 σ H1 D I1 q1
noncomputable def tNever:TS:=fun _ _ _=>False
theorem ps_never:PS X st tNever:=fun _ _ _ _ _ _ h=>h.elim
end
noncomputable abbrev TG:=V->St->Hp->(St->Hp->Prop)->Prop
noncomputable abbrev TGs:=List V->St->Hp->(St->Hp->Prop)->Prop
def PG (X:Cx)(target:Expr)(t:TG):Prop:=
  ∀ (pins:List (Addr×Obj)) (s:Shared) (σ:St) (H:Hp) (v:V) (u:Value) (Q:St->Hp->Prop),Inv X pins σ H s->RelV v u->t v σ H Q ->
    wpAny (model X.prog X.w) X.A (assign target X.env u) (fun _ s'=>∃ σ' H',Inv X pins σ' H' s'/\Q σ' H') X.xe s
def PGs (X:Cx)(ts:List Expr)(t:TGs):Prop:=
  ∀ (pins:List (Addr×Obj)) (s:Shared) (σ:St) (H:Hp) (vs:List V) (us:List Value) (Q:St->Hp->Prop),Inv X pins σ H s->Vals vs us->t vs σ H Q ->
    wpAny (model X.prog X.w) X.A (assignInOrder ((assignEach ts X.env).map (·.2)) us) (fun _ s'=>∃ σ' H',Inv X pins σ' H' s'/\Q σ' H') X.xe s
noncomputable abbrev TSet:=V->V->V->Hp->(Hp->Prop)->Prop
noncomputable abbrev TIp:=V->V->Hp->VK->Prop
section
variable {X:Cx} {pos:Pos}
noncomputable def gName (i:Nat):TG:=fun v σ H Q=>Q (σ.set i (some v)) H
theorem pg_name {i:Nat}{x:Str}(hN:X.N.Nodup)(hi:X.N[i]? = some x)(hx:Loc X.env.scope x)(hf:X.fn x=true\/X.env.scope.names.lookup x=some .local:=by first | exact .inl rfl | exact .inr rfl | assumption):PG X (.Name x pos) (gName i):=by
  intro pins s σ H v u Q I r h
  exact wpAny_assign_Name (store_ok I hN hi hx r (fun s' I'=>⟨_,H,I',h⟩) hf)
noncomputable def gNil:TGs:=fun vs σ H Q=>vs=[]/\Q σ H
noncomputable def gCons (t:TG)(u:TGs):TGs:=fun vs σ H Q=>∃ v r,vs=v::r/\t v σ H fun σ' H'=>u r σ' H' Q
theorem pgs_nil:PGs X [] gNil:=by
  intro pins s σ H vs us Q I r h
  obtain⟨e,h⟩:=h
  subst e
  cases r
  exact assignInOrder_nil ⟨σ,H,I,h⟩
theorem pgs_cons {e:Expr}{es:List Expr}{t:TG}{u:TGs}(h1:PG X e t)(h2:PGs X es u)
    (hs:(assignEach (e::es) X.env).map (·.2)=assign e X.env::(assignEach es X.env).map (·.2):=by rfl):PGs X (e::es) (gCons t u):=by
  intro pins s σ H vs us Q I r h
  obtain⟨v,vr,e1,h⟩:=h
  subst e1
  cases r with
  | cons r rr=>
    rw [hs]
    refine assignInOrder_cons (thn (h1 pins s σ H _ _ _ I r h) fun _ s1 ⟨σ1,H1,I1,q1⟩=>?_)
    exact h2 pins s1 σ1 H1 _ _ Q I1 rr q1
noncomputable def gTup (K:PySem.W.Frag)(n:Nat)(t:TGs):TG:=fun v σ H Q=>∃ a xs,v=.ref a/\SqT K H a xs/\xs.length=n/\t xs σ H Q
theorem pg_tup {es:List Expr}{k:Nat}{t:TGs}{n:Nat}(hc:X.calm=true)(h:PGs X es t)
    (hn:(assignEach es X.env).length=n:=by rfl) (hst:(assignEach es X.env).findIdx? (·.1)=none:=by rfl):PG X (.Tuple es k pos) (gTup X.K n t):=by
  intro pins s σ H v u Q I r hw
  obtain⟨a,xs,e1,hq,hl,hw⟩:=hw
  subst e1
  cases r
  obtain⟨its,rv,ht,hz⟩:=I.tuple hq
  refine assign_Tuple_tuple (I.ok.hd hc) ht (by simp [hn,← hl,rv.length]) hst fun h' hx=>?_
  have I1:Inv X pins σ H { s with heap:=h' }:=I.kept (t':=s.toks) fun b o e=>hx b o (Nat.ne_of_lt (Heap.lt_size e)) e
  exact h pins _ σ H xs _ Q I1 (by simpa using rv) hw
noncomputable def gSub (to ti:TE)(t:TSet):TG:=fun v σ H Q=>to σ H fun o H1=>ti σ H1 fun i H2=>t o i v H2 fun H3=>Q σ H3
noncomputable def tAsg (te:TE)(g:TG):TS:=fun D σ H=>te σ H fun x H1=>g x σ H1 D.nx
theorem ps_set {i:Nat}{x:Str}{e:Expr}{te:TE}{pos':Pos}(hN:X.N.Nodup)(hi:X.N[i]? = some x)(hx:Loc X.env.scope x)(he:PE X e te)(hs:swapsWith e (some (.Name x pos')) pos.line X.env=pure false:=by rfl) (hf:X.fn x=true\/X.env.scope.names.lookup x=some .local:=by first | exact .inl rfl | exact .inr rfl | assumption) :
    PS X (.Assign [.Name x pos'] e pos) (tAsg te (gName i)):=by
  intro pins s σ H D I h
  refine wpAny_Assign_Name (thn (he pins s σ H _ I h) fun v s1 ⟨y,H1,I1,r1,q1⟩=>?_) hs
  exact store_ok I1 hN hi hx r1 (fun s2 I2=>⟨_,H1,I2,q1⟩) hf
noncomputable def tAug (i:Nat)(te:TE)(ti:TIp):TS:=fun D σ H=>∃ x,σ[i]? = some (some x)/\te σ H fun y H1=>ti x y H1 fun z H2=>D.nx (σ.set i (some z)) H2
noncomputable def ipI (f:Int->Int->Int):TIp:=fun x y H Q=>∃ i j,x=.int i/\y=.int j/\Q (.int (f i j)) H
end
section
variable {X:Cx} {pos:Pos}
noncomputable def tWhile (c:TT)(tb:TS):TS:=fun D σ H=>∃ W:Nat->St->Hp->Prop,(∃ m,W m σ H)/\∀ m σ H,W m σ H ->
  c σ H fun b H1=>if b=true then ∃ N:St->Hp->Prop,(∀ σ' H',N σ' H'->∃ m',m' < m/\W m' σ' H')/\tb { D with nx:=N,ct:=N,bk:=D.nx } σ H1 else D.nx σ H1
end
structure It where
  go:Nat->Hp->Prop
  yld:Nat->Hp->V->Hp->Prop
  stop:Nat->Hp->Prop
def FpOk (X:Cx)(pins:List (Addr×Obj))(H:Hp)(b:Addr):Prop:=
  H b=none/\b≠X.env.locals/\b∉X.fs/\(b∈X.ex\/X.s₀.heap.objs.size<=b)/\(∀ x c,X.env.cells.lookup x=some c->c≠b)/\∀ p∈X.pn++pins,p.1≠b
theorem Inv.fpOk {X:Cx}{pins:List (Addr×Obj)}{σ:St}{H H':Hp}{s:Shared}{b:Addr}(I:Inv X pins σ H s)(hb:s.heap.objs.size<=b)(hn:H' b=none):FpOk X pins H' b:=by
  refine⟨hn,Nat.ne_of_gt (Nat.lt_of_lt_of_le I.lt hb),I.nofs hb,.inr (Nat.le_trans I.sz hb),fun x c e z=>?_,fun p hp z=>?_⟩
  · obtain⟨v,q⟩:=I.cell x c e
    exact absurd (Nat.lt_of_lt_of_le q.lt (by rw [z];exact hb)) (Nat.lt_irrefl _)
  · exact absurd (Nat.lt_of_lt_of_le (Heap.lt_size (I.pin p hp).1) (by rw [z];exact hb)) (Nat.lt_irrefl _)
structure Turn (P:Program)(w:World)(K:PySem.W.Frag)(tg:Expr)(J:It)(fp:List Addr)(it:Addr)(tn:Nat->Heap->Prop):Prop where
  mem:it∈fp
  obj:∀ i h,tn i h->∀ b∈fp,∃ o,h.get? b=some o/\∀ v,o.data≠.cell v
  keep:∀ i h h',tn i h->(∀ b∈fp,∀ o,h.get? b=some o->h'.get? b=some o)->tn i h'
  item:∀ (X:Cx),X.prog=P->X.w=w->X.K=K->X.calm=true->∀ (i:Nat) (pins:List (Addr×Obj)) (s:Shared) (σ:St) (H:Hp) (E:Value->Shared->Prop),Inv X pins σ H s->(∀ b∈fp,FpOk X pins H b)->tn i s.heap->J.go i H ->
    wpAny (model P w) X.A (pyNext (.ref it)) (fun r s1=>∃ u,r=some u /\
      wpAny (model P w) X.A (letOwnedTupleGo tg (.ref it) u) (fun _ s2=>∃ x H',Inv X pins σ H' s2/\RelV x u/\J.yld i H x H'/\tn (i+1) s2.heap/\∀ b∈fp,H' b=none) E s1) E s
  done:∀ (X:Cx),X.prog=P->X.w=w->X.K=K->X.calm=true->∀ (i:Nat) (pins:List (Addr×Obj)) (s:Shared) (σ:St) (H:Hp) (E:Value->Shared->Prop),Inv X pins σ H s->(∀ b∈fp,FpOk X pins H b)->tn i s.heap->J.stop i H ->
    wpAny (model P w) X.A (pyNext (.ref it)) (fun r s1=>r=none/\Inv X pins σ H s1) E s
  self:∀ (A:Around) (i:Nat) (s:Shared) (Q:Value->Shared->Prop) (E:Value->Shared->Prop),tn i s.heap->Q (.ref it) s->wpAny (model P w) A (pyIter (.ref it)) Q E s
noncomputable abbrev TI:=St->Hp->(It->Hp->Prop)->Prop
def PIE (X:Cx)(pins:List (Addr×Obj))(σ:St)(tg:Expr)(R:It->Hp->Prop)(itv:Value)(s2:Shared):Prop:=
  ∃ (it:Addr) (fp:List Addr) (tn:Nat->Heap->Prop) (J:It) (H':Hp),itv=.ref it/\Inv X pins σ H' s2/\Turn X.prog X.w X.K tg J fp it tn/\tn 0 s2.heap/\(∀ b∈fp,FpOk X pins H' b)/\R J H'
def PI (X:Cx)(tg iter:Expr)(wi:TI):Prop:=
  ∀ (pins:List (Addr×Obj)) (s:Shared) (σ:St) (H:Hp) (R:It->Hp->Prop),Inv X pins σ H s->wi σ H R ->
    wpAny (model X.prog X.w) X.A (eval iter X.env) (fun v s1=>wpAny (model X.prog X.w) X.A (pyIter v) (PIE X pins σ tg R) X.xe s1) X.xe s
theorem go_of {M:Model}{A:Around}{E:Value->Shared->Prop}{s:Shared}{tg:Expr}{it:Addr}{u:Value}{o:Obj}{n:String}{vs:Array Value}{Q:Unit->Shared->Prop}(ho:s.heap.get? it=some o)(hc:o.cls=.type n)(hd:o.data=.fields vs)
    (hn:["enumerate","zip","dict_itemiterator","dict_reverseitemiterator","odict_iterator","itertools.zip_longest","itertools.pairwise"].contains n=false) (hQ:Q () s):wpAny M A (letOwnedTupleGo tg (.ref it) u) Q E s:=by
  unfold letOwnedTupleGo
  cases tg<;>first
    | exact wpAny_pure hQ
    | (cases u<;>first
        | exact wpAny_pure hQ
        | (refine wpAny_bind (wpAny_load ho ?_)
           rw [hc,hd]
           show wpAny M A (if (["enumerate","zip","dict_itemiterator","dict_reverseitemiterator","odict_iterator","itertools.zip_longest","itertools.pairwise"].contains n&&vs[0]? == some (rawInt _))=true then _ else _) Q E s
           rw [if_neg (by intro h;rw [hn,Bool.false_and] at h;cases h)]
           exact wpAny_pure hQ))
noncomputable def Itl (K:PySem.W.Frag)(a:Addr):It:=
  ⟨fun i H=>∃ xs x,SqL K H a xs/\xs[i]? = some x,fun i H x H'=>H' = H/\∀ xs,SqL K H a xs->xs[i]? = some x,fun i H=>∃ xs,SqL K H a xs/\xs.length<=i⟩
noncomputable def Itt (K:PySem.W.Frag)(a:Addr):It:=
  ⟨fun i H=>∃ xs x,SqT K H a xs/\xs[i]? = some x,fun i H x H'=>H' = H/\∀ xs,SqT K H a xs->xs[i]? = some x,fun i H=>∃ xs,SqT K H a xs/\xs.length<=i⟩
noncomputable def Itr (lo:Int)(n:Nat):It:=⟨fun i _=>i<n,fun i H x H'=>H' = H/\x=.int (lo+i),fun i _=>n<=i⟩
theorem turn_list {P:Program}{w:World}{K:PySem.W.Frag}{tg:Expr}(a it:Addr):Turn P w K tg (Itl K a) [it] it (fun i h=>h.IsListIter it a i) where
  mem:=by simp
  obj:=fun i h st b hb=>by
    have e:b=it:=by simpa using hb
    subst e
    obtain⟨o,e,c,d⟩:=st
    exact⟨o,e,fun v z=>by rw [d] at z;cases z⟩
  keep:=fun i h h' st k=>st.at fun o e=>k it (by simp) o e
  item:=by
    intro X hP hw hK hc i pins s σ H E I hf st hg
    subst hP hw hK
    obtain⟨xs,x,hq,hx⟩:=hg
    obtain⟨its,rv,p,hz⟩:=I.list hq
    obtain⟨u,hu,ru⟩:=rv.get hx
    obtain⟨f0,f1,f2,f3,f4,f5⟩:=hf it (by simp)
    refine wpAny_pyNext_list_item st p.isList (x:=u) (by simpa using hu) fun h' st' sb=>?_
    have I1:Inv X pins σ H { s with heap:=h' }:=I.turned (t':=s.toks) (fun b o hb e=>(sb.2 b hb).trans e) f0 f1 f3 f4 f5
    obtain⟨o,e,c,d⟩:=id st'
    exact⟨u,rfl,go_of (s:={ s with heap:=h' }) e c d (by decide) ⟨x,H,I1,ru,⟨rfl,fun ys hy=>by rw [I.list_inj hy hq];exact hx⟩,st',fun b hb=>(hf b hb).1⟩⟩
  done:=by
    intro X hP hw hK hc i pins s σ H E I hf st hg
    subst hP hw hK
    obtain⟨xs,hq,hx⟩:=hg
    obtain⟨its,rv,p,hz⟩:=I.list hq
    obtain⟨f0,f1,f2,f3,f4,f5⟩:=hf it (by simp)
    have hl:=rv.length
    exact wpAny_pyNext_list_end (I.ok.hd hc) st p.isList (by simp;lia) fun h' eb=>⟨rfl,I.turned (t':=s.toks) (fun b o hb e=>eb b o hb e) f0 f1 f3 f4 f5⟩
  self:=fun _ _ _ _ _ st h=>wpAny_pyIter_listiter st h
theorem turn_tuple {P:Program}{w:World}{K:PySem.W.Frag}{tg:Expr}(a it:Addr):Turn P w K tg (Itt K a) [it] it (fun i h=>h.IsTupleIter it a i) where
  mem:=by simp
  obj:=fun i h st b hb=>by
    have e:b=it:=by simpa using hb
    subst e
    obtain⟨o,e,c,d⟩:=st
    exact⟨o,e,fun v z=>by rw [d] at z;cases z⟩
  keep:=fun i h h' st k=>st.at fun o e=>k it (by simp) o e
  item:=by
    intro X hP hw hK hc i pins s σ H E I hf st hg
    subst hP hw hK
    obtain⟨xs,x,hq,hx⟩:=hg
    obtain⟨its,rv,p,hz⟩:=I.tuple hq
    obtain⟨u,hu,ru⟩:=rv.get hx
    obtain⟨f0,f1,f2,f3,f4,f5⟩:=hf it (by simp)
    refine wpAny_pyNext_tuple_item st (show s.heap.IsTuple a its.toArray from p) (x:=u) (by simpa using hu) fun h' st' sb=>?_
    have I1:Inv X pins σ H { s with heap:=h' }:=I.turned (t':=s.toks) (fun b o hb e=>(sb.2 b hb).trans e) f0 f1 f3 f4 f5
    obtain⟨o,e,c,d⟩:=id st'
    exact⟨u,rfl,go_of (s:={ s with heap:=h' }) e c d (by decide) ⟨x,H,I1,ru,⟨rfl,fun ys hy=>by rw [I.tuple_inj hy hq];exact hx⟩,st',fun b hb=>(hf b hb).1⟩⟩
  done:=by
    intro X hP hw hK hc i pins s σ H E I hf st hg
    subst hP hw hK
    obtain⟨xs,hq,hx⟩:=hg
    obtain⟨its,rv,p,hz⟩:=I.tuple hq
    obtain⟨f0,f1,f2,f3,f4,f5⟩:=hf it (by simp)
    have hl:=rv.length
    exact wpAny_pyNext_tuple_end (I.ok.hd hc) st (show s.heap.IsTuple a its.toArray from p) (by simp;lia) fun h' eb=>⟨rfl,I.turned (t':=s.toks) (fun b o hb e=>eb b o hb e) f0 f1 f3 f4 f5⟩
  self:=fun _ _ _ _ _ st h=>wpAny_pyIter_tupleiter st h
theorem turn_range {P:Program}{w:World}{K:PySem.W.Frag}{tg:Expr}(it:Addr)(lo:Int)(n:Nat):Turn P w K tg (Itr lo n) [it] it (fun i h=>IsRangeIter h it (lo+(i:Nat) * 1) ((n:Int) - (i:Nat)) 1) where
  mem:=by simp
  obj:=fun i h st b hb=>by
    have e:b=it:=by simpa using hb
    subst e
    exact⟨_,st,fun v z=>by
      have z':Data.fields _=Data.cell v:=z
      cases z'⟩
  keep:=fun i h h' st k=>k it (by simp) _ st
  item:=by
    intro X hP hw hK hc i pins s σ H E I hf st hg
    subst hP hw hK
    obtain⟨f0,f1,f2,f3,f4,f5⟩:=hf it (by simp)
    have W:=Walks.range (prog:=X.prog) (w:=X.w) (I.ok.hd hc) it lo 1 n
    refine W.item i s _ _ hg st fun v h' tk hv st' kk=>?_
    obtain⟨t,rfl⟩:=hv
    have I1:Inv X pins σ H { s with heap:=h',toks:=tk }:=I.turned (fun b o hb e=>kk b o (by simpa using hb) e) f0 f1 f3 f4 f5
    refine⟨_,rfl,go_of (s:={ s with heap:=h',toks:=tk }) (n:="range_iterator") st' rfl rfl (by decide) ⟨.int (lo+i),H,I1,⟨t,?_⟩,⟨rfl,rfl⟩,st',fun b hb=>(hf b hb).1⟩⟩
    rw [Int.mul_one]
  done:=by
    intro X hP hw hK hc i pins s σ H E I hf st hg
    subst hP hw hK
    obtain⟨f0,f1,f2,f3,f4,f5⟩:=hf it (by simp)
    exact wpAny_pyNext_range_end (I.ok.hd hc) st (by have:n<=i:=hg;lia) fun h' eb=>⟨rfl,I.turned (t':=s.toks) (fun b o hb e=>eb b o hb e) f0 f1 f3 f4 f5⟩
  self:=fun _ _ _ _ _ st h=>wpAny_pyIter_rangeiter st h
end L2
namespace L2
open PySem PySem.Spec PyProof.Rows
section
variable {X:Cx} {tg:Expr}
noncomputable def iList (K:PySem.W.Frag)(tl:TE):TI:=fun σ H R=>tl σ H fun x H1=>∃ a,x=.ref a/\(∃ xs,SqL K H1 a xs)/\R (Itl K a) H1
noncomputable def iTup (K:PySem.W.Frag)(tl:TE):TI:=fun σ H R=>tl σ H fun x H1=>∃ a,x=.ref a/\(∃ xs,SqT K H1 a xs)/\R (Itt K a) H1
theorem pi_list {l:Expr}{tl:TE}(hl:PE X l tl):PI X tg l (iList X.K tl):=by
  intro pins s σ H R I h
  refine thn (hl pins s σ H _ I h) fun v s1 ⟨x,H1,I1,r1,q1⟩=>?_
  obtain⟨a,e,⟨xs,hq⟩,q⟩:=q1
  subst e
  cases r1
  obtain⟨its,rv,p,hz⟩:=I1.list hq
  refine wpAny_pyIter_list p.isList ?_
  refine⟨s1.heap.objs.size,[s1.heap.objs.size],_,_,H1,rfl,I1.kept (t':=s1.toks) fun b o e=>Heap.get?_push_of_some _ e,turn_list a _,⟨_,Heap.get?_push_size _ rfl,rfl,rfl⟩,fun b hb=>?_,q⟩
  have e:b=s1.heap.objs.size:=by simpa using hb
  subst e
  exact I1.fpOk (Nat.le_refl _) (I1.hok.fresh (Nat.le_refl _))
theorem pi_tup {l:Expr}{tl:TE}(hl:PE X l tl):PI X tg l (iTup X.K tl):=by
  intro pins s σ H R I h
  refine thn (hl pins s σ H _ I h) fun v s1 ⟨x,H1,I1,r1,q1⟩=>?_
  obtain⟨a,e,⟨xs,hq⟩,q⟩:=q1
  subst e
  cases r1
  obtain⟨its,rv,p,hz⟩:=I1.tuple hq
  refine wpAny_pyIter_tuple (show s1.heap.IsTuple a its.toArray from p) ?_
  refine⟨s1.heap.objs.size,[s1.heap.objs.size],_,_,H1,rfl,I1.kept (t':=s1.toks) fun b o e=>Heap.get?_push_of_some _ e,turn_tuple a _,⟨_,Heap.get?_push_size _ rfl,rfl,rfl⟩,fun b hb=>?_,q⟩
  have e:b=s1.heap.objs.size:=by simpa using hb
  subst e
  exact I1.fpOk (Nat.le_refl _) (I1.hok.fresh (Nat.le_refl _))
theorem range_it {pins:List (Addr×Obj)}{σ:St}{H:Hp}{s:Shared}{R:It->Hp->Prop}{E:Value->Shared->Prop}{lo hi:Int}{t u v:Tok}{tk:Nat}(I:Inv X pins σ H s)(h1:-(2 ^ 62)<=lo)(h2:lo<2 ^ 62)(h3:-(2 ^ 62)<=hi)(h4:hi<2 ^ 62)
    (q:R (Itr lo (hi - lo).toNat) H):wpAny (model X.prog X.w) X.A (pyIter (.ref s.heap.objs.size)) (PIE X pins σ tg R) E { s with heap:=s.heap.push { cls:=.type "range",data:=.fields #[.int lo t,.int hi u,.int 1 v] },toks:=tk }:=by
  refine wpAny_pyIter_range (IsRange.new ..) (small_one h1 h2 h3 h4) ?_
  have I1:Inv X pins σ H { s with heap:=s.heap.push { cls:=.type "range",data:=.fields #[.int lo t,.int hi u,.int 1 v] },toks:=tk }:=I.kept fun b o e=>Heap.get?_push_of_some _ e
  refine⟨(s.heap.push { cls:=.type "range",data:=.fields #[.int lo t,.int hi u,.int 1 v] }).objs.size,[(s.heap.push { cls:=.type "range",data:=.fields #[.int lo t,.int hi u,.int 1 v] }).objs.size],_,_,H,rfl,
    I1.kept (t':=tk) fun b o e=>Heap.get?_push_of_some _ e,turn_range _ lo (hi - lo).toNat,?_,fun b hb=>?_,q⟩
  · have e1:lo+((0:Nat):Int) * 1=lo:=by simp
    have e2:(((hi - lo).toNat:Nat):Int) - ((0:Nat):Int)=Builtin.Range.rangeSize lo hi 1:=by rw [rangeSize_one];split<;>lia
    show IsRangeIter _ _ (lo+((0:Nat):Int) * 1) ((((hi - lo).toNat:Nat):Int) - ((0:Nat):Int)) 1
    rw [e1,e2]
    exact Heap.get?_push_size _ rfl
  · have e:b=(s.heap.push { cls:=.type "range",data:=.fields #[.int lo t,.int hi u,.int 1 v] }).objs.size:=by simpa using hb
    subst e
    exact I1.fpOk (Nat.le_refl _) (I1.hok.fresh (Nat.le_refl _))
noncomputable def iRng1 (ta:TA):TI:=fun σ H R=>ta σ H fun vs H1=>∃ j:Int,vs=[.int j]/\-(2 ^ 62)<=j/\j<2 ^ 62/\R (Itr 0 j.toNat) H1
noncomputable def iRng2 (ta:TA):TI:=fun σ H R=>ta σ H fun vs H1=>∃ i j:Int,vs=[.int i,.int j]/\(-(2 ^ 62)<=i/\i<2 ^ 62/\-(2 ^ 62)<=j/\j<2 ^ 62)/\R (Itr i (j - i).toNat) H1
theorem pi_range1 {a:Expr}{ta:TA}{p pos:Pos}(hg:Gl X "range")(hm:X.mg "range" = none)(ha:PA X [a] ta)(hs:starEach [a] X.env=[(false,eval a X.env)]:=by rfl):PI X tg (.Call (.Name "range" p) [a] [] pos) (iRng1 ta):=by
  intro pins s σ H R I h
  refine Call_ (ld_blt I hg hm boot_range (PyProof.Rows.callWith_type1 (thn (ha pos pins s σ H _ I h) fun us s1 ⟨vs,H1,I1,r1,q1⟩=>?_) hs rfl))
  obtain⟨j,e,q1,q2,q⟩:=q1
  subst e
  cases r1 with
  | cons r rr=>
    cases rr
    obtain⟨t,rfl⟩:=r
    exact call_range_1 (range_it I1 (by lia) (by lia) q1 q2 (by simpa using q))
noncomputable def tFor (wi:TI)(g:TG)(tb:TS):TS:=fun D σ H=>wi σ H fun J H1=>∃ W:Nat->Nat->St->Hp->Prop,(∃ m,W 0 m σ H1)/\∀ i m σ H,W i m σ H ->
  (J.stop i H/\D.nx σ H)\/(J.go i H/\∃ N:St->Hp->Prop,(∀ σ' H',N σ' H'->∃ m',m' < m/\W (i+1) m' σ' H')/\∀ x H',J.yld i H x H'->g x σ H' fun σ2 H2=>tb { D with nx:=N,ct:=N,bk:=D.nx } σ2 H2)
noncomputable def pinsAt (fp:List Addr)(h:Heap):List (Addr×Obj):=fp.filterMap fun b=>(h.get? b).map fun o=>(b,o)
theorem mem_pinsAt {fp:List Addr}{h:Heap}{b:Addr}{o:Obj}(hb:b∈fp)(e:h.get? b=some o):(b,o)∈pinsAt fp h:=List.mem_filterMap.mpr ⟨b,hb,by rw [e];rfl⟩
theorem of_pinsAt {fp:List Addr}{h:Heap}{p:Addr×Obj}(hp:p∈pinsAt fp h):p.1∈fp/\h.get? p.1=some p.2:=by
  obtain⟨b,hb,e⟩:=List.mem_filterMap.mp hp
  cases q:h.get? b with
  | none=>rw [q] at e;cases e
  | some o=>
    rw [q] at e
    have e':(b,o)=p:=Option.some.inj e
    subst e'
    exact⟨hb,q⟩
theorem Inv.pinned {pins:List (Addr×Obj)}{σ:St}{H:Hp}{s:Shared}{fp:List Addr}(I:Inv X pins σ H s)(hf:∀ b∈fp,FpOk X pins H b)(ho:∀ b∈fp,∃ o,s.heap.get? b=some o/\∀ v,o.data≠.cell v):Inv X (pins++pinsAt fp s.heap) σ H s:=
  I.pins_of fun p hp=>(List.mem_append.mp hp).elim (fun z=>I.pin p (List.mem_append_right _ z)) fun z=>by
    obtain⟨hb,e⟩:=of_pinsAt z
    obtain⟨f0,f1,f2,_⟩:=hf p.1 hb
    obtain⟨o,e',d⟩:=ho p.1 hb
    rw [e] at e';cases e'
    exact⟨e,f0,f1,f2,d⟩
theorem Inv.unpinned {pins pl:List (Addr×Obj)}{σ:St}{H:Hp}{s:Shared}(I:Inv X (pins++pl) σ H s):Inv X pins σ H s:=I.pins_of fun p hp=>I.pin p (List.mem_append_right _ (List.mem_append_left _ hp))
theorem ps_for {iter:Expr}{body:List Stmt}{wi:TI}{g:TG}{tb:TS}{pos:Pos}(hp:PassesOwn (model X.prog X.w) X.A X.env X.xe)(hc:X.calm=true)(hi:PI X tg iter wi)(hg:PG X tg g)(hb:PSs X body tb)
    (hs:∀ x,foldedSetIterable iter X.env x=pure x:=by intro _;rfl):PS X (.For tg iter body [] pos) (tFor wi g tb):=by
  intro pins s σ H D I h
  refine wpAny_For (thn (hi pins s σ H _ I h) fun v s1 h1=>thn h1 fun itv s2 h2=>?_) hs
  obtain⟨it,fp,tn,J,H2,e,I2,T,st2,f2,W,⟨m0,w0⟩,turn⟩:=h2
  subst e
  have stat:∀ {H':Hp},(∀ b∈fp,H' b=none)->∀ b∈fp,FpOk X pins H' b:=fun hn b hb=>⟨hn b hb,(f2 b hb).2⟩
  refine codeAny_forLoop_any (fun n s'=>∃ i σ' H',Inv X pins σ' H' s'/\tn i s'.heap/\(∀ b∈fp,H' b=none)/\W i n σ' H') ?_ m0 ⟨0,σ,H2,I2,st2,fun b hb=>(f2 b hb).1,w0⟩
  rintro n s3 ⟨i,σ3,H3,I3,st3,fr3,w3⟩
  rcases turn i n σ3 H3 w3 with⟨stop,qn⟩ | ⟨go,N,hN,step⟩
  · refine wpAny_passesOwn hp (thn (T.done X rfl rfl rfl hc i pins s3 σ3 H3 X.xe I3 (stat fr3) st3 stop) fun r s4 ⟨hr,I4⟩=>?_)
    subst hr
    exact wpAny_execs_nil ⟨σ3,H3,I4,qn⟩
  · refine wpAny_passesOwn hp (thn (T.item X rfl rfl rfl hc i pins s3 σ3 H3 X.xe I3 (stat fr3) st3 go) fun r s4 ⟨u,hr,h4⟩=>?_)
    subst hr
    refine wpAny_passesOwn hp (thn h4 fun _ s5 ⟨x,H5,I5,r5,y5,st5,fr5⟩=>?_)
    have I5':=I5.pinned (stat fr5) (T.obj _ _ st5)
    refine wpAny_passesOwn hp (thn (hg _ s5 σ3 H5 x u _ I5' r5 (step x H5 y5)) fun _ s6 ⟨σ6,H6,I6,q6⟩=>?_)
    refine wpAny_passesOwn hp (thn (hb _ s6 σ6 H6 _ I6 q6) fun f s7 q7=>?_)
    have again:∀ {σ7:St} {H7:Hp},Inv X (pins++pinsAt fp s5.heap) σ7 H7 s7->N σ7 H7->∃ m,m<n/\∃ i σ' H',Inv X pins σ' H' s7/\tn i s7.heap/\(∀ b∈fp,H' b=none)/\W i m σ' H':=fun {σ7 H7} I7 n7=>by
      obtain⟨m',hm,w7⟩:=hN σ7 H7 n7
      refine⟨m',hm,i+1,σ7,H7,I7.unpinned,T.keep _ _ _ st5 fun b hb o e=>(I7.pin (b,o) (List.mem_append_right _ (List.mem_append_right _ (mem_pinsAt hb e)))).1,fun b hb=>?_,w7⟩
      obtain⟨o,e,d⟩:=T.obj _ _ st5 b hb
      exact(I7.pin (b,o) (List.mem_append_right _ (List.mem_append_right _ (mem_pinsAt hb e)))).2.1
    cases f with
    | next=>obtain⟨σ7,H7,I7,n7⟩:=q7;exact again I7 n7
    | cont=>obtain⟨σ7,H7,I7,n7⟩:=q7;exact again I7 n7
    | brk=>obtain⟨σ7,H7,I7,q7⟩:=q7;exact⟨σ7,H7,I7.unpinned,q7⟩
    | ret v=>obtain⟨x7,σ7,H7,I7,r7,q7⟩:=q7;exact⟨x7,σ7,H7,I7.unpinned,r7,q7⟩
end
theorem for_list {K:PySem.W.Frag}{a:Addr}{xs:List V}{g:TG}{tb:TS}{D:Ends}{σ:St}{H:Hp}(Pv:Nat->St->Hp->Prop)(h0:Pv 0 σ H)(hl:∀ i σ H,i<=xs.length->Pv i σ H->SqL K H a xs)
    (hs:∀ i x σ H,xs[i]? = some x->Pv i σ H->g x σ H fun σ2 H2=>tb { D with nx:=Pv (i+1),ct:=Pv (i+1),bk:=D.nx } σ2 H2) (hd:∀ σ H,Pv xs.length σ H->D.nx σ H) :
    ∃ W:Nat->Nat->St->Hp->Prop,(∃ m,W 0 m σ H)/\∀ i m σ H,W i m σ H ->
      ((Itl K a).stop i H/\D.nx σ H)\/((Itl K a).go i H/\∃ N:St->Hp->Prop,(∀ σ' H',N σ' H'->∃ m',m' < m/\W (i+1) m' σ' H')/\∀ x H',(Itl K a).yld i H x H'->g x σ H' fun σ2 H2=>tb { D with nx:=N,ct:=N,bk:=D.nx } σ2 H2):=by
  refine⟨fun i m σ H=>m=xs.length - i/\i<=xs.length/\Pv i σ H,⟨xs.length,by simp,Nat.zero_le _,h0⟩,?_⟩
  rintro i m σ H ⟨rfl,hi,p⟩
  have q:=hl i σ H hi p
  by_cases hlt:i<xs.length
  · refine .inr ⟨⟨xs,xs[i],q,by simp [hlt]⟩,Pv (i+1),fun σ' H' p'=>⟨xs.length - (i+1),by lia,rfl,hlt,p'⟩,fun x H' y=>?_⟩
    obtain⟨e,y⟩:=y
    subst e
    exact hs i x σ _ (y xs q) p
  · have e:i=xs.length:=by lia
    subst e
    exact .inl ⟨⟨xs,q,Nat.le_refl _⟩,hd σ H p⟩
theorem for_tup {K:PySem.W.Frag}{a:Addr}{xs:List V}{g:TG}{tb:TS}{D:Ends}{σ:St}{H:Hp}(Pv:Nat->St->Hp->Prop)(h0:Pv 0 σ H)(hl:∀ i σ H,i<=xs.length->Pv i σ H->SqT K H a xs)
    (hs:∀ i x σ H,xs[i]? = some x->Pv i σ H->g x σ H fun σ2 H2=>tb { D with nx:=Pv (i+1),ct:=Pv (i+1),bk:=D.nx } σ2 H2) (hd:∀ σ H,Pv xs.length σ H->D.nx σ H) :
    ∃ W:Nat->Nat->St->Hp->Prop,(∃ m,W 0 m σ H)/\∀ i m σ H,W i m σ H ->
      ((Itt K a).stop i H/\D.nx σ H)\/((Itt K a).go i H/\∃ N:St->Hp->Prop,(∀ σ' H',N σ' H'->∃ m',m' < m/\W (i+1) m' σ' H')/\∀ x H',(Itt K a).yld i H x H'->g x σ H' fun σ2 H2=>tb { D with nx:=N,ct:=N,bk:=D.nx } σ2 H2):=by
  refine⟨fun i m σ H=>m=xs.length - i/\i<=xs.length/\Pv i σ H,⟨xs.length,by simp,Nat.zero_le _,h0⟩,?_⟩
  rintro i m σ H ⟨rfl,hi,p⟩
  have q:=hl i σ H hi p
  by_cases hlt:i<xs.length
  · refine .inr ⟨⟨xs,xs[i],q,by simp [hlt]⟩,Pv (i+1),fun σ' H' p'=>⟨xs.length - (i+1),by lia,rfl,hlt,p'⟩,fun x H' y=>?_⟩
    obtain⟨e,y⟩:=y
    subst e
    exact hs i x σ _ (y xs q) p
  · have e:i=xs.length:=by lia
    subst e
    exact .inl ⟨⟨xs,q,Nat.le_refl _⟩,hd σ H p⟩
end L2
namespace L2
open PySem PySem.Spec PyProof.Rows
noncomputable abbrev R2:=V->V->Hp->VK->Prop
def OpR (X:Cx)(f:Value->Value->Sem Value)(r:R2):Prop:=
  ∀ (pins:List (Addr×Obj)) (s:Shared) (σ:St) (H:Hp) (x y:V) (v u:Value) (Q:VK),Inv X pins σ H s->RelV x v->RelV y u->r x y H Q ->
    wpAny (model X.prog X.w) X.A (f v u) (EP X pins σ Q) X.xe s
def UnR (X:Cx)(f:Value->Sem Value)(r:V->Hp->VK->Prop):Prop:=
  ∀ (pins:List (Addr×Obj)) (s:Shared) (σ:St) (H:Hp) (x:V) (v:Value) (Q:VK),Inv X pins σ H s->RelV x v->r x H Q ->
    wpAny (model X.prog X.w) X.A (f v) (EP X pins σ Q) X.xe s
def CallR (X:Cx)(f:Value)(r:List V->Hp->VK->Prop):Prop:=
  ∀ (pins:List (Addr×Obj)) (s:Shared) (σ:St) (H:Hp) (xs:List V) (us:List Value) (Q:VK),Inv X pins σ H s->Vals xs us->r xs H Q ->
    wpAny (model X.prog X.w) X.A (call f us) (EP X pins σ Q) X.xe s
def TruR (X:Cx)(r:V->Hp->(Bool->Hp->Prop)->Prop):Prop:=
  ∀ (pins:List (Addr×Obj)) (s:Shared) (σ:St) (H:Hp) (x:V) (v:Value) (Q:Bool->Hp->Prop),Inv X pins σ H s->RelV x v->r x H Q ->
    wpAny (model X.prog X.w) X.A (truthy v) (TP X pins σ Q) X.xe s
noncomputable def tOp (r:R2)(ta tb:TE):TE:=fun σ H Q=>ta σ H fun x H1=>tb σ H1 fun y H2=>r x y H2 Q
noncomputable def tUn (r:V->Hp->VK->Prop)(ta:TE):TE:=fun σ H Q=>ta σ H fun x H1=>r x H1 Q
noncomputable def rI (C:Int->Int->Prop)(g:Int->Int->V):R2:=fun x y H Q=>∃ i j,x=.int i/\y=.int j/\C i j/\Q (g i j) H
noncomputable def rI0 (g:Int->Int->V):R2:=fun x y H Q=>∃ i j,x=.int i/\y=.int j/\Q (g i j) H
noncomputable def rU (g:Int->V):V->Hp->VK->Prop:=fun x H Q=>∃ i,x=.int i/\Q (g i) H
section
variable {X:Cx} {a b c:Expr} {ta tb tc:TE} {pos:Pos}
theorem binT (ha:PE X a ta)(hb:PE X b tb){pins:List (Addr×Obj)}{s:Shared}{σ:St}{H:Hp}{R:V->V->Hp->Prop}(I:Inv X pins σ H s)
    (h:ta σ H fun x H1=>tb σ H1 fun y H2=>R x y H2) {Q:Value->Shared->Prop} {f:Value->Value->Sem Value}
    (hf:∀ v u s2 x y H2,Inv X pins σ H2 s2->RelV x v->RelV y u->R x y H2->wpAny (model X.prog X.w) X.A (f v u) Q X.xe s2) :
    wpAny (model X.prog X.w) X.A (eval a X.env) (fun v s₁=>wpAny (model X.prog X.w) X.A (eval b X.env) (fun u s₂=>wpAny (model X.prog X.w) X.A (f v u) Q X.xe s₂) X.xe s₁) X.xe s:=by
  refine thn (ha pins s σ H _ I h) fun v s1 ⟨x,H1,I1,r1,q1⟩=>?_
  refine thn (hb pins s1 σ H1 _ I1 q1) fun u s2 ⟨y,H2,I2,r2,q2⟩=>?_
  exact hf v u s2 x y H2 I2 r1 r2 q2
theorem pe_op {op:Operator}{r:R2}(ho:OpR X (binaryOp op) r)(ha:PE X a ta)(hb:PE X b tb):PE X (.BinOp a op b pos) (tOp r ta tb):=by
  intro pins s σ H Q I h
  exact wpAny_BinOp (binT ha hb I h fun v u s2 x y H2 I2 rx ry q=>ho pins s2 σ H2 x y v u Q I2 rx ry q)
theorem pe_un {op:UnaryOp}{r:V->Hp->VK->Prop}(ho:UnR X (unaryOp op) r)(ha:PE X a ta):PE X (.UnaryOp op a pos) (tUn r ta):=by
  intro pins s σ H Q I h
  exact UnaryOp_ (thn (ha pins s σ H _ I h) fun v s1 ⟨x,H1,I1,r1,q1⟩=>ho pins s1 σ H1 x v Q I1 r1 q1)
theorem opI {f:Value->Value->Sem Value}{C:Int->Int->Prop}{g:Int->Int->Int}
    (rule:∀ (i j:Int) (t u:Tok) (s:Shared) (Q:Value->Shared->Prop) (E:Value->Shared->Prop),C i j->Q (.int (g i j) s.toks) { s with toks:=s.toks+1 }->wpAny (model X.prog X.w) X.A (f (.int i t) (.int j u)) Q E s) :
    OpR X f (rI C fun i j=>.int (g i j)):=by
  intro pins s σ H x y v u Q I rx ry h
  obtain⟨i,j,rfl,rfl,hc,q⟩:=h
  obtain⟨t,rfl⟩:=rx
  obtain⟨t',rfl⟩:=ry
  exact rule i j t t' s _ _ hc ⟨.int (g i j),H,I.tok _,⟨_,rfl⟩,q⟩
theorem opI0 {f:Value->Value->Sem Value}{g:Int->Int->Int}
    (rule:∀ (i j:Int) (t u:Tok) (s:Shared) (Q:Value->Shared->Prop) (E:Value->Shared->Prop),Q (.int (g i j) s.toks) { s with toks:=s.toks+1 }->wpAny (model X.prog X.w) X.A (f (.int i t) (.int j u)) Q E s) :
    OpR X f (rI0 fun i j=>.int (g i j)):=by
  intro pins s σ H x y v u Q I rx ry h
  obtain⟨i,j,rfl,rfl,q⟩:=h
  obtain⟨t,rfl⟩:=rx
  obtain⟨t',rfl⟩:=ry
  exact rule i j t t' s _ _ ⟨.int (g i j),H,I.tok _,⟨_,rfl⟩,q⟩
theorem opB0 {f:Value->Value->Sem Value}{g:Int->Int->Bool}
    (rule:∀ (i j:Int) (t u:Tok) (s:Shared) (Q:Value->Shared->Prop) (E:Value->Shared->Prop),Q (.bool (g i j)) s->wpAny (model X.prog X.w) X.A (f (.int i t) (.int j u)) Q E s) :
    OpR X f (rI0 fun i j=>.bl (g i j)):=by
  intro pins s σ H x y v u Q I rx ry h
  obtain⟨i,j,rfl,rfl,q⟩:=h
  obtain⟨t,rfl⟩:=rx
  obtain⟨t',rfl⟩:=ry
  exact rule i j t t' s _ _ ⟨.bl (g i j),H,I,rfl,q⟩
def CDiv (i j:Int):Prop:=0<j/\j<1073741824
def CPow (i j:Int):Prop:=0<=j/\j<=1000000/\i.natAbs<2 ^ 64
def CMul (i j:Int):Prop:=(-(2 ^ 64)<i/\i<2 ^ 64)\/(-(2 ^ 64)<j/\j<2 ^ 64)
theorem CMul.ok {i j:Int}(h:CMul i j):IntMulOk i j:=by
  rcases h with⟨h1,h2⟩ | ⟨h1,h2⟩
  · exact .of_left (intBits_le_64 h1 h2)
  · exact .of_right (intBits_le_64 h1 h2)
theorem two_pow_nn (k:Nat):(0:Int)<=2 ^ k:=by
  rw [two_pow_cast]
  exact Int.natCast_nonneg _
theorem op_add:OpR X (binaryOp .Add) (rI0 fun i j=>.int (i+j)):=opI0 fun _ _ _ _ _ _ _ q=>add_int q
theorem op_fdiv:OpR X (binaryOp .FloorDiv) (rI CDiv fun i j=>.int (i / j)):=opI fun i j _ _ _ _ _ hc q=>by
  have h1:(0:Int)<j:=hc.1
  have h2:j<1073741824:=hc.2
  exact floordiv_int (by lia) (by rw [Int.fdiv_eq_ediv_of_nonneg i (by lia)];exact q) (.inl (PyProof.noPylong_small (by lia)))
theorem op_mod:OpR X (binaryOp .Mod) (rI (fun _ j=>0<j) fun i j=>.int (i % j)):=opI fun i j _ _ _ _ _ hc q=>by
  have h1:(0:Int)<j:=hc
  exact mod_int' (by lia) (by rw [Int.fmod_eq_emod_of_nonneg i (by lia)];exact q)
theorem op_pow:OpR X (binaryOp .Pow) (rI CPow fun i j=>.int (i ^ j.toNat)):=opI fun _ _ _ _ _ _ _ hc q=>pow_int_small hc.1 hc.2.1 hc.2.2 q
theorem op_shr:OpR X (binaryOp .RShift) (rI (fun _ j=>0<=j) fun i j=>.int (i / 2 ^ j.toNat)):=opI fun i j _ _ _ _ _ hc q=>
  rshift_int hc (by rw [Int.fdiv_eq_ediv_of_nonneg i (two_pow_nn _)];exact q)
theorem unI {f:Value->Sem Value}{g:Int->Int}
    (rule:∀ (i:Int) (t:Tok) (s:Shared) (Q:Value->Shared->Prop) (E:Value->Shared->Prop),Q (.int (g i) s.toks) { s with toks:=s.toks+1 }->wpAny (model X.prog X.w) X.A (f (.int i t)) Q E s) :
    UnR X f (rU fun i=>.int (g i)):=by
  intro pins s σ H x v Q I rx h
  obtain⟨i,rfl,q⟩:=h
  obtain⟨t,rfl⟩:=rx
  exact rule i t s _ _ ⟨.int (g i),H,I.tok _,⟨_,rfl⟩,q⟩
theorem un_neg:UnR X (unaryOp .USub) (rU fun i=>.int (-i)):=unI fun _ _ _ _ _ q=>neg_int q
end
noncomputable def scal:V->V->Bool
  | .non,.non=>true | .non,.int _=>true | .int _,.non=>true | .non,.bl _=>true | .bl _,.non=>true | .non,.str _=>true | .str _,.non=>true
  | .int _,.int _=>true | .bl _,.bl _=>true | .str _,.str _=>true | .byt _,.byt _=>true
  | .int _,.str _=>true | .str _,.int _=>true | .bl _,.str _=>true | .str _,.bl _=>true
  | _,_=>false
noncomputable def rEq:R2:=fun x y H Q=>scal x y=true/\Q (.bl (decide (x=y))) H
noncomputable def rNe:R2:=fun x y H Q=>scal x y=true/\Q (.bl (!decide (x=y))) H
theorem dec_int {i j:Int}:decide (V.int i=V.int j)=(i == j):=by
  rw [Bool.eq_iff_iff]
  simp
theorem dec_bl {i j:Bool}:decide (V.bl i=V.bl j)=(i == j):=by
  rw [Bool.eq_iff_iff]
  simp
theorem dec_str {i j:Str}:decide (V.str i=V.str j)=(i == j):=by
  rw [Bool.eq_iff_iff]
  simp
theorem dec_byt {i j:Array UInt8}:decide (V.byt i=V.byt j)=(i.toList == j.toList):=by
  rw [Bool.eq_iff_iff]
  cases i
  cases j
  simp
section
variable {X:Cx} {a b c:Expr} {ta tb tc:TE} {pos:Pos}
theorem fin_bl {pins:List (Addr×Obj)}{σ:St}{H:Hp}{s:Shared}{Q:VK}{k k':Bool}(I:Inv X pins σ H s)(q:Q (.bl k) H)(e:k=k'):EP X pins σ Q (.bool k') s:=by
  subst e
  exact⟨.bl k,H,I,rfl,q⟩
theorem op_eq:OpR X (compareOp .Eq) rEq:=by
  intro pins s σ H x y v u Q I rx ry h
  obtain⟨hs,q⟩:=h
  cases x with
  | non=>
    cases rx
    cases y with
    | non=>cases ry;exact PySem.EqNone.eq_none_none (fin_bl I q (by simp))
    | bl j=>cases ry;exact PySem.EqNone.eq_none_bool (fin_bl I q (by simp))
    | int j=>obtain⟨t',rfl⟩:=ry;exact PySem.EqNone.eq_none_int (fin_bl I q (by simp))
    | str j=>obtain⟨t',rfl⟩:=ry;exact PySem.EqNone.eq_none_str (fin_bl I q (by simp))
    | _=>exact absurd (show false=true from hs) Bool.false_ne_true
  | bl i=>
    cases rx
    cases y with
    | non=>cases ry;exact PySem.EqNone.eq_bool_none (fin_bl I q (by simp))
    | bl j=>cases ry;exact eq_bool (fin_bl I q dec_bl)
    | str j=>obtain⟨t',rfl⟩:=ry;exact PySem.EqMixed.eq_bool_str (fin_bl I q (by simp))
    | _=>exact absurd (show false=true from hs) Bool.false_ne_true
  | int i=>
    obtain⟨t,rfl⟩:=rx
    cases y with
    | non=>cases ry;exact PySem.EqNone.eq_int_none (fin_bl I q (by simp))
    | int j=>obtain⟨t',rfl⟩:=ry;exact eq_int (fin_bl I q dec_int)
    | str j=>obtain⟨t',rfl⟩:=ry;exact PySem.EqMixed.eq_int_str (fin_bl I q (by simp))
    | _=>exact absurd (show false=true from hs) Bool.false_ne_true
  | str i=>
    obtain⟨t,rfl⟩:=rx
    cases y with
    | non=>cases ry;exact PySem.EqNone.eq_str_none (fin_bl I q (by simp))
    | bl j=>cases ry;exact PySem.EqMixed.eq_str_bool (fin_bl I q (by simp))
    | int j=>obtain⟨t',rfl⟩:=ry;exact PySem.EqMixed.eq_str_int (fin_bl I q (by simp))
    | str j=>obtain⟨t',rfl⟩:=ry;exact eq_str (fin_bl I q dec_str)
    | _=>exact absurd (show false=true from hs) Bool.false_ne_true
  | byt i=>
    obtain⟨t,rfl⟩:=rx
    cases y with
    | byt j=>obtain⟨t',rfl⟩:=ry;exact PySem.W.eq_bytes (fin_bl I q dec_byt)
    | _=>exact absurd (show false=true from hs) Bool.false_ne_true
  | _=>cases y<;>exact absurd (show false=true from hs) Bool.false_ne_true
theorem op_ne:OpR X (compareOp .NotEq) rNe:=by
  intro pins s σ H x y v u Q I rx ry h
  obtain⟨hs,q⟩:=h
  cases x with
  | non=>
    cases rx
    cases y with
    | non=>cases ry;exact PySem.EqNone.ne_none_none (fin_bl I q (by simp))
    | bl j=>cases ry;exact PySem.EqNone.ne_none_bool (fin_bl I q (by simp))
    | int j=>obtain⟨t',rfl⟩:=ry;exact PySem.EqNone.ne_none_int (fin_bl I q (by simp))
    | str j=>obtain⟨t',rfl⟩:=ry;exact PySem.EqNone.ne_none_str (fin_bl I q (by simp))
    | _=>exact absurd (show false=true from hs) Bool.false_ne_true
  | bl i=>
    cases rx
    cases y with
    | non=>cases ry;exact PySem.EqNone.ne_bool_none (fin_bl I q (by simp))
    | bl j=>cases ry;exact ne_bool (fin_bl I q (congrArg not dec_bl))
    | str j=>obtain⟨t',rfl⟩:=ry;exact PySem.EqMixed.ne_bool_str (fin_bl I q (by simp))
    | _=>exact absurd (show false=true from hs) Bool.false_ne_true
  | int i=>
    obtain⟨t,rfl⟩:=rx
    cases y with
    | non=>cases ry;exact PySem.EqNone.ne_int_none (fin_bl I q (by simp))
    | int j=>obtain⟨t',rfl⟩:=ry;exact ne_int (fin_bl I q (congrArg not dec_int))
    | str j=>obtain⟨t',rfl⟩:=ry;exact PySem.EqMixed.ne_int_str (fin_bl I q (by simp))
    | _=>exact absurd (show false=true from hs) Bool.false_ne_true
  | str i=>
    obtain⟨t,rfl⟩:=rx
    cases y with
    | non=>cases ry;exact PySem.EqNone.ne_str_none (fin_bl I q (by simp))
    | bl j=>cases ry;exact PySem.EqMixed.ne_str_bool (fin_bl I q (by simp))
    | int j=>obtain⟨t',rfl⟩:=ry;exact PySem.EqMixed.ne_str_int (fin_bl I q (by simp))
    | str j=>obtain⟨t',rfl⟩:=ry;exact ne_str (fin_bl I q (congrArg not dec_str))
    | _=>exact absurd (show false=true from hs) Bool.false_ne_true
  | byt i=>
    obtain⟨t,rfl⟩:=rx
    cases y with
    | byt j=>obtain⟨t',rfl⟩:=ry;exact PySem.W.ne_bytes (fin_bl I q (congrArg not dec_byt))
    | _=>exact absurd (show false=true from hs) Bool.false_ne_true
  | _=>cases y<;>exact absurd (show false=true from hs) Bool.false_ne_true
theorem op_lt:OpR X (compareOp .Lt) (rI0 fun i j=>.bl (decide (i<j))):=opB0 fun _ _ _ _ _ _ _ q=>lt_int q
theorem op_gt:OpR X (compareOp .Gt) (rI0 fun i j=>.bl (decide (j<i))):=opB0 fun _ _ _ _ _ _ _ q=>gt_int q
theorem op_in_str:OpR X (compareOp .In) (fun x y H Q=>∃ i j,x=.str i/\y=.str j/\Q (.bl (!(Builtin.Str.occurrences j i 0 j.length 1).isEmpty)) H):=by
  intro pins s σ H x y v u Q I rx ry h
  obtain⟨i,j,rfl,rfl,q⟩:=h
  obtain⟨t,rfl⟩:=rx
  obtain⟨t',rfl⟩:=ry
  exact in_str (fin_bl I q rfl)
theorem op_isN:OpR X (compareOp .Is) (fun x y H Q=>y=.non/\Q (.bl (decide (x=.non))) H):=by
  intro pins s σ H x y v u Q I rx ry h
  obtain⟨rfl,q⟩:=h
  cases ry
  refine is_none_gen (fin_bl I q ?_)
  cases x<;>first
    | (cases rx;rfl)
    | (obtain⟨t,rfl⟩:=rx;rfl)
theorem op_notN:OpR X (compareOp .IsNot) (fun x y H Q=>y=.non/\Q (.bl (!decide (x=.non))) H):=by
  intro pins s σ H x y v u Q I rx ry h
  obtain⟨rfl,q⟩:=h
  cases ry
  refine isnot_none_gen (fin_bl I q ?_)
  cases x<;>first
    | (cases rx;rfl)
    | (obtain⟨t,rfl⟩:=rx;rfl)
theorem op_notin_str:OpR X (compareOp .NotIn) (fun x y H Q=>∃ i j,x=.str i/\y=.str j/\Q (.bl (!(!(Builtin.Str.occurrences j i 0 j.length 1).isEmpty))) H):=by
  intro pins s σ H x y v u Q I rx ry h
  obtain⟨i,j,rfl,rfl,q⟩:=h
  obtain⟨t,rfl⟩:=rx
  obtain⟨t',rfl⟩:=ry
  exact notIn_str (fin_bl I q rfl)
theorem OpR.or {f:Value->Value->Sem Value}{r r':R2}(h:OpR X f r)(h':OpR X f r'):OpR X f (fun x y H Q=>r x y H Q\/r' x y H Q):=by
  intro pins s σ H x y v u Q I rx ry q
  rcases q with q | q
  · exact h pins s σ H x y v u Q I rx ry q
  · exact h' pins s σ H x y v u Q I rx ry q
theorem nomark (b:Expr){op:CmpOp}(h:op≠.In:=by decide) (h2:op≠.NotIn:=by decide):behindInMarks op b=false:=by
  have e1:(op == CmpOp.In)=false:=by cases op<;>first | rfl | exact absurd rfl h
  have e2:(op == CmpOp.NotIn)=false:=by cases op<;>first | rfl | exact absurd rfl h2
  cases b<;>simp [behindInMarks,e1,e2]
theorem pe_cmpR {op:CmpOp}{r:R2}(ho:OpR X (compareOp op) r)(ha:PE X a ta)(hb:PE X b tb)(hm:behindInMarks op b=false):PE X (.Compare a [op] [b] pos) (tOp r ta tb):=by
  intro pins s σ H Q I h
  exact wpAny_Compare1 (binT ha hb I h fun v u s2 x y H2 I2 rx ry q=>ho pins s2 σ H2 x y v u Q I2 rx ry q) hm
noncomputable def tTest (t:TE):TT:=fun σ H Q=>t σ H fun x H'=>∃ k,x=.bl k/\Q k H'
theorem pt_cmpR {op:CmpOp}{r:R2}(ho:OpR X (compareOp op) r)(ha:PE X a ta)(hb:PE X b tb)(hm:behindInMarks op b=false):PT X (.Compare a [op] [b] pos) (tTest (tOp r ta tb)):=by
  intro pins s σ H Q I h
  refine wpAny_isTrue_Compare1 (thn (ha pins s σ H _ I h) fun v s1 ⟨x,H1,I1,r1,q1⟩=>thn (hb pins s1 σ H1 _ I1 q1) fun u s2 ⟨y,H2,I2,r2,q2⟩=>
    thn (ho pins s2 σ H2 x y v u _ I2 r1 r2 q2) fun c s3 ⟨z,H3,I3,r3,k,e,q3⟩=>?_) hm
  subst e
  cases r3
  exact wpAny_truthy_bool ⟨H3,I3,q3⟩
noncomputable def tChain (r r':R2)(ta tb tc:TE):TE:=fun σ H Q=>ta σ H fun x H1=>tb σ H1 fun y H2=>r x y H2 fun z H3=>∃ k,z=.bl k /\
  (if k=true then tc σ H3 fun w' H4=>r' y w' H4 Q else Q (.bl false) H3)
def TruV (K:PySem.W.Frag)(x:V)(H:Hp)(k:Bool):Prop:=
  match x with
  | .non=>k=false
  | .bl b=>k=b
  | .int i=>k=(i != 0)
  | .str y=>y.length<=sizeLine/\k=((y.length:Int) != 0)
  | .byt y=>y.size<=sizeLine/\k=((y.size:Int) != 0)
  | .ref p=>(∃ xs,SqL K H p xs/\k = !xs.isEmpty)\/(∃ xs,SqT K H p xs/\k = !xs.isEmpty)\/∃ kvs,H p=some (.dK kvs)/\k = !kvs.isEmpty
  | _=>False
theorem isEmpty_kv {κ:Type}{kvs:List (κ×V)}{vs:List (κ×Value)}(r:KV kvs vs):(!vs.isEmpty) = !kvs.isEmpty:=by
  cases r<;>rfl
theorem isEmpty_of {xs:List V}{its:List Value}(r:Vals xs its):(!its.toArray.isEmpty) = !xs.isEmpty:=by
  cases r<;>simp
theorem line63:(sizeLine:Nat)<2 ^ 63:=by rw [sizeLine_eq];decide
theorem tru_ok:TruR X (fun x H Q=>∃ k,TruV X.K x H k/\Q k H):=by
  intro pins s σ H x v Q I rx h
  obtain⟨k,e,q⟩:=h
  have hl:=line63
  have hs:sizeLine=16777216:=sizeLine_eq
  cases x with
  | non=>
    cases rx
    have e':k=false:=e
    subst e'
    exact truthy_none ⟨H,I,q⟩
  | bl b=>
    cases rx
    have e':k=b:=e
    subst e'
    exact wpAny_truthy_bool ⟨H,I,q⟩
  | int i=>
    obtain⟨t,rfl⟩:=rx
    have e':k=(i != 0):=e
    subst e'
    exact PySem.P.truthy_int ⟨H,I,q⟩
  | str y=>
    obtain⟨t,rfl⟩:=rx
    obtain⟨hy,e'⟩:y.length<=sizeLine/\k=((y.length:Int) != 0):=e
    subst e'
    exact PySem.P.truthy_str (by lia) ⟨H,I.tok _,q⟩
  | byt y=>
    obtain⟨t,rfl⟩:=rx
    obtain⟨hy,e'⟩:y.size<=sizeLine/\k=((y.size:Int) != 0):=e
    subst e'
    exact PySem.W.truthy_bytes (by lia) ⟨H,I.tok _,q⟩
  | ref p=>
    cases rx
    have e':(∃ xs,SqL X.K H p xs/\k = !xs.isEmpty)\/(∃ xs,SqT X.K H p xs/\k = !xs.isEmpty)\/∃ kvs,H p=some (.dK kvs)/\k = !kvs.isEmpty:=e
    rcases e' with⟨xs,hx,e'⟩ | ⟨xs,hx,e'⟩ | ⟨kvs,hx,e'⟩
    · subst e'
      obtain⟨its,r,pl,hz⟩:=I.list hx
      have hlen:=r.length
      exact wpAny_truthy_list pl.isList (by simp only [List.size_toArray];lia) ⟨H,I.tok _,by rw [isEmpty_of r];exact q⟩
    · subst e'
      obtain⟨its,r,pl,hz⟩:=I.tuple hx
      have hlen:=r.length
      exact truthy_tuple pl (by simp only [List.size_toArray];lia) ⟨H,I.tok _,by rw [isEmpty_of r];exact q⟩
    · subst e'
      obtain⟨hz,hS,vs,r,m⟩:kvs.length<=sizeLine/\(p == sysModules)=false/\∃ vs,KV kvs vs/\s.heap.DictOf (mixKind X.prog X.w) p vs:=I.hok p _ hx
      have hlen:kvs.length=vs.length:=Paired.length r
      exact wpAny_truthy_dict hS m (by lia) ⟨H,I.tok _,by rw [isEmpty_kv r];exact q⟩
  | _=>exact(show False from e).elim
theorem pt_truth (ha:PE X a ta)(he:∀ whole,isTrue a X.env whole=(do let v ← whole;standAt a.pos;holding [v] (truthy v))) :
    PT X a (fun σ H Q=>ta σ H fun x H'=>∃ k,TruV X.K x H' k/\Q k H'):=by
  intro pins s σ H Q I h
  exact isTrue_plain (thn (ha pins s σ H _ I h) fun v s1 ⟨x,H1,I1,r1,q1⟩=>tru_ok pins s1 σ H1 x v Q I1 r1 q1) (he _)
theorem op_add_str:OpR X (binaryOp .Add) (fun x y H Q=>∃ i j,x=.str i/\y=.str j/\i.length+j.length<=sizeLine/\Q (.str (i++j)) H):=by
  intro pins s σ H x y v u Q I rx ry h
  obtain⟨i,j,rfl,rfl,hz,q⟩:=h
  obtain⟨t,rfl⟩:=rx
  obtain⟨t',rfl⟩:=ry
  exact add_str (fun t' tk=>⟨.str (i++j),H,I.tok _,⟨_,rfl⟩,q⟩) hz
theorem vals1 {x:V}{us:List Value}(r:Vals [x] us):∃ u,us=[u]/\RelV x u:=by
  cases r with
  | cons r1 r2=>cases r2;exact⟨_,rfl,r1⟩
theorem vals2 {x y:V}{us:List Value}(r:Vals [x,y] us):∃ u w',us=[u,w']/\RelV x u/\RelV y w':=by
  cases r with
  | cons r1 r2=>
    cases r2 with
    | cons r3 r4=>cases r4;exact⟨_,_,rfl,r1,r3⟩
theorem call_max2 (hc:X.calm=true):CallR X (.builtin "max") (fun xs H Q=>∃ i j,xs=[.int i,.int j]/\Q (.int (if j > i then j else i)) H):=by
  intro pins s σ H xs us Q I r h
  obtain⟨i,j,rfl,q⟩:=h
  obtain⟨u,w',rfl,⟨t,rfl⟩,⟨t',rfl⟩⟩:=vals2 r
  refine max_two_ints (I.ok.hd hc) fun h' tk k=>⟨_,H,I.kept k,?_,q⟩
  by_cases hj:j > i
  · rw [if_pos hj,if_pos hj];exact⟨_,rfl⟩
  · rw [if_neg hj,if_neg hj];exact⟨_,rfl⟩
theorem call_min2 (hc:X.calm=true):CallR X (.builtin "min") (fun xs H Q=>∃ i j,xs=[.int i,.int j]/\Q (.int (if j<i then j else i)) H):=by
  intro pins s σ H xs us Q I r h
  obtain⟨i,j,rfl,q⟩:=h
  obtain⟨u,w',rfl,⟨t,rfl⟩,⟨t',rfl⟩⟩:=vals2 r
  refine min_two_ints (I.ok.hd hc) fun h' tk k=>⟨_,H,I.kept k,?_,q⟩
  by_cases hj:j<i
  · rw [if_pos hj,if_pos hj];exact⟨_,rfl⟩
  · rw [if_neg hj,if_neg hj];exact⟨_,rfl⟩
theorem call_int1:CallR X (.type "int") (fun xs H Q=>(∃ i,xs=[.int i]/\Q (.int i) H)\/∃ k,xs=[.bl k]/\Q (.int (if k then 1 else 0)) H):=by
  intro pins s σ H xs us Q I r h
  rcases h with⟨i,rfl,q⟩ | ⟨k,rfl,q⟩
  · obtain⟨u,rfl,t,rfl⟩:=vals1 r
    exact call_int_int ⟨.int i,H,I,⟨_,rfl⟩,q⟩
  · obtain⟨u,rfl,r1⟩:=vals1 r
    cases r1
    exact call_int_bool ⟨.int (if k then 1 else 0),H,I.tok _,⟨_,rfl⟩,q⟩
end
end L2
namespace L2
open PySem PySem.Spec PyProof.Rows
structure ObjM (h:Heap)(x dx C:Addr)(mA:Str->Option Value):Prop where
  obj:h.get? x=some (PySem.W.instObj C dx)
  ns:h.Ns1 dx mA
  ne:dx≠x
theorem lookIn_ns {h:Heap}{dx:Addr}{mA:Str->Option Value}(n:h.Ns1 dx mA):∃ od,h.get? dx=some od/\∀ name,PySem.W.lookIn name od=some (mA name):=by
  obtain⟨o,es,ep,ho,hd,hk,_,hm⟩:=n
  refine⟨o,ho,fun name=>?_⟩
  have e:=hm name
  unfold nsFind findBy at e
  rw [← Array.find?_toList] at e
  unfold PySem.W.lookIn
  rw [hd]
  dsimp only
  split
  · rename_i y q
    rw [q] at e
    exact congrArg some e
  · rename_i q
    rw [q] at e
    have a:es.toList.any (·.refKey)=false:=by
      rw [List.any_eq_false]
      intro y hy
      obtain⟨z,t,hkey⟩:=hk y (Array.mem_toList_iff.mp hy)
      simp [DictEntry.refKey,hkey]
    have a':¬ es.toList.any (·.refKey)=true:=by rw [a];exact Bool.false_ne_true
    rw [if_neg a']
    exact congrArg some e
theorem ObjM.look {h:Heap}{x dx C:Addr}{mA:Str->Option Value}(I:ObjM h x dx C mA):∃ od,PySem.W.InstAt h x (PySem.W.instObj C dx) C (some od)/\∀ name,PySem.W.lookIn name od=some (mA name):=
  let ⟨od,ho,hl⟩:=lookIn_ns I.ns
  ⟨od,⟨I.obj,rfl,rfl,ho⟩,hl⟩
section
variable {prog:Program} {w:World} {A:Around} {E:Value->Shared->Prop} {s:Shared} {K:PySem.W.Frag} {x dx C f:Addr} {mA:Str->Option Value} {name:Str} {v:Value}
theorem get_map {expr:Bool}{Q:Value->Shared->Prop}(X:K.In s.heap)(I:ObjM s.heap x dx C mA)(hg:PySem.W.plainGet K C name=true)(hh:PySem.W.hasDictIn K C=true)
    (ha:PySem.W.findIn K (.ref C) name=some none) (hv:mA name=some v) (hv':PySem.W.handedIn v=true) (h:Q v { s with toks:=s.toks+1 }) :
    wpAny (model prog w) A (getAttr (.ref x) name expr) Q E s:=by
  obtain⟨od,J,hl⟩:=I.look
  exact PySem.W.get_value X J (PySem.W.plainGet_of hg).1 (PySem.W.findObj_own hh ha rfl (by rw [hl,hv])) hv' h
theorem get_meth {pl:Sem Bool}{Q:Value×List Value->Shared->Prop}(X:K.In s.heap)(I:ObjM s.heap x dx C mA)(hg:PySem.W.plainGet K C name=true)
    (hf:PySem.W.findIn K (.ref C) name=some (some (.ref f))) (ht:PySem.W.isFn K (.ref f)=true) (hv:mA name=none) (h:Q (.ref f,[.ref x]) s) :
    wpAny (model prog w) A (getMethod (.ref x) name pl) Q E s:=by
  obtain⟨od,J,hl⟩:=I.look
  exact PySem.W.method_fn X J (PySem.W.plainGet_of hg).1 (PySem.W.plainGet_of hg).2 hf (beq_iff_eq.mp ht) (by show(PySem.W.lookIn name od).map (·.isSome)=some false;rw [hl,hv];rfl) h
theorem set_map {ns:List Str}{Q:Unit->Shared->Prop}(X:K.In s.heap)(I:ObjM s.heap x dx C mA)
    (hs:PySem.W.findIn K (.ref C) "__setattr__" = some (some (.builtin "object.__setattr__"))) (hp:PySem.W.plainOver K C=true) (ht:PySem.W.takerIn K C name=some none) (hh:PySem.W.hasDictIn K C=true)
    (hw:PySem.Within mA ns) (hsz:ns.length<=sizeLine)
    (h:∀ h',ObjM h' x dx C (fun y=>if y=name then some v else mA y)->Heap.SameBut dx s.heap h'->Q () { s with heap:=h',toks:=s.toks+2 }) :
    wpAny (model prog w) A (setAttr (.ref x) name v) Q E s:=by
  obtain⟨od,J,hl⟩:=I.look
  refine PySem.W.set_plain X J hs (PySem.W.osa_open (s:={ s with toks:=s.toks+1 }) (r:=none) X J hp ht fun b=>?_)
  obtain⟨cd,hc,hd'⟩:=PySem.W.any_some hh
  have hx:s.heap.get? x=some ⟨.ref C,some dx,.plain,#[]⟩:=I.obj
  refine wpAny_bind (wpAny_pure (wpAny_bind (wpAny_bind (wpAny_loadPart hx (wpAny_bind (PySem.W.Looks.here (s:={ s with toks:=s.toks+1 }) (PySem.W.looks_clsIn X hc) ?_))))))
  rw [hd']
  refine wpAny_pure (a:=some dx) (wpAny_bind (wpAny_pure (wpAny_bind ?_)))
  refine wpAny_nsSet1 (s:={ s with toks:=s.toks+1 }) I.ns fun h' hn2 hs2=>?_
  obtain⟨oD,esD,epD,hoD,hdD,hcD⟩:=hn2.count (PySem.Within.cons name v hw)
  refine wpAny_bind (wpAny_lookBehind hoD (by rw [hdD];exact pastItsLine_dict (Nat.le_trans hcD (by rw [List.length_cons];lia))) ?_)
  exact wpAny_pure (h _ ⟨(hs2.2 _ (Ne.symm I.ne)).trans I.obj,hn2,I.ne⟩ hs2)
theorem make_map {R:Result->Shared->Prop}{vs:List Value}{kw:List (Str×Value)}(X:K.In s.heap)(hm:PySem.W.makesIn K C=true)
    (hi:PySem.W.findIn K (.ref C) "__init__" = some (some (.ref f))) (hf:PySem.W.typeIn K (.ref f)=some (.type "function"))
    (h:codeAny (model prog w) (A.under (.builtin "type.__call__" ⟨.ref C::vs,kw⟩)) (.call (.ref f) ⟨.ref (s.heap.objs.size+1)::vs,kw⟩) (PySem.W.InitBack (s.heap.objs.size+1) R)
      { s with heap:=(s.heap.push PySem.W.emptyDict).push (PySem.W.instObj C s.heap.objs.size) }) :
    codeAny (model prog w) A (.call (.ref C) ⟨vs,kw⟩) R s:=by
  obtain⟨hh,g,d,t,os⟩:=s
  exact PySem.W.make_core (PySem.W.makes_of X hm) (PySem.W.looks_findIn X hi) (fun self=>PySem.W.bind_fn X self hf) (.inl rfl) h
end
noncomputable def putF (f:Str)(v:V):List (Str×V)->List (Str×V)
  | []=>[(f,v)]
  | (g,x)::r=>if g=f then(g,v)::r else(g,x)::putF f v r
theorem lookup_putF (f g:Str)(v:V):∀ fs:List (Str×V),(putF f v fs).lookup g=if g=f then some v else fs.lookup g
  | []=>by
    show List.lookup g [(f,v)]=_
    by_cases h:g=f
    · have hb:(g == f)=true:=beq_iff_eq.mpr h
      simp only [List.lookup,hb,if_pos h]
    · have hb:(g == f)=false:=beq_eq_false_iff_ne.mpr h
      simp only [List.lookup,hb,if_neg h]
  | (k,x)::r=>by
    have ih:=lookup_putF f g v r
    rw [show putF f v ((k,x)::r)=(if k=f then(k,v)::r else(k,x)::putF f v r) from rfl]
    by_cases hk:k=f
    · rw [if_pos hk]
      by_cases h:g=k
      · have hb:(g == k)=true:=beq_iff_eq.mpr h
        simp only [List.lookup,hb,if_pos (h.trans hk)]
      · have hb:(g == k)=false:=beq_eq_false_iff_ne.mpr h
        simp only [List.lookup,hb,if_neg (fun e:g=f=>h (e.trans hk.symm))]
    · rw [if_neg hk]
      by_cases h:g=k
      · have hb:(g == k)=true:=beq_iff_eq.mpr h
        simp only [List.lookup,hb,if_neg (fun e:g=f=>hk (h.symm.trans e))]
      · have hb:(g == k)=false:=beq_eq_false_iff_ne.mpr h
        simp only [List.lookup,hb]
        exact ih
theorem keys_putF (f:Str)(v:V):∀ fs:List (Str×V),f∈(putF f v fs).map (·.1)/\∀ g,g∈fs.map (·.1)->g∈(putF f v fs).map (·.1)
  | []=>⟨by simp [putF],fun g h=>by simp at h⟩
  | (k,x)::r=>by
    obtain⟨i1,i2⟩:=keys_putF f v r
    rw [show putF f v ((k,x)::r)=(if k=f then(k,v)::r else(k,x)::putF f v r) from rfl]
    by_cases hk:k=f
    · rw [if_pos hk]
      subst hk
      exact⟨by simp,fun g h=>by simpa using h⟩
    · rw [if_neg hk]
      refine⟨?_,fun g h=>?_⟩
      · rw [List.map_cons]
        exact List.mem_cons_of_mem _ i1
      · rw [List.map_cons] at h ⊢
        rcases List.mem_cons.mp h with e | e
        · exact List.mem_cons.mpr (.inl e)
        · exact List.mem_cons_of_mem _ (i2 g e)
theorem length_putF (f:Str)(v:V):∀ fs:List (Str×V),(putF f v fs).length<=fs.length+1
  | []=>by simp [putF]
  | (k,x)::r=>by
    have ih:=length_putF f v r
    rw [show putF f v ((k,x)::r)=(if k=f then(k,v)::r else(k,x)::putF f v r) from rfl]
    by_cases hk:k=f
    · rw [if_pos hk,List.length_cons,List.length_cons];lia
    · rw [if_neg hk,List.length_cons,List.length_cons];lia
theorem RelO.some_of {v:V}{o:Option Value}(r:RelO (some v) o):∃ u,o=some u/\RelV v u:=by
  cases o with
  | none=>exact(show False from r).elim
  | some u=>exact⟨u,rfl,r⟩
theorem RelO.none_of {o:Option Value}(r:RelO none o):o=none:=by
  cases o with
  | none=>rfl
  | some u=>exact(show False from r).elim
theorem handed_of {v:V}{u:Value}(r:RelV v u):PySem.W.handedIn u=true:=by
  cases v with
  | non=>cases (show u=Value.none from r);rfl
  | bl b=>cases (show u=Value.bool b from r);rfl
  | int i=>obtain⟨t,e⟩:=(show ∃ t,u=Value.int i t from r);cases e;rfl
  | str x=>obtain⟨t,e⟩:=(show ∃ t,u=Value.str x t from r);cases e;rfl
  | byt b=>obtain⟨t,e⟩:=(show ∃ t,u=Value.bytes b t from r);cases e;rfl
  | flt b=>obtain⟨t,e⟩:=(show ∃ t,u=Value.float b t from r);cases e;rfl
  | ref a=>cases (show u=Value.ref a from r);rfl
  | ty n=>cases (show u=Value.type n from r);rfl
section
variable {P:Program} {w:World} {H H':Hp} {h h':Heap} {a C dx:Addr} {fs fs':List (Str×V)}
theorem ins_get (hok:HOk P w H h)(e:H a=some (.ins C dx fs)):∃ mA,ObjM h a dx C mA/\(∀ f,RelO (fs.lookup f) (mA f))/\PySem.Within mA (fs.map (·.1))/\fs.length<=1000/\H dx=some (.own a):=by
  obtain⟨d,z,ne,ob,mA,n,r,q⟩:=(show ObjOk P w H h a (.ins C dx fs) from hok a _ e)
  exact⟨mA,⟨ob,n,ne⟩,r,q,z,d⟩
end
structure Cls (K:PySem.W.Frag)(C:Addr):Prop where
  pg:PySem.W.plainGet K C Str.empty=true
  hd:PySem.W.hasDictIn K C=true
  po:PySem.W.plainOver K C=true
  sa:PySem.W.findIn K (.ref C) "__setattr__" = some (some (.builtin "object.__setattr__"))
theorem Cls.get {K:PySem.W.Frag}{C:Addr}(c:Cls K C)(f:Str):PySem.W.plainGet K C f=true:=c.pg
def NoAttr (K:PySem.W.Frag)(C:Addr)(f:Str):Prop:=PySem.W.findIn K (.ref C) f=some none
theorem NoAttr.taker {K:PySem.W.Frag}{C:Addr}{f:Str}(n:NoAttr K C f):PySem.W.takerIn K C f=some none:=by
  unfold PySem.W.takerIn
  rw [show PySem.W.findIn K (.ref C) f=some none from n]
  rfl
structure Meth (K:PySem.W.Frag)(C:Addr)(m:Str)(f:Addr):Prop where
  at_:PySem.W.findIn K (.ref C) m=some (some (.ref f))
  fn:PySem.W.isFn K (.ref f)=true
  kp:PySem.W.keepIn K (.ref f)=true
section
variable {X:Cx} {pins:List (Addr×Obj)} {σ:St} {H:Hp} {s:Shared} {a C dx:Addr} {fs:List (Str×V)} {f:Str} {v:V} {A:Around} {E:Value->Shared->Prop}
theorem getattr_ok {b:Bool}{Q:Value->Shared->Prop}(I:Inv X pins σ H s)(e:H a=some (.ins C dx fs))(c:Cls X.K C)(n:NoAttr X.K C f)(l:fs.lookup f=some v)
    (h:∀ u s',Inv X pins σ H s'->RelV v u->Q u s'):wpAny (model X.prog X.w) A (getAttr (.ref a) f b) Q E s:=by
  obtain⟨mA,O,r,_,_,_⟩:=ins_get I.hok e
  obtain⟨u,hu,ru⟩:=RelO.some_of (v:=v) (o:=mA f) (by rw [← l];exact r f)
  exact get_map I.kIn O (c.get f) c.hd n hu (handed_of ru) (h u _ (I.tok _) ru)
theorem getmeth_ok {m:Str}{g:Addr}{pl:Sem Bool}{Q:Value×List Value->Shared->Prop}(I:Inv X pins σ H s)(e:H a=some (.ins C dx fs))(c:Cls X.K C)(k:Meth X.K C m g)(l:fs.lookup m=none)
    (h:Q (.ref g,[.ref a]) s):wpAny (model X.prog X.w) A (getMethod (.ref a) m pl) Q E s:=by
  obtain⟨mA,O,r,_,_,_⟩:=ins_get I.hok e
  have hn:mA m=none:=RelO.none_of (by rw [← l];exact r m)
  exact get_meth I.kIn O (c.get m) k.at_ k.fn hn h
theorem setattr_ok {y:V}{u:Value}{Q:Unit->Shared->Prop}(I:Inv X pins σ H s)(e:H a=some (.ins C dx fs))(c:Cls X.K C)(n:NoAttr X.K C f)(hl:fs.length<1000)(ry:RelV y u)
    (h:∀ s',Inv X pins σ (upd H a (.ins C dx (putF f y fs))) s'->Q () s'):wpAny (model X.prog X.w) A (setAttr (.ref a) f u) Q E s:=by
  obtain⟨mA,O,r,wi,_,ho⟩:=ins_get I.hok e
  have hz:(fs.map (·.1)).length<=sizeLine:=by rw [List.length_map,sizeLine_eq];lia
  refine set_map I.kIn O c.sa c.po n.taker c.hd wi hz fun h' O' sb=>h _ ?_
  have hd:∃ o,h'.get? dx=some o:=let ⟨o,_,_,e',_⟩:=O'.ns;⟨o,e'⟩
  refine I.write (x:=a) (e:=dx) (by rw [e];exact True.intro) (.inr ho) (fun b q hb z=>(sb.2 b hb).trans z) hd ?_
  refine⟨by rw [upd_ne O.ne];exact ho,?_,O.ne,O'.obj,_,O'.ns,fun g=>?_,fun g hg=>?_⟩
  · have:=length_putF f y fs;lia
  · show RelO ((putF f y fs).lookup g) (if g=f then some u else mA g)
    rw [lookup_putF]
    by_cases q:g=f
    · rw [if_pos q,if_pos q];exact ry
    · rw [if_neg q,if_neg q];exact r g
  · by_cases q:g=f
    · rw [q];exact(keys_putF f y fs).1
    · refine(keys_putF f y fs).2 g (wi g fun z=>hg ?_)
      show(if g=f then some u else mA g)=none
      rw [if_neg q];exact z
theorem Inv.made (I:Inv X pins σ H s):Inv X pins σ (upd (upd H s.heap.objs.size (.own (s.heap.objs.size+1))) (s.heap.objs.size+1) (.ins C s.heap.objs.size []))
    { s with heap:=(s.heap.push PySem.W.emptyDict).push (PySem.W.instObj C s.heap.objs.size) }:=by
  have e1:(s.heap.push PySem.W.emptyDict).get? s.heap.objs.size=some PySem.W.emptyDict:=Heap.get?_push_size s.heap rfl
  have e2:((s.heap.push PySem.W.emptyDict).push (PySem.W.instObj C s.heap.objs.size)).get? (s.heap.objs.size+1)=some (PySem.W.instObj C s.heap.objs.size):=by
    have:=Heap.get?_push_size (s.heap.push PySem.W.emptyDict) (o:=PySem.W.instObj C s.heap.objs.size) rfl
    rwa [Heap.size_push] at this
  have e3:(s.heap.push PySem.W.emptyDict).Ns s.heap.objs.size (fun _=>none):=⟨PySem.W.emptyDict,#[],_,e1,rfl,(fun e he=>absurd he (by simp)),fun _=>rfl⟩
  have I1:=I.laid (a:=s.heap.objs.size) (o:=.own (s.heap.objs.size+1)) (h':=s.heap.push PySem.W.emptyDict) (t':=s.toks) (fun b u q=>Heap.get?_push_of_some _ q) (Nat.le_refl _) ⟨_,e1⟩
  refine I1.laid (a:=s.heap.objs.size+1) (o:=.ins C s.heap.objs.size []) (t':=s.toks) (fun b u q=>Heap.get?_push_of_some _ q) (Nat.le_of_eq (Heap.size_push _ _)) ?_
  have ne:s.heap.objs.size≠s.heap.objs.size+1:=Nat.ne_of_lt (Nat.lt_succ_self _)
  refine⟨by rw [upd_ne ne,upd_same],Nat.zero_le _,ne,e2,fun _=>none,(Heap.Ns1.of_empty e3).at fun o q=>Heap.get?_push_of_some _ q,fun _=>True.intro,fun y hy=>absurd rfl hy⟩
theorem attr_of {prog:Program}{w:World}{env:Env}{e:Expr}{f:Str}{pos:Pos}{s:Shared}{Q:Value->Shared->Prop}(hb:attributeBase e f env (eval e env)=eval e env)
    (h:wpAny (model prog w) A (eval e env) (fun o s₁=>wpAny (model prog w) A (getAttr o f true) Q E s₁) E s):wpAny (model prog w) A (eval (.Attribute e f pos) env) Q E s:=
  Attribute_any_ h (by rw [arm_eval_Attribute,hb])
end
noncomputable def tFld (K:PySem.W.Frag)(ta:TE)(f:Str):TE:=fun σ H Q=>ta σ H fun x H1=>∃ a C dx fs v,x=.ref a/\H1 a=some (.ins C dx fs)/\Cls K C/\NoAttr K C f/\fs.lookup f=some v/\Q v H1
noncomputable def sFld (K:PySem.W.Frag)(ta tv:TE)(f:Str):TS:=fun D σ H=>tv σ H fun y H1=>ta σ H1 fun x H2=>∃ a C dx fs,x=.ref a/\H2 a=some (.ins C dx fs)/\Cls K C/\NoAttr K C f/\fs.length<1000 /\
  D.nx σ (upd H2 a (.ins C dx (putF f y fs)))
section
variable {X:Cx} {o e value:Expr} {f:Str} {pos pos' tpos:Pos} {ta tv:TE}
theorem pe_fld (he:PE X e ta)(hb:attributeBase e f X.env (eval e X.env)=eval e X.env):PE X (.Attribute e f pos) (tFld X.K ta f):=by
  intro pins s σ H Q I h
  refine attr_of hb (thn (he pins s σ H _ I h) fun u s1 ⟨x,H1,I1,rx,a,C,dx,fs,v,ex,ea,c,n,l,q⟩=>?_)
  subst ex
  obtain rfl:u=Value.ref a:=rx
  exact getattr_ok I1 ea c n l fun u' s2 I2 ru=>⟨v,H1,I2,ru,q⟩
theorem ps_fld (ha:PE X o ta)(hv:PE X value tv)(hs:swapsWith value (some (.Attribute o f pos')) pos.line X.env=pure false):PS X (.Assign [.Attribute o f pos'] value pos) (sFld X.K ta tv f):=by
  intro pins s σ H D I h
  refine plainObj_wpAny_Assign_Attribute (thn (hv pins s σ H _ I h) fun u s1 ⟨y,H1,I1,ry,q⟩=>thn (ha pins s1 σ H1 _ I1 q) fun ov s2 ⟨x,H2,I2,rx,a,C,dx,fs,ex,ea,c,n,l,q2⟩=>?_) hs
  subst ex
  obtain rfl:ov=Value.ref a:=rx
  exact setattr_ok I2 ea c n l ry fun s3 I3=>⟨σ,_,I3,q2⟩
end
section
variable {X:Cx} {pins:List (Addr×Obj)} {σ:St} {H:Hp} {s:Shared} {A:Around} {E:Value->Shared->Prop} {Q:Value->Shared->Prop} {c:Value} {b:Bool}
inductive TyOf (K:PySem.W.Frag)(H:Hp):V->Value->Prop where
  | non:TyOf K H .non (.type "NoneType")
  | bl (x:Bool):TyOf K H (.bl x) (.type "bool")
  | int (i:Int):TyOf K H (.int i) (.type "int")
  | str (x:Str):TyOf K H (.str x) (.type "str")
  | flt (x:UInt64):TyOf K H (.flt x) (.type "float")
  | lst {a:Addr} {xs:List V} (e:H a=some (.lst xs)):TyOf K H (.ref a) (.type "list")
  | frz {a:Addr} {o:Obj} {xs:List V} (e:H a=some (.frz o (.lst xs))):TyOf K H (.ref a) (.type "list")
  | tup {a:Addr} {xs:List V} (e:H a=some (.tup xs)):TyOf K H (.ref a) (.type "tuple")
  | dK {a:Addr} {kvs:List (Key×V)} (e:H a=some (.dK kvs)):TyOf K H (.ref a) (.type "dict")
  | dT {a:Addr} {kvs:List (List Key×V)} (e:H a=some (.dT kvs)):TyOf K H (.ref a) (.type "dict")
  | ins {a C dx:Addr} {fs:List (Str×V)} (e:H a=some (.ins C dx fs)) (cl:Cls K C) (ha:PySem.W.findIn K (.ref C) "__class__" = some (some (.builtin "object.__class__")))
      (hn:PySem.W.specialIn K (.builtin "object.__class__") "__get__" = some (some (.builtin "getset_descriptor.__get__"))) (htk:PySem.W.takesIn K (.builtin "object.__class__")=some true)
      (hm:PySem.W.mroIn K C (.type "object")=some true):TyOf K H (.ref a) (.ref C)
end
end L2
namespace L2
open PySem PySem.Spec PyProof.Rows
structure Room (k:Nat)(A:Around):Prop where
  hd:A.handled=none
  dp:A.depth+3 * k+5<recursionLimit
  un:A.units+16 * k+200<cLine
  gd:A.guards=some []
theorem Room.mono {j k:Nat}{A:Around}(r:Room k A)(h:j<=k):Room j A:=⟨r.hd,by have:=r.dp;lia,by have:=r.un;lia,r.gd⟩
theorem Room.deeper {k:Nat}{A:Around}(r:Room (k+1) A)(env:Env):Room k (A.deeper env):=
  ⟨r.hd,by have:=r.dp;show A.depth+1+3 * k+5<_;lia,by have:=r.un;show A.units+3+16 * k+200<_;lia,r.gd⟩
theorem Room.in1 {k:Nat}{A:Around}(r:Room (k+1) A):Room k A.in1:=
  ⟨r.hd,by have:=r.dp;show A.depth+3 * k+5<_;lia,by have:=r.un;show A.units+1+16 * k+200<_;lia,r.gd⟩
theorem make_depth {A:Around}{C:Addr}{us:List Value}{kw:List (Str×Value)}:(A.under (.builtin "type.__call__" ⟨.ref C::us,kw⟩)).depth=A.depth+1:=by
  first | rfl | simp [Around.under,Code.weight,Code.isCreation,Code.isGuard,Code.isCaller,Code.frames,Code.isFrame,guardIds]
theorem make_units {A:Around}{C:Addr}{us:List Value}{kw:List (Str×Value)}:(A.under (.builtin "type.__call__" ⟨.ref C::us,kw⟩)).units=A.units+1:=by
  first | rfl | simp [Around.under,Code.cUnits,Code.frames,Code.isFrame]
theorem make_guards {A:Around}{C:Addr}{us:List Value}{kw:List (Str×Value)}:(A.under (.builtin "type.__call__" ⟨.ref C::us,kw⟩)).guards=A.guards:=by
  first | rfl | simp [Around.under,Code.weight,Code.isCreation,Code.isGuard,Code.isCaller,Code.frames,Code.isFrame,guardIds]
theorem Room.make {k:Nat}{A:Around}(r:Room (k+1) A)(C:Addr)(us:List Value)(kw:List (Str×Value)):Room k (A.under (.builtin "type.__call__" ⟨.ref C::us,kw⟩)):=
  ⟨r.hd,by have:=r.dp;rw [make_depth];lia,by have:=r.un;rw [make_units];lia,by rw [make_guards];exact r.gd⟩
theorem Room.depth {k:Nat}{A:Around}(r:Room k A):A.depth<recursionLimit:=by have:=r.dp;lia
theorem Room.units {k:Nat}{A:Around}(r:Room k A):A.units+64<cLine:=by have:=r.un;lia
noncomputable def tNil:TA:=fun _ H Q=>Q [] H
noncomputable def tCons (ta:TE)(tr:TA):TA:=fun σ H Q=>ta σ H fun x H1=>tr σ H1 fun xs H2=>Q (x::xs) H2
section
variable {X:Cx} {e:Expr} {es:List Expr} {te:TE} {t:TA} {pos:Pos}
theorem pa_nil:PA X [] tNil:=fun _ _ _ _ H Q I h=>Calls.spliced_nil ⟨[],H,I,.nil,h⟩
theorem pa_cons (ha:PE X e te)(hr:PA X es t)(hs:starEach (e::es) X.env=(false,eval e X.env)::starEach es X.env:=by rfl):PA X (e::es) (tCons te t):=by
  intro pos pins s σ H Q I h
  rw [hs]
  show wpAny _ _ (spliced ((false,eval e X.env)::backTo pos (starEach es X.env))) _ _ s
  refine Calls.spliced_cons (thn (ha pins s σ H _ I h) fun u s1 ⟨x,H1,I1,r1,q1⟩=>?_)
  exact thn (hr pos pins s1 σ H1 _ I1 q1) fun us s2 ⟨xs,H2,I2,r2,q2⟩=>⟨x::xs,H2,I2,.cons r1 r2,q2⟩
noncomputable def tTup (t:TA):TE:=fun σ H Q=>t σ H fun xs H1=>xs.length<=sizeLine/\∀ p,H1 p=none->Q (.ref p) (upd H1 p (.tup xs))
noncomputable def tLst (t:TA):TE:=fun σ H Q=>t σ H fun xs H1=>xs.length<=sizeLine/\∀ p,H1 p=none->Q (.ref p) (upd H1 p (.lst xs))
theorem pe_tup {x1}(h:PA X es t):PE X (.Tuple es x1 pos) (tTup t):=by
  intro pins s σ H Q I hq
  refine wpAny_Tuple_spliced (thn (h pos pins s σ H _ I hq) fun us s1 ⟨xs,H1,I1,r,z,q⟩=>⟨by rw [← r.length];exact z,?_⟩)
  have hf:H1 s1.heap.objs.size=none:=I1.hok.fresh (Nat.le_refl _)
  refine⟨.ref s1.heap.objs.size,upd H1 s1.heap.objs.size (.tup xs),I1.laid (t':=s1.toks) (fun b u e=>Heap.get?_push_of_some _ e) (Nat.le_refl _) ?_,rfl,q _ hf⟩
  exact⟨z,us,r,⟨_,Heap.get?_push_size _ rfl,rfl,_,rfl⟩⟩
theorem pe_lst (h:PA X es t):PE X (.List es pos) (tLst t):=by
  intro pins s σ H Q I hq
  refine wpAny_List_spliced (thn (h pos pins s σ H _ I hq) fun us s1 ⟨xs,H1,I1,r,z,q⟩=>⟨by rw [← r.length];exact z,?_⟩)
  have hf:H1 s1.heap.objs.size=none:=I1.hok.fresh (Nat.le_refl _)
  refine⟨.ref s1.heap.objs.size,upd H1 s1.heap.objs.size (.lst xs),I1.laid (t':=s1.toks) (fun b u e=>Heap.get?_push_of_some _ e) (Nat.le_refl _) ?_,rfl,q _ hf⟩
  exact⟨z,us,0,r,Heap.get?_push_size _ rfl⟩
end
noncomputable abbrev Sp:=List V->Hp->VK->XK->Prop
noncomputable abbrev CXT:=List Env->Hp->Shared->XK->Value->Shared->Prop
structure Env0 (P:Program)(w:World)(K:PySem.W.Frag)(mg:Str->Option Value)(base:Heap)(A:Around)(outer:List Env)(s:Shared)(H:Hp):Prop where
  frames:A.frames=some outer
  mod:Mod K mg base
  bs:∀ b o,base.get? b=some o->s.heap.get? b=some o/\H b=none
  bsz:base.objs.size<=s.heap.objs.size
  funs:s.heap.FunFrames base outer
  frf:∀ b∈frs outer,H b=none
  hok:HOk P w H s.heap
  bare:AllBare s.gens
def CE (outer:List Env)(P:Program)(w:World)(H:Hp)(s:Shared)(Q:VK)(u:Value)(s':Shared):Prop:=
  ∃ v H',s'.os=s.os/\AllBare s'.gens/\Un (frs outer) [] H H' s.heap s'.heap/\HOk P w H' s'.heap/\RelV v u/\Q v H'
def CR (CX:CXT)(outer:List Env)(P:Program)(w:World)(H:Hp)(s:Shared)(Q:VK)(E:XK)(r:Result)(s':Shared):Prop:=
  match r with
  | .ok (.ret u)=>CE outer P w H s Q u s'
  | .ok _=>False
  | .error e=>CX outer H s E e s'
structure FnOk (P:Program)(w:World)(K:PySem.W.Frag)(mg:Str->Option Value)(base:Heap)(CX:CXT)(k:Nat)(f:Addr)(fd:FuncData)(ps:List Str)(sp:Sp):Prop where
  len:∀ vs H Q E,sp vs H Q E->vs.length=ps.length
  run:∀ (A:Around) (outer:List Env) (s:Shared) (H:Hp) (args:Args) (us:List Value) (vs:List V) (Q:VK) (E:XK),Room k A->Env0 P w K mg base A outer s H->BindsTo s fd args (ps.zip us)->Vals vs us->sp vs H Q E ->
    codeAny (model P w) A (.call (.ref f) args) (CR CX outer P w H s Q E) s
theorem FnOk.mono {P:Program}{w:World}{K:PySem.W.Frag}{mg:Str->Option Value}{base:Heap}{CX:CXT}{j k:Nat}{f:Addr}{fd:FuncData}{ps:List Str}{sp:Sp}(F:FnOk P w K mg base CX j f fd ps sp)(h:j<=k) :
    FnOk P w K mg base CX k f fd ps sp:=⟨F.len,fun A outer s H args us vs Q E hr=>F.run A outer s H args us vs Q E (hr.mono h)⟩
theorem FnOk.imp {P:Program}{w:World}{K:PySem.W.Frag}{mg:Str->Option Value}{base:Heap}{CX:CXT}{k:Nat}{f:Addr}{fd:FuncData}{ps:List Str}{sp sp':Sp}(F:FnOk P w K mg base CX k f fd ps sp)
    (h:∀ vs H Q E,sp' vs H Q E->sp vs H Q E):FnOk P w K mg base CX k f fd ps sp':=
  ⟨fun vs H Q E q=>F.len vs H Q E (h _ _ _ _ q),fun A outer s H args us vs Q E hr he hb hv hs=>F.run A outer s H args us vs Q E hr he hb hv (h _ _ _ _ hs)⟩
theorem Env0.make {P:Program}{w:World}{K:PySem.W.Frag}{mg:Str->Option Value}{base:Heap}{A:Around}{outer:List Env}{s:Shared}{H:Hp}(e:Env0 P w K mg base A outer s H)(C:Addr)(us:List Value)(kw:List (Str×Value)) :
    Env0 P w K mg base (A.under (.builtin "type.__call__" ⟨.ref C::us,kw⟩)) outer s H:=⟨by first | exact e.frames | (simpa [Around.under,Code.envs,Code.isFrame,pushEnvs] using e.frames),e.mod,e.bs,e.bsz,e.funs,e.frf,e.hok,e.bare⟩
theorem Env0.in1 {P:Program}{w:World}{K:PySem.W.Frag}{mg:Str->Option Value}{base:Heap}{A:Around}{outer:List Env}{s:Shared}{H:Hp}(e:Env0 P w K mg base A outer s H) :
    Env0 P w K mg base A.in1 outer s H:=⟨e.frames,e.mod,e.bs,e.bsz,e.funs,e.frf,e.hok,e.bare⟩
section
variable {X:Cx} {pins:List (Addr×Obj)} {σ:St} {H:Hp} {s s':Shared}
theorem Inv.env0 (I:Inv X pins σ H s):Env0 X.prog X.w X.K X.mg X.base X.A X.stack s H:=
  ⟨I.ok.frames,I.ok.mod,I.bs,Nat.le_trans I.ok.bsz I.sz,I.stack,I.stkFree,I.hok,I.bare⟩
theorem Inv.after {Q:VK}{u:Value}(I:Inv X pins σ H s)(h:CE X.stack X.prog X.w H s Q u s'):EP X pins σ Q u s':=by
  obtain⟨v,H',os,bare,un,hok,r,q⟩:=h
  obtain⟨hh,g,d,t,os'⟩:=s'
  obtain rfl:os' = s.os:=os
  exact⟨v,H',I.call (h':=hh) (g':=g) (d':=d) (t':=t) (ch:=[]) un hok bare (fun b z=>absurd z (by simp)),r,q⟩
end
noncomputable def tCall (sp:Sp)(dvs:List V)(E:XK)(t:TA):TE:=fun σ H Q=>t σ H fun vs H1=>sp (vs++dvs) H1 Q E
noncomputable def tMeth (C:Addr)(m:Str)(sp:Sp)(dvs:List V)(E:XK)(ta:TE)(t:TA):TE:=fun σ H Q=>ta σ H fun x H1=>∃ a dx fs,x=.ref a/\H1 a=some (.ins C dx fs)/\fs.lookup m=none /\
  t σ H1 fun vs H2=>sp (x::(vs++dvs)) H2 Q E
noncomputable def tMake (C:Addr)(sp:Sp)(dvs:List V)(E:XK)(t:TA):TE:=fun σ H Q=>t σ H fun vs H1=>∀ x dx,H1 x=none->H1 dx=none->dx≠x ->
  sp (.ref x::(vs++dvs)) (upd (upd H1 dx (.own x)) x (.ins C dx [])) (fun v H2=>v=.non/\Q (.ref x) H2) E
def Binds (K:PySem.W.Frag)(fd:FuncData)(ps:List Str)(ds:List Value):Prop:=
  ∀ (s:Shared) (us:List Value),K.In s.heap->(us++ds).length=ps.length->BindsTo s fd ⟨us,[]⟩ (ps.zip (us++ds))
theorem Binds.all {K:PySem.W.Frag}{fd:FuncData}{ps:List Str}(h:∀ us:List Value,us.length=ps.length->bindArgs fd ⟨us,[]⟩=pure (ps.zip us)):Binds K fd ps []:=fun s us _ hl=>by
  rw [List.append_nil] at hl ⊢
  exact .of_eq (h us hl)
def Passes (CX:CXT)(X:Cx)(E:XK):Prop:=∀ (pins:List (Addr×Obj)) (σ:St) (H:Hp) (s:Shared) (e:Value) (s':Shared),Inv X pins σ H s->CX X.stack H s E e s'->X.xe e s'
section
variable {X:Cx} {CX:CXT} {k:Nat} {f C:Addr} {fd:FuncData} {ps:List Str} {sp:Sp} {dvs:List V} {ds:List Value} {E:XK} {x m:Str} {p pos apos:Pos} {e o:Expr} {es:List Expr} {ta:TE} {t:TA}
theorem run_fn {pins:List (Addr×Obj)}{σ:St}{H:Hp}{s:Shared}{Q:VK}{us:List Value}{vs:List V}(F:FnOk X.prog X.w X.K X.mg X.base CX k f fd ps sp)(hr:Room k X.A)(hb:Binds X.K fd ps ds)(hd:Vals dvs ds)(hx:Passes CX X E)
    (I:Inv X pins σ H s) (r:Vals vs us) (h:sp (vs++dvs) H Q E):wpAny (model X.prog X.w) X.A (call (.ref f) us) (EP X pins σ Q) X.xe s:=by
  have r2:Vals (vs++dvs) (us++ds):=r.append hd
  have hl:(us++ds).length=ps.length:=by rw [← r2.length];exact F.len _ _ _ _ h
  refine wpAny_call (codeAny_mono (F.run X.A X.stack s H ⟨us,[]⟩ (us++ds) (vs++dvs) Q E hr I.env0 (hb s us I.kIn hl) r2 h) fun r s' hq=>?_)
  cases r with
  | error e=>exact hx pins σ H s e s' I hq
  | ok fl=>
    cases fl with
    | ret u=>exact I.after hq
    | next=>exact False.elim hq
    | brk=>exact False.elim hq
    | cont=>exact False.elim hq
theorem pe_call (F:FnOk X.prog X.w X.K X.mg X.base CX k f fd ps sp)(hr:Room k X.A)(hg:Gl X x)(hm:X.mg x=some (.ref f))(hk:PySem.W.keepIn X.K (.ref f)=true)(hb:Binds X.K fd ps ds)(hd:Vals dvs ds)(hx:Passes CX X E)
    (ha:PA X (e::es) t) (hdb:(x == ("__debug__":Str))=false:=by decide) (he:starEach (e::es) X.env=(false,eval e X.env)::starEach es X.env:=by rfl) (hpl:(backTo pos (starEach es X.env)).any (·.1)=false:=by rfl) :
    PE X (.Call (.Name x p) (e::es) [] pos) (tCall sp dvs E t):=by
  intro pins s σ H Q I h
  refine wpAny_Call_Name_kw (ld_glob I hg hm ?_ hdb)
  refine PySem.W.callWith_K (h₀:=X.base) I.ok.mod.kin hk (thn (ha pos pins s σ H _ I h) fun us s1 ⟨vs,H1,I1,r,q⟩=>⟨I1.kIn,?_⟩) he hpl
  exact run_fn F hr hb hd hx I1 r q
theorem pe_call0 (F:FnOk X.prog X.w X.K X.mg X.base CX k f fd ps sp)(hr:Room k X.A)(hg:Gl X x)(hm:X.mg x=some (.ref f))(hk:PySem.W.keepIn X.K (.ref f)=true)(hb:Binds X.K fd ps ds)(hd:Vals dvs ds)(hx:Passes CX X E)
    (hdb:(x == ("__debug__":Str))=false:=by decide):PE X (.Call (.Name x p) [] [] pos) (tCall sp dvs E tNil):=by
  intro pins s σ H Q I h
  refine wpAny_Call_Name_kw (ld_glob I hg hm ?_ hdb)
  exact PySem.W.callWith_K0 I.kIn hk (run_fn (us:=[]) F hr hb hd hx I .nil h)
theorem pe_meth {pl:Sem Bool}(he:PE X o ta)(c:Cls X.K C)(hm:Meth X.K C m f)(F:FnOk X.prog X.w X.K X.mg X.base CX k f fd ps sp)(hr:Room k X.A)(hb:Binds X.K fd ps ds)(hd:Vals dvs ds)(hx:Passes CX X E)(ha:PA X (e::es) t)
    (hst:starEach (e::es) X.env=(false,eval e X.env)::starEach es X.env:=by rfl) (hpl:(backTo pos (starEach es X.env)).any (·.1)=false:=by rfl)
    (ht:eval (.Call (.Attribute o m apos) (e::es) [] pos) X.env=(do
      let ov ← eval o X.env
      standAt apos.atName
      let (f,first) ← holding [ov] (getMethod ov m pl)
      callWith pos f first (backTo pos (starEach (e::es) X.env)) (backToKw pos (keywordEach [] X.env))):=by rfl) :
    PE X (.Call (.Attribute o m apos) (e::es) [] pos) (tMeth C m sp dvs E ta t):=by
  intro pins s σ H Q I h
  refine PySem.W.methodCall_KW (pl:=pl) (thn (he pins s σ H _ I h) fun u s1 ⟨x,H1,I1,rx,a,dx,fs,ex,ea,l,q⟩=>?_) ht
  subst ex
  obtain rfl:u=Value.ref a:=rx
  refine getmeth_ok I1 ea c hm l ?_
  refine PySem.W.callWith_K (first:=[.ref a]) (h₀:=X.base) I.ok.mod.kin hm.kp (thn (ha pos pins s1 σ H1 _ I1 q) fun us s2 ⟨vs,H2,I2,r,q2⟩=>⟨I2.kIn,?_⟩) hst hpl
  exact run_fn (us:=.ref a::us) (vs:=.ref a::vs) F hr hb hd hx I2 (.cons rfl r) q2
theorem pe_meth0 {pl:Sem Bool}(he:PE X o ta)(c:Cls X.K C)(hm:Meth X.K C m f)(F:FnOk X.prog X.w X.K X.mg X.base CX k f fd ps sp)(hr:Room k X.A)(hb:Binds X.K fd ps ds)(hd:Vals dvs ds)(hx:Passes CX X E)
    (ht:eval (.Call (.Attribute o m apos) [] [] pos) X.env=(do
      let ov ← eval o X.env
      standAt apos.atName
      let (f,first) ← holding [ov] (getMethod ov m pl)
      callWith pos f first (backTo pos (starEach [] X.env)) (backToKw pos (keywordEach [] X.env))):=by rfl) :
    PE X (.Call (.Attribute o m apos) [] [] pos) (tMeth C m sp dvs E ta tNil):=by
  intro pins s σ H Q I h
  refine PySem.W.methodCall_KW (pl:=pl) (thn (he pins s σ H _ I h) fun u s1 ⟨x,H1,I1,rx,a,dx,fs,ex,ea,l,q⟩=>?_) ht
  subst ex
  obtain rfl:u=Value.ref a:=rx
  refine getmeth_ok I1 ea c hm l ?_
  exact PySem.W.callWith_K0 (first:=[.ref a]) I1.kIn hm.kp (run_fn (us:=[.ref a]) (vs:=[.ref a]) F hr hb hd hx I1 (.cons rfl .nil) q)
structure Mk (K:PySem.W.Frag)(C f:Addr):Prop where
  makes:PySem.W.makesIn K C=true
  init:PySem.W.findIn K (.ref C) "__init__" = some (some (.ref f))
  fn:PySem.W.isFn K (.ref f)=true
  kp:PySem.W.keepIn K (.ref C)=true
theorem run_make {pins:List (Addr×Obj)}{σ:St}{H:Hp}{s:Shared}{Q:VK}{us:List Value}{vs:List V}(M:Mk X.K C f)(F:FnOk X.prog X.w X.K X.mg X.base CX k f fd ps sp)(hr:Room (k+1) X.A)(hb:Binds X.K fd ps ds)(hd:Vals dvs ds)
    (hx:Passes CX X E) (I:Inv X pins σ H s) (r:Vals vs us)
    (h:∀ x dx,H x=none->H dx=none->dx≠x->sp (.ref x::(vs++dvs)) (upd (upd H dx (.own x)) x (.ins C dx [])) (fun v H2=>v=.non/\Q (.ref x) H2) E) :
    wpAny (model X.prog X.w) X.A (call (.ref C) us) (EP X pins σ Q) X.xe s:=by
  have hq:=h (s.heap.objs.size+1) s.heap.objs.size (I.hok.fresh (Nat.le_succ _)) (I.hok.fresh (Nat.le_refl _)) (Nat.ne_of_lt (Nat.lt_succ_self _))
  have I2:=Inv.made (C:=C) I
  have r2:Vals (V.ref (s.heap.objs.size+1)::(vs++dvs)) (Value.ref (s.heap.objs.size+1)::(us++ds)):=.cons rfl (r.append hd)
  have hl:(Value.ref (s.heap.objs.size+1)::us++ds).length=ps.length:=by
    have e:=r2.length
    rw [F.len _ _ _ _ hq] at e
    exact e.symm
  refine wpAny_call (make_map (f:=f) I.kIn M.makes M.init (beq_iff_eq.mp M.fn) (codeAny_mono (F.run _ X.stack _ _ ⟨Value.ref (s.heap.objs.size+1)::us,[]⟩ (Value.ref (s.heap.objs.size+1)::(us++ds)) _ _ E (hr.make C us [])
    (I2.env0.make C us []) (hb _ (Value.ref (s.heap.objs.size+1)::us) I2.kIn hl) r2 hq) fun r s' hq'=>?_))
  cases r with
  | error e=>exact hx pins σ _ _ e s' I2 hq'
  | ok fl=>
    cases fl with
    | ret u=>
      obtain⟨v,H',I3,rv,ev,q3⟩:=I2.after hq'
      subst ev
      exact⟨rv,⟨V.ref (s.heap.objs.size+1),H',I3,rfl,q3⟩⟩
    | next=>exact False.elim hq'
    | brk=>exact False.elim hq'
    | cont=>exact False.elim hq'
theorem pe_make (M:Mk X.K C f)(F:FnOk X.prog X.w X.K X.mg X.base CX k f fd ps sp)(hr:Room (k+1) X.A)(hg:Gl X x)(hm:X.mg x=some (.ref C))(hb:Binds X.K fd ps ds)(hd:Vals dvs ds)(hx:Passes CX X E)
    (ha:PA X (e::es) t) (hdb:(x == ("__debug__":Str))=false:=by decide) (he:starEach (e::es) X.env=(false,eval e X.env)::starEach es X.env:=by rfl) (hpl:(backTo pos (starEach es X.env)).any (·.1)=false:=by rfl) :
    PE X (.Call (.Name x p) (e::es) [] pos) (tMake C sp dvs E t):=by
  intro pins s σ H Q I h
  refine wpAny_Call_Name_kw (ld_glob I hg hm ?_ hdb)
  refine PySem.W.callWith_K (h₀:=X.base) I.ok.mod.kin M.kp (thn (ha pos pins s σ H _ I h) fun us s1 ⟨vs,H1,I1,r,q⟩=>⟨I1.kIn,?_⟩) he hpl
  exact run_make M F hr hb hd hx I1 r q
end
section
variable {X:Cx} {CX:CXT} {k:Nat} {f C:Addr} {fd:FuncData} {ps ks:List Str} {sp:Sp} {E:XK} {x m:Str} {p pos apos kpos:Pos} {e o:Expr} {es:List Expr} {kws:List Keyword} {te ta:TE} {t tk:TA} {nm:Option Str}
variable {g:List Value->List Value->List Value} {gV:List V->List V->List V}
end
structure FnScope (N P:List Str)(sc:Scope):Prop where
  kind:sc.kind=.function
  co:sc.isCoroutine=false
  gen:sc.isGenerator=false
  nd:N.Nodup
  pre:N.take P.length=P
  par:∀ x∈P,sc.names.lookup x=some .local\/sc.names.lookup x=some .cell
  nofree:∀ y∈sc.names,y.2≠.free
theorem bindL_out {kindOf:Str->Option NameKind}{x:Str}:∀ {binds:List (Str×Value)} {m:Str->Option Value},(∀ v,(x,v)∉binds)->bindL kindOf binds m x=m x
  | [],_,_=>rfl
  | (n,v)::r,m,h=>by
    unfold bindL
    rw [bindL_out fun w hw=>h w (List.mem_cons_of_mem _ hw)]
    split
    · have:x≠n:=by rintro rfl;exact h v List.mem_cons_self
      simp [this]
    · rfl
theorem bindC_out {kindOf:Str->Option NameKind}{x:Str}:∀ {binds:List (Str×Value)} {m:Str->Option Value},(∀ v,(x,v)∉binds)->bindC kindOf binds m x=m x
  | [],_,_=>rfl
  | (n,v)::r,m,h=>by
    unfold bindC
    rw [bindC_out fun w hw=>h w (List.mem_cons_of_mem _ hw)]
    split
    · rfl
    · have:x≠n:=by rintro rfl;exact h v List.mem_cons_self
      simp [this]
theorem bindL_get {kindOf:Str->Option NameKind}{x:Str}{v:Value}:∀ {P:List Str} {vs:List Value} {i:Nat} {m:Str->Option Value},P.Nodup->P[i]? = some x->vs[i]? = some v->kindOf x=some .local ->
    bindL kindOf (P.zip vs) m x=some v
  | [],_,_,_,_,h,_,_=>by simp at h
  | _::_,[],_,_,_,_,h,_=>by simp at h
  | p::P,w::vs,0,m,nd,h1,h2,hk=>by
    simp at h1 h2;subst h1;subst h2
    show bindL kindOf ((p,w)::P.zip vs) m p=_
    unfold bindL
    rw [bindL_out fun v hv=>(List.nodup_cons.mp nd).1 (List.of_mem_zip hv).1,if_pos hk]
    simp
  | p::P,w::vs,i+1,m,nd,h1,h2,hk=>by
    show bindL kindOf ((p,w)::P.zip vs) m x=_
    unfold bindL
    exact bindL_get (i:=i) (List.nodup_cons.mp nd).2 (by simpa using h1) (by simpa using h2) hk
theorem bindC_get {kindOf:Str->Option NameKind}{x:Str}{v:Value}:∀ {P:List Str} {vs:List Value} {i:Nat} {m:Str->Option Value},P.Nodup->P[i]? = some x->vs[i]? = some v->kindOf x≠some .local ->
    bindC kindOf (P.zip vs) m x=some v
  | [],_,_,_,_,h,_,_=>by simp at h
  | _::_,[],_,_,_,_,h,_=>by simp at h
  | p::P,w::vs,0,m,nd,h1,h2,hk=>by
    simp at h1 h2;subst h1;subst h2
    show bindC kindOf ((p,w)::P.zip vs) m p=_
    unfold bindC
    rw [bindC_out fun v hv=>(List.nodup_cons.mp nd).1 (List.of_mem_zip hv).1,if_neg hk]
    simp
  | p::P,w::vs,i+1,m,nd,h1,h2,hk=>by
    show bindC kindOf ((p,w)::P.zip vs) m x=_
    unfold bindC
    exact bindC_get (i:=i) (List.nodup_cons.mp nd).2 (by simpa using h1) (by simpa using h2) hk
noncomputable def start (N:List Str)(vs:List V):St:=vs.map some++List.replicate (N.length - vs.length) none
noncomputable def cxOf (CX:CXT)(P:Program)(w:World)(K:PySem.W.Frag)(mg:Str->Option Value)(base:Heap)(N:List Str)(qual:Str)(scope:Scope)(f:Addr)(cd:Value)(A:Around)(outer:List Env)(s:Shared)(H:Hp)(E:XK):Cx where
  prog:=P
  w:=w
  K:=K
  mg:=mg
  base:=base
  A:=A.deeper (envOfC qual scope s.heap.objs.size f cd)
  N:=N
  s₀:=s
  H₀:=H
  env:=envOfC qual scope s.heap.objs.size f cd
  outer:=outer
  stack:=envOfC qual scope s.heap.objs.size f cd::outer
  ex:=[]
  calm:=true
  fn:=fun _=>true
  pn:=[]
  xe:=fun e s'=>wpAny (model P w) (A.deeper (envOfC qual scope s.heap.objs.size f cd)) (leaving (envOfC qual scope s.heap.objs.size f cd) e) (fun _ s''=>CX outer H s E e s'') (fun e' s''=>CX outer H s E e' s'') s'
theorem cell_has {sc:Scope}{n:Nat}{x:Str}(h:sc.names.lookup x=some .cell):∃ c,(cellsFrom n sc.names []).lookup x=some c:=by
  have q:=PySem.W.cellsFrom_some sc.names n [] (.inl h)
  exact Option.isSome_iff_exists.mp q
theorem inv_start {CX:CXT}{P:Program}{w:World}{K:PySem.W.Frag}{mg:Str->Option Value}{base:Heap}{N ps:List Str}{qual:Str}{scope:Scope}{f:Addr}{cd:Value}{A:Around}{outer:List Env}{s s1:Shared}{H:Hp}{E:XK}{us:List Value}{vs:List V}
    (S:FnScope N ps scope) (hd:A.handled=none) (e0:Env0 P w K mg base A outer s H) (hl:vs.length=ps.length) (r:Vals vs us)
    (x:InCallC s s.heap.objs.size (bindL (envOfC qual scope s.heap.objs.size f cd).kindOf (ps.zip us) fun _=>none) (cellsFrom (s.heap.objs.size+1) scope.names []) (bindC (envOfC qual scope s.heap.objs.size f cd).kindOf (ps.zip us) fun _=>none) s1) :
    Inv (cxOf CX P w K mg base N qual scope f cd A outer s H E) [] (start N vs) H s1:=by
  have hpl:ps.length<=N.length:=by have:=congrArg List.length S.pre;rw [List.length_take] at this;lia
  obtain⟨h1,tk,rfl,hk⟩:=x.done
  have noA:∀ b:Addr,b∉(cxOf CX P w K mg base N qual scope f cd A outer s H E).ex:=fun b z=>absurd (show b∈([]:List Addr) from z) (by simp)
  refine⟨⟨e0.mod,S.kind,rfl,rfl,Nat.le_refl _,fun y z c h1 h2=>?_,fun y hy=>?_,fun y c _ h=>?_,fun _=>hd,Around.frames_deeper e0.frames,.inr ⟨rfl,rfl⟩,fun b z=>absurd z (noA b),e0.bs,e0.bsz,fun b _ _=>noA b,fun b z=>absurd z (noA b),e0.funs,e0.frf⟩,
    rfl,e0.bare,Un.kept hk,⟨_,x.toInCall.ns,fun i y v h1 h2 h3=>?_⟩,fun y c h=>⟨_,x.cell y c h⟩,e0.hok.fresh (Nat.le_refl _),fun y c h=>?_,fun p hp=>absurd (show p∈([]:List (Addr×Obj)) from hp) (by simp),e0.hok.kept hk,?_⟩
  · exact name_of_addr x.apart (PySem.mem_of_lookup h1) (PySem.mem_of_lookup h2)
  · have hy:scope.names.lookup y=some .cell\/scope.names.lookup y=some .free:=hy
    rcases hy with hy | hy
    · exact cell_has hy
    · exact absurd rfl (S.nofree _ (PySem.mem_of_lookup hy))
  · exact Nat.le_of_lt (x.above y c (PySem.mem_of_lookup h))
  · have hi:i<vs.length:=by
      unfold start at h2
      by_cases hi:i<vs.length
      · exact hi
      · rw [List.getElem?_append_right (by simpa using hi)] at h2
        rw [List.getElem?_replicate] at h2
        split at h2<;>cases h2
    have ha:vs[i]? = some v:=by
      unfold start at h2
      rw [List.getElem?_append_left (by simpa using hi),List.getElem?_map] at h2
      cases e:vs[i]? with
      | none=>rw [e] at h2;cases h2
      | some a=>rw [e] at h2;cases h2;rfl
    obtain⟨u,hu,rv⟩:=r.get ha
    have hp:ps[i]? = some y:=by
      rw [← S.pre,List.getElem?_take_of_lt (by lia)];exact h1
    have ndP:ps.Nodup:=by rw [← S.pre];exact S.nd.sublist (List.take_sublist _ _)
    refine⟨u,rv,?_⟩
    rcases S.par y (List.mem_of_getElem? hp) with k | k
    · exact .inl ⟨k,bindL_get ndP hp hu k⟩
    · obtain⟨c,e⟩:=cell_has (n:=s.heap.objs.size+1) k
      refine .inr ⟨.inl k,c,e,?_⟩
      have q:=x.cell y c e
      rw [bindC_get ndP hp hu (by show scope.names.lookup y≠_;rw [k];decide)] at q
      exact q
  · exact e0.hok.fresh (Nat.le_of_lt (x.above y c (PySem.mem_of_lookup h)))
  · unfold start
    show _=N.length
    rw [List.length_append,List.length_map,List.length_replicate]
    lia
theorem fn_of {CX:CXT}{P:Program}{w:World}{K:PySem.W.Frag}{mg:Str->Option Value}{base:Heap}{k:Nat}{f:Addr}{name qual:Str}{params:Arguments}{body:List Stmt}{scope:Scope}{dV kV doc pm cdv ct oc:Value}{an od:Option Addr}
    {osl:Array (Option Value)} {N ps:List Str} {sp:Sp} (lk:K.lookup f=some ⟨oc,od,.func (PySem.W.fnOf name qual params body scope dV kV doc pm an cdv ct),osl⟩) (hcd:PySem.W.codeIn K cdv qual=true) (S:FnScope N ps scope)
    (len:∀ vs H Q E,sp vs H Q E->vs.length=ps.length)
    (hbody:∀ (A:Around) (outer:List Env) (s:Shared) (H:Hp) (vs:List V) (Q:VK) (E:XK),Room k (A.deeper (envOfC qual scope s.heap.objs.size f cdv))->sp vs H Q E ->
      ∃ t,PSs (cxOf CX P w K mg base N qual scope f cdv A outer s H E) body t/\t { nx:=fun _ H'=>Q .non H',rt:=Q } (start N vs) H) :
    FnOk P w K mg base CX (k+1) f (PySem.W.fnOf name qual params body scope dV kV doc pm an cdv ct) ps sp:=by
  refine⟨len,fun A outer s H args us vs Q E hr e0 hb r hsp=>?_⟩
  have hl:=len _ _ _ _ hsp
  have KX:K.In s.heap:=e0.mod.kin.keeps fun b o e=>(e0.bs b o e).1
  have lim:s.heap.NoLimit:=e0.mod.nolimit.keeps fun b o e=>(e0.bs b o e).1
  have hkind:∀ y∈ps.zip us,scope.names.lookup y.1=some .local\/(scope.names.lookup y.1=some .cell/\((cellsFrom (s.heap.objs.size+1) scope.names []).lookup y.1).isSome=true):=fun⟨n,v⟩ hy=>by
    rcases S.par n (List.of_mem_zip hy).1 with q | q
    · exact .inl q
    · exact .inr ⟨q,PySem.W.cellsFrom_some _ _ _ (.inl q)⟩
  refine codeAny_call_function hr.depth (KX _ _ lk) rfl S.co S.gen rfl (PySem.W.codeRec_of KX hcd) (hb _ _ _ _ ?_)
  refine wpAny_newFunctionEnv_cells S.kind hkind fun env he s1 x=>?_
  subst he
  refine⟨lim.keeps x.toInCall.keep,codeAny_func ?_⟩
  obtain⟨t,ht,hq⟩:=hbody A outer s H vs Q E (hr.deeper _) hsp
  have I:Inv (cxOf CX P w K mg base N qual scope f cdv A outer s H E) [] (start N vs) H s1:=inv_start S hr.hd e0 hl r x
  refine wpAny_mono (ht [] s1 (start N vs) H _ I hq) (fun fl s' hs=>?_) fun e s' hs=>hs
  have fin:∀ {σ':St} {H':Hp} {v:V} {u:Value},Inv (cxOf CX P w K mg base N qual scope f cdv A outer s H E) [] σ' H' s'->RelV v u->Q v H'->CE outer P w H s Q u s':=
    fun {σ' H' v u} J rv q=>⟨v,H',J.os,J.bare,J.base,J.hok,rv,q⟩
  cases fl with
  | ret u=>
    obtain⟨v,σ',H',J,rv,q⟩:=hs
    exact fin J rv q
  | next=>
    obtain⟨σ',H',J,q⟩:=hs
    exact fin (v:=V.non) (u:=Value.none) J rfl q
  | brk=>
    obtain⟨_,_,_,q⟩:=hs
    exact False.elim q
  | cont=>
    obtain⟨_,_,_,q⟩:=hs
    exact False.elim q
end L2
namespace L2
open PySem PySem.Spec PyProof.Rows
section
variable {X:Cx} {x:Str} {p pos:Pos} {e:Expr} {es:List Expr} {t:TA} {id T:String} {r:List V->Hp->VK->Prop}
noncomputable def tCB (r:List V->Hp->VK->Prop)(t:TA):TE:=fun σ H Q=>t σ H fun vs H1=>r vs H1 Q
theorem pe_callB (hc:CallR X (.builtin id) r)(hg:Gl X x)(hm:X.mg x=none)(hv:bootBuiltins x=some (.builtin id))(ha:PA X (e::es) t)(hn:x≠"__name__":=by decide) (hdb:(x == ("__debug__":Str))=false:=by decide)
    (he:starEach (e::es) X.env=(false,eval e X.env)::starEach es X.env:=by rfl) (hpl:(backTo pos (starEach es X.env)).any (·.1)=false:=by rfl):PE X (.Call (.Name x p) (e::es) [] pos) (tCB r t):=by
  intro pins s σ H Q I h
  refine wpAny_Call_Name_kw (ld_blt I hg hm hv ?_ hn hdb)
  exact PyProof.Rows.callWith_builtin1 (thn (ha pos pins s σ H _ I h) fun us s1 ⟨vs,H1,I1,r1,q1⟩=>hc pins s1 σ H1 vs us Q I1 r1 q1) he hpl
theorem pe_callTy (hc:CallR X (.type T) r)(hg:Gl X x)(hm:X.mg x=none)(hv:bootBuiltins x=some (.type T))(ha:PA X (e::es) t)(hn:x≠"__name__":=by decide) (hdb:(x == ("__debug__":Str))=false:=by decide)
    (he:starEach (e::es) X.env=(false,eval e X.env)::starEach es X.env:=by rfl) (hpl:(backTo pos (starEach es X.env)).any (·.1)=false:=by rfl):PE X (.Call (.Name x p) (e::es) [] pos) (tCB r t):=by
  intro pins s σ H Q I h
  refine wpAny_Call_Name_kw (ld_blt I hg hm hv ?_ hn hdb)
  exact PyProof.Rows.callWith_type1 (thn (ha pos pins s σ H _ I h) fun us s1 ⟨vs,H1,I1,r1,q1⟩=>hc pins s1 σ H1 vs us Q I1 r1 q1) he hpl
end
end L2
namespace HT
open PySem PyProof.Rows
section
open PySem.SeqAt
open PySem.AutoSeq1 (wpAny_loadPart')
open PySem.MeetsSeq PySem.MeetsSeq2 PySem.MeetsSeq3
end
section
variable {prog:Program} {w:World} {A:Around} {E:Value->Shared->Prop} {s:Shared}
theorem cat_tup {t b:Addr}{vs ws:List Value}{Q:Value->Shared->Prop}(ht:IsTup s.heap t vs.toArray)(hb:IsTup s.heap b ws.toArray)(hv:vs≠[])
    (h1:ws=[]->Q (.ref t) s) (h2:ws≠[]->Q (.ref s.heap.objs.size) { s with heap:=s.heap.push { cls:=.type "tuple",data:=.seq (vs++ws).toArray } })
    (hsz:vs.length+ws.length<=sizeLine):wpAny (model prog w) A (binaryOp .Add (.ref t) (.ref b)) Q E s:=by
  obtain⟨⟨cls,dd,data,sl⟩,ho,hc,n,hd⟩:=id ht
  obtain⟨⟨cls2,dd2,data2,sl2⟩,ho2,hc2,n2,hd2⟩:=id hb
  simp only at hc hd hc2 hd2
  subst hc hd hc2 hd2
  have e:vs.toArray++ws.toArray=(vs++ws).toArray:=by simp
  by_cases hw:ws=[]
  · exact concat_meets ⟨_,ho,rfl⟩ ⟨_,ho2,rfl⟩ noFill_tuple_add seq_tuple_add PySem.F.slot_tuple_add PySem.F.entry_tuple_add (PySem.F.args_tuple_add_2 _ _)
      (tuple_addW1 t b vs.toArray ws.toArray n n2 dd dd2 sl sl2 (by simpa using hv) (by simp [hw])) ⟨ho,ho2,h1 hw⟩
  · refine concat_meets ⟨_,ho,rfl⟩ ⟨_,ho2,rfl⟩ noFill_tuple_add seq_tuple_add PySem.F.slot_tuple_add PySem.F.entry_tuple_add (PySem.F.args_tuple_add_2 _ _)
      (tuple_addW2 t b vs.toArray ws.toArray n n2 dd dd2 sl sl2 (by simpa using hv) (by simpa using hw) (by rw [List.size_toArray,List.size_toArray];exact hsz)) ⟨ho,ho2,?_⟩
    rw [e]
    exact h2 hw
noncomputable def sIx (n d:Nat):Option Int->Nat
  | none=>d
  | some v=>if v<0 then(v+(n:Int)).toNat else min v.toNat n
theorem sIx_none (n d:Nat):sIx n d none=d:=rfl
theorem sIx_nat (n d k:Nat):sIx n d (some (k:Int))=min k n:=by
  show(if (k:Int)<0 then((k:Int)+(n:Int)).toNat else min (k:Int).toNat n)=min k n
  rw [if_neg (by lia),Int.toNat_natCast]
theorem sIx_le (n d:Nat)(hd:d<=n)(o:Option Int):sIx n d o<=n:=by
  cases o with
  | none=>exact hd
  | some v=>
    show(if v<0 then(v+(n:Int)).toNat else min v.toNat n)<=n
    by_cases hv:v<0
    · rw [if_pos hv];lia
    · rw [if_neg hv];exact Nat.min_le_right _ _
theorem clip_eq (v:Int)(n d:Nat):(if v<0 then max (v+(n:Int)) 0 else min v (n:Int))=((sIx n d (some v):Nat):Int):=by
  show(if v<0 then max (v+(n:Int)) 0 else min v (n:Int))=(((if v<0 then(v+(n:Int)).toNat else min v.toNat n):Nat):Int)
  by_cases hv:v<0
  · simp only [if_pos hv];lia
  · simp only [if_neg hv];lia
theorem adjust_gen (lo hi:Option Int)(n:Nat):Builtin.Slice.sliceAdjust lo hi 1 (n:Int)=(((sIx n 0 lo:Nat):Int),((sIx n n hi:Nat):Int)):=by
  have h1:¬ ((1:Int)<0):=by lia
  unfold Builtin.Slice.sliceAdjust
  simp only [h1,if_false]
  refine Prod.ext ?_ ?_
  · cases lo with
    | none=>rfl
    | some v=>exact clip_eq v n 0
  · cases hi with
    | none=>rfl
    | some v=>exact clip_eq v n n
theorem places_gen (i j:Nat):Builtin.Slice.slicePlaces (i:Int) (j:Int) 1=j - i:=by
  unfold Builtin.Slice.slicePlaces
  have h1:(1:Int) > 0:=by lia
  simp only [h1,if_true,Int.ediv_one]
  split<;>lia
theorem slicePart_ {v:Value}{o:Option Int}{Q:Option Int->Shared->Prop}(p:IsPart v o)(h:Q o s):wpAny (model prog w) A (Builtin.Slice.slicePartIndex v) Q E s:=by
  cases p with
  | none=>exact slicePart_none h
  | int i t=>exact slicePart_int h
theorem sliceApplied_gen {sl:Addr}{vl vu:Value}{lo hi:Option Int}{n:Nat}{Q:Int×Int×Nat->Shared->Prop}(hs:s.heap.IsSliceOf sl vl vu .none)(pl:IsPart vl lo)(pu:IsPart vu hi)
    (h:Q (((sIx n 0 lo:Nat):Int),1,sIx n n hi - sIx n 0 lo) s):wpAny (model prog w) A (Builtin.Slice.sliceApplied (.ref sl) (pure (n:Int))) Q E s:=by
  obtain⟨os,hos,hcs,hds⟩:=id hs
  unfold Builtin.Slice.sliceApplied Builtin.Slice.sliceFields
  refine wpAny_bind (wpAny_bind (wpAny_field hos hds (x:=vl) rfl (wpAny_bind (wpAny_field hos hds (x:=vu) rfl (wpAny_bind (wpAny_field hos hds (x:=.none) rfl (wpAny_pure ?_)))))))
  refine wpAny_bind (slicePart_none ?_)
  show wpAny _ _ (if ((1:Int) == 0)=true then _ else _) _ _ s
  rw [if_neg (by decide)]
  refine wpAny_bind (slicePart_ pl (wpAny_bind (slicePart_ pu (wpAny_bind (wpAny_pure ?_)))))
  show wpAny _ _ (match Builtin.Slice.sliceAdjust lo hi 1 (n:Int) with | (lo,hi)=>pure (lo,(1:Int),Builtin.Slice.slicePlaces lo hi 1)) _ _ s
  rw [adjust_gen lo hi n]
  show wpAny _ _ (pure (((sIx n 0 lo:Nat):Int),(1:Int),Builtin.Slice.slicePlaces ((sIx n 0 lo:Nat):Int) ((sIx n n hi:Nat):Int) 1)) _ _ s
  rw [places_gen]
  exact wpAny_pure h
theorem pick_gen (xs:Array Value)(i k:Nat):((List.range k).filterMap fun(m:Nat)=>xs[((i:Int)+(m:Int) * 1).toNat]?).toArray=((xs.toList.drop i).take k).toArray:=by
  have e:(fun(m:Nat)=>xs[((i:Int)+(m:Int) * 1).toNat]?)=fun m=>xs[i+m]?:=by
    funext m
    have:((i:Int)+(m:Int) * 1).toNat=i+m:=by lia
    rw [this]
  rw [e]
  have:=pick_run xs i k
  rw [List.filterMap_map] at this
  have e2:((fun x=>xs[x]?) ∘ fun x=>i+x)=fun m=>xs[i+m]?:=rfl
  rw [e2] at this
  rw [this]
theorem getItem_tuple_cut {t sl:Addr}{items:Array Value}{vl vu:Value}{lo hi:Option Int}{Q:Value->Shared->Prop}(ht:IsTup s.heap t items)(hs:s.heap.IsSliceOf sl vl vu .none)(pl:IsPart vl lo)(pu:IsPart vu hi)
    (hw:¬ (sIx items.size 0 lo=0/\sIx items.size items.size hi=items.size))
    (h:Q (.ref s.heap.objs.size) { s with heap:=s.heap.push { cls:=.type "tuple",data:=.seq ((items.toList.drop (sIx items.size 0 lo)).take (sIx items.size items.size hi - sIx items.size 0 lo)).toArray } })
    (hsz:items.size<=sizeLine):wpAny (model prog w) A (getItem (.ref t) (.ref sl)) Q E s:=by
  have htake:sizeOk (.seq ((items.toList.drop (sIx items.size 0 lo)).take (sIx items.size items.size hi - sIx items.size 0 lo)).toArray):=by
    show((items.toList.drop (sIx items.size 0 lo)).take (sIx items.size items.size hi - sIx items.size 0 lo)).toArray.size<=sizeLine
    rw [List.size_toArray,List.length_take,List.length_drop,Array.length_toList]
    lia
  have hj:sIx items.size items.size hi<=items.size:=sIx_le _ _ (Nat.le_refl _) hi
  obtain⟨os,hos,hcs,hds⟩:=id hs
  have hTs:s.TypeIs (.ref sl) "slice":=⟨os,hos,hcs⟩
  unfold getItem
  try with_reducible refine wpAny_holding ?_
  first | refine wpAny_bind (wpAny_pure ?_) | skip
  refine wpAny_bind (wpAny_sequenceKey ht.typeIs (by decide) ?_)
  refine wpAny_bind (wpAny_callSpecial?_slot (name:=Str.ofString "__getitem__") ht.typeIs PyProof.Rows.slot_tuple_getitem
    (wpAny_call_entry PyProof.Rows.slot_tuple_getitem ht.typeIs entry_tuple_getitem ?_ (args_tuple_getitem _ _)))
  show wpAny _ _ (Builtin.Tuple.tupleItemsOf (.ref t) >>= _) _ _ s
  refine wpAny_bind (tupleItemsOf_ ht ?_)
  refine wpAny_bind (wpAny_typeOf hTs ?_)
  rw [if_pos (by decide)]
  refine wpAny_bind (sliceApplied_gen hs pl pu ?_)
  have hno:¬ ((((sIx items.size 0 lo:Nat):Int) == 0&&(1:Int) == 1&&(sIx items.size items.size hi - sIx items.size 0 lo) == items.size)=true):=by
    intro q
    rw [Bool.and_eq_true,Bool.and_eq_true] at q
    have q1:((sIx items.size 0 lo:Nat):Int)=0:=eq_of_beq q.1.1
    have q2:sIx items.size items.size hi - sIx items.size 0 lo=items.size:=eq_of_beq q.2
    exact hw ⟨by lia,by lia⟩
  show wpAny _ _ (if (((sIx items.size 0 lo:Nat):Int) == 0&&(1:Int) == 1&&(sIx items.size items.size hi - sIx items.size 0 lo) == items.size)=true then _ else _) _ _ s
  rw [if_neg hno,pick_gen]
  first
    | exact wpAny_bind (m:=Builtin.Tuple.tupleExact _) (wpAny_newObj_type (wpAny_pure ⟨_,rfl,wpAny_pure h⟩) htake)
    | exact wpAny_bind (m:=Builtin.Tuple.tupleExact _) (wpAny_newObj_type (wpAny_bind (wpAny_pure (wpAny_pure ⟨_,rfl,wpAny_pure h⟩))) htake)
    | exact wpAny_bind (wpAny_bind (m:=Builtin.Tuple.tupleExact _) (wpAny_newObj_type (wpAny_pure (wpAny_pure ⟨_,rfl,wpAny_pure h⟩)) htake))
    | exact wpAny_bind (wpAny_bind (m:=Builtin.Tuple.tupleExact _) (wpAny_newObj_type (wpAny_pure ⟨_,rfl,wpAny_pure h⟩) htake))
end
end HT
namespace L2
open PySem PySem.Spec PyProof.Rows
noncomputable abbrev TO:=St->Hp->(Option Int->Hp->Prop)->Prop
def PO (X:Cx)(e:Option Expr)(t:TO):Prop:=
  ∀ (pins:List (Addr×Obj)) (s:Shared) (σ:St) (H:Hp) (Q:Option Int->Hp->Prop),Inv X pins σ H s->t σ H Q ->
    wpAny (model X.prog X.w) X.A (evalPart e X.env) (fun u s'=>∃ o H',Inv X pins σ H' s'/\IsPart u o/\Q o H') X.xe s
noncomputable def tNoPart:TO:=fun _ H Q=>Q none H
noncomputable def tPart (t:TE):TO:=fun σ H Q=>t σ H fun x H1=>∃ i,x=.int i/\Q (some i) H1
section
variable {X:Cx} {e:Expr} {te:TE} {lo hi:Option Expr} {tl th:TO} {pos p2:Pos}
theorem po_none:PO X none tNoPart:=by
  intro pins s σ H Q I h
  rw [evalPart_none]
  exact wpAny_pure ⟨none,H,I,.none,h⟩
theorem po_some (h:PE X e te):PO X (some e) (tPart te):=by
  intro pins s σ H Q I hw
  rw [evalPart_some]
  refine thn (h pins s σ H _ I hw) fun u s1 ⟨x,H1,I1,r1,q1⟩=>?_
  obtain⟨i,rfl,q⟩:=q1
  obtain⟨t,rfl⟩:=r1
  exact⟨some i,H1,I1,.int i t,q⟩
def SlR (X:Cx)(r:V->Option Int->Option Int->Hp->VK->Prop):Prop:=
  ∀ (pins:List (Addr×Obj)) (s:Shared) (σ:St) (H:Hp) (x:V) (v vl vu:Value) (lo hi:Option Int) (sl:Addr) (Q:VK),Inv X pins σ H s->RelV x v->s.heap.IsSliceOf sl vl vu .none->IsPart vl lo->IsPart vu hi->r x lo hi H Q ->
    ∃ T id,typeLookup (.type T) "__getitem__" = pure (some (.builtin id))/\s.TypeIs v T/\wpAny (model X.prog X.w) X.A (getItem v (.ref sl)) (EP X pins σ Q) X.xe s
theorem SlR.or {r r':V->Option Int->Option Int->Hp->VK->Prop}(h:SlR X r)(h':SlR X r'):SlR X (fun x lo hi H Q=>r x lo hi H Q\/r' x lo hi H Q):=by
  intro pins s σ H x v vl vu lo hi sl Q I rx hs pl pu q
  rcases q with q | q
  · exact h pins s σ H x v vl vu lo hi sl Q I rx hs pl pu q
  · exact h' pins s σ H x v vl vu lo hi sl Q I rx hs pl pu q
noncomputable def tSl (r:V->Option Int->Option Int->Hp->VK->Prop)(te:TE)(tl th:TO):TE:=fun σ H Q=>te σ H fun x H1=>tl σ H1 fun l H2=>th σ H2 fun u H3=>r x l u H3 Q
theorem pe_slice {r:V->Option Int->Option Int->Hp->VK->Prop}(hr:SlR X r)(he:PE X e te)(hl:PO X lo tl)(hu:PO X hi th):PE X (.Subscript e (.Slice lo hi none p2) pos) (tSl r te tl th):=by
  intro pins s σ H Q I h
  refine Subscript_ (thn (he pins s σ H _ I h) fun v s1 ⟨x,H1,I1,r1,q1⟩=>?_)
  refine wpAny_Slice (thn (hl pins s1 σ H1 _ I1 q1) fun vl s2 ⟨l,H2,I2,pl,q2⟩=>thn (hu pins s2 σ H2 _ I2 q2) fun vu s3 ⟨u,H3,I3,pu,q3⟩=>?_)
  rw [evalPart_none]
  refine wpAny_pure ?_
  have I4:Inv X pins σ H3 { s3 with heap:=s3.heap.push { cls:=.type "slice",data:=.fields #[vl,vu,.none] } }:=I3.kept (t':=s3.toks) fun b ob q=>Heap.get?_push_of_some _ q
  obtain⟨T,id,hT,ht,hg⟩:=hr pins { s3 with heap:=s3.heap.push { cls:=.type "slice",data:=.fields #[vl,vu,.none] } } σ H3 x v vl vu l u s3.heap.objs.size Q I4 r1 (Heap.IsSliceOf.new ..) pl pu q3
  show wpAny (model X.prog X.w) X.A (subscriptTail e (.Slice lo hi none p2) v (.ref s3.heap.objs.size)) (EP X pins σ Q) X.xe { s3 with heap:=s3.heap.push { cls:=.type "slice",data:=.fields #[vl,vu,.none] } }
  exact tail_any (ops:=[.ref s3.heap.objs.size,v]) ht hT hg (by with_unfolding_all rfl)
noncomputable def cutV (xs:List V)(lo hi:Option Int):List V:=(xs.drop (HT.sIx xs.length 0 lo)).take (HT.sIx xs.length xs.length hi - HT.sIx xs.length 0 lo)
theorem cutV_length (xs:List V)(lo hi:Option Int):(cutV xs lo hi).length<=xs.length:=by
  unfold cutV
  rw [List.length_take,List.length_drop]
  lia
noncomputable def rSlT (K:PySem.W.Frag):V->Option Int->Option Int->Hp->VK->Prop:=fun x lo hi H Q=>∃ a xs,x=.ref a/\SqT K H a xs /\
  ¬ (HT.sIx xs.length 0 lo=0/\HT.sIx xs.length xs.length hi=xs.length)/\∀ p,H p=none->Q (.ref p) (upd H p (.tup (cutV xs lo hi)))
theorem sl_tup:SlR X (rSlT X.K):=by
  intro pins s σ H x v vl vu lo hi sl Q I rx hs pl pu h
  obtain⟨a,xs,rfl,hx,hw,q⟩:=h
  cases rx
  obtain⟨its,r,ht,hz⟩:=I.tuple hx
  have hlen:its.toArray.size=xs.length:=by rw [List.size_toArray];exact r.length.symm
  refine⟨"tuple",_,PyProof.Rows.slot_tuple_getitem.lookup,ht.typeIs,?_⟩
  refine HT.getItem_tuple_cut ht hs pl pu (by rw [hlen];exact hw) ?_ (by rw [hlen];exact hz)
  rw [hlen]
  refine⟨.ref s.heap.objs.size,_,I.laid (t':=s.toks) (o:=.tup (cutV xs lo hi)) (fun b ob q=>Heap.get?_push_of_some _ q) (Nat.le_refl _) ?_,rfl,q _ (I.hok.fresh (Nat.le_refl _))⟩
  exact⟨Nat.le_trans (cutV_length xs lo hi) hz,_,(r.drop (HT.sIx xs.length 0 lo)).take (HT.sIx xs.length xs.length hi - HT.sIx xs.length 0 lo),IsTup.new _ _⟩
noncomputable def rCatT (K:PySem.W.Frag):R2:=fun x y H Q=>∃ a b xs ys,x=.ref a/\y=.ref b/\SqT K H a xs/\SqT K H b ys/\xs≠[]/\xs.length+ys.length<=sizeLine /\
  (ys=[]->Q (.ref a) H)/\(ys≠[]->∀ p,H p=none->Q (.ref p) (upd H p (.tup (xs++ys))))
theorem Vals.nil_iff {xs:List V}{us:List Value}(r:Vals xs us):us=[]↔xs=[]:=by
  cases r with
  | nil=>simp
  | cons _ _=>simp
theorem op_catT:OpR X (binaryOp .Add) (rCatT X.K):=by
  intro pins s σ H x y v u Q I rx ry h
  obtain⟨a,b,xs,ys,rfl,rfl,ha,hb,hx,hz,q1,q2⟩:=h
  cases rx
  cases ry
  obtain⟨its,r1,p1,_⟩:=I.tuple ha
  obtain⟨its2,r2,p2,_⟩:=I.tuple hb
  refine HT.cat_tup p1 p2 (fun z=>hx (r1.nil_iff.mp z)) (fun z=>⟨.ref a,H,I,rfl,q1 (r2.nil_iff.mp z)⟩) (fun z=>?_) (by rw [← r1.length,← r2.length];exact hz)
  refine⟨.ref s.heap.objs.size,_,I.laid (t':=s.toks) (o:=.tup (xs++ys)) (fun b ob q=>Heap.get?_push_of_some _ q) (Nat.le_refl _) ?_,rfl,q2 (fun w=>z (r2.nil_iff.mpr w)) _ (I.hok.fresh (Nat.le_refl _))⟩
  exact⟨by rw [List.length_append];exact hz,_,r1.append r2,IsTup.new _ _⟩
end
end L2
namespace L2
open PySem PySem.Spec PyProof.Rows
noncomputable def ixN (n:Nat)(i:Int):Option Nat:=if 0<=i then(if i<n then some i.toNat else none) else if -(n:Int)<=i then some (i+n).toNat else none
noncomputable def atI {α:Type}(xs:List α)(i:Int):Option α:=(ixN xs.length i).bind fun j=>xs[j]?
theorem ixN_seq {n:Nat}{i:Int}{j:Nat}(h:ixN n i=some j):seqIndex? i n=some j/\j<n/\-(n:Int)<=i/\i<n:=by
  unfold ixN at h
  by_cases h0:0<=i
  · rw [if_pos h0] at h
    by_cases h1:i<n
    · rw [if_pos h1] at h
      have e:i.toNat=j:=Option.some.inj h
      exact⟨by rw [seqIndex_of h0 h1,e],by lia,by lia,h1⟩
    · rw [if_neg h1] at h;cases h
  · rw [if_neg h0] at h
    by_cases h1:-(n:Int)<=i
    · rw [if_pos h1] at h
      have e:(i+n).toNat=j:=Option.some.inj h
      exact⟨by rw [seqIndex_neg (by lia) h1,e],by lia,h1,by lia⟩
    · rw [if_neg h1] at h;cases h
theorem atI_get {α:Type}{xs:List α}{i:Int}{v:α}(h:atI xs i=some v):∃ j,seqIndex? i xs.length=some j/\xs[j]? = some v/\j<xs.length/\-(xs.length:Int)<=i/\i<xs.length:=by
  unfold atI at h
  cases e:ixN xs.length i with
  | none=>rw [e] at h;cases h
  | some j=>
    rw [e] at h
    obtain⟨h1,h2,h3,h4⟩:=ixN_seq e
    exact⟨j,h1,h,h2,h3,h4⟩
theorem atI_nat {α:Type}{xs:List α}{j:Nat}{v:α}(h:xs[j]? = some v):atI xs (j:Int)=some v:=by
  have hj:j<xs.length:=(List.getElem?_eq_some_iff.mp h).1
  have e:ixN xs.length (j:Int)=some j:=by
    unfold ixN
    rw [if_pos (by lia),if_pos (by lia)];simp
  unfold atI;rw [e];exact h
def PlainIx (b:Expr):Prop:=∀ o i,subscripted b false o i=operate [o,i] (getItem o i)
def IxR (X:Cx)(r:R2):Prop:=
  ∀ (value slice:Expr) (pins:List (Addr×Obj)) (s:Shared) (σ:St) (H:Hp) (x y:V) (v u:Value) (Q:VK),Inv X pins σ H s->RelV x v->RelV y u->r x y H Q ->
    subscripted slice false v u=operate [v,u] (getItem v u)->wpAny (model X.prog X.w) X.A (subscriptTail value slice v u) (EP X pins σ Q) X.xe s
def MtR (X:Cx)(id:String)(r:V->List V->Hp->VK->Prop):Prop:=
  ∀ (pins:List (Addr×Obj)) (s:Shared) (σ:St) (H:Hp) (x:V) (xs:List V) (v:Value) (us:List Value) (Q:VK),Inv X pins σ H s->RelV x v->Vals xs us->r x xs H Q ->
    wpAny (model X.prog X.w) X.A (call (.builtin id) (v::us)) (EP X pins σ Q) X.xe s
section
variable {X:Cx} {a b:Expr} {ta tb:TE} {pos:Pos}
theorem IxR.or {r r':R2}(h:IxR X r)(h':IxR X r'):IxR X (fun x y H Q=>r x y H Q\/r' x y H Q):=by
  intro value slice pins s σ H x y v u Q I rx ry q hs
  rcases q with q | q
  · exact h value slice pins s σ H x y v u Q I rx ry q hs
  · exact h' value slice pins s σ H x y v u Q I rx ry q hs
theorem MtR.or {id:String}{r r':V->List V->Hp->VK->Prop}(h:MtR X id r)(h':MtR X id r'):MtR X id (fun x xs H Q=>r x xs H Q\/r' x xs H Q):=by
  intro pins s σ H x xs v us Q I rx rs q
  rcases q with q | q
  · exact h pins s σ H x xs v us Q I rx rs q
  · exact h' pins s σ H x xs v us Q I rx rs q
theorem pe_ix {r:R2}(hr:IxR X r)(ha:PE X a ta)(hb:PE X b tb)(hs:PlainIx b):PE X (.Subscript a b pos) (tOp r ta tb):=by
  intro pins s σ H Q I h
  exact Subscript_ (binT ha hb I h fun v u s2 x y H2 I2 rx ry q=>hr a b pins s2 σ H2 x y v u Q I2 rx ry q (hs _ _))
noncomputable def rIxL (K:PySem.W.Frag):R2:=fun x y H Q=>∃ p xs i v,x=.ref p/\y=.int i/\SqL K H p xs/\atI xs i=some v/\Q v H
noncomputable def rIxT (K:PySem.W.Frag):R2:=fun x y H Q=>∃ p xs i v,x=.ref p/\y=.int i/\SqT K H p xs/\atI xs i=some v/\Q v H
noncomputable def rIxS:R2:=fun x y H Q=>∃ z i c,x=.str z/\y=.int i/\z.length<=sizeLine/\atI z.cps.toList i=some c/\Q (.str ⟨#[c]⟩) H
theorem ix_list:IxR X (rIxL X.K):=by
  intro value slice pins s σ H x y v u Q I rx ry h hs
  obtain⟨p,xs,i,z,rfl,rfl,hq,he,q⟩:=h
  cases rx
  obtain⟨t,rfl⟩:=ry
  obtain⟨its,r,pl,hz⟩:=I.list hq
  obtain⟨j,h1,h2,h3,h4,h5⟩:=atI_get he
  obtain⟨w,ew,rw'⟩:=r.get h2
  have hl:=r.length
  have hn:=line63
  have fin:EP X pins σ Q w s:=⟨z,H,I,rw',q⟩
  by_cases h0:0<=i
  · have hj:i.toNat=j:=by
      rw [seqIndex_of h0 h5] at h1
      exact Option.some.inj h1
    exact item_listR pl.isList h0 (by lia) (by rw [hj];simpa using ew) fin hs
  · have hj:(i+(its.toArray.size:Int)).toNat=j:=by
      rw [seqIndex_neg (by lia) h4] at h1
      rw [List.size_toArray,← hl]
      exact Option.some.inj h1
    exact subscriptTail_builtinR (x:=w) pl.isList.typeIs slot_list_getitem.lookup
      (wpAny_getItem_list_neg (Q:=fun r s'=>r=w/\EP X pins σ Q r s') pl.isList (by lia) (by rw [List.size_toArray]<;>lia) (by lia) (by rw [hj];simpa using ew) ⟨rfl,fin⟩) hs
theorem ix_tup:IxR X (rIxT X.K):=by
  intro value slice pins s σ H x y v u Q I rx ry h hs
  obtain⟨p,xs,i,z,rfl,rfl,hq,he,q⟩:=h
  cases rx
  obtain⟨t,rfl⟩:=ry
  obtain⟨its,r,pl,hz⟩:=I.tuple hq
  obtain⟨j,h1,h2,h3,h4,h5⟩:=atI_get he
  obtain⟨w,ew,rw'⟩:=r.get h2
  have hl:=r.length
  have hn:=line63
  have fin:EP X pins σ Q w s:=⟨z,H,I,rw',q⟩
  exact subscriptTail_builtinR (x:=w) pl.typeIs slot_tuple_getitem.lookup
    (getItem_tuple (j:=j) (Q:=fun r s'=>r=w/\EP X pins σ Q r s') pl (by lia) (by lia) (by rw [List.size_toArray,← hl];exact h1) (by simpa using ew) ⟨rfl,fin⟩) hs
theorem ix_str:IxR X rIxS:=by
  intro value slice pins s σ H x y v u Q I rx ry h hs
  obtain⟨z,i,c,rfl,rfl,hz,he,q⟩:=h
  obtain⟨t,rfl⟩:=rx
  obtain⟨t',rfl⟩:=ry
  obtain⟨j,h1,h2,h3,h4,h5⟩:=atI_get he
  have hl:z.cps.toList.length=z.length:=by simp [Str.length]
  rw [hl] at h1 h4 h5
  have hn:=line63
  exact tail_any (typeIs_str s z t) slot_str_getitem.lookup (getItem_str (c:=c) (by
    have e1:decide (i < -(2 ^ 63:Int))=false:=decide_eq_false (by lia)
    have e2:decide (i ≥ 2 ^ 63)=false:=decide_eq_false (by lia)
    rw [e1,e2,Bool.or_false]) (by rw [h1];simpa using h2) ⟨.str ⟨#[c]⟩,H,I.tok _,⟨_,rfl⟩,q⟩) hs
theorem Inv.lst {pins:List (Addr×Obj)}{σ:St}{H:Hp}{s:Shared}{p:Addr}{xs:List V}(I:Inv X pins σ H s)(h:H p=some (.lst xs)) :
    ∃ (its:List Value) (n:Nat),Vals xs its/\s.heap.get? p=some { cls:=.type "list",data:=.seq its.toArray n }/\xs.length<=sizeLine:=by
  obtain⟨z,its,n,r,e⟩:=I.hok p _ h
  exact⟨its,n,r,e,z⟩
noncomputable def rSetL:V->V->V->Hp->(Hp->Prop)->Prop:=fun o i v H Q=>∃ p xs k j,o=.ref p/\i=.int k/\H p=some (.lst xs)/\ixN xs.length k=some j/\Q (upd H p (.lst (xs.set j v)))
noncomputable def rSlL (K:PySem.W.Frag):V->Option Int->Option Int->Hp->VK->Prop:=fun x lo hi H Q=>∃ a xs,x=.ref a/\SqL K H a xs/\∀ p,H p=none->Q (.ref p) (upd H p (.lst (cutV xs lo hi)))
noncomputable def flatV:V->Bool
  | .non=>true
  | .bl _=>true
  | .int _=>true
  | .str _=>true
  | _=>false
noncomputable def eqV:V->V->Bool
  | .non,.non=>true
  | .bl a,.bl b=>a == b
  | .bl a,.int b=>(if a then 1 else 0) == b
  | .int a,.bl b=>a == (if b then 1 else 0)
  | .int a,.int b=>a == b
  | .str a,.str b=>a == b
  | _,_=>false
theorem eqAt_V {A:Around}{s:Shared}{y x:V}{u v:Value}(ry:RelV y u)(rx:RelV x v)(fy:flatV y=true)(fx:flatV x=true):SeqAt.EqAt A s u v (eqV y x):=by
  cases y with
  | non=>
    cases ry
    cases x with
    | non=>cases rx;exact SeqAt.EqAt.same _
    | bl b=>cases rx;exact SeqAt.EqAt.none_bool b
    | int b=>obtain⟨t,rfl⟩:=rx;exact SeqAt.EqAt.none_int b t
    | str b=>obtain⟨t,rfl⟩:=rx;exact SeqAt.EqAt.none_str b t
    | _=>exact absurd (show false=true from fx) Bool.false_ne_true
  | bl a=>
    cases ry
    cases x with
    | non=>cases rx;exact SeqAt.EqAt.bool_none a
    | bl b=>cases rx;exact SeqAt.EqAt.bool_bool a b
    | int b=>obtain⟨t,rfl⟩:=rx;exact SeqAt.EqAt.bool_int a b t
    | str b=>obtain⟨t,rfl⟩:=rx;exact SeqAt.EqAt.bool_str a b t
    | _=>exact absurd (show false=true from fx) Bool.false_ne_true
  | int a=>
    obtain⟨t',rfl⟩:=ry
    cases x with
    | non=>cases rx;exact SeqAt.EqAt.int_none a t'
    | bl b=>cases rx;exact SeqAt.EqAt.int_bool a t' b
    | int b=>obtain⟨t,rfl⟩:=rx;exact SeqAt.EqAt.int_int a t' b t
    | str b=>obtain⟨t,rfl⟩:=rx;exact SeqAt.EqAt.int_str a t' b t
    | _=>exact absurd (show false=true from fx) Bool.false_ne_true
  | str a=>
    obtain⟨t',rfl⟩:=ry
    cases x with
    | non=>cases rx;exact SeqAt.EqAt.str_none a t'
    | bl b=>cases rx;exact SeqAt.EqAt.str_bool a t' b
    | int b=>obtain⟨t,rfl⟩:=rx;exact SeqAt.EqAt.str_int a t' b t
    | str b=>obtain⟨t,rfl⟩:=rx;exact SeqAt.EqAt.str_str a t' b t
    | _=>exact absurd (show false=true from fx) Bool.false_ne_true
  | _=>exact absurd (show false=true from fy) Bool.false_ne_true
noncomputable def eqU (x:V)(u:Value):Bool:=match u with
  | .none=>eqV .non x
  | .bool b=>eqV (.bl b) x
  | .int i _=>eqV (.int i) x
  | .str z _=>eqV (.str z) x
  | _=>false
theorem eqU_of {x y:V}{u:Value}(r:RelV y u)(f:flatV y=true):eqU x u=eqV y x:=by
  cases y with
  | non=>cases r;rfl
  | bl b=>cases r;rfl
  | int i=>obtain⟨t,rfl⟩:=r;rfl
  | str z=>obtain⟨t,rfl⟩:=r;rfl
  | _=>exact absurd (show false=true from f) Bool.false_ne_true
theorem any_eqU {x:V}:∀ {xs:List V} {us:List Value},Vals xs us->xs.all flatV=true->us.any (eqU x)=xs.any fun y=>eqV y x
  | _,_,.nil,_=>rfl
  | y::xs,u::us,.cons r t,f=>by
    rw [List.all_cons,Bool.and_eq_true] at f
    rw [List.any_cons,List.any_cons,eqU_of r f.1,any_eqU t f.2]
theorem mem_eqAt {A:Around}{s:Shared}{x:V}{v:Value}(rx:RelV x v)(fx:flatV x=true):∀ {xs:List V} {us:List Value},Vals xs us->xs.all flatV=true->∀ u∈us,SeqAt.EqAt A s u v (eqU x u)
  | _,_,.nil,_=>fun u hu=>by cases hu
  | y::xs,u::us,.cons r t,f=>fun u' hu=>by
    rw [List.all_cons,Bool.and_eq_true] at f
    rcases List.mem_cons.mp hu with rfl | hu
    · rw [eqU_of r f.1];exact eqAt_V r rx f.1 fx
    · exact mem_eqAt rx fx t f.2 u' hu
noncomputable def inV (x:V)(xs:List V):Bool:=xs.any fun y=>eqV y x
noncomputable def rIn (K:PySem.W.Frag)(neg:Bool):R2:=fun x y H Q=>∃ p xs,y=.ref p/\(SqL K H p xs\/SqT K H p xs)/\flatV x=true/\xs.all flatV=true/\Q (.bl (if neg then !inV x xs else inV x xs)) H
theorem op_in_seq:OpR X (compareOp .In) (rIn X.K false):=by
  intro pins s σ H x y v u Q I rx ry h
  obtain⟨p,xs,rfl,hq,fx,fs,q⟩:=h
  cases ry
  rcases hq with hq | hq
  · obtain⟨its,r,pl,hz⟩:=I.list hq
    refine SeqAt.in_listAt (eqU x) pl.isList (fun w hw=>mem_eqAt rx fx r fs w (by simpa using hw)) ⟨.bl _,H,I,rfl,?_⟩
    rw [show its.toArray.any (eqU x)=its.any (eqU x) by simp,any_eqU r fs]
    exact q
  · obtain⟨its,r,pl,hz⟩:=I.tuple hq
    refine SeqAt.in_tupleAt (eqU x) pl (fun w hw=>mem_eqAt rx fx r fs w (by simpa using hw)) ⟨.bl _,H,I,rfl,?_⟩
    rw [show its.toArray.any (eqU x)=its.any (eqU x) by simp,any_eqU r fs]
    exact q
theorem call_len_seq:CallR X (.builtin "len") (fun xs H Q=>∃ p ys,xs=[.ref p]/\(SqL X.K H p ys\/SqT X.K H p ys)/\Q (.int ys.length) H):=by
  intro pins s σ H xs us Q I r h
  obtain⟨p,ys,rfl,hq,q⟩:=h
  obtain⟨u,rfl,rx⟩:=vals1 r
  cases rx
  have hn:=line63
  rcases hq with hq | hq
  · obtain⟨its,r',pl,hz⟩:=I.list hq
    have hlen:=r'.length
    exact Calls.call_len_list pl.isList (by simp only [List.size_toArray]<;>lia) ⟨.int ys.length,H,I.tok _,⟨s.toks+1,by rw [List.size_toArray,hlen]⟩,q⟩
  · obtain⟨its,r',pl,hz⟩:=I.tuple hq
    have hlen:=r'.length
    exact len_tuple pl (by simp only [List.size_toArray]<;>lia) ⟨.int ys.length,H,I.tok _,⟨s.toks+1,by rw [List.size_toArray,hlen]⟩,q⟩
theorem call_len_str:CallR X (.builtin "len") (fun xs H Q=>∃ z,xs=[.str z]/\z.length<=sizeLine/\Q (.int z.length) H):=by
  intro pins s σ H xs us Q I r h
  obtain⟨z,rfl,hz,q⟩:=h
  obtain⟨u,rfl,t,rfl⟩:=vals1 r
  have hn:=line63
  exact len_str (by lia) ⟨.int z.length,H,I.tok _,⟨_,rfl⟩,q⟩
theorem CallR.or {f:Value}{r r':List V->Hp->VK->Prop}(h:CallR X f r)(h':CallR X f r'):CallR X f (fun xs H Q=>r xs H Q\/r' xs H Q):=by
  intro pins s σ H xs us Q I rs q
  rcases q with q | q
  · exact h pins s σ H xs us Q I rs q
  · exact h' pins s σ H xs us Q I rs q
theorem call_list_of:CallR X (.type "list") (fun xs H Q=>∃ p ys,xs=[.ref p]/\(SqL X.K H p ys\/SqT X.K H p ys)/\∀ l,H l=none->Q (.ref l) (upd H l (.lst ys))):=by
  intro pins s σ H xs us Q I r h
  obtain⟨p,ys,rfl,hq,q⟩:=h
  obtain⟨u,rfl,rx⟩:=vals1 r
  cases rx
  have fin:∀ (its:List Value),Vals ys its->ys.length<=sizeLine->∀ (h':Heap) (c':Nat),(∀ b o',s.heap.get? b=some o'->h'.get? b=some o') ->
      h'.get? s.heap.objs.size=some { cls:=.type "list",dict:=none,data:=.seq its.toArray c',slots:=#[] }->EP X pins σ Q (.ref s.heap.objs.size) { s with heap:=h' }:=fun its r' hz h' c' kp e=>
    ⟨.ref s.heap.objs.size,_,I.laid (t':=s.toks) kp (Nat.le_refl _) (show ObjOk X.prog X.w _ h' _ (.lst ys) from⟨hz,its,c',r',e⟩),rfl,q _ (I.hok.fresh (Nat.le_refl _))⟩
  rcases hq with hq | hq
  · obtain⟨its,r',pl,hz⟩:=I.list hq
    have hlen:=r'.length
    obtain⟨o,ho,hc,n,hd⟩:=pl.isList
    exact call_list_seq p (.inl rfl) ho hc hd (fun h' c' kp e=>fin its r' hz h' c' kp e) (by simp only [List.size_toArray]<;>lia)
  · obtain⟨its,r',pl,hz⟩:=I.tuple hq
    have hlen:=r'.length
    obtain⟨o,ho,hc,n,hd⟩:=pl
    exact call_list_seq p (.inr rfl) ho hc hd (fun h' c' kp e=>fin its r' hz h' c' kp e) (by simp only [List.size_toArray]<;>lia)
def tyV (K:PySem.W.Frag)(T:String)(x:V)(H:Hp):Prop:=match x with
  | .str _=>T="str"
  | .int _=>T="int"
  | .ref p=>(T="list"/\∃ xs,SqL K H p xs)\/(T="tuple"/\∃ o,K.lookup p=some o/\o.cls=.type "tuple"/\o.dict=none) \/
      (T="dict"/\((∃ kvs,H p=some (.dK kvs))\/∃ kvs,H p=some (.dT kvs)))\/(T="set"/\∃ S n,H p=some (.set S n))
  | _=>False
theorem tyV_is {pins:List (Addr×Obj)}{σ:St}{H:Hp}{s:Shared}{T:String}{x:V}{v:Value}(I:Inv X pins σ H s)(r:RelV x v)(ty:tyV X.K T x H) :
    s.TypeIs v T/\∀ a,v=.ref a->∃ ob,s.heap.get? a=some ob/\ob.dict=none:=by
  cases x with
  | str z=>
    obtain⟨t,rfl⟩:=r
    cases (show T="str" from ty)
    exact⟨typeIs_str s z t,fun _ e=>nomatch e⟩
  | int i=>
    obtain⟨t,rfl⟩:=r
    cases (show T="int" from ty)
    exact⟨typeIs_int s i t,fun _ e=>nomatch e⟩
  | ref p=>
    cases r
    rcases ty with⟨rfl,xs,hq⟩ | ⟨rfl,o,hk,hc,hd⟩ | ⟨rfl,hk⟩ | ⟨rfl,S,n,hk⟩
    · obtain⟨its,_,pl,_⟩:=I.list hq
      refine⟨pl.isList.typeIs,fun a e=>?_⟩
      cases e
      obtain⟨o,n,e,c,hd,_⟩:=pl
      exact⟨o,e,hd⟩
    · refine⟨⟨o,I.kIn p o hk,hc⟩,fun a e=>?_⟩
      cases e
      exact⟨o,I.kIn _ o hk,hd⟩
    · have z:∃ o,s.heap.get? p=some o/\o.ExactDict:=by
        rcases hk with⟨kvs,hk⟩ | ⟨kvs,hk⟩
        · obtain⟨_,_,_,_,o,_,_,e,ex,_⟩:=I.hok p _ hk
          exact⟨o,e,ex⟩
        · obtain⟨_,_,_,_,o,_,_,e,ex,_⟩:=I.hok p _ hk
          exact⟨o,e,ex⟩
      obtain⟨o,e,ex⟩:=z
      refine⟨⟨o,e,ex.1⟩,fun a e2=>?_⟩
      cases e2
      exact⟨o,e,ex.2.1⟩
    · obtain⟨o,_,_,_,e,ex,_⟩:=I.hok p _ hk
      refine⟨⟨o,e,ex.1⟩,fun a e2=>?_⟩
      cases e2
      exact⟨o,e,ex.2.1⟩
  | _=>exact False.elim ty
noncomputable def tBM0 (K:PySem.W.Frag)(T:String)(r:V->List V->Hp->VK->Prop)(to:TE):TE:=fun σ H Q=>to σ H fun x H1=>tyV K T x H1/\r x [] H1 Q
noncomputable def tBM (K:PySem.W.Frag)(T:String)(r:V->List V->Hp->VK->Prop)(to:TE)(t:TA):TE:=fun σ H Q=>to σ H fun x H1=>tyV K T x H1/\t σ H1 fun xs H2=>r x xs H2 Q
variable {o e:Expr} {es:List Expr} {to:TE} {t:TA} {name:Str} {apos cpos:Pos} {T id:String} {r:V->List V->Hp->VK->Prop}
theorem pe_bm (pa:PlainAttrs T)(slot:Slot T name id)(hty:typeOf (.builtin id)=pure (.type "method_descriptor"))(hm:MtR X id r)(ho:PE X o to)(ha:PA X (e::es) t)
    (hbase:attributeBase o name X.env (eval o X.env)=eval o X.env:=by rfl)
    (hfew:((backTo cpos (starEach (e::es) X.env)).all (fun x=>!x.1)&&(backToKw cpos (keywordEach [] X.env)).all (fun x=>x.1.isSome)
      && decide ((e::es).length+([]:List Keyword).length+(if ([]:List Keyword).isEmpty then 0 else 1)<30))=true:=by rfl)
    (hline:(apos.endLine == cpos.line)=true:=by rfl) (hs:starEach (e::es) X.env=(false,eval e X.env)::starEach es X.env:=by rfl) (hplain:(backTo cpos (starEach es X.env)).any (·.1)=false:=by rfl) :
    PE X (.Call (.Attribute o name apos) (e::es) [] cpos) (tBM X.K T r to t):=by
  intro pins s σ H Q I h
  refine wpAny_Call_method_late hbase hfew hline rfl (thn (ho pins s σ H _ I h) fun v s1 ⟨x,H1,I1,r1,ty,q1⟩=>?_)
  obtain⟨h1,h2⟩:=tyV_is I1 r1 ty
  refine⟨T,id,pa,slot,hty,h1,h2,?_⟩
  have hA:=ha cpos pins s1 σ H1 _ I1 q1
  rw [hs] at hA ⊢
  refine Calls.callWith_builtin (by show(false||(backTo cpos (starEach es X.env)).any (·.1))=false;rw [hplain]<;>rfl) (Calls.evalArgs_plain ?_)
  exact thn hA fun us s2 ⟨vs,H2,I2,r2,q2⟩=>hm pins s2 σ H2 x vs v us Q I2 r1 r2 q2
end
end L2
namespace L2
open PySem PySem.Spec PyProof.Rows
def MtM (X:Cx)(id:String)(r:V->List V->Hp->VK->Prop):Prop:=
  ∀ (pins:List (Addr×Obj)) (s:Shared) (σ:St) (H:Hp) (x:V) (xs:List V) (v:Value) (us:List Value) (Q:VK),Inv X pins σ H s->RelV x v->Vals xs us->r x xs H Q ->
    wpAny (model X.prog X.w) X.A (call (.builtin id) (v::us)) (EP X pins σ Q) X.xe s
theorem Vals.one:∀ {x:V} {us:List Value},Vals [x] us->∃ u,us=[u]/\RelV x u
  | _,_,.cons r .nil=>⟨_,rfl,r⟩
theorem Vals.zero:∀ {us:List Value},Vals [] us->us=[]
  | _,.nil=>rfl
theorem Vals.dropLast {xs:List V}{us:List Value}(h:Vals xs us):Vals xs.dropLast us.dropLast:=by
  induction h with
  | nil=>exact .nil
  | cons r t ih=>
    cases t with
    | nil=>exact .nil
    | cons q t'=>exact .cons r ih
theorem Vals.reverse {xs:List V}{us:List Value}(h:Vals xs us):Vals xs.reverse us.reverse:=by
  induction h with
  | nil=>exact .nil
  | cons r t ih=>rw [List.reverse_cons,List.reverse_cons];exact Vals.append ih (.cons r .nil)
section
variable {X:Cx} {pins:List (Addr×Obj)} {σ:St} {H:Hp} {s:Shared} {l b:Addr} {xs ys zs:List V}
theorem Inv.lset {its its':List Value}{n:Nat}{f:Array Value->Array Value}{t':Nat}(I:Inv X pins σ H s)(hH:H l=some (.lst xs))
    (e:s.heap.get? l=some { cls:=.type "list",data:=.seq its.toArray n }) (hf:f its.toArray=its'.toArray) (hv:Vals ys its') (hz:ys.length<=sizeLine) :
    Inv X pins σ (upd H l (.lst ys)) { s with heap:=s.heap.update l (Obj.mapSeq f),toks:=t' }:=by
  have q:=PySem.IsL.update e f
  rw [hf] at q
  refine I.write (x:=l) (e:=l) (by rw [hH];exact trivial) (.inl rfl) (fun b' u hb hu=>(Heap.get?_update_other s.heap (Obj.mapSeq f) (Ne.symm hb)).trans hu) ⟨_,q⟩ ?_
  exact⟨hz,its',_,hv,q⟩
theorem Inv.lnew {its:List Value}{t':Nat}(I:Inv X pins σ H s)(hv:Vals ys its)(hz:ys.length<=sizeLine) :
    Inv X pins σ (upd H s.heap.objs.size (.lst ys)) { s with heap:=s.heap.push { cls:=.type "list",data:=.seq its.toArray },toks:=t' }:=
  I.laid (fun _ _ q=>Heap.get?_push_of_some _ q) (Nat.le_refl _) ⟨hz,its,0,hv,Heap.get?_push_size _ rfl⟩
theorem Inv.fresh (I:Inv X pins σ H s):H s.heap.objs.size=none:=I.hok.fresh (Nat.le_refl _)
theorem Inv.lstM (I:Inv X pins σ H s)(hH:H l=some (.lst xs)):xs.length<=sizeLine/\∃ (its:List Value) (n:Nat),Vals xs its/\xs.length=its.length/\s.heap.get? l=some { cls:=.type "list",data:=.seq its.toArray n }:=by
  obtain⟨z,its,n,r,e⟩:=I.hok l _ hH
  exact⟨z,its,n,r,r.length,e⟩
theorem notLongL {n:Nat}(h:n<=sizeLine):Builtin.List.listTooLong n=false:=by
  unfold Builtin.List.listTooLong
  exact decide_eq_false (by lia)
end
section
variable {X:Cx}
noncomputable def rAppend:V->List V->Hp->VK->Prop:=fun x vs H Q=>∃ l xs y,x=.ref l/\vs=[y]/\H l=some (.lst xs)/\xs.length<sizeLine/\Q .non (upd H l (.lst (xs++[y])))
theorem mt_append:MtM X "list.append" rAppend:=by
  intro pins s σ H x vs v us Q I rx rv h
  obtain⟨l,xs,y,rfl,rfl,hH,hz,q⟩:=h
  cases rx
  obtain⟨u,rfl,ru⟩:=rv.one
  obtain⟨z,its,n,r,hl,e⟩:=I.lstM hH
  refine call_meets F.slot_list_append ⟨_,e,rfl⟩ F.entry_list_append (F.args_list_append_2 _ _) (PySem.list_append l its.toArray n u (by rw [List.size_toArray];lia)) ⟨e,?_⟩
  refine⟨.non,_,I.lset (its':=its++[u]) hH e (by simp) (r.append (.cons ru .nil)) ?_,rfl,q⟩
  rw [List.length_append,List.length_singleton]
  lia
noncomputable def rExtend:V->List V->Hp->VK->Prop:=fun x vs H Q=>∃ l b xs zs,x=.ref l/\vs=[.ref b]/\H l=some (.lst xs)/\H b=some (.lst zs)/\xs.length+zs.length<=sizeLine/\Q .non (upd H l (.lst (xs++zs)))
theorem mt_extend:MtM X "list.extend" rExtend:=by
  intro pins s σ H x vs v us Q I rx rv h
  obtain⟨l,b,xs,zs,rfl,rfl,hH,hB,hz,q⟩:=h
  cases rx
  obtain⟨u,rfl,ru⟩:=rv.one
  cases ru
  obtain⟨z,its,n,r,hl,e⟩:=I.lstM hH
  obtain⟨z2,its2,n2,r2,hl2,e2⟩:=I.lstM hB
  have hsz:its.toArray.size+its2.toArray.size<=sizeLine:=by rw [List.size_toArray,List.size_toArray];lia
  have hlong:¬ (!its.toArray.isEmpty&&Builtin.List.listTooLong (its.toArray.size+its2.toArray.size))=true:=by
    rw [notLongL hsz,Bool.and_false]
    exact Bool.false_ne_true
  refine call_meets F.slot_list_extend ⟨_,e,rfl⟩ F.entry_list_extend (F.args_list_extend_2 _ _)
    (AutoSeq1.list_extend_list_list_0 l its.toArray n b its2.toArray n2 hlong (by rw [List.size_toArray];lia) (by lia)) ⟨e,e2,?_⟩
  refine⟨.non,_,I.lset (its':=its++its2) hH e (by simp) (r.append r2) ?_,rfl,q⟩
  rw [List.length_append]
  lia
noncomputable def rPop:V->List V->Hp->VK->Prop:=fun x vs H Q=>∃ l xs y,x=.ref l/\vs=[]/\H l=some (.lst xs)/\xs[xs.length - 1]? = some y/\Q y (upd H l (.lst xs.dropLast))
noncomputable def rClear:V->List V->Hp->VK->Prop:=fun x vs H Q=>∃ l xs,x=.ref l/\vs=[]/\H l=some (.lst xs)/\Q .non (upd H l (.lst []))
noncomputable def rCat:R2:=fun x y H Q=>∃ l b xs zs,x=.ref l/\y=.ref b/\H l=some (.lst xs)/\H b=some (.lst zs)/\xs.length+zs.length<=sizeLine/\∀ p,H p=none->Q (.ref p) (upd H p (.lst (xs++zs)))
theorem op_cat:OpR X (binaryOp .Add) rCat:=by
  intro pins s σ H x y v u Q I rx ry h
  obtain⟨l,b,xs,zs,rfl,rfl,hH,hB,hz,q⟩:=h
  cases rx
  cases ry
  obtain⟨z,its,n,r,hl,e⟩:=I.lstM hH
  obtain⟨z2,its2,n2,r2,hl2,e2⟩:=I.lstM hB
  refine PySem.P.add_list e e2 ?_ (by rw [List.size_toArray,List.size_toArray];lia)
  have ea:its.toArray++its2.toArray=(its++its2).toArray:=by simp
  rw [ea]
  exact⟨.ref _,_,I.lnew (t':=s.toks) (r.append r2) (by rw [List.length_append];lia),rfl,q _ I.fresh⟩
end
section
variable {prog:Program} {w:World} {A:Around} {E:Value->Shared->Prop} {s:Shared}
set_option maxRecDepth 100000 in
end
section
variable {X:Cx}
end
end L2
namespace Att
open PySem PySem.W PySem.Calls PyProof.Rows
theorem ints_of_wellAll {P:Params}{h:Heap}:∀ (ns:List Int) (vs:List Value),WellAll P h vs (ns.map WData.int)->IntsAre vs ns:=by
  intro ns
  induction ns with
  | nil=>
    intro vs w
    rw [List.map_nil] at w
    cases w
    exact .nil
  | cons n ns ih=>
    intro vs w
    rw [List.map_cons] at w
    cases w with
    | cons a b=>
      cases a
      exact .cons _ _ (ih _ b)
theorem script_of {l:OpenLaw}{n:Nat}(hn:l.most=some n){P:Params}{h:Heap}{args:List WData}{vals:List Value}
    (hpre:l.row.toRowW.claim.pre args=true) (hwl:WellAll P h vals args) :
    ∃ a vs ns,vals=[Value.ref a]/\args=[WData.list (ns.map WData.int)]/\h.get? a=some { cls:=.type "list",data:=.seq vs.toArray }/\IntsAre vs ns/\ns.length<=n:=by
  have hsh:WShape.hasAll [] args [.list .int]=true:=(pre_splitW hpre).1
  have hc:l.pre.holds [] { args:=args }=true:=(pre_splitW hpre).2
  obtain⟨d,r,rfl,h1,h2⟩:=hasAllW_cons hsh
  obtain rfl:=hasAllW_nil h2
  obtain⟨xs,rfl,h3⟩:=hasW_list h1
  obtain⟨ns,rfl⟩:=items_int h3
  have hlen:ns.length<=n:=by
    unfold OpenLaw.pre at hc
    have h4:(WTm.not (.lt (.lit (.int (n:Int))) (.len (.arg 0)))).holds [] { args:=[.list (ns.map .int)] }=true:=by
      have h4:=(holds_andW hc).1
      rw [hn] at h4
      exact h4
    have h5:=condW_of h4 (w_not (w_lt w_lit (w_len_list (w_arg rfl))))
    rw [List.length_map] at h5
    refine Nat.le_of_not_lt fun q=>?_
    have q':(n:Int)<((ns.length:Nat):Int):=by lia
    first
      | (rw [decide_eq_true q'] at h5;exact absurd h5 (by decide))
      | (simp at h5;omega)
  cases hwl with
  | cons w1 w2=>
    cases w2
    cases w1 with
    | list ho hall=>exact⟨_,_,ns,rfl,rfl,ho,ints_of_wellAll ns _ hall,hlen⟩
theorem post_true (l:OpenLaw)(args:List WData):l.row.toRowW.claim.post args (.bool true) args=true:=
  postW_of (r:=l.row.toRowW) (X:=(true == true))
    (show WShape.has [] (.bool true) .bool=true by first | rfl | decide | simp [WShape.has,WShape.arms,WShape.armsAll])
    (show(WTm.eq .res (.lit (.bool true))).value [] { args:=args,res:=some (.bool true),after:=args }=some (.bool (true == true)) from w_eq_bool (w_res rfl) w_lit) rfl
theorem attach_call {l:OpenLaw}{n:Nat}{q:Program}{loose:List Str}{XP:(Str->Option Value)->Heap->Prop}{YP:World->Heap->Prop}{d:DefRec}
    (hn:l.most=some n) (hdf:d.params.defaults=[])
    (call:∀ (w:World) (s₀ s₁:Shared) (mg mb:Str->Option Value) (fa:Addr) (o:Obj) (pm cd doc:Value) (a:Addr) (vs:List Value) (ns:List Int),
      Ground q loose [] XP w s₀ mg mb s₁.heap->YP w s₁.heap ->
      s₁.heap.get? fa=some o->o.data=.func (docDef d.name d.params d.body d.scope pm cd doc)->s₁.heap.CodeRec cd d.name->mg d.name=some (.ref fa) ->
      s₁.heap.get? a=some { cls:=.type "list",data:=.seq vs.toArray }->IntsAre vs ns->ns.length<=n->s₁.gens = #[] ->
      codeAny (model l.prog w) callerA (.call (.ref fa) ⟨[.ref a],[]⟩) (fun r s'=>r=.ok (.ret (.bool true))/\OldK s₁.heap s'.heap/\s'.os=s₁.os/\AllBare s'.gens) s₁) :
    WalkO q loose XP YP l.row.toRowW d [] (fun f vs=>PySem.call f vs):=by
  intro w s₀ s₁ mg mb G Y fa o pm cd doc dV kV ho hd hcd hD hmg hg args vals as hpre hlay hrd hwl hlo
  obtain rfl:dV=.none:=Dflts.none hD hdf
  obtain rfl:kV=.none:=Dflts.noKw hD
  obtain⟨a,vs,ns,rfl,rfl,hobj,hints,hlen⟩:=script_of hn hpre hwl
  refine enter_call (codeAny_mono (call w s₀ s₁ mg mb fa o pm cd doc a vs ns G Y ho (fd_plain hd) hcd hmg hobj hints hlen hg) fun r s' hq=>?_)
  obtain⟨rfl,h2,h3,h4⟩:=hq
  exact⟨.inl ⟨.bool true,.bool true,[],rfl,fun _=>rfl,.bool true,post_true l _,fun _=>⟨List.Pairwise.nil,fun _ hm=>(nomatch hm)⟩⟩,h2,h3,h4⟩
section
variable {prog:Program} {w:World} {A:Around} {E:Value->Shared->Prop} {s:Shared} {K:Frag}
end
end Att
namespace L2
open PySem PySem.Spec PyProof.Rows
theorem vals_ints:∀ {vs:List Value} {ns:List Int},IntsAre vs ns->Vals (ns.map V.int) vs
  | _,_,.nil=>.nil
  | _,_,.cons n t h=>.cons ⟨t,rfl⟩ (vals_ints h)
def Only (H:Hp):Prop:=∀ b,H b=none\/∃ o xs,H b=some (.frz o (.lst xs))
theorem law_call {P:Program}{w:World}{K:PySem.W.Frag}{mg mb:Str->Option Value}{CX:CXT}{k:Nat}{fa a:Addr}{fd:FuncData}{x:Str}{sp:Sp}{s₁:Shared}{vs:List Value}{ns:List Int}
    (KX:K.In s₁.heap) (hns:s₁.heap.Ns mainGlobals mg) (hb:s₁.heap.Ns builtinsNs mb) (hbb:∀ x:Str,x≠"__name__"->mb x=bootBuiltins x) (hlim:s₁.heap.NoLimit) (hg:s₁.gens = #[])
    (ha:s₁.heap.get? a=some { cls:=.type "list",data:=.seq vs.toArray }) (hi:IntsAre vs ns) (hl:ns.length<=sizeLine) (hr:Room k callerA)
    (F:∀ base:Heap,K.In base->base.Ns mainGlobals mg->FnOk P w K mg base CX k fa fd [x] sp) (hbind:∀ (s:Shared) (u:Value),BindsTo s fd ⟨[u],[]⟩ [(x,u)])
    (hsp:∀ H:Hp,Only H->SqL K H a (ns.map V.int)->sp [.ref a] H (fun v _=>v=.bl true) fun _ _ _=>False)
    (hCX:∀ H e s',CX [] H s₁ (fun _ _ _=>False) e s'->False) :
    codeAny (model P w) callerA (.call (.ref fa) ⟨[.ref a],[]⟩) (fun r s'=>r=.ok (.ret (.bool true))/\OldK s₁.heap s'.heap/\s'.os=s₁.os/\AllBare s'.gens) s₁:=by
  have rv:=vals_ints hi
  have lenV:=hi.length
  have core:∀ H:Hp,Only H->SqL K H a (ns.map V.int)->HOk P w H s₁.heap->(∀ b,H b≠none->b=a)->(H a≠none->K.lookup a=none) ->
      codeAny (model P w) callerA (.call (.ref fa) ⟨[.ref a],[]⟩) (fun r s'=>r=.ok (.ret (.bool true))/\OldK s₁.heap s'.heap/\s'.os=s₁.os/\AllBare s'.gens) s₁:=by
    intro H hO hS hok hA hK
    have base_of:∀ {b:Addr} {o:Obj},s₁.heap.get? b=some o->H b=none->(hidT s₁.heap H).get? b=some o:=fun e n=>hidT_get e n
    have noA:∀ {b:Addr} {o:Obj} {es:Array DictEntry} {ep:Nat},s₁.heap.get? b=some o->o.data=.dict es ep->H b=none:=fun {b o es ep} e d=>by
      cases q:H b with
      | none=>rfl
      | some u=>
        have e':b=a:=hA b (by rw [q];simp)
        subst e'
        rw [ha] at e;cases e
        have d':Data.seq vs.toArray _=Data.dict es ep:=d
        cases d'
    have nsK:∀ {b:Addr} {m:Str->Option Value},s₁.heap.Ns b m->(hidT s₁.heap H).Ns b m:=fun {b m} ⟨o,es,ep,e,d,r⟩=>⟨o,es,ep,base_of e (noA e d),d,r⟩
    have hKb:K.In (hidT s₁.heap H):=fun b o e=>base_of (KX b o e) (by
      cases q:H b with
      | none=>rfl
      | some u=>
        have e':b=a:=hA b (by rw [q];simp)
        subst e'
        rw [hK (by rw [q];simp)] at e;cases e)
    have hM:Mod K mg (hidT s₁.heap H):=⟨hKb,nsK hns,⟨mb,nsK hb,hbb⟩,let ⟨mc,h1,h2⟩:=hlim;⟨mc,nsK h1,h2⟩⟩
    have e0:Env0 P w K mg (hidT s₁.heap H) callerA [] s₁ H:=⟨rfl,hM,fun b o e=>of_hidT e,Nat.le_of_eq (hidT_size _ _),trivial,fun b hb=>absurd (show b∈([]:List Addr) from hb) (by simp),hok,.of_eq hg⟩
    refine codeAny_mono ((F _ hKb (nsK hns)).run callerA [] s₁ H ⟨[.ref a],[]⟩ [.ref a] [.ref a] _ _ hr e0 (hbind s₁ (.ref a)) (.cons rfl .nil) (hsp H hO hS)) fun r s' h=>?_
    cases r with
    | error e=>exact(hCX H e s' h).elim
    | ok fl=>
      cases fl with
      | next=>exact False.elim h
      | brk=>exact False.elim h
      | cont=>exact False.elim h
      | ret u=>
        obtain⟨v,H',os,bare,un,hok',r',q⟩:=h
        have q':v=.bl true:=q
        subst q'
        obtain rfl:u=Value.bool true:=r'
        refine⟨rfl,OldK.of_keep fun b o e=>?_,os,bare⟩
        cases q:H b with
        | none=>exact un.keep b o e q (by intro z;exact absurd (show b∈([]:List Addr) from z) (by simp)) (by simp)
        | some u=>
          rcases hO b with z | ⟨ob,xs,z⟩
          · rw [q] at z;cases z
          · have z2:=un.frzs b ob _ z
            obtain⟨e1,_⟩:=hok b _ z
            obtain⟨e2,_⟩:=hok' b _ z2
            rw [e] at e1;cases e1
            exact e2
  cases hk:K.lookup a with
  | some o=>
    have e:=KX a o hk
    rw [ha] at e
    cases e
    refine core (fun _=>none) (fun _=>.inl rfl) (.inr ⟨_,vs.toArray,_,hk,rfl,rfl,rfl,by rw [List.size_toArray,lenV];exact hl,by simpa using rv⟩) (fun b u z=>by have z':(none:Option HO)=some u:=z;cases z') (fun b z=>absurd rfl z) fun z=>absurd rfl z
  | none=>
    refine core (fun b=>if b=a then some (.frz { cls:=.type "list",data:=.seq vs.toArray } (.lst (ns.map V.int))) else none) (fun b=>?_) (.inl (.inr ⟨{ cls:=.type "list",data:=.seq vs.toArray },if_pos rfl⟩)) (fun b u z=>?_) (fun b z=>?_) fun _=>hk
    · by_cases hb:b=a
      · exact .inr ⟨_,_,if_pos hb⟩
      · exact .inl (if_neg hb)
    · by_cases hb:b=a
      · have z':=(if_pos hb).symm.trans z
        cases z'
        subst hb
        exact⟨ha,by rw [List.length_map];exact hl,vs,_,rv,ha⟩
      · have z':=(if_neg hb).symm.trans z
        cases z'
    · by_cases hb:b=a
      · exact hb
      · exact absurd (if_neg hb) z
end L2
namespace L2
open PySem PySem.Spec PyProof.Rows
theorem walk_of {l:PySem.W.OpenLaw}{n k:Nat}{q:Program}{loose:List Str}{XP:(Str->Option Value)->Heap->Prop}{YP:World->Heap->Prop}{d:DefRec}{K:Params->PySem.W.Frag}{CX:World->CXT}{sp:World->Sp}{x:Str}
    (hn:l.most=some n) (hn2:n<=sizeLine) (hdf:d.params.defaults=[]) (hr:Room k callerA)
    (hY:∀ (w:World) (h:Heap),YP w h->(K w.params).In h)
    (F:∀ (w:World) (mg:Str->Option Value) (fa:Addr) (h:Heap),(K w.params).In h->h.Ns mainGlobals mg->mg d.name=some (.ref fa) ->
      ∃ fd:FuncData,(∀ (s:Shared) (u:Value),BindsTo s fd ⟨[u],[]⟩ [(x,u)]) /\
        ∀ base:Heap,(K w.params).In base->base.Ns mainGlobals mg->FnOk l.prog w (K w.params) mg base (CX w) k fa fd [x] (sp w))
    (hsp:∀ (w:World) (H:Hp) (a:Addr) (ns:List Int),ns.length<=n->Only H->SqL (K w.params) H a (ns.map V.int)->sp w [.ref a] H (fun v _=>v=.bl true) fun _ _ _=>False)
    (hCX:∀ (w:World) (H:Hp) (s:Shared) (e:Value) (s':Shared),CX w [] H s (fun _ _ _=>False) e s'->False) :
    PySem.W.WalkO q loose XP YP l.row.toRowW d [] (fun f vs=>PySem.call f vs):=by
  refine Att.attach_call hn hdf fun w s₀ s₁ mg mb fa o pm cd doc a vs ns G Y ho hd hcd hmg hobj hints hlen hg=>?_
  have KX:=hY w _ Y
  obtain⟨fd,hb,hF⟩:=F w mg fa _ KX G.T.g hmg
  exact law_call KX G.T.g G.T.b G.T.builtins G.T.nolimit hg hobj hints (Nat.le_trans hlen hn2) hr hF hb (fun H hO hS=>hsp w H a ns hlen hO hS) fun H e s'=>hCX w H s₁ e s'
end L2
namespace L2
open PySem PySem.Spec PyProof.Rows
noncomputable def inClass (s:Stmt)(j:Nat):Stmt:=match s with
  | .ClassDef _ _ _ body _ _ _ _ _ _ _=>body.getD j (.Pass ⟨0,0,0,0⟩)
  | _=>.Pass ⟨0,0,0,0⟩
noncomputable def defArgs (s:Stmt):Arguments:=match s with
  | .FunctionDef _ a _ _ _ _ _ _ _ _=>a
  | _=>{ posonlyargs:=[],args:=[],vararg:=none,kwonlyargs:=[],kw_defaults:=[],kwarg:=none,defaults:=[] }
noncomputable def defBody (s:Stmt):List Stmt:=match s with
  | .FunctionDef _ _ b _ _ _ _ _ _ _=>b
  | _=>[]
noncomputable def defScope (s:Stmt):Scope:=match s with
  | .FunctionDef _ _ _ _ _ _ sc _ _ _=>sc
  | _=>{ kind:=.function,names:=[],isGenerator:=false,isCoroutine:=false }
noncomputable abbrev CX0:CXT:=fun _ _ _ _ _ _=>False
noncomputable abbrev E0:XK:=fun _ _ _=>False
theorem pass0 {X:Cx}:Passes CX0 X E0:=fun _ _ _ _ _ _ _ h=>h.elim
structure Fun (K:PySem.W.Frag)(x qual:Str)(st:Stmt)(f:Addr)(fd:FuncData):Prop where
  ex:∃ (oc:Value) (od:Option Addr) (kV doc pm:Value) (an:Option Addr) (cdv ct:Value) (osl:Array (Option Value)),
    fd=PySem.W.fnOf x qual (defArgs st) (defBody st) (defScope st) .none kV doc pm an cdv ct/\K.lookup f=some ⟨oc,od,.func fd,osl⟩/\PySem.W.codeIn K cdv qual=true
  kp:PySem.W.keepIn K (.ref f)=true
section
variable {P:Program} {w:World} {K:PySem.W.Frag} {mg:Str->Option Value} {base:Heap}
theorem Fun.ok {x qual:Str}{st:Stmt}{f:Addr}{fd:FuncData}{N ps:List Str}{k:Nat}{sp:Sp}(F:Fun K x qual st f fd)(S:FnScope N ps (defScope st))(len:∀ vs H Q E,sp vs H Q E->vs.length=ps.length)
    (hbody:∀ (cdv:Value) (A:Around) (outer:List Env) (s:Shared) (H:Hp) (vs:List V) (Q:VK) (E:XK),Room k (A.deeper (envOfC qual (defScope st) s.heap.objs.size f cdv))->sp vs H Q E ->
      ∃ t,PSs (cxOf CX0 P w K mg base N qual (defScope st) f cdv A outer s H E).nox (defBody st) t/\t { nx:=fun _ H'=>Q .non H',rt:=Q } (start N vs) H):FnOk P w K mg base CX0 (k+1) f fd ps sp:=by
  obtain⟨oc,od,kV,doc,pm,an,cdv,ct,osl,rfl,lk,hcd⟩:=F.ex
  refine fn_of lk hcd S len fun A outer s H vs Q E hr hsp=>?_
  obtain⟨t,h,q⟩:=hbody cdv A outer s H vs Q E hr hsp
  exact⟨t,h.nox,q⟩
theorem Fun.binds {x qual:Str}{st:Stmt}{f:Addr}{fd:FuncData}{ps:List Str}(F:Fun K x qual st f fd)
    (h:∀ (kV doc pm:Value) (an:Option Addr) (cdv ct:Value) (us:List Value),us.length=ps.length->bindArgs (PySem.W.fnOf x qual (defArgs st) (defBody st) (defScope st) .none kV doc pm an cdv ct) ⟨us,[]⟩=pure (ps.zip us)):Binds K fd ps []:=by
  obtain⟨oc,od,kV,doc,pm,an,cdv,ct,osl,rfl,lk,hcd⟩:=F.ex
  exact .all (h kV doc pm an cdv ct)
theorem fun_mk {x qual:Str}{st:Stmt}{f:Addr}{oc:Value}{od an:Option Addr}{osl:Array (Option Value)}{kV doc pm cdv ct:Value}(l:K.lookup f=some ⟨oc,od,.func (PySem.W.fnOf x qual (defArgs st) (defBody st) (defScope st) .none kV doc pm an cdv ct),osl⟩)
    (c:PySem.W.codeIn K cdv qual=true) (k:PySem.W.keepIn K (.ref f)=true):Fun K x qual st f (PySem.W.fnOf x qual (defArgs st) (defBody st) (defScope st) .none kV doc pm an cdv ct):=⟨⟨oc,od,kV,doc,pm,an,cdv,ct,osl,rfl,l,c⟩,k⟩
end
theorem hu_of {A:Around}{k:Nat}(hr:Room k A):A.units+1<cLine:=Nat.lt_of_le_of_lt (Nat.add_le_add_left (by decide:1<=64) _) hr.units
section
variable {X:Cx}
theorem pv (i:Nat){x:Str}{pos:Pos}(hN:X.N[i]? = some x:=by rfl) (hv:Vis X.env.scope x:=by first | exact Or.inl rfl | exact Or.inr (Or.inl rfl) | exact Or.inr (Or.inr rfl)) (hd:(x == ("__debug__":Str))=false:=by decide)
    (hcd:(x == ("__classdict__":Str))=false:=by decide):PE X (.Name x pos) (tVar i):=pe_var hN hv hd hcd
end
def Same (H H':Hp):Prop:=∀ b o,H b=some o->H' b=some o
theorem Same.refl (H:Hp):Same H H:=fun _ _ h=>h
theorem Same.trans {H H1 H2:Hp}(a:Same H H1)(b:Same H1 H2):Same H H2:=fun c o h=>b c o (a c o h)
theorem Same.free {H H':Hp}(e:Same H H'){l:Addr}(h:H' l=Option.none):H l=Option.none:=by
  cases q:H l with
  | none=>rfl
  | some o=>
    rw [e l o q] at h
    cases h
theorem Same.seq {K:PySem.W.Frag}{H H':Hp}{a:Addr}{xs:List V}(e:Same H H')(h:SqL K H a xs):SqL K H' a xs:=by
  rcases h with(h | ⟨o,h⟩) | h
  · exact .inl (.inl (e _ _ h))
  · exact .inl (.inr ⟨o,e _ _ h⟩)
  · exact .inr h
end L2
namespace L2
open PySem PySem.Spec PyProof.Rows
noncomputable def Its (x:Str):It:=⟨fun i _=>i<x.cps.size,fun i H v H'=>H' = H/\∃ c,x.cps[i]? = some c/\v=.str ⟨#[c]⟩,fun i _=>x.cps.size<=i⟩
section
variable {X:Cx} {tg:Expr}
theorem turn_of_str {P:Program}{w:World}{K:PySem.W.Frag}{tg:Expr}{x:Str}{t:Tok}{ty:String}{it:Addr}
    (hty:["enumerate","zip","dict_itemiterator","dict_reverseitemiterator","odict_iterator","itertools.zip_longest","itertools.pairwise"].contains ty=false)
    (W:∀ A':Around,A'.handled=none->Walks P w A' it [it] [it] x.cps.size (SignAt x) (fun i h=>h.IsStrIter it ty x t i))
    (hend:∀ (A':Around) (s:Shared) (i:Nat) (E:Value->Shared->Prop) (Q:Option Value->Shared->Prop),A'.handled=none->s.heap.IsStrIter it ty x t i->x.cps[i]? = none ->
      (∀ h',(∀ b o,b≠it->s.heap.get? b=some o->h'.get? b=some o)->Q none { s with heap:=h' })->wpAny (model P w) A' (pyNext (.ref it)) Q E s)
    (hself:∀ (A':Around) (s:Shared) (i:Nat) (E:Value->Shared->Prop) (Q:Value->Shared->Prop),s.heap.IsStrIter it ty x t i->Q (.ref it) s->wpAny (model P w) A' (pyIter (.ref it)) Q E s) :
    Turn P w K tg (Its x) [it] it (fun i h=>h.IsStrIter it ty x t i) where
  mem:=by simp
  obj:=fun i h st b hb=>by
    have e:b=it:=by simpa using hb
    subst e
    obtain⟨o,e,c,d⟩:=st
    exact⟨o,e,fun v z=>by rw [d] at z;cases z⟩
  keep:=fun i h h' st k=>let ⟨o,ho,r⟩:=st;⟨o,k it (by simp) o ho,r⟩
  item:=by
    intro X hP hw hK hc i pins s σ H E I hf st hg
    subst hP hw hK
    obtain⟨f0,f1,f2,f3,f4,f5⟩:=hf it (by simp)
    refine(W X.A (I.ok.hd hc)).item i s _ _ hg st fun v h' tk hv st' kk=>?_
    obtain⟨c,u,hcu,rfl⟩:=hv
    have I1:Inv X pins σ H { s with heap:=h',toks:=tk }:=I.turned (fun b o hb e=>kk b o (by simpa using hb) e) f0 f1 f3 f4 f5
    obtain⟨o,e,hcl,d⟩:=id st'
    exact⟨_,rfl,go_of (s:={ s with heap:=h',toks:=tk }) e hcl d hty ⟨.str ⟨#[c]⟩,H,I1,⟨u,rfl⟩,⟨rfl,c,hcu,rfl⟩,st',fun b hb=>(hf b hb).1⟩⟩
  done:=by
    intro X hP hw hK hc i pins s σ H E I hf st hg
    subst hP hw hK
    obtain⟨f0,f1,f2,f3,f4,f5⟩:=hf it (by simp)
    have hg':x.cps.size<=i:=hg
    exact hend X.A s i E _ (I.ok.hd hc) st (by simp [hg']) fun h' eb=>⟨rfl,I.turned (t':=s.toks) (fun b o hb e=>eb b o hb e) f0 f1 f3 f4 f5⟩
  self:=fun A i s Q E st h=>hself A s i E Q st h
noncomputable def iStr (tl:TE):TI:=fun σ H R=>tl σ H fun x H1=>∃ z,x=.str z/\R (Its z) H1
theorem pi_str {l:Expr}{tl:TE}(hl:PE X l tl):PI X tg l (iStr tl):=by
  intro pins s σ H R I h
  refine thn (hl pins s σ H _ I h) fun v s1 ⟨x,H1,I1,r1,q1⟩=>?_
  obtain⟨z,rfl,q⟩:=q1
  obtain⟨t,rfl⟩:=r1
  have fin:∀ (ty:String) (o:Obj),Turn X.prog X.w X.K tg (Its z) [s1.heap.objs.size] s1.heap.objs.size (fun i h=>h.IsStrIter s1.heap.objs.size ty z t i)->(s1.heap.push o).IsStrIter s1.heap.objs.size ty z t 0 ->
      PIE X pins σ tg R (.ref s1.heap.objs.size) { s1 with heap:=s1.heap.push o }:=fun ty o T st=>by
    refine⟨s1.heap.objs.size,[s1.heap.objs.size],_,_,H1,rfl,I1.kept (t':=s1.toks) fun b o e=>Heap.get?_push_of_some _ e,T,st,fun b hb=>?_,q⟩
    have e:b=s1.heap.objs.size:=by simpa using hb
    subst e
    exact I1.fpOk (Nat.le_refl _) (I1.hok.fresh (Nat.le_refl _))
  cases ha:z.cps.all (· < 128)
  · refine wpAny_pyIter_wide ha (fin "str_iterator" _ (turn_of_str (by decide) (fun A' hA=>Walks.strWide hA _ z t) ?_ ?_) ⟨_,Heap.get?_push_size _ rfl,rfl,rfl⟩)
    · intro A' s i E Q hA st hx hq
      exact wpAny_pyNext_wide_end hA st hx hq
    · intro A' s i E Q st h
      exact wpAny_pyIter_striter_wide st h
  · refine wpAny_pyIter_ascii ha (fin "str_ascii_iterator" _ (turn_of_str (by decide) (fun A' hA=>Walks.strAscii hA _ z t) ?_ ?_) ⟨_,Heap.get?_push_size _ rfl,rfl,rfl⟩)
    · intro A' s i E Q hA st hx hq
      exact wpAny_pyNext_ascii_end hA st hx hq
    · intro A' s i E Q st h
      exact wpAny_pyIter_striter_ascii st h
end
end L2
namespace L2
open PySem PySem.Spec PyProof.Rows
theorem relabel_lookup {env:Env}(y:Str):∀ (names:List (Str×NameKind)),
    (names.map fun(n,k)=>if (k == NameKind.free&&env.scope.kind == .function&&env.kindOf n == some .cell) then(n,NameKind.cell) else(n,k)).lookup y =
      (names.lookup y).map fun k=>if (k == NameKind.free&&env.scope.kind == .function&&env.kindOf y == some .cell) then NameKind.cell else k
  | []=>rfl
  | (n,k)::r=>by
    have ih:=relabel_lookup y r (env:=env)
    rw [List.map_cons]
    by_cases hy:y=n
    · subst hy
      show List.lookup y ((if (k == NameKind.free&&env.scope.kind == .function&&env.kindOf y == some .cell)=true then(y,NameKind.cell) else(y,k))::_)=_
      by_cases hc:(k == NameKind.free&&env.scope.kind == .function&&env.kindOf y == some .cell)=true
      · rw [if_pos hc]
        simp only [List.lookup_cons,beq_self_eq_true,Option.map_some,hc,if_true]
      · rw [if_neg hc]
        simp only [List.lookup_cons,beq_self_eq_true,Option.map_some,hc,if_false]
        rfl
    · have hb:(y == n)=false:=by simpa using hy
      show List.lookup y ((if (k == NameKind.free&&env.scope.kind == .function&&env.kindOf n == some .cell)=true then(n,NameKind.cell) else(n,k))::_)=_
      by_cases hc:(k == NameKind.free&&env.scope.kind == .function&&env.kindOf n == some .cell)=true
      · rw [if_pos hc]
        simp only [List.lookup_cons,hb]
        exact ih
      · rw [if_neg hc]
        simp only [List.lookup_cons,hb]
        exact ih
theorem closure_go {env:Env}:∀ (names:List (Str×NameKind)) (cs:List (Str×Addr)),(∀ y∈names,y.2=.free->∃ c,env.cells.lookup y.1=some c)->(∀ y c,cs.lookup y=some c->env.cells.lookup y=some c) ->
    ∃ cl,(forIn (m:=Sem) names cs fun(x:Str×NameKind) (r:List (Str×Addr))=>(if (x.2 == .free)=true then(do let c ← cellOf env x.1;pure (ForInStep.yield ((x.1,c)::r))) else pure (ForInStep.yield r)))=pure cl /\
      (∀ y c,cl.lookup y=some c->env.cells.lookup y=some c)/\(∀ y∈names,y.2=.free->∃ c,cl.lookup y.1=some c)/\∀ y,(∃ c,cs.lookup y=some c)->∃ c,cl.lookup y=some c
  | [],cs,_,hcs=>⟨cs,rfl,hcs,(fun _ h=>nomatch h),(fun _ h=>h)⟩
  | (n,k)::r,cs,h,hcs=>by
    by_cases hk:k=.free
    · subst hk
      obtain⟨c,hc⟩:=h (n,.free) List.mem_cons_self rfl
      have hc:env.cells.lookup n=some c:=hc
      have hcs':∀ y c',((n,c)::cs).lookup y=some c'->env.cells.lookup y=some c':=fun y c' e=>by
        by_cases hy:y=n
        · subst hy
          simp only [List.lookup_cons,beq_self_eq_true] at e
          cases e
          exact hc
        · have hb:(y == n)=false:=by simpa using hy
          simp only [List.lookup_cons,hb] at e
          exact hcs y c' e
      obtain⟨cl,e1,e2,e3,e4⟩:=closure_go r ((n,c)::cs) (fun y hy=>h y (List.mem_cons_of_mem _ hy)) hcs'
      refine⟨cl,?_,e2,fun y hy hf=>?_,fun y hy=>e4 y ?_⟩
      · rw [List.forIn_cons]
        simp only [beq_self_eq_true,if_true,cellOf,hc]
        exact e1
      · rcases List.mem_cons.mp hy with rfl | hy
        · exact e4 n ⟨c,by simp only [List.lookup_cons,beq_self_eq_true]⟩
        · exact e3 y hy hf
      · obtain⟨c',hc'⟩:=hy
        by_cases hy:y=n
        · subst hy
          exact⟨c,by simp only [List.lookup_cons,beq_self_eq_true]⟩
        · have hb:(y == n)=false:=by simpa using hy
          exact⟨c',by simp only [List.lookup_cons,hb];exact hc'⟩
    · obtain⟨cl,e1,e2,e3,e4⟩:=closure_go r cs (fun y hy=>h y (List.mem_cons_of_mem _ hy)) hcs
      refine⟨cl,?_,e2,fun y hy hf=>?_,e4⟩
      · have hb:(k == NameKind.free)=false:=by simpa using hk
        rw [List.forIn_cons]
        simp only [hb,Bool.false_eq_true,if_false]
        exact e1
      · rcases List.mem_cons.mp hy with rfl | hy
        · exact absurd hf hk
        · exact e3 y hy hf
theorem closure_of {env:Env}{scope:Scope}(h:∀ y∈scope.names,y.2=.free->∃ c,env.cells.lookup y.1=some c) :
    ∃ cl,closureFor scope env=pure cl/\(∀ y c,cl.lookup y=some c->env.cells.lookup y=some c)/\(∀ y∈scope.names,y.2=.free->∃ c,cl.lookup y.1=some c):=by
  obtain⟨cl,e1,e2,e3,_⟩:=closure_go scope.names [] h (fun y c e=>by simp at e)
  refine⟨cl,?_,e2,e3⟩
  have e:closureFor scope env=(forIn (m:=Sem) scope.names [] fun(x:Str×NameKind) (r:List (Str×Addr))=>(if (x.2 == .free)=true then(do let c ← cellOf env x.1;pure (ForInStep.yield ((x.1,c)::r))) else pure (ForInStep.yield r))) >>= fun cs=>pure cs:=rfl
  rw [e,e1]
  rfl
theorem compLoop_go {prog:Program}{w:World}{A:Around}{R:Result->Shared->Prop}{s:Shared}{elt target iter:Expr}{ifs:List Expr}{scope:Scope}{pos:Pos}{it acc:Value}{env:Env}(I:Nat->Shared->Prop)
    (turn:∀ n s,I n s->wpAny (model prog w) A (pyNext it) (fun r s₁=>match r with
      | none=>R (.ok .next) s₁
      | some v=>wpAny (model prog w) A (letOwnedTupleGo target it v) (fun _ s₁=>wpAny (model prog w) A (assign target env v) (fun _ s₂=>
          wpAny (model prog w) A (forIn ifs true fun c r=>if r=true then do let ok ← isTrue c env (eval c env);pure (ForInStep.yield ok) else pure (ForInStep.yield r)) (fun ok s₃=>
            if ok=true then wpAny (model prog w) A (eval elt env) (fun x s₄=>
              wpAny (model prog w) A (call (.builtin "list.append") [acc,x]) (fun _ s₅=>∃ m,m<n/\I m s₅) (fun _ _=>False) s₄) (fun _ _=>False) s₃
            else ∃ m,m<n/\I m s₃) (fun _ _=>False) s₂) (fun _ _=>False) s₁) (fun _ _=>False) s₁) (fun _ _=>False) s)
    (n:Nat) (h:I n s) :
    codeAny (model prog w) A (.compLoop (.ListComp elt [⟨target,iter,ifs,0⟩] scope pos) 0 it acc env) R s:=by
  refine codeAny_loop rfl I (fun n s hI=>?_) n h
  show wpAny _ A ((compTurn (.ListComp elt [⟨target,iter,ifs,0⟩] scope pos) 0 it acc env).onRaise (fun x=>do noteFrame x env;theTreesLotGoes x)) _ _ s
  refine wpAny_noted ?_
  rw [compTurn_list]
  refine wpAny_bind (wpAny_standAt (wpAny_bind (wpAny_mono (turn n s hI) (fun r s₁ h₁=>?_) fun _ _ h'=>h'.elim)))
  cases r with
  | none=>exact wpAny_pure h₁
  | some v=>
    refine wpAny_bind (wpAny_mono h₁ (fun _ s₁ h₁=>?_) fun _ _ h'=>h'.elim)
    refine wpAny_bind (wpAny_mono h₁ (fun _ s₂ h₂=>wpAny_bind (wpAny_mono h₂ (fun ok s₃ h₃=>?_) fun _ _ h'=>h'.elim)) fun _ _ h'=>h'.elim)
    cases ok with
    | false=>exact wpAny_pure ⟨rfl,h₃⟩
    | true=>
      exact wpAny_bind (wpAny_bind (wpAny_mono h₃ (fun x s₄ h₄=>wpAny_bind (wpAny_mono h₄ (fun _ s₅ h₅=>wpAny_pure (wpAny_pure ⟨rfl,h₅⟩)) fun _ _ h'=>h'.elim)) fun _ _ h'=>h'.elim))
noncomputable def blk (X:Cx)(x:Str)(scope:Scope)(cl:List (Str×Addr))(C:Addr)(s3:Shared)(H3:Hp)(fp:List Addr):Cx:=
  { X with N:=x::X.N,s₀:=s3,H₀:=H3,env:=compEnvC scope cl C X.env,outer:=X.stack,ex:=fp,fn:=fun _=>false,pn:=[],xe:=fun _ _=>False }
def PTs (X:Cx)(ifs:List Expr)(t:TT):Prop:=
  ∀ (pins:List (Addr×Obj)) (s:Shared) (σ:St) (H:Hp) (Q:Bool->Hp->Prop),Inv X pins σ H s->t σ H Q ->
    wpAny (model X.prog X.w) X.A (forIn ifs true fun c r=>if r=true then do let ok ← isTrue c X.env (eval c X.env);pure (ForInStep.yield ok) else pure (ForInStep.yield r)) (TP X pins σ Q) X.xe s
noncomputable def tTrue:TT:=fun _ H Q=>Q true H
theorem pts_nil {X:Cx}:PTs X [] tTrue:=fun _ _ _ H _ I h=>wpAny_tests_nil ⟨H,I,h⟩
def lcBody (J:It)(tt:TT)(te:TE)(σ:St)(H1:Hp)(Q:VK):Prop:=∀ D,H1 D=none->∃ W:Nat->Nat->List V->Hp->Prop,(∃ m,W 0 m [] (upd H1 D (.lst [])))/\∀ i m ys H',W i m ys H'->H' D=some (.lst ys) /\
  ((J.stop i H'/\Q (.ref D) H')\/(J.go i H'/\∀ v H2,J.yld i H' v H2->tt (some v::σ) H2 fun b H3=>
    if b=true then te (some v::σ) H3 fun y H4=>H4 D=some (.lst ys)/\ys.length<sizeLine/\∃ m',m' < m/\W (i+1) m' (ys++[y]) (upd H4 D (.lst (ys++[y]))) else ∃ m',m' < m/\W (i+1) m' ys H3))
noncomputable def tLC (wi:TI)(tt:TT)(te:TE):TE:=fun σ H Q=>wi σ H fun J H1=>lcBody J tt te σ H1 Q
structure LcScope (X:Cx)(x:Str)(scope:Scope):Prop where
  xN:x∉X.N
  nd:X.N.Nodup
  kind:scope.kind=.function
  cell:∀ y∈scope.names,y.2≠.cell
  names:∀ y∈scope.names,y.2=.local->scope.names.lookup y.1=some .local
  var:scope.names.lookup x=some .local
  free:∀ y∈scope.names,y.2=.free->X.env.kindOf y.1=some .cell
  out:∀ y∈X.N,scope.names.lookup y≠some .local
  calm:X.calm=true
section
variable {X:Cx} {elt iter:Expr} {x:Str} {px pos:Pos} {ifs:List Expr} {scope:Scope} {wi:TI} {tt:TT} {te:TE}
theorem lc_core {pins:List (Addr×Obj)}{σ:St}{H:Hp}{s:Shared}{E:Value->Shared->Prop}{Q:Value->Shared->Prop}{use:Option (Value->Sem Unit)}{QV:VK}(L:LcScope X x scope)(I:Inv X pins σ H s)
    (hi:wpAny (model X.prog X.w) X.A (eval iter X.env) (fun v s1=>wpAny (model X.prog X.w) X.A (pyIter v) (PIE X pins σ (.Name x px) (fun J H1=>∀ D,H1 D=none->∃ W:Nat->Nat->List V->Hp->Prop,(∃ m,W 0 m [] (upd H1 D (.lst [])))/\∀ i m ys H',W i m ys H'->H' D=some (.lst ys) /\
  ((J.stop i H'/\QV (.ref D) H')\/(J.go i H'/\∀ v H2,J.yld i H' v H2->tt (some v::σ) H2 fun b H3=>
    if b=true then te (some v::σ) H3 fun y H4=>H4 D=some (.lst ys)/\ys.length<sizeLine/\∃ m',m' < m/\W (i+1) m' (ys++[y]) (upd H4 D (.lst (ys++[y]))) else ∃ m',m' < m/\W (i+1) m' ys H3)))) E s1) E s)
    (ht:∀ cl C s3 H3 fp,PTs (blk X x scope cl C s3 H3 fp) ifs tt) (he:∀ cl C s3 H3 fp,PE (blk X x scope cl C s3 H3 fp) elt te)
    (hs:∀ x,foldedSetIterable iter X.env x=pure x)
    (fin:∀ (D C:Addr) (H':Hp) (s':Shared) (m:Str->Option Value),Inv X pins σ H' s'->FpOk X pins H' C->s'.heap.Ns C m->QV (.ref D) H'->compPost (model X.prog X.w) X.A E use Q (.ref D) C (.ok .next) s') :
    wpAny (model X.prog X.w) X.A (comprehension (.ListComp elt [⟨.Name x px,iter,ifs,0⟩] scope pos) scope X.env (firstIterPos [⟨.Name x px,iter,ifs,0⟩] pos) (newList []) false (eval iter X.env) use) Q E s:=by
  obtain⟨cl,hcl,cl1,cl2⟩:=closure_of (env:=X.env) (scope:=scope) (fun y hy hf=>I.ok.has y.1 (.inl (L.free y hy hf)))
  refine wpAny_comprehension_free (use:=use) rfl hs hcl L.kind L.names (wpAny_mono hi (fun xv s₁ h₁=>wpAny_mono h₁ (fun it s2 h₂=>?_) fun _ _ e=>e) fun _ _ e=>e)
  obtain⟨it,fp,tn,J,H2,rfl,I2,T,st2,f2,hW⟩:=h₂
  have fr2:H2 s2.heap.objs.size=none:=I2.hok.fresh (Nat.le_refl _)
  obtain⟨W,⟨m0,w0⟩,turn⟩:=hW _ fr2
  refine wpAny_newObj_type ?_
  have I3:Inv X pins σ (upd H2 s2.heap.objs.size (.lst [])) { s2 with heap:=s2.heap.push { cls:=.type "list",dict:=none,data:=.seq ([]:List Value).toArray } }:=
    I2.laid (t':=s2.toks) (o:=.lst []) (fun b ob q=>Heap.get?_push_of_some _ q) (Nat.le_refl _) ⟨Nat.zero_le _,[],0,.nil,Heap.get?_push_size _ rfl⟩
  generalize hD:s2.heap.objs.size=D at I3 turn w0 fr2 ⊢
  generalize hH3:upd H2 D (.lst [])=H3 at I3 w0
  generalize hs3:({ s2 with heap:=s2.heap.push { cls:=.type "list",dict:=none,data:=.seq ([]:List Value).toArray } }:Shared)=s3 at I3 ⊢
  have k23:∀ b o,s2.heap.get? b=some o->s3.heap.get? b=some o:=fun b o e=>by rw [← hs3];exact Heap.get?_push_of_some _ e
  have os3:s3.os=s2.os:=by rw [← hs3]
  have fpD:∀ b∈fp,b≠D:=fun b hb z=>by
    obtain⟨o,e,_⟩:=T.obj _ _ st2 b hb
    exact absurd (Heap.lt_size e) (by rw [z,← hD];exact Nat.lt_irrefl _)
  have f3:∀ b∈fp,FpOk X pins H3 b:=fun b hb=>⟨by rw [← hH3,upd_ne (fpD b hb)];exact(f2 b hb).1,(f2 b hb).2⟩
  have st3:tn 0 s3.heap:=T.keep _ _ _ st2 fun b hb o e=>k23 b o e
  refine wpAny_newFunctionEnv L.cell (fun y hy=>by simp at hy) (fun h₁ hns₁ hsb₁=>?_) L.kind
  generalize hC:s3.heap.objs.size=C at hns₁ hsb₁ ⊢
  have k34:∀ b o,s3.heap.get? b=some o->h₁.get? b=some o:=fun b o e=>hsb₁.extBut b o (by rintro rfl;exact absurd (Heap.lt_size e) (by rw [hC];exact Nat.lt_irrefl _)) (Heap.get?_push_of_some _ e)
  let X':Cx:=blk X x scope cl C s3 H3 fp
  have relab:∀ y,X'.env.scope.names.lookup y=(scope.names.lookup y).map fun k=>if (k == NameKind.free&&X.env.scope.kind == .function&&X.env.kindOf y == some .cell) then NameKind.cell else k:=fun y=>relabel_lookup y scope.names
  have visC:∀ y,(X'.env.kindOf y=some .cell\/X'.env.kindOf y=some .free)->scope.names.lookup y=some .free:=fun y hy=>by
    have e:=relab y
    have hy:X'.env.scope.names.lookup y=some .cell\/X'.env.scope.names.lookup y=some .free:=hy
    rw [e] at hy
    cases q:scope.names.lookup y with
    | none=>rw [q] at hy;simp at hy
    | some k=>
      rw [q] at hy
      simp only [Option.map_some,Option.some.injEq] at hy
      by_cases hf:k=.free
      · rw [hf]
      · have hb:(k == NameKind.free)=false:=by simpa using hf
        simp only [hb,Bool.false_and,Bool.false_eq_true,if_false] at hy
        rcases hy with rfl | rfl
        · exact absurd rfl (L.cell _ (PySem.mem_of_lookup q))
        · exact absurd rfl hf
  have okX':X'.Ok:=by
    refine⟨I3.ok.mod,?_,I3.ok.glob,I3.ok.blt,?_,?_,?_,?_,I3.ok.hd,I3.ok.frames,.inl rfl,?_,?_,?_,?_,?_,?_,?_⟩
    · show(relabel scope X.env).kind=.function
      exact L.kind
    · show s3.heap.objs.size<=C
      exact Nat.le_of_eq hC
    · exact fun a b c h1 h2=>I3.ok.inj a b c (cl1 a c h1) (cl1 b c h2)
    · exact fun y hy=>cl2 (y,.free) (PySem.mem_of_lookup (visC y hy)) rfl
    · exact fun y c hf=>by cases hf
    · refine fun b hb=>⟨?_,fun y c e z=>(f3 b hb).2.2.2.2.1 y c (cl1 y c e) z⟩
      show b≠C
      intro z
      obtain⟨o,e,_⟩:=T.obj _ _ st3 b hb
      exact absurd (Heap.lt_size e) (by rw [z,← hC];exact Nat.lt_irrefl _)
    · exact fun b o e=>I3.bs b o e
    · exact Nat.le_trans I3.ok.bsz I3.sz
    · intro b o e hb
      rcases(f3 b hb).2.2.2.1 with z | z
      · exact I3.ok.noex b o e z
      · exact absurd (Nat.lt_of_lt_of_le (Heap.lt_size e) (Nat.le_trans I3.ok.bsz z)) (Nat.lt_irrefl _)
    · intro b hb z
      rcases List.mem_cons.mp (I3.stkSub b z) with e | e
      · exact(f3 b hb).2.1 e
      · exact(f3 b hb).2.2.1 e
    · exact I3.stack
    · exact I3.stkFree
  have hfreeC:H3 C=none:=I3.hok.fresh (Nat.le_of_eq hC)
  have I4:Inv X' [] (none::σ) H3 { s3 with heap:=h₁,toks:=s3.toks+([]:List (Str×Value)).length }:=by
    refine⟨okX',rfl,I3.bare,Un.kept k34,⟨_,hns₁,?_⟩,?_,hfreeC,?_,fun p hp=>absurd (show p∈([]:List (Addr×Obj)) from hp) (by simp),I3.hok.kept k34,?_⟩
    · intro i y v e1 e2 e3
      cases i with
      | zero=>simp at e2
      | succ j=>
        have e1:X.N[j]? = some y:=by simpa using (show(x::X.N)[j+1]? = some y from e1)
        have e2:σ[j]? = some (some v):=by simpa using e2
        have hyN:y∈X.N:=List.mem_of_getElem? e1
        have hfr:scope.names.lookup y=some .free:=by
          rcases e3 with e3 | e3 | e3
          · rw [relab y] at e3
            cases q:scope.names.lookup y with
            | none=>rw [q] at e3;simp at e3
            | some k=>
              rw [q] at e3
              simp only [Option.map_some,Option.some.injEq] at e3
              by_cases hf:k=.free
              · rw [hf]
              · have hb:(k == NameKind.free)=false:=by simpa using hf
                simp only [hb,Bool.false_and,Bool.false_eq_true,if_false] at e3
                exact absurd (by rw [q,e3]) (L.out y hyN)
          · exact visC y (.inl e3)
          · exact visC y (.inr e3)
        have hkc:=L.free (y,.free) (PySem.mem_of_lookup hfr) rfl
        have hkc:X.env.kindOf y=some .cell:=hkc
        obtain⟨mX,_,hlX⟩:=I3.loc
        obtain⟨u,r,l⟩:=hlX j y v e1 e2 (.inr (.inl hkc))
        refine⟨u,r,?_⟩
        rcases l with⟨l,_⟩ | ⟨_,c,hc,hcell⟩
        · rw [hkc] at l;cases l
        · obtain⟨c',hc'⟩:=cl2 (y,.free) (PySem.mem_of_lookup hfr) rfl
          have hc':cl.lookup y=some c':=hc'
          have:=cl1 y c' hc'
          rw [hc] at this
          cases this
          refine .inr ⟨?_,c,hc',?_⟩
          · rcases e3 with e3 | e3 | e3
            · rw [relab y,hfr] at e3
              simp only [Option.map_some,Option.some.injEq] at e3
              split at e3<;>cases e3
            · exact .inl e3
            · exact .inr e3
          · obtain⟨o,ho,hd⟩:=hcell
            exact⟨o,k34 _ _ ho,hd⟩
    · intro y c e
      obtain⟨v,o,ho,hd⟩:=I3.cell y c (cl1 y c e)
      exact⟨v,o,k34 _ _ ho,hd⟩
    · exact fun y c e=>I3.freeC y c (cl1 y c e)
    · show(none::σ).length=(x::X.N).length
      rw [List.length_cons,List.length_cons,I3.len]
  have st4:tn 0 h₁:=T.keep _ _ _ st3 fun b hb o e=>k34 b o e
  have stat:∀ {H':Hp},(∀ b∈fp,H' b=none)->∀ b∈fp,FpOk X' [] H' b:=fun hn b hb=>by
    refine⟨hn b hb,(okX'.exf b hb).1,okX'.exfs b hb,.inl hb,(okX'.exf b hb).2,fun p hp=>absurd (show p∈([]:List (Addr×Obj)) from hp) (by simp)⟩
  have hNd:X'.N.Nodup:=List.nodup_cons.mpr ⟨L.xN,L.nd⟩
  have hvar:X'.env.scope.names.lookup x=some .local:=by
    rw [relab x,L.var]
    rfl
  have loop:∀ s4:Shared,s4={ s3 with heap:=h₁,toks:=s3.toks+([]:List (Str×Value)).length } ->
      codeAny (model X.prog X.w) X.A (.compLoop (.ListComp elt [⟨.Name x px,iter,ifs,0⟩] scope pos) 0 (.ref it) (.ref D) X'.env) (compPost (model X.prog X.w) X.A E use Q (.ref D) C) s4:=by
    rintro s4 rfl
    refine compLoop_go (fun n s'=>∃ i ys o H',Inv X' [] (o::σ) H' s'/\tn i s'.heap/\(∀ b∈fp,H' b=none)/\W i n ys H') ?_ m0 ⟨0,[],none,H3,I4,st4,fun b hb=>(f3 b hb).1,w0⟩
    rintro n s5 ⟨i,ys,o,H5,I5,st5,fr5,w5⟩
    obtain⟨hD5,turn5⟩:=turn i n ys H5 w5
    rcases turn5 with⟨stop,qn⟩ | ⟨go,step⟩
    · refine wpAny_mono (T.done X' rfl rfl rfl L.calm i [] s5 (o::σ) H5 (fun _ _=>False) I5 (stat fr5) st5 stop) (fun r s6 h6=>?_) fun _ _ z=>z
      obtain⟨rfl,I6⟩:=h6
      have un6:Un (frs X.stack) fp H3 H5 s3.heap s6.heap:=I6.base
      have IX:Inv X pins σ H5 s6:=I3.call' I6.os un6 I6.hok I6.bare fun b hb=>⟨(f3 b hb).2.2.2.1,(f3 b hb).2.1,(f3 b hb).2.2.2.2.1,(f3 b hb).2.2.2.2.2⟩
      obtain⟨mC,hnC,_⟩:=I6.loc
      exact fin D C H5 s6 mC IX (I3.fpOk (H':=H5) (Nat.le_of_eq hC) I6.free) hnC qn
    · refine wpAny_mono (T.item X' rfl rfl rfl L.calm i [] s5 (o::σ) H5 (fun _ _=>False) I5 (stat fr5) st5 go) (fun r s6 h6=>?_) fun _ _ z=>z.elim
      obtain⟨u,rfl,h6⟩:=h6
      refine wpAny_mono h6 (fun _ s6 h6=>?_) fun _ _ z=>z
      obtain⟨v,H6,I6,r6,y6,st6,fr6⟩:=h6
      have I6':=I6.pinned (stat fr6) (T.obj _ _ st6)
      have hv6:=step v H6 y6
      show wpAny (model X'.prog X'.w) X'.A (assign (.Name x px) X'.env u) _ _ s6
      refine wpAny_mono (Q:=fun _ s7=>Inv X' ([]++pinsAt fp s6.heap) (some v::σ) H6 s7) (E:=fun _ _=>False) (wpAny_assign_Name (store_ok I6' hNd (i:=0) rfl (.inl hvar) r6 (fun s7 I7=>(show Inv X' ([]++pinsAt fp s6.heap) (some v::σ) H6 s7 from I7)) (.inr hvar))) (fun _ s7 I7=>?_) fun _ _ z=>z.elim
      refine wpAny_mono ((ht cl C s3 H3 fp) _ s7 _ H6 _ I7 hv6) (fun b s8 h8=>?_) fun _ _ z=>z.elim
      obtain⟨H8,I8,q8⟩:=h8
      have done:∀ {ys':List V} {H9:Hp} {s9:Shared} {n':Nat},Inv X' ([]++pinsAt fp s6.heap) (some v::σ) H9 s9->W (i+1) n' ys' H9->∃ i ys o H',Inv X' [] (o::σ) H' s9/\tn i s9.heap/\(∀ b∈fp,H' b=none)/\W i n' ys H':=fun {ys' H9 s9 n'} I9 w9=>by
        refine⟨i+1,ys',some v,H9,I9.unpinned,T.keep _ _ _ st6 fun b hb o e=>(I9.pin (b,o) (List.mem_append_right _ (List.mem_append_right _ (mem_pinsAt hb e)))).1,fun b hb=>?_,w9⟩
        obtain⟨o,e,d⟩:=T.obj _ _ st6 b hb
        exact(I9.pin (b,o) (List.mem_append_right _ (List.mem_append_right _ (mem_pinsAt hb e)))).2.1
      cases b with
      | false=>
        have q8:∃ m',m' < n/\W (i+1) m' ys H8:=q8
        obtain⟨m',hm,w8⟩:=q8
        exact⟨m',hm,done I8 w8⟩
      | true=>
        have q8:te (some v::σ) H8 _:=q8
        refine wpAny_mono ((he cl C s3 H3 fp) _ s8 _ H8 _ I8 q8) (fun yv s9 h9=>?_) fun _ _ z=>z.elim
        obtain⟨y,H9,I9,r9,hD9,hz9,m',hm,w9⟩:=h9
        refine wpAny_mono (mt_append (X:=X') _ s9 _ H9 (.ref D) [y] (.ref D) [yv] (fun v' H'=>v' = .non/\H' = upd H9 D (.lst (ys++[y]))) I9 rfl (.cons r9 .nil) ⟨D,ys,y,rfl,rfl,hD9,hz9,rfl,rfl⟩) (fun _ s10 h10=>?_) fun _ _ z=>z.elim
        obtain⟨_,H10,I10,_,_,rfl⟩:=h10
        exact⟨m',hm,done I10 w9⟩
  exact codeAny_compStart_list (loop _ rfl) (T.self _ 0 _ _ _ st4 (loop _ rfl))
theorem ps_setLC {i:Nat}{z:Str}{pz spos:Pos}(hN:X.N.Nodup)(hi':X.N[i]? = some z)(hz:Loc X.env.scope z)(L:LcScope X x scope)(hi:PI X (.Name x px) iter wi)(ht:∀ cl C s3 H3 fp,PTs (blk X x scope cl C s3 H3 fp) ifs tt)(he:∀ cl C s3 H3 fp,PE (blk X x scope cl C s3 H3 fp) elt te)
    (hs:∀ x,foldedSetIterable iter X.env x=pure x:=by intro _;rfl) (hsw:swapsWith (.ListComp elt [⟨.Name x px,iter,ifs,0⟩] scope pos) (some (.Name z pz)) spos.line X.env=pure true:=by rfl)
    (hf:X.fn z=true\/X.env.scope.names.lookup z=some .local:=by first | exact .inl rfl | exact .inr rfl | assumption):PS X (.Assign [.Name z pz] (.ListComp elt [⟨.Name x px,iter,ifs,0⟩] scope pos) spos) (tAsg (tLC wi tt te) (gName i)):=by
  intro pins s σ H D I h
  rw [exec_Assign_Name_used _ _ _ _ hsw]
  refine wpAny_bind (wpAny_standAt (wpAny_bind ?_))
  show wpAny _ X.A (do let _ ← comprehension (.ListComp elt [⟨.Name x px,iter,ifs,0⟩] scope pos) scope X.env _ (newList []) false (eval iter X.env) (some (assign (.Name z pz) X.env))) _ _ s
  refine wpAny_bind (wpAny_mono (lc_core (use:=some (assign (.Name z pz) X.env)) (Q:=fun _ s'=>SP X pins D .next s') (QV:=fun v H'=>D.nx (σ.set i (some v)) H') L I (hi pins s σ H _ I h) ht he hs fun D' C H' s' m IX fC hn q=>?_) (fun _ s' hq=>wpAny_pure (wpAny_pure hq)) fun _ _ e=>e)
  show wpAny _ X.A (assign (.Name z pz) X.env (.ref D')) _ _ s'
  refine wpAny_assign_Name (store_ok2 IX hN hi' hz (show RelV (.ref D') (.ref D') from rfl) (fun s2 I2 hch=>?_) hf)
  obtain⟨a,sb,ha⟩:=hch
  have hCa:C≠a:=by
    rcases ha with e | e
    · rw [e];exact fC.2.1
    · intro z';exact fC.2.2.2.2.1 _ _ e z'.symm
  refine⟨m,hn.sameBut sb hCa,fun h' hs'=>?_⟩
  exact⟨_,H',I2.turned (t':=s2.toks) (fun b o hb e=>hs'.extBut b o hb e) fC.1 fC.2.1 fC.2.2.2.1 fC.2.2.2.2.1 fC.2.2.2.2.2,q⟩
end
end L2
namespace L2
open PySem PySem.Spec PyProof.Rows
noncomputable def S (l:List Nat):Str:=⟨l.toArray⟩
theorem S_list (l:List Nat):(S l).cps.toList=l:=rfl
theorem S_len (l:List Nat):(S l).length=l.length:=by simp [S,Str.length]
theorem S_size (l:List Nat):(S l).cps.size=l.length:=by simp [S]
theorem S_get (l:List Nat)(i:Nat):(S l).cps[i]? = l[i]?:=by simp [S]
theorem S_inj {a b:List Nat}:S a=S b↔a=b:=⟨fun h=>by have:=congrArg (fun x=>x.cps.toList) h;simpa [S] using this,fun h=>by rw [h]⟩
theorem S_app (a b:List Nat):S a++S b=S (a++b):=by
  show Str.append (S a) (S b)=_
  simp [S,Str.append]
theorem V_inj {a b:List Nat}:(V.str (S a)=V.str (S b))=(a=b):=by
  rw [V.str.injEq,S_inj]
section
variable {X:Cx} {a b e:Expr} {ta tb te:TE} {pos:Pos}
theorem pe_S {x:Str}{l:List Nat}{j pos}(h:x=S l):PE X (.Constant (.str x) j pos) (tC (.str (S l))):=by
  subst h;exact pe_str
theorem op_addS:OpR X (binaryOp .Add) (fun x y H Q=>∃ i j,x=.str (S i)/\y=.str (S j)/\i.length+j.length<=sizeLine/\Q (.str (S (i++j))) H):=by
  intro pins s σ H x y v u Q I rx ry h
  obtain⟨i,j,rfl,rfl,hz,q⟩:=h
  exact op_add_str pins s σ H _ _ v u Q I rx ry ⟨S i,S j,rfl,rfl,by rw [S_len,S_len];exact hz,by rw [S_app];exact q⟩
theorem op_mulI:OpR X (binaryOp .Mult) (rI IntMulOk fun i j=>.int (i * j)):=opI fun _ _ _ _ _ _ _ hc q=>mul_int q hc
theorem op_inS:OpR X (compareOp .In) (fun x y H Q=>∃ c l,x=.str (S [c])/\y=.str (S l)/\Q (.bl (decide (c∈l))) H):=by
  intro pins s σ H x y v u Q I rx ry h
  obtain⟨c,l,rfl,rfl,q⟩:=h
  refine op_in_str pins s σ H _ _ v u Q I rx ry ⟨S [c],S l,rfl,rfl,?_⟩
  rw [show S [c]=⟨#[c]⟩ from rfl,StrLaws.found_one]
  exact q
theorem op_notinS:OpR X (compareOp .NotIn) (fun x y H Q=>∃ c l,x=.str (S [c])/\y=.str (S l)/\Q (.bl (!decide (c∈l))) H):=by
  intro pins s σ H x y v u Q I rx ry h
  obtain⟨c,l,rfl,rfl,q⟩:=h
  refine op_notin_str pins s σ H _ _ v u Q I rx ry ⟨S [c],S l,rfl,rfl,?_⟩
  rw [show S [c]=⟨#[c]⟩ from rfl,StrLaws.found_one]
  exact q
noncomputable def rIxSS:R2:=fun x y H Q=>∃ l i c,x=.str (S l)/\y=.int i/\l.length<=sizeLine/\atI l i=some c/\Q (.str (S [c])) H
theorem ix_S:IxR X rIxSS:=by
  intro value slice pins s σ H x y v u Q I rx ry h hs
  obtain⟨l,i,c,rfl,rfl,hz,he,q⟩:=h
  exact ix_str value slice pins s σ H _ _ v u Q I rx ry ⟨S l,i,c,rfl,rfl,by rw [S_len];exact hz,he,q⟩ hs
theorem call_lenS:CallR X (.builtin "len") (fun xs H Q=>∃ l,xs=[.str (S l)]/\l.length<=sizeLine/\Q (.int l.length) H):=by
  intro pins s σ H xs us Q I r h
  obtain⟨l,rfl,hz,q⟩:=h
  exact call_len_str pins s σ H _ us Q I r ⟨S l,rfl,by rw [S_len];exact hz,by rw [S_len];exact q⟩
noncomputable def cutN (xs:List Nat)(lo hi:Option Int):List Nat:=(xs.drop (HT.sIx xs.length 0 lo)).take (HT.sIx xs.length xs.length hi - HT.sIx xs.length 0 lo)
end
end L2
namespace L2
open PySem PySem.Spec PyProof.Rows
section
variable {X:Cx} {a b e:Expr} {ta tb te:TE} {pos:Pos}
theorem strIdx (lo hi:Option Int)(n:Nat):Builtin.Str.strSliceIndices lo hi 1 n=(List.range (HT.sIx n n hi - HT.sIx n 0 lo)).map (HT.sIx n 0 lo + ·):=by
  have h1:(match lo with | none=>(0:Int) | some i=>max 0 (min (if i<0 then i+(n:Int) else i) (n:Int)))=((HT.sIx n 0 lo:Nat):Int):=by
    cases lo with
    | none=>simp [HT.sIx]
    | some i=>
      simp only [HT.sIx]
      by_cases h:i<0
      · simp only [h,if_true];lia
      · simp only [h,if_false];lia
  have h2:(match hi with | none=>(n:Int) | some i=>max 0 (min (if i<0 then i+(n:Int) else i) (n:Int)))=((HT.sIx n n hi:Nat):Int):=by
    cases hi with
    | none=>simp [HT.sIx]
    | some i=>
      simp only [HT.sIx]
      by_cases h:i<0
      · simp only [h,if_true];lia
      · simp only [h,if_false];lia
  rw [← sliceRange_one,← h1,← h2]
  cases lo<;>cases hi<;>rfl
theorem sIx_hi_le (n:Nat)(hi:Option Int):HT.sIx n n hi<=n:=HT.sIx_le n n (Nat.le_refl _) hi
theorem sl_S:SlR X (fun x lo hi H Q=>∃ l,x=.str (S l)/\l.length<=sizeLine/\Q (.str (S (cutN l lo hi))) H):=by
  intro pins s σ H x v vl vu lo hi sl Q I rx hs pl pu h
  obtain⟨l,rfl,hz,q⟩:=h
  obtain⟨t,rfl⟩:=rx
  refine⟨"str",_,F.slot_str_getitem.lookup,typeIs_str s _ t,?_⟩
  obtain⟨pl',el⟩:∃ p,vl=partValue p/\p.map (·.1)=lo:=by
    cases pl with
    | none=>exact⟨none,rfl,rfl⟩
    | int i t=>exact⟨some (i,t),rfl,rfl⟩
  obtain⟨pu',eu⟩:∃ p,vu=partValue p/\p.map (·.1)=hi:=by
    cases pu with
    | none=>exact⟨none,rfl,rfl⟩
    | int i t=>exact⟨some (i,t),rfl,rfl⟩
  have hsl:s.heap.IsSlice sl pl' pu' none:=by
    obtain⟨o,h1,h2,h3⟩:=hs
    exact⟨o,h1,h2,by rw [h3,el.1,eu.1];rfl⟩
  refine wpAny_getItem_str_slice hsl rfl ?_
  unfold sliceMade slicePicked
  refine post_val_or_made (fun _=>?_) fun t' k=>?_
  · rw [el.2,eu.2,Option.map_none,Option.getD_none,strIdx,S_len]
    have e:((List.range (HT.sIx l.length l.length hi - HT.sIx l.length 0 lo)).map (HT.sIx l.length 0 lo + ·)).filterMap ((S l).cps[·]?)=cutN l lo hi:=by
      rw [pick_run];rfl
    rw [e]
    show(S (cutN l lo hi)).length<=sizeLine
    rw [S_len]
    unfold cutN
    rw [List.length_take,List.length_drop]
    lia
  · refine⟨.str _,H,I.tok _,⟨_,rfl⟩,?_⟩
    rw [el.2,eu.2,Option.map_none,Option.getD_none,strIdx,S_len]
    have e:((List.range (HT.sIx l.length l.length hi - HT.sIx l.length 0 lo)).map (HT.sIx l.length 0 lo + ·)).filterMap ((S l).cps[·]?)=cutN l lo hi:=by
      rw [pick_run];rfl
    rw [e]
    split
    · rename_i hc
      have hc':HT.sIx l.length l.length hi - HT.sIx l.length 0 lo=l.length:=by
        simpa using hc
      have h2:=sIx_hi_le l.length hi
      have e2:cutN l lo hi=l:=by
        unfold cutN
        have h3:HT.sIx l.length 0 lo=0:=by
          by_cases hl:l.length=0
          · have:=HT.sIx_le l.length 0 (Nat.zero_le _) lo;lia
          · lia
        rw [hc',h3,List.drop_zero,List.take_length]
      rw [e2] at q
      exact q
    · exact q
noncomputable def rJoin (K:PySem.W.Frag):V->List V->Hp->VK->Prop:=fun x vs H Q=>∃ (D:Addr) (ls:List (List Nat)),x=.str (S [])/\vs=[.ref D]/\SqL K H D (ls.map fun l=>V.str (S l))/\ls.flatten.length<=16777216/\Q (.str (S ls.flatten)) H
noncomputable def rIndex:V->List V->Hp->VK->Prop:=fun x vs H Q=>∃ l c,x=.str (S l)/\vs=[.str (S [c])]/\c∈l/\∀ i:Nat,l[i]? = some c->Q (.int (i:Int)) H
noncomputable def dg (n:Nat):List Nat:=if n<10 then [48+n] else [48+n / 10,48+n % 10]
theorem log_small {i:Int}(h0:0<=i)(h1:i<1000000):i.natAbs.log2<1920:=by
  have:i.natAbs<2 ^ 20:=by lia
  by_cases hz:i.natAbs=0
  · rw [hz];decide
  · have:=(Nat.log2_lt hz).mpr this
    lia
noncomputable def dg2 (n:Nat):List Nat:=[48+n / 10,48+n % 10]
noncomputable def rZfill:V->List V->Hp->VK->Prop:=fun x vs H Q=>∃ n:Nat,x=.str (S (dg n))/\vs=[.int 2]/\n<100/\Q (.str (S (dg2 n))) H
noncomputable def isFig (c:Nat):Bool:=48<=c&&c<=57
theorem call_intS:CallR X (.type "int") (fun xs H Q=>∃ c d:Nat,xs=[.str (S [c,d])]/\isFig c=true/\isFig d=true/\Q (.int (((c - 48) * 10+(d - 48):Nat):Int)) H):=by
  intro pins s σ H xs us Q I r h
  obtain⟨c,d,rfl,hc,hd,q⟩:=h
  obtain⟨u,rfl,t,rfl⟩:=vals1 r
  unfold isFig at hc hd
  simp only [Bool.and_eq_true,decide_eq_true_eq] at hc hd
  have hn:PySem.intText? (S [c,d])=some (((c - 48) * 10+(d - 48):Nat):Int):=by
    rw [intText_digits (x:=S [c,d]) (fun z hz=>?_) (by simp [S]) (by rw [S_len];show 2<=4300;decide)]
    · rw [S_list]
      simp [NumText.digitsVal]
    · rw [S_list] at hz
      simp at hz
      rcases hz with rfl | rfl
      · exact hc
      · exact hd
  exact PySem.W.KIN.call_text hn (by rw [S_len];show 2<=640;decide) ⟨.int _,H,I.tok _,⟨_,rfl⟩,q⟩
end
end L2
namespace L2
open PySem PySem.Spec PyProof.Rows
structure OkF (P:Program)(w:World)(K:PySem.W.Frag)(mg:Str->Option Value)(base:Heap)(k:Nat)(x:Str)(ps:List Str)(sp:Sp):Prop where
  ex:∃ (f:Addr) (fd:FuncData),PySem.W.keepIn K (.ref f)=true/\Binds K fd ps []/\(mg x=some (.ref f)/\∃ oc od osl,K.lookup f=some ⟨oc,od,.func fd,osl⟩)/\FnOk P w K mg base CX0 k f fd ps sp
structure Df (K:PySem.W.Frag)(mg:Str->Option Value)(x:Str)(st:Stmt)(ps:List Str):Prop where
  ex:∃ (f:Addr) (fd:FuncData),Fun K x x st f fd/\Binds K fd ps []/\mg x=some (.ref f)
section
variable {P:Program} {w:World} {K:PySem.W.Frag} {mg:Str->Option Value} {base:Heap}
theorem Df.ok {x:Str}{st:Stmt}{ps N:List Str}{k:Nat}{sp:Sp}(D:Df K mg x st ps)(Sc:FnScope N ps (defScope st))(len:∀ vs H Q E,sp vs H Q E->vs.length=ps.length)
    (hbody:∀ (f:Addr) (cdv:Value) (A:Around) (outer:List Env) (s:Shared) (H:Hp) (vs:List V) (Q:VK) (E:XK),Room k (A.deeper (envOfC x (defScope st) s.heap.objs.size f cdv))->sp vs H Q E ->
      ∃ t,PSs (cxOf CX0 P w K mg base N x (defScope st) f cdv A outer s H E).nox (defBody st) t/\t { nx:=fun _ H'=>Q .non H',rt:=Q } (start N vs) H):OkF P w K mg base (k+1) x ps sp:=by
  obtain⟨f,fd,F,b,m⟩:=D.ex
  refine⟨f,fd,F.kp,b,⟨m,?_⟩,F.ok Sc len (fun cdv A outer s H vs Q E hr h=>hbody f cdv A outer s H vs Q E hr h)⟩
  obtain⟨oc,od,kV,doc,pm,an,cdv,ct,osl,rfl,lk,hcd⟩:=F.ex
  exact⟨oc,od,osl,lk⟩
theorem OkF.mono {j k:Nat}{x:Str}{ps:List Str}{sp:Sp}(F:OkF P w K mg base j x ps sp)(h:j<=k):OkF P w K mg base k x ps sp:=by
  obtain⟨f,fd,kp,b,m,G⟩:=F.ex
  exact⟨f,fd,kp,b,m,G.mono h⟩
theorem OkF.imp {k:Nat}{x:Str}{ps:List Str}{sp sp':Sp}(F:OkF P w K mg base k x ps sp)(h:∀ vs H Q E,sp' vs H Q E->sp vs H Q E):OkF P w K mg base k x ps sp':=by
  obtain⟨f,fd,kp,b,m,G⟩:=F.ex
  exact⟨f,fd,kp,b,m,G.imp h⟩
end
section
variable {P:Program} {w:World} {K:PySem.W.Frag} {mg:Str->Option Value} {base:Heap}
theorem df_mk {h:Heap}{x:Str}{st:Stmt}{ps:List Str}{f:Addr}{oc:Value}{od an:Option Addr}{osl:Array (Option Value)}{kV doc pm cdv ct:Value}(X:K.In h)(G:h.Ns mainGlobals mg)
    (b:∀ (kV doc pm:Value) (an:Option Addr) (cdv ct:Value) (us:List Value),us.length=ps.length->bindArgs (PySem.W.fnOf x x (defArgs st) (defBody st) (defScope st) .none kV doc pm an cdv ct) ⟨us,[]⟩=pure (ps.zip us))
    (a:PySem.W.nsIn K mainGlobals x=some (some (.ref f))) (l:K.lookup f=some ⟨oc,od,.func (PySem.W.fnOf x x (defArgs st) (defBody st) (defScope st) .none kV doc pm an cdv ct),osl⟩)
    (c:PySem.W.codeIn K cdv x=true) (k:PySem.W.keepIn K (.ref f)=true):Df K mg x st ps:=
  ⟨f,_,fun_mk l c k,(fun_mk l c k).binds b,PySem.W.mg_of X G a⟩
theorem law_of {st:Stmt}{x:Str}{k:Nat}{fa:Addr}{sp:Sp}(D:Df K mg "law" st [x])(hfa:mg "law" = some (.ref fa))
    (hb:∀ (kV doc pm:Value) (an:Option Addr) (cdv ct:Value) (s:Shared) (u:Value),BindsTo s (PySem.W.fnOf "law" "law" (defArgs st) (defBody st) (defScope st) .none kV doc pm an cdv ct) ⟨[u],[]⟩ [(x,u)])
    (F:∀ base:Heap,OkF P w K mg base k "law" [x] sp) :
    ∃ fd:FuncData,(∀ (s:Shared) (v:Value),BindsTo s fd ⟨[v],[]⟩ [(x,v)])/\∀ base:Heap,K.In base->base.Ns mainGlobals mg->FnOk P w K mg base CX0 k fa fd [x] sp:=by
  obtain⟨f,fd,G,b,m⟩:=D.ex
  have e:f=fa:=by rw [hfa] at m;cases m;rfl
  subst e
  obtain⟨oc,od,kV,doc,pm,an,cdv,ct,osl,rfl,lk,hcd⟩:=G.ex
  refine⟨_,fun s v=>hb kV doc pm an cdv ct s v,fun base _ _=>?_⟩
  obtain⟨f',fd',_,_,⟨m',oc',od',osl',lk'⟩,ok⟩:=(F base).ex
  have e:f' = f:=by rw [hfa] at m';cases m';rfl
  subst e
  rw [lk] at lk'
  cases lk'
  exact ok
end
section
variable {X:Cx} {k j:Nat} {x:Str} {ps:List Str} {sp:Sp} {p pos:Pos} {e:Expr} {es:List Expr} {t:TA}
theorem pe_callF (F:OkF X.prog X.w X.K X.mg X.base k x ps sp)(hr:Room j X.A)(hk:k<=j)(ha:PA X (e::es) t)(hg:Gl X x:=by rfl) (hdb:(x == ("__debug__":Str))=false:=by decide)
    (he:starEach (e::es) X.env=(false,eval e X.env)::starEach es X.env:=by rfl) (hpl:(backTo pos (starEach es X.env)).any (·.1)=false:=by rfl):PE X (.Call (.Name x p) (e::es) [] pos) (tCall sp [] E0 t):=by
  obtain⟨f,fd,kp,b,m,G⟩:=F.ex
  exact pe_call G (hr.mono hk) hg m.1 kp b .nil pass0 ha hdb he hpl
theorem pe_callF0 (F:OkF X.prog X.w X.K X.mg X.base k x ps sp)(hr:Room j X.A)(hk:k<=j)(hg:Gl X x:=by rfl) (hdb:(x == ("__debug__":Str))=false:=by decide):PE X (.Call (.Name x p) [] [] pos) (tCall sp [] E0 tNil):=by
  obtain⟨f,fd,kp,b,m,G⟩:=F.ex
  exact pe_call0 G (hr.mono hk) hg m.1 kp b .nil pass0 hdb
theorem pe_gl {v:V}{pos:Pos}(h:∃ u,X.mg x=some u/\RelV v u)(hg:Gl X x:=by rfl) (hd:(x == ("__debug__":Str))=false:=by decide):PE X (.Name x pos) (tC v):=by
  obtain⟨u,m,r⟩:=h
  exact pe_glob hg m r hd
theorem pe_blt {v:V}{u:Value}{pos:Pos}(hm:X.mg x=none)(hv:bootBuiltins x=some u)(r:RelV v u)(hg:Gl X x:=by rfl) (hn:x≠"__name__":=by decide) (hd:(x == ("__debug__":Str))=false:=by decide):PE X (.Name x pos) (tC v):=
  pe_bltn hg hm hv r hn hd
theorem lcs {N:List Str}{sc scope:Scope}(e1:X.N=N)(e2:X.env.scope=sc)(c:X.calm=true)
    (h:x∉N/\N.Nodup/\scope.kind=.function/\(∀ y∈scope.names,y.2≠.cell)/\(∀ y∈scope.names,y.2=.local->scope.names.lookup y.1=some .local)/\scope.names.lookup x=some .local /\
      (∀ y∈scope.names,y.2=.free->sc.names.lookup y.1=some .cell)/\(∀ y∈N,scope.names.lookup y≠some .local)):LcScope X x scope:=by
  subst e1 e2
  obtain⟨h1,h2,h3,h4,h5,h6,h7,h8⟩:=h
  exact⟨h1,h2,h3,h4,h5,h6,h7,h8,c⟩
theorem op_addA:OpR X (binaryOp .Add) (fun x y H Q=>(∃ i j,x=.int i/\y=.int j/\Q (.int (i+j)) H)\/∃ i j,x=.str (S i)/\y=.str (S j)/\i.length+j.length<=sizeLine/\Q (.str (S (i++j))) H):=op_add.or op_addS
section
variable {K:PySem.W.Frag} {o:Expr} {to:TE} {name:Str} {apos cpos:Pos} {T id:String} {r:V->List V->Hp->VK->Prop}
theorem pe_bmK (hK:X.K=K)(pa:PlainAttrs T)(slot:Slot T name id)(hty:typeOf (.builtin id)=pure (.type "method_descriptor"))(hm:MtR X id r)(ho:PE X o to)(ha:PA X (e::es) t)
    (hbase:attributeBase o name X.env (eval o X.env)=eval o X.env:=by rfl)
    (hfew:((backTo cpos (starEach (e::es) X.env)).all (fun x=>!x.1)&&(backToKw cpos (keywordEach [] X.env)).all (fun x=>x.1.isSome)
      && decide ((e::es).length+([]:List Keyword).length+(if ([]:List Keyword).isEmpty then 0 else 1)<30))=true:=by rfl)
    (hline:(apos.endLine == cpos.line)=true:=by rfl) (hs:starEach (e::es) X.env=(false,eval e X.env)::starEach es X.env:=by rfl) (hplain:(backTo cpos (starEach es X.env)).any (·.1)=false:=by rfl) :
    PE X (.Call (.Attribute o name apos) (e::es) [] cpos) (tBM K T r to t):=by
  subst hK
  exact pe_bm pa slot hty hm ho ha hbase hfew hline hs hplain
theorem ix_listK (hK:X.K=K):IxR X (rIxL K):=by subst hK;exact ix_list
theorem ix_tupK (hK:X.K=K):IxR X (rIxT K):=by subst hK;exact ix_tup
noncomputable def rLenL (K:PySem.W.Frag):List V->Hp->VK->Prop:=fun xs H Q=>∃ p ys,xs=[.ref p]/\(SqL K H p ys\/SqT K H p ys)/\Q (.int ys.length) H
theorem call_lenLK (hK:X.K=K):CallR X (.builtin "len") (rLenL K):=by subst hK;exact call_len_seq
theorem pi_listK {tg l:Expr}{tl:TE}(hK:X.K=K)(hl:PE X l tl):PI X tg l (iList K tl):=by subst hK;exact pi_list hl
end
end
end L2
namespace L2
open PySem PySem.Spec PyProof.Rows
theorem bb_len:bootBuiltins "len" = some (.builtin "len"):=by decide +kernel
theorem bb_max:bootBuiltins "max" = some (.builtin "max"):=by decide +kernel
theorem bb_min:bootBuiltins "min" = some (.builtin "min"):=by decide +kernel
theorem bb_int:bootBuiltins "int" = some (.type "int"):=by decide +kernel
theorem bb_isinstance:bootBuiltins "isinstance" = some (.builtin "isinstance"):=by decide +kernel
noncomputable def sg:List Nat:=[32,33,34,35,36,38,39,40,41,42,43,44,45,46,47,48,49,50,51,52,53,54,55,56,57,58,59,60,61,62,63,64,65,66,67,68,69,70,71,72,73,74,75,76,77,78,79,80,81,82,83,84,85,86,87,88,89,90,91,92,93,94,95,96,97,98,99,100,101,102,103,104,105,106,107,108,109,110,111,112,113,114,115,116,117,118,119,120,121,122,123,124,125,126]
noncomputable def fg:List Nat:=[48,49,50,51,52,53,54,55,56,57]
theorem sg_len:sg.length=94:=by decide
theorem fg_iff (c:Nat):c∈fg↔isFig c=true:=by
  unfold fg isFig
  simp only [List.mem_cons,List.mem_nil_iff,or_false,Bool.and_eq_true,decide_eq_true_eq]
  omega
theorem atI_z {α:Type}(xs:List α)(i:Nat):atI xs (i:Int)=xs[i]?:=by
  cases h:xs[i]? with
  | some v=>exact atI_nat h
  | none=>
    have h1:xs.length<=i:=List.getElem?_eq_none_iff.mp h
    unfold atI ixN
    rw [if_pos (by lia),if_neg (by lia)]
    rfl
theorem same_upd {H:Hp}{a:Addr}{o:HO}(h:H a=none):Same H (upd H a o):=fun b u e=>by rw [upd_ne (ne_of_none e h)];exact e
end L2
namespace L2
open PySem PySem.Spec PyProof.Rows
def forBody (J:It)(g:TG)(tb:TS)(D:Ends)(σ:St)(H1:Hp):Prop:=∃ W:Nat->Nat->St->Hp->Prop,(∃ m,W 0 m σ H1)/\∀ i m σ H,W i m σ H ->
  (J.stop i H/\D.nx σ H)\/(J.go i H/\∃ N:St->Hp->Prop,(∀ σ' H',N σ' H'->∃ m',m' < m/\W (i+1) m' σ' H')/\∀ x H',J.yld i H x H'->g x σ H' fun σ2 H2=>tb { D with nx:=N,ct:=N,bk:=D.nx } σ2 H2)
theorem tFor_eq (wi:TI)(g:TG)(tb:TS):tFor wi g tb=fun D σ H=>wi σ H fun J H1=>forBody J g tb D σ H1:=rfl
def whBody (c:TT)(tb:TS)(D:Ends)(σ:St)(H:Hp):Prop:=∃ W:Nat->St->Hp->Prop,(∃ m,W m σ H)/\∀ m σ H,W m σ H ->
  c σ H fun b H1=>if b=true then ∃ N:St->Hp->Prop,(∀ σ' H',N σ' H'->∃ m',m' < m/\W m' σ' H')/\tb { D with nx:=N,ct:=N,bk:=D.nx } σ H1 else D.nx σ H1
theorem tWhile_eq (c:TT)(tb:TS):tWhile c tb=fun D σ H=>whBody c tb D σ H:=rfl
theorem fb_list {K:PySem.W.Frag}{a:Addr}{xs:List V}{g:TG}{tb:TS}{D:Ends}{σ:St}{H:Hp}(Pv:Nat->St->Hp->Prop)(h0:Pv 0 σ H)(hl:∀ i σ H,i<=xs.length->Pv i σ H->SqL K H a xs)
    (hs:∀ i x σ H,xs[i]? = some x->Pv i σ H->g x σ H fun σ2 H2=>tb { D with nx:=Pv (i+1),ct:=Pv (i+1),bk:=D.nx } σ2 H2) (hd:∀ σ H,Pv xs.length σ H->D.nx σ H):forBody (Itl K a) g tb D σ H:=for_list Pv h0 hl hs hd
theorem fb_range {n:Nat}{g:TG}{tb:TS}{D:Ends}{σ:St}{H:Hp}(Pv:Nat->St->Hp->Prop)(h0:Pv 0 σ H)
    (hs:∀ i σ H,i<n->Pv i σ H->g (.int (i:Int)) σ H fun σ2 H2=>tb { D with nx:=Pv (i+1),ct:=Pv (i+1),bk:=D.nx } σ2 H2) (hd:∀ σ H,Pv n σ H->D.nx σ H):forBody (Itr 0 n) g tb D σ H:=by
  refine⟨fun i m σ H=>m=n - i/\i<=n/\Pv i σ H,⟨n,by simp,Nat.zero_le _,h0⟩,?_⟩
  rintro i m σ H ⟨rfl,hi,p⟩
  by_cases hlt:i<n
  · refine .inr ⟨hlt,Pv (i+1),fun σ' H' p'=>⟨n - (i+1),by lia,rfl,hlt,p'⟩,fun x H' y=>?_⟩
    obtain⟨rfl,rfl⟩:=y
    rw [Int.zero_add]
    exact hs i σ _ hlt p
  · have e:i=n:=by lia
    subst e
    exact .inl ⟨Nat.le_refl _,hd σ H p⟩
theorem lc_range {n:Nat}{te:TE}{σ:St}{H:Hp}{Q:VK}(G:Nat->V->Prop)(hl:n<=sizeLine)
    (he:∀ i,i<n->∀ H1,Same H H1->∀ R:VK,(∀ v H2,G i v->Same H1 H2->R v H2)->te (some (.int (i:Int))::σ) H1 R)
    (hq:∀ D H2 ys,H D=none->Same H H2->ys.length=n->(∀ i v,ys[i]? = some v->G i v)->H2 D=some (.lst ys)->Q (.ref D) H2):lcBody (Itr 0 n) tTrue te σ H Q:=by
  intro D hD
  refine⟨fun i m ys H'=>m=n - i/\i<=n/\ys.length=i/\(∀ j v,ys[j]? = some v->G j v)/\Same H H'/\H' D=some (.lst ys),⟨n,by simp,Nat.zero_le _,rfl,by simp,same_upd hD,upd_same⟩,?_⟩
  rintro i m ys H' ⟨rfl,hi,hy,hG,sm,hDl⟩
  refine⟨hDl,?_⟩
  by_cases hlt:i<n
  · refine .inr ⟨hlt,fun v H2 y=>?_⟩
    obtain⟨rfl,rfl⟩:=y
    rw [Int.zero_add]
    simp only [tTrue,↓reduceIte]
    refine he i hlt H2 sm _ fun v H4 gv s4=>?_
    have hD4:=s4 D _ hDl
    refine⟨hD4,by lia,n - (i+1),by lia,rfl,hlt,by simp [hy],fun j u e=>?_,?_,upd_same⟩
    · by_cases hj:j<ys.length
      · rw [List.getElem?_append_left hj] at e
        exact hG j u e
      · rw [List.getElem?_append_right (by lia)] at e
        have hj':j - ys.length=0:=by
          by_cases hz:j - ys.length=0
          · exact hz
          · rw [List.getElem?_eq_none_iff.mpr (by simp;lia)] at e;cases e
        have ej:j=i:=by lia
        subst ej
        rw [hj'] at e
        simp at e
        subst e
        exact gv
    · intro b o e
      rw [upd_ne (ne_of_none e hD)]
      exact s4 b o (sm b o e)
  · have e:i=n:=by lia
    subst e
    exact .inl ⟨Nat.le_refl _,hq D H' ys hD sm hy hG hDl⟩
end L2
namespace L2
open PySem PySem.Spec PyProof.Rows
theorem atI_0 {α:Type}(c:α)(l:List α):atI (c::l) 0=some c:=by rw [show(0:Int)=((0:Nat):Int) from rfl,atI_z];rfl
theorem atI_1 {α:Type}(c d:α)(l:List α):atI (c::d::l) 1=some d:=by rw [show(1:Int)=((1:Nat):Int) from rfl,atI_z];rfl
theorem atI_int {α:Type}{xs:List α}{i:Int}(h0:0<=i)(h1:i<xs.length):∃ v,atI xs i=some v/\xs[i.toNat]? = some v:=by
  obtain⟨n,rfl⟩:=Int.eq_ofNat_of_zero_le h0
  have hn:n<xs.length:=by lia
  refine⟨xs[n],?_,?_⟩
  · rw [show((n:Nat):Int)=((n:Nat):Int) from rfl]
    rw [atI_z,List.getElem?_eq_getElem hn]
  · rw [Int.toNat_natCast,List.getElem?_eq_getElem hn]
theorem atI_ints {ns:List Int}{i:Int}(h0:0<=i)(h1:i<ns.length):∃ n,atI (ns.map V.int) i=some (.int n)/\n∈ns:=by
  obtain⟨v,h2,h3⟩:=atI_int (xs:=ns.map V.int) h0 (by rw [List.length_map];exact h1)
  rw [List.getElem?_map] at h3
  cases e:ns[i.toNat]? with
  | none=>rw [e] at h3;cases h3
  | some n=>
    rw [e] at h3
    cases h3
    exact⟨n,h2,List.mem_of_getElem? e⟩
theorem mulOk_l {i j:Int}(h:-(2 ^ 64)<i/\i<2 ^ 64):IntMulOk i j:=CMul.ok (.inl h)
theorem mulOk_r {i j:Int}(h:-(2 ^ 64)<j/\j<2 ^ 64):IntMulOk i j:=CMul.ok (.inr h)
theorem mod_nn {a m:Int}(h:0<m):0<=a % m/\a % m<m:=⟨Int.emod_nonneg _ (by lia),Int.emod_lt_of_pos _ h⟩
theorem seq_if {tc:TT}{t rest:TS}{D:Ends}{σ:L2.St}{H:Hp}(hr:rest D σ H)(h:∀ N:L2.St->Hp->Prop,N σ H->tIfS tc t tNext { D with nx:=N } σ H):tSeq (tIfS tc t tNext) rest D σ H:=h _ hr
theorem cpow {i j:Int}(h:0<=j/\j<=1000000/\i.natAbs<2 ^ 64):CPow i j:=h
noncomputable def told (l:List Nat):Option Nat:=match l with
  | [c,d]=>if isFig c=true/\isFig d=true then sg[(c - 48) * 10+(d - 48)]? else none
  | _=>none
theorem told_ne {l:List Nat}(h:l.length≠2):told l=none:=by
  match l,h with
  | [],_=>rfl
  | [_],_=>rfl
  | [_,_],h=>exact absurd rfl h
  | _::_::_::_,_=>rfl
noncomputable def oV:Option Nat->V
  | some c=>.str (S [c])
  | none=>.non
end L2
namespace L2
open PySem PySem.Spec PyProof.Rows
noncomputable def rMulS:R2:=fun x y H Q=>∃ (l:List Nat) (n:Int),x=.str (S l)/\y=.int n/\0<=n/\n<=100000/\l.length * n.toNat<=16777216/\Q (.str (S (List.replicate n.toNat l).flatten)) H
noncomputable def ws:List Nat:=[97,98,99,100,101,102,103,104,105,106,107,108,109,110,111,112,113,114,115,116,117,118,119,120,121,122,48,49,50,51,52,53,54,55,56,57,45]
end L2
namespace L2
open PySem PySem.Spec PyProof.Rows
def Fly (p:Prop)(h:Heap)(e T:Addr)(cls:Value)(d:Option Addr)(fl:Value):Prop:=
  ∃ sl vs oT ts,h.get? e=some ⟨cls,d,.fields vs,sl⟩/\vs[1]? = some (.ref T)/\T≠e/\h.get? T=some oT/\oT.data=.fields ts/\ts[3]? = some fl/\(p->vs[2]? = some .none)
structure Kp (ch fs:List Addr)(h h':Heap):Prop where
  keep:∀ b o,b∉ch->b∉fs->h.get? b=some o->h'.get? b=some o
  slot:∀ b o,b∉ch->h.get? b=some o->∃ sl,h'.get? b=some { o with slots:=sl }
theorem Kp.trans {ch ch' fs:List Addr}{h h1 h2:Heap}(a:Kp ch fs h h1)(b:Kp ch' fs h1 h2):Kp (ch++ch') fs h h2 where
  keep:=fun x o hx hf q=>b.keep x o (fun z=>hx (List.mem_append_right _ z)) hf (a.keep x o (fun z=>hx (List.mem_append_left _ z)) hf q)
  slot:=fun x o hx q=>by
    obtain⟨sl,q1⟩:=a.slot x o (fun z=>hx (List.mem_append_left _ z)) q
    obtain⟨sl',q2⟩:=b.slot x _ (fun z=>hx (List.mem_append_right _ z)) q1
    exact⟨sl',q2⟩
theorem Kp.mono {ch ch' fs fs':List Addr}{h h1:Heap}(a:Kp ch fs h h1)(h1':∀ b∈ch,b∈ch')(h2':∀ b∈fs,b∈fs'):Kp ch' fs' h h1:=
  ⟨fun b o hx hf q=>a.keep b o (fun z=>hx (h1' b z)) (fun z=>hf (h2' b z)) q,fun b o hx q=>a.slot b o (fun z=>hx (h1' b z)) q⟩
section
variable {M:Model} {A:Around} {E:Value->Shared->Prop} {s:Shared}
theorem entry_new {base:Heap}{env:Env}{outer:List Env}{L e:Addr}{cls head:Value}{d:Option Addr}{vs:Array Value}{sl:Array (Option Value)}{nx:Bool}{p:Prop}{Q:Unit->Shared->Prop}
    (hfr:A.frames=some (env::outer)) (hl:s.heap.FunFrames base (env::outer)) (hf:env.frame=some L) (he:s.heap.get? e=some ⟨cls,d,.fields vs,sl⟩) (hv:1<vs.size) (hp:p->vs[2]? = some .none)
    (k:∀ h' T,s.heap.objs.size<=T->Fly p h' e T cls d (rawInt L)->Kp [e] (frs (env::outer)) s.heap h'->Q () { s with heap:=h' }) :
    wpAny M A (do let a ← frameOf env;let pl ← entryPlaceOf L nx;let b ← EntryCells.newEntry head a .none (rawInt L) .none pl;setField (.ref e) 1 b) Q E s:=by
  have ne:e∉(env::outer).filterMap (·.frame):=fun hm=>by
    obtain⟨_,o,ho,hn⟩:=hl.mem hm
    rw [he] at ho
    cases ho
    exact hn vs rfl
  refine wpAny_bind (wpAny_frameOf_fun hfr hl hf fun g hg=>wpAny_bind (wpAny_entryPlaceOf fun pl hpl=>?_))
  have e1:g.get? e=some ⟨cls,d,.fields vs,sl⟩:=(hg.2.1 e ne).trans he
  unfold EntryCells.newEntry newFields
  refine wpAny_bind (wpAny_newObj_type ?_ (hpl.sizeOk5 _ _ _ _ _))
  generalize hT:({ cls:=.type "traceback",dict:=none,data:=.fields ([head,.ref L,.none,rawInt L,.none]++(if pl.isEmpty then List.replicate 6 Value.none else pl)).toArray }:Obj)=tb
  have e2:=Heap.get?_push_of_some (h:=g) tb e1
  have tn:g.objs.size≠e:=Nat.ne_of_gt (Heap.lt_size e1)
  refine wpAny_setField e2 rfl hv (k _ g.objs.size ?_ ?_ ?_)
  · rw [hg.1];exact Nat.le_refl _
  · refine⟨sl,_,tb,([head,.ref L,.none,rawInt L,.none]++(if pl.isEmpty then List.replicate 6 Value.none else pl)).toArray,Heap.get?_update_self _ e2 (by rfl),by simp [hv],tn,?_,by rw [← hT],by simp,fun z=>by simpa [Array.getElem?_setIfInBounds] using hp z⟩
    rw [Heap.get?_update_other _ _ (Ne.symm tn)]
    exact Heap.get?_push_size g (by rw [← hT];rfl)
  · refine⟨fun b o hb hfs q=>?_,fun b o hb q=>?_⟩
    · have hbe:b≠e:=fun z=>hb (by simp [z])
      rw [Heap.get?_update_other _ _ (Ne.symm hbe)]
      exact Heap.get?_push_of_some _ ((hg.2.1 b hfs).trans q)
    · have hbe:b≠e:=fun z=>hb (by simp [z])
      obtain⟨sl',q'⟩:=hg.2.2 b o q
      refine⟨sl',?_⟩
      rw [Heap.get?_update_other _ _ (Ne.symm hbe)]
      exact Heap.get?_push_of_some _ q'
theorem note_first {base:Heap}{env:Env}{outer:List Env}{L e:Addr}{cls:Value}{d:Option Addr}{vs:Array Value}{sl:Array (Option Value)}{p:Prop}{Q:Unit->Shared->Prop}
    (hfr:A.frames=some (env::outer)) (hl:s.heap.FunFrames base (env::outer)) (hf:env.frame=some L) (he:s.heap.get? e=some ⟨cls,d,.fields vs,sl⟩) (hv:vs[1]? = some .none) (hp:p->vs[2]? = some .none)
    (k:∀ h' T,s.heap.objs.size<=T->Fly p h' e T cls d (rawInt L)->Kp [e] (frs (env::outer)) s.heap h'->Q () { s with heap:=h' }):wpAny M A (noteFrame (.ref e) env) Q E s:=by
  unfold noteFrame
  simp only [hf]
  refine wpAny_bind (wpAny_field he rfl hv ?_)
  rw [if_neg (by decide)]
  exact entry_new hfr hl hf he (Array.getElem?_eq_some_iff.mp hv).1 hp k
theorem note_next {base:Heap}{env:Env}{outer:List Env}{L e T:Addr}{cls:Value}{d:Option Addr}{p:Prop}{Q:Unit->Shared->Prop}
    (hfr:A.frames=some (env::outer)) (hl:s.heap.FunFrames base (env::outer)) (hf:env.frame=some L) (F:Fly p s.heap e T cls d .none)
    (k:∀ h' T',s.heap.objs.size<=T'->Fly p h' e T' cls d (rawInt L)->Kp [T,e] (frs (env::outer)) s.heap h'->Q () { s with heap:=h' }):wpAny M A (noteFrame (.ref e) env) Q E s:=by
  obtain⟨sl,vs,oT,ts,he,hv,tn,hT,hd,h3,hp⟩:=F
  unfold noteFrame
  simp only [hf]
  refine wpAny_bind (wpAny_field he rfl hv ?_)
  rw [if_pos (show(Value.ref T != Value.none)=true by simp)]
  refine wpAny_bind (wpAny_field hT hd h3 ?_)
  rw [if_neg (show ¬ (Value.none == rawInt L)=true by simp [rawInt])]
  refine wpAny_bind (wpAny_setField hT hd (Array.getElem?_eq_some_iff.mp h3).1 ?_)
  have oth:∀ b,b≠T->(s.heap.update T (Obj.mapFields (·.setIfInBounds 3 Value.none))).get? b=s.heap.get? b:=fun b hb=>Heap.get?_update_other _ _ (Ne.symm hb)
  have nT:∀ b o,s.heap.get? b=some o->(∀ ws,o.data≠.fields ws)->b≠T:=fun b o q hn z=>by
    rw [z,hT] at q
    cases q
    exact hn ts hd
  have hsz:(s.heap.update T (Obj.mapFields (·.setIfInBounds 3 Value.none))).objs.size=s.heap.objs.size:=(Heap.SameBut.update s.heap T _).1
  refine entry_new (base:=base) hfr (hl.of_keeps fun b o q hn=>⟨o,(oth b (nT b o q hn)).trans q,rfl⟩) hf ((oth e (Ne.symm tn)).trans he) (Array.getElem?_eq_some_iff.mp hv).1 hp fun h' T' g1 g2 g3=>?_
  refine k h' T' (by rw [← hsz];exact g1) g2 ⟨fun b o hb hfs q=>?_,fun b o hb q=>?_⟩
  · exact g3.keep b o (fun z=>hb (List.mem_cons_of_mem _ z)) hfs ((oth b fun z=>hb (by simp [z])).trans q)
  · exact g3.slot b o (fun z=>hb (List.mem_cons_of_mem _ z)) ((oth b fun z=>hb (by simp [z])).trans q)
theorem flight_off {e T:Addr}{cls fl:Value}{d:Option Addr}{p:Prop}{Q:Unit->Shared->Prop}(F:Fly p s.heap e T cls d fl)(k:∀ h',Fly p h' e T cls d .none->Kp [T] [] s.heap h'->h'.objs.size=s.heap.objs.size->Q () { s with heap:=h' }):wpAny M A (setFlight (.ref e) none) Q E s:=by
  obtain⟨sl,vs,oT,ts,he,hv,tn,hT,hd,h3,hp⟩:=F
  have h3':=(Array.getElem?_eq_some_iff.mp h3).1
  unfold setFlight
  refine wpAny_bind (wpAny_field he rfl hv ?_)
  rw [if_pos (show(Value.ref T != Value.none)=true by simp)]
  have oth:∀ b,b≠T->(s.heap.update T (Obj.mapFields (·.setIfInBounds 3 Value.none))).get? b=s.heap.get? b:=fun b hb=>Heap.get?_update_other _ _ (Ne.symm hb)
  refine wpAny_setField hT hd h3' (k _ ⟨sl,vs,_,_,(oth e (Ne.symm tn)).trans he,hv,tn,Heap.get?_update_self _ hT (Obj.isFreed_of_fields (Obj.data_mapFields hd _)),Obj.data_mapFields hd _,by simp [h3'],hp⟩ ?_ (Heap.SameBut.update s.heap T _).1)
  exact⟨fun b o hb _ q=>(oth b fun z=>hb (by simp [z])).trans q,fun b o hb q=>⟨o.slots,(oth b fun z=>hb (by simp [z])).trans q⟩⟩
theorem note_here {env:Env}{L e T:Addr}{cls:Value}{d:Option Addr}{p:Prop}{Q:Unit->Shared->Prop}(hf:env.frame=some L)(F:Fly p s.heap e T cls d (rawInt L))(k:Q () s):wpAny M A (noteFrame (.ref e) env) Q E s:=by
  obtain⟨sl,vs,oT,ts,he,hv,tn,hT,hd,h3,hp⟩:=F
  unfold noteFrame
  simp only [hf]
  refine wpAny_bind (wpAny_field he rfl hv ?_)
  rw [if_pos (show(Value.ref T != Value.none)=true by simp)]
  refine wpAny_bind (wpAny_field hT hd h3 ?_)
  rw [if_pos (show(rawInt L == rawInt L)=true from beq_self_eq_true _)]
  exact wpAny_pure k
theorem flight_on {env:Env}{L e T:Addr}{cls fl:Value}{d:Option Addr}{p:Prop}{Q:Unit->Shared->Prop}(hf:env.frame=some L)(F:Fly p s.heap e T cls d fl)(k:∀ h',Fly p h' e T cls d (rawInt L)->Kp [T] [] s.heap h'->Q () { s with heap:=h' }):wpAny M A (setFlight (.ref e) env.frame) Q E s:=by
  obtain⟨sl,vs,oT,ts,he,hv,tn,hT,hd,h3,hp⟩:=F
  have h3':=(Array.getElem?_eq_some_iff.mp h3).1
  unfold setFlight
  rw [hf]
  refine wpAny_bind (wpAny_field he rfl hv ?_)
  rw [if_pos (show(Value.ref T != Value.none)=true by simp)]
  have oth:∀ b,b≠T->(s.heap.update T (Obj.mapFields (·.setIfInBounds 3 (rawInt L)))).get? b=s.heap.get? b:=fun b hb=>Heap.get?_update_other _ _ (Ne.symm hb)
  refine wpAny_setField hT hd h3' (k _ ⟨sl,vs,_,_,(oth e (Ne.symm tn)).trans he,hv,tn,Heap.get?_update_self _ hT (Obj.isFreed_of_fields (Obj.data_mapFields hd _)),Obj.data_mapFields hd _,by simp [h3'],hp⟩ ?_)
  exact⟨fun b o hb _ q=>(oth b fun z=>hb (by simp [z])).trans q,fun b o hb q=>⟨o.slots,(oth b fun z=>hb (by simp [z])).trans q⟩⟩
theorem leave_here {env:Env}{L e T:Addr}{cls:Value}{d:Option Addr}{p:Prop}{Q:Unit->Shared->Prop}(hf:env.frame=some L)(F:Fly p s.heap e T cls d (rawInt L))(k:∀ h',Fly p h' e T cls d .none->Kp [T] [] s.heap h'->Q () { s with heap:=h' }):wpAny M A (leaving env (.ref e)) Q E s:=by
  unfold leaving
  exact wpAny_bind (note_here hf F (flight_off F fun h2 f1 f2 f3=>k h2 f1 f2))
theorem leave_first {base:Heap}{env:Env}{outer:List Env}{L e:Addr}{cls:Value}{d:Option Addr}{vs:Array Value}{sl:Array (Option Value)}{p:Prop}{Q:Unit->Shared->Prop}
    (hfr:A.frames=some (env::outer)) (hl:s.heap.FunFrames base (env::outer)) (hf:env.frame=some L) (he:s.heap.get? e=some ⟨cls,d,.fields vs,sl⟩) (hv:vs[1]? = some .none) (hp:p->vs[2]? = some .none)
    (k:∀ h' T,s.heap.objs.size<=T->Fly p h' e T cls d .none->Kp [e] (frs (env::outer)) s.heap h'->Q () { s with heap:=h' }):wpAny M A (leaving env (.ref e)) Q E s:=by
  unfold leaving
  refine wpAny_bind (note_first hfr hl hf he hv hp fun h1 T g1 g2 g3=>flight_off (s:={ s with heap:=h1 }) g2 fun h2 f1 f2 f3=>k h2 T g1 f1 ⟨fun b o hb hfs q=>?_,fun b o hb q=>?_⟩)
  all_goals
    have hbT:b≠T:=fun z=>absurd (Heap.lt_size q) (by rw [z];exact Nat.not_lt.mpr g1)
  · exact f2.keep b o (by simpa using hbT) (by simp) (g3.keep b o hb hfs q)
  · obtain⟨sl',q'⟩:=g3.slot b o hb q
    obtain⟨sl2,q2⟩:=f2.slot b _ (by simpa using hbT) q'
    exact⟨sl2,q2⟩
theorem leave_next {base:Heap}{env:Env}{outer:List Env}{L e T:Addr}{cls:Value}{d:Option Addr}{p:Prop}{Q:Unit->Shared->Prop}
    (hfr:A.frames=some (env::outer)) (hl:s.heap.FunFrames base (env::outer)) (hf:env.frame=some L) (F:Fly p s.heap e T cls d .none)
    (k:∀ h' T',s.heap.objs.size<=T'->Fly p h' e T' cls d .none->Kp [T,e] (frs (env::outer)) s.heap h'->Q () { s with heap:=h' }):wpAny M A (leaving env (.ref e)) Q E s:=by
  unfold leaving
  refine wpAny_bind (note_next hfr hl hf F fun h1 T' g1 g2 g3=>flight_off (s:={ s with heap:=h1 }) g2 fun h2 f1 f2 f3=>k h2 T' g1 f1 ⟨fun b o hb hfs q=>?_,fun b o hb q=>?_⟩)
  all_goals
    have hbT:b≠T':=fun z=>absurd (Heap.lt_size q) (by rw [z];exact Nat.not_lt.mpr g1)
  · exact f2.keep b o (by simpa using hbT) (by simp) (g3.keep b o hb hfs q)
  · obtain⟨sl',q'⟩:=g3.slot b o hb q
    obtain⟨sl2,q2⟩:=f2.slot b _ (by simpa using hbT) q'
    exact⟨sl2,q2⟩
end
end L2
namespace L2
open PySem PySem.Spec PySem.Calls PyProof.Rows PySem.W
noncomputable abbrev vBM:List Value:=[.type "ValueError",.type "Exception",.type "BaseException",.type "object"]
noncomputable def xShape (K:Frag)(C:Addr):Bool:=match K.lookup C with
  | none=>false
  | some o=>o.cls == .type "type"&&match o.data with
    | .cls c=>(match c.mro,o.slots.toList with | .ref B::m,[_,_,_,_,some (.builtin n),_]=>B == C&&n == "ValueError.__new__"&&!c.hasDel&&tailIn K vBM m&&nsOkIn K c.ns | _,_=>false)
    | _=>false
noncomputable def xInit (K:Frag)(C:Addr):Option (Option Value):=(clsIn K C).bind fun c=>nsIn K c.ns "__init__"
theorem ns_some_of {K:Frag}{h:Heap}{N:Addr}{x:Str}{v:Value}(X:K.In h)(e:nsOkIn K N=true)(q:nsIn K N x=some (some v)):h.nsMap N x=some v:=by
  obtain⟨o,es,ep,ho,hd,_,hf⟩:=(Heap.Ns.of_isNs (isNs_of_in X e):h.Ns N (h.nsMap N))
  unfold nsIn at q
  split at q
  · rename_i c d es' n' sl z
    have:=X _ _ z
    rw [ho] at this
    cases this
    cases hd
    split at q
    · rename_i en he
      rw [← hf]
      unfold nsFind findBy
      rw [← Array.find?_toList,he]
      cases q
      rfl
    · split at q<;>cases q
  · cases q
theorem x_obj {K:Frag}{h:Heap}{C:Addr}(X:K.In h)(e:xShape K C=true):∃ nm q N bs bm hd sn sub ab col dd k0 k1 k2 k3 k5 cd,
    h.get? C=some (excClassObj nm q C N bs bm hd sn sub ab col dd k0 k1 k2 k3 k5 "ValueError.__new__")/\clsIn K C=some cd/\cd.mro=.ref C::bm/\cd.ns=N/\cd.hasDict=hd/\OwnTail h vBM bm/\nsOkIn K N=true:=by
  unfold xShape at e
  cases hl:K.lookup C with
  | none=>rw [hl] at e;cases e
  | some o=>
    rw [hl] at e
    simp only [Bool.and_eq_true,beq_iff_eq] at e
    obtain⟨hc,e⟩:=e
    cases hd:o.data with
    | cls c=>
      rw [hd] at e
      simp only at e
      split at e
      · rename_i B m k0 k1 k2 k3 n k5 hm hs
        simp only [Bool.and_eq_true,beq_iff_eq,Bool.not_eq_true'] at e
        obtain⟨⟨⟨⟨hB,rfl⟩,hdel⟩,ht⟩,hok⟩:=e
        obtain rfl:C=B:=hB.symm
        have hci:clsIn K C=some c:=by
          unfold clsIn
          obtain⟨oc,od,oda,osl⟩:=o
          dsimp only at hd
          subst hd
          rw [hl]
        obtain⟨oc,od,oda,osl⟩:=o
        dsimp only at hc hd hs
        subst hc hd
        have z:osl = #[k0,k1,k2,k3,some (.builtin "ValueError.__new__"),k5]:=by
          obtain⟨l⟩:=osl
          simp only at hs
          rw [hs]
        subst z
        have hh:=X _ _ hl
        obtain⟨nm,bs,mro,ns,qn,hdc,sn,sub,ab,col,del⟩:=c
        dsimp only at hm hdel hok
        subst hm hdel
        exact⟨nm,qn,ns,bs,m,hdc,sn,sub,ab,col,od,k0,k1,k2,k3,k5,⟨nm,bs,.ref C::m,ns,qn,hdc,sn,sub,ab,col,false⟩,hh,hci,rfl,rfl,rfl,tail_of_in X ht,hok⟩
      · cases e
    | _=>rw [hd] at e;simp at e
section
variable {prog:Program} {w:World} {A:Around} {E:Value->Shared->Prop} {K:Frag} {C:Addr}
theorem exc_new {h:Heap}{g:Array GenState}{d:Drawn}{t:Nat}{os:OsState}{rest:List Value}{fI:Addr}{oI:Obj}{Q:Fin->Shared->Prop}(X:K.In h)(e:xShape K C=true)(hi:xInit K C=some (some (.ref fI)))(hf:K.lookup fI=some oI)
    (hfc:oI.cls=.type "function") (hr:rest.length<=sizeLine)
    (hq:∀ h' x,h.objs.size<=x->Heap.MadeExcOf h h' x (.ref C) rest->wpAny (model prog w) A (call (.ref fI) (.ref x::rest)) (fun r s'=>r=.none/\Q (.done (.ret (.ref x))) s') E ⟨h',g,d,t,os⟩) :
    wpAny (model prog w) A (Builtin.«type.__call__» ⟨.ref C::rest,[]⟩) Q E ⟨h,g,d,t,os⟩:=by
  obtain⟨nm,q,N,bs,bm,hd,sn,sub,ab,col,dd,k0,k1,k2,k3,k5,cd,hC,hcd,hmro,hns,_,T,hok⟩:=x_obj X e
  have F:=PySem.F.excBase_ValueError
  have hi':nsIn K N "__init__" = some (some (.ref fI)):=by
    unfold xInit at hi
    rw [hcd] at hi
    rw [← hns]
    exact hi
  have hn:h.Ns N (h.nsMap N):=Heap.Ns.of_isNs (isNs_of_in X hok)
  have hm:=ns_some_of X hok hi'
  have hfI:=X _ _ hf
  generalize h.nsMap N=mN at hn hm
  repeat (first | (with_reducible refine wpAny_loadPart_at hC ?_) | (with_reducible refine wpAny_madeBy_exc hC ?_) | wp_step)
  refine codeAny_call_builtin_code (Code.quiet_builtin _ F.quiet) (wpAny_check_new_subT F T hC (codeAny_exc_new_subT F T hC ?_ hr))
  show wpAny (model prog w) _ _ _ _ _
  have up:∀ b o,h.get? b=some o->((h.push ({ cls:=.type "tuple",data:=.seq rest.toArray }:Obj)).push ({ cls:=.ref C,data:=.fields #[.ref h.objs.size,.none,.none,.none,.bool false,.none] }:Obj)).get? b=some o:=fun b o z=>Heap.get?_push_of_some ({ cls:=.ref C,data:=.fields #[.ref h.objs.size,.none,.none,.none,.bool false,.none] }:Obj) (Heap.get?_push_of_some ({ cls:=.type "tuple",data:=.seq rest.toArray }:Obj) z)
  have hC1:=up _ _ hC
  have hfI1:=up _ _ hfI
  have hn1:((h.push ({ cls:=.type "tuple",data:=.seq rest.toArray }:Obj)).push ({ cls:=.ref C,data:=.fields #[.ref h.objs.size,.none,.none,.none,.bool false,.none] }:Obj)).Ns N mN:=hn.keeps up
  have T1:=T.keeps up
  have hget:((h.push ({ cls:=.type "tuple",data:=.seq rest.toArray }:Obj)).push ({ cls:=.ref C,data:=.fields #[.ref h.objs.size,.none,.none,.none,.bool false,.none] }:Obj)).get? (h.objs.size+1)=some ({ cls:=.ref C,data:=.fields #[.ref h.objs.size,.none,.none,.none,.bool false,.none] }:Obj):=by
    have:=Heap.get?_push_size (h.push ({ cls:=.type "tuple",data:=.seq rest.toArray }:Obj)) (o:=({ cls:=.ref C,data:=.fields #[.ref h.objs.size,.none,.none,.none,.bool false,.none] }:Obj)) rfl
    rwa [Heap.size_push] at this
  have hcC:(Value.ref C::bm).contains (.ref C)=true:=by simp
  unfold isInstance
  repeat (first | (with_reducible refine wpAny_loadPart_at hget ?_) | (with_reducible refine wpAny_isSubtype_exc hC1 ?_;rw [hcC]) | wp_step)
  show wpAny (model prog w) _ (typeLookup (.ref C) _) _ _ _
  refine wpAny_typeLookup_tail hC1 hn1 T1 F.mroIs F.init.lookup ?_
  rw [hm]
  refine wpAny_holding (wpAny_bind ?_)
  unfold bindSpecial
  refine wpAny_bind (wpAny_typeOf (T:="function") ⟨_,hfI1,hfc⟩ ?_)
  rw [if_pos (by decide)]
  refine wpAny_pure (wpAny_bind (wpAny_mono (hq _ (h.objs.size+1) (Nat.le_succ _) ⟨up,Heap.get?_none_of_le (Nat.le_succ _),h.objs.size,hget,Heap.get?_none_of_le (Nat.le_refl _),?_⟩) (fun r s' z=>?_) fun _ _ z=>z))
  · exact Heap.get?_push_of_some _ (Heap.get?_push_size h rfl)
  · obtain⟨rfl,z⟩:=z
    wp_walk
    exact z
theorem exc_make {s:Shared}{rest:List Value}{fI:Addr}{oI:Obj}{Q:Value->Shared->Prop}(X:K.In s.heap)(e:xShape K C=true)(hi:xInit K C=some (some (.ref fI)))(hf:K.lookup fI=some oI)(hfc:oI.cls=.type "function")(hr:rest.length<=sizeLine)
    (hq:∀ h' x,s.heap.objs.size<=x->Heap.MadeExcOf s.heap h' x (.ref C) rest->wpAny (model prog w) (A.under (.builtin "type.__call__" ⟨.ref C::rest,[]⟩)) (call (.ref fI) (.ref x::rest)) (fun r s'=>r=.none/\Q (.ref x) s') E { s with heap:=h' }) :
    wpAny (model prog w) A (call (.ref C) rest) Q E s:=by
  obtain⟨h,g,d,t,os⟩:=s
  obtain⟨nm,q,N,bs,bm,hd,sn,sub,ab,col,dd,k0,k1,k2,k3,k5,cd,hC,_⟩:=x_obj X e
  have f1:=tc_lookup
  have f2:=tc_bind (.ref C)
  have hT:(⟨h,g,d,t,os⟩:Shared).TypeIs (.ref C) "type":=⟨_,hC,rfl⟩
  refine wpAny_call (codeAny_of_tree ?_)
  show wpAny (model prog w) _ (callAny (.ref C) _) _ _ _
  repeat (any_goals (first | assumption | (with_reducible refine wpAny_loadPart_at hC ?_) | wp_step))
  exact⟨rfl,codeAny_call_builtin_at (Code.quiet_builtin _ (by decide +kernel)) entry_typeCall (wpAny_check_type_call_sub hC (exc_new X e hi hf hfc hr fun h' x y z=>hq h' x y z))⟩
end
end L2
namespace L2
open PySem PySem.Spec PySem.Calls PyProof.Rows PySem.W Builtin Builtin.ObjectAttr
section
variable {prog:Program} {w:World} {A:Around} {E:Value->Shared->Prop} {K:Frag} {C x:Addr} {s:Shared}
theorem exc_init {rest:List Value}{vs:Array Value}{sl:Array (Option Value)}{dd:Option Addr}{Q:Value->Shared->Prop}(X:K.In s.heap)(e:xShape K C=true)(hx:s.heap.get? x=some ⟨.ref C,dd,.fields vs,sl⟩){t0:Addr}(h0:vs[0]? = some (.ref t0))(hr:rest.length<=sizeLine)
    (hq:∀ h',(∀ b o,b≠x->s.heap.get? b=some o->h'.get? b=some o)->h'.get? x=some ⟨.ref C,dd,.fields (vs.setIfInBounds 0 (.ref s.heap.objs.size)),sl⟩->Q .none { s with heap:=h' }) :
    wpAny (model prog w) A (call (.builtin "ValueError.__init__") (.ref x::rest)) Q E s:=by
  obtain⟨h,g,d,t,os⟩:=s
  obtain⟨nm,q,N,bs,bm,hd,sn,sub,ab,col,dd',k0,k1,k2,k3,k5,cd,hC,hcd,hmro,hns,_,T,hok⟩:=x_obj X e
  have F:=PySem.F.excBase_ValueError
  refine wpAny_call (codeAny_call_builtin F.init.plain F.initEntry (wpAny_check_init_subT F T hC hx rfl ?_))
  have hx1:(h.push ({ cls:=.type "tuple",data:=.seq rest.toArray }:Obj)).get? x=some ⟨.ref C,dd,.fields vs,sl⟩:=Heap.get?_push_of_some _ hx
  have hz:0<vs.size:=(Array.getElem?_eq_some_iff.mp h0).1
  repeat (first | (with_reducible refine wpAny_field hx1 rfl h0 ?_) | (with_reducible refine wpAny_setField hx1 rfl hz ?_) | wp_step)
  refine hq _ (fun b o hb z=>?_) ?_
  · exact(Heap.get?_update_other _ _ (Ne.symm hb)).trans (Heap.get?_push_of_some _ z)
  · exact Heap.get?_update_self _ hx1 rfl
theorem ot_pass {h:Heap}{self:Value}{l:List Value}(T:OwnTail h vBM l):refuseLoop self "__setattr__" l=pure ():=by
  induction T with
  | base=>exact PySem.F.store_ValueError.passes self
  | own _ _ _ _ ih=>rw [refuseLoop_ref];exact ih
theorem x_store {ox:Obj}{od:Option Obj}{name:Str}{tk:Tok}{v:Value}{R:Result->Shared->Prop}(X:K.In s.heap)(I:InstAt s.heap x ox C od)(e:xShape K C=true)(ha:findIn K (.ref C) name=some none)
    (h:∀ b,wpAny (model prog w) A.in1 (storeInOwnDict (.ref x) (.ref C) (.str name tk) name v b)
      (fun fin s'=>match fin with | .done f=>R (.ok f) s' | .again c'=>c'.quiet=true/\codeAny (model prog w) A c' R s') (fun e s'=>R (.error e) s') s) :
    codeAny (model prog w) A (.call (.builtin "object.__setattr__") ⟨[.ref x,.str name tk,v],[]⟩) R s:=by
  have SF:=PySem.F.store_object
  obtain⟨nm,q,N,bs,bm,hd,sn,sub,ab,col,dd',k0,k1,k2,k3,k5,cd,hC,hcd,hmro,hns,_,T,hok⟩:=x_obj X e
  have hobj:cd.mro.contains (.type "object")=true:=by rw [hmro,List.contains_cons,T.hasType (X:="object") (b:=true) (by decide +kernel),Bool.or_true]
  have sub:Looks (model prog w) s.heap (isInstance (.ref x) (.type "object")) true:=I.type.andThen (looks_mroIn X (by unfold mroIn;rw [hcd,Option.bind_some,if_neg (by rw [hmro];simp),hobj]))
  refine codeAny_call_builtin SF.slot.plain SF.entry (@check_slot (model prog w) _ _ s "object.__setattr__" "object" "__setattr__" (.ref x) [.str name tk,v] [] _ SF.kind SF.split sub (SF.args (.ref x) (.str name tk) v) ?_)
  have hm:Looks (model prog w) s.heap (mroOf (.ref C)) cd.mro:=(looks_clsIn X hcd).andThen .now
  rw [osa_eq,refuse_eq]
  refine wpAny_bind (wpAny_bind (I.type.here (wpAny_bind (hm.here ?_))))
  rw [hmro,refuseLoop_ref,ot_pass T]
  exact wpAny_pure (wpAny_bind (I.type.here (wpAny_bind ((looks_findIn X ha).here (wpAny_bind (wpAny_pure (h _)))))))
theorem store_in {M:Model}{d:Addr}{mA:Str->Option Value}{ns:List Str}{name:Str}{tk:Tok}{v:Value}{Q:Fin->Shared->Prop}(hns:s.heap.Ns1 d mA)(hw:Within mA ns)(hz:ns.length<sizeLine)
    (hq:∀ h' tk',h'.Ns1 d (fun y=>if y=name then some v else mA y)->Heap.SameBut d s.heap h'->Q (.done (.ret .none)) { s with heap:=h',toks:=tk' }):wpAny M A (storeInDict d (.str name tk) name v) Q E s:=by
  obtain⟨h,g,dr,t,os⟩:=s
  unfold storeInDict newKeyGuard
  refine wpAny_bind (wpAny_pure (wpAny_bind (wpAny_nsSet1 hns fun h' hn' hs=>?_)))
  obtain⟨oD,es,ep,ho,hd,hc⟩:=hn'.count (Within.cons name v hw)
  refine wpAny_bind (wpAny_lookBehind ho (by rw [hd];exact pastItsLine_dict (Nat.le_trans hc (by rw [List.length_cons];lia))) ?_)
  exact wpAny_pure (hq h' _ hn' hs)
theorem own_new {M:Model}{vs:Array Value}{sl:Array (Option Value)}{Q:Option Addr->Shared->Prop}(X:K.In s.heap)(hx:s.heap.get? x=some ⟨.ref C,none,.fields vs,sl⟩)(e:xShape K C=true)(hh:hasDictIn K C=true)
    (hq:Q (some s.heap.objs.size) { s with heap:=(s.heap.push ({ cls:=.type "dict",data:=.dict #[] }:Obj)).update x fun o=>{ cls:=o.cls,dict:=some s.heap.objs.size,data:=o.data,slots:=o.slots } }):wpAny M A (ownDictForStores (.ref x)) Q E s:=by
  obtain⟨h,g,dr,t,os⟩:=s
  obtain⟨nm,q,N,bs,bm,hd,sn,sub,ab,col,dd',k0,k1,k2,k3,k5,cd,hC,hcd,hmro,hns,hdd,T,hok⟩:=x_obj X e
  have hT:hd=true:=by
    obtain⟨cd',hc',hd'⟩:=any_some hh
    rw [hcd] at hc'
    cases hc'
    rw [← hdd]
    exact hd'
  subst hT
  have hx1:(h.push ({ cls:=.type "dict",data:=.dict #[] }:Obj)).get? x=some ⟨.ref C,none,.fields vs,sl⟩:=Heap.get?_push_of_some _ hx
  repeat (first | (with_reducible refine wpAny_loadPart_at hx ?_) | (with_reducible refine wpAny_loadPart_at hC ?_) | (with_reducible refine wpAny_update' hx1 ?_) | wp_step)
  exact hq
theorem own_old {M:Model}{vs:Array Value}{sl:Array (Option Value)}{d:Addr}{Q:Option Addr->Shared->Prop}(X:K.In s.heap)(hx:s.heap.get? x=some ⟨.ref C,some d,.fields vs,sl⟩)(e:xShape K C=true)(hh:hasDictIn K C=true)
    (hq:Q (some d) s):wpAny M A (ownDictForStores (.ref x)) Q E s:=by
  obtain⟨h,g,dr,t,os⟩:=s
  obtain⟨nm,q,N,bs,bm,hd,sn,sub,ab,col,dd',k0,k1,k2,k3,k5,cd,hC,hcd,hmro,hns,hdd,T,hok⟩:=x_obj X e
  have hT:hd=true:=by
    obtain⟨cd',hc',hd'⟩:=any_some hh
    rw [hcd] at hc'
    cases hc'
    rw [← hdd]
    exact hd'
  subst hT
  repeat (first | (with_reducible refine wpAny_loadPart_at hx ?_) | (with_reducible refine wpAny_loadPart_at hC ?_) | wp_step)
  exact hq
theorem exc_set0 {vs:Array Value}{sl:Array (Option Value)}{name:Str}{v:Value}{Q:Unit->Shared->Prop}(X:K.In s.heap)(hx:s.heap.get? x=some ⟨.ref C,none,.fields vs,sl⟩)(e:xShape K C=true)(hh:hasDictIn K C=true)
    (hsa:findIn K (.ref C) "__setattr__" = some (some (.builtin "object.__setattr__"))) (ha:findIn K (.ref C) name=some none)
    (hq:∀ h' d tk,s.heap.objs.size<=d->h'.get? x=some ⟨.ref C,some d,.fields vs,sl⟩->h'.Ns1 d (fun y=>if y=name then some v else none)->(∀ b o,b≠x->s.heap.get? b=some o->h'.get? b=some o)->Q () { s with heap:=h',toks:=tk }) :
    wpAny (model prog w) A (setAttr (.ref x) name v) Q E s:=by
  have I:InstAt s.heap x ⟨.ref C,none,.fields vs,sl⟩ C none:=⟨hx,rfl,rfl,trivial⟩
  refine set_plain X I hsa (x_store (s:={ s with toks:=s.toks+1 }) X I e ha fun b=>?_)
  have hxs:x≠s.heap.objs.size:=Nat.ne_of_lt (Heap.lt_size hx)
  have hx1:(s.heap.push ({ cls:=.type "dict",data:=.dict #[] }:Obj)).get? x=some ⟨.ref C,none,.fields vs,sl⟩:=Heap.get?_push_of_some _ hx
  unfold storeInOwnDict
  refine wpAny_bind (wpAny_pure ?_)
  rw [if_neg (show ¬ (Value.ref C == Value.type "module")=true from fun z=>by cases beq_iff_eq.mp z)]
  refine wpAny_bind (own_new (s:={ s with toks:=s.toks+1 }) X hx e hh ?_)
  have hgd:((s.heap.push ({ cls:=.type "dict",data:=.dict #[] }:Obj)).update x fun o=>{ cls:=o.cls,dict:=some s.heap.objs.size,data:=o.data,slots:=o.slots }).get? s.heap.objs.size=some ({ cls:=.type "dict",data:=.dict #[] }:Obj):=
    (Heap.get?_update_ne _ _ _ _ hxs.symm).trans (Heap.get?_push_size _ rfl)
  have hnd:Heap.Ns ((s.heap.push ({ cls:=.type "dict",data:=.dict #[] }:Obj)).update x fun o=>{ cls:=o.cls,dict:=some s.heap.objs.size,data:=o.data,slots:=o.slots }) s.heap.objs.size (fun _=>none):=
    ⟨_,#[],_,hgd,rfl,fun e he=>absurd he (by simp),fun _=>rfl⟩
  refine store_in (ns:=[]) (Heap.Ns1.of_empty hnd) Within.nil (by rw [sizeLine_eq];decide) fun h' tk' hn hs=>?_
  refine hq h' s.heap.objs.size _ (Nat.le_refl _) ((hs.2 x hxs).trans (Heap.get?_update_self _ hx1 rfl)) hn fun b o hb z=>?_
  exact(hs.2 b (Nat.ne_of_lt (Heap.lt_size z))).trans ((Heap.get?_update_ne _ _ _ _ hb).trans (Heap.get?_push_of_some _ z))
theorem exc_set1 {vs:Array Value}{sl:Array (Option Value)}{name:Str}{v:Value}{d:Addr}{mA:Str->Option Value}{ns:List Str}{Q:Unit->Shared->Prop}(X:K.In s.heap)(hx:s.heap.get? x=some ⟨.ref C,some d,.fields vs,sl⟩)(e:xShape K C=true)(hh:hasDictIn K C=true)
    (hsa:findIn K (.ref C) "__setattr__" = some (some (.builtin "object.__setattr__"))) (ha:findIn K (.ref C) name=some none) (hd:s.heap.Ns1 d mA) (hw:Within mA ns) (hz:ns.length<sizeLine)
    (hq:∀ h' tk,h'.Ns1 d (fun y=>if y=name then some v else mA y)->(∀ b o,b≠d->s.heap.get? b=some o->h'.get? b=some o)->Q () { s with heap:=h',toks:=tk }) :
    wpAny (model prog w) A (setAttr (.ref x) name v) Q E s:=by
  obtain⟨od,es,ep,hod,hrest⟩:=id hd
  have I:InstAt s.heap x ⟨.ref C,some d,.fields vs,sl⟩ C (some od):=⟨hx,rfl,rfl,hod⟩
  refine set_plain X I hsa (x_store (s:={ s with toks:=s.toks+1 }) X I e ha fun b=>?_)
  unfold storeInOwnDict
  refine wpAny_bind (wpAny_pure ?_)
  rw [if_neg (show ¬ (Value.ref C == Value.type "module")=true from fun z=>by cases beq_iff_eq.mp z)]
  refine wpAny_bind (own_old (s:={ s with toks:=s.toks+1 }) X hx e hh ?_)
  exact store_in (s:={ s with toks:=s.toks+1 }) hd hw hz fun h' tk' hn hs=>hq h' _ hn fun b o hb z=>(hs.2 b hb).trans z
end
end L2
namespace L2
open PySem PySem.Spec PySem.Calls PyProof.Rows PySem.W Builtin Builtin.ObjectAttr
structure XCl (K:Frag)(C:Addr):Prop where
  sh:xShape K C=true
  hd:hasDictIn K C=true
  ga:findIn K (.ref C) "__getattribute__" = some (some (.builtin "BaseException.__getattribute__"))
  gt:findIn K (.ref C) "__getattr__" = some none
  sa:findIn K (.ref C) "__setattr__" = some (some (.builtin "object.__setattr__"))
  ca:findIn K (.ref C) "__class__" = some (some (.builtin "object.__class__"))
  cg:specialIn K (.builtin "object.__class__") "__get__" = some (some (.builtin "getset_descriptor.__get__"))
  ct:takesIn K (.builtin "object.__class__")=some true
noncomputable def xclIn (K:Frag)(C:Addr):Bool:=xShape K C&&hasDictIn K C&&findIn K (.ref C) "__getattribute__" == some (some (.builtin "BaseException.__getattribute__"))&&findIn K (.ref C) "__getattr__" == some none &&
  findIn K (.ref C) "__setattr__" == some (some (.builtin "object.__setattr__"))&&findIn K (.ref C) "__class__" == some (some (.builtin "object.__class__"))&&specialIn K (.builtin "object.__class__") "__get__" == some (some (.builtin "getset_descriptor.__get__"))&&takesIn K (.builtin "object.__class__") == some true
theorem xcl_of {K:Frag}{C:Addr}(e:xclIn K C=true):XCl K C:=by
  simp only [xclIn,Bool.and_eq_true,beq_iff_eq] at e
  obtain⟨⟨⟨⟨⟨⟨⟨a,b⟩,c⟩,d⟩,e⟩,f⟩,g⟩,h⟩:=e
  exact⟨a,b,c,d,e,f,g,h⟩
theorem XCl.mro {K:Frag}{h:Heap}{C:Addr}(c:XCl K C)(X:K.In h)(T:String)(ht:vBM.contains (.type T)=true):mroIn K C (.type T)=some true:=by
  obtain⟨nm,q,N,bs,bm,hd,sn,sub,ab,col,dd',k0,k1,k2,k3,k5,cd,hC,hcd,hmro,hns,hdd,OT,hok⟩:=x_obj X c.sh
  unfold mroIn
  rw [hcd,Option.bind_some,if_neg (by rw [hmro];simp),hmro,List.contains_cons,OT.hasType (X:=T) ht,Bool.or_true]
section
variable {prog:Program} {w:World} {A:Around} {E:Value->Shared->Prop} {K:Frag} {C x:Addr} {s:Shared} {ox:Obj} {od:Option Obj} {name:Str} {tk:Tok} {fill expr:Bool}
theorem exc_by {Q:Value->Shared->Prop}(X:K.In s.heap)(I:InstAt s.heap x ox C od)(c:XCl K C)
    (h:wpAny (model prog w) A.in1 (Builtin.«object.__getattribute__» ⟨[.ref x,.str name tk],[]⟩) (fun fin s'=>match fin with | .done (.ret v)=>wpAny (model prog w) A (handedOut v) Q E s' | _=>False) (fun _ _=>False) s) :
    wpAny (model prog w) A (getAttrBy (.ref x) (.str name tk) fill expr) Q E s:=by
  have L0:=I.type (M:=model prog w)
  unfold getAttrBy
  refine wpAny_holding (wpAny_bind (L0.here (wpAny_bind ((looks_findIn X c.ga).here ?_))))
  dsimp only
  have ne:(Value.builtin "BaseException.__getattribute__" == Value.builtin "object.__getattribute__")=false:=by decide +kernel
  rw [ne,Bool.and_false,if_neg (by decide)]
  unfold getAttrByItsOwn
  refine wpAny_bind ((looks_hook (mc:=.ref C) X (r:=none) (by rw [if_pos (show onTheHeap (.ref C)=true from rfl)];exact c.gt)).here (wpAny_bind (wpAny_attempt (wpAny_holding ?_))))
  unfold callGetattribute
  rw [show(expr&&onTheHeap (Value.builtin "BaseException.__getattribute__"))=false from Bool.and_false _,if_neg (by decide)]
  unfold boundAndCalled
  rw [PySem.F.attr_ValueError.ga.bind]
  refine wpAny_bind (wpAny_pure ?_)
  show wpAny _ _ (call (.builtin "BaseException.__getattribute__") [.ref x,.str name tk]) _ _ _
  refine wpAny_call (codeAny_call_builtin PySem.F.attr_ValueError.ga.plain PySem.F.entry_bexc_ga ?_)
  refine @check_slot (model prog w) _ _ s "BaseException.__getattribute__" "BaseException" "__getattribute__" (.ref x) [.str name tk] [] _ (by decide +kernel) (by decide +kernel) (L0.andThen (looks_mroIn X (c.mro X "BaseException" (by decide +kernel)))) (PySem.F.args_bexc_ga _ _) ?_
  refine wpAny_mono h (fun fin s' z=>?_) fun _ _ z=>z.elim
  rcases fin with(_ | _ | _ | _) | _<;>first | exact z | exact z.elim
theorem exc_get {v:Value}{Q:Value->Shared->Prop}(X:K.In s.heap)(I:InstAt s.heap x ox C od)(c:XCl K C)(hf:findObj K C od name=some (.value v))(hh:handedIn v=true)(h:Q v { s with toks:=s.toks+1 }) :
    wpAny (model prog w) A (getAttr (.ref x) name expr) Q E s:=by
  refine wpAny_bind (wpAny_mkText (exc_by (s:={ s with toks:=s.toks+1 }) X I c ?_))
  have L0:=I.type (M:=model prog w)
  have L1:=looks_find (M:=model prog w) X I hf
  unfold Builtin.«object.__getattribute__»
  refine wpAny_bind (wpAny_pure (wpAny_bind (wpAny_pure (wpAny_bind (L0.here (s:={ s with toks:=s.toks+1 }) (wpAny_bind (L1.here (s:={ s with toks:=s.toks+1 }) ?_)))))))
  refine wpAny_pure ?_
  show wpAny _ _ (handedOut v) _ _ _
  rw [handedOut_of hh];exact wpAny_pure h
theorem exc_class {Q:Option Value->Shared->Prop}(X:K.In s.heap)(I:InstAt s.heap x ox C od)(c:XCl K C)(h:Q (some (.ref C)) { s with toks:=s.toks+1 }):wpAny (model prog w) A (getAttr? (.ref x) "__class__") Q E s:=by
  have hf:findObj K C od "__class__" = some (.bind (.builtin "getset_descriptor.__get__") (.builtin "object.__class__")):=by
    obtain⟨cd,hc,_⟩:=any_some c.hd
    simp only [findObj,hc,c.ca,c.cg,c.ct,Option.bind_some]
  refine wpAny_bind (wpAny_mkText ?_)
  unfold getAttrBy?
  refine wpAny_bind (wpAny_attempt (exc_by (s:={ s with toks:=s.toks+1 }) X I c ?_))
  have L0:=I.type (M:=model prog w)
  have L1:=looks_find (M:=model prog w) X I hf
  unfold Builtin.«object.__getattribute__»
  refine wpAny_bind (wpAny_pure (wpAny_bind (wpAny_pure (wpAny_bind (L0.here (s:={ s with toks:=s.toks+1 }) (wpAny_bind (L1.here (s:={ s with toks:=s.toks+1 }) ?_)))))))
  show wpAny _ _ (holding [.builtin "object.__class__"] (call (.builtin "getset_descriptor.__get__") [.builtin "object.__class__",.ref x,.ref C]) >>= ret) _ _ _
  refine wpAny_bind (wpAny_holding (wpAny_call (class_get (s:={ s with toks:=s.toks+1 }) (ox:=ox) (od:=od) X I (c.mro X "object" (by decide +kernel)) ?_)))
  exact wpAny_pure (handed_on rfl (wpAny_pure h))
theorem exc_kit (c:XCl K C):KitX K (.ref x) (.ref C) (fun h=>InstAt h x ox C od) where
  ty:=fun _ _ _ I=>I.type
  it:=fun _ h X _=>by
    obtain⟨nm,q,N,bs,bm,hd,sn,sub,ab,col,dd',k0,k1,k2,k3,k5,cd,hC,_⟩:=x_obj X c.sh
    intro A' Q' E' s' k z
    unfold isType loadHead
    exact wpAny_bind (wpAny_loadPart (k _ _ hC) (wpAny_pure z))
  ne:=fun h tp dd its n sl X htp=>by
    obtain⟨nm,q,N,bs,bm,hd,sn,sub,ab,col,dd',k0,k1,k2,k3,k5,cd,hC,_⟩:=x_obj X c.sh
    refine Bool.eq_false_iff.mpr fun z=>?_
    have e:C=tp:=Value.ref.inj (beq_iff_eq.mp z)
    subst e
    have y:=Option.some.inj (hC.symm.trans htp)
    injection y with y1
    injection y1 with y1
    exact absurd y1 (by decide)
  ca:=fun X I k=>exc_class X I c k
theorem exc_match {D:Addr}{b:Bool}{Q:Bool->Shared->Prop}(X:K.In s.heap)(hx:s.heap.get? x=some ox)(hxc:ox.cls=.ref C)(c:XCl K C)(d:XCl K D)(hb:mroIn K C (.ref D)=some b)(h:Q b s):wpAny (model prog w) A (excMatches (.ref x) (.ref D)) Q E s:=by
  obtain⟨nm,q,N,bs,bm,hd,sn,sub,ab,col,dd',k0,k1,k2,k3,k5,cd,hD,hcd,hmro,hns,hdd,OT,hok⟩:=x_obj X d.sh
  obtain⟨hp,g,dr,t,os⟩:=s
  have f:=tc_notTuple
  have L1:=looks_mroIn (M:=model prog w) X hb
  have hcB:(Value.ref D::bm).contains (.type "BaseException")=true:=by rw [List.contains_cons,OT.hasType (X:="BaseException") (b:=true) (by decide +kernel),Bool.or_true]
  have hT:(⟨hp,g,dr,t,os⟩:Shared).TypeIs (.ref D) "type":=⟨_,hD,rfl⟩
  unfold excMatches
  repeat (first | assumption | (with_reducible refine wpAny_loadPart_at hx ?_;rw [hxc]) | (with_reducible refine wpAny_loadPart_at hD ?_) | (with_reducible refine L1.at ?_) | (with_reducible refine wpAny_isSubtype_exc hD ?_;rw [hcB]) | wp_step)
  cases b<;>(wp_walk;exact h)
theorem exc_raise {env:Env}{y:Sem Value}{Q:Flow->Shared->Prop}(hh:A.handled=none)
    (h:wpAny (model prog w) A y (fun v s₁=>∃ x dd vs sl,v=.ref x/\K.In s₁.heap/\XCl K C/\s₁.heap.get? x=some ⟨.ref C,dd,.fields vs,sl⟩/\vs[1]? = some .none/\E (.ref x) s₁) E s):wpAny (model prog w) A (raiseStmt env (some y) none) Q E s:=by
  unfold raiseStmt
  refine wpAny_bind (wpAny_mono h (fun v s₁ z=>?_) fun _ _ z=>z)
  obtain⟨x,dd,vs,sl,rfl,X,c,he,h1,hE⟩:=z
  obtain⟨nm,q,N,bs,bm,hd,sn,sub,ab,col,dd',k0,k1,k2,k3,k5,cd,hC,hcd,hmro,hns,hdd,OT,hok⟩:=x_obj X c.sh
  obtain⟨hp,g,d,tk,os⟩:=s₁
  have hcB:(Value.ref C::bm).contains (.type "BaseException")=true:=by rw [List.contains_cons,OT.hasType (X:="BaseException") (b:=true) (by decide +kernel),Bool.or_true]
  repeat (first | (with_reducible refine wpAny_loadPart_at he ?_) | (with_reducible refine wpAny_loadPart_at hC ?_) | (with_reducible refine wpAny_field he rfl h1 ?_) | (with_reducible refine wpAny_isSubtype_exc hC ?_;rw [hcB]) | wp_step)
  exact wpAny_raiseNew_none hh hE
end
end L2
namespace L2
open PySem PySem.Spec PyProof.Rows
noncomputable abbrev XS:=Value->Option Addr->St->Hp->Prop
def One (H:Hp)(d:Option Addr):Prop:=∃ a f v,d=some a/\H a=some (.xd [(f,v)])
def Nw (p:Prop)(h:Heap)(e:Addr)(c:Value)(d:Option Addr):Prop:=∃ sl vs,h.get? e=some ⟨c,d,.fields vs,sl⟩/\vs[1]? = some .none/\(p->vs[2]? = some .none)
def Fl (X:Cx)(E:XS)(e:Value)(s':Shared):Prop:=∃ (ea:Addr) (c:Value) (d:Option Addr) (H':Hp) (pins:List (Addr×Obj)) (σ:St),e=.ref ea/\Inv X pins σ H' s'/\X.s₀.heap.objs.size<=ea/\H' ea=none/\(∀ q∈X.pn,q.1≠ea) /\
  (Nw (One H' d) s'.heap ea c d\/∃ T fl,Fly (One H' d) s'.heap ea T c d fl/\(fl=.none\/∃ L,X.env.frame=some L/\fl=rawInt L)/\X.s₀.heap.objs.size<=T/\H' T=none/\∀ q∈X.pn,q.1≠T)/\E c d σ H'
def Thr (X:Cx)(E:XS):Prop:=∀ e s',Fl X E e s'->X.xe e s'
noncomputable def CXE (P:Program)(w:World):CXT:=fun outer H s E e s'=>∃ (ea T:Addr) (c:Value) (d:Option Addr) (H':Hp),e=.ref ea/\s.heap.objs.size<=ea/\s.heap.objs.size<=T/\Fly (One H' d) s'.heap ea T c d .none/\H' ea=none/\H' T=none /\
  s'.os=s.os/\AllBare s'.gens/\Un (frs outer) [] H H' s.heap s'.heap/\HOk P w H' s'.heap/\E c d H'
section
variable {X:Cx} {pins:List (Addr×Obj)} {σ:St} {H:Hp} {s s':Shared}
theorem Un.kp {fs fs' ch:List Addr}{H H':Hp}{h h1 h2:Heap}(u:Un fs [] H H' h h1)(k:Kp ch fs' h1 h2)(hc:∀ b∈ch,h.objs.size<=b)(hf:∀ b∈fs',b∈fs\/h.objs.size<=b):Un fs [] H H' h h2:=by
  have nc:∀ b o,h.get? b=some o->b∉ch:=fun b o q z=>absurd (Nat.lt_of_lt_of_le (Heap.lt_size q) (hc b z)) (Nat.lt_irrefl _)
  refine⟨fun b o q n hb _=>?_,fun b o q n hb _=>?_,u.free,fun b o q _=>?_,u.tups,u.frzs,u.tbls⟩
  · refine k.keep b o (nc b o q) (fun z=>?_) (u.keep b o q n hb (by simp))
    rcases hf b z with z | z
    · exact hb z
    · exact absurd (Nat.lt_of_lt_of_le (Heap.lt_size q) z) (Nat.lt_irrefl _)
  · obtain⟨sl,e1⟩:=u.slot b o q n hb (by simp)
    obtain⟨sl',e2⟩:=k.slot b _ (nc b o q) e1
    exact⟨sl',e2⟩
  · obtain⟨o',e1⟩:=u.there b o q (by simp)
    obtain⟨sl',e2⟩:=k.slot b _ (nc b o q) e1
    exact⟨_,e2⟩
theorem HOk.kp {P:Program}{w:World}{fs ch:List Addr}{h1 h2:Heap}(x:HOk P w H h1)(k:Kp ch fs h1 h2)(hc:∀ b∈ch,H b=none)(hf:∀ b∈fs,H b=none):HOk P w H h2:=fun a o q=>
  (x a o q).stay (fun b u hb z=>by
    have t:∃ v,H b=some v:=by
      rcases hb with rfl | hb
      · exact⟨o,q⟩
      · exact⟨_,hb⟩
    obtain⟨v,t⟩:=t
    exact k.keep b u (fun y=>by rw [hc b y] at t;cases t) (fun y=>by rw [hf b y] at t;cases t) z) (fun _ z=>z) fun _ _ z=>z
theorem Inv.frame (I:Inv X pins σ H s):X.stack=X.outer\/(X.A.frames=some (X.env::X.outer)/\s.heap.FunFrames X.base (X.env::X.outer)/\X.env.frame=some X.env.locals/\frs (X.env::X.outer)=X.env.locals::X.fs):=by
  rcases I.ok.stk with e | ⟨e,hf⟩
  · exact .inl e
  · refine .inr ⟨by rw [← e];exact I.ok.frames,by rw [← e];exact I.stack,hf,?_⟩
    unfold frs
    rw [List.filterMap_cons,hf]
    rfl
theorem thr_leave {P:Program}{w:World}{K:PySem.W.Frag}{mg:Str->Option Value}{base:Heap}{N:List Str}{qual:Str}{scope:Scope}{f:Addr}{cd:Value}{A:Around}{outer:List Env}{s:Shared}{H:Hp}{E:XK} :
    Thr (cxOf (CXE P w) P w K mg base N qual scope f cd A outer s H E) (fun c d _ H'=>E c d H'):=by
  intro e s' hF
  obtain⟨ea,c,d,H',pins,σ,rfl,I,hea,hHe,_,hv,hE⟩:=hF
  have hst:(cxOf (CXE P w) P w K mg base N qual scope f cd A outer s H E).stack=(cxOf (CXE P w) P w K mg base N qual scope f cd A outer s H E).env::outer:=rfl
  have hfr:=I.ok.frames
  have hl:=I.stack
  have hsub:=I.stkSub
  have hfree:=I.stkFree
  rw [hst] at hfr hl hsub hfree
  have fin:∀ (h':Heap) (T:Addr) (ch:List Addr),(s.heap.objs.size<=T/\H' T=none)->Fly (One H' d) h' ea T c d .none->Kp ch (frs ((cxOf (CXE P w) P w K mg base N qual scope f cd A outer s H E).env::outer)) s'.heap h'->(∀ b∈ch,s.heap.objs.size<=b/\H' b=none) ->
      CXE P w outer H s E (.ref ea) { s' with heap:=h' }:=fun h' T ch g1 g2 g3 g4=>by
    refine⟨ea,T,c,d,H',rfl,hea,g1.1,g2,hHe,g1.2,I.os,I.bare,?_,I.hok.kp g3 (fun b hb=>(g4 b hb).2) hfree,hE⟩
    refine Un.kp (fs:=frs outer) I.base g3 (fun b hb=>(g4 b hb).1) fun b hb=>?_
    rcases List.mem_cons.mp (hsub b hb) with z | z
    · rw [z];exact .inr I.ok.above
    · exact .inl z
  rcases hv with⟨sl,vs,he,h1,hp⟩ | ⟨T0,fl,hF,hfl,hT,hHT,_⟩
  · exact leave_first hfr hl rfl he h1 hp fun h' T g1 g2 g3=>fin h' T [ea] ⟨Nat.le_trans I.sz g1,I.hok.fresh g1⟩ g2 g3 fun b hb=>by
      obtain rfl:b=ea:=by simpa using hb
      exact⟨hea,hHe⟩
  · rcases hfl with hfl | ⟨L,hL,rfl⟩
    rotate_left
    · exact leave_here hL hF fun h2 f1 f2=>fin h2 T0 [T0] ⟨hT,hHT⟩ f1 (f2.mono (fun _ z=>z) fun b z=>absurd z (by simp)) fun b hb=>by
        obtain rfl:b=T0:=by simpa using hb
        exact⟨hT,hHT⟩
    subst hfl
    exact leave_next hfr hl rfl hF fun h' T g1 g2 g3=>fin h' T [T0,ea] ⟨Nat.le_trans I.sz g1,I.hok.fresh g1⟩ g2 g3 fun b hb=>by
      rcases List.mem_cons.mp hb with z | z
      · subst z;exact⟨hT,hHT⟩
      · obtain rfl:b=ea:=by simpa using z
        exact⟨hea,hHe⟩
theorem fl_call {E:XS}{e:Value}(I:Inv X pins σ H s)(h:CXE X.prog X.w X.stack H s (fun c d H'=>E c d σ H') e s'):Fl X E e s':=by
  obtain⟨ea,T,c,d,H',rfl,h1,h2,hF,n1,n2,ho,hg,hu,hk,hE⟩:=h
  have np:∀ a,s.heap.objs.size<=a->∀ q∈X.pn,q.1≠a:=fun a z q hq y=>by
    have:=(I.pin q (List.mem_append_left _ hq)).1
    exact absurd (Nat.lt_of_lt_of_le (Heap.lt_size this) (y ▸ z)) (Nat.lt_irrefl _)
  exact⟨ea,c,d,H',pins,σ,rfl,I.call' ho hu hk hg (fun b z=>absurd z (by simp)),Nat.le_trans I.sz h1,n1,np ea h1,.inr ⟨T,_,hF,.inl rfl,Nat.le_trans I.sz h2,n2,np T h2⟩,hE⟩
end
structure OkX (P:Program)(w:World)(K:PySem.W.Frag)(mg:Str->Option Value)(base:Heap)(k:Nat)(x:Str)(ps:List Str)(sp:Sp):Prop where
  ex:∃ (f:Addr) (fd:FuncData),PySem.W.keepIn K (.ref f)=true/\Binds K fd ps []/\mg x=some (.ref f)/\FnOk P w K mg base (CXE P w) k f fd ps sp
section
variable {P:Program} {w:World} {K:PySem.W.Frag} {mg:Str->Option Value} {base:Heap}
theorem Df.okX {x:Str}{st:Stmt}{ps N:List Str}{k:Nat}{sp:Sp}(D:Df K mg x st ps)(Sc:FnScope N ps (defScope st))(len:∀ vs H Q E,sp vs H Q E->vs.length=ps.length)
    (hbody:∀ (f:Addr) (cdv:Value) (A:Around) (outer:List Env) (s:Shared) (H:Hp) (vs:List V) (Q:VK) (E:XK),Room k (A.deeper (envOfC x (defScope st) s.heap.objs.size f cdv))->sp vs H Q E ->
      ∃ t,PSs (cxOf (CXE P w) P w K mg base N x (defScope st) f cdv A outer s H E) (defBody st) t/\t { nx:=fun _ H'=>Q .non H',rt:=Q } (start N vs) H):OkX P w K mg base (k+1) x ps sp:=by
  obtain⟨f,fd,F,b,m⟩:=D.ex
  refine⟨f,fd,F.kp,b,m,?_⟩
  obtain⟨oc,od,kV,doc,pm,an,cdv,ct,osl,rfl,lk,hcd⟩:=F.ex
  exact fn_of lk hcd Sc len fun A outer s H vs Q E hr h=>hbody f cdv A outer s H vs Q E hr h
end
section
variable {X:Cx} {k j:Nat} {x:Str} {ps:List Str} {sp:Sp} {p pos:Pos} {e:Expr} {es:List Expr} {t:TA} {E:XS}
noncomputable def tCallX (sp:Sp)(E:XS)(t:TA):TE:=fun σ H Q=>t σ H fun vs H1=>sp vs H1 Q fun c d H'=>E c d σ H'
theorem run_fnX {f:Addr}{fd:FuncData}{pins:List (Addr×Obj)}{σ:St}{H:Hp}{s:Shared}{Q:VK}{us:List Value}{vs:List V}(F:FnOk X.prog X.w X.K X.mg X.base (CXE X.prog X.w) k f fd ps sp)(hr:Room k X.A)(hb:Binds X.K fd ps [])(hx:Thr X E)
    (I:Inv X pins σ H s) (r:Vals vs us) (h:sp vs H Q fun c d H'=>E c d σ H'):wpAny (model X.prog X.w) X.A (call (.ref f) us) (EP X pins σ Q) X.xe s:=by
  have hl:(us++[]).length=ps.length:=by rw [List.append_nil,← r.length];exact F.len _ _ _ _ h
  have hb':=hb s us I.kIn hl
  rw [List.append_nil] at hb'
  refine wpAny_call (codeAny_mono (F.run X.A X.stack s H ⟨us,[]⟩ us vs Q (fun c d H'=>E c d σ H') hr I.env0 hb' r h) fun r s' hq=>?_)
  rcases r with e | (u | _ | _ | _)
  · exact hx e s' (fl_call I hq)
  all_goals first | exact I.after hq | exact False.elim hq
theorem pe_callX (hx:Thr X E)(F:OkX X.prog X.w X.K X.mg X.base k x ps sp)(hr:Room j X.A)(hk:k<=j)(ha:PA X (e::es) t)(hg:Gl X x:=by rfl) (hdb:(x == ("__debug__":Str))=false:=by decide)
    (he:starEach (e::es) X.env=(false,eval e X.env)::starEach es X.env:=by rfl) (hpl:(backTo pos (starEach es X.env)).any (·.1)=false:=by rfl):PE X (.Call (.Name x p) (e::es) [] pos) (tCallX sp E t):=by
  intro pins s σ H Q I h
  obtain⟨f,fd,kp,b,m,G⟩:=F.ex
  refine wpAny_Call_Name_kw (ld_glob I hg m ?_ hdb)
  refine PySem.W.callWith_K (h₀:=X.base) I.ok.mod.kin kp (thn (ha pos pins s σ H _ I h) fun us s1 ⟨vs,H1,I1,r,q⟩=>⟨I1.kIn,?_⟩) he hpl
  exact run_fnX G (hr.mono hk) b hx I1 r q
end
end L2
namespace L2
open PySem PySem.Spec PyProof.Rows PySem.W
noncomputable def ExN (C a:Addr):HO:=.ext fun h=>∃ (vs:Array Value) (sl:Array (Option Value)) (t:Addr),h.get? a=some ⟨.ref C,none,.fields vs,sl⟩/\vs[0]? = some (.ref t)/\vs[1]? = some .none/\vs[2]? = some .none/\vs.size=6
noncomputable def ExD (C d a:Addr):HO:=.ext fun h=>∃ (vs:Array Value) (sl:Array (Option Value)),h.get? a=some ⟨.ref C,some d,.fields vs,sl⟩/\vs[1]? = some .none/\vs[2]? = some .none/\vs.size=6
theorem upd_id {H:Hp}{a:Addr}{o:HO}(e:H a=some o):upd H a o=H:=by
  funext b
  unfold upd
  split
  · rename_i z;rw [z,e]
  · rfl
section
variable {P:Program} {w:World} {H:Hp} {h:Heap} {C d a:Addr}
theorem exn_ok {vs:Array Value}{sl:Array (Option Value)}{t:Addr}(e:h.get? a=some ⟨.ref C,none,.fields vs,sl⟩)(h0:vs[0]? = some (.ref t))(h1:vs[1]? = some .none/\vs[2]? = some .none/\vs.size=6):ObjOk P w H h a (ExN C a):=
  ⟨⟨vs,sl,t,e,h0,h1⟩,⟨_,e⟩,fun _ _ ⟨vs,sl,t,e,r⟩ k=>⟨vs,sl,t,k _ e,r⟩⟩
theorem exd_ok {vs:Array Value}{sl:Array (Option Value)}(e:h.get? a=some ⟨.ref C,some d,.fields vs,sl⟩)(h1:vs[1]? = some .none/\vs[2]? = some .none/\vs.size=6):ObjOk P w H h a (ExD C d a):=
  ⟨⟨vs,sl,e,h1⟩,⟨_,e⟩,fun _ _ ⟨vs,sl,e,r⟩ k=>⟨vs,sl,k _ e,r⟩⟩
end
section
variable {X:Cx} {C B:Addr} {b self name:Str} {e a1:Expr} {es:List Expr} {te:TE} {t:TA} {np p1 apos cpos pos pos':Pos} {i:Nat}
noncomputable def rInit (C:Addr):List V->Hp->VK->Prop:=fun xs H Q=>∃ a v,xs=[.ref a,v]/\H a=some (ExN C a)/\Q .non H
theorem call_init (c:XCl X.K C):CallR X (.builtin "ValueError.__init__") (rInit C):=by
  intro pins s σ H xs us Q I r h
  obtain⟨a,v,rfl,ea,q⟩:=h
  obtain⟨u1,u2,rfl,r1,r2⟩:=vals2 r
  obtain rfl:u1=Value.ref a:=r1
  obtain⟨⟨vs,sl,t,e,h0,h1⟩,_⟩:=I.hok a _ ea
  refine exc_init I.kIn c.sh e h0 (by show 1<=_;rw [sizeLine_eq];decide) fun h' k z=>⟨.non,H,?_,rfl,q⟩
  have I':=I.write (x:=a) (e:=a) (o:=ExN C a) (h':=h') (t':=s.toks) (by rw [ea];exact True.intro) (.inl rfl) k ⟨_,z⟩ (exn_ok (t:=s.heap.objs.size) z (by
    have:0<vs.size:=(Array.getElem?_eq_some_iff.mp h0).1
    simp [this]) (by simpa [Array.getElem?_setIfInBounds] using h1))
  rw [upd_id ea] at I'
  exact I'
noncomputable def upIn (K:Frag)(B:Addr):Bool:=specialIn K (.ref B) "__getattribute__" == some (some (.builtin "type.__getattribute__"))&&readsIn K B (.type "type")&&(match findCls K (.ref B) (.type "type") "__init__" with | some (.val v)=>v == .builtin "ValueError.__init__" | _=>false)
theorem pe_init {pl:Sem Bool}(hm:X.mg b=some (.ref B))(hu:upIn X.K B=true)(c:XCl X.K C)(ha:PA X (a1::es) t)(hg:Gl X b:=by rfl) (hd:(b == ("__debug__":Str))=false:=by decide)
    (hst:starEach (a1::es) X.env=(false,eval a1 X.env)::starEach es X.env:=by rfl) (hpl:(backTo cpos (starEach es X.env)).any (·.1)=false:=by rfl)
    (ht:eval (.Call (.Attribute (.Name b np) "__init__" apos) (a1::es) [] cpos) X.env=(do
      let ov ← eval (.Name b np) X.env
      standAt apos.atName
      let (f,first) ← holding [ov] (getMethod ov "__init__" pl)
      callWith cpos f first (backTo cpos (starEach (a1::es) X.env)) (backToKw cpos (keywordEach [] X.env))):=by rfl):PE X (.Call (.Attribute (.Name b np) "__init__" apos) (a1::es) [] cpos) (tCB (rInit C) t):=by
  intro pins s σ H Q I h
  simp only [upIn,Bool.and_eq_true,beq_iff_eq] at hu
  obtain⟨⟨u1,u2⟩,u3⟩:=hu
  split at u3
  · rename_i v hv
    obtain rfl:v=.builtin "ValueError.__init__":=beq_iff_eq.mp u3
    refine methodCall_KW (pl:=pl) (ld_glob I hg hm (method_cls I.kIn u1 (cls_value I.kIn u2 hv rfl ?_)) hd) ht
    exact callWith_builtin1 (thn (ha cpos pins _ σ H _ (I.tok _) h) fun us s1 ⟨vs,H1,I1,r1,q1⟩=>call_init c pins s1 σ H1 vs us Q I1 r1 q1) hst hpl
  · cases u3
noncomputable def tSet0 (K:Frag)(C:Addr)(ta tv:TE)(name:Str):TS:=fun D σ H=>tv σ H fun y H1=>ta σ H1 fun x H2=>∃ a,x=.ref a/\H2 a=some (ExN C a)/\∀ d,H2 d=none->d≠a->D.nx σ (upd (upd H2 a (ExD C d a)) d (.xd [(name,y)]))
theorem ps_set0 {o value:Expr}{ta tv:TE}(c:XCl X.K C)(hn:findIn X.K (.ref C) name=some none)(ha:PE X o ta)(hv:PE X value tv)(hs:swapsWith value (some (.Attribute o name pos')) pos.line X.env=pure false:=by rfl) :
    PS X (.Assign [.Attribute o name pos'] value pos) (tSet0 X.K C ta tv name):=by
  intro pins s σ H D I h
  refine plainObj_wpAny_Assign_Attribute (thn (hv pins s σ H _ I h) fun u s1 ⟨y,H1,I1,ry,q⟩=>thn (ha pins s1 σ H1 _ I1 q) fun ov s2 ⟨x,H2,I2,rx,a,ex,ea,q2⟩=>?_) hs
  subst ex
  obtain rfl:ov=Value.ref a:=rx
  obtain⟨⟨vs,sl,t,e,h0,h1⟩,_⟩:=I2.hok a _ ea
  refine exc_set0 I2.kIn e c.sh c.hd c.sa hn fun h' d tk g1 g2 g3 g4=>?_
  have hn:=I2.hok.fresh g1
  have nd:d≠a:=fun z=>by rw [z,ea] at hn;cases hn
  refine⟨σ,_,?_,q2 d hn nd⟩
  have u:Un X.fs [] H2 (upd (upd H2 a (ExD C d a)) d (.xd [(name,y)])) s2.heap h':=by
    have na:∀ b,H2 b=none->b≠a:=fun b z y=>by rw [y,ea] at z;cases z
    have nd':∀ b o,s2.heap.get? b=some o->b≠d:=fun b o z y=>absurd (Nat.lt_of_lt_of_le (Heap.lt_size z) (y ▸ g1)) (Nat.lt_irrefl _)
    have nx:∀ b o,H2 b=some o->b≠d:=fun b o z y=>by rw [y,hn] at z;cases z
    refine⟨fun b o z n _ _=>g4 b o (na b n) z,fun b o z n _ _=>⟨o.slots,g4 b o (na b n) z⟩,fun b o z n _=>by rw [upd_ne (nd' b o z),upd_ne (na b n)];exact n,fun b o z _=>?_,fun b xs z=>?_,fun b o u z=>?_,fun b ps z=>⟨#[],?_⟩⟩
    · by_cases hb:b=a
      · rw [hb];exact⟨_,g2⟩
      · exact⟨o,g4 b o hb z⟩
    all_goals
      have nb:b≠a:=fun y=>by rw [y,ea] at z;cases z
      rw [upd_ne (nx b _ z),upd_ne nb,z]
    simp
  refine I2.un u fun b o z=>?_
  by_cases hb:b=d
  · subst hb
    rw [upd_same] at z
    cases z
    refine⟨_,g3,fun f=>?_⟩
    by_cases hf:f=name
    · subst hf;simp only [if_pos];simpa [List.lookup,RelO] using ry
    · have:(f == name)=false:=beq_eq_false_iff_ne.mpr hf
      simp only [if_neg hf,List.lookup,this];trivial
  · rw [upd_ne hb] at z
    by_cases hb2:b=a
    · subst hb2
      rw [upd_same] at z
      cases z
      exact exd_ok g2 h1
    · rw [upd_ne hb2] at z
      have nown:∀ c y,H2 c=some (.own y)->c≠a:=fun c y r q=>by rw [q,ea] at r;cases r
      have ntup:∀ c y,H2 c=some (.tup y)->c≠a:=fun c y r q=>by rw [q,ea] at r;cases r
      have nx:∀ b o,H2 b=some o->b≠d:=fun b o z y=>by rw [y,hn] at z;cases z
      refine(I2.hok b o z).stay (fun c v hc q=>g4 c v ?_ q) (fun c q=>by rw [upd_ne (nx c _ q),upd_ne (nown c _ q)];exact q) fun c xs q=>by rw [upd_ne (nx c _ q),upd_ne (ntup c _ q)];exact q
      rcases hc with rfl | hc
      · exact hb2
      · exact nown c _ hc
noncomputable def tFs (te:TE):TE:=fun σ H Q=>te σ H fun v H1=>((∃ n:Int,v=.int n/\0<=n/\n<1000000)\/∃ z:Str,v=.str z/\z.length<=1000000)/\∀ y,Q (.str y) H1
theorem pe_fs {a:Str}{j:Nat}{q1 q2 q3:Pos}(he:PE X e te)(ha:a.length<=1000:=by decide +kernel):PE X (.JoinedStr [.Constant (.str a) j q1,.FormattedValue e (-1) none q2] q3) (tFs te):=by
  intro pins s σ H Q I h
  refine JoinedStr_many (joinParts_cons (Calls.Constant_str ⟨?_,?_⟩))
  · rw [strLen_append,sizeLine_eq]
    show 0+a.length<=_
    lia
  refine joinParts_cons (FormattedValue_plain (thn (he pins _ σ H _ (I.tok _) h) fun u s1 ⟨v,H1,I1,r,hv,q⟩=>?_))
  have fin:∀ (y:Str) (tk:Nat),y.length<=1000001->(Str.empty++a++y).length<=sizeLine/\wpAny (model X.prog X.w) X.A (joinParts (Str.empty++a++y) []) (EP X pins σ Q) X.xe { s1 with toks:=tk }:=fun y tk hy=>by
    have hz:(Str.empty++a++y).length<=sizeLine:=by
      rw [strLen_append,strLen_append,sizeLine_eq]
      show 0+a.length+y.length<=_
      lia
    exact⟨hz,joinParts_nil ⟨.str _,H1,I1.tok _,⟨_,rfl⟩,q _⟩ hz⟩
  rcases hv with⟨n,rfl,n0,n1⟩ | ⟨z,rfl,hz⟩
  · obtain⟨tk,rfl⟩:=r
    refine formatField_int_small (log_small n0 n1) (fin _ _ ?_)
    have e1:=int_text_length_le10 (a:=n) (k:=7) (by decide) (by lia)
    show(Str.ofString (toString n)).length<=_
    rw [PySem.ofString_length]
    lia
  · obtain⟨tk,rfl⟩:=r
    exact formatField_str (fun t' tk'=>fin _ _ (by lia)) (by rw [sizeLine_eq];lia)
end
end L2
namespace L2
open PySem PySem.Spec PyProof.Rows PySem.W
noncomputable def sp_init (C:Addr)(f:Str)(pay:V->Prop):Sp:=fun vs H Q _=>∃ a v,vs=[.ref a,v]/\H a=some (ExN C a)/\pay v/\∀ d,H d=none->d≠a->Q .non (upd (upd H a (ExD C d a)) d (.xd [(f,v)]))
def payT (v:V):Prop:=(∃ n:Int,v=.int n/\0<=n/\n<1000000)\/∃ z:Str,v=.str z/\z.length<=1000000
structure Err (P:Program)(w:World)(K:Frag)(mg:Str->Option Value)(base:Heap)(x:Str)(C:Addr)(f:Str)(pay:V->Prop):Prop where
  gl:mg x=some (.ref C)
  cl:XCl K C
  kp:keepIn K (.ref C)=true
  ex:∃ (fI:Addr) (fd:FuncData) (oI:Obj) (ps:List Str),xInit K C=some (some (.ref fI))/\K.lookup fI=some oI/\oI.cls=.type "function"/\Binds K fd ps []/\FnOk P w K mg base CX0 1 fI fd ps (sp_init C f pay)
theorem init_read {K:Frag}{C:Addr}{f p:Str}{a:Addr}{v:V}{H:Hp}{Q:VK}(ea:H a=some (ExN C a))(hp:payT v)(q:∀ d,H d=none->d≠a->Q .non (upd (upd H a (ExD C d a)) d (.xd [(f,v)]))) :
    tSeq (tDrop (tCB (rInit C) (tCons (tVar 0) (tCons (tFs (tVar 1)) tNil)))) (tSet0 K C (tVar 0) (tVar 1) f) { nx:=fun _ H'=>Q .non H',rt:=Q } (start ["self",p] [.ref a,v]) H:=
  ⟨.ref a,rfl,v,rfl,hp,fun y=>⟨a,.str y,rfl,ea,v,rfl,.ref a,rfl,a,rfl,ea,fun d h1 h2=>q d h1 h2⟩⟩
section
variable {X:Cx} {E:XS} {C:Addr} {x f:Str} {pay:V->Prop} {e:Expr} {es:List Expr} {t:TA} {np cpos pos:Pos} {j:Nat}
noncomputable def tRaise (C:Addr)(f:Str)(pay:V->Prop)(E:XS)(t:TA):TS:=fun _ σ H=>t σ H fun vs H1=>∃ v,vs=[v]/\pay v/\∀ d H2,Same H1 H2->H1 d=none->H2 d=some (.xd [(f,v)])->E (.ref C) (some d) σ H2
theorem ps_raise (hx:Thr X E)(R:Err X.prog X.w X.K X.mg X.base x C f pay)(hr:Room j X.A)(hj:2<=j)(ha:PA X (e::es) t)(hg:Gl X x:=by rfl) (hdb:(x == ("__debug__":Str))=false:=by decide)
    (he:starEach (e::es) X.env=(false,eval e X.env)::starEach es X.env:=by rfl) (hpl:(backTo cpos (starEach es X.env)).any (·.1)=false:=by rfl) :
    PS X (.Raise (some (.Call (.Name x np) (e::es) [] cpos)) none pos) (tRaise C f pay E t):=by
  intro pins s σ H D I h
  have c:=R.cl
  rw [arm_exec_Raise]
  refine wpAny_bind (wpAny_standAt (exc_raise (C:=C) (K:=X.K) hr.hd ?_))
  refine wpAny_bind (wpAny_mono (Q:=fun v s₁=>∃ x dd vs sl,v=.ref x/\X.K.In s₁.heap/\XCl X.K C/\s₁.heap.get? x=some ⟨.ref C,dd,.fields vs,sl⟩/\vs[1]? = some .none/\X.xe (.ref x) s₁) ?_ (fun v s₁ h₁=>wpAny_bind (wpAny_standAt (wpAny_pure h₁))) fun _ _ z=>z)
  refine wpAny_Call_Name_kw (ld_glob I hg R.gl ?_ hdb)
  refine callWith_K (h₀:=X.base) I.ok.mod.kin R.kp (thn (ha cpos pins s σ H _ I h) fun us s1 ⟨vs,H1,I1,r,v,hvs,hp,q⟩=>⟨I1.kIn,?_⟩) he hpl
  subst hvs
  obtain⟨u,rfl,rv⟩:=vals1 r
  obtain⟨fI,fd,oI,ps,i1,i2,i3,hb,F⟩:=R.ex
  refine exc_make I1.kIn c.sh i1 i2 i3 (by show 1<=_;rw [sizeLine_eq];decide) fun h' a g1 g2=>?_
  obtain⟨t0,z1,_,_⟩:=g2.there
  have n1:=I1.hok.fresh g1
  have I2:Inv X pins σ (upd H1 a (ExN C a)) { s1 with heap:=h' }:=I1.laid (t':=s1.toks) g2.keeps g1 (exn_ok (t:=t0) z1 rfl ⟨rfl,rfl,rfl⟩)
  have hsp:sp_init C f pay [.ref a,v] (upd H1 a (ExN C a)) (fun w2 H2=>w2=.non/\∃ d,upd H1 a (ExN C a) d=none/\d≠a/\H2=upd (upd (upd H1 a (ExN C a)) a (ExD C d a)) d (.xd [(f,v)])) E0:=
    ⟨a,v,rfl,upd_same,hp,fun d q1 q2=>⟨rfl,d,q1,q2,rfl⟩⟩
  have r2:Vals [V.ref a,v] [Value.ref a,u]:=.cons rfl (.cons rv .nil)
  have hb':=hb { s1 with heap:=h' } [.ref a,u] I2.kIn (by rw [← F.len _ _ _ _ hsp];rfl)
  refine wpAny_call (codeAny_mono (F.run (X.A.under (.builtin "type.__call__" ⟨.ref C::[u],[]⟩)) X.stack { s1 with heap:=h' } _ ⟨[.ref a,u],[]⟩ _ _ _ _ ((hr.mono hj).make C [u] []) (I2.env0.make C [u] []) hb' (by simpa using r2) hsp) fun r s' hq=>?_)
  rcases r with er | fl
  · exact False.elim hq
  cases fl with
  | next=>exact False.elim hq
  | brk=>exact False.elim hq
  | cont=>exact False.elim hq
  | ret w2=>
    obtain⟨v2,H2,I3,rv2,rfl,d,q1,q2,rfl⟩:=I2.after hq
    refine⟨rv2,a,some d,?_⟩
    have hx1:ObjOk X.prog X.w (upd (upd (upd H1 a (ExN C a)) a (ExD C d a)) d (.xd [(f,v)])) s'.heap a (ExD C d a):=I3.hok a _ (by rw [upd_ne (Ne.symm q2),upd_same])
    obtain⟨⟨vs',sl',e1,e2⟩,_⟩:=hx1
    refine⟨vs',sl',rfl,I3.kIn,c,e1,e2.1,hx _ _ ?_⟩
    have np:∀ q∈X.pn,q.1≠a:=fun q hq y=>by
      have:=(I1.pin q (List.mem_append_left _ hq)).1
      exact absurd (Nat.lt_of_lt_of_le (Heap.lt_size this) (y ▸ g1)) (Nat.lt_irrefl _)
    have q1':H1 d=none:=by rw [upd_ne q2] at q1;exact q1
    have sa:Same H1 (fun b=>if b=a then none else upd (upd (upd H1 a (ExN C a)) a (ExD C d a)) d (.xd [(f,v)]) b):=fun b o hb=>by
      have ba:b≠a:=fun y=>by rw [y,n1] at hb;cases hb
      have bd:b≠d:=fun y=>by rw [y,q1'] at hb;cases hb
      simp only [if_neg ba]
      rw [upd_ne bd,upd_ne ba,upd_ne ba];exact hb
    refine⟨a,.ref C,some d,_,[],σ,rfl,?_,Nat.le_trans I1.sz g1,?_,np,.inl ⟨sl',vs',e1,e2.1,fun _=>e2.2.1⟩,q d _ sa q1' ?_⟩
    · have I4:Inv X [] σ (upd (upd (upd H1 a (ExN C a)) a (ExD C d a)) d (.xd [(f,v)])) s':=I3.pins_of fun p hp=>absurd hp (by simp)
      have key:∀ b o,(fun b=>if b=a then none else upd (upd (upd H1 a (ExN C a)) a (ExD C d a)) d (.xd [(f,v)]) b) b=some o->b≠a/\upd (upd (upd H1 a (ExN C a)) a (ExD C d a)) d (.xd [(f,v)]) b=some o:=fun b o z=>by
        by_cases hb:b=a
        · simp [hb] at z
        · simp only [if_neg hb] at z;exact⟨hb,z⟩
      have back:∀ b o,b≠a->upd (upd (upd H1 a (ExN C a)) a (ExD C d a)) d (.xd [(f,v)]) b=some o->(fun b=>if b=a then none else upd (upd (upd H1 a (ExN C a)) a (ExD C d a)) d (.xd [(f,v)]) b) b=some o:=fun b o hb z=>by
        simp only [if_neg hb];exact z
      have nex:∀ b o,upd (upd (upd H1 a (ExN C a)) a (ExD C d a)) d (.xd [(f,v)]) b=some o->(∀ φ,o≠.ext φ)->b≠a:=fun b o z no y=>by
        rw [y,upd_ne (Ne.symm q2),upd_same] at z
        cases z
        exact no _ rfl
      refine I4.step (h':=s'.heap) (g':=s'.gens) (t':=s'.toks) (d':=s'.drawn) (ch:=[]) (fun _ z=>absurd z (by simp)) (fun b o _ _ _ z _=>z) (fun b o _ _ _ z _=>⟨o.slots,z⟩) (fun b o _ _ z=>?_) (fun b o _ z=>⟨o,z⟩) (fun b xs z=>back b _ (nex b _ z fun _ y=>by cases y) z) (fun b o u z=>back b _ (nex b _ z fun _ y=>by cases y) z)
        (fun b ps z=>⟨#[],by rw [Array.append_empty];exact back b _ (nex b _ z fun _ y=>by cases y) z⟩) (fun m z=>z) (fun b o z=>?_) I4.bare
      · by_cases hb:b=a
        · simp [hb]
        · simp only [if_neg hb];exact z
      · obtain⟨hb,z⟩:=key b o z
        exact(I4.hok b o z).stay (fun _ _ _ y=>y) (fun c y=>back c _ (nex c _ y fun _ y=>by cases y) y) fun c xs y=>back c _ (nex c _ y fun _ y=>by cases y) y
    · simp
    · simp only [if_neg q2];rw [upd_same]
end
end L2
namespace L2
open PySem PySem.Spec PyProof.Rows PySem.W
section
variable {X:Cx} {pins:List (Addr×Obj)} {σ:St} {H:Hp} {s:Shared}
def Ours (X:Cx)(b:Addr):Prop:=X.s₀.heap.objs.size<=b/\b≠X.env.locals/\(∀ x c,X.env.cells.lookup x=some c->c≠b)/\∀ p∈X.pn,p.1≠b
theorem ours_at (I:Inv X pins σ H s){b:Addr}{o:Obj}{vs:Array Value}(e:s.heap.get? b=some o)(hd:o.data=.fields vs)(h0:X.s₀.heap.objs.size<=b)(hp:∀ p∈X.pn,p.1≠b):Ours X b:=by
  refine⟨h0,fun z=>?_,fun x c hc z=>?_,hp⟩
  · obtain⟨m,⟨o',es,ep,e',d',_⟩,_⟩:=I.loc
    rw [← z,e] at e'
    cases e'
    rw [hd] at d'
    cases d'
  · obtain⟨v,o',e',d'⟩:=I.cell x c hc
    rw [z,e] at e'
    cases e'
    rw [hd] at d'
    cases d'
theorem ours_new (I:Inv X pins σ H s){b:Addr}(h:s.heap.objs.size<=b):Ours X b:=by
  refine⟨Nat.le_trans I.sz h,fun z=>absurd I.lt (by rw [← z];exact Nat.not_lt.mpr h),fun x c hc z=>?_,fun p hp z=>?_⟩
  · obtain⟨v,o',e',d'⟩:=I.cell x c hc
    exact absurd (Nat.lt_of_lt_of_le (Heap.lt_size e') (z ▸ h)) (Nat.lt_irrefl _)
  · have:=(I.pin p (List.mem_append_left _ hp)).1
    exact absurd (Nat.lt_of_lt_of_le (Heap.lt_size this) (z ▸ h)) (Nat.lt_irrefl _)
theorem Inv.kp {h':Heap}{H':Hp}{ch:List Addr}(I:Inv X [] σ H s)(k:Kp ch (frs X.stack) s.heap h')(hc:∀ b∈ch,Ours X b/\H b=none)(hH:∀ b,b∉ch->H' b=H b)(hok:HOk X.prog X.w H' h'):Inv X [] σ H' { s with heap:=h' }:=by
  have nt:∀ b o,H b=some o->b∉ch:=fun b o z y=>by rw [(hc b y).2] at z;cases z
  refine I.step (h':=h') (g':=s.gens) (t':=s.toks) (d':=s.drawn) (ch:=ch) (fun b hb=>?_) (fun b o n1 n2 n3 z _=>?_) (fun b o n1 n2 n3 z _=>k.slot b o n3 z) (fun b o n3 z n=>by rw [hH b n3];exact n) (fun b o n3 z=>let ⟨sl,q⟩:=k.slot b o n3 z;⟨_,q⟩)
    (fun b xs z=>by rw [hH b (nt b _ z)];exact z) (fun b o u z=>by rw [hH b (nt b _ z)];exact z) (fun b ps z=>⟨#[],by rw [hH b (nt b _ z),Array.append_empty];exact z⟩) (fun m hm=>?_) hok I.bare
  · obtain⟨a1,a2,a3,a4⟩:=(hc b hb).1
    exact⟨.inr a1,a2,a3,fun p hp=>(List.mem_append.mp hp).elim (a4 p) fun z=>absurd z (by simp)⟩
  · exact k.keep b o n3 (fun y=>(List.mem_cons.mp (I.stkSub b y)).elim n1 n2) z
  · obtain⟨o,es,ep,ho,r⟩:=hm
    obtain⟨sl,q⟩:=k.slot _ o (fun z=>(hc _ z).1.2.1 rfl) ho
    exact⟨_,es,ep,q,r⟩
theorem Inv.lost {h':Heap}{tk:Nat}{m':Str->Option Value}(I:Inv X pins σ H s)(hn:h'.Ns X.env.locals m')(hs:Heap.SameBut X.env.locals s.heap h'):Inv X pins (σ.map fun _=>none) H { s with heap:=h',toks:=tk }:=by
  have lt:∀ b o,X.s₀.heap.get? b=some o->b≠X.env.locals:=fun b o e=>Nat.ne_of_lt (Nat.lt_of_lt_of_le (Heap.lt_size e) I.ok.above)
  refine⟨I.ok,I.os,I.bare,⟨fun b o e n hb hx=>?_,fun b o e n hb hx=>?_,I.base.free,fun b o e hx=>?_,I.base.tups,I.base.frzs,I.base.tbls⟩,⟨_,hn,fun j y v' e1 e2 e3=>?_⟩,fun y c e=>?_,I.free,I.freeC,fun p hp=>?_,fun b ob e=>?_,by simpa using I.len⟩
  · exact(hs.2 b (lt b o e)).trans (I.base.keep b o e n hb hx)
  · obtain⟨sl,e1⟩:=I.base.slot b o e n hb hx
    exact⟨sl,(hs.2 b (lt b o e)).trans e1⟩
  · obtain⟨o',e1⟩:=I.base.there b o e hx
    exact⟨o',(hs.2 b (lt b o e)).trans e1⟩
  · rw [List.getElem?_map] at e2
    cases q:σ[j]? with
    | none=>rw [q] at e2;cases e2
    | some z=>rw [q] at e2;cases e2
  · obtain⟨w',z⟩:=I.cell y c e
    exact⟨w',z.sameBut hs (I.cne y c e)⟩
  · obtain⟨e,n,ne,nf,d⟩:=I.pin p hp
    exact⟨(hs.2 p.1 ne).trans e,n,ne,nf,d⟩
  · refine(I.hok b ob e).stay (fun c w' hc q=>(hs.2 c ?_).trans q) (fun _ q=>q) fun _ _ q=>q
    rintro rfl
    rcases hc with rfl | hc
    · rw [I.free] at e;cases e
    · rw [I.free] at hc;cases hc
noncomputable abbrev Cx.tryIn (X:Cx)(pn:List (Addr×Obj))(xe:Value->Shared->Prop):Cx:={ X with pn:=pn,xe:=xe }
noncomputable abbrev Cx.exInG (X:Cx)(pn:List (Addr×Obj))(ea:Addr)(xe:Value->Shared->Prop):Cx:={ X with pn:=pn,A:=X.A.mark (some (.ref ea)),calm:=false,xe:=xe }
noncomputable abbrev Cx.exIn (X:Cx)(pn:List (Addr×Obj))(ea:Addr):Cx:=X.exInG pn ea fun _ _=>False
theorem Cx.Ok.tryIn (ok:X.Ok)(pn:List (Addr×Obj))(xe:Value->Shared->Prop):(X.tryIn pn xe).Ok:=
  ⟨ok.mod,ok.kind,ok.glob,ok.blt,ok.above,ok.inj,ok.has,ok.cab,ok.hd,ok.frames,ok.stk,ok.exf,ok.bs,ok.bsz,ok.noex,ok.exfs,ok.funs,ok.frf⟩
theorem Cx.Ok.exIn (ok:X.Ok)(pn:List (Addr×Obj))(ea:Addr)(xe:Value->Shared->Prop):(X.exInG pn ea xe).Ok:=
  ⟨ok.mod,ok.kind,ok.glob,ok.blt,ok.above,ok.inj,ok.has,ok.cab,fun z=>absurd (show false=true from z) (by decide),ok.frames,ok.stk,ok.exf,ok.bs,ok.bsz,ok.noex,ok.exfs,ok.funs,ok.frf⟩
theorem Inv.tryIn (I:Inv X pins σ H s)(xe:Value->Shared->Prop):Inv (X.tryIn (X.pn++pins) xe) [] σ H s:=⟨I.ok.tryIn _ _,I.os,I.bare,I.base,I.loc,I.cell,I.free,I.freeC,fun p hp=>I.pin p (by simpa using hp),I.hok,I.len⟩
theorem Inv.untry {xe:Value->Shared->Prop}(ok:X.Ok)(I:Inv (X.tryIn (X.pn++pins) xe) [] σ H s):Inv X pins σ H s:=⟨ok,I.os,I.bare,I.base,I.loc,I.cell,I.free,I.freeC,fun p hp=>I.pin p (by simpa using hp),I.hok,I.len⟩
theorem Inv.toEx {xe xe':Value->Shared->Prop}(ok:X.Ok)(ea:Addr)(I:Inv (X.tryIn (X.pn++pins) xe) [] σ H s):Inv (X.exInG (X.pn++pins) ea xe') [] σ H s:=⟨ok.exIn _ _ _,I.os,I.bare,I.base,I.loc,I.cell,I.free,I.freeC,I.pin,I.hok,I.len⟩
theorem Inv.unEx {ea:Addr}{xe:Value->Shared->Prop}(ok:X.Ok)(I:Inv (X.exInG (X.pn++pins) ea xe) [] σ H s):Inv X pins σ H s:=⟨ok,I.os,I.bare,I.base,I.loc,I.cell,I.free,I.freeC,fun p hp=>I.pin p (by simpa using hp),I.hok,I.len⟩
end
def Caught (H:Hp)(a C:Addr)(d:Option Addr):Prop:=∃ o,H a=some (.frz o (.own a))/\o.cls=.ref C/\o.dict=d/\∃ vs,o.data=.fields vs
def Pla (H:Hp)(a:Addr):Prop:=∃ o vs,H a=some (.frz o (.own a))/\o.data=.fields vs/\vs[2]? = some .none
def FlN (X:Cx)(E:XS)(e:Value)(s':Shared):Prop:=∃ (ea:Addr) (c:Value) (d:Option Addr) (H':Hp) (σ:St),e=.ref ea/\Inv X [] σ H' s'/\X.s₀.heap.objs.size<=ea/\H' ea=none/\(∀ q∈X.pn,q.1≠ea)/\Nw (One H' d) s'.heap ea c d/\E c d σ H'
noncomputable abbrev lostD (D:Ends):Ends:={ nx:=fun σ2 H2=>D.nx (σ2.map fun _=>none) H2,rt:=D.rt,bk:=fun σ2 H2=>D.bk (σ2.map fun _=>none) H2,ct:=fun σ2 H2=>D.ct (σ2.map fun _=>none) H2 }
noncomputable def tTry (K:Frag)(Dc:Addr)(i:Nat)(tb:XS->TS)(th:TS):TS:=fun D σ H=>
  tb (fun c d σ' H'=>∃ C,c=.ref C/\XCl K C/\mroIn K C (.ref Dc)=some true/\∀ ea H2,Same H' H2->Caught H2 ea C d->th { nx:=fun σ2 H2=>D.nx (σ2.map fun _=>none) H2,rt:=D.rt,bk:=fun σ2 H2=>D.bk (σ2.map fun _=>none) H2,ct:=fun σ2 H2=>D.ct (σ2.map fun _=>none) H2 } (σ'.set i (some (.ref ea))) H2) D σ H
noncomputable def tTryR (K:Frag)(Dc:Addr)(i:Nat)(tb:XS->TS)(th:Addr->TS):TS:=fun D σ H=>
  tb (fun c d σ' H'=>∃ C,c=.ref C/\XCl K C/\mroIn K C (.ref Dc)=some true/\One H' d/\∀ ea H2,Same H' H2->Caught H2 ea C d->Pla H2 ea->th ea (lostD D) (σ'.set i (some (.ref ea))) H2) D σ H
section
variable {X:Cx} {Dc:Addr} {x n:Str} {i:Nat} {tb:XS->TS} {th:TS} {body suite:List Stmt} {b₀:Stmt} {np hpos pos:Pos}
def Outs (X:Cx)(ea:Addr)(n:Str)(hpos:Pos)(e:Value)(s3:Shared):Prop:=
  wpAny (model X.prog X.w) (X.A.mark (some (.ref ea))) (noteFrame e X.env) (fun _ s4=>wpAny (model X.prog X.w) (X.A.mark (some (.ref ea))) (do bindName X.env n .none;unbindBehindTheSuite X.env n hpos)
    (fun _ s5=>wpAny (model X.prog X.w) (X.A.mark (some (.ref ea))) (PySem.passOn "try.except-as" e X.env:Sem Flow) (fun _ _=>False) (notedBy (model X.prog X.w) (X.A.mark (some (.ref ea))) X.env (cameBackBy (model X.prog X.w) X.A X.env X.xe)) s5)
    (fun y s5=>wpAny (model X.prog X.w) (X.A.mark (some (.ref ea))) (setFlight e none) (fun _ s6=>(notedBy (model X.prog X.w) (X.A.mark (some (.ref ea))) X.env (cameBackBy (model X.prog X.w) X.A X.env X.xe)) y s6) (notedBy (model X.prog X.w) (X.A.mark (some (.ref ea))) X.env (cameBackBy (model X.prog X.w) X.A X.env X.xe)) s5) s4)
    (notedBy (model X.prog X.w) (X.A.mark (some (.ref ea))) X.env (cameBackBy (model X.prog X.w) X.A X.env X.xe)) s3
theorem suite_out {pins:List (Addr×Obj)}{ea:Addr}{E:XS}{e:Value}{s3:Shared}(ok:X.Ok)(hl:X.env.scope.names.lookup n=some .local)(hst:X.stack=X.env::X.outer)(hf:X.env.frame=some X.env.locals)(hx:Thr X E)
    (h:FlN (X.exIn (X.pn++pins) ea) (fun c d σ H=>E c d (σ.map fun _=>none) H) e s3):Outs X ea n hpos e s3:=by
  obtain⟨x,c,d,H',σ,rfl,I,hx0,hHx,hpn,⟨sl,vs,he,h1,hp⟩,hE⟩:=h
  have hfr:(X.A.mark (some (.ref ea))).frames=some (X.env::X.outer):=by rw [← hst];exact ok.frames
  have hlf:s3.heap.FunFrames X.base (X.env::X.outer):=by rw [← hst];exact I.stack
  have hfree:∀ b∈frs (X.env::X.outer),H' b=none:=by rw [← hst];exact I.stkFree
  have ox:=ours_at I he rfl hx0 hpn
  refine note_first (p:=One H' d) hfr hlf hf he h1 hp fun h4 T g1 g2 g3=>?_
  have oT:=ours_new I g1
  have nT:=I.hok.fresh g1
  have xT:x≠T:=fun z=>absurd (Heap.lt_size he) (by rw [z];exact Nat.not_lt.mpr g1)
  have I4:Inv (X.exIn (X.pn++pins) ea) [] σ H' { s3 with heap:=h4 }:=I.kp (by rw [hst];exact g3) (fun b hb=>by rw [show b=x by simpa using hb];exact⟨ox,hHx⟩) (fun _ _=>rfl) (I.hok.kp g3 (fun b hb=>by rw [show b=x by simpa using hb];exact hHx) hfree)
  obtain⟨m,hn,_⟩:=I4.loc
  refine wpAny_nameGoes hl hn (by rw [I4.ok.kind];rfl) fun h5 m' z1 z2=>?_
  have I5:Inv X [] (σ.map fun _=>none) H' { s3 with heap:=h5,toks:=s3.toks+1 }:=((I4.unEx ok).lost z1 z2).pins_of fun p hp=>absurd hp (by simp)
  have F5:Fly (One H' d) h5 x T c d (rawInt X.env.locals):=by
    obtain⟨sl',vs',oT',ts,he',hv',tn,hT',hd',h3'⟩:=g2
    exact⟨sl',vs',oT',ts,(z2.2 x ox.2.1).trans he',hv',tn,(z2.2 T oT.2.1).trans hT',hd',h3'⟩
  have tail:∀ (h6:Heap),Inv X [] (σ.map fun _=>none) H' { s3 with heap:=h6,toks:=s3.toks+1 }->Fly (One H' d) h6 x T c d (rawInt X.env.locals)->∀ (Q:Unit->Shared->Prop) (A:Around) (E':Value->Shared->Prop),(∀ h7,Inv X [] (σ.map fun _=>none) H' { s3 with heap:=h7,toks:=s3.toks+1 }->Fly (One H' d) h7 x T c d (rawInt X.env.locals)->Q () { s3 with heap:=h7,toks:=s3.toks+1 }) ->
      wpAny (model X.prog X.w) A (setFlight (.ref x) X.env.frame) Q E' { s3 with heap:=h6,toks:=s3.toks+1 }:=fun h6 J F Q A E' k=>
    flight_on (s:={ s3 with heap:=h6,toks:=s3.toks+1 }) hf F fun h7 f1 f2=>k h7 (Inv.kp (s:={ s3 with heap:=h6,toks:=s3.toks+1 }) J (f2.mono (fun _ z=>z) fun b z=>absurd z (by simp)) (fun b hb=>by rw [show b=T by simpa using hb];exact⟨⟨oT.1,oT.2.1,oT.2.2.1,fun p hp=>oT.2.2.2 p (List.mem_append_left _ hp)⟩,nT⟩) (fun _ _=>rfl)
      (J.hok.kp (fs:=[]) f2 (fun b hb=>by rw [show b=T by simpa using hb];exact nT) fun b z=>absurd z (by simp))) f1
  obtain⟨sl5,vs5,oT5,ts5,he5,hv5,_⟩:=id F5
  unfold PySem.passOn
  refine wpAny_bind (wpAny_field he5 rfl hv5 ?_)
  rw [if_neg (show ¬ (Value.ref T == Value.none)=true by simp)]
  refine wpAny_bind (tail h5 I5 F5 _ _ _ fun h6 I6 F6=>wpAny_throw ?_)
  refine note_here hf F6 ?_
  obtain⟨sl6,vs6,oT6,ts6,he6,hv6,_⟩:=id F6
  unfold cameBackBy
  refine wpAny_bind (wpAny_field he6 rfl hv6 ?_)
  rw [if_neg (show ¬ (Value.ref T == Value.none)=true by simp)]
  refine tail h6 I6 F6 _ _ _ fun h7 I7 F7=>hx _ _ ⟨x,c,d,H',[],_,rfl,I7,hx0,hHx,fun q hq=>hpn q (List.mem_append_left _ hq),.inr ⟨T,_,F7,.inr ⟨_,hf,rfl⟩,oT.1,nT,fun q hq=>oT.2.2.2 q (List.mem_append_left _ hq)⟩,hE⟩
theorem try_run {th:Addr->TS}{xe':List (Addr×Obj)->Addr->Value->Shared->Prop}{pins:List (Addr×Obj)}{s:Shared}{σ:St}{H:Hp}{D:Ends}{Ex:XS}(hm:X.mg x=some (.ref Dc))(cD:XCl X.K Dc)(hN:X.N.Nodup)(hi:X.N[i]? = some n)(hl:X.env.scope.names.lookup n=some .local)(hst:X.stack=X.env::X.outer)(hf:X.env.frame=some X.env.locals)
    (hb:∀ (E:XS) (pn:List (Addr×Obj)) (xe:Value->Shared->Prop),PassesOwn (model X.prog X.w) X.A X.env xe->Thr (X.tryIn pn xe) E->PSs (X.tryIn pn xe) body (tb E))
    (hh:∀ pn ea,PSs (X.exInG pn ea (xe' pn ea)) (b₀::suite) (th ea)) (hxe:∀ ea e s3,xe' (X.pn++pins) ea e s3->Outs X ea n hpos e s3) (hg:Gl X x) (hdb:(x == ("__debug__":Str))=false)
    (I:Inv X pins σ H s) (h:tb Ex D σ H) (hE:∀ c d σ' H',Ex c d σ' H'->∃ C,c=.ref C/\XCl X.K C/\mroIn X.K C (.ref Dc)=some true/\∀ ea H2,Same H' H2->Caught H2 ea C d->(One H' d->Pla H2 ea)->th ea (lostD D) (σ'.set i (some (.ref ea))) H2) :
    wpAny (model X.prog X.w) X.A (exec (.Try body [.ExceptHandler (some (.Name x np)) (some n) (b₀::suite) hpos] [] [] pos) X.env) (SP X pins D) X.xe s:=by
  refine wpAny_Try_except ?_
  refine wpAny_mono (hb _ (X.pn++pins) (fun e s₁=>wpAny (model X.prog X.w) X.A (noteFrame e X.env) (fun _ s₂=>wpAny (model X.prog X.w) X.A (setFlight e none) (fun _ s₃=>
    wpAny (model X.prog X.w) X.A (handleBy e X.env [.ExceptHandler (some (.Name x np)) (some n) (b₀::suite) hpos]) (SP X pins D) X.xe s₃) X.xe s₂) X.xe s₁) PassesOwn.looking ?_ [] s σ H D (I.tryIn _) h) (fun f s1 q=>?_) fun e s1 z=>z
  · intro e s' hF
    obtain⟨ea,c,d,H',pins',σ',rfl,I1',hea,hHe,hpn,hv,hEx⟩:=hF
    obtain⟨C,rfl,cC,hmr,hth⟩:=hE _ _ _ _ hEx
    have I1:Inv (X.tryIn (X.pn++pins) _) [] σ' H' s':=I1'.pins_of fun p hp=>absurd hp (by simp)
    clear I1'
    have hfr:X.A.frames=some (X.env::X.outer):=by rw [← hst];exact I.ok.frames
    have hlf:s'.heap.FunFrames X.base (X.env::X.outer):=by rw [← hst];exact I1.stack
    have hfree:∀ b∈frs (X.env::X.outer),H' b=none:=by rw [← hst];exact I1.stkFree
    have go:∀ (h2:Heap) (T:Addr) (ch:List Addr),(s'.heap.objs.size<=T\/True)->Fly (One H' d) h2 ea T (.ref C) d .none->Kp ch (frs (X.env::X.outer)) s'.heap h2->ea∈ch->T∈ch->(∀ b∈ch,Ours (X.tryIn (X.pn++pins) fun _ _=>True) b/\H' b=none) ->
        wpAny (model X.prog X.w) X.A (handleBy (.ref ea) X.env [.ExceptHandler (some (.Name x np)) (some n) (b₀::suite) hpos]) (SP X pins D) X.xe { s' with heap:=h2 }:=by
      intro h2 T ch g1 g2 g3 m1 m2 g4
      have I2:Inv (X.tryIn (X.pn++pins) _) [] σ' H' { s' with heap:=h2 }:=I1.kp (by rw [hst];exact g3) (fun b hb=>⟨(g4 b hb).1,(g4 b hb).2⟩) (fun _ _=>rfl) (I1.hok.kp g3 (fun b hb=>(g4 b hb).2) hfree)
      have I3:=I2.toEx (xe':=xe' (X.pn++pins) ea) I.ok ea
      obtain⟨sl,vs,oT,ts,he,hv1,tn,hT,hd,h3,_⟩:=id g2
      refine wpAny_handleBy_cons (codeAny_handlers_test (ld_glob (X:=X.exInG (X.pn++pins) ea (xe' (X.pn++pins) ea)) I3 hg hm ?_ hdb)) (by intro q;cases q)
      refine exc_match (s:={ s' with heap:=h2 }) I3.kIn he rfl cC cD hmr ?_
      refine codeAny_handlers_suite_as ?_
      refine flight_off (s:={ s' with heap:=h2 }) g2 fun h4 f1 f2 f3=>?_
      obtain⟨sl4,vs4,oT4,ts4,he4,_,_,_,_,_,hp4⟩:=id f1
      have I4:Inv (X.exInG (X.pn++pins) ea (xe' (X.pn++pins) ea)) [] σ' (upd H' ea (.frz ⟨.ref C,d,.fields vs4,sl4⟩ (.own ea))) { s' with heap:=h4 }:=by
        have k:Kp [ea,T] (frs X.stack) h2 h4:=f2.mono (fun b hb=>List.mem_cons_of_mem _ hb) (fun b hb=>absurd hb (by simp))
        refine Inv.kp (s:={ s' with heap:=h2 }) I3 k (fun b hb=>?_) (fun b hb=>?_) fun b o z=>?_
        · have:b∈ch:=by
            rcases List.mem_cons.mp hb with z | z
            · rw [z];exact m1
            · rw [show b=T by simpa using z];exact m2
          exact⟨(g4 b this).1,(g4 b this).2⟩
        · exact upd_ne fun z=>hb (by simp [z])
        · by_cases hb:b=ea
          · subst hb
            rw [upd_same] at z
            cases z
            exact⟨he4,⟨_,he4⟩⟩
          · rw [upd_ne hb] at z
            have nT:∀ c u,H' c=some u->c∉[T]:=fun c u q y=>by
              rw [show c=T by simpa using y,(g4 T m2).2] at q;cases q
            have ne:∀ c u,H' c=some u->c≠ea:=fun c u q y=>by rw [y,hHe] at q;cases q
            refine(I2.hok b o z).stay (fun c u hc q=>?_) (fun c q=>by rw [upd_ne (ne c _ q)];exact q) fun c xs q=>by rw [upd_ne (ne c _ q)];exact q
            rcases hc with rfl | hc
            · exact f2.keep _ u (nT _ _ z) (by simp) q
            · exact f2.keep _ u (nT _ _ hc) (by simp) q
      refine store_ok (X:=X.exInG (X.pn++pins) ea (xe' (X.pn++pins) ea)) I4 hN hi (.inl hl) (v:=.ref ea) rfl (fun s5 I5=>?_) (.inr hl)
      have hsm:Same H' (upd H' ea (.frz ⟨.ref C,d,.fields vs4,sl4⟩ (.own ea))):=fun b o q=>by rw [upd_ne fun y=>by rw [y,hHe] at q;cases q];exact q
      refine wpAny_mono (hh (X.pn++pins) ea [] s5 _ _ _ I5 (hth ea _ hsm ⟨_,upd_same,rfl,rfl,_,rfl⟩ fun z=>⟨_,_,upd_same,rfl,hp4 z⟩)) (fun f s6 q=>?_) fun e s6 z=>hxe ea e s6 z
      have gone:∀ σ6 H6,Inv (X.exInG (X.pn++pins) ea (xe' (X.pn++pins) ea)) [] σ6 H6 s6->(∀ s7,Inv X pins (σ6.map fun _=>none) H6 s7->SP X pins D f s7)->wpAny (model X.prog X.w) X.A (do bindName X.env n .none;unbindBehindTheSuite X.env n hpos) (fun _ s7=>SP X pins D f s7) X.xe s6:=by
        intro σ6 H6 J k
        obtain⟨m,hn,_⟩:=J.loc
        exact wpAny_nameGoes hl hn (by rw [J.ok.kind];rfl) fun h' m' z1 z2=>k _ ((J.unEx I.ok).lost z1 z2)
      cases f with
      | next=>obtain⟨σ6,H6,J,q⟩:=q;exact gone σ6 H6 J fun s7 J'=>⟨_,H6,J',q⟩
      | brk=>obtain⟨σ6,H6,J,q⟩:=q;exact gone σ6 H6 J fun s7 J'=>⟨_,H6,J',q⟩
      | cont=>obtain⟨σ6,H6,J,q⟩:=q;exact gone σ6 H6 J fun s7 J'=>⟨_,H6,J',q⟩
      | ret u=>obtain⟨v,σ6,H6,J,r,q⟩:=q;exact gone σ6 H6 J fun s7 J'=>⟨v,_,H6,J',r,q⟩
    rcases hv with⟨sl,vs,he,h1,hp⟩ | ⟨T0,fl,hF,hfl,hT,hHT,hpT⟩
    · refine note_first hfr hlf hf he h1 hp fun h1' T g1 g2 g3=>flight_off (s:={ s' with heap:=h1' }) g2 fun h2 f1 f2 f3=>?_
      refine go h2 T ([ea]++[T]) (.inr trivial) f1 (g3.trans (f2.mono (fun _ z=>z) fun b z=>absurd z (by simp))) (by simp) (by simp) fun b hb=>?_
      rcases List.mem_append.mp hb with z | z
      · rw [show b=ea by simpa using z];exact⟨ours_at I1 he rfl hea hpn,hHe⟩
      · rw [show b=T by simpa using z];exact⟨ours_new I1 g1,I1.hok.fresh g1⟩
    · obtain⟨sl,vs,oT,ts,he,hv1,tn,hTT,hd,h3,_⟩:=id hF
      rcases hfl with hfl | ⟨L,hL,rfl⟩
      rotate_left
      · refine note_here (by exact hL) hF (flight_off hF fun h2 f1 f2 f3=>go h2 T0 [T0,ea] (.inr trivial) f1 (f2.mono (fun b z=>by rw [show b=T0 by simpa using z];exact .head _) fun b z=>absurd z (by simp)) (by simp) (by simp) fun b hb=>?_)
        rcases List.mem_cons.mp hb with z | z
        · rw [z];exact⟨ours_at I1 hTT hd hT hpT,hHT⟩
        · rw [show b=ea by simpa using z];exact⟨ours_at I1 he rfl hea hpn,hHe⟩
      subst hfl
      refine note_next hfr hlf hf hF fun h1' T g1 g2 g3=>flight_off (s:={ s' with heap:=h1' }) g2 fun h2 f1 f2 f3=>?_
      refine go h2 T ([T0,ea]++[T]) (.inr trivial) f1 (g3.trans (f2.mono (fun _ z=>z) fun b z=>absurd z (by simp))) (by simp) (by simp) fun b hb=>?_
      rcases List.mem_append.mp hb with z | z
      · rcases List.mem_cons.mp z with z | z
        · rw [z];exact⟨ours_at I1 hTT hd hT hpT,hHT⟩
        · rw [show b=ea by simpa using z];exact⟨ours_at I1 he rfl hea hpn,hHe⟩
      · rw [show b=T by simpa using z];exact⟨ours_new I1 g1,I1.hok.fresh g1⟩
  · cases f with
    | next=>obtain⟨σ',H',I',q⟩:=q;exact wpAny_execs_nil ⟨σ',H',I'.untry I.ok,q⟩
    | brk=>obtain⟨σ',H',I',q⟩:=q;exact⟨σ',H',I'.untry I.ok,q⟩
    | cont=>obtain⟨σ',H',I',q⟩:=q;exact⟨σ',H',I'.untry I.ok,q⟩
    | ret u=>obtain⟨v,σ',H',I',r,q⟩:=q;exact⟨v,σ',H',I'.untry I.ok,r,q⟩
theorem ps_try (hm:X.mg x=some (.ref Dc))(cD:XCl X.K Dc)(hN:X.N.Nodup)(hi:X.N[i]? = some n)(hl:X.env.scope.names.lookup n=some .local)(hst:X.stack=X.env::X.outer)(hf:X.env.frame=some X.env.locals)
    (hb:∀ (E:XS) (pn:List (Addr×Obj)) (xe:Value->Shared->Prop),PassesOwn (model X.prog X.w) X.A X.env xe->Thr (X.tryIn pn xe) E->PSs (X.tryIn pn xe) body (tb E))
    (hh:∀ pn ea,PSs (X.exIn pn ea) (b₀::suite) th) (hg:Gl X x:=by rfl) (hdb:(x == ("__debug__":Str))=false:=by decide) :
    PS X (.Try body [.ExceptHandler (some (.Name x np)) (some n) (b₀::suite) hpos] [] [] pos) (tTry X.K Dc i tb th):=fun pins s σ H D I h=>
  try_run (th:=fun _=>th) (xe':=fun _ _ _ _=>False) hm cD hN hi hl hst hf hb hh (fun _ _ _ z=>z.elim) hg hdb I h fun _ _ _ _ ⟨C,e,a,b,k⟩=>⟨C,e,a,b,fun ea H2 z1 z2 _=>k ea H2 z1 z2⟩
theorem ps_tryR {th:Addr->TS}{E:XS}(hx:Thr X E)(hm:X.mg x=some (.ref Dc))(cD:XCl X.K Dc)(hN:X.N.Nodup)(hi:X.N[i]? = some n)(hl:X.env.scope.names.lookup n=some .local)(hst:X.stack=X.env::X.outer)(hf:X.env.frame=some X.env.locals)
    (hb:∀ (E:XS) (pn:List (Addr×Obj)) (xe:Value->Shared->Prop),PassesOwn (model X.prog X.w) X.A X.env xe->Thr (X.tryIn pn xe) E->PSs (X.tryIn pn xe) body (tb E))
    (hh:∀ pn ea,PSs (X.exInG pn ea (FlN (X.exIn pn ea) fun c d σ H=>E c d (σ.map fun _=>none) H)) (b₀::suite) (th ea)) (hg:Gl X x:=by rfl) (hdb:(x == ("__debug__":Str))=false:=by decide) :
    PS X (.Try body [.ExceptHandler (some (.Name x np)) (some n) (b₀::suite) hpos] [] [] pos) (tTryR X.K Dc i tb th):=fun pins s σ H D I h=>
  try_run hm cD hN hi hl hst hf hb hh (fun ea e s3 z=>suite_out I.ok hl hst hf hx z) hg hdb I h fun _ _ _ _ ⟨C,e,a,b,o,k⟩=>⟨C,e,a,b,fun ea H2 z1 z2 z3=>k ea H2 z1 z2 (z3 o)⟩
end
end L2
namespace L2
open PySem PySem.Spec PyProof.Rows PySem.W
structure Got (K:Frag)(H:Hp)(a C:Addr)(fs:List (Str×V)):Prop where
  cl:XCl K C
  ex:∃ d,Caught H a C (some d)/\H d=some (.xd fs)
theorem Caught.mono {H H':Hp}{a C:Addr}{d:Option Addr}(c:Caught H a C d)(s:Same H H'):Caught H' a C d:=by
  obtain⟨o,e,r⟩:=c
  exact⟨o,s _ _ e,r⟩
theorem Got.mono {K:Frag}{H H':Hp}{a C:Addr}{fs:List (Str×V)}(g:Got K H a C fs)(s:Same H H'):Got K H' a C fs:=by
  obtain⟨d,c,e⟩:=g.ex
  exact⟨g.cl,d,c.mono s,s _ _ e⟩
section
variable {X:Cx} {pins:List (Addr×Obj)} {σ:St} {H:Hp} {s:Shared} {a C:Addr} {fs:List (Str×V)}
theorem got_inst (I:Inv X pins σ H s)(g:Got X.K H a C fs):∃ (ox od:Obj) (mA:Str->Option Value),InstAt s.heap a ox C (some od)/\(∀ f,lookIn f od=some (mA f))/\∀ f,RelO (fs.lookup f) (mA f):=by
  obtain⟨d,⟨o,e,h1,h2,vs,h3⟩,ed⟩:=g.ex
  obtain⟨e',_⟩:=(show ObjOk X.prog X.w H s.heap a (.frz o (.own a)) from I.hok a _ e)
  obtain⟨mA,n,r⟩:=(show ObjOk X.prog X.w H s.heap d (.xd fs) from I.hok d _ ed)
  obtain⟨od,ho,hl⟩:=lookIn_ns n
  obtain⟨oc,odi,oda,osl⟩:=o
  dsimp only at h1 h2 h3
  subst h1 h2 h3
  exact⟨_,od,mA,⟨e',rfl,rfl,ho⟩,hl,r⟩
noncomputable def isC:V->Bool | .ref _=>true | .ty _=>true | _=>false
noncomputable def clsU:V->Value | .ref a=>.ref a | .ty n=>.type n | _=>.none
theorem clsU_of {v:V}{u:Value}(h:isC v=true)(r:RelV v u):u=clsU v:=by
  cases v<;>first | exact r | cases h
theorem clsU_all:∀ {vs:List V} {us:List Value},vs.all isC=true->Vals vs us->us=vs.map clsU
  | _,_,_,.nil=>rfl
  | _,_,h,.cons r t=>by
    simp only [List.all_cons,Bool.and_eq_true] at h
    rw [List.map_cons,← clsU_of h.1 r,← clsU_all h.2 t]
noncomputable def rIsX (K:Frag):List V->Hp->VK->Prop:=fun xs H Q=>∃ a c C fs b,xs=[.ref a,c]/\Got K H a C fs/\isC c=true/\kitOne K (.ref C) (clsU c)=some b/\Q (.bl b) H
noncomputable def rIsXT (K:Frag):List V->Hp->VK->Prop:=fun xs H Q=>∃ a p C fs ys b,xs=[.ref a,.ref p]/\H p=some (.tup ys)/\Got K H a C fs/\ys.all isC=true/\kitAny K (.ref C) (ys.map clsU)=some b/\Q (.bl b) H
theorem call_isX:CallR X (.builtin "isinstance") (rIsX X.K):=by
  intro pins s σ H xs us Q I r h
  obtain⟨a,c,C,fs,b,rfl,g,hc,e,q⟩:=h
  obtain⟨u1,u2,rfl,r1,r2⟩:=vals2 r
  obtain rfl:u1=Value.ref a:=r1
  obtain rfl:=clsU_of hc r2
  obtain⟨ox,od,mA,J,_⟩:=got_inst I g
  exact kia_one (exc_kit g.cl) I.kIn J e (fun z=>nomatch z) fun tk=>⟨.bl b,H,I.tok _,rfl,q⟩
theorem call_isXT:CallR X (.builtin "isinstance") (rIsXT X.K):=by
  intro pins s σ H xs us Q I r h
  obtain⟨a,p,C,fs,ys,b,rfl,ep,g,hc,e,q⟩:=h
  obtain⟨u1,u2,rfl,r1,r2⟩:=vals2 r
  obtain rfl:u1=Value.ref a:=r1
  obtain rfl:u2=Value.ref p:=r2
  obtain⟨ox,od,mA,J,_⟩:=got_inst I g
  obtain⟨_,its,rv,o,ho,hoc,n,hod⟩:=(show ObjOk X.prog X.w H s.heap p (.tup ys) from I.hok p _ ep)
  obtain rfl:=clsU_all hc rv
  obtain⟨oc,odi,oda,osl⟩:=o
  dsimp only at hoc hod
  subst hoc hod
  exact kia_tup (exc_kit g.cl) I.kIn J ho e (fun z=>nomatch z) fun tk=>⟨.bl b,H,I.tok _,rfl,q⟩
theorem call_isXK {K:Frag}(hK:X.K=K):CallR X (.builtin "isinstance") (rIsX K):=by subst hK;exact call_isX
theorem call_isXTK {K:Frag}(hK:X.K=K):CallR X (.builtin "isinstance") (rIsXT K):=by subst hK;exact call_isXT
noncomputable def tAtX (K:Frag)(te:TE)(f:Str):TE:=fun σ H Q=>te σ H fun x H1=>∃ a C fs v,x=.ref a/\Got K H1 a C fs/\findIn K (.ref C) f=some none/\fs.lookup f=some v/\Q v H1
theorem pe_atX {K:Frag}{e:Expr}{te:TE}{f:Str}{pos:Pos}(hK:X.K=K)(he:PE X e te)(hb:attributeBase e f X.env (eval e X.env)=eval e X.env:=by rfl):PE X (.Attribute e f pos) (tAtX K te f):=by
  subst hK
  intro pins s σ H Q I h
  refine attr_of hb (thn (he pins s σ H _ I h) fun u s1 ⟨x,H1,I1,rx,a,C,fs,v,ex,g,n,l,q⟩=>?_)
  subst ex
  obtain rfl:u=Value.ref a:=rx
  obtain⟨ox,od,mA,J,hl,hr⟩:=got_inst I1 g
  obtain⟨u,hu,ru⟩:=RelO.some_of (v:=v) (o:=mA f) (by rw [← l];exact hr f)
  exact exc_get I1.kIn J g.cl (findObj_own g.cl.hd n rfl (by rw [hl,hu])) (handed_of ru) ⟨v,H1,I1.tok _,ru,q⟩
end
section
variable {X:Cx}
noncomputable def rIsInt:List V->Hp->VK->Prop:=fun xs H Q=>(∃ i,xs=[.int i,.ty "int"]/\Q (.bl true) H)\/(∃ i,xs=[.bl i,.ty "int"]/\Q (.bl true) H)\/(∃ i,xs=[.str i,.ty "int"]/\Q (.bl false) H)\/(xs=[.non,.ty "int"]/\Q (.bl false) H)
noncomputable def rIsBool:List V->Hp->VK->Prop:=fun xs H Q=>(∃ i,xs=[.int i,.ty "bool"]/\Q (.bl false) H)\/(∃ i,xs=[.bl i,.ty "bool"]/\Q (.bl true) H)\/(∃ i,xs=[.str i,.ty "bool"]/\Q (.bl false) H)\/(xs=[.non,.ty "bool"]/\Q (.bl false) H)
noncomputable def rIsStr:List V->Hp->VK->Prop:=fun xs H Q=>(∃ i,xs=[.int i,.ty "str"]/\Q (.bl false) H)\/(∃ i,xs=[.bl i,.ty "str"]/\Q (.bl false) H)\/(∃ i,xs=[.str i,.ty "str"]/\Q (.bl true) H)\/(xs=[.non,.ty "str"]/\Q (.bl false) H)
end
end L2
namespace L2
open PySem PySem.Spec PyProof.Rows PySem.W
section
variable {X:Cx} {k j:Nat} {x:Str} {ps:List Str} {sp:Sp} {p pos:Pos} {e:Expr} {es:List Expr} {t:TA} {a:Addr}
theorem passN {P:Program}{w:World}:Passes (CXE P w) X E0:=fun _ _ _ _ _ _ _ h=>by
  obtain⟨_,_,_,_,_,_,_,_,_,_,_,_,_,_,_,z⟩:=h
  exact z.elim
theorem pe_callN (F:OkX X.prog X.w X.K X.mg X.base k x ps sp)(hr:Room j X.A)(hk:k<=j)(ha:PA X (e::es) t)(hg:Gl X x:=by rfl) (hdb:(x == ("__debug__":Str))=false:=by decide)
    (he:starEach (e::es) X.env=(false,eval e X.env)::starEach es X.env:=by rfl) (hpl:(backTo pos (starEach es X.env)).any (·.1)=false:=by rfl):PE X (.Call (.Name x p) (e::es) [] pos) (tCall sp [] E0 t):=by
  obtain⟨f,fd,kp,b,m,G⟩:=F.ex
  exact pe_call G (hr.mono hk) hg m kp b .nil passN ha hdb he hpl
theorem pe_cls (h:X.mg x=some (.ref a))(hg:Gl X x:=by rfl) (hd:(x == ("__debug__":Str))=false:=by decide):PE X (.Name x pos) (tC (.ref a)):=pe_glob hg h rfl hd
end
theorem bb_ValueError:bootBuiltins "ValueError" = some (.type "ValueError"):=by decide +kernel
structure Ini (K:Frag)(C:Addr)(qual:Str)(st:Stmt)(ps:List Str):Prop where
  ex:∃ (fI:Addr) (fd:FuncData) (oI:Obj),xInit K C=some (some (.ref fI))/\K.lookup fI=some oI/\oI.cls=.type "function"/\Fun K "__init__" qual st fI fd/\Binds K fd ps []
theorem ini_mk {K:Frag}{C:Addr}{qual:Str}{st:Stmt}{ps:List Str}{f:Addr}{od an:Option Addr}{osl:Array (Option Value)}{kV doc pm cdv ct:Value}
    (b:∀ (kV doc pm:Value) (an:Option Addr) (cdv ct:Value) (us:List Value),us.length=ps.length->bindArgs (fnOf "__init__" qual (defArgs st) (defBody st) (defScope st) .none kV doc pm an cdv ct) ⟨us,[]⟩=pure (ps.zip us))
    (a:xInit K C=some (some (.ref f))) (l:K.lookup f=some ⟨.type "function",od,.func (fnOf "__init__" qual (defArgs st) (defBody st) (defScope st) .none kV doc pm an cdv ct),osl⟩)
    (c:codeIn K cdv qual=true) (k:keepIn K (.ref f)=true):Ini K C qual st ps:=
  ⟨f,_,_,a,l,rfl,fun_mk l c k,(fun_mk l c k).binds b⟩
end L2
namespace L2
open PySem PySem.Spec PySem.Calls PyProof.Rows PySem.W
section
variable {X:Cx}
noncomputable def rInsert:V->List V->Hp->VK->Prop:=fun x vs H Q=>∃ l xs i y,x=.ref l/\vs=[.int i,y]/\H l=some (.lst xs)/\0<=i/\i<=xs.length/\xs.length<sizeLine/\Q .non (upd H l (.lst (xs.take i.toNat++y::xs.drop i.toNat)))
noncomputable def eqS (xs ys:List V):Bool:=(List.range (min xs.length ys.length)).all (fun j=>eqV (xs.getD j .non) (ys.getD j .non))&&xs.length == ys.length
noncomputable def rEqS (K:PySem.W.Frag):R2:=fun x y H Q=>∃ a b xs ys,x=.ref a/\y=.ref b/\((SqL K H a xs/\SqL K H b ys)\/(SqT K H a xs/\SqT K H b ys))/\xs.all flatV=true/\ys.all flatV=true/\Q (.bl (eqS xs ys)) H
noncomputable def rNeS (K:PySem.W.Frag):R2:=fun x y H Q=>∃ a b xs ys,x=.ref a/\y=.ref b/\((SqL K H a xs/\SqL K H b ys)\/(SqT K H a xs/\SqT K H b ys))/\xs.all flatV=true/\ys.all flatV=true/\Q (.bl (!eqS xs ys)) H
theorem eqs_at {A:Around}{s:Shared}{xs ys:List V}{us vs:List Value}(r1:Vals xs us)(r2:Vals ys vs)(f1:xs.all flatV=true)(f2:ys.all flatV=true) :
    ∀ j (h1:j<us.toArray.size) (h2:j<vs.toArray.size),SeqAt.EqAt A s us.toArray[j] vs.toArray[j] (eqV (xs.getD j .non) (ys.getD j .non)):=by
  intro j h1 h2
  rw [List.size_toArray] at h1 h2
  have l1:=r1.length
  have l2:=r2.length
  have e1:xs[j]? = some xs[j]:=List.getElem?_eq_getElem (by lia)
  have e2:ys[j]? = some ys[j]:=List.getElem?_eq_getElem (by lia)
  obtain⟨u,hu,ru⟩:=r1.get e1
  obtain⟨v,hv,rv⟩:=r2.get e2
  rw [List.getElem?_eq_getElem h1] at hu
  rw [List.getElem?_eq_getElem h2] at hv
  rw [List.getElem_toArray,List.getElem_toArray,Option.some.inj hu,Option.some.inj hv,List.getD_eq_getElem?_getD,List.getD_eq_getElem?_getD,e1,e2]
  exact eqAt_V ru rv (List.all_eq_true.mp f1 _ (List.getElem_mem _)) (List.all_eq_true.mp f2 _ (List.getElem_mem _))
theorem op_eqS (hu:X.A.units<cLine):OpR X (compareOp .Eq) (rEqS X.K):=by
  intro pins s σ H x y v u Q I rx ry h
  obtain⟨a,b,xs,ys,rfl,rfl,hq,f1,f2,q⟩:=h
  cases rx
  cases ry
  rcases hq with⟨ha,hb⟩ | ⟨ha,hb⟩
  · obtain⟨its,r1,p1,_⟩:=I.list ha
    obtain⟨its2,r2,p2,_⟩:=I.list hb
    have l1:=r1.length
    have l2:=r2.length
    by_cases hl:xs.length=ys.length
    · refine SeqAt.eq_listAt p1.isList p2.isList (by simp;lia) hu (eqs_at r1 r2 f1 f2) ⟨.bl _,H,I,rfl,?_⟩
      have:eqS xs ys=(List.range its.toArray.size).all (fun j=>eqV (xs.getD j .non) (ys.getD j .non)):=by
        unfold eqS
        rw [List.size_toArray,← l1,hl,Nat.min_self]
        simp
      rw [← this]
      exact q
    · refine SeqAt.eq_list_lengthsAt p1.isList p2.isList (by simp;lia) hu ⟨.bl _,H,I,rfl,?_⟩
      have:eqS xs ys=false:=by
        unfold eqS
        rw [show(xs.length == ys.length)=false by simp [hl],Bool.and_false]
      rw [← this]
      exact q
  · obtain⟨its,r1,p1,_⟩:=I.tuple ha
    obtain⟨its2,r2,p2,_⟩:=I.tuple hb
    have l1:=r1.length
    have l2:=r2.length
    refine SeqAt.eq_tupleAt p1 p2 hu (eqs_at r1 r2 f1 f2) ⟨.bl _,H,I,rfl,?_⟩
    rw [List.size_toArray,List.size_toArray,← l1,← l2]
    exact q
theorem op_eqSK {K:Frag}(hK:X.K=K)(hu:X.A.units<cLine):OpR X (compareOp .Eq) (rEqS K):=by subst hK;exact op_eqS hu
theorem hu_lt {A:Around}{k:Nat}(hr:Room k A):A.units<cLine:=Nat.lt_of_succ_lt (hu_of hr)
end
end L2
namespace L2
open PySem PySem.W
end L2
namespace L2
open PySem PySem.Spec PySem.Calls PyProof.Rows PySem.W
section
variable {X:Cx} {pins:List (Addr×Obj)} {σ:St} {H:Hp} {s:Shared} {h':Heap}
theorem Inv.turned2 {t':Nat}{e it:Addr}(I:Inv X pins σ H s)(k:∀ b o,b≠e->b≠it->s.heap.get? b=some o->h'.get? b=some o)(fe:FpOk X pins H e)(fi:FpOk X pins H it) :
    Inv X pins σ H { s with heap:=h',toks:=t' }:=by
  obtain⟨e0,e1,_,e3,e4,e5⟩:=fe
  obtain⟨i0,i1,_,i3,i4,i5⟩:=fi
  have hk:∀ b o,b∉[e,it]->s.heap.get? b=some o->h'.get? b=some o:=fun b o hb q=>k b o (fun z=>hb (by simp [z])) (fun z=>hb (by simp [z])) q
  have nn:∀ b u,H b=some u->b∉[e,it]:=fun b u q z=>by
    rcases List.mem_cons.mp z with z | z
    · rw [z,e0] at q;cases q
    · rw [List.mem_singleton.mp z,i0] at q;cases q
  refine I.step (g':=s.gens) (d':=s.drawn) (ch:=[e,it]) ?_ (fun b o _ _ hc q _=>hk b o hc q) (fun b o _ _ hc q _=>⟨o.slots,hk b o hc q⟩) (fun _ _ _ _ n=>n) (fun b o hc q=>⟨o,hk b o hc q⟩)
    (fun _ _ q=>q) (fun _ _ _ q=>q) (fun b ps q=>⟨#[],by rw [q];simp⟩) ?_ ?_ I.bare
  · intro b hb
    rcases List.mem_cons.mp hb with z | z
    · rw [z];exact⟨e3,e1,e4,e5⟩
    · rw [List.mem_singleton.mp z];exact⟨i3,i1,i4,i5⟩
  · intro m hm
    obtain⟨o,es,ep,ho,r⟩:=hm
    exact⟨o,es,ep,k _ o (Ne.symm e1) (Ne.symm i1) ho,r⟩
  · intro b u q
    refine(I.hok b u q).stay (fun c v hc z=>hk c v ?_ z) (fun _ z=>z) fun _ _ z=>z
    rcases hc with z' | z'
    · rw [z'];exact nn b u q
    · exact nn c _ z'
end
noncomputable def Ite (go:Nat->Hp->Prop)(yv:Nat->Hp->V->Prop)(stop:Nat->Hp->Prop):It:=⟨go,fun i H x H'=>∃ p v,H p=none/\yv i H v/\x=.ref p/\H' = upd H p (.tup [.int i,v]),stop⟩
theorem turn_enum {P:Program}{w:World}{K:PySem.W.Frag}{elts:List Expr}{ek:Nat}{epos:Pos}{e it:Addr}{go:Nat->Hp->Prop}{yv:Nat->Hp->V->Prop}{stop:Nat->Hp->Prop}{tn:Nat->Heap->Prop}(hne:e≠it)
    (hobj:∀ i h,tn i h->∃ o,h.get? it=some o/\∀ v,o.data≠.cell v)
    (hkeep:∀ i h h',tn i h->(∀ o,h.get? it=some o->h'.get? it=some o)->tn i h')
    (hitem:∀ (X:Cx),X.prog=P->X.w=w->X.K=K->X.calm=true->∀ (i:Nat) (pins:List (Addr×Obj)) (s:Shared) (σ:St) (H:Hp),Inv X pins σ H s->tn i s.heap->go i H->(∃ old,IsEnum s.heap e it i old) ->
      ∃ fp n Pd St,Draws P w X.A.in1 it fp n Pd St/\St i s.heap/\i<n/\e∉fp/\(∀ h,St (i+1) h->tn (i+1) h)/\∀ x,Pd i x->∃ v,RelV v x/\yv i H v)
    (hdone:∀ (X:Cx),X.prog=P->X.w=w->X.K=K->X.calm=true->∀ (i:Nat) (pins:List (Addr×Obj)) (s:Shared) (σ:St) (H:Hp),Inv X pins σ H s->tn i s.heap->stop i H ->
      ∃ fp n Pd St,Draws P w X.A.in1 it fp n Pd St/\St n s.heap) :
    Turn P w K (.Tuple elts ek epos) (Ite go yv stop) [e,it] e (fun i h=>(∃ old,IsEnum h e it i old)/\tn i h) where
  mem:=by simp
  obj:=fun i h st b hb=>by
    rcases List.mem_cons.mp hb with z | z
    · obtain⟨⟨old,q⟩,_⟩:=st
      rw [z]
      exact⟨_,q,fun v z=>nomatch z⟩
    · rw [List.mem_singleton.mp z]
      exact hobj i h st.2
  keep:=fun i h h' st k=>by
    obtain⟨⟨old,q⟩,st⟩:=st
    exact⟨⟨old,k e (by simp) _ q⟩,hkeep i h h' st (k it (by simp))⟩
  item:=by
    intro X hP hw hK hc i pins s σ H E I hf st hg
    obtain⟨⟨old,q⟩,st⟩:=st
    obtain⟨fp,n,Pd,St,D,hs,hlt,hef,hst,hv⟩:=hitem X hP hw hK hc i pins s σ H I st hg ⟨old,q⟩
    refine wpAny_pyNext_enum_itemD D q hs hlt hne hef fun x h1 tk hx ho hs1 hT hsz hk=>⟨_,rfl,?_⟩
    obtain⟨v,rv,yv'⟩:=hv x hx
    have helt:e<s.heap.objs.size:=Heap.lt_size q
    refine wpAny_letOwnedTupleGo_enum ho fun h2 he2 hs2=>?_
    have hTe:s.heap.objs.size≠e:=Nat.ne_of_gt helt
    have hT2:h2.get? s.heap.objs.size=some { cls:=.type "tuple",data:=.seq #[.int i tk,x] }:=(hs2.2 _ hTe).trans hT
    have fe:=hf e (by simp)
    have fi:=hf it (by simp)
    have fresh:H s.heap.objs.size=none:=I.hok.fresh (Nat.le_refl _)
    have hit:s.heap.objs.size≠it:=by
      obtain⟨o,z⟩:=D.live _ _ hs
      exact Nat.ne_of_gt (Heap.lt_size z)
    have I0:=I.laid (t':=s.toks) (a:=s.heap.objs.size) (o:=.tup [.int i,v]) (h':=s.heap.push { cls:=.type "tuple",data:=.seq #[.int i tk,x] }) (fun b o z=>Heap.get?_push_of_some _ z) (Nat.le_refl _) (by
      refine⟨by show 2<=sizeLine;decide,[.int i tk,x],.cons ⟨tk,rfl⟩ (.cons rv .nil),?_⟩
      exact⟨_,Heap.get?_push_size _ rfl,rfl,_,rfl⟩)
    have fe0:FpOk X pins (upd H s.heap.objs.size (.tup [.int i,v])) e:=⟨by rw [upd_ne (Ne.symm hTe)];exact fe.1,fe.2⟩
    have fi0:FpOk X pins (upd H s.heap.objs.size (.tup [.int i,v])) it:=⟨by rw [upd_ne (Ne.symm hit)];exact fi.1,fi.2⟩
    have I2:=I0.turned2 (h':=h2) (t':=tk+1) (e:=e) (it:=it) (fun b o hbe hbi z=>by
      by_cases hb:b=s.heap.objs.size
      · rw [hb] at z ⊢
        have z':some ({ cls:=.type "tuple",data:=.seq #[.int i tk,x] }:Obj)=some o:=(Heap.get?_push_size _ rfl).symm.trans z
        rw [hT2];exact z'
      · have z':s.heap.get? b=some o:=by
          have z2:=z
          rw [Heap.get?_push_ne _ _ _ hb] at z2
          exact z2
        exact(hs2.2 b hbe).trans (hk b o hbe hbi z')) fe0 fi0
    refine⟨.ref s.heap.objs.size,upd H s.heap.objs.size (.tup [.int i,v]),I2,rfl,⟨_,v,fresh,yv',rfl,rfl⟩,⟨⟨_,he2⟩,?_⟩,fun b hb=>?_⟩
    · refine hkeep _ _ _ (hst h1 hs1) fun o z=>(hs2.2 it (Ne.symm hne)).trans z
    · rcases List.mem_cons.mp hb with z | z
      · rw [z];exact fe0.1
      · rw [List.mem_singleton.mp z];exact fi0.1
  done:=by
    intro X hP hw hK hc i pins s σ H E I hf st hg
    obtain⟨⟨old,q⟩,st⟩:=st
    obtain⟨fp,n,Pd,St,D,hs⟩:=hdone X hP hw hK hc i pins s σ H I st hg
    have fi:=hf it (by simp)
    refine wpAny_pyNext_enum_endD D q hs fun h1 hx=>⟨rfl,I.turned (t':=s.toks) (fun b o hb z=>hx b o hb z) fi.1 fi.2.1 fi.2.2.2.1 fi.2.2.2.2.1 fi.2.2.2.2.2⟩
  self:=fun A i s Q E st h=>by
    obtain⟨⟨old,q⟩,_⟩:=st
    exact wpAny_pyIter_enum q h
section
variable {X:Cx}
noncomputable def goS (x:Str):Nat->Hp->Prop:=fun i _=>i<x.cps.size
noncomputable def yvS (x:Str):Nat->Hp->V->Prop:=fun i _ v=>∃ c,x.cps[i]? = some c/\v=.str ⟨#[c]⟩
noncomputable def stS (x:Str):Nat->Hp->Prop:=fun i _=>x.cps.size<=i
theorem turn_enumS {P:Program}{w:World}{K:PySem.W.Frag}{elts:List Expr}{ek:Nat}{epos:Pos}{e it:Addr}(hne:e≠it)(x:Str)(t:Tok) :
    Turn P w K (.Tuple elts ek epos) (Ite (goS x) (yvS x) (stS x)) [e,it] e (fun i h=>(∃ old,IsEnum h e it i old)/\(h.IsStrIter it (strIterType x) x t i/\i<=x.cps.size)):=by
  have dr:∀ A:Around,A.handled=none->Draws P w A it [it] x.cps.size (fun i v=>∃ c u,x.cps[i]? = some c/\v=.str ⟨#[c]⟩ u) (fun i h=>h.IsStrIter it (strIterType x) x t i):=fun A hA=>by
    unfold strIterType
    cases ha:x.cps.all (· < 128)
    · exact Draws.strWide hA it x t
    · exact Draws.strAscii hA it x t
  refine turn_enum hne ?_ ?_ ?_ ?_
  · intro i h st
    obtain⟨o,ho,_,hd⟩:=st.1
    exact⟨o,ho,fun v z=>by rw [hd] at z;cases z⟩
  · intro i h h' st k
    obtain⟨⟨o,ho,r⟩,hl⟩:=st
    exact⟨⟨o,k o ho,r⟩,hl⟩
  · intro X hP hw hK hc i pins s σ H I st hg he
    refine⟨[it],_,_,_,dr X.A.in1 (I.ok.hd hc),st.1,hg,by simp [hne],fun h z=>⟨z,hg⟩,fun v hv=>?_⟩
    obtain⟨c,u,hcu,rfl⟩:=hv
    exact⟨.str ⟨#[c]⟩,⟨u,rfl⟩,c,hcu,rfl⟩
  · intro X hP hw hK hc i pins s σ H I st hg
    have hi:i=x.cps.size:=Nat.le_antisymm st.2 hg
    subst hi
    exact⟨[it],_,_,_,dr X.A.in1 (I.ok.hd hc),st.1⟩
noncomputable def iEnumS (ta:TA):TI:=fun σ H R=>ta σ H fun vs H1=>∃ z,vs=[.str z]/\R (Ite (goS z) (yvS z) (stS z)) H1
theorem pi_enumS {a:Expr}{ta:TA}{p pos:Pos}{elts:List Expr}{ek:Nat}{epos:Pos}(hg:Gl X "enumerate")(hm:X.mg "enumerate" = none)(ha:PA X [a] ta)(hs:starEach [a] X.env=[(false,eval a X.env)]:=by rfl) :
    PI X (.Tuple elts ek epos) (.Call (.Name "enumerate" p) [a] [] pos) (iEnumS ta):=by
  intro pins s σ H R I h
  refine Call_ (ld_blt I hg hm boot_enumerate (PyProof.Rows.callWith_type1 (thn (ha pos pins s σ H _ I h) fun us s1 ⟨vs,H1,I1,r1,q1⟩=>?_) hs rfl))
  obtain⟨z,e,q⟩:=q1
  subst e
  obtain⟨u,rfl,t,rfl⟩:=r1.one
  refine call_enumerate_str fun h' he hit hsz hk=>wpAny_pyIter_enum he ?_
  have hlt:s1.heap.objs.size<=s1.heap.objs.size+1:=Nat.le_succ _
  refine⟨s1.heap.objs.size+1,[s1.heap.objs.size+1,s1.heap.objs.size],_,_,H1,rfl,I1.kept (t':=s1.toks) hk,turn_enumS (Nat.succ_ne_self _) z t,⟨⟨_,he⟩,hit,Nat.zero_le _⟩,fun b hb=>?_,q⟩
  have hb':s1.heap.objs.size<=b:=by
    rcases List.mem_cons.mp hb with z | z
    · rw [z];exact hlt
    · rw [List.mem_singleton.mp z];exact Nat.le_refl _
  exact I1.fpOk hb' (I1.hok.fresh hb')
theorem fb_enumS {K:PySem.W.Frag}{l:List Nat}{a b:Nat}{tb:TS}{D:Ends}{σ:St}{H:Hp}(Pv:Nat->St->Hp->Prop)(h0:Pv 0 σ H)
    (hs:∀ i c σ H,l[i]? = some c->Pv i σ H->∀ p,H p=none->tb { D with nx:=Pv (i+1),ct:=Pv (i+1),bk:=D.nx } ((σ.set a (some (.int i))).set b (some (.str (S [c])))) (upd H p (.tup [.int i,.str (S [c])])))
    (hd:∀ σ H,Pv l.length σ H->D.nx σ H):forBody (Ite (goS (S l)) (yvS (S l)) (stS (S l))) (gTup K 2 (gCons (gName a) (gCons (gName b) gNil))) tb D σ H:=by
  refine⟨fun i m σ H=>m=l.length - i/\i<=l.length/\Pv i σ H,⟨l.length,by simp,Nat.zero_le _,h0⟩,?_⟩
  rintro i m σ H ⟨rfl,hi,p⟩
  by_cases hlt:i<l.length
  · refine .inr ⟨by show i<(S l).cps.size;rw [S_size];exact hlt,Pv (i+1),fun σ' H' p'=>⟨l.length - (i+1),by lia,rfl,hlt,p'⟩,fun x H' y=>?_⟩
    obtain⟨q,v,hq,⟨c,hc,rfl⟩,rfl,rfl⟩:=y
    rw [S_get] at hc
    exact⟨q,_,rfl,SqT.of upd_same,rfl,_,_,rfl,_,_,rfl,rfl,hs i c σ H hc p q hq⟩
  · have e:i=l.length:=by lia
    subst e
    exact .inl ⟨by show(S l).cps.size<=l.length;rw [S_size];exact Nat.le_refl _,hd σ H p⟩
end
end L2
namespace L2
open PySem PySem.Spec PySem.Calls PyProof.Rows PySem.W
structure RoomH (k:Nat)(A:Around):Prop where
  dp:A.depth+3 * k+5<recursionLimit
  un:A.units+16 * k+200<cLine
theorem RoomH.mono {j k:Nat}{A:Around}(r:RoomH k A)(h:j<=k):RoomH j A:=⟨by have:=r.dp;lia,by have:=r.un;lia⟩
theorem RoomH.deeper {k:Nat}{A:Around}(r:RoomH (k+1) A)(env:Env):RoomH k (A.deeper env):=
  ⟨by have:=r.dp;show A.depth+1+3 * k+5<_;lia,by have:=r.un;show A.units+3+16 * k+200<_;lia⟩
theorem Room.marked {k:Nat}{A:Around}(r:Room k A)(v:Option Value):RoomH k (A.mark v):=⟨by have:=r.dp;exact this,by have:=r.un;exact this⟩
noncomputable abbrev Cx.hot (X:Cx):Cx:={ X with calm:=false }
structure FnOkH (P:Program)(w:World)(K:PySem.W.Frag)(mg:Str->Option Value)(base:Heap)(k:Nat)(f:Addr)(fd:FuncData)(ps:List Str)(sp:Sp):Prop where
  len:∀ vs H Q E,sp vs H Q E->vs.length=ps.length
  run:∀ (A:Around) (outer:List Env) (s:Shared) (H:Hp) (args:Args) (us:List Value) (vs:List V) (Q:VK) (E:XK),RoomH k A->Env0 P w K mg base A outer s H->BindsTo s fd args (ps.zip us)->Vals vs us->sp vs H Q E ->
    codeAny (model P w) A (.call (.ref f) args) (CR CX0 outer P w H s Q E) s
theorem fn_ofH {P:Program}{w:World}{K:PySem.W.Frag}{mg:Str->Option Value}{base:Heap}{k:Nat}{f:Addr}{name qual:Str}{params:Arguments}{body:List Stmt}{scope:Scope}{dV kV doc pm cdv ct oc:Value}{an od:Option Addr}
    {osl:Array (Option Value)} {N ps:List Str} {sp:Sp} (lk:K.lookup f=some ⟨oc,od,.func (PySem.W.fnOf name qual params body scope dV kV doc pm an cdv ct),osl⟩) (hcd:PySem.W.codeIn K cdv qual=true) (S:FnScope N ps scope)
    (len:∀ vs H Q E,sp vs H Q E->vs.length=ps.length)
    (hbody:∀ (A:Around) (outer:List Env) (s:Shared) (H:Hp) (vs:List V) (Q:VK) (E:XK),RoomH k (A.deeper (envOfC qual scope s.heap.objs.size f cdv))->sp vs H Q E ->
      ∃ t,PSs (cxOf CX0 P w K mg base N qual scope f cdv A outer s H E).hot.nox body t/\t { nx:=fun _ H'=>Q .non H',rt:=Q } (start N vs) H) :
    FnOkH P w K mg base (k+1) f (PySem.W.fnOf name qual params body scope dV kV doc pm an cdv ct) ps sp:=by
  refine⟨len,fun A outer s H args us vs Q E hr e0 hb r hsp=>?_⟩
  have hl:=len _ _ _ _ hsp
  have KX:K.In s.heap:=e0.mod.kin.keeps fun b o e=>(e0.bs b o e).1
  have lim:s.heap.NoLimit:=e0.mod.nolimit.keeps fun b o e=>(e0.bs b o e).1
  have hkind:∀ y∈ps.zip us,scope.names.lookup y.1=some .local\/(scope.names.lookup y.1=some .cell/\((cellsFrom (s.heap.objs.size+1) scope.names []).lookup y.1).isSome=true):=fun y hy=>by
    obtain⟨n,v⟩:=y
    rcases S.par n (List.of_mem_zip hy).1 with q | q
    · exact .inl q
    · exact .inr ⟨q,PySem.W.cellsFrom_some _ _ _ (.inl q)⟩
  have hdp:A.depth<recursionLimit:=by have:=hr.dp;lia
  refine codeAny_call_function hdp (KX _ _ lk) rfl S.co S.gen rfl (PySem.W.codeRec_of KX hcd) (hb _ _ _ _ ?_)
  refine wpAny_newFunctionEnv_cells S.kind hkind fun env he s1 x=>?_
  subst he
  refine⟨lim.keeps x.toInCall.keep,codeAny_func ?_⟩
  obtain⟨t,ht,hq⟩:=hbody A outer s H vs Q E (hr.deeper _) hsp
  have e1:Env0 P w K mg base { A with handled:=none } outer s H:=⟨e0.frames,e0.mod,e0.bs,e0.bsz,e0.funs,e0.frf,e0.hok,e0.bare⟩
  have I0:Inv (cxOf CX0 P w K mg base N qual scope f cdv { A with handled:=none } outer s H E) [] (start N vs) H s1:=inv_start S rfl e1 hl r x
  have I:Inv (cxOf CX0 P w K mg base N qual scope f cdv A outer s H E).hot.nox [] (start N vs) H s1:=by
    obtain⟨ok,I1,I2,I3,I4,I5,I6,I7,I8,I9,I10⟩:=I0
    exact⟨⟨ok.mod,ok.kind,ok.glob,ok.blt,ok.above,ok.inj,ok.has,ok.cab,fun z=>absurd (show false=true from z) (by decide),Around.frames_deeper e0.frames,ok.stk,ok.exf,ok.bs,ok.bsz,ok.noex,ok.exfs,ok.funs,ok.frf⟩,I1,I2,I3,I4,I5,I6,I7,I8,I9,I10⟩
  refine wpAny_mono (ht [] s1 (start N vs) H _ I hq) (fun fl s' hs=>?_) fun e s' hs=>hs.elim
  have fin:∀ {σ':St} {H':Hp} {v:V} {u:Value},Inv (cxOf CX0 P w K mg base N qual scope f cdv A outer s H E).hot.nox [] σ' H' s'->RelV v u->Q v H'->CE outer P w H s Q u s':=
    fun {σ' H' v u} J rv q=>⟨v,H',J.os,J.bare,J.base,J.hok,rv,q⟩
  cases fl with
  | ret u=>
    obtain⟨v,σ',H',J,rv,q⟩:=hs
    exact fin J rv q
  | next=>
    obtain⟨σ',H',J,q⟩:=hs
    exact fin (v:=V.non) (u:=Value.none) J rfl q
  | brk=>
    obtain⟨_,_,_,q⟩:=hs
    exact False.elim q
  | cont=>
    obtain⟨_,_,_,q⟩:=hs
    exact False.elim q
structure OkH (P:Program)(w:World)(K:PySem.W.Frag)(mg:Str->Option Value)(base:Heap)(k:Nat)(x:Str)(ps:List Str)(sp:Sp):Prop where
  ex:∃ (f:Addr) (fd:FuncData),PySem.W.keepIn K (.ref f)=true/\Binds K fd ps []/\mg x=some (.ref f)/\FnOkH P w K mg base k f fd ps sp
section
variable {P:Program} {w:World} {K:PySem.W.Frag} {mg:Str->Option Value} {base:Heap}
theorem Df.okH {x:Str}{st:Stmt}{ps N:List Str}{k:Nat}{sp:Sp}(D:Df K mg x st ps)(Sc:FnScope N ps (defScope st))(len:∀ vs H Q E,sp vs H Q E->vs.length=ps.length)
    (hbody:∀ (f:Addr) (cdv:Value) (A:Around) (outer:List Env) (s:Shared) (H:Hp) (vs:List V) (Q:VK) (E:XK),RoomH k (A.deeper (envOfC x (defScope st) s.heap.objs.size f cdv))->sp vs H Q E ->
      ∃ t,PSs (cxOf CX0 P w K mg base N x (defScope st) f cdv A outer s H E).hot.nox (defBody st) t/\t { nx:=fun _ H'=>Q .non H',rt:=Q } (start N vs) H):OkH P w K mg base (k+1) x ps sp:=by
  obtain⟨f,fd,F,b,m⟩:=D.ex
  refine⟨f,fd,F.kp,b,m,?_⟩
  obtain⟨oc,od,kV,doc,pm,an,cdv,ct,osl,rfl,lk,hcd⟩:=F.ex
  exact fn_ofH lk hcd Sc len fun A outer s H vs Q E hr h=>hbody f cdv A outer s H vs Q E hr h
end
section
variable {X:Cx} {k j:Nat} {x:Str} {ps:List Str} {sp:Sp} {p pos:Pos} {e:Expr} {es:List Expr} {t:TA}
theorem pe_callH (F:OkH X.prog X.w X.K X.mg X.base k x ps sp)(hr:RoomH j X.A)(hk:k<=j)(ha:PA X (e::es) t)(hg:Gl X x:=by rfl) (hdb:(x == ("__debug__":Str))=false:=by decide)
    (he:starEach (e::es) X.env=(false,eval e X.env)::starEach es X.env:=by rfl) (hpl:(backTo pos (starEach es X.env)).any (·.1)=false:=by rfl):PE X (.Call (.Name x p) (e::es) [] pos) (tCall sp [] E0 t):=by
  obtain⟨f,fd,kp,b,m,G⟩:=F.ex
  intro pins s σ H Q I h
  refine wpAny_Call_Name_kw (ld_glob I hg m ?_ hdb)
  refine PySem.W.callWith_K (h₀:=X.base) I.ok.mod.kin kp (thn (ha pos pins s σ H _ I h) fun us s1 ⟨vs,H1,I1,r,q⟩=>⟨I1.kIn,?_⟩) he hpl
  have r2:Vals (vs++[]) (us++[]):=r.append .nil
  have hl:(us++[]).length=ps.length:=by rw [← r2.length];exact G.len _ _ _ _ q
  refine wpAny_call (codeAny_mono (G.run X.A X.stack s1 H1 ⟨us,[]⟩ (us++[]) (vs++[]) Q E0 (hr.mono hk) I1.env0 (b s1 us I1.kIn hl) r2 q) fun r s' hq=>?_)
  cases r with
  | error e=>exact False.elim hq
  | ok fl=>
    cases fl with
    | ret u=>exact I1.after hq
    | next=>exact False.elim hq
    | brk=>exact False.elim hq
    | cont=>exact False.elim hq
end
end L2
namespace L2
open PySem PySem.Spec PyProof.Rows
def lcBody2 (K:PySem.W.Frag)(J:It)(tt:TT)(te:TE)(σ:St)(H1:Hp)(Q:VK):Prop:=∀ D,H1 D=none->∃ W:Nat->Nat->List V->Hp->Prop,(∃ m,W 0 m [] (upd H1 D (.lst [])))/\∀ i m ys H',W i m ys H'->H' D=some (.lst ys) /\
  ((J.stop i H'/\Q (.ref D) H')\/(J.go i H'/\∀ v H2,J.yld i H' v H2->∃ pa u1 u2,v=.ref pa/\SqT K H2 pa [u1,u2]/\tt (some u1::some u2::σ) H2 fun b H3=>
    if b=true then te (some u1::some u2::σ) H3 fun y H4=>H4 D=some (.lst ys)/\ys.length<sizeLine/\∃ m',m' < m/\W (i+1) m' (ys++[y]) (upd H4 D (.lst (ys++[y]))) else ∃ m',m' < m/\W (i+1) m' ys H3))
noncomputable def tLC2 (K:PySem.W.Frag)(wi:TI)(tt:TT)(te:TE):TE:=fun σ H Q=>wi σ H fun J H1=>lcBody2 K J tt te σ H1 Q
section
variable {X:Cx} {elt iter:Expr} {x x2:Str} {px py pt pos:Pos} {kt:Nat} {ifs:List Expr} {scope:Scope} {wi:TI} {tt:TT} {te:TE}
end
end L2
namespace L2
open PySem PySem.Spec PySem.Calls PyProof.Rows PySem.W
noncomputable def goL (K:Frag)(l:Addr):Nat->Hp->Prop:=fun i H=>∃ xs x,SqL K H l xs/\xs[i]? = some x
noncomputable def yvL (K:Frag)(l:Addr):Nat->Hp->V->Prop:=fun i H v=>∀ xs,SqL K H l xs->xs[i]? = some v
noncomputable def stL0 (K:Frag)(l:Addr):Nat->Hp->Prop:=fun i H=>∃ xs,SqL K H l xs/\xs.length=i
section
variable {X:Cx}
noncomputable def iEnumL (K:Frag)(ta:TA):TI:=fun σ H R=>ta σ H fun vs H1=>∃ l xs,vs=[.ref l]/\SqL K H1 l xs/\R (Ite (goL K l) (yvL K l) (stL0 K l)) H1
end
def Pairs (H:Hp)(a:Addr)(ps:List (List Nat×List Nat)):Prop:=∃ as:List Addr,H a=some (.lst (as.map V.ref))/\as.length=ps.length/\∀ (i:Nat) p,ps[i]? = some p->∃ b,as[i]? = some b/\H b=some (.tup [.str (S p.1),.str (S p.2)])
theorem Pairs.mono {H H':Hp}{a:Addr}{ps:List (List Nat×List Nat)}(h:Pairs H a ps)(g:Same H H'):Pairs H' a ps:=by
  obtain⟨as,h1,h2,h3⟩:=h
  refine⟨as,g _ _ h1,h2,fun i p e=>?_⟩
  obtain⟨b,h4,h5⟩:=h3 i p e
  exact⟨b,h4,g _ _ h5⟩
theorem tLC2_eq (K:Frag)(wi:TI)(tt:TT)(te:TE):tLC2 K wi tt te=fun σ H Q=>wi σ H fun J H1=>lcBody2 K J tt te σ H1 Q:=rfl
end L2
namespace L2
open PySem PySem.Spec PySem.Calls PyProof.Rows PySem.W
theorem bb_list:bootBuiltins "list" = some (.type "list"):=by decide +kernel
section
variable {X:Cx}
noncomputable def rListS:List V->Hp->VK->Prop:=fun xs H Q=>∃ l,xs=[.str (S l)]/\l.length<=1000000/\∀ p,H p=none->Q (.ref p) (upd H p (.lst (l.map fun c=>.str (S [c]))))
def NoT (K:Frag)(H:Hp)(x:V):Prop:=x=.non\/(∃ b,x=.bl b)\/(∃ i,x=.int i)\/(∃ a xs,x=.ref a/\H a=some (.lst xs))\/(∃ a xs,x=.ref a/\H a=some (.tup xs))\/∃ a kvs,x=.ref a/\H a=some (.dK kvs)
theorem NoT.mono {K:Frag}{H H':Hp}{x:V}(h:NoT K H x)(g:Same H H'):NoT K H' x:=by
  rcases h with h | h | h | ⟨a,xs,h,e⟩ | ⟨a,xs,h,e⟩ | ⟨a,xs,h,e⟩
  · exact .inl h
  · exact .inr (.inl h)
  · exact .inr (.inr (.inl h))
  · exact .inr (.inr (.inr (.inl ⟨a,xs,h,g _ _ e⟩)))
  · exact .inr (.inr (.inr (.inr (.inl ⟨a,xs,h,g _ _ e⟩))))
  · exact .inr (.inr (.inr (.inr (.inr ⟨a,xs,h,g _ _ e⟩))))
noncomputable def rIsStrA (K:Frag):List V->Hp->VK->Prop:=fun xs H Q=>∃ x,xs=[x,.ty "str"]/\((∃ i,x=.str i/\Q (.bl true) H)\/(NoT K H x/\Q (.bl false) H))
theorem op_inQK {K:Frag}(hK:X.K=K):OpR X (compareOp .In) (rIn K false):=by subst hK;exact op_in_seq
theorem pi_tupK {K:Frag}{tg l:Expr}{tl:TE}(hK:X.K=K)(hl:PE X l tl):PI X tg l (iTup K tl):=by subst hK;exact pi_tup hl
theorem fb_tup {K:Frag}{a:Addr}{xs:List V}{g:TG}{tb:TS}{D:Ends}{σ:L2.St}{H:Hp}(Pv:Nat->L2.St->Hp->Prop)(h0:Pv 0 σ H)(hl:∀ i σ H,i<=xs.length->Pv i σ H->SqT K H a xs)
    (hs:∀ i x σ H,xs[i]? = some x->Pv i σ H->g x σ H fun σ2 H2=>tb { D with nx:=Pv (i+1),ct:=Pv (i+1),bk:=D.nx } σ2 H2) (hd:∀ σ H,Pv xs.length σ H->D.nx σ H):forBody (Itt K a) g tb D σ H:=for_tup Pv h0 hl hs hd
noncomputable def tD0:TE:=fun _ H Q=>∀ p,H p=none->Q (.ref p) (upd H p (.dK []))
end
end L2
namespace L2
open PySem PySem.Spec PySem.Calls PyProof.Rows PySem.W
inductive Dat where
  | fl (v:V)
  | tp (xs:List Dat)
  | ls (xs:List Dat)
mutual
noncomputable def IsDt (H:Hp):Dat->V->Prop
  | .fl x,v=>v=x/\flatV x=true
  | .tp ds,v=>∃ a vs,v=.ref a/\H a=some (.tup vs)/\IsDs H ds vs
  | .ls ds,v=>∃ a vs,v=.ref a/\H a=some (.lst vs)/\IsDs H ds vs
noncomputable def IsDs (H:Hp):List Dat->List V->Prop
  | [],vs=>vs=[]
  | d::ds,vs=>∃ v r,vs=v::r/\IsDt H d v/\IsDs H ds r
end
mutual
noncomputable def eqD:Dat->Dat->Bool
  | .fl x,.fl y=>eqV x y
  | .tp xs,.tp ys=>eqDs xs ys
  | .ls xs,.ls ys=>eqDs xs ys
  | .fl _,.tp _=>false
  | .fl _,.ls _=>false
  | .tp _,.fl _=>false
  | .tp _,.ls _=>false
  | .ls _,.fl _=>false
  | .ls _,.tp _=>false
noncomputable def eqDs:List Dat->List Dat->Bool
  | [],[]=>true
  | x::xs,y::ys=>eqD x y&&eqDs xs ys
  | [],_::_=>false
  | _::_,[]=>false
end
mutual
noncomputable def depD:Dat->Nat
  | .fl _=>0
  | .tp xs=>depDs xs+1
  | .ls xs=>depDs xs+1
noncomputable def depDs:List Dat->Nat
  | []=>0
  | d::ds=>max (depD d) (depDs ds)
end
mutual
theorem IsDt.mono {H H':Hp}(g:Same H H'):∀ {d:Dat} {v:V},IsDt H d v->IsDt H' d v
  | .fl x,v,h=>by simp only [IsDt] at h ⊢;exact h
  | .tp ds,v,h=>by
    simp only [IsDt] at h ⊢
    obtain⟨a,vs,e,h1,h2⟩:=h
    exact⟨a,vs,e,g _ _ h1,IsDs.mono g h2⟩
  | .ls ds,v,h=>by
    simp only [IsDt] at h ⊢
    obtain⟨a,vs,e,h1,h2⟩:=h
    exact⟨a,vs,e,g _ _ h1,IsDs.mono g h2⟩
theorem IsDs.mono {H H':Hp}(g:Same H H'):∀ {ds:List Dat} {vs:List V},IsDs H ds vs->IsDs H' ds vs
  | [],vs,h=>by simp only [IsDs] at h ⊢;exact h
  | d::ds,vs,h=>by
    simp only [IsDs] at h ⊢
    obtain⟨v,r,e,h1,h2⟩:=h
    exact⟨v,r,e,IsDt.mono g h1,IsDs.mono g h2⟩
end
theorem IsDs.len {H:Hp}:∀ {ds:List Dat} {vs:List V},IsDs H ds vs->ds.length=vs.length
  | [],vs,h=>by simp only [IsDs] at h;subst h;rfl
  | d::ds,vs,h=>by
    simp only [IsDs] at h
    obtain⟨v,r,e,h1,h2⟩:=h
    rw [e,List.length_cons,List.length_cons,IsDs.len h2]
theorem IsDs.app {H:Hp}{es:List Dat}{us:List V}:∀ {ds:List Dat} {vs:List V},IsDs H ds vs->IsDs H es us->IsDs H (ds++es) (vs++us)
  | [],vs,h,k=>by simp only [IsDs] at h;subst h;exact k
  | d::ds,vs,h,k=>by
    simp only [IsDs] at h
    obtain⟨v,r,e,h1,h2⟩:=h
    subst e
    simp only [List.cons_append,IsDs]
    exact⟨v,_,rfl,h1,IsDs.app h2 k⟩
theorem IsDs.get {H:Hp}:∀ {ds:List Dat} {vs:List V} {j:Nat} {v:V},IsDs H ds vs->vs[j]? = some v->∃ d,ds[j]? = some d/\IsDt H d v
  | [],vs,j,v,h,k=>by simp only [IsDs] at h;subst h;simp at k
  | d::ds,vs,j,v,h,k=>by
    simp only [IsDs] at h
    obtain⟨v',r,e,h1,h2⟩:=h
    subst e
    cases j with
    | zero=>simp at k;subst k;exact⟨d,rfl,h1⟩
    | succ j=>simpa using IsDs.get h2 (j:=j) (by simpa using k)
theorem eqV_same {v:V}(h:flatV v=true):eqV v v=true:=by
  cases v<;>simp [eqV,flatV] at h ⊢
mutual
theorem eqD_same {H:Hp}:∀ {d e:Dat} {v:V},IsDt H d v->IsDt H e v->eqD d e=true
  | .fl x,.fl y,v,h,k=>by
    simp only [IsDt] at h k
    obtain⟨rfl,f⟩:=h
    obtain⟨rfl,_⟩:=k
    simp only [eqD]
    exact eqV_same f
  | .tp xs,.tp ys,v,h,k=>by
    simp only [IsDt] at h k
    obtain⟨a,vs,rfl,h1,h2⟩:=h
    obtain⟨b,us,e,k1,k2⟩:=k
    cases e
    rw [h1] at k1
    cases k1
    simp only [eqD]
    exact eqDs_same h2 k2
  | .ls xs,.ls ys,v,h,k=>by
    simp only [IsDt] at h k
    obtain⟨a,vs,rfl,h1,h2⟩:=h
    obtain⟨b,us,e,k1,k2⟩:=k
    cases e
    rw [h1] at k1
    cases k1
    simp only [eqD]
    exact eqDs_same h2 k2
  | .fl x,.tp ys,v,h,k=>by
    simp only [IsDt] at h k
    obtain⟨rfl,f⟩:=h
    obtain⟨b,us,rfl,k1,k2⟩:=k
    simp [flatV] at f
  | .fl x,.ls ys,v,h,k=>by
    simp only [IsDt] at h k
    obtain⟨rfl,f⟩:=h
    obtain⟨b,us,rfl,k1,k2⟩:=k
    simp [flatV] at f
  | .tp xs,.fl y,v,h,k=>by
    simp only [IsDt] at h k
    obtain⟨rfl,f⟩:=k
    obtain⟨b,us,rfl,k1,k2⟩:=h
    simp [flatV] at f
  | .ls xs,.fl y,v,h,k=>by
    simp only [IsDt] at h k
    obtain⟨rfl,f⟩:=k
    obtain⟨b,us,rfl,k1,k2⟩:=h
    simp [flatV] at f
  | .tp xs,.ls ys,v,h,k=>by
    simp only [IsDt] at h k
    obtain⟨a,vs,rfl,h1,h2⟩:=h
    obtain⟨b,us,e,k1,k2⟩:=k
    cases e
    rw [h1] at k1
    cases k1
  | .ls xs,.tp ys,v,h,k=>by
    simp only [IsDt] at h k
    obtain⟨a,vs,rfl,h1,h2⟩:=h
    obtain⟨b,us,e,k1,k2⟩:=k
    cases e
    rw [h1] at k1
    cases k1
theorem eqDs_same {H:Hp}:∀ {ds es:List Dat} {vs:List V},IsDs H ds vs->IsDs H es vs->eqDs ds es=true
  | [],[],_,_,_=>rfl
  | d::ds,e::es,vs,h,k=>by
    simp only [IsDs] at h k
    obtain⟨v,r,rfl,h1,h2⟩:=h
    obtain⟨v',r',e',k1,k2⟩:=k
    cases e'
    simp only [eqDs,Bool.and_eq_true]
    exact⟨eqD_same h1 k1,eqDs_same h2 k2⟩
  | [],e::es,vs,h,k=>by
    simp only [IsDs] at h k
    subst h
    obtain⟨v',r',e',k1,k2⟩:=k
    cases e'
  | d::ds,[],vs,h,k=>by
    simp only [IsDs] at h k
    subst k
    obtain⟨v',r',e',k1,k2⟩:=h
    cases e'
end
mutual
noncomputable def flatD:Dat->Bool
  | .fl v=>flatV v
  | .tp xs=>flatDs xs
  | .ls xs=>flatDs xs
noncomputable def flatDs:List Dat->Bool
  | []=>true
  | d::ds=>flatD d&&flatDs ds
end
mutual
theorem eqD_refl:∀ {d:Dat},flatD d=true->eqD d d=true
  | .fl v,h=>by simp only [eqD];exact eqV_same h
  | .tp xs,h=>by simp only [eqD];simp only [flatD] at h;exact eqDs_refl h
  | .ls xs,h=>by simp only [eqD];simp only [flatD] at h;exact eqDs_refl h
theorem eqDs_refl:∀ {ds:List Dat},flatDs ds=true->eqDs ds ds=true
  | [],_=>rfl
  | d::ds,h=>by
    simp only [flatDs,Bool.and_eq_true] at h
    simp only [eqDs,Bool.and_eq_true]
    exact⟨eqD_refl h.1,eqDs_refl h.2⟩
end
mutual
theorem IsDt.flat {H:Hp}:∀ {d:Dat} {v:V},IsDt H d v->flatD d=true
  | .fl x,v,h=>by simp only [IsDt] at h;simp only [flatD];exact h.2
  | .tp ds,v,h=>by
    simp only [IsDt] at h
    obtain⟨a,vs,e,h1,h2⟩:=h
    simp only [flatD]
    exact IsDs.flat h2
  | .ls ds,v,h=>by
    simp only [IsDt] at h
    obtain⟨a,vs,e,h1,h2⟩:=h
    simp only [flatD]
    exact IsDs.flat h2
theorem IsDs.flat {H:Hp}:∀ {ds:List Dat} {vs:List V},IsDs H ds vs->flatDs ds=true
  | [],vs,h=>rfl
  | d::ds,vs,h=>by
    simp only [IsDs] at h
    obtain⟨v,r,e,h1,h2⟩:=h
    simp only [flatDs,Bool.and_eq_true]
    exact⟨IsDt.flat h1,IsDs.flat h2⟩
end
theorem eqDs_len:∀ {ds es:List Dat},ds.length≠es.length->eqDs ds es=false
  | [],[],h=>absurd rfl h
  | d::ds,e::es,h=>by
    simp only [eqDs]
    rw [eqDs_len (ds:=ds) (es:=es) (by simpa using h),Bool.and_false]
  | [],_::_,_=>rfl
  | _::_,[],_=>rfl
noncomputable def dGet (ds:List Dat)(j:Nat):Dat:=ds.getD j (.fl .non)
theorem eqDs_all:∀ {ds es:List Dat},ds.length=es.length->(List.range ds.length).all (fun j=>eqD (dGet ds j) (dGet es j))=eqDs ds es
  | [],[],_=>rfl
  | d::ds,e::es,h=>by
    rw [List.length_cons,List.range_succ_eq_map,List.all_cons,List.all_map]
    simp only [eqDs]
    have:=eqDs_all (ds:=ds) (es:=es) (by simpa using h)
    rw [← this]
    rfl
  | [],_::_,h=>by simp at h
  | _::_,[],h=>by simp at h
theorem eqDs_tup {ds es:List Dat}{n m:Nat}(hn:n=ds.length)(hm:m=es.length):((List.range (min n m)).all (fun j=>eqD (dGet ds j) (dGet es j))&&n == m)=eqDs ds es:=by
  subst hn hm
  by_cases h:ds.length=es.length
  · rw [← h,Nat.min_self,beq_self_eq_true,Bool.and_true]
    exact eqDs_all h
  · rw [eqDs_len h,beq_eq_false_iff_ne.mpr h,Bool.and_false]
section
variable {X:Cx} {pins:List (Addr×Obj)} {σ:L2.St} {H:Hp} {s:Shared}
theorem tup_at (I:Inv X pins σ H s){a:Addr}{vs:List V}(h:H a=some (.tup vs)):∃ its:List Value,Vals vs its/\s.heap.IsTuple a its.toArray:=by
  obtain⟨its,r,p,_⟩:=I.tuple (SqT.of h)
  exact⟨its,r,p⟩
theorem lst_at (I:Inv X pins σ H s){a:Addr}{vs:List V}(h:H a=some (.lst vs)):∃ its:List Value,Vals vs its/\s.heap.IsList a its.toArray:=by
  obtain⟨its,r,p,_⟩:=I.list (SqL.of h)
  exact⟨its,r,p.isList⟩
mutual
theorem eqD_at (I:Inv X pins σ H s):∀ (d e:Dat) (A:Around) (x y:V) (u w:Value),A.units+depD d<cLine->IsDt H d x->IsDt H e y->RelV x u->RelV y w->SeqAt.EqAt A s u w (eqD d e)
  | .fl x,.fl y,A,x',y',u,w,hu,h,k,ru,rw'=>by
    simp only [IsDt] at h k
    obtain⟨rfl,f⟩:=h
    obtain⟨rfl,g⟩:=k
    simp only [eqD]
    exact eqAt_V ru rw' f g
  | .tp ds,.tp es,A,x,y,u,w,hu,h,k,ru,rw'=>by
    have hh:=h
    have kk:=k
    simp only [IsDt] at h k
    obtain⟨a,vs,rfl,h1,h2⟩:=h
    obtain⟨b,us,rfl,k1,k2⟩:=k
    cases ru
    cases rw'
    by_cases hab:a=b
    · subst hab
      rw [eqD_same hh kk]
      exact SeqAt.EqAt.same _
    obtain⟨i1,r1,p1⟩:=tup_at I h1
    obtain⟨i2,r2,p2⟩:=tup_at I k1
    simp only [depD] at hu
    refine SeqAt.EqAt.of_refs hab ?_
    have:=SeqAt.RcAt.tuples (A:=A) (e:=fun j=>eqD (dGet ds j) (dGet es j)) p1 p2 (by lia) (eqDs_at I ds es A.in1 vs us i1 i2 (by show A.units+1+_<_;lia) h2 k2 r1 r2)
    rw [eqDs_tup (by rw [List.size_toArray,← r1.length,h2.len]) (by rw [List.size_toArray,← r2.length,k2.len])] at this
    simp only [eqD]
    exact this
  | .ls ds,.ls es,A,x,y,u,w,hu,h,k,ru,rw'=>by
    have hh:=h
    have kk:=k
    simp only [IsDt] at h k
    obtain⟨a,vs,rfl,h1,h2⟩:=h
    obtain⟨b,us,rfl,k1,k2⟩:=k
    cases ru
    cases rw'
    by_cases hab:a=b
    · subst hab
      rw [eqD_same hh kk]
      exact SeqAt.EqAt.same _
    obtain⟨i1,r1,p1⟩:=lst_at I h1
    obtain⟨i2,r2,p2⟩:=lst_at I k1
    have l1:=r1.length
    have l2:=r2.length
    have l3:=h2.len
    have l4:=k2.len
    simp only [depD] at hu
    refine SeqAt.EqAt.of_refs hab ?_
    simp only [eqD]
    by_cases hl:ds.length=es.length
    · have:=SeqAt.RcAt.lists (A:=A) (e:=fun j=>eqD (dGet ds j) (dGet es j)) p1 p2 (by simp;lia) (by lia) (eqDs_at I ds es A.in1 vs us i1 i2 (by show A.units+1+_<_;lia) h2 k2 r1 r2)
      rw [List.size_toArray,← l1,← l3,eqDs_all hl] at this
      exact this
    · rw [eqDs_len hl]
      exact SeqAt.RcAt.lists_lengths p1 p2 (by simp;lia) (by lia)
  | .fl x,.tp es,A,x',y,u,w,hu,h,k,ru,rw'=>by
    simp only [IsDt] at h k
    obtain⟨rfl,f⟩:=h
    obtain⟨b,us,rfl,k1,k2⟩:=k
    cases rw'
    obtain⟨i2,r2,p2⟩:=tup_at I k1
    simp only [eqD]
    have hu:A.units<cLine:=by lia
    cases x' with
    | non=>cases ru;exact SeqAt.EqAt.none_tuple p2 hu
    | bl z=>cases ru;exact SeqAt.EqAt.bool_tuple z p2 hu
    | int z=>obtain⟨t,rfl⟩:=ru;exact SeqAt.EqAt.int_tuple z t p2 hu
    | str z=>obtain⟨t,rfl⟩:=ru;exact SeqAt.EqAt.str_tuple z t p2 hu
    | byt z=>simp [flatV] at f
    | flt z=>simp [flatV] at f
    | ref z=>simp [flatV] at f
    | ty z=>simp [flatV] at f
  | .fl x,.ls es,A,x',y,u,w,hu,h,k,ru,rw'=>by
    simp only [IsDt] at h k
    obtain⟨rfl,f⟩:=h
    obtain⟨b,us,rfl,k1,k2⟩:=k
    cases rw'
    obtain⟨i2,r2,p2⟩:=lst_at I k1
    simp only [eqD]
    have hu:A.units<cLine:=by lia
    cases x' with
    | non=>cases ru;exact SeqAt.EqAt.none_list p2 hu
    | bl z=>cases ru;exact SeqAt.EqAt.bool_list z p2 hu
    | int z=>obtain⟨t,rfl⟩:=ru;exact SeqAt.EqAt.int_list z t p2 hu
    | str z=>obtain⟨t,rfl⟩:=ru;exact SeqAt.EqAt.str_list z t p2 hu
    | byt z=>simp [flatV] at f
    | flt z=>simp [flatV] at f
    | ref z=>simp [flatV] at f
    | ty z=>simp [flatV] at f
  | .tp ds,.fl y,A,x,y',u,w,hu,h,k,ru,rw'=>by
    simp only [IsDt] at h k
    obtain⟨rfl,f⟩:=k
    obtain⟨b,us,rfl,k1,k2⟩:=h
    cases ru
    obtain⟨i2,r2,p2⟩:=tup_at I k1
    simp only [eqD]
    have hu:A.units<cLine:=by lia
    cases y' with
    | non=>cases rw';exact SeqAt.EqAt.tuple_none p2 hu
    | bl z=>cases rw';exact SeqAt.EqAt.tuple_bool z p2 hu
    | int z=>obtain⟨t,rfl⟩:=rw';exact SeqAt.EqAt.tuple_int z t p2 hu
    | str z=>obtain⟨t,rfl⟩:=rw';exact SeqAt.EqAt.tuple_str z t p2 hu
    | byt z=>simp [flatV] at f
    | flt z=>simp [flatV] at f
    | ref z=>simp [flatV] at f
    | ty z=>simp [flatV] at f
  | .ls ds,.fl y,A,x,y',u,w,hu,h,k,ru,rw'=>by
    simp only [IsDt] at h k
    obtain⟨rfl,f⟩:=k
    obtain⟨b,us,rfl,k1,k2⟩:=h
    cases ru
    obtain⟨i2,r2,p2⟩:=lst_at I k1
    simp only [eqD]
    have hu:A.units<cLine:=by lia
    cases y' with
    | non=>cases rw';exact SeqAt.EqAt.list_none p2 hu
    | bl z=>cases rw';exact SeqAt.EqAt.list_bool z p2 hu
    | int z=>obtain⟨t,rfl⟩:=rw';exact SeqAt.EqAt.list_int z t p2 hu
    | str z=>obtain⟨t,rfl⟩:=rw';exact SeqAt.EqAt.list_str z t p2 hu
    | byt z=>simp [flatV] at f
    | flt z=>simp [flatV] at f
    | ref z=>simp [flatV] at f
    | ty z=>simp [flatV] at f
  | .tp ds,.ls es,A,x,y,u,w,hu,h,k,ru,rw'=>by
    simp only [IsDt] at h k
    obtain⟨a,vs,rfl,h1,h2⟩:=h
    obtain⟨b,us,rfl,k1,k2⟩:=k
    cases ru
    cases rw'
    obtain⟨i1,r1,p1⟩:=tup_at I h1
    obtain⟨i2,r2,p2⟩:=lst_at I k1
    simp only [eqD]
    exact SeqAt.EqAt.tuple_list p1 p2 (by lia)
  | .ls ds,.tp es,A,x,y,u,w,hu,h,k,ru,rw'=>by
    simp only [IsDt] at h k
    obtain⟨a,vs,rfl,h1,h2⟩:=h
    obtain⟨b,us,rfl,k1,k2⟩:=k
    cases ru
    cases rw'
    obtain⟨i1,r1,p1⟩:=lst_at I h1
    obtain⟨i2,r2,p2⟩:=tup_at I k1
    simp only [eqD]
    exact SeqAt.EqAt.list_tuple p1 p2 (by lia)
theorem eqDs_at (I:Inv X pins σ H s):∀ (ds es:List Dat) (A:Around) (xs ys:List V) (us ws:List Value),A.units+depDs ds<cLine->IsDs H ds xs->IsDs H es ys->Vals xs us->Vals ys ws ->
    ∀ j (h1:j<us.toArray.size) (h2:j<ws.toArray.size),SeqAt.EqAt A s us.toArray[j] ws.toArray[j] (eqD (dGet ds j) (dGet es j))
  | [],es,A,xs,ys,us,ws,hu,h,k,ru,rw',j,h1,h2=>by
    simp only [IsDs] at h
    subst h
    have:=ru.length
    rw [List.size_toArray] at h1
    simp at this
    lia
  | d::ds,[],A,xs,ys,us,ws,hu,h,k,ru,rw',j,h1,h2=>by
    simp only [IsDs] at k
    subst k
    have:=rw'.length
    rw [List.size_toArray] at h2
    simp at this
    lia
  | d::ds,e::es,A,xs,ys,us,ws,hu,h,k,ru,rw',j,h1,h2=>by
    simp only [IsDs] at h k
    obtain⟨v,r,rfl,a1,a2⟩:=h
    obtain⟨v',r',rfl,b1,b2⟩:=k
    simp only [depDs] at hu
    cases ru with
    | cons q1 q2=>
      cases rw' with
      | cons q3 q4=>
        cases j with
        | zero=>exact eqD_at I d e A _ _ _ _ (by omega) a1 b1 q1 q3
        | succ j=>
          have:=eqDs_at I ds es A _ _ _ _ (by lia) a2 b2 q2 q4 j (by simpa using h1) (by simpa using h2)
          simpa [dGet] using this
end
end
section
variable {X:Cx}
noncomputable def rEqD:R2:=fun x y H Q=>∃ d e a b,x=.ref a/\y=.ref b/\IsDt H d (.ref a)/\IsDt H e (.ref b)/\depD d<=50/\Q (.bl (eqD d e)) H
noncomputable def rNeD:R2:=fun x y H Q=>∃ d e a b,x=.ref a/\y=.ref b/\IsDt H d (.ref a)/\IsDt H e (.ref b)/\depD d<=50/\Q (.bl (!eqD d e)) H
theorem op_eqD (hu:X.A.units+64<cLine):OpR X (compareOp .Eq) rEqD:=by
  intro pins s σ H x y v u Q I rx ry h
  obtain⟨d,e,a,b,rfl,rfl,h,k,hd,q⟩:=h
  cases rx
  cases ry
  match d,e,h,k,hd,q with
  | .tp ds,.tp es,h,k,hd,q=>
    simp only [IsDt] at h k
    obtain⟨_,vs,e1,h1,h2⟩:=h
    obtain⟨_,us,e2,k1,k2⟩:=k
    cases e1
    cases e2
    obtain⟨i1,r1,p1⟩:=tup_at I h1
    obtain⟨i2,r2,p2⟩:=tup_at I k1
    simp only [depD] at hd
    refine SeqAt.eq_tupleAt (e:=fun j=>eqD (dGet ds j) (dGet es j)) p1 p2 (by lia) (eqDs_at I ds es X.A.in1 vs us i1 i2 (by show X.A.units+1+_<_;lia) h2 k2 r1 r2) ⟨.bl _,H,I,rfl,?_⟩
    rw [eqDs_tup (by rw [List.size_toArray,← r1.length,h2.len]) (by rw [List.size_toArray,← r2.length,k2.len])]
    exact q
  | .ls ds,.ls es,h,k,hd,q=>
    simp only [IsDt] at h k
    obtain⟨_,vs,e1,h1,h2⟩:=h
    obtain⟨_,us,e2,k1,k2⟩:=k
    cases e1
    cases e2
    obtain⟨i1,r1,p1⟩:=lst_at I h1
    obtain⟨i2,r2,p2⟩:=lst_at I k1
    have l1:=r1.length
    have l2:=r2.length
    have l3:=h2.len
    have l4:=k2.len
    simp only [depD] at hd
    by_cases hl:ds.length=es.length
    · refine SeqAt.eq_listAt (e:=fun j=>eqD (dGet ds j) (dGet es j)) p1 p2 (by simp;lia) (by lia) (eqDs_at I ds es X.A.in1 vs us i1 i2 (by show X.A.units+1+_<_;lia) h2 k2 r1 r2) ⟨.bl _,H,I,rfl,?_⟩
      rw [List.size_toArray,← l1,← l3,eqDs_all hl]
      exact q
    · refine SeqAt.eq_list_lengthsAt p1 p2 (by simp;lia) (by lia) ⟨.bl _,H,I,rfl,?_⟩
      simp only [eqD] at q
      rw [eqDs_len hl] at q
      exact q
  | .tp ds,.ls es,h,k,hd,q=>
    simp only [IsDt] at h k
    obtain⟨_,vs,e1,h1,h2⟩:=h
    obtain⟨_,us,e2,k1,k2⟩:=k
    cases e1
    cases e2
    obtain⟨i1,r1,p1⟩:=tup_at I h1
    obtain⟨i2,r2,p2⟩:=lst_at I k1
    exact SeqAt.RcAt.tuple_list p1 p2 (by lia) _ _ _ _ ⟨.bl _,H,I,rfl,q⟩
  | .ls ds,.tp es,h,k,hd,q=>
    simp only [IsDt] at h k
    obtain⟨_,vs,e1,h1,h2⟩:=h
    obtain⟨_,us,e2,k1,k2⟩:=k
    cases e1
    cases e2
    obtain⟨i1,r1,p1⟩:=lst_at I h1
    obtain⟨i2,r2,p2⟩:=tup_at I k1
    exact SeqAt.RcAt.list_tuple p1 p2 (by lia) _ _ _ _ ⟨.bl _,H,I,rfl,q⟩
  | .fl x,e,h,k,hd,q=>simp only [IsDt] at h;obtain⟨rfl,f⟩:=h;simp [flatV] at f
  | .tp ds,.fl x,h,k,hd,q=>simp only [IsDt] at k;obtain⟨rfl,f⟩:=k;simp [flatV] at f
  | .ls ds,.fl x,h,k,hd,q=>simp only [IsDt] at k;obtain⟨rfl,f⟩:=k;simp [flatV] at f
theorem op_neD (hu:X.A.units+64<cLine):OpR X (compareOp .NotEq) rNeD:=by
  intro pins s σ H x y v u Q I rx ry h
  obtain⟨d,e,a,b,rfl,rfl,h,k,hd,q⟩:=h
  cases rx
  cases ry
  match d,e,h,k,hd,q with
  | .tp ds,.tp es,h,k,hd,q=>
    simp only [IsDt] at h k
    obtain⟨_,vs,e1,h1,h2⟩:=h
    obtain⟨_,us,e2,k1,k2⟩:=k
    cases e1
    cases e2
    obtain⟨i1,r1,p1⟩:=tup_at I h1
    obtain⟨i2,r2,p2⟩:=tup_at I k1
    simp only [depD] at hd
    refine SeqAt.RcNeAt.tuples (e:=fun j=>eqD (dGet ds j) (dGet es j)) p1 p2 (by lia) (eqDs_at I ds es X.A.in1 vs us i1 i2 (by show X.A.units+1+_<_;lia) h2 k2 r1 r2) _ _ _ _ ⟨.bl _,H,I,rfl,?_⟩
    rw [eqDs_tup (by rw [List.size_toArray,← r1.length,h2.len]) (by rw [List.size_toArray,← r2.length,k2.len])]
    exact q
  | .ls ds,.ls es,h,k,hd,q=>
    simp only [IsDt] at h k
    obtain⟨_,vs,e1,h1,h2⟩:=h
    obtain⟨_,us,e2,k1,k2⟩:=k
    cases e1
    cases e2
    obtain⟨i1,r1,p1⟩:=lst_at I h1
    obtain⟨i2,r2,p2⟩:=lst_at I k1
    have l1:=r1.length
    have l2:=r2.length
    have l3:=h2.len
    have l4:=k2.len
    simp only [depD] at hd
    by_cases hl:ds.length=es.length
    · refine SeqAt.RcNeAt.lists (e:=fun j=>eqD (dGet ds j) (dGet es j)) p1 p2 (by simp;lia) (by lia) (eqDs_at I ds es X.A.in1 vs us i1 i2 (by show X.A.units+1+_<_;lia) h2 k2 r1 r2) _ _ _ _ ⟨.bl _,H,I,rfl,?_⟩
      rw [List.size_toArray,← l1,← l3,eqDs_all hl]
      exact q
    · refine SeqAt.RcNeAt.lists_lengths p1 p2 (by simp;lia) (by lia) _ _ _ _ ⟨.bl _,H,I,rfl,?_⟩
      simp only [eqD] at q
      rw [eqDs_len hl] at q
      exact q
  | .tp ds,.ls es,h,k,hd,q=>
    simp only [IsDt] at h k
    obtain⟨_,vs,e1,h1,h2⟩:=h
    obtain⟨_,us,e2,k1,k2⟩:=k
    cases e1
    cases e2
    obtain⟨i1,r1,p1⟩:=tup_at I h1
    obtain⟨i2,r2,p2⟩:=lst_at I k1
    exact SeqAt.RcNeAt.tuple_list p1 p2 (by lia) _ _ _ _ ⟨.bl _,H,I,rfl,q⟩
  | .ls ds,.tp es,h,k,hd,q=>
    simp only [IsDt] at h k
    obtain⟨_,vs,e1,h1,h2⟩:=h
    obtain⟨_,us,e2,k1,k2⟩:=k
    cases e1
    cases e2
    obtain⟨i1,r1,p1⟩:=lst_at I h1
    obtain⟨i2,r2,p2⟩:=tup_at I k1
    exact SeqAt.RcNeAt.list_tuple p1 p2 (by lia) _ _ _ _ ⟨.bl _,H,I,rfl,q⟩
  | .fl x,e,h,k,hd,q=>simp only [IsDt] at h;obtain⟨rfl,f⟩:=h;simp [flatV] at f
  | .tp ds,.fl x,h,k,hd,q=>simp only [IsDt] at k;obtain⟨rfl,f⟩:=k;simp [flatV] at f
  | .ls ds,.fl x,h,k,hd,q=>simp only [IsDt] at k;obtain⟨rfl,f⟩:=k;simp [flatV] at f
end
end L2
namespace L2
open PySem PySem.Spec PySem.Calls PyProof.Rows PySem.W
noncomputable abbrev Tx:=List Nat
noncomputable def tx (x:Tx):V:=.str (S x)
noncomputable abbrev ft (x:Tx):Dat:=.fl (.str (S x))
structure MS where
  mode:Tx
  word:Tx
  opens:List Tx
  talk:Tx
noncomputable abbrev Ev:=List Tx
noncomputable abbrev Ans:=Option (MS×List Ev)
noncomputable abbrev mText:Tx:=[116,101,120,116]
noncomputable abbrev mMark:Tx:=[109,97,114,107]
noncomputable abbrev mOpen:Tx:=[111,112,101,110]
noncomputable abbrev mName:Tx:=[110,97,109,101]
noncomputable abbrev mSlash:Tx:=[115,108,97,115,104]
noncomputable abbrev mShut:Tx:=[115,104,117,116]
noncomputable abbrev mGap:Tx:=[103,97,112]
noncomputable abbrev mAttr:Tx:=[97,116,116,114]
noncomputable abbrev mIs:Tx:=[105,115]
noncomputable abbrev mBang:Tx:=[98,97,110,103]
noncomputable abbrev mBare:Tx:=[98,97,114,101]
noncomputable abbrev mCode:Tx:=[99,111,100,101]
noncomputable abbrev mRow:Tx:=[114,111,119]
noncomputable abbrev mStroke:Tx:=[115,116,114,111,107,101]
noncomputable abbrev mQuoted:Tx:=[113,117,111,116,101,100]
noncomputable abbrev mQmark:Tx:=[113,109,97,114,107]
noncomputable abbrev mDone:Tx:=[100,111,110,101]
noncomputable abbrev mTalk:Tx:=[116,97,108,107]
noncomputable abbrev mTmark:Tx:=[116,109,97,114,107]
noncomputable abbrev mAsis:Tx:=[97,115,105,115]
noncomputable abbrev eBox:Tx:=[98,111,120]
noncomputable abbrev eAttr:Tx:=[97,116,116,114]
noncomputable abbrev eIn:Tx:=[105,110]
noncomputable abbrev eSign:Tx:=[115,105,103,110]
noncomputable abbrev eNext:Tx:=[110,101,120,116]
noncomputable abbrev eWord:Tx:=[119,111,114,100]
noncomputable abbrev eSaid:Tx:=[115,97,105,100]
noncomputable abbrev eOut:Tx:=[111,117,116]
noncomputable abbrev tBetween:Tx:=[98,101,116,119,101,101,110]
noncomputable abbrev tWord:Tx:=[119,111,114,100]
noncomputable abbrev tSaid:Tx:=[115,97,105,100]
noncomputable abbrev tStroke:Tx:=[115,116,114,111,107,101]
noncomputable abbrev asisEnd:Tx:=[60,47,97,115,105,115,62]
noncomputable abbrev lt:Tx:=[97,98,99,100,101,102,103,104,105,106,107,108,109,110,111,112,113,114,115,116,117,118,119,120,121,122]
noncomputable def comeTo (m:Tx)(op:List Tx)(es:List Ev):Ans:=some (⟨m,[],op,[]⟩,es)
noncomputable def toldM (m:Tx)(op:List Tx):Option Nat->Ans
  | none=>none
  | some c=>comeTo m op [[eSign,[c]]]
noncomputable def gath (m w:Tx)(op:List Tx)(t:Tx)(n:Nat):Ans:=if n<w.length then none else some (⟨m,w,op,t⟩,[])
noncomputable def boxShut (op:List Tx)(es:List Ev):Ans:=if op=[] then none else comeTo mText op.dropLast (es++[[eOut]])
noncomputable def intoBox (op:List Tx)(es:List Ev):Ans:=if op=[] then none else comeTo (if op.getLast? = some mAsis then mAsis else mText) op (es++[[eIn]])
noncomputable def ledOn (op:List Tx)(c:Nat)(es:List Ev):Ans:=if c=32 then comeTo mGap op es else if c=47 then comeTo mSlash op es else if c=62 then intoBox op es else none
noncomputable def fedB (c:Nat):Option (Tx×List Ev):=if c=32 then some (tBetween,[]) else if c=39 then some (tSaid,[[eSaid]]) else if c∈ws then some (tWord,[[eWord],[eSign,[c]]]) else none
noncomputable def fedW (c:Nat):Option (Tx×List Ev):=if c∈ws then some (tWord,[[eSign,[c]]]) else fedB c
noncomputable def fedS (c:Nat):Option (Tx×List Ev):=if c=39 then some (tBetween,[]) else if c=92 then some (tStroke,[]) else some (tSaid,[[eSign,[c]]])
noncomputable def feedM (t:Tx)(c:Nat):Option (Tx×List Ev):=if t=tBetween then fedB c else if t=tWord then fedW c else if t=tSaid then fedS c else if t=tStroke then some (tSaid,[[eSign,[c]]]) else none
noncomputable def fedM (op:List Tx)(t:Tx)(c:Option Nat):Ans:=match c with
  | none=>none
  | some c=>match feedM t c with
    | none=>none
    | some (t',es)=>some (⟨mTalk,[],op,t'⟩,es)
noncomputable def mkEnd (w:Tx)(c:Nat):Option Nat:=if c=59 then L2.told w else none
noncomputable abbrev AtF:=Tx->List Tx->Tx->Nat->Ans
noncomputable def aText:AtF:=fun _ op _ c=>if c=60 then comeTo mOpen op [] else if c=38 then comeTo mMark op [] else toldM mText op (some c)
noncomputable def aMark:AtF:=fun w op _ c=>if c∈fg then gath mMark (w++[c]) op [] 2 else toldM mText op (mkEnd w c)
noncomputable def aOpen:AtF:=fun _ op _ c=>if c=47 then comeTo mShut op [] else if c∈lt then gath mName [c] op [] 8 else none
noncomputable def aName:AtF:=fun w op _ c=>if c∈lt then gath mName (w++[c]) op [] 8 else ledOn (op++[w]) c [[eBox,w]]
noncomputable def aSlash:AtF:=fun _ op _ c=>if c=62 then boxShut op [[eIn]] else none
noncomputable def aShut:AtF:=fun w op _ c=>if c∈lt then gath mShut (w++[c]) op [] 8 else if c=62/\op.getLast? = some w then boxShut op [] else none
noncomputable def aGap:AtF:=fun _ op _ c=>if c∈lt then gath mAttr [c] op [] 8 else none
noncomputable def aAttr:AtF:=fun w op _ c=>if c∈lt then gath mAttr (w++[c]) op [] 8 else if c=58 then comeTo mBare op [[eAttr,w,mBare]] else if c=40 then comeTo mRow op [[eAttr,w,mRow]]
  else if c=61 then some (⟨mIs,w,op,[]⟩,[]) else if c=33 then some (⟨mBang,w,op,[]⟩,[]) else none
noncomputable def aIs:AtF:=fun w op _ c=>if c=34 then comeTo mQuoted op [[eAttr,w,mQuoted]] else none
noncomputable def aBang:AtF:=fun w op _ c=>if c=34 then some (⟨mTalk,[],op,tBetween⟩,[[eAttr,w,mTalk]]) else none
noncomputable def aBare:AtF:=fun _ op _ c=>if c∈ws then toldM mBare op (some c) else if c=126 then comeTo mCode op [] else ledOn op c []
noncomputable def aCode:AtF:=fun w op _ c=>if w=[] then(if c∈fg then some (⟨mCode,[c],op,[]⟩,[]) else none) else toldM mBare op (L2.told (w++[c]))
noncomputable def aRow:AtF:=fun _ op _ c=>if c=92 then comeTo mStroke op [] else if c=44 then comeTo mRow op [[eNext]] else if c=41 then comeTo mDone op [] else toldM mRow op (some c)
noncomputable def aStroke:AtF:=fun _ op _ c=>toldM mRow op (some c)
noncomputable def aQuoted:AtF:=fun _ op _ c=>if c=34 then comeTo mDone op [] else if c=38 then comeTo mQmark op [] else toldM mQuoted op (some c)
noncomputable def aQmark:AtF:=fun w op _ c=>if c∈fg then gath mQmark (w++[c]) op [] 2 else toldM mQuoted op (mkEnd w c)
noncomputable def aDone:AtF:=fun _ op _ c=>ledOn op c []
noncomputable def aTalk:AtF:=fun _ op t c=>if c=38 then some (⟨mTmark,[],op,t⟩,[]) else if c=34 then(if t=tBetween\/t=tWord then comeTo mDone op [] else none) else fedM op t (some c)
noncomputable def aTmark:AtF:=fun w op t c=>if c∈fg then gath mTmark (w++[c]) op t 2 else fedM op t (mkEnd w c)
noncomputable def aAsis:AtF:=fun w op _ c=>if w++[c]=asisEnd then boxShut op [] else if (w++[c]).isPrefixOf asisEnd then some (⟨mAsis,w++[c],op,[]⟩,[])
  else if c=60 then some (⟨mAsis,[c],op,[]⟩,w.map fun k=>[eSign,[k]]) else comeTo mAsis op ((w.map fun k=>[eSign,[k]])++[[eSign,[c]]])
noncomputable def atTab:List (Tx×AtF):=[(mText,aText),(mMark,aMark),(mOpen,aOpen),(mName,aName),(mSlash,aSlash),(mShut,aShut),(mGap,aGap),(mAttr,aAttr),(mIs,aIs),(mBang,aBang),(mBare,aBare),(mCode,aCode),(mRow,aRow),(mStroke,aStroke),(mQuoted,aQuoted),(mQmark,aQmark),(mDone,aDone),(mTalk,aTalk),(mTmark,aTmark),(mAsis,aAsis)]
noncomputable def stepM (s:MS)(c:Nat):Ans:=match atTab.lookup s.mode with
  | none=>none
  | some f=>f s.word s.opens s.talk c
noncomputable def dS (s:MS):Dat:=.tp [ft s.mode,ft s.word,.tp (s.opens.map ft),ft s.talk]
noncomputable def dE (e:Ev):Dat:=.tp (e.map ft)
noncomputable def dEs (es:List Ev):Dat:=.ls (es.map dE)
def OpV (H:Hp)(a:Addr)(op:List Tx):Prop:=H a=some (.tup (op.map tx))
def StV (H:Hp)(v:V)(s:MS):Prop:=∃ p o,v=.ref p/\H p=some (.tup [tx s.mode,tx s.word,.ref o,tx s.talk])/\OpV H o s.opens
def EvV (H:Hp)(v:V)(e:Ev):Prop:=∃ a,v=.ref a/\H a=some (.tup (e.map tx))
inductive EvA (H:Hp):List V->List Ev->Prop
  | nil:EvA H [] []
  | cons {v:V} {e:Ev} {vs:List V} {es:List Ev}:EvV H v e->EvA H vs es->EvA H (v::vs) (e::es)
def EvL (H:Hp)(a:Addr)(es:List Ev):Prop:=∃ vs,H a=some (.lst vs)/\EvA H vs es
noncomputable def AnV (G:Addr->Prop)(H:Hp)(v:V):Ans->Prop
  | none=>v=.non
  | some (s,es)=>∃ p sa ea,v=.ref p/\H p=some (.tup [sa,.ref ea])/\StV H sa s/\EvL H ea es/\G ea
theorem OpV.mono {H H':Hp}{a:Addr}{op:List Tx}(h:OpV H a op)(g:Same H H'):OpV H' a op:=g _ _ h
theorem StV.mono {H H':Hp}{v:V}{s:MS}(h:StV H v s)(g:Same H H'):StV H' v s:=by
  obtain⟨p,o,e,h1,h2⟩:=h
  exact⟨p,o,e,g _ _ h1,h2.mono g⟩
theorem EvV.mono {H H':Hp}{v:V}{e:Ev}(h:EvV H v e)(g:Same H H'):EvV H' v e:=by
  obtain⟨a,e1,h1⟩:=h
  exact⟨a,e1,g _ _ h1⟩
theorem EvA.mono {H H':Hp}{vs:List V}{es:List Ev}(h:EvA H vs es)(g:Same H H'):EvA H' vs es:=by
  induction h with
  | nil=>exact .nil
  | cons h1 h2 ih=>exact .cons (h1.mono g) ih
theorem EvL.mono {H H':Hp}{a:Addr}{es:List Ev}(h:EvL H a es)(g:Same H H'):EvL H' a es:=by
  obtain⟨vs,h1,h2⟩:=h
  exact⟨vs,g _ _ h1,h2.mono g⟩
theorem AnV.mono {G:Addr->Prop}{H H':Hp}{v:V}{r:Ans}(h:AnV G H v r)(g:Same H H'):AnV G H' v r:=by
  cases r with
  | none=>exact h
  | some x=>
    obtain⟨s,es⟩:=x
    obtain⟨p,sa,ea,e1,h1,h2,h3,h4⟩:=h
    exact⟨p,sa,ea,e1,g _ _ h1,h2.mono g,h3.mono g,h4⟩
theorem AnV.imp {G G':Addr->Prop}{H:Hp}{v:V}{r:Ans}(h:AnV G H v r)(k:∀ a,G a->G' a):AnV G' H v r:=by
  cases r with
  | none=>exact h
  | some x=>
    obtain⟨s,es⟩:=x
    obtain⟨p,sa,ea,e1,h1,h2,h3,h4⟩:=h
    exact⟨p,sa,ea,e1,h1,h2,h3,k _ h4⟩
theorem EvA.app {H:Hp}{vs us:List V}{es fs:List Ev}(h:EvA H vs es)(k:EvA H us fs):EvA H (vs++us) (es++fs):=by
  induction h with
  | nil=>exact k
  | cons h1 h2 ih=>exact .cons h1 ih
theorem EvA.len {H:Hp}{vs:List V}{es:List Ev}(h:EvA H vs es):vs.length=es.length:=by
  induction h with
  | nil=>rfl
  | cons h1 h2 ih=>rw [List.length_cons,List.length_cons,ih]
theorem isDs_txs {H:Hp}:∀ (l:List Tx),IsDs H (l.map ft) (l.map tx)
  | []=>by simp only [List.map_nil,IsDs]
  | x::l=>by
    simp only [List.map_cons,IsDs]
    exact⟨_,_,rfl,by simp only [IsDt];exact⟨rfl,rfl⟩,isDs_txs l⟩
theorem StV.dat {H:Hp}{v:V}{s:MS}(h:StV H v s):IsDt H (dS s) v:=by
  obtain⟨p,o,e,h1,h2⟩:=h
  unfold dS
  simp only [IsDt,IsDs]
  refine⟨p,_,e,h1,_,_,rfl,⟨rfl,rfl⟩,_,_,rfl,⟨rfl,rfl⟩,_,_,rfl,⟨o,_,rfl,h2,isDs_txs _⟩,_,_,rfl,⟨rfl,rfl⟩,rfl⟩
theorem EvV.dat {H:Hp}{v:V}{e:Ev}(h:EvV H v e):IsDt H (dE e) v:=by
  obtain⟨a,e1,h1⟩:=h
  unfold dE
  simp only [IsDt]
  exact⟨a,_,e1,h1,isDs_txs _⟩
theorem EvA.dat {H:Hp}{vs:List V}{es:List Ev}(h:EvA H vs es):IsDs H (es.map dE) vs:=by
  induction h with
  | nil=>simp only [List.map_nil,IsDs]
  | cons h1 h2 ih=>
    simp only [List.map_cons,IsDs]
    exact⟨_,_,rfl,h1.dat,ih⟩
theorem EvL.dat {H:Hp}{a:Addr}{es:List Ev}(h:EvL H a es):IsDt H (dEs es) (.ref a):=by
  obtain⟨vs,h1,h2⟩:=h
  unfold dEs
  simp only [IsDt]
  exact⟨a,_,rfl,h1,h2.dat⟩
end L2
namespace L2
open PySem PySem.Spec PySem.Calls PyProof.Rows PySem.W
theorem an_of {G:Addr->Prop}{H:Hp}{p p1 oa ea:Addr}{m w t:Tx}{op:List Tx}{es:List Ev}(hp:H p=none)(hp1:upd H p (.tup [.str (S m),.str (S w),.ref oa,.str (S t)]) p1=none)(ho:OpV H oa op)(he:EvL H ea es)(hg:G ea) :
    Same H (upd (upd H p (.tup [.str (S m),.str (S w),.ref oa,.str (S t)])) p1 (.tup [.ref p,.ref ea]))/\AnV G (upd (upd H p (.tup [.str (S m),.str (S w),.ref oa,.str (S t)])) p1 (.tup [.ref p,.ref ea])) (.ref p1) (some (⟨m,w,op,t⟩,es)):=by
  have g1:Same H (upd H p (.tup [.str (S m),.str (S w),.ref oa,.str (S t)])):=same_upd hp
  have g2:=same_upd (o:=.tup [.ref p,.ref ea]) hp1
  refine⟨g1.trans g2,p1,.ref p,ea,rfl,upd_same,⟨p,oa,rfl,g2 _ _ upd_same,ho.mono (g1.trans g2)⟩,he.mono (g1.trans g2),hg⟩
theorem evl0 {H:Hp}{q:Addr}:EvL (upd H q (.lst [])) q []:=⟨[],upd_same,.nil⟩
theorem evl1 {H:Hp}{p q:Addr}{e:Ev}(hq:upd H p (.tup (e.map tx)) q=none):EvL (upd (upd H p (.tup (e.map tx))) q (.lst [.ref p])) q [e]:=
  ⟨_,upd_same,.cons ⟨p,rfl,same_upd hq _ _ upd_same⟩ .nil⟩
noncomputable def TkV (G:Addr->Prop)(H:Hp)(v:V):Option (Tx×List Ev)->Prop
  | none=>v=.non
  | some (t,es)=>∃ p ea,v=.ref p/\H p=some (.tup [tx t,.ref ea])/\EvL H ea es/\G ea
theorem TkV.mono {G:Addr->Prop}{H H':Hp}{v:V}{r:Option (Tx×List Ev)}(h:TkV G H v r)(g:Same H H'):TkV G H' v r:=by
  cases r with
  | none=>exact h
  | some x=>
    obtain⟨s,es⟩:=x
    obtain⟨p,ea,e1,h1,h2,h3⟩:=h
    exact⟨p,ea,e1,g _ _ h1,h2.mono g,h3⟩
theorem tk_of {G:Addr->Prop}{H:Hp}{p ea:Addr}{t:Tx}{es:List Ev}(hp:H p=none)(he:EvL H ea es)(hg:G ea):Same H (upd H p (.tup [.str (S t),.ref ea]))/\TkV G (upd H p (.tup [.str (S t),.ref ea])) (.ref p) (some (t,es)):=
  ⟨same_upd hp,p,ea,rfl,upd_same,he.mono (same_upd hp),hg⟩
end L2
namespace L2
open PySem PySem.Spec PySem.Calls PyProof.Rows PySem.W
theorem an_up {G:Addr->Prop}{H:Hp}{p p2 oa ea:Addr}{m w t:Tx}{op:List Tx}{es:List Ev}(h1:H p=some (.tup [.str (S m),.str (S w),.ref oa,.str (S t)]))(ho:OpV H oa op)(he:EvL H ea es)(hg:G ea)(hp2:H p2=none) :
    AnV G (upd H p2 (.tup [.ref p,.ref ea])) (.ref p2) (some (⟨m,w,op,t⟩,es)):=by
  have g2:=same_upd (o:=.tup [.ref p,.ref ea]) hp2
  exact⟨p2,.ref p,ea,rfl,upd_same,⟨p,oa,rfl,g2 _ _ h1,ho.mono g2⟩,he.mono g2,hg⟩
theorem tru_tup {K:Frag}{H:Hp}{a:Addr}{xs:List V}(h:H a=some (.tup xs)):TruV K (.ref a) H (!xs.isEmpty):=.inr (.inl ⟨xs,SqT.of h,rfl⟩)
theorem cut_init (xs:List V):cutV xs none (some (-1))=xs.dropLast:=by
  unfold cutV
  rw [HT.sIx_none,List.drop_zero,Nat.sub_zero]
  have:HT.sIx xs.length xs.length (some (-1))=xs.length - 1:=by
    unfold HT.sIx
    simp only []
    rw [if_pos (by decide)]
    lia
  rw [this,List.dropLast_eq_take]
theorem cut_last (xs:List V):cutV xs (some (-1)) none=xs.drop (xs.length - 1):=by
  unfold cutV
  have:HT.sIx xs.length 0 (some (-1))=xs.length - 1:=by
    unfold HT.sIx
    simp only []
    rw [if_pos (by decide)]
    lia
  rw [this,HT.sIx_none]
  exact List.take_of_length_le (by rw [List.length_drop];lia)
theorem map_dropLast (op:List Tx):(op.map tx).dropLast=op.dropLast.map tx:=by rw [List.map_dropLast]
end L2
namespace L2
open PySem PySem.Spec PySem.Calls PyProof.Rows PySem.W
theorem none_of_same {H H':Hp}{p:Addr}(g:Same H H')(h:H' p=none):H p=none:=by
  cases e:H p with
  | none=>rfl
  | some o=>rw [g _ _ e] at h;cases h
theorem atI_last1 {α:Type}(xs:List α):atI xs (-1)=xs.getLast?:=by
  unfold atI ixN
  rw [if_neg (by decide)]
  cases xs with
  | nil=>rfl
  | cons x xs=>
    rw [if_pos (by rw [List.length_cons];lia),List.getLast?_eq_getElem?]
    simp only [Option.bind_some]
    congr 1
    simp
    lia
end L2
namespace L2
open PySem PySem.Spec PySem.Calls PyProof.Rows PySem.W
theorem flat_txs (l:List Tx):(l.map tx).all flatV=true:=by
  rw [List.all_eq_true]
  intro v hv
  obtain⟨x,_,rfl⟩:=List.mem_map.mp hv
  rfl
theorem flat_drop {l:List V}{n:Nat}(h:l.all flatV=true):(l.drop n).all flatV=true:=by
  rw [List.all_eq_true] at h ⊢
  exact fun v hv=>h v (List.mem_of_mem_drop hv)
theorem beq_S (a b:Tx):(S a == S b)=decide (a=b):=by
  rw [Bool.eq_iff_iff,beq_iff_eq,S_inj,decide_eq_true_eq]
theorem eq_last (op:List Tx)(w:Tx):eqS ((op.map tx).drop ((op.map tx).length - 1)) [.str (S w)]=decide (op.getLast? = some w):=by
  rcases List.eq_nil_or_concat op with rfl | ⟨l,z,rfl⟩
  · rfl
  · have e:((l++[z]).map tx).drop (((l++[z]).map tx).length - 1)=[tx z]:=by
      rw [List.map_append,List.length_append]
      simp
    rw [List.concat_eq_append,e,List.getLast?_append]
    simp [eqS,eqV,tx,beq_S]
theorem inV_txs (a:Tx)(l:List Tx):inV (.str (S a)) (l.map fun x=>.str (S x))=decide (a∈l):=by
  unfold inV
  induction l with
  | nil=>rfl
  | cons x l ih=>
    rw [List.map_cons,List.any_cons,ih]
    show((S x == S a)||decide (a∈l))=decide (a∈x::l)
    rw [beq_S,Bool.eq_iff_iff,Bool.or_eq_true,decide_eq_true_eq,decide_eq_true_eq,decide_eq_true_eq,List.mem_cons]
    exact⟨fun h=>h.elim (fun e=>.inl e.symm) .inr,fun h=>h.elim (fun e=>.inl e.symm) .inr⟩
end L2
namespace L2
open PySem PySem.Spec PySem.Calls PyProof.Rows PySem.W
theorem OpV.updL {H:Hp}{a p:Addr}{op:List Tx}{xs ys:List V}(h:OpV H a op)(hp:H p=some (.lst xs)):OpV (upd H p (.lst ys)) a op:=by
  unfold OpV at h ⊢
  rw [upd_ne (ne_of h hp (by intro z;cases z))]
  exact h
theorem StV.updL {H:Hp}{v:V}{s:MS}{p:Addr}{xs ys:List V}(h:StV H v s)(hp:H p=some (.lst xs)):StV (upd H p (.lst ys)) v s:=by
  obtain⟨q,o,e,h1,h2⟩:=h
  exact⟨q,o,e,by rw [upd_ne (ne_of h1 hp (by intro z;cases z))];exact h1,h2.updL hp⟩
theorem EvV.updL {H:Hp}{v:V}{e:Ev}{p:Addr}{xs ys:List V}(h:EvV H v e)(hp:H p=some (.lst xs)):EvV (upd H p (.lst ys)) v e:=by
  obtain⟨q,e1,h1⟩:=h
  exact⟨q,e1,by rw [upd_ne (ne_of h1 hp (by intro z;cases z))];exact h1⟩
theorem EvA.updL {H:Hp}{vs:List V}{es:List Ev}{p:Addr}{xs ys:List V}(h:EvA H vs es)(hp:H p=some (.lst xs)):EvA (upd H p (.lst ys)) vs es:=by
  induction h with
  | nil=>exact .nil
  | cons h1 h2 ih=>exact .cons (h1.updL hp) ih
noncomputable def runM:MS->List Nat->Except Nat (MS×List Ev)
  | s,[]=>.ok (s,[])
  | s,c::r=>match stepM s c with
    | none=>.error 0
    | some (s',es)=>match runM s' r with
      | .error n=>.error (n+1)
      | .ok (s'',fs)=>.ok (s'',es++fs)
def StepOk (s:MS)(r:Ans):Prop:=∀ s' es,r=some (s',es)->s.word.length<=8->s'.word.length<=8/\s'.opens.length<=s.opens.length+1/\es.length<=10
theorem at_ok:∀ e∈atTab,∀ (w:Tx) (op:List Tx) (t:Tx) (c:Nat) (s':MS) (es:List Ev),e.2 w op t c=some (s',es)->w.length<=8->s'.word.length<=8/\s'.opens.length<=op.length+1/\es.length<=10:=by
  have led:∀ op c es s' es',ledOn op c es=some (s',es')->s'.word.length<=8/\s'.opens.length<=op.length/\es'.length<=es.length+1:=by
    intro op c es s' es' h
    simp only [ledOn,comeTo,intoBox] at h
    repeat' split at h
    all_goals (first | cases h | skip)
    all_goals simp
  have shut:∀ op es s' es',boxShut op es=some (s',es')->s'.word.length<=8/\s'.opens.length<=op.length/\es'.length<=es.length+1:=by
    intro op es s' es' h
    simp only [boxShut,comeTo] at h
    split at h
    · cases h
    · cases h
      simp
  have toldK:∀ m op o s' es',toldM m op o=some (s',es')->s'.word.length<=8/\s'.opens.length<=op.length/\es'.length<=10:=by
    intro m op o s' es' h
    cases o with
    | none=>cases h
    | some c=>cases h;simp
  have gathK:∀ m w op t n s' es',n<=8->gath m w op t n=some (s',es')->s'.word.length<=8/\s'.opens.length<=op.length/\es'.length<=10:=by
    intro m w op t n s' es' hn h
    simp only [gath] at h
    split at h
    · cases h
    · cases h
      simp
      lia
  have feedK:∀ t c t' es',feedM t c=some (t',es')->es'.length<=10:=by
    intro t c t' es' h
    simp only [feedM,fedB,fedW,fedS] at h
    repeat' split at h
    all_goals (first | cases h | skip)
    all_goals simp
  have fedK:∀ op t o s' es',fedM op t o=some (s',es')->s'.word.length<=8/\s'.opens.length<=op.length/\es'.length<=10:=by
    intro op t o s' es' h
    cases o with
    | none=>cases h
    | some c=>
      simp only [fedM] at h
      cases hf:feedM t c with
      | none=>rw [hf] at h;cases h
      | some r=>
        obtain⟨t',fs⟩:=r
        rw [hf] at h
        cases h
        exact⟨by simp,by simp,feedK _ _ _ _ hf⟩
  have pre:∀ l:Tx,l.isPrefixOf asisEnd=true->l.length<=8:=by
    intro l h
    rw [List.isPrefixOf_iff_prefix] at h
    have:=h.length_le
    simp at this
    lia
  intro e he w op t c s' es h hw
  simp only [atTab,List.mem_cons,List.not_mem_nil,or_false] at he
  rcases he with rfl | rfl | rfl | rfl | rfl | rfl | rfl | rfl | rfl | rfl | rfl | rfl | rfl | rfl | rfl | rfl | rfl | rfl | rfl | rfl
  all_goals simp only [aText,aMark,aOpen,aName,aSlash,aShut,aGap,aAttr,aIs,aBang,aBare,aCode,aRow,aStroke,aQuoted,aQmark,aDone,aTalk,aTmark,aAsis] at h
  all_goals repeat' split at h
  all_goals first
    | (have:=toldK _ _ _ _ _ h;omega)
    | (have:=gathK _ _ _ _ _ _ _ (by decide) h;omega)
    | (have:=fedK _ _ _ _ _ h;omega)
    | (have:=led _ _ _ _ _ h;simp at this ⊢;omega)
    | (have:=shut _ _ _ _ h;simp at this ⊢;omega)
    | (cases h;simp;omega)
    | (cases h;simp;done)
    | (cases h;have:=pre _ (by assumption);simp at this ⊢;omega)
    | cases h
theorem step_ok (s:MS)(c:Nat):StepOk s (stepM s c):=by
  intro s' es h hw
  unfold stepM at h
  cases hl:atTab.lookup s.mode with
  | none=>rw [hl] at h;cases h
  | some f=>
    rw [hl] at h
    have hm:(s.mode,f)∈atTab:=by
      have:∀ (l:List (Tx×AtF)),l.lookup s.mode=some f->(s.mode,f)∈l:=by
        intro l
        induction l with
        | nil=>intro z;cases z
        | cons e l ih=>
          intro z
          rw [List.lookup_cons] at z
          split at z
          · rename_i hb
            cases z
            have:s.mode=e.1:=by simpa using hb
            rw [this]
            exact List.mem_cons_self
          · exact List.mem_cons_of_mem _ (ih z)
      exact this _ hl
    exact at_ok _ hm _ _ _ _ _ _ h hw
end L2
namespace L2
open PySem PySem.Spec PySem.Calls PyProof.Rows PySem.W
theorem EvA.get {H:Hp}{vs:List V}{es:List Ev}{i:Nat}{v:V}(h:EvA H vs es)(e:vs[i]? = some v):∃ x,es[i]? = some x/\EvV H v x:=by
  induction h generalizing i with
  | nil=>simp at e
  | cons h1 h2 ih=>
    cases i with
    | zero=>simp at e;subst e;exact⟨_,rfl,h1⟩
    | succ i=>simpa using ih (i:=i) (by simpa using e)
theorem depDs_ft:∀ l:List Tx,depDs (l.map ft)=0
  | []=>by simp only [List.map_nil,depDs]
  | x::l=>by simp only [List.map_cons,depDs,depD,depDs_ft l,Nat.max_self]
theorem dep_S (s:MS):depD (dS s)<=2:=by unfold dS;simp only [depD,depDs,depDs_ft];decide
end L2
namespace L2
open PySem PySem.Spec PyProof.Rows
section
variable {κ:Type} [DecidableEq κ]
noncomputable def valV (kvs:List (κ×V))(k:κ):Option V:=(kvs.find? fun kv=>decide (kv.1=k)).map (·.2)
noncomputable def putK (kvs:List (κ×V))(k:κ)(v:V):List (κ×V):=
  if (kvs.any fun kv=>decide (kv.1=k))=true then kvs.map (fun kv=>if kv.1=k then(kv.1,v) else kv) else kvs++[(k,v)]
noncomputable def dropK (kvs:List (κ×V))(k:κ):List (κ×V):=kvs.filter fun kv=>decide (kv.1≠k)
theorem valV_pos {p:κ×V}{r:List (κ×V)}{k:κ}(e:p.1=k):valV (p::r) k=some p.2:=by simp [valV,List.find?_cons,e]
theorem valV_neg {p:κ×V}{r:List (κ×V)}{k:κ}(e:¬ p.1=k):valV (p::r) k=valV r k:=by simp [valV,List.find?_cons,e]
theorem RelO.getD {o:Option V}{u:Option Value}{d:V}{d':Value}(r:RelO o u)(rd:RelV d d'):RelV (o.getD d) (u.getD d'):=by
  cases o with
  | none=>cases u with
    | none=>exact rd
    | some _=>exact(show False from r).elim
  | some _=>cases u with
    | none=>exact(show False from r).elim
    | some _=>exact r
theorem KV.val {kvs:List (κ×V)}{vs:List (κ×Value)}(r:KV kvs vs)(k:κ):RelO (valV kvs k) (valueAt vs k):=by
  unfold KV at r
  induction r with
  | nil=>exact True.intro
  | @cons p q ps qs h t ih=>
    obtain⟨h1,h2⟩:=h
    by_cases e:p.1=k
    · have e':q.1=k:=h1.symm.trans e
      have b:valueAt (q::qs) k=some q.2:=by simp [valueAt,List.find?_cons,e']
      rw [valV_pos e,b];exact h2
    · have e':¬ q.1=k:=fun z=>e (h1.trans z)
      have b:valueAt (q::qs) k=valueAt qs k:=by simp [valueAt,List.find?_cons,e']
      rw [valV_neg e,b];exact ih
theorem KV.any {kvs:List (κ×V)}{vs:List (κ×Value)}(r:KV kvs vs)(k:κ):(kvs.any fun kv=>decide (kv.1=k))=vs.any fun kv=>decide (kv.1=k):=by
  unfold KV at r
  induction r with
  | nil=>rfl
  | cons h t ih=>rw [List.any_cons,List.any_cons,ih,h.1]
theorem KV.drop {kvs:List (κ×V)}{vs:List (κ×Value)}(r:KV kvs vs)(k:κ):KV (dropK kvs k) (without vs k):=by
  unfold KV at r ⊢
  unfold dropK without
  induction r with
  | nil=>exact .nil
  | @cons p q ps qs h t ih=>
    obtain⟨h1,h2⟩:=h
    rw [List.filter_cons,List.filter_cons]
    by_cases e:p.1=k
    · have a:¬ decide (p.1≠k)=true:=by simp [e]
      have b:¬ decide (q.1≠k)=true:=by simp [h1.symm.trans e]
      rw [if_neg a,if_neg b];exact ih
    · have e':¬ q.1=k:=fun z=>e (h1.trans z)
      have a:decide (p.1≠k)=true:=by simp [e]
      have b:decide (q.1≠k)=true:=by simp [e']
      rw [if_pos a,if_pos b];exact .cons ⟨h1,h2⟩ ih
theorem KV.keys {kvs:List (κ×V)}{vs:List (κ×Value)}(r:KV kvs vs):kvs.map (·.1)=vs.map (·.1):=by
  unfold KV at r
  induction r with
  | nil=>rfl
  | cons h t ih=>rw [List.map_cons,List.map_cons,ih,h.1]
theorem KV.length {kvs:List (κ×V)}{vs:List (κ×Value)}(r:KV kvs vs):kvs.length=vs.length:=Paired.length r
end
theorem kV_is {P:Program}{w:World}{k:Key}{u:Value}(r:RelV (kV k) u):(mixKind P w).is k u=true:=by
  cases k with
  | inl i=>obtain⟨t,e⟩:=(show ∃ t,u=Value.int i t from r);subst e;exact mixKind_int P w i t
  | inr x=>obtain⟨t,e⟩:=(show ∃ t,u=Value.str x t from r);subst e;exact mixKind_str P w x t
noncomputable abbrev KT (H:Hp):List (List Key×V)->List (List Key×Addr×Value)->Prop:=Paired fun p q=>p.1=q.1/\H q.2.1=some (.tup (p.1.map kV))/\RelV p.2 q.2.2
theorem KT.val {H:Hp}{kvs:List (List Key×V)}{xs:List (List Key×Addr×Value)}(r:KT H kvs xs)(k:List Key):RelO (valV kvs k) ((atKey xs k).map (·.2)):=by
  induction r with
  | nil=>exact True.intro
  | @cons p q ps qs h t ih=>
    obtain⟨h1,_,h2⟩:=h
    by_cases e:p.1=k
    · have e':q.1=k:=h1.symm.trans e
      have b:atKey (q::qs) k=some q.2:=by simp [atKey,List.find?_cons,e']
      rw [valV_pos e,b];exact h2
    · have e':¬ q.1=k:=fun z=>e (h1.trans z)
      have b:atKey (q::qs) k=atKey qs k:=by simp [atKey,List.find?_cons,e']
      rw [valV_neg e,b];exact ih
theorem KT.keeps {H H':Hp}{kvs:List (List Key×V)}{xs:List (List Key×Addr×Value)}(r:KT H kvs xs)(ht:∀ b ys,H b=some (.tup ys)->H' b=some (.tup ys)):KT H' kvs xs:=
  Paired.mapP r fun _ _ z=>⟨z.1,ht _ _ z.2.1,z.2.2⟩
section
variable {P:Program} {w:World} {H:Hp} {h:Heap} {a:Addr}
end
def DGet (H:Hp)(a:Addr)(y:V)(r:Option V):Prop:=
  (∃ kvs k,Rd H a (.dK kvs)/\y=kV k/\r=valV kvs k)\/∃ kvs k b,Rd H a (.dT kvs)/\y=.ref b/\H b=some (.tup (k.map kV))/\r=valV kvs k
def DPut (H:Hp)(a:Addr)(y v:V)(H':Hp):Prop:=
  (∃ kvs k,H a=some (.dK kvs)/\y=kV k/\kvs.length<sizeLine/\H' = upd H a (.dK (putK kvs k v))) \/
  ∃ kvs k b,H a=some (.dT kvs)/\y=.ref b/\H b=some (.tup (k.map kV))/\kvs.length<sizeLine/\H' = upd H a (.dT (putK kvs k v))
theorem DGet.k {H:Hp}{a:Addr}{kvs:List (Key×V)}{k:Key}(e:H a=some (.dK kvs)):DGet H a (kV k) (valV kvs k):=.inl ⟨kvs,k,.inl e,rfl,rfl⟩
theorem DGet.t {H:Hp}{a b:Addr}{kvs:List (List Key×V)}{k:List Key}(e:H a=some (.dT kvs))(eb:H b=some (.tup (k.map kV))):DGet H a (.ref b) (valV kvs k):=.inr ⟨kvs,k,b,.inl e,rfl,eb,rfl⟩
theorem DPut.k {H:Hp}{a:Addr}{kvs:List (Key×V)}{k:Key}{v:V}(e:H a=some (.dK kvs))(hl:kvs.length<sizeLine):DPut H a (kV k) v (upd H a (.dK (putK kvs k v))):=.inl ⟨kvs,k,e,rfl,hl,rfl⟩
theorem DPut.t {H:Hp}{a b:Addr}{kvs:List (List Key×V)}{k:List Key}{v:V}(e:H a=some (.dT kvs))(eb:H b=some (.tup (k.map kV)))(hl:kvs.length<sizeLine) :
    DPut H a (.ref b) v (upd H a (.dT (putK kvs k v))):=.inr ⟨kvs,k,b,e,rfl,eb,hl,rfl⟩
section
variable {X:Cx} {pins:List (Addr×Obj)} {σ:St} {H:Hp} {s:Shared} {a:Addr} {y v:V} {u r:Value} {o:Option V} {A:Around} {E:Value->Shared->Prop}
end
section
variable {X:Cx} {pins:List (Addr×Obj)} {σ:St} {H:Hp} {s:Shared} {a:Addr} {kvs:List (Key×V)} {k:Key} {u:Value} {A:Around} {E:Value->Shared->Prop}
end
noncomputable def tDGet (td ty:TE):TE:=fun σ H Q=>td σ H fun x H1=>ty σ H1 fun y H2=>∃ a v,x=.ref a/\DGet H2 a y (some v)/\Q v H2
section
variable {X:Cx} {o i e value:Expr} {pos pos' tpos:Pos} {td ty tv:TE}
end
section
variable {X:Cx} {pos:Pos}
end
noncomputable def tPairs:List (TE×TE)->St->Hp->(List (V×V)->Hp->Prop)->Prop
  | [],_,H,Q=>Q [] H
  | (tk,tv)::r,σ,H,Q=>tk σ H fun x H1=>tv σ H1 fun y H2=>tPairs r σ H2 fun ps H3=>Q ((x,y)::ps) H3
noncomputable def mergeK (kvs more:List (Key×V)):List (Key×V):=more.foldl (fun acc kv=>putK acc kv.1 kv.2) kvs
noncomputable def tDisp (trs:List (TE×TE)):TE:=fun σ H Q=>∀ p,H p=none->tPairs trs σ (upd H p (.dK [])) fun ps H2=>H2 p=some (.dK [])/\∃ kvs:List (Key×V),ps=kvs.map (fun kv=>(kV kv.1,kv.2))/\kvs.length<=15/\Q (.ref p) (upd H2 p (.dK (mergeK [] kvs)))
def IsD (H:Hp)(a:Addr):Prop:=(∃ kvs,Rd H a (.dK kvs))\/∃ kvs,Rd H a (.dT kvs)
section
variable {X:Cx} {pins:List (Addr×Obj)} {σ:St} {H:Hp} {s:Shared} {a:Addr} {y d:V} {u r:Value} {o:Option V} {A:Around} {E:Value->Shared->Prop}
end
noncomputable def tDGet2 (td ty tx:TE):TE:=fun σ H Q=>td σ H fun x H1=>∃ a,x=.ref a/\IsD H1 a/\ty σ H1 fun y H2=>tx σ H2 fun z H3=>∃ o,DGet H3 a y o/\Q (o.getD z) H3
section
variable {X:Cx} {o e f:Expr} {apos cpos:Pos} {td ty tx:TE}
end
section
variable {X:Cx} {pins:List (Addr×Obj)} {σ:St} {H:Hp} {s:Shared} {a:Addr} {kvs:List (Key×V)} {A:Around} {E:Value->Shared->Prop}
end
section
variable {X:Cx} {pins:List (Addr×Obj)} {σ:St} {H:Hp} {s:Shared} {a:Addr} {y:V} {u:Value} {A:Around} {E:Value->Shared->Prop}
end
end L2
namespace L2
open PySem PySem.Spec PySem.Calls PyProof.Rows PySem.W
section
variable {X:Cx} {k j:Nat} {x:Str} {p pos:Pos} {e:Expr} {es:List Expr} {tf:TE} {t:TA}
def FnV (P:Program)(w:World)(K:Frag)(mg:Str->Option Value)(base:Heap)(k:Nat)(f:Addr)(sp:Sp):Prop:=∃ fd ps,keepIn K (.ref f)=true/\Binds K fd ps []/\FnOk P w K mg base CX0 k f fd ps sp
noncomputable def tCallV (P:Program)(w:World)(K:Frag)(mg:Str->Option Value)(base:Heap)(k:Nat)(tf:TE)(t:TA):TE:=fun σ H Q=>tf σ H fun v H0=>∃ f sp,v=.ref f/\FnV P w K mg base k f sp/\t σ H0 fun vs H1=>sp vs H1 Q E0
theorem pe_callV (hf:PE X (.Name x p) tf)(hr:Room j X.A)(hk:k<=j)(ha:PA X (e::es) t)
    (he:starEach (e::es) X.env=(false,eval e X.env)::starEach es X.env:=by rfl) (hpl:(backTo pos (starEach es X.env)).any (·.1)=false:=by rfl) :
    PE X (.Call (.Name x p) (e::es) [] pos) (tCallV X.prog X.w X.K X.mg X.base k tf t):=by
  intro pins s σ H Q I h
  refine wpAny_Call_Name_kw (thn (hf pins s σ H _ I h) fun u s0 ⟨v,H0,I0,r0,f,sp,ev,G,q⟩=>?_)
  subst ev
  obtain rfl:u=Value.ref f:=r0
  obtain⟨fd,ps,kp,b,G⟩:=G
  refine PySem.W.callWith_K (h₀:=X.base) I0.ok.mod.kin kp (thn (ha pos pins s0 σ H0 _ I0 q) fun us s1 ⟨vs,H1,I1,r,q⟩=>⟨I1.kIn,?_⟩) he hpl
  exact run_fn (dvs:=[]) (ds:=[]) G (hr.mono hk) b .nil pass0 I1 r (by rw [List.append_nil];exact q)
end
inductive EntK (w:World):List DictEntry->List (Key×V)->Prop
  | nil:EntK w [] []
  | cons {e:DictEntry} {k:Key} {v:V} {es:List DictEntry} {kvs:List (Key×V)}:e.hash=keyH w k->keyIs k e.key=true->RelV v e.val->EntK w es kvs->EntK w (e::es) ((k,v)::kvs)
theorem EntK.keys {P:Program}{w:World}{es:List DictEntry}{kvs:List (Key×V)}(h:EntK w es kvs):∀ e∈es,∃ k,(mixKind P w).is k e.key=true/\e.hash=(mixKind P w).hash k:=by
  induction h with
  | nil=>intro e he;cases he
  | cons h1 h2 h3 h4 ih=>
    intro e he
    rcases List.mem_cons.mp he with rfl | he
    · exact⟨_,h2,h1⟩
    · exact ih e he
theorem EntK.pairs {P:Program}{w:World}{es:List DictEntry}{kvs:List (Key×V)}(h:EntK w es kvs):∃ vs:List (Key×Value),PySem.Pairs (mixKind P w) es vs/\KV kvs vs/\vs.map (·.1)=kvs.map (·.1):=by
  induction h with
  | nil=>exact⟨[],.nil,.nil,rfl⟩
  | @cons e k v es kvs h1 h2 h3 h4 ih=>
    obtain⟨vs,i1,i2,i3⟩:=ih
    exact⟨(k,e.val)::vs,.cons h2 rfl i1,.cons ⟨rfl,h3⟩ i2,by rw [List.map_cons,List.map_cons,i3]⟩
def KDict (w:World)(K:Frag)(a:Addr)(kvs:List (Key×V)):Prop:=(a == sysModules)=false/\∃ o es ep,K.lookup a=some o/\o.ExactDict/\o.data=.dict es ep/\EntK w es.toList kvs/\(kvs.map (·.1)).Nodup
section
variable {X:Cx} {pins:List (Addr×Obj)} {σ:L2.St} {H:Hp} {s:Shared} {a:Addr} {kvs:List (Key×V)}
theorem KDict.at (I:Inv X pins σ H s)(h:KDict X.w X.K a kvs):(a == sysModules)=false/\∃ vs,KV kvs vs/\s.heap.DictOf (mixKind X.prog X.w) a vs:=by
  obtain⟨h0,o,es,ep,h1,h2,h3,h4,h5⟩:=h
  obtain⟨vs,i1,i2,i3⟩:=h4.pairs (P:=X.prog)
  exact⟨h0,vs,i2,o,es,ep,I.kIn a o h1,h2,h3,fun e he=>h4.keys (P:=X.prog) e (by simpa using he),i1,by rw [i3];exact h5⟩
end
section
variable {X:Cx} {x:Str} {p apos cpos:Pos} {e f:Expr} {ty tx':TE} {kvs:List (Key×V)}
noncomputable def tKGet (kvs:List (Key×V))(ty:TE):TE:=fun σ H Q=>ty σ H fun y H1=>∃ k,y=kV k/\Q ((valV kvs k).getD .non) H1
theorem pe_kget (hm:∃ a,X.mg x=some (.ref a)/\KDict X.w X.K a kvs)(he:PE X e ty)(hg:Gl X x:=by rfl) (hd:(x == ("__debug__":Str))=false:=by decide)
    (hbase:attributeBase (.Name x p) "get" X.env (eval (.Name x p) X.env)=eval (.Name x p) X.env:=by rfl)
    (hfew:((backTo cpos (starEach [e] X.env)).all (fun x=>!x.1)&&(backToKw cpos (keywordEach [] X.env)).all (fun x=>x.1.isSome)
      && decide (([e]:List Expr).length+([]:List Keyword).length+(if ([]:List Keyword).isEmpty then 0 else 1)<30))=true:=by rfl)
    (hline:(apos.endLine == cpos.line)=true:=by rfl) (htr:backTo cpos (starEach [e] X.env)=[(false,eval e X.env)]:=by rfl) :
    PE X (.Call (.Attribute (.Name x p) "get" apos) [e] [] cpos) (tKGet kvs ty):=by
  intro pins s σ H Q I h
  obtain⟨a,hm,D⟩:=hm
  refine wpAny_Call_method hbase hfew hline PySem.F.plainAttrs_dict PySem.F.slot_dict_get PySem.F.type_dict_get (ld_glob I hg hm ?_ hd)
  obtain⟨h0,vs,rel,dd⟩:=D.at I
  refine⟨dd.typeIs,fun b q=>?_,?_⟩
  · cases q
    obtain⟨ob,_,_,h1,h2,_⟩:=dd
    exact⟨ob,h1,h2.2.1⟩
  rw [htr]
  refine Calls.callWith_builtin rfl (Calls.evalArgs_plain (Calls.spliced_cons (thn (he pins s σ H _ I h) fun iv s2 ⟨y,H2,I2,ry,k,ey,q2⟩=>Calls.spliced_nil ?_)))
  subst ey
  obtain⟨_,vs2,rel2,dd2⟩:=D.at I2
  refine call_meetsIn PySem.F.slot_dict_get dd2.typeIs PySem.F.entry_dict_get (PySem.F.args_dict_get_2 _ _) (meets_dict_get (mixKind X.prog X.w) a (kV_is ry) h0) ⟨_,dd2.mapOf,_,H2,I2.tok _,?_,q2⟩
  exact(rel2.val k).getD rfl
end
section
variable {X:Cx} {a:Expr} {ta:TE}
noncomputable def tTruK (K:Frag)(ta:TE):TT:=fun σ H Q=>ta σ H fun x H'=>∃ k,TruV K x H' k/\Q k H'
theorem pt_truthK {K:Frag}(hK:X.K=K)(ha:PE X a ta)(he:∀ whole,isTrue a X.env whole=(do let v ← whole;standAt a.pos;holding [v] (truthy v)):=by intro _;rfl):PT X a (tTruK K ta):=by
  subst hK
  exact pt_truth ha he
end
section
variable {X:Cx}
noncomputable def rIsA (K:Frag)(n:String):List V->Hp->VK->Prop:=fun xs H Q=>∃ x t b,xs=[x,.ty n]/\TyOf K H x t/\PySem.W.kitOne K t (.type n)=some b/\Q (.bl b) H
noncomputable def rTupL (K:Frag):List V->Hp->VK->Prop:=fun xs H Q=>∃ p ys,xs=[.ref p]/\SqL K H p ys/\∀ l,H l=none->Q (.ref l) (upd H l (.tup ys))
noncomputable def rCatU:R2:=fun x y H Q=>∃ a b xs ys,x=.ref a/\y=.ref b/\H a=some (.tup xs)/\H b=some (.tup ys)/\xs.length+ys.length<=1000000/\∀ p H',Same H H'->H' p=some (.tup (xs++ys))->Q (.ref p) H'
theorem op_catU:OpR X (binaryOp .Add) rCatU:=by
  intro pins s σ H x y v u Q I rx ry h
  obtain⟨a,b,xs,ys,rfl,rfl,ha,hb,hz,q⟩:=h
  by_cases hx:xs=[]
  · subst hx
    cases rx
    cases ry
    obtain⟨its,r1,p1,_⟩:=I.tuple (SqT.of ha)
    obtain⟨its2,r2,p2,_⟩:=I.tuple (SqT.of hb)
    obtain⟨⟨cls,dd,data,sl⟩,ho,hc,n,hd⟩:=id p1
    obtain⟨⟨cls2,dd2,data2,sl2⟩,ho2,hc2,n2,hd2⟩:=id p2
    simp only at hc hd hc2 hd2
    subst hc hd hc2 hd2
    have e0:its=[]:=r1.nil_iff.mpr rfl
    exact concat_meets ⟨_,ho,rfl⟩ ⟨_,ho2,rfl⟩ noFill_tuple_add seq_tuple_add PySem.F.slot_tuple_add PySem.F.entry_tuple_add (PySem.F.args_tuple_add_2 _ _)
      (tuple_addW0 a b its.toArray its2.toArray n n2 dd dd2 sl sl2 (by simp [e0])) ⟨ho,ho2,.ref b,H,I,rfl,q b H (Same.refl H) (by rw [List.nil_append];exact hb)⟩
  · refine op_catT pins s σ H _ _ v u Q I rx ry ⟨a,b,xs,ys,rfl,rfl,SqT.of ha,SqT.of hb,hx,by rw [sizeLine_eq];lia,fun e=>q a H (Same.refl H) (by rw [e,List.append_nil];exact ha),fun _ p hp=>q p _ (same_upd hp) upd_same⟩
noncomputable def rStarts:V->List V->Hp->VK->Prop:=fun x vs H Q=>∃ l y,x=.str (S l)/\vs=[.str (S y)]/\Q (.bl (y.isPrefixOf l)) H
theorem starts_S (l y:List Nat):Txt.startswith (S l) (S y)=y.isPrefixOf l:=by
  unfold Txt.startswith Builtin.Str.subAt
  rw [S_len,S_len]
  by_cases h:y.length<=l.length
  · have h1:decide (0+y.length<=l.length)=true:=by simpa using h
    rw [h1,Bool.true_and]
    have e:(S l).cps.extract 0 (0+y.length)=(l.take y.length).toArray:=by
      simp [S]
    rw [e]
    rw [Bool.eq_iff_iff,beq_iff_eq,List.isPrefixOf_iff_prefix,List.prefix_iff_eq_take]
    constructor
    · intro z
      have:=congrArg Array.toList z
      simp [S] at this
      exact this.symm
    · intro z
      rw [← z]
      rfl
  · have h1:decide (0+y.length<=l.length)=false:=by simpa using h
    rw [h1,Bool.false_and]
    symm
    rw [← Bool.not_eq_true,List.isPrefixOf_iff_prefix]
    intro z
    exact h z.length_le
theorem mt_startswithS:MtR X "str.startswith" rStarts:=by
  intro pins s σ H x xs v us Q I rx rs h
  obtain⟨l,y,rfl,rfl,q⟩:=h
  obtain⟨t,rfl⟩:=rx
  obtain⟨u,rfl,t',rfl⟩:=vals1 rs
  refine SC.startswith ⟨.bl _,H,I,rfl,?_⟩
  rw [starts_S]
  exact q
end
theorem lc_strG {l:List Nat}{te:TE}{σ:L2.St}{H:Hp}{Q:VK}(G:Nat->V->Hp->Prop)(hG:∀ c v H1 H2,G c v H1->Same H1 H2->G c v H2)(hU:∀ c v H1 D xs ys,G c v H1->H1 D=some (.lst xs)->G c v (upd H1 D (.lst ys)))(hl:l.length<=sizeLine)
    (he:∀ c∈l,∀ H1,Same H H1->∀ R:VK,(∀ v H2,Same H1 H2->G c v H2->R v H2)->te (some (.str (S [c]))::σ) H1 R)
    (hq:∀ D H2 ys,H D=none->Same H H2->ys.length=l.length->(∀ (i:Nat) c v,l[i]? = some c->ys[i]? = some v->G c v H2)->H2 D=some (.lst ys)->Q (.ref D) H2):lcBody (Its (S l)) tTrue te σ H Q:=by
  intro D hD
  refine⟨fun i m ys H'=>m=l.length - i/\i<=l.length/\ys.length=i/\(∀ (j:Nat) c v,l[j]? = some c->ys[j]? = some v->G c v H')/\Same H H'/\H' D=some (.lst ys),⟨l.length,by simp,Nat.zero_le _,rfl,by simp,same_upd hD,upd_same⟩,?_⟩
  rintro i m ys H' ⟨rfl,hi,hy,hg,sm,hDl⟩
  refine⟨hDl,?_⟩
  by_cases hlt:i<l.length
  · refine .inr ⟨by show i<(S l).cps.size;rw [S_size];exact hlt,fun v H2 y=>?_⟩
    obtain⟨rfl,c,hc,rfl⟩:=y
    rw [S_get] at hc
    have hm:c∈l:=List.mem_of_getElem? hc
    simp only [tTrue,↓reduceIte]
    refine he c hm H2 sm _ fun v H4 s4 gv=>?_
    have hD4:=s4 D _ hDl
    refine⟨hD4,by lia,l.length - (i+1),by lia,rfl,hlt,by simp [hy],fun j c' u e1 e2=>?_,?_,upd_same⟩
    · refine hU _ _ _ _ _ _ ?_ hD4
      by_cases hj:j<ys.length
      · rw [List.getElem?_append_left hj] at e2
        exact hG _ _ _ _ (hg j c' u e1 e2) s4
      · rw [List.getElem?_append_right (by lia)] at e2
        have hj':j - ys.length=0:=by
          by_cases hz:j - ys.length=0
          · exact hz
          · rw [List.getElem?_eq_none_iff.mpr (by simp;lia)] at e2;cases e2
        have ej:j=i:=by lia
        subst ej
        rw [hj'] at e2
        simp at e2
        subst e2
        rw [hc] at e1
        cases e1
        exact gv
    · intro b o e
      rw [upd_ne (ne_of_none e hD)]
      exact s4 b o (sm b o e)
  · have e:i=l.length:=by lia
    subst e
    exact .inl ⟨by show(S l).cps.size<=l.length;rw [S_size];exact Nat.le_refl _,hq D H' ys hD sm hy hg hDl⟩
section
variable {X:Cx} {pins:List (Addr×Obj)} {σ:L2.St} {H:Hp} {s:Shared} {h':Heap}
end
noncomputable def Itz (K:Frag)(l1 l2:Addr):It:=⟨fun i H=>∃ xs ys x y,SqL K H l1 xs/\SqL K H l2 ys/\xs[i]? = some x/\ys[i]? = some y,
  fun i H v H'=>∃ p x y,H p=none/\(∀ xs,SqL K H l1 xs->xs[i]? = some x)/\(∀ ys,SqL K H l2 ys->ys[i]? = some y)/\v=.ref p/\H' = upd H p (.tup [x,y]),
  fun i H=>∃ xs ys,SqL K H l1 xs/\SqL K H l2 ys/\(xs.length<=i\/ys.length<=i)⟩
section
variable {X:Cx}
noncomputable def iZip (K:Frag)(ta:TA):TI:=fun σ H R=>ta σ H fun vs H1=>∃ l1 l2,vs=[.ref l1,.ref l2]/\(∃ xs,SqL K H1 l1 xs)/\(∃ ys,SqL K H1 l2 ys)/\R (Itz K l1 l2) H1
end
end L2
namespace L2
open PySem PySem.Spec PySem.Calls PyProof.Rows PySem.W
theorem hu64 {A:Around}{k:Nat}(hr:Room k A):A.units+64<cLine:=hr.units
section
variable {X:Cx}
noncomputable def rIntB:List V->Hp->VK->Prop:=fun xs H Q=>∃ k,xs=[.bl k]/\Q (.int (if k then 1 else 0)) H
theorem call_intB:CallR X (.type "int") rIntB:=by
  intro pins s σ H xs us Q I r h
  exact call_int1 pins s σ H xs us Q I r (.inr h)
end
theorem OkF.fnv {P:Program}{w:World}{K:Frag}{mg:Str->Option Value}{base:Heap}{j k:Nat}{x:Str}{ps:List Str}{sp:Sp}{a:Addr}(F:OkF P w K mg base j x ps sp)(h:mg x=some (.ref a))(hk:j<=k):FnV P w K mg base k a sp:=by
  obtain⟨f,fd,kp,b,m,G⟩:=F.ex
  have e:f=a:=by
    have:=m.1
    rw [h] at this
    cases this
    rfl
  subst e
  exact⟨fd,ps,kp,b,G.mono hk⟩
end L2
namespace L2
open PySem PySem.Spec PySem.Calls PyProof.Rows PySem.W
section
variable {X:Cx} {K:Frag} {o:Expr} {to:TE} {name:Str} {apos cpos:Pos} {T id:String} {r:V->List V->Hp->VK->Prop}
end
end L2
namespace HT
open PySem PySem.Spec PySem.Calls PyProof.Rows PySem.W
section
variable {prog:Program} {w:World} {A:Around} {E:Value->Shared->Prop} {s:Shared}
theorem getItem_tuple_whole {t sl:Addr}{items:Array Value}{vl vu:Value}{lo hi:Option Int}{Q:Value->Shared->Prop}(ht:IsTup s.heap t items)(hs:s.heap.IsSliceOf sl vl vu .none)(pl:IsPart vl lo)(pu:IsPart vu hi)
    (hw:sIx items.size 0 lo=0/\sIx items.size items.size hi=items.size) (h:Q (.ref t) s):wpAny (model prog w) A (getItem (.ref t) (.ref sl)) Q E s:=by
  obtain⟨os,hos,hcs,hds⟩:=id hs
  have hTs:s.TypeIs (.ref sl) "slice":=⟨os,hos,hcs⟩
  unfold getItem
  try with_reducible refine wpAny_holding ?_
  first | refine wpAny_bind (wpAny_pure ?_) | skip
  refine wpAny_bind (wpAny_sequenceKey ht.typeIs (by decide) ?_)
  refine wpAny_bind (wpAny_callSpecial?_slot (name:=Str.ofString "__getitem__") ht.typeIs PyProof.Rows.slot_tuple_getitem
    (wpAny_call_entry PyProof.Rows.slot_tuple_getitem ht.typeIs entry_tuple_getitem ?_ (args_tuple_getitem _ _)))
  show wpAny _ _ (Builtin.Tuple.tupleItemsOf (.ref t) >>= _) _ _ s
  refine wpAny_bind (tupleItemsOf_ ht ?_)
  refine wpAny_bind (wpAny_typeOf hTs ?_)
  rw [if_pos (by decide)]
  refine wpAny_bind (sliceApplied_gen hs pl pu ?_)
  have hyes:(((sIx items.size 0 lo:Nat):Int) == 0&&(1:Int) == 1&&(sIx items.size items.size hi - sIx items.size 0 lo) == items.size)=true:=by
    rw [hw.1,hw.2]
    simp
  show wpAny _ _ (if (((sIx items.size 0 lo:Nat):Int) == 0&&(1:Int) == 1&&(sIx items.size items.size hi - sIx items.size 0 lo) == items.size)=true then _ else _) _ _ s
  rw [if_pos hyes]
  unfold Builtin.Tuple.tupleIsExact
  refine wpAny_bind (wpAny_bind (wpAny_typeOf ht.typeIs (wpAny_pure ?_)))
  rw [if_pos (by decide)]
  exact wpAny_bind (wpAny_rule (wpAny_pure ⟨_,rfl,wpAny_pure h⟩))
end
end HT
namespace L2
open PySem PySem.Spec PySem.Calls PyProof.Rows PySem.W
section
variable {X:Cx}
noncomputable def rSlU:V->Option Int->Option Int->Hp->VK->Prop:=fun x lo hi H Q=>∃ a xs,x=.ref a/\H a=some (.tup xs)/\∀ p H',Same H H'->H' p=some (.tup (cutV xs lo hi))->Q (.ref p) H'
theorem sl_tupU:SlR X rSlU:=by
  intro pins s σ H x v vl vu lo hi sl Q I rx hs pl pu h
  obtain⟨a,xs,rfl,hx,q⟩:=h
  by_cases hw:HT.sIx xs.length 0 lo=0/\HT.sIx xs.length xs.length hi=xs.length
  · cases rx
    obtain⟨its,r,ht,hz⟩:=I.tuple (SqT.of hx)
    have hlen:its.toArray.size=xs.length:=by rw [List.size_toArray];exact r.length.symm
    refine⟨"tuple",_,PyProof.Rows.slot_tuple_getitem.lookup,ht.typeIs,?_⟩
    refine HT.getItem_tuple_whole ht hs pl pu (by rw [hlen];exact hw) ⟨.ref a,H,I,rfl,q a H (Same.refl H) ?_⟩
    rw [hx]
    unfold cutV
    rw [hw.1,hw.2,List.drop_zero,Nat.sub_zero,List.take_length]
  · exact sl_tup pins s σ H _ v vl vu lo hi sl Q I rx hs pl pu ⟨a,xs,rfl,SqT.of hx,hw,fun p hp=>q p _ (same_upd hp) upd_same⟩
end
theorem seq_gen {a b:TS}{D:Ends}{σ:L2.St}{H:Hp}(R:L2.St->Hp->Prop)(hr:∀ σ' H',R σ' H'->b D σ' H')(h:∀ N:L2.St->Hp->Prop,(∀ σ' H',R σ' H'->N σ' H')->a { D with nx:=N } σ H):tSeq a b D σ H:=h (b D) hr
theorem none_of_upd {H:Hp}{p q:Addr}{o:HO}(h:upd H p o q=none):H q=none:=by
  unfold upd at h
  by_cases e:q=p
  · rw [if_pos e] at h;cases h
  · rw [if_neg e] at h;exact h
end L2
namespace L2
open PySem PySem.Spec PySem.Calls PyProof.Rows PySem.W
theorem evA_of {H:Hp}:∀ {l:List Nat} {ys:List V},ys.length=l.length->(∀ (i:Nat) c v,l[i]? = some c->ys[i]? = some v->EvV H v [eSign,[c]])->EvA H ys (l.map fun k=>[eSign,[k]])
  | [],[],_,_=>.nil
  | c::l,y::ys,h,hG=>.cons (hG 0 c y rfl rfl) (evA_of (by simpa using h) fun i c' v e1 e2=>hG (i+1) c' v (by simpa using e1) (by simpa using e2))
  | [],_::_,h,_=>by simp at h
  | _::_,[],h,_=>by simp at h
end L2
namespace L2
open PySem PySem.Spec PySem.Calls PyProof.Rows PySem.W
structure QE (X:Cx)(e:Expr)(t:TE):Prop where
  h:PE X e t
structure QT (X:Cx)(e:Expr)(t:TT):Prop where
  h:PT X e t
structure QW (X:Cx)(e:Expr)(t:TT):Prop where
  h:PW X e t
structure QA (X:Cx)(es:List Expr)(t:TA):Prop where
  h:PA X es t
structure QS (X:Cx)(st:Stmt)(t:TS):Prop where
  h:PS X st t
structure QSs (X:Cx)(st:List Stmt)(t:TS):Prop where
  h:PSs X st t
structure QI (X:Cx)(tg iter:Expr)(wi:TI):Prop where
  h:PI X tg iter wi
structure QG (X:Cx)(target:Expr)(t:TG):Prop where
  h:PG X target t
structure QGs (X:Cx)(ts:List Expr)(t:TGs):Prop where
  h:PGs X ts t
structure QO (X:Cx)(e:Option Expr)(t:TO):Prop where
  h:PO X e t
structure QTs (X:Cx)(ifs:List Expr)(t:TT):Prop where
  h:PTs X ifs t
section
set_option autoImplicit true
set_option relaxedAutoImplicit true
theorem qa_cons {X:Cx}(ha:QE X e te)(hr:QA X es t)(hs:starEach (e::es) X.env=(false,eval e X.env)::starEach es X.env:=by rfl):QA X (e::es) (tCons te t):=⟨pa_cons (ha:=ha.h) (hr:=hr.h) (hs:=hs)⟩
theorem qa_nil {X:Cx}:QA X [] tNil:=⟨pa_nil ⟩
theorem qe_S {X:Cx}{x:Str}{l:List Nat}{j pos}(h:x=S l):QE X (.Constant (.str x) j pos) (tC (.str (S l))):=⟨pe_S (h:=h)⟩
theorem qe_atX {X:Cx}{K:Frag}{e:Expr}{te:TE}{f:Str}{pos:Pos}(hK:X.K=K)(he:QE X e te)(hb:attributeBase e f X.env (eval e X.env)=eval e X.env:=by rfl):QE X (.Attribute e f pos) (tAtX K te f):=⟨pe_atX (hK:=hK) (he:=he.h) (hb:=hb)⟩
theorem qe_bl {X:Cx}{b j pos}:QE X (.Constant (.bool b) j pos) (tC (.bl b)):=⟨pe_bl ⟩
theorem qe_blt {X:Cx}{v:V}{u:Value}{pos:Pos}(hm:X.mg x=none)(hv:bootBuiltins x=some u)(r:RelV v u)(hg:Gl X x:=by rfl) (hn:x≠"__name__":=by decide) (hd:(x == ("__debug__":Str))=false:=by decide):QE X (.Name x pos) (tC v):=⟨pe_blt (hm:=hm) (hv:=hv) (r:=r) (hg:=hg) (hn:=hn) (hd:=hd)⟩
theorem qe_bmK {X:Cx}{id:String}{K:Frag}(hK:X.K=K)(pa:PlainAttrs T)(slot:Slot T name id)(hty:typeOf (.builtin id)=pure (.type "method_descriptor"))(hm:MtR X id r)(ho:QE X o to)(ha:QA X (e::es) t)
    (hbase:attributeBase o name X.env (eval o X.env)=eval o X.env:=by rfl)
    (hfew:((backTo cpos (starEach (e::es) X.env)).all (fun x=>!x.1)&&(backToKw cpos (keywordEach [] X.env)).all (fun x=>x.1.isSome)
      && decide ((e::es).length+([]:List Keyword).length+(if ([]:List Keyword).isEmpty then 0 else 1)<30))=true:=by rfl)
    (hline:(apos.endLine == cpos.line)=true:=by rfl) (hs:starEach (e::es) X.env=(false,eval e X.env)::starEach es X.env:=by rfl) (hplain:(backTo cpos (starEach es X.env)).any (·.1)=false:=by rfl) :
    QE X (.Call (.Attribute o name apos) (e::es) [] cpos) (tBM K T r to t):=⟨pe_bmK (hK:=hK) (pa:=pa) (slot:=slot) (hty:=hty) (hm:=hm) (ho:=ho.h) (ha:=ha.h) (hbase:=hbase) (hfew:=hfew) (hline:=hline) (hs:=hs) (hplain:=hplain)⟩
theorem qe_callB {X:Cx}{id:String}(hc:CallR X (.builtin id) r)(hg:Gl X x)(hm:X.mg x=none)(hv:bootBuiltins x=some (.builtin id))(ha:QA X (e::es) t)(hn:x≠"__name__":=by decide) (hdb:(x == ("__debug__":Str))=false:=by decide)
    (he:starEach (e::es) X.env=(false,eval e X.env)::starEach es X.env:=by rfl) (hpl:(backTo pos (starEach es X.env)).any (·.1)=false:=by rfl):QE X (.Call (.Name x p) (e::es) [] pos) (tCB r t):=⟨pe_callB (hc:=hc) (hg:=hg) (hm:=hm) (hv:=hv) (ha:=ha.h) (hn:=hn) (hdb:=hdb) (he:=he) (hpl:=hpl)⟩
theorem qe_callF {X:Cx}(F:OkF X.prog X.w X.K X.mg X.base k x ps sp)(hr:Room j X.A)(hk:k<=j)(ha:QA X (e::es) t)(hg:Gl X x:=by rfl) (hdb:(x == ("__debug__":Str))=false:=by decide)
    (he:starEach (e::es) X.env=(false,eval e X.env)::starEach es X.env:=by rfl) (hpl:(backTo pos (starEach es X.env)).any (·.1)=false:=by rfl):QE X (.Call (.Name x p) (e::es) [] pos) (tCall sp [] E0 t):=⟨pe_callF (F:=F) (hr:=hr) (hk:=hk) (ha:=ha.h) (hg:=hg) (hdb:=hdb) (he:=he) (hpl:=hpl)⟩
theorem qe_callF0 {X:Cx}(F:OkF X.prog X.w X.K X.mg X.base k x ps sp)(hr:Room j X.A)(hk:k<=j)(hg:Gl X x:=by rfl) (hdb:(x == ("__debug__":Str))=false:=by decide):QE X (.Call (.Name x p) [] [] pos) (tCall sp [] E0 tNil):=⟨pe_callF0 (F:=F) (hr:=hr) (hk:=hk) (hg:=hg) (hdb:=hdb)⟩
theorem qe_callH {X:Cx}(F:OkH X.prog X.w X.K X.mg X.base k x ps sp)(hr:RoomH j X.A)(hk:k<=j)(ha:QA X (e::es) t)(hg:Gl X x:=by rfl) (hdb:(x == ("__debug__":Str))=false:=by decide)
    (he:starEach (e::es) X.env=(false,eval e X.env)::starEach es X.env:=by rfl) (hpl:(backTo pos (starEach es X.env)).any (·.1)=false:=by rfl):QE X (.Call (.Name x p) (e::es) [] pos) (tCall sp [] E0 t):=⟨pe_callH (F:=F) (hr:=hr) (hk:=hk) (ha:=ha.h) (hg:=hg) (hdb:=hdb) (he:=he) (hpl:=hpl)⟩
theorem qe_callN {X:Cx}(F:OkX X.prog X.w X.K X.mg X.base k x ps sp)(hr:Room j X.A)(hk:k<=j)(ha:QA X (e::es) t)(hg:Gl X x:=by rfl) (hdb:(x == ("__debug__":Str))=false:=by decide)
    (he:starEach (e::es) X.env=(false,eval e X.env)::starEach es X.env:=by rfl) (hpl:(backTo pos (starEach es X.env)).any (·.1)=false:=by rfl):QE X (.Call (.Name x p) (e::es) [] pos) (tCall sp [] E0 t):=⟨pe_callN (F:=F) (hr:=hr) (hk:=hk) (ha:=ha.h) (hg:=hg) (hdb:=hdb) (he:=he) (hpl:=hpl)⟩
theorem qe_callTy {X:Cx}(hc:CallR X (.type T) r)(hg:Gl X x)(hm:X.mg x=none)(hv:bootBuiltins x=some (.type T))(ha:QA X (e::es) t)(hn:x≠"__name__":=by decide) (hdb:(x == ("__debug__":Str))=false:=by decide)
    (he:starEach (e::es) X.env=(false,eval e X.env)::starEach es X.env:=by rfl) (hpl:(backTo pos (starEach es X.env)).any (·.1)=false:=by rfl):QE X (.Call (.Name x p) (e::es) [] pos) (tCB r t):=⟨pe_callTy (hc:=hc) (hg:=hg) (hm:=hm) (hv:=hv) (ha:=ha.h) (hn:=hn) (hdb:=hdb) (he:=he) (hpl:=hpl)⟩
theorem qe_callV {X:Cx}(hf:QE X (.Name x p) tf)(hr:Room j X.A)(hk:k<=j)(ha:QA X (e::es) t)
    (he:starEach (e::es) X.env=(false,eval e X.env)::starEach es X.env:=by rfl) (hpl:(backTo pos (starEach es X.env)).any (·.1)=false:=by rfl) :
    QE X (.Call (.Name x p) (e::es) [] pos) (tCallV X.prog X.w X.K X.mg X.base k tf t):=⟨pe_callV (hf:=hf.h) (hr:=hr) (hk:=hk) (ha:=ha.h) (he:=he) (hpl:=hpl)⟩
theorem qe_callX {X:Cx}(hx:Thr X E)(F:OkX X.prog X.w X.K X.mg X.base k x ps sp)(hr:Room j X.A)(hk:k<=j)(ha:QA X (e::es) t)(hg:Gl X x:=by rfl) (hdb:(x == ("__debug__":Str))=false:=by decide)
    (he:starEach (e::es) X.env=(false,eval e X.env)::starEach es X.env:=by rfl) (hpl:(backTo pos (starEach es X.env)).any (·.1)=false:=by rfl):QE X (.Call (.Name x p) (e::es) [] pos) (tCallX sp E t):=⟨pe_callX (hx:=hx) (F:=F) (hr:=hr) (hk:=hk) (ha:=ha.h) (hg:=hg) (hdb:=hdb) (he:=he) (hpl:=hpl)⟩
theorem qe_cls {X:Cx}(h:X.mg x=some (.ref a))(hg:Gl X x:=by rfl) (hd:(x == ("__debug__":Str))=false:=by decide):QE X (.Name x pos) (tC (.ref a)):=⟨pe_cls (h:=h) (hg:=hg) (hd:=hd)⟩
theorem qe_cmpR {X:Cx}{op:CmpOp}{r:R2}(ho:OpR X (compareOp op) r)(ha:QE X a ta)(hb:QE X b tb)(hm:behindInMarks op b=false):QE X (.Compare a [op] [b] pos) (tOp r ta tb):=⟨pe_cmpR (ho:=ho) (ha:=ha.h) (hb:=hb.h) (hm:=hm)⟩
theorem qe_gl {X:Cx}{v:V}{pos:Pos}(h:∃ u,X.mg x=some u/\RelV v u)(hg:Gl X x:=by rfl) (hd:(x == ("__debug__":Str))=false:=by decide):QE X (.Name x pos) (tC v):=⟨pe_gl (h:=h) (hg:=hg) (hd:=hd)⟩
theorem qe_ifExp {X:Cx}{c:Expr}(hc:QT X c tA)(ha:QE X a ta)(hb:QE X b tb):QE X (.IfExp c a b pos) (tIf tA ta tb):=⟨pe_ifExp (hc:=hc.h) (ha:=ha.h) (hb:=hb.h)⟩
theorem qe_int {X:Cx}{i j pos}:QE X (.Constant (.int i) j pos) (tC (.int i)):=⟨pe_int ⟩
theorem qe_ix {X:Cx}{r:R2}(hr:IxR X r)(ha:QE X a ta)(hb:QE X b tb)(hs:PlainIx b):QE X (.Subscript a b pos) (tOp r ta tb):=⟨pe_ix (hr:=hr) (ha:=ha.h) (hb:=hb.h) (hs:=hs)⟩
theorem qe_kget {X:Cx}(hm:∃ a,X.mg x=some (.ref a)/\KDict X.w X.K a kvs)(he:QE X e ty)(hg:Gl X x:=by rfl) (hd:(x == ("__debug__":Str))=false:=by decide)
    (hbase:attributeBase (.Name x p) "get" X.env (eval (.Name x p) X.env)=eval (.Name x p) X.env:=by rfl)
    (hfew:((backTo cpos (starEach [e] X.env)).all (fun x=>!x.1)&&(backToKw cpos (keywordEach [] X.env)).all (fun x=>x.1.isSome)
      && decide (([e]:List Expr).length+([]:List Keyword).length+(if ([]:List Keyword).isEmpty then 0 else 1)<30))=true:=by rfl)
    (hline:(apos.endLine == cpos.line)=true:=by rfl) (htr:backTo cpos (starEach [e] X.env)=[(false,eval e X.env)]:=by rfl) :
    QE X (.Call (.Attribute (.Name x p) "get" apos) [e] [] cpos) (tKGet kvs ty):=⟨pe_kget (hm:=hm) (he:=he.h) (hg:=hg) (hd:=hd) (hbase:=hbase) (hfew:=hfew) (hline:=hline) (htr:=htr)⟩
theorem qe_lst {X:Cx}(h:QA X es t):QE X (.List es pos) (tLst t):=⟨pe_lst (h:=h.h)⟩
theorem qe_non {X:Cx}{j pos}:QE X (.Constant .none j pos) (tC .non):=⟨pe_non ⟩
theorem qe_op {X:Cx}{op:Operator}{r:R2}(ho:OpR X (binaryOp op) r)(ha:QE X a ta)(hb:QE X b tb):QE X (.BinOp a op b pos) (tOp r ta tb):=⟨pe_op (ho:=ho) (ha:=ha.h) (hb:=hb.h)⟩
theorem qe_slice {X:Cx}{lo hi:Option Expr}{r:V->Option Int->Option Int->Hp->VK->Prop}(hr:SlR X r)(he:QE X e te)(hl:QO X lo tl)(hu:QO X hi th):QE X (.Subscript e (.Slice lo hi none p2) pos) (tSl r te tl th):=⟨pe_slice (hr:=hr) (he:=he.h) (hl:=hl.h) (hu:=hu.h)⟩
theorem qe_tup {X:Cx}{x1}(h:QA X es t):QE X (.Tuple es x1 pos) (tTup t):=⟨pe_tup (h:=h.h)⟩
theorem qe_un {X:Cx}{op:UnaryOp}{r:V->Hp->VK->Prop}(ho:UnR X (unaryOp op) r)(ha:QE X a ta):QE X (.UnaryOp op a pos) (tUn r ta):=⟨pe_un (ho:=ho) (ha:=ha.h)⟩
theorem qg_name {X:Cx}{i:Nat}{x:Str}(hN:X.N.Nodup)(hi:X.N[i]? = some x)(hx:Loc X.env.scope x)(hf:X.fn x=true\/X.env.scope.names.lookup x=some .local:=by first | exact .inl rfl | exact .inr rfl | assumption):QG X (.Name x pos) (gName i):=⟨pg_name (hN:=hN) (hi:=hi) (hx:=hx) (hf:=hf)⟩
theorem qg_tup {X:Cx}{es:List Expr}{k:Nat}{t:TGs}{n:Nat}(hc:X.calm=true)(h:QGs X es t)
    (hn:(assignEach es X.env).length=n:=by rfl) (hst:(assignEach es X.env).findIdx? (·.1)=none:=by rfl):QG X (.Tuple es k pos) (gTup X.K n t):=⟨pg_tup (hc:=hc) (h:=h.h) (hn:=hn) (hst:=hst)⟩
theorem qgs_cons {X:Cx}{e:Expr}{es:List Expr}{t:TG}{u:TGs}(h1:QG X e t)(h2:QGs X es u)
    (hs:(assignEach (e::es) X.env).map (·.2)=assign e X.env::(assignEach es X.env).map (·.2):=by rfl):QGs X (e::es) (gCons t u):=⟨pgs_cons (h1:=h1.h) (h2:=h2.h) (hs:=hs)⟩
theorem qgs_nil {X:Cx}:QGs X [] gNil:=⟨pgs_nil ⟩
theorem qi_enumS {X:Cx}{a:Expr}{ta:TA}{p pos:Pos}{elts:List Expr}{ek:Nat}{epos:Pos}(hg:Gl X "enumerate")(hm:X.mg "enumerate" = none)(ha:QA X [a] ta)(hs:starEach [a] X.env=[(false,eval a X.env)]:=by rfl) :
    QI X (.Tuple elts ek epos) (.Call (.Name "enumerate" p) [a] [] pos) (iEnumS ta):=⟨pi_enumS (hg:=hg) (hm:=hm) (ha:=ha.h) (hs:=hs)⟩
theorem qi_listK {X:Cx}{K:Frag}{tg l:Expr}{tl:TE}(hK:X.K=K)(hl:QE X l tl):QI X tg l (iList K tl):=⟨pi_listK (hK:=hK) (hl:=hl.h)⟩
theorem qi_range1 {X:Cx}{a:Expr}{ta:TA}{p pos:Pos}(hg:Gl X "range")(hm:X.mg "range" = none)(ha:QA X [a] ta)(hs:starEach [a] X.env=[(false,eval a X.env)]:=by rfl):QI X tg (.Call (.Name "range" p) [a] [] pos) (iRng1 ta):=⟨pi_range1 (hg:=hg) (hm:=hm) (ha:=ha.h) (hs:=hs)⟩
theorem qi_str {X:Cx}{l:Expr}{tl:TE}(hl:QE X l tl):QI X tg l (iStr tl):=⟨pi_str (hl:=hl.h)⟩
theorem qi_tupK {X:Cx}{K:Frag}{tg l:Expr}{tl:TE}(hK:X.K=K)(hl:QE X l tl):QI X tg l (iTup K tl):=⟨pi_tupK (hK:=hK) (hl:=hl.h)⟩
theorem qo_none {X:Cx}:QO X none tNoPart:=⟨po_none ⟩
theorem qo_some {X:Cx}(h:QE X e te):QO X (some e) (tPart te):=⟨po_some (h:=h.h)⟩
theorem qs_expr {X:Cx}(he:QE X e te)(hs:swapsWith e none pos.line X.env=pure false:=by rfl):QS X (.Expr e pos) (tDrop te):=⟨ps_expr (he:=he.h) (hs:=hs)⟩
theorem qs_for {X:Cx}{iter:Expr}{body:List Stmt}{wi:TI}{g:TG}{tb:TS}{pos:Pos}(hp:PassesOwn (model X.prog X.w) X.A X.env X.xe)(hc:X.calm=true)(hi:QI X tg iter wi)(hg:QG X tg g)(hb:QSs X body tb)
    (hs:∀ x,foldedSetIterable iter X.env x=pure x:=by intro _;rfl):QS X (.For tg iter body [] pos) (tFor wi g tb):=⟨ps_for (hp:=hp) (hc:=hc) (hi:=hi.h) (hg:=hg.h) (hb:=hb.h) (hs:=hs)⟩
theorem qs_if {X:Cx}{c:Expr}{a b:List Stmt}{tc:TT}(hc:QT X c tc)(ha:QSs X a t)(hb:QSs X b u):QS X (.If c a b pos) (tIfS tc t u):=⟨ps_if (hc:=hc.h) (ha:=ha.h) (hb:=hb.h)⟩
theorem qs_never {X:Cx}{st:Stmt}:QS X st tNever:=⟨ps_never ⟩
theorem qs_raise {X:Cx}(hx:Thr X E)(R:Err X.prog X.w X.K X.mg X.base x C f pay)(hr:Room j X.A)(hj:2<=j)(ha:QA X (e::es) t)(hg:Gl X x:=by rfl) (hdb:(x == ("__debug__":Str))=false:=by decide)
    (he:starEach (e::es) X.env=(false,eval e X.env)::starEach es X.env:=by rfl) (hpl:(backTo cpos (starEach es X.env)).any (·.1)=false:=by rfl) :
    QS X (.Raise (some (.Call (.Name x np) (e::es) [] cpos)) none pos) (tRaise C f pay E t):=⟨ps_raise (hx:=hx) (R:=R) (hr:=hr) (hj:=hj) (ha:=ha.h) (hg:=hg) (hdb:=hdb) (he:=he) (hpl:=hpl)⟩
theorem qs_ret {X:Cx}(he:QE X e te):QS X (.Return (some e) pos) (tRet te):=⟨ps_ret (he:=he.h)⟩
theorem qs_set {X:Cx}{i:Nat}{x:Str}{e:Expr}{te:TE}{pos':Pos}(hN:X.N.Nodup)(hi:X.N[i]? = some x)(hx:Loc X.env.scope x)(he:QE X e te)(hs:swapsWith e (some (.Name x pos')) pos.line X.env=pure false:=by rfl) (hf:X.fn x=true\/X.env.scope.names.lookup x=some .local:=by first | exact .inl rfl | exact .inr rfl | assumption) :
    QS X (.Assign [.Name x pos'] e pos) (tAsg te (gName i)):=⟨ps_set (hN:=hN) (hi:=hi) (hx:=hx) (he:=he.h) (hs:=hs) (hf:=hf)⟩
theorem qs_try {X:Cx}(hm:X.mg x=some (.ref Dc))(cD:XCl X.K Dc)(hN:X.N.Nodup)(hi:X.N[i]? = some n)(hl:X.env.scope.names.lookup n=some .local)(hst:X.stack=X.env::X.outer)(hf:X.env.frame=some X.env.locals)
    (hb:∀ (E:XS) (pn:List (Addr×Obj)) (xe:Value->Shared->Prop),PassesOwn (model X.prog X.w) X.A X.env xe->Thr (X.tryIn pn xe) E->QSs (X.tryIn pn xe) body (tb E))
    (hh:∀ pn ea,QSs (X.exIn pn ea) (b₀::suite) th) (hg:Gl X x:=by rfl) (hdb:(x == ("__debug__":Str))=false:=by decide) :
    QS X (.Try body [.ExceptHandler (some (.Name x np)) (some n) (b₀::suite) hpos] [] [] pos) (tTry X.K Dc i tb th):=⟨ps_try (hm:=hm) (cD:=cD) (hN:=hN) (hi:=hi) (hl:=hl) (hst:=hst) (hf:=hf) (hb:=fun E pn xe a b=>(hb E pn xe a b).h) (hh:=fun pn ea=>(hh pn ea).h) (hg:=hg) (hdb:=hdb)⟩
theorem qss_cons {X:Cx}{rest:List Stmt}{st:Stmt}(h1:QS X st t)(h2:QSs X rest u):QSs X (st::rest) (tSeq t u):=⟨pss_cons (h1:=h1.h) (h2:=h2.h)⟩
theorem qss_nil {X:Cx}:QSs X [] tNext:=⟨pss_nil ⟩
theorem qss_one {X:Cx}{st:Stmt}(h1:QS X st t):QSs X [st] t:=⟨pss_one (h1:=h1.h)⟩
theorem qt_cmpR {X:Cx}{op:CmpOp}{r:R2}(ho:OpR X (compareOp op) r)(ha:QE X a ta)(hb:QE X b tb)(hm:behindInMarks op b=false):QT X (.Compare a [op] [b] pos) (tTest (tOp r ta tb)):=⟨pt_cmpR (ho:=ho) (ha:=ha.h) (hb:=hb.h) (hm:=hm)⟩
theorem qt_not {X:Cx}(ha:QT X a tA):QT X (.UnaryOp .Not a pos) (tNot tA):=⟨pt_not (ha:=ha.h)⟩
theorem qt_truthK {X:Cx}{K:Frag}(hK:X.K=K)(ha:QE X a ta)(he:∀ whole,isTrue a X.env whole=(do let v ← whole;standAt a.pos;holding [v] (truthy v)):=by intro _;rfl):QT X a (tTruK K ta):=⟨pt_truthK (hK:=hK) (ha:=ha.h) (he:=he)⟩
theorem qt_val {X:Cx}{e:Expr}{t:TE}(h:QE X e t)(he:∀ whole,isTrue e X.env whole=(do let v ← whole;standAt e.pos;holding [v] (truthy v)):=by intro _;rfl):QT X e (tB t):=⟨pt_val (h:=h.h) (he:=he)⟩
theorem qts_nil {X:Cx}:QTs X [] tTrue:=⟨pts_nil ⟩
theorem qv {X:Cx}(i:Nat){x:Str}{pos:Pos}(hN:X.N[i]? = some x:=by rfl) (hv:Vis X.env.scope x:=by first | exact Or.inl rfl | exact Or.inr (Or.inl rfl) | exact Or.inr (Or.inr rfl)) (hd:(x == ("__debug__":Str))=false:=by decide)
    (hcd:(x == ("__classdict__":Str))=false:=by decide):QE X (.Name x pos) (tVar i):=⟨pv (i:=i) (hN:=hN) (hv:=hv) (hd:=hd) (hcd:=hcd)⟩
theorem qw_and {X:Cx}{rest:List Expr}(ha:QT X a tA)(hb:QW X (.BoolOp .And (b::rest) pos) tB'):QW X (.BoolOp .And (a::b::rest) pos) (tAnd tA tB'):=⟨pw_and (ha:=ha.h) (hb:=hb.h)⟩
theorem qw_and1 {X:Cx}(ha:QT X a tA):QW X (.BoolOp .And [a] pos) tA:=⟨pw_and1 (ha:=ha.h)⟩
theorem qw_or {X:Cx}{rest:List Expr}(ha:QT X a tA)(hb:QW X (.BoolOp .Or (b::rest) pos) tB'):QW X (.BoolOp .Or (a::b::rest) pos) (tOr tA tB'):=⟨pw_or (ha:=ha.h) (hb:=hb.h)⟩
theorem qw_or1 {X:Cx}(ha:QT X a tA):QW X (.BoolOp .Or [a] pos) tA:=⟨pw_or1 (ha:=ha.h)⟩
theorem QW.qt {X:Cx}{e:Expr}{t:TT}(h:QW X e t):QT X e t:=⟨h.h.pt⟩
end
end L2
set_option autoImplicit false
namespace L2
open PySem PySem.Spec PySem.Calls PyProof.Rows PySem.W
section
variable {X:Cx} {pins:List (Addr×Obj)} {σ:St} {H:Hp} {s:Shared} {a b:Addr} {kvs more:List (Key×V)} {A:Around} {E:Value->Shared->Prop}
end
noncomputable def tDUpd (td ty:TE):TE:=fun σ H Q=>td σ H fun x H1=>∃ a,x=.ref a/\IsD H1 a/\ty σ H1 fun y H2=>∃ b kvs more,y=.ref b/\a≠b/\H2 a=some (.dK kvs)/\H2 b=some (.dK more)/\kvs.length+more.length<=sizeLine/\Q .non (upd H2 a (.dK (mergeK kvs more)))
section
variable {X:Cx} {o e:Expr} {apos cpos:Pos} {td ty:TE}
end
end L2
namespace L2
open PySem PySem.Spec PyProof.Rows
section
variable {X:Cx} {tg:Expr}
noncomputable def Itd (lo d:Int)(n:Nat):It:=⟨fun i _=>i<n,fun i H x H'=>H' = H/\x=.int (lo+i * d),fun i _=>n<=i⟩
theorem turn_rangeD {P:Program}{w:World}{K:PySem.W.Frag}{tg:Expr}(it:Addr)(lo d:Int)(n:Nat):Turn P w K tg (Itd lo d n) [it] it (fun i h=>IsRangeIter h it (lo+(i:Nat) * d) ((n:Int) - (i:Nat)) d) where
  mem:=by simp
  obj:=fun i h st b hb=>by
    have e:b=it:=by simpa using hb
    subst e
    exact⟨_,st,fun v z=>by
      have z':Data.fields _=Data.cell v:=z
      cases z'⟩
  keep:=fun i h h' st k=>k it (by simp) _ st
  item:=by
    intro X hP hw hK hc i pins s σ H E I hf st hg
    subst hP hw hK
    obtain⟨f0,f1,f2,f3,f4,f5⟩:=hf it (by simp)
    have W:=Walks.range (prog:=X.prog) (w:=X.w) (I.ok.hd hc) it lo d n
    refine W.item i s _ _ hg st fun v h' tk hv st' kk=>?_
    obtain⟨t,rfl⟩:=hv
    have I1:Inv X pins σ H { s with heap:=h',toks:=tk }:=I.turned (fun b o hb e=>kk b o (by simpa using hb) e) f0 f1 f3 f4 f5
    exact⟨_,rfl,go_of (s:={ s with heap:=h',toks:=tk }) (n:="range_iterator") st' rfl rfl (by decide) ⟨.int (lo+i * d),H,I1,⟨t,rfl⟩,⟨rfl,rfl⟩,st',fun b hb=>(hf b hb).1⟩⟩
  done:=by
    intro X hP hw hK hc i pins s σ H E I hf st hg
    subst hP hw hK
    obtain⟨f0,f1,f2,f3,f4,f5⟩:=hf it (by simp)
    exact wpAny_pyNext_range_end (I.ok.hd hc) st (by have:n<=i:=hg;lia) fun h' eb=>⟨rfl,I.turned (t':=s.toks) (fun b o hb e=>eb b o hb e) f0 f1 f3 f4 f5⟩
  self:=fun _ _ _ _ _ st h=>wpAny_pyIter_rangeiter st h
theorem range_itD {pins:List (Addr×Obj)}{σ:St}{H:Hp}{s:Shared}{R:It->Hp->Prop}{E:Value->Shared->Prop}{lo hi d:Int}{n:Nat}{t u v:Tok}{tk:Nat}(I:Inv X pins σ H s)(hs:Builtin.Range.small lo hi d=true)(hn:(n:Int)=Builtin.Range.rangeSize lo hi d)
    (q:R (Itd lo d n) H):wpAny (model X.prog X.w) X.A (pyIter (.ref s.heap.objs.size)) (PIE X pins σ tg R) E { s with heap:=s.heap.push { cls:=.type "range",data:=.fields #[.int lo t,.int hi u,.int d v] },toks:=tk }:=by
  refine wpAny_pyIter_range (IsRange.new ..) hs ?_
  have I1:Inv X pins σ H { s with heap:=s.heap.push { cls:=.type "range",data:=.fields #[.int lo t,.int hi u,.int d v] },toks:=tk }:=I.kept fun b o e=>Heap.get?_push_of_some _ e
  refine⟨(s.heap.push { cls:=.type "range",data:=.fields #[.int lo t,.int hi u,.int d v] }).objs.size,[(s.heap.push { cls:=.type "range",data:=.fields #[.int lo t,.int hi u,.int d v] }).objs.size],_,_,H,rfl,
    I1.kept (t':=tk) fun b o e=>Heap.get?_push_of_some _ e,turn_rangeD _ lo d n,?_,fun b hb=>?_,q⟩
  · have e1:lo+((0:Nat):Int) * d=lo:=by simp
    have e2:((n:Nat):Int) - ((0:Nat):Int)=Builtin.Range.rangeSize lo hi d:=by rw [← hn];simp
    show IsRangeIter _ _ (lo+((0:Nat):Int) * d) (((n:Nat):Int) - ((0:Nat):Int)) d
    rw [e1,e2]
    exact Heap.get?_push_size _ rfl
  · have e:b=(s.heap.push { cls:=.type "range",data:=.fields #[.int lo t,.int hi u,.int d v] }).objs.size:=by simpa using hb
    subst e
    exact I1.fpOk (Nat.le_refl _) (I1.hok.fresh (Nat.le_refl _))
noncomputable def iRng3 (ta:TA):TI:=fun σ H R=>ta σ H fun vs H1=>∃ i j k:Int,vs=[.int i,.int j,.int k]/\(k≠0/\Builtin.Range.small i j k=true/\Builtin.divisionGoesByPylong (j - i) k=false)/\∃ n:Nat,(n:Int)=Builtin.Range.rangeSize i j k/\R (Itd i k n) H1
theorem pi_range3 {a b c:Expr}{ta:TA}{p pos:Pos}(hg:Gl X "range")(hm:X.mg "range" = none)(ha:PA X [a,b,c] ta)(hs:starEach [a,b,c] X.env=[(false,eval a X.env),(false,eval b X.env),(false,eval c X.env)]:=by rfl) (hs2:starEach [b,c] X.env=[(false,eval b X.env),(false,eval c X.env)]:=by rfl) :
    PI X tg (.Call (.Name "range" p) [a,b,c] [] pos) (iRng3 ta):=by
  intro pins s σ H R I h
  refine Call_ (ld_blt I hg hm boot_range (PyProof.Rows.callWith_type1 (thn (ha pos pins s σ H _ I h) fun us s1 ⟨vs,H1,I1,r1,q1⟩=>?_) (by rw [hs,hs2]) (by rw [hs2];rfl)))
  obtain⟨i,j,k,e,⟨q1,q2,q3⟩,n,hn,q⟩:=q1
  subst e
  cases r1 with
  | cons r rr=>
    cases rr with
    | cons r' rr=>
      cases rr with
      | cons r'' rr=>
        cases rr
        obtain⟨t,rfl⟩:=r
        obtain⟨t',rfl⟩:=r'
        obtain⟨t'',rfl⟩:=r''
        exact call_range_3 q1 (range_itD I1 q2 hn q) (.inl q3)
theorem qi_range3 {X:Cx}{a b c:Expr}{ta:TA}{p pos:Pos}(hg:Gl X "range")(hm:X.mg "range" = none)(ha:QA X [a,b,c] ta)(hs:starEach [a,b,c] X.env=[(false,eval a X.env),(false,eval b X.env),(false,eval c X.env)]:=by rfl) (hs2:starEach [b,c] X.env=[(false,eval b X.env),(false,eval c X.env)]:=by rfl) :
    QI X tg (.Call (.Name "range" p) [a,b,c] [] pos) (iRng3 ta):=⟨pi_range3 (hg:=hg) (hm:=hm) (ha:=ha.h) (hs:=hs) (hs2:=hs2)⟩
theorem fb_rangeD {lo d:Int}{n:Nat}{g:TG}{tb:TS}{D:Ends}{σ:L2.St}{H:Hp}(Pv:Nat->L2.St->Hp->Prop)(h0:Pv 0 σ H)
    (hs:∀ i σ H,i<n->Pv i σ H->g (.int (lo+(i:Int) * d)) σ H fun σ2 H2=>tb { D with nx:=Pv (i+1),ct:=Pv (i+1),bk:=D.nx } σ2 H2) (hd:∀ σ H,Pv n σ H->D.nx σ H):forBody (Itd lo d n) g tb D σ H:=by
  refine⟨fun i m σ H=>m=n - i/\i<=n/\Pv i σ H,⟨n,by simp,Nat.zero_le _,h0⟩,?_⟩
  rintro i m σ H ⟨rfl,hi,p⟩
  by_cases hlt:i<n
  · refine .inr ⟨hlt,Pv (i+1),fun σ' H' p'=>⟨n - (i+1),by lia,rfl,hlt,p'⟩,fun x H' y=>?_⟩
    obtain⟨rfl,rfl⟩:=y
    exact hs i σ _ hlt p
  · have e:i=n:=by lia
    subst e
    exact .inl ⟨Nat.le_refl _,hd σ H p⟩
end
end L2
namespace L2
open PySem PySem.Spec PyProof.Rows
section
variable {X:Cx} {elt iter:Expr} {x:Str} {px pos:Pos} {ifs:List Expr} {scope:Scope} {wi:TI} {tt:TT} {te:TE}
end
end L2
namespace L2
open PySem PySem.Spec PyProof.Rows
section
variable {X:Cx}
noncomputable def rMulL:R2:=fun x y H Q=>∃ (a:Addr) (xs:List V) (n:Int),x=.ref a/\y=.int n/\H a=some (.lst xs)/\0<=n/\n<=100000/\xs.length * n.toNat<=16777216/\∀ p,H p=none->Q (.ref p) (upd H p (.lst (List.replicate n.toNat xs).flatten))
theorem vals_app {xs ys:List V}{us vs:List Value}(h:Vals xs us)(k:Vals ys vs):Vals (xs++ys) (us++vs):=by
  induction h with
  | nil=>exact k
  | cons a _ ih=>exact .cons a ih
theorem vals_rep {xs:List V}{us:List Value}(h:Vals xs us):∀ n,Vals (List.replicate n xs).flatten (List.replicate n us).flatten
  | 0=>.nil
  | n+1=>by
    rw [List.replicate_succ,List.replicate_succ,List.flatten_cons,List.flatten_cons]
    exact vals_app h (vals_rep h n)
theorem rep_len {α:Type}(xs:List α)(n:Nat):(List.replicate n xs).flatten.length=xs.length * n:=by
  induction n with
  | zero=>simp
  | succ n ih=>rw [List.replicate_succ,List.flatten_cons,List.length_append,ih,Nat.mul_succ,Nat.add_comm]
theorem op_mulL:OpR X (binaryOp .Mult) rMulL:=by
  intro pins s σ H x y v u Q I rx ry h
  obtain⟨a,xs,n,rfl,rfl,ha,h0,h1,hz,q⟩:=h
  cases rx
  obtain⟨t,rfl⟩:=ry
  obtain⟨its,rv,p⟩:=lst_at I ha
  obtain⟨⟨cls,dd,data,sl⟩,ho,hc,k,hd⟩:=id p
  simp only at hc hd
  subst hc hd
  have hlen:=rv.length
  have hw:(List.foldl (fun x1 x2=>x1++x2) #[] (List.replicate (if its.toArray.isEmpty=true then 0 else n.toNat) its.toArray))=((List.replicate n.toNat its).flatten).toArray:=by
    rw [listMul_foldl]
    split
    · rename_i he
      have:its=[]:=by simpa using he
      subst this
      simp
    · simp
  refine wpAny_binaryOp_repeat_ref (T:="list") (U:="int") (by decide) ⟨_,ho,rfl⟩ (fun s'=>typeIs_int s' n t) noFill_list_mul F.fills_int_mul F.slot_int_rmul repeat_list F.slot_int_index.lookup
    (call_meets F.slot_int_rmul (typeIs_int s n t) F.entry_int_rmul (F.args_int_rmul_2 _ _) (lm_int_rmul_list_any n t a its.toArray k dd sl) ⟨ho,rfl,⟨_,ho,rfl⟩,
      call_meets F.slot_list_mul ⟨_,ho,rfl⟩ F.entry_list_mul (F.args_list_mul_2 _ _) (lm_list_mul_any a its.toArray k dd sl n t ?_ ?_ ?_) ⟨ho,?_⟩⟩)
  · show ¬ (!(decide (-(2 ^ 63:Int)<=n)&&decide (n<2 ^ 63)))=true
    rw [decide_eq_true (by lia),decide_eq_true (by lia)]
    decide
  · have:its.toArray.size=xs.length:=by simp [hlen]
    rw [this]
    lia
  · have:its.toArray.size=xs.length:=by simp [hlen]
    rw [this]
    show ¬ decide (_ > sizeLine)=true
    rw [sizeLine_eq]
    simp
    lia
  · rw [hw]
    refine⟨.ref s.heap.objs.size,_,I.laid (t':=s.toks) (o:=.lst (List.replicate n.toNat xs).flatten) (fun b o e=>Heap.get?_push_of_some _ e) (Nat.le_refl _) ⟨by rw [rep_len,sizeLine_eq];lia,_,0,vals_rep rv n.toNat,Heap.get?_push_size _ rfl⟩,rfl,q _ (I.hok.fresh (Nat.le_refl _))⟩
noncomputable def rIsB:R2:=fun x y H Q=>∃ c,y=.bl c/\((∃ b,x=.bl b/\Q (.bl (b == c)) H))
noncomputable def rIsNotB:R2:=fun x y H Q=>∃ c,y=.bl c/\((∃ b,x=.bl b/\Q (.bl (!(b == c))) H))
noncomputable def rAllB:List V->Hp->VK->Prop:=fun xs H Q=>∃ (p:Addr) (bs:List Bool),xs=[.ref p]/\H p=some (.lst (bs.map V.bl))/\Q (.bl (bs.all id)) H
end
end L2
namespace L2
open PySem PySem.Spec PyProof.Rows
section
variable {X:Cx}
noncomputable def rEqTS:R2:=fun x y H Q=>(∃ (a:Addr) (xs:List V) (z:Str),x=.ref a/\y=.str z/\H a=some (.tup xs)/\Q (.bl false) H)\/∃ l m:List Nat,x=.str (S l)/\y=.str (S m)/\Q (.bl (decide (l=m))) H
theorem op_eqTS (hu:X.A.units+64<cLine):OpR X (compareOp .Eq) rEqTS:=by
  intro pins s σ H x y v u Q I rx ry h
  rcases h with⟨a,xs,z,rfl,rfl,ha,q⟩ | ⟨l,m,rfl,rfl,q⟩
  · cases rx
    obtain⟨t,rfl⟩:=ry
    obtain⟨its,r1,p1⟩:=tup_at I ha
    exact SeqAt.RcAt.tuple_str z t p1 (by lia) _ _ _ _ ⟨.bl _,H,I,rfl,q⟩
  · refine op_eq pins s σ H _ _ v u Q I rx ry ⟨rfl,?_⟩
    rw [show decide (V.str (S l)=V.str (S m))=decide (l=m) from by rw [Bool.eq_iff_iff];simp [S_inj]]
    exact q
end
end L2
namespace L2
open PySem PySem.Spec PyProof.Rows
noncomputable def pdV:V->Option PyData
  | .non=>some .none
  | .bl b=>some (.bool b)
  | .int i=>some (.int i)
  | .str x=>some (.str x)
  | _=>none
noncomputable def pdVs:List V->Option (List PyData)
  | []=>some []
  | v::r=>match pdV v,pdVs r with
    | some d,some ds=>some (d::ds)
    | _,_=>none
inductive PdA (H:Hp):Addr->PyData->Prop
  | lst {a xs ds}:H a=some (.lst xs)->pdVs xs=some ds->PdA H a (.list ds)
  | tup {a xs ds}:H a=some (.tup xs)->pdVs xs=some ds->PdA H a (.tuple ds)
  | dct {a} {kvs:List (Key×V)} {ks vs:List PyData}:H a=some (.dK kvs)->pdVs (kvs.map fun e=>kV e.1)=some ks->pdVs (kvs.map fun e=>e.2)=some vs->PdA H a (.dict (ks.zip vs))
theorem PdA.mono {H H':Hp}{a:Addr}{d:PyData}(h:PdA H a d)(g:Same H H'):PdA H' a d:=by
  cases h with
  | lst h e=>exact .lst (g _ _ h) e
  | tup h e=>exact .tup (g _ _ h) e
  | dct h e k=>exact .dct (g _ _ h) e k
def PdT (H:Hp)(x:V)(d:PyData):Prop:=pdV x=some d\/∃ a,x=.ref a/\PdA H a d
theorem PdT.mono {H H':Hp}{x:V}{d:PyData}(h:PdT H x d)(g:Same H H'):PdT H' x d:=by
  rcases h with h | ⟨a,e,h⟩
  · exact .inl h
  · exact .inr ⟨a,e,h.mono g⟩
noncomputable def rRepr:List V->Hp->VK->Prop:=fun xs H Q=>∃ (x:V) (d:PyData),xs=[x]/\PdT H x d/\d.showable=true/\d.shown.length<=sizeLine/\Q (.str d.shown) H
section
variable {X:Cx} {a b c:Expr} {ta tb tc:TE} {pos:Pos}
end
end L2
namespace L2
open PySem PySem.Spec PyProof.Rows
section
variable {X:Cx}
noncomputable def rMulT:R2:=fun x y H Q=>∃ (a:Addr) (xs:List V) (n:Int),x=.ref a/\y=.int n/\H a=some (.tup xs)/\xs≠[]/\2<=n/\n<=100000/\xs.length * n.toNat<=16777216/\∀ p,H p=none->Q (.ref p) (upd H p (.tup (List.replicate n.toNat xs).flatten))
end
end L2
namespace L2
open PySem PySem.Spec PyProof.Rows
def IsRevT (h:Heap)(a l:Addr)(i:Int):Prop:=∃ o,h.get? a=some o/\o.cls=.type "reversed"/\o.data=.fields #[.ref l,rawInt i]
section
variable {prog:Program} {w:World} {A:Around} {E:Value->Shared->Prop} {s:Shared}
theorem IsRevT.typeIs {a l:Addr}{i:Int}(x:IsRevT s.heap a l i):s.TypeIs (.ref a) "reversed":=let ⟨o,ho,hc,_⟩:=x;⟨o,ho,hc⟩
theorem IsRevT.at {h h':Heap}{a l:Addr}{i:Int}(x:IsRevT h a l i)(e:∀ o,h.get? a=some o->h'.get? a=some o):IsRevT h' a l i:=let ⟨o,ho,r⟩:=x;⟨o,e _ ho,r⟩
end
section
variable {X:Cx} {tg:Expr}
noncomputable def ItRT (K:PySem.W.Frag)(a:Addr)(n:Nat):It:=
  ⟨fun i H=>∃ xs x,SqT K H a xs/\xs.length=n/\xs.reverse[i]? = some x,fun i H x H'=>H' = H/\∀ xs,SqT K H a xs->xs.reverse[i]? = some x,fun i _=>i=n⟩
noncomputable def ItRL (K:PySem.W.Frag)(a:Addr)(n:Nat):It:=
  ⟨fun i H=>∃ xs x,SqL K H a xs/\xs.length=n/\xs.reverse[i]? = some x,fun i H x H'=>H' = H/\∀ xs,SqL K H a xs->xs.reverse[i]? = some x,fun i _=>i=n⟩
noncomputable def iRevT (K:PySem.W.Frag)(ta:TA):TI:=fun σ H R=>ta σ H fun vs H1=>∃ l xs,vs=[.ref l]/\SqT K H1 l xs/\R (ItRT K l xs.length) H1
noncomputable def iRevL (K:PySem.W.Frag)(ta:TA):TI:=fun σ H R=>ta σ H fun vs H1=>∃ l xs,vs=[.ref l]/\SqL K H1 l xs/\R (ItRL K l xs.length) H1
end
end L2
namespace L2
open PySem PySem.Spec PyProof.Rows
noncomputable def repN (c:Nat)(z:List Nat):List Nat->List Nat
  | []=>[]
  | k::r=>(if k=c then z else [k])++repN c z r
section
variable {X:Cx}
variable {st:Stmt} {rest:List Stmt} {t u:TS}
noncomputable def tRepl (c:Nat)(z:List Nat)(to:TE):TE:=fun σ H Q=>to σ H fun x H1=>∃ l,x=.str (S l)/\l.length<=100000/\Q (.str (S (repN c z l))) H1
end
end L2
namespace L2
open PySem PySem.Spec PyProof.Rows
section
variable {X:Cx} {pos:Pos}
end
noncomputable def hide (st:Addr)(H:Hp):Hp:=fun b=>if b=st then none else H b
theorem hide_le {st:Addr}{H:Hp}:Same (hide st H) H:=fun b o h=>by
  unfold hide at h
  split at h
  · cases h
  · exact h
theorem hide_ne {st b:Addr}{H:Hp}(h:b≠st):hide st H b=H b:=if_neg h
theorem hide_st {st:Addr}{H:Hp}:hide st H st=none:=if_pos rfl
theorem hide_mono {st:Addr}{H H':Hp}(g:Same H H'):Same (hide st H) (hide st H'):=fun b o h=>by
  by_cases e:b=st
  · rw [e,hide_st] at h;cases h
  · rw [hide_ne e] at h ⊢;exact g _ _ h
def Sd (K:PySem.W.Frag)(st a:Addr)(ns:List Int)(H:Hp):Prop:=(∃ n:Nat,H st=some (.lst [.ref a,.int n]))/\SqL K (hide st H) a (ns.map V.int)/\ns.length<=63
def Dr (st a:Addr)(H H':Hp):Prop:=Same (hide st H) (hide st H')/\∃ n:Nat,H' st=some (.lst [.ref a,.int n])
theorem Dr.trans {st a:Addr}{H H1 H2:Hp}(h:Dr st a H H1)(k:Dr st a H1 H2):Dr st a H H2:=⟨h.1.trans k.1,k.2⟩
theorem Sd.same {K:PySem.W.Frag}{st a:Addr}{ns:List Int}{H H':Hp}(h:Sd K st a ns H)(g:Same H H'):Dr st a H H':=by
  obtain⟨⟨n,hn⟩,_⟩:=h
  exact⟨hide_mono g,n,g _ _ hn⟩
theorem Sd.refl {K:PySem.W.Frag}{st a:Addr}{ns:List Int}{H:Hp}(h:Sd K st a ns H):Dr st a H H:=h.same (Same.refl H)
theorem Sd.ne {K:PySem.W.Frag}{st a p:Addr}{ns:List Int}{H:Hp}(h:Sd K st a ns H)(hp:H p=none):p≠st:=by
  obtain⟨⟨n,hn⟩,_⟩:=h
  rintro rfl
  rw [hn] at hp
  cases hp
theorem Sd.new {K:PySem.W.Frag}{st a p:Addr}{ns:List Int}{H:Hp}{o:HO}(h:Sd K st a ns H)(hp:H p=none):Dr st a H (upd H p o)/\hide st (upd H p o) p=some o:=⟨h.same (same_upd hp),by rw [hide_ne (h.ne hp)];exact upd_same⟩
end L2
namespace L2
open PySem PySem.Spec PyProof.Rows
section
variable {X:Cx} {e:Expr} {te:TE} {pos p2:Pos} {K:PySem.W.Frag}
noncomputable def tRevS (K:PySem.W.Frag)(te:TE):TE:=fun σ H Q=>te σ H fun x H1=>∃ a xs,x=.ref a/\SqL K H1 a xs/\∀ p,H1 p=none->Q (.ref p) (upd H1 p (.lst xs.reverse))
end
end L2
namespace L2
open PySem PySem.Spec PyProof.Rows
variable {X:Cx}
end L2
namespace L2
open PySem PySem.Spec PySem.Calls PyProof.Rows PySem.W Builtin Builtin.ObjectAttr
section
variable {prog:Program} {w:World} {A:Around} {E:Value->Shared->Prop} {K:Frag} {C:Addr}
end
section
variable {X:Cx} {E:XS} {C:Addr} {x:Str} {e:Expr} {es:List Expr} {t:TA} {np cpos pos:Pos} {j:Nat}
end
structure GotX (K:Frag)(H:Hp)(a C:Addr)(fs:List (Str×V)):Prop where
  cl:XCl K C
  ex:(∃ d,Caught H a C (some d)/\H d=some (.xd fs))\/(fs=[]/\Caught H a C none)
theorem GotX.mono {K:Frag}{H H':Hp}{a C:Addr}{fs:List (Str×V)}(g:GotX K H a C fs)(s:Same H H'):GotX K H' a C fs:=
  ⟨g.cl,g.ex.imp (fun⟨d,c,e⟩=>⟨d,c.mono s,s _ _ e⟩) fun⟨e,c⟩=>⟨e,c.mono s⟩⟩
section
variable {X:Cx} {pins:List (Addr×Obj)} {σ:St} {H:Hp} {s:Shared} {a C:Addr} {fs:List (Str×V)}
end
end L2
namespace L2
open PySem PySem.Spec PySem.Calls PyProof.Rows PySem.W
section
variable {prog:Program} {w:World} {A:Around} {R:Result->Shared->Prop} {I d:Addr} {fp wr:List Addr} {n:Nat} {P:Nat->Value->Prop} {St:Nat->Heap->Prop} {K:Type} [DecidableEq K] {knd:KeyKind prog w K}
end
section
variable {X:Cx} {pins:List (Addr×Obj)} {σ:L2.St} {H:Hp} {s:Shared}
end
end L2
namespace L2
open PySem PySem.Spec PySem.Calls PyProof.Rows PySem.W
section
variable {X:Cx} {pins:List (Addr×Obj)} {σ:L2.St} {H:Hp} {s:Shared}
end
end L2
namespace L2
open PySem PySem.Spec PySem.Calls PyProof.Rows PySem.W
section
variable {P:Program} {w:World} {A:Around} {s:Shared} {a b:Addr} {xs ys:Array Value} {R:Result->Shared->Prop}
end
section
variable {X:Cx} {pins:List (Addr×Obj)} {σ:L2.St} {H:Hp} {s:Shared}
def okV (x:V):Prop:=flatV x=true\/∃ a,x=.ref a
noncomputable def rNeI:R2:=fun x y H Q=>∃ a b xs,x=.ref a/\y=.ref b/\H a=some (.tup xs)/\H b=some (.tup xs)/\(∀ x∈xs,okV x)/\Q (.bl false) H
noncomputable def rEq0 (K:Frag):R2:=fun x y H Q=>∃ a b xs,x=.ref a/\y=.ref b/\SqL K H a xs/\SqL K H b []/\Q (.bl xs.isEmpty) H
noncomputable def rNe0 (K:Frag):R2:=fun x y H Q=>∃ a b xs,x=.ref a/\y=.ref b/\SqL K H a xs/\SqL K H b []/\Q (.bl (!xs.isEmpty)) H
def DcV (H:Hp)(x y:V):Prop:=∃ a b kvs,x=.ref a/\y=.ref b/\H a=some (.dK kvs)/\H b=some (.dK kvs)/\∀ kv∈kvs,okV kv.2
noncomputable def rEqDL (K:Frag):R2:=fun x y H Q=>∃ a b xs ys,x=.ref a/\y=.ref b/\SqL K H a xs/\SqL K H b ys/\xs.length=ys.length/\(∀ (j:Nat) x y,xs[j]? = some x->ys[j]? = some y->DcV H x y)/\Q (.bl true) H
end
section
variable {X:Cx}
noncomputable def rDIn:R2:=fun y x H Q=>∃ a o,x=.ref a/\DGet H a y o/\Q (.bl o.isSome) H
noncomputable def rSetD:TSet:=fun o i v H Q=>∃ a kvs k,o=.ref a/\i=kV k/\H a=some (.dK kvs)/\kvs.length<sizeLine/\Q (upd H a (.dK (putK kvs k v)))
noncomputable def rDictD:List V->Hp->VK->Prop:=fun xs H Q=>∃ a kvs,xs=[.ref a]/\H a=some (.dK kvs)/\∀ p,H p=none->Q (.ref p) (upd H p (.dK kvs))
end
def FnX (P:Program)(w:World)(K:Frag)(mg:Str->Option Value)(base:Heap)(k:Nat)(f:Addr)(sp:Sp):Prop:=∃ fd ps,keepIn K (.ref f)=true/\Binds K fd ps []/\FnOk P w K mg base (CXE P w) k f fd ps sp
section
variable {X:Cx} {k j:Nat} {o i:Expr} {p pos:Pos} {e:Expr} {es:List Expr} {tf:TE} {t:TA} {E:XS}
noncomputable def tCallXV (P:Program)(w:World)(K:Frag)(mg:Str->Option Value)(base:Heap)(k:Nat)(E:XS)(tf:TE)(t:TA):TE:=fun σ H Q=>tf σ H fun v H0=>∃ f sp,v=.ref f/\FnX P w K mg base k f sp/\t σ H0 fun vs H1=>sp vs H1 Q fun c d H'=>E c d σ H'
end
section
variable {X:Cx} {e:Expr} {te:TE}
end
section
variable {X:Cx} {elt iter:Expr} {x:Str} {px pos:Pos} {ifs:List Expr} {scope:Scope} {wi:TI} {tt:TT} {te:TE}
end
noncomputable def rListL (K:Frag):List V->Hp->VK->Prop:=fun xs H Q=>∃ p ys,xs=[.ref p]/\SqL K H p ys/\∀ l,H l=none->Q (.ref l) (upd H l (.lst ys))
theorem call_listL {X:Cx}{K:Frag}(hK:X.K=K):CallR X (.type "list") (rListL K):=by
  subst hK
  intro pins s σ H xs us Q I r h
  obtain⟨p,ys,e,h1,h2⟩:=h
  exact call_list_of pins s σ H xs us Q I r ⟨p,ys,e,.inl h1,h2⟩
end L2
namespace L2
open PySem PySem.Spec PySem.Calls PyProof.Rows PySem.W
structure OkM (P:Program)(w:World)(K:Frag)(mg:Str->Option Value)(base:Heap)(k:Nat)(C:Addr)(m:Str)(ps:List Str)(sp:Sp):Prop where
  ex:∃ (f:Addr) (fd:FuncData),Cls K C/\Meth K C m f/\Binds K fd ps []/\FnOk P w K mg base (CXE P w) k f fd ps sp
structure OkC (P:Program)(w:World)(K:Frag)(mg:Str->Option Value)(base:Heap)(k:Nat)(C:Addr)(x:Str)(ps:List Str)(sp:Sp):Prop where
  ex:∃ (f:Addr) (fd:FuncData),Mk K C f/\Binds K fd ps []/\mg x=some (.ref C)/\FnOk P w K mg base (CXE P w) k f fd ps sp
structure Dm (K:Frag)(C:Addr)(m qual:Str)(st:Stmt)(ps:List Str):Prop where
  ex:∃ (f:Addr) (fd:FuncData),Fun K m qual st f fd/\Binds K fd ps []/\Cls K C/\Meth K C m f
structure Dc (K:Frag)(mg:Str->Option Value)(C:Addr)(x qual:Str)(st:Stmt)(ps:List Str):Prop where
  ex:∃ (f:Addr) (fd:FuncData),Fun K "__init__" qual st f fd/\Binds K fd ps []/\Mk K C f/\mg x=some (.ref C)
section
variable {P:Program} {w:World} {K:Frag} {mg:Str->Option Value} {base:Heap} {k j:Nat} {C:Addr} {m x qual:Str} {st:Stmt} {ps N:List Str} {sp sp':Sp}
theorem OkM.mono (F:OkM P w K mg base j C m ps sp)(h:j<=k):OkM P w K mg base k C m ps sp:=by
  obtain⟨f,fd,c,hm,b,G⟩:=F.ex
  exact⟨f,fd,c,hm,b,G.mono h⟩
theorem OkM.imp (F:OkM P w K mg base k C m ps sp)(h:∀ vs H Q E,sp' vs H Q E->sp vs H Q E):OkM P w K mg base k C m ps sp':=by
  obtain⟨f,fd,c,hm,b,G⟩:=F.ex
  exact⟨f,fd,c,hm,b,G.imp h⟩
theorem Dm.ok (D:Dm K C m qual st ps)(Sc:FnScope N ps (defScope st))(len:∀ vs H Q E,sp vs H Q E->vs.length=ps.length)
    (hbody:∀ (f:Addr) (cdv:Value) (A:Around) (outer:List Env) (s:Shared) (H:Hp) (vs:List V) (Q:VK) (E:XK),Room k (A.deeper (envOfC qual (defScope st) s.heap.objs.size f cdv))->sp vs H Q E ->
      ∃ t,PSs (cxOf (CXE P w) P w K mg base N qual (defScope st) f cdv A outer s H E) (defBody st) t/\t { nx:=fun _ H'=>Q .non H',rt:=Q } (start N vs) H):OkM P w K mg base (k+1) C m ps sp:=by
  obtain⟨f,fd,F,b,cl,hm⟩:=D.ex
  refine⟨f,fd,cl,hm,b,?_⟩
  obtain⟨oc,od,kV,doc,pm,an,cdv,ct,osl,rfl,lk,hcd⟩:=F.ex
  exact fn_of lk hcd Sc len fun A outer s H vs Q E hr h=>hbody f cdv A outer s H vs Q E hr h
theorem Dc.ok (D:Dc K mg C x qual st ps)(Sc:FnScope N ps (defScope st))(len:∀ vs H Q E,sp vs H Q E->vs.length=ps.length)
    (hbody:∀ (f:Addr) (cdv:Value) (A:Around) (outer:List Env) (s:Shared) (H:Hp) (vs:List V) (Q:VK) (E:XK),Room k (A.deeper (envOfC qual (defScope st) s.heap.objs.size f cdv))->sp vs H Q E ->
      ∃ t,PSs (cxOf (CXE P w) P w K mg base N qual (defScope st) f cdv A outer s H E) (defBody st) t/\t { nx:=fun _ H'=>Q .non H',rt:=Q } (start N vs) H):OkC P w K mg base (k+1) C x ps sp:=by
  obtain⟨f,fd,F,b,M,hm⟩:=D.ex
  refine⟨f,fd,M,b,hm,?_⟩
  obtain⟨oc,od,kV,doc,pm,an,cdv,ct,osl,rfl,lk,hcd⟩:=F.ex
  exact fn_of lk hcd Sc len fun A outer s H vs Q E hr h=>hbody f cdv A outer s H vs Q E hr h
end
section
variable {X:Cx} {K:Frag} {k j:Nat} {C:Addr} {x m f:Str} {ps:List Str} {sp:Sp} {p pos apos pos':Pos} {e o value:Expr} {es:List Expr} {to ta tv:TE} {t:TA} {E:XS}
theorem qe_fld (hK:X.K=K)(he:QE X e ta)(hb:attributeBase e f X.env (eval e X.env)=eval e X.env:=by rfl):QE X (.Attribute e f pos) (tFld K ta f):=⟨by subst hK;exact pe_fld he.h hb⟩
theorem qs_fld (hK:X.K=K)(ha:QE X o ta)(hv:QE X value tv)(hs:swapsWith value (some (.Attribute o f pos')) pos.line X.env=pure false:=by rfl):QS X (.Assign [.Attribute o f pos'] value pos) (sFld K ta tv f):=⟨by subst hK;exact ps_fld ha.h hv.h hs⟩
theorem qe_methN {pl:Sem Bool}(F:OkM X.prog X.w X.K X.mg X.base k C m ps sp)(hr:Room j X.A)(hk:k<=j)(ho:QE X o to)(ha:QA X (e::es) t)
    (hst:starEach (e::es) X.env=(false,eval e X.env)::starEach es X.env:=by rfl) (hpl:(backTo pos (starEach es X.env)).any (·.1)=false:=by rfl)
    (ht:eval (.Call (.Attribute o m apos) (e::es) [] pos) X.env=(do
      let ov ← eval o X.env
      standAt apos.atName
      let (f,first) ← holding [ov] (getMethod ov m pl)
      callWith pos f first (backTo pos (starEach (e::es) X.env)) (backToKw pos (keywordEach [] X.env))):=by rfl) :
    QE X (.Call (.Attribute o m apos) (e::es) [] pos) (tMeth C m sp [] E0 to t):=by
  obtain⟨f,fd,cl,hm,b,G⟩:=F.ex
  exact⟨pe_meth ho.h cl hm G (hr.mono hk) b .nil passN ha.h hst hpl ht⟩
theorem qe_methN0 {pl:Sem Bool}(F:OkM X.prog X.w X.K X.mg X.base k C m ps sp)(hr:Room j X.A)(hk:k<=j)(ho:QE X o to)
    (ht:eval (.Call (.Attribute o m apos) [] [] pos) X.env=(do
      let ov ← eval o X.env
      standAt apos.atName
      let (f,first) ← holding [ov] (getMethod ov m pl)
      callWith pos f first (backTo pos (starEach [] X.env)) (backToKw pos (keywordEach [] X.env))):=by rfl) :
    QE X (.Call (.Attribute o m apos) [] [] pos) (tMeth C m sp [] E0 to tNil):=by
  obtain⟨f,fd,cl,hm,b,G⟩:=F.ex
  exact⟨pe_meth0 ho.h cl hm G (hr.mono hk) b .nil passN ht⟩
theorem qe_makeN (F:OkC X.prog X.w X.K X.mg X.base k C x ps sp)(hr:Room j X.A)(hk:k+1<=j)(ha:QA X (e::es) t)(hg:Gl X x:=by rfl) (hdb:(x == ("__debug__":Str))=false:=by decide)
    (he:starEach (e::es) X.env=(false,eval e X.env)::starEach es X.env:=by rfl) (hpl:(backTo pos (starEach es X.env)).any (·.1)=false:=by rfl):QE X (.Call (.Name x p) (e::es) [] pos) (tMake C sp [] E0 t):=by
  obtain⟨f,fd,M,b,hm,G⟩:=F.ex
  exact⟨pe_make M G (hr.mono hk) hg hm b .nil passN ha.h hdb he hpl⟩
noncomputable def tMethX (C:Addr)(m:Str)(sp:Sp)(E:XS)(ta:TE)(t:TA):TE:=fun σ H Q=>ta σ H fun x H1=>∃ a dx fs,x=.ref a/\H1 a=some (.ins C dx fs)/\fs.lookup m=none/\t σ H1 fun vs H2=>sp (x::vs) H2 Q fun c d H'=>E c d σ H'
theorem qe_methX {pl:Sem Bool}(hx:Thr X E)(F:OkM X.prog X.w X.K X.mg X.base k C m ps sp)(hr:Room j X.A)(hk:k<=j)(ho:QE X o to)(ha:QA X (e::es) t)
    (hst:starEach (e::es) X.env=(false,eval e X.env)::starEach es X.env:=by rfl) (hpl:(backTo pos (starEach es X.env)).any (·.1)=false:=by rfl)
    (ht:eval (.Call (.Attribute o m apos) (e::es) [] pos) X.env=(do
      let ov ← eval o X.env
      standAt apos.atName
      let (f,first) ← holding [ov] (getMethod ov m pl)
      callWith pos f first (backTo pos (starEach (e::es) X.env)) (backToKw pos (keywordEach [] X.env))):=by rfl) :
    QE X (.Call (.Attribute o m apos) (e::es) [] pos) (tMethX C m sp E to t):=by
  refine⟨fun pins s σ H Q I h=>?_⟩
  obtain⟨f,fd,cl,hm,b,G⟩:=F.ex
  refine PySem.W.methodCall_KW (pl:=pl) (thn (ho.h pins s σ H _ I h) fun u s1 ⟨x,H1,I1,rx,a,dx,fs,ex,ea,l,q⟩=>?_) ht
  subst ex
  obtain rfl:u=Value.ref a:=rx
  refine getmeth_ok I1 ea cl hm l ?_
  refine PySem.W.callWith_K (first:=[.ref a]) (h₀:=X.base) I.ok.mod.kin hm.kp (thn (ha.h pos pins s1 σ H1 _ I1 q) fun us s2 ⟨vs,H2,I2,r,q2⟩=>⟨I2.kIn,?_⟩) hst hpl
  exact run_fnX (us:=.ref a::us) (vs:=.ref a::vs) G (hr.mono hk) b hx I2 (.cons rfl r) q2
end
end L2
namespace L2
open PySem PySem.Spec PySem.Calls PyProof.Rows PySem.W
structure RoomN (k:Nat)(A:Around):Prop where
  dp:A.depth+3 * k+5<recursionLimit
  un:A.units+16 * k+200<cLine
  gd:A.guards=some []
theorem Room.n {k:Nat}{A:Around}(r:Room k A):RoomN k A:=⟨r.dp,r.un,r.gd⟩
theorem RoomN.mono {j k:Nat}{A:Around}(r:RoomN k A)(h:j<=k):RoomN j A:=⟨by have:=r.dp;lia,by have:=r.un;lia,r.gd⟩
theorem RoomN.deeper {k:Nat}{A:Around}(r:RoomN (k+1) A)(env:Env):RoomN k (A.deeper env):=
  ⟨by have:=r.dp;show A.depth+1+3 * k+5<_;lia,by have:=r.un;show A.units+3+16 * k+200<_;lia,r.gd⟩
theorem RoomN.depth {k:Nat}{A:Around}(r:RoomN k A):A.depth<recursionLimit:=by have:=r.dp;lia
structure FnOkN (P:Program)(w:World)(K:PySem.W.Frag)(mg:Str->Option Value)(base:Heap)(CX:CXT)(k:Nat)(f:Addr)(fd:FuncData)(ps:List Str)(sp:Sp):Prop where
  len:∀ vs H Q E,sp vs H Q E->vs.length=ps.length
  run:∀ (A:Around) (outer:List Env) (s:Shared) (H:Hp) (args:Args) (us:List Value) (vs:List V) (Q:VK) (E:XK),RoomN k A->Env0 P w K mg base A outer s H->BindsTo s fd args (ps.zip us)->Vals vs us->sp vs H Q E ->
    codeAny (model P w) A (.call (.ref f) args) (CR CX outer P w H s Q E) s
theorem FnOkN.ok {P:Program}{w:World}{K:PySem.W.Frag}{mg:Str->Option Value}{base:Heap}{CX:CXT}{k:Nat}{f:Addr}{fd:FuncData}{ps:List Str}{sp:Sp}(F:FnOkN P w K mg base CX k f fd ps sp):FnOk P w K mg base CX k f fd ps sp:=⟨F.len,fun A outer s H args us vs Q E hr=>F.run A outer s H args us vs Q E hr.n⟩
noncomputable abbrev cxOfN (CX:CXT)(P:Program)(w:World)(K:PySem.W.Frag)(mg:Str->Option Value)(base:Heap)(N:List Str)(qual:Str)(scope:Scope)(f:Addr)(cd:Value)(A:Around)(outer:List Env)(s:Shared)(H:Hp)(E:XK):Cx:={ cxOf CX P w K mg base N qual scope f cd A outer s H E with calm:=false }
theorem inv_startN {CX:CXT}{P:Program}{w:World}{K:PySem.W.Frag}{mg:Str->Option Value}{base:Heap}{N ps:List Str}{qual:Str}{scope:Scope}{f:Addr}{cd:Value}{A:Around}{outer:List Env}{s s1:Shared}{H:Hp}{E:XK}{us:List Value}{vs:List V}
    (S:FnScope N ps scope) (e0:Env0 P w K mg base A outer s H) (hl:vs.length=ps.length) (r:Vals vs us)
    (x:InCallC s s.heap.objs.size (bindL (envOfC qual scope s.heap.objs.size f cd).kindOf (ps.zip us) fun _=>none) (cellsFrom (s.heap.objs.size+1) scope.names []) (bindC (envOfC qual scope s.heap.objs.size f cd).kindOf (ps.zip us) fun _=>none) s1) :
    Inv (cxOfN CX P w K mg base N qual scope f cd A outer s H E) [] (start N vs) H s1:=by
  have hpl:ps.length<=N.length:=by have:=congrArg List.length S.pre;rw [List.length_take] at this;lia
  obtain⟨h1,tk,rfl,hk⟩:=x.done
  have noA:∀ b:Addr,b∉(cxOfN CX P w K mg base N qual scope f cd A outer s H E).ex:=fun b z=>absurd (show b∈([]:List Addr) from z) (by simp)
  refine⟨⟨e0.mod,S.kind,rfl,rfl,Nat.le_refl _,fun y z c h1 h2=>?_,fun y hy=>?_,fun y c _ h=>?_,fun z=>absurd (show false=true from z) (by decide),Around.frames_deeper e0.frames,.inr ⟨rfl,rfl⟩,fun b z=>absurd z (noA b),e0.bs,e0.bsz,fun b _ _=>noA b,fun b z=>absurd z (noA b),e0.funs,e0.frf⟩,
    rfl,e0.bare,Un.kept hk,⟨_,x.toInCall.ns,fun i y v h1 h2 h3=>?_⟩,fun y c h=>⟨_,x.cell y c h⟩,e0.hok.fresh (Nat.le_refl _),fun y c h=>?_,fun p hp=>absurd (show p∈([]:List (Addr×Obj)) from hp) (by simp),e0.hok.kept hk,?_⟩
  · exact name_of_addr x.apart (PySem.mem_of_lookup h1) (PySem.mem_of_lookup h2)
  · have hy:scope.names.lookup y=some .cell\/scope.names.lookup y=some .free:=hy
    rcases hy with hy | hy
    · exact cell_has hy
    · exact absurd rfl (S.nofree _ (PySem.mem_of_lookup hy))
  · exact Nat.le_of_lt (x.above y c (PySem.mem_of_lookup h))
  · have hi:i<vs.length:=by
      unfold start at h2
      by_cases hi:i<vs.length
      · exact hi
      · rw [List.getElem?_append_right (by simpa using hi)] at h2
        rw [List.getElem?_replicate] at h2
        split at h2<;>cases h2
    have ha:vs[i]? = some v:=by
      unfold start at h2
      rw [List.getElem?_append_left (by simpa using hi),List.getElem?_map] at h2
      cases e:vs[i]? with
      | none=>rw [e] at h2;cases h2
      | some a=>rw [e] at h2;cases h2;rfl
    obtain⟨u,hu,rv⟩:=r.get ha
    have hp:ps[i]? = some y:=by
      rw [← S.pre,List.getElem?_take_of_lt (by lia)];exact h1
    have ndP:ps.Nodup:=by rw [← S.pre];exact S.nd.sublist (List.take_sublist _ _)
    refine⟨u,rv,?_⟩
    rcases S.par y (List.mem_of_getElem? hp) with k | k
    · exact .inl ⟨k,bindL_get ndP hp hu k⟩
    · obtain⟨c,e⟩:=cell_has (n:=s.heap.objs.size+1) k
      refine .inr ⟨.inl k,c,e,?_⟩
      have q:=x.cell y c e
      rw [bindC_get ndP hp hu (by show scope.names.lookup y≠_;rw [k];decide)] at q
      exact q
  · exact e0.hok.fresh (Nat.le_of_lt (x.above y c (PySem.mem_of_lookup h)))
  · unfold start
    show _=N.length
    rw [List.length_append,List.length_map,List.length_replicate]
    lia
theorem fn_ofN {CX:CXT}{P:Program}{w:World}{K:PySem.W.Frag}{mg:Str->Option Value}{base:Heap}{k:Nat}{f:Addr}{name qual:Str}{params:Arguments}{body:List Stmt}{scope:Scope}{dV kV doc pm cdv ct oc:Value}{an od:Option Addr}
    {osl:Array (Option Value)} {N ps:List Str} {sp:Sp} (lk:K.lookup f=some ⟨oc,od,.func (PySem.W.fnOf name qual params body scope dV kV doc pm an cdv ct),osl⟩) (hcd:PySem.W.codeIn K cdv qual=true) (S:FnScope N ps scope)
    (len:∀ vs H Q E,sp vs H Q E->vs.length=ps.length)
    (hbody:∀ (A:Around) (outer:List Env) (s:Shared) (H:Hp) (vs:List V) (Q:VK) (E:XK),RoomN k (A.deeper (envOfC qual scope s.heap.objs.size f cdv))->sp vs H Q E ->
      ∃ t,PSs (cxOfN CX P w K mg base N qual scope f cdv A outer s H E) body t/\t { nx:=fun _ H'=>Q .non H',rt:=Q } (start N vs) H) :
    FnOkN P w K mg base CX (k+1) f (PySem.W.fnOf name qual params body scope dV kV doc pm an cdv ct) ps sp:=by
  refine⟨len,fun A outer s H args us vs Q E hr e0 hb r hsp=>?_⟩
  have hl:=len _ _ _ _ hsp
  have KX:K.In s.heap:=e0.mod.kin.keeps fun b o e=>(e0.bs b o e).1
  have lim:s.heap.NoLimit:=e0.mod.nolimit.keeps fun b o e=>(e0.bs b o e).1
  have hkind:∀ y∈ps.zip us,scope.names.lookup y.1=some .local\/(scope.names.lookup y.1=some .cell/\((cellsFrom (s.heap.objs.size+1) scope.names []).lookup y.1).isSome=true):=fun⟨n,v⟩ hy=>by
    rcases S.par n (List.of_mem_zip hy).1 with q | q
    · exact .inl q
    · exact .inr ⟨q,PySem.W.cellsFrom_some _ _ _ (.inl q)⟩
  refine codeAny_call_function hr.depth (KX _ _ lk) rfl S.co S.gen rfl (PySem.W.codeRec_of KX hcd) (hb _ _ _ _ ?_)
  refine wpAny_newFunctionEnv_cells S.kind hkind fun env he s1 x=>?_
  subst he
  refine⟨lim.keeps x.toInCall.keep,codeAny_func ?_⟩
  obtain⟨t,ht,hq⟩:=hbody A outer s H vs Q E (hr.deeper _) hsp
  have I:Inv (cxOfN CX P w K mg base N qual scope f cdv A outer s H E) [] (start N vs) H s1:=inv_startN S e0 hl r x
  refine wpAny_mono (ht [] s1 (start N vs) H _ I hq) (fun fl s' hs=>?_) fun e s' hs=>hs
  have fin:∀ {σ':St} {H':Hp} {v:V} {u:Value},Inv (cxOfN CX P w K mg base N qual scope f cdv A outer s H E) [] σ' H' s'->RelV v u->Q v H'->CE outer P w H s Q u s':=
    fun {σ' H' v u} J rv q=>⟨v,H',J.os,J.bare,J.base,J.hok,rv,q⟩
  cases fl with
  | ret u=>
    obtain⟨v,σ',H',J,rv,q⟩:=hs
    exact fin J rv q
  | next=>
    obtain⟨σ',H',J,q⟩:=hs
    exact fin (v:=V.non) (u:=Value.none) J rfl q
  | brk=>
    obtain⟨_,_,_,q⟩:=hs
    exact False.elim q
  | cont=>
    obtain⟨_,_,_,q⟩:=hs
    exact False.elim q
section
variable {X:Cx} {CX:CXT} {k:Nat} {f C:Addr} {fd:FuncData} {ps:List Str} {sp:Sp} {dvs:List V} {ds:List Value} {E:XK} {x m:Str} {p pos apos:Pos} {e o:Expr} {es:List Expr} {ta:TE} {t:TA}
theorem run_fnH {pins:List (Addr×Obj)}{σ:St}{H:Hp}{s:Shared}{Q:VK}{us:List Value}{vs:List V}(F:FnOkN X.prog X.w X.K X.mg X.base CX k f fd ps sp)(hr:RoomN k X.A)(hb:Binds X.K fd ps ds)(hd:Vals dvs ds)(hx:Passes CX X E)
    (I:Inv X pins σ H s) (r:Vals vs us) (h:sp (vs++dvs) H Q E):wpAny (model X.prog X.w) X.A (call (.ref f) us) (EP X pins σ Q) X.xe s:=by
  have r2:Vals (vs++dvs) (us++ds):=r.append hd
  have hl:(us++ds).length=ps.length:=by rw [← r2.length];exact F.len _ _ _ _ h
  refine wpAny_call (codeAny_mono (F.run X.A X.stack s H ⟨us,[]⟩ (us++ds) (vs++dvs) Q E hr I.env0 (hb s us I.kIn hl) r2 h) fun r s' hq=>?_)
  cases r with
  | error e=>exact hx pins σ H s e s' I hq
  | ok fl=>
    cases fl with
    | ret u=>exact I.after hq
    | next=>exact False.elim hq
    | brk=>exact False.elim hq
    | cont=>exact False.elim hq
theorem pe_meth0H {pl:Sem Bool}(he:PE X o ta)(c:Cls X.K C)(hm:Meth X.K C m f)(F:FnOkN X.prog X.w X.K X.mg X.base CX k f fd ps sp)(hr:RoomN k X.A)(hb:Binds X.K fd ps ds)(hd:Vals dvs ds)(hx:Passes CX X E)
    (ht:eval (.Call (.Attribute o m apos) [] [] pos) X.env=(do
      let ov ← eval o X.env
      standAt apos.atName
      let (f,first) ← holding [ov] (getMethod ov m pl)
      callWith pos f first (backTo pos (starEach [] X.env)) (backToKw pos (keywordEach [] X.env))):=by rfl) :
    PE X (.Call (.Attribute o m apos) [] [] pos) (tMeth C m sp dvs E ta tNil):=by
  intro pins s σ H Q I h
  refine PySem.W.methodCall_KW (pl:=pl) (thn (he pins s σ H _ I h) fun u s1 ⟨x,H1,I1,rx,a,dx,fs,ex,ea,l,q⟩=>?_) ht
  subst ex
  obtain rfl:u=Value.ref a:=rx
  refine getmeth_ok I1 ea c hm l ?_
  exact PySem.W.callWith_K0 (first:=[.ref a]) I1.kIn hm.kp (run_fnH (us:=[.ref a]) (vs:=[.ref a]) F hr hb hd hx I1 (.cons rfl .nil) q)
end
end L2
namespace L2
open PySem PySem.Spec PySem.Calls PyProof.Rows PySem.W
noncomputable def sp_initN (C:Addr)(fs:List V->List (Str×V))(pay:List V->Prop):Sp:=fun vs H Q _=>∃ a xs,vs=.ref a::xs/\H a=some (ExN C a)/\pay xs/\∀ d,H d=none->d≠a->Q .non (upd (upd H a (ExD C d a)) d (.xd (fs xs)))
structure ErrN (P:Program)(w:World)(K:Frag)(mg:Str->Option Value)(base:Heap)(x:Str)(C:Addr)(fs:List V->List (Str×V))(pay:List V->Prop):Prop where
  gl:mg x=some (.ref C)
  cl:XCl K C
  kp:keepIn K (.ref C)=true
  ex:∃ (fI:Addr) (fd:FuncData) (oI:Obj) (ps:List Str),xInit K C=some (some (.ref fI))/\K.lookup fI=some oI/\oI.cls=.type "function"/\Binds K fd ps []/\FnOkN P w K mg base CX0 1 fI fd ps (sp_initN C fs pay)
section
variable {X:Cx} {E:XS} {C:Addr} {x f:Str} {fs:List V->List (Str×V)} {pay:List V->Prop} {e:Expr} {es:List Expr} {t:TA} {np cpos pos pos':Pos} {j:Nat} {name:Str}
def MdE (X:Cx)(C:Addr)(E:XS)(σ:St)(v:Value)(s₁:Shared):Prop:=∃ a d vs sl H2,v=.ref a/\s₁.heap.get? a=some ⟨.ref C,some d,.fields vs,sl⟩/\(vs[1]? = some .none/\vs[2]? = some .none/\vs.size=6)/\Inv X [] σ H2 s₁/\X.s₀.heap.objs.size<=a/\H2 a=none/\(∀ q∈X.pn,q.1≠a)/\E (.ref C) (some d) σ H2
noncomputable def tRaiseN (C:Addr)(fs:List V->List (Str×V))(pay:List V->Prop)(E:XS)(t:TA):TS:=fun _ σ H=>t σ H fun vs H1=>pay vs/\vs.length<=1000/\∀ d H2,Same H1 H2->H1 d=none->H2 d=some (.xd (fs vs))->E (.ref C) (some d) σ H2
theorem RoomN.make {k:Nat}{A:Around}(r:RoomN (k+1) A)(C:Addr)(us:List Value)(kw:List (Str×Value)):RoomN k (A.under (.builtin "type.__call__" ⟨.ref C::us,kw⟩)):=
  ⟨by have:=r.dp;rw [make_depth];lia,by have:=r.un;rw [make_units];lia,by rw [make_guards];exact r.gd⟩
theorem err_new {pins:List (Addr×Obj)}{s:Shared}{σ:St}{H:Hp}{D:Ends}(R:ErrN X.prog X.w X.K X.mg X.base x C fs pay)(hr:RoomN j X.A)(hj:2<=j)(ha:PA X (e::es) t)(hg:Gl X x)(hdb:(x == ("__debug__":Str))=false)
    (he:starEach (e::es) X.env=(false,eval e X.env)::starEach es X.env) (hpl:(backTo cpos (starEach es X.env)).any (·.1)=false) (I:Inv X pins σ H s) (h:tRaiseN C fs pay E t D σ H) :
    wpAny (model X.prog X.w) X.A (eval (.Call (.Name x np) (e::es) [] cpos) X.env) (MdE X C E σ) X.xe s:=by
  have c:=R.cl
  refine wpAny_Call_Name_kw (ld_glob I hg R.gl ?_ hdb)
  refine callWith_K (h₀:=X.base) I.ok.mod.kin R.kp (thn (ha cpos pins s σ H _ I h) fun us s1 ⟨vs,H1,I1,r,hp,hl,q⟩=>⟨I1.kIn,?_⟩) he hpl
  obtain⟨fI,fd,oI,ps,i1,i2,i3,hb,F⟩:=R.ex
  refine exc_make I1.kIn c.sh i1 i2 i3 (by show us.length<=_;rw [← Vals.length r];exact Nat.le_trans hl (by rw [sizeLine_eq];decide)) fun h' a g1 g2=>?_
  obtain⟨t0,z1,_,_⟩:=g2.there
  have n1:=I1.hok.fresh g1
  have I2:Inv X pins σ (upd H1 a (ExN C a)) { s1 with heap:=h' }:=I1.laid (t':=s1.toks) g2.keeps g1 (exn_ok (t:=t0) z1 rfl ⟨rfl,rfl,rfl⟩)
  have hsp:sp_initN C fs pay (.ref a::vs) (upd H1 a (ExN C a)) (fun w2 H2=>w2=.non/\∃ d,upd H1 a (ExN C a) d=none/\d≠a/\H2=upd (upd (upd H1 a (ExN C a)) a (ExD C d a)) d (.xd (fs vs))) E0:=
    ⟨a,vs,rfl,upd_same,hp,fun d q1 q2=>⟨rfl,d,q1,q2,rfl⟩⟩
  have r2:Vals (V.ref a::vs) (Value.ref a::us):=.cons rfl r
  have hb':=hb { s1 with heap:=h' } (.ref a::us) I2.kIn (by rw [← F.len _ _ _ _ hsp,List.append_nil];exact congrArg (· + 1) (Vals.length r).symm)
  refine wpAny_call (codeAny_mono (F.run (X.A.under (.builtin "type.__call__" ⟨.ref C::us,[]⟩)) X.stack { s1 with heap:=h' } _ ⟨.ref a::us,[]⟩ _ _ _ _ ((hr.mono hj).make C us []) (I2.env0.make C us []) hb' (by simpa using r2) hsp) fun r s' hq=>?_)
  rcases r with er | fl
  · exact False.elim hq
  cases fl with
  | next=>exact False.elim hq
  | brk=>exact False.elim hq
  | cont=>exact False.elim hq
  | ret w2=>
    obtain⟨v2,H2,I3,rv2,rfl,d,q1,q2,rfl⟩:=I2.after hq
    have hx1:ObjOk X.prog X.w (upd (upd (upd H1 a (ExN C a)) a (ExD C d a)) d (.xd (fs vs))) s'.heap a (ExD C d a):=I3.hok a _ (by rw [upd_ne (Ne.symm q2),upd_same])
    obtain⟨⟨vs',sl',e1,e2⟩,_⟩:=hx1
    have np:∀ q∈X.pn,q.1≠a:=fun q hq y=>by
      have:=(I1.pin q (List.mem_append_left _ hq)).1
      exact absurd (Nat.lt_of_lt_of_le (Heap.lt_size this) (y ▸ g1)) (Nat.lt_irrefl _)
    have q1':H1 d=none:=by rw [upd_ne q2] at q1;exact q1
    have sa:Same H1 (fun b=>if b=a then none else upd (upd (upd H1 a (ExN C a)) a (ExD C d a)) d (.xd (fs vs)) b):=fun b o hb=>by
      have ba:b≠a:=fun y=>by rw [y,n1] at hb;cases hb
      have bd:b≠d:=fun y=>by rw [y,q1'] at hb;cases hb
      simp only [if_neg ba]
      rw [upd_ne bd,upd_ne ba,upd_ne ba];exact hb
    refine⟨rv2,a,d,vs',sl',_,rfl,e1,e2,?_,Nat.le_trans I1.sz g1,?_,np,q d _ sa q1' ?_⟩
    · have I4:Inv X [] σ (upd (upd (upd H1 a (ExN C a)) a (ExD C d a)) d (.xd (fs vs))) s':=I3.pins_of fun p hp=>absurd hp (by simp)
      have key:∀ b o,(fun b=>if b=a then none else upd (upd (upd H1 a (ExN C a)) a (ExD C d a)) d (.xd (fs vs)) b) b=some o->b≠a/\upd (upd (upd H1 a (ExN C a)) a (ExD C d a)) d (.xd (fs vs)) b=some o:=fun b o z=>by
        by_cases hb:b=a
        · simp [hb] at z
        · simp only [if_neg hb] at z;exact⟨hb,z⟩
      have back:∀ b o,b≠a->upd (upd (upd H1 a (ExN C a)) a (ExD C d a)) d (.xd (fs vs)) b=some o->(fun b=>if b=a then none else upd (upd (upd H1 a (ExN C a)) a (ExD C d a)) d (.xd (fs vs)) b) b=some o:=fun b o hb z=>by
        simp only [if_neg hb];exact z
      have nex:∀ b o,upd (upd (upd H1 a (ExN C a)) a (ExD C d a)) d (.xd (fs vs)) b=some o->(∀ φ,o≠.ext φ)->b≠a:=fun b o z no y=>by
        rw [y,upd_ne (Ne.symm q2),upd_same] at z
        cases z
        exact no _ rfl
      refine I4.step (h':=s'.heap) (g':=s'.gens) (t':=s'.toks) (d':=s'.drawn) (ch:=[]) (fun _ z=>absurd z (by simp)) (fun b o _ _ _ z _=>z) (fun b o _ _ _ z _=>⟨o.slots,z⟩) (fun b o _ _ z=>?_) (fun b o _ z=>⟨o,z⟩) (fun b xs z=>back b _ (nex b _ z fun _ y=>by cases y) z) (fun b o u z=>back b _ (nex b _ z fun _ y=>by cases y) z)
        (fun b ps z=>⟨#[],by rw [Array.append_empty];exact back b _ (nex b _ z fun _ y=>by cases y) z⟩) (fun m z=>z) (fun b o z=>?_) I4.bare
      · by_cases hb:b=a
        · simp [hb]
        · simp only [if_neg hb];exact z
      · obtain⟨hb,z⟩:=key b o z
        exact(I4.hok b o z).stay (fun _ _ _ y=>y) (fun c y=>back c _ (nex c _ y fun _ y=>by cases y) y) fun c xs y=>back c _ (nex c _ y fun _ y=>by cases y) y
    · simp
    · simp only [if_neg q2];rw [upd_same]
theorem ps_raiseN (hx:Thr X E)(R:ErrN X.prog X.w X.K X.mg X.base x C fs pay)(hr:Room j X.A)(hj:2<=j)(ha:PA X (e::es) t)(hg:Gl X x:=by rfl) (hdb:(x == ("__debug__":Str))=false:=by decide)
    (he:starEach (e::es) X.env=(false,eval e X.env)::starEach es X.env:=by rfl) (hpl:(backTo cpos (starEach es X.env)).any (·.1)=false:=by rfl) :
    PS X (.Raise (some (.Call (.Name x np) (e::es) [] cpos)) none pos) (tRaiseN C fs pay E t):=by
  intro pins s σ H D I h
  rw [arm_exec_Raise]
  refine wpAny_bind (wpAny_standAt (exc_raise (C:=C) (K:=X.K) hr.hd ?_))
  refine wpAny_bind (thn (err_new R hr.n hj ha hg hdb he hpl I h) fun v s₁ ⟨a,d,vs,sl,H2,e0,e1,e2,J,h1,h2,h3,q⟩=>wpAny_bind (wpAny_standAt (wpAny_pure ⟨a,_,vs,sl,e0,J.kIn,R.cl,e1,e2.1,hx _ _ ⟨a,_,_,H2,[],σ,rfl,J,h1,h2,h3,.inl ⟨sl,vs,e1,e2.1,fun _=>e2.2.1⟩,q⟩⟩)))
theorem unchain_entry:entryFor table "proto.unchain" = some Builtin.«proto.unchain»:=entryFor_of_tree (by kernel_rfl)
theorem exc_raiseH {prog:Program}{w:World}{A:Around}{Ee:Value->Shared->Prop}{K:Frag}{s:Shared}{env:Env}{y cz:Sem Value}{ea:Addr}{Q:Flow->Shared->Prop}(hh:A.handled=some (.ref ea))(hcz:∀ (Q:Value->Shared->Prop) (s:Shared),Q .none s->wpAny (model prog w) A cz Q Ee s)
    (h:wpAny (model prog w) A y (fun v s₁=>∃ a dd vs sl eo ws,v=.ref a/\K.In s₁.heap/\XCl K C/\s₁.heap.get? a=some ⟨.ref C,dd,.fields vs,sl⟩/\vs[1]? = some .none/\vs.size=6/\ea≠a/\s₁.heap.get? ea=some eo/\eo.data=.fields ws/\ws[2]? = some .none /\
      ∀ h' vs',Kp [a] [] s₁.heap h'->h'.get? a=some ⟨.ref C,dd,.fields vs',sl⟩->vs'[1]? = some .none->Ee (.ref a) { s₁ with heap:=h' }) Ee s):wpAny (model prog w) A (raiseStmt env (some y) (some cz)) Q Ee s:=by
  unfold raiseStmt
  refine wpAny_bind (wpAny_mono h (fun v s₁ z=>?_) fun _ _ z=>z)
  obtain⟨a,dd,vs,sl,eo,ws,rfl,KX,c,e0,h1,h6,ne,he,hd,h2,k⟩:=z
  obtain⟨nm,q,N,bs,bm,hdd,sn,sub,ab,col,dd',k0,k1,k2,k3,k5,cd,hC,hcd,hmro,hns,hdd,OT,hok⟩:=x_obj KX c.sh
  refine wpAny_bind (wpAny_holding (hcz _ _ (wpAny_bind (wpAny_pure ?_))))
  obtain⟨hp,g,dr,tk,os⟩:=s₁
  have hcB:(Value.ref C::bm).contains (.type "BaseException")=true:=by rw [List.contains_cons,OT.hasType (X:="BaseException") (b:=true) (by decide +kernel),Bool.or_true]
  repeat (first | (with_reducible refine wpAny_loadPart_at e0 ?_) | (with_reducible refine wpAny_loadPart_at hC ?_) | (with_reducible refine wpAny_field e0 rfl h1 ?_) | (with_reducible refine wpAny_isSubtype_exc hC ?_;rw [hcB]) | wp_step)
  have nC:C≠a:=fun z=>by
    rw [z,e0] at hC
    injection hC with hC
    injection hC with hC
    cases hC
  have hC2:((hp.update a (Obj.mapFields fun x=>x.setIfInBounds 3 Value.none)).update a (Obj.mapFields fun x=>x.setIfInBounds 4 (Value.bool true))).get? C=some (excClassObj nm q C N bs bm _ sn sub ab col dd' k0 k1 k2 k3 k5 "ValueError.__new__"):=(Heap.get?_update_other _ _ (Ne.symm nC)).trans ((Heap.get?_update_other _ _ (Ne.symm nC)).trans hC)
  have ea2:((hp.update a (Obj.mapFields fun x=>x.setIfInBounds 3 Value.none)).update a (Obj.mapFields fun x=>x.setIfInBounds 4 (Value.bool true))).get? ea=some eo:=(Heap.get?_update_other _ _ (Ne.symm ne)).trans ((Heap.get?_update_other _ _ (Ne.symm ne)).trans he)
  have a1:(hp.update a (Obj.mapFields fun x=>x.setIfInBounds 3 Value.none)).get? a=some ⟨.ref C,dd,.fields (vs.setIfInBounds 3 .none),sl⟩:=Heap.get?_update_self _ e0 rfl
  have a2:((hp.update a (Obj.mapFields fun x=>x.setIfInBounds 3 Value.none)).update a (Obj.mapFields fun x=>x.setIfInBounds 4 (Value.bool true))).get? a=some ⟨.ref C,dd,.fields ((vs.setIfInBounds 3 .none).setIfInBounds 4 (.bool true)),sl⟩:=Heap.get?_update_self _ a1 rfl
  have k2':Kp [a] [] hp ((hp.update a (Obj.mapFields fun x=>x.setIfInBounds 3 Value.none)).update a (Obj.mapFields fun x=>x.setIfInBounds 4 (Value.bool true))):=
    have oth:∀ b,b∉[a]->((hp.update a (Obj.mapFields fun x=>x.setIfInBounds 3 Value.none)).update a (Obj.mapFields fun x=>x.setIfInBounds 4 (Value.bool true))).get? b=hp.get? b:=fun b hb=>(Heap.get?_update_other _ _ (fun z=>hb (by simp [z]))).trans (Heap.get?_update_other _ _ (fun z=>hb (by simp [z])))
    ⟨fun b o hb _ q=>(oth b hb).trans q,fun b o hb q=>⟨o.slots,(oth b hb).trans q⟩⟩
  have s1:((vs.setIfInBounds 3 .none).setIfInBounds 4 (.bool true))[1]? = some .none:=by simpa [Array.getElem?_setIfInBounds] using h1
  have s2:2<((vs.setIfInBounds 3 .none).setIfInBounds 4 (.bool true)).size:=by simp [h6]
  generalize ((vs.setIfInBounds 3 Value.none).setIfInBounds 4 (.bool true))=vs2 at a2 s1 s2
  generalize ((hp.update a (Obj.mapFields fun x=>x.setIfInBounds 3 Value.none)).update a (Obj.mapFields fun x=>x.setIfInBounds 4 (Value.bool true)))=hp2 at hC2 ea2 a2 k2' ⊢
  clear a1
  repeat (first | (with_reducible refine wpAny_loadPart_at hC2 ?_) | (with_reducible refine wpAny_field a2 rfl s1 ?_) | wp_step)
  unfold raiseNew
  refine wpAny_bind (wpAny_handled ?_)
  rw [hh]
  have hne:(Value.ref ea != Value.ref a)=true:=by simpa using ne
  show wpAny (model prog w) A (if (Value.ref ea != Value.ref a)=true then _ else _) Q Ee _
  rw [if_pos hne]
  refine wpAny_bind (wpAny_holding (wpAny_runValue (codeAny_builtin unchain_entry ?_)))
  unfold Builtin.«proto.unchain»
  refine wpAny_bind (wpAny_field ea2 hd h2 ?_)
  rw [if_pos (show(Value.none == Value.none)=true from rfl)]
  refine wpAny_bind (wpAny_pure ?_)
  refine wpAny_pure (wpAny_bind ?_)
  show wpAny (model prog w) A (setField (.ref a) 2 (.ref ea)) _ Ee _
  refine wpAny_setField a2 rfl s2 (wpAny_throw ?_)
  refine k _ (vs2.setIfInBounds 2 (.ref ea)) ?_ (Heap.get?_update_self _ a2 rfl) (by simpa [Array.getElem?_setIfInBounds] using s1)
  have oth:∀ b,b∉[a]->(hp2.update a (Obj.mapFields (·.setIfInBounds 2 (Value.ref ea)))).get? b=hp2.get? b:=fun b hb=>Heap.get?_update_other _ _ (fun z=>hb (by simp [z]))
  exact⟨fun b o hb hf q=>(oth b hb).trans (k2'.keep b o hb hf q),fun b o hb q=>let ⟨sl,q⟩:=k2'.slot b o hb q;⟨sl,(oth b hb).trans q⟩⟩
noncomputable def tRaiseH (ea C:Addr)(fs:List V->List (Str×V))(pay:List V->Prop)(E:XS)(t:TA):TS:=tRaiseN C fs pay (fun c d σ H2=>E c d σ H2/\Pla H2 ea/\∃ dd ys,d=some dd/\H2 dd=some (.xd ys)/\ys.length≠1) t
theorem ps_raiseH {ea:Addr}{jc:Nat}{pc:Pos}(hx:∀ e s',FlN X E e s'->X.xe e s')(hh:X.A.handled=some (.ref ea))(R:ErrN X.prog X.w X.K X.mg X.base x C fs pay)(hr:RoomN j X.A)(hj:2<=j)(ha:PA X (e::es) t)(hg:Gl X x:=by rfl) (hdb:(x == ("__debug__":Str))=false:=by decide)
    (he:starEach (e::es) X.env=(false,eval e X.env)::starEach es X.env:=by rfl) (hpl:(backTo cpos (starEach es X.env)).any (·.1)=false:=by rfl) :
    PS X (.Raise (some (.Call (.Name x np) (e::es) [] cpos)) (some (.Constant .none jc pc)) pos) (tRaiseH ea C fs pay E t):=by
  intro pins s σ H D I h
  rw [arm_exec_Raise]
  refine wpAny_bind (wpAny_standAt (exc_raiseH (C:=C) (K:=X.K) hh (fun Q s q=>wpAny_bind (Constant_none (wpAny_bind (wpAny_standAt (wpAny_pure q))))) ?_))
  refine wpAny_bind (thn (err_new (D:=D) R hr hj ha hg hdb he hpl I h) fun v s₁ ⟨a,d,vs,sl,H2,e0,e1,e2,J,h1,h2,h3,q,⟨eo,ws,pE,pd,p2⟩,dd,ys,ed,hd,hl⟩=>wpAny_bind (wpAny_standAt (wpAny_pure ?_)))
  obtain⟨ge,_⟩:=(show ObjOk X.prog X.w H2 s₁.heap ea (.frz eo (.own ea)) from J.hok ea _ pE)
  refine⟨a,some d,vs,sl,eo,ws,e0,J.kIn,R.cl,e1,e2.1,e2.2.2,(fun z=>by rw [z,h2] at pE;cases pE),ge,pd,p2,fun h' vs' k z1 z2=>hx _ _ ⟨a,.ref C,some d,H2,σ,rfl,?_,h1,h2,h3,⟨sl,vs',z1,z2,fun⟨b,f,v,eb,hb⟩=>?_⟩,q⟩⟩
  · exact J.kp (k.mono (fun _ z=>z) fun b z=>absurd z (by simp)) (fun b hb=>by rw [show b=a by simpa using hb];exact⟨ours_at J e1 rfl h1 h3,h2⟩) (fun _ _=>rfl) (J.hok.kp k (fun b hb=>by rw [show b=a by simpa using hb];exact h2) fun b z=>absurd z (by simp))
  · cases ed
    cases eb
    rw [hd] at hb
    cases hb
    exact absurd rfl hl
noncomputable def tSet1 (C:Addr)(ta tv:TE)(name:Str):TS:=fun D σ H=>tv σ H fun y H1=>ta σ H1 fun x H2=>∃ a d fs,x=.ref a/\H2 a=some (ExD C d a)/\H2 d=some (.xd fs)/\fs.length<=1000/\fs.lookup name=none/\D.nx σ (upd H2 d (.xd (fs++[(name,y)])))
theorem look_in {fs:List (Str×V)}{y:Str}{v:V}(h:fs.lookup y=some v):y∈fs.map (·.1):=by
  induction fs with
  | nil=>cases h
  | cons p fs ih=>
    obtain⟨k,u⟩:=p
    by_cases hk:y=k
    · rw [hk];exact .head _
    · rw [List.lookup_cons,show(y == k)=false from beq_eq_false_iff_ne.mpr hk] at h
      exact .tail _ (ih h)
theorem ps_set1 {o value:Expr}{ta tv:TE}(c:XCl X.K C)(hn:findIn X.K (.ref C) name=some none)(ha:PE X o ta)(hv:PE X value tv)(hs:swapsWith value (some (.Attribute o name pos')) pos.line X.env=pure false:=by rfl) :
    PS X (.Assign [.Attribute o name pos'] value pos) (tSet1 C ta tv name):=by
  intro pins s σ H D I h
  refine plainObj_wpAny_Assign_Attribute (thn (hv pins s σ H _ I h) fun u s1 ⟨y,H1,I1,ry,q⟩=>thn (ha pins s1 σ H1 _ I1 q) fun ov s2 ⟨x,H2,I2,rx,a,d,fs,ex,ea,ed,hl,hnl,q2⟩=>?_) hs
  subst ex
  obtain rfl:ov=Value.ref a:=rx
  obtain⟨⟨vs,sl,e,h1⟩,_⟩:=I2.hok a _ ea
  obtain⟨mA,hN,hf⟩:=I2.hok d _ ed
  have hw:Within mA (fs.map (·.1)):=fun y hy=>by
    have hy2:=hf y
    cases hL:fs.lookup y with
    | none=>
      rw [hL] at hy2
      cases hm:mA y with
      | none=>exact absurd hm hy
      | some u=>rw [hm] at hy2;exact hy2.elim
    | some v=>exact look_in hL
  refine exc_set1 I2.kIn e c.sh c.hd c.sa hn hN hw (by rw [List.length_map,sizeLine_eq];exact Nat.lt_of_le_of_lt hl (by decide)) fun h' tk g3 g4=>?_
  refine⟨σ,_,?_,q2⟩
  have nb:∀ b,H2 b=none->b≠d:=fun b z y=>by rw [y,ed] at z;cases z
  have u:Un X.fs [] H2 (upd H2 d (.xd (fs++[(name,y)]))) s2.heap h':=by
    refine⟨fun b o z n _ _=>g4 b o (nb b n) z,fun b o z n _ _=>⟨o.slots,g4 b o (nb b n) z⟩,fun b o z n _=>by rw [upd_ne (nb b n)];exact n,fun b o z _=>?_,fun b xs z=>?_,fun b o u z=>?_,fun b ps z=>⟨#[],?_⟩⟩
    · by_cases hb:b=d
      · obtain⟨od,es,ep,hod,_⟩:=id g3
        rw [hb];exact⟨od,hod⟩
      · exact⟨o,g4 b o hb z⟩
    all_goals
      have nb:b≠d:=fun y=>by rw [y,ed] at z;cases z
      rw [upd_ne nb,z]
    simp
  refine I2.un u fun b o z=>?_
  by_cases hb:b=d
  · subst hb
    rw [upd_same] at z
    cases z
    refine⟨_,g3,fun f=>?_⟩
    rw [List.lookup_append]
    by_cases hf2:f=name
    · subst hf2
      simp only [if_pos,hnl,Option.none_or]
      simpa [List.lookup,RelO] using ry
    · have:(f == name)=false:=beq_eq_false_iff_ne.mpr hf2
      simp only [if_neg hf2,List.lookup,this,Option.or_none]
      exact hf f
  · rw [upd_ne hb] at z
    have nown:∀ c y,H2 c=some (.own y)->c≠d:=fun c y r q=>by rw [q,ed] at r;cases r
    have ntup:∀ c y,H2 c=some (.tup y)->c≠d:=fun c y r q=>by rw [q,ed] at r;cases r
    refine(I2.hok b o z).stay (fun c v hc q=>g4 c v ?_ q) (fun c q=>by rw [upd_ne (nown c _ q)];exact q) fun c xs q=>by rw [upd_ne (ntup c _ q)];exact q
    rcases hc with rfl | hc
    · exact hb
    · exact nown c _ hc
end
end L2
namespace L2
open PySem PySem.Spec PySem.Calls PyProof.Rows PySem.W
section
variable {P:Program} {w:World} {K:Frag} {mg:Str->Option Value} {base:Heap} {k j:Nat} {C:Addr} {m x qual:Str} {st:Stmt} {ps N:List Str} {sp sp':Sp}
theorem Fun.okN {f:Addr}{fd:FuncData}(F:Fun K x qual st f fd)(S:FnScope N ps (defScope st))(len:∀ vs H Q E,sp vs H Q E->vs.length=ps.length)
    (hbody:∀ (cdv:Value) (A:Around) (outer:List Env) (s:Shared) (H:Hp) (vs:List V) (Q:VK) (E:XK),sp vs H Q E ->
      ∃ t,PSs (cxOfN CX0 P w K mg base N qual (defScope st) f cdv A outer s H E) (defBody st) t/\t { nx:=fun _ H'=>Q .non H',rt:=Q } (start N vs) H):FnOkN P w K mg base CX0 (k+1) f fd ps sp:=by
  obtain⟨oc,od,kV,doc,pm,an,cdv,ct,osl,rfl,lk,hcd⟩:=F.ex
  exact fn_ofN lk hcd S len fun A outer s H vs Q E hr hsp=>hbody cdv A outer s H vs Q E hsp
structure OkMN (P:Program)(w:World)(K:Frag)(mg:Str->Option Value)(base:Heap)(k:Nat)(C:Addr)(m:Str)(ps:List Str)(sp:Sp):Prop where
  ex:∃ (f:Addr) (fd:FuncData),Cls K C/\Meth K C m f/\Binds K fd ps []/\FnOkN P w K mg base (CXE P w) k f fd ps sp
theorem OkMN.ok (F:OkMN P w K mg base k C m ps sp):OkM P w K mg base k C m ps sp:=by
  obtain⟨f,fd,c,hm,b,G⟩:=F.ex
  exact⟨f,fd,c,hm,b,G.ok⟩
theorem Dm.okN (D:Dm K C m qual st ps)(Sc:FnScope N ps (defScope st))(len:∀ vs H Q E,sp vs H Q E->vs.length=ps.length)
    (hbody:∀ (f:Addr) (cdv:Value) (A:Around) (outer:List Env) (s:Shared) (H:Hp) (vs:List V) (Q:VK) (E:XK),RoomN k (A.deeper (envOfC qual (defScope st) s.heap.objs.size f cdv))->sp vs H Q E ->
      ∃ t,PSs (cxOfN (CXE P w) P w K mg base N qual (defScope st) f cdv A outer s H E) (defBody st) t/\t { nx:=fun _ H'=>Q .non H',rt:=Q } (start N vs) H):OkMN P w K mg base (k+1) C m ps sp:=by
  obtain⟨f,fd,F,b,cl,hm⟩:=D.ex
  refine⟨f,fd,cl,hm,b,?_⟩
  obtain⟨oc,od,kV,doc,pm,an,cdv,ct,osl,rfl,lk,hcd⟩:=F.ex
  exact fn_ofN lk hcd Sc len fun A outer s H vs Q E hr h=>hbody f cdv A outer s H vs Q E hr h
theorem RoomN.marked {A:Around}(r:RoomN k A)(v:Option Value):RoomN k (A.mark v):=⟨r.dp,r.un,r.gd⟩
end
section
variable {X:Cx} {K:Frag} {k j:Nat} {C Dc:Addr} {x m n:Str} {ps:List Str} {sp:Sp} {p pos apos cpos np hpos:Pos} {e o:Expr} {es:List Expr} {to:TE} {t:TA} {E:XS} {fs:List V->List (Str×V)} {pay:List V->Prop} {i:Nat} {tb:XS->TS} {th:Addr->TS} {body suite:List Stmt} {b₀:Stmt}
theorem qe_methH0 {pl:Sem Bool}(F:OkMN X.prog X.w X.K X.mg X.base k C m ps sp)(hr:RoomN j X.A)(hk:k<=j)(ho:QE X o to)
    (ht:eval (.Call (.Attribute o m apos) [] [] pos) X.env=(do
      let ov ← eval o X.env
      standAt apos.atName
      let (f,first) ← holding [ov] (getMethod ov m pl)
      callWith pos f first (backTo pos (starEach [] X.env)) (backToKw pos (keywordEach [] X.env))):=by rfl) :
    QE X (.Call (.Attribute o m apos) [] [] pos) (tMeth C m sp [] E0 to tNil):=by
  obtain⟨f,fd,cl,hm,b,G⟩:=F.ex
  exact⟨pe_meth0H ho.h cl hm G (hr.mono hk) b .nil passN ht⟩
theorem qs_raiseN (hx:Thr X E)(R:ErrN X.prog X.w X.K X.mg X.base x C fs pay)(hr:Room j X.A)(hj:2<=j)(ha:QA X (e::es) t)(hg:Gl X x:=by rfl) (hdb:(x == ("__debug__":Str))=false:=by decide)
    (he:starEach (e::es) X.env=(false,eval e X.env)::starEach es X.env:=by rfl) (hpl:(backTo cpos (starEach es X.env)).any (·.1)=false:=by rfl) :
    QS X (.Raise (some (.Call (.Name x np) (e::es) [] cpos)) none pos) (tRaiseN C fs pay E t):=⟨ps_raiseN hx R hr hj ha.h hg hdb he hpl⟩
theorem qs_raiseH {ea:Addr}{jc:Nat}{pc:Pos}(hx:∀ e s',FlN X E e s'->X.xe e s')(hh:X.A.handled=some (.ref ea))(R:ErrN X.prog X.w X.K X.mg X.base x C fs pay)(hr:RoomN j X.A)(hj:2<=j)(ha:QA X (e::es) t)(hg:Gl X x:=by rfl) (hdb:(x == ("__debug__":Str))=false:=by decide)
    (he:starEach (e::es) X.env=(false,eval e X.env)::starEach es X.env:=by rfl) (hpl:(backTo cpos (starEach es X.env)).any (·.1)=false:=by rfl) :
    QS X (.Raise (some (.Call (.Name x np) (e::es) [] cpos)) (some (.Constant .none jc pc)) pos) (tRaiseH ea C fs pay E t):=⟨ps_raiseH hx hh R hr hj ha.h hg hdb he hpl⟩
theorem FlN.swap {pn:List (Addr×Obj)}{ea:Addr}{xe xe':Value->Shared->Prop}{e:Value}{s:Shared}(h:FlN (X.exInG pn ea xe) E e s):FlN (X.exInG pn ea xe') E e s:=by
  obtain⟨a,c,d,H',σ,e1,I,r⟩:=h
  have ok:=I.ok
  exact⟨a,c,d,H',σ,e1,⟨⟨ok.mod,ok.kind,ok.glob,ok.blt,ok.above,ok.inj,ok.has,ok.cab,fun z=>absurd (show false=true from z) (by decide),ok.frames,ok.stk,ok.exf,ok.bs,ok.bsz,ok.noex,ok.exfs,ok.funs,ok.frf⟩,I.os,I.bare,I.base,I.loc,I.cell,I.free,I.freeC,I.pin,I.hok,I.len⟩,r⟩
theorem qs_tryR (hx:Thr X E)(hm:X.mg x=some (.ref Dc))(cD:XCl X.K Dc)(hN:X.N.Nodup)(hi:X.N[i]? = some n)(hl:X.env.scope.names.lookup n=some .local)(hst:X.stack=X.env::X.outer)(hf:X.env.frame=some X.env.locals)
    (hb:∀ (E:XS) (pn:List (Addr×Obj)) (xe:Value->Shared->Prop),PassesOwn (model X.prog X.w) X.A X.env xe->Thr (X.tryIn pn xe) E->QSs (X.tryIn pn xe) body (tb E))
    (hh:∀ pn ea xe,(∀ e s',FlN (X.exInG pn ea xe) (fun c d σ H=>E c d (σ.map fun _=>none) H) e s'->xe e s')->QSs (X.exInG pn ea xe) (b₀::suite) (th ea)) (hg:Gl X x:=by rfl) (hdb:(x == ("__debug__":Str))=false:=by decide) :
    QS X (.Try body [.ExceptHandler (some (.Name x np)) (some n) (b₀::suite) hpos] [] [] pos) (tTryR X.K Dc i tb th):=
  ⟨ps_tryR hx hm cD hN hi hl hst hf (fun E pn xe a b=>(hb E pn xe a b).h) (fun pn ea=>(hh pn ea _ fun _ _ z=>z.swap).h) hg hdb⟩
end
theorem init_read2 {K:Frag}{C:Addr}{f g p q:Str}{a:Addr}{v u:V}{i:Nat}{z:V}{H:Hp}{Q:VK}(ea:H a=some (ExN C a))(hi:([V.ref a,v,u]:List V)[i]? = some z)(hp:payT z)(hn:f≠g)(k:∀ d,H d=none->d≠a->Q .non (upd (upd H a (ExD C d a)) d (.xd [(f,v),(g,u)]))) :
    tSeq (tDrop (tCB (rInit C) (tCons (tVar 0) (tCons (tFs (tVar i)) tNil)))) (tSeq (tSet0 K C (tVar 0) (tVar 1) f) (tSet1 C (tVar 0) (tVar 2) g)) { nx:=fun _ H'=>Q .non H',rt:=Q } (start ["self",p,q] [.ref a,v,u]) H:=by
  refine⟨.ref a,rfl,z,?_,hp,fun y=>⟨a,.str y,rfl,ea,v,rfl,.ref a,rfl,a,rfl,ea,fun d h1 h2=>⟨u,rfl,.ref a,rfl,a,d,_,rfl,?_,upd_same,by show 1<=1000;decide,?_,?_⟩⟩⟩
  · show(List.map some [V.ref a,v,u]++_)[i]? = some (some z)
    rw [List.getElem?_append_left (by rw [List.length_map];exact(List.getElem?_eq_some_iff.mp hi).1),List.getElem?_map,hi]
    rfl
  · rw [upd_ne (Ne.symm h2),upd_same]
  · have:(g == f)=false:=beq_eq_false_iff_ne.mpr (Ne.symm hn)
    simp [List.lookup,this]
  · show Q _ _
    rw [upd_upd]
    exact k d h1 h2
theorem init_read3 {K:Frag}{C:Addr}{f g h p q r:Str}{a:Addr}{v u x:V}{tx:Str}{H:Hp}{Q:VK}(ea:H a=some (ExN C a))(hn:f≠g/\f≠h/\g≠h)(k:∀ d,H d=none->d≠a->Q .non (upd (upd H a (ExD C d a)) d (.xd [(f,v),(g,u),(h,x)]))) :
    tSeq (tDrop (tCB (rInit C) (tCons (tVar 0) (tCons (tC (.str tx)) tNil)))) (tSeq (tSet0 K C (tVar 0) (tVar 1) f) (tSeq (tSet1 C (tVar 0) (tVar 2) g) (tSet1 C (tVar 0) (tVar 3) h))) { nx:=fun _ H'=>Q .non H',rt:=Q } (start ["self",p,q,r] [.ref a,v,u,x]) H:=by
  have n1:(g == f)=false:=beq_eq_false_iff_ne.mpr (Ne.symm hn.1)
  have n2:(h == f)=false:=beq_eq_false_iff_ne.mpr (Ne.symm hn.2.1)
  have n3:(h == g)=false:=beq_eq_false_iff_ne.mpr (Ne.symm hn.2.2)
  refine⟨.ref a,rfl,a,.str tx,rfl,ea,v,rfl,.ref a,rfl,a,rfl,ea,fun d h1 h2=>⟨u,rfl,.ref a,rfl,a,d,_,rfl,?_,upd_same,by show 1<=1000;decide,?_,⟨x,rfl,.ref a,rfl,a,d,_,rfl,?_,upd_same,by show 2<=1000;decide,?_,?_⟩⟩⟩
  · rw [upd_ne (Ne.symm h2),upd_same]
  · simp [List.lookup,n1]
  · rw [upd_ne (Ne.symm h2),upd_ne (Ne.symm h2),upd_same]
  · simp [List.lookup,n2,n3]
  · show Q _ _
    rw [upd_upd,upd_upd]
    exact k d h1 h2
end L2
set_option maxHeartbeats 4000000
set_option pp.deepTerms true
set_option pp.maxSteps 200000
namespace My
open PySem L2 PySem.Spec PyProof.Rows
noncomputable def top (i:Nat):Stmt:=PySem.Challenge.pw_sealpress_k77_seats_on_their_floors.main.body.getD i (.Pass ⟨0,0,0,0⟩)
noncomputable abbrev s_sign_of:Stmt:=top 27
noncomputable abbrev N_sign_of:List Str:=["number"]
noncomputable abbrev ps_sign_of:List Str:=["number"]
theorem sc_sign_of:FnScope N_sign_of ps_sign_of (defScope s_sign_of):=⟨rfl,rfl,rfl,by decide +kernel,rfl,by decide +kernel,by decide +kernel⟩
noncomputable abbrev s_sign_told:Stmt:=top 28
noncomputable abbrev N_sign_told:List Str:=["figures","number"]
noncomputable abbrev ps_sign_told:List Str:=["figures"]
theorem sc_sign_told:FnScope N_sign_told ps_sign_told (defScope s_sign_told):=⟨rfl,rfl,rfl,by decide +kernel,rfl,by decide +kernel,by decide +kernel⟩
noncomputable abbrev N_place_of:List Str:=["state"]
noncomputable abbrev s_fed_between:Stmt:=top 34
noncomputable abbrev N_fed_between:List Str:=["sign"]
noncomputable abbrev ps_fed_between:List Str:=["sign"]
theorem sc_fed_between:FnScope N_fed_between ps_fed_between (defScope s_fed_between):=⟨rfl,rfl,rfl,by decide +kernel,rfl,by decide +kernel,by decide +kernel⟩
noncomputable abbrev s_fed_word:Stmt:=top 35
noncomputable abbrev N_fed_word:List Str:=["sign"]
noncomputable abbrev ps_fed_word:List Str:=["sign"]
theorem sc_fed_word:FnScope N_fed_word ps_fed_word (defScope s_fed_word):=⟨rfl,rfl,rfl,by decide +kernel,rfl,by decide +kernel,by decide +kernel⟩
noncomputable abbrev s_fed_said:Stmt:=top 36
noncomputable abbrev N_fed_said:List Str:=["sign"]
noncomputable abbrev ps_fed_said:List Str:=["sign"]
theorem sc_fed_said:FnScope N_fed_said ps_fed_said (defScope s_fed_said):=⟨rfl,rfl,rfl,by decide +kernel,rfl,by decide +kernel,by decide +kernel⟩
noncomputable abbrev s_feed:Stmt:=top 37
noncomputable abbrev N_feed:List Str:=["talk","sign"]
noncomputable abbrev ps_feed:List Str:=["talk","sign"]
theorem sc_feed:FnScope N_feed ps_feed (defScope s_feed):=⟨rfl,rfl,rfl,by decide +kernel,rfl,by decide +kernel,by decide +kernel⟩
noncomputable abbrev s_come_to:Stmt:=top 41
noncomputable abbrev N_come_to:List Str:=["mode","opens","events"]
noncomputable abbrev ps_come_to:List Str:=["mode","opens","events"]
theorem sc_come_to:FnScope N_come_to ps_come_to (defScope s_come_to):=⟨rfl,rfl,rfl,by decide +kernel,rfl,by decide +kernel,by decide +kernel⟩
noncomputable abbrev s_told:Stmt:=top 42
noncomputable abbrev N_told:List Str:=["mode","opens","sign"]
noncomputable abbrev ps_told:List Str:=["mode","opens","sign"]
theorem sc_told:FnScope N_told ps_told (defScope s_told):=⟨rfl,rfl,rfl,by decide +kernel,rfl,by decide +kernel,by decide +kernel⟩
noncomputable abbrev s_gathered:Stmt:=top 43
noncomputable abbrev N_gathered:List Str:=["mode","word","opens","talk","most"]
noncomputable abbrev ps_gathered:List Str:=["mode","word","opens","talk","most"]
theorem sc_gathered:FnScope N_gathered ps_gathered (defScope s_gathered):=⟨rfl,rfl,rfl,by decide +kernel,rfl,by decide +kernel,by decide +kernel⟩
noncomputable abbrev s_box_shut:Stmt:=top 44
noncomputable abbrev N_box_shut:List Str:=["opens","events"]
noncomputable abbrev ps_box_shut:List Str:=["opens","events"]
theorem sc_box_shut:FnScope N_box_shut ps_box_shut (defScope s_box_shut):=⟨rfl,rfl,rfl,by decide +kernel,rfl,by decide +kernel,by decide +kernel⟩
noncomputable abbrev s_into_box:Stmt:=top 45
noncomputable abbrev N_into_box:List Str:=["opens","events","mode"]
noncomputable abbrev ps_into_box:List Str:=["opens","events"]
theorem sc_into_box:FnScope N_into_box ps_into_box (defScope s_into_box):=⟨rfl,rfl,rfl,by decide +kernel,rfl,by decide +kernel,by decide +kernel⟩
noncomputable abbrev s_led_on:Stmt:=top 46
noncomputable abbrev N_led_on:List Str:=["opens","sign","events"]
noncomputable abbrev ps_led_on:List Str:=["opens","sign","events"]
theorem sc_led_on:FnScope N_led_on ps_led_on (defScope s_led_on):=⟨rfl,rfl,rfl,by decide +kernel,rfl,by decide +kernel,by decide +kernel⟩
noncomputable abbrev s_fed:Stmt:=top 47
noncomputable abbrev N_fed:List Str:=["opens","talk","sign","answer"]
noncomputable abbrev ps_fed:List Str:=["opens","talk","sign"]
theorem sc_fed:FnScope N_fed ps_fed (defScope s_fed):=⟨rfl,rfl,rfl,by decide +kernel,rfl,by decide +kernel,by decide +kernel⟩
noncomputable abbrev s_mark_ended:Stmt:=top 48
noncomputable abbrev N_mark_ended:List Str:=["word","sign"]
noncomputable abbrev ps_mark_ended:List Str:=["word","sign"]
theorem sc_mark_ended:FnScope N_mark_ended ps_mark_ended (defScope s_mark_ended):=⟨rfl,rfl,rfl,by decide +kernel,rfl,by decide +kernel,by decide +kernel⟩
noncomputable abbrev s_at_text:Stmt:=top 49
noncomputable abbrev N_at_text:List Str:=["word","opens","talk","sign"]
noncomputable abbrev ps_at_text:List Str:=["word","opens","talk","sign"]
theorem sc_at_text:FnScope N_at_text ps_at_text (defScope s_at_text):=⟨rfl,rfl,rfl,by decide +kernel,rfl,by decide +kernel,by decide +kernel⟩
noncomputable abbrev s_at_mark:Stmt:=top 50
noncomputable abbrev N_at_mark:List Str:=["word","opens","talk","sign"]
noncomputable abbrev ps_at_mark:List Str:=["word","opens","talk","sign"]
theorem sc_at_mark:FnScope N_at_mark ps_at_mark (defScope s_at_mark):=⟨rfl,rfl,rfl,by decide +kernel,rfl,by decide +kernel,by decide +kernel⟩
noncomputable abbrev s_at_open:Stmt:=top 51
noncomputable abbrev N_at_open:List Str:=["word","opens","talk","sign"]
noncomputable abbrev ps_at_open:List Str:=["word","opens","talk","sign"]
theorem sc_at_open:FnScope N_at_open ps_at_open (defScope s_at_open):=⟨rfl,rfl,rfl,by decide +kernel,rfl,by decide +kernel,by decide +kernel⟩
noncomputable abbrev s_at_name:Stmt:=top 52
noncomputable abbrev N_at_name:List Str:=["word","opens","talk","sign"]
noncomputable abbrev ps_at_name:List Str:=["word","opens","talk","sign"]
theorem sc_at_name:FnScope N_at_name ps_at_name (defScope s_at_name):=⟨rfl,rfl,rfl,by decide +kernel,rfl,by decide +kernel,by decide +kernel⟩
noncomputable abbrev s_at_slash:Stmt:=top 53
noncomputable abbrev N_at_slash:List Str:=["word","opens","talk","sign"]
noncomputable abbrev ps_at_slash:List Str:=["word","opens","talk","sign"]
theorem sc_at_slash:FnScope N_at_slash ps_at_slash (defScope s_at_slash):=⟨rfl,rfl,rfl,by decide +kernel,rfl,by decide +kernel,by decide +kernel⟩
noncomputable abbrev s_at_shut:Stmt:=top 54
noncomputable abbrev N_at_shut:List Str:=["word","opens","talk","sign"]
noncomputable abbrev ps_at_shut:List Str:=["word","opens","talk","sign"]
theorem sc_at_shut:FnScope N_at_shut ps_at_shut (defScope s_at_shut):=⟨rfl,rfl,rfl,by decide +kernel,rfl,by decide +kernel,by decide +kernel⟩
noncomputable abbrev s_at_gap:Stmt:=top 55
noncomputable abbrev N_at_gap:List Str:=["word","opens","talk","sign"]
noncomputable abbrev ps_at_gap:List Str:=["word","opens","talk","sign"]
theorem sc_at_gap:FnScope N_at_gap ps_at_gap (defScope s_at_gap):=⟨rfl,rfl,rfl,by decide +kernel,rfl,by decide +kernel,by decide +kernel⟩
noncomputable abbrev s_at_attr:Stmt:=top 56
noncomputable abbrev N_at_attr:List Str:=["word","opens","talk","sign"]
noncomputable abbrev ps_at_attr:List Str:=["word","opens","talk","sign"]
theorem sc_at_attr:FnScope N_at_attr ps_at_attr (defScope s_at_attr):=⟨rfl,rfl,rfl,by decide +kernel,rfl,by decide +kernel,by decide +kernel⟩
noncomputable abbrev s_at_is:Stmt:=top 57
noncomputable abbrev N_at_is:List Str:=["word","opens","talk","sign"]
noncomputable abbrev ps_at_is:List Str:=["word","opens","talk","sign"]
theorem sc_at_is:FnScope N_at_is ps_at_is (defScope s_at_is):=⟨rfl,rfl,rfl,by decide +kernel,rfl,by decide +kernel,by decide +kernel⟩
noncomputable abbrev s_at_bang:Stmt:=top 58
noncomputable abbrev N_at_bang:List Str:=["word","opens","talk","sign"]
noncomputable abbrev ps_at_bang:List Str:=["word","opens","talk","sign"]
theorem sc_at_bang:FnScope N_at_bang ps_at_bang (defScope s_at_bang):=⟨rfl,rfl,rfl,by decide +kernel,rfl,by decide +kernel,by decide +kernel⟩
noncomputable abbrev s_at_bare:Stmt:=top 59
noncomputable abbrev N_at_bare:List Str:=["word","opens","talk","sign"]
noncomputable abbrev ps_at_bare:List Str:=["word","opens","talk","sign"]
theorem sc_at_bare:FnScope N_at_bare ps_at_bare (defScope s_at_bare):=⟨rfl,rfl,rfl,by decide +kernel,rfl,by decide +kernel,by decide +kernel⟩
noncomputable abbrev s_at_code:Stmt:=top 60
noncomputable abbrev N_at_code:List Str:=["word","opens","talk","sign"]
noncomputable abbrev ps_at_code:List Str:=["word","opens","talk","sign"]
theorem sc_at_code:FnScope N_at_code ps_at_code (defScope s_at_code):=⟨rfl,rfl,rfl,by decide +kernel,rfl,by decide +kernel,by decide +kernel⟩
noncomputable abbrev s_at_row:Stmt:=top 61
noncomputable abbrev N_at_row:List Str:=["word","opens","talk","sign"]
noncomputable abbrev ps_at_row:List Str:=["word","opens","talk","sign"]
theorem sc_at_row:FnScope N_at_row ps_at_row (defScope s_at_row):=⟨rfl,rfl,rfl,by decide +kernel,rfl,by decide +kernel,by decide +kernel⟩
noncomputable abbrev s_at_stroke:Stmt:=top 62
noncomputable abbrev N_at_stroke:List Str:=["word","opens","talk","sign"]
noncomputable abbrev ps_at_stroke:List Str:=["word","opens","talk","sign"]
theorem sc_at_stroke:FnScope N_at_stroke ps_at_stroke (defScope s_at_stroke):=⟨rfl,rfl,rfl,by decide +kernel,rfl,by decide +kernel,by decide +kernel⟩
noncomputable abbrev s_at_quoted:Stmt:=top 63
noncomputable abbrev N_at_quoted:List Str:=["word","opens","talk","sign"]
noncomputable abbrev ps_at_quoted:List Str:=["word","opens","talk","sign"]
theorem sc_at_quoted:FnScope N_at_quoted ps_at_quoted (defScope s_at_quoted):=⟨rfl,rfl,rfl,by decide +kernel,rfl,by decide +kernel,by decide +kernel⟩
noncomputable abbrev s_at_qmark:Stmt:=top 64
noncomputable abbrev N_at_qmark:List Str:=["word","opens","talk","sign"]
noncomputable abbrev ps_at_qmark:List Str:=["word","opens","talk","sign"]
theorem sc_at_qmark:FnScope N_at_qmark ps_at_qmark (defScope s_at_qmark):=⟨rfl,rfl,rfl,by decide +kernel,rfl,by decide +kernel,by decide +kernel⟩
noncomputable abbrev s_at_done:Stmt:=top 65
noncomputable abbrev N_at_done:List Str:=["word","opens","talk","sign"]
noncomputable abbrev ps_at_done:List Str:=["word","opens","talk","sign"]
theorem sc_at_done:FnScope N_at_done ps_at_done (defScope s_at_done):=⟨rfl,rfl,rfl,by decide +kernel,rfl,by decide +kernel,by decide +kernel⟩
noncomputable abbrev s_at_talk:Stmt:=top 66
noncomputable abbrev N_at_talk:List Str:=["word","opens","talk","sign"]
noncomputable abbrev ps_at_talk:List Str:=["word","opens","talk","sign"]
theorem sc_at_talk:FnScope N_at_talk ps_at_talk (defScope s_at_talk):=⟨rfl,rfl,rfl,by decide +kernel,rfl,by decide +kernel,by decide +kernel⟩
noncomputable abbrev s_at_tmark:Stmt:=top 67
noncomputable abbrev N_at_tmark:List Str:=["word","opens","talk","sign"]
noncomputable abbrev ps_at_tmark:List Str:=["word","opens","talk","sign"]
theorem sc_at_tmark:FnScope N_at_tmark ps_at_tmark (defScope s_at_tmark):=⟨rfl,rfl,rfl,by decide +kernel,rfl,by decide +kernel,by decide +kernel⟩
noncomputable abbrev s_at_asis:Stmt:=top 68
noncomputable abbrev N_at_asis:List Str:=["word","opens","talk","sign","grown","events"]
noncomputable abbrev ps_at_asis:List Str:=["word","opens","talk","sign"]
theorem sc_at_asis:FnScope N_at_asis ps_at_asis (defScope s_at_asis):=⟨rfl,rfl,rfl,by decide +kernel,rfl,by decide +kernel,by decide +kernel⟩
noncomputable abbrev s_moved:Stmt:=top 70
noncomputable abbrev N_moved:List Str:=["state","sign","act"]
noncomputable abbrev ps_moved:List Str:=["state","sign"]
theorem sc_moved:FnScope N_moved ps_moved (defScope s_moved):=⟨rfl,rfl,rfl,by decide +kernel,rfl,by decide +kernel,by decide +kernel⟩
noncomputable abbrev s_begin:Stmt:=top 72
noncomputable abbrev N_begin:List Str:=[]
noncomputable abbrev ps_begin:List Str:=[]
theorem sc_begin:FnScope N_begin ps_begin (defScope s_begin):=⟨rfl,rfl,rfl,by decide +kernel,rfl,by decide +kernel,by decide +kernel⟩
noncomputable abbrev s_step:Stmt:=top 73
noncomputable abbrev N_step:List Str:=["state","sign"]
noncomputable abbrev ps_step:List Str:=["state","sign"]
theorem sc_step:FnScope N_step ps_step (defScope s_step):=⟨rfl,rfl,rfl,by decide +kernel,rfl,by decide +kernel,by decide +kernel⟩
noncomputable abbrev s_run:Stmt:=top 74
noncomputable abbrev N_run:List Str:=["state","text","now","events","at","sign","answer"]
noncomputable abbrev ps_run:List Str:=["state","text"]
theorem sc_run:FnScope N_run ps_run (defScope s_run):=⟨rfl,rfl,rfl,by decide +kernel,rfl,by decide +kernel,by decide +kernel⟩
noncomputable abbrev s_is_end:Stmt:=top 75
noncomputable abbrev N_is_end:List Str:=["state"]
noncomputable abbrev ps_is_end:List Str:=["state"]
theorem sc_is_end:FnScope N_is_end ps_is_end (defScope s_is_end):=⟨rfl,rfl,rfl,by decide +kernel,rfl,by decide +kernel,by decide +kernel⟩
noncomputable abbrev s_floored:Stmt:=top 76
noncomputable abbrev N_floored:List Str:=["state"]
noncomputable abbrev ps_floored:List Str:=["state"]
theorem sc_floored:FnScope N_floored ps_floored (defScope s_floored):=⟨rfl,rfl,rfl,by decide +kernel,rfl,by decide +kernel,by decide +kernel⟩
noncomputable abbrev s_Spot___init__:Stmt:=inClass (top 78) 0
noncomputable abbrev N_Spot___init__:List Str:=["self","state","turns","many"]
noncomputable abbrev ps_Spot___init__:List Str:=["self","state","turns","many"]
theorem sc_Spot___init__:FnScope N_Spot___init__ ps_Spot___init__ (defScope s_Spot___init__):=⟨rfl,rfl,rfl,by decide +kernel,rfl,by decide +kernel,by decide +kernel⟩
noncomputable abbrev s_Spot_shown:Stmt:=inClass (top 78) 1
noncomputable abbrev N_Spot_shown:List Str:=["self"]
noncomputable abbrev ps_Spot_shown:List Str:=["self"]
theorem sc_Spot_shown:FnScope N_Spot_shown ps_Spot_shown (defScope s_Spot_shown):=⟨rfl,rfl,rfl,by decide +kernel,rfl,by decide +kernel,by decide +kernel⟩
noncomputable abbrev s_Spot_met:Stmt:=inClass (top 78) 2
noncomputable abbrev N_Spot_met:List Str:=["self","state"]
noncomputable abbrev ps_Spot_met:List Str:=["self","state"]
theorem sc_Spot_met:FnScope N_Spot_met ps_Spot_met (defScope s_Spot_met):=⟨rfl,rfl,rfl,by decide +kernel,rfl,by decide +kernel,by decide +kernel⟩
noncomputable abbrev N_Spot_turned:List Str:=["self","turn"]
noncomputable abbrev s_Looking___init__:Stmt:=inClass (top 79) 0
noncomputable abbrev N_Looking___init__:List Str:=["self","kept"]
noncomputable abbrev ps_Looking___init__:List Str:=["self","kept"]
theorem sc_Looking___init__:FnScope N_Looking___init__ ps_Looking___init__ (defScope s_Looking___init__):=⟨rfl,rfl,rfl,by decide +kernel,rfl,by decide +kernel,by decide +kernel⟩
noncomputable abbrev s_Looking_look_all:Stmt:=inClass (top 79) 1
noncomputable abbrev N_Looking_look_all:List Str:=["self","pieces","spot","now","piece"]
noncomputable abbrev ps_Looking_look_all:List Str:=["self","pieces","spot"]
theorem sc_Looking_look_all:FnScope N_Looking_look_all ps_Looking_look_all (defScope s_Looking_look_all):=⟨rfl,rfl,rfl,by decide +kernel,rfl,by decide +kernel,by decide +kernel⟩
noncomputable abbrev s_Looking_look_piece:Stmt:=inClass (top 79) 2
noncomputable abbrev N_Looking_look_piece:List Str:=["self","piece","spot","word"]
noncomputable abbrev ps_Looking_look_piece:List Str:=["self","piece","spot"]
theorem sc_Looking_look_piece:FnScope N_Looking_look_piece ps_Looking_look_piece (defScope s_Looking_look_piece):=⟨rfl,rfl,rfl,by decide +kernel,rfl,by decide +kernel,by decide +kernel⟩
noncomputable abbrev s_Looking_look_literal:Stmt:=inClass (top 79) 3
noncomputable abbrev N_Looking_look_literal:List Str:=["self","piece","spot","answer","refusal"]
noncomputable abbrev ps_Looking_look_literal:List Str:=["self","piece","spot"]
theorem sc_Looking_look_literal:FnScope N_Looking_look_literal ps_Looking_look_literal (defScope s_Looking_look_literal):=⟨rfl,rfl,rfl,by decide +kernel,rfl,by decide +kernel,by decide +kernel⟩
noncomputable abbrev N_Looking_look_hole:List Str:=["self","piece","spot","place"]
noncomputable abbrev N_Looking_look_each:List Str:=["self","piece","spot","passed","end"]
noncomputable abbrev N_Looking_look_if:List Str:=["self","piece","spot","one","other"]
noncomputable abbrev s_Looking_look_seat:Stmt:=inClass (top 79) 7
noncomputable abbrev N_Looking_look_seat:List Str:=["self","piece","spot","floor","end"]
noncomputable abbrev ps_Looking_look_seat:List Str:=["self","piece","spot"]
theorem sc_Looking_look_seat:FnScope N_Looking_look_seat ps_Looking_look_seat (defScope s_Looking_look_seat):=⟨rfl,rfl,rfl,by decide +kernel,rfl,by decide +kernel,by decide +kernel⟩
noncomputable abbrev N_Looking_look_drawn:List Str:=["self","piece","spot","pair","part","first","behind"]
noncomputable abbrev s_looked_at:Stmt:=top 80
noncomputable abbrev N_looked_at:List Str:=["pieces","kept","looking","end"]
noncomputable abbrev ps_looked_at:List Str:=["pieces","kept"]
theorem sc_looked_at:FnScope N_looked_at ps_looked_at (defScope s_looked_at):=⟨rfl,rfl,rfl,by decide +kernel,rfl,by decide +kernel,by decide +kernel⟩
noncomputable abbrev s_look:Stmt:=top 81
noncomputable abbrev N_look:List Str:=["pieces"]
noncomputable abbrev ps_look:List Str:=["pieces"]
theorem sc_look:FnScope N_look ps_look (defScope s_look):=⟨rfl,rfl,rfl,by decide +kernel,rfl,by decide +kernel,by decide +kernel⟩
noncomputable abbrev s__law_cell:Stmt:=top 83
noncomputable abbrev N__law_cell:List Str:=["_law_script","_law_k","_law_number"]
noncomputable abbrev ps__law_cell:List Str:=["_law_script","_law_k"]
theorem sc__law_cell:FnScope N__law_cell ps__law_cell (defScope s__law_cell):=⟨rfl,rfl,rfl,by decide +kernel,rfl,by decide +kernel,by decide +kernel⟩
noncomputable abbrev s__law_mix:Stmt:=top 84
noncomputable abbrev N__law_mix:List Str:=["_law_cell_here","_law_k","_law_many","_law_first","_law_second","_law_number"]
noncomputable abbrev ps__law_mix:List Str:=["_law_cell_here","_law_k","_law_many"]
theorem sc__law_mix:FnScope N__law_mix ps__law_mix (defScope s__law_mix):=⟨rfl,rfl,rfl,by decide +kernel,rfl,by decide +kernel,by decide +kernel⟩
noncomputable abbrev s__law_other:Stmt:=top 85
noncomputable abbrev N__law_other:List Str:=["_law_e"]
noncomputable abbrev ps__law_other:List Str:=["_law_e"]
theorem sc__law_other:FnScope N__law_other ps__law_other (defScope s__law_other):=⟨rfl,rfl,rfl,by decide +kernel,rfl,by decide +kernel,by decide +kernel⟩
noncomputable abbrev s__law_looked:Stmt:=top 86
noncomputable abbrev N__law_looked:List Str:=["_law_pieces","_law_found_here","_law_e"]
noncomputable abbrev ps__law_looked:List Str:=["_law_pieces"]
theorem sc__law_looked:FnScope N__law_looked ps__law_looked (defScope s__law_looked):=⟨rfl,rfl,rfl,by decide +kernel,rfl,by decide +kernel,by decide +kernel⟩
noncomputable abbrev s__law_refusal:Stmt:=top 87
noncomputable abbrev N__law_refusal:List Str:=["_law_e"]
noncomputable abbrev ps__law_refusal:List Str:=["_law_e"]
theorem sc__law_refusal:FnScope N__law_refusal ps__law_refusal (defScope s__law_refusal):=⟨rfl,rfl,rfl,by decide +kernel,rfl,by decide +kernel,by decide +kernel⟩
noncomputable abbrev s__law_spots:Stmt:=top 88
noncomputable abbrev N__law_spots:List Str:=["_law_spots_here"]
noncomputable abbrev ps__law_spots:List Str:=[]
theorem sc__law_spots:FnScope N__law_spots ps__law_spots (defScope s__law_spots):=⟨rfl,rfl,rfl,by decide +kernel,rfl,by decide +kernel,by decide +kernel⟩
noncomputable abbrev s__law_menu:Stmt:=top 89
noncomputable abbrev N__law_menu:List Str:=["_law_cell_here","_law_k","_law_some","_law_found_here"]
noncomputable abbrev ps__law_menu:List Str:=["_law_cell_here","_law_k"]
theorem sc__law_menu:FnScope N__law_menu ps__law_menu (defScope s__law_menu):=⟨rfl,rfl,rfl,by decide +kernel,rfl,by decide +kernel,by decide +kernel⟩
noncomputable abbrev s__law_found:Stmt:=top 90
noncomputable abbrev N__law_found:List Str:=["_law_state","_law_cell_here","_law_many","_law_made","_law_k","_law_sign","_law_told"]
noncomputable abbrev ps__law_found:List Str:=["_law_state","_law_cell_here","_law_many"]
theorem sc__law_found:FnScope N__law_found ps__law_found (defScope s__law_found):=⟨rfl,rfl,rfl,by decide +kernel,rfl,by decide +kernel,by decide +kernel⟩
noncomputable abbrev s__law_ran:Stmt:=top 91
noncomputable abbrev N__law_ran:List Str:=["_law_state","_law_text","_law_found_here","_law_e"]
noncomputable abbrev ps__law_ran:List Str:=["_law_state","_law_text"]
theorem sc__law_ran:FnScope N__law_ran ps__law_ran (defScope s__law_ran):=⟨rfl,rfl,rfl,by decide +kernel,rfl,by decide +kernel,by decide +kernel⟩
noncomputable abbrev s__law_seat:Stmt:=top 92
noncomputable abbrev N__law_seat:List Str:=["_law_text"]
noncomputable abbrev ps__law_seat:List Str:=["_law_text"]
theorem sc__law_seat:FnScope N__law_seat ps__law_seat (defScope s__law_seat):=⟨rfl,rfl,rfl,by decide +kernel,rfl,by decide +kernel,by decide +kernel⟩
noncomputable abbrev s__law_due:Stmt:=top 93
noncomputable abbrev N__law_due:List Str:=["_law_floor","_law_text","_law_things","_law_found_here"]
noncomputable abbrev ps__law_due:List Str:=["_law_floor","_law_text","_law_things"]
theorem sc__law_due:FnScope N__law_due ps__law_due (defScope s__law_due):=⟨rfl,rfl,rfl,by decide +kernel,rfl,by decide +kernel,by decide +kernel⟩
noncomputable abbrev s__law_right:Stmt:=top 94
noncomputable abbrev N__law_right:List Str:=["_law_spot","_law_text","_law_floor","_law_first","_law_close","_law_due_here"]
noncomputable abbrev ps__law_right:List Str:=["_law_spot","_law_text"]
theorem sc__law_right:FnScope N__law_right ps__law_right (defScope s__law_right):=⟨rfl,rfl,rfl,by decide +kernel,rfl,by decide +kernel,by decide +kernel⟩
noncomputable abbrev s__law_evens:Stmt:=top 95
noncomputable abbrev N__law_evens:List Str:=["_law_spot","_law_cell_here","_law_floor","_law_text","_law_k"]
noncomputable abbrev ps__law_evens:List Str:=["_law_spot","_law_cell_here"]
theorem sc__law_evens:FnScope N__law_evens ps__law_evens (defScope s__law_evens):=⟨rfl,rfl,rfl,by decide +kernel,rfl,by decide +kernel,by decide +kernel⟩
noncomputable abbrev s_law:Stmt:=top 96
noncomputable abbrev N_law:List Str:=["_law_script","_law_k","_law_cell_here","_law_j","_law_spot","_law_number","_law_floor","_law_text","_law_some","_law_fixed"]
noncomputable abbrev ps_law:List Str:=["_law_script"]
theorem sc_law:FnScope N_law ps_law (defScope s_law):=⟨rfl,rfl,rfl,by decide +kernel,rfl,by decide +kernel,by decide +kernel⟩
noncomputable abbrev s_i_Unread:Stmt:=inClass (top 4) 0
theorem sc_i_Unread:FnScope ["self","at"] ["self","at"] (defScope s_i_Unread):=⟨rfl,rfl,rfl,by decide +kernel,rfl,by decide +kernel,by decide +kernel⟩
noncomputable abbrev s_i_Astray:Stmt:=inClass (top 15) 0
theorem sc_i_Astray:FnScope ["self","place","at"] ["self","place","at"] (defScope s_i_Astray):=⟨rfl,rfl,rfl,by decide +kernel,rfl,by decide +kernel,by decide +kernel⟩
noncomputable abbrev s_i_Unlike:Stmt:=inClass (top 17) 0
theorem sc_i_Unlike:FnScope ["self","what","one","other"] ["self","what","one","other"] (defScope s_i_Unlike):=⟨rfl,rfl,rfl,by decide +kernel,rfl,by decide +kernel,by decide +kernel⟩
theorem cxK {CX:CXT}{P:Program}{w:World}{K:PySem.W.Frag}{mg:Str->Option Value}{base:Heap}{N:List Str}{qual:Str}{scope:Scope}{f:Addr}{cd:Value}{A:Around}{outer:List Env}{s:Shared}{H:Hp}{E:XK}:(cxOf CX P w K mg base N qual scope f cd A outer s H E).nox.K=K:=rfl
theorem cxK0 {CX:CXT}{P:Program}{w:World}{K:PySem.W.Frag}{mg:Str->Option Value}{base:Heap}{N:List Str}{qual:Str}{scope:Scope}{f:Addr}{cd:Value}{A:Around}{outer:List Env}{s:Shared}{H:Hp}{E:XK}:(cxOf CX P w K mg base N qual scope f cd A outer s H E).K=K:=rfl
theorem nc0:((0:Nat):Int)=0:=rfl
theorem nc1:((1:Nat):Int)=1:=rfl
theorem nc2:((2:Nat):Int)=2:=rfl
theorem nc3:((3:Nat):Int)=3:=rfl
theorem nc94:((94:Nat):Int)=94:=rfl
theorem blkK {X:Cx}{x:Str}{scope:Scope}{cl:List (Str×Addr)}{C:Addr}{s3:Shared}{H3:Hp}{fp:List Addr}:(blk X x scope cl C s3 H3 fp).K=X.K:=rfl
theorem tyV_str {K:PySem.W.Frag}{x:Str}{H:Hp}:tyV K "str" (.str x) H=True:=by simp [tyV]
theorem ite_t {A B:Prop}:(if true=true then A else B)=A:=by simp
theorem ite_f {A B:Prop}:(if false=true then A else B)=B:=by simp
theorem cxKh {CX:CXT}{P:Program}{w:World}{K:PySem.W.Frag}{mg:Str->Option Value}{base:Heap}{N:List Str}{qual:Str}{scope:Scope}{f:Addr}{cd:Value}{A:Around}{outer:List Env}{s:Shared}{H:Hp}{E:XK}:(cxOf CX P w K mg base N qual scope f cd A outer s H E).hot.nox.K=K:=rfl
structure Ads where
  SealError:Addr
  NoSign:Addr
  NoCode:Addr
  Unread:Addr
  Unended:Addr
  NoPage:Addr
  NoName:Addr
  NoSheet:Addr
  Twice:Addr
  TooMany:Addr
  Unknown:Addr
  RingOver:Addr
  Ringed:Addr
  NoElder:Addr
  Astray:Addr
  NoPlace:Addr
  Unlike:Addr
  LeftOpen:Addr
  NoValue:Addr
  NoKind:Addr
  NoRow:Addr
  Spot:Addr
  Looking:Addr
  at_text:Addr
  at_mark:Addr
  at_open:Addr
  at_name:Addr
  at_slash:Addr
  at_shut:Addr
  at_gap:Addr
  at_attr:Addr
  at_is:Addr
  at_bang:Addr
  at_bare:Addr
  at_code:Addr
  at_row:Addr
  at_stroke:Addr
  at_quoted:Addr
  at_qmark:Addr
  at_done:Addr
  at_talk:Addr
  at_tmark:Addr
  at_asis:Addr
noncomputable def tab2 (t:Ads):List (Tx×AtF×Addr):=[(mText,aText,t.at_text),(mMark,aMark,t.at_mark),(mOpen,aOpen,t.at_open),(mName,aName,t.at_name),(mSlash,aSlash,t.at_slash),(mShut,aShut,t.at_shut),(mGap,aGap,t.at_gap),(mAttr,aAttr,t.at_attr),(mIs,aIs,t.at_is),(mBang,aBang,t.at_bang),(mBare,aBare,t.at_bare),(mCode,aCode,t.at_code),(mRow,aRow,t.at_row),(mStroke,aStroke,t.at_stroke),(mQuoted,aQuoted,t.at_quoted),(mQmark,aQmark,t.at_qmark),(mDone,aDone,t.at_done),(mTalk,aTalk,t.at_talk),(mTmark,aTmark,t.at_tmark),(mAsis,aAsis,t.at_asis)]
noncomputable def mtab (t:Ads):List (Key×V):=(tab2 t).map fun e=>(.inr (S e.1),.ref e.2.2)
theorem atTab_eq (t:Ads):atTab=(tab2 t).map fun e=>(e.1,e.2.1):=rfl
theorem tab_find (m:Tx):∀ l:List (Tx×AtF×Addr),(∃ e∈l,valV (l.map fun e=>((.inr (S e.1):Key),V.ref e.2.2)) (.inr (S m))=some (.ref e.2.2)/\(l.map fun e=>(e.1,e.2.1)).lookup m=some e.2.1) \/
    (valV (l.map fun e=>((.inr (S e.1):Key),V.ref e.2.2)) (.inr (S m))=none/\(l.map fun e=>(e.1,e.2.1)).lookup m=none)
  | []=>.inr ⟨rfl,rfl⟩
  | e::l=>by
    by_cases h:e.1=m
    · refine .inl ⟨e,List.mem_cons_self,?_,?_⟩
      · rw [List.map_cons,valV_pos (by show(Sum.inr (S e.1):Key)=Sum.inr (S m);rw [h])]
      · rw [List.map_cons,List.lookup_cons,h]
        simp
    · have e1:valV ((e::l).map fun e=>((.inr (S e.1):Key),V.ref e.2.2)) (.inr (S m))=valV (l.map fun e=>((.inr (S e.1):Key),V.ref e.2.2)) (.inr (S m)):=by
        rw [List.map_cons,valV_neg (by intro z;exact h (S_inj.mp (Sum.inr.inj z)))]
      have e2:((e::l).map fun e=>(e.1,e.2.1)).lookup m=(l.map fun e=>(e.1,e.2.1)).lookup m:=by
        rw [List.map_cons,List.lookup_cons]
        have:(m == e.1)=false:=beq_eq_false_iff_ne.mpr fun z=>h z.symm
        simp [this]
      rw [e1,e2]
      rcases tab_find m l with⟨e',h1,h2⟩ | h2
      · exact .inl ⟨e',List.mem_cons_of_mem _ h1,h2⟩
      · exact .inr h2
structure Txt (w:World)(K:PySem.W.Frag)(mg:Str->Option Value)(t:Ads):Prop where
  m_SealError:mg "SealError" = some (.ref t.SealError)
  m_NoSign:mg "NoSign" = some (.ref t.NoSign)
  m_NoCode:mg "NoCode" = some (.ref t.NoCode)
  m_Unread:mg "Unread" = some (.ref t.Unread)
  m_Unended:mg "Unended" = some (.ref t.Unended)
  m_NoPage:mg "NoPage" = some (.ref t.NoPage)
  m_NoName:mg "NoName" = some (.ref t.NoName)
  m_NoSheet:mg "NoSheet" = some (.ref t.NoSheet)
  m_Twice:mg "Twice" = some (.ref t.Twice)
  m_TooMany:mg "TooMany" = some (.ref t.TooMany)
  m_Unknown:mg "Unknown" = some (.ref t.Unknown)
  m_RingOver:mg "RingOver" = some (.ref t.RingOver)
  m_Ringed:mg "Ringed" = some (.ref t.Ringed)
  m_NoElder:mg "NoElder" = some (.ref t.NoElder)
  m_Astray:mg "Astray" = some (.ref t.Astray)
  m_NoPlace:mg "NoPlace" = some (.ref t.NoPlace)
  m_Unlike:mg "Unlike" = some (.ref t.Unlike)
  m_LeftOpen:mg "LeftOpen" = some (.ref t.LeftOpen)
  m_NoValue:mg "NoValue" = some (.ref t.NoValue)
  m_NoKind:mg "NoKind" = some (.ref t.NoKind)
  m_NoRow:mg "NoRow" = some (.ref t.NoRow)
  m_Spot:mg "Spot" = some (.ref t.Spot)
  m_Looking:mg "Looking" = some (.ref t.Looking)
  m_at_text:mg "at_text" = some (.ref t.at_text)
  m_at_mark:mg "at_mark" = some (.ref t.at_mark)
  m_at_open:mg "at_open" = some (.ref t.at_open)
  m_at_name:mg "at_name" = some (.ref t.at_name)
  m_at_slash:mg "at_slash" = some (.ref t.at_slash)
  m_at_shut:mg "at_shut" = some (.ref t.at_shut)
  m_at_gap:mg "at_gap" = some (.ref t.at_gap)
  m_at_attr:mg "at_attr" = some (.ref t.at_attr)
  m_at_is:mg "at_is" = some (.ref t.at_is)
  m_at_bang:mg "at_bang" = some (.ref t.at_bang)
  m_at_bare:mg "at_bare" = some (.ref t.at_bare)
  m_at_code:mg "at_code" = some (.ref t.at_code)
  m_at_row:mg "at_row" = some (.ref t.at_row)
  m_at_stroke:mg "at_stroke" = some (.ref t.at_stroke)
  m_at_quoted:mg "at_quoted" = some (.ref t.at_quoted)
  m_at_qmark:mg "at_qmark" = some (.ref t.at_qmark)
  m_at_done:mg "at_done" = some (.ref t.at_done)
  m_at_talk:mg "at_talk" = some (.ref t.at_talk)
  m_at_tmark:mg "at_tmark" = some (.ref t.at_tmark)
  m_at_asis:mg "at_asis" = some (.ref t.at_asis)
  c_SealError:XCl K t.SealError
  c_Unread:XCl K t.Unread
  u_SealError:upIn K t.SealError=true
  k_Unread:PySem.W.keepIn K (.ref t.Unread)=true
  n_Unread_at:PySem.W.findIn K (.ref t.Unread) "at" = some none
  kit_up_ur:PySem.W.mroIn K t.Unread (.ref t.Unread)=some true
  c_Astray:XCl K t.Astray
  k_Astray:PySem.W.keepIn K (.ref t.Astray)=true
  n_Astray_place:PySem.W.findIn K (.ref t.Astray) "place" = some none
  n_Astray_at:PySem.W.findIn K (.ref t.Astray) "at" = some none
  kit_Astray_se:PySem.W.mroIn K t.Astray (.ref t.SealError)=some true
  kit_Astray_l1:PySem.W.kitAny K (.ref t.Astray) [.ref t.NoCode,.ref t.NoElder,.ref t.NoKind,.ref t.NoName,.ref t.NoPage,.ref t.NoRow,.ref t.NoSheet,.ref t.NoSign,.ref t.Unread]=some false
  kit_Astray_l2:PySem.W.kitAny K (.ref t.Astray) [.ref t.NoValue,.ref t.RingOver,.ref t.Ringed,.ref t.TooMany,.ref t.Twice,.ref t.Unended,.ref t.Unknown]=some false
  kit_Astray_ve:PySem.W.kitOne K (.ref t.Astray) (.type "ValueError")=some true
  kit_Astray_a:PySem.W.kitOne K (.ref t.Astray) (.ref t.Astray)=some true
  kit_Astray_o:PySem.W.kitAny K (.ref t.Astray) [.ref t.NoPlace,.ref t.Unlike,.ref t.LeftOpen]=some false
  c_Unlike:XCl K t.Unlike
  k_Unlike:PySem.W.keepIn K (.ref t.Unlike)=true
  n_Unlike_what:PySem.W.findIn K (.ref t.Unlike) "what" = some none
  n_Unlike_one:PySem.W.findIn K (.ref t.Unlike) "one" = some none
  n_Unlike_other:PySem.W.findIn K (.ref t.Unlike) "other" = some none
  kit_Unlike_se:PySem.W.mroIn K t.Unlike (.ref t.SealError)=some true
  kit_Unlike_l1:PySem.W.kitAny K (.ref t.Unlike) [.ref t.NoCode,.ref t.NoElder,.ref t.NoKind,.ref t.NoName,.ref t.NoPage,.ref t.NoRow,.ref t.NoSheet,.ref t.NoSign,.ref t.Unread]=some false
  kit_Unlike_l2:PySem.W.kitAny K (.ref t.Unlike) [.ref t.NoValue,.ref t.RingOver,.ref t.Ringed,.ref t.TooMany,.ref t.Twice,.ref t.Unended,.ref t.Unknown]=some false
  kit_Unlike_ve:PySem.W.kitOne K (.ref t.Unlike) (.type "ValueError")=some true
  kit_Unlike_a:PySem.W.kitOne K (.ref t.Unlike) (.ref t.Astray)=some false
  kit_Unlike_n:PySem.W.kitOne K (.ref t.Unlike) (.ref t.NoPlace)=some false
  kit_Unlike_u:PySem.W.kitOne K (.ref t.Unlike) (.ref t.Unlike)=some true
  kit_Unlike_o:PySem.W.kitOne K (.ref t.Unlike) (.ref t.LeftOpen)=some false
  g_SIGNS:∃ u,mg "SIGNS" = some u/\RelV (.str (S sg)) u
  g_FIGURES:∃ u,mg "FIGURES" = some u/\RelV (.str (S fg)) u
  g_LETTERS:∃ u,mg "LETTERS" = some u/\RelV (.str (S lt)) u
  g_LONGEST_NAME:∃ u,mg "LONGEST_NAME" = some u/\RelV (.int 8) u
  g_WORDSIGNS:∃ u,mg "WORDSIGNS" = some u/\RelV (.str (S ws)) u
  g_ASIS_END:∃ u,mg "ASIS_END" = some u/\RelV (.str (S asisEnd)) u
  g_MARK_FIGURES:∃ u,mg "MARK_FIGURES" = some u/\RelV (.int 2) u
  d_MODES:∃ a,mg "MODES" = some (.ref a)/\KDict w K a (mtab t)
  z_len:mg "len" = none
  z_max:mg "max" = none
  z_min:mg "min" = none
  z_int:mg "int" = none
  z_str:mg "str" = none
  z_tuple:mg "tuple" = none
  z_list:mg "list" = none
  z_range:mg "range" = none
  z_enumerate:mg "enumerate" = none
  z_isinstance:mg "isinstance" = none
  z_ValueError:mg "ValueError" = none
  l_Spot:Cls K t.Spot
  l_Looking:Cls K t.Looking
  a_state:NoAttr K t.Spot "state"
  a_turns:NoAttr K t.Spot "turns"
  a_many:NoAttr K t.Spot "many"
  a_kept:NoAttr K t.Looking "kept"
  a_holes:NoAttr K t.Looking "holes"
  a_pairs:NoAttr K t.Looking "pairs"
theorem err_Unread {P:Program}{w:World}{K:PySem.W.Frag}{mg:Str->Option Value}{base:Heap}{t:Ads}(T:Txt w K mg t)(D:Ini K t.Unread "Unread.__init__" s_i_Unread ["self","at"]):Err P w K mg base "Unread" t.Unread "at" payT:=by
  obtain⟨fI,fd,oI,i1,i2,i3,F,b⟩:=D.ex
  refine⟨T.m_Unread,T.c_Unread,T.k_Unread,fI,fd,oI,_,i1,i2,i3,b,?_⟩
  refine F.ok sc_i_Unread (fun vs H Q E h=>by obtain⟨a,v,rfl,_⟩:=h;rfl) fun cdv A outer s H vs Q E hr h=>?_
  obtain⟨a,v,rfl,ea,hp,q⟩:=h
  exact⟨_,pss_cons (ps_expr (pe_init (C:=t.Unread) T.m_SealError T.u_SealError T.c_Unread (pa_cons (pv 0) (pa_cons (pe_fs (pv 1)) pa_nil)))) (pss_one (ps_set0 T.c_Unread T.n_Unread_at (pv 0) (pv 1))),init_read ea hp q⟩
theorem drawn {ys:List V}{n:Nat}(hl:ys.length=n)(h:∀ (i:Nat) v,ys[i]? = some v->∃ c∈sg,v=V.str (S [c])) :
    ∃ t:List Nat,t.length=n/\(∀ c∈t,c∈sg)/\ys=(t.map fun c=>[c]).map (fun l=>V.str (S l)):=by
  induction ys generalizing n with
  | nil=>exact⟨[],hl,by simp,rfl⟩
  | cons y ys ih=>
    obtain⟨c,hc,rfl⟩:=h 0 y rfl
    obtain⟨t,e1,e2,e3⟩:=ih (n:=ys.length) rfl fun i v e=>h (i+1) v (by simpa using e)
    refine⟨c::t,by rw [List.length_cons,e1,← hl];rfl,fun d hd=>?_,by rw [e3];rfl⟩
    rcases List.mem_cons.mp hd with rfl | hd
    · exact hc
    · exact e2 d hd
noncomputable def spA (F:AtF):Sp:=fun vs H Q _=>∃ (w:Tx) (oa:Addr) (op:List Tx) (t:Tx) (c:Nat),vs=[.str (S w),.ref oa,.str (S t),.str (S [c])]/\OpV H oa op/\w.length<=1000/\op.length<=100000/\∀ v H',Same H H'->AnV (fun a=>H a=none) H' v (F w op t c)->Q v H'
noncomputable def sp_sign_of:Sp:=fun vs H Q _=>∃ n:Nat,vs=[.int n]/\n<94/\∀ c H',sg[n]? = some c->Same H H'->Q (.str (S [c])) H'
noncomputable def sp_sign_told:Sp:=fun vs H Q _=>∃ l,vs=[.str (S l)]/\l.length<=2000/\∀ H',Same H H'->Q (oV (L2.told l)) H'
noncomputable def sp_fed_between:Sp:=fun vs H Q _=>∃ c:Nat,vs=[.str (S [c])]/\∀ v H',Same H H'->TkV (fun a=>H a=none) H' v (fedB c)->Q v H'
noncomputable def sp_fed_word:Sp:=fun vs H Q _=>∃ c:Nat,vs=[.str (S [c])]/\∀ v H',Same H H'->TkV (fun a=>H a=none) H' v (fedW c)->Q v H'
noncomputable def sp_fed_said:Sp:=fun vs H Q _=>∃ c:Nat,vs=[.str (S [c])]/\∀ v H',Same H H'->TkV (fun a=>H a=none) H' v (fedS c)->Q v H'
noncomputable def sp_feed:Sp:=fun vs H Q _=>∃ (t:Tx) (c:Nat),vs=[.str (S t),.str (S [c])]/\∀ v H',Same H H'->TkV (fun a=>H a=none) H' v (feedM t c)->Q v H'
noncomputable def sp_come_to:Sp:=fun vs H Q _=>∃ (m:Tx) (oa:Addr) (op:List Tx) (ea:Addr) (es:List Ev),vs=[.str (S m),.ref oa,.ref ea]/\OpV H oa op/\EvL H ea es/\∀ v H',Same H H'->AnV (fun a=>a=ea) H' v (comeTo m op es)->Q v H'
noncomputable def sp_told:Sp:=fun vs H Q _=>∃ (m:Tx) (oa:Addr) (op:List Tx) (o:Option Nat),vs=[.str (S m),.ref oa,oV o]/\OpV H oa op/\∀ v H',Same H H'->AnV (fun a=>H a=none) H' v (toldM m op o)->Q v H'
noncomputable def sp_gathered:Sp:=fun vs H Q _=>∃ (m w:Tx) (oa:Addr) (op:List Tx) (t:Tx) (n:Nat),vs=[.str (S m),.str (S w),.ref oa,.str (S t),.int n]/\OpV H oa op/\w.length<=2000/\∀ v H',Same H H'->AnV (fun a=>H a=none) H' v (gath m w op t n)->Q v H'
noncomputable def sp_box_shut:Sp:=fun vs H Q _=>∃ (oa:Addr) (op:List Tx) (ea:Addr) (es:List Ev),vs=[.ref oa,.ref ea]/\OpV H oa op/\EvL H ea es/\es.length<=1000/\∀ v H',Same H H'->AnV (fun a=>H a=none) H' v (boxShut op es)->Q v H'
noncomputable def sp_into_box:Sp:=fun vs H Q _=>∃ (oa:Addr) (op:List Tx) (ea:Addr) (es:List Ev),vs=[.ref oa,.ref ea]/\OpV H oa op/\EvL H ea es/\es.length<=1000/\∀ v H',Same H H'->AnV (fun a=>H a=none) H' v (intoBox op es)->Q v H'
noncomputable def sp_led_on:Sp:=fun vs H Q _=>∃ (oa:Addr) (op:List Tx) (c:Nat) (ea:Addr) (es:List Ev),vs=[.ref oa,.str (S [c]),.ref ea]/\OpV H oa op/\EvL H ea es/\es.length<=1000/\∀ v H',Same H H'->AnV (fun a=>H a=none\/a=ea) H' v (ledOn op c es)->Q v H'
noncomputable def sp_fed:Sp:=fun vs H Q _=>∃ (oa:Addr) (op:List Tx) (t:Tx) (o:Option Nat),vs=[.ref oa,.str (S t),oV o]/\OpV H oa op/\∀ v H',Same H H'->AnV (fun a=>H a=none) H' v (fedM op t o)->Q v H'
noncomputable def sp_mark_ended:Sp:=fun vs H Q _=>∃ (w:Tx) (c:Nat),vs=[.str (S w),.str (S [c])]/\w.length<=1000/\∀ H',Same H H'->Q (oV (mkEnd w c)) H'
noncomputable def sp_at_text:Sp:=spA aText
noncomputable def sp_at_mark:Sp:=spA aMark
noncomputable def sp_at_open:Sp:=spA aOpen
noncomputable def sp_at_name:Sp:=spA aName
noncomputable def sp_at_slash:Sp:=spA aSlash
noncomputable def sp_at_shut:Sp:=spA aShut
noncomputable def sp_at_gap:Sp:=spA aGap
noncomputable def sp_at_attr:Sp:=spA aAttr
noncomputable def sp_at_is:Sp:=spA aIs
noncomputable def sp_at_bang:Sp:=spA aBang
noncomputable def sp_at_bare:Sp:=spA aBare
noncomputable def sp_at_code:Sp:=spA aCode
noncomputable def sp_at_row:Sp:=spA aRow
noncomputable def sp_at_stroke:Sp:=spA aStroke
noncomputable def sp_at_quoted:Sp:=spA aQuoted
noncomputable def sp_at_qmark:Sp:=spA aQmark
noncomputable def sp_at_done:Sp:=spA aDone
noncomputable def sp_at_talk:Sp:=spA aTalk
noncomputable def sp_at_tmark:Sp:=spA aTmark
noncomputable def sp_at_asis:Sp:=spA aAsis
noncomputable def sp_moved:Sp:=fun vs H Q _=>∃ (x:V) (s:MS) (c:Nat),vs=[x,.str (S [c])]/\StV H x s/\s.word.length<=1000/\s.opens.length<=100000/\∀ v H',Same H H'->AnV (fun a=>H a=none) H' v (stepM s c)->Q v H'
noncomputable def sp_begin:Sp:=fun vs H Q _=>vs=[]/\∀ v H',Same H H'->StV H' v ⟨mText,[],[],[]⟩->Q v H'
noncomputable def sp_step:Sp:=sp_moved
noncomputable def sp_floored:Sp:=fun vs H Q _=>∃ (x:V) (s:MS),vs=[x]/\StV H x s/\∀ v H',Same H H'->StV H' v { s with opens:=[] }->Q v H'
def RnV (G:Addr->Prop)(H:Hp)(v:V)(s:MS)(es:List Ev):Prop:=∃ p sa ea,v=.ref p/\H p=some (.tup [sa,.ref ea])/\StV H sa s/\EvL H ea es/\G ea
noncomputable def sp_run (t:Ads):Sp:=fun vs H Q E=>∃ (x:V) (s:MS) (l:List Nat),vs=[x,.str (S l)]/\StV H x s/\s.word.length<=8/\s.opens.length+l.length<=100000/\(∀ s' es,runM s l=.ok (s',es)->∀ v H',Same H H'->RnV (fun a=>H a=none) H' v s' es->Q v H')/\(∀ b:Nat,runM s l=.error b->∀ d H',Same H H'->H' d=some (.xd [("at",.int b)])->E (.ref t.Unread) (some d) H')
noncomputable def placeM (s:MS):Option Tx:=if s.mode∈[mText,mBare,mRow,mQuoted] then some s.mode else if s.mode=mTalk/\s.talk=tSaid then some tSaid else none
noncomputable def sp__law_cell (K:PySem.W.Frag):Sp:=fun vs H Q _=>∃ (a:Addr) (ns:List Int) (k:Nat),vs=[.ref a,.int k]/\SqL K H a (ns.map V.int)/\ns.length<=63/\k<=100/\∀ v H',Same H H'->Q (.int v) H'
noncomputable def sp__law_mix:Sp:=fun vs H Q _=>∃ c k m:Int,vs=[.int c,.int k,.int m]/\0<=k/\k<=1000/\0<m/\∀ (v:Nat) H',(v:Int)<m->Same H H'->Q (.int ((v:Nat):Int)) H'
theorem eqDs_ft:∀ l m:List Tx,eqDs (l.map ft) (m.map ft)=true->l=m
  | [],[],_=>rfl
  | [],_::_,h=>by simp [eqDs] at h
  | _::_,[],h=>by simp [eqDs] at h
  | a::l,b::m,h=>by
    simp only [List.map_cons,eqDs,eqD,Bool.and_eq_true] at h
    have h1:(S a == S b)=true:=h.1
    rw [beq_S] at h1
    rw [of_decide_eq_true h1,eqDs_ft l m h.2]
theorem ft_inj {a b:Tx}(h:eqD (ft a) (ft b)=true):a=b:=by
  have h1:(S a == S b)=true:=h
  rw [beq_S] at h1
  exact of_decide_eq_true h1
theorem dS_inj {a b:MS}(h:eqD (dS a) (dS b)=true):a=b:=by
  obtain⟨m,w,o,t⟩:=a
  obtain⟨m',w',o',t'⟩:=b
  simp only [dS,eqD,eqDs,Bool.and_eq_true] at h
  obtain⟨h1,h2,h3,h4,_⟩:=h
  rw [ft_inj h1,ft_inj h2,eqDs_ft _ _ h3,ft_inj h4]
inductive Pc where
  | lit (t:Tx)
  | hole (t:Tx)
  | each (n:Tx) (b:List Pc)
  | ife (n:Tx) (a b:List Pc)
  | seat (w n m:Tx) (b:List Pc)
mutual
noncomputable def dP:Pc->Dat
  | .lit t=>.tp [ft [108,105,116],ft t]
  | .hole t=>.tp [ft [104,111,108,101],ft t]
  | .each n b=>.tp [ft [101,97,99,104],ft n,.ls (dPs b)]
  | .ife n a b=>.tp [ft [105,102],ft n,.ls (dPs a),.ls (dPs b)]
  | .seat w n m b=>.tp [ft [115,101,97,116],ft w,ft n,ft m,.ls (dPs b)]
noncomputable def dPs:List Pc->List Dat
  | []=>[]
  | p::ps=>dP p::dPs ps
end
mutual
noncomputable def szP:Pc->Nat
  | .lit _=>1
  | .hole _=>1
  | .each _ b=>1+szPs b
  | .ife _ a b=>1+szPs a+szPs b
  | .seat _ _ _ b=>2+szPs b
noncomputable def szPs:List Pc->Nat
  | []=>0
  | p::ps=>szP p+szPs ps
end
noncomputable def PcF (H:Hp):Pc->List V->Prop
  | .lit t,vs=>vs=[tx [108,105,116],tx t]
  | .hole t,vs=>vs=[tx [104,111,108,101],tx t]
  | .each n b,vs=>∃ w,vs=[tx [101,97,99,104],tx n,w]/\IsDt H (.ls (dPs b)) w
  | .ife n a b,vs=>∃ w u,vs=[tx [105,102],tx n,w,u]/\IsDt H (.ls (dPs a)) w/\IsDt H (.ls (dPs b)) u
  | .seat x n m b,vs=>∃ w,vs=[tx [115,101,97,116],tx x,tx n,tx m,w]/\IsDt H (.ls (dPs b)) w
theorem pcF {H:Hp}{x:Pc}{v:V}(h:IsDt H (dP x) v):∃ p vs,v=.ref p/\H p=some (.tup vs)/\PcF H x vs:=by
  cases x with
  | lit t=>
    obtain⟨p,vs,e,hp,v0,r0,rfl,⟨rfl,_⟩,v1,r1,rfl,⟨rfl,_⟩,rfl⟩:=(by simpa only [dP] using h:IsDt H (.tp [ft [108,105,116],ft t]) v)
    exact⟨p,_,e,hp,rfl⟩
  | hole t=>
    obtain⟨p,vs,e,hp,v0,r0,rfl,⟨rfl,_⟩,v1,r1,rfl,⟨rfl,_⟩,rfl⟩:=(by simpa only [dP] using h:IsDt H (.tp [ft [104,111,108,101],ft t]) v)
    exact⟨p,_,e,hp,rfl⟩
  | each n b=>
    obtain⟨p,vs,e,hp,v0,r0,rfl,⟨rfl,_⟩,v1,r1,rfl,⟨rfl,_⟩,v2,r2,rfl,h2,rfl⟩:=(by simpa only [dP] using h:IsDt H (.tp [ft [101,97,99,104],ft n,.ls (dPs b)]) v)
    exact⟨p,_,e,hp,_,rfl,h2⟩
  | ife n a b=>
    obtain⟨p,vs,e,hp,v0,r0,rfl,⟨rfl,_⟩,v1,r1,rfl,⟨rfl,_⟩,v2,r2,rfl,h2,v3,r3,rfl,h3,rfl⟩:=(by simpa only [dP] using h:IsDt H (.tp [ft [105,102],ft n,.ls (dPs a),.ls (dPs b)]) v)
    exact⟨p,_,e,hp,_,_,rfl,h2,h3⟩
  | seat x n m b=>
    obtain⟨p,vs,e,hp,v0,r0,rfl,⟨rfl,_⟩,v1,r1,rfl,⟨rfl,_⟩,v2,r2,rfl,⟨rfl,_⟩,v3,r3,rfl,⟨rfl,_⟩,v4,r4,rfl,h4,rfl⟩:=(by simpa only [dP] using h:IsDt H (.tp [ft [115,101,97,116],ft x,ft n,ft m,.ls (dPs b)]) v)
    exact⟨p,_,e,hp,_,rfl,h4⟩
def TpS (H1 H2:Hp):Prop:=∀ b ts,H1 b=some (.tup ts)->H2 b=some (.tup ts)
theorem TpS.trans {H1 H2 H3:Hp}(a:TpS H1 H2)(b:TpS H2 H3):TpS H1 H3:=fun p ts h=>b _ _ (a _ _ h)
theorem TpS.of {H1 H2:Hp}(g:Same H1 H2):TpS H1 H2:=fun b ts h=>g _ _ h
theorem tx_ne {x y:Tx}(h:x≠y):¬ tx x=V.str (S y):=fun z=>h (S_inj.mp (V.str.inj z))
theorem dPs_len:∀ ps:List Pc,(dPs ps).length=ps.length
  | []=>by simp only [dPs,List.length_nil]
  | _::ps=>by simp only [dPs,List.length_cons,dPs_len ps]
theorem dPs_app:∀ a b:List Pc,dPs (a++b)=dPs a++dPs b
  | [],_=>by simp only [dPs,List.nil_append]
  | p::a,b=>by simp only [List.cons_append,dPs,dPs_app a b]
theorem szPs_app:∀ a b:List Pc,szPs (a++b)=szPs a+szPs b
  | [],_=>by simp only [szPs,List.nil_append,Nat.zero_add]
  | p::a,b=>by simp only [List.cons_append,szPs,szPs_app a b];omega
theorem dt_lit {H:Hp}{q:Addr}{t:Tx}(h:H q=some (.tup [tx [108,105,116],tx t])):IsDs H (dPs [.lit t]) [.ref q]:=by
  simp only [dPs,dP]
  exact⟨_,_,rfl,⟨q,_,rfl,h,isDs_txs [[108,105,116],t]⟩,rfl⟩
theorem dt_seat {H:Hp}{q fa:Addr}{w n m:Tx}{b:List Pc}(h:H q=some (.tup [tx [115,101,97,116],tx w,tx n,tx m,.ref fa]))(hb:IsDt H (.ls (dPs b)) (.ref fa)):IsDs H (dPs [.seat w n m b]) [.ref q]:=by
  simp only [dPs,dP]
  exact⟨_,_,rfl,⟨q,_,rfl,h,_,_,rfl,⟨rfl,rfl⟩,_,_,rfl,⟨rfl,rfl⟩,_,_,rfl,⟨rfl,rfl⟩,_,_,rfl,⟨rfl,rfl⟩,_,_,rfl,hb,rfl⟩,rfl⟩
theorem runM_app {s s1 s2:MS}{e1 e2:List Ev}:∀ {a b:List Nat},runM s a=.ok (s1,e1)->runM s1 b=.ok (s2,e2)->runM s (a++b)=.ok (s2,e1++e2):=by
  intro a
  induction a generalizing s e1 with
  | nil=>
    intro b h1 h2
    simp only [runM,Except.ok.injEq,Prod.mk.injEq] at h1
    obtain⟨rfl,rfl⟩:=h1
    simpa using h2
  | cons c r ih=>
    intro b h1 h2
    simp only [runM] at h1
    cases hq:stepM s c with
    | none=>rw [hq] at h1;cases h1
    | some x=>
      obtain⟨s',es⟩:=x
      rw [hq] at h1
      simp only at h1
      cases hr:runM s' r with
      | error n=>rw [hr] at h1;cases h1
      | ok y=>
        obtain⟨s'',fs⟩:=y
        rw [hr] at h1
        simp only [Except.ok.injEq,Prod.mk.injEq] at h1
        obtain⟨rfl,rfl⟩:=h1
        have:=ih hr h2
        simp only [List.cons_append,runM,hq,this,List.append_assoc]
theorem runM_one {s s':MS}{c:Nat}{es:List Ev}(h:stepM s c=some (s',es)):runM s [c]=.ok (s',es):=by
  simp only [runM,h,List.append_nil]
theorem runM_split {s s2:MS}{es:List Ev}:∀ {a b:List Nat},runM s (a++b)=.ok (s2,es)->∃ s1 e1 e2,runM s a=.ok (s1,e1)/\runM s1 b=.ok (s2,e2)/\es=e1++e2:=by
  intro a
  induction a generalizing s es with
  | nil=>intro b h;exact⟨s,[],es,rfl,h,rfl⟩
  | cons c r ih=>
    intro b h
    simp only [List.cons_append,runM] at h
    cases hq:stepM s c with
    | none=>rw [hq] at h;cases h
    | some x=>
      obtain⟨s',fs⟩:=x
      rw [hq] at h
      simp only at h
      cases hr:runM s' (r++b) with
      | error n=>rw [hr] at h;cases h
      | ok y=>
        obtain⟨s'',gs⟩:=y
        rw [hr] at h
        simp only [Except.ok.injEq,Prod.mk.injEq] at h
        obtain⟨rfl,rfl⟩:=h
        obtain⟨s1,e1,e2,h1,h2,rfl⟩:=ih hr
        exact⟨s1,fs++e1,e2,by simp only [runM,hq,h1],h2,by rw [List.append_assoc]⟩
theorem run_len {s s':MS}{es:List Ev}:∀ {l:List Nat},runM s l=.ok (s',es)->s.word.length<=8->s'.word.length<=8/\s'.opens.length<=s.opens.length+l.length/\es.length<=10 * l.length:=by
  intro l
  induction l generalizing s es with
  | nil=>intro h k;simp only [runM,Except.ok.injEq,Prod.mk.injEq] at h;obtain⟨rfl,rfl⟩:=h;exact⟨k,by simp,by simp⟩
  | cons c r ih=>
    intro h k
    simp only [runM] at h
    cases hq:stepM s c with
    | none=>rw [hq] at h;cases h
    | some x=>
      obtain⟨s1,fs⟩:=x
      rw [hq] at h
      simp only at h
      cases hr:runM s1 r with
      | error n=>rw [hr] at h;cases h
      | ok y=>
        obtain⟨s2,gs⟩:=y
        rw [hr] at h
        simp only [Except.ok.injEq,Prod.mk.injEq] at h
        obtain⟨rfl,rfl⟩:=h
        obtain⟨b1,b2,b3⟩:=step_ok s c s1 fs hq k
        obtain⟨c1,c2,c3⟩:=ih hr b1
        refine⟨c1,?_,?_⟩
        · rw [List.length_cons];lia
        · rw [List.length_append,List.length_cons];lia
theorem none_of {H H':Hp}{p:Addr}(g:Same H H')(h:H' p=none):H p=none:=by
  cases e:H p with
  | none=>rfl
  | some o=>rw [g _ _ e] at h;cases h
theorem same_put {H H':Hp}{p:Addr}{o:HO}(hp:H p=none)(g:Same H H'):Same H (upd H' p o):=fun b u e=>by
  rw [upd_ne (ne_of_none e hp)]
  exact g b u e
theorem dPs_get:∀ (ps:List Pc) (i:Nat) (p:Pc),ps[i]? = some p->(dPs ps)[i]? = some (dP p)
  | q::ps,0,p,h=>by cases h;simp only [dPs];rfl
  | q::ps,i+1,p,h=>by simp only [dPs];exact dPs_get ps i p (by simpa using h)
noncomputable def dpP:Pc->Nat
  | .lit _=>0
  | .hole _=>0
  | .each _ b=>dpB b+1
  | .ife _ a b=>max (dpB a) (dpB b)+1
  | .seat _ _ _ b=>dpB b+1
where dpB:List Pc->Nat
  | []=>0
  | p::ps=>max (dpP p) (dpB ps)
theorem flat_S (s:MS):flatD (dS s)=true:=by
  have:∀ l:List Tx,flatDs (l.map ft)=true:=fun l=>by
    induction l with
    | nil=>rfl
    | cons x l ih=>simp only [List.map_cons,flatDs,ih];rfl
  simp only [dS,flatD,flatDs,this]
  rfl
theorem dep_S (s:MS):depD (dS s)<=50:=by
  have:∀ l:List Tx,depDs (l.map ft)=0:=fun l=>by
    induction l with
    | nil=>rfl
    | cons x l ih=>simp only [List.map_cons,depDs,depD,ih];rfl
  simp only [dS,depD,depDs,this]
  decide
theorem seq_gen1 {a b:TS}{D:Ends}{σ:L2.St}{H:Hp}(R:L2.St->Hp->Prop)(hr:∀ σ' H',R σ' H'->b D σ' H')(h:∀ N:L2.St->Hp->Prop,(∀ σ' H',R σ' H'->N σ' H')->a { D with nx:=N } σ H):tSeq a b D σ H:=h (b D) hr
theorem seq_gen2 {a b c:TS}{D:Ends}{σ:L2.St}{H:Hp}(R:L2.St->Hp->Prop)(hr:∀ σ' H',R σ' H'->c D σ' H')(h:∀ N:L2.St->Hp->Prop,(∀ σ' H',R σ' H'->N σ' H')->tSeq a b { D with nx:=N } σ H):tSeq a (tSeq b c) D σ H:=h (c D) hr
noncomputable def s00:MS:=⟨mText,[],[],[]⟩
noncomputable abbrev Ho:=List (Tx×Tx)
def HoV (H:Hp)(v:V)(h:Tx×Tx):Prop:=∃ a,v=.ref a/\H a=some (.tup [tx h.1,tx h.2])
inductive HoA (H:Hp):List V->Ho->Prop
  | nil:HoA H [] []
  | cons {v:V} {h:Tx×Tx} {vs:List V} {hs:Ho}:HoV H v h->HoA H vs hs->HoA H (v::vs) (h::hs)
theorem HoA.mono {H H':Hp}{vs:List V}{hs:Ho}(h:HoA H vs hs)(g:TpS H H'):HoA H' vs hs:=by
  induction h with
  | nil=>exact .nil
  | cons h _ ih=>obtain⟨a,e,h⟩:=h;exact .cons ⟨a,e,g _ _ h⟩ ih
theorem HoA.app {H:Hp}{vs us:List V}{hs ks:Ho}(h:HoA H vs hs)(k:HoA H us ks):HoA H (vs++us) (hs++ks):=by
  induction h with
  | nil=>exact k
  | cons h _ ih=>exact .cons h ih
theorem HoA.len {H:Hp}{vs:List V}{hs:Ho}(h:HoA H vs hs):vs.length=hs.length:=by
  induction h with
  | nil=>rfl
  | cons _ _ ih=>simp [ih]
def LoV (t:Ads)(H:Hp)(lo ha:Addr):Prop:=∃ dx pa,H lo=some (.ins t.Looking dx [("kept",.non),("holes",.ref ha),("pairs",.ref pa)])
def SpV (t:Ads)(H:Hp)(sp:Addr)(s:MS)(T:List Nat)(n:Nat):Prop:=∃ dx sv ta,H sp=some (.ins t.Spot dx [("state",sv),("turns",.ref ta),("many",.int n)])/\StV H sv s/\H ta=some (.lst (T.map fun(t:Nat)=>V.int t))
theorem LoV.mono {t:Ads}{H H':Hp}{lo ha:Addr}(h:LoV t H lo ha)(g:Same H H'):LoV t H' lo ha:=by obtain⟨dx,pa,e⟩:=h;exact⟨dx,pa,g _ _ e⟩
theorem SpV.mono {t:Ads}{H H':Hp}{sp:Addr}{s:MS}{T:List Nat}{n:Nat}(h:SpV t H sp s T n)(g:Same H H'):SpV t H' sp s T n:=by obtain⟨dx,sv,ta,e1,e2,e3⟩:=h;exact⟨dx,sv,ta,g _ _ e1,e2.mono g,g _ _ e3⟩
def Gr (ha:Addr)(H H':Hp)(hv hv':List V):Prop:=Same (hide ha H) (hide ha H')/\H' ha=some (.lst (hv++hv'))
noncomputable def sp_Spot___init__ (t:Ads):Sp:=fun vs H Q _=>∃ (a dx:Addr) (sv:V) (ta:Addr) (n:Nat),vs=[.ref a,sv,.ref ta,.int n]/\H a=some (.ins t.Spot dx [])/\Q .non (upd H a (.ins t.Spot dx [("state",sv),("turns",.ref ta),("many",.int n)]))
noncomputable abbrev spO (t:Ads)(dx:Addr)(sv:V)(ta:Addr)(n:Nat):HO:=.ins t.Spot dx [("state",sv),("turns",.ref ta),("many",.int n)]
noncomputable def sp_Spot_met (t:Ads):Sp:=fun vs H Q _=>∃ (a dx ta:Addr) (sv0 sv:V) (n:Nat),vs=[.ref a,sv]/\H a=some (spO t dx sv0 ta n)/\∀ r dx' H',Same H H'->H r=none->H' r=some (spO t dx' sv ta (n+1))->Q (.ref r) H'
noncomputable def sp_Looking___init__ (t:Ads):Sp:=fun vs H Q _=>∃ (a dx:Addr) (kv:V),vs=[.ref a,kv]/\H a=some (.ins t.Looking dx [])/\∀ ha pa H',H' a=some (.ins t.Looking dx [("kept",kv),("holes",.ref ha),("pairs",.ref pa)])->(∀ b o,b≠a->H b=some o->H' b=some o)->H' ha=some (.lst [])->H' pa=some (.lst [])->ha≠pa->H ha=none->H pa=none->Q .non H'
instance:DecidableEq MS:=fun a b=>decidable_of_iff (a.mode=b.mode/\a.word=b.word/\a.opens=b.opens/\a.talk=b.talk) (by cases a;cases b;simp)
theorem eqS_dec (a b:MS):eqD (dS a) (dS b)=decide (a=b):=by
  by_cases h:a=b
  · rw [h,eqD_refl (flat_S _)];simp
  · rw [decide_eq_false h]
    exact Bool.eq_false_iff.mpr fun z=>h (dS_inj z)
structure Spt where
  s:MS
  T:List Nat
  n:Nat
inductive Ft where
  | astray (T:List Nat) (n b:Nat)
  | noplace (x:Tx) (T:List Nat) (n:Nat)
  | unlike (w:List Tx) (T:List Nat) (n:Nat) (T':List Nat) (n':Nat)
  | left (T:List Nat) (n:Nat)
noncomputable abbrev Lr:=Except Ft (Spt×Ho)
noncomputable abbrev flo (s:MS):MS:={ s with opens:=[] }
noncomputable abbrev kSeat:Tx:=[115,101,97,116]
mutual
noncomputable def lookP:Pc->Spt->Lr
  | .lit t,sp=>match runM sp.s t with
    | .ok r=>.ok (⟨r.1,sp.T,sp.n+1⟩,[])
    | .error b=>.error (.astray sp.T sp.n b)
  | .hole x,sp=>match placeM sp.s with
    | some k=>.ok (⟨sp.s,sp.T,sp.n+1⟩,[(x,k)])
    | none=>.error (.noplace x sp.T sp.n)
  | .each x b,sp=>match lookB b ⟨sp.s,sp.T++[1],sp.n⟩ with
    | .error f=>.error f
    | .ok r=>if r.1.s=sp.s then .ok (⟨sp.s,sp.T++[0],sp.n⟩,r.2) else .error (.unlike [[101,97,99,104],x] (sp.T++[0]) sp.n r.1.T r.1.n)
  | .ife x a b,sp=>match lookB a ⟨sp.s,sp.T++[0],sp.n⟩ with
    | .error f=>.error f
    | .ok r=>match lookB b ⟨sp.s,sp.T++[1],sp.n⟩ with
      | .error f=>.error f
      | .ok r2=>if r.1.s=r2.1.s then .ok (r.1,r.2++r2.2) else .error (.unlike [[105,102],x] r.1.T r.1.n r2.1.T r2.1.n)
  | .seat w x y b,sp=>match lookB b ⟨flo sp.s,sp.T,sp.n+1⟩ with
    | .error f=>.error f
    | .ok r=>if r.1.s=flo sp.s then .ok (⟨sp.s,r.1.T,r.1.n+1⟩,r.2) else .error (.unlike [kSeat,w,x,y] sp.T (sp.n+1) r.1.T r.1.n)
noncomputable def lookB:List Pc->Spt->Lr
  | [],sp=>.ok (sp,[])
  | p::ps,sp=>match lookP p sp with
    | .error f=>.error f
    | .ok r=>match lookB ps r.1 with
      | .error f=>.error f
      | .ok r2=>.ok (r2.1,r.2++r2.2)
end
noncomputable def lookTop (ps:List Pc):Except Ft Ho:=match lookB ps ⟨s00,[],0⟩ with
  | .error f=>.error f
  | .ok r=>if r.1.s=s00 then .ok r.2 else .error (.left r.1.T r.1.n)
mutual
noncomputable def txP:Pc->Nat
  | .lit t=>t.length
  | .hole _=>0
  | .each _ b=>txPs b
  | .ife _ a b=>txPs a+txPs b
  | .seat _ _ _ b=>txPs b
noncomputable def txPs:List Pc->Nat
  | []=>0
  | p::ps=>txP p+txPs ps
end
def Bd (x:Spt)(e:Spt)(h:Ho)(l z:Nat):Prop:=e.s.word.length<=8/\e.s.opens.length<=x.s.opens.length+l/\e.T.length<=x.T.length+z/\e.n<=x.n+z/\h.length<=z
mutual
theorem look_bd:∀ (p:Pc) (x e:Spt) (h:Ho),lookP p x=.ok (e,h)->x.s.word.length<=8->Bd x e h (txP p) (szP p)
  | .lit t,x,e,h,q,k=>by
    simp only [lookP] at q
    split at q
    · rename_i r hr
      obtain⟨s',es⟩:=r
      cases q
      obtain⟨a,b,_⟩:=run_len hr k
      exact⟨a,b,by simp only [szP];lia,by simp only [szP];lia,by simp⟩
    · cases q
  | .hole t,x,e,h,q,k=>by
    simp only [lookP] at q
    split at q
    · cases q;exact⟨k,by simp only [txP];lia,by simp only [szP];lia,by simp only [szP];lia,by simp [szP]⟩
    · cases q
  | .each n b,x,e,h,q,k=>by
    simp only [lookP] at q
    split at q
    · cases q
    · rename_i r hr
      split at q
      · cases q
        obtain⟨a1,a2,a3,a4,a5⟩:=look_bds b _ r.1 r.2 hr k
        exact⟨k,by simp only [txP];lia,by simp only [szP,List.length_append,List.length_singleton];lia,by simp only [szP];lia,by simp only [szP];lia⟩
      · cases q
  | .ife n a b,x,e,h,q,k=>by
    simp only [lookP] at q
    split at q
    · cases q
    · rename_i r hr
      split at q
      · cases q
      · rename_i r2 hr2
        split at q
        · cases q
          obtain⟨a1,a2,a3,a4,a5⟩:=look_bds a _ r.1 r.2 hr k
          obtain⟨b1,b2,b3,b4,b5⟩:=look_bds b _ r2.1 r2.2 hr2 k
          simp only [List.length_append,List.length_singleton] at a3 b3
          exact⟨a1,by simp only [txP];dsimp only at a2;lia,by simp only [szP];lia,by simp only [szP];dsimp only at a4;lia,by simp only [szP,List.length_append];lia⟩
        · cases q
  | .seat w m y b,x,e,h,q,k=>by
    simp only [lookP] at q
    split at q
    · cases q
    · rename_i r hr
      split at q
      · cases q
        obtain⟨a1,a2,a3,a4,a5⟩:=look_bds b _ r.1 r.2 hr k
        exact⟨k,by simp only [txP];lia,by simp only [szP];dsimp only at a3;lia,by simp only [szP];dsimp only at a4;lia,by simp only [szP];lia⟩
      · cases q
theorem look_bds:∀ (ps:List Pc) (x e:Spt) (h:Ho),lookB ps x=.ok (e,h)->x.s.word.length<=8->Bd x e h (txPs ps) (szPs ps)
  | [],x,e,h,q,k=>by
    simp only [lookB] at q
    cases q
    exact⟨k,by lia,by lia,by lia,by simp⟩
  | p::ps,x,e,h,q,k=>by
    simp only [lookB] at q
    split at q
    · cases q
    · rename_i r hr
      split at q
      · cases q
      · rename_i r2 hr2
        cases q
        obtain⟨a1,a2,a3,a4,a5⟩:=look_bd p _ r.1 r.2 hr k
        obtain⟨b1,b2,b3,b4,b5⟩:=look_bds ps _ r2.1 r2.2 hr2 a1
        exact⟨b1,by simp only [txPs];lia,by simp only [szPs];lia,by simp only [szPs];lia,by simp only [szPs,List.length_append];lia⟩
end
theorem lookB_one (p:Pc)(x:Spt):lookB [p] x=lookP p x:=by
  simp only [lookB]
  split
  · rename_i f h;exact h.symm
  · rename_i r h;rw [h];simp
theorem lookB_app (a b:List Pc):∀ (x e:Spt) (h:Ho),lookB a x=.ok (e,h)->lookB (a++b) x=match lookB b e with
    | .error f=>.error f
    | .ok r=>.ok (r.1,h++r.2):=by
  induction a with
  | nil=>intro x e h q;simp only [lookB] at q;cases q;simp only [List.nil_append];cases lookB b x<;>rfl
  | cons p a ih=>
    intro x e h q
    simp only [lookB] at q
    split at q
    · cases q
    · rename_i r hr
      split at q
      · cases q
      · rename_i r2 hr2
        cases q
        simp only [List.cons_append,lookB,hr,ih _ r2.1 r2.2 hr2]
        cases lookB b r2.1<;>simp
def PlV (H:Hp)(p:Addr)(T:List Nat)(n:Nat):Prop:=∃ l,H p=some (.tup [.ref l,.int n])/\H l=some (.lst (T.map fun(t:Nat)=>V.int t))
theorem PlV.mono {H H':Hp}{p:Addr}{T:List Nat}{n:Nat}(h:PlV H p T n)(g:Same H H'):PlV H' p T n:=by obtain⟨l,a,b⟩:=h;exact⟨l,g _ _ a,g _ _ b⟩
noncomputable def FtV (t:Ads)(H:Hp)(c:Value)(d:Addr):Ft->Prop
  | .astray T n b=>c=.ref t.Astray/\∃ p,H d=some (.xd [("place",.ref p),("at",.int b)])/\PlV H p T n
  | .noplace x T n=>c=.ref t.NoPlace/\∃ p,H d=some (.xd [("name",tx x),("place",.ref p)])/\PlV H p T n
  | .unlike w T n T' n'=>c=.ref t.Unlike/\∃ a p q,H d=some (.xd [("what",.ref a),("one",.ref p),("other",.ref q)])/\H a=some (.tup (w.map tx))/\PlV H p T n/\PlV H q T' n'
  | .left T n=>c=.ref t.LeftOpen/\∃ p,H d=some (.xd [("place",.ref p)])/\PlV H p T n
theorem FtV.mono {t:Ads}{H H':Hp}{c:Value}{d:Addr}{f:Ft}(h:FtV t H c d f)(g:Same H H'):FtV t H' c d f:=by
  cases f with
  | astray T n b=>obtain⟨e,p,a,b⟩:=h;exact⟨e,p,g _ _ a,b.mono g⟩
  | noplace x T n=>obtain⟨e,p,a,b⟩:=h;exact⟨e,p,g _ _ a,b.mono g⟩
  | unlike w T n T' n'=>obtain⟨e,a,p,q,h1,h2,h3,h4⟩:=h;exact⟨e,a,p,q,g _ _ h1,g _ _ h2,h3.mono g,h4.mono g⟩
  | left T n=>obtain⟨e,p,a,b⟩:=h;exact⟨e,p,g _ _ a,b.mono g⟩
noncomputable def fsA:List V->List (Str×V):=fun xs=>(["place","at"]:List Str).zip xs
noncomputable def fsU:List V->List (Str×V):=fun xs=>(["what","one","other"]:List Str).zip xs
def payA (xs:List V):Prop:=∃ p n,xs=[p,.int n]/\payT (.int n)
def payU (xs:List V):Prop:=∃ a b c,xs=[a,b,c]
theorem err_Astray {P:Program}{w:World}{K:PySem.W.Frag}{mg:Str->Option Value}{base:Heap}{t:Ads}(T:Txt w K mg t)(D:Ini K t.Astray "Astray.__init__" s_i_Astray ["self","place","at"]):ErrN P w K mg base "Astray" t.Astray fsA payA:=by
  obtain⟨fI,fd,oI,i1,i2,i3,F,b⟩:=D.ex
  refine⟨T.m_Astray,T.c_Astray,T.k_Astray,fI,fd,oI,_,i1,i2,i3,b,?_⟩
  refine F.okN sc_i_Astray (fun vs H Q E h=>by obtain⟨a,xs,rfl,_,⟨p,n,rfl,_⟩,_⟩:=h;rfl) fun cdv A outer s H vs Q E h=>?_
  obtain⟨a,xs,rfl,ea,⟨p,n,rfl,hp⟩,q⟩:=h
  exact⟨_,pss_cons (ps_expr (pe_init (C:=t.Astray) T.m_SealError T.u_SealError T.c_Astray (pa_cons (pv 0) (pa_cons (pe_fs (pv 2)) pa_nil)))) (pss_cons (ps_set0 T.c_Astray T.n_Astray_place (pv 0) (pv 1)) (pss_one (ps_set1 T.c_Astray T.n_Astray_at (pv 0) (pv 2)))),init_read2 ea rfl hp (by decide) q⟩
theorem err_Unlike {P:Program}{w:World}{K:PySem.W.Frag}{mg:Str->Option Value}{base:Heap}{t:Ads}(T:Txt w K mg t)(D:Ini K t.Unlike "Unlike.__init__" s_i_Unlike ["self","what","one","other"]):ErrN P w K mg base "Unlike" t.Unlike fsU payU:=by
  obtain⟨fI,fd,oI,i1,i2,i3,F,b⟩:=D.ex
  refine⟨T.m_Unlike,T.c_Unlike,T.k_Unlike,fI,fd,oI,_,i1,i2,i3,b,?_⟩
  refine F.okN sc_i_Unlike (fun vs H Q E h=>by obtain⟨a,xs,rfl,_,⟨p,n,m,rfl⟩,_⟩:=h;rfl) fun cdv A outer s H vs Q E h=>?_
  obtain⟨a,xs,rfl,ea,⟨p,n,m,rfl⟩,q⟩:=h
  exact⟨_,pss_cons (ps_expr (pe_init (C:=t.Unlike) T.m_SealError T.u_SealError T.c_Unlike (pa_cons (pv 0) (pa_cons pe_str pa_nil)))) (pss_cons (ps_set0 T.c_Unlike T.n_Unlike_what (pv 0) (pv 1)) (pss_cons (ps_set1 T.c_Unlike T.n_Unlike_one (pv 0) (pv 2)) (pss_one (ps_set1 T.c_Unlike T.n_Unlike_other (pv 0) (pv 3))))),init_read3 ea (by decide) q⟩
noncomputable def sp_Spot_shown (t:Ads):Sp:=fun vs H Q _=>∃ (a dx ta:Addr) (sv:V) (n:Nat) (T:List Nat),vs=[.ref a]/\H a=some (spO t dx sv ta n)/\H ta=some (.lst (T.map fun(t:Nat)=>V.int t))/\T.length<=100000/\∀ r l H',Same H H'->H l=none->H' r=some (.tup [.ref l,.int n])->H' l=some (.lst (T.map fun(t:Nat)=>V.int t))->Q (.ref r) H'
theorem Pla.mono {H H':Hp}{a:Addr}(h:Pla H a)(g:Same H H'):Pla H' a:=by obtain⟨o,vs,e,r⟩:=h;exact⟨o,vs,g _ _ e,r⟩
theorem plV_hid {H H0:Hp}{ha r l:Addr}{hv:List V}{T:List Nat}{n:Nat}(h:H ha=some (.lst hv))(h0:H0 ha=some (.lst hv))(hl:H0 l=none)(e1:H r=some (.tup [.ref l,.int n]))(e2:H l=some (.lst (T.map fun(t:Nat)=>V.int t))):PlV (hide ha H) r T n:=by
  refine⟨l,?_,?_⟩
  · rw [hide_ne fun z=>by rw [z,h] at e1;cases e1];exact e1
  · rw [hide_ne fun z=>by rw [z,h0] at hl;cases hl];exact e2
theorem run_err:∀ {l:List Nat} {s:MS} {b:Nat},runM s l=.error b->b<l.length
  | [],s,b,h=>by simp only [runM] at h;cases h
  | c::l,s,b,h=>by
    simp only [runM] at h
    split at h
    · cases h;simp
    · rename_i r hr
      split at h
      · rename_i n hn
        cases h
        have:=run_err hn
        simp only [List.length_cons]
        lia
      · cases h
noncomputable def spLk (t:Ads)(one:Bool)(P:List Pc->Prop):Sp:=fun vs H Q E=>∃ (lo ha sp:Addr) (pv:V) (ps:List Pc) (x:Spt) (hv:List V),vs=[.ref lo,pv,.ref sp]/\P ps/\LoV t (hide ha H) lo ha/\(if one=true then ∃ p,ps=[p]/\IsDt (hide ha H) (dP p) pv else IsDt (hide ha H) (.ls (dPs ps)) pv)/\SpV t (hide ha H) sp x.s x.T x.n/\H ha=some (.lst hv) /\
  (x.s.word.length<=8/\x.s.opens.length+txPs ps<=100000/\hv.length+szPs ps<=100000/\x.T.length+szPs ps<=100000/\x.n+szPs ps<=100000) /\
  (∀ e hs,lookB ps x=.ok (e,hs)->∀ r hv' H',Gr ha H H' hv hv'->HoA (hide ha H') hv' hs->SpV t (hide ha H') r e.s e.T e.n->Q (.ref r) H') /\
  (∀ f,lookB ps x=.error f->∀ c d H',Same (hide ha H) (hide ha H')->FtV t (hide ha H') c d f->E c (some d) H')
theorem Gr.same {ha:Addr}{H H':Hp}{hv:List V}(h:H ha=some (.lst hv))(g:Same H H'):Gr ha H H' hv []:=⟨hide_mono g,by rw [List.append_nil];exact g _ _ h⟩
theorem Gr.trans {ha:Addr}{H H1 H2:Hp}{hv h1 h2:List V}(a:Gr ha H H1 hv h1)(b:Gr ha H1 H2 (hv++h1) h2):Gr ha H H2 hv (h1++h2):=⟨a.1.trans b.1,by rw [← List.append_assoc];exact b.2⟩
theorem Gr.cast {ha:Addr}{H H':Hp}{hv h1 h2:List V}(a:Gr ha H H' hv h1)(e:h1=h2):Gr ha H H' hv h2:=e ▸ a
theorem ne_new {ha r:Addr}{H:Hp}{hv:List V}(h:H ha=some (.lst hv))(hr:H r=none):r≠ha:=fun z=>by rw [z,h] at hr;cases hr
theorem spV_hid {t:Ads}{H:Hp}{ha r dx ta:Addr}{sv:V}{s:MS}{T:List Nat}{n:Nat}(hr:r≠ha)(e:H r=some (spO t dx sv ta n))(hs:StV (hide ha H) sv s)(ht:hide ha H ta=some (.lst (T.map fun(t:Nat)=>V.int t))):SpV t (hide ha H) r s T n:=⟨dx,sv,ta,by rw [hide_ne hr];exact e,hs,ht⟩
theorem st_hid {ha:Addr}{H:Hp}{v:V}{s:MS}{xs:List V}(h:H ha=some (.lst xs))(k:StV H v s):StV (hide ha H) v s:=by
  obtain⟨p,o,e,h1,h2⟩:=k
  have n1:p≠ha:=fun z=>by subst z;rw [h] at h1;cases h1
  have n2:o≠ha:=fun z=>by subst z;have h2:H o=_:=h2;rw [h] at h2;cases h2
  exact⟨p,o,e,by rw [hide_ne n1];exact h1,by show hide ha H o=_;rw [hide_ne n2];exact h2⟩
theorem Gr.pre {ha:Addr}{H H1 H2:Hp}{hv h:List V}(b:Gr ha H1 H2 hv h)(g:Same H H1):Gr ha H H2 hv h:=⟨(hide_mono g).trans b.1,b.2⟩
theorem st_ref {H:Hp}{v:V}{s:MS}(h:StV H v s):∃ p,v=.ref p:=by obtain⟨p,o,e,_⟩:=h;exact⟨p,e⟩
theorem atI_2 {α:Type}(a b c:α)(l:List α):atI (a::b::c::l) 2=some c:=by rw [show(2:Int)=((2:Nat):Int) from rfl,atI_z];rfl
theorem atI_3 {α:Type}(a b c d:α)(l:List α):atI (a::b::c::d::l) 3=some d:=by rw [show(3:Int)=((3:Nat):Int) from rfl,atI_z];rfl
theorem atI_4 {α:Type}(a b c d e:α)(l:List α):atI (a::b::c::d::e::l) 4=some e:=by rw [show(4:Int)=((4:Nat):Int) from rfl,atI_z];rfl
theorem made_is {t:Ads}{H:Hp}{x dx ta:Addr}{sv:V}{n:Nat}(hx:H x=none)(hd:H dx=none)(o1:HO)(fs:List (Str×V)):Same H (upd (upd (upd H dx o1) x (.ins t.Spot dx fs)) x (spO t dx sv ta n)):=same_put hx (same_put hx (same_upd hd))
noncomputable def lsP:Pc->Bool
  | .lit _=>true
  | .seat _ _ _ b=>lsB b
  | _=>false
where lsB:List Pc->Bool
  | []=>true
  | p::ps=>lsP p&&lsB ps
noncomputable def sp_Looking_look_literal (t:Ads):Sp:=spLk t true fun ps=>∃ x,ps=[.lit x]
noncomputable def sp_Looking_look_all (t:Ads)(d:Nat):Sp:=spLk t false fun ps=>lsP.lsB ps=true/\dpP.dpB ps<d
noncomputable def sp_Looking_look_piece (t:Ads)(d:Nat):Sp:=spLk t true fun ps=>lsP.lsB ps=true/\dpP.dpB ps<d
noncomputable def sp_Looking_look_seat (t:Ads)(d:Nat):Sp:=spLk t true fun ps=>∃ w n m b,ps=[.seat w n m b]/\lsP.lsB ps=true/\dpP.dpB ps<d
noncomputable def sp_is_end:Sp:=fun vs H Q _=>∃ (x:V) (s:MS),vs=[x]/\StV H x s/\∀ H',Same H H'->Q (.bl (decide (s=s00))) H'
noncomputable def Okf:Except Ft Ho->Prop
  | .error (.left _ _)=>False
  | .error (.noplace _ _ _)=>False
  | _=>True
def LkP (H:Hp)(pv:V)(ps:List Pc):Prop:=IsDt H (.ls (dPs ps)) pv/\lsP.lsB ps=true/\dpP.dpB ps<2/\szPs ps<=3000/\txPs ps<=3000/\Okf (lookTop ps)
noncomputable def sp_looked_at (t:Ads):Sp:=fun vs H Q E=>∃ (pv:V) (ps:List Pc),vs=[pv,.non]/\LkP H pv ps/\(∀ hs,lookTop ps=.ok hs->∀ r ha pa hv H',Same H H'->H' r=some (.tup [.ref ha,.ref pa])->H' ha=some (.lst hv)->HoA H' hv hs->Q (.ref r) H')/\(∀ f,lookTop ps=.error f->∀ c d H',Same H H'->FtV t H' c d f->E c (some d) H')
noncomputable def sp_look (t:Ads):Sp:=fun vs H Q E=>∃ (pv:V) (ps:List Pc),vs=[pv]/\LkP H pv ps/\(∀ hs,lookTop ps=.ok hs->∀ ha hv H',Same H H'->H' ha=some (.lst hv)->HoA H' hv hs->Q (.ref ha) H')/\(∀ f,lookTop ps=.error f->∀ c d H',Same H H'->FtV t H' c d f->E c (some d) H')
theorem LkP.mono {H H':Hp}{pv:V}{ps:List Pc}(h:LkP H pv ps)(g:Same H H'):LkP H' pv ps:=⟨h.1.mono g,h.2⟩
noncomputable def kTold:Tx:=[116,111,108,100]
noncomputable def dHo (hs:Ho):List Dat:=hs.map fun h=>.tp [ft h.1,ft h.2]
noncomputable def plD (T:List Nat)(n:Nat):Dat:=.tp [.ls (T.map fun(t:Nat)=>.fl (.int t)),.fl (.int n)]
noncomputable def reD:Except Ft Ho->Dat
  | .ok hs=>.tp [ft kTold,.ls (dHo hs)]
  | .error (.astray T n b)=>.tp [ft [97,115,116,114,97,121],plD T n,.fl (.int b)]
  | .error (.noplace x T n)=>.tp [ft [110,111,112,108,97,99,101],ft x,plD T n]
  | .error (.unlike w T n T' n')=>.tp [ft [117,110,108,105,107,101],.tp (w.map ft),plD T n,plD T' n']
  | .error (.left T n)=>.tp [ft [108,101,102,116],plD T n]
theorem HoA.ds {H:Hp}{vs:List V}{hs:Ho}(h:HoA H vs hs):IsDs H (dHo hs) vs:=by
  induction h with
  | nil=>rfl
  | @cons v h vs hs e _ ih=>
    obtain⟨a,rfl,e⟩:=e
    exact⟨_,_,rfl,⟨a,_,rfl,e,isDs_txs [h.1,h.2]⟩,ih⟩
theorem ints_ds {H:Hp}:∀ T:List Nat,IsDs H (T.map fun(t:Nat)=>.fl (.int t)) (T.map fun(t:Nat)=>V.int t)
  | []=>rfl
  | t::T=>⟨_,_,rfl,⟨rfl,rfl⟩,ints_ds T⟩
theorem PlV.dt {H:Hp}{p:Addr}{T:List Nat}{n:Nat}(h:PlV H p T n):IsDt H (plD T n) (.ref p):=by
  obtain⟨l,a,b⟩:=h
  exact⟨p,_,rfl,a,_,_,rfl,⟨l,_,rfl,b,ints_ds T⟩,_,_,rfl,⟨rfl,rfl⟩,rfl⟩
noncomputable def sp__law_other (K:PySem.W.Frag)(t:Ads):Sp:=fun vs H Q _=>∃ (ea C:Addr) (fs:List (Str×V)),vs=[.ref ea]/\L2.Got K H ea C fs/\(C=t.Astray\/C=t.Unlike)/\∀ H',Same H H'->Q (.bl false) H'
noncomputable def sp__law_refusal (K:PySem.W.Frag)(t:Ads):Sp:=fun vs H Q _=>∃ (ea C d:Addr) (f:Ft),vs=[.ref ea]/\Caught H ea C (some d)/\FtV t H (.ref C) d f/\Okf (.error f)/\∀ r H',Same H H'->IsDt H' (reD (.error f)) (.ref r)->Q (.ref r) H'
noncomputable def sp__law_looked:Sp:=fun vs H Q _=>∃ (pv:V) (ps:List Pc),vs=[pv]/\LkP H pv ps/\∀ r H',Same H H'->IsDt H' (reD (lookTop ps)) (.ref r)->Q (.ref r) H'
noncomputable abbrev Lt (l:Tx):List Pc:=if l=[] then [] else [.lit l]
noncomputable abbrev seatP (l:Tx):Pc:=.seat [100,114,97,119] [112] [] (Lt l)
noncomputable def dueR (s:MS)(l:Tx)(n:Nat):Except Ft Ho:=match runM s l with
  | .error b=>.error (.astray [] n b)
  | .ok r=>if r.1=s then .ok [] else .error (.unlike [kSeat,[100,114,97,119],[112],[]] [] n [] (n+if l=[] then 0 else 1))
theorem seat_is (s:MS)(l:Tx)(m:Nat):lookP (seatP l) ⟨s,[],m⟩=match dueR (flo s) l (m+1) with
    | .ok _=>.ok (⟨s,[],m+2+(Lt l).length⟩,[])
    | .error f=>.error f:=by
  unfold seatP Lt dueR
  by_cases hl:l=[]
  · subst hl
    simp [lookP,lookB,runM]
  · simp only [if_neg hl,lookP,lookB_one]
    cases runM (flo s) l with
    | error b=>rfl
    | ok r=>
      by_cases hz:r.1=flo s
      · simp only [if_pos hz];rfl
      · simp only [if_neg hz]
theorem lit_go {s s':MS}{es:List Ev}{a:Tx}(h:runM s a=.ok (s',es))(m:Nat):lookB (Lt a) ⟨s,[],m⟩=.ok (⟨s',[],m+(Lt a).length⟩,[]):=by
  unfold Lt
  by_cases hl:a=[]
  · subst hl
    simp only [runM,Except.ok.injEq,Prod.mk.injEq] at h
    obtain⟨rfl,_⟩:=h
    simp only [if_pos rfl,lookB]
    rfl
  · simp only [if_neg hl,lookB_one,lookP,h]
    rfl
noncomputable def spotsL:Ho:=[([],[]),([60,97,62],[60,47,97,62]),([60,97],[62,120,60,47,97,62]),([60,97,32,98,61,34,99,34],[47,62]),([60,97,32,98,58,99],[47,62]),([60,97,32,98,40,99,41],[62,60,47,97,62]),([60,97,32,98,61,34,99],[34,47,62]),([60,97,32,98,40,99,44],[41,47,62]),([60,97,32,98,33,34,99,32,39],[39,34,47,62]),([60,97,32,98,33,34,99,32],[34,47,62]),([60,97,115,105,115,62],[60,47,97,115,105,115,62]),([60,97,32,98],[61,34,99,34,47,62])]
noncomputable def sBb:MS:=⟨mText,[],[[98]],[]⟩
structure SpF (a c:Tx)(s0:MS):Prop where
  r1:∃ es,runM s00 a=.ok (s0,es)
  r2:∃ es,runM s0 c=.ok (s00,es)
  r3:∃ es,runM sBb a=.ok ({ s0 with opens:=[98]::s0.opens },es)
  r4:∃ es,runM { s0 with opens:=[98]::s0.opens } c=.ok (sBb,es)
  l1:a.length<=20
  l2:c.length<=20
  l3:s0.word.length<=8
  l4:s0.opens.length<=5
theorem spots_ok:∀ h∈spotsL,∃ s0,SpF h.1 h.2 s0:=by
  intro h hm
  simp only [spotsL,List.mem_cons,List.not_mem_nil,or_false] at hm
  rcases hm with rfl | rfl | rfl | rfl | rfl | rfl | rfl | rfl | rfl | rfl | rfl | rfl
  all_goals exact⟨_,⟨_,rfl⟩,⟨_,rfl⟩,⟨_,rfl⟩,⟨_,rfl⟩,by decide,by decide,by decide,by decide⟩
theorem due_ok {s:MS}{l:Tx}{n:Nat}{hs:Ho}(h:dueR s l n=.ok hs):hs=[]:=by
  unfold dueR at h
  split at h
  · cases h
  · split at h
    · cases h;rfl
    · cases h
theorem due_any {s:MS}{l:Tx}{n m:Nat}{hs:Ho}(h:dueR s l n=.ok hs):dueR s l m=.ok []:=by
  unfold dueR at h ⊢
  split at h
  · cases h
  · split at h
    · rename_i hz;exact if_pos hz
    · cases h
theorem okf_due (s:MS)(l:Tx)(n:Nat):Okf (dueR s l n):=by
  unfold dueR
  split
  · trivial
  · split<;>trivial
theorem look_due {a c:Tx}{s0:MS}(F:SpF a c s0)(l:Tx):lookTop (Lt a++(seatP l::Lt c))=dueR (flo s0) l ((Lt a).length+1):=by
  obtain⟨⟨e1,r1⟩,⟨e2,r2⟩,_⟩:=F
  unfold lookTop
  rw [lookB_app _ _ _ _ _ (lit_go r1 0),Nat.zero_add]
  simp only [lookB,seat_is]
  cases hd:dueR (flo s0) l ((Lt a).length+1) with
  | error f=>rfl
  | ok hs=>simp only [lit_go r2,due_ok hd];rfl
theorem look_two {a c:Tx}{s0:MS}(F:SpF a c s0){l:Tx}{n:Nat}{hs:Ho}(h:dueR (flo s0) l n=.ok hs):lookTop (Lt a++(seatP l::seatP l::Lt c))=.ok []:=by
  obtain⟨⟨e1,r1⟩,⟨e2,r2⟩,_⟩:=F
  unfold lookTop
  rw [lookB_app _ _ _ _ _ (lit_go r1 0)]
  simp only [lookB,seat_is,due_any h,lit_go r2]
  rfl
theorem look_in {a c:Tx}{s0:MS}(F:SpF a c s0){l:Tx}{n:Nat}{hs:Ho}(h:dueR (flo s0) l n=.ok hs):lookTop (.lit [60,98,62]::(Lt a++(seatP l::(Lt c++[.lit [60,47,98,62]]))))=.ok []:=by
  obtain⟨_,_,⟨e3,r3⟩,⟨e4,r4⟩,_⟩:=F
  unfold lookTop
  simp only [lookB,lookP,show runM s00 [60,98,62]=.ok (sBb,[[eBox,[98]],[eIn]]) from rfl]
  rw [lookB_app _ _ _ _ _ (lit_go r3 _)]
  simp only [lookB,seat_is,show flo { s0 with opens:=[98]::s0.opens }=flo s0 from rfl,due_any h]
  rw [lookB_app _ _ _ _ _ (lit_go r4 _)]
  simp only [lookB,lookP,show runM sBb [60,47,98,62]=.ok (s00,[[eOut]]) from rfl]
  rfl
theorem lt_sz (l:Tx):szPs (Lt l)<=1/\txPs (Lt l)<=l.length/\dpP.dpB (Lt l)=0/\lsP.lsB (Lt l)=true/\(Lt l).length<=1:=by
  unfold Lt
  by_cases h:l=[]
  · simp [h,szPs,txPs,dpP.dpB,lsP.lsB]
  · simp [h,szPs,szP,txPs,txP,dpP.dpB,dpP,lsP.lsB,lsP]
noncomputable def sp__law_menu:Sp:=fun vs H Q _=>∃ (c:Int) (k:Nat),vs=[.int c,.int k]/\k<=1000/\∀ p (cs:List Nat) H',cs.length<=20->(∀ c∈cs,c∈sg)->Same H H'->H' p=some (.lst (cs.map fun c=>V.str (S [c])))->Q (.ref p) H'
noncomputable def tRef:V:=tx [114,101,102,117,115,101,100]
noncomputable def RnE (G:Addr->Prop)(H:Hp)(v:V):Except Nat (MS×List Ev)->Prop
  | .ok (s,es)=>RnV G H v s es
  | .error b=>∃ p,v=.ref p/\H p=some (.tup [tRef,.int b])
noncomputable def sp__law_ran:Sp:=fun vs H Q _=>∃ (x:V) (s:MS) (l:List Nat),vs=[x,.str (S l)]/\StV H x s/\s.word.length<=8/\s.opens.length+l.length<=100000/\∀ v H',Same H H'->RnE (fun a=>H a=none) H' v (runM s l)->Q v H'
noncomputable def sp__law_found:Sp:=fun vs H Q _=>∃ (x:V) (s:MS) (c:Int) (m:Nat),vs=[x,.int c,.int m]/\StV H x s/\s.word.length<=8/\s.opens.length<=1000/\m<=100/\∀ l s' es H',l.length<=m->runM s l=.ok (s',es)->Same H H'->Q (.str (S l)) H'
noncomputable def sp__law_spots:Sp:=fun vs H Q _=>vs=[]/\∀ r xs H',Same H H'->H' r=some (.lst xs)->HoA H' xs spotsL->Q (.ref r) H'
noncomputable def sp__law_seat:Sp:=fun vs H Q _=>∃ l:Tx,vs=[.str (S l)]/\l.length<=100000/\∀ r H',Same H H'->IsDs H' (dPs [seatP l]) [.ref r]->Q (.ref r) H'
noncomputable def sp__law_due:Sp:=fun vs H Q _=>∃ (x:V) (s:MS) (l:Tx) (n:Nat),vs=[x,.str (S l),.int n]/\StV H x s/\s.word.length<=8/\s.opens.length+l.length<=100000/\∀ r H',Same H H'->IsDt H' (reD (dueR s l n)) (.ref r)->Q (.ref r) H'
noncomputable def sp__law_right:Sp:=fun vs H Q _=>∃ (p:Addr) (a c l:Tx),vs=[.ref p,.str (S l)]/\H p=some (.tup [tx a,tx c])/\(a,c)∈spotsL/\l.length<=1000/\∀ H',Same H H'->Q (.bl true) H'
noncomputable def sp__law_evens:Sp:=fun vs H Q _=>∃ (p:Addr) (a c:Tx) (n:Int),vs=[.ref p,.int n]/\H p=some (.tup [tx a,tx c])/\(a,c)∈spotsL/\∀ l H',l.length<=12->Same H H'->Q (.str (S l)) H'
theorem HoA.get {H:Hp}{vs:List V}{hs:Ho}(h:HoA H vs hs):∀ {i:Nat} {v:V},vs[i]? = some v->∃ x,hs[i]? = some x/\HoV H v x:=by
  induction h with
  | nil=>intro i v e;simp at e
  | cons h _ ih=>
    intro i v e
    cases i with
    | zero=>cases e;exact⟨_,rfl,h⟩
    | succ i=>exact ih (by simpa using e)
theorem lsB_app:∀ a b:List Pc,lsP.lsB (a++b)=(lsP.lsB a&&lsP.lsB b)
  | [],b=>by simp [lsP.lsB]
  | p::a,b=>by simp only [List.cons_append,lsP.lsB,lsB_app a b,Bool.and_assoc]
theorem dp_app:∀ a b:List Pc,dpP.dpB (a++b)=max (dpP.dpB a) (dpP.dpB b)
  | [],b=>by simp only [List.nil_append,dpP.dpB];omega
  | p::a,b=>by simp only [List.cons_append,dpP.dpB,dp_app a b];omega
theorem txPs_app:∀ a b:List Pc,txPs (a++b)=txPs a+txPs b
  | [],b=>by simp [txPs]
  | p::a,b=>by simp only [List.cons_append,txPs,txPs_app a b];omega
def Sm (ps:List Pc)(n m:Nat):Prop:=lsP.lsB ps=true/\dpP.dpB ps<2/\szPs ps<=n/\txPs ps<=m
theorem Sm.app {a b:List Pc}{n m n' m':Nat}(h:Sm a n m)(k:Sm b n' m'):Sm (a++b) (n+n') (m+m'):=by
  obtain⟨h1,h2,h3,h4⟩:=h
  obtain⟨k1,k2,k3,k4⟩:=k
  exact⟨by rw [lsB_app,h1,k1];rfl,by rw [dp_app];lia,by rw [szPs_app];lia,by rw [txPs_app];lia⟩
theorem Sm.lt {a:Tx}{m:Nat}(h:a.length<=m):Sm (Lt a) 1 m:=by
  obtain⟨h1,h2,h3,h4,_⟩:=lt_sz a
  exact⟨h4,by lia,h1,by lia⟩
theorem Sm.seat {l:Tx}{m:Nat}(h:l.length<=m):Sm [seatP l] 3 m:=by
  obtain⟨h1,h2,h3,h4,_⟩:=lt_sz l
  exact⟨by simp only [lsP.lsB,lsP,h4];rfl,by simp only [dpP.dpB,dpP,h3];decide,by simp only [szPs,szP];lia,by simp only [txPs,txP];lia⟩
theorem Sm.lit {l:Tx}:Sm [.lit l] 1 l.length:=⟨rfl,by simp [dpP.dpB,dpP],by simp [szPs,szP],by simp [txPs,txP]⟩
theorem dep_due (s:MS)(l:Tx)(n:Nat):depD (reD (dueR s l n))<=50:=by
  unfold dueR
  split
  · simp [reD,plD,depD,depDs]
  · split<;>simp [reD,plD,dHo,depD,depDs]
theorem en_tx (a:Tx):(if (!decide (tx a=V.str (S [])))=true then(1:Int) else 0)=(((Lt a).length:Nat):Int):=by
  by_cases h:a=[]
  · subst h
    rw [if_neg (by rw [decide_eq_true (show tx []=V.str (S []) from rfl)];decide)]
    rfl
  · rw [if_pos (by rw [decide_eq_false (tx_ne h)];rfl),show Lt a=[.lit a] from if_neg h]
    rfl
noncomputable def lz (a:Tx)(p:Addr):List V:=if a=[] then [] else [V.ref p]
theorem mulL (a:Tx)(p:Addr):(List.replicate (((Lt a).length:Nat):Int).toNat [V.ref p]).flatten=lz a p:=by
  unfold lz
  by_cases h:a=[]
  · rw [show Lt a=[] from if_pos h,if_pos h];rfl
  · rw [show Lt a=[.lit a] from if_neg h,if_neg h];rfl
theorem lz_ds {H:Hp}{a:Tx}{p:Addr}(h:H p=some (.tup [tx [108,105,116],tx a])):IsDs H (dPs (Lt a)) (lz a p):=by
  unfold lz
  by_cases h1:a=[]
  · rw [show Lt a=[] from if_pos h1,if_pos h1];simp only [dPs];rfl
  · rw [show Lt a=[.lit a] from if_neg h1,if_neg h1];exact dt_lit h
theorem lkp_of {H:Hp}{r:Addr}{ps:List Pc}{xs:List V}{n m:Nat}(h:H r=some (.lst xs))(d:IsDs H (dPs ps) xs)(s:Sm ps n m)(h1:n<=3000)(h2:m<=3000)(k:Okf (lookTop ps)):LkP H (.ref r) ps:=⟨⟨r,xs,rfl,h,d⟩,s.1,s.2.1,Nat.le_trans s.2.2.1 h1,Nat.le_trans s.2.2.2 h2,k⟩
noncomputable def sp_law (K:PySem.W.Frag):Sp:=fun vs H Q _=>∃ (a:Addr) (ns:List Int),vs=[.ref a]/\SqL K H a (ns.map V.int)/\ns.length<=63/\∀ H',Q (.bl true) H'
end My
namespace My
open PySem L2 PySem.Spec PyProof.Rows
local macro_rules | `(tactic| walk_at "rd") => `(tactic| simp only [L2.start, N_sign_of, N_sign_told, N_place_of, N_fed_between, N_fed_word, N_fed_said, N_feed, N_come_to, N_told, N_gathered, N_box_shut, N_into_box, N_led_on, N_fed, N_mark_ended, N_at_text, N_at_mark, N_at_open, N_at_name, N_at_slash, N_at_shut, N_at_gap, N_at_attr, N_at_is, N_at_bang, N_at_bare, N_at_code, N_at_row, N_at_stroke, N_at_quoted, N_at_qmark, N_at_done, N_at_talk, N_at_tmark, N_at_asis, N_moved, N_begin, N_step, N_run, N_is_end, N_floored, N_Spot___init__, N_Spot_shown, N_Spot_met, N_Spot_turned, N_Looking___init__, N_Looking_look_all, N_Looking_look_piece, N_Looking_look_literal, N_Looking_look_hole, N_Looking_look_each, N_Looking_look_if, N_Looking_look_seat, N_Looking_look_drawn, N_looked_at, N_look, N__law_cell, N__law_mix, N__law_other, N__law_looked, N__law_refusal, N__law_spots, N__law_menu, N__law_found, N__law_ran, N__law_seat, N__law_due, N__law_right, N__law_evens, N_law, sp_sign_of, sp_sign_told, sp_fed_between, sp_fed_word, sp_fed_said, sp_feed, sp_come_to, sp_told, sp_gathered, sp_box_shut, sp_into_box, sp_led_on, sp_fed, sp_mark_ended, sp_at_text, sp_at_mark, sp_at_open, sp_at_name, sp_at_slash, sp_at_shut, sp_at_gap, sp_at_attr, sp_at_is, sp_at_bang, sp_at_bare, sp_at_code, sp_at_row, sp_at_stroke, sp_at_quoted, sp_at_qmark, sp_at_done, sp_at_talk, sp_at_tmark, sp_at_asis, sp_moved, sp_begin, sp_step, sp_run, sp_is_end, sp_floored, sp_Spot___init__, sp_Spot_shown, sp_Spot_met, sp_Looking___init__, sp_Looking_look_all, sp_Looking_look_piece, sp_Looking_look_literal, sp_Looking_look_seat, sp_looked_at, sp_look, sp__law_cell, sp__law_mix, sp__law_other, sp__law_looked, sp__law_refusal, sp__law_spots, sp__law_menu, sp__law_found, sp__law_ran, sp__law_seat, sp__law_due, sp__law_right, sp__law_evens, sp_law, tLC, iStr, iRng1, iRng2, iList, tFor_eq, tWhile_eq, tTrue, PySem.sizeLine_eq, atI_0, atI_1, Int.natCast_inj, atI_z, tSeq, tIfS, tRet, tRetN, tAsg, gName, tDrop, tNext, tNever, tOp, tUn, tVar, tC, tTest, tB, tAnd, tOr, tNot, tAndV, tOrV, tNotV, tIf, tCons, tNil, tCB, tCall, tLst, tTryR, tRaiseN, tRaiseH, lostD, tCallX, tRaise, tTry, tAtX, rIsX, rIsXT, rIsInt, rIsBool, rIsStr, tTup, tBM, tBM0, tSl, tPart, tNoPart, tAug, ipI, rI, rI0, rU, rEq, rNe, scal, rIndex, rZfill, rJoin, rAppend, rIxL, rIxT, rIxSS, rLenL, rSlL, rMulS,iEnumS, cxKh, iEnumL, tLC2_eq, Nat.reduceEqDiff, tCallV, tKGet, tTruK, rIsA, rTupL, rCatU, rSlU, rStarts, rEqD, rNeD, iZip, rIntB, rClear, rExtend, tDGet, tDisp, tPairs, iRng3, rMulL, rIsB, rIsNotB, rEqTS, rAllB, rRepr, tChain, rMulT, iRevT, iRevL, tRepl, gSub, rSetL, tRevS, tBreak, rPop, tDGet2, tFld, sFld, tMeth, tMake, tMethX, rListL, rNeI, rEq0, rNe0, rEqDL, rDIn, rSetD, rDictD, tCallXV, tDUpd, iTup, rIn, rListS, rIsStrA, tD0, rEqS, rNeS, rInsert, rCat, gTup, gCons, gNil, tyV_str, cxK, cxK0, blkK, nc0, nc1, nc2, nc3, nc94, sg_len, List.map_cons, List.map_nil, List.length_cons, List.length_nil, List.replicate, List.cons_append, List.nil_append, List.append_nil, List.getElem?_cons_zero, List.getElem?_cons_succ, List.set_cons_zero, List.set_cons_succ, Option.some.injEq, List.cons.injEq, V.int.injEq, V.str.injEq, V.bl.injEq, V.ref.injEq, V.ty.injEq, S_inj, V_inj, and_true, true_and, eq_self, and_assoc, exists_eq_left, exists_eq_left', exists_eq_right, exists_eq, exists_eq', exists_and_left, exists_and_right, exists_const, reduceCtorEq, false_and, and_false, or_false, false_or, exists_false, Nat.reduceAdd, Nat.reduceSub, Int.reduceLT, Int.reduceLE, Nat.reduceLeDiff, Nat.reduceLT, Int.reduceEq, Nat.sub_self, decide_eq_true_eq, decide_true, decide_false, ite_t, ite_f, if_true, if_false, Bool.not_true, Bool.not_false, Bool.false_eq_true, ↓reduceIte])
section
variable {P:Program} {w:World} {K:PySem.W.Frag} {mg:Str->Option Value} {base:Heap} {t:Ads}
theorem ok_sign_of (T:Txt w K mg t)(D:Df K mg "sign_of" s_sign_of ps_sign_of):OkF P w K mg base 1 "sign_of" ps_sign_of sp_sign_of:=by
  refine D.ok sc_sign_of (fun vs H Q E h=>?_) (fun f cdv A outer s H vs Q E hr h=>?_)
  · obtain⟨_,rfl,_⟩:=h;rfl
  · obtain⟨n,rfl,hn,k⟩:=h
    refine⟨_,((qss_one (qs_ret (qe_ix ix_S (qe_gl T.g_SIGNS) (qv 0) (fun _ _=>(by rfl)))))).h,?_⟩
    walk_at "rd"
    have hn':n<sg.length:=by rw [sg_len];exact hn
    have e:sg[n]? = some sg[n]:=List.getElem?_eq_getElem hn'
    exact⟨_,e,k _ H e (Same.refl H)⟩
theorem ok_sign_told (T:Txt w K mg t)(D:Df K mg "sign_told" s_sign_told ps_sign_told)(F_sign_of:OkF P w K mg base 1 "sign_of" ps_sign_of sp_sign_of):OkF P w K mg base 2 "sign_told" ps_sign_told sp_sign_told:=by
  refine D.ok sc_sign_told (fun vs H Q E h=>?_) (fun f cdv A outer s H vs Q E hr h=>?_)
  · obtain⟨_,rfl,_⟩:=h;rfl
  · obtain⟨l,rfl,hl,k⟩:=h
    refine⟨_,((qss_cons (qs_if (QW.qt (qw_or (qt_cmpR op_ne (qe_callB call_lenS (by rfl) T.z_len bb_len (qa_cons (qv 0) qa_nil)) qe_int (nomark _)) (qw_or (qt_cmpR op_notinS (qe_ix ix_S (qv 0) qe_int (fun _ _=>(by rfl))) (qe_gl T.g_FIGURES) (by rfl)) (qw_or1 (qt_cmpR op_notinS (qe_ix ix_S (qv 0) qe_int (fun _ _=>(by rfl))) (qe_gl T.g_FIGURES) (by rfl)))))) (qss_one (qs_ret qe_non)) qss_nil)
      (qss_cons (qs_set (i:=1) sc_sign_told.nd (by rfl) (Or.inl (by rfl)) (qe_callTy call_intS (by rfl) T.z_int bb_int (qa_cons (qv 0) qa_nil)))
      (qss_one (qs_ret (qe_ifExp (qt_cmpR op_lt (qv 1) (qe_callB call_lenS (by rfl) T.z_len bb_len (qa_cons (qe_gl T.g_SIGNS) qa_nil)) (nomark _)) (qe_callF F_sign_of hr (by decide) (qa_cons (qv 1) qa_nil)) qe_non)))))).h,?_⟩
    walk_at "rd"
    refine⟨by lia,?_⟩
    by_cases hl2:l.length=2
    · obtain⟨c,d,rfl⟩:∃ c d,l=[c,d]:=by
        match l,hl2 with
        | [c,d],_=>exact⟨c,d,rfl⟩
      walk_at "rd"
      by_cases h1:c∈fg
      · rw [if_neg (by simp [h1])]
        by_cases h2:d∈fg
        · rw [if_neg (by simp [h2])]
          have f1:=(fg_iff c).mp h1
          have f2:=(fg_iff d).mp h2
          refine⟨f1,f2,?_⟩
          have et:L2.told [c,d]=sg[(c - 48) * 10+(d - 48)]?:=by
            show(if isFig c=true/\isFig d=true then _ else _)=_
            rw [if_pos ⟨f1,f2⟩]
          by_cases h3:(c - 48) * 10+(d - 48)<94
          · rw [if_pos (by lia)]
            refine⟨h3,fun x H' e g=>?_⟩
            rw [et,e] at k
            exact k H' g
          · rw [if_neg (by lia)]
            rw [et,List.getElem?_eq_none_iff.mpr (by rw [sg_len];lia)] at k
            exact k H (Same.refl H)
        · rw [if_pos (by simp [h2])]
          have e:L2.told [c,d]=none:=by
            show(if isFig c=true/\isFig d=true then _ else _)=_
            rw [if_neg (by rintro⟨_,z⟩;exact h2 ((fg_iff d).mpr z))]
          rw [e] at k
          exact k H (Same.refl H)
      · rw [if_pos (by simp [h1])]
        have e:L2.told [c,d]=none:=by
          show(if isFig c=true/\isFig d=true then _ else _)=_
          rw [if_neg (by rintro⟨z,_⟩;exact h1 ((fg_iff c).mpr z))]
        rw [e] at k
        exact k H (Same.refl H)
    · rw [told_ne hl2] at k
      rw [if_pos (by simp;lia)]
      exact k H (Same.refl H)
theorem ok_fed_between (T:Txt w K mg t)(D:Df K mg "fed_between" s_fed_between ps_fed_between):OkF P w K mg base 1 "fed_between" ps_fed_between sp_fed_between:=by
  refine D.ok sc_fed_between (fun vs H Q E h=>?_) (fun f cdv A outer s H vs Q E hr h=>?_)
  · obtain⟨_,rfl,_⟩:=h;rfl
  · obtain⟨c,rfl,k⟩:=h
    refine⟨_,((qss_cons (qs_if (qt_cmpR op_eq (qv 0) (qe_S (l:=[32]) (by decide +kernel)) (nomark _)) (qss_one (qs_ret (qe_tup (qa_cons (qe_S (l:=[98,101,116,119,101,101,110]) (by decide +kernel)) (qa_cons (qe_lst qa_nil) qa_nil))))) qss_nil)
      (qss_cons (qs_if (qt_cmpR op_eq (qv 0) (qe_S (l:=[39]) (by decide +kernel)) (nomark _)) (qss_one (qs_ret (qe_tup (qa_cons (qe_S (l:=[115,97,105,100]) (by decide +kernel)) (qa_cons (qe_lst (qa_cons (qe_tup (qa_cons (qe_S (l:=[115,97,105,100]) (by decide +kernel)) qa_nil)) qa_nil)) qa_nil))))) qss_nil)
      (qss_cons (qs_if (qt_cmpR op_inS (qv 0) (qe_gl T.g_WORDSIGNS) (by rfl)) (qss_one (qs_ret (qe_tup (qa_cons (qe_S (l:=[119,111,114,100]) (by decide +kernel)) (qa_cons (qe_lst (qa_cons (qe_tup (qa_cons (qe_S (l:=[119,111,114,100]) (by decide +kernel)) qa_nil)) (qa_cons (qe_tup (qa_cons (qe_S (l:=[115,105,103,110]) (by decide +kernel)) (qa_cons (qv 0) qa_nil))) qa_nil))) qa_nil))))) qss_nil)
      (qss_one (qs_ret qe_non)))))).h,?_⟩
    walk_at "rd"
    unfold fedB at k
    by_cases h1:c=32
    · rw [if_pos h1] at k ⊢
      intro p hp p1 hp1
      have a:=tk_of (G:=fun a=>H a=none) (t:=tBetween) hp1 (evl0 (H:=H) (q:=p)) hp
      exact k _ _ ((same_upd hp).trans a.1) a.2
    rw [if_neg h1] at k ⊢
    by_cases h2:c=39
    · rw [if_pos h2] at k ⊢
      intro p hp p1 hp1 p2 hp2
      have a:=tk_of (G:=fun a=>H a=none) (t:=tSaid) hp2 (evl1 (e:=[eSaid]) hp1) (none_of_upd hp1)
      exact k _ _ ((same_upd hp).trans ((same_upd hp1).trans a.1)) a.2
    rw [if_neg h2] at k ⊢
    by_cases h3:c∈ws
    · rw [if_pos h3] at k ⊢
      intro p hp p1 hp1 p2 hp2 p3 hp3
      have he:EvL (upd (upd (upd H p (.tup [.str (S eWord)])) p1 (.tup [.str (S eSign),.str (S [c])])) p2 (.lst [.ref p,.ref p1])) p2 [[eWord],[eSign,[c]]]:=
        ⟨_,upd_same,.cons ⟨p,rfl,same_upd hp2 _ _ (same_upd hp1 _ _ upd_same)⟩ (.cons ⟨p1,rfl,same_upd hp2 _ _ upd_same⟩ .nil)⟩
      have a:=tk_of (G:=fun a=>H a=none) (t:=tWord) hp3 he (none_of_upd (none_of_upd hp2))
      exact k _ _ ((same_upd hp).trans ((same_upd hp1).trans ((same_upd hp2).trans a.1))) a.2
    · rw [if_neg h3] at k ⊢
      exact k _ _ (Same.refl H) rfl
theorem ok_fed_word (T:Txt w K mg t)(D:Df K mg "fed_word" s_fed_word ps_fed_word)(F_fed_between:OkF P w K mg base 1 "fed_between" ps_fed_between sp_fed_between):OkF P w K mg base 2 "fed_word" ps_fed_word sp_fed_word:=by
  refine D.ok sc_fed_word (fun vs H Q E h=>?_) (fun f cdv A outer s H vs Q E hr h=>?_)
  · obtain⟨_,rfl,_⟩:=h;rfl
  · obtain⟨c,rfl,k⟩:=h
    refine⟨_,((qss_cons (qs_if (qt_cmpR op_inS (qv 0) (qe_gl T.g_WORDSIGNS) (by rfl)) (qss_one (qs_ret (qe_tup (qa_cons (qe_S (l:=[119,111,114,100]) (by decide +kernel)) (qa_cons (qe_lst (qa_cons (qe_tup (qa_cons (qe_S (l:=[115,105,103,110]) (by decide +kernel)) (qa_cons (qv 0) qa_nil))) qa_nil)) qa_nil))))) qss_nil)
      (qss_one (qs_ret (qe_callF F_fed_between hr (by decide) (qa_cons (qv 0) qa_nil)))))).h,?_⟩
    walk_at "rd"
    unfold fedW at k
    by_cases h3:c∈ws
    · rw [if_pos h3] at k ⊢
      intro p hp p1 hp1 p2 hp2
      have a:=tk_of (G:=fun a=>H a=none) (t:=tWord) hp2 (evl1 (e:=[eSign,[c]]) hp1) (none_of_upd hp1)
      exact k _ _ ((same_upd hp).trans ((same_upd hp1).trans a.1)) a.2
    · rw [if_neg h3] at k ⊢
      exact k
theorem ok_fed_said (T:Txt w K mg t)(D:Df K mg "fed_said" s_fed_said ps_fed_said):OkF P w K mg base 1 "fed_said" ps_fed_said sp_fed_said:=by
  refine D.ok sc_fed_said (fun vs H Q E h=>?_) (fun f cdv A outer s H vs Q E hr h=>?_)
  · obtain⟨_,rfl,_⟩:=h;rfl
  · obtain⟨c,rfl,k⟩:=h
    refine⟨_,((qss_cons (qs_if (qt_cmpR op_eq (qv 0) (qe_S (l:=[39]) (by decide +kernel)) (nomark _)) (qss_one (qs_ret (qe_tup (qa_cons (qe_S (l:=[98,101,116,119,101,101,110]) (by decide +kernel)) (qa_cons (qe_lst qa_nil) qa_nil))))) qss_nil)
      (qss_cons (qs_if (qt_cmpR op_eq (qv 0) (qe_S (l:=[92]) (by decide +kernel)) (nomark _)) (qss_one (qs_ret (qe_tup (qa_cons (qe_S (l:=[115,116,114,111,107,101]) (by decide +kernel)) (qa_cons (qe_lst qa_nil) qa_nil))))) qss_nil)
      (qss_one (qs_ret (qe_tup (qa_cons (qe_S (l:=[115,97,105,100]) (by decide +kernel)) (qa_cons (qe_lst (qa_cons (qe_tup (qa_cons (qe_S (l:=[115,105,103,110]) (by decide +kernel)) (qa_cons (qv 0) qa_nil))) qa_nil)) qa_nil)))))))).h,?_⟩
    walk_at "rd"
    unfold fedS at k
    by_cases h1:c=39
    · rw [if_pos h1] at k ⊢
      intro p hp p1 hp1
      have a:=tk_of (G:=fun a=>H a=none) (t:=tBetween) hp1 (evl0 (H:=H) (q:=p)) hp
      exact k _ _ ((same_upd hp).trans a.1) a.2
    rw [if_neg h1] at k ⊢
    by_cases h2:c=92
    · rw [if_pos h2] at k ⊢
      intro p hp p1 hp1
      have a:=tk_of (G:=fun a=>H a=none) (t:=tStroke) hp1 (evl0 (H:=H) (q:=p)) hp
      exact k _ _ ((same_upd hp).trans a.1) a.2
    rw [if_neg h2] at k ⊢
    intro p hp p1 hp1 p2 hp2
    have a:=tk_of (G:=fun a=>H a=none) (t:=tSaid) hp2 (evl1 (e:=[eSign,[c]]) hp1) (none_of_upd hp1)
    exact k _ _ ((same_upd hp).trans ((same_upd hp1).trans a.1)) a.2
theorem ok_feed (T:Txt w K mg t)(D:Df K mg "feed" s_feed ps_feed)(F_fed_between:OkF P w K mg base 1 "fed_between" ps_fed_between sp_fed_between)(F_fed_word:OkF P w K mg base 2 "fed_word" ps_fed_word sp_fed_word)(F_fed_said:OkF P w K mg base 1 "fed_said" ps_fed_said sp_fed_said):OkF P w K mg base 3 "feed" ps_feed sp_feed:=by
  refine D.ok sc_feed (fun vs H Q E h=>?_) (fun f cdv A outer s H vs Q E hr h=>?_)
  · obtain⟨_,_,rfl,_⟩:=h;rfl
  · obtain⟨tk,c,rfl,k⟩:=h
    refine⟨_,((qss_cons (qs_if (qt_cmpR op_eq (qv 0) (qe_S (l:=[98,101,116,119,101,101,110]) (by decide +kernel)) (nomark _)) (qss_one (qs_ret (qe_callF F_fed_between hr (by decide) (qa_cons (qv 1) qa_nil)))) qss_nil)
      (qss_cons (qs_if (qt_cmpR op_eq (qv 0) (qe_S (l:=[119,111,114,100]) (by decide +kernel)) (nomark _)) (qss_one (qs_ret (qe_callF F_fed_word hr (by decide) (qa_cons (qv 1) qa_nil)))) qss_nil)
      (qss_cons (qs_if (qt_cmpR op_eq (qv 0) (qe_S (l:=[115,97,105,100]) (by decide +kernel)) (nomark _)) (qss_one (qs_ret (qe_callF F_fed_said hr (by decide) (qa_cons (qv 1) qa_nil)))) qss_nil)
      (qss_cons (qs_if (qt_cmpR op_eq (qv 0) (qe_S (l:=[115,116,114,111,107,101]) (by decide +kernel)) (nomark _)) (qss_one (qs_ret (qe_tup (qa_cons (qe_S (l:=[115,97,105,100]) (by decide +kernel)) (qa_cons (qe_lst (qa_cons (qe_tup (qa_cons (qe_S (l:=[115,105,103,110]) (by decide +kernel)) (qa_cons (qv 1) qa_nil))) qa_nil)) qa_nil))))) qss_nil)
      (qss_one (qs_ret qe_non))))))).h,?_⟩
    walk_at "rd"
    unfold feedM at k
    by_cases h1:tk=tBetween
    · rw [if_pos h1] at k ⊢
      exact k
    rw [if_neg h1] at k ⊢
    by_cases h2:tk=tWord
    · rw [if_pos h2] at k ⊢
      exact k
    rw [if_neg h2] at k ⊢
    by_cases h3:tk=tSaid
    · rw [if_pos h3] at k ⊢
      exact k
    rw [if_neg h3] at k ⊢
    by_cases h4:tk=tStroke
    · rw [if_pos h4] at k ⊢
      intro p hp p1 hp1 p2 hp2
      have a:=tk_of (G:=fun a=>H a=none) (t:=tSaid) hp2 (evl1 (e:=[eSign,[c]]) hp1) (none_of_upd hp1)
      exact k _ _ ((same_upd hp).trans ((same_upd hp1).trans a.1)) a.2
    rw [if_neg h4] at k ⊢
    exact k _ _ (Same.refl H) rfl
end
section
variable {P:Program} {w:World} {K:PySem.W.Frag} {mg:Str->Option Value} {base:Heap} {t:Ads}
theorem ok_come_to (T:Txt w K mg t)(D:Df K mg "come_to" s_come_to ps_come_to):OkF P w K mg base 1 "come_to" ps_come_to sp_come_to:=by
  refine D.ok sc_come_to (fun vs H Q E h=>?_) (fun f cdv A outer s H vs Q E hr h=>?_)
  · obtain⟨_,_,_,_,_,rfl,_⟩:=h;rfl
  · obtain⟨m,oa,op,ea,es,rfl,ho,he,k⟩:=h
    refine⟨_,((qss_one (qs_ret (qe_tup (qa_cons (qe_tup (qa_cons (qv 0) (qa_cons (qe_S (l:=[]) (by decide +kernel)) (qa_cons (qv 1) (qa_cons (qe_S (l:=[]) (by decide +kernel)) qa_nil))))) (qa_cons (qv 2) qa_nil)))))).h,?_⟩
    walk_at "rd"
    intro p hp p1 hp1
    have a:=an_of (G:=fun a=>a=ea) (m:=m) (w:=[]) (t:=[]) hp hp1 ho he rfl
    exact k _ _ a.1 a.2
theorem ok_told (T:Txt w K mg t)(D:Df K mg "told" s_told ps_told)(F_come_to:OkF P w K mg base 1 "come_to" ps_come_to sp_come_to):OkF P w K mg base 2 "told" ps_told sp_told:=by
  refine D.ok sc_told (fun vs H Q E h=>?_) (fun f cdv A outer s H vs Q E hr h=>?_)
  · obtain⟨_,_,_,_,rfl,_⟩:=h;rfl
  · obtain⟨m,oa,op,o,rfl,ho,k⟩:=h
    refine⟨_,((qss_cons (qs_if (qt_cmpR op_isN (qv 2) qe_non (nomark _)) (qss_one (qs_ret qe_non)) qss_nil)
      (qss_one (qs_ret (qe_callF F_come_to hr (by decide) (qa_cons (by exact(qv 0)) (by exact(qa_cons (by exact(qv 1)) (by exact(qa_cons (by exact(qe_lst (qa_cons (qe_tup (qa_cons (qe_S (l:=[115,105,103,110]) (by decide +kernel)) (qa_cons (qv 2) qa_nil))) qa_nil))) (by exact qa_nil))))))))))).h,?_⟩
    walk_at "rd"
    cases o with
    | none=>
      rw [if_pos (show oV none=V.non from rfl)]
      exact k _ _ (Same.refl H) rfl
    | some c=>
      rw [if_neg (by intro z;cases z)]
      intro p hp p1 hp1
      exact⟨op,ho.mono ((same_upd hp).trans (same_upd hp1)),[[eSign,[c]]],evl1 (e:=[eSign,[c]]) hp1,fun v H' g a=>k v H' (((same_upd hp).trans (same_upd hp1)).trans g) (a.imp fun x e=>by subst e;exact none_of_upd hp1)⟩
theorem ok_gathered (T:Txt w K mg t)(D:Df K mg "gathered" s_gathered ps_gathered):OkF P w K mg base 1 "gathered" ps_gathered sp_gathered:=by
  refine D.ok sc_gathered (fun vs H Q E h=>?_) (fun f cdv A outer s H vs Q E hr h=>?_)
  · obtain⟨_,_,_,_,_,_,rfl,_⟩:=h;rfl
  · obtain⟨m,wd,oa,op,tk,n,rfl,ho,hl,k⟩:=h
    refine⟨_,((qss_cons (qs_if (qt_cmpR op_gt (qe_callB call_lenS (by rfl) T.z_len bb_len (qa_cons (qv 1) qa_nil)) (qv 4) (nomark _)) (qss_one (qs_ret qe_non)) qss_nil)
      (qss_one (qs_ret (qe_tup (qa_cons (qe_tup (qa_cons (qv 0) (qa_cons (qv 1) (qa_cons (qv 2) (qa_cons (qv 3) qa_nil))))) (qa_cons (qe_lst qa_nil) qa_nil))))))).h,?_⟩
    walk_at "rd"
    refine⟨by lia,?_⟩
    unfold gath at k
    by_cases h:n<wd.length
    · rw [if_pos h] at k
      rw [if_pos (by lia)]
      exact k _ _ (Same.refl H) rfl
    · rw [if_neg h] at k
      rw [if_neg (by lia)]
      intro p hp p1 hp1 p2 hp2
      have g:=(same_upd (o:=.tup [.str (S m),.str (S wd),.ref oa,.str (S tk)]) hp).trans (same_upd (o:=.lst []) hp1)
      exact k _ _ (g.trans (same_upd hp2)) (an_up (same_upd hp1 _ _ upd_same) (ho.mono g) evl0 (none_of_upd hp1) hp2)
theorem ok_box_shut (T:Txt w K mg t)(D:Df K mg "box_shut" s_box_shut ps_box_shut)(F_come_to:OkF P w K mg base 1 "come_to" ps_come_to sp_come_to):OkF P w K mg base 2 "box_shut" ps_box_shut sp_box_shut:=by
  refine D.ok sc_box_shut (fun vs H Q E h=>?_) (fun f cdv A outer s H vs Q E hr h=>?_)
  · obtain⟨_,_,_,_,rfl,_⟩:=h;rfl
  · obtain⟨oa,op,ea,es,rfl,ho,he,hl,k⟩:=h
    refine⟨_,((qss_cons (qs_if (qt_not (qt_truthK (K:=K) (by rfl) (qv 0))) (qss_one (qs_ret qe_non)) qss_nil)
      (qss_one (qs_ret (qe_callF F_come_to hr (by decide) (qa_cons (by exact(qe_S (l:=[116,101,120,116]) (by decide +kernel))) (by exact(qa_cons (by exact(qe_slice sl_tupU (qv 0) qo_none (qo_some (qe_un un_neg qe_int)))) (by exact(qa_cons (by exact(qe_op op_cat (qv 1) (qe_lst (qa_cons (qe_tup (qa_cons (qe_S (l:=[111,117,116]) (by decide +kernel)) qa_nil)) qa_nil)))) (by exact qa_nil))))))))))).h,?_⟩
    walk_at "rd"
    refine⟨_,tru_tup ho,?_⟩
    unfold boxShut at k
    by_cases h:op=[]
    · subst h
      rw [if_pos rfl] at k
      rw [if_pos (show(!!(List.map tx ([]:List Tx)).isEmpty)=true from rfl)]
      exact k _ _ (Same.refl H) rfl
    · rw [if_neg h] at k
      rw [if_neg (by cases op with | nil=>exact absurd rfl h | cons=>simp)]
      obtain⟨vs,e1,e2⟩:=he
      refine⟨_,ho,fun p H1 g1 hp p1 hp1 p2 hp2=>?_⟩
      have g2:=(same_upd (o:=.tup [.str (S eOut)]) hp1).trans (same_upd (o:=.lst [.ref p1]) hp2)
      refine⟨vs,g2 _ _ (g1 _ _ e1),_,upd_same,by rw [e2.len];simp;lia,fun p3 hp3=>?_⟩
      have g3:=g2.trans (same_upd (o:=.lst (vs++[.ref p1])) hp3)
      refine⟨op.dropLast,?_,es++[[eOut]],⟨_,upd_same,(e2.mono (g1.trans g3)).app (.cons ⟨p1,rfl,same_upd hp3 _ _ (same_upd hp2 _ _ upd_same)⟩ .nil)⟩,fun v H' g a=>k v H' (g1.trans (g3.trans g)) (a.imp fun x e=>?_)⟩
      · rw [cut_init,map_dropLast] at hp
        exact g3 _ _ hp
      · subst e
        exact none_of_same g1 (none_of_upd (none_of_upd hp3))
theorem ok_into_box (T:Txt w K mg t)(D:Df K mg "into_box" s_into_box ps_into_box)(F_come_to:OkF P w K mg base 1 "come_to" ps_come_to sp_come_to):OkF P w K mg base 2 "into_box" ps_into_box sp_into_box:=by
  refine D.ok sc_into_box (fun vs H Q E h=>?_) (fun f cdv A outer s H vs Q E hr h=>?_)
  · obtain⟨_,_,_,_,rfl,_⟩:=h;rfl
  · obtain⟨oa,op,ea,es,rfl,ho,he,hl,k⟩:=h
    refine⟨_,((qss_cons (qs_if (qt_not (qt_truthK (K:=K) (by rfl) (qv 0))) (qss_one (qs_ret qe_non)) qss_nil)
      (qss_cons (qs_set (i:=2) sc_into_box.nd (by rfl) (Or.inl (by rfl)) (qe_ifExp (qt_cmpR op_eq (qe_ix (ix_tupK (K:=K) (by rfl)) (qv 0) (qe_un un_neg qe_int) (fun _ _=>(by rfl))) (qe_S (l:=[97,115,105,115]) (by decide +kernel)) (nomark _)) (qe_S (l:=[97,115,105,115]) (by decide +kernel)) (qe_S (l:=[116,101,120,116]) (by decide +kernel))))
      (qss_one (qs_ret (qe_callF F_come_to hr (by decide) (qa_cons (by exact(qv 2)) (by exact(qa_cons (by exact(qv 0)) (by exact(qa_cons (by exact(qe_op op_cat (qv 1) (qe_lst (qa_cons (qe_tup (qa_cons (qe_S (l:=[105,110]) (by decide +kernel)) qa_nil)) qa_nil)))) (by exact qa_nil)))))))))))).h,?_⟩
    walk_at "rd"
    refine⟨_,tru_tup ho,?_⟩
    unfold intoBox at k
    by_cases h:op=[]
    · subst h
      rw [if_pos rfl] at k
      rw [if_pos (show(!!(List.map tx ([]:List Tx)).isEmpty)=true from rfl)]
      exact k _ _ (Same.refl H) rfl
    · rw [if_neg h] at k
      rw [if_neg (by cases op with | nil=>exact absurd rfl h | cons=>simp)]
      obtain⟨vs,e1,e2⟩:=he
      obtain⟨l,hla⟩:∃ l,op.getLast? = some l:=by
        cases op with
        | nil=>exact absurd rfl h
        | cons a r=>exact⟨_,List.getLast?_eq_some_getLast (by simp)⟩
      refine⟨_,SqT.of ho,V.str (S l),by rw [atI_last1,List.getLast?_map,hla];rfl,rfl,?_⟩
      rw [hla] at k
      by_cases h2:l=mAsis
      · subst h2
        rw [if_pos rfl] at k ⊢
        intro p1 hp1 p2 hp2
        have g2:=(same_upd (o:=.tup [.str (S eIn)]) hp1).trans (same_upd (o:=.lst [.ref p1]) hp2)
        refine⟨vs,g2 _ _ e1,_,upd_same,by rw [e2.len];simp;lia,fun p3 hp3=>?_⟩
        have g3:=g2.trans (same_upd (o:=.lst (vs++[.ref p1])) hp3)
        exact⟨op,ho.mono g3,es++[[eIn]],⟨_,upd_same,(e2.mono g3).app (.cons ⟨p1,rfl,same_upd hp3 _ _ (same_upd hp2 _ _ upd_same)⟩ .nil)⟩,fun v H' g a=>k v H' (g3.trans g) (a.imp fun x e=>by subst e;exact none_of_upd (none_of_upd hp3))⟩
      · rw [if_neg (by intro z;exact h2 (Option.some.inj z))] at k
        rw [if_neg (by rw [V.str.injEq,S_inj];exact h2)]
        intro p1 hp1 p2 hp2
        have g2:=(same_upd (o:=.tup [.str (S eIn)]) hp1).trans (same_upd (o:=.lst [.ref p1]) hp2)
        refine⟨vs,g2 _ _ e1,_,upd_same,by rw [e2.len];simp;lia,fun p3 hp3=>?_⟩
        have g3:=g2.trans (same_upd (o:=.lst (vs++[.ref p1])) hp3)
        exact⟨op,ho.mono g3,es++[[eIn]],⟨_,upd_same,(e2.mono g3).app (.cons ⟨p1,rfl,same_upd hp3 _ _ (same_upd hp2 _ _ upd_same)⟩ .nil)⟩,fun v H' g a=>k v H' (g3.trans g) (a.imp fun x e=>by subst e;exact none_of_upd (none_of_upd hp3))⟩
theorem ok_led_on (T:Txt w K mg t)(D:Df K mg "led_on" s_led_on ps_led_on)(F_come_to:OkF P w K mg base 1 "come_to" ps_come_to sp_come_to)(F_into_box:OkF P w K mg base 2 "into_box" ps_into_box sp_into_box):OkF P w K mg base 3 "led_on" ps_led_on sp_led_on:=by
  refine D.ok sc_led_on (fun vs H Q E h=>?_) (fun f cdv A outer s H vs Q E hr h=>?_)
  · obtain⟨_,_,_,_,_,rfl,_⟩:=h;rfl
  · obtain⟨oa,op,c,ea,es,rfl,ho,he,hl,k⟩:=h
    refine⟨_,((qss_cons (qs_if (qt_cmpR op_eq (qv 1) (qe_S (l:=[32]) (by decide +kernel)) (nomark _)) (qss_one (qs_ret (qe_callF F_come_to hr (by decide) (qa_cons (qe_S (l:=[103,97,112]) (by decide +kernel)) (qa_cons (qv 0) (qa_cons (qv 2) qa_nil)))))) qss_nil)
      (qss_cons (qs_if (qt_cmpR op_eq (qv 1) (qe_S (l:=[47]) (by decide +kernel)) (nomark _)) (qss_one (qs_ret (qe_callF F_come_to hr (by decide) (qa_cons (qe_S (l:=[115,108,97,115,104]) (by decide +kernel)) (qa_cons (qv 0) (qa_cons (qv 2) qa_nil)))))) qss_nil)
      (qss_cons (qs_if (qt_cmpR op_eq (qv 1) (qe_S (l:=[62]) (by decide +kernel)) (nomark _)) (qss_one (qs_ret (qe_callF F_into_box hr (by decide) (qa_cons (qv 0) (qa_cons (qv 2) qa_nil))))) qss_nil)
      (qss_one (qs_ret qe_non)))))).h,?_⟩
    walk_at "rd"
    unfold ledOn at k
    by_cases h1:c=32
    · rw [if_pos h1] at k ⊢
      exact⟨op,ho,es,he,fun v H' g a=>k v H' g (a.imp fun x e=>.inr e)⟩
    rw [if_neg h1] at k ⊢
    by_cases h2:c=47
    · rw [if_pos h2] at k ⊢
      exact⟨op,ho,es,he,fun v H' g a=>k v H' g (a.imp fun x e=>.inr e)⟩
    rw [if_neg h2] at k ⊢
    by_cases h3:c=62
    · rw [if_pos h3] at k ⊢
      exact⟨op,ho,es,he,hl,fun v H' g a=>k v H' g (a.imp fun x e=>.inl e)⟩
    rw [if_neg h3] at k ⊢
    exact k _ _ (Same.refl H) rfl
theorem ok_fed (T:Txt w K mg t)(D:Df K mg "fed" s_fed ps_fed)(F_feed:OkF P w K mg base 3 "feed" ps_feed sp_feed):OkF P w K mg base 4 "fed" ps_fed sp_fed:=by
  refine D.ok sc_fed (fun vs H Q E h=>?_) (fun f cdv A outer s H vs Q E hr h=>?_)
  · obtain⟨_,_,_,_,rfl,_⟩:=h;rfl
  · obtain⟨oa,op,tk,o,rfl,ho,k⟩:=h
    refine⟨_,((qss_cons (qs_set (i:=3) sc_fed.nd (by rfl) (Or.inl (by rfl)) (qe_ifExp (qt_cmpR op_isN (qv 2) qe_non (nomark _)) qe_non (qe_callF F_feed hr (by decide) (qa_cons (qv 1) (qa_cons (qv 2) qa_nil)))))
      (qss_cons (qs_if (qt_cmpR op_isN (qv 3) qe_non (nomark _)) (qss_one (qs_ret qe_non)) qss_nil)
      (qss_one (qs_ret (qe_tup (qa_cons (qe_tup (qa_cons (by exact(qe_S (l:=[116,97,108,107]) (by decide +kernel))) (by exact(qa_cons (by exact(qe_S (l:=[]) (by decide +kernel))) (by exact(qa_cons (by exact(qv 0)) (by exact(qa_cons (by exact(qe_ix (ix_tupK (K:=K) (by rfl)) (qv 3) qe_int (fun _ _=>(by rfl)))) (by exact qa_nil))))))))) (qa_cons (qe_ix (ix_tupK (K:=K) (by rfl)) (qv 3) qe_int (fun _ _=>(by rfl))) qa_nil)))))))).h,?_⟩
    walk_at "rd"
    cases o with
    | none=>
      rw [if_pos (show oV none=V.non from rfl)]
      exact k _ _ (Same.refl H) rfl
    | some c=>
      rw [if_neg (by intro z;cases z)]
      refine⟨c,rfl,fun v H1 g1 a=>?_⟩
      unfold fedM at k
      cases hf:feedM tk c with
      | none=>
        rw [hf] at a
        simp only [hf] at k
        have a:v=.non:=a
        subst a
        rw [if_pos rfl]
        exact k _ _ g1 rfl
      | some r=>
        obtain⟨tk',es⟩:=r
        rw [hf] at a
        simp only [hf] at k
        obtain⟨p,ea,rfl,hp,he,hg⟩:=a
        rw [if_neg (by intro z;cases z)]
        exact⟨p,rfl,_,SqT.of hp,_,rfl,fun p1 hp1=>⟨p,rfl,_,SqT.of (same_upd hp1 _ _ hp),_,rfl,fun p2 hp2=>k _ _ (g1.trans ((same_upd hp1).trans (same_upd hp2))) (an_up upd_same ((ho.mono g1).mono (same_upd hp1)) (he.mono (same_upd hp1)) hg hp2)⟩⟩
theorem ok_mark_ended (T:Txt w K mg t)(D:Df K mg "mark_ended" s_mark_ended ps_mark_ended)(F_sign_told:OkF P w K mg base 2 "sign_told" ps_sign_told sp_sign_told):OkF P w K mg base 3 "mark_ended" ps_mark_ended sp_mark_ended:=by
  refine D.ok sc_mark_ended (fun vs H Q E h=>?_) (fun f cdv A outer s H vs Q E hr h=>?_)
  · obtain⟨_,_,rfl,_⟩:=h;rfl
  · obtain⟨wd,c,rfl,hl,k⟩:=h
    refine⟨_,((qss_one (qs_ret (qe_ifExp (qt_cmpR op_eq (qv 1) (qe_S (l:=[59]) (by decide +kernel)) (nomark _)) (qe_callF F_sign_told hr (by decide) (qa_cons (qv 0) qa_nil)) qe_non)))).h,?_⟩
    walk_at "rd"
    unfold mkEnd at k
    by_cases h:c=59
    · rw [if_pos h] at k ⊢
      exact⟨by lia,k⟩
    · rw [if_neg h] at k ⊢
      exact k H (Same.refl H)
end
section
variable {P:Program} {w:World} {K:PySem.W.Frag} {mg:Str->Option Value} {base:Heap} {t:Ads}
theorem ok_at_text (T:Txt w K mg t)(D:Df K mg "at_text" s_at_text ps_at_text)(F_come_to:OkF P w K mg base 1 "come_to" ps_come_to sp_come_to)(F_told:OkF P w K mg base 2 "told" ps_told sp_told):OkF P w K mg base 3 "at_text" ps_at_text sp_at_text:=by
  refine D.ok sc_at_text (fun vs H Q E h=>?_) (fun f cdv A outer s H vs Q E hr h=>?_)
  · obtain⟨_,_,_,_,_,rfl,_⟩:=h;rfl
  · obtain⟨wd,oa,op,tk,c,rfl,ho,hw,hop,k⟩:=h
    refine⟨_,((qss_cons (qs_if (qt_cmpR op_eq (qv 3) (qe_S (l:=[60]) (by decide +kernel)) (nomark _)) (qss_one (qs_ret (qe_callF F_come_to hr (by decide) (qa_cons (by exact(qe_S (l:=[111,112,101,110]) (by decide +kernel))) (by exact(qa_cons (by exact(qv 1)) (by exact(qa_cons (by exact(qe_lst qa_nil)) (by exact qa_nil))))))))) qss_nil)
      (qss_cons (qs_if (qt_cmpR op_eq (qv 3) (qe_S (l:=[38]) (by decide +kernel)) (nomark _)) (qss_one (qs_ret (qe_callF F_come_to hr (by decide) (qa_cons (by exact(qe_S (l:=[109,97,114,107]) (by decide +kernel))) (by exact(qa_cons (by exact(qv 1)) (by exact(qa_cons (by exact(qe_lst qa_nil)) (by exact qa_nil))))))))) qss_nil)
      (qss_one (qs_ret (qe_callF F_told hr (by decide) (qa_cons (qe_S (l:=[116,101,120,116]) (by decide +kernel)) (qa_cons (qv 1) (qa_cons (qv 3) qa_nil))))))))).h,?_⟩
    walk_at "rd"
    unfold aText at k
    by_cases h0:c=60
    · rw [if_pos h0] at k ⊢
      exact fun p hp=>⟨op,ho.mono (same_upd hp),[],evl0,fun v H' g a=>k v H' ((same_upd hp).trans g) (a.imp fun x e=>by subst e;exact hp)⟩
    rw [if_neg h0] at k ⊢
    by_cases h1:c=38
    · rw [if_pos h1] at k ⊢
      exact fun p hp=>⟨op,ho.mono (same_upd hp),[],evl0,fun v H' g a=>k v H' ((same_upd hp).trans g) (a.imp fun x e=>by subst e;exact hp)⟩
    rw [if_neg h1] at k ⊢
    exact⟨op,some c,rfl,ho,fun v H' g a=>k v H' g a⟩
theorem ok_at_mark (T:Txt w K mg t)(D:Df K mg "at_mark" s_at_mark ps_at_mark)(F_gathered:OkF P w K mg base 1 "gathered" ps_gathered sp_gathered)(F_mark_ended:OkF P w K mg base 3 "mark_ended" ps_mark_ended sp_mark_ended)(F_told:OkF P w K mg base 2 "told" ps_told sp_told):OkF P w K mg base 4 "at_mark" ps_at_mark sp_at_mark:=by
  refine D.ok sc_at_mark (fun vs H Q E h=>?_) (fun f cdv A outer s H vs Q E hr h=>?_)
  · obtain⟨_,_,_,_,_,rfl,_⟩:=h;rfl
  · obtain⟨wd,oa,op,tk,c,rfl,ho,hw,hop,k⟩:=h
    refine⟨_,((qss_cons (qs_if (qt_cmpR op_inS (qv 3) (qe_gl T.g_FIGURES) (by rfl)) (qss_one (qs_ret (qe_callF F_gathered hr (by decide) (qa_cons (by exact(qe_S (l:=[109,97,114,107]) (by decide +kernel))) (by exact(qa_cons (by exact(qe_op op_addS (qv 0) (qv 3))) (by exact(qa_cons (by exact(qv 1)) (by exact(qa_cons (by exact(qe_S (l:=[]) (by decide +kernel))) (by exact(qa_cons (by exact(qe_gl T.g_MARK_FIGURES)) (by exact qa_nil))))))))))))) qss_nil)
      (qss_one (qs_ret (qe_callF F_told hr (by decide) (qa_cons (by exact(qe_S (l:=[116,101,120,116]) (by decide +kernel))) (by exact(qa_cons (by exact(qv 1)) (by exact(qa_cons (by exact(qe_callF F_mark_ended hr (by decide) (qa_cons (qv 0) (qa_cons (qv 3) qa_nil)))) (by exact qa_nil))))))))))).h,?_⟩
    walk_at "rd"
    unfold aMark at k
    by_cases h0:c∈fg
    · rw [if_pos h0] at k ⊢
      exact⟨by lia,op,2,rfl,ho,by rw [List.length_append];simp;lia,fun v H' g a=>k v H' g a⟩
    rw [if_neg h0] at k ⊢
    exact⟨by lia,fun H1 g1=>⟨op,mkEnd wd c,rfl,ho.mono g1,fun v H' g a=>k v H' (g1.trans g) (a.imp fun x e=>none_of_same g1 e)⟩⟩
theorem ok_at_open (T:Txt w K mg t)(D:Df K mg "at_open" s_at_open ps_at_open)(F_come_to:OkF P w K mg base 1 "come_to" ps_come_to sp_come_to)(F_gathered:OkF P w K mg base 1 "gathered" ps_gathered sp_gathered):OkF P w K mg base 2 "at_open" ps_at_open sp_at_open:=by
  refine D.ok sc_at_open (fun vs H Q E h=>?_) (fun f cdv A outer s H vs Q E hr h=>?_)
  · obtain⟨_,_,_,_,_,rfl,_⟩:=h;rfl
  · obtain⟨wd,oa,op,tk,c,rfl,ho,hw,hop,k⟩:=h
    refine⟨_,((qss_cons (qs_if (qt_cmpR op_eq (qv 3) (qe_S (l:=[47]) (by decide +kernel)) (nomark _)) (qss_one (qs_ret (qe_callF F_come_to hr (by decide) (qa_cons (by exact(qe_S (l:=[115,104,117,116]) (by decide +kernel))) (by exact(qa_cons (by exact(qv 1)) (by exact(qa_cons (by exact(qe_lst qa_nil)) (by exact qa_nil))))))))) qss_nil)
      (qss_cons (qs_if (qt_cmpR op_inS (qv 3) (qe_gl T.g_LETTERS) (by rfl)) (qss_one (qs_ret (qe_callF F_gathered hr (by decide) (qa_cons (qe_S (l:=[110,97,109,101]) (by decide +kernel)) (qa_cons (qv 3) (qa_cons (qv 1) (qa_cons (qe_S (l:=[]) (by decide +kernel)) (qa_cons (qe_gl T.g_LONGEST_NAME) qa_nil)))))))) qss_nil)
      (qss_one (qs_ret qe_non))))).h,?_⟩
    walk_at "rd"
    unfold aOpen at k
    by_cases h0:c=47
    · rw [if_pos h0] at k ⊢
      exact fun p hp=>⟨op,ho.mono (same_upd hp),[],evl0,fun v H' g a=>k v H' ((same_upd hp).trans g) (a.imp fun x e=>by subst e;exact hp)⟩
    rw [if_neg h0] at k ⊢
    by_cases h1:c∈lt
    · rw [if_pos h1] at k ⊢
      exact⟨op,8,rfl,ho,fun v H' g a=>k v H' g a⟩
    rw [if_neg h1] at k ⊢
    exact k _ _ (Same.refl H) rfl
theorem ok_at_name (T:Txt w K mg t)(D:Df K mg "at_name" s_at_name ps_at_name)(F_gathered:OkF P w K mg base 1 "gathered" ps_gathered sp_gathered)(F_led_on:OkF P w K mg base 3 "led_on" ps_led_on sp_led_on):OkF P w K mg base 4 "at_name" ps_at_name sp_at_name:=by
  refine D.ok sc_at_name (fun vs H Q E h=>?_) (fun f cdv A outer s H vs Q E hr h=>?_)
  · obtain⟨_,_,_,_,_,rfl,_⟩:=h;rfl
  · obtain⟨wd,oa,op,tk,c,rfl,ho,hw,hop,k⟩:=h
    refine⟨_,((qss_cons (qs_if (qt_cmpR op_inS (qv 3) (qe_gl T.g_LETTERS) (by rfl)) (qss_one (qs_ret (qe_callF F_gathered hr (by decide) (qa_cons (by exact(qe_S (l:=[110,97,109,101]) (by decide +kernel))) (by exact(qa_cons (by exact(qe_op op_addS (qv 0) (qv 3))) (by exact(qa_cons (by exact(qv 1)) (by exact(qa_cons (by exact(qe_S (l:=[]) (by decide +kernel))) (by exact(qa_cons (by exact(qe_gl T.g_LONGEST_NAME)) (by exact qa_nil))))))))))))) qss_nil)
      (qss_one (qs_ret (qe_callF F_led_on hr (by decide) (qa_cons (by exact(qe_op op_catU (qv 1) (qe_tup (qa_cons (qv 0) qa_nil)))) (by exact(qa_cons (by exact(qv 3)) (by exact(qa_cons (by exact(qe_lst (qa_cons (qe_tup (qa_cons (qe_S (l:=[98,111,120]) (by decide +kernel)) (qa_cons (qv 0) qa_nil))) qa_nil))) (by exact qa_nil))))))))))).h,?_⟩
    walk_at "rd"
    unfold aName at k
    by_cases h0:c∈lt
    · rw [if_pos h0] at k ⊢
      exact⟨by lia,op,8,rfl,ho,by rw [List.length_append];simp;lia,fun v H' g a=>k v H' g a⟩
    rw [if_neg h0] at k ⊢
    intro p hp
    refine⟨_,same_upd hp _ _ ho,_,upd_same,by simp;lia,fun p1 H1 g1 hp1 p2 hp2 p3 hp3=>?_⟩
    have g0:=(same_upd (o:=.tup [.str (S wd)]) hp).trans g1
    have g2:=(same_upd (o:=.tup [.str (S eBox),.str (S wd)]) hp2).trans (same_upd (o:=.lst [.ref p2]) hp3)
    have ho2:OpV H1 p1 (op++[wd]):=by
      unfold OpV
      rw [hp1,List.map_append]
      rfl
    exact⟨op++[wd],ho2.mono g2,[[eBox,wd]],evl1 (e:=[eBox,wd]) hp3,by simp,fun v H' g a=>k v H' (g0.trans (g2.trans g)) (a.imp fun x e=>e.elim (fun e=>none_of_same g0 (none_of_upd (none_of_upd e))) fun e=>by subst e;exact none_of_same g0 (none_of_upd hp3))⟩
theorem ok_at_slash (T:Txt w K mg t)(D:Df K mg "at_slash" s_at_slash ps_at_slash)(F_box_shut:OkF P w K mg base 2 "box_shut" ps_box_shut sp_box_shut):OkF P w K mg base 3 "at_slash" ps_at_slash sp_at_slash:=by
  refine D.ok sc_at_slash (fun vs H Q E h=>?_) (fun f cdv A outer s H vs Q E hr h=>?_)
  · obtain⟨_,_,_,_,_,rfl,_⟩:=h;rfl
  · obtain⟨wd,oa,op,tk,c,rfl,ho,hw,hop,k⟩:=h
    refine⟨_,((qss_cons (qs_if (qt_cmpR op_eq (qv 3) (qe_S (l:=[62]) (by decide +kernel)) (nomark _)) (qss_one (qs_ret (qe_callF F_box_shut hr (by decide) (qa_cons (qv 1) (qa_cons (qe_lst (qa_cons (qe_tup (qa_cons (qe_S (l:=[105,110]) (by decide +kernel)) qa_nil)) qa_nil)) qa_nil))))) qss_nil)
      (qss_one (qs_ret qe_non)))).h,?_⟩
    walk_at "rd"
    unfold aSlash at k
    by_cases h0:c=62
    · rw [if_pos h0] at k ⊢
      exact fun p hp p1 hp1=>⟨op,ho.mono ((same_upd hp).trans (same_upd hp1)),[[eIn]],evl1 (e:=[eIn]) hp1,by simp,fun v H' g a=>k v H' (((same_upd hp).trans (same_upd hp1)).trans g) (a.imp fun x e=>none_of_upd (none_of_upd e))⟩
    rw [if_neg h0] at k ⊢
    exact k _ _ (Same.refl H) rfl
theorem ok_at_shut (T:Txt w K mg t)(D:Df K mg "at_shut" s_at_shut ps_at_shut)(F_gathered:OkF P w K mg base 1 "gathered" ps_gathered sp_gathered)(F_box_shut:OkF P w K mg base 2 "box_shut" ps_box_shut sp_box_shut):OkF P w K mg base 3 "at_shut" ps_at_shut sp_at_shut:=by
  refine D.ok sc_at_shut (fun vs H Q E h=>?_) (fun f cdv A outer s H vs Q E hr h=>?_)
  · obtain⟨_,_,_,_,_,rfl,_⟩:=h;rfl
  · obtain⟨wd,oa,op,tk,c,rfl,ho,hw,hop,k⟩:=h
    refine⟨_,((qss_cons (qs_if (qt_cmpR op_inS (qv 3) (qe_gl T.g_LETTERS) (by rfl)) (qss_one (qs_ret (qe_callF F_gathered hr (by decide) (qa_cons (by exact(qe_S (l:=[115,104,117,116]) (by decide +kernel))) (by exact(qa_cons (by exact(qe_op op_addS (qv 0) (qv 3))) (by exact(qa_cons (by exact(qv 1)) (by exact(qa_cons (by exact(qe_S (l:=[]) (by decide +kernel))) (by exact(qa_cons (by exact(qe_gl T.g_LONGEST_NAME)) (by exact qa_nil))))))))))))) qss_nil)
      (qss_cons (qs_if (QW.qt (qw_and (qt_cmpR op_eq (qv 3) (qe_S (l:=[62]) (by decide +kernel)) (nomark _)) (qw_and1 (qt_cmpR (op_eqSK (K:=K) (by rfl) (hu_lt hr)) (qe_slice sl_tupU (qv 1) (qo_some (qe_un un_neg qe_int)) qo_none) (qe_tup (qa_cons (qv 0) qa_nil)) (nomark _))))) (qss_one (qs_ret (qe_callF F_box_shut hr (by decide) (qa_cons (qv 1) (qa_cons (qe_lst qa_nil) qa_nil))))) qss_nil)
      (qss_one (qs_ret qe_non))))).h,?_⟩
    walk_at "rd"
    unfold aShut at k
    by_cases h0:c∈lt
    · rw [if_pos h0] at k ⊢
      exact⟨by lia,op,8,rfl,ho,by rw [List.length_append];simp;lia,fun v H' g a=>k v H' g a⟩
    rw [if_neg h0] at k ⊢
    by_cases h1:c=62
    · rw [if_pos h1]
      refine⟨_,ho,fun p H1 g1 hp p1 hp1=>⟨_,_,.inr ⟨SqT.of (same_upd hp1 _ _ hp),SqT.of upd_same⟩,by rw [cut_last];exact flat_drop (flat_txs op),rfl,?_⟩⟩
      rw [cut_last,eq_last]
      have g2:=g1.trans (same_upd (o:=.tup [.str (S wd)]) hp1)
      by_cases h2:op.getLast? = some wd
      · rw [if_pos (decide_eq_true h2)]
        rw [if_pos ⟨h1,h2⟩] at k
        exact fun p2 hp2=>⟨op,(ho.mono g2).mono (same_upd hp2),[],evl0,by simp,fun v H' g a=>k v H' (g2.trans ((same_upd hp2).trans g)) (a.imp fun x e=>none_of_same g2 (none_of_upd e))⟩
      · rw [if_neg (by simp [h2])]
        rw [if_neg (by rintro⟨_,z⟩;exact h2 z)] at k
        exact k _ _ g2 rfl
    · rw [if_neg h1]
      rw [if_neg (by rintro⟨z,_⟩;exact h1 z)] at k
      exact k _ _ (Same.refl H) rfl
theorem ok_at_gap (T:Txt w K mg t)(D:Df K mg "at_gap" s_at_gap ps_at_gap)(F_gathered:OkF P w K mg base 1 "gathered" ps_gathered sp_gathered):OkF P w K mg base 2 "at_gap" ps_at_gap sp_at_gap:=by
  refine D.ok sc_at_gap (fun vs H Q E h=>?_) (fun f cdv A outer s H vs Q E hr h=>?_)
  · obtain⟨_,_,_,_,_,rfl,_⟩:=h;rfl
  · obtain⟨wd,oa,op,tk,c,rfl,ho,hw,hop,k⟩:=h
    refine⟨_,((qss_cons (qs_if (qt_cmpR op_inS (qv 3) (qe_gl T.g_LETTERS) (by rfl)) (qss_one (qs_ret (qe_callF F_gathered hr (by decide) (qa_cons (qe_S (l:=[97,116,116,114]) (by decide +kernel)) (qa_cons (qv 3) (qa_cons (qv 1) (qa_cons (qe_S (l:=[]) (by decide +kernel)) (qa_cons (qe_gl T.g_LONGEST_NAME) qa_nil)))))))) qss_nil)
      (qss_one (qs_ret qe_non)))).h,?_⟩
    walk_at "rd"
    unfold aGap at k
    by_cases h0:c∈lt
    · rw [if_pos h0] at k ⊢
      exact⟨op,8,rfl,ho,fun v H' g a=>k v H' g a⟩
    rw [if_neg h0] at k ⊢
    exact k _ _ (Same.refl H) rfl
end
section
variable {P:Program} {w:World} {K:PySem.W.Frag} {mg:Str->Option Value} {base:Heap} {t:Ads}
theorem ok_at_attr (T:Txt w K mg t)(D:Df K mg "at_attr" s_at_attr ps_at_attr)(F_gathered:OkF P w K mg base 1 "gathered" ps_gathered sp_gathered)(F_come_to:OkF P w K mg base 1 "come_to" ps_come_to sp_come_to):OkF P w K mg base 2 "at_attr" ps_at_attr sp_at_attr:=by
  refine D.ok sc_at_attr (fun vs H Q E h=>?_) (fun f cdv A outer s H vs Q E hr h=>?_)
  · obtain⟨_,_,_,_,_,rfl,_⟩:=h;rfl
  · obtain⟨wd,oa,op,tk,c,rfl,ho,hw,hop,k⟩:=h
    refine⟨_,((qss_cons (qs_if (qt_cmpR op_inS (qv 3) (qe_gl T.g_LETTERS) (by rfl)) (qss_one (qs_ret (qe_callF F_gathered hr (by decide) (qa_cons (by exact(qe_S (l:=[97,116,116,114]) (by decide +kernel))) (by exact(qa_cons (by exact(qe_op op_addS (qv 0) (qv 3))) (by exact(qa_cons (by exact(qv 1)) (by exact(qa_cons (by exact(qe_S (l:=[]) (by decide +kernel))) (by exact(qa_cons (by exact(qe_gl T.g_LONGEST_NAME)) (by exact qa_nil))))))))))))) qss_nil)
      (qss_cons (qs_if (qt_cmpR op_eq (qv 3) (qe_S (l:=[58]) (by decide +kernel)) (nomark _)) (qss_one (qs_ret (qe_callF F_come_to hr (by decide) (qa_cons (by exact(qe_S (l:=[98,97,114,101]) (by decide +kernel))) (by exact(qa_cons (by exact(qv 1)) (by exact(qa_cons (by exact(qe_lst (qa_cons (qe_tup (qa_cons (qe_S (l:=[97,116,116,114]) (by decide +kernel)) (qa_cons (qv 0) (qa_cons (qe_S (l:=[98,97,114,101]) (by decide +kernel)) qa_nil)))) qa_nil))) (by exact qa_nil))))))))) qss_nil)
      (qss_cons (qs_if (qt_cmpR op_eq (qv 3) (qe_S (l:=[40]) (by decide +kernel)) (nomark _)) (qss_one (qs_ret (qe_callF F_come_to hr (by decide) (qa_cons (by exact(qe_S (l:=[114,111,119]) (by decide +kernel))) (by exact(qa_cons (by exact(qv 1)) (by exact(qa_cons (by exact(qe_lst (qa_cons (qe_tup (qa_cons (qe_S (l:=[97,116,116,114]) (by decide +kernel)) (qa_cons (qv 0) (qa_cons (qe_S (l:=[114,111,119]) (by decide +kernel)) qa_nil)))) qa_nil))) (by exact qa_nil))))))))) qss_nil)
      (qss_cons (qs_if (qt_cmpR op_eq (qv 3) (qe_S (l:=[61]) (by decide +kernel)) (nomark _)) (qss_one (qs_ret (qe_tup (qa_cons (qe_tup (qa_cons (qe_S (l:=[105,115]) (by decide +kernel)) (qa_cons (qv 0) (qa_cons (qv 1) (qa_cons (qe_S (l:=[]) (by decide +kernel)) qa_nil))))) (qa_cons (qe_lst qa_nil) qa_nil))))) qss_nil)
      (qss_cons (qs_if (qt_cmpR op_eq (qv 3) (qe_S (l:=[33]) (by decide +kernel)) (nomark _)) (qss_one (qs_ret (qe_tup (qa_cons (qe_tup (qa_cons (qe_S (l:=[98,97,110,103]) (by decide +kernel)) (qa_cons (qv 0) (qa_cons (qv 1) (qa_cons (qe_S (l:=[]) (by decide +kernel)) qa_nil))))) (qa_cons (qe_lst qa_nil) qa_nil))))) qss_nil)
      (qss_one (qs_ret qe_non)))))))).h,?_⟩
    walk_at "rd"
    unfold aAttr at k
    by_cases h0:c∈lt
    · rw [if_pos h0] at k ⊢
      exact⟨by lia,op,8,rfl,ho,by rw [List.length_append];simp;lia,fun v H' g a=>k v H' g a⟩
    rw [if_neg h0] at k ⊢
    by_cases h1:c=58
    · rw [if_pos h1] at k ⊢
      exact fun p hp p1 hp1=>⟨op,ho.mono ((same_upd hp).trans (same_upd hp1)),[[eAttr,wd,mBare]],evl1 (e:=[eAttr,wd,mBare]) hp1,fun v H' g a=>k v H' (((same_upd hp).trans (same_upd hp1)).trans g) (a.imp fun x e=>by subst e;exact none_of_upd hp1)⟩
    rw [if_neg h1] at k ⊢
    by_cases h2:c=40
    · rw [if_pos h2] at k ⊢
      exact fun p hp p1 hp1=>⟨op,ho.mono ((same_upd hp).trans (same_upd hp1)),[[eAttr,wd,mRow]],evl1 (e:=[eAttr,wd,mRow]) hp1,fun v H' g a=>k v H' (((same_upd hp).trans (same_upd hp1)).trans g) (a.imp fun x e=>by subst e;exact none_of_upd hp1)⟩
    rw [if_neg h2] at k ⊢
    by_cases h3:c=61
    · rw [if_pos h3] at k ⊢
      exact fun p hp p1 hp1 p2 hp2=>k _ _ ((same_upd hp).trans ((same_upd hp1).trans (same_upd hp2))) (an_up (same_upd hp1 _ _ upd_same) ((ho.mono (same_upd hp)).mono (same_upd hp1)) evl0 (none_of_upd hp1) hp2)
    rw [if_neg h3] at k ⊢
    by_cases h4:c=33
    · rw [if_pos h4] at k ⊢
      exact fun p hp p1 hp1 p2 hp2=>k _ _ ((same_upd hp).trans ((same_upd hp1).trans (same_upd hp2))) (an_up (same_upd hp1 _ _ upd_same) ((ho.mono (same_upd hp)).mono (same_upd hp1)) evl0 (none_of_upd hp1) hp2)
    rw [if_neg h4] at k ⊢
    exact k _ _ (Same.refl H) rfl
theorem ok_at_is (T:Txt w K mg t)(D:Df K mg "at_is" s_at_is ps_at_is)(F_come_to:OkF P w K mg base 1 "come_to" ps_come_to sp_come_to):OkF P w K mg base 2 "at_is" ps_at_is sp_at_is:=by
  refine D.ok sc_at_is (fun vs H Q E h=>?_) (fun f cdv A outer s H vs Q E hr h=>?_)
  · obtain⟨_,_,_,_,_,rfl,_⟩:=h;rfl
  · obtain⟨wd,oa,op,tk,c,rfl,ho,hw,hop,k⟩:=h
    refine⟨_,((qss_cons (qs_if (qt_cmpR op_eq (qv 3) (qe_S (l:=[34]) (by decide +kernel)) (nomark _)) (qss_one (qs_ret (qe_callF F_come_to hr (by decide) (qa_cons (by exact(qe_S (l:=[113,117,111,116,101,100]) (by decide +kernel))) (by exact(qa_cons (by exact(qv 1)) (by exact(qa_cons (by exact(qe_lst (qa_cons (qe_tup (qa_cons (qe_S (l:=[97,116,116,114]) (by decide +kernel)) (qa_cons (qv 0) (qa_cons (qe_S (l:=[113,117,111,116,101,100]) (by decide +kernel)) qa_nil)))) qa_nil))) (by exact qa_nil))))))))) qss_nil)
      (qss_one (qs_ret qe_non)))).h,?_⟩
    walk_at "rd"
    unfold aIs at k
    by_cases h0:c=34
    · rw [if_pos h0] at k ⊢
      exact fun p hp p1 hp1=>⟨op,ho.mono ((same_upd hp).trans (same_upd hp1)),[[eAttr,wd,mQuoted]],evl1 (e:=[eAttr,wd,mQuoted]) hp1,fun v H' g a=>k v H' (((same_upd hp).trans (same_upd hp1)).trans g) (a.imp fun x e=>by subst e;exact none_of_upd hp1)⟩
    rw [if_neg h0] at k ⊢
    exact k _ _ (Same.refl H) rfl
theorem ok_at_bang (T:Txt w K mg t)(D:Df K mg "at_bang" s_at_bang ps_at_bang):OkF P w K mg base 1 "at_bang" ps_at_bang sp_at_bang:=by
  refine D.ok sc_at_bang (fun vs H Q E h=>?_) (fun f cdv A outer s H vs Q E hr h=>?_)
  · obtain⟨_,_,_,_,_,rfl,_⟩:=h;rfl
  · obtain⟨wd,oa,op,tk,c,rfl,ho,hw,hop,k⟩:=h
    refine⟨_,((qss_cons (qs_if (qt_cmpR op_eq (qv 3) (qe_S (l:=[34]) (by decide +kernel)) (nomark _)) (qss_one (qs_ret (qe_tup (qa_cons (qe_tup (qa_cons (qe_S (l:=[116,97,108,107]) (by decide +kernel)) (qa_cons (qe_S (l:=[]) (by decide +kernel)) (qa_cons (qv 1) (qa_cons (qe_S (l:=[98,101,116,119,101,101,110]) (by decide +kernel)) qa_nil))))) (qa_cons (qe_lst (qa_cons (qe_tup (qa_cons (qe_S (l:=[97,116,116,114]) (by decide +kernel)) (qa_cons (qv 0) (qa_cons (qe_S (l:=[116,97,108,107]) (by decide +kernel)) qa_nil)))) qa_nil)) qa_nil))))) qss_nil)
      (qss_one (qs_ret qe_non)))).h,?_⟩
    walk_at "rd"
    unfold aBang at k
    by_cases h0:c=34
    · rw [if_pos h0] at k ⊢
      exact fun p hp p1 hp1 p2 hp2 p3 hp3=>k _ _ ((same_upd hp).trans ((same_upd hp1).trans ((same_upd hp2).trans (same_upd hp3)))) (an_up (same_upd hp2 _ _ (same_upd hp1 _ _ upd_same)) (((ho.mono (same_upd hp)).mono (same_upd hp1)).mono (same_upd hp2)) (evl1 (e:=[eAttr,wd,mTalk]) hp2) (none_of_upd (none_of_upd hp2)) hp3)
    rw [if_neg h0] at k ⊢
    exact k _ _ (Same.refl H) rfl
theorem ok_at_bare (T:Txt w K mg t)(D:Df K mg "at_bare" s_at_bare ps_at_bare)(F_told:OkF P w K mg base 2 "told" ps_told sp_told)(F_come_to:OkF P w K mg base 1 "come_to" ps_come_to sp_come_to)(F_led_on:OkF P w K mg base 3 "led_on" ps_led_on sp_led_on):OkF P w K mg base 4 "at_bare" ps_at_bare sp_at_bare:=by
  refine D.ok sc_at_bare (fun vs H Q E h=>?_) (fun f cdv A outer s H vs Q E hr h=>?_)
  · obtain⟨_,_,_,_,_,rfl,_⟩:=h;rfl
  · obtain⟨wd,oa,op,tk,c,rfl,ho,hw,hop,k⟩:=h
    refine⟨_,((qss_cons (qs_if (qt_cmpR op_inS (qv 3) (qe_gl T.g_WORDSIGNS) (by rfl)) (qss_one (qs_ret (qe_callF F_told hr (by decide) (qa_cons (qe_S (l:=[98,97,114,101]) (by decide +kernel)) (qa_cons (qv 1) (qa_cons (qv 3) qa_nil)))))) qss_nil)
      (qss_cons (qs_if (qt_cmpR op_eq (qv 3) (qe_S (l:=[126]) (by decide +kernel)) (nomark _)) (qss_one (qs_ret (qe_callF F_come_to hr (by decide) (qa_cons (by exact(qe_S (l:=[99,111,100,101]) (by decide +kernel))) (by exact(qa_cons (by exact(qv 1)) (by exact(qa_cons (by exact(qe_lst qa_nil)) (by exact qa_nil))))))))) qss_nil)
      (qss_one (qs_ret (qe_callF F_led_on hr (by decide) (qa_cons (by exact(qv 1)) (by exact(qa_cons (by exact(qv 3)) (by exact(qa_cons (by exact(qe_lst qa_nil)) (by exact qa_nil)))))))))))).h,?_⟩
    walk_at "rd"
    unfold aBare at k
    by_cases h0:c∈ws
    · rw [if_pos h0] at k ⊢
      exact⟨op,some c,rfl,ho,fun v H' g a=>k v H' g a⟩
    rw [if_neg h0] at k ⊢
    by_cases h1:c=126
    · rw [if_pos h1] at k ⊢
      exact fun p hp=>⟨op,ho.mono (same_upd hp),[],evl0,fun v H' g a=>k v H' ((same_upd hp).trans g) (a.imp fun x e=>by subst e;exact hp)⟩
    rw [if_neg h1] at k ⊢
    exact fun p hp=>⟨op,ho.mono (same_upd hp),[],evl0,by simp,fun v H' g a=>k v H' ((same_upd hp).trans g) (a.imp fun x e=>e.elim none_of_upd fun e=>by subst e;exact hp)⟩
theorem ok_at_code (T:Txt w K mg t)(D:Df K mg "at_code" s_at_code ps_at_code)(F_told:OkF P w K mg base 2 "told" ps_told sp_told)(F_sign_told:OkF P w K mg base 2 "sign_told" ps_sign_told sp_sign_told):OkF P w K mg base 3 "at_code" ps_at_code sp_at_code:=by
  refine D.ok sc_at_code (fun vs H Q E h=>?_) (fun f cdv A outer s H vs Q E hr h=>?_)
  · obtain⟨_,_,_,_,_,rfl,_⟩:=h;rfl
  · obtain⟨wd,oa,op,tk,c,rfl,ho,hw,hop,k⟩:=h
    refine⟨_,((qss_cons (qs_if (qt_cmpR op_eq (qv 0) (qe_S (l:=[]) (by decide +kernel)) (nomark _)) (qss_one (qs_ret (qe_ifExp (qt_cmpR op_inS (qv 3) (qe_gl T.g_FIGURES) (by rfl)) (qe_tup (qa_cons (qe_tup (qa_cons (qe_S (l:=[99,111,100,101]) (by decide +kernel)) (qa_cons (qv 3) (qa_cons (qv 1) (qa_cons (qe_S (l:=[]) (by decide +kernel)) qa_nil))))) (qa_cons (qe_lst qa_nil) qa_nil))) qe_non))) qss_nil)
      (qss_one (qs_ret (qe_callF F_told hr (by decide) (qa_cons (by exact(qe_S (l:=[98,97,114,101]) (by decide +kernel))) (by exact(qa_cons (by exact(qv 1)) (by exact(qa_cons (by exact(qe_callF F_sign_told hr (by decide) (qa_cons (qe_op op_addS (qv 0) (qv 3)) qa_nil))) (by exact qa_nil))))))))))).h,?_⟩
    walk_at "rd"
    unfold aCode at k
    by_cases h0:wd=[]
    · rw [if_pos h0] at k ⊢
      by_cases h5:c∈fg
      · rw [if_pos h5] at k ⊢
        exact fun p hp p1 hp1 p2 hp2=>k _ _ ((same_upd hp).trans ((same_upd hp1).trans (same_upd hp2))) (an_up (same_upd hp1 _ _ upd_same) ((ho.mono (same_upd hp)).mono (same_upd hp1)) evl0 (none_of_upd hp1) hp2)
      · rw [if_neg h5] at k ⊢
        exact k _ _ (Same.refl H) rfl
    rw [if_neg h0] at k ⊢
    exact⟨by lia,by rw [List.length_append];simp;lia,fun H1 g1=>⟨op,L2.told (wd++[c]),rfl,ho.mono g1,fun v H' g a=>k v H' (g1.trans g) (a.imp fun x e=>none_of_same g1 e)⟩⟩
theorem ok_at_row (T:Txt w K mg t)(D:Df K mg "at_row" s_at_row ps_at_row)(F_come_to:OkF P w K mg base 1 "come_to" ps_come_to sp_come_to)(F_told:OkF P w K mg base 2 "told" ps_told sp_told):OkF P w K mg base 3 "at_row" ps_at_row sp_at_row:=by
  refine D.ok sc_at_row (fun vs H Q E h=>?_) (fun f cdv A outer s H vs Q E hr h=>?_)
  · obtain⟨_,_,_,_,_,rfl,_⟩:=h;rfl
  · obtain⟨wd,oa,op,tk,c,rfl,ho,hw,hop,k⟩:=h
    refine⟨_,((qss_cons (qs_if (qt_cmpR op_eq (qv 3) (qe_S (l:=[92]) (by decide +kernel)) (nomark _)) (qss_one (qs_ret (qe_callF F_come_to hr (by decide) (qa_cons (by exact(qe_S (l:=[115,116,114,111,107,101]) (by decide +kernel))) (by exact(qa_cons (by exact(qv 1)) (by exact(qa_cons (by exact(qe_lst qa_nil)) (by exact qa_nil))))))))) qss_nil)
      (qss_cons (qs_if (qt_cmpR op_eq (qv 3) (qe_S (l:=[44]) (by decide +kernel)) (nomark _)) (qss_one (qs_ret (qe_callF F_come_to hr (by decide) (qa_cons (by exact(qe_S (l:=[114,111,119]) (by decide +kernel))) (by exact(qa_cons (by exact(qv 1)) (by exact(qa_cons (by exact(qe_lst (qa_cons (qe_tup (qa_cons (qe_S (l:=[110,101,120,116]) (by decide +kernel)) qa_nil)) qa_nil))) (by exact qa_nil))))))))) qss_nil)
      (qss_cons (qs_if (qt_cmpR op_eq (qv 3) (qe_S (l:=[41]) (by decide +kernel)) (nomark _)) (qss_one (qs_ret (qe_callF F_come_to hr (by decide) (qa_cons (by exact(qe_S (l:=[100,111,110,101]) (by decide +kernel))) (by exact(qa_cons (by exact(qv 1)) (by exact(qa_cons (by exact(qe_lst qa_nil)) (by exact qa_nil))))))))) qss_nil)
      (qss_one (qs_ret (qe_callF F_told hr (by decide) (qa_cons (qe_S (l:=[114,111,119]) (by decide +kernel)) (qa_cons (qv 1) (qa_cons (qv 3) qa_nil)))))))))).h,?_⟩
    walk_at "rd"
    unfold aRow at k
    by_cases h0:c=92
    · rw [if_pos h0] at k ⊢
      exact fun p hp=>⟨op,ho.mono (same_upd hp),[],evl0,fun v H' g a=>k v H' ((same_upd hp).trans g) (a.imp fun x e=>by subst e;exact hp)⟩
    rw [if_neg h0] at k ⊢
    by_cases h1:c=44
    · rw [if_pos h1] at k ⊢
      exact fun p hp p1 hp1=>⟨op,ho.mono ((same_upd hp).trans (same_upd hp1)),[[eNext]],evl1 (e:=[eNext]) hp1,fun v H' g a=>k v H' (((same_upd hp).trans (same_upd hp1)).trans g) (a.imp fun x e=>by subst e;exact none_of_upd hp1)⟩
    rw [if_neg h1] at k ⊢
    by_cases h2:c=41
    · rw [if_pos h2] at k ⊢
      exact fun p hp=>⟨op,ho.mono (same_upd hp),[],evl0,fun v H' g a=>k v H' ((same_upd hp).trans g) (a.imp fun x e=>by subst e;exact hp)⟩
    rw [if_neg h2] at k ⊢
    exact⟨op,some c,rfl,ho,fun v H' g a=>k v H' g a⟩
theorem ok_at_stroke (T:Txt w K mg t)(D:Df K mg "at_stroke" s_at_stroke ps_at_stroke)(F_told:OkF P w K mg base 2 "told" ps_told sp_told):OkF P w K mg base 3 "at_stroke" ps_at_stroke sp_at_stroke:=by
  refine D.ok sc_at_stroke (fun vs H Q E h=>?_) (fun f cdv A outer s H vs Q E hr h=>?_)
  · obtain⟨_,_,_,_,_,rfl,_⟩:=h;rfl
  · obtain⟨wd,oa,op,tk,c,rfl,ho,hw,hop,k⟩:=h
    refine⟨_,((qss_one (qs_ret (qe_callF F_told hr (by decide) (qa_cons (qe_S (l:=[114,111,119]) (by decide +kernel)) (qa_cons (qv 1) (qa_cons (qv 3) qa_nil))))))).h,?_⟩
    walk_at "rd"
    unfold aStroke at k
    exact⟨op,some c,rfl,ho,fun v H' g a=>k v H' g a⟩
theorem ok_at_quoted (T:Txt w K mg t)(D:Df K mg "at_quoted" s_at_quoted ps_at_quoted)(F_come_to:OkF P w K mg base 1 "come_to" ps_come_to sp_come_to)(F_told:OkF P w K mg base 2 "told" ps_told sp_told):OkF P w K mg base 3 "at_quoted" ps_at_quoted sp_at_quoted:=by
  refine D.ok sc_at_quoted (fun vs H Q E h=>?_) (fun f cdv A outer s H vs Q E hr h=>?_)
  · obtain⟨_,_,_,_,_,rfl,_⟩:=h;rfl
  · obtain⟨wd,oa,op,tk,c,rfl,ho,hw,hop,k⟩:=h
    refine⟨_,((qss_cons (qs_if (qt_cmpR op_eq (qv 3) (qe_S (l:=[34]) (by decide +kernel)) (nomark _)) (qss_one (qs_ret (qe_callF F_come_to hr (by decide) (qa_cons (by exact(qe_S (l:=[100,111,110,101]) (by decide +kernel))) (by exact(qa_cons (by exact(qv 1)) (by exact(qa_cons (by exact(qe_lst qa_nil)) (by exact qa_nil))))))))) qss_nil)
      (qss_cons (qs_if (qt_cmpR op_eq (qv 3) (qe_S (l:=[38]) (by decide +kernel)) (nomark _)) (qss_one (qs_ret (qe_callF F_come_to hr (by decide) (qa_cons (by exact(qe_S (l:=[113,109,97,114,107]) (by decide +kernel))) (by exact(qa_cons (by exact(qv 1)) (by exact(qa_cons (by exact(qe_lst qa_nil)) (by exact qa_nil))))))))) qss_nil)
      (qss_one (qs_ret (qe_callF F_told hr (by decide) (qa_cons (qe_S (l:=[113,117,111,116,101,100]) (by decide +kernel)) (qa_cons (qv 1) (qa_cons (qv 3) qa_nil))))))))).h,?_⟩
    walk_at "rd"
    unfold aQuoted at k
    by_cases h0:c=34
    · rw [if_pos h0] at k ⊢
      exact fun p hp=>⟨op,ho.mono (same_upd hp),[],evl0,fun v H' g a=>k v H' ((same_upd hp).trans g) (a.imp fun x e=>by subst e;exact hp)⟩
    rw [if_neg h0] at k ⊢
    by_cases h1:c=38
    · rw [if_pos h1] at k ⊢
      exact fun p hp=>⟨op,ho.mono (same_upd hp),[],evl0,fun v H' g a=>k v H' ((same_upd hp).trans g) (a.imp fun x e=>by subst e;exact hp)⟩
    rw [if_neg h1] at k ⊢
    exact⟨op,some c,rfl,ho,fun v H' g a=>k v H' g a⟩
theorem ok_at_qmark (T:Txt w K mg t)(D:Df K mg "at_qmark" s_at_qmark ps_at_qmark)(F_gathered:OkF P w K mg base 1 "gathered" ps_gathered sp_gathered)(F_mark_ended:OkF P w K mg base 3 "mark_ended" ps_mark_ended sp_mark_ended)(F_told:OkF P w K mg base 2 "told" ps_told sp_told):OkF P w K mg base 4 "at_qmark" ps_at_qmark sp_at_qmark:=by
  refine D.ok sc_at_qmark (fun vs H Q E h=>?_) (fun f cdv A outer s H vs Q E hr h=>?_)
  · obtain⟨_,_,_,_,_,rfl,_⟩:=h;rfl
  · obtain⟨wd,oa,op,tk,c,rfl,ho,hw,hop,k⟩:=h
    refine⟨_,((qss_cons (qs_if (qt_cmpR op_inS (qv 3) (qe_gl T.g_FIGURES) (by rfl)) (qss_one (qs_ret (qe_callF F_gathered hr (by decide) (qa_cons (by exact(qe_S (l:=[113,109,97,114,107]) (by decide +kernel))) (by exact(qa_cons (by exact(qe_op op_addS (qv 0) (qv 3))) (by exact(qa_cons (by exact(qv 1)) (by exact(qa_cons (by exact(qe_S (l:=[]) (by decide +kernel))) (by exact(qa_cons (by exact(qe_gl T.g_MARK_FIGURES)) (by exact qa_nil))))))))))))) qss_nil)
      (qss_one (qs_ret (qe_callF F_told hr (by decide) (qa_cons (by exact(qe_S (l:=[113,117,111,116,101,100]) (by decide +kernel))) (by exact(qa_cons (by exact(qv 1)) (by exact(qa_cons (by exact(qe_callF F_mark_ended hr (by decide) (qa_cons (qv 0) (qa_cons (qv 3) qa_nil)))) (by exact qa_nil))))))))))).h,?_⟩
    walk_at "rd"
    unfold aQmark at k
    by_cases h0:c∈fg
    · rw [if_pos h0] at k ⊢
      exact⟨by lia,op,2,rfl,ho,by rw [List.length_append];simp;lia,fun v H' g a=>k v H' g a⟩
    rw [if_neg h0] at k ⊢
    exact⟨by lia,fun H1 g1=>⟨op,mkEnd wd c,rfl,ho.mono g1,fun v H' g a=>k v H' (g1.trans g) (a.imp fun x e=>none_of_same g1 e)⟩⟩
theorem ok_at_done (T:Txt w K mg t)(D:Df K mg "at_done" s_at_done ps_at_done)(F_led_on:OkF P w K mg base 3 "led_on" ps_led_on sp_led_on):OkF P w K mg base 4 "at_done" ps_at_done sp_at_done:=by
  refine D.ok sc_at_done (fun vs H Q E h=>?_) (fun f cdv A outer s H vs Q E hr h=>?_)
  · obtain⟨_,_,_,_,_,rfl,_⟩:=h;rfl
  · obtain⟨wd,oa,op,tk,c,rfl,ho,hw,hop,k⟩:=h
    refine⟨_,((qss_one (qs_ret (qe_callF F_led_on hr (by decide) (qa_cons (by exact(qv 1)) (by exact(qa_cons (by exact(qv 3)) (by exact(qa_cons (by exact(qe_lst qa_nil)) (by exact qa_nil)))))))))).h,?_⟩
    walk_at "rd"
    unfold aDone at k
    exact fun p hp=>⟨op,ho.mono (same_upd hp),[],evl0,by simp,fun v H' g a=>k v H' ((same_upd hp).trans g) (a.imp fun x e=>e.elim none_of_upd fun e=>by subst e;exact hp)⟩
end
section
variable {P:Program} {w:World} {K:PySem.W.Frag} {mg:Str->Option Value} {base:Heap} {t:Ads}
theorem ok_at_talk (T:Txt w K mg t)(D:Df K mg "at_talk" s_at_talk ps_at_talk)(F_come_to:OkF P w K mg base 1 "come_to" ps_come_to sp_come_to)(F_fed:OkF P w K mg base 4 "fed" ps_fed sp_fed):OkF P w K mg base 5 "at_talk" ps_at_talk sp_at_talk:=by
  refine D.ok sc_at_talk (fun vs H Q E h=>?_) (fun f cdv A outer s H vs Q E hr h=>?_)
  · obtain⟨_,_,_,_,_,rfl,_⟩:=h;rfl
  · obtain⟨wd,oa,op,tk,c,rfl,ho,hw,hop,k⟩:=h
    refine⟨_,((qss_cons (qs_if (qt_cmpR op_eq (qv 3) (qe_S (l:=[38]) (by decide +kernel)) (nomark _)) (qss_one (qs_ret (qe_tup (qa_cons (qe_tup (qa_cons (qe_S (l:=[116,109,97,114,107]) (by decide +kernel)) (qa_cons (qe_S (l:=[]) (by decide +kernel)) (qa_cons (qv 1) (qa_cons (qv 2) qa_nil))))) (qa_cons (qe_lst qa_nil) qa_nil))))) qss_nil)
      (qss_cons (qs_if (qt_cmpR op_eq (qv 3) (qe_S (l:=[34]) (by decide +kernel)) (nomark _)) (qss_one (qs_ret (qe_ifExp (qt_cmpR (op_inQK (K:=K) (by rfl)) (qv 2) (qe_tup (qa_cons (qe_S (l:=[98,101,116,119,101,101,110]) (by decide +kernel)) (qa_cons (qe_S (l:=[119,111,114,100]) (by decide +kernel)) qa_nil))) (by rfl)) (qe_callF F_come_to hr (by decide) (qa_cons (by exact(qe_S (l:=[100,111,110,101]) (by decide +kernel))) (by exact(qa_cons (by exact(qv 1)) (by exact(qa_cons (by exact(qe_lst qa_nil)) (by exact qa_nil))))))) qe_non))) qss_nil)
      (qss_one (qs_ret (qe_callF F_fed hr (by decide) (qa_cons (qv 1) (qa_cons (qv 2) (qa_cons (qv 3) qa_nil))))))))).h,?_⟩
    walk_at "rd"
    unfold aTalk at k
    by_cases h0:c=38
    · rw [if_pos h0] at k ⊢
      exact fun p hp p1 hp1 p2 hp2=>k _ _ ((same_upd hp).trans ((same_upd hp1).trans (same_upd hp2))) (an_up (same_upd hp1 _ _ upd_same) ((ho.mono (same_upd hp)).mono (same_upd hp1)) evl0 (none_of_upd hp1) hp2)
    rw [if_neg h0] at k ⊢
    by_cases h1:c=34
    · rw [if_pos h1] at k ⊢
      intro p hp
      refine⟨_,.inr (SqT.of upd_same),rfl,rfl,?_⟩
      have e:=inV_txs tk [tBetween,tWord]
      rw [show([tBetween,tWord].map fun x=>V.str (S x))=[V.str (S [98,101,116,119,101,101,110]),V.str (S [119,111,114,100])] from rfl] at e
      rw [e]
      have g0:=same_upd (o:=.tup [V.str (S [98,101,116,119,101,101,110]),V.str (S [119,111,114,100])]) hp
      by_cases h5:tk=tBetween\/tk=tWord
      · rw [if_pos h5] at k
        rw [if_pos (by simpa using h5)]
        exact fun p1 hp1=>⟨op,(ho.mono g0).mono (same_upd hp1),[],evl0,fun v H' g a=>k v H' (g0.trans ((same_upd hp1).trans g)) (a.imp fun x e=>by subst e;exact none_of_upd hp1)⟩
      · rw [if_neg h5] at k
        rw [if_neg (by simpa using h5)]
        exact k _ _ g0 rfl
    rw [if_neg h1] at k ⊢
    exact⟨op,some c,rfl,ho,fun v H' g a=>k v H' g a⟩
theorem ok_at_tmark (T:Txt w K mg t)(D:Df K mg "at_tmark" s_at_tmark ps_at_tmark)(F_gathered:OkF P w K mg base 1 "gathered" ps_gathered sp_gathered)(F_mark_ended:OkF P w K mg base 3 "mark_ended" ps_mark_ended sp_mark_ended)(F_fed:OkF P w K mg base 4 "fed" ps_fed sp_fed):OkF P w K mg base 5 "at_tmark" ps_at_tmark sp_at_tmark:=by
  refine D.ok sc_at_tmark (fun vs H Q E h=>?_) (fun f cdv A outer s H vs Q E hr h=>?_)
  · obtain⟨_,_,_,_,_,rfl,_⟩:=h;rfl
  · obtain⟨wd,oa,op,tk,c,rfl,ho,hw,hop,k⟩:=h
    refine⟨_,((qss_cons (qs_if (qt_cmpR op_inS (qv 3) (qe_gl T.g_FIGURES) (by rfl)) (qss_one (qs_ret (qe_callF F_gathered hr (by decide) (qa_cons (by exact(qe_S (l:=[116,109,97,114,107]) (by decide +kernel))) (by exact(qa_cons (by exact(qe_op op_addS (qv 0) (qv 3))) (by exact(qa_cons (by exact(qv 1)) (by exact(qa_cons (by exact(qv 2)) (by exact(qa_cons (by exact(qe_gl T.g_MARK_FIGURES)) (by exact qa_nil))))))))))))) qss_nil)
      (qss_one (qs_ret (qe_callF F_fed hr (by decide) (qa_cons (by exact(qv 1)) (by exact(qa_cons (by exact(qv 2)) (by exact(qa_cons (by exact(qe_callF F_mark_ended hr (by decide) (qa_cons (qv 0) (qa_cons (qv 3) qa_nil)))) (by exact qa_nil))))))))))).h,?_⟩
    walk_at "rd"
    unfold aTmark at k
    by_cases h0:c∈fg
    · rw [if_pos h0] at k ⊢
      exact⟨by lia,op,2,rfl,ho,by rw [List.length_append];simp;lia,fun v H' g a=>k v H' g a⟩
    rw [if_neg h0] at k ⊢
    exact⟨by lia,fun H1 g1=>⟨op,mkEnd wd c,rfl,ho.mono g1,fun v H' g a=>k v H' (g1.trans g) (a.imp fun x e=>none_of_same g1 e)⟩⟩
theorem ok_at_asis (T:Txt w K mg t)(D:Df K mg "at_asis" s_at_asis ps_at_asis)(F_box_shut:OkF P w K mg base 2 "box_shut" ps_box_shut sp_box_shut)(F_come_to:OkF P w K mg base 1 "come_to" ps_come_to sp_come_to):OkF P w K mg base 3 "at_asis" ps_at_asis sp_at_asis:=by
  refine D.ok sc_at_asis (fun vs H Q E h=>?_) (fun f cdv A outer s H vs Q E hr h=>?_)
  · obtain⟨_,_,_,_,_,rfl,_⟩:=h;rfl
  · obtain⟨wd,oa,op,tk,c,rfl,ho,hw,hop,k⟩:=h
    refine⟨_,((qss_cons (qs_set (i:=4) sc_at_asis.nd (by rfl) (Or.inl (by rfl)) (qe_op op_addS (qv 0) (qv 3)))
      (qss_cons (qs_if (qt_cmpR op_eq (qv 4) (qe_gl T.g_ASIS_END) (nomark _)) (qss_one (qs_ret (qe_callF F_box_shut hr (by decide) (qa_cons (qv 1) (qa_cons (qe_lst qa_nil) qa_nil))))) qss_nil)
      (qss_cons (qs_if (qt_val (qe_bmK (K:=K) (by rfl) PySem.F.plainAttrs_str PySem.F.slot_str_startswith PySem.F.type_str_startswith mt_startswithS (qe_gl T.g_ASIS_END) (qa_cons (qv 4) qa_nil))) (qss_one (qs_ret (qe_tup (qa_cons (qe_tup (qa_cons (qe_S (l:=[97,115,105,115]) (by decide +kernel)) (qa_cons (qv 4) (qa_cons (qv 1) (qa_cons (qe_S (l:=[]) (by decide +kernel)) qa_nil))))) (qa_cons (qe_lst qa_nil) qa_nil))))) qss_nil)
      (qss_cons ⟨ps_setLC (i:=5) sc_at_asis.nd rfl (Or.inl rfl) (lcs (N:=N_at_asis) (sc:=defScope s_at_asis) rfl rfl rfl (by decide +kernel)) ((qi_str (qv 0))).h (fun _ _ _ _ _=>qts_nil.h) (fun _ _ _ _ _=>((qe_tup (qa_cons (qe_S (l:=[115,105,103,110]) (by decide +kernel)) (qa_cons (qv 0) qa_nil)))).h)⟩
      (qss_cons (qs_if (qt_cmpR op_eq (qv 3) (qe_S (l:=[60]) (by decide +kernel)) (nomark _)) (qss_one (qs_ret (qe_tup (qa_cons (qe_tup (qa_cons (qe_S (l:=[97,115,105,115]) (by decide +kernel)) (qa_cons (qv 3) (qa_cons (qv 1) (qa_cons (qe_S (l:=[]) (by decide +kernel)) qa_nil))))) (qa_cons (qv 5) qa_nil))))) qss_nil)
      (qss_one (qs_ret (qe_callF F_come_to hr (by decide) (qa_cons (by exact(qe_S (l:=[97,115,105,115]) (by decide +kernel))) (by exact(qa_cons (by exact(qv 1)) (by exact(qa_cons (by exact(qe_op op_cat (qv 5) (qe_lst (qa_cons (qe_tup (qa_cons (qe_S (l:=[115,105,103,110]) (by decide +kernel)) (qa_cons (qv 3) qa_nil))) qa_nil)))) (by exact qa_nil))))))))))))))).h,?_⟩
    walk_at "rd"
    unfold aAsis at k
    refine⟨by lia,?_⟩
    by_cases h1:wd++[c]=asisEnd
    · rw [if_pos h1] at k ⊢
      exact fun p hp=>⟨op,ho.mono (same_upd hp),[],evl0,by simp,fun v H' g a=>k v H' ((same_upd hp).trans g) (a.imp fun x e=>none_of_upd e)⟩
    rw [if_neg h1] at k ⊢
    by_cases h2:(wd++[c]).isPrefixOf asisEnd=true
    · rw [if_pos h2] at k ⊢
      exact fun p hp p1 hp1 p2 hp2=>k _ _ ((same_upd hp).trans ((same_upd hp1).trans (same_upd hp2))) (an_up (same_upd hp1 _ _ upd_same) ((ho.mono (same_upd hp)).mono (same_upd hp1)) evl0 (none_of_upd hp1) hp2)
    rw [if_neg h2] at k ⊢
    refine lc_strG (fun c v H=>EvV H v [eSign,[c]]) (fun c v H1 H2 h g=>h.mono g) (fun c v H1 D xs ys h hD=>?_) (by rw [PySem.sizeLine_eq];lia) (fun c _ H1 g R r=>?_) (fun D H2 ys hD g2 hy hG hD2=>?_)
    · obtain⟨a,e1,e2⟩:=h
      exact⟨a,e1,by rw [upd_ne (ne_of e2 hD (by intro z;cases z))];exact e2⟩
    · walk_at "rd"
      exact fun p hp=>r _ _ (same_upd hp) ⟨p,rfl,upd_same⟩
    have he:EvA H2 ys (wd.map fun k=>[eSign,[k]]):=evA_of hy hG
    have hel:EvL H2 D (wd.map fun k=>[eSign,[k]]):=⟨ys,hD2,he⟩
    by_cases h3:c=60
    · rw [if_pos h3] at k ⊢
      exact fun p hp p1 hp1=>k _ _ (g2.trans ((same_upd hp).trans (same_upd hp1))) (an_up upd_same ((ho.mono g2).mono (same_upd hp)) (hel.mono (same_upd hp)) hD hp1)
    rw [if_neg h3] at k ⊢
    intro p hp p1 hp1
    have g3:=(same_upd (o:=.tup [.str (S eSign),.str (S [c])]) hp).trans (same_upd (o:=.lst [.ref p]) hp1)
    refine⟨D,rfl,ys,g3 _ _ hD2,_,upd_same,by rw [hy];simp;lia,fun p2 hp2=>?_⟩
    have g4:=g3.trans (same_upd (o:=.lst (ys++[.ref p])) hp2)
    exact⟨op,(ho.mono g2).mono g4,_,⟨_,upd_same,(he.mono g4).app (.cons ⟨p,rfl,same_upd hp2 _ _ (same_upd hp1 _ _ upd_same)⟩ .nil)⟩,fun v H' g a=>k v H' (g2.trans (g4.trans g)) (a.imp fun x e=>by subst e;exact none_of_same g2 (none_of_upd (none_of_upd hp2)))⟩
end
section
variable {P:Program} {w:World} {K:PySem.W.Frag} {mg:Str->Option Value} {base:Heap} {t:Ads}
theorem ok_moved (T:Txt w K mg t)(D:Df K mg "moved" s_moved ps_moved)(F_at_text:OkF P w K mg base 3 "at_text" ps_at_text sp_at_text)(F_at_mark:OkF P w K mg base 4 "at_mark" ps_at_mark sp_at_mark)(F_at_open:OkF P w K mg base 2 "at_open" ps_at_open sp_at_open)(F_at_name:OkF P w K mg base 4 "at_name" ps_at_name sp_at_name)(F_at_slash:OkF P w K mg base 3 "at_slash" ps_at_slash sp_at_slash)(F_at_shut:OkF P w K mg base 3 "at_shut" ps_at_shut sp_at_shut)(F_at_gap:OkF P w K mg base 2 "at_gap" ps_at_gap sp_at_gap)(F_at_attr:OkF P w K mg base 2 "at_attr" ps_at_attr sp_at_attr)(F_at_is:OkF P w K mg base 2 "at_is" ps_at_is sp_at_is)(F_at_bang:OkF P w K mg base 1 "at_bang" ps_at_bang sp_at_bang)(F_at_bare:OkF P w K mg base 4 "at_bare" ps_at_bare sp_at_bare)(F_at_code:OkF P w K mg base 3 "at_code" ps_at_code sp_at_code)(F_at_row:OkF P w K mg base 3 "at_row" ps_at_row sp_at_row)(F_at_stroke:OkF P w K mg base 3 "at_stroke" ps_at_stroke sp_at_stroke)(F_at_quoted:OkF P w K mg base 3 "at_quoted" ps_at_quoted sp_at_quoted)(F_at_qmark:OkF P w K mg base 4 "at_qmark" ps_at_qmark sp_at_qmark)(F_at_done:OkF P w K mg base 4 "at_done" ps_at_done sp_at_done)(F_at_talk:OkF P w K mg base 5 "at_talk" ps_at_talk sp_at_talk)(F_at_tmark:OkF P w K mg base 5 "at_tmark" ps_at_tmark sp_at_tmark)(F_at_asis:OkF P w K mg base 3 "at_asis" ps_at_asis sp_at_asis):OkF P w K mg base 6 "moved" ps_moved sp_moved:=by
  refine D.ok sc_moved (fun vs H Q E h=>?_) (fun f cdv A outer s H vs Q E hr h=>?_)
  · obtain⟨_,_,_,rfl,_⟩:=h;rfl
  · obtain⟨x,st,c,rfl,hst,hw,hop,k⟩:=h
    refine⟨_,((qss_cons (qs_set (i:=2) sc_moved.nd (by rfl) (Or.inl (by rfl)) (qe_kget T.d_MODES (qe_ix (ix_tupK (K:=K) (by rfl)) (qv 0) qe_int (fun _ _=>(by rfl)))))
      (qss_one (qs_ret (qe_ifExp (qt_cmpR op_isN (qv 2) qe_non (nomark _)) qe_non (qe_callV (k:=5) (qv 2) hr (by decide) (qa_cons (by exact(qe_ix (ix_tupK (K:=K) (by rfl)) (qv 0) qe_int (fun _ _=>(by rfl)))) (by exact(qa_cons (by exact(qe_ix (ix_tupK (K:=K) (by rfl)) (qv 0) qe_int (fun _ _=>(by rfl)))) (by exact(qa_cons (by exact(qe_ix (ix_tupK (K:=K) (by rfl)) (qv 0) qe_int (fun _ _=>(by rfl)))) (by exact(qa_cons (by exact(qv 1)) (by exact qa_nil)))))))))))))).h,?_⟩
    walk_at "rd"
    obtain⟨p,o,rfl,hp,ho⟩:=hst
    have hF:∀ e∈tab2 t,FnV P w K mg base 5 e.2.2 (spA e.2.1):=by
      intro e he
      simp only [tab2,List.mem_cons,List.not_mem_nil,or_false] at he
      rcases he with rfl | rfl | rfl | rfl | rfl | rfl | rfl | rfl | rfl | rfl | rfl | rfl | rfl | rfl | rfl | rfl | rfl | rfl | rfl | rfl
      · exact F_at_text.fnv T.m_at_text (by decide)
      · exact F_at_mark.fnv T.m_at_mark (by decide)
      · exact F_at_open.fnv T.m_at_open (by decide)
      · exact F_at_name.fnv T.m_at_name (by decide)
      · exact F_at_slash.fnv T.m_at_slash (by decide)
      · exact F_at_shut.fnv T.m_at_shut (by decide)
      · exact F_at_gap.fnv T.m_at_gap (by decide)
      · exact F_at_attr.fnv T.m_at_attr (by decide)
      · exact F_at_is.fnv T.m_at_is (by decide)
      · exact F_at_bang.fnv T.m_at_bang (by decide)
      · exact F_at_bare.fnv T.m_at_bare (by decide)
      · exact F_at_code.fnv T.m_at_code (by decide)
      · exact F_at_row.fnv T.m_at_row (by decide)
      · exact F_at_stroke.fnv T.m_at_stroke (by decide)
      · exact F_at_quoted.fnv T.m_at_quoted (by decide)
      · exact F_at_qmark.fnv T.m_at_qmark (by decide)
      · exact F_at_done.fnv T.m_at_done (by decide)
      · exact F_at_talk.fnv T.m_at_talk (by decide)
      · exact F_at_tmark.fnv T.m_at_tmark (by decide)
      · exact F_at_asis.fnv T.m_at_asis (by decide)
    refine⟨p,rfl,_,SqT.of hp,_,rfl,.inr (S st.mode),rfl,?_⟩
    unfold stepM at k
    rw [atTab_eq t] at k
    rcases tab_find st.mode (tab2 t) with⟨e,he,h1,h2⟩ | ⟨h1,h2⟩
    · rw [h2] at k
      unfold mtab
      rw [h1,if_neg (by intro z;cases z)]
      exact⟨e.2.2,rfl,spA e.2.1,hF e he,p,rfl,_,SqT.of hp,_,rfl,p,rfl,_,SqT.of hp,_,rfl,p,rfl,_,SqT.of hp,_,rfl,st.word,o,st.opens,st.talk,c,rfl,ho,hw,hop,k⟩
    · rw [h2] at k
      unfold mtab
      rw [h1,if_pos (show(none:Option V).getD V.non=V.non from rfl)]
      exact k _ _ (Same.refl H) rfl
theorem ok_begin (T:Txt w K mg t)(D:Df K mg "begin" s_begin ps_begin):OkF P w K mg base 1 "begin" ps_begin sp_begin:=by
  refine D.ok sc_begin (fun vs H Q E h=>?_) (fun f cdv A outer s H vs Q E hr h=>?_)
  · obtain⟨rfl,_⟩:=h;rfl
  · obtain⟨rfl,k⟩:=h
    refine⟨_,((qss_one (qs_ret (qe_tup (qa_cons (by exact(qe_S (l:=[116,101,120,116]) (by decide +kernel))) (by exact(qa_cons (by exact(qe_S (l:=[]) (by decide +kernel))) (by exact(qa_cons (by exact(qe_tup qa_nil)) (by exact(qa_cons (by exact(qe_S (l:=[]) (by decide +kernel))) (by exact qa_nil)))))))))))).h,?_⟩
    walk_at "rd"
    exact fun p hp p1 hp1=>k _ _ ((same_upd hp).trans (same_upd hp1)) ⟨p1,p,rfl,upd_same,same_upd hp1 _ _ upd_same⟩
theorem ok_step (T:Txt w K mg t)(D:Df K mg "step" s_step ps_step)(F_moved:OkF P w K mg base 6 "moved" ps_moved sp_moved):OkF P w K mg base 7 "step" ps_step sp_step:=by
  refine D.ok sc_step (fun vs H Q E h=>?_) (fun f cdv A outer s H vs Q E hr h=>?_)
  · obtain⟨_,_,_,rfl,_⟩:=h;rfl
  · obtain⟨x,st,c,rfl,hst,hw,hop,k⟩:=h
    refine⟨_,((qss_one (qs_ret (qe_callF F_moved hr (by decide) (qa_cons (qv 0) (qa_cons (qv 1) qa_nil)))))).h,?_⟩
    walk_at "rd"
    exact⟨st,hst,hw,hop,k⟩
theorem ok_floored (T:Txt w K mg t)(D:Df K mg "floored" s_floored ps_floored):OkF P w K mg base 1 "floored" ps_floored sp_floored:=by
  refine D.ok sc_floored (fun vs H Q E h=>?_) (fun f cdv A outer s H vs Q E hr h=>?_)
  · obtain⟨_,_,rfl,_⟩:=h;rfl
  · obtain⟨x,st,rfl,hst,k⟩:=h
    refine⟨_,((qss_one (qs_ret (qe_tup (qa_cons (by exact(qe_ix (ix_tupK (K:=K) (by rfl)) (qv 0) qe_int (fun _ _=>(by rfl)))) (by exact(qa_cons (by exact(qe_ix (ix_tupK (K:=K) (by rfl)) (qv 0) qe_int (fun _ _=>(by rfl)))) (by exact(qa_cons (by exact(qe_tup qa_nil)) (by exact(qa_cons (by exact(qe_ix (ix_tupK (K:=K) (by rfl)) (qv 0) qe_int (fun _ _=>(by rfl)))) (by exact qa_nil)))))))))))).h,?_⟩
    walk_at "rd"
    obtain⟨p,o,rfl,hp,ho⟩:=hst
    exact⟨p,rfl,_,SqT.of hp,_,rfl,p,rfl,_,SqT.of hp,_,rfl,fun p1 hp1=>⟨p,rfl,_,SqT.of (same_upd hp1 _ _ hp),_,rfl,fun p2 hp2=>k _ _ ((same_upd hp1).trans (same_upd hp2)) ⟨p2,p1,rfl,upd_same,same_upd hp2 _ _ upd_same⟩⟩⟩
end
section
variable {P:Program} {w:World} {K:PySem.W.Frag} {mg:Str->Option Value} {base:Heap} {t:Ads}
noncomputable def contM (es:List Ev)(i:Nat):Except Nat (MS×List Ev)->Except Nat (MS×List Ev)
  | .error n=>.error (n+i)
  | .ok (s',fs)=>.ok (s',es++fs)
theorem contM_0 (r:Except Nat (MS×List Ev)):contM [] 0 r=r:=by
  cases r with
  | error n=>rfl
  | ok r=>cases r;rfl
theorem contM_step {s s':MS}{c:Nat}{r:List Nat}{es fs:List Ev}{i:Nat}(h:stepM s c=some (s',fs)):contM es i (runM s (c::r))=contM (es++fs) (i+1) (runM s' r):=by
  simp only [runM,h]
  cases runM s' r with
  | error n=>simp only [contM];congr 1;omega
  | ok q=>obtain⟨s2,gs⟩:=q;simp only [contM,List.append_assoc]
theorem contM_stop {s:MS}{c:Nat}{r:List Nat}{es:List Ev}{i:Nat}(h:stepM s c=none):contM es i (runM s (c::r))=.error i:=by
  simp only [runM,h,contM,Nat.zero_add]
def rInv (x:V)(st:MS)(l:List Nat)(p:Addr)(H:Hp)(i:Nat)(σ:L2.St)(H':Hp):Prop:=∃ (v:V) (s:MS) (es:List Ev) (o4 o5 o6:Option V),σ=[some x,some (V.str (S l)),some v,some (V.ref p),o4,o5,o6]/\Same H H'/\StV H' v s/\EvL H' p es/\s.word.length<=8/\s.opens.length<=st.opens.length+i/\es.length<=10 * i/\runM st l=contM es i (runM s (l.drop i))
theorem ok_run (T:Txt w K mg t)(D:Df K mg "run" s_run ps_run)(F_step:OkF P w K mg base 7 "step" ps_step sp_step)(R_Unread:Err P w K mg base "Unread" t.Unread "at" payT):OkX P w K mg base 8 "run" ps_run (sp_run t):=by
  refine D.okX sc_run (fun vs H Q E h=>?_) (fun f cdv A outer s H vs Q E hr h=>?_)
  · obtain⟨_,_,_,rfl,_⟩:=h;rfl
  · obtain⟨x,st,l,rfl,hst,hw,hl,k,kx⟩:=h
    refine⟨_,((qss_cons (qs_set (i:=2) sc_run.nd (by rfl) (Or.inl (by rfl)) (qv 0))
      (qss_cons (qs_set (i:=3) sc_run.nd (by rfl) (Or.inl (by rfl)) (qe_lst qa_nil))
      (qss_cons (qs_for PassesOwn.leaving (by rfl) (qi_enumS (by rfl) T.z_enumerate (qa_cons (qv 1) qa_nil)) (qg_tup (n:=2) (by rfl) (qgs_cons (qg_name (i:=4) sc_run.nd (by rfl) (Or.inl (by rfl))) (qgs_cons (qg_name (i:=5) sc_run.nd (by rfl) (Or.inl (by rfl))) qgs_nil))) (qss_cons (qs_set (i:=6) sc_run.nd (by rfl) (Or.inl (by rfl)) (qe_callF F_step hr (by decide) (qa_cons (qv 2) (qa_cons (qv 5) qa_nil))))
      (qss_cons (qs_if (qt_cmpR op_isN (qv 6) qe_non (nomark _)) (qss_one (qs_raise thr_leave R_Unread hr (by decide) (qa_cons (qv 4) qa_nil))) qss_nil)
      (qss_cons (qs_set (i:=2) sc_run.nd (by rfl) (Or.inl (by rfl)) (qe_ix (ix_tupK (K:=K) (by rfl)) (qv 6) qe_int (fun _ _=>(by rfl))))
      (qss_one (qs_expr (qe_bmK (K:=K) (by rfl) PySem.F.plainAttrs_list PySem.F.slot_list_extend PySem.F.type_list_extend mt_extend (qv 3) (qa_cons (qe_ix (ix_tupK (K:=K) (by rfl)) (qv 6) qe_int (fun _ _=>(by rfl))) qa_nil))))))))
      (qss_one (qs_ret (qe_tup (qa_cons (qv 2) (qa_cons (qv 3) qa_nil))))))))).h,?_⟩
    walk_at "rd"
    intro p hp
    refine fb_enumS (K:=K) (rInv x st l p H) ⟨x,st,[],none,none,none,rfl,same_upd hp,hst.mono (same_upd hp),evl0,hw,by lia,by simp,by rw [List.drop_zero,contM_0]⟩ ?_ ?_
    · rintro i c σ H1 hi ⟨v,s,es,o4,o5,o6,rfl,g1,hs,he,hw1,ho1,hl1,hr⟩ p1 hp1
      have hil:=(List.getElem?_eq_some_iff.mp hi).1
      have ed:l.drop i=c::l.drop (i+1):=by rw [List.drop_eq_getElem_cons hil,(List.getElem?_eq_some_iff.mp hi).2]
      rw [ed] at hr
      walk_at "rd"
      have g2:=g1.trans (same_upd (o:=.tup [.int i,.str (S [c])]) hp1)
      refine⟨s,hs.mono (same_upd hp1),by lia,by lia,fun v2 H2 g3 a=>?_⟩
      cases hq:stepM s c with
      | none=>
        rw [hq] at a
        have a:v2=.non:=a
        subst a
        rw [if_pos rfl]
        exact⟨.inl ⟨_,rfl,by lia,by lia⟩,fun d H3 s3 _ e=>kx i (by rw [hr,contM_stop hq]) d H3 (g2.trans (g3.trans s3)) e⟩
      | some r=>
        obtain⟨s',fs⟩:=r
        rw [hq] at a
        obtain⟨q,sa,ea,rfl,hq1,hs1,he1,hg⟩:=a
        obtain⟨b1,b2,b3⟩:=step_ok s c s' fs hq hw1
        obtain⟨vs,e1,e2⟩:=he
        obtain⟨us,f1,f2⟩:=he1
        have e1':=g3 _ _ (same_upd hp1 _ _ e1)
        rw [if_neg (by intro z;cases z)]
        have l1:=e2.len
        have l2:=f2.len
        refine⟨q,rfl,_,SqT.of hq1,_,rfl,.inl ⟨rfl,_,SqL.of e1'⟩,q,rfl,_,SqT.of hq1,_,rfl,ea,rfl,vs,e1',us,f1,by lia,?_⟩
        refine⟨sa,s',es++fs,_,_,_,rfl,?_,hs1.updL e1',⟨_,upd_same,((e2.mono ((same_upd hp1).trans g3)).updL e1').app (f2.updL e1')⟩,b1,by lia,by rw [List.length_append];lia,by rw [hr,contM_step hq]⟩
        intro b o e
        rw [upd_ne (ne_of_none e hp)]
        exact g3 _ _ (g2 _ _ e)
    · rintro σ H1 ⟨v,s,es,o4,o5,o6,rfl,g1,hs,he,hw1,ho1,hl1,hr⟩
      rw [List.drop_length] at hr
      walk_at "rd"
      intro p2 hp2
      refine k s es (by rw [hr];simp only [runM,contM,List.append_nil]) _ _ (g1.trans (same_upd hp2)) ?_
      exact⟨p2,v,p,rfl,upd_same,hs.mono (same_upd hp2),he.mono (same_upd hp2),hp⟩
end
section
variable {P:Program} {w:World} {K:PySem.W.Frag} {mg:Str->Option Value} {base:Heap} {t:Ads}
theorem ok_law_cell (T:Txt w K mg t)(D:Df K mg "_law_cell" s__law_cell ps__law_cell):OkF P w K mg base 1 "_law_cell" ps__law_cell (sp__law_cell K):=by
  refine D.ok sc__law_cell (fun vs H Q E h=>?_) (fun f cdv A outer s H vs Q E hr h=>?_)
  · obtain⟨_,_,_,rfl,_⟩:=h;rfl
  · obtain⟨a,ns,k,rfl,hS,h63,hk,q⟩:=h
    refine⟨_,((qss_cons (qs_if (qt_cmpR op_lt (qv 1) (qe_callB (call_lenLK (K:=K) (by rfl)) (by rfl) T.z_len bb_len (qa_cons (qv 0) qa_nil)) (nomark _)) (qss_one (qs_ret (qe_op op_mod (qe_ix (ix_listK (K:=K) (by rfl)) (qv 0) (qv 1) (fun _ _=>(by rfl))) (qe_op op_mulI (qe_op op_mulI (qe_op op_pow qe_int qe_int) (qe_op op_pow qe_int qe_int)) (qe_op op_pow qe_int qe_int))))) qss_nil)
      (qss_cons (qs_set (i:=2) sc__law_cell.nd (by rfl) (Or.inl (by rfl)) (qe_op op_add (qe_op op_mulI qe_int (qv 1)) qe_int))
      (qss_cons (qs_if (qt_cmpR op_gt (qe_callB (call_lenLK (K:=K) (by rfl)) (by rfl) T.z_len bb_len (qa_cons (qv 0) qa_nil)) qe_int (nomark _)) (qss_one (qs_set (i:=2) sc__law_cell.nd (by rfl) (Or.inl (by rfl)) (qe_op op_add (qe_op op_mulI (qe_op op_mod (qe_ix (ix_listK (K:=K) (by rfl)) (qv 0) (qe_op op_mod (qe_op op_mulI (qv 1) qe_int) (qe_callB (call_lenLK (K:=K) (by rfl)) (by rfl) T.z_len bb_len (qa_cons (qv 0) qa_nil))) (fun _ _=>(by rfl))) (qe_op op_pow qe_int qe_int)) qe_int) (qe_op op_mulI (qe_op op_mulI (qv 1) (qv 1)) qe_int)))) qss_nil)
      (qss_one (qs_ret (qe_op op_mod (qe_op op_mulI (qe_op op_mod (qv 2) qe_int) qe_int) qe_int))))))).h,?_⟩
    walk_at "rd"
    refine⟨_,.inl hS,?_⟩
    rw [List.length_map]
    by_cases hlt:k<ns.length
    · rw [if_pos (by lia)]
      have hn:ns[k]? = some ns[k]:=List.getElem?_eq_getElem hlt
      refine⟨_,hS,.int ns[k],by rw [List.getElem?_map,hn];rfl,cpow (by decide),cpow (by decide),(by unfold IntMulOk;decide +kernel),cpow (by decide),(by unfold IntMulOk;decide +kernel),_,rfl,by decide +kernel,q _ H (Same.refl H)⟩
    · rw [if_neg (by lia)]
      refine⟨mulOk_l (by decide),_,.inl hS,?_⟩
      rw [List.length_map]
      by_cases h0:0<ns.length
      · rw [if_pos (by lia)]
        obtain⟨n,e,_⟩:=atI_ints (ns:=ns) (i:=(k:Int) * 7 % (ns.length:Int)) (mod_nn (by lia)).1 (mod_nn (by lia)).2
        refine⟨mulOk_r (by decide),_,.inl hS,by rw [List.length_map];lia,_,hS,.int n,by rw [List.length_map];exact e,cpow (by decide),n,rfl,by decide +kernel,mulOk_r (by decide),mulOk_l (by lia),mulOk_r (by decide),mulOk_r (by decide),q _ H (Same.refl H)⟩
      · rw [if_neg (by lia)]
        exact⟨mulOk_r (by decide),q _ H (Same.refl H)⟩
theorem ok_law_mix (T:Txt w K mg t)(D:Df K mg "_law_mix" s__law_mix ps__law_mix):OkF P w K mg base 1 "_law_mix" ps__law_mix sp__law_mix:=by
  refine D.ok sc__law_mix (fun vs H Q E h=>?_) (fun f cdv A outer s H vs Q E hr h=>?_)
  · obtain⟨_,_,_,rfl,_⟩:=h;rfl
  · obtain⟨c,k,m,rfl,hk0,hk,hm,q⟩:=h
    refine⟨_,((qss_cons (qs_if (QW.qt (qw_and (qt_cmpR op_eq (qe_op op_mod (qv 0) qe_int) qe_int (nomark _)) (qw_and (qt_cmpR op_gt (qv 0) (qe_op op_pow qe_int qe_int) (nomark _)) (qw_and1 (qt_cmpR op_gt (qe_op op_shr (qv 0) (qe_op op_add (qe_op op_mulI qe_int (qv 1)) qe_int)) qe_int (nomark _)))))) (qss_one (qs_ret (qe_op op_mod (qe_op op_shr (qv 0) (qe_op op_add (qe_op op_mulI qe_int (qv 1)) qe_int)) (qv 2)))) qss_nil)
      (qss_cons (qs_set (i:=3) sc__law_mix.nd (by rfl) (Or.inl (by rfl)) (qe_ix (ix_listK (K:=K) (by rfl)) (qe_lst (qa_cons qe_int (qa_cons qe_int (qa_cons qe_int (qa_cons qe_int (qa_cons qe_int (qa_cons qe_int (qa_cons qe_int (qa_cons qe_int qa_nil))))))))) (qe_op op_mod (qv 1) qe_int) (fun _ _=>(by rfl))))
      (qss_cons (qs_set (i:=4) sc__law_mix.nd (by rfl) (Or.inl (by rfl)) (qe_ix (ix_listK (K:=K) (by rfl)) (qe_lst (qa_cons qe_int (qa_cons qe_int (qa_cons qe_int (qa_cons qe_int (qa_cons qe_int (qa_cons qe_int (qa_cons qe_int qa_nil)))))))) (qe_op op_mod (qv 1) qe_int) (fun _ _=>(by rfl))))
      (qss_cons (qs_set (i:=5) sc__law_mix.nd (by rfl) (Or.inl (by rfl)) (qe_op op_mod (qe_op op_mulI (qe_op op_add (qe_op op_mod (qe_op op_addA (qv 0) (qe_op op_mulI (qe_op op_mulI (qv 1) (qv 1)) (qv 1))) qe_int) qe_int) (qv 3)) qe_int))
      (qss_one (qs_ret (qe_op op_mod (qe_op op_mod (qe_op op_mulI (qe_op op_add (qv 5) qe_int) (qv 4)) qe_int) (qv 2))))))))).h,?_⟩
    have fin:∀ (v:Int) (H':Hp),Same H H'->Q (.int (v % m)) H':=fun v H' g=>by
      have h1:=mod_nn (a:=v) (m:=m) hm
      have:=q (v % m).toNat H' (by lia) g
      rw [Int.toNat_of_nonneg h1.1] at this
      exact this
    refine seq_if ?_ fun N hN=>?_
    · walk_at "rd"
      refine fun p hp=>⟨_,SqL.of upd_same,?_⟩
      obtain⟨n1,e1,_⟩:=atI_ints (ns:=[1000000007,1181783503,1372345291,1518500279,1636201513,1734723539,1871234567,2012345681]) (i:=k % 8) (mod_nn (by decide)).1 (mod_nn (by decide)).2
      refine⟨_,e1,fun p2 hp2=>⟨_,SqL.of upd_same,?_⟩⟩
      obtain⟨n2,e2,_⟩:=atI_ints (ns:=[100000000003,223606797763,314159265359,414213562379,577215664943,693147180563,732050807573]) (i:=k % 7) (mod_nn (by decide)).1 (mod_nn (by decide)).2
      refine⟨_,e2,?_⟩
      have g:Same H (upd (upd H p (.lst [V.int 1000000007,V.int 1181783503,V.int 1372345291,V.int 1518500279,V.int 1636201513,V.int 1734723539,V.int 1871234567,V.int 2012345681])) p2 (.lst [V.int 100000000003,V.int 223606797763,V.int 314159265359,V.int 414213562379,V.int 577215664943,V.int 693147180563,V.int 732050807573])):=(same_upd hp).trans (same_upd hp2)
      have m1:=mod_nn (a:=c+k * k * k) (m:=1000000000039) (by decide)
      refine⟨mulOk_l (by lia),mulOk_r (by lia),n1,rfl,mulOk_l (by lia),n2,rfl,mulOk_l ?_,hm,fin _ _ g⟩
      have m2:=mod_nn (a:=((c+k * k * k) % 1000000000039+1) * n1) (m:=2147483629) (by decide)
      lia
    · walk_at "rd"
      by_cases h1:c % 2=0
      · rw [if_pos h1]
        refine⟨cpow (by decide),?_⟩
        split
        · refine⟨mulOk_l (by decide),by lia,?_⟩
          split
          · exact⟨mulOk_l (by decide),by lia,hm,fin _ H (Same.refl H)⟩
          · exact hN
        · exact hN
      · rw [if_neg h1]
        exact hN
end
section
variable {P:Program} {w:World} {K:PySem.W.Frag} {mg:Str->Option Value} {base:Heap} {t:Ads}
theorem ok_Spot___init__ (T:Txt w K mg t)(D:Dc K mg t.Spot "Spot" "Spot.__init__" s_Spot___init__ ps_Spot___init__):OkC P w K mg base 1 t.Spot "Spot" ps_Spot___init__ (sp_Spot___init__ t):=by
  refine D.ok sc_Spot___init__ (fun vs H Q E h=>?_) (fun f cdv A outer s H vs Q E hr h=>?_)
  · obtain⟨_,_,_,_,_,rfl,_⟩:=h;rfl
  · obtain⟨a,dx,sv,ta,n,rfl,ha,q⟩:=h
    refine⟨_,((qss_cons (qs_fld (K:=K) (by rfl) (qv 0) (qv 1))
      (qss_cons (qs_fld (K:=K) (by rfl) (qv 0) (qv 2))
      (qss_one (qs_fld (K:=K) (by rfl) (qv 0) (qv 3)))))).h,?_⟩
    walk_at "rd"
    refine⟨_,_,_,ha,T.l_Spot,T.a_state,by decide,_,_,_,upd_same,T.l_Spot,T.a_turns,by simp [putF],_,_,_,upd_same,T.l_Spot,T.a_many,by simp only [putF];split<;>simp,?_⟩
    rw [upd_upd,upd_upd]
    exact q
theorem ok_Spot_met (T:Txt w K mg t)(D:Dm K t.Spot "met" "Spot.met" s_Spot_met ps_Spot_met)(F_Spot___init__:OkC P w K mg base 1 t.Spot "Spot" ps_Spot___init__ (sp_Spot___init__ t)):OkM P w K mg base 3 t.Spot "met" ps_Spot_met (sp_Spot_met t):=by
  refine D.ok sc_Spot_met (fun vs H Q E h=>?_) (fun f cdv A outer s H vs Q E hr h=>?_)
  · obtain⟨_,_,_,_,_,_,rfl,_⟩:=h;rfl
  · obtain⟨a,dx,ta,sv0,sv,n,rfl,e1,q⟩:=h
    refine⟨_,((qss_one (qs_ret (qe_makeN F_Spot___init__ hr (by decide) (qa_cons (by exact(qv 1)) (by exact(qa_cons (by exact(qe_fld (K:=K) (by rfl) (qv 0))) (by exact(qa_cons (by exact(qe_op op_add (qe_fld (K:=K) (by rfl) (qv 0)) qe_int)) (by exact qa_nil)))))))))).h,?_⟩
    walk_at "rd"
    refine⟨_,_,_,e1,T.l_Spot,T.a_turns,.ref ta,rfl,_,_,_,e1,T.l_Spot,T.a_many,_,rfl,_,rfl,fun x dx' hx hd hne=>⟨_,ta,rfl,n+1,by lia,upd_same,?_⟩⟩
    exact q x _ _ (made_is hx hd (.own x) []) hx upd_same
theorem ok_Looking___init__ (T:Txt w K mg t)(D:Dc K mg t.Looking "Looking" "Looking.__init__" s_Looking___init__ ps_Looking___init__):OkC P w K mg base 1 t.Looking "Looking" ps_Looking___init__ (sp_Looking___init__ t):=by
  refine D.ok sc_Looking___init__ (fun vs H Q E h=>?_) (fun f cdv A outer s H vs Q E hr h=>?_)
  · obtain⟨_,_,_,rfl,_⟩:=h;rfl
  · obtain⟨a,dx,kv,rfl,ha,q⟩:=h
    refine⟨_,((qss_cons (qs_fld (K:=K) (by rfl) (qv 0) (qv 1))
      (qss_cons (qs_fld (K:=K) (by rfl) (qv 0) (qe_lst qa_nil))
      (qss_one (qs_fld (K:=K) (by rfl) (qv 0) (qe_lst qa_nil)))))).h,?_⟩
    walk_at "rd"
    refine⟨_,_,_,ha,T.l_Looking,T.a_kept,by decide,fun p hp=>?_⟩
    have hpa:p≠a:=fun z=>by subst z;rw [upd_same] at hp;cases hp
    refine⟨_,_,_,by rw [upd_ne hpa.symm];exact upd_same,T.l_Looking,T.a_holes,by simp [putF],fun p1 hp1=>?_⟩
    have hp1a:p1≠a:=fun z=>by subst z;rw [upd_same] at hp1;cases hp1
    have hp1p:p1≠p:=fun z=>by subst z;rw [upd_ne hpa,upd_same] at hp1;cases hp1
    refine⟨_,_,_,by rw [upd_ne hp1a.symm];exact upd_same,T.l_Looking,T.a_pairs,by simp only [putF];split<;>simp,?_⟩
    rw [upd_ne hpa] at hp
    rw [upd_ne hp1a,upd_ne hp1p,upd_ne hp1a] at hp1
    refine q p p1 _ upd_same (fun b o hb e=>?_) ?_ ?_ hp1p.symm hp hp1
    · have b1:b≠p1:=fun z=>by subst z;rw [hp1] at e;cases e
      have b2:b≠p:=fun z=>by subst z;rw [hp] at e;cases e
      rw [upd_ne hb,upd_ne b1,upd_ne hb,upd_ne b2,upd_ne hb]
      exact e
    · rw [upd_ne hpa,upd_ne hp1p.symm,upd_ne hpa,upd_same]
    · rw [upd_ne hp1a,upd_same]
theorem ok_Spot_shown (T:Txt w K mg t)(D:Dm K t.Spot "shown" "Spot.shown" s_Spot_shown ps_Spot_shown):OkMN P w K mg base 1 t.Spot "shown" ps_Spot_shown (sp_Spot_shown t):=by
  refine D.okN sc_Spot_shown (fun vs H Q E h=>?_) (fun f cdv A outer s H vs Q E hr h=>?_)
  · obtain⟨_,_,_,_,_,_,rfl,_⟩:=h;rfl
  · obtain⟨a,dx,ta,sv,n,Tn,rfl,e1,e2,e3,q⟩:=h
    refine⟨_,((qss_one (qs_ret (qe_tup (qa_cons (qe_callTy (call_listL (K:=K) (by rfl)) (by rfl) T.z_list bb_list (qa_cons (qe_fld (K:=K) (by rfl) (qv 0)) qa_nil)) (qa_cons (qe_fld (K:=K) (by rfl) (qv 0)) qa_nil)))))).h,?_⟩
    walk_at "rd"
    refine⟨_,_,_,e1,T.l_Spot,T.a_turns,.ref ta,rfl,ta,rfl,_,SqL.of e2,fun l hl=>⟨_,_,_,same_upd hl _ _ e1,T.l_Spot,T.a_many,_,rfl,fun p hp=>?_⟩⟩
    have k2:=same_upd (o:=.tup [.ref l,.int n]) hp
    exact q p l _ ((same_upd hl).trans k2) hl upd_same (k2 _ _ upd_same)
end
section
variable {P:Program} {w:World} {K:PySem.W.Frag} {mg:Str->Option Value} {base:Heap} {t:Ads}
theorem ok_look_literal (T:Txt w K mg t)(D:Dm K t.Looking "look_literal" "Looking.look_literal" s_Looking_look_literal ps_Looking_look_literal)(F_run:OkX P w K mg base 8 "run" ps_run (sp_run t))(F_Spot_met:OkM P w K mg base 3 t.Spot "met" ps_Spot_met (sp_Spot_met t))(F_Spot_shown:OkMN P w K mg base 1 t.Spot "shown" ps_Spot_shown (sp_Spot_shown t))(R_Astray:ErrN P w K mg base "Astray" t.Astray fsA payA):OkM P w K mg base 12 t.Looking "look_literal" ps_Looking_look_literal (sp_Looking_look_literal t):=by
  refine D.ok sc_Looking_look_literal (fun vs H Q E h=>?_) (fun f cdv A outer s H vs Q E hr h=>?_)
  · obtain⟨_,_,_,_,_,_,_,rfl,_⟩:=h;rfl
  · obtain⟨lo,ha,sp,pv,ps,x,hv,rfl,⟨z,rfl⟩,hlo,⟨p,ep,hp⟩,⟨dx,sv,ta,e1,e2,e3⟩,hha,⟨b1,b2,b3,b4,b5⟩,q,qe⟩:=h
    refine⟨_,((qss_cons (qs_tryR (i:=4) thr_leave T.m_Unread T.c_Unread sc_Looking_look_literal.nd (by rfl) (by rfl) (by rfl) (by rfl) (fun E pn xe hp hx=>(qss_one (qs_set (i:=3) sc_Looking_look_literal.nd (by rfl) (Or.inl (by rfl)) (qe_callX hx F_run hr (by decide) (qa_cons (qe_fld (K:=K) (by rfl) (qv 2)) (qa_cons (qe_ix (ix_tupK (K:=K) (by rfl)) (qv 1) qe_int (fun _ _=>(by rfl))) qa_nil))))))
      (fun pn ea xe hxe=>(qss_one (qs_raiseH hxe (by rfl) R_Astray (hr.n.marked _) (by decide) (qa_cons (qe_methH0 F_Spot_shown (hr.n.marked _) (by decide) (qv 2)) (qa_cons (qe_atX (K:=K) (by rfl) (qv 4)) qa_nil))))))
      (qss_one (qs_ret (qe_methN F_Spot_met hr (by decide) (qv 2) (qa_cons (qe_ix (ix_tupK (K:=K) (by rfl)) (qv 3) qe_int (fun _ _=>(by rfl))) qa_nil)))))).h,?_⟩
    walk_at "rd"
    cases ep
    obtain⟨pa,vs,rfl,hpa,rfl⟩:=pcF hp
    simp only [txPs,txP,szPs,szP] at b2 b3 b4 b5
    simp only [lookB_one,lookP] at q qe
    have e1':=hide_le _ _ e1
    refine⟨_,_,_,e1',T.l_Spot,T.a_state,sv,rfl,pa,rfl,_,SqT.of (hide_le _ _ hpa),_,atI_1 _ _ _,x.s,z,rfl,e2.mono hide_le,b1,by lia,fun s' es hr v H1 g1 hv1=>?_,fun b hr d H1 g1 hd=>?_⟩
    · obtain⟨p4,sa4,ea4,rfl,f1,f2,_⟩:=hv1
      refine⟨dx,_,g1 _ _ e1',rfl,p4,rfl,_,SqT.of f1,sa4,atI_0 _ _,dx,ta,sv,x.n,g1 _ _ e1',fun r dx' H2 g2 hr2 er=>?_⟩
      have g12:=g1.trans g2
      refine q ⟨s',x.T,x.n+1⟩ [] (by rw [hr]) r [] H2 (Gr.same hha g12) .nil (spV_hid (ne_new (g1 _ _ hha) hr2) er (st_hid (g12 _ _ hha) (f2.mono g2)) (hide_mono g12 _ _ e3))
    · refine⟨t.Unread,rfl,T.c_Unread,T.kit_up_ur,⟨d,_,_,rfl,hd⟩,fun ea H2 g2 hc hpl=>?_⟩
      have g12:=g1.trans g2
      refine⟨dx,_,g12 _ _ e1',rfl,dx,ta,sv,x.n,g12 _ _ e1',x.T,g12 _ _ (hide_le _ _ e3),by lia,fun r l H3 g3 hl hr3 hl3=>?_⟩
      have G:L2.Got K H3 ea t.Unread [("at",.int (b:Nat))]:=L2.Got.mono ⟨T.c_Unread,d,hc,g2 _ _ hd⟩ g3
      have hb:=run_err hr
      refine⟨t.Unread,_,G,T.n_Unread_at,_,rfl,⟨_,_,rfl,.inl ⟨_,rfl,by lia,by lia⟩⟩,fun d4 H4 g4 n4 h4=>⟨?_,Pla.mono hpl (g3.trans g4),_,h4,by show 2≠1;decide⟩⟩
      have g14:=g12.trans (g3.trans g4)
      have h3:=g3 _ _ (g12 _ _ hha)
      refine qe (.astray x.T x.n b) (by rw [hr]) _ d4 H4 (hide_mono g14) ⟨rfl,r,?_,plV_hid (g14 _ _ hha) (g12 _ _ hha) hl (g4 _ _ hr3) (g4 _ _ hl3)⟩
      rw [hide_ne (ne_new h3 n4)]
      exact h4
end
section
variable {P:Program} {w:World} {K:PySem.W.Frag} {mg:Str->Option Value} {base:Heap} {t:Ads}
theorem ok_look_seat {k d:Nat}(hk10:20<=k)(T:Txt w K mg t)(D:Dm K t.Looking "look_seat" "Looking.look_seat" s_Looking_look_seat ps_Looking_look_seat)(F_floored:OkF P w K mg base 1 "floored" ps_floored sp_floored)(F_Spot_met:OkM P w K mg base 3 t.Spot "met" ps_Spot_met (sp_Spot_met t))(F_Spot_shown:OkMN P w K mg base 1 t.Spot "shown" ps_Spot_shown (sp_Spot_shown t))(R_Unlike:ErrN P w K mg base "Unlike" t.Unlike fsU payU)(F_Looking_look_all:OkM P w K mg base k t.Looking "look_all" ps_Looking_look_all (sp_Looking_look_all t d)):OkM P w K mg base (k+1) t.Looking "look_seat" ps_Looking_look_seat (sp_Looking_look_seat t (d+1)):=by
  refine D.ok sc_Looking_look_seat (fun vs H Q E h=>?_) (fun f cdv A outer s H vs Q E hr h=>?_)
  · obtain⟨_,_,_,_,_,_,_,rfl,_⟩:=h;rfl
  · obtain⟨lo,ha,sp,pv,ps,x,hv,rfl,⟨wd,nm,mm,b,rfl,hls,hdp⟩,hlo,⟨p,ep,hp⟩,hsp,hha,⟨b1,b2,b3,b4,b5⟩,q,qe⟩:=h
    refine⟨_,((qss_cons (qs_set (i:=3) sc_Looking_look_seat.nd (by rfl) (Or.inl (by rfl)) (qe_methN F_Spot_met hr (by lia) (qv 2) (qa_cons (qe_callF F_floored hr (by lia) (qa_cons (qe_fld (K:=K) (by rfl) (qv 2)) qa_nil)) qa_nil)))
      (qss_cons (qs_set (i:=4) sc_Looking_look_seat.nd (by rfl) (Or.inl (by rfl)) (qe_methX thr_leave F_Looking_look_all hr (by lia) (qv 0) (qa_cons (qe_ix (ix_tupK (K:=K) (by rfl)) (qv 1) qe_int (fun _ _=>(by rfl))) (qa_cons (qv 3) qa_nil))))
      (qss_cons (qs_if (qt_cmpR (op_neD (hu64 hr)) (qe_fld (K:=K) (by rfl) (qv 4)) (qe_fld (K:=K) (by rfl) (qv 3)) (nomark _)) (qss_one (qs_raiseN thr_leave R_Unlike hr (by lia) (qa_cons (by exact(qe_tup (qa_cons (by exact(qe_S (l:=[115,101,97,116]) (by decide +kernel))) (by exact(qa_cons (by exact(qe_ix (ix_tupK (K:=K) (by rfl)) (qv 1) qe_int (fun _ _=>(by rfl)))) (by exact(qa_cons (by exact(qe_ix (ix_tupK (K:=K) (by rfl)) (qv 1) qe_int (fun _ _=>(by rfl)))) (by exact(qa_cons (by exact(qe_ix (ix_tupK (K:=K) (by rfl)) (qv 1) qe_int (fun _ _=>(by rfl)))) (by exact qa_nil)))))))))) (by exact(qa_cons (by exact(qe_methN0 F_Spot_shown.ok hr (by lia) (qv 3))) (by exact(qa_cons (by exact(qe_methN0 F_Spot_shown.ok hr (by lia) (qv 4))) (by exact qa_nil)))))))) qss_nil)
      (qss_one (qs_ret (qe_methN F_Spot_met hr (by lia) (qv 4) (qa_cons (qe_fld (K:=K) (by rfl) (qv 2)) qa_nil)))))))).h,?_⟩
    walk_at "rd"
    cases ep
    obtain⟨pa,vs,rfl,hpa,wv,rfl,hw⟩:=pcF hp
    simp only [txPs,txP,szPs,szP] at b2 b3 b4 b5
    simp only [lookB_one,lookP] at q qe
    simp only [dpP.dpB,dpP] at hdp
    simp only [lsP.lsB,lsP,Bool.and_true] at hls
    obtain⟨dx,sv,ta,e1,e2,e3⟩:=hsp
    have e1':=hide_le _ _ e1
    obtain⟨ldx,lpa,hlo'⟩:=hlo
    refine⟨dx,_,e1',rfl,_,_,_,e1',T.l_Spot,T.a_state,sv,rfl,x.s,e2.mono hide_le,fun v H1 g1 hv1=>⟨dx,ta,sv,x.n,g1 _ _ e1',fun r dx2 H2 g2 hr er=>?_⟩⟩
    have hha1:=g1 _ _ hha
    have g12:=g1.trans g2
    have hha2:=g12 _ _ hha
    have sv2:=st_hid hha2 (hv1.mono g2)
    have er2:hide ha H2 r=some (spO t dx2 v ta (x.n+1)):=by rw [hide_ne (ne_new hha1 hr)];exact er
    refine⟨ldx,_,g12 _ _ (hide_le _ _ hlo'),rfl,pa,rfl,_,SqT.of (g12 _ _ (hide_le _ _ hpa)),_,atI_4 _ _ _ _ _ _,lo,ha,r,_,b,⟨flo x.s,x.T,x.n+1⟩,hv,rfl,⟨hls,by lia⟩,⟨ldx,lpa,hide_mono g12 _ _ hlo'⟩,?_,spV_hid (ne_new hha1 hr) er sv2 (hide_mono g12 _ _ e3),hha2,⟨b1,by simp;lia,by lia,by dsimp only;lia,by dsimp only;lia⟩,fun e hs hk r3 hv3 H3 G3 ho3 sp3=>?_,fun f hk c d3 H3 g3 hf=>qe f (by rw [hk]) c d3 H3 ((hide_mono g12).trans g3) hf⟩
    · rw [if_neg (by decide)];exact hw.mono (hide_mono g12)
    obtain⟨dx3,sv3,ta3,f1,f2,f3⟩:=sp3
    obtain⟨p3,rfl⟩:=st_ref f2
    have sv3':=sv2.mono G3.1
    obtain⟨p0,rfl⟩:=st_ref sv3'
    have hr3:=hide_le _ _ (G3.1 _ _ er2)
    have f1':=hide_le _ _ f1
    have G3':=G3.pre g12
    obtain⟨_,_,d3,d4,_⟩:=look_bds b _ e hs hk b1
    refine⟨r3,rfl,_,_,_,f1',T.l_Spot,T.a_state,_,rfl,_,_,_,hr3,T.l_Spot,T.a_state,_,rfl,_,_,p3,rfl,p0,rfl,(f2.mono hide_le).dat,(sv3'.mono hide_le).dat,dep_S _,?_⟩
    rw [eqS_dec]
    by_cases hz:e.s=flo x.s
    · rw [if_neg (by rw [decide_eq_true hz];decide)]
      refine⟨r3,rfl,dx3,_,f1',rfl,_,_,_,hide_le _ _ (G3'.1 _ _ e1),T.l_Spot,T.a_state,sv,rfl,r3,rfl,dx3,ta3,_,e.n,f1',fun r5 dx5 H5 g5 hr5 er5=>?_⟩
      exact q ⟨x.s,e.T,e.n+1⟩ hs (by rw [hk];exact if_pos hz) r5 hv3 H5 ((G3'.trans (Gr.same G3'.2 g5)).cast (by rw [List.append_nil])) (ho3.mono (TpS.of (hide_mono g5))) (spV_hid (ne_new G3'.2 hr5) er5 ((e2.mono G3'.1).mono (hide_mono g5)) (hide_mono g5 _ _ f3))
    · rw [if_pos (by rw [decide_eq_false hz];decide)]
      have hpa3:=SqT.of (K:=K) (hide_le _ _ (G3'.1 _ _ hpa))
      refine⟨pa,rfl,_,hpa3,_,atI_1 _ _ _,pa,rfl,_,hpa3,_,atI_2 _ _ _ _,pa,rfl,_,hpa3,_,atI_3 _ _ _ _ _,fun p4 h4=>?_⟩
      have k4:=same_upd (o:=.tup [V.str (S [115,101,97,116]),tx wd,tx nm,tx mm]) h4
      have c4:=k4 _ _ G3.2
      refine⟨dx2,_,k4 _ _ hr3,rfl,dx2,ta,_,x.n+1,k4 _ _ hr3,x.T,k4 _ _ (hide_le _ _ (G3'.1 _ _ e3)),by lia,fun q5 l5 H5 g5 hl5 hq5 hq5'=>?_⟩
      have c5:=g5 _ _ c4
      have f15:=g5 _ _ (k4 _ _ f1')
      refine⟨r3,rfl,dx3,_,f15,rfl,r3,rfl,dx3,ta3,_,e.n,f15,e.T,g5 _ _ (k4 _ _ (hide_le _ _ f3)),by dsimp only at d3;lia,fun q6 l6 H6 g6 hl6 hq6 hq6'=>⟨⟨_,_,_,rfl⟩,fun d7 H7 g7 n7 h7=>?_⟩⟩
      have g67:=g6.trans g7
      have c6:=g6 _ _ c5
      have c7:=g7 _ _ c6
      refine qe (.unlike [kSeat,wd,nm,mm] x.T (x.n+1) e.T e.n) (by rw [hk];exact if_neg hz) _ d7 H7 (G3'.1.trans (hide_mono (k4.trans (g5.trans g67)))) ⟨rfl,p4,q5,q6,?_,?_,plV_hid c7 c4 hl5 (g67 _ _ hq5) (g67 _ _ hq5'),plV_hid c7 c5 hl6 (g7 _ _ hq6) (g7 _ _ hq6')⟩
      · rw [hide_ne (ne_new c6 n7)];exact h7
      · rw [hide_ne (ne_new G3.2 h4)];exact(g5.trans g67) _ _ upd_same
theorem ok_look_piece {k d:Nat}(hk10:20<=k)(T:Txt w K mg t)(D:Dm K t.Looking "look_piece" "Looking.look_piece" s_Looking_look_piece ps_Looking_look_piece)(F_Looking_look_literal:OkM P w K mg base 12 t.Looking "look_literal" ps_Looking_look_literal (sp_Looking_look_literal t))(F_Looking_look_seat:OkM P w K mg base k t.Looking "look_seat" ps_Looking_look_seat (sp_Looking_look_seat t d)):OkM P w K mg base (k+1) t.Looking "look_piece" ps_Looking_look_piece (sp_Looking_look_piece t d):=by
  refine D.ok sc_Looking_look_piece (fun vs H Q E h=>?_) (fun f cdv A outer s H vs Q E hr h=>?_)
  · obtain⟨_,_,_,_,_,_,_,rfl,_⟩:=h;rfl
  · obtain⟨lo,ha,sp,pv,ps,x,hv,rfl,hdp,hlo,⟨p,ep,hp⟩,hsp,hha,bb,q,qe⟩:=h
    refine⟨_,((qss_cons (qs_set (i:=3) sc_Looking_look_piece.nd (by rfl) (Or.inl (by rfl)) (qe_ix (ix_tupK (K:=K) (by rfl)) (qv 1) qe_int (fun _ _=>(by rfl))))
      (qss_cons (qs_if (qt_cmpR op_eq (qv 3) (qe_S (l:=[108,105,116]) (by decide +kernel)) (nomark _)) (qss_one (qs_ret (qe_methX thr_leave F_Looking_look_literal hr (by lia) (qv 0) (qa_cons (qv 1) (qa_cons (qv 2) qa_nil))))) qss_nil)
      (qss_cons (qs_if (qt_cmpR op_eq (qv 3) (qe_S (l:=[104,111,108,101]) (by decide +kernel)) (nomark _)) (qss_one qs_never) qss_nil)
      (qss_cons (qs_if (qt_cmpR op_eq (qv 3) (qe_S (l:=[101,97,99,104]) (by decide +kernel)) (nomark _)) (qss_one qs_never) qss_nil)
      (qss_cons (qs_if (qt_cmpR op_eq (qv 3) (qe_S (l:=[105,102]) (by decide +kernel)) (nomark _)) (qss_one qs_never) qss_nil)
      (qss_cons (qs_if (QW.qt (qw_and (qt_cmpR op_eq (qe_ix (ix_tupK (K:=K) (by rfl)) (qv 1) qe_int (fun _ _=>(by rfl))) (qe_S (l:=[100,114,97,119]) (by decide +kernel)) (nomark _)) (qw_and1 (qt_cmpR op_notN (qe_fld (K:=K) (by rfl) (qv 0)) qe_non (nomark _))))) (qss_one qs_never) qss_nil)
      (qss_one (qs_ret (qe_methX thr_leave F_Looking_look_seat hr (by lia) (qv 0) (qa_cons (qv 1) (qa_cons (qv 2) qa_nil)))))))))))).h,?_⟩
    walk_at "rd"
    cases ep
    obtain⟨pa,vs,rfl,hpa,hf⟩:=pcF hp
    obtain⟨ldx,lpa,hlo'⟩:=hlo
    have hl:=hide_le _ _ hlo'
    have hpa':=SqT.of (K:=K) (hide_le _ _ hpa)
    have S0:∀ {Pr:List Pc->Prop},Pr [p]->spLk t true Pr [.ref lo,.ref pa,.ref sp] H Q fun c d H'=>E c d H':=fun hP=>⟨lo,ha,sp,_,[p],x,hv,rfl,hP,⟨ldx,lpa,hlo'⟩,by rw [if_pos rfl];exact⟨p,rfl,hp⟩,hsp,hha,bb,q,qe⟩
    cases p with
    | lit z=>
      cases hf
      refine⟨pa,rfl,_,hpa',_,atI_0 _ _,rfl,?_⟩
      rw [if_pos (show tx _=V.str (S _) from rfl)]
      exact⟨_,_,hl,rfl,S0 ⟨_,rfl⟩⟩
    | hole z=>exact absurd hdp.1 (by simp [lsP.lsB,lsP])
    | each nm b=>exact absurd hdp.1 (by simp [lsP.lsB,lsP])
    | ife nm a b=>exact absurd hdp.1 (by simp [lsP.lsB,lsP])
    | seat wd nm mm b=>
      obtain⟨wv,rfl,_⟩:=hf
      refine⟨pa,rfl,_,hpa',_,atI_0 _ _,rfl,?_⟩
      rw [if_neg (tx_ne (by decide))]
      refine⟨rfl,?_⟩
      rw [if_neg (tx_ne (by decide))]
      refine⟨rfl,?_⟩
      rw [if_neg (tx_ne (by decide))]
      refine⟨rfl,?_⟩
      rw [if_neg (tx_ne (by decide))]
      refine⟨pa,rfl,_,hpa',_,atI_1 _ _ _,rfl,?_⟩
      split
      · refine⟨_,_,_,hl,T.l_Looking,T.a_kept,.non,rfl,?_⟩
        rw [if_neg (by simp)]
        exact⟨_,_,hl,rfl,S0 ⟨⟨_,_,_,_,rfl⟩,hdp⟩⟩
      · exact⟨_,_,hl,rfl,S0 ⟨⟨_,_,_,_,rfl⟩,hdp⟩⟩
theorem lsB_mem:∀ {ps:List Pc} {p:Pc},lsP.lsB ps=true->p∈ps->lsP p=true
  | _::_,_,h,.head _=>by simp only [lsP.lsB,Bool.and_eq_true] at h;exact h.1
  | _::ps,_,h,.tail _ m=>by simp only [lsP.lsB,Bool.and_eq_true] at h;exact lsB_mem h.2 m
theorem dp_mem:∀ {ps:List Pc} {p:Pc},p∈ps->dpP p<=dpP.dpB ps
  | _::_,_,.head _=>by simp only [dpP.dpB];omega
  | _::ps,_,.tail _ h=>by have:=dp_mem h;simp only [dpP.dpB];omega
def lkI (t:Ads)(lo xa sp ha:Addr)(ps:List Pc)(x:Spt)(hv:List V)(H:Hp)(i:Nat)(σ:L2.St)(H3:Hp):Prop:=∃ (r:Addr) (o4:Option V) (e:Spt) (h1:Ho) (hv':List V),σ=[some (.ref lo),some (.ref xa),some (.ref sp),some (.ref r),o4]/\Gr ha H H3 hv hv'/\HoA (hide ha H3) hv' h1/\SpV t (hide ha H3) r e.s e.T e.n/\(lookB ps x=match lookB (ps.drop i) e with
    | .error f=>.error f
    | .ok r=>.ok (r.1,h1++r.2))/\e.s.word.length<=8/\e.s.opens.length+txPs (ps.drop i)<=100000/\e.T.length+szPs (ps.drop i)<=100000/\e.n+szPs (ps.drop i)<=100000/\h1.length+szPs (ps.drop i)<=szPs ps
theorem ok_look_all {k d:Nat}(hk10:20<=k)(T:Txt w K mg t)(D:Dm K t.Looking "look_all" "Looking.look_all" s_Looking_look_all ps_Looking_look_all)(F_Looking_look_piece:OkM P w K mg base k t.Looking "look_piece" ps_Looking_look_piece (sp_Looking_look_piece t d)):OkM P w K mg base (k+1) t.Looking "look_all" ps_Looking_look_all (sp_Looking_look_all t d):=by
  refine D.ok sc_Looking_look_all (fun vs H Q E h=>?_) (fun f cdv A outer s H vs Q E hr h=>?_)
  · obtain⟨_,_,_,_,_,_,_,rfl,_⟩:=h;rfl
  · obtain⟨lo,ha,sp,pv,ps,x,hv,rfl,⟨hls,hdp⟩,hlo,hp,hsp,hha,⟨b1,b2,b3,b4,b5⟩,q,qe⟩:=h
    refine⟨_,((qss_cons (qs_set (i:=3) sc_Looking_look_all.nd (by rfl) (Or.inl (by rfl)) (qv 2))
      (qss_cons (qs_for PassesOwn.leaving (by rfl) (qi_listK (K:=K) (by rfl) (qv 1)) (qg_name (i:=4) sc_Looking_look_all.nd (by rfl) (Or.inl (by rfl))) (qss_one (qs_set (i:=3) sc_Looking_look_all.nd (by rfl) (Or.inl (by rfl)) (qe_methX thr_leave F_Looking_look_piece hr (by lia) (qv 0) (qa_cons (qv 4) (qa_cons (qv 3) qa_nil))))))
      (qss_one (qs_ret (qv 3)))))).h,?_⟩
    walk_at "rd"
    rw [if_neg (by decide)] at hp
    obtain⟨xa,xs,rfl,hxa,hxs⟩:=hp
    refine⟨xa,rfl,⟨_,SqL.of (hide_le _ _ hxa)⟩,?_⟩
    refine fb_list (xs:=xs) (lkI t lo xa sp ha ps x hv H) ⟨sp,none,x,[],[],rfl,⟨fun b o h=>h,by rw [List.append_nil];exact hha⟩,.nil,hsp,by rw [List.drop_zero];cases lookB ps x<;>rfl,b1,b2,b4,b5,by simp⟩ ?_ ?_ ?_
    · rintro i σ H3 _ ⟨_,_,_,_,_,_,g,_⟩
      exact SqL.of (hide_le _ _ (g.1 _ _ hxa))
    · rintro i y σ H3 hi ⟨r,o4,e,h1,hv',rfl,g3,ho3,sp3,hk3,w1,l1,l2,l3,l4⟩
      have hil:i<ps.length:=by
        have:=(List.getElem?_eq_some_iff.mp hi).1
        have:=hxs.len
        rw [dPs_len] at this
        lia
      obtain⟨dd,hd1,hd2⟩:=hxs.get hi
      rw [dPs_get ps i ps[i] (List.getElem?_eq_getElem hil)] at hd1
      cases hd1
      rw [List.drop_eq_getElem_cons hil] at hk3 l1 l2 l3 l4
      simp only [szPs,txPs] at l1 l2 l3 l4
      have hl3:=ho3.len
      have hpd:=dp_mem (List.getElem_mem hil)
      walk_at "rd"
      obtain⟨ldx,lpa,hlo'⟩:=hlo
      refine⟨ldx,_,hide_le _ _ (g3.1 _ _ hlo'),rfl,lo,ha,r,y,[ps[i]],e,hv++hv',rfl,⟨by simp only [lsP.lsB,Bool.and_true];exact lsB_mem hls (List.getElem_mem hil),by simp only [dpP.dpB];lia⟩,⟨ldx,lpa,g3.1 _ _ hlo'⟩,?_,sp3,g3.2,⟨w1,by simp only [txPs];lia,by simp only [szPs,List.length_append];lia,by simp only [szPs];lia,by simp only [szPs];lia⟩,fun e4 h4 k4 r4 hv4 H4 G4 ho4 sp4=>?_,fun f k4 c d4 H4 g4 hf=>?_⟩
      · rw [if_pos rfl];exact⟨_,rfl,hd2.mono g3.1⟩
      · rw [lookB_one] at k4
        obtain⟨m1,m2,m3,m4,m5⟩:=look_bd _ _ _ _ k4 w1
        refine⟨r4,_,e4,h1++h4,hv'++hv4,rfl,g3.trans G4,(ho3.mono (TpS.of G4.1)).app ho4,sp4,?_,m1,by lia,by lia,by lia,by rw [List.length_append];lia⟩
        rw [hk3]
        simp only [lookB,k4]
        cases lookB (ps.drop (i+1)) e4<;>simp
      · rw [lookB_one] at k4
        exact qe f (by rw [hk3];simp only [lookB,k4]) c d4 H4 (g3.1.trans g4) hf
    · rintro σ H3 ⟨r,o4,e,h1,hv',rfl,g3,ho3,sp3,hk3,w1,l1,l2,l3,l4⟩
      rw [List.drop_eq_nil_of_le (by have:=hxs.len;rw [dPs_len] at this;lia)] at hk3
      walk_at "rd"
      exact q e h1 (by rw [hk3];simp only [lookB,List.append_nil]) r hv' H3 g3 ho3 sp3
theorem ok_look_alls (T:Txt w K mg t)(D:Dm K t.Looking "look_all" "Looking.look_all" s_Looking_look_all ps_Looking_look_all)(D_Looking_look_piece:Dm K t.Looking "look_piece" "Looking.look_piece" s_Looking_look_piece ps_Looking_look_piece)(D_Looking_look_seat:Dm K t.Looking "look_seat" "Looking.look_seat" s_Looking_look_seat ps_Looking_look_seat)(F_Looking_look_literal:OkM P w K mg base 12 t.Looking "look_literal" ps_Looking_look_literal (sp_Looking_look_literal t))(F_Spot_met:OkM P w K mg base 3 t.Spot "met" ps_Spot_met (sp_Spot_met t))(F_Spot_shown:OkMN P w K mg base 1 t.Spot "shown" ps_Spot_shown (sp_Spot_shown t))(F_floored:OkF P w K mg base 1 "floored" ps_floored sp_floored)(R_Unlike:ErrN P w K mg base "Unlike" t.Unlike fsU payU):OkM P w K mg base 60 t.Looking "look_all" ps_Looking_look_all (sp_Looking_look_all t 2):=by
  have a0:OkM P w K mg base 20 t.Looking "look_all" ps_Looking_look_all (sp_Looking_look_all t 0):=D.ok (k:=19) sc_Looking_look_all (fun _ _ _ _ ⟨_,_,_,_,_,_,_,_,h,_⟩=>absurd h.2 (Nat.not_lt_zero _)) (fun _ _ _ _ _ _ _ _ _ _ ⟨_,_,_,_,_,_,_,_,h,_⟩=>absurd h.2 (Nat.not_lt_zero _))
  have up:∀ {k d:Nat},20<=k->OkM P w K mg base k t.Looking "look_all" ps_Looking_look_all (sp_Looking_look_all t d)->OkM P w K mg base (k+3) t.Looking "look_all" ps_Looking_look_all (sp_Looking_look_all t (d+1)):=fun {k d} hk a=>
    ok_look_all (k:=k+2) (by lia) T D (ok_look_piece (k:=k+1) (by lia) T D_Looking_look_piece F_Looking_look_literal (ok_look_seat hk T D_Looking_look_seat F_floored F_Spot_met F_Spot_shown R_Unlike a))
  exact(up (by decide) (up (by decide) a0)).mono (by decide)
end
section
variable {P:Program} {w:World} {K:PySem.W.Frag} {mg:Str->Option Value} {base:Heap} {t:Ads}
theorem ok_is_end (T:Txt w K mg t)(D:Df K mg "is_end" s_is_end ps_is_end)(F_begin:OkF P w K mg base 1 "begin" ps_begin sp_begin):OkF P w K mg base 2 "is_end" ps_is_end sp_is_end:=by
  refine D.ok sc_is_end (fun vs H Q E h=>?_) (fun f cdv A outer s H vs Q E hr h=>?_)
  · obtain⟨_,_,rfl,_⟩:=h;rfl
  · obtain⟨x,s,rfl,hx,q⟩:=h
    refine⟨_,((qss_one (qs_ret (qe_cmpR (op_eqD (hu64 hr)) (qv 0) (qe_callF0 F_begin hr (by decide)) (nomark _))))).h,?_⟩
    walk_at "rd"
    intro v H1 g1 hv
    have d1:=(hx.mono g1).dat
    have d2:=hv.dat
    obtain⟨a,_,rfl,_,_⟩:=hx
    obtain⟨b,_,rfl,_,_⟩:=hv
    refine⟨_,_,a,rfl,b,rfl,d1,d2,dep_S _,?_⟩
    rw [show(⟨mText,[],[],[]⟩:MS)=s00 from rfl,eqS_dec]
    exact q _ g1
theorem ok_looked_at (T:Txt w K mg t)(D:Df K mg "looked_at" s_looked_at ps_looked_at)(F_Looking_look_all:OkM P w K mg base 60 t.Looking "look_all" ps_Looking_look_all (sp_Looking_look_all t 2))(F_begin:OkF P w K mg base 1 "begin" ps_begin sp_begin)(F_is_end:OkF P w K mg base 2 "is_end" ps_is_end sp_is_end)(F_Spot___init__:OkC P w K mg base 1 t.Spot "Spot" ps_Spot___init__ (sp_Spot___init__ t))(F_Looking___init__:OkC P w K mg base 1 t.Looking "Looking" ps_Looking___init__ (sp_Looking___init__ t)):OkX P w K mg base 61 "looked_at" ps_looked_at (sp_looked_at t):=by
  refine D.okX sc_looked_at (fun vs H Q E h=>?_) (fun f cdv A outer s H vs Q E hr h=>?_)
  · obtain⟨_,_,rfl,_⟩:=h;rfl
  · obtain⟨pv,ps,rfl,⟨hd1,hls,hd2',hd3,hd5,hd4⟩,q,qe⟩:=h
    refine⟨_,((qss_cons (qs_set (i:=2) sc_looked_at.nd (by rfl) (Or.inl (by rfl)) (qe_makeN F_Looking___init__ hr (by decide) (qa_cons (qv 1) qa_nil)))
      (qss_cons (qs_set (i:=3) sc_looked_at.nd (by rfl) (Or.inl (by rfl)) (qe_methX thr_leave F_Looking_look_all hr (by decide) (qv 2) (qa_cons (qv 0) (qa_cons (qe_makeN F_Spot___init__ hr (by decide) (qa_cons (by exact(qe_callF0 F_begin hr (by decide))) (by exact(qa_cons (by exact(qe_lst qa_nil)) (by exact(qa_cons (by exact qe_int) (by exact qa_nil))))))) qa_nil))))
      (qss_cons (qs_if (qt_not (qt_val (qe_callF F_is_end hr (by decide) (qa_cons (qe_fld (K:=K) (by rfl) (qv 3)) qa_nil)))) (qss_one qs_never) qss_nil)
      (qss_one (qs_ret (qe_tup (qa_cons (qe_fld (K:=K) (by rfl) (qv 2)) (qa_cons (qe_fld (K:=K) (by rfl) (qv 2)) qa_nil))))))))).h,?_⟩
    walk_at "rd"
    intro x dx hx hd hne
    refine⟨dx,upd_same,fun ha pa H1 e1 g1 eh ep hap nh np=>?_⟩
    have hax:ha≠x:=fun z=>by subst z;rw [upd_same] at nh;cases nh
    have had:ha≠dx:=fun z=>by subst z;rw [upd_ne hne,upd_same] at nh;cases nh
    have gH:Same H H1:=fun b o e=>g1 b o (ne_of_none e hx) (by rw [upd_ne (ne_of_none e hx),upd_ne (ne_of_none e hd)];exact e)
    have nH:H ha=none:=by rw [upd_ne hax,upd_ne had] at nh;exact nh
    refine⟨dx,_,e1,rfl,fun v H2 g2 hv p hp2 x2 dx2 hx2 hd2 hne2=>⟨dx2,0,rfl,upd_same,?_⟩⟩
    have k1:=same_upd (o:=.lst []) hp2
    have k2:=made_is (t:=t) (ta:=p) (sv:=v) (n:=0) hx2 hd2 (.own x2) []
    have er:upd (upd (upd (upd H2 p (.lst [])) dx2 (.own x2)) x2 (.ins t.Spot dx2 [])) x2 (spO t dx2 v p 0) x2=some (spO t dx2 v p 0):=upd_same
    have ept:=k2 _ _ upd_same
    have k12:=k1.trans k2
    generalize hH3:upd (upd (upd (upd H2 p (.lst [])) dx2 (.own x2)) x2 (.ins t.Spot dx2 [])) x2 (spO t dx2 v p 0)=H3 at k2 er ept k12
    have e3:H3 ha=some (.lst []):=k12 _ _ (g2 _ _ eh)
    have hx3:=k12 _ _ (g2 _ _ e1)
    rw [← hide_ne (H:=H3) hax.symm] at hx3
    have hp3:p≠ha:=ne_new (g2 _ _ eh) hp2
    have hx23:x2≠ha:=ne_new (k1 _ _ (g2 _ _ eh)) hx2
    have g3:Same H (hide ha H3):=fun b o e=>by rw [hide_ne (ne_of_none e nH)];exact k12 _ _ (g2 _ _ (gH _ _ e))
    refine⟨x,ha,x2,pv,ps,⟨s00,[],0⟩,[],rfl,⟨hls,hd2'⟩,⟨dx,pa,hx3⟩,?_,spV_hid hx23 er (st_hid e3 (hv.mono k12)) (by rw [hide_ne hp3];exact ept),e3,⟨by decide,by show 0+_<=_;lia,by show 0+_<=_;lia,by show 0+_<=_;lia,by show 0+_<=_;lia⟩,fun e hs hk r hv4 H4 G4 ho4 sp4=>?_,fun f hk c d4 H4 g4 hf=>?_⟩
    · rw [if_neg (by decide)];exact hd1.mono g3
    · obtain⟨dx4,sv4,ta4,f1,f2,f3⟩:=sp4
      have hx4:=hide_le _ _ (G4.1 _ _ hx3)
      refine⟨r,rfl,_,_,_,hide_le _ _ f1,T.l_Spot,T.a_state,sv4,rfl,_,f2.mono hide_le,fun H5 g5=>?_⟩
      have hz:e.s=s00:=Classical.byContradiction fun z=>by
        have e0:lookTop ps=.error (.left e.T e.n):=by unfold lookTop;rw [hk];exact if_neg z
        rw [e0] at hd4
        exact hd4
      rw [if_neg (by rw [decide_eq_true hz];decide)]
      refine⟨_,_,_,g5 _ _ hx4,T.l_Looking,T.a_holes,.ref ha,rfl,_,_,_,g5 _ _ hx4,T.l_Looking,T.a_pairs,.ref pa,rfl,fun p6 hp6=>?_⟩
      have k6:=same_upd (o:=.tup [.ref ha,.ref pa]) hp6
      have g56:=g5.trans k6
      exact q hs (by unfold lookTop;rw [hk];exact if_pos hz) p6 ha pa hv4 _ ((g3.trans G4.1).trans (hide_le.trans g56)) upd_same (g56 _ _ G4.2) (ho4.mono (TpS.of (hide_le.trans g56)))
    · exact qe f (by unfold lookTop;rw [hk]) c d4 H4 ((g3.trans g4).trans hide_le) (hf.mono hide_le)
theorem ok_look (T:Txt w K mg t)(D:Df K mg "look" s_look ps_look)(F_looked_at:OkX P w K mg base 61 "looked_at" ps_looked_at (sp_looked_at t)):OkX P w K mg base 62 "look" ps_look (sp_look t):=by
  refine D.okX sc_look (fun vs H Q E h=>?_) (fun f cdv A outer s H vs Q E hr h=>?_)
  · obtain⟨_,_,rfl,_⟩:=h;rfl
  · obtain⟨pv,ps,rfl,hp,q,qe⟩:=h
    refine⟨_,((qss_one (qs_ret (qe_ix (ix_tupK (K:=K) (by rfl)) (qe_callX thr_leave F_looked_at hr (by decide) (qa_cons (qv 0) (qa_cons qe_non qa_nil))) qe_int (fun _ _=>(by rfl)))))).h,?_⟩
    walk_at "rd"
    exact⟨_,hp,fun hs hk r ha pa hv H' g e1 e2 ho=>⟨_,SqT.of e1,_,atI_0 _ _,q hs hk ha hv H' g e2 ho⟩,qe⟩
end
section
variable {P:Program} {w:World} {K:PySem.W.Frag} {mg:Str->Option Value} {base:Heap} {t:Ads}
theorem ok_law_other (T:Txt w K mg t)(D:Df K mg "_law_other" s__law_other ps__law_other):OkH P w K mg base 1 "_law_other" ps__law_other (sp__law_other K t):=by
  refine D.okH sc__law_other (fun vs H Q E h=>?_) (fun f cdv A outer s H vs Q E hr h=>?_)
  · obtain⟨_,_,_,rfl,_⟩:=h;rfl
  · obtain⟨ea,C,fs,rfl,G0,hC,q⟩:=h
    refine⟨_,((qss_cons (qs_if (qt_val (qe_callB (call_isXTK (K:=K) (by rfl)) (by rfl) T.z_isinstance bb_isinstance (qa_cons (qv 0) (qa_cons (qe_tup (qa_cons (by exact(qe_cls T.m_NoCode)) (by exact(qa_cons (by exact(qe_cls T.m_NoElder)) (by exact(qa_cons (by exact(qe_cls T.m_NoKind)) (by exact(qa_cons (by exact(qe_cls T.m_NoName)) (by exact(qa_cons (by exact(qe_cls T.m_NoPage)) (by exact(qa_cons (by exact(qe_cls T.m_NoRow)) (by exact(qa_cons (by exact(qe_cls T.m_NoSheet)) (by exact(qa_cons (by exact(qe_cls T.m_NoSign)) (by exact(qa_cons (by exact(qe_cls T.m_Unread)) (by exact qa_nil))))))))))))))))))) qa_nil)))) (qss_one (qs_ret qe_bl)) qss_nil)
      (qss_one (qs_ret (qe_callB (call_isXTK (K:=K) (by rfl)) (by rfl) T.z_isinstance bb_isinstance (qa_cons (qv 0) (qa_cons (qe_tup (qa_cons (qe_cls T.m_NoValue) (qa_cons (qe_cls T.m_RingOver) (qa_cons (qe_cls T.m_Ringed) (qa_cons (qe_cls T.m_TooMany) (qa_cons (qe_cls T.m_Twice) (qa_cons (qe_cls T.m_Unended) (qa_cons (qe_cls T.m_Unknown) qa_nil)))))))) qa_nil))))))).h,?_⟩
    walk_at "rd"
    intro p hp
    have G1:=G0.mono (same_upd (o:=.tup [V.ref t.NoCode,V.ref t.NoElder,V.ref t.NoKind,V.ref t.NoName,V.ref t.NoPage,V.ref t.NoRow,V.ref t.NoSheet,V.ref t.NoSign,V.ref t.Unread]) hp)
    refine⟨C,_,_,upd_same,G1,rfl,false,by rcases hC with rfl | rfl;exact T.kit_Astray_l1;exact T.kit_Unlike_l1,?_⟩
    rw [if_neg (by decide)]
    intro p1 hp1
    have G2:=G1.mono (same_upd (o:=.tup [V.ref t.NoValue,V.ref t.RingOver,V.ref t.Ringed,V.ref t.TooMany,V.ref t.Twice,V.ref t.Unended,V.ref t.Unknown]) hp1)
    exact⟨C,_,_,upd_same,G2,rfl,false,by rcases hC with rfl | rfl;exact T.kit_Astray_l2;exact T.kit_Unlike_l2,q _ ((same_upd hp).trans (same_upd hp1))⟩
theorem ok_law_refusal (T:Txt w K mg t)(D:Df K mg "_law_refusal" s__law_refusal ps__law_refusal)(F__law_other:OkH P w K mg base 1 "_law_other" ps__law_other (sp__law_other K t)):OkH P w K mg base 2 "_law_refusal" ps__law_refusal (sp__law_refusal K t):=by
  refine D.okH sc__law_refusal (fun vs H Q E h=>?_) (fun f cdv A outer s H vs Q E hr h=>?_)
  · obtain⟨_,_,_,_,rfl,_⟩:=h;rfl
  · obtain⟨ea,C,d,f,rfl,hc,hf,ho,q⟩:=h
    refine⟨_,((qss_cons (qs_if (QW.qt (qw_and (qt_val (qe_callB (call_isXK (K:=K) (by rfl)) (by rfl) T.z_isinstance bb_isinstance (qa_cons (qv 0) (qa_cons (qe_blt (v:=.ty "ValueError") T.z_ValueError bb_ValueError (by rfl)) qa_nil)))) (qw_and1 (qt_not (qt_val (qe_callH F__law_other hr (by decide) (qa_cons (qv 0) qa_nil))))))) (qss_cons (qs_if (QW.qt (qw_and (qt_val (qe_callB (call_isXK (K:=K) (by rfl)) (by rfl) T.z_isinstance bb_isinstance (qa_cons (qv 0) (qa_cons (qe_cls T.m_Astray) qa_nil)))) (qw_and1 (qt_not (qt_val (qe_callB (call_isXTK (K:=K) (by rfl)) (by rfl) T.z_isinstance bb_isinstance (qa_cons (qv 0) (qa_cons (qe_tup (qa_cons (qe_cls T.m_NoPlace) (qa_cons (qe_cls T.m_Unlike) (qa_cons (qe_cls T.m_LeftOpen) qa_nil)))) qa_nil)))))))) (qss_one (qs_ret (qe_tup (qa_cons (by exact(qe_S (l:=[97,115,116,114,97,121]) (by decide +kernel))) (by exact(qa_cons (by exact(qe_atX (K:=K) (by rfl) (qv 0))) (by exact(qa_cons (by exact(qe_atX (K:=K) (by rfl) (qv 0))) (by exact qa_nil))))))))) qss_nil)
      (qss_cons (qs_if (QW.qt (qw_and (qt_val (qe_callB (call_isXK (K:=K) (by rfl)) (by rfl) T.z_isinstance bb_isinstance (qa_cons (qv 0) (qa_cons (qe_cls T.m_NoPlace) qa_nil)))) (qw_and1 (qt_not (qt_val (qe_callB (call_isXTK (K:=K) (by rfl)) (by rfl) T.z_isinstance bb_isinstance (qa_cons (qv 0) (qa_cons (qe_tup (qa_cons (qe_cls T.m_Unlike) (qa_cons (qe_cls T.m_LeftOpen) qa_nil))) qa_nil)))))))) (qss_one (qs_ret (qe_tup (qa_cons (by exact(qe_S (l:=[110,111,112,108,97,99,101]) (by decide +kernel))) (by exact(qa_cons (by exact(qe_atX (K:=K) (by rfl) (qv 0))) (by exact(qa_cons (by exact(qe_atX (K:=K) (by rfl) (qv 0))) (by exact qa_nil))))))))) qss_nil)
      (qss_cons (qs_if (QW.qt (qw_and (qt_val (qe_callB (call_isXK (K:=K) (by rfl)) (by rfl) T.z_isinstance bb_isinstance (qa_cons (qv 0) (qa_cons (qe_cls T.m_Unlike) qa_nil)))) (qw_and1 (qt_not (qt_val (qe_callB (call_isXK (K:=K) (by rfl)) (by rfl) T.z_isinstance bb_isinstance (qa_cons (qv 0) (qa_cons (qe_cls T.m_LeftOpen) qa_nil)))))))) (qss_one (qs_ret (qe_tup (qa_cons (by exact(qe_S (l:=[117,110,108,105,107,101]) (by decide +kernel))) (by exact(qa_cons (by exact(qe_atX (K:=K) (by rfl) (qv 0))) (by exact(qa_cons (by exact(qe_atX (K:=K) (by rfl) (qv 0))) (by exact(qa_cons (by exact(qe_atX (K:=K) (by rfl) (qv 0))) (by exact qa_nil))))))))))) qss_nil)
      (qss_one (qs_if (qt_val (qe_callB (call_isXK (K:=K) (by rfl)) (by rfl) T.z_isinstance bb_isinstance (qa_cons (qv 0) (qa_cons (qe_cls T.m_LeftOpen) qa_nil)))) (qss_one (qs_ret (qe_tup (qa_cons (qe_S (l:=[108,101,102,116]) (by decide +kernel)) (qa_cons (qe_atX (K:=K) (by rfl) (qv 0)) qa_nil))))) qss_nil))))) qss_nil)
      (qss_one (qs_ret (qe_tup (qa_cons (qe_S (l:=[111,100,100]) (by decide +kernel)) qa_nil)))))).h,?_⟩
    walk_at "rd"
    cases f with
    | noplace x Tn n=>exact ho.elim
    | left Tn n=>exact ho.elim
    | astray Tn n b=>
      obtain⟨hC,p,hd,hp⟩:=hf
      obtain rfl:C=t.Astray:=Value.ref.inj hC
      have G0:L2.Got K H ea t.Astray [("place",.ref p),("at",.int (b:Nat))]:=⟨T.c_Astray,d,hc,hd⟩
      refine⟨t.Astray,⟨_,G0⟩,rfl,true,T.kit_Astray_ve,?_⟩
      rw [if_pos rfl]
      refine⟨t.Astray,⟨_,G0⟩,.inl rfl,fun H1 g1=>?_⟩
      have G1:=G0.mono g1
      refine⟨t.Astray,⟨_,G1⟩,rfl,true,T.kit_Astray_a,?_⟩
      rw [if_pos rfl]
      intro p1 hp1
      have k1:=same_upd (o:=.tup [V.ref t.NoPlace,V.ref t.Unlike,V.ref t.LeftOpen]) hp1
      have G2:=G1.mono k1
      refine⟨t.Astray,_,_,upd_same,G2,rfl,false,T.kit_Astray_o,?_⟩
      rw [if_pos (by decide)]
      refine⟨t.Astray,_,G2,T.n_Astray_place,_,rfl,t.Astray,_,G2,T.n_Astray_at,_,rfl,fun p2 hp2=>?_⟩
      have k2:=same_upd (o:=.tup [V.str (S [97,115,116,114,97,121]),V.ref p,V.int (b:Nat)]) hp2
      have g:=g1.trans (k1.trans k2)
      exact q p2 _ g ⟨p2,_,rfl,upd_same,_,_,rfl,⟨rfl,rfl⟩,_,_,rfl,(hp.mono g).dt,_,_,rfl,⟨rfl,rfl⟩,rfl⟩
    | unlike wd Tn n T2 n2=>
      obtain⟨hC,a,p,p',hd,ha,hp,hp'⟩:=hf
      obtain rfl:C=t.Unlike:=Value.ref.inj hC
      have G0:L2.Got K H ea t.Unlike [("what",.ref a),("one",.ref p),("other",.ref p')]:=⟨T.c_Unlike,d,hc,hd⟩
      refine⟨t.Unlike,⟨_,G0⟩,rfl,true,T.kit_Unlike_ve,?_⟩
      rw [if_pos rfl]
      refine⟨t.Unlike,⟨_,G0⟩,.inr rfl,fun H1 g1=>?_⟩
      have G1:=G0.mono g1
      refine⟨t.Unlike,⟨_,G1⟩,rfl,false,T.kit_Unlike_a,?_⟩
      rw [if_neg (by decide)]
      refine⟨t.Unlike,⟨_,G1⟩,rfl,false,T.kit_Unlike_n,?_⟩
      rw [if_neg (by decide)]
      refine⟨t.Unlike,⟨_,G1⟩,rfl,true,T.kit_Unlike_u,?_⟩
      rw [if_pos rfl]
      refine⟨t.Unlike,⟨_,G1⟩,rfl,false,T.kit_Unlike_o,?_⟩
      rw [if_pos (by decide)]
      refine⟨t.Unlike,_,G1,T.n_Unlike_what,_,rfl,t.Unlike,_,G1,T.n_Unlike_one,_,rfl,t.Unlike,_,G1,T.n_Unlike_other,_,rfl,fun p2 hp2=>?_⟩
      have k2:=same_upd (o:=.tup [V.str (S [117,110,108,105,107,101]),V.ref a,V.ref p,V.ref p']) hp2
      have g:=g1.trans k2
      exact q p2 _ g ⟨p2,_,rfl,upd_same,_,_,rfl,⟨rfl,rfl⟩,_,_,rfl,⟨a,_,rfl,g _ _ ha,isDs_txs wd⟩,_,_,rfl,(hp.mono g).dt,_,_,rfl,(hp'.mono g).dt,rfl⟩
theorem ok_law_looked (T:Txt w K mg t)(D:Df K mg "_law_looked" s__law_looked ps__law_looked)(F_look:OkX P w K mg base 62 "look" ps_look (sp_look t))(F__law_refusal:OkH P w K mg base 2 "_law_refusal" ps__law_refusal (sp__law_refusal K t)):OkF P w K mg base 63 "_law_looked" ps__law_looked sp__law_looked:=by
  refine D.ok sc__law_looked (fun vs H Q E h=>?_) (fun f cdv A outer s H vs Q E hr h=>?_)
  · obtain⟨_,_,rfl,_⟩:=h;rfl
  · obtain⟨pv,ps,rfl,hp,q⟩:=h
    refine⟨_,((qss_cons (qs_try (i:=2) T.m_SealError T.c_SealError sc__law_looked.nd (by rfl) (by rfl) (by rfl) (by rfl) (fun E pn xe hp hx=>(qss_one (qs_set (i:=1) sc__law_looked.nd (by rfl) (Or.inl (by rfl)) (qe_callX hx F_look hr (by decide) (qa_cons (qv 0) qa_nil)))))
      (fun pn ea=>(qss_one (qs_ret (qe_callH F__law_refusal (hr.marked _) (by decide) (qa_cons (qv 2) qa_nil))))))
      (qss_one (qs_ret (qe_tup (qa_cons (qe_S (l:=[116,111,108,100]) (by decide +kernel)) (qa_cons (qv 1) qa_nil))))))).h,?_⟩
    walk_at "rd"
    have hok:=hp.2.2.2.2.2
    refine⟨ps,hp,fun hs hk ha hv H1 g1 e1 ho p1 hp1=>?_,fun f hk c d H1 g1 hf=>?_⟩
    · have k1:=same_upd (o:=.tup [V.str (S [116,111,108,100]),V.ref ha]) hp1
      rw [hk] at q
      exact q p1 _ (g1.trans k1) ⟨p1,_,rfl,upd_same,_,_,rfl,⟨rfl,rfl⟩,_,_,rfl,⟨ha,_,rfl,k1 _ _ e1,(ho.mono (TpS.of k1)).ds⟩,rfl⟩
    · rw [hk] at q hok
      obtain⟨C,rfl,hC⟩:∃ C,c=.ref C/\(C=t.Astray\/C=t.Unlike):=by
        cases f with
        | noplace x Tn n=>exact hok.elim
        | left Tn n=>exact hok.elim
        | astray Tn n b=>exact⟨_,hf.1,.inl rfl⟩
        | unlike wd Tn n T2 n2=>exact⟨_,hf.1,.inr rfl⟩
      refine⟨C,rfl,by rcases hC with rfl | rfl;exact T.c_Astray;exact T.c_Unlike,by rcases hC with rfl | rfl;exact T.kit_Astray_se;exact T.kit_Unlike_se,fun ea H2 g2 hc=>⟨C,d,hc,f,hf.mono g2,hok,fun r H3 g3 hr=>q r H3 (g1.trans (g2.trans g3)) hr⟩⟩
end
section
variable {P:Program} {w:World} {K:PySem.W.Frag} {mg:Str->Option Value} {base:Heap} {t:Ads}
theorem ok_law_menu (T:Txt w K mg t)(D:Df K mg "_law_menu" s__law_menu ps__law_menu)(F__law_mix:OkF P w K mg base 1 "_law_mix" ps__law_mix sp__law_mix):OkF P w K mg base 2 "_law_menu" ps__law_menu sp__law_menu:=by
  refine D.ok sc__law_menu (fun vs H Q E h=>?_) (fun f cdv A outer s H vs Q E hr h=>?_)
  · obtain⟨_,_,rfl,_⟩:=h;rfl
  · obtain⟨c,k,rfl,hk,q⟩:=h
    refine⟨_,((qss_cons (qs_set (i:=2) sc__law_menu.nd (by rfl) (Or.inr (by rfl)) (qe_S (l:=[60,62,47,97,98,32,61,33,34,39,40,41,44,58,38,126,48,49,50,51,59,92,60,62,62,60,47,97,32,120]) (by decide +kernel)))
      (qss_cons ⟨ps_setLC (i:=3) sc__law_menu.nd rfl (Or.inl rfl) (lcs (N:=N__law_menu) (sc:=defScope s__law_menu) rfl rfl rfl (by decide +kernel)) ((qi_range1 (by rfl) T.z_range (qa_cons qe_int qa_nil))).h (fun _ _ _ _ _=>qts_nil.h) (fun _ _ _ _ _=>((qe_ix ix_S (qv 3) (qe_callF F__law_mix hr (by decide) (qa_cons (by exact(qe_op op_add (qv 1) (qe_op op_mulI (qv 2) qe_int))) (by exact(qa_cons (by exact(qe_op op_add qe_int (qv 0))) (by exact(qa_cons (by exact(qe_callB call_lenS (by rfl) T.z_len bb_len (qa_cons (qv 3) qa_nil))) (by exact qa_nil))))))) (fun _ _=>(by rfl)))).h)⟩
      (qss_one (qs_ret (qe_op op_cat (qv 3) (qe_lst (qa_cons (qe_S (l:=[120]) (by decide +kernel)) (qa_cons (qe_S (l:=[97]) (by decide +kernel)) (qa_cons (qe_S (l:=[32]) (by decide +kernel)) (qa_cons (qe_S (l:=[34]) (by decide +kernel)) qa_nil))))))))))).h,?_⟩
    walk_at "rd"
    refine⟨by decide,by decide,?_⟩
    refine lc_range (n:=5) (fun _ v=>∃ c∈sg,v=V.str (S [c])) (by rw [PySem.sizeLine_eq];decide) (fun i hi H2 g2 R r=>?_) (fun D H2 ys hD g2 hy hG e=>?_)
    · walk_at "rd"
      refine⟨mulOk_l (by lia),by lia,by lia,by decide,fun v H3 hv g3=>?_⟩
      have hv':v < [60,62,47,97,98,32,61,33,34,39,40,41,44,58,38,126,48,49,50,51,59,92,60,62,62,60,47,97,32,120].length:=by simp at hv ⊢;lia
      exact⟨_,List.getElem?_eq_getElem hv',r _ H3 ⟨_,(by decide:∀ c∈[60,62,47,97,98,32,61,33,34,39,40,41,44,58,38,126,48,49,50,51,59,92,60,62,62,60,47,97,32,120],c∈sg) _ (List.getElem_mem hv'),rfl⟩ g3⟩
    · obtain⟨cs,e1,e2,e3⟩:=drawn hy hG
      intro p hp
      refine⟨D,rfl,ys,same_upd hp _ _ e,_,upd_same,by rw [hy];show 5+4<=16777216;decide,fun p1 hp1=>?_⟩
      refine q p1 (cs++[120,97,32,34]) _ (by rw [List.length_append,e1];show 5+4<=20;decide) (fun d hd=>?_) (g2.trans ((same_upd hp).trans (same_upd hp1))) ?_
      · rcases List.mem_append.mp hd with z | z
        · exact e2 d z
        · exact(by decide:∀ c∈[120,97,32,34],c∈sg) d z
      rw [upd_same,e3,List.map_append,List.map_map]
      rfl
def fI (s0:MS)(c:Int)(m:Nat)(H:Hp)(i:Nat)(σ:L2.St)(H':Hp):Prop:=∃ (v:V) (s:MS) (l:List Nat) (es:List Ev) (o4 o5 o6:Option V),σ=[some v,some (V.int c),some (V.int m),some (V.str (S l)),o4,o5,o6]/\Same H H'/\StV H' v s/\runM s0 l=.ok (s,es)/\l.length=i
def gI (s0:MS)(c:Int)(m i:Nat)(p:Addr)(cs:List Nat)(H:Hp)(_:Nat)(σ:L2.St)(H':Hp):Prop:=∃ (v:V) (s:MS) (l:List Nat) (es:List Ev) (o5 o6:Option V),σ=[some v,some (V.int c),some (V.int m),some (V.str (S l)),some (V.int i),o5,o6]/\Same H H'/\StV H' v s/\runM s0 l=.ok (s,es)/\(l.length=i\/l.length=i+1)/\H' p=some (.lst (cs.map fun c=>V.str (S [c])))
theorem ok_law_found (T:Txt w K mg t)(D:Df K mg "_law_found" s__law_found ps__law_found)(F__law_menu:OkF P w K mg base 2 "_law_menu" ps__law_menu sp__law_menu)(F_step:OkF P w K mg base 7 "step" ps_step sp_step):OkF P w K mg base 8 "_law_found" ps__law_found sp__law_found:=by
  refine D.ok sc__law_found (fun vs H Q E h=>?_) (fun f cdv A outer s H vs Q E hr h=>?_)
  · obtain⟨_,_,_,_,rfl,_⟩:=h;rfl
  · obtain⟨x,s0,c,m,rfl,hx,hw,ho,hm,q⟩:=h
    refine⟨_,((qss_cons (qs_set (i:=3) sc__law_found.nd (by rfl) (Or.inl (by rfl)) (qe_S (l:=[]) (by decide +kernel)))
      (qss_cons (qs_for PassesOwn.never (by rfl) (qi_range1 (by rfl) T.z_range (qa_cons (qv 2) qa_nil)) (qg_name (i:=4) sc__law_found.nd (by rfl) (Or.inl (by rfl))) (qss_cons (qs_for PassesOwn.never (by rfl) (qi_listK (K:=K) (by rfl) (qe_callF F__law_menu hr (by decide) (qa_cons (qv 1) (qa_cons (qv 4) qa_nil)))) (qg_name (i:=5) sc__law_found.nd (by rfl) (Or.inl (by rfl))) (qss_cons (qs_set (i:=6) sc__law_found.nd (by rfl) (Or.inl (by rfl)) (qe_callF F_step hr (by decide) (qa_cons (qv 0) (qa_cons (qv 5) qa_nil))))
      (qss_one (qs_if (QW.qt (qw_and (qt_cmpR op_notN (qv 6) qe_non (nomark _)) (qw_and1 (qt_cmpR op_eq (qe_callB call_lenS (by rfl) T.z_len bb_len (qa_cons (qv 3) qa_nil)) (qv 4) (nomark _))))) (qss_cons (qs_set (i:=3) sc__law_found.nd (by rfl) (Or.inl (by rfl)) (qe_op op_addS (qv 3) (qv 5)))
      (qss_one (qs_set (i:=0) sc__law_found.nd (by rfl) (Or.inl (by rfl)) (qe_ix (ix_tupK (K:=K) (by rfl)) (qv 6) qe_int (fun _ _=>(by rfl)))))) qss_nil))))
      (qss_one (qs_if (qt_cmpR op_eq (qe_callB call_lenS (by rfl) T.z_len bb_len (qa_cons (qv 3) qa_nil)) (qv 4) (nomark _)) (qss_one (qs_ret (qv 3))) qss_nil))))
      (qss_one (qs_ret (qv 3)))))).h,?_⟩
    walk_at "rd"
    refine⟨by lia,by lia,fb_range (fI s0 c m H) ⟨x,s0,[],[],none,none,none,rfl,Same.refl H,hx,rfl,rfl⟩ ?_ ?_⟩
    · rintro i σ H2 hi ⟨v,s,l,es,o4,o5,o6,rfl,g2,hs,hr2,hl⟩
      walk_at "rd"
      refine⟨by lia,fun p cs H3 hcs hsg g3 hp=>⟨⟨_,SqL.of hp⟩,?_⟩⟩
      refine fb_list (K:=K) (a:=p) (xs:=cs.map fun c=>V.str (S [c])) (gI s0 c m i p cs H) ⟨v,s,l,es,o5,o6,rfl,g2.trans g3,hs.mono g3,hr2,.inl hl,hp⟩ (fun j σ H' _ hI=>?_) ?_ ?_
      · obtain⟨_,_,_,_,_,_,_,_,_,_,_,h⟩:=hI
        exact SqL.of h
      · rintro j x σ H4 hj ⟨v,s,l,es,o5,o6,rfl,g4,hs4,hr4,hl4,hp4⟩
        obtain⟨c1,rfl⟩:∃ c1,x=V.str (S [c1]):=by
          rw [List.getElem?_map] at hj
          cases e:cs[j]? with
          | none=>rw [e] at hj;cases hj
          | some z=>rw [e] at hj;exact⟨z,(Option.some.inj hj).symm⟩
        obtain⟨w1,w2,w3⟩:=run_len hr4 hw
        walk_at "rd"
        refine⟨s,hs4,by lia,by lia,fun v5 H5 g5 a=>?_⟩
        cases hq:stepM s c1 with
        | none=>
          rw [hq] at a
          cases (show v5=V.non from a)
          rw [if_neg (by decide)]
          exact⟨v,s,l,es,_,_,rfl,g4.trans g5,hs4.mono g5,hr4,hl4,g5 _ _ hp4⟩
        | some r=>
          obtain⟨s',fs⟩:=r
          rw [hq] at a
          obtain⟨qa,sa,ea,rfl,h1,h2,_,_⟩:=a
          rw [if_pos (by rw [decide_eq_false (by intro z;cases z)];rfl)]
          refine⟨by lia,?_⟩
          split
          · rename_i he
            have he:l.length=i:=by lia
            refine⟨by lia,qa,rfl,_,SqT.of h1,_,rfl,?_⟩
            exact⟨sa,s',l++[c1],es++fs,_,_,rfl,g4.trans g5,h2,runM_app hr4 (runM_one hq),.inr (by rw [List.length_append,List.length_singleton,he]),g5 _ _ hp4⟩
          · exact⟨v,s,l,es,_,_,rfl,g4.trans g5,hs4.mono g5,hr4,hl4,g5 _ _ hp4⟩
      · rintro σ H4 ⟨v,s,l,es,o5,o6,rfl,g4,hs4,hr4,hl4,hp4⟩
        walk_at "rd"
        refine⟨by lia,?_⟩
        split
        · exact q l s es H4 (by lia) hr4 g4
        · rename_i he
          exact⟨v,s,l,es,_,_,_,rfl,g4,hs4,hr4,by lia⟩
    · rintro σ H2 ⟨v,s,l,es,o4,o5,o6,rfl,g2,hs,hr2,hl⟩
      walk_at "rd"
      exact q l s es H2 (by rw [hl];lia) hr2 g2
theorem ok_law_ran (T:Txt w K mg t)(D:Df K mg "_law_ran" s__law_ran ps__law_ran)(F_run:OkX P w K mg base 8 "run" ps_run (sp_run t)):OkF P w K mg base 9 "_law_ran" ps__law_ran sp__law_ran:=by
  refine D.ok sc__law_ran (fun vs H Q E h=>?_) (fun f cdv A outer s H vs Q E hr h=>?_)
  · obtain⟨_,_,_,rfl,_⟩:=h;rfl
  · obtain⟨x,s0,l,rfl,hx,hw,hl,k⟩:=h
    refine⟨_,((qss_cons (qs_try (i:=3) T.m_Unread T.c_Unread sc__law_ran.nd (by rfl) (by rfl) (by rfl) (by rfl) (fun E pn xe hp hx=>(qss_one (qs_set (i:=2) sc__law_ran.nd (by rfl) (Or.inl (by rfl)) (qe_callX hx F_run hr (by decide) (qa_cons (qv 0) (qa_cons (qv 1) qa_nil))))))
      (fun pn ea=>(qss_one (qs_ret (qe_tup (qa_cons (qe_S (l:=[114,101,102,117,115,101,100]) (by decide +kernel)) (qa_cons (qe_atX (K:=K) (by rfl) (qv 3)) qa_nil)))))))
      (qss_one (qs_ret (qv 2))))).h,?_⟩
    walk_at "rd"
    refine⟨s0,hx,hw,hl,fun s' es hr v H' g r=>k v H' g (by rw [hr];exact r),fun b hb d H1 g1 hd=>⟨t.Unread,rfl,T.c_Unread,T.kit_up_ur,fun ea H2 g2 hc=>?_⟩⟩
    have G0:L2.Got K H2 ea t.Unread [("at",.int (b:Nat))]:=⟨T.c_Unread,d,hc,g2 _ _ hd⟩
    exact⟨t.Unread,_,G0,T.n_Unread_at,_,rfl,fun p1 hp1=>k _ _ (g1.trans (g2.trans (same_upd hp1))) (by rw [hb];exact⟨p1,rfl,upd_same⟩)⟩
theorem ok_law_seat (T:Txt w K mg t)(D:Df K mg "_law_seat" s__law_seat ps__law_seat):OkF P w K mg base 1 "_law_seat" ps__law_seat sp__law_seat:=by
  refine D.ok sc__law_seat (fun vs H Q E h=>?_) (fun f cdv A outer s H vs Q E hr h=>?_)
  · obtain⟨_,rfl,_⟩:=h;rfl
  · obtain⟨l,rfl,hl,q⟩:=h
    refine⟨_,((qss_one (qs_ret (qe_tup (qa_cons (by exact(qe_S (l:=[115,101,97,116]) (by decide +kernel))) (by exact(qa_cons (by exact(qe_S (l:=[100,114,97,119]) (by decide +kernel))) (by exact(qa_cons (by exact(qe_S (l:=[112]) (by decide +kernel))) (by exact(qa_cons (by exact(qe_S (l:=[]) (by decide +kernel))) (by exact(qa_cons (by exact(qe_op op_mulL (qe_lst (qa_cons (qe_tup (qa_cons (qe_S (l:=[108,105,116]) (by decide +kernel)) (qa_cons (qv 0) qa_nil))) qa_nil)) (qe_callTy call_intB (by rfl) T.z_int bb_int (qa_cons (qe_cmpR op_ne (qv 0) (qe_S (l:=[]) (by decide +kernel)) (nomark _)) qa_nil)))) (by exact qa_nil)))))))))))))).h,?_⟩
    walk_at "rd"
    intro p hp p1 hp1
    have k0:=same_upd (o:=.tup [V.str (S [108,105,116]),V.str (S l)]) hp
    have k1:=same_upd (o:=.lst [V.ref p]) hp1
    have en:(if (!decide (l=[]))=true then(1:Int) else 0)=(((Lt l).length:Nat):Int):=by
      by_cases h:l=[]<;>simp [Lt,h]
    have hl1:=(lt_sz l).2.2.2.2
    rw [en]
    refine⟨_,upd_same,by lia,by lia,by simp;lia,fun p2 hp2 p3 hp3=>?_⟩
    generalize hz:(List.replicate (((Lt l).length:Nat):Int).toNat [V.ref p]).flatten=zs at hp3 ⊢
    have k2:=same_upd (o:=.lst zs) hp2
    have k3:=same_upd (o:=.tup [V.str (S [115,101,97,116]),V.str (S [100,114,97,119]),V.str (S [112]),V.str (S []),V.ref p2]) hp3
    have a2:=k2.trans k3
    have a1:=k1.trans a2
    refine q p3 _ (k0.trans a1) (dt_seat (w:=[100,114,97,119]) (n:=[112]) (m:=[]) upd_same ⟨p2,_,rfl,k3 _ _ upd_same,?_⟩)
    by_cases h:l=[]
    · obtain rfl:zs=[]:=by rw [← hz];simp [Lt,h]
      rw [show Lt l=[] from if_pos h]
      simp only [dPs]
      rfl
    · obtain rfl:zs=[V.ref p]:=by rw [← hz];simp [Lt,h]
      rw [show Lt l=[.lit l] from if_neg h]
      exact dt_lit (a1 _ _ upd_same)
end
section
variable {P:Program} {w:World} {K:PySem.W.Frag} {mg:Str->Option Value} {base:Heap} {t:Ads}
def sI7 (n:Nat)(H:Hp)(σ:L2.St)(H':Hp):Prop:=∃ (p:Addr) (xs:List V),σ=[some (.ref p)]/\Same H H'/\H' p=some (.lst xs)/\HoA H' xs (spotsL.take n)
theorem ok_law_spots (T:Txt w K mg t)(D:Df K mg "_law_spots" s__law_spots ps__law_spots):OkF P w K mg base 1 "_law_spots" ps__law_spots sp__law_spots:=by
  refine D.ok sc__law_spots (fun vs H Q E h=>?_) (fun f cdv A outer s H vs Q E hr h=>?_)
  · obtain⟨rfl,_⟩:=h;rfl
  · obtain⟨rfl,q⟩:=h
    refine⟨_,((qss_cons (qs_set (i:=0) sc__law_spots.nd (by rfl) (Or.inl (by rfl)) (qe_lst (qa_cons (by exact(qe_tup (qa_cons (qe_S (l:=[]) (by decide +kernel)) (qa_cons (qe_S (l:=[]) (by decide +kernel)) qa_nil)))) (by exact(qa_cons (by exact(qe_tup (qa_cons (qe_S (l:=[60,97,62]) (by decide +kernel)) (qa_cons (qe_S (l:=[60,47,97,62]) (by decide +kernel)) qa_nil)))) (by exact(qa_cons (by exact(qe_tup (qa_cons (qe_S (l:=[60,97]) (by decide +kernel)) (qa_cons (qe_S (l:=[62,120,60,47,97,62]) (by decide +kernel)) qa_nil)))) (by exact(qa_cons (by exact(qe_tup (qa_cons (qe_S (l:=[60,97,32,98,61,34,99,34]) (by decide +kernel)) (qa_cons (qe_S (l:=[47,62]) (by decide +kernel)) qa_nil)))) (by exact(qa_cons (by exact(qe_tup (qa_cons (qe_S (l:=[60,97,32,98,58,99]) (by decide +kernel)) (qa_cons (qe_S (l:=[47,62]) (by decide +kernel)) qa_nil)))) (by exact qa_nil))))))))))))
      (qss_cons (qs_set (i:=0) sc__law_spots.nd (by rfl) (Or.inl (by rfl)) (qe_op op_cat (qv 0) (qe_lst (qa_cons (by exact(qe_tup (qa_cons (qe_S (l:=[60,97,32,98,40,99,41]) (by decide +kernel)) (qa_cons (qe_S (l:=[62,60,47,97,62]) (by decide +kernel)) qa_nil)))) (by exact(qa_cons (by exact(qe_tup (qa_cons (qe_S (l:=[60,97,32,98,61,34,99]) (by decide +kernel)) (qa_cons (qe_S (l:=[34,47,62]) (by decide +kernel)) qa_nil)))) (by exact(qa_cons (by exact(qe_tup (qa_cons (qe_S (l:=[60,97,32,98,40,99,44]) (by decide +kernel)) (qa_cons (qe_S (l:=[41,47,62]) (by decide +kernel)) qa_nil)))) (by exact qa_nil)))))))))
      (qss_cons (qs_set (i:=0) sc__law_spots.nd (by rfl) (Or.inl (by rfl)) (qe_op op_cat (qv 0) (qe_lst (qa_cons (qe_tup (qa_cons (qe_S (l:=[60,97,32,98,33,34,99,32,39]) (by decide +kernel)) (qa_cons (qe_S (l:=[39,34,47,62]) (by decide +kernel)) qa_nil))) (qa_cons (qe_tup (qa_cons (qe_S (l:=[60,97,32,98,33,34,99,32]) (by decide +kernel)) (qa_cons (qe_S (l:=[34,47,62]) (by decide +kernel)) qa_nil))) qa_nil)))))
      (qss_one (qs_ret (qe_op op_cat (qv 0) (qe_lst (qa_cons (qe_tup (qa_cons (qe_S (l:=[60,97,115,105,115,62]) (by decide +kernel)) (qa_cons (qe_S (l:=[60,47,97,115,105,115,62]) (by decide +kernel)) qa_nil))) (qa_cons (qe_tup (qa_cons (qe_S (l:=[60,97,32,98]) (by decide +kernel)) (qa_cons (qe_S (l:=[61,34,99,34,47,62]) (by decide +kernel)) qa_nil))) qa_nil)))))))))).h,?_⟩
    refine seq_gen (sI7 5 H) ?_ fun N hN=>?_
    · rintro σ H1 ⟨p,xs,rfl,g1,e1,o1⟩
      have l1:=o1.len
      refine seq_gen (sI7 8 H) ?_ fun N hN=>?_
      · rintro σ H2 ⟨p,xs,rfl,g2,e2,o2⟩
        have l2:=o2.len
        refine seq_gen (sI7 10 H) ?_ fun N hN=>?_
        · rintro σ H3 ⟨p,xs,rfl,g3,e3,o3⟩
          have l3:=o3.len
          walk_at "rd"
          intro p0 h0 p1 h1 p2 h2
          have k0:=same_upd (o:=.tup [V.str (S [60,97,115,105,115,62]),V.str (S [60,47,97,115,105,115,62])]) h0
          have k1:=same_upd (o:=.tup [V.str (S [60,97,32,98]),V.str (S [61,34,99,34,47,62])]) h1
          have k2:=same_upd (o:=.lst [V.ref p0,V.ref p1]) h2
          have a2:=k2
          have a1:=k1.trans a2
          have a0:=k0.trans a1
          refine⟨xs,a0 _ _ e3,_,upd_same,by rw [l3];show 10+2<=16777216;decide,fun p9 h9=>?_⟩
          have k9:=same_upd (o:=.lst (xs++[V.ref p0,V.ref p1])) h9
          exact q p9 _ _ (g3.trans (a0.trans k9)) upd_same (((o3.mono (TpS.of a0)).app (.cons ⟨p0,rfl,a1 _ _ upd_same⟩ (.cons ⟨p1,rfl,a2 _ _ upd_same⟩ (.nil)))).mono (TpS.of k9))
        · walk_at "rd"
          intro p0 h0 p1 h1 p2 h2
          have k0:=same_upd (o:=.tup [V.str (S [60,97,32,98,33,34,99,32,39]),V.str (S [39,34,47,62])]) h0
          have k1:=same_upd (o:=.tup [V.str (S [60,97,32,98,33,34,99,32]),V.str (S [34,47,62])]) h1
          have k2:=same_upd (o:=.lst [V.ref p0,V.ref p1]) h2
          have a2:=k2
          have a1:=k1.trans a2
          have a0:=k0.trans a1
          refine⟨xs,a0 _ _ e2,_,upd_same,by rw [l2];show 8+2<=16777216;decide,fun p9 h9=>?_⟩
          have k9:=same_upd (o:=.lst (xs++[V.ref p0,V.ref p1])) h9
          exact hN _ _ ⟨p9,_,rfl,g2.trans (a0.trans k9),upd_same,((o2.mono (TpS.of a0)).app (.cons ⟨p0,rfl,a1 _ _ upd_same⟩ (.cons ⟨p1,rfl,a2 _ _ upd_same⟩ (.nil)))).mono (TpS.of k9)⟩
      · walk_at "rd"
        intro p0 h0 p1 h1 p2 h2 p3 h3
        have k0:=same_upd (o:=.tup [V.str (S [60,97,32,98,40,99,41]),V.str (S [62,60,47,97,62])]) h0
        have k1:=same_upd (o:=.tup [V.str (S [60,97,32,98,61,34,99]),V.str (S [34,47,62])]) h1
        have k2:=same_upd (o:=.tup [V.str (S [60,97,32,98,40,99,44]),V.str (S [41,47,62])]) h2
        have k3:=same_upd (o:=.lst [V.ref p0,V.ref p1,V.ref p2]) h3
        have a3:=k3
        have a2:=k2.trans a3
        have a1:=k1.trans a2
        have a0:=k0.trans a1
        refine⟨xs,a0 _ _ e1,_,upd_same,by rw [l1];show 5+3<=16777216;decide,fun p9 h9=>?_⟩
        have k9:=same_upd (o:=.lst (xs++[V.ref p0,V.ref p1,V.ref p2])) h9
        exact hN _ _ ⟨p9,_,rfl,g1.trans (a0.trans k9),upd_same,((o1.mono (TpS.of a0)).app (.cons ⟨p0,rfl,a1 _ _ upd_same⟩ (.cons ⟨p1,rfl,a2 _ _ upd_same⟩ (.cons ⟨p2,rfl,a3 _ _ upd_same⟩ (.nil))))).mono (TpS.of k9)⟩
    · walk_at "rd"
      intro p0 h0 p1 h1 p2 h2 p3 h3 p4 h4 p5 h5
      have k0:=same_upd (o:=.tup [V.str (S []),V.str (S [])]) h0
      have k1:=same_upd (o:=.tup [V.str (S [60,97,62]),V.str (S [60,47,97,62])]) h1
      have k2:=same_upd (o:=.tup [V.str (S [60,97]),V.str (S [62,120,60,47,97,62])]) h2
      have k3:=same_upd (o:=.tup [V.str (S [60,97,32,98,61,34,99,34]),V.str (S [47,62])]) h3
      have k4:=same_upd (o:=.tup [V.str (S [60,97,32,98,58,99]),V.str (S [47,62])]) h4
      have k5:=same_upd (o:=.lst [V.ref p0,V.ref p1,V.ref p2,V.ref p3,V.ref p4]) h5
      have a5:=k5
      have a4:=k4.trans a5
      have a3:=k3.trans a4
      have a2:=k2.trans a3
      have a1:=k1.trans a2
      have a0:=k0.trans a1
      exact hN _ _ ⟨p5,_,rfl,a0,upd_same,(.cons ⟨p0,rfl,a1 _ _ upd_same⟩ (.cons ⟨p1,rfl,a2 _ _ upd_same⟩ (.cons ⟨p2,rfl,a3 _ _ upd_same⟩ (.cons ⟨p3,rfl,a4 _ _ upd_same⟩ (.cons ⟨p4,rfl,a5 _ _ upd_same⟩ (.nil))))))⟩
end
section
variable {P:Program} {w:World} {K:PySem.W.Frag} {mg:Str->Option Value} {base:Heap} {t:Ads}
theorem ok_law_due (T:Txt w K mg t)(D:Df K mg "_law_due" s__law_due ps__law_due)(F__law_ran:OkF P w K mg base 9 "_law_ran" ps__law_ran sp__law_ran):OkF P w K mg base 10 "_law_due" ps__law_due sp__law_due:=by
  refine D.ok sc__law_due (fun vs H Q E h=>?_) (fun f cdv A outer s H vs Q E hr h=>?_)
  · obtain⟨_,_,_,_,rfl,_⟩:=h;rfl
  · obtain⟨x,s,l,n,rfl,hx,hw,hl,q⟩:=h
    refine⟨_,((qss_cons (qs_set (i:=3) sc__law_due.nd (by rfl) (Or.inl (by rfl)) (qe_callF F__law_ran hr (by decide) (qa_cons (qv 0) (qa_cons (qv 1) qa_nil))))
      (qss_cons (qs_if (qt_cmpR (op_eqTS (hu64 hr)) (qe_ix (ix_tupK (K:=K) (by rfl)) (qv 3) qe_int (fun _ _=>(by rfl))) (qe_S (l:=[114,101,102,117,115,101,100]) (by decide +kernel)) (nomark _)) (qss_one (qs_ret (qe_tup (qa_cons (by exact(qe_S (l:=[97,115,116,114,97,121]) (by decide +kernel))) (by exact(qa_cons (by exact(qe_tup (qa_cons (qe_lst qa_nil) (qa_cons (qv 2) qa_nil)))) (by exact(qa_cons (by exact(qe_ix (ix_tupK (K:=K) (by rfl)) (qv 3) qe_int (fun _ _=>(by rfl)))) (by exact qa_nil))))))))) qss_nil)
      (qss_cons (qs_if (qt_cmpR (op_neD (hu64 hr)) (qe_ix (ix_tupK (K:=K) (by rfl)) (qv 3) qe_int (fun _ _=>(by rfl))) (qv 0) (nomark _)) (qss_one (qs_ret (qe_tup (qa_cons (by exact(qe_S (l:=[117,110,108,105,107,101]) (by decide +kernel))) (by exact(qa_cons (by exact(qe_tup (qa_cons (qe_S (l:=[115,101,97,116]) (by decide +kernel)) (qa_cons (qe_S (l:=[100,114,97,119]) (by decide +kernel)) (qa_cons (qe_S (l:=[112]) (by decide +kernel)) (qa_cons (qe_S (l:=[]) (by decide +kernel)) qa_nil)))))) (by exact(qa_cons (by exact(qe_tup (qa_cons (qe_lst qa_nil) (qa_cons (qv 2) qa_nil)))) (by exact(qa_cons (by exact(qe_tup (qa_cons (qe_lst qa_nil) (qa_cons (qe_op op_addA (qv 2) (qe_callTy call_intB (by rfl) T.z_int bb_int (qa_cons (qe_cmpR op_ne (qv 1) (qe_S (l:=[]) (by decide +kernel)) (nomark _)) qa_nil))) qa_nil)))) (by exact qa_nil))))))))))) qss_nil)
      (qss_one (qs_ret (qe_tup (qa_cons (qe_S (l:=[116,111,108,100]) (by decide +kernel)) (qa_cons (qe_lst qa_nil) qa_nil))))))))).h,?_⟩
    walk_at "rd"
    refine⟨s,hx,hw,hl,fun v H1 g1 hv=>?_⟩
    unfold dueR at q
    cases hr:runM s l with
    | error b=>
      rw [hr] at hv q
      obtain⟨p,rfl,hp⟩:=hv
      refine⟨p,rfl,_,SqT.of hp,_,atI_0 _ _,.inr ⟨_,rfl,?_⟩⟩
      rw [if_pos rfl]
      intro p1 h1 p2 h2
      have k1:=same_upd (o:=.lst []) h1
      have k2:=same_upd (o:=.tup [V.ref p1,V.int n]) h2
      refine⟨p,rfl,_,SqT.of (k2 _ _ (k1 _ _ hp)),_,atI_1 _ _ _,fun p3 h3=>?_⟩
      have k3:=same_upd (o:=.tup [V.str (S [97,115,116,114,97,121]),V.ref p2,V.int b]) h3
      exact q p3 _ (g1.trans (k1.trans (k2.trans k3))) ⟨p3,_,rfl,upd_same,_,_,rfl,⟨rfl,rfl⟩,_,_,rfl,PlV.dt (T:=[]) ⟨p1,k3 _ _ upd_same,k3 _ _ (k2 _ _ upd_same)⟩,_,_,rfl,⟨rfl,rfl⟩,rfl⟩
    | ok r=>
      obtain⟨z,es⟩:=r
      rw [hr] at hv q
      obtain⟨p,sa,ea,rfl,h1,h2,h3,_⟩:=hv
      have hx1:=hx.mono g1
      obtain⟨pz,rfl⟩:=st_ref h2
      obtain⟨px,rfl⟩:=st_ref hx
      obtain⟨_,_,ez,hz1,_⟩:=id h2
      cases ez
      refine⟨p,rfl,_,SqT.of h1,_,atI_0 _ _,.inl ⟨pz,rfl,⟨_,hz1⟩,p,rfl,_,SqT.of h1,_,atI_0 _ _,_,_,pz,rfl,px,rfl,h2.dat,hx1.dat,dep_S _,?_⟩⟩
      rw [eqS_dec]
      by_cases hz:z=s
      · rw [if_neg (by rw [decide_eq_true hz];decide)]
        intro p1 e1 p2 e2
        have k1:=same_upd (o:=.lst []) e1
        have k2:=same_upd (o:=.tup [V.str (S [116,111,108,100]),V.ref p1]) e2
        refine q p2 _ (g1.trans (k1.trans k2)) ?_
        simp only [if_pos hz]
        exact⟨p2,_,rfl,upd_same,_,_,rfl,⟨rfl,rfl⟩,_,_,rfl,⟨p1,_,rfl,k2 _ _ upd_same,rfl⟩,rfl⟩
      · rw [if_pos (by rw [decide_eq_false hz];decide)]
        intro p1 e1 p2 e2 p3 e3 p4 e4 p5 e5 p6 e6
        have en:((n:Nat):Int)+(if (!decide (l=[]))=true then(1:Int) else 0)=((n+if l=[] then 0 else 1:Nat):Int):=by
          by_cases h:l=[]<;>simp [h]
        rw [en] at e6 ⊢
        have k1:=same_upd (o:=.tup [V.str (S [115,101,97,116]),V.str (S [100,114,97,119]),V.str (S [112]),V.str (S [])]) e1
        have k2:=same_upd (o:=.lst []) e2
        have k3:=same_upd (o:=.tup [V.ref p2,V.int n]) e3
        have k4:=same_upd (o:=.lst []) e4
        have k5:=same_upd (o:=.tup [V.ref p4,V.int ((n+if l=[] then 0 else 1:Nat):Int)]) e5
        have k6:=same_upd (o:=.tup [V.str (S [117,110,108,105,107,101]),V.ref p1,V.ref p3,V.ref p5]) e6
        have a5:=k5.trans k6
        have a4:=k4.trans a5
        have a3:=k3.trans a4
        have a2:=k2.trans a3
        refine q p6 _ (g1.trans (k1.trans a2)) ?_
        simp only [if_neg hz]
        exact⟨p6,_,rfl,upd_same,_,_,rfl,⟨rfl,rfl⟩,_,_,rfl,⟨p1,_,rfl,a2 _ _ upd_same,isDs_txs [kSeat,[100,114,97,119],[112],[]]⟩,_,_,rfl,PlV.dt (T:=[]) ⟨p2,a4 _ _ upd_same,a3 _ _ upd_same⟩,_,_,rfl,PlV.dt (T:=[]) ⟨p4,k6 _ _ upd_same,a5 _ _ upd_same⟩,rfl⟩
theorem take_run {s s1:MS}{es:List Ev}{l:List Nat}(h:runM s l=.ok (s1,es))(k:Nat):∃ s2 e2,runM s (l.take k)=.ok (s2,e2):=by
  rw [← List.take_append_drop k l] at h
  obtain⟨s2,e2,e3,r,_⟩:=runM_split h
  exact⟨s2,e2,r⟩
theorem cut_loR {v:List Nat}{n:Nat}(h:n<=v.length):cutN v none (some (n:Int))=v.take n:=by
  unfold cutN
  rw [HT.sIx_nat,HT.sIx_none]
  show(v.drop 0).take (min n v.length - 0)=_
  rw [List.drop_zero,Nat.sub_zero,Nat.min_eq_left h]
theorem ok_law_evens (T:Txt w K mg t)(D:Df K mg "_law_evens" s__law_evens ps__law_evens)(F_run:OkX P w K mg base 8 "run" ps_run (sp_run t))(F_begin:OkF P w K mg base 1 "begin" ps_begin sp_begin)(F__law_found:OkF P w K mg base 8 "_law_found" ps__law_found sp__law_found):OkF P w K mg base 9 "_law_evens" ps__law_evens sp__law_evens:=by
  refine D.ok sc__law_evens (fun vs H Q E h=>?_) (fun f cdv A outer s H vs Q E hr h=>?_)
  · obtain⟨_,_,_,_,rfl,_⟩:=h;rfl
  · obtain⟨p,a,c,n,rfl,hp,hm,q⟩:=h
    refine⟨_,((qss_cons (qs_set (i:=2) sc__law_evens.nd (by rfl) (Or.inl (by rfl)) (qe_ix (ix_tupK (K:=K) (by rfl)) (qe_callN F_run hr (by decide) (qa_cons (qe_callF0 F_begin hr (by decide)) (qa_cons (qe_ix (ix_tupK (K:=K) (by rfl)) (qv 0) qe_int (fun _ _=>(by rfl))) qa_nil))) qe_int (fun _ _=>(by rfl))))
      (qss_cons (qs_set (i:=2) sc__law_evens.nd (by rfl) (Or.inl (by rfl)) (qe_tup (qa_cons (by exact(qe_ix (ix_tupK (K:=K) (by rfl)) (qv 2) qe_int (fun _ _=>(by rfl)))) (by exact(qa_cons (by exact(qe_ix (ix_tupK (K:=K) (by rfl)) (qv 2) qe_int (fun _ _=>(by rfl)))) (by exact(qa_cons (by exact(qe_tup qa_nil)) (by exact(qa_cons (by exact(qe_ix (ix_tupK (K:=K) (by rfl)) (qv 2) qe_int (fun _ _=>(by rfl)))) (by exact qa_nil))))))))))
      (qss_cons (qs_set (i:=3) sc__law_evens.nd (by rfl) (Or.inl (by rfl)) (qe_callF F__law_found hr (by decide) (qa_cons (qv 2) (qa_cons (qv 1) (qa_cons qe_int qa_nil)))))
      (qss_cons (qs_for PassesOwn.never (by rfl) (qi_range3 (by rfl) T.z_range (qa_cons (by exact(qe_callB call_lenS (by rfl) T.z_len bb_len (qa_cons (qv 3) qa_nil))) (by exact(qa_cons (by exact qe_int) (by exact(qa_cons (by exact(qe_un un_neg qe_int)) (by exact qa_nil))))))) (qg_name (i:=4) sc__law_evens.nd (by rfl) (Or.inl (by rfl))) (qss_one (qs_if (qt_cmpR (op_eqD (hu64 hr)) (qe_ix (ix_tupK (K:=K) (by rfl)) (qe_callN F_run hr (by decide) (qa_cons (qv 2) (qa_cons (qe_slice sl_S (qv 3) qo_none (qo_some (qv 4))) qa_nil))) qe_int (fun _ _=>(by rfl))) (qv 2) (nomark _)) (qss_one (qs_ret (qe_slice sl_S (qv 3) qo_none (qo_some (qv 4))))) qss_nil)))
      (qss_one (qs_ret (qe_S (l:=[]) (by decide +kernel))))))))).h,?_⟩
    walk_at "rd"
    obtain⟨s0,⟨⟨es,r1⟩,_,_,_,l1,l2,l3,l4⟩⟩:=spots_ok _ hm
    intro v H1 g1 hv
    have w1:=l1
    refine⟨_,SqT.of (g1 _ _ hp),_,atI_0 _ _,s00,a,rfl,hv,by decide,by show 0+_<=_;dsimp only at l1;lia,fun s' es' hr v2 H2 g2 hv2=>?_,fun b hr=>by rw [r1] at hr;cases hr⟩
    rw [r1] at hr
    cases hr
    obtain⟨p2,sa,ea,rfl,f1,⟨ps,po,rfl,f2,f3⟩,_⟩:=hv2
    have S1:=SqT.of (K:=K) f1
    have S2:=SqT.of (K:=K) f2
    refine⟨p2,rfl,_,S1,_,atI_0 _ _,ps,rfl,_,S2,_,atI_0 _ _,ps,rfl,_,S2,_,atI_1 _ _ _,fun p4 h4=>?_⟩
    have k4:=same_upd (o:=.tup []) h4
    refine⟨ps,rfl,_,SqT.of (k4 _ _ f2),_,atI_3 _ _ _ _ _,fun p6 h6=>?_⟩
    have k6:=same_upd (o:=.tup [tx s0.mode,tx s0.word,V.ref p4,tx s0.talk]) h6
    have hfl:StV _ (V.ref p6) (flo s0):=⟨p6,p4,rfl,upd_same,k6 _ _ upd_same⟩
    refine⟨flo s0,12,rfl,hfl,l3,by simp,by decide,fun l s3 e3 H3 hl hr3 g3=>?_⟩
    obtain⟨z1,z2,z3⟩:=(by decide:∀ m:Fin 13,Builtin.Range.small (m.1:Int) 0 (-1)=true/\Builtin.divisionGoesByPylong (0 - (m.1:Int)) (-1)=false/\((m.1:Nat):Int)=Builtin.Range.rangeSize (m.1:Int) 0 (-1)) ⟨l.length,by lia⟩
    have g14:=g1.trans (g2.trans (k4.trans (k6.trans g3)))
    refine⟨by lia,by decide,z1,z2,l.length,z3,?_⟩
    refine fb_rangeD (fun _ σ H'=>∃ o,σ=[some (V.ref p),some (V.int n),some (V.ref p6),some (V.str (S l)),o]/\Same H3 H') ⟨_,rfl,Same.refl _⟩ ?_ ?_
    · rintro i σ H4 hi ⟨o,rfl,g4⟩
      have ek:(l.length:Int)+(i:Int) * (-1)=((l.length - i:Nat):Int):=by lia
      rw [ek]
      walk_at "rd"
      have hc:=cut_loR (v:=l) (n:=l.length - i) (by lia)
      have hlen:(l.take (l.length - i)).length<=12:=by rw [List.length_take];lia
      have hf4:=(hfl.mono g3).mono g4
      rw [hc]
      refine⟨by lia,flo s0,hf4,l3,by simp;lia,fun s2 e2 hr2 v2 H5 g5 hv2=>?_,fun b hr2=>?_⟩
      · obtain⟨p5,sa5,ea5,rfl,d1,d2,_⟩:=hv2
        obtain⟨pz,rfl⟩:=st_ref d2
        refine⟨p5,rfl,_,SqT.of d1,_,atI_0 _ _,_,_,pz,rfl,d2.dat,(hf4.mono g5).dat,dep_S _,?_⟩
        split
        · exact⟨by lia,q _ _ hlen (g14.trans (g4.trans g5))⟩
        · exact g4.trans g5
      · obtain⟨s5,e5,r5⟩:=take_run hr3 (l.length - i)
        rw [r5] at hr2
        cases hr2
    · rintro σ H4 ⟨o,rfl,g4⟩
      walk_at "rd"
      exact q [] H4 (by simp) (g14.trans g4)
end
section
variable {P:Program} {w:World} {K:PySem.W.Frag} {mg:Str->Option Value} {base:Heap} {t:Ads}
def rt2 (p:Addr)(l:Tx)(s0:MS)(H:Hp)(σ:L2.St)(H':Hp):Prop:=∃ fv,σ=[some (V.ref p),some (V.str (S l)),some fv,none,none,none]/\Same H H'/\StV H' fv (flo s0)
def rt4 (p:Addr)(a c l:Tx)(s0:MS)(H:Hp)(σ:L2.St)(H':Hp):Prop:=∃ fv fa ca xs ys,σ=[some (V.ref p),some (V.str (S l)),some fv,some (V.ref fa),some (V.ref ca),none]/\Same H H'/\StV H' fv (flo s0)/\H' fa=some (.lst xs)/\IsDs H' (dPs (Lt a)) xs/\H' ca=some (.lst ys)/\IsDs H' (dPs (Lt c)) ys
def rt5 (p:Addr)(a c l:Tx)(s0:MS)(H:Hp)(σ:L2.St)(H':Hp):Prop:=∃ fv fa ca da xs ys,σ=[some (V.ref p),some (V.str (S l)),some fv,some (V.ref fa),some (V.ref ca),some (V.ref da)]/\Same H H'/\H' fa=some (.lst xs)/\IsDs H' (dPs (Lt a)) xs/\H' ca=some (.lst ys)/\IsDs H' (dPs (Lt c)) ys/\IsDt H' (reD (dueR (flo s0) l ((Lt a).length+1))) (.ref da)
theorem xlen {H:Hp}{a:Tx}{xs:List V}(h:IsDs H (dPs (Lt a)) xs):xs.length<=1:=by
  have:=h.len
  rw [dPs_len] at this
  have:=(lt_sz a).2.2.2.2
  lia
theorem ok_law_right (T:Txt w K mg t)(D:Df K mg "_law_right" s__law_right ps__law_right)(F_run:OkX P w K mg base 8 "run" ps_run (sp_run t))(F_begin:OkF P w K mg base 1 "begin" ps_begin sp_begin)(F__law_due:OkF P w K mg base 10 "_law_due" ps__law_due sp__law_due)(F__law_looked:OkF P w K mg base 63 "_law_looked" ps__law_looked sp__law_looked)(F__law_seat:OkF P w K mg base 1 "_law_seat" ps__law_seat sp__law_seat):OkF P w K mg base 64 "_law_right" ps__law_right sp__law_right:=by
  refine D.ok sc__law_right (fun vs H Q E h=>?_) (fun f cdv A outer s H vs Q E hr h=>?_)
  · obtain⟨_,_,_,_,rfl,_⟩:=h;rfl
  · obtain⟨p,a,c,l,rfl,hp,hm,hl,q⟩:=h
    refine⟨_,((qss_cons (qs_set (i:=2) sc__law_right.nd (by rfl) (Or.inl (by rfl)) (qe_ix (ix_tupK (K:=K) (by rfl)) (qe_callN F_run hr (by decide) (qa_cons (qe_callF0 F_begin hr (by decide)) (qa_cons (qe_ix (ix_tupK (K:=K) (by rfl)) (qv 0) qe_int (fun _ _=>(by rfl))) qa_nil))) qe_int (fun _ _=>(by rfl))))
      (qss_cons (qs_set (i:=2) sc__law_right.nd (by rfl) (Or.inl (by rfl)) (qe_tup (qa_cons (by exact(qe_ix (ix_tupK (K:=K) (by rfl)) (qv 2) qe_int (fun _ _=>(by rfl)))) (by exact(qa_cons (by exact(qe_ix (ix_tupK (K:=K) (by rfl)) (qv 2) qe_int (fun _ _=>(by rfl)))) (by exact(qa_cons (by exact(qe_tup qa_nil)) (by exact(qa_cons (by exact(qe_ix (ix_tupK (K:=K) (by rfl)) (qv 2) qe_int (fun _ _=>(by rfl)))) (by exact qa_nil))))))))))
      (qss_cons (qs_set (i:=3) sc__law_right.nd (by rfl) (Or.inl (by rfl)) (qe_op op_mulL (qe_lst (qa_cons (qe_tup (qa_cons (qe_S (l:=[108,105,116]) (by decide +kernel)) (qa_cons (qe_ix (ix_tupK (K:=K) (by rfl)) (qv 0) qe_int (fun _ _=>(by rfl))) qa_nil))) qa_nil)) (qe_callTy call_intB (by rfl) T.z_int bb_int (qa_cons (qe_cmpR op_ne (qe_ix (ix_tupK (K:=K) (by rfl)) (qv 0) qe_int (fun _ _=>(by rfl))) (qe_S (l:=[]) (by decide +kernel)) (nomark _)) qa_nil))))
      (qss_cons (qs_set (i:=4) sc__law_right.nd (by rfl) (Or.inl (by rfl)) (qe_op op_mulL (qe_lst (qa_cons (qe_tup (qa_cons (qe_S (l:=[108,105,116]) (by decide +kernel)) (qa_cons (qe_ix (ix_tupK (K:=K) (by rfl)) (qv 0) qe_int (fun _ _=>(by rfl))) qa_nil))) qa_nil)) (qe_callTy call_intB (by rfl) T.z_int bb_int (qa_cons (qe_cmpR op_ne (qe_ix (ix_tupK (K:=K) (by rfl)) (qv 0) qe_int (fun _ _=>(by rfl))) (qe_S (l:=[]) (by decide +kernel)) (nomark _)) qa_nil))))
      (qss_cons (qs_set (i:=5) sc__law_right.nd (by rfl) (Or.inl (by rfl)) (qe_callF F__law_due hr (by decide) (qa_cons (by exact(qv 2)) (by exact(qa_cons (by exact(qv 1)) (by exact(qa_cons (by exact(qe_op op_add (qe_callB (call_lenLK (K:=K) (by rfl)) (by rfl) T.z_len bb_len (qa_cons (qv 3) qa_nil)) qe_int)) (by exact qa_nil))))))))
      (qss_cons (qs_if (qt_cmpR (op_neD (hu64 hr)) (qe_callF F__law_looked hr (by decide) (qa_cons (qe_op op_cat (qe_op op_cat (qv 3) (qe_lst (qa_cons (qe_callF F__law_seat hr (by decide) (qa_cons (qv 1) qa_nil)) qa_nil))) (qv 4)) qa_nil)) (qv 5) (nomark _)) (qss_one (qs_ret qe_bl)) qss_nil)
      (qss_cons (qs_if (qt_cmpR op_ne (qe_ix (ix_tupK (K:=K) (by rfl)) (qv 5) qe_int (fun _ _=>(by rfl))) (qe_S (l:=[116,111,108,100]) (by decide +kernel)) (nomark _)) (qss_one (qs_ret qe_bl)) qss_nil)
      (qss_cons (qs_if (qt_cmpR (op_neD (hu64 hr)) (qe_callF F__law_looked hr (by decide) (qa_cons (qe_op op_cat (qe_op op_cat (qv 3) (qe_lst (qa_cons (qe_callF F__law_seat hr (by decide) (qa_cons (qv 1) qa_nil)) (qa_cons (qe_callF F__law_seat hr (by decide) (qa_cons (qv 1) qa_nil)) qa_nil)))) (qv 4)) qa_nil)) (qv 5) (nomark _)) (qss_one (qs_ret qe_bl)) qss_nil)
      (qss_one (qs_ret (qe_cmpR (op_eqD (hu64 hr)) (qe_callF F__law_looked hr (by decide) (qa_cons (qe_op op_cat (qe_op op_cat (qe_op op_cat (qe_op op_cat (qe_lst (qa_cons (qe_tup (qa_cons (qe_S (l:=[108,105,116]) (by decide +kernel)) (qa_cons (qe_S (l:=[60,98,62]) (by decide +kernel)) qa_nil))) qa_nil)) (qv 3)) (qe_lst (qa_cons (qe_callF F__law_seat hr (by decide) (qa_cons (qv 1) qa_nil)) qa_nil))) (qv 4)) (qe_lst (qa_cons (qe_tup (qa_cons (qe_S (l:=[108,105,116]) (by decide +kernel)) (qa_cons (qe_S (l:=[60,47,98,62]) (by decide +kernel)) qa_nil))) qa_nil))) qa_nil)) (qv 5) (nomark _))))))))))))).h,?_⟩
    obtain⟨s0,F⟩:=spots_ok _ hm
    obtain⟨es,r1⟩:=F.r1
    have l1:a.length<=20:=F.l1
    have l2:c.length<=20:=F.l2
    refine seq_gen2 (rt2 p l s0 H) ?_ fun N hN=>?_
    · rintro σ H1 ⟨fv,rfl,g1,f1⟩
      refine seq_gen2 (rt4 p a c l s0 H) ?_ fun N hN=>?_
      · rintro σ H2 ⟨fv,fa,ca,xs,ys,rfl,g2,f2,hfa,hxs,hca,hys⟩
        refine seq_gen1 (rt5 p a c l s0 H) ?_ fun N hN=>?_
        · rintro σ H3 ⟨fv,fa,ca,da,xs,ys,rfl,g3,hfa,hxs,hca,hys,hda⟩
          refine seq_gen1 (rt5 p a c l s0 H) ?_ fun N hN=>?_
          · rintro σ H4 ⟨fv,fa,ca,da,xs,ys,rfl,g4,hfa,hxs,hca,hys,hda⟩
            walk_at "rd"
            cases hd:dueR (flo s0) l ((Lt a).length+1) with
            | error f=>
              rw [hd] at hda
              obtain⟨x,vs,h4,hx⟩:∃ x vs,H4 da=some (.tup (tx x::vs))/\x≠[116,111,108,100]:=by
                cases f<;>(obtain⟨_,vs,e,h4,_,_,rfl,⟨rfl,_⟩,_⟩:=hda;cases e;exact⟨_,_,h4,by decide⟩)
              refine⟨_,SqT.of h4,_,atI_0 _ _,rfl,?_⟩
              rw [if_pos (by rw [decide_eq_false (tx_ne hx)];rfl)]
              exact q _ g4
            | ok hs=>
              rw [hd,due_ok hd] at hda
              obtain⟨vs,h4⟩:∃ vs,H4 da=some (.tup (tx kTold::vs)):=by obtain⟨_,vs,e,h4,_,_,rfl,⟨rfl,_⟩,_⟩:=id hda;cases e;exact⟨_,h4⟩
              refine⟨_,SqT.of h4,_,atI_0 _ _,rfl,?_⟩
              rw [if_neg (by rw [decide_eq_true (show tx kTold=V.str (S [116,111,108,100]) from rfl)];decide)]
              refine⟨by lia,fun r H5 g5 hr=>⟨by lia,fun r' H6 g6 hr' p1 h1=>?_⟩⟩
              have k1:=same_upd (o:=.lst [V.ref r,V.ref r']) h1
              have lx:=xlen hxs
              have ly:=xlen hys
              refine⟨xs,k1 _ _ (g6 _ _ (g5 _ _ hfa)),_,upd_same,by simp;lia,fun p2 h2=>?_⟩
              have k2:=same_upd (o:=.lst (xs++[V.ref r,V.ref r'])) h2
              refine⟨_,upd_same,ys,k2 _ _ (k1 _ _ (g6 _ _ (g5 _ _ hca))),by simp;lia,fun p3 h3=>?_⟩
              have k3:=same_upd (o:=.lst (xs++[V.ref r,V.ref r']++ys)) h3
              have kk:=k1.trans (k2.trans k3)
              have g:=g5.trans (g6.trans kk)
              have hD:=(((hxs.mono g).app ((hr.mono (g6.trans kk)).app (hr'.mono kk)))).app (hys.mono g)
              rw [← dPs_app,← dPs_app,← dPs_app,show Lt a++([seatP l]++[seatP l])++Lt c=Lt a++seatP l::seatP l::Lt c by simp] at hD
              have hS:=((Sm.lt l1).app ((Sm.seat hl).app (Sm.seat hl))).app (Sm.lt l2)
              rw [show Lt a++([seatP l]++[seatP l])++Lt c=Lt a++seatP l::seatP l::Lt c by simp] at hS
              have e2:=look_two F hd
              refine⟨_,lkp_of upd_same hD hS (by decide) (by decide) (by rw [e2];trivial),fun r7 H7 g7 hr7=>?_⟩
              rw [e2] at hr7
              have g47:=g.trans g7
              refine⟨_,hr7,_,hda.mono g47,by simp [reD,dHo,depD,depDs],?_⟩
              rw [if_neg (by rw [eqD_refl hr7.flat];decide)]
              intro p4 h4 p5 h5
              have k4:=same_upd (o:=.tup [V.str (S [108,105,116]),V.str (S [60,98,62])]) h4
              have k5:=same_upd (o:=.lst [V.ref p4]) h5
              have k45:=k4.trans k5
              refine⟨_,upd_same,xs,k45 _ _ (g47 _ _ hfa),by simp;lia,fun p6 h6=>⟨by lia,fun r8 H8 g8 hr8 p7 h7=>?_⟩⟩
              have k6:=same_upd (o:=.lst ([V.ref p4]++xs)) h6
              have k7:=same_upd (o:=.lst [V.ref r8]) h7
              have g58:=k5.trans (k6.trans (g8.trans k7))
              have g48:=k4.trans g58
              refine⟨_,k7 _ _ (g8 _ _ upd_same),_,upd_same,by simp;lia,fun p8 h8=>?_⟩
              have k8:=same_upd (o:=.lst ([V.ref p4]++xs++[V.ref r8])) h8
              refine⟨_,upd_same,ys,k8 _ _ (g48 _ _ (g47 _ _ hca)),by simp;lia,fun p9 h9 p10 h10 p11 h11=>?_⟩
              have k9:=same_upd (o:=.lst ([V.ref p4]++xs++[V.ref r8]++ys)) h9
              have k10:=same_upd (o:=.tup [V.str (S [108,105,116]),V.str (S [60,47,98,62])]) h10
              have k11:=same_upd (o:=.lst [V.ref p10]) h11
              refine⟨_,k11 _ _ (k10 _ _ upd_same),_,upd_same,by simp;lia,fun p12 h12=>?_⟩
              have k12:=same_upd (o:=.lst ([V.ref p4]++xs++[V.ref r8]++ys++[V.ref p10])) h12
              have b11:=k11.trans k12
              have b8:=k8.trans (k9.trans (k10.trans b11))
              have gL:=g47.trans (g48.trans b8)
              have hE:=((((dt_lit (t:=[60,98,62]) ((g58.trans b8) _ _ upd_same)).app (hxs.mono gL)).app (hr8.mono (k7.trans b8))).app (hys.mono gL)).app (dt_lit (t:=[60,47,98,62]) (b11 _ _ upd_same))
              rw [← dPs_app,← dPs_app,← dPs_app,← dPs_app,show [Pc.lit [60,98,62]]++Lt a++[seatP l]++Lt c++[.lit [60,47,98,62]]=.lit [60,98,62]::(Lt a++(seatP l::(Lt c++[.lit [60,47,98,62]]))) by simp] at hE
              have hS2:=((((Sm.lit (l:=[60,98,62])).app (Sm.lt l1)).app (Sm.seat hl)).app (Sm.lt l2)).app (Sm.lit (l:=[60,47,98,62]))
              rw [show [Pc.lit [60,98,62]]++Lt a++[seatP l]++Lt c++[.lit [60,47,98,62]]=.lit [60,98,62]::(Lt a++(seatP l::(Lt c++[.lit [60,47,98,62]]))) by simp] at hS2
              have e3:=look_in F hd
              refine⟨_,lkp_of upd_same hE hS2 (by decide) (by decide) (by rw [e3];trivial),fun r9 H9 g9 hr9=>?_⟩
              rw [e3] at hr9
              refine⟨_,hr9,_,hda.mono (gL.trans g9),by simp [reD,dHo,depD,depDs],?_⟩
              rw [eqD_refl hr9.flat]
              exact q _ (g4.trans (gL.trans g9))
          · walk_at "rd"
            refine⟨by lia,fun r H4 g4 hs p1 h1=>?_⟩
            have k1:=same_upd (o:=.lst [V.ref r]) h1
            have lx:=xlen hxs
            have ly:=xlen hys
            refine⟨xs,k1 _ _ (g4 _ _ hfa),_,upd_same,by simp;lia,fun p2 h2=>?_⟩
            have k2:=same_upd (o:=.lst (xs++[V.ref r])) h2
            refine⟨_,upd_same,ys,k2 _ _ (k1 _ _ (g4 _ _ hca)),by simp;lia,fun p3 h3=>?_⟩
            have k3:=same_upd (o:=.lst (xs++[V.ref r]++ys)) h3
            have kk:=k1.trans (k2.trans k3)
            have g:=g4.trans kk
            have hD:=((hxs.mono g).app (hs.mono kk)).app (hys.mono g)
            rw [← dPs_app,← dPs_app,show Lt a++[seatP l]++Lt c=Lt a++seatP l::Lt c by simp] at hD
            have hS:=((Sm.lt l1).app (Sm.seat hl)).app (Sm.lt l2)
            rw [show Lt a++[seatP l]++Lt c=Lt a++seatP l::Lt c by simp] at hS
            refine⟨_,lkp_of upd_same hD hS (by decide) (by decide) (by rw [look_due F];exact okf_due _ _ _),fun r5 H5 g5 hr=>?_⟩
            rw [look_due F] at hr
            have g35:=g.trans g5
            refine⟨_,hr,_,hda.mono g35,dep_due _ _ _,?_⟩
            rw [if_neg (by rw [eqD_refl hr.flat];decide)]
            exact hN _ _ ⟨fv,fa,ca,da,xs,ys,rfl,g3.trans g35,g35 _ _ hfa,hxs.mono g35,g35 _ _ hca,hys.mono g35,hda.mono g35⟩
        · walk_at "rd"
          exact⟨xs,.inl (SqL.of hfa),flo s0,(Lt a).length+1,by have:=hxs.len;rw [dPs_len] at this;lia,f2,F.l3,by simp;lia,fun r H3 g3 hr=>hN _ _ ⟨fv,fa,ca,r,xs,ys,rfl,g2.trans g3,g3 _ _ hfa,hxs.mono g3,g3 _ _ hca,hys.mono g3,hr⟩⟩
      · walk_at "rd"
        have hp1:=g1 _ _ hp
        refine⟨_,SqT.of hp1,_,atI_0 _ _,fun p1 h1 p2 h2=>?_⟩
        have k1:=same_upd (o:=.tup [V.str (S [108,105,116]),tx a]) h1
        have k2:=same_upd (o:=.lst [V.ref p1]) h2
        have hp2:=k2 _ _ (k1 _ _ hp1)
        refine⟨_,SqT.of hp2,_,atI_0 _ _,rfl,?_⟩
        rw [en_tx]
        have z1:=(lt_sz a).2.2.2.2
        refine⟨_,upd_same,by lia,by lia,by simp;lia,fun p3 h3=>?_⟩
        rw [mulL]
        have k3:=same_upd (o:=.lst (lz a p1)) h3
        have hp3:=k3 _ _ hp2
        refine⟨_,SqT.of hp3,_,atI_1 _ _ _,fun p4 h4 p5 h5=>?_⟩
        have k4:=same_upd (o:=.tup [V.str (S [108,105,116]),tx c]) h4
        have k5:=same_upd (o:=.lst [V.ref p4]) h5
        refine⟨_,SqT.of (k5 _ _ (k4 _ _ hp3)),_,atI_1 _ _ _,rfl,?_⟩
        rw [en_tx]
        have z2:=(lt_sz c).2.2.2.2
        refine⟨_,upd_same,by lia,by lia,by simp;lia,fun p6 h6=>?_⟩
        rw [mulL]
        have k6:=same_upd (o:=.lst (lz c p4)) h6
        have b5:=k5.trans k6
        have b4:=k4.trans b5
        have b2:=k2.trans (k3.trans b4)
        have b1:=k1.trans b2
        exact hN _ _ ⟨fv,p3,p6,_,_,rfl,g1.trans b1,f1.mono b1,b4 _ _ upd_same,lz_ds (b2 _ _ upd_same),upd_same,lz_ds (b5 _ _ upd_same)⟩
    · walk_at "rd"
      intro v H1 g1 hv
      refine⟨_,SqT.of (g1 _ _ hp),_,atI_0 _ _,s00,a,rfl,hv,by decide,by show 0+_<=_;lia,fun s' es' hr v2 H2 g2 hv2=>?_,fun b hr=>by rw [r1] at hr;cases hr⟩
      rw [r1] at hr
      cases hr
      obtain⟨p2,sa,ea,rfl,f1,⟨ps,po,rfl,f2,f3⟩,_⟩:=hv2
      have S1:=SqT.of (K:=K) f1
      have S2:=SqT.of (K:=K) f2
      refine⟨p2,rfl,_,S1,_,atI_0 _ _,ps,rfl,_,S2,_,atI_0 _ _,ps,rfl,_,S2,_,atI_1 _ _ _,fun p4 h4=>?_⟩
      have k4:=same_upd (o:=.tup []) h4
      refine⟨ps,rfl,_,SqT.of (k4 _ _ f2),_,atI_3 _ _ _ _ _,fun p6 h6=>?_⟩
      have k6:=same_upd (o:=.tup [tx s0.mode,tx s0.word,V.ref p4,tx s0.talk]) h6
      exact hN _ _ ⟨_,rfl,g1.trans (g2.trans (k4.trans k6)),p6,p4,rfl,upd_same,k6 _ _ upd_same⟩
end
section
variable {P:Program} {w:World} {K:PySem.W.Frag} {mg:Str->Option Value} {base:Heap} {t:Ads}
noncomputable def fixL:List (Nat×Tx):=[(0,[60,99,62]),(0,[60,99,32,100,61,34,101,34,62,102,60,47,99,62,38,48,53,59]),(2,[32,99,40,100,41]),(3,[32,99,61,34,100,34,32,101,33,34,102,39,103,39,34]),(6,[60,38,48,50,59]),(7,[120,44,121]),(8,[100]),(1,[60,47,97,62,60,97,62]),(2,[62,60,47,97,62,60,97]),(3,[47,62,60,97,32,98,61,34,99,34]),(10,[60,47,97,115,105,115,62,60,97,115,105,115,62]),(11,[120,62,60,47,97,120,62,60,98]),(10,[97,60,47,98])]
noncomputable def fxD (f:Nat×Tx):Dat:=.tp [.fl (.int f.1),ft f.2]
theorem fx_dt {H:Hp}{p:Addr}{n:Nat}{x:Tx}(h:H p=some (.tup [.int n,.str (S x)])):IsDt H (fxD (n,x)) (.ref p):=⟨p,_,rfl,h,_,_,rfl,⟨rfl,rfl⟩,_,_,rfl,⟨rfl,rfl⟩,rfl⟩
theorem cut_len {v:List Nat}{lo hi:Option Int}:(cutN v lo hi).length<=v.length:=by
  unfold cutN
  rw [List.length_take,List.length_drop]
  lia
def y1 (a:Addr)(σ:L2.St)(_:Hp):Prop:=∃ o1 o2 o3 o4 o5 o6 o7 o8 o9:Option V,σ=[some (V.ref a),o1,o2,o3,o4,o5,o6,o7,o8,o9]
def y2 (n:Nat)(a:Addr)(σ:L2.St)(H':Hp):Prop:=∃ (o1 o2 o3 o4 o5 o6 o7 o8:Option V) (p:Addr) (xs:List V),σ=[some (V.ref a),o1,o2,o3,o4,o5,o6,o7,o8,some (V.ref p)]/\H' p=some (.lst xs)/\IsDs H' ((fixL.take n).map fxD) xs
def w1 (a:Addr)(H:Hp)(σ:L2.St)(H':Hp):Prop:=∃ o1 o2 o3 o4 o5 o6 o7 o8 o9:Option V,σ=[some (V.ref a),o1,o2,o3,o4,o5,o6,o7,o8,o9]/\Same H H'
def w2 (a:Addr)(c:Int)(H:Hp)(σ:L2.St)(H':Hp):Prop:=∃ o1 o3 o4 o5 o6 o7 o8 o9:Option V,σ=[some (V.ref a),o1,some (V.int c),o3,o4,o5,o6,o7,o8,o9]/\Same H H'
theorem ok_law (T:Txt w K mg t)(D:Df K mg "law" s_law ps_law)(F__law_cell:OkF P w K mg base 1 "_law_cell" ps__law_cell (sp__law_cell K))(F__law_mix:OkF P w K mg base 1 "_law_mix" ps__law_mix sp__law_mix)(F__law_spots:OkF P w K mg base 1 "_law_spots" ps__law_spots sp__law_spots)(F__law_found:OkF P w K mg base 8 "_law_found" ps__law_found sp__law_found)(F__law_evens:OkF P w K mg base 9 "_law_evens" ps__law_evens sp__law_evens)(F__law_right:OkF P w K mg base 64 "_law_right" ps__law_right sp__law_right)(F_run:OkX P w K mg base 8 "run" ps_run (sp_run t))(F_begin:OkF P w K mg base 1 "begin" ps_begin sp_begin)(F__law_looked:OkF P w K mg base 63 "_law_looked" ps__law_looked sp__law_looked)(F__law_seat:OkF P w K mg base 1 "_law_seat" ps__law_seat sp__law_seat):OkF P w K mg base 65 "law" ps_law (sp_law K):=by
  refine D.ok sc_law (fun vs H Q E h=>?_) (fun f cdv A outer s H vs Q E hr h=>?_)
  · obtain⟨_,_,rfl,_⟩:=h;rfl
  · obtain⟨a,is,rfl,hS,h63,q⟩:=h
    refine⟨_,((qss_cons (qs_for PassesOwn.never (by rfl) (qi_range1 (by rfl) T.z_range (qa_cons (qe_callB (call_max2 (by rfl)) (by rfl) T.z_max bb_max (qa_cons qe_int (qa_cons (qe_callB (call_min2 (by rfl)) (by rfl) T.z_min bb_min (qa_cons (qe_callB (call_lenLK (K:=K) (by rfl)) (by rfl) T.z_len bb_len (qa_cons (qv 0) qa_nil)) (qa_cons qe_int qa_nil))) qa_nil))) qa_nil)) (qg_name (i:=1) sc_law.nd (by rfl) (Or.inl (by rfl))) (qss_cons (qs_set (i:=2) sc_law.nd (by rfl) (Or.inl (by rfl)) (qe_callF F__law_cell hr (by decide) (qa_cons (qv 0) (qa_cons (qv 1) qa_nil))))
      (qss_one (qs_for PassesOwn.never (by rfl) (qi_range1 (by rfl) T.z_range (qa_cons (qe_callB (call_lenLK (K:=K) (by rfl)) (by rfl) T.z_len bb_len (qa_cons (qe_callF0 F__law_spots hr (by decide)) qa_nil)) qa_nil)) (qg_name (i:=3) sc_law.nd (by rfl) (Or.inl (by rfl))) (qss_cons (qs_set (i:=4) sc_law.nd (by rfl) (Or.inl (by rfl)) (qe_ix (ix_listK (K:=K) (by rfl)) (qe_callF0 F__law_spots hr (by decide)) (qv 3) (fun _ _=>(by rfl))))
      (qss_cons (qs_set (i:=5) sc_law.nd (by rfl) (Or.inl (by rfl)) (qe_op op_add (qe_op op_fdiv (qv 2) (qe_op op_add qe_int (qv 3))) (qv 3)))
      (qss_cons (qs_set (i:=6) sc_law.nd (by rfl) (Or.inl (by rfl)) (qe_ix (ix_tupK (K:=K) (by rfl)) (qe_callN F_run hr (by decide) (qa_cons (qe_callF0 F_begin hr (by decide)) (qa_cons (qe_ix (ix_tupK (K:=K) (by rfl)) (qv 4) qe_int (fun _ _=>(by rfl))) qa_nil))) qe_int (fun _ _=>(by rfl))))
      (qss_cons (qs_set (i:=7) sc_law.nd (by rfl) (Or.inl (by rfl)) (qe_callF F__law_found hr (by decide) (qa_cons (by exact(qv 6)) (by exact(qa_cons (by exact(qv 5)) (by exact(qa_cons (by exact(qe_callF F__law_mix hr (by decide) (qa_cons (qv 5) (qa_cons qe_int (qa_cons qe_int qa_nil))))) (by exact qa_nil))))))))
      (qss_one (qs_for PassesOwn.never (by rfl) (qi_tupK (K:=K) (by rfl) (qe_tup (qa_cons (by exact(qv 7)) (by exact(qa_cons (by exact(qe_callF F__law_evens hr (by decide) (qa_cons (qv 4) (qa_cons (qv 5) qa_nil)))) (by exact(qa_cons (by exact(qe_slice sl_S (qv 7) (qo_some qe_int) qo_none)) (by exact qa_nil)))))))) (qg_name (i:=8) sc_law.nd (by rfl) (Or.inl (by rfl))) (qss_one (qs_if (qt_not (qt_val (qe_callF F__law_right hr (by decide) (qa_cons (qv 4) (qa_cons (qv 8) qa_nil))))) (qss_one (qs_ret qe_bl)) qss_nil))))))))))))
      (qss_cons (qs_set (i:=9) sc_law.nd (by rfl) (Or.inl (by rfl)) (qe_lst (qa_cons (by exact(qe_tup (qa_cons qe_int (qa_cons (qe_S (l:=[60,99,62]) (by decide +kernel)) qa_nil)))) (by exact(qa_cons (by exact(qe_tup (qa_cons qe_int (qa_cons (qe_S (l:=[60,99,32,100,61,34,101,34,62,102,60,47,99,62,38,48,53,59]) (by decide +kernel)) qa_nil)))) (by exact(qa_cons (by exact(qe_tup (qa_cons qe_int (qa_cons (qe_S (l:=[32,99,40,100,41]) (by decide +kernel)) qa_nil)))) (by exact(qa_cons (by exact(qe_tup (qa_cons qe_int (qa_cons (qe_S (l:=[32,99,61,34,100,34,32,101,33,34,102,39,103,39,34]) (by decide +kernel)) qa_nil)))) (by exact(qa_cons (by exact(qe_tup (qa_cons qe_int (qa_cons (qe_S (l:=[60,38,48,50,59]) (by decide +kernel)) qa_nil)))) (by exact qa_nil))))))))))))
      (qss_cons (qs_set (i:=9) sc_law.nd (by rfl) (Or.inl (by rfl)) (qe_op op_cat (qv 9) (qe_lst (qa_cons (by exact(qe_tup (qa_cons qe_int (qa_cons (qe_S (l:=[120,44,121]) (by decide +kernel)) qa_nil)))) (by exact(qa_cons (by exact(qe_tup (qa_cons qe_int (qa_cons (qe_S (l:=[100]) (by decide +kernel)) qa_nil)))) (by exact(qa_cons (by exact(qe_tup (qa_cons qe_int (qa_cons (qe_S (l:=[60,47,97,62,60,97,62]) (by decide +kernel)) qa_nil)))) (by exact(qa_cons (by exact(qe_tup (qa_cons qe_int (qa_cons (qe_S (l:=[62,60,47,97,62,60,97]) (by decide +kernel)) qa_nil)))) (by exact(qa_cons (by exact(qe_tup (qa_cons qe_int (qa_cons (qe_S (l:=[47,62,60,97,32,98,61,34,99,34]) (by decide +kernel)) qa_nil)))) (by exact qa_nil)))))))))))))
      (qss_cons (qs_set (i:=9) sc_law.nd (by rfl) (Or.inl (by rfl)) (qe_op op_cat (qv 9) (qe_lst (qa_cons (by exact(qe_tup (qa_cons qe_int (qa_cons (qe_S (l:=[60,47,97,115,105,115,62,60,97,115,105,115,62]) (by decide +kernel)) qa_nil)))) (by exact(qa_cons (by exact(qe_tup (qa_cons qe_int (qa_cons (qe_S (l:=[120,62,60,47,97,120,62,60,98]) (by decide +kernel)) qa_nil)))) (by exact(qa_cons (by exact(qe_tup (qa_cons qe_int (qa_cons (qe_S (l:=[97,60,47,98]) (by decide +kernel)) qa_nil)))) (by exact qa_nil)))))))))
      (qss_cons (qs_for PassesOwn.never (by rfl) (qi_listK (K:=K) (by rfl) (qv 9)) (qg_tup (n:=2) (by rfl) (qgs_cons (qg_name (i:=3) sc_law.nd (by rfl) (Or.inl (by rfl))) (qgs_cons (qg_name (i:=7) sc_law.nd (by rfl) (Or.inl (by rfl))) qgs_nil))) (qss_one (qs_if (qt_not (qt_val (qe_callF F__law_right hr (by decide) (qa_cons (qe_ix (ix_listK (K:=K) (by rfl)) (qe_callF0 F__law_spots hr (by decide)) (qv 3) (fun _ _=>(by rfl))) (qa_cons (qv 7) qa_nil))))) (qss_one (qs_ret qe_bl)) qss_nil)))
      (qss_one (qs_ret (qe_cmpR op_eq (qe_ix (ix_tupK (K:=K) (by rfl)) (qe_callF F__law_looked hr (by decide) (qa_cons (qe_lst (qa_cons (by exact(qe_tup (qa_cons (qe_S (l:=[108,105,116]) (by decide +kernel)) (qa_cons (qe_S (l:=[60,97,62]) (by decide +kernel)) qa_nil)))) (by exact(qa_cons (by exact(qe_callF F__law_seat hr (by decide) (qa_cons (qe_S (l:=[60,47,97,62,60,97,62]) (by decide +kernel)) qa_nil))) (by exact(qa_cons (by exact(qe_tup (qa_cons (qe_S (l:=[108,105,116]) (by decide +kernel)) (qa_cons (qe_S (l:=[60,47,97,62]) (by decide +kernel)) qa_nil)))) (by exact qa_nil))))))) qa_nil)) qe_int (fun _ _=>(by rfl))) (qe_S (l:=[97,115,116,114,97,121]) (by decide +kernel)) (nomark _)))))))))).h,?_⟩
    refine seq_gen1 (y1 a) ?_ fun N hN=>?_
    · rintro σ H1 ⟨o1,o2,o3,o4,o5,o6,o7,o8,o9,rfl⟩
      refine seq_gen1 (y2 5 a) ?_ fun N hN=>?_
      · rintro σ H2 ⟨o1,o2,o3,o4,o5,o6,o7,o8,p,xs,rfl,e2,d2⟩
        refine seq_gen1 (y2 10 a) ?_ fun N hN=>?_
        · rintro σ H3 ⟨o1,o2,o3,o4,o5,o6,o7,o8,p,xs,rfl,e3,d3⟩
          refine seq_gen1 (y2 13 a) ?_ fun N hN=>?_
          · rintro σ H4 ⟨o1,o2,o3,o4,o5,o6,o7,o8,p,xs,rfl,e4,d4⟩
            refine seq_gen1 (y1 a) ?_ fun N hN=>?_
            · rintro σ H5 ⟨o1,o2,o3,o4,o5,o6,o7,o8,o9,rfl⟩
              walk_at "rd"
              intro p hp r H6 g6 hr p1 h1 p2 h2
              have k1:=same_upd (o:=.tup [V.str (S [108,105,116]),V.str (S [60,47,97,62])]) h1
              have k2:=same_upd (o:=.lst [V.ref p,V.ref r,V.ref p1]) h2
              have k12:=k1.trans k2
              have hD:=((dt_lit (t:=[60,97,62]) (k12 _ _ (g6 _ _ upd_same))).app (hr.mono k12)).app (dt_lit (t:=[60,47,97,62]) (k2 _ _ upd_same))
              rw [← dPs_app,← dPs_app] at hD
              have hS:=((Sm.lit (l:=[60,97,62])).app (Sm.seat (l:=[60,47,97,62,60,97,62]) (m:=100) (by decide))).app (Sm.lit (l:=[60,47,97,62]))
              have e:lookTop ([Pc.lit [60,97,62]]++[seatP [60,47,97,62,60,97,62]]++[Pc.lit [60,47,97,62]])=.error (.astray [] 2 3):=by rfl
              refine⟨_,lkp_of upd_same hD hS (by decide) (by decide) (by rw [e];trivial),fun r5 H7 g7 h5=>?_⟩
              rw [e] at h5
              obtain⟨_,vs,ee,h6,_,_,rfl,⟨rfl,_⟩,_⟩:=h5
              cases ee
              exact⟨_,SqT.of h6,_,atI_0 _ _,rfl,by rw [decide_eq_true (show V.str (S [97,115,116,114,97,121])=V.str (S [97,115,116,114,97,121]) from rfl)];exact q _⟩
            · walk_at "rd"
              refine⟨⟨_,SqL.of e4⟩,fb_list (xs:=xs) (fun _ σ H'=>∃ o1 o2 o3 o4 o5 o6 o7 o8:Option V,σ=[some (V.ref a),o1,o2,o3,o4,o5,o6,o7,o8,some (V.ref p)]/\Same H4 H') ⟨_,_,_,_,_,_,_,_,rfl,Same.refl _⟩ ?_ ?_ ?_⟩
              · rintro i σ H5 _ ⟨_,_,_,_,_,_,_,_,_,g⟩
                exact SqL.of (g _ _ e4)
              · rintro i x σ H5 hi ⟨o1,o2,o3,o4,o5,o6,o7,o8,rfl,g5⟩
                obtain⟨dd,hd1,hd2⟩:=d4.get hi
                obtain⟨f,hf,rfl⟩:∃ f∈fixL,fxD f=dd:=by
                  rw [List.getElem?_map] at hd1
                  cases e:(fixL.take 13)[i]? with
                  | none=>rw [e] at hd1;cases hd1
                  | some f=>rw [e] at hd1;exact⟨f,List.mem_of_mem_take (List.mem_of_getElem? e),Option.some.inj hd1⟩
                obtain⟨f1,f2⟩:=(by decide:∀ f∈fixL,f.1<12/\f.2.length<=100) f hf
                obtain⟨b,vs,rfl,hb,_,_,rfl,⟨rfl,_⟩,_,_,rfl,⟨rfl,_⟩,rfl⟩:=hd2
                walk_at "rd"
                refine⟨_,SqT.of (g5 _ _ hb),rfl,_,_,rfl,_,_,rfl,rfl,fun r xs' H6 g6 e6 o6=>?_⟩
                have hj:f.1<xs'.length:=by rw [o6.len];exact f1
                obtain⟨⟨sa,sc⟩,hh,pq,ee,hv⟩:=o6.get (List.getElem?_eq_getElem hj)
                have hx:atI xs' (f.1:Int)=some (.ref pq):=by rw [atI_z,List.getElem?_eq_getElem hj,ee]
                exact⟨xs',_,rfl,SqL.of e6,_,hx,pq,rfl,sa,sc,_,rfl,hv,List.mem_of_getElem? hh,by lia,fun H7 g7=>g5.trans (g6.trans g7)⟩
              · rintro σ H5 ⟨o1,o2,o3,o4,o5,o6,o7,o8,rfl,g5⟩
                exact hN _ _ ⟨_,_,_,_,_,_,_,_,_,rfl⟩
          · walk_at "rd"
            intro p0 h0 p1 h1 p2 h2 p3 h3
            have k0:=same_upd (o:=.tup [V.int 10,V.str (S [60,47,97,115,105,115,62,60,97,115,105,115,62])]) h0
            have k1:=same_upd (o:=.tup [V.int 11,V.str (S [120,62,60,47,97,120,62,60,98])]) h1
            have k2:=same_upd (o:=.tup [V.int 10,V.str (S [97,60,47,98])]) h2
            have k3:=same_upd (o:=.lst [V.ref p0,V.ref p1,V.ref p2]) h3
            have a3:=k3
            have a2:=k2.trans a3
            have a1:=k1.trans a2
            have a0:=k0.trans a1
            have lx:xs.length=10:=by have:=d3.len;exact this.symm
            refine⟨xs,a0 _ _ e3,_,upd_same,by rw [lx];show 10+3<=16777216;decide,fun p9 h9=>?_⟩
            have k9:=same_upd (o:=.lst (xs++[V.ref p0,V.ref p1,V.ref p2])) h9
            have dn:IsDs _ ([(10,[60,47,97,115,105,115,62,60,97,115,105,115,62]),(11,[120,62,60,47,97,120,62,60,98]),(10,[97,60,47,98])].map fxD) [V.ref p0,V.ref p1,V.ref p2]:=⟨_,_,rfl,fx_dt (a1 _ _ upd_same),⟨_,_,rfl,fx_dt (a2 _ _ upd_same),⟨_,_,rfl,fx_dt (a3 _ _ upd_same),rfl⟩⟩⟩
            exact hN _ _ ⟨_,_,_,_,_,_,_,_,p9,_,rfl,upd_same,((d3.mono a0).app dn).mono k9⟩
        · walk_at "rd"
          intro p0 h0 p1 h1 p2 h2 p3 h3 p4 h4 p5 h5
          have k0:=same_upd (o:=.tup [V.int 7,V.str (S [120,44,121])]) h0
          have k1:=same_upd (o:=.tup [V.int 8,V.str (S [100])]) h1
          have k2:=same_upd (o:=.tup [V.int 1,V.str (S [60,47,97,62,60,97,62])]) h2
          have k3:=same_upd (o:=.tup [V.int 2,V.str (S [62,60,47,97,62,60,97])]) h3
          have k4:=same_upd (o:=.tup [V.int 3,V.str (S [47,62,60,97,32,98,61,34,99,34])]) h4
          have k5:=same_upd (o:=.lst [V.ref p0,V.ref p1,V.ref p2,V.ref p3,V.ref p4]) h5
          have a5:=k5
          have a4:=k4.trans a5
          have a3:=k3.trans a4
          have a2:=k2.trans a3
          have a1:=k1.trans a2
          have a0:=k0.trans a1
          have lx:xs.length=5:=by have:=d2.len;exact this.symm
          refine⟨xs,a0 _ _ e2,_,upd_same,by rw [lx];show 5+5<=16777216;decide,fun p9 h9=>?_⟩
          have k9:=same_upd (o:=.lst (xs++[V.ref p0,V.ref p1,V.ref p2,V.ref p3,V.ref p4])) h9
          have dn:IsDs _ ([(7,[120,44,121]),(8,[100]),(1,[60,47,97,62,60,97,62]),(2,[62,60,47,97,62,60,97]),(3,[47,62,60,97,32,98,61,34,99,34])].map fxD) [V.ref p0,V.ref p1,V.ref p2,V.ref p3,V.ref p4]:=⟨_,_,rfl,fx_dt (a1 _ _ upd_same),⟨_,_,rfl,fx_dt (a2 _ _ upd_same),⟨_,_,rfl,fx_dt (a3 _ _ upd_same),⟨_,_,rfl,fx_dt (a4 _ _ upd_same),⟨_,_,rfl,fx_dt (a5 _ _ upd_same),rfl⟩⟩⟩⟩⟩
          exact hN _ _ ⟨_,_,_,_,_,_,_,_,p9,_,rfl,upd_same,((d2.mono a0).app dn).mono k9⟩
      · walk_at "rd"
        intro p0 h0 p1 h1 p2 h2 p3 h3 p4 h4 p5 h5
        have k0:=same_upd (o:=.tup [V.int 0,V.str (S [60,99,62])]) h0
        have k1:=same_upd (o:=.tup [V.int 0,V.str (S [60,99,32,100,61,34,101,34,62,102,60,47,99,62,38,48,53,59])]) h1
        have k2:=same_upd (o:=.tup [V.int 2,V.str (S [32,99,40,100,41])]) h2
        have k3:=same_upd (o:=.tup [V.int 3,V.str (S [32,99,61,34,100,34,32,101,33,34,102,39,103,39,34])]) h3
        have k4:=same_upd (o:=.tup [V.int 6,V.str (S [60,38,48,50,59])]) h4
        have k5:=same_upd (o:=.lst [V.ref p0,V.ref p1,V.ref p2,V.ref p3,V.ref p4]) h5
        have a5:=k5
        have a4:=k4.trans a5
        have a3:=k3.trans a4
        have a2:=k2.trans a3
        have a1:=k1.trans a2
        have a0:=k0.trans a1
        exact hN _ _ ⟨_,_,_,_,_,_,_,_,p5,_,rfl,upd_same,⟨_,_,rfl,fx_dt (a1 _ _ upd_same),⟨_,_,rfl,fx_dt (a2 _ _ upd_same),⟨_,_,rfl,fx_dt (a3 _ _ upd_same),⟨_,_,rfl,fx_dt (a4 _ _ upd_same),⟨_,_,rfl,fx_dt (a5 _ _ upd_same),rfl⟩⟩⟩⟩⟩⟩
    · walk_at "rd"
      refine⟨_,.inl hS,?_⟩
      rw [List.length_map]
      generalize hn0:(if (if (6:Int)<(is.length:Int) then 6 else(is.length:Int)) > 2 then if (6:Int)<(is.length:Int) then 6 else(is.length:Int) else 2)=n0
      have hb:0<=n0/\n0<=6:=by rw [← hn0];split<;>(try split)<;>lia
      refine⟨by lia,by lia,?_⟩
      refine fb_range (fun _=>w1 a H) ⟨_,_,_,_,_,_,_,_,_,rfl,Same.refl H⟩ ?_ ?_
      · rintro i σ H1 hi ⟨o1,o2,o3,o4,o5,o6,o7,o8,o9,rfl,g1⟩
        walk_at "rd"
        refine⟨is,g1.seq hS,h63,by lia,fun c H2 g2 r xs H3 g3 e3 o3'=>?_⟩
        have lx:=o3'.len
        refine⟨xs,.inl (SqL.of e3),by lia,by rw [lx];decide,?_⟩
        rw [lx]
        refine fb_range (fun _=>w2 a c H) ⟨_,_,_,_,_,_,_,_,rfl,g1.trans (g2.trans g3)⟩ ?_ ?_
        · rintro j σ H4 hj ⟨o1,o3,o4,o5,o6,o7,o8,o9,rfl,g4⟩
          walk_at "rd"
          intro r' xs' H5 g5 e5 o5'
          have hj2:j<12:=by have e0:((spotsL.length:Nat):Int).toNat=12:=rfl;lia
          have hj':j<xs'.length:=by rw [o5'.len];exact hj2
          obtain⟨⟨sa,sc⟩,hh,pq,ee,hv⟩:=o5'.get (List.getElem?_eq_getElem hj')
          have hx:xs'[j]? = some (.ref pq):=by rw [List.getElem?_eq_getElem hj',ee]
          have hmem:=List.mem_of_getElem? hh
          obtain⟨s0,F⟩:=spots_ok _ hmem
          obtain⟨es,r1⟩:=F.r1
          have l1:sa.length<=20:=F.l1
          refine⟨xs',SqL.of e5,_,hx,by unfold CDiv;lia,fun v H6 g6 hv6=>⟨pq,rfl,_,SqT.of (g6 _ _ hv),_,atI_0 _ _,s00,sa,rfl,hv6,by decide,by show 0+_<=_;lia,fun s' es' hr v2 H7 g7 hv7=>?_,fun b hr=>by rw [r1] at hr;cases hr⟩⟩
          rw [r1] at hr
          cases hr
          obtain⟨p2,sa2,ea,rfl,f1,f2,_⟩:=hv7
          refine⟨p2,rfl,_,SqT.of f1,_,atI_0 _ _,fun m H8 hm g8=>⟨s0,f2.mono g8,F.l3,by have:=F.l4;lia,by lia,fun l s3 e3 H9 hl hr9 g9=>?_⟩⟩
          refine⟨pq,rfl,sa,sc,g9 _ _ (g8 _ _ (g7 _ _ (g6 _ _ hv))),hmem,fun l' H10 hl' g10=>⟨by lia,fun p3 h3=>⟨⟨_,SqT.of upd_same⟩,?_⟩⟩⟩
          have k3:=same_upd (o:=.tup [V.str (S l),V.str (S l'),V.str (S (cutN l (some 1) none))]) h3
          have gv:=g6.trans (g7.trans (g8.trans (g9.trans (g10.trans k3))))
          have cl:=cut_len (v:=l) (lo:=some 1) (hi:=none)
          refine fb_tup (K:=K) (a:=p3) (xs:=[V.str (S l),V.str (S l'),V.str (S (cutN l (some 1) none))]) (fun _ σ H'=>∃ o8,σ=[some (V.ref a),o1,some (V.int c),some (V.int j),some (V.ref pq),some (V.int (c / (2+(j:Int))+j)),some sa2,some (V.str (S l)),o8,o9]/\Same (upd H10 p3 (.tup [V.str (S l),V.str (S l'),V.str (S (cutN l (some 1) none))])) H') ⟨_,rfl,Same.refl _⟩ ?_ ?_ ?_
          · rintro i σ H' _ ⟨_,_,g⟩
            exact SqT.of (g _ _ upd_same)
          · rintro i x σ H11 hi' ⟨o8',rfl,g11⟩
            obtain⟨y,hy,rfl⟩:∃ y:Tx,y.length<=1000/\x=V.str (S y):=by
              match i,hi' with
              | 0,hi'=>cases hi';exact⟨l,by omega,rfl⟩
              | 1,hi'=>cases hi';exact⟨l',by omega,rfl⟩
              | 2,hi'=>cases hi';exact⟨_,by omega,rfl⟩
              | i+3,hi'=>simp at hi'
            walk_at "rd"
            exact⟨sa,sc,g11 _ _ (gv _ _ hv),hmem,hy,fun H' g=>g11.trans g⟩
          · rintro σ H11 ⟨o8',rfl,g11⟩
            exact⟨_,_,_,_,_,_,_,_,rfl,g4.trans (g5.trans (gv.trans g11))⟩
        · rintro σ H4 ⟨o1,o3,o4,o5,o6,o7,o8,o9,rfl,g4⟩
          exact⟨_,_,_,_,_,_,_,_,_,rfl,g4⟩
      · rintro σ H1 ⟨o1,o2,o3,o4,o5,o6,o7,o8,o9,rfl,g1⟩
        exact hN _ _ ⟨_,_,_,_,_,_,_,_,_,rfl⟩
end
end My
set_option maxHeartbeats 0
open PySem L2 PySem.Spec PyProof.Rows
namespace My
theorem len0 {α:Type}{us:List α}(h:us.length=0):us=[]:=List.length_eq_zero_iff.mp h
theorem len1 {α:Type}:∀ {us:List α},us.length=1->∃ a0,us=[a0]
  | [a0],_=>⟨a0,rfl⟩
theorem len2 {α:Type}:∀ {us:List α},us.length=2->∃ a0 a1,us=[a0,a1]
  | [a0,a1],_=>⟨a0,a1,rfl⟩
theorem len3 {α:Type}:∀ {us:List α},us.length=3->∃ a0 a1 a2,us=[a0,a1,a2]
  | [a0,a1,a2],_=>⟨a0,a1,a2,rfl⟩
theorem len4 {α:Type}:∀ {us:List α},us.length=4->∃ a0 a1 a2 a3,us=[a0,a1,a2,a3]
  | [a0,a1,a2,a3],_=>⟨a0,a1,a2,a3,rfl⟩
theorem len5 {α:Type}:∀ {us:List α},us.length=5->∃ a0 a1 a2 a3 a4,us=[a0,a1,a2,a3,a4]
  | [a0,a1,a2,a3,a4],_=>⟨a0,a1,a2,a3,a4,rfl⟩
theorem len6 {α:Type}:∀ {us:List α},us.length=6->∃ a0 a1 a2 a3 a4 a5,us=[a0,a1,a2,a3,a4,a5]
  | [a0,a1,a2,a3,a4,a5],_=>⟨a0,a1,a2,a3,a4,a5,rfl⟩
theorem len7 {α:Type}:∀ {us:List α},us.length=7->∃ a0 a1 a2 a3 a4 a5 a6,us=[a0,a1,a2,a3,a4,a5,a6]
  | [a0,a1,a2,a3,a4,a5,a6],_=>⟨a0,a1,a2,a3,a4,a5,a6,rfl⟩
theorem dfm {K:PySem.W.Frag}{mg:Str->Option Value}{h:Heap}{x:Str}{st:Stmt}{ps:List Str}{f cd:Addr}{pm:Value}(X:K.In h)(G:h.Ns mainGlobals mg)
    (b:∀ (kV doc pm:Value) (an:Option Addr) (cdv ct:Value) (us:List Value),us.length=ps.length->bindArgs (PySem.W.fnOf x x (defArgs st) (defBody st) (defScope st) .none kV doc pm an cdv ct) ⟨us,[]⟩=pure (ps.zip us))
    (a:PySem.W.nsIn K mainGlobals x=some (some (.ref f))) (l:K.lookup f=some ⟨.type "function",none,.func (PySem.W.fnOf x x (defArgs st) (defBody st) (defScope st) .none .none .none pm none (.ref cd) .none),#[]⟩)
    (c:PySem.W.codeIn K (.ref cd) x=true) (k:PySem.W.keepIn K (.ref f)=true):Df K mg x st ps:=df_mk X G b a l c k
theorem dmm {K:PySem.W.Frag}{C:Addr}{m qual:Str}{st:Stmt}{ps:List Str}{f cd:Addr}{pm:Value}
    (b:∀ (kV doc pm:Value) (an:Option Addr) (cdv ct:Value) (us:List Value),us.length=ps.length->bindArgs (PySem.W.fnOf m qual (defArgs st) (defBody st) (defScope st) .none kV doc pm an cdv ct) ⟨us,[]⟩=pure (ps.zip us))
    (l:K.lookup f=some ⟨.type "function",none,.func (PySem.W.fnOf m qual (defArgs st) (defBody st) (defScope st) .none .none .none pm none (.ref cd) .none),#[]⟩)
    (c:PySem.W.codeIn K (.ref cd) qual=true) (k:PySem.W.keepIn K (.ref f)=true) (cl:Cls K C) (mt:Meth K C m f):Dm K C m qual st ps:=⟨f,_,fun_mk l c k,(fun_mk l c k).binds b,cl,mt⟩
theorem dcm {K:PySem.W.Frag}{mg:Str->Option Value}{h:Heap}{C:Addr}{x qual:Str}{st:Stmt}{ps:List Str}{f cd:Addr}{pm:Value}(X:K.In h)(G:h.Ns mainGlobals mg)
    (b:∀ (kV doc pm:Value) (an:Option Addr) (cdv ct:Value) (us:List Value),us.length=ps.length->bindArgs (PySem.W.fnOf "__init__" qual (defArgs st) (defBody st) (defScope st) .none kV doc pm an cdv ct) ⟨us,[]⟩=pure (ps.zip us))
    (a:PySem.W.nsIn K mainGlobals x=some (some (.ref C))) (l:K.lookup f=some ⟨.type "function",none,.func (PySem.W.fnOf "__init__" qual (defArgs st) (defBody st) (defScope st) .none .none .none pm none (.ref cd) .none),#[]⟩)
    (c:PySem.W.codeIn K (.ref cd) qual=true) (k:PySem.W.keepIn K (.ref f)=true) (mk:Mk K C f):Dc K mg C x qual st ps:=⟨f,_,fun_mk l c k,(fun_mk l c k).binds b,mk,PySem.W.mg_of X G a⟩
theorem inim {K:PySem.W.Frag}{C:Addr}{qual:Str}{st:Stmt}{ps:List Str}{f cd:Addr}{pm:Value}
    (b:∀ (kV doc pm:Value) (an:Option Addr) (cdv ct:Value) (us:List Value),us.length=ps.length->bindArgs (PySem.W.fnOf "__init__" qual (defArgs st) (defBody st) (defScope st) .none kV doc pm an cdv ct) ⟨us,[]⟩=pure (ps.zip us))
    (a:xInit K C=some (some (.ref f))) (l:K.lookup f=some ⟨.type "function",none,.func (PySem.W.fnOf "__init__" qual (defArgs st) (defBody st) (defScope st) .none .none .none pm none (.ref cd) .none),#[]⟩)
    (c:PySem.W.codeIn K (.ref cd) qual=true) (k:PySem.W.keepIn K (.ref f)=true):Ini K C qual st ps:=ini_mk b a l c k
theorem all_ok {l:PySem.W.OpenLaw}{w:World}{h:Heap}{mg:Str->Option Value}{fa:Addr}(X:(KH w.params).In h)(G:h.Ns mainGlobals mg)(hfa:mg "law" = some (.ref fa)) :
    ∃ fd:FuncData,(∀ (s:Shared) (v:Value),BindsTo s fd ⟨[v],[]⟩ [("_law_script",v)])/\∀ base:Heap,(KH w.params).In base->base.Ns mainGlobals mg->FnOk l.prog w (KH w.params) mg base CX0 65 fa fd ["_law_script"] (sp_law (KH w.params)):=by
  have C_Looking:Cls (KH w.params) 789:=⟨by kernel_rfl!,by kernel_rfl!,by kernel_rfl!,by kernel_rfl!⟩
  have C_Spot:Cls (KH w.params) 712:=⟨by kernel_rfl!,by kernel_rfl!,by kernel_rfl!,by kernel_rfl!⟩
  have D_sign_of:Df (KH w.params) mg "sign_of" s_sign_of ps_sign_of:=dfm (f:=393) (pm:=(.str "sealpress.signs" 688)) (cd:=392) X G (fun _ _ _ _ _ _ us hl=>by obtain⟨_,rfl⟩:=len1 hl;rfl) (by kernel_rfl!) (by kernel_rfl!) (by kernel_rfl!) (by kernel_rfl!)
  have D_sign_told:Df (KH w.params) mg "sign_told" s_sign_told ps_sign_told:=dfm (f:=400) (pm:=(.str "sealpress.signs" 688)) (cd:=399) X G (fun _ _ _ _ _ _ us hl=>by obtain⟨_,rfl⟩:=len1 hl;rfl) (by kernel_rfl!) (by kernel_rfl!) (by kernel_rfl!) (by kernel_rfl!)
  have D_fed_between:Df (KH w.params) mg "fed_between" s_fed_between ps_fed_between:=dfm (f:=415) (pm:=(.str "sealpress.talks" 729)) (cd:=414) X G (fun _ _ _ _ _ _ us hl=>by obtain⟨_,rfl⟩:=len1 hl;rfl) (by kernel_rfl!) (by kernel_rfl!) (by kernel_rfl!) (by kernel_rfl!)
  have D_fed_word:Df (KH w.params) mg "fed_word" s_fed_word ps_fed_word:=dfm (f:=422) (pm:=(.str "sealpress.talks" 729)) (cd:=421) X G (fun _ _ _ _ _ _ us hl=>by obtain⟨_,rfl⟩:=len1 hl;rfl) (by kernel_rfl!) (by kernel_rfl!) (by kernel_rfl!) (by kernel_rfl!)
  have D_fed_said:Df (KH w.params) mg "fed_said" s_fed_said ps_fed_said:=dfm (f:=429) (pm:=(.str "sealpress.talks" 729)) (cd:=428) X G (fun _ _ _ _ _ _ us hl=>by obtain⟨_,rfl⟩:=len1 hl;rfl) (by kernel_rfl!) (by kernel_rfl!) (by kernel_rfl!) (by kernel_rfl!)
  have D_feed:Df (KH w.params) mg "feed" s_feed ps_feed:=dfm (f:=436) (pm:=(.str "sealpress.talks" 729)) (cd:=435) X G (fun _ _ _ _ _ _ us hl=>by obtain⟨_,_,rfl⟩:=len2 hl;rfl) (by kernel_rfl!) (by kernel_rfl!) (by kernel_rfl!) (by kernel_rfl!)
  have D_come_to:Df (KH w.params) mg "come_to" s_come_to ps_come_to:=dfm (f:=443) (pm:=(.str "sealpress.modes" 760)) (cd:=442) X G (fun _ _ _ _ _ _ us hl=>by obtain⟨_,_,_,rfl⟩:=len3 hl;rfl) (by kernel_rfl!) (by kernel_rfl!) (by kernel_rfl!) (by kernel_rfl!)
  have D_told:Df (KH w.params) mg "told" s_told ps_told:=dfm (f:=450) (pm:=(.str "sealpress.modes" 760)) (cd:=449) X G (fun _ _ _ _ _ _ us hl=>by obtain⟨_,_,_,rfl⟩:=len3 hl;rfl) (by kernel_rfl!) (by kernel_rfl!) (by kernel_rfl!) (by kernel_rfl!)
  have D_gathered:Df (KH w.params) mg "gathered" s_gathered ps_gathered:=dfm (f:=457) (pm:=(.str "sealpress.modes" 760)) (cd:=456) X G (fun _ _ _ _ _ _ us hl=>by obtain⟨_,_,_,_,_,rfl⟩:=len5 hl;rfl) (by kernel_rfl!) (by kernel_rfl!) (by kernel_rfl!) (by kernel_rfl!)
  have D_box_shut:Df (KH w.params) mg "box_shut" s_box_shut ps_box_shut:=dfm (f:=464) (pm:=(.str "sealpress.modes" 760)) (cd:=463) X G (fun _ _ _ _ _ _ us hl=>by obtain⟨_,_,rfl⟩:=len2 hl;rfl) (by kernel_rfl!) (by kernel_rfl!) (by kernel_rfl!) (by kernel_rfl!)
  have D_into_box:Df (KH w.params) mg "into_box" s_into_box ps_into_box:=dfm (f:=471) (pm:=(.str "sealpress.modes" 760)) (cd:=470) X G (fun _ _ _ _ _ _ us hl=>by obtain⟨_,_,rfl⟩:=len2 hl;rfl) (by kernel_rfl!) (by kernel_rfl!) (by kernel_rfl!) (by kernel_rfl!)
  have D_led_on:Df (KH w.params) mg "led_on" s_led_on ps_led_on:=dfm (f:=478) (pm:=(.str "sealpress.modes" 760)) (cd:=477) X G (fun _ _ _ _ _ _ us hl=>by obtain⟨_,_,_,rfl⟩:=len3 hl;rfl) (by kernel_rfl!) (by kernel_rfl!) (by kernel_rfl!) (by kernel_rfl!)
  have D_fed:Df (KH w.params) mg "fed" s_fed ps_fed:=dfm (f:=485) (pm:=(.str "sealpress.modes" 760)) (cd:=484) X G (fun _ _ _ _ _ _ us hl=>by obtain⟨_,_,_,rfl⟩:=len3 hl;rfl) (by kernel_rfl!) (by kernel_rfl!) (by kernel_rfl!) (by kernel_rfl!)
  have D_mark_ended:Df (KH w.params) mg "mark_ended" s_mark_ended ps_mark_ended:=dfm (f:=492) (pm:=(.str "sealpress.modes" 760)) (cd:=491) X G (fun _ _ _ _ _ _ us hl=>by obtain⟨_,_,rfl⟩:=len2 hl;rfl) (by kernel_rfl!) (by kernel_rfl!) (by kernel_rfl!) (by kernel_rfl!)
  have D_at_text:Df (KH w.params) mg "at_text" s_at_text ps_at_text:=dfm (f:=499) (pm:=(.str "sealpress.modes" 760)) (cd:=498) X G (fun _ _ _ _ _ _ us hl=>by obtain⟨_,_,_,_,rfl⟩:=len4 hl;rfl) (by kernel_rfl!) (by kernel_rfl!) (by kernel_rfl!) (by kernel_rfl!)
  have D_at_mark:Df (KH w.params) mg "at_mark" s_at_mark ps_at_mark:=dfm (f:=506) (pm:=(.str "sealpress.modes" 760)) (cd:=505) X G (fun _ _ _ _ _ _ us hl=>by obtain⟨_,_,_,_,rfl⟩:=len4 hl;rfl) (by kernel_rfl!) (by kernel_rfl!) (by kernel_rfl!) (by kernel_rfl!)
  have D_at_open:Df (KH w.params) mg "at_open" s_at_open ps_at_open:=dfm (f:=513) (pm:=(.str "sealpress.modes" 760)) (cd:=512) X G (fun _ _ _ _ _ _ us hl=>by obtain⟨_,_,_,_,rfl⟩:=len4 hl;rfl) (by kernel_rfl!) (by kernel_rfl!) (by kernel_rfl!) (by kernel_rfl!)
  have D_at_name:Df (KH w.params) mg "at_name" s_at_name ps_at_name:=dfm (f:=520) (pm:=(.str "sealpress.modes" 760)) (cd:=519) X G (fun _ _ _ _ _ _ us hl=>by obtain⟨_,_,_,_,rfl⟩:=len4 hl;rfl) (by kernel_rfl!) (by kernel_rfl!) (by kernel_rfl!) (by kernel_rfl!)
  have D_at_slash:Df (KH w.params) mg "at_slash" s_at_slash ps_at_slash:=dfm (f:=527) (pm:=(.str "sealpress.modes" 760)) (cd:=526) X G (fun _ _ _ _ _ _ us hl=>by obtain⟨_,_,_,_,rfl⟩:=len4 hl;rfl) (by kernel_rfl!) (by kernel_rfl!) (by kernel_rfl!) (by kernel_rfl!)
  have D_at_shut:Df (KH w.params) mg "at_shut" s_at_shut ps_at_shut:=dfm (f:=534) (pm:=(.str "sealpress.modes" 760)) (cd:=533) X G (fun _ _ _ _ _ _ us hl=>by obtain⟨_,_,_,_,rfl⟩:=len4 hl;rfl) (by kernel_rfl!) (by kernel_rfl!) (by kernel_rfl!) (by kernel_rfl!)
  have D_at_gap:Df (KH w.params) mg "at_gap" s_at_gap ps_at_gap:=dfm (f:=541) (pm:=(.str "sealpress.modes" 760)) (cd:=540) X G (fun _ _ _ _ _ _ us hl=>by obtain⟨_,_,_,_,rfl⟩:=len4 hl;rfl) (by kernel_rfl!) (by kernel_rfl!) (by kernel_rfl!) (by kernel_rfl!)
  have D_at_attr:Df (KH w.params) mg "at_attr" s_at_attr ps_at_attr:=dfm (f:=548) (pm:=(.str "sealpress.modes" 760)) (cd:=547) X G (fun _ _ _ _ _ _ us hl=>by obtain⟨_,_,_,_,rfl⟩:=len4 hl;rfl) (by kernel_rfl!) (by kernel_rfl!) (by kernel_rfl!) (by kernel_rfl!)
  have D_at_is:Df (KH w.params) mg "at_is" s_at_is ps_at_is:=dfm (f:=555) (pm:=(.str "sealpress.modes" 760)) (cd:=554) X G (fun _ _ _ _ _ _ us hl=>by obtain⟨_,_,_,_,rfl⟩:=len4 hl;rfl) (by kernel_rfl!) (by kernel_rfl!) (by kernel_rfl!) (by kernel_rfl!)
  have D_at_bang:Df (KH w.params) mg "at_bang" s_at_bang ps_at_bang:=dfm (f:=562) (pm:=(.str "sealpress.modes" 760)) (cd:=561) X G (fun _ _ _ _ _ _ us hl=>by obtain⟨_,_,_,_,rfl⟩:=len4 hl;rfl) (by kernel_rfl!) (by kernel_rfl!) (by kernel_rfl!) (by kernel_rfl!)
  have D_at_bare:Df (KH w.params) mg "at_bare" s_at_bare ps_at_bare:=dfm (f:=569) (pm:=(.str "sealpress.modes" 760)) (cd:=568) X G (fun _ _ _ _ _ _ us hl=>by obtain⟨_,_,_,_,rfl⟩:=len4 hl;rfl) (by kernel_rfl!) (by kernel_rfl!) (by kernel_rfl!) (by kernel_rfl!)
  have D_at_code:Df (KH w.params) mg "at_code" s_at_code ps_at_code:=dfm (f:=576) (pm:=(.str "sealpress.modes" 760)) (cd:=575) X G (fun _ _ _ _ _ _ us hl=>by obtain⟨_,_,_,_,rfl⟩:=len4 hl;rfl) (by kernel_rfl!) (by kernel_rfl!) (by kernel_rfl!) (by kernel_rfl!)
  have D_at_row:Df (KH w.params) mg "at_row" s_at_row ps_at_row:=dfm (f:=583) (pm:=(.str "sealpress.modes" 760)) (cd:=582) X G (fun _ _ _ _ _ _ us hl=>by obtain⟨_,_,_,_,rfl⟩:=len4 hl;rfl) (by kernel_rfl!) (by kernel_rfl!) (by kernel_rfl!) (by kernel_rfl!)
  have D_at_stroke:Df (KH w.params) mg "at_stroke" s_at_stroke ps_at_stroke:=dfm (f:=590) (pm:=(.str "sealpress.modes" 760)) (cd:=589) X G (fun _ _ _ _ _ _ us hl=>by obtain⟨_,_,_,_,rfl⟩:=len4 hl;rfl) (by kernel_rfl!) (by kernel_rfl!) (by kernel_rfl!) (by kernel_rfl!)
  have D_at_quoted:Df (KH w.params) mg "at_quoted" s_at_quoted ps_at_quoted:=dfm (f:=597) (pm:=(.str "sealpress.modes" 760)) (cd:=596) X G (fun _ _ _ _ _ _ us hl=>by obtain⟨_,_,_,_,rfl⟩:=len4 hl;rfl) (by kernel_rfl!) (by kernel_rfl!) (by kernel_rfl!) (by kernel_rfl!)
  have D_at_qmark:Df (KH w.params) mg "at_qmark" s_at_qmark ps_at_qmark:=dfm (f:=604) (pm:=(.str "sealpress.modes" 760)) (cd:=603) X G (fun _ _ _ _ _ _ us hl=>by obtain⟨_,_,_,_,rfl⟩:=len4 hl;rfl) (by kernel_rfl!) (by kernel_rfl!) (by kernel_rfl!) (by kernel_rfl!)
  have D_at_done:Df (KH w.params) mg "at_done" s_at_done ps_at_done:=dfm (f:=611) (pm:=(.str "sealpress.modes" 760)) (cd:=610) X G (fun _ _ _ _ _ _ us hl=>by obtain⟨_,_,_,_,rfl⟩:=len4 hl;rfl) (by kernel_rfl!) (by kernel_rfl!) (by kernel_rfl!) (by kernel_rfl!)
  have D_at_talk:Df (KH w.params) mg "at_talk" s_at_talk ps_at_talk:=dfm (f:=618) (pm:=(.str "sealpress.modes" 760)) (cd:=617) X G (fun _ _ _ _ _ _ us hl=>by obtain⟨_,_,_,_,rfl⟩:=len4 hl;rfl) (by kernel_rfl!) (by kernel_rfl!) (by kernel_rfl!) (by kernel_rfl!)
  have D_at_tmark:Df (KH w.params) mg "at_tmark" s_at_tmark ps_at_tmark:=dfm (f:=625) (pm:=(.str "sealpress.modes" 760)) (cd:=624) X G (fun _ _ _ _ _ _ us hl=>by obtain⟨_,_,_,_,rfl⟩:=len4 hl;rfl) (by kernel_rfl!) (by kernel_rfl!) (by kernel_rfl!) (by kernel_rfl!)
  have D_at_asis:Df (KH w.params) mg "at_asis" s_at_asis ps_at_asis:=dfm (f:=630) (pm:=(.str "sealpress.modes" 760)) (cd:=629) X G (fun _ _ _ _ _ _ us hl=>by obtain⟨_,_,_,_,rfl⟩:=len4 hl;rfl) (by kernel_rfl!) (by kernel_rfl!) (by kernel_rfl!) (by kernel_rfl!)
  have D_moved:Df (KH w.params) mg "moved" s_moved ps_moved:=dfm (f:=639) (pm:=(.str "sealpress.modes" 760)) (cd:=638) X G (fun _ _ _ _ _ _ us hl=>by obtain⟨_,_,rfl⟩:=len2 hl;rfl) (by kernel_rfl!) (by kernel_rfl!) (by kernel_rfl!) (by kernel_rfl!)
  have D_begin:Df (KH w.params) mg "begin" s_begin ps_begin:=dfm (f:=646) (pm:=(.str "sealpress.steps" 1085)) (cd:=645) X G (fun _ _ _ _ _ _ us hl=>by obtain rfl:=len0 hl;rfl) (by kernel_rfl!) (by kernel_rfl!) (by kernel_rfl!) (by kernel_rfl!)
  have D_step:Df (KH w.params) mg "step" s_step ps_step:=dfm (f:=653) (pm:=(.str "sealpress.steps" 1085)) (cd:=652) X G (fun _ _ _ _ _ _ us hl=>by obtain⟨_,_,rfl⟩:=len2 hl;rfl) (by kernel_rfl!) (by kernel_rfl!) (by kernel_rfl!) (by kernel_rfl!)
  have D_run:Df (KH w.params) mg "run" s_run ps_run:=dfm (f:=660) (pm:=(.str "sealpress.steps" 1085)) (cd:=659) X G (fun _ _ _ _ _ _ us hl=>by obtain⟨_,_,rfl⟩:=len2 hl;rfl) (by kernel_rfl!) (by kernel_rfl!) (by kernel_rfl!) (by kernel_rfl!)
  have D_is_end:Df (KH w.params) mg "is_end" s_is_end ps_is_end:=dfm (f:=667) (pm:=(.str "sealpress.steps" 1085)) (cd:=666) X G (fun _ _ _ _ _ _ us hl=>by obtain⟨_,rfl⟩:=len1 hl;rfl) (by kernel_rfl!) (by kernel_rfl!) (by kernel_rfl!) (by kernel_rfl!)
  have D_floored:Df (KH w.params) mg "floored" s_floored ps_floored:=dfm (f:=674) (pm:=(.str "sealpress.steps" 1085)) (cd:=673) X G (fun _ _ _ _ _ _ us hl=>by obtain⟨_,rfl⟩:=len1 hl;rfl) (by kernel_rfl!) (by kernel_rfl!) (by kernel_rfl!) (by kernel_rfl!)
  have D_Spot___init__:Dc (KH w.params) mg 712 "Spot" "Spot.__init__" s_Spot___init__ ps_Spot___init__:=dcm (f:=688) (pm:=(.str "sealpress.looker" 1128)) (cd:=687) X G (fun _ _ _ _ _ _ us hl=>by obtain⟨_,_,_,_,rfl⟩:=len4 hl;rfl) (by kernel_rfl!) (by kernel_rfl!) (by kernel_rfl!) (by kernel_rfl!) ⟨by kernel_rfl!,by kernel_rfl!,by kernel_rfl!,by kernel_rfl!⟩
  have D_Spot_shown:Dm (KH w.params) 712 "shown" "Spot.shown" s_Spot_shown ps_Spot_shown:=dmm (f:=695) (pm:=(.str "sealpress.looker" 1128)) (cd:=694) (fun _ _ _ _ _ _ us hl=>by obtain⟨_,rfl⟩:=len1 hl;rfl) (by kernel_rfl!) (by kernel_rfl!) (by kernel_rfl!) C_Spot ⟨by kernel_rfl!,by kernel_rfl!,by kernel_rfl!⟩
  have D_Spot_met:Dm (KH w.params) 712 "met" "Spot.met" s_Spot_met ps_Spot_met:=dmm (f:=702) (pm:=(.str "sealpress.looker" 1128)) (cd:=701) (fun _ _ _ _ _ _ us hl=>by obtain⟨_,_,rfl⟩:=len2 hl;rfl) (by kernel_rfl!) (by kernel_rfl!) (by kernel_rfl!) C_Spot ⟨by kernel_rfl!,by kernel_rfl!,by kernel_rfl!⟩
  have D_Looking___init__:Dc (KH w.params) mg 789 "Looking" "Looking.__init__" s_Looking___init__ ps_Looking___init__:=dcm (f:=730) (pm:=(.str "sealpress.looker" 1128)) (cd:=729) X G (fun _ _ _ _ _ _ us hl=>by obtain⟨_,_,rfl⟩:=len2 hl;rfl) (by kernel_rfl!) (by kernel_rfl!) (by kernel_rfl!) (by kernel_rfl!) ⟨by kernel_rfl!,by kernel_rfl!,by kernel_rfl!,by kernel_rfl!⟩
  have D_Looking_look_all:Dm (KH w.params) 789 "look_all" "Looking.look_all" s_Looking_look_all ps_Looking_look_all:=dmm (f:=737) (pm:=(.str "sealpress.looker" 1128)) (cd:=736) (fun _ _ _ _ _ _ us hl=>by obtain⟨_,_,_,rfl⟩:=len3 hl;rfl) (by kernel_rfl!) (by kernel_rfl!) (by kernel_rfl!) C_Looking ⟨by kernel_rfl!,by kernel_rfl!,by kernel_rfl!⟩
  have D_Looking_look_piece:Dm (KH w.params) 789 "look_piece" "Looking.look_piece" s_Looking_look_piece ps_Looking_look_piece:=dmm (f:=744) (pm:=(.str "sealpress.looker" 1128)) (cd:=743) (fun _ _ _ _ _ _ us hl=>by obtain⟨_,_,_,rfl⟩:=len3 hl;rfl) (by kernel_rfl!) (by kernel_rfl!) (by kernel_rfl!) C_Looking ⟨by kernel_rfl!,by kernel_rfl!,by kernel_rfl!⟩
  have D_Looking_look_literal:Dm (KH w.params) 789 "look_literal" "Looking.look_literal" s_Looking_look_literal ps_Looking_look_literal:=dmm (f:=751) (pm:=(.str "sealpress.looker" 1128)) (cd:=750) (fun _ _ _ _ _ _ us hl=>by obtain⟨_,_,_,rfl⟩:=len3 hl;rfl) (by kernel_rfl!) (by kernel_rfl!) (by kernel_rfl!) C_Looking ⟨by kernel_rfl!,by kernel_rfl!,by kernel_rfl!⟩
  have D_Looking_look_seat:Dm (KH w.params) 789 "look_seat" "Looking.look_seat" s_Looking_look_seat ps_Looking_look_seat:=dmm (f:=779) (pm:=(.str "sealpress.looker" 1128)) (cd:=778) (fun _ _ _ _ _ _ us hl=>by obtain⟨_,_,_,rfl⟩:=len3 hl;rfl) (by kernel_rfl!) (by kernel_rfl!) (by kernel_rfl!) C_Looking ⟨by kernel_rfl!,by kernel_rfl!,by kernel_rfl!⟩
  have D_looked_at:Df (KH w.params) mg "looked_at" s_looked_at ps_looked_at:=dfm (f:=800) (pm:=(.str "sealpress.looker" 1128)) (cd:=799) X G (fun _ _ _ _ _ _ us hl=>by obtain⟨_,_,rfl⟩:=len2 hl;rfl) (by kernel_rfl!) (by kernel_rfl!) (by kernel_rfl!) (by kernel_rfl!)
  have D_look:Df (KH w.params) mg "look" s_look ps_look:=dfm (f:=807) (pm:=(.str "sealpress.looker" 1128)) (cd:=806) X G (fun _ _ _ _ _ _ us hl=>by obtain⟨_,rfl⟩:=len1 hl;rfl) (by kernel_rfl!) (by kernel_rfl!) (by kernel_rfl!) (by kernel_rfl!)
  have D__law_cell:Df (KH w.params) mg "_law_cell" s__law_cell ps__law_cell:=dfm (f:=814) (pm:=(.str "law_sealpress_k77_seats_on_their_floors" 1322)) (cd:=813) X G (fun _ _ _ _ _ _ us hl=>by obtain⟨_,_,rfl⟩:=len2 hl;rfl) (by kernel_rfl!) (by kernel_rfl!) (by kernel_rfl!) (by kernel_rfl!)
  have D__law_mix:Df (KH w.params) mg "_law_mix" s__law_mix ps__law_mix:=dfm (f:=821) (pm:=(.str "law_sealpress_k77_seats_on_their_floors" 1322)) (cd:=820) X G (fun _ _ _ _ _ _ us hl=>by obtain⟨_,_,_,rfl⟩:=len3 hl;rfl) (by kernel_rfl!) (by kernel_rfl!) (by kernel_rfl!) (by kernel_rfl!)
  have D__law_other:Df (KH w.params) mg "_law_other" s__law_other ps__law_other:=dfm (f:=828) (pm:=(.str "law_sealpress_k77_seats_on_their_floors" 1322)) (cd:=827) X G (fun _ _ _ _ _ _ us hl=>by obtain⟨_,rfl⟩:=len1 hl;rfl) (by kernel_rfl!) (by kernel_rfl!) (by kernel_rfl!) (by kernel_rfl!)
  have D__law_looked:Df (KH w.params) mg "_law_looked" s__law_looked ps__law_looked:=dfm (f:=835) (pm:=(.str "law_sealpress_k77_seats_on_their_floors" 1322)) (cd:=834) X G (fun _ _ _ _ _ _ us hl=>by obtain⟨_,rfl⟩:=len1 hl;rfl) (by kernel_rfl!) (by kernel_rfl!) (by kernel_rfl!) (by kernel_rfl!)
  have D__law_refusal:Df (KH w.params) mg "_law_refusal" s__law_refusal ps__law_refusal:=dfm (f:=842) (pm:=(.str "law_sealpress_k77_seats_on_their_floors" 1322)) (cd:=841) X G (fun _ _ _ _ _ _ us hl=>by obtain⟨_,rfl⟩:=len1 hl;rfl) (by kernel_rfl!) (by kernel_rfl!) (by kernel_rfl!) (by kernel_rfl!)
  have D__law_spots:Df (KH w.params) mg "_law_spots" s__law_spots ps__law_spots:=dfm (f:=849) (pm:=(.str "law_sealpress_k77_seats_on_their_floors" 1322)) (cd:=848) X G (fun _ _ _ _ _ _ us hl=>by obtain rfl:=len0 hl;rfl) (by kernel_rfl!) (by kernel_rfl!) (by kernel_rfl!) (by kernel_rfl!)
  have D__law_menu:Df (KH w.params) mg "_law_menu" s__law_menu ps__law_menu:=dfm (f:=854) (pm:=(.str "law_sealpress_k77_seats_on_their_floors" 1322)) (cd:=853) X G (fun _ _ _ _ _ _ us hl=>by obtain⟨_,_,rfl⟩:=len2 hl;rfl) (by kernel_rfl!) (by kernel_rfl!) (by kernel_rfl!) (by kernel_rfl!)
  have D__law_found:Df (KH w.params) mg "_law_found" s__law_found ps__law_found:=dfm (f:=861) (pm:=(.str "law_sealpress_k77_seats_on_their_floors" 1322)) (cd:=860) X G (fun _ _ _ _ _ _ us hl=>by obtain⟨_,_,_,rfl⟩:=len3 hl;rfl) (by kernel_rfl!) (by kernel_rfl!) (by kernel_rfl!) (by kernel_rfl!)
  have D__law_ran:Df (KH w.params) mg "_law_ran" s__law_ran ps__law_ran:=dfm (f:=868) (pm:=(.str "law_sealpress_k77_seats_on_their_floors" 1322)) (cd:=867) X G (fun _ _ _ _ _ _ us hl=>by obtain⟨_,_,rfl⟩:=len2 hl;rfl) (by kernel_rfl!) (by kernel_rfl!) (by kernel_rfl!) (by kernel_rfl!)
  have D__law_seat:Df (KH w.params) mg "_law_seat" s__law_seat ps__law_seat:=dfm (f:=875) (pm:=(.str "law_sealpress_k77_seats_on_their_floors" 1322)) (cd:=874) X G (fun _ _ _ _ _ _ us hl=>by obtain⟨_,rfl⟩:=len1 hl;rfl) (by kernel_rfl!) (by kernel_rfl!) (by kernel_rfl!) (by kernel_rfl!)
  have D__law_due:Df (KH w.params) mg "_law_due" s__law_due ps__law_due:=dfm (f:=882) (pm:=(.str "law_sealpress_k77_seats_on_their_floors" 1322)) (cd:=881) X G (fun _ _ _ _ _ _ us hl=>by obtain⟨_,_,_,rfl⟩:=len3 hl;rfl) (by kernel_rfl!) (by kernel_rfl!) (by kernel_rfl!) (by kernel_rfl!)
  have D__law_right:Df (KH w.params) mg "_law_right" s__law_right ps__law_right:=dfm (f:=889) (pm:=(.str "law_sealpress_k77_seats_on_their_floors" 1322)) (cd:=888) X G (fun _ _ _ _ _ _ us hl=>by obtain⟨_,_,rfl⟩:=len2 hl;rfl) (by kernel_rfl!) (by kernel_rfl!) (by kernel_rfl!) (by kernel_rfl!)
  have D__law_evens:Df (KH w.params) mg "_law_evens" s__law_evens ps__law_evens:=dfm (f:=896) (pm:=(.str "law_sealpress_k77_seats_on_their_floors" 1322)) (cd:=895) X G (fun _ _ _ _ _ _ us hl=>by obtain⟨_,_,rfl⟩:=len2 hl;rfl) (by kernel_rfl!) (by kernel_rfl!) (by kernel_rfl!) (by kernel_rfl!)
  have D_law:Df (KH w.params) mg "law" s_law ps_law:=dfm (f:=903) (pm:=(.str "law_sealpress_k77_seats_on_their_floors" 1322)) (cd:=902) X G (fun _ _ _ _ _ _ us hl=>by obtain⟨_,rfl⟩:=len1 hl;rfl) (by kernel_rfl!) (by kernel_rfl!) (by kernel_rfl!) (by kernel_rfl!)
  have e_SIGNS:Str.ofString " !\"#$&'()*+,-./0123456789:;<=>?@ABCDEFGHIJKLMNOPQRSTUVWXYZ[\\]^_`abcdefghijklmnopqrstuvwxyz{|}~" = (S sg):=by decide +kernel
  have e_FIGURES:Str.ofString "0123456789" = (S fg):=by decide +kernel
  have e_LETTERS:Str.ofString "abcdefghijklmnopqrstuvwxyz" = (S lt):=by decide +kernel
  have e_WORDSIGNS:Str.ofString "abcdefghijklmnopqrstuvwxyz0123456789-" = (S ws):=by decide +kernel
  have e_ASIS_END:Str.ofString "</asis>" = (S asisEnd):=by decide +kernel
  have xl_MODES:(KH w.params).lookup 631=some ⟨.type "dict",none,.dict #[(en w.params "text" 1035 (.ref 499)),(en w.params "mark" 1037 (.ref 506)),(en w.params "open" 1039 (.ref 513)),(en w.params "name" 1041 (.ref 520)),(en w.params "slash" 1043 (.ref 527)),(en w.params "shut" 1045 (.ref 534)),(en w.params "gap" 1047 (.ref 541)),(en w.params "attr" 1049 (.ref 548)),(en w.params "is" 1051 (.ref 555)),(en w.params "bang" 1053 (.ref 562)),(en w.params "bare" 1055 (.ref 569)),(en w.params "code" 1057 (.ref 576)),(en w.params "row" 1059 (.ref 583)),(en w.params "stroke" 1061 (.ref 590)),(en w.params "quoted" 1063 (.ref 597)),(en w.params "qmark" 1065 (.ref 604)),(en w.params "done" 1067 (.ref 611)),(en w.params "talk" 1069 (.ref 618)),(en w.params "tmark" 1070 (.ref 625)),(en w.params "asis" 1071 (.ref 630))] 20,#[]⟩:=by kernel_rfl!
  have T:Txt w (KH w.params) mg (⟨24,44,63,82,94,113,132,151,170,182,201,220,239,258,277,296,315,334,353,372,384,712,789,499,506,513,520,527,534,541,548,555,562,569,576,583,590,597,604,611,618,625,630⟩:Ads):=⟨PySem.W.mg_of (v:=.ref 24) X G (by kernel_rfl!),PySem.W.mg_of (v:=.ref 44) X G (by kernel_rfl!),PySem.W.mg_of (v:=.ref 63) X G (by kernel_rfl!),PySem.W.mg_of (v:=.ref 82) X G (by kernel_rfl!),PySem.W.mg_of (v:=.ref 94) X G (by kernel_rfl!),PySem.W.mg_of (v:=.ref 113) X G (by kernel_rfl!),PySem.W.mg_of (v:=.ref 132) X G (by kernel_rfl!),PySem.W.mg_of (v:=.ref 151) X G (by kernel_rfl!),PySem.W.mg_of (v:=.ref 170) X G (by kernel_rfl!),PySem.W.mg_of (v:=.ref 182) X G (by kernel_rfl!),PySem.W.mg_of (v:=.ref 201) X G (by kernel_rfl!),PySem.W.mg_of (v:=.ref 220) X G (by kernel_rfl!),PySem.W.mg_of (v:=.ref 239) X G (by kernel_rfl!),PySem.W.mg_of (v:=.ref 258) X G (by kernel_rfl!),PySem.W.mg_of (v:=.ref 277) X G (by kernel_rfl!),PySem.W.mg_of (v:=.ref 296) X G (by kernel_rfl!),PySem.W.mg_of (v:=.ref 315) X G (by kernel_rfl!),PySem.W.mg_of (v:=.ref 334) X G (by kernel_rfl!),PySem.W.mg_of (v:=.ref 353) X G (by kernel_rfl!),PySem.W.mg_of (v:=.ref 372) X G (by kernel_rfl!),PySem.W.mg_of (v:=.ref 384) X G (by kernel_rfl!),PySem.W.mg_of (v:=.ref 712) X G (by kernel_rfl!),PySem.W.mg_of (v:=.ref 789) X G (by kernel_rfl!),PySem.W.mg_of (v:=.ref 499) X G (by kernel_rfl!),PySem.W.mg_of (v:=.ref 506) X G (by kernel_rfl!),PySem.W.mg_of (v:=.ref 513) X G (by kernel_rfl!),PySem.W.mg_of (v:=.ref 520) X G (by kernel_rfl!),PySem.W.mg_of (v:=.ref 527) X G (by kernel_rfl!),PySem.W.mg_of (v:=.ref 534) X G (by kernel_rfl!),PySem.W.mg_of (v:=.ref 541) X G (by kernel_rfl!),PySem.W.mg_of (v:=.ref 548) X G (by kernel_rfl!),PySem.W.mg_of (v:=.ref 555) X G (by kernel_rfl!),PySem.W.mg_of (v:=.ref 562) X G (by kernel_rfl!),PySem.W.mg_of (v:=.ref 569) X G (by kernel_rfl!),PySem.W.mg_of (v:=.ref 576) X G (by kernel_rfl!),PySem.W.mg_of (v:=.ref 583) X G (by kernel_rfl!),PySem.W.mg_of (v:=.ref 590) X G (by kernel_rfl!),PySem.W.mg_of (v:=.ref 597) X G (by kernel_rfl!),PySem.W.mg_of (v:=.ref 604) X G (by kernel_rfl!),PySem.W.mg_of (v:=.ref 611) X G (by kernel_rfl!),PySem.W.mg_of (v:=.ref 618) X G (by kernel_rfl!),PySem.W.mg_of (v:=.ref 625) X G (by kernel_rfl!),PySem.W.mg_of (v:=.ref 630) X G (by kernel_rfl!),xcl_of (by kernel_rfl!),xcl_of (by kernel_rfl!),by kernel_rfl!,by kernel_rfl!,by kernel_rfl!,by kernel_rfl!,xcl_of (by kernel_rfl!),by kernel_rfl!,by kernel_rfl!,by kernel_rfl!,by kernel_rfl!,by kernel_rfl!,by kernel_rfl!,by kernel_rfl!,by kernel_rfl!,by kernel_rfl!,xcl_of (by kernel_rfl!),by kernel_rfl!,by kernel_rfl!,by kernel_rfl!,by kernel_rfl!,by kernel_rfl!,by kernel_rfl!,by kernel_rfl!,by kernel_rfl!,by kernel_rfl!,by kernel_rfl!,by kernel_rfl!,by kernel_rfl!,⟨.str (Str.ofString " !\"#$&'()*+,-./0123456789:;<=>?@ABCDEFGHIJKLMNOPQRSTUVWXYZ[\\]^_`abcdefghijklmnopqrstuvwxyz{|}~") 690,PySem.W.mg_of X G (by kernel_rfl!),⟨_,by rw [e_SIGNS]⟩⟩,⟨.str (Str.ofString "0123456789") 692,PySem.W.mg_of X G (by kernel_rfl!),⟨_,by rw [e_FIGURES]⟩⟩,⟨.str (Str.ofString "abcdefghijklmnopqrstuvwxyz") 694,PySem.W.mg_of X G (by kernel_rfl!),⟨_,by rw [e_LETTERS]⟩⟩,⟨.int 8 696,PySem.W.mg_of X G (by kernel_rfl!),⟨_,rfl⟩⟩,⟨.str (Str.ofString "abcdefghijklmnopqrstuvwxyz0123456789-") 713,PySem.W.mg_of X G (by kernel_rfl!),⟨_,by rw [e_WORDSIGNS]⟩⟩,⟨.str (Str.ofString "</asis>") 762,PySem.W.mg_of X G (by kernel_rfl!),⟨_,by rw [e_ASIS_END]⟩⟩,⟨.int 2 764,PySem.W.mg_of X G (by kernel_rfl!),⟨_,rfl⟩⟩,⟨_,PySem.W.mg_of (v:=.ref 631) X G (by kernel_rfl!),by decide,_,_,_,xl_MODES,⟨rfl,rfl,rfl⟩,rfl,by repeat' (first | exact EntK.nil | refine EntK.cons rfl rfl rfl ?_),by decide +kernel⟩,PySem.W.mg_none_of X G (by kernel_rfl!),PySem.W.mg_none_of X G (by kernel_rfl!),PySem.W.mg_none_of X G (by kernel_rfl!),PySem.W.mg_none_of X G (by kernel_rfl!),PySem.W.mg_none_of X G (by kernel_rfl!),PySem.W.mg_none_of X G (by kernel_rfl!),PySem.W.mg_none_of X G (by kernel_rfl!),PySem.W.mg_none_of X G (by kernel_rfl!),PySem.W.mg_none_of X G (by kernel_rfl!),PySem.W.mg_none_of X G (by kernel_rfl!),PySem.W.mg_none_of X G (by kernel_rfl!),C_Spot,C_Looking,by show _=_;kernel_rfl!,by show _=_;kernel_rfl!,by show _=_;kernel_rfl!,by show _=_;kernel_rfl!,by show _=_;kernel_rfl!,by show _=_;kernel_rfl!⟩
  have I_Unread:Ini (KH w.params) 82 "Unread.__init__" s_i_Unread ["self","at"]:=inim (f:=79) (pm:=(.str "sealpress.errors" 187)) (cd:=78) (fun _ _ _ _ _ _ us hl=>by obtain⟨_,_,rfl⟩:=len2 hl;rfl) (by kernel_rfl!) (by kernel_rfl!) (by kernel_rfl!) (by kernel_rfl!)
  have I_Astray:Ini (KH w.params) 277 "Astray.__init__" s_i_Astray ["self","place","at"]:=inim (f:=274) (pm:=(.str "sealpress.errors" 187)) (cd:=273) (fun _ _ _ _ _ _ us hl=>by obtain⟨_,_,_,rfl⟩:=len3 hl;rfl) (by kernel_rfl!) (by kernel_rfl!) (by kernel_rfl!) (by kernel_rfl!)
  have I_Unlike:Ini (KH w.params) 315 "Unlike.__init__" s_i_Unlike ["self","what","one","other"]:=inim (f:=312) (pm:=(.str "sealpress.errors" 187)) (cd:=311) (fun _ _ _ _ _ _ us hl=>by obtain⟨_,_,_,_,rfl⟩:=len4 hl;rfl) (by kernel_rfl!) (by kernel_rfl!) (by kernel_rfl!) (by kernel_rfl!)
  refine law_of D_law hfa (fun _ _ _ _ _ _ s v=>.of_eq rfl) fun base=>?_
  have R_Unread:=err_Unread (P:=l.prog) (w:=w) (base:=base) T I_Unread
  have R_Astray:=err_Astray (P:=l.prog) (w:=w) (base:=base) T I_Astray
  have R_Unlike:=err_Unlike (P:=l.prog) (w:=w) (base:=base) T I_Unlike
  have F_sign_of:=ok_sign_of (P:=l.prog) (w:=w) (base:=base) T D_sign_of
  have F_sign_told:=ok_sign_told (P:=l.prog) (w:=w) (base:=base) T D_sign_told F_sign_of
  have F_fed_between:=ok_fed_between (P:=l.prog) (w:=w) (base:=base) T D_fed_between
  have F_fed_word:=ok_fed_word (P:=l.prog) (w:=w) (base:=base) T D_fed_word F_fed_between
  have F_fed_said:=ok_fed_said (P:=l.prog) (w:=w) (base:=base) T D_fed_said
  have F_feed:=ok_feed (P:=l.prog) (w:=w) (base:=base) T D_feed F_fed_between F_fed_word F_fed_said
  have F_come_to:=ok_come_to (P:=l.prog) (w:=w) (base:=base) T D_come_to
  have F_told:=ok_told (P:=l.prog) (w:=w) (base:=base) T D_told F_come_to
  have F_gathered:=ok_gathered (P:=l.prog) (w:=w) (base:=base) T D_gathered
  have F_box_shut:=ok_box_shut (P:=l.prog) (w:=w) (base:=base) T D_box_shut F_come_to
  have F_into_box:=ok_into_box (P:=l.prog) (w:=w) (base:=base) T D_into_box F_come_to
  have F_led_on:=ok_led_on (P:=l.prog) (w:=w) (base:=base) T D_led_on F_come_to F_into_box
  have F_fed:=ok_fed (P:=l.prog) (w:=w) (base:=base) T D_fed F_feed
  have F_mark_ended:=ok_mark_ended (P:=l.prog) (w:=w) (base:=base) T D_mark_ended F_sign_told
  have F_at_text:=ok_at_text (P:=l.prog) (w:=w) (base:=base) T D_at_text F_come_to F_told
  have F_at_mark:=ok_at_mark (P:=l.prog) (w:=w) (base:=base) T D_at_mark F_gathered F_mark_ended F_told
  have F_at_open:=ok_at_open (P:=l.prog) (w:=w) (base:=base) T D_at_open F_come_to F_gathered
  have F_at_name:=ok_at_name (P:=l.prog) (w:=w) (base:=base) T D_at_name F_gathered F_led_on
  have F_at_slash:=ok_at_slash (P:=l.prog) (w:=w) (base:=base) T D_at_slash F_box_shut
  have F_at_shut:=ok_at_shut (P:=l.prog) (w:=w) (base:=base) T D_at_shut F_gathered F_box_shut
  have F_at_gap:=ok_at_gap (P:=l.prog) (w:=w) (base:=base) T D_at_gap F_gathered
  have F_at_attr:=ok_at_attr (P:=l.prog) (w:=w) (base:=base) T D_at_attr F_gathered F_come_to
  have F_at_is:=ok_at_is (P:=l.prog) (w:=w) (base:=base) T D_at_is F_come_to
  have F_at_bang:=ok_at_bang (P:=l.prog) (w:=w) (base:=base) T D_at_bang
  have F_at_bare:=ok_at_bare (P:=l.prog) (w:=w) (base:=base) T D_at_bare F_told F_come_to F_led_on
  have F_at_code:=ok_at_code (P:=l.prog) (w:=w) (base:=base) T D_at_code F_told F_sign_told
  have F_at_row:=ok_at_row (P:=l.prog) (w:=w) (base:=base) T D_at_row F_come_to F_told
  have F_at_stroke:=ok_at_stroke (P:=l.prog) (w:=w) (base:=base) T D_at_stroke F_told
  have F_at_quoted:=ok_at_quoted (P:=l.prog) (w:=w) (base:=base) T D_at_quoted F_come_to F_told
  have F_at_qmark:=ok_at_qmark (P:=l.prog) (w:=w) (base:=base) T D_at_qmark F_gathered F_mark_ended F_told
  have F_at_done:=ok_at_done (P:=l.prog) (w:=w) (base:=base) T D_at_done F_led_on
  have F_at_talk:=ok_at_talk (P:=l.prog) (w:=w) (base:=base) T D_at_talk F_come_to F_fed
  have F_at_tmark:=ok_at_tmark (P:=l.prog) (w:=w) (base:=base) T D_at_tmark F_gathered F_mark_ended F_fed
  have F_at_asis:=ok_at_asis (P:=l.prog) (w:=w) (base:=base) T D_at_asis F_box_shut F_come_to
  have F_moved:=ok_moved (P:=l.prog) (w:=w) (base:=base) T D_moved F_at_text F_at_mark F_at_open F_at_name F_at_slash F_at_shut F_at_gap F_at_attr F_at_is F_at_bang F_at_bare F_at_code F_at_row F_at_stroke F_at_quoted F_at_qmark F_at_done F_at_talk F_at_tmark F_at_asis
  have F_begin:=ok_begin (P:=l.prog) (w:=w) (base:=base) T D_begin
  have F_step:=ok_step (P:=l.prog) (w:=w) (base:=base) T D_step F_moved
  have F_floored:=ok_floored (P:=l.prog) (w:=w) (base:=base) T D_floored
  have F_run:=ok_run (P:=l.prog) (w:=w) (base:=base) T D_run F_step R_Unread
  have F__law_cell:=ok_law_cell (P:=l.prog) (w:=w) (base:=base) T D__law_cell
  have F__law_mix:=ok_law_mix (P:=l.prog) (w:=w) (base:=base) T D__law_mix
  have F_Spot___init__:=ok_Spot___init__ (P:=l.prog) (w:=w) (base:=base) T D_Spot___init__
  have F_Spot_met:=ok_Spot_met (P:=l.prog) (w:=w) (base:=base) T D_Spot_met F_Spot___init__
  have F_Looking___init__:=ok_Looking___init__ (P:=l.prog) (w:=w) (base:=base) T D_Looking___init__
  have F_Spot_shown:=ok_Spot_shown (P:=l.prog) (w:=w) (base:=base) T D_Spot_shown
  have F_Looking_look_literal:=ok_look_literal (P:=l.prog) (w:=w) (base:=base) T D_Looking_look_literal F_run F_Spot_met F_Spot_shown R_Astray
  have F_Looking_look_all:=ok_look_alls (P:=l.prog) (w:=w) (base:=base) T D_Looking_look_all D_Looking_look_piece D_Looking_look_seat F_Looking_look_literal F_Spot_met F_Spot_shown F_floored R_Unlike
  have F_is_end:=ok_is_end (P:=l.prog) (w:=w) (base:=base) T D_is_end F_begin
  have F_looked_at:=ok_looked_at (P:=l.prog) (w:=w) (base:=base) T D_looked_at F_Looking_look_all F_begin F_is_end F_Spot___init__ F_Looking___init__
  have F_look:=ok_look (P:=l.prog) (w:=w) (base:=base) T D_look F_looked_at
  have F__law_other:=ok_law_other (P:=l.prog) (w:=w) (base:=base) T D__law_other
  have F__law_refusal:=ok_law_refusal (P:=l.prog) (w:=w) (base:=base) T D__law_refusal F__law_other
  have F__law_looked:=ok_law_looked (P:=l.prog) (w:=w) (base:=base) T D__law_looked F_look F__law_refusal
  have F__law_menu:=ok_law_menu (P:=l.prog) (w:=w) (base:=base) T D__law_menu F__law_mix
  have F__law_found:=ok_law_found (P:=l.prog) (w:=w) (base:=base) T D__law_found F__law_menu F_step
  have F__law_ran:=ok_law_ran (P:=l.prog) (w:=w) (base:=base) T D__law_ran F_run
  have F__law_seat:=ok_law_seat (P:=l.prog) (w:=w) (base:=base) T D__law_seat
  have F__law_spots:=ok_law_spots (P:=l.prog) (w:=w) (base:=base) T D__law_spots
  have F__law_due:=ok_law_due (P:=l.prog) (w:=w) (base:=base) T D__law_due F__law_ran
  have F__law_evens:=ok_law_evens (P:=l.prog) (w:=w) (base:=base) T D__law_evens F_run F_begin F__law_found
  have F__law_right:=ok_law_right (P:=l.prog) (w:=w) (base:=base) T D__law_right F_run F_begin F__law_due F__law_looked F__law_seat
  have F_law:=ok_law (P:=l.prog) (w:=w) (base:=base) T D_law F__law_cell F__law_mix F__law_spots F__law_found F__law_evens F__law_right F_run F_begin F__law_looked F__law_seat
  exact F_law
theorem walk {l:PySem.W.OpenLaw}{q:Program}{loose:List Str}{XP:(Str->Option Value)->Heap->Prop}{YP:World->Heap->Prop}{d:DefRec}{K:Params->PySem.W.Frag}(hn:l.most=some 63)(hdf:d.params.defaults=[])
    (hY:∀ (w:World) (h:Heap),YP w h->(K w.params).In h)
    (F:∀ (w:World) (mg:Str->Option Value) (fa:Addr) (h:Heap),(K w.params).In h->h.Ns mainGlobals mg->mg d.name=some (.ref fa) ->
      ∃ fd:FuncData,(∀ (s:Shared) (u:Value),BindsTo s fd ⟨[u],[]⟩ [("_law_script",u)])/\∀ base:Heap,(K w.params).In base->base.Ns mainGlobals mg->FnOk l.prog w (K w.params) mg base CX0 65 fa fd ["_law_script"] (sp_law (K w.params))) :
    PySem.W.WalkO q loose XP YP l.row.toRowW d [] (fun f vs=>PySem.call f vs):=
  L2.walk_of (n:=63) (k:=65) (x:="_law_script") (CX:=fun _=>CX0) (sp:=fun w=>sp_law (K w.params)) hn (by decide) hdf ⟨rfl,by decide,by decide,rfl⟩ hY F (fun _ _ a ns hl _ hS=>⟨a,ns,rfl,hS,hl,fun _=>rfl⟩) fun _ _ _ _ _ z=>z
end My
open PySem PySem.W PyProof.Rows
set_option maxRecDepth 100000 in
set_option maxHeartbeats 0 in
theorem PySem.Challenge.cw_sealpress_k77_seats_on_their_floors_holds : PySem.Challenge.rw_sealpress_k77_seats_on_their_floors.Holds := by
  w_on; o_law
  refine PySem.W.holds_open (q := My.qvw) (loose := My.loose0) (Xt := My.Xt0) (XP := XL My.qvw []) (Yf := Hook.obs My.HK) (Ya := Hook.val My.HK) (YP := Hook.says My.HK) (N := 8317) My.left (Hook.of My.HK) (Hook.keeps My.HK) (fun s e => xl_of s (Bool.and_eq_true_iff.mp e).1) XL.keeps (by rfl) (by rfl) (by rfl) (fun s e => recFacts_of (Bool.and_eq_true_iff.mp e).2) (by rfl) (by first | assumption | decide +kernel) (by decide +kernel) ⟨rfl, rfl, rfl, rfl, rfl, by decide +kernel⟩ ?hw ?hc
  (case hw => w_witness2)
  exact My.walk (l := PySem.Challenge.rw_sealpress_k77_seats_on_their_floors) rfl rfl (fun w h Y => PySem.W.kIn_of Y) (fun w mg fa h KX G hmg => My.all_ok KX G hmg)
