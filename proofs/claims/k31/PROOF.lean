import PyProof.Rows.All
import Wide.All
import OpenK.AllK
import Wide.FinOn
import Lean
import PyProof.EqAt
import PyProof.EqKinds
import PyProof.TupleCall
import PyProof.Draws
import PyProof.EnumMake
import PyProof.NeKinds
import PyProof.ZipIter
import PyProof.Rows.ZipGen
import PyProof.ReprRoads
import KE.KRevIter
import PyProof.StrLawsReplace
import PyProof.ToksMono
import PyProof.SliceList
import PySem.Challenge.RW_sealpress_k31_rows_of_a_page
set_option Elab.async false
set_option linter.all false
set_option maxRecDepth 100000
set_option maxHeartbeats 0
namespace L2
open PySem PySem.W
theorem left_run {p q:Program}{loose:List Str}{Xt:Shared->Bool}{α:Type}{Yf:Shared->α}{Ya:World->α}{N M m0:Nat}{ann:Option Value}{H0:Params->Heap}{g0:Array GenState}{d0:Drawn}{k0:Nat}
  (hb:∀ w:World,(fencedOpening treeTable p w N).map (fun s=>(s.heap,s.gens,s.drawn,s.toks))=some (H0 w.params,g0,d0,k0))
  (hz:∀ w:World,((H0 w.params).isNs mainGlobals&&g0.size == 0,(H0 w.params).objs.size,(H0 w.params).nsMap mainGlobals "__annotations__")=(true,m0,ann))
  (hr:∀ (w:World) (os:OsState),∃ s:Shared,topRun treeTable p w m0 ann M ⟨H0 w.params,g0,d0,k0,os⟩ (topStub p)=some s /\
   (staticsOk (importedModules p.main.body) (H0 w.params) s.heap&&namesBound p s.heap&&gensDone s&&laidKept (H0 w.params) s.heap)=true/\openSeen q loose (importedModules p.main.body) Xt true s=openGood q loose/\Yf s=Ya w)
  (hn:M<=N):LeftO p q loose Xt Yf Ya N:=fun w=>by
 obtain⟨s0,e,e'⟩:=Option.map_eq_some_iff.mp (hb w)
 obtain⟨h,gs,d,k,os⟩:=s0
 simp only [Prod.mk.injEq] at e'
 obtain⟨rfl,rfl,rfl,rfl⟩:=e'
 obtain⟨s,r,l1,l2,l3⟩:=hr w os
 have z:=hz w
 simp only [Prod.mk.injEq] at z
 obtain⟨z1,z2,z3⟩:=z
 obtain⟨x,rfl⟩:=Nat.exists_eq_add_of_le hn
 have r':=topRun_mono x _ _ _ _ r
 have t:topFrom treeTable p w (M+x) ⟨H0 w.params,gs,d,k,os⟩=some s:=by
  unfold topFrom
  simp only [z1,z2,z3,r',Option.bind_some,l1]
 unfold openEnds
 rw [e,Option.bind_some,t,Option.map_some,l2,l3]
end L2
namespace My
open PySem PySem.W
abbrev pw:Program:=PySem.Challenge.pw_sealpress_k31_rows_of_a_page
noncomputable def tp (i:Nat):Stmt:=pw.main.body.getD i (.Pass ⟨0,0,0,0⟩)
noncomputable def tc (i j:Nat):Stmt:=match tp i with
 | .ClassDef _ _ _ body _ _ _ _ _ _ _=>body.getD j (.Pass ⟨0,0,0,0⟩)
 | _=>.Pass ⟨0,0,0,0⟩
noncomputable def fnO (s:Stmt)(nm q:Str)(g:Addr)(cl:List (Str×Addr))(df kd dc pm:Value)(an:Option Addr)(cd ct:Value)(bl:Addr):Data:=match s with
 | .FunctionDef _ a b _ _ _ sc _ _ _=>.func ⟨nm,q,a,.stmts b,sc,g,cl,df,kd,dc,pm,an,cd,ct,bl⟩
 | _=>.plain
noncomputable def en (P:Params)(k:Str)(t:Nat)(v:Value):DictEntry:=⟨PyData.keyHash P k,.str k t,v⟩
noncomputable def cO (n:Str)(a b c:Nat)(l g:Int)(r q:Addr)(x y z w:Value)(t:Int)(u:Nat):Obj:=⟨.type "code",none,.fields #[.str n a,.str n b,.str "/claim/cut.py" c,.int l 0,.int g 0,.int 0 0,.int 0 0,.int 3 0,.ref r,.bool true,.int 181 0,.ref q,x,y,z,w,.int t 0,.int l 0,.str "/claim/cut.py" u],#[]⟩
noncomputable def fO (i:Nat)(n:Str)(m:Value)(c:Addr):Obj:=⟨.type "function",none,fnO (tp i) n n 3 [] .none .none .none m none (.ref c) .none 0,#[]⟩
noncomputable def o11 (_:Params):Obj:={ cls:=.type "tuple",data:=.seq #[] }
noncomputable def o12 (_:Params):Obj:={ cls:=.none,data:=.fields #[] }
noncomputable def o13 (_:Params):Obj:={ cls:=.type "code",data:=.fields #[.str "<module>" 182,.str "<module>" 183,.str "/claim/cut.py" 184,.int 1 0,.int 0 0,.int 0 0,.int 0 0,.int 0 0,.ref 11,.bool false,.int 181 0,.ref 12,.none,.none,.none,.none,.int 185 0,.int 1 0,.str "/claim/cut.py" 186] }
noncomputable def o14 (_:Params):Obj:={ cls:=.type "frame",slots:=#[some (.ref 13),some (.ref 3),some (.ref 3),none,some (.str "__main__" 164),none,some (.ref 0)] }
noncomputable def x0 (P:Params):Obj:=⟨(.type "dict"),none,(.dict #[(en P "__name__" 165 (.str "law_sealpress_k31_rows_of_a_page" 323)),(en P "__doc__" 166 .none),(en P "__package__" 167 .none),(en P "__loader__" 168 (.builtin "__main__.__loader__#opaque")),(en P "__spec__" 169 .none),(en P "__annotations__" 170 (.ref 6)),(en P "__builtins__" 171 (.ref 4)),(en P "__file__" 173 (.str "/claim/cut.py" 172)),(en P "__cached__" 174 .none),(en P "SIGNS" 190 (.str " !\"#$&'()*+,-./0123456789:;<=>?@ABCDEFGHIJKLMNOPQRSTUVWXYZ[\\]^_`abcdefghijklmnopqrstuvwxyz{|}~" 189)),(en P "LETTERS" 192 (.str "abcdefghijklmnopqrstuvwxyz" 191)),(en P "LONGEST_NAME" 194 (.int 8 193)),(en P "is_text" 200 (.ref 19)),(en P "is_name" 206 (.ref 24)),(en P "WORDSIGNS" 208 (.str "abcdefghijklmnopqrstuvwxyz0123456789-" 207)),(en P "ASIS_END" 210 (.str "</asis>" 209)),(en P "is_tuple_of" 221 (.ref 31)),(en P "is_word" 227 (.ref 36)),(en P "is_talked" 234 (.ref 43)),(en P "is_content" 240 (.ref 48)),(en P "is_attr" 247 (.ref 55)),(en P "is_box_row" 253 (.ref 60)),(en P "is_text_row" 261 (.ref 67)),(en P "first_fault" 272 (.ref 74)),(en P "is_page" 279 (.ref 81)),(en P "with_texts" 285 (.ref 86)),(en P "begun_content" 293 (.ref 93)),(en P "page_of" 304 (.ref 100)),(en P "content_shape" 310 (.ref 105)),(en P "row_shape" 316 (.ref 110)),(en P "shape_of" 322 (.ref 115)),(en P "_law_mixed" 335 (.ref 122)),(en P "_law_state" 344 (.ref 129)),(en P "_law_next" 353 (.ref 136)),(en P "_law_signs" 365 (.ref 143)),(en P "_law_name" 371 (.ref 148)),(en P "_law_piece" 377 (.ref 153)),(en P "_law_attr" 383 (.ref 158)),(en P "_law_box" 389 (.ref 163)),(en P "_law_page" 400 (.ref 170)),(en P "_law_same" 406 (.ref 175)),(en P "_law_spill" 414 (.ref 182)),(en P "_law_attr_events" 420 (.ref 187)),(en P "_law_events" 426 (.ref 192)),(en P "_law_shaped" 432 (.ref 197)),(en P "_law_shape" 438 (.ref 202)),(en P "law" 452 (.ref 209))] 47),#[]⟩
noncomputable def x1 (_:Params):Obj:=cO "is_text" 195 196 197 5 1 15 16 .none .none .none (.ref 17) 198 199
noncomputable def x2 (_:Params):Obj:=fO 4 "is_text" (.str "sealpress.signs" 187) 18
noncomputable def x3 (_:Params):Obj:=cO "is_name" 201 202 203 7 1 20 21 .none .none .none (.ref 22) 204 205
noncomputable def x4 (_:Params):Obj:=fO 5 "is_name" (.str "sealpress.signs" 187) 23
noncomputable def x5 (_:Params):Obj:=cO "is_tuple_of" 213 214 215 14 3 25 26 .none (.ref 27) (.ref 28) (.ref 29) 219 220
noncomputable def x6 (_:Params):Obj:=fO 9 "is_tuple_of" (.str "sealpress.pages" 211) 30
noncomputable def x7 (_:Params):Obj:=cO "is_word" 222 223 224 16 1 32 33 .none .none .none (.ref 34) 225 226
noncomputable def x8 (_:Params):Obj:=fO 10 "is_word" (.str "sealpress.pages" 211) 35
noncomputable def x9 (_:Params):Obj:=cO "is_talked" 228 229 230 18 1 37 38 .none (.ref 39) (.ref 40) (.ref 41) 232 233
noncomputable def x10 (_:Params):Obj:=fO 11 "is_talked" (.str "sealpress.pages" 211) 42
noncomputable def x11 (_:Params):Obj:=cO "is_content" 235 236 237 22 2 44 45 .none .none .none (.ref 46) 238 239
noncomputable def x12 (_:Params):Obj:=fO 12 "is_content" (.str "sealpress.pages" 211) 47
noncomputable def x13 (_:Params):Obj:=cO "is_attr" 241 242 243 28 1 49 50 .none (.ref 51) (.ref 52) (.ref 53) 245 246
noncomputable def x14 (_:Params):Obj:=fO 13 "is_attr" (.str "sealpress.pages" 211) 54
noncomputable def x15 (_:Params):Obj:=cO "is_box_row" 248 249 250 32 1 56 57 .none .none .none (.ref 58) 251 252
noncomputable def x16 (_:Params):Obj:=fO 14 "is_box_row" (.str "sealpress.pages" 211) 59
noncomputable def x17 (_:Params):Obj:=cO "is_text_row" 254 255 256 36 2 61 62 .none (.ref 63) (.ref 64) (.ref 65) 259 260
noncomputable def x18 (_:Params):Obj:=fO 15 "is_text_row" (.str "sealpress.pages" 211) 66
noncomputable def x19 (_:Params):Obj:=cO "first_fault" 262 263 264 40 1 68 69 .none (.ref 70) (.ref 71) (.ref 72) 270 271
noncomputable def x20 (_:Params):Obj:=fO 16 "first_fault" (.str "sealpress.pages" 211) 73
noncomputable def x21 (_:Params):Obj:=cO "is_page" 273 274 275 56 1 75 76 .none (.ref 77) (.ref 78) (.ref 79) 277 278
noncomputable def x22 (_:Params):Obj:=fO 17 "is_page" (.str "sealpress.pages" 211) 80
noncomputable def x23 (_:Params):Obj:=cO "with_texts" 280 281 282 58 1 82 83 .none .none .none (.ref 84) 283 284
noncomputable def x24 (_:Params):Obj:=fO 18 "with_texts" (.str "sealpress.pages" 211) 85
noncomputable def x25 (_:Params):Obj:=cO "begun_content" 286 287 288 66 2 87 88 .none (.ref 89) (.ref 90) (.ref 91) 291 292
noncomputable def x26 (_:Params):Obj:=fO 19 "begun_content" (.str "sealpress.pages" 211) 92
noncomputable def x27 (_:Params):Obj:=cO "page_of" 294 295 296 70 1 94 95 .none (.ref 96) (.ref 97) (.ref 98) 302 303
noncomputable def x28 (_:Params):Obj:=fO 20 "page_of" (.str "sealpress.pages" 211) 99
noncomputable def x29 (_:Params):Obj:=cO "content_shape" 305 306 307 87 2 101 102 .none .none .none (.ref 103) 308 309
noncomputable def x30 (_:Params):Obj:=fO 21 "content_shape" (.str "sealpress.pages" 211) 104
noncomputable def x31 (_:Params):Obj:=cO "row_shape" 311 312 313 93 1 106 107 .none .none .none (.ref 108) 314 315
noncomputable def x32 (_:Params):Obj:=fO 22 "row_shape" (.str "sealpress.pages" 211) 109
noncomputable def x33 (_:Params):Obj:=cO "shape_of" 317 318 319 99 1 111 112 .none .none .none (.ref 113) 320 321
noncomputable def x34 (_:Params):Obj:=fO 23 "shape_of" (.str "sealpress.pages" 211) 114
noncomputable def x35 (_:Params):Obj:=cO "_law_mixed" 325 326 327 102 2 116 117 .none (.ref 118) (.ref 119) (.ref 120) 333 334
noncomputable def x36 (_:Params):Obj:=fO 25 "_law_mixed" (.str "law_sealpress_k31_rows_of_a_page" 323) 121
noncomputable def x37 (_:Params):Obj:=cO "_law_state" 336 337 338 107 1 123 124 .none (.ref 125) (.ref 126) (.ref 127) 342 343
noncomputable def x38 (_:Params):Obj:=fO 26 "_law_state" (.str "law_sealpress_k31_rows_of_a_page" 323) 128
noncomputable def x39 (_:Params):Obj:=cO "_law_next" 345 346 347 112 2 130 131 .none (.ref 132) (.ref 133) (.ref 134) 351 352
noncomputable def x40 (_:Params):Obj:=fO 27 "_law_next" (.str "law_sealpress_k31_rows_of_a_page" 323) 135
noncomputable def x41 (_:Params):Obj:=cO "_law_signs" 354 355 356 120 2 137 138 .none (.ref 139) (.ref 140) (.ref 141) 363 364
noncomputable def x42 (_:Params):Obj:=fO 28 "_law_signs" (.str "law_sealpress_k31_rows_of_a_page" 323) 142
noncomputable def x43 (_:Params):Obj:=cO "_law_name" 366 367 368 128 1 144 145 .none .none .none (.ref 146) 369 370
noncomputable def x44 (_:Params):Obj:=fO 29 "_law_name" (.str "law_sealpress_k31_rows_of_a_page" 323) 147
noncomputable def x45 (_:Params):Obj:=cO "_law_piece" 372 373 374 134 1 149 150 .none .none .none (.ref 151) 375 376
noncomputable def x46 (_:Params):Obj:=fO 30 "_law_piece" (.str "law_sealpress_k31_rows_of_a_page" 323) 152
noncomputable def x47 (_:Params):Obj:=cO "_law_attr" 378 379 380 139 1 154 155 .none .none .none (.ref 156) 381 382
noncomputable def x48 (_:Params):Obj:=fO 31 "_law_attr" (.str "law_sealpress_k31_rows_of_a_page" 323) 157
noncomputable def x49 (_:Params):Obj:=cO "_law_box" 384 385 386 147 3 159 160 .none .none .none (.ref 161) 387 388
noncomputable def x50 (_:Params):Obj:=fO 32 "_law_box" (.str "law_sealpress_k31_rows_of_a_page" 323) 162
noncomputable def x51 (_:Params):Obj:=cO "_law_page" 390 391 392 157 2 164 165 .none (.ref 166) (.ref 167) (.ref 168) 398 399
noncomputable def x52 (_:Params):Obj:=fO 33 "_law_page" (.str "law_sealpress_k31_rows_of_a_page" 323) 169
noncomputable def x53 (_:Params):Obj:=cO "_law_same" 401 402 403 169 2 171 172 .none .none .none (.ref 173) 404 405
noncomputable def x54 (_:Params):Obj:=fO 34 "_law_same" (.str "law_sealpress_k31_rows_of_a_page" 323) 174
noncomputable def x55 (_:Params):Obj:=cO "_law_spill" 407 408 409 175 1 176 177 .none (.ref 178) (.ref 179) (.ref 180) 412 413
noncomputable def x56 (_:Params):Obj:=fO 35 "_law_spill" (.str "law_sealpress_k31_rows_of_a_page" 323) 181
noncomputable def x57 (_:Params):Obj:=cO "_law_attr_events" 415 416 417 182 1 183 184 .none .none .none (.ref 185) 418 419
noncomputable def x58 (_:Params):Obj:=fO 36 "_law_attr_events" (.str "law_sealpress_k31_rows_of_a_page" 323) 186
noncomputable def x59 (_:Params):Obj:=cO "_law_events" 421 422 423 194 1 188 189 .none .none .none (.ref 190) 424 425
noncomputable def x60 (_:Params):Obj:=fO 37 "_law_events" (.str "law_sealpress_k31_rows_of_a_page" 323) 191
noncomputable def x61 (_:Params):Obj:=cO "_law_shaped" 427 428 429 207 1 193 194 .none .none .none (.ref 195) 430 431
noncomputable def x62 (_:Params):Obj:=fO 38 "_law_shaped" (.str "law_sealpress_k31_rows_of_a_page" 323) 196
noncomputable def x63 (_:Params):Obj:=cO "_law_shape" 433 434 435 215 1 198 199 .none .none .none (.ref 200) 436 437
noncomputable def x64 (_:Params):Obj:=fO 39 "_law_shape" (.str "law_sealpress_k31_rows_of_a_page" 323) 201
noncomputable def x65 (_:Params):Obj:=cO "law" 439 440 441 225 1 203 204 .none (.ref 205) (.ref 206) (.ref 207) 450 451
noncomputable def x66 (_:Params):Obj:=fO 40 "law" (.str "law_sealpress_k31_rows_of_a_page" 323) 208
noncomputable def kh0 (P:Params):PySem.W.Frag:=[(3,x0 P),(18,x1 P),(19,x2 P),(23,x3 P),(24,x4 P),(30,x5 P),(31,x6 P),(35,x7 P),(36,x8 P),(42,x9 P),(43,x10 P),(47,x11 P)]
noncomputable def kh1 (P:Params):PySem.W.Frag:=[(48,x12 P),(54,x13 P),(55,x14 P),(59,x15 P),(60,x16 P),(66,x17 P),(67,x18 P),(73,x19 P),(74,x20 P),(80,x21 P),(81,x22 P),(85,x23 P)]
noncomputable def kh2 (P:Params):PySem.W.Frag:=[(86,x24 P),(92,x25 P),(93,x26 P),(99,x27 P),(100,x28 P),(104,x29 P),(105,x30 P),(109,x31 P),(110,x32 P),(114,x33 P),(115,x34 P),(121,x35 P)]
noncomputable def kh3 (P:Params):PySem.W.Frag:=[(122,x36 P),(128,x37 P),(129,x38 P),(135,x39 P),(136,x40 P),(142,x41 P),(143,x42 P),(147,x43 P),(148,x44 P),(152,x45 P),(153,x46 P),(157,x47 P)]
noncomputable def kh4 (P:Params):PySem.W.Frag:=[(158,x48 P),(162,x49 P),(163,x50 P),(169,x51 P),(170,x52 P),(174,x53 P),(175,x54 P),(181,x55 P),(182,x56 P),(186,x57 P),(187,x58 P),(191,x59 P)]
noncomputable def kh5 (P:Params):PySem.W.Frag:=[(192,x60 P),(196,x61 P),(197,x62 P),(201,x63 P),(202,x64 P),(208,x65 P),(209,x66 P)]
noncomputable def KH (P:Params):PySem.W.Frag:=kh0 P++(kh1 P++(kh2 P++(kh3 P++(kh4 P++(kh5 P)))))
noncomputable def asL:List Addr:=[3,18,19,23,24,30,31,35,36,42,43,47,48,54,55,59,60,66,67,73,74,80,81,85,86,92,93,99,100,104,105,109,110,114,115,121,122,128,129,135,136,142,143,147,148,152,153,157,158,162,163,169,170,174,175,181,182,186,187,191,192,196,197,201,202,208,209]
theorem zgi (P:Params):asL=(KH P).map (fun p=>p.1):=by kernel_rfl
@[reducible] noncomputable def HK:Hook:=kHook KH asL zgi
noncomputable def obs0 (s:Shared):List (Option Obj):=asL.map s.heap.get?
noncomputable def val0 (w:World):List (Option Obj):=(KH w.params).map fun p=>some p.2
noncomputable def tb0 (P:Params):BT:=.node (boot_o_0 P) (.node (boot_o_1 P) (.node (boot_o_3 P) (.node (boot_o_7 P) .nil .nil) (.node (o11 P) .nil .nil)) (.node (boot_o_5 P) (.node (boot_o_9 P) .nil .nil) (.node (o13 P) .nil .nil)))
 (.node (boot_o_2 P) (.node (boot_o_4 P) (.node (boot_o_8 P) .nil .nil) (.node (o12 P) .nil .nil)) (.node (boot_o_6 P) (.node (boot_o_10 P) .nil .nil) (.node (o14 P) .nil .nil)))
noncomputable def sB (w:World)(os:OsState):SharedT:=⟨tb0 w.params,15,{},#[],{},187,os⟩
noncomputable def env0:Env:={ scope:=pw.main.scope,locals:=mainNs,globals:=mainNs,cells:=[],code:=.ref 13,frame:=some 14 }
noncomputable def Kw:List Stmt:=behindTheImports pw
noncomputable def cE:Code:=.body Kw env0
noncomputable def pos0:Pos:=⟨0,0,0,0⟩
noncomputable def B0:List Frame:=[topFrame pos0]
noncomputable def ann0:Option Value:=some (.ref 6)
noncomputable def qvw:Program:=view pw [1,2,3,4,5,6,7,9,10,11,12,13,14,15,16,17,18,19,20,21,22,23,25,26,27,28,29,30,31,32,33,34,35,36,37,38,39,40]
noncomputable def loose0:List Str:=[]
noncomputable def mods:List Str:=importedModules pw.main.body
noncomputable def Xt0 (s:Shared):Bool:=xlAt qvw [] s&&recOk (RowW.records (OpenRow.toRowW (OpenLaw.row PySem.Challenge.rw_sealpress_k31_rows_of_a_page))) s
noncomputable def zdA (w:World)(r:Flow×SharedT×Code×Pos):=(r.1,r.2.2.1,(staticsOk mods (boot_heap w.params) r.2.1.abs.heap&&namesBound pw r.2.1.abs.heap&&gensDone r.2.1.abs&&laidKept (boot_heap w.params) r.2.1.abs.heap),obs0 r.2.1.abs)
noncomputable def zgj (r:Flow×SharedT×Code×Pos):=openSeen qvw loose0 mods Xt0 true r.2.1.abs
noncomputable def ck0:List Stmt:=Kw
noncomputable def lhs (w:World)(os:OsState):=(segRunT treeTable pw w 11 ann0 1 1112 (sB w os) (piecesOf ck0 env0 cE pos0 B0)).map (zdA w)
noncomputable def rhs (w:World)(_:OsState):=some (Flow.next,cE,true,val0 w)
noncomputable def lhsG (w:World)(os:OsState):=(segRunT treeTable pw w 11 ann0 1 1112 (sB w os) (piecesOf ck0 env0 cE pos0 B0)).map zgj
noncomputable def rhsG (_:World)(_:OsState):=some (openGood qvw loose0)
theorem zgk:@lhs = @lhs:=rfl
theorem zgl:@rhs = @rhs:=rfl
name_quick lhsQ for My.lhs by My.zgk
name_quick rhsQ for My.rhs by My.zgl
theorem kr (w:World):PySem.W.Fast.lhsQ w=PySem.W.Fast.rhsQ w:=by kernel_rfl
theorem zb3 (w:World):lhs w=rhs w:=(congrFun PySem.W.Fast.lhsQ_eq w).trans ((kr w).trans (congrFun PySem.W.Fast.rhsQ_eq w).symm)
theorem zeA:@lhsG = @lhsG:=rfl
theorem zeB:@rhsG = @rhsG:=rfl
name_quick lhsGQ for My.lhsG by My.zeA
name_quick rhsGQ for My.rhsG by My.zeB
theorem krG (w:World):PySem.W.Fast.lhsGQ w=PySem.W.Fast.rhsGQ w:=by kernel_rfl
theorem Kx (w:World):lhsG w=rhsG w:=(congrFun PySem.W.Fast.lhsGQ_eq w).trans ((krG w).trans (congrFun PySem.W.Fast.rhsGQ_eq w).symm)
noncomputable def lhs1 (w:World)(os:OsState):=topGo treeTable pw w 11 ann0 12 ⟨boot_heap w.params,#[],boot_drawn,boot_toks,os⟩ (topStub pw)
noncomputable def rhs1 (w:World)(os:OsState):Option (Shared×Thread):=some ((sB w os).abs,⟨denote treeTable cE,cE,pos0,B0⟩)
theorem zeC:@lhs1 = @lhs1:=rfl
theorem zeD:@rhs1 = @rhs1:=rfl
name_quick lhs1Q for My.lhs1 by My.zeC
name_quick rhs1Q for My.rhs1 by My.zeD
theorem kr1 (w:World):PySem.W.Fast.lhs1Q w=PySem.W.Fast.rhs1Q w:=by kernel_rfl
theorem zgm (w:World):lhs1 w=rhs1 w:=(congrFun PySem.W.Fast.lhs1Q_eq w).trans ((kr1 w).trans (congrFun PySem.W.Fast.rhs1Q_eq w).symm)
noncomputable def lhs2 (w:World)(os:OsState):=segRun treeTable pw w 11 ann0 1 1 (sB w os).abs (blockOf Kw env0 cE pos0 B0)
noncomputable def rhs2 (w:World)(os:OsState):Option (Flow×Shared×Code×Pos):=some (.next,(sB w os).abs,cE,pos0)
theorem zeE:@lhs2 = @lhs2:=rfl
theorem zeF:@rhs2 = @rhs2:=rfl
name_quick lhs2Q for My.lhs2 by My.zeE
name_quick rhs2Q for My.rhs2 by My.zeF
theorem kr2 (w:World):PySem.W.Fast.lhs2Q w=PySem.W.Fast.rhs2Q w:=by kernel_rfl
theorem zgn (w:World):lhs2 w=rhs2 w:=(congrFun PySem.W.Fast.lhs2Q_eq w).trans ((kr2 w).trans (congrFun PySem.W.Fast.rhs2Q_eq w).symm)
noncomputable def lhs3 (w:World):Bool×Nat×Option Value:=((boot_heap w.params).isNs mainGlobals&&(#[]:Array GenState).size == 0,(boot_heap w.params).objs.size,(boot_heap w.params).nsMap mainGlobals "__annotations__")
theorem zeG:@lhs3 = @lhs3:=rfl
name_quick lhs3Q for My.lhs3 by My.zeG
theorem kr3 (w:World):PySem.W.Fast.lhs3Q w=(true,11,ann0):=by kernel_rfl
theorem zgo (w:World):lhs3 w=(true,11,ann0):=(congrFun PySem.W.Fast.lhs3Q_eq w).trans (kr3 w)
theorem fin0 (w:World)(s:Shared)(q:Pos):topRun treeTable pw w 11 ann0 2 s (restOf [] env0 cE q B0)=some s:=rfl
theorem zb4 (w:World)(os:OsState):∃ s:Shared,topRun treeTable pw w 11 ann0 (12+(1+(1112+2))) ⟨boot_heap w.params,#[],boot_drawn,boot_toks,os⟩ (topStub pw)=some s /\
  (staticsOk mods (boot_heap w.params) s.heap&&namesBound pw s.heap&&gensDone s&&laidKept (boot_heap w.params) s.heap)=true/\openSeen qvw loose0 mods Xt0 true s=openGood qvw loose0/\obs0 s=val0 w:=by
 obtain⟨⟨f,s,c,q⟩,hr,hF⟩:=Option.map_eq_some_iff.mp (congrFun (zb3 w) os)
 unfold zdA at hF
 simp only [Prod.mk.injEq] at hF
 obtain⟨rfl,rfl,h1,h3⟩:=hF
 have h2:openSeen qvw loose0 mods Xt0 true s.abs=openGood qvw loose0:=by
  have hG:=congrFun (Kx w) os
  unfold lhsG rhsG at hG
  rw [hr,Option.map_some] at hG
  exact Option.some.inj hG
 refine⟨s.abs,?_,h1,h2,h3⟩
 refine go_top (congrFun (zgm w) os) (piece_block (congrFun (zgn w) os) ?_)
 have k:=piece_app (segRun_of hr) (fin0 w s.abs q)
 rw [List.append_nil] at k
 exact k
theorem zgp (w:World):(fencedOpening treeTable pw w 1227).map (fun s=>(s.heap,s.gens,s.drawn,s.toks))=some (boot_heap w.params,Array.mk [],boot_drawn,boot_toks):=boot_open (p:=pw) (N:=1227) (by kernel_rfl) (by kernel_rfl) (fun _=>rfl) w
theorem left:LeftO pw qvw loose0 Xt0 HK.obs HK.val 1227:=L2.left_run (M:=12+(1+(1112+2))) (m0:=11) (ann:=ann0) zgp zgo zb4 (by decide)
end My
set_option maxHeartbeats 1000000
namespace L2
open PySem PySem.Spec PyProof.Rows
noncomputable abbrev Key:=Sum Int Str
noncomputable def Zg:Key->Value->Bool
 | .inl k,v=>Value.isInt k v
 | .inr x,v=>Value.isStrOf x v
noncomputable def keyH (w:World):Key->Int
 | .inl k=>hashInt k
 | .inr x=>hashStr w x
theorem zW:∀ {k:Key} {v:Value},Zg k v=true->(∃ i t,k=Sum.inl i/\v=Value.int i t)\/(∃ x t,k=Sum.inr x/\v=Value.str x t)
 | .inl i,v,h=>by
  obtain⟨t,e⟩:=Value.isInt_shape (k:=i) (v:=v) h
  exact .inl ⟨i,t,rfl,e⟩
 | .inr x,v,h=>by
  obtain⟨t,e⟩:=Value.isStrOf_shape (x:=x) (v:=v) h
  exact .inr ⟨x,t,rfl,e⟩
theorem Yw (i:Int)(t:Tok):Zg (.inl i) (.int i t)=true:=by simp [Zg,Value.isInt]
theorem Yx (x:Str)(t:Tok):Zg (.inr x) (.str x t)=true:=by simp [Zg,Value.isStrOf]
theorem zeH (a b:Int):decide ((Sum.inl a:Key)=Sum.inl b)=(a == b):=by
 by_cases e:a=b
 ·subst e;simp
 ·have h:¬ (Sum.inl a:Key)=Sum.inl b:=fun q=>e (Sum.inl.inj q)
  rw [decide_eq_false h]
  exact(beq_eq_false_iff_ne.mpr e).symm
theorem zeI (a b:Str):decide ((Sum.inr a:Key)=Sum.inr b)=decide (a=b):=by
 by_cases e:a=b
 ·subst e;simp
 ·have h:¬ (Sum.inr a:Key)=Sum.inr b:=fun q=>e (Sum.inr.inj q)
  rw [decide_eq_false h,decide_eq_false e]
theorem zeJ (a:Int)(b:Str):decide ((Sum.inl a:Key)=Sum.inr b)=false:=decide_eq_false (fun q=>nomatch q)
theorem zeK (a:Str)(b:Int):decide ((Sum.inr a:Key)=Sum.inl b)=false:=decide_eq_false (fun q=>nomatch q)
noncomputable def zT (prog:Program)(w:World):PySem.KeyKind prog w Key where
 is:=Zg
 hash:=keyH w
 inj:=fun v a b ha hb=>by
  rcases zW ha with⟨i,t,rfl,rfl⟩ | ⟨x,t,rfl,rfl⟩
  ·rcases zW hb with⟨j,u,rfl,e⟩ | ⟨y,u,rfl,e⟩
   ·injection e with e1 _;rw [e1]
   ·exact nomatch e
  ·rcases zW hb with⟨j,u,rfl,e⟩ | ⟨y,u,rfl,e⟩
   ·exact nomatch e
   ·injection e with e1 _;rw [e1]
 byValue:=fun k v h=>by
  rcases zW h with⟨i,t,rfl,rfl⟩ | ⟨x,t,rfl,rfl⟩<;>rfl
 pyHash:=fun hv h=>by
  rcases zW hv with⟨i,t,rfl,rfl⟩ | ⟨x,t,rfl,rfl⟩
  ·exact wpAny_pyHash_int h
  ·exact wpAny_pyHash_str h
 eqBool:=fun hu hv h=>by
  rcases zW hu with⟨i,t,rfl,rfl⟩ | ⟨x,t,rfl,rfl⟩
  ·rcases zW hv with⟨j,u,rfl,rfl⟩ | ⟨y,u,rfl,rfl⟩
   ·rw [zeH] at h;exact wpAny_eqBool_int h
   ·rw [zeJ] at h;exact SeqAt.EqAt.int_str i t y u _ _ _ _ h
  ·rcases zW hv with⟨j,u,rfl,rfl⟩ | ⟨y,u,rfl,rfl⟩
   ·rw [zeK] at h;exact SeqAt.EqAt.str_int x t j u _ _ _ _ h
   ·rw [zeI] at h;exact wpAny_eqBool_str h
 «strs»:=fun k x t v h=>by
  rcases zW h with⟨i,u,rfl,e⟩ | ⟨y,u,rfl,e⟩
  ·exact nomatch e
  ·injection e with e1 _
   subst e1
   cases v<;>rfl
theorem J1 (prog:Program)(w:World)(i:Int)(t:Tok):(zT prog w).is (.inl i) (.int i t)=true:=Yw i t
theorem J2 (prog:Program)(w:World)(x:Str)(t:Tok):(zT prog w).is (.inr x) (.str x t)=true:=Yx x t
end L2
namespace L2
open PySem PySem.Spec PyProof.Rows
inductive V where
 | non | bl (b:Bool) | int (i:Int) | str (x:Str) | byt (b:Array UInt8) | flt (b:UInt64) | ref (a:Addr) | ty (n:String)
 deriving DecidableEq
noncomputable def RelV:V->Value->Prop
 | .non,u=>u=Value.none
 | .bl b,u=>u=Value.bool b
 | .int i,u=>∃ t,u=Value.int i t
 | .str x,u=>∃ t,u=Value.str x t
 | .byt b,u=>∃ t,u=Value.bytes b t
 | .flt b,u=>∃ t,u=Value.float b t
 | .ref a,u=>u=Value.ref a
 | .ty n,u=>u=Value.type n
noncomputable abbrev Vals:List V->List Value->Prop:=Paired RelV
theorem Vals.length {xs:List V}{us:List Value}(r:Vals xs us):xs.length=us.length:=Paired.length r
theorem Vals.get:∀ {xs:List V} {us:List Value} {i:Nat} {x:V},Vals xs us->xs[i]? = some x->∃ u,us[i]? = some u/\RelV x u
 | _,_,_,_,.nil,e=>by simp at e
 | _,_,0,_,.cons r _,e=>by simp at e;subst e;exact⟨_,rfl,r⟩
 | _,_,i+1,x,.cons _ t,e=>by
  obtain⟨u,h1,h2⟩:=Vals.get (i:=i) (x:=x) t (by simpa using e)
  exact⟨u,by simpa using h1,h2⟩
theorem Vals.set {x:V}{u:Value}(r:RelV x u):∀ {xs:List V} {us:List Value} (i:Nat),Vals xs us->Vals (xs.set i x) (us.set i u)
 | _,_,_,.nil=>.nil
 | _,_,0,.cons _ t=>.cons r t
 | _,_,i+1,.cons q t=>.cons q (Vals.set r i t)
theorem Vals.append:∀ {xs ys:List V} {us ws:List Value},Vals xs us->Vals ys ws->Vals (xs++ys) (us++ws)
 | _,_,_,_,.nil,s=>s
 | _,_,_,_,.cons r t,s=>.cons r (Vals.append t s)
theorem Vals.take:∀ {xs:List V} {us:List Value} (n:Nat),Vals xs us->Vals (xs.take n) (us.take n)
 | _,_,0,_=>.nil
 | _,_,_+1,.nil=>.nil
 | _,_,n+1,.cons r t=>.cons r (Vals.take n t)
theorem Vals.drop:∀ {xs:List V} {us:List Value} (n:Nat),Vals xs us->Vals (xs.drop n) (us.drop n)
 | _,_,0,r=>r
 | _,_,_+1,.nil=>.nil
 | _,_,n+1,.cons _ t=>Vals.drop n t
noncomputable def RelO:Option V->Option Value->Prop
 | some v,some u=>RelV v u
 | none,none=>True
 | _,_=>False
noncomputable def KV {κ:Type}:List (κ×V)->List (κ×Value)->Prop:=Paired fun(p:κ×V) (q:κ×Value)=>p.1=q.1/\RelV p.2 q.2
noncomputable def kV:Key->V
 | .inl i=>.int i
 | .inr x=>.str x
inductive HO where
 | lst (xs:List V)
 | tup (xs:List V)
 | dK (kvs:List (Key×V)) | dT (kvs:List (List Key×V))
 | set (S:Int->Bool) (n:Nat)
 | ins (C dx:Addr) (fs:List (Str×V))
 | own (x:Addr)
 | xd (fs:List (Str×V))
 | met (f x:Addr)
 | rng (lo hi:Int)
 | frz (o:Obj) (u:HO)
 | tbl (ps:Array Value)
 | ext (φ:Heap->Prop)
noncomputable abbrev Hp:=Addr->Option HO
noncomputable def upd (H:Hp)(a:Addr)(o:HO):Hp:=fun b=>if b=a then some o else H b
theorem zF {H:Hp}{a:Addr}{o:HO}:upd H a o a=some o:=by unfold upd;rw [if_pos rfl]
theorem zA {H:Hp}{a b:Addr}{o:HO}(h:b≠a):upd H a o b=H b:=by unfold upd;rw [if_neg h]
theorem zgq {H:Hp}{a b:Addr}{o u:HO}(h:H a=some o)(h':H b=some u)(d:o≠u):a≠b:=by
 intro e;subst e;rw [h] at h';exact d (Option.some.inj h')
theorem jj {H:Hp}{a b:Addr}{o:HO}(h:H a=some o)(h':H b=none):a≠b:=by
 intro e;subst e;rw [h] at h';cases h'
section
variable (P:Program) (w:World)
noncomputable def zM (H:Hp)(h:Heap)(a:Addr):HO->Prop
 | .lst xs=>xs.length<=sizeLine/\∃ (its:List Value) (n:Nat),Vals xs its/\h.get? a=some { cls:=.type "list",data:=.seq its.toArray n }
 | .tup xs=>xs.length<=sizeLine/\∃ its:List Value,Vals xs its/\IsTup h a its.toArray
 | .dK kvs=>kvs.length<=sizeLine/\(a == sysModules)=false/\∃ vs,KV kvs vs/\h.DictOf (zT P w) a vs
 | .dT kvs=>kvs.length<=sizeLine/\(a == sysModules)=false/\∃ xs:List (List Key×Addr×Value),
   Paired (fun(p:List Key×V) (q:List Key×Addr×Value)=>p.1=q.1/\H q.2.1=some (.tup (p.1.map kV))/\RelV p.2 q.2.2) kvs xs /\
   ∃ o es ep,h.get? a=some o/\o.ExactDict/\o.data=.dict es ep/\es.toList=xs.map (entryOfKey (tupleKind (zT P w)))/\(xs.map (·.1)).Nodup
 | .set S n=>h.SetOf (intKind P w) a S n
 | .ins C dx fs=>H dx=some (.own a)/\fs.length<=1000/\dx≠a/\h.get? a=some (PySem.W.instObj C dx) /\
   ∃ mA,h.Ns1 dx mA/\(∀ f,RelO (fs.lookup f) (mA f))/\PySem.Within mA (fs.map (·.1))
 | .own _=>∃ o,h.get? a=some o
 | .xd fs=>∃ mA,h.Ns1 a mA/\∀ f,RelO (fs.lookup f) (mA f)
 | .rng lo hi=>∃ t u v,h.get? a=some { cls:=.type "range",data:=.fields #[.int lo t,.int hi u,.int 1 v] }
 | .frz o u=>h.get? a=some o/\zM H h a u
 | .tbl ps=>h.get? a=some { cls:=.none,data:=.fields ps }
 | .met f x=>h.get? a=some (PySem.W.methodObj (.ref f) (.ref x))
 | .ext φ=>φ h/\(∃ o,h.get? a=some o)/\∀ h1 h2:Heap,φ h1->(∀ o,h1.get? a=some o->h2.get? a=some o)->φ h2
def HOk (H:Hp)(h:Heap):Prop:=∀ a o,H a=some o->zM P w H h a o
end
section
variable {P:Program} {w:World} {H H':Hp} {h h':Heap} {a:Addr} {o:HO}
theorem zM.lt (x:zM P w H h a o):a<h.objs.size:=by
 cases o with
 | lst xs=>obtain⟨_,_,_,_,e⟩:=x;exact Heap.lt_size e
 | tup xs=>obtain⟨_,_,_,p⟩:=x;exact p.lt
 | dK kvs=>obtain⟨_,_,_,_,o,_,_,e,_⟩:=x;exact Heap.lt_size e
 | dT kvs=>obtain⟨_,_,_,_,o,_,_,e,_⟩:=x;exact Heap.lt_size e
 | set S n=>obtain⟨o,_,_,_,e,_⟩:=x;exact Heap.lt_size e
 | ins C dx fs=>obtain⟨_,_,_,e,_⟩:=x;exact Heap.lt_size e
 | own y=>obtain⟨_,e⟩:=x;exact Heap.lt_size e
 | xd fs=>obtain⟨_,⟨_,_,_,e,_⟩,_⟩:=x;exact Heap.lt_size e
 | rng lo hi=>obtain⟨_,_,_,e⟩:=x;exact Heap.lt_size e
 | frz ob u=>obtain⟨e,_⟩:=x;exact Heap.lt_size e
 | tbl ps=>exact Heap.lt_size (show h.get? a=some _ from x)
 | met f y=>exact Heap.lt_size (show h.get? a=some _ from x)
 | ext φ=>obtain⟨_,⟨_,e⟩,_⟩:=x;exact Heap.lt_size e
theorem Paired.mapP {α β:Type}{F G:α->β->Prop}:∀ {l₁:List α} {l₂:List β},Paired F l₁ l₂->(∀ a b,F a b->G a b)->Paired G l₁ l₂
 | _,_,.nil,_=>.nil
 | _,_,.cons r t,f=>.cons (f _ _ r) (Paired.mapP t f)
theorem zM.stay (x:zM P w H h a o)(k:∀ b u,(b=a\/H b=some (.own a))->h.get? b=some u->h'.get? b=some u)
  (ho:∀ b,H b=some (.own a)->H' b=some (.own a)) (ht:∀ b xs,H b=some (.tup xs)->H' b=some (.tup xs)):zM P w H' h' a o:=by
 induction o with
 | lst xs=>obtain⟨z,its,n,r,e⟩:=x;exact⟨z,its,n,r,k _ _ (.inl rfl) e⟩
 | tup xs=>obtain⟨z,its,r,ob,e,c⟩:=x;exact⟨z,its,r,ob,k _ _ (.inl rfl) e,c⟩
 | dK kvs=>obtain⟨z,y,vs,r,ob,es,ep,e,c⟩:=x;exact⟨z,y,vs,r,ob,es,ep,k _ _ (.inl rfl) e,c⟩
 | dT kvs=>
  obtain⟨z,y,xs,r,ob,es,ep,e,c⟩:=x
  exact⟨z,y,xs,Paired.mapP r fun p q z=>⟨z.1,ht _ _ z.2.1,z.2.2⟩,ob,es,ep,k _ _ (.inl rfl) e,c⟩
 | set S n=>obtain⟨ob,es,ep,t,e,c⟩:=x;exact⟨ob,es,ep,t,k _ _ (.inl rfl) e,c⟩
 | ins C dx fs=>
  obtain⟨d,z,ne,e,mA,⟨od,es,ep,e2,c⟩,r⟩:=x
  exact⟨ho _ d,z,ne,k _ _ (.inl rfl) e,mA,⟨od,es,ep,k _ _ (.inr d) e2,c⟩,r⟩
 | own y=>obtain⟨ob,e⟩:=x;exact⟨ob,k _ _ (.inl rfl) e⟩
 | xd fs=>obtain⟨mA,⟨od,es,ep,e,c⟩,r⟩:=x;exact⟨mA,⟨od,es,ep,k _ _ (.inl rfl) e,c⟩,r⟩
 | rng lo hi=>obtain⟨t,u,v,e⟩:=x;exact⟨t,u,v,k _ _ (.inl rfl) e⟩
 | frz ob u ih=>obtain⟨e,q⟩:=x;exact⟨k _ _ (.inl rfl) e,ih q⟩
 | tbl ps=>
  have e:h.get? a=some { cls:=.none,data:=.fields ps }:=x
  show h'.get? a=some { cls:=.none,data:=.fields ps }
  exact k a _ (.inl rfl) e
 | met f y=>
  have e:h.get? a=some (PySem.W.methodObj (.ref f) (.ref y)):=x
  show h'.get? a=some (PySem.W.methodObj (.ref f) (.ref y))
  exact k a _ (.inl rfl) e
 | ext φ=>obtain⟨p,⟨o,e⟩,st⟩:=x;exact⟨st _ _ p fun o q=>k _ _ (.inl rfl) q,⟨o,k _ _ (.inl rfl) e⟩,st⟩
theorem HOk.lt (x:HOk P w H h)(e:H a=some o):a<h.objs.size:=(x a o e).lt
theorem HOk.fresh (x:HOk P w H h)(e:h.objs.size<=a):H a=none:=by
 cases q:H a with
 | none=>rfl
 | some u=>exact absurd (Nat.lt_of_lt_of_le (x.lt q) e) (Nat.lt_irrefl _)
theorem HOk.kept (x:HOk P w H h)(k:∀ b u,h.get? b=some u->h'.get? b=some u):HOk P w H h':=fun a o e=>
 (x a o e).stay (fun b u _ q=>k b u q) (fun _ q=>q) fun _ _ q=>q
theorem HOk.laid (x:HOk P w H h)(k:∀ b u,h.get? b=some u->h'.get? b=some u)(hp:h.objs.size<=a)(new:zM P w (upd H a o) h' a o):HOk P w (upd H a o) h':=fun b u e=>by
 have hn:=x.fresh hp
 by_cases hb:b=a
 ·subst hb;rw [zF] at e;cases e;exact new
 ·rw [zA hb] at e
  exact(x b u e).stay (fun c v _ q=>k c v q) (fun c q=>by rw [zA (jj q hn)];exact q) fun c xs q=>by rw [zA (jj q hn)];exact q
end
def Rd (H:Hp)(a:Addr)(u:HO):Prop:=H a=some u\/∃ o,H a=some (.frz o u)
theorem Rd.ok {P:Program}{w:World}{H:Hp}{h:Heap}{a:Addr}{u:HO}(r:Rd H a u)(x:HOk P w H h):zM P w H h a u:=by
 rcases r with r | ⟨o,r⟩
 ·exact x a u r
 ·obtain⟨_,q⟩:=x a _ r
  exact q
noncomputable def Mut:Option HO->Prop
 | some (.lst _)=>True
 | some (.dK _)=>True
 | some (.dT _)=>True
 | some (.set _ _)=>True
 | some (.ins _ _ _)=>True
 | some (.ext _)=>True
 | _=>False
section
variable {P:Program} {w:World} {H:Hp} {h h':Heap} {x e:Addr} {o':HO}
theorem HOk.write (ok:HOk P w H h)(mu:Mut (H x))(he:e=x\/H e=some (.own x))(k:∀ b u,b≠e->h.get? b=some u->h'.get? b=some u)(heo:∃ u,h'.get? e=some u)
  (new:zM P w (upd H x o') h' x o'):HOk P w (upd H x o') h':=fun b u q=>by
 have nown:∀ c y,H c=some (.own y)->c≠x:=fun c y r z=>by subst z;rw [r] at mu;exact mu
 have ntup:∀ c xs,H c=some (.tup xs)->c≠x:=fun c xs r z=>by subst z;rw [r] at mu;exact mu
 by_cases hb:b=x
 ·subst hb;rw [zF] at q;cases q;exact new
 ·rw [zA hb] at q
  by_cases hbe:b=e
  ·have q':H b=some (.own x):=by
    rcases he with z | z
    ·exact absurd (hbe.trans z) hb
    ·rw [hbe];exact z
   rw [q] at q';cases q'
   obtain⟨v,hv⟩:=heo
   exact⟨v,by rw [hbe];exact hv⟩
  ·refine(ok b u q).stay (fun c v hc r=>k c v ?_ r) (fun c r=>by rw [zA (nown c b r)];exact r) fun c xs r=>by rw [zA (ntup c xs r)];exact r
   rcases hc with rfl | hc
   ·exact hbe
   ·rintro rfl
    rcases he with z | z
    ·exact nown c b hc z
    ·rw [hc] at z;cases z;exact hb rfl
end
structure Un (fs ex:List Addr)(H H':Hp)(h h':Heap):Prop where
 keep:∀ b o,h.get? b=some o->H b=none->b∉fs->b∉ex->h'.get? b=some o
 slot:∀ b o,h.get? b=some o->H b=none->b∈fs->b∉ex->∃ sl,h'.get? b=some { o with slots:=sl }
 free:∀ b o,h.get? b=some o->H b=none->b∉ex->H' b=none
 there:∀ b o,h.get? b=some o->b∉ex->∃ o',h'.get? b=some o'
 tups:∀ b xs,H b=some (.tup xs)->H' b=some (.tup xs)
 frzs:∀ b o u,H b=some (.frz o u)->H' b=some (.frz o u)
 tbls:∀ b ps,H b=some (.tbl ps)->∃ more,H' b=some (.tbl (ps++more))
section
variable {fs fs' ex ex':List Addr} {H H1 H2:Hp} {h h1 h2 h':Heap} {a x e:Addr} {o:HO}
theorem Un.any (u:Un fs ex H H1 h h1){b:Addr}{ob:Obj}(q:h.get? b=some ob)(n:H b=none)(hx:b∉ex):∃ sl,h1.get? b=some { ob with slots:=sl }:=by
 by_cases hb:b∈fs
 ·exact u.slot b ob q n hb hx
 ·exact⟨ob.slots,u.keep b ob q n hb hx⟩
theorem Un.kept (k:∀ b u,h.get? b=some u->h'.get? b=some u):Un fs ex H H h h':=
 ⟨fun b ob q _ _ _=>k b ob q,fun b ob q _ _ _=>⟨ob.slots,k b ob q⟩,fun _ _ _ n _=>n,fun b ob q _=>⟨ob,k b ob q⟩,fun _ _ q=>q,fun _ _ _ q=>q,fun _ ps q=>⟨#[],by rw [q];simp⟩⟩
theorem Un.refl:Un fs ex H H h h:=Un.kept fun _ _ q=>q
theorem Un.laid (k:∀ b u,h.get? b=some u->h'.get? b=some u)(hp:h.objs.size<=a)(hn:H a=none):Un fs ex H (upd H a o) h h' where
 keep:=fun b u q _ _ _=>k b u q
 slot:=fun b u q _ _ _=>⟨u.slots,k b u q⟩
 free:=fun b u q n _=>by rw [zA (Nat.ne_of_lt (Nat.lt_of_lt_of_le (Heap.lt_size q) hp))];exact n
 there:=fun b u q _=>⟨u,k b u q⟩
 tups:=fun b xs q=>by rw [zA (jj q hn)];exact q
 frzs:=fun b u xs q=>by rw [zA (jj q hn)];exact q
 tbls:=fun b ps q=>⟨#[],by rw [zA (jj q hn),q];simp⟩
theorem Un.write (mu:Mut (H x))(he:e=x\/H e=some (.own x))(k:∀ b u,b≠e->h.get? b=some u->h'.get? b=some u)(heo:∃ u,h'.get? e=some u):Un fs ex H (upd H x o) h h':=by
 have hx:∀ b,H b=none->b≠x:=fun b n z=>by subst z;rw [n] at mu;exact mu
 have hb:∀ b,H b=none->b≠e:=fun b n z=>by
  subst z
  rcases he with r | r
  ·exact hx b n r
  ·rw [n] at r;cases r
 have hm:∀ b u,H b=some u->¬ Mut (some u)->b≠x:=fun b u q nm z=>by subst z;rw [q] at mu;exact nm mu
 refine⟨fun b u q n _ _=>k b u (hb b n) q,fun b u q n _ _=>⟨u.slots,k b u (hb b n) q⟩,fun b u q n _=>by rw [zA (hx b n)];exact n,fun b u q _=>?_,
  fun b xs q=>by rw [zA (hm b _ q fun z=>z)];exact q,fun b u xs q=>by rw [zA (hm b _ q fun z=>z)];exact q,fun b ps q=>⟨#[],by rw [zA (hm b _ q fun z=>z),q];simp⟩⟩
 by_cases hbe:b=e
 ·subst hbe;exact heo
 ·exact⟨u,k b u hbe q⟩
end
noncomputable def trk (h:Heap)(H:Hp):List Addr:=(List.range h.objs.size).filter fun a=>(H a).isSome
noncomputable def hidT (h:Heap)(H:Hp):Heap:=PySem.W.hideAll h (trk h H)
theorem Yy (h:Heap)(H:Hp):(hidT h H).objs.size=h.objs.size:=PySem.W.hideAll_size _ _
theorem Ky {h:Heap}{H:Hp}{b:Addr}{o:Obj}(e:h.get? b=some o)(n:H b=none):(hidT h H).get? b=some o:=
 PySem.W.hideAll_get _ e fun hm=>by
  have q:(H b).isSome=true:=(List.mem_filter.mp hm).2
  rw [n] at q;simp at q
theorem zb5 {h:Heap}{H:Hp}{b:Addr}{o:Obj}(e:(hidT h H).get? b=some o):h.get? b=some o/\H b=none:=by
 have e':h.get? b=some o:=PySem.W.of_hideAll (trk h H) e
 refine⟨e',?_⟩
 cases q:H b with
 | none=>rfl
 | some x=>
  have hm:b∈trk h H:=List.mem_filter.mpr ⟨List.mem_range.mpr (Heap.lt_size e'),by simp [q]⟩
  have z:(hidT h H).get? b=none:=PySem.W.hideAll_none (trk h H) hm
  rw [z] at e;cases e
noncomputable def zb6 (g h:Heap)(L:Addr):List (Addr×Obj):=(List.range h.objs.size).filterMap fun a=>if a=L\/(g.get? a).isSome=true then none else(h.get? a).map fun o=>(a,o)
noncomputable def rest (g h:Heap)(L d:Addr):List (Addr×Obj):=(zb6 g h L).filter fun p=>decide (p.1≠d)
end L2
namespace L2
open PySem PySem.Spec PyProof.Rows
structure Mod (K:PySem.W.Frag)(mg:Str->Option Value)(base:Heap):Prop where
 kin:K.In base
 glob:base.Ns mainGlobals mg
 blt:∃ mb,base.Ns builtinsNs mb/\∀ x:Str,x≠"__name__"->mb x=bootBuiltins x
 nolimit:base.NoLimit
structure Cx where
 prog:Program
 w:World
 K:PySem.W.Frag
 mg:Str->Option Value
 base:Heap
 A:Around
 N:List Str
 s₀:Shared
 H₀:Hp
 env:Env
 outer:List Env
 stack:List Env
 ex:List Addr
 fn:Str->Bool
 calm:Bool
 pn:List (Addr×Obj)
 xe:Value->Shared->Prop
noncomputable def frs (l:List Env):List Addr:=l.filterMap (·.frame)
noncomputable abbrev Cx.fs (X:Cx):List Addr:=frs X.outer
def Vis (sc:Scope)(x:Str):Prop:=sc.names.lookup x=some .local\/sc.names.lookup x=some .cell\/sc.names.lookup x=some .free
def Loc (sc:Scope)(x:Str):Prop:=sc.names.lookup x=some .local\/sc.names.lookup x=some .cell
def Look (env:Env)(h:Heap)(m:Str->Option Value)(x:Str)(u:Value):Prop:=
 (env.kindOf x=some .local/\m x=some u)\/((env.kindOf x=some .cell\/env.kindOf x=some .free)/\∃ c,env.cells.lookup x=some c/\h.IsCell c (some u))
structure Cx.Ok (X:Cx):Prop where
 mod:Mod X.K X.mg X.base
 kind:X.env.scope.kind=.function
 glob:X.env.globals=mainGlobals
 blt:X.env.builtins=builtinsNs
 above:X.s₀.heap.objs.size<=X.env.locals
 inj:∀ x y c,X.env.cells.lookup x=some c->X.env.cells.lookup y=some c->x=y
 has:∀ x,(X.env.kindOf x=some .cell\/X.env.kindOf x=some .free)->∃ c,X.env.cells.lookup x=some c
 cab:∀ x c,X.fn x=true->X.env.cells.lookup x=some c->X.s₀.heap.objs.size<=c
 hd:X.calm=true->X.A.handled=none
 frames:X.A.frames=some X.stack
 stk:X.stack=X.outer\/(X.stack=X.env::X.outer/\X.env.frame=some X.env.locals)
 exf:∀ b∈X.ex,b≠X.env.locals/\∀ x c,X.env.cells.lookup x=some c->c≠b
 bs:∀ b o,X.base.get? b=some o->X.s₀.heap.get? b=some o/\X.H₀ b=none
 bsz:X.base.objs.size<=X.s₀.heap.objs.size
 noex:∀ b o,X.base.get? b=some o->b∉X.ex
 exfs:∀ b∈X.ex,b∉X.fs
 funs:X.s₀.heap.FunFrames X.base X.outer
 frf:∀ b∈X.fs,X.H₀ b=none
structure Inv (X:Cx)(pins:List (Addr×Obj))(σ:List (Option V))(H:Hp)(s:Shared):Prop where
 ok:X.Ok
 os:s.os=X.s₀.os
 bare:AllBare s.gens
 base:Un X.fs X.ex X.H₀ H X.s₀.heap s.heap
 loc:∃ m,s.heap.Ns X.env.locals m/\∀ (i:Nat) (x:Str) (v:V),X.N[i]? = some x->σ[i]? = some (some v)->Vis X.env.scope x->∃ u,RelV v u/\Look X.env s.heap m x u
 cell:∀ x c,X.env.cells.lookup x=some c->∃ v,s.heap.IsCell c v
 free:H X.env.locals=none
 freeC:∀ x c,X.env.cells.lookup x=some c->H c=none
 pin:∀ p∈X.pn++pins,s.heap.get? p.1=some p.2/\H p.1=none/\p.1≠X.env.locals/\p.1∉X.fs/\∀ v,p.2.data≠.cell v
 hok:HOk X.prog X.w H s.heap
 len:σ.length=X.N.length
section
variable {X:Cx} {pins:List (Addr×Obj)} {σ:List (Option V)} {H H':Hp} {s:Shared} {h':Heap}
theorem Cx.Ok.nofr (ok:X.Ok){b:Addr}{o:Obj}(e:X.base.get? b=some o):b∉X.fs:=fun hb=>by
 have:=(ok.funs.mem hb).1
 rw [e] at this;cases this
theorem Inv.bs (I:Inv X pins σ H s):∀ b o,X.base.get? b=some o->s.heap.get? b=some o/\H b=none:=fun b o e=>
 ⟨I.base.keep b o (I.ok.bs b o e).1 (I.ok.bs b o e).2 (I.ok.nofr e) (I.ok.noex b o e),I.base.free b o (I.ok.bs b o e).1 (I.ok.bs b o e).2 (I.ok.noex b o e)⟩
theorem Inv.bk (I:Inv X pins σ H s):∀ b o,X.base.get? b=some o->s.heap.get? b=some o:=fun b o e=>(I.bs b o e).1
theorem Inv.mod (I:Inv X pins σ H s):Mod X.K X.mg X.base:=I.ok.mod
theorem Inv.kIn (I:Inv X pins σ H s):X.K.In s.heap:=I.ok.mod.kin.keeps I.bk
theorem Inv.lt (I:Inv X pins σ H s):X.env.locals<s.heap.objs.size:=let ⟨_,hn,_⟩:=I.loc;hn.lt
theorem Inv.sz (I:Inv X pins σ H s):X.s₀.heap.objs.size<=s.heap.objs.size:=Nat.le_trans I.ok.above (Nat.le_of_lt I.lt)
theorem Inv.nofs (I:Inv X pins σ H s){a:Addr}(h:s.heap.objs.size<=a):a∉X.fs:=fun hb=>by
 obtain⟨_,o,ho,_⟩:=I.ok.funs.mem hb
 exact absurd (Nat.lt_of_lt_of_le (Heap.lt_size ho) (Nat.le_trans I.sz h)) (Nat.lt_irrefl _)
theorem Inv.cne (I:Inv X pins σ H s):∀ x c,X.env.cells.lookup x=some c->c≠X.env.locals:=fun x c e z=>by
 obtain⟨v,o,ho,hd⟩:=I.cell x c e
 obtain⟨m,⟨o',es,ep,ho',hd',_⟩,_⟩:=I.loc
 rw [z,ho'] at ho;cases ho;rw [hd'] at hd;cases hd
theorem Inv.funs (I:Inv X pins σ H s):s.heap.FunFrames X.base X.outer:=by
 have all:∀ (l:List Env),(∀ b∈frs l,b∈X.fs)->X.s₀.heap.FunFrames X.base l->s.heap.FunFrames X.base l:=by
  intro l
  induction l with
  | nil=>intro _ _;trivial
  | cons env r ih=>
   intro hs hl
   obtain⟨hk,⟨L,o,hf,hn,ho,hd⟩,hr⟩:=hl
   have hL:L∈X.fs:=hs L (by unfold frs;rw [List.filterMap_cons,hf];exact List.mem_cons_self)
   obtain⟨sl,e⟩:=I.base.slot L o ho (I.ok.frf L hL) hL fun z=>I.ok.exfs L z hL
   exact⟨hk,⟨L,_,hf,hn,e,hd⟩,ih (fun b hb=>hs b (by unfold frs;rw [List.filterMap_cons,hf];exact List.mem_cons_of_mem _ hb)) hr⟩
 exact all X.outer (fun _ hb=>hb) I.ok.funs
theorem Inv.stack (I:Inv X pins σ H s):s.heap.FunFrames X.base X.stack:=by
 rcases I.ok.stk with e | ⟨e,hf⟩
 ·rw [e];exact I.funs
 ·rw [e]
  obtain⟨m,hn,_⟩:=I.loc
  refine .cons (by rw [I.ok.kind];decide) hf hn ?_ I.funs
  exact Heap.get?_none_of_le (Nat.le_trans I.ok.bsz I.ok.above)
theorem Inv.stkSub (I:Inv X pins σ H s):∀ b∈frs X.stack,b∈X.env.locals::X.fs:=fun b hb=>by
 rcases I.ok.stk with e | ⟨e,hf⟩
 ·rw [e] at hb;exact List.mem_cons_of_mem _ hb
 ·rw [e] at hb
  unfold frs at hb
  rw [List.filterMap_cons,hf] at hb
  exact hb
theorem Inv.stkFree (I:Inv X pins σ H s):∀ b∈frs X.stack,H b=none:=fun b hb=>by
 rcases List.mem_cons.mp (I.stkSub b hb) with e | hb
 ·rw [e];exact I.free
 ·obtain⟨_,o,ho,_⟩:=I.ok.funs.mem hb
  exact I.base.free b o ho (I.ok.frf b hb) fun z=>I.ok.exfs b z hb
theorem Inv.step {g':Array GenState}{t':Nat}{d':Drawn}{ch:List Addr}(I:Inv X pins σ H s)
  (hch:∀ b∈ch,(b∈X.ex\/X.s₀.heap.objs.size<=b)/\b≠X.env.locals/\(∀ x c,X.env.cells.lookup x=some c->c≠b)/\∀ p∈X.pn++pins,p.1≠b)
  (keep:∀ b o,b≠X.env.locals->b∉X.fs->b∉ch->s.heap.get? b=some o->H b=none->h'.get? b=some o)
  (slot:∀ b o,b≠X.env.locals->b∈X.fs->b∉ch->s.heap.get? b=some o->H b=none->∃ sl,h'.get? b=some { o with slots:=sl }) (free:∀ b o,b∉ch->s.heap.get? b=some o->H b=none->H' b=none)
  (there:∀ b o,b∉ch->s.heap.get? b=some o->∃ o',h'.get? b=some o')
  (tups:∀ b xs,H b=some (.tup xs)->H' b=some (.tup xs)) (frzs:∀ b o u,H b=some (.frz o u)->H' b=some (.frz o u)) (tbls:∀ b ps,H b=some (.tbl ps)->∃ more,H' b=some (.tbl (ps++more)))
  (ns:∀ m,s.heap.Ns X.env.locals m->h'.Ns X.env.locals m) (hok:HOk X.prog X.w H' h') (hg:AllBare g') :
  Inv X pins σ H' { s with heap:=h',gens:=g',drawn:=d',toks:=t' }:=by
 have neL:∀ b o,X.s₀.heap.get? b=some o->b≠X.env.locals:=fun b o e=>Nat.ne_of_lt (Nat.lt_of_lt_of_le (Heap.lt_size e) I.ok.above)
 have neC:∀ b o,X.s₀.heap.get? b=some o->b∉X.ex->b∉ch:=fun b o e hx hb=>by
  rcases(hch b hb).1 with z | z
  ·exact hx z
  ·exact absurd (Nat.lt_of_lt_of_le (Heap.lt_size e) z) (Nat.lt_irrefl _)
 have cellK:∀ x c,X.env.cells.lookup x=some c->∀ v,s.heap.IsCell c v->h'.IsCell c v:=fun x c e v ⟨o,ho,hd⟩=>by
  have nch:c∉ch:=fun z=>(hch c z).2.2.1 x c e rfl
  by_cases hc:c∈X.fs
  ·obtain⟨sl,q⟩:=slot c o (I.cne x c e) hc nch ho (I.freeC x c e)
   exact⟨_,q,hd⟩
  ·exact⟨o,keep c o (I.cne x c e) hc nch ho (I.freeC x c e),hd⟩
 refine⟨I.ok,I.os,hg,⟨fun b o e n hb hx=>?_,fun b o e n hb hx=>?_,fun b o e n hx=>?_,fun b o e hx=>?_,fun b xs e=>tups b xs (I.base.tups b xs e),fun b o xs e=>frzs b o xs (I.base.frzs b o xs e),fun b ps e=>?_⟩,?_,fun x c e=>?_,?_,fun x c e=>?_,fun p hp=>?_,hok,I.len⟩
 ·exact keep b o (neL b o e) hb (neC b o e hx) (I.base.keep b o e n hb hx) (I.base.free b o e n hx)
 ·obtain⟨sl,e1⟩:=I.base.slot b o e n hb hx
  obtain⟨sl',e2⟩:=slot b _ (neL b o e) hb (neC b o e hx) e1 (I.base.free b o e n hx)
  exact⟨sl',e2⟩
 ·obtain⟨o',e1⟩:=I.base.there b o e hx
  exact free b o' (neC b o e hx) e1 (I.base.free b o e n hx)
 ·obtain⟨o',e1⟩:=I.base.there b o e hx
  exact there b o' (neC b o e hx) e1
 ·obtain⟨m1,e1⟩:=I.base.tbls b ps e
  obtain⟨m2,e2⟩:=tbls b _ e1
  exact⟨m1++m2,by rw [e2,Array.append_assoc]⟩
 ·obtain⟨m,hn,hl⟩:=I.loc
  refine⟨m,ns m hn,fun i x v e1 e2 e3=>?_⟩
  obtain⟨u,r,l⟩:=hl i x v e1 e2 e3
  refine⟨u,r,?_⟩
  rcases l with l | ⟨k,c,e,z⟩
  ·exact .inl l
  ·exact .inr ⟨k,c,e,cellK x c e _ z⟩
 ·obtain⟨v,z⟩:=I.cell x c e
  exact⟨v,cellK x c e v z⟩
 ·obtain⟨m,⟨o,_,_,ho,_⟩,_⟩:=I.loc
  exact free _ o (fun z=>(hch _ z).2.1 rfl) ho I.free
 ·obtain⟨v,o,ho,hd⟩:=I.cell x c e
  exact free c o (fun z=>(hch c z).2.2.1 x c e rfl) ho (I.freeC x c e)
 ·obtain⟨e,n,ne,nf,d⟩:=I.pin p hp
  have nch:p.1∉ch:=fun z=>(hch p.1 z).2.2.2 p hp rfl
  exact⟨keep p.1 p.2 ne nf nch e n,free p.1 p.2 nch e n,ne,nf,d⟩
theorem Inv.un {t':Nat}(I:Inv X pins σ H s)(u:Un X.fs [] H H' s.heap h')(hok:HOk X.prog X.w H' h'):Inv X pins σ H' { s with heap:=h',toks:=t' }:=by
 obtain⟨m,⟨o,es,ep,ho,r⟩,_⟩:=id I.loc
 obtain⟨sl,hL⟩:=u.any ho I.free (by simp)
 exact I.step (g':=s.gens) (d':=s.drawn) (ch:=[]) (fun _ z=>nomatch z) (fun b o _ hb _ e n=>u.keep b o e n hb (by simp)) (fun b o _ hb _ e n=>u.slot b o e n hb (by simp)) (fun b o _ e n=>u.free b o e n (by simp)) (fun b o _ e=>u.there b o e (by simp)) u.tups u.frzs u.tbls (fun m' hm=>by
  obtain⟨o',es',ep',ho',r'⟩:=hm
  rw [ho] at ho';cases ho'
  exact⟨_,es',ep',hL,r'⟩) hok I.bare
theorem Inv.call {g':Array GenState}{t':Nat}{d':Drawn}{ch:List Addr}(I:Inv X pins σ H s)(u:Un (frs X.stack) ch H H' s.heap h')(hok:HOk X.prog X.w H' h')(hg:AllBare g')
  (hch:∀ b∈ch,(b∈X.ex\/X.s₀.heap.objs.size<=b)/\b≠X.env.locals/\(∀ x c,X.env.cells.lookup x=some c->c≠b)/\∀ p∈X.pn++pins,p.1≠b) :
  Inv X pins σ H' { s with heap:=h',gens:=g',drawn:=d',toks:=t' }:=by
 obtain⟨m,⟨o,es,ep,ho,r⟩,_⟩:=id I.loc
 obtain⟨sl,hL⟩:=u.any ho I.free fun z=>(hch _ z).2.1 rfl
 exact I.step (ch:=ch) hch (fun b o hL hb hc e n=>u.keep b o e n (fun z=>(List.mem_cons.mp (I.stkSub b z)).elim hL hb) hc) (fun b o _ _ hc e n=>u.any e n hc) (fun b o hc e n=>u.free b o e n hc) (fun b o hc e=>u.there b o e hc) u.tups u.frzs u.tbls (fun m' hm=>by
  obtain⟨o',es',ep',ho',r'⟩:=hm
  rw [ho] at ho';cases ho'
  exact⟨_,es',ep',hL,r'⟩) hok hg
theorem Inv.turned {t':Nat}{it:Addr}(I:Inv X pins σ H s)(k:∀ b o,b≠it->s.heap.get? b=some o->h'.get? b=some o)(hn:H it=none)(hL:it≠X.env.locals)
  (h1:it∈X.ex\/X.s₀.heap.objs.size<=it) (h2:∀ x c,X.env.cells.lookup x=some c->c≠it) (h3:∀ p∈X.pn++pins,p.1≠it):Inv X pins σ H { s with heap:=h',toks:=t' }:=by
 have nit:∀ b u,H b=some u->b≠it:=fun b u e z=>by rw [z,hn] at e;cases e
 refine I.step (g':=s.gens) (d':=s.drawn) (ch:=[it]) (fun b hb=>?_) (fun b o _ _ hc e _=>k b o (fun z=>hc (by simp [z])) e) (fun b o _ _ hc e _=>⟨o.slots,k b o (fun z=>hc (by simp [z])) e⟩) (fun _ _ _ _ n=>n)
  (fun b o hc e=>⟨o,k b o (fun z=>hc (by simp [z])) e⟩) (fun _ _ e=>e) (fun _ _ _ e=>e) (fun b ps e=>⟨#[],by rw [e];simp⟩) (fun m hm=>?_) (fun b u e=>?_) I.bare
 ·have e:b=it:=by simpa using hb
  subst e
  exact⟨h1,hL,h2,h3⟩
 ·obtain⟨o,es,ep,ho,r⟩:=hm
  exact⟨o,es,ep,k _ o (Ne.symm hL) ho,r⟩
 ·refine(I.hok b u e).stay (fun c v hc q=>k c v ?_ q) (fun _ q=>q) fun _ _ q=>q
  rcases hc with z | z
  ·rw [z];exact nit b u e
  ·exact nit c _ z
theorem Inv.tok (I:Inv X pins σ H s)(t:Nat):Inv X pins σ H { s with toks:=t }:=I.un (h':=s.heap) (t':=t) Un.refl I.hok
theorem Inv.kept {t':Nat}(I:Inv X pins σ H s)(k:∀ b u,s.heap.get? b=some u->h'.get? b=some u):Inv X pins σ H { s with heap:=h',toks:=t' }:=I.un (Un.kept k) (I.hok.kept k)
theorem Inv.laid {a:Addr}{o:HO}{t':Nat}(I:Inv X pins σ H s)(k:∀ b u,s.heap.get? b=some u->h'.get? b=some u)(hp:s.heap.objs.size<=a)(new:zM X.prog X.w (upd H a o) h' a o) :
  Inv X pins σ (upd H a o) { s with heap:=h',toks:=t' }:=I.un (Un.laid k hp (I.hok.fresh hp)) (I.hok.laid k hp new)
theorem Inv.write {x e:Addr}{o:HO}{t':Nat}(I:Inv X pins σ H s)(mu:Mut (H x))(he:e=x\/H e=some (.own x))(k:∀ b u,b≠e->s.heap.get? b=some u->h'.get? b=some u)(heo:∃ u,h'.get? e=some u)
  (new:zM X.prog X.w (upd H x o) h' x o):Inv X pins σ (upd H x o) { s with heap:=h',toks:=t' }:=I.un (Un.write mu he k heo) (I.hok.write mu he k heo new)
theorem Inv.pins_of {pins':List (Addr×Obj)}(I:Inv X pins σ H s)(h:∀ p∈pins',s.heap.get? p.1=some p.2/\H p.1=none/\p.1≠X.env.locals/\p.1∉X.fs/\∀ v,p.2.data≠.cell v):Inv X pins' σ H s:=
 ⟨I.ok,I.os,I.bare,I.base,I.loc,I.cell,I.free,I.freeC,fun p hp=>(List.mem_append.mp hp).elim (fun z=>I.pin p (List.mem_append_left _ z)) (h p),I.hok,I.len⟩
theorem J3 {N:List Str}(hN:N.Nodup){i j:Nat}{x:Str}(a:N[i]? = some x)(b:N[j]? = some x):i=j:=by
 obtain⟨h1,e1⟩:=List.getElem?_eq_some_iff.mp a
 obtain⟨h2,e2⟩:=List.getElem?_eq_some_iff.mp b
 exact(List.getElem_inj hN).mp (e1.trans e2.symm)
theorem Qx {M:Model}{A:Around}{E:Value->Shared->Prop}{i:Nat}{x:Str}{v:V}{u:Value}{Q:Unit->Shared->Prop}(I:Inv X pins σ H s)(hN:X.N.Nodup)(hi:X.N[i]? = some x)(hx:Loc X.env.scope x)(r:RelV v u)
  (h:∀ s',Inv X pins (σ.set i (some v)) H s'->(∃ a,Heap.SameBut a s.heap s'.heap/\(a=X.env.locals\/X.env.cells.lookup x=some a))->Q () s') (hf:X.fn x=true\/X.env.scope.names.lookup x=some .local:=by first | exact .inl rfl | exact .inr rfl | assumption):wpAny M A (storeName X.env x u) Q E s:=by
 obtain⟨m,hn,hl⟩:=id I.loc
 have hcls:(X.env.scope.kind == .class||(X.env.scope.kind == .module&&X.env.locals != X.env.globals))=false:=by rw [I.ok.kind];rfl
 have hiσ:i<σ.length:=by rw [I.len];exact(List.getElem?_eq_some_iff.mp hi).1
 have cne:=I.cne
 have tracked:∀ {a:Addr} {h':Heap},(∃ o,s.heap.get? a=some o/\H a=none)->Heap.SameBut a s.heap h'->HOk X.prog X.w H h':=fun {a h'} ha hs b ob e=>by
  obtain⟨_,_,hfree⟩:=ha
  refine(I.hok b ob e).stay (fun c w' hc q=>(hs.2 c ?_).trans q) (fun _ q=>q) fun _ _ q=>q
  rintro rfl
  rcases hc with rfl | hc
  ·rw [hfree] at e;cases e
  ·rw [hfree] at hc;cases hc
 rcases hx with hk | hk
 ·refine wpAny_storeName_local hk hn (fun h' hn' hs=>?_) hcls
  obtain⟨oL,_,_,hoL,_⟩:=id hn
  refine h _ ⟨I.ok,I.os,I.bare,⟨fun b o e n hb hx=>?_,fun b o e n hb hx=>?_,I.base.free,fun b o e hx=>?_,I.base.tups,I.base.frzs,I.base.tbls⟩,⟨_,hn',fun j y v' e1 e2 e3=>?_⟩,fun y c e=>?_,I.free,I.freeC,fun p hp=>?_,tracked ⟨oL,hoL,I.free⟩ hs,by simpa using I.len⟩ ⟨_,hs,.inl rfl⟩
  ·exact(hs.2 b (Nat.ne_of_lt (Nat.lt_of_lt_of_le (Heap.lt_size e) I.ok.above))).trans (I.base.keep b o e n hb hx)
  ·obtain⟨sl,e1⟩:=I.base.slot b o e n hb hx
   exact⟨sl,(hs.2 b (Nat.ne_of_lt (Nat.lt_of_lt_of_le (Heap.lt_size e) I.ok.above))).trans e1⟩
  ·obtain⟨o',e1⟩:=I.base.there b o e hx
   exact⟨o',(hs.2 b (Nat.ne_of_lt (Nat.lt_of_lt_of_le (Heap.lt_size e) I.ok.above))).trans e1⟩
  ·by_cases hj:j=i
   ·subst hj
    rw [hi] at e1;cases e1
    rw [List.getElem?_set_self hiσ] at e2
    cases e2
    exact⟨u,r,.inl ⟨hk,by simp⟩⟩
   ·rw [List.getElem?_set_ne (Ne.symm hj)] at e2
    obtain⟨u',r',q⟩:=hl j y v' e1 e2 e3
    refine⟨u',r',?_⟩
    rcases q with⟨k,e⟩ | ⟨k,c,e,z⟩
    ·refine .inl ⟨k,?_⟩
     have:y≠x:=fun e=>hj (J3 hN e1 (e ▸ hi))
     simp [this,e]
    ·exact .inr ⟨k,c,e,z.sameBut hs (cne y c e)⟩
  ·obtain⟨w',z⟩:=I.cell y c e
   exact⟨w',z.sameBut hs (cne y c e)⟩
  ·obtain⟨e,n,ne,nf,d⟩:=I.pin p hp
   exact⟨(hs.2 p.1 ne).trans e,n,ne,nf,d⟩
 ·have hfn:X.fn x=true:=by
   rcases hf with z | z
   ·exact z
   ·rw [z] at hk;cases hk
  obtain⟨c,hc⟩:=I.ok.has x (.inl hk)
  obtain⟨w',z⟩:=I.cell x c hc
  refine wpAny_storeName_cell I.ok.kind hk hc z (fun h' hc' hs=>?_)
  obtain⟨oc,hoc,hocd⟩:=id z
  refine h { s with heap:=h' } ⟨I.ok,I.os,I.bare,⟨fun b o e n hb hx=>?_,fun b o e n hb hx=>?_,I.base.free,fun b o e hx=>?_,I.base.tups,I.base.frzs,I.base.tbls⟩,⟨m,hn.sameBut hs (Ne.symm (cne x c hc)),fun j y v' e1 e2 e3=>?_⟩,fun y c' e=>?_,I.free,I.freeC,fun p hp=>?_,tracked ⟨oc,hoc,I.freeC x c hc⟩ hs,by simpa using I.len⟩ ⟨c,hs,.inr hc⟩
  ·exact(hs.2 b (Nat.ne_of_lt (Nat.lt_of_lt_of_le (Heap.lt_size e) (I.ok.cab x c hfn hc)))).trans (I.base.keep b o e n hb hx)
  ·obtain⟨sl,e1⟩:=I.base.slot b o e n hb hx
   exact⟨sl,(hs.2 b (Nat.ne_of_lt (Nat.lt_of_lt_of_le (Heap.lt_size e) (I.ok.cab x c hfn hc)))).trans e1⟩
  ·obtain⟨o',e1⟩:=I.base.there b o e hx
   exact⟨o',(hs.2 b (Nat.ne_of_lt (Nat.lt_of_lt_of_le (Heap.lt_size e) (I.ok.cab x c hfn hc)))).trans e1⟩
  ·by_cases hj:j=i
   ·subst hj
    rw [hi] at e1;cases e1
    rw [List.getElem?_set_self hiσ] at e2
    cases e2
    exact⟨u,r,.inr ⟨.inl hk,c,hc,hc'⟩⟩
   ·rw [List.getElem?_set_ne (Ne.symm hj)] at e2
    obtain⟨u',r',q⟩:=hl j y v' e1 e2 e3
    refine⟨u',r',?_⟩
    rcases q with q | ⟨k,c',e,z'⟩
    ·exact .inl q
    ·refine .inr ⟨k,c',e,z'.sameBut hs ?_⟩
     rintro rfl
     exact hj (J3 hN e1 (I.ok.inj _ _ _ e hc ▸ hi))
  ·by_cases hcc:c' = c
   ·subst hcc;exact⟨_,hc'⟩
   ·obtain⟨w2,z2⟩:=I.cell y c' e
    exact⟨w2,z2.sameBut hs hcc⟩
  ·obtain⟨e,n,ne,nf,d⟩:=I.pin p hp
   refine⟨(hs.2 p.1 ?_).trans e,n,ne,nf,d⟩
   intro q
   rw [q,hoc] at e
   have q':oc=p.2:=Option.some.inj e
   exact d w' (by rw [← q'];exact hocd)
theorem J4 {M:Model}{A:Around}{E:Value->Shared->Prop}{i:Nat}{x:Str}{v:V}{u:Value}{Q:Unit->Shared->Prop}(I:Inv X pins σ H s)(hN:X.N.Nodup)(hi:X.N[i]? = some x)(hx:Loc X.env.scope x)(r:RelV v u)
  (h:∀ s',Inv X pins (σ.set i (some v)) H s'->Q () s') (hf:X.fn x=true\/X.env.scope.names.lookup x=some .local:=by first | exact .inl rfl | exact .inr rfl | assumption):wpAny M A (storeName X.env x u) Q E s:=
 Qx I hN hi hx r (fun s' I' _=>h s' I') hf
theorem Inv.call' {s':Shared}{ch:List Addr}(I:Inv X pins σ H s)(ho:s'.os=s.os)(u:Un (frs X.stack) ch H H' s.heap s'.heap)(hok:HOk X.prog X.w H' s'.heap)(hg:AllBare s'.gens)
  (hch:∀ b∈ch,(b∈X.ex\/X.s₀.heap.objs.size<=b)/\b≠X.env.locals/\(∀ x c,X.env.cells.lookup x=some c->c≠b)/\∀ p∈X.pn++pins,p.1≠b):Inv X pins σ H' s':=by
 obtain⟨h',g',d',t',o'⟩:=s'
 have e:o' = s.os:=ho
 subst e
 exact I.call (g':=g') (t':=t') (d':=d') u hok hg hch
end
noncomputable abbrev XK:=Value->Option Addr->Hp->Prop
noncomputable abbrev St:=List (Option V)
noncomputable abbrev VK:=V->Hp->Prop
noncomputable abbrev TE:=St->Hp->VK->Prop
noncomputable abbrev TT:=St->Hp->(Bool->Hp->Prop)->Prop
noncomputable abbrev TA:=St->Hp->(List V->Hp->Prop)->Prop
structure Ends where
 nx:St->Hp->Prop
 rt:VK
 bk:St->Hp->Prop:=fun _ _=>False
 ct:St->Hp->Prop:=fun _ _=>False
noncomputable abbrev TS:=Ends->St->Hp->Prop
def EP (X:Cx)(pins:List (Addr×Obj))(σ:St)(Q:VK)(u:Value)(s':Shared):Prop:=∃ v H',Inv X pins σ H' s'/\RelV v u/\Q v H'
def TP (X:Cx)(pins:List (Addr×Obj))(σ:St)(Q:Bool->Hp->Prop)(b:Bool)(s':Shared):Prop:=∃ H',Inv X pins σ H' s'/\Q b H'
def AP (X:Cx)(pins:List (Addr×Obj))(σ:St)(Q:List V->Hp->Prop)(us:List Value)(s':Shared):Prop:=∃ vs H',Inv X pins σ H' s'/\Vals vs us/\Q vs H'
def SP (X:Cx)(pins:List (Addr×Obj))(D:Ends)(f:Flow)(s':Shared):Prop:=
 match f with
 | .next=>∃ σ' H',Inv X pins σ' H' s'/\D.nx σ' H'
 | .brk=>∃ σ' H',Inv X pins σ' H' s'/\D.bk σ' H'
 | .cont=>∃ σ' H',Inv X pins σ' H' s'/\D.ct σ' H'
 | .ret u=>∃ v σ' H',Inv X pins σ' H' s'/\RelV v u/\D.rt v H'
def PE (X:Cx)(e:Expr)(t:TE):Prop:=
 ∀ (pins:List (Addr×Obj)) (s:Shared) (σ:St) (H:Hp) (Q:VK),Inv X pins σ H s->t σ H Q->wpAny (model X.prog X.w) X.A (eval e X.env) (EP X pins σ Q) X.xe s
def PT (X:Cx)(e:Expr)(t:TT):Prop:=
 ∀ (pins:List (Addr×Obj)) (s:Shared) (σ:St) (H:Hp) (Q:Bool->Hp->Prop),Inv X pins σ H s->t σ H Q->wpAny (model X.prog X.w) X.A (isTrue e X.env (eval e X.env)) (TP X pins σ Q) X.xe s
def PW (X:Cx)(e:Expr)(t:TT):Prop:=
 ∀ (whole:Sem Value) (pins:List (Addr×Obj)) (s:Shared) (σ:St) (H:Hp) (Q:Bool->Hp->Prop),Inv X pins σ H s->t σ H Q->wpAny (model X.prog X.w) X.A (isTrue e X.env whole) (TP X pins σ Q) X.xe s
theorem PW.pt {X:Cx}{e:Expr}{t:TT}(h:PW X e t):PT X e t:=h _
def PA (X:Cx)(es:List Expr)(t:TA):Prop:=
 ∀ (pos:Pos) (pins:List (Addr×Obj)) (s:Shared) (σ:St) (H:Hp) (Q:List V->Hp->Prop),Inv X pins σ H s->t σ H Q->wpAny (model X.prog X.w) X.A (spliced (backTo pos (starEach es X.env))) (AP X pins σ Q) X.xe s
def PS (X:Cx)(st:Stmt)(t:TS):Prop:=
 ∀ (pins:List (Addr×Obj)) (s:Shared) (σ:St) (H:Hp) (D:Ends),Inv X pins σ H s->t D σ H->wpAny (model X.prog X.w) X.A (exec st X.env) (SP X pins D) X.xe s
def PSs (X:Cx)(st:List Stmt)(t:TS):Prop:=
 ∀ (pins:List (Addr×Obj)) (s:Shared) (σ:St) (H:Hp) (D:Ends),Inv X pins σ H s->t D σ H->wpAny (model X.prog X.w) X.A (execs st X.env) (SP X pins D) X.xe s
theorem thn {α:Type}{t:Sem α}{Q Q':α->Shared->Prop}{M:Model}{A:Around}{E:Value->Shared->Prop}{s:Shared}(h:wpAny M A t Q E s)(hQ:∀ a s,Q a s->Q' a s):wpAny M A t Q' E s:=wpAny_mono h hQ fun _ _ x=>x
end L2
namespace L2
open PySem PySem.Spec PyProof.Rows
section
variable {X:Cx}
theorem bin {a b:Expr}{ta tb:TE}(ha:PE X a ta)(hb:PE X b tb){pins:List (Addr×Obj)}{s:Shared}{σ:St}{H:Hp}{R:V->V->Hp->Prop}(I:Inv X pins σ H s)(h:ta σ H fun x H1=>tb σ H1 fun y H2=>R x y H2)
  {α:Type} {Q:α->Shared->Prop} {f:Value->Value->Sem α}
  (hf:∀ v u s2 x y H2,Inv X pins σ H2 s2->RelV x v->RelV y u->R x y H2->wpAny (model X.prog X.w) X.A (f v u) Q X.xe s2) :
  wpAny (model X.prog X.w) X.A (eval a X.env) (fun v s₁=>wpAny (model X.prog X.w) X.A (eval b X.env) (fun u s₂=>wpAny (model X.prog X.w) X.A (f v u) Q X.xe s₂) X.xe s₁) X.xe s:=by
 refine thn (ha pins s σ H _ I h) fun v s1 ⟨x,H1,I1,r1,q1⟩=>?_
 refine thn (hb pins s1 σ H1 _ I1 q1) fun u s2 ⟨y,H2,I2,r2,q2⟩=>?_
 exact hf v u s2 x y H2 I2 r1 r2 q2
noncomputable def tVar (i:Nat):TE:=fun σ H Q=>∃ v,σ[i]? = some (some v)/\Q v H
noncomputable def tC (v:V):TE:=fun _ H Q=>Q v H
theorem zeL {i:Nat}{x:Str}{pos:Pos}(hN:X.N[i]? = some x)(hv:Vis X.env.scope x)(hd:(x == ("__debug__":Str))=false:=by decide) (hcd:(x == ("__classdict__":Str))=false:=by decide):PE X (.Name x pos) (tVar i):=by
 intro pins s σ H Q I h
 obtain⟨v,e,h⟩:=h
 obtain⟨m,hn,hl⟩:=I.loc
 obtain⟨u,r,l⟩:=hl i x v hN e hv
 have fin:EP X pins σ Q u s:=⟨v,H,I,r,h⟩
 rcases l with⟨hk,hm⟩ | ⟨hk,c,hc,hcell⟩
 ·exact wpAny_Name (wpAny_loadName_local I.ok.kind hk hn hm fin) hd
 ·rcases hk with hk | hk
  ·exact wpAny_Name (wpAny_loadName_cell I.ok.kind hk hc hcell fin) hd
  ·exact wpAny_Name (wpAny_loadName_free I.ok.kind hk hc hcell fin hcd) hd
theorem zeM {i j pos}:PE X (.Constant (.int i) j pos) (tC (.int i)):=fun _ _ _ H _ I h=>wpAny_Constant_int ⟨.int i,H,I.tok _,⟨_,rfl⟩,h⟩
theorem zgr {b j pos}:PE X (.Constant (.bool b) j pos) (tC (.bl b)):=fun _ _ _ H _ I h=>Constant_bool ⟨.bl b,H,I,rfl,h⟩
theorem zeN {j pos}:PE X (.Constant .none j pos) (tC .non):=fun _ _ _ H _ I h=>Constant_none ⟨.non,H,I,rfl,h⟩
theorem zeO {x j pos}:PE X (.Constant (.str x) j pos) (tC (.str x)):=fun _ _ _ H _ I h=>Calls.Constant_str ⟨.str x,H,I.tok _,⟨_,rfl⟩,h⟩
def Gl (X:Cx)(x:Str):Prop:=X.env.kindOf x=some .globalImplicit
theorem yk {E:Value->Shared->Prop}{pins:List (Addr×Obj)}{s:Shared}{σ:St}{H:Hp}{x:Str}{u:Value}{pos:Pos}{Q:Value->Shared->Prop}(I:Inv X pins σ H s)(hg:Gl X x)(hm:X.mg x=some u)(h:Q u s)
  (hd:(x == ("__debug__":Str))=false:=by decide):wpAny (model X.prog X.w) X.A (eval (.Name x pos) X.env) Q E s:=
 Calls.Name_function_global I.ok.kind hg (Calls.loadGlobal_global (by rw [I.ok.glob];exact I.mod.glob.keeps I.bk) hm h) hd
theorem wg {E:Value->Shared->Prop}{pins:List (Addr×Obj)}{s:Shared}{σ:St}{H:Hp}{x:Str}{u:Value}{pos:Pos}{Q:Value->Shared->Prop}(I:Inv X pins σ H s)(hg:Gl X x)(hm:X.mg x=none)(hv:bootBuiltins x=some u)(h:Q u s)
  (hn:x≠"__name__":=by decide) (hd:(x == ("__debug__":Str))=false:=by decide):wpAny (model X.prog X.w) X.A (eval (.Name x pos) X.env) Q E s:=by
 obtain⟨mb,h1,h2⟩:=I.mod.blt
 exact Calls.Name_function_global I.ok.kind hg (Calls.loadGlobal_builtin (by rw [I.ok.glob];exact I.mod.glob.keeps I.bk) hm (by rw [I.ok.blt];exact h1.keeps I.bk) ((h2 x hn).trans hv) h) hd
theorem zb7 {x:Str}{v:V}{u:Value}{pos:Pos}(hg:Gl X x)(hm:X.mg x=some u)(r:RelV v u)(hd:(x == ("__debug__":Str))=false:=by decide):PE X (.Name x pos) (tC v):=
 fun _ _ _ H _ I h=>yk I hg hm ⟨v,H,I,r,h⟩ hd
theorem zb8 {x:Str}{v:V}{u:Value}{pos:Pos}(hg:Gl X x)(hm:X.mg x=none)(hv:bootBuiltins x=some u)(r:RelV v u)(hn:x≠"__name__":=by decide) (hd:(x == ("__debug__":Str))=false:=by decide):PE X (.Name x pos) (tC v):=
 fun _ _ _ H _ I h=>wg I hg hm hv ⟨v,H,I,r,h⟩ hn hd
variable {a b:Expr} {ta tb:TE} {pos:Pos}
variable {tA tB':TT} {rest:List Expr}
noncomputable def tAnd (t u:TT):TT:=fun σ H Q=>t σ H fun c H1=>if c=true then u σ H1 Q else Q false H1
noncomputable def tOr (t u:TT):TT:=fun σ H Q=>t σ H fun c H1=>if c=true then Q true H1 else u σ H1 Q
noncomputable def tNot (t:TT):TT:=fun σ H Q=>t σ H fun c H1=>Q (!c) H1
theorem zb9 (ha:PT X a tA):PW X (.BoolOp .And [a] pos) tA:=by
 intro wh pins s σ H Q I h
 refine isTrue_and (thn (ha pins s σ H Q I h) fun c s1 e=>?_)
 cases c with
 | true=>exact isTrue_and_nil e
 | false=>exact e
theorem zeP (ha:PT X a tA):PW X (.BoolOp .Or [a] pos) tA:=by
 intro wh pins s σ H Q I h
 refine isTrue_or (thn (ha pins s σ H Q I h) fun c s1 e=>?_)
 cases c with
 | false=>exact isTrue_or_nil e
 | true=>exact e
theorem zeQ (ha:PT X a tA)(hb:PW X (.BoolOp .And (b::rest) pos) tB'):PW X (.BoolOp .And (a::b::rest) pos) (tAnd tA tB'):=by
 intro wh pins s σ H Q I h
 refine isTrue_and (thn (ha pins s σ H _ I h) fun c s1 ⟨H1,I1,q1⟩=>?_)
 cases c with
 | true=>exact hb wh pins s1 σ H1 Q I1 q1
 | false=>exact⟨H1,I1,q1⟩
theorem zgs (ha:PT X a tA)(hb:PW X (.BoolOp .Or (b::rest) pos) tB'):PW X (.BoolOp .Or (a::b::rest) pos) (tOr tA tB'):=by
 intro wh pins s σ H Q I h
 refine isTrue_or (thn (ha pins s σ H _ I h) fun c s1 ⟨H1,I1,q1⟩=>?_)
 cases c with
 | true=>exact⟨H1,I1,q1⟩
 | false=>exact hb wh pins s1 σ H1 Q I1 q1
theorem zeR (ha:PT X a tA):PT X (.UnaryOp .Not a pos) (tNot tA):=by
 intro pins s σ H Q I h
 exact isTrue_not (ha pins s σ H (fun c H1=>Q (!c) H1) I h)
noncomputable def zdB (ta tb:TE):TE:=fun σ H Q=>ta σ H fun x H1=>∃ c,x=.bl c/\if c=true then tb σ H1 Q else Q (.bl false) H1
noncomputable def tOrV (ta tb:TE):TE:=fun σ H Q=>ta σ H fun x H1=>∃ c,x=.bl c/\if c=true then Q (.bl true) H1 else tb σ H1 Q
theorem zeS {op}{t:TE}(h:PE X a t):PE X (.BoolOp op [a] pos) t:=fun pins s σ H Q I hw=>BoolOp_one (h pins s σ H Q I hw)
theorem zeT (ha:PE X a ta)(hb:PE X (.BoolOp .And (b::rest) pos) tb):PE X (.BoolOp .And (a::b::rest) pos) (zdB ta tb):=by
 intro pins s σ H Q I h
 refine BoolOp_and (thn (ha pins s σ H _ I h) fun v s1 ⟨x,H1,I1,r1,q1⟩=>?_)
 obtain⟨c,rfl,q1⟩:=q1
 cases r1
 refine wpAny_truthy_bool ?_
 cases c with
 | true=>exact hb pins s1 σ H1 Q I1 q1
 | false=>exact⟨.bl false,H1,I1,rfl,q1⟩
theorem zgt (ha:PE X a ta)(hb:PE X (.BoolOp .Or (b::rest) pos) tb):PE X (.BoolOp .Or (a::b::rest) pos) (tOrV ta tb):=by
 intro pins s σ H Q I h
 refine BoolOp_or (thn (ha pins s σ H _ I h) fun v s1 ⟨x,H1,I1,r1,q1⟩=>?_)
 obtain⟨c,rfl,q1⟩:=q1
 cases r1
 refine wpAny_truthy_bool ?_
 cases c with
 | false=>exact hb pins s1 σ H1 Q I1 q1
 | true=>exact⟨.bl true,H1,I1,rfl,q1⟩
noncomputable def tIf (t:TT)(ta tb:TE):TE:=fun σ H Q=>t σ H fun c H1=>if c=true then ta σ H1 Q else tb σ H1 Q
theorem Kz {c:Expr}(hc:PT X c tA)(ha:PE X a ta)(hb:PE X b tb):PE X (.IfExp c a b pos) (tIf tA ta tb):=by
 intro pins s σ H Q I h
 refine wpAny_IfExp (thn (hc pins s σ H _ I h) fun d s1 ⟨H1,I1,q1⟩=>?_)
 cases d with
 | true=>exact ha pins s1 σ H1 Q I1 q1
 | false=>exact hb pins s1 σ H1 Q I1 q1
end
end L2
namespace L2
open PySem PySem.Spec PyProof.Rows
def SqL (K:PySem.W.Frag)(H:Hp)(a:Addr)(xs:List V):Prop:=
 Rd H a (.lst xs) \/
  ∃ (o:Obj) (its:Array Value) (n:Nat),K.lookup a=some o/\o.cls=.type "list"/\o.dict=none/\o.data=.seq its n/\its.size<=sizeLine/\Vals xs its.toList
def SqT (K:PySem.W.Frag)(H:Hp)(a:Addr)(xs:List V):Prop:=
 Rd H a (.tup xs) \/
  ∃ (o:Obj) (its:Array Value) (n:Nat),K.lookup a=some o/\o.cls=.type "tuple"/\o.data=.seq its n/\its.size<=sizeLine/\Vals xs its.toList
noncomputable def absV:Value->Option V
 | .none=>some .non
 | .bool b=>some (.bl b)
 | .int i _=>some (.int i)
 | .str x _=>some (.str x)
 | .bytes b _=>some (.byt b)
 | .float b _=>some (.flt b)
 | .ref a=>some (.ref a)
 | .type n=>some (.ty n)
 | _=>none
theorem RelV.abs {x:V}{u:Value}(r:RelV x u):absV u=some x:=by
 cases x with
 | non=>cases r;rfl
 | bl _=>cases r;rfl
 | int _=>obtain⟨t,rfl⟩:=r;rfl
 | str _=>obtain⟨t,rfl⟩:=r;rfl
 | byt _=>obtain⟨t,rfl⟩:=r;rfl
 | flt _=>obtain⟨t,rfl⟩:=r;rfl
 | ref _=>cases r;rfl
 | ty _=>cases r;rfl
theorem RelV.inj {x y:V}{u:Value}(r:RelV x u)(q:RelV y u):x=y:=Option.some.inj (r.abs.symm.trans q.abs)
theorem Vals.inj:∀ {xs ys:List V} {us:List Value},Vals xs us->Vals ys us->xs=ys
 | _,_,_,.nil,.nil=>rfl
 | _,_,_,.cons r t,.cons r' t'=>by rw [r.inj r',Vals.inj t t']
section
variable {X:Cx} {pins:List (Addr×Obj)} {σ:St} {H:Hp} {s:Shared} {a:Addr} {xs ys:List V}
theorem SqL.of {K:PySem.W.Frag}(h:H a=some (.lst xs)):SqL K H a xs:=.inl (.inl h)
theorem SqT.of {K:PySem.W.Frag}(h:H a=some (.tup xs)):SqT K H a xs:=.inl (.inl h)
theorem Inv.list (I:Inv X pins σ H s)(h:SqL X.K H a xs):∃ its:List Value,Vals xs its/\PlainL s.heap a its.toArray/\xs.length<=sizeLine:=by
 rcases h with h | ⟨o,its,n,hk,hc,hd,hs,hz,r⟩
 ·obtain⟨z,its,n,r,e⟩:=h.ok I.hok
  exact⟨its,r,⟨_,n,e,rfl,rfl,rfl⟩,z⟩
 ·refine⟨its.toList,r,⟨o,n,I.kIn a o hk,hc,hd,by simpa using hs⟩,?_⟩
  have e:=r.length
  simp only [Array.length_toList] at e
  omega
theorem Inv.tuple (I:Inv X pins σ H s)(h:SqT X.K H a xs):∃ its:List Value,Vals xs its/\IsTup s.heap a its.toArray/\xs.length<=sizeLine:=by
 rcases h with h | ⟨o,its,n,hk,hc,hs,hz,r⟩
 ·obtain⟨z,its,r,p⟩:=h.ok I.hok
  exact⟨its,r,p,z⟩
 ·refine⟨its.toList,r,⟨o,I.kIn a o hk,hc,n,by simpa using hs⟩,?_⟩
  have e:=r.length
  simp only [Array.length_toList] at e
  omega
theorem Inv.list_inj (I:Inv X pins σ H s)(h:SqL X.K H a xs)(h':SqL X.K H a ys):xs=ys:=by
 obtain⟨its,r,⟨o,n,e,_,_,d⟩,_⟩:=I.list h
 obtain⟨its',r',⟨o',n',e',_,_,d'⟩,_⟩:=I.list h'
 rw [e] at e';cases e'
 rw [d] at d'
 injection d' with d1 _
 have:its=its':=by simpa using congrArg Array.toList d1
 subst this
 exact r.inj r'
theorem Inv.tuple_inj (I:Inv X pins σ H s)(h:SqT X.K H a xs)(h':SqT X.K H a ys):xs=ys:=by
 obtain⟨its,r,⟨o,e,_,n,d⟩,_⟩:=I.tuple h
 obtain⟨its',r',⟨o',e',_,n',d'⟩,_⟩:=I.tuple h'
 rw [e] at e';cases e'
 rw [d] at d'
 injection d' with d1 _
 have:its=its':=by simpa using congrArg Array.toList d1
 subst this
 exact r.inj r'
end
noncomputable abbrev Cx.wish (X:Cx)(E:Value->Shared->Prop):Cx:={ X with xe:=E }
noncomputable abbrev Cx.nox (X:Cx):Cx:=X.wish fun _ _=>False
theorem Cx.Ok.wish {X:Cx}(ok:X.Ok)(E:Value->Shared->Prop):(X.wish E).Ok:=
 ⟨ok.mod,ok.kind,ok.glob,ok.blt,ok.above,ok.inj,ok.has,ok.cab,ok.hd,ok.frames,ok.stk,ok.exf,ok.bs,ok.bsz,ok.noex,ok.exfs,ok.funs,ok.frf⟩
theorem Cx.Ok.unwish {X:Cx}{E:Value->Shared->Prop}(ok:(X.wish E).Ok):X.Ok:=
 ⟨ok.mod,ok.kind,ok.glob,ok.blt,ok.above,ok.inj,ok.has,ok.cab,ok.hd,ok.frames,ok.stk,ok.exf,ok.bs,ok.bsz,ok.noex,ok.exfs,ok.funs,ok.frf⟩
section
variable {X:Cx} {pins:List (Addr×Obj)} {σ:St} {H:Hp} {s:Shared} {E:Value->Shared->Prop}
theorem Inv.wish (I:Inv X pins σ H s)(E:Value->Shared->Prop):Inv (X.wish E) pins σ H s:=⟨I.ok.wish E,I.os,I.bare,I.base,I.loc,I.cell,I.free,I.freeC,I.pin,I.hok,I.len⟩
theorem Inv.unwish (I:Inv (X.wish E) pins σ H s):Inv X pins σ H s:=⟨I.ok.unwish,I.os,I.bare,I.base,I.loc,I.cell,I.free,I.freeC,I.pin,I.hok,I.len⟩
theorem SP.unwish {D:Ends}{f:Flow}{s':Shared}(h:SP (X.wish E) pins D f s'):SP X pins D f s':=by
 cases f with
 | next=>obtain⟨σ',H',I,q⟩:=h;exact⟨σ',H',I.unwish,q⟩
 | brk=>obtain⟨σ',H',I,q⟩:=h;exact⟨σ',H',I.unwish,q⟩
 | cont=>obtain⟨σ',H',I,q⟩:=h;exact⟨σ',H',I.unwish,q⟩
 | ret u=>obtain⟨v,σ',H',I,r,q⟩:=h;exact⟨v,σ',H',I.unwish,r,q⟩
theorem PSs.nox {st:List Stmt}{t:TS}(h:PSs X.nox st t):PSs X st t:=fun pins s σ H D I hw=>
 wpAny_mono (h pins s σ H D (I.wish _) hw) (fun _ _ q=>q.unwish) fun _ _ z=>False.elim z
end
section
variable {X:Cx} {st:Stmt} {rest:List Stmt} {t u:TS} {e:Expr} {te:TE} {pos:Pos}
noncomputable def Vm:TS:=fun D σ H=>D.nx σ H
noncomputable def tSeq (t u:TS):TS:=fun D σ H=>t { D with nx:=u D } σ H
theorem zca:PSs X [] Vm:=fun _ _ σ H _ I h=>wpAny_execs_nil ⟨σ,H,I,h⟩
theorem KA (h1:PS X st t)(h2:PSs X rest u):PSs X (st::rest) (tSeq t u):=by
 intro pins s σ H D I h
 refine wpAny_execs_cons (thn (h1 pins s σ H { D with nx:=u D } I h) fun f s1 q=>?_)
 cases f with
 | next=>
  obtain⟨σ',H',I',q⟩:=q
  exact h2 pins s1 σ' H' D I' q
 | ret v=>exact q
 | brk=>exact q
 | cont=>exact q
theorem zcb:PS X (.Pass pos) Vm:=fun _ _ σ H _ I h=>wpAny_Pass ⟨σ,H,I,h⟩
theorem Inv.quiet {pins:List (Addr×Obj)}{σ:St}{H:Hp}{s:Shared}(I:Inv X pins σ H s):interactive X.env=false:=by simp [interactive,I.ok.kind]
noncomputable def zdC (te:TE):TS:=fun D σ H=>te σ H fun _ H1=>D.nx σ H1
theorem zcc (he:PE X e te)(hs:swapsWith e none pos.line X.env=pure false:=by rfl):PS X (.Expr e pos) (zdC te):=by
 intro pins s σ H D I h
 exact wpAny_Expr_any (thn (he pins s σ H _ I h) fun v s1 ⟨x,H1,I1,r1,q1⟩=>⟨σ,H1,I1,q1⟩) I.quiet hs
noncomputable def tRet (te:TE):TS:=fun D σ H=>te σ H D.rt
theorem zeU (he:PE X e te):PS X (.Return (some e) pos) (tRet te):=by
 intro pins s σ H D I h
 exact wpAny_Return_some (thn (he pins s σ H _ I h) fun v s1 ⟨x,H1,I1,r1,q1⟩=>⟨x,σ,H1,I1,r1,q1⟩)
noncomputable def tIfS (c:TT)(t u:TS):TS:=fun D σ H=>c σ H fun b H1=>if b=true then t D σ H1 else u D σ H1
theorem zgu {c:Expr}{a b:List Stmt}{tc:TT}(hc:PT X c tc)(ha:PSs X a t)(hb:PSs X b u):PS X (.If c a b pos) (tIfS tc t u):=by
 intro pins s σ H D I h
 refine wpAny_If (thn (hc pins s σ H _ I h) fun d s1 ⟨H1,I1,q1⟩=>?_)
 cases d with
 | true=>exact ha pins s1 σ H1 D I1 q1
 | false=>exact hb pins s1 σ H1 D I1 q1
end
noncomputable abbrev TG:=V->St->Hp->(St->Hp->Prop)->Prop
noncomputable abbrev TGs:=List V->St->Hp->(St->Hp->Prop)->Prop
def PG (X:Cx)(target:Expr)(t:TG):Prop:=
 ∀ (pins:List (Addr×Obj)) (s:Shared) (σ:St) (H:Hp) (v:V) (u:Value) (Q:St->Hp->Prop),Inv X pins σ H s->RelV v u->t v σ H Q ->
  wpAny (model X.prog X.w) X.A (assign target X.env u) (fun _ s'=>∃ σ' H',Inv X pins σ' H' s'/\Q σ' H') X.xe s
def PGs (X:Cx)(ts:List Expr)(t:TGs):Prop:=
 ∀ (pins:List (Addr×Obj)) (s:Shared) (σ:St) (H:Hp) (vs:List V) (us:List Value) (Q:St->Hp->Prop),Inv X pins σ H s->Vals vs us->t vs σ H Q ->
  wpAny (model X.prog X.w) X.A (assignInOrder ((assignEach ts X.env).map (·.2)) us) (fun _ s'=>∃ σ' H',Inv X pins σ' H' s'/\Q σ' H') X.xe s
noncomputable abbrev TSet:=V->V->V->Hp->(Hp->Prop)->Prop
def PSet (X:Cx)(t:TSet):Prop:=
 ∀ (pins:List (Addr×Obj)) (s:Shared) (σ:St) (H:Hp) (o i v:V) (ov iv u:Value) (Q:Hp->Prop),Inv X pins σ H s->RelV o ov->RelV i iv->RelV v u->t o i v H Q ->
  wpAny (model X.prog X.w) X.A (setItem ov iv u) (fun _ s'=>∃ H',Inv X pins σ H' s'/\Q H') X.xe s
section
variable {X:Cx} {pos:Pos}
noncomputable def jh (i:Nat):TG:=fun v σ H Q=>Q (σ.set i (some v)) H
theorem Q6 {i:Nat}{x:Str}(hN:X.N.Nodup)(hi:X.N[i]? = some x)(hx:Loc X.env.scope x)(hf:X.fn x=true\/X.env.scope.names.lookup x=some .local:=by first | exact .inl rfl | exact .inr rfl | assumption):PG X (.Name x pos) (jh i):=by
 intro pins s σ H v u Q I r h
 exact wpAny_assign_Name (J4 I hN hi hx r (fun s' I'=>⟨_,H,I',h⟩) hf)
noncomputable def gNil:TGs:=fun vs σ H Q=>vs=[]/\Q σ H
noncomputable def Zh (t:TG)(u:TGs):TGs:=fun vs σ H Q=>∃ v r,vs=v::r/\t v σ H fun σ' H'=>u r σ' H' Q
theorem Vn:PGs X [] gNil:=by
 intro pins s σ H vs us Q I r h
 obtain⟨e,h⟩:=h
 subst e
 cases r
 exact assignInOrder_nil ⟨σ,H,I,h⟩
theorem J5 {e:Expr}{es:List Expr}{t:TG}{u:TGs}(h1:PG X e t)(h2:PGs X es u)
  (hs:(assignEach (e::es) X.env).map (·.2)=assign e X.env::(assignEach es X.env).map (·.2):=by rfl):PGs X (e::es) (Zh t u):=by
 intro pins s σ H vs us Q I r h
 obtain⟨v,vr,e1,h⟩:=h
 subst e1
 cases r with
 | cons r rr=>
  rw [hs]
  refine assignInOrder_cons (thn (h1 pins s σ H _ _ _ I r h) fun _ s1 ⟨σ1,H1,I1,q1⟩=>?_)
  exact h2 pins s1 σ1 H1 _ _ Q I1 rr q1
noncomputable def gTup (K:PySem.W.Frag)(n:Nat)(t:TGs):TG:=fun v σ H Q=>∃ a xs,v=.ref a/\SqT K H a xs/\xs.length=n/\t xs σ H Q
theorem KC {es:List Expr}{k:Nat}{t:TGs}{n:Nat}(hc:X.calm=true)(h:PGs X es t)
  (hn:(assignEach es X.env).length=n:=by rfl) (hst:(assignEach es X.env).findIdx? (·.1)=none:=by rfl):PG X (.Tuple es k pos) (gTup X.K n t):=by
 intro pins s σ H v u Q I r hw
 obtain⟨a,xs,e1,hq,hl,hw⟩:=hw
 subst e1
 cases r
 obtain⟨its,rv,ht,hz⟩:=I.tuple hq
 refine assign_Tuple_tuple (I.ok.hd hc) ht (by simp [hn,← hl,rv.length]) hst fun h' hx=>?_
 have I1:Inv X pins σ H { s with heap:=h' }:=I.kept (t':=s.toks) fun b o e=>hx b o (Nat.ne_of_lt (Heap.lt_size e)) e
 exact h pins _ σ H xs _ Q I1 (by simpa using rv) hw
noncomputable def gSub (to ti:TE)(t:TSet):TG:=fun v σ H Q=>to σ H fun o H1=>ti σ H1 fun i H2=>t o i v H2 fun H3=>Q σ H3
theorem zeV {o i:Expr}{to ti:TE}{t:TSet}(ho:PE X o to)(hi:PE X i ti)(hs:PSet X t)
  (ha:∀ v,assign (.Subscript o i pos) X.env v=(do
   let ov ← holding [v] (eval o X.env)
   let iv ← holding [v,ov] (eval i X.env)
   standAt pos
   holding [v,ov,iv] (setItem ov iv v)
   release [v,ov,iv] []):=by intro _;rfl):PG X (.Subscript o i pos) (gSub to ti t):=by
 intro pins s σ H v u Q I r h
 rw [ha]
 refine wpAny_bind (wpAny_holding (thn (ho pins s σ H _ I h) fun ov s1 ⟨x,H1,I1,r1,q1⟩=>?_))
 refine wpAny_bind (wpAny_holding (thn (hi pins s1 σ H1 _ I1 q1) fun iv s2 ⟨y,H2,I2,r2,q2⟩=>?_))
 refine wpAny_bind (wpAny_standAt (wpAny_bind (wpAny_holding (thn (hs pins s2 σ H2 x y v ov iv u _ I2 r1 r2 r q2) fun _ s3 ⟨H3,I3,q3⟩=>?_))))
 exact wpAny_release ⟨σ,H3,I3,q3⟩
noncomputable def tAsg (te:TE)(g:TG):TS:=fun D σ H=>te σ H fun x H1=>g x σ H1 D.nx
theorem zeW {tg e:Expr}{te:TE}{g:TG}(he:PE X e te)(hg:PG X tg g)(hs:swapsWithSole [tg] e pos.line X.env=pure false:=by rfl) (hw:swappedStores [tg] e X.env=pure none:=by rfl)
  (h1:(assignEach [tg] X.env).map (·.2)=[assign tg X.env]:=by rfl):PS X (.Assign [tg] e pos) (tAsg te g):=by
 intro pins s σ H D I h
 refine wpAny_Assign_stores (thn (he pins s σ H _ I h) fun v s1 ⟨x,H1,I1,r1,q1⟩=>?_) hs hw
 rw [h1]
 exact thn (hg pins s1 σ H1 x v _ I1 r1 q1) fun _ s2 q=>q
theorem zeX {i:Nat}{x:Str}{e:Expr}{te:TE}{pos':Pos}(hN:X.N.Nodup)(hi:X.N[i]? = some x)(hx:Loc X.env.scope x)(he:PE X e te)(hs:swapsWith e (some (.Name x pos')) pos.line X.env=pure false:=by rfl) (hf:X.fn x=true\/X.env.scope.names.lookup x=some .local:=by first | exact .inl rfl | exact .inr rfl | assumption) :
  PS X (.Assign [.Name x pos'] e pos) (tAsg te (jh i)):=by
 intro pins s σ H D I h
 refine wpAny_Assign_Name (thn (he pins s σ H _ I h) fun v s1 ⟨y,H1,I1,r1,q1⟩=>?_) hs
 exact J4 I1 hN hi hx r1 (fun s2 I2=>⟨_,H1,I2,q1⟩) hf
end
section
variable {X:Cx} {pos:Pos}
end
structure It where
 go:Nat->Hp->Prop
 yld:Nat->Hp->V->Hp->Prop
 stop:Nat->Hp->Prop
def FpOk (X:Cx)(pins:List (Addr×Obj))(H:Hp)(b:Addr):Prop:=
 H b=none/\b≠X.env.locals/\b∉X.fs/\(b∈X.ex\/X.s₀.heap.objs.size<=b)/\(∀ x c,X.env.cells.lookup x=some c->c≠b)/\∀ p∈X.pn++pins,p.1≠b
theorem Inv.fpOk {X:Cx}{pins:List (Addr×Obj)}{σ:St}{H H':Hp}{s:Shared}{b:Addr}(I:Inv X pins σ H s)(hb:s.heap.objs.size<=b)(hn:H' b=none):FpOk X pins H' b:=by
 refine⟨hn,Nat.ne_of_gt (Nat.lt_of_lt_of_le I.lt hb),I.nofs hb,.inr (Nat.le_trans I.sz hb),fun x c e z=>?_,fun p hp z=>?_⟩
 ·obtain⟨v,q⟩:=I.cell x c e
  exact absurd (Nat.lt_of_lt_of_le q.lt (by rw [z];exact hb)) (Nat.lt_irrefl _)
 ·exact absurd (Nat.lt_of_lt_of_le (Heap.lt_size (I.pin p hp).1) (by rw [z];exact hb)) (Nat.lt_irrefl _)
structure Turn (P:Program)(w:World)(K:PySem.W.Frag)(tg:Expr)(J:It)(fp:List Addr)(it:Addr)(tn:Nat->Heap->Prop):Prop where
 mem:it∈fp
 obj:∀ i h,tn i h->∀ b∈fp,∃ o,h.get? b=some o/\∀ v,o.data≠.cell v
 keep:∀ i h h',tn i h->(∀ b∈fp,∀ o,h.get? b=some o->h'.get? b=some o)->tn i h'
 item:∀ (X:Cx),X.prog=P->X.w=w->X.K=K->X.calm=true->∀ (i:Nat) (pins:List (Addr×Obj)) (s:Shared) (σ:St) (H:Hp) (E:Value->Shared->Prop),Inv X pins σ H s->(∀ b∈fp,FpOk X pins H b)->tn i s.heap->J.go i H ->
  wpAny (model P w) X.A (pyNext (.ref it)) (fun r s1=>∃ u,r=some u /\
   wpAny (model P w) X.A (letOwnedTupleGo tg (.ref it) u) (fun _ s2=>∃ x H',Inv X pins σ H' s2/\RelV x u/\J.yld i H x H'/\tn (i+1) s2.heap/\∀ b∈fp,H' b=none) E s1) E s
 done:∀ (X:Cx),X.prog=P->X.w=w->X.K=K->X.calm=true->∀ (i:Nat) (pins:List (Addr×Obj)) (s:Shared) (σ:St) (H:Hp) (E:Value->Shared->Prop),Inv X pins σ H s->(∀ b∈fp,FpOk X pins H b)->tn i s.heap->J.stop i H ->
  wpAny (model P w) X.A (pyNext (.ref it)) (fun r s1=>r=none/\Inv X pins σ H s1) E s
 self:∀ (A:Around) (i:Nat) (s:Shared) (Q:Value->Shared->Prop) (E:Value->Shared->Prop),tn i s.heap->Q (.ref it) s->wpAny (model P w) A (pyIter (.ref it)) Q E s
noncomputable abbrev TI:=St->Hp->(It->Hp->Prop)->Prop
def PIE (X:Cx)(pins:List (Addr×Obj))(σ:St)(tg:Expr)(R:It->Hp->Prop)(itv:Value)(s2:Shared):Prop:=
 ∃ (it:Addr) (fp:List Addr) (tn:Nat->Heap->Prop) (J:It) (H':Hp),itv=.ref it/\Inv X pins σ H' s2/\Turn X.prog X.w X.K tg J fp it tn/\tn 0 s2.heap/\(∀ b∈fp,FpOk X pins H' b)/\R J H'
def PI (X:Cx)(tg iter:Expr)(wi:TI):Prop:=
 ∀ (pins:List (Addr×Obj)) (s:Shared) (σ:St) (H:Hp) (R:It->Hp->Prop),Inv X pins σ H s->wi σ H R ->
  wpAny (model X.prog X.w) X.A (eval iter X.env) (fun v s1=>wpAny (model X.prog X.w) X.A (pyIter v) (PIE X pins σ tg R) X.xe s1) X.xe s
theorem Qy {M:Model}{A:Around}{E:Value->Shared->Prop}{s:Shared}{tg:Expr}{it:Addr}{u:Value}{o:Obj}{n:String}{vs:Array Value}{Q:Unit->Shared->Prop}(ho:s.heap.get? it=some o)(hc:o.cls=.type n)(hd:o.data=.fields vs)
    (hn:["enumerate","zip","dict_itemiterator","dict_reverseitemiterator","odict_iterator","itertools.zip_longest","itertools.pairwise"].contains n=false) (hQ:Q () s):wpAny M A (letOwnedTupleGo tg (.ref it) u) Q E s:=by
  unfold letOwnedTupleGo
  cases tg<;>first
    | exact wpAny_pure hQ
    | (cases u<;>first
        | exact wpAny_pure hQ
        | (refine wpAny_bind (wpAny_load ho ?_)
           rw [hc,hd]
           show wpAny M A (if (["enumerate","zip","dict_itemiterator","dict_reverseitemiterator","odict_iterator","itertools.zip_longest","itertools.pairwise"].contains n&&vs[0]? == some (rawInt _))=true then _ else _) Q E s
           rw [if_neg (by intro h;rw [hn,Bool.false_and] at h;cases h)]
           exact wpAny_pure hQ))
noncomputable def Itl (K:PySem.W.Frag)(a:Addr):It:=
 ⟨fun i H=>∃ xs x,SqL K H a xs/\xs[i]? = some x,fun i H x H'=>H' = H/\∀ xs,SqL K H a xs->xs[i]? = some x,fun i H=>∃ xs,SqL K H a xs/\xs.length<=i⟩
noncomputable def Itt (K:PySem.W.Frag)(a:Addr):It:=
 ⟨fun i H=>∃ xs x,SqT K H a xs/\xs[i]? = some x,fun i H x H'=>H' = H/\∀ xs,SqT K H a xs->xs[i]? = some x,fun i H=>∃ xs,SqT K H a xs/\xs.length<=i⟩
noncomputable def Itr (lo:Int)(n:Nat):It:=⟨fun i _=>i<n,fun i H x H'=>H' = H/\x=.int (lo+i),fun i _=>n<=i⟩
theorem Yz {P:Program}{w:World}{K:PySem.W.Frag}{tg:Expr}(a it:Addr):Turn P w K tg (Itl K a) [it] it (fun i h=>h.IsListIter it a i) where
 mem:=by simp
 obj:=fun i h st b hb=>by
  have e:b=it:=by simpa using hb
  subst e
  obtain⟨o,e,c,d⟩:=st
  exact⟨o,e,fun v z=>by rw [d] at z;cases z⟩
 keep:=fun i h h' st k=>st.at fun o e=>k it (by simp) o e
 item:=by
  intro X hP hw hK hc i pins s σ H E I hf st hg
  subst hP hw hK
  obtain⟨xs,x,hq,hx⟩:=hg
  obtain⟨its,rv,p,hz⟩:=I.list hq
  obtain⟨u,hu,ru⟩:=rv.get hx
  obtain⟨f0,f1,f2,f3,f4,f5⟩:=hf it (by simp)
  refine wpAny_pyNext_list_item st p.isList (x:=u) (by simpa using hu) fun h' st' sb=>?_
  have I1:Inv X pins σ H { s with heap:=h' }:=I.turned (t':=s.toks) (fun b o hb e=>(sb.2 b hb).trans e) f0 f1 f3 f4 f5
  obtain⟨o,e,c,d⟩:=id st'
  exact⟨u,rfl,Qy (s:={ s with heap:=h' }) e c d (by decide) ⟨x,H,I1,ru,⟨rfl,fun ys hy=>by rw [I.list_inj hy hq];exact hx⟩,st',fun b hb=>(hf b hb).1⟩⟩
 done:=by
  intro X hP hw hK hc i pins s σ H E I hf st hg
  subst hP hw hK
  obtain⟨xs,hq,hx⟩:=hg
  obtain⟨its,rv,p,hz⟩:=I.list hq
  obtain⟨f0,f1,f2,f3,f4,f5⟩:=hf it (by simp)
  have hl:=rv.length
  exact wpAny_pyNext_list_end (I.ok.hd hc) st p.isList (by simp;omega) fun h' eb=>⟨rfl,I.turned (t':=s.toks) (fun b o hb e=>eb b o hb e) f0 f1 f3 f4 f5⟩
 self:=fun _ _ _ _ _ st h=>wpAny_pyIter_listiter st h
theorem Xk {P:Program}{w:World}{K:PySem.W.Frag}{tg:Expr}(a it:Addr):Turn P w K tg (Itt K a) [it] it (fun i h=>h.IsTupleIter it a i) where
 mem:=by simp
 obj:=fun i h st b hb=>by
  have e:b=it:=by simpa using hb
  subst e
  obtain⟨o,e,c,d⟩:=st
  exact⟨o,e,fun v z=>by rw [d] at z;cases z⟩
 keep:=fun i h h' st k=>st.at fun o e=>k it (by simp) o e
 item:=by
  intro X hP hw hK hc i pins s σ H E I hf st hg
  subst hP hw hK
  obtain⟨xs,x,hq,hx⟩:=hg
  obtain⟨its,rv,p,hz⟩:=I.tuple hq
  obtain⟨u,hu,ru⟩:=rv.get hx
  obtain⟨f0,f1,f2,f3,f4,f5⟩:=hf it (by simp)
  refine wpAny_pyNext_tuple_item st (show s.heap.IsTuple a its.toArray from p) (x:=u) (by simpa using hu) fun h' st' sb=>?_
  have I1:Inv X pins σ H { s with heap:=h' }:=I.turned (t':=s.toks) (fun b o hb e=>(sb.2 b hb).trans e) f0 f1 f3 f4 f5
  obtain⟨o,e,c,d⟩:=id st'
  exact⟨u,rfl,Qy (s:={ s with heap:=h' }) e c d (by decide) ⟨x,H,I1,ru,⟨rfl,fun ys hy=>by rw [I.tuple_inj hy hq];exact hx⟩,st',fun b hb=>(hf b hb).1⟩⟩
 done:=by
  intro X hP hw hK hc i pins s σ H E I hf st hg
  subst hP hw hK
  obtain⟨xs,hq,hx⟩:=hg
  obtain⟨its,rv,p,hz⟩:=I.tuple hq
  obtain⟨f0,f1,f2,f3,f4,f5⟩:=hf it (by simp)
  have hl:=rv.length
  exact wpAny_pyNext_tuple_end (I.ok.hd hc) st (show s.heap.IsTuple a its.toArray from p) (by simp;omega) fun h' eb=>⟨rfl,I.turned (t':=s.toks) (fun b o hb e=>eb b o hb e) f0 f1 f3 f4 f5⟩
 self:=fun _ _ _ _ _ st h=>wpAny_pyIter_tupleiter st h
theorem Xl {P:Program}{w:World}{K:PySem.W.Frag}{tg:Expr}(it:Addr)(lo:Int)(n:Nat):Turn P w K tg (Itr lo n) [it] it (fun i h=>IsRangeIter h it (lo+(i:Nat) * 1) ((n:Int) - (i:Nat)) 1) where
 mem:=by simp
 obj:=fun i h st b hb=>by
  have e:b=it:=by simpa using hb
  subst e
  exact⟨_,st,fun v z=>by
   have z':Data.fields _=Data.cell v:=z
   cases z'⟩
 keep:=fun i h h' st k=>k it (by simp) _ st
 item:=by
  intro X hP hw hK hc i pins s σ H E I hf st hg
  subst hP hw hK
  obtain⟨f0,f1,f2,f3,f4,f5⟩:=hf it (by simp)
  have W:=Walks.range (prog:=X.prog) (w:=X.w) (I.ok.hd hc) it lo 1 n
  refine W.item i s _ _ hg st fun v h' tk hv st' kk=>?_
  obtain⟨t,rfl⟩:=hv
  have I1:Inv X pins σ H { s with heap:=h',toks:=tk }:=I.turned (fun b o hb e=>kk b o (by simpa using hb) e) f0 f1 f3 f4 f5
  refine⟨_,rfl,Qy (s:={ s with heap:=h',toks:=tk }) (n:="range_iterator") st' rfl rfl (by decide) ⟨.int (lo+i),H,I1,⟨t,?_⟩,⟨rfl,rfl⟩,st',fun b hb=>(hf b hb).1⟩⟩
  rw [Int.mul_one]
 done:=by
  intro X hP hw hK hc i pins s σ H E I hf st hg
  subst hP hw hK
  obtain⟨f0,f1,f2,f3,f4,f5⟩:=hf it (by simp)
  exact wpAny_pyNext_range_end (I.ok.hd hc) st (by have:n<=i:=hg;omega) fun h' eb=>⟨rfl,I.turned (t':=s.toks) (fun b o hb e=>eb b o hb e) f0 f1 f3 f4 f5⟩
 self:=fun _ _ _ _ _ st h=>wpAny_pyIter_rangeiter st h
end L2
namespace L2
open PySem PySem.Spec PyProof.Rows
section
variable {X:Cx} {tg:Expr}
theorem J6 {pins:List (Addr×Obj)}{σ:St}{H:Hp}{s:Shared}{R:It->Hp->Prop}{E:Value->Shared->Prop}{lo hi:Int}{t u v:Tok}{tk:Nat}(I:Inv X pins σ H s)(h1:-(2 ^ 62)<=lo)(h2:lo<2 ^ 62)(h3:-(2 ^ 62)<=hi)(h4:hi<2 ^ 62)
  (q:R (Itr lo (hi - lo).toNat) H):wpAny (model X.prog X.w) X.A (pyIter (.ref s.heap.objs.size)) (PIE X pins σ tg R) E { s with heap:=s.heap.push { cls:=.type "range",data:=.fields #[.int lo t,.int hi u,.int 1 v] },toks:=tk }:=by
 refine wpAny_pyIter_range (IsRange.new ..) (small_one h1 h2 h3 h4) ?_
 have I1:Inv X pins σ H { s with heap:=s.heap.push { cls:=.type "range",data:=.fields #[.int lo t,.int hi u,.int 1 v] },toks:=tk }:=I.kept fun b o e=>Heap.get?_push_of_some _ e
 refine⟨(s.heap.push { cls:=.type "range",data:=.fields #[.int lo t,.int hi u,.int 1 v] }).objs.size,[(s.heap.push { cls:=.type "range",data:=.fields #[.int lo t,.int hi u,.int 1 v] }).objs.size],_,_,H,rfl,
  I1.kept (t':=tk) fun b o e=>Heap.get?_push_of_some _ e,Xl _ lo (hi - lo).toNat,?_,fun b hb=>?_,q⟩
 ·have e1:lo+((0:Nat):Int) * 1=lo:=by simp
  have e2:(((hi - lo).toNat:Nat):Int) - ((0:Nat):Int)=Builtin.Range.rangeSize lo hi 1:=by rw [rangeSize_one];split<;>omega
  show IsRangeIter _ _ (lo+((0:Nat):Int) * 1) ((((hi - lo).toNat:Nat):Int) - ((0:Nat):Int)) 1
  rw [e1,e2]
  exact Heap.get?_push_size _ rfl
 ·have e:b=(s.heap.push { cls:=.type "range",data:=.fields #[.int lo t,.int hi u,.int 1 v] }).objs.size:=by simpa using hb
  subst e
  exact I1.fpOk (Nat.le_refl _) (I1.hok.fresh (Nat.le_refl _))
noncomputable def zdD (ta:TA):TI:=fun σ H R=>ta σ H fun vs H1=>∃ j:Int,vs=[.int j]/\-(2 ^ 62)<=j/\j<2 ^ 62/\R (Itr 0 j.toNat) H1
noncomputable def zdE (ta:TA):TI:=fun σ H R=>ta σ H fun vs H1=>∃ i j:Int,vs=[.int i,.int j]/\(-(2 ^ 62)<=i/\i<2 ^ 62/\-(2 ^ 62)<=j/\j<2 ^ 62)/\R (Itr i (j - i).toNat) H1
theorem YA {a:Expr}{ta:TA}{p pos:Pos}(hg:Gl X "range")(hm:X.mg "range" = none)(ha:PA X [a] ta)(hs:starEach [a] X.env=[(false,eval a X.env)]:=by rfl):PI X tg (.Call (.Name "range" p) [a] [] pos) (zdD ta):=by
 intro pins s σ H R I h
 refine Call_ (wg I hg hm boot_range (PyProof.Rows.callWith_type1 (thn (ha pos pins s σ H _ I h) fun us s1 ⟨vs,H1,I1,r1,q1⟩=>?_) hs rfl))
 obtain⟨j,e,q1,q2,q⟩:=q1
 subst e
 cases r1 with
 | cons r rr=>
  cases rr
  obtain⟨t,rfl⟩:=r
  exact call_range_1 (J6 I1 (by omega) (by omega) q1 q2 (by simpa using q))
theorem YB {a b:Expr}{ta:TA}{p pos:Pos}(hg:Gl X "range")(hm:X.mg "range" = none)(ha:PA X [a,b] ta)(hs:starEach [a,b] X.env=[(false,eval a X.env),(false,eval b X.env)]:=by rfl) (hs2:starEach [b] X.env=[(false,eval b X.env)]:=by rfl) :
  PI X tg (.Call (.Name "range" p) [a,b] [] pos) (zdE ta):=by
 intro pins s σ H R I h
 refine Call_ (wg I hg hm boot_range (PyProof.Rows.callWith_type1 (thn (ha pos pins s σ H _ I h) fun us s1 ⟨vs,H1,I1,r1,q1⟩=>?_) (by rw [hs,hs2]) (by rw [hs2];rfl)))
 obtain⟨i,j,e,⟨q1,q2,q3,q4⟩,q⟩:=q1
 subst e
 cases r1 with
 | cons r rr=>
  cases rr with
  | cons r' rr=>
   cases rr
   obtain⟨t,rfl⟩:=r
   obtain⟨t',rfl⟩:=r'
   exact call_range_2 (J6 I1 q1 q2 q3 q4 q)
noncomputable def tFor (wi:TI)(g:TG)(tb:TS):TS:=fun D σ H=>wi σ H fun J H1=>∃ W:Nat->Nat->St->Hp->Prop,(∃ m,W 0 m σ H1)/\∀ i m σ H,W i m σ H ->
 (J.stop i H/\D.nx σ H)\/(J.go i H/\∃ N:St->Hp->Prop,(∀ σ' H',N σ' H'->∃ m',m' < m/\W (i+1) m' σ' H')/\∀ x H',J.yld i H x H'->g x σ H' fun σ2 H2=>tb { D with nx:=N,ct:=N,bk:=D.nx } σ2 H2)
noncomputable def yQ (fp:List Addr)(h:Heap):List (Addr×Obj):=fp.filterMap fun b=>(h.get? b).map fun o=>(b,o)
theorem wN {fp:List Addr}{h:Heap}{b:Addr}{o:Obj}(hb:b∈fp)(e:h.get? b=some o):(b,o)∈yQ fp h:=List.mem_filterMap.mpr ⟨b,hb,by rw [e];rfl⟩
theorem YC {fp:List Addr}{h:Heap}{p:Addr×Obj}(hp:p∈yQ fp h):p.1∈fp/\h.get? p.1=some p.2:=by
 obtain⟨b,hb,e⟩:=List.mem_filterMap.mp hp
 cases q:h.get? b with
 | none=>rw [q] at e;cases e
 | some o=>
  rw [q] at e
  have e':(b,o)=p:=Option.some.inj e
  subst e'
  exact⟨hb,q⟩
theorem Inv.pinned {pins:List (Addr×Obj)}{σ:St}{H:Hp}{s:Shared}{fp:List Addr}(I:Inv X pins σ H s)(hf:∀ b∈fp,FpOk X pins H b)(ho:∀ b∈fp,∃ o,s.heap.get? b=some o/\∀ v,o.data≠.cell v):Inv X (pins++yQ fp s.heap) σ H s:=
 I.pins_of fun p hp=>(List.mem_append.mp hp).elim (fun z=>I.pin p (List.mem_append_right _ z)) fun z=>by
  obtain⟨hb,e⟩:=YC z
  obtain⟨f0,f1,f2,_⟩:=hf p.1 hb
  obtain⟨o,e',d⟩:=ho p.1 hb
  rw [e] at e';cases e'
  exact⟨e,f0,f1,f2,d⟩
theorem Inv.unpinned {pins pl:List (Addr×Obj)}{σ:St}{H:Hp}{s:Shared}(I:Inv X (pins++pl) σ H s):Inv X pins σ H s:=I.pins_of fun p hp=>I.pin p (List.mem_append_right _ (List.mem_append_left _ hp))
theorem Xm {iter:Expr}{body:List Stmt}{wi:TI}{g:TG}{tb:TS}{pos:Pos}(hp:PassesOwn (model X.prog X.w) X.A X.env X.xe)(hc:X.calm=true)(hi:PI X tg iter wi)(hg:PG X tg g)(hb:PSs X body tb)
  (hs:∀ x,foldedSetIterable iter X.env x=pure x:=by intro _;rfl):PS X (.For tg iter body [] pos) (tFor wi g tb):=by
 intro pins s σ H D I h
 refine wpAny_For (thn (hi pins s σ H _ I h) fun v s1 h1=>thn h1 fun itv s2 h2=>?_) hs
 obtain⟨it,fp,tn,J,H2,e,I2,T,st2,f2,W,⟨m0,w0⟩,turn⟩:=h2
 subst e
 have stat:∀ {H':Hp},(∀ b∈fp,H' b=none)->∀ b∈fp,FpOk X pins H' b:=fun hn b hb=>⟨hn b hb,(f2 b hb).2⟩
 refine codeAny_forLoop_any (fun n s'=>∃ i σ' H',Inv X pins σ' H' s'/\tn i s'.heap/\(∀ b∈fp,H' b=none)/\W i n σ' H') ?_ m0 ⟨0,σ,H2,I2,st2,fun b hb=>(f2 b hb).1,w0⟩
 rintro n s3 ⟨i,σ3,H3,I3,st3,fr3,w3⟩
 rcases turn i n σ3 H3 w3 with⟨stop,qn⟩ | ⟨go,N,hN,step⟩
 ·refine wpAny_passesOwn hp (thn (T.done X rfl rfl rfl hc i pins s3 σ3 H3 X.xe I3 (stat fr3) st3 stop) fun r s4 ⟨hr,I4⟩=>?_)
  subst hr
  exact wpAny_execs_nil ⟨σ3,H3,I4,qn⟩
 ·refine wpAny_passesOwn hp (thn (T.item X rfl rfl rfl hc i pins s3 σ3 H3 X.xe I3 (stat fr3) st3 go) fun r s4 ⟨u,hr,h4⟩=>?_)
  subst hr
  refine wpAny_passesOwn hp (thn h4 fun _ s5 ⟨x,H5,I5,r5,y5,st5,fr5⟩=>?_)
  have I5':=I5.pinned (stat fr5) (T.obj _ _ st5)
  refine wpAny_passesOwn hp (thn (hg _ s5 σ3 H5 x u _ I5' r5 (step x H5 y5)) fun _ s6 ⟨σ6,H6,I6,q6⟩=>?_)
  refine wpAny_passesOwn hp (thn (hb _ s6 σ6 H6 _ I6 q6) fun f s7 q7=>?_)
  have again:∀ {σ7:St} {H7:Hp},Inv X (pins++yQ fp s5.heap) σ7 H7 s7->N σ7 H7->∃ m,m<n/\∃ i σ' H',Inv X pins σ' H' s7/\tn i s7.heap/\(∀ b∈fp,H' b=none)/\W i m σ' H':=fun {σ7 H7} I7 n7=>by
   obtain⟨m',hm,w7⟩:=hN σ7 H7 n7
   refine⟨m',hm,i+1,σ7,H7,I7.unpinned,T.keep _ _ _ st5 fun b hb o e=>(I7.pin (b,o) (List.mem_append_right _ (List.mem_append_right _ (wN hb e)))).1,fun b hb=>?_,w7⟩
   obtain⟨o,e,d⟩:=T.obj _ _ st5 b hb
   exact(I7.pin (b,o) (List.mem_append_right _ (List.mem_append_right _ (wN hb e)))).2.1
  cases f with
  | next=>obtain⟨σ7,H7,I7,n7⟩:=q7;exact again I7 n7
  | cont=>obtain⟨σ7,H7,I7,n7⟩:=q7;exact again I7 n7
  | brk=>obtain⟨σ7,H7,I7,q7⟩:=q7;exact⟨σ7,H7,I7.unpinned,q7⟩
  | ret v=>obtain⟨x7,σ7,H7,I7,r7,q7⟩:=q7;exact⟨x7,σ7,H7,I7.unpinned,r7,q7⟩
end
end L2
namespace L2
open PySem PySem.Spec PyProof.Rows
noncomputable abbrev R2:=V->V->Hp->VK->Prop
def OpR (X:Cx)(f:Value->Value->Sem Value)(r:R2):Prop:=
 ∀ (pins:List (Addr×Obj)) (s:Shared) (σ:St) (H:Hp) (x y:V) (v u:Value) (Q:VK),Inv X pins σ H s->RelV x v->RelV y u->r x y H Q ->
  wpAny (model X.prog X.w) X.A (f v u) (EP X pins σ Q) X.xe s
def UnR (X:Cx)(f:Value->Sem Value)(r:V->Hp->VK->Prop):Prop:=
 ∀ (pins:List (Addr×Obj)) (s:Shared) (σ:St) (H:Hp) (x:V) (v:Value) (Q:VK),Inv X pins σ H s->RelV x v->r x H Q ->
  wpAny (model X.prog X.w) X.A (f v) (EP X pins σ Q) X.xe s
def qc (X:Cx)(f:Value)(r:List V->Hp->VK->Prop):Prop:=
 ∀ (pins:List (Addr×Obj)) (s:Shared) (σ:St) (H:Hp) (xs:List V) (us:List Value) (Q:VK),Inv X pins σ H s->Vals xs us->r xs H Q ->
  wpAny (model X.prog X.w) X.A (call f us) (EP X pins σ Q) X.xe s
def TruR (X:Cx)(r:V->Hp->(Bool->Hp->Prop)->Prop):Prop:=
 ∀ (pins:List (Addr×Obj)) (s:Shared) (σ:St) (H:Hp) (x:V) (v:Value) (Q:Bool->Hp->Prop),Inv X pins σ H s->RelV x v->r x H Q ->
  wpAny (model X.prog X.w) X.A (truthy v) (TP X pins σ Q) X.xe s
noncomputable def tOp (r:R2)(ta tb:TE):TE:=fun σ H Q=>ta σ H fun x H1=>tb σ H1 fun y H2=>r x y H2 Q
noncomputable def tUn (r:V->Hp->VK->Prop)(ta:TE):TE:=fun σ H Q=>ta σ H fun x H1=>r x H1 Q
noncomputable def rI (C:Int->Int->Prop)(g:Int->Int->V):R2:=fun x y H Q=>∃ i j,x=.int i/\y=.int j/\C i j/\Q (g i j) H
noncomputable def rI0 (g:Int->Int->V):R2:=fun x y H Q=>∃ i j,x=.int i/\y=.int j/\Q (g i j) H
noncomputable def rU (g:Int->V):V->Hp->VK->Prop:=fun x H Q=>∃ i,x=.int i/\Q (g i) H
section
variable {X:Cx} {a b c:Expr} {ta tb tc:TE} {pos:Pos}
theorem binT (ha:PE X a ta)(hb:PE X b tb){pins:List (Addr×Obj)}{s:Shared}{σ:St}{H:Hp}{R:V->V->Hp->Prop}(I:Inv X pins σ H s)
  (h:ta σ H fun x H1=>tb σ H1 fun y H2=>R x y H2) {Q:Value->Shared->Prop} {f:Value->Value->Sem Value}
  (hf:∀ v u s2 x y H2,Inv X pins σ H2 s2->RelV x v->RelV y u->R x y H2->wpAny (model X.prog X.w) X.A (f v u) Q X.xe s2) :
  wpAny (model X.prog X.w) X.A (eval a X.env) (fun v s₁=>wpAny (model X.prog X.w) X.A (eval b X.env) (fun u s₂=>wpAny (model X.prog X.w) X.A (f v u) Q X.xe s₂) X.xe s₁) X.xe s:=by
 refine thn (ha pins s σ H _ I h) fun v s1 ⟨x,H1,I1,r1,q1⟩=>?_
 refine thn (hb pins s1 σ H1 _ I1 q1) fun u s2 ⟨y,H2,I2,r2,q2⟩=>?_
 exact hf v u s2 x y H2 I2 r1 r2 q2
theorem zgv {op:Operator}{r:R2}(ho:OpR X (binaryOp op) r)(ha:PE X a ta)(hb:PE X b tb):PE X (.BinOp a op b pos) (tOp r ta tb):=by
 intro pins s σ H Q I h
 exact wpAny_BinOp (binT ha hb I h fun v u s2 x y H2 I2 rx ry q=>ho pins s2 σ H2 x y v u Q I2 rx ry q)
theorem zgw {op:UnaryOp}{r:V->Hp->VK->Prop}(ho:UnR X (unaryOp op) r)(ha:PE X a ta):PE X (.UnaryOp op a pos) (tUn r ta):=by
 intro pins s σ H Q I h
 exact UnaryOp_ (thn (ha pins s σ H _ I h) fun v s1 ⟨x,H1,I1,r1,q1⟩=>ho pins s1 σ H1 x v Q I1 r1 q1)
theorem opI {f:Value->Value->Sem Value}{C:Int->Int->Prop}{g:Int->Int->Int}
  (rule:∀ (i j:Int) (t u:Tok) (s:Shared) (Q:Value->Shared->Prop) (E:Value->Shared->Prop),C i j->Q (.int (g i j) s.toks) { s with toks:=s.toks+1 }->wpAny (model X.prog X.w) X.A (f (.int i t) (.int j u)) Q E s) :
  OpR X f (rI C fun i j=>.int (g i j)):=by
 intro pins s σ H x y v u Q I rx ry h
 obtain⟨i,j,rfl,rfl,hc,q⟩:=h
 obtain⟨t,rfl⟩:=rx
 obtain⟨t',rfl⟩:=ry
 exact rule i j t t' s _ _ hc ⟨.int (g i j),H,I.tok _,⟨_,rfl⟩,q⟩
theorem opI0 {f:Value->Value->Sem Value}{g:Int->Int->Int}
  (rule:∀ (i j:Int) (t u:Tok) (s:Shared) (Q:Value->Shared->Prop) (E:Value->Shared->Prop),Q (.int (g i j) s.toks) { s with toks:=s.toks+1 }->wpAny (model X.prog X.w) X.A (f (.int i t) (.int j u)) Q E s) :
  OpR X f (rI0 fun i j=>.int (g i j)):=by
 intro pins s σ H x y v u Q I rx ry h
 obtain⟨i,j,rfl,rfl,q⟩:=h
 obtain⟨t,rfl⟩:=rx
 obtain⟨t',rfl⟩:=ry
 exact rule i j t t' s _ _ ⟨.int (g i j),H,I.tok _,⟨_,rfl⟩,q⟩
theorem opB0 {f:Value->Value->Sem Value}{g:Int->Int->Bool}
  (rule:∀ (i j:Int) (t u:Tok) (s:Shared) (Q:Value->Shared->Prop) (E:Value->Shared->Prop),Q (.bool (g i j)) s->wpAny (model X.prog X.w) X.A (f (.int i t) (.int j u)) Q E s) :
  OpR X f (rI0 fun i j=>.bl (g i j)):=by
 intro pins s σ H x y v u Q I rx ry h
 obtain⟨i,j,rfl,rfl,q⟩:=h
 obtain⟨t,rfl⟩:=rx
 obtain⟨t',rfl⟩:=ry
 exact rule i j t t' s _ _ ⟨.bl (g i j),H,I,rfl,q⟩
def CDiv (i j:Int):Prop:=0<j/\j<1073741824
def CPow (i j:Int):Prop:=0<=j/\j<=1000000/\i.natAbs<2 ^ 64
def CMul (i j:Int):Prop:=(-(2 ^ 64)<i/\i<2 ^ 64)\/(-(2 ^ 64)<j/\j<2 ^ 64)
theorem CMul.ok {i j:Int}(h:CMul i j):IntMulOk i j:=by
 rcases h with⟨h1,h2⟩ | ⟨h1,h2⟩
 ·exact .of_left (intBits_le_64 h1 h2)
 ·exact .of_right (intBits_le_64 h1 h2)
theorem Xn (k:Nat):(0:Int)<=2 ^ k:=by
 rw [two_pow_cast]
 exact Int.natCast_nonneg _
theorem zeY:OpR X (binaryOp .Add) (rI0 fun i j=>.int (i+j)):=opI0 fun _ _ _ _ _ _ _ q=>add_int q
theorem zeZ:OpR X (binaryOp .Sub) (rI0 fun i j=>.int (i - j)):=opI0 fun _ _ _ _ _ _ _ q=>sub_int q
theorem zcd:OpR X (binaryOp .FloorDiv) (rI CDiv fun i j=>.int (i / j)):=opI fun i j _ _ _ _ _ hc q=>by
 have h1:(0:Int)<j:=hc.1
 have h2:j<1073741824:=hc.2
 exact floordiv_int (by omega) (by rw [Int.fdiv_eq_ediv_of_nonneg i (by omega)];exact q) (.inl (PyProof.noPylong_small (by omega)))
theorem ze0:OpR X (binaryOp .Mod) (rI (fun _ j=>0<j) fun i j=>.int (i % j)):=opI fun i j _ _ _ _ _ hc q=>by
 have h1:(0:Int)<j:=hc
 exact mod_int' (by omega) (by rw [Int.fmod_eq_emod_of_nonneg i (by omega)];exact q)
theorem ze1:OpR X (binaryOp .Pow) (rI CPow fun i j=>.int (i ^ j.toNat)):=opI fun _ _ _ _ _ _ _ hc q=>pow_int_small hc.1 hc.2.1 hc.2.2 q
theorem ze2:OpR X (binaryOp .RShift) (rI (fun _ j=>0<=j) fun i j=>.int (i / 2 ^ j.toNat)):=opI fun i j _ _ _ _ _ hc q=>
 rshift_int hc (by rw [Int.fdiv_eq_ediv_of_nonneg i (Xn _)];exact q)
theorem unI {f:Value->Sem Value}{g:Int->Int}
  (rule:∀ (i:Int) (t:Tok) (s:Shared) (Q:Value->Shared->Prop) (E:Value->Shared->Prop),Q (.int (g i) s.toks) { s with toks:=s.toks+1 }->wpAny (model X.prog X.w) X.A (f (.int i t)) Q E s) :
  UnR X f (rU fun i=>.int (g i)):=by
 intro pins s σ H x v Q I rx h
 obtain⟨i,rfl,q⟩:=h
 obtain⟨t,rfl⟩:=rx
 exact rule i t s _ _ ⟨.int (g i),H,I.tok _,⟨_,rfl⟩,q⟩
theorem ze3:UnR X (unaryOp .USub) (rU fun i=>.int (-i)):=unI fun _ _ _ _ _ q=>neg_int q
end
noncomputable def scal:V->V->Bool
 | .non,.non=>true | .non,.int _=>true | .int _,.non=>true | .non,.bl _=>true | .bl _,.non=>true | .non,.str _=>true | .str _,.non=>true
 | .int _,.int _=>true | .bl _,.bl _=>true | .str _,.str _=>true | .byt _,.byt _=>true
 | .int _,.str _=>true | .str _,.int _=>true | .bl _,.str _=>true | .str _,.bl _=>true
 | _,_=>false
noncomputable def rEq:R2:=fun x y H Q=>scal x y=true/\Q (.bl (decide (x=y))) H
noncomputable def rNe:R2:=fun x y H Q=>scal x y=true/\Q (.bl (!decide (x=y))) H
theorem Vo {i j:Int}:decide (V.int i=V.int j)=(i == j):=by
 rw [Bool.eq_iff_iff]
 simp
theorem KD {i j:Bool}:decide (V.bl i=V.bl j)=(i == j):=by
 rw [Bool.eq_iff_iff]
 simp
theorem Vp {i j:Str}:decide (V.str i=V.str j)=(i == j):=by
 rw [Bool.eq_iff_iff]
 simp
theorem Vq {i j:Array UInt8}:decide (V.byt i=V.byt j)=(i.toList == j.toList):=by
 rw [Bool.eq_iff_iff]
 cases i
 cases j
 simp
section
variable {X:Cx} {a b c:Expr} {ta tb tc:TE} {pos:Pos}
theorem zy {pins:List (Addr×Obj)}{σ:St}{H:Hp}{s:Shared}{Q:VK}{k k':Bool}(I:Inv X pins σ H s)(q:Q (.bl k) H)(e:k=k'):EP X pins σ Q (.bool k') s:=by
 subst e
 exact⟨.bl k,H,I,rfl,q⟩
theorem zgx:OpR X (compareOp .Eq) rEq:=by
 intro pins s σ H x y v u Q I rx ry h
 obtain⟨hs,q⟩:=h
 cases x with
 | non=>
  cases rx
  cases y with
  | non=>cases ry;exact PySem.EqNone.eq_none_none (zy I q (by simp))
  | bl j=>cases ry;exact PySem.EqNone.eq_none_bool (zy I q (by simp))
  | int j=>obtain⟨t',rfl⟩:=ry;exact PySem.EqNone.eq_none_int (zy I q (by simp))
  | str j=>obtain⟨t',rfl⟩:=ry;exact PySem.EqNone.eq_none_str (zy I q (by simp))
  | _=>exact absurd (show false=true from hs) Bool.false_ne_true
 | bl i=>
  cases rx
  cases y with
  | non=>cases ry;exact PySem.EqNone.eq_bool_none (zy I q (by simp))
  | bl j=>cases ry;exact eq_bool (zy I q KD)
  | str j=>obtain⟨t',rfl⟩:=ry;exact PySem.EqMixed.eq_bool_str (zy I q (by simp))
  | _=>exact absurd (show false=true from hs) Bool.false_ne_true
 | int i=>
  obtain⟨t,rfl⟩:=rx
  cases y with
  | non=>cases ry;exact PySem.EqNone.eq_int_none (zy I q (by simp))
  | int j=>obtain⟨t',rfl⟩:=ry;exact eq_int (zy I q Vo)
  | str j=>obtain⟨t',rfl⟩:=ry;exact PySem.EqMixed.eq_int_str (zy I q (by simp))
  | _=>exact absurd (show false=true from hs) Bool.false_ne_true
 | str i=>
  obtain⟨t,rfl⟩:=rx
  cases y with
  | non=>cases ry;exact PySem.EqNone.eq_str_none (zy I q (by simp))
  | bl j=>cases ry;exact PySem.EqMixed.eq_str_bool (zy I q (by simp))
  | int j=>obtain⟨t',rfl⟩:=ry;exact PySem.EqMixed.eq_str_int (zy I q (by simp))
  | str j=>obtain⟨t',rfl⟩:=ry;exact eq_str (zy I q Vp)
  | _=>exact absurd (show false=true from hs) Bool.false_ne_true
 | byt i=>
  obtain⟨t,rfl⟩:=rx
  cases y with
  | byt j=>obtain⟨t',rfl⟩:=ry;exact PySem.W.eq_bytes (zy I q Vq)
  | _=>exact absurd (show false=true from hs) Bool.false_ne_true
 | _=>cases y<;>exact absurd (show false=true from hs) Bool.false_ne_true
theorem zgy:OpR X (compareOp .NotEq) rNe:=by
 intro pins s σ H x y v u Q I rx ry h
 obtain⟨hs,q⟩:=h
 cases x with
 | non=>
  cases rx
  cases y with
  | non=>cases ry;exact PySem.EqNone.ne_none_none (zy I q (by simp))
  | bl j=>cases ry;exact PySem.EqNone.ne_none_bool (zy I q (by simp))
  | int j=>obtain⟨t',rfl⟩:=ry;exact PySem.EqNone.ne_none_int (zy I q (by simp))
  | str j=>obtain⟨t',rfl⟩:=ry;exact PySem.EqNone.ne_none_str (zy I q (by simp))
  | _=>exact absurd (show false=true from hs) Bool.false_ne_true
 | bl i=>
  cases rx
  cases y with
  | non=>cases ry;exact PySem.EqNone.ne_bool_none (zy I q (by simp))
  | bl j=>cases ry;exact ne_bool (zy I q (congrArg not KD))
  | str j=>obtain⟨t',rfl⟩:=ry;exact PySem.EqMixed.ne_bool_str (zy I q (by simp))
  | _=>exact absurd (show false=true from hs) Bool.false_ne_true
 | int i=>
  obtain⟨t,rfl⟩:=rx
  cases y with
  | non=>cases ry;exact PySem.EqNone.ne_int_none (zy I q (by simp))
  | int j=>obtain⟨t',rfl⟩:=ry;exact ne_int (zy I q (congrArg not Vo))
  | str j=>obtain⟨t',rfl⟩:=ry;exact PySem.EqMixed.ne_int_str (zy I q (by simp))
  | _=>exact absurd (show false=true from hs) Bool.false_ne_true
 | str i=>
  obtain⟨t,rfl⟩:=rx
  cases y with
  | non=>cases ry;exact PySem.EqNone.ne_str_none (zy I q (by simp))
  | bl j=>cases ry;exact PySem.EqMixed.ne_str_bool (zy I q (by simp))
  | int j=>obtain⟨t',rfl⟩:=ry;exact PySem.EqMixed.ne_str_int (zy I q (by simp))
  | str j=>obtain⟨t',rfl⟩:=ry;exact ne_str (zy I q (congrArg not Vp))
  | _=>exact absurd (show false=true from hs) Bool.false_ne_true
 | byt i=>
  obtain⟨t,rfl⟩:=rx
  cases y with
  | byt j=>obtain⟨t',rfl⟩:=ry;exact PySem.W.ne_bytes (zy I q (congrArg not Vq))
  | _=>exact absurd (show false=true from hs) Bool.false_ne_true
 | _=>cases y<;>exact absurd (show false=true from hs) Bool.false_ne_true
theorem zgz:OpR X (compareOp .Lt) (rI0 fun i j=>.bl (decide (i<j))):=opB0 fun _ _ _ _ _ _ _ q=>lt_int q
theorem zgA:OpR X (compareOp .LtE) (rI0 fun i j=>.bl (decide (i<=j))):=opB0 fun _ _ _ _ _ _ _ q=>le_int q
theorem zgB:OpR X (compareOp .Gt) (rI0 fun i j=>.bl (decide (j<i))):=opB0 fun _ _ _ _ _ _ _ q=>gt_int q
theorem zgC:OpR X (compareOp .GtE) (rI0 fun i j=>.bl (decide (j<=i))):=opB0 fun _ _ _ _ _ _ _ q=>ge_int q
theorem YD:OpR X (compareOp .In) (fun x y H Q=>∃ i j,x=.str i/\y=.str j/\Q (.bl (!(Builtin.Str.occurrences j i 0 j.length 1).isEmpty)) H):=by
 intro pins s σ H x y v u Q I rx ry h
 obtain⟨i,j,rfl,rfl,q⟩:=h
 obtain⟨t,rfl⟩:=rx
 obtain⟨t',rfl⟩:=ry
 exact in_str (zy I q rfl)
theorem ze4:OpR X (compareOp .Is) (fun x y H Q=>y=.non/\Q (.bl (decide (x=.non))) H):=by
 intro pins s σ H x y v u Q I rx ry h
 obtain⟨rfl,q⟩:=h
 cases ry
 refine is_none_gen (zy I q ?_)
 cases x<;>first
  | (cases rx;rfl)
  | (obtain⟨t,rfl⟩:=rx;rfl)
theorem zce:OpR X (compareOp .IsNot) (fun x y H Q=>y=.non/\Q (.bl (!decide (x=.non))) H):=by
 intro pins s σ H x y v u Q I rx ry h
 obtain⟨rfl,q⟩:=h
 cases ry
 refine isnot_none_gen (zy I q ?_)
 cases x<;>first
  | (cases rx;rfl)
  | (obtain⟨t,rfl⟩:=rx;rfl)
theorem Q7:OpR X (compareOp .NotIn) (fun x y H Q=>∃ i j,x=.str i/\y=.str j/\Q (.bl (!(!(Builtin.Str.occurrences j i 0 j.length 1).isEmpty))) H):=by
 intro pins s σ H x y v u Q I rx ry h
 obtain⟨i,j,rfl,rfl,q⟩:=h
 obtain⟨t,rfl⟩:=rx
 obtain⟨t',rfl⟩:=ry
 exact notIn_str (zy I q rfl)
theorem OpR.or {f:Value->Value->Sem Value}{r r':R2}(h:OpR X f r)(h':OpR X f r'):OpR X f (fun x y H Q=>r x y H Q\/r' x y H Q):=by
 intro pins s σ H x y v u Q I rx ry q
 rcases q with q | q
 ·exact h pins s σ H x y v u Q I rx ry q
 ·exact h' pins s σ H x y v u Q I rx ry q
theorem zcf {op:CmpOp}{r:R2}(ho:OpR X (compareOp op) r)(ha:PE X a ta)(hb:PE X b tb)(hm:behindInMarks op b=false):PE X (.Compare a [op] [b] pos) (tOp r ta tb):=by
 intro pins s σ H Q I h
 exact wpAny_Compare1 (binT ha hb I h fun v u s2 x y H2 I2 rx ry q=>ho pins s2 σ H2 x y v u Q I2 rx ry q) hm
noncomputable def KG (t:TE):TT:=fun σ H Q=>t σ H fun x H'=>∃ k,x=.bl k/\Q k H'
theorem zcg {op:CmpOp}{r:R2}(ho:OpR X (compareOp op) r)(ha:PE X a ta)(hb:PE X b tb)(hm:behindInMarks op b=false):PT X (.Compare a [op] [b] pos) (KG (tOp r ta tb)):=by
 intro pins s σ H Q I h
 refine wpAny_isTrue_Compare1 (thn (ha pins s σ H _ I h) fun v s1 ⟨x,H1,I1,r1,q1⟩=>thn (hb pins s1 σ H1 _ I1 q1) fun u s2 ⟨y,H2,I2,r2,q2⟩=>
  thn (ho pins s2 σ H2 x y v u _ I2 r1 r2 q2) fun c s3 ⟨z,H3,I3,r3,k,e,q3⟩=>?_) hm
 subst e
 cases r3
 exact wpAny_truthy_bool ⟨H3,I3,q3⟩
noncomputable def Xo (r r':R2)(ta tb tc:TE):TE:=fun σ H Q=>ta σ H fun x H1=>tb σ H1 fun y H2=>r x y H2 fun z H3=>∃ k,z=.bl k /\
 (if k=true then tc σ H3 fun w' H4=>r' y w' H4 Q else Q (.bl false) H3)
theorem KI {op op':CmpOp}{r r':R2}(ho:OpR X (compareOp op) r)(ho':OpR X (compareOp op') r')(ha:PE X a ta)(hb:PE X b tb)(hc:PE X c tc)
  (hm:lastMarks [op,op'] [b,c]=false:=by with_unfolding_all rfl):PE X (.Compare a [op,op'] [b,c] pos) (Xo r r' ta tb tc):=by
 intro pins s σ H Q I h
 refine Compare_chain (thn (ha pins s σ H _ I h) fun v s1 ⟨x,H1,I1,r1,q1⟩=>chain_link (thn (hb pins s1 σ H1 _ I1 q1) fun u s2 ⟨y,H2,I2,r2,q2⟩=>
  thn (ho pins s2 σ H2 x y v u _ I2 r1 r2 q2) fun d s3 ⟨z,H3,I3,r3,k,e,q3⟩=>?_)) hm
 subst e
 cases r3
 refine wpAny_truthy_bool ?_
 cases k with
 | false=>exact ite_ff ⟨.bl false,H3,I3,rfl,q3⟩
 | true=>exact ite_tt (chain_last (thn (hc pins s3 σ H3 _ I3 q3) fun w' s4 ⟨z',H4,I4,r4,q4⟩=>ho' pins s4 σ H4 y z' u w' Q I4 r2 r4 q4))
theorem KJ {op op':CmpOp}{r r':R2}(ho:OpR X (compareOp op) r)(ho':OpR X (compareOp op') r')(ha:PE X a ta)(hb:PE X b tb)(hc:PE X c tc)
  (hm:lastMarks [op,op'] [b,c]=false:=by with_unfolding_all rfl):PT X (.Compare a [op,op'] [b,c] pos) (KG (Xo r r' ta tb tc)):=by
 intro pins s σ H Q I h
 refine isTrue_chain (thn (ha pins s σ H _ I h) fun v s1 ⟨x,H1,I1,r1,q1⟩=>test_link (thn (hb pins s1 σ H1 _ I1 q1) fun u s2 ⟨y,H2,I2,r2,q2⟩=>
  thn (ho pins s2 σ H2 x y v u _ I2 r1 r2 q2) fun d s3 ⟨z,H3,I3,r3,k,e,q3⟩=>?_)) hm
 subst e
 cases r3
 refine wpAny_truthy_bool ?_
 cases k with
 | false=>
  obtain⟨k',e',q'⟩:=q3
  cases e'
  exact ite_ff ⟨H3,I3,q'⟩
 | true=>
  refine ite_tt (test_last (thn (hc pins s3 σ H3 _ I3 q3) fun w' s4 ⟨z',H4,I4,r4,q4⟩=>thn (ho' pins s4 σ H4 y z' u w' _ I4 r2 r4 q4) fun d' s5 ⟨z2,H5,I5,r5,k2,e2,q5⟩=>?_))
  subst e2
  cases r5
  exact wpAny_truthy_bool ⟨H5,I5,q5⟩
def TruV (K:PySem.W.Frag)(x:V)(H:Hp)(k:Bool):Prop:=
 match x with
 | .non=>k=false
 | .bl b=>k=b
 | .int i=>k=(i != 0)
 | .str y=>y.length<=sizeLine/\k=((y.length:Int) != 0)
 | .byt y=>y.size<=sizeLine/\k=((y.size:Int) != 0)
 | .ref p=>(∃ xs,SqL K H p xs/\k = !xs.isEmpty)\/(∃ xs,SqT K H p xs/\k = !xs.isEmpty)\/∃ kvs,H p=some (.dK kvs)/\k = !kvs.isEmpty
 | _=>False
theorem Xq {κ:Type}{kvs:List (κ×V)}{vs:List (κ×Value)}(r:KV kvs vs):(!vs.isEmpty) = !kvs.isEmpty:=by
 cases r<;>rfl
theorem Zi {xs:List V}{its:List Value}(r:Vals xs its):(!its.toArray.isEmpty) = !xs.isEmpty:=by
 cases r<;>simp
theorem vX:(sizeLine:Nat)<2 ^ 63:=by rw [sizeLine_eq];decide
theorem ze5:TruR X (fun x H Q=>∃ k,TruV X.K x H k/\Q k H):=by
 intro pins s σ H x v Q I rx h
 obtain⟨k,e,q⟩:=h
 have hl:=vX
 have hs:sizeLine=16777216:=sizeLine_eq
 cases x with
 | non=>
  cases rx
  have e':k=false:=e
  subst e'
  exact truthy_none ⟨H,I,q⟩
 | bl b=>
  cases rx
  have e':k=b:=e
  subst e'
  exact wpAny_truthy_bool ⟨H,I,q⟩
 | int i=>
  obtain⟨t,rfl⟩:=rx
  have e':k=(i != 0):=e
  subst e'
  exact PySem.P.truthy_int ⟨H,I,q⟩
 | str y=>
  obtain⟨t,rfl⟩:=rx
  obtain⟨hy,e'⟩:y.length<=sizeLine/\k=((y.length:Int) != 0):=e
  subst e'
  exact PySem.P.truthy_str (by omega) ⟨H,I.tok _,q⟩
 | byt y=>
  obtain⟨t,rfl⟩:=rx
  obtain⟨hy,e'⟩:y.size<=sizeLine/\k=((y.size:Int) != 0):=e
  subst e'
  exact PySem.W.truthy_bytes (by omega) ⟨H,I.tok _,q⟩
 | ref p=>
  cases rx
  have e':(∃ xs,SqL X.K H p xs/\k = !xs.isEmpty)\/(∃ xs,SqT X.K H p xs/\k = !xs.isEmpty)\/∃ kvs,H p=some (.dK kvs)/\k = !kvs.isEmpty:=e
  rcases e' with⟨xs,hx,e'⟩ | ⟨xs,hx,e'⟩ | ⟨kvs,hx,e'⟩
  ·subst e'
   obtain⟨its,r,pl,hz⟩:=I.list hx
   have hlen:=r.length
   exact wpAny_truthy_list pl.isList (by simp only [List.size_toArray];omega) ⟨H,I.tok _,by rw [Zi r];exact q⟩
  ·subst e'
   obtain⟨its,r,pl,hz⟩:=I.tuple hx
   have hlen:=r.length
   exact truthy_tuple pl (by simp only [List.size_toArray];omega) ⟨H,I.tok _,by rw [Zi r];exact q⟩
  ·subst e'
   obtain⟨hz,hS,vs,r,m⟩:kvs.length<=sizeLine/\(p == sysModules)=false/\∃ vs,KV kvs vs/\s.heap.DictOf (zT X.prog X.w) p vs:=I.hok p _ hx
   have hlen:kvs.length=vs.length:=Paired.length r
   exact wpAny_truthy_dict hS m (by omega) ⟨H,I.tok _,by rw [Xq r];exact q⟩
 | _=>exact(show False from e).elim
theorem KL (ha:PE X a ta)(he:∀ whole,isTrue a X.env whole=(do let v ← whole;standAt a.pos;holding [v] (truthy v))) :
  PT X a (fun σ H Q=>ta σ H fun x H'=>∃ k,TruV X.K x H' k/\Q k H'):=by
 intro pins s σ H Q I h
 exact isTrue_plain (thn (ha pins s σ H _ I h) fun v s1 ⟨x,H1,I1,r1,q1⟩=>ze5 pins s1 σ H1 x v Q I1 r1 q1) (he _)
theorem Xr:OpR X (binaryOp .Add) (fun x y H Q=>∃ i j,x=.str i/\y=.str j/\i.length+j.length<=sizeLine/\Q (.str (i++j)) H):=by
 intro pins s σ H x y v u Q I rx ry h
 obtain⟨i,j,rfl,rfl,hz,q⟩:=h
 obtain⟨t,rfl⟩:=rx
 obtain⟨t',rfl⟩:=ry
 exact add_str (fun t' tk=>⟨.str (i++j),H,I.tok _,⟨_,rfl⟩,q⟩) hz
theorem vals1 {x:V}{us:List Value}(r:Vals [x] us):∃ u,us=[u]/\RelV x u:=by
 cases r with
 | cons r1 r2=>cases r2;exact⟨_,rfl,r1⟩
theorem vals2 {x y:V}{us:List Value}(r:Vals [x,y] us):∃ u w',us=[u,w']/\RelV x u/\RelV y w':=by
 cases r with
 | cons r1 r2=>
  cases r2 with
  | cons r3 r4=>cases r4;exact⟨_,_,rfl,r1,r3⟩
theorem YE (hc:X.calm=true):qc X (.builtin "max") (fun xs H Q=>∃ i j,xs=[.int i,.int j]/\Q (.int (if j > i then j else i)) H):=by
 intro pins s σ H xs us Q I r h
 obtain⟨i,j,rfl,q⟩:=h
 obtain⟨u,w',rfl,⟨t,rfl⟩,⟨t',rfl⟩⟩:=vals2 r
 refine max_two_ints (I.ok.hd hc) fun h' tk k=>⟨_,H,I.kept k,?_,q⟩
 by_cases hj:j > i
 ·rw [if_pos hj,if_pos hj];exact⟨_,rfl⟩
 ·rw [if_neg hj,if_neg hj];exact⟨_,rfl⟩
theorem YF (hc:X.calm=true):qc X (.builtin "min") (fun xs H Q=>∃ i j,xs=[.int i,.int j]/\Q (.int (if j<i then j else i)) H):=by
 intro pins s σ H xs us Q I r h
 obtain⟨i,j,rfl,q⟩:=h
 obtain⟨u,w',rfl,⟨t,rfl⟩,⟨t',rfl⟩⟩:=vals2 r
 refine min_two_ints (I.ok.hd hc) fun h' tk k=>⟨_,H,I.kept k,?_,q⟩
 by_cases hj:j<i
 ·rw [if_pos hj,if_pos hj];exact⟨_,rfl⟩
 ·rw [if_neg hj,if_neg hj];exact⟨_,rfl⟩
theorem YG:qc X (.type "int") (fun xs H Q=>(∃ i,xs=[.int i]/\Q (.int i) H)\/∃ k,xs=[.bl k]/\Q (.int (if k then 1 else 0)) H):=by
 intro pins s σ H xs us Q I r h
 rcases h with⟨i,rfl,q⟩ | ⟨k,rfl,q⟩
 ·obtain⟨u,rfl,t,rfl⟩:=vals1 r
  exact call_int_int ⟨.int i,H,I,⟨_,rfl⟩,q⟩
 ·obtain⟨u,rfl,r1⟩:=vals1 r
  cases r1
  exact call_int_bool ⟨.int (if k then 1 else 0),H,I.tok _,⟨_,rfl⟩,q⟩
theorem Q8:qc X (.type "str") (fun xs H Q=>∃ i,xs=[.int i]/\i.natAbs.log2<1920/\Q (.str (toString i)) H):=by
 intro pins s σ H xs us Q I r h
 obtain⟨i,rfl,hz,q⟩:=h
 obtain⟨u,rfl,t,rfl⟩:=vals1 r
 exact PySem.P.str_of_int hz ⟨.str _,H,I.tok _,⟨_,rfl⟩,q⟩
end
end L2
namespace L2
open PySem PySem.Spec PyProof.Rows
structure ObjM (h:Heap)(x dx C:Addr)(mA:Str->Option Value):Prop where
 obj:h.get? x=some (PySem.W.instObj C dx)
 ns:h.Ns1 dx mA
 ne:dx≠x
theorem YH {h:Heap}{dx:Addr}{mA:Str->Option Value}(n:h.Ns1 dx mA):∃ od,h.get? dx=some od/\∀ name,PySem.W.lookIn name od=some (mA name):=by
 obtain⟨o,es,ep,ho,hd,hk,_,hm⟩:=n
 refine⟨o,ho,fun name=>?_⟩
 have e:=hm name
 unfold nsFind findBy at e
 rw [← Array.find?_toList] at e
 unfold PySem.W.lookIn
 rw [hd]
 dsimp only
 split
 ·rename_i y q
  rw [q] at e
  exact congrArg some e
 ·rename_i q
  rw [q] at e
  have a:es.toList.any (·.refKey)=false:=by
   rw [List.any_eq_false]
   intro y hy
   obtain⟨z,t,hkey⟩:=hk y (Array.mem_toList_iff.mp hy)
   simp [DictEntry.refKey,hkey]
  have a':¬ es.toList.any (·.refKey)=true:=by rw [a];exact Bool.false_ne_true
  rw [if_neg a']
  exact congrArg some e
theorem ObjM.look {h:Heap}{x dx C:Addr}{mA:Str->Option Value}(I:ObjM h x dx C mA):∃ od,PySem.W.InstAt h x (PySem.W.instObj C dx) C (some od)/\∀ name,PySem.W.lookIn name od=some (mA name):=
 let ⟨od,ho,hl⟩:=YH I.ns
 ⟨od,⟨I.obj,rfl,rfl,ho⟩,hl⟩
section
variable {prog:Program} {w:World} {A:Around} {E:Value->Shared->Prop} {s:Shared} {K:PySem.W.Frag} {x dx C f:Addr} {mA:Str->Option Value} {name:Str} {v:Value}
end
theorem RelO.some_of {v:V}{o:Option Value}(r:RelO (some v) o):∃ u,o=some u/\RelV v u:=by
 cases o with
 | none=>exact(show False from r).elim
 | some u=>exact⟨u,rfl,r⟩
section
variable {P:Program} {w:World} {H H':Hp} {h h':Heap} {a C dx:Addr} {fs fs':List (Str×V)}
theorem Vr (hok:HOk P w H h)(e:H a=some (.ins C dx fs)):∃ mA,ObjM h a dx C mA/\(∀ f,RelO (fs.lookup f) (mA f))/\PySem.Within mA (fs.map (·.1))/\fs.length<=1000/\H dx=some (.own a):=by
 obtain⟨d,z,ne,ob,mA,n,r,q⟩:=(show zM P w H h a (.ins C dx fs) from hok a _ e)
 exact⟨mA,⟨ob,n,ne⟩,r,q,z,d⟩
end
structure Cls (K:PySem.W.Frag)(C:Addr):Prop where
 pg:PySem.W.plainGet K C Str.empty=true
 hd:PySem.W.hasDictIn K C=true
 po:PySem.W.plainOver K C=true
 sa:PySem.W.findIn K (.ref C) "__setattr__" = some (some (.builtin "object.__setattr__"))
theorem Cls.get {K:PySem.W.Frag}{C:Addr}(c:Cls K C)(f:Str):PySem.W.plainGet K C f=true:=c.pg
def KN (K:PySem.W.Frag)(C:Addr)(f:Str):Prop:=PySem.W.findIn K (.ref C) f=some none
section
variable {X:Cx} {pins:List (Addr×Obj)} {σ:St} {H:Hp} {s:Shared} {a C dx:Addr} {fs:List (Str×V)} {f:Str} {v:V} {A:Around} {E:Value->Shared->Prop}
end
section
variable {X:Cx} {o e value:Expr} {f:Str} {pos pos' tpos:Pos} {ta tv:TE}
end
section
variable {X:Cx} {pins:List (Addr×Obj)} {σ:St} {H:Hp} {s:Shared} {A:Around} {E:Value->Shared->Prop} {Q:Value->Shared->Prop} {c:Value} {b:Bool}
inductive TyOf (K:PySem.W.Frag)(H:Hp):V->Value->Prop where
 | non:TyOf K H .non (.type "NoneType")
 | bl (x:Bool):TyOf K H (.bl x) (.type "bool")
 | int (i:Int):TyOf K H (.int i) (.type "int")
 | str (x:Str):TyOf K H (.str x) (.type "str")
 | flt (x:UInt64):TyOf K H (.flt x) (.type "float")
 | lst {a:Addr} {xs:List V} (e:H a=some (.lst xs)):TyOf K H (.ref a) (.type "list")
 | frz {a:Addr} {o:Obj} {xs:List V} (e:H a=some (.frz o (.lst xs))):TyOf K H (.ref a) (.type "list")
 | tup {a:Addr} {xs:List V} (e:H a=some (.tup xs)):TyOf K H (.ref a) (.type "tuple")
 | dK {a:Addr} {kvs:List (Key×V)} (e:H a=some (.dK kvs)):TyOf K H (.ref a) (.type "dict")
 | dT {a:Addr} {kvs:List (List Key×V)} (e:H a=some (.dT kvs)):TyOf K H (.ref a) (.type "dict")
 | ins {a C dx:Addr} {fs:List (Str×V)} (e:H a=some (.ins C dx fs)) (cl:Cls K C) (ha:PySem.W.findIn K (.ref C) "__class__" = some (some (.builtin "object.__class__")))
   (hn:PySem.W.specialIn K (.builtin "object.__class__") "__get__" = some (some (.builtin "getset_descriptor.__get__"))) (htk:PySem.W.takesIn K (.builtin "object.__class__")=some true)
   (hm:PySem.W.mroIn K C (.type "object")=some true):TyOf K H (.ref a) (.ref C)
theorem YI {x:V}{u t:Value}(I:Inv X pins σ H s)(rx:RelV x u)(ty:TyOf X.K H x t)(e:PySem.W.kitOne X.K t c=some b)(h:∀ tk,Q (.bool b) { s with toks:=tk }) :
  wpAny (model X.prog X.w) A (call (.builtin "isinstance") [u,c]) Q E s:=by
 cases ty with
 | non=>cases (show u=Value.none from rx);exact PySem.W.kia_one PySem.W.kitx_none I.kIn True.intro e (fun z=>nomatch z) h
 | bl y=>cases (show u=Value.bool y from rx);exact PySem.W.kia_one PySem.W.kitx_bool I.kIn True.intro e (fun z=>nomatch z) h
 | int i=>obtain⟨t,q⟩:=(show ∃ t,u=Value.int i t from rx);cases q;exact PySem.W.kia_one PySem.W.kitx_int I.kIn True.intro e (fun z=>nomatch z) h
 | str y=>obtain⟨t,q⟩:=(show ∃ t,u=Value.str y t from rx);cases q;exact PySem.W.kia_one PySem.W.kitx_str I.kIn True.intro e (fun z=>nomatch z) h
 | flt y=>obtain⟨t,q⟩:=(show ∃ t,u=Value.float y t from rx);cases q;exact PySem.W.kia_one PySem.W.kitx_float I.kIn True.intro e (fun z=>nomatch z) h
 | @lst a xs ea=>
  cases (show u=Value.ref a from rx)
  obtain⟨_,_,n,_,h1⟩:=(show zM X.prog X.w H s.heap a (.lst xs) from I.hok a _ ea)
  exact PySem.W.kia_one PySem.W.kitx_list I.kIn ⟨_,h1,rfl⟩ e (fun z=>nomatch z) h
 | @frz a ob xs ea=>
  cases (show u=Value.ref a from rx)
  obtain⟨_,_,_,n,_,h1⟩:=(show zM X.prog X.w H s.heap a (.frz ob (.lst xs)) from I.hok a _ ea)
  exact PySem.W.kia_one PySem.W.kitx_list I.kIn ⟨_,h1,rfl⟩ e (fun z=>nomatch z) h
 | @tup a xs ea=>
  cases (show u=Value.ref a from rx)
  obtain⟨_,_,_,p⟩:=(show zM X.prog X.w H s.heap a (.tup xs) from I.hok a _ ea)
  obtain⟨o,h1,h2,_⟩:=p
  exact PySem.W.kia_one PySem.W.kitx_tuple I.kIn ⟨o,h1,h2⟩ e (fun z=>nomatch z) h
 | @dK a kvs ea=>
  cases (show u=Value.ref a from rx)
  obtain⟨_,_,vs,_,p⟩:=(show zM X.prog X.w H s.heap a (.dK kvs) from I.hok a _ ea)
  obtain⟨o,es,ep,h1,h2,_⟩:=p
  exact PySem.W.kia_one PySem.W.kitx_dict I.kIn ⟨o,h1,h2.1⟩ e (fun z=>nomatch z) h
 | @dT a kvs ea=>
  cases (show u=Value.ref a from rx)
  obtain⟨_,_,xs,_,o,es,ep,h1,h2,_⟩:=(show zM X.prog X.w H s.heap a (.dT kvs) from I.hok a _ ea)
  exact PySem.W.kia_one PySem.W.kitx_dict I.kIn ⟨o,h1,h2.1⟩ e (fun z=>nomatch z) h
 | @ins a C dx fs ea cl ha hn htk hm=>
  cases (show u=Value.ref a from rx)
  obtain⟨mA,O,_⟩:=Vr I.hok ea
  obtain⟨od,J,_⟩:=O.look
  exact PySem.W.kia_one (PySem.W.kitx_own (cl.get _) cl.hd ha hn htk hm) I.kIn J e (fun z=>nomatch z) h
end
end L2
namespace L2
open PySem PySem.Spec PyProof.Rows
structure Room (k:Nat)(A:Around):Prop where
 hd:A.handled=none
 dp:A.depth+3 * k+5<recursionLimit
 un:A.units+16 * k+200<cLine
 gd:A.guards=some []
theorem Room.mono {j k:Nat}{A:Around}(r:Room k A)(h:j<=k):Room j A:=⟨r.hd,by have:=r.dp;omega,by have:=r.un;omega,r.gd⟩
theorem Room.deeper {k:Nat}{A:Around}(r:Room (k+1) A)(env:Env):Room k (A.deeper env):=
 ⟨r.hd,by have:=r.dp;show A.depth+1+3 * k+5<_;omega,by have:=r.un;show A.units+3+16 * k+200<_;omega,r.gd⟩
theorem Room.depth {k:Nat}{A:Around}(r:Room k A):A.depth<recursionLimit:=by have:=r.dp;omega
noncomputable def tNil:TA:=fun _ H Q=>Q [] H
noncomputable def jz (ta:TE)(tr:TA):TA:=fun σ H Q=>ta σ H fun x H1=>tr σ H1 fun xs H2=>Q (x::xs) H2
section
variable {X:Cx} {e:Expr} {es:List Expr} {te:TE} {t:TA} {pos:Pos}
theorem vY:PA X [] tNil:=fun _ _ _ _ H Q I h=>Calls.spliced_nil ⟨[],H,I,.nil,h⟩
theorem jL (ha:PE X e te)(hr:PA X es t)(hs:starEach (e::es) X.env=(false,eval e X.env)::starEach es X.env:=by rfl):PA X (e::es) (jz te t):=by
 intro pos pins s σ H Q I h
 rw [hs]
 show wpAny _ _ (spliced ((false,eval e X.env)::backTo pos (starEach es X.env))) _ _ s
 refine Calls.spliced_cons (thn (ha pins s σ H _ I h) fun u s1 ⟨x,H1,I1,r1,q1⟩=>?_)
 exact thn (hr pos pins s1 σ H1 _ I1 q1) fun us s2 ⟨xs,H2,I2,r2,q2⟩=>⟨x::xs,H2,I2,.cons r1 r2,q2⟩
noncomputable def tTup (t:TA):TE:=fun σ H Q=>t σ H fun xs H1=>xs.length<=sizeLine/\∀ p,H1 p=none->Q (.ref p) (upd H1 p (.tup xs))
noncomputable def tLst (t:TA):TE:=fun σ H Q=>t σ H fun xs H1=>xs.length<=sizeLine/\∀ p,H1 p=none->Q (.ref p) (upd H1 p (.lst xs))
theorem KP {x1}(h:PA X es t):PE X (.Tuple es x1 pos) (tTup t):=by
 intro pins s σ H Q I hq
 refine wpAny_Tuple_spliced (thn (h pos pins s σ H _ I hq) fun us s1 ⟨xs,H1,I1,r,z,q⟩=>⟨by rw [← r.length];exact z,?_⟩)
 have hf:H1 s1.heap.objs.size=none:=I1.hok.fresh (Nat.le_refl _)
 refine⟨.ref s1.heap.objs.size,upd H1 s1.heap.objs.size (.tup xs),I1.laid (t':=s1.toks) (fun b u e=>Heap.get?_push_of_some _ e) (Nat.le_refl _) ?_,rfl,q _ hf⟩
 exact⟨z,us,r,⟨_,Heap.get?_push_size _ rfl,rfl,_,rfl⟩⟩
theorem ze6 (h:PA X es t):PE X (.List es pos) (tLst t):=by
 intro pins s σ H Q I hq
 refine wpAny_List_spliced (thn (h pos pins s σ H _ I hq) fun us s1 ⟨xs,H1,I1,r,z,q⟩=>⟨by rw [← r.length];exact z,?_⟩)
 have hf:H1 s1.heap.objs.size=none:=I1.hok.fresh (Nat.le_refl _)
 refine⟨.ref s1.heap.objs.size,upd H1 s1.heap.objs.size (.lst xs),I1.laid (t':=s1.toks) (fun b u e=>Heap.get?_push_of_some _ e) (Nat.le_refl _) ?_,rfl,q _ hf⟩
 exact⟨z,us,0,r,Heap.get?_push_size _ rfl⟩
end
noncomputable abbrev Sp:=List V->Hp->VK->XK->Prop
noncomputable abbrev CXT:=List Env->Hp->Shared->XK->Value->Shared->Prop
structure Env0 (P:Program)(w:World)(K:PySem.W.Frag)(mg:Str->Option Value)(base:Heap)(A:Around)(outer:List Env)(s:Shared)(H:Hp):Prop where
 frames:A.frames=some outer
 mod:Mod K mg base
 bs:∀ b o,base.get? b=some o->s.heap.get? b=some o/\H b=none
 bsz:base.objs.size<=s.heap.objs.size
 funs:s.heap.FunFrames base outer
 frf:∀ b∈frs outer,H b=none
 hok:HOk P w H s.heap
 bare:AllBare s.gens
def CE (outer:List Env)(P:Program)(w:World)(H:Hp)(s:Shared)(Q:VK)(u:Value)(s':Shared):Prop:=
 ∃ v H',s'.os=s.os/\AllBare s'.gens/\Un (frs outer) [] H H' s.heap s'.heap/\HOk P w H' s'.heap/\RelV v u/\Q v H'
def CR (CX:CXT)(outer:List Env)(P:Program)(w:World)(H:Hp)(s:Shared)(Q:VK)(E:XK)(r:Result)(s':Shared):Prop:=
 match r with
 | .ok (.ret u)=>CE outer P w H s Q u s'
 | .ok _=>False
 | .error e=>CX outer H s E e s'
structure FnOk (P:Program)(w:World)(K:PySem.W.Frag)(mg:Str->Option Value)(base:Heap)(CX:CXT)(k:Nat)(f:Addr)(fd:FuncData)(ps:List Str)(sp:Sp):Prop where
 len:∀ vs H Q E,sp vs H Q E->vs.length=ps.length
 run:∀ (A:Around) (outer:List Env) (s:Shared) (H:Hp) (args:Args) (us:List Value) (vs:List V) (Q:VK) (E:XK),Room k A->Env0 P w K mg base A outer s H->BindsTo s fd args (ps.zip us)->Vals vs us->sp vs H Q E ->
  codeAny (model P w) A (.call (.ref f) args) (CR CX outer P w H s Q E) s
section
variable {X:Cx} {pins:List (Addr×Obj)} {σ:St} {H:Hp} {s s':Shared}
theorem Inv.env0 (I:Inv X pins σ H s):Env0 X.prog X.w X.K X.mg X.base X.A X.stack s H:=
 ⟨I.ok.frames,I.ok.mod,I.bs,Nat.le_trans I.ok.bsz I.sz,I.stack,I.stkFree,I.hok,I.bare⟩
theorem Inv.after {Q:VK}{u:Value}(I:Inv X pins σ H s)(h:CE X.stack X.prog X.w H s Q u s'):EP X pins σ Q u s':=by
 obtain⟨v,H',os,bare,un,hok,r,q⟩:=h
 obtain⟨hh,g,d,t,os'⟩:=s'
 obtain rfl:os' = s.os:=os
 exact⟨v,H',I.call (h':=hh) (g':=g) (d':=d) (t':=t) (ch:=[]) un hok bare (fun b z=>absurd z (by simp)),r,q⟩
end
noncomputable def Qz (sp:Sp)(dvs:List V)(E:XK)(t:TA):TE:=fun σ H Q=>t σ H fun vs H1=>sp (vs++dvs) H1 Q E
def Binds (K:PySem.W.Frag)(fd:FuncData)(ps:List Str)(ds:List Value):Prop:=
 ∀ (s:Shared) (us:List Value),K.In s.heap->(us++ds).length=ps.length->BindsTo s fd ⟨us,[]⟩ (ps.zip (us++ds))
theorem Binds.all {K:PySem.W.Frag}{fd:FuncData}{ps:List Str}(h:∀ us:List Value,us.length=ps.length->bindArgs fd ⟨us,[]⟩=pure (ps.zip us)):Binds K fd ps []:=fun s us _ hl=>by
 rw [List.append_nil] at hl ⊢
 exact .of_eq (h us hl)
def Passes (CX:CXT)(X:Cx)(E:XK):Prop:=∀ (pins:List (Addr×Obj)) (σ:St) (H:Hp) (s:Shared) (e:Value) (s':Shared),Inv X pins σ H s->CX X.stack H s E e s'->X.xe e s'
section
variable {X:Cx} {CX:CXT} {k:Nat} {f C:Addr} {fd:FuncData} {ps:List Str} {sp:Sp} {dvs:List V} {ds:List Value} {E:XK} {x m:Str} {p pos apos:Pos} {e o:Expr} {es:List Expr} {ta:TE} {t:TA}
theorem KQ {pins:List (Addr×Obj)}{σ:St}{H:Hp}{s:Shared}{Q:VK}{us:List Value}{vs:List V}(F:FnOk X.prog X.w X.K X.mg X.base CX k f fd ps sp)(hr:Room k X.A)(hb:Binds X.K fd ps ds)(hd:Vals dvs ds)(hx:Passes CX X E)
  (I:Inv X pins σ H s) (r:Vals vs us) (h:sp (vs++dvs) H Q E):wpAny (model X.prog X.w) X.A (call (.ref f) us) (EP X pins σ Q) X.xe s:=by
 have r2:Vals (vs++dvs) (us++ds):=r.append hd
 have hl:(us++ds).length=ps.length:=by rw [← r2.length];exact F.len _ _ _ _ h
 refine wpAny_call (codeAny_mono (F.run X.A X.stack s H ⟨us,[]⟩ (us++ds) (vs++dvs) Q E hr I.env0 (hb s us I.kIn hl) r2 h) fun r s' hq=>?_)
 cases r with
 | error e=>exact hx pins σ H s e s' I hq
 | ok fl=>
  cases fl with
  | ret u=>exact I.after hq
  | next=>exact False.elim hq
  | brk=>exact False.elim hq
  | cont=>exact False.elim hq
theorem zch (F:FnOk X.prog X.w X.K X.mg X.base CX k f fd ps sp)(hr:Room k X.A)(hg:Gl X x)(hm:X.mg x=some (.ref f))(hk:PySem.W.keepIn X.K (.ref f)=true)(hb:Binds X.K fd ps ds)(hd:Vals dvs ds)(hx:Passes CX X E)
  (ha:PA X (e::es) t) (hdb:(x == ("__debug__":Str))=false:=by decide) (he:starEach (e::es) X.env=(false,eval e X.env)::starEach es X.env:=by rfl) (hpl:(backTo pos (starEach es X.env)).any (·.1)=false:=by rfl) :
  PE X (.Call (.Name x p) (e::es) [] pos) (Qz sp dvs E t):=by
 intro pins s σ H Q I h
 refine wpAny_Call_Name_kw (yk I hg hm ?_ hdb)
 refine PySem.W.callWith_K (h₀:=X.base) I.ok.mod.kin hk (thn (ha pos pins s σ H _ I h) fun us s1 ⟨vs,H1,I1,r,q⟩=>⟨I1.kIn,?_⟩) he hpl
 exact KQ F hr hb hd hx I1 r q
theorem KR (F:FnOk X.prog X.w X.K X.mg X.base CX k f fd ps sp)(hr:Room k X.A)(hg:Gl X x)(hm:X.mg x=some (.ref f))(hk:PySem.W.keepIn X.K (.ref f)=true)(hb:Binds X.K fd ps ds)(hd:Vals dvs ds)(hx:Passes CX X E)
  (hdb:(x == ("__debug__":Str))=false:=by decide):PE X (.Call (.Name x p) [] [] pos) (Qz sp dvs E tNil):=by
 intro pins s σ H Q I h
 refine wpAny_Call_Name_kw (yk I hg hm ?_ hdb)
 exact PySem.W.callWith_K0 I.kIn hk (KQ (us:=[]) F hr hb hd hx I .nil h)
end
section
variable {X:Cx} {CX:CXT} {k:Nat} {f C:Addr} {fd:FuncData} {ps ks:List Str} {sp:Sp} {E:XK} {x m:Str} {p pos apos kpos:Pos} {e o:Expr} {es:List Expr} {kws:List Keyword} {te ta:TE} {t tk:TA} {nm:Option Str}
variable {g:List Value->List Value->List Value} {gV:List V->List V->List V}
end
structure zj (N P:List Str)(sc:Scope):Prop where
 kind:sc.kind=.function
 co:sc.isCoroutine=false
 gen:sc.isGenerator=false
 nd:N.Nodup
 pre:N.take P.length=P
 par:∀ x∈P,sc.names.lookup x=some .local\/sc.names.lookup x=some .cell
 nofree:∀ y∈sc.names,y.2≠.free
theorem QA {kindOf:Str->Option NameKind}{x:Str}:∀ {binds:List (Str×Value)} {m:Str->Option Value},(∀ v,(x,v)∉binds)->bindL kindOf binds m x=m x
 | [],_,_=>rfl
 | (n,v)::r,m,h=>by
  unfold bindL
  rw [QA fun w hw=>h w (List.mem_cons_of_mem _ hw)]
  split
  ·have:x≠n:=by rintro rfl;exact h v List.mem_cons_self
   simp [this]
  ·rfl
theorem QB {kindOf:Str->Option NameKind}{x:Str}:∀ {binds:List (Str×Value)} {m:Str->Option Value},(∀ v,(x,v)∉binds)->bindC kindOf binds m x=m x
 | [],_,_=>rfl
 | (n,v)::r,m,h=>by
  unfold bindC
  rw [QB fun w hw=>h w (List.mem_cons_of_mem _ hw)]
  split
  ·rfl
  ·have:x≠n:=by rintro rfl;exact h v List.mem_cons_self
   simp [this]
theorem QC {kindOf:Str->Option NameKind}{x:Str}{v:Value}:∀ {P:List Str} {vs:List Value} {i:Nat} {m:Str->Option Value},P.Nodup->P[i]? = some x->vs[i]? = some v->kindOf x=some .local ->
  bindL kindOf (P.zip vs) m x=some v
 | [],_,_,_,_,h,_,_=>by simp at h
 | _::_,[],_,_,_,_,h,_=>by simp at h
 | p::P,w::vs,0,m,nd,h1,h2,hk=>by
  simp at h1 h2;subst h1;subst h2
  show bindL kindOf ((p,w)::P.zip vs) m p=_
  unfold bindL
  rw [QA fun v hv=>(List.nodup_cons.mp nd).1 (List.of_mem_zip hv).1,if_pos hk]
  simp
 | p::P,w::vs,i+1,m,nd,h1,h2,hk=>by
  show bindL kindOf ((p,w)::P.zip vs) m x=_
  unfold bindL
  exact QC (i:=i) (List.nodup_cons.mp nd).2 (by simpa using h1) (by simpa using h2) hk
theorem QD {kindOf:Str->Option NameKind}{x:Str}{v:Value}:∀ {P:List Str} {vs:List Value} {i:Nat} {m:Str->Option Value},P.Nodup->P[i]? = some x->vs[i]? = some v->kindOf x≠some .local ->
  bindC kindOf (P.zip vs) m x=some v
 | [],_,_,_,_,h,_,_=>by simp at h
 | _::_,[],_,_,_,_,h,_=>by simp at h
 | p::P,w::vs,0,m,nd,h1,h2,hk=>by
  simp at h1 h2;subst h1;subst h2
  show bindC kindOf ((p,w)::P.zip vs) m p=_
  unfold bindC
  rw [QB fun v hv=>(List.nodup_cons.mp nd).1 (List.of_mem_zip hv).1,if_neg hk]
  simp
 | p::P,w::vs,i+1,m,nd,h1,h2,hk=>by
  show bindC kindOf ((p,w)::P.zip vs) m x=_
  unfold bindC
  exact QD (i:=i) (List.nodup_cons.mp nd).2 (by simpa using h1) (by simpa using h2) hk
noncomputable def start (N:List Str)(vs:List V):St:=vs.map some++List.replicate (N.length - vs.length) none
noncomputable def cxOf (CX:CXT)(P:Program)(w:World)(K:PySem.W.Frag)(mg:Str->Option Value)(base:Heap)(N:List Str)(qual:Str)(scope:Scope)(f:Addr)(cd:Value)(A:Around)(outer:List Env)(s:Shared)(H:Hp)(E:XK):Cx where
 prog:=P
 w:=w
 K:=K
 mg:=mg
 base:=base
 A:=A.deeper (envOfC qual scope s.heap.objs.size f cd)
 N:=N
 s₀:=s
 H₀:=H
 env:=envOfC qual scope s.heap.objs.size f cd
 outer:=outer
 stack:=envOfC qual scope s.heap.objs.size f cd::outer
 ex:=[]
 calm:=true
 fn:=fun _=>true
 pn:=[]
 xe:=fun e s'=>wpAny (model P w) (A.deeper (envOfC qual scope s.heap.objs.size f cd)) (leaving (envOfC qual scope s.heap.objs.size f cd) e) (fun _ s''=>CX outer H s E e s'') (fun e' s''=>CX outer H s E e' s'') s'
theorem J7 {sc:Scope}{n:Nat}{x:Str}(h:sc.names.lookup x=some .cell):∃ c,(cellsFrom n sc.names []).lookup x=some c:=by
 have q:=PySem.W.cellsFrom_some sc.names n [] (.inl h)
 exact Option.isSome_iff_exists.mp q
theorem YJ {CX:CXT}{P:Program}{w:World}{K:PySem.W.Frag}{mg:Str->Option Value}{base:Heap}{N ps:List Str}{qual:Str}{scope:Scope}{f:Addr}{cd:Value}{A:Around}{outer:List Env}{s s1:Shared}{H:Hp}{E:XK}{us:List Value}{vs:List V}
  (S:zj N ps scope) (hd:A.handled=none) (e0:Env0 P w K mg base A outer s H) (hl:vs.length=ps.length) (r:Vals vs us)
  (x:InCallC s s.heap.objs.size (bindL (envOfC qual scope s.heap.objs.size f cd).kindOf (ps.zip us) fun _=>none) (cellsFrom (s.heap.objs.size+1) scope.names []) (bindC (envOfC qual scope s.heap.objs.size f cd).kindOf (ps.zip us) fun _=>none) s1) :
  Inv (cxOf CX P w K mg base N qual scope f cd A outer s H E) [] (start N vs) H s1:=by
 have hpl:ps.length<=N.length:=by have:=congrArg List.length S.pre;rw [List.length_take] at this;omega
 obtain⟨h1,tk,rfl,hk⟩:=x.done
 have noA:∀ b:Addr,b∉(cxOf CX P w K mg base N qual scope f cd A outer s H E).ex:=fun b z=>absurd (show b∈([]:List Addr) from z) (by simp)
 refine⟨⟨e0.mod,S.kind,rfl,rfl,Nat.le_refl _,fun y z c h1 h2=>?_,fun y hy=>?_,fun y c _ h=>?_,fun _=>hd,Around.frames_deeper e0.frames,.inr ⟨rfl,rfl⟩,fun b z=>absurd z (noA b),e0.bs,e0.bsz,fun b _ _=>noA b,fun b z=>absurd z (noA b),e0.funs,e0.frf⟩,
  rfl,e0.bare,Un.kept hk,⟨_,x.toInCall.ns,fun i y v h1 h2 h3=>?_⟩,fun y c h=>⟨_,x.cell y c h⟩,e0.hok.fresh (Nat.le_refl _),fun y c h=>?_,fun p hp=>absurd (show p∈([]:List (Addr×Obj)) from hp) (by simp),e0.hok.kept hk,?_⟩
 ·exact name_of_addr x.apart (PySem.mem_of_lookup h1) (PySem.mem_of_lookup h2)
 ·have hy:scope.names.lookup y=some .cell\/scope.names.lookup y=some .free:=hy
  rcases hy with hy | hy
  ·exact J7 hy
  ·exact absurd rfl (S.nofree _ (PySem.mem_of_lookup hy))
 ·exact Nat.le_of_lt (x.above y c (PySem.mem_of_lookup h))
 ·have hi:i<vs.length:=by
   unfold start at h2
   by_cases hi:i<vs.length
   ·exact hi
   ·rw [List.getElem?_append_right (by simpa using hi)] at h2
    rw [List.getElem?_replicate] at h2
    split at h2<;>cases h2
  have ha:vs[i]? = some v:=by
   unfold start at h2
   rw [List.getElem?_append_left (by simpa using hi),List.getElem?_map] at h2
   cases e:vs[i]? with
   | none=>rw [e] at h2;cases h2
   | some a=>rw [e] at h2;cases h2;rfl
  obtain⟨u,hu,rv⟩:=r.get ha
  have hp:ps[i]? = some y:=by
   rw [← S.pre,List.getElem?_take_of_lt (by omega)];exact h1
  have ndP:ps.Nodup:=by rw [← S.pre];exact S.nd.sublist (List.take_sublist _ _)
  refine⟨u,rv,?_⟩
  rcases S.par y (List.mem_of_getElem? hp) with k | k
  ·exact .inl ⟨k,QC ndP hp hu k⟩
  ·obtain⟨c,e⟩:=J7 (n:=s.heap.objs.size+1) k
   refine .inr ⟨.inl k,c,e,?_⟩
   have q:=x.cell y c e
   rw [QD ndP hp hu (by show scope.names.lookup y≠_;rw [k];decide)] at q
   exact q
 ·exact e0.hok.fresh (Nat.le_of_lt (x.above y c (PySem.mem_of_lookup h)))
 ·unfold start
  show _=N.length
  rw [List.length_append,List.length_map,List.length_replicate]
  omega
theorem zdF {CX:CXT}{P:Program}{w:World}{K:PySem.W.Frag}{mg:Str->Option Value}{base:Heap}{k:Nat}{f:Addr}{name qual:Str}{params:Arguments}{body:List Stmt}{scope:Scope}{dV kV doc pm cdv ct oc:Value}{an od:Option Addr}
  {osl:Array (Option Value)} {N ps:List Str} {sp:Sp} (lk:K.lookup f=some ⟨oc,od,.func (PySem.W.fnOf name qual params body scope dV kV doc pm an cdv ct),osl⟩) (hcd:PySem.W.codeIn K cdv qual=true) (S:zj N ps scope)
  (len:∀ vs H Q E,sp vs H Q E->vs.length=ps.length)
  (hbody:∀ (A:Around) (outer:List Env) (s:Shared) (H:Hp) (vs:List V) (Q:VK) (E:XK),Room k (A.deeper (envOfC qual scope s.heap.objs.size f cdv))->sp vs H Q E ->
   ∃ t,PSs (cxOf CX P w K mg base N qual scope f cdv A outer s H E) body t/\t { nx:=fun _ H'=>Q .non H',rt:=Q } (start N vs) H) :
  FnOk P w K mg base CX (k+1) f (PySem.W.fnOf name qual params body scope dV kV doc pm an cdv ct) ps sp:=by
 refine⟨len,fun A outer s H args us vs Q E hr e0 hb r hsp=>?_⟩
 have hl:=len _ _ _ _ hsp
 have KX:K.In s.heap:=e0.mod.kin.keeps fun b o e=>(e0.bs b o e).1
 have lim:s.heap.NoLimit:=e0.mod.nolimit.keeps fun b o e=>(e0.bs b o e).1
 have hkind:∀ y∈ps.zip us,scope.names.lookup y.1=some .local\/(scope.names.lookup y.1=some .cell/\((cellsFrom (s.heap.objs.size+1) scope.names []).lookup y.1).isSome=true):=fun⟨n,v⟩ hy=>by
  rcases S.par n (List.of_mem_zip hy).1 with q | q
  ·exact .inl q
  ·exact .inr ⟨q,PySem.W.cellsFrom_some _ _ _ (.inl q)⟩
 refine codeAny_call_function hr.depth (KX _ _ lk) rfl S.co S.gen rfl (PySem.W.codeRec_of KX hcd) (hb _ _ _ _ ?_)
 refine wpAny_newFunctionEnv_cells S.kind hkind fun env he s1 x=>?_
 subst he
 refine⟨lim.keeps x.toInCall.keep,codeAny_func ?_⟩
 obtain⟨t,ht,hq⟩:=hbody A outer s H vs Q E (hr.deeper _) hsp
 have I:Inv (cxOf CX P w K mg base N qual scope f cdv A outer s H E) [] (start N vs) H s1:=YJ S hr.hd e0 hl r x
 refine wpAny_mono (ht [] s1 (start N vs) H _ I hq) (fun fl s' hs=>?_) fun e s' hs=>hs
 have fin:∀ {σ':St} {H':Hp} {v:V} {u:Value},Inv (cxOf CX P w K mg base N qual scope f cdv A outer s H E) [] σ' H' s'->RelV v u->Q v H'->CE outer P w H s Q u s':=
  fun {σ' H' v u} J rv q=>⟨v,H',J.os,J.bare,J.base,J.hok,rv,q⟩
 cases fl with
 | ret u=>
  obtain⟨v,σ',H',J,rv,q⟩:=hs
  exact fin J rv q
 | next=>
  obtain⟨σ',H',J,q⟩:=hs
  exact fin (v:=V.non) (u:=Value.none) J rfl q
 | brk=>
  obtain⟨_,_,_,q⟩:=hs
  exact False.elim q
 | cont=>
  obtain⟨_,_,_,q⟩:=hs
  exact False.elim q
end L2
namespace L2
open PySem PySem.Spec PyProof.Rows
section
variable {X:Cx} {x:Str} {p pos:Pos} {e:Expr} {es:List Expr} {t:TA} {id T:String} {r:List V->Hp->VK->Prop}
noncomputable def tCB (r:List V->Hp->VK->Prop)(t:TA):TE:=fun σ H Q=>t σ H fun vs H1=>r vs H1 Q
theorem wB (hc:qc X (.builtin id) r)(hg:Gl X x)(hm:X.mg x=none)(hv:bootBuiltins x=some (.builtin id))(ha:PA X (e::es) t)(hn:x≠"__name__":=by decide) (hdb:(x == ("__debug__":Str))=false:=by decide)
  (he:starEach (e::es) X.env=(false,eval e X.env)::starEach es X.env:=by rfl) (hpl:(backTo pos (starEach es X.env)).any (·.1)=false:=by rfl):PE X (.Call (.Name x p) (e::es) [] pos) (tCB r t):=by
 intro pins s σ H Q I h
 refine wpAny_Call_Name_kw (wg I hg hm hv ?_ hn hdb)
 exact PyProof.Rows.callWith_builtin1 (thn (ha pos pins s σ H _ I h) fun us s1 ⟨vs,H1,I1,r1,q1⟩=>hc pins s1 σ H1 vs us Q I1 r1 q1) he hpl
theorem vE (hc:qc X (.type T) r)(hg:Gl X x)(hm:X.mg x=none)(hv:bootBuiltins x=some (.type T))(ha:PA X (e::es) t)(hn:x≠"__name__":=by decide) (hdb:(x == ("__debug__":Str))=false:=by decide)
  (he:starEach (e::es) X.env=(false,eval e X.env)::starEach es X.env:=by rfl) (hpl:(backTo pos (starEach es X.env)).any (·.1)=false:=by rfl):PE X (.Call (.Name x p) (e::es) [] pos) (tCB r t):=by
 intro pins s σ H Q I h
 refine wpAny_Call_Name_kw (wg I hg hm hv ?_ hn hdb)
 exact PyProof.Rows.callWith_type1 (thn (ha pos pins s σ H _ I h) fun us s1 ⟨vs,H1,I1,r1,q1⟩=>hc pins s1 σ H1 vs us Q I1 r1 q1) he hpl
end
end L2
namespace HT
open PySem PyProof.Rows
section
open PySem.SeqAt
open PySem.AutoSeq1 (wpAny_loadPart')
open PySem.MeetsSeq PySem.MeetsSeq2 PySem.MeetsSeq3
end
section
variable {prog:Program} {w:World} {A:Around} {E:Value->Shared->Prop} {s:Shared}
theorem zci {t b:Addr}{vs ws:List Value}{Q:Value->Shared->Prop}(ht:IsTup s.heap t vs.toArray)(hb:IsTup s.heap b ws.toArray)(hv:vs≠[])
  (h1:ws=[]->Q (.ref t) s) (h2:ws≠[]->Q (.ref s.heap.objs.size) { s with heap:=s.heap.push { cls:=.type "tuple",data:=.seq (vs++ws).toArray } })
  (hsz:vs.length+ws.length<=sizeLine):wpAny (model prog w) A (binaryOp .Add (.ref t) (.ref b)) Q E s:=by
 obtain⟨⟨cls,dd,data,sl⟩,ho,hc,n,hd⟩:=id ht
 obtain⟨⟨cls2,dd2,data2,sl2⟩,ho2,hc2,n2,hd2⟩:=id hb
 simp only at hc hd hc2 hd2
 subst hc hd hc2 hd2
 have e:vs.toArray++ws.toArray=(vs++ws).toArray:=by simp
 by_cases hw:ws=[]
 ·exact concat_meets ⟨_,ho,rfl⟩ ⟨_,ho2,rfl⟩ noFill_tuple_add seq_tuple_add PySem.F.slot_tuple_add PySem.F.entry_tuple_add (PySem.F.args_tuple_add_2 _ _)
   (tuple_addW1 t b vs.toArray ws.toArray n n2 dd dd2 sl sl2 (by simpa using hv) (by simp [hw])) ⟨ho,ho2,h1 hw⟩
 ·refine concat_meets ⟨_,ho,rfl⟩ ⟨_,ho2,rfl⟩ noFill_tuple_add seq_tuple_add PySem.F.slot_tuple_add PySem.F.entry_tuple_add (PySem.F.args_tuple_add_2 _ _)
   (tuple_addW2 t b vs.toArray ws.toArray n n2 dd dd2 sl sl2 (by simpa using hv) (by simpa using hw) (by rw [List.size_toArray,List.size_toArray];exact hsz)) ⟨ho,ho2,?_⟩
  rw [e]
  exact h2 hw
noncomputable def sIx (n d:Nat):Option Int->Nat
 | none=>d
 | some v=>if v<0 then(v+(n:Int)).toNat else min v.toNat n
theorem sIx_none (n d:Nat):sIx n d none=d:=rfl
theorem sIx_nat (n d k:Nat):sIx n d (some (k:Int))=min k n:=by
 show(if (k:Int)<0 then((k:Int)+(n:Int)).toNat else min (k:Int).toNat n)=min k n
 rw [if_neg (by omega),Int.toNat_natCast]
theorem sIx_le (n d:Nat)(hd:d<=n)(o:Option Int):sIx n d o<=n:=by
 cases o with
 | none=>exact hd
 | some v=>
  show(if v<0 then(v+(n:Int)).toNat else min v.toNat n)<=n
  by_cases hv:v<0
  ·rw [if_pos hv];omega
  ·rw [if_neg hv];exact Nat.min_le_right _ _
theorem Vs (v:Int)(n d:Nat):(if v<0 then max (v+(n:Int)) 0 else min v (n:Int))=((sIx n d (some v):Nat):Int):=by
 show(if v<0 then max (v+(n:Int)) 0 else min v (n:Int))=(((if v<0 then(v+(n:Int)).toNat else min v.toNat n):Nat):Int)
 by_cases hv:v<0
 ·simp only [if_pos hv];omega
 ·simp only [if_neg hv];omega
theorem Xs (lo hi:Option Int)(n:Nat):Builtin.Slice.sliceAdjust lo hi 1 (n:Int)=(((sIx n 0 lo:Nat):Int),((sIx n n hi:Nat):Int)):=by
 have h1:¬ ((1:Int)<0):=by omega
 unfold Builtin.Slice.sliceAdjust
 simp only [h1,if_false]
 refine Prod.ext ?_ ?_
 ·cases lo with
  | none=>rfl
  | some v=>exact Vs v n 0
 ·cases hi with
  | none=>rfl
  | some v=>exact Vs v n n
theorem Xu (i j:Nat):Builtin.Slice.slicePlaces (i:Int) (j:Int) 1=j - i:=by
 unfold Builtin.Slice.slicePlaces
 have h1:(1:Int) > 0:=by omega
 simp only [h1,if_true,Int.ediv_one]
 split<;>omega
theorem Zj {v:Value}{o:Option Int}{Q:Option Int->Shared->Prop}(p:IsPart v o)(h:Q o s):wpAny (model prog w) A (Builtin.Slice.slicePartIndex v) Q E s:=by
 cases p with
 | none=>exact slicePart_none h
 | int i t=>exact slicePart_int h
theorem wC {sl:Addr}{vl vu:Value}{lo hi:Option Int}{n:Nat}{Q:Int×Int×Nat->Shared->Prop}(hs:s.heap.IsSliceOf sl vl vu .none)(pl:IsPart vl lo)(pu:IsPart vu hi)
  (h:Q (((sIx n 0 lo:Nat):Int),1,sIx n n hi - sIx n 0 lo) s):wpAny (model prog w) A (Builtin.Slice.sliceApplied (.ref sl) (pure (n:Int))) Q E s:=by
 obtain⟨os,hos,hcs,hds⟩:=id hs
 unfold Builtin.Slice.sliceApplied Builtin.Slice.sliceFields
 refine wpAny_bind (wpAny_bind (wpAny_field hos hds (x:=vl) rfl (wpAny_bind (wpAny_field hos hds (x:=vu) rfl (wpAny_bind (wpAny_field hos hds (x:=.none) rfl (wpAny_pure ?_)))))))
 refine wpAny_bind (slicePart_none ?_)
 show wpAny _ _ (if ((1:Int) == 0)=true then _ else _) _ _ s
 rw [if_neg (by decide)]
 refine wpAny_bind (Zj pl (wpAny_bind (Zj pu (wpAny_bind (wpAny_pure ?_)))))
 show wpAny _ _ (match Builtin.Slice.sliceAdjust lo hi 1 (n:Int) with | (lo,hi)=>pure (lo,(1:Int),Builtin.Slice.slicePlaces lo hi 1)) _ _ s
 rw [Xs lo hi n]
 show wpAny _ _ (pure (((sIx n 0 lo:Nat):Int),(1:Int),Builtin.Slice.slicePlaces ((sIx n 0 lo:Nat):Int) ((sIx n n hi:Nat):Int) 1)) _ _ s
 rw [Xu]
 exact wpAny_pure h
theorem KS (xs:Array Value)(i k:Nat):((List.range k).filterMap fun(m:Nat)=>xs[((i:Int)+(m:Int) * 1).toNat]?).toArray=((xs.toList.drop i).take k).toArray:=by
 have e:(fun(m:Nat)=>xs[((i:Int)+(m:Int) * 1).toNat]?)=fun m=>xs[i+m]?:=by
  funext m
  have:((i:Int)+(m:Int) * 1).toNat=i+m:=by omega
  rw [this]
 rw [e]
 have:=pick_run xs i k
 rw [List.filterMap_map] at this
 have e2:((fun x=>xs[x]?) ∘ fun x=>i+x)=fun m=>xs[i+m]?:=rfl
 rw [e2] at this
 rw [this]
theorem yl {t sl:Addr}{items:Array Value}{vl vu:Value}{lo hi:Option Int}{Q:Value->Shared->Prop}(ht:IsTup s.heap t items)(hs:s.heap.IsSliceOf sl vl vu .none)(pl:IsPart vl lo)(pu:IsPart vu hi)
  (hw:¬ (sIx items.size 0 lo=0/\sIx items.size items.size hi=items.size))
  (h:Q (.ref s.heap.objs.size) { s with heap:=s.heap.push { cls:=.type "tuple",data:=.seq ((items.toList.drop (sIx items.size 0 lo)).take (sIx items.size items.size hi - sIx items.size 0 lo)).toArray } })
  (hsz:items.size<=sizeLine):wpAny (model prog w) A (getItem (.ref t) (.ref sl)) Q E s:=by
 have htake:sizeOk (.seq ((items.toList.drop (sIx items.size 0 lo)).take (sIx items.size items.size hi - sIx items.size 0 lo)).toArray):=by
  show((items.toList.drop (sIx items.size 0 lo)).take (sIx items.size items.size hi - sIx items.size 0 lo)).toArray.size<=sizeLine
  rw [List.size_toArray,List.length_take,List.length_drop,Array.length_toList]
  omega
 have hj:sIx items.size items.size hi<=items.size:=sIx_le _ _ (Nat.le_refl _) hi
 obtain⟨os,hos,hcs,hds⟩:=id hs
 have hTs:s.TypeIs (.ref sl) "slice":=⟨os,hos,hcs⟩
 unfold getItem
 try with_reducible refine wpAny_holding ?_
 first | refine wpAny_bind (wpAny_pure ?_) | skip
 refine wpAny_bind (wpAny_sequenceKey ht.typeIs (by decide) ?_)
 refine wpAny_bind (wpAny_callSpecial?_slot (name:=Str.ofString "__getitem__") ht.typeIs PyProof.Rows.slot_tuple_getitem
  (wpAny_call_entry PyProof.Rows.slot_tuple_getitem ht.typeIs entry_tuple_getitem ?_ (args_tuple_getitem _ _)))
 show wpAny _ _ (Builtin.Tuple.tupleItemsOf (.ref t) >>= _) _ _ s
 refine wpAny_bind (tupleItemsOf_ ht ?_)
 refine wpAny_bind (wpAny_typeOf hTs ?_)
 rw [if_pos (by decide)]
 refine wpAny_bind (wC hs pl pu ?_)
 have hno:¬ ((((sIx items.size 0 lo:Nat):Int) == 0&&(1:Int) == 1&&(sIx items.size items.size hi - sIx items.size 0 lo) == items.size)=true):=by
  intro q
  rw [Bool.and_eq_true,Bool.and_eq_true] at q
  have q1:((sIx items.size 0 lo:Nat):Int)=0:=eq_of_beq q.1.1
  have q2:sIx items.size items.size hi - sIx items.size 0 lo=items.size:=eq_of_beq q.2
  exact hw ⟨by omega,by omega⟩
 show wpAny _ _ (if (((sIx items.size 0 lo:Nat):Int) == 0&&(1:Int) == 1&&(sIx items.size items.size hi - sIx items.size 0 lo) == items.size)=true then _ else _) _ _ s
 rw [if_neg hno,KS]
 first
  | exact wpAny_bind (m:=Builtin.Tuple.tupleExact _) (wpAny_newObj_type (wpAny_pure ⟨_,rfl,wpAny_pure h⟩) htake)
  | exact wpAny_bind (m:=Builtin.Tuple.tupleExact _) (wpAny_newObj_type (wpAny_bind (wpAny_pure (wpAny_pure ⟨_,rfl,wpAny_pure h⟩))) htake)
  | exact wpAny_bind (wpAny_bind (m:=Builtin.Tuple.tupleExact _) (wpAny_newObj_type (wpAny_pure (wpAny_pure ⟨_,rfl,wpAny_pure h⟩)) htake))
  | exact wpAny_bind (wpAny_bind (m:=Builtin.Tuple.tupleExact _) (wpAny_newObj_type (wpAny_pure ⟨_,rfl,wpAny_pure h⟩) htake))
end
end HT
namespace L2
open PySem PySem.Spec PyProof.Rows
noncomputable abbrev TO:=St->Hp->(Option Int->Hp->Prop)->Prop
def PO (X:Cx)(e:Option Expr)(t:TO):Prop:=
 ∀ (pins:List (Addr×Obj)) (s:Shared) (σ:St) (H:Hp) (Q:Option Int->Hp->Prop),Inv X pins σ H s->t σ H Q ->
  wpAny (model X.prog X.w) X.A (evalPart e X.env) (fun u s'=>∃ o H',Inv X pins σ H' s'/\IsPart u o/\Q o H') X.xe s
noncomputable def Vt:TO:=fun _ H Q=>Q none H
noncomputable def zdG (t:TE):TO:=fun σ H Q=>t σ H fun x H1=>∃ i,x=.int i/\Q (some i) H1
section
variable {X:Cx} {e:Expr} {te:TE} {lo hi:Option Expr} {tl th:TO} {pos p2:Pos}
theorem zcj:PO X none Vt:=by
 intro pins s σ H Q I h
 rw [evalPart_none]
 exact wpAny_pure ⟨none,H,I,.none,h⟩
theorem zck (h:PE X e te):PO X (some e) (zdG te):=by
 intro pins s σ H Q I hw
 rw [evalPart_some]
 refine thn (h pins s σ H _ I hw) fun u s1 ⟨x,H1,I1,r1,q1⟩=>?_
 obtain⟨i,rfl,q⟩:=q1
 obtain⟨t,rfl⟩:=r1
 exact⟨some i,H1,I1,.int i t,q⟩
def SlR (X:Cx)(r:V->Option Int->Option Int->Hp->VK->Prop):Prop:=
 ∀ (pins:List (Addr×Obj)) (s:Shared) (σ:St) (H:Hp) (x:V) (v vl vu:Value) (lo hi:Option Int) (sl:Addr) (Q:VK),Inv X pins σ H s->RelV x v->s.heap.IsSliceOf sl vl vu .none->IsPart vl lo->IsPart vu hi->r x lo hi H Q ->
  ∃ T id,typeLookup (.type T) "__getitem__" = pure (some (.builtin id))/\s.TypeIs v T/\wpAny (model X.prog X.w) X.A (getItem v (.ref sl)) (EP X pins σ Q) X.xe s
theorem SlR.or {r r':V->Option Int->Option Int->Hp->VK->Prop}(h:SlR X r)(h':SlR X r'):SlR X (fun x lo hi H Q=>r x lo hi H Q\/r' x lo hi H Q):=by
 intro pins s σ H x v vl vu lo hi sl Q I rx hs pl pu q
 rcases q with q | q
 ·exact h pins s σ H x v vl vu lo hi sl Q I rx hs pl pu q
 ·exact h' pins s σ H x v vl vu lo hi sl Q I rx hs pl pu q
noncomputable def tSl (r:V->Option Int->Option Int->Hp->VK->Prop)(te:TE)(tl th:TO):TE:=fun σ H Q=>te σ H fun x H1=>tl σ H1 fun l H2=>th σ H2 fun u H3=>r x l u H3 Q
theorem KU {r:V->Option Int->Option Int->Hp->VK->Prop}(hr:SlR X r)(he:PE X e te)(hl:PO X lo tl)(hu:PO X hi th):PE X (.Subscript e (.Slice lo hi none p2) pos) (tSl r te tl th):=by
 intro pins s σ H Q I h
 refine Subscript_ (thn (he pins s σ H _ I h) fun v s1 ⟨x,H1,I1,r1,q1⟩=>?_)
 refine wpAny_Slice (thn (hl pins s1 σ H1 _ I1 q1) fun vl s2 ⟨l,H2,I2,pl,q2⟩=>thn (hu pins s2 σ H2 _ I2 q2) fun vu s3 ⟨u,H3,I3,pu,q3⟩=>?_)
 rw [evalPart_none]
 refine wpAny_pure ?_
 have I4:Inv X pins σ H3 { s3 with heap:=s3.heap.push { cls:=.type "slice",data:=.fields #[vl,vu,.none] } }:=I3.kept (t':=s3.toks) fun b ob q=>Heap.get?_push_of_some _ q
 obtain⟨T,id,hT,ht,hg⟩:=hr pins { s3 with heap:=s3.heap.push { cls:=.type "slice",data:=.fields #[vl,vu,.none] } } σ H3 x v vl vu l u s3.heap.objs.size Q I4 r1 (Heap.IsSliceOf.new ..) pl pu q3
 show wpAny (model X.prog X.w) X.A (subscriptTail e (.Slice lo hi none p2) v (.ref s3.heap.objs.size)) (EP X pins σ Q) X.xe { s3 with heap:=s3.heap.push { cls:=.type "slice",data:=.fields #[vl,vu,.none] } }
 exact tail_any (ops:=[.ref s3.heap.objs.size,v]) ht hT hg (by with_unfolding_all rfl)
noncomputable def cutV (xs:List V)(lo hi:Option Int):List V:=(xs.drop (HT.sIx xs.length 0 lo)).take (HT.sIx xs.length xs.length hi - HT.sIx xs.length 0 lo)
theorem kE (xs:List V)(lo hi:Option Int):(cutV xs lo hi).length<=xs.length:=by
 unfold cutV
 rw [List.length_take,List.length_drop]
 omega
noncomputable def rSlT (K:PySem.W.Frag):V->Option Int->Option Int->Hp->VK->Prop:=fun x lo hi H Q=>∃ a xs,x=.ref a/\SqT K H a xs /\
 ¬ (HT.sIx xs.length 0 lo=0/\HT.sIx xs.length xs.length hi=xs.length)/\∀ p,H p=none->Q (.ref p) (upd H p (.tup (cutV xs lo hi)))
theorem ze7:SlR X (rSlT X.K):=by
 intro pins s σ H x v vl vu lo hi sl Q I rx hs pl pu h
 obtain⟨a,xs,rfl,hx,hw,q⟩:=h
 cases rx
 obtain⟨its,r,ht,hz⟩:=I.tuple hx
 have hlen:its.toArray.size=xs.length:=by rw [List.size_toArray];exact r.length.symm
 refine⟨"tuple",_,PyProof.Rows.slot_tuple_getitem.lookup,ht.typeIs,?_⟩
 refine HT.yl ht hs pl pu (by rw [hlen];exact hw) ?_ (by rw [hlen];exact hz)
 rw [hlen]
 refine⟨.ref s.heap.objs.size,_,I.laid (t':=s.toks) (o:=.tup (cutV xs lo hi)) (fun b ob q=>Heap.get?_push_of_some _ q) (Nat.le_refl _) ?_,rfl,q _ (I.hok.fresh (Nat.le_refl _))⟩
 exact⟨Nat.le_trans (kE xs lo hi) hz,_,(r.drop (HT.sIx xs.length 0 lo)).take (HT.sIx xs.length xs.length hi - HT.sIx xs.length 0 lo),IsTup.new _ _⟩
noncomputable def zgD (K:PySem.W.Frag):R2:=fun x y H Q=>∃ a b xs ys,x=.ref a/\y=.ref b/\SqT K H a xs/\SqT K H b ys/\xs≠[]/\xs.length+ys.length<=sizeLine /\
 (ys=[]->Q (.ref a) H)/\(ys≠[]->∀ p,H p=none->Q (.ref p) (upd H p (.tup (xs++ys))))
theorem Vals.nil_iff {xs:List V}{us:List Value}(r:Vals xs us):us=[]↔xs=[]:=by
 cases r with
 | nil=>simp
 | cons _ _=>simp
theorem zcl:OpR X (binaryOp .Add) (zgD X.K):=by
 intro pins s σ H x y v u Q I rx ry h
 obtain⟨a,b,xs,ys,rfl,rfl,ha,hb,hx,hz,q1,q2⟩:=h
 cases rx
 cases ry
 obtain⟨its,r1,p1,_⟩:=I.tuple ha
 obtain⟨its2,r2,p2,_⟩:=I.tuple hb
 refine HT.zci p1 p2 (fun z=>hx (r1.nil_iff.mp z)) (fun z=>⟨.ref a,H,I,rfl,q1 (r2.nil_iff.mp z)⟩) (fun z=>?_) (by rw [← r1.length,← r2.length];exact hz)
 refine⟨.ref s.heap.objs.size,_,I.laid (t':=s.toks) (o:=.tup (xs++ys)) (fun b ob q=>Heap.get?_push_of_some _ q) (Nat.le_refl _) ?_,rfl,q2 (fun w=>z (r2.nil_iff.mpr w)) _ (I.hok.fresh (Nat.le_refl _))⟩
 exact⟨by rw [List.length_append];exact hz,_,r1.append r2,IsTup.new _ _⟩
end
end L2
namespace L2
open PySem PySem.Spec PyProof.Rows
noncomputable def ixN (n:Nat)(i:Int):Option Nat:=if 0<=i then(if i<n then some i.toNat else none) else if -(n:Int)<=i then some (i+n).toNat else none
noncomputable def atI {α:Type}(xs:List α)(i:Int):Option α:=(ixN xs.length i).bind fun j=>xs[j]?
theorem Vu {n:Nat}{i:Int}{j:Nat}(h:ixN n i=some j):seqIndex? i n=some j/\j<n/\-(n:Int)<=i/\i<n:=by
 unfold ixN at h
 by_cases h0:0<=i
 ·rw [if_pos h0] at h
  by_cases h1:i<n
  ·rw [if_pos h1] at h
   have e:i.toNat=j:=Option.some.inj h
   exact⟨by rw [seqIndex_of h0 h1,e],by omega,by omega,h1⟩
  ·rw [if_neg h1] at h;cases h
 ·rw [if_neg h0] at h
  by_cases h1:-(n:Int)<=i
  ·rw [if_pos h1] at h
   have e:(i+n).toNat=j:=Option.some.inj h
   exact⟨by rw [seqIndex_neg (by omega) h1,e],by omega,h1,by omega⟩
  ·rw [if_neg h1] at h;cases h
theorem Q9 {α:Type}{xs:List α}{i:Int}{v:α}(h:atI xs i=some v):∃ j,seqIndex? i xs.length=some j/\xs[j]? = some v/\j<xs.length/\-(xs.length:Int)<=i/\i<xs.length:=by
 unfold atI at h
 cases e:ixN xs.length i with
 | none=>rw [e] at h;cases h
 | some j=>
  rw [e] at h
  obtain⟨h1,h2,h3,h4⟩:=Vu e
  exact⟨j,h1,h,h2,h3,h4⟩
theorem atI_nat {α:Type}{xs:List α}{j:Nat}{v:α}(h:xs[j]? = some v):atI xs (j:Int)=some v:=by
 have hj:j<xs.length:=(List.getElem?_eq_some_iff.mp h).1
 have e:ixN xs.length (j:Int)=some j:=by
  unfold ixN
  rw [if_pos (by omega),if_pos (by omega)];simp
 unfold atI;rw [e];exact h
def Vv (b:Expr):Prop:=∀ o i,subscripted b false o i=operate [o,i] (getItem o i)
def IxR (X:Cx)(r:R2):Prop:=
 ∀ (value slice:Expr) (pins:List (Addr×Obj)) (s:Shared) (σ:St) (H:Hp) (x y:V) (v u:Value) (Q:VK),Inv X pins σ H s->RelV x v->RelV y u->r x y H Q ->
  subscripted slice false v u=operate [v,u] (getItem v u)->wpAny (model X.prog X.w) X.A (subscriptTail value slice v u) (EP X pins σ Q) X.xe s
def MtR (X:Cx)(id:String)(r:V->List V->Hp->VK->Prop):Prop:=
 ∀ (pins:List (Addr×Obj)) (s:Shared) (σ:St) (H:Hp) (x:V) (xs:List V) (v:Value) (us:List Value) (Q:VK),Inv X pins σ H s->RelV x v->Vals xs us->r x xs H Q ->
  wpAny (model X.prog X.w) X.A (call (.builtin id) (v::us)) (EP X pins σ Q) X.xe s
section
variable {X:Cx} {a b:Expr} {ta tb:TE} {pos:Pos}
theorem IxR.or {r r':R2}(h:IxR X r)(h':IxR X r'):IxR X (fun x y H Q=>r x y H Q\/r' x y H Q):=by
 intro value slice pins s σ H x y v u Q I rx ry q hs
 rcases q with q | q
 ·exact h value slice pins s σ H x y v u Q I rx ry q hs
 ·exact h' value slice pins s σ H x y v u Q I rx ry q hs
theorem MtR.or {id:String}{r r':V->List V->Hp->VK->Prop}(h:MtR X id r)(h':MtR X id r'):MtR X id (fun x xs H Q=>r x xs H Q\/r' x xs H Q):=by
 intro pins s σ H x xs v us Q I rx rs q
 rcases q with q | q
 ·exact h pins s σ H x xs v us Q I rx rs q
 ·exact h' pins s σ H x xs v us Q I rx rs q
theorem zdH {r:R2}(hr:IxR X r)(ha:PE X a ta)(hb:PE X b tb)(hs:Vv b):PE X (.Subscript a b pos) (tOp r ta tb):=by
 intro pins s σ H Q I h
 exact Subscript_ (binT ha hb I h fun v u s2 x y H2 I2 rx ry q=>hr a b pins s2 σ H2 x y v u Q I2 rx ry q (hs _ _))
noncomputable def rIxL (K:PySem.W.Frag):R2:=fun x y H Q=>∃ p xs i v,x=.ref p/\y=.int i/\SqL K H p xs/\atI xs i=some v/\Q v H
noncomputable def rIxT (K:PySem.W.Frag):R2:=fun x y H Q=>∃ p xs i v,x=.ref p/\y=.int i/\SqT K H p xs/\atI xs i=some v/\Q v H
noncomputable def rIxS:R2:=fun x y H Q=>∃ z i c,x=.str z/\y=.int i/\z.length<=sizeLine/\atI z.cps.toList i=some c/\Q (.str ⟨#[c]⟩) H
theorem Vw:IxR X (rIxL X.K):=by
 intro value slice pins s σ H x y v u Q I rx ry h hs
 obtain⟨p,xs,i,z,rfl,rfl,hq,he,q⟩:=h
 cases rx
 obtain⟨t,rfl⟩:=ry
 obtain⟨its,r,pl,hz⟩:=I.list hq
 obtain⟨j,h1,h2,h3,h4,h5⟩:=Q9 he
 obtain⟨w,ew,rw'⟩:=r.get h2
 have hl:=r.length
 have hn:=vX
 have fin:EP X pins σ Q w s:=⟨z,H,I,rw',q⟩
 by_cases h0:0<=i
 ·have hj:i.toNat=j:=by
   rw [seqIndex_of h0 h5] at h1
   exact Option.some.inj h1
  exact item_listR pl.isList h0 (by omega) (by rw [hj];simpa using ew) fin hs
 ·have hj:(i+(its.toArray.size:Int)).toNat=j:=by
   rw [seqIndex_neg (by omega) h4] at h1
   rw [List.size_toArray,← hl]
   exact Option.some.inj h1
  exact subscriptTail_builtinR (x:=w) pl.isList.typeIs slot_list_getitem.lookup
   (wpAny_getItem_list_neg (Q:=fun r s'=>r=w/\EP X pins σ Q r s') pl.isList (by omega) (by rw [List.size_toArray]<;>omega) (by omega) (by rw [hj];simpa using ew) ⟨rfl,fin⟩) hs
theorem KW:IxR X (rIxT X.K):=by
 intro value slice pins s σ H x y v u Q I rx ry h hs
 obtain⟨p,xs,i,z,rfl,rfl,hq,he,q⟩:=h
 cases rx
 obtain⟨t,rfl⟩:=ry
 obtain⟨its,r,pl,hz⟩:=I.tuple hq
 obtain⟨j,h1,h2,h3,h4,h5⟩:=Q9 he
 obtain⟨w,ew,rw'⟩:=r.get h2
 have hl:=r.length
 have hn:=vX
 have fin:EP X pins σ Q w s:=⟨z,H,I,rw',q⟩
 exact subscriptTail_builtinR (x:=w) pl.typeIs slot_tuple_getitem.lookup
  (getItem_tuple (j:=j) (Q:=fun r s'=>r=w/\EP X pins σ Q r s') pl (by omega) (by omega) (by rw [List.size_toArray,← hl];exact h1) (by simpa using ew) ⟨rfl,fin⟩) hs
theorem KY:IxR X rIxS:=by
 intro value slice pins s σ H x y v u Q I rx ry h hs
 obtain⟨z,i,c,rfl,rfl,hz,he,q⟩:=h
 obtain⟨t,rfl⟩:=rx
 obtain⟨t',rfl⟩:=ry
 obtain⟨j,h1,h2,h3,h4,h5⟩:=Q9 he
 have hl:z.cps.toList.length=z.length:=by simp [Str.length]
 rw [hl] at h1 h4 h5
 have hn:=vX
 exact tail_any (typeIs_str s z t) slot_str_getitem.lookup (getItem_str (c:=c) (by
  have e1:decide (i < -(2 ^ 63:Int))=false:=decide_eq_false (by omega)
  have e2:decide (i ≥ 2 ^ 63)=false:=decide_eq_false (by omega)
  rw [e1,e2,Bool.or_false]) (by rw [h1];simpa using h2) ⟨.str ⟨#[c]⟩,H,I.tok _,⟨_,rfl⟩,q⟩) hs
noncomputable def rIx (K:PySem.W.Frag):R2:=fun x y H Q=>rIxL K x y H Q\/rIxT K x y H Q\/rIxS x y H Q
theorem ix_seq:IxR X (rIx X.K):=Vw.or (KW.or KY)
theorem Xv (its:List Value)(n j:Nat)(u:Value):Obj.mapSeq (·.setIfInBounds j u) { cls:=.type "list",data:=.seq its.toArray n }={ cls:=.type "list",data:=.seq (its.set j u).toArray n }:=by
 simp [Obj.mapSeq]
theorem Inv.lst {pins:List (Addr×Obj)}{σ:St}{H:Hp}{s:Shared}{p:Addr}{xs:List V}(I:Inv X pins σ H s)(h:H p=some (.lst xs)) :
  ∃ (its:List Value) (n:Nat),Vals xs its/\s.heap.get? p=some { cls:=.type "list",data:=.seq its.toArray n }/\xs.length<=sizeLine:=by
 obtain⟨z,its,n,r,e⟩:=I.hok p _ h
 exact⟨its,n,r,e,z⟩
theorem Inv.lstUpd {pins:List (Addr×Obj)}{σ:St}{H:Hp}{s:Shared}{p:Addr}{xs ys:List V}{its its':List Value}{n n':Nat}{f:Obj->Obj}(I:Inv X pins σ H s)(h:H p=some (.lst xs))
  (ho:s.heap.get? p=some { cls:=.type "list",data:=.seq its.toArray n }) (hf:f { cls:=.type "list",data:=.seq its.toArray n }={ cls:=.type "list",data:=.seq its'.toArray n' }) (r:Vals ys its') (hz:ys.length<=sizeLine) (t:Nat) :
  Inv X pins σ (upd H p (.lst ys)) { s with heap:=s.heap.update p f,toks:=t }:=by
 have e:(s.heap.update p f).get? p=some { cls:=.type "list",data:=.seq its'.toArray n' }:=by
  rw [Heap.get?_update_self f ho (by rw [hf]<;>rfl),hf]
 refine I.write (x:=p) (e:=p) (by rw [h];trivial) (.inl rfl) (fun b u hb q=>(Heap.get?_update_other _ _ (Ne.symm hb)).trans q) ⟨_,e⟩ ?_
 exact⟨hz,its',n',r,e⟩
noncomputable def zdI:V->V->V->Hp->(Hp->Prop)->Prop:=fun o i v H Q=>∃ p xs k j,o=.ref p/\i=.int k/\H p=some (.lst xs)/\ixN xs.length k=some j/\Q (upd H p (.lst (xs.set j v)))
theorem set_list:PSet X zdI:=by
 intro pins s σ H o i v ov iv u Q I ro ri rv h
 obtain⟨p,xs,k,j,rfl,rfl,hp,hj,q⟩:=h
 cases ro
 obtain⟨t,rfl⟩:=ri
 obtain⟨its,n,r,ho,hz⟩:=I.lst hp
 obtain⟨h1,h2,h3,h4⟩:=Vu hj
 have hl:=r.length
 have hn:=vX
 have I':Inv X pins σ (upd H p (.lst (xs.set j v))) { s with heap:=s.heap.update p (Obj.mapSeq (·.setIfInBounds j u)) }:=
  I.lstUpd hp ho (Xv its n j u) (r.set rv j) (by rw [List.length_set];exact hz) s.toks
 by_cases h0:0<=k
 ·have hk:k.toNat=j:=by
   rw [seqIndex_of h0 h4] at h1
   exact Option.some.inj h1
  exact PySem.W.ki_setAt ho h0 (by omega) (by rw [List.size_toArray,← hl];exact h4) (by rw [hk];exact⟨_,I',q⟩)
 ·have hk:(k+(its.toArray.size:Int)).toNat=j:=by
   rw [seqIndex_neg (by omega) h3] at h1
   rw [List.size_toArray,← hl]
   exact Option.some.inj h1
  exact PySem.W.ki_setBack ho (by omega) (by rw [List.size_toArray,← hl];exact h3) (by omega) (by rw [hk];exact⟨_,I',q⟩)
theorem Ja (lo hi:Option Int)(n:Nat):(sliceBounds lo hi none n).1=((HT.sIx n 0 lo:Nat):Int)/\(sliceBounds lo hi none n).2.1=((HT.sIx n n hi:Nat):Int)/\(sliceBounds lo hi none n).2.2=1:=by
 refine⟨?_,?_,rfl⟩
 ·cases lo with
  | none=>simp [sliceBounds,HT.sIx]
  | some i=>
   simp only [sliceBounds,HT.sIx,Option.getD_none,show(1:Int) > 0 by decide,if_true]
   by_cases h:i<0
   ·simp only [h,if_true]<;>omega
   ·simp only [h,if_false]<;>omega
 ·cases hi with
  | none=>simp [sliceBounds,HT.sIx]
  | some i=>
   simp only [sliceBounds,HT.sIx,Option.getD_none,show(1:Int) > 0 by decide,if_true]
   by_cases h:i<0
   ·simp only [h,if_true]<;>omega
   ·simp only [h,if_false]<;>omega
theorem Qc (its:List Value)(lo hi:Option Int):slicePick its.toArray lo hi none=((its.drop (HT.sIx its.length 0 lo)).take (HT.sIx its.length its.length hi - HT.sIx its.length 0 lo)).toArray:=by
 obtain⟨h1,h2,h3⟩:=Ja lo hi its.toArray.size
 unfold slicePick
 rw [h1,h2,h3]
 simp only [sliceRange_one,pick_run,List.size_toArray]<;>rfl
noncomputable def rSlL (K:PySem.W.Frag):V->Option Int->Option Int->Hp->VK->Prop:=fun x lo hi H Q=>∃ a xs,x=.ref a/\SqL K H a xs/\∀ p,H p=none->Q (.ref p) (upd H p (.lst (cutV xs lo hi)))
theorem zcm:SlR X (rSlL X.K):=by
 intro pins s σ H x v vl vu lo hi sl Q I rx hs pl pu h
 obtain⟨a,xs,rfl,hx,q⟩:=h
 cases rx
 obtain⟨its,r,ht,hz⟩:=I.list hx
 have hlen:=r.length
 refine⟨"list",_,slot_list_getitem.lookup,ht.isList.typeIs,?_⟩
 refine wpAny_getItem_list_slice ht.isList hs pl pu .none (by simp) ?_ (by rw [List.size_toArray]<;>omega)
 rw [Qc,← hlen]
 refine⟨.ref s.heap.objs.size,_,I.laid (t':=s.toks) (o:=.lst (cutV xs lo hi)) (fun b ob q=>Heap.get?_push_of_some _ q) (Nat.le_refl _) ?_,rfl,q _ (I.hok.fresh (Nat.le_refl _))⟩
 exact⟨Nat.le_trans (kE xs lo hi) hz,_,0,(r.drop (HT.sIx xs.length 0 lo)).take (HT.sIx xs.length xs.length hi - HT.sIx xs.length 0 lo),Heap.get?_push_size _ rfl⟩
noncomputable def zE:V->Bool
 | .non=>true
 | .bl _=>true
 | .int _=>true
 | .str _=>true
 | _=>false
noncomputable def eqV:V->V->Bool
 | .non,.non=>true
 | .bl a,.bl b=>a == b
 | .bl a,.int b=>(if a then 1 else 0) == b
 | .int a,.bl b=>a == (if b then 1 else 0)
 | .int a,.int b=>a == b
 | .str a,.str b=>a == b
 | _,_=>false
theorem KZ {A:Around}{s:Shared}{y x:V}{u v:Value}(ry:RelV y u)(rx:RelV x v)(fy:zE y=true)(fx:zE x=true):SeqAt.EqAt A s u v (eqV y x):=by
 cases y with
 | non=>
  cases ry
  cases x with
  | non=>cases rx;exact SeqAt.EqAt.same _
  | bl b=>cases rx;exact SeqAt.EqAt.none_bool b
  | int b=>obtain⟨t,rfl⟩:=rx;exact SeqAt.EqAt.none_int b t
  | str b=>obtain⟨t,rfl⟩:=rx;exact SeqAt.EqAt.none_str b t
  | _=>exact absurd (show false=true from fx) Bool.false_ne_true
 | bl a=>
  cases ry
  cases x with
  | non=>cases rx;exact SeqAt.EqAt.bool_none a
  | bl b=>cases rx;exact SeqAt.EqAt.bool_bool a b
  | int b=>obtain⟨t,rfl⟩:=rx;exact SeqAt.EqAt.bool_int a b t
  | str b=>obtain⟨t,rfl⟩:=rx;exact SeqAt.EqAt.bool_str a b t
  | _=>exact absurd (show false=true from fx) Bool.false_ne_true
 | int a=>
  obtain⟨t',rfl⟩:=ry
  cases x with
  | non=>cases rx;exact SeqAt.EqAt.int_none a t'
  | bl b=>cases rx;exact SeqAt.EqAt.int_bool a t' b
  | int b=>obtain⟨t,rfl⟩:=rx;exact SeqAt.EqAt.int_int a t' b t
  | str b=>obtain⟨t,rfl⟩:=rx;exact SeqAt.EqAt.int_str a t' b t
  | _=>exact absurd (show false=true from fx) Bool.false_ne_true
 | str a=>
  obtain⟨t',rfl⟩:=ry
  cases x with
  | non=>cases rx;exact SeqAt.EqAt.str_none a t'
  | bl b=>cases rx;exact SeqAt.EqAt.str_bool a t' b
  | int b=>obtain⟨t,rfl⟩:=rx;exact SeqAt.EqAt.str_int a t' b t
  | str b=>obtain⟨t,rfl⟩:=rx;exact SeqAt.EqAt.str_str a t' b t
  | _=>exact absurd (show false=true from fx) Bool.false_ne_true
 | _=>exact absurd (show false=true from fy) Bool.false_ne_true
noncomputable def eqU (x:V)(u:Value):Bool:=match u with
 | .none=>eqV .non x
 | .bool b=>eqV (.bl b) x
 | .int i _=>eqV (.int i) x
 | .str z _=>eqV (.str z) x
 | _=>false
theorem K0 {x y:V}{u:Value}(r:RelV y u)(f:zE y=true):eqU x u=eqV y x:=by
 cases y with
 | non=>cases r;rfl
 | bl b=>cases r;rfl
 | int i=>obtain⟨t,rfl⟩:=r;rfl
 | str z=>obtain⟨t,rfl⟩:=r;rfl
 | _=>exact absurd (show false=true from f) Bool.false_ne_true
theorem ym {x:V}:∀ {xs:List V} {us:List Value},Vals xs us->xs.all zE=true->us.any (eqU x)=xs.any fun y=>eqV y x
 | _,_,.nil,_=>rfl
 | y::xs,u::us,.cons r t,f=>by
  rw [List.all_cons,Bool.and_eq_true] at f
  rw [List.any_cons,List.any_cons,K0 r f.1,ym t f.2]
theorem xG {A:Around}{s:Shared}{x:V}{v:Value}(rx:RelV x v)(fx:zE x=true):∀ {xs:List V} {us:List Value},Vals xs us->xs.all zE=true->∀ u∈us,SeqAt.EqAt A s u v (eqU x u)
 | _,_,.nil,_=>fun u hu=>by cases hu
 | y::xs,u::us,.cons r t,f=>fun u' hu=>by
  rw [List.all_cons,Bool.and_eq_true] at f
  rcases List.mem_cons.mp hu with rfl | hu
  ·rw [K0 r f.1];exact KZ r rx f.1 fx
  ·exact xG rx fx t f.2 u' hu
noncomputable def inV (x:V)(xs:List V):Bool:=xs.any fun y=>eqV y x
noncomputable def rIn (K:PySem.W.Frag)(neg:Bool):R2:=fun x y H Q=>∃ p xs,y=.ref p/\(SqL K H p xs\/SqT K H p xs)/\zE x=true/\xs.all zE=true/\Q (.bl (if neg then !inV x xs else inV x xs)) H
theorem YK:OpR X (compareOp .In) (rIn X.K false):=by
 intro pins s σ H x y v u Q I rx ry h
 obtain⟨p,xs,rfl,hq,fx,fs,q⟩:=h
 cases ry
 rcases hq with hq | hq
 ·obtain⟨its,r,pl,hz⟩:=I.list hq
  refine SeqAt.in_listAt (eqU x) pl.isList (fun w hw=>xG rx fx r fs w (by simpa using hw)) ⟨.bl _,H,I,rfl,?_⟩
  rw [show its.toArray.any (eqU x)=its.any (eqU x) by simp,ym r fs]
  exact q
 ·obtain⟨its,r,pl,hz⟩:=I.tuple hq
  refine SeqAt.in_tupleAt (eqU x) pl (fun w hw=>xG rx fx r fs w (by simpa using hw)) ⟨.bl _,H,I,rfl,?_⟩
  rw [show its.toArray.any (eqU x)=its.any (eqU x) by simp,ym r fs]
  exact q
theorem Jb:OpR X (compareOp .NotIn) (rIn X.K true):=by
 intro pins s σ H x y v u Q I rx ry h
 obtain⟨p,xs,rfl,hq,fx,fs,q⟩:=h
 cases ry
 rcases hq with hq | hq
 ·obtain⟨its,r,pl,hz⟩:=I.list hq
  refine SeqAt.notIn_listAt (eqU x) pl.isList (fun w hw=>xG rx fx r fs w (by simpa using hw)) ⟨.bl _,H,I,rfl,?_⟩
  rw [show its.toArray.any (eqU x)=its.any (eqU x) by simp,ym r fs]
  exact q
 ·obtain⟨its,r,pl,hz⟩:=I.tuple hq
  refine SeqAt.notIn_tupleAt (eqU x) pl (fun w hw=>xG rx fx r fs w (by simpa using hw)) ⟨.bl _,H,I,rfl,?_⟩
  rw [show its.toArray.any (eqU x)=its.any (eqU x) by simp,ym r fs]
  exact q
theorem Jc:qc X (.builtin "len") (fun xs H Q=>∃ p ys,xs=[.ref p]/\(SqL X.K H p ys\/SqT X.K H p ys)/\Q (.int ys.length) H):=by
 intro pins s σ H xs us Q I r h
 obtain⟨p,ys,rfl,hq,q⟩:=h
 obtain⟨u,rfl,rx⟩:=vals1 r
 cases rx
 have hn:=vX
 rcases hq with hq | hq
 ·obtain⟨its,r',pl,hz⟩:=I.list hq
  have hlen:=r'.length
  exact Calls.call_len_list pl.isList (by simp only [List.size_toArray]<;>omega) ⟨.int ys.length,H,I.tok _,⟨s.toks+1,by rw [List.size_toArray,hlen]⟩,q⟩
 ·obtain⟨its,r',pl,hz⟩:=I.tuple hq
  have hlen:=r'.length
  exact len_tuple pl (by simp only [List.size_toArray]<;>omega) ⟨.int ys.length,H,I.tok _,⟨s.toks+1,by rw [List.size_toArray,hlen]⟩,q⟩
theorem Jd:qc X (.builtin "len") (fun xs H Q=>∃ z,xs=[.str z]/\z.length<=sizeLine/\Q (.int z.length) H):=by
 intro pins s σ H xs us Q I r h
 obtain⟨z,rfl,hz,q⟩:=h
 obtain⟨u,rfl,t,rfl⟩:=vals1 r
 have hn:=vX
 exact len_str (by omega) ⟨.int z.length,H,I.tok _,⟨_,rfl⟩,q⟩
theorem qc.or {f:Value}{r r':List V->Hp->VK->Prop}(h:qc X f r)(h':qc X f r'):qc X f (fun xs H Q=>r xs H Q\/r' xs H Q):=by
 intro pins s σ H xs us Q I rs q
 rcases q with q | q
 ·exact h pins s σ H xs us Q I rs q
 ·exact h' pins s σ H xs us Q I rs q
theorem Je:qc X (.type "list") (fun xs H Q=>∃ p ys,xs=[.ref p]/\(SqL X.K H p ys\/SqT X.K H p ys)/\∀ l,H l=none->Q (.ref l) (upd H l (.lst ys))):=by
 intro pins s σ H xs us Q I r h
 obtain⟨p,ys,rfl,hq,q⟩:=h
 obtain⟨u,rfl,rx⟩:=vals1 r
 cases rx
 have fin:∀ (its:List Value),Vals ys its->ys.length<=sizeLine->∀ (h':Heap) (c':Nat),(∀ b o',s.heap.get? b=some o'->h'.get? b=some o') ->
   h'.get? s.heap.objs.size=some { cls:=.type "list",dict:=none,data:=.seq its.toArray c',slots:=#[] }->EP X pins σ Q (.ref s.heap.objs.size) { s with heap:=h' }:=fun its r' hz h' c' kp e=>
  ⟨.ref s.heap.objs.size,_,I.laid (t':=s.toks) kp (Nat.le_refl _) (show zM X.prog X.w _ h' _ (.lst ys) from⟨hz,its,c',r',e⟩),rfl,q _ (I.hok.fresh (Nat.le_refl _))⟩
 rcases hq with hq | hq
 ·obtain⟨its,r',pl,hz⟩:=I.list hq
  have hlen:=r'.length
  obtain⟨o,ho,hc,n,hd⟩:=pl.isList
  exact call_list_seq p (.inl rfl) ho hc hd (fun h' c' kp e=>fin its r' hz h' c' kp e) (by simp only [List.size_toArray]<;>omega)
 ·obtain⟨its,r',pl,hz⟩:=I.tuple hq
  have hlen:=r'.length
  obtain⟨o,ho,hc,n,hd⟩:=pl
  exact call_list_seq p (.inr rfl) ho hc hd (fun h' c' kp e=>fin its r' hz h' c' kp e) (by simp only [List.size_toArray]<;>omega)
theorem Qd:qc X (.type "tuple") (fun xs H Q=>∃ p ys,xs=[.ref p]/\((SqL X.K H p ys/\∀ l,H l=none->Q (.ref l) (upd H l (.tup ys)))\/(SqT X.K H p ys/\Q (.ref p) H))):=by
 intro pins s σ H xs us Q I r h
 obtain⟨p,ys,rfl,h⟩:=h
 obtain⟨u,rfl,rx⟩:=vals1 r
 cases rx
 rcases h with⟨hq,q⟩ | ⟨hq,q⟩
 ·obtain⟨its,r',pl,hz⟩:=I.list hq
  have hlen:=r'.length
  refine call_tuple_list pl.isList (fun h' kp=>?_) (by simp only [List.size_toArray]<;>omega)
  have I1:Inv X pins σ H { s with heap:=h' }:=I.kept (t':=s.toks) kp
  have I2:Inv X pins σ (upd H h'.objs.size (.tup ys)) { s with heap:=h'.push { cls:=.type "tuple",data:=.seq its.toArray } }:=
   I1.laid (t':=s.toks) (fun b o e=>Heap.get?_push_of_some _ e) (Nat.le_refl _) (show zM X.prog X.w _ _ _ (.tup ys) from⟨hz,its,r',IsTup.new _ _⟩)
  exact⟨.ref h'.objs.size,_,I2,rfl,q _ (I1.hok.fresh (Nat.le_refl _))⟩
 ·obtain⟨its,r',pl,hz⟩:=I.tuple hq
  exact call_tuple_same pl ⟨.ref p,H,I,rfl,q⟩
def tyV (K:PySem.W.Frag)(T:String)(x:V)(H:Hp):Prop:=match x with
 | .str _=>T="str"
 | .int _=>T="int"
 | .ref p=>(T="list"/\∃ xs,SqL K H p xs)\/(T="tuple"/\∃ o,K.lookup p=some o/\o.cls=.type "tuple"/\o.dict=none) \/
   (T="dict"/\((∃ kvs,H p=some (.dK kvs))\/∃ kvs,H p=some (.dT kvs)))\/(T="set"/\∃ S n,H p=some (.set S n))
 | _=>False
theorem K4 {pins:List (Addr×Obj)}{σ:St}{H:Hp}{s:Shared}{T:String}{x:V}{v:Value}(I:Inv X pins σ H s)(r:RelV x v)(ty:tyV X.K T x H) :
  s.TypeIs v T/\∀ a,v=.ref a->∃ ob,s.heap.get? a=some ob/\ob.dict=none:=by
 cases x with
 | str z=>
  obtain⟨t,rfl⟩:=r
  cases (show T="str" from ty)
  exact⟨typeIs_str s z t,fun _ e=>nomatch e⟩
 | int i=>
  obtain⟨t,rfl⟩:=r
  cases (show T="int" from ty)
  exact⟨typeIs_int s i t,fun _ e=>nomatch e⟩
 | ref p=>
  cases r
  rcases ty with⟨rfl,xs,hq⟩ | ⟨rfl,o,hk,hc,hd⟩ | ⟨rfl,hk⟩ | ⟨rfl,S,n,hk⟩
  ·obtain⟨its,_,pl,_⟩:=I.list hq
   refine⟨pl.isList.typeIs,fun a e=>?_⟩
   cases e
   obtain⟨o,n,e,c,hd,_⟩:=pl
   exact⟨o,e,hd⟩
  ·refine⟨⟨o,I.kIn p o hk,hc⟩,fun a e=>?_⟩
   cases e
   exact⟨o,I.kIn _ o hk,hd⟩
  ·have z:∃ o,s.heap.get? p=some o/\o.ExactDict:=by
    rcases hk with⟨kvs,hk⟩ | ⟨kvs,hk⟩
    ·obtain⟨_,_,_,_,o,_,_,e,ex,_⟩:=I.hok p _ hk
     exact⟨o,e,ex⟩
    ·obtain⟨_,_,_,_,o,_,_,e,ex,_⟩:=I.hok p _ hk
     exact⟨o,e,ex⟩
   obtain⟨o,e,ex⟩:=z
   refine⟨⟨o,e,ex.1⟩,fun a e2=>?_⟩
   cases e2
   exact⟨o,e,ex.2.1⟩
  ·obtain⟨o,_,_,_,e,ex,_⟩:=I.hok p _ hk
   refine⟨⟨o,e,ex.1⟩,fun a e2=>?_⟩
   cases e2
   exact⟨o,e,ex.2.1⟩
 | _=>exact False.elim ty
noncomputable def tBM0 (K:PySem.W.Frag)(T:String)(r:V->List V->Hp->VK->Prop)(to:TE):TE:=fun σ H Q=>to σ H fun x H1=>tyV K T x H1/\r x [] H1 Q
noncomputable def tBM (K:PySem.W.Frag)(T:String)(r:V->List V->Hp->VK->Prop)(to:TE)(t:TA):TE:=fun σ H Q=>to σ H fun x H1=>tyV K T x H1/\t σ H1 fun xs H2=>r x xs H2 Q
variable {o e:Expr} {es:List Expr} {to:TE} {t:TA} {name:Str} {apos cpos:Pos} {T id:String} {r:V->List V->Hp->VK->Prop}
theorem ze8 (pa:PlainAttrs T)(slot:Slot T name id)(hty:typeOf (.builtin id)=pure (.type "method_descriptor"))(hm:MtR X id r)(ho:PE X o to)
  (hbase:attributeBase o name X.env (eval o X.env)=eval o X.env:=by rfl) (hline:(apos.endLine == cpos.line)=true:=by rfl):PE X (.Call (.Attribute o name apos) [] [] cpos) (tBM0 X.K T r to):=by
 intro pins s σ H Q I h
 refine wpAny_Call_method0_late hbase hline (thn (ho pins s σ H _ I h) fun v s1 ⟨x,H1,I1,r1,ty,q1⟩=>?_)
 obtain⟨h1,h2⟩:=K4 I1 r1 ty
 exact⟨T,id,pa,slot,hty,h1,h2,Calls.callWith_builtin rfl (PySem.evalArgs_none (hm pins s1 σ H1 x [] v [] Q I1 r1 .nil q1))⟩
theorem zgE (pa:PlainAttrs T)(slot:Slot T name id)(hty:typeOf (.builtin id)=pure (.type "method_descriptor"))(hm:MtR X id r)(ho:PE X o to)(ha:PA X (e::es) t)
  (hbase:attributeBase o name X.env (eval o X.env)=eval o X.env:=by rfl)
  (hfew:((backTo cpos (starEach (e::es) X.env)).all (fun x=>!x.1)&&(backToKw cpos (keywordEach [] X.env)).all (fun x=>x.1.isSome)
   && decide ((e::es).length+([]:List Keyword).length+(if ([]:List Keyword).isEmpty then 0 else 1)<30))=true:=by rfl)
  (hline:(apos.endLine == cpos.line)=true:=by rfl) (hs:starEach (e::es) X.env=(false,eval e X.env)::starEach es X.env:=by rfl) (hplain:(backTo cpos (starEach es X.env)).any (·.1)=false:=by rfl) :
  PE X (.Call (.Attribute o name apos) (e::es) [] cpos) (tBM X.K T r to t):=by
 intro pins s σ H Q I h
 refine wpAny_Call_method_late hbase hfew hline rfl (thn (ho pins s σ H _ I h) fun v s1 ⟨x,H1,I1,r1,ty,q1⟩=>?_)
 obtain⟨h1,h2⟩:=K4 I1 r1 ty
 refine⟨T,id,pa,slot,hty,h1,h2,?_⟩
 have hA:=ha cpos pins s1 σ H1 _ I1 q1
 rw [hs] at hA ⊢
 refine Calls.callWith_builtin (by show(false||(backTo cpos (starEach es X.env)).any (·.1))=false;rw [hplain]<;>rfl) (Calls.evalArgs_plain ?_)
 exact thn hA fun us s2 ⟨vs,H2,I2,r2,q2⟩=>hm pins s2 σ H2 x vs v us Q I2 r1 r2 q2
end
end L2
namespace L2
open PySem PySem.Spec PyProof.Rows
def MtM (X:Cx)(id:String)(r:V->List V->Hp->VK->Prop):Prop:=
 ∀ (pins:List (Addr×Obj)) (s:Shared) (σ:St) (H:Hp) (x:V) (xs:List V) (v:Value) (us:List Value) (Q:VK),Inv X pins σ H s->RelV x v->Vals xs us->r x xs H Q ->
  wpAny (model X.prog X.w) X.A (call (.builtin id) (v::us)) (EP X pins σ Q) X.xe s
theorem Vals.one:∀ {x:V} {us:List Value},Vals [x] us->∃ u,us=[u]/\RelV x u
 | _,_,.cons r .nil=>⟨_,rfl,r⟩
theorem Vals.zero:∀ {us:List Value},Vals [] us->us=[]
 | _,.nil=>rfl
theorem Vals.dropLast {xs:List V}{us:List Value}(h:Vals xs us):Vals xs.dropLast us.dropLast:=by
 induction h with
 | nil=>exact .nil
 | cons r t ih=>
  cases t with
  | nil=>exact .nil
  | cons q t'=>exact .cons r ih
theorem Xw {α:Type}(l:List α):l.eraseIdx (l.length - 1)=l.dropLast:=by
 induction l with
 | nil=>rfl
 | cons a r ih=>
  cases r with
  | nil=>rfl
  | cons b r=>
   have e:(a::b::r).length - 1=((b::r).length - 1)+1:=by
    have h1:(a::b::r).length=r.length+2:=rfl
    have h2:(b::r).length=r.length+1:=rfl
    omega
   rw [e,List.eraseIdx_cons_succ,ih]
   all_goals rfl
section
variable {X:Cx} {pins:List (Addr×Obj)} {σ:St} {H:Hp} {s:Shared} {l b:Addr} {xs ys zs:List V}
theorem Inv.lset {its its':List Value}{n:Nat}{f:Array Value->Array Value}{t':Nat}(I:Inv X pins σ H s)(hH:H l=some (.lst xs))
  (e:s.heap.get? l=some { cls:=.type "list",data:=.seq its.toArray n }) (hf:f its.toArray=its'.toArray) (hv:Vals ys its') (hz:ys.length<=sizeLine) :
  Inv X pins σ (upd H l (.lst ys)) { s with heap:=s.heap.update l (Obj.mapSeq f),toks:=t' }:=by
 have q:=PySem.IsL.update e f
 rw [hf] at q
 refine I.write (x:=l) (e:=l) (by rw [hH];exact trivial) (.inl rfl) (fun b' u hb hu=>(Heap.get?_update_other s.heap (Obj.mapSeq f) (Ne.symm hb)).trans hu) ⟨_,q⟩ ?_
 exact⟨hz,its',_,hv,q⟩
theorem Inv.lnew {its:List Value}{t':Nat}(I:Inv X pins σ H s)(hv:Vals ys its)(hz:ys.length<=sizeLine) :
  Inv X pins σ (upd H s.heap.objs.size (.lst ys)) { s with heap:=s.heap.push { cls:=.type "list",data:=.seq its.toArray },toks:=t' }:=
 I.laid (fun _ _ q=>Heap.get?_push_of_some _ q) (Nat.le_refl _) ⟨hz,its,0,hv,Heap.get?_push_size _ rfl⟩
theorem Inv.fresh (I:Inv X pins σ H s):H s.heap.objs.size=none:=I.hok.fresh (Nat.le_refl _)
theorem Inv.lstM (I:Inv X pins σ H s)(hH:H l=some (.lst xs)):xs.length<=sizeLine/\∃ (its:List Value) (n:Nat),Vals xs its/\xs.length=its.length/\s.heap.get? l=some { cls:=.type "list",data:=.seq its.toArray n }:=by
 obtain⟨z,its,n,r,e⟩:=I.hok l _ hH
 exact⟨z,its,n,r,r.length,e⟩
theorem K5 {n:Nat}(h:n<=sizeLine):Builtin.List.listTooLong n=false:=by
 unfold Builtin.List.listTooLong
 exact decide_eq_false (by omega)
end
section
variable {X:Cx}
noncomputable def Vx:V->List V->Hp->VK->Prop:=fun x vs H Q=>∃ l xs y,x=.ref l/\vs=[y]/\H l=some (.lst xs)/\xs.length<sizeLine/\Q .non (upd H l (.lst (xs++[y])))
theorem QF:MtM X "list.append" Vx:=by
 intro pins s σ H x vs v us Q I rx rv h
 obtain⟨l,xs,y,rfl,rfl,hH,hz,q⟩:=h
 cases rx
 obtain⟨u,rfl,ru⟩:=rv.one
 obtain⟨z,its,n,r,hl,e⟩:=I.lstM hH
 refine call_meets F.slot_list_append ⟨_,e,rfl⟩ F.entry_list_append (F.args_list_append_2 _ _) (PySem.list_append l its.toArray n u (by rw [List.size_toArray];omega)) ⟨e,?_⟩
 refine⟨.non,_,I.lset (its':=its++[u]) hH e (by simp) (r.append (.cons ru .nil)) ?_,rfl,q⟩
 rw [List.length_append,List.length_singleton]
 omega
noncomputable def Vy:V->List V->Hp->VK->Prop:=fun x vs H Q=>∃ l b xs zs,x=.ref l/\vs=[.ref b]/\H l=some (.lst xs)/\H b=some (.lst zs)/\xs.length+zs.length<=sizeLine/\Q .non (upd H l (.lst (xs++zs)))
theorem YL:MtM X "list.extend" Vy:=by
 intro pins s σ H x vs v us Q I rx rv h
 obtain⟨l,b,xs,zs,rfl,rfl,hH,hB,hz,q⟩:=h
 cases rx
 obtain⟨u,rfl,ru⟩:=rv.one
 cases ru
 obtain⟨z,its,n,r,hl,e⟩:=I.lstM hH
 obtain⟨z2,its2,n2,r2,hl2,e2⟩:=I.lstM hB
 have hsz:its.toArray.size+its2.toArray.size<=sizeLine:=by rw [List.size_toArray,List.size_toArray];omega
 have hlong:¬ (!its.toArray.isEmpty&&Builtin.List.listTooLong (its.toArray.size+its2.toArray.size))=true:=by
  rw [K5 hsz,Bool.and_false]
  exact Bool.false_ne_true
 refine call_meets F.slot_list_extend ⟨_,e,rfl⟩ F.entry_list_extend (F.args_list_extend_2 _ _)
  (AutoSeq1.list_extend_list_list_0 l its.toArray n b its2.toArray n2 hlong (by rw [List.size_toArray];omega) (by omega)) ⟨e,e2,?_⟩
 refine⟨.non,_,I.lset (its':=its++its2) hH e (by simp) (r.append r2) ?_,rfl,q⟩
 rw [List.length_append]
 omega
noncomputable def rPop:V->List V->Hp->VK->Prop:=fun x vs H Q=>∃ l xs y,x=.ref l/\vs=[]/\H l=some (.lst xs)/\xs[xs.length - 1]? = some y/\Q y (upd H l (.lst xs.dropLast))
theorem ze9:MtM X "list.pop" rPop:=by
 intro pins s σ H x vs v us Q I rx rv h
 obtain⟨l,xs,y,rfl,rfl,hH,hy,q⟩:=h
 cases rx
 have hus:=rv.zero
 subst hus
 obtain⟨z,its,n,r,hl,e⟩:=I.lstM hH
 obtain⟨u,hu,ru⟩:=r.get hy
 have hy':its.toArray[its.toArray.size - 1]? = some u:=by
  show its.toArray[its.length - 1]? = some u
  rw [← Array.getElem?_toList,← hl]
  exact hu
 refine call_meets F.slot_list_pop ⟨_,e,rfl⟩ F.entry_list_pop (F.args_list_pop_1 _) (MeetsSeq.list_pop_last l its.toArray n u hy' (by rw [List.size_toArray];omega)) ⟨e,?_⟩
 refine⟨y,_,I.lset (its':=its.dropLast) hH e ?_ r.dropLast ?_,ru,q⟩
 ·show its.toArray.eraseIdxIfInBounds (its.toArray.size - 1)=its.dropLast.toArray
  rw [List.size_toArray,List.eraseIdxIfInBounds_toArray,Xw]
 ·rw [List.length_dropLast]
  omega
noncomputable def K6:V->List V->Hp->VK->Prop:=fun x vs H Q=>∃ l xs,x=.ref l/\vs=[]/\H l=some (.lst xs)/\Q .non (upd H l (.lst []))
theorem K7:MtM X "list.clear" K6:=by
 intro pins s σ H x vs v us Q I rx rv h
 obtain⟨l,xs,rfl,rfl,hH,q⟩:=h
 cases rx
 have hus:=rv.zero
 subst hus
 obtain⟨z,its,n,r,hl,e⟩:=I.lstM hH
 refine call_meets F.slot_list_clear ⟨_,e,rfl⟩ F.entry_list_clear (F.args_list_clear_1 _) (AutoSeq1.list_clear_list_0 l its.toArray n (by rw [List.size_toArray];omega)) ⟨e,?_⟩
 exact⟨.non,_,I.lset (its':=[]) (ys:=[]) hH e rfl .nil (Nat.zero_le _),rfl,q⟩
noncomputable def rCat:R2:=fun x y H Q=>∃ l b xs zs,x=.ref l/\y=.ref b/\H l=some (.lst xs)/\H b=some (.lst zs)/\xs.length+zs.length<=sizeLine/\∀ p,H p=none->Q (.ref p) (upd H p (.lst (xs++zs)))
theorem zfa:OpR X (binaryOp .Add) rCat:=by
 intro pins s σ H x y v u Q I rx ry h
 obtain⟨l,b,xs,zs,rfl,rfl,hH,hB,hz,q⟩:=h
 cases rx
 cases ry
 obtain⟨z,its,n,r,hl,e⟩:=I.lstM hH
 obtain⟨z2,its2,n2,r2,hl2,e2⟩:=I.lstM hB
 refine PySem.P.add_list e e2 ?_ (by rw [List.size_toArray,List.size_toArray];omega)
 have ea:its.toArray++its2.toArray=(its++its2).toArray:=by simp
 rw [ea]
 exact⟨.ref _,_,I.lnew (t':=s.toks) (r.append r2) (by rw [List.length_append];omega),rfl,q _ I.fresh⟩
end
section
variable {prog:Program} {w:World} {A:Around} {E:Value->Shared->Prop} {s:Shared}
set_option maxRecDepth 100000 in
end
section
variable {X:Cx}
end
end L2
namespace Att
open PySem PySem.W PySem.Calls PyProof.Rows
theorem kR {P:Params}{h:Heap}:∀ (ns:List Int) (vs:List Value),WellAll P h vs (ns.map WData.int)->IntsAre vs ns:=by
 intro ns
 induction ns with
 | nil=>
  intro vs w
  rw [List.map_nil] at w
  cases w
  exact .nil
 | cons n ns ih=>
  intro vs w
  rw [List.map_cons] at w
  cases w with
  | cons a b=>
   cases a
   exact .cons _ _ (ih _ b)
theorem YM {l:OpenLaw}{n:Nat}(hn:l.most=some n){P:Params}{h:Heap}{args:List WData}{vals:List Value}
  (hpre:l.row.toRowW.claim.pre args=true) (hwl:WellAll P h vals args) :
  ∃ a vs ns,vals=[Value.ref a]/\args=[WData.list (ns.map WData.int)]/\h.get? a=some { cls:=.type "list",data:=.seq vs.toArray }/\IntsAre vs ns/\ns.length<=n:=by
 have hsh:WShape.hasAll [] args [.list .int]=true:=(pre_splitW hpre).1
 have hc:l.pre.holds [] { args:=args }=true:=(pre_splitW hpre).2
 obtain⟨d,r,rfl,h1,h2⟩:=hasAllW_cons hsh
 obtain rfl:=hasAllW_nil h2
 obtain⟨xs,rfl,h3⟩:=hasW_list h1
 obtain⟨ns,rfl⟩:=items_int h3
 have hlen:ns.length<=n:=by
  unfold OpenLaw.pre at hc
  have h4:(WTm.not (.lt (.lit (.int (n:Int))) (.len (.arg 0)))).holds [] { args:=[.list (ns.map .int)] }=true:=by
   have h4:=(holds_andW hc).1
   rw [hn] at h4
   exact h4
  have h5:=condW_of h4 (w_not (w_lt w_lit (w_len_list (w_arg rfl))))
  rw [List.length_map] at h5
  refine Nat.le_of_not_lt fun q=>?_
  have q':(n:Int)<((ns.length:Nat):Int):=by omega
  first
   | (rw [decide_eq_true q'] at h5;exact absurd h5 (by decide))
   | (simp at h5;omega)
 cases hwl with
 | cons w1 w2=>
  cases w2
  cases w1 with
  | list ho hall=>exact⟨_,_,ns,rfl,rfl,ho,kR ns _ hall,hlen⟩
theorem YN (l:OpenLaw)(args:List WData):l.row.toRowW.claim.post args (.bool true) args=true:=
 postW_of (r:=l.row.toRowW) (X:=(true == true))
  (show WShape.has [] (.bool true) .bool=true by first | rfl | decide | simp [WShape.has,WShape.arms,WShape.armsAll])
  (show(WTm.eq .res (.lit (.bool true))).value [] { args:=args,res:=some (.bool true),after:=args }=some (.bool (true == true)) from w_eq_bool (w_res rfl) w_lit) rfl
theorem attach_call {l:OpenLaw}{n:Nat}{q:Program}{loose:List Str}{XP:(Str->Option Value)->Heap->Prop}{YP:World->Heap->Prop}{d:DefRec}
  (hn:l.most=some n) (hdf:d.params.defaults=[])
  (call:∀ (w:World) (s₀ s₁:Shared) (mg mb:Str->Option Value) (fa:Addr) (o:Obj) (pm cd doc:Value) (a:Addr) (vs:List Value) (ns:List Int),
   Ground q loose [] XP w s₀ mg mb s₁.heap->YP w s₁.heap ->
   s₁.heap.get? fa=some o->o.data=.func (docDef d.name d.params d.body d.scope pm cd doc)->s₁.heap.CodeRec cd d.name->mg d.name=some (.ref fa) ->
   s₁.heap.get? a=some { cls:=.type "list",data:=.seq vs.toArray }->IntsAre vs ns->ns.length<=n->s₁.gens = #[] ->
   codeAny (model l.prog w) callerA (.call (.ref fa) ⟨[.ref a],[]⟩) (fun r s'=>r=.ok (.ret (.bool true))/\OldK s₁.heap s'.heap/\s'.os=s₁.os/\AllBare s'.gens) s₁) :
  WalkO q loose XP YP l.row.toRowW d [] (fun f vs=>PySem.call f vs):=by
 intro w s₀ s₁ mg mb G Y fa o pm cd doc dV kV ho hd hcd hD hmg hg args vals as hpre hlay hrd hwl hlo
 obtain rfl:dV=.none:=Dflts.none hD hdf
 obtain rfl:kV=.none:=Dflts.noKw hD
 obtain⟨a,vs,ns,rfl,rfl,hobj,hints,hlen⟩:=YM hn hpre hwl
 refine enter_call (codeAny_mono (call w s₀ s₁ mg mb fa o pm cd doc a vs ns G Y ho (fd_plain hd) hcd hmg hobj hints hlen hg) fun r s' hq=>?_)
 obtain⟨rfl,h2,h3,h4⟩:=hq
 exact⟨.inl ⟨.bool true,.bool true,[],rfl,fun _=>rfl,.bool true,YN l _,fun _=>⟨List.Pairwise.nil,fun _ hm=>(nomatch hm)⟩⟩,h2,h3,h4⟩
section
variable {prog:Program} {w:World} {A:Around} {E:Value->Shared->Prop} {s:Shared} {K:Frag}
end
end Att
namespace L2
open PySem PySem.Spec PyProof.Rows
theorem QG:∀ {vs:List Value} {ns:List Int},IntsAre vs ns->Vals (ns.map V.int) vs
 | _,_,.nil=>.nil
 | _,_,.cons n t h=>.cons ⟨t,rfl⟩ (QG h)
def Only (H:Hp):Prop:=∀ b,H b=none\/∃ o xs,H b=some (.frz o (.lst xs))
theorem K8 {P:Program}{w:World}{K:PySem.W.Frag}{mg mb:Str->Option Value}{CX:CXT}{k:Nat}{fa a:Addr}{fd:FuncData}{x:Str}{sp:Sp}{s₁:Shared}{vs:List Value}{ns:List Int}
  (KX:K.In s₁.heap) (hns:s₁.heap.Ns mainGlobals mg) (hb:s₁.heap.Ns builtinsNs mb) (hbb:∀ x:Str,x≠"__name__"->mb x=bootBuiltins x) (hlim:s₁.heap.NoLimit) (hg:s₁.gens = #[])
  (ha:s₁.heap.get? a=some { cls:=.type "list",data:=.seq vs.toArray }) (hi:IntsAre vs ns) (hl:ns.length<=sizeLine) (hr:Room k callerA)
  (F:∀ base:Heap,K.In base->base.Ns mainGlobals mg->FnOk P w K mg base CX k fa fd [x] sp) (hbind:∀ (s:Shared) (u:Value),BindsTo s fd ⟨[u],[]⟩ [(x,u)])
  (hsp:∀ H:Hp,Only H->SqL K H a (ns.map V.int)->sp [.ref a] H (fun v _=>v=.bl true) fun _ _ _=>False)
  (hCX:∀ H e s',CX [] H s₁ (fun _ _ _=>False) e s'->False) :
  codeAny (model P w) callerA (.call (.ref fa) ⟨[.ref a],[]⟩) (fun r s'=>r=.ok (.ret (.bool true))/\OldK s₁.heap s'.heap/\s'.os=s₁.os/\AllBare s'.gens) s₁:=by
 have rv:=QG hi
 have lenV:=hi.length
 have core:∀ H:Hp,Only H->SqL K H a (ns.map V.int)->HOk P w H s₁.heap->(∀ b,H b≠none->b=a)->(H a≠none->K.lookup a=none) ->
   codeAny (model P w) callerA (.call (.ref fa) ⟨[.ref a],[]⟩) (fun r s'=>r=.ok (.ret (.bool true))/\OldK s₁.heap s'.heap/\s'.os=s₁.os/\AllBare s'.gens) s₁:=by
  intro H hO hS hok hA hK
  have base_of:∀ {b:Addr} {o:Obj},s₁.heap.get? b=some o->H b=none->(hidT s₁.heap H).get? b=some o:=fun e n=>Ky e n
  have noA:∀ {b:Addr} {o:Obj} {es:Array DictEntry} {ep:Nat},s₁.heap.get? b=some o->o.data=.dict es ep->H b=none:=fun {b o es ep} e d=>by
   cases q:H b with
   | none=>rfl
   | some u=>
    have e':b=a:=hA b (by rw [q];simp)
    subst e'
    rw [ha] at e;cases e
    have d':Data.seq vs.toArray _=Data.dict es ep:=d
    cases d'
  have nsK:∀ {b:Addr} {m:Str->Option Value},s₁.heap.Ns b m->(hidT s₁.heap H).Ns b m:=fun {b m} ⟨o,es,ep,e,d,r⟩=>⟨o,es,ep,base_of e (noA e d),d,r⟩
  have hKb:K.In (hidT s₁.heap H):=fun b o e=>base_of (KX b o e) (by
   cases q:H b with
   | none=>rfl
   | some u=>
    have e':b=a:=hA b (by rw [q];simp)
    subst e'
    rw [hK (by rw [q];simp)] at e;cases e)
  have hM:Mod K mg (hidT s₁.heap H):=⟨hKb,nsK hns,⟨mb,nsK hb,hbb⟩,let ⟨mc,h1,h2⟩:=hlim;⟨mc,nsK h1,h2⟩⟩
  have e0:Env0 P w K mg (hidT s₁.heap H) callerA [] s₁ H:=⟨rfl,hM,fun b o e=>zb5 e,Nat.le_of_eq (Yy _ _),trivial,fun b hb=>absurd (show b∈([]:List Addr) from hb) (by simp),hok,.of_eq hg⟩
  refine codeAny_mono ((F _ hKb (nsK hns)).run callerA [] s₁ H ⟨[.ref a],[]⟩ [.ref a] [.ref a] _ _ hr e0 (hbind s₁ (.ref a)) (.cons rfl .nil) (hsp H hO hS)) fun r s' h=>?_
  cases r with
  | error e=>exact(hCX H e s' h).elim
  | ok fl=>
   cases fl with
   | next=>exact False.elim h
   | brk=>exact False.elim h
   | cont=>exact False.elim h
   | ret u=>
    obtain⟨v,H',os,bare,un,hok',r',q⟩:=h
    have q':v=.bl true:=q
    subst q'
    obtain rfl:u=Value.bool true:=r'
    refine⟨rfl,OldK.of_keep fun b o e=>?_,os,bare⟩
    cases q:H b with
    | none=>exact un.keep b o e q (by intro z;exact absurd (show b∈([]:List Addr) from z) (by simp)) (by simp)
    | some u=>
     rcases hO b with z | ⟨ob,xs,z⟩
     ·rw [q] at z;cases z
     ·have z2:=un.frzs b ob _ z
      obtain⟨e1,_⟩:=hok b _ z
      obtain⟨e2,_⟩:=hok' b _ z2
      rw [e] at e1;cases e1
      exact e2
 cases hk:K.lookup a with
 | some o=>
  have e:=KX a o hk
  rw [ha] at e
  cases e
  refine core (fun _=>none) (fun _=>.inl rfl) (.inr ⟨_,vs.toArray,_,hk,rfl,rfl,rfl,by rw [List.size_toArray,lenV];exact hl,by simpa using rv⟩) (fun b u z=>by have z':(none:Option HO)=some u:=z;cases z') (fun b z=>absurd rfl z) fun z=>absurd rfl z
 | none=>
  refine core (fun b=>if b=a then some (.frz { cls:=.type "list",data:=.seq vs.toArray } (.lst (ns.map V.int))) else none) (fun b=>?_) (.inl (.inr ⟨{ cls:=.type "list",data:=.seq vs.toArray },if_pos rfl⟩)) (fun b u z=>?_) (fun b z=>?_) fun _=>hk
  ·by_cases hb:b=a
   ·exact .inr ⟨_,_,if_pos hb⟩
   ·exact .inl (if_neg hb)
  ·by_cases hb:b=a
   ·have z':=(if_pos hb).symm.trans z
    cases z'
    subst hb
    exact⟨ha,by rw [List.length_map];exact hl,vs,_,rv,ha⟩
   ·have z':=(if_neg hb).symm.trans z
    cases z'
  ·by_cases hb:b=a
   ·exact hb
   ·exact absurd (if_neg hb) z
end L2
namespace L2
open PySem PySem.Spec PyProof.Rows
theorem zcn {l:PySem.W.OpenLaw}{n k:Nat}{q:Program}{loose:List Str}{XP:(Str->Option Value)->Heap->Prop}{YP:World->Heap->Prop}{d:DefRec}{K:Params->PySem.W.Frag}{CX:World->CXT}{sp:World->Sp}{x:Str}
  (hn:l.most=some n) (hn2:n<=sizeLine) (hdf:d.params.defaults=[]) (hr:Room k callerA)
  (hY:∀ (w:World) (h:Heap),YP w h->(K w.params).In h)
  (F:∀ (w:World) (mg:Str->Option Value) (fa:Addr) (h:Heap),(K w.params).In h->h.Ns mainGlobals mg->mg d.name=some (.ref fa) ->
   ∃ fd:FuncData,(∀ (s:Shared) (u:Value),BindsTo s fd ⟨[u],[]⟩ [(x,u)]) /\
    ∀ base:Heap,(K w.params).In base->base.Ns mainGlobals mg->FnOk l.prog w (K w.params) mg base (CX w) k fa fd [x] (sp w))
  (hsp:∀ (w:World) (H:Hp) (a:Addr) (ns:List Int),ns.length<=n->Only H->SqL (K w.params) H a (ns.map V.int)->sp w [.ref a] H (fun v _=>v=.bl true) fun _ _ _=>False)
  (hCX:∀ (w:World) (H:Hp) (s:Shared) (e:Value) (s':Shared),CX w [] H s (fun _ _ _=>False) e s'->False) :
  PySem.W.WalkO q loose XP YP l.row.toRowW d [] (fun f vs=>PySem.call f vs):=by
 refine Att.attach_call hn hdf fun w s₀ s₁ mg mb fa o pm cd doc a vs ns G Y ho hd hcd hmg hobj hints hlen hg=>?_
 have KX:=hY w _ Y
 obtain⟨fd,hb,hF⟩:=F w mg fa _ KX G.T.g hmg
 exact K8 KX G.T.g G.T.b G.T.builtins G.T.nolimit hg hobj hints (Nat.le_trans hlen hn2) hr hF hb (fun H hO hS=>hsp w H a ns hlen hO hS) fun H e s'=>hCX w H s₁ e s'
end L2
namespace L2
open PySem PySem.Spec PyProof.Rows
noncomputable def jM (s:Stmt):Arguments:=match s with
 | .FunctionDef _ a _ _ _ _ _ _ _ _=>a
 | _=>{ posonlyargs:=[],args:=[],vararg:=none,kwonlyargs:=[],kw_defaults:=[],kwarg:=none,defaults:=[] }
noncomputable def zN (s:Stmt):List Stmt:=match s with
 | .FunctionDef _ _ b _ _ _ _ _ _ _=>b
 | _=>[]
noncomputable def za (s:Stmt):Scope:=match s with
 | .FunctionDef _ _ _ _ _ _ sc _ _ _=>sc
 | _=>{ kind:=.function,names:=[],isGenerator:=false,isCoroutine:=false }
noncomputable abbrev CX0:CXT:=fun _ _ _ _ _ _=>False
noncomputable abbrev E0:XK:=fun _ _ _=>False
structure Fun (K:PySem.W.Frag)(x qual:Str)(st:Stmt)(f:Addr)(fd:FuncData):Prop where
 ex:∃ (oc:Value) (od:Option Addr) (kV doc pm:Value) (an:Option Addr) (cdv ct:Value) (osl:Array (Option Value)),
  fd=PySem.W.fnOf x qual (jM st) (zN st) (za st) .none kV doc pm an cdv ct/\K.lookup f=some ⟨oc,od,.func fd,osl⟩/\PySem.W.codeIn K cdv qual=true
 kp:PySem.W.keepIn K (.ref f)=true
section
variable {P:Program} {w:World} {K:PySem.W.Frag} {mg:Str->Option Value} {base:Heap}
theorem Fun.ok {x qual:Str}{st:Stmt}{f:Addr}{fd:FuncData}{N ps:List Str}{k:Nat}{sp:Sp}(F:Fun K x qual st f fd)(S:zj N ps (za st))(len:∀ vs H Q E,sp vs H Q E->vs.length=ps.length)
  (hbody:∀ (cdv:Value) (A:Around) (outer:List Env) (s:Shared) (H:Hp) (vs:List V) (Q:VK) (E:XK),Room k (A.deeper (envOfC qual (za st) s.heap.objs.size f cdv))->sp vs H Q E ->
   ∃ t,PSs (cxOf CX0 P w K mg base N qual (za st) f cdv A outer s H E).nox (zN st) t/\t { nx:=fun _ H'=>Q .non H',rt:=Q } (start N vs) H):FnOk P w K mg base CX0 (k+1) f fd ps sp:=by
 obtain⟨oc,od,kV,doc,pm,an,cdv,ct,osl,rfl,lk,hcd⟩:=F.ex
 refine zdF lk hcd S len fun A outer s H vs Q E hr hsp=>?_
 obtain⟨t,h,q⟩:=hbody cdv A outer s H vs Q E hr hsp
 exact⟨t,h.nox,q⟩
theorem Fun.binds {x qual:Str}{st:Stmt}{f:Addr}{fd:FuncData}{ps:List Str}(F:Fun K x qual st f fd)
  (h:∀ (kV doc pm:Value) (an:Option Addr) (cdv ct:Value) (us:List Value),us.length=ps.length->bindArgs (PySem.W.fnOf x qual (jM st) (zN st) (za st) .none kV doc pm an cdv ct) ⟨us,[]⟩=pure (ps.zip us)):Binds K fd ps []:=by
 obtain⟨oc,od,kV,doc,pm,an,cdv,ct,osl,rfl,lk,hcd⟩:=F.ex
 exact .all (h kV doc pm an cdv ct)
theorem K9 {x qual:Str}{st:Stmt}{f:Addr}{oc:Value}{od an:Option Addr}{osl:Array (Option Value)}{kV doc pm cdv ct:Value}(l:K.lookup f=some ⟨oc,od,.func (PySem.W.fnOf x qual (jM st) (zN st) (za st) .none kV doc pm an cdv ct),osl⟩)
  (c:PySem.W.codeIn K cdv qual=true) (k:PySem.W.keepIn K (.ref f)=true):Fun K x qual st f (PySem.W.fnOf x qual (jM st) (zN st) (za st) .none kV doc pm an cdv ct):=⟨⟨oc,od,kV,doc,pm,an,cdv,ct,osl,rfl,l,c⟩,k⟩
end
section
variable {X:Cx}
theorem pv (i:Nat){x:Str}{pos:Pos}(hN:X.N[i]? = some x:=by rfl) (hv:Vis X.env.scope x:=by first | exact Or.inl rfl | exact Or.inr (Or.inl rfl) | exact Or.inr (Or.inr rfl)) (hd:(x == ("__debug__":Str))=false:=by decide)
  (hcd:(x == ("__classdict__":Str))=false:=by decide):PE X (.Name x pos) (tVar i):=zeL hN hv hd hcd
end
def Same (H H':Hp):Prop:=∀ b o,H b=some o->H' b=some o
theorem Same.trans {H H1 H2:Hp}(a:Same H H1)(b:Same H1 H2):Same H H2:=fun c o h=>b c o (a c o h)
end L2
namespace L2
open PySem PySem.Spec PyProof.Rows
noncomputable def Its (x:Str):It:=⟨fun i _=>i<x.cps.size,fun i H v H'=>H' = H/\∃ c,x.cps[i]? = some c/\v=.str ⟨#[c]⟩,fun i _=>x.cps.size<=i⟩
section
variable {X:Cx} {tg:Expr}
theorem kF {P:Program}{w:World}{K:PySem.W.Frag}{tg:Expr}{x:Str}{t:Tok}{ty:String}{it:Addr}
  (hty:["enumerate","zip","dict_itemiterator","dict_reverseitemiterator","odict_iterator","itertools.zip_longest","itertools.pairwise"].contains ty=false)
  (W:∀ A':Around,A'.handled=none->Walks P w A' it [it] [it] x.cps.size (SignAt x) (fun i h=>h.IsStrIter it ty x t i))
  (hend:∀ (A':Around) (s:Shared) (i:Nat) (E:Value->Shared->Prop) (Q:Option Value->Shared->Prop),A'.handled=none->s.heap.IsStrIter it ty x t i->x.cps[i]? = none ->
   (∀ h',(∀ b o,b≠it->s.heap.get? b=some o->h'.get? b=some o)->Q none { s with heap:=h' })->wpAny (model P w) A' (pyNext (.ref it)) Q E s)
  (hself:∀ (A':Around) (s:Shared) (i:Nat) (E:Value->Shared->Prop) (Q:Value->Shared->Prop),s.heap.IsStrIter it ty x t i->Q (.ref it) s->wpAny (model P w) A' (pyIter (.ref it)) Q E s) :
  Turn P w K tg (Its x) [it] it (fun i h=>h.IsStrIter it ty x t i) where
 mem:=by simp
 obj:=fun i h st b hb=>by
  have e:b=it:=by simpa using hb
  subst e
  obtain⟨o,e,c,d⟩:=st
  exact⟨o,e,fun v z=>by rw [d] at z;cases z⟩
 keep:=fun i h h' st k=>let ⟨o,ho,r⟩:=st;⟨o,k it (by simp) o ho,r⟩
 item:=by
  intro X hP hw hK hc i pins s σ H E I hf st hg
  subst hP hw hK
  obtain⟨f0,f1,f2,f3,f4,f5⟩:=hf it (by simp)
  refine(W X.A (I.ok.hd hc)).item i s _ _ hg st fun v h' tk hv st' kk=>?_
  obtain⟨c,u,hcu,rfl⟩:=hv
  have I1:Inv X pins σ H { s with heap:=h',toks:=tk }:=I.turned (fun b o hb e=>kk b o (by simpa using hb) e) f0 f1 f3 f4 f5
  obtain⟨o,e,hcl,d⟩:=id st'
  exact⟨_,rfl,Qy (s:={ s with heap:=h',toks:=tk }) e hcl d hty ⟨.str ⟨#[c]⟩,H,I1,⟨u,rfl⟩,⟨rfl,c,hcu,rfl⟩,st',fun b hb=>(hf b hb).1⟩⟩
 done:=by
  intro X hP hw hK hc i pins s σ H E I hf st hg
  subst hP hw hK
  obtain⟨f0,f1,f2,f3,f4,f5⟩:=hf it (by simp)
  have hg':x.cps.size<=i:=hg
  exact hend X.A s i E _ (I.ok.hd hc) st (by simp [hg']) fun h' eb=>⟨rfl,I.turned (t':=s.toks) (fun b o hb e=>eb b o hb e) f0 f1 f3 f4 f5⟩
 self:=fun A i s Q E st h=>hself A s i E Q st h
end
end L2
namespace L2
open PySem PySem.Spec PyProof.Rows
theorem jW {env:Env}(y:Str):∀ (names:List (Str×NameKind)),
  (names.map fun(n,k)=>if (k == NameKind.free&&env.scope.kind == .function&&env.kindOf n == some .cell) then(n,NameKind.cell) else(n,k)).lookup y =
   (names.lookup y).map fun k=>if (k == NameKind.free&&env.scope.kind == .function&&env.kindOf y == some .cell) then NameKind.cell else k
 | []=>rfl
 | (n,k)::r=>by
  have ih:=jW y r (env:=env)
  rw [List.map_cons]
  by_cases hy:y=n
  ·subst hy
   show List.lookup y ((if (k == NameKind.free&&env.scope.kind == .function&&env.kindOf y == some .cell)=true then(y,NameKind.cell) else(y,k))::_)=_
   by_cases hc:(k == NameKind.free&&env.scope.kind == .function&&env.kindOf y == some .cell)=true
   ·rw [if_pos hc]
    simp only [List.lookup_cons,beq_self_eq_true,Option.map_some,hc,if_true]
   ·rw [if_neg hc]
    simp only [List.lookup_cons,beq_self_eq_true,Option.map_some,hc,if_false]
    rfl
  ·have hb:(y == n)=false:=by simpa using hy
   show List.lookup y ((if (k == NameKind.free&&env.scope.kind == .function&&env.kindOf n == some .cell)=true then(n,NameKind.cell) else(n,k))::_)=_
   by_cases hc:(k == NameKind.free&&env.scope.kind == .function&&env.kindOf n == some .cell)=true
   ·rw [if_pos hc]
    simp only [List.lookup_cons,hb]
    exact ih
   ·rw [if_neg hc]
    simp only [List.lookup_cons,hb]
    exact ih
theorem vZ {env:Env}:∀ (names:List (Str×NameKind)) (cs:List (Str×Addr)),(∀ y∈names,y.2=.free->∃ c,env.cells.lookup y.1=some c)->(∀ y c,cs.lookup y=some c->env.cells.lookup y=some c) ->
  ∃ cl,(forIn (m:=Sem) names cs fun(x:Str×NameKind) (r:List (Str×Addr))=>(if (x.2 == .free)=true then(do let c ← cellOf env x.1;pure (ForInStep.yield ((x.1,c)::r))) else pure (ForInStep.yield r)))=pure cl /\
   (∀ y c,cl.lookup y=some c->env.cells.lookup y=some c)/\(∀ y∈names,y.2=.free->∃ c,cl.lookup y.1=some c)/\∀ y,(∃ c,cs.lookup y=some c)->∃ c,cl.lookup y=some c
 | [],cs,_,hcs=>⟨cs,rfl,hcs,(fun _ h=>nomatch h),(fun _ h=>h)⟩
 | (n,k)::r,cs,h,hcs=>by
  by_cases hk:k=.free
  ·subst hk
   obtain⟨c,hc⟩:=h (n,.free) List.mem_cons_self rfl
   have hc:env.cells.lookup n=some c:=hc
   have hcs':∀ y c',((n,c)::cs).lookup y=some c'->env.cells.lookup y=some c':=fun y c' e=>by
    by_cases hy:y=n
    ·subst hy
     simp only [List.lookup_cons,beq_self_eq_true] at e
     cases e
     exact hc
    ·have hb:(y == n)=false:=by simpa using hy
     simp only [List.lookup_cons,hb] at e
     exact hcs y c' e
   obtain⟨cl,e1,e2,e3,e4⟩:=vZ r ((n,c)::cs) (fun y hy=>h y (List.mem_cons_of_mem _ hy)) hcs'
   refine⟨cl,?_,e2,fun y hy hf=>?_,fun y hy=>e4 y ?_⟩
   ·rw [List.forIn_cons]
    simp only [beq_self_eq_true,if_true,cellOf,hc]
    exact e1
   ·rcases List.mem_cons.mp hy with rfl | hy
    ·exact e4 n ⟨c,by simp only [List.lookup_cons,beq_self_eq_true]⟩
    ·exact e3 y hy hf
   ·obtain⟨c',hc'⟩:=hy
    by_cases hy:y=n
    ·subst hy
     exact⟨c,by simp only [List.lookup_cons,beq_self_eq_true]⟩
    ·have hb:(y == n)=false:=by simpa using hy
     exact⟨c',by simp only [List.lookup_cons,hb];exact hc'⟩
  ·obtain⟨cl,e1,e2,e3,e4⟩:=vZ r cs (fun y hy=>h y (List.mem_cons_of_mem _ hy)) hcs
   refine⟨cl,?_,e2,fun y hy hf=>?_,e4⟩
   ·have hb:(k == NameKind.free)=false:=by simpa using hk
    rw [List.forIn_cons]
    simp only [hb,Bool.false_eq_true,if_false]
    exact e1
   ·rcases List.mem_cons.mp hy with rfl | hy
    ·exact absurd hf hk
    ·exact e3 y hy hf
theorem Xx {env:Env}{scope:Scope}(h:∀ y∈scope.names,y.2=.free->∃ c,env.cells.lookup y.1=some c) :
  ∃ cl,closureFor scope env=pure cl/\(∀ y c,cl.lookup y=some c->env.cells.lookup y=some c)/\(∀ y∈scope.names,y.2=.free->∃ c,cl.lookup y.1=some c):=by
 obtain⟨cl,e1,e2,e3,_⟩:=vZ scope.names [] h (fun y c e=>by simp at e)
 refine⟨cl,?_,e2,e3⟩
 have e:closureFor scope env=(forIn (m:=Sem) scope.names [] fun(x:Str×NameKind) (r:List (Str×Addr))=>(if (x.2 == .free)=true then(do let c ← cellOf env x.1;pure (ForInStep.yield ((x.1,c)::r))) else pure (ForInStep.yield r))) >>= fun cs=>pure cs:=rfl
 rw [e,e1]
 rfl
theorem J8 {prog:Program}{w:World}{A:Around}{R:Result->Shared->Prop}{s:Shared}{elt target iter:Expr}{ifs:List Expr}{scope:Scope}{pos:Pos}{it acc:Value}{env:Env}(I:Nat->Shared->Prop)
  (turn:∀ n s,I n s->wpAny (model prog w) A (pyNext it) (fun r s₁=>match r with
   | none=>R (.ok .next) s₁
   | some v=>wpAny (model prog w) A (letOwnedTupleGo target it v) (fun _ s₁=>wpAny (model prog w) A (assign target env v) (fun _ s₂=>
     wpAny (model prog w) A (forIn ifs true fun c r=>if r=true then do let ok ← isTrue c env (eval c env);pure (ForInStep.yield ok) else pure (ForInStep.yield r)) (fun ok s₃=>
      if ok=true then wpAny (model prog w) A (eval elt env) (fun x s₄=>
       wpAny (model prog w) A (call (.builtin "list.append") [acc,x]) (fun _ s₅=>∃ m,m<n/\I m s₅) (fun _ _=>False) s₄) (fun _ _=>False) s₃
      else ∃ m,m<n/\I m s₃) (fun _ _=>False) s₂) (fun _ _=>False) s₁) (fun _ _=>False) s₁) (fun _ _=>False) s)
  (n:Nat) (h:I n s) :
  codeAny (model prog w) A (.compLoop (.ListComp elt [⟨target,iter,ifs,0⟩] scope pos) 0 it acc env) R s:=by
 refine codeAny_loop rfl I (fun n s hI=>?_) n h
 show wpAny _ A ((compTurn (.ListComp elt [⟨target,iter,ifs,0⟩] scope pos) 0 it acc env).onRaise (fun x=>do noteFrame x env;theTreesLotGoes x)) _ _ s
 refine wpAny_noted ?_
 rw [compTurn_list]
 refine wpAny_bind (wpAny_standAt (wpAny_bind (wpAny_mono (turn n s hI) (fun r s₁ h₁=>?_) fun _ _ h'=>h'.elim)))
 cases r with
 | none=>exact wpAny_pure h₁
 | some v=>
  refine wpAny_bind (wpAny_mono h₁ (fun _ s₁ h₁=>?_) fun _ _ h'=>h'.elim)
  refine wpAny_bind (wpAny_mono h₁ (fun _ s₂ h₂=>wpAny_bind (wpAny_mono h₂ (fun ok s₃ h₃=>?_) fun _ _ h'=>h'.elim)) fun _ _ h'=>h'.elim)
  cases ok with
  | false=>exact wpAny_pure ⟨rfl,h₃⟩
  | true=>
   exact wpAny_bind (wpAny_bind (wpAny_mono h₃ (fun x s₄ h₄=>wpAny_bind (wpAny_mono h₄ (fun _ s₅ h₅=>wpAny_pure (wpAny_pure ⟨rfl,h₅⟩)) fun _ _ h'=>h'.elim)) fun _ _ h'=>h'.elim))
def PTs (X:Cx)(ifs:List Expr)(t:TT):Prop:=
 ∀ (pins:List (Addr×Obj)) (s:Shared) (σ:St) (H:Hp) (Q:Bool->Hp->Prop),Inv X pins σ H s->t σ H Q ->
  wpAny (model X.prog X.w) X.A (forIn ifs true fun c r=>if r=true then do let ok ← isTrue c X.env (eval c X.env);pure (ForInStep.yield ok) else pure (ForInStep.yield r)) (TP X pins σ Q) X.xe s
noncomputable def zgF:TT:=fun _ H Q=>Q true H
theorem zco {X:Cx}:PTs X [] zgF:=fun _ _ _ H _ I h=>wpAny_tests_nil ⟨H,I,h⟩
theorem zcp {X:Cx}{c:Expr}{t:TT}(h:PT X c t):PTs X [c] t:=fun pins s σ H Q I hw=>wpAny_tests_one (h pins s σ H Q I hw)
section
variable {X:Cx} {elt iter:Expr} {x:Str} {px pos:Pos} {ifs:List Expr} {scope:Scope} {wi:TI} {tt:TT} {te:TE}
end
end L2
namespace L2
open PySem PySem.Spec PyProof.Rows
noncomputable def S (l:List Nat):Str:=⟨l.toArray⟩
theorem zaa (l:List Nat):(S l).cps.toList=l:=rfl
theorem ji (l:List Nat):(S l).length=l.length:=by simp [S,Str.length]
theorem zab (l:List Nat):(S l).cps.size=l.length:=by simp [S]
theorem zgG (l:List Nat)(i:Nat):(S l).cps[i]? = l[i]?:=by simp [S]
theorem S_of (x:Str):S x.cps.toList=x:=by simp [S]
theorem zdJ {a b:List Nat}:S a=S b↔a=b:=⟨fun h=>by have:=congrArg (fun x=>x.cps.toList) h;simpa [S] using this,fun h=>by rw [h]⟩
theorem zac (a b:List Nat):S a++S b=S (a++b):=by
 show Str.append (S a) (S b)=_
 simp [S,Str.append]
section
variable {X:Cx} {a b e:Expr} {ta tb te:TE} {pos:Pos}
theorem pe_S {x:Str}{l:List Nat}{j pos}(h:x=S l):PE X (.Constant (.str x) j pos) (tC (.str (S l))):=by
 subst h;exact zeO
theorem zcq:OpR X (binaryOp .Add) (fun x y H Q=>∃ i j,x=.str (S i)/\y=.str (S j)/\i.length+j.length<=sizeLine/\Q (.str (S (i++j))) H):=by
 intro pins s σ H x y v u Q I rx ry h
 obtain⟨i,j,rfl,rfl,hz,q⟩:=h
 exact Xr pins s σ H _ _ v u Q I rx ry ⟨S i,S j,rfl,rfl,by rw [ji,ji];exact hz,by rw [zac];exact q⟩
theorem zcr:OpR X (binaryOp .Mult) (rI IntMulOk fun i j=>.int (i * j)):=opI fun _ _ _ _ _ _ _ hc q=>mul_int q hc
noncomputable def zdK:R2:=fun x y H Q=>∃ l i c,x=.str (S l)/\y=.int i/\l.length<=sizeLine/\atI l i=some c/\Q (.str (S [c])) H
theorem ix_S:IxR X zdK:=by
 intro value slice pins s σ H x y v u Q I rx ry h hs
 obtain⟨l,i,c,rfl,rfl,hz,he,q⟩:=h
 exact KY value slice pins s σ H _ _ v u Q I rx ry ⟨S l,i,c,rfl,rfl,by rw [ji];exact hz,he,q⟩ hs
theorem YO:qc X (.builtin "len") (fun xs H Q=>∃ l,xs=[.str (S l)]/\l.length<=sizeLine/\Q (.int l.length) H):=by
 intro pins s σ H xs us Q I r h
 obtain⟨l,rfl,hz,q⟩:=h
 exact Jd pins s σ H _ us Q I r ⟨S l,rfl,by rw [ji];exact hz,by rw [ji];exact q⟩
noncomputable def cutN (xs:List Nat)(lo hi:Option Int):List Nat:=(xs.drop (HT.sIx xs.length 0 lo)).take (HT.sIx xs.length xs.length hi - HT.sIx xs.length 0 lo)
end
end L2
namespace L2
open PySem PySem.Spec PyProof.Rows
section
variable {X:Cx} {a b e:Expr} {ta tb te:TE} {pos:Pos}
theorem zad (lo hi:Option Int)(n:Nat):Builtin.Str.strSliceIndices lo hi 1 n=(List.range (HT.sIx n n hi - HT.sIx n 0 lo)).map (HT.sIx n 0 lo + ·):=by
 have h1:(match lo with | none=>(0:Int) | some i=>max 0 (min (if i<0 then i+(n:Int) else i) (n:Int)))=((HT.sIx n 0 lo:Nat):Int):=by
  cases lo with
  | none=>simp [HT.sIx]
  | some i=>
   simp only [HT.sIx]
   by_cases h:i<0
   ·simp only [h,if_true];omega
   ·simp only [h,if_false];omega
 have h2:(match hi with | none=>(n:Int) | some i=>max 0 (min (if i<0 then i+(n:Int) else i) (n:Int)))=((HT.sIx n n hi:Nat):Int):=by
  cases hi with
  | none=>simp [HT.sIx]
  | some i=>
   simp only [HT.sIx]
   by_cases h:i<0
   ·simp only [h,if_true];omega
   ·simp only [h,if_false];omega
 rw [← sliceRange_one,← h1,← h2]
 cases lo<;>cases hi<;>rfl
theorem YQ (n:Nat)(hi:Option Int):HT.sIx n n hi<=n:=HT.sIx_le n n (Nat.le_refl _) hi
theorem sl_S:SlR X (fun x lo hi H Q=>∃ l,x=.str (S l)/\l.length<=sizeLine/\Q (.str (S (cutN l lo hi))) H):=by
 intro pins s σ H x v vl vu lo hi sl Q I rx hs pl pu h
 obtain⟨l,rfl,hz,q⟩:=h
 obtain⟨t,rfl⟩:=rx
 refine⟨"str",_,F.slot_str_getitem.lookup,typeIs_str s _ t,?_⟩
 obtain⟨pl',el⟩:∃ p,vl=partValue p/\p.map (·.1)=lo:=by
  cases pl with
  | none=>exact⟨none,rfl,rfl⟩
  | int i t=>exact⟨some (i,t),rfl,rfl⟩
 obtain⟨pu',eu⟩:∃ p,vu=partValue p/\p.map (·.1)=hi:=by
  cases pu with
  | none=>exact⟨none,rfl,rfl⟩
  | int i t=>exact⟨some (i,t),rfl,rfl⟩
 have hsl:s.heap.IsSlice sl pl' pu' none:=by
  obtain⟨o,h1,h2,h3⟩:=hs
  exact⟨o,h1,h2,by rw [h3,el.1,eu.1];rfl⟩
 refine wpAny_getItem_str_slice hsl rfl ?_
 unfold sliceMade slicePicked
 refine post_val_or_made (fun _=>?_) fun t' k=>?_
 ·rw [el.2,eu.2,Option.map_none,Option.getD_none,zad,ji]
  have e:((List.range (HT.sIx l.length l.length hi - HT.sIx l.length 0 lo)).map (HT.sIx l.length 0 lo + ·)).filterMap ((S l).cps[·]?)=cutN l lo hi:=by
   rw [pick_run];rfl
  rw [e]
  show(S (cutN l lo hi)).length<=sizeLine
  rw [ji]
  unfold cutN
  rw [List.length_take,List.length_drop]
  omega
 ·refine⟨.str _,H,I.tok _,⟨_,rfl⟩,?_⟩
  rw [el.2,eu.2,Option.map_none,Option.getD_none,zad,ji]
  have e:((List.range (HT.sIx l.length l.length hi - HT.sIx l.length 0 lo)).map (HT.sIx l.length 0 lo + ·)).filterMap ((S l).cps[·]?)=cutN l lo hi:=by
   rw [pick_run];rfl
  rw [e]
  split
  ·rename_i hc
   have hc':HT.sIx l.length l.length hi - HT.sIx l.length 0 lo=l.length:=by
    simpa using hc
   have h2:=YQ l.length hi
   have e2:cutN l lo hi=l:=by
    unfold cutN
    have h3:HT.sIx l.length 0 lo=0:=by
     by_cases hl:l.length=0
     ·have:=HT.sIx_le l.length 0 (Nat.zero_le _) lo;omega
     ·omega
    rw [hc',h3,List.drop_zero,List.take_length]
   rw [e2] at q
   exact q
  ·exact q
theorem Zk:∀ {ts:List Str} {us:List Value},Vals (ts.map V.str) us->StrsAre us ts
 | [],_,r=>by rw [List.map_nil] at r;cases r;exact .nil
 | t::ts,_,r=>by
  rw [List.map_cons] at r
  cases r with
  | cons r1 r2=>
   obtain⟨k,e⟩:=r1
   subst e
   exact .cons t k (Zk r2)
theorem zae:∀ ls:List (List Nat),Str.join (S []) (ls.map S)=S ls.flatten
 | []=>rfl
 | [x]=>by simp [Str.join]
 | x::y::r=>by
  show S x++S []++Str.join (S []) ((y::r).map S)=_
  rw [zae (y::r),zac,zac,List.append_nil]
  rfl
noncomputable def rJoin (K:PySem.W.Frag):V->List V->Hp->VK->Prop:=fun x vs H Q=>∃ (D:Addr) (ls:List (List Nat)),x=.str (S [])/\vs=[.ref D]/\SqL K H D (ls.map fun l=>V.str (S l))/\ls.flatten.length<=16777216/\Q (.str (S ls.flatten)) H
theorem zaf:MtR X "str.join" (rJoin X.K):=by
 intro pins s σ H x xs v us Q I rx rs h
 obtain⟨D,ls,rfl,rfl,hq,hz,q⟩:=h
 obtain⟨t,rfl⟩:=rx
 obtain⟨u,rfl,ru⟩:=vals1 rs
 cases ru
 obtain⟨its,rv,p,_⟩:=I.list hq
 have rv':Vals ((ls.map S).map V.str) its:=by rw [List.map_map];exact rv
 refine join_list p.isList (by simpa using Zk rv') ?_ fun t' k=>⟨.str (S ls.flatten),H,I.tok _,⟨t',?_⟩,q⟩
 ·have e:((ls.map S).map (·.length)).sum=ls.flatten.length:=by
   rw [List.map_map,List.length_flatten]
   congr 1
   try (apply List.map_congr_left;intro l _;exact ji l)
  have e2:(S []).length=0:=rfl
  rw [e,e2]
  omega
 ·show Value.str (Builtin.Str.glued (S []) (ls.map S)) t' = _
  rw [StrLaws.glued_eq_join,zae]
noncomputable def dg (n:Nat):List Nat:=if n<10 then [48+n] else [48+n / 10,48+n % 10]
theorem Jf:∀ d:Nat,d<10->(Nat.digitChar d).toNat=48+d:=by decide
theorem zfb {n:Nat}(h:n<100):(PySem.Str.ofString (toString ((n:Nat):Int)))=S (dg n):=by
 have e:=PySem.W.KIN.signs_num n
 have e2:(Nat.toDigits 10 n).map Char.toNat=dg n:=by
  unfold dg
  by_cases h1:n<10
  ·rw [Nat.toDigits_of_lt_base h1,if_pos h1,List.map_singleton,Jf n h1]
  ·have t:Nat.toDigits 10 (n / 10)++Nat.toDigits 10 (n % 10)=Nat.toDigits 10 (10 * (n / 10)+n % 10):=Nat.toDigits_append_toDigits (by decide) (by omega) (by omega)
   rw [Nat.div_add_mod] at t
   rw [← t,Nat.toDigits_of_lt_base (by omega:n / 10<10),Nat.toDigits_of_lt_base (by omega:n % 10<10),if_neg h1,List.map_append,List.map_singleton,List.map_singleton,Jf _ (by omega),Jf _ (by omega)]
   rfl
 rw [← S_of (PySem.Str.ofString _),e,e2]
theorem YR {i:Int}(h0:0<=i)(h1:i<1000000):i.natAbs.log2<1920:=by
 have:i.natAbs<2 ^ 20:=by omega
 by_cases hz:i.natAbs=0
 ·rw [hz];decide
 ·have:=(Nat.log2_lt hz).mpr this
  omega
theorem YS:qc X (.type "str") (fun xs H Q=>∃ n:Nat,xs=[.int n]/\n<100/\Q (.str (S (dg n))) H):=by
 intro pins s σ H xs us Q I r h
 obtain⟨n,rfl,hn,q⟩:=h
 refine Q8 pins s σ H _ us Q I r ⟨n,rfl,YR (by omega) (by omega),?_⟩
 have e:(↑(toString (n:Int)):Str)=S (dg n):=zfb hn
 rw [e]
 exact q
noncomputable def dg2 (n:Nat):List Nat:=[48+n / 10,48+n % 10]
theorem zag {n:Nat}(h:n<100):Txt.zfill (S (dg n)) 2=S (dg2 n):=by
 have all:∀ n:Fin 100,Txt.zfill (S (dg n.val)) 2=S (dg2 n.val):=by decide +kernel
 exact all ⟨n,h⟩
noncomputable def zah:V->List V->Hp->VK->Prop:=fun x vs H Q=>∃ n:Nat,x=.str (S (dg n))/\vs=[.int 2]/\n<100/\Q (.str (S (dg2 n))) H
theorem YT:MtR X "str.zfill" zah:=by
 intro pins s σ H x xs v us Q I rx rs h
 obtain⟨n,rfl,rfl,hn,q⟩:=h
 obtain⟨t,rfl⟩:=rx
 obtain⟨u,rfl,t',rfl⟩:=vals1 rs
 refine SC.zfill (by decide +kernel) fun t' k=>⟨.str (S (dg2 n)),H,I.tok _,⟨t',?_⟩,q⟩
 rw [zag hn]
noncomputable def yn (c:Nat):Bool:=48<=c&&c<=57
theorem YU:qc X (.type "int") (fun xs H Q=>∃ c d:Nat,xs=[.str (S [c,d])]/\yn c=true/\yn d=true/\Q (.int (((c - 48) * 10+(d - 48):Nat):Int)) H):=by
 intro pins s σ H xs us Q I r h
 obtain⟨c,d,rfl,hc,hd,q⟩:=h
 obtain⟨u,rfl,t,rfl⟩:=vals1 r
 unfold yn at hc hd
 simp only [Bool.and_eq_true,decide_eq_true_eq] at hc hd
 have hn:PySem.intText? (S [c,d])=some (((c - 48) * 10+(d - 48):Nat):Int):=by
  rw [intText_digits (x:=S [c,d]) (fun z hz=>?_) (by simp [S]) (by rw [ji];show 2<=4300;decide)]
  ·rw [zaa]
   simp [NumText.digitsVal]
  ·rw [zaa] at hz
   simp at hz
   rcases hz with rfl | rfl
   ·exact hc
   ·exact hd
 exact PySem.W.KIN.call_text hn (by rw [ji];show 2<=640;decide) ⟨.int _,H,I.tok _,⟨_,rfl⟩,q⟩
end
end L2
namespace L2
open PySem PySem.Spec PyProof.Rows
structure OkF (P:Program)(w:World)(K:PySem.W.Frag)(mg:Str->Option Value)(base:Heap)(k:Nat)(x:Str)(ps:List Str)(sp:Sp):Prop where
 ex:∃ (f:Addr) (fd:FuncData),PySem.W.keepIn K (.ref f)=true/\Binds K fd ps []/\(mg x=some (.ref f)/\∃ oc od osl,K.lookup f=some ⟨oc,od,.func fd,osl⟩)/\FnOk P w K mg base CX0 k f fd ps sp
structure Df (K:PySem.W.Frag)(mg:Str->Option Value)(x:Str)(st:Stmt)(ps:List Str):Prop where
 ex:∃ (f:Addr) (fd:FuncData),Fun K x x st f fd/\Binds K fd ps []/\mg x=some (.ref f)
section
variable {P:Program} {w:World} {K:PySem.W.Frag} {mg:Str->Option Value} {base:Heap}
theorem Df.ok {x:Str}{st:Stmt}{ps N:List Str}{k:Nat}{sp:Sp}(D:Df K mg x st ps)(Sc:zj N ps (za st))(len:∀ vs H Q E,sp vs H Q E->vs.length=ps.length)
  (hbody:∀ (f:Addr) (cdv:Value) (A:Around) (outer:List Env) (s:Shared) (H:Hp) (vs:List V) (Q:VK) (E:XK),Room k (A.deeper (envOfC x (za st) s.heap.objs.size f cdv))->sp vs H Q E ->
   ∃ t,PSs (cxOf CX0 P w K mg base N x (za st) f cdv A outer s H E).nox (zN st) t/\t { nx:=fun _ H'=>Q .non H',rt:=Q } (start N vs) H):OkF P w K mg base (k+1) x ps sp:=by
 obtain⟨f,fd,F,b,m⟩:=D.ex
 refine⟨f,fd,F.kp,b,⟨m,?_⟩,F.ok Sc len (fun cdv A outer s H vs Q E hr h=>hbody f cdv A outer s H vs Q E hr h)⟩
 obtain⟨oc,od,kV,doc,pm,an,cdv,ct,osl,rfl,lk,hcd⟩:=F.ex
 exact⟨oc,od,osl,lk⟩
end
section
variable {P:Program} {w:World} {K:PySem.W.Frag} {mg:Str->Option Value} {base:Heap}
theorem zgH {h:Heap}{x:Str}{st:Stmt}{ps:List Str}{f:Addr}{oc:Value}{od an:Option Addr}{osl:Array (Option Value)}{kV doc pm cdv ct:Value}(X:K.In h)(G:h.Ns mainGlobals mg)
  (b:∀ (kV doc pm:Value) (an:Option Addr) (cdv ct:Value) (us:List Value),us.length=ps.length->bindArgs (PySem.W.fnOf x x (jM st) (zN st) (za st) .none kV doc pm an cdv ct) ⟨us,[]⟩=pure (ps.zip us))
  (a:PySem.W.nsIn K mainGlobals x=some (some (.ref f))) (l:K.lookup f=some ⟨oc,od,.func (PySem.W.fnOf x x (jM st) (zN st) (za st) .none kV doc pm an cdv ct),osl⟩)
  (c:PySem.W.codeIn K cdv x=true) (k:PySem.W.keepIn K (.ref f)=true):Df K mg x st ps:=
 ⟨f,_,K9 l c k,(K9 l c k).binds b,PySem.W.mg_of X G a⟩
theorem zfc {st:Stmt}{x:Str}{k:Nat}{fa:Addr}{sp:Sp}(D:Df K mg "law" st [x])(hfa:mg "law" = some (.ref fa))
  (hb:∀ (kV doc pm:Value) (an:Option Addr) (cdv ct:Value) (s:Shared) (u:Value),BindsTo s (PySem.W.fnOf "law" "law" (jM st) (zN st) (za st) .none kV doc pm an cdv ct) ⟨[u],[]⟩ [(x,u)])
  (F:∀ base:Heap,OkF P w K mg base k "law" [x] sp) :
  ∃ fd:FuncData,(∀ (s:Shared) (v:Value),BindsTo s fd ⟨[v],[]⟩ [(x,v)])/\∀ base:Heap,K.In base->base.Ns mainGlobals mg->FnOk P w K mg base CX0 k fa fd [x] sp:=by
 obtain⟨f,fd,G,b,m⟩:=D.ex
 have e:f=fa:=by rw [hfa] at m;cases m;rfl
 subst e
 obtain⟨oc,od,kV,doc,pm,an,cdv,ct,osl,rfl,lk,hcd⟩:=G.ex
 refine⟨_,fun s v=>hb kV doc pm an cdv ct s v,fun base _ _=>?_⟩
 obtain⟨f',fd',_,_,⟨m',oc',od',osl',lk'⟩,ok⟩:=(F base).ex
 have e:f' = f:=by rw [hfa] at m';cases m';rfl
 subst e
 rw [lk] at lk'
 cases lk'
 exact ok
end
section
variable {X:Cx} {k j:Nat} {x:Str} {ps:List Str} {sp:Sp} {p pos:Pos} {e:Expr} {es:List Expr} {t:TA}
theorem zgI {v:V}{pos:Pos}(h:∃ u,X.mg x=some u/\RelV v u)(hg:Gl X x:=by rfl) (hd:(x == ("__debug__":Str))=false:=by decide):PE X (.Name x pos) (tC v):=by
 obtain⟨u,m,r⟩:=h
 exact zb7 hg m r hd
theorem yR {v:V}{u:Value}{pos:Pos}(hm:X.mg x=none)(hv:bootBuiltins x=some u)(r:RelV v u)(hg:Gl X x:=by rfl) (hn:x≠"__name__":=by decide) (hd:(x == ("__debug__":Str))=false:=by decide):PE X (.Name x pos) (tC v):=
 zb8 hg hm hv r hn hd
theorem J9:qc X (.builtin "isinstance") (fun xs H Q=>∃ x n t b,xs=[x,.ty n]/\TyOf X.K H x t/\PySem.W.kitOne X.K t (.type n)=some b/\Q (.bl b) H):=by
 intro pins s σ H xs us Q I r h
 obtain⟨x,n,t,b,rfl,ty,e,q⟩:=h
 obtain⟨u,w',rfl,rx,ry⟩:=vals2 r
 cases ry
 exact YI I rx ty e fun tk=>⟨.bl b,H,I.tok _,rfl,q⟩
section
variable {K:PySem.W.Frag} {o:Expr} {to:TE} {name:Str} {apos cpos:Pos} {T id:String} {r:V->List V->Hp->VK->Prop}
theorem yS (hK:X.K=K)(pa:PlainAttrs T)(slot:Slot T name id)(hty:typeOf (.builtin id)=pure (.type "method_descriptor"))(hm:MtR X id r)(ho:PE X o to)(ha:PA X (e::es) t)
  (hbase:attributeBase o name X.env (eval o X.env)=eval o X.env:=by rfl)
  (hfew:((backTo cpos (starEach (e::es) X.env)).all (fun x=>!x.1)&&(backToKw cpos (keywordEach [] X.env)).all (fun x=>x.1.isSome)
   && decide ((e::es).length+([]:List Keyword).length+(if ([]:List Keyword).isEmpty then 0 else 1)<30))=true:=by rfl)
  (hline:(apos.endLine == cpos.line)=true:=by rfl) (hs:starEach (e::es) X.env=(false,eval e X.env)::starEach es X.env:=by rfl) (hplain:(backTo cpos (starEach es X.env)).any (·.1)=false:=by rfl) :
  PE X (.Call (.Attribute o name apos) (e::es) [] cpos) (tBM K T r to t):=by
 subst hK
 exact zgE pa slot hty hm ho ha hbase hfew hline hs hplain
theorem YV (hK:X.K=K):MtR X "str.join" (rJoin K):=by subst hK;exact zaf
theorem zai (hK:X.K=K):IxR X (rIxL K):=by subst hK;exact Vw
theorem zcs (hK:X.K=K):IxR X (rIxT K):=by subst hK;exact KW
noncomputable def zdL (K:PySem.W.Frag):List V->Hp->VK->Prop:=fun xs H Q=>∃ p ys,xs=[.ref p]/\(SqL K H p ys\/SqT K H p ys)/\Q (.int ys.length) H
theorem Xy (hK:X.K=K):qc X (.builtin "len") (zdL K):=by subst hK;exact Jc
theorem zaj (hK:X.K=K):SlR X (rSlL K):=by subst hK;exact zcm
end
end
end L2
namespace L2
open PySem PySem.Spec PyProof.Rows
theorem zfd:bootBuiltins "len" = some (.builtin "len"):=by decide +kernel
theorem zfe:bootBuiltins "max" = some (.builtin "max"):=by decide +kernel
theorem zff:bootBuiltins "min" = some (.builtin "min"):=by decide +kernel
theorem zak:bootBuiltins "str" = some (.type "str"):=by decide +kernel
theorem zal:bootBuiltins "int" = some (.type "int"):=by decide +kernel
theorem zct:bootBuiltins "bool" = some (.type "bool"):=by decide +kernel
theorem vP:bootBuiltins "isinstance" = some (.builtin "isinstance"):=by decide +kernel
noncomputable def sg:List Nat:=[32,33,34,35,36,38,39,40,41,42,43,44,45,46,47,48,49,50,51,52,53,54,55,56,57,58,59,60,61,62,63,64,65,66,67,68,69,70,71,72,73,74,75,76,77,78,79,80,81,82,83,84,85,86,87,88,89,90,91,92,93,94,95,96,97,98,99,100,101,102,103,104,105,106,107,108,109,110,111,112,113,114,115,116,117,118,119,120,121,122,123,124,125,126]
noncomputable def fg:List Nat:=[48,49,50,51,52,53,54,55,56,57]
theorem sg_len:sg.length=94:=by decide
noncomputable def ix (c:Nat):Nat:=sg.idxOf c
theorem zgJ {α:Type}(xs:List α)(i:Nat):atI xs (i:Int)=xs[i]?:=by
 cases h:xs[i]? with
 | some v=>exact atI_nat h
 | none=>
  have h1:xs.length<=i:=List.getElem?_eq_none_iff.mp h
  unfold atI ixN
  rw [if_pos (by omega),if_neg (by omega)]
  rfl
theorem Zl {H:Hp}{a:Addr}{o:HO}(h:H a=none):Same H (upd H a o):=fun b u e=>by rw [zA (jj e h)];exact e
end L2
namespace L2
open PySem PySem.Spec PyProof.Rows
end L2
namespace L2
open PySem PySem.Spec PyProof.Rows
theorem kY {α:Type}{xs:List α}{i:Int}(h0:0<=i)(h1:i<xs.length):∃ v,atI xs i=some v/\xs[i.toNat]? = some v:=by
 obtain⟨n,rfl⟩:=Int.eq_ofNat_of_zero_le h0
 have hn:n<xs.length:=by omega
 refine⟨xs[n],?_,?_⟩
 ·rw [show((n:Nat):Int)=((n:Nat):Int) from rfl]
  rw [zgJ,List.getElem?_eq_getElem hn]
 ·rw [Int.toNat_natCast,List.getElem?_eq_getElem hn]
theorem zcu {i j:Int}(h:-(2 ^ 64)<i/\i<2 ^ 64):IntMulOk i j:=CMul.ok (.inl h)
theorem zcv {i j:Int}(h:-(2 ^ 64)<j/\j<2 ^ 64):IntMulOk i j:=CMul.ok (.inr h)
noncomputable def told (l:List Nat):Option Nat:=match l with
 | [c,d]=>if yn c=true/\yn d=true then sg[(c - 48) * 10+(d - 48)]? else none
 | _=>none
end L2
namespace L2
open PySem PySem.Spec PyProof.Rows
theorem QH (x:Array Nat):∀ (n:Nat) (acc:Array Nat),((List.replicate n x).foldl (·++·) acc).toList=acc.toList++(List.replicate n x.toList).flatten
 | 0,acc=>by simp
 | n+1,acc=>by
  rw [List.replicate_succ,List.foldl_cons,QH x n,List.replicate_succ,List.flatten_cons]
  simp
theorem zgK (l:List Nat)(n:Nat):Txt.mul (S l) (n:Int)=S (List.replicate n l).flatten:=by
 unfold Txt.mul
 by_cases h0:(n:Int)<1
 ·have:n=0:=by omega
  subst this
  rw [if_pos h0]
  rfl
 ·rw [if_neg h0]
  split
  ·rename_i h
   simp only [Bool.or_eq_true,beq_iff_eq] at h
   rcases h with h | h
   ·have:n=1:=by omega
    subst this
    simp
   ·rw [ji] at h
    have:l=[]:=List.eq_nil_of_length_eq_zero h
    subst this
    have:(List.replicate n ([]:List Nat)).flatten=[]:=by
     induction n with
     | zero=>rfl
     | succ n ih=>simp
    rw [this]
  ·rw [← S_of ⟨_⟩]
   show S ((List.replicate (n:Int).toNat (S l).cps).foldl (·++·) #[]).toList=_
   rw [QH,Int.toNat_natCast]
   simp [S]
noncomputable def zdM:R2:=fun x y H Q=>∃ (l:List Nat) (n:Int),x=.str (S l)/\y=.int n/\0<=n/\n<=100000/\l.length * n.toNat<=16777216/\Q (.str (S (List.replicate n.toNat l).flatten)) H
theorem zcw {X:Cx}:OpR X (binaryOp .Mult) zdM:=by
 intro pins s σ H x y v u Q I rx ry h
 obtain⟨l,n,rfl,rfl,h0,h1,hz,q⟩:=h
 obtain⟨t,rfl⟩:=rx
 obtain⟨t',rfl⟩:=ry
 obtain⟨m,rfl⟩:=Int.eq_ofNat_of_zero_le h0
 rw [Int.toNat_natCast] at hz q
 refine SB.mul ⟨?_,fun g1 _=>?_,fun g1 _=>?_⟩ fun t' k=>⟨.str (S (List.replicate m l).flatten),H,I.tok _,⟨t',by rw [zgK]⟩,q⟩
 ·have e1:decide ((m:Int) < -(2 ^ 63:Int))=false:=decide_eq_false (by omega)
  have e2:decide ((m:Int) ≥ 2 ^ 63)=false:=decide_eq_false (by omega)
  rw [e1,e2];rfl
 ·have hm:0<(m:Int):=by omega
  have hl:l.length<=16777216:=by
   have:l.length * 1<=l.length * m:=Nat.mul_le_mul_left _ (by omega)
   omega
  have:=Int.le_ediv_of_mul_le (a:=16777216) (b:=2 ^ 63 - 1) hm (by omega)
  rw [ji]
  omega
 ·have e:(2:Nat) ^ 24=16777216:=by decide
  unfold Builtin.Str.tooLong sizeLine
  rw [ji,Int.toNat_natCast]
  exact decide_eq_false (by omega)
noncomputable def st1 (sh:List Nat)(c:Nat):List Nat:=if c=92\/c∈sh then [92,c] else [c]
noncomputable def ws:List Nat:=[97,98,99,100,101,102,103,104,105,106,107,108,109,110,111,112,113,114,115,116,117,118,119,120,121,122,48,49,50,51,52,53,54,55,56,57,45]
end L2
namespace L2
open PySem PySem.Spec PyProof.Rows
def Fly (h:Heap)(e T:Addr)(cls:Value)(d:Option Addr)(fl:Value):Prop:=
 ∃ sl vs oT ts,h.get? e=some ⟨cls,d,.fields vs,sl⟩/\vs[1]? = some (.ref T)/\T≠e/\h.get? T=some oT/\oT.data=.fields ts/\ts[3]? = some fl
structure Kp (ch fs:List Addr)(h h':Heap):Prop where
 keep:∀ b o,b∉ch->b∉fs->h.get? b=some o->h'.get? b=some o
 slot:∀ b o,b∉ch->h.get? b=some o->∃ sl,h'.get? b=some { o with slots:=sl }
section
variable {M:Model} {A:Around} {E:Value->Shared->Prop} {s:Shared}
theorem QI {base:Heap}{env:Env}{outer:List Env}{L e:Addr}{cls head:Value}{d:Option Addr}{vs:Array Value}{sl:Array (Option Value)}{nx:Bool}{Q:Unit->Shared->Prop}
  (hfr:A.frames=some (env::outer)) (hl:s.heap.FunFrames base (env::outer)) (hf:env.frame=some L) (he:s.heap.get? e=some ⟨cls,d,.fields vs,sl⟩) (hv:1<vs.size)
  (k:∀ h' T,s.heap.objs.size<=T->Fly h' e T cls d (rawInt L)->Kp [e] (frs (env::outer)) s.heap h'->Q () { s with heap:=h' }) :
  wpAny M A (do let a ← frameOf env;let pl ← entryPlaceOf L nx;let b ← EntryCells.newEntry head a .none (rawInt L) .none pl;setField (.ref e) 1 b) Q E s:=by
 have ne:e∉(env::outer).filterMap (·.frame):=fun hm=>by
  obtain⟨_,o,ho,hn⟩:=hl.mem hm
  rw [he] at ho
  cases ho
  exact hn vs rfl
 refine wpAny_bind (wpAny_frameOf_fun hfr hl hf fun g hg=>wpAny_bind (wpAny_entryPlaceOf fun pl hpl=>?_))
 have e1:g.get? e=some ⟨cls,d,.fields vs,sl⟩:=(hg.2.1 e ne).trans he
 unfold EntryCells.newEntry newFields
 refine wpAny_bind (wpAny_newObj_type ?_ (hpl.sizeOk5 _ _ _ _ _))
 generalize hT:({ cls:=.type "traceback",dict:=none,data:=.fields ([head,.ref L,.none,rawInt L,.none]++(if pl.isEmpty then List.replicate 6 Value.none else pl)).toArray }:Obj)=tb
 have e2:=Heap.get?_push_of_some (h:=g) tb e1
 have tn:g.objs.size≠e:=Nat.ne_of_gt (Heap.lt_size e1)
 refine wpAny_setField e2 rfl hv (k _ g.objs.size ?_ ?_ ?_)
 ·rw [hg.1];exact Nat.le_refl _
 ·refine⟨sl,_,tb,([head,.ref L,.none,rawInt L,.none]++(if pl.isEmpty then List.replicate 6 Value.none else pl)).toArray,Heap.get?_update_self _ e2 (by rfl),by simp [hv],tn,?_,by rw [← hT],by simp⟩
  rw [Heap.get?_update_other _ _ (Ne.symm tn)]
  exact Heap.get?_push_size g (by rw [← hT];rfl)
 ·refine⟨fun b o hb hfs q=>?_,fun b o hb q=>?_⟩
  ·have hbe:b≠e:=fun z=>hb (by simp [z])
   rw [Heap.get?_update_other _ _ (Ne.symm hbe)]
   exact Heap.get?_push_of_some _ ((hg.2.1 b hfs).trans q)
  ·have hbe:b≠e:=fun z=>hb (by simp [z])
   obtain⟨sl',q'⟩:=hg.2.2 b o q
   refine⟨sl',?_⟩
   rw [Heap.get?_update_other _ _ (Ne.symm hbe)]
   exact Heap.get?_push_of_some _ q'
theorem Xz {base:Heap}{env:Env}{outer:List Env}{L e:Addr}{cls:Value}{d:Option Addr}{vs:Array Value}{sl:Array (Option Value)}{Q:Unit->Shared->Prop}
  (hfr:A.frames=some (env::outer)) (hl:s.heap.FunFrames base (env::outer)) (hf:env.frame=some L) (he:s.heap.get? e=some ⟨cls,d,.fields vs,sl⟩) (hv:vs[1]? = some .none)
  (k:∀ h' T,s.heap.objs.size<=T->Fly h' e T cls d (rawInt L)->Kp [e] (frs (env::outer)) s.heap h'->Q () { s with heap:=h' }):wpAny M A (noteFrame (.ref e) env) Q E s:=by
 unfold noteFrame
 simp only [hf]
 refine wpAny_bind (wpAny_field he rfl hv ?_)
 rw [if_neg (by decide)]
 exact QI hfr hl hf he (Array.getElem?_eq_some_iff.mp hv).1 k
theorem YW {base:Heap}{env:Env}{outer:List Env}{L e T:Addr}{cls:Value}{d:Option Addr}{Q:Unit->Shared->Prop}
  (hfr:A.frames=some (env::outer)) (hl:s.heap.FunFrames base (env::outer)) (hf:env.frame=some L) (F:Fly s.heap e T cls d .none)
  (k:∀ h' T',s.heap.objs.size<=T'->Fly h' e T' cls d (rawInt L)->Kp [T,e] (frs (env::outer)) s.heap h'->Q () { s with heap:=h' }):wpAny M A (noteFrame (.ref e) env) Q E s:=by
 obtain⟨sl,vs,oT,ts,he,hv,tn,hT,hd,h3⟩:=F
 unfold noteFrame
 simp only [hf]
 refine wpAny_bind (wpAny_field he rfl hv ?_)
 rw [if_pos (show(Value.ref T != Value.none)=true by simp)]
 refine wpAny_bind (wpAny_field hT hd h3 ?_)
 rw [if_neg (show ¬ (Value.none == rawInt L)=true by simp [rawInt])]
 refine wpAny_bind (wpAny_setField hT hd (Array.getElem?_eq_some_iff.mp h3).1 ?_)
 have oth:∀ b,b≠T->(s.heap.update T (Obj.mapFields (·.setIfInBounds 3 Value.none))).get? b=s.heap.get? b:=fun b hb=>Heap.get?_update_other _ _ (Ne.symm hb)
 have nT:∀ b o,s.heap.get? b=some o->(∀ ws,o.data≠.fields ws)->b≠T:=fun b o q hn z=>by
  rw [z,hT] at q
  cases q
  exact hn ts hd
 have hsz:(s.heap.update T (Obj.mapFields (·.setIfInBounds 3 Value.none))).objs.size=s.heap.objs.size:=(Heap.SameBut.update s.heap T _).1
 refine QI (base:=base) hfr (hl.of_keeps fun b o q hn=>⟨o,(oth b (nT b o q hn)).trans q,rfl⟩) hf ((oth e (Ne.symm tn)).trans he) (Array.getElem?_eq_some_iff.mp hv).1 fun h' T' g1 g2 g3=>?_
 refine k h' T' (by rw [← hsz];exact g1) g2 ⟨fun b o hb hfs q=>?_,fun b o hb q=>?_⟩
 ·exact g3.keep b o (fun z=>hb (List.mem_cons_of_mem _ z)) hfs ((oth b fun z=>hb (by simp [z])).trans q)
 ·exact g3.slot b o (fun z=>hb (List.mem_cons_of_mem _ z)) ((oth b fun z=>hb (by simp [z])).trans q)
theorem Zm {e T:Addr}{cls fl:Value}{d:Option Addr}{Q:Unit->Shared->Prop}(F:Fly s.heap e T cls d fl)(k:∀ h',Fly h' e T cls d .none->Kp [T] [] s.heap h'->h'.objs.size=s.heap.objs.size->Q () { s with heap:=h' }):wpAny M A (setFlight (.ref e) none) Q E s:=by
 obtain⟨sl,vs,oT,ts,he,hv,tn,hT,hd,h3⟩:=F
 have h3':=(Array.getElem?_eq_some_iff.mp h3).1
 unfold setFlight
 refine wpAny_bind (wpAny_field he rfl hv ?_)
 rw [if_pos (show(Value.ref T != Value.none)=true by simp)]
 have oth:∀ b,b≠T->(s.heap.update T (Obj.mapFields (·.setIfInBounds 3 Value.none))).get? b=s.heap.get? b:=fun b hb=>Heap.get?_update_other _ _ (Ne.symm hb)
 refine wpAny_setField hT hd h3' (k _ ⟨sl,vs,_,_,(oth e (Ne.symm tn)).trans he,hv,tn,Heap.get?_update_self _ hT (Obj.isFreed_of_fields (Obj.data_mapFields hd _)),Obj.data_mapFields hd _,by simp [h3']⟩ ?_ (Heap.SameBut.update s.heap T _).1)
 exact⟨fun b o hb _ q=>(oth b fun z=>hb (by simp [z])).trans q,fun b o hb q=>⟨o.slots,(oth b fun z=>hb (by simp [z])).trans q⟩⟩
theorem Wa {base:Heap}{env:Env}{outer:List Env}{L e:Addr}{cls:Value}{d:Option Addr}{vs:Array Value}{sl:Array (Option Value)}{Q:Unit->Shared->Prop}
  (hfr:A.frames=some (env::outer)) (hl:s.heap.FunFrames base (env::outer)) (hf:env.frame=some L) (he:s.heap.get? e=some ⟨cls,d,.fields vs,sl⟩) (hv:vs[1]? = some .none)
  (k:∀ h' T,s.heap.objs.size<=T->Fly h' e T cls d .none->Kp [e] (frs (env::outer)) s.heap h'->Q () { s with heap:=h' }):wpAny M A (leaving env (.ref e)) Q E s:=by
 unfold leaving
 refine wpAny_bind (Xz hfr hl hf he hv fun h1 T g1 g2 g3=>Zm (s:={ s with heap:=h1 }) g2 fun h2 f1 f2 f3=>k h2 T g1 f1 ⟨fun b o hb hfs q=>?_,fun b o hb q=>?_⟩)
 all_goals
  have hbT:b≠T:=fun z=>absurd (Heap.lt_size q) (by rw [z];exact Nat.not_lt.mpr g1)
 ·exact f2.keep b o (by simpa using hbT) (by simp) (g3.keep b o hb hfs q)
 ·obtain⟨sl',q'⟩:=g3.slot b o hb q
  obtain⟨sl2,q2⟩:=f2.slot b _ (by simpa using hbT) q'
  exact⟨sl2,q2⟩
theorem XA {base:Heap}{env:Env}{outer:List Env}{L e T:Addr}{cls:Value}{d:Option Addr}{Q:Unit->Shared->Prop}
  (hfr:A.frames=some (env::outer)) (hl:s.heap.FunFrames base (env::outer)) (hf:env.frame=some L) (F:Fly s.heap e T cls d .none)
  (k:∀ h' T',s.heap.objs.size<=T'->Fly h' e T' cls d .none->Kp [T,e] (frs (env::outer)) s.heap h'->Q () { s with heap:=h' }):wpAny M A (leaving env (.ref e)) Q E s:=by
 unfold leaving
 refine wpAny_bind (YW hfr hl hf F fun h1 T' g1 g2 g3=>Zm (s:={ s with heap:=h1 }) g2 fun h2 f1 f2 f3=>k h2 T' g1 f1 ⟨fun b o hb hfs q=>?_,fun b o hb q=>?_⟩)
 all_goals
  have hbT:b≠T':=fun z=>absurd (Heap.lt_size q) (by rw [z];exact Nat.not_lt.mpr g1)
 ·exact f2.keep b o (by simpa using hbT) (by simp) (g3.keep b o hb hfs q)
 ·obtain⟨sl',q'⟩:=g3.slot b o hb q
  obtain⟨sl2,q2⟩:=f2.slot b _ (by simpa using hbT) q'
  exact⟨sl2,q2⟩
end
end L2
namespace L2
open PySem PySem.Spec PySem.Calls PyProof.Rows PySem.W
noncomputable abbrev vBM:List Value:=[.type "ValueError",.type "Exception",.type "BaseException",.type "object"]
noncomputable def zfg (K:Frag)(C:Addr):Bool:=match K.lookup C with
 | none=>false
 | some o=>o.cls == .type "type"&&match o.data with
  | .cls c=>(match c.mro,o.slots.toList with | .ref B::m,[_,_,_,_,some (.builtin n),_]=>B == C&&n == "ValueError.__new__"&&!c.hasDel&&tailIn K vBM m&&nsOkIn K c.ns | _,_=>false)
  | _=>false
section
variable {prog:Program} {w:World} {A:Around} {E:Value->Shared->Prop} {K:Frag} {C:Addr}
end
end L2
namespace L2
open PySem PySem.Spec PySem.Calls PyProof.Rows PySem.W Builtin Builtin.ObjectAttr
section
variable {prog:Program} {w:World} {A:Around} {E:Value->Shared->Prop} {K:Frag} {C x:Addr} {s:Shared}
end
end L2
namespace L2
open PySem PySem.Spec PySem.Calls PyProof.Rows PySem.W Builtin Builtin.ObjectAttr
structure XCl (K:Frag)(C:Addr):Prop where
 sh:zfg K C=true
 hd:hasDictIn K C=true
 ga:findIn K (.ref C) "__getattribute__" = some (some (.builtin "BaseException.__getattribute__"))
 gt:findIn K (.ref C) "__getattr__" = some none
 sa:findIn K (.ref C) "__setattr__" = some (some (.builtin "object.__setattr__"))
 ca:findIn K (.ref C) "__class__" = some (some (.builtin "object.__class__"))
 cg:specialIn K (.builtin "object.__class__") "__get__" = some (some (.builtin "getset_descriptor.__get__"))
 ct:takesIn K (.builtin "object.__class__")=some true
section
variable {prog:Program} {w:World} {A:Around} {E:Value->Shared->Prop} {K:Frag} {C x:Addr} {s:Shared} {ox:Obj} {od:Option Obj} {name:Str} {tk:Tok} {fill expr:Bool}
end
end L2
namespace L2
open PySem PySem.Spec PyProof.Rows
noncomputable abbrev XS:=Value->Option Addr->St->Hp->Prop
def Nw (h:Heap)(e:Addr)(c:Value)(d:Option Addr):Prop:=∃ sl vs,h.get? e=some ⟨c,d,.fields vs,sl⟩/\vs[1]? = some .none
def Fl (X:Cx)(E:XS)(e:Value)(s':Shared):Prop:=∃ (ea:Addr) (c:Value) (d:Option Addr) (H':Hp) (pins:List (Addr×Obj)) (σ:St),e=.ref ea/\Inv X pins σ H' s'/\X.s₀.heap.objs.size<=ea/\H' ea=none/\(∀ q∈X.pn,q.1≠ea) /\
 (Nw s'.heap ea c d\/∃ T,Fly s'.heap ea T c d .none/\X.s₀.heap.objs.size<=T/\H' T=none/\∀ q∈X.pn,q.1≠T)/\E c d σ H'
def Thr (X:Cx)(E:XS):Prop:=∀ e s',Fl X E e s'->X.xe e s'
noncomputable def CXE (P:Program)(w:World):CXT:=fun outer H s E e s'=>∃ (ea T:Addr) (c:Value) (d:Option Addr) (H':Hp),e=.ref ea/\s.heap.objs.size<=ea/\s.heap.objs.size<=T/\Fly s'.heap ea T c d .none/\H' ea=none/\H' T=none /\
 s'.os=s.os/\AllBare s'.gens/\Un (frs outer) [] H H' s.heap s'.heap/\HOk P w H' s'.heap/\E c d H'
section
variable {X:Cx} {pins:List (Addr×Obj)} {σ:St} {H:Hp} {s s':Shared}
theorem Un.kp {fs fs' ch:List Addr}{H H':Hp}{h h1 h2:Heap}(u:Un fs [] H H' h h1)(k:Kp ch fs' h1 h2)(hc:∀ b∈ch,h.objs.size<=b)(hf:∀ b∈fs',b∈fs\/h.objs.size<=b):Un fs [] H H' h h2:=by
 have nc:∀ b o,h.get? b=some o->b∉ch:=fun b o q z=>absurd (Nat.lt_of_lt_of_le (Heap.lt_size q) (hc b z)) (Nat.lt_irrefl _)
 refine⟨fun b o q n hb _=>?_,fun b o q n hb _=>?_,u.free,fun b o q _=>?_,u.tups,u.frzs,u.tbls⟩
 ·refine k.keep b o (nc b o q) (fun z=>?_) (u.keep b o q n hb (by simp))
  rcases hf b z with z | z
  ·exact hb z
  ·exact absurd (Nat.lt_of_lt_of_le (Heap.lt_size q) z) (Nat.lt_irrefl _)
 ·obtain⟨sl,e1⟩:=u.slot b o q n hb (by simp)
  obtain⟨sl',e2⟩:=k.slot b _ (nc b o q) e1
  exact⟨sl',e2⟩
 ·obtain⟨o',e1⟩:=u.there b o q (by simp)
  obtain⟨sl',e2⟩:=k.slot b _ (nc b o q) e1
  exact⟨_,e2⟩
theorem HOk.kp {P:Program}{w:World}{fs ch:List Addr}{h1 h2:Heap}(x:HOk P w H h1)(k:Kp ch fs h1 h2)(hc:∀ b∈ch,H b=none)(hf:∀ b∈fs,H b=none):HOk P w H h2:=fun a o q=>
 (x a o q).stay (fun b u hb z=>by
  have t:∃ v,H b=some v:=by
   rcases hb with rfl | hb
   ·exact⟨o,q⟩
   ·exact⟨_,hb⟩
  obtain⟨v,t⟩:=t
  exact k.keep b u (fun y=>by rw [hc b y] at t;cases t) (fun y=>by rw [hf b y] at t;cases t) z) (fun _ z=>z) fun _ _ z=>z
theorem QJ {P:Program}{w:World}{K:PySem.W.Frag}{mg:Str->Option Value}{base:Heap}{N:List Str}{qual:Str}{scope:Scope}{f:Addr}{cd:Value}{A:Around}{outer:List Env}{s:Shared}{H:Hp}{E:XK} :
  Thr (cxOf (CXE P w) P w K mg base N qual scope f cd A outer s H E) (fun c d _ H'=>E c d H'):=by
 intro e s' hF
 obtain⟨ea,c,d,H',pins,σ,rfl,I,hea,hHe,_,hv,hE⟩:=hF
 have hst:(cxOf (CXE P w) P w K mg base N qual scope f cd A outer s H E).stack=(cxOf (CXE P w) P w K mg base N qual scope f cd A outer s H E).env::outer:=rfl
 have hfr:=I.ok.frames
 have hl:=I.stack
 have hsub:=I.stkSub
 have hfree:=I.stkFree
 rw [hst] at hfr hl hsub hfree
 have fin:∀ (h':Heap) (T:Addr) (ch:List Addr),s'.heap.objs.size<=T->Fly h' ea T c d .none->Kp ch (frs ((cxOf (CXE P w) P w K mg base N qual scope f cd A outer s H E).env::outer)) s'.heap h'->(∀ b∈ch,s.heap.objs.size<=b/\H' b=none) ->
   CXE P w outer H s E (.ref ea) { s' with heap:=h' }:=fun h' T ch g1 g2 g3 g4=>by
  refine⟨ea,T,c,d,H',rfl,hea,Nat.le_trans I.sz g1,g2,hHe,I.hok.fresh g1,I.os,I.bare,?_,I.hok.kp g3 (fun b hb=>(g4 b hb).2) hfree,hE⟩
  refine Un.kp (fs:=frs outer) I.base g3 (fun b hb=>(g4 b hb).1) fun b hb=>?_
  rcases List.mem_cons.mp (hsub b hb) with z | z
  ·rw [z];exact .inr I.ok.above
  ·exact .inl z
 rcases hv with⟨sl,vs,he,h1⟩ | ⟨T0,hF,hT,hHT,_⟩
 ·exact Wa hfr hl rfl he h1 fun h' T g1 g2 g3=>fin h' T [ea] g1 g2 g3 fun b hb=>by
   obtain rfl:b=ea:=by simpa using hb
   exact⟨hea,hHe⟩
 ·exact XA hfr hl rfl hF fun h' T g1 g2 g3=>fin h' T [T0,ea] g1 g2 g3 fun b hb=>by
   rcases List.mem_cons.mp hb with z | z
   ·subst z;exact⟨hT,hHT⟩
   ·obtain rfl:b=ea:=by simpa using z
    exact⟨hea,hHe⟩
theorem zcx {E:XS}{e:Value}(I:Inv X pins σ H s)(h:CXE X.prog X.w X.stack H s (fun c d H'=>E c d σ H') e s'):Fl X E e s':=by
 obtain⟨ea,T,c,d,H',rfl,h1,h2,hF,n1,n2,ho,hg,hu,hk,hE⟩:=h
 have np:∀ a,s.heap.objs.size<=a->∀ q∈X.pn,q.1≠a:=fun a z q hq y=>by
  have:=(I.pin q (List.mem_append_left _ hq)).1
  exact absurd (Nat.lt_of_lt_of_le (Heap.lt_size this) (y ▸ z)) (Nat.lt_irrefl _)
 exact⟨ea,c,d,H',pins,σ,rfl,I.call' ho hu hk hg (fun b z=>absurd z (by simp)),Nat.le_trans I.sz h1,n1,np ea h1,.inr ⟨T,hF,Nat.le_trans I.sz h2,n2,np T h2⟩,hE⟩
end
structure OkX (P:Program)(w:World)(K:PySem.W.Frag)(mg:Str->Option Value)(base:Heap)(k:Nat)(x:Str)(ps:List Str)(sp:Sp):Prop where
 ex:∃ (f:Addr) (fd:FuncData),PySem.W.keepIn K (.ref f)=true/\Binds K fd ps []/\mg x=some (.ref f)/\FnOk P w K mg base (CXE P w) k f fd ps sp
section
variable {P:Program} {w:World} {K:PySem.W.Frag} {mg:Str->Option Value} {base:Heap}
theorem Df.okX {x:Str}{st:Stmt}{ps N:List Str}{k:Nat}{sp:Sp}(D:Df K mg x st ps)(Sc:zj N ps (za st))(len:∀ vs H Q E,sp vs H Q E->vs.length=ps.length)
  (hbody:∀ (f:Addr) (cdv:Value) (A:Around) (outer:List Env) (s:Shared) (H:Hp) (vs:List V) (Q:VK) (E:XK),Room k (A.deeper (envOfC x (za st) s.heap.objs.size f cdv))->sp vs H Q E ->
   ∃ t,PSs (cxOf (CXE P w) P w K mg base N x (za st) f cdv A outer s H E) (zN st) t/\t { nx:=fun _ H'=>Q .non H',rt:=Q } (start N vs) H):OkX P w K mg base (k+1) x ps sp:=by
 obtain⟨f,fd,F,b,m⟩:=D.ex
 refine⟨f,fd,F.kp,b,m,?_⟩
 obtain⟨oc,od,kV,doc,pm,an,cdv,ct,osl,rfl,lk,hcd⟩:=F.ex
 exact zdF lk hcd Sc len fun A outer s H vs Q E hr h=>hbody f cdv A outer s H vs Q E hr h
end
section
variable {X:Cx} {k j:Nat} {x:Str} {ps:List Str} {sp:Sp} {p pos:Pos} {e:Expr} {es:List Expr} {t:TA} {E:XS}
noncomputable def xH (sp:Sp)(E:XS)(t:TA):TE:=fun σ H Q=>t σ H fun vs H1=>sp vs H1 Q fun c d H'=>E c d σ H'
theorem Vz {f:Addr}{fd:FuncData}{pins:List (Addr×Obj)}{σ:St}{H:Hp}{s:Shared}{Q:VK}{us:List Value}{vs:List V}(F:FnOk X.prog X.w X.K X.mg X.base (CXE X.prog X.w) k f fd ps sp)(hr:Room k X.A)(hb:Binds X.K fd ps [])(hx:Thr X E)
  (I:Inv X pins σ H s) (r:Vals vs us) (h:sp vs H Q fun c d H'=>E c d σ H'):wpAny (model X.prog X.w) X.A (call (.ref f) us) (EP X pins σ Q) X.xe s:=by
 have hl:(us++[]).length=ps.length:=by rw [List.append_nil,← r.length];exact F.len _ _ _ _ h
 have hb':=hb s us I.kIn hl
 rw [List.append_nil] at hb'
 refine wpAny_call (codeAny_mono (F.run X.A X.stack s H ⟨us,[]⟩ us vs Q (fun c d H'=>E c d σ H') hr I.env0 hb' r h) fun r s' hq=>?_)
 rcases r with e | (u | _ | _ | _)
 ·exact hx e s' (zcx I hq)
 all_goals first | exact I.after hq | exact False.elim hq
theorem zam (hx:Thr X E)(F:OkX X.prog X.w X.K X.mg X.base k x ps sp)(hr:Room j X.A)(hk:k<=j)(ha:PA X (e::es) t)(hg:Gl X x:=by rfl) (hdb:(x == ("__debug__":Str))=false:=by decide)
  (he:starEach (e::es) X.env=(false,eval e X.env)::starEach es X.env:=by rfl) (hpl:(backTo pos (starEach es X.env)).any (·.1)=false:=by rfl):PE X (.Call (.Name x p) (e::es) [] pos) (xH sp E t):=by
 intro pins s σ H Q I h
 obtain⟨f,fd,kp,b,m,G⟩:=F.ex
 refine wpAny_Call_Name_kw (yk I hg m ?_ hdb)
 refine PySem.W.callWith_K (h₀:=X.base) I.ok.mod.kin kp (thn (ha pos pins s σ H _ I h) fun us s1 ⟨vs,H1,I1,r,q⟩=>⟨I1.kIn,?_⟩) he hpl
 exact Vz G (hr.mono hk) b hx I1 r q
end
end L2
namespace L2
open PySem PySem.Spec PyProof.Rows PySem.W
section
variable {P:Program} {w:World} {H:Hp} {h:Heap} {C d a:Addr}
end
section
variable {X:Cx} {C B:Addr} {b self name:Str} {e a1:Expr} {es:List Expr} {te:TE} {t:TA} {np p1 apos cpos pos pos':Pos} {i:Nat}
end
end L2
namespace L2
open PySem PySem.Spec PyProof.Rows PySem.W
section
variable {X:Cx} {E:XS} {C:Addr} {x f:Str} {pay:V->Prop} {e:Expr} {es:List Expr} {t:TA} {np cpos pos:Pos} {j:Nat}
end
end L2
namespace L2
open PySem PySem.Spec PyProof.Rows PySem.W
section
variable {X:Cx} {pins:List (Addr×Obj)} {σ:St} {H:Hp} {s:Shared}
end
def zfh (H:Hp)(a C:Addr)(d:Option Addr):Prop:=∃ o,H a=some (.frz o (.own a))/\o.cls=.ref C/\o.dict=d/\∃ vs,o.data=.fields vs
section
variable {X:Cx} {Dc:Addr} {x n:Str} {i:Nat} {tb:XS->TS} {th:TS} {body suite:List Stmt} {b₀:Stmt} {np hpos pos:Pos}
end
end L2
namespace L2
open PySem PySem.Spec PyProof.Rows PySem.W
structure Got (K:Frag)(H:Hp)(a C:Addr)(fs:List (Str×V)):Prop where
 cl:XCl K C
 ex:∃ d,zfh H a C (some d)/\H d=some (.xd fs)
section
variable {X:Cx} {pins:List (Addr×Obj)} {σ:St} {H:Hp} {s:Shared} {a C:Addr} {fs:List (Str×V)}
end
section
variable {X:Cx}
end
end L2
namespace L2
open PySem PySem.Spec PyProof.Rows PySem.W
section
variable {X:Cx} {k j:Nat} {x:Str} {ps:List Str} {sp:Sp} {p pos:Pos} {e:Expr} {es:List Expr} {t:TA} {a:Addr}
theorem zdN {P:Program}{w:World}:Passes (CXE P w) X E0:=fun _ _ _ _ _ _ _ h=>by
 obtain⟨_,_,_,_,_,_,_,_,_,_,_,_,_,_,_,z⟩:=h
 exact z.elim
theorem Wb (F:OkX X.prog X.w X.K X.mg X.base k x ps sp)(hr:Room j X.A)(hk:k<=j)(ha:PA X (e::es) t)(hg:Gl X x:=by rfl) (hdb:(x == ("__debug__":Str))=false:=by decide)
  (he:starEach (e::es) X.env=(false,eval e X.env)::starEach es X.env:=by rfl) (hpl:(backTo pos (starEach es X.env)).any (·.1)=false:=by rfl):PE X (.Call (.Name x p) (e::es) [] pos) (Qz sp [] E0 t):=by
 obtain⟨f,fd,kp,b,m,G⟩:=F.ex
 exact zch G (hr.mono hk) hg m kp b .nil zdN ha hdb he hpl
end
end L2
namespace L2
open PySem PySem.Spec PySem.Calls PyProof.Rows PySem.W
section
variable {X:Cx}
end
end L2
namespace L2
open PySem PySem.W
end L2
namespace L2
open PySem PySem.Spec PySem.Calls PyProof.Rows PySem.W
section
variable {X:Cx} {pins:List (Addr×Obj)} {σ:St} {H:Hp} {s:Shared} {h':Heap}
theorem Inv.turned2 {t':Nat}{e it:Addr}(I:Inv X pins σ H s)(k:∀ b o,b≠e->b≠it->s.heap.get? b=some o->h'.get? b=some o)(fe:FpOk X pins H e)(fi:FpOk X pins H it) :
  Inv X pins σ H { s with heap:=h',toks:=t' }:=by
 obtain⟨e0,e1,_,e3,e4,e5⟩:=fe
 obtain⟨i0,i1,_,i3,i4,i5⟩:=fi
 have hk:∀ b o,b∉[e,it]->s.heap.get? b=some o->h'.get? b=some o:=fun b o hb q=>k b o (fun z=>hb (by simp [z])) (fun z=>hb (by simp [z])) q
 have nn:∀ b u,H b=some u->b∉[e,it]:=fun b u q z=>by
  rcases List.mem_cons.mp z with z | z
  ·rw [z,e0] at q;cases q
  ·rw [List.mem_singleton.mp z,i0] at q;cases q
 refine I.step (g':=s.gens) (d':=s.drawn) (ch:=[e,it]) ?_ (fun b o _ _ hc q _=>hk b o hc q) (fun b o _ _ hc q _=>⟨o.slots,hk b o hc q⟩) (fun _ _ _ _ n=>n) (fun b o hc q=>⟨o,hk b o hc q⟩)
  (fun _ _ q=>q) (fun _ _ _ q=>q) (fun b ps q=>⟨#[],by rw [q];simp⟩) ?_ ?_ I.bare
 ·intro b hb
  rcases List.mem_cons.mp hb with z | z
  ·rw [z];exact⟨e3,e1,e4,e5⟩
  ·rw [List.mem_singleton.mp z];exact⟨i3,i1,i4,i5⟩
 ·intro m hm
  obtain⟨o,es,ep,ho,r⟩:=hm
  exact⟨o,es,ep,k _ o (Ne.symm e1) (Ne.symm i1) ho,r⟩
 ·intro b u q
  refine(I.hok b u q).stay (fun c v hc z=>hk c v ?_ z) (fun _ z=>z) fun _ _ z=>z
  rcases hc with z' | z'
  ·rw [z'];exact nn b u q
  ·exact nn c _ z'
end
noncomputable def Ite (go:Nat->Hp->Prop)(yv:Nat->Hp->V->Prop)(stop:Nat->Hp->Prop):It:=⟨go,fun i H x H'=>∃ p v,H p=none/\yv i H v/\x=.ref p/\H' = upd H p (.tup [.int i,v]),stop⟩
theorem QK {P:Program}{w:World}{K:PySem.W.Frag}{elts:List Expr}{ek:Nat}{epos:Pos}{e it:Addr}{go:Nat->Hp->Prop}{yv:Nat->Hp->V->Prop}{stop:Nat->Hp->Prop}{tn:Nat->Heap->Prop}(hne:e≠it)
  (hobj:∀ i h,tn i h->∃ o,h.get? it=some o/\∀ v,o.data≠.cell v)
  (hkeep:∀ i h h',tn i h->(∀ o,h.get? it=some o->h'.get? it=some o)->tn i h')
  (hitem:∀ (X:Cx),X.prog=P->X.w=w->X.K=K->X.calm=true->∀ (i:Nat) (pins:List (Addr×Obj)) (s:Shared) (σ:St) (H:Hp),Inv X pins σ H s->tn i s.heap->go i H->(∃ old,IsEnum s.heap e it i old) ->
   ∃ fp n Pd St,Draws P w X.A.in1 it fp n Pd St/\St i s.heap/\i<n/\e∉fp/\(∀ h,St (i+1) h->tn (i+1) h)/\∀ x,Pd i x->∃ v,RelV v x/\yv i H v)
  (hdone:∀ (X:Cx),X.prog=P->X.w=w->X.K=K->X.calm=true->∀ (i:Nat) (pins:List (Addr×Obj)) (s:Shared) (σ:St) (H:Hp),Inv X pins σ H s->tn i s.heap->stop i H ->
   ∃ fp n Pd St,Draws P w X.A.in1 it fp n Pd St/\St n s.heap) :
  Turn P w K (.Tuple elts ek epos) (Ite go yv stop) [e,it] e (fun i h=>(∃ old,IsEnum h e it i old)/\tn i h) where
 mem:=by simp
 obj:=fun i h st b hb=>by
  rcases List.mem_cons.mp hb with z | z
  ·obtain⟨⟨old,q⟩,_⟩:=st
   rw [z]
   exact⟨_,q,fun v z=>nomatch z⟩
  ·rw [List.mem_singleton.mp z]
   exact hobj i h st.2
 keep:=fun i h h' st k=>by
  obtain⟨⟨old,q⟩,st⟩:=st
  exact⟨⟨old,k e (by simp) _ q⟩,hkeep i h h' st (k it (by simp))⟩
 item:=by
  intro X hP hw hK hc i pins s σ H E I hf st hg
  obtain⟨⟨old,q⟩,st⟩:=st
  obtain⟨fp,n,Pd,St,D,hs,hlt,hef,hst,hv⟩:=hitem X hP hw hK hc i pins s σ H I st hg ⟨old,q⟩
  refine wpAny_pyNext_enum_itemD D q hs hlt hne hef fun x h1 tk hx ho hs1 hT hsz hk=>⟨_,rfl,?_⟩
  obtain⟨v,rv,yv'⟩:=hv x hx
  have helt:e<s.heap.objs.size:=Heap.lt_size q
  refine wpAny_letOwnedTupleGo_enum ho fun h2 he2 hs2=>?_
  have hTe:s.heap.objs.size≠e:=Nat.ne_of_gt helt
  have hT2:h2.get? s.heap.objs.size=some { cls:=.type "tuple",data:=.seq #[.int i tk,x] }:=(hs2.2 _ hTe).trans hT
  have fe:=hf e (by simp)
  have fi:=hf it (by simp)
  have fresh:H s.heap.objs.size=none:=I.hok.fresh (Nat.le_refl _)
  have hit:s.heap.objs.size≠it:=by
   obtain⟨o,z⟩:=D.live _ _ hs
   exact Nat.ne_of_gt (Heap.lt_size z)
  have I0:=I.laid (t':=s.toks) (a:=s.heap.objs.size) (o:=.tup [.int i,v]) (h':=s.heap.push { cls:=.type "tuple",data:=.seq #[.int i tk,x] }) (fun b o z=>Heap.get?_push_of_some _ z) (Nat.le_refl _) (by
   refine⟨by show 2<=sizeLine;decide,[.int i tk,x],.cons ⟨tk,rfl⟩ (.cons rv .nil),?_⟩
   exact⟨_,Heap.get?_push_size _ rfl,rfl,_,rfl⟩)
  have fe0:FpOk X pins (upd H s.heap.objs.size (.tup [.int i,v])) e:=⟨by rw [zA (Ne.symm hTe)];exact fe.1,fe.2⟩
  have fi0:FpOk X pins (upd H s.heap.objs.size (.tup [.int i,v])) it:=⟨by rw [zA (Ne.symm hit)];exact fi.1,fi.2⟩
  have I2:=I0.turned2 (h':=h2) (t':=tk+1) (e:=e) (it:=it) (fun b o hbe hbi z=>by
   by_cases hb:b=s.heap.objs.size
   ·rw [hb] at z ⊢
    have z':some ({ cls:=.type "tuple",data:=.seq #[.int i tk,x] }:Obj)=some o:=(Heap.get?_push_size _ rfl).symm.trans z
    rw [hT2];exact z'
   ·have z':s.heap.get? b=some o:=by
     have z2:=z
     rw [Heap.get?_push_ne _ _ _ hb] at z2
     exact z2
    exact(hs2.2 b hbe).trans (hk b o hbe hbi z')) fe0 fi0
  refine⟨.ref s.heap.objs.size,upd H s.heap.objs.size (.tup [.int i,v]),I2,rfl,⟨_,v,fresh,yv',rfl,rfl⟩,⟨⟨_,he2⟩,?_⟩,fun b hb=>?_⟩
  ·refine hkeep _ _ _ (hst h1 hs1) fun o z=>(hs2.2 it (Ne.symm hne)).trans z
  ·rcases List.mem_cons.mp hb with z | z
   ·rw [z];exact fe0.1
   ·rw [List.mem_singleton.mp z];exact fi0.1
 done:=by
  intro X hP hw hK hc i pins s σ H E I hf st hg
  obtain⟨⟨old,q⟩,st⟩:=st
  obtain⟨fp,n,Pd,St,D,hs⟩:=hdone X hP hw hK hc i pins s σ H I st hg
  have fi:=hf it (by simp)
  refine wpAny_pyNext_enum_endD D q hs fun h1 hx=>⟨rfl,I.turned (t':=s.toks) (fun b o hb z=>hx b o hb z) fi.1 fi.2.1 fi.2.2.2.1 fi.2.2.2.2.1 fi.2.2.2.2.2⟩
 self:=fun A i s Q E st h=>by
  obtain⟨⟨old,q⟩,_⟩:=st
  exact wpAny_pyIter_enum q h
section
variable {X:Cx}
noncomputable def goS (x:Str):Nat->Hp->Prop:=fun i _=>i<x.cps.size
noncomputable def yvS (x:Str):Nat->Hp->V->Prop:=fun i _ v=>∃ c,x.cps[i]? = some c/\v=.str ⟨#[c]⟩
noncomputable def stS (x:Str):Nat->Hp->Prop:=fun i _=>x.cps.size<=i
theorem XB {P:Program}{w:World}{K:PySem.W.Frag}{elts:List Expr}{ek:Nat}{epos:Pos}{e it:Addr}(hne:e≠it)(x:Str)(t:Tok) :
  Turn P w K (.Tuple elts ek epos) (Ite (goS x) (yvS x) (stS x)) [e,it] e (fun i h=>(∃ old,IsEnum h e it i old)/\(h.IsStrIter it (strIterType x) x t i/\i<=x.cps.size)):=by
 have dr:∀ A:Around,A.handled=none->Draws P w A it [it] x.cps.size (fun i v=>∃ c u,x.cps[i]? = some c/\v=.str ⟨#[c]⟩ u) (fun i h=>h.IsStrIter it (strIterType x) x t i):=fun A hA=>by
  unfold strIterType
  cases ha:x.cps.all (· < 128)
  ·exact Draws.strWide hA it x t
  ·exact Draws.strAscii hA it x t
 refine QK hne ?_ ?_ ?_ ?_
 ·intro i h st
  obtain⟨o,ho,_,hd⟩:=st.1
  exact⟨o,ho,fun v z=>by rw [hd] at z;cases z⟩
 ·intro i h h' st k
  obtain⟨⟨o,ho,r⟩,hl⟩:=st
  exact⟨⟨o,k o ho,r⟩,hl⟩
 ·intro X hP hw hK hc i pins s σ H I st hg he
  refine⟨[it],_,_,_,dr X.A.in1 (I.ok.hd hc),st.1,hg,by simp [hne],fun h z=>⟨z,hg⟩,fun v hv=>?_⟩
  obtain⟨c,u,hcu,rfl⟩:=hv
  exact⟨.str ⟨#[c]⟩,⟨u,rfl⟩,c,hcu,rfl⟩
 ·intro X hP hw hK hc i pins s σ H I st hg
  have hi:i=x.cps.size:=Nat.le_antisymm st.2 hg
  subst hi
  exact⟨[it],_,_,_,dr X.A.in1 (I.ok.hd hc),st.1⟩
noncomputable def zan (ta:TA):TI:=fun σ H R=>ta σ H fun vs H1=>∃ z,vs=[.str z]/\R (Ite (goS z) (yvS z) (stS z)) H1
theorem zao {a:Expr}{ta:TA}{p pos:Pos}{elts:List Expr}{ek:Nat}{epos:Pos}(hg:Gl X "enumerate")(hm:X.mg "enumerate" = none)(ha:PA X [a] ta)(hs:starEach [a] X.env=[(false,eval a X.env)]:=by rfl) :
  PI X (.Tuple elts ek epos) (.Call (.Name "enumerate" p) [a] [] pos) (zan ta):=by
 intro pins s σ H R I h
 refine Call_ (wg I hg hm boot_enumerate (PyProof.Rows.callWith_type1 (thn (ha pos pins s σ H _ I h) fun us s1 ⟨vs,H1,I1,r1,q1⟩=>?_) hs rfl))
 obtain⟨z,e,q⟩:=q1
 subst e
 obtain⟨u,rfl,t,rfl⟩:=r1.one
 refine call_enumerate_str fun h' he hit hsz hk=>wpAny_pyIter_enum he ?_
 have hlt:s1.heap.objs.size<=s1.heap.objs.size+1:=Nat.le_succ _
 refine⟨s1.heap.objs.size+1,[s1.heap.objs.size+1,s1.heap.objs.size],_,_,H1,rfl,I1.kept (t':=s1.toks) hk,XB (Nat.succ_ne_self _) z t,⟨⟨_,he⟩,hit,Nat.zero_le _⟩,fun b hb=>?_,q⟩
 have hb':s1.heap.objs.size<=b:=by
  rcases List.mem_cons.mp hb with z | z
  ·rw [z];exact hlt
  ·rw [List.mem_singleton.mp z];exact Nat.le_refl _
 exact I1.fpOk hb' (I1.hok.fresh hb')
end
end L2
namespace L2
open PySem PySem.Spec PySem.Calls PyProof.Rows PySem.W
section
variable {P:Program} {w:World} {K:PySem.W.Frag} {mg:Str->Option Value} {base:Heap}
end
section
variable {X:Cx} {k j:Nat} {x:Str} {ps:List Str} {sp:Sp} {p pos:Pos} {e:Expr} {es:List Expr} {t:TA}
end
end L2
namespace L2
open PySem PySem.Spec PyProof.Rows
section
variable {X:Cx} {elt iter:Expr} {x x2:Str} {px py pt pos:Pos} {kt:Nat} {ifs:List Expr} {scope:Scope} {wi:TI} {tt:TT} {te:TE}
end
end L2
namespace L2
open PySem PySem.Spec PySem.Calls PyProof.Rows PySem.W
noncomputable def goL (K:Frag)(l:Addr):Nat->Hp->Prop:=fun i H=>∃ xs x,SqL K H l xs/\xs[i]? = some x
noncomputable def yvL (K:Frag)(l:Addr):Nat->Hp->V->Prop:=fun i H v=>∀ xs,SqL K H l xs->xs[i]? = some v
noncomputable def stL0 (K:Frag)(l:Addr):Nat->Hp->Prop:=fun i H=>∃ xs,SqL K H l xs/\xs.length=i
theorem XC {P:Program}{w:World}{K:Frag}{elts:List Expr}{ek:Nat}{epos:Pos}{e it:Addr}(hne:e≠it)(l:Addr) :
  Turn P w K (.Tuple elts ek epos) (Ite (goL K l) (yvL K l) (stL0 K l)) [e,it] e (fun i h=>(∃ old,IsEnum h e it i old)/\h.IsListIter it l i):=by
 refine QK hne ?_ ?_ ?_ ?_
 ·intro i h st
  obtain⟨o,ho,_,hd⟩:=st
  exact⟨o,ho,fun v z=>by rw [hd] at z;cases z⟩
 ·intro i h h' st k
  exact st.at fun o z=>k o z
 ·intro X hP hw hK hc i pins s σ H I st hg he
  subst hP hw hK
  obtain⟨xs,x,hq,hx⟩:=hg
  obtain⟨its,rv,p,hz⟩:=I.list hq
  obtain⟨u,hu,ru⟩:=rv.get hx
  obtain⟨ol,hol,hcl,nl,hdl⟩:=id p.isList
  have hli:l≠it:=fun z=>by
   obtain⟨o,ho,hc',hd⟩:=st
   rw [z] at hol
   rw [hol] at ho
   cases ho
   rw [hcl] at hc'
   exact absurd (Value.type.inj hc') (by decide)
  have hle:l≠e:=fun z=>by
   obtain⟨old,q⟩:=he
   rw [z] at hol
   have q':=hol.symm.trans q
   cases q'
   exact absurd (Value.type.inj hcl) (by decide)
  refine⟨[it,l],_,_,_,Draws.list (A:=X.A.in1) (I.ok.hd hc) it l hli its.toArray,⟨st,p.isList⟩,?_,?_,fun h z=>z.1,fun v hv=>?_⟩
  ·have:=(List.getElem?_eq_some_iff.mp hu).1
   simpa using this
  ·intro z
   rcases List.mem_cons.mp z with z | z
   ·exact hne z
   ·exact hle (List.mem_singleton.mp z).symm
  ·have hv':its[i]? = some v:=by simpa using hv
   rw [hu] at hv'
   cases hv'
   exact⟨x,ru,fun ys hy=>by rw [I.list_inj hy hq];exact hx⟩
 ·intro X hP hw hK hc i pins s σ H I st hg
  subst hP hw hK
  obtain⟨xs,hq,hx⟩:=hg
  obtain⟨its,rv,p,hz⟩:=I.list hq
  obtain⟨ol,hol,hcl,nl,hdl⟩:=id p.isList
  have hli:l≠it:=fun z=>by
   obtain⟨o,ho,hc',hd⟩:=st
   rw [z] at hol
   rw [hol] at ho
   cases ho
   rw [hcl] at hc'
   exact absurd (Value.type.inj hc') (by decide)
  have e1:its.toArray.size=i:=by rw [List.size_toArray,← rv.length];exact hx
  exact⟨[it,l],_,_,_,Draws.list (A:=X.A.in1) (I.ok.hd hc) it l hli its.toArray,by rw [e1];exact⟨st,p.isList⟩⟩
section
variable {X:Cx}
noncomputable def zap (K:Frag)(ta:TA):TI:=fun σ H R=>ta σ H fun vs H1=>∃ l xs,vs=[.ref l]/\SqL K H1 l xs/\R (Ite (goL K l) (yvL K l) (stL0 K l)) H1
theorem zaq {a:Expr}{ta:TA}{p pos:Pos}{elts:List Expr}{ek:Nat}{epos:Pos}{K:Frag}(hK:X.K=K)(hg:Gl X "enumerate")(hm:X.mg "enumerate" = none)(ha:PA X [a] ta)(hs:starEach [a] X.env=[(false,eval a X.env)]:=by rfl) :
  PI X (.Tuple elts ek epos) (.Call (.Name "enumerate" p) [a] [] pos) (zap K ta):=by
 subst hK
 intro pins s σ H R I h
 refine Call_ (wg I hg hm boot_enumerate (PyProof.Rows.callWith_type1 (thn (ha pos pins s σ H _ I h) fun us s1 ⟨vs,H1,I1,r1,q1⟩=>?_) hs rfl))
 obtain⟨l,xs,e,hq,q⟩:=q1
 subst e
 obtain⟨u,rfl,ru⟩:=r1.one
 cases ru
 obtain⟨its,rv,pl,hz⟩:=I1.list hq
 refine call_enumerate_list pl.isList fun h' he hit hsz hk=>wpAny_pyIter_enum he ?_
 have hlt:s1.heap.objs.size<=s1.heap.objs.size+1:=Nat.le_succ _
 refine⟨s1.heap.objs.size+1,[s1.heap.objs.size+1,s1.heap.objs.size],_,_,H1,rfl,I1.kept (t':=s1.toks) hk,XC (Nat.succ_ne_self _) l,⟨⟨_,he⟩,hit⟩,fun b hb=>?_,q⟩
 have hb':s1.heap.objs.size<=b:=by
  rcases List.mem_cons.mp hb with z | z
  ·rw [z];exact hlt
  ·rw [List.mem_singleton.mp z];exact Nat.le_refl _
 exact I1.fpOk hb' (I1.hok.fresh hb')
end
def Pairs (H:Hp)(a:Addr)(ps:List (List Nat×List Nat)):Prop:=∃ as:List Addr,H a=some (.lst (as.map V.ref))/\as.length=ps.length/\∀ (i:Nat) p,ps[i]? = some p->∃ b,as[i]? = some b/\H b=some (.tup [.str (S p.1),.str (S p.2)])
end L2
namespace L2
open PySem PySem.Spec PySem.Calls PyProof.Rows PySem.W
theorem VA:bootBuiltins "list" = some (.type "list"):=by decide +kernel
section
variable {X:Cx}
noncomputable def zar:List V->Hp->VK->Prop:=fun xs H Q=>∃ l,xs=[.str (S l)]/\l.length<=1000000/\∀ p,H p=none->Q (.ref p) (upd H p (.lst (l.map fun c=>.str (S [c]))))
theorem Zn:∀ (l:List Nat) (us:List Value),us.length=l.length->(∀ (j:Nat) v,us[j]? = some v->∃ (c:Nat) (u:Tok),l[j]? = some c/\v=Value.str ⟨#[c]⟩ u)->Vals (l.map fun c=>V.str (S [c])) us
 | [],us,h,_=>by
  have:us=[]:=List.length_eq_zero_iff.mp h
  subst this
  exact .nil
 | c::l,[],h,_=>by simp at h
 | c::l,v::us,h,hp=>by
  refine .cons ?_ (Zn l us (by simpa using h) fun j w hj=>?_)
  ·obtain⟨d,u,e1,e2⟩:=hp 0 v rfl
   simp at e1
   subst e1
   exact⟨u,e2⟩
  ·obtain⟨d,u,e1,e2⟩:=hp (j+1) w (by simpa using hj)
   exact⟨d,u,by simpa using e1,e2⟩
theorem XD (hc:X.calm=true):qc X (.type "list") zar:=by
 intro pins s σ H xs us Q I r h
 obtain⟨l,rfl,hl,q⟩:=h
 obtain⟨u,rfl,t,rfl⟩:=vals1 r
 refine call_list_str (I.ok.hd hc) (S l) t (fun h' tk acc c' kp e ia=>?_) (by rw [zab,sizeLine_eq];omega)
 obtain⟨i1,i2⟩:=ia
 rw [zab] at i1
 have hv:Vals (l.map fun c=>V.str (S [c])) acc.toList:=Zn l acc.toList (by simpa using i1) fun j v hj=>by
  obtain⟨c,u,e1,e2⟩:=i2 j v (by simpa using hj)
  rw [zgG] at e1
  exact⟨c,u,e1,e2⟩
 refine⟨.ref s.heap.objs.size,_,I.laid (t':=tk) kp (Nat.le_refl _) (show zM X.prog X.w _ h' _ (.lst (l.map fun c=>V.str (S [c]))) from⟨by rw [List.length_map,sizeLine_eq];omega,acc.toList,c',hv,by simpa using e⟩),rfl,q _ (I.hok.fresh (Nat.le_refl _))⟩
theorem zcy {K:Frag}(hK:X.K=K):OpR X (compareOp .In) (rIn K false):=by subst hK;exact YK
theorem XE {K:Frag}(hK:X.K=K):OpR X (compareOp .NotIn) (rIn K true):=by subst hK;exact Jb
end
end L2
namespace L2
open PySem PySem.Spec PySem.Calls PyProof.Rows PySem.W
inductive Dat where
 | fl (v:V)
 | tp (xs:List Dat)
 | ls (xs:List Dat)
mutual
noncomputable def IsDt (H:Hp):Dat->V->Prop
 | .fl x,v=>v=x/\zE x=true
 | .tp ds,v=>∃ a vs,v=.ref a/\H a=some (.tup vs)/\IsDs H ds vs
 | .ls ds,v=>∃ a vs,v=.ref a/\H a=some (.lst vs)/\IsDs H ds vs
noncomputable def IsDs (H:Hp):List Dat->List V->Prop
 | [],vs=>vs=[]
 | d::ds,vs=>∃ v r,vs=v::r/\IsDt H d v/\IsDs H ds r
end
mutual
noncomputable def eqD:Dat->Dat->Bool
 | .fl x,.fl y=>eqV x y
 | .tp xs,.tp ys=>eqDs xs ys
 | .ls xs,.ls ys=>eqDs xs ys
 | .fl _,.tp _=>false
 | .fl _,.ls _=>false
 | .tp _,.fl _=>false
 | .tp _,.ls _=>false
 | .ls _,.fl _=>false
 | .ls _,.tp _=>false
noncomputable def eqDs:List Dat->List Dat->Bool
 | [],[]=>true
 | x::xs,y::ys=>eqD x y&&eqDs xs ys
 | [],_::_=>false
 | _::_,[]=>false
end
mutual
noncomputable def depD:Dat->Nat
 | .fl _=>0
 | .tp xs=>xC xs+1
 | .ls xs=>xC xs+1
noncomputable def xC:List Dat->Nat
 | []=>0
 | d::ds=>max (depD d) (xC ds)
end
mutual
theorem IsDt.mono {H H':Hp}(g:Same H H'):∀ {d:Dat} {v:V},IsDt H d v->IsDt H' d v
 | .fl x,v,h=>by simp only [IsDt] at h ⊢;exact h
 | .tp ds,v,h=>by
  simp only [IsDt] at h ⊢
  obtain⟨a,vs,e,h1,h2⟩:=h
  exact⟨a,vs,e,g _ _ h1,IsDs.mono g h2⟩
 | .ls ds,v,h=>by
  simp only [IsDt] at h ⊢
  obtain⟨a,vs,e,h1,h2⟩:=h
  exact⟨a,vs,e,g _ _ h1,IsDs.mono g h2⟩
theorem IsDs.mono {H H':Hp}(g:Same H H'):∀ {ds:List Dat} {vs:List V},IsDs H ds vs->IsDs H' ds vs
 | [],vs,h=>by simp only [IsDs] at h ⊢;exact h
 | d::ds,vs,h=>by
  simp only [IsDs] at h ⊢
  obtain⟨v,r,e,h1,h2⟩:=h
  exact⟨v,r,e,IsDt.mono g h1,IsDs.mono g h2⟩
end
theorem IsDs.len {H:Hp}:∀ {ds:List Dat} {vs:List V},IsDs H ds vs->ds.length=vs.length
 | [],vs,h=>by simp only [IsDs] at h;subst h;rfl
 | d::ds,vs,h=>by
  simp only [IsDs] at h
  obtain⟨v,r,e,h1,h2⟩:=h
  rw [e,List.length_cons,List.length_cons,IsDs.len h2]
theorem Wc {v:V}(h:zE v=true):eqV v v=true:=by
 cases v<;>simp [eqV,zE] at h ⊢
mutual
theorem Zo {H:Hp}:∀ {d e:Dat} {v:V},IsDt H d v->IsDt H e v->eqD d e=true
 | .fl x,.fl y,v,h,k=>by
  simp only [IsDt] at h k
  obtain⟨rfl,f⟩:=h
  obtain⟨rfl,_⟩:=k
  simp only [eqD]
  exact Wc f
 | .tp xs,.tp ys,v,h,k=>by
  simp only [IsDt] at h k
  obtain⟨a,vs,rfl,h1,h2⟩:=h
  obtain⟨b,us,e,k1,k2⟩:=k
  cases e
  rw [h1] at k1
  cases k1
  simp only [eqD]
  exact yT h2 k2
 | .ls xs,.ls ys,v,h,k=>by
  simp only [IsDt] at h k
  obtain⟨a,vs,rfl,h1,h2⟩:=h
  obtain⟨b,us,e,k1,k2⟩:=k
  cases e
  rw [h1] at k1
  cases k1
  simp only [eqD]
  exact yT h2 k2
 | .fl x,.tp ys,v,h,k=>by
  simp only [IsDt] at h k
  obtain⟨rfl,f⟩:=h
  obtain⟨b,us,rfl,k1,k2⟩:=k
  simp [zE] at f
 | .fl x,.ls ys,v,h,k=>by
  simp only [IsDt] at h k
  obtain⟨rfl,f⟩:=h
  obtain⟨b,us,rfl,k1,k2⟩:=k
  simp [zE] at f
 | .tp xs,.fl y,v,h,k=>by
  simp only [IsDt] at h k
  obtain⟨rfl,f⟩:=k
  obtain⟨b,us,rfl,k1,k2⟩:=h
  simp [zE] at f
 | .ls xs,.fl y,v,h,k=>by
  simp only [IsDt] at h k
  obtain⟨rfl,f⟩:=k
  obtain⟨b,us,rfl,k1,k2⟩:=h
  simp [zE] at f
 | .tp xs,.ls ys,v,h,k=>by
  simp only [IsDt] at h k
  obtain⟨a,vs,rfl,h1,h2⟩:=h
  obtain⟨b,us,e,k1,k2⟩:=k
  cases e
  rw [h1] at k1
  cases k1
 | .ls xs,.tp ys,v,h,k=>by
  simp only [IsDt] at h k
  obtain⟨a,vs,rfl,h1,h2⟩:=h
  obtain⟨b,us,e,k1,k2⟩:=k
  cases e
  rw [h1] at k1
  cases k1
theorem yT {H:Hp}:∀ {ds es:List Dat} {vs:List V},IsDs H ds vs->IsDs H es vs->eqDs ds es=true
 | [],[],_,_,_=>rfl
 | d::ds,e::es,vs,h,k=>by
  simp only [IsDs] at h k
  obtain⟨v,r,rfl,h1,h2⟩:=h
  obtain⟨v',r',e',k1,k2⟩:=k
  cases e'
  simp only [eqDs,Bool.and_eq_true]
  exact⟨Zo h1 k1,yT h2 k2⟩
 | [],e::es,vs,h,k=>by
  simp only [IsDs] at h k
  subst h
  obtain⟨v',r',e',k1,k2⟩:=k
  cases e'
 | d::ds,[],vs,h,k=>by
  simp only [IsDs] at h k
  subst k
  obtain⟨v',r',e',k1,k2⟩:=h
  cases e'
end
mutual
noncomputable def VB:Dat->Bool
 | .fl v=>zE v
 | .tp xs=>wj xs
 | .ls xs=>wj xs
noncomputable def wj:List Dat->Bool
 | []=>true
 | d::ds=>VB d&&wj ds
end
mutual
theorem We:∀ {d:Dat},VB d=true->eqD d d=true
 | .fl v,h=>by simp only [eqD];exact Wc h
 | .tp xs,h=>by simp only [eqD];simp only [VB] at h;exact yU h
 | .ls xs,h=>by simp only [eqD];simp only [VB] at h;exact yU h
theorem yU:∀ {ds:List Dat},wj ds=true->eqDs ds ds=true
 | [],_=>rfl
 | d::ds,h=>by
  simp only [wj,Bool.and_eq_true] at h
  simp only [eqDs,Bool.and_eq_true]
  exact⟨We h.1,yU h.2⟩
end
theorem xI:∀ {ds es:List Dat},ds.length≠es.length->eqDs ds es=false
 | [],[],h=>absurd rfl h
 | d::ds,e::es,h=>by
  simp only [eqDs]
  rw [xI (ds:=ds) (es:=es) (by simpa using h),Bool.and_false]
 | [],_::_,_=>rfl
 | _::_,[],_=>rfl
noncomputable def dGet (ds:List Dat)(j:Nat):Dat:=ds.getD j (.fl .non)
theorem xJ:∀ {ds es:List Dat},ds.length=es.length->(List.range ds.length).all (fun j=>eqD (dGet ds j) (dGet es j))=eqDs ds es
 | [],[],_=>rfl
 | d::ds,e::es,h=>by
  rw [List.length_cons,List.range_succ_eq_map,List.all_cons,List.all_map]
  simp only [eqDs]
  have:=xJ (ds:=ds) (es:=es) (by simpa using h)
  rw [← this]
  rfl
 | [],_::_,h=>by simp at h
 | _::_,[],h=>by simp at h
theorem Zp {ds es:List Dat}{n m:Nat}(hn:n=ds.length)(hm:m=es.length):((List.range (min n m)).all (fun j=>eqD (dGet ds j) (dGet es j))&&n == m)=eqDs ds es:=by
 subst hn hm
 by_cases h:ds.length=es.length
 ·rw [← h,Nat.min_self,beq_self_eq_true,Bool.and_true]
  exact xJ h
 ·rw [xI h,beq_eq_false_iff_ne.mpr h,Bool.and_false]
section
variable {X:Cx} {pins:List (Addr×Obj)} {σ:L2.St} {H:Hp} {s:Shared}
theorem qW (I:Inv X pins σ H s){a:Addr}{vs:List V}(h:H a=some (.tup vs)):∃ its:List Value,Vals vs its/\s.heap.IsTuple a its.toArray:=by
 obtain⟨its,r,p,_⟩:=I.tuple (SqT.of h)
 exact⟨its,r,p⟩
theorem qM (I:Inv X pins σ H s){a:Addr}{vs:List V}(h:H a=some (.lst vs)):∃ its:List Value,Vals vs its/\s.heap.IsList a its.toArray:=by
 obtain⟨its,r,p,_⟩:=I.list (SqL.of h)
 exact⟨its,r,p.isList⟩
mutual
theorem zfi (I:Inv X pins σ H s):∀ (d e:Dat) (A:Around) (x y:V) (u w:Value),A.units+depD d<cLine->IsDt H d x->IsDt H e y->RelV x u->RelV y w->SeqAt.EqAt A s u w (eqD d e)
 | .fl x,.fl y,A,x',y',u,w,hu,h,k,ru,rw'=>by
  simp only [IsDt] at h k
  obtain⟨rfl,f⟩:=h
  obtain⟨rfl,g⟩:=k
  simp only [eqD]
  exact KZ ru rw' f g
 | .tp ds,.tp es,A,x,y,u,w,hu,h,k,ru,rw'=>by
  have hh:=h
  have kk:=k
  simp only [IsDt] at h k
  obtain⟨a,vs,rfl,h1,h2⟩:=h
  obtain⟨b,us,rfl,k1,k2⟩:=k
  cases ru
  cases rw'
  by_cases hab:a=b
  ·subst hab
   rw [Zo hh kk]
   exact SeqAt.EqAt.same _
  obtain⟨i1,r1,p1⟩:=qW I h1
  obtain⟨i2,r2,p2⟩:=qW I k1
  simp only [depD] at hu
  refine SeqAt.EqAt.of_refs hab ?_
  have:=SeqAt.RcAt.tuples (A:=A) (e:=fun j=>eqD (dGet ds j) (dGet es j)) p1 p2 (by omega) (wO I ds es A.in1 vs us i1 i2 (by show A.units+1+_<_;omega) h2 k2 r1 r2)
  rw [Zp (by rw [List.size_toArray,← r1.length,h2.len]) (by rw [List.size_toArray,← r2.length,k2.len])] at this
  simp only [eqD]
  exact this
 | .ls ds,.ls es,A,x,y,u,w,hu,h,k,ru,rw'=>by
  have hh:=h
  have kk:=k
  simp only [IsDt] at h k
  obtain⟨a,vs,rfl,h1,h2⟩:=h
  obtain⟨b,us,rfl,k1,k2⟩:=k
  cases ru
  cases rw'
  by_cases hab:a=b
  ·subst hab
   rw [Zo hh kk]
   exact SeqAt.EqAt.same _
  obtain⟨i1,r1,p1⟩:=qM I h1
  obtain⟨i2,r2,p2⟩:=qM I k1
  have l1:=r1.length
  have l2:=r2.length
  have l3:=h2.len
  have l4:=k2.len
  simp only [depD] at hu
  refine SeqAt.EqAt.of_refs hab ?_
  simp only [eqD]
  by_cases hl:ds.length=es.length
  ·have:=SeqAt.RcAt.lists (A:=A) (e:=fun j=>eqD (dGet ds j) (dGet es j)) p1 p2 (by simp;omega) (by omega) (wO I ds es A.in1 vs us i1 i2 (by show A.units+1+_<_;omega) h2 k2 r1 r2)
   rw [List.size_toArray,← l1,← l3,xJ hl] at this
   exact this
  ·rw [xI hl]
   exact SeqAt.RcAt.lists_lengths p1 p2 (by simp;omega) (by omega)
 | .fl x,.tp es,A,x',y,u,w,hu,h,k,ru,rw'=>by
  simp only [IsDt] at h k
  obtain⟨rfl,f⟩:=h
  obtain⟨b,us,rfl,k1,k2⟩:=k
  cases rw'
  obtain⟨i2,r2,p2⟩:=qW I k1
  simp only [eqD]
  have hu:A.units<cLine:=by omega
  cases x' with
  | non=>cases ru;exact SeqAt.EqAt.none_tuple p2 hu
  | bl z=>cases ru;exact SeqAt.EqAt.bool_tuple z p2 hu
  | int z=>obtain⟨t,rfl⟩:=ru;exact SeqAt.EqAt.int_tuple z t p2 hu
  | str z=>obtain⟨t,rfl⟩:=ru;exact SeqAt.EqAt.str_tuple z t p2 hu
  | byt z=>simp [zE] at f
  | flt z=>simp [zE] at f
  | ref z=>simp [zE] at f
  | ty z=>simp [zE] at f
 | .fl x,.ls es,A,x',y,u,w,hu,h,k,ru,rw'=>by
  simp only [IsDt] at h k
  obtain⟨rfl,f⟩:=h
  obtain⟨b,us,rfl,k1,k2⟩:=k
  cases rw'
  obtain⟨i2,r2,p2⟩:=qM I k1
  simp only [eqD]
  have hu:A.units<cLine:=by omega
  cases x' with
  | non=>cases ru;exact SeqAt.EqAt.none_list p2 hu
  | bl z=>cases ru;exact SeqAt.EqAt.bool_list z p2 hu
  | int z=>obtain⟨t,rfl⟩:=ru;exact SeqAt.EqAt.int_list z t p2 hu
  | str z=>obtain⟨t,rfl⟩:=ru;exact SeqAt.EqAt.str_list z t p2 hu
  | byt z=>simp [zE] at f
  | flt z=>simp [zE] at f
  | ref z=>simp [zE] at f
  | ty z=>simp [zE] at f
 | .tp ds,.fl y,A,x,y',u,w,hu,h,k,ru,rw'=>by
  simp only [IsDt] at h k
  obtain⟨rfl,f⟩:=k
  obtain⟨b,us,rfl,k1,k2⟩:=h
  cases ru
  obtain⟨i2,r2,p2⟩:=qW I k1
  simp only [eqD]
  have hu:A.units<cLine:=by omega
  cases y' with
  | non=>cases rw';exact SeqAt.EqAt.tuple_none p2 hu
  | bl z=>cases rw';exact SeqAt.EqAt.tuple_bool z p2 hu
  | int z=>obtain⟨t,rfl⟩:=rw';exact SeqAt.EqAt.tuple_int z t p2 hu
  | str z=>obtain⟨t,rfl⟩:=rw';exact SeqAt.EqAt.tuple_str z t p2 hu
  | byt z=>simp [zE] at f
  | flt z=>simp [zE] at f
  | ref z=>simp [zE] at f
  | ty z=>simp [zE] at f
 | .ls ds,.fl y,A,x,y',u,w,hu,h,k,ru,rw'=>by
  simp only [IsDt] at h k
  obtain⟨rfl,f⟩:=k
  obtain⟨b,us,rfl,k1,k2⟩:=h
  cases ru
  obtain⟨i2,r2,p2⟩:=qM I k1
  simp only [eqD]
  have hu:A.units<cLine:=by omega
  cases y' with
  | non=>cases rw';exact SeqAt.EqAt.list_none p2 hu
  | bl z=>cases rw';exact SeqAt.EqAt.list_bool z p2 hu
  | int z=>obtain⟨t,rfl⟩:=rw';exact SeqAt.EqAt.list_int z t p2 hu
  | str z=>obtain⟨t,rfl⟩:=rw';exact SeqAt.EqAt.list_str z t p2 hu
  | byt z=>simp [zE] at f
  | flt z=>simp [zE] at f
  | ref z=>simp [zE] at f
  | ty z=>simp [zE] at f
 | .tp ds,.ls es,A,x,y,u,w,hu,h,k,ru,rw'=>by
  simp only [IsDt] at h k
  obtain⟨a,vs,rfl,h1,h2⟩:=h
  obtain⟨b,us,rfl,k1,k2⟩:=k
  cases ru
  cases rw'
  obtain⟨i1,r1,p1⟩:=qW I h1
  obtain⟨i2,r2,p2⟩:=qM I k1
  simp only [eqD]
  exact SeqAt.EqAt.tuple_list p1 p2 (by omega)
 | .ls ds,.tp es,A,x,y,u,w,hu,h,k,ru,rw'=>by
  simp only [IsDt] at h k
  obtain⟨a,vs,rfl,h1,h2⟩:=h
  obtain⟨b,us,rfl,k1,k2⟩:=k
  cases ru
  cases rw'
  obtain⟨i1,r1,p1⟩:=qM I h1
  obtain⟨i2,r2,p2⟩:=qW I k1
  simp only [eqD]
  exact SeqAt.EqAt.list_tuple p1 p2 (by omega)
theorem wO (I:Inv X pins σ H s):∀ (ds es:List Dat) (A:Around) (xs ys:List V) (us ws:List Value),A.units+xC ds<cLine->IsDs H ds xs->IsDs H es ys->Vals xs us->Vals ys ws ->
  ∀ j (h1:j<us.toArray.size) (h2:j<ws.toArray.size),SeqAt.EqAt A s us.toArray[j] ws.toArray[j] (eqD (dGet ds j) (dGet es j))
 | [],es,A,xs,ys,us,ws,hu,h,k,ru,rw',j,h1,h2=>by
  simp only [IsDs] at h
  subst h
  have:=ru.length
  rw [List.size_toArray] at h1
  simp at this
  omega
 | d::ds,[],A,xs,ys,us,ws,hu,h,k,ru,rw',j,h1,h2=>by
  simp only [IsDs] at k
  subst k
  have:=rw'.length
  rw [List.size_toArray] at h2
  simp at this
  omega
 | d::ds,e::es,A,xs,ys,us,ws,hu,h,k,ru,rw',j,h1,h2=>by
  simp only [IsDs] at h k
  obtain⟨v,r,rfl,a1,a2⟩:=h
  obtain⟨v',r',rfl,b1,b2⟩:=k
  simp only [xC] at hu
  cases ru with
  | cons q1 q2=>
   cases rw' with
   | cons q3 q4=>
    cases j with
    | zero=>exact zfi I d e A _ _ _ _ (by omega) a1 b1 q1 q3
    | succ j=>
     have:=wO I ds es A _ _ _ _ (by omega) a2 b2 q2 q4 j (by simpa using h1) (by simpa using h2)
     simpa [dGet] using this
end
end
section
variable {X:Cx}
noncomputable def rEqD:R2:=fun x y H Q=>∃ d e a b,x=.ref a/\y=.ref b/\IsDt H d (.ref a)/\IsDt H e (.ref b)/\depD d<=50/\Q (.bl (eqD d e)) H
noncomputable def rNeD:R2:=fun x y H Q=>∃ d e a b,x=.ref a/\y=.ref b/\IsDt H d (.ref a)/\IsDt H e (.ref b)/\depD d<=50/\Q (.bl (!eqD d e)) H
theorem zfj (hu:X.A.units+64<cLine):OpR X (compareOp .Eq) rEqD:=by
 intro pins s σ H x y v u Q I rx ry h
 obtain⟨d,e,a,b,rfl,rfl,h,k,hd,q⟩:=h
 cases rx
 cases ry
 match d,e,h,k,hd,q with
 | .tp ds,.tp es,h,k,hd,q=>
  simp only [IsDt] at h k
  obtain⟨_,vs,e1,h1,h2⟩:=h
  obtain⟨_,us,e2,k1,k2⟩:=k
  cases e1
  cases e2
  obtain⟨i1,r1,p1⟩:=qW I h1
  obtain⟨i2,r2,p2⟩:=qW I k1
  simp only [depD] at hd
  refine SeqAt.eq_tupleAt (e:=fun j=>eqD (dGet ds j) (dGet es j)) p1 p2 (by omega) (wO I ds es X.A.in1 vs us i1 i2 (by show X.A.units+1+_<_;omega) h2 k2 r1 r2) ⟨.bl _,H,I,rfl,?_⟩
  rw [Zp (by rw [List.size_toArray,← r1.length,h2.len]) (by rw [List.size_toArray,← r2.length,k2.len])]
  exact q
 | .ls ds,.ls es,h,k,hd,q=>
  simp only [IsDt] at h k
  obtain⟨_,vs,e1,h1,h2⟩:=h
  obtain⟨_,us,e2,k1,k2⟩:=k
  cases e1
  cases e2
  obtain⟨i1,r1,p1⟩:=qM I h1
  obtain⟨i2,r2,p2⟩:=qM I k1
  have l1:=r1.length
  have l2:=r2.length
  have l3:=h2.len
  have l4:=k2.len
  simp only [depD] at hd
  by_cases hl:ds.length=es.length
  ·refine SeqAt.eq_listAt (e:=fun j=>eqD (dGet ds j) (dGet es j)) p1 p2 (by simp;omega) (by omega) (wO I ds es X.A.in1 vs us i1 i2 (by show X.A.units+1+_<_;omega) h2 k2 r1 r2) ⟨.bl _,H,I,rfl,?_⟩
   rw [List.size_toArray,← l1,← l3,xJ hl]
   exact q
  ·refine SeqAt.eq_list_lengthsAt p1 p2 (by simp;omega) (by omega) ⟨.bl _,H,I,rfl,?_⟩
   simp only [eqD] at q
   rw [xI hl] at q
   exact q
 | .tp ds,.ls es,h,k,hd,q=>
  simp only [IsDt] at h k
  obtain⟨_,vs,e1,h1,h2⟩:=h
  obtain⟨_,us,e2,k1,k2⟩:=k
  cases e1
  cases e2
  obtain⟨i1,r1,p1⟩:=qW I h1
  obtain⟨i2,r2,p2⟩:=qM I k1
  exact SeqAt.RcAt.tuple_list p1 p2 (by omega) _ _ _ _ ⟨.bl _,H,I,rfl,q⟩
 | .ls ds,.tp es,h,k,hd,q=>
  simp only [IsDt] at h k
  obtain⟨_,vs,e1,h1,h2⟩:=h
  obtain⟨_,us,e2,k1,k2⟩:=k
  cases e1
  cases e2
  obtain⟨i1,r1,p1⟩:=qM I h1
  obtain⟨i2,r2,p2⟩:=qW I k1
  exact SeqAt.RcAt.list_tuple p1 p2 (by omega) _ _ _ _ ⟨.bl _,H,I,rfl,q⟩
 | .fl x,e,h,k,hd,q=>simp only [IsDt] at h;obtain⟨rfl,f⟩:=h;simp [zE] at f
 | .tp ds,.fl x,h,k,hd,q=>simp only [IsDt] at k;obtain⟨rfl,f⟩:=k;simp [zE] at f
 | .ls ds,.fl x,h,k,hd,q=>simp only [IsDt] at k;obtain⟨rfl,f⟩:=k;simp [zE] at f
theorem zfk (hu:X.A.units+64<cLine):OpR X (compareOp .NotEq) rNeD:=by
 intro pins s σ H x y v u Q I rx ry h
 obtain⟨d,e,a,b,rfl,rfl,h,k,hd,q⟩:=h
 cases rx
 cases ry
 match d,e,h,k,hd,q with
 | .tp ds,.tp es,h,k,hd,q=>
  simp only [IsDt] at h k
  obtain⟨_,vs,e1,h1,h2⟩:=h
  obtain⟨_,us,e2,k1,k2⟩:=k
  cases e1
  cases e2
  obtain⟨i1,r1,p1⟩:=qW I h1
  obtain⟨i2,r2,p2⟩:=qW I k1
  simp only [depD] at hd
  refine SeqAt.RcNeAt.tuples (e:=fun j=>eqD (dGet ds j) (dGet es j)) p1 p2 (by omega) (wO I ds es X.A.in1 vs us i1 i2 (by show X.A.units+1+_<_;omega) h2 k2 r1 r2) _ _ _ _ ⟨.bl _,H,I,rfl,?_⟩
  rw [Zp (by rw [List.size_toArray,← r1.length,h2.len]) (by rw [List.size_toArray,← r2.length,k2.len])]
  exact q
 | .ls ds,.ls es,h,k,hd,q=>
  simp only [IsDt] at h k
  obtain⟨_,vs,e1,h1,h2⟩:=h
  obtain⟨_,us,e2,k1,k2⟩:=k
  cases e1
  cases e2
  obtain⟨i1,r1,p1⟩:=qM I h1
  obtain⟨i2,r2,p2⟩:=qM I k1
  have l1:=r1.length
  have l2:=r2.length
  have l3:=h2.len
  have l4:=k2.len
  simp only [depD] at hd
  by_cases hl:ds.length=es.length
  ·refine SeqAt.RcNeAt.lists (e:=fun j=>eqD (dGet ds j) (dGet es j)) p1 p2 (by simp;omega) (by omega) (wO I ds es X.A.in1 vs us i1 i2 (by show X.A.units+1+_<_;omega) h2 k2 r1 r2) _ _ _ _ ⟨.bl _,H,I,rfl,?_⟩
   rw [List.size_toArray,← l1,← l3,xJ hl]
   exact q
  ·refine SeqAt.RcNeAt.lists_lengths p1 p2 (by simp;omega) (by omega) _ _ _ _ ⟨.bl _,H,I,rfl,?_⟩
   simp only [eqD] at q
   rw [xI hl] at q
   exact q
 | .tp ds,.ls es,h,k,hd,q=>
  simp only [IsDt] at h k
  obtain⟨_,vs,e1,h1,h2⟩:=h
  obtain⟨_,us,e2,k1,k2⟩:=k
  cases e1
  cases e2
  obtain⟨i1,r1,p1⟩:=qW I h1
  obtain⟨i2,r2,p2⟩:=qM I k1
  exact SeqAt.RcNeAt.tuple_list p1 p2 (by omega) _ _ _ _ ⟨.bl _,H,I,rfl,q⟩
 | .ls ds,.tp es,h,k,hd,q=>
  simp only [IsDt] at h k
  obtain⟨_,vs,e1,h1,h2⟩:=h
  obtain⟨_,us,e2,k1,k2⟩:=k
  cases e1
  cases e2
  obtain⟨i1,r1,p1⟩:=qM I h1
  obtain⟨i2,r2,p2⟩:=qW I k1
  exact SeqAt.RcNeAt.list_tuple p1 p2 (by omega) _ _ _ _ ⟨.bl _,H,I,rfl,q⟩
 | .fl x,e,h,k,hd,q=>simp only [IsDt] at h;obtain⟨rfl,f⟩:=h;simp [zE] at f
 | .tp ds,.fl x,h,k,hd,q=>simp only [IsDt] at k;obtain⟨rfl,f⟩:=k;simp [zE] at f
 | .ls ds,.fl x,h,k,hd,q=>simp only [IsDt] at k;obtain⟨rfl,f⟩:=k;simp [zE] at f
end
end L2
namespace L2
open PySem PySem.Spec PySem.Calls PyProof.Rows PySem.W
noncomputable abbrev Tx:=List Nat
noncomputable def tx (x:Tx):V:=.str (S x)
noncomputable abbrev ft (x:Tx):Dat:=.fl (.str (S x))
structure MS where
 mode:Tx
 word:Tx
 opens:List Tx
 talk:Tx
noncomputable abbrev Ev:=List Tx
noncomputable abbrev Ans:=Option (MS×List Ev)
noncomputable abbrev Wf:Tx:=[116,101,120,116]
noncomputable abbrev zas:Tx:=[109,97,114,107]
noncomputable abbrev zdO:Tx:=[111,112,101,110]
noncomputable abbrev zat:Tx:=[110,97,109,101]
noncomputable abbrev zau:Tx:=[115,108,97,115,104]
noncomputable abbrev zav:Tx:=[115,104,117,116]
noncomputable abbrev mGap:Tx:=[103,97,112]
noncomputable abbrev zaw:Tx:=[97,116,116,114]
noncomputable abbrev mIs:Tx:=[105,115]
noncomputable abbrev zdP:Tx:=[98,97,110,103]
noncomputable abbrev Wg:Tx:=[98,97,114,101]
noncomputable abbrev zax:Tx:=[99,111,100,101]
noncomputable abbrev mRow:Tx:=[114,111,119]
noncomputable abbrev VC:Tx:=[115,116,114,111,107,101]
noncomputable abbrev yo:Tx:=[113,117,111,116,101,100]
noncomputable abbrev XF:Tx:=[113,109,97,114,107]
noncomputable abbrev VD:Tx:=[100,111,110,101]
noncomputable abbrev VE:Tx:=[116,97,108,107]
noncomputable abbrev XG:Tx:=[116,109,97,114,107]
noncomputable abbrev QL:Tx:=[97,115,105,115]
noncomputable abbrev eBox:Tx:=[98,111,120]
noncomputable abbrev VF:Tx:=[97,116,116,114]
noncomputable abbrev eIn:Tx:=[105,110]
noncomputable abbrev kG:Tx:=[115,105,103,110]
noncomputable abbrev zgL:Tx:=[110,101,120,116]
noncomputable abbrev zgM:Tx:=[119,111,114,100]
noncomputable abbrev zgN:Tx:=[115,97,105,100]
noncomputable abbrev eOut:Tx:=[111,117,116]
noncomputable abbrev xK:Tx:=[98,101,116,119,101,101,110]
noncomputable abbrev VG:Tx:=[119,111,114,100]
noncomputable abbrev VH:Tx:=[115,97,105,100]
noncomputable abbrev VI:Tx:=[115,116,114,111,107,101]
noncomputable abbrev Jg:Tx:=[60,47,97,115,105,115,62]
noncomputable abbrev lt:Tx:=[97,98,99,100,101,102,103,104,105,106,107,108,109,110,111,112,113,114,115,116,117,118,119,120,121,122]
noncomputable def zZ (m:Tx)(op:List Tx)(es:List Ev):Ans:=some (⟨m,[],op,[]⟩,es)
noncomputable def yp (m:Tx)(op:List Tx):Option Nat->Ans
 | none=>none
 | some c=>zZ m op [[kG,[c]]]
noncomputable def gath (m w:Tx)(op:List Tx)(t:Tx)(n:Nat):Ans:=if n<w.length then none else some (⟨m,w,op,t⟩,[])
noncomputable def yq (op:List Tx)(es:List Ev):Ans:=if op=[] then none else zZ Wf op.dropLast (es++[[eOut]])
noncomputable def VJ (op:List Tx)(es:List Ev):Ans:=if op=[] then none else zZ (if op.getLast? = some QL then QL else Wf) op (es++[[eIn]])
noncomputable def Wh (op:List Tx)(c:Nat)(es:List Ev):Ans:=if c=32 then zZ mGap op es else if c=47 then zZ zau op es else if c=62 then VJ op es else none
noncomputable def fedB (c:Nat):Option (Tx×List Ev):=if c=32 then some (xK,[]) else if c=39 then some (VH,[[zgN]]) else if c∈ws then some (VG,[[zgM],[kG,[c]]]) else none
noncomputable def fedW (c:Nat):Option (Tx×List Ev):=if c∈ws then some (VG,[[kG,[c]]]) else fedB c
noncomputable def fedS (c:Nat):Option (Tx×List Ev):=if c=39 then some (xK,[]) else if c=92 then some (VI,[]) else some (VH,[[kG,[c]]])
noncomputable def VL (t:Tx)(c:Nat):Option (Tx×List Ev):=if t=xK then fedB c else if t=VG then fedW c else if t=VH then fedS c else if t=VI then some (VH,[[kG,[c]]]) else none
noncomputable def fedM (op:List Tx)(t:Tx)(c:Option Nat):Ans:=match c with
 | none=>none
 | some c=>match VL t c with
  | none=>none
  | some (t',es)=>some (⟨VE,[],op,t'⟩,es)
noncomputable def zay (w:Tx)(c:Nat):Option Nat:=if c=59 then L2.told w else none
noncomputable abbrev AtF:=Tx->List Tx->Tx->Nat->Ans
noncomputable def zdQ:AtF:=fun _ op _ c=>if c=60 then zZ zdO op [] else if c=38 then zZ zas op [] else yp Wf op (some c)
noncomputable def zdR:AtF:=fun w op _ c=>if c∈fg then gath zas (w++[c]) op [] 2 else yp Wf op (zay w c)
noncomputable def zdS:AtF:=fun _ op _ c=>if c=47 then zZ zav op [] else if c∈lt then gath zat [c] op [] 8 else none
noncomputable def aName:AtF:=fun w op _ c=>if c∈lt then gath zat (w++[c]) op [] 8 else Wh (op++[w]) c [[eBox,w]]
noncomputable def zaz:AtF:=fun _ op _ c=>if c=62 then yq op [[eIn]] else none
noncomputable def zdT:AtF:=fun w op _ c=>if c∈lt then gath zav (w++[c]) op [] 8 else if c=62/\op.getLast? = some w then yq op [] else none
noncomputable def aGap:AtF:=fun _ op _ c=>if c∈lt then gath zaw [c] op [] 8 else none
noncomputable def zdU:AtF:=fun w op _ c=>if c∈lt then gath zaw (w++[c]) op [] 8 else if c=58 then zZ Wg op [[VF,w,Wg]] else if c=40 then zZ mRow op [[VF,w,mRow]]
 else if c=61 then some (⟨mIs,w,op,[]⟩,[]) else if c=33 then some (⟨zdP,w,op,[]⟩,[]) else none
noncomputable def aIs:AtF:=fun w op _ c=>if c=34 then zZ yo op [[VF,w,yo]] else none
noncomputable def zdV:AtF:=fun w op _ c=>if c=34 then some (⟨VE,[],op,xK⟩,[[VF,w,VE]]) else none
noncomputable def zdW:AtF:=fun _ op _ c=>if c∈ws then yp Wg op (some c) else if c=126 then zZ zax op [] else Wh op c []
noncomputable def zdX:AtF:=fun w op _ c=>if w=[] then(if c∈fg then some (⟨zax,[c],op,[]⟩,[]) else none) else yp Wg op (L2.told (w++[c]))
noncomputable def aRow:AtF:=fun _ op _ c=>if c=92 then zZ VC op [] else if c=44 then zZ mRow op [[zgL]] else if c=41 then zZ VD op [] else yp mRow op (some c)
noncomputable def VM:AtF:=fun _ op _ c=>yp mRow op (some c)
noncomputable def VN:AtF:=fun _ op _ c=>if c=34 then zZ VD op [] else if c=38 then zZ XF op [] else yp yo op (some c)
noncomputable def zaA:AtF:=fun w op _ c=>if c∈fg then gath XF (w++[c]) op [] 2 else yp yo op (zay w c)
noncomputable def zdY:AtF:=fun _ op _ c=>Wh op c []
noncomputable def zdZ:AtF:=fun _ op t c=>if c=38 then some (⟨XG,[],op,t⟩,[]) else if c=34 then(if t=xK\/t=VG then zZ VD op [] else none) else fedM op t (some c)
noncomputable def zaB:AtF:=fun w op t c=>if c∈fg then gath XG (w++[c]) op t 2 else fedM op t (zay w c)
noncomputable def zd0:AtF:=fun w op _ c=>if w++[c]=Jg then yq op [] else if (w++[c]).isPrefixOf Jg then some (⟨QL,w++[c],op,[]⟩,[])
 else if c=60 then some (⟨QL,[c],op,[]⟩,w.map fun k=>[kG,[k]]) else zZ QL op ((w.map fun k=>[kG,[k]])++[[kG,[c]]])
noncomputable def zd1:List (Tx×AtF):=[(Wf,zdQ),(zas,zdR),(zdO,zdS),(zat,aName),(zau,zaz),(zav,zdT),(mGap,aGap),(zaw,zdU),(mIs,aIs),(zdP,zdV),(Wg,zdW),(zax,zdX),(mRow,aRow),(VC,VM),(yo,VN),(XF,zaA),(VD,zdY),(VE,zdZ),(XG,zaB),(QL,zd0)]
def EvV (H:Hp)(v:V)(e:Ev):Prop:=∃ a,v=.ref a/\H a=some (.tup (e.map tx))
inductive EvA (H:Hp):List V->List Ev->Prop
 | nil:EvA H [] []
 | cons {v:V} {e:Ev} {vs:List V} {es:List Ev}:EvV H v e->EvA H vs es->EvA H (v::vs) (e::es)
def EvL (H:Hp)(a:Addr)(es:List Ev):Prop:=∃ vs,H a=some (.lst vs)/\EvA H vs es
end L2
namespace L2
open PySem PySem.Spec PySem.Calls PyProof.Rows PySem.W
end L2
namespace L2
open PySem PySem.Spec PySem.Calls PyProof.Rows PySem.W
end L2
namespace L2
open PySem PySem.Spec PySem.Calls PyProof.Rows PySem.W
theorem YX {α:Type}(xs:List α):atI xs (-1)=xs.getLast?:=by
 unfold atI ixN
 rw [if_neg (by decide)]
 cases xs with
 | nil=>rfl
 | cons x xs=>
  rw [if_pos (by rw [List.length_cons];omega),List.getLast?_eq_getElem?]
  simp only [Option.bind_some]
  congr 1
  simp
  omega
end L2
namespace L2
open PySem PySem.Spec PySem.Calls PyProof.Rows PySem.W
end L2
namespace L2
open PySem PySem.Spec PySem.Calls PyProof.Rows PySem.W
theorem at_ok:∀ e∈zd1,∀ (w:Tx) (op:List Tx) (t:Tx) (c:Nat) (s':MS) (es:List Ev),e.2 w op t c=some (s',es)->w.length<=8->s'.word.length<=8/\s'.opens.length<=op.length+1/\es.length<=10:=by
 have led:∀ op c es s' es',Wh op c es=some (s',es')->s'.word.length<=8/\s'.opens.length<=op.length/\es'.length<=es.length+1:=by
  intro op c es s' es' h
  simp only [Wh,zZ,VJ] at h
  repeat' split at h
  all_goals (first | cases h | skip)
  all_goals simp
 have shut:∀ op es s' es',yq op es=some (s',es')->s'.word.length<=8/\s'.opens.length<=op.length/\es'.length<=es.length+1:=by
  intro op es s' es' h
  simp only [yq,zZ] at h
  split at h
  ·cases h
  ·cases h
   simp
 have toldK:∀ m op o s' es',yp m op o=some (s',es')->s'.word.length<=8/\s'.opens.length<=op.length/\es'.length<=10:=by
  intro m op o s' es' h
  cases o with
  | none=>cases h
  | some c=>cases h;simp
 have gathK:∀ m w op t n s' es',n<=8->gath m w op t n=some (s',es')->s'.word.length<=8/\s'.opens.length<=op.length/\es'.length<=10:=by
  intro m w op t n s' es' hn h
  simp only [gath] at h
  split at h
  ·cases h
  ·cases h
   simp
   omega
 have feedK:∀ t c t' es',VL t c=some (t',es')->es'.length<=10:=by
  intro t c t' es' h
  simp only [VL,fedB,fedW,fedS] at h
  repeat' split at h
  all_goals (first | cases h | skip)
  all_goals simp
 have fedK:∀ op t o s' es',fedM op t o=some (s',es')->s'.word.length<=8/\s'.opens.length<=op.length/\es'.length<=10:=by
  intro op t o s' es' h
  cases o with
  | none=>cases h
  | some c=>
   simp only [fedM] at h
   cases hf:VL t c with
   | none=>rw [hf] at h;cases h
   | some r=>
    obtain⟨t',fs⟩:=r
    rw [hf] at h
    cases h
    exact⟨by simp,by simp,feedK _ _ _ _ hf⟩
 have pre:∀ l:Tx,l.isPrefixOf Jg=true->l.length<=8:=by
  intro l h
  rw [List.isPrefixOf_iff_prefix] at h
  have:=h.length_le
  simp at this
  omega
 intro e he w op t c s' es h hw
 simp only [zd1,List.mem_cons,List.not_mem_nil,or_false] at he
 rcases he with rfl | rfl | rfl | rfl | rfl | rfl | rfl | rfl | rfl | rfl | rfl | rfl | rfl | rfl | rfl | rfl | rfl | rfl | rfl | rfl
 all_goals simp only [zdQ,zdR,zdS,aName,zaz,zdT,aGap,zdU,aIs,zdV,zdW,zdX,aRow,VM,VN,zaA,zdY,zdZ,zaB,zd0] at h
 all_goals repeat' split at h
 all_goals first
  | (have:=toldK _ _ _ _ _ h;omega)
  | (have:=gathK _ _ _ _ _ _ _ (by decide) h;omega)
  | (have:=fedK _ _ _ _ _ h;omega)
  | (have:=led _ _ _ _ _ h;simp at this ⊢;omega)
  | (have:=shut _ _ _ _ h;simp at this ⊢;omega)
  | (cases h;simp;omega)
  | (cases h;simp;done)
  | (cases h;have:=pre _ (by assumption);simp at this ⊢;omega)
  | cases h
end L2
namespace L2
open PySem PySem.Spec PySem.Calls PyProof.Rows PySem.W
end L2
namespace L2
open PySem PySem.Spec PyProof.Rows
section
variable {κ:Type} [DecidableEq κ]
noncomputable def valV (kvs:List (κ×V))(k:κ):Option V:=(kvs.find? fun kv=>decide (kv.1=k)).map (·.2)
noncomputable def putK (kvs:List (κ×V))(k:κ)(v:V):List (κ×V):=
 if (kvs.any fun kv=>decide (kv.1=k))=true then kvs.map (fun kv=>if kv.1=k then(kv.1,v) else kv) else kvs++[(k,v)]
theorem Zq {p:κ×V}{r:List (κ×V)}{k:κ}(e:p.1=k):valV (p::r) k=some p.2:=by simp [valV,List.find?_cons,e]
theorem Zr {p:κ×V}{r:List (κ×V)}{k:κ}(e:¬ p.1=k):valV (p::r) k=valV r k:=by simp [valV,List.find?_cons,e]
theorem Wi (k:κ):∀ kvs:List (κ×V),(kvs.any fun kv=>decide (kv.1=k))=(valV kvs k).isSome
 | []=>rfl
 | p::r=>by
  rw [List.any_cons]
  by_cases e:p.1=k
  ·simp only [Zq e,decide_eq_true e,Bool.true_or,Option.isSome_some]
  ·rw [Zr e,decide_eq_false e,Bool.false_or];exact Wi k r
theorem kH (kvs:List (κ×V))(k:κ)(v:V):(putK kvs k v).length<=kvs.length+1:=by
 unfold putK
 split
 ·rw [List.length_map];omega
 ·rw [List.length_append,List.length_cons,List.length_nil];omega
theorem RelO.isSome_eq {o:Option V}{u:Option Value}(r:RelO o u):o.isSome=u.isSome:=by
 cases o with
 | none=>cases u with
  | none=>rfl
  | some _=>exact(show False from r).elim
 | some _=>cases u with
  | none=>exact(show False from r).elim
  | some _=>rfl
theorem KV.val {kvs:List (κ×V)}{vs:List (κ×Value)}(r:KV kvs vs)(k:κ):RelO (valV kvs k) (valueAt vs k):=by
 unfold KV at r
 induction r with
 | nil=>exact True.intro
 | @cons p q ps qs h t ih=>
  obtain⟨h1,h2⟩:=h
  by_cases e:p.1=k
  ·have e':q.1=k:=h1.symm.trans e
   have b:valueAt (q::qs) k=some q.2:=by simp [valueAt,List.find?_cons,e']
   rw [Zq e,b];exact h2
  ·have e':¬ q.1=k:=fun z=>e (h1.trans z)
   have b:valueAt (q::qs) k=valueAt qs k:=by simp [valueAt,List.find?_cons,e']
   rw [Zr e,b];exact ih
theorem KV.any {kvs:List (κ×V)}{vs:List (κ×Value)}(r:KV kvs vs)(k:κ):(kvs.any fun kv=>decide (kv.1=k))=vs.any fun kv=>decide (kv.1=k):=by
 unfold KV at r
 induction r with
 | nil=>rfl
 | cons h t ih=>rw [List.any_cons,List.any_cons,ih,h.1]
theorem KV.repl {kvs:List (κ×V)}{vs:List (κ×Value)}(r:KV kvs vs)(k:κ){y:V}{u:Value}(ry:RelV y u) :
  KV (kvs.map fun kv=>if kv.1=k then(kv.1,y) else kv) (vs.map fun kv=>if kv.1=k then(kv.1,u) else kv):=by
 unfold KV at r ⊢
 induction r with
 | nil=>exact .nil
 | @cons p q ps qs h t ih=>
  rw [List.map_cons,List.map_cons]
  refine .cons ?_ ih
  obtain⟨h1,h2⟩:=h
  by_cases e:p.1=k
  ·rw [if_pos e,if_pos (h1.symm.trans e)];exact⟨h1,ry⟩
  ·rw [if_neg e,if_neg (fun z=>e (h1.trans z))];exact⟨h1,h2⟩
theorem KV.put {kvs:List (κ×V)}{vs:List (κ×Value)}(r:KV kvs vs)(k:κ){y:V}{u:Value}(ry:RelV y u):KV (putK kvs k y) (stored vs k u):=by
 unfold putK stored
 rw [r.any k]
 by_cases e:(vs.any fun kv=>decide (kv.1=k))=true
 ·rw [if_pos e,if_pos e];exact r.repl k ry
 ·rw [if_neg e,if_neg e];exact Paired.snoc r ⟨rfl,ry⟩
theorem KV.keys {kvs:List (κ×V)}{vs:List (κ×Value)}(r:KV kvs vs):kvs.map (·.1)=vs.map (·.1):=by
 unfold KV at r
 induction r with
 | nil=>rfl
 | cons h t ih=>rw [List.map_cons,List.map_cons,ih,h.1]
theorem KV.length {kvs:List (κ×V)}{vs:List (κ×Value)}(r:KV kvs vs):kvs.length=vs.length:=Paired.length r
end
theorem Wj {P:Program}{w:World}{k:Key}{u:Value}(r:RelV (kV k) u):(zT P w).is k u=true:=by
 cases k with
 | inl i=>obtain⟨t,e⟩:=(show ∃ t,u=Value.int i t from r);subst e;exact J1 P w i t
 | inr x=>obtain⟨t,e⟩:=(show ∃ t,u=Value.str x t from r);subst e;exact J2 P w x t
theorem QM {P:Program}{w:World}:∀ {ks:List Key} {us:List Value},Vals (ks.map kV) us->ItemsAre (zT P w) ks us
 | [],_,r=>by rw [List.map_nil] at r;cases r;exact .nil
 | k::ks,_,r=>by
  rw [List.map_cons] at r
  cases r with
  | cons h t=>exact .cons (Wj h) (QM t)
noncomputable abbrev KT (H:Hp):List (List Key×V)->List (List Key×Addr×Value)->Prop:=Paired fun p q=>p.1=q.1/\H q.2.1=some (.tup (p.1.map kV))/\RelV p.2 q.2.2
theorem KT.val {H:Hp}{kvs:List (List Key×V)}{xs:List (List Key×Addr×Value)}(r:KT H kvs xs)(k:List Key):RelO (valV kvs k) ((atKey xs k).map (·.2)):=by
 induction r with
 | nil=>exact True.intro
 | @cons p q ps qs h t ih=>
  obtain⟨h1,_,h2⟩:=h
  by_cases e:p.1=k
  ·have e':q.1=k:=h1.symm.trans e
   have b:atKey (q::qs) k=some q.2:=by simp [atKey,List.find?_cons,e']
   rw [Zq e,b];exact h2
  ·have e':¬ q.1=k:=fun z=>e (h1.trans z)
   have b:atKey (q::qs) k=atKey qs k:=by simp [atKey,List.find?_cons,e']
   rw [Zr e,b];exact ih
theorem KT.repl {H:Hp}{kvs:List (List Key×V)}{xs:List (List Key×Addr×Value)}(r:KT H kvs xs)(k:List Key){y:V}{u:Value}(ry:RelV y u) :
  KT H (kvs.map fun kv=>if kv.1=k then(kv.1,y) else kv) (xs.map (putAt k u)):=by
 induction r with
 | nil=>exact .nil
 | @cons p q ps qs h t ih=>
  rw [List.map_cons,List.map_cons]
  refine .cons ?_ ih
  obtain⟨h1,h2,h3⟩:=h
  unfold putAt
  by_cases e:p.1=k
  ·rw [if_pos e,if_pos (h1.symm.trans e)];exact⟨h1,h2,ry⟩
  ·rw [if_neg e,if_neg (fun z=>e (h1.trans z))];exact⟨h1,h2,h3⟩
theorem KT.put {H:Hp}{kvs:List (List Key×V)}{xs:List (List Key×Addr×Value)}(r:KT H kvs xs)(k:List Key){b:Addr}{y:V}{u:Value}(hb:H b=some (.tup (k.map kV)))(ry:RelV y u) :
  KT H (putK kvs k y) (storedH xs k b u):=by
 have e:(kvs.any fun kv=>decide (kv.1=k))=(atKey xs k).isSome:=by
  rw [Wi,(r.val k).isSome_eq,Option.isSome_map]
 unfold putK storedH
 rw [e]
 by_cases q:(atKey xs k).isSome=true
 ·rw [if_pos q,if_pos q];exact r.repl k ry
 ·rw [if_neg q,if_neg q];exact Paired.snoc r ⟨rfl,hb,ry⟩
theorem KT.keeps {H H':Hp}{kvs:List (List Key×V)}{xs:List (List Key×Addr×Value)}(r:KT H kvs xs)(ht:∀ b ys,H b=some (.tup ys)->H' b=some (.tup ys)):KT H' kvs xs:=
 Paired.mapP r fun _ _ z=>⟨z.1,ht _ _ z.2.1,z.2.2⟩
section
variable {P:Program} {w:World} {H:Hp} {h:Heap} {a:Addr}
theorem zd2 {u:HO}(ok:HOk P w H h)(e:Rd H a u):zM P w H h a u:=e.ok ok
theorem Wk {kvs:List (Key×V)}(ok:HOk P w H h)(e:Rd H a (.dK kvs)):kvs.length<=sizeLine/\(a == sysModules)=false/\∃ vs,KV kvs vs/\h.DictOf (zT P w) a vs:=
 show zM P w H h a (.dK kvs) from zd2 ok e
theorem zgO {kvs:List (Key×V)}(ok:HOk P w H h)(e:H a=some (.dK kvs)):kvs.length<=sizeLine/\(a == sysModules)=false/\∃ vs,KV kvs vs/\h.DictOf (zT P w) a vs:=Wk ok (.inl e)
theorem Zs {ks:List Key}(ok:HOk P w H h)(e:H a=some (.tup (ks.map kV))):(tupleKind (zT P w)).is h ks a:=by
 obtain⟨_,its,r,o,h1,h2,n,h3⟩:=(show zM P w H h a (.tup (ks.map kV)) from ok a _ e)
 exact⟨o,its.toArray,n,h1,h2,h3,by simpa using QM r⟩
theorem Wl {kvs:List (List Key×V)}(ok:HOk P w H h)(e:Rd H a (.dT kvs)):kvs.length<=sizeLine/\(a == sysModules)=false /\
  ∃ xs,KT H kvs xs/\h.DictOfH (tupleKind (zT P w)) a xs:=by
 obtain⟨z,y,xs,r,o,es,ep,h1,h2,h3,h4,h5⟩:=(show zM P w H h a (.dT kvs) from zd2 ok e)
 refine⟨z,y,xs,r,o,es,ep,h1,h2,h3,h4,fun x hx=>?_,h5⟩
 have all:∀ {l:List (List Key×V)} {m:List (List Key×Addr×Value)},KT H l m->∀ x∈m,(tupleKind (zT P w)).is h x.1 x.2.1:=by
  intro l m q
  induction q with
  | nil=>intro x hx;exact nomatch hx
  | @cons p q ps qs hq t ih=>
   intro x hx
   rcases List.mem_cons.mp hx with e | hx
   ·subst e
    exact Zs ok (by rw [← hq.1];exact hq.2.1)
   ·exact ih x hx
 exact all r x hx
theorem zgP {kvs:List (List Key×V)}(ok:HOk P w H h)(e:H a=some (.dT kvs)):kvs.length<=sizeLine/\(a == sysModules)=false /\
  ∃ xs,KT H kvs xs/\h.DictOfH (tupleKind (zT P w)) a xs:=Wl ok (.inl e)
end
def DGet (H:Hp)(a:Addr)(y:V)(r:Option V):Prop:=
 (∃ kvs k,Rd H a (.dK kvs)/\y=kV k/\r=valV kvs k)\/∃ kvs k b,Rd H a (.dT kvs)/\y=.ref b/\H b=some (.tup (k.map kV))/\r=valV kvs k
def DPut (H:Hp)(a:Addr)(y v:V)(H':Hp):Prop:=
 (∃ kvs k,H a=some (.dK kvs)/\y=kV k/\kvs.length<sizeLine/\H' = upd H a (.dK (putK kvs k v))) \/
 ∃ kvs k b,H a=some (.dT kvs)/\y=.ref b/\H b=some (.tup (k.map kV))/\kvs.length<sizeLine/\H' = upd H a (.dT (putK kvs k v))
theorem DGet.k {H:Hp}{a:Addr}{kvs:List (Key×V)}{k:Key}(e:H a=some (.dK kvs)):DGet H a (kV k) (valV kvs k):=.inl ⟨kvs,k,.inl e,rfl,rfl⟩
theorem DGet.t {H:Hp}{a b:Addr}{kvs:List (List Key×V)}{k:List Key}(e:H a=some (.dT kvs))(eb:H b=some (.tup (k.map kV))):DGet H a (.ref b) (valV kvs k):=.inr ⟨kvs,k,b,.inl e,rfl,eb,rfl⟩
theorem DPut.k {H:Hp}{a:Addr}{kvs:List (Key×V)}{k:Key}{v:V}(e:H a=some (.dK kvs))(hl:kvs.length<sizeLine):DPut H a (kV k) v (upd H a (.dK (putK kvs k v))):=.inl ⟨kvs,k,e,rfl,hl,rfl⟩
theorem DPut.t {H:Hp}{a b:Addr}{kvs:List (List Key×V)}{k:List Key}{v:V}(e:H a=some (.dT kvs))(eb:H b=some (.tup (k.map kV)))(hl:kvs.length<sizeLine) :
  DPut H a (.ref b) v (upd H a (.dT (putK kvs k v))):=.inr ⟨kvs,k,b,e,rfl,eb,hl,rfl⟩
section
variable {X:Cx} {pins:List (Addr×Obj)} {σ:St} {H:Hp} {s:Shared} {a:Addr} {y v:V} {u r:Value} {o:Option V} {A:Around} {E:Value->Shared->Prop}
theorem YY {Q:Value->Shared->Prop}(hu:A.units+1<cLine)(I:Inv X pins σ H s)(g:DGet H a y (some v))(ry:RelV y u)(h:∀ w' s',Inv X pins σ H s'->RelV v w'->Q w' s') :
  wpAny (model X.prog X.w) A (getItem (.ref a) u) Q E s:=by
 rcases g with⟨kvs,k,e,ey,l⟩ | ⟨kvs,k,b,e,ey,eb,l⟩
 ·subst ey
  obtain⟨z,hd,vs,rel,dd⟩:=Wk I.hok e
  obtain⟨w',hw,rw'⟩:=RelO.some_of (v:=v) (o:=valueAt vs k) (by rw [l];exact rel.val k)
  exact wpAny_getItem_of (Wj ry) dd.mapOf hw (h w' _ (I.tok _) rw')
 ·subst ey
  cases (show u=Value.ref b from ry)
  obtain⟨z,hd,xs,rel,dd⟩:=Wl I.hok e
  obtain⟨w',hw,rw'⟩:=RelO.some_of (v:=v) (o:=(atKey xs k).map (·.2)) (by rw [l];exact rel.val k)
  obtain⟨p,hp,hp2⟩:=Option.map_eq_some_iff.mp hw
  refine wpAny_getItem_heap (tupleKind_room_in1 hu) (Zs I.hok eb) dd hp ?_
  rw [hp2]
  exact h w' _ (I.tok _) rw'
theorem d_in {Q:Value->Shared->Prop}(hu:A.units+1<cLine)(I:Inv X pins σ H s)(g:DGet H a y o)(ry:RelV y u)(h:∀ s',Inv X pins σ H s'->Q (.bool o.isSome) s') :
  wpAny (model X.prog X.w) A (compareOp .In u (.ref a)) Q E s:=by
 rcases g with⟨kvs,k,e,ey,l⟩ | ⟨kvs,k,b,e,ey,eb,l⟩
 ·subst ey
  obtain⟨z,hd,vs,rel,dd⟩:=Wk I.hok e
  refine wpAny_in_of (Wj ry) hd dd.mapOf ?_
  rw [← (rel.val k).isSome_eq,← l]
  exact h _ (I.tok _)
 ·subst ey
  cases (show u=Value.ref b from ry)
  obtain⟨z,hd,xs,rel,dd⟩:=Wl I.hok e
  refine wpAny_in_heap (tupleKind_room_in1 hu) (Zs I.hok eb) hd dd ?_
  have q:=(rel.val k).isSome_eq
  rw [Option.isSome_map] at q
  rw [← q,← l]
  exact h _ (I.tok _)
theorem zcz {Q:Value->Shared->Prop}(hu:A.units+1<cLine)(I:Inv X pins σ H s)(g:DGet H a y o)(ry:RelV y u)(h:∀ s',Inv X pins σ H s'->Q (.bool (!o.isSome)) s') :
  wpAny (model X.prog X.w) A (compareOp .NotIn u (.ref a)) Q E s:=by
 rcases g with⟨kvs,k,e,ey,l⟩ | ⟨kvs,k,b,e,ey,eb,l⟩
 ·subst ey
  obtain⟨z,hd,vs,rel,dd⟩:=Wk I.hok e
  refine wpAny_notIn_of (Wj ry) hd dd.mapOf ?_
  rw [← (rel.val k).isSome_eq,← l]
  exact h _ (I.tok _)
 ·subst ey
  cases (show u=Value.ref b from ry)
  obtain⟨z,hd,xs,rel,dd⟩:=Wl I.hok e
  refine wpAny_notIn_heap (tupleKind_room_in1 hu) (Zs I.hok eb) hd dd ?_
  have q:=(rel.val k).isSome_eq
  rw [Option.isSome_map] at q
  rw [← q,← l]
  exact h _ (I.tok _)
theorem VO {h':Heap}{t':Nat}{ob:HO}(I:Inv X pins σ H s)(mu:Mut (H a))(hs:Heap.SameBut a s.heap h')(he:∃ q,h'.get? a=some q)(new:zM X.prog X.w (upd H a ob) h' a ob) :
  Inv X pins σ (upd H a ob) { s with heap:=h',toks:=t' }:=
 I.write (x:=a) (e:=a) mu (.inl rfl) (fun b q hb z=>(hs.2 b hb).trans z) he new
theorem zfl {P:Program}{w:World}{H':Hp}{h':Heap}{kvs:List (Key×V)}{vs:List (Key×Value)}(z:kvs.length<=sizeLine)(hd:(a == sysModules)=false)(rel:KV kvs vs)(dd:h'.DictOf (zT P w) a vs) :
  zM P w H' h' a (.dK kvs):=⟨z,hd,vs,rel,dd⟩
theorem YZ {H':Hp}{Q:Unit->Shared->Prop}(hu:A.units+1<cLine)(I:Inv X pins σ H s)(g:DPut H a y v H')(ry:RelV y u)(rv:RelV v r)(h:∀ s',Inv X pins σ H' s'->Q () s') :
  wpAny (model X.prog X.w) A (setItem (.ref a) u r) Q E s:=by
 rcases g with⟨kvs,k,e,ey,l,eH⟩ | ⟨kvs,k,b,e,ey,eb,l,eH⟩
 ·subst ey eH
  obtain⟨z,hd,vs,rel,dd⟩:=zgO I.hok e
  have hz:vs.length<=sizeLine:=by rw [← rel.length];exact z
  have hl:(putK kvs k v).length<=sizeLine:=by have:=kH kvs k v;omega
  refine wpAny_setItem_pairs (hsz:=hz) (Wj ry) dd fun h' dd' hs=>h _ ?_
  have he:∃ q,h'.get? a=some q:=let ⟨q,_,_,hq,_⟩:=dd';⟨q,hq⟩
  exact VO I (by rw [e];exact True.intro) hs he (zfl hl hd (rel.put k rv) dd')
 ·subst ey eH
  cases (show u=Value.ref b from ry)
  obtain⟨z,hd,xs,rel,dd⟩:=zgP I.hok e
  have hz:xs.length<=sizeLine:=by rw [← Paired.length rel];exact z
  have hl:(putK kvs k v).length<=sizeLine:=by have:=kH kvs k v;omega
  refine wpAny_setItem_heap (hsz:=hz) (tupleKind_room_in1 hu) (Zs I.hok eb) dd fun h' dd' hs=>h _ ?_
  obtain⟨q,es,ep,hq,h2,h3,h4,_,h5⟩:=dd'
  refine VO I (by rw [e];exact True.intro) hs ⟨q,hq⟩ ⟨hl,hd,_,(rel.put k eb rv).keeps fun c ys ec=>?_,q,es,ep,hq,h2,h3,h4,h5⟩
  rw [zA (zgq ec e (fun z=>nomatch z))]
  exact ec
end
section
variable {X:Cx} {pins:List (Addr×Obj)} {σ:St} {H:Hp} {s:Shared} {a:Addr} {kvs:List (Key×V)} {k:Key} {u:Value} {A:Around} {E:Value->Shared->Prop}
end
theorem Wm {X:Cx}{pins:List (Addr×Obj)}{σ:St}{H:Hp}{s:Shared}{a:Addr}{y:V}{o:Option V}(I:Inv X pins σ H s)(g:DGet H a y o):s.TypeIs (.ref a) "dict":=by
 rcases g with⟨kvs,k,e,_,_⟩ | ⟨kvs,k,b,e,_,_,_⟩
 ·obtain⟨_,_,vs,_,dd⟩:=Wk I.hok e
  exact dd.typeIs
 ·obtain⟨_,_,xs,_,dd⟩:=Wl I.hok e
  exact dd.typeIs
section
variable {X:Cx} {o i e value:Expr} {pos pos' tpos:Pos} {td ty tv:TE}
end
section
variable {X:Cx} {pos:Pos}
end
structure M1 (X:Cx)(o:Expr)(m:Str)(apos:Pos)(e:Expr)(cpos:Pos):Prop where
 base:attributeBase o m X.env (eval o X.env)=eval o X.env
 few:((backTo cpos (starEach [e] X.env)).all (fun x=>!x.1)&&(backToKw cpos (keywordEach [] X.env)).all (fun x=>x.1.isSome)
  && decide (([e]:List Expr).length+([]:List Keyword).length+(if ([]:List Keyword).isEmpty then 0 else 1)<30))=true
 line:(apos.endLine == cpos.line)=true
 trees:backTo cpos (starEach [e] X.env)=[(false,eval e X.env)]
structure M2 (X:Cx)(o:Expr)(m:Str)(apos:Pos)(e f:Expr)(cpos:Pos):Prop where
 base:attributeBase o m X.env (eval o X.env)=eval o X.env
 few:((backTo cpos (starEach [e,f] X.env)).all (fun x=>!x.1)&&(backToKw cpos (keywordEach [] X.env)).all (fun x=>x.1.isSome)
  && decide (([e,f]:List Expr).length+([]:List Keyword).length+(if ([]:List Keyword).isEmpty then 0 else 1)<30))=true
 line:(apos.endLine == cpos.line)=true
 trees:backTo cpos (starEach [e,f] X.env)=[(false,eval e X.env),(false,eval f X.env)]
section
variable {X:Cx} {pins:List (Addr×Obj)} {σ:St} {H:Hp} {s:Shared} {a:Addr} {y d:V} {u r:Value} {o:Option V} {A:Around} {E:Value->Shared->Prop}
end
section
variable {X:Cx} {o e f:Expr} {apos cpos:Pos} {td ty tx:TE}
end
section
variable {X:Cx} {pins:List (Addr×Obj)} {σ:St} {H:Hp} {s:Shared} {a:Addr} {kvs:List (Key×V)} {A:Around} {E:Value->Shared->Prop}
end
section
variable {X:Cx} {pins:List (Addr×Obj)} {σ:St} {H:Hp} {s:Shared} {a:Addr} {y:V} {u:Value} {A:Around} {E:Value->Shared->Prop}
end
end L2
namespace L2
open PySem PySem.Spec PySem.Calls PyProof.Rows PySem.W
theorem Wn:bootBuiltins "tuple" = some (.type "tuple"):=by decide +kernel
section
variable {X:Cx} {k j:Nat} {x:Str} {p pos:Pos} {e:Expr} {es:List Expr} {tf:TE} {t:TA}
end
inductive EntK (w:World):List DictEntry->List (Key×V)->Prop
 | nil:EntK w [] []
 | cons {e:DictEntry} {k:Key} {v:V} {es:List DictEntry} {kvs:List (Key×V)}:e.hash=keyH w k->Zg k e.key=true->RelV v e.val->EntK w es kvs->EntK w (e::es) ((k,v)::kvs)
theorem EntK.keys {P:Program}{w:World}{es:List DictEntry}{kvs:List (Key×V)}(h:EntK w es kvs):∀ e∈es,∃ k,(zT P w).is k e.key=true/\e.hash=(zT P w).hash k:=by
 induction h with
 | nil=>intro e he;cases he
 | cons h1 h2 h3 h4 ih=>
  intro e he
  rcases List.mem_cons.mp he with rfl | he
  ·exact⟨_,h2,h1⟩
  ·exact ih e he
theorem EntK.pairs {P:Program}{w:World}{es:List DictEntry}{kvs:List (Key×V)}(h:EntK w es kvs):∃ vs:List (Key×Value),PySem.Pairs (zT P w) es vs/\KV kvs vs/\vs.map (·.1)=kvs.map (·.1):=by
 induction h with
 | nil=>exact⟨[],.nil,.nil,rfl⟩
 | @cons e k v es kvs h1 h2 h3 h4 ih=>
  obtain⟨vs,i1,i2,i3⟩:=ih
  exact⟨(k,e.val)::vs,.cons h2 rfl i1,.cons ⟨rfl,h3⟩ i2,by rw [List.map_cons,List.map_cons,i3]⟩
def zd3 (w:World)(K:Frag)(a:Addr)(kvs:List (Key×V)):Prop:=(a == sysModules)=false/\∃ o es ep,K.lookup a=some o/\o.ExactDict/\o.data=.dict es ep/\EntK w es.toList kvs/\(kvs.map (·.1)).Nodup
section
variable {X:Cx} {pins:List (Addr×Obj)} {σ:L2.St} {H:Hp} {s:Shared} {a:Addr} {kvs:List (Key×V)}
theorem zd3.at (I:Inv X pins σ H s)(h:zd3 X.w X.K a kvs):(a == sysModules)=false/\∃ vs,KV kvs vs/\s.heap.DictOf (zT X.prog X.w) a vs:=by
 obtain⟨h0,o,es,ep,h1,h2,h3,h4,h5⟩:=h
 obtain⟨vs,i1,i2,i3⟩:=h4.pairs (P:=X.prog)
 exact⟨h0,vs,i2,o,es,ep,I.kIn a o h1,h2,h3,fun e he=>h4.keys (P:=X.prog) e (by simpa using he),i1,by rw [i3];exact h5⟩
end
section
variable {X:Cx} {x:Str} {p apos cpos:Pos} {e f:Expr} {ty tx':TE} {kvs:List (Key×V)}
end
section
variable {X:Cx} {a:Expr} {ta:TE}
noncomputable def zd4 (K:Frag)(ta:TE):TT:=fun σ H Q=>ta σ H fun x H'=>∃ k,TruV K x H' k/\Q k H'
theorem Y0 {K:Frag}(hK:X.K=K)(ha:PE X a ta)(he:∀ whole,isTrue a X.env whole=(do let v ← whole;standAt a.pos;holding [v] (truthy v)):=by intro _;rfl):PT X a (zd4 K ta):=by
 subst hK
 exact KL ha he
end
section
variable {X:Cx}
noncomputable def rIsA (K:Frag)(n:String):List V->Hp->VK->Prop:=fun xs H Q=>∃ x t b,xs=[x,.ty n]/\TyOf K H x t/\PySem.W.kitOne K t (.type n)=some b/\Q (.bl b) H
theorem Y1 {K:Frag}{n:String}(hK:X.K=K):qc X (.builtin "isinstance") (rIsA K n):=by
 subst hK
 intro pins s σ H xs us Q I r h
 obtain⟨x,t,b,rfl,ty,e,q⟩:=h
 exact J9 pins s σ H _ us Q I r ⟨x,n,t,b,rfl,ty,e,q⟩
noncomputable def VP:V->List V->Hp->VK->Prop:=fun x vs H Q=>∃ l y,x=.str (S l)/\vs=[.str (S y)]/\Q (.bl (y.isPrefixOf l)) H
theorem zaC (l y:List Nat):Txt.startswith (S l) (S y)=y.isPrefixOf l:=by
 unfold Txt.startswith Builtin.Str.subAt
 rw [ji,ji]
 by_cases h:y.length<=l.length
 ·have h1:decide (0+y.length<=l.length)=true:=by simpa using h
  rw [h1,Bool.true_and]
  have e:(S l).cps.extract 0 (0+y.length)=(l.take y.length).toArray:=by
   simp [S]
  rw [e]
  rw [Bool.eq_iff_iff,beq_iff_eq,List.isPrefixOf_iff_prefix,List.prefix_iff_eq_take]
  constructor
  ·intro z
   have:=congrArg Array.toList z
   simp [S] at this
   exact this.symm
  ·intro z
   rw [← z]
   rfl
 ·have h1:decide (0+y.length<=l.length)=false:=by simpa using h
  rw [h1,Bool.false_and]
  symm
  rw [← Bool.not_eq_true,List.isPrefixOf_iff_prefix]
  intro z
  exact h z.length_le
theorem Zt:MtR X "str.startswith" VP:=by
 intro pins s σ H x xs v us Q I rx rs h
 obtain⟨l,y,rfl,rfl,q⟩:=h
 obtain⟨t,rfl⟩:=rx
 obtain⟨u,rfl,t',rfl⟩:=vals1 rs
 refine SC.startswith ⟨.bl _,H,I,rfl,?_⟩
 rw [zaC]
 exact q
end
section
variable {X:Cx} {pins:List (Addr×Obj)} {σ:L2.St} {H:Hp} {s:Shared} {h':Heap}
theorem Inv.turnedN {t':Nat}{fp:List Addr}(I:Inv X pins σ H s)(k:∀ b o,b∉fp->s.heap.get? b=some o->h'.get? b=some o)(hf:∀ b∈fp,FpOk X pins H b) :
  Inv X pins σ H { s with heap:=h',toks:=t' }:=by
 have nn:∀ b u,H b=some u->b∉fp:=fun b u q z=>by
  rw [(hf b z).1] at q;cases q
 refine I.step (g':=s.gens) (d':=s.drawn) (ch:=fp) ?_ (fun b o _ _ hc q _=>k b o hc q) (fun b o _ _ hc q _=>⟨o.slots,k b o hc q⟩) (fun _ _ _ _ n=>n) (fun b o hc q=>⟨o,k b o hc q⟩)
  (fun _ _ q=>q) (fun _ _ _ q=>q) (fun b ps q=>⟨#[],by rw [q];simp⟩) ?_ ?_ I.bare
 ·intro b hb
  obtain⟨e0,e1,_,e3,e4,e5⟩:=hf b hb
  exact⟨e3,e1,e4,e5⟩
 ·intro m hm
  obtain⟨o,es,ep,ho,r⟩:=hm
  exact⟨o,es,ep,k _ o (fun z=>(hf _ z).2.1 rfl) ho,r⟩
 ·intro b u q
  refine(I.hok b u q).stay (fun c v hc z=>k c v ?_ z) (fun _ z=>z) fun _ _ z=>z
  rcases hc with z' | z'
  ·rw [z'];exact nn b u q
  ·exact nn c _ z'
end
noncomputable def Itz (K:Frag)(l1 l2:Addr):It:=⟨fun i H=>∃ xs ys x y,SqL K H l1 xs/\SqL K H l2 ys/\xs[i]? = some x/\ys[i]? = some y,
 fun i H v H'=>∃ p x y,H p=none/\(∀ xs,SqL K H l1 xs->xs[i]? = some x)/\(∀ ys,SqL K H l2 ys->ys[i]? = some y)/\v=.ref p/\H' = upd H p (.tup [x,y]),
 fun i H=>∃ xs ys,SqL K H l1 xs/\SqL K H l2 ys/\(xs.length<=i\/ys.length<=i)⟩
noncomputable def ZipT (z TI TO i1 i2 l1 l2:Addr):Nat->Heap->Prop:=fun i h=>IsZip h z TI TO .none/\IsPair h TI (.ref i1) (.ref i2)/\(∃ a b,IsPair h TO a b)/\h.IsListIter i1 l1 i/\h.IsListIter i2 l2 i
theorem zaD {P:Program}{w:World}{K:Frag}{elts:List Expr}{ek:Nat}{epos:Pos}{z TI TO i1 i2 l1 l2:Addr}(D:ZipApart z TI TO i1 i2 l1 l2) :
  Turn P w K (.Tuple elts ek epos) (Itz K l1 l2) [z,TI,TO,i1,i2] z (ZipT z TI TO i1 i2 l1 l2) where
 mem:=by simp
 obj:=fun i h st b hb=>by
  obtain⟨q1,q2,⟨a,b',q3⟩,⟨o4,q4,c4,d4⟩,o5,q5,c5,d5⟩:=st
  simp only [List.mem_cons,List.not_mem_nil,or_false] at hb
  rcases hb with rfl | rfl | rfl | rfl | rfl
  ·exact⟨_,q1,fun v z=>nomatch z⟩
  ·exact⟨_,q2,fun v z=>nomatch z⟩
  ·exact⟨_,q3,fun v z=>nomatch z⟩
  ·exact⟨_,q4,fun v z=>by rw [d4] at z;cases z⟩
  ·exact⟨_,q5,fun v z=>by rw [d5] at z;cases z⟩
 keep:=fun i h h' st k=>by
  obtain⟨q1,q2,⟨a,b',q3⟩,q4,q5⟩:=st
  exact⟨k z (by simp) _ q1,k TI (by simp) _ q2,⟨a,b',k TO (by simp) _ q3⟩,q4.at fun o e=>k i1 (by simp) o e,q5.at fun o e=>k i2 (by simp) o e⟩
 item:=by
  intro X hP hw hK hc i pins s σ H E I hf st hg
  subst hP hw hK
  obtain⟨q1,q2,⟨a,b',q3⟩,q4,q5⟩:=st
  obtain⟨xs,ys,x,y,hx,hy,ex,ey⟩:=hg
  obtain⟨its1,r1,p1,_⟩:=I.list hx
  obtain⟨its2,r2,p2,_⟩:=I.list hy
  obtain⟨u1,e1,ru1⟩:=r1.get ex
  obtain⟨u2,e2,ru2⟩:=r2.get ey
  refine wpAny_pyNext_zip_item D q1 q2 q3 q4 q5 p1.isList p2.isList (x:=u1) (y:=u2) (by simpa using e1) (by simpa using e2) fun h1 a1 a2 a3 a4 a5 a6 a7=>⟨_,rfl,?_⟩
  refine wpAny_letOwnedTupleGo_zip a1 fun h2 hz2 hs2=>?_
  have fresh:H s.heap.objs.size=none:=I.hok.fresh (Nat.le_refl _)
  have ne:∀ b∈[z,TI,TO,i1,i2],b≠s.heap.objs.size:=fun b hb=>by
   obtain⟨_,q⟩:∃ o,s.heap.get? b=some o:=by
    obtain⟨o4,q4',c4,d4⟩:=q4
    obtain⟨o5,q5',c5,d5⟩:=q5
    simp only [List.mem_cons,List.not_mem_nil,or_false] at hb
    rcases hb with rfl | rfl | rfl | rfl | rfl
    ·exact⟨_,q1⟩
    ·exact⟨_,q2⟩
    ·exact⟨_,q3⟩
    ·exact⟨_,q4'⟩
    ·exact⟨_,q5'⟩
   exact Nat.ne_of_lt (Heap.lt_size q)
  have nz:s.heap.objs.size≠z:=Ne.symm (ne z (by simp))
  have hT2:h2.get? s.heap.objs.size=some { cls:=.type "tuple",data:=.seq #[u1,u2] }:=(hs2.2 _ nz).trans a5
  have I0:=I.laid (t':=s.toks) (a:=s.heap.objs.size) (o:=.tup [x,y]) (h':=s.heap.push { cls:=.type "tuple",data:=.seq #[u1,u2] }) (fun b o z=>Heap.get?_push_of_some _ z) (Nat.le_refl _) (by
   refine⟨by show 2<=sizeLine;decide,[u1,u2],.cons ru1 (.cons ru2 .nil),?_⟩
   exact⟨_,Heap.get?_push_size _ rfl,rfl,_,rfl⟩)
  have hf0:∀ b∈[z,TI,TO,i1,i2],FpOk X pins (upd H s.heap.objs.size (.tup [x,y])) b:=fun b hb=>⟨by rw [zA (ne b hb)];exact(hf b hb).1,(hf b hb).2⟩
  have I2:=I0.turnedN (h':=h2) (t':=s.toks) (fp:=[z,TI,TO,i1,i2]) (fun b o hb q=>by
   simp only [List.mem_cons,List.not_mem_nil,or_false,not_or] at hb
   obtain⟨b1,b2,b3,b4,b5⟩:=hb
   by_cases hbs:b=s.heap.objs.size
   ·rw [hbs] at q ⊢
    have z':some ({ cls:=.type "tuple",data:=.seq #[u1,u2] }:Obj)=some o:=(Heap.get?_push_size _ rfl).symm.trans q
    rw [hT2];exact z'
   ·have z':s.heap.get? b=some o:=by
     have z2:=q
     rw [Heap.get?_push_ne _ _ _ hbs] at z2
     exact z2
    exact(hs2.2 b b1).trans (a7 b o b1 b3 b4 b5 z')) hf0
  refine⟨.ref s.heap.objs.size,upd H s.heap.objs.size (.tup [x,y]),I2,rfl,⟨_,x,y,fresh,fun xs' hx'=>by rw [I.list_inj hx' hx];exact ex,fun ys' hy'=>by rw [I.list_inj hy' hy];exact ey,rfl,rfl⟩,?_,fun b hb=>(hf0 b hb).1⟩
  refine⟨hz2,(hs2.2 TI D.TIz).trans (a7 _ _ D.TIz D.TITO D.TIi1 D.TIi2 q2),⟨_,_,(hs2.2 TO D.TOz).trans a2⟩,a3.at fun o e=>(hs2.2 i1 D.i1z).trans e,a4.at fun o e=>(hs2.2 i2 D.i2z).trans e⟩
 done:=by
  intro X hP hw hK hc i pins s σ H E I hf st hg
  subst hP hw hK
  obtain⟨q1,q2,⟨a,b',q3⟩,q4,q5⟩:=st
  obtain⟨xs,ys,hx,hy,hl⟩:=hg
  obtain⟨its1,r1,p1,_⟩:=I.list hx
  obtain⟨its2,r2,p2,_⟩:=I.list hy
  have l1:=r1.length
  have l2:=r2.length
  refine wpAny_pyNext_zip_end (I.ok.hd hc) D q1 q2 q3 q4 q5 p1.isList p2.isList (by
   rcases hl with hl | hl
   ·exact .inl (by simp;omega)
   ·exact .inr (by simp;omega)) fun h1 hk=>⟨rfl,?_⟩
  exact I.turnedN (h':=h1) (t':=s.toks) (fp:=[z,TI,TO,i1,i2]) (fun b o hb q=>by
   simp only [List.mem_cons,List.not_mem_nil,or_false,not_or] at hb
   obtain⟨b1,b2,b3,b4,b5⟩:=hb
   exact hk b o b1 b3 b4 b5 q) hf
 self:=fun A i s Q E st h=>wpAny_pyIter_zip st.1 h
section
variable {X:Cx}
noncomputable def iZip (K:Frag)(ta:TA):TI:=fun σ H R=>ta σ H fun vs H1=>∃ l1 l2,vs=[.ref l1,.ref l2]/\(∃ xs,SqL K H1 l1 xs)/\(∃ ys,SqL K H1 l2 ys)/\R (Itz K l1 l2) H1
theorem zfm:bootBuiltins "zip" = some (.type "zip"):=by decide +kernel
theorem zcA {K:Frag}(hK:X.K=K){a b:Expr}{ta:TA}{p pos:Pos}{elts:List Expr}{ek:Nat}{epos:Pos}(hg:Gl X "zip")(hm:X.mg "zip" = none)(ha:PA X [a,b] ta)(hs:starEach [a,b] X.env=[(false,eval a X.env),(false,eval b X.env)]:=by rfl) (hs2:starEach [b] X.env=[(false,eval b X.env)]:=by rfl) :
  PI X (.Tuple elts ek epos) (.Call (.Name "zip" p) [a,b] [] pos) (iZip K ta):=by
 subst hK
 intro pins s σ H R I h
 refine Call_ (wg I hg hm zfm (PyProof.Rows.callWith_type1 (thn (ha pos pins s σ H _ I h) fun us s1 ⟨vs,H1,I1,r1,q1⟩=>?_) (by rw [hs,hs2]) (by rw [hs2];rfl)))
 obtain⟨l1,l2,e,⟨xs,hx⟩,⟨ys,hy⟩,q⟩:=q1
 subst e
 obtain⟨u1,u2,rfl,r1,r2⟩:=vals2 r1
 cases r1
 cases r2
 obtain⟨its1,v1,p1,_⟩:=I1.list hx
 obtain⟨its2,v2,p2,_⟩:=I1.list hy
 have a1:l1<s1.heap.objs.size:=by obtain⟨_,e,_⟩:=p1.isList;exact Heap.lt_size e
 have a2:l2<s1.heap.objs.size:=by obtain⟨_,e,_⟩:=p2.isList;exact Heap.lt_size e
 refine call_zip_2 p1.isList p2.isList fun h' hz hTI hTO hi1 hi2 hsz hk=>wpAny_pyIter_zip hz ?_
 refine⟨_,_,_,_,H1,rfl,I1.kept (t':=s1.toks) hk,zaD (zipApart_new a1 a2),⟨hz,hTI,⟨_,_,hTO⟩,hi1,hi2⟩,fun b hb=>?_,q⟩
 have hbs:s1.heap.objs.size<=b:=by
  simp only [List.mem_cons,List.not_mem_nil,or_false] at hb
  rcases hb with rfl | rfl | rfl | rfl | rfl<;>omega
 exact I1.fpOk hbs (I1.hok.fresh hbs)
end
end L2
namespace L2
open PySem PySem.Spec PySem.Calls PyProof.Rows PySem.W
section
variable {X:Cx}
end
end L2
namespace L2
open PySem PySem.Spec PySem.Calls PyProof.Rows PySem.W
section
variable {X:Cx} {K:Frag} {o:Expr} {to:TE} {name:Str} {apos cpos:Pos} {T id:String} {r:V->List V->Hp->VK->Prop}
theorem VQ (hK:X.K=K)(pa:PlainAttrs T)(slot:Slot T name id)(hty:typeOf (.builtin id)=pure (.type "method_descriptor"))(hm:MtR X id r)(ho:PE X o to)
  (hbase:attributeBase o name X.env (eval o X.env)=eval o X.env:=by rfl) (hline:(apos.endLine == cpos.line)=true:=by rfl):PE X (.Call (.Attribute o name apos) [] [] cpos) (tBM0 K T r to):=by
 subst hK
 exact ze8 pa slot hty hm ho hbase hline
end
end L2
namespace HT
open PySem PySem.Spec PySem.Calls PyProof.Rows PySem.W
section
variable {prog:Program} {w:World} {A:Around} {E:Value->Shared->Prop} {s:Shared}
theorem vL {t sl:Addr}{items:Array Value}{vl vu:Value}{lo hi:Option Int}{Q:Value->Shared->Prop}(ht:IsTup s.heap t items)(hs:s.heap.IsSliceOf sl vl vu .none)(pl:IsPart vl lo)(pu:IsPart vu hi)
  (hw:sIx items.size 0 lo=0/\sIx items.size items.size hi=items.size) (h:Q (.ref t) s):wpAny (model prog w) A (getItem (.ref t) (.ref sl)) Q E s:=by
 obtain⟨os,hos,hcs,hds⟩:=id hs
 have hTs:s.TypeIs (.ref sl) "slice":=⟨os,hos,hcs⟩
 unfold getItem
 try with_reducible refine wpAny_holding ?_
 first | refine wpAny_bind (wpAny_pure ?_) | skip
 refine wpAny_bind (wpAny_sequenceKey ht.typeIs (by decide) ?_)
 refine wpAny_bind (wpAny_callSpecial?_slot (name:=Str.ofString "__getitem__") ht.typeIs PyProof.Rows.slot_tuple_getitem
  (wpAny_call_entry PyProof.Rows.slot_tuple_getitem ht.typeIs entry_tuple_getitem ?_ (args_tuple_getitem _ _)))
 show wpAny _ _ (Builtin.Tuple.tupleItemsOf (.ref t) >>= _) _ _ s
 refine wpAny_bind (tupleItemsOf_ ht ?_)
 refine wpAny_bind (wpAny_typeOf hTs ?_)
 rw [if_pos (by decide)]
 refine wpAny_bind (wC hs pl pu ?_)
 have hyes:(((sIx items.size 0 lo:Nat):Int) == 0&&(1:Int) == 1&&(sIx items.size items.size hi - sIx items.size 0 lo) == items.size)=true:=by
  rw [hw.1,hw.2]
  simp
 show wpAny _ _ (if (((sIx items.size 0 lo:Nat):Int) == 0&&(1:Int) == 1&&(sIx items.size items.size hi - sIx items.size 0 lo) == items.size)=true then _ else _) _ _ s
 rw [if_pos hyes]
 unfold Builtin.Tuple.tupleIsExact
 refine wpAny_bind (wpAny_bind (wpAny_typeOf ht.typeIs (wpAny_pure ?_)))
 rw [if_pos (by decide)]
 exact wpAny_bind (wpAny_rule (wpAny_pure ⟨_,rfl,wpAny_pure h⟩))
end
end HT
namespace L2
open PySem PySem.Spec PySem.Calls PyProof.Rows PySem.W
section
variable {X:Cx}
end
end L2
namespace L2
open PySem PySem.Spec PySem.Calls PyProof.Rows PySem.W
end L2
namespace L2
open PySem PySem.Spec PySem.Calls PyProof.Rows PySem.W
structure QE (X:Cx)(e:Expr)(t:TE):Prop where
 h:PE X e t
section
set_option autoImplicit true
set_option relaxedAutoImplicit true
theorem qv {X:Cx}(i:Nat){x:Str}{pos:Pos}(hN:X.N[i]? = some x:=by rfl) (hv:Vis X.env.scope x:=by first | exact Or.inl rfl | exact Or.inr (Or.inl rfl) | exact Or.inr (Or.inr rfl)) (hd:(x == ("__debug__":Str))=false:=by decide)
  (hcd:(x == ("__classdict__":Str))=false:=by decide):QE X (.Name x pos) (tVar i):=⟨pv (i:=i) (hN:=hN) (hv:=hv) (hd:=hd) (hcd:=hcd)⟩
end
end L2
set_option autoImplicit false
namespace L2
open PySem PySem.Spec PySem.Calls PyProof.Rows PySem.W
section
variable {X:Cx} {pins:List (Addr×Obj)} {σ:St} {H:Hp} {s:Shared} {a b:Addr} {kvs more:List (Key×V)} {A:Around} {E:Value->Shared->Prop}
end
section
variable {X:Cx} {o e:Expr} {apos cpos:Pos} {td ty:TE}
end
end L2
namespace L2
open PySem PySem.Spec PyProof.Rows
section
variable {X:Cx} {tg:Expr}
end
end L2
namespace L2
open PySem PySem.Spec PyProof.Rows
section
variable {X:Cx} {elt iter:Expr} {x:Str} {px pos:Pos} {ifs:List Expr} {scope:Scope} {wi:TI} {tt:TT} {te:TE}
end
end L2
namespace L2
open PySem PySem.Spec PyProof.Rows
section
variable {X:Cx}
noncomputable def zd5:R2:=fun x y H Q=>∃ (a:Addr) (xs:List V) (n:Int),x=.ref a/\y=.int n/\H a=some (.lst xs)/\0<=n/\n<=100000/\xs.length * n.toNat<=16777216/\∀ p,H p=none->Q (.ref p) (upd H p (.lst (List.replicate n.toNat xs).flatten))
theorem zaE {xs ys:List V}{us vs:List Value}(h:Vals xs us)(k:Vals ys vs):Vals (xs++ys) (us++vs):=by
 induction h with
 | nil=>exact k
 | cons a _ ih=>exact .cons a ih
theorem Wq {xs:List V}{us:List Value}(h:Vals xs us):∀ n,Vals (List.replicate n xs).flatten (List.replicate n us).flatten
 | 0=>.nil
 | n+1=>by
  rw [List.replicate_succ,List.replicate_succ,List.flatten_cons,List.flatten_cons]
  exact zaE h (Wq h n)
theorem zcB {α:Type}(xs:List α)(n:Nat):(List.replicate n xs).flatten.length=xs.length * n:=by
 induction n with
 | zero=>simp
 | succ n ih=>rw [List.replicate_succ,List.flatten_cons,List.length_append,ih,Nat.mul_succ,Nat.add_comm]
theorem zcC:OpR X (binaryOp .Mult) zd5:=by
 intro pins s σ H x y v u Q I rx ry h
 obtain⟨a,xs,n,rfl,rfl,ha,h0,h1,hz,q⟩:=h
 cases rx
 obtain⟨t,rfl⟩:=ry
 obtain⟨its,rv,p⟩:=qM I ha
 obtain⟨⟨cls,dd,data,sl⟩,ho,hc,k,hd⟩:=id p
 simp only at hc hd
 subst hc hd
 have hlen:=rv.length
 have hw:(List.foldl (fun x1 x2=>x1++x2) #[] (List.replicate (if its.toArray.isEmpty=true then 0 else n.toNat) its.toArray))=((List.replicate n.toNat its).flatten).toArray:=by
  rw [listMul_foldl]
  split
  ·rename_i he
   have:its=[]:=by simpa using he
   subst this
   simp
  ·simp
 refine wpAny_binaryOp_repeat_ref (T:="list") (U:="int") (by decide) ⟨_,ho,rfl⟩ (fun s'=>typeIs_int s' n t) noFill_list_mul F.fills_int_mul F.slot_int_rmul repeat_list F.slot_int_index.lookup
  (call_meets F.slot_int_rmul (typeIs_int s n t) F.entry_int_rmul (F.args_int_rmul_2 _ _) (lm_int_rmul_list_any n t a its.toArray k dd sl) ⟨ho,rfl,⟨_,ho,rfl⟩,
   call_meets F.slot_list_mul ⟨_,ho,rfl⟩ F.entry_list_mul (F.args_list_mul_2 _ _) (lm_list_mul_any a its.toArray k dd sl n t ?_ ?_ ?_) ⟨ho,?_⟩⟩)
 ·show ¬ (!(decide (-(2 ^ 63:Int)<=n)&&decide (n<2 ^ 63)))=true
  rw [decide_eq_true (by omega),decide_eq_true (by omega)]
  decide
 ·have:its.toArray.size=xs.length:=by simp [hlen]
  rw [this]
  omega
 ·have:its.toArray.size=xs.length:=by simp [hlen]
  rw [this]
  show ¬ decide (_ > sizeLine)=true
  rw [sizeLine_eq]
  simp
  omega
 ·rw [hw]
  refine⟨.ref s.heap.objs.size,_,I.laid (t':=s.toks) (o:=.lst (List.replicate n.toNat xs).flatten) (fun b o e=>Heap.get?_push_of_some _ e) (Nat.le_refl _) ⟨by rw [zcB,sizeLine_eq];omega,_,0,Wq rv n.toNat,Heap.get?_push_size _ rfl⟩,rfl,q _ (I.hok.fresh (Nat.le_refl _))⟩
noncomputable def rIsB:R2:=fun x y H Q=>∃ c,y=.bl c/\((∃ b,x=.bl b/\Q (.bl (b == c)) H))
noncomputable def VR:R2:=fun x y H Q=>∃ c,y=.bl c/\((∃ b,x=.bl b/\Q (.bl (!(b == c))) H))
theorem QN (b c:Bool):isSame (.bool b) (.bool c)=pure (b == c):=by cases b<;>cases c<;>rfl
theorem zfn:OpR X (compareOp .Is) rIsB:=by
 intro pins s σ H x y v u Q I rx ry h
 obtain⟨c,rfl,b,rfl,q⟩:=h
 cases rx
 cases ry
 show wpAny _ _ (do let r ← isSame (.bool b) (.bool c);pure (Value.bool r)) _ _ s
 rw [QN]
 exact wpAny_bind (wpAny_pure (wpAny_pure (zy I q rfl)))
theorem Y2:OpR X (compareOp .IsNot) VR:=by
 intro pins s σ H x y v u Q I rx ry h
 obtain⟨c,rfl,b,rfl,q⟩:=h
 cases rx
 cases ry
 show wpAny _ _ (do let r ← isSame (.bool b) (.bool c);pure (Value.bool !r)) _ _ s
 rw [QN]
 exact wpAny_bind (wpAny_pure (wpAny_pure (zy I q rfl)))
noncomputable def zd6:List V->Hp->VK->Prop:=fun xs H Q=>∃ (p:Addr) (bs:List Bool),xs=[.ref p]/\H p=some (.lst (bs.map V.bl))/\Q (.bl (bs.all id)) H
theorem VS:∀ {bs:List Bool} {us:List Value},Vals (bs.map V.bl) us->us=bs.map Value.bool
 | [],_,h=>by cases h;rfl
 | b::bs,_,h=>by
  cases h with
  | cons a r=>
   cases a
   rw [VS r]
   rfl
theorem Y3 (hc:X.calm=true):qc X (.builtin "all") zd6:=by
 intro pins s σ H xs us Q I r h
 obtain⟨p,bs,rfl,hp,q⟩:=h
 obtain⟨u,rfl,hu⟩:=vals1 r
 cases hu
 obtain⟨its,rv,hl⟩:=qM I hp
 have e:=VS rv
 subst e
 have hlt:p<s.heap.objs.size:=by
  obtain⟨o,ho,_⟩:=hl
  exact Heap.lt_size ho
 refine call_all_walk (wpAny_pyIter_list hl ?_)
 refine⟨s.heap.objs.size,_,_,_,_,_,fun i=>bs.getD i false,rfl,Walks.list (A:=X.A.in1) (I.ok.hd hc) _ p (Nat.ne_of_lt hlt) (bs.map Value.bool).toArray,⟨⟨_,Heap.get?_push_size _ rfl,rfl,rfl⟩,?_⟩,?_,fun h' tk kp=>?_⟩
 ·obtain⟨o,ho,h1⟩:=hl
  exact⟨o,Heap.get?_push_of_some _ ho,h1⟩
 ·intro i v s' R E' hv hR
  have hv:(bs.map Value.bool)[i]? = some v:=by simpa using hv
  rw [List.getElem?_map] at hv
  cases hb:bs[i]? with
  | none=>rw [hb] at hv;cases hv
  | some b=>
   rw [hb] at hv
   cases hv
   have hR:R (bs.getD i false) s':=hR
   rw [List.getD_eq_getElem?_getD,hb] at hR
   exact wpAny_truthy_bool hR
 ·have I1:Inv X pins σ H { s with heap:=h',toks:=tk }:=I.kept fun b o e=>kp b o (by
   have:=Heap.lt_size e
   intro z
   rw [List.mem_singleton.mp z] at this
   exact Nat.lt_irrefl _ this) (Heap.get?_push_of_some _ e)
  refine⟨.bl (bs.all id),H,I1,?_,q⟩
  show Value.bool _=Value.bool _
  congr 1
  rw [show(bs.map Value.bool).toArray.size=bs.length by simp]
  rw [Bool.eq_iff_iff,List.all_eq_true,List.all_eq_true]
  constructor
  ·intro h x hx
   obtain⟨n,hn,rfl⟩:=List.mem_iff_getElem.mp hx
   have:=h n (List.mem_range.mpr hn)
   rw [List.getD_eq_getElem?_getD,List.getElem?_eq_getElem hn] at this
   exact this
  ·intro h n hn
   have hn:=List.mem_range.mp hn
   rw [List.getD_eq_getElem?_getD,List.getElem?_eq_getElem hn]
   exact h _ (List.getElem_mem hn)
end
end L2
namespace L2
open PySem PySem.Spec PyProof.Rows
section
variable {X:Cx}
end
end L2
namespace L2
open PySem PySem.Spec PyProof.Rows
theorem zfo:bootBuiltins "all" = some (.builtin "all"):=by decide +kernel
section
variable {X:Cx} {a b c:Expr} {ta tb tc:TE} {pos:Pos}
end
end L2
namespace L2
open PySem PySem.Spec PyProof.Rows
section
variable {X:Cx}
end
end L2
namespace L2
open PySem PySem.Spec PyProof.Rows
theorem vM:typeLookup (.type "tuple") "__reversed__" = pure none:=by rw [typeLookup_type,builtinLookup_eq_fast];kernel_rfl
theorem v5:Slot "reversed" "__init__" "object.__init__":=
 .of (owner:="object") (n:="__init__") (by rw [typeLookup_type,builtinLookup_eq_fast];kernel_rfl) (by decide +kernel) (by decide +kernel) (by decide +kernel)
  (by first | exact .inl (by decide +kernel) | exact .inr (by decide +kernel)) (by rw [isSubtype_type];kernel_rfl)
theorem kS:TypeCalled "reversed" "reversed.__new__" "object.__init__":=
 ⟨by decide +kernel,by decide +kernel,⟨_,_,F.mro_reversed⟩,madeBy_type F.mro_reversed F.lookup_reversed_new (by decide +kernel),by decide +kernel,by rw [isSubtype_type];kernel_rfl,v5⟩
theorem Qe (l:Addr)(items:Array Value)(n:Nat)(d:Option Addr)(sl:Array (Option Value))(hz:items.size<=16777216) :
  Meets (Builtin.«reversed.__new__» ⟨[.type "reversed",.ref l],[]⟩) (fun _ R s=>s.heap.get? l=some { cls:=.type "tuple",dict:=d,data:=.seq items n,slots:=sl }/\∀ tk,R (.ok (.ret (Value.ref s.heap.objs.size))) { s with heap:=s.heap.push { cls:=.type "reversed",data:=.fields #[.ref l,rawInt ((items.size:Int) - 1)] },toks:=tk }):=
 .of_wp fun prog w A R s h=>by
  obtain⟨hl,h⟩:=h
  have hT:s.TypeIs (.ref l) "tuple":=⟨_,hl,rfl⟩
  unfold Builtin.«reversed.__new__»
  refine wpAny_bind (wpAny_of_eq (newClass_reversed _) ?_)
  try dsimp only
  refine wpAny_bind (wpAny_of_eq (a:=()) (by first | rfl | kernel_rfl) ?_)
  refine wpAny_bind (wpAny_of_eq (a:=()) (by first | rfl | kernel_rfl) ?_)
  try dsimp only
  refine wpAny_bind (wpAny_specialOf hT vM ?_)
  try dsimp only
  wp_walk
  refine wpAny_of_eq F.sub_tuple_dict ?_
  rw [if_neg Bool.false_ne_true]
  refine wpAny_bind (wpAny_specialOf hT slot_tuple_getitem.lookup ?_)
  dsimp only
  rw [if_pos (by decide)]
  refine wpAny_pure ?_
  rw [if_neg (by decide)]
  refine wpAny_bind (len_tuple ⟨_,hl,rfl,_,rfl⟩ (by omega) ?_)
  refine wpAny_bind (wpAny_pure ?_)
  show wpAny _ _ (Builtin.SmallTypes.newRecord (Value.type "reversed") [Value.ref l,rawInt ((items.size:Int) - 1)] >>= _) _ _ _
  refine wpAny_bind ?_
  show wpAny _ _ (newObj (.type "reversed") (.fields #[Value.ref l,rawInt ((items.size:Int) - 1)])) _ _ _
  exact wpAny_newObj_type (wpAny_pure ⟨_,rfl,h _⟩)
noncomputable def Jh (l:Addr)(i:Int):Obj:={ cls:=.type "reversed",data:=.fields #[.ref l,rawInt i] }
def jX (h:Heap)(a l:Addr)(i:Int):Prop:=∃ o,h.get? a=some o/\o.cls=.type "reversed"/\o.data=.fields #[.ref l,rawInt i]
section
variable {prog:Program} {w:World} {A:Around} {E:Value->Shared->Prop} {s:Shared}
theorem jX.typeIs {a l:Addr}{i:Int}(x:jX s.heap a l i):s.TypeIs (.ref a) "reversed":=let ⟨o,ho,hc,_⟩:=x;⟨o,ho,hc⟩
theorem jX.at {h h':Heap}{a l:Addr}{i:Int}(x:jX h a l i)(e:∀ o,h.get? a=some o->h'.get? a=some o):jX h' a l i:=let ⟨o,ho,r⟩:=x;⟨o,e _ ho,r⟩
theorem vN {l:Addr}{items:Array Value}{Q:Value->Shared->Prop}(hl:s.heap.IsTuple l items)(hz:items.size<=16777216)
  (h:∀ tk,Q (.ref s.heap.objs.size) { s with heap:=s.heap.push (Jh l ((items.size:Int) - 1)),toks:=tk }):wpAny (model prog w) A (call (.type "reversed") [.ref l]) Q E s:=by
 obtain⟨⟨cls,dd,data,sl⟩,ho,hc,k,hd⟩:=id hl
 simp only at hc hd
 subst hc hd
 exact callType_new kS (by decide) (F.typeCall_reversed_1 _) (F.newCall_reversed_1 _) (fun obj=>F.args_object_init_2 obj _) F.entry_reversed_new (Qe l items k dd sl hz) ⟨ho,fun tk=>⟨⟨_,Heap.get?_push_size _ rfl,rfl⟩,h tk⟩⟩
theorem QO:Manifest.owners.lookup (String.ofList ['d','e','s','r','e','v','e','r'].reverse)=some Manifest.sig_reversed:=by kernel_rfl
theorem qO:Slot "reversed" "__next__" "reversed.__next__":=
 .of (owner:="reversed") (n:="__next__") (by rw [typeLookup_type,builtinLookup_eq_fast];kernel_rfl) (by decide +kernel) (by decide +kernel) (by decide +kernel)
  (by first | exact .inl (by decide +kernel) | exact .inr (by decide +kernel)) (by rw [isSubtype_type];kernel_rfl)
theorem xM:entryFor table "reversed.__next__" = some Builtin.«reversed.__next__»:=entryFor_of_tree (by kernel_rfl)
theorem xD (a:Value):argsOk "reversed.__next__" ⟨[a],[]⟩:=by
 unfold argsOk;rw [signature?_of (id:="reversed.__next__") (n:=['_','_','t','x','e','n','_','_']) (o:=['d','e','s','r','e','v','e','r']) (by kernel_rfl) QO];kernel_rfl
theorem vQ:Slot "reversed" "__iter__" "reversed.__iter__":=
 .of (owner:="reversed") (n:="__iter__") (by rw [typeLookup_type,builtinLookup_eq_fast];kernel_rfl) (by decide +kernel) (by decide +kernel) (by decide +kernel)
  (by first | exact .inl (by decide +kernel) | exact .inr (by decide +kernel)) (by rw [isSubtype_type];kernel_rfl)
theorem kT (a:Value):argsOk "reversed.__iter__" ⟨[a],[]⟩:=by
 unfold argsOk;rw [signature?_of (id:="reversed.__iter__") (n:=['_','_','r','e','t','i','_','_']) (o:=['d','e','s','r','e','v','e','r']) (by kernel_rfl) QO];kernel_rfl
theorem Zu:entryFor table "reversed.__iter__" = some Builtin.«dict_keyiterator.__iter__»:=
 entryFor_alias (id':="dict_keyiterator.__iter__") (by kernel_rfl) (by first | rfl | decide +kernel | (unfold String.splitOn;simp +decide [String.splitOnAux])) (by decide +kernel) (by kernel_rfl)
theorem j9 {it l:Addr}{i:Int}{Q:Value->Shared->Prop}(hit:jX s.heap it l i)(h:Q (.ref it) s):wpAny (model prog w) A (pyIter (.ref it)) Q E s:=by
 refine wpAny_pyIter_slot hit.typeIs vQ (wpAny_call_entry vQ hit.typeIs Zu ?_ (kT _))
 show wpAny _ _ (ret (.ref it)) _ _ s
 exact wpAny_pure ⟨_,rfl,"reversed",_,hit.typeIs,qO.lookup,h⟩
theorem wQ {it l:Addr}{i:Nat}{items:Array Value}{x:Value}{Q:Option Value->Shared->Prop}(hit:jX s.heap it l (i:Int))(hl:s.heap.IsTuple l items)(hz:items.size<=16777216)(hx:items[i]? = some x)
  (hQ:∀ h' tk,jX h' it l ((i:Int) - 1)->Heap.SameBut it s.heap h'->Q (some x) { s with heap:=h',toks:=tk }):wpAny (model prog w) A (pyNext (.ref it)) Q E s:=by
 obtain⟨o,ho,hc,hd⟩:=id hit
 unfold pyNext
 refine wpAny_bind (wpAny_attempt (wpAny_callSpecial?_slot (name:=Str.ofString "__next__") hit.typeIs qO
  (wpAny_call_entry qO hit.typeIs xM ?_ (xD _))))
 unfold Builtin.«reversed.__next__»
 refine wpAny_bind (wpAny_of_eq (a:=(Value.ref it,[])) rfl ?_)
 try dsimp only
 refine wpAny_bind (wpAny_field ho hd (x:=.ref l) rfl ?_)
 refine wpAny_bind (wpAny_field ho hd (x:=rawInt (i:Int)) rfl ?_)
 show wpAny _ _ (if (i:Int)<0 then _ else _) _ _ s
 rw [if_neg (by omega)]
 refine wpAny_bind (wpAny_specialOf hl.typeIs slot_tuple_getitem.lookup ?_)
 rw [if_neg (by decide)]
 refine wpAny_bind (wpAny_mkInt ?_)
 refine wpAny_bind (wpAny_attempt ?_)
 obtain⟨hlt,_⟩:=Array.getElem?_eq_some_iff.mp hx
 refine getItem_tuple (j:=i) hl (by omega) (by omega) (by unfold seqIndex?;simp;omega) hx ?_
 show wpAny _ _ (field (.ref it) 1 >>= _) _ _ _
 refine wpAny_bind (wpAny_field ho hd (x:=rawInt (i:Int)) rfl ?_)
 refine wpAny_bind (wpAny_setField ho hd (by simp) ?_)
 refine wpAny_pure ⟨x,rfl,wpAny_pure (hQ _ _ ?_ (Heap.SameBut.update ..))⟩
 exact⟨_,Heap.get?_update_self _ ho (Obj.isFreed_of_fields (Obj.data_mapFields hd _)),(Obj.cls_mapFields ..).trans hc,by
  rw [Obj.data_mapFields hd];simp⟩
theorem xF {it l:Addr}{Q:Option Value->Shared->Prop}(hh:A.handled=none)(hit:jX s.heap it l (-1))
  (hQ:∀ h',Heap.ExtBut it s.heap h'->Q none { s with heap:=h' }):wpAny (model prog w) A (pyNext (.ref it)) Q E s:=by
 obtain⟨o,ho,hc,hd⟩:=id hit
 unfold pyNext
 refine wpAny_bind (wpAny_attempt (wpAny_callSpecial?_slot (name:=Str.ofString "__next__") hit.typeIs qO
  (wpAny_call_entry qO hit.typeIs xM ?_ (xD _))))
 unfold Builtin.«reversed.__next__»
 refine wpAny_bind (wpAny_of_eq (a:=(Value.ref it,[])) rfl ?_)
 try dsimp only
 refine wpAny_bind (wpAny_field ho hd (x:=.ref l) rfl ?_)
 refine wpAny_bind (wpAny_field ho hd (x:=rawInt (-1)) rfl ?_)
 show wpAny _ _ (if (-1:Int)<0 then _ else _) _ _ s
 rw [if_pos (by decide)]
 refine wpAny_bind (wpAny_rule ?_)
 refine wpAny_bind ?_
 show wpAny _ _ (setField (.ref it) 1 (rawInt (-1)) >>= fun _=>setField (.ref it) 0 .none) _ _ _
 refine wpAny_bind (wpAny_setField ho hd (by simp) ?_)
 have ho2:(s.heap.update it (Obj.mapFields fun vs=>vs.set! 1 (rawInt (-1)))).get? it=some _:=Heap.get?_update_self _ ho (Obj.isFreed_of_fields (Obj.data_mapFields hd _))
 have hd2:=Obj.data_mapFields hd (fun vs=>vs.set! 1 (rawInt (-1)))
 have e1:Heap.ExtBut it s.heap (s.heap.update it (Obj.mapFields fun vs=>vs.set! 1 (rawInt (-1)))):=(Heap.SameBut.update ..).extBut
 refine wpAny_setField ho2 hd2 (by simp) ?_
 have e2:=e1.trans (Heap.SameBut.update (s.heap.update it (Obj.mapFields fun vs=>vs.set! 1 (rawInt (-1)))) it (Obj.mapFields fun vs=>vs.set! 0 .none)).extBut
 refine wpAny_bind ?_
 show wpAny _ _ (newExc (.type "StopIteration") [] >>= _) _ _ _
 refine wpAny_bind ?_
 simp only [newExc,newTuple]
 refine wpAny_bind (wpAny_newObj_type ?_ (by size_fits))
 refine wpAny_bind (m:=firstArgMember _ _) (wpAny_of_eq (a:=Value.none) (by first | rfl | (simp only [firstArgMember];rfl)) ?_)
 refine wpAny_newObj_type ?_ (by size_fits)
 simp only [raiseNew]
 refine wpAny_bind (wpAny_handled ?_)
 first | rw [show A.in1.handled=none from hh] | rw [hh]
 refine wpAny_bind (wpAny_pure (wpAny_throw ?_))
 refine wpAny_bind (wpAny_isInstance (T:="StopIteration") (b:=true) ⟨_,Heap.get?_push_size _ rfl,rfl⟩ isSubtype_stop ?_)
 exact wpAny_pure (hQ _ ((e2.push _).push _))
end
section
variable {X:Cx} {tg:Expr}
noncomputable def ItRT (K:PySem.W.Frag)(a:Addr)(n:Nat):It:=
 ⟨fun i H=>∃ xs x,SqT K H a xs/\xs.length=n/\xs.reverse[i]? = some x,fun i H x H'=>H' = H/\∀ xs,SqT K H a xs->xs.reverse[i]? = some x,fun i _=>i=n⟩
theorem Y4 {P:Program}{w:World}{K:PySem.W.Frag}{tg:Expr}(a it:Addr)(n:Nat):Turn P w K tg (ItRT K a n) [it] it (fun i h=>jX h it a ((n:Int) - 1 - (i:Int))) where
 mem:=by simp
 obj:=fun i h st b hb=>by
  have e:b=it:=by simpa using hb
  subst e
  obtain⟨o,e,c,d⟩:=st
  exact⟨o,e,fun v z=>by rw [d] at z;cases z⟩
 keep:=fun i h h' st k=>st.at fun o e=>k it (by simp) o e
 item:=by
  intro X hP hw hK hc i pins s σ H E I hf st hg
  subst hP hw hK
  obtain⟨xs,x,hq,hn,hx⟩:=hg
  obtain⟨its,rv,p,hz⟩:=I.tuple hq
  have hlen:=rv.length
  have hil:i<xs.length:=by
   have:=(List.getElem?_eq_some_iff.mp hx).1
   rwa [List.length_reverse] at this
  have hx2:xs[xs.length - 1 - i]? = some x:=by rw [← List.getElem?_reverse hil];exact hx
  obtain⟨u,hu,ru⟩:=rv.get hx2
  obtain⟨f0,f1,f2,f3,f4,f5⟩:=hf it (by simp)
  have ei:(n:Int) - 1 - (i:Int)=((xs.length - 1 - i:Nat):Int):=by omega
  rw [ei] at st
  refine wQ st (show s.heap.IsTuple a its.toArray from p) (by rw [List.size_toArray,← hlen];rw [sizeLine_eq] at hz;exact hz) (x:=u) (by simpa using hu) fun h' tk st' sb=>?_
  have I1:Inv X pins σ H { s with heap:=h',toks:=tk }:=I.turned (fun b o hb e=>(sb.2 b hb).trans e) f0 f1 f3 f4 f5
  have e2:((xs.length - 1 - i:Nat):Int) - 1=(n:Int) - 1 - ((i+1:Nat):Int):=by omega
  rw [e2] at st'
  obtain⟨o,e,c,d⟩:=id st'
  exact⟨u,rfl,Qy (s:={ s with heap:=h',toks:=tk }) e c d (by decide) ⟨x,H,I1,ru,⟨rfl,fun ys hy=>by rw [I.tuple_inj hy hq];exact hx⟩,st',fun b hb=>(hf b hb).1⟩⟩
 done:=by
  intro X hP hw hK hc i pins s σ H E I hf st hg
  subst hP hw hK
  have hg:i=n:=hg
  subst hg
  obtain⟨f0,f1,f2,f3,f4,f5⟩:=hf it (by simp)
  rw [show(i:Int) - 1 - (i:Int) = -1 by omega] at st
  exact xF (I.ok.hd hc) st fun h' eb=>⟨rfl,I.turned (t':=s.toks) (fun b o hb e=>eb b o hb e) f0 f1 f3 f4 f5⟩
 self:=fun _ _ _ _ _ st h=>j9 st h
noncomputable def ItRL (K:PySem.W.Frag)(a:Addr)(n:Nat):It:=
 ⟨fun i H=>∃ xs x,SqL K H a xs/\xs.length=n/\xs.reverse[i]? = some x,fun i H x H'=>H' = H/\∀ xs,SqL K H a xs->xs.reverse[i]? = some x,fun i _=>i=n⟩
theorem Y5 {P:Program}{w:World}{K:PySem.W.Frag}{tg:Expr}(a it:Addr)(n:Nat):Turn P w K tg (ItRL K a n) [it] it (fun i h=>h.IsRevIter it a ((n:Int) - 1 - (i:Int))) where
 mem:=by simp
 obj:=fun i h st b hb=>by
  have e:b=it:=by simpa using hb
  subst e
  obtain⟨o,e,c,d⟩:=st
  exact⟨o,e,fun v z=>by rw [d] at z;cases z⟩
 keep:=fun i h h' st k=>st.at fun o e=>k it (by simp) o e
 item:=by
  intro X hP hw hK hc i pins s σ H E I hf st hg
  subst hP hw hK
  obtain⟨xs,x,hq,hn,hx⟩:=hg
  obtain⟨its,rv,p,hz⟩:=I.list hq
  have hlen:=rv.length
  have hil:i<xs.length:=by
   have:=(List.getElem?_eq_some_iff.mp hx).1
   rwa [List.length_reverse] at this
  have hx2:xs[xs.length - 1 - i]? = some x:=by rw [← List.getElem?_reverse hil];exact hx
  obtain⟨u,hu,ru⟩:=rv.get hx2
  obtain⟨f0,f1,f2,f3,f4,f5⟩:=hf it (by simp)
  have ei:(n:Int) - 1 - (i:Int)=((xs.length - 1 - i:Nat):Int):=by omega
  rw [ei] at st
  refine wpAny_pyNext_rev_item st p.isList (x:=u) (by simpa using hu) fun h' st' sb=>?_
  have I1:Inv X pins σ H { s with heap:=h' }:=I.turned (t':=s.toks) (fun b o hb e=>(sb.2 b hb).trans e) f0 f1 f3 f4 f5
  have e2:((xs.length - 1 - i:Nat):Int) - 1=(n:Int) - 1 - ((i+1:Nat):Int):=by omega
  rw [e2] at st'
  obtain⟨o,e,c,d⟩:=id st'
  exact⟨u,rfl,Qy (s:={ s with heap:=h' }) e c d (by decide) ⟨x,H,I1,ru,⟨rfl,fun ys hy=>by rw [I.list_inj hy hq];exact hx⟩,st',fun b hb=>(hf b hb).1⟩⟩
 done:=by
  intro X hP hw hK hc i pins s σ H E I hf st hg
  subst hP hw hK
  have hg:i=n:=hg
  subst hg
  obtain⟨f0,f1,f2,f3,f4,f5⟩:=hf it (by simp)
  rw [show(i:Int) - 1 - (i:Int) = -1 by omega] at st
  exact wpAny_pyNext_rev_end (I.ok.hd hc) st fun h' eb=>⟨rfl,I.turned (t':=s.toks) (fun b o hb e=>eb b o hb e) f0 f1 f3 f4 f5⟩
 self:=fun _ _ _ _ _ st h=>wpAny_pyIter_revIter st h
theorem kI:bootBuiltins "reversed" = some (.type "reversed"):=by decide +kernel
noncomputable def zd7 (K:PySem.W.Frag)(ta:TA):TI:=fun σ H R=>ta σ H fun vs H1=>∃ l xs,vs=[.ref l]/\SqT K H1 l xs/\R (ItRT K l xs.length) H1
noncomputable def zd8 (K:PySem.W.Frag)(ta:TA):TI:=fun σ H R=>ta σ H fun vs H1=>∃ l xs,vs=[.ref l]/\SqL K H1 l xs/\R (ItRL K l xs.length) H1
theorem zcD {a:Expr}{ta:TA}{p pos:Pos}{K:PySem.W.Frag}(hK:X.K=K)(hg:Gl X "reversed")(hm:X.mg "reversed" = none)(ha:PA X [a] ta)(hs:starEach [a] X.env=[(false,eval a X.env)]:=by rfl) :
  PI X tg (.Call (.Name "reversed" p) [a] [] pos) (zd7 K ta):=by
 subst hK
 intro pins s σ H R I h
 refine Call_ (wg I hg hm kI (PyProof.Rows.callWith_type1 (thn (ha pos pins s σ H _ I h) fun us s1 ⟨vs,H1,I1,r1,q1⟩=>?_) hs rfl))
 obtain⟨l,xs,e,hq,q⟩:=q1
 subst e
 obtain⟨u,rfl,ru⟩:=r1.one
 cases ru
 obtain⟨its,rv,pl,hz⟩:=I1.tuple hq
 have hlen:=rv.length
 rw [sizeLine_eq] at hz
 refine vN (show s1.heap.IsTuple l its.toArray from pl) (by rw [List.size_toArray,← hlen];exact hz) fun tk=>?_
 have hit:jX (s1.heap.push (Jh l ((its.toArray.size:Int) - 1))) s1.heap.objs.size l ((xs.length:Int) - 1 - ((0:Nat):Int)):=⟨_,Heap.get?_push_size _ rfl,rfl,by simp [Jh,hlen]⟩
 refine j9 (s:={ s1 with heap:=s1.heap.push (Jh l ((its.toArray.size:Int) - 1)),toks:=tk }) hit ?_
 refine⟨s1.heap.objs.size,[s1.heap.objs.size],_,_,H1,rfl,I1.kept (t':=tk) (fun b o e=>Heap.get?_push_of_some _ e),Y4 l _ xs.length,hit,fun b hb=>?_,q⟩
 have e:b=s1.heap.objs.size:=by simpa using hb
 subst e
 exact I1.fpOk (Nat.le_refl _) (I1.hok.fresh (Nat.le_refl _))
theorem zcE {a:Expr}{ta:TA}{p pos:Pos}{K:PySem.W.Frag}(hK:X.K=K)(hg:Gl X "reversed")(hm:X.mg "reversed" = none)(ha:PA X [a] ta)(hs:starEach [a] X.env=[(false,eval a X.env)]:=by rfl) :
  PI X tg (.Call (.Name "reversed" p) [a] [] pos) (zd8 K ta):=by
 subst hK
 intro pins s σ H R I h
 refine Call_ (wg I hg hm kI (PyProof.Rows.callWith_type1 (thn (ha pos pins s σ H _ I h) fun us s1 ⟨vs,H1,I1,r1,q1⟩=>?_) hs rfl))
 obtain⟨l,xs,e,hq,q⟩:=q1
 subst e
 obtain⟨u,rfl,ru⟩:=r1.one
 cases ru
 obtain⟨its,rv,pl,hz⟩:=I1.list hq
 have hlen:=rv.length
 refine call_reversed_list pl.isList ?_
 have hit:(s1.heap.push (revObj l ((its.toArray.size:Int) - 1))).IsRevIter s1.heap.objs.size l ((xs.length:Int) - 1 - ((0:Nat):Int)):=⟨_,Heap.get?_push_size _ rfl,rfl,by simp [revObj,hlen]⟩
 refine wpAny_pyIter_revIter (s:={ s1 with heap:=s1.heap.push (revObj l ((its.toArray.size:Int) - 1)) }) hit ?_
 refine⟨s1.heap.objs.size,[s1.heap.objs.size],_,_,H1,rfl,I1.kept (t':=s1.toks) (fun b o e=>Heap.get?_push_of_some _ e),Y5 l _ xs.length,hit,fun b hb=>?_,q⟩
 have e:b=s1.heap.objs.size:=by simpa using hb
 subst e
 exact I1.fpOk (Nat.le_refl _) (I1.hok.fresh (Nat.le_refl _))
end
end L2
namespace L2
open PySem PySem.Spec PyProof.Rows
section
variable {X:Cx}
variable {st:Stmt} {rest:List Stmt} {t u:TS}
end
end L2
namespace L2
open PySem PySem.Spec PyProof.Rows
section
variable {X:Cx} {pos:Pos}
end
end L2
namespace L2
open PySem PySem.Spec PyProof.Rows
section
variable {X:Cx} {e:Expr} {te:TE} {pos p2:Pos} {K:PySem.W.Frag}
end
end L2
namespace L4
open PySem L2 PySem.Spec PyProof.Rows
inductive T where
 | non | bl (b:Bool) | int (i:Int) | str (t:List Nat)
 | tp (xs:List T) | ls (xs:List T)
 | fz (t:T) | hol (v:V) | ks (l:Bool) (xs:List T)
mutual
noncomputable def strip:T->T
 | .tp xs=>.tp (zb xs)
 | .ls xs=>.ls (zb xs)
 | .fz t=>strip t
 | .non=>.non
 | .bl b=>.bl b
 | .int i=>.int i
 | .str t=>.str t
 | .hol v=>.hol v
 | .ks l xs=>.ks l xs
noncomputable def zb:List T->List T
 | []=>[]
 | t::ts=>strip t::zb ts
end
theorem qd:∀ ts:List T,zb ts=ts.map strip
 | []=>by simp only [zb,List.map_nil]
 | t::ts=>by simp only [zb,List.map_cons,qd ts]
noncomputable def fzi:T->T
 | .non=>.non
 | .bl b=>.bl b
 | .int i=>.int i
 | .str t=>.str t
 | .tp xs=>.fz (.tp xs)
 | .ls xs=>.fz (.ls xs)
 | .fz t=>.fz t
 | .hol v=>.hol v
 | .ks l xs=>.ks l xs
noncomputable def fzn (t:T):T:=fzi (strip t)
mutual
noncomputable def shr:T->Bool
 | .tp xs=>shrs xs
 | .ls _=>false
 | .hol _=>false
 | _=>true
noncomputable def shrs:List T->Bool
 | []=>true
 | t::ts=>shr t&&shrs ts
end
mutual
noncomputable def mfr:T->Bool
 | .tp xs=>mfrs xs
 | .fz t=>mfr t
 | .ls _=>false
 | .hol _=>false
 | .ks _ _=>false
 | _=>true
noncomputable def mfrs:List T->Bool
 | []=>true
 | t::ts=>mfr t&&mfrs ts
end
mutual
noncomputable def cln:T->Bool
 | .tp xs=>clns xs
 | .ls xs=>clns xs
 | .fz t=>mfr t
 | .hol _=>false
 | .ks _ _=>false
 | _=>true
noncomputable def clns:List T->Bool
 | []=>true
 | t::ts=>cln t&&clns ts
end
structure Exn where
 c:Nat
 fs:List Str
 ts:List T
inductive Slot where
 | no | own (t:T) | al (i:Nat) (p:List Nat)
noncomputable abbrev Sl:=List Slot
noncomputable abbrev QP:=T->Sl->Prop
noncomputable abbrev XP:=Exn->Sl->Prop
noncomputable abbrev Fn:=List T->(T->List T->Prop)->(Exn->List T->Prop)->Prop
inductive Md where
 | fz | mu | mv
 deriving DecidableEq
inductive BO where
 | add | sub | mul | fdiv | mod | pow | shr
 deriving DecidableEq
inductive CO where
 | eq | ne | lt | le | gt | ge | isin | notin | is | isnot
 deriving DecidableEq
noncomputable def lsV:T->Option (List T)
 | .ls xs=>some xs
 | .fz (.ls xs)=>some (xs.map fzi)
 | _=>none
noncomputable def tpV:T->Option (List T)
 | .tp xs=>some xs
 | .fz (.tp xs)=>some (xs.map fzi)
 | _=>none
noncomputable def ksV:T->Option (List T)
 | .ks _ xs=>some (xs.map fzi)
 | _=>none
noncomputable def ksL:T->Option (List T)
 | .ks true xs=>some (xs.map fzi)
 | _=>none
noncomputable def dcV:T->Option (List Key×List T)
 | _=>none
noncomputable def obV:T->Option (Nat×List Str×List T)
 | _=>none
noncomputable def shO (o:Option (List T)):Option (List T):=o.bind fun xs=>if shrs xs=true then some xs else none
noncomputable instance decMulOk (i j:Int):Decidable (IntMulOk i j):=by unfold IntMulOk;infer_instance
noncomputable def intOp:BO->Int->Int->Option T
 | .add,i,j=>some (.int (i+j))
 | .sub,i,j=>some (.int (i - j))
 | .mul,i,j=>if IntMulOk i j then some (.int (i * j)) else none
 | .fdiv,i,j=>if 0<j/\j<1073741824 then some (.int (i / j)) else none
 | .mod,i,j=>if 0<j then some (.int (i % j)) else none
 | .pow,i,j=>if 0<=j/\j<=1000000/\i.natAbs<2 ^ 64 then some (.int (i ^ j.toNat)) else none
 | .shr,i,j=>if 0<=j then some (.int (i / 2 ^ j.toNat)) else none
noncomputable def zd9 (op:BO)(a b:List Nat):Option T:=if op=.add/\a.length+b.length<=16777216 then some (.str (a++b)) else none
noncomputable def zaF (op:BO)(a:List Nat)(n:Int):Option T:=if op=.mul/\0<=n/\n<=100000/\a.length * n.toNat<=16777216 then some (.str (List.replicate n.toNat a).flatten) else none
noncomputable def zaG (op:BO)(a:List T)(n:Int):Option T:=if op=.mul/\0<=n/\n<=100000/\a.length * n.toNat<=16777216 then some (.ls (List.replicate n.toNat a).flatten) else none
noncomputable def Wr (op:BO)(a b:List T):Option T:=if op=.add/\a.length+b.length<=16777216 then some (.ls (a++b)) else none
noncomputable def zaH (op:BO)(a b:List T):Option T:=if op=.add/\a.length+b.length<=1000000 then some (.tp (a++b)) else none
noncomputable def intO:T->Option Int
 | .int i=>some i
 | _=>none
noncomputable def strO:T->Option (List Nat)
 | .str t=>some t
 | _=>none
noncomputable def blO:T->Option Bool
 | .bl b=>some b
 | _=>none
noncomputable def two {α β γ:Type}(a:Option α)(b:Option β)(f:α->β->Option γ):Option γ:=a.bind fun x=>b.bind fun y=>f x y
noncomputable def orE {α:Type}(a b:Option α):Option α:=match a with
 | some x=>some x
 | none=>b
noncomputable def binO (op:BO)(x y:T):Option T:=
 orE (two (intO x) (intO y) (intOp op)) (orE (two (strO x) (strO y) (zd9 op)) (orE (two (strO x) (intO y) (zaF op)) (orE (two (shO (lsV x)) (shO (lsV y)) (Wr op)) (orE (two (shO (tpV x)) (shO (tpV y)) (zaH op)) (two (shO (lsV x)) (intO y) (zaG op))))))
noncomputable def scT:T->Option V
 | .non=>some .non
 | .bl b=>some (.bl b)
 | .int i=>some (.int i)
 | .str t=>some (.str (S t))
 | _=>none
noncomputable def scTs:List T->Option (List V)
 | []=>some []
 | d::ds=>two (scT d) (scTs ds) fun x xs=>some (x::xs)
mutual
noncomputable def datT:T->Option Dat
 | .non=>some (.fl .non)
 | .bl b=>some (.fl (.bl b))
 | .int i=>some (.fl (.int i))
 | .str t=>some (.fl (.str (S t)))
 | .tp xs=>(wD xs).map .tp
 | .ls xs=>(wD xs).map .ls
 | .fz t=>datT t
 | _=>none
noncomputable def wD:List T->Option (List Dat)
 | []=>some []
 | d::ds=>two (datT d) (wD ds) fun x xs=>some (x::xs)
end
noncomputable def cont:T->Bool
 | .tp _=>true
 | .ls _=>true
 | .fz (.tp _)=>true
 | .fz (.ls _)=>true
 | _=>false
noncomputable def eqT (a b:T):Option Bool:=
 orE (two (scT a) (scT b) fun x y=>if scal x y=true then some (decide (x=y)) else none)
  (if (cont a&&cont b)=true then two (datT a) (datT b) fun d e=>if depD d<=50 then some (eqD d e) else none else none)
noncomputable def occs (l y:List Nat):List Nat:=Builtin.Str.occurrences (S l) (S y) 0 (S l).length 1
noncomputable def seqV (t:T):Option (List T):=orE (lsV t) (orE (tpV t) (ksV t))
noncomputable def lsK (t:T):Option (List T):=orE (lsV t) (ksL t)
noncomputable def keyT:T->Option Key
 | .str t=>some (.inr (S t))
 | .int i=>some (.inl i)
 | _=>none
noncomputable def inT (a b:T):Option Bool:=
  orE (two (strO a) (strO b) fun y l=>some (match y with
    | [c]=>decide (c∈l)
    | y=>!(occs l y).isEmpty))
   (orE (two (scT a) ((seqV b).bind scTs) fun x vs=>some (inV x vs)) (two (keyT a) (dcV b) fun k d=>some (d.1.any fun k'=>decide (k' = k))))
noncomputable def nonT:T->Option Bool
 | .non=>some true
 | .fz t=>nonT t
 | .hol _=>none
 | _=>some false
noncomputable def isT (a b:T):Option Bool:=
 match b with
 | .non=>nonT a
 | .bl c=>(blO a).map fun b=>b == c
 | _=>none
noncomputable def cmpI (op:CO)(i j:Int):Option Bool:=
 match op with
 | .lt=>some (decide (i<j))
 | .le=>some (decide (i<=j))
 | .gt=>some (decide (j<i))
 | .ge=>some (decide (j<=i))
 | _=>none
noncomputable def cmpO (op:CO)(x y:T):Option Bool:=
 match op with
 | .eq=>eqT x y
 | .ne=>(eqT x y).map (!·)
 | .isin=>inT x y
 | .notin=>(inT x y).map (!·)
 | .is=>isT x y
 | .isnot=>(isT x y).map (!·)
 | op=>two (intO x) (intO y) (cmpI op)
noncomputable def dget (ks:List Key)(xs:List T)(k:Key):Option T:=((ks.zip xs).find? fun kv=>decide (kv.1=k)).map (·.2)
noncomputable def ixO (x y:T):Option T:=
 orE (two (seqV x) (intO y) fun xs i=>atI xs i) (orE (two (strO x) (intO y) fun t i=>(atI t i).map fun c=>.str [c]) (two (dcV x) (keyT y) fun d k=>dget d.1 d.2 k))
noncomputable def cutL {α:Type}(xs:List α)(lo hi:Option Int):List α:=(xs.drop (HT.sIx xs.length 0 lo)).take (HT.sIx xs.length xs.length hi - HT.sIx xs.length 0 lo)
noncomputable def slO (x:T)(lo hi:Option Int):Option T:=
 orE ((strO x).map fun t=>.str (cutL t lo hi)) (orE ((shO (lsK x)).map fun xs=>.ls (cutL xs lo hi)) ((shO (tpV x)).map fun xs=>.tp (cutL xs lo hi)))
noncomputable def truT (x:T):Option Bool:=
 match x with
 | .non=>some false
 | .bl b=>some b
 | .int i=>some (i != 0)
 | .str t=>some (!t.isEmpty)
 | x=>orE ((seqV x).map fun xs=>!xs.isEmpty) ((dcV x).map fun d=>!d.1.isEmpty)
noncomputable def stepI (x y:T):Option Nat:=
 match x with
 | .ls xs=>(intO y).bind fun i=>ixN xs.length i
 | .tp xs=>(intO y).bind fun i=>ixN xs.length i
 | _=>none
noncomputable def kids:T->Option (List T)
 | .ls xs=>some xs
 | .tp xs=>some xs
 | _=>none
noncomputable def kJ:T->List T->T
 | .ls _,ys=>.ls ys
 | .tp _,ys=>.tp ys
 | t,_=>t
noncomputable def getT:T->List Nat->Option T
 | t,[]=>some t
 | t,j::p=>match kids t with
  | some xs=>match xs[j]? with
   | some x=>getT x p
   | none=>none
  | none=>none
noncomputable def setT:T->List Nat->T->T
 | _,[],n=>n
 | t,j::p,n=>match kids t with
  | some xs=>match xs[j]? with
   | some x=>kJ t (xs.set j (setT x p n))
   | none=>t
  | none=>t
noncomputable def Slot.kill (i:Nat)(p:List Nat):Slot->Slot
 | .al j q=>if j=i/\q.isPrefixOf p=false then .no else .al j q
 | .own t=>.own t
 | .no=>.no
noncomputable def Slot.killR (i:Nat):Slot->Slot
 | .al j q=>if j=i then .no else .al j q
 | .own t=>.own t
 | .no=>.no
noncomputable def Slot.noAl:Slot->Slot
 | .al _ _=>.no
 | .own t=>.own t
 | .no=>.no
noncomputable def setS (s:Sl)(i:Nat)(x:Slot):Sl:=(s.map (Slot.killR i)).set i x
noncomputable def putS (s:Sl)(i:Nat)(p:List Nat)(t:T):Sl:=
 match s[i]? with
 | some (.own r)=>(s.map (Slot.kill i p)).set i (.own (setT r p t))
 | _=>s
inductive MU where
 | append | extend | pop | clear | insert | popI
 deriving DecidableEq
noncomputable def muT (m:MU)(x:T)(as:List T):Option (T×T):=
 match x,as with
 | .ls xs,[y]=>match m with
  | .append=>if xs.length<16777216 then some (.ls (xs++[y]),.non) else none
  | .extend=>(shO (lsV y)).bind fun ys=>if xs.length+ys.length<=16777216 then some (.ls (xs++ys),.non) else none
  | _=>none
 | .ls xs,[]=>match m with
  | .pop=>(xs[xs.length - 1]?).map fun d=>(.ls xs.dropLast,d)
  | .clear=>some (.ls [],.non)
  | _=>none
 | _,_=>none
noncomputable def putO (x y o:T):Option T:=
 match x with
 | .ls xs=>(intO y).bind fun n=>(ixN xs.length n).map fun j=>.ls (xs.set j o)
 | _=>none
end L4
namespace L4
open PySem L2 PySem.Spec PyProof.Rows
structure Wd where
 K:PySem.W.Frag
 cl:Nat->Addr
 mg:Str->Option Value
variable {W:Wd}
mutual
noncomputable def IsV (W:Wd)(F:Hp):T->V->Prop
 | .non,v=>v=.non
 | .bl b,v=>v=.bl b
 | .int i,v=>v=.int i
 | .str t,v=>v=.str (S t)/\t.length<=16777216
 | .tp ts,v=>∃ p vs,v=.ref p/\F p=some (.tup vs)/\IsVs W F ts vs
 | .ls ts,v=>∃ p vs,v=.ref p/\F p=some (.lst vs)/\IsVs W F ts vs
 | .fz t,v=>IsV W F t v
 | .hol u,v=>v=u
 | .ks l ts,v=>∃ p vs,v=.ref p/\(if l=true then SqL W.K F p vs else SqT W.K F p vs)/\IsVs W F ts vs
noncomputable def IsVs (W:Wd)(F:Hp):List T->List V->Prop
 | [],vs=>vs=[]
 | d::ds,vs=>∃ v r,vs=v::r/\IsV W F d v/\IsVs W F ds r
end
theorem xN {K:PySem.W.Frag}{H H':Hp}(g:Same H H'){a:Addr}{xs:List V}(h:SqL K H a xs):SqL K H' a xs:=by
 rcases h with(h | ⟨o,h⟩) | h
 ·exact .inl (.inl (g _ _ h))
 ·exact .inl (.inr ⟨o,g _ _ h⟩)
 ·exact .inr h
theorem Zv {K:PySem.W.Frag}{H H':Hp}(g:Same H H'){a:Addr}{xs:List V}(h:SqT K H a xs):SqT K H' a xs:=by
 rcases h with(h | ⟨o,h⟩) | h
 ·exact .inl (.inl (g _ _ h))
 ·exact .inl (.inr ⟨o,g _ _ h⟩)
 ·exact .inr h
mutual
theorem IsV.mono {F F':Hp}(g:Same F F'):∀ {d:T} {v:V},IsV W F d v->IsV W F' d v
 | .non,_,h=>h
 | .bl _,_,h=>h
 | .int _,_,h=>h
 | .str _,_,h=>h
 | .hol _,_,h=>h
 | .fz t,v,h=>IsV.mono g (d:=t) (v:=v) h
 | .tp ts,_,⟨p,vs,e,h1,h2⟩=>⟨p,vs,e,g _ _ h1,IsVs.mono g h2⟩
 | .ls ts,_,⟨p,vs,e,h1,h2⟩=>⟨p,vs,e,g _ _ h1,IsVs.mono g h2⟩
 | .ks true ts,_,⟨p,vs,e,h1,h2⟩=>⟨p,vs,e,xN g h1,IsVs.mono g h2⟩
 | .ks false ts,_,⟨p,vs,e,h1,h2⟩=>⟨p,vs,e,Zv g h1,IsVs.mono g h2⟩
theorem IsVs.mono {F F':Hp}(g:Same F F'):∀ {ds:List T} {vs:List V},IsVs W F ds vs->IsVs W F' ds vs
 | [],_,h=>h
 | d::ds,_,⟨v,r,e,h1,h2⟩=>⟨v,r,e,IsV.mono g h1,IsVs.mono g h2⟩
end
mutual
theorem IsV.strip {F:Hp}:∀ {d:T} {v:V},IsV W F d v->IsV W F (strip d) v
 | .non,_,h=>h
 | .bl _,_,h=>h
 | .int _,_,h=>h
 | .str _,_,h=>h
 | .hol _,_,h=>h
 | .ks _ _,_,h=>h
 | .fz t,v,h=>by simp only [L4.strip];exact IsV.strip (d:=t) (v:=v) h
 | .tp ts,_,⟨p,vs,e,h1,h2⟩=>by simp only [L4.strip,IsV];exact⟨p,vs,e,h1,IsVs.strip h2⟩
 | .ls ts,_,⟨p,vs,e,h1,h2⟩=>by simp only [L4.strip,IsV];exact⟨p,vs,e,h1,IsVs.strip h2⟩
theorem IsVs.strip {F:Hp}:∀ {ds:List T} {vs:List V},IsVs W F ds vs->IsVs W F (zb ds) vs
 | [],_,h=>h
 | d::ds,_,⟨v,r,e,h1,h2⟩=>by simp only [zb,IsVs];exact⟨v,r,e,IsV.strip h1,IsVs.strip h2⟩
end
mutual
noncomputable def Tr (W:Wd)(F H:Hp):T->V->List Addr->Prop
 | .tp ts,v,A=>∃ p vs,v=.ref p/\F p=some (.tup vs)/\TrL W F H ts vs A
 | .ls ts,v,A=>∃ p vs B,v=.ref p/\H p=some (.lst vs)/\A=p::B/\TrL W F H ts vs B
 | .fz t,v,A=>A=[]/\IsV W F t v
 | .non,v,A=>A=[]/\v=.non
 | .bl b,v,A=>A=[]/\v=.bl b
 | .int i,v,A=>A=[]/\v=.int i
 | .str t,v,A=>A=[]/\v=.str (S t)/\t.length<=16777216
 | .hol u,v,A=>A=[]/\v=u
 | .ks l ts,v,A=>A=[]/\IsV W F (.ks l ts) v
noncomputable def TrL (W:Wd)(F H:Hp):List T->List V->List Addr->Prop
 | [],vs,A=>vs=[]/\A=[]
 | o::os,vs,A=>∃ v r A1 A2,vs=v::r/\A=A1++A2/\Tr W F H o v A1/\TrL W F H os r A2
end
mutual
theorem Tr.frame {F F' H H':Hp}(g:Same F F'):∀ {o:T} {v:V} {A:List Addr},Tr W F H o v A->(∀ b∈A,∀ x,H b=some x->H' b=some x)->Tr W F' H' o v A
 | .non,_,_,h,_=>h
 | .bl _,_,_,h,_=>h
 | .int _,_,_,h,_=>h
 | .str _,_,_,h,_=>h
 | .hol _,_,_,h,_=>h
 | .fz t,_,_,⟨e,h⟩,_=>⟨e,IsV.mono g h⟩
 | .ks l ts,_,_,⟨e,h⟩,_=>⟨e,IsV.mono g h⟩
 | .tp os,_,_,⟨p,vs,e,h1,h2⟩,k=>⟨p,vs,e,g _ _ h1,TrL.frame g h2 k⟩
 | .ls os,_,_,⟨p,vs,B,e,h1,ea,h2⟩,k=>⟨p,vs,B,e,k p (by rw [ea];exact List.mem_cons_self) _ h1,ea,TrL.frame g h2 fun b hb=>k b (by rw [ea];exact List.mem_cons_of_mem _ hb)⟩
theorem TrL.frame {F F' H H':Hp}(g:Same F F'):∀ {os:List T} {vs:List V} {A:List Addr},TrL W F H os vs A->(∀ b∈A,∀ x,H b=some x->H' b=some x)->TrL W F' H' os vs A
 | [],_,_,h,_=>h
 | o::os,_,_,⟨v,r,A1,A2,e,ea,h1,h2⟩,k=>⟨v,r,A1,A2,e,ea,Tr.frame g h1 fun b hb=>k b (by rw [ea];exact List.mem_append_left _ hb),TrL.frame g h2 fun b hb=>k b (by rw [ea];exact List.mem_append_right _ hb)⟩
end
mutual
theorem Tr.cell {F H:Hp}:∀ {o:T} {v:V} {A:List Addr},Tr W F H o v A->∀ b∈A,∃ x,H b=some x
 | .non,_,_,h,b,hb=>by rw [h.1] at hb;cases hb
 | .bl _,_,_,h,b,hb=>by rw [h.1] at hb;cases hb
 | .int _,_,_,h,b,hb=>by rw [h.1] at hb;cases hb
 | .str _,_,_,h,b,hb=>by rw [h.1] at hb;cases hb
 | .hol _,_,_,h,b,hb=>by rw [h.1] at hb;cases hb
 | .fz _,_,_,h,b,hb=>by rw [h.1] at hb;cases hb
 | .ks _ _,_,_,h,b,hb=>by rw [h.1] at hb;cases hb
 | .tp os,_,_,⟨p,vs,e,h1,h2⟩,b,hb=>TrL.cell h2 b hb
 | .ls os,_,_,⟨p,vs,B,e,h1,ea,h2⟩,b,hb=>by
  rw [ea] at hb
  rcases List.mem_cons.mp hb with rfl | hb
  ·exact⟨_,h1⟩
  ·exact TrL.cell h2 b hb
theorem TrL.cell {F H:Hp}:∀ {os:List T} {vs:List V} {A:List Addr},TrL W F H os vs A->∀ b∈A,∃ x,H b=some x
 | [],_,_,h,b,hb=>by rw [h.2] at hb;cases hb
 | o::os,_,_,⟨v,r,A1,A2,e,ea,h1,h2⟩,b,hb=>by
  rw [ea] at hb
  rcases List.mem_append.mp hb with hb | hb
  ·exact Tr.cell h1 b hb
  ·exact TrL.cell h2 b hb
end
mutual
theorem Tr.isv {F F' H:Hp}(g:Same F F'):∀ {o:T} {v:V} {A:List Addr},Tr W F H o v A->(∀ b∈A,∀ x,H b=some x->F' b=some x)->IsV W F' o v
 | .non,_,_,h,_=>h.2
 | .bl _,_,_,h,_=>h.2
 | .int _,_,_,h,_=>h.2
 | .str _,_,_,h,_=>h.2
 | .hol _,_,_,h,_=>h.2
 | .fz t,v,_,h,_=>IsV.mono g (d:=t) h.2
 | .ks l ts,_,_,h,_=>IsV.mono g h.2
 | .tp os,_,_,⟨p,vs,e,h1,h2⟩,k=>⟨p,vs,e,g _ _ h1,TrL.isv g h2 k⟩
 | .ls os,_,_,⟨p,vs,B,e,h1,ea,h2⟩,k=>⟨p,vs,e,k p (by rw [ea];exact List.mem_cons_self) _ h1,TrL.isv g h2 fun b hb=>k b (by rw [ea];exact List.mem_cons_of_mem _ hb)⟩
theorem TrL.isv {F F' H:Hp}(g:Same F F'):∀ {os:List T} {vs:List V} {A:List Addr},TrL W F H os vs A->(∀ b∈A,∀ x,H b=some x->F' b=some x)->IsVs W F' os vs
 | [],_,_,h,_=>h.1
 | o::os,_,_,⟨v,r,A1,A2,e,ea,h1,h2⟩,k=>⟨v,r,e,Tr.isv g h1 fun b hb=>k b (by rw [ea];exact List.mem_append_left _ hb),TrL.isv g h2 fun b hb=>k b (by rw [ea];exact List.mem_append_right _ hb)⟩
end
theorem Tr.now {F H:Hp}(g:Same F H){o:T}{v:V}{A:List Addr}(h:Tr W F H o v A):IsV W H o v:=h.isv g fun _ _ _ e=>e
theorem zaI {F H:Hp}{t:T}{v:V}(h:IsV W F t v):Tr W F H (fzi t) v []:=by
 cases t with
 | tp _=>exact⟨rfl,h⟩
 | ls _=>exact⟨rfl,h⟩
 | fz _=>exact⟨rfl,h⟩
 | _=>exact⟨rfl,h⟩
theorem Ji {F H:Hp}{t:T}{v:V}(h:IsV W F t v):Tr W F H (fzn t) v []:=zaI h.strip
theorem qX {F H:Hp}:∀ {ts:List T} {vs:List V},IsVs W F ts vs->TrL W F H (ts.map fzi) vs []
 | [],_,h=>⟨h,rfl⟩
 | t::ts,_,⟨v,r,e,h1,h2⟩=>⟨v,r,[],[],e,rfl,zaI h1,qX h2⟩
mutual
theorem yr {F H:Hp}:∀ {o:T} {v:V} {A:List Addr},shr o=true->Tr W F H o v A->A=[]
 | .non,_,_,_,h=>h.1
 | .bl _,_,_,_,h=>h.1
 | .int _,_,_,_,h=>h.1
 | .str _,_,_,_,h=>h.1
 | .hol _,_,_,_,h=>h.1
 | .fz _,_,_,_,h=>h.1
 | .ks _ _,_,_,_,h=>h.1
 | .tp os,_,_,s,⟨p,vs,e,h1,h2⟩=>Zw (by simpa only [shr] using s) h2
 | .ls _,_,_,s,_=>by simp [shr] at s
theorem Zw {F H:Hp}:∀ {os:List T} {vs:List V} {A:List Addr},shrs os=true->TrL W F H os vs A->A=[]
 | [],_,_,_,h=>h.2
 | o::os,_,_,s,⟨v,r,A1,A2,e,ea,h1,h2⟩=>by
  simp only [shrs,Bool.and_eq_true] at s
  rw [ea,yr s.1 h1,Zw s.2 h2];rfl
end
theorem TrL.len {F H:Hp}:∀ {ds:List T} {vs:List V} {A:List Addr},TrL W F H ds vs A->vs.length=ds.length
 | [],_,_,h=>by rw [h.1];rfl
 | d::ds,_,_,⟨v,r,A1,A2,e,_,_,h2⟩=>by rw [e,List.length_cons,List.length_cons,TrL.len h2]
theorem TrL.app {F H:Hp}:∀ {ds es:List T} {vs us:List V} {A B:List Addr},TrL W F H ds vs A->TrL W F H es us B->TrL W F H (ds++es) (vs++us) (A++B)
 | [],_,_,_,_,_,h,k=>by rw [h.1,h.2];exact k
 | d::ds,_,_,_,_,_,⟨v,r,A1,A2,e,ea,h1,h2⟩,k=>⟨v,_,A1,A2++_,by rw [e];rfl,by rw [ea,List.append_assoc],h1,TrL.app h2 k⟩
theorem TrL.one {F H:Hp}{d:T}{v:V}{A:List Addr}(h:Tr W F H d v A):TrL W F H [d] [v] A:=⟨v,[],A,[],rfl,(List.append_nil _).symm,h,rfl,rfl⟩
theorem TrL.get {F H:Hp}:∀ {ds:List T} {vs:List V} {A:List Addr} {j:Nat} {d:T},TrL W F H ds vs A->ds[j]? = some d->∃ v A1 A2 A3,vs[j]? = some v/\A=A1++(A2++A3)/\Tr W F H d v A2 /\
  ∀ {F' H':Hp} {d':T} {v':V} {A':List Addr},Same F F'->(∀ b∈A1,∀ x,H b=some x->H' b=some x)->(∀ b∈A3,∀ x,H b=some x->H' b=some x)->Tr W F' H' d' v' A'->TrL W F' H' (ds.set j d') (vs.set j v') (A1++(A'++A3))
 | [],_,_,_,_,_,e=>by simp at e
 | d::ds,_,_,0,_,⟨v,r,A1,A2,e,ea,h1,h2⟩,k=>by
  simp only [List.getElem?_cons_zero,Option.some.injEq] at k
  subst k e
  exact⟨v,[],A1,A2,rfl,ea,h1,fun g _ k3 t=>⟨_,r,_,A2,rfl,rfl,t,h2.frame g k3⟩⟩
 | d::ds,_,_,j+1,_,⟨v,r,A1,A2,e,ea,h1,h2⟩,k=>by
  subst e
  obtain⟨u,B1,B2,B3,e1,e2,e3,e4⟩:=TrL.get (j:=j) h2 (by simpa using k)
  refine⟨u,A1++B1,B2,B3,by simpa using e1,by rw [ea,e2,List.append_assoc],e3,fun g k1 k3 t=>?_⟩
  rw [List.append_assoc]
  exact⟨v,_,A1,_,rfl,rfl,h1.frame g fun b hb=>k1 b (List.mem_append_left _ hb),e4 g (fun b hb=>k1 b (List.mem_append_right _ hb)) k3 t⟩
noncomputable def adds (F H:Hp)(A:List Addr):Hp:=fun b=>if b∈A then H b else F b
theorem jk {F H:Hp}{A:List Addr}(h:∀ b∈A,F b=none):Same F (adds F H A):=fun b o e=>by
 unfold adds
 rw [if_neg (fun z=>by rw [h b z] at e;cases e)];exact e
theorem Jj {F H:Hp}{A:List Addr}:∀ b∈A,∀ x,H b=some x->adds F H A b=some x:=fun b hb x e=>by unfold adds;rw [if_pos hb];exact e
theorem VT {F H:Hp}{A:List Addr}(g:Same F H):Same (adds F H A) H:=fun b o e=>by
 unfold adds at e
 split at e
 ·exact e
 ·exact g _ _ e
end L4
namespace L4
open PySem L2 PySem.Spec PyProof.Rows
variable {W:Wd}
noncomputable def hk:HO->Option (List V)
 | .lst vs=>some vs
 | .tup vs=>some vs
 | .dK kvs=>some (kvs.map (·.2))
 | .ins _ _ kvs=>some (kvs.map (·.2))
 | _=>none
noncomputable def kAt (H:Hp)(v:V)(j:Nat):Option V:=match v with
 | .ref p=>(H p).bind fun o=>(hk o).bind fun vs=>vs[j]?
 | _=>none
noncomputable def vAt (H:Hp):V->List Nat->Option V
 | v,[]=>some v
 | v,j::q=>(kAt H v j).bind fun w=>vAt H w q
theorem Tr.kids {F H:Hp}(g:Same F H){t:T}{v:V}{A:List Addr}{ts:List T}(h:Tr W F H t v A)(e:kids t=some ts):∃ p vs o pre B,v=.ref p/\H p=some o/\hk o=some vs/\A=pre++B/\TrL W F H ts vs B /\
  ∀ {F' H':Hp},Same F F'->Same F' H'->(∀ b∈pre,∀ x,H b=some x->H' b=some x)->H' p=some o/\∀ {ts':List T} {B':List Addr},TrL W F' H' ts' vs B'->Tr W F' H' (kJ t ts') v (pre++B'):=by
 cases t<;>simp only [L4.kids,Option.some.injEq,reduceCtorEq] at e
 ·subst e
  obtain⟨p,vs,rfl,h1,h2⟩:=h
  exact⟨p,vs,_,[],A,rfl,g _ _ h1,rfl,rfl,h2,fun g1 g2 _=>⟨g2 _ _ (g1 _ _ h1),fun h=>⟨p,vs,rfl,g1 _ _ h1,h⟩⟩⟩
 ·subst e
  obtain⟨p,vs,B,rfl,h1,rfl,h2⟩:=h
  exact⟨p,vs,_,[p],B,rfl,h1,rfl,rfl,h2,fun g1 g2 k=>⟨k p (List.mem_singleton.mpr rfl) _ h1,fun h=>⟨p,vs,_,rfl,k p (List.mem_singleton.mpr rfl) _ h1,rfl,h⟩⟩⟩
theorem Zx {α:Type}{l:List α}{j:Nat}{x:α}(h:l[j]? = some x):l.set j x=l:=by
 apply List.ext_getElem?
 intro i
 rw [List.getElem?_set]
 split
 ·subst j
  rw [← h]
  split
  ·exact h.symm ▸ rfl
  ·rw [List.getElem?_eq_none (by omega)]
 ·rfl
theorem yt {t:T}{j:Nat}{p:List Nat}{u:T}(h:getT t (j::p)=some u):∃ ts x,kids t=some ts/\ts[j]? = some x/\getT x p=some u/\∀ n,setT t (j::p) n=kJ t (ts.set j (setT x p n)):=by
 simp only [getT] at h
 cases e:kids t with
 | none=>rw [e] at h;cases h
 | some ts=>
  simp only [e] at h
  cases e2:ts[j]? with
  | none=>rw [e2] at h;cases h
  | some x=>
   rw [e2] at h
   exact⟨ts,x,rfl,e2,h,fun n=>by simp only [setT,e,e2]⟩
theorem Tr.focus {F H:Hp}(g:Same F H):∀ (q:List Nat) {t:T} {v:V} {A:List Addr} {u:T},Tr W F H t v A->getT t q=some u->∃ w A1 A2 A3,vAt H v q=some w/\A=A1++(A2++A3)/\Tr W F H u w A2 /\
  ∀ {F' H':Hp},Same F F'->Same F' H'->(∀ b∈A1,∀ x,H b=some x->H' b=some x)->(∀ q' r,q=q'++r->vAt H' v q' = vAt H v q') /\
   ((∀ b∈A3,∀ x,H b=some x->H' b=some x)->∀ {u':T} {A':List Addr},Tr W F' H' u' w A'->Tr W F' H' (setT t q u') v (A1++(A'++A3)))
 | [],t,v,A,u,h,e=>by
  cases e
  refine⟨v,[],A,[],rfl,by simp,h,fun g1 g2 _=>⟨fun q' r hq=>?_,fun _ u' A' t'=>?_⟩⟩
  ·have:q' = []:=(List.append_eq_nil_iff.mp hq.symm).1
   subst this;rfl
  ·simpa [setT] using t'
 | j::q,t,v,A,u,h,e=>by
  obtain⟨ts,x,e1,e2,e3,e4⟩:=yt e
  obtain⟨p,vs,o,pre,B,rfl,hp,ho,rfl,hl,put⟩:=h.kids g e1
  obtain⟨w0,B1,B2,B3,i1,rfl,i3,i4⟩:=hl.get e2
  obtain⟨w,A1,A2,A3,f1,rfl,f3,f4⟩:=Tr.focus g q i3 e3
  refine⟨w,pre++(B1++A1),A2,A3++B3,?_,by simp only [List.append_assoc],f3,fun g1 g2 k1=>?_⟩
  ·simp only [vAt,kAt,hp,ho,Option.bind_some,i1];exact f1
  ·obtain⟨hp',put⟩:=put g1 g2 fun b hb=>k1 b (List.mem_append_left _ hb)
   obtain⟨f5,f6⟩:=f4 g1 g2 fun b hb=>k1 b (List.mem_append_right _ (List.mem_append_right _ hb))
   refine⟨fun q' r hq=>?_,fun k3 u' A' t'=>?_⟩
   ·cases q' with
    | nil=>rfl
    | cons j' q'=>
     simp only [List.cons_append,List.cons.injEq] at hq
     obtain⟨rfl,hq⟩:=hq
     simp only [vAt,kAt,hp',hp,ho,Option.bind_some,i1]
     exact f5 q' r hq
   ·rw [e4]
    have tt:=i4 g1 (fun b hb=>k1 b (List.mem_append_right _ (List.mem_append_left _ hb))) (fun b hb=>k3 b (List.mem_append_right _ hb)) (f6 (fun b hb=>k3 b (List.mem_append_left _ hb)) t')
    rw [Zx i1] at tt
    have:=put tt
    simpa only [List.append_assoc] using this
theorem Ws:∀ (q:List Nat) {t u:T} (r:List Nat),getT t (q++r)=some u->∃ x,getT t q=some x/\getT x r=some u
 | [],t,u,r,h=>⟨t,rfl,h⟩
 | j::q,t,u,r,h=>by
  obtain⟨ts,x,e1,e2,e3,_⟩:=yt (p:=q++r) h
  obtain⟨y,h1,h2⟩:=Ws q r e3
  exact⟨y,by simp only [getT,e1,e2];exact h1,h2⟩
theorem Wt:∀ (q:List Nat) {t x:T} (r:List Nat),getT t q=some x->getT t (q++r)=getT x r
 | [],t,x,r,h=>by cases h;rfl
 | j::q,t,x,r,h=>by
  obtain⟨ts,y,e1,e2,e3,_⟩:=yt h
  simp only [List.cons_append,getT,e1,e2]
  exact Wt q r e3
theorem Zy {t:T}{ts ys:List T}(h:kids t=some ts):kids (kJ t ys)=some ys:=by cases t<;>simp only [kids,reduceCtorEq] at h<;>rfl
theorem Wu {t:T}{ys zs:List T}:kJ (kJ t ys) zs=kJ t zs:=by cases t<;>rfl
theorem vF:∀ (q:List Nat) {t u n:T},getT t q=some u->getT (setT t q n) q=some n
 | [],t,u,n,h=>rfl
 | j::q,t,u,n,h=>by
  obtain⟨ts,y,e1,e2,e3,e4⟩:=yt h
  have hj:j<ts.length:=by
   rcases Nat.lt_or_ge j ts.length with z | z
   ·exact z
   ·rw [List.getElem?_eq_none z] at e2;cases e2
  rw [e4]
  simp only [getT,Zy e1,List.getElem?_set_self hj]
  exact vF q e3
theorem QQ:∀ (q:List Nat) {t u n m:T},getT t q=some u->setT (setT t q n) q m=setT t q m
 | [],t,u,n,m,h=>rfl
 | j::q,t,u,n,m,h=>by
  obtain⟨ts,y,e1,e2,e3,e4⟩:=yt h
  have hj:j<ts.length:=by
   rcases Nat.lt_or_ge j ts.length with z | z
   ·exact z
   ·rw [List.getElem?_eq_none z] at e2;cases e2
  rw [e4,e4]
  simp only [setT,Zy e1,List.getElem?_set_self hj,Wu,List.set_set]
  rw [QQ q e3]
theorem zaJ {q r:List Nat}{t u n:T}(h:getT t (q++r)=some u):∃ x,getT (setT t (q++r) n) q=some x:=by
 have:=vF (q++r) (n:=n) h
 obtain⟨x,h1,_⟩:=Ws q r this
 exact⟨x,h1⟩
structure Rep (W:Wd)(F H:Hp)(s:Sl)(σ:L2.St)(A:Nat->List Addr):Prop where
 fh:Same F H
 slot:∀ (i:Nat) (t:T),s[i]? = some (.own t)->∃ v,σ[i]? = some (some v)/\Tr W F H t v (A i)
 al:∀ (j i:Nat) (q:List Nat),s[j]? = some (.al i q)->∃ t u w v,s[i]? = some (.own t)/\getT t q=some u/\σ[i]? = some (some w)/\σ[j]? = some (some v)/\vAt H w q=some v
 emp:∀ i:Nat,(∀ t:T,s[i]?≠some (.own t))->A i=[]
 own:∀ i,∀ a∈A i,F a=none
 dis:∀ i j,∀ a∈A i,a∈A j->i=j
 nd:∀ i,(A i).Nodup
 len:s.length=σ.length
def Ow (A:Nat->List Addr)(b:Addr):Prop:=∃ i,b∈A i
def Tch (A:Nat->List Addr)(tl:List Nat)(b:Addr):Prop:=∃ j∈tl,b∈A j
theorem Rep.cell {F H:Hp}{s:Sl}{σ:L2.St}{A:Nat->List Addr}(R:Rep W F H s σ A){i:Nat}{b:Addr}(h:b∈A i):∃ x,H b=some x:=by
 by_cases e:∃ t,s[i]? = some (.own t)
 ·obtain⟨t,e⟩:=e
  obtain⟨v,_,h1⟩:=R.slot i t e
  exact h1.cell b h
 ·rw [R.emp i fun t z=>e ⟨t,z⟩] at h;cases h
structure Mv (F H:Hp)(s:Sl)(A:Nat->List Addr)(tl:List Nat)(F' H':Hp)(s':Sl)(A':Nat->List Addr):Prop where
 sF:Same F F'
 keep:∀ b o,H b=some o->¬ Tch A tl b->H' b=some o
 dom:∀ b o,H b=some o->∃ o',H' b=some o'
 frz:∀ b o,F' b=some o->(∃ o',F b=some o')\/H b=none\/Tch A tl b
 cells:∀ j b,j∈tl->b∈A' j->H b=none\/Tch A tl b
 slot:∀ j,j∉tl->(∀ t:T,s[j]? = some (.own t)->s'[j]? = some (.own t))/\A' j=A j
theorem Mv.refl {F H:Hp}{s:Sl}{A:Nat->List Addr}{tl:List Nat}:Mv F H s A tl F H s A:=⟨fun _ _ h=>h,fun _ _ h _=>h,fun _ o h=>⟨o,h⟩,fun _ o h=>.inl ⟨o,h⟩,fun j b h k=>.inr ⟨j,h,k⟩,fun _ _=>⟨fun _ h=>h,rfl⟩⟩
theorem Mv.none {F H F' H':Hp}{s s':Sl}{A A':Nat->List Addr}{tl:List Nat}(m:Mv F H s A tl F' H' s' A'){b:Addr}(h:H' b=none):H b=none:=by
 cases q:H b with
 | none=>rfl
 | some o=>obtain⟨o',z⟩:=m.dom b o q;rw [h] at z;cases z
theorem Mv.mono {F H F' H':Hp}{s s':Sl}{A A':Nat->List Addr}{tl tl':List Nat}(m:Mv F H s A tl F' H' s' A')(h:∀ j∈tl,j∈tl'):Mv F H s A tl' F' H' s' A':=by
 have up:∀ {b},Tch A tl b->Tch A tl' b:=fun⟨j,h1,h2⟩=>⟨j,h j h1,h2⟩
 refine⟨m.sF,fun b o e n=>m.keep b o e fun z=>n (up z),m.dom,fun b o e=>?_,fun j b hj hb=>?_,fun j hj=>m.slot j fun z=>hj (h j z)⟩
 ·rcases m.frz b o e with z | z | z
  ·exact .inl z
  ·exact .inr (.inl z)
  ·exact .inr (.inr (up z))
 ·by_cases z:j∈tl
  ·rcases m.cells j b z hb with y | y
   ·exact .inl y
   ·exact .inr (up y)
  ·rw [(m.slot j z).2] at hb
   exact .inr ⟨j,hj,hb⟩
theorem Mv.ta {F H F' H':Hp}{s s':Sl}{A A':Nat->List Addr}{tl:List Nat}(m:Mv F H s A tl F' H' s' A'){b:Addr}(h:Tch A' tl b):H b=Option.none\/Tch A tl b:=by
 obtain⟨j,h1,h2⟩:=h
 exact m.cells j b h1 h2
theorem Mv.trans' {F H F1 H1 F2 H2:Hp}{s s1 s2:Sl}{A A1 A2:Nat->List Addr}{tl:List Nat}(a:Mv F H s A tl F1 H1 s1 A1)(b:Mv F1 H1 s1 A1 tl F2 H2 s2 A2):Mv F H s A tl F2 H2 s2 A2:=by
 refine⟨a.sF.trans b.sF,fun x o h n=>?_,fun x o h=>?_,fun x o h=>?_,fun j x hj h=>?_,fun j hj=>?_⟩
 ·refine b.keep x o (a.keep x o h n) fun z=>?_
  rcases a.ta z with z | z
  ·rw [h] at z;cases z
  ·exact n z
 ·obtain⟨o',h'⟩:=a.dom x o h
  exact b.dom x o' h'
 ·rcases b.frz x o h with⟨o',z⟩ | z | z
  ·exact a.frz x o' z
  ·exact .inr (.inl (a.none z))
  ·rcases a.ta z with z | z
   ·exact .inr (.inl z)
   ·exact .inr (.inr z)
 ·rcases b.cells j x hj h with z | z
  ·exact .inl (a.none z)
  ·exact a.ta z
 ·obtain⟨h1,h2⟩:=a.slot j hj
  obtain⟨h3,h4⟩:=b.slot j hj
  exact⟨fun t z=>h3 t (h1 t z),h4.trans h2⟩
theorem Mv.trans {F H F1 H1 F2 H2:Hp}{s s1 s2:Sl}{A A1 A2:Nat->List Addr}{tl tl':List Nat}(a:Mv F H s A tl F1 H1 s1 A1)(b:Mv F1 H1 s1 A1 tl' F2 H2 s2 A2):Mv F H s A (tl++tl') F2 H2 s2 A2:=
 (a.mono fun _ h=>List.mem_append_left _ h).trans' (b.mono fun _ h=>List.mem_append_right _ h)
structure Vd (A:Nat->List Addr)(F H:Hp)(rl:List Nat)(B:List Addr):Prop where
 fr:∀ b∈B,F b=none
 ob:∀ b∈B,∃ x,H b=some x
 at_:∀ b∈B,¬ Ow A b\/∃ j∈rl,b∈A j
theorem Vd.not {A:Nat->List Addr}{F H:Hp}{rl tl:List Nat}{B:List Addr}(d:Vd A F H rl B)(hd:∀ i j a,a∈A i->a∈A j->i=j)(h:∀ j∈rl,j∉tl):∀ b∈B,¬ Tch A tl b:=by
 rintro b hb ⟨j,h1,h2⟩
 rcases d.at_ b hb with z | ⟨i,z1,z2⟩
 ·exact z ⟨j,h2⟩
 ·have:=hd i j b z2 h2
  subst this
  exact h i z1 h1
theorem Vd.mv {A A':Nat->List Addr}{F H F' H':Hp}{s s':Sl}{rl tl:List Nat}{B:List Addr}(d:Vd A F H rl B)(hd:∀ i j a,a∈A i->a∈A j->i=j)(h:∀ j∈rl,j∉tl)(m:Mv F H s A tl F' H' s' A'):Vd A' F' H' rl B:=by
 have nt:=d.not hd h
 refine⟨fun b hb=>?_,fun b hb=>?_,fun b hb=>?_⟩
 ·cases q:F' b with
  | none=>rfl
  | some o=>
   obtain⟨x,hx⟩:=d.ob b hb
   rcases m.frz b o q with⟨o',z⟩ | z | z
   ·rw [d.fr b hb] at z;cases z
   ·rw [hx] at z;cases z
   ·exact absurd z (nt b hb)
 ·obtain⟨x,hx⟩:=d.ob b hb
  exact m.dom b x hx
 ·rcases d.at_ b hb with z | ⟨i,z1,z2⟩
  ·refine .inl fun⟨j,y⟩=>?_
   by_cases hj:j∈tl
   ·rcases m.cells j b hj y with w | w
    ·obtain⟨x,hx⟩:=d.ob b hb
     rw [hx] at w;cases w
    ·exact nt b hb w
   ·rw [(m.slot j hj).2] at y
    exact z ⟨j,y⟩
  ·exact .inr ⟨i,z1,by rw [(m.slot i (h i z1)).2];exact z2⟩
theorem Vd.tr {A A':Nat->List Addr}{F H F' H':Hp}{s s':Sl}{rl tl:List Nat}{B:List Addr}{t:T}{v:V}(d:Vd A F H rl B)(hd:∀ i j a,a∈A i->a∈A j->i=j)(h:∀ j∈rl,j∉tl)(m:Mv F H s A tl F' H' s' A')(x:Tr W F H t v B):Tr W F' H' t v B:=
 x.frame m.sF fun b hb o ho=>m.keep b o ho (d.not hd h b hb)
theorem Vd.trL {A A':Nat->List Addr}{F H F' H':Hp}{s s':Sl}{rl tl:List Nat}{B:List Addr}{t:List T}{v:List V}(d:Vd A F H rl B)(hd:∀ i j a,a∈A i->a∈A j->i=j)(h:∀ j∈rl,j∉tl)(m:Mv F H s A tl F' H' s' A')(x:TrL W F H t v B):TrL W F' H' t v B:=
 x.frame m.sF fun b hb o ho=>m.keep b o ho (d.not hd h b hb)
theorem Vd.nil {A:Nat->List Addr}{F H:Hp}{rl:List Nat}:Vd A F H rl []:=⟨(fun _ h=>by cases h),(fun _ h=>by cases h),(fun _ h=>by cases h)⟩
theorem Vd.app {A:Nat->List Addr}{F H:Hp}{rl rl':List Nat}{B C:List Addr}(h:Vd A F H rl B)(k:Vd A F H rl' C):Vd A F H (rl++rl') (B++C):=
 ⟨fun b hb=>(List.mem_append.mp hb).elim (h.fr b) (k.fr b),fun b hb=>(List.mem_append.mp hb).elim (h.ob b) (k.ob b),fun b hb=>(List.mem_append.mp hb).elim (fun z=>(h.at_ b z).imp id fun⟨j,h1,h2⟩=>⟨j,List.mem_append_left _ h1,h2⟩) fun z=>(k.at_ b z).imp id fun⟨j,h1,h2⟩=>⟨j,List.mem_append_right _ h1,h2⟩⟩
theorem Vd.imp {A:Nat->List Addr}{F H:Hp}{rl rl':List Nat}{B:List Addr}(h:Vd A F H rl B)(k:∀ j∈rl,j∈rl'):Vd A F H rl' B:=⟨h.fr,h.ob,fun b hb=>(h.at_ b hb).imp id fun⟨j,h1,h2⟩=>⟨j,k j h1,h2⟩⟩
theorem Vd.sub {A:Nat->List Addr}{F H:Hp}{rl:List Nat}{B C:List Addr}(h:Vd A F H rl B)(k:∀ b∈C,b∈B):Vd A F H rl C:=⟨fun b hb=>h.fr b (k b hb),fun b hb=>h.ob b (k b hb),fun b hb=>h.at_ b (k b hb)⟩
structure Al (F H F' H':Hp)(B:List Addr):Prop where
 sF:Same F F'
 sH:Same H H'
 fh:Same F' H'
 frz:∀ b o,F' b=some o->(∃ o',F b=some o')\/H b=none
 nB:∀ b∈B,H b=none/\F' b=none/\∃ x,H' b=some x
 nd:B.Nodup
theorem Al.refl {F H:Hp}(g:Same F H):Al F H F H []:=⟨fun _ _ h=>h,fun _ _ h=>h,g,fun _ o h=>.inl ⟨o,h⟩,(fun _ h=>by cases h),.nil⟩
theorem Wv {H H':Hp}(g:Same H H'):∀ (q:List Nat) {v w:V},vAt H v q=some w->vAt H' v q=some w
 | [],_,_,h=>h
 | j::q,v,w,h=>by
  simp only [vAt] at h ⊢
  have:∀ u,kAt H v j=some u->kAt H' v j=some u:=fun u e=>by
   cases v with
   | ref p=>
    simp only [kAt] at e ⊢
    cases y:H p with
    | none=>rw [y] at e;cases e
    | some o=>rw [g _ _ y];rw [y] at e;exact e
   | _=>cases e
  cases e:kAt H v j with
  | none=>rw [e] at h;cases h
  | some u=>
   rw [this u e]
   rw [e] at h
   exact Wv g q h
theorem Al.rep {F H F' H':Hp}{B:List Addr}{s:Sl}{σ:L2.St}{A:Nat->List Addr}(a:Al F H F' H' B)(R:Rep W F H s σ A):Rep W F' H' s σ A:=by
 refine⟨a.fh,fun i t h=>?_,fun j i q h=>?_,R.emp,fun i b hb=>?_,R.dis,R.nd,R.len⟩
 ·obtain⟨v,h1,h2⟩:=R.slot i t h
  exact⟨v,h1,h2.frame a.sF fun b _ x hx=>a.sH _ _ hx⟩
 ·obtain⟨t,u,w,v,h1,h2,h3,h4,h5⟩:=R.al j i q h
  exact⟨t,u,w,v,h1,h2,h3,h4,Wv a.sH q h5⟩
 ·cases q:F' b with
  | none=>rfl
  | some o=>
   rcases a.frz b o q with⟨o',z⟩ | z
   ·rw [R.own i b hb] at z;cases z
   ·obtain⟨x,h2⟩:=R.cell hb
    rw [h2] at z;cases z
theorem Al.mv {F H F' H':Hp}{B:List Addr}{s:Sl}{A:Nat->List Addr}{tl:List Nat}(a:Al F H F' H' B):Mv F H s A tl F' H' s A:=
 ⟨a.sF,fun b o h _=>a.sH _ _ h,fun b o h=>⟨o,a.sH _ _ h⟩,fun b o h=>(a.frz b o h).imp id .inl,fun j b h k=>.inr ⟨j,h,k⟩,fun _ _=>⟨fun _ h=>h,rfl⟩⟩
theorem Al.vd {F H F' H':Hp}{B:List Addr}{s:Sl}{σ:L2.St}{A:Nat->List Addr}(a:Al F H F' H' B)(R:Rep W F H s σ A):Vd A F' H' [] B:=by
 refine⟨fun b hb=>(a.nB b hb).2.1,fun b hb=>(a.nB b hb).2.2,fun b hb=>.inl fun⟨i,z⟩=>?_⟩
 obtain⟨x,h⟩:=R.cell z
 rw [(a.nB b hb).1] at h;cases h
theorem Zz {F H:Hp}(g:Same F H){p:Addr}(hp:H p=none):F p=none:=by
 cases q:F p with
 | none=>rfl
 | some u=>rw [g _ _ q] at hp;cases hp
theorem Al.cell {F H:Hp}{p:Addr}{o:HO}(g:Same F H)(hp:H p=none):Al F H F (upd H p o) [p]:=by
 have sH:Same H (upd H p o):=Zl hp
 exact⟨fun _ _ h=>h,sH,fun b u h=>sH _ _ (g _ _ h),fun b u h=>.inl ⟨u,h⟩,fun b hb=>by rw [List.mem_singleton.mp hb];exact⟨hp,Zz g hp,_,zF⟩,List.pairwise_singleton _ _⟩
theorem Al.froz {F H:Hp}{p:Addr}{o:HO}(g:Same F H)(hp:H p=none):Al F H (upd F p o) (upd H p o) []:=by
 refine⟨Zl (Zz g hp),Zl hp,fun b u h=>?_,fun b u h=>?_,(fun _ h=>by cases h),.nil⟩
 ·unfold upd at h ⊢
  split
  ·rw [if_pos (by assumption)] at h;exact h
  ·rw [if_neg (by assumption)] at h;exact g _ _ h
 ·by_cases e:b=p
  ·subst e;exact .inr hp
  ·rw [zA e] at h;exact .inl ⟨u,h⟩
end L4
namespace L4
open PySem L2 PySem.Spec PyProof.Rows
variable {W:Wd} {F H:Hp} {s:Sl} {σ:L2.St} {A:Nat->List Addr}
noncomputable def setA (A:Nat->List Addr)(i:Nat)(B:List Addr):Nat->List Addr:=fun j=>if j=i then B else A j
theorem zH {i:Nat}{B:List Addr}:setA A i B i=B:=if_pos rfl
theorem zC {i j:Nat}{B:List Addr}(h:j≠i):setA A i B j=A j:=if_neg h
theorem vG {i:Nat}{B:List Addr}{b:Addr}(h:Ow (setA A i B) b):b∈B\/∃ j,j≠i/\b∈A j:=by
 obtain⟨j,h⟩:=h
 by_cases e:j=i
 ·subst e;rw [zH] at h;exact .inl h
 ·rw [zC e] at h;exact .inr ⟨j,e,h⟩
theorem Y6 {i:Nat}{x:Slot}{t:T}:x.killR i=.own t↔x=.own t:=by
 cases x<;>simp only [Slot.killR,Slot.own.injEq,reduceCtorEq]
 split<;>simp
theorem zaK {i:Nat}{p:List Nat}{x:Slot}{t:T}:x.kill i p=.own t↔x=.own t:=by
 cases x<;>simp only [Slot.kill,Slot.own.injEq,reduceCtorEq]
 split<;>simp
theorem zaL {i k:Nat}{x:Slot}{q:List Nat}(h:x.killR i=.al k q):x=.al k q/\k≠i:=by
 cases x<;>simp only [Slot.killR,reduceCtorEq] at h
 split at h
 ·cases h
 ·cases h;exact⟨rfl,by assumption⟩
theorem zcF {i k:Nat}{p:List Nat}{x:Slot}{q:List Nat}(h:x.kill i p=.al k q):x=.al k q/\(k=i->∃ r,p=q++r):=by
 cases x<;>simp only [Slot.kill,reduceCtorEq] at h
 split at h
 ·cases h
 ·rename_i n
  cases h
  refine⟨rfl,fun e=>?_⟩
  have:q.isPrefixOf p=true:=by
   cases z:q.isPrefixOf p with
   | true=>rfl
   | false=>exact absurd ⟨e,z⟩ n
  obtain⟨r,hr⟩:=List.isPrefixOf_iff_prefix.mp this
  exact⟨r,hr.symm⟩
theorem xO {i:Nat}{x:Slot}:(setS s i x).length=s.length:=by simp [setS]
theorem qY {i:Nat}{x:Slot}(h:i<s.length):(setS s i x)[i]? = some x:=by
 unfold setS;rw [List.getElem?_set_self];simpa using h
theorem jN {i j:Nat}{x:Slot}(h:j≠i):(setS s i x)[j]? = (s[j]?).map (Slot.killR i):=by
 unfold setS;rw [List.getElem?_set_ne (Ne.symm h),List.getElem?_map]
theorem jY {i j:Nat}{x:Slot}{t:T}(h:j≠i):(setS s i x)[j]? = some (.own t)↔s[j]? = some (.own t):=by
 rw [jN h]
 cases s[j]? with
 | none=>simp
 | some y=>simp only [Option.map_some,Option.some.injEq];exact Y6
theorem zcG {i j k:Nat}{x:Slot}{q:List Nat}(h:j≠i)(e:(setS s i x)[j]? = some (.al k q)):s[j]? = some (.al k q)/\k≠i:=by
 rw [jN h] at e
 cases y:s[j]? with
 | none=>rw [y] at e;cases e
 | some z=>
  rw [y] at e
  simp only [Option.map_some,Option.some.injEq] at e
  obtain⟨rfl,h2⟩:=zaL e
  exact⟨rfl,h2⟩
theorem ZA {i:Nat}{x:Slot}(h:s[i]? = some x):i<s.length:=by
 rcases Nat.lt_or_ge i s.length with z | z
 ·exact z
 ·rw [List.getElem?_eq_none z] at h;cases h
theorem Rep.setX (R:Rep W F H s σ A){i:Nat}(hi:i<s.length){x:Slot}{v:Option V}{B:List Addr}(hx:(x=.no/\B=[])\/∃ t u,x=.own t/\v=some u/\Tr W F H t u B)(fr:∀ b∈B,F b=none)(nB:∀ b∈B,∀ j,j≠i->b∉A j)(nd:B.Nodup):Rep W F H (setS s i x) (σ.set i v) (setA A i B):=by
 have hs:i<σ.length:=by rw [← R.len];exact hi
 refine⟨R.fh,fun j t h=>?_,fun j k q h=>?_,fun j h=>?_,fun j b hb=>?_,fun j k b hb hc=>?_,fun j=>?_,by rw [xO,List.length_set,R.len]⟩
 ·by_cases e:j=i
  ·subst e
   rw [qY hi] at h
   cases h
   rcases hx with⟨z,_⟩ | ⟨t',u,z,rfl,h1⟩
   ·cases z
   ·cases z
    exact⟨u,by rw [List.getElem?_set_self hs],by rw [zH];exact h1⟩
  ·obtain⟨u,h1,h2⟩:=R.slot j t ((jY e).mp h)
   exact⟨u,by rw [List.getElem?_set_ne (Ne.symm e)];exact h1,by rw [zC e];exact h2⟩
 ·by_cases e:j=i
  ·subst e
   rw [qY hi] at h
   cases h
   rcases hx with⟨z,_⟩ | ⟨t',u,z,_,h1⟩<;>cases z
  ·obtain⟨h1,h2⟩:=zcG e h
   obtain⟨t,u,w,v',e1,e2,e3,e4,e5⟩:=R.al j k q h1
   exact⟨t,u,w,v',(jY h2).mpr e1,e2,by rw [List.getElem?_set_ne (Ne.symm h2)];exact e3,by rw [List.getElem?_set_ne (Ne.symm e)];exact e4,e5⟩
 ·by_cases e:j=i
  ·subst e
   rw [zH]
   rcases hx with⟨_,z⟩ | ⟨t',u,rfl,_,_⟩
   ·exact z
   ·exact absurd (qY hi) (h t')
  ·rw [zC e]
   exact R.emp j fun t z=>h t ((jY e).mpr z)
 ·by_cases e:j=i
  ·subst e;rw [zH] at hb;exact fr b hb
  ·rw [zC e] at hb;exact R.own j b hb
 ·by_cases e:j=i
  ·by_cases e2:k=i
   ·rw [e,e2]
   ·subst e;rw [zH] at hb;rw [zC e2] at hc;exact absurd hc (nB b hb k e2)
  ·by_cases e2:k=i
   ·subst e2;rw [zH] at hc;rw [zC e] at hb;exact absurd hb (nB b hc j e)
   ·rw [zC e] at hb;rw [zC e2] at hc;exact R.dis j k b hb hc
 ·by_cases e:j=i
  ·subst e;rw [zH];exact nd
  ·rw [zC e];exact R.nd j
theorem Rep.set (R:Rep W F H s σ A){i:Nat}(hi:i<s.length){t:T}{v:V}{B:List Addr}(h:Tr W F H t v B)(d:Vd A F H [] B)(nd:B.Nodup):Rep W F H (setS s i (.own t)) (σ.set i (some v)) (setA A i B):=
 R.setX hi (.inr ⟨t,v,rfl,rfl,h⟩) d.fr (fun b hb j _ z=>(d.at_ b hb).elim (fun n=>n ⟨j,z⟩) fun⟨_,n,_⟩=>by cases n) nd
theorem Rep.del (R:Rep W F H s σ A){i:Nat}{t:T}(h:s[i]? = some (.own t)):∃ v,σ[i]? = some (some v)/\Tr W F H t v (A i)/\Rep W F H (setS s i .no) σ (setA A i [])/\Vd (setA A i []) F H [] (A i):=by
 obtain⟨v,h1,h2⟩:=R.slot i t h
 have R':=R.setX (ZA h) (x:=.no) (v:=some v) (B:=[]) (.inl ⟨rfl,rfl⟩) (fun _ z=>by cases z) (fun _ z=>by cases z) .nil
 rw [Zx h1] at R'
 refine⟨v,h1,h2,R',R.own i,fun b hb=>h2.cell b hb,fun b hb=>.inl fun z=>?_⟩
 rcases vG z with z | ⟨j,z1,z2⟩
 ·cases z
 ·exact z1 (R.dis j i b z2 hb)
theorem Rep.adds (R:Rep W F H s σ A){B:List Addr}(d:Vd A F H [] B):Rep W (adds F H B) H s σ A:=by
 have g:=jk (H:=H) d.fr
 refine⟨VT R.fh,fun i t h=>?_,R.al,R.emp,fun i b hb=>?_,R.dis,R.nd,R.len⟩
 ·obtain⟨v,h1,h2⟩:=R.slot i t h
  exact⟨v,h1,h2.frame g fun _ _ _ e=>e⟩
 ·unfold L4.adds
  rw [if_neg fun z=>?_]
  ·exact R.own i b hb
  ·exact(d.at_ b z).elim (fun n=>n ⟨i,hb⟩) fun⟨_,n,_⟩=>by cases n
theorem Vd.frozen {B:List Addr}{t:T}{v:V}(d:Vd A F H [] B)(h:Tr W F H t v B):IsV W (L4.adds F H B) t v:=h.isv (jk d.fr) Jj
theorem Rep.frz (R:Rep W F H s σ A){i:Nat}{t:T}(h:s[i]? = some (.own t)):∃ v,σ[i]? = some (some v)/\IsV W (L4.adds F H (A i)) t v/\Rep W (L4.adds F H (A i)) H (setS s i (.own (fzn t))) σ (setA A i []):=by
 obtain⟨v,h1,h2,R1,d⟩:=R.del h
 have iv:=d.frozen h2
 have R2:=(R1.adds d).set (i:=i) (by rw [xO];exact ZA h) (Ji iv) Vd.nil .nil
 rw [Zx h1] at R2
 have e1:setS (setS s i .no) i (.own (fzn t))=setS s i (.own (fzn t)):=by
  apply List.ext_getElem?
  intro j
  by_cases e:j=i
  ·subst e;rw [qY (by rw [xO];exact ZA h),qY (ZA h)]
  ·rw [jN e,jN e,jN e,Option.map_map]
   congr 1
   funext y
   cases y with
   | al k q=>by_cases z:k=i<;>simp [Function.comp,Slot.killR,z]
   | _=>rfl
 have e2:setA (setA A i []) i []=setA A i []:=by funext j;by_cases e:j=i<;>simp [setA,e]
 rw [e1,e2] at R2
 exact⟨v,h1,iv,R2⟩
theorem Rep.ext {F' H':Hp}(R:Rep W F H s σ A)(sF:Same F F')(fh:Same F' H')(keep:∀ b,Ow A b->∀ x,H b=some x->H' b=some x)(fr:∀ b,Ow A b->F' b=none):Rep W F' H' s σ A:=by
 refine⟨fh,fun i t h=>?_,fun j i q h=>?_,R.emp,fun i b hb=>fr b ⟨i,hb⟩,R.dis,R.nd,R.len⟩
 ·obtain⟨v,h1,h2⟩:=R.slot i t h
  exact⟨v,h1,h2.frame sF fun b hb=>keep b ⟨i,hb⟩⟩
 ·obtain⟨t,u,w,v,h1,h2,h3,h4,h5⟩:=R.al j i q h
  obtain⟨v',k1,k2⟩:=R.slot i t h1
  rw [h3] at k1
  cases k1
  obtain⟨w',A1,A2,A3,f1,f2,f3,f4⟩:=k2.focus R.fh q h2
  have:=(f4 sF fh fun b hb=>keep b ⟨i,by rw [f2];exact List.mem_append_left _ hb⟩).1 q [] (by simp)
  exact⟨t,u,w,v,h1,h2,h3,h4,by rw [this];exact h5⟩
theorem qr {i:Nat}{p:List Nat}{r t:T}(h:s[i]? = some (.own r)):(putS s i p t)[i]? = some (.own (setT r p t)):=by
 unfold putS
 rw [h]
 dsimp only
 rw [List.getElem?_set_self (by rw [List.length_map];exact ZA h)]
theorem qZ {i j:Nat}{p:List Nat}{r t:T}(h:s[i]? = some (.own r))(n:j≠i):(putS s i p t)[j]? = (s[j]?).map (Slot.kill i p):=by
 unfold putS
 rw [h]
 dsimp only
 rw [List.getElem?_set_ne (Ne.symm n),List.getElem?_map]
theorem zaM {i:Nat}{p:List Nat}{t:T}:(putS s i p t).length=s.length:=by
 unfold putS
 split<;>simp
theorem qk {i j:Nat}{p:List Nat}{r t u:T}(h:s[i]? = some (.own r))(n:j≠i):(putS s i p t)[j]? = some (.own u)↔s[j]? = some (.own u):=by
 rw [qZ h n]
 cases s[j]? with
 | none=>simp
 | some y=>simp only [Option.map_some,Option.some.injEq];exact zaK
theorem Rep.put (R:Rep W F H s σ A){i:Nat}{p:List Nat}{r u t:T}(hs:s[i]? = some (.own r))(hg:getT r p=some u){w:V}{C:List Addr}(hw:σ[i]? = some (some w))(ht:Tr W F H (setT r p t) w C)(fr:∀ b∈C,F b=none)(nC:∀ b∈C,∀ j,j≠i->b∉A j)(nd:C.Nodup):Rep W F H (putS s i p t) σ (setA A i C):=by
 refine⟨R.fh,fun j x h=>?_,fun j k q h=>?_,fun j h=>?_,fun j b hb=>?_,fun j k b hb hc=>?_,fun j=>?_,by rw [zaM,R.len]⟩
 ·by_cases e:j=i
  ·subst e
   rw [qr hs] at h
   cases h
   exact⟨w,hw,by rw [zH];exact ht⟩
  ·obtain⟨v,h1,h2⟩:=R.slot j x ((qk hs e).mp h)
   exact⟨v,h1,by rw [zC e];exact h2⟩
 ·by_cases e:j=i
  ·subst e;rw [qr hs] at h;cases h
  ·rw [qZ hs e] at h
   cases y:s[j]? with
   | none=>rw [y] at h;cases h
   | some z=>
    rw [y] at h
    simp only [Option.map_some,Option.some.injEq] at h
    obtain⟨rfl,h2⟩:=zcF h
    obtain⟨t',u',w',v',e1,e2,e3,e4,e5⟩:=R.al j k q y
    by_cases ek:k=i
    ·subst ek
     rw [hs] at e1
     cases e1
     obtain⟨r',rfl⟩:=h2 rfl
     obtain⟨x,hx⟩:=zaJ (n:=t) hg
     exact⟨_,x,w',v',qr hs,hx,e3,e4,e5⟩
    ·exact⟨t',u',w',v',(qk hs ek).mpr e1,e2,e3,e4,e5⟩
 ·by_cases e:j=i
  ·subst e;exact absurd (qr hs) (h _)
  ·rw [zC e];exact R.emp j fun x z=>h x ((qk hs e).mpr z)
 ·by_cases e:j=i
  ·subst e;rw [zH] at hb;exact fr b hb
  ·rw [zC e] at hb;exact R.own j b hb
 ·by_cases e:j=i
  ·by_cases e2:k=i
   ·rw [e,e2]
   ·subst e;rw [zH] at hb;rw [zC e2] at hc;exact absurd hc (nC b hb k e2)
  ·by_cases e2:k=i
   ·subst e2;rw [zH] at hc;rw [zC e] at hb;exact absurd hb (nC b hc j e)
   ·rw [zC e] at hb;rw [zC e2] at hc;exact R.dis j k b hb hc
 ·by_cases e:j=i
  ·subst e;rw [zH];exact nd
  ·rw [zC e];exact R.nd j
theorem zU {α:Type}{a b:List α}(h1:a.Nodup)(h2:b.Nodup)(h:∀ x∈a,x∉b):(a++b).Nodup:=List.nodup_append.mpr ⟨h1,h2,fun x hx y hy e=>h x hx (e ▸ hy)⟩
theorem Rep.detach (R:Rep W F H s σ A){i:Nat}{p:List Nat}{r u:T}(hs:s[i]? = some (.own r))(hg:getT r p=some u):∃ w v A1 A2,σ[i]? = some (some w)/\vAt H w p=some v/\(∀ b,b∈A i↔b∈A1\/b∈A2)/\Tr W F H u v A2/\A2.Nodup/\Vd (setA A i A1) F H [] A2/\Rep W F H (putS s i p (.hol v)) σ (setA A i A1):=by
 obtain⟨w,hw,h⟩:=R.slot i r hs
 obtain⟨v,A1,A2,A3,f1,f2,f3,f4⟩:=h.focus R.fh p hg
 have nd:=R.nd i
 rw [f2,List.nodup_append] at nd
 obtain⟨n1,n2,n3⟩:=nd
 rw [List.nodup_append] at n2
 obtain⟨n4,n5,n6⟩:=n2
 have nd':(A1++A3).Nodup:=List.nodup_append.mpr ⟨n1,n5,fun a ha b hb=>n3 a ha b (List.mem_append_right _ hb)⟩
 have up:∀ b,b∈A1++A3->b∈A i:=fun b hb=>by
  rw [f2]
  rcases List.mem_append.mp hb with z | z
  ·exact List.mem_append_left _ z
  ·exact List.mem_append_right _ (List.mem_append_right _ z)
 have tr:Tr W F H (setT r p (.hol v)) w (A1++A3):=by
  have:=(f4 (F':=F) (H':=H) (fun _ _ h=>h) R.fh fun _ _ _ h=>h).2 (fun _ _ _ h=>h) (u':=.hol v) (A':=[]) ⟨rfl,rfl⟩
  simpa using this
 have in2:∀ b∈A2,b∈A i:=fun b hb=>by rw [f2];exact List.mem_append_right _ (List.mem_append_left _ hb)
 refine⟨w,v,A1++A3,A2,hw,f1,fun b=>?_,f3,n4,⟨fun b hb=>R.own i b (in2 b hb),fun b hb=>f3.cell b hb,fun b hb=>.inl fun z=>?_⟩,R.put hs hg hw tr (fun b hb=>R.own i b (up b hb)) (fun b hb j e z=>e (R.dis j i b z (up b hb))) nd'⟩
 ·rw [f2];simp only [List.mem_append]
  constructor
  ·rintro(z | z | z)
   ·exact .inl (.inl z)
   ·exact .inr z
   ·exact .inl (.inr z)
  ·rintro((z | z) | z)
   ·exact .inl z
   ·exact .inr (.inr z)
   ·exact .inr (.inl z)
 ·rcases vG z with z | ⟨j,z1,z2⟩
  ·rcases List.mem_append.mp z with z | z
   ·exact n3 b z b (List.mem_append_left _ hb) rfl
   ·exact n6 b hb b z rfl
  ·exact z1 (R.dis j i b z2 (in2 b hb))
theorem Rep.attach (R:Rep W F H s σ A){i:Nat}{p:List Nat}{r u:T}{v:V}{B:List Addr}(hs:s[i]? = some (.own r))(hg:getT r p=some (.hol v))(t:Tr W F H u v B)(d:Vd A F H [] B)(nd:B.Nodup):∃ C,Rep W F H (putS s i p u) σ (setA A i C)/\∀ b,b∈C↔b∈A i\/b∈B:=by
 obtain⟨w,hw,h⟩:=R.slot i r hs
 obtain⟨v',A1,A2,A3,f1,f2,f3,f4⟩:=h.focus R.fh p hg
 obtain⟨rfl,rfl⟩:=f3
 have nB:∀ b∈B,∀ j,b∉A j:=fun b hb j z=>(d.at_ b hb).elim (fun n=>n ⟨j,z⟩) fun⟨_,n,_⟩=>by cases n
 have ni:=R.nd i
 rw [f2,List.nil_append,List.nodup_append] at ni
 obtain⟨n1,n2,n3⟩:=ni
 have tr:=(f4 (F':=F) (H':=H) (fun _ _ h=>h) R.fh fun _ _ _ h=>h).2 (fun _ _ _ h=>h) t
 have mem:∀ b,b∈A1++(B++A3)↔b∈A i\/b∈B:=fun b=>by
  rw [f2,List.nil_append];simp only [List.mem_append]
  constructor
  ·rintro(z | z | z)
   ·exact .inl (.inl z)
   ·exact .inr z
   ·exact .inl (.inr z)
  ·rintro((z | z) | z)
   ·exact .inl z
   ·exact .inr (.inr z)
   ·exact .inr (.inl z)
 refine⟨_,R.put hs hg hw tr (fun b hb=>?_) (fun b hb j e z=>?_) ?_,mem⟩
 ·rcases(mem b).mp hb with z | z
  ·exact R.own i b z
  ·exact d.fr b z
 ·rcases(mem b).mp hb with y | y
  ·exact e (R.dis j i b z y)
  ·exact nB b y j z
 ·refine zU n1 (zU nd n2 fun x hx hy=>?_) fun x hx hy=>?_
  ·exact nB x hx i (by rw [f2];exact List.mem_append_right _ hy)
  ·rcases List.mem_append.mp hy with z | z
   ·exact nB x z i (by rw [f2];exact List.mem_append_left _ hx)
   ·exact n3 x hx x z rfl
end L4
namespace L4
open PySem L2 PySem.Spec PyProof.Rows
inductive IK where
 | seq | rng | enumL | enumS | zip | rvdL | rvdT
 deriving DecidableEq
inductive BI where
 | len | int | str | list | tuple | all | max | min
 deriving DecidableEq
inductive TyK where
 | str | int | bool | list | tuple | dict
 deriving DecidableEq
inductive ME where
 | join | index | startswith | zfill | get2
 deriving DecidableEq
inductive Xp where
 | b (i:Nat)
 | a (j i:Nat)
 | v (i:Nat)
 | m (i:Nat)
 | c (t:T)
 | g (x:Str) (t:T)
 | frz (e:Xp)
 | bin (op:BO) (a b:Xp)
 | neg (a:Xp)
 | cmp (op:CO) (a b:Xp)
 | chn (o1 o2:CO) (a b c:Xp)
 | bo (k:Bool) (es:List Xp)
 | t (a:Xp)
 | tn (a:Xp)
 | tb (k:Bool) (es:List Xp)
 | ife (t a b:Xp)
 | lst (es:List Xp)
 | tup (es:List Xp)
 | ix (a k:Xp)
 | sl (a:Xp) (lo hi:List Xp)
 | call (x:Str) (ms:List Md) (ln:Bool) (f:Fn) (es:List Xp)
 | bi (b:BI) (es:List Xp)
 | isi (a:Xp) (ks:List TyK)
 | me (m:ME) (o:Xp) (es:List Xp)
 | mu (m:MU) (p:Xp) (es:List Xp)
 | lc (elt:Xp) (n:Nat) (k:IK) (its ifs:List Xp)
inductive Tg where
 | v (i:Nat)
 | tup (is:List Nat)
 | sub (p k:Xp)
 | al (j:Nat)
inductive Cm where
 | ret (e:Xp)
 | asg (t:Tg) (e:Xp)
 | ife (t:Xp) (a b:List Cm)
 | loop (t:Tg) (k:IK) (its:List Xp) (b:List Cm)
 | loopA (j:Nat) (h:Option Nat) (i:Nat) (b:List Cm)
 | ex (e:Xp)
 | pass
structure Ends where
 nx:Sl->Prop
 rt:T->Sl->Prop
 bk:Sl->Prop
 ct:Sl->Prop
 ex:XP
mutual
noncomputable def root:Xp->List Nat
 | .b i=>[i]
 | .a j i=>[i,j]
 | .ix a _=>root a
 | .ife _ a b=>root a++root b
 | _=>[]
noncomputable def zB:Xp->List Nat
 | .b _=>[]
 | .a _ _=>[]
 | .v i=>[i]
 | .m i=>[i]
 | .c _=>[]
 | .g _ _=>[]
 | .frz e=>zB e
 | .bin _ a b=>zB a++zB b
 | .neg a=>zB a
 | .cmp _ a b=>zB a++zB b
 | .chn _ _ a b c=>zB a++(zB b++zB c)
 | .bo _ es=>zz es
 | .t a=>zB a
 | .tn a=>zB a
 | .tb _ es=>zz es
 | .ife t a b=>zB t++(zB a++zB b)
 | .lst es=>zz es
 | .tup es=>zz es
 | .ix a k=>zB a++zB k
 | .sl a lo hi=>zB a++(zz lo++zz hi)
 | .call _ ms _ _ es=>qN ms es
 | .bi _ es=>zz es
 | .isi a _=>zB a
 | .me _ o es=>zB o++zz es
 | .mu _ p es=>root p++(zB p++zz es)
 | .lc elt n _ its ifs=>zz its++((zB elt++zz ifs).filterMap fun i=>if i<n then none else some (i - n))
noncomputable def zz:List Xp->List Nat
 | []=>[]
 | e::es=>zB e++zz es
noncomputable def qN:List Md->List Xp->List Nat
 | _,[]=>[]
 | .mu::ms,e::es=>root e++(zB e++qN ms es)
 | _::ms,e::es=>zB e++qN ms es
 | [],e::es=>zB e++qN [] es
end
noncomputable def biO (b:BI)(ts:List T):Option T:=
 match ts with
 | [x]=>match b with
  | .len=>orE ((strO x).map fun t=>.int t.length) ((seqV x).map fun xs=>.int xs.length)
  | .int=>orE ((blO x).map fun b=>.int (if b then 1 else 0)) (orE ((intO x).map .int) ((strO x).bind fun t=>match t with
   | [c,d]=>if yn c=true/\yn d=true then some (.int (((c - 48) * 10+(d - 48):Nat):Int)) else none
   | _=>none))
  | .str=>(intO x).bind fun i=>if 0<=i/\i<100 then some (.str (dg i.toNat)) else none
  | .list=>orE ((shO (seqV x)).map .ls) ((strO x).bind fun t=>if t.length<=1000000 then some (.ls (t.map fun c=>.str [c])) else none)
  | .tuple=>(shO (orE (lsK x) (tpV x))).map .tp
  | .all=>(lsV x).bind fun xs=>(bls xs).map fun bs=>.bl (bs.all id)
  | _=>none
 | [x,y]=>match b with
  | .max=>two (intO x) (intO y) fun i j=>some (.int (if j > i then j else i))
  | .min=>two (intO x) (intO y) fun i j=>some (.int (if j<i then j else i))
  | _=>none
 | _=>none
where bls:List T->Option (List Bool)
 | []=>some []
 | d::ds=>two (blO d) (bls ds) fun x xs=>some (x::xs)
noncomputable def undg (l:List Nat):Option Nat:=(List.range 100).find? fun n=>dg n == l
noncomputable def txts:List T->Option (List (List Nat))
 | []=>some []
 | d::ds=>two (strO d) (txts ds) fun x xs=>some (x::xs)
noncomputable def meO (m:ME)(x:T)(ts:List T):Option T:=
 match m,ts with
 | .join,[y]=>two (strO x) ((lsV y).bind txts) fun a ts=>if a=[]/\ts.flatten.length<=16777216 then some (.str ts.flatten) else none
 | .index,[y]=>two (strO x) (strO y) fun l y=>(occs l y).head?.map fun i=>.int (i:Int)
 | .startswith,[y]=>two (strO x) (strO y) fun l y=>some (.bl (y.isPrefixOf l))
 | .zfill,[y]=>two (strO x) (intO y) fun l n=>if n=2 then(undg l).map fun n=>.str (dg2 n) else none
 | .get2,[y,z]=>two (dcV x) (keyT y) fun d k=>if shr ((dget d.1 d.2 k).getD z)=true then some ((dget d.1 d.2 k).getD z) else none
 | _,_=>none
noncomputable def meK (m:ME)(x:T):Bool:=match m with
 | .get2=>(dcV x).isSome
 | _=>(strO x).isSome
noncomputable def isLs:T->Bool
 | .ls _=>true
 | _=>false
noncomputable def ckT:Option (Nat×Str)->T->Prop
 | none,_=>True
 | some cx,t=>∃ o,obV t=some o/\o.1=cx.1/\cx.2∉o.2.1
noncomputable def tyOf:T->Option TyK
 | .bl _=>some .bool
 | .int _=>some .int
 | .str _=>some .str
 | .tp _=>some .tuple
 | .ls _=>some .list
 | .fz t=>tyOf t
 | _=>none
noncomputable def isiO (x:T)(ks:List TyK):Option Bool:=
 match tyOf x with
 | some .bool=>some (ks.contains .bool||ks.contains .int)
 | some k=>some (ks.contains k)
 | none=>match x with
  | .non=>some false
  | _=>none
@[irreducible] noncomputable def rngT:List T->Option (List T)
 | [.int j]=>if -(2 ^ 62)<=j/\j<2 ^ 62 then some ((List.range j.toNat).map fun(k:Nat)=>.int (k:Int)) else none
 | [.int i,.int j]=>if (-(2 ^ 62)<=i/\i<2 ^ 62)/\(-(2 ^ 62)<=j/\j<2 ^ 62) then some ((List.range (j - i).toNat).map fun(k:Nat)=>.int (i+(k:Int))) else none
 | _=>none
noncomputable def wF (n:Nat):List T->List T
 | []=>[]
 | d::ds=>.tp [.int n,d]::wF (n+1) ds
noncomputable def signs (t:List Nat):List T:=t.map fun c=>.str [c]
noncomputable def itT (k:IK)(ts:List T):Option (List T):=
 match k with
 | .rng=>rngT ts
 | .seq=>match ts with
  | [x]=>orE (shO (seqV x)) ((strO x).map signs)
  | _=>none
 | .enumL=>match ts with
  | [x]=>(shO (lsK x)).map (wF 0)
  | _=>none
 | .enumS=>match ts with
  | [x]=>(strO x).map fun t=>wF 0 (signs t)
  | _=>none
 | .zip=>match ts with
  | [x,y]=>two (shO (lsK x)) (shO (lsK y)) fun xs ys=>some ((xs.zip ys).map fun p=>.tp [p.1,p.2])
  | _=>none
 | .rvdL=>match ts with
  | [x]=>(shO (lsK x)).map List.reverse
  | _=>none
 | .rvdT=>match ts with
  | [x]=>(shO (tpV x)).map List.reverse
  | _=>none
noncomputable def QR (n:Nat)(d:T):Option Sl:=
 if n=1 then some [.own d] else(shO (tpV d)).bind fun xs=>if xs.length=n then some (xs.map .own) else none
noncomputable def wG (n:Nat)(tt:Sl->(Bool->Sl->Prop)->Prop)(fe:Sl->QP->Prop):List T->List T->Sl->QP->Prop
 | [],acc,s,Q=>Q (.ls acc) s
 | d::ds,acc,s,Q=>∃ l,QR n d=some l/\tt (l++s) fun b s1=>if b=true then fe s1 fun t s2=>acc.length<16777216/\wG n tt fe ds (acc++[t]) ((s2.drop n).map Slot.noAl) Q else wG n tt fe ds acc ((s1.drop n).map Slot.noAl) Q
noncomputable def putBack:List Md->List (Nat×List Nat)->List T->Sl->Sl
 | .mu::ms,ip::ps,t::ts,s=>putBack ms ps ts (putS s ip.1 ip.2 t)
 | .fz::ms,ps,_::ts,s=>putBack ms ps ts s
 | .mv::ms,ps,_::ts,s=>putBack ms ps ts s
 | _,_,_,s=>s
noncomputable def getP (s:Sl)(i:Nat)(p:List Nat):Option T:=match s[i]? with
 | some (.own r)=>getT r p
 | _=>none
def atA (j i:Nat)(s:Sl)(k:Nat)(p:List Nat):Prop:=(k=i/\s[j]? = some (.al i p))\/(k=j/\p=[]/\∃ r,s[j]? = some (.own r))
mutual
noncomputable def WE:Bool->Xp->Sl->QP->XP->Prop
 | md,.b i,s,Q,_=>∃ t,s[i]? = some (.own t)/\(md=true\/shr t=true)/\Q t s
 | md,.a j i,s,Q,_=>∃ k p t,atA j i s k p/\getP s k p=some t/\(md=true\/shr t=true)/\Q t s
 | _,.v i,s,Q,_=>∃ t,s[i]? = some (.own t)/\Q (fzn t) (setS s i (.own (fzn t)))
 | _,.m i,s,Q,_=>∃ t,s[i]? = some (.own t)/\Q t (setS s i .no)
 | _,.c t,s,Q,_=>Q t s
 | _,.g _ t,s,Q,_=>Q (fzi t) s
 | _,.frz e,s,Q,X=>WE false e s (fun t s1=>Q (fzn t) s1) X
 | _,.bin op a b,s,Q,X=>WE true a s (fun x s1=>WE true b s1 (fun y s2=>∃ z,binO op x y=some z/\Q z s2) X) X
 | _,.neg a,s,Q,X=>WE true a s (fun x s1=>∃ i,intO x=some i/\Q (.int (-i)) s1) X
 | _,.cmp op a b,s,Q,X=>WE true a s (fun x s1=>WE true b s1 (fun y s2=>∃ z,cmpO op x y=some z/\Q (.bl z) s2) X) X
 | _,.chn o1 o2 a b c,s,Q,X=>WE true a s (fun x s1=>WE true b s1 (fun y s2=>∃ i j,intO x=some i/\intO y=some j/\∃ z,cmpI o1 i j=some z /\
   if z=true then WE true c s2 (fun w s3=>∃ k,intO w=some k/\∃ z,cmpI o2 j k=some z/\Q (.bl z) s3) X else Q (.bl false) s2) X) X
 | _,.bo k es,s,Q,X=>WB k es s Q X
 | _,.t a,s,Q,X=>WE true a s (fun x s1=>∃ b,truT x=some b/\Q (.bl b) s1) X
 | _,.tn a,s,Q,X=>WE true a s (fun x s1=>∃ b,blO x=some b/\Q (.bl (!b)) s1) X
 | _,.tb k es,s,Q,X=>WTb k es s (fun b s1=>Q (.bl b) s1) X
 | md,.ife t a b,s,Q,X=>WE true t s (fun x s1=>∃ z,blO x=some z/\if z=true then WE md a s1 Q X else WE md b s1 Q X) X
 | _,.lst es,s,Q,X=>WEs false es s (fun ts s1=>ts.length<=16777216/\Q (.ls ts) s1) X
 | _,.tup es,s,Q,X=>WEs false es s (fun ts s1=>ts.length<=16777216/\Q (.tp ts) s1) X
 | md,.ix a k,s,Q,X=>WE true a s (fun x s1=>WE true k s1 (fun y s2=>∃ z,ixO x y=some z/\(md=true\/shr z=true)/\Q z s2) X) X
 | _,.sl a lo hi,s,Q,X=>WE true a s (fun x s1=>WO lo s1 (fun l s2=>WO hi s2 (fun h s3=>∃ z,slO x l h=some z/\Q z s3) X) X) X
 | _,.call _ ms ln f es,s,Q,X=>WA ln none ms es s (fun ts ps s1=>f ts (fun r ts'=>(ln=true->cln r=true)/\Q r (putBack ms ps ts' s1)) fun x ts'=>(ln=true->mfrs x.ts=true)/\X x (putBack ms ps ts' s1)) X
 | _,.bi b es,s,Q,X=>WEs true es s (fun ts s1=>∃ z,biO b ts=some z/\Q z s1) X
 | _,.isi a ks,s,Q,X=>WE true a s (fun x s1=>∃ b,isiO x ks=some b/\Q (.bl b) s1) X
 | _,.me m o es,s,Q,X=>WE true o s (fun x s1=>meK m x=true/\WEs true es s1 (fun ts s2=>∃ z,meO m x ts=some z/\Q z s2) X) X
 | _,.mu m p es,s,Q,X=>WP p s (fun i q s1=>(∃ t,getP s1 i q=some t/\isLs t=true)/\WEs false es s1 (fun ts s2=>∃ t r,getP s2 i q=some t/\muT m t ts=some r/\Q r.2 (putS s2 i q r.1)) X) X
 | _,.lc elt n k its ifs,s,Q,X=>WEs true its s (fun ts s1=>∃ ds,itT k ts=some ds/\wG n (fun s K=>WTb true ifs s K fun _ _=>False) (fun s K=>WE false elt s K fun _ _=>False) ds [] (s1.map Slot.noAl) Q) X
noncomputable def WEs:Bool->List Xp->Sl->(List T->Sl->Prop)->XP->Prop
 | _,[],s,Q,_=>Q [] s
 | md,e::es,s,Q,X=>WE md e s (fun t s1=>WEs md es s1 (fun ts s2=>Q (t::ts) s2) X) X
noncomputable def WA:Bool->Option (Nat×Str)->List Md->List Xp->Sl->(List T->List (Nat×List Nat)->Sl->Prop)->XP->Prop
 | _,_,_,[],s,Q,_=>Q [] [] s
 | ln,ck,.mu::ms,e::es,s,Q,X=>WP e s (fun i p s1=>(∃ t,getP s1 i p=some t/\ckT ck t)/\WA ln none ms es s1 (fun ts ps s2=>∃ t,getP s2 i p=some t/\Q (t::ts) ((i,p)::ps) s2) X) X
 | ln,ck,.fz::ms,e::es,s,Q,X=>WE ln e s (fun t s1=>ckT ck t/\WA ln none ms es s1 (fun ts ps s2=>Q (fzn t::ts) ps s2) X) X
 | ln,ck,.mv::ms,e::es,s,Q,X=>WE false e s (fun t s1=>ckT ck t/\WA ln none ms es s1 (fun ts ps s2=>Q (t::ts) ps s2) X) X
 | _,_,[],_::_,_,_,_=>False
noncomputable def WP:Xp->Sl->(Nat->List Nat->Sl->Prop)->XP->Prop
 | .b i,s,Q,_=>(∃ t,s[i]? = some (.own t))/\Q i [] s
 | .a j i,s,Q,_=>∃ k p,atA j i s k p/\Q k p s
 | .ix a k,s,Q,X=>WP a s (fun i p s1=>WE true k s1 (fun y s2=>∃ t j,getP s2 i p=some t/\stepI t y=some j/\Q i (p++[j]) s2) X) X
 | _,_,_,_=>False
noncomputable def WO:List Xp->Sl->(Option Int->Sl->Prop)->XP->Prop
 | [],s,Q,_=>Q none s
 | e::es,s,Q,X=>es=[]/\WE true e s (fun x s1=>∃ i,intO x=some i/\Q (some i) s1) X
noncomputable def WB:Bool->List Xp->Sl->QP->XP->Prop
 | _,[],_,_,_=>False
 | k,e::es,s,Q,X=>WE true e s (fun x s1=>∃ b,blO x=some b/\(es=[]/\Q (.bl b) s1\/es≠[]/\if b=k then WB k es s1 Q X else Q (.bl b) s1)) X
noncomputable def WTb:Bool->List Xp->Sl->(Bool->Sl->Prop)->XP->Prop
 | k,[],s,Q,_=>Q k s
 | k,e::es,s,Q,X=>WE true e s (fun x s1=>∃ b,blO x=some b/\if b=k then WTb k es s1 Q X else Q b s1) X
end
noncomputable def setN:List Nat->List T->Sl->Option Sl
 | [],[],s=>some s
 | i::is,o::os,s=>setN is os (setS s i (.own o))
 | _,_,_=>none
noncomputable def unT (t:T):Option (List T):=tpV t
noncomputable def ZC (t:Tg)(d:T)(s:Sl):Option Sl:=
 match t with
 | .v i=>some (setS s i (.own d))
 | .tup is=>(unT d).bind fun ds=>setN is ds s
 | _=>none
def WT (t:Tg)(o:T)(s:Sl)(Q:Sl->Prop)(X:XP):Prop:=
 match t with
 | .v i=>Q (setS s i (.own o))
 | .tup is=>∃ ds s1,unT o=some ds/\setN is ds s=some s1/\Q s1
 | .sub p k=>WP p s (fun i q s1=>WE true k s1 (fun y s2=>∃ t t',getP s2 i q=some t/\putO t y o=some t'/\Q (putS s2 i q t')) X) X
 | .al _=>False
noncomputable def wk (bd:T->Sl->Option Sl)(body:Sl->Ends->Prop)(D:Ends):List T->Sl->Prop
 | [],s=>D.nx s
 | d::ds,s=>∃ s1,bd d s=some s1/\body s1 { D with nx:=wk bd body D ds,ct:=wk bd body D ds,bk:=D.nx }
noncomputable def seqK:T->Option (List T)
 | .ls xs=>some xs
 | .tp xs=>some xs
 | .fz (.tp xs)=>some (xs.map fzi)
 | _=>none
def VU (h:Option Nat)(i:Nat)(p:List Nat)(s:Sl):Prop:=match h with
 | none=>p=[]
 | some k=>s[k]? = some (.al i p)
noncomputable def jD (j:Nat)(h:Option Nat)(i:Nat)(p:List Nat)(il:Bool)(body:Sl->Ends->Prop)(D:Ends)(n:Nat):Nat->Sl->Prop
 | 0,s=>(VU h i p s/\∃ t xs,getP s i p=some t/\isLs t=il/\seqK t=some xs/\xs.length=n)/\D.nx s
 | m+1,s=>VU h i p s/\∃ t xs x,getP s i p=some t/\isLs t=il/\seqK t=some xs/\xs.length=n/\xs[n - (m+1)]? = some x /\
   ∃ sl,((kids t).isSome=true/\sl=.al i (p++[n - (m+1)])\/shr x=true/\sl=.own x)/\body (setS s j sl) { D with nx:=jD j h i p il body D n m,ct:=jD j h i p il body D n m,bk:=D.nx }
mutual
noncomputable def WS:Cm->Sl->Ends->Prop
 | .ret e,s,D=>WE false e s D.rt D.ex
 | .asg t e,s,D=>match t with
  | .al j=>WP e s (fun i p s1=>j≠i/\D.nx (setS s1 j (.al i p))) D.ex
  | t=>WE false e s (fun o s1=>WT t o s1 D.nx D.ex) D.ex
 | .ife t a b,s,D=>WE true t s (fun x s1=>∃ z,blO x=some z/\if z=true then WSs a s1 D else WSs b s1 D) D.ex
 | .loop t k its b,s,D=>WEs true its s (fun ts s1=>∃ ds,itT k ts=some ds/\wk (ZC t) (fun s D=>WSs b s D) D ds s1) D.ex
 | .loopA j h i b,s,D=>∃ p t xs,VU h i p s/\getP s i p=some t/\seqK t=some xs/\jD j h i p (isLs t) (fun s D=>WSs b s D) D xs.length xs.length s
 | .ex e,s,D=>WE true e s (fun _ s1=>D.nx s1) D.ex
 | .pass,s,D=>D.nx s
noncomputable def WSs:List Cm->Sl->Ends->Prop
 | [],s,D=>D.nx s
 | c::cs,s,D=>WS c s { D with nx:=fun s1=>WSs cs s1 D }
end
noncomputable def Jk:Tg->List Nat
 | .v i=>[i]
 | .tup is=>is
 | .sub p k=>root p++(zB p++zB k)
 | .al j=>[j]
mutual
noncomputable def zaN:Cm->List Nat
 | .ret e=>zB e
 | .asg t e=>zB e++Jk t
 | .ife t a b=>zB t++(wa a++wa b)
 | .loop t _ its b=>zz its++(Jk t++wa b)
 | .loopA j _ _ b=>[j]++wa b
 | .ex e=>zB e
 | _=>[]
noncomputable def wa:List Cm->List Nat
 | []=>[]
 | c::cs=>zaN c++wa cs
end
noncomputable def retA:List Md->Sl->Option (List T)
 | [],_=>some []
 | .mu::ms,.own t::s=>(retA ms s).map (t::·)
 | .mu::_,_=>none
 | .fz::ms,_::s=>(retA ms s).map (.non::·)
 | .mv::ms,_::s=>(retA ms s).map (.non::·)
 | _,[]=>none
noncomputable def fnD (ms:List Md)(nl:Nat)(body:List Cm):Fn:=fun ts Q X=>
 ts.length=ms.length/\WSs body (ts.map .own++List.replicate (nl - ms.length) .no) { nx:=fun s=>∃ r,retA ms s=some r/\Q .non r,rt:=fun t s=>∃ r,retA ms s=some r/\Q t r,bk:=fun _=>False,ct:=fun _=>False,ex:=fun x s=>∃ r,retA ms s=some r/\X x r }
end L4
namespace L4
open PySem L2 PySem.Spec PyProof.Rows
noncomputable def zea:R2:=fun x y H Q=>∃ a b xs ys,x=.ref a/\y=.ref b/\H a=some (.tup xs)/\H b=some (.tup ys)/\xs.length+ys.length<=1000000 /\
 (ys=[]->Q (.ref a) H)/\(xs=[]->Q (.ref b) H)/\∀ p,H p=none->Q (.ref p) (upd H p (.tup (xs++ys)))
theorem zcH {X:Cx}:OpR X (binaryOp .Add) zea:=by
 intro pins s σ H x y v u Q I rx ry h
 obtain⟨a,b,xs,ys,rfl,rfl,ha,hb,hz,q1,q2,q3⟩:=h
 by_cases hx:xs=[]
 ·subst hx
  cases rx
  cases ry
  obtain⟨its,r1,p1,_⟩:=I.tuple (SqT.of ha)
  obtain⟨its2,r2,p2,_⟩:=I.tuple (SqT.of hb)
  obtain⟨⟨cls,dd,data,sl⟩,ho,hc,n,hd⟩:=id p1
  obtain⟨⟨cls2,dd2,data2,sl2⟩,ho2,hc2,n2,hd2⟩:=id p2
  simp only at hc hd hc2 hd2
  subst hc hd hc2 hd2
  have e0:its=[]:=r1.nil_iff.mpr rfl
  exact concat_meets ⟨_,ho,rfl⟩ ⟨_,ho2,rfl⟩ noFill_tuple_add seq_tuple_add PySem.F.slot_tuple_add PySem.F.entry_tuple_add (PySem.F.args_tuple_add_2 _ _)
   (tuple_addW0 a b its.toArray its2.toArray n n2 dd dd2 sl sl2 (by simp [e0])) ⟨ho,ho2,.ref b,H,I,rfl,q2 rfl⟩
 ·exact zcl pins s σ H _ _ v u Q I rx ry ⟨a,b,xs,ys,rfl,rfl,SqT.of ha,SqT.of hb,hx,by rw [sizeLine_eq];omega,fun e=>q1 e,fun _ p hp=>q3 p hp⟩
noncomputable def rSlW:V->Option Int->Option Int->Hp->VK->Prop:=fun x lo hi H Q=>∃ a xs,x=.ref a/\H a=some (.tup xs)/\(cutV xs lo hi=xs->Q (.ref a) H)/\∀ p,H p=none->Q (.ref p) (upd H p (.tup (cutV xs lo hi)))
theorem zcI {X:Cx}:SlR X rSlW:=by
 intro pins s σ H x v vl vu lo hi sl Q I rx hs pl pu h
 obtain⟨a,xs,rfl,hx,q1,q2⟩:=h
 by_cases hw:HT.sIx xs.length 0 lo=0/\HT.sIx xs.length xs.length hi=xs.length
 ·cases rx
  obtain⟨its,r,ht,hz⟩:=I.tuple (SqT.of hx)
  have hlen:its.toArray.size=xs.length:=by rw [List.size_toArray];exact r.length.symm
  refine⟨"tuple",_,PyProof.Rows.slot_tuple_getitem.lookup,ht.typeIs,?_⟩
  refine HT.vL ht hs pl pu (by rw [hlen];exact hw) ⟨.ref a,H,I,rfl,q1 ?_⟩
  unfold cutV
  rw [hw.1,hw.2,List.drop_zero,Nat.sub_zero,List.take_length]
 ·exact ze7 pins s σ H _ v vl vu lo hi sl Q I rx hs pl pu ⟨a,xs,rfl,SqT.of hx,hw,q2⟩
noncomputable def addR:R2:=fun x y H Q=>rI0 (fun i j=>.int (i+j)) x y H Q\/(∃ i j,x=.str (S i)/\y=.str (S j)/\i.length+j.length<=sizeLine/\Q (.str (S (i++j))) H)\/zea x y H Q\/rCat x y H Q
noncomputable def mulR:R2:=fun x y H Q=>rI IntMulOk (fun i j=>.int (i * j)) x y H Q\/zdM x y H Q\/zd5 x y H Q
noncomputable def binR:BO->R2
 | .add=>addR
 | .sub=>rI0 fun i j=>.int (i - j)
 | .mul=>mulR
 | .fdiv=>rI CDiv fun i j=>.int (i / j)
 | .mod=>rI (fun _ j=>0<j) fun i j=>.int (i % j)
 | .pow=>rI CPow fun i j=>.int (i ^ j.toNat)
 | .shr=>rI (fun _ j=>0<=j) fun i j=>.int (i / 2 ^ j.toNat)
noncomputable def binC:BO->Operator
 | .add=>.Add
 | .sub=>.Sub
 | .mul=>.Mult
 | .fdiv=>.FloorDiv
 | .mod=>.Mod
 | .pow=>.Pow
 | .shr=>.RShift
theorem jl {X:Cx}{f:Value->Value->Sem Value}{r r':R2}(h:OpR X f r)(k:OpR X f r'):OpR X f (fun x y H Q=>r x y H Q\/r' x y H Q):=by
 intro pins s σ H x y v u Q I rx ry z
 rcases z with z | z
 ·exact h pins s σ H x y v u Q I rx ry z
 ·exact k pins s σ H x y v u Q I rx ry z
theorem zfp {X:Cx}(op:BO):OpR X (binaryOp (binC op)) (binR op):=by
 cases op
 ·exact jl zeY (jl zcq (jl zcH zfa))
 ·exact zeZ
 ·exact jl zcr (jl zcw zcC)
 ·exact zcd
 ·exact ze0
 ·exact ze1
 ·exact ze2
noncomputable def cmpC:CO->CmpOp
 | .eq=>.Eq
 | .ne=>.NotEq
 | .lt=>.Lt
 | .le=>.LtE
 | .gt=>.Gt
 | .ge=>.GtE
 | .isin=>.In
 | .notin=>.NotIn
 | .is=>.Is
 | .isnot=>.IsNot
noncomputable def rIxD:R2:=fun x y H Q=>∃ a v,x=.ref a/\DGet H a y (some v)/\Q v H
theorem zcJ {X:Cx}(hu:X.A.units+1<cLine):IxR X rIxD:=by
 intro value slice pins s σ H x y v u Q I rx ry h hs
 obtain⟨a,z,rfl,g,q⟩:=h
 obtain rfl:v=Value.ref a:=rx
 have hT:=Wm I g
 unfold subscriptTail
 refine wpAny_bind ?_
 rw [getitemInPython_of_ne hT.not_modules]
 refine wpAny_bind (wpAny_specialOf hT PySem.F.slot_dict_getitem.lookup ?_)
 have fin:wpAny (model X.prog X.w) X.A (subscripted slice false (.ref a) u) (fun r s₃=>wpAny (model X.prog X.w) X.A (letTemporaryGo value (.ref a) r >>= fun _=>pure r) (EP X pins σ Q) X.xe s₃) X.xe s:=by
  rw [hs]
  exact wpAny_operating (wpAny_mono (YY (Q:=EP X pins σ Q) hu I g ry fun w' s3 I3 rw'=>⟨z,H,I3,rw',q⟩) (fun r s₃ h₃=>wpAny_bind (wpAny_letTemporaryGo (wpAny_pure h₃))) fun _ _ x=>x)
 first
  | exact wpAny_pure (wpAny_bind fin)
  | exact wpAny_bind (wpAny_pure (wpAny_bind fin))
  | exact wpAny_bind fin
theorem XH {X:Cx}{r r':R2}(h:IxR X r)(k:IxR X r'):IxR X (fun x y H Q=>r x y H Q\/r' x y H Q):=by
 intro value slice pins s σ H x y v u Q I rx ry z hs
 rcases z with z | z
 ·exact h value slice pins s σ H x y v u Q I rx ry z hs
 ·exact k value slice pins s σ H x y v u Q I rx ry z hs
noncomputable def ixR (K:PySem.W.Frag):R2:=fun x y H Q=>rIxL K x y H Q\/rIxT K x y H Q\/zdK x y H Q\/rIxD x y H Q
theorem zaO {X:Cx}{K:PySem.W.Frag}(hK:X.K=K)(hu:X.A.units+64<cLine):IxR X (ixR K):=XH (zai hK) (XH (zcs hK) (XH ix_S (zcJ (by omega))))
theorem zaP {X:Cx}{r r':V->Option Int->Option Int->Hp->VK->Prop}(h:SlR X r)(k:SlR X r'):SlR X (fun x lo hi H Q=>r x lo hi H Q\/r' x lo hi H Q):=by
 intro pins s σ H x v vl vu lo hi sl Q I rx hs pl pu z
 rcases z with z | z
 ·exact h pins s σ H x v vl vu lo hi sl Q I rx hs pl pu z
 ·exact k pins s σ H x v vl vu lo hi sl Q I rx hs pl pu z
noncomputable def slR (K:PySem.W.Frag):V->Option Int->Option Int->Hp->VK->Prop:=fun x lo hi H Q=>(∃ l,x=.str (S l)/\l.length<=sizeLine/\Q (.str (S (cutN l lo hi))) H)\/rSlL K x lo hi H Q\/rSlW x lo hi H Q
theorem zfq {X:Cx}{K:PySem.W.Frag}(hK:X.K=K):SlR X (slR K):=zaP sl_S (zaP (zaj hK) zcI)
theorem ZD {X:Cx}{f:Value}{r r':List V->Hp->VK->Prop}(h:qc X f r)(k:qc X f r'):qc X f (fun xs H Q=>r xs H Q\/r' xs H Q):=by
 intro pins s σ H xs us Q I rx z
 rcases z with z | z
 ·exact h pins s σ H xs us Q I rx z
 ·exact k pins s σ H xs us Q I rx z
theorem zaQ {α β:Type}{vs:List α}{xs:List β}(h:vs.length=xs.length):(!xs.isEmpty) = !vs.isEmpty:=by
 cases vs<;>cases xs<;>first | rfl | cases h
noncomputable def rInD (n:Bool):R2:=fun x y H Q=>∃ a o,y=.ref a/\DGet H a x o/\Q (.bl (if n=true then !o.isSome else o.isSome)) H
theorem zfr {X:Cx}(hu:X.A.units+1<cLine):OpR X (compareOp .In) (rInD false):=by
 intro pins s σ H x y v u Q I rx ry h
 obtain⟨a,o,rfl,g,q⟩:=h
 cases ry
 exact d_in hu I g rx fun s' I'=>⟨.bl o.isSome,H,I',rfl,q⟩
theorem Y7 {X:Cx}(hu:X.A.units+1<cLine):OpR X (compareOp .NotIn) (rInD true):=by
 intro pins s σ H x y v u Q I rx ry h
 obtain⟨a,o,rfl,g,q⟩:=h
 cases ry
 exact zcz hu I g rx fun s' I'=>⟨.bl !o.isSome,H,I',rfl,q⟩
noncomputable def cmpR (K:PySem.W.Frag):CO->R2
 | .eq=>fun x y H Q=>rEq x y H Q\/rEqD x y H Q
 | .ne=>fun x y H Q=>rNe x y H Q\/rNeD x y H Q
 | .lt=>rI0 fun i j=>.bl (decide (i<j))
 | .le=>rI0 fun i j=>.bl (decide (i<=j))
 | .gt=>rI0 fun i j=>.bl (decide (j<i))
 | .ge=>rI0 fun i j=>.bl (decide (j<=i))
 | .isin=>fun x y H Q=>(∃ i j,x=.str i/\y=.str j/\Q (.bl !(Builtin.Str.occurrences j i 0 j.length 1).isEmpty) H)\/rIn K false x y H Q\/rInD false x y H Q
 | .notin=>fun x y H Q=>(∃ i j,x=.str i/\y=.str j/\Q (.bl !(!(Builtin.Str.occurrences j i 0 j.length 1).isEmpty)) H)\/rIn K true x y H Q\/rInD true x y H Q
 | .is=>fun x y H Q=>(y=.non/\Q (.bl (decide (x=.non))) H)\/rIsB x y H Q
 | .isnot=>fun x y H Q=>(y=.non/\Q (.bl (!decide (x=.non))) H)\/VR x y H Q
theorem yV {X:Cx}{K:PySem.W.Frag}(hK:X.K=K)(hu:X.A.units+64<cLine)(op:CO):OpR X (compareOp (cmpC op)) (cmpR K op):=by
 cases op
 ·exact jl zgx (zfj hu)
 ·exact jl zgy (zfk hu)
 ·exact zgz
 ·exact zgA
 ·exact zgB
 ·exact zgC
 ·exact jl YD (jl (zcy hK) (zfr (by omega)))
 ·exact jl Q7 (jl (XE hK) (Y7 (by omega)))
 ·exact jl ze4 zfn
 ·exact jl zce Y2
end L4
namespace L4
open PySem L2 PySem.Spec PyProof.Rows
variable {W:Wd} {F H:Hp} {B:List Addr} {x y z:T} {v u:V}
theorem zw {α:Type}{a b:Option α}{z:α}(h:orE a b=some z):a=some z\/b=some z:=by
 cases a with
 | none=>exact .inr h
 | some x=>exact .inl h
theorem zq {α β γ:Type}{a:Option α}{b:Option β}{f:α->β->Option γ}{z:γ}(h:two a b f=some z):∃ x y,a=some x/\b=some y/\f x y=some z:=by
 cases a with
 | none=>cases h
 | some x=>
  cases b with
  | none=>cases h
  | some y=>exact⟨x,y,rfl,rfl,h⟩
theorem zJ {o:Option (List T)}{xs:List T}(h:shO o=some xs):o=some xs/\shrs xs=true:=by
 cases o with
 | none=>cases h
 | some ys=>
  simp only [shO,Option.bind_some] at h
  split at h
  ·cases h;exact⟨rfl,by assumption⟩
  ·cases h
theorem zx {i:Int}(h:Tr W F H x v B)(e:intO x=some i):v=.int i:=by
 cases x<;>simp only [intO,Option.some.injEq,reduceCtorEq] at e
 subst e;exact h.2
theorem v7 {i:Bool}(h:Tr W F H x v B)(e:blO x=some i):v=.bl i:=by
 cases x<;>simp only [blO,Option.some.injEq,reduceCtorEq] at e
 subst e;exact h.2
theorem zO {t:List Nat}(h:Tr W F H x v B)(e:strO x=some t):v=.str (S t)/\t.length<=16777216:=by
 cases x<;>simp only [strO,Option.some.injEq,reduceCtorEq] at e
 subst e;exact h.2
theorem xP {i:Int}:Tr W F H (.int i) (.int i) []:=⟨rfl,rfl⟩
theorem vR {i:Bool}:Tr W F H (.bl i) (.bl i) []:=⟨rfl,rfl⟩
theorem yW:Tr W F H .non .non []:=⟨rfl,rfl⟩
theorem jE {t:List Nat}(h:t.length<=16777216):Tr W F H (.str t) (.str (S t)) []:=⟨rfl,rfl,h⟩
theorem xQ {xs:List T}(g:Same F H)(h:Tr W F H x v B)(e:lsV x=some xs):∃ p vs C,v=.ref p/\H p=some (.lst vs)/\TrL W F H xs vs C/\C.Sublist B:=by
 unfold lsV at e
 split at e
 ·cases e
  obtain⟨p,vs,C,e,h1,rfl,h2⟩:=h
  exact⟨p,vs,C,e,h1,h2,List.sublist_cons_self _ _⟩
 ·cases e
  obtain⟨_,p,vs,e,h1,h2⟩:=h
  exact⟨p,vs,[],e,g _ _ h1,qX h2,List.nil_sublist _⟩
 ·cases e
theorem wm {xs:List T}(h:Tr W F H x v B)(e:tpV x=some xs):∃ p vs C,v=.ref p/\F p=some (.tup vs)/\TrL W F H xs vs C/\C.Sublist B:=by
 unfold tpV at e
 split at e
 ·cases e
  obtain⟨p,vs,e,h1,h2⟩:=h
  exact⟨p,vs,B,e,h1,h2,List.Sublist.refl _⟩
 ·cases e
  obtain⟨_,p,vs,e,h1,h2⟩:=h
  exact⟨p,vs,[],e,h1,qX h2,List.nil_sublist _⟩
 ·cases e
theorem zfs {xs:List T}(g:Same F H)(h:Tr W F H x v B)(e:ksV x=some xs):∃ p vs C,v=.ref p/\(SqL W.K H p vs\/SqT W.K H p vs)/\TrL W F H xs vs C/\C.Sublist B:=by
 cases x<;>simp only [ksV,Option.some.injEq,reduceCtorEq] at e
 subst e
 rename_i l ys
 obtain⟨_,p,vs,e,h1,h2⟩:=h
 refine⟨p,vs,[],e,?_,qX h2,List.nil_sublist _⟩
 cases l
 ·exact .inr (Zv g h1)
 ·exact .inl (xN g h1)
theorem yu {xs:List T}(g:Same F H)(h:Tr W F H x v B)(e:seqV x=some xs):∃ p vs C,v=.ref p/\(SqL W.K H p vs\/SqT W.K H p vs)/\TrL W F H xs vs C/\C.Sublist B:=by
 rcases zw e with e | e
 ·obtain⟨p,vs,C,e,h1,h2⟩:=xQ g h e
  exact⟨p,vs,C,e,.inl (SqL.of h1),h2⟩
 ·rcases zw e with e | e
  ·obtain⟨p,vs,C,e,h1,h2⟩:=wm h e
   exact⟨p,vs,C,e,.inr (SqT.of (g _ _ h1)),h2⟩
  ·exact zfs g h e
theorem zaR {xs:List T}(g:Same F H)(h:Tr W F H x v B)(e:lsK x=some xs):∃ p vs C,v=.ref p/\SqL W.K H p vs/\TrL W F H xs vs C/\C.Sublist B:=by
 rcases zw e with e | e
 ·obtain⟨p,vs,C,e,h1,h2⟩:=xQ g h e
  exact⟨p,vs,C,e,SqL.of h1,h2⟩
 ·unfold ksL at e
  split at e
  ·cases e
   obtain⟨_,p,vs,e,h1,h2⟩:=h
   exact⟨p,vs,[],e,xN g h1,qX h2,List.nil_sublist _⟩
  ·cases e
theorem XI {d:List Key×List T}(g:Same F H)(h:Tr W F H x v B)(e:dcV x=some d):∃ p kvs C,v=.ref p/\H p=some (.dK kvs)/\kvs.map (·.1)=d.1/\TrL W F H d.2 (kvs.map (·.2)) C/\C.Sublist B:=by
 unfold dcV at e
 cases e
theorem zft {d:Nat×List Str×List T}(g:Same F H)(h:Tr W F H x v B)(e:obV x=some d):∃ p dx kvs C,v=.ref p/\H p=some (.ins (W.cl d.1) dx kvs)/\kvs.map (·.1)=d.2.1/\TrL W F H d.2.2 (kvs.map (·.2)) C/\C.Sublist B:=by
 unfold obV at e
 cases e
theorem TrL.sh {C:List Addr}{xs:List T}{vs:List V}(h:TrL W F H xs vs C)(s:shrs xs=true):TrL W F H xs vs []:=by rw [Zw s h] at h;exact h
theorem TrL.hp {H':Hp}{xs:List T}{vs:List V}(h:TrL W F H xs vs []){F':Hp}(g:Same F F'):TrL W F' H' xs vs []:=h.frame g fun _ hb=>by cases hb
theorem TrL.uncons {t:T}{ts:List T}{vs:List V}(h:TrL W F H (t::ts) vs []):∃ v r,vs=v::r/\Tr W F H t v []/\TrL W F H ts r []:=by
 obtain⟨v,r,A1,A2,e,ea,h1,h2⟩:=h
 obtain⟨rfl,rfl⟩:=List.append_eq_nil_iff.mp ea.symm
 exact⟨v,r,e,h1,h2⟩
theorem TrL.cons0 {t:T}{ts:List T}{v:V}{r:List V}(h1:Tr W F H t v [])(h2:TrL W F H ts r []):TrL W F H (t::ts) (v::r) []:=⟨v,r,[],[],rfl,rfl,h1,h2⟩
theorem TrL.drop0:∀ {ts:List T} {vs:List V} (n:Nat),TrL W F H ts vs []->TrL W F H (ts.drop n) (vs.drop n) []
 | _,_,0,h=>h
 | [],_,n+1,h=>by rw [h.1];exact⟨rfl,rfl⟩
 | _::ts,_,n+1,h=>by obtain⟨v,r,rfl,_,h2⟩:=h.uncons;exact TrL.drop0 n h2
theorem TrL.take0:∀ {ts:List T} {vs:List V} (n:Nat),TrL W F H ts vs []->TrL W F H (ts.take n) (vs.take n) []
 | _,_,0,_=>by simp only [List.take_zero];exact⟨rfl,rfl⟩
 | [],_,n+1,h=>by rw [h.1];exact⟨rfl,rfl⟩
 | _::ts,_,n+1,h=>by obtain⟨v,r,rfl,h1,h2⟩:=h.uncons;exact TrL.cons0 h1 (TrL.take0 n h2)
theorem TrL.rev0:∀ {ts:List T} {vs:List V},TrL W F H ts vs []->TrL W F H ts.reverse vs.reverse []
 | [],_,h=>by rw [h.1];exact⟨rfl,rfl⟩
 | _::ts,_,h=>by
  obtain⟨v,r,rfl,h1,h2⟩:=h.uncons
  rw [List.reverse_cons,List.reverse_cons]
  exact(TrL.rev0 h2).app (TrL.one h1)
theorem TrL.rep0 {ts:List T}{vs:List V}(h:TrL W F H ts vs []):∀ n:Nat,TrL W F H (List.replicate n ts).flatten (List.replicate n vs).flatten []
 | 0=>⟨rfl,rfl⟩
 | n+1=>by simp only [List.replicate_succ,List.flatten_cons];exact h.app (h.rep0 n)
theorem TrL.cut0 {ts:List T}{vs:List V}(h:TrL W F H ts vs [])(lo hi:Option Int):TrL W F H (cutL ts lo hi) (cutV vs lo hi) []:=by
 unfold cutL cutV
 rw [← h.len]
 exact(h.drop0 _).take0 _
theorem zaS {α:Type}(xs:List α)(lo hi:Option Int):(cutL xs lo hi).length<=xs.length:=by
 unfold cutL
 rw [List.length_take,List.length_drop]
 omega
theorem TrL.at {ts:List T}{vs:List V}{A:List Addr}{i:Int}{t:T}(h:TrL W F H ts vs A)(e:atI ts i=some t):∃ v C,atI vs i=some v/\Tr W F H t v C/\C.Sublist A:=by
 unfold atI at e ⊢
 rw [h.len]
 cases q:ixN ts.length i with
 | none=>rw [q] at e;cases e
 | some j=>
  rw [q] at e
  obtain⟨v,A1,A2,A3,h1,h2,h3,_⟩:=h.get (show ts[j]? = some t from e)
  exact⟨v,A2,h1,h3,by rw [h2];exact(List.sublist_append_left _ _).trans (List.sublist_append_right _ _)⟩
theorem ZE {ts:List T}{vs:List V}{Q:VK}(g:Same F H)(h:TrL W F H ts vs [])(q:∀ w F' H' B,Al F H F' H' B->Tr W F' H' (.ls ts) w B->Q w H'):∀ p,H p=none->Q (.ref p) (upd H p (.lst vs)):=fun p hp=>q _ F _ [p] (Al.cell g hp) ⟨p,vs,[],rfl,zF,rfl,h.hp fun _ _ h=>h⟩
theorem XJ {ts:List T}{vs:List V}{Q:VK}(g:Same F H)(h:TrL W F H ts vs [])(q:∀ w F' H' B,Al F H F' H' B->Tr W F' H' (.tp ts) w B->Q w H'):∀ p,H p=none->Q (.ref p) (upd H p (.tup vs)):=fun p hp=>q _ _ _ [] (Al.froz g hp) ⟨p,vs,rfl,zF,h.hp (Al.froz (F:=F) g hp).sF⟩
def OS (W:Wd)(r:R2)(f:T->T->Option T):Prop:=∀ (F H:Hp) (x y:T) (v u:V) (B1 B2:List Addr) (z:T) (Q:VK),Same F H->Tr W F H x v B1->Tr W F H y u B2->f x y=some z ->
 (∀ w F' H' B,Al F H F' H' B->Tr W F' H' z w B->Q w H')->r v u H Q
theorem zfu (op:BO):OS W (binR op) (binO op):=by
 intro F H x y v u B1 B2 z Q g hx hy e q
 have fin:∀ k,z=.int k->Q (.int k) H:=fun k e=>by subst e;exact q _ F H [] (Al.refl g) xP
 unfold binO at e
 rcases zw e with e | e
 ·obtain⟨i,j,e1,e2,e⟩:=zq e
  have hv:=zx hx e1
  have hu:=zx hy e2
  subst hv;subst hu
  cases op<;>simp only [intOp,Option.some.injEq,Option.ite_none_right_eq_some] at e
  ·exact .inl ⟨i,j,rfl,rfl,fin _ e.symm⟩
  ·exact⟨i,j,rfl,rfl,fin _ e.symm⟩
  ·exact .inl ⟨i,j,rfl,rfl,e.1,fin _ e.2.symm⟩
  ·exact⟨i,j,rfl,rfl,e.1,fin _ e.2.symm⟩
  ·exact⟨i,j,rfl,rfl,e.1,fin _ e.2.symm⟩
  ·exact⟨i,j,rfl,rfl,e.1,fin _ e.2.symm⟩
  ·exact⟨i,j,rfl,rfl,e.1,fin _ e.2.symm⟩
 rcases zw e with e | e
 ·obtain⟨a,b,e1,e2,e⟩:=zq e
  obtain⟨hv,la⟩:=zO hx e1
  obtain⟨hu,lb⟩:=zO hy e2
  subst hv;subst hu
  simp only [zd9,Option.ite_none_right_eq_some,Option.some.injEq] at e
  obtain⟨⟨rfl,h⟩,rfl⟩:=e
  exact .inr (.inl ⟨a,b,rfl,rfl,by rw [PySem.sizeLine_eq];exact h,q _ F H [] (Al.refl g) (jE (by rw [List.length_append];exact h))⟩)
 rcases zw e with e | e
 ·obtain⟨a,n,e1,e2,e⟩:=zq e
  obtain⟨hv,la⟩:=zO hx e1
  have hu:=zx hy e2
  subst hv;subst hu
  simp only [zaF,Option.ite_none_right_eq_some,Option.some.injEq] at e
  obtain⟨⟨rfl,h0,h1,h2⟩,rfl⟩:=e
  refine .inr (.inl ⟨a,n,rfl,rfl,h0,h1,h2,q _ F H [] (Al.refl g) (jE ?_)⟩)
  simpa [List.length_flatten,Nat.mul_comm] using h2
 rcases zw e with e | e
 ·obtain⟨a,b,e1,e2,e⟩:=zq e
  obtain⟨e1,s1⟩:=zJ e1
  obtain⟨e2,s2⟩:=zJ e2
  obtain⟨p1,v1,C1,rfl,h1,t1,_⟩:=xQ g hx e1
  obtain⟨p2,v2,C2,rfl,h2,t2,_⟩:=xQ g hy e2
  simp only [Wr,Option.ite_none_right_eq_some,Option.some.injEq] at e
  obtain⟨⟨rfl,hl⟩,rfl⟩:=e
  exact .inr (.inr (.inr ⟨p1,p2,v1,v2,rfl,rfl,h1,h2,by rw [t1.len,t2.len,PySem.sizeLine_eq];exact hl,ZE g ((t1.sh s1).app (t2.sh s2)) q⟩))
 rcases zw e with e | e
 ·obtain⟨a,b,e1,e2,e⟩:=zq e
  obtain⟨e1,s1⟩:=zJ e1
  obtain⟨e2,s2⟩:=zJ e2
  obtain⟨p1,v1,C1,rfl,h1,t1,_⟩:=wm hx e1
  obtain⟨p2,v2,C2,rfl,h2,t2,_⟩:=wm hy e2
  simp only [zaH,Option.ite_none_right_eq_some,Option.some.injEq] at e
  obtain⟨⟨rfl,hl⟩,rfl⟩:=e
  have tt:=(t1.sh s1).app (t2.sh s2)
  refine .inr (.inr (.inl ⟨p1,p2,v1,v2,rfl,rfl,g _ _ h1,g _ _ h2,by rw [t1.len,t2.len];exact hl,fun e=>?_,fun e=>?_,XJ g tt q⟩))
  ·subst e
   rw [List.append_nil] at tt
   exact q _ F H [] (Al.refl g) ⟨p1,v1,rfl,h1,tt⟩
  ·subst e
   exact q _ F H [] (Al.refl g) ⟨p2,v2,rfl,h2,tt⟩
 ·obtain⟨a,n,e1,e2,e⟩:=zq e
  obtain⟨e1,s1⟩:=zJ e1
  have hu:=zx hy e2
  subst hu
  obtain⟨p1,v1,C1,rfl,h1,t1,_⟩:=xQ g hx e1
  simp only [zaG,Option.ite_none_right_eq_some,Option.some.injEq] at e
  obtain⟨⟨rfl,h0,h2,h3⟩,rfl⟩:=e
  exact .inr (.inr ⟨p1,v1,n,rfl,rfl,h1,h0,h2,by rw [t1.len];exact h3,ZE g ((t1.sh s1).rep0 _) q⟩)
theorem Jl {a:V}(h:Tr W F H x v B)(e:scT x=some a):v=a/\zE a=true:=by
 cases x<;>simp only [scT,Option.some.injEq,reduceCtorEq] at e<;>subst e
 ·exact⟨h.2,rfl⟩
 ·exact⟨h.2,rfl⟩
 ·exact⟨h.2,rfl⟩
 ·exact⟨h.2.1,rfl⟩
theorem VV:∀ {ts:List T} {vs xs:List V} {C:List Addr},TrL W F H ts vs C->scTs ts=some xs->vs=xs/\xs.all zE=true
 | [],_,_,_,h,e=>by cases e;exact⟨h.1,rfl⟩
 | t::ts,_,_,_,⟨v,r,A1,A2,e0,ea,h1,h2⟩,e=>by
  obtain⟨a,as,e1,e2,e⟩:=zq e
  cases e
  obtain⟨rfl,f1⟩:=Jl h1 e1
  obtain⟨rfl,f2⟩:=VV h2 e2
  exact⟨e0,by rw [List.all_cons,f1,f2];rfl⟩
mutual
theorem kZ {H:Hp}:∀ {t:T} {v:V} {e:Dat},IsV W H t v->datT t=some e->IsDt H e v
 | .non,_,_,h,e=>by cases e;cases h;exact⟨rfl,rfl⟩
 | .bl _,_,_,h,e=>by cases e;cases h;exact⟨rfl,rfl⟩
 | .int _,_,_,h,e=>by cases e;cases h;exact⟨rfl,rfl⟩
 | .str _,_,_,h,e=>by cases e;obtain⟨rfl,_⟩:=h;exact⟨rfl,rfl⟩
 | .fz t,v,_,h,e=>kZ (t:=t) (v:=v) h (by simpa only [datT] using e)
 | .tp ds,_,_,⟨p,vs,e0,h1,h2⟩,e=>by
  simp only [datT,Option.map_eq_some_iff] at e
  obtain⟨es,e,rfl⟩:=e
  exact⟨p,vs,e0,h1,ZF h2 e⟩
 | .ls ds,_,_,⟨p,vs,e0,h1,h2⟩,e=>by
  simp only [datT,Option.map_eq_some_iff] at e
  obtain⟨es,e,rfl⟩:=e
  exact⟨p,vs,e0,h1,ZF h2 e⟩
 | .hol _,_,_,_,e=>by simp only [datT,reduceCtorEq] at e
 | .ks _ _,_,_,_,e=>by simp only [datT,reduceCtorEq] at e
theorem ZF {H:Hp}:∀ {ts:List T} {vs:List V} {es:List Dat},IsVs W H ts vs->wD ts=some es->IsDs H es vs
 | [],_,_,h,e=>by cases e;exact h
 | t::ts,_,_,⟨v,r,e0,h1,h2⟩,e=>by
  simp only [wD] at e
  obtain⟨a,as,e1,e2,e⟩:=zq e
  cases e
  exact⟨v,r,e0,kZ h1 e1,ZF h2 e2⟩
end
theorem Ww (h:Tr W F H x v B)(e:cont x=true):∃ a,v=.ref a:=by
 unfold cont at e
 split at e
 ·obtain⟨p,vs,e,_⟩:=h;exact⟨p,e⟩
 ·obtain⟨p,vs,C,e,_⟩:=h;exact⟨p,e⟩
 ·obtain⟨_,p,vs,e,_⟩:=h;exact⟨p,e⟩
 ·obtain⟨_,p,vs,e,_⟩:=h;exact⟨p,e⟩
 ·cases e
theorem VW {H:Hp}{b:Bool}:∀ {x:T} {v:V},IsV W H x v->nonT x=some b->decide (v=.non)=b
 | .non,_,h,e=>by cases e;rw [show _=V.non from h];rfl
 | .fz t,v,h,e=>VW (x:=t) (v:=v) h (by simpa only [nonT] using e)
 | .hol _,_,h,e=>by cases e
 | .bl _,_,h,e=>by cases e;rw [show _=V.bl _ from h];rfl
 | .int _,_,h,e=>by cases e;rw [show _=V.int _ from h];rfl
 | .str _,_,h,e=>by cases e;rw [h.1];rfl
 | .tp _,_,⟨p,vs,e0,_⟩,e=>by cases e;rw [e0];rfl
 | .ls _,_,⟨p,vs,e0,_⟩,e=>by cases e;rw [e0];rfl
 | .ks _ _,_,⟨p,vs,e0,_⟩,e=>by cases e;rw [e0];rfl
theorem zeb {B1 B2:List Addr}{b:Bool}(g:Same F H)(hx:Tr W F H x v B1)(hy:Tr W F H y u B2)(e:eqT x y=some b) :
  (scal v u=true/\decide (v=u)=b)\/∃ d e a c,v=.ref a/\u=.ref c/\IsDt H d (.ref a)/\IsDt H e (.ref c)/\depD d<=50/\eqD d e=b:=by
 rcases zw e with e | e
 ·obtain⟨x',y',e1,e2,e⟩:=zq e
  obtain⟨rfl,_⟩:=Jl hx e1
  obtain⟨rfl,_⟩:=Jl hy e2
  simp only [Option.ite_none_right_eq_some,Option.some.injEq] at e
  exact .inl e
 ·split at e
  ·rename_i hc
   rw [Bool.and_eq_true] at hc
   obtain⟨d,e',e1,e2,e⟩:=zq e
   simp only [Option.ite_none_right_eq_some,Option.some.injEq] at e
   obtain⟨a,rfl⟩:=Ww hx hc.1
   obtain⟨c,rfl⟩:=Ww hy hc.2
   exact .inr ⟨d,e',a,c,rfl,rfl,kZ (hx.now g) e1,kZ (hy.now g) e2,e.1,e.2⟩
  ·cases e
theorem VX {k:Key}(h:Tr W F H x v B)(e:keyT x=some k):v=kV k:=by
 cases x<;>simp only [keyT,Option.some.injEq,reduceCtorEq] at e<;>subst e
 ·exact h.2
 ·exact h.2.1
theorem zaT {ks:List Key}{kvs:List (Key×V)}{k:Key}(e:kvs.map (·.1)=ks):(valV kvs k).isSome=ks.any fun k'=>decide (k' = k):=by
 subst e
 unfold valV
 induction kvs with
 | nil=>rfl
 | cons a l ih=>
  rw [List.find?_cons,List.map_cons,List.any_cons]
  cases h:decide (a.1=k) with
  | true=>rfl
  | false=>rw [Bool.false_or];exact ih
theorem zec {B1 B2:List Addr}{b:Bool}(g:Same F H)(hx:Tr W F H x v B1)(hy:Tr W F H y u B2)(e:inT x y=some b) :
  (∃ i j,v=.str i/\u=.str j/\(!(Builtin.Str.occurrences j i 0 j.length 1).isEmpty)=b)\/(∃ p xs,u=.ref p/\(SqL W.K H p xs\/SqT W.K H p xs)/\zE v=true/\xs.all zE=true/\inV v xs=b)\/∃ a o,u=.ref a/\DGet H a v o/\o.isSome=b:=by
 rcases zw e with e | e
 ·obtain⟨a,l,e1,e2,e⟩:=zq e
  obtain⟨rfl,_⟩:=zO hx e1
  obtain⟨rfl,_⟩:=zO hy e2
  refine .inl ⟨S a,S l,rfl,rfl,?_⟩
  simp only [Option.some.injEq] at e
  rw [← e]
  split
  ·exact StrLaws.found_one (S l) _
  ·rfl
 rcases zw e with e | e
 ·obtain⟨x',vs,e1,e2,e⟩:=zq e
  cases e
  obtain⟨rfl,f1⟩:=Jl hx e1
  rw [Option.bind_eq_some_iff] at e2
  obtain⟨ys,e2,e3⟩:=e2
  obtain⟨p,us,C,rfl,h3,h4,_⟩:=yu g hy e2
  obtain⟨rfl,f2⟩:=VV h4 e3
  exact .inr (.inl ⟨p,us,rfl,h3,f1,f2,rfl⟩)
 ·obtain⟨k,d,e1,e2,e⟩:=zq e
  cases e
  have hk:=VX hx e1
  subst hk
  obtain⟨p,kvs,C,rfl,h1,h2,h3,_⟩:=XI g hy e2
  exact .inr (.inr ⟨p,_,rfl,DGet.k h1,zaT h2⟩)
theorem zfv (op:CO):OS W (cmpR W.K op) (fun x y=>(cmpO op x y).map .bl):=by
 intro F H x y v u B1 B2 o Q g hx hy e q
 simp only [Option.map_eq_some_iff] at e
 obtain⟨b,e,rfl⟩:=e
 have fin:Q (.bl b) H:=q _ F H [] (Al.refl g) vR
 have isis:∀ b',isT x y=some b'->(u=.non/\decide (v=.non)=b')\/∃ c,u=.bl c/\∃ k,v=.bl k/\(k == c)=b':=fun b' e=>by
  unfold isT at e
  split at e
  ·exact .inl ⟨hy.2,VW (hx.now g) e⟩
  ·rw [Option.map_eq_some_iff] at e
   obtain⟨k,e,rfl⟩:=e
   exact .inr ⟨_,hy.2,k,v7 hx e,rfl⟩
  ·cases e
 cases op<;>simp only [cmpO] at e
 ·rcases zeb g hx hy e with⟨h1,h2⟩ | ⟨d,d',a,c,e1,e2,h1,h2,h3,h4⟩
  ·exact .inl ⟨h1,by rw [h2];exact fin⟩
  ·exact .inr ⟨d,d',a,c,e1,e2,h1,h2,h3,by rw [h4];exact fin⟩
 ·rw [Option.map_eq_some_iff] at e
  obtain⟨b',e,rfl⟩:=e
  rcases zeb g hx hy e with⟨h1,h2⟩ | ⟨d,d',a,c,e1,e2,h1,h2,h3,h4⟩
  ·exact .inl ⟨h1,by rw [h2];exact fin⟩
  ·exact .inr ⟨d,d',a,c,e1,e2,h1,h2,h3,by rw [h4];exact fin⟩
 ·obtain⟨i,j,e1,e2,e⟩:=zq e
  cases e
  exact⟨i,j,zx hx e1,zx hy e2,fin⟩
 ·obtain⟨i,j,e1,e2,e⟩:=zq e
  cases e
  exact⟨i,j,zx hx e1,zx hy e2,fin⟩
 ·obtain⟨i,j,e1,e2,e⟩:=zq e
  cases e
  exact⟨i,j,zx hx e1,zx hy e2,fin⟩
 ·obtain⟨i,j,e1,e2,e⟩:=zq e
  cases e
  exact⟨i,j,zx hx e1,zx hy e2,fin⟩
 ·rcases zec g hx hy e with⟨i,j,e1,e2,h⟩ | ⟨p,xs,e1,h1,h2,h3,h⟩ | ⟨a,o,e1,h1,h⟩
  ·exact .inl ⟨i,j,e1,e2,by rw [h];exact fin⟩
  ·exact .inr (.inl ⟨p,xs,e1,h1,h2,h3,by rw [if_neg (by decide),h];exact fin⟩)
  ·exact .inr (.inr ⟨a,o,e1,h1,by rw [if_neg (by decide),h];exact fin⟩)
 ·rw [Option.map_eq_some_iff] at e
  obtain⟨b',e,rfl⟩:=e
  rcases zec g hx hy e with⟨i,j,e1,e2,h⟩ | ⟨p,xs,e1,h1,h2,h3,h⟩ | ⟨a,o,e1,h1,h⟩
  ·exact .inl ⟨i,j,e1,e2,by rw [h];exact fin⟩
  ·exact .inr (.inl ⟨p,xs,e1,h1,h2,h3,by rw [if_pos rfl,h];exact fin⟩)
  ·exact .inr (.inr ⟨a,o,e1,h1,by rw [if_pos rfl,h];exact fin⟩)
 ·rcases isis _ e with⟨e1,h⟩ | ⟨c,e1,k,e2,h⟩
  ·exact .inl ⟨e1,by rw [h];exact fin⟩
  ·exact .inr ⟨c,e1,k,e2,by rw [h];exact fin⟩
 ·rw [Option.map_eq_some_iff] at e
  obtain⟨b',e,rfl⟩:=e
  rcases isis _ e with⟨e1,h⟩ | ⟨c,e1,k,e2,h⟩
  ·exact .inl ⟨e1,by rw [h];exact fin⟩
  ·exact .inr ⟨c,e1,k,e2,by rw [h];exact fin⟩
end L4
namespace L4
open PySem L2 PySem.Spec PyProof.Rows
variable {W:Wd} {F H:Hp} {B:List Addr} {x y z:T} {v u:V}
theorem VY:∀ {ks:List Key} {xs:List T} {kvs:List (Key×V)} {k:Key} {C:List Addr} {d:T},kvs.map (·.1)=ks->TrL W F H xs (kvs.map (·.2)) C->dget ks xs k=some d->∃ v D,valV kvs k=some v/\Tr W F H d v D/\D.Sublist C
 | _,_,[],_,_,_,e,h,q=>by
  subst e
  simp [dget] at q
 | _,xs,(k',v')::kvs,k,C,d,e,h,q=>by
  subst e
  cases xs with
  | nil=>simp [dget] at q
  | cons x xs=>
   obtain⟨w,r,A1,A2,e1,rfl,h1,h2⟩:=h
   cases e1
   by_cases hk:k' = k
   ·subst hk
    simp [dget] at q
    subst q
    exact⟨v',A1,by simp [valV],h1,List.sublist_append_left _ _⟩
   ·have q':dget (kvs.map (·.1)) xs k=some d:=by
     simpa [dget,List.find?_cons,hk] using q
    obtain⟨v,D,e2,h3,h4⟩:=VY rfl h2 q'
    refine⟨v,D,?_,h3,h4.trans (List.sublist_append_right _ _)⟩
    unfold valV at e2 ⊢
    rw [List.find?_cons]
    simpa [hk] using e2
theorem zgQ {B1 B2:List Addr}{Q:VK}(g:Same F H)(hx:Tr W F H x v B1)(hy:Tr W F H y u B2)(e:ixO x y=some z)(q:∀ w C,Tr W F H z w C->C.Sublist B1->Q w H):ixR W.K v u H Q:=by
 rcases zw e with h0 | h0<;>(clear e;have e:=h0;clear h0)
 ·obtain⟨xs,i,e1,e2,e⟩:=zq e
  have hu:=zx hy e2
  subst hu
  obtain⟨p,vs,C,rfl,h1,h2,h3⟩:=yu g hx e1
  obtain⟨w,D,h4,h5,h6⟩:=h2.at e
  have fin:=q w D h5 (h6.trans h3)
  rcases h1 with h1 | h1
  ·exact .inl ⟨p,vs,i,w,rfl,rfl,h1,h4,fin⟩
  ·exact .inr (.inl ⟨p,vs,i,w,rfl,rfl,h1,h4,fin⟩)
 rcases zw e with h0 | h0<;>(clear e;have e:=h0;clear h0)
 ·obtain⟨t,i,e1,e2,e3⟩:=zq e
  have hu:=zx hy e2
  subst hu
  obtain⟨rfl,hl⟩:=zO hx e1
  simp only [Option.map_eq_some_iff] at e3
  obtain⟨c,e4,rfl⟩:=e3
  exact .inr (.inr (.inl ⟨t,i,c,rfl,rfl,by rw [sizeLine_eq];exact hl,e4,q _ [] (jE (by simp)) (List.nil_sublist _)⟩))
 ·obtain⟨d,k,e1,e2,e⟩:=zq e
  have hu:=VX hy e2
  subst hu
  obtain⟨p,kvs,C,rfl,h1,h2,h3,h4⟩:=XI g hx e1
  obtain⟨w,D,h5,h6,h7⟩:=VY h2 h3 e
  refine .inr (.inr (.inr ⟨p,w,rfl,?_,q w D h6 (h7.trans h4)⟩))
  rw [← h5]
  exact DGet.k h1
theorem zgR {B1:List Addr}{lo hi:Option Int}{Q:VK}(g:Same F H)(hx:Tr W F H x v B1)(e:slO x lo hi=some z)(q:∀ w F' H' B,Al F H F' H' B->Tr W F' H' z w B->Q w H'):slR W.K v lo hi H Q:=by
 rcases zw e with h0 | h0<;>(clear e;have e:=h0;clear h0)
 ·rw [Option.map_eq_some_iff] at e
  obtain⟨t,e,rfl⟩:=e
  obtain⟨rfl,hl⟩:=zO hx e
  exact .inl ⟨t,rfl,by rw [sizeLine_eq];exact hl,q _ F H [] (Al.refl g) (jE (Nat.le_trans (zaS t lo hi) hl))⟩
 rcases zw e with h0 | h0<;>(clear e;have e:=h0;clear h0)
 ·rw [Option.map_eq_some_iff] at e
  obtain⟨xs,e,rfl⟩:=e
  obtain⟨e,s⟩:=zJ e
  obtain⟨p,vs,C,rfl,h1,h2,_⟩:=zaR g hx e
  exact .inr (.inl ⟨p,vs,rfl,h1,ZE g ((h2.sh s).cut0 lo hi) q⟩)
 ·rw [Option.map_eq_some_iff] at e
  obtain⟨xs,e,rfl⟩:=e
  obtain⟨e,s⟩:=zJ e
  obtain⟨p,vs,C,rfl,h1,h2,_⟩:=wm hx e
  have h3:=(h2.sh s).cut0 lo hi
  refine .inr (.inr ⟨p,vs,rfl,g _ _ h1,fun z=>?_,XJ g h3 q⟩)
  rw [z] at h3
  exact q _ F H [] (Al.refl g) ⟨p,vs,rfl,h1,h3⟩
theorem zfw {b:Bool}(g:Same F H)(hx:Tr W F H x v B)(e:truT x=some b):TruV W.K v H b:=by
 unfold truT at e
 split at e
 ·cases e;rw [hx.2];rfl
 ·cases e;rw [hx.2];rfl
 ·cases e;rw [hx.2];rfl
 ·rename_i t
  cases e
  obtain⟨_,rfl,hl⟩:=hx
  have e1:(S t).length=t.length:=by simp [S,Str.length]
  refine⟨by rw [e1,sizeLine_eq];exact hl,?_⟩
  rw [e1]
  cases t<;>simp [bne]
  omega
 ·rcases zw e with h0 | h0<;>(clear e;have e:=h0;clear h0)
  ·rw [Option.map_eq_some_iff] at e
   obtain⟨xs,e,rfl⟩:=e
   obtain⟨p,vs,C,rfl,h1,h2,_⟩:=yu g hx e
   rcases h1 with h1 | h1
   ·exact .inl ⟨vs,h1,zaQ h2.len⟩
   ·exact .inr (.inl ⟨vs,h1,zaQ h2.len⟩)
  ·rw [Option.map_eq_some_iff] at e
   obtain⟨d,e,rfl⟩:=e
   obtain⟨p,kvs,C,rfl,h1,h2,h3,h4⟩:=XI g hx e
   refine .inr (.inr ⟨kvs,h1,?_⟩)
   rw [← h2]
   cases kvs<;>simp
noncomputable def biR (K:PySem.W.Frag):BI->List V->Hp->VK->Prop
 | .len=>fun xs H Q=>zdL K xs H Q\/∃ l,xs=[.str (S l)]/\l.length<=sizeLine/\Q (.int l.length) H
 | .int=>fun xs H Q=>((∃ i,xs=[.int i]/\Q (.int i) H)\/∃ k,xs=[.bl k]/\Q (.int (if k then 1 else 0)) H)\/∃ c d:Nat,xs=[.str (S [c,d])]/\yn c=true/\yn d=true/\Q (.int (((c - 48) * 10+(d - 48):Nat):Int)) H
 | .str=>fun xs H Q=>∃ n:Nat,xs=[.int n]/\n<100/\Q (.str (S (dg n))) H
 | .list=>fun xs H Q=>(∃ p ys,xs=[.ref p]/\(SqL K H p ys\/SqT K H p ys)/\∀ l,H l=none->Q (.ref l) (upd H l (.lst ys)))\/zar xs H Q
 | .tuple=>fun xs H Q=>∃ p ys,xs=[.ref p]/\((SqL K H p ys/\∀ l,H l=none->Q (.ref l) (upd H l (.tup ys)))\/(SqT K H p ys/\Q (.ref p) H))
 | .all=>zd6
 | .max=>fun xs H Q=>∃ i j,xs=[.int i,.int j]/\Q (.int (if j > i then j else i)) H
 | .min=>fun xs H Q=>∃ i j,xs=[.int i,.int j]/\Q (.int (if j<i then j else i)) H
noncomputable def biN:BI->Str
 | .len=>"len"
 | .int=>"int"
 | .str=>"str"
 | .list=>"list"
 | .tuple=>"tuple"
 | .all=>"all"
 | .max=>"max"
 | .min=>"min"
theorem zgS {X:Cx}{K:PySem.W.Frag}{a:Expr}{es:List Expr}{ta:TA}{p pos:Pos}(b:BI)(hK:X.K=K)(hc:X.calm=true)(hg:Gl X (biN b))(hm:X.mg (biN b)=none)(ha:PA X (a::es) ta)
  (hs:starEach (a::es) X.env=(false,eval a X.env)::starEach es X.env) (h:(backTo pos (starEach es X.env)).any (·.1)=false):PE X (.Call (.Name (biN b) p) (a::es) [] pos) (tCB (biR K b) ta):=by
 subst hK
 cases b
 ·exact wB (ZD (Xy rfl) YO) hg hm zfd ha (by decide) (by decide) hs h
 ·exact vE (ZD YG YU) hg hm zal ha (by decide) (by decide) hs h
 ·exact vE YS hg hm zak ha (by decide) (by decide) hs h
 ·exact vE (ZD Je (XD hc)) hg hm VA ha (by decide) (by decide) hs h
 ·exact vE Qd hg hm Wn ha (by decide) (by decide) hs h
 ·exact wB (Y3 hc) hg hm zfo ha (by decide) (by decide) hs h
 ·exact wB (YE hc) hg hm zfe ha (by decide) (by decide) hs h
 ·exact wB (YF hc) hg hm zff ha (by decide) (by decide) hs h
theorem zaU:∀ {ds:List T} {vs:List V} {bs:List Bool} {C:List Addr},TrL W F H ds vs C->biO.bls ds=some bs->vs=bs.map V.bl
 | [],_,_,_,h,e=>by cases e;exact h.1
 | d::ds,_,_,_,⟨v,r,A1,A2,e0,_,h1,h2⟩,e=>by
  obtain⟨b,bs,e1,e2,e⟩:=zq e
  cases e
  rw [e0,v7 h1 e1,zaU h2 e2];rfl
theorem ZG:∀ t:List Nat,TrL W F H (signs t) (t.map fun c=>V.str (S [c])) []
 | []=>⟨rfl,rfl⟩
 | c::t=>TrL.cons0 (jE (by simp)) (ZG t)
theorem TrL.one' {t:T}{vs:List V}{C:List Addr}(h:TrL W F H [t] vs C):∃ v,vs=[v]/\Tr W F H t v C:=by
 obtain⟨v,r,A1,A2,e,ea,h1,h2⟩:=h
 obtain⟨rfl,rfl⟩:=h2
 rw [List.append_nil] at ea
 exact⟨v,e,by rw [ea];exact h1⟩
theorem TrL.two' {t t':T}{vs:List V}{C:List Addr}(h:TrL W F H [t,t'] vs C):∃ v v' A1 A2,vs=[v,v']/\C=A1++A2/\Tr W F H t v A1/\Tr W F H t' v' A2:=by
 obtain⟨v,r,A1,A2,e,ea,h1,h2⟩:=h
 obtain⟨v',rfl,h3⟩:=h2.one'
 exact⟨v,v',A1,A2,e,ea,h1,h3⟩
theorem zgT {b:BI}{ts:List T}{vs:List V}{Q:VK}(g:Same F H)(hx:TrL W F H ts vs B)(e:biO b ts=some z)(q:∀ w F' H' B,Al F H F' H' B->Tr W F' H' z w B->Q w H'):biR W.K b vs H Q:=by
 have qi:∀ i,z=.int i->Q (.int i) H:=fun i e=>by subst e;exact q _ F H [] (Al.refl g) xP
 unfold biO at e
 split at e
 ·rename_i x
  obtain⟨v,ev,hx1⟩:=hx.one'
  subst ev
  clear hx
  have hx:=hx1
  clear hx1
  cases b<;>dsimp only at e
  ·rcases zw e with h0 | h0<;>(clear e;have e:=h0;clear h0)
   ·rw [Option.map_eq_some_iff] at e
    obtain⟨t,e,rfl⟩:=e
    obtain⟨rfl,hl⟩:=zO hx e
    exact .inr ⟨t,rfl,by rw [sizeLine_eq];exact hl,qi _ rfl⟩
   ·rw [Option.map_eq_some_iff] at e
    obtain⟨xs,e,rfl⟩:=e
    obtain⟨p,vs,C,rfl,h1,h2,_⟩:=yu g hx e
    exact .inl ⟨p,vs,rfl,h1,by rw [h2.len];exact qi _ rfl⟩
  ·rcases zw e with h0 | h0<;>(clear e;have e:=h0;clear h0)
   ·rw [Option.map_eq_some_iff] at e
    obtain⟨t,e,rfl⟩:=e
    exact .inl (.inr ⟨t,by rw [v7 hx e],qi _ rfl⟩)
   rcases zw e with h0 | h0<;>(clear e;have e:=h0;clear h0)
   ·rw [Option.map_eq_some_iff] at e
    obtain⟨t,e,rfl⟩:=e
    exact .inl (.inl ⟨t,by rw [zx hx e],qi _ rfl⟩)
   ·rw [Option.bind_eq_some_iff] at e
    obtain⟨t,e,e2⟩:=e
    split at e2
    ·rename_i c d
     simp only [Option.ite_none_right_eq_some,Option.some.injEq] at e2
     obtain⟨rfl,_⟩:=zO hx e
     exact .inr ⟨c,d,rfl,e2.1.1,e2.1.2,qi _ e2.2.symm⟩
    ·cases e2
  ·rw [Option.bind_eq_some_iff] at e
   obtain⟨i,e,e2⟩:=e
   simp only [Option.ite_none_right_eq_some,Option.some.injEq] at e2
   obtain⟨h,rfl⟩:=e2
   refine⟨i.toNat,by rw [zx hx e,Int.toNat_of_nonneg h.1],by omega,q _ F H [] (Al.refl g) (jE ?_)⟩
   have:∀ m∈List.range 100,(dg m).length<=16777216:=by decide +kernel
   exact this _ (List.mem_range.mpr (by omega))
  ·rcases zw e with h0 | h0<;>(clear e;have e:=h0;clear h0)
   ·rw [Option.map_eq_some_iff] at e
    obtain⟨xs,e,rfl⟩:=e
    obtain⟨e,s⟩:=zJ e
    obtain⟨p,vs,C,rfl,h1,h2,_⟩:=yu g hx e
    exact .inl ⟨p,vs,rfl,h1,ZE g (h2.sh s) q⟩
   ·rw [Option.bind_eq_some_iff] at e
    obtain⟨t,e,e2⟩:=e
    simp only [Option.ite_none_right_eq_some,Option.some.injEq] at e2
    obtain⟨h,rfl⟩:=e2
    obtain⟨rfl,_⟩:=zO hx e
    exact .inr ⟨t,rfl,h,ZE g (ZG t) q⟩
  ·rw [Option.map_eq_some_iff] at e
   obtain⟨xs,e,rfl⟩:=e
   obtain⟨e,s⟩:=zJ e
   rcases zw e with h0 | h0<;>(clear e;have e:=h0;clear h0)
   ·obtain⟨p,vs,C,rfl,h1,h2,_⟩:=zaR g hx e
    exact⟨p,vs,rfl,.inl ⟨h1,XJ g (h2.sh s) q⟩⟩
   ·obtain⟨p,vs,C,rfl,h1,h2,_⟩:=wm hx e
    exact⟨p,vs,rfl,.inr ⟨SqT.of (g _ _ h1),q _ F H [] (Al.refl g) ⟨p,vs,rfl,h1,h2.sh s⟩⟩⟩
  ·rw [Option.bind_eq_some_iff] at e
   obtain⟨xs,e,e2⟩:=e
   rw [Option.map_eq_some_iff] at e2
   obtain⟨bs,e2,rfl⟩:=e2
   obtain⟨p,vs,C,rfl,h1,h2,_⟩:=xQ g hx e
   rw [zaU h2 e2] at h1
   exact⟨p,bs,rfl,h1,q _ F H [] (Al.refl g) vR⟩
  ·cases e
  ·cases e
 ·rename_i x y
  obtain⟨v,v',A1,A2,ev,_,hx1,hy⟩:=hx.two'
  subst ev
  clear hx
  have hx:=hx1
  clear hx1
  cases b<;>dsimp only at e<;>first | (cases e;done) | skip
  ·obtain⟨i,j,e1,e2,e⟩:=zq e
   exact⟨i,j,by rw [zx hx e1,zx hy e2],qi _ (by cases e;rfl)⟩
  ·obtain⟨i,j,e1,e2,e⟩:=zq e
   exact⟨i,j,by rw [zx hx e1,zx hy e2],qi _ (by cases e;rfl)⟩
 ·cases e
noncomputable def tyN:TyK->String
 | .str=>"str"
 | .int=>"int"
 | .bool=>"bool"
 | .list=>"list"
 | .tuple=>"tuple"
 | .dict=>"dict"
theorem zaV {H:Hp}{n:TyK}:∀ {t:T} {v:V},IsV W H t v->tyOf t=some n->TyOf W.K H v (.type (tyN n))
 | .bl _,_,h,e=>by cases e;rw [show _=V.bl _ from h];exact .bl _
 | .int _,_,h,e=>by cases e;rw [show _=V.int _ from h];exact .int _
 | .str _,_,h,e=>by cases e;rw [h.1];exact .str _
 | .tp _,_,⟨p,vs,e0,h1,_⟩,e=>by cases e;rw [e0];exact .tup h1
 | .ls _,_,⟨p,vs,e0,h1,_⟩,e=>by cases e;rw [e0];exact .lst h1
 | .fz t,v,h,e=>zaV (t:=t) (v:=v) h (by simpa only [tyOf] using e)
 | .non,_,_,e=>by cases e
 | .hol _,_,_,e=>by cases e
 | .ks _ _,_,_,e=>by cases e
theorem zaW {K:PySem.W.Frag}{n k:TyK}:PySem.W.kitOne K (.type (tyN n)) (.type (tyN k))=some (if n=.bool then k == .bool||k == .int else k == n):=by cases n<;>cases k<;>rfl
theorem zaX {b:Bool}{ks:List TyK}(g:Same F H)(hx:Tr W F H x v B)(e:isiO x ks=some b):∃ t,TyOf W.K H v t/\∃ f:TyK->Bool,(∀ k,PySem.W.kitOne W.K t (.type (tyN k))=some (f k))/\ks.any f=b:=by
 have hn:=hx.now g
 unfold isiO at e
 split at e
 ·rename_i h
  cases e
  refine⟨_,zaV hn h,fun k=>k == .bool||k == .int,fun k=>by rw [zaW];rfl,?_⟩
  induction ks with
  | nil=>rfl
  | cons k ks ih=>rw [List.any_cons,ih];cases k<;>simp [List.contains_cons]<;>cases (ks.contains TyK.bool)<;>cases (ks.contains TyK.int)<;>rfl
 ·rename_i k' nb h
  cases e
  refine⟨_,zaV hn h,fun k=>k == k',fun k=>by rw [zaW,if_neg nb],?_⟩
  induction ks with
  | nil=>rfl
  | cons k ks ih=>rw [List.any_cons,List.contains_cons,ih,show(k == k')=(k' == k) from BEq.comm]
 ·split at e
  ·cases e
   refine⟨.type "NoneType",by rw [hx.2];exact .non,fun _=>false,fun k=>by cases k<;>rfl,?_⟩
   induction ks with
   | nil=>rfl
   | cons k ks ih=>rw [List.any_cons,ih];rfl
  ·cases e
end L4
namespace L4
open PySem L2 PySem.Spec PyProof.Rows
variable {W:Wd} {F H:Hp} {B:List Addr} {x y z:T} {v u:V}
noncomputable def meR (K:PySem.W.Frag):ME->V->List V->Hp->VK->Prop
 | .join=>rJoin K
 | .index=>fun x vs H Q=>∃ (l y:List Nat) (i:Nat) (r:List Nat),x=.str (S l)/\vs=[.str (S y)]/\occs l y=i::r/\Q (.int (i:Int)) H
 | .startswith=>VP
 | .zfill=>zah
 | .get2=>fun _ _ _ _=>False
theorem Y8 {X:Cx}{K:PySem.W.Frag}:MtR X "str.index" (meR K .index):=by
 intro pins s σ H x xs v us Q I rx rs h
 obtain⟨l,y,i,r,rfl,rfl,ho,q⟩:=h
 obtain⟨t,rfl⟩:=rx
 obtain⟨u,rfl,t',rfl⟩:=vals1 rs
 exact SC.index ho ⟨.int (i:Int),H,I.tok _,⟨_,rfl⟩,q⟩
theorem Y9 {l:List Nat}{n:Nat}(h:undg l=some n):n<100/\dg n=l:=by
 unfold undg at h
 have h1:=List.find?_some h
 have h2:=List.mem_of_find?_eq_some h
 exact⟨List.mem_range.mp h2,by simpa using h1⟩
theorem VZ:∀ {ds:List T} {vs:List V} {ts:List (List Nat)} {C:List Addr},TrL W F H ds vs C->txts ds=some ts->vs=ts.map fun l=>V.str (S l)
 | [],_,_,_,h,e=>by cases e;exact h.1
 | d::ds,_,_,_,⟨v,r,A1,A2,e0,_,h1,h2⟩,e=>by
  obtain⟨b,bs,e1,e2,e⟩:=zq e
  cases e
  rw [e0,(zO h1 e1).1,VZ h2 e2];rfl
theorem zgU {m:ME}{ts:List T}{vs:List V}{B1:List Addr}{Q:VK}(hm:m≠.get2)(g:Same F H)(hx:Tr W F H x v B1)(ht:TrL W F H ts vs B)(e:meO m x ts=some z)(q:∀ w F' H' B,Al F H F' H' B->Tr W F' H' z w B->Q w H'):meR W.K m v vs H Q:=by
 unfold meO at e
 split at e
 ·obtain⟨u,rfl,hy⟩:=ht.one'
  obtain⟨a,ts,e1,e2,e3⟩:=zq e
  simp only [Option.ite_none_right_eq_some,Option.some.injEq] at e3
  obtain⟨⟨rfl,h⟩,rfl⟩:=e3
  rw [Option.bind_eq_some_iff] at e2
  obtain⟨xs,e2,e4⟩:=e2
  obtain⟨p,us,C,rfl,h1,h2,_⟩:=xQ g hy e2
  rw [VZ h2 e4] at h1
  exact⟨p,ts,(zO hx e1).1,rfl,SqL.of h1,h,q _ F H [] (Al.refl g) (jE h)⟩
 ·obtain⟨u,rfl,hy⟩:=ht.one'
  obtain⟨l,y,e1,e2,e3⟩:=zq e
  rw [Option.map_eq_some_iff] at e3
  obtain⟨i,e3,rfl⟩:=e3
  obtain⟨rfl,_⟩:=zO hx e1
  obtain⟨rfl,_⟩:=zO hy e2
  cases ho:occs l y with
  | nil=>rw [ho] at e3;cases e3
  | cons j r=>
   rw [ho] at e3
   cases e3
   exact⟨l,y,j,r,rfl,rfl,ho,q _ F H [] (Al.refl g) xP⟩
 ·obtain⟨u,rfl,hy⟩:=ht.one'
  obtain⟨l,y,e1,e2,e3⟩:=zq e
  cases e3
  obtain⟨rfl,_⟩:=zO hx e1
  obtain⟨rfl,_⟩:=zO hy e2
  exact⟨l,y,rfl,rfl,q _ F H [] (Al.refl g) vR⟩
 ·obtain⟨u,rfl,hy⟩:=ht.one'
  obtain⟨l,k,e1,e2,e3⟩:=zq e
  simp only [Option.ite_none_right_eq_some,Option.map_eq_some_iff] at e3
  obtain⟨rfl,n,e3,rfl⟩:=e3
  obtain⟨h1,h2⟩:=Y9 e3
  obtain⟨rfl,_⟩:=zO hx e1
  have hu:=zx hy e2
  subst hu
  refine⟨n,by rw [h2],rfl,h1,q _ F H [] (Al.refl g) (jE ?_)⟩
  have:∀ m∈List.range 100,(dg2 m).length<=16777216:=by decide +kernel
  exact this _ (List.mem_range.mpr h1)
 ·exact absurd rfl hm
 ·cases e
structure Mu (W:Wd)(F H:Hp)(M B:List Addr)(t' r:T)(v w:V)(H':Hp)(M' Br:List Addr):Prop where
 keep:∀ b y,H b=some y->b∉M->H' b=some y
 dom:∀ b y,H b=some y->∃ y',H' b=some y'
 old:∀ b y,H' b=some y->∃ y',H b=some y'
 tx:Tr W F H' t' v M'
 tr:Tr W F H' r w Br
 sub:∀ b∈M'++Br,b∈M\/b∈B
 nd:(M'++Br).Nodup
noncomputable def muR:MU->V->List V->Hp->VK->Prop
 | .append=>Vx
 | .extend=>Vy
 | .pop=>rPop
 | .clear=>K6
 | .insert=>fun _ _ _ _=>False
 | .popI=>fun _ _ _ _=>False
theorem Mu.mk' {p:Addr}{o:HO}{M B M' Br:List Addr}{t' r:T}{v w:V}(hp:∃ y,H p=some y)(hM:p∈M)(tx:Tr W F (upd H p o) t' v M')(tr:Tr W F (upd H p o) r w Br)(sub:∀ b∈M'++Br,b∈M\/b∈B)(nd:(M'++Br).Nodup):Mu W F H M B t' r v w (upd H p o) M' Br:=by
 refine⟨fun b y h n=>?_,fun b y h=>?_,fun b y h=>?_,tx,tr,sub,nd⟩
 ·rw [zA (fun e=>n (by rw [e];exact hM))];exact h
 ·by_cases e:b=p
  ·subst e;exact⟨_,zF⟩
  ·rw [zA e];exact⟨y,h⟩
 ·by_cases e:b=p
  ·subst e;exact hp
  ·rw [zA e] at h;exact⟨y,h⟩
theorem TrL.upd {ts:List T}{vs:List V}{C:List Addr}{p:Addr}{o:HO}(h:TrL W F H ts vs C)(hp:p∉C):TrL W F (upd H p o) ts vs C:=h.frame (fun _ _ h=>h) fun b hb x hx=>by rw [zA (fun e:b=p=>hp (e ▸ hb))];exact hx
theorem Tr.upd {t:T}{v:V}{C:List Addr}{p:Addr}{o:HO}(h:Tr W F H t v C)(hp:p∉C):Tr W F (L2.upd H p o) t v C:=h.frame (fun _ _ h=>h) fun b hb x hx=>by rw [zA (fun e:b=p=>hp (e ▸ hb))];exact hx
theorem TrL.last:∀ {ts:List T} {vs:List V} {A:List Addr} {t:T},TrL W F H ts vs A->ts[ts.length - 1]? = some t->∃ v A1 A2,vs[vs.length - 1]? = some v/\A=A1++A2/\TrL W F H ts.dropLast vs.dropLast A1/\Tr W F H t v A2
 | [],_,_,_,_,e=>by simp at e
 | [o],_,_,_,h,e=>by
  obtain⟨v,rfl,h1⟩:=h.one'
  simp at e;subst e
  exact⟨v,[],_,rfl,rfl,⟨rfl,rfl⟩,h1⟩
 | o::o2::os,_,_,_,⟨v,r,A1,A2,e1,ea,h1,h2⟩,e=>by
  have hr:r≠[]:=fun z=>by subst z;have:=h2.len;cases this
  obtain⟨w,B1,B2,f1,f2,k1,k2⟩:=TrL.last h2 (by simpa using e)
  subst e1
  cases r with
  | nil=>exact absurd rfl hr
  | cons v2 r2=>exact⟨w,A1++B1,B2,by simpa using f1,by rw [ea,f2,List.append_assoc],⟨v,_,A1,B1,rfl,rfl,h1,k1⟩,k2⟩
theorem zgV {m:MU}{t t' r:T}{M:List Addr}{ts:List T}{us:List V}{Q:VK}(g:Same F H)(h:Tr W F H t v M)(ta:TrL W F H ts us B)(ndM:M.Nodup)(ndB:B.Nodup)(dis:∀ b∈M,b∉B)(e:muT m t ts=some (t',r))(q:∀ w H' M' Br,Mu W F H M B t' r v w H' M' Br->Q w H'):muR m v us H Q:=by
 unfold muT at e
 split at e
 ·rename_i xs y
  obtain⟨p,vs,M0,rfl,h1,rfl,h2⟩:=h
  obtain⟨n1,n2⟩:=List.nodup_cons.mp ndM
  obtain⟨u,rfl,hy⟩:=ta.one'
  split at e
  ·simp only [Option.ite_none_right_eq_some,Option.some.injEq,Prod.mk.injEq] at e
   obtain⟨hl,rfl,rfl⟩:=e
   have hpB:p∉B:=dis p List.mem_cons_self
   refine⟨p,vs,u,rfl,rfl,h1,by rw [h2.len,sizeLine_eq];exact hl,q .non _ (p::(M0++B)) [] (Mu.mk' ⟨_,h1⟩ List.mem_cons_self ⟨p,_,_,rfl,zF,rfl,(h2.upd n1).app (TrL.one (hy.upd hpB))⟩ yW (fun b hb=>?_) ?_)⟩
   ·simp only [List.append_nil,List.mem_cons,List.mem_append] at hb ⊢
    rcases hb with z | z | z
    ·exact .inl (.inl z)
    ·exact .inl (.inr z)
    ·exact .inr z
   ·rw [List.append_nil]
    refine List.nodup_cons.mpr ⟨fun z=>?_,zU n2 ndB fun b hb=>dis b (List.mem_cons_of_mem _ hb)⟩
    rcases List.mem_append.mp z with z | z
    ·exact n1 z
    ·exact hpB z
  ·rw [Option.bind_eq_some_iff] at e
   obtain⟨ys,e1,e2⟩:=e
   simp only [Option.ite_none_right_eq_some,Option.some.injEq,Prod.mk.injEq] at e2
   obtain⟨hl,rfl,rfl⟩:=e2
   obtain⟨e1,s⟩:=zJ e1
   obtain⟨b,zs,C,rfl,k1,k2,_⟩:=xQ g hy e1
   have tt:=(h2.upd (o:=.lst (vs++zs)) n1).app ((k2.sh s).upd (p:=p) (o:=.lst (vs++zs)) (fun z=>by cases z))
   rw [List.append_nil] at tt
   exact⟨p,b,vs,zs,rfl,rfl,h1,k1,by rw [h2.len,k2.len,sizeLine_eq];exact hl,q .non _ (p::M0) [] (Mu.mk' ⟨_,h1⟩ List.mem_cons_self ⟨p,_,_,rfl,zF,rfl,tt⟩ yW (fun b hb=>.inl (by simpa using hb)) (by rw [List.append_nil];exact ndM))⟩
  ·cases e
 ·rename_i xs
  obtain⟨p,vs,M0,rfl,h1,rfl,h2⟩:=h
  obtain⟨n1,n2⟩:=List.nodup_cons.mp ndM
  have hu:us=[]:=ta.1
  subst hu
  split at e
  ·rw [Option.map_eq_some_iff] at e
   obtain⟨d,e1,e2⟩:=e
   cases e2
   obtain⟨w,A1,A2,f1,rfl,k1,k2⟩:=h2.last e1
   rw [List.mem_append,not_or] at n1
   refine⟨p,vs,w,rfl,rfl,h1,f1,q w _ (p::A1) A2 (Mu.mk' ⟨_,h1⟩ List.mem_cons_self ⟨p,_,_,rfl,zF,rfl,k1.upd n1.1⟩ (k2.upd n1.2) (fun b hb=>.inl (by simpa using hb)) (by simpa using ndM))⟩
  ·cases e
   exact⟨p,vs,rfl,rfl,h1,q .non _ [p] [] (Mu.mk' ⟨_,h1⟩ List.mem_cons_self ⟨p,[],[],rfl,zF,rfl,rfl,rfl⟩ yW (fun b hb=>.inl (by simp at hb;rw [hb];exact List.mem_cons_self)) (by simp))⟩
  ·cases e
 ·cases e
def putR (o i w:V)(H:Hp)(Q:Hp->Prop):Prop:=zdI o i w H Q\/∃ a H',o=.ref a/\DPut H a i w H'/\Q H'
theorem zfx {t t' oT:T}{M C:List Addr}{w:V}{Q:Hp->Prop}(h:Tr W F H t v M)(hy:Tr W F H y u C)(ho:Tr W F H oT w B)(ndM:M.Nodup)(ndB:B.Nodup)(dis:∀ b∈M,b∉B)(e:putO t y oT=some t')(q:∀ H' M',Mu W F H M B t' .non v .non H' M' []->Q H'):putR v u w H Q:=by
 unfold putO at e
 split at e
 ·rename_i xs
  rw [Option.bind_eq_some_iff] at e
  obtain⟨n,e1,e⟩:=e
  rw [Option.map_eq_some_iff] at e
  obtain⟨j,e2,rfl⟩:=e
  have hu:=zx hy e1
  subst hu
  obtain⟨p,vs,M0,rfl,h1,rfl,h2⟩:=h
  obtain⟨n1,n2⟩:=List.nodup_cons.mp ndM
  have hpB:p∉B:=dis p List.mem_cons_self
  have hj:∃ d,xs[j]? = some d:=by
   have:j<xs.length:=by
    unfold ixN at e2
    split at e2
    ·split at e2
     ·cases e2;omega
     ·cases e2
    ·split at e2
     ·cases e2;omega
     ·cases e2
   exact⟨_,List.getElem?_eq_getElem this⟩
  obtain⟨d,hd⟩:=hj
  obtain⟨w0,A1,A2,A3,f1,rfl,f3,f4⟩:=h2.get hd
  simp only [List.mem_append,not_or] at n1
  have tt:=f4 (H':=upd H p (.lst (vs.set j w))) (fun _ _ h=>h) (fun b hb x hx=>by rw [zA (fun e:b=p=>n1.1 (e ▸ hb))];exact hx) (fun b hb x hx=>by rw [zA (fun e:b=p=>n1.2.2 (e ▸ hb))];exact hx) (ho.upd hpB)
  refine .inl ⟨p,vs,n,j,rfl,rfl,h1,by rw [h2.len];exact e2,q _ (p::(A1++(B++A3))) (Mu.mk' ⟨_,h1⟩ List.mem_cons_self ⟨p,_,_,rfl,zF,rfl,tt⟩ yW (fun b hb=>?_) ?_)⟩
  ·simp only [List.append_nil,List.mem_cons,List.mem_append] at hb ⊢
   rcases hb with z | z | z | z
   ·exact .inl (.inl z)
   ·exact .inl (.inr (.inl z))
   ·exact .inr z
   ·exact .inl (.inr (.inr (.inr z)))
  ·rw [List.append_nil]
   rw [List.nodup_append,List.nodup_append] at n2
   obtain⟨m1,⟨m2,m3,m4⟩,m5⟩:=n2
   have dB:∀ b∈B,b∉A1/\b∉A3:=fun b hb=>⟨fun z=>dis b (by simp [z]) hb,fun z=>dis b (by simp [z]) hb⟩
   refine List.nodup_cons.mpr ⟨?_,zU m1 (zU ndB m3 fun b hb=>(dB b hb).2) fun b hb z=>?_⟩
   ·simp only [List.mem_append,not_or];exact⟨n1.1,hpB,n1.2.2⟩
   ·rcases List.mem_append.mp z with z | z
    ·exact(dB b z).1 hb
    ·exact m5 b hb b (List.mem_append_right _ z) rfl
 ·cases e
end L4
namespace L4
open PySem L2 PySem.Spec PyProof.Rows
variable {W:Wd} {E:XS}
def IsX (W:Wd)(F:Hp)(x:Exn)(c:Value)(d:Option Addr):Prop:=c=.ref (W.cl x.c)/\∃ dd kvs,d=some dd/\F dd=some (.xd kvs)/\kvs.map (·.1)=x.fs/\IsVs W F x.ts (kvs.map (·.2))
structure EPo (W:Wd)(F H:Hp)(A:Nat->List Addr)(s:Sl)(σ:L2.St)(tl rl:List Nat)(t:T)(s':Sl)(v:V)(F' H':Hp)(A':Nat->List Addr)(B:List Addr):Prop where
 rep:Rep W F' H' s' σ A'
 mv:Mv F H s A tl F' H' s' A'
 tr:Tr W F' H' t v B
 vd:Vd A' F' H' rl B
 nd:B.Nodup
 new:∀ b∈B,¬ Ow A' b->H b=none\/Tch A tl b
structure LPo (W:Wd)(F H:Hp)(A:Nat->List Addr)(s:Sl)(σ:L2.St)(tl rl:List Nat)(t:List T)(s':Sl)(v:List V)(F' H':Hp)(A':Nat->List Addr)(B:List Addr):Prop where
 rep:Rep W F' H' s' σ A'
 mv:Mv F H s A tl F' H' s' A'
 tr:TrL W F' H' t v B
 vd:Vd A' F' H' rl B
 nd:rl=[]->B.Nodup
 new:∀ b∈B,¬ Ow A' b->H b=none\/Tch A tl b
structure XPo (W:Wd)(F H:Hp)(A:Nat->List Addr)(s:Sl)(σ:L2.St)(tl:List Nat)(x:Exn)(s':Sl)(c:Value)(d:Option Addr)(F' H':Hp)(A':Nat->List Addr):Prop where
 rep:Rep W F' H' s' σ A'
 mv:Mv F H s A tl F' H' s' A'
 xr:IsX W F' x c d
structure BPo (W:Wd)(F H:Hp)(A:Nat->List Addr)(s:Sl)(σ:L2.St)(tl:List Nat)(s':Sl)(F' H':Hp)(A':Nat->List Addr):Prop where
 rep:Rep W F' H' s' σ A'
 mv:Mv F H s A tl F' H' s' A'
structure PPo (W:Wd)(F H:Hp)(A:Nat->List Addr)(s:Sl)(σ:L2.St)(tl rl:List Nat)(i:Nat)(p:List Nat)(s':Sl)(v:V)(F' H':Hp)(A':Nat->List Addr):Prop where
 rep:Rep W F' H' s' σ A'
 mv:Mv F H s A tl F' H' s' A'
 at_:∃ r u w,s'[i]? = some (.own r)/\getT r p=some u/\σ[i]? = some (some w)/\vAt H' w p=some v
 rt:i∈rl
def XK4 (W:Wd)(E:XS)(F H:Hp)(A:Nat->List Addr)(s:Sl)(σ:L2.St)(tl:List Nat)(X4:XP):Prop:=∀ x s' c d F' H' A',XPo W F H A s σ tl x s' c d F' H' A'->X4 x s'->E c d σ H'
def SE (W:Wd)(E:XS)(tl rl:List Nat)(t:TE)(m:Sl->QP->XP->Prop):Prop:=∀ (F H:Hp) (s:Sl) (σ:L2.St) (A:Nat->List Addr) (Q4:QP) (X4:XP) (Q:VK),Rep W F H s σ A->m s Q4 X4 ->
 (∀ t' s' v F' H' A' B,EPo W F H A s σ tl rl t' s' v F' H' A' B->Q4 t' s'->Q v H')->XK4 W E F H A s σ tl X4->t σ H Q
def SA (W:Wd)(E:XS)(tl rl:List Nat)(t:TA)(m:Sl->(List T->Sl->Prop)->XP->Prop):Prop:=∀ (F H:Hp) (s:Sl) (σ:L2.St) (A:Nat->List Addr) (Q4:List T->Sl->Prop) (X4:XP) (Q:List V->Hp->Prop),Rep W F H s σ A->m s Q4 X4 ->
 (∀ t' s' v F' H' A' B,LPo W F H A s σ tl rl t' s' v F' H' A' B->Q4 t' s'->Q v H')->XK4 W E F H A s σ tl X4->t σ H Q
def ST (W:Wd)(E:XS)(tl:List Nat)(t:TT)(m:Sl->(Bool->Sl->Prop)->XP->Prop):Prop:=∀ (F H:Hp) (s:Sl) (σ:L2.St) (A:Nat->List Addr) (Q4:Bool->Sl->Prop) (X4:XP) (Q:Bool->Hp->Prop),Rep W F H s σ A->m s Q4 X4 ->
 (∀ b s' F' H' A',BPo W F H A s σ tl s' F' H' A'->Q4 b s'->Q b H')->XK4 W E F H A s σ tl X4->t σ H Q
def SP (W:Wd)(E:XS)(tl rl:List Nat)(t:TE)(m:Sl->(Nat->List Nat->Sl->Prop)->XP->Prop):Prop:=∀ (F H:Hp) (s:Sl) (σ:L2.St) (A:Nat->List Addr) (Q4:Nat->List Nat->Sl->Prop) (X4:XP) (Q:VK),Rep W F H s σ A->m s Q4 X4 ->
 (∀ i p s' v F' H' A',PPo W F H A s σ tl rl i p s' v F' H' A'->Q4 i p s'->Q v H')->XK4 W E F H A s σ tl X4->t σ H Q
section
variable {F H F1 H1 F2 H2:Hp} {A A1 A2:Nat->List Addr} {s s1 s2:Sl} {σ:L2.St} {tl tl' rl:List Nat} {B:List Addr} {z:T} {w:V}
theorem EPo.al (m:Mv F H s A tl F1 H1 s1 A1)(R:Rep W F1 H1 s1 σ A1)(a:Al F1 H1 F2 H2 B)(t:Tr W F2 H2 z w B):EPo W F H A s σ tl rl z s1 w F2 H2 A1 B:=
 ⟨a.rep R,m.trans' a.mv,t,(a.vd R).imp (fun _ h=>by cases h),a.nd,fun b hb _=>.inl (m.none (a.nB b hb).1)⟩
theorem XK4.mono {X4:XP}(k:XK4 W E F H A s σ tl' X4)(m:Mv F H s A tl' F1 H1 s1 A1)(h:∀ j∈tl,j∈tl'):XK4 W E F1 H1 A1 s1 σ tl X4:=fun x s' c d F' H' A' p h4=>k x s' c d F' H' A' ⟨p.rep,m.trans' (p.mv.mono h),p.xr⟩ h4
theorem XK4.sub {X4:XP}(k:XK4 W E F H A s σ tl' X4)(h:∀ j∈tl,j∈tl'):XK4 W E F H A s σ tl X4:=k.mono Mv.refl h
theorem Jm {rl1:List Nat}{B1:List Addr}(R1:Rep W F1 H1 s1 σ A1)(d:Vd A1 F1 H1 rl1 B1)(n:∀ b∈B1,¬ Ow A1 b->H b=none\/Tch A tl b)(m:Mv F1 H1 s1 A1 tl' F2 H2 s2 A2)(dj:∀ j∈rl1,j∉tl'):∀ b∈B1,¬ Ow A2 b->H b=none\/Tch A (tl++tl') b:=fun b hb no=>by
 have:¬ Ow A1 b:=fun z=>by
  rcases d.at_ b hb with y | ⟨j,h1,h2⟩
  ·exact y z
  ·exact no ⟨j,by rw [(m.slot j (dj j h1)).2];exact h2⟩
 exact(n b hb this).imp id fun⟨j,h1,h2⟩=>⟨j,List.mem_append_left _ h1,h2⟩
end
theorem SE.mono {tl tl' rl:List Nat}{t:TE}{m:Sl->QP->XP->Prop}(h:SE W E tl rl t m)(k:∀ j∈tl,j∈tl'):SE W E tl' rl t m:=fun F H s σ A Q4 X4 Q R e q x=>h F H s σ A Q4 X4 Q R e (fun t' s' v F' H' A' B p=>q t' s' v F' H' A' B ⟨p.rep,p.mv.mono k,p.tr,p.vd,p.nd,fun b hb no=>(p.new b hb no).imp id fun⟨j,h1,h2⟩=>⟨j,k j h1,h2⟩⟩) (x.sub k)
theorem ZH {s:Sl}{i:Nat}{p:List Nat}{t:T}(h:getP s i p=some t):∃ r,s[i]? = some (.own r)/\getT r p=some t:=by
 unfold getP at h
 split at h
 ·exact⟨_,by assumption,h⟩
 ·cases h
theorem se_b {md:Bool}{i:Nat}:SE W E [] (if md=true then [i] else []) (tVar i) (WE md (.b i)):=by
 intro F H s σ A Q4 X4 Q R h q x
 simp only [WE] at h
 obtain⟨t,h1,h2,h3⟩:=h
 obtain⟨v,e1,e2⟩:=R.slot i t h1
 refine⟨v,e1,q t s v F H A (A i) ⟨R,Mv.refl,e2,?_,R.nd i,fun b hb no=>absurd ⟨i,hb⟩ no⟩ h3⟩
 cases md with
 | true=>exact⟨R.own i,e2.cell,fun b hb=>.inr ⟨i,List.mem_singleton.mpr rfl,hb⟩⟩
 | false=>
  rw [yr (h2.resolve_left (by decide)) e2]
  exact Vd.nil
theorem zgW {F H:Hp}{s:Sl}{σ:L2.St}{A:Nat->List Addr}(R:Rep W F H s σ A){j i k:Nat}{p:List Nat}{t:T}(h1:atA j i s k p)(h2:getP s k p=some t):∃ r w v A2,s[k]? = some (.own r)/\getT r p=some t/\σ[k]? = some (some w)/\σ[j]? = some (some v)/\vAt H w p=some v/\Tr W F H t v A2/\A2.Nodup/\∀ b∈A2,b∈A k:=by
 obtain⟨r,e1,e2⟩:=ZH h2
 rcases h1 with⟨rfl,h1⟩ | ⟨rfl,rfl,_⟩
 ·obtain⟨t',u,w,v,k1,k2,k3,k4,k5⟩:=R.al j k p h1
  obtain⟨w',v',A1,A2,f1,f2,f3,f4,f5,_⟩:=R.detach e1 e2
  rw [k3] at f1
  cases f1
  rw [k5] at f2
  cases f2
  exact⟨r,w,v,A2,e1,e2,k3,k4,k5,f4,f5,fun b hb=>(f3 b).mpr (.inr hb)⟩
 ·cases e2
  obtain⟨v,k1,k2⟩:=R.slot k t e1
  exact⟨t,v,v,A k,e1,rfl,k1,k1,rfl,k2,R.nd k,fun b hb=>hb⟩
theorem zaY {j i k:Nat}{s:Sl}{p:List Nat}(h:atA j i s k p):k∈[i,j]:=by
 rcases h with⟨rfl,_⟩ | ⟨rfl,_⟩<;>simp
theorem se_a {md:Bool}{j i:Nat}:SE W E [] (if md=true then [i,j] else []) (tVar j) (WE md (.a j i)):=by
 intro F H s σ A Q4 X4 Q R h q x
 simp only [WE] at h
 obtain⟨k,p,t,h1,h2,h3,h4⟩:=h
 obtain⟨r,w,v,A2,e1,e2,e3,e4,e5,e6,e7,e8⟩:=zgW R h1 h2
 refine⟨v,e4,q t s v F H A A2 ⟨R,Mv.refl,e6,?_,e7,fun b hb no=>absurd ⟨k,e8 b hb⟩ no⟩ h4⟩
 cases md with
 | true=>exact⟨fun b hb=>R.own k b (e8 b hb),e6.cell,fun b hb=>.inr ⟨k,zaY h1,e8 b hb⟩⟩
 | false=>
  rw [yr (h3.resolve_left (by decide)) e6]
  exact Vd.nil
theorem zaZ {F H:Hp}{s:Sl}{A:Nat->List Addr}{i:Nat}{x:Slot}{B:List Addr}(h:∀ b∈B,H b=none\/b∈A i):Mv F H s A [i] F H (setS s i x) (setA A i B):=by
 refine⟨fun _ _ h=>h,fun _ _ h _=>h,fun _ o h=>⟨o,h⟩,fun _ o h=>.inl ⟨o,h⟩,fun j b hj hb=>?_,fun j hj=>?_⟩
 ·have:j=i:=List.mem_singleton.mp hj
  subst this
  rw [zH] at hb
  exact(h b hb).imp id fun z=>⟨j,hj,z⟩
 ·have:j≠i:=fun z=>hj (List.mem_singleton.mpr z)
  exact⟨fun t z=>(jY this).mpr z,zC this⟩
theorem zcK {F H:Hp}{s:Sl}{A:Nat->List Addr}{B:List Addr}{tl:List Nat}(h:∀ b∈B,F b=none)(k:∀ b∈B,H b=none\/Tch A tl b):Mv F H s A tl (adds F H B) H s A:=by
 refine⟨jk h,fun _ _ h _=>h,fun _ o h=>⟨o,h⟩,fun b o e=>?_,fun j b hj hb=>.inr ⟨j,hj,hb⟩,fun _ _=>⟨fun _ h=>h,rfl⟩⟩
 unfold adds at e
 split at e
 ·exact .inr (k b (by assumption))
 ·exact .inl ⟨o,e⟩
theorem se_v {md:Bool}{i:Nat}:SE W E [i] [] (tVar i) (WE md (.v i)):=by
 intro F H s σ A Q4 X4 Q R h q x
 simp only [WE] at h
 obtain⟨t,h1,h2⟩:=h
 obtain⟨v,e1,e2,R2⟩:=R.frz h1
 have m1:Mv F H s A [i] (adds F H (A i)) H s A:=zcK (R.own i) fun b hb=>.inr ⟨i,List.mem_singleton.mpr rfl,hb⟩
 exact⟨v,e1,q _ _ v _ H _ [] ⟨R2,m1.trans' (zaZ fun b hb=>by cases hb),Ji e2,Vd.nil,.nil,fun b hb=>by cases hb⟩ h2⟩
theorem se_m {md:Bool}{i:Nat}:SE W E [i] [] (tVar i) (WE md (.m i)):=by
 intro F H s σ A Q4 X4 Q R h q x
 simp only [WE] at h
 obtain⟨t,h1,h2⟩:=h
 obtain⟨v,e1,e2,R2,d⟩:=R.del h1
 exact⟨v,e1,q _ _ v F H _ (A i) ⟨R2,zaZ (fun b hb=>by cases hb),e2,d,R.nd i,fun b hb _=>.inr ⟨i,List.mem_singleton.mpr rfl,hb⟩⟩ h2⟩
theorem za0 {t:T}{v:V}{m:Sl->QP->XP->Prop}(hv:∀ F H:Hp,Tr W F H t v [])(hm:∀ s Q X,m s Q X->Q t s):SE W E [] [] (tC v) m:=by
 intro F H s σ A Q4 X4 Q R h q x
 exact q t s v F H A [] ⟨R,Mv.refl,hv F H,Vd.nil,.nil,fun b hb=>by cases hb⟩ (hm s Q4 X4 h)
theorem Mv.adds {F H F1 H1:Hp}{s s1:Sl}{A A1:Nat->List Addr}{B:List Addr}{tl:List Nat}(m:Mv F H s A tl F1 H1 s1 A1)(h:∀ b∈B,F1 b=Option.none)(k:∀ b∈B,H b=Option.none\/Tch A tl b):Mv F H s A tl (adds F1 H1 B) H1 s1 A1:=by
 refine⟨m.sF.trans (jk h),m.keep,m.dom,fun b o e=>?_,m.cells,m.slot⟩
 unfold L4.adds at e
 split at e
 ·exact .inr (k b (by assumption))
 ·exact m.frz b o e
theorem zfy {md:Bool}{tl:List Nat}{te:TE}{e:Xp}(he:SE W E tl [] te (WE false e)):SE W E tl [] te (WE md (.frz e)):=by
 intro F H s σ A Q4 X4 Q R h q x
 simp only [WE] at h
 refine he F H s σ A _ X4 Q R h (fun t s1 v F1 H1 A1 B p h1=>?_) x
 have no:∀ b∈B,¬ Ow A1 b:=fun b hb=>(p.vd.at_ b hb).resolve_right fun⟨_,z,_⟩=>by cases z
 exact q (fzn t) s1 v _ H1 A1 [] ⟨p.rep.adds p.vd,p.mv.adds p.vd.fr fun b hb=>p.new b hb (no b hb),Ji (p.vd.frozen p.tr),Vd.nil,.nil,fun b hb=>by cases hb⟩ h1
end L4
namespace L4
open PySem L2 PySem.Spec PyProof.Rows
variable {W:Wd} {E:XS}
theorem zc {α:Type}{a b:List α}:∀ j∈a,j∈a++b:=fun _ h=>List.mem_append_left _ h
theorem zd {α:Type}{a b:List α}:∀ j∈b,j∈a++b:=fun _ h=>List.mem_append_right _ h
theorem XM {F H F1 H1 F2 H2:Hp}{A A1 A2:Nat->List Addr}{s s1 s2:Sl}{σ:L2.St}{tl1 tl2 rl1 rl2:List Nat}{x y:T}{v u:V}{B1 B2:List Addr}(p1:EPo W F H A s σ tl1 rl1 x s1 v F1 H1 A1 B1)(p2:EPo W F1 H1 A1 s1 σ tl2 rl2 y s2 u F2 H2 A2 B2)(dj:∀ j∈rl1,j∉tl2) :
  Mv F H s A (tl1++tl2) F2 H2 s2 A2/\Tr W F2 H2 x v B1/\Vd A2 F2 H2 rl1 B1/\∀ b∈B1,¬ Ow A2 b->H b=none\/Tch A (tl1++tl2) b:=
 ⟨p1.mv.trans p2.mv,p1.vd.tr (fun i j a=>p1.rep.dis i j a) dj p2.mv p1.tr,p1.vd.mv (fun i j a=>p1.rep.dis i j a) dj p2.mv,Jm p1.rep p1.vd p1.new p2.mv dj⟩
theorem zfz {tl1 tl2 rl1 rl2 rl:List Nat}{ta tb:TE}{ma mb:Sl->QP->XP->Prop}{r:R2}{f:T->T->Option T}(ha:SE W E tl1 rl1 ta ma)(hb:SE W E tl2 rl2 tb mb)(dj:∀ j∈rl1,j∉tl2)(op:OS W r f) :
  SE W E (tl1++tl2) rl (tOp r ta tb) (fun s Q X=>ma s (fun x s1=>mb s1 (fun y s2=>∃ z,f x y=some z/\Q z s2) X) X):=by
 intro F H s σ A Q4 X4 Q R h q x
 refine ha F H s σ A _ X4 _ R h (fun x1 s1 v F1 H1 A1 B1 p1 h1=>?_) (x.sub zc)
 refine hb F1 H1 s1 σ A1 _ X4 _ p1.rep h1 (fun y s2 u F2 H2 A2 B2 p2 h2=>?_) (x.mono (p1.mv.mono zc) zd)
 obtain⟨z,e,h2⟩:=h2
 obtain⟨m,tx,_,_⟩:=XM p1 p2 dj
 exact op F2 H2 x1 y v u B1 B2 z _ p2.rep.fh tx p2.tr e fun w F3 H3 B3 a t=>q z s2 w F3 H3 A2 B3 (EPo.al m p2.rep a t) h2
theorem zfA {md:Bool}{tl1 tl2 rl1 rl2:List Nat}{ta tb:TE}{a b:Xp}{op:BO}(ha:SE W E tl1 rl1 ta (WE true a))(hb:SE W E tl2 rl2 tb (WE true b))(dj:∀ j∈rl1,j∉tl2):SE W E (tl1++tl2) [] (tOp (binR op) ta tb) (WE md (.bin op a b)):=by
 intro F H s σ A Q4 X4 Q R h
 simp only [WE] at h
 exact zfz ha hb dj (zfu op) F H s σ A Q4 X4 Q R h
theorem za1 {md:Bool}{tl1 tl2 rl1 rl2:List Nat}{ta tb:TE}{a b:Xp}{op:CO}(ha:SE W E tl1 rl1 ta (WE true a))(hb:SE W E tl2 rl2 tb (WE true b))(dj:∀ j∈rl1,j∉tl2):SE W E (tl1++tl2) [] (tOp (cmpR W.K op) ta tb) (WE md (.cmp op a b)):=by
 intro F H s σ A Q4 X4 Q R h q x
 simp only [WE] at h
 refine ha F H s σ A _ X4 _ R h (fun x1 s1 v F1 H1 A1 B1 p1 h1=>?_) (x.sub zc)
 refine hb F1 H1 s1 σ A1 _ X4 _ p1.rep h1 (fun y s2 u F2 H2 A2 B2 p2 h2=>?_) (x.mono (p1.mv.mono zc) zd)
 obtain⟨z,e,h2⟩:=h2
 obtain⟨m,tx,_,_⟩:=XM p1 p2 dj
 exact zfv op F2 H2 x1 y v u B1 B2 (.bl z) _ p2.rep.fh tx p2.tr (by show Option.map T.bl (cmpO op x1 y)=_;rw [e];rfl) fun w F3 H3 B3 a t=>q _ s2 w F3 H3 A2 B3 (EPo.al m p2.rep a t) h2
theorem zed {tl:List Nat}{te:TE}{m:Sl->QP->XP->Prop}(h:SE W E tl [] te m){m':Sl->(Bool->Sl->Prop)->XP->Prop}(hm:∀ s K X,m' s K X->m s (fun x s1=>∃ b,blO x=some b/\K b s1) X):ST W E tl (KG te) m':=by
 intro F H s σ A Q4 X4 Q R e q x
 refine h F H s σ A _ X4 _ R (hm s Q4 X4 e) (fun t s1 v F1 H1 A1 B1 p ⟨b,e1,e2⟩=>⟨b,v7 p.tr e1,q b s1 F1 H1 A1 ⟨p.rep,p.mv⟩ e2⟩) x
theorem zfB {md:Bool}{tl rl:List Nat}{ta:TE}{a:Xp}(ha:SE W E tl rl ta (WE true a)):SE W E tl [] (tUn (rU fun i=>.int (-i)) ta) (WE md (.neg a)):=by
 intro F H s σ A Q4 X4 Q R h q x
 simp only [WE] at h
 refine ha F H s σ A _ X4 _ R h (fun t s1 v F1 H1 A1 B p h1=>?_) x
 obtain⟨i,e,h1⟩:=h1
 exact⟨i,zx p.tr e,q _ s1 _ F1 H1 A1 [] (EPo.al p.mv p.rep (Al.refl p.rep.fh) xP) h1⟩
theorem za2 {md:Bool}{tl1 tl2 tl3 rl1 rl2 rl3:List Nat}{ta tb tc:TE}{a b c:Xp}{o1 o2:CO}(ha:SE W E tl1 rl1 ta (WE true a))(hb:SE W E tl2 rl2 tb (WE true b))(hc:SE W E tl3 rl3 tc (WE true c)):SE W E (tl1++(tl2++tl3)) [] (Xo (cmpR W.K o1) (cmpR W.K o2) ta tb tc) (WE md (.chn o1 o2 a b c)):=by
 intro F H s σ A Q4 X4 Q R h q x
 simp only [WE] at h
 have ci:∀ {o:CO} {F H:Hp} {i j:Int} {z:Bool} {Q:VK},Same F H->cmpI o i j=some z->Q (.bl z) H->cmpR W.K o (.int i) (.int j) H Q:=fun {o F H i j z Q} g e q=>by
  cases o<;>simp only [cmpI,Option.some.injEq,reduceCtorEq] at e<;>subst e<;>exact⟨i,j,rfl,rfl,q⟩
 refine ha F H s σ A _ X4 _ R h (fun x1 s1 v F1 H1 A1 B1 p1 h1=>?_) (x.sub zc)
 refine hb F1 H1 s1 σ A1 _ X4 _ p1.rep h1 (fun y s2 u F2 H2 A2 B2 p2 h2=>?_) (x.mono (p1.mv.mono zc) fun j h=>zd j (zc j h))
 obtain⟨i,j,e1,e2,z,e3,h2⟩:=h2
 have hv:=zx p1.tr e1
 have hu:=zx p2.tr e2
 subst hv;subst hu
 have m12:=p1.mv.trans p2.mv
 have m12':Mv F H s A (tl1++(tl2++tl3)) F2 H2 s2 A2:=m12.mono fun j h=>by rw [← List.append_assoc];exact zc j h
 refine ci p2.rep.fh e3 ⟨z,rfl,?_⟩
 cases z with
 | false=>
  rw [if_neg (by decide)] at h2 ⊢
  exact q _ s2 _ F2 H2 A2 [] (EPo.al m12' p2.rep (Al.refl p2.rep.fh) vR) h2
 | true=>
  rw [if_pos rfl] at h2 ⊢
  refine hc F2 H2 s2 σ A2 _ X4 _ p2.rep h2 (fun y3 s3 u3 F3 H3 A3 B3 p3 h3=>?_) (x.mono m12' fun j h=>zd j (zd j h))
  obtain⟨k,e4,z,e5,h3⟩:=h3
  have hk:=zx p3.tr e4
  subst hk
  have m3:Mv F H s A (tl1++(tl2++tl3)) F3 H3 s3 A3:=m12'.trans' (p3.mv.mono fun j h=>zd j (zd j h))
  exact ci p3.rep.fh e5 (q _ s3 _ F3 H3 A3 [] (EPo.al m3 p3.rep (Al.refl p3.rep.fh) vR) h3)
theorem zcL {F H F1 H1:Hp}{A A1:Nat->List Addr}{s s1:Sl}{σ:L2.St}{tl rl:List Nat}{z:T}{w:V}{B C:List Addr}{md:Bool}(R:Rep W F1 H1 s1 σ A1)(m:Mv F H s A tl F1 H1 s1 A1)(t:Tr W F1 H1 z w C)(sub:C.Sublist B)(nd:B.Nodup)(vd:Vd A1 F1 H1 rl B)(new:∀ b∈B,¬ Ow A1 b->H b=none\/Tch A tl b)(hs:md=true\/shr z=true):EPo W F H A s σ tl (if md=true then rl else []) z s1 w F1 H1 A1 C:=by
 refine⟨R,m,t,?_,sub.nodup nd,fun b hb=>new b (sub.subset hb)⟩
 cases md with
 | true=>exact vd.sub fun b hb=>sub.subset hb
 | false=>
  rw [yr (hs.resolve_left (by decide)) t]
  exact Vd.nil
theorem zgX {md:Bool}{tl1 tl2 rl1 rl2:List Nat}{ta tb:TE}{a k:Xp}(ha:SE W E tl1 rl1 ta (WE true a))(hb:SE W E tl2 rl2 tb (WE true k))(dj:∀ j∈rl1,j∉tl2):SE W E (tl1++tl2) (if md=true then rl1 else []) (tOp (ixR W.K) ta tb) (WE md (.ix a k)):=by
 intro F H s σ A Q4 X4 Q R h q x
 simp only [WE] at h
 refine ha F H s σ A _ X4 _ R h (fun x1 s1 v F1 H1 A1 B1 p1 h1=>?_) (x.sub zc)
 refine hb F1 H1 s1 σ A1 _ X4 _ p1.rep h1 (fun y s2 u F2 H2 A2 B2 p2 h2=>?_) (x.mono (p1.mv.mono zc) zd)
 obtain⟨z,e,hs,h2⟩:=h2
 obtain⟨m,tx,vx,nx⟩:=XM p1 p2 dj
 exact zgQ p2.rep.fh tx p2.tr e fun w C tz sub=>q z s2 w F2 H2 A2 C (zcL p2.rep m tz sub p1.nd vx nx hs) h2
def SO (W:Wd)(E:XS)(tl:List Nat)(t:TO)(m:Sl->(Option Int->Sl->Prop)->XP->Prop):Prop:=∀ (F H:Hp) (s:Sl) (σ:L2.St) (A:Nat->List Addr) (Q4:Option Int->Sl->Prop) (X4:XP) (Q:Option Int->Hp->Prop),Rep W F H s σ A->m s Q4 X4 ->
 (∀ o s' F' H' A',BPo W F H A s σ tl s' F' H' A'->Q4 o s'->Q o H')->XK4 W E F H A s σ tl X4->t σ H Q
theorem zcM:SO W E [] Vt (WO []):=by
 intro F H s σ A Q4 X4 Q R h q x
 simp only [WO] at h
 exact q none s F H A ⟨R,Mv.refl⟩ h
theorem zcN {tl rl:List Nat}{te:TE}{e:Xp}(he:SE W E tl rl te (WE true e)):SO W E tl (zdG te) (WO [e]):=by
 intro F H s σ A Q4 X4 Q R h q x
 simp only [WO] at h
 exact he F H s σ A _ X4 _ R h.2 (fun t s1 v F1 H1 A1 B p ⟨i,e1,h1⟩=>⟨i,zx p.tr e1,q (some i) s1 F1 H1 A1 ⟨p.rep,p.mv⟩ h1⟩) x
theorem zgY {md:Bool}{tl1 tl2 tl3 rl:List Nat}{ta:TE}{to tu:TO}{a:Xp}{lo hi:List Xp}(ha:SE W E tl1 rl ta (WE true a))(hl:SO W E tl2 to (WO lo))(hh:SO W E tl3 tu (WO hi))(dj:∀ j∈rl,j∉tl2++tl3):SE W E (tl1++(tl2++tl3)) [] (tSl (slR W.K) ta to tu) (WE md (.sl a lo hi)):=by
 intro F H s σ A Q4 X4 Q R h q x
 simp only [WE] at h
 refine ha F H s σ A _ X4 _ R h (fun x1 s1 v F1 H1 A1 B1 p1 h1=>?_) (x.sub zc)
 refine hl F1 H1 s1 σ A1 _ X4 _ p1.rep h1 (fun l s2 F2 H2 A2 p2 h2=>?_) (x.mono (p1.mv.mono zc) fun j h=>zd j (zc j h))
 have m12:Mv F H s A (tl1++(tl2++tl3)) F2 H2 s2 A2:=(p1.mv.trans p2.mv).mono fun j h=>by rw [← List.append_assoc];exact zc j h
 refine hh F2 H2 s2 σ A2 _ X4 _ p2.rep h2 (fun u s3 F3 H3 A3 p3 h3=>?_) (x.mono m12 fun j h=>zd j (zd j h))
 obtain⟨z,e,h3⟩:=h3
 have m23:=p2.mv.trans p3.mv
 exact zgR p3.rep.fh (p1.vd.tr (fun i j a=>p1.rep.dis i j a) dj m23 p1.tr) e fun w F4 H4 B4 a t=>q z s3 w F4 H4 A3 B4 (EPo.al (p1.mv.trans m23) p3.rep a t) h3
theorem zfC {md:Bool}{tl1 tl2 tl3 rl2 rl3:List Nat}{tt:TT}{ta tb:TE}{t a b:Xp}(ht:ST W E tl1 tt (fun s K X=>WE true t s (fun x s1=>∃ z,blO x=some z/\K z s1) X))(ha:SE W E tl2 rl2 ta (WE md a))(hb:SE W E tl3 rl3 tb (WE md b)):SE W E (tl1++(tl2++tl3)) (rl2++rl3) (tIf tt ta tb) (WE md (.ife t a b)):=by
 intro F H s σ A Q4 X4 Q R h q x
 simp only [WE] at h
 refine ht F H s σ A (fun z s1=>if z=true then WE md a s1 Q4 X4 else WE md b s1 Q4 X4) X4 _ R h (fun z s1 F1 H1 A1 p h1=>?_) (x.sub zc)
 cases z with
 | true=>
  rw [if_pos rfl] at h1 ⊢
  refine ha F1 H1 s1 σ A1 Q4 X4 Q p.rep h1 (fun t' s2 v F2 H2 A2 B p2 h2=>q t' s2 v F2 H2 A2 B ⟨p2.rep,(p.mv.mono zc).trans' (p2.mv.mono fun j h=>zd j (zc j h)),p2.tr,p2.vd.imp zc,p2.nd,fun b hb no=>?_⟩ h2) (x.mono (p.mv.mono zc) fun j h=>zd j (zc j h))
  rcases p2.new b hb no with y | y
  ·exact .inl (p.mv.none y)
  ·exact(p.mv.mono zc).ta (y.imp fun _ h=>⟨zd _ (zc _ h.1),h.2⟩)
 | false=>
  rw [if_neg (by decide)] at h1 ⊢
  refine hb F1 H1 s1 σ A1 Q4 X4 Q p.rep h1 (fun t' s2 v F2 H2 A2 B p2 h2=>q t' s2 v F2 H2 A2 B ⟨p2.rep,(p.mv.mono zc).trans' (p2.mv.mono fun j h=>zd j (zd j h)),p2.tr,p2.vd.imp zd,p2.nd,fun b hb no=>?_⟩ h2) (x.mono (p.mv.mono zc) fun j h=>zd j (zd j h))
  rcases p2.new b hb no with y | y
  ·exact .inl (p.mv.none y)
  ·exact(p.mv.mono zc).ta (y.imp fun _ h=>⟨zd _ (zd _ h.1),h.2⟩)
end L4
namespace L4
open PySem L2 PySem.Spec PyProof.Rows
variable {W:Wd} {E:XS}
theorem XN {md:Bool}{rl:List Nat}:SA W E [] rl tNil (WEs md []):=by
 intro F H s σ A Q4 X4 Q R h q x
 simp only [WEs] at h
 exact q [] s [] F H A [] ⟨R,Mv.refl,⟨rfl,rfl⟩,Vd.nil,fun _=>.nil,fun b hb=>by cases hb⟩ h
theorem za3 {tl1 tl2 rl1 rl2:List Nat}{te:TE}{tr:TA}{m1:Sl->QP->XP->Prop}{m2:Sl->(List T->Sl->Prop)->XP->Prop}(he:SE W E tl1 rl1 te m1)(hr:SA W E tl2 rl2 tr m2)(dj:∀ j∈rl1,j∉tl2):SA W E (tl1++tl2) (rl1++rl2) (jz te tr) (fun s Q X=>m1 s (fun t s1=>m2 s1 (fun ts s2=>Q (t::ts) s2) X) X):=by
 intro F H s σ A Q4 X4 Q R h q x
 refine he F H s σ A _ X4 _ R h (fun t s1 v F1 H1 A1 B1 p1 h1=>?_) (x.sub zc)
 refine hr F1 H1 s1 σ A1 _ X4 _ p1.rep h1 (fun ts s2 vs F2 H2 A2 B2 p2 h2=>?_) (x.mono (p1.mv.mono zc) zd)
 have vx:=p1.vd.mv (fun i j a=>p1.rep.dis i j a) dj p2.mv
 refine q (t::ts) s2 (v::vs) F2 H2 A2 (B1++B2) ⟨p2.rep,p1.mv.trans p2.mv,⟨v,vs,B1,B2,rfl,rfl,p1.vd.tr (fun i j a=>p1.rep.dis i j a) dj p2.mv p1.tr,p2.tr⟩,vx.app p2.vd,fun e=>?_,fun b hb no=>?_⟩ h2
 ·obtain⟨rfl,rfl⟩:=List.append_eq_nil_iff.mp e
  refine zU p1.nd (p2.nd rfl) fun b hb hb2=>?_
  have no1:¬ Ow A1 b:=(p1.vd.at_ b hb).resolve_right fun⟨_,z,_⟩=>by cases z
  have no2:¬ Ow A2 b:=(p2.vd.at_ b hb2).resolve_right fun⟨_,z,_⟩=>by cases z
  rcases p2.new b hb2 no2 with z | ⟨j,_,z⟩
  ·obtain⟨y,hy⟩:=p1.vd.ob b hb
   rw [hy] at z;cases z
  ·exact no1 ⟨j,z⟩
 ·rcases List.mem_append.mp hb with z | z
  ·exact Jm p1.rep p1.vd p1.new p2.mv dj b z no
  ·rcases p2.new b z no with y | y
   ·exact .inl (p1.mv.none y)
   ·exact(p1.mv.mono zc).ta (y.imp fun _ h=>⟨zd _ h.1,h.2⟩)
theorem k6 {md:Bool}{tl1 tl2 rl1 rl2:List Nat}{te:TE}{tr:TA}{e:Xp}{es:List Xp}(he:SE W E tl1 rl1 te (WE md e))(hr:SA W E tl2 rl2 tr (WEs md es))(dj:∀ j∈rl1,j∉tl2):SA W E (tl1++tl2) (rl1++rl2) (jz te tr) (WEs md (e::es)):=by
 intro F H s σ A Q4 X4 Q R h
 simp only [WEs] at h
 exact za3 he hr dj F H s σ A Q4 X4 Q R h
theorem EPo.box {F H F1 H1 F2 H2:Hp}{A A1:Nat->List Addr}{s s1:Sl}{σ:L2.St}{tl rl:List Nat}{ts:List T}{vs:List V}{B B0:List Addr}{z:T}{w:V}(p:LPo W F H A s σ tl [] ts s1 vs F1 H1 A1 B)(a:Al F1 H1 F2 H2 B0)(t:Tr W F2 H2 z w (B0++B)):EPo W F H A s σ tl rl z s1 w F2 H2 A1 (B0++B):=by
 have d2:Vd A1 F2 H2 [] B:=p.vd.mv (fun i j a=>p.rep.dis i j a) (tl:=[]) (fun _ _ h=>by cases h) a.mv (s:=s1)
 have d0:=a.vd p.rep
 refine⟨a.rep p.rep,p.mv.trans' a.mv,t,(d0.app d2).imp (fun _ h=>by cases h),zU a.nd (p.nd rfl) fun b hb z=>?_,fun b hb no=>?_⟩
 ·obtain⟨y,hy⟩:=p.vd.ob b z
  rw [(a.nB b hb).1] at hy;cases hy
 ·rcases List.mem_append.mp hb with z | z
  ·exact .inl (p.mv.none (a.nB b z).1)
  ·exact p.new b z no
theorem zfD {md:Bool}{tl:List Nat}{ta:TA}{es:List Xp}(h1:SA W E tl [] ta (WEs false es)):SE W E tl [] (tLst ta) (WE md (.lst es)):=by
 intro F H s σ A Q4 X4 Q R h q x
 simp only [WE] at h
 refine h1 F H s σ A _ X4 _ R h (fun ts s1 vs F1 H1 A1 B p ⟨hl,h2⟩=>⟨by rw [p.tr.len,sizeLine_eq];exact hl,fun l hp=>?_⟩) x
 have a:=Al.cell (o:=.lst vs) p.rep.fh hp
 have hB:l∉B:=fun z=>by obtain⟨y,hy⟩:=p.vd.ob l z;rw [hp] at hy;cases hy
 exact q (.ls ts) s1 _ F1 _ A1 ([l]++B) (EPo.box p a ⟨l,vs,B,rfl,zF,rfl,p.tr.upd hB⟩) h2
theorem zfE {md:Bool}{tl:List Nat}{ta:TA}{es:List Xp}(h1:SA W E tl [] ta (WEs false es)):SE W E tl [] (tTup ta) (WE md (.tup es)):=by
 intro F H s σ A Q4 X4 Q R h q x
 simp only [WE] at h
 refine h1 F H s σ A _ X4 _ R h (fun ts s1 vs F1 H1 A1 B p ⟨hl,h2⟩=>⟨by rw [p.tr.len,sizeLine_eq];exact hl,fun l hp=>?_⟩) x
 have a:=Al.froz (o:=.tup vs) p.rep.fh hp
 exact q (.tp ts) s1 _ _ _ A1 ([]++B) (EPo.box p a ⟨l,vs,rfl,zF,p.tr.frame a.sF fun b hb y hy=>a.sH _ _ hy⟩) h2
theorem zfF {k:Bool}{tl rl:List Nat}{te:TE}{e:Xp}(he:SE W E tl rl te (WE true e)):SE W E tl [] te (WB k [e]):=by
 intro F H s σ A Q4 X4 Q R h q x
 simp only [WB] at h
 refine he F H s σ A _ X4 _ R h (fun t s1 v F1 H1 A1 B p ⟨b,e1,h1⟩=>?_) x
 have hv:=v7 p.tr e1
 subst hv
 rcases h1 with⟨_,h1⟩ | ⟨n,_⟩
 ·exact q _ s1 _ F1 H1 A1 [] (EPo.al p.mv p.rep (Al.refl p.rep.fh) vR) h1
 ·exact absurd rfl n
theorem zcO {k:Bool}{tl1 tl2 rl1:List Nat}{ta tb:TE}{e e':Xp}{es:List Xp}(he:SE W E tl1 rl1 ta (WE true e))(hs:SE W E tl2 [] tb (WB k (e'::es))):SE W E (tl1++tl2) [] (if k=true then zdB ta tb else tOrV ta tb) (WB k (e::e'::es)):=by
 intro F H s σ A Q4 X4 Q R h q x
 rw [WB] at h
 have rest:∀ {s1 F1 H1 A1},BPo W F H A s σ tl1 s1 F1 H1 A1->WB k (e'::es) s1 Q4 X4->tb σ H1 Q:=fun {s1 F1 H1 A1} p h1=>by
  refine hs F1 H1 s1 σ A1 _ X4 _ p.rep h1 (fun t2 s2 v2 F2 H2 A2 B2 p2 h2=>q t2 s2 v2 F2 H2 A2 B2 ⟨p2.rep,p.mv.trans p2.mv,p2.tr,p2.vd,p2.nd,fun b hb no=>?_⟩ h2) (x.mono (p.mv.mono zc) zd)
  rcases p2.new b hb no with y | y
  ·exact .inl (p.mv.none y)
  ·exact(p.mv.mono zc).ta (y.imp fun _ h=>⟨zd _ h.1,h.2⟩)
 have stop:∀ {s1 F1 H1 A1} {b:Bool},BPo W F H A s σ tl1 s1 F1 H1 A1->Q4 (.bl b) s1->Q (.bl b) H1:=fun {s1 F1 H1 A1 b} p h1=>q _ s1 _ F1 H1 A1 [] (EPo.al (p.mv.mono zc) p.rep (Al.refl p.rep.fh) vR) h1
 cases k
 ·rw [if_neg (by decide)]
  refine he F H s σ A _ X4 _ R h (fun t s1 v F1 H1 A1 B p ⟨b,e1,h1⟩=>⟨b,v7 p.tr e1,?_⟩) (x.sub zc)
  rcases h1 with⟨n,_⟩ | ⟨_,h1⟩
  ·cases n
  cases b
  ·exact rest ⟨p.rep,p.mv⟩ h1
  ·exact stop ⟨p.rep,p.mv⟩ h1
 ·rw [if_pos rfl]
  refine he F H s σ A _ X4 _ R h (fun t s1 v F1 H1 A1 B p ⟨b,e1,h1⟩=>⟨b,v7 p.tr e1,?_⟩) (x.sub zc)
  rcases h1 with⟨n,_⟩ | ⟨_,h1⟩
  ·cases n
  cases b
  ·exact stop ⟨p.rep,p.mv⟩ h1
  ·exact rest ⟨p.rep,p.mv⟩ h1
theorem za4 {k:Bool}{tl1 tl2:List Nat}{ta tb:TT}{e:Xp}{es:List Xp}(he:ST W E tl1 ta (fun s K X=>WE true e s (fun x s1=>∃ z,blO x=some z/\K z s1) X))(hs:ST W E tl2 tb (WTb k es)):ST W E (tl1++tl2) (if k=true then tAnd ta tb else tOr ta tb) (WTb k (e::es)):=by
 intro F H s σ A Q4 X4 Q R h q x
 rw [WTb] at h
 have rest:∀ {s1 F1 H1 A1},BPo W F H A s σ tl1 s1 F1 H1 A1->WTb k es s1 Q4 X4->tb σ H1 Q:=fun {s1 F1 H1 A1} p h1=>
  hs F1 H1 s1 σ A1 _ X4 _ p.rep h1 (fun b s2 F2 H2 A2 p2 h2=>q b s2 F2 H2 A2 ⟨p2.rep,p.mv.trans p2.mv⟩ h2) (x.mono (p.mv.mono zc) zd)
 have stop:∀ {s1 F1 H1 A1} {b:Bool},BPo W F H A s σ tl1 s1 F1 H1 A1->Q4 b s1->Q b H1:=fun {s1 F1 H1 A1 b} p h1=>q b s1 F1 H1 A1 ⟨p.rep,p.mv.mono zc⟩ h1
 cases k
 ·rw [if_neg (by decide)]
  refine he F H s σ A (fun b s1=>if b=false then WTb false es s1 Q4 X4 else Q4 b s1) X4 _ R h (fun b s1 F1 H1 A1 p h1=>?_) (x.sub zc)
  cases b
  ·exact rest p h1
  ·exact stop p h1
 ·rw [if_pos rfl]
  refine he F H s σ A (fun b s1=>if b=true then WTb true es s1 Q4 X4 else Q4 b s1) X4 _ R h (fun b s1 F1 H1 A1 p h1=>?_) (x.sub zc)
  cases b
  ·exact stop p h1
  ·exact rest p h1
theorem zcP {k:Bool}:ST W E [] (fun _ H Q=>Q k H) (WTb k []):=by
 intro F H s σ A Q4 X4 Q R h q x
 simp only [WTb] at h
 exact q k s F H A ⟨R,Mv.refl⟩ h
theorem zgZ {md:Bool}{tl rl:List Nat}{ta:TA}{b:BI}{es:List Xp}(h1:SA W E tl rl ta (WEs true es)):SE W E tl [] (tCB (biR W.K b) ta) (WE md (.bi b es)):=by
 intro F H s σ A Q4 X4 Q R h q x
 simp only [WE] at h
 refine h1 F H s σ A _ X4 _ R h (fun ts s1 vs F1 H1 A1 B p ⟨z,e,h2⟩=>?_) x
 exact zgT p.rep.fh p.tr e fun w F2 H2 B2 a t=>q z s1 w F2 H2 A1 B2 (EPo.al p.mv p.rep a t) h2
theorem zg0 {md:Bool}{tl1 tl2 rl1 rl2:List Nat}{to:TE}{ta:TA}{m:ME}{o:Xp}{es:List Xp}(hm:m≠.get2)(ho:SE W E tl1 rl1 to (WE true o))(h1:SA W E tl2 rl2 ta (WEs true es)):SE W E (tl1++tl2) [] (tBM W.K "str" (meR W.K m) to ta) (WE md (.me m o es)):=by
 intro F H s σ A Q4 X4 Q R h q x
 simp only [WE] at h
 refine ho F H s σ A _ X4 _ R h (fun x1 s1 v F1 H1 A1 B1 p1 ⟨hk,h2⟩=>?_) (x.sub zc)
 have hk:∃ l,x1=.str l:=by
  have:(strO x1).isSome=true:=by cases m<;>first | exact hk | exact absurd rfl hm
  cases x1<;>first | exact⟨_,rfl⟩ | cases this
 obtain⟨l,rfl⟩:=hk
 have hv:=p1.tr.2.1
 subst hv
 refine⟨rfl,h1 F1 H1 s1 σ A1 _ X4 _ p1.rep h2 (fun ts s2 vs F2 H2 A2 B2 p2 ⟨z,e,h3⟩=>?_) (x.mono (p1.mv.mono zc) zd)⟩
 exact zgU hm p2.rep.fh (jE p1.tr.2.2) p2.tr e fun w F3 H3 B3 a t=>q z s2 w F3 H3 A2 B3 (EPo.al (p1.mv.trans p2.mv) p2.rep a t) h3
end L4
namespace L4
open PySem L2 PySem.Spec PyProof.Rows
variable {W:Wd} {E:XS}
theorem PPo.step {F H F1 H1 F2 H2:Hp}{A A1 A2:Nat->List Addr}{s s1 s2:Sl}{σ:L2.St}{tl tl' rl:List Nat}{i:Nat}{p:List Nat}{v:V}(p1:PPo W F H A s σ tl rl i p s1 v F1 H1 A1)(R2:Rep W F2 H2 s2 σ A2)(m:Mv F1 H1 s1 A1 tl' F2 H2 s2 A2)(dj:∀ j∈rl,j∉tl'):PPo W F H A s σ (tl++tl') rl i p s2 v F2 H2 A2:=by
 obtain⟨r,u,w,e1,e2,e3,e4⟩:=p1.at_
 have hi:=dj i p1.rt
 have e1':=(m.slot i hi).1 r e1
 refine⟨R2,p1.mv.trans m,⟨r,u,w,e1',e2,e3,?_⟩,p1.rt⟩
 obtain⟨w',k1,k2⟩:=p1.rep.slot i r e1
 rw [e3] at k1
 cases k1
 obtain⟨w1,B1,B2,B3,f1,f2,f3,f4⟩:=k2.focus p1.rep.fh p e2
 have:=(f4 m.sF R2.fh fun b hb x hx=>m.keep b x hx fun⟨j,h1,h2⟩=>?_).1 p [] (by simp)
 ·rw [this];exact e4
 ·have:=p1.rep.dis i j b (by rw [f2];exact List.mem_append_left _ hb) h2
  subst this
  exact hi h1
theorem sp_b {i:Nat}:SP W E [] [i] (tVar i) (WP (.b i)):=by
 intro F H s σ A Q4 X4 Q R h q x
 simp only [WP] at h
 obtain⟨⟨t,h1⟩,h2⟩:=h
 obtain⟨v,e1,e2⟩:=R.slot i t h1
 exact⟨v,e1,q i [] s v F H A ⟨R,Mv.refl,⟨t,t,v,h1,rfl,e1,rfl⟩,List.mem_singleton.mpr rfl⟩ h2⟩
theorem sp_a {j i:Nat}:SP W E [] [i,j] (tVar j) (WP (.a j i)):=by
 intro F H s σ A Q4 X4 Q R h q x
 simp only [WP] at h
 obtain⟨k,p,h1,h2⟩:=h
 have hi:=zaY h1
 rcases h1 with⟨rfl,h1⟩ | ⟨rfl,rfl,r,h1⟩
 ·obtain⟨t,u,w,v,k1,k2,k3,k4,k5⟩:=R.al j k p h1
  exact⟨v,k4,q k p s v F H A ⟨R,Mv.refl,⟨t,u,w,k1,k2,k3,k5⟩,hi⟩ h2⟩
 ·obtain⟨v,e1,e2⟩:=R.slot k r h1
  exact⟨v,e1,q k [] s v F H A ⟨R,Mv.refl,⟨r,r,v,h1,rfl,e1,rfl⟩,hi⟩ h2⟩
theorem PPo.tr {F H F1 H1:Hp}{A A1:Nat->List Addr}{s s1:Sl}{σ:L2.St}{tl rl:List Nat}{i:Nat}{p:List Nat}{v:V}{t:T}(p1:PPo W F H A s σ tl rl i p s1 v F1 H1 A1)(h:getP s1 i p=some t):∃ r w C,s1[i]? = some (.own r)/\getT r p=some t/\σ[i]? = some (some w)/\vAt H1 w p=some v/\Tr W F1 H1 t v C:=by
 obtain⟨r,u,w,e1,e2,e3,e4⟩:=p1.at_
 obtain⟨r',g1,g2⟩:=ZH h
 rw [e1] at g1
 cases g1
 obtain⟨w',k1,k2⟩:=p1.rep.slot i r e1
 rw [e3] at k1
 cases k1
 obtain⟨w1,B1,B2,B3,f1,f2,f3,f4⟩:=k2.focus p1.rep.fh p g2
 rw [e4] at f1
 cases f1
 exact⟨r,w,B2,e1,g2,e3,e4,f3⟩
theorem Jn {H:Hp}:∀ (p:List Nat) {w v u:V} {j:Nat},vAt H w p=some v->kAt H v j=some u->vAt H w (p++[j])=some u
 | [],w,v,u,j,h,k=>by cases h;simp only [List.nil_append,vAt,k,Option.bind_some]
 | i::p,w,v,u,j,h,k=>by
  simp only [vAt] at h
  cases e:kAt H w i with
  | none=>rw [e] at h;cases h
  | some y=>
   rw [e] at h
   simp only [List.cons_append,vAt,e,Option.bind_some]
   exact Jn p h k
theorem QS {r t:T}{p:List Nat}{ts:List T}{j:Nat}{x:T}(h:getT r p=some t)(k:kids t=some ts)(e:ts[j]? = some x):getT r (p++[j])=some x:=by
 rw [Wt p [j] h]
 simp only [getT,k,e]
theorem za5 {n:Nat}{i:Int}{j:Nat}(h:ixN n i=some j):j<n:=by
 unfold ixN at h
 split at h
 ·split at h
  ·cases h;omega
  ·cases h
 ·split at h
  ·cases h;omega
  ·cases h
theorem zcQ {F H:Hp}{t y:T}{v u:V}{M C:List Addr}{j:Nat}{Q:VK}(g:Same F H)(h:Tr W F H t v M)(hy:Tr W F H y u C)(e:stepI t y=some j)(q:∀ w ts x,kAt H v j=some w->kids t=some ts->ts[j]? = some x->Q w H):ixR W.K v u H Q:=by
 unfold stepI at e
 split at e
 ·rename_i xs
  rw [Option.bind_eq_some_iff] at e
  obtain⟨i,e1,e2⟩:=e
  have hu:=zx hy e1
  subst hu
  obtain⟨p,vs,B,rfl,h1,rfl,h2⟩:=h
  have hj:=za5 e2
  obtain⟨w,_,_,_,k1,_⟩:=h2.get (List.getElem?_eq_getElem hj)
  refine .inl ⟨p,vs,i,w,rfl,rfl,SqL.of h1,?_,q w _ _ ?_ rfl (List.getElem?_eq_getElem hj)⟩
  ·unfold atI;rw [h2.len,e2];exact k1
  ·simp only [kAt,h1,Option.bind_some,hk,k1]
 ·rename_i xs
  rw [Option.bind_eq_some_iff] at e
  obtain⟨i,e1,e2⟩:=e
  have hu:=zx hy e1
  subst hu
  obtain⟨p,vs,rfl,h1,h2⟩:=h
  have hj:=za5 e2
  obtain⟨w,_,_,_,k1,_⟩:=h2.get (List.getElem?_eq_getElem hj)
  refine .inr (.inl ⟨p,vs,i,w,rfl,rfl,SqT.of (g _ _ h1),?_,q w _ _ ?_ rfl (List.getElem?_eq_getElem hj)⟩)
  ·unfold atI;rw [h2.len,e2];exact k1
  ·simp only [kAt,g _ _ h1,Option.bind_some,hk,k1]
 ·cases e
theorem zg1 {tl1 tl2 rl rl2:List Nat}{ta tb:TE}{a k:Xp}(ha:SP W E tl1 rl ta (WP a))(hb:SE W E tl2 rl2 tb (WE true k))(dj:∀ j∈rl,j∉tl2):SP W E (tl1++tl2) rl (tOp (ixR W.K) ta tb) (WP (.ix a k)):=by
 intro F H s σ A Q4 X4 Q R h q x
 simp only [WP] at h
 refine ha F H s σ A _ X4 _ R h (fun i p s1 v F1 H1 A1 p1 h1=>?_) (x.sub zc)
 refine hb F1 H1 s1 σ A1 _ X4 _ p1.rep h1 (fun y s2 u F2 H2 A2 B2 p2 h2=>?_) (x.mono (p1.mv.mono zc) zd)
 obtain⟨t,j,e1,e2,h2⟩:=h2
 have p3:=p1.step p2.rep p2.mv dj
 obtain⟨r,w,C,g1,g2,g3,g4,g5⟩:=p3.tr e1
 exact zcQ p2.rep.fh g5 p2.tr e2 fun w' ts x' k1 k2 k3=>q i (p++[j]) s2 w' F2 H2 A2 ⟨p2.rep,p3.mv,⟨r,x',w,g1,QS g2 k2 k3,g3,Jn p g4 k1⟩,p1.rt⟩ h2
theorem QT {s:Sl}{i:Nat}{p:List Nat}{r u n m:T}(h:s[i]? = some (.own r))(g:getT r p=some u):putS (putS s i p n) i p m=putS s i p m:=by
 apply List.ext_getElem?
 intro j
 by_cases e:j=i
 ·subst e
  rw [qr (qr h),qr h,QQ p g]
 ·rw [qZ (qr h) e,qZ h e,qZ h e,Option.map_map]
  congr 1
  funext y
  cases y with
  | al k q=>by_cases z:k=i/\q.isPrefixOf p=false<;>simp [Function.comp,Slot.kill,z]
  | _=>rfl
theorem Rep.mut {F H:Hp}{s:Sl}{σ:L2.St}{A:Nat->List Addr}(R:Rep W F H s σ A){i:Nat}{p:List Nat}{r t:T}{B:List Addr}(hs:s[i]? = some (.own r))(hg:getT r p=some t)(d:Vd A F H [] B):∃ w v M,σ[i]? = some (some w)/\vAt H w p=some v/\Tr W F H t v M/\M.Nodup/\(∀ b∈M,b∈A i)/\(∀ b∈M,b∉B) /\
  ∀ {t' r':T} {u:V} {H':Hp} {M' Br:List Addr},Mu W F H M B t' r' v u H' M' Br->∃ A',Rep W F H' (putS s i p t') σ A'/\Vd A' F H' [] Br/\(∀ j,j≠i->A' j=A j)/\(∀ b∈A' i,b∈A i\/b∈B):=by
 obtain⟨w,v,A1,M,f1,f2,f3,f4,f5,f6,f7⟩:=R.detach hs hg
 have inM:∀ b∈M,b∈A i:=fun b hb=>(f3 b).mpr (.inr hb)
 have nB:∀ b∈B,¬ Ow A b:=fun b hb=>(d.at_ b hb).resolve_right fun⟨_,z,_⟩=>by cases z
 refine⟨w,v,M,f1,f2,f4,f5,inM,fun b hb z=>nB b z ⟨i,inM b hb⟩,fun {t' r' u H' M' Br} mu=>?_⟩
 have nM:∀ b,Ow (setA A i A1) b->b∉M:=fun b hb z=>(f6.at_ b z).elim (fun y=>y hb) fun⟨_,y,_⟩=>by cases y
 have fr:∀ b,Ow (setA A i A1) b->F b=none:=fun b ⟨j,hj⟩=>f7.own j b hj
 have nf:∀ b∈M,F b=none:=f6.fr
 have fh:Same F H':=fun b o e=>by
  refine mu.keep b o (R.fh _ _ e) fun z=>?_
  rw [nf b z] at e;cases e
 have R2:=f7.ext (fun _ _ h=>h) fh (fun b hb y hy=>mu.keep b y hy (nM b hb)) fr
 have e1:=qr (p:=p) (t:=.hol v) hs
 have own:∀ b∈M'++Br,F b=none/\¬ Ow (setA A i A1) b:=fun b hb=>by
  rcases mu.sub b hb with z | z
  ·exact⟨nf b z,fun y=>nM b y z⟩
  ·refine⟨d.fr b z,fun y=>?_⟩
   rcases vG y with y | ⟨j,_,y⟩
   ·exact nB b z ⟨i,(f3 b).mpr (.inl y)⟩
   ·exact nB b z ⟨j,y⟩
 have ndM:=List.nodup_append.mp mu.nd
 obtain⟨C,R3,hC⟩:=R2.attach e1 (vF p hg) mu.tx ⟨fun b hb=>(own b (List.mem_append_left _ hb)).1,mu.tx.cell,fun b hb=>.inl (own b (List.mem_append_left _ hb)).2⟩ ndM.1
 rw [QT hs hg] at R3
 refine⟨_,R3,⟨fun b hb=>(own b (List.mem_append_right _ hb)).1,mu.tr.cell,fun b hb=>.inl fun z=>?_⟩,fun j hj=>by rw [zC hj,zC hj],fun b hb=>?_⟩
 ·rcases vG z with z | ⟨j,z1,z2⟩
  ·rcases(hC b).mp z with y | y
   ·rw [zH] at y
    exact(own b (List.mem_append_right _ hb)).2 ⟨i,by rw [zH];exact y⟩
   ·exact ndM.2.2 b y b hb rfl
  ·exact(own b (List.mem_append_right _ hb)).2 ⟨j,z2⟩
 ·rw [zH] at hb
  rcases(hC b).mp hb with y | y
  ·rw [zH] at y
   exact .inl ((f3 b).mpr (.inl y))
  ·rcases mu.sub b (List.mem_append_left _ y) with z | z
   ·exact .inl (inM b z)
   ·exact .inr z
theorem Mv.mut {F H F1 H1 H':Hp}{A A1 A':Nat->List Addr}{s s1 s':Sl}{tl:List Nat}{i:Nat}{M B M' Br:List Addr}{t' r':T}{v u:V}(m:Mv F H s A tl F1 H1 s1 A1)(hi:i∈tl)(mu:Mu W F1 H1 M B t' r' v u H' M' Br)(inM:∀ b∈M,b∈A1 i)(nw:∀ b∈B,H b=Option.none\/Tch A tl b)(hA:∀ j,j≠i->A' j=A1 j)(hAi:∀ b∈A' i,b∈A1 i\/b∈B)(hs:∀ j,j≠i->∀ t,s1[j]? = some (.own t)->s'[j]? = some (.own t)):Mv F H s A tl F1 H' s' A':=by
 have tch:∀ b∈A1 i,H b=Option.none\/Tch A tl b:=fun b hb=>m.cells i b hi hb
 refine⟨m.sF,fun b o e n=>?_,fun b o e=>?_,m.frz,fun j b hj hb=>?_,fun j hj=>?_⟩
 ·refine mu.keep b o (m.keep b o e n) fun z=>?_
  rcases tch b (inM b z) with y | y
  ·rw [e] at y;cases y
  ·exact n y
 ·obtain⟨o',e'⟩:=m.dom b o e
  exact mu.dom b o' e'
 ·by_cases e:j=i
  ·subst e
   rcases hAi b hb with z | z
   ·exact tch b z
   ·exact nw b z
  ·rw [hA j e] at hb
   exact m.cells j b hj hb
 ·have e:j≠i:=fun z=>hj (z ▸ hi)
  obtain⟨k1,k2⟩:=m.slot j hj
  exact⟨fun t z=>hs j e t (k1 t z),(hA j e).trans k2⟩
theorem zg2 {md:Bool}{tl1 tl2 rl:List Nat}{tp:TE}{ta:TA}{m:MU}{p:Xp}{es:List Xp}(hp:SP W E tl1 rl tp (WP p))(ha:SA W E tl2 [] ta (WEs false es))(dj:∀ j∈rl,j∉tl2):SE W E (rl++(tl1++tl2)) [] (fun σ H Q=>tp σ H fun x H1=>tyV W.K "list" x H1/\ta σ H1 fun xs H2=>muR m x xs H2 Q) (WE md (.mu m p es)):=by
 intro F H s σ A Q4 X4 Q R h q x
 simp only [WE] at h
 refine hp F H s σ A _ X4 _ R h (fun i pth s1 v F1 H1 A1 p1 ⟨⟨t0,g0,l0⟩,h1⟩=>?_) (x.sub fun j h=>zd j (zc j h))
 refine⟨?_,ha F1 H1 s1 σ A1 _ X4 _ p1.rep h1 (fun ts s2 us F2 H2 A2 B2 p2 h2=>?_) (x.mono (p1.mv.mono fun j h=>zd j (zc j h)) fun j h=>zd j (zd j h))⟩
 ·obtain⟨r,w,C,g1,g2,g3,g4,g5⟩:=p1.tr g0
  cases t0<;>simp only [isLs,Bool.false_eq_true] at l0
  obtain⟨p',vs,B,rfl,k1,_⟩:=g5
  exact .inl ⟨rfl,vs,SqL.of k1⟩
 ·obtain⟨t,r,e1,e2,h2⟩:=h2
  have p3:=p1.step p2.rep p2.mv dj
  obtain⟨r0,w,C,g1,g2,g3,g4,g5⟩:=p3.tr e1
  obtain⟨w',v',M,f1,f2,f3,f4,f5,f6,f7⟩:=p2.rep.mut g1 g2 p2.vd
  rw [g3] at f1
  cases f1
  rw [g4] at f2
  cases f2
  refine zgV p2.rep.fh f3 p2.tr f4 (p2.nd rfl) f6 (t':=r.1) (r:=r.2) e2 fun u H3 M' Br mu=>?_
  obtain⟨A3,R3,d3,a1,a2⟩:=f7 mu
  have m2:Mv F H s A (rl++(tl1++tl2)) F2 H2 s2 A2:=p3.mv.mono zd
  have no2:∀ b∈B2,¬ Ow A2 b:=fun b hb=>(p2.vd.at_ b hb).resolve_right fun⟨_,z,_⟩=>by cases z
  have nw:∀ b∈B2,H b=none\/Tch A (rl++(tl1++tl2)) b:=fun b hb=>by
   rcases p2.new b hb (no2 b hb) with y | y
   ·exact .inl (p1.mv.none y)
   ·exact(p1.mv.mono (tl':=rl++(tl1++tl2)) fun j h=>zd j (zc j h)).ta (y.imp fun _ h=>⟨zd _ (zd _ h.1),h.2⟩)
  have hi:i∈rl++(tl1++tl2):=zc i p1.rt
  have m3:=m2.mut (s':=putS s2 i pth r.1) hi mu f5 nw a1 a2 fun j e t z=>(qk g1 e).mpr z
  refine q r.2 _ u F2 H3 A3 Br ⟨R3,m3,mu.tr,d3,(List.nodup_append.mp mu.nd).2.1,fun b hb no=>?_⟩ h2
  rcases mu.sub b (List.mem_append_right _ hb) with z | z
  ·exact m2.cells i b hi (f5 b z)
  ·exact nw b z
end L4
namespace L4
open PySem L2 PySem.Spec PyProof.Rows
variable {W:Wd} {E:XS}
noncomputable def AR (W:Wd)(F H:Hp)(s:Sl)(σ:L2.St):List Md->List T->List V->List (Nat×List Nat)->List Addr->List Addr->Prop
 | .fz::ms,t::ts,vs,ps,Z,M=>∃ v r raw Z1 Z2,vs=v::r/\t=fzn raw/\Tr W F H raw v Z1/\Z=Z1++Z2/\AR W F H s σ ms ts r ps Z2 M
 | .mv::ms,t::ts,vs,ps,Z,M=>∃ v r M1 M2,vs=v::r/\Tr W F H t v M1/\M=M1++M2/\AR W F H s σ ms ts r ps Z M2
 | .mu::ms,t::ts,vs,ps,Z,M=>∃ v r i p ps',vs=v::r/\ps=(i,p)::ps'/\(∃ rr w,s[i]? = some (.own rr)/\getT rr p=some t/\σ[i]? = some (some w)/\vAt H w p=some v)/\AR W F H s σ ms ts r ps' Z M
 | [],ts,vs,ps,Z,M=>ts=[]/\vs=[]/\ps=[]/\Z=[]/\M=[]
 | _::_,[],_,_,_,_=>False
noncomputable def ckV (W:Wd):Option (Nat×Str)->V->Hp->Prop
 | none,_,_=>True
 | some cx,v,H=>∃ a dx fs,v=.ref a/\H a=some (.ins (W.cl cx.1) dx fs)/\fs.lookup cx.2=none
theorem za6 {ck:Option (Nat×Str)}{F H:Hp}{t:T}{v:V}{B:List Addr}(g:Same F H)(h:Tr W F H t v B)(c:ckT ck t):ckV W ck v H:=by
 cases ck with
 | none=>trivial
 | some cx=>
  obtain⟨o,e1,e2,e3⟩:=c
  obtain⟨p,dx,kvs,C,rfl,h1,h2,h3⟩:=zft g h e1
  refine⟨p,dx,kvs,rfl,by rw [← e2];exact h1,?_⟩
  rw [← h2] at e3
  clear h1 h2 h3 h
  induction kvs with
  | nil=>rfl
  | cons a l ih=>
   obtain⟨a1,a2⟩:=a
   rw [List.map_cons,List.mem_cons,not_or] at e3
   rw [List.lookup_cons,show(cx.2 == a1)=false from by simpa using e3.1]
   exact ih e3.2
noncomputable def tCk (P:V->Hp->Prop)(te:TE)(tr:TA):TA:=fun σ H Q=>te σ H fun x H1=>P x H1/\tr σ H1 fun xs H2=>Q (x::xs) H2
structure GPo (W:Wd)(F H:Hp)(A:Nat->List Addr)(s:Sl)(σ:L2.St)(tl rl:List Nat)(ms:List Md)(ts:List T)(ps:List (Nat×List Nat))(s':Sl)(vs:List V)(F' H':Hp)(A':Nat->List Addr)(Z M:List Addr):Prop where
 rep:Rep W F' H' s' σ A'
 mv:Mv F H s A tl F' H' s' A'
 ar:AR W F' H' s' σ ms ts vs ps Z M
 vz:Vd A' F' H' rl Z
 vm:Vd A' F' H' [] M
 nz:rl=[]->Z.Nodup
 nm:M.Nodup
 zm:∀ b∈Z,b∉M
 newz:∀ b∈Z,¬ Ow A' b->H b=none\/Tch A tl b
 newm:∀ b∈M,H b=none\/Tch A tl b
def SM (W:Wd)(E:XS)(tl rl pl:List Nat)(ms:List Md)(t:TA)(m:Sl->(List T->List (Nat×List Nat)->Sl->Prop)->XP->Prop):Prop:=∀ (F H:Hp) (s:Sl) (σ:L2.St) (A:Nat->List Addr) (Q4:List T->List (Nat×List Nat)->Sl->Prop) (X4:XP) (Q:List V->Hp->Prop),Rep W F H s σ A->m s Q4 X4 ->
 (∀ ts ps s' vs F' H' A' Z M,GPo W F H A s σ tl rl ms ts ps s' vs F' H' A' Z M->(∃ f,ps.map (·.1)=f/\List.Sublist f pl)->Q4 ts ps s'->Q vs H')->XK4 W E F H A s σ tl X4->t σ H Q
theorem zfG {ln:Bool}{ck:Option (Nat×Str)}{rl:List Nat}:SM W E [] rl [] [] tNil (WA ln ck [] []):=by
 intro F H s σ A Q4 X4 Q R h q x
 simp only [WA] at h
 exact q [] [] s [] F H A [] [] ⟨R,Mv.refl,⟨rfl,rfl,rfl,rfl,rfl⟩,Vd.nil,Vd.nil,fun _=>.nil,.nil,(fun b hb=>by cases hb),(fun b hb=>by cases hb),fun b hb=>by cases hb⟩ ⟨[],rfl,List.Sublist.refl _⟩ h
theorem Mv.newm {F H F1 H1:Hp}{A A1:Nat->List Addr}{s s1:Sl}{tl1 tl2:List Nat}(m1:Mv F H s A tl1 F1 H1 s1 A1){b:Addr}(h:H1 b=Option.none\/Tch A1 tl2 b):H b=Option.none\/Tch A (tl1++tl2) b:=by
 rcases h with y | y
 ·exact .inl (m1.none y)
 ·exact(m1.mono zc).ta (y.imp fun _ h=>⟨zd _ h.1,h.2⟩)
theorem zg3 {ln:Bool}{ck:Option (Nat×Str)}{tl1 tl2 rl1 rl2 pl:List Nat}{ms:List Md}{te:TE}{tr:TA}{e:Xp}{es:List Xp}(he:SE W E tl1 rl1 te (WE ln e))(hr:SM W E tl2 rl2 pl ms tr (WA ln none ms es))(dj:∀ j∈rl1,j∉tl2):SM W E (tl1++tl2) (rl1++rl2) pl (.fz::ms) (tCk (ckV W ck) te tr) (WA ln ck (.fz::ms) (e::es)):=by
 intro F H s σ A Q4 X4 Q R h q x
 simp only [WA] at h
 refine he F H s σ A _ X4 _ R h (fun t s1 v F1 H1 A1 B1 p1 ⟨hk,h1⟩=>⟨za6 p1.rep.fh p1.tr hk,?_⟩) (x.sub zc)
 refine hr F1 H1 s1 σ A1 _ X4 _ p1.rep h1 (fun ts ps s2 vs F2 H2 A2 Z M p2 sp h2=>?_) (x.mono (p1.mv.mono zc) zd)
 have dis:=fun i j a=>p1.rep.dis i j a
 have vx:=p1.vd.mv dis dj p2.mv
 have old:∀ b∈B1,∀ {C:List Addr},Vd A2 F2 H2 [] C->(∀ b∈C,H1 b=none\/Tch A1 tl2 b)->b∉C:=fun b hb C vc nc hc=>by
  have no2:¬ Ow A2 b:=(vc.at_ b hc).resolve_right fun⟨_,z,_⟩=>by cases z
  rcases nc b hc with z | z
  ·obtain⟨y,hy⟩:=p1.vd.ob b hb
   rw [hy] at z;cases z
  ·exact p1.vd.not dis dj b hb z
 refine q (fzn t::ts) ps s2 (v::vs) F2 H2 A2 (B1++Z) M ⟨p2.rep,p1.mv.trans p2.mv,⟨v,vs,t,B1,Z,rfl,rfl,p1.vd.tr dis dj p2.mv p1.tr,rfl,p2.ar⟩,vx.app p2.vz,p2.vm,fun e=>?_,p2.nm,fun b hb=>?_,fun b hb no=>?_,fun b hb=>p1.mv.newm (p2.newm b hb)⟩ sp h2
 ·obtain⟨rfl,rfl⟩:=List.append_eq_nil_iff.mp e
  exact zU p1.nd (p2.nz rfl) fun b hb=>old b hb p2.vz fun b hb=>p2.newz b hb ((p2.vz.at_ b hb).resolve_right fun⟨_,z,_⟩=>by cases z)
 ·rcases List.mem_append.mp hb with z | z
  ·exact old b z p2.vm p2.newm
  ·exact p2.zm b z
 ·rcases List.mem_append.mp hb with z | z
  ·exact Jm p1.rep p1.vd p1.new p2.mv dj b z no
  ·exact p1.mv.newm (p2.newz b z no)
theorem zg4 {ln:Bool}{ck:Option (Nat×Str)}{tl1 tl2 rl2 pl:List Nat}{ms:List Md}{te:TE}{tr:TA}{e:Xp}{es:List Xp}(he:SE W E tl1 [] te (WE false e))(hr:SM W E tl2 rl2 pl ms tr (WA ln none ms es)):SM W E (tl1++tl2) rl2 pl (.mv::ms) (tCk (ckV W ck) te tr) (WA ln ck (.mv::ms) (e::es)):=by
 intro F H s σ A Q4 X4 Q R h q x
 simp only [WA] at h
 refine he F H s σ A _ X4 _ R h (fun t s1 v F1 H1 A1 B1 p1 ⟨hk,h1⟩=>⟨za6 p1.rep.fh p1.tr hk,?_⟩) (x.sub zc)
 refine hr F1 H1 s1 σ A1 _ X4 _ p1.rep h1 (fun ts ps s2 vs F2 H2 A2 Z M p2 sp h2=>?_) (x.mono (p1.mv.mono zc) zd)
 have dis:=fun i j a=>p1.rep.dis i j a
 have dj:∀ j∈([]:List Nat),j∉tl2:=fun _ h=>by cases h
 have vx:=p1.vd.mv dis dj p2.mv
 have no2:∀ b∈B1,¬ Ow A2 b:=fun b hb=>(vx.at_ b hb).resolve_right fun⟨_,z,_⟩=>by cases z
 have old:∀ b∈B1,¬ (H1 b=none\/Tch A1 tl2 b):=fun b hb z=>by
  rcases z with z | z
  ·obtain⟨y,hy⟩:=p1.vd.ob b hb
   rw [hy] at z;cases z
  ·exact p1.vd.not dis dj b hb z
 refine q (t::ts) ps s2 (v::vs) F2 H2 A2 Z (B1++M) ⟨p2.rep,p1.mv.trans p2.mv,⟨v,vs,B1,M,rfl,p1.vd.tr dis dj p2.mv p1.tr,rfl,p2.ar⟩,p2.vz,(vx.app p2.vm),p2.nz,zU p1.nd p2.nm fun b hb z=>old b hb (p2.newm b z),fun b hb z=>?_,fun b hb no=>p1.mv.newm (p2.newz b hb no),fun b hb=>?_⟩ sp h2
 ·rcases List.mem_append.mp z with z | z
  ·exact old b z (p2.newz b hb (no2 b z))
  ·exact p2.zm b hb z
 ·rcases List.mem_append.mp hb with z | z
  ·exact Jm p1.rep p1.vd p1.new p2.mv dj b z (no2 b z)
  ·exact p1.mv.newm (p2.newm b z)
theorem zg5 {ln:Bool}{ck:Option (Nat×Str)}{tl1 tl2 rl1 rl2 pl:List Nat}{ms:List Md}{te:TE}{tr:TA}{e:Xp}{es:List Xp}(he:SP W E tl1 rl1 te (WP e))(hr:SM W E tl2 rl2 pl ms tr (WA ln none ms es))(dj:∀ j∈rl1,j∉tl2):SM W E (tl1++tl2) rl2 (rl1++pl) (.mu::ms) (tCk (ckV W ck) te tr) (WA ln ck (.mu::ms) (e::es)):=by
 intro F H s σ A Q4 X4 Q R h q x
 simp only [WA] at h
 refine he F H s σ A _ X4 _ R h (fun i p s1 v F1 H1 A1 p1 ⟨⟨t0,hk0,hk⟩,h1⟩=>⟨by obtain⟨_,_,_,_,_,_,_,g⟩:=p1.tr hk0;exact za6 p1.rep.fh g hk,?_⟩) (x.sub zc)
 refine hr F1 H1 s1 σ A1 _ X4 _ p1.rep h1 (fun ts ps s2 vs F2 H2 A2 Z M p2 sp h2=>?_) (x.mono (p1.mv.mono zc) zd)
 obtain⟨t,e1,h2⟩:=h2
 have p3:=p1.step p2.rep p2.mv dj
 obtain⟨r0,w,C,g1,g2,g3,g4,g5⟩:=p3.tr e1
 obtain⟨f,ef,sf⟩:=sp
 refine q (t::ts) ((i,p)::ps) s2 (v::vs) F2 H2 A2 Z M ⟨p2.rep,p3.mv,⟨v,vs,i,p,ps,rfl,rfl,⟨r0,w,g1,g2,g3,g4⟩,p2.ar⟩,p2.vz,p2.vm,p2.nz,p2.nm,p2.zm,fun b hb no=>p1.mv.newm (p2.newz b hb no),fun b hb=>p1.mv.newm (p2.newm b hb)⟩ ⟨i::f,by rw [List.map_cons,ef],?_⟩ h2
 exact List.Sublist.append (List.singleton_sublist.mpr p1.rt) sf
noncomputable def TrM (W:Wd)(F H:Hp):List Md->List T->List V->List Addr->Prop
 | .mu::ms,t::ts,vs,C=>∃ v r C1 C2,vs=v::r/\C=C1++C2/\Tr W F H t v C1/\TrM W F H ms ts r C2
 | .fz::ms,_::ts,vs,C=>∃ v r,vs=v::r/\TrM W F H ms ts r C
 | .mv::ms,_::ts,vs,C=>∃ v r,vs=v::r/\TrM W F H ms ts r C
 | _,_,_,C=>C=[]
structure FPo (W:Wd)(F H:Hp)(B:List Addr)(ms:List Md)(vs:List V)(ts':List T)(F' H':Hp)(C:List Addr):Prop where
 sF:Same F F'
 fh:Same F' H'
 keep:∀ b o,H b=some o->b∉B->H' b=some o
 dom:∀ b o,H b=some o->∃ o',H' b=some o'
 frz:∀ b o,F' b=some o->(∃ o',F b=some o')\/H b=none\/b∈B
 len:ts'.length=ms.length
 back:TrM W F' H' ms ts' vs C
noncomputable def SpM (W:Wd)(ms:List Md)(f:Fn):Sp:=fun vs H Q X=>vs.length=ms.length/\∃ F ts B Q4 X4,Same F H/\TrL W F H ts vs B/\B.Nodup/\(∀ b∈B,F b=none)/\f ts Q4 X4 /\
 (∀ r ts' v F' H' C Br,FPo W F H B ms vs ts' F' H' C->Tr W F' H' r v Br->(∀ b∈C++Br,F' b=none)->(C++Br).Nodup->(∀ b∈C++Br,H b=none\/b∈B)->Q4 r ts'->Q v H') /\
 ∀ x ts' c d F' H' C,FPo W F H B ms vs ts' F' H' C->IsX W F' x c d->(∀ b∈C,F' b=none)->C.Nodup->(∀ b∈C,H b=none\/b∈B)->X4 x ts'->X c d H'
end L4
namespace L4
open PySem L2 PySem.Spec PyProof.Rows
variable {W:Wd} {E:XS}
noncomputable def AQ (W:Wd)(F H:Hp)(s:Sl)(σ:L2.St):List Md->List T->List V->List (Nat×List Nat)->List Addr->Prop
 | .fz::ms,t::ts,vs,ps,M=>∃ v r,vs=v::r/\Tr W F H t v []/\AQ W F H s σ ms ts r ps M
 | .mv::ms,t::ts,vs,ps,M=>∃ v r M1 M2,vs=v::r/\Tr W F H t v M1/\M=M1++M2/\AQ W F H s σ ms ts r ps M2
 | .mu::ms,t::ts,vs,ps,M=>∃ v r i p ps',vs=v::r/\ps=(i,p)::ps'/\(∃ rr w,s[i]? = some (.own rr)/\getT rr p=some t/\σ[i]? = some (some w)/\vAt H w p=some v)/\AQ W F H s σ ms ts r ps' M
 | [],ts,vs,ps,M=>ts=[]/\vs=[]/\ps=[]/\M=[]
 | _::_,[],_,_,_=>False
theorem Wx {F F' H:Hp}{s:Sl}{σ:L2.St}(g:Same F F'):∀ {ms:List Md} {ts:List T} {vs:List V} {ps:List (Nat×List Nat)} {Z M:List Addr},AR W F H s σ ms ts vs ps Z M->(∀ b∈Z,∀ x,H b=some x->F' b=some x)->AQ W F' H s σ ms ts vs ps M
 | .fz::ms,t::ts,_,_,_,_,⟨v,r,raw,Z1,Z2,e,et,h1,ez,h2⟩,k=>⟨v,r,e,by rw [et];exact Ji (h1.isv g fun b hb=>k b (by rw [ez];exact List.mem_append_left _ hb)),Wx g h2 fun b hb=>k b (by rw [ez];exact List.mem_append_right _ hb)⟩
 | .mv::ms,t::ts,_,_,_,_,⟨v,r,M1,M2,e,h1,em,h2⟩,k=>⟨v,r,M1,M2,e,h1.frame g fun _ _ _ h=>h,em,Wx g h2 k⟩
 | .mu::ms,t::ts,_,_,_,_,⟨v,r,i,p,ps',e,ep,h1,h2⟩,k=>⟨v,r,i,p,ps',e,ep,h1,Wx g h2 k⟩
 | [],_,_,_,_,_,⟨h1,h2,h3,_,h5⟩,_=>⟨h1,h2,h3,h5⟩
 | .fz::_,[],_,_,_,_,h,_=>h.elim
 | .mv::_,[],_,_,_,_,h,_=>h.elim
 | .mu::_,[],_,_,_,_,h,_=>h.elim
noncomputable def vS:List (Nat×List Nat)->List V->Sl->Sl
 | ip::ps,v::vs,s=>vS ps vs (putS s ip.1 ip.2 (.hol v))
 | _,_,s=>s
noncomputable def muV:List Md->List V->List V
 | .mu::ms,v::vs=>v::muV ms vs
 | .fz::ms,_::vs=>muV ms vs
 | .mv::ms,_::vs=>muV ms vs
 | _,_=>[]
theorem AQ.other {F H:Hp}{s s':Sl}{σ:L2.St}{i:Nat}(hs:∀ j,j≠i->∀ t,s[j]? = some (.own t)->s'[j]? = some (.own t)):∀ {ms:List Md} {ts:List T} {vs:List V} {ps:List (Nat×List Nat)} {M:List Addr},AQ W F H s σ ms ts vs ps M->i∉ps.map (·.1)->AQ W F H s' σ ms ts vs ps M
 | .fz::ms,t::ts,_,_,_,⟨v,r,e,h1,h2⟩,n=>⟨v,r,e,h1,AQ.other hs h2 n⟩
 | .mv::ms,t::ts,_,_,_,⟨v,r,M1,M2,e,h1,em,h2⟩,n=>⟨v,r,M1,M2,e,h1,em,AQ.other hs h2 n⟩
 | .mu::ms,t::ts,_,_,_,⟨v,r,j,p,ps',e,ep,⟨rr,w,h1,h3⟩,h2⟩,n=>by
  subst ep
  rw [List.map_cons,List.mem_cons,not_or] at n
  exact⟨v,r,j,p,ps',e,rfl,⟨rr,w,hs j (Ne.symm n.1) rr h1,h3⟩,AQ.other hs h2 n.2⟩
 | [],_,_,_,_,h,_=>h
 | .fz::_,[],_,_,_,h,_=>h
 | .mv::_,[],_,_,_,h,_=>h
 | .mu::_,[],_,_,_,h,_=>h
theorem det {F H:Hp}{σ:L2.St}:∀ {ms:List Md} {ts:List T} {vs:List V} {ps:List (Nat×List Nat)} {M:List Addr} {s:Sl} {A:Nat->List Addr},AQ W F H s σ ms ts vs ps M->(ps.map (·.1)).Nodup->Rep W F H s σ A->Vd A F H [] M->M.Nodup ->
  ∃ A' B,Rep W F H (vS ps (muV ms vs) s) σ A'/\TrL W F H ts vs B/\B.Nodup/\Vd A' F H [] B/\(∀ b∈B,b∈M\/∃ i∈ps.map (·.1),b∈A i)/\(∀ j,j∉ps.map (·.1)->A' j=A j)/\∀ j,∀ b∈A' j,b∈A j
 | .fz::ms,t::ts,_,ps,M,s,A,⟨v,r,e,h1,h2⟩,np,R,d,nd=>by
  subst e
  obtain⟨A',B,f1,f2,f3⟩:=det h2 np R d nd
  exact⟨A',B,f1,⟨v,r,[],B,rfl,rfl,h1,f2⟩,f3⟩
 | .mv::ms,t::ts,_,ps,M,s,A,⟨v,r,M1,M2,e,h1,em,h2⟩,np,R,d,nd=>by
  subst e em
  rw [List.nodup_append] at nd
  obtain⟨A',B,f1,f2,f3,f4,f5,f6,f7⟩:=det h2 np R (d.sub fun b hb=>List.mem_append_right _ hb) nd.2.1
  have no:∀ b∈M1,¬ Ow A b:=fun b hb=>(d.at_ b (List.mem_append_left _ hb)).resolve_right fun⟨_,z,_⟩=>by cases z
  refine⟨A',M1++B,f1,⟨v,r,M1,B,rfl,rfl,h1,f2⟩,zU nd.1 f3 fun b hb z=>?_,?_,fun b hb=>?_,f6,f7⟩
  ·rcases f5 b z with y | ⟨i,_,y⟩
   ·exact nd.2.2 b hb b y rfl
   ·exact no b hb ⟨i,y⟩
  ·exact⟨fun b hb=>(List.mem_append.mp hb).elim (fun z=>d.fr b (List.mem_append_left _ z)) (f4.fr b),fun b hb=>(List.mem_append.mp hb).elim (fun z=>d.ob b (List.mem_append_left _ z)) (f4.ob b),fun b hb=>(List.mem_append.mp hb).elim (fun z=>.inl fun⟨j,y⟩=>no b z ⟨j,f7 j b y⟩) (f4.at_ b)⟩
  ·rcases List.mem_append.mp hb with z | z
   ·exact .inl (List.mem_append_left _ z)
   ·exact(f5 b z).imp (fun y=>List.mem_append_right _ y) id
 | .mu::ms,t::ts,_,_,M,s,A,⟨v,r,i,p,ps,e,ep,⟨rr,w,h1,h2,h3,h4⟩,h5⟩,np,R,d,nd=>by
  subst e ep
  rw [List.map_cons,List.nodup_cons] at np
  obtain⟨w',v',A1,A2,g1,g2,g3,g4,g5,g6,g7⟩:=R.detach h1 h2
  rw [h3] at g1
  cases g1
  rw [h4] at g2
  cases g2
  have noM:∀ b∈M,¬ Ow A b:=fun b hb=>(d.at_ b hb).resolve_right fun⟨_,z,_⟩=>by cases z
  have inA:∀ j,∀ b∈setA A i A1 j,b∈A j:=fun j b hb=>by
   by_cases e:j=i
   ·subst e;rw [zH] at hb;exact(g3 b).mpr (.inl hb)
   ·rw [zC e] at hb;exact hb
  have d1:Vd (setA A i A1) F H [] M:=⟨d.fr,d.ob,fun b hb=>.inl fun⟨j,y⟩=>noM b hb ⟨j,inA j b y⟩⟩
  obtain⟨A',B,f1,f2,f3,f4,f5,f6,f7⟩:=det (h5.other (s':=putS s i p (.hol v)) (fun j e t z=>(qk h1 e).mpr z) np.1) np.2 g7 d1 nd
  have no2:∀ b∈A2,¬ Ow (setA A i A1) b:=fun b hb=>(g6.at_ b hb).resolve_right fun⟨_,z,_⟩=>by cases z
  refine⟨A',A2++B,f1,⟨v,r,A2,B,rfl,rfl,g4,f2⟩,zU g5 f3 fun b hb z=>?_,?_,fun b hb=>?_,fun j hj=>?_,fun j b hb=>inA j b (f7 j b hb)⟩
  ·rcases f5 b z with y | ⟨k,_,y⟩
   ·exact noM b y ⟨i,(g3 b).mpr (.inr hb)⟩
   ·exact no2 b hb ⟨k,y⟩
  ·exact⟨fun b hb=>(List.mem_append.mp hb).elim (g6.fr b) (f4.fr b),fun b hb=>(List.mem_append.mp hb).elim (g6.ob b) (f4.ob b),fun b hb=>(List.mem_append.mp hb).elim (fun z=>.inl fun⟨j,y⟩=>no2 b z ⟨j,f7 j b y⟩) (f4.at_ b)⟩
  ·rcases List.mem_append.mp hb with z | z
   ·exact .inr ⟨i,by simp,(g3 b).mpr (.inr z)⟩
   ·rcases f5 b z with y | ⟨k,y1,y2⟩
    ·exact .inl y
    ·exact .inr ⟨k,by rw [List.map_cons];exact List.mem_cons_of_mem _ y1,inA k b y2⟩
  ·rw [List.map_cons,List.mem_cons,not_or] at hj
   rw [f6 j hj.2,zC hj.1]
 | [],_,_,_,_,s,A,⟨h1,h2,h3,h4⟩,_,R,_,_=>by subst h1 h2 h3 h4;exact⟨A,[],R,⟨rfl,rfl⟩,.nil,Vd.nil,(fun b hb=>by cases hb),(fun _ _=>rfl),fun _ _ h=>h⟩
 | .fz::_,[],_,_,_,s,A,h,_,_,_,_=>h.elim
 | .mv::_,[],_,_,_,s,A,h,_,_,_,_=>h.elim
 | .mu::_,[],_,_,_,s,A,h,_,_,_,_=>h.elim
theorem Ka {i a:Nat}{p q:List Nat}(x:Slot):(x.kill i p).kill a q=(x.kill a q).kill i p:=by
 cases x with
 | al k z=>
  by_cases e1:k=i/\z.isPrefixOf p=false
  ·by_cases e2:k=a/\z.isPrefixOf q=false
   ·rw [show Slot.kill i p (.al k z)=.no from if_pos e1,show Slot.kill a q (.al k z)=.no from if_pos e2];rfl
   ·rw [show Slot.kill a q (.al k z)=.al k z from if_neg e2,show Slot.kill i p (.al k z)=.no from if_pos e1];rfl
  ·by_cases e2:k=a/\z.isPrefixOf q=false
   ·rw [show Slot.kill a q (.al k z)=.no from if_pos e2,show Slot.kill i p (.al k z)=.al k z from if_neg e1]
    exact if_pos e2
   ·rw [show Slot.kill a q (.al k z)=.al k z from if_neg e2,show Slot.kill i p (.al k z)=.al k z from if_neg e1]
    exact if_neg e2
 | _=>rfl
theorem Kb {s:Sl}{i a:Nat}{p q:List Nat}{ri ra n m:T}(hi:s[i]? = some (.own ri))(ha:s[a]? = some (.own ra))(ne:a≠i):putS (putS s a q n) i p m=putS (putS s i p m) a q n:=by
 have hi':=(qk (p:=q) (t:=n) ha (Ne.symm ne)).mpr hi
 have ha':=(qk (p:=p) (t:=m) hi ne).mpr ha
 apply List.ext_getElem?
 intro j
 by_cases e1:j=i
 ·subst e1
  rw [qr hi',qZ ha' (Ne.symm ne),qr hi];rfl
 ·by_cases e2:j=a
  ·subst e2
   rw [qr ha',qZ hi' e1,qr ha];rfl
  ·rw [qZ hi' e1,qZ ha e2,qZ ha' e2,qZ hi e1,Option.map_map,Option.map_map]
   congr 1
   funext x
   exact Ka x
def PlOk (s:Sl)(ps:List (Nat×List Nat)):Prop:=∀ ip∈ps,∃ r u,s[ip.1]? = some (.own r)/\getT r ip.2=some u
theorem PlOk.other {s:Sl}{i:Nat}{p:List Nat}{r t:T}{ps:List (Nat×List Nat)}(h:PlOk s ps)(hi:s[i]? = some (.own r))(n:i∉ps.map (·.1)):PlOk (putS s i p t) ps:=fun ip hip=>by
 obtain⟨r',u,h1,h2⟩:=h ip hip
 exact⟨r',u,(qk hi fun e=>n (e ▸ List.mem_map_of_mem hip)).mpr h1,h2⟩
theorem QU:∀ {ps:List (Nat×List Nat)} {vs:List V} {s:Sl} {i:Nat} {r:T},PlOk s ps->(ps.map (·.1)).Nodup->i∉ps.map (·.1)->s[i]? = some (.own r)->(vS ps vs s)[i]? = some (.own r)
 | [],vs,s,i,r,_,_,_,h=>by cases vs<;>exact h
 | _::_,[],s,i,r,_,_,_,h=>h
 | ip::ps,v::vs,s,i,r,ok,np,n,h=>by
  rw [List.map_cons,List.mem_cons,not_or] at n
  rw [List.map_cons,List.nodup_cons] at np
  obtain⟨r',u,h1,h2⟩:=ok ip List.mem_cons_self
  simp only [vS]
  exact QU (PlOk.other (fun q hq=>ok q (List.mem_cons_of_mem _ hq)) h1 np.1) np.2 n.2 ((qk h1 n.1).mpr h)
theorem QW:∀ {ps:List (Nat×List Nat)} {vs:List V} {s:Sl} {i:Nat} {p:List Nat} {r t:T},PlOk s ps->(ps.map (·.1)).Nodup->i∉ps.map (·.1)->s[i]? = some (.own r)->putS (vS ps vs s) i p t=vS ps vs (putS s i p t)
 | [],vs,s,i,p,r,t,_,_,_,h=>by cases vs<;>rfl
 | _::_,[],s,i,p,r,t,_,_,_,h=>rfl
 | ip::ps,v::vs,s,i,p,r,t,ok,np,n,h=>by
  rw [List.map_cons,List.mem_cons,not_or] at n
  rw [List.map_cons,List.nodup_cons] at np
  obtain⟨r',u,h1,h2⟩:=ok ip List.mem_cons_self
  simp only [vS]
  rw [QW (PlOk.other (fun q hq=>ok q (List.mem_cons_of_mem _ hq)) h1 np.1) np.2 n.2 ((qk h1 n.1).mpr h),Kb h h1 (Ne.symm n.1)]
theorem att {F H:Hp}{σ:L2.St}:∀ {ms:List Md} {ts:List T} {vs:List V} {ps:List (Nat×List Nat)} {C:List Addr} {s:Sl} {A:Nat->List Addr},TrM W F H ms ts vs C->ts.length=ms.length->vs.length=ms.length->ps.length=(muV ms vs).length->PlOk s ps->(ps.map (·.1)).Nodup->Rep W F H (vS ps (muV ms vs) s) σ A->Vd A F H [] C->C.Nodup ->
  ∃ A',Rep W F H (putBack ms ps ts s) σ A'/\(∀ j,j∉ps.map (·.1)->A' j=A j)/\(∀ j,∀ b∈A' j,b∈A j\/b∈C)/\∀ j,j∉ps.map (·.1)->∀ t,s[j]? = some (.own t)->(putBack ms ps ts s)[j]? = some (.own t)
 | .fz::ms,t::ts,_,ps,C,s,A,⟨v,r,e,h2⟩,l1,l2,l3,ok,np,R,d,nd=>by
  subst e
  simp only [putBack]
  exact att h2 (by simpa using l1) (by simpa using l2) l3 ok np R d nd
 | .mv::ms,t::ts,_,ps,C,s,A,⟨v,r,e,h2⟩,l1,l2,l3,ok,np,R,d,nd=>by
  subst e
  simp only [putBack]
  exact att h2 (by simpa using l1) (by simpa using l2) l3 ok np R d nd
 | .mu::ms,t::ts,_,[],C,s,A,⟨v,r,C1,C2,e,ec,h1,h2⟩,l1,l2,l3,ok,np,R,d,nd=>by subst e;simp [muV] at l3
 | .mu::ms,t::ts,_,(i,p)::ps,C,s,A,⟨v,r,C1,C2,e,ec,h1,h2⟩,l1,l2,l3,ok,np,R,d,nd=>by
  subst e ec
  rw [List.map_cons,List.nodup_cons] at np
  obtain⟨r0,u,g1,g2⟩:=ok (i,p) List.mem_cons_self
  have ok1:PlOk s ps:=fun q hq=>ok q (List.mem_cons_of_mem _ hq)
  simp only [muV,vS] at R l3
  simp only [putBack]
  rw [List.nodup_append] at nd
  have e1:=qr (p:=p) (t:=.hol v) g1
  have ok2:PlOk (putS s i p (.hol v)) ps:=ok1.other g1 np.1
  have e2:=QU (vs:=muV ms r) ok2 np.2 np.1 e1
  obtain⟨C',R1,hC⟩:=R.attach e2 (vF p g2) h1 (d.sub fun b hb=>List.mem_append_left _ hb) nd.1
  rw [QW ok2 np.2 np.1 e1,QT g1 g2] at R1
  have noC:∀ b∈C1++C2,¬ Ow A b:=fun b hb=>(d.at_ b hb).resolve_right fun⟨_,z,_⟩=>by cases z
  have d2:Vd (setA A i C') F H [] C2:=by
   refine⟨fun b hb=>d.fr b (List.mem_append_right _ hb),fun b hb=>d.ob b (List.mem_append_right _ hb),fun b hb=>.inl fun z=>?_⟩
   rcases vG z with z | ⟨j,_,z⟩
   ·rcases(hC b).mp z with y | y
    ·exact noC b (List.mem_append_right _ hb) ⟨i,y⟩
    ·exact nd.2.2 b y b hb rfl
   ·exact noC b (List.mem_append_right _ hb) ⟨j,z⟩
  obtain⟨A',f1,f2,f3,f4⟩:=att h2 (by simpa using l1) (by simpa using l2) (by simpa using l3) (ok1.other g1 np.1) np.2 R1 d2 nd.2.1
  refine⟨A',f1,fun j hj=>?_,fun j b hb=>?_,fun j hj t' ht=>?_⟩
  ·rw [List.map_cons,List.mem_cons,not_or] at hj
   rw [f2 j hj.2,zC hj.1]
  ·rcases f3 j b hb with z | z
   ·by_cases e:j=i
    ·subst e
     rw [zH] at z
     exact((hC b).mp z).imp id fun y=>List.mem_append_left _ y
    ·rw [zC e] at z;exact .inl z
   ·exact .inr (List.mem_append_right _ z)
  ·rw [List.map_cons,List.mem_cons,not_or] at hj
   exact f4 j hj.2 t' ((qk g1 hj.1).mpr ht)
 | [],ts,vs,ps,C,s,A,h,l1,l2,l3,ok,np,R,d,nd=>by
  have:ps=[]:=by cases ps with | nil=>rfl | cons _ _=>simp [muV] at l3
  subst this
  have e:putBack [] [] ts s=s:=by cases ts<;>rfl
  rw [e]
  have e2:vS [] (muV [] vs) s=s:=by cases (muV [] vs)<;>rfl
  rw [e2] at R
  exact⟨A,R,fun _ _=>rfl,fun _ _ h=>.inl h,fun _ _ _ h=>h⟩
 | m::ms,[],vs,ps,C,s,A,h,l1,l2,l3,ok,np,R,d,nd=>by cases l1
end L4
namespace L4
open PySem L2 PySem.Spec PyProof.Rows
variable {W:Wd} {E:XS}
theorem TrM.cell {F H:Hp}:∀ {ms:List Md} {ts:List T} {vs:List V} {C:List Addr},TrM W F H ms ts vs C->∀ b∈C,∃ x,H b=some x
 | .mu::ms,t::ts,_,_,⟨v,r,C1,C2,_,ec,h1,h2⟩,b,hb=>by
  rw [ec] at hb
  rcases List.mem_append.mp hb with z | z
  ·exact h1.cell b z
  ·exact TrM.cell h2 b z
 | .fz::ms,t::ts,_,_,⟨v,r,_,h2⟩,b,hb=>TrM.cell h2 b hb
 | .mv::ms,t::ts,_,_,⟨v,r,_,h2⟩,b,hb=>TrM.cell h2 b hb
 | [],_,_,_,h,b,hb=>by rw [show _=[] from h] at hb;cases hb
 | .mu::_,[],_,_,h,b,hb=>by rw [show _=[] from h] at hb;cases hb
 | .fz::_,[],_,_,h,b,hb=>by rw [show _=[] from h] at hb;cases hb
 | .mv::_,[],_,_,h,b,hb=>by rw [show _=[] from h] at hb;cases hb
theorem AQ.len {F H:Hp}{s:Sl}{σ:L2.St}:∀ {ms:List Md} {ts:List T} {vs:List V} {ps:List (Nat×List Nat)} {M:List Addr},AQ W F H s σ ms ts vs ps M->vs.length=ms.length/\ps.length=(muV ms vs).length/\PlOk s ps
 | .fz::ms,t::ts,_,_,_,⟨v,r,e,h1,h2⟩=>by obtain⟨a,b,c⟩:=AQ.len h2;subst e;exact⟨by simp [a],b,c⟩
 | .mv::ms,t::ts,_,_,_,⟨v,r,M1,M2,e,h1,em,h2⟩=>by obtain⟨a,b,c⟩:=AQ.len h2;subst e;exact⟨by simp [a],b,c⟩
 | .mu::ms,t::ts,_,_,_,⟨v,r,j,p,ps',e,ep,⟨rr,w,h1,h3,_⟩,h2⟩=>by
  obtain⟨a,b,c⟩:=AQ.len h2
  subst e ep
  refine⟨by simp [a],by simp [muV,b],fun ip hip=>?_⟩
  rcases List.mem_cons.mp hip with rfl | z
  ·exact⟨rr,t,h1,h3⟩
  ·exact c ip z
 | [],_,_,_,_,⟨h1,h2,h3,h4⟩=>by subst h2 h3;exact⟨rfl,rfl,fun _ h=>by cases h⟩
 | .fz::_,[],_,_,_,h=>h.elim
 | .mv::_,[],_,_,_,h=>h.elim
 | .mu::_,[],_,_,_,h=>h.elim
structure CPo (W:Wd)(F H:Hp)(A:Nat->List Addr)(s:Sl)(σ:L2.St)(tl:List Nat)(s':Sl)(F' H':Hp)(A':Nat->List Addr)(Br:List Addr):Prop where
 rep:Rep W F' H' s' σ A'
 mv:Mv F H s A tl F' H' s' A'
 at_:∀ b∈Br,¬ Ow A' b
 new:∀ b∈Br,H b=none\/Tch A tl b
theorem back {F H F1 H1:Hp}{A A1:Nat->List Addr}{s s1:Sl}{σ:L2.St}{tl pl:List Nat}{ms:List Md}{ts:List T}{ps:List (Nat×List Nat)}{vs:List V}{Z M:List Addr}(p:GPo W F H A s σ tl [] ms ts ps s1 vs F1 H1 A1 Z M)(sp:∃ f,ps.map (·.1)=f/\List.Sublist f pl)(np:pl.Nodup) :
  vs.length=ms.length/\∃ B,Same (adds F1 H1 Z) H1/\TrL W (adds F1 H1 Z) H1 ts vs B/\B.Nodup/\(∀ b∈B,adds F1 H1 Z b=none) /\
   ∀ {ts':List T} {F' H':Hp} {C Br:List Addr},FPo W (adds F1 H1 Z) H1 B ms vs ts' F' H' C->(∀ b∈C++Br,F' b=none)->(C++Br).Nodup->(∀ b∈C++Br,H1 b=none\/b∈B)->∃ A',CPo W F H A s σ (pl++tl) (putBack ms ps ts' s1) F' H' A' Br:=by
 obtain⟨f,ef,sf⟩:=sp
 have np':(ps.map (·.1)).Nodup:=by rw [ef];exact sf.nodup np
 have inp:∀ j∈ps.map (·.1),j∈pl:=fun j hj=>by rw [ef] at hj;exact sf.subset hj
 have R2:=p.rep.adds p.vz
 have aq:=Wx (jk (H:=H1) p.vz.fr) p.ar Jj
 obtain⟨l1,l2,ok⟩:=aq.len
 have vm2:Vd A1 (adds F1 H1 Z) H1 [] M:=⟨fun b hb=>by
  unfold L4.adds;rw [if_neg fun z=>p.zm b z hb];exact p.vm.fr b hb,p.vm.ob,p.vm.at_⟩
 obtain⟨A2,B,f1,f2,f3,f4,f5,f6,f7⟩:=det aq np' R2 vm2 p.nm
 refine⟨l1,B,R2.fh,f2,f3,f4.fr,fun {ts' F' H' C Br} fp nf nd nw=>?_⟩
 have m1:Mv F H s A (pl++tl) F1 H1 s1 A1:=p.mv.mono zd
 have inB:∀ b∈B,H b=none\/Tch A (pl++tl) b:=fun b hb=>by
  rcases f5 b hb with z | ⟨i,z1,z2⟩
  ·exact(p.newm b z).imp id fun⟨j,y1,y2⟩=>⟨j,zd j y1,y2⟩
  ·exact m1.cells i b (zc i (inp i z1)) z2
 have noB:∀ b∈B,¬ Ow A2 b:=fun b hb=>(f4.at_ b hb).resolve_right fun⟨_,z,_⟩=>by cases z
 have R3:=f1.ext fp.sF fp.fh (fun b hb y hy=>fp.keep b y hy fun z=>noB b z hb) fun b hb=>by
  cases q:F' b with
  | none=>rfl
  | some o=>
   obtain⟨j,hj⟩:=hb
   rcases fp.frz b o q with⟨o',z⟩ | z | z
   ·rw [f1.own j b hj] at z;cases z
   ·obtain⟨y,hy⟩:=f1.cell hj
    rw [hy] at z;cases z
   ·exact absurd ⟨j,hj⟩ (noB b z)
 have notA:∀ b,H1 b=none\/b∈B->¬ Ow A2 b:=fun b z ⟨j,hj⟩=>by
  rcases z with z | z
  ·obtain⟨y,hy⟩:=f1.cell hj
   rw [hy] at z;cases z
  ·exact noB b z ⟨j,hj⟩
 have ndC:=List.nodup_append.mp nd
 have dC:Vd A2 F' H' [] C:=⟨fun b hb=>nf b (List.mem_append_left _ hb),fp.back.cell,fun b hb=>.inl (notA b (nw b (List.mem_append_left _ hb)))⟩
 obtain⟨A4,g1,g2,g3,g4⟩:=att fp.back fp.len l1 l2 ok np' R3 dC ndC.1
 have new:∀ b,H1 b=none\/b∈B->H b=none\/Tch A (pl++tl) b:=fun b z=>by
  rcases z with z | z
  ·exact .inl (m1.none z)
  ·exact inB b z
 refine⟨A4,g1,⟨(m1.sF.trans (jk p.vz.fr)).trans fp.sF,fun b o e n=>?_,fun b o e=>?_,fun b o e=>?_,fun j b hj hb=>?_,fun j hj=>?_⟩,fun b hb z=>?_,fun b hb=>new b (nw b (List.mem_append_right _ hb))⟩
 ·refine fp.keep b o (m1.keep b o e n) fun z=>?_
  rcases inB b z with y | y
  ·rw [e] at y;cases y
  ·exact n y
 ·obtain⟨o',e'⟩:=m1.dom b o e
  exact fp.dom b o' e'
 ·rcases fp.frz b o e with⟨o',z⟩ | z | z
  ·unfold L4.adds at z
   split at z
   ·rename_i hz
    have no:¬ Ow A1 b:=(p.vz.at_ b hz).resolve_right fun⟨_,z,_⟩=>by cases z
    exact .inr ((p.newz b hz no).imp id fun⟨j,y1,y2⟩=>⟨j,zd j y1,y2⟩)
   ·exact m1.frz b o' z
  ·exact .inr (new b (.inl z))
  ·exact .inr (new b (.inr z))
 ·rcases g3 j b hb with z | z
  ·exact m1.cells j b hj (f7 j b z)
  ·exact new b (nw b (List.mem_append_left _ z))
 ·have hj':j∉ps.map (·.1):=fun z=>hj (zc j (inp j z))
  obtain⟨k1,k2⟩:=m1.slot j hj
  exact⟨fun t z=>g4 j hj' t (k1 t z),by rw [g2 j hj',f6 j hj',k2]⟩
 ·obtain⟨j,hj⟩:=z
  rcases g3 j b hj with y | y
  ·exact notA b (nw b (List.mem_append_right _ hb)) ⟨j,y⟩
  ·exact ndC.2.2 b y b hb rfl
theorem za7 {tl pl:List Nat}{ms:List Md}{ta:TA}{f:Fn}{m:Sl->(List T->List (Nat×List Nat)->Sl->Prop)->XP->Prop}(hm:SM W E tl [] pl ms ta m)(np:pl.Nodup):SE W E (pl++tl) [] (xH (SpM W ms f) E ta) (fun s Q X=>m s (fun ts ps s1=>f ts (fun r ts'=>(false=true->cln r=true)/\Q r (putBack ms ps ts' s1)) fun x ts'=>(false=true->mfrs x.ts=true)/\X x (putBack ms ps ts' s1)) X):=by
 intro F H s σ A Q4 X4 Q R h q x
 refine hm F H s σ A _ X4 _ R h (fun ts ps s1 vs F1 H1 A1 Z M p sp h1=>?_) (x.sub zd)
 obtain⟨l,B,b1,b2,b3,b4,b5⟩:=back p sp np
 refine⟨l,_,ts,B,_,_,b1,b2,b3,b4,h1,fun r ts' v F' H' C Br fp tr nf nd nw h2=>?_,fun ex ts' c d F' H' C fp xr nf nd nw h2=>?_⟩
 ·obtain⟨A',c⟩:=b5 fp nf nd nw
  exact q r _ v F' H' A' Br ⟨c.rep,c.mv,tr,⟨fun b hb=>nf b (List.mem_append_right _ hb),tr.cell,fun b hb=>.inl (c.at_ b hb)⟩,(List.nodup_append.mp nd).2.1,fun b hb _=>c.new b hb⟩ h2.2
 ·obtain⟨A',c'⟩:=b5 (Br:=[]) fp (by simpa using nf) (by simpa using nd) (by simpa using nw)
  exact x ex _ c d F' H' A' ⟨c'.rep,c'.mv,xr⟩ h2.2
mutual
theorem Jo {F F':Hp}(g:∀ p vs,F p=some (.tup vs)->F' p=some (.tup vs))(gx:∀ {a C kvs},Got W.K F a C kvs->Got W.K F' a C kvs):∀ {t:T} {v:V},mfr t=true->IsV W F t v->IsV W F' t v
 | .non,_,_,h=>h
 | .bl _,_,_,h=>h
 | .int _,_,_,h=>h
 | .str _,_,_,h=>h
 | .hol _,_,m,_=>by cases m
 | .ks _ _,_,m,_=>by cases m
 | .ls _,_,m,_=>by cases m
 | .fz t,v,m,h=>Jo g gx (t:=t) (v:=v) (by simpa only [mfr] using m) h
 | .tp ts,_,m,⟨p,vs,e,h1,h2⟩=>⟨p,vs,e,g _ _ h1,ZI g gx (by simpa only [mfr] using m) h2⟩
theorem ZI {F F':Hp}(g:∀ p vs,F p=some (.tup vs)->F' p=some (.tup vs))(gx:∀ {a C kvs},Got W.K F a C kvs->Got W.K F' a C kvs):∀ {ts:List T} {vs:List V},mfrs ts=true->IsVs W F ts vs->IsVs W F' ts vs
 | [],_,_,h=>h
 | t::ts,_,m,⟨v,r,e,h1,h2⟩=>by
  simp only [mfrs,Bool.and_eq_true] at m
  exact⟨v,r,e,Jo g gx m.1 h1,ZI g gx m.2 h2⟩
end
mutual
theorem za8 {F F' H:Hp}(g:∀ p vs,F p=some (.tup vs)->F' p=some (.tup vs))(gx:∀ {a C kvs},Got W.K F a C kvs->Got W.K F' a C kvs):∀ {t:T} {v:V} {B:List Addr},cln t=true->Tr W F H t v B->Tr W F' H t v B
 | .non,_,_,_,h=>h
 | .bl _,_,_,_,h=>h
 | .int _,_,_,_,h=>h
 | .str _,_,_,_,h=>h
 | .hol _,_,_,m,_=>by cases m
 | .ks _ _,_,_,m,_=>by cases m
 | .fz t,v,_,m,⟨e,h⟩=>⟨e,Jo g gx (by simpa only [cln] using m) h⟩
 | .tp ts,_,_,m,⟨p,vs,e,h1,h2⟩=>⟨p,vs,e,g _ _ h1,Jp g gx (by simpa only [cln] using m) h2⟩
 | .ls ts,_,_,m,⟨p,vs,B,e,h1,ea,h2⟩=>⟨p,vs,B,e,h1,ea,Jp g gx (by simpa only [cln] using m) h2⟩
theorem Jp {F F' H:Hp}(g:∀ p vs,F p=some (.tup vs)->F' p=some (.tup vs))(gx:∀ {a C kvs},Got W.K F a C kvs->Got W.K F' a C kvs):∀ {ts:List T} {vs:List V} {B:List Addr},clns ts=true->TrL W F H ts vs B->TrL W F' H ts vs B
 | [],_,_,_,h=>h
 | t::ts,_,_,m,⟨v,r,A1,A2,e,ea,h1,h2⟩=>by
  simp only [clns,Bool.and_eq_true] at m
  exact⟨v,r,A1,A2,e,ea,za8 g gx m.1 h1,Jp g gx m.2 h2⟩
end
noncomputable def Mc:HO->Prop
 | .lst _=>True
 | .dK _=>True
 | .ins _ _ _=>True
 | _=>False
mutual
theorem Tr.mc {F H:Hp}:∀ {o:T} {v:V} {A:List Addr},Tr W F H o v A->∀ b∈A,∃ x,H b=some x/\Mc x
 | .non,_,_,h,b,hb=>by rw [h.1] at hb;cases hb
 | .bl _,_,_,h,b,hb=>by rw [h.1] at hb;cases hb
 | .int _,_,_,h,b,hb=>by rw [h.1] at hb;cases hb
 | .str _,_,_,h,b,hb=>by rw [h.1] at hb;cases hb
 | .hol _,_,_,h,b,hb=>by rw [h.1] at hb;cases hb
 | .fz _,_,_,h,b,hb=>by rw [h.1] at hb;cases hb
 | .ks _ _,_,_,h,b,hb=>by rw [h.1] at hb;cases hb
 | .tp os,_,_,⟨p,vs,e,h1,h2⟩,b,hb=>TrL.mc h2 b hb
 | .ls os,_,_,⟨p,vs,B,e,h1,ea,h2⟩,b,hb=>by
  rw [ea] at hb
  rcases List.mem_cons.mp hb with rfl | hb
  ·exact⟨_,h1,trivial⟩
  ·exact TrL.mc h2 b hb
theorem TrL.mc {F H:Hp}:∀ {os:List T} {vs:List V} {A:List Addr},TrL W F H os vs A->∀ b∈A,∃ x,H b=some x/\Mc x
 | [],_,_,h,b,hb=>by rw [h.2] at hb;cases hb
 | o::os,_,_,⟨v,r,A1,A2,e,ea,h1,h2⟩,b,hb=>by
  rw [ea] at hb
  rcases List.mem_append.mp hb with hb | hb
  ·exact Tr.mc h1 b hb
  ·exact TrL.mc h2 b hb
end
theorem AR.fz {F H:Hp}{s:Sl}{σ:L2.St}:∀ {ms:List Md} {ts:List T} {vs:List V} {ps:List (Nat×List Nat)} {Z M:List Addr},AR W F H s σ ms ts vs ps Z M->ms.all (· = .fz)=true->ps=[]/\M=[]/\(∀ b∈Z,∃ x,H b=some x/\Mc x)/\∀ ts' s',putBack ms ps ts' s' = s'
 | .fz::ms,t::ts,_,_,_,_,⟨v,r,raw,Z1,Z2,e,et,h1,ez,h2⟩,k=>by
  simp only [List.all_cons,Bool.and_eq_true] at k
  obtain⟨a,b,c,d⟩:=AR.fz h2 k.2
  subst ez a
  refine⟨rfl,b,fun x hx=>?_,fun ts' s'=>?_⟩
  ·rcases List.mem_append.mp hx with z | z
   ·exact h1.mc x z
   ·exact c x z
  ·cases ts' with
   | nil=>rfl
   | cons t' ts'=>simp only [putBack];exact d ts' s'
 | .mv::ms,_,_,_,_,_,_,k=>by simp at k
 | .mu::ms,_,_,_,_,_,_,k=>by simp at k
 | [],_,_,_,_,_,⟨h1,h2,h3,h4,h5⟩,_=>by subst h3 h4 h5;exact⟨rfl,rfl,(fun _ h=>by cases h),fun ts' s'=>by cases ts'<;>rfl⟩
 | .fz::_,[],_,_,_,_,h,_=>h.elim
theorem za9 {F H:Hp}{s:Sl}{σ:L2.St}:∀ {ms:List Md} {ts:List T} {vs:List V} {ps:List (Nat×List Nat)} {M:List Addr},AQ W F H s σ ms ts vs ps M->ms.all (· = .fz)=true->TrL W F H ts vs []
 | .fz::ms,t::ts,_,_,_,⟨v,r,e,h1,h2⟩,k=>by
  simp only [List.all_cons,Bool.and_eq_true] at k
  subst e
  exact TrL.cons0 h1 (za9 h2 k.2)
 | .mv::ms,_,_,_,_,_,k=>by simp at k
 | .mu::ms,_,_,_,_,_,k=>by simp at k
 | [],_,_,_,_,⟨h1,h2,_⟩,_=>by subst h1 h2;exact⟨rfl,rfl⟩
 | .fz::_,[],_,_,_,h,_=>h.elim
theorem zba {tl rl pl:List Nat}{ms:List Md}{ta:TA}{f:Fn}{m:Sl->(List T->List (Nat×List Nat)->Sl->Prop)->XP->Prop}(hm:SM W E tl rl pl ms ta m)(hf:ms.all (· = .fz)=true):SE W E tl [] (xH (SpM W ms f) E ta) (fun s Q X=>m s (fun ts ps s1=>f ts (fun r ts'=>(true=true->cln r=true)/\Q r (putBack ms ps ts' s1)) fun x ts'=>(true=true->mfrs x.ts=true)/\X x (putBack ms ps ts' s1)) X):=by
 intro F H s σ A Q4 X4 Q R h q x
 refine hm F H s σ A _ X4 _ R h (fun ts ps s1 vs F1 H1 A1 Z M p sp h1=>?_) x
 obtain⟨rfl,rfl,mz,pb⟩:=p.ar.fz hf
 have gF:Same F1 (adds F1 H1 Z):=jk p.vz.fr
 have aq:=Wx gF p.ar Jj
 obtain⟨l1,l2,ok⟩:=aq.len
 have tl0:=za9 aq hf
 have off:∀ {ts':List T} {F' H':Hp} {C:List Addr},FPo W (adds F1 H1 Z) H1 [] ms vs ts' F' H' C->∃ F'',Rep W F'' H' s1 σ A1/\Mv F H s A tl F'' H' s1 A1/\(∀ p vs,F' p=some (.tup vs)->F'' p=some (.tup vs))/\(∀ {a C kvs},Got W.K F' a C kvs->Got W.K F'' a C kvs)/\(∀ p fs,F' p=some (.xd fs)->F'' p=some (.xd fs))/\∀ b,F' b=none->F'' b=none:=fun {ts' F' H' C} fp=>by
  have kz:∀ b∈Z,∀ y,F' b=some y->Mc y:=fun b hb y hy=>by
   obtain⟨y',e1,e2⟩:=mz b hb
   have e3:=fp.keep b y' e1 (fun z=>by cases z)
   rw [fp.fh _ _ hy] at e3
   cases e3
   exact e2
  let F'':Hp:=fun b=>if b∈Z then F1 b else F' b
  have e'':∀ b,b∉Z->F'' b=F' b:=fun b hb=>if_neg hb
  have ez:∀ b,b∈Z->F'' b=none:=fun b hb=>(if_pos hb).trans (p.vz.fr b hb)
  have s1F:Same F1 F'':=fun b o e=>by
   by_cases hb:b∈Z
   ·rw [p.vz.fr b hb] at e;cases e
   ·rw [e'' b hb];exact fp.sF _ _ (gF _ _ e)
  have fh:Same F'' H':=fun b o e=>by
   by_cases hb:b∈Z
   ·rw [ez b hb] at e;cases e
   ·rw [e'' b hb] at e;exact fp.fh _ _ e
  have fz:∀ b o,F'' b=some o->(∃ o',F1 b=some o')\/H1 b=none:=fun b o e=>by
   by_cases hb:b∈Z
   ·rw [ez b hb] at e;cases e
   ·rw [e'' b hb] at e
    rcases fp.frz b o e with⟨o',z⟩ | z | z
    ·unfold L4.adds at z
     rw [if_neg hb] at z
     exact .inl ⟨o',z⟩
    ·exact .inr z
    ·cases z
  have R'':=p.rep.ext s1F fh (fun b hb y hy=>fp.keep b y hy fun z=>by cases z) fun b ⟨j,hj⟩=>by
   cases q:F'' b with
   | none=>rfl
   | some o=>
    rcases fz b o q with⟨o',z⟩ | z
    ·rw [p.rep.own j b hj] at z;cases z
    ·obtain⟨y,hy⟩:=p.rep.cell hj
     rw [hy] at z;cases z
  have up:∀ b y,F' b=some y->¬ Mc y->F'' b=some y:=fun b y e n=>by rw [e'' b fun hb=>n (kz b hb y e)];exact e
  refine⟨F'',R'',p.mv.trans' ⟨s1F,fun b o e _=>fp.keep b o e (fun z=>by cases z),fp.dom,fun b o e=>(fz b o e).imp id .inl,fun j b hj hb=>.inr ⟨j,hj,hb⟩,fun _ _=>⟨fun _ h=>h,rfl⟩⟩,fun p vs e=>up p _ e (fun z=>z),fun {a C kvs} g=>?_,fun p fs e=>up p _ e (fun z=>z),fun b e=>?_⟩
  ·obtain⟨cl,d,⟨o,h1,h2⟩,h3⟩:=g
   exact⟨cl,d,⟨o,up _ _ h1 (fun z=>z),h2⟩,up _ _ h3 (fun z=>z)⟩
  ·by_cases hb:b∈Z
   ·exact ez b hb
   ·rw [e'' b hb];exact e
 refine⟨l1,_,ts,[],_,_,VT p.rep.fh,tl0,.nil,(fun b hb=>by cases hb),h1,fun r ts' v F' H' C Br fp tr nf nd nw h2=>?_,fun ex ts' c d F' H' C fp xr nf nd nw h2=>?_⟩
 ·obtain⟨F'',R'',m'',g1,g2,g3,g4⟩:=off fp
  rw [pb] at h2
  have nH:∀ b∈Br,H1 b=none:=fun b hb=>(nw b (List.mem_append_right _ hb)).resolve_right fun z=>by cases z
  refine q r s1 v F'' H' A1 Br ⟨R'',m'',za8 g1 g2 (h2.1 rfl) tr,⟨fun b hb=>g4 b (nf b (List.mem_append_right _ hb)),tr.cell,fun b hb=>.inl fun⟨j,hj⟩=>?_⟩,(List.nodup_append.mp nd).2.1,fun b hb _=>.inl (p.mv.none (nH b hb))⟩ h2.2
  obtain⟨y,hy⟩:=p.rep.cell hj
  rw [nH b hb] at hy;cases hy
 ·obtain⟨F'',R'',m'',g1,g2,g3,g4⟩:=off fp
  rw [pb] at h2
  obtain⟨e1,dd,kvs,e2,k1,k2,k3⟩:=xr
  exact x ex s1 c d F'' H' A1 ⟨R'',m'',e1,dd,kvs,e2,g3 _ _ k1,k2,ZI g1 g2 (h2.1 rfl) k3⟩ h2.2
end L4
namespace L4
open PySem L2 PySem.Spec PyProof.Rows
variable {W:Wd} {E:XS}
noncomputable def iAny (K:PySem.W.Frag)(tl:TE):TI:=fun σ H R=>tl σ H fun x H1=>(∃ a,x=.ref a/\(∃ xs,SqL K H1 a xs)/\R (Itl K a) H1)\/(∃ z,x=.str z/\R (Its z) H1)\/∃ a,x=.ref a/\(∃ xs,SqT K H1 a xs)/\R (Itt K a) H1
theorem zbb {X:Cx}{K:PySem.W.Frag}{tg l:Expr}{tl:TE}(hK:X.K=K)(hl:PE X l tl):PI X tg l (iAny K tl):=by
 subst hK
 intro pins s σ H R I h
 refine thn (hl pins s σ H _ I h) fun v s1 ⟨x,H1,I1,r1,q1⟩=>?_
 rcases q1 with⟨a,e,⟨xs,hq⟩,q⟩ | ⟨z,rfl,q⟩ | ⟨a,e,⟨xs,hq⟩,q⟩
 ·subst e
  cases r1
  obtain⟨its,rv,p,hz⟩:=I1.list hq
  refine wpAny_pyIter_list p.isList ?_
  refine⟨s1.heap.objs.size,[s1.heap.objs.size],_,_,H1,rfl,I1.kept (t':=s1.toks) fun b o e=>Heap.get?_push_of_some _ e,Yz a _,⟨_,Heap.get?_push_size _ rfl,rfl,rfl⟩,fun b hb=>?_,q⟩
  have e:b=s1.heap.objs.size:=by simpa using hb
  subst e
  exact I1.fpOk (Nat.le_refl _) (I1.hok.fresh (Nat.le_refl _))
 ·obtain⟨t,rfl⟩:=r1
  have fin:∀ (ty:String) (o:Obj),Turn X.prog X.w X.K tg (Its z) [s1.heap.objs.size] s1.heap.objs.size (fun i h=>h.IsStrIter s1.heap.objs.size ty z t i)->(s1.heap.push o).IsStrIter s1.heap.objs.size ty z t 0 ->
    PIE X pins σ tg R (.ref s1.heap.objs.size) { s1 with heap:=s1.heap.push o }:=fun ty o T st=>by
   refine⟨s1.heap.objs.size,[s1.heap.objs.size],_,_,H1,rfl,I1.kept (t':=s1.toks) fun b o e=>Heap.get?_push_of_some _ e,T,st,fun b hb=>?_,q⟩
   have e:b=s1.heap.objs.size:=by simpa using hb
   subst e
   exact I1.fpOk (Nat.le_refl _) (I1.hok.fresh (Nat.le_refl _))
  cases ha:z.cps.all (· < 128)
  ·refine wpAny_pyIter_wide ha (fin "str_iterator" _ (kF (by decide) (fun A' hA=>Walks.strWide hA _ z t) ?_ ?_) ⟨_,Heap.get?_push_size _ rfl,rfl,rfl⟩)
   ·intro A' s i E Q hA st hx hq
    exact wpAny_pyNext_wide_end hA st hx hq
   ·intro A' s i E Q st h
    exact wpAny_pyIter_striter_wide st h
  ·refine wpAny_pyIter_ascii ha (fin "str_ascii_iterator" _ (kF (by decide) (fun A' hA=>Walks.strAscii hA _ z t) ?_ ?_) ⟨_,Heap.get?_push_size _ rfl,rfl,rfl⟩)
   ·intro A' s i E Q hA st hx hq
    exact wpAny_pyNext_ascii_end hA st hx hq
   ·intro A' s i E Q st h
    exact wpAny_pyIter_striter_ascii st h
 ·subst e
  cases r1
  obtain⟨its,rv,p,hz⟩:=I1.tuple hq
  refine wpAny_pyIter_tuple (show s1.heap.IsTuple a its.toArray from p) ?_
  refine⟨s1.heap.objs.size,[s1.heap.objs.size],_,_,H1,rfl,I1.kept (t':=s1.toks) fun b o e=>Heap.get?_push_of_some _ e,Xk a _,⟨_,Heap.get?_push_size _ rfl,rfl,rfl⟩,fun b hb=>?_,q⟩
  have e:b=s1.heap.objs.size:=by simpa using hb
  subst e
  exact I1.fpOk (Nat.le_refl _) (I1.hok.fresh (Nat.le_refl _))
def Kp (Z:List Addr)(H0 H:Hp):Prop:=∀ b∈Z,∀ o,H0 b=some o->H b=some o
structure ItOk (W:Wd)(J:It)(F H0:Hp)(Z:List Addr)(ds:List T):Prop where
 go:∀ i H,i<ds.length->Same F H->Kp Z H0 H->J.go i H
 yld:∀ i H x H',i<ds.length->Same F H->Kp Z H0 H->J.yld i H x H'->∃ d,ds[i]? = some d/\∀ F1,Same F F1->Same F1 H->∃ F2,Al F1 H F2 H' []/\Tr W F2 H' d x []
 stop:∀ H,Same F H->Kp Z H0 H->J.stop ds.length H
structure IPo (W:Wd)(F H:Hp)(A:Nat->List Addr)(s:Sl)(σ:L2.St)(tl rl:List Nat)(ds:List T)(s':Sl)(J:It)(F' H':Hp)(A':Nat->List Addr)(Z:List Addr):Prop where
 rep:Rep W F' H' s' σ A'
 mv:Mv F H s A tl F' H' s' A'
 vd:Vd A' F' H' rl Z
 it:ItOk W J F' H' Z ds
def SI (W:Wd)(E:XS)(tl rl:List Nat)(wi:TI)(m:Sl->(List T->Sl->Prop)->XP->Prop):Prop:=∀ (F H:Hp) (s:Sl) (σ:L2.St) (A:Nat->List Addr) (Q4:List T->Sl->Prop) (X4:XP) (R:It->Hp->Prop),Rep W F H s σ A->m s Q4 X4 ->
 (∀ ds s' J F' H' A' Z,IPo W F H A s σ tl rl ds s' J F' H' A' Z->Q4 ds s'->R J H')->XK4 W E F H A s σ tl X4->wi σ H R
section
variable {F H:Hp} {B:List Addr} {x:T} {v:V}
theorem zbc {xs:List T}(h:Tr W F H x v B)(e:seqV x=some xs):∃ p vs C,v=.ref p/\((∀ H',Same F H'->Kp B H H'->SqL W.K H' p vs)\/∀ H',Same F H'->Kp B H H'->SqT W.K H' p vs)/\TrL W F H xs vs C:=by
 rcases zw e with e | e
 ·unfold lsV at e
  split at e
  ·cases e
   obtain⟨p,vs,C,e,h1,rfl,h2⟩:=h
   exact⟨p,vs,C,e,.inl fun H' _ k=>SqL.of (k p List.mem_cons_self _ h1),h2⟩
  ·cases e
   obtain⟨_,p,vs,e,h1,h2⟩:=h
   exact⟨p,vs,[],e,.inl fun H' g _=>SqL.of (g _ _ h1),qX h2⟩
  ·cases e
 ·rcases zw e with e | e
  ·obtain⟨p,vs,C,e,h1,h2,_⟩:=wm h e
   exact⟨p,vs,C,e,.inr fun H' g _=>SqT.of (g _ _ h1),h2⟩
  ·cases x with
   | ks l ys=>
    cases e
    cases l
    ·obtain⟨_,p,vs,e,h1,h2⟩:=h
     exact⟨p,vs,[],e,.inr fun H' g _=>Zv g h1,qX h2⟩
    ·obtain⟨_,p,vs,e,h1,h2⟩:=h
     exact⟨p,vs,[],e,.inl fun H' g _=>xN g h1,qX h2⟩
   | _=>cases e
theorem k7 {xs:List T}(h:Tr W F H x v B)(e:lsK x=some xs):∃ p vs C,v=.ref p/\(∀ H',Same F H'->Kp B H H'->SqL W.K H' p vs)/\TrL W F H xs vs C:=by
 rcases zw e with e | e
 ·unfold lsV at e
  split at e
  ·cases e
   obtain⟨p,vs,C,e,h1,rfl,h2⟩:=h
   exact⟨p,vs,C,e,fun H' _ k=>SqL.of (k p List.mem_cons_self _ h1),h2⟩
  ·cases e
   obtain⟨_,p,vs,e,h1,h2⟩:=h
   exact⟨p,vs,[],e,fun H' g _=>SqL.of (g _ _ h1),qX h2⟩
  ·cases e
 ·unfold ksL at e
  split at e
  ·cases e
   obtain⟨_,p,vs,e,h1,h2⟩:=h
   exact⟨p,vs,[],e,fun H' g _=>xN g h1,qX h2⟩
  ·cases e
theorem TrL.get0 {ts:List T}{vs:List V}{j:Nat}(h:TrL W F H ts vs [])(hj:j<ts.length):∃ d w,ts[j]? = some d/\vs[j]? = some w/\∀ F1 H1,Same F F1->Tr W F1 H1 d w []:=by
 obtain⟨w,A1,A2,A3,h1,h2,h3,_⟩:=h.get (List.getElem?_eq_getElem hj)
 have:A2=[]:=(List.append_eq_nil_iff.mp (List.append_eq_nil_iff.mp h2.symm).2).1
 subst this
 exact⟨_,w,List.getElem?_eq_getElem hj,h1,fun F1 H1 g=>h3.frame g fun _ hb=>by cases hb⟩
theorem zcR {p:Addr}{vs:List V}{ds:List T}(h:∀ H',Same F H'->Kp B H H'->SqL W.K H' p vs)(k:TrL W F H ds vs []):ItOk W (Itl W.K p) F H B ds:=by
 refine⟨fun i H' hi g kp=>?_,fun i H' x H2 hi g kp y=>?_,fun H' g kp=>⟨vs,h H' g kp,by rw [k.len];exact Nat.le_refl _⟩⟩
 ·obtain⟨d,w,_,e2,_⟩:=k.get0 hi
  exact⟨vs,w,h H' g kp,e2⟩
 ·obtain⟨rfl,y⟩:=y
  obtain⟨d,w,e1,e2,e3⟩:=k.get0 hi
  have e:=y vs (h _ g kp)
  rw [e2] at e
  cases e
  exact⟨d,e1,fun F1 g1 k1=>⟨F1,Al.refl k1,e3 F1 _ g1⟩⟩
theorem zfH {p:Addr}{vs:List V}{ds:List T}(h:∀ H',Same F H'->Kp B H H'->SqT W.K H' p vs)(k:TrL W F H ds vs []):ItOk W (Itt W.K p) F H B ds:=by
 refine⟨fun i H' hi g kp=>?_,fun i H' x H2 hi g kp y=>?_,fun H' g kp=>⟨vs,h H' g kp,by rw [k.len];exact Nat.le_refl _⟩⟩
 ·obtain⟨d,w,_,e2,_⟩:=k.get0 hi
  exact⟨vs,w,h H' g kp,e2⟩
 ·obtain⟨rfl,y⟩:=y
  obtain⟨d,w,e1,e2,e3⟩:=k.get0 hi
  have e:=y vs (h _ g kp)
  rw [e2] at e
  cases e
  exact⟨d,e1,fun F1 g1 k1=>⟨F1,Al.refl k1,e3 F1 _ g1⟩⟩
theorem zfI {t:List Nat}:ItOk W (Its (S t)) F H B (signs t):=by
 refine⟨fun i H' hi g _=>?_,fun i H' x H2 hi g _ y=>?_,fun H' g _=>?_⟩
 ·unfold signs at hi;rw [List.length_map] at hi;exact(by simpa [Its,S] using hi)
 ·obtain⟨rfl,c,ec,rfl⟩:=y
  have ec:t[i]? = some c:=by simpa [S] using ec
  exact⟨.str [c],by unfold signs;rw [List.getElem?_map,ec];rfl,fun F1 g1 k1=>⟨F1,Al.refl k1,jE (by simp)⟩⟩
 ·unfold signs;rw [List.length_map];exact(by simp [Its,S])
theorem zbd {lo:Int}{n:Nat}:ItOk W (Itr lo n) F H B ((List.range n).map fun(k:Nat)=>.int (lo+(k:Int))):=by
 refine⟨fun i H' hi g _=>?_,fun i H' x H2 hi g _ y=>?_,fun H' g _=>?_⟩
 ·simpa [Itr] using hi
 ·obtain⟨rfl,rfl⟩:=y
  have hi':i<n:=by simpa using hi
  exact⟨.int (lo+i),by simp [hi'],fun F1 g1 k1=>⟨F1,Al.refl k1,xP⟩⟩
 ·simp [Itr]
theorem jV:∀ (ds:List T) (n:Nat),(wF n ds).length=ds.length
 | [],_=>rfl
 | _::ds,n=>by simp only [wF,List.length_cons,jV ds]
theorem ZJ:∀ (ds:List T) (n i:Nat),(wF n ds)[i]? = (ds[i]?).map fun d=>.tp [.int ((n+i:Nat):Int),d]
 | [],_,_=>rfl
 | d::ds,n,0=>rfl
 | d::ds,n,i+1=>by
  simp only [wF,List.getElem?_cons_succ]
  rw [ZJ ds (n+1) i,show n+1+i=n+(i+1) by omega]
theorem ZK {F1 H1:Hp}{p:Addr}{a b:T}{va vb:V}(g:Same F1 H1)(hp:H1 p=none)(ha:∀ F2 H2,Same F1 F2->Tr W F2 H2 a va [])(hb:∀ F2 H2,Same F1 F2->Tr W F2 H2 b vb []):Al F1 H1 (upd F1 p (.tup [va,vb])) (upd H1 p (.tup [va,vb])) []/\Tr W (upd F1 p (.tup [va,vb])) (upd H1 p (.tup [va,vb])) (.tp [a,b]) (.ref p) []:=by
 have al:=Al.froz (o:=.tup [va,vb]) g hp
 exact⟨al,p,[va,vb],rfl,zF,TrL.cons0 (ha _ _ al.sF) (TrL.cons0 (hb _ _ al.sF) ⟨rfl,rfl⟩)⟩
theorem zbe {p:Addr}{vs:List V}{ds:List T}(h:∀ H',Same F H'->Kp B H H'->SqL W.K H' p vs)(k:TrL W F H ds vs []):ItOk W (Ite (goL W.K p) (yvL W.K p) (stL0 W.K p)) F H B (wF 0 ds):=by
 refine⟨fun i H' hi g kp=>?_,fun i H' x H2 hi g kp y=>?_,fun H' g kp=>⟨vs,h H' g kp,by rw [k.len,jV]⟩⟩
 ·rw [jV] at hi
  obtain⟨d,w,_,e2,_⟩:=k.get0 hi
  exact⟨vs,w,h H' g kp,e2⟩
 ·rw [jV] at hi
  obtain⟨p',v,hp,y,rfl,rfl⟩:=y
  obtain⟨d,w,e1,e2,e3⟩:=k.get0 hi
  have e:=y vs (h _ g kp)
  rw [e2] at e
  cases e
  refine⟨_,by rw [ZJ,e1];rfl,fun F1 g1 k1=>?_⟩
  rw [Nat.zero_add]
  exact⟨_,ZK k1 hp (fun _ _ _=>xP) fun F2 H2 g2=>e3 F2 H2 (g1.trans g2)⟩
theorem zbf {t:List Nat}:ItOk W (Ite (goS (S t)) (yvS (S t)) (stS (S t))) F H B (wF 0 (signs t)):=by
 refine⟨fun i H' hi g _=>?_,fun i H' x H2 hi g _ y=>?_,fun H' g _=>?_⟩
 ·rw [jV] at hi;unfold signs at hi;rw [List.length_map] at hi;exact(by simpa [Ite,goS,S] using hi)
 ·obtain⟨p',v,hp,⟨c,ec,rfl⟩,rfl,rfl⟩:=y
  have ec:t[i]? = some c:=by simpa [S] using ec
  refine⟨_,by rw [ZJ];unfold signs;rw [List.getElem?_map,ec];rfl,fun F1 g1 k1=>?_⟩
  rw [Nat.zero_add]
  exact⟨_,ZK k1 hp (fun _ _ _=>xP) fun F2 H2 g2=>jE (by simp)⟩
 ·rw [jV];unfold signs;rw [List.length_map];exact(by simp [Ite,stS,S])
theorem zcS {p:Addr}{vs:List V}{ds:List T}(h:∀ H',Same F H'->Kp B H H'->SqL W.K H' p vs)(k:TrL W F H ds vs []):ItOk W (ItRL W.K p vs.length) F H B ds.reverse:=by
 have kr:=k.rev0
 refine⟨fun i H' hi g kp=>?_,fun i H' x H2 hi g kp y=>?_,fun H' g kp=>by show _=_;rw [List.length_reverse,k.len]⟩
 ·obtain⟨d,w,_,e2,_⟩:=kr.get0 hi
  exact⟨vs,w,h H' g kp,rfl,e2⟩
 ·obtain⟨rfl,y⟩:=y
  obtain⟨d,w,e1,e2,e3⟩:=kr.get0 hi
  have e:=y vs (h _ g kp)
  rw [e2] at e
  cases e
  exact⟨d,e1,fun F1 g1 k1=>⟨F1,Al.refl k1,e3 F1 _ g1⟩⟩
theorem zcT {p:Addr}{vs:List V}{ds:List T}(h:∀ H',Same F H'->Kp B H H'->SqT W.K H' p vs)(k:TrL W F H ds vs []):ItOk W (ItRT W.K p vs.length) F H B ds.reverse:=by
 have kr:=k.rev0
 refine⟨fun i H' hi g kp=>?_,fun i H' x H2 hi g kp y=>?_,fun H' g kp=>by show _=_;rw [List.length_reverse,k.len]⟩
 ·obtain⟨d,w,_,e2,_⟩:=kr.get0 hi
  exact⟨vs,w,h H' g kp,rfl,e2⟩
 ·obtain⟨rfl,y⟩:=y
  obtain⟨d,w,e1,e2,e3⟩:=kr.get0 hi
  have e:=y vs (h _ g kp)
  rw [e2] at e
  cases e
  exact⟨d,e1,fun F1 g1 k1=>⟨F1,Al.refl k1,e3 F1 _ g1⟩⟩
theorem zfJ {p1 p2:Addr}{v1 v2:List V}{d1 d2:List T}(h1:∀ H',Same F H'->Kp B H H'->SqL W.K H' p1 v1)(h2:∀ H',Same F H'->Kp B H H'->SqL W.K H' p2 v2)(k1:TrL W F H d1 v1 [])(k2:TrL W F H d2 v2 []):ItOk W (Itz W.K p1 p2) F H B ((d1.zip d2).map fun p=>.tp [p.1,p.2]):=by
 have lt:∀ i,i<((d1.zip d2).map fun p=>T.tp [p.1,p.2]).length->i<d1.length/\i<d2.length:=fun i hi=>by
  rw [List.length_map,List.length_zip] at hi;omega
 refine⟨fun i H' hi g kp=>?_,fun i H' x H2 hi g kp y=>?_,fun H' g kp=>⟨v1,v2,h1 H' g kp,h2 H' g kp,?_⟩⟩
 ·obtain⟨l1,l2⟩:=lt i hi
  obtain⟨_,w1,_,e2,_⟩:=k1.get0 l1
  obtain⟨_,w2,_,e3,_⟩:=k2.get0 l2
  exact⟨v1,v2,w1,w2,h1 H' g kp,h2 H' g kp,e2,e3⟩
 ·obtain⟨l1,l2⟩:=lt i hi
  obtain⟨p',a,b,hp,y1,y2,rfl,rfl⟩:=y
  obtain⟨a',w1,c1,e2,e3⟩:=k1.get0 l1
  obtain⟨b',w2,c2,e4,e5⟩:=k2.get0 l2
  have e:=y1 v1 (h1 _ g kp)
  rw [e2] at e
  cases e
  have e:=y2 v2 (h2 _ g kp)
  rw [e4] at e
  cases e
  refine⟨.tp [a',b'],by rw [List.getElem?_map,(List.getElem?_zip_eq_some (z:=(a',b'))).mpr ⟨c1,c2⟩];rfl,fun F1 g1 kk=>⟨_,ZK kk hp (fun F2 H2 g2=>e3 F2 H2 (g1.trans g2)) fun F2 H2 g2=>e5 F2 H2 (g1.trans g2)⟩⟩
 ·rw [List.length_map,List.length_zip,k1.len,k2.len];omega
end
theorem zfK {tl rl:List Nat}{te:TE}{e:Xp}(he:SE W E tl rl te (WE true e)):SI W E tl rl (iAny W.K te) (fun s Q X=>WEs true [e] s (fun ts s1=>∃ ds,itT .seq ts=some ds/\Q ds s1) X):=by
 intro F H s σ A Q4 X4 R Rp h q x
 simp only [WEs] at h
 refine he F H s σ A _ X4 _ Rp h (fun t s1 v F1 H1 A1 B p ⟨ds,e1,h1⟩=>?_) x
 have e2:orE (shO (seqV t)) ((strO t).map signs)=some ds:=e1
 rcases zw e2 with e3 | e3
 ·obtain⟨e4,sh⟩:=zJ e3
  obtain⟨p',vs,C,rfl,k1,k2⟩:=zbc p.tr e4
  rcases k1 with k1 | k1
  ·exact .inl ⟨p',rfl,⟨vs,k1 H1 p.rep.fh fun _ _ _ h=>h⟩,q ds s1 _ F1 H1 A1 B ⟨p.rep,p.mv,p.vd,zcR k1 (k2.sh sh)⟩ h1⟩
  ·exact .inr (.inr ⟨p',rfl,⟨vs,k1 H1 p.rep.fh fun _ _ _ h=>h⟩,q ds s1 _ F1 H1 A1 B ⟨p.rep,p.mv,p.vd,zfH k1 (k2.sh sh)⟩ h1⟩)
 ·rw [Option.map_eq_some_iff] at e3
  obtain⟨t',e3,rfl⟩:=e3
  exact .inr (.inl ⟨S t',(zO p.tr e3).1,q _ s1 _ F1 H1 A1 B ⟨p.rep,p.mv,p.vd,zfI⟩ h1⟩)
theorem zcU {tl rl:List Nat}{te:TE}{e:Xp}(ha:SE W E tl rl te (WE true e)):SI W E tl rl (zdD (jz te tNil)) (fun s Q X=>WEs true [e] s (fun ts s1=>∃ ds,itT .rng ts=some ds/\Q ds s1) X):=by
 intro F H s σ A Q4 X4 R Rp h q x
 simp only [WEs] at h
 refine ha F H s σ A _ X4 _ Rp h (fun t s1 v F1 H1 A1 B p ⟨ds,e1,h1⟩=>?_) x
 have e2:rngT [t]=some ds:=e1
 unfold rngT at e2
 cases t with
 | int j=>
  simp only [Option.ite_none_right_eq_some,Option.some.injEq] at e2
  obtain⟨hb,rfl⟩:=e2
  have:=zbd (W:=W) (F:=F1) (H:=H1) (B:=B) (lo:=0) (n:=j.toNat)
  simp only [Int.zero_add] at this
  exact⟨j,by rw [p.tr.2],hb.1,hb.2,q _ s1 _ F1 H1 A1 B ⟨p.rep,p.mv,p.vd,this⟩ h1⟩
 | _=>cases e2
theorem zcV {tl1 tl2 rl1 rl2:List Nat}{ta tb:TE}{e f:Xp}(ha:SE W E tl1 rl1 ta (WE true e))(hb:SE W E tl2 rl2 tb (WE true f)):SI W E (tl1++tl2) [] (zdE (jz ta (jz tb tNil))) (fun s Q X=>WEs true [e,f] s (fun ts s1=>∃ ds,itT .rng ts=some ds/\Q ds s1) X):=by
 intro F H s σ A Q4 X4 R Rp h q x
 simp only [WEs] at h
 refine ha F H s σ A _ X4 _ Rp h (fun t s1 v F1 H1 A1 B1 p1 h1=>?_) (x.sub zc)
 refine hb F1 H1 s1 σ A1 _ X4 _ p1.rep h1 (fun t' s2 v' F2 H2 A2 B2 p2 ⟨ds,e1,h2⟩=>?_) (x.mono (p1.mv.mono zc) zd)
 have e2:rngT [t,t']=some ds:=e1
 unfold rngT at e2
 cases t with
 | int i=>
  cases t' with
  | int j=>
   simp only [Option.ite_none_right_eq_some,Option.some.injEq] at e2
   obtain⟨hb,rfl⟩:=e2
   exact⟨i,j,by rw [p1.tr.2,p2.tr.2],⟨hb.1.1,hb.1.2,hb.2.1,hb.2.2⟩,q _ s2 _ F2 H2 A2 [] ⟨p2.rep,p1.mv.trans p2.mv,Vd.nil,zbd⟩ h2⟩
  | _=>cases e2
 | _=>cases e2
theorem Jq {tl rl:List Nat}{te:TE}{e:Xp}{k:IK}(hk:k=.enumL\/k=.enumS\/k=.rvdL\/k=.rvdT)(ha:SE W E tl rl te (WE true e)):SI W E tl rl (match k with
  | .enumL=>zap W.K (jz te tNil)
  | .enumS=>zan (jz te tNil)
  | .rvdL=>zd8 W.K (jz te tNil)
  | _=>zd7 W.K (jz te tNil)) (fun s Q X=>WEs true [e] s (fun ts s1=>∃ ds,itT k ts=some ds/\Q ds s1) X):=by
 intro F H s σ A Q4 X4 R Rp h q x
 simp only [WEs] at h
 rcases hk with rfl | rfl | rfl | rfl
 ·refine ha F H s σ A _ X4 _ Rp h (fun t s1 v F1 H1 A1 B p ⟨ds,e1,h1⟩=>?_) x
  have e2:(shO (lsK t)).map (wF 0)=some ds:=e1
  rw [Option.map_eq_some_iff] at e2
  obtain⟨xs,e2,rfl⟩:=e2
  obtain⟨e4,sh⟩:=zJ e2
  obtain⟨p',vs,C,rfl,k1,k2⟩:=k7 p.tr e4
  exact⟨p',vs,rfl,k1 H1 p.rep.fh fun _ _ _ h=>h,q _ s1 _ F1 H1 A1 B ⟨p.rep,p.mv,p.vd,zbe k1 (k2.sh sh)⟩ h1⟩
 ·refine ha F H s σ A _ X4 _ Rp h (fun t s1 v F1 H1 A1 B p ⟨ds,e1,h1⟩=>?_) x
  have e2:(strO t).map (fun t=>wF 0 (signs t))=some ds:=e1
  rw [Option.map_eq_some_iff] at e2
  obtain⟨t',e2,rfl⟩:=e2
  have hv:=(zO p.tr e2).1
  subst hv
  exact⟨S t',rfl,q _ s1 _ F1 H1 A1 B ⟨p.rep,p.mv,p.vd,zbf⟩ h1⟩
 ·refine ha F H s σ A _ X4 _ Rp h (fun t s1 v F1 H1 A1 B p ⟨ds,e1,h1⟩=>?_) x
  have e2:(shO (lsK t)).map List.reverse=some ds:=e1
  rw [Option.map_eq_some_iff] at e2
  obtain⟨xs,e2,rfl⟩:=e2
  obtain⟨e4,sh⟩:=zJ e2
  obtain⟨p',vs,C,rfl,k1,k2⟩:=k7 p.tr e4
  exact⟨p',vs,rfl,k1 H1 p.rep.fh fun _ _ _ h=>h,q _ s1 _ F1 H1 A1 B ⟨p.rep,p.mv,p.vd,zcS k1 (k2.sh sh)⟩ h1⟩
 ·refine ha F H s σ A _ X4 _ Rp h (fun t s1 v F1 H1 A1 B p ⟨ds,e1,h1⟩=>?_) x
  have e2:(shO (tpV t)).map List.reverse=some ds:=e1
  rw [Option.map_eq_some_iff] at e2
  obtain⟨xs,e2,rfl⟩:=e2
  obtain⟨e4,sh⟩:=zJ e2
  obtain⟨p',vs,C,rfl,k1,k2,_⟩:=wm p.tr e4
  have kk:∀ H',Same F1 H'->Kp B H1 H'->SqT W.K H' p' vs:=fun H' g _=>SqT.of (g _ _ k1)
  exact⟨p',vs,rfl,kk H1 p.rep.fh fun _ _ _ h=>h,q _ s1 _ F1 H1 A1 B ⟨p.rep,p.mv,p.vd,zcT kk (k2.sh sh)⟩ h1⟩
theorem zfL {tl rl:List Nat}{ta:TA}{e f:Xp}(ha:SA W E tl rl ta (WEs true [e,f])):SI W E tl rl (iZip W.K ta) (fun s Q X=>WEs true [e,f] s (fun ts s1=>∃ ds,itT .zip ts=some ds/\Q ds s1) X):=by
 intro F H s σ A Q4 X4 R Rp h q x
 refine ha F H s σ A _ X4 _ Rp h (fun ts s1 vs F1 H1 A1 B p ⟨ds,e1,h1⟩=>?_) x
 unfold itT at e1
 split at e1<;>first | (rename_i hk;cases hk;done) | skip
 split at e1
 ·obtain⟨v,v',A1',A2',rfl,eB,t1,t2⟩:=p.tr.two'
  obtain⟨xs,ys,e2,e3,e4⟩:=zq e1
  cases e4
  obtain⟨e2,s1'⟩:=zJ e2
  obtain⟨e3,s2'⟩:=zJ e3
  obtain⟨p1,v1,C1,rfl,k1,k2⟩:=k7 t1 e2
  obtain⟨p2,v2,C2,rfl,k3,k4⟩:=k7 t2 e3
  have u1:∀ H',Same F1 H'->Kp B H1 H'->SqL W.K H' p1 v1:=fun H' g k=>k1 H' g fun b hb=>k b (by rw [eB];exact List.mem_append_left _ hb)
  have u2:∀ H',Same F1 H'->Kp B H1 H'->SqL W.K H' p2 v2:=fun H' g k=>k3 H' g fun b hb=>k b (by rw [eB];exact List.mem_append_right _ hb)
  exact⟨p1,p2,rfl,⟨v1,u1 H1 p.rep.fh fun _ _ _ h=>h⟩,⟨v2,u2 H1 p.rep.fh fun _ _ _ h=>h⟩,q _ s1 _ F1 H1 A1 B ⟨p.rep,p.mv,p.vd,zfJ u1 u2 (k2.sh s1') (k4.sh s2')⟩ h1⟩
 ·cases e1
end L4
namespace L4
open PySem L2 PySem.Spec PyProof.Rows
variable {W:Wd} {E:XS}
noncomputable def yw (n:Nat)(A:Nat->List Addr):Nat->List Addr:=fun j=>if j<n then [] else A (j - n)
theorem jA {n j:Nat}{A:Nat->List Addr}(h:j<n):yw n A j=[]:=if_pos h
theorem q9 {n j:Nat}{A:Nat->List Addr}(h:¬ j<n):yw n A j=A (j - n):=if_neg h
theorem zcW {n:Nat}{A:Nat->List Addr}{b:Addr}(h:Ow (yw n A) b):Ow A b:=by
 obtain⟨j,h⟩:=h
 by_cases e:j<n
 ·rw [jA e] at h;cases h
 ·rw [q9 e] at h;exact⟨_,h⟩
theorem V0 {F H:Hp}:∀ {ts:List T} {us:List V} {j:Nat} {t:T},TrL W F H ts us []->ts[j]? = some t->∃ u,us[j]? = some u/\Tr W F H t u []
 | [],_,_,_,_,e=>by simp at e
 | _::ts,_,0,_,h,e=>by
  obtain⟨v,r,rfl,h1,_⟩:=h.uncons
  simp at e;subst e
  exact⟨v,rfl,h1⟩
 | _::ts,_,j+1,_,h,e=>by
  obtain⟨v,r,rfl,_,h2⟩:=h.uncons
  simpa using V0 (j:=j) h2 (by simpa using e)
def zbg (s:Sl):Prop:=∀ (j i:Nat) (q:List Nat),s[j]?≠some (.al i q)
theorem zbh {x:Slot}{t:T}:x.noAl=.own t↔x=.own t:=by cases x<;>simp [Slot.noAl]
theorem wH {s:Sl}:zbg (s.map Slot.noAl):=fun j i q e=>by
 rw [List.getElem?_map] at e
 cases h:s[j]? with
 | none=>rw [h] at e;cases e
 | some x=>rw [h] at e;cases x<;>cases e
theorem yx {s:Sl}{j:Nat}{t:T}:(s.map Slot.noAl)[j]? = some (.own t)↔s[j]? = some (.own t):=by
 rw [List.getElem?_map]
 cases s[j]? with
 | none=>simp
 | some x=>simp only [Option.map_some,Option.some.injEq];exact zbh
theorem Rep.noAl {F H:Hp}{s:Sl}{σ:L2.St}{A:Nat->List Addr}(R:Rep W F H s σ A):Rep W F H (s.map Slot.noAl) σ A:=
 ⟨R.fh,fun i t h=>R.slot i t (yx.mp h),fun j i q h=>absurd h (wH j i q),fun i h=>R.emp i fun t z=>h t (yx.mpr z),R.own,R.dis,R.nd,by rw [List.length_map];exact R.len⟩
theorem Mv.noAl {F H F' H':Hp}{s s':Sl}{A A':Nat->List Addr}{tl:List Nat}(m:Mv F H s A tl F' H' s' A'):Mv F H s A tl F' H' (s'.map Slot.noAl) A':=⟨m.sF,m.keep,m.dom,m.frz,m.cells,fun j hj=>⟨fun t z=>yx.mpr ((m.slot j hj).1 t z),(m.slot j hj).2⟩⟩
theorem Rep.push {F H:Hp}{s:Sl}{σ:L2.St}{A:Nat->List Addr}{ts:List T}{us:List V}(R:Rep W F H s σ A)(na:zbg s)(h:TrL W F H ts us []):Rep W F H (ts.map .own++s) (us.map some++σ) (yw ts.length A):=by
 have hl:=h.len
 have lt:∀ {j:Nat},j<ts.length->(ts.map Slot.own++s)[j]? = (ts[j]?).map .own:=fun {j} hj=>by rw [List.getElem?_append_left (by rw [List.length_map];exact hj),List.getElem?_map]
 have ge:∀ {j:Nat},¬ j<ts.length->(ts.map Slot.own++s)[j]? = s[j - ts.length]?:=fun {j} hj=>by rw [List.getElem?_append_right (by rw [List.length_map];omega),List.length_map]
 have ge':∀ {j:Nat},¬ j<ts.length->(us.map some++σ)[j]? = σ[j - ts.length]?:=fun {j} hj=>by rw [List.getElem?_append_right (by rw [List.length_map];omega),List.length_map,hl]
 refine⟨R.fh,fun i t e=>?_,fun j i q e=>?_,fun i e=>?_,fun i a ha=>?_,fun i j a ha hb=>?_,fun i=>?_,by rw [List.length_append,List.length_append,List.length_map,List.length_map,hl,R.len]⟩
 ·by_cases hi:i<ts.length
  ·rw [lt hi] at e
   cases e1:ts[i]? with
   | none=>rw [e1] at e;cases e
   | some t'=>
    rw [e1] at e
    cases e
    obtain⟨u,h1,h2⟩:=V0 h e1
    exact⟨u,by rw [List.getElem?_append_left (by rw [List.length_map,hl];exact hi),List.getElem?_map,h1];rfl,by rw [jA hi];exact h2⟩
  ·rw [ge hi] at e
   obtain⟨v,h1,h2⟩:=R.slot _ t e
   exact⟨v,by rw [ge' hi];exact h1,by rw [q9 hi];exact h2⟩
 ·by_cases hj:j<ts.length
  ·rw [lt hj] at e
   cases e1:ts[j]? with
   | none=>rw [e1] at e;cases e
   | some t'=>rw [e1] at e;cases e
  ·rw [ge hj] at e
   exact absurd e (na _ i q)
 ·by_cases hi:i<ts.length
  ·rw [jA hi]
  ·rw [q9 hi]
   exact R.emp _ fun t z=>e t (by rw [ge hi];exact z)
 ·by_cases hi:i<ts.length
  ·rw [jA hi] at ha;cases ha
  ·rw [q9 hi] at ha;exact R.own _ a ha
 ·by_cases hi:i<ts.length
  ·rw [jA hi] at ha;cases ha
  ·by_cases hj:j<ts.length
   ·rw [jA hj] at hb;cases hb
   ·rw [q9 hi] at ha;rw [q9 hj] at hb
    have:=R.dis _ _ a ha hb
    omega
 ·by_cases hi:i<ts.length
  ·rw [jA hi];exact .nil
  ·rw [q9 hi];exact R.nd _
noncomputable def popA (n:Nat)(A:Nat->List Addr):Nat->List Addr:=fun j=>A (j+n)
theorem V1 {α:Type}{l:List α}{n j:Nat}:(l.drop n)[j]? = l[j+n]?:=by rw [List.getElem?_drop,Nat.add_comm]
theorem Rep.pop {F H:Hp}{s:Sl}{σ:L2.St}{us:List V}{A:Nat->List Addr}{n:Nat}(hn:us.length=n)(R:Rep W F H s (us.map some++σ) A):Rep W F H ((s.drop n).map Slot.noAl) σ (popA n A):=by
 have at_:∀ {j:Nat} {t:T},((s.drop n).map Slot.noAl)[j]? = some (.own t)↔s[j+n]? = some (.own t):=fun {j t}=>by rw [yx,V1]
 refine⟨R.fh,fun i t h=>?_,fun j i q h=>absurd h (wH j i q),fun i h=>R.emp (i+n) fun t z=>h t (at_.mpr z),fun i=>R.own (i+n),fun i j a ha hb=>?_,fun i=>R.nd (i+n),?_⟩
 ·obtain⟨v,h1,h2⟩:=R.slot (i+n) t (at_.mp h)
  refine⟨v,?_,h2⟩
  rw [List.getElem?_append_right (by rw [List.length_map];omega),List.length_map,hn,Nat.add_sub_cancel] at h1
  exact h1
 ·have:=R.dis (i+n) (j+n) a ha hb
  omega
 ·rw [List.length_map,List.length_drop,R.len,List.length_append,List.length_map,hn];omega
noncomputable def outT (n:Nat)(tl:List Nat):List Nat:=tl.filterMap fun i=>if i<n then none else some (i - n)
theorem Wy {n j:Nat}{tl:List Nat}(h:j∈tl)(hn:¬ j<n):j - n∈outT n tl:=List.mem_filterMap.mpr ⟨j,h,by rw [if_neg hn]⟩
theorem zcX {n j:Nat}{tl:List Nat}(h:j∈outT n tl):j+n∈tl:=by
 obtain⟨i,h1,h2⟩:=List.mem_filterMap.mp h
 split at h2
 ·cases h2
 ·cases h2
  rw [Nat.sub_add_cancel (by omega)];exact h1
theorem yz {n:Nat}{A:Nat->List Addr}{tl:List Nat}{b:Addr}(h:Tch (yw n A) tl b):Tch A (outT n tl) b:=by
 obtain⟨j,h1,h2⟩:=h
 by_cases e:j<n
 ·rw [jA e] at h2;cases h2
 ·rw [q9 e] at h2
  exact⟨j - n,Wy h1 e,h2⟩
theorem Mv.pop {F H F' H':Hp}{s s':Sl}{A A':Nat->List Addr}{tl:List Nat}{ts:List T}(m:Mv F H (ts.map .own++s) (yw ts.length A) tl F' H' s' A'):Mv F H s A (outT ts.length tl) F' H' ((s'.drop ts.length).map Slot.noAl) (popA ts.length A'):=by
 refine⟨m.sF,fun b o e n=>m.keep b o e fun z=>n (yz z),m.dom,fun b o e=>?_,fun j b hj hb=>?_,fun j hj=>?_⟩
 ·rcases m.frz b o e with z | z | z
  ·exact .inl z
  ·exact .inr (.inl z)
  ·exact .inr (.inr (yz z))
 ·rcases m.cells (j+ts.length) b (zcX hj) hb with z | z
  ·exact .inl z
  ·exact .inr (yz z)
 ·have hj':j+ts.length∉tl:=fun z=>hj (by have:=Wy (n:=ts.length) z (by omega);rwa [Nat.add_sub_cancel] at this)
  obtain⟨k1,k2⟩:=m.slot _ hj'
  refine⟨fun t z=>?_,?_⟩
  ·rw [yx,V1]
   apply k1
   rw [List.getElem?_append_right (by rw [List.length_map];omega),List.length_map,Nat.add_sub_cancel]
   exact z
  ·show A' (j+ts.length)=A j
   rw [k2,q9 (by omega),Nat.add_sub_cancel]
def lcB (bnd:V->Hp->(List V->Prop)->Prop)(J:It)(tt:TT)(te:TE)(σ:L2.St)(H1:Hp)(Q:VK):Prop:=∀ D,H1 D=none->∃ I:Nat->Nat->List V->Hp->Prop,(∃ m,I 0 m [] (upd H1 D (.lst [])))/\∀ i m ys H',I i m ys H'->H' D=some (.lst ys) /\
 ((J.stop i H'/\Q (.ref D) H')\/(J.go i H'/\∀ v H2,J.yld i H' v H2->bnd v H2 fun us=>tt (us.map some++σ) H2 fun b H3=>
  if b=true then te (us.map some++σ) H3 fun y H4=>H4 D=some (.lst ys)/\ys.length<sizeLine/\∃ m',m' < m/\I (i+1) m' (ys++[y]) (upd H4 D (.lst (ys++[y]))) else ∃ m',m' < m/\I (i+1) m' ys H3))
def zbi (W:Wd)(n:Nat)(bnd:V->Hp->(List V->Prop)->Prop):Prop:=∀ (F H:Hp) (d:T) (x:V) (l:Sl) (Q:List V->Prop),Same F H->Tr W F H d x []->QR n d=some l->(∀ us ts,l=ts.map .own->ts.length=n->TrL W F H ts us []->Q us)->bnd x H Q
structure LcI (W:Wd)(F H F1 H1:Hp)(A A1:Nat->List Addr)(s s1:Sl)(σ:L2.St)(tl1 tl2:List Nat)(D:Addr)(acc:List T)(s':Sl)(ys:List V)(F' H':Hp)(A':Nat->List Addr)(Bc:List Addr):Prop where
 rep:Rep W F' H' s' σ A'
 na:zbg s'
 mv:Mv F1 H1 s1 A1 tl2 F' H' s' A'
 cell:H' D=some (.lst ys)
 tr:TrL W F' H' acc ys Bc
 vd:Vd A' F' H' [] (D::Bc)
 nd:(D::Bc).Nodup
 new:∀ b∈D::Bc,H b=none\/Tch A (tl1++tl2) b
theorem zee {md:Bool}{tl1 rl tl3 tl4 rl4:List Nat}{wi:TI}{tt:TT}{te:TE}{elt:Xp}{n:Nat}{k:IK}{its ifs:List Xp}{bnd:V->Hp->(List V->Prop)->Prop}(hi:SI W E tl1 rl wi (fun s Q X=>WEs true its s (fun ts s1=>∃ ds,itT k ts=some ds/\Q ds s1) X))
  (ht:ST W (fun _ _ _ _=>False) tl3 tt (WTb true ifs)) (he:SE W (fun _ _ _ _=>False) tl4 rl4 te (WE false elt)) (hr4:rl4=[]) (hb:zbi W n bnd) (dj:∀ j∈rl,j∉outT n (tl4++tl3)):SE W E (tl1++outT n (tl4++tl3)) [] (fun σ H Q=>wi σ H fun J H1=>lcB bnd J tt te σ H1 Q) (WE md (.lc elt n k its ifs)):=by
 subst hr4
 intro F H s σ A Q4 X4 Q R h q x
 simp only [WE] at h
 refine hi F H s σ A _ X4 _ R h (fun ds s1 J F1 H1 A1 Z p h1 D hD=>?_) (x.sub zc)
 let I:Nat->Nat->List V->Hp->Prop:=fun i m ys H'=>m=ds.length - i/\i<=ds.length/\∃ acc s' F' A' Bc,LcI W F H F1 H1 A A1 s s1 σ tl1 (outT n (tl4++tl3)) D acc s' ys F' H' A' Bc/\wG n (fun s K=>WTb true ifs s K fun _ _=>False) (fun s K=>WE false elt s K fun _ _=>False) (ds.drop i) acc s' Q4
 refine⟨I,⟨ds.length,by omega,Nat.zero_le _,[],s1.map Slot.noAl,F1,A1,[],?_,by simpa using h1⟩,fun i m ys H' hI=>?_⟩
 ·have a:=Al.cell (o:=.lst []) p.rep.fh hD
  exact⟨(a.rep p.rep).noAl,wH,(a.mv (tl:=outT n (tl4++tl3))).noAl,zF,⟨rfl,rfl⟩,a.vd p.rep,a.nd,fun b hb=>.inl (p.mv.none (a.nB b hb).1)⟩
 obtain⟨rfl,hle,acc,s',F',A',Bc,L,hp⟩:=hI
 refine⟨L.cell,?_⟩
 have dis1:=fun i j a=>p.rep.dis i j a
 have kz:Kp Z H1 H':=fun b hb o ho=>L.mv.keep b o ho (p.vd.not dis1 dj b hb)
 have sF:Same F1 H':=L.mv.sF.trans L.rep.fh
 by_cases hlt:i<ds.length
 ·refine .inr ⟨p.it.go i H' hlt sF kz,fun v H2 y=>?_⟩
  obtain⟨d,ed,hd⟩:=p.it.yld i H' v H2 hlt sF kz y
  obtain⟨F2,al,iv⟩:=hd F' L.mv.sF L.rep.fh
  have edr:ds.drop i=d::ds.drop (i+1):=by
   rw [List.drop_eq_getElem_cons hlt]
   rw [List.getElem?_eq_getElem hlt] at ed
   cases ed
   rfl
  rw [edr] at hp
  simp only [wG] at hp
  obtain⟨l,el,hp⟩:=hp
  refine hb F2 H2 d v l _ al.fh iv el fun us ts ets hn htr=>?_
  subst ets
  have R2:=(al.rep L.rep).push L.na htr
  have hus:us.length=n:=by rw [htr.len];exact hn
  have stay:∀ {tl s3 F3 H3 A3},(∀ j∈tl,j∈tl4++tl3)->Mv F2 H2 (ts.map .own++s') (yw ts.length A') tl F3 H3 s3 A3->Rep W F3 H3 s3 (us.map some++σ) A3->Rep W F3 H3 ((s3.drop n).map Slot.noAl) σ (popA n A3)/\Mv F1 H1 s1 A1 (outT n (tl4++tl3)) F3 H3 ((s3.drop n).map Slot.noAl) (popA n A3)/\H3 D=some (.lst ys)/\TrL W F3 H3 acc ys Bc/\Vd (popA n A3) F3 H3 [] (D::Bc)/\Vd A3 F3 H3 [] (D::Bc):=fun {tl s3 F3 H3 A3} ht m R3=>by
   have m':=m.mono ht
   have mo:=m'.pop
   rw [hn] at mo
   have d2:Vd (yw ts.length A') F2 H2 [] (D::Bc):=by
    have:=L.vd.mv (fun i j a=>L.rep.dis i j a) (tl:=[]) (fun _ h=>by cases h) (al.mv (s:=s'))
    exact⟨this.fr,this.ob,fun b hb=>(this.at_ b hb).imp (fun z y=>z (zcW y)) fun⟨_,z,_⟩=>by cases z⟩
   have disP:=fun i j a=>R2.dis i j a
   have d3:=d2.mv disP (fun _ h=>by cases h) m'
   have dc:Vd (yw ts.length A') F2 H2 [] Bc:=d2.sub fun b hb=>List.mem_cons_of_mem _ hb
   refine⟨R3.pop hus,L.mv.trans' ((al.mv (s:=s') (A:=A')).trans' mo),?_,?_,⟨d3.fr,d3.ob,fun b hb=>(d3.at_ b hb).imp (fun z ⟨j,y⟩=>z ⟨j+n,y⟩) fun⟨_,z,_⟩=>by cases z⟩,d3⟩
   ·exact m'.keep D _ (al.sH _ _ L.cell) (d2.not disP (fun _ h=>by cases h) D List.mem_cons_self)
   ·exact dc.trL disP (fun _ h=>by cases h) m' (L.tr.frame al.sF fun b _ y hy=>al.sH _ _ hy)
  have nox:∀ {F H:Hp} {A:Nat->List Addr} {s:Sl} {σ:L2.St} {tl:List Nat},XK4 W (fun _ _ _ _=>False) F H A s σ tl (fun _ _=>False):=fun x s' c d F' H' A' _ z=>z
  refine ht F2 H2 _ _ _ _ _ _ R2 hp (fun b s3 F3 H3 A3 p3 h3=>?_) nox
  obtain⟨R3,m3,c3,t3,v3,w3⟩:=stay (fun j h=>List.mem_append_right _ h) p3.mv p3.rep
  cases b with
  | false=>
   rw [if_neg (by decide)] at h3 ⊢
   exact⟨ds.length - (i+1),by omega,rfl,by omega,acc,_,F3,_,Bc,⟨R3,wH,m3,c3,t3,v3,L.nd,L.new⟩,h3⟩
  | true=>
   rw [if_pos rfl] at h3 ⊢
   refine he F3 H3 s3 _ A3 _ _ _ p3.rep h3 (fun t s4 u F4 H4 A4 B4 p4 ⟨hl,h4⟩=>?_) nox
   obtain⟨R4,m4,c4,t4,v4,w4⟩:=stay (tl:=tl3++tl4) (fun j h=>by rcases List.mem_append.mp h with z | z;exact List.mem_append_right _ z;exact List.mem_append_left _ z) (p3.mv.trans p4.mv) p4.rep
   refine⟨c4,by rw [t4.len,sizeLine_eq];exact hl,ds.length - (i+1),by omega,rfl,by omega,acc++[t],_,F4,popA n A4,Bc++B4,?_,h4⟩
   have no4:∀ b∈B4,¬ Ow A4 b:=fun b hb=>(p4.vd.at_ b hb).resolve_right fun⟨_,z,_⟩=>by cases z
   have nw4:∀ b∈B4,H3 b=none\/Tch A3 tl4 b:=fun b hb=>p4.new b hb (no4 b hb)
   have ne4:∀ b∈D::Bc,b∉B4:=fun b hb z=>by
    rcases nw4 b z with y | ⟨j,_,y⟩
    ·obtain⟨o,ho⟩:=w3.ob b hb
     rw [ho] at y;cases y
    ·exact(w3.at_ b hb).elim (fun n=>n ⟨j,y⟩) fun⟨_,n,_⟩=>by cases n
   have hDB:D∉Bc++B4:=fun z=>by
    rcases List.mem_append.mp z with z | z
    ·exact(List.nodup_cons.mp L.nd).1 z
    ·exact ne4 D List.mem_cons_self z
   have hDF:F4 D=none:=v4.fr D List.mem_cons_self
   have nD:∀ j,D∉popA n A4 j:=fun j z=>(v4.at_ D List.mem_cons_self).elim (fun n=>n ⟨j,z⟩) fun⟨_,n,_⟩=>by cases n
   have sub:∀ b∈D::(Bc++B4),b∈D::Bc\/b∈B4:=fun b hb=>by
    rcases List.mem_cons.mp hb with z | z
    ·exact .inl (by rw [z];exact List.mem_cons_self)
    ·exact(List.mem_append.mp z).imp (fun y=>List.mem_cons_of_mem _ y) id
   have vAll:Vd (popA n A4) F4 H4 [] (D::(Bc++B4)):=⟨fun b hb=>(sub b hb).elim (v4.fr b) (p4.vd.fr b),fun b hb=>(sub b hb).elim (v4.ob b) (p4.vd.ob b),fun b hb=>.inl fun⟨j,z⟩=>(sub b hb).elim (fun y=>(v4.at_ b y).elim (fun n=>n ⟨j,z⟩) fun⟨_,n,_⟩=>by cases n) fun y=>no4 b y ⟨j+n,z⟩⟩
   have fhU:Same F4 (upd H4 D (.lst (ys++[u]))):=fun b o e=>by
    rw [zA (fun z=>by subst z;rw [hDF] at e;cases e)];exact R4.fh _ _ e
   refine⟨R4.ext (fun _ _ h=>h) fhU (fun b ⟨j,hj⟩ y hy=>by rw [zA (fun z:b=D=>nD j (z ▸ hj))];exact hy) (fun b ⟨j,hj⟩=>R4.own j b hj),wH,?_,zF,?_,?_,List.nodup_cons.mpr ⟨hDB,zU (List.nodup_cons.mp L.nd).2 p4.nd fun b hb=>ne4 b (List.mem_cons_of_mem _ hb)⟩,fun b hb=>?_⟩
   ·refine⟨m4.sF,fun b o e n'=>?_,fun b o e=>?_,m4.frz,m4.cells,m4.slot⟩
    ·rw [zA (fun z:b=D=>by subst z;rw [hD] at e;cases e)];exact m4.keep b o e n'
    ·by_cases z:b=D
     ·subst z;exact⟨_,zF⟩
     ·rw [zA z];exact m4.dom b o e
   ·rw [List.mem_append,not_or] at hDB
    exact(t4.upd hDB.1).app (TrL.one (p4.tr.upd hDB.2))
   ·refine⟨vAll.fr,fun b hb=>?_,vAll.at_⟩
    by_cases z:b=D
    ·subst z;exact⟨_,zF⟩
    ·rw [zA z];exact vAll.ob b hb
   ·rcases sub b hb with z | z
    ·exact L.new b z
    ·have key:H1 b=none\/Tch A1 (outT n (tl4++tl3)) b:=by
      rcases nw4 b z with y | ⟨j,y1,y2⟩
      ·exact .inl (m3.none y)
      ·have y3:Tch A3 (tl4++tl3) b:=⟨j,zc j y1,y2⟩
       rcases(p3.mv.mono (tl':=tl4++tl3) zd).ta y3 with w | w
       ·exact .inl (L.mv.none ((al.mv (s:=s') (A:=A') (tl:=[])).none w))
       ·have w2:=yz w
        rw [hn] at w2
        exact L.mv.ta w2
     exact p.mv.newm key
 ·have hi':i=ds.length:=by omega
  subst hi'
  rw [List.drop_length] at hp
  simp only [wG] at hp
  exact .inl ⟨p.it.stop H' sF kz,q (.ls acc) s' _ F' H' A' (D::Bc) ⟨L.rep,p.mv.trans L.mv,⟨D,ys,Bc,rfl,L.cell,rfl,L.tr⟩,L.vd,L.nd,fun b hb _=>L.new b hb⟩ hp⟩
theorem zcY:zbi W 1 (fun v _ k=>k [v]):=fun F H d x l Q g t e q=>by
 cases e
 exact q [x] [d] rfl rfl (TrL.one t)
end L4
namespace L2
open PySem PySem.Spec PyProof.Rows
noncomputable def renL (xs:List Str)(y:Str):Str:=if y∈xs then Str.ofString "" else y
structure xR (X:Cx)(xs:List Str)(scope:Scope):Prop where
 nd:(xs++X.N.map (renL xs)).Nodup
 kind:scope.kind=.function
 cell:∀ y∈scope.names,y.2≠.cell
 names:∀ y∈scope.names,y.2=.local->scope.names.lookup y.1=some .local
 var:∀ x∈xs,scope.names.lookup x=some .local
 free:∀ y∈scope.names,y.2=.free->X.env.kindOf y.1=some .cell
 out:∀ y∈X.N.map (renL xs),scope.names.lookup y≠some .local
 blank:scope.names.lookup (Str.ofString "")=none
 calm:X.calm=true
noncomputable def blkG (X:Cx)(xs:List Str)(scope:Scope)(cl:List (Str×Addr))(C:Addr)(s3:Shared)(H3:Hp)(fp:List Addr):Cx:=
 { X with N:=xs++X.N.map (renL xs),s₀:=s3,H₀:=H3,env:=compEnvC scope cl C X.env,outer:=X.stack,ex:=fp,fn:=fun _=>false,pn:=[],xe:=fun _ _=>False }
section
variable {X:Cx} {elt iter tg:Expr} {xs:List Str} {pos:Pos} {ifs:List Expr} {scope:Scope} {wi:TI} {tt:TT} {te:TE} {g:TG} {bnd:V->Hp->(List V->Prop)->Prop}
theorem Wz {pins:List (Addr×Obj)}{σ:St}{H:Hp}{s:Shared}{E:Value->Shared->Prop}{Q:Value->Shared->Prop}{use:Option (Value->Sem Unit)}{QV:VK}(L:xR X xs scope)(I:Inv X pins σ H s)
  (hi:wpAny (model X.prog X.w) X.A (eval iter X.env) (fun v s1=>wpAny (model X.prog X.w) X.A (pyIter v) (PIE X pins σ (tg) (fun J H1=>∀ D,H1 D=none->∃ W:Nat->Nat->List V->Hp->Prop,(∃ m,W 0 m [] (upd H1 D (.lst [])))/\∀ i m ys H',W i m ys H'->H' D=some (.lst ys) /\
 ((J.stop i H'/\QV (.ref D) H')\/(J.go i H'/\∀ v H2,J.yld i H' v H2->bnd v H2 fun us=>tt (us.map some++σ) H2 fun b H3=>
  if b=true then te (us.map some++σ) H3 fun y H4=>H4 D=some (.lst ys)/\ys.length<sizeLine/\∃ m',m' < m/\W (i+1) m' (ys++[y]) (upd H4 D (.lst (ys++[y]))) else ∃ m',m' < m/\W (i+1) m' ys H3)))) E s1) E s)
  (ht:∀ cl C s3 H3 fp,PTs (blkG X xs scope cl C s3 H3 fp) ifs tt) (he:∀ cl C s3 H3 fp,PE (blkG X xs scope cl C s3 H3 fp) elt te)
  (hg:∀ cl C s3 H3 fp,PG (blkG X xs scope cl C s3 H3 fp) tg g) (hb:∀ v H (os:St) (K:List V->Prop),os.length=xs.length->bnd v H K->g v (os++σ) H fun σ' H'=>∃ us,us.length=xs.length/\σ' = us.map some++σ/\H' = H/\K us)
  (hs:∀ x,foldedSetIterable iter X.env x=pure x)
  (fin:∀ (D C:Addr) (H':Hp) (s':Shared) (m:Str->Option Value),Inv X pins σ H' s'->FpOk X pins H' C->s'.heap.Ns C m->QV (.ref D) H'->compPost (model X.prog X.w) X.A E use Q (.ref D) C (.ok .next) s') :
  wpAny (model X.prog X.w) X.A (comprehension (.ListComp elt [⟨tg,iter,ifs,0⟩] scope pos) scope X.env (firstIterPos [⟨tg,iter,ifs,0⟩] pos) (newList []) false (eval iter X.env) use) Q E s:=by
 obtain⟨cl,hcl,cl1,cl2⟩:=Xx (env:=X.env) (scope:=scope) (fun y hy hf=>I.ok.has y.1 (.inl (L.free y hy hf)))
 refine wpAny_comprehension_free (use:=use) rfl hs hcl L.kind L.names (wpAny_mono hi (fun xv s₁ h₁=>wpAny_mono h₁ (fun it s2 h₂=>?_) fun _ _ e=>e) fun _ _ e=>e)
 obtain⟨it,fp,tn,J,H2,rfl,I2,T,st2,f2,hW⟩:=h₂
 have fr2:H2 s2.heap.objs.size=none:=I2.hok.fresh (Nat.le_refl _)
 obtain⟨W,⟨m0,w0⟩,turn⟩:=hW _ fr2
 refine wpAny_newObj_type ?_
 have I3:Inv X pins σ (upd H2 s2.heap.objs.size (.lst [])) { s2 with heap:=s2.heap.push { cls:=.type "list",dict:=none,data:=.seq ([]:List Value).toArray } }:=
  I2.laid (t':=s2.toks) (o:=.lst []) (fun b ob q=>Heap.get?_push_of_some _ q) (Nat.le_refl _) ⟨Nat.zero_le _,[],0,.nil,Heap.get?_push_size _ rfl⟩
 generalize hD:s2.heap.objs.size=D at I3 turn w0 fr2 ⊢
 generalize hH3:upd H2 D (.lst [])=H3 at I3 w0
 generalize hs3:({ s2 with heap:=s2.heap.push { cls:=.type "list",dict:=none,data:=.seq ([]:List Value).toArray } }:Shared)=s3 at I3 ⊢
 have k23:∀ b o,s2.heap.get? b=some o->s3.heap.get? b=some o:=fun b o e=>by rw [← hs3];exact Heap.get?_push_of_some _ e
 have os3:s3.os=s2.os:=by rw [← hs3]
 have fpD:∀ b∈fp,b≠D:=fun b hb z=>by
  obtain⟨o,e,_⟩:=T.obj _ _ st2 b hb
  exact absurd (Heap.lt_size e) (by rw [z,← hD];exact Nat.lt_irrefl _)
 have f3:∀ b∈fp,FpOk X pins H3 b:=fun b hb=>⟨by rw [← hH3,zA (fpD b hb)];exact(f2 b hb).1,(f2 b hb).2⟩
 have st3:tn 0 s3.heap:=T.keep _ _ _ st2 fun b hb o e=>k23 b o e
 refine wpAny_newFunctionEnv L.cell (fun y hy=>by simp at hy) (fun h₁ hns₁ hsb₁=>?_) L.kind
 generalize hC:s3.heap.objs.size=C at hns₁ hsb₁ ⊢
 have k34:∀ b o,s3.heap.get? b=some o->h₁.get? b=some o:=fun b o e=>hsb₁.extBut b o (by rintro rfl;exact absurd (Heap.lt_size e) (by rw [hC];exact Nat.lt_irrefl _)) (Heap.get?_push_of_some _ e)
 let X':Cx:=blkG X xs scope cl C s3 H3 fp
 have relab:∀ y,X'.env.scope.names.lookup y=(scope.names.lookup y).map fun k=>if (k == NameKind.free&&X.env.scope.kind == .function&&X.env.kindOf y == some .cell) then NameKind.cell else k:=fun y=>jW y scope.names
 have visC:∀ y,(X'.env.kindOf y=some .cell\/X'.env.kindOf y=some .free)->scope.names.lookup y=some .free:=fun y hy=>by
  have e:=relab y
  have hy:X'.env.scope.names.lookup y=some .cell\/X'.env.scope.names.lookup y=some .free:=hy
  rw [e] at hy
  cases q:scope.names.lookup y with
  | none=>rw [q] at hy;simp at hy
  | some k=>
   rw [q] at hy
   simp only [Option.map_some,Option.some.injEq] at hy
   by_cases hf:k=.free
   ·rw [hf]
   ·have hb:(k == NameKind.free)=false:=by simpa using hf
    simp only [hb,Bool.false_and,Bool.false_eq_true,if_false] at hy
    rcases hy with rfl | rfl
    ·exact absurd rfl (L.cell _ (PySem.mem_of_lookup q))
    ·exact absurd rfl hf
 have okX':X'.Ok:=by
  refine⟨I3.ok.mod,?_,I3.ok.glob,I3.ok.blt,?_,?_,?_,?_,I3.ok.hd,I3.ok.frames,.inl rfl,?_,?_,?_,?_,?_,?_,?_⟩
  ·show(relabel scope X.env).kind=.function
   exact L.kind
  ·show s3.heap.objs.size<=C
   exact Nat.le_of_eq hC
  ·exact fun a b c h1 h2=>I3.ok.inj a b c (cl1 a c h1) (cl1 b c h2)
  ·exact fun y hy=>cl2 (y,.free) (PySem.mem_of_lookup (visC y hy)) rfl
  ·exact fun y c hf=>by cases hf
  ·refine fun b hb=>⟨?_,fun y c e z=>(f3 b hb).2.2.2.2.1 y c (cl1 y c e) z⟩
   show b≠C
   intro z
   obtain⟨o,e,_⟩:=T.obj _ _ st3 b hb
   exact absurd (Heap.lt_size e) (by rw [z,← hC];exact Nat.lt_irrefl _)
  ·exact fun b o e=>I3.bs b o e
  ·exact Nat.le_trans I3.ok.bsz I3.sz
  ·intro b o e hb
   rcases(f3 b hb).2.2.2.1 with z | z
   ·exact I3.ok.noex b o e z
   ·exact absurd (Nat.lt_of_lt_of_le (Heap.lt_size e) (Nat.le_trans I3.ok.bsz z)) (Nat.lt_irrefl _)
  ·intro b hb z
   rcases List.mem_cons.mp (I3.stkSub b z) with e | e
   ·exact(f3 b hb).2.1 e
   ·exact(f3 b hb).2.2.1 e
  ·exact I3.stack
  ·exact I3.stkFree
 have hfreeC:H3 C=none:=I3.hok.fresh (Nat.le_of_eq hC)
 have I4:Inv X' [] (List.replicate xs.length none++σ) H3 { s3 with heap:=h₁,toks:=s3.toks+([]:List (Str×Value)).length }:=by
  refine⟨okX',rfl,I3.bare,Un.kept k34,⟨_,hns₁,?_⟩,?_,hfreeC,?_,fun p hp=>absurd (show p∈([]:List (Addr×Obj)) from hp) (by simp),I3.hok.kept k34,?_⟩
  ·intro i y v e1 e2 e3
   rcases Nat.lt_or_ge i xs.length with hlt | hge
   ·rw [List.getElem?_append_left (by rw [List.length_replicate];exact hlt),List.getElem?_replicate,if_pos hlt] at e2
    cases e2
   ·obtain⟨j,rfl⟩:∃ j,i=xs.length+j:=⟨i - xs.length,by omega⟩
    have e1:(X.N.map (renL xs))[j]? = some y:=by
     have z:(xs++X.N.map (renL xs))[xs.length+j]? = some y:=e1
     rwa [List.getElem?_append_right (by omega),Nat.add_sub_cancel_left] at z
    have e2:σ[j]? = some (some v):=by
     rwa [List.getElem?_append_right (by rw [List.length_replicate];omega),List.length_replicate,Nat.add_sub_cancel_left] at e2
    have hyN:y∈X.N.map (renL xs):=List.mem_of_getElem? e1
    have hfr:scope.names.lookup y=some .free:=by
     rcases e3 with e3 | e3 | e3
     ·rw [relab y] at e3
      cases q:scope.names.lookup y with
      | none=>rw [q] at e3;simp at e3
      | some k=>
       rw [q] at e3
       simp only [Option.map_some,Option.some.injEq] at e3
       by_cases hf:k=.free
       ·rw [hf]
       ·have hb:(k == NameKind.free)=false:=by simpa using hf
        simp only [hb,Bool.false_and,Bool.false_eq_true,if_false] at e3
        exact absurd (by rw [q,e3]) (L.out y hyN)
     ·exact visC y (.inl e3)
     ·exact visC y (.inr e3)
    have e1:X.N[j]? = some y:=by
     rw [List.getElem?_map] at e1
     cases q0:X.N[j]? with
     | none=>rw [q0] at e1;cases e1
     | some y0=>
      rw [q0] at e1
      have e1:renL xs y0=y:=Option.some.inj e1
      unfold renL at e1
      split at e1
      ·rw [← e1,L.blank] at hfr;cases hfr
      ·rw [e1]
    have hkc:=L.free (y,.free) (PySem.mem_of_lookup hfr) rfl
    have hkc:X.env.kindOf y=some .cell:=hkc
    obtain⟨mX,_,hlX⟩:=I3.loc
    obtain⟨u,r,l⟩:=hlX j y v e1 e2 (.inr (.inl hkc))
    refine⟨u,r,?_⟩
    rcases l with⟨l,_⟩ | ⟨_,c,hc,hcell⟩
    ·rw [hkc] at l;cases l
    ·obtain⟨c',hc'⟩:=cl2 (y,.free) (PySem.mem_of_lookup hfr) rfl
     have hc':cl.lookup y=some c':=hc'
     have:=cl1 y c' hc'
     rw [hc] at this
     cases this
     refine .inr ⟨?_,c,hc',?_⟩
     ·rcases e3 with e3 | e3 | e3
      ·rw [relab y,hfr] at e3
       simp only [Option.map_some,Option.some.injEq] at e3
       split at e3<;>cases e3
      ·exact .inl e3
      ·exact .inr e3
     ·obtain⟨o,ho,hd⟩:=hcell
      exact⟨o,k34 _ _ ho,hd⟩
  ·intro y c e
   obtain⟨v,o,ho,hd⟩:=I3.cell y c (cl1 y c e)
   exact⟨v,o,k34 _ _ ho,hd⟩
  ·exact fun y c e=>I3.freeC y c (cl1 y c e)
  ·show(List.replicate xs.length none++σ).length=(xs++X.N.map (renL xs)).length
   rw [List.length_append,List.length_append,List.length_replicate,List.length_map,I3.len]
 have st4:tn 0 h₁:=T.keep _ _ _ st3 fun b hb o e=>k34 b o e
 have stat:∀ {H':Hp},(∀ b∈fp,H' b=none)->∀ b∈fp,FpOk X' [] H' b:=fun hn b hb=>by
  refine⟨hn b hb,(okX'.exf b hb).1,okX'.exfs b hb,.inl hb,(okX'.exf b hb).2,fun p hp=>absurd (show p∈([]:List (Addr×Obj)) from hp) (by simp)⟩
 have loop:∀ s4:Shared,s4={ s3 with heap:=h₁,toks:=s3.toks+([]:List (Str×Value)).length } ->
   codeAny (model X.prog X.w) X.A (.compLoop (.ListComp elt [⟨tg,iter,ifs,0⟩] scope pos) 0 (.ref it) (.ref D) X'.env) (compPost (model X.prog X.w) X.A E use Q (.ref D) C) s4:=by
  rintro s4 rfl
  refine J8 (fun n s'=>∃ i ys os H',os.length=xs.length/\Inv X' [] (os++σ) H' s'/\tn i s'.heap/\(∀ b∈fp,H' b=none)/\W i n ys H') ?_ m0 ⟨0,[],List.replicate xs.length none,H3,List.length_replicate,I4,st4,fun b hb=>(f3 b hb).1,w0⟩
  rintro n s5 ⟨i,ys,os,H5,hos,I5,st5,fr5,w5⟩
  obtain⟨hD5,turn5⟩:=turn i n ys H5 w5
  rcases turn5 with⟨stop,qn⟩ | ⟨go,step⟩
  ·refine wpAny_mono (T.done X' rfl rfl rfl L.calm i [] s5 (os++σ) H5 (fun _ _=>False) I5 (stat fr5) st5 stop) (fun r s6 h6=>?_) fun _ _ z=>z
   obtain⟨rfl,I6⟩:=h6
   have un6:Un (frs X.stack) fp H3 H5 s3.heap s6.heap:=I6.base
   have IX:Inv X pins σ H5 s6:=I3.call' I6.os un6 I6.hok I6.bare fun b hb=>⟨(f3 b hb).2.2.2.1,(f3 b hb).2.1,(f3 b hb).2.2.2.2.1,(f3 b hb).2.2.2.2.2⟩
   obtain⟨mC,hnC,_⟩:=I6.loc
   exact fin D C H5 s6 mC IX (I3.fpOk (H':=H5) (Nat.le_of_eq hC) I6.free) hnC qn
  ·refine wpAny_mono (T.item X' rfl rfl rfl L.calm i [] s5 (os++σ) H5 (fun _ _=>False) I5 (stat fr5) st5 go) (fun r s6 h6=>?_) fun _ _ z=>z.elim
   obtain⟨u,rfl,h6⟩:=h6
   refine wpAny_mono h6 (fun _ s6 h6=>?_) fun _ _ z=>z
   obtain⟨v,H6,I6,r6,y6,st6,fr6⟩:=h6
   have I6':=I6.pinned (stat fr6) (T.obj _ _ st6)
   have hv6:=step v H6 y6
   show wpAny (model X'.prog X'.w) X'.A (assign tg X'.env u) _ _ s6
   refine wpAny_mono (Q:=fun _ s7=>∃ us:List V,us.length=xs.length/\Inv X' ([]++yQ fp s6.heap) (us.map some++σ) H6 s7/\tt (us.map some++σ) H6 fun b H3=>if b=true then te (us.map some++σ) H3 fun y H4=>H4 D=some (.lst ys)/\ys.length<sizeLine/\∃ m',m' < n/\W (i+1) m' (ys++[y]) (upd H4 D (.lst (ys++[y]))) else ∃ m',m' < n/\W (i+1) m' ys H3) (E:=fun _ _=>False) (wpAny_mono (hg cl C s3 H3 fp _ s6 _ H6 v u _ I6' r6 (hb v H6 os _ hos hv6)) (fun _ s7 h7=>?_) fun _ _ z=>z) (fun _ s7 h7=>?_) fun _ _ z=>z.elim
   ·obtain⟨σ7,H7,I7,us,hl,rfl,rfl,hk⟩:=h7
    exact⟨us,hl,I7,hk⟩
   obtain⟨us,hus,I7,hv6⟩:=h7
   refine wpAny_mono ((ht cl C s3 H3 fp) _ s7 _ H6 _ I7 hv6) (fun b s8 h8=>?_) fun _ _ z=>z.elim
   obtain⟨H8,I8,q8⟩:=h8
   have done:∀ {ys':List V} {H9:Hp} {s9:Shared} {n':Nat},Inv X' ([]++yQ fp s6.heap) (us.map some++σ) H9 s9->W (i+1) n' ys' H9->∃ i ys os H',os.length=xs.length/\Inv X' [] (os++σ) H' s9/\tn i s9.heap/\(∀ b∈fp,H' b=none)/\W i n' ys H':=fun {ys' H9 s9 n'} I9 w9=>by
    refine⟨i+1,ys',us.map some,H9,by rw [List.length_map];exact hus,I9.unpinned,T.keep _ _ _ st6 fun b hb o e=>(I9.pin (b,o) (List.mem_append_right _ (List.mem_append_right _ (wN hb e)))).1,fun b hb=>?_,w9⟩
    obtain⟨o,e,d⟩:=T.obj _ _ st6 b hb
    exact(I9.pin (b,o) (List.mem_append_right _ (List.mem_append_right _ (wN hb e)))).2.1
   cases b with
   | false=>
    have q8:∃ m',m' < n/\W (i+1) m' ys H8:=q8
    obtain⟨m',hm,w8⟩:=q8
    exact⟨m',hm,done I8 w8⟩
   | true=>
    have q8:te (us.map some++σ) H8 _:=q8
    refine wpAny_mono ((he cl C s3 H3 fp) _ s8 _ H8 _ I8 q8) (fun yv s9 h9=>?_) fun _ _ z=>z.elim
    obtain⟨y,H9,I9,r9,hD9,hz9,m',hm,w9⟩:=h9
    refine wpAny_mono (QF (X:=X') _ s9 _ H9 (.ref D) [y] (.ref D) [yv] (fun v' H'=>v' = .non/\H' = upd H9 D (.lst (ys++[y]))) I9 rfl (.cons r9 .nil) ⟨D,ys,y,rfl,rfl,hD9,hz9,rfl,rfl⟩) (fun _ s10 h10=>?_) fun _ _ z=>z.elim
    obtain⟨_,H10,I10,_,_,rfl⟩:=h10
    exact⟨m',hm,done I10 w9⟩
 exact codeAny_compStart_list (loop _ rfl) (T.self _ 0 _ _ _ st4 (loop _ rfl))
theorem zbj (L:xR X xs scope)(hi:PI X tg iter wi)(ht:∀ cl C s3 H3 fp,PTs (blkG X xs scope cl C s3 H3 fp) ifs tt)(he:∀ cl C s3 H3 fp,PE (blkG X xs scope cl C s3 H3 fp) elt te)
  (hg:∀ cl C s3 H3 fp,PG (blkG X xs scope cl C s3 H3 fp) tg g) (hb:∀ v H (os σ:St) (K:List V->Prop),os.length=xs.length->bnd v H K->g v (os++σ) H fun σ' H'=>∃ us,us.length=xs.length/\σ' = us.map some++σ/\H' = H/\K us)
  (hs:∀ x,foldedSetIterable iter X.env x=pure x):PE X (.ListComp elt [⟨tg,iter,ifs,0⟩] scope pos) (fun σ H Q=>wi σ H fun J H1=>L4.lcB bnd J tt te σ H1 Q):=by
 intro pins s σ H Q I h
 rw [eval_ListComp]
 refine Wz (use:=none) (QV:=Q) L I (hi pins s σ H _ I h) ht he hg (fun v H os K=>hb v H os σ K) hs fun D C H' s' m IX fC hn q=>?_
 refine⟨m,hn,fun h' hs'=>⟨.ref D,H',IX.turned (t':=s'.toks) (fun b o hb e=>hs'.extBut b o hb e) fC.1 fC.2.1 fC.2.2.2.1 fC.2.2.2.2.1 fC.2.2.2.2.2,rfl,q⟩⟩
theorem Kc {i:Nat}{z:Str}{pz spos:Pos}(hN:X.N.Nodup)(hi':X.N[i]? = some z)(hz:Loc X.env.scope z)(L:xR X xs scope)(hi:PI X tg iter wi)(ht:∀ cl C s3 H3 fp,PTs (blkG X xs scope cl C s3 H3 fp) ifs tt)(he:∀ cl C s3 H3 fp,PE (blkG X xs scope cl C s3 H3 fp) elt te)
  (hg:∀ cl C s3 H3 fp,PG (blkG X xs scope cl C s3 H3 fp) tg g) (hb:∀ v H (os σ:St) (K:List V->Prop),os.length=xs.length->bnd v H K->g v (os++σ) H fun σ' H'=>∃ us,us.length=xs.length/\σ' = us.map some++σ/\H' = H/\K us)
  (hs:∀ x,foldedSetIterable iter X.env x=pure x) (hsw:swapsWith (.ListComp elt [⟨tg,iter,ifs,0⟩] scope pos) (some (.Name z pz)) spos.line X.env=pure true)
  (hf:X.fn z=true\/X.env.scope.names.lookup z=some .local):PS X (.Assign [.Name z pz] (.ListComp elt [⟨tg,iter,ifs,0⟩] scope pos) spos) (tAsg (fun σ H Q=>wi σ H fun J H1=>L4.lcB bnd J tt te σ H1 Q) (jh i)):=by
 intro pins s σ H D I h
 rw [exec_Assign_Name_used _ _ _ _ hsw]
 refine wpAny_bind (wpAny_standAt (wpAny_bind ?_))
 show wpAny _ X.A (do let _ ← comprehension (.ListComp elt [⟨tg,iter,ifs,0⟩] scope pos) scope X.env _ (newList []) false (eval iter X.env) (some (assign (.Name z pz) X.env))) _ _ s
 refine wpAny_bind (wpAny_mono (Wz (use:=some (assign (.Name z pz) X.env)) (Q:=fun _ s'=>SP X pins D .next s') (QV:=fun v H'=>D.nx (σ.set i (some v)) H') L I (hi pins s σ H _ I h) ht he hg (fun v H os K=>hb v H os σ K) hs fun D' C H' s' m IX fC hn q=>?_) (fun _ s' hq=>wpAny_pure (wpAny_pure hq)) fun _ _ e=>e)
 show wpAny _ X.A (assign (.Name z pz) X.env (.ref D')) _ _ s'
 refine wpAny_assign_Name (Qx IX hN hi' hz (show RelV (.ref D') (.ref D') from rfl) (fun s2 I2 hch=>?_) hf)
 obtain⟨a,sb,ha⟩:=hch
 have hCa:C≠a:=by
  rcases ha with e | e
  ·rw [e];exact fC.2.1
  ·intro z';exact fC.2.2.2.2.1 _ _ e z'.symm
 refine⟨m,hn.sameBut sb hCa,fun h' hs'=>?_⟩
 exact⟨_,H',I2.turned (t':=s2.toks) (fun b o hb e=>hs'.extBut b o hb e) fC.1 fC.2.1 fC.2.2.2.1 fC.2.2.2.2.1 fC.2.2.2.2.2,q⟩
theorem zfM {v:V}{H:Hp}{os σ:St}{K:List V->Prop}(hl:os.length=1)(h:K [v]):jh 0 v (os++σ) H fun σ' H'=>∃ us:List V,us.length=1/\σ' = us.map some++σ/\H' = H/\K us:=by
 match os,hl with
 | [o],_=>exact⟨[v],rfl,rfl,rfl,h⟩
noncomputable def gN (off:Nat):Nat->TGs
 | 0=>gNil
 | n+1=>Zh (jh off) (gN (off+1) n)
theorem zef {H:Hp}{σ:St}{Q:St->Hp->Prop}:∀ {n:Nat} {us:List V} {pre os:St},os.length=n->us.length=n->Q (pre++(us.map some++σ)) H->gN pre.length n us (pre++(os++σ)) H Q
 | 0,[],pre,[],_,_,q=>⟨rfl,by simpa using q⟩
 | n+1,u::us,pre,o::os,h1,h2,q=>by
  refine⟨u,us,rfl,?_⟩
  have e:(pre++(o::os++σ)).set pre.length (some u)=(pre++[some u])++(os++σ):=by
   have z:∀ (l:List (Option V)) (r:List (Option V)),(l++o::r).set l.length (some u)=(l++[some u])++r:=fun l r=>by
    rw [List.set_append_right _ _ (Nat.le_refl _),Nat.sub_self]
    simp
   exact z pre (os++σ)
  show gN (pre.length+1) n us ((pre++(o::os++σ)).set pre.length (some u)) H Q
  rw [e,show pre.length+1=(pre++[some u]).length by simp]
  exact zef (by simpa using h1) (by simpa using h2) (by simpa using q)
 | 0,_::_,_,_,_,h,_=>by cases h
 | 0,[],_,_::_,h,_,_=>by cases h
 | _+1,[],_,_,_,h,_=>by cases h
 | _+1,_::_,_,[],h,_,_=>by cases h
noncomputable def bndT (K:PySem.W.Frag)(n:Nat):V->Hp->(List V->Prop)->Prop:=fun v H k=>∃ pa us,v=.ref pa/\SqT K H pa us/\us.length=n/\k us
theorem zg6 {C:PySem.W.Frag}{n:Nat}{v:V}{H:Hp}{os σ:St}{K:List V->Prop}(hl:os.length=n)(h:bndT C n v H K):gTup C n (gN 0 n) v (os++σ) H fun σ' H'=>∃ us:List V,us.length=n/\σ' = us.map some++σ/\H' = H/\K us:=by
 obtain⟨pa,us,rfl,h1,h2,h3⟩:=h
 exact⟨pa,us,rfl,h1,h2,zef (pre:=[]) hl h2 ⟨us,h2,rfl,rfl,h3⟩⟩
end
end L2
namespace L4
open PySem L2 PySem.Spec PyProof.Rows
variable {W:Wd}
noncomputable def bndG (K:PySem.W.Frag)(tup:Bool)(n:Nat):V->Hp->(List V->Prop)->Prop:=if tup=true then bndT K n else fun v _ k=>k [v]
noncomputable def gOf (K:PySem.W.Frag)(tup:Bool)(n:Nat):TG:=if tup=true then gTup K n (gN 0 n) else jh 0
theorem V2 {tup:Bool}{n:Nat}(h:tup=decide (n≠1)):zbi W n (bndG W.K tup n):=by
 subst h
 by_cases hn:n=1
 ·subst hn
  exact zcY
 ·intro F H d x l Q g t e q
  have ht:decide (n≠1)=true:=decide_eq_true hn
  show(if decide (n≠1)=true then bndT W.K n else fun v _ k=>k [v]) x H Q
  rw [if_pos ht]
  unfold QR at e
  rw [if_neg hn,Option.bind_eq_some_iff] at e
  obtain⟨xs,e1,e2⟩:=e
  simp only [Option.ite_none_right_eq_some,Option.some.injEq] at e2
  obtain⟨hl,rfl⟩:=e2
  obtain⟨e1,sh⟩:=zJ e1
  obtain⟨p,vs,C,rfl,k1,k2,_⟩:=wm t e1
  have k3:=k2.sh sh
  exact⟨p,vs,rfl,SqT.of (g _ _ k1),k3.len.trans hl,q vs xs rfl hl k3⟩
theorem XO {K:PySem.W.Frag}{tup:Bool}{n:Nat}(h:tup=decide (n≠1))(v:V)(H:Hp)(os σ:L2.St)(k:List V->Prop)(hl:os.length=n)(hb:bndG K tup n v H k):gOf K tup n v (os++σ) H fun σ' H'=>∃ us:List V,us.length=n/\σ' = us.map some++σ/\H' = H/\k us:=by
 unfold gOf
 unfold bndG at hb
 cases tup with
 | true=>
  rw [if_pos rfl] at hb ⊢
  exact zg6 hl hb
 | false=>
  have hn:n=1:=by
   have:=of_decide_eq_false h.symm
   omega
  subst hn
  rw [if_neg (by decide)] at hb ⊢
  exact zfM hl hb
noncomputable def nms:List Expr->Option (List Str)
 | []=>some []
 | e::es=>match e with
  | .Name x _=>(nms es).map (x::·)
  | _=>none
noncomputable def tgN (e:Expr):Option (Bool×List Str):=match e with
 | .Name x _=>some (false,[x])
 | .Tuple es _ _=>(nms es).map fun l=>(true,l)
 | _=>none
theorem V3 {X:Cx}(hN:X.N.Nodup)(hf:∀ x,X.fn x=false):∀ {es:List Expr} {xs:List Str} {off:Nat},nms es=some xs->(∀ k x,xs[k]? = some x->X.N[off+k]? = some x)->(∀ x∈xs,X.env.scope.names.lookup x=some .local)->PGs X es (gN off xs.length)/\(assignEach es X.env).length=xs.length/\(assignEach es X.env).findIdx? (·.1)=none
 | [],xs,off,h,_,_=>by
  cases h
  exact⟨Vn,rfl,rfl⟩
 | e::es,xs,off,h,hk,hx=>by
  simp only [nms] at h
  split at h
  ·rename_i x p
   rw [Option.map_eq_some_iff] at h
   obtain⟨ys,h1,rfl⟩:=h
   obtain⟨p1,p2,p3⟩:=V3 hN hf (off:=off+1) h1 (fun k y hy=>by
    have:=hk (k+1) y (by simpa using hy)
    rwa [show off+(k+1)=off+1+k by omega] at this) fun y hy=>hx y (List.mem_cons_of_mem _ hy)
   have hv:=hx x List.mem_cons_self
   have hn:PG X (.Name x p) (jh off):=Q6 hN (hk 0 x rfl) (.inl hv) (.inr hv)
   have ac:(assignEach (.Name x p::es) X.env)=(false,assign (.Name x p) X.env)::assignEach es X.env:=rfl
   exact⟨J5 hn p1 rfl,by rw [ac,List.length_cons,List.length_cons,p2],by rw [ac,List.findIdx?_cons,p3];rfl⟩
  ·cases h
theorem zfN {X:Cx}{tg:Expr}{q:Bool×List Str}(hc:X.calm=true)(hN:X.N.Nodup)(hf:∀ x,X.fn x=false)(h:tgN tg=some q)(hk:∀ (k:Nat) x,q.2[k]? = some x->X.N[k]? = some x)(hx:∀ x∈q.2,X.env.scope.names.lookup x=some .local):PG X tg (gOf X.K q.1 q.2.length):=by
 unfold tgN at h
 split at h
 ·rename_i x p
  cases h
  have hv:=hx x List.mem_cons_self
  exact Q6 hN (hk 0 x rfl) (.inl hv) (.inr hv)
 ·rename_i es k p
  rw [Option.map_eq_some_iff] at h
  obtain⟨ys,h1,rfl⟩:=h
  obtain⟨p1,p2,p3⟩:=V3 hN hf (off:=0) h1 (fun k y hy=>by rw [Nat.zero_add];exact hk k y hy) hx
  exact KC hc p1 p2 p3
 ·cases h
end L4
namespace L4
open PySem L2 PySem.Spec PyProof.Rows
variable {W:Wd} {E:XS}
structure SPo (W:Wd)(as tl:List Nat)(F H:Hp)(A:Nat->List Addr)(s:Sl)(σ:L2.St)(s':Sl)(F' H':Hp)(σ':L2.St)(A':Nat->List Addr):Prop where
 rep:Rep W F' H' s' σ' A'
 mv:Mv F H s A tl F' H' s' A'
 kp:∀ i,i∉as->σ'[i]? = σ[i]?
 len:σ'.length=σ.length
structure TPo (W:Wd)(as tl:List Nat)(F H:Hp)(A:Nat->List Addr)(s:Sl)(σ:L2.St)(t:T)(s':Sl)(v:V)(F' H':Hp)(σ':L2.St)(A':Nat->List Addr)(B:List Addr):Prop where
 sp:SPo W as tl F H A s σ s' F' H' σ' A'
 tr:Tr W F' H' t v B
 vd:Vd A' F' H' [] B
 nd:B.Nodup
 new:∀ b∈B,H b=none\/Tch A tl b
structure KO (W:Wd)(E:XS)(as tl:List Nat)(F H:Hp)(A:Nat->List Addr)(s:Sl)(σ:L2.St)(D4:Ends)(D:L2.Ends):Prop where
 nx:∀ s' F' H' σ' A',SPo W as tl F H A s σ s' F' H' σ' A'->D4.nx s'->D.nx σ' H'
 rt:∀ t s' v F' H' σ' A' B,TPo W as tl F H A s σ t s' v F' H' σ' A' B->D4.rt t s'->D.rt v H'
 bk:∀ s' F' H' σ' A',SPo W as tl F H A s σ s' F' H' σ' A'->D4.bk s'->D.bk σ' H'
 ct:∀ s' F' H' σ' A',SPo W as tl F H A s σ s' F' H' σ' A'->D4.ct s'->D.ct σ' H'
 ex:∀ x s' c d F' H' σ' A',SPo W as tl F H A s σ s' F' H' σ' A'->IsX W F' x c d->D4.ex x s'->E c d σ' H'
def SS (W:Wd)(E:XS)(n:Nat)(as tl:List Nat)(t:TS)(m:Sl->Ends->Prop):Prop:=∀ (F H:Hp) (s:Sl) (σ:L2.St) (A:Nat->List Addr) (D4:Ends) (D:L2.Ends),Rep W F H s σ A->σ.length=n->m s D4->KO W E as tl F H A s σ D4 D->t D σ H
section
variable {as tl tl':List Nat} {F H F1 H1 F2 H2:Hp} {A A1 A2:Nat->List Addr} {s s1 s2:Sl} {σ σ1 σ2:L2.St} {D4:Ends} {D:L2.Ends}
theorem SPo.trans (a:SPo W as tl F H A s σ s1 F1 H1 σ1 A1)(b:SPo W as tl F1 H1 A1 s1 σ1 s2 F2 H2 σ2 A2):SPo W as tl F H A s σ s2 F2 H2 σ2 A2:=⟨b.rep,a.mv.trans' b.mv,fun i h=>(b.kp i h).trans (a.kp i h),b.len.trans a.len⟩
theorem SPo.refl (R:Rep W F H s σ A):SPo W as tl F H A s σ s F H σ A:=⟨R,Mv.refl,fun _ _=>rfl,rfl⟩
theorem SPo.mono (a:SPo W as tl F H A s σ s1 F1 H1 σ1 A1)(h:∀ j∈tl,j∈tl'):SPo W as tl' F H A s σ s1 F1 H1 σ1 A1:=⟨a.rep,a.mv.mono h,a.kp,a.len⟩
theorem KO.chain (k:KO W E as tl F H A s σ D4 D)(a:SPo W as tl F H A s σ s1 F1 H1 σ1 A1):KO W E as tl F1 H1 A1 s1 σ1 D4 D:=
 ⟨fun s' F' H' σ' A' p=>k.nx s' F' H' σ' A' (a.trans p),fun t s' v F' H' σ' A' B p=>k.rt t s' v F' H' σ' A' B ⟨a.trans p.sp,p.tr,p.vd,p.nd,fun b hb=>by
  rcases p.new b hb with z | z
  ·exact .inl (a.mv.none z)
  ·exact a.mv.ta z⟩,fun s' F' H' σ' A' p=>k.bk s' F' H' σ' A' (a.trans p),fun s' F' H' σ' A' p=>k.ct s' F' H' σ' A' (a.trans p),fun x s' c d F' H' σ' A' p=>k.ex x s' c d F' H' σ' A' (a.trans p)⟩
theorem KO.mono (k:KO W E as tl' F H A s σ D4 D)(h:∀ j∈tl,j∈tl'):KO W E as tl F H A s σ D4 D:=
 ⟨fun s' F' H' σ' A' p=>k.nx s' F' H' σ' A' (p.mono h),fun t s' v F' H' σ' A' B p=>k.rt t s' v F' H' σ' A' B ⟨p.sp.mono h,p.tr,p.vd,p.nd,fun b hb=>(p.new b hb).imp id fun⟨j,h1,h2⟩=>⟨j,h j h1,h2⟩⟩,fun s' F' H' σ' A' p=>k.bk s' F' H' σ' A' (p.mono h),fun s' F' H' σ' A' p=>k.ct s' F' H' σ' A' (p.mono h),fun x s' c d F' H' σ' A' p=>k.ex x s' c d F' H' σ' A' (p.mono h)⟩
theorem KO.xk (k:KO W E as tl F H A s σ D4 D):XK4 W E F H A s σ tl D4.ex:=fun x s' c d F' H' A' p h=>k.ex x s' c d F' H' σ A' ⟨p.rep,p.mv,fun _ _=>rfl,rfl⟩ p.xr h
theorem spo (R:Rep W F1 H1 s1 σ A1)(m:Mv F H s A tl F1 H1 s1 A1):SPo W as tl F H A s σ s1 F1 H1 σ A1:=⟨R,m,fun _ _=>rfl,rfl⟩
end
variable {n:Nat} {as:List Nat}
theorem zfO {tl:List Nat}:SS W E n as tl Vm (WSs []):=by
 intro F H s σ A D4 D R hn h K
 simp only [WSs] at h
 exact K.nx s F H σ A (SPo.refl R) h
theorem zcZ {tl1 tl2:List Nat}{t u:TS}{c:Cm}{cs:List Cm}(h1:SS W E n as tl1 t (WS c))(h2:SS W E n as tl2 u (WSs cs)):SS W E n as (tl1++tl2) (tSeq t u) (WSs (c::cs)):=by
 intro F H s σ A D4 D R hn h K
 simp only [WSs] at h
 have K1:=K.mono (tl:=tl1) zc
 refine h1 F H s σ A _ { D with nx:=u D } R hn h ⟨fun s' F' H' σ' A' p h'=>?_,K1.rt,K1.bk,K1.ct,K1.ex⟩
 exact h2 F' H' s' σ' A' D4 D p.rep (p.len.trans hn) h' ((K.chain (p.mono zc)).mono zd)
theorem zfP {tl:List Nat}{te:TE}{e:Xp}(he:SE W E tl [] te (WE false e)):SS W E n as tl (tRet te) (WS (.ret e)):=by
 intro F H s σ A D4 D R hn h K
 simp only [WS] at h
 exact he F H s σ A _ _ _ R h (fun t s' v F' H' A' B p h'=>K.rt t s' v F' H' σ A' B ⟨spo p.rep p.mv,p.tr,p.vd,p.nd,fun b hb=>p.new b hb ((p.vd.at_ b hb).resolve_right fun⟨_,z,_⟩=>by cases z)⟩ h') K.xk
theorem zc0 {tl:List Nat}:SS W E n as tl Vm (WS .pass):=by
 intro F H s σ A D4 D R hn h K
 simp only [WS] at h
 exact K.nx s F H σ A (SPo.refl R) h
theorem zg7 {tl rl:List Nat}{te:TE}{e:Xp}(he:SE W E tl rl te (WE true e)):SS W E n as tl (zdC te) (WS (.ex e)):=by
 intro F H s σ A D4 D R hn h K
 simp only [WS] at h
 exact he F H s σ A _ _ _ R h (fun t s' v F' H' A' B p h'=>K.nx s' F' H' σ A' (spo p.rep p.mv) h') K.xk
theorem zfQ {tl1 tl2 tl3:List Nat}{tt:TT}{ta tb:TS}{t:Xp}{a b:List Cm}(ht:ST W E tl1 tt (fun s K X=>WE true t s (fun x s1=>∃ z,blO x=some z/\K z s1) X))(ha:SS W E n as tl2 ta (WSs a))(hb:SS W E n as tl3 tb (WSs b)):SS W E n as (tl1++(tl2++tl3)) (tIfS tt ta tb) (WS (.ife t a b)):=by
 intro F H s σ A D4 D R hn h K
 simp only [WS] at h
 refine ht F H s σ A (fun z s1=>if z=true then WSs a s1 D4 else WSs b s1 D4) D4.ex _ R h (fun z s1 F1 H1 A1 p h1=>?_) (K.xk.sub zc)
 have K1:=K.chain (spo (as:=as) p.rep (p.mv.mono zc))
 cases z with
 | true=>exact ha F1 H1 s1 σ A1 D4 D p.rep hn h1 (K1.mono fun j h=>zd j (zc j h))
 | false=>exact hb F1 H1 s1 σ A1 D4 D p.rep hn h1 (K1.mono fun j h=>zd j (zd j h))
theorem Mv.set {F H F1 H1:Hp}{s s1:Sl}{A A1:Nat->List Addr}{tl:List Nat}{i:Nat}{x:Slot}{B:List Addr}(m:Mv F H s A tl F1 H1 s1 A1)(hi:i∈tl)(nw:∀ b∈B,H b=Option.none\/Tch A tl b):Mv F H s A tl F1 H1 (setS s1 i x) (setA A1 i B):=by
 refine⟨m.sF,m.keep,m.dom,m.frz,fun j b hj hb=>?_,fun j hj=>?_⟩
 ·by_cases e:j=i
  ·subst e;rw [zH] at hb;exact nw b hb
  ·rw [zC e] at hb;exact m.cells j b hj hb
 ·have e:j≠i:=fun z=>hj (z ▸ hi)
  exact⟨fun t z=>(jY e).mpr ((m.slot j hj).1 t z),by rw [zC e];exact(m.slot j hj).2⟩
theorem Jr {σ:L2.St}{as:List Nat}{i j:Nat}{x:Option V}(ha:i∈as)(hj:j∉as):(σ.set i x)[j]? = σ[j]?:=List.getElem?_set_ne fun(z:i=j)=>hj (by rw [← z];exact ha)
theorem zbk {tl:List Nat}{i:Nat}{te:TE}{e:Xp}(hi:i<n)(ha:i∈as)(he:SE W E tl [] te (WE false e)):SS W E n as (tl++[i]) (tAsg te (jh i)) (WS (.asg (.v i) e)):=by
 intro F H s σ A D4 D R hn h K
 simp only [WS,WT] at h
 refine he F H s σ A _ _ _ R h (fun t s1 v F1 H1 A1 B p h1=>?_) (K.xk.sub zc)
 have hl:i<s1.length:=by rw [p.rep.len,hn];exact hi
 have no:∀ b∈B,¬ Ow A1 b:=fun b hb=>(p.vd.at_ b hb).resolve_right fun⟨_,z,_⟩=>by cases z
 refine K.nx _ F1 H1 _ _ ⟨p.rep.set hl p.tr p.vd p.nd,(p.mv.mono zc).set (zd i (List.mem_singleton.mpr rfl)) fun b hb=>(p.new b hb (no b hb)).imp id fun⟨j,h1,h2⟩=>⟨j,zc j h1,h2⟩,fun j hj=>?_,by rw [List.length_set]⟩ h1
 exact Jr ha hj
theorem ZL {F H F1 H1:Hp}{s0:Sl}{A0:Nat->List Addr}{tl:List Nat}:∀ {is:List Nat} {ts:List T} {vs:List V} {B:List Addr} {s s':Sl} {σ:L2.St} {A:Nat->List Addr} {Q:L2.St->Hp->Prop},Rep W F1 H1 s σ A->Mv F H s0 A0 tl F1 H1 s A->TrL W F1 H1 ts vs B->Vd A F1 H1 [] B->B.Nodup->(∀ b∈B,H b=none\/Tch A0 tl b)->setN is ts s=some s'->(∀ i∈is,i<σ.length/\i∈tl) ->
  (∀ σ' A',Rep W F1 H1 s' σ' A'->Mv F H s0 A0 tl F1 H1 s' A'->(∀ j,j∉is->σ'[j]? = σ[j]?)->σ'.length=σ.length->Q σ' H1)->(is.foldr (fun i g=>Zh (jh i) g) gNil) vs σ H1 Q
 | [],[],vs,B,s,s',σ,A,Q,R,m,t,d,nd,nw,e,hi,q=>by
  cases e
  exact⟨t.1,q σ A R m (fun _ _=>rfl) rfl⟩
 | [],_::_,vs,B,s,s',σ,A,Q,R,m,t,d,nd,nw,e,hi,q=>by cases e
 | _::_,[],vs,B,s,s',σ,A,Q,R,m,t,d,nd,nw,e,hi,q=>by cases e
 | i::is,t0::ts,vs,B,s,s',σ,A,Q,R,m,⟨v,r,B1,B2,ev,eb,h1,h2⟩,d,nd,nw,e,hi,q=>by
  subst ev eb
  rw [List.nodup_append] at nd
  obtain⟨hi1,hi2⟩:=hi i List.mem_cons_self
  have hl:i<s.length:=by rw [R.len];exact hi1
  have d1:=d.sub (C:=B1) fun b hb=>List.mem_append_left _ hb
  have R1:=R.set hl h1 d1 nd.1
  have m1:=m.set (x:=.own t0) (B:=B1) hi2 fun b hb=>nw b (List.mem_append_left _ hb)
  have d2:Vd (setA A i B1) F1 H1 [] B2:=by
   refine⟨fun b hb=>d.fr b (List.mem_append_right _ hb),fun b hb=>d.ob b (List.mem_append_right _ hb),fun b hb=>.inl fun z=>?_⟩
   rcases vG z with z | ⟨j,_,z⟩
   ·exact nd.2.2 b z b hb rfl
   ·exact(d.at_ b (List.mem_append_right _ hb)).elim (fun y=>y ⟨j,z⟩) fun⟨_,y,_⟩=>by cases y
  refine⟨v,r,rfl,ZL (is:=is) R1 m1 h2 d2 nd.2.1 (fun b hb=>nw b (List.mem_append_right _ hb)) (by simpa only [setN] using e) (fun j hj=>?_) fun σ' A' R' m' k l=>q σ' A' R' m' (fun j hj=>?_) (by rw [l,List.length_set])⟩
  ·rw [List.length_set];exact hi j (List.mem_cons_of_mem _ hj)
  ·rw [List.mem_cons,not_or] at hj
   rw [k j hj.2,List.getElem?_set_ne (Ne.symm hj.1)]
theorem ZM:∀ {is:List Nat} {ts:List T} {s s':Sl},setN is ts s=some s'->ts.length=is.length
 | [],[],_,_,_=>rfl
 | _::is,_::ts,_,_,h=>by simp only [setN] at h;simp [ZM h]
 | [],_::_,_,_,h=>by cases h
 | _::_,[],_,_,h=>by cases h
theorem zc1 {tl:List Nat}{is:List Nat}{te:TE}{e:Xp}(hi:∀ i∈is,i<n/\i∈as)(he:SE W E tl [] te (WE false e)):SS W E n as (tl++is) (tAsg te (gTup W.K is.length (is.foldr (fun i g=>Zh (jh i) g) gNil))) (WS (.asg (.tup is) e)):=by
 intro F H s σ A D4 D R hn h K
 simp only [WS,WT] at h
 refine he F H s σ A _ _ _ R h (fun t s1 v F1 H1 A1 B p ⟨ds,s2,e1,e2,h1⟩=>?_) (K.xk.sub zc)
 have no:∀ b∈B,¬ Ow A1 b:=fun b hb=>(p.vd.at_ b hb).resolve_right fun⟨_,z,_⟩=>by cases z
 obtain⟨p',vs,C,rfl,k1,k2,k3⟩:=wm p.tr e1
 refine⟨p',vs,rfl,SqT.of (p.rep.fh _ _ k1),by rw [k2.len,ZM e2],?_⟩
 refine ZL (tl:=tl++is) p.rep (p.mv.mono zc) k2 (p.vd.sub fun b hb=>k3.subset hb) (k3.nodup p.nd) (fun b hb=>(p.new b (k3.subset hb) (no b (k3.subset hb))).imp id fun⟨j,h1,h2⟩=>⟨j,zc j h1,h2⟩) e2 (fun i h=>⟨by rw [hn];exact(hi i h).1,zd i h⟩) fun σ' A' R' m' k l=>K.nx s2 F1 H1 σ' A' ⟨R',m',fun j hj=>k j fun z=>hj (hi j z).2,l⟩ h1
theorem zbl {X:Cx}(hu:X.A.units+64<cLine):PSet X putR:=by
 intro pins s σ H o i v ov iv u Q I ro ri rv h
 rcases h with h | ⟨a,H',rfl,g,q⟩
 ·exact set_list pins s σ H o i v ov iv u Q I ro ri rv h
 ·cases ro
  exact YZ (by omega) I g ri rv fun s' I'=>⟨H',I',q⟩
theorem zfR {tl1 tl2 tl3 rl rl3:List Nat}{te to ti:TE}{e p k:Xp}(he:SE W E tl1 [] te (WE false e))(hp:SP W E tl2 rl to (WP p))(hk:SE W E tl3 rl3 ti (WE true k))(dj:∀ j∈rl,j∉tl3):SS W E n as (tl1++(rl++(tl2++tl3))) (tAsg te (gSub to ti putR)) (WS (.asg (.sub p k) e)):=by
 intro F H s σ A D4 D R hn h K
 simp only [WS,WT] at h
 have x:=K.xk
 refine he F H s σ A _ _ _ R h (fun o s1 v F1 H1 A1 B p1 h1=>?_) (x.sub zc)
 have m1:Mv F H s A (tl1++(rl++(tl2++tl3))) F1 H1 s1 A1:=p1.mv.mono zc
 refine hp F1 H1 s1 σ A1 _ _ _ p1.rep h1 (fun i q s2 v2 F2 H2 A2 p2 h2=>?_) (x.mono m1 fun j h=>zd j (zd j (zc j h)))
 have m2:Mv F H s A (tl1++(rl++(tl2++tl3))) F2 H2 s2 A2:=m1.trans' (p2.mv.mono fun j h=>zd j (zd j (zc j h)))
 refine hk F2 H2 s2 σ A2 _ _ _ p2.rep h2 (fun y s3 u F3 H3 A3 B3 p3 ⟨t,t',e1,e2,h3⟩=>?_) (x.mono m2 fun j h=>zd j (zd j (zd j h)))
 have p4:=p2.step p3.rep p3.mv dj
 obtain⟨r0,w,C,g1,g2,g3,g4,g5⟩:=p4.tr e1
 have dis:=fun i j a=>p1.rep.dis i j a
 have none0:∀ j∈([]:List Nat),j∉tl2++tl3:=fun _ h=>by cases h
 have vo:=p1.vd.mv dis none0 p4.mv
 have to3:=p1.vd.tr dis none0 p4.mv p1.tr
 have m3:Mv F H s A (tl1++(rl++(tl2++tl3))) F3 H3 s3 A3:=m1.trans' (p4.mv.mono fun j h=>zd j (zd j h))
 have no:∀ b∈B,¬ Ow A1 b:=fun b hb=>(p1.vd.at_ b hb).resolve_right fun⟨_,z,_⟩=>by cases z
 have nw:∀ b∈B,H b=none\/Tch A (tl1++(rl++(tl2++tl3))) b:=fun b hb=>(p1.new b hb (no b hb)).imp id fun⟨j,h1,h2⟩=>⟨j,zc j h1,h2⟩
 obtain⟨w',v',M,f1,f2,f3,f4,f5,f6,f7⟩:=p3.rep.mut g1 g2 vo
 rw [g3] at f1
 cases f1
 rw [g4] at f2
 cases f2
 refine zfx f3 p3.tr to3 f4 p1.nd f6 e2 fun H4 M' mu=>?_
 obtain⟨A4,R4,d4,a1,a2⟩:=f7 mu
 have hi:i∈tl1++(rl++(tl2++tl3)):=zd i (zc i p2.rt)
 have m4:=m3.mut (s':=putS s3 i q t') hi mu f5 nw a1 a2 fun j e t z=>(qk g1 e).mpr z
 exact K.nx _ F3 H4 σ A4 (spo R4 m4) h3
theorem zg8 {tl rl:List Nat}{j:Nat}{te:TE}{e:Xp}(hj:j<n)(ha:j∈as)(he:SP W E tl rl te (WP e)):SS W E n as (tl++[j]) (tAsg te (jh j)) (WS (.asg (.al j) e)):=by
 intro F H s σ A D4 D R hn h K
 simp only [WS] at h
 refine he F H s σ A _ _ _ R h (fun i p s1 v F1 H1 A1 p1 ⟨ne,h1⟩=>?_) (K.xk.sub zc)
 obtain⟨r,u,w,e1,e2,e3,e4⟩:=p1.at_
 have hl:j<s1.length:=by rw [p1.rep.len,hn];exact hj
 have R1:=p1.rep.setX hl (x:=.no) (v:=some v) (B:=[]) (.inl ⟨rfl,rfl⟩) (fun _ z=>by cases z) (fun _ z=>by cases z) .nil
 have hs1:(setS s1 j .no)[i]? = some (.own r):=(jY (Ne.symm ne)).mpr e1
 have R2:Rep W F1 H1 (setS s1 j (.al i p)) (σ.set j (some v)) (setA A1 j []):=by
  have sne:∀ k,k≠j->(setS s1 j (.al i p))[k]? = (setS s1 j .no)[k]?:=fun k hk=>by rw [jN hk,jN hk]
  refine⟨R1.fh,fun k t z=>?_,fun k i' q z=>?_,fun k z=>?_,R1.own,R1.dis,R1.nd,by rw [xO,List.length_set,p1.rep.len]⟩
  ·by_cases ek:k=j
   ·subst ek;rw [qY hl] at z;cases z
   ·rw [sne k ek] at z;exact R1.slot k t z
  ·by_cases ek:k=j
   ·subst ek
    rw [qY hl] at z
    cases z
    exact⟨r,u,w,v,by rw [sne i (Ne.symm ne)];exact hs1,e2,by rw [List.getElem?_set_ne ne];exact e3,by rw [List.getElem?_set_self (by rw [hn];exact hj)],e4⟩
   ·rw [sne k ek] at z
    obtain⟨t',u',w',v',y1,y2,y3,y4,y5⟩:=R1.al k i' q z
    have:i'≠j:=fun e=>by subst e;rw [qY hl] at y1;cases y1
    exact⟨t',u',w',v',by rw [sne i' this];exact y1,y2,y3,y4,y5⟩
  ·by_cases ek:k=j
   ·subst ek;rw [zH]
   ·refine R1.emp k fun t y=>z t ?_
    rw [sne k ek];exact y
 refine K.nx _ F1 H1 _ _ ⟨R2,(p1.mv.mono zc).set (zd j (List.mem_singleton.mpr rfl)) (fun b hb=>by cases hb),fun k hk=>?_,by rw [List.length_set]⟩ h1
 exact Jr ha hk
end L4
namespace L4
open PySem L2 PySem.Spec PyProof.Rows
variable {W:Wd} {E:XS} {n:Nat}
theorem KO.amono {as as' tl:List Nat}{F H:Hp}{A:Nat->List Addr}{s:Sl}{σ:L2.St}{D4:Ends}{D:L2.Ends}(k:KO W E as' tl F H A s σ D4 D)(h:∀ j∈as,j∈as'):KO W E as tl F H A s σ D4 D:=by
 have up:∀ {s' F' H' σ' A'},SPo W as tl F H A s σ s' F' H' σ' A'->SPo W as' tl F H A s σ s' F' H' σ' A':=fun p=>⟨p.rep,p.mv,fun i hi=>p.kp i fun z=>hi (h i z),p.len⟩
 exact⟨fun s' F' H' σ' A' p=>k.nx s' F' H' σ' A' (up p),fun t s' v F' H' σ' A' B p=>k.rt t s' v F' H' σ' A' B ⟨up p.sp,p.tr,p.vd,p.nd,p.new⟩,fun s' F' H' σ' A' p=>k.bk s' F' H' σ' A' (up p),fun s' F' H' σ' A' p=>k.ct s' F' H' σ' A' (up p),fun x s' c d F' H' σ' A' p=>k.ex x s' c d F' H' σ' A' (up p)⟩
theorem SS.amono {as as' tl:List Nat}{t:TS}{m:Sl->Ends->Prop}(h:SS W E n as tl t m)(k:∀ j∈as,j∈as'):SS W E n as' tl t m:=fun F H s σ A D4 D R hn e K=>h F H s σ A D4 D R hn e (K.amono k)
def SB (W:Wd)(n:Nat)(as tl:List Nat)(g:TG)(bd:T->Sl->Option Sl):Prop:=∀ (F H:Hp) (s:Sl) (σ:L2.St) (A:Nat->List Addr) (d:T) (x:V) (s':Sl) (Q:L2.St->Hp->Prop),Rep W F H s σ A->σ.length=n->Tr W F H d x []->bd d s=some s'->(∀ σ' A',SPo W as tl F H A s σ s' F H σ' A'->Q σ' H)->g x σ H Q
theorem sb_v {as:List Nat}{i:Nat}(hi:i<n)(ha:i∈as):SB W n as [i] (jh i) (ZC (.v i)):=by
 intro F H s σ A d x s' Q R hn t e q
 cases e
 have hl:i<s.length:=by rw [R.len,hn];exact hi
 exact q _ _ ⟨R.set hl t Vd.nil .nil,Mv.refl.set (List.mem_singleton.mpr rfl) (fun b hb=>by cases hb),fun j hj=>Jr ha hj,by rw [List.length_set]⟩
theorem zfS {as:List Nat}{is:List Nat}(hi:∀ i∈is,i<n/\i∈as):SB W n as is (gTup W.K is.length (is.foldr (fun i g=>Zh (jh i) g) gNil)) (ZC (.tup is)):=by
 intro F H s σ A d x s' Q R hn t e q
 have e':(unT d).bind (fun ds=>setN is ds s)=some s':=e
 rw [Option.bind_eq_some_iff] at e'
 obtain⟨ds,e1,e2⟩:=e'
 obtain⟨p',vs,C,rfl,k1,k2,k3⟩:=wm t e1
 have hC:C=[]:=List.sublist_nil.mp k3
 subst hC
 exact⟨p',vs,rfl,SqT.of (R.fh _ _ k1),by rw [k2.len,ZM e2],ZL (tl:=is) R Mv.refl k2 Vd.nil .nil (fun b hb=>by cases hb) e2 (fun i h=>⟨by rw [hn];exact(hi i h).1,h⟩) fun σ' A' R' m' k l=>q σ' A' ⟨R',m',fun j hj=>k j fun z=>hj (hi j z).2,l⟩⟩
theorem V4 {as:List Nat}{tl1 tl2 tl3 rl:List Nat}{wi:TI}{g:TG}{tb:TS}{t:Tg}{k:IK}{its:List Xp}{b:List Cm}(hi:SI W E tl1 rl wi (fun s Q X=>WEs true its s (fun ts s1=>∃ ds,itT k ts=some ds/\Q ds s1) X))(hg:SB W n as tl2 g (ZC t))(hb:SS W E n as tl3 tb (WSs b))(dj:∀ j∈rl,j∉tl2++tl3):SS W E n as (tl1++(tl2++tl3)) (tFor wi g tb) (WS (.loop t k its b)):=by
 intro F H s σ A D4 D R hn h K
 simp only [WS] at h
 refine hi F H s σ A _ _ _ R h (fun ds s1 J F1 H1 A1 Z p h1=>?_) (K.xk.sub zc)
 have K1:=(K.chain (spo (as:=as) p.rep (p.mv.mono zc))).mono (tl:=tl2++tl3) zd
 let I:Nat->Nat->L2.St->Hp->Prop:=fun i m σ' H'=>m=ds.length - i/\i<=ds.length/\∃ s' F' A',SPo W as (tl2++tl3) F1 H1 A1 s1 σ s' F' H' σ' A'/\wk (ZC t) (fun s D=>WSs b s D) D4 (ds.drop i) s'
 refine⟨I,⟨ds.length,by omega,Nat.zero_le _,s1,F1,A1,SPo.refl p.rep,by simpa using h1⟩,fun i m σ' H' hI=>?_⟩
 obtain⟨rfl,hle,s',F',A',q,hp⟩:=hI
 have kz:Kp Z H1 H':=fun c hc o ho=>q.mv.keep c o ho (p.vd.not (fun i j a=>p.rep.dis i j a) dj c hc)
 have sF:Same F1 H':=q.mv.sF.trans q.rep.fh
 by_cases hlt:i<ds.length
 ·refine .inr ⟨p.it.go i H' hlt sF kz,I (i+1) (ds.length - (i+1)),fun σ2 H2 z=>⟨_,by omega,z⟩,fun x H2 y=>?_⟩
  obtain⟨d,ed,hd⟩:=p.it.yld i H' x H2 hlt sF kz y
  obtain⟨F2,al,iv⟩:=hd F' q.mv.sF q.rep.fh
  have edr:ds.drop i=d::ds.drop (i+1):=by
   rw [List.drop_eq_getElem_cons hlt]
   rw [List.getElem?_eq_getElem hlt] at ed
   cases ed
   rfl
  rw [edr] at hp
  simp only [wk] at hp
  obtain⟨s2,es,hp⟩:=hp
  have q2:SPo W as (tl2++tl3) F1 H1 A1 s1 σ s' F2 H2 σ' A':=⟨al.rep q.rep,q.mv.trans' al.mv,q.kp,q.len⟩
  refine hg F2 H2 s' σ' A' d x s2 _ q2.rep (q2.len.trans hn) iv es fun σ3 A3 p3=>?_
  have q3:=q2.trans (p3.mono (tl':=tl2++tl3) zc)
  have K3:=(K1.chain q3).mono (tl:=tl3) zd
  refine hb F2 H2 s2 σ3 A3 _ _ q3.rep (q3.len.trans hn) hp ⟨fun s4 F4 H4 σ4 A4 p4 h4=>?_,K3.rt,fun s4 F4 H4 σ4 A4 p4 h4=>K3.nx s4 F4 H4 σ4 A4 p4 h4,fun s4 F4 H4 σ4 A4 p4 h4=>?_,K3.ex⟩
  ·exact⟨rfl,by omega,s4,F4,A4,q3.trans (p4.mono zd),h4⟩
  ·exact⟨rfl,by omega,s4,F4,A4,q3.trans (p4.mono zd),h4⟩
 ·have hi':i=ds.length:=by omega
  subst hi'
  rw [List.drop_length] at hp
  simp only [wk] at hp
  exact .inl ⟨p.it.stop H' sF kz,K1.nx s' F' H' σ' A' q hp⟩
theorem XQ {F H:Hp}{s:Sl}{σ:L2.St}{A:Nat->List Addr}{h:Option Nat}{i:Nat}{p:List Nat}{t:T}{xs:List T}(R:Rep W F H s σ A)(ha:VU h i p s)(g:getP s i p=some t)(e:seqK t=some xs):∃ r w v a vs,s[i]? = some (.own r)/\getT r p=some t/\σ[i]? = some (some w)/\vAt H w p=some v/\σ[h.getD i]? = some (some v)/\v=.ref a/\H a=some (if isLs t=true then .lst vs else .tup vs)/\vs.length=xs.length/\∀ k x,xs[k]? = some x->∃ u C,vs[k]? = some u/\Tr W F H x u C/\C.Sublist (A i)/\((kids t).isSome=true->getT r (p++[k])=some x/\vAt H w (p++[k])=some u):=by
 obtain⟨r,e1,e2⟩:=ZH g
 obtain⟨w,k1,k2⟩:=R.slot i r e1
 obtain⟨v,A1,A2,A3,f1,f2,f3,_⟩:=k2.focus R.fh p e2
 have sub2:A2.Sublist (A i):=by rw [f2];exact(List.sublist_append_left _ _).trans (List.sublist_append_right _ _)
 have hv:σ[h.getD i]? = some (some v):=by
  cases h with
  | none=>
   have hp:p=[]:=ha
   subst hp
   cases f1
   exact k1
  | some k=>
   obtain⟨t',u,w',v',y1,y2,y3,y4,y5⟩:=R.al k i p ha
   rw [k1] at y3
   cases y3
   rw [f1] at y5
   cases y5
   exact y4
 have main:∀ (a:Addr) (vs:List V) (B:List Addr) (o:HO),v=.ref a->H a=some o->hk o=some vs->TrL W F H xs vs B->B.Sublist A2->((kids t).isSome=true->kids t=some xs)->vs.length=xs.length/\∀ k x,xs[k]? = some x->∃ u C,vs[k]? = some u/\Tr W F H x u C/\C.Sublist (A i)/\((kids t).isSome=true->getT r (p++[k])=some x/\vAt H w (p++[k])=some u):=fun a vs B o ev ho hh tl sb kd=>by
  refine⟨tl.len,fun k x hx=>?_⟩
  obtain⟨u,B1,B2,B3,g1,g2,g3,_⟩:=tl.get hx
  refine⟨u,B2,g1,g3,?_,fun z=>⟨QS e2 (kd z) hx,Jn p f1 ?_⟩⟩
  ·refine List.Sublist.trans ?_ (sb.trans sub2)
   rw [g2];exact(List.sublist_append_left _ _).trans (List.sublist_append_right _ _)
  ·subst ev
   simp only [kAt,ho,hh,Option.bind_some,g1]
 match t,e,e2,f3,main with
 | .tp ys,e,e2,f3,main=>
  cases e
  obtain⟨a,vs,ev,h1,h2⟩:=f3
  obtain⟨m1,m2⟩:=main _ _ _ _ ev (R.fh _ _ h1) rfl h2 (List.Sublist.refl _) fun _=>rfl
  exact⟨r,w,v,a,vs,e1,e2,k1,f1,hv,ev,R.fh _ _ h1,m1,m2⟩
 | .ls ys,e,e2,f3,main=>
  cases e
  obtain⟨a,vs,B,ev,h1,eb,h2⟩:=f3
  obtain⟨m1,m2⟩:=main _ _ _ _ ev h1 rfl h2 (by rw [eb];exact List.sublist_cons_self _ _) fun _=>rfl
  exact⟨r,w,v,a,vs,e1,e2,k1,f1,hv,ev,h1,m1,m2⟩
 | .fz (.tp ys),e,e2,f3,main=>
  cases e
  obtain⟨rfl,a,vs,ev,h1,h2⟩:=f3
  have tl:TrL W F H (ys.map fzi) vs []:=qX h2
  obtain⟨m1,m2⟩:=main _ _ _ _ ev (R.fh _ _ h1) rfl tl (List.Sublist.refl _) fun z=>by cases z
  exact⟨r,w,v,a,vs,e1,e2,k1,f1,hv,ev,R.fh _ _ h1,m1,m2⟩
theorem Rep.ali {F H:Hp}{s:Sl}{σ:L2.St}{A:Nat->List Addr}(R:Rep W F H s σ A){j i:Nat}{p:List Nat}{r u:T}{w v:V}(hl:j<s.length)(ne:j≠i)(e1:s[i]? = some (.own r))(e2:getT r p=some u)(e3:σ[i]? = some (some w))(e4:vAt H w p=some v):Rep W F H (setS s j (.al i p)) (σ.set j (some v)) (setA A j []):=by
 have R1:=R.setX hl (x:=.no) (v:=some v) (B:=[]) (.inl ⟨rfl,rfl⟩) (fun _ z=>by cases z) (fun _ z=>by cases z) .nil
 have hs1:(setS s j .no)[i]? = some (.own r):=(jY (Ne.symm ne)).mpr e1
 have sne:∀ k,k≠j->(setS s j (.al i p))[k]? = (setS s j .no)[k]?:=fun k hk=>by rw [jN hk,jN hk]
 refine⟨R1.fh,fun k t z=>?_,fun k i' q z=>?_,fun k z=>?_,R1.own,R1.dis,R1.nd,by rw [xO,List.length_set,R.len]⟩
 ·by_cases ek:k=j
  ·subst ek;rw [qY hl] at z;cases z
  ·rw [sne k ek] at z;exact R1.slot k t z
 ·by_cases ek:k=j
  ·subst ek
   rw [qY hl] at z
   cases z
   exact⟨r,u,w,v,by rw [sne i (Ne.symm ne)];exact hs1,e2,by rw [List.getElem?_set_ne ne];exact e3,by rw [List.getElem?_set_self (by rw [← R.len];exact hl)],e4⟩
  ·rw [sne k ek] at z
   obtain⟨t',u',w',v',y1,y2,y3,y4,y5⟩:=R1.al k i' q z
   have:i'≠j:=fun e=>by subst e;rw [qY hl] at y1;cases y1
   exact⟨t',u',w',v',by rw [sne i' this];exact y1,y2,y3,y4,y5⟩
 ·by_cases ek:k=j
  ·subst ek;rw [zH]
  ·refine R1.emp k fun t y=>z t ?_
   rw [sne k ek];exact y
theorem zbm {as asb tl:List Nat}{tb:TS}{j i:Nat}{h:Option Nat}{b:List Cm}(hj:j<n)(hja:j∈as)(hab:∀ k∈asb,k∈as)(hji:j≠i)(hjh:j≠h.getD i)(hib:h.getD i∉asb)(hb:SS W E n asb tl tb (WSs b)):SS W E n as ([j]++tl) (tFor (iAny W.K (tVar (h.getD i))) (jh j) tb) (WS (.loopA j h i b)):=by
 intro F H s σ A D4 D R hn hw K
 simp only [WS] at hw
 obtain⟨p,t,xs,h1,h2,h3,h4⟩:=hw
 obtain⟨r,w,v,a,vs,e1,e2,e3,e4,e5,rfl,e6,e7,e8⟩:=XQ R h1 h2 h3
 refine⟨.ref a,e5,?_⟩
 let J:It:=if isLs t=true then Itl W.K a else Itt W.K a
 let I:Nat->Nat->L2.St->Hp->Prop:=fun k m σ' H'=>m=xs.length - k/\k<=xs.length/\∃ s' F' A',SPo W as ([j]++tl) F H A s σ s' F' H' σ' A'/\σ'[h.getD i]? = some (some (.ref a))/\jD j h i p (isLs t) (fun s D=>WSs b s D) D4 xs.length (xs.length - k) s'
 have body:∃ I:Nat->Nat->L2.St->Hp->Prop,(∃ m,I 0 m σ H)/\∀ i m σ H,I i m σ H->(J.stop i H/\D.nx σ H)\/(J.go i H/\∃ N:L2.St->Hp->Prop,(∀ σ' H',N σ' H'->∃ m',m' < m/\I (i+1) m' σ' H')/\∀ x H',J.yld i H x H'->jh j x σ H' fun σ2 H2=>tb { D with nx:=N,ct:=N,bk:=D.nx } σ2 H2):=by
  refine⟨I,⟨xs.length,by omega,Nat.zero_le _,s,F,A,SPo.refl R,e5,by simpa using h4⟩,fun k m σ' H' hI=>?_⟩
  obtain⟨rfl,hle,s',F',A',q,hv,hp⟩:=hI
  cases em:xs.length - k with
  | zero=>
   rw [em] at hp
   simp only [jD] at hp
   obtain⟨⟨g1,t',ys,g2,g3,g4,g5⟩,hp⟩:=hp
   obtain⟨r',w',v',a',vs',y1,y2,y3,y4,y5,rfl,y6,y7,y8⟩:=XQ q.rep g1 g2 g4
   rw [hv] at y5
   cases y5
   rw [g3] at y6
   refine .inl ⟨?_,K.nx s' F' H' σ' A' q hp⟩
   show J.stop k H'
   show(if isLs t=true then Itl W.K a else Itt W.K a).stop k H'
   cases hil:isLs t with
   | true=>
    rw [if_pos rfl]
    rw [hil,if_pos rfl] at y6
    exact⟨vs',SqL.of y6,by omega⟩
   | false=>
    rw [if_neg (by decide)]
    rw [hil,if_neg (by decide)] at y6
    exact⟨vs',SqT.of y6,by omega⟩
  | succ m'=>
   rw [em] at hp
   simp only [jD] at hp
   obtain⟨g1,t',ys,x,g2,g3,g4,g5,g6,hp⟩:=hp
   obtain⟨r',w',v',a',vs',y1,y2,y3,y4,y5,rfl,y6,y7,y8⟩:=XQ q.rep g1 g2 g4
   rw [hv] at y5
   cases y5
   rw [g3] at y6
   have ek:xs.length - (m' + 1)=k:=by omega
   rw [ek] at g6 hp
   obtain⟨u,C,z1,z2,z3,z4⟩:=y8 k x g6
   refine .inr ⟨?_,I (k+1) (xs.length - (k+1)),fun σ2 H2 z=>⟨_,by omega,z⟩,fun x' H2 y=>?_⟩
   ·show(if isLs t=true then Itl W.K a else Itt W.K a).go k H'
    cases hil:isLs t with
    | true=>
     rw [if_pos rfl]
     rw [hil,if_pos rfl] at y6
     exact⟨vs',u,SqL.of y6,z1⟩
    | false=>
     rw [if_neg (by decide)]
     rw [hil,if_neg (by decide)] at y6
     exact⟨vs',u,SqT.of y6,z1⟩
   ·have yy:H2=H'/\x' = u:=by
     have y:(if isLs t=true then Itl W.K a else Itt W.K a).yld k H' x' H2:=y
     cases hil:isLs t with
     | true=>
      rw [hil,if_pos rfl] at y y6
      obtain⟨rfl,y⟩:=y
      have:=y vs' (SqL.of y6)
      rw [z1] at this
      cases this
      exact⟨rfl,rfl⟩
     | false=>
      rw [hil,if_neg (by decide)] at y y6
      obtain⟨rfl,y⟩:=y
      have:=y vs' (SqT.of y6)
      rw [z1] at this
      cases this
      exact⟨rfl,rfl⟩
    obtain⟨rfl,rfl⟩:=yy
    have hl:j<s'.length:=by rw [q.rep.len,q.len,hn];exact hj
    have go:∀ {sl:Slot},Rep W F' H2 (setS s' j sl) (σ'.set j (some x')) (setA A' j [])->WSs b (setS s' j sl) { D4 with nx:=jD j h i p (isLs t) (fun s D=>WSs b s D) D4 xs.length m',ct:=jD j h i p (isLs t) (fun s D=>WSs b s D) D4 xs.length m',bk:=D4.nx }->tb { D with nx:=I (k+1) (xs.length - (k+1)),ct:=I (k+1) (xs.length - (k+1)),bk:=D.nx } (σ'.set j (some x')) H2:=fun {sl} R2 hp=>by
     have q2:SPo W as ([j]++tl) F H A s σ (setS s' j sl) F' H2 (σ'.set j (some x')) (setA A' j []):=⟨R2,q.mv.set (zc j (List.mem_singleton.mpr rfl)) (fun b hb=>by cases hb),fun c hc=>(Jr hja hc).trans (q.kp c hc),by rw [List.length_set];exact q.len⟩
     have hv2:(σ'.set j (some x'))[h.getD i]? = some (some (.ref a)):=by rw [List.getElem?_set_ne hjh];exact hv
     have K2:=(K.chain q2).mono (tl:=tl) zd
     have st:∀ s4 F4 H4 σ4 A4,SPo W asb tl F' H2 (setA A' j []) (setS s' j sl) (σ'.set j (some x')) s4 F4 H4 σ4 A4->jD j h i p (isLs t) (fun s D=>WSs b s D) D4 xs.length m' s4->I (k+1) (xs.length - (k+1)) σ4 H4:=fun s4 F4 H4 σ4 A4 p4 h4=>by
      refine⟨rfl,by omega,s4,F4,A4,q2.trans ⟨p4.rep,p4.mv.mono zd,fun c hc=>p4.kp c fun z=>hc (hab c z),p4.len⟩,?_,?_⟩
      ·rw [p4.kp _ hib];exact hv2
      ·rw [show xs.length - (k+1)=m' by omega];exact h4
     exact hb F' H2 _ _ _ _ _ R2 (q2.len.trans hn) hp ⟨st,(K2.amono hab).rt,fun s4 F4 H4 σ4 A4 p4 h4=>(K2.amono hab).nx s4 F4 H4 σ4 A4 p4 h4,st,(K2.amono hab).ex⟩
    obtain⟨sl,hsl,hp⟩:=hp
    rcases hsl with⟨hs,rfl⟩ | ⟨hs,rfl⟩
    ·exact go (q.rep.ali hl hji y1 (z4 hs).1 y3 (z4 hs).2) hp
    ·have hC:=yr hs z2
     subst hC
     exact go (q.rep.set hl z2 Vd.nil .nil) hp
 show(∃ a',V.ref a=.ref a'/\_/\_)\/_\/_
 have ei:J=if isLs t=true then Itl W.K a else Itt W.K a:=rfl
 cases hil:isLs t with
 | true=>
  rw [hil,if_pos rfl] at e6 ei
  rw [ei] at body
  exact .inl ⟨a,rfl,⟨vs,SqL.of e6⟩,body⟩
 | false=>
  rw [hil,if_neg (by decide)] at e6 ei
  rw [ei] at body
  exact .inr (.inr ⟨a,rfl,⟨vs,SqT.of e6⟩,body⟩)
end L4
namespace L4
open PySem L2 PySem.Spec PyProof.Rows
noncomputable def star:Expr->Bool
 | .Starred _ _=>true
 | _=>false
noncomputable def noSt (es:List Expr):Bool:=es.all fun e=>!star e
theorem zo {e:Expr}{es:List Expr}{env:Env}(h:star e=false):starEach (e::es) env=(false,eval e env)::starEach es env:=by
 cases e<;>first | rfl | cases h
theorem ja:∀ {es:List Expr} {env:Env} {pos:Pos},noSt es=true->(backTo pos (starEach es env)).any (·.1)=false
 | [],env,pos,_=>rfl
 | e::es,env,pos,h=>by
  unfold noSt at h
  rw [List.all_cons,Bool.and_eq_true] at h
  rw [zo (by simpa using h.1)]
  have:=ja (es:=es) (env:=env) (pos:=pos) h.2
  simp only [backTo,List.map_cons,List.any_cons,Bool.false_or] at this ⊢
  exact this
theorem WC:∀ {es:List Expr} {env:Env} {pos:Pos},noSt es=true->(backTo pos (starEach es env)).all (fun x=>!x.1)=true
 | [],env,pos,_=>rfl
 | e::es,env,pos,h=>by
  unfold noSt at h
  rw [List.all_cons,Bool.and_eq_true] at h
  rw [zo (by simpa using h.1)]
  have:=WC (es:=es) (env:=env) (pos:=pos) h.2
  simp only [backTo,List.map_cons,List.all_cons,Bool.not_false,Bool.true_and] at this ⊢
  exact this
theorem yX {es:List Expr}{env:Env}{pos:Pos}(h:noSt es=true)(hl:es.length<30):((backTo pos (starEach es env)).all (fun x=>!x.1)&&(backToKw pos (keywordEach [] env)).all (fun x=>x.1.isSome)
   && decide (es.length+([]:List Keyword).length+(if ([]:List Keyword).isEmpty then 0 else 1)<30))=true:=by
 rw [WC h]
 simp only [Bool.true_and,Bool.and_eq_true,decide_eq_true_eq]
 exact⟨rfl,by simpa using hl⟩
noncomputable def yA:Expr->Bool
 | .Slice _ _ _ _=>false
 | _=>true
theorem WG {e:Expr}(h:yA e=true):Vv e:=by
 intro o i
 cases e<;>first | rfl | cases h
theorem ql {e:Expr}{es:List Expr}(h:noSt (e::es)=true):star e=false/\noSt es=true:=by
 unfold noSt at h
 rw [List.all_cons,Bool.and_eq_true] at h
 exact⟨by simpa using h.1,h.2⟩
noncomputable def wI:Expr->Bool
 | .Call (.Name _ _) [] [] _=>false
 | _=>true
theorem qt {o:Expr}{nm:Str}{env:Env}{wh:Sem Value}(h:wI o=true):attributeBase o nm env wh=wh:=by
 unfold attributeBase
 split
 ·cases h
 ·rfl
noncomputable def plainT:Expr->Bool
 | .Name _ _=>true
 | .Call _ _ _ _=>true
 | .Subscript _ _ _=>true
 | .Attribute _ _ _=>true
 | .ListComp _ _ _ _=>true
 | .BinOp _ _ _ _=>true
 | _=>false
theorem zc2 {e:Expr}{env:Env}(h:plainT e=true):∀ whole,isTrue e env whole=(do let v ← whole;standAt e.pos;holding [v] (truthy v)):=by
 intro wh
 cases e<;>first | rfl | cases h
noncomputable def V5:Expr->Bool
 | .Set _ _ _=>false
 | _=>true
theorem yY {e:Expr}{env:Env}(h:V5 e=true):∀ x,foldedSetIterable e env x=pure x:=by
 intro x
 cases e<;>first | rfl | cases h
noncomputable def Js:Expr->Bool
 | .ListComp _ _ _ _=>false
 | .SetComp _ _ _ _=>false
 | .DictComp _ _ _ _ _=>false
 | _=>true
theorem V6 {e:Expr}{tg:Option Expr}{l:Nat}{env:Env}(h:Js e=true):swapsWith e tg l env=pure false:=by
 cases e<;>first | rfl | cases h
noncomputable def zbn:Expr->Bool
 | .Tuple _ _ _=>false
 | _=>true
noncomputable def noTL:Expr->Bool
 | .Tuple _ _ _=>false
 | .List _ _=>false
 | _=>true
theorem Kd {tg e:Expr}{env:Env}(h:(noTL tg||zbn e)=true):swappedStores [tg] e env=pure none:=by
 cases tg<;>first | (cases e<;>first | rfl | cases h) | skip
theorem XR {tg:Expr}{env:Env}(h:star tg=false):(assignEach [tg] env).map (·.2)=[assign tg env]:=by
 cases tg<;>first | rfl | cases h
noncomputable def okN (x:Str):Bool:=!(x == ("__debug__":Str))&&!(x == ("__classdict__":Str))
noncomputable def vis (sc:Scope)(x:Str):Bool:=decide (sc.names.lookup x=some .local)||decide (sc.names.lookup x=some .cell)||decide (sc.names.lookup x=some .free)
noncomputable def glb (sc:Scope)(x:Str):Bool:=decide (sc.names.lookup x=some .globalImplicit)&&okN x
noncomputable def chkC:T->Const->Bool
 | .non,.none=>true
 | .bl b,.bool c=>b == c
 | .int i,.int j=>i == j
 | .str t,.str x=>decide (x=S t)&&decide (t.length<=16777216)
 | _,_=>false
noncomputable def relS (scope sc:Scope):Scope:={ kind:=scope.kind,names:=scope.names.map fun x=>match x with
 | (n,k)=>if (k == NameKind.free&&sc.kind == ScopeKind.function&&sc.names.lookup n == some NameKind.cell)=true then(n,NameKind.cell) else(n,k),isGenerator:=scope.isGenerator,isCoroutine:=scope.isCoroutine,more:=scope.more }
noncomputable def eName:Expr->Option Str
 | .Name x _=>some x
 | _=>none
noncomputable def eCon:Expr->Option (Const×Nat×Pos)
 | .Constant k j p=>some (k,j,p)
 | _=>none
noncomputable def eBin:Expr->Option (Expr×Operator×Expr)
 | .BinOp a o b _=>some (a,o,b)
 | _=>none
noncomputable def eUn:Expr->Option (UnaryOp×Expr)
 | .UnaryOp o a _=>some (o,a)
 | _=>none
noncomputable def eCmp:Expr->Option (Expr×List CmpOp×List Expr)
 | .Compare a os bs _=>some (a,os,bs)
 | _=>none
noncomputable def eBo:Expr->Option (BoolOp×List Expr)
 | .BoolOp o es _=>some (o,es)
 | _=>none
noncomputable def eIf:Expr->Option (Expr×Expr×Expr)
 | .IfExp t a b _=>some (t,a,b)
 | _=>none
noncomputable def eLst:Expr->Option (List Expr)
 | .List es _=>some es
 | _=>none
noncomputable def eTup:Expr->Option (List Expr)
 | .Tuple es _ _=>some es
 | _=>none
noncomputable def eSub:Expr->Option (Expr×Expr)
 | .Subscript a b _=>some (a,b)
 | _=>none
noncomputable def eSli:Expr->Option (Option Expr×Option Expr×Option Expr)
 | .Slice a b c _=>some (a,b,c)
 | _=>none
noncomputable def ZN:Expr->Option (Expr×List Expr×List Keyword×Pos)
 | .Call f es ks p=>some (f,es,ks,p)
 | _=>none
noncomputable def eAtt:Expr->Option (Expr×Str×Pos)
 | .Attribute e x p=>some (e,x,p)
 | _=>none
noncomputable def eLc:Expr->Option (Expr×List Comprehension×Scope)
 | .ListComp e gs sc _=>some (e,gs,sc)
 | _=>none
theorem ZO {e:Expr}{x:Str}(h:eName e=some x):∃ p,e=.Name x p:=by cases e<;>first | (cases h;done) | (cases h;exact⟨_,rfl⟩)
theorem zc3 {e:Expr}{x:Const×Nat×Pos}(h:eCon e=some x):e=.Constant x.1 x.2.1 x.2.2:=by cases e<;>first | (cases h;done) | (cases h;rfl)
theorem zc4 {e:Expr}{x:Expr×Operator×Expr}(h:eBin e=some x):∃ p,e=.BinOp x.1 x.2.1 x.2.2 p:=by cases e<;>first | (cases h;done) | (cases h;exact⟨_,rfl⟩)
theorem zbo {e:Expr}{x:UnaryOp×Expr}(h:eUn e=some x):∃ p,e=.UnaryOp x.1 x.2 p:=by cases e<;>first | (cases h;done) | (cases h;exact⟨_,rfl⟩)
theorem k8 {e:Expr}{x:Expr×List CmpOp×List Expr}(h:eCmp e=some x):∃ p,e=.Compare x.1 x.2.1 x.2.2 p:=by cases e<;>first | (cases h;done) | (cases h;exact⟨_,rfl⟩)
theorem zbp {e:Expr}{x:BoolOp×List Expr}(h:eBo e=some x):∃ p,e=.BoolOp x.1 x.2 p:=by cases e<;>first | (cases h;done) | (cases h;exact⟨_,rfl⟩)
theorem zfT {e:Expr}{x:Expr×Expr×Expr}(h:eIf e=some x):∃ p,e=.IfExp x.1 x.2.1 x.2.2 p:=by cases e<;>first | (cases h;done) | (cases h;exact⟨_,rfl⟩)
theorem zc5 {e:Expr}{x:List Expr}(h:eLst e=some x):∃ p,e=.List x p:=by cases e<;>first | (cases h;done) | (cases h;exact⟨_,rfl⟩)
theorem yB {e:Expr}{x:List Expr}(h:eTup e=some x):∃ k p,e=.Tuple x k p:=by cases e<;>first | (cases h;done) | (cases h;exact⟨_,_,rfl⟩)
theorem k9 {e:Expr}{x:Expr×Expr}(h:eSub e=some x):∃ p,e=.Subscript x.1 x.2 p:=by cases e<;>first | (cases h;done) | (cases h;exact⟨_,rfl⟩)
theorem zc6 {e:Expr}{x:Option Expr×Option Expr×Option Expr}(h:eSli e=some x):∃ p,e=.Slice x.1 x.2.1 x.2.2 p:=by cases e<;>first | (cases h;done) | (cases h;exact⟨_,rfl⟩)
theorem wJ {e:Expr}{x:Expr×List Expr×List Keyword×Pos}(h:ZN e=some x):e=.Call x.1 x.2.1 x.2.2.1 x.2.2.2:=by cases e<;>first | (cases h;done) | (cases h;rfl)
theorem V7 {e:Expr}{x:Expr×Str×Pos}(h:eAtt e=some x):e=.Attribute x.1 x.2.1 x.2.2:=by cases e<;>first | (cases h;done) | (cases h;rfl)
theorem zbq {e:Expr}{x:Expr×List Comprehension×Scope}(h:eLc e=some x):∃ p,e=.ListComp x.1 x.2.1 x.2.2 p:=by cases e<;>first | (cases h;done) | (cases h;exact⟨_,rfl⟩)
theorem zi {α:Type}{o:Option α}{f:α->Bool}(h:o.any f=true):∃ x,o=some x/\f x=true:=by
 cases o with
 | none=>cases h
 | some x=>exact⟨x,rfl,h⟩
noncomputable def djs (a b:List Nat):Bool:=a.all fun j=>!b.contains j
theorem qQ {a b:List Nat}(h:djs a b=true):∀ j∈a,j∉b:=fun j hj z=>by
 have:=List.all_eq_true.mp h j hj
 simp [z] at this
end L4
namespace L4
open PySem L2 PySem.Spec PyProof.Rows
noncomputable def one? {α:Type}:List α->Option α
 | [a]=>some a
 | _=>none
noncomputable def two? {α:Type}:List α->Option (α×α)
 | [a,b]=>some (a,b)
 | _=>none
theorem Jt {α:Type}{l:List α}{a:α}(h:one? l=some a):l=[a]:=by
 match l,h with
 | [_],h=>cases h;rfl
theorem Ju {α:Type}{l:List α}{a:α×α}(h:two? l=some a):l=[a.1,a.2]:=by
 match l,h with
 | [_,_],h=>cases h;rfl
noncomputable def meN:ME->Str
 | .join=>"join"
 | .index=>"index"
 | .startswith=>"startswith"
 | .zfill=>"zfill"
 | .get2=>"get"
noncomputable def muN:MU->Str
 | .append=>"append"
 | .extend=>"extend"
 | .pop=>"pop"
 | .clear=>"clear"
 | .insert=>"insert"
 | .popI=>"pop"
noncomputable def muAr:MU->Nat
 | .append=>1
 | .extend=>1
 | _=>0
noncomputable def chkV (N:List Str)(sc:Scope)(i:Nat)(e:Expr):Bool:=(eName e).any fun x=>decide (N[i]? = some x)&&vis sc x&&okN x
noncomputable def kK (sc:Scope)(x:Str)(e:Expr):Bool:=(eName e).any fun y=>decide (y=x)&&glb sc y
noncomputable def WH (sc:Scope):List TyK->List Expr->Bool
 | [],es=>es.isEmpty
 | k::ks,es=>match es with
  | e::es=>kK sc (tyN k) e&&WH sc ks es
  | []=>false
noncomputable def djL:List Xp->Bool
 | []=>true
 | e::es=>djs (root e) (zz es)&&djL es
noncomputable def plM:List Md->List Xp->List Nat
 | .mu::ms,c::cs=>root c++plM ms cs
 | _::ms,_::cs=>plM ms cs
 | _,_=>[]
noncomputable def gen? (gs:List Comprehension):Option (Expr×Expr×List Expr):=match gs with
 | [⟨t,i,fs,0⟩]=>some (t,i,fs)
 | _=>none
theorem zbr {gs:List Comprehension}{x:Expr×Expr×List Expr}(h:gen? gs=some x):gs=[⟨x.1,x.2.1,x.2.2,0⟩]:=by
 unfold gen? at h
 split at h
 ·cases h;rfl
 ·cases h
noncomputable def lcG (N:List Str)(sc scope:Scope)(xs:List Str):Bool:=
 decide ((xs++N.map (renL xs)).Nodup)&&decide (scope.kind=.function)&&decide (∀ y∈scope.names,y.2≠.cell)&&decide (∀ y∈scope.names,y.2=.local->scope.names.lookup y.1=some .local)&&decide (∀ x∈xs,scope.names.lookup x=some .local)
  && decide (∀ y∈scope.names,y.2=.free->sc.names.lookup y.1=some .cell)&&decide (∀ y∈N.map (renL xs),scope.names.lookup y≠some .local)&&decide (scope.names.lookup (Str.ofString "")=none)
noncomputable def ikN:IK->Str
 | .seq=>""
 | .rng=>"range"
 | .enumL=>"enumerate"
 | .enumS=>"enumerate"
 | .zip=>"zip"
 | .rvdL=>"reversed"
 | .rvdT=>"reversed"
noncomputable def roots:List Xp->List Nat
 | []=>[]
 | e::es=>root e++roots es
noncomputable def v8 (e:Expr):Bool:=(eTup e).isSome
mutual
noncomputable def chkE (N:List Str)(sc:Scope)(cm:Bool):Xp->Expr->Bool
 | .b i,e=>chkV N sc i e
 | .a j _,e=>chkV N sc j e
 | .v i,e=>chkV N sc i e
 | .m i,e=>chkV N sc i e
 | .c t,e=>(eCon e).any fun k=>chkC t k.1
 | .g x _,e=>kK sc x e
 | .frz a,e=>chkE N sc cm a e
 | .bin op a b,e=>(eBin e).any fun p=>decide (p.2.1=binC op)&&djs (root a) (zB b)&&chkE N sc cm a p.1&&chkE N sc cm b p.2.2
 | .neg a,e=>(eUn e).any fun p=>decide (p.1=.USub)&&chkE N sc cm a p.2
 | .cmp op a b,e=>(eCmp e).any fun p=>decide (p.2.1=[cmpC op])&&(one? p.2.2).any fun eb=>!behindInMarks (cmpC op) eb&&djs (root a) (zB b)&&chkE N sc cm a p.1&&chkE N sc cm b eb
 | .chn o1 o2 a b c,e=>(eCmp e).any fun p=>decide (p.2.1=[cmpC o1,cmpC o2])&&(two? p.2.2).any fun q=>!lastMarks [cmpC o1,cmpC o2] [q.1,q.2]&&chkE N sc cm a p.1&&chkE N sc cm b q.1&&chkE N sc cm c q.2
 | .bo k es,e=>(eBo e).any fun p=>decide (p.1=if k then .And else .Or)&&!es.isEmpty&&qL N sc cm es p.2
 | .t _,_=>false
 | .tn _,_=>false
 | .tb _ _,_=>false
 | .ife t a b,e=>(eIf e).any fun p=>chkT N sc cm t p.1&&chkE N sc cm a p.2.1&&chkE N sc cm b p.2.2
 | .lst es,e=>(eLst e).any fun p=>noSt p&&qL N sc cm es p
 | .tup es,e=>(eTup e).any fun p=>noSt p&&qL N sc cm es p
 | .ix a k,e=>(eSub e).any fun p=>yA p.2&&djs (root a) (zB k)&&chkE N sc cm a p.1&&chkE N sc cm k p.2
 | .sl a lo hi,e=>(eSub e).any fun p=>(eSli p.2).any fun q=>q.2.2.isNone&&djs (root a) (zz lo++zz hi)&&chkE N sc cm a p.1&&chkO N sc cm lo q.1&&chkO N sc cm hi q.2.1
 | .call x ms ln _ es,e=>(ZN e).any fun p=>kK sc x p.1&&p.2.2.1.isEmpty&&noSt p.2.1&&(if ln then ms.all (· = .fz) else decide (plM ms es).Nodup)&&chkA N sc cm ln ms es p.2.1
 | .bi b es,e=>(ZN e).any fun p=>kK sc (biN b) p.1&&p.2.2.1.isEmpty&&noSt p.2.1&&cm&&!es.isEmpty&&djL es&&qL N sc cm es p.2.1
 | .isi a ks,e=>(ZN e).any fun p=>kK sc "isinstance" p.1&&p.2.2.1.isEmpty&&(two? p.2.1).any fun q=>!star q.1&&chkE N sc cm a q.1&&((one? ks).any (fun k=>kK sc (tyN k) q.2)||(decide (ks.length<=100)&&(eTup q.2).any fun es=>WH sc ks es))
 | .me m o es,e=>(ZN e).any fun p=>(eAtt p.1).any fun q=>decide (q.2.1=meN m)&&wI q.1&&(q.2.2.endLine == p.2.2.2.line)&&p.2.2.1.isEmpty&&noSt p.2.1&&decide (p.2.1.length<30)&&decide (m≠.get2)&&!es.isEmpty&&djL es&&chkE N sc cm o q.1&&qL N sc cm es p.2.1
 | .mu m o es,e=>(ZN e).any fun p=>(eAtt p.1).any fun q=>decide (q.2.1=muN m)&&wI q.1&&(q.2.2.endLine == p.2.2.2.line)&&p.2.2.1.isEmpty&&noSt p.2.1&&decide (p.2.1.length=muAr m)&&decide (m≠.insert/\m≠.popI)&&djs (root o) (zz es)&&chkP N sc cm o q.1&&qL N sc cm es p.2.1
 | .lc elt n k its ifs,e=>(eLc e).any fun p=>(gen? p.2.1).any fun g=>cm&&V5 g.2.1&&decide (g.2.2.length<=1)&&chkI N sc cm k its g.2.1 (v8 g.1)&&djs (roots its) (outT n (zB elt++zz ifs)) &&
   (tgN g.1).any fun q=>decide (q.2.length=n)&&decide (q.1=decide (n≠1))&&lcG N sc p.2.2 q.2&&chkE (q.2++N.map (renL q.2)) (relS p.2.2 sc) true elt p.1&&wK (q.2++N.map (renL q.2)) (relS p.2.2 sc) true ifs g.2.2
noncomputable def qL (N:List Str)(sc:Scope)(cm:Bool):List Xp->List Expr->Bool
 | [],es=>es.isEmpty
 | c::cs,es=>match es with
  | e::es=>chkE N sc cm c e&&qL N sc cm cs es
  | []=>false
noncomputable def chkA (N:List Str)(sc:Scope)(cm ln:Bool):List Md->List Xp->List Expr->Bool
 | ms,[],es=>ms.isEmpty&&es.isEmpty
 | ms,c::cs,es=>(ms.head?.any fun m=>es.head?.any fun e=>if m=.mu then chkP N sc cm c e&&djs (root c) (qN ms.tail cs) else chkE N sc cm c e&&(m == .mv||!ln||djs (root c) (qN ms.tail cs)))&&chkA N sc cm ln ms.tail cs es.tail
noncomputable def chkP (N:List Str)(sc:Scope)(cm:Bool):Xp->Expr->Bool
 | .b i,e=>chkV N sc i e
 | .a j _,e=>chkV N sc j e
 | .ix a k,e=>(eSub e).any fun p=>yA p.2&&djs (root a) (zB k)&&chkP N sc cm a p.1&&chkE N sc cm k p.2
 | _,_=>false
noncomputable def chkO (N:List Str)(sc:Scope)(cm:Bool):List Xp->Option Expr->Bool
 | [],e=>e.isNone
 | c::cs,e=>cs.isEmpty&&e.any fun e=>chkE N sc cm c e
noncomputable def chkT (N:List Str)(sc:Scope)(cm:Bool):Xp->Expr->Bool
 | .t a,e=>plainT e&&chkE N sc cm a e
 | .tn a,e=>(eUn e).any fun p=>decide (p.1=.Not)&&chkT N sc cm a p.2
 | .tb k es,e=>(eBo e).any fun p=>decide (p.1=if k then .And else .Or)&&!es.isEmpty&&wK N sc cm es p.2
 | .cmp op a b,e=>(eCmp e).any fun p=>decide (p.2.1=[cmpC op])&&(one? p.2.2).any fun eb=>!behindInMarks (cmpC op) eb&&djs (root a) (zB b)&&chkE N sc cm a p.1&&chkE N sc cm b eb
 | .chn o1 o2 a b c,e=>(eCmp e).any fun p=>decide (p.2.1=[cmpC o1,cmpC o2])&&(two? p.2.2).any fun q=>!lastMarks [cmpC o1,cmpC o2] [q.1,q.2]&&chkE N sc cm a p.1&&chkE N sc cm b q.1&&chkE N sc cm c q.2
 | _,_=>false
noncomputable def wK (N:List Str)(sc:Scope)(cm:Bool):List Xp->List Expr->Bool
 | [],es=>es.isEmpty
 | c::cs,es=>match es with
  | e::es=>chkT N sc cm c e&&wK N sc cm cs es
  | []=>false
noncomputable def chkI (N:List Str)(sc:Scope)(cm:Bool):IK->List Xp->Expr->Bool->Bool
 | _,[],_,_=>false
 | k,c::cs,e,tup=>if k=.seq then cs.isEmpty&&chkE N sc cm c e else(tup||(decide (k=.rng)||decide (k=.rvdL)||decide (k=.rvdT)))&&(ZN e).any fun p=>kK sc (ikN k) p.1&&p.2.2.1.isEmpty&&noSt p.2.1&&djL (c::cs)&&decide (cs.length<=1)&&(decide (k=.rng)||decide (cs.length=if k=.zip then 1 else 0)) &&
   (p.2.1.head?.any fun e1=>chkE N sc cm c e1&&qL N sc cm cs p.2.1.tail)
end
structure Env4 where
 F:Str->List Md->Fn->Prop
 G:Str->T->Prop
 B:Str->Prop
 A:Nat->Str->Prop
mutual
noncomputable def Need (Γ:Env4):Xp->Prop
 | .g x t=>Γ.G x t
 | .frz a=>Need Γ a
 | .bin _ a b=>Need Γ a/\Need Γ b
 | .neg a=>Need Γ a
 | .cmp _ a b=>Need Γ a/\Need Γ b
 | .chn _ _ a b c=>Need Γ a/\Need Γ b/\Need Γ c
 | .bo _ es=>zX Γ es
 | .t a=>Need Γ a
 | .tn a=>Need Γ a
 | .tb _ es=>zX Γ es
 | .ife t a b=>Need Γ t/\Need Γ a/\Need Γ b
 | .lst es=>zX Γ es
 | .tup es=>zX Γ es
 | .ix a k=>Need Γ a/\Need Γ k
 | .sl a lo hi=>Need Γ a/\zX Γ lo/\zX Γ hi
 | .call x ms _ f es=>Γ.F x ms f/\zX Γ es
 | .bi b es=>Γ.B (biN b)/\zX Γ es
 | .isi a ks=>Γ.B "isinstance"/\Need Γ a/\∀ k∈ks,Γ.B (tyN k)
 | .me _ o es=>Need Γ o/\zX Γ es
 | .mu _ o es=>Need Γ o/\zX Γ es
 | .lc elt _ k its ifs=>Need Γ elt/\(k≠.seq->Γ.B (ikN k))/\zX Γ its/\zX Γ ifs
 | _=>True
noncomputable def zX (Γ:Env4):List Xp->Prop
 | []=>True
 | e::es=>Need Γ e/\zX Γ es
end
end L4
namespace L4
open PySem L2 PySem.Spec PyProof.Rows
variable {W:Wd} {E:XS} {Γ:Env4} {mg:Str->Option Value}
structure zeg (X X':Cx):Prop where
 prog:X'.prog=X.prog
 w:X'.w=X.w
 K:X'.K=X.K
 mg:X'.mg=X.mg
 base:X'.base=X.base
 A:X'.A=X.A
def XT (W:Wd)(X:Cx)(E:XS)(x:Str)(ms:List Md)(f:Fn):Prop:=∀ (es:List Expr) (t:TA) (p pos:Pos),PA X es t->noSt es=true->Gl X x->okN x=true->(es=[]->t=tNil)->PE X (.Call (.Name x p) es [] pos) (xH (SpM W ms f) E t)
structure Ctx (W:Wd)(mg:Str->Option Value)(X:Cx)(N:List Str)(sc:Scope)(cm:Bool)(E:XS)(Γ:Env4):Prop where
 hK:X.K=W.K
 hN:X.N=N
 nd:N.Nodup
 hs:X.env.scope=sc
 hc:X.calm=cm
 hu:X.A.units+64<cLine
 call:∀ x ms f,Γ.F x ms f->XT W X E x ms f
 callN:∀ x ms f,Γ.F x ms f->∀ X',zeg X X'->XT W X' (fun _ _ _ _=>False) x ms f
 hmg:X.mg=mg
 blt:∀ x,Γ.B x->X.mg x=none
structure GOk (W:Wd)(mg:Str->Option Value)(Γ:Env4):Prop where
 g:∀ x t,Γ.G x t->∃ v,(∀ F H:Hp,Tr W F H (fzi t) v [])/\∃ u,mg x=some u/\RelV v u
 a:∀ c f,Γ.A c f->Cls W.K (W.cl c)/\KN W.K (W.cl c) f
theorem kL {x:Str}(h:okN x=true):(x == ("__debug__":Str))=false/\(x == ("__classdict__":Str))=false:=by
 unfold okN at h
 simp only [Bool.and_eq_true,Bool.not_eq_true'] at h
 exact h
theorem Ctx.gl {X:Cx}{N:List Str}{sc:Scope}{cm:Bool}(C:Ctx W mg X N sc cm E Γ){x:Str}(h:glb sc x=true):Gl X x/\okN x=true:=by
 unfold glb at h
 rw [Bool.and_eq_true,decide_eq_true_eq] at h
 refine⟨?_,h.2⟩
 show X.env.scope.names.lookup x=_
 rw [C.hs];exact h.1
theorem jZ {sc:Scope}{x:Str}{e:Expr}(h:kK sc x e=true):∃ p,e=.Name x p/\glb sc x=true:=by
 obtain⟨y,h1,h2⟩:=zi h
 rw [Bool.and_eq_true,decide_eq_true_eq] at h2
 obtain⟨p,rfl⟩:=ZO h1
 obtain⟨rfl,h2⟩:=h2
 exact⟨p,rfl,h2⟩
theorem Ctx.var {X:Cx}{N:List Str}{sc:Scope}{cm:Bool}(C:Ctx W mg X N sc cm E Γ){e:Expr}{i:Nat}(h:chkV N sc i e=true):PE X e (tVar i):=by
 obtain⟨x,h1,h2⟩:=zi h
 obtain⟨pos,rfl⟩:=ZO h1
 rw [Bool.and_eq_true,Bool.and_eq_true,decide_eq_true_eq] at h2
 obtain⟨⟨h1,h2⟩,h3⟩:=h2
 obtain⟨d1,d2⟩:=kL h3
 refine pv i (by rw [C.hN];exact h1) ?_ d1 d2
 rw [C.hs]
 unfold vis at h2
 simp only [Bool.or_eq_true,decide_eq_true_eq] at h2
 rcases h2 with(z | z) | z
 ·exact .inl z
 ·exact .inr (.inl z)
 ·exact .inr (.inr z)
theorem Ctx.blkG {X:Cx}{N:List Str}{sc scope:Scope}{xs:List Str}(C:Ctx W mg X N sc true E Γ)(h:lcG N sc scope xs=true):xR X xs scope/\∀ (cl:List (Str×Addr)) (Ca:Addr) (s3:Shared) (H3:Hp) (fp:List Addr),Ctx W mg (L2.blkG X xs scope cl Ca s3 H3 fp) (xs++N.map (renL xs)) (relS scope sc) true (fun _ _ _ _=>False) Γ:=by
 unfold lcG at h
 simp only [Bool.and_eq_true,decide_eq_true_eq] at h
 obtain⟨⟨⟨⟨⟨⟨⟨h1,h2⟩,h3⟩,h4⟩,h5⟩,h6⟩,h7⟩,h8⟩:=h
 refine⟨⟨by rw [C.hN];exact h1,h2,h3,h4,h5,fun y hy hf=>?_,by rw [C.hN];exact h7,h8,C.hc⟩,fun cl Ca s3 H3 fp=>?_⟩
 ·show X.env.scope.names.lookup y.1=some .cell
  rw [C.hs];exact h6 y hy hf
 exact⟨C.hK,by show xs++X.N.map (renL xs)=_;rw [C.hN],h1,by rw [← C.hs];rfl,C.hc,C.hu,fun y ms f hf=>C.callN y ms f hf _ ⟨rfl,rfl,rfl,rfl,rfl,rfl⟩,fun y ms f hf X' g=>C.callN y ms f hf X' ⟨g.prog,g.w,g.K,g.mg,g.base,g.A⟩,C.hmg,C.blt⟩
theorem Ctx.tgt {X:Cx}{N:List Str}{sc scope:Scope}{tg:Expr}{q:Bool×List Str}(C:Ctx W mg X N sc true E Γ)(L:xR X q.2 scope)(h:tgN tg=some q):∀ (cl:List (Str×Addr)) (Ca:Addr) (s3:Shared) (H3:Hp) (fp:List Addr),PG (L2.blkG X q.2 scope cl Ca s3 H3 fp) tg (gOf W.K q.1 q.2.length):=fun cl Ca s3 H3 fp=>by
 rw [← C.hK]
 refine zfN (X:=L2.blkG X q.2 scope cl Ca s3 H3 fp) L.calm L.nd (fun _=>rfl) h (fun k x hx=>?_) fun x hx=>?_
 ·show(q.2++X.N.map (renL q.2))[k]? = some x
  rw [List.getElem?_append_left (List.getElem?_eq_some_iff.mp hx).1];exact hx
 ·have e:(L2.blkG X q.2 scope cl Ca s3 H3 fp).env.scope.names.lookup x=(scope.names.lookup x).map fun k=>if (k == NameKind.free&&X.env.scope.kind == .function&&X.env.kindOf x == some .cell) then NameKind.cell else k:=jW x scope.names
  rw [e,L.var x hx]
  rfl
theorem zfU {t:T}{k:Const}{j:Nat}{pos:Pos}(h:chkC t k=true):∃ v,(∀ X,PE X (.Constant k j pos) (tC v))/\∀ F H:Hp,Tr W F H t v []:=by
 cases t<;>cases k<;>simp only [chkC,reduceCtorEq,Bool.false_eq_true] at h
 ·exact⟨.non,fun X=>zeN,fun F H=>yW⟩
 ·rename_i b c
  have:b=c:=by simpa using h
  subst this
  exact⟨.bl b,fun X=>zgr,fun F H=>vR⟩
 ·rename_i i j
  have:i=j:=by simpa using h
  subst this
  exact⟨.int i,fun X=>zeM,fun F H=>xP⟩
 ·rename_i t x
  rw [Bool.and_eq_true,decide_eq_true_eq,decide_eq_true_eq] at h
  exact⟨.str (S t),fun X=>pe_S h.1,fun F H=>jE h.2⟩
theorem zbs {X:Cx}{P:V->Hp->Prop}{e:Expr}{es:List Expr}{te:TE}{t:TA}(ha:PE X e te)(hr:PA X es t)(hs:starEach (e::es) X.env=(false,eval e X.env)::starEach es X.env):PA X (e::es) (tCk P te t):=by
 intro pos pins s σ H Q I h
 rw [hs]
 show wpAny _ _ (spliced ((false,eval e X.env)::backTo pos (starEach es X.env))) _ _ s
 refine Calls.spliced_cons (thn (ha pins s σ H _ I h) fun u s1 ⟨x,H1,I1,r1,_,q1⟩=>?_)
 exact thn (hr pos pins s1 σ H1 _ I1 q1) fun us s2 ⟨xs,H2,I2,r2,q2⟩=>⟨x::xs,H2,I2,.cons r1 r2,q2⟩
theorem zeh {X:Cx}{N:List Str}{sc:Scope}{cm:Bool}{k:TyK}{pos:Pos}(C:Ctx W mg X N sc cm E Γ)(hz:glb sc (tyN k)=true)(hb:Γ.B (tyN k)):PE X (.Name (tyN k) pos) (tC (.ty (tyN k))):=by
 obtain⟨hg,hok⟩:=C.gl hz
 cases k
 ·exact yR (C.blt _ hb) zak rfl hg (by decide) (by decide)
 ·exact yR (C.blt _ hb) zal rfl hg (by decide) (by decide)
 ·exact yR (C.blt _ hb) zct rfl hg (by decide) (by decide)
 ·exact yR (C.blt _ hb) VA rfl hg (by decide) (by decide)
 ·exact yR (C.blt _ hb) Wn rfl hg (by decide) (by decide)
 ·exact yR (C.blt _ hb) (by rfl) rfl hg (by decide) (by decide)
theorem zg9 {X:Cx}{o e:Expr}{es:List Expr}{to:TE}{ta:TA}{apos cpos:Pos}(m:ME)(hm:m≠.get2)(hK:X.K=W.K)(ho:PE X o to)(ha:PA X (e::es) ta)(hb:wI o=true)(hl:(apos.endLine == cpos.line)=true)(hs:noSt (e::es)=true)(hn:(e::es).length<30):PE X (.Call (.Attribute o (meN m) apos) (e::es) [] cpos) (tBM W.K "str" (meR W.K m) to ta):=by
 obtain⟨s1,s2⟩:=ql hs
 cases m
 ·exact yS hK PySem.F.plainAttrs_str PySem.F.slot_str_join PySem.F.type_str_join (YV hK) ho ha (qt hb) (yX hs hn) hl (zo s1) (ja s2)
 ·exact yS hK PySem.F.plainAttrs_str PySem.F.slot_str_index PySem.F.type_str_index Y8 ho ha (qt hb) (yX hs hn) hl (zo s1) (ja s2)
 ·exact yS hK PySem.F.plainAttrs_str PySem.F.slot_str_startswith PySem.F.type_str_startswith Zt ho ha (qt hb) (yX hs hn) hl (zo s1) (ja s2)
 ·exact yS hK PySem.F.plainAttrs_str PySem.F.slot_str_zfill PySem.F.type_str_zfill YT ho ha (qt hb) (yX hs hn) hl (zo s1) (ja s2)
 ·exact absurd rfl hm
theorem zha {X:Cx}{o:Expr}{es:List Expr}{to:TE}{ta:TA}{apos cpos:Pos}(m:MU)(hm:m≠.insert/\m≠.popI)(hK:X.K=W.K)(ho:PE X o to)(ha:PA X es ta)(hb:wI o=true)(hl:(apos.endLine == cpos.line)=true)(hs:noSt es=true)(hn:es.length=muAr m)(h0:es=[]->ta=tNil) :
  PE X (.Call (.Attribute o (muN m) apos) es [] cpos) (fun σ H Q=>to σ H fun x H1=>tyV W.K "list" x H1/\ta σ H1 fun xs H2=>muR m x xs H2 Q):=by
 cases m
 ·match es,hn,ha,hs with
  | [e],_,ha,hs=>exact yS hK PySem.F.plainAttrs_list PySem.F.slot_list_append PySem.F.type_list_append QF ho ha (qt hb) (yX hs (by simp)) hl (zo (ql hs).1) rfl
 ·match es,hn,ha,hs with
  | [e],_,ha,hs=>exact yS hK PySem.F.plainAttrs_list PySem.F.slot_list_extend PySem.F.type_list_extend YL ho ha (qt hb) (yX hs (by simp)) hl (zo (ql hs).1) rfl
 ·match es,hn,ha,hs,h0 with
  | [],_,ha,hs,h0=>
   have:=h0 rfl
   subst this
   exact VQ hK PySem.F.plainAttrs_list PySem.F.slot_list_pop PySem.F.type_list_pop ze9 ho (qt hb) hl
 ·match es,hn,ha,hs,h0 with
  | [],_,ha,hs,h0=>
   have:=h0 rfl
   subst this
   exact VQ hK PySem.F.plainAttrs_list PySem.F.slot_list_clear PySem.F.type_list_clear K7 ho (qt hb) hl
 ·exact absurd rfl hm.1
 ·exact absurd rfl hm.2
end L4
namespace L4
open PySem L2 PySem.Spec PyProof.Rows
variable {W:Wd} {E:XS} {Γ:Env4} {mg:Str->Option Value}
theorem zfV {X:Cx}{pins:List (Addr×Obj)}{σ:L2.St}{H:Hp}{s:Shared}{x:V}{u t:Value}(I:Inv X pins σ H s)(rx:RelV x u)(ty:TyOf X.K H x t):∃ P,PySem.W.KitX X.K u t P/\P s.heap/\u≠Value.builtin "__main__.__loader__#opaque":=by
 cases ty with
 | non=>cases (show u=Value.none from rx);exact⟨_,PySem.W.kitx_none,True.intro,fun z=>nomatch z⟩
 | bl y=>cases (show u=Value.bool y from rx);exact⟨_,PySem.W.kitx_bool,True.intro,fun z=>nomatch z⟩
 | int i=>obtain⟨t,q⟩:=(show ∃ t,u=Value.int i t from rx);cases q;exact⟨_,PySem.W.kitx_int,True.intro,fun z=>nomatch z⟩
 | str y=>obtain⟨t,q⟩:=(show ∃ t,u=Value.str y t from rx);cases q;exact⟨_,PySem.W.kitx_str,True.intro,fun z=>nomatch z⟩
 | flt y=>obtain⟨t,q⟩:=(show ∃ t,u=Value.float y t from rx);cases q;exact⟨_,PySem.W.kitx_float,True.intro,fun z=>nomatch z⟩
 | @lst a xs ea=>
  cases (show u=Value.ref a from rx)
  obtain⟨_,_,n,_,h1⟩:=(show zM X.prog X.w H s.heap a (.lst xs) from I.hok a _ ea)
  exact⟨_,PySem.W.kitx_list,⟨_,h1,rfl⟩,fun z=>nomatch z⟩
 | @frz a ob xs ea=>
  cases (show u=Value.ref a from rx)
  obtain⟨_,_,_,n,_,h1⟩:=(show zM X.prog X.w H s.heap a (.frz ob (.lst xs)) from I.hok a _ ea)
  exact⟨_,PySem.W.kitx_list,⟨_,h1,rfl⟩,fun z=>nomatch z⟩
 | @tup a xs ea=>
  cases (show u=Value.ref a from rx)
  obtain⟨_,_,_,p⟩:=(show zM X.prog X.w H s.heap a (.tup xs) from I.hok a _ ea)
  obtain⟨o,h1,h2,_⟩:=p
  exact⟨_,PySem.W.kitx_tuple,⟨o,h1,h2⟩,fun z=>nomatch z⟩
 | @dK a kvs ea=>
  cases (show u=Value.ref a from rx)
  obtain⟨_,_,vs,_,p⟩:=(show zM X.prog X.w H s.heap a (.dK kvs) from I.hok a _ ea)
  obtain⟨o,es,ep,h1,h2,_⟩:=p
  exact⟨_,PySem.W.kitx_dict,⟨o,h1,h2.1⟩,fun z=>nomatch z⟩
 | @dT a kvs ea=>
  cases (show u=Value.ref a from rx)
  obtain⟨_,_,xs,_,o,es,ep,h1,h2,_⟩:=(show zM X.prog X.w H s.heap a (.dT kvs) from I.hok a _ ea)
  exact⟨_,PySem.W.kitx_dict,⟨o,h1,h2.1⟩,fun z=>nomatch z⟩
 | @ins a C dx fs ea cl ha hn htk hm=>
  cases (show u=Value.ref a from rx)
  obtain⟨mA,O,_⟩:=Vr I.hok ea
  obtain⟨od,J,_⟩:=O.look
  exact⟨_,PySem.W.kitx_own (cl.get _) cl.hd ha hn htk hm,J,fun z=>nomatch z⟩
noncomputable def rIsT (K:PySem.W.Frag)(ns:List String):List V->Hp->VK->Prop:=fun xs H Q=>∃ x p t b,xs=[x,.ref p]/\H p=some (.tup (ns.map V.ty))/\TyOf K H x t/\PySem.W.kitAny K t (ns.map Value.type)=some b/\Q (.bl b) H
theorem V8:∀ {ns:List String} {us:List Value},Vals (ns.map V.ty) us->us=ns.map Value.type
 | [],_,h=>by cases h;rfl
 | _::ns,_,h=>by
  cases h with
  | cons h t=>
   cases h
   rw [V8 t]
   rfl
theorem zbt {X:Cx}{K:PySem.W.Frag}{ns:List String}(hK:X.K=K):qc X (.builtin "isinstance") (rIsT K ns):=by
 subst hK
 intro pins s σ H xs us Q I r h
 obtain⟨x,p,t,b,rfl,hp,ty,e,q⟩:=h
 obtain⟨u1,u2,rfl,r1,r2⟩:=vals2 r
 obtain rfl:u2=Value.ref p:=r2
 obtain⟨P,k1,k2,k3⟩:=zfV I r1 ty
 obtain⟨_,its,rv,o,ho,hoc,n,hod⟩:=(show zM X.prog X.w H s.heap p (.tup (ns.map V.ty)) from I.hok p _ hp)
 obtain rfl:=V8 rv
 obtain⟨oc,odi,oda,osl⟩:=o
 dsimp only at hoc hod
 subst hoc hod
 exact PySem.W.kia_tup k1 I.kIn k2 ho e k3 fun tk=>⟨.bl b,H,I.tok _,rfl,q⟩
theorem V9 {K:PySem.W.Frag}{t:Value}{f:TyK->Bool}(h:∀ k,PySem.W.kitOne K t (.type (tyN k))=some (f k)):∀ ks:List TyK,PySem.W.kitAny K t ((ks.map tyN).map Value.type)=some (ks.any f)
 | []=>by simp only [List.map_nil,PySem.W.kitAny,List.any_nil]
 | k::ks=>by
  have h1:=h k
  rw [List.any_cons]
  cases e:f k with
  | true=>rw [e] at h1;simp only [List.map_cons,PySem.W.kitAny,h1,Bool.true_or]
  | false=>rw [e] at h1;simp only [List.map_cons,PySem.W.kitAny,h1,Bool.false_or];exact V9 h ks
theorem TyOf.mono {K:PySem.W.Frag}{H H':Hp}(g:Same H H'){x:V}{t:Value}(h:TyOf K H x t):TyOf K H' x t:=by
 cases h with
 | non=>exact .non
 | bl y=>exact .bl y
 | int i=>exact .int i
 | str y=>exact .str y
 | flt y=>exact .flt y
 | lst e=>exact .lst (g _ _ e)
 | frz e=>exact .frz (g _ _ e)
 | tup e=>exact .tup (g _ _ e)
 | dK e=>exact .dK (g _ _ e)
 | dT e=>exact .dT (g _ _ e)
 | ins e cl ha hn htk hm=>exact .ins (g _ _ e) cl ha hn htk hm
noncomputable def tTys (ns:List String):TA:=fun σ H Q=>Q (ns.map V.ty) H
theorem zfW {md:Bool}{tl rl:List Nat}{ta:TE}{a:Xp}{ks:List TyK}(hk:ks.length<=100)(ha:SE W E tl rl ta (WE true a)):SE W E tl [] (tCB (rIsT W.K (ks.map tyN)) (jz ta (jz (tTup (tTys (ks.map tyN))) tNil))) (WE md (.isi a ks)):=by
 intro F H s σ A Q4 X4 Q R h q x
 simp only [WE] at h
 refine ha F H s σ A _ X4 _ R h (fun t s1 v F1 H1 A1 B p ⟨b,e1,h1⟩=>?_) x
 obtain⟨ty,g1,f,g2,g3⟩:=zaX p.rep.fh p.tr e1
 refine⟨by rw [List.length_map,List.length_map];show _<=16777216;omega,fun r hr=>?_⟩
 have al:Al F1 H1 F1 (upd H1 r (.tup ((ks.map tyN).map V.ty))) [r]:=Al.cell p.rep.fh hr
 refine⟨v,r,ty,b,rfl,zF,TyOf.mono (fun c o z=>by rw [zA (fun y=>by subst y;rw [hr] at z;cases z)];exact z) g1,by rw [V9 g2,g3],?_⟩
 exact q _ s1 _ F1 _ A1 [] (EPo.al (p.mv.trans' al.mv) (al.rep p.rep) (Al.refl (al.rep p.rep).fh) vR) h1
theorem zbu {X:Cx}{N:List Str}{sc:Scope}{cm:Bool}(C:Ctx W mg X N sc cm E Γ):∀ {ks:List TyK} {es:List Expr},WH sc ks es=true->(∀ k∈ks,Γ.B (tyN k))->PA X es (tTys (ks.map tyN))
 | [],es,h,_=>by
  simp only [WH,List.isEmpty_iff] at h
  subst h
  exact vY
 | k::ks,es,h,hb=>by
  simp only [WH] at h
  split at h
  ·rename_i e es
   rw [Bool.and_eq_true] at h
   obtain⟨p,rfl,hg⟩:=jZ h.1
   exact jL (zeh C hg (hb k List.mem_cons_self)) (zbu C h.2 fun k' hk=>hb k' (List.mem_cons_of_mem _ hk)) rfl
  ·cases h
end L4
set_option maxHeartbeats 2000000
namespace L4
open PySem L2 PySem.Spec PyProof.Rows
variable {W:Wd} {Γ:Env4}
theorem zfX {E:XS}{md:Bool}{tl rl:List Nat}{ta:TE}{a:Xp}{k:TyK}(ha:SE W E tl rl ta (WE true a)):SE W E tl [] (tCB (rIsA W.K (tyN k)) (jz ta (jz (tC (.ty (tyN k))) tNil))) (WE md (.isi a [k])):=by
 intro F H s σ A Q4 X4 Q R h q x
 simp only [WE] at h
 refine ha F H s σ A _ X4 _ R h (fun t s1 v F1 H1 A1 B p ⟨b,e1,h1⟩=>?_) x
 obtain⟨ty,g1,f,g2,g3⟩:=zaX p.rep.fh p.tr e1
 have g3:f k=b:=by simpa using g3
 exact⟨v,ty,b,rfl,g1,by rw [g2,g3],q _ s1 _ F1 H1 A1 [] (EPo.al p.mv p.rep (Al.refl p.rep.fh) vR) h1⟩
noncomputable abbrev tst (c:Xp):Sl->(Bool->Sl->Prop)->XP->Prop:=fun s K X=>WE true c s (fun x s1=>∃ z,blO x=some z/\K z s1) X
theorem zhb {E:XS}{tl rl:List Nat}{ta:TE}{a:Xp}(ha:SE W E tl rl ta (WE true a)):ST W E tl (zd4 W.K ta) (tst (.t a)):=by
 intro F H s σ A Q4 X4 Q R h q x
 simp only [tst,WE] at h
 exact ha F H s σ A _ X4 _ R h (fun t s1 v F1 H1 A1 B p ⟨b,e1,z,e2,h1⟩=>by cases e2;exact⟨b,zfw p.rep.fh p.tr e1,q b s1 F1 H1 A1 ⟨p.rep,p.mv⟩ h1⟩) x
theorem zhc {E:XS}{tl:List Nat}{ta:TT}{a:Xp}(ha:ST W E tl ta (tst a)):ST W E tl (tNot ta) (tst (.tn a)):=by
 intro F H s σ A Q4 X4 Q R h q x
 simp only [tst,WE] at h
 refine ha F H s σ A (fun b s1=>∃ z,blO (.bl (!b))=some z/\Q4 z s1) X4 _ R h (fun b s1 F1 H1 A1 p ⟨z,e,h1⟩=>?_) x
 cases e
 exact q (!b) s1 F1 H1 A1 p h1
theorem zhd {E:XS}{tl:List Nat}{ta:TT}{k:Bool}{es:List Xp}(ha:ST W E tl ta (WTb k es)):ST W E tl ta (tst (.tb k es)):=by
 intro F H s σ A Q4 X4 Q R h q x
 simp only [tst,WE] at h
 refine ha F H s σ A (fun b s1=>∃ z,blO (.bl b)=some z/\Q4 z s1) X4 _ R h (fun b s1 F1 H1 A1 p ⟨z,e,h1⟩=>?_) x
 cases e
 exact q b s1 F1 H1 A1 p h1
theorem Yb {E:XS}{k:Bool}{tl:List Nat}{ta:TT}{e:Xp}(he:ST W E tl ta (tst e)):ST W E tl ta (WTb k [e]):=by
 intro F H s σ A Q4 X4 Q R h q x
 rw [WTb] at h
 refine he F H s σ A (fun b s1=>if b=k then WTb k [] s1 Q4 X4 else Q4 b s1) X4 _ R h (fun b s1 F1 H1 A1 p h1=>?_) x
 split at h1
 ·rename_i e
  subst e
  rw [WTb] at h1
  exact q b s1 F1 H1 A1 p h1
 ·exact q b s1 F1 H1 A1 p h1
def OkE (W:Wd)(mg:Str->Option Value)(N:List Str)(sc:Scope)(cm:Bool)(E:XS)(Γ:Env4)(c:Xp)(e:Expr):Prop:=∃ t,(∀ X,Ctx W mg X N sc cm E Γ->PE X e t)/\∀ md,SE W E (zB c) (if md=true then root c else []) t (WE md c)
def OkP (W:Wd)(mg:Str->Option Value)(N:List Str)(sc:Scope)(cm:Bool)(E:XS)(Γ:Env4)(c:Xp)(e:Expr):Prop:=∃ t,(∀ X,Ctx W mg X N sc cm E Γ->PE X e t)/\SP W E (zB c) (root c) t (WP c)
def OkT (W:Wd)(mg:Str->Option Value)(N:List Str)(sc:Scope)(cm:Bool)(E:XS)(Γ:Env4)(c:Xp)(e:Expr):Prop:=∃ t,(∀ X,Ctx W mg X N sc cm E Γ->PT X e t)/\ST W E (zB c) t (tst c)
def OkA (W:Wd)(mg:Str->Option Value)(N:List Str)(sc:Scope)(cm:Bool)(E:XS)(Γ:Env4)(cs:List Xp)(es:List Expr):Prop:=∃ t,(∀ X,Ctx W mg X N sc cm E Γ->PA X es t)/\SA W E (zz cs) [] t (WEs false cs)/\(djL cs=true->SA W E (zz cs) (roots cs) t (WEs true cs))/\(es=[]->t=tNil)
def OkM (W:Wd)(mg:Str->Option Value)(N:List Str)(sc:Scope)(cm:Bool)(E:XS)(Γ:Env4)(ln:Bool)(ms:List Md)(cs:List Xp)(es:List Expr):Prop:=∃ t tl rl,(∀ X,Ctx W mg X N sc cm E Γ->PA X es t)/\SM W E tl rl (plM ms cs) ms t (WA ln none ms cs)/\(∀ j∈tl,j∈qN ms cs)/\(ln=false->rl=[])/\(es=[]->t=tNil)
section
variable {mg:Str->Option Value} {N:List Str} {sc:Scope} {cm:Bool} {E:XS}
theorem ifn {md:Bool}:(if md=true then([]:List Nat) else [])=[]:=by cases md<;>rfl
theorem mkE {c:Xp}{e:Expr}{t:TE}(hr:root c=[])(h1:∀ X,Ctx W mg X N sc cm E Γ->PE X e t)(h2:∀ md,SE W E (zB c) [] t (WE md c)):OkE W mg N sc cm E Γ c e:=⟨t,h1,fun md=>by rw [hr,ifn];exact h2 md⟩
theorem SE.nil {tl rl:List Nat}{t:TE}{m:Sl->QP->XP->Prop}(h:SE W E tl rl t m)(e:rl=[]):SE W E tl [] t m:=by subst e;exact h
end
theorem Jv:∀ {ms:List Md} {cs:List Xp},∀ j∈plM ms cs,j∈qN ms cs
 | .mu::ms,c::cs,j,h=>by
  simp only [plM,qN] at h ⊢
  rcases List.mem_append.mp h with z | z
  ·exact zc j z
  ·exact zd j (zd j (Jv j z))
 | .fz::ms,c::cs,j,h=>by simp only [plM,qN] at h ⊢;exact zd j (Jv j h)
 | .mv::ms,c::cs,j,h=>by simp only [plM,qN] at h ⊢;exact zd j (Jv j h)
 | [],_,j,h=>by simp [plM] at h
 | .mu::_,[],j,h=>by simp [plM] at h
 | .fz::_,[],j,h=>by simp [plM] at h
 | .mv::_,[],j,h=>by simp [plM] at h
mutual
theorem zu {mg:Str->Option Value}(G:GOk W mg Γ)(c:Xp)(e:Expr){N:List Str}{sc:Scope}{cm:Bool}{E:XS}(hh:chkE N sc cm c e=true)(nn:Need Γ c):OkE W mg N sc cm E Γ c e:=by
 match c,hh,nn with
 | .b i,h,_=>
  simp only [chkE] at h
  exact⟨_,fun X C=>C.var h,fun md=>se_b⟩
 | .a j i,h,_=>
  simp only [chkE] at h
  exact⟨_,fun X C=>C.var h,fun md=>se_a⟩
 | .v i,h,_=>
  simp only [chkE] at h
  exact mkE rfl (fun X C=>C.var h) fun md=>se_v
 | .m i,h,_=>
  simp only [chkE] at h
  exact mkE rfl (fun X C=>C.var h) fun md=>se_m
 | .c t,h,_=>
  simp only [chkE] at h
  obtain⟨k,h1,h2⟩:=zi h
  have:=zc3 h1
  subst this
  obtain⟨v,k1,k2⟩:=zfU (W:=W) (j:=k.2.1) (pos:=k.2.2) h2
  exact mkE rfl (fun X C=>k1 X) fun md=>za0 k2 fun s Q X z=>by simpa only [WE] using z
 | .g x t,h,n=>
  simp only [chkE] at h
  simp only [Need] at n
  obtain⟨p,rfl,hg⟩:=jZ h
  obtain⟨v,k1,u,k2,k3⟩:=G.g x t n
  refine mkE rfl (fun X C=>?_) fun md=>za0 k1 fun s Q X z=>by simpa only [WE] using z
  obtain⟨g1,g2⟩:=C.gl hg
  obtain⟨d1,d2⟩:=kL g2
  exact zgI (by rw [C.hmg];exact⟨u,k2,k3⟩) g1 d1
 | .frz a,h,n=>
  simp only [chkE] at h
  simp only [Need] at n
  obtain⟨t,p1,p2⟩:=zu (E:=E) G a e h n
  exact mkE rfl p1 fun md=>zfy (p2 false)
 | .bin op a b,h,n=>
  simp only [chkE] at h
  simp only [Need] at n
  obtain⟨p,h1,h2⟩:=zi h
  obtain⟨pos,rfl⟩:=zc4 h1
  simp only [Bool.and_eq_true,decide_eq_true_eq] at h2
  obtain⟨⟨⟨ho,hd⟩,ha⟩,hb⟩:=h2
  obtain⟨ta,a1,a2⟩:=zu (E:=E) G a _ ha n.1
  obtain⟨tb,b1,b2⟩:=zu (E:=E) G b _ hb n.2
  exact mkE rfl (fun X C=>by rw [ho];exact zgv (zfp op) (a1 X C) (b1 X C)) fun md=>zfA (a2 true) (b2 true) (qQ hd)
 | .neg a,h,n=>
  simp only [chkE] at h
  simp only [Need] at n
  obtain⟨p,h1,h2⟩:=zi h
  obtain⟨pos,rfl⟩:=zbo h1
  simp only [Bool.and_eq_true,decide_eq_true_eq] at h2
  obtain⟨ta,a1,a2⟩:=zu (E:=E) G a _ h2.2 n
  exact mkE rfl (fun X C=>by rw [h2.1];exact zgw ze3 (a1 X C)) fun md=>zfB (a2 true)
 | .cmp op a b,h,n=>
  simp only [chkE] at h
  simp only [Need] at n
  obtain⟨p,h1,h2⟩:=zi h
  obtain⟨pos,rfl⟩:=k8 h1
  simp only [Bool.and_eq_true,decide_eq_true_eq] at h2
  obtain⟨ho,h2⟩:=h2
  obtain⟨eb,h3,h4⟩:=zi h2
  simp only [Bool.and_eq_true,Bool.not_eq_true'] at h4
  obtain⟨⟨⟨hm,hd⟩,ha⟩,hb⟩:=h4
  obtain⟨ta,a1,a2⟩:=zu (E:=E) G a _ ha n.1
  obtain⟨tb,b1,b2⟩:=zu (E:=E) G b _ hb n.2
  exact mkE rfl (fun X C=>by rw [ho,Jt h3];exact zcf (yV C.hK C.hu op) (a1 X C) (b1 X C) hm) fun md=>za1 (a2 true) (b2 true) (qQ hd)
 | .chn o1 o2 a b c,h,n=>
  simp only [chkE] at h
  simp only [Need] at n
  obtain⟨p,h1,h2⟩:=zi h
  obtain⟨pos,rfl⟩:=k8 h1
  simp only [Bool.and_eq_true,decide_eq_true_eq] at h2
  obtain⟨ho,h2⟩:=h2
  obtain⟨q,h3,h4⟩:=zi h2
  simp only [Bool.and_eq_true,Bool.not_eq_true'] at h4
  obtain⟨⟨⟨hm,ha⟩,hb⟩,hc⟩:=h4
  obtain⟨ta,a1,a2⟩:=zu (E:=E) G a _ ha n.1
  obtain⟨tb,b1,b2⟩:=zu (E:=E) G b _ hb n.2.1
  obtain⟨tc,c1,c2⟩:=zu (E:=E) G c _ hc n.2.2
  exact mkE rfl (fun X C=>by rw [ho,Ju h3];exact KI (yV C.hK C.hu o1) (yV C.hK C.hu o2) (a1 X C) (b1 X C) (c1 X C) hm) fun md=>za2 (a2 true) (b2 true) (c2 true)
 | .bo k es,h,n=>
  simp only [chkE] at h
  simp only [Need] at n
  obtain⟨p,h1,h2⟩:=zi h
  obtain⟨pos,rfl⟩:=zbp h1
  simp only [Bool.and_eq_true,decide_eq_true_eq,Bool.not_eq_true'] at h2
  obtain⟨⟨ho,he⟩,hs⟩:=h2
  obtain⟨t,p1,p2⟩:=Yd (E:=E) G k es p.2 pos hs n he
  exact mkE rfl (fun X C=>by rw [ho];exact p1 X C) fun md F H s σ A Q4 X4 Q R z=>p2 F H s σ A Q4 X4 Q R (by simpa only [WE] using z)
 | .t _,h,_=>simp only [chkE,Bool.false_eq_true] at h
 | .tn _,h,_=>simp only [chkE,Bool.false_eq_true] at h
 | .tb _ _,h,_=>simp only [chkE,Bool.false_eq_true] at h
 | .ife t a b,h,n=>
  simp only [chkE] at h
  simp only [Need] at n
  obtain⟨p,h1,h2⟩:=zi h
  obtain⟨pos,rfl⟩:=zfT h1
  simp only [Bool.and_eq_true] at h2
  obtain⟨⟨ht,ha⟩,hb⟩:=h2
  obtain⟨tt,t1,t2⟩:=ZQ (E:=E) G t _ ht n.1
  obtain⟨ta,a1,a2⟩:=zu (E:=E) G a _ ha n.2.1
  obtain⟨tb,b1,b2⟩:=zu (E:=E) G b _ hb n.2.2
  refine⟨_,fun X C=>Kz (t1 X C) (a1 X C) (b1 X C),fun md=>?_⟩
  have:=zfC (md:=md) t2 (a2 md) (b2 md)
  cases md
  ·exact this
  ·exact this
 | .lst es,h,n=>
  simp only [chkE] at h
  simp only [Need] at n
  obtain⟨p,h1,h2⟩:=zi h
  obtain⟨pos,rfl⟩:=zc5 h1
  simp only [Bool.and_eq_true] at h2
  obtain⟨t,p1,p2,_⟩:=vH (E:=E) G es p h2.2 n h2.1
  exact mkE rfl (fun X C=>ze6 (p1 X C)) fun md=>zfD p2
 | .tup es,h,n=>
  simp only [chkE] at h
  simp only [Need] at n
  obtain⟨p,h1,h2⟩:=zi h
  obtain⟨k,pos,rfl⟩:=yB h1
  simp only [Bool.and_eq_true] at h2
  obtain⟨t,p1,p2,_⟩:=vH (E:=E) G es p h2.2 n h2.1
  exact mkE rfl (fun X C=>KP (p1 X C)) fun md=>zfE p2
 | .ix a k,h,n=>
  simp only [chkE] at h
  simp only [Need] at n
  obtain⟨p,h1,h2⟩:=zi h
  obtain⟨pos,rfl⟩:=k9 h1
  simp only [Bool.and_eq_true] at h2
  obtain⟨⟨⟨hp,hd⟩,ha⟩,hb⟩:=h2
  obtain⟨ta,a1,a2⟩:=zu (E:=E) G a _ ha n.1
  obtain⟨tb,b1,b2⟩:=zu (E:=E) G k _ hb n.2
  exact⟨_,fun X C=>zdH (zaO C.hK C.hu) (a1 X C) (b1 X C) (WG hp),fun md=>zgX (a2 true) (b2 true) (qQ hd)⟩
 | .sl a lo hi,h,n=>
  simp only [chkE] at h
  simp only [Need] at n
  obtain⟨p,h1,h2⟩:=zi h
  obtain⟨pos,rfl⟩:=k9 h1
  obtain⟨q,h3,h4⟩:=zi h2
  obtain⟨pos2,hq⟩:=zc6 h3
  simp only [Bool.and_eq_true,Option.isNone_iff_eq_none] at h4
  obtain⟨⟨⟨⟨hz,hd⟩,ha⟩,hl⟩,hh⟩:=h4
  obtain⟨ta,a1,a2⟩:=zu (E:=E) G a _ ha n.1
  obtain⟨tl,l1,l2⟩:=zbw (E:=E) G lo _ hl n.2.1
  obtain⟨th,u1,u2⟩:=zbw (E:=E) G hi _ hh n.2.2
  exact mkE rfl (fun X C=>by rw [hq,hz];exact KU (zfq C.hK) (a1 X C) (l1 X C) (u1 X C)) fun md=>zgY (a2 true) l2 u2 (qQ hd)
 | .call x ms ln f es,h,n=>
  simp only [chkE] at h
  simp only [Need] at n
  obtain⟨p,h1,h2⟩:=zi h
  have hp:=wJ h1
  subst hp
  simp only [Bool.and_eq_true,List.isEmpty_iff] at h2
  obtain⟨⟨⟨⟨hg,hk⟩,hs⟩,hm⟩,ha⟩:=h2
  obtain⟨np,hx,hg⟩:=jZ hg
  obtain⟨t,tl,rl,p1,p2,p3,p4,p5⟩:=zbv (E:=E) G ln ms es p.2.1 ha n.2 hs
  have pe:∀ X,Ctx W mg X N sc cm E Γ->PE X (.Call p.1 p.2.1 p.2.2.1 p.2.2.2) (xH (SpM W ms f) E t):=fun X C=>by
   obtain⟨g1,g2⟩:=C.gl hg
   rw [hx,hk]
   exact C.call x ms f n.1 p.2.1 t np p.2.2.2 (p1 X C) hs g1 g2 p5
  cases ln with
  | false=>
   rw [if_neg (by decide),decide_eq_true_eq] at hm
   rw [p4 rfl] at p2
   refine mkE rfl pe fun md=>?_
   have:=(za7 (f:=f) p2 hm).mono (tl':=qN ms es) fun j z=>by
    rcases List.mem_append.mp z with z | z
    ·exact Jv j z
    ·exact p3 j z
   exact fun F H s σ A Q4 X4 Q R z=>this F H s σ A Q4 X4 Q R (by simpa only [WE] using z)
  | true=>
   rw [if_pos rfl] at hm
   refine mkE rfl pe fun md=>?_
   have:=(zba (f:=f) p2 hm).mono (tl':=qN ms es) p3
   exact fun F H s σ A Q4 X4 Q R z=>this F H s σ A Q4 X4 Q R (by simpa only [WE] using z)
 | .bi b es,h,n=>
  simp only [chkE] at h
  simp only [Need] at n
  obtain⟨p,h1,h2⟩:=zi h
  have hp:=wJ h1
  subst hp
  simp only [Bool.and_eq_true,List.isEmpty_iff,Bool.not_eq_true'] at h2
  obtain⟨⟨⟨⟨⟨⟨hg,hk⟩,hs⟩,hc⟩,he⟩,hd⟩,ha⟩:=h2
  obtain⟨np,hx,hg⟩:=jZ hg
  obtain⟨t,p1,_,p2,_⟩:=vH (E:=E) G es p.2.1 ha n.2 hs
  subst hc
  refine mkE rfl (fun X C=>?_) fun md=>zgZ (p2 hd)
  obtain⟨g1,g2⟩:=C.gl hg
  rw [hx,hk]
  have pp:=p1 X C
  revert pp hs
  cases hes:p.2.1 with
  | nil=>
   rw [hes] at ha
   cases es with
   | nil=>cases he
   | cons _ _=>simp [qL] at ha
  | cons e0 es0=>
   intro hs pp
   exact zgS b C.hK C.hc g1 (C.blt _ n.1) pp (zo (ql hs).1) (ja (ql hs).2)
 | .isi a ks,h,n=>
  simp only [chkE] at h
  simp only [Need] at n
  obtain⟨p,h1,h2⟩:=zi h
  have hp:=wJ h1
  subst hp
  simp only [Bool.and_eq_true,List.isEmpty_iff] at h2
  obtain⟨⟨hg,hk⟩,h2⟩:=h2
  obtain⟨q,h3,h4⟩:=zi h2
  simp only [Bool.and_eq_true,Bool.not_eq_true'] at h4
  obtain⟨⟨hst,ha⟩,h5⟩:=h4
  obtain⟨np,hx,hg⟩:=jZ hg
  obtain⟨ta,a1,a2⟩:=zu (E:=E) G a _ ha n.2.1
  rw [Bool.or_eq_true] at h5
  rcases h5 with h5 | h5
  ·obtain⟨k,h6,h7⟩:=zi h5
   have:=Jt h6
   subst this
   obtain⟨np2,hx2,hg2⟩:=jZ h7
   refine mkE rfl (fun X C=>?_) fun md=>zfX (a2 true)
   obtain⟨g1,g2⟩:=C.gl hg
   rw [hx,hk,Ju h3,hx2]
   have ty:=zeh (pos:=np2) C hg2 (n.2.2 k (List.mem_singleton.mpr rfl))
   have hq2:star (.Name (tyN k) np2)=false:=rfl
   exact wB (Y1 C.hK) g1 (C.blt _ n.1) vP (jL (a1 X C) (jL ty vY (zo hq2)) (zo hst)) (by decide) (by decide) (zo hst) rfl
  ·rw [Bool.and_eq_true,decide_eq_true_eq] at h5
   obtain⟨hl,h5⟩:=h5
   obtain⟨es,h6,h7⟩:=zi h5
   obtain⟨kk,pt,hx2⟩:=yB h6
   refine mkE rfl (fun X C=>?_) fun md=>zfW hl (a2 true)
   obtain⟨g1,g2⟩:=C.gl hg
   rw [hx,hk,Ju h3,hx2]
   have hq2:star (.Tuple es kk pt)=false:=rfl
   exact wB (zbt C.hK) g1 (C.blt _ n.1) vP (jL (a1 X C) (jL (KP (zbu C h7 n.2.2)) vY (zo hq2)) (zo hst)) (by decide) (by decide) (zo hst) rfl
 | .me m o es,h,n=>
  simp only [chkE] at h
  simp only [Need] at n
  obtain⟨p,h1,h2⟩:=zi h
  have hp:=wJ h1
  subst hp
  obtain⟨q,h3,h4⟩:=zi h2
  have hq:=V7 h3
  simp only [Bool.and_eq_true,List.isEmpty_iff,Bool.not_eq_true',decide_eq_true_eq] at h4
  obtain⟨⟨⟨⟨⟨⟨⟨⟨⟨⟨hn,hb⟩,hl⟩,hk⟩,hs⟩,h30⟩,hm⟩,he⟩,hd⟩,ho⟩,ha⟩:=h4
  obtain⟨to,o1,o2⟩:=zu (E:=E) G o _ ho n.1
  obtain⟨t,p1,_,p2,_⟩:=vH (E:=E) G es p.2.1 ha n.2 hs
  refine mkE rfl (fun X C=>?_) fun md=>zg0 hm (o2 true) (p2 hd)
  rw [hq,hk,hn]
  have pp:=p1 X C
  revert pp hs h30
  cases hes:p.2.1 with
  | nil=>
   rw [hes] at ha
   cases es with
   | nil=>cases he
   | cons _ _=>simp [qL] at ha
  | cons e0 es0=>
   intro h30 hs pp
   exact zg9 m hm C.hK (o1 X C) pp hb hl hs h30
 | .mu m o es,h,n=>
  simp only [chkE] at h
  simp only [Need] at n
  obtain⟨p,h1,h2⟩:=zi h
  have hp:=wJ h1
  subst hp
  obtain⟨q,h3,h4⟩:=zi h2
  have hq:=V7 h3
  simp only [Bool.and_eq_true,List.isEmpty_iff,decide_eq_true_eq] at h4
  obtain⟨⟨⟨⟨⟨⟨⟨⟨⟨hn,hb⟩,hl⟩,hk⟩,hs⟩,har⟩,hm⟩,hd⟩,ho⟩,ha⟩:=h4
  obtain⟨to,o1,o2⟩:=ZP (E:=E) G o _ ho n.1
  obtain⟨t,p1,p2,_,p4⟩:=vH (E:=E) G es p.2.1 ha n.2 hs
  exact mkE rfl (fun X C=>by rw [hq,hk,hn];exact zha m hm C.hK (o1 X C) (p1 X C) hb hl hs har p4) fun md=>zg2 o2 p2 (qQ hd)
 | .lc elt m k its ifs,h,n=>
  simp only [chkE] at h
  simp only [Need] at n
  obtain⟨p,h1,h2⟩:=zi h
  obtain⟨pos,rfl⟩:=zbq h1
  obtain⟨g,h3,h4⟩:=zi h2
  have hg:=zbr h3
  simp only [Bool.and_eq_true,decide_eq_true_eq] at h4
  obtain⟨⟨⟨⟨⟨hc,hset⟩,hle⟩,hi⟩,hd⟩,h5⟩:=h4
  subst hc
  obtain⟨wi,rl,i1,i2,i3⟩:=XU (E:=E) G k its g.2.1 g.1 hi n.2.2.1 n.2.1
  have dj:∀ j∈rl,j∉outT m (zB elt++zz ifs):=fun j hj=>qQ hd j (i3 j hj)
  obtain⟨q,e1,e2⟩:=zi h5
  simp only [Bool.and_eq_true,decide_eq_true_eq] at e2
  obtain⟨⟨⟨⟨hn,htu⟩,hl⟩,he⟩,ht⟩:=e2
  obtain⟨te,q1,q2⟩:=zu (E:=fun _ _ _ _=>False) G elt p.1 he n.1
  obtain⟨tt,t1,t2⟩:=WI (E:=fun _ _ _ _=>False) G ifs g.2.2 ht n.2.2.2 hle
  subst hn
  refine mkE rfl (fun X C=>?_) fun md=>zee i2 t2 (q2 false) rfl (V2 htu) dj
  obtain⟨L,bl⟩:=C.blkG hl
  rw [hg]
  exact zbj L (i1 X C) (fun cl Ca s3 H3 fp=>t1 _ (bl cl Ca s3 H3 fp)) (fun cl Ca s3 H3 fp=>q1 _ (bl cl Ca s3 H3 fp)) (C.tgt L e1) (XO htu) (yY hset)
theorem ZP {mg:Str->Option Value}(G:GOk W mg Γ)(c:Xp)(e:Expr){N:List Str}{sc:Scope}{cm:Bool}{E:XS}(hh:chkP N sc cm c e=true)(nn:Need Γ c):OkP W mg N sc cm E Γ c e:=by
 match c,hh,nn with
 | .b i,h,_=>
  simp only [chkP] at h
  exact⟨_,fun X C=>C.var h,sp_b⟩
 | .a j i,h,_=>
  simp only [chkP] at h
  exact⟨_,fun X C=>C.var h,sp_a⟩
 | .ix a k,h,n=>
  simp only [chkP] at h
  simp only [Need] at n
  obtain⟨p,h1,h2⟩:=zi h
  obtain⟨pos,rfl⟩:=k9 h1
  simp only [Bool.and_eq_true] at h2
  obtain⟨⟨⟨hp,hd⟩,ha⟩,hb⟩:=h2
  obtain⟨ta,a1,a2⟩:=ZP (E:=E) G a _ ha n.1
  obtain⟨tb,b1,b2⟩:=zu (E:=E) G k _ hb n.2
  exact⟨_,fun X C=>zdH (zaO C.hK C.hu) (a1 X C) (b1 X C) (WG hp),zg1 a2 (b2 true) (qQ hd)⟩
 | .v _,h,_=>simp [chkP] at h
 | .m _,h,_=>simp [chkP] at h
 | .c _,h,_=>simp [chkP] at h
 | .g _ _,h,_=>simp [chkP] at h
 | .frz _,h,_=>simp [chkP] at h
 | .bin _ _ _,h,_=>simp [chkP] at h
 | .neg _,h,_=>simp [chkP] at h
 | .cmp _ _ _,h,_=>simp [chkP] at h
 | .chn _ _ _ _ _,h,_=>simp [chkP] at h
 | .bo _ _,h,_=>simp [chkP] at h
 | .t _,h,_=>simp [chkP] at h
 | .tn _,h,_=>simp [chkP] at h
 | .tb _ _,h,_=>simp [chkP] at h
 | .ife _ _ _,h,_=>simp [chkP] at h
 | .lst _,h,_=>simp [chkP] at h
 | .tup _,h,_=>simp [chkP] at h
 | .sl _ _ _,h,_=>simp [chkP] at h
 | .call _ _ _ _ _,h,_=>simp [chkP] at h
 | .bi _ _,h,_=>simp [chkP] at h
 | .isi _ _,h,_=>simp [chkP] at h
 | .me _ _ _,h,_=>simp [chkP] at h
 | .mu _ _ _,h,_=>simp [chkP] at h
 | .lc _ _ _ _ _,h,_=>simp [chkP] at h
theorem vH {mg:Str->Option Value}(G:GOk W mg Γ)(cs:List Xp)(es:List Expr){N:List Str}{sc:Scope}{cm:Bool}{E:XS}(hh:qL N sc cm cs es=true)(nn:zX Γ cs)(hs:noSt es=true):OkA W mg N sc cm E Γ cs es:=by
 match cs,hh,nn with
 | [],h,_=>
  simp only [qL,List.isEmpty_iff] at h
  subst h
  exact⟨_,fun X C=>vY,XN,fun _=>XN,fun _=>rfl⟩
 | c::cs,h,n=>
  simp only [zX] at n
  cases es with
  | nil=>simp [qL] at h
  | cons e es=>
   simp only [qL,Bool.and_eq_true] at h
   obtain⟨s1,s2⟩:=ql hs
   obtain⟨t,p1,p2⟩:=zu (E:=E) G c e h.1 n.1
   obtain⟨ts,q1,q2,q3,_⟩:=vH (E:=E) G cs es h.2 n.2 s2
   refine⟨_,fun X C=>jL (p1 X C) (q1 X C) (zo s1),k6 (p2 false) q2 (fun _ z=>by cases z),fun hd=>?_,fun z=>by cases z⟩
   simp only [djL,Bool.and_eq_true] at hd
   exact k6 (p2 true) (q3 hd.2) (qQ hd.1)
theorem zbv {mg:Str->Option Value}(G:GOk W mg Γ)(ln:Bool)(ms:List Md)(cs:List Xp)(es:List Expr){N:List Str}{sc:Scope}{cm:Bool}{E:XS}(hh:chkA N sc cm ln ms cs es=true)(nn:zX Γ cs)(hs:noSt es=true):OkM W mg N sc cm E Γ ln ms cs es:=by
 match cs,hh,nn with
 | [],h,_=>
  simp only [chkA,Bool.and_eq_true,List.isEmpty_iff] at h
  obtain⟨rfl,rfl⟩:=h
  exact⟨_,[],[],fun X C=>vY,zfG,(fun _ z=>by cases z),fun _=>rfl,fun _=>rfl⟩
 | c::cs,h,n=>
  simp only [zX] at n
  cases ms with
  | nil=>simp [chkA] at h
  | cons m ms=>
   cases es with
   | nil=>simp [chkA] at h
   | cons e es=>
    simp only [chkA,List.head?_cons,Option.any_some,List.tail_cons,Bool.and_eq_true] at h
    obtain⟨h1,h2⟩:=h
    obtain⟨s1,s2⟩:=ql hs
    obtain⟨t,tl,rl,q1,q2,q3,q4,_⟩:=zbv (E:=E) G ln ms cs es h2 n.2 s2
    cases m with
    | mu=>
     rw [if_pos rfl] at h1
     simp only [Bool.and_eq_true,decide_eq_true_eq] at h1
     obtain⟨hc,hd⟩:=h1
     obtain⟨tp,p1,p2⟩:=ZP (E:=E) G c e hc n.1
     refine⟨_,_,rl,fun X C=>zbs (p1 X C) (q1 X C) (zo s1),zg5 p2 q2 (fun j hj z=>qQ hd j hj (q3 j z)),fun j z=>?_,q4,fun z=>by cases z⟩
     simp only [qN]
     rcases List.mem_append.mp z with z | z
     ·exact zd j (zc j z)
     ·exact zd j (zd j (q3 j z))
    | fz=>
     rw [if_neg (by decide)] at h1
     simp only [Bool.and_eq_true,Bool.or_eq_true,Bool.not_eq_true'] at h1
     obtain⟨hc,hd⟩:=h1
     obtain⟨tp,p1,p2⟩:=zu (E:=E) G c e hc n.1
     refine⟨_,_,_,fun X C=>zbs (p1 X C) (q1 X C) (zo s1),zg3 (p2 ln) q2 (fun j hj z=>?_),fun j z=>?_,fun e=>?_,fun z=>by cases z⟩
     ·cases ln with
      | false=>rw [if_neg (by decide)] at hj;cases hj
      | true=>
       rw [if_pos rfl] at hj
       rcases hd with(hd | hd) | hd
       ·cases hd
       ·cases hd
       ·exact qQ hd j hj (q3 j z)
     ·simp only [qN]
      rcases List.mem_append.mp z with z | z
      ·exact zc j z
      ·exact zd j (q3 j z)
     ·rw [q4 e]
      subst e
      rfl
    | mv=>
     rw [if_neg (by decide)] at h1
     simp only [Bool.and_eq_true] at h1
     obtain⟨tp,p1,p2⟩:=zu (E:=E) G c e h1.1 n.1
     refine⟨_,_,rl,fun X C=>zbs (p1 X C) (q1 X C) (zo s1),zg4 (p2 false) q2,fun j z=>?_,q4,fun z=>by cases z⟩
     simp only [qN]
     rcases List.mem_append.mp z with z | z
     ·exact zc j z
     ·exact zd j (q3 j z)
theorem zbw {mg:Str->Option Value}(G:GOk W mg Γ)(cs:List Xp)(e:Option Expr){N:List Str}{sc:Scope}{cm:Bool}{E:XS}(hh:chkO N sc cm cs e=true)(nn:zX Γ cs):∃ t,(∀ X,Ctx W mg X N sc cm E Γ->PO X e t)/\SO W E (zz cs) t (WO cs):=by
 match cs,hh,nn with
 | [],h,_=>
  simp only [chkO,Option.isNone_iff_eq_none] at h
  subst h
  exact⟨_,fun X C=>zcj,zcM⟩
 | c::cs,h,n=>
  simp only [chkO,Bool.and_eq_true,List.isEmpty_iff] at h
  simp only [zX] at n
  obtain⟨rfl,h⟩:=h
  obtain⟨e',h1,h2⟩:=zi h
  subst h1
  obtain⟨t,p1,p2⟩:=zu (E:=E) G c e' h2 n.1
  refine⟨_,fun X C=>zck (p1 X C),?_⟩
  have:=zcN (p2 true)
  simpa only [zz,List.append_nil] using this
theorem ZQ {mg:Str->Option Value}(G:GOk W mg Γ)(c:Xp)(e:Expr){N:List Str}{sc:Scope}{cm:Bool}{E:XS}(hh:chkT N sc cm c e=true)(nn:Need Γ c):OkT W mg N sc cm E Γ c e:=by
 match c,hh,nn with
 | .t a,h,n=>
  simp only [chkT,Bool.and_eq_true] at h
  simp only [Need] at n
  obtain⟨ta,a1,a2⟩:=zu (E:=E) G a _ h.2 n
  exact⟨_,fun X C=>Y0 C.hK (a1 X C) (zc2 h.1),zhb (a2 true)⟩
 | .tn a,h,n=>
  simp only [chkT] at h
  simp only [Need] at n
  obtain⟨p,h1,h2⟩:=zi h
  obtain⟨pos,rfl⟩:=zbo h1
  simp only [Bool.and_eq_true,decide_eq_true_eq] at h2
  obtain⟨ta,a1,a2⟩:=ZQ (E:=E) G a _ h2.2 n
  exact⟨_,fun X C=>by rw [h2.1];exact zeR (a1 X C),zhc a2⟩
 | .tb k es,h,n=>
  simp only [chkT] at h
  simp only [Need] at n
  obtain⟨p,h1,h2⟩:=zi h
  obtain⟨pos,rfl⟩:=zbp h1
  simp only [Bool.and_eq_true,decide_eq_true_eq,Bool.not_eq_true'] at h2
  obtain⟨⟨ho,he⟩,hs⟩:=h2
  obtain⟨t,p1,p2⟩:=Yc (E:=E) G k es p.2 pos hs n he
  exact⟨t,fun X C=>by rw [ho];exact(p1 X C).pt,zhd p2⟩
 | .cmp op a b,h,n=>
  simp only [chkT] at h
  simp only [Need] at n
  obtain⟨p,h1,h2⟩:=zi h
  obtain⟨pos,rfl⟩:=k8 h1
  simp only [Bool.and_eq_true,decide_eq_true_eq] at h2
  obtain⟨ho,h2⟩:=h2
  obtain⟨eb,h3,h4⟩:=zi h2
  simp only [Bool.and_eq_true,Bool.not_eq_true'] at h4
  obtain⟨⟨⟨hm,hd⟩,ha⟩,hb⟩:=h4
  obtain⟨ta,a1,a2⟩:=zu (E:=E) G a _ ha n.1
  obtain⟨tb,b1,b2⟩:=zu (E:=E) G b _ hb n.2
  exact⟨_,fun X C=>by rw [ho,Jt h3];exact zcg (yV C.hK C.hu op) (a1 X C) (b1 X C) hm,zed (za1 (md:=true) (a2 true) (b2 true) (qQ hd)) fun s K X z=>z⟩
 | .chn o1 o2 a b c,h,n=>
  simp only [chkT] at h
  simp only [Need] at n
  obtain⟨p,h1,h2⟩:=zi h
  obtain⟨pos,rfl⟩:=k8 h1
  simp only [Bool.and_eq_true,decide_eq_true_eq] at h2
  obtain⟨ho,h2⟩:=h2
  obtain⟨q,h3,h4⟩:=zi h2
  simp only [Bool.and_eq_true,Bool.not_eq_true'] at h4
  obtain⟨⟨⟨hm,ha⟩,hb⟩,hc⟩:=h4
  obtain⟨ta,a1,a2⟩:=zu (E:=E) G a _ ha n.1
  obtain⟨tb,b1,b2⟩:=zu (E:=E) G b _ hb n.2.1
  obtain⟨tc,c1,c2⟩:=zu (E:=E) G c _ hc n.2.2
  exact⟨_,fun X C=>by rw [ho,Ju h3];exact KJ (yV C.hK C.hu o1) (yV C.hK C.hu o2) (a1 X C) (b1 X C) (c1 X C) hm,zed (za2 (md:=true) (a2 true) (b2 true) (c2 true)) fun s K X z=>z⟩
 | .b _,h,_=>simp [chkT] at h
 | .a _ _,h,_=>simp [chkT] at h
 | .v _,h,_=>simp [chkT] at h
 | .m _,h,_=>simp [chkT] at h
 | .c _,h,_=>simp [chkT] at h
 | .g _ _,h,_=>simp [chkT] at h
 | .frz _,h,_=>simp [chkT] at h
 | .bin _ _ _,h,_=>simp [chkT] at h
 | .neg _,h,_=>simp [chkT] at h
 | .bo _ _,h,_=>simp [chkT] at h
 | .ife _ _ _,h,_=>simp [chkT] at h
 | .lst _,h,_=>simp [chkT] at h
 | .tup _,h,_=>simp [chkT] at h
 | .ix _ _,h,_=>simp [chkT] at h
 | .sl _ _ _,h,_=>simp [chkT] at h
 | .call _ _ _ _ _,h,_=>simp [chkT] at h
 | .bi _ _,h,_=>simp [chkT] at h
 | .isi _ _,h,_=>simp [chkT] at h
 | .me _ _ _,h,_=>simp [chkT] at h
 | .mu _ _ _,h,_=>simp [chkT] at h
 | .lc _ _ _ _ _,h,_=>simp [chkT] at h
theorem Yc {mg:Str->Option Value}(G:GOk W mg Γ)(k:Bool)(cs:List Xp)(es:List Expr)(pos:Pos){N:List Str}{sc:Scope}{cm:Bool}{E:XS}(hh:wK N sc cm cs es=true)(nn:zX Γ cs)(h1:cs.isEmpty=false):∃ t,(∀ X,Ctx W mg X N sc cm E Γ->PW X (.BoolOp (if k then .And else .Or) es pos) t)/\ST W E (zz cs) t (WTb k cs):=by
 match cs,hh,nn,h1 with
 | [],_,_,h1=>cases h1
 | c::cs,h,n,_=>
  simp only [zX] at n
  cases es with
  | nil=>simp [wK] at h
  | cons e es=>
   simp only [wK,Bool.and_eq_true] at h
   obtain⟨k1,k2⟩:=h
   obtain⟨t,p1,p2⟩:=ZQ (E:=E) G c e k1 n.1
   cases hcs:cs.isEmpty with
   | true=>
    rw [List.isEmpty_iff] at hcs
    subst hcs
    simp only [wK,List.isEmpty_iff] at k2
    subst k2
    refine⟨t,fun X C=>?_,?_⟩
    ·cases k with
     | true=>exact zb9 (p1 X C)
     | false=>exact zeP (p1 X C)
    ·have:=Yb (k:=k) p2
     simpa only [zz,List.append_nil] using this
   | false=>
    obtain⟨u,q1,q2⟩:=Yc (E:=E) G k cs es pos k2 n.2 hcs
    cases es with
    | nil=>
     cases cs with
     | nil=>cases hcs
     | cons _ _=>simp [wK] at k2
    | cons e2 es2=>
     have st:=za4 (k:=k) p2 q2
     cases k with
     | true=>exact⟨_,fun X C=>zeQ (p1 X C) (q1 X C),st⟩
     | false=>exact⟨_,fun X C=>zgs (p1 X C) (q1 X C),st⟩
theorem WI {mg:Str->Option Value}(G:GOk W mg Γ)(cs:List Xp)(es:List Expr){N:List Str}{sc:Scope}{cm:Bool}{E:XS}(hh:wK N sc cm cs es=true)(nn:zX Γ cs)(h1:es.length<=1):∃ t,(∀ X,Ctx W mg X N sc cm E Γ->PTs X es t)/\ST W E (zz cs) t (WTb true cs):=by
 match cs,hh,nn with
 | [],h,_=>
  simp only [wK,List.isEmpty_iff] at h
  subst h
  exact⟨_,fun X C=>zco,zcP⟩
 | c::cs,h,n=>
  simp only [zX] at n
  cases es with
  | nil=>simp [wK] at h
  | cons e es=>
   simp only [wK,Bool.and_eq_true] at h
   have he:es=[]:=by cases es with
    | nil=>rfl
    | cons a b=>simp at h1
   subst he
   have hcs:cs=[]:=by cases cs with
    | nil=>rfl
    | cons a b=>simp [wK] at h
   subst hcs
   obtain⟨t,p1,p2⟩:=ZQ (E:=E) G c e h.1 n.1
   refine⟨t,fun X C=>zcp (p1 X C),?_⟩
   have:=Yb (k:=true) p2
   simpa only [zz,List.append_nil] using this
theorem Yd {mg:Str->Option Value}(G:GOk W mg Γ)(k:Bool)(cs:List Xp)(es:List Expr)(pos:Pos){N:List Str}{sc:Scope}{cm:Bool}{E:XS}(hh:qL N sc cm cs es=true)(nn:zX Γ cs)(h1:cs.isEmpty=false):∃ t,(∀ X,Ctx W mg X N sc cm E Γ->PE X (.BoolOp (if k then .And else .Or) es pos) t)/\SE W E (zz cs) [] t (WB k cs):=by
 match cs,hh,nn,h1 with
 | [],_,_,h1=>cases h1
 | c::cs,h,n,_=>
  simp only [zX] at n
  cases es with
  | nil=>simp [qL] at h
  | cons e es=>
   simp only [qL,Bool.and_eq_true] at h
   obtain⟨k1,k2⟩:=h
   obtain⟨t,p1,p2⟩:=zu (E:=E) G c e k1 n.1
   cases hcs:cs.isEmpty with
   | true=>
    rw [List.isEmpty_iff] at hcs
    subst hcs
    simp only [qL,List.isEmpty_iff] at k2
    subst k2
    refine⟨t,fun X C=>zeS (p1 X C),?_⟩
    have:=zfF (k:=k) (p2 true)
    simpa only [zz,List.append_nil] using this
   | false=>
    obtain⟨u,q1,q2⟩:=Yd (E:=E) G k cs es pos k2 n.2 hcs
    cases es with
    | nil=>
     cases cs with
     | nil=>cases hcs
     | cons _ _=>simp [qL] at k2
    | cons e2 es2=>
     cases cs with
     | nil=>cases hcs
     | cons c2 cs2=>
      have st:=zcO (k:=k) (p2 true) q2
      cases k with
      | true=>exact⟨_,fun X C=>zeT (p1 X C) (q1 X C),st⟩
      | false=>exact⟨_,fun X C=>zgt (p1 X C) (q1 X C),st⟩
theorem XU {mg:Str->Option Value}(G:GOk W mg Γ)(k:IK)(cs:List Xp)(e tg:Expr){N:List Str}{sc:Scope}{cm:Bool}{E:XS}(hh:chkI N sc cm k cs e (v8 tg)=true)(nn:zX Γ cs)(nb:k≠.seq->Γ.B (ikN k)):∃ wi rl,(∀ X,Ctx W mg X N sc cm E Γ->PI X tg e wi)/\SI W E (zz cs) rl wi (fun s Q X=>WEs true cs s (fun ts s1=>∃ ds,itT k ts=some ds/\Q ds s1) X)/\∀ j∈rl,j∈roots cs:=by
 match cs,hh,nn with
 | [],h,_=>simp [chkI] at h
 | c::cs,h,n=>
  simp only [zX] at n
  simp only [chkI] at h
  split at h
  ·rename_i hk
   subst hk
   simp only [Bool.and_eq_true,List.isEmpty_iff] at h
   obtain⟨rfl,h⟩:=h
   obtain⟨t,p1,p2⟩:=zu (E:=E) G c e h n.1
   refine⟨_,root c,fun X C=>zbb C.hK (p1 X C),?_,fun j z=>by simpa only [roots,List.append_nil] using z⟩
   have:=zfK (p2 true)
   simpa only [zz,List.append_nil,if_true] using this
  ·rename_i hk
   simp only [Bool.and_eq_true] at h
   obtain⟨htup,h⟩:=h
   obtain⟨p,h1,h2⟩:=zi h
   have hp:=wJ h1
   subst hp
   simp only [Bool.and_eq_true,List.isEmpty_iff,decide_eq_true_eq] at h2
   obtain⟨⟨⟨⟨⟨⟨hg,hkw⟩,hs⟩,hd⟩,hl⟩,hz⟩,h3⟩:=h2
   obtain⟨np,hx,hg⟩:=jZ hg
   have hB:=nb hk
   obtain⟨e1,h4,h5⟩:=zi h3
   simp only [Bool.and_eq_true] at h5
   obtain⟨h5,h6⟩:=h5
   have hes:∃ r,p.2.1=e1::r:=by
    cases hq:p.2.1 with
    | nil=>rw [hq] at h4;cases h4
    | cons a r=>rw [hq] at h4;cases h4;exact⟨r,rfl⟩
   obtain⟨r,hes⟩:=hes
   rw [hes] at h6 hs
   rw [List.tail_cons] at h6
   obtain⟨s1,s2⟩:=ql hs
   obtain⟨t,p1,p2⟩:=zu (E:=E) G c e1 h5 n.1
   simp only [djL,Bool.and_eq_true] at hd
   cases cs with
   | nil=>
    simp only [qL,List.isEmpty_iff] at h6
    subst h6
    have pa:∀ X,Ctx W mg X N sc cm E Γ->PA X [e1] (jz t tNil):=fun X C=>jL (p1 X C) vY (zo s1)
    have st1:∀ env:Env,starEach [e1] env=[(false,eval e1 env)]:=fun env=>zo s1
    have hrt:∀ j∈root c,j∈roots [c]:=fun j z=>by simpa only [roots,List.append_nil] using z
    have tch:zz [c]=zB c:=by simp only [zz,List.append_nil]
    rw [tch]
    have tupE:k=.enumL\/k=.enumS->∃ l kk pp,tg=.Tuple l kk pp:=fun ek=>by
     have:v8 tg=true:=by
      rcases ek with rfl | rfl<;>simpa using htup
     unfold v8 at this
     cases hq:eTup tg with
     | none=>rw [hq] at this;cases this
     | some l=>obtain⟨kk,pp,z⟩:=yB hq;exact⟨l,kk,pp,z⟩
    cases k with
    | seq=>exact absurd rfl hk
    | rng=>exact⟨_,_,fun X C=>by rw [hx,hkw,hes];exact YA (C.gl hg).1 (C.blt _ hB) (pa X C) (st1 _),zcU (p2 true),hrt⟩
    | enumL=>
     obtain⟨l,kk,pp,rfl⟩:=tupE (.inl rfl)
     exact⟨_,_,fun X C=>by rw [hx,hkw,hes];exact zaq C.hK (C.gl hg).1 (C.blt _ hB) (pa X C) (st1 _),Jq (.inl rfl) (p2 true),hrt⟩
    | enumS=>
     obtain⟨l,kk,pp,rfl⟩:=tupE (.inr rfl)
     exact⟨_,_,fun X C=>by rw [hx,hkw,hes];exact zao (C.gl hg).1 (C.blt _ hB) (pa X C) (st1 _),Jq (.inr (.inl rfl)) (p2 true),hrt⟩
    | zip=>simp at hz
    | rvdL=>exact⟨_,_,fun X C=>by rw [hx,hkw,hes];exact zcE C.hK (C.gl hg).1 (C.blt _ hB) (pa X C) (st1 _),Jq (.inr (.inr (.inl rfl))) (p2 true),hrt⟩
    | rvdT=>exact⟨_,_,fun X C=>by rw [hx,hkw,hes];exact zcD C.hK (C.gl hg).1 (C.blt _ hB) (pa X C) (st1 _),Jq (.inr (.inr (.inr rfl))) (p2 true),hrt⟩
   | cons c2 cs2=>
    have hc2:cs2=[]:=by cases cs2 with
     | nil=>rfl
     | cons _ _=>simp at hl
    subst hc2
    cases r with
    | nil=>simp [qL] at h6
    | cons e2 r2=>
     simp only [qL,Bool.and_eq_true,List.isEmpty_iff] at h6
     obtain⟨h6,rfl⟩:=h6
     simp only [zX] at n
     obtain⟨s3,s4⟩:=ql s2
     obtain⟨t2,q1,q2⟩:=zu (E:=E) G c2 e2 h6 n.2.1
     have pa:∀ X,Ctx W mg X N sc cm E Γ->PA X [e1,e2] (jz t (jz t2 tNil)):=fun X C=>jL (p1 X C) (jL (q1 X C) vY (zo s3)) (zo s1)
     have st2:∀ env:Env,starEach [e2] env=[(false,eval e2 env)]:=fun env=>zo s3
     have st1:∀ env:Env,starEach [e1,e2] env=[(false,eval e1 env),(false,eval e2 env)]:=fun env=>by rw [zo s1,st2]
     cases k with
     | seq=>exact absurd rfl hk
     | rng=>
      refine⟨_,[],fun X C=>by rw [hx,hkw,hes];exact YB (C.gl hg).1 (C.blt _ hB) (pa X C) (st1 _) (st2 _),?_,fun _ z=>by cases z⟩
      have:=zcV (p2 true) (q2 true)
      simpa only [zz,List.append_nil] using this
     | zip=>
      have:v8 tg=true:=by simpa using htup
      unfold v8 at this
      cases hq:eTup tg with
      | none=>rw [hq] at this;cases this
      | some l=>
       obtain⟨kk,pp,rfl⟩:=yB hq
       refine⟨_,_,fun X C=>by rw [hx,hkw,hes];exact zcA C.hK (C.gl hg).1 (C.blt _ hB) (pa X C) (st1 _) (st2 _),zfL (k6 (p2 true) (k6 (q2 true) (XN (rl:=[])) fun _ _ z=>by cases z) (qQ hd.1)),fun j z=>z⟩
     | enumL=>simp at hz
     | enumS=>simp at hz
     | rvdL=>simp at hz
     | rvdT=>simp at hz
end
end L4
namespace L4
open PySem L2 PySem.Spec PyProof.Rows
variable {W:Wd} {Γ:Env4}
noncomputable def sRet:Stmt->Option (Option Expr)
 | .Return e _=>some e
 | _=>none
noncomputable def sAsg:Stmt->Option (List Expr×Expr×Pos)
 | .Assign tg e p=>some (tg,e,p)
 | _=>none
noncomputable def sIf:Stmt->Option (Expr×List Stmt×List Stmt)
 | .If t a b _=>some (t,a,b)
 | _=>none
noncomputable def sFor:Stmt->Option (Expr×Expr×List Stmt)
 | .For t i b [] _=>some (t,i,b)
 | _=>none
noncomputable def sEx:Stmt->Option Expr
 | .Expr e _=>some e
 | _=>none
noncomputable def sKw:Stmt->Nat
 | .Pass _=>1
 | .Break _=>2
 | .Continue _=>3
 | _=>0
theorem zc7 {s:Stmt}{x:Option Expr}(h:sRet s=some x):∃ p,s=.Return x p:=by cases s<;>first | (cases h;done) | (cases h;exact⟨_,rfl⟩)
theorem zc8 {s:Stmt}{x:List Expr×Expr×Pos}(h:sAsg s=some x):s=.Assign x.1 x.2.1 x.2.2:=by cases s<;>first | (cases h;done) | (cases h;rfl)
theorem zfY {s:Stmt}{x:Expr×List Stmt×List Stmt}(h:sIf s=some x):∃ p,s=.If x.1 x.2.1 x.2.2 p:=by cases s<;>first | (cases h;done) | (cases h;exact⟨_,rfl⟩)
theorem Ye {s:Stmt}{x:Expr×Expr×List Stmt}(h:sFor s=some x):∃ p,s=.For x.1 x.2.1 x.2.2 [] p:=by
 cases s with
 | For t i b e p=>
  cases e with
  | nil=>cases h;exact⟨_,rfl⟩
  | cons _ _=>cases h
 | _=>cases h
theorem zfZ {s:Stmt}{x:Expr}(h:sEx s=some x):∃ p,s=.Expr x p:=by cases s<;>first | (cases h;done) | (cases h;exact⟨_,rfl⟩)
noncomputable def locN (N:List Str)(sc:Scope)(i:Nat)(e:Expr):Bool:=(eName e).any fun x=>decide (N[i]? = some x)&&(decide (sc.names.lookup x=some .local)||decide (sc.names.lookup x=some .cell))
noncomputable def yC (N:List Str)(sc:Scope):List Nat->List Expr->Bool
 | [],es=>es.isEmpty
 | i::is,es=>match es with
  | e::es=>locN N sc i e&&yC N sc is es
  | []=>false
noncomputable def isLc:Xp->Bool
 | .lc _ _ _ _ _=>true
 | _=>false
noncomputable def asgT:Tg->List Nat
 | .v i=>[i]
 | .tup is=>is
 | .al j=>[j]
 | _=>[]
mutual
noncomputable def asgS:Cm->List Nat
 | .asg t _=>asgT t
 | .ife _ a b=>vT a++vT b
 | .loop t _ _ b=>asgT t++vT b
 | .loopA j _ _ b=>[j]++vT b
 | _=>[]
noncomputable def vT:List Cm->List Nat
 | []=>[]
 | c::cs=>asgS c++vT cs
end
noncomputable def plainS (tg e:Expr):Bool:=Js e&&!star tg&&(noTL tg||zbn e)
noncomputable def chkG (N:List Str)(sc:Scope)(cm:Bool)(t:Tg)(e:Xp)(tg e':Expr):Bool:=
 match t with
 | .v i=>(plainS tg e'||isLc e)&&locN N sc i tg&&chkE N sc cm e e'
 | .tup is=>plainS tg e'&&cm&&(eTup tg).any (fun es=>yC N sc is es)&&chkE N sc cm e e'
 | .sub p k=>plainS tg e'&&(eSub tg).any (fun q=>yA q.2&&djs (root p) (zB k)&&chkP N sc cm p q.1&&chkE N sc cm k q.2)&&chkE N sc cm e e'
 | .al j=>plainS tg e'&&locN N sc j tg&&chkP N sc cm e e'
noncomputable def chkL (N:List Str)(sc:Scope)(cm:Bool)(t:Tg)(tg:Expr):Bool:=
 match t with
 | .v i=>locN N sc i tg
 | .tup is=>cm&&(eTup tg).any fun es=>yC N sc is es
 | _=>false
mutual
noncomputable def chkS (N:List Str)(sc:Scope)(cm:Bool):Cm->Stmt->Bool
 | .ret e,s=>(sRet s).any fun o=>o.any fun e'=>chkE N sc cm e e'
 | .asg t e,s=>(sAsg s).any fun p=>(one? p.1).any fun tg=>chkG N sc cm t e tg p.2.1
 | .ife t a b,s=>(sIf s).any fun p=>chkT N sc cm t p.1&&wL N sc cm a p.2.1&&wL N sc cm b p.2.2
 | .loop t k its b,s=>(sFor s).any fun p=>cm&&V5 p.2.1&&chkL N sc cm t p.1&&chkI N sc cm k its p.2.1 (v8 p.1)&&djs (roots its) (Jk t++wa b)&&wL N sc cm b p.2.2
 | .loopA j h i b,s=>(sFor s).any fun p=>cm&&V5 p.2.1&&locN N sc j p.1&&chkV N sc (h.getD i) p.2.1&&decide (j≠i)&&decide (j≠h.getD i)&&!(vT b).contains (h.getD i)&&wL N sc cm b p.2.2
 | .ex e,s=>(sEx s).any fun e'=>Js e'&&chkE N sc cm e e'
 | .pass,s=>sKw s == 1
noncomputable def wL (N:List Str)(sc:Scope)(cm:Bool):List Cm->List Stmt->Bool
 | [],ss=>ss.isEmpty
 | c::cs,ss=>match ss with
  | s::ss=>chkS N sc cm c s&&wL N sc cm cs ss
  | []=>false
end
noncomputable def zbx (Γ:Env4):Tg->Prop
 | .sub p k=>Need Γ p/\Need Γ k
 | _=>True
mutual
noncomputable def kM (Γ:Env4):Cm->Prop
 | .ret e=>Need Γ e
 | .asg t e=>zbx Γ t/\Need Γ e
 | .ife t a b=>Need Γ t/\wR Γ a/\wR Γ b
 | .loop t k its b=>(k≠.seq->Γ.B (ikN k))/\zX Γ its/\wR Γ b
 | .loopA _ _ _ b=>wR Γ b
 | .ex e=>Need Γ e
 | _=>True
noncomputable def wR (Γ:Env4):List Cm->Prop
 | []=>True
 | c::cs=>kM Γ c/\wR Γ cs
end
structure CtxS (W:Wd)(mg:Str->Option Value)(X:Cx)(N:List Str)(sc:Scope)(cm:Bool)(E:XS)(Γ:Env4):Prop extends Ctx W mg X N sc cm E Γ where
 po:PassesOwn (model X.prog X.w) X.A X.env X.xe
 fn:∀ x,X.fn x=true
section
variable {mg:Str->Option Value} {N:List Str} {sc:Scope} {cm:Bool} {E:XS}
theorem Za {i:Nat}{e:Expr}(h:locN N sc i e=true):∃ x p,e=.Name x p/\N[i]? = some x/\Loc sc x:=by
 obtain⟨x,h1,h2⟩:=zi h
 obtain⟨p,rfl⟩:=ZO h1
 simp only [Bool.and_eq_true,Bool.or_eq_true,decide_eq_true_eq] at h2
 exact⟨x,p,rfl,h2.1,h2.2⟩
theorem vI {i:Nat}{e:Expr}(h:locN N sc i e=true):i<N.length:=by
 obtain⟨x,p,_,h1,_⟩:=Za h
 exact(List.getElem?_eq_some_iff.mp h1).1
theorem CtxS.pgn {X:Cx}(C:CtxS W mg X N sc cm E Γ){i:Nat}{e:Expr}(h:locN N sc i e=true):PG X e (jh i):=by
 obtain⟨x,p,rfl,h1,h2⟩:=Za h
 exact Q6 (by rw [C.hN];exact C.nd) (by rw [C.hN];exact h1) (by rw [C.hs];exact h2) (.inl (C.fn x))
theorem CtxS.pgns {X:Cx}(C:CtxS W mg X N sc cm E Γ):∀ {is:List Nat} {es:List Expr},yC N sc is es=true->PGs X es (is.foldr (fun i g=>Zh (jh i) g) gNil)/\(assignEach es X.env).length=is.length/\(assignEach es X.env).findIdx? (·.1)=none
 | [],es,h=>by
  simp only [yC,List.isEmpty_iff] at h
  subst h
  exact⟨Vn,rfl,rfl⟩
 | i::is,es,h=>by
  simp only [yC] at h
  split at h
  ·rename_i e es
   rw [Bool.and_eq_true] at h
   obtain⟨h1,h2,h3⟩:=C.pgns h.2
   have hn:=C.pgn h.1
   obtain⟨x,p,rfl,_⟩:=Za h.1
   have ac:(assignEach (.Name x p::es) X.env)=(false,assign (.Name x p) X.env)::assignEach es X.env:=rfl
   exact⟨J5 hn h1 rfl,by rw [ac,List.length_cons,List.length_cons,h2],by rw [ac,List.findIdx?_cons,h3];rfl⟩
  ·cases h
theorem WJ:∀ {is:List Nat} {es:List Expr},yC N sc is es=true->∀ i∈is,i<N.length
 | [],_,_,_,h=>by cases h
 | i::is,es,h,j,hj=>by
  simp only [yC] at h
  split at h
  ·rw [Bool.and_eq_true] at h
   rcases List.mem_cons.mp hj with rfl | hj
   ·exact vI h.1
   ·exact WJ h.2 j hj
  ·cases h
theorem zby {tg:Expr}{is:List Nat}(h:(cm&&(eTup tg).any fun es=>yC N sc is es)=true):(∀ X,CtxS W mg X N sc cm E Γ->PG X tg (gTup W.K is.length (is.foldr (fun i g=>Zh (jh i) g) gNil)))/\∀ i∈is,i<N.length:=by
 rw [Bool.and_eq_true] at h
 obtain⟨hc,h⟩:=h
 subst hc
 obtain⟨es,h1,h2⟩:=zi h
 obtain⟨k,p,rfl⟩:=yB h1
 refine⟨fun X C=>?_,WJ h2⟩
 obtain⟨p1,p2,p3⟩:=C.pgns h2
 rw [← C.hK]
 exact KC C.hc p1 p2 p3
theorem Ke {tg e:Expr}(h:plainS tg e=true):Js e=true/\star tg=false/\(noTL tg||zbn e)=true:=by
 unfold plainS at h
 rw [Bool.and_eq_true,Bool.and_eq_true,Bool.not_eq_true'] at h
 exact⟨h.1.1,h.1.2,h.2⟩
theorem yD {X:Cx}{tg e:Expr}{te:TE}{g:TG}{pos:Pos}(h:plainS tg e=true)(he:PE X e te)(hg:PG X tg g):PS X (.Assign [tg] e pos) (tAsg te g):=by
 obtain⟨h1,h2,h3⟩:=Ke h
 exact zeW he hg (V6 h1) (Kd h3) (XR h2)
theorem zf0 {o i:Expr}{pos:Pos}{env:Env}(h:yA i=true)(v:Value):assign (.Subscript o i pos) env v=(do
   let ov ← holding [v] (eval o env)
   let iv ← holding [v,ov] (eval i env)
   standAt pos
   holding [v,ov,iv] (setItem ov iv v)
   release [v,ov,iv] []):=by cases i<;>first | rfl | cases h
def OkS (W:Wd)(mg:Str->Option Value)(N:List Str)(sc:Scope)(cm:Bool)(E:XS)(Γ:Env4)(c:Cm)(s:Stmt):Prop:=∃ t,(∀ X,CtxS W mg X N sc cm E Γ->PS X s t)/\SS W E N.length (asgS c) (zaN c) t (WS c)
def OkSs (W:Wd)(mg:Str->Option Value)(N:List Str)(sc:Scope)(cm:Bool)(E:XS)(Γ:Env4)(cs:List Cm)(ss:List Stmt):Prop:=∃ t,(∀ X,CtxS W mg X N sc cm E Γ->PSs X ss t)/\SS W E N.length (vT cs) (wa cs) t (WSs cs)
theorem zc9 (G:GOk W mg Γ){i:Nat}{elt:Xp}{m:Nat}{k:IK}{its ifs:List Xp}{tg e:Expr}{spos:Pos}(hl:locN N sc i tg=true)(h:chkE N sc cm (.lc elt m k its ifs) e=true)(n:Need Γ (.lc elt m k its ifs)):OkS W mg N sc cm E Γ (.asg (.v i) (.lc elt m k its ifs)) (.Assign [tg] e spos):=by
 have hlt:=vI hl
 have hme:i∈asgS (.asg (.v i) (.lc elt m k its ifs)):=by simp [asgS,asgT]
 obtain⟨z,pz,rfl,l1,l2⟩:=Za hl
 simp only [chkE] at h
 simp only [Need] at n
 obtain⟨p,h1,h2⟩:=zi h
 obtain⟨pos,rfl⟩:=zbq h1
 obtain⟨g,h3,h4⟩:=zi h2
 have hg:=zbr h3
 simp only [Bool.and_eq_true,decide_eq_true_eq] at h4
 obtain⟨⟨⟨⟨⟨hc,hset⟩,hle⟩,hi⟩,hd⟩,h5⟩:=h4
 subst hc
 obtain⟨wi,rl,i1,i2,i3⟩:=XU (E:=E) G k its g.2.1 g.1 hi n.2.2.1 n.2.1
 have dj:∀ j∈rl,j∉outT m (zB elt++zz ifs):=fun j hj=>qQ hd j (i3 j hj)
 obtain⟨q,e1,e2⟩:=zi h5
 simp only [Bool.and_eq_true,decide_eq_true_eq] at e2
 obtain⟨⟨⟨⟨hn,htu⟩,hl⟩,he⟩,ht⟩:=e2
 obtain⟨te,q1,q2⟩:=zu (E:=fun _ _ _ _=>False) G elt p.1 he n.1
 obtain⟨tt,t1,t2⟩:=WI (E:=fun _ _ _ _=>False) G ifs g.2.2 ht n.2.2.2 hle
 subst hn
 refine⟨_,fun X C=>?_,zbk hlt hme (zee i2 t2 (q2 false) rfl (V2 htu) dj)⟩
 obtain⟨L,bl⟩:=C.toCtx.blkG hl
 have hN:X.N.Nodup:=by rw [C.hN];exact C.nd
 have hi':X.N[i]? = some z:=by rw [C.hN];exact l1
 have hz:Loc X.env.scope z:=by rw [C.hs];exact l2
 rw [hg]
 obtain⟨b,hb⟩:∃ b,swapsWith (.ListComp p.1 [⟨g.1,g.2.1,g.2.2,0⟩] p.2.2 pos) (some (.Name z pz)) spos.line X.env=pure b:=⟨_,rfl⟩
 cases b with
 | true=>exact Kc hN hi' hz L (i1 X C.toCtx) (fun cl Ca s3 H3 fp=>t1 _ (bl cl Ca s3 H3 fp)) (fun cl Ca s3 H3 fp=>q1 _ (bl cl Ca s3 H3 fp)) (C.toCtx.tgt L e1) (XO htu) (yY hset) hb (.inl (C.fn z))
 | false=>exact zeX hN hi' hz (zbj L (i1 X C.toCtx) (fun cl Ca s3 H3 fp=>t1 _ (bl cl Ca s3 H3 fp)) (fun cl Ca s3 H3 fp=>q1 _ (bl cl Ca s3 H3 fp)) (C.toCtx.tgt L e1) (XO htu) (yY hset)) hb (.inl (C.fn z))
theorem zf1 (G:GOk W mg Γ)(t:Tg)(c:Xp)(tg e:Expr)(spos:Pos)(h:chkG N sc cm t c tg e=true)(n:zbx Γ t)(n':Need Γ c):OkS W mg N sc cm E Γ (.asg t c) (.Assign [tg] e spos):=by
 cases t with
 | v i=>
  simp only [chkG,Bool.and_eq_true,Bool.or_eq_true] at h
  obtain⟨⟨h0,h1⟩,h2⟩:=h
  rcases h0 with h0 | h0
  ·obtain⟨te,p1,p2⟩:=zu (E:=E) G c e h2 n'
   exact⟨_,fun X C=>yD h0 (p1 X C.toCtx) (C.pgn h1),zbk (vI h1) (by simp [asgS,asgT]) (p2 false)⟩
  ·cases c with
   | lc elt m k its ifs=>exact zc9 G h1 h2 n'
   | _=>cases h0
 | tup is=>
  simp only [chkG,Bool.and_eq_true] at h
  obtain⟨⟨⟨h0,h1⟩,h2⟩,h3⟩:=h
  obtain⟨te,p1,p2⟩:=zu (E:=E) G c e h3 n'
  obtain⟨g1,g2⟩:=zby (W:=W) (mg:=mg) (N:=N) (sc:=sc) (cm:=cm) (E:=E) (Γ:=Γ) (tg:=tg) (is:=is) (by rw [Bool.and_eq_true];exact⟨h1,h2⟩)
  exact⟨_,fun X C=>yD h0 (p1 X C.toCtx) (g1 X C),zc1 (fun i hi=>⟨g2 i hi,by simp only [asgS,asgT];exact hi⟩) (p2 false)⟩
 | sub p k=>
  simp only [chkG,Bool.and_eq_true] at h
  obtain⟨⟨h0,h1⟩,h2⟩:=h
  obtain⟨q,h3,h4⟩:=zi h1
  obtain⟨pp,rfl⟩:=k9 h3
  simp only [Bool.and_eq_true] at h4
  obtain⟨⟨⟨h5,h6⟩,h7⟩,h8⟩:=h4
  simp only [zbx] at n
  obtain⟨te,p1,p2⟩:=zu (E:=E) G c e h2 n'
  obtain⟨to,o1,o2⟩:=ZP (E:=E) G p q.1 h7 n.1
  obtain⟨tk,k1,k2⟩:=zu (E:=E) G k q.2 h8 n.2
  exact⟨_,fun X C=>yD h0 (p1 X C.toCtx) (zeV (o1 X C.toCtx) (k1 X C.toCtx) (zbl C.hu) (zf0 h5)),zfR (p2 false) o2 (k2 true) (qQ h6)⟩
 | al j=>
  simp only [chkG,Bool.and_eq_true] at h
  obtain⟨⟨h0,h1⟩,h2⟩:=h
  obtain⟨te,p1,p2⟩:=ZP (E:=E) G c e h2 n'
  exact⟨_,fun X C=>yD h0 (p1 X C.toCtx) (C.pgn h1),zg8 (vI h1) (by simp [asgS,asgT]) p2⟩
end
mutual
theorem zf2 {mg:Str->Option Value}(G:GOk W mg Γ)(c:Cm)(s:Stmt){N:List Str}{sc:Scope}{cm:Bool}{E:XS}(hh:chkS N sc cm c s=true)(nn:kM Γ c):OkS W mg N sc cm E Γ c s:=by
 match c,hh,nn with
 | .ret e,h,n=>
  simp only [chkS] at h
  simp only [kM] at n
  obtain⟨o,h1,h2⟩:=zi h
  obtain⟨p,rfl⟩:=zc7 h1
  obtain⟨e',rfl,h3⟩:=zi h2
  obtain⟨t,p1,p2⟩:=zu (E:=E) G e _ h3 n
  exact⟨_,fun X C=>zeU (p1 X C.toCtx),zfP (p2 false)⟩
 | .asg t e,h,n=>
  simp only [chkS] at h
  simp only [kM] at n
  obtain⟨p,h1,h2⟩:=zi h
  obtain⟨tg,h3,h4⟩:=zi h2
  have hp:=zc8 h1
  rw [Jt h3] at hp
  subst hp
  exact zf1 G t e _ _ _ h4 n.1 n.2
 | .ife t a b,h,n=>
  simp only [chkS] at h
  simp only [kM] at n
  obtain⟨p,h1,h2⟩:=zi h
  obtain⟨pos,rfl⟩:=zfY h1
  simp only [Bool.and_eq_true] at h2
  obtain⟨⟨h0,h1⟩,h2⟩:=h2
  obtain⟨tt,t1,t2⟩:=ZQ (E:=E) G t _ h0 n.1
  obtain⟨ta,a1,a2⟩:=wU (E:=E) G a _ h1 n.2.1
  obtain⟨tb,b1,b2⟩:=wU (E:=E) G b _ h2 n.2.2
  exact⟨_,fun X C=>zgu (t1 X C.toCtx) (a1 X C) (b1 X C),zfQ t2 (a2.amono (as':=asgS (.ife t a b)) fun j hj=>by simp only [asgS];exact zc j hj) (b2.amono fun j hj=>by simp only [asgS];exact zd j hj)⟩
 | .loop t k its b,h,n=>
  simp only [chkS] at h
  simp only [kM] at n
  obtain⟨p,h1,h2⟩:=zi h
  obtain⟨pos,rfl⟩:=Ye h1
  simp only [Bool.and_eq_true] at h2
  obtain⟨⟨⟨⟨⟨hc,h0⟩,h2⟩,h3⟩,h5⟩,h4⟩:=h2
  subst hc
  obtain⟨wi,rl,i1,i2,i3⟩:=XU (E:=E) G k its p.2.1 p.1 h3 n.2.1 n.1
  obtain⟨tb,b1,b2⟩:=wU (E:=E) G b _ h4 n.2.2
  have b3:=b2.amono (as':=asgS (.loop t k its b)) fun j hj=>by simp only [asgS];exact zd j hj
  have dj:∀ j∈rl,j∉Jk t++wa b:=fun j hj=>qQ h5 j (i3 j hj)
  cases t with
  | v i=>exact⟨_,fun X C=>Xm C.po C.hc (i1 X C.toCtx) (C.pgn h2) (b1 X C) (yY h0),V4 i2 (sb_v (vI h2) (by simp [asgS,asgT])) b3 dj⟩
  | tup is=>
   obtain⟨g1,g2⟩:=zby (W:=W) (mg:=mg) (E:=E) (Γ:=Γ) (N:=N) (sc:=sc) (cm:=true) (tg:=p.1) (is:=is) h2
   exact⟨_,fun X C=>Xm C.po C.hc (i1 X C.toCtx) (g1 X C) (b1 X C) (yY h0),V4 i2 (zfS fun i hi=>⟨g2 i hi,by simp only [asgS,asgT];exact zc i hi⟩) b3 dj⟩
  | _=>cases h2
 | .loopA j hh i b,h,n=>
  simp only [chkS] at h
  simp only [kM] at n
  obtain⟨p,h1,h2⟩:=zi h
  obtain⟨pos,rfl⟩:=Ye h1
  simp only [Bool.and_eq_true,decide_eq_true_eq,Bool.not_eq_true'] at h2
  obtain⟨⟨⟨⟨⟨⟨⟨hc,h0⟩,h2⟩,h3⟩,h5⟩,h6⟩,h7⟩,h4⟩:=h2
  subst hc
  obtain⟨tb,b1,b2⟩:=wU (E:=E) G b _ h4 n
  refine⟨_,fun X C=>Xm C.po C.hc (zbb C.hK (C.toCtx.var h3)) (C.pgn h2) (b1 X C) (yY h0),zbm (vI h2) (by simp [asgS]) (fun k hk=>by simp only [asgS];exact zd k hk) h5 h6 (fun z=>?_) b2⟩
  rw [← List.contains_iff_mem] at z
  rw [z] at h7
  cases h7
 | .ex e,h,n=>
  simp only [chkS] at h
  simp only [kM] at n
  obtain⟨e',h1,h2⟩:=zi h
  obtain⟨pos,rfl⟩:=zfZ h1
  rw [Bool.and_eq_true] at h2
  obtain⟨te,p1,p2⟩:=zu (E:=E) G e _ h2.2 n
  exact⟨_,fun X C=>zcc (p1 X C.toCtx) (V6 h2.1),zg7 (p2 true)⟩
 | .pass,h,n=>
  simp only [chkS] at h
  cases s<;>first | (cases h;done) | exact⟨_,fun X C=>zcb,zc0⟩
theorem wU {mg:Str->Option Value}(G:GOk W mg Γ)(cs:List Cm)(ss:List Stmt){N:List Str}{sc:Scope}{cm:Bool}{E:XS}(hh:wL N sc cm cs ss=true)(nn:wR Γ cs):OkSs W mg N sc cm E Γ cs ss:=by
 match cs,hh,nn with
 | [],h,n=>
  simp only [wL,List.isEmpty_iff] at h
  subst h
  exact⟨_,fun X C=>zca,zfO⟩
 | c::cs,h,n=>
  simp only [wL] at h
  simp only [wR] at n
  split at h
  ·rw [Bool.and_eq_true] at h
   obtain⟨t,p1,p2⟩:=zf2 (E:=E) G c _ h.1 n.1
   obtain⟨u,q1,q2⟩:=wU (E:=E) G cs _ h.2 n.2
   exact⟨_,fun X C=>KA (p1 X C) (q1 X C),zcZ (p2.amono fun j hj=>by simp only [vT];exact zc j hj) (q2.amono fun j hj=>by simp only [vT];exact zd j hj)⟩
  ·cases h
end
end L4
namespace L4
open PySem L2 PySem.Spec PyProof.Rows
variable {W:Wd}
theorem Kf {X:Cx}{E:XS}{k j:Nat}{x:Str}{ps:List Str}{sp:Sp}{p pos:Pos}(hx:Thr X E)(F:OkX X.prog X.w X.K X.mg X.base k x ps sp)(hr:Room j X.A)(hk:k<=j)(hg:Gl X x)(hdb:(x == ("__debug__":Str))=false):PE X (.Call (.Name x p) [] [] pos) (xH sp E tNil):=by
 intro pins s σ H Q I h
 obtain⟨f,fd,kp,b,m,G⟩:=F.ex
 refine wpAny_Call_Name_kw (yk I hg m ?_ hdb)
 exact PySem.W.callWith_K0 I.kIn kp (Vz (us:=[]) G (hr.mono hk) b hx I .nil h)
theorem QX {X:Cx}{k j:Nat}{x:Str}{ps:List Str}{sp:Sp}{p pos:Pos}(F:OkX X.prog X.w X.K X.mg X.base k x ps sp)(hr:Room j X.A)(hk:k<=j)(hg:Gl X x)(hdb:(x == ("__debug__":Str))=false):PE X (.Call (.Name x p) [] [] pos) (Qz sp [] E0 tNil):=by
 obtain⟨f,fd,kp,b,m,G⟩:=F.ex
 exact KR G (hr.mono hk) hg m kp b .nil zdN hdb
theorem yE {X:Cx}{e:Expr}{sp:Sp}{t:TA}(h:PE X e (Qz sp [] E0 t)):PE X e (xH sp (fun _ _ _ _=>False) t):=by
 have e1:Qz sp [] E0 t=xH sp (fun _ _ _ _=>False) t:=by
  funext σ H Q
  show t σ H (fun vs H1=>sp (vs++[]) H1 Q E0)=t σ H fun vs H1=>sp vs H1 Q fun c d H'=>False
  simp only [List.append_nil]
 rw [← e1];exact h
noncomputable def Gam (P:Program)(w:World)(mg:Str->Option Value)(base:Heap)(W:Wd)(k:Nat):Env4 where
 F x ms f:=∃ k' ps,k'<=k/\OkX P w W.K mg base k' x ps (SpM W ms f)
 G x t:=∃ v,(∀ F H:Hp,Tr W F H (fzi t) v [])/\∃ u,mg x=some u/\RelV v u
 B x:=mg x=none
 A c f:=Cls W.K (W.cl c)/\KN W.K (W.cl c) f
theorem zbz {P:Program}{w:World}{mg:Str->Option Value}{base:Heap}{k:Nat}:GOk W mg (Gam P w mg base W k):=⟨fun _ _ h=>h,fun _ _ h=>h⟩
theorem Yg {m i:Nat}{x:Slot}(h:(List.replicate m Slot.no)[i]? = some x):x=.no:=(List.mem_replicate.mp (List.mem_of_getElem? h)).2
theorem Jw {F H:Hp}(g:Same F H)(m:Nat):∀ {os:List T} {vs:List V} {B:List Addr},TrL W F H os vs B->B.Nodup->(∀ b∈B,F b=none)->∃ A,Rep W F H (os.map .own++List.replicate m .no) (vs.map some++List.replicate m none) A/\∀ b,Ow A b->b∈B
 | [],vs,B,⟨h1,h2⟩,nd,fr=>by
  subst h1 h2
  refine⟨fun _=>[],⟨g,fun i o e=>?_,fun j i q e=>?_,(fun _ _=>rfl),(fun _ _ h=>by cases h),(fun _ _ _ h=>by cases h),fun _=>.nil,by simp⟩,fun b ⟨_,z⟩=>by cases z⟩
  ·cases Yg (by simpa using e)
  ·cases Yg (by simpa using e)
 | o::os,vs,B,⟨v,r,B1,B2,e1,e2,h1,h2⟩,nd,fr=>by
  subst e1 e2
  have nd':=List.nodup_append.mp nd
  obtain⟨A,R,hA⟩:=Jw g m h2 nd'.2.1 fun b hb=>fr b (List.mem_append_right _ hb)
  have noal:∀ (ts:List T) (j i:Nat) (q:List Nat),(ts.map Slot.own++List.replicate m Slot.no)[j]? = some (.al i q)->False:=fun ts j i q e=>by
   have:=List.mem_of_getElem? e
   rcases List.mem_append.mp this with z | z
   ·obtain⟨_,_,z⟩:=List.mem_map.mp z;cases z
   ·have:=(List.mem_replicate.mp z).2;cases this
  refine⟨fun j=>match j with
   | 0=>B1
   | j+1=>A j,⟨g,fun i o' e=>?_,fun j i q e=>(noal (o::os) j i q e).elim,fun i z=>?_,fun i a ha=>?_,fun i j a ha hb=>?_,fun i=>?_,?_⟩,fun b ⟨j,z⟩=>?_⟩
  ·cases i with
   | zero=>
    have:o=o':=by simpa using e
    subst this;exact⟨v,rfl,h1⟩
   | succ i=>exact R.slot i o' (by simpa using e)
  ·cases i with
   | zero=>exact absurd rfl (z o)
   | succ i=>exact R.emp i fun t y=>z t (by simpa using y)
  ·cases i with
   | zero=>exact fr a (List.mem_append_left _ ha)
   | succ i=>exact R.own i a ha
  ·cases i with
   | zero=>
    cases j with
    | zero=>rfl
    | succ j=>exact absurd rfl (nd'.2.2 a ha a (hA a ⟨j,hb⟩))
   | succ i=>
    cases j with
    | zero=>exact absurd rfl (nd'.2.2 a hb a (hA a ⟨i,ha⟩))
    | succ j=>rw [R.dis i j a ha hb]
  ·cases i with
   | zero=>exact nd'.1
   | succ i=>exact R.nd i
  ·have:=R.len
   simpa using this
  ·cases j with
   | zero=>exact List.mem_append_left _ z
   | succ j=>exact List.mem_append_right _ (hA b ⟨j,z⟩)
theorem QY {F H:Hp}{s:Sl}{σ:L2.St}{A:Nat->List Addr}(R:Rep W F H s σ A):∀ (ms:List Md) (vs:List V) (l:Sl) (off:Nat) (r:List T),retA ms l=some r->vs.length=ms.length->(∀ k,l[k]? = s[off+k]?)->(∀ k v,ms[k]? = some Md.mu->vs[k]? = some v->σ[off+k]? = some (some v)) ->
  ∃ C,TrM W F H ms r vs C/\C.Nodup/\(∀ b∈C,∃ j,off<=j/\b∈A j)/\r.length=ms.length
 | [],vs,l,off,r,e,hl,hs,hv=>by
  cases e
  exact⟨[],rfl,.nil,(fun _ h=>by cases h),rfl⟩
 | m::ms,[],l,off,r,e,hl,hs,hv=>by cases hl
 | m::ms,v::vs,[],off,r,e,hl,hs,hv=>by cases m<;>cases e
 | m::ms,v::vs,x::l,off,r,e,hl,hs,hv=>by
  have hl':vs.length=ms.length:=by simpa using hl
  have hs':∀ k,l[k]? = s[off+1+k]?:=fun k=>by
   have:=hs (k+1)
   rw [show off+1+k=off+(k+1) by omega,← this]
   simp
  have hv':∀ k v,ms[k]? = some Md.mu->vs[k]? = some v->σ[off+1+k]? = some (some v):=fun k v z1 z2=>by
   rw [show off+1+k=off+(k+1) by omega]
   exact hv (k+1) v (by simpa using z1) (by simpa using z2)
  have rest:=fun r' e'=>QY R ms vs l (off+1) r' e' hl' hs' hv'
  have pas:∀ r',retA ms l=some r'->r=.non::r'->(m=.fz\/m=.mv)->∃ C,TrM W F H (m::ms) r (v::vs) C/\C.Nodup/\(∀ b∈C,∃ j,off<=j/\b∈A j)/\r.length=(m::ms).length:=fun r' e' er hm=>by
   obtain⟨C,c1,c2,c3,c4⟩:=rest r' e'
   subst er
   refine⟨C,?_,c2,fun b hb=>?_,by rw [List.length_cons,List.length_cons,c4]⟩
   ·rcases hm with rfl | rfl<;>exact⟨v,vs,rfl,c1⟩
   ·obtain⟨j,h1,h2⟩:=c3 b hb
    exact⟨j,by omega,h2⟩
  cases m with
  | fz=>
   simp only [retA,Option.map_eq_some_iff] at e
   obtain⟨r',e1,e2⟩:=e
   exact pas r' e1 e2.symm (.inl rfl)
  | mv=>
   simp only [retA,Option.map_eq_some_iff] at e
   obtain⟨r',e1,e2⟩:=e
   exact pas r' e1 e2.symm (.inr rfl)
  | mu=>
   cases x with
   | own t=>
    simp only [retA,Option.map_eq_some_iff] at e
    obtain⟨r',e1,rfl⟩:=e
    obtain⟨C,c1,c2,c3,c4⟩:=rest r' e1
    have h0:s[off]? = some (.own t):=by
     have:=hs 0
     simpa using this.symm
    obtain⟨w,hw,tw⟩:=R.slot off t h0
    have hvw:=hv 0 v rfl rfl
    rw [show off+0=off from rfl,hw] at hvw
    cases hvw
    refine⟨A off++C,⟨v,vs,A off,C,rfl,rfl,tw,c1⟩,List.nodup_append.mpr ⟨R.nd off,c2,fun a ha b hb z=>?_⟩,fun b hb=>?_,by rw [List.length_cons,List.length_cons,c4]⟩
    ·subst z
     obtain⟨j,h1,h2⟩:=c3 a hb
     have:=R.dis off j a ha h2
     omega
    ·rcases List.mem_append.mp hb with z | z
     ·exact⟨off,Nat.le_refl _,z⟩
     ·obtain⟨j,h1,h2⟩:=c3 b z
      exact⟨j,by omega,h2⟩
   | no=>cases e
   | al _ _=>cases e
noncomputable def Zb (ms:List Md)(as:List Nat):Bool:=as.all fun i=>decide (ms[i]?≠some .mu)
theorem XW {ms:List Md}{as:List Nat}(h:Zb ms as=true):∀ i,ms[i]? = some .mu->i∉as:=fun i hi z=>by
 unfold Zb at h
 rw [List.all_eq_true] at h
 have:=h i z
 simp [hi] at this
theorem zhe {ms:List Md}{as tl:List Nat}{F H:Hp}{A0:Nat->List Addr}{s0:Sl}{vs:List V}{m:Nat}{B:List Addr}{Q4:T->List T->Prop}{X4:Exn->List T->Prop}{Q:VK}{X:Value->Option Addr->Hp->Prop}(hm:Zb ms as=true)(hl:vs.length=ms.length)(R0:Rep W F H s0 (vs.map some++List.replicate m none) A0)(hA:∀ b,Ow A0 b->b∈B)
  (q:∀ r ts' v F' H' C Br,FPo W F H B ms vs ts' F' H' C->Tr W F' H' r v Br->(∀ b∈C++Br,F' b=none)->(C++Br).Nodup->(∀ b∈C++Br,H b=none\/b∈B)->Q4 r ts'->Q v H')
  (x:∀ x ts' c d F' H' C,FPo W F H B ms vs ts' F' H' C->IsX W F' x c d->(∀ b∈C,F' b=none)->C.Nodup->(∀ b∈C,H b=none\/b∈B)->X4 x ts'->X c d H') :
  KO W (fun c d _ H'=>X c d H') as tl F H A0 s0 (vs.map some++List.replicate m none) { nx:=fun s=>∃ r,retA ms s=some r/\Q4 .non r,rt:=fun t s=>∃ r,retA ms s=some r/\Q4 t r,bk:=fun _=>False,ct:=fun _=>False,ex:=fun x s=>∃ r,retA ms s=some r/\X4 x r } { nx:=fun _ H'=>Q .non H',rt:=Q }:=by
 have back:∀ {s' F' H' σ' A' r},SPo W as tl F H A0 s0 (vs.map some++List.replicate m none) s' F' H' σ' A'->retA ms s' = some r->∃ C,FPo W F H B ms vs r F' H' C/\C.Nodup/\(∀ b∈C,Ow A' b)/\(∀ b∈C,F' b=none)/\∀ b∈C,H b=none\/b∈B:=fun {s' F' H' σ' A' r} p e=>by
  obtain⟨C,c1,c2,c3,c4⟩:=QY p.rep ms vs s' 0 r e hl (fun k=>by rw [Nat.zero_add]) (fun k v z1 z2=>by
   rw [Nat.zero_add,p.kp k (XW hm k z1),List.getElem?_append_left (by
    rw [List.length_map]
    exact(List.getElem?_eq_some_iff.mp z2).1),List.getElem?_map,z2]
   rfl)
  have tch:∀ b,Tch A0 tl b->b∈B:=fun b ⟨j,_,z⟩=>hA b ⟨j,z⟩
  refine⟨C,⟨p.mv.sF,p.rep.fh,fun b o h nb=>p.mv.keep b o h fun z=>nb (tch b z),p.mv.dom,fun b o h=>(p.mv.frz b o h).imp id fun z=>z.imp id (tch b),c4,c1⟩,c2,fun b hb=>?_,fun b hb=>?_,fun b hb=>?_⟩
  ·obtain⟨j,_,h⟩:=c3 b hb;exact⟨j,h⟩
  ·obtain⟨j,_,h⟩:=c3 b hb;exact p.rep.own j b h
  ·obtain⟨j,_,h⟩:=c3 b hb
   by_cases hj:j∈tl
   ·exact(p.mv.cells j b hj h).imp id (tch b)
   ·rw [(p.mv.slot j hj).2] at h
    exact .inr (hA b ⟨j,h⟩)
 refine⟨fun s' F' H' σ' A' p ⟨r,e,h⟩=>?_,fun t s' v F' H' σ' A' Br p ⟨r,e,h⟩=>?_,fun _ _ _ _ _ _ z=>z.elim,fun _ _ _ _ _ _ z=>z.elim,fun ex s' c d F' H' σ' A' p xr ⟨r,e,h⟩=>?_⟩
 ·obtain⟨C,f,n1,n2,n3,n4⟩:=back p e
  exact q .non r .non F' H' C [] f yW (by simpa using n3) (by simpa using n1) (by simpa using n4) h
 ·obtain⟨C,f,n1,n2,n3,n4⟩:=back p.sp e
  refine q t r v F' H' C Br f p.tr (fun b hb=>?_) (List.nodup_append.mpr ⟨n1,p.nd,fun a ha b hb z=>?_⟩) (fun b hb=>?_) h
  ·rcases List.mem_append.mp hb with z | z
   ·exact n3 b z
   ·exact p.vd.fr b z
  ·subst z
   exact(p.vd.at_ a hb).elim (fun y=>y (n2 a ha)) fun⟨_,y,_⟩=>by cases y
  ·rcases List.mem_append.mp hb with z | z
   ·exact n4 b z
   ·exact(p.new b z).imp id fun⟨j,_,y⟩=>hA b ⟨j,y⟩
 ·obtain⟨C,f,n1,n2,n3,n4⟩:=back p e
  exact x ex r c d F' H' C f xr n3 n1 n4 h
theorem zR {P:Program}{w:World}{mg:Str->Option Value}{base:Heap}{k:Nat}{x:Str}{st:Stmt}{ps N:List Str}{ms:List Md}{body:List Cm}(D:Df W.K mg x st ps)(Sc:zj N ps (za st))
  (hc:wL N (za st) true body (zN st)=true) (hm:Zb ms (vT body)=true) (hp:ms.length=ps.length) (hp':ps.length<=N.length) (n:wR (Gam P w mg base W k) body):OkX P w W.K mg base (k+1) x ps (SpM W ms (fnD ms N.length body)):=by
 refine D.okX Sc (fun vs H Q E h=>h.1.trans hp) (fun f cdv A outer s H vs Q E hr h=>?_)
 obtain⟨hl,F,ts,B,Q4,X4,gF,tr,nd,fr,⟨hts,po⟩,q,x⟩:=h
 obtain⟨t,p1,p2⟩:=wU (E:=fun c d _ H'=>E c d H') zbz body (zN st) hc n
 refine⟨t,p1 _ ⟨⟨rfl,rfl,Sc.nd,rfl,rfl,?_,fun y ms f hf=>?_,fun y ms f hf X' g=>?_,rfl,fun y hy=>hy⟩,PassesOwn.leaving,fun _=>rfl⟩,?_⟩
 ·have:=hr.un
  show(A.deeper _).units+64<cLine
  omega
 ·obtain⟨k',ps',hk,F'⟩:=hf
  intro es t p pos ha hs hg hok h0
  cases es with
  | nil=>
   have:=h0 rfl
   subst this
   exact Kf QJ F' hr hk hg (kL hok).1
  | cons e es=>
   obtain⟨s1,s2⟩:=ql hs
   exact zam QJ F' hr hk ha hg (kL hok).1 (zo s1) (ja s2)
 ·obtain⟨k',ps',hk,F'⟩:=hf
  intro es t p pos ha hs hg hok h0
  have F2:OkX X'.prog X'.w X'.K X'.mg X'.base k' y ps' (SpM W ms f):=by rw [g.prog,g.w,g.K,g.mg,g.base];exact F'
  have hr2:Room k X'.A:=by rw [g.A];exact hr
  cases es with
  | nil=>
   have:=h0 rfl
   subst this
   exact yE (QX F2 hr2 hk hg (kL hok).1)
  | cons e es=>
   obtain⟨s1,s2⟩:=ql hs
   exact yE (Wb F2 hr2 hk ha hg (kL hok).1 (zo s1) (ja s2))
 ·obtain⟨A0,R0,hA⟩:=Jw gF (N.length - ms.length) tr nd fr
  have hst:L2.start N vs=vs.map some++List.replicate (N.length - ms.length) none:=by unfold L2.start;rw [hl]
  rw [hst]
  exact p2 F H _ _ A0 _ _ R0 (by simp only [List.length_append,List.length_map,List.length_replicate];omega) po (zhe hm hl R0 hA q x)
noncomputable def zei (K:PySem.W.Frag):Sp:=fun vs H Q _=>∃ (a:Addr) (ns:List Int),vs=[.ref a]/\SqL K H a (ns.map V.int)/\ns.length<=63/\∀ H',Q (.bl true) H'
theorem Yh {F:Hp}:∀ ns:List Int,IsVs W F (ns.map T.int) (ns.map V.int)
 | []=>rfl
 | n::ns=>⟨_,_,rfl,rfl,Yh ns⟩
theorem zf3 {P:Program}{w:World}{mg:Str->Option Value}{base:Heap}{k:Nat}{x y:Str}{st:Stmt}{N:List Str}{body:List Cm}(D:Df W.K mg x st [y])(Sc:zj N [y] (za st))(h1:1<=N.length)
  (hc:wL N (za st) true body (zN st)=true) (n:wR (Gam P w mg base W k) body) (hl:∀ ns:List Int,ns.length<=63->fnD [.fz] N.length body [.ks true (ns.map .int)] (fun t _=>t=.bl true) (fun _ _=>False)):OkF P w W.K mg base (k+1) x [y] (zei W.K):=by
 refine D.ok Sc (fun vs H Q E h=>by obtain⟨_,_,rfl,_⟩:=h;rfl) (fun f cdv A outer s H vs Q E hr h=>?_)
 obtain⟨a,ns,rfl,hS,h63,q⟩:=h
 obtain⟨t,p1,p2⟩:=wU (E:=fun _ _ _ _=>False) zbz body (zN st) hc n
 have callN:∀ X':Cx,zeg (cxOf CX0 P w W.K mg base N x (za st) f cdv A outer s H E).nox X'->∀ y ms g,(Gam P w mg base W k).F y ms g->XT W X' (fun _ _ _ _=>False) y ms g:=fun X' g y ms f hf=>by
  obtain⟨k',ps',hk,F'⟩:=hf
  intro es t p pos ha hs hg hok h0
  have F2:OkX X'.prog X'.w X'.K X'.mg X'.base k' y ps' (SpM W ms f):=by rw [g.prog,g.w,g.K,g.mg,g.base];exact F'
  have hr2:Room k X'.A:=by rw [g.A];exact hr
  cases es with
  | nil=>
   have:=h0 rfl
   subst this
   exact yE (QX F2 hr2 hk hg (kL hok).1)
  | cons e es=>
   obtain⟨s1,s2⟩:=ql hs
   exact yE (Wb F2 hr2 hk ha hg (kL hok).1 (zo s1) (ja s2))
 refine⟨t,p1 _ ⟨⟨rfl,rfl,Sc.nd,rfl,rfl,?_,fun y ms f hf=>callN _ ⟨rfl,rfl,rfl,rfl,rfl,rfl⟩ y ms f hf,fun y ms f hf X' g=>callN X' g y ms f hf,rfl,fun y hy=>hy⟩,PassesOwn.never,fun _=>rfl⟩,?_⟩
 ·have:=hr.un
  show(A.deeper _).units+64<cLine
  omega
 ·have tr:TrL W H H [.ks true (ns.map .int)] [.ref a] []:=⟨_,_,[],[],rfl,rfl,⟨rfl,a,_,rfl,hS,Yh ns⟩,rfl,rfl⟩
  obtain⟨A0,R0,hA⟩:=Jw (fun _ _ h=>h) (N.length - 1) tr .nil (fun _ h=>by cases h)
  obtain⟨_,po⟩:=hl ns h63
  have len:(List.map some [V.ref a]++List.replicate (N.length - 1) (none:Option V)).length=N.length:=by
   simp only [List.length_append,List.length_map,List.length_replicate,List.length_cons,List.length_nil];omega
  refine p2 H H _ _ A0 _ _ R0 len po ⟨(fun s' F' H' σ' A' p ⟨r,e,h⟩=>by cases h),fun t s' v F' H' σ' A' Br p ⟨r,e,h⟩=>?_,fun _ _ _ _ _ _ z=>z.elim,fun _ _ _ _ _ _ z=>z.elim,fun ex s' c d F' H' σ' A' p xr ⟨r,e,h⟩=>h.elim⟩
  subst h
  have hv:v=.bl true:=p.tr.2
  rw [hv]
  exact q H'
end L4
namespace L4
open PySem L2 PySem.Spec PyProof.Rows
theorem z9 {c:Cm}{cs:List Cm}{s:Sl}{D:Ends}(h:WS c s { D with nx:=fun s1=>WSs cs s1 D }):WSs (c::cs) s D:=by simpa only [WSs] using h
theorem vJ {s:Sl}{D:Ends}(h:D.nx s):WSs [] s D:=by simpa only [WSs] using h
theorem zhf {i j:Int}:binO .add (.int i) (.int j)=some (.int (i+j)):=(rfl)
theorem zhg {i j:Int}:binO .sub (.int i) (.int j)=some (.int (i - j)):=(rfl)
theorem zej {i j:Int}(h:IntMulOk i j):binO .mul (.int i) (.int j)=some (.int (i * j)):=by simp only [binO,intO,two,Option.bind_some,intOp,h,if_true,orE]
theorem zhh {i j:Int}(h:0<j):binO .mod (.int i) (.int j)=some (.int (i % j)):=by simp only [binO,intO,two,Option.bind_some,intOp,h,if_true,orE]
theorem zhi {i j:Int}(h:0<j/\j<1073741824):binO .fdiv (.int i) (.int j)=some (.int (i / j)):=by simp only [binO,intO,two,Option.bind_some,intOp,h,and_self,if_true,orE]
theorem zhj {i j:Int}(h:0<=j/\j<=1000000/\i.natAbs<2 ^ 64):binO .pow (.int i) (.int j)=some (.int (i ^ j.toNat)):=by simp only [binO,intO,two,Option.bind_some,intOp,h,and_self,if_true,orE]
theorem zf4 {i j:Int}(h:-18446744073709551616<i/\i<18446744073709551616):binO .mul (.int i) (.int j)=some (.int (i * j)):=zej (zcu ⟨by have:=h.1;omega,by have:=h.2;omega⟩)
theorem zf5 {i j:Int}(h:-18446744073709551616<j/\j<18446744073709551616):binO .mul (.int i) (.int j)=some (.int (i * j)):=zej (zcv ⟨by have:=h.1;omega,by have:=h.2;omega⟩)
end L4
namespace L4
open PySem L2 PySem.Spec PyProof.Rows
theorem w_if {p:Prop} [Decidable p]{A B:Prop}(h1:p->A)(h2:¬ p->B):if decide p=true then A else B:=by
 by_cases h:p
 ·rw [if_pos (decide_eq_true h)];exact h1 h
 ·rw [if_neg (by simpa using h)];exact h2 h
theorem zek {b:Bool}{A B:Prop}(h1:b=true->A)(h2:b=false->B):if b=true then A else B:=by
 cases b with
 | true=>rw [if_pos rfl];exact h1 rfl
 | false=>rw [if_neg (by decide)];exact h2 rfl
noncomputable def smI:T->Bool
 | .int n=>decide (-18446744073709551616<n/\n<18446744073709551616)
 | _=>false
theorem at_ok {xs:List T}{i:Int}(h0:0<=i)(h1:i<xs.length):∃ z,ixO (.ls xs) (.int i)=some z/\xs[i.toNat]? = some z/\z∈xs:=by
 obtain⟨v,e1,e2⟩:=kY h0 h1
 refine⟨v,?_,e2,List.mem_of_getElem? e2⟩
 show orE (atI xs i) _=_
 rw [e1]
 rfl
theorem zel {xs:List T}{i:Int}(h0:0<=i)(h1:i<xs.length)(hb:xs.all smI=true):∃ n,ixO (.ls xs) (.int i)=some (.int n)/\-18446744073709551616<n/\n<18446744073709551616:=by
 obtain⟨z,e1,_,e3⟩:=at_ok h0 h1
 have:=List.all_eq_true.mp hb z e3
 cases z<;>simp only [smI,decide_eq_true_eq,Bool.false_eq_true] at this
 exact⟨_,e1,this⟩
theorem zda {ns:List Int}{i:Int}(h0:0<=i)(h1:i<ns.length):∃ n,ixO (.ls (ns.map .int)) (.int i)=some (.int n):=by
 obtain⟨z,e1,_,e3⟩:=at_ok (xs:=ns.map T.int) h0 (by rw [List.length_map];exact h1)
 obtain⟨n,_,rfl⟩:=List.mem_map.mp e3
 exact⟨n,e1⟩
end L4
namespace L4
open PySem L2 PySem.Spec PyProof.Rows
theorem WK {bd:T->Sl->Option Sl}{body:Sl->Ends->Prop}{D:Ends}{ds:List T}(I:Nat->Sl->Prop)(step:∀ (k:Nat) d s,ds[k]? = some d->I k s->∃ s1,bd d s=some s1/\∀ K:Sl->Prop,(∀ s',I (k+1) s'->K s')->body s1 { D with nx:=K,ct:=K,bk:=D.nx }) (fin:∀ s,I ds.length s->D.nx s):∀ (m k:Nat) (s:Sl),m+k=ds.length->I k s->wk bd body D (ds.drop k) s
 | 0,k,s,e,h=>by
  have:k=ds.length:=by omega
  subst this
  rw [List.drop_length]
  exact fin s h
 | m+1,k,s,e,h=>by
  have hk:k<ds.length:=by omega
  rw [List.drop_eq_getElem_cons hk]
  obtain⟨s1,e1,h1⟩:=step k _ s (List.getElem?_eq_getElem hk) h
  exact⟨s1,e1,h1 _ fun s' h'=>WK I step fin m (k+1) s' (by omega) h'⟩
theorem jo {bd:T->Sl->Option Sl}{body:Sl->Ends->Prop}{D:Ends}{ds:List T}{s:Sl}(I:Nat->Sl->Prop)(h0:I 0 s)(step:∀ (k:Nat) d s,ds[k]? = some d->I k s->∃ s1,bd d s=some s1/\∀ K:Sl->Prop,(∀ s',I (k+1) s'->K s')->body s1 { D with nx:=K,ct:=K,bk:=D.nx }) (fin:∀ s,I ds.length s->D.nx s):wk bd body D ds s:=by
 have:=WK I step fin ds.length 0 s (by omega) h0
 rwa [List.drop_zero] at this
theorem Yi {n:Nat}{tt:Sl->(Bool->Sl->Prop)->Prop}{fe:Sl->QP->Prop}{Q:QP}{ds:List T}(I:Nat->List T->Sl->Prop)(step:∀ (k:Nat) d acc s,ds[k]? = some d->I k acc s->∀ K:List T->Sl->Prop,(∀ acc' s',I (k+1) acc' s'->K acc' s')->∃ l,QR n d=some l/\tt (l++s) fun b s1=>if b=true then fe s1 fun t s2=>acc.length<16777216/\K (acc++[t]) ((s2.drop n).map Slot.noAl) else K acc ((s1.drop n).map Slot.noAl))(fin:∀ acc s,I ds.length acc s->Q (.ls acc) s):∀ (m k:Nat) (acc:List T) (s:Sl),m+k=ds.length->I k acc s->wG n tt fe (ds.drop k) acc s Q
 | 0,k,acc,s,e,h=>by
  have:k=ds.length:=by omega
  subst this
  rw [List.drop_length]
  exact fin acc s h
 | m+1,k,acc,s,e,h=>by
  have hk:k<ds.length:=by omega
  rw [List.drop_eq_getElem_cons hk]
  exact step k _ acc s (List.getElem?_eq_getElem hk) h (fun acc' s'=>wG n tt fe (ds.drop (k+1)) acc' s' Q) fun acc' s' h'=>Yi I step fin m (k+1) acc' s' (by omega) h'
theorem j0 {n:Nat}{tt:Sl->(Bool->Sl->Prop)->Prop}{fe:Sl->QP->Prop}{Q:QP}{ds:List T}{s:Sl}(I:Nat->List T->Sl->Prop)(h0:I 0 [] s)(step:∀ (k:Nat) d acc s,ds[k]? = some d->I k acc s->∀ K:List T->Sl->Prop,(∀ acc' s',I (k+1) acc' s'->K acc' s')->∃ l,QR n d=some l/\tt (l++s) fun b s1=>if b=true then fe s1 fun t s2=>acc.length<16777216/\K (acc++[t]) ((s2.drop n).map Slot.noAl) else K acc ((s1.drop n).map Slot.noAl))(fin:∀ acc s,I ds.length acc s->Q (.ls acc) s):wG n tt fe ds [] s Q:=by
 have:=Yi I step fin ds.length 0 [] s (by omega) h0
 rwa [List.drop_zero] at this
theorem yF:∀ {ts:List T},(∀ t∈ts,shr t=true)->shrs ts=true
 | [],_=>rfl
 | t::ts,h=>by simp only [shrs,h t List.mem_cons_self,Bool.true_and];exact yF fun u hu=>h u (List.mem_cons_of_mem _ hu)
theorem jq {ts:List T}(h:∀ t∈ts,shr t=true):shO (some ts)=some ts:=by
 show(if shrs ts=true then some ts else none)=_
 rw [if_pos (yF h)]
theorem zbA {α:Type}{f:α->T}(h:∀ a,shr (f a)=true)(xs:List α):shrs (xs.map f)=true:=yF fun t ht=>by obtain⟨a,_,rfl⟩:=List.mem_map.mp ht;exact h a
theorem zbB (ns:List Int):(ns.map T.int).map fzi=ns.map T.int:=by rw [List.map_map];rfl
theorem rng1 {j:Int}(h:-(2 ^ 62)<=j/\j<2 ^ 62):itT .rng [.int j]=some ((List.range j.toNat).map fun(k:Nat)=>.int (k:Int)):=by simp only [itT,rngT,h,and_self,if_true]
theorem wo {n k:Nat}{d:T}(h:((List.range n).map fun(k:Nat)=>T.int (k:Int))[k]? = some d):d=.int k/\k<n:=by
 rw [List.getElem?_map] at h
 by_cases hk:k<n
 ·rw [List.getElem?_range hk] at h;cases h;exact⟨rfl,hk⟩
 ·rw [List.getElem?_eq_none (by simpa using hk)] at h;cases h
theorem jb {n:Nat}:((List.range n).map fun(k:Nat)=>T.int (k:Int)).length=n:=by simp
theorem ZR {α:Type}{xs:List α}{n:Nat}:cutL xs none (some (n:Int))=xs.take n:=by
 unfold cutL
 rw [HT.sIx_nat,HT.sIx_none,List.drop_zero,Nat.sub_zero]
 rcases Nat.le_total n xs.length with h | h
 ·rw [Nat.min_eq_left h]
 ·rw [Nat.min_eq_right h,List.take_of_length_le (Nat.le_refl _),List.take_of_length_le h]
theorem XX {t:List Nat}{i:Int}(h0:0<=i)(h1:i<t.length):∃ c,ixO (.str t) (.int i)=some (.str [c])/\c∈t:=by
 obtain⟨v,e1,e2⟩:=kY h0 h1
 refine⟨v,?_,List.mem_of_getElem? e2⟩
 show orE none (orE ((atI t i).map _) _)=_
 rw [e1]
 rfl
theorem ZS:∀ ts:List (List Nat),txts (ts.map .str)=some ts
 | []=>rfl
 | t::ts=>by show two (some t) (txts (ts.map .str)) _=_;rw [ZS ts];rfl
theorem Jx {ts:List (List Nat)}(h:ts.flatten.length<=16777216):meO .join (.str []) [.ls (ts.map .str)]=some (.str ts.flatten):=by
 show two (some []) (txts (ts.map .str)) _=_
 rw [ZS]
 show(if _ then _ else _)=_
 rw [if_pos ⟨rfl,h⟩]
end L4
namespace L4
open PySem L2 PySem.Spec PyProof.Rows
theorem zbC {xs:List T}{y:T}(h:xs.length<16777216):muT .append (.ls xs) [y]=some (.ls (xs++[y]),.non):=by simp only [muT,h,if_true]
theorem zf6 {m:List Nat}{i:Int}(h0:0<=i)(h1:i<m.length){cs:List Nat}(h:∀ c∈m,c∈cs):∃ c,ixO (.str m) (.int i)=some (.str [c])/\c∈cs:=by
 obtain⟨c,e,hc⟩:=XX h0 h1
 exact⟨c,e,h c hc⟩
noncomputable def zem (cs:List Nat):T->Bool
 | .str m=>!m.isEmpty&&m.all fun c=>cs.contains c
 | _=>false
theorem zdb {xs:List T}{i:Int}{cs:List Nat}(h0:0<=i)(h1:i<xs.length)(hb:xs.all (zem cs)=true):∃ m,ixO (.ls xs) (.int i)=some (.str m)/\0<m.length/\(∀ c∈m,c∈cs)/\T.str m∈xs:=by
 obtain⟨z,e1,_,e3⟩:=at_ok h0 h1
 have:=List.all_eq_true.mp hb z e3
 match z,e1,e3,this with
 | .str m,e1,e3,this=>
  simp only [zem,Bool.and_eq_true,Bool.not_eq_true',List.all_eq_true,List.contains_iff_mem] at this
  refine⟨m,e1,?_,this.2,e3⟩
  cases m with
  | nil=>simp at this
  | cons _ _=>simp
theorem zbD {ts:List (List Nat)}:(∀ t∈ts,t.length=1)->ts.flatten.length=ts.length:=fun h=>by
 induction ts with
 | nil=>rfl
 | cons t ts ih=>rw [List.flatten_cons,List.length_append,h t List.mem_cons_self,ih fun u hu=>h u (List.mem_cons_of_mem _ hu),List.length_cons];omega
end L4
namespace L4
open PySem L2 PySem.Spec PyProof.Rows
section
variable {s:Sl} {i:Nat} {t z:T} {P:T->Prop} {R:Prop}
theorem kN (h:s[i]? = some (.own t))(p:P t):∃ t,s[i]? = some (.own t)/\(true=true\/shr t=true)/\P t:=⟨t,h,.inl rfl,p⟩
theorem Yj (h:s[i]? = some (.own t))(k:shr t=true)(p:P t):∃ t,s[i]? = some (.own t)/\(false=true\/shr t=true)/\P t:=⟨t,h,.inr k,p⟩
theorem w_lk (h:s[i]? = some (.own t))(p:P t):∃ t,s[i]? = some (.own t)/\P t:=⟨t,h,p⟩
theorem zhk (h:s[i]? = some (.own t))(p:R):(∃ t,s[i]? = some (.own t))/\R:=⟨⟨t,h⟩,p⟩
theorem QZ {op:BO}{x y:T}(h:binO op x y=some z)(p:P z):∃ z,binO op x y=some z/\P z:=⟨z,h,p⟩
theorem zen {op:CO}{x y:T}{b:Bool}{P:Bool->Prop}(h:cmpO op x y=some b)(p:P b):∃ z,cmpO op x y=some z/\P z:=⟨b,h,p⟩
theorem zhl {x y:T}(h:ixO x y=some z)(p:P z):∃ z,ixO x y=some z/\(true=true\/shr z=true)/\P z:=⟨z,h,.inl rfl,p⟩
theorem WL {x y:T}(h:ixO x y=some z)(k:shr z=true)(p:P z):∃ z,ixO x y=some z/\(false=true\/shr z=true)/\P z:=⟨z,h,.inr k,p⟩
theorem w_sl {x:T}{l h:Option Int}(e:slO x l h=some z)(p:P z):∃ z,slO x l h=some z/\P z:=⟨z,e,p⟩
theorem w_it {k:IK}{ts ds:List T}{P:List T->Prop}(e:itT k ts=some ds)(p:P ds):∃ ds,itT k ts=some ds/\P ds:=⟨ds,e,p⟩
theorem w_bi {b:BI}{ts:List T}(e:biO b ts=some z)(p:P z):∃ z,biO b ts=some z/\P z:=⟨z,e,p⟩
theorem w_me {m:ME}{x:T}{ts:List T}(e:meO m x ts=some z)(p:P z):∃ z,meO m x ts=some z/\P z:=⟨z,e,p⟩
theorem zhm {x:T}{ks:List TyK}{b:Bool}{P:Bool->Prop}(e:isiO x ks=some b)(p:P b):∃ b,isiO x ks=some b/\P b:=⟨b,e,p⟩
theorem zhn {x:T}{k:Int}{P:Int->Prop}(e:intO x=some k)(p:P k):∃ i,intO x=some i/\P i:=⟨k,e,p⟩
theorem w_bl {x:T}{b:Bool}{P:Bool->Prop}(e:blO x=some b)(p:P b):∃ b,blO x=some b/\P b:=⟨b,e,p⟩
theorem zho {x:T}{b:Bool}{P:Bool->Prop}(e:truT x=some b)(p:P b):∃ b,truT x=some b/\P b:=⟨b,e,p⟩
theorem zhp {ms:List Md}{r:List T}{P:List T->Prop}(e:retA ms s=some r)(p:P r):∃ r,retA ms s=some r/\P r:=⟨r,e,p⟩
theorem w_at {q:List Nat}(e:getP s i q=some t)(p:P t):∃ t,getP s i q=some t/\P t:=⟨t,e,p⟩
theorem zhq {q:List Nat}(e:getP s i q=some t)(p:R):(∃ t,getP s i q=some t/\True)/\R:=⟨⟨t,e,trivial⟩,p⟩
theorem zhr {q:List Nat}(e:getP s i q=some t)(k:isLs t=true)(p:R):(∃ t,getP s i q=some t/\isLs t=true)/\R:=⟨⟨t,e,k⟩,p⟩
theorem w_mu {q:List Nat}{m:MU}{as:List T}{r:T×T}{P:T×T->Prop}(e:getP s i q=some t)(k:muT m t as=some r)(p:P r):∃ t r,getP s i q=some t/\muT m t as=some r/\P r:=⟨t,r,e,k,p⟩
theorem zhs {q:List Nat}{y o t':T}{P:T->Prop}(e:getP s i q=some t)(k:putO t y o=some t')(p:P t'):∃ t t',getP s i q=some t/\putO t y o=some t'/\P t':=⟨t,t',e,k,p⟩
theorem zht {q:List Nat}{y:T}{j:Nat}{P:Nat->Prop}(e:getP s i q=some t)(k:stepI t y=some j)(p:P j):∃ t j,getP s i q=some t/\stepI t y=some j/\P j:=⟨t,j,e,k,p⟩
theorem XY (p:R):True/\R:=⟨trivial,p⟩
theorem zhu {ts:List T}{n:Nat}(h:ts.length<=n)(p:R):ts.length<=n/\R:=⟨h,p⟩
theorem zhv {m:ME}{x:T}(h:meK m x=true)(p:R):meK m x=true/\R:=⟨h,p⟩
theorem zhw {α:Type}(p:R):([]:List α)=[]/\R:=⟨rfl,p⟩
theorem w_no {b:T}(p:R):(false=true->cln b=true)/\R:=⟨nofun,p⟩
theorem zhx {b:T}(h:cln b=true)(p:R):(true=true->cln b=true)/\R:=⟨fun _=>h,p⟩
end
end L4
namespace L4
open PySem L2 PySem.Spec PyProof.Rows
theorem zhy {i j:Int}:cmpO .eq (.int i) (.int j)=some (decide (i=j)):=by simp only [cmpO,eqT,scT,two,Option.bind_some,scal,if_true,orE,V.int.injEq]
theorem zhz {i j:Int}:cmpO .ne (.int i) (.int j)=some (!decide (i=j)):=by simp only [cmpO,eqT,scT,two,Option.bind_some,scal,if_true,orE,V.int.injEq,Option.map_some]
theorem zeo {t u:List Nat}:cmpO .eq (.str t) (.str u)=some (decide (t=u)):=by simp only [cmpO,eqT,scT,two,Option.bind_some,scal,if_true,orE,V.str.injEq,zdJ]
theorem zhA {t u:List Nat}:cmpO .ne (.str t) (.str u)=some (!decide (t=u)):=by simp only [cmpO,eqT,scT,two,Option.bind_some,scal,if_true,orE,V.str.injEq,zdJ,Option.map_some]
theorem zep {p:Prop} [Decidable p]{A B:Prop}(h1:¬ p->A)(h2:p->B):if (!decide p)=true then A else B:=by
 by_cases h:p
 ·rw [if_neg (by simpa using h)];exact h2 h
 ·rw [if_pos (by simpa using h)];exact h1 h
theorem yG {n:Nat}{j:Int}(e:j=n)(h:n<4611686018427387904):itT .rng [.int j]=some ((List.range n).map fun(k:Nat)=>.int (k:Int)):=by
 subst e
 rw [rng1 (by omega)]
 rfl
end L4
namespace L4
theorem w_lt {ts:List T}{n:Nat}{R:Prop}(h:ts.length<n)(p:R):ts.length<n/\R:=⟨h,p⟩
theorem vK {α:Type}{P:α->Prop}{ts:List α}{c:α}(h:∀ t∈ts,P t)(hc:P c):∀ t∈ts++[c],P t:=fun t ht=>by
 rcases List.mem_append.mp ht with z | z
 ·exact h t z
 ·rw [List.mem_singleton.mp z];exact hc
theorem yH {α β:Type}{f:α->β}{ts:List α}{c:α}:ts.map f++[f c]=(ts++[c]).map f:=by rw [List.map_append];rfl
theorem wb {α:Type}{ts:List α}{c:α}{k:Nat}(h:ts.length=k):(ts++[c]).length=k+1:=by rw [List.length_append,h];rfl
end L4
namespace L4
theorem j3:∀ {ts:List T},(∀ t∈ts,strip t=t)->zb ts=ts
 | [],_=>rfl
 | t::ts,h=>by
  show strip t::zb ts=_
  rw [h t List.mem_cons_self,j3 fun u hu=>h u (List.mem_cons_of_mem _ hu)]
theorem zr {α:Type}{f:α->T}(h:∀ a,strip (f a)=f a)(xs:List α):zb (xs.map f)=xs.map f:=j3 fun t ht=>by
 obtain⟨a,_,rfl⟩:=List.mem_map.mp ht;exact h a
theorem zI:∀ {xs ys:List T},zb (xs++ys)=zb xs++zb ys
 | [],_=>rfl
 | x::xs,ys=>by show strip x::zb (xs++ys)=_;rw [zI];rfl
end L4
namespace L4
open PySem L2 PySem.Spec PyProof.Rows
def subL (l y:List Nat)(i:Nat):Prop:=(l.drop i).take y.length=y
theorem zbE {l y:List Nat}{i:Nat}:StrLaws.At (S l) (S y) (S l).length i↔i+y.length<=l.length/\subL l y i:=by
 unfold StrLaws.At Builtin.Str.subAt subL
 rw [ji,ji,beq_iff_eq]
 have e:(S l).cps.extract i (i+y.length)=(S y).cps↔(l.drop i).take y.length=y:=by
  show(l.toArray).extract i (i+y.length)=y.toArray↔_
  rw [← Array.toList_inj]
  simp [Array.toList_extract,List.extract,Nat.add_sub_cancel_left]
 rw [e]
theorem ZT (l y:List Nat):(occs l y=[]/\∀ i,i+y.length<=l.length->¬ subL l y i)\/∃ i r,occs l y=i::r/\i+y.length<=l.length/\subL l y i/\∀ k,k<i->¬ subL l y k:=by
 rcases StrLaws.occ_head (S l) (S y) 1 (Nat.le_refl _) with⟨h1,h2⟩ | ⟨i,r,h1,h2,h3⟩
 ·exact .inl ⟨h1,fun i hi z=>h2 i (zbE.mpr ⟨hi,z⟩)⟩
 ·obtain⟨a,b⟩:=zbE.mp h2
  exact .inr ⟨i,r,h1,a,b,fun k hk z=>h3 k hk (zbE.mpr ⟨by omega,z⟩)⟩
theorem zbF {l y:List Nat}{i m:Nat}(h:∀ k,k<i->¬ subL l y k)(hm:m<i+y.length):occs (l.take m) y=[]:=by
 rcases ZT (l.take m) y with⟨h1,_⟩ | ⟨j,r,_,a,b,_⟩
 ·exact h1
 ·rw [List.length_take] at a
  refine absurd ?_ (h j (by omega))
  unfold subL at b ⊢
  rwa [List.drop_take,List.take_take,Nat.min_eq_left (by omega)] at b
end L4
namespace L4
theorem zhB {b:Bool}{A B:Prop}(h:b=false)(p:B):if b=true then A else B:=by subst h;exact p
theorem zeq {b:Bool}{A B:Prop}(h:b=true)(p:A):if b=true then A else B:=by subst h;exact p
end L4
namespace L4
theorem Yk {p:Prop} [Decidable p]{A B:Prop}(h1:¬ p->A)(h2:p->B):if decide p=false then A else B:=by
 by_cases h:p
 ·rw [if_neg (by simpa using h)];exact h2 h
 ·rw [if_pos (by simpa using h)];exact h1 h
end L4
namespace L4
open PySem L2 PySem.Spec PyProof.Rows
theorem wM {xs:List T}{y:T}:stepI (.ls (xs++[y])) (.int (-1))=some xs.length:=by
 show ixN (xs++[y]).length (-1)=_
 unfold ixN
 rw [List.length_append,if_neg (by decide),if_pos (by simp only [List.length_cons,List.length_nil];omega)]
 simp only [List.length_cons,List.length_nil]
 congr 1
 omega
theorem qu {xs:List T}{y:T}{p:List Nat}:getT (.ls (xs++[y])) (xs.length::p)=getT y p:=by
 show(match (xs++[y])[xs.length]? with | some x=>getT x p | none=>none)=_
 rw [List.getElem?_concat_length]
theorem yI {xs:List T}{y n:T}{p:List Nat}:setT (.ls (xs++[y])) (xs.length::p) n=.ls (xs++[setT y p n]):=by
 show(match (xs++[y])[xs.length]? with | some x=>T.ls ((xs++[y]).set xs.length (setT x p n)) | none=>_)=_
 rw [List.getElem?_concat_length]
 simp
theorem zhC (s:Sl):(s.map Slot.noAl).map Slot.noAl=s.map Slot.noAl:=by
 rw [List.map_map]
 exact List.map_congr_left fun a _=>by cases a<;>rfl
theorem Q0 (t:T):strip (fzi t)=strip t:=by cases t<;>rfl
theorem j4 (xs:List T):(zb xs).length=xs.length:=by rw [qd,List.length_map]
theorem qm:∀ {xs ys:List T},shrs xs=true->shrs ys=true->shrs (xs++ys)=true
 | [],_,_,h=>h
 | x::xs,ys,h,h'=>by
  simp only [shrs,Bool.and_eq_true] at h
  show(shr x&&shrs (xs++ys))=true
  rw [h.1,qm h.2 h'];rfl
theorem ZU {xs ys:List T}(hx:shrs xs=true)(hy:shrs ys=true)(hl:xs.length+ys.length<=16777216):binO .add (.ls xs) (.ls ys)=some (.ls (xs++ys)):=by
 simp only [binO,intO,strO,two,Option.bind_none,orE,lsV,shO,Option.bind_some,hx,hy,if_true,Wr,hl,and_self]
theorem catG {xs ys:List T}(hx:shrs xs=true)(hy:shrs (ys.map fzi)=true)(hl:xs.length+ys.length<=16777216):binO .add (.ls xs) (.fz (.ls ys))=some (.ls (xs++ys.map fzi)):=by
 have hl':xs.length+(ys.map fzi).length<=16777216:=by rw [List.length_map];exact hl
 simp only [binO,intO,strO,two,Option.bind_none,orE,lsV,shO,Option.bind_some,hx,hy,if_true,Wr,hl',and_self]
theorem catF {xs ys:List T}(hx:shrs (xs.map fzi)=true)(hy:shrs ys=true)(hl:xs.length+ys.length<=16777216):binO .add (.fz (.ls xs)) (.ls ys)=some (.ls (xs.map fzi++ys)):=by
 have hl':(xs.map fzi).length+ys.length<=16777216:=by rw [List.length_map];exact hl
 simp only [binO,intO,strO,two,Option.bind_none,orE,lsV,shO,Option.bind_some,hx,hy,if_true,Wr,hl',and_self]
theorem atI_nat {α:Type}{xs:List α}{k:Nat}{x:α}(h:xs[k]? = some x):atI xs (k:Int)=some x:=by
 have hk:=(List.getElem?_eq_some_iff.mp h).1
 obtain⟨v,e1,e2⟩:=kY (xs:=xs) (i:=(k:Int)) (by omega) (by omega)
 have e3:(k:Int).toNat=k:=by omega
 rw [e3,h] at e2
 rw [e1,e2]
theorem ix_seq {x z:T}{xs:List T}{k:Nat}(hx:seqV x=some xs)(h:xs[k]? = some z):ixO x (.int (k:Int))=some z:=by
 show orE (two (seqV x) (some (k:Int)) _) _=_
 rw [hx]
 show orE (atI xs (k:Int)) _=_
 rw [atI_nat h]
 rfl
theorem zbG {x:T}{xs:List T}:ixO (.fz (.tp (x::xs))) (.int 0)=some (fzi x):=ix_seq (k:=0) (xs:=(x::xs).map fzi) rfl rfl
theorem zhD {α:Type}{A B:Prop}(p:A):(([]:List α)=[]/\A)\/B:=.inl ⟨rfl,p⟩
theorem zhE {α:Type}{x:α}{xs:List α}{A B:Prop}(p:B):(x::xs=[]/\A)\/(x::xs≠[]/\B):=.inr ⟨nofun,p⟩
theorem w_ff {A B:Prop}(p:A):if false=false then A else B:=by rw [if_pos rfl];exact p
theorem w_tf {A B:Prop}(p:B):if true=false then A else B:=by rw [if_neg nofun];exact p
theorem w_tt {A B:Prop}(p:A):if true=true then A else B:=by rw [if_pos rfl];exact p
theorem w_ft {A B:Prop}(p:B):if false=true then A else B:=by rw [if_neg nofun];exact p
theorem zhF {b:Bool}{A B:Prop}(h:b=false)(p:A):if b=false then A else B:=by subst h;exact p
theorem zhG {b:Bool}{A B:Prop}(h:b=true)(p:B):if b=false then A else B:=by subst h;exact p
theorem wV:∀ n:Nat,biO .all [.ls (List.replicate n (.bl true))]=some (.bl true):=by
 intro n
 have:biO.bls (List.replicate n (.bl true))=some (List.replicate n true):=by
  induction n with
  | zero=>rfl
  | succ n ih=>rw [List.replicate_succ,List.replicate_succ];show two (some true) (biO.bls _) _=_;rw [ih];rfl
 show(biO.bls (List.replicate n (.bl true))).map _=_
 rw [this]
 simp
theorem zhH {b:Bool}{A B:Prop}(h:b=false)(p:A):if (!b)=true then A else B:=by subst h;exact p
theorem zhI {b:Bool}{A B:Prop}(h:b=true)(p:B):if (!b)=true then A else B:=by subst h;exact p
theorem zhJ {b:Bool}{A B:Prop}(h:b=false)(p:B):if (!b)=false then A else B:=by subst h;exact p
theorem zhK {b:Bool}{A B:Prop}(h:b=true)(p:A):if (!b)=false then A else B:=by subst h;exact p
theorem zf7 {x y:T}{i j:Int}{P:Int->Int->Prop}(h1:intO x=some i)(h2:intO y=some j)(p:P i j):∃ i j,intO x=some i/\intO y=some j/\P i j:=⟨i,j,h1,h2,p⟩
theorem w_ci {o:CO}{i j:Int}{b:Bool}{P:Bool->Prop}(h:cmpI o i j=some b)(p:P b):∃ z,cmpI o i j=some z/\P z:=⟨b,h,p⟩
theorem yZ {fe:Sl->QP->Prop}{ds:List T}{s:Sl}{Q:QP}(h:∀ d∈ds,∀ K:QP,K (.bl true) (.own d::s)->fe (.own d::s) K)(hl:ds.length<=1000000)(hs:s.map Slot.noAl=s)(q:Q (.ls (List.replicate ds.length (.bl true))) s):wG 1 (fun s K=>K true s) fe ds [] s Q:=by
 refine j0 (fun k acc s'=>acc=List.replicate k (.bl true)/\s' = s) ⟨rfl,rfl⟩ ?_ ?_
 ·rintro k d acc _ hd ⟨rfl,rfl⟩ K hK
  have hk:=(List.getElem?_eq_some_iff.mp hd).1
  refine⟨[.own d],rfl,?_⟩
  refine w_tt (h d (List.mem_of_getElem? hd) _ ⟨?_,?_⟩)
  ·rw [List.length_replicate];omega
  ·refine hK _ _ ⟨?_,hs⟩
   rw [List.replicate_succ']
 ·rintro acc _ ⟨rfl,rfl⟩
  exact q
theorem y9 {α:Type}{fe:Sl->QP->Prop}{as:List α}{f g:α->T}{s:Sl}{Q:QP}(h:∀ a∈as,∀ K:QP,K (g a) (.own (f a)::s)->fe (.own (f a)::s) K)(hl:as.length<=1000000)(hs:s.map Slot.noAl=s)(q:Q (.ls (as.map g)) s):wG 1 (fun s K=>K true s) fe (as.map f) [] s Q:=by
 refine j0 (fun k acc s'=>acc=(as.take k).map g/\s' = s) ⟨rfl,rfl⟩ ?_ ?_
 ·rintro k d acc _ hd ⟨rfl,rfl⟩ K hK
  rw [List.getElem?_map] at hd
  obtain⟨a,hc,rfl⟩:=Option.map_eq_some_iff.mp hd
  have hk:=(List.getElem?_eq_some_iff.mp hc).1
  refine⟨[.own (f a)],rfl,?_⟩
  refine w_tt (h a (List.mem_of_getElem? hc) _ ⟨?_,?_⟩)
  ·rw [List.length_map,List.length_take];omega
  ·refine hK _ _ ⟨?_,hs⟩
   rw [List.take_succ,hc,List.map_append]
   rfl
 ·rintro acc _ ⟨rfl,rfl⟩
  rw [List.length_map,List.take_length]
  exact q
theorem zbH {c:Nat}{l:List Nat}(h:c∈l):cmpO .isin (.str [c]) (.str l)=some true:=by
 show some (decide (c∈l))=_
 rw [decide_eq_true h]
theorem sg_len (t:List Nat):(signs t).length=t.length:=List.length_map _
theorem qw {α:Type}{f:α->T}(h:∀ a,∃ xs,f a=.tp xs)(as:List α):itT .seq [.fz (.ls (as.map f))]=some (as.map fun a=>.fz (f a)):=by
 show orE (shO (some ((as.map f).map fzi))) _=_
 have:(as.map f).map fzi=as.map fun a=>T.fz (f a):=by
  rw [List.map_map]
  exact List.map_congr_left fun a _=>by
   obtain⟨xs,e⟩:=h a
   show fzi (f a)=_
   rw [e];rfl
 rw [this,jq fun t ht=>by obtain⟨a,_,rfl⟩:=List.mem_map.mp ht;rfl]
 rfl
theorem Jy (ts:List (List Nat)):itT .seq [.fz (.ls (ts.map .str))]=some (ts.map .str):=by
 show orE (shO (some ((ts.map T.str).map fzi))) _=_
 have:(ts.map T.str).map fzi=ts.map T.str:=by rw [List.map_map];rfl
 rw [this,jq fun t ht=>by obtain⟨a,_,rfl⟩:=List.mem_map.mp ht;rfl]
 rfl
theorem zbI {xs:List T}:biO .len [.fz (.ls xs)]=some (.int xs.length):=by
 show some (T.int ((xs.map fzi).length:Nat))=_
 rw [List.length_map]
theorem zbJ {p:Prop} [Decidable p]{A B:Prop}(h1:p->A)(h2:¬ p->B):if (!decide p)=false then A else B:=by
 by_cases h:p
 ·rw [if_pos (by simpa using h)];exact h1 h
 ·rw [if_neg (by simpa using h)];exact h2 h
end L4
set_option maxHeartbeats 4000000
namespace My
open PySem L2 L4 PySem.Spec PyProof.Rows
local macro_rules | `(tactic| walk_at "sc") => `(tactic| exact ⟨rfl, rfl, rfl, by decide +kernel, rfl, by decide +kernel, by decide +kernel⟩)
noncomputable def top (i:Nat):Stmt:=PySem.Challenge.pw_sealpress_k31_rows_of_a_page.main.body.getD i (.Pass ⟨0,0,0,0⟩)
noncomputable abbrev wq:Stmt:=top 9
noncomputable abbrev Qf:List Str:=["thing","word","length"]
noncomputable abbrev jc:List Str:=["thing","word","length"]
theorem ZV:zj Qf jc (za wq):=by walk_at "sc"
noncomputable abbrev ka:Stmt:=top 5
noncomputable abbrev Kg:List Str:=["thing"]
noncomputable abbrev wW:List Str:=["thing"]
theorem XZ:zj Kg wW (za ka):=by walk_at "sc"
noncomputable abbrev kb:Stmt:=top 4
noncomputable abbrev Kh:List Str:=["thing"]
noncomputable abbrev wX:List Str:=["thing"]
theorem X0:zj Kh wX (za kb):=by walk_at "sc"
noncomputable abbrev kc:Stmt:=top 10
noncomputable abbrev Ki:List Str:=["thing"]
noncomputable abbrev wY:List Str:=["thing"]
theorem X1:zj Ki wY (za kc):=by walk_at "sc"
noncomputable abbrev xS:Stmt:=top 11
noncomputable abbrev WM:List Str:=["thing"]
noncomputable abbrev jO:List Str:=["thing"]
theorem Jz:zj WM jO (za xS):=by walk_at "sc"
noncomputable abbrev wZ:Stmt:=top 12
noncomputable abbrev JA:List Str:=["kind","thing"]
noncomputable abbrev jr:List Str:=["kind","thing"]
theorem Qg:zj JA jr (za wZ):=by walk_at "sc"
noncomputable abbrev ke:Stmt:=top 13
noncomputable abbrev Kj:List Str:=["thing"]
noncomputable abbrev w6:List Str:=["thing"]
theorem X2:zj Kj w6 (za ke):=by walk_at "sc"
noncomputable abbrev xa:Stmt:=top 14
noncomputable abbrev JB:List Str:=["thing"]
noncomputable abbrev js:List Str:=["thing"]
theorem Qh:zj JB js (za xa):=by walk_at "sc"
noncomputable abbrev wt:Stmt:=top 15
noncomputable abbrev Qi:List Str:=["thing","inmost"]
noncomputable abbrev jd:List Str:=["thing","inmost"]
theorem ZW:zj Qi jd (za wt):=by walk_at "sc"
noncomputable abbrev wu:Stmt:=top 16
noncomputable abbrev Qj:List Str:=["thing","opens","at","row","inmost"]
noncomputable abbrev je:List Str:=["thing"]
theorem ZX:zj Qj je (za wu):=by walk_at "sc"
noncomputable abbrev kf:Stmt:=top 17
noncomputable abbrev Kk:List Str:=["thing"]
noncomputable abbrev xb:List Str:=["thing"]
theorem X3:zj Kk xb (za kf):=by walk_at "sc"
noncomputable abbrev xc:Stmt:=top 18
noncomputable abbrev JC:List Str:=["events","parts","event"]
noncomputable abbrev jt:List Str:=["events"]
theorem Qk:zj JC jt (za xc):=by walk_at "sc"
noncomputable abbrev jF:Stmt:=top 19
noncomputable abbrev kU:List Str:=["kind","text"]
noncomputable abbrev qD:List Str:=["kind","text"]
theorem kg:zj kU qD (za jF):=by walk_at "sc"
noncomputable abbrev kh:Stmt:=top 20
noncomputable abbrev Kl:List Str:=["events","rows","event","text","word"]
noncomputable abbrev xf:List Str:=["events"]
theorem X5:zj Kl xf (za kh):=by walk_at "sc"
noncomputable abbrev jG:Stmt:=top 21
noncomputable abbrev kW:List Str:=["kind","content"]
noncomputable abbrev qE:List Str:=["kind","content"]
theorem ki:zj kW qE (za jG):=by walk_at "sc"
noncomputable abbrev xT:Stmt:=top 22
noncomputable abbrev WN:List Str:=["row"]
noncomputable abbrev jP:List Str:=["row"]
theorem JD:zj WN jP (za xT):=by walk_at "sc"
noncomputable abbrev v9:Stmt:=top 23
noncomputable abbrev X6:List Str:=["page"]
noncomputable abbrev wc:List Str:=["page"]
theorem WQ:zj X6 wc (za v9):=by walk_at "sc"
noncomputable abbrev xg:Stmt:=top 26
noncomputable abbrev JE:List Str:=["_law_script","_law_seed","_law_cell"]
noncomputable abbrev ju:List Str:=["_law_script"]
theorem Ql:zj JE ju (za xg):=by walk_at "sc"
noncomputable abbrev xh:Stmt:=top 25
noncomputable abbrev JF:List Str:=["_law_cell","_law_k","_law_first","_law_second","_law_number"]
noncomputable abbrev jv:List Str:=["_law_cell","_law_k"]
theorem Qm:zj JF jv (za xh):=by walk_at "sc"
noncomputable abbrev xU:Stmt:=top 27
noncomputable abbrev WR:List Str:=["_law_state_here","_law_many","_law_at"]
noncomputable abbrev jQ:List Str:=["_law_state_here","_law_many"]
theorem JG:zj WR jQ (za xU):=by walk_at "sc"
noncomputable abbrev xi:Stmt:=top 28
noncomputable abbrev JH:List Str:=["_law_state_here","_law_most","_law_menu","_law_number","_law_signs_here","_law_k"]
noncomputable abbrev jw:List Str:=["_law_state_here","_law_most"]
theorem Qn:zj JH jw (za xi):=by walk_at "sc"
noncomputable abbrev xV:Stmt:=top 29
noncomputable abbrev WU:List Str:=["_law_state_here","_law_cell","_law_letters"]
noncomputable abbrev jR:List Str:=["_law_state_here"]
theorem JI:zj WU jR (za xV):=by walk_at "sc"
noncomputable abbrev xj:Stmt:=top 30
noncomputable abbrev JJ:List Str:=["_law_state_here","_law_cell"]
noncomputable abbrev jx:List Str:=["_law_state_here"]
theorem Qo:zj JJ jx (za xj):=by walk_at "sc"
noncomputable abbrev xW:Stmt:=top 31
noncomputable abbrev WV:List Str:=["_law_state_here","_law_kind","_law_name_here"]
noncomputable abbrev jS:List Str:=["_law_state_here"]
theorem JK:zj WV jS (za xW):=by walk_at "sc"
noncomputable abbrev ya:Stmt:=top 32
noncomputable abbrev X7:List Str:=["_law_state_here","_law_rows","_law_opens","_law_name_here","_law_told"]
noncomputable abbrev we:List Str:=["_law_state_here","_law_rows","_law_opens"]
theorem WW:zj X7 we (za ya):=by walk_at "sc"
noncomputable abbrev xX:Stmt:=top 33
noncomputable abbrev WX:List Str:=["_law_state_here","_law_most","_law_rows","_law_opens","_law_k"]
noncomputable abbrev jT:List Str:=["_law_state_here","_law_most"]
theorem JL:zj WX jT (za xX):=by walk_at "sc"
noncomputable abbrev qT:Stmt:=top 34
noncomputable abbrev kO:List Str:=["_law_found","_law_due"]
noncomputable abbrev qF:List Str:=["_law_found","_law_due"]
theorem yJ:zj kO qF (za qT):=by walk_at "sc"
noncomputable abbrev qG:Stmt:=top 35
noncomputable abbrev yK:List Str:=["_law_thing","_law_one"]
noncomputable abbrev qo:List Str:=["_law_thing"]
theorem vU:zj yK qo (za qG):=by walk_at "sc"
noncomputable abbrev qR:Stmt:=top 36
noncomputable abbrev yb:List Str:=["_law_attr_here","_law_name_here","_law_kind","_law_told","_law_events_here","_law_k","_law_word","_law_text"]
noncomputable abbrev z8:List Str:=["_law_attr_here"]
theorem vO:zj yb z8 (za qR):=by walk_at "sc"
noncomputable abbrev wx:Stmt:=top 37
noncomputable abbrev Qp:List Str:=["_law_page_here","_law_events_here","_law_row","_law_attr_here"]
noncomputable abbrev jf:List Str:=["_law_page_here"]
theorem ZY:zj Qp jf (za wx):=by walk_at "sc"
noncomputable abbrev qp:Stmt:=top 38
noncomputable abbrev vV:List Str:=["_law_told"]
noncomputable abbrev qa:List Str:=["_law_told"]
theorem xY:zj vV qa (za qp):=by walk_at "sc"
noncomputable abbrev xl:Stmt:=top 39
noncomputable abbrev JM:List Str:=["_law_page_here","_law_rows","_law_row"]
noncomputable abbrev jy:List Str:=["_law_page_here"]
theorem Qq:zj JM jy (za xl):=by walk_at "sc"
noncomputable abbrev zbK:Stmt:=top 40
noncomputable abbrev zhL:List Str:=["_law_script","_law_state_here","_law_page_here","_law_events_here","_law_handed","_law_found","_law_again","_law_shape_here"]
noncomputable abbrev JN:List Str:=["_law_script"]
theorem zf8:zj zhL JN (za zbK):=by walk_at "sc"
noncomputable abbrev g_SIGNS:T:=.str [32,33,34,35,36,38,39,40,41,42,43,44,45,46,47,48,49,50,51,52,53,54,55,56,57,58,59,60,61,62,63,64,65,66,67,68,69,70,71,72,73,74,75,76,77,78,79,80,81,82,83,84,85,86,87,88,89,90,91,92,93,94,95,96,97,98,99,100,101,102,103,104,105,106,107,108,109,110,111,112,113,114,115,116,117,118,119,120,121,122,123,124,125,126]
noncomputable abbrev g_LETTERS:T:=.str [97,98,99,100,101,102,103,104,105,106,107,108,109,110,111,112,113,114,115,116,117,118,119,120,121,122]
noncomputable abbrev g_LONGEST_NAME:T:=.int 8
noncomputable abbrev g_WORDSIGNS:T:=.str [97,98,99,100,101,102,103,104,105,106,107,108,109,110,111,112,113,114,115,116,117,118,119,120,121,122,48,49,50,51,52,53,54,55,56,57,45]
noncomputable abbrev g_ASIS_END:T:=.str [60,47,97,115,105,115,62]
noncomputable def wy:List Cm:=[.ret (.bo true [(.isi (.b 0) [.tuple]),(.cmp .eq (.bi .len [(.b 0)]) (.b 2)),(.isi (.ix (.b 0) (.c (.int 0))) [.str]),(.cmp .eq (.ix (.b 0) (.c (.int 0))) (.b 1))])]
@[irreducible] noncomputable def zp:Fn:=fnD [.fz,.fz,.fz] 3 wy
noncomputable def kj:List Cm:=[.ife (.tb false [(.tn (.t (.isi (.b 0) [.str]))),(.tn (.chn .le .le (.c (.int 1)) (.bi .len [(.b 0)]) (.g "LONGEST_NAME" g_LONGEST_NAME)))]) [.ret (.c (.bl false))] [],
  .ret (.bi .all [(.lc (.cmp .isin (.b 0) (.g "LETTERS" g_LETTERS)) 1 .seq [(.b 0)] [])])]
@[irreducible] noncomputable def qH:Fn:=fnD [.fz] 1 kj
noncomputable def kl:List Cm:=[.ret (.bo true [(.isi (.b 0) [.str]),(.bi .all [(.lc (.cmp .isin (.b 0) (.g "SIGNS" g_SIGNS)) 1 .seq [(.b 0)] [])])])]
@[irreducible] noncomputable def zV:Fn:=fnD [.fz] 1 kl
noncomputable def km:List Cm:=[.ret (.bo true [(.isi (.b 0) [.str]),(.cmp .gt (.bi .len [(.b 0)]) (.c (.int 0))),(.bi .all [(.lc (.cmp .isin (.b 0) (.g "WORDSIGNS" g_WORDSIGNS)) 1 .seq [(.b 0)] [])])])]
@[irreducible] noncomputable def jm:Fn:=fnD [.fz] 1 km
noncomputable def xZ:List Cm:=[.ife (.t (.call "is_tuple_of" [.fz,.fz,.fz] false zp [(.b 0),(.c (.str [119,111,114,100])),(.c (.int 2))])) [.ret (.call "is_word" [.fz] false jm [(.ix (.b 0) (.c (.int 1)))])] [],
  .ret (.bo true [(.call "is_tuple_of" [.fz,.fz,.fz] false zp [(.b 0),(.c (.str [115,97,105,100])),(.c (.int 2))]),(.call "is_text" [.fz] false zV [(.ix (.b 0) (.c (.int 1)))])])]
@[irreducible] noncomputable def qx:Fn:=fnD [.fz] 1 xZ
noncomputable def xm:List Cm:=[.ife (.cmp .isin (.b 0) (.tup [(.c (.str [98,97,114,101])),(.c (.str [113,117,111,116,101,100]))])) [.ret (.call "is_text" [.fz] false zV [(.b 1)])] [],
  .ife (.cmp .eq (.b 0) (.c (.str [114,111,119]))) [.ret (.bo true [(.isi (.b 1) [.list]),(.cmp .gt (.bi .len [(.b 1)]) (.c (.int 0))),(.bi .all [(.lc (.call "is_text" [.fz] false zV [(.b 0)]) 1 .seq [(.b 1)] [])])])] [],
  .ret (.bo true [(.cmp .eq (.b 0) (.c (.str [116,97,108,107]))),(.isi (.b 1) [.list]),(.bi .all [(.lc (.call "is_talked" [.fz] false qx [(.b 0)]) 1 .seq [(.b 1)] [])])])]
@[irreducible] noncomputable def qe:Fn:=fnD [.fz,.fz] 2 xm
noncomputable def kn:List Cm:=[.ife (.tb false [(.tn (.t (.isi (.b 0) [.tuple]))),(.cmp .ne (.bi .len [(.b 0)]) (.c (.int 3)))]) [.ret (.c (.bl false))] [],
  .ret (.bo true [(.call "is_name" [.fz] false qH [(.ix (.b 0) (.c (.int 0)))]),(.isi (.ix (.b 0) (.c (.int 1))) [.str]),(.call "is_content" [.fz,.fz] false qe [(.ix (.b 0) (.c (.int 1))),(.ix (.b 0) (.c (.int 2)))])])]
@[irreducible] noncomputable def jn:Fn:=fnD [.fz] 1 kn
noncomputable def jU:List Cm:=[.ife (.tb false [(.tn (.t (.call "is_tuple_of" [.fz,.fz,.fz] false zp [(.b 0),(.c (.str [98,111,120])),(.c (.int 3))]))),(.tn (.t (.call "is_name" [.fz] false qH [(.ix (.b 0) (.c (.int 1)))])))]) [.ret (.c (.bl false))] [],
  .ret (.bo true [(.isi (.ix (.b 0) (.c (.int 2))) [.list]),(.bi .all [(.lc (.call "is_attr" [.fz] false jn [(.b 0)]) 1 .seq [(.ix (.b 0) (.c (.int 2)))] [])])])]
@[irreducible] noncomputable def zP:Fn:=fnD [.fz] 1 jU
noncomputable def wz:List Cm:=[.ife (.tb false [(.tn (.t (.call "is_tuple_of" [.fz,.fz,.fz] false zp [(.b 0),(.c (.str [116,101,120,116])),(.c (.int 2))]))),(.tn (.t (.call "is_text" [.fz] false zV [(.ix (.b 0) (.c (.int 1)))])))]) [.ret (.c (.bl false))] [],
  .ret (.bo false [(.cmp .ne (.b 1) (.c (.str [97,115,105,115]))),(.cmp .notin (.g "ASIS_END" g_ASIS_END) (.ix (.b 0) (.c (.int 1))))])]
@[irreducible] noncomputable def z0:Fn:=fnD [.fz,.fz] 2 wz
noncomputable def z5:List Cm:=[.ife (.tn (.t (.isi (.b 0) [.list]))) [.ret (.c (.int 0))] [],
  .asg (.v 1) (.lst []),
  .loop (.tup [2,3]) .enumL [(.b 0)] [.asg (.v 4) (.ife (.t (.b 1)) (.ix (.b 1) (.neg (.c (.int 1)))) (.c (.str []))),
  .ife (.cmp .eq (.bin .mod (.b 2) (.c (.int 2))) (.c (.int 0))) [.ife (.tn (.t (.call "is_text_row" [.fz,.fz] false z0 [(.b 3),(.b 4)]))) [.ret (.b 2)] []] [.ife (.tb true [(.t (.call "is_box_row" [.fz] false zP [(.b 3)])),(.cmp .ne (.b 4) (.c (.str [97,115,105,115])))]) [.ex (.mu .append (.b 1) [(.ix (.b 3) (.c (.int 1)))])] [.ife (.tb true [(.t (.call "is_tuple_of" [.fz,.fz,.fz] false zp [(.b 3),(.c (.str [111,117,116])),(.c (.int 1))])),(.t (.b 1))]) [.ex (.mu .pop (.b 1) [])] [.ret (.b 2)]]]],
  .ret (.ife (.tb false [(.t (.b 1)),(.cmp .eq (.bin .mod (.bi .len [(.b 0)]) (.c (.int 2))) (.c (.int 0)))]) (.bi .len [(.b 0)]) (.c .non))]
@[irreducible] noncomputable def z6:Fn:=fnD [.fz] 5 z5
noncomputable def ko:List Cm:=[.ret (.cmp .is (.call "first_fault" [.fz] false z6 [(.b 0)]) (.c .non))]
@[irreducible] noncomputable def qU:Fn:=fnD [.fz] 1 ko
noncomputable def xn:List Cm:=[.asg (.v 1) (.lst [(.tup [(.tup [(.c (.str [105,110]))]),(.lst [])])]),
  .loop (.v 2) .seq [(.b 0)] [.ife (.cmp .eq (.ix (.b 2) (.c (.int 0))) (.c (.str [115,105,103,110]))) [.ex (.mu .append (.ix (.ix (.b 1) (.neg (.c (.int 1)))) (.c (.int 1))) [(.ix (.b 2) (.c (.int 1)))])] [.ex (.mu .append (.b 1) [(.tup [(.b 2),(.lst [])])])]],
  .ret (.lc (.tup [(.b 0),(.me .join (.c (.str [])) [(.b 1)])]) 2 .seq [(.v 1)] [])]
@[irreducible] noncomputable def qf:Fn:=fnD [.fz] 3 xn
noncomputable def jH:List Cm:=[.ife (.cmp .eq (.b 0) (.c (.str [114,111,119]))) [.ret (.lst [(.b 1)])] [],
  .ret (.ife (.cmp .eq (.b 0) (.c (.str [116,97,108,107]))) (.lst []) (.b 1))]
@[irreducible] noncomputable def zK:Fn:=fnD [.fz,.fz] 2 jH
noncomputable def qq:List Cm:=[.asg (.v 1) (.lst []),
  .loop (.tup [2,3]) .seq [(.call "with_texts" [.fz] false qf [(.b 0)])] [.asg (.v 4) (.ix (.b 2) (.c (.int 0))),
  .ife (.cmp .eq (.b 4) (.c (.str [98,111,120]))) [.ex (.mu .append (.b 1) [(.tup [(.c (.str [98,111,120])),(.ix (.b 2) (.c (.int 1))),(.lst [])])])] [.ife (.cmp .eq (.b 4) (.c (.str [97,116,116,114]))) [.ex (.mu .append (.ix (.ix (.b 1) (.neg (.c (.int 1)))) (.c (.int 2))) [(.tup [(.ix (.b 2) (.c (.int 1))),(.ix (.b 2) (.c (.int 2))),(.call "begun_content" [.fz,.fz] false zK [(.ix (.b 2) (.c (.int 2))),(.b 3)])])])] [.ife (.cmp .eq (.b 4) (.c (.str [110,101,120,116]))) [.ex (.mu .append (.ix (.ix (.ix (.ix (.b 1) (.neg (.c (.int 1)))) (.c (.int 2))) (.neg (.c (.int 1)))) (.c (.int 2))) [(.b 3)])] [.ife (.cmp .isin (.b 4) (.tup [(.c (.str [119,111,114,100])),(.c (.str [115,97,105,100]))])) [.ex (.mu .append (.ix (.ix (.ix (.ix (.b 1) (.neg (.c (.int 1)))) (.c (.int 2))) (.neg (.c (.int 1)))) (.c (.int 2))) [(.tup [(.b 4),(.b 3)])])] [.ife (.cmp .eq (.b 4) (.c (.str [111,117,116]))) [.ex (.mu .append (.b 1) [(.b 2)])] [],
  .ex (.mu .append (.b 1) [(.tup [(.c (.str [116,101,120,116])),(.b 3)])])]]]]],
  .ret (.m 1)]
@[irreducible] noncomputable def qI:Fn:=fnD [.fz] 5 qq
noncomputable def jI:List Cm:=[.ife (.cmp .eq (.b 0) (.c (.str [114,111,119]))) [.ret (.lc (.c (.str [])) 1 .seq [(.b 1)] [])] [],
  .ife (.cmp .eq (.b 0) (.c (.str [116,97,108,107]))) [.ret (.lc (.ife (.cmp .eq (.ix (.b 0) (.c (.int 0))) (.c (.str [119,111,114,100]))) (.b 0) (.tup [(.c (.str [115,97,105,100])),(.c (.str []))])) 1 .seq [(.b 1)] [])] [],
  .ret (.c (.str []))]
@[irreducible] noncomputable def zL:Fn:=fnD [.fz,.fz] 2 jI
noncomputable def ve:List Cm:=[.ife (.cmp .eq (.ix (.b 0) (.c (.int 0))) (.c (.str [116,101,120,116]))) [.ret (.tup [(.c (.str [116,101,120,116])),(.c (.str []))])] [],
  .ife (.cmp .eq (.ix (.b 0) (.c (.int 0))) (.c (.str [98,111,120]))) [.ret (.tup [(.c (.str [98,111,120])),(.ix (.b 0) (.c (.int 1))),(.lc (.tup [(.b 0),(.b 1),(.call "content_shape" [.fz,.fz] false zL [(.b 1),(.b 2)])]) 3 .seq [(.ix (.b 0) (.c (.int 2)))] [])])] [],
  .ret (.b 0)]
@[irreducible] noncomputable def qy:Fn:=fnD [.fz] 1 ve
noncomputable def yc:List Cm:=[.ret (.lc (.call "row_shape" [.fz] false qy [(.b 0)]) 1 .seq [(.b 0)] [])]
@[irreducible] noncomputable def qg:Fn:=fnD [.fz] 1 yc
noncomputable def xo:List Cm:=[.asg (.v 1) (.c (.int 0)),
  .loop (.v 2) .seq [(.sl (.b 0) [] [(.c (.int 63))])] [.asg (.v 1) (.bin .mod (.bin .add (.bin .mul (.b 1) (.c (.int 31))) (.b 2)) (.c (.int 1000003)))],
  .ret (.lst [(.bi .list [(.sl (.b 0) [] [(.c (.int 63))])]),(.c (.int 0)),(.b 1)])]
@[irreducible] noncomputable def qh:Fn:=fnD [.fz] 3 xo
noncomputable def xp:List Cm:=[.asg (.v 2) (.ix (.lst [(.c (.int 1000000007)),(.c (.int 1181783503)),(.c (.int 1372345291)),(.c (.int 1518500279)),(.c (.int 1636201513)),(.c (.int 1734723539)),(.c (.int 1871234567)),(.c (.int 2012345681))]) (.bin .mod (.b 1) (.c (.int 8)))),
  .asg (.v 3) (.ix (.lst [(.c (.int 100000000003)),(.c (.int 223606797763)),(.c (.int 314159265359)),(.c (.int 414213562379)),(.c (.int 577215664943)),(.c (.int 693147180563)),(.c (.int 732050807573))]) (.bin .mod (.b 1) (.c (.int 7)))),
  .asg (.v 4) (.bin .mod (.bin .mul (.bin .add (.bin .mod (.b 0) (.c (.int 1000000000039))) (.c (.int 1))) (.b 2)) (.c (.int 2147483629))),
  .ret (.bin .mod (.bin .mul (.bin .add (.b 4) (.c (.int 1))) (.b 3)) (.c (.int 999999999989)))]
@[irreducible] noncomputable def zv:Fn:=fnD [.fz,.fz] 5 xp
noncomputable def vf:List Cm:=[.asg (.v 2) (.ix (.b 0) (.c (.int 1))),
  .asg (.sub (.b 0) (.c (.int 1))) (.bin .add (.b 2) (.c (.int 1))),
  .ife (.tb true [(.cmp .lt (.b 2) (.bi .len [(.ix (.b 0) (.c (.int 0)))])),(.cmp .lt (.ix (.ix (.b 0) (.c (.int 0))) (.b 2)) (.bin .pow (.c (.int 10)) (.c (.int 18))))]) [.ret (.bin .mod (.call "_law_mixed" [.fz,.fz] true zv [(.ix (.ix (.b 0) (.c (.int 0))) (.b 2)),(.bin .mod (.b 2) (.c (.int 56)))]) (.b 1))] [],
  .ife (.cmp .lt (.b 2) (.bi .len [(.ix (.b 0) (.c (.int 0)))])) [.ret (.bin .mod (.ix (.ix (.b 0) (.c (.int 0))) (.b 2)) (.b 1))] [],
  .ret (.bin .mod (.bin .fdiv (.bin .mod (.bin .mul (.bin .add (.bin .add (.ix (.b 0) (.c (.int 2))) (.bin .mul (.bin .mul (.c (.int 7919)) (.b 2)) (.b 2))) (.c (.int 1))) (.c (.int 48271))) (.c (.int 2147483647))) (.c (.int 7))) (.b 1))]
@[irreducible] noncomputable def zf:Fn:=fnD [.mu,.fz] 3 vf
noncomputable def xq:List Cm:=[.asg (.v 2) (.ix (.lst [(.g "SIGNS" g_SIGNS),(.c (.str [38,60,62,34,39,92,44,41,126,47,59,48,49,50,55,32,97,45])),(.c (.str [60,47,97,115,105,115,62]))]) (.call "_law_next" [.mu,.fz] false zf [(.b 0),(.c (.int 3))])),
  .asg (.v 3) (.call "_law_next" [.mu,.fz] false zf [(.b 0),(.c (.int 2147483647))]),
  .asg (.v 4) (.lst []),
  .loop (.v 5) .rng [(.call "_law_next" [.mu,.fz] false zf [(.b 0),(.bin .add (.b 1) (.c (.int 1)))])] [.asg (.v 3) (.bin .mod (.bin .add (.bin .mul (.b 3) (.c (.int 48271))) (.c (.int 12820163))) (.c (.int 2147483647))),
  .ex (.mu .append (.b 4) [(.ix (.b 2) (.bin .mod (.bin .fdiv (.b 3) (.c (.int 65537))) (.bi .len [(.b 2)])))])],
  .ret (.me .join (.c (.str [])) [(.b 4)])]
@[irreducible] noncomputable def zt:Fn:=fnD [.mu,.fz] 6 xq
noncomputable def vg:List Cm:=[.asg (.v 1) (.call "_law_next" [.mu,.fz] false zf [(.b 0),(.bin .pow (.c (.int 10)) (.c (.int 12)))]),
  .ife (.cmp .eq (.bin .mod (.call "_law_mixed" [.fz,.fz] false zv [(.b 1),(.c (.int 0))]) (.c (.int 3))) (.c (.int 0))) [.ret (.sl (.c (.str [97,98,99,100,101,102,103,104])) [] [(.bin .add (.c (.int 1)) (.bin .mod (.call "_law_mixed" [.fz,.fz] false zv [(.b 1),(.c (.int 1))]) (.c (.int 8))))])] [],
  .asg (.v 2) (.c (.str [97,98,99,100,101,102,103,104,105,106,107,108,109,110,111,112,113,114,115,116,117,118,119,120,121,122])),
  .ret (.me .join (.c (.str [])) [(.lc (.ix (.b 3) (.bin .mod (.call "_law_mixed" [.fz,.fz] false zv [(.b 2),(.bin .add (.c (.int 3)) (.b 0))]) (.c (.int 26)))) 1 .rng [(.bin .add (.c (.int 1)) (.bin .mod (.call "_law_mixed" [.fz,.fz] false zv [(.b 1),(.c (.int 2))]) (.c (.int 8))))] [])])]
@[irreducible] noncomputable def zY:Fn:=fnD [.mu] 3 vg
noncomputable def xt:List Cm:=[.ife (.cmp .eq (.call "_law_next" [.mu,.fz] false zf [(.b 0),(.c (.int 2))]) (.c (.int 0))) [.ret (.tup [(.c (.str [115,97,105,100])),(.call "_law_signs" [.mu,.fz] false zt [(.b 0),(.c (.int 9))])])] [],
  .asg (.v 1) (.call "_law_next" [.mu,.fz] false zf [(.b 0),(.bin .pow (.c (.int 10)) (.c (.int 12)))]),
  .ret (.tup [(.c (.str [119,111,114,100])),(.me .join (.c (.str [])) [(.lc (.ix (.g "WORDSIGNS" g_WORDSIGNS) (.bin .mod (.call "_law_mixed" [.fz,.fz] false zv [(.b 2),(.bin .add (.c (.int 11)) (.b 0))]) (.c (.int 37)))) 1 .rng [(.bin .add (.c (.int 1)) (.bin .mod (.call "_law_mixed" [.fz,.fz] false zv [(.b 1),(.c (.int 2))]) (.c (.int 5))))] [])])])]
@[irreducible] noncomputable def qj:Fn:=fnD [.mu] 2 xt
noncomputable def vh:List Cm:=[.asg (.v 1) (.ix (.lst [(.c (.str [98,97,114,101])),(.c (.str [113,117,111,116,101,100])),(.c (.str [114,111,119])),(.c (.str [116,97,108,107]))]) (.call "_law_next" [.mu,.fz] false zf [(.b 0),(.c (.int 4))])),
  .asg (.v 2) (.call "_law_name" [.mu] false zY [(.b 0)]),
  .ife (.cmp .eq (.b 1) (.c (.str [114,111,119]))) [.ret (.tup [(.b 2),(.b 1),(.frz (.lc (.call "_law_signs" [.mu,.fz] false zt [(.b 1),(.c (.int 7))]) 1 .rng [(.bin .add (.c (.int 1)) (.call "_law_next" [.mu,.fz] false zf [(.b 0),(.c (.int 3))]))] []))])] [],
  .ife (.cmp .eq (.b 1) (.c (.str [116,97,108,107]))) [.ret (.tup [(.b 2),(.b 1),(.frz (.lc (.call "_law_piece" [.mu] false qj [(.b 1)]) 1 .rng [(.call "_law_next" [.mu,.fz] false zf [(.b 0),(.c (.int 4))])] []))])] [],
  .ret (.tup [(.b 2),(.b 1),(.call "_law_signs" [.mu,.fz] false zt [(.b 0),(.c (.int 12))])])]
@[irreducible] noncomputable def qz:Fn:=fnD [.mu] 3 vh
noncomputable def j5:List Cm:=[.asg (.v 3) (.call "_law_name" [.mu] false zY [(.b 0)]),
  .ife (.cmp .eq (.call "_law_next" [.mu,.fz] false zf [(.b 0),(.c (.int 6))]) (.c (.int 0))) [.asg (.v 3) (.c (.str [97,115,105,115]))] [],
  .ex (.mu .append (.b 1) [(.tup [(.c (.str [98,111,120])),(.b 3),(.frz (.lc (.call "_law_attr" [.mu] false qz [(.b 1)]) 1 .rng [(.bin .fdiv (.call "_law_next" [.mu,.fz] false zf [(.b 0),(.c (.int 5))]) (.c (.int 2)))] []))])]),
  .asg (.v 4) (.call "_law_signs" [.mu,.fz] false zt [(.b 0),(.c (.int 12))]),
  .ife (.tb true [(.cmp .eq (.b 3) (.c (.str [97,115,105,115]))),(.cmp .isin (.c (.str [60,47,97,115,105,115,62])) (.b 4))]) [.asg (.v 4) (.sl (.b 4) [] [(.bin .add (.me .index (.b 4) [(.c (.str [60,47,97,115,105,115,62]))]) (.c (.int 6)))])] [],
  .ex (.mu .append (.b 1) [(.tup [(.c (.str [116,101,120,116])),(.b 4)])]),
  .ex (.mu .append (.b 2) [(.b 3)])]
@[irreducible] noncomputable def qS:Fn:=fnD [.mu,.mu,.mu] 5 j5
noncomputable def vi:List Cm:=[.asg (.v 2) (.lst [(.tup [(.c (.str [116,101,120,116])),(.call "_law_signs" [.mu,.fz] false zt [(.b 0),(.c (.int 12))])])]),
  .asg (.v 3) (.lst []),
  .loop (.v 4) .rng [(.call "_law_next" [.mu,.fz] false zf [(.b 0),(.bin .add (.b 1) (.c (.int 1)))])] [.ife (.tb true [(.cmp .ne (.b 3) (.lst [])),(.tb false [(.cmp .eq (.ix (.b 3) (.neg (.c (.int 1)))) (.c (.str [97,115,105,115]))),(.cmp .eq (.call "_law_next" [.mu,.fz] false zf [(.b 0),(.c (.int 3))]) (.c (.int 0)))])]) [.asg (.v 2) (.bin .add (.b 2) (.lst [(.tup [(.c (.str [111,117,116]))]),(.tup [(.c (.str [116,101,120,116])),(.call "_law_signs" [.mu,.fz] false zt [(.b 0),(.c (.int 12))])])])),
  .ex (.mu .pop (.b 3) [])] [.ex (.call "_law_box" [.mu,.mu,.mu] false qS [(.b 0),(.b 2),(.b 3)])]],
  .loop (.v 4) .rng [(.bi .len [(.b 3)])] [.asg (.v 2) (.bin .add (.b 2) (.lst [(.tup [(.c (.str [111,117,116]))]),(.tup [(.c (.str [116,101,120,116])),(.call "_law_signs" [.mu,.fz] false zt [(.b 0),(.c (.int 5))])])]))],
  .ret (.m 2)]
@[irreducible] noncomputable def qA:Fn:=fnD [.mu,.fz] 5 vi
noncomputable def qB (zl:Fn):List Cm:=[.ife (.t (.isi (.b 1) [.str])) [.ret (.bo true [(.isi (.b 0) [.str]),(.cmp .eq (.b 0) (.b 1))])] [],
  .ife (.tb false [(.cmp .ne (.isi (.b 1) [.list]) (.isi (.b 0) [.list])),(.cmp .ne (.isi (.b 1) [.tuple]) (.isi (.b 0) [.tuple]))]) [.ret (.c (.bl false))] [],
  .ret (.bo true [(.cmp .eq (.bi .len [(.b 0)]) (.bi .len [(.b 1)])),(.bi .all [(.lc (.call "_law_same" [.fz,.fz] false zl [(.ix (.b 1) (.b 0)),(.ix (.b 2) (.b 0))]) 1 .rng [(.bi .len [(.b 1)])] [])])])]
noncomputable def zl:Nat->Fn
 | 0=>fun _ _ _=>False
 | n+1=>fnD [.fz,.fz] 2 (qB (zl n))
noncomputable def zG (ze:Fn):List Cm:=[.ife (.t (.isi (.b 0) [.list,.tuple])) [.loopA 1 none 0 [.ex (.call "_law_spill" [.mu] false ze [(.a 1 0)])]] [],
  .ife (.t (.isi (.b 0) [.list])) [.ex (.mu .clear (.b 0) []),
  .ex (.mu .append (.b 0) [(.c (.str [115,112,105,108,116]))])] []]
noncomputable def ze:Nat->Fn
 | 0=>fun _ _ _=>False
 | n+1=>fnD [.mu] 2 (zG (ze n))
noncomputable def zS:List Cm:=[.asg (.tup [1,2,3]) (.b 0),
  .asg (.v 4) (.frz (.lst [(.tup [(.c (.str [97,116,116,114])),(.b 1),(.b 2)])])),
  .ife (.cmp .eq (.b 2) (.c (.str [114,111,119]))) [.loop (.v 5) .rng [(.bi .len [(.b 3)])] [.asg (.v 4) (.frz (.bin .add (.bin .add (.b 4) (.bin .mul (.lst [(.tup [(.c (.str [110,101,120,116]))])]) (.bi .int [(.cmp .gt (.b 5) (.c (.int 0)))]))) (.lc (.tup [(.c (.str [115,105,103,110])),(.b 0)]) 1 .seq [(.ix (.b 3) (.b 5))] [])))]] [.ife (.cmp .eq (.b 2) (.c (.str [116,97,108,107]))) [.loop (.tup [6,7]) .seq [(.b 3)] [.asg (.v 4) (.frz (.bin .add (.bin .add (.b 4) (.lst [(.tup [(.b 6)])])) (.lc (.tup [(.c (.str [115,105,103,110])),(.b 0)]) 1 .seq [(.b 7)] [])))]] [.asg (.v 4) (.frz (.bin .add (.b 4) (.lc (.tup [(.c (.str [115,105,103,110])),(.b 0)]) 1 .seq [(.b 3)] [])))]],
  .ret (.b 4)]
@[irreducible] noncomputable def zg:Fn:=fnD [.fz] 8 zS
noncomputable def wA:List Cm:=[.asg (.v 1) (.lst []),
  .loop (.v 2) .seq [(.b 0)] [.ife (.cmp .eq (.ix (.b 2) (.c (.int 0))) (.c (.str [116,101,120,116]))) [.asg (.v 1) (.bin .add (.b 1) (.lc (.tup [(.c (.str [115,105,103,110])),(.b 0)]) 1 .seq [(.ix (.b 2) (.c (.int 1)))] []))] [.ife (.cmp .eq (.ix (.b 2) (.c (.int 0))) (.c (.str [111,117,116]))) [.ex (.mu .append (.b 1) [(.tup [(.c (.str [111,117,116]))])])] [.ex (.mu .append (.b 1) [(.tup [(.c (.str [98,111,120])),(.ix (.b 2) (.c (.int 1)))])]),
  .loop (.v 3) .seq [(.ix (.b 2) (.c (.int 2)))] [.asg (.v 1) (.bin .add (.b 1) (.call "_law_attr_events" [.fz] false zg [(.b 3)]))],
  .ex (.mu .append (.b 1) [(.tup [(.c (.str [105,110]))])])]]],
  .ret (.m 1)]
@[irreducible] noncomputable def z7:Fn:=fnD [.fz] 4 wA
noncomputable def zD (zh:Fn):List Cm:=[.ife (.t (.isi (.b 0) [.list])) [.ret (.lc (.call "_law_shaped" [.fz] false zh [(.b 0)]) 1 .seq [(.b 0)] [])] [],
  .ife (.tb true [(.t (.isi (.b 0) [.tuple])),(.cmp .eq (.ix (.b 0) (.c (.int 0))) (.c (.str [119,111,114,100])))]) [.ret (.b 0)] [],
  .ife (.t (.isi (.b 0) [.tuple])) [.ret (.tup [(.c (.str [115,97,105,100])),(.c (.str []))])] [],
  .ret (.c (.str []))]
noncomputable def zh:Nat->Fn
 | 0=>fun _ _ _=>False
 | n+1=>fnD [.fz] 1 (zD (zh n))
noncomputable def xu:List Cm:=[.asg (.v 1) (.lst []),
  .loop (.v 2) .seq [(.b 0)] [.ife (.cmp .eq (.ix (.b 2) (.c (.int 0))) (.c (.str [116,101,120,116]))) [.ex (.mu .append (.b 1) [(.tup [(.c (.str [116,101,120,116])),(.c (.str []))])])] [.ife (.cmp .eq (.ix (.b 2) (.c (.int 0))) (.c (.str [111,117,116]))) [.ex (.mu .append (.b 1) [(.b 2)])] [.ex (.mu .append (.b 1) [(.tup [(.c (.str [98,111,120])),(.ix (.b 2) (.c (.int 1))),(.lc (.tup [(.ix (.b 0) (.c (.int 0))),(.ix (.b 0) (.c (.int 1))),(.call "_law_shaped" [.fz] false (zh 9) [(.ix (.b 0) (.c (.int 2)))])]) 1 .seq [(.ix (.b 2) (.c (.int 2)))] [])])])]]],
  .ret (.m 1)]
@[irreducible] noncomputable def zQ:Fn:=fnD [.fz] 3 xu
noncomputable def Yl:List Cm:=[.asg (.v 1) (.call "_law_state" [.fz] false qh [(.b 0)]),
  .asg (.v 2) (.frz (.call "_law_page" [.mu,.fz] false qA [(.b 1),(.c (.int 12))])),
  .asg (.v 3) (.frz (.call "_law_events" [.fz] false z7 [(.b 2)])),
  .asg (.v 4) (.frz (.bi .list [(.b 3)])),
  .asg (.v 5) (.call "page_of" [.fz] false qI [(.b 4)]),
  .ife (.tb false [(.tn (.t (.call "_law_same" [.fz,.fz] true (zl 9) [(.b 5),(.b 2)]))),(.cmp .ne (.b 4) (.b 3))]) [.ret (.c (.bl false))] [],
  .ex (.call "_law_spill" [.mu] false (ze 9) [(.b 5)]),
  .asg (.v 6) (.call "page_of" [.fz] false qI [(.b 4)]),
  .ife (.tb false [(.tn (.t (.call "_law_same" [.fz,.fz] true (zl 9) [(.b 6),(.b 2)]))),(.cmp .isnot (.call "is_page" [.fz] true qU [(.b 6)]) (.c (.bl true)))]) [.ret (.c (.bl false))] [],
  .asg (.v 7) (.call "shape_of" [.fz] true qg [(.b 6)]),
  .ife (.tn (.t (.call "_law_same" [.fz,.fz] true (zl 9) [(.b 7),(.call "_law_shape" [.fz] false zQ [(.b 2)])]))) [.ret (.c (.bl false))] [],
  .ex (.call "_law_spill" [.mu] false (ze 9) [(.b 7)]),
  .ret (.bo true [(.call "_law_same" [.fz,.fz] true (zl 9) [(.b 6),(.b 2)]),(.call "_law_same" [.fz,.fz] false (zl 9) [(.call "shape_of" [.fz] true qg [(.b 6)]),(.call "_law_shape" [.fz] false zQ [(.b 2)])])])]
@[irreducible] noncomputable def zer:Fn:=fnD [.fz] 8 Yl
theorem WY {zl:Fn}:wL kO (za qT) true (qB zl) (zN qT)=true:=by kernel_rfl
theorem JO {ze:Fn}:wL yK (za qG) true (zG ze) (zN qG)=true:=by kernel_rfl
theorem Qr {zh:Fn}:wL vV (za qp) true (zD zh) (zN qp)=true:=by kernel_rfl
end My
namespace My
open PySem L2 L4 PySem.Spec PyProof.Rows
local macro_rules | `(tactic| walk_at "dis") => `(tactic| first | omega | decide | exact ⟨by omega, by omega⟩ | exact ⟨by decide, by decide, by decide⟩ | (simp only [List.length_map, List.length_append, List.length_cons, List.length_nil] at *; omega))
local macro_rules | `(tactic| walk_at "bin") => `(tactic| first | assumption | with_reducible exact zhf | with_reducible exact zhg | with_reducible exact zhh (by walk_at "dis") | with_reducible exact zhi (by walk_at "dis") | with_reducible exact zf4 (by walk_at "dis") | with_reducible exact zf5 (by walk_at "dis") | with_reducible exact zhj (by walk_at "dis") | exact rfl)
local macro_rules | `(tactic| walk_at "lit") => `(tactic| first | assumption | exact rfl)
local macro_rules | `(tactic| walk_at "w1") => `(tactic| first
 | ((with_reducible refine z9 ?_);dsimp only [WS,WE,WEs,WT,WA,WP,WO,WB,WTb,ckT])
 | with_reducible refine vJ ?_
 | ((with_reducible apply kN);exact rfl)
 | ((with_reducible apply Yj);exact rfl;exact rfl)
 | ((with_reducible apply QZ);walk_at "bin")
 | ((with_reducible apply zhl);walk_at "lit")
 | ((with_reducible apply WL);walk_at "lit";exact rfl)
 | ((with_reducible apply zen);first | assumption | with_reducible exact zhy | with_reducible exact zeo | with_reducible exact zhz | with_reducible exact zhA | exact rfl)
 | ((with_reducible apply w_bl);exact rfl)
 | ((with_reducible apply zhp);exact rfl)
 | ((with_reducible apply zhk);exact rfl)
 | ((with_reducible apply zhq);exact rfl)
 | ((with_reducible apply zhr);(first | assumption | exact rfl);exact rfl)
 | ((with_reducible apply w_mu);(first | assumption | exact rfl);first | assumption | exact zbC (by walk_at "dis") | walk_at "lit")
 | ((with_reducible apply zhs);exact rfl;walk_at "lit")
 | ((with_reducible apply zht);(first | assumption | exact rfl);walk_at "lit")
 | ((with_reducible apply w_at);exact rfl)
 | with_reducible apply XY
 | ((with_reducible apply zhu);first | exact by decide | omega | (simp only [List.length_map,List.length_append,List.length_cons,List.length_nil];omega))
 | ((with_reducible apply w_lt);first | omega | (simp only [List.length_map,List.length_append,List.length_cons,List.length_nil];omega))
 | ((with_reducible apply w_sl);walk_at "lit")
 | ((with_reducible apply w_it);walk_at "lit")
 | ((with_reducible apply w_bi);walk_at "lit")
 | ((with_reducible apply zhv);exact rfl)
 | ((with_reducible apply w_me);walk_at "lit")
 | ((with_reducible apply zhm);walk_at "lit")
 | ((with_reducible apply zho);walk_at "lit")
 | ((with_reducible apply zhn);exact rfl)
 | ((with_reducible apply w_lk);exact rfl)
 | with_reducible apply zhw
 | with_reducible apply w_no
 | ((with_reducible apply zhx);exact rfl)
 | ((with_reducible refine w_if (fun z=>absurd z ?_) fun _=>?_);first | assumption | omega)
 | ((with_reducible refine w_if (fun _=>?_) (fun z=>absurd ?_ z));rotate_left;first | assumption | omega)
 | ((with_reducible apply zhB);assumption)
 | ((with_reducible apply zeq);assumption)
 | ((with_reducible refine zep (fun z=>absurd ?_ z) fun _=>?_);first | assumption | omega)
 | ((with_reducible refine zep (fun _=>?_) (fun z=>absurd z ?_));rotate_left;first | assumption | omega)
 | with_reducible apply zhD
 | with_reducible apply zhE
 | with_reducible apply w_ff
 | with_reducible apply w_tf
 | with_reducible apply w_tt
 | with_reducible apply w_ft
 | ((with_reducible apply zhH);first | assumption | with_reducible exact rfl)
 | ((with_reducible apply zhI);first | assumption | with_reducible exact rfl)
 | ((with_reducible apply zhJ);first | assumption | with_reducible exact rfl)
 | ((with_reducible apply zhK);first | assumption | with_reducible exact rfl)
 | ((with_reducible apply zf7);exact rfl;exact rfl)
 | ((with_reducible apply w_ci);first | assumption | exact rfl)
 | ((with_reducible refine zbJ (fun z=>absurd z ?_) fun _=>?_);first | assumption | omega)
 | ((with_reducible refine zbJ (fun _=>?_) (fun z=>absurd ?_ z));rotate_left;first | assumption | omega)
 | ((with_reducible apply zhF);assumption)
 | ((with_reducible apply zhG);assumption)
 | ((with_reducible refine Yk (fun z=>absurd ?_ z) fun _=>?_);first | assumption | omega)
 | ((with_reducible refine Yk (fun _=>?_) (fun z=>absurd z ?_));rotate_left;first | assumption | omega)
 | with_reducible refine zek (fun _=>?_) fun z=>absurd z (by decide)
 | with_reducible refine zek (fun z=>absurd z (by decide)) fun _=>?_)
local macro_rules | `(tactic| walk_at "go") => `(tactic| ((try dsimp only [WS, WE, WEs, WT, WA, WP, WO, WB, WTb, ckT]); repeat walk_at "w1"))
section
variable {Q:T->List T->Prop} {X:Exn->List T->Prop}
theorem j6 {c k:Int}(q:∀ n:Int,0<=n->n<999999999989->Q (.int n) [.non,.non]):zv [.int c,.int k] Q X:=by
 unfold zv xp fnD
 refine⟨rfl,?_⟩
 walk_at "go"
 obtain⟨n1,e1,a1,b1⟩:=zel (xs:=[T.int 1000000007,T.int 1181783503,T.int 1372345291,T.int 1518500279,T.int 1636201513,T.int 1734723539,T.int 1871234567,T.int 2012345681]) (i:=k % 8) (by omega) (by simp only [List.length];omega) (by decide)
 refine⟨_,e1,.inr rfl,?_⟩
 walk_at "go"
 obtain⟨n2,e2,a2,b2⟩:=zel (xs:=[T.int 100000000003,T.int 223606797763,T.int 314159265359,T.int 414213562379,T.int 577215664943,T.int 693147180563,T.int 732050807573]) (i:=k % 7) (by omega) (by simp only [List.length];omega) (by decide)
 refine⟨_,e2,.inr rfl,?_⟩
 walk_at "go"
 exact q _ (Int.emod_nonneg _ (by decide)) (Int.emod_lt_of_pos _ (by decide))
def St (n:Int)(t:T):Prop:=∃ (ns:List Int) (a sd:Int),t=.ls [.ls (ns.map .int),.int a,.int sd]/\0<=a/\a<=n
theorem qJ {n many:Int}{st:T}(hs:St n st)(hn:n<=1000000000)(hm:0<many)(q:∀ r st',0<=r->r<many->St (n+1) st'->Q (.int r) [st',.non]):zf [st,.int many] Q X:=by
 obtain⟨ns,a,sd,rfl,h0,h1⟩:=hs
 unfold zf vf fnD
 refine⟨rfl,?_⟩
 walk_at "go"
 have hs':St (n+1) (.ls [.ls (ns.map .int),.int (a+1),.int sd]):=⟨ns,a+1,sd,rfl,by omega,by omega⟩
 have fin:∀ r:Int,Q (.int (r % many)) [.ls [.ls (ns.map .int),.int (a+1),.int sd],.non]:=fun r=>q _ _ (Int.emod_nonneg _ (by omega)) (Int.emod_lt_of_pos _ hm) hs'
 by_cases hk:a<(ns.map T.int).length
 ·obtain⟨m,em⟩:=zda (ns:=ns) h0 (by rw [List.length_map] at hk;exact hk)
  walk_at "go"
  refine w_if (fun _=>?_) fun _=>?_
  ·walk_at "go"
   refine j6 fun m _ _=>⟨fun _=>rfl,?_⟩
   walk_at "go"
   exact fin _
  ·walk_at "go"
   exact fin _
 ·walk_at "go"
  exact fin _
end
section
variable {Q:T->List T->Prop} {X:Exn->List T->Prop}
theorem zbL {ns:List Int}(q:∀ st,St 0 st->Q st [.non]):qh [.ks true (ns.map .int)] Q X:=by
 unfold qh xo fnD
 refine⟨rfl,?_⟩
 have e:slO (.ks true (ns.map .int)) none (some 63)=some (.ls ((ns.take 63).map .int)):=by
  show orE none (orE ((shO (some ((ns.map T.int).map fzi))).map _) _)=_
  rw [zbB,jq (by intro t ht;obtain⟨a,_,rfl⟩:=List.mem_map.mp ht;rfl)]
  show some (T.ls (cutL (ns.map T.int) none (some ((63:Nat):Int))))=_
  rw [ZR,List.map_take]
 have sh:∀ t∈(ns.take 63).map T.int,shr t=true:=by intro t ht;obtain⟨a,_,rfl⟩:=List.mem_map.mp ht;rfl
 have e2:itT .seq [.ls ((ns.take 63).map .int)]=some ((ns.take 63).map .int):=by
  show orE (shO (some _)) _=_
  rw [jq sh];rfl
 have e3:biO .list [.ls ((ns.take 63).map .int)]=some (.ls ((ns.take 63).map .int)):=by
  show orE ((shO (some _)).map _) _=_
  rw [jq sh];rfl
 walk_at "go"
 refine jo (fun _ s=>∃ (sd:Int) (x:Slot),s=[.own (.ks true (ns.map .int)),.own (.int sd),x]) ⟨0,_,rfl⟩ ?_ ?_
 ·rintro k d _ hd ⟨sd,x,rfl⟩
  obtain⟨c,_,rfl⟩:=List.mem_map.mp (List.mem_of_getElem? hd)
  refine⟨_,rfl,fun K hK=>?_⟩
  walk_at "go"
  exact hK _ ⟨_,_,rfl⟩
 ·rintro _ ⟨sd,x,rfl⟩
  walk_at "go"
  exact q _ ⟨ns.take 63,0,sd,rfl,by omega,by omega⟩
end
section
variable {Q:T->List T->Prop} {X:Exn->List T->Prop}
noncomputable abbrev SG:List Nat:=[32,33,34,35,36,38,39,40,41,42,43,44,45,46,47,48,49,50,51,52,53,54,55,56,57,58,59,60,61,62,63,64,65,66,67,68,69,70,71,72,73,74,75,76,77,78,79,80,81,82,83,84,85,86,87,88,89,90,91,92,93,94,95,96,97,98,99,100,101,102,103,104,105,106,107,108,109,110,111,112,113,114,115,116,117,118,119,120,121,122,123,124,125,126]
def Tx (t:List Nat):Prop:=(∀ c∈t,c∈SG)/\t.length<=100
theorem jB {n most:Int}{st:T}(hs:St n st)(hn:n<=1000000)(hm:0<=most/\most<100)(q:∀ t st',Tx t->St (n+3) st'->Q (.str t) [st',.non]):zt [st,.int most] Q X:=by
 unfold zt xq fnD
 refine⟨rfl,?_⟩
 walk_at "go"
 refine qJ hs (by omega) (by omega) fun r1 st1 h1 h1' hs1=>⟨nofun,?_⟩
 obtain⟨m,em,hm0,hmc,_⟩:=zdb (cs:=SG) (xs:=[g_SIGNS,.str [38,60,62,34,39,92,44,41,126,47,59,48,49,50,55,32,97,45],.str [60,47,97,115,105,115,62]]) h1 (by simp only [List.length];omega) (by decide +kernel)
 walk_at "go"
 refine qJ hs1 (by omega) (by omega) fun r2 st2 h2 h2' hs2=>⟨nofun,?_⟩
 walk_at "go"
 refine qJ hs2 (by omega) (by omega) fun r3 st3 h3 h3' hs3=>⟨nofun,?_⟩
 have e4:=rng1 (j:=r3) (by omega)
 walk_at "go"
 refine jo (fun k s=>∃ (nb:Int) (ts:List (List Nat)) (x:Slot),s=[.own st3,.own (.int most),.own (.str m),.own (.int nb),.own (.ls (ts.map .str)),x]/\ts.length=k/\(∀ t∈ts,t.length=1)/\∀ t∈ts,∀ c∈t,c∈SG) ⟨r2,[],_,rfl,rfl,nofun,nofun⟩ ?_ ?_
 ·rintro k d _ hd ⟨nb,ts,x,rfl,hk,ht1,ht2⟩
  obtain⟨rfl,hk'⟩:=wo hd
  refine⟨_,rfl,fun K hK=>?_⟩
  obtain⟨c,ec,hc⟩:=zf6 (m:=m) (i:=(nb * 48271+12820163) % 2147483647 / 65537 % m.length) (Int.emod_nonneg _ (by omega)) (Int.emod_lt_of_pos _ (by omega)) hmc
  walk_at "go"
  refine hK _ ⟨_,ts++[[c]],_,by rw [List.map_append];rfl,by rw [List.length_append,hk];rfl,fun t ht=>?_,fun t ht=>?_⟩
  ·rcases List.mem_append.mp ht with z | z
   ·exact ht1 t z
   ·rw [List.mem_singleton.mp z];rfl
  ·rcases List.mem_append.mp ht with z | z
   ·exact ht2 t z
   ·rw [List.mem_singleton.mp z]
    intro c' hc'
    rw [List.mem_singleton.mp hc']
    exact hc
 ·rintro _ ⟨nb,ts,x,rfl,hk,ht1,ht2⟩
  have e5:=Jx (ts:=ts) (by rw [zbD ht1];rw [jb] at hk;omega)
  walk_at "go"
  refine q _ _ ⟨fun c hc=>?_,by rw [zbD ht1,hk,jb];omega⟩ ?_
  ·obtain⟨t,h1,h2⟩:=List.mem_flatten.mp hc
   exact ht2 t h1 c h2
  ·have:=hs3
   rwa [show n+1+1+1=n+3 by omega] at this
end
section
variable {Q:T->List T->Prop} {X:Exn->List T->Prop}
noncomputable abbrev LT:List Nat:=[97,98,99,100,101,102,103,104,105,106,107,108,109,110,111,112,113,114,115,116,117,118,119,120,121,122]
noncomputable abbrev WD:List Nat:=[97,98,99,100,101,102,103,104,105,106,107,108,109,110,111,112,113,114,115,116,117,118,119,120,121,122,48,49,50,51,52,53,54,55,56,57,45]
def Nm (t:List Nat):Prop:=(∀ c∈t,c∈LT)/\1<=t.length/\t.length<=8
def Wo (t:List Nat):Prop:=(∀ c∈t,c∈WD)/\1<=t.length/\t.length<=8
theorem zes {ts:List (List Nat)}{cs:List Nat}(h1:∀ t∈ts,∃ c∈cs,t=[c]):ts.flatten.length=ts.length/\∀ c∈ts.flatten,c∈cs:=by
 refine⟨zbD fun t ht=>?_,fun c hc=>?_⟩
 ·obtain⟨c,_,rfl⟩:=h1 t ht;rfl
 ·obtain⟨t,z1,z2⟩:=List.mem_flatten.mp hc
  obtain⟨c',z3,rfl⟩:=h1 t z1
  rw [List.mem_singleton.mp z2];exact z3
theorem Ym {n:Int}{st:T}(hs:St n st)(hn:n<=1000000)(q:∀ t st',Nm t->St (n+1) st'->Q (.str t) [st']):zY [st] Q X:=by
 unfold zY vg fnD
 refine⟨rfl,?_⟩
 walk_at "go"
 refine qJ hs (by omega) (by decide) fun r1 st1 h1 h1' hs1=>⟨nofun,?_⟩
 walk_at "go"
 refine j6 fun m1 _ _=>⟨nofun,?_⟩
 walk_at "go"
 refine w_if (fun _=>?_) fun _=>?_
 ·walk_at "go"
  refine j6 fun m2 _ _=>⟨nofun,?_⟩
  walk_at "go"
  refine q _ _ ?_ hs1
  rw [show(1:Int)+m2 % 8=((1+(m2 % 8).toNat:Nat):Int) by omega,ZR]
  refine⟨fun c hc=>?_,?_,?_⟩
  ·have:=List.mem_of_mem_take hc
   clear hc
   revert c
   decide
  ·rw [List.length_take];simp only [List.length];omega
  ·rw [List.length_take];simp only [List.length];omega
 ·walk_at "go"
  refine j6 fun m2 _ _=>⟨nofun,?_⟩
  have e:=yG (n:=1+(m2 % 8).toNat) (j:=1+m2 % 8) (by omega) (by omega)
  walk_at "go"
  refine j0 (fun k acc s=>∃ ts:List (List Nat),acc=ts.map .str/\s=[.own st1,.own (.int r1),.own (.str LT)]/\ts.length=k/\∀ t∈ts,∃ c∈LT,t=[c]) ⟨[],rfl,rfl,rfl,nofun⟩ ?_ ?_
  ·rintro k d acc _ hd ⟨ts,rfl,rfl,hk,ht⟩ K hK
   obtain⟨rfl,hk'⟩:=wo hd
   refine⟨_,rfl,?_⟩
   walk_at "go"
   refine j6 fun m3 h3 _=>⟨nofun,?_⟩
   obtain⟨c,ec,hc⟩:=XX (t:=LT) (i:=m3 % 26) (by omega) (by simp only [List.length];omega)
   walk_at "go"
   exact hK _ _ ⟨ts++[[c]],yH,rfl,wb hk,vK ht ⟨c,hc,rfl⟩⟩
  ·rintro acc _ ⟨ts,rfl,rfl,hk,ht⟩
   obtain⟨j1,j2⟩:=zes ht
   rw [jb] at hk
   have e5:=Jx (ts:=ts) (by omega)
   walk_at "go"
   exact q _ _ ⟨j2,by omega,by omega⟩ hs1
theorem zbM {n:Int}{st:T}(hs:St n st)(hn:n<=900000)(q:∀ (w:Bool) t st',(if w=true then Wo t else Tx t)->St (n+4) st'->Q (.tp [.str (if w=true then [119,111,114,100] else [115,97,105,100]),.str t]) [st']):qj [st] Q X:=by
 unfold qj xt fnD
 refine⟨rfl,?_⟩
 walk_at "go"
 refine qJ hs (by omega) (by decide) fun r1 st1 h1 h1' hs1=>⟨nofun,?_⟩
 walk_at "go"
 refine w_if (fun _=>?_) fun _=>?_
 ·walk_at "go"
  refine jB hs1 (by omega) (by omega) fun t st2 ht hs2=>⟨nofun,?_⟩
  walk_at "go"
  exact q false _ _ ht (by rwa [show n+1+3=n+4 by omega] at hs2)
 ·walk_at "go"
  refine qJ hs1 (by omega) (by decide) fun r2 st2 h2 h2' hs2=>⟨nofun,?_⟩
  walk_at "go"
  refine j6 fun m2 _ _=>⟨nofun,?_⟩
  have e:=yG (n:=1+(m2 % 5).toNat) (j:=1+m2 % 5) (by omega) (by omega)
  walk_at "go"
  refine j0 (fun k acc s=>∃ ts:List (List Nat),acc=ts.map .str/\s=[.own st2,.own (.int r2)]/\ts.length=k/\∀ t∈ts,∃ c∈WD,t=[c]) ⟨[],rfl,rfl,rfl,nofun⟩ ?_ ?_
  ·rintro k d acc _ hd ⟨ts,rfl,rfl,hk,ht⟩ K hK
   obtain⟨rfl,hk'⟩:=wo hd
   refine⟨_,rfl,?_⟩
   walk_at "go"
   refine j6 fun m3 h3 _=>⟨nofun,?_⟩
   obtain⟨c,ec,hc⟩:=XX (t:=WD) (i:=m3 % 37) (by omega) (by simp only [List.length];omega)
   walk_at "go"
   exact hK _ _ ⟨ts++[[c]],yH,rfl,wb hk,vK ht ⟨c,hc,rfl⟩⟩
  ·rintro acc _ ⟨ts,rfl,rfl,hk,ht⟩
   obtain⟨j1,j2⟩:=zes ht
   rw [jb] at hk
   have e5:=Jx (ts:=ts) (by omega)
   walk_at "go"
   refine q true _ _ ⟨j2,by omega,by omega⟩ ?_
   obtain⟨ns,a,sd,e,z1,z2⟩:=hs2
   exact⟨ns,a,sd,e,z1,by omega⟩
end
section
variable {Q:T->List T->Prop} {X:Exn->List T->Prop}
inductive Ct where
 | bare (t:List Nat) | quoted (t:List Nat) | row (ts:List (List Nat)) | talk (ps:List (Bool×List Nat))
noncomputable def kd:Ct->List Nat
 | .bare _=>[98,97,114,101]
 | .quoted _=>[113,117,111,116,101,100]
 | .row _=>[114,111,119]
 | .talk _=>[116,97,108,107]
noncomputable def trP (p:Bool×List Nat):T:=.tp [.str (if p.1=true then [119,111,114,100] else [115,97,105,100]),.str p.2]
noncomputable def trC:Ct->T
 | .bare t=>.str t
 | .quoted t=>.str t
 | .row ts=>.ls (ts.map .str)
 | .talk ps=>.ls (ps.map trP)
noncomputable def trA (a:List Nat×Ct):T:=.tp [.str a.1,.str (kd a.2),trC a.2]
inductive Rw where
 | text (t:List Nat) | out | box (nm:List Nat) (as:List (List Nat×Ct))
noncomputable def trR:Rw->T
 | .text t=>.tp [.str [116,101,120,116],.str t]
 | .out=>.tp [.str [111,117,116]]
 | .box nm as=>.tp [.str [98,111,120],.str nm,.ls (as.map trA)]
def WZ (p:Bool×List Nat):Prop:=if p.1=true then Wo p.2 else Tx p.2
noncomputable def GoodC:Ct->Prop
 | .bare t=>Tx t
 | .quoted t=>Tx t
 | .row ts=>1<=ts.length/\ts.length<=4/\∀ t∈ts,Tx t
 | .talk ps=>ps.length<=4/\∀ p∈ps,WZ p
def vj (a:List Nat×Ct):Prop:=Nm a.1/\GoodC a.2
theorem Yn (c:Ct):strip (trC c)=trC c:=by
 cases c with
 | bare t=>rfl
 | quoted t=>rfl
 | row ts=>show T.ls (zb _)=_;rw [zr fun _=>rfl];rfl
 | talk ps=>show T.ls (zb _)=_;rw [zr fun _=>rfl];rfl
theorem xw (a:List Nat×Ct):strip (trA a)=trA a:=by
 show T.tp [.str _,.str _,strip (trC a.2)]=_
 rw [Yn];rfl
theorem St.up {n m:Int}{t:T}(h:St n t)(e:n<=m):St m t:=by
 obtain⟨ns,a,sd,e',z1,z2⟩:=h
 exact⟨ns,a,sd,e',z1,by omega⟩
theorem zdc {n:Int}{st:T}(hs:St n st)(hn:n<=800000)(q:∀ a t st',vj a->shr t=true->strip t=trA a->St (n+30) st'->Q t [st']):qz [st] Q X:=by
 unfold qz vh fnD
 refine⟨rfl,?_⟩
 walk_at "go"
 refine qJ hs (by omega) (by decide) fun r1 st1 h1 h1' hs1=>⟨nofun,?_⟩
 have hk:∃ k,ixO (.ls [.str [98,97,114,101],.str [113,117,111,116,101,100],.str [114,111,119],.str [116,97,108,107]]) (.int r1)=some (.str k)/\(k=[98,97,114,101]\/k=[113,117,111,116,101,100]\/k=[114,111,119]\/k=[116,97,108,107]):=by
  obtain⟨z,e1,_,e3⟩:=at_ok (xs:=[T.str [98,97,114,101],.str [113,117,111,116,101,100],.str [114,111,119],.str [116,97,108,107]]) h1 (by simp only [List.length];omega)
  simp only [List.mem_cons,List.not_mem_nil,or_false] at e3
  rcases e3 with rfl | rfl | rfl | rfl
  ·exact⟨_,e1,.inl rfl⟩
  ·exact⟨_,e1,.inr (.inl rfl)⟩
  ·exact⟨_,e1,.inr (.inr (.inl rfl))⟩
  ·exact⟨_,e1,.inr (.inr (.inr rfl))⟩
 obtain⟨k,ek,hk⟩:=hk
 walk_at "go"
 refine Ym hs1 (by omega) fun nm st2 hnm hs2=>⟨nofun,?_⟩
 walk_at "go"
 by_cases hr:k=[114,111,119]
 ·walk_at "go"
  refine qJ hs2 (by omega) (by decide) fun r2 st3 h2 h2' hs3=>⟨nofun,?_⟩
  have e:=yG (n:=1+r2.toNat) (j:=1+r2) (by omega) (by omega)
  walk_at "go"
  refine j0 (fun j acc s=>∃ (ts:List (List Nat)) (st':T),acc=ts.map .str/\s=[.own st',.own (.str k),.own (.str nm)]/\St (n+3+3 * j) st'/\ts.length=j/\∀ t∈ts,Tx t) ⟨[],st3,rfl,rfl,hs3.up (by omega),rfl,nofun⟩ ?_ ?_
  ·rintro j d acc _ hd ⟨ts,st',rfl,rfl,hs',hj,ht⟩ K hK
   obtain⟨rfl,hj'⟩:=wo hd
   refine⟨_,rfl,?_⟩
   walk_at "go"
   refine jB hs' (by omega) (by omega) fun t st4 htx hs4=>⟨nofun,?_⟩
   walk_at "go"
   exact hK _ _ ⟨ts++[t],st4,yH,rfl,hs4.up (by omega),wb hj,vK ht htx⟩
  ·rintro acc _ ⟨ts,st',rfl,rfl,hs',hj,ht⟩
   rw [jb] at hj hs'
   walk_at "go"
   subst hr
   refine q (nm,.row ts) _ _ ⟨hnm,by omega,by omega,ht⟩ rfl ?_ (hs'.up (by omega))
   show T.tp [.str _,.str _,strip (fzn (.ls (ts.map .str)))]=_
   show T.tp [.str _,.str _,.ls (zb (zb (ts.map .str)))]=_
   rw [zr fun _=>rfl,zr fun _=>rfl]
   rfl
 ·by_cases ht:k=[116,97,108,107]
  ·walk_at "go"
   refine qJ hs2 (by omega) (by decide) fun r2 st3 h2 h2' hs3=>⟨nofun,?_⟩
   have e:=yG (n:=r2.toNat) (j:=r2) (by omega) (by omega)
   walk_at "go"
   refine j0 (fun j acc s=>∃ (ps:List (Bool×List Nat)) (st':T),acc=ps.map trP/\s=[.own st',.own (.str k),.own (.str nm)]/\St (n+3+4 * j) st'/\ps.length=j/\∀ p∈ps,WZ p) ⟨[],st3,rfl,rfl,hs3.up (by omega),rfl,nofun⟩ ?_ ?_
   ·rintro j d acc _ hd ⟨ts,st',rfl,rfl,hs',hj,ht⟩ K hK
    obtain⟨rfl,hj'⟩:=wo hd
    refine⟨_,rfl,?_⟩
    walk_at "go"
    refine zbM hs' (by omega) fun w t st4 htx hs4=>⟨nofun,?_⟩
    walk_at "go"
    exact hK _ _ ⟨ts++[(w,t)],st4,yH (f:=trP) (c:=(w,t)),rfl,hs4.up (by omega),wb hj,vK ht htx⟩
   ·rintro acc _ ⟨ts,st',rfl,rfl,hs',hj,ht'⟩
    rw [jb] at hj hs'
    walk_at "go"
    subst ht
    refine q (nm,.talk ts) _ _ ⟨hnm,by omega,ht'⟩ rfl ?_ (hs'.up (by omega))
    show T.tp [.str _,.str _,.ls (zb (zb (ts.map trP)))]=_
    rw [zr fun _=>rfl,zr fun _=>rfl]
    rfl
  ·walk_at "go"
   refine jB hs2 (by omega) (by omega) fun t st3 htx hs3=>⟨nofun,?_⟩
   walk_at "go"
   rcases hk with rfl | rfl | rfl | rfl
   ·exact q (nm,.bare t) _ _ ⟨hnm,htx⟩ rfl rfl (hs3.up (by omega))
   ·exact q (nm,.quoted t) _ _ ⟨hnm,htx⟩ rfl rfl (hs3.up (by omega))
   ·exact absurd rfl hr
   ·exact absurd rfl ht
end
section
variable {Q:T->List T->Prop} {X:Exn->List T->Prop}
noncomputable abbrev AS:List Nat:=[97,115,105,115]
noncomputable abbrev AE:List Nat:=[60,47,97,115,105,115,62]
def TxIn (nm t:List Nat):Prop:=Tx t/\(nm=AS->occs t AE=[])
theorem zbN {n:Int}{st:T}{rows:List T}{os:List (List Nat)}(hs:St n st)(hn:n<=700000)(hr:rows.length<1000)(ho:os.length<1000)
  (q:∀ nm as tb t st',Nm nm->as.length<=2->(∀ a∈as,vj a)->shr tb=true->strip tb=trR (.box nm as)->TxIn nm t->St (n+100) st'->Q .non [st',.ls (rows++[tb]++[trR (.text t)]),.ls ((os++[nm]).map .str)]):qS [st,.ls rows,.ls (os.map .str)] Q X:=by
 unfold qS j5 fnD
 refine⟨rfl,?_⟩
 walk_at "go"
 refine Ym hs (by omega) fun nm0 st1 hnm0 hs1=>⟨nofun,?_⟩
 walk_at "go"
 refine qJ hs1 (by omega) (by decide) fun r1 st2 h1 h1' hs2=>⟨nofun,?_⟩
 have rest:∀ nm:List Nat,Nm nm->∀ x:Slot,WSs (j5.drop 2) [.own st2,.own (.ls rows),.own (.ls (os.map .str)),.own (.str nm),x] { nx:=fun s=>∃ r,retA [.mu,.mu,.mu] s=some r/\Q .non r,rt:=fun t s=>∃ r,retA [.mu,.mu,.mu] s=some r/\Q t r,bk:=fun _=>False,ct:=fun _=>False,ex:=fun x s=>∃ r,retA [.mu,.mu,.mu] s=some r/\X x r }:=by
  intro nm hnm x
  dsimp only [j5,List.drop]
  walk_at "go"
  refine qJ hs2 (by omega) (by decide) fun r2 st3 h2 h2' hs3=>⟨nofun,?_⟩
  have e:=yG (n:=(r2 / 2).toNat) (j:=r2 / 2) (by omega) (by omega)
  walk_at "go"
  refine j0 (fun j acc s=>∃ (as:List (List Nat×Ct)) (st':T) (x:Slot),zb acc=as.map trA/\s=[.own st',.own (.ls rows),.own (.ls (os.map .str)),.own (.str nm),x]/\St (n+3+30 * j) st'/\acc.length=j/\as.length=j/\∀ a∈as,vj a) ⟨[],st3,_,rfl,rfl,hs3.up (by omega),rfl,rfl,nofun⟩ ?_ ?_
  ·rintro j d acc _ hd ⟨as,st',x',hacc,rfl,hs',hj,hja,ha⟩ K hK
   obtain⟨rfl,hj'⟩:=wo hd
   refine⟨_,rfl,?_⟩
   walk_at "go"
   refine zdc hs' (by omega) fun a t st4 hga _ hst hs4=>⟨nofun,?_⟩
   walk_at "go"
   apply hK
   exact⟨as++[a],st4,_,by rw [zI,hacc,List.map_append];show _++[strip t]=_;rw [hst];rfl,rfl,hs4.up (by omega),wb hj,wb hja,vK ha hga⟩
  ·rintro acc _ ⟨as,st',x',hacc,rfl,hs',hj,hja,ha⟩
   rw [jb] at hj hja hs'
   walk_at "go"
   refine jB hs' (by omega) (by omega) fun t st4 htx hs4=>⟨nofun,?_⟩
   have stb:strip (.tp [.str [98,111,120],.str nm,fzn (.ls acc)])=trR (.box nm as):=by
    show T.tp [.str _,.str _,.ls (zb (zb acc))]=_
    rw [hacc,zr xw]
    rfl
   have fin:∀ t,TxIn nm t->Q .non [st4,.ls (rows++[.tp [.str [98,111,120],.str nm,fzn (.ls acc)]]++[trR (.text t)]),.ls ((os++[nm]).map .str)]:=fun t ht=>q nm as _ t st4 hnm (by omega) ha rfl stb ht (hs4.up (by omega))
   have ec:cmpO .isin (.str AE) (.str t)=some (!(occs t AE).isEmpty):=rfl
   have em:(List.map T.str os++[T.str nm])=(os++[nm]).map T.str:=yH
   walk_at "go"
   refine w_if (fun e1=>?_) fun e1=>?_
   ·walk_at "go"
    rcases ZT t AE with⟨o1,o2⟩ | ⟨i,r,o1,o2,o3,o4⟩
    ·have ob:(!(occs t AE).isEmpty)=false:=by rw [o1];rfl
     walk_at "go"
     have:=fin t ⟨htx,fun _=>o1⟩
     rw [← em] at this
     exact this
    ·have ob:(!(occs t AE).isEmpty)=true:=by rw [o1];rfl
     have ei:meO .index (.str t) [.str AE]=some (.int i):=by
      show((occs t AE).head?.map fun i=>T.int (i:Int))=_
      rw [o1]
      rfl
     have es:slO (.str t) none (some ((i:Int)+6))=some (.str (t.take (i+6))):=by
      show some (T.str (cutL t none (some (((i+6:Nat)):Int))))=_
      rw [ZR]
     walk_at "go"
     have:=fin (t.take (i+6)) ⟨⟨fun c hc=>htx.1 c (List.mem_of_mem_take hc),by rw [List.length_take];have:=htx.2;omega⟩,fun _=>zbF o4 (by simp only [List.length];omega)⟩
     rw [← em] at this
     exact this
   ·walk_at "go"
    have:=fin t ⟨htx,fun z=>absurd z e1⟩
    rw [← em] at this
    exact this
 walk_at "go"
 refine w_if (fun _=>?_) fun _=>?_
 ·refine z9 ?_
  dsimp only [WS,WE,WT]
  refine vJ ?_
  exact rest AS ⟨by decide,by decide,by decide⟩ _
 ·refine vJ ?_
  exact rest nm0 hnm0 _
end
section
variable {Q:T->List T->Prop} {X:Exn->List T->Prop}
inductive Stp where
 | bx (nm:List Nat) (as:List (List Nat×Ct)) (t:List Nat) | ot (t:List Nat)
noncomputable def jK:Stp->List Rw
 | .bx nm as t=>[.box nm as,.text t]
 | .ot t=>[.out,.text t]
inductive Runs:List Stp->List (List Nat)->Prop where
 | nil:Runs [] []
 | bx {ss:List Stp} {os:List (List Nat)} {nm:List Nat} {as:List (List Nat×Ct)} {t:List Nat}:Runs ss os->(∀ x∈os,x≠AS)->Nm nm->as.length<=2->(∀ a∈as,vj a)->TxIn nm t->Runs (ss++[.bx nm as t]) (os++[nm])
 | ot {ss:List Stp} {os:List (List Nat)} {nm t:List Nat}:Runs ss (os++[nm])->Tx t->Runs (ss++[.ot t]) os
theorem Runs.asis {ss:List Stp}{os:List (List Nat)}(h:Runs ss os):∀ x∈os.dropLast,x≠AS:=by
 induction h with
 | nil=>exact nofun
 | bx _ h1 _ _ _ _ _=>rw [List.dropLast_concat];exact h1
 | ot _ _ ih=>
  rw [List.dropLast_concat] at ih
  exact fun x hx=>ih x (List.dropLast_subset _ hx)
theorem Runs.inm {ss:List Stp}{os:List (List Nat)}(h:Runs ss os)(n:os.getLast?≠some AS):∀ x∈os,x≠AS:=by
 rcases List.eq_nil_or_concat os with rfl | ⟨os',nm,rfl⟩
 ·exact nofun
 ·intro x hx
  have:=h.asis
  rw [List.concat_eq_append] at *
  rw [List.dropLast_concat] at this
  rcases List.mem_append.mp hx with z | z
  ·exact this x z
  ·rw [List.mem_singleton.mp z]
   intro e
   subst e
   exact n (by rw [List.getLast?_concat])
noncomputable def zk (t0:List Nat)(ss:List Stp):List Rw:=.text t0::ss.flatMap jK
theorem yd {t0:List Nat}{ss:List Stp}{s:Stp}:zk t0 (ss++[s])=zk t0 ss++jK s:=by
 unfold zk
 rw [List.flatMap_append]
 simp
theorem ZZ:∀ os:List (List Nat),wD (os.map .str)=some (os.map fun t=>Dat.fl (.str (S t)))
 | []=>rfl
 | t::os=>by
  show two (some (Dat.fl (.str (S t)))) (wD (os.map .str)) _=_
  rw [ZZ os]
  rfl
theorem Z0:∀ os:List (List Nat),xC (os.map fun t=>Dat.fl (.str (S t)))=0
 | []=>rfl
 | t::os=>by
  show max 0 (xC (os.map fun t=>Dat.fl (.str (S t))))=0
  rw [Z0 os]
  rfl
theorem ne_nil {os:List (List Nat)}:cmpO .ne (.ls (os.map .str)) (.ls [])=some (!os.isEmpty):=by
 show(orE none (if (cont (.ls (os.map .str))&&cont (.ls []))=true then two ((wD (os.map .str)).map Dat.ls) (some (Dat.ls [])) _ else none)).map _=_
 rw [ZZ]
 show((if xC (os.map fun t=>Dat.fl (.str (S t)))+1<=50 then some (eqD (.ls _) (.ls [])) else none).map _)=_
 rw [Z0]
 cases os<;>rfl
theorem Yo {os:List (List Nat)}{nm:List Nat}:ixO (.ls ((os++[nm]).map .str)) (.int (-1))=some (.str nm):=by
 show orE (atI _ (-1)) _=_
 rw [YX,List.map_append]
 simp only [List.map_cons,List.map_nil,List.getLast?_concat]
 rfl
theorem zbO {os:List (List Nat)}{nm:List Nat}:muT .pop (.ls ((os++[nm]).map .str)) []=some (.ls (os.map .str),.str nm):=by
 show(((os++[nm]).map T.str)[((os++[nm]).map T.str).length - 1]?).map _=_
 simp
end
section
variable {Q:T->List T->Prop} {X:Exn->List T->Prop}
theorem zdd {n most:Int}{st:T}(hs:St n st)(hn:n<=500000)(hm:0<=most/\most<50)(q:∀ t0 ss rt st',Tx t0->Runs ss []->zb rt=(zk t0 ss).map trR->shrs rt=true->ss.length<=200->Q (.ls rt) [st',.non]):qA [st,.int most] Q X:=by
 unfold qA vi fnD
 refine⟨rfl,?_⟩
 walk_at "go"
 refine jB hs (by omega) (by omega) fun t0 st1 ht0 hs1=>⟨nofun,?_⟩
 walk_at "go"
 refine qJ hs1 (by omega) (by omega) fun r1 st2 h1 h1' hs2=>⟨nofun,?_⟩
 have e:=yG (n:=r1.toNat) (j:=r1) (by omega) (by omega)
 walk_at "go"
 refine jo (fun k s=>∃ st' rt ss os x,s=[.own st',.own (.int most),.own (.ls rt),.own (.ls (os.map T.str)),x]/\St (n+4+200 * k) st'/\Runs ss os/\zb rt=(zk t0 ss).map trR/\shrs rt=true/\ss.length=k/\os.length<=k/\rt.length=1+2 * k) ⟨st2,_,[],[],_,rfl,hs2.up (by omega),.nil,rfl,rfl,rfl,Nat.le_refl _,rfl⟩ ?_ ?_
 ·rintro k d _ hd ⟨st',rt,ss,os,x,rfl,hs',hr,hrt,hsh,hk,ho,hl⟩
  obtain⟨rfl,hk'⟩:=wo hd
  refine⟨_,rfl,fun K hK=>?_⟩
  have en:=ne_nil (os:=os)
  have bx:∀ nm as tb t st3,Nm nm->as.length<=2->(∀ a∈as,vj a)->shr tb=true->strip tb=trR (.box nm as)->TxIn nm t->St (n+4+200 * k+1+100) st3->os.getLast?≠some AS->K [.own st3,.own (.int most),.own (.ls (rt++[tb]++[trR (.text t)])),.own (.ls ((os++[nm]).map T.str)),.own (.int k)]:=fun nm as tb t st3 b1 b2 b3 b4 b5 b6 b7 b8=>by
   refine hK _ ⟨st3,_,ss++[.bx nm as t],os++[nm],_,rfl,b7.up (by omega),.bx hr (hr.inm b8) b1 b2 b3 b6,?_,?_,wb hk,by rw [List.length_append];simp only [List.length_cons,List.length_nil];omega,by simp only [List.length_append,List.length_cons,List.length_nil];omega⟩
   ·rw [zI,zI,hrt,yd,List.map_append,List.append_assoc]
    show _++([strip tb]++[strip (trR (.text t))])=_
    rw [b5]
    rfl
   ·exact qm (qm hsh (by show(shr tb&&true)=true;rw [b4];rfl)) rfl
  rcases List.eq_nil_or_concat os with rfl | ⟨os',nm,rfl⟩
  ·walk_at "go"
   refine zbN (os:=[]) hs' (by omega) (by omega) (by simp) fun nm as tb t st3 b1 b2 b3 b4 b5 b6 b7=>⟨nofun,?_⟩
   walk_at "go"
   exact bx nm as tb t st3 b1 b2 b3 b4 b5 b6 (b7.up (by omega)) (by simp)
  ·rw [List.concat_eq_append] at *
   have eo:(!(os'++[nm]).isEmpty)=true:=by cases os'<;>rfl
   have el:=Yo (os:=os') (nm:=nm)
   have ep:=zbO (os:=os') (nm:=nm)
   have cat:=fun t:List Nat=>ZU (xs:=rt) (ys:=[.tp [.str [111,117,116]],.tp [.str [116,101,120,116],.str t]]) hsh rfl (by simp only [List.length_cons,List.length_nil];omega)
   have ou:∀ t st3,Tx t->St (n+4+200 * k+10) st3->K [.own st3,.own (.int most),.own (.ls (rt++[.tp [.str [111,117,116]],.tp [.str [116,101,120,116],.str t]])),.own (.ls (os'.map T.str)),.own (.int k)]:=fun t st3 b1 b2=>by
    refine hK _ ⟨st3,_,ss++[.ot t],os',_,rfl,b2.up (by omega),.ot hr b1,?_,qm hsh rfl,wb hk,by rw [List.length_append] at ho;simp only [List.length_cons,List.length_nil] at ho;omega,by simp only [List.length_append,List.length_cons,List.length_nil];omega⟩
    rw [zI,hrt,yd,List.map_append]
    rfl
   walk_at "go"
   refine Yk (fun hna=>?_) fun ha=>?_
   ·walk_at "go"
    refine qJ hs' (by omega) (by omega) fun r2 st4 h2 h2' hs4=>⟨nofun,?_⟩
    walk_at "go"
    refine Yk (fun _=>?_) fun _=>?_
    ·walk_at "go"
     refine zbN (os:=os'++[nm]) hs4 (by omega) (by omega) (by omega) fun nm' as tb t st3 b1 b2 b3 b4 b5 b6 b7=>⟨nofun,?_⟩
     walk_at "go"
     exact bx nm' as tb t st3 b1 b2 b3 b4 b5 b6 b7 (by rw [List.getLast?_concat];simpa using hna)
    ·walk_at "go"
     refine jB hs4 (by omega) (by omega) fun t st3 b1 b2=>⟨nofun,?_⟩
     have ec:=cat t
     walk_at "go"
     exact ou t st3 b1 (b2.up (by omega))
   ·walk_at "go"
    refine jB hs' (by omega) (by omega) fun t st3 b1 b2=>⟨nofun,?_⟩
    have ec:=cat t
    walk_at "go"
    exact ou t st3 b1 (b2.up (by omega))
 ·rintro _ ⟨st',rt,ss,os,x,rfl,hs',hr,hrt,hsh,hk,ho,hl⟩
  rw [jb] at hs' hk ho hl
  have e2:=yG (n:=os.length) (j:=((os.map T.str).length:Nat)) (by rw [List.length_map]) (by omega)
  have e3:biO .len [.ls (os.map T.str)]=some (.int ((os.map T.str).length:Nat)):=rfl
  refine z9 ?_
  dsimp only [WS,WE,WEs,WT,WA,WP,WO,WB,WTb,ckT]
  refine kN rfl ?_
  refine w_bi e3 ?_
  refine w_it e2 ?_
  refine jo (fun j s=>∃ st' rt ss x,s=[.own st',.own (.int most),.own (.ls rt),.own (.ls (os.map T.str)),x]/\St (n+4+200 * 50+10 * j) st'/\Runs ss (os.take (os.length - j))/\zb rt=(zk t0 ss).map trR/\shrs rt=true/\ss.length=r1.toNat+j/\rt.length=1+2 * (r1.toNat+j)) ⟨st',rt,ss,x,rfl,hs'.up (by omega),by rw [Nat.sub_zero,List.take_length];exact hr,hrt,hsh,hk,hl⟩ ?_ ?_
  ·rintro j d _ hd ⟨st',rt,ss,x,rfl,hs',hr,hrt,hsh,hk,hl⟩
   obtain⟨rfl,hj'⟩:=wo hd
   refine⟨_,rfl,fun K hK=>?_⟩
   walk_at "go"
   refine jB hs' (by omega) (by omega) fun t st3 b1 b2=>⟨nofun,?_⟩
   have ec:=ZU (xs:=rt) (ys:=[.tp [.str [111,117,116]],.tp [.str [116,101,120,116],.str t]]) hsh rfl (by simp only [List.length_cons,List.length_nil];omega)
   walk_at "go"
   have hlt:os.length - (j+1)<os.length:=by omega
   refine hK _ ⟨st3,_,ss++[.ot t],_,rfl,b2.up (by omega),.ot (nm:=os[os.length - (j+1)]) ?_ b1,?_,qm hsh rfl,by rw [List.length_append,hk];rfl,by simp only [List.length_append,List.length_cons,List.length_nil];omega⟩
   ·have:os.take (os.length - j)=os.take (os.length - (j+1))++[os[os.length - (j+1)]]:=by
     rw [show os.length - j=os.length - (j+1)+1 by omega,List.take_succ_eq_append_getElem hlt]
    rw [← this]
    exact hr
   ·rw [zI,hrt,yd,List.map_append]
    rfl
  ·rintro _ ⟨st',rt,ss,x,rfl,hs',hr,hrt,hsh,hk,hl⟩
   rw [jb] at hr hk
   rw [Nat.sub_self,List.take_zero] at hr
   walk_at "go"
   exact q t0 ss rt st' ht0 hr hrt hsh (by omega)
end
section
variable {Q:T->List T->Prop} {X:Exn->List T->Prop}
noncomputable def evS (t:List Nat):List T:=t.map fun c=>.tp [.str [115,105,103,110],.str [c]]
noncomputable def evP (p:Bool×List Nat):List T:=.tp [.str (if p.1=true then [119,111,114,100] else [115,97,105,100])]::evS p.2
noncomputable def evRw:List (List Nat)->List T
 | []=>[]
 | t::ts=>evS t++ts.flatMap fun u=>.tp [.str [110,101,120,116]]::evS u
noncomputable def evC:Ct->List T
 | .bare t=>evS t
 | .quoted t=>evS t
 | .row ts=>evRw ts
 | .talk ps=>ps.flatMap evP
noncomputable def evA (a:List Nat×Ct):List T:=.tp [.str [97,116,116,114],.str a.1,.str (kd a.2)]::evC a.2
theorem Zc {t:List Nat}{s:Sl}{Q:QP}(hl:t.length<=1000000)(hs:s.map Slot.noAl=s)(q:Q (.ls (evS t)) s):wG 1 (fun s K=>K true s) (fun s K=>∃ t,s[0]? = some (.own t)/\(false=true\/shr t=true)/\[T.str [115,105,103,110],t].length<=16777216/\K (.tp [.str [115,105,103,110],t]) s) (L4.signs t) [] s Q:=by
 refine j0 (fun k acc s'=>s' = s/\acc=evS (t.take k)) ⟨rfl,rfl⟩ ?_ ?_
 ·rintro k d acc _ hd ⟨rfl,rfl⟩ K hK
  unfold L4.signs at hd
  rw [List.getElem?_map] at hd
  obtain⟨c,hc,rfl⟩:=Option.map_eq_some_iff.mp hd
  have hk:=(List.getElem?_eq_some_iff.mp hc).1
  refine⟨_,rfl,?_⟩
  refine zeq rfl ⟨_,rfl,.inr rfl,by simp only [List.length];omega,?_,?_⟩
  ·show(evS (t.take k)).length<16777216
   unfold evS
   rw [List.length_map,List.length_take]
   omega
  ·refine hK _ _ ⟨hs,?_⟩
   rw [List.take_succ,hc]
   unfold evS
   rw [List.map_append]
   rfl
 ·rintro acc _ ⟨rfl,rfl⟩
  unfold L4.signs at *
  rw [List.length_map,List.take_length]
  exact q
theorem yL (t:List Nat):shrs (evS t)=true:=zbA (fun _=>rfl) t
theorem kq (t:List Nat):zb (evS t)=evS t:=zr (fun _=>rfl) t
theorem Yp {nm t:List Nat}{c:Ct}(hc:trC c=.str t)(he:evC c=evS t)(hk:kd c≠[114,111,119]/\kd c≠[116,97,108,107])(h:Tx t)(q:Q (.fz (.ls (evA (nm,c)))) [.non]):zg [.fz (trA (nm,c))] Q X:=by
 unfold zg zS fnD
 refine⟨rfl,?_⟩
 refine z9 ?_
 dsimp only [WS,WE,WEs,WT,WA,WP,WO,WB,WTb,ckT]
 refine Yj rfl rfl ?_
 refine⟨_,_,rfl,rfl,?_⟩
 show WSs _ [.own (.fz (trA (nm,c))),.own (.str nm),.own (.str (kd c)),.own (fzi (trC c)),.no,.no,.no,.no] _
 rw [hc]
 obtain⟨hk1,hk2⟩:=hk
 have ei:itT .seq [.str t]=some (L4.signs t):=rfl
 have ec:=catF (xs:=[.tp [.str [97,116,116,114],.str nm,.str (kd c)]]) (ys:=evS t) rfl (yL t) (by unfold evS;rw [List.length_map];have:=h.2;simp only [List.length];omega)
 show WSs _ [.own (.fz (trA (nm,c))),.own (.str nm),.own (.str (kd c)),.own (.str t),.no,.no,.no,.no] _
 walk_at "go"
 refine Zc (by have:=h.2;omega) rfl ?_
 refine QZ (z:=.ls ((.fz (.tp [.str [97,116,116,114],.str nm,.str (kd c)]))::evS t)) ec ?_
 walk_at "go"
 have e:zb ((.fz (.tp [.str [97,116,116,114],.str nm,.str (kd c)]))::evS t)=evA (nm,c):=by
  show _::zb (evS t)=_
  rw [kq]
  show _=_::evC c
  rw [he]
  rfl
 rw [← e] at q
 exact q
end
section
variable {Q:T->List T->Prop} {X:Exn->List T->Prop}
def EvL (es:List T):Prop:=∀ e∈es,∃ xs,e=.tp xs/\zb xs=xs
theorem EvL.app {xs ys:List T}(h:EvL xs)(h':EvL ys):EvL (xs++ys):=fun e he=>(List.mem_append.mp he).elim (h e) (h' e)
theorem EvL.cons {xs ys:List T}(h:zb xs=xs)(h':EvL ys):EvL (.tp xs::ys):=fun e he=>by
 rcases List.mem_cons.mp he with z | z
 ·exact⟨_,z,h⟩
 ·exact h' e z
theorem kP (t:List Nat):EvL (evS t):=fun e he=>by
 obtain⟨c,_,rfl⟩:=List.mem_map.mp he
 exact⟨_,rfl,rfl⟩
theorem EvL.strip {es:List T}(h:EvL es):zb es=es:=j3 fun t ht=>by
 obtain⟨xs,rfl,e⟩:=h t ht
 show T.tp (zb xs)=_
 rw [e]
theorem EvL.fzi {es:List T}(h:EvL es):zb (es.map fzi)=es:=by
 rw [qd,List.map_map]
 have:es.map (L4.strip ∘ L4.fzi)=es.map id:=List.map_congr_left fun t ht=>by
  obtain⟨xs,rfl,e⟩:=h t ht
  show T.tp (zb xs)=_
  rw [e];rfl
 rw [this,List.map_id]
theorem EvL.shr {es:List T}(h:EvL es):shrs (es.map L4.fzi)=true:=yF fun t ht=>by
 obtain⟨e,he,rfl⟩:=List.mem_map.mp ht
 obtain⟨xs,rfl,_⟩:=h e he
 rfl
theorem qP (t:List Nat):(evS t).length=t.length:=by unfold evS;rw [List.length_map]
theorem zbP {es:List T}{t:List Nat}{w:List T}(h:EvL es)(hw:EvL w):fzn (.ls (es.map fzi++w++evS t))=.fz (.ls (es++(w++evS t))):=by
 show T.fz (.ls (zb _))=_
 rw [zI,zI,h.fzi,kq,hw.strip,List.append_assoc]
theorem zde {nm:List Nat}{ps:List (Bool×List Nat)}(hl:ps.length<=4)(hp:∀ p∈ps,p.2.length<=100)(q:Q (.fz (.ls (evA (nm,.talk ps)))) [.non]):zg [.fz (trA (nm,.talk ps))] Q X:=by
 unfold zg zS fnD
 refine⟨rfl,?_⟩
 refine z9 ?_
 dsimp only [WS,WE,WEs,WT,WA,WP,WO,WB,WTb,ckT]
 refine Yj rfl rfl ?_
 refine⟨_,_,rfl,rfl,?_⟩
 show WSs _ [.own (.fz (trA (nm,.talk ps))),.own (.str nm),.own (.str [116,97,108,107]),.own (.fz (.ls (ps.map trP))),.no,.no,.no,.no] _
 have ei:itT .seq [.fz (.ls (ps.map trP))]=some (ps.map fun p=>.fz (trP p)):=by
  show orE (shO (some ((ps.map trP).map fzi))) _=_
  rw [List.map_map]
  rw [jq fun t ht=>by obtain⟨a,_,rfl⟩:=List.mem_map.mp ht;rfl]
  rfl
 walk_at "go"
 refine jo (fun k s=>∃ x y:Slot,s=[.own (.fz (trA (nm,.talk ps))),.own (.str nm),.own (.str [116,97,108,107]),.own (.fz (.ls (ps.map trP))),.own (.fz (.ls (.tp [.str [97,116,116,114],.str nm,.str [116,97,108,107]]::(ps.take k).flatMap evP))),.no,x,y]/\((ps.take k).flatMap evP).length<=101 * k) ⟨_,_,rfl,Nat.le_refl _⟩ ?_ ?_
 ·rintro k d s hd ⟨x,y,rfl,hk⟩
  rw [List.getElem?_map] at hd
  obtain⟨⟨w,t⟩,hc,rfl⟩:=Option.map_eq_some_iff.mp hd
  have ht:t.length<=100:=hp _ (List.mem_of_getElem? hc)
  have hk':=(List.getElem?_eq_some_iff.mp hc).1
  refine⟨_,rfl,fun K hK=>?_⟩
  have hE:EvL (.tp [.str [97,116,116,114],.str nm,.str [116,97,108,107]]::(ps.take k).flatMap evP):=.cons rfl (fun e he=>by
   obtain⟨p,_,hp⟩:=List.mem_flatMap.mp he
   exact EvL.cons rfl (kP _) e hp)
  generalize hes:(T.tp [.str [97,116,116,114],.str nm,.str [116,97,108,107]]::(ps.take k).flatMap evP)=es at *
  have hel:es.length<=500:=by rw [← hes];simp only [List.length_cons];omega
  have hn:T.tp [.str [97,116,116,114],.str nm,.str [116,97,108,107]]::(ps.take (k+1)).flatMap evP=es++([T.tp [.str (if (w,t).1=true then [119,111,114,100] else [115,97,105,100])]]++evS t):=by
   rw [← hes,List.take_succ,hc,List.flatMap_append]
   simp [evP]
  have hn':((ps.take (k+1)).flatMap evP).length<=101 * (k+1):=by
   rw [List.take_succ,hc,List.flatMap_append,List.length_append]
   simp only [Option.toList,List.flatMap_cons,List.flatMap_nil,List.append_nil,evP,List.length_cons,qP]
   omega
  rw [hn] at hK
  clear hn hes hd hc hk q
  generalize (if (w,t).1=true then [119,111,114,100] else [115,97,105,100])=wd at *
  show WSs _ [.own (.fz (trA (nm,.talk ps))),.own (.str nm),.own (.str [116,97,108,107]),.own (.fz (.ls (ps.map trP))),.own (.fz (.ls es)),.no,.own (.str wd),.own (.str t)] _
  have ei:itT .seq [.str t]=some (L4.signs t):=rfl
  have e1:=catF (xs:=es) (ys:=[.tp [.str wd]]) hE.shr rfl (by simp only [List.length];omega)
  have e2:=ZU (xs:=es.map fzi++[.tp [.str wd]]) (ys:=evS t) (qm hE.shr rfl) (yL t) (by rw [qP];simp only [List.length_append,List.length_map,List.length];omega)
  have e3:=zbP (t:=t) hE (w:=[.tp [.str wd]]) (.cons rfl nofun)
  walk_at "go"
  refine Zc (by omega) rfl ?_
  refine QZ e2 ?_
  rw [e3]
  walk_at "go"
  exact hK _ ⟨_,_,rfl,hn'⟩
 ·rintro s ⟨x,y,rfl,hk⟩
  rw [List.length_map,List.take_length]
  walk_at "go"
  exact q
end
section
variable {Q:T->List T->Prop} {X:Exn->List T->Prop}
noncomputable def nxt:Nat->List T
 | 0=>[]
 | _+1=>[.tp [.str [110,101,120,116]]]
theorem Q1 {ts:List (List Nat)}{t:List Nat}:evRw (ts++[t])=evRw ts++(nxt ts.length++evS t):=by
 cases ts with
 | nil=>simp [evRw,nxt]
 | cons u us=>simp [evRw,nxt]
theorem zbQ (ts:List (List Nat)):EvL (evRw ts):=by
 cases ts with
 | nil=>exact nofun
 | cons u us=>
  refine EvL.app (kP u) fun e he=>?_
  obtain⟨p,_,hp⟩:=List.mem_flatMap.mp he
  exact EvL.cons rfl (kP _) e hp
theorem zf9 {nm:List Nat}{ts:List (List Nat)}(hl:ts.length<=4)(hp:∀ p∈ts,p.length<=100)(q:Q (.fz (.ls (evA (nm,.row ts)))) [.non]):zg [.fz (trA (nm,.row ts))] Q X:=by
 unfold zg zS fnD
 refine⟨rfl,?_⟩
 refine z9 ?_
 dsimp only [WS,WE,WEs,WT,WA,WP,WO,WB,WTb,ckT]
 refine Yj rfl rfl ?_
 refine⟨_,_,rfl,rfl,?_⟩
 show WSs _ [.own (.fz (trA (nm,.row ts))),.own (.str nm),.own (.str [114,111,119]),.own (.fz (.ls (ts.map .str))),.no,.no,.no,.no] _
 have el:biO .len [.fz (.ls (ts.map .str))]=some (.int ts.length):=by
  show some (T.int (((ts.map T.str).map fzi).length:Nat))=_
  rw [List.length_map,List.length_map]
 have er:=yG (n:=ts.length) rfl (by omega)
 refine z9 ?_
 dsimp only [WS,WE,WEs,WT,WA,WP,WO,WB,WTb,ckT]
 iterate 6 walk_at "w1"
 refine zen zeo ?_
 refine w_bl rfl ?_
 refine w_if (fun _=>?_) fun h=>absurd rfl h
 iterate 2 walk_at "w1"
 refine w_bi el ?_
 refine w_it er ?_
 refine jo (fun k s=>∃ x:Slot,s=[.own (.fz (trA (nm,.row ts))),.own (.str nm),.own (.str [114,111,119]),.own (.fz (.ls (ts.map .str))),.own (.fz (.ls (.tp [.str [97,116,116,114],.str nm,.str [114,111,119]]::evRw (ts.take k)))),x,.no,.no]/\(evRw (ts.take k)).length<=101 * k) ⟨_,rfl,Nat.le_refl _⟩ ?_ ?_
 ·rintro k d s hd ⟨x,rfl,hk⟩
  obtain⟨rfl,hj⟩:=wo hd
  have hc:=List.getElem?_eq_getElem hj
  generalize ts[k]=t at hc
  have ht:t.length<=100:=hp _ (List.mem_of_getElem? hc)
  refine⟨_,rfl,fun K hK=>?_⟩
  have hE:EvL (.tp [.str [97,116,116,114],.str nm,.str [114,111,119]]::evRw (ts.take k)):=.cons rfl (zbQ _)
  have htl:(ts.take k).length=k:=by rw [List.length_take];omega
  have hn:T.tp [.str [97,116,116,114],.str nm,.str [114,111,119]]::evRw (ts.take (k+1))=.tp [.str [97,116,116,114],.str nm,.str [114,111,119]]::evRw (ts.take k)++(nxt k++evS t):=by
   rw [List.take_succ,hc]
   show _::evRw (ts.take k++[t])=_
   rw [Q1,htl]
   rfl
  have nl:(nxt k).length<=1:=by cases k<;>simp [nxt]
  have nE:EvL (nxt k):=by
   cases k
   ·exact nofun
   ·exact .cons rfl nofun
  have ns:shrs (nxt k)=true:=by cases k<;>rfl
  have hn':(evRw (ts.take (k+1))).length<=101 * (k+1):=by
   rw [List.take_succ,hc]
   show(evRw (ts.take k++[t])).length<=_
   rw [Q1,htl,List.length_append,List.length_append,qP]
   omega
  have hel:(T.tp [.str [97,116,116,114],.str nm,.str [114,111,119]]::evRw (ts.take k)).length<=500:=by simp only [List.length_cons];omega
  rw [hn] at hK
  generalize (T.tp [.str [97,116,116,114],.str nm,.str [114,111,119]]::evRw (ts.take k))=es at *
  show WSs _ [.own (.fz (trA (nm,.row ts))),.own (.str nm),.own (.str [114,111,119]),.own (.fz (.ls (ts.map .str))),.own (.fz (.ls es)),.own (.int k),.no,.no] _
  have ei:itT .seq [.str t]=some (L4.signs t):=rfl
  have ex:ixO (.fz (.ls (ts.map .str))) (.int (k:Int))=some (.str t):=by
   show orE (atI ((ts.map T.str).map fzi) (k:Int)) _=_
   obtain⟨v,e1,e2⟩:=kY (xs:=(ts.map T.str).map fzi) (i:=(k:Int)) (by omega) (by simp only [List.length_map];omega)
   rw [List.map_map,List.getElem?_map] at e2
   have e3:(k:Int).toNat=k:=by omega
   rw [e3,hc] at e2
   rw [e1]
   show some v=_
   rw [← e2]
   rfl
  obtain⟨bz,z,ec,ez,em⟩:∃ bz z,cmpO .gt (.int (k:Int)) (.int 0)=some bz/\biO .int [.bl bz]=some (.int z)/\binO .mul (.ls [.tp [.str [110,101,120,116]]]) (.int z)=some (.ls (nxt k)):=by
   cases k with
   | zero=>exact⟨false,0,rfl,rfl,rfl⟩
   | succ k=>exact⟨true,1,by show some (decide ((0:Int)<((k+1:Nat):Int)))=_;rw [decide_eq_true (by omega)],rfl,rfl⟩
  have e1:=catF (xs:=es) (ys:=nxt k) hE.shr ns (by omega)
  have e2:=ZU (xs:=es.map fzi++nxt k) (ys:=evS t) (qm hE.shr ns) (yL t) (by rw [qP];simp only [List.length_append,List.length_map];omega)
  have e3:=zbP (t:=t) hE nE
  walk_at "go"
  refine Zc (by omega) rfl ?_
  refine QZ e2 ?_
  rw [e3]
  walk_at "go"
  exact hK _ ⟨_,rfl,hn'⟩
 ·rintro s ⟨x,rfl,hk⟩
  rw [jb,List.take_length]
  walk_at "go"
  exact q
theorem zet {p:Bool×List Nat}(h:WZ p):p.2.length<=100:=by
 unfold WZ at h
 split at h
 ·have:=h.2.2;omega
 ·exact h.2
theorem zdf {a:List Nat×Ct}(h:vj a)(q:Q (.fz (.ls (evA a))) [.non]):zg [.fz (trA a)] Q X:=by
 obtain⟨nm,c⟩:=a
 have h2:=h.2
 cases c with
 | bare t=>exact Yp (t:=t) rfl rfl ⟨by dsimp only [kd];decide,by dsimp only [kd];decide⟩ h2 q
 | quoted t=>exact Yp (t:=t) rfl rfl ⟨by dsimp only [kd];decide,by dsimp only [kd];decide⟩ h2 q
 | row ts=>exact zf9 h2.2.1 (fun p hp=>(h2.2.2 p hp).2) q
 | talk ps=>exact zde h2.1 (fun p hp=>zet (h2.2 p hp)) q
end
section
variable {Q:T->List T->Prop} {X:Exn->List T->Prop}
noncomputable def GoodR:Rw->Prop
 | .text t=>Tx t
 | .out=>True
 | .box nm as=>Nm nm/\as.length<=2/\∀ a∈as,vj a
theorem Runs.good {ss:List Stp}{os:List (List Nat)}(h:Runs ss os):∀ r∈ss.flatMap jK,GoodR r:=by
 induction h with
 | nil=>exact nofun
 | bx _ h1 h2 h3 h4 h5 ih=>
  intro r hr
  rw [List.flatMap_append] at hr
  rcases List.mem_append.mp hr with z | z
  ·exact ih r z
  ·simp only [List.flatMap_cons,List.flatMap_nil,List.append_nil,jK,List.mem_cons,List.not_mem_nil,or_false] at z
   rcases z with rfl | rfl
   ·exact⟨h2,h3,h4⟩
   ·exact h5.1
 | ot _ h1 ih=>
  intro r hr
  rw [List.flatMap_append] at hr
  rcases List.mem_append.mp hr with z | z
  ·exact ih r z
  ·simp only [List.flatMap_cons,List.flatMap_nil,List.append_nil,jK,List.mem_cons,List.not_mem_nil,or_false] at z
   rcases z with rfl | rfl
   ·trivial
   ·exact h1
noncomputable def evR:Rw->List T
 | .text t=>evS t
 | .out=>[.tp [.str [111,117,116]]]
 | .box nm as=>.tp [.str [98,111,120],.str nm]::(as.flatMap evA++[.tp [.str [105,110]]])
theorem vk {α:Type}{f:α->List T}{m:Nat}:∀ {xs:List α},(∀ x∈xs,(f x).length<=m)->(xs.flatMap f).length<=m * xs.length
 | [],_=>Nat.le_refl _
 | x::xs,h=>by
  rw [List.flatMap_cons,List.length_append,List.length_cons,Nat.mul_add]
  have:=vk fun y hy=>h y (List.mem_cons_of_mem _ hy)
  have:=h x List.mem_cons_self
  omega
theorem Yq {c:Ct}(h:GoodC c):(evC c).length<=505:=by
 cases c with
 | bare t=>have:=h.2;show(evS t).length<=_;rw [qP];omega
 | quoted t=>have:=h.2;show(evS t).length<=_;rw [qP];omega
 | row ts=>
  obtain⟨h1,h2,h3⟩:=h
  show(evRw ts).length<=_
  cases ts with
  | nil=>exact Nat.zero_le _
  | cons u us=>
   unfold evRw
   rw [List.length_append,qP]
   have a:=(h3 u List.mem_cons_self).2
   have b:=vk (f:=fun u=>T.tp [.str [110,101,120,116]]::evS u) (m:=101) (xs:=us) fun x hx=>by
    have:=(h3 x (List.mem_cons_of_mem _ hx)).2
    rw [List.length_cons,qP];omega
   rw [List.length_cons] at h2
   omega
 | talk ps=>
  have b:=vk (f:=evP) (m:=101) (xs:=ps) fun x hx=>by
   have:=zet (h.2 x hx)
   unfold evP
   rw [List.length_cons,qP];omega
  have:=h.1
  show(ps.flatMap evP).length<=_
  omega
theorem Yr {r:Rw}(h:GoodR r):(evR r).length<=2000:=by
 cases r with
 | text t=>have:=h.2;show(evS t).length<=_;rw [qP];omega
 | out=>decide
 | box nm as=>
  obtain⟨_,h1,h2⟩:=h
  have b:=vk (f:=evA) (m:=506) (xs:=as) fun x hx=>by
   have:=Yq (h2 x hx).2
   unfold evA
   rw [List.length_cons];omega
  unfold evR
  rw [List.length_cons,List.length_append]
  simp only [List.length_cons,List.length_nil]
  omega
theorem zhM (c:Ct):EvL (evC c):=by
 cases c with
 | bare t=>exact kP t
 | quoted t=>exact kP t
 | row ts=>exact zbQ ts
 | talk ps=>
  intro e he
  obtain⟨p,_,hp⟩:=List.mem_flatMap.mp he
  exact EvL.cons rfl (kP _) e hp
theorem Ys (a:List Nat×Ct):EvL (evA a):=EvL.cons rfl (zhM _)
theorem zga (as:List (List Nat×Ct)):EvL (as.flatMap evA):=fun e he=>by
 obtain⟨p,_,hp⟩:=List.mem_flatMap.mp he
 exact Ys p e hp
theorem zeu (r:Rw):EvL (evR r):=by
 cases r with
 | text t=>exact kP t
 | out=>exact EvL.cons rfl nofun
 | box nm as=>exact EvL.cons rfl (EvL.app (zga as) (EvL.cons rfl nofun))
end
section
variable {Q:T->List T->Prop} {X:Exn->List T->Prop}
theorem zgb {nm:List Nat}{as:List (List Nat×Ct)}(ha:as.length<=2)(hg:∀ a∈as,vj a){es:List T}{R:T}{x:Slot}{D:L4.Ends}(hs:shrs es=true)(hl:es.length<=1000000)
  (q:∀ es' y,zb es' = zb es++evR (.box nm as)->shrs es' = true->D.nx [.own R,.own (.ls es'),.own (.fz (trR (.box nm as))),y]) :
  WSs [.ex (.mu .append (.b 1) [(.tup [(.c (.str [98,111,120])),(.ix (.b 2) (.c (.int 1)))])]),
  .loop (.v 3) .seq [(.ix (.b 2) (.c (.int 2)))] [.asg (.v 1) (.bin .add (.b 1) (.call "_law_attr_events" [.fz] false zg [(.b 3)]))],
  .ex (.mu .append (.b 1) [(.tup [(.c (.str [105,110]))])])] [.own R,.own (.ls es),.own (.fz (trR (.box nm as))),x] D:=by
 have e1:ixO (.fz (trR (.box nm as))) (.int 1)=some (.str nm):=rfl
 have e2:ixO (.fz (trR (.box nm as))) (.int 2)=some (.fz (.ls (as.map trA))):=rfl
 have ei:=qw (f:=trA) (fun a=>⟨_,rfl⟩) as
 walk_at "go"
 refine jo (fun k s=>∃ es' y,s=[.own R,.own (.ls es'),.own (.fz (trR (.box nm as))),y]/\zb es' = zb es++(.tp [.str [98,111,120],.str nm]::(as.take k).flatMap evA)/\shrs es' = true/\es'.length<=1000001+506 * k) ⟨_,_,rfl,?_,?_,?_⟩ ?_ ?_
 ·rw [zI];rfl
 ·exact qm hs rfl
 ·rw [List.length_append];simp only [List.length];omega
 ·rintro k d s hd ⟨es',y,rfl,h1,h2,h3⟩
  rw [List.getElem?_map] at hd
  obtain⟨a,hc,rfl⟩:=Option.map_eq_some_iff.mp hd
  have hk:=(List.getElem?_eq_some_iff.mp hc).1
  have hga:=hg a (List.mem_of_getElem? hc)
  have hla:=Yq hga.2
  refine⟨_,rfl,fun K hK=>?_⟩
  have hla':(evA a).length<=506:=by unfold evA;rw [List.length_cons];omega
  have ec:=catG (xs:=es') (ys:=evA a) h2 (Ys a).shr (by omega)
  have fa:fzn (.fz (trA a))=.fz (trA a):=by show fzi (strip (trA a))=_;rw [xw];rfl
  walk_at "go"
  rw [fa]
  refine zdf hga ⟨nofun,?_⟩
  refine QZ ec ?_
  refine vJ ?_
  refine hK _ ⟨_,_,rfl,?_,?_,?_⟩
  ·rw [zI,h1,(Ys a).fzi,List.take_succ,hc,List.flatMap_append,List.append_assoc]
   simp
  ·exact qm h2 (Ys a).shr
  ·rw [List.length_append,List.length_map];omega
 ·rintro s ⟨es',y,rfl,h1,h2,h3⟩
  rw [List.length_map,List.take_length] at h1
  rw [List.length_map] at h3
  walk_at "go"
  refine q _ _ ?_ (qm h2 (by rfl))
  rw [zI,h1]
  unfold evR
  simp [zb,L4.strip]
theorem Km {rs:List Rw}(hg:∀ r∈rs,GoodR r)(hl:rs.length<=500)(q:∀ es,zb es=rs.flatMap evR->shrs es=true->Q (.ls es) [.non]):z7 [.fz (.ls (rs.map trR))] Q X:=by
 unfold z7 wA fnD
 refine⟨rfl,?_⟩
 have ei:=qw (f:=trR) (fun a=>by cases a<;>exact⟨_,rfl⟩) rs
 walk_at "go"
 refine jo (fun k s=>∃ es x y,s=[.own (.fz (.ls (rs.map trR))),.own (.ls es),x,y]/\zb es=(rs.take k).flatMap evR/\shrs es=true/\es.length<=2000 * k) ⟨_,_,_,rfl,rfl,rfl,Nat.le_refl _⟩ ?_ ?_
 ·rintro k d s hd ⟨es,x,y,rfl,h1,h2,h3⟩
  rw [List.getElem?_map] at hd
  obtain⟨r,hc,rfl⟩:=Option.map_eq_some_iff.mp hd
  have hk:=(List.getElem?_eq_some_iff.mp hc).1
  have hr:=hg r (List.mem_of_getElem? hc)
  have hrl:=Yr hr
  refine⟨_,rfl,fun K hK=>?_⟩
  have hK':∀ es' x y,zb es' = zb es++evR r->shrs es' = true->K [.own (.fz (.ls (rs.map trR))),.own (.ls es'),x,y]:=fun es' x y a b=>by
   refine hK _ ⟨es',x,y,rfl,?_,b,?_⟩
   ·rw [a,h1,List.take_succ,hc,List.flatMap_append];simp
   ·have:(zb es').length=(zb es++evR r).length:=by rw [a]
    rw [List.length_append,j4,j4] at this
    omega
  clear hK
  cases r with
  | text t=>
   have ht:t.length<=100:=hr.2
   show WSs _ [.own (.fz (.ls (rs.map trR))),.own (.ls es),.own (.fz (trR (.text t))),y.killR 2] _
   have e0:ixO (.fz (trR (.text t))) (.int 0)=some (.str [116,101,120,116]):=rfl
   have e1:ixO (.fz (trR (.text t))) (.int 1)=some (.str t):=rfl
   have ei:itT .seq [.str t]=some (L4.signs t):=rfl
   have ec:=ZU (xs:=es) (ys:=evS t) h2 (yL t) (by rw [qP];omega)
   walk_at "go"
   refine Zc (by omega) (zhC _) ?_
   refine QZ ec ?_
   walk_at "go"
   refine hK' _ _ _ ?_ (qm h2 (yL t))
   rw [zI,kq];rfl
  | out=>
   show WSs _ [.own (.fz (.ls (rs.map trR))),.own (.ls es),.own (.fz (trR .out)),y.killR 2] _
   have e0:ixO (.fz (trR .out)) (.int 0)=some (.str [111,117,116]):=rfl
   walk_at "go"
   refine hK' _ _ _ ?_ (qm h2 (by rfl))
   rw [zI];rfl
  | box nm as=>
   show WSs _ [.own (.fz (.ls (rs.map trR))),.own (.ls es),.own (.fz (trR (.box nm as))),y.killR 2] _
   have e0:ixO (.fz (trR (.box nm as))) (.int 0)=some (.str [98,111,120]):=rfl
   iterate 12 walk_at "w1"
   refine zgb hr.2.1 hr.2.2 h2 (by omega) fun es' y a b=>?_
   walk_at "go"
   exact hK' _ _ _ a b
 ·rintro s ⟨es,x,y,rfl,h1,h2,h3⟩
  rw [List.length_map,List.take_length] at h1
  walk_at "go"
  exact q es h1 h2
end
section
variable {Q:T->List T->Prop} {X:Exn->List T->Prop}
noncomputable abbrev Pt:=T×List Nat
noncomputable def qb (ps:List Pt):List T:=ps.flatMap fun p=>p.1::evS p.2
noncomputable def W0 (ps:List Pt):List T:=ps.flatMap fun p=>strip p.1::evS p.2
def noS (e:T):Prop:=∃ w xs,e=.tp (.str w::xs)/\w≠[115,105,103,110]/\zb xs=xs
def noS' (l:List T):Prop:=∀ e r,l=e::r->noS e
theorem zbR {c:Nat}:¬ noS (.tp [.str [115,105,103,110],.str [c]]):=by
 rintro⟨w,xs,e,h,_⟩
 simp only [T.tp.injEq,List.cons.injEq,T.str.injEq] at e
 exact h e.1.symm
theorem Yt:∀ {a b:List Nat} {r r':List T},noS' r->noS' r'->evS a++r=evS b++r'->a=b/\r=r'
 | [],[],_,_,_,_,e=>⟨rfl,e⟩
 | [],c::b,r,r',h,_,e=>absurd (h _ _ e) zbR
 | c::a,[],r,r',_,h,e=>absurd (h _ _ e.symm) zbR
 | c::a,d::b,r,r',h,h',e=>by
  simp only [evS,List.map_cons,List.cons_append,List.cons.injEq,T.tp.injEq,T.str.injEq,and_true,true_and] at e
  obtain⟨rfl,e⟩:=e
  obtain⟨rfl,rfl⟩:=Yt h h' e
  exact⟨rfl,rfl⟩
theorem W2 {ps:List Pt}(h:∀ p∈ps,noS p.1):noS' (qb ps):=by
 cases ps with
 | nil=>exact nofun
 | cons p ps=>
  intro e r he
  unfold qb at he
  rw [List.flatMap_cons,List.cons_append] at he
  rw [← (List.cons.inj he).1]
  exact h p List.mem_cons_self
theorem W3:∀ {ps qs:List Pt},(∀ p∈ps,noS p.1)->(∀ p∈qs,noS p.1)->qb ps=qb qs->ps=qs
 | [],[],_,_,_=>rfl
 | [],q::qs,_,_,e=>by unfold qb at e;rw [List.flatMap_cons] at e;exact nomatch e
 | p::ps,[],_,_,e=>by unfold qb at e;rw [List.flatMap_cons] at e;exact nomatch e
 | (e1,t1)::ps,(e2,t2)::qs,h,h',e=>by
  have e':e1::(evS t1++qb ps)=e2::(evS t2++qb qs):=e
  obtain⟨rfl,e''⟩:=List.cons.inj e'
  have hp:=fun p hp=>h p (List.mem_cons_of_mem _ hp)
  have hq:=fun p hp=>h' p (List.mem_cons_of_mem _ hp)
  obtain⟨rfl,e3⟩:=Yt (W2 hp) (W2 hq) e''
  rw [W3 hp hq e3]
noncomputable def trW (p:Pt):T:=.tp [p.1,.ls (L4.signs p.2)]
theorem zdg {t:List Nat}(h:t.length<=1000000):meO .join (.str []) [.fz (.ls (L4.signs t))]=some (.str t):=by
 show two (some []) (txts ((L4.signs t).map fzi)) _=_
 have e:(L4.signs t).map fzi=(t.map fun c=>[c]).map T.str:=by unfold L4.signs;rw [List.map_map,List.map_map];rfl
 have e2:(t.map fun c=>[c]).flatten=t:=by
  clear h e
  induction t with
  | nil=>rfl
  | cons c t ih=>rw [List.map_cons,List.flatten_cons,ih];rfl
 rw [e,ZS]
 show(if _ then _ else _)=_
 rw [if_pos ⟨rfl,by rw [e2];omega⟩,e2]
theorem zdh {E:List T}{ps:List Pt}(hp:∀ p∈ps,noS p.1)(hE:.tp [.str [105,110]]::E=qb ps)(hl:E.length<=1000000)(q:Q (.ls (ps.map fun p=>.tp [.fz p.1,.str p.2])) [.non]):qf [.fz (.ls E)] Q X:=by
 have hit:∀ e∈E,∃ xs,e=.tp xs:=by
  intro e he
  have:e∈qb ps:=by rw [← hE];exact List.mem_cons_of_mem _ he
  obtain⟨p,h1,h2⟩:=List.mem_flatMap.mp this
  rcases List.mem_cons.mp h2 with z | z
  ·obtain⟨w,xs,e',_,_⟩:=hp p h1
   exact⟨_,z.trans e'⟩
  ·obtain⟨xs,e',_⟩:=kP _ e z
   exact⟨_,e'⟩
 have hev:∀ e∈E,noS e\/∃ c,e=.tp [.str [115,105,103,110],.str [c]]:=by
  intro e he
  have:e∈qb ps:=by rw [← hE];exact List.mem_cons_of_mem _ he
  obtain⟨p,h1,h2⟩:=List.mem_flatMap.mp this
  rcases List.mem_cons.mp h2 with z | z
  ·rw [z];exact .inl (hp p h1)
  ·obtain⟨c,_,rfl⟩:=List.mem_map.mp z
   exact .inr ⟨c,rfl⟩
 unfold qf xn fnD
 refine⟨rfl,?_⟩
 have ei:itT .seq [.fz (.ls E)]=some (E.map T.fz):=by
  show orE (shO (some (E.map fzi))) _=_
  have:E.map fzi=E.map T.fz:=List.map_congr_left fun a ha=>by
   obtain⟨xs,rfl⟩:=hit a ha
   rfl
  rw [this,jq fun t ht=>by obtain⟨a,_,rfl⟩:=List.mem_map.mp ht;rfl]
  rfl
 walk_at "go"
 refine jo (fun k s=>∃ qs p x,s=[.own (.fz (.ls E)),.own (.ls (qs.map trW++[trW p])),x]/\.tp [.str [105,110]]::E.take k=W0 (qs++[p])/\(∀ p'∈qs++[p],noS (L4.strip p'.1))/\p.2.length<=k/\qs.length<=k) ⟨[],(.tp [.str [105,110]],[]),_,rfl,rfl,?_,Nat.le_refl _,Nat.le_refl _⟩ ?_ ?_
 ·intro p' h
  rw [List.mem_singleton.mp h]
  exact⟨_,_,rfl,by decide,rfl⟩
 ·rintro k d s hd ⟨qs,p,x,rfl,h1,h2,h3,h4⟩
  rw [List.getElem?_map] at hd
  obtain⟨e,hc,rfl⟩:=Option.map_eq_some_iff.mp hd
  have hk:=(List.getElem?_eq_some_iff.mp hc).1
  refine⟨_,rfl,fun K hK=>?_⟩
  have ht:.tp [.str [105,110]]::E.take (k+1)=W0 (qs++[p])++[e]:=by rw [List.take_succ,hc,← h1];rfl
  rcases hev e (List.mem_of_getElem? hc) with hn | ⟨c,rfl⟩
  ·obtain⟨w,xs,rfl,hw,hx⟩:=hn
   have e0:ixO (.fz (.tp (.str w::xs))) (.int 0)=some (.str w):=zbG
   walk_at "go"
   refine hK _ ⟨qs++[p],(.fz (.tp (.str w::xs)),[]),.own (.fz (.tp (.str w::xs))),?_,?_,?_,?_,?_⟩
   ·rw [List.map_append];rfl
   ·rw [ht];unfold W0;rw [List.flatMap_append (xs:=qs++[p])];simp [L4.strip,zb,hx,evS]
   ·refine vK h2 ⟨w,zb xs,rfl,hw,by rw [hx,hx]⟩
   ·exact Nat.zero_le _
   ·rw [List.length_append];simp only [List.length];omega
  ·have e0:ixO (.fz (.tp [.str [115,105,103,110],.str [c]])) (.int 0)=some (.str [115,105,103,110]):=rfl
   have e1:ixO (.fz (.tp [.str [115,105,103,110],.str [c]])) (.int 1)=some (.str [c]):=rfl
   have es:=wM (xs:=qs.map trW) (y:=trW p)
   have g1:∀ x y:Slot,getP [x,.own (.ls (qs.map trW++[trW p])),y] 1 [(qs.map trW).length]=some (trW p):=fun x y=>qu
   have g2:∀ x y:Slot,getP [x,.own (.ls (qs.map trW++[trW p])),y] 1 [(qs.map trW).length,1]=some (.ls (L4.signs p.2)):=fun x y=>qu
   have g1:=g1 (.own (.fz (.ls E))) (.own (.fz (.tp [.str [115,105,103,110],.str [c]])))
   have g2:=g2 (.own (.fz (.ls E))) (.own (.fz (.tp [.str [115,105,103,110],.str [c]])))
   have ml:(L4.signs p.2).length<16777216:=by unfold L4.signs;rw [List.length_map];omega
   have em:=zbC (y:=.str [c]) ml
   have es2:stepI (trW p) (.int 1)=some 1:=rfl
   have ep:putS [.own (.fz (.ls E)),.own (.ls (qs.map trW++[trW p])),.own (.fz (.tp [.str [115,105,103,110],.str [c]]))] 1 [(qs.map trW).length,1] (.ls (L4.signs p.2++[.str [c]]))=[.own (.fz (.ls E)),.own (.ls (qs.map trW++[trW (p.1,p.2++[c])])),.own (.fz (.tp [.str [115,105,103,110],.str [c]]))]:=by
    show [Slot.own (.fz (.ls E)),Slot.own (setT (.ls (qs.map trW++[trW p])) [(qs.map trW).length,1] _),Slot.own (.fz (.tp [.str [115,105,103,110],.str [c]]))]=_
    rw [yI]
    unfold trW
    simp [setT,kids,kJ,L4.signs]
   show WSs _ [.own (.fz (.ls E)),.own (.ls (qs.map trW++[trW p])),.own (.fz (.tp [.str [115,105,103,110],.str [c]]))] _
   walk_at "go"
   refine hK _ ⟨qs,(p.1,p.2++[c]),.own (.fz (.tp [.str [115,105,103,110],.str [c]])),ep,?_,?_,?_,?_⟩
   ·rw [ht];unfold W0;rw [List.flatMap_append,List.flatMap_append];simp [evS]
   ·intro p' h
    rcases List.mem_append.mp h with z | z
    ·exact h2 p' (List.mem_append_left _ z)
    ·rw [List.mem_singleton.mp z]
     exact h2 p (List.mem_append_right _ List.mem_cons_self)
   ·rw [List.length_append];simp only [List.length];omega
   ·omega
 ·rintro s ⟨qs,p,x,rfl,h1,h2,h3,h4⟩
  rw [List.length_map,List.take_length] at h1
  have hps:ps=(qs++[p]).map fun p=>(L4.strip p.1,p.2):=by
   refine W3 hp ?_ ?_
   ·intro p' h
    obtain⟨a,ha,rfl⟩:=List.mem_map.mp h
    exact h2 a ha
   ·rw [← hE,h1]
    unfold W0 qb
    rw [List.flatMap_map]
  have em:T.ls (qs.map trW++[trW p])=.ls ((qs++[p]).map trW):=by rw [List.map_append];rfl
  rw [em]
  generalize qs++[p]=rs at *
  have ef:fzn (.ls (rs.map trW))=.fz (.ls (ps.map trW)):=by
   show T.fz (.ls (zb _))=_
   rw [hps,qd,List.map_map,List.map_map]
   congr 2
   refine List.map_congr_left fun a _=>?_
   show T.tp [L4.strip a.1,.ls (zb (L4.signs a.2))]=T.tp [L4.strip a.1,.ls (L4.signs a.2)]
   rw [show zb (L4.signs a.2)=L4.signs a.2 from zr (fun _=>rfl) _]
  have ei:=qw (f:=trW) (fun a=>⟨_,rfl⟩) ps
  have hpl:∀ p∈ps,p.2.length<=1000000:=by
   intro p' h
   have a:(p'.1::evS p'.2).length<=(qb ps).length:=by
    obtain⟨s,t,rfl⟩:=List.append_of_mem h
    unfold qb
    rw [List.flatMap_append,List.flatMap_cons,List.length_append,List.length_append]
    omega
   rw [← hE,List.length_cons,List.length_cons,qP] at a
   omega
  refine z9 ?_
  dsimp only [WS,WE,WEs,WT,WA,WP,WO,WB,WTb,ckT]
  refine w_lk rfl ?_
  rw [ef]
  refine w_it ei ?_
  have hpsl:ps.length<=1000001:=by
   have:ps.length<=(qb ps).length:=by
    clear hpl ei ef hps hp q hE hit hev
    induction ps with
    | nil=>exact Nat.le_refl _
    | cons p ps ih=>unfold qb at *;rw [List.flatMap_cons,List.length_append];simp only [List.length_cons];omega
   rw [← hE,List.length_cons] at this
   omega
  refine j0 (fun k acc s=>acc=(ps.take k).map (fun p=>.tp [.fz p.1,.str p.2])/\∃ x y z,s=[.own x,y,z]) ⟨rfl,_,_,_,rfl⟩ ?_ ?_
  ·rintro k d acc s hd ⟨rfl,x,y,z,rfl⟩ K hK
   rw [List.getElem?_map] at hd
   obtain⟨p,hc,rfl⟩:=Option.map_eq_some_iff.mp hd
   have hk:=(List.getElem?_eq_some_iff.mp hc).1
   have hpm:=List.mem_of_getElem? hc
   have ej:=zdg (hpl _ hpm)
   obtain⟨w,xs,e',_,_⟩:=hp p hpm
   refine⟨[.own (.fz p.1),.own (.fz (.ls (L4.signs p.2)))],?_,?_⟩
   ·obtain⟨e1,t1⟩:=p
    dsimp only at e'
    subst e'
    rfl
   ·walk_at "go"
    refine⟨by rw [List.length_map,List.length_take];omega,hK _ _ ⟨?_,_,_,_,rfl⟩⟩
    rw [List.take_succ,hc,List.map_append];rfl
  ·rintro acc s ⟨rfl,x,y,z,rfl⟩
   rw [List.length_map,List.take_length]
   walk_at "go"
   exact q
end
section
variable {Q:T->List T->Prop} {X:Exn->List T->Prop}
noncomputable def Z3:List Cm:=match qq with
 | [_,.loop _ _ _ b,_]=>b
 | _=>[]
def FR (D:L4.Ends)(R:T)(rest:List T)(rows:List T):Prop:=∀ x y z,wk (ZC (.tup [2,3])) (fun s D=>WSs Z3 s D) D rest [.own R,.own (.ls rows),x,y,z]
theorem zbS {k t:List Nat}(q:Q (if k=[114,111,119] then .ls [.str t] else if k=[116,97,108,107] then .ls [] else .str t) [.non,.non]):zK [.str k,.str t] Q X:=by
 unfold zK jH fnD
 refine⟨rfl,?_⟩
 by_cases h:k=[114,111,119]
 ·rw [if_pos h] at q
  walk_at "go"
  exact q
 ·rw [if_neg h] at q
  by_cases h':k=[116,97,108,107]
  ·rw [if_pos h'] at q
   walk_at "go"
   exact q
  ·rw [if_neg h'] at q
   walk_at "go"
   exact q
variable {D:L4.Ends} {R:T} {rest rows:List T} {t:List Nat}
noncomputable def pT (e:List T)(t:List Nat):T:=.tp [.fz (.tp e),.str t]
theorem zgc {nm:List Nat}(h:FR D R rest (rows++[.tp [.str [98,111,120],.str nm,.ls []]]))(hl:rows.length<=1000000):FR D R (pT [.str [98,111,120],.str nm] t::rest) rows:=by
 intro x y z
 refine⟨_,rfl,?_⟩
 have e0:ixO (.fz (.tp [.str [98,111,120],.str nm])) (.int 0)=some (.str [98,111,120]):=rfl
 have e1:ixO (.fz (.tp [.str [98,111,120],.str nm])) (.int 1)=some (.str nm):=rfl
 unfold Z3 qq
 walk_at "go"
 exact h _ _ _
theorem zew (h:FR D R rest (rows++[.tp [.str [116,101,120,116],.str t]]))(hl:rows.length<=1000000):FR D R (pT [.str [105,110]] t::rest) rows:=by
 intro x y z
 refine⟨_,rfl,?_⟩
 have e0:ixO (.fz (.tp [.str [105,110]])) (.int 0)=some (.str [105,110]):=rfl
 unfold Z3 qq
 walk_at "go"
 exact h _ _ _
theorem zgd (h:FR D R rest (rows++[.fz (.tp [.str [111,117,116]])]++[.tp [.str [116,101,120,116],.str t]]))(hl:rows.length<=1000000):FR D R (pT [.str [111,117,116]] t::rest) rows:=by
 intro x y z
 refine⟨_,rfl,?_⟩
 have e0:ixO (.fz (.tp [.str [111,117,116]])) (.int 0)=some (.str [111,117,116]):=rfl
 unfold Z3 qq
 walk_at "go"
 exact h _ _ _
end
section
variable {Q:T->List T->Prop} {X:Exn->List T->Prop} {D:L4.Ends} {R:T} {rest rows as cs:List T} {t:List Nat}
noncomputable abbrev bxT (nm:List Nat)(as:List T):T:=.tp [.str [98,111,120],.str nm,.ls as]
noncomputable abbrev bgn (k t:List Nat):T:=if k=[114,111,119] then .ls [.str t] else if k=[116,97,108,107] then .ls [] else .str t
theorem Zd {nm an k:List Nat}(h:FR D R rest (rows++[bxT nm (as++[.tp [.str an,.str k,bgn k t]])]))(hl:as.length<=1000):FR D R (pT [.str [97,116,116,114],.str an,.str k] t::rest) (rows++[bxT nm as]):=by
 intro x y z
 refine⟨_,rfl,?_⟩
 have e0:ixO (.fz (.tp [.str [97,116,116,114],.str an,.str k])) (.int 0)=some (.str [97,116,116,114]):=rfl
 have e1:ixO (.fz (.tp [.str [97,116,116,114],.str an,.str k])) (.int 1)=some (.str an):=rfl
 have e2:ixO (.fz (.tp [.str [97,116,116,114],.str an,.str k])) (.int 2)=some (.str k):=rfl
 unfold Z3 qq
 dsimp only
 iterate 3 walk_at "w1"
 show WSs _ [.own R,.own (.ls (rows++[bxT nm as])),.own (.fz (.tp [.str [97,116,116,114],.str an,.str k])),.own (.str t),.own (.str [97,116,116,114])] _
 have es:=wM (xs:=rows) (y:=bxT nm as)
 have g1:getP [.own R,.own (.ls (rows++[bxT nm as])),.own (.fz (.tp [.str [97,116,116,114],.str an,.str k])),.own (.str t),.own (.str [97,116,116,114])] 1 [rows.length]=some (bxT nm as):=qu
 have g2:getP [.own R,.own (.ls (rows++[bxT nm as])),.own (.fz (.tp [.str [97,116,116,114],.str an,.str k])),.own (.str t),.own (.str [97,116,116,114])] 1 [rows.length,2]=some (.ls as):=qu
 have es2:stepI (bxT nm as) (.int 2)=some 2:=rfl
 walk_at "go"
 refine zbS ⟨nofun,?_⟩
 walk_at "go"
 have ep:putS [.own R,.own (.ls (rows++[bxT nm as])),.own (.fz (.tp [.str [97,116,116,114],.str an,.str k])),.own (.str t),.own (.str [97,116,116,114])] 1 [rows.length,2] (.ls (as++[.tp [.str an,.str k,bgn k t]]))=[.own R,.own (.ls (rows++[bxT nm (as++[.tp [.str an,.str k,bgn k t]])])),.own (.fz (.tp [.str [97,116,116,114],.str an,.str k])),.own (.str t),.own (.str [97,116,116,114])]:=by
  show [.own R,Slot.own (setT (.ls (rows++[bxT nm as])) [rows.length,2] _),.own (.fz (.tp [.str [97,116,116,114],.str an,.str k])),.own (.str t),.own (.str [97,116,116,114])]=_
  rw [yI]
  rfl
 have:=h (.own (.fz (.tp [.str [97,116,116,114],.str an,.str k]))) (.own (.str t)) (.own (.str [97,116,116,114]))
 rw [← ep] at this
 exact this
theorem dp1 {nm an k:List Nat}{s2 s3 s4:Slot}:getP [.own R,.own (.ls (rows++[bxT nm (as++[.tp [.str an,.str k,.ls cs]])])),s2,s3,s4] 1 [rows.length,2]=some (.ls (as++[.tp [.str an,.str k,.ls cs]])):=qu
theorem dp2 {nm an k:List Nat}{s2 s3 s4:Slot}:getP [.own R,.own (.ls (rows++[bxT nm (as++[.tp [.str an,.str k,.ls cs]])])),s2,s3,s4] 1 [rows.length,2,as.length]=some (.tp [.str an,.str k,.ls cs]):=by
 show getT (.ls (rows++[_])) [rows.length,2,as.length]=_
 rw [qu]
 show getT (.ls (as++[_])) [as.length]=_
 rw [qu]
 rfl
theorem dp3 {nm an k:List Nat}{s2 s3 s4:Slot}:getP [.own R,.own (.ls (rows++[bxT nm (as++[.tp [.str an,.str k,.ls cs]])])),s2,s3,s4] 1 [rows.length,2,as.length,2]=some (.ls cs):=by
 show getT (.ls (rows++[_])) [rows.length,2,as.length,2]=_
 rw [qu]
 show getT (.ls (as++[_])) [as.length,2]=_
 rw [qu]
 rfl
theorem dp4 {nm an k:List Nat}{a b c w:T}:putS [.own R,.own (.ls (rows++[bxT nm (as++[.tp [.str an,.str k,.ls cs]])])),.own a,.own b,.own c] 1 [rows.length,2,as.length,2] w=[.own R,.own (.ls (rows++[bxT nm (as++[.tp [.str an,.str k,w]])])),.own a,.own b,.own c]:=by
 show [.own R,Slot.own (setT (.ls (rows++[_])) [rows.length,2,as.length,2] _),.own a,.own b,.own c]=_
 rw [yI]
 show [.own R,Slot.own (.ls (rows++[.tp [.str [98,111,120],.str nm,setT (.ls (as++[_])) [as.length,2] _]])),.own a,.own b,.own c]=_
 rw [yI]
 rfl
theorem zdi {nm an k:List Nat}(h:FR D R rest (rows++[bxT nm (as++[.tp [.str an,.str k,.ls (cs++[.str t])]])]))(hl:cs.length<=1000):FR D R (pT [.str [110,101,120,116]] t::rest) (rows++[bxT nm (as++[.tp [.str an,.str k,.ls cs]])]):=by
 intro x y z
 refine⟨_,rfl,?_⟩
 have e0:ixO (.fz (.tp [.str [110,101,120,116]])) (.int 0)=some (.str [110,101,120,116]):=rfl
 unfold Z3 qq
 dsimp only
 iterate 3 walk_at "w1"
 show WSs _ [.own R,.own (.ls (rows++[bxT nm (as++[.tp [.str an,.str k,.ls cs]])])),.own (.fz (.tp [.str [110,101,120,116]])),.own (.str t),.own (.str [110,101,120,116])] _
 have es:=wM (xs:=rows) (y:=bxT nm (as++[.tp [.str an,.str k,.ls cs]]))
 have es':=wM (xs:=as) (y:=.tp [.str an,.str k,.ls cs])
 have g0:getP [.own R,.own (.ls (rows++[bxT nm (as++[.tp [.str an,.str k,.ls cs]])])),.own (.fz (.tp [.str [110,101,120,116]])),.own (.str t),.own (.str [110,101,120,116])] 1 [rows.length]=some (bxT nm (as++[.tp [.str an,.str k,.ls cs]])):=qu
 have es2:stepI (bxT nm (as++[.tp [.str an,.str k,.ls cs]])) (.int 2)=some 2:=rfl
 have es3:stepI (.tp [.str an,.str k,.ls cs]) (.int 2)=some 2:=rfl
 have g1:=dp1 (R:=R) (rows:=rows) (as:=as) (cs:=cs) (nm:=nm) (an:=an) (k:=k) (s2:=.own (.fz (.tp [.str [110,101,120,116]]))) (s3:=.own (.str t)) (s4:=.own (.str [110,101,120,116]))
 have g2:=dp2 (R:=R) (rows:=rows) (as:=as) (cs:=cs) (nm:=nm) (an:=an) (k:=k) (s2:=.own (.fz (.tp [.str [110,101,120,116]]))) (s3:=.own (.str t)) (s4:=.own (.str [110,101,120,116]))
 have g3:=dp3 (R:=R) (rows:=rows) (as:=as) (cs:=cs) (nm:=nm) (an:=an) (k:=k) (s2:=.own (.fz (.tp [.str [110,101,120,116]]))) (s3:=.own (.str t)) (s4:=.own (.str [110,101,120,116]))
 walk_at "go"
 have:=h (.own (.fz (.tp [.str [110,101,120,116]]))) (.own (.str t)) (.own (.str [110,101,120,116]))
 rw [← dp4 (cs:=cs)] at this
 exact this
theorem zdj {nm an k wd:List Nat}(hw:wd=[119,111,114,100]\/wd=[115,97,105,100])(h:FR D R rest (rows++[bxT nm (as++[.tp [.str an,.str k,.ls (cs++[.tp [.str wd,.str t]])]])]))(hl:cs.length<=1000):FR D R (pT [.str wd] t::rest) (rows++[bxT nm (as++[.tp [.str an,.str k,.ls cs]])]):=by
 intro x y z
 refine⟨_,rfl,?_⟩
 have e0:ixO (.fz (.tp [.str wd])) (.int 0)=some (.str wd):=rfl
 have n1:wd≠[98,111,120]:=by rcases hw with rfl | rfl<;>decide
 have n2:wd≠[97,116,116,114]:=by rcases hw with rfl | rfl<;>decide
 have n3:wd≠[110,101,120,116]:=by rcases hw with rfl | rfl<;>decide
 have n4:cmpO .isin (.str wd) (.tp [.str [119,111,114,100],.str [115,97,105,100]])=some true:=by rcases hw with rfl | rfl<;>decide
 unfold Z3 qq
 dsimp only
 iterate 3 walk_at "w1"
 show WSs _ [.own R,.own (.ls (rows++[bxT nm (as++[.tp [.str an,.str k,.ls cs]])])),.own (.fz (.tp [.str wd])),.own (.str t),.own (.str wd)] _
 have es:=wM (xs:=rows) (y:=bxT nm (as++[.tp [.str an,.str k,.ls cs]]))
 have es':=wM (xs:=as) (y:=.tp [.str an,.str k,.ls cs])
 have g0:getP [.own R,.own (.ls (rows++[bxT nm (as++[.tp [.str an,.str k,.ls cs]])])),.own (.fz (.tp [.str wd])),.own (.str t),.own (.str wd)] 1 [rows.length]=some (bxT nm (as++[.tp [.str an,.str k,.ls cs]])):=qu
 have es2:stepI (bxT nm (as++[.tp [.str an,.str k,.ls cs]])) (.int 2)=some 2:=rfl
 have es3:stepI (.tp [.str an,.str k,.ls cs]) (.int 2)=some 2:=rfl
 have g1:=dp1 (R:=R) (rows:=rows) (as:=as) (cs:=cs) (nm:=nm) (an:=an) (k:=k) (s2:=.own (.fz (.tp [.str wd]))) (s3:=.own (.str t)) (s4:=.own (.str wd))
 have g2:=dp2 (R:=R) (rows:=rows) (as:=as) (cs:=cs) (nm:=nm) (an:=an) (k:=k) (s2:=.own (.fz (.tp [.str wd]))) (s3:=.own (.str t)) (s4:=.own (.str wd))
 have g3:=dp3 (R:=R) (rows:=rows) (as:=as) (cs:=cs) (nm:=nm) (an:=an) (k:=k) (s2:=.own (.fz (.tp [.str wd]))) (s3:=.own (.str t)) (s4:=.own (.str wd))
 walk_at "go"
 have:=h (.own (.fz (.tp [.str wd]))) (.own (.str t)) (.own (.str wd))
 rw [← dp4 (cs:=cs)] at this
 exact this
end
section
variable {Q:T->List T->Prop} {X:Exn->List T->Prop} {D:L4.Ends} {R:T} {rest rows as cs:List T} {t:List Nat}
noncomputable def pW (p:Pt):T:=.tp [.fz p.1,.str p.2]
noncomputable def attE (a:List Nat×Ct):T:=.tp [.str [97,116,116,114],.str a.1,.str (kd a.2)]
noncomputable def wdP (p:Bool×List Nat):Pt:=(.tp [.str (if p.1=true then [119,111,114,100] else [115,97,105,100])],p.2)
noncomputable def nxP (u:List Nat):Pt:=(.tp [.str [110,101,120,116]],u)
noncomputable def vn (a:List Nat×Ct):List Pt:=match a.2 with
 | .bare t=>[(attE a,t)]
 | .quoted t=>[(attE a,t)]
 | .row []=>[(attE a,[])]
 | .row (t::ts)=>(attE a,t)::ts.map nxP
 | .talk ps=>(attE a,[])::ps.map wdP
noncomputable def jJ:Stp->List Pt
 | .bx nm as t=>(.tp [.str [98,111,120],.str nm],[])::(as.flatMap vn++[(.tp [.str [105,110]],t)])
 | .ot t=>[(.tp [.str [111,117,116]],t)]
theorem ku {xs ys:List Pt}:qb (xs++ys)=qb xs++qb ys:=List.flatMap_append
theorem zdk (a:List Nat×Ct):qb (vn a)=evA a:=by
 obtain⟨an,c⟩:=a
 cases c with
 | bare t=>show _::(evS t++[])=_;rw [List.append_nil];rfl
 | quoted t=>show _::(evS t++[])=_;rw [List.append_nil];rfl
 | row ts=>
  cases ts with
  | nil=>rfl
  | cons t ts=>
   show _::(evS t++(ts.map nxP).flatMap _)=_::(evS t++ts.flatMap _)
   rw [List.flatMap_map]
   rfl
 | talk ps=>
  show _::((ps.map wdP).flatMap _)=_::(ps.flatMap _)
  rw [List.flatMap_map]
  rfl
theorem W4:∀ as:List (List Nat×Ct),qb (as.flatMap vn)=as.flatMap evA
 | []=>rfl
 | a::as=>by rw [List.flatMap_cons,ku,zdk,W4 as];rfl
theorem zdl (s:Stp):qb (jJ s)=(jK s).flatMap evR:=by
 cases s with
 | bx nm as t=>
  show _::(evS []++qb (as.flatMap vn++[_]))=evR (.box nm as)++(evS t++[])
  rw [ku,W4]
  unfold evR
  simp [qb,evS]
 | ot t=>rfl
theorem W5:∀ ss:List Stp,qb (ss.flatMap jJ)=(ss.flatMap jK).flatMap evR
 | []=>rfl
 | s::ss=>by rw [List.flatMap_cons,ku,zdl,W5 ss,List.flatMap_cons,List.flatMap_append]
theorem zhN {a:List Nat×Ct}:∀ p∈vn a,noS p.1:=by
 have h0:noS (attE a):=⟨_,_,rfl,by decide,rfl⟩
 obtain⟨an,c⟩:=a
 cases c with
 | bare t=>intro p hp;rw [List.mem_singleton.mp hp];exact h0
 | quoted t=>intro p hp;rw [List.mem_singleton.mp hp];exact h0
 | row ts=>
  cases ts with
  | nil=>intro p hp;rw [List.mem_singleton.mp hp];exact h0
  | cons t ts=>
   intro p hp
   rcases List.mem_cons.mp hp with rfl | z
   ·exact h0
   ·obtain⟨u,_,rfl⟩:=List.mem_map.mp z
    exact⟨_,_,rfl,by decide,rfl⟩
 | talk ps=>
  intro p hp
  rcases List.mem_cons.mp hp with rfl | z
  ·exact h0
  ·obtain⟨⟨w,u⟩,_,rfl⟩:=List.mem_map.mp z
   refine⟨_,_,rfl,?_,rfl⟩
   cases w<;>simp
theorem zhO {s:Stp}:∀ p∈jJ s,noS p.1:=by
 cases s with
 | bx nm as t=>
  intro p hp
  rcases List.mem_cons.mp hp with rfl | z
  ·exact⟨_,_,rfl,by decide,rfl⟩
  ·rcases List.mem_append.mp z with z | z
   ·obtain⟨a,_,h⟩:=List.mem_flatMap.mp z
    exact zhN p h
   ·rw [List.mem_singleton.mp z];exact⟨_,_,rfl,by decide,rfl⟩
 | ot t=>intro p hp;rw [List.mem_singleton.mp hp];exact⟨_,_,rfl,by decide,rfl⟩
theorem W6 {nm an k:List Nat}:∀ {ts:List (List Nat)} {cs:List T},FR D R rest (rows++[bxT nm (as++[.tp [.str an,.str k,.ls (cs++ts.map .str)]])])->cs.length+ts.length<=1000->FR D R ((ts.map nxP).map pW++rest) (rows++[bxT nm (as++[.tp [.str an,.str k,.ls cs]])])
 | [],cs,h,_=>by rw [List.map_nil,List.append_nil] at h;exact h
 | t::ts,cs,h,hl=>by
  rw [List.length_cons] at hl
  refine zdi (W6 (ts:=ts) (cs:=cs++[.str t]) ?_ ?_) (by omega)
  ·rw [List.append_assoc];exact h
  ·rw [List.length_append];simp only [List.length_cons,List.length_nil];omega
theorem W7 {nm an k:List Nat}:∀ {ps:List (Bool×List Nat)} {cs:List T},FR D R rest (rows++[bxT nm (as++[.tp [.str an,.str k,.ls (cs++ps.map trP)]])])->cs.length+ps.length<=1000->FR D R ((ps.map wdP).map pW++rest) (rows++[bxT nm (as++[.tp [.str an,.str k,.ls cs]])])
 | [],cs,h,_=>by rw [List.map_nil,List.append_nil] at h;exact h
 | (w,t)::ps,cs,h,hl=>by
  rw [List.length_cons] at hl
  refine zdj ?_ (W7 (ps:=ps) (cs:=cs++[trP (w,t)]) ?_ ?_) (by omega)
  ·cases w
   ·exact .inr rfl
   ·exact .inl rfl
  ·rw [List.append_assoc];exact h
  ·rw [List.length_append];simp only [List.length_cons,List.length_nil];omega
theorem fr_A {nm:List Nat}{a:List Nat×Ct}(hg:GoodC a.2)(hl:as.length<=1000)(h:FR D R rest (rows++[bxT nm (as++[trA a])])):FR D R ((vn a).map pW++rest) (rows++[bxT nm as]):=by
 obtain⟨an,c⟩:=a
 cases c with
 | bare t=>exact Zd h hl
 | quoted t=>exact Zd h hl
 | row ts=>
  obtain⟨h1,h2,_⟩:=hg
  cases ts with
  | nil=>exact absurd h1 (by decide)
  | cons t ts=>
   refine Zd (W6 (ts:=ts) (cs:=[.str t]) h ?_) hl
   simp only [List.length_cons,List.length_nil] at *
   omega
 | talk ps=>
  refine Zd (W7 (ps:=ps) (cs:=[]) h ?_) hl
  have:=hg.1
  simp only [List.length_nil] at *
  omega
theorem zex {nm:List Nat}:∀ {bs:List (List Nat×Ct)} {as:List T},(∀ a∈bs,vj a)->as.length+bs.length<=1000->FR D R rest (rows++[bxT nm (as++bs.map trA)])->FR D R ((bs.flatMap vn).map pW++rest) (rows++[bxT nm as])
 | [],as,_,_,h=>by rw [List.map_nil,List.append_nil] at h;exact h
 | b::bs,as,hg,hl,h=>by
  rw [List.length_cons] at hl
  rw [List.flatMap_cons,List.map_append,List.append_assoc]
  refine fr_A (hg b List.mem_cons_self).2 (by omega) (zex (as:=as++[trA b]) (fun a ha=>hg a (List.mem_cons_of_mem _ ha)) ?_ ?_)
  ·rw [List.length_append];simp only [List.length_cons,List.length_nil];omega
  ·rw [List.append_assoc];exact h
noncomputable def oR:Rw->T
 | .text t=>trR (.text t)
 | .out=>.fz (trR .out)
 | .box nm as=>trR (.box nm as)
def Yu (s:Stp):Prop:=∀ r∈jK s,GoodR r
theorem fr_S {s:Stp}(hg:Yu s)(hl:rows.length<=900000)(h:FR D R rest (rows++(jK s).map oR)):FR D R ((jJ s).map pW++rest) rows:=by
 cases s with
 | bx nm as t=>
  have hb:=hg (.box nm as) List.mem_cons_self
  refine zgc (rest:=((as.flatMap vn++[(T.tp [.str [105,110]],t)]).map pW++rest)) ?_ (by omega)
  rw [List.map_append,List.append_assoc]
  refine zex hb.2.2 (by have:=hb.2.1;simp only [List.length_nil];omega) (zew ?_ (by rw [List.length_append];simp only [List.length_cons,List.length_nil];omega))
  rw [List.append_assoc]
  exact h
 | ot t=>
  refine zgd ?_ (by omega)
  rw [List.append_assoc]
  exact h
theorem zey:∀ {ss:List Stp} {rows:List T},(∀ s∈ss,Yu s)->rows.length+2 * ss.length<=900000->FR D R rest (rows++(ss.flatMap jK).map oR)->FR D R ((ss.flatMap jJ).map pW++rest) rows
 | [],rows,_,_,h=>by rw [List.flatMap_nil,List.map_nil,List.append_nil] at h;exact h
 | s::ss,rows,hg,hl,h=>by
  rw [List.length_cons] at hl
  rw [List.flatMap_cons,List.map_append,List.append_assoc]
  refine fr_S (hg s List.mem_cons_self) (by omega) (zey (fun a ha=>hg a (List.mem_cons_of_mem _ ha)) ?_ ?_)
  ·rw [List.length_append,List.length_map]
   have:(jK s).length=2:=by cases s<;>rfl
   omega
  ·rw [List.flatMap_cons,List.map_append] at h
   rw [List.append_assoc];exact h
theorem X8 {t0:List Nat}{ss:List Stp}(hg:∀ s∈ss,Yu s)(h0:Tx t0)(hl:ss.length<=200)(q:Q (.ls ((zk t0 ss).map oR)) [.non]):qI [.fz (.ls ((zk t0 ss).flatMap evR))] Q X:=by
 unfold qI qq fnD
 refine⟨rfl,?_⟩
 have hE:T.tp [.str [105,110]]::(zk t0 ss).flatMap evR=qb ((.tp [.str [105,110]],t0)::ss.flatMap jJ):=by
  show _=_::(evS t0++qb (ss.flatMap jJ))
  rw [W5]
  rfl
 have hEl:((zk t0 ss).flatMap evR).length<=1000000:=by
  have a:=vk (f:=evR) (m:=2000) (xs:=zk t0 ss) fun r hr=>Yr (by
   rcases List.mem_cons.mp hr with rfl | z
   ·exact h0
   ·obtain⟨s,h1,h2⟩:=List.mem_flatMap.mp z
    exact hg s h1 r h2)
  have b:(zk t0 ss).length=1+2 * ss.length:=by
   unfold zk
   rw [List.length_cons]
   have:(ss.flatMap jK).length=2 * ss.length:=by
    clear hg hl q hE a
    induction ss with
    | nil=>rfl
    | cons s ss ih=>
     rw [List.flatMap_cons,List.length_append,ih,List.length_cons]
     have:(jK s).length=2:=by cases s<;>rfl
     omega
   omega
  omega
 have hfz:fzn (.fz (.ls ((zk t0 ss).flatMap evR)))=.fz (.ls ((zk t0 ss).flatMap evR)):=by
  show T.fz (.ls (zb _))=_
  rw [EvL.strip]
  intro e he
  obtain⟨r,_,h⟩:=List.mem_flatMap.mp he
  exact zeu r e h
 have hn:∀ p∈((.tp [.str [105,110]],t0)::ss.flatMap jJ:List Pt),noS p.1:=by
  intro p hp
  rcases List.mem_cons.mp hp with rfl | z
  ·exact⟨_,_,rfl,by decide,rfl⟩
  ·obtain⟨s,h1,h2⟩:=List.mem_flatMap.mp z
   exact zhO p h2
 walk_at "go"
 rw [hfz]
 refine zdh hn hE hEl ⟨nofun,?_⟩
 have ei:itT .seq [.ls (((.tp [.str [105,110]],t0)::ss.flatMap jJ:List Pt).map fun p=>.tp [.fz p.1,.str p.2])]=some (((.tp [.str [105,110]],t0)::ss.flatMap jJ:List Pt).map pW):=by
  show orE (shO (some _)) _=_
  rw [jq fun t ht=>by obtain⟨a,_,rfl⟩:=List.mem_map.mp ht;rfl]
  rfl
 refine w_it ei ?_
 have fin:FR { nx:=fun s1=>WSs [.ret (.m 1)] s1 { nx:=fun s=>∃ r,retA [.fz] s=some r/\Q .non r,rt:=fun t s=>∃ r,retA [.fz] s=some r/\Q t r,bk:=fun _=>False,ct:=fun _=>False,ex:=fun x s=>∃ r,retA [.fz] s=some r/\X x r },rt:=fun t s=>∃ r,retA [.fz] s=some r/\Q t r,bk:=fun _=>False,ct:=fun _=>False,ex:=fun x s=>∃ r,retA [.fz] s=some r/\X x r } (.fz (.ls ((zk t0 ss).flatMap evR))) (((.tp [.str [105,110]],t0)::ss.flatMap jJ:List Pt).map pW) []:=by
  refine zew (rest:=(ss.flatMap jJ).map pW) ?_ (by decide)
  have:=zey (rest:=[]) (ss:=ss) (rows:=[.tp [.str [116,101,120,116],.str t0]]) (D:={ nx:=fun s1=>WSs [.ret (.m 1)] s1 { nx:=fun s=>∃ r,retA [.fz] s=some r/\Q .non r,rt:=fun t s=>∃ r,retA [.fz] s=some r/\Q t r,bk:=fun _=>False,ct:=fun _=>False,ex:=fun x s=>∃ r,retA [.fz] s=some r/\X x r },rt:=fun t s=>∃ r,retA [.fz] s=some r/\Q t r,bk:=fun _=>False,ct:=fun _=>False,ex:=fun x s=>∃ r,retA [.fz] s=some r/\X x r }) (R:=.fz (.ls ((zk t0 ss).flatMap evR))) hg (by simp only [List.length_cons,List.length_nil];omega) ?_
  ·rw [List.append_nil] at this;exact this
  ·intro x y z
   show WSs _ _ _
   walk_at "go"
   exact q
 exact fin _ _ _
end
section
variable {Q:T->List T->Prop} {X:Exn->List T->Prop}
noncomputable def pln:Nat->T->Prop
 | 0,_=>False
 | n+1,t=>match t with
  | .str _=>True
  | .ls xs=>xs.length<=1000000/\∀ x∈xs,pln n x
  | .tp xs=>xs.length<=1000000/\∀ x∈xs,pln n x
  | _=>False
theorem kx:∀ {n:Nat} {t:T},pln n t->strip t=t
 | 0,_,h=>h.elim
 | n+1,.str _,_=>rfl
 | n+1,.ls xs,h=>by show T.ls (zb xs)=_;rw [j3 fun t ht=>kx (h.2 t ht)]
 | n+1,.tp xs,h=>by show T.tp (zb xs)=_;rw [j3 fun t ht=>kx (h.2 t ht)]
theorem zdm {n:Nat}{t:T}(h:pln n t):shr (fzi t)=true:=by
 cases n with
 | zero=>exact h.elim
 | succ n=>cases t<;>first | rfl | exact h.elim
theorem W8 {n:Nat}{xs:List T}{A:T}(ih:∀ x,pln n x->∀ Q X,Q (.bl true) [.non,.non]->zl n [fzi x,fzi x] Q X)(hA:A=.fz (.ls xs)\/A=.fz (.tp xs))(hl:xs.length<=1000000)(hx:∀ x∈xs,pln n x)(q:Q (.bl true) [.non,.non]):fnD [.fz,.fz] 2 (qB (zl n)) [A,A] Q X:=by
 have v:seqV A=some (xs.map fzi):=by rcases hA with rfl | rfl<;>rfl
 have i1:isiO A [.str]=some false:=by rcases hA with rfl | rfl<;>rfl
 obtain⟨b1,i2⟩:∃ b,isiO A [.list]=some b:=by rcases hA with rfl | rfl<;>exact⟨_,rfl⟩
 obtain⟨b2,i3⟩:∃ b,isiO A [.tuple]=some b:=by rcases hA with rfl | rfl<;>exact⟨_,rfl⟩
 have cb:∀ b,cmpO .ne (.bl b) (.bl b)=some false:=by intro b;cases b<;>rfl
 have c1:=cb b1
 have c2:=cb b2
 have sA:shr A=true:=by rcases hA with rfl | rfl<;>rfl
 have el:biO .len [A]=some (.int xs.length):=by
  rcases hA with rfl | rfl
  ·show some (T.int ((xs.map fzi).length:Nat))=_;rw [List.length_map]
  ·show some (T.int ((xs.map fzi).length:Nat))=_;rw [List.length_map]
 have er:=yG (n:=xs.length) rfl (by omega)
 unfold fnD qB
 refine⟨rfl,?_⟩
 show WSs _ [.own A,.own A] _
 walk_at "go"
 refine j0 (fun k acc s=>acc=List.replicate k (.bl true)/\s=[.own A,.own A]) ⟨rfl,rfl⟩ ?_ ?_
 ·rintro k d acc _ hd ⟨rfl,rfl⟩ K hK
  obtain⟨rfl,hj⟩:=wo hd
  have hc:=List.getElem?_eq_getElem hj
  generalize xs[k]=x at hc
  have hp:=hx x (List.mem_of_getElem? hc)
  have ei:=ix_seq (k:=k) (z:=fzi x) v (by rw [List.getElem?_map,hc];rfl)
  have sx:=zdm hp
  have fx:fzn (fzi x)=fzi x:=by show fzi (strip (fzi x))=_;rw [Q0,kx hp]
  refine⟨_,rfl,?_⟩
  refine w_tt ?_
  refine kN rfl ?_
  refine kN rfl ?_
  refine WL ei sx ?_
  refine XY ?_
  refine kN rfl ?_
  refine kN rfl ?_
  refine WL ei sx ?_
  refine XY ?_
  rw [fx]
  refine ih x hp _ _ ⟨nofun,?_⟩
  refine⟨by rw [List.length_replicate];omega,hK _ _ ⟨?_,rfl⟩⟩
  rw [List.replicate_succ']
 ·rintro acc _ ⟨rfl,rfl⟩
  rw [jb]
  refine w_bi (wV _) ?_
  walk_at "go"
  exact q
theorem Ze:∀ {n:Nat} {t:T} {Q:T->List T->Prop} {X:Exn->List T->Prop},pln n t->Q (.bl true) [.non,.non]->zl n [fzi t,fzi t] Q X
 | 0,_,_,_,h,_=>h.elim
 | n+1,.str t,Q,X,h,q=>by
  show fnD [.fz,.fz] 2 (qB (zl n)) [.str t,.str t] Q X
  unfold fnD qB
  refine⟨rfl,?_⟩
  have e:t=t:=rfl
  have i1:isiO (.str t) [.str]=some true:=rfl
  walk_at "go"
  rw [decide_eq_true e]
  exact q
 | n+1,.ls xs,Q,X,h,q=>W8 (fun x hx Q X q=>Ze hx q) (.inl rfl) h.1 h.2 q
 | n+1,.tp xs,Q,X,h,q=>W8 (fun x hx Q X q=>Ze hx q) (.inr rfl) h.1 h.2 q
end
section
variable {Q:T->List T->Prop} {X:Exn->List T->Prop}
noncomputable def spl:Nat->T->Prop
 | 0,_=>False
 | n+1,t=>match t with
  | .str _=>True
  | .ls xs=>∀ x∈xs,spl n x
  | .tp xs=>∀ x∈xs,spl n x
  | .fz (.tp xs)=>∀ x∈xs,∃ w,x=.str w/\spl n x
  | _=>False
noncomputable def W9 (F:Fn):Sl->L4.Ends->Prop:=fun s D=>WSs [.ex (.call "_law_spill" [.mu] false F [(.a 1 0)])] s D
def Kn (il:Bool)(t:T)(xs:List T):Prop:=(t=.ls xs/\il=true)\/(t=.tp xs/\il=false)
theorem ky {d:Nat}(ih:∀ x,spl d x->∀ Q X,(∀ t',Q .non [t'])->ze d [x] Q X){D:L4.Ends}{il:Bool}{n:Nat}(fin:∀ t' xs' y',Kn il t' xs'->D.nx [.own t',y']):∀ (m:Nat) (t:T) (xs:List T) (y:Slot),Kn il t xs->xs.length=n->m<=n->(∀ i x,n - m<=i->xs[i]? = some x->spl d x)->jD 1 none 0 [] il (W9 (ze d)) D n m [.own t,y]
 | 0,t,xs,y,hk,hl,_,_=>by
  refine⟨⟨rfl,t,xs,rfl,?_,?_,hl⟩,fin t xs y hk⟩
  ·rcases hk with⟨rfl,rfl⟩ | ⟨rfl,rfl⟩<;>rfl
  ·rcases hk with⟨rfl,rfl⟩ | ⟨rfl,rfl⟩<;>rfl
 | m+1,t,xs,y,hk,hl,hm,hx=>by
  have hi:n - (m+1)<xs.length:=by omega
  have hc:=List.getElem?_eq_getElem hi
  generalize xs[n - (m+1)]=x at hc
  refine⟨rfl,t,xs,x,rfl,?_,?_,hl,hc,.al 0 [n - (m+1)],.inl ⟨?_,rfl⟩,?_⟩
  ·rcases hk with⟨rfl,rfl⟩ | ⟨rfl,rfl⟩<;>rfl
  ·rcases hk with⟨rfl,rfl⟩ | ⟨rfl,rfl⟩<;>rfl
  ·rcases hk with⟨rfl,rfl⟩ | ⟨rfl,rfl⟩<;>rfl
  ·have kt:kids t=some xs:=by rcases hk with⟨rfl,rfl⟩ | ⟨rfl,rfl⟩<;>rfl
   have g:getT t [n - (m+1)]=some x:=by
    show(match kids t with | some xs=>_ | none=>none)=_
    rw [kt]
    show(match xs[n - (m+1)]? with | some x=>_ | none=>none)=_
    rw [hc]
    rfl
   unfold W9
   refine z9 ?_
   dsimp only [WS,WE,WEs,WT,WA,WP,WO,WB,WTb,ckT]
   refine⟨0,[n - (m+1)],.inl ⟨rfl,rfl⟩,⟨x,g,trivial⟩,x,g,?_⟩
   refine ih x (hx _ _ (Nat.le_refl _) hc) _ _ fun t'=>⟨nofun,?_⟩
   refine vJ ?_
   have st:∃ t1,setT t [n - (m+1)] t' = t1/\Kn il t1 (xs.set (n - (m+1)) t'):=by
    refine⟨_,rfl,?_⟩
    rcases hk with⟨rfl,rfl⟩ | ⟨rfl,rfl⟩
    ·left
     refine⟨?_,rfl⟩
     show(match xs[n - (m+1)]? with | some x=>_ | none=>_)=_
     rw [hc];rfl
    ·right
     refine⟨?_,rfl⟩
     show(match xs[n - (m+1)]? with | some x=>_ | none=>_)=_
     rw [hc];rfl
   obtain⟨t1,e1,k1⟩:=st
   show jD 1 none 0 [] il (W9 (ze d)) D n m [.own (setT t [n - (m+1)] t'),Slot.kill 0 [n - (m+1)] (.al 0 [n - (m+1)])]
   rw [e1]
   refine ky ih fin m t1 _ _ k1 (by rw [List.length_set];exact hl) (by omega) fun i z hiz hz=>?_
   rw [List.getElem?_set_ne (by omega)] at hz
   exact hx i z (by omega) hz
theorem Xa {d:Nat}(ih:∀ x,spl d x->∀ Q X,(∀ t',Q .non [t'])->ze d [x] Q X){D:L4.Ends}{xs:List T}(hx:∀ x∈xs,∃ w,x=.str w/\spl d x)(fin:∀ y',D.nx [.own (.fz (.tp xs)),y']):∀ (m:Nat) (y:Slot),m<=xs.length->jD 1 none 0 [] false (W9 (ze d)) D xs.length m [.own (.fz (.tp xs)),y]
 | 0,y,_=>⟨⟨rfl,_,_,rfl,rfl,rfl,List.length_map _⟩,fin y⟩
 | m+1,y,hm=>by
  have hi:xs.length - (m+1)<xs.length:=by omega
  have hc:=List.getElem?_eq_getElem hi
  generalize xs[xs.length - (m+1)]=x at hc
  obtain⟨w,rfl,hs⟩:=hx x (List.mem_of_getElem? hc)
  refine⟨rfl,.fz (.tp xs),xs.map fzi,.str w,rfl,rfl,rfl,List.length_map _,?_,.own (.str w),.inr ⟨rfl,rfl⟩,?_⟩
  ·rw [List.getElem?_map,hc];rfl
  ·unfold W9
   refine z9 ?_
   dsimp only [WS,WE,WEs,WT,WA,WP,WO,WB,WTb,ckT]
   refine⟨1,[],.inr ⟨rfl,rfl,_,rfl⟩,⟨.str w,rfl,trivial⟩,.str w,rfl,?_⟩
   refine ih _ hs _ _ fun t'=>⟨nofun,?_⟩
   refine vJ ?_
   exact Xa ih hx fin m _ (by omega)
theorem vp:∀ {n:Nat} {t:T},spl n t->∀ {Q:T->List T->Prop} {X:Exn->List T->Prop},(∀ t',Q .non [t'])->ze n [t] Q X
 | 0,_,h,_,_,_=>h.elim
 | n+1,.str t,h,Q,X,q=>by
  show fnD [.mu] 2 (zG (ze n)) [.str t] Q X
  unfold fnD zG
  refine⟨rfl,?_⟩
  have i1:isiO (.str t) [.list,.tuple]=some false:=rfl
  have i2:isiO (.str t) [.list]=some false:=rfl
  walk_at "go"
  exact q _
 | n+1,.ls xs,h,Q,X,q=>by
  show fnD [.mu] 2 (zG (ze n)) [.ls xs] Q X
  unfold fnD zG
  refine⟨rfl,?_⟩
  have i1:isiO (.ls xs) [.list,.tuple]=some true:=rfl
  walk_at "go"
  refine⟨[],.ls xs,xs,rfl,rfl,rfl,?_⟩
  refine ky (il:=true) (fun x hx Q X q=>vp hx q) ?_ xs.length _ xs _ (.inl ⟨rfl,rfl⟩) rfl (Nat.le_refl _) fun i x _ hx=>h x (List.mem_of_getElem? hx)
  intro t' xs' y' hk
  rcases hk with⟨rfl,_⟩ | ⟨_,z⟩
  ·have i2:isiO (.ls xs') [.list]=some true:=rfl
   walk_at "go"
   exact q _
  ·exact absurd z nofun
 | n+1,.tp xs,h,Q,X,q=>by
  show fnD [.mu] 2 (zG (ze n)) [.tp xs] Q X
  unfold fnD zG
  refine⟨rfl,?_⟩
  have i1:isiO (.tp xs) [.list,.tuple]=some true:=rfl
  walk_at "go"
  refine⟨[],.tp xs,xs,rfl,rfl,rfl,?_⟩
  refine ky (il:=false) (fun x hx Q X q=>vp hx q) ?_ xs.length _ xs _ (.inr ⟨rfl,rfl⟩) rfl (Nat.le_refl _) fun i x _ hx=>h x (List.mem_of_getElem? hx)
  intro t' xs' y' hk
  rcases hk with⟨_,z⟩ | ⟨rfl,_⟩
  ·exact absurd z nofun
  ·have i2:isiO (.tp xs') [.list]=some false:=rfl
   walk_at "go"
   exact q _
 | n+1,.fz (.tp xs),h,Q,X,q=>by
  show fnD [.mu] 2 (zG (ze n)) [.fz (.tp xs)] Q X
  unfold fnD zG
  refine⟨rfl,?_⟩
  have i1:isiO (.fz (.tp xs)) [.list,.tuple]=some true:=rfl
  walk_at "go"
  refine⟨[],.fz (.tp xs),xs.map fzi,rfl,rfl,rfl,?_⟩
  rw [List.length_map]
  refine Xa (fun x hx Q X q=>vp hx q) h ?_ xs.length _ (Nat.le_refl _)
  intro y'
  have i2:isiO (.fz (.tp xs)) [.list]=some false:=rfl
  walk_at "go"
  exact q _
end
section
variable {Q:T->List T->Prop} {X:Exn->List T->Prop}
theorem zbT {w word:List Nat}{xs:List T}{n:Int}(q:Q (.bl (decide (((xs.length+1:Nat):Int)=n)&&decide (w=word))) [.non,.non,.non]):zp [.fz (.tp (.str w::xs)),.str word,.int n] Q X:=by
 unfold zp wy fnD
 refine⟨rfl,?_⟩
 have i1:isiO (.fz (.tp (.str w::xs))) [.tuple]=some true:=rfl
 have el:biO .len [.fz (.tp (.str w::xs))]=some (.int (xs.length+1:Nat)):=by
  show some (T.int (((.str w::xs:List T).map fzi).length:Nat))=_
  rw [List.length_map];rfl
 have e0:ixO (.fz (.tp (.str w::xs))) (.int 0)=some (.str w):=zbG
 have i2:isiO (.str w) [.str]=some true:=rfl
 walk_at "go"
 by_cases h:((xs.length+1:Nat):Int)=n
 ·rw [decide_eq_true h,Bool.true_and] at q
  walk_at "go"
  exact q
 ·rw [decide_eq_false h,Bool.false_and] at q
  walk_at "go"
  rw [decide_eq_false h]
  exact q
theorem yM {word:List Nat}{xs:List T}{n:Int}(h:((xs.length+1:Nat):Int)=n)(q:Q (.bl true) [.non,.non,.non]):zp [.fz (.tp (.str word::xs)),.str word,.int n] Q X:=zbT (by rw [decide_eq_true h,decide_eq_true rfl];exact q)
theorem zbU {w word:List Nat}{xs:List T}{n:Int}(h:w≠word)(q:Q (.bl false) [.non,.non,.non]):zp [.fz (.tp (.str w::xs)),.str word,.int n] Q X:=zbT (by rw [decide_eq_false h,Bool.and_false];exact q)
theorem yN {t:List Nat}(h:Tx t)(q:Q (.bl true) [.non]):zV [.str t] Q X:=by
 unfold zV kl fnD
 refine⟨rfl,?_⟩
 have i1:isiO (.str t) [.str]=some true:=rfl
 have ei:itT .seq [.str t]=some (L4.signs t):=rfl
 walk_at "go"
 refine yZ ?_ (by rw [L4.sg_len];have:=h.2;omega) rfl ?_
 ·intro d hd K hK
  obtain⟨c,hc,rfl⟩:=List.mem_map.mp hd
  exact⟨_,rfl,.inl rfl,_,zbH (h.1 c hc),hK⟩
 ·refine w_bi (wV _) ?_
  walk_at "go"
  exact q
theorem Q2 {t:List Nat}(h:Nm t)(q:Q (.bl true) [.non]):qH [.str t] Q X:=by
 unfold qH kj fnD
 refine⟨rfl,?_⟩
 have i1:isiO (.str t) [.str]=some true:=rfl
 have ei:itT .seq [.str t]=some (L4.signs t):=rfl
 have el:biO .len [.str t]=some (.int t.length):=rfl
 have l1:=h.2.1
 have l2:=h.2.2
 have c1:cmpI .le 1 t.length=some true:=by show some (decide _)=_;rw [decide_eq_true (by omega)]
 have c2:cmpI .le t.length 8=some true:=by show some (decide _)=_;rw [decide_eq_true (by omega)]
 walk_at "go"
 refine yZ ?_ (by rw [L4.sg_len];omega) rfl ?_
 ·intro d hd K hK
  obtain⟨c,hc,rfl⟩:=List.mem_map.mp hd
  exact⟨_,rfl,.inl rfl,_,zbH (h.1 c hc),hK⟩
 ·refine w_bi (wV _) ?_
  walk_at "go"
  exact q
theorem zdn {t:List Nat}(h:Wo t)(q:Q (.bl true) [.non]):jm [.str t] Q X:=by
 unfold jm km fnD
 refine⟨rfl,?_⟩
 have i1:isiO (.str t) [.str]=some true:=rfl
 have ei:itT .seq [.str t]=some (L4.signs t):=rfl
 have el:biO .len [.str t]=some (.int t.length):=rfl
 have c1:cmpO .gt (.int t.length) (.int 0)=some true:=by show some (decide _)=_;rw [decide_eq_true (by have:=h.2.1;omega)]
 walk_at "go"
 refine yZ ?_ (by rw [L4.sg_len];have:=h.2.2;omega) rfl ?_
 ·intro d hd K hK
  obtain⟨c,hc,rfl⟩:=List.mem_map.mp hd
  exact⟨_,rfl,.inl rfl,_,zbH (h.1 c hc),hK⟩
 ·refine w_bi (wV _) ?_
  walk_at "go"
  exact q
theorem Ko {p:Bool×List Nat}(h:WZ p)(q:Q (.bl true) [.non]):qx [.fz (trP p)] Q X:=by
 unfold qx xZ fnD
 refine⟨rfl,?_⟩
 obtain⟨w,t⟩:=p
 have e1:ixO (.fz (trP (w,t))) (.int 1)=some (.str t):=rfl
 have fx:∀ xs,fzn (.fz (.tp [.str xs,.str t]))=.fz (.tp [.str xs,.str t]):=fun _=>rfl
 cases w with
 | true=>
  walk_at "go"
  refine yM (xs:=[.str t]) rfl ⟨nofun,?_⟩
  walk_at "go"
  refine zdn h ⟨nofun,?_⟩
  walk_at "go"
  exact q
 | false=>
  walk_at "go"
  refine zbU (w:=[115,97,105,100]) (xs:=[.str t]) (by decide) ⟨nofun,?_⟩
  walk_at "go"
  refine yM (xs:=[.str t]) rfl ⟨nofun,?_⟩
  walk_at "go"
  refine yN h ⟨nofun,?_⟩
  walk_at "go"
  exact q
end
section
variable {Q:T->List T->Prop} {X:Exn->List T->Prop}
theorem zbV (c:Ct):fzn (fzi (trC c))=fzi (trC c):=by show fzi (strip (fzi (trC c)))=_;rw [Q0,Yn]
theorem X9 {c:Ct}(h:GoodC c)(q:Q (.bl true) [.non,.non]):qe [.str (kd c),fzi (trC c)] Q X:=by
 unfold qe xm fnD
 refine⟨rfl,?_⟩
 cases c with
 | bare t=>
  show WSs _ [.own (.str [98,97,114,101]),.own (.str t)] _
  have e:cmpO .isin (.str [98,97,114,101]) (.tp [.str [98,97,114,101],.str [113,117,111,116,101,100]])=some true:=by decide
  walk_at "go"
  refine yN h ⟨nofun,?_⟩
  walk_at "go"
  exact q
 | quoted t=>
  show WSs _ [.own (.str [113,117,111,116,101,100]),.own (.str t)] _
  have e:cmpO .isin (.str [113,117,111,116,101,100]) (.tp [.str [98,97,114,101],.str [113,117,111,116,101,100]])=some true:=by decide
  walk_at "go"
  refine yN h ⟨nofun,?_⟩
  walk_at "go"
  exact q
 | row ts=>
  obtain⟨h1,h2,h3⟩:=h
  show WSs _ [.own (.str [114,111,119]),.own (.fz (.ls (ts.map .str)))] _
  have e:cmpO .isin (.str [114,111,119]) (.tp [.str [98,97,114,101],.str [113,117,111,116,101,100]])=some false:=by decide
  have i1:isiO (.fz (.ls (ts.map .str))) [.list]=some true:=rfl
  have el:biO .len [.fz (.ls (ts.map .str))]=some (.int ts.length):=by rw [zbI,List.length_map]
  have c1:cmpO .gt (.int ts.length) (.int 0)=some true:=by show some (decide _)=_;rw [decide_eq_true (by omega)]
  have ei:=Jy ts
  walk_at "go"
  refine yZ ?_ (by rw [List.length_map];omega) rfl ?_
  ·intro d hd K hK
   obtain⟨t,ht,rfl⟩:=List.mem_map.mp hd
   walk_at "go"
   exact yN (h3 t ht) ⟨nofun,hK⟩
  ·refine w_bi (wV _) ?_
   walk_at "go"
   exact q
 | talk ps=>
  show WSs _ [.own (.str [116,97,108,107]),.own (.fz (.ls (ps.map trP)))] _
  have e:cmpO .isin (.str [116,97,108,107]) (.tp [.str [98,97,114,101],.str [113,117,111,116,101,100]])=some false:=by decide
  have i1:isiO (.fz (.ls (ps.map trP))) [.list]=some true:=rfl
  have ei:=qw (f:=trP) (fun a=>⟨_,rfl⟩) ps
  have h1:=h.1
  walk_at "go"
  refine yZ ?_ (by rw [List.length_map];omega) rfl ?_
  ·intro d hd K hK
   obtain⟨t,ht,rfl⟩:=List.mem_map.mp hd
   walk_at "go"
   exact Ko (h.2 t ht) ⟨nofun,hK⟩
  ·refine w_bi (wV _) ?_
   walk_at "go"
   exact q
theorem Kq {a:List Nat×Ct}(h:vj a)(q:Q (.bl true) [.non]):jn [.fz (trA a)] Q X:=by
 unfold jn kn fnD
 refine⟨rfl,?_⟩
 have i1:isiO (.fz (trA a)) [.tuple]=some true:=rfl
 have el:biO .len [.fz (trA a)]=some (.int 3):=rfl
 have e0:ixO (.fz (trA a)) (.int 0)=some (.str a.1):=rfl
 have e1:ixO (.fz (trA a)) (.int 1)=some (.str (kd a.2)):=rfl
 have e2:ixO (.fz (trA a)) (.int 2)=some (fzi (trC a.2)):=rfl
 have i2:isiO (.str (kd a.2)) [.str]=some true:=rfl
 have s2:shr (fzi (trC a.2))=true:=by obtain⟨_,c⟩:=a;cases c<;>rfl
 walk_at "go"
 refine Q2 h.1 ⟨nofun,?_⟩
 walk_at "go"
 refine WL e2 s2 ?_
 walk_at "go"
 rw [zbV]
 refine X9 h.2 ⟨nofun,?_⟩
 walk_at "go"
 exact q
theorem Kr {nm:List Nat}{as:List (List Nat×Ct)}(h:GoodR (.box nm as))(q:Q (.bl true) [.non]):zP [.fz (trR (.box nm as))] Q X:=by
 unfold zP jU fnD
 refine⟨rfl,?_⟩
 obtain⟨h1,h2,h3⟩:=h
 have e1:ixO (.fz (trR (.box nm as))) (.int 1)=some (.str nm):=rfl
 have e2:ixO (.fz (trR (.box nm as))) (.int 2)=some (.fz (.ls (as.map trA))):=rfl
 have i2:isiO (.fz (.ls (as.map trA))) [.list]=some true:=rfl
 have fx:fzn (.fz (trR (.box nm as)))=.fz (trR (.box nm as)):=by
  show T.fz (.tp [.str _,.str _,.ls (zb (as.map trA))])=_
  rw [zr xw];rfl
 have ei:=qw (f:=trA) (fun a=>⟨_,rfl⟩) as
 walk_at "go"
 rw [fx]
 refine yM (xs:=[.str nm,.ls (as.map trA)]) rfl ⟨nofun,?_⟩
 walk_at "go"
 refine Q2 h1 ⟨nofun,?_⟩
 walk_at "go"
 refine yZ ?_ (by rw [List.length_map];omega) rfl ?_
 ·intro d hd K hK
  obtain⟨t,ht,rfl⟩:=List.mem_map.mp hd
  have ft:fzn (.fz (trA t))=.fz (trA t):=by show fzi (strip (trA t))=_;rw [xw];rfl
  walk_at "go"
  rw [ft]
  exact Kq (h3 t ht) ⟨nofun,hK⟩
 ·refine w_bi (wV _) ?_
  walk_at "go"
  exact q
theorem zge {w:List Nat}{xs:List T}(hx:zb xs=xs)(hw:w≠[98,111,120])(q:Q (.bl false) [.non]):zP [.fz (.tp (.str w::xs))] Q X:=by
 unfold zP jU fnD
 refine⟨rfl,?_⟩
 have fx:fzn (.fz (.tp (.str w::xs)))=.fz (.tp (.str w::xs)):=by
  show T.fz (.tp (.str w::zb xs))=_
  rw [hx]
 walk_at "go"
 rw [fx]
 refine zbU hw ⟨nofun,?_⟩
 walk_at "go"
 exact q
theorem Va {t inm:List Nat}(h:Tx t)(hi:inm=AS->occs t AE=[])(q:Q (.bl true) [.non,.non]):z0 [.fz (trR (.text t)),.str inm] Q X:=by
 unfold z0 wz fnD
 refine⟨rfl,?_⟩
 have e1:ixO (.fz (trR (.text t))) (.int 1)=some (.str t):=rfl
 walk_at "go"
 refine yM (xs:=[.str t]) rfl ⟨nofun,?_⟩
 walk_at "go"
 refine yN h ⟨nofun,?_⟩
 by_cases ha:inm=[97,115,105,115]
 ·have eo:cmpO .notin (.str [60,47,97,115,105,115,62]) (.str t)=some true:=by
   show some (!(!(occs t AE).isEmpty))=_
   rw [hi ha];rfl
  walk_at "go"
  exact q
 ·walk_at "go"
  rw [decide_eq_false ha]
  exact q
end
section
variable {Q:T->List T->Prop} {X:Exn->List T->Prop} {D:L4.Ends} {R:T} {n:Nat} {rest:List Rw} {os:List (List Nat)} {t nm:List Nat}
noncomputable def Yv:List Cm:=match z5 with
 | [_,_,.loop _ _ _ b,_]=>b
 | _=>[]
noncomputable def fzR (r:Rw):T:=.fz (trR r)
def FO (D:L4.Ends)(R:T)(n:Nat)(rest:List Rw)(os:List (List Nat)):Prop:=∀ x y z,wk (ZC (.tup [2,3])) (fun s D=>WSs Yv s D) D (wF n (rest.map fzR)) [.own R,.own (.ls (os.map .str)),x,y,z]
noncomputable def inmO (os:List (List Nat)):List Nat:=os.getLast?.getD []
theorem Xb (r:Rw):fzn (fzR r)=fzR r:=by
 cases r with
 | text t=>rfl
 | out=>rfl
 | box nm as=>
  show T.fz (.tp [.str _,.str _,.ls (zb (as.map trA))])=_
  rw [zr xw];rfl
theorem Vb {D':QP}{s:Sl}{X':XP}(hs:s[1]? = some (.own (.ls (os.map .str))))(q:D' (.str (inmO os)) s):WE false (.ife (.t (.b 1)) (.ix (.b 1) (.neg (.c (.int 1)))) (.c (.str []))) s D' X':=by
 dsimp only [WE]
 refine kN hs ?_
 rcases List.eq_nil_or_concat os with rfl | ⟨os',x,rfl⟩
 ·exact⟨false,rfl,false,rfl,q⟩
 ·rw [List.concat_eq_append] at *
  refine⟨true,?_,true,rfl,?_⟩
  ·show some (!((os'++[x]).map T.str).isEmpty)=_
   simp
  ·refine kN hs ?_
   refine⟨1,rfl,.str x,Yo,.inr rfl,?_⟩
   have:inmO (os'++[x])=x:=by unfold inmO;rw [List.getLast?_concat];rfl
   rw [this] at q
   exact q
theorem JP (hn:n % 2=0)(ht:Tx t)(hi:inmO os=AS->occs t AE=[])(h:FO D R (n+1) rest os):FO D R n (.text t::rest) os:=by
 intro x y z
 refine⟨_,rfl,?_⟩
 unfold Yv z5
 dsimp only
 refine z9 ?_
 refine Vb rfl ?_
 show WSs _ [.own R,.own (.ls (os.map .str)),.own (.int (n:Int)),.own (fzR (.text t)),.own (.str (inmO os))] _
 have e:((n:Int) % 2=0):=by omega
 walk_at "go"
 rw [Xb]
 refine Va ht hi ⟨nofun,?_⟩
 walk_at "go"
 exact h _ _ _
theorem zgf {as:List (List Nat×Ct)}(hn:n % 2=1)(hg:GoodR (.box nm as))(hi:inmO os≠AS)(hl:os.length<=1000000)(h:FO D R (n+1) rest (os++[nm])):FO D R n (.box nm as::rest) os:=by
 intro x y z
 refine⟨_,rfl,?_⟩
 unfold Yv z5
 dsimp only
 refine z9 ?_
 refine Vb rfl ?_
 show WSs _ [.own R,.own (.ls (os.map .str)),.own (.int (n:Int)),.own (fzR (.box nm as)),.own (.str (inmO os))] _
 have e:¬ ((n:Int) % 2=0):=by omega
 have e1:ixO (fzR (.box nm as)) (.int 1)=some (.str nm):=rfl
 have hi':inmO os≠[97,115,105,115]:=hi
 have el:(os.map T.str).length<16777216:=by rw [List.length_map];omega
 walk_at "go"
 rw [Xb]
 refine Kr hg ⟨nofun,?_⟩
 walk_at "go"
 have:=h (.own (.int (n:Int))) (.own (fzR (.box nm as))) (.own (.str (inmO os)))
 rw [List.map_append] at this
 exact this
theorem zgg (hn:n % 2=1)(h:FO D R (n+1) rest os):FO D R n (.out::rest) (os++[nm]):=by
 intro x y z
 refine⟨_,rfl,?_⟩
 unfold Yv z5
 dsimp only
 refine z9 ?_
 refine Vb (os:=os++[nm]) rfl ?_
 have hi':inmO (os++[nm])=nm:=by unfold inmO;rw [List.getLast?_concat];rfl
 rw [hi']
 show WSs _ [.own R,.own (.ls ((os++[nm]).map .str)),.own (.int (n:Int)),.own (fzR .out),.own (.str nm)] _
 have e:¬ ((n:Int) % 2=0):=by omega
 have ep:=zbO (os:=os) (nm:=nm)
 have et:truT (.ls ((os++[nm]).map .str))=some true:=by
  show some (!((os++[nm]).map T.str).isEmpty)=_
  simp
 walk_at "go"
 rw [Xb]
 refine zge (w:=[111,117,116]) (xs:=[]) rfl (by decide) ⟨nofun,?_⟩
 walk_at "go"
 rw [Xb]
 refine yM (word:=[111,117,116]) (xs:=[]) rfl ⟨nofun,?_⟩
 walk_at "go"
 exact h _ _ _
theorem Runs.len {ss:List Stp}(h:Runs ss os):os.length<=ss.length:=by
 induction h with
 | nil=>exact Nat.le_refl _
 | bx _ _ _ _ _ _ ih=>simp only [List.length_append,List.length_cons,List.length_nil];omega
 | ot _ _ ih=>simp only [List.length_append,List.length_cons,List.length_nil] at *;omega
theorem JQ {os:List (List Nat)}(h:∀ x∈os,x≠AS):inmO os≠AS:=by
 rcases List.eq_nil_or_concat os with rfl | ⟨os',x,rfl⟩
 ·decide
 ·rw [List.concat_eq_append] at *
  have:inmO (os'++[x])=x:=by unfold inmO;rw [List.getLast?_concat];rfl
  rw [this]
  exact h x (List.mem_append_right _ List.mem_cons_self)
theorem zbW (s:Stp):(jK s).length=2:=by cases s<;>rfl
theorem zdo {ss:List Stp}{os:List (List Nat)}(hr:Runs ss os):ss.length<=200->∀ {rest:List Rw} {m:Nat},m % 2=1->FO D R (m+2 * ss.length) rest os->FO D R m (ss.flatMap jK++rest) []:=by
 induction hr with
 | nil=>intro _ rest m _ h;exact h
 | @bx ss os nm as t hr h1 h2 h3 h4 h5 ih=>
  intro hl rest m hm h
  rw [List.length_append] at hl h
  simp only [List.length_cons,List.length_nil] at hl h
  rw [List.flatMap_append,List.append_assoc]
  refine ih (by omega) hm ?_
  have hl':=hr.len
  refine zgf (rest:=.text t::rest) (by omega) ⟨h2,h3,h4⟩ (JQ h1) (by omega) ?_
  have hi:inmO (os++[nm])=nm:=by unfold inmO;rw [List.getLast?_concat];rfl
  exact JP (by omega) h5.1 (by rw [hi];exact h5.2) h
 | @ot ss os nm t hr h1 ih=>
  intro hl rest m hm h
  rw [List.length_append] at hl h
  simp only [List.length_cons,List.length_nil] at hl h
  rw [List.flatMap_append,List.append_assoc]
  refine ih (by omega) hm ?_
  have ha:=hr.asis
  rw [List.dropLast_concat] at ha
  refine zgg (rest:=.text t::rest) (by omega) ?_
  exact JP (by omega) h1 (fun z=>absurd z (JQ ha)) h
theorem zez (ss:List Stp):(ss.flatMap jK).length=2 * ss.length:=by
 induction ss with
 | nil=>rfl
 | cons s ss ih=>rw [List.flatMap_cons,List.length_append,ih,List.length_cons,zbW];omega
theorem zbX {t0:List Nat}{ss:List Stp}(h0:Tx t0)(hr:Runs ss [])(hl:ss.length<=200)(q:Q .non [.non]):z6 [.fz (.ls ((zk t0 ss).map trR))] Q X:=by
 unfold z6 z5 fnD
 refine⟨rfl,?_⟩
 have i1:isiO (.fz (.ls ((zk t0 ss).map trR))) [.list]=some true:=rfl
 have ei:itT .enumL [.fz (.ls ((zk t0 ss).map trR))]=some (wF 0 ((zk t0 ss).map fzR)):=by
  show(shO (some (((zk t0 ss).map trR).map fzi))).map _=_
  have:((zk t0 ss).map trR).map fzi=(zk t0 ss).map fzR:=by
   rw [List.map_map]
   exact List.map_congr_left fun a _=>by cases a<;>rfl
  rw [this,jq fun t ht=>by obtain⟨a,_,rfl⟩:=List.mem_map.mp ht;rfl]
  rfl
 have el:biO .len [.fz (.ls ((zk t0 ss).map trR))]=some (.int ((1+2 * ss.length:Nat):Int)):=by
  rw [zbI,List.length_map]
  unfold zk
  rw [List.length_cons,zez,Nat.add_comm]
 have fin:∀ D:L4.Ends,(∀ x y z,D.nx [.own (.fz (.ls ((zk t0 ss).map trR))),.own (.ls []),x,y,z])->FO D (.fz (.ls ((zk t0 ss).map trR))) 0 (zk t0 ss) []:=by
  intro D h
  refine JP (by decide) h0 (fun z=>absurd z (JQ nofun)) ?_
  have:=zdo (D:=D) (R:=.fz (.ls ((zk t0 ss).map trR))) hr hl (rest:=[]) (m:=1) (by decide) h
  rw [List.append_nil] at this
  exact this
 walk_at "go"
 refine fin _ ?_ _ _ _
 intro x y z
 have em:(((1+2 * ss.length:Nat):Int) % 2=0)=False:=by simp only [eq_iff_iff,iff_false];omega
 have em':¬ (((1+2 * ss.length:Nat):Int) % 2=0):=by omega
 have et:truT (.ls [])=some false:=rfl
 walk_at "go"
 exact q
theorem Ks {t0:List Nat}{ss:List Stp}(h0:Tx t0)(hr:Runs ss [])(hl:ss.length<=200)(q:Q (.bl true) [.non]):qU [.fz (.ls ((zk t0 ss).map trR))] Q X:=by
 unfold qU ko fnD
 refine⟨rfl,?_⟩
 have fx:fzn (.fz (.ls ((zk t0 ss).map trR)))=.fz (.ls ((zk t0 ss).map trR)):=by
  show T.fz (.ls (zb _))=_
  rw [zr fun r=>?_]
  cases r with
  | text t=>rfl
  | out=>rfl
  | box nm as=>show T.tp [.str _,.str _,.ls (zb (as.map trA))]=_;rw [zr xw];rfl
 walk_at "go"
 rw [fx]
 refine zbX h0 hr hl ⟨nofun,?_⟩
 have ec:cmpO .is .non .non=some true:=rfl
 walk_at "go"
 exact q
end
section
variable {Q:T->List T->Prop} {X:Exn->List T->Prop}
theorem zdp {α:Type}{n:Nat}{fe:Sl->QP->Prop}{as:List α}{f g:α->T}{l:α->Sl}{s:Sl}{Q:QP}(hb:∀ a∈as,QR n (f a)=some (l a)/\(l a).length=n)(h:∀ a∈as,∀ K:QP,K (g a) (l a++s)->fe (l a++s) K)(hl:as.length<=1000000)(hs:s.map Slot.noAl=s)(q:Q (.ls (as.map g)) s):wG n (fun s K=>K true s) fe (as.map f) [] s Q:=by
 refine j0 (fun k acc s'=>acc=(as.take k).map g/\s' = s) ⟨rfl,rfl⟩ ?_ ?_
 ·rintro k d acc s1 hd ⟨rfl,es⟩ K hK
  rw [es]
  rw [List.getElem?_map] at hd
  obtain⟨a,hc,rfl⟩:=Option.map_eq_some_iff.mp hd
  have hk:=(List.getElem?_eq_some_iff.mp hc).1
  have hm:=List.mem_of_getElem? hc
  refine⟨l a,(hb a hm).1,?_⟩
  refine w_tt (h a hm _ ⟨?_,?_⟩)
  ·rw [List.length_map,List.length_take];omega
  ·have e:(l a++s).drop n=s:=List.drop_left' (hb a hm).2
   rw [e]
   refine hK _ _ ⟨?_,hs⟩
   rw [List.take_succ,hc,List.map_append]
   rfl
 ·rintro acc _ ⟨rfl,rfl⟩
  rw [List.length_map,List.take_length]
  exact q
noncomputable def shP (p:Bool×List Nat):T:=if p.1=true then .fz (trP p) else .tp [.str [115,97,105,100],.str []]
noncomputable def shC:Ct->T
 | .bare _=>.str []
 | .quoted _=>.str []
 | .row ts=>.ls (ts.map fun _=>.str [])
 | .talk ps=>.ls (ps.map shP)
noncomputable def shA (a:List Nat×Ct):T:=.tp [.str a.1,.str (kd a.2),shC a.2]
noncomputable def shR:Rw->T
 | .text _=>.tp [.str [116,101,120,116],.str []]
 | .out=>.fz (trR .out)
 | .box nm as=>.tp [.str [98,111,120],.str nm,.ls (as.map shA)]
theorem Kt {c:Ct}(h:GoodC c)(q:Q (shC c) [.non,.non]):zL [.str (kd c),fzi (trC c)] Q X:=by
 unfold zL jI fnD
 refine⟨rfl,?_⟩
 cases c with
 | bare t=>
  show WSs _ [.own (.str [98,97,114,101]),.own (.str t)] _
  walk_at "go"
  exact q
 | quoted t=>
  show WSs _ [.own (.str [113,117,111,116,101,100]),.own (.str t)] _
  walk_at "go"
  exact q
 | row ts=>
  obtain⟨h1,h2,h3⟩:=h
  show WSs _ [.own (.str [114,111,119]),.own (.fz (.ls (ts.map .str)))] _
  have ei:=Jy ts
  walk_at "go"
  refine y9 (g:=fun _=>.str []) (fun a _ K hK=>hK) (by omega) rfl ?_
  walk_at "go"
  exact q
 | talk ps=>
  have h1:=h.1
  show WSs _ [.own (.str [116,97,108,107]),.own (.fz (.ls (ps.map trP)))] _
  have ei:=qw (f:=trP) (fun a=>⟨_,rfl⟩) ps
  walk_at "go"
  refine y9 (g:=shP) (fun a _ K hK=>?_) (by omega) rfl ?_
  ·obtain⟨w,t⟩:=a
   cases w with
   | true=>
    have e0:ixO (.fz (trP (true,t))) (.int 0)=some (.str [119,111,114,100]):=rfl
    walk_at "go"
    exact hK
   | false=>
    have e0:ixO (.fz (trP (false,t))) (.int 0)=some (.str [115,97,105,100]):=rfl
    walk_at "go"
    exact hK
  ·walk_at "go"
   exact q
theorem Ku {r:Rw}(h:GoodR r)(q:Q (shR r) [.non]):qy [.fz (trR r)] Q X:=by
 unfold qy ve fnD
 refine⟨rfl,?_⟩
 cases r with
 | text t=>
  have e0:ixO (.fz (trR (.text t))) (.int 0)=some (.str [116,101,120,116]):=rfl
  walk_at "go"
  exact q
 | out=>
  have e0:ixO (.fz (trR .out)) (.int 0)=some (.str [111,117,116]):=rfl
  walk_at "go"
  exact q
 | box nm as=>
  obtain⟨h1,h2,h3⟩:=h
  have e0:ixO (.fz (trR (.box nm as))) (.int 0)=some (.str [98,111,120]):=rfl
  have e1:ixO (.fz (trR (.box nm as))) (.int 1)=some (.str nm):=rfl
  have e2:ixO (.fz (trR (.box nm as))) (.int 2)=some (.fz (.ls (as.map trA))):=rfl
  have ei:=qw (f:=trA) (fun a=>⟨_,rfl⟩) as
  walk_at "go"
  refine zdp (g:=shA) (l:=fun a=>[.own (.str a.1),.own (.str (kd a.2)),.own (fzi (trC a.2))]) (fun a _=>⟨?_,rfl⟩) (fun a ha K hK=>?_) (by omega) rfl ?_
  ·obtain⟨an,c⟩:=a
   cases c<;>rfl
  ·have s2:shr (fzi (trC a.2))=true:=by obtain⟨_,c⟩:=a;cases c<;>rfl
   walk_at "go"
   refine⟨.inr s2,?_⟩
   walk_at "go"
   rw [zbV]
   refine Kt (h3 a ha).2 ⟨nofun,?_⟩
   walk_at "go"
   exact hK
  ·walk_at "go"
   exact q
theorem zbY {rs:List Rw}(h:∀ r∈rs,GoodR r)(hl:rs.length<=500)(q:Q (.ls (rs.map shR)) [.non]):qg [.fz (.ls (rs.map trR))] Q X:=by
 unfold qg yc fnD
 refine⟨rfl,?_⟩
 have ei:=qw (f:=trR) (fun a=>by cases a<;>exact⟨_,rfl⟩) rs
 walk_at "go"
 refine y9 (g:=shR) (fun a ha K hK=>?_) (by omega) rfl ?_
 ·have fa:=Xb a
  unfold fzR at fa
  walk_at "go"
  rw [fa]
  refine Ku (h a ha) ⟨nofun,hK⟩
 ·walk_at "go"
  exact q
end
section
variable {Q:T->List T->Prop} {X:Exn->List T->Prop}
theorem ye {n:Nat}{t:List Nat}(q:Q (.str []) [.non]):zh (n+1) [.str t] Q X:=by
 show fnD [.fz] 1 (zD (zh n)) [.str t] Q X
 unfold fnD zD
 refine⟨rfl,?_⟩
 have i1:isiO (.str t) [.list]=some false:=rfl
 have i2:isiO (.str t) [.tuple]=some false:=rfl
 walk_at "go"
 exact q
theorem Vc {n:Nat}{p:Bool×List Nat}(q:Q (shP p) [.non]):zh (n+1) [.fz (trP p)] Q X:=by
 show fnD [.fz] 1 (zD (zh n)) [.fz (trP p)] Q X
 unfold fnD zD
 refine⟨rfl,?_⟩
 have i1:isiO (.fz (trP p)) [.list]=some false:=rfl
 have i2:isiO (.fz (trP p)) [.tuple]=some true:=rfl
 obtain⟨w,t⟩:=p
 cases w with
 | true=>
  have e0:ixO (.fz (trP (true,t))) (.int 0)=some (.str [119,111,114,100]):=rfl
  walk_at "go"
  exact q
 | false=>
  have e0:ixO (.fz (trP (false,t))) (.int 0)=some (.str [115,97,105,100]):=rfl
  walk_at "go"
  exact q
theorem Kv {n:Nat}{c:Ct}(h:GoodC c)(q:Q (shC c) [.non]):zh (n+2) [fzi (trC c)] Q X:=by
 cases c with
 | bare t=>exact ye q
 | quoted t=>exact ye q
 | row ts=>
  obtain⟨h1,h2,h3⟩:=h
  show fnD [.fz] 1 (zD (zh (n+1))) [.fz (.ls (ts.map .str))] Q X
  unfold fnD zD
  refine⟨rfl,?_⟩
  have i1:isiO (.fz (.ls (ts.map .str))) [.list]=some true:=rfl
  have ei:=Jy ts
  walk_at "go"
  refine y9 (g:=fun _=>.str []) (fun a _ K hK=>?_) (by omega) rfl ?_
  ·walk_at "go"
   exact ye ⟨nofun,hK⟩
  ·walk_at "go"
   exact q
 | talk ps=>
  have h1:=h.1
  show fnD [.fz] 1 (zD (zh (n+1))) [.fz (.ls (ps.map trP))] Q X
  unfold fnD zD
  refine⟨rfl,?_⟩
  have i1:isiO (.fz (.ls (ps.map trP))) [.list]=some true:=rfl
  have ei:=qw (f:=trP) (fun a=>⟨_,rfl⟩) ps
  walk_at "go"
  refine y9 (g:=shP) (fun a _ K hK=>?_) (by omega) rfl ?_
  ·walk_at "go"
   exact Vc ⟨nofun,hK⟩
  ·walk_at "go"
   exact q
theorem Xc {rs:List Rw}(h:∀ r∈rs,GoodR r)(hl:rs.length<=500)(q:Q (.ls (rs.map shR)) [.non]):zQ [.fz (.ls (rs.map trR))] Q X:=by
 unfold zQ xu fnD
 refine⟨rfl,?_⟩
 have ei:=qw (f:=trR) (fun a=>by cases a<;>exact⟨_,rfl⟩) rs
 walk_at "go"
 refine jo (fun k s=>∃ x,s=[.own (.fz (.ls (rs.map trR))),.own (.ls ((rs.take k).map shR)),x]) ⟨_,rfl⟩ ?_ ?_
 ·rintro k d s hd ⟨x,rfl⟩
  rw [List.getElem?_map] at hd
  obtain⟨r,hc,rfl⟩:=Option.map_eq_some_iff.mp hd
  have hk:=(List.getElem?_eq_some_iff.mp hc).1
  have hr:=h r (List.mem_of_getElem? hc)
  refine⟨_,rfl,fun K hK=>?_⟩
  have hK':∀ x,K [.own (.fz (.ls (rs.map trR))),.own (.ls ((rs.take k).map shR++[shR r])),x]:=fun x=>by
   refine hK _ ⟨x,?_⟩
   rw [List.take_succ,hc,List.map_append]
   rfl
  have hll:((rs.take k).map shR).length<16777216:=by rw [List.length_map,List.length_take];omega
  clear hK
  cases r with
  | text t=>
   show WSs _ [.own (.fz (.ls (rs.map trR))),.own (.ls ((rs.take k).map shR)),.own (.fz (trR (.text t)))] _
   have e0:ixO (.fz (trR (.text t))) (.int 0)=some (.str [116,101,120,116]):=rfl
   walk_at "go"
   exact hK' _
  | out=>
   show WSs _ [.own (.fz (.ls (rs.map trR))),.own (.ls ((rs.take k).map shR)),.own (.fz (trR .out))] _
   have e0:ixO (.fz (trR .out)) (.int 0)=some (.str [111,117,116]):=rfl
   walk_at "go"
   exact hK' _
  | box nm as=>
   obtain⟨h1,h2,h3⟩:=hr
   show WSs _ [.own (.fz (.ls (rs.map trR))),.own (.ls ((rs.take k).map shR)),.own (.fz (trR (.box nm as)))] _
   have e0:ixO (.fz (trR (.box nm as))) (.int 0)=some (.str [98,111,120]):=rfl
   have e1:ixO (.fz (trR (.box nm as))) (.int 1)=some (.str nm):=rfl
   have e2:ixO (.fz (trR (.box nm as))) (.int 2)=some (.fz (.ls (as.map trA))):=rfl
   have ei:=qw (f:=trA) (fun a=>⟨_,rfl⟩) as
   walk_at "go"
   refine y9 (g:=shA) (fun a ha K hK=>?_) (by omega) rfl ?_
   ·have a0:ixO (.fz (trA a)) (.int 0)=some (.str a.1):=rfl
    have a1:ixO (.fz (trA a)) (.int 1)=some (.str (kd a.2)):=rfl
    have a2:ixO (.fz (trA a)) (.int 2)=some (fzi (trC a.2)):=rfl
    have s2:shr (fzi (trC a.2))=true:=by obtain⟨_,c⟩:=a;cases c<;>rfl
    walk_at "go"
    refine WL a2 s2 ?_
    walk_at "go"
    rw [zbV]
    refine Kv (n:=7) (h3 a ha).2 ⟨nofun,?_⟩
    walk_at "go"
    exact hK
   ·walk_at "go"
    exact hK' _
 ·rintro s ⟨x,rfl⟩
  rw [List.length_map,List.take_length]
  walk_at "go"
  exact q
theorem zhP {c:Ct}(h:GoodC c){n:Nat}:pln (n+3) (trC c):=by
 cases c with
 | bare t=>trivial
 | quoted t=>trivial
 | row ts=>
  refine⟨by rw [List.length_map];have:=h.2.1;omega,fun x hx=>?_⟩
  obtain⟨t,_,rfl⟩:=List.mem_map.mp hx
  trivial
 | talk ps=>
  refine⟨by rw [List.length_map];have:=h.1;omega,fun x hx=>?_⟩
  obtain⟨t,_,rfl⟩:=List.mem_map.mp hx
  refine⟨by simp only [List.length];omega,fun y hy=>?_⟩
  rcases List.mem_cons.mp hy with rfl | hy
  ·trivial
  ·rw [List.mem_singleton.mp hy];trivial
theorem zhQ {a:List Nat×Ct}(h:vj a){n:Nat}:pln (n+4) (trA a):=by
 refine⟨by simp only [List.length];omega,fun y hy=>?_⟩
 rcases List.mem_cons.mp hy with rfl | hy
 ·trivial
 ·rcases List.mem_cons.mp hy with rfl | hy
  ·trivial
  ·rw [List.mem_singleton.mp hy];exact zhP h.2
theorem zbZ {r:Rw}(h:GoodR r){n:Nat}:pln (n+6) (trR r):=by
 cases r with
 | text t=>
  refine⟨by simp only [List.length];omega,fun y hy=>?_⟩
  rcases List.mem_cons.mp hy with rfl | hy
  ·trivial
  ·rw [List.mem_singleton.mp hy];trivial
 | out=>
  refine⟨by simp only [List.length];omega,fun y hy=>?_⟩
  rw [List.mem_singleton.mp hy];trivial
 | box nm as=>
  obtain⟨h1,h2,h3⟩:=h
  refine⟨by simp only [List.length];omega,fun y hy=>?_⟩
  rcases List.mem_cons.mp hy with rfl | hy
  ·trivial
  ·rcases List.mem_cons.mp hy with rfl | hy
   ·trivial
   ·rw [List.mem_singleton.mp hy]
    refine⟨by rw [List.length_map];omega,fun x hx=>?_⟩
    obtain⟨a,ha,rfl⟩:=List.mem_map.mp hx
    exact zhQ (h3 a ha)
theorem Zf:∀ {n:Nat} {t:T},pln n t->spl n t
 | 0,_,h=>h.elim
 | n+1,.str _,_=>trivial
 | n+1,.ls xs,h=>fun x hx=>Zf (h.2 x hx)
 | n+1,.tp xs,h=>fun x hx=>Zf (h.2 x hx)
theorem zhR {r:Rw}(h:GoodR r):spl 8 (oR r):=by
 cases r with
 | text t=>exact Zf (zbZ (n:=2) h)
 | out=>exact fun x hx=>⟨[111,117,116],List.mem_singleton.mp hx,by rw [List.mem_singleton.mp hx];trivial⟩
 | box nm as=>exact Zf (zbZ (n:=2) h)
end
section
variable {Q:T->List T->Prop} {X:Exn->List T->Prop}
theorem zdq (p:Bool×List Nat){n:Nat}:spl (n+3) (shP p):=by
 obtain⟨w,t⟩:=p
 cases w with
 | true=>
  intro x hx
  rcases List.mem_cons.mp hx with rfl | hx
  ·exact⟨_,rfl,trivial⟩
  ·rw [List.mem_singleton.mp hx];exact⟨_,rfl,trivial⟩
 | false=>
  intro x hx
  rcases List.mem_cons.mp hx with rfl | hx
  ·trivial
  ·rw [List.mem_singleton.mp hx];trivial
theorem zdr (p:Bool×List Nat){n:Nat}:pln (n+2) (strip (shP p)):=by
 obtain⟨w,t⟩:=p
 cases w with
 | true=>
  refine⟨by show 2<=_;omega,fun x hx=>?_⟩
  rcases List.mem_cons.mp hx with rfl | hx
  ·trivial
  ·rw [List.mem_singleton.mp hx];trivial
 | false=>
  refine⟨by show 2<=_;omega,fun x hx=>?_⟩
  rcases List.mem_cons.mp hx with rfl | hx
  ·trivial
  ·rw [List.mem_singleton.mp hx];trivial
theorem zds (c:Ct){n:Nat}:spl (n+4) (shC c):=by
 cases c with
 | bare t=>trivial
 | quoted t=>trivial
 | row ts=>intro x hx;obtain⟨_,_,rfl⟩:=List.mem_map.mp hx;trivial
 | talk ps=>intro x hx;obtain⟨p,_,rfl⟩:=List.mem_map.mp hx;exact zdq p
theorem zdt {c:Ct}(h:GoodC c){n:Nat}:pln (n+4) (strip (shC c)):=by
 cases c with
 | bare t=>trivial
 | quoted t=>trivial
 | row ts=>
  refine⟨by rw [j4,List.length_map];have:=h.2.1;omega,fun x hx=>?_⟩
  rw [qd,List.map_map] at hx
  obtain⟨_,_,rfl⟩:=List.mem_map.mp hx
  trivial
 | talk ps=>
  refine⟨by rw [j4,List.length_map];have:=h.1;omega,fun x hx=>?_⟩
  rw [qd,List.map_map] at hx
  obtain⟨p,_,rfl⟩:=List.mem_map.mp hx
  exact zdr p
theorem zdu (r:Rw):spl 8 (shR r):=by
 cases r with
 | text t=>
  intro x hx
  rcases List.mem_cons.mp hx with rfl | hx
  ·trivial
  ·rw [List.mem_singleton.mp hx];trivial
 | out=>exact fun x hx=>⟨[111,117,116],List.mem_singleton.mp hx,by rw [List.mem_singleton.mp hx];trivial⟩
 | box nm as=>
  intro x hx
  rcases List.mem_cons.mp hx with rfl | hx
  ·trivial
  ·rcases List.mem_cons.mp hx with rfl | hx
   ·trivial
   ·rw [List.mem_singleton.mp hx]
    intro x hx
    obtain⟨a,_,rfl⟩:=List.mem_map.mp hx
    intro x hx
    rcases List.mem_cons.mp hx with rfl | hx
    ·trivial
    ·rcases List.mem_cons.mp hx with rfl | hx
     ·trivial
     ·rw [List.mem_singleton.mp hx];exact zds (n:=1) a.2
theorem zdv {r:Rw}(h:GoodR r):pln 8 (strip (shR r)):=by
 cases r with
 | text t=>
  refine⟨by show 2<=_;omega,fun x hx=>?_⟩
  rcases List.mem_cons.mp hx with rfl | hx
  ·trivial
  ·rw [List.mem_singleton.mp hx];trivial
 | out=>
  refine⟨by show 1<=_;omega,fun x hx=>?_⟩
  rw [List.mem_singleton.mp hx];trivial
 | box nm as=>
  obtain⟨h1,h2,h3⟩:=h
  refine⟨by show 3<=_;omega,fun x hx=>?_⟩
  rcases List.mem_cons.mp hx with rfl | hx
  ·trivial
  ·rcases List.mem_cons.mp hx with rfl | hx
   ·trivial
   ·rw [List.mem_singleton.mp hx]
    refine⟨by rw [j4,List.length_map];omega,fun x hx=>?_⟩
    rw [qd,List.map_map] at hx
    obtain⟨a,ha,rfl⟩:=List.mem_map.mp hx
    refine⟨by show 3<=_;omega,fun x hx=>?_⟩
    rcases List.mem_cons.mp hx with rfl | hx
    ·trivial
    ·rcases List.mem_cons.mp hx with rfl | hx
     ·trivial
     ·rw [List.mem_singleton.mp hx];exact zdt (n:=1) (h3 a ha).2
theorem vq:∀ {ts:List T},(∀ t∈ts,cln t=true)->clns ts=true
 | [],_=>rfl
 | t::ts,h=>by simp only [clns,h t List.mem_cons_self,Bool.true_and];exact vq fun u hu=>h u (List.mem_cons_of_mem _ hu)
theorem zdw (c:Ct):cln (shC c)=true:=by
 cases c with
 | bare t=>rfl
 | quoted t=>rfl
 | row ts=>exact vq fun x hx=>by obtain⟨_,_,rfl⟩:=List.mem_map.mp hx;rfl
 | talk ps=>exact vq fun x hx=>by obtain⟨⟨w,t⟩,_,rfl⟩:=List.mem_map.mp hx;cases w<;>rfl
theorem zdx (r:Rw):cln (shR r)=true:=by
 cases r with
 | text t=>rfl
 | out=>rfl
 | box nm as=>
  have:clns (as.map shA)=true:=vq fun x hx=>by
   obtain⟨a,_,rfl⟩:=List.mem_map.mp hx
   show(true&&(true&&(cln (shC a.2)&&true)))=true
   rw [zdw];rfl
  show(true&&(true&&(clns (as.map shA)&&true)))=true
  rw [this];rfl
end
section
variable {Q:T->List T->Prop} {X:Exn->List T->Prop}
def EvT (es:List T):Prop:=∀ e∈es,∃ ws:List (List Nat),e=.tp (ws.map .str)
theorem EvT.app {xs ys:List T}(h:EvT xs)(h':EvT ys):EvT (xs++ys):=fun e he=>(List.mem_append.mp he).elim (h e) (h' e)
theorem EvT.cons {e:T}{ys:List T}(h:∃ ws:List (List Nat),e=.tp (ws.map .str))(h':EvT ys):EvT (e::ys):=fun e' he=>by
 rcases List.mem_cons.mp he with rfl | z
 ·exact h
 ·exact h' _ z
theorem EvT.flat {α:Type}{f:α->List T}(h:∀ a,EvT (f a))(as:List α):EvT (as.flatMap f):=fun e he=>by
 obtain⟨a,_,h2⟩:=List.mem_flatMap.mp he
 exact h a e h2
theorem EvT.nil:EvT []:=nofun
theorem Q3 (t:List Nat):EvT (evS t):=fun e he=>by
 obtain⟨c,_,rfl⟩:=List.mem_map.mp he
 exact⟨[[115,105,103,110],[c]],rfl⟩
theorem zhS (c:Ct):EvT (evC c):=by
 cases c with
 | bare t=>exact Q3 t
 | quoted t=>exact Q3 t
 | row ts=>
  cases ts with
  | nil=>exact nofun
  | cons t ts=>exact(Q3 t).app (EvT.flat (fun u=>.cons ⟨[[110,101,120,116]],rfl⟩ (Q3 u)) ts)
 | talk ps=>exact EvT.flat (fun p=>.cons ⟨[if p.1=true then [119,111,114,100] else [115,97,105,100]],rfl⟩ (Q3 p.2)) ps
theorem zhT (a:List Nat×Ct):EvT (evA a):=.cons ⟨[[97,116,116,114],a.1,kd a.2],rfl⟩ (zhS a.2)
theorem zhU (r:Rw):EvT (evR r):=by
 cases r with
 | text t=>exact Q3 t
 | out=>exact .cons ⟨[[111,117,116]],rfl⟩ EvT.nil
 | box nm as=>exact .cons ⟨[[98,111,120],nm],rfl⟩ ((EvT.flat zhT as).app (.cons ⟨[[105,110]],rfl⟩ EvT.nil))
theorem Q5:∀ os:List (List Nat),wj (os.map fun t=>Dat.fl (.str (S t)))=true
 | []=>rfl
 | t::os=>by
  show(_&&wj (os.map fun t=>Dat.fl (.str (S t))))=true
  rw [Q5 os];rfl
theorem zb0:∀ {es:List T},EvT es->∃ ds,wD es=some ds/\xC ds<=1/\wj ds=true
 | [],_=>⟨[],rfl,Nat.zero_le _,rfl⟩
 | e::es,h=>by
  obtain⟨ds,h1,h2,h3⟩:=zb0 (es:=es) fun e he=>h e (List.mem_cons_of_mem _ he)
  obtain⟨ws,rfl⟩:=h e List.mem_cons_self
  refine⟨.tp (ws.map fun t=>Dat.fl (.str (S t)))::ds,?_,?_,?_⟩
  ·show two ((wD (ws.map .str)).map Dat.tp) (wD es) _=_
   rw [ZZ,h1];rfl
  ·show max (xC (ws.map fun t=>Dat.fl (.str (S t)))+1) (xC ds)<=1
   rw [Z0];omega
  ·show(wj (ws.map fun t=>Dat.fl (.str (S t)))&&wj ds)=true
   rw [Q5,h3];rfl
theorem zdy {es:List T}(h:EvT es):cmpO .ne (.fz (.ls es)) (.fz (.ls es))=some false:=by
 obtain⟨ds,h1,h2,h3⟩:=zb0 h
 show(orE none (if (cont (.fz (.ls es))&&cont (.fz (.ls es)))=true then two ((wD es).map Dat.ls) ((wD es).map Dat.ls) _ else none)).map _=_
 rw [h1]
 show((if xC ds+1<=50 then some (eqD (.ls ds) (.ls ds)) else none).map _)=_
 rw [if_pos (by omega),We (d:=.ls ds) h3]
 rfl
theorem zdz {ns:List Int}:fnD [.fz] 8 Yl [.ks true (ns.map .int)] (fun t _=>t=.bl true) (fun _ _=>False):=by
 unfold fnD Yl
 refine⟨rfl,?_⟩
 walk_at "go"
 refine zbL fun st hs=>⟨nofun,?_⟩
 walk_at "go"
 refine zdd hs (by omega) (by omega) fun t0 ss rt st' ht0 hr hrt hsh hsl=>⟨nofun,?_⟩
 have hf:fzn (.ls rt)=.fz (.ls ((zk t0 ss).map trR)):=by show T.fz (.ls (zb rt))=_;rw [hrt]
 rw [hf]
 have hss:∀ s∈ss,Yu s:=fun s hs r hr'=>hr.good r (List.mem_flatMap.mpr ⟨s,hs,hr'⟩)
 have hg:∀ r∈zk t0 ss,GoodR r:=fun r hr'=>by
  rcases List.mem_cons.mp hr' with rfl | z
  ·exact ht0
  ·exact hr.good r z
 have hl:(zk t0 ss).length<=500:=by unfold zk;rw [List.length_cons,zez];omega
 have hE:EvT ((zk t0 ss).flatMap evR):=EvT.flat zhU _
 have hEL:EvL ((zk t0 ss).flatMap evR):=fun e he=>by
  obtain⟨r,_,h⟩:=List.mem_flatMap.mp he
  exact zeu r e h
 have fR:∀ r,strip (trR r)=trR r:=fun r=>by
  cases r with
  | text t=>rfl
  | out=>rfl
  | box nm as=>show T.tp [.str _,.str _,.ls (zb (as.map trA))]=_;rw [zr xw];rfl
 have fpg:fzn (.fz (.ls ((zk t0 ss).map trR)))=.fz (.ls ((zk t0 ss).map trR)):=by
  show T.fz (.ls (zb _))=_
  rw [zr fR]
 have fo:fzn (.ls ((zk t0 ss).map oR))=.fz (.ls ((zk t0 ss).map trR)):=by
  show T.fz (.ls (zb _))=_
  rw [qd,List.map_map]
  congr 2
  exact List.map_congr_left fun r _=>by
   cases r with
   | text t=>rfl
   | out=>rfl
   | box nm as=>exact fR (.box nm as)
 walk_at "go"
 rw [fpg]
 refine Km hg hl fun es hes hesh=>⟨nofun,?_⟩
 have hfe:fzn (.ls es)=.fz (.ls ((zk t0 ss).flatMap evR)):=by show T.fz (.ls (zb es))=_;rw [hes]
 rw [hfe]
 have ebl:biO .list [.fz (.ls ((zk t0 ss).flatMap evR))]=some (.ls (((zk t0 ss).flatMap evR).map fzi)):=by
  show orE ((shO (some _)).map _) _=_
  rw [jq fun t ht=>by obtain⟨e,he,rfl⟩:=List.mem_map.mp ht;obtain⟨xs,rfl,_⟩:=hEL e he;rfl]
  rfl
 have fh:fzn (.ls (((zk t0 ss).flatMap evR).map fzi))=.fz (.ls ((zk t0 ss).flatMap evR)):=by
  show T.fz (.ls (zb _))=_
  rw [hEL.fzi]
 have fE:fzn (.fz (.ls ((zk t0 ss).flatMap evR)))=.fz (.ls ((zk t0 ss).flatMap evR)):=by
  show T.fz (.ls (zb _))=_
  rw [hEL.strip]
 have ene:=zdy hE
 have hpl:pln 9 (.ls ((zk t0 ss).map trR)):=⟨by rw [List.length_map];omega,fun x hx=>by
  obtain⟨r,hr',rfl⟩:=List.mem_map.mp hx
  exact zbZ (n:=2) (hg r hr')⟩
 have hps:pln 9 (.ls (((zk t0 ss).map shR).map strip)):=⟨by rw [List.length_map,List.length_map];omega,fun x hx=>by
  rw [List.map_map] at hx
  obtain⟨r,hr',rfl⟩:=List.mem_map.mp hx
  exact zdv (hg r hr')⟩
 have fs:fzn (.ls ((zk t0 ss).map shR))=.fz (.ls (((zk t0 ss).map shR).map strip)):=by
  show T.fz (.ls (zb _))=_
  rw [qd]
 have so:spl 9 (.ls ((zk t0 ss).map oR)):=fun x hx=>by
  obtain⟨r,hr',rfl⟩:=List.mem_map.mp hx
  exact zhR (hg r hr')
 have sh:spl 9 (.ls ((zk t0 ss).map shR)):=fun x hx=>by
  obtain⟨r,hr',rfl⟩:=List.mem_map.mp hx
  exact zdu r
 have cs:cln (.ls ((zk t0 ss).map shR))=true:=vq fun x hx=>by
  obtain⟨r,_,rfl⟩:=List.mem_map.mp hx
  exact zdx r
 have Hpage:∀ {Q:T->List T->Prop} {X:Exn->List T->Prop},Q (.ls ((zk t0 ss).map oR)) [.non]->qI [.fz (.ls ((zk t0 ss).flatMap evR))] Q X:=fun q=>X8 hss ht0 hsl q
 have Hisp:∀ {Q:T->List T->Prop} {X:Exn->List T->Prop},Q (.bl true) [.non]->qU [.fz (.ls ((zk t0 ss).map trR))] Q X:=fun q=>Ks ht0 hr hsl q
 have Hsh:∀ {Q:T->List T->Prop} {X:Exn->List T->Prop},Q (.ls ((zk t0 ss).map shR)) [.non]->qg [.fz (.ls ((zk t0 ss).map trR))] Q X:=fun q=>zbY hg hl q
 have Hls:∀ {Q:T->List T->Prop} {X:Exn->List T->Prop},Q (.ls ((zk t0 ss).map shR)) [.non]->zQ [.fz (.ls ((zk t0 ss).map trR))] Q X:=fun q=>Xc hg hl q
 have Hs1:∀ {Q:T->List T->Prop} {X:Exn->List T->Prop},Q (.bl true) [.non,.non]->zl 9 [.fz (.ls ((zk t0 ss).map trR)),.fz (.ls ((zk t0 ss).map trR))] Q X:=fun q=>Ze hpl q
 have Hs2:∀ {Q:T->List T->Prop} {X:Exn->List T->Prop},Q (.bl true) [.non,.non]->zl 9 [.fz (.ls (((zk t0 ss).map shR).map strip)),.fz (.ls (((zk t0 ss).map shR).map strip))] Q X:=fun q=>Ze hps q
 clear hss hg hl hE hEL fR hpl hps hrt hsh hes hesh hf hfe hr hsl
 generalize zk t0 ss=rs at *
 generalize hA:T.ls (rs.map oR)=A at *
 generalize hB:T.ls (rs.map shR)=B at *
 generalize hE:rs.flatMap evR=E at *
 generalize hP:rs.map trR=P at *
 clear hA hB hE hP
 generalize T.ks true (ns.map .int)=N at *
 show WSs _ [.own N,.own st',.own (.fz (.ls P)),.own (.fz (.ls E)),.no,.no,.no,.no] _
 iterate 3 walk_at "w1"
 rw [fh]
 show WSs _ [.own N,.own st',.own (.fz (.ls P)),.own (.fz (.ls E)),.own (.fz (.ls E)),.no,.no,.no] _
 walk_at "go"
 rw [fE]
 refine Hpage ⟨nofun,?_⟩
 show WSs _ [.own N,.own st',.own (.fz (.ls P)),.own (.fz (.ls E)),.own (.fz (.ls E)),.own A,.no,.no] _
 walk_at "go"
 rw [fo,fpg]
 refine Hs1 ⟨fun _=>rfl,?_⟩
 walk_at "go"
 refine vp so fun A'=>⟨nofun,?_⟩
 show WSs _ [.own N,.own st',.own (.fz (.ls P)),.own (.fz (.ls E)),.own (.fz (.ls E)),.own A',.no,.no] _
 walk_at "go"
 rw [fE]
 refine Hpage ⟨nofun,?_⟩
 show WSs _ [.own N,.own st',.own (.fz (.ls P)),.own (.fz (.ls E)),.own (.fz (.ls E)),.own A',.own A,.no] _
 walk_at "go"
 rw [fo,fpg]
 refine Hs1 ⟨fun _=>rfl,?_⟩
 walk_at "go"
 rw [fo]
 refine Hisp ⟨fun _=>rfl,?_⟩
 have ei:cmpO .isnot (.bl true) (.bl true)=some false:=rfl
 walk_at "go"
 rw [fo]
 refine Hsh ⟨fun _=>cs,?_⟩
 show WSs _ [.own N,.own st',.own (.fz (.ls P)),.own (.fz (.ls E)),.own (.fz (.ls E)),.own A',.own A,.own B] _
 walk_at "go"
 rw [fpg]
 refine Hls ⟨nofun,?_⟩
 walk_at "go"
 rw [fs]
 refine Hs2 ⟨fun _=>rfl,?_⟩
 walk_at "go"
 refine vp sh fun B'=>⟨nofun,?_⟩
 show WSs _ [.own N,.own st',.own (.fz (.ls P)),.own (.fz (.ls E)),.own (.fz (.ls E)),.own A',.own A,.own B'] _
 walk_at "go"
 rw [fo,fpg]
 refine Hs1 ⟨fun _=>rfl,?_⟩
 walk_at "go"
 rw [fo]
 refine Hsh ⟨fun _=>cs,?_⟩
 walk_at "go"
 rw [fpg]
 refine Hls ⟨nofun,?_⟩
 walk_at "go"
 rw [fs]
 refine Hs2 ⟨nofun,?_⟩
 walk_at "go"
 rfl
end
end My
namespace My
open PySem L2 L4 PySem.Spec PyProof.Rows
structure Txt (mg:Str->Option Value):Prop where
 g_SIGNS:∃ u,mg "SIGNS" = some u/\RelV (.str (S [32,33,34,35,36,38,39,40,41,42,43,44,45,46,47,48,49,50,51,52,53,54,55,56,57,58,59,60,61,62,63,64,65,66,67,68,69,70,71,72,73,74,75,76,77,78,79,80,81,82,83,84,85,86,87,88,89,90,91,92,93,94,95,96,97,98,99,100,101,102,103,104,105,106,107,108,109,110,111,112,113,114,115,116,117,118,119,120,121,122,123,124,125,126])) u
 g_LETTERS:∃ u,mg "LETTERS" = some u/\RelV (.str (S [97,98,99,100,101,102,103,104,105,106,107,108,109,110,111,112,113,114,115,116,117,118,119,120,121,122])) u
 g_LONGEST_NAME:∃ u,mg "LONGEST_NAME" = some u/\RelV (.int 8) u
 g_WORDSIGNS:∃ u,mg "WORDSIGNS" = some u/\RelV (.str (S [97,98,99,100,101,102,103,104,105,106,107,108,109,110,111,112,113,114,115,116,117,118,119,120,121,122,48,49,50,51,52,53,54,55,56,57,45])) u
 g_ASIS_END:∃ u,mg "ASIS_END" = some u/\RelV (.str (S [60,47,97,115,105,115,62])) u
 z_all:mg "all" = none
 z_enumerate:mg "enumerate" = none
 z_int:mg "int" = none
 z_isinstance:mg "isinstance" = none
 z_len:mg "len" = none
 z_list:mg "list" = none
 z_range:mg "range" = none
 z_str:mg "str" = none
 z_tuple:mg "tuple" = none
noncomputable abbrev JR (K:PySem.W.Frag):Sp:=zei K
noncomputable def wd (K:PySem.W.Frag)(mg:Str->Option Value):Wd:=⟨K,fun _=>0,mg⟩
section
variable {P:Program} {w:World} {K:PySem.W.Frag} {mg:Str->Option Value} {base:Heap}
theorem zb1 {W:Wd}{k:Nat}{x:Str}{st:Stmt}{ps N:List Str}{ms:List Md}(D:Df W.K mg x st ps)(Sc:zj N ps (za st))(hn:ms.length=ps.length):OkX P w W.K mg base (k+1) x ps (SpM W ms fun _ _ _=>False):=
 D.okX Sc (fun vs H Q E h=>h.1.trans hn) (fun f cdv A outer s H vs Q E hr h=>by
  obtain⟨hl,F,ts,B,Q4,X4,gF,tr,nd,fr,po,q,x⟩:=h
  exact po.elim)
theorem zb2 {k:Nat}(T:Txt mg):(Gam P w mg base (wd K mg) k).G "SIGNS" g_SIGNS:=⟨(.str (S [32,33,34,35,36,38,39,40,41,42,43,44,45,46,47,48,49,50,51,52,53,54,55,56,57,58,59,60,61,62,63,64,65,66,67,68,69,70,71,72,73,74,75,76,77,78,79,80,81,82,83,84,85,86,87,88,89,90,91,92,93,94,95,96,97,98,99,100,101,102,103,104,105,106,107,108,109,110,111,112,113,114,115,116,117,118,119,120,121,122,123,124,125,126])),fun _ _=>⟨rfl,rfl,by decide⟩,T.g_SIGNS⟩
theorem Ve {k:Nat}(T:Txt mg):(Gam P w mg base (wd K mg) k).G "LETTERS" g_LETTERS:=⟨(.str (S [97,98,99,100,101,102,103,104,105,106,107,108,109,110,111,112,113,114,115,116,117,118,119,120,121,122])),fun _ _=>⟨rfl,rfl,by decide⟩,T.g_LETTERS⟩
theorem kX {k:Nat}(T:Txt mg):(Gam P w mg base (wd K mg) k).G "LONGEST_NAME" g_LONGEST_NAME:=⟨(.int 8),fun _ _=>⟨rfl,rfl⟩,T.g_LONGEST_NAME⟩
theorem JS {k:Nat}(T:Txt mg):(Gam P w mg base (wd K mg) k).G "WORDSIGNS" g_WORDSIGNS:=⟨(.str (S [97,98,99,100,101,102,103,104,105,106,107,108,109,110,111,112,113,114,115,116,117,118,119,120,121,122,48,49,50,51,52,53,54,55,56,57,45])),fun _ _=>⟨rfl,rfl,by decide⟩,T.g_WORDSIGNS⟩
theorem Xd {k:Nat}(T:Txt mg):(Gam P w mg base (wd K mg) k).G "ASIS_END" g_ASIS_END:=⟨(.str (S [60,47,97,115,105,115,62])),fun _ _=>⟨rfl,rfl,by decide⟩,T.g_ASIS_END⟩
local macro_rules | `(tactic| walk_at "need") => `(tactic| repeat' (first | exact trivial | (refine ⟨_, _, ?_, by assumption⟩; omega) | exact Txt.z_all (by assumption) | exact Txt.z_enumerate (by assumption) | exact Txt.z_int (by assumption) | exact Txt.z_isinstance (by assumption) | exact Txt.z_len (by assumption) | exact Txt.z_list (by assumption) | exact Txt.z_range (by assumption) | exact Txt.z_str (by assumption) | exact Txt.z_tuple (by assumption) | exact zb2 (by assumption) | exact Ve (by assumption) | exact kX (by assumption) | exact JS (by assumption) | exact Xd (by assumption) | exact fun h => absurd rfl h | (refine List.forall_mem_cons.mpr ⟨?_, ?_⟩) | exact List.forall_mem_nil _ | refine ⟨?_, ?_⟩ | intro _))
section
variable (P:Program) (w:World) (K:PySem.W.Frag) (mg:Str->Option Value) (base:Heap)
abbrev qK:=OkX P w K mg base 1 "is_tuple_of" jc (SpM (wd K mg) [.fz,.fz,.fz] zp)
abbrev yO:=OkX P w K mg base 1 "is_name" wW (SpM (wd K mg) [.fz] qH)
abbrev vt:=OkX P w K mg base 1 "is_text" wX (SpM (wd K mg) [.fz] zV)
abbrev Z4:=OkX P w K mg base 1 "is_word" wY (SpM (wd K mg) [.fz] jm)
abbrev yf:=OkX P w K mg base 2 "is_talked" jO (SpM (wd K mg) [.fz] qx)
abbrev vv:=OkX P w K mg base 3 "is_content" jr (SpM (wd K mg) [.fz,.fz] qe)
abbrev Z5:=OkX P w K mg base 4 "is_attr" w6 (SpM (wd K mg) [.fz] jn)
abbrev vw:=OkX P w K mg base 5 "is_box_row" js (SpM (wd K mg) [.fz] zP)
abbrev xx:=OkX P w K mg base 2 "is_text_row" jd (SpM (wd K mg) [.fz,.fz] z0)
abbrev xy:=OkX P w K mg base 6 "first_fault" je (SpM (wd K mg) [.fz] z6)
abbrev Z6:=OkX P w K mg base 7 "is_page" xb (SpM (wd K mg) [.fz] qU)
abbrev vy:=OkX P w K mg base 1 "with_texts" jt (SpM (wd K mg) [.fz] qf)
abbrev j7:=OkX P w K mg base 1 "begun_content" qD (SpM (wd K mg) [.fz,.fz] zK)
abbrev Z7:=OkX P w K mg base 2 "page_of" xf (SpM (wd K mg) [.fz] qI)
abbrev j8:=OkX P w K mg base 1 "content_shape" qE (SpM (wd K mg) [.fz,.fz] zL)
abbrev yg:=OkX P w K mg base 2 "row_shape" jP (SpM (wd K mg) [.fz] qy)
abbrev kA:=OkX P w K mg base 3 "shape_of" wc (SpM (wd K mg) [.fz] qg)
abbrev vA:=OkX P w K mg base 1 "_law_state" ju (SpM (wd K mg) [.fz] qh)
abbrev jC:=OkX P w K mg base 1 "_law_mixed" jv (SpM (wd K mg) [.fz,.fz] zv)
abbrev qC:=OkX P w K mg base 2 "_law_next" jQ (SpM (wd K mg) [.mu,.fz] zf)
abbrev qV:=OkX P w K mg base 3 "_law_signs" jw (SpM (wd K mg) [.mu,.fz] zt)
abbrev xA:=OkX P w K mg base 3 "_law_name" jR (SpM (wd K mg) [.mu] zY)
abbrev vB:=OkX P w K mg base 4 "_law_piece" jx (SpM (wd K mg) [.mu] qj)
abbrev yh:=OkX P w K mg base 5 "_law_attr" jS (SpM (wd K mg) [.mu] qz)
abbrev kB:=OkX P w K mg base 6 "_law_box" we (SpM (wd K mg) [.mu,.mu,.mu] qS)
abbrev yi:=OkX P w K mg base 7 "_law_page" jT (SpM (wd K mg) [.mu,.fz] qA)
abbrev Z8:=OkX P w K mg base 10 "_law_same" qF (SpM (wd K mg) [.fz,.fz] (zl 9))
abbrev kQ:=OkX P w K mg base 10 "_law_spill" qo (SpM (wd K mg) [.mu] (ze 9))
abbrev jg:=OkX P w K mg base 1 "_law_attr_events" z8 (SpM (wd K mg) [.fz] zg)
abbrev xB:=OkX P w K mg base 2 "_law_events" jf (SpM (wd K mg) [.fz] z7)
abbrev yP:=OkX P w K mg base 10 "_law_shaped" qa (SpM (wd K mg) [.fz] (zh 9))
abbrev vC:=OkX P w K mg base 11 "_law_shape" jy (SpM (wd K mg) [.fz] zQ)
end
theorem Z9 (T:Txt mg)(D:Df K mg "is_tuple_of" wq jc):qK P w K mg base:=by
 unfold qK zp
 exact zR (W:=wd K mg) (k:=0) D ZV (by decide +kernel) (by decide) rfl (by decide) (by unfold wy;walk_at "need")
theorem Vf (T:Txt mg)(D:Df K mg "is_name" ka wW):yO P w K mg base:=by
 unfold yO qH
 exact zR (W:=wd K mg) (k:=0) D XZ (by decide +kernel) (by decide) rfl (by decide) (by unfold kj;walk_at "need")
theorem Vg (T:Txt mg)(D:Df K mg "is_text" kb wX):vt P w K mg base:=by
 unfold vt zV
 exact zR (W:=wd K mg) (k:=0) D X0 (by decide +kernel) (by decide) rfl (by decide) (by unfold kl;walk_at "need")
theorem Vh (T:Txt mg)(D:Df K mg "is_word" kc wY):Z4 P w K mg base:=by
 unfold Z4 jm
 exact zR (W:=wd K mg) (k:=0) D X1 (by decide +kernel) (by decide) rfl (by decide) (by unfold km;walk_at "need")
theorem JT (T:Txt mg)(D:Df K mg "is_talked" xS jO)(F1:vt P w K mg base)(F2:qK P w K mg base)(F3:Z4 P w K mg base):yf P w K mg base:=by
 unfold yf qx
 exact zR (W:=wd K mg) (k:=1) D Jz (by decide +kernel) (by decide) rfl (by decide) (by unfold xZ;walk_at "need")
theorem Qs (T:Txt mg)(D:Df K mg "is_content" wZ jr)(F1:vt P w K mg base)(F2:yf P w K mg base):vv P w K mg base:=by
 unfold vv qe
 exact zR (W:=wd K mg) (k:=2) D Qg (by decide +kernel) (by decide) rfl (by decide) (by unfold xm;walk_at "need")
theorem Vi (T:Txt mg)(D:Df K mg "is_attr" ke w6)(F1:yO P w K mg base)(F2:vv P w K mg base):Z5 P w K mg base:=by
 unfold Z5 jn
 exact zR (W:=wd K mg) (k:=3) D X2 (by decide +kernel) (by decide) rfl (by decide) (by unfold kn;walk_at "need")
theorem Qt (T:Txt mg)(D:Df K mg "is_box_row" xa js)(F1:yO P w K mg base)(F2:qK P w K mg base)(F3:Z5 P w K mg base):vw P w K mg base:=by
 unfold vw zP
 exact zR (W:=wd K mg) (k:=4) D Qh (by decide +kernel) (by decide) rfl (by decide) (by unfold jU;walk_at "need")
theorem Qa (T:Txt mg)(D:Df K mg "is_text_row" wt jd)(F1:vt P w K mg base)(F2:qK P w K mg base):xx P w K mg base:=by
 unfold xx z0
 exact zR (W:=wd K mg) (k:=1) D ZW (by decide +kernel) (by decide) rfl (by decide) (by unfold wz;walk_at "need")
theorem Qb (T:Txt mg)(D:Df K mg "first_fault" wu je)(F1:qK P w K mg base)(F2:vw P w K mg base)(F3:xx P w K mg base):xy P w K mg base:=by
 unfold xy z6
 exact zR (W:=wd K mg) (k:=5) D ZX (by decide +kernel) (by decide) rfl (by decide) (by unfold z5;walk_at "need")
theorem Vj (T:Txt mg)(D:Df K mg "is_page" kf xb)(F1:xy P w K mg base):Z6 P w K mg base:=by
 unfold Z6 qU
 exact zR (W:=wd K mg) (k:=6) D X3 (by decide +kernel) (by decide) rfl (by decide) (by unfold ko;walk_at "need")
theorem Qu (T:Txt mg)(D:Df K mg "with_texts" xc jt):vy P w K mg base:=by
 unfold vy qf
 exact zR (W:=wd K mg) (k:=0) D Qk (by decide +kernel) (by decide) rfl (by decide) (by unfold xn;walk_at "need")
theorem kC (T:Txt mg)(D:Df K mg "begun_content" jF qD):j7 P w K mg base:=by
 unfold j7 zK
 exact zR (W:=wd K mg) (k:=0) D kg (by decide +kernel) (by decide) rfl (by decide) (by unfold jH;walk_at "need")
theorem Vk (T:Txt mg)(D:Df K mg "page_of" kh xf)(F1:vy P w K mg base)(F2:j7 P w K mg base):Z7 P w K mg base:=by
 unfold Z7 qI
 exact zR (W:=wd K mg) (k:=1) D X5 (by decide +kernel) (by decide) rfl (by decide) (by unfold qq;walk_at "need")
theorem kD (T:Txt mg)(D:Df K mg "content_shape" jG qE):j8 P w K mg base:=by
 unfold j8 zL
 exact zR (W:=wd K mg) (k:=0) D ki (by decide +kernel) (by decide) rfl (by decide) (by unfold jI;walk_at "need")
theorem JU (T:Txt mg)(D:Df K mg "row_shape" xT jP)(F1:j8 P w K mg base):yg P w K mg base:=by
 unfold yg qy
 exact zR (W:=wd K mg) (k:=1) D JD (by decide +kernel) (by decide) rfl (by decide) (by unfold ve;walk_at "need")
theorem Xe (T:Txt mg)(D:Df K mg "shape_of" v9 wc)(F1:yg P w K mg base):kA P w K mg base:=by
 unfold kA qg
 exact zR (W:=wd K mg) (k:=2) D WQ (by decide +kernel) (by decide) rfl (by decide) (by unfold yc;walk_at "need")
theorem JV (T:Txt mg)(D:Df K mg "_law_state" xg ju):vA P w K mg base:=by
 unfold vA qh
 exact zR (W:=wd K mg) (k:=0) D Ql (by decide +kernel) (by decide) rfl (by decide) (by unfold xo;walk_at "need")
theorem JW (T:Txt mg)(D:Df K mg "_law_mixed" xh jv):jC P w K mg base:=by
 unfold jC zv
 exact zR (W:=wd K mg) (k:=0) D Qm (by decide +kernel) (by decide) rfl (by decide) (by unfold xp;walk_at "need")
theorem Xf (T:Txt mg)(D:Df K mg "_law_next" xU jQ)(F1:jC P w K mg base):qC P w K mg base:=by
 unfold qC zf
 exact zR (W:=wd K mg) (k:=1) D JG (by decide +kernel) (by decide) rfl (by decide) (by unfold vf;walk_at "need")
theorem JX (T:Txt mg)(D:Df K mg "_law_signs" xi jw)(F1:qC P w K mg base):qV P w K mg base:=by
 unfold qV zt
 exact zR (W:=wd K mg) (k:=2) D Qn (by decide +kernel) (by decide) rfl (by decide) (by unfold xq;walk_at "need")
theorem Xg (T:Txt mg)(D:Df K mg "_law_name" xV jR)(F1:jC P w K mg base)(F2:qC P w K mg base):xA P w K mg base:=by
 unfold xA zY
 exact zR (W:=wd K mg) (k:=2) D JI (by decide +kernel) (by decide) rfl (by decide) (by unfold vg;walk_at "need")
theorem JY (T:Txt mg)(D:Df K mg "_law_piece" xj jx)(F1:jC P w K mg base)(F2:qC P w K mg base)(F3:qV P w K mg base):vB P w K mg base:=by
 unfold vB qj
 exact zR (W:=wd K mg) (k:=3) D Qo (by decide +kernel) (by decide) rfl (by decide) (by unfold xt;walk_at "need")
theorem Xh (T:Txt mg)(D:Df K mg "_law_attr" xW jS)(F1:qC P w K mg base)(F2:qV P w K mg base)(F3:xA P w K mg base)(F4:vB P w K mg base):yh P w K mg base:=by
 unfold yh qz
 exact zR (W:=wd K mg) (k:=4) D JK (by decide +kernel) (by decide) rfl (by decide) (by unfold vh;walk_at "need")
theorem Vl (T:Txt mg)(D:Df K mg "_law_box" ya we)(F1:qC P w K mg base)(F2:qV P w K mg base)(F3:xA P w K mg base)(F4:yh P w K mg base):kB P w K mg base:=by
 unfold kB qS
 exact zR (W:=wd K mg) (k:=5) D WW (by decide +kernel) (by decide) rfl (by decide) (by unfold j5;walk_at "need")
theorem Xi (T:Txt mg)(D:Df K mg "_law_page" xX jT)(F1:qC P w K mg base)(F2:qV P w K mg base)(F3:kB P w K mg base):yi P w K mg base:=by
 unfold yi qA
 exact zR (W:=wd K mg) (k:=6) D JL (by decide +kernel) (by decide) rfl (by decide) (by unfold vi;walk_at "need")
theorem vW (T:Txt mg)(D:Df K mg "_law_same" qT qF):∀ n,OkX P w K mg base (n+1) "_law_same" qF (SpM (wd K mg) [.fz,.fz] (zl n))
 | 0=>by rw [zl];exact zb1 (W:=wd K mg) D yJ rfl
 | n+1=>by
  have Fr:=vW T D n
  rw [zl]
  exact zR (W:=wd K mg) (k:=n+1) D yJ WY rfl rfl (by decide) (by unfold qB;walk_at "need")
theorem Xj (T:Txt mg)(D:Df K mg "_law_same" qT qF):Z8 P w K mg base:=vW T D 9
theorem vD (T:Txt mg)(D:Df K mg "_law_spill" qG qo):∀ n,OkX P w K mg base (n+1) "_law_spill" qo (SpM (wd K mg) [.mu] (ze n))
 | 0=>by rw [ze];exact zb1 (W:=wd K mg) D vU rfl
 | n+1=>by
  have Fr:=vD T D n
  rw [ze]
  exact zR (W:=wd K mg) (k:=n+1) D vU JO rfl rfl (by decide) (by unfold zG;walk_at "need")
theorem JZ (T:Txt mg)(D:Df K mg "_law_spill" qG qo):kQ P w K mg base:=vD T D 9
theorem yj (T:Txt mg)(D:Df K mg "_law_attr_events" qR z8):jg P w K mg base:=by
 unfold jg zg
 exact zR (W:=wd K mg) (k:=0) D vO (by decide +kernel) (by decide) rfl (by decide) (by unfold zS;walk_at "need")
theorem Qv (T:Txt mg)(D:Df K mg "_law_events" wx jf)(F1:jg P w K mg base):xB P w K mg base:=by
 unfold xB z7
 exact zR (W:=wd K mg) (k:=1) D ZY (by decide +kernel) (by decide) rfl (by decide) (by unfold wA;walk_at "need")
theorem xE (T:Txt mg)(D:Df K mg "_law_shaped" qp qa):∀ n,OkX P w K mg base (n+1) "_law_shaped" qa (SpM (wd K mg) [.fz] (zh n))
 | 0=>by rw [zh];exact zb1 (W:=wd K mg) D xY rfl
 | n+1=>by
  have Fr:=xE T D n
  rw [zh]
  exact zR (W:=wd K mg) (k:=n+1) D xY Qr rfl rfl (by decide) (by unfold zD;walk_at "need")
theorem Qw (T:Txt mg)(D:Df K mg "_law_shaped" qp qa):yP P w K mg base:=xE T D 9
theorem J0 (T:Txt mg)(D:Df K mg "_law_shape" xl jy)(F1:yP P w K mg base):vC P w K mg base:=by
 unfold vC zQ
 exact zR (W:=wd K mg) (k:=10) D Qq (by decide +kernel) (by decide) rfl (by decide) (by unfold xu;walk_at "need")
theorem zgh (T:Txt mg)(D:Df K mg "law" zbK JN)(F1:Z6 P w K mg base)(F2:Z7 P w K mg base)(F3:kA P w K mg base)(F4:vA P w K mg base)(F5:yi P w K mg base)(F6:Z8 P w K mg base)(F7:kQ P w K mg base)(F8:xB P w K mg base)(F9:vC P w K mg base):OkF P w K mg base 12 "law" JN (JR K):=
 zf3 (W:=wd K mg) (k:=11) D zf8 (by decide) (by decide +kernel) (by unfold Yl;walk_at "need") fun ns _=>zdz
end
end My
set_option maxHeartbeats 0
open PySem L2 L4 PySem.Spec PyProof.Rows
namespace My
theorem len0 {α:Type}{us:List α}(h:us.length=0):us=[]:=List.length_eq_zero_iff.mp h
theorem len1 {α:Type}:∀ {us:List α},us.length=1->∃ a0,us=[a0]
 | [a0],_=>⟨a0,rfl⟩
theorem len2 {α:Type}:∀ {us:List α},us.length=2->∃ a0 a1,us=[a0,a1]
 | [a0,a1],_=>⟨a0,a1,rfl⟩
theorem len3 {α:Type}:∀ {us:List α},us.length=3->∃ a0 a1 a2,us=[a0,a1,a2]
 | [a0,a1,a2],_=>⟨a0,a1,a2,rfl⟩
theorem len4 {α:Type}:∀ {us:List α},us.length=4->∃ a0 a1 a2 a3,us=[a0,a1,a2,a3]
 | [a0,a1,a2,a3],_=>⟨a0,a1,a2,a3,rfl⟩
theorem len5 {α:Type}:∀ {us:List α},us.length=5->∃ a0 a1 a2 a3 a4,us=[a0,a1,a2,a3,a4]
 | [a0,a1,a2,a3,a4],_=>⟨a0,a1,a2,a3,a4,rfl⟩
theorem len6 {α:Type}:∀ {us:List α},us.length=6->∃ a0 a1 a2 a3 a4 a5,us=[a0,a1,a2,a3,a4,a5]
 | [a0,a1,a2,a3,a4,a5],_=>⟨a0,a1,a2,a3,a4,a5,rfl⟩
theorem len7 {α:Type}:∀ {us:List α},us.length=7->∃ a0 a1 a2 a3 a4 a5 a6,us=[a0,a1,a2,a3,a4,a5,a6]
 | [a0,a1,a2,a3,a4,a5,a6],_=>⟨a0,a1,a2,a3,a4,a5,a6,rfl⟩
theorem dfm {K:PySem.W.Frag}{mg:Str->Option Value}{h:Heap}{x:Str}{st:Stmt}{ps:List Str}{f cd:Addr}{pm:Value}(X:K.In h)(G:h.Ns mainGlobals mg)
  (b:∀ (kV doc pm:Value) (an:Option Addr) (cdv ct:Value) (us:List Value),us.length=ps.length->bindArgs (PySem.W.fnOf x x (jM st) (zN st) (za st) .none kV doc pm an cdv ct) ⟨us,[]⟩=pure (ps.zip us))
  (a:PySem.W.nsIn K mainGlobals x=some (some (.ref f))) (l:K.lookup f=some ⟨.type "function",none,.func (PySem.W.fnOf x x (jM st) (zN st) (za st) .none .none .none pm none (.ref cd) .none),#[]⟩)
  (c:PySem.W.codeIn K (.ref cd) x=true) (k:PySem.W.keepIn K (.ref f)=true):Df K mg x st ps:=zgH X G b a l c k
theorem all_ok {l:PySem.W.OpenLaw}{w:World}{h:Heap}{mg:Str->Option Value}{fa:Addr}(X:(KH w.params).In h)(G:h.Ns mainGlobals mg)(hfa:mg "law" = some (.ref fa)) :
  ∃ fd:FuncData,(∀ (s:Shared) (v:Value),BindsTo s fd ⟨[v],[]⟩ [("_law_script",v)])/\∀ base:Heap,(KH w.params).In base->base.Ns mainGlobals mg->FnOk l.prog w (KH w.params) mg base CX0 12 fa fd ["_law_script"] (JR (KH w.params)):=by
 have D_is_text:Df (KH w.params) mg "is_text" kb wX:=dfm (f:=19) (pm:=(.str "sealpress.signs" 187)) (cd:=18) X G (fun _ _ _ _ _ _ us hl=>by obtain⟨_,rfl⟩:=len1 hl;rfl) (by kernel_rfl!) (by kernel_rfl!) (by kernel_rfl!) (by kernel_rfl!)
 have D_is_name:Df (KH w.params) mg "is_name" ka wW:=dfm (f:=24) (pm:=(.str "sealpress.signs" 187)) (cd:=23) X G (fun _ _ _ _ _ _ us hl=>by obtain⟨_,rfl⟩:=len1 hl;rfl) (by kernel_rfl!) (by kernel_rfl!) (by kernel_rfl!) (by kernel_rfl!)
 have D_is_tuple_of:Df (KH w.params) mg "is_tuple_of" wq jc:=dfm (f:=31) (pm:=(.str "sealpress.pages" 211)) (cd:=30) X G (fun _ _ _ _ _ _ us hl=>by obtain⟨_,_,_,rfl⟩:=len3 hl;rfl) (by kernel_rfl!) (by kernel_rfl!) (by kernel_rfl!) (by kernel_rfl!)
 have D_is_word:Df (KH w.params) mg "is_word" kc wY:=dfm (f:=36) (pm:=(.str "sealpress.pages" 211)) (cd:=35) X G (fun _ _ _ _ _ _ us hl=>by obtain⟨_,rfl⟩:=len1 hl;rfl) (by kernel_rfl!) (by kernel_rfl!) (by kernel_rfl!) (by kernel_rfl!)
 have D_is_talked:Df (KH w.params) mg "is_talked" xS jO:=dfm (f:=43) (pm:=(.str "sealpress.pages" 211)) (cd:=42) X G (fun _ _ _ _ _ _ us hl=>by obtain⟨_,rfl⟩:=len1 hl;rfl) (by kernel_rfl!) (by kernel_rfl!) (by kernel_rfl!) (by kernel_rfl!)
 have D_is_content:Df (KH w.params) mg "is_content" wZ jr:=dfm (f:=48) (pm:=(.str "sealpress.pages" 211)) (cd:=47) X G (fun _ _ _ _ _ _ us hl=>by obtain⟨_,_,rfl⟩:=len2 hl;rfl) (by kernel_rfl!) (by kernel_rfl!) (by kernel_rfl!) (by kernel_rfl!)
 have D_is_attr:Df (KH w.params) mg "is_attr" ke w6:=dfm (f:=55) (pm:=(.str "sealpress.pages" 211)) (cd:=54) X G (fun _ _ _ _ _ _ us hl=>by obtain⟨_,rfl⟩:=len1 hl;rfl) (by kernel_rfl!) (by kernel_rfl!) (by kernel_rfl!) (by kernel_rfl!)
 have D_is_box_row:Df (KH w.params) mg "is_box_row" xa js:=dfm (f:=60) (pm:=(.str "sealpress.pages" 211)) (cd:=59) X G (fun _ _ _ _ _ _ us hl=>by obtain⟨_,rfl⟩:=len1 hl;rfl) (by kernel_rfl!) (by kernel_rfl!) (by kernel_rfl!) (by kernel_rfl!)
 have D_is_text_row:Df (KH w.params) mg "is_text_row" wt jd:=dfm (f:=67) (pm:=(.str "sealpress.pages" 211)) (cd:=66) X G (fun _ _ _ _ _ _ us hl=>by obtain⟨_,_,rfl⟩:=len2 hl;rfl) (by kernel_rfl!) (by kernel_rfl!) (by kernel_rfl!) (by kernel_rfl!)
 have D_first_fault:Df (KH w.params) mg "first_fault" wu je:=dfm (f:=74) (pm:=(.str "sealpress.pages" 211)) (cd:=73) X G (fun _ _ _ _ _ _ us hl=>by obtain⟨_,rfl⟩:=len1 hl;rfl) (by kernel_rfl!) (by kernel_rfl!) (by kernel_rfl!) (by kernel_rfl!)
 have D_is_page:Df (KH w.params) mg "is_page" kf xb:=dfm (f:=81) (pm:=(.str "sealpress.pages" 211)) (cd:=80) X G (fun _ _ _ _ _ _ us hl=>by obtain⟨_,rfl⟩:=len1 hl;rfl) (by kernel_rfl!) (by kernel_rfl!) (by kernel_rfl!) (by kernel_rfl!)
 have D_with_texts:Df (KH w.params) mg "with_texts" xc jt:=dfm (f:=86) (pm:=(.str "sealpress.pages" 211)) (cd:=85) X G (fun _ _ _ _ _ _ us hl=>by obtain⟨_,rfl⟩:=len1 hl;rfl) (by kernel_rfl!) (by kernel_rfl!) (by kernel_rfl!) (by kernel_rfl!)
 have D_begun_content:Df (KH w.params) mg "begun_content" jF qD:=dfm (f:=93) (pm:=(.str "sealpress.pages" 211)) (cd:=92) X G (fun _ _ _ _ _ _ us hl=>by obtain⟨_,_,rfl⟩:=len2 hl;rfl) (by kernel_rfl!) (by kernel_rfl!) (by kernel_rfl!) (by kernel_rfl!)
 have D_page_of:Df (KH w.params) mg "page_of" kh xf:=dfm (f:=100) (pm:=(.str "sealpress.pages" 211)) (cd:=99) X G (fun _ _ _ _ _ _ us hl=>by obtain⟨_,rfl⟩:=len1 hl;rfl) (by kernel_rfl!) (by kernel_rfl!) (by kernel_rfl!) (by kernel_rfl!)
 have D_content_shape:Df (KH w.params) mg "content_shape" jG qE:=dfm (f:=105) (pm:=(.str "sealpress.pages" 211)) (cd:=104) X G (fun _ _ _ _ _ _ us hl=>by obtain⟨_,_,rfl⟩:=len2 hl;rfl) (by kernel_rfl!) (by kernel_rfl!) (by kernel_rfl!) (by kernel_rfl!)
 have D_row_shape:Df (KH w.params) mg "row_shape" xT jP:=dfm (f:=110) (pm:=(.str "sealpress.pages" 211)) (cd:=109) X G (fun _ _ _ _ _ _ us hl=>by obtain⟨_,rfl⟩:=len1 hl;rfl) (by kernel_rfl!) (by kernel_rfl!) (by kernel_rfl!) (by kernel_rfl!)
 have D_shape_of:Df (KH w.params) mg "shape_of" v9 wc:=dfm (f:=115) (pm:=(.str "sealpress.pages" 211)) (cd:=114) X G (fun _ _ _ _ _ _ us hl=>by obtain⟨_,rfl⟩:=len1 hl;rfl) (by kernel_rfl!) (by kernel_rfl!) (by kernel_rfl!) (by kernel_rfl!)
 have D__law_mixed:Df (KH w.params) mg "_law_mixed" xh jv:=dfm (f:=122) (pm:=(.str "law_sealpress_k31_rows_of_a_page" 323)) (cd:=121) X G (fun _ _ _ _ _ _ us hl=>by obtain⟨_,_,rfl⟩:=len2 hl;rfl) (by kernel_rfl!) (by kernel_rfl!) (by kernel_rfl!) (by kernel_rfl!)
 have D__law_state:Df (KH w.params) mg "_law_state" xg ju:=dfm (f:=129) (pm:=(.str "law_sealpress_k31_rows_of_a_page" 323)) (cd:=128) X G (fun _ _ _ _ _ _ us hl=>by obtain⟨_,rfl⟩:=len1 hl;rfl) (by kernel_rfl!) (by kernel_rfl!) (by kernel_rfl!) (by kernel_rfl!)
 have D__law_next:Df (KH w.params) mg "_law_next" xU jQ:=dfm (f:=136) (pm:=(.str "law_sealpress_k31_rows_of_a_page" 323)) (cd:=135) X G (fun _ _ _ _ _ _ us hl=>by obtain⟨_,_,rfl⟩:=len2 hl;rfl) (by kernel_rfl!) (by kernel_rfl!) (by kernel_rfl!) (by kernel_rfl!)
 have D__law_signs:Df (KH w.params) mg "_law_signs" xi jw:=dfm (f:=143) (pm:=(.str "law_sealpress_k31_rows_of_a_page" 323)) (cd:=142) X G (fun _ _ _ _ _ _ us hl=>by obtain⟨_,_,rfl⟩:=len2 hl;rfl) (by kernel_rfl!) (by kernel_rfl!) (by kernel_rfl!) (by kernel_rfl!)
 have D__law_name:Df (KH w.params) mg "_law_name" xV jR:=dfm (f:=148) (pm:=(.str "law_sealpress_k31_rows_of_a_page" 323)) (cd:=147) X G (fun _ _ _ _ _ _ us hl=>by obtain⟨_,rfl⟩:=len1 hl;rfl) (by kernel_rfl!) (by kernel_rfl!) (by kernel_rfl!) (by kernel_rfl!)
 have D__law_piece:Df (KH w.params) mg "_law_piece" xj jx:=dfm (f:=153) (pm:=(.str "law_sealpress_k31_rows_of_a_page" 323)) (cd:=152) X G (fun _ _ _ _ _ _ us hl=>by obtain⟨_,rfl⟩:=len1 hl;rfl) (by kernel_rfl!) (by kernel_rfl!) (by kernel_rfl!) (by kernel_rfl!)
 have D__law_attr:Df (KH w.params) mg "_law_attr" xW jS:=dfm (f:=158) (pm:=(.str "law_sealpress_k31_rows_of_a_page" 323)) (cd:=157) X G (fun _ _ _ _ _ _ us hl=>by obtain⟨_,rfl⟩:=len1 hl;rfl) (by kernel_rfl!) (by kernel_rfl!) (by kernel_rfl!) (by kernel_rfl!)
 have D__law_box:Df (KH w.params) mg "_law_box" ya we:=dfm (f:=163) (pm:=(.str "law_sealpress_k31_rows_of_a_page" 323)) (cd:=162) X G (fun _ _ _ _ _ _ us hl=>by obtain⟨_,_,_,rfl⟩:=len3 hl;rfl) (by kernel_rfl!) (by kernel_rfl!) (by kernel_rfl!) (by kernel_rfl!)
 have D__law_page:Df (KH w.params) mg "_law_page" xX jT:=dfm (f:=170) (pm:=(.str "law_sealpress_k31_rows_of_a_page" 323)) (cd:=169) X G (fun _ _ _ _ _ _ us hl=>by obtain⟨_,_,rfl⟩:=len2 hl;rfl) (by kernel_rfl!) (by kernel_rfl!) (by kernel_rfl!) (by kernel_rfl!)
 have D__law_same:Df (KH w.params) mg "_law_same" qT qF:=dfm (f:=175) (pm:=(.str "law_sealpress_k31_rows_of_a_page" 323)) (cd:=174) X G (fun _ _ _ _ _ _ us hl=>by obtain⟨_,_,rfl⟩:=len2 hl;rfl) (by kernel_rfl!) (by kernel_rfl!) (by kernel_rfl!) (by kernel_rfl!)
 have D__law_spill:Df (KH w.params) mg "_law_spill" qG qo:=dfm (f:=182) (pm:=(.str "law_sealpress_k31_rows_of_a_page" 323)) (cd:=181) X G (fun _ _ _ _ _ _ us hl=>by obtain⟨_,rfl⟩:=len1 hl;rfl) (by kernel_rfl!) (by kernel_rfl!) (by kernel_rfl!) (by kernel_rfl!)
 have D__law_attr_events:Df (KH w.params) mg "_law_attr_events" qR z8:=dfm (f:=187) (pm:=(.str "law_sealpress_k31_rows_of_a_page" 323)) (cd:=186) X G (fun _ _ _ _ _ _ us hl=>by obtain⟨_,rfl⟩:=len1 hl;rfl) (by kernel_rfl!) (by kernel_rfl!) (by kernel_rfl!) (by kernel_rfl!)
 have D__law_events:Df (KH w.params) mg "_law_events" wx jf:=dfm (f:=192) (pm:=(.str "law_sealpress_k31_rows_of_a_page" 323)) (cd:=191) X G (fun _ _ _ _ _ _ us hl=>by obtain⟨_,rfl⟩:=len1 hl;rfl) (by kernel_rfl!) (by kernel_rfl!) (by kernel_rfl!) (by kernel_rfl!)
 have D__law_shaped:Df (KH w.params) mg "_law_shaped" qp qa:=dfm (f:=197) (pm:=(.str "law_sealpress_k31_rows_of_a_page" 323)) (cd:=196) X G (fun _ _ _ _ _ _ us hl=>by obtain⟨_,rfl⟩:=len1 hl;rfl) (by kernel_rfl!) (by kernel_rfl!) (by kernel_rfl!) (by kernel_rfl!)
 have D__law_shape:Df (KH w.params) mg "_law_shape" xl jy:=dfm (f:=202) (pm:=(.str "law_sealpress_k31_rows_of_a_page" 323)) (cd:=201) X G (fun _ _ _ _ _ _ us hl=>by obtain⟨_,rfl⟩:=len1 hl;rfl) (by kernel_rfl!) (by kernel_rfl!) (by kernel_rfl!) (by kernel_rfl!)
 have D_law:Df (KH w.params) mg "law" zbK JN:=dfm (f:=209) (pm:=(.str "law_sealpress_k31_rows_of_a_page" 323)) (cd:=208) X G (fun _ _ _ _ _ _ us hl=>by obtain⟨_,rfl⟩:=len1 hl;rfl) (by kernel_rfl!) (by kernel_rfl!) (by kernel_rfl!) (by kernel_rfl!)
 have e_SIGNS:Str.ofString " !\"#$&'()*+,-./0123456789:;<=>?@ABCDEFGHIJKLMNOPQRSTUVWXYZ[\\]^_`abcdefghijklmnopqrstuvwxyz{|}~" = (S [32,33,34,35,36,38,39,40,41,42,43,44,45,46,47,48,49,50,51,52,53,54,55,56,57,58,59,60,61,62,63,64,65,66,67,68,69,70,71,72,73,74,75,76,77,78,79,80,81,82,83,84,85,86,87,88,89,90,91,92,93,94,95,96,97,98,99,100,101,102,103,104,105,106,107,108,109,110,111,112,113,114,115,116,117,118,119,120,121,122,123,124,125,126]):=by decide +kernel
 have e_LETTERS:Str.ofString "abcdefghijklmnopqrstuvwxyz" = (S [97,98,99,100,101,102,103,104,105,106,107,108,109,110,111,112,113,114,115,116,117,118,119,120,121,122]):=by decide +kernel
 have e_WORDSIGNS:Str.ofString "abcdefghijklmnopqrstuvwxyz0123456789-" = (S [97,98,99,100,101,102,103,104,105,106,107,108,109,110,111,112,113,114,115,116,117,118,119,120,121,122,48,49,50,51,52,53,54,55,56,57,45]):=by decide +kernel
 have e_ASIS_END:Str.ofString "</asis>" = (S [60,47,97,115,105,115,62]):=by decide +kernel
 have T:Txt mg:=⟨⟨.str (Str.ofString " !\"#$&'()*+,-./0123456789:;<=>?@ABCDEFGHIJKLMNOPQRSTUVWXYZ[\\]^_`abcdefghijklmnopqrstuvwxyz{|}~") 189,PySem.W.mg_of X G (by kernel_rfl!),⟨_,by rw [e_SIGNS]⟩⟩,⟨.str (Str.ofString "abcdefghijklmnopqrstuvwxyz") 191,PySem.W.mg_of X G (by kernel_rfl!),⟨_,by rw [e_LETTERS]⟩⟩,⟨.int 8 193,PySem.W.mg_of X G (by kernel_rfl!),⟨_,rfl⟩⟩,⟨.str (Str.ofString "abcdefghijklmnopqrstuvwxyz0123456789-") 207,PySem.W.mg_of X G (by kernel_rfl!),⟨_,by rw [e_WORDSIGNS]⟩⟩,⟨.str (Str.ofString "</asis>") 209,PySem.W.mg_of X G (by kernel_rfl!),⟨_,by rw [e_ASIS_END]⟩⟩,PySem.W.mg_none_of X G (by kernel_rfl!),PySem.W.mg_none_of X G (by kernel_rfl!),PySem.W.mg_none_of X G (by kernel_rfl!),PySem.W.mg_none_of X G (by kernel_rfl!),PySem.W.mg_none_of X G (by kernel_rfl!),PySem.W.mg_none_of X G (by kernel_rfl!),PySem.W.mg_none_of X G (by kernel_rfl!),PySem.W.mg_none_of X G (by kernel_rfl!),PySem.W.mg_none_of X G (by kernel_rfl!)⟩
 refine zfc D_law hfa (fun _ _ _ _ _ _ s v=>.of_eq rfl) fun base=>?_
 have zp:=Z9 (P:=l.prog) (w:=w) (base:=base) T D_is_tuple_of
 have qH:=Vf (P:=l.prog) (w:=w) (base:=base) T D_is_name
 have zV:=Vg (P:=l.prog) (w:=w) (base:=base) T D_is_text
 have jm:=Vh (P:=l.prog) (w:=w) (base:=base) T D_is_word
 have qx:=JT (P:=l.prog) (w:=w) (base:=base) T D_is_talked zV zp jm
 have qe:=Qs (P:=l.prog) (w:=w) (base:=base) T D_is_content zV qx
 have jn:=Vi (P:=l.prog) (w:=w) (base:=base) T D_is_attr qH qe
 have zP:=Qt (P:=l.prog) (w:=w) (base:=base) T D_is_box_row qH zp jn
 have z0:=Qa (P:=l.prog) (w:=w) (base:=base) T D_is_text_row zV zp
 have z6:=Qb (P:=l.prog) (w:=w) (base:=base) T D_first_fault zp zP z0
 have qU:=Vj (P:=l.prog) (w:=w) (base:=base) T D_is_page z6
 have qf:=Qu (P:=l.prog) (w:=w) (base:=base) T D_with_texts
 have zK:=kC (P:=l.prog) (w:=w) (base:=base) T D_begun_content
 have qI:=Vk (P:=l.prog) (w:=w) (base:=base) T D_page_of qf zK
 have zL:=kD (P:=l.prog) (w:=w) (base:=base) T D_content_shape
 have qy:=JU (P:=l.prog) (w:=w) (base:=base) T D_row_shape zL
 have qg:=Xe (P:=l.prog) (w:=w) (base:=base) T D_shape_of qy
 have qh:=JV (P:=l.prog) (w:=w) (base:=base) T D__law_state
 have zv:=JW (P:=l.prog) (w:=w) (base:=base) T D__law_mixed
 have zf:=Xf (P:=l.prog) (w:=w) (base:=base) T D__law_next zv
 have zt:=JX (P:=l.prog) (w:=w) (base:=base) T D__law_signs zf
 have zY:=Xg (P:=l.prog) (w:=w) (base:=base) T D__law_name zv zf
 have qj:=JY (P:=l.prog) (w:=w) (base:=base) T D__law_piece zv zf zt
 have qz:=Xh (P:=l.prog) (w:=w) (base:=base) T D__law_attr zf zt zY qj
 have qS:=Vl (P:=l.prog) (w:=w) (base:=base) T D__law_box zf zt zY qz
 have qA:=Xi (P:=l.prog) (w:=w) (base:=base) T D__law_page zf zt qS
 have zl:=Xj (P:=l.prog) (w:=w) (base:=base) T D__law_same
 have ze:=JZ (P:=l.prog) (w:=w) (base:=base) T D__law_spill
 have zg:=yj (P:=l.prog) (w:=w) (base:=base) T D__law_attr_events
 have z7:=Qv (P:=l.prog) (w:=w) (base:=base) T D__law_events zg
 have zh:=Qw (P:=l.prog) (w:=w) (base:=base) T D__law_shaped
 have zQ:=J0 (P:=l.prog) (w:=w) (base:=base) T D__law_shape zh
 have zer:=zgh (P:=l.prog) (w:=w) (base:=base) T D_law qU qI qg qh qA zl ze z7 zQ
 exact zer
theorem walk {l:PySem.W.OpenLaw}{q:Program}{loose:List Str}{XP:(Str->Option Value)->Heap->Prop}{YP:World->Heap->Prop}{d:DefRec}{K:Params->PySem.W.Frag}(hn:l.most=some 63)(hdf:d.params.defaults=[])
  (hY:∀ (w:World) (h:Heap),YP w h->(K w.params).In h)
  (F:∀ (w:World) (mg:Str->Option Value) (fa:Addr) (h:Heap),(K w.params).In h->h.Ns mainGlobals mg->mg d.name=some (.ref fa) ->
   ∃ fd:FuncData,(∀ (s:Shared) (u:Value),BindsTo s fd ⟨[u],[]⟩ [("_law_script",u)])/\∀ base:Heap,(K w.params).In base->base.Ns mainGlobals mg->FnOk l.prog w (K w.params) mg base CX0 12 fa fd ["_law_script"] (JR (K w.params))) :
  PySem.W.WalkO q loose XP YP l.row.toRowW d [] (fun f vs=>PySem.call f vs):=
 L2.zcn (n:=63) (k:=12) (x:="_law_script") (CX:=fun _=>CX0) (sp:=fun w=>JR (K w.params)) hn (by decide) hdf ⟨rfl,by decide,by decide,rfl⟩ hY F (fun _ _ a ns hl _ hS=>⟨a,ns,rfl,hS,hl,fun _=>rfl⟩) fun _ _ _ _ _ z=>z
end My
open PySem PySem.W PyProof.Rows
set_option maxRecDepth 100000 in
set_option maxHeartbeats 0 in
theorem PySem.Challenge.cw_sealpress_k31_rows_of_a_page_holds : PySem.Challenge.rw_sealpress_k31_rows_of_a_page.Holds := by
  w_on; o_law
  refine PySem.W.holds_open (q := My.qvw) (loose := My.loose0) (Xt := My.Xt0) (XP := XL My.qvw []) (Yf := Hook.obs My.HK) (Ya := Hook.val My.HK) (YP := Hook.says My.HK) (N := 1227) My.left (Hook.of My.HK) (Hook.keeps My.HK) (fun s e => xl_of s (Bool.and_eq_true_iff.mp e).1) XL.keeps (by rfl) (by rfl) (by rfl) (fun s e => recFacts_of (Bool.and_eq_true_iff.mp e).2) (by rfl) (by first | assumption | decide +kernel) (by decide +kernel) ⟨rfl, rfl, rfl, rfl, rfl, by decide +kernel⟩ ?hw ?hc
  (case hw => w_witness2)
  exact My.walk (l := PySem.Challenge.rw_sealpress_k31_rows_of_a_page) rfl rfl (fun w h Y => PySem.W.kIn_of Y) (fun w mg fa h KX G hmg => My.all_ok KX G hmg)
