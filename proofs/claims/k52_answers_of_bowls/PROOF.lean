import PyProof.Rows.All
import Wide.All
import OpenK.AllK
import Wide.FinOn
import Lean
import PyProof.EqAt
import PyProof.EqKinds
import PyProof.TupleCall
import PySem.Challenge.RW_formcycle_k52_answers_of_bowls
set_option Elab.async false
set_option linter.all false
set_option maxRecDepth 100000
set_option maxRecDepth 1000000
set_option maxHeartbeats 0
local macro_rules|`(command|def $d:declId $s:optDeclSig $v:declVal)=>`(command|noncomputable def $d:declId $s:optDeclSig $v:declVal)
local macro_rules|`(command|abbrev $d:declId $s:optDeclSig $v:declVal)=>`(command|noncomputable abbrev $d:declId $s:optDeclSig $v:declVal)
theorem My.said0:PySem.Challenge.rw_formcycle_k52_answers_of_bowls.wellSaid=true:=by kernel_rfl
namespace My
open PySem W
def Wo(tb:String→Option Builtin)(p:Program)(w:World)(m:Nat)(ann:Option Value):Nat→SharedT→Thread→Option SharedT
 |0,_,_=>none
 | k+1,s,t=>match through t with
  |true=>some s
  | false=>match stepOk m ann t with
   |false=>none
   | true=>match stepT (denote tb) p w s t with
    |some (s',t')=>Wo tb p w m ann k s' t'
    |none=>none
theorem Ue{tb:String→Option Builtin}{p:Program}{w:World}{m:Nat}{ann:Option Value}:∀(k:Nat){s r:SharedT}{t:Thread},Wo tb p w m ann k s t=some r→topRun tb p w m ann k s.abs t=some r.abs
 |0,s,r,t,h=>by cases h
 | k+1,s,r,t,h=>by
  unfold Wo at h
  unfold topRun
  cases e:through t with
  | true =>
   rw[e]at h
   cases h
   rfl
  | false =>
   rw[e]at h
   dsimp only at h ⊢
   cases e2:stepOk m ann t with
   |false=>rw[e2]at h;cases h
   | true =>
    rw[e2]at h
    dsimp only at h ⊢
    cases e3:stepT (denote tb) p w s t with
    |none=>rw[e3]at h;cases h
    | some st =>
     obtain⟨s',t'⟩:=st
     rw[e3]at h
     rw[stepT_spec e3]
     exact Ue k h
def Ag7:List Obj→Nat→BT→BT
 | [],_,t=>t
 |o::os,n,t=>Ag7 os (n+1) (t.ins n o)
noncomputable def Sd(w:World)(os:OsState):SharedT:=⟨Ag7 (boot_heap w.params).objs.toList 0 .nil,(boot_heap w.params).objs.size,(boot_heap w.params).life,Array.mk [],boot_drawn,boot_toks,os⟩
noncomputable def BP(w:World)(os:OsState):Shared:=⟨boot_heap w.params,Array.mk [],boot_drawn,boot_toks,os⟩
def stays(p:Program)(s₀ s₁:Shared):Bool:=staticsOk (importedModules p.main.body) s₀.heap s₁.heap&&namesBound p s₁.heap&&gensDone s₁&&laidKept s₀.heap s₁.heap
theorem boot_abs:∀w os,(Sd w os).abs=BP w os:=fun w os=>by kernel_rfl
theorem Afw{p:Program}{w:World}{N:Nat}{α:Type}{F:Shared→α}{g:α}(e:opening p=plainProg p.main.scope.names)(hN:Nat.ble 600 N=true)(f:∀s,fenceModules? p s=some s)
  (h:∀os,(Wo treeTable p w (BP w os).heap.objs.size ((BP w os).heap.nsMap mainGlobals "__annotations__") N (Sd w os) (topStub p)).map (fun r=>(stays p (BP w os) r.abs,F r.abs))=some (true,g))
  (h0:∀os,((BP w os).heap.isNs mainGlobals&&(BP w os).gens.size==0)=true):(openEnds treeTable p w N).map F=some g:=by
 have hb:=boot_open e hN f w
 unfold openEnds
 cases q:fencedOpening treeTable p w N with
 |none=>rw[q]at hb;cases hb
 | some s =>
  rw[q]at hb
  have hs:s=BP w s.os:=by
   obtain⟨a,b,c,d,o⟩:=s
   simp only[Option.map_some,Option.some.injEq,Prod.mk.injEq]at hb
   obtain⟨rfl,rfl,rfl,rfl⟩:=hb
   rfl
  generalize s.os=o at hs
  subst hs
  show(topFrom treeTable p w N (BP w o)).map F=some g
  unfold topFrom
  rw[h0 o]
  have hh:=h o
  cases q2:Wo treeTable p w (BP w o).heap.objs.size ((BP w o).heap.nsMap mainGlobals "__annotations__") N (Sd w o) (topStub p)with
  |none=>rw[q2]at hh;cases hh
  | some r =>
   rw[q2]at hh
   have hr:=Ue N q2
   rw[boot_abs]at hr
   simp only[Option.map_some,Option.some.injEq,Prod.mk.injEq]at hh
   obtain⟨h1,h2⟩:=hh
   unfold stays at h1
   dsimp only
   rw[hr]
   show(match staticsOk (importedModules p.main.body) (BP w o).heap r.abs.heap&&namesBound p r.abs.heap&&gensDone r.abs&&laidKept (BP w o).heap r.abs.heap with
    |true=>some r.abs
    |false=>none).map F=some g
   rw[h1]
   exact congrArg some h2
noncomputable def TR(p:Program)(w:World)(os:OsState)(N:Nat):Option SharedT:=Wo treeTable p w (BP w os).heap.objs.size ((BP w os).heap.nsMap mainGlobals "__annotations__") N (Sd w os) (topStub p)
theorem Akn{p:Program}{w:World}{N:Nat}{α β:Type}{F:Shared→α}{G:Shared→β}{f':α}{g':β}(e:opening p=plainProg p.main.scope.names)(hN:Nat.ble 600 N=true)(f:∀s,fenceModules? p s=some s)
  (h1:∀os,(TR p w os N).map (fun r=>stays p (BP w os) r.abs)=some true) (h2:∀os,(TR p w os N).map (fun r=>F r.abs)=some f') (h3:∀os,(TR p w os N).map (fun r=>G r.abs)=some g')
  (h0:∀os,((BP w os).heap.isNs mainGlobals&&(BP w os).gens.size==0)=true):(openEnds treeTable p w N).map (fun s=>(F s,G s))=some (f',g') :=
 Afw (F:=fun s=>(F s,G s)) e hN f (fun os=>by
  have a:=h1 os
  have b:=h2 os
  have c:=h3 os
  unfold TR at a b c
  revert a b c
  generalize Wo treeTable p w (BP w os).heap.objs.size ((BP w os).heap.nsMap mainGlobals "__annotations__") N (Sd w os) (topStub p)=o
  intro a b c
  cases o with
  |none=>cases a
  | some r =>
   simp only[Option.map_some,Option.some.injEq]at a b c ⊢
   rw[a,b,c]) h0
end My
namespace My
open PySem W
def goT(tb:String→Option Builtin)(p:Program)(w:World)(m:Nat)(ann:Option Value):Nat→SharedT→Thread→Option (SharedT×Thread)
 |0,s,t=>some (s,t)
 | k+1,s,t=>match through t with
  |true=>none
  | false=>match stepOk m ann t with
   |false=>none
   | true=>match stepT (denote tb) p w s t with
    |some (s',t')=>goT tb p w m ann k s' t'
    |none=>none
theorem Ad6{tb:String→Option Builtin}{p:Program}{w:World}{m:Nat}{ann:Option Value}:∀(k:Nat){s s':SharedT}{t t':Thread},goT tb p w m ann k s t=some (s',t')→topGo tb p w m ann k s.abs t=some (s'.abs,t')
 |0,s,s',t,t',h=>by cases h;rfl
 | k+1,s,s',t,t',h=>by
  unfold goT at h
  unfold topGo
  cases e:through t with
  |true=>rw[e]at h;cases h
  | false =>
   rw[e]at h
   dsimp only at h ⊢
   cases e2:stepOk m ann t with
   |false=>rw[e2]at h;cases h
   | true =>
    rw[e2]at h
    dsimp only at h ⊢
    cases e3:stepT (denote tb) p w s t with
    |none=>rw[e3]at h;cases h
    | some st =>
     obtain⟨s2,t2⟩:=st
     rw[e3]at h
     rw[stepT_spec e3]
     exact Ad6 k h
theorem AbO{p:Program}{w:World}{N:Nat}{α:Type}{F:Shared→α}{g:α}(e:opening p=plainProg p.main.scope.names)(hN:Nat.ble 600 N=true)(f:∀s,fenceModules? p s=some s)
  (h:∀os,∃r:Shared,topRun treeTable p w (BP w os).heap.objs.size ((BP w os).heap.nsMap mainGlobals "__annotations__") N (BP w os) (topStub p)=some r∧stays p (BP w os) r=true∧F r=g)
  (h0:∀os,((BP w os).heap.isNs mainGlobals&&(BP w os).gens.size==0)=true):(openEnds treeTable p w N).map F=some g:=by
 have hb:=boot_open e hN f w
 unfold openEnds
 cases q:fencedOpening treeTable p w N with
 |none=>rw[q]at hb;cases hb
 | some s =>
  rw[q]at hb
  have hs:s=BP w s.os:=by
   obtain⟨a,b,c,d,o⟩:=s
   simp only[Option.map_some,Option.some.injEq,Prod.mk.injEq]at hb
   obtain⟨rfl,rfl,rfl,rfl⟩:=hb
   rfl
  generalize s.os=o at hs
  subst hs
  show(topFrom treeTable p w N (BP w o)).map F=some g
  unfold topFrom
  rw[h0 o]
  obtain⟨r,hr,h1,h2⟩:=h o
  unfold stays at h1
  dsimp only
  rw[hr]
  show(match staticsOk (importedModules p.main.body) (BP w o).heap r.heap&&namesBound p r.heap&&gensDone r&&laidKept (BP w o).heap r.heap with
   |true=>some r
   |false=>none).map F=some g
  rw[h1]
  exact congrArg some h2
theorem Acx{p:Program}{w:World}{N:Nat}{α β:Type}{F:Shared→α}{G:Shared→β}{f':α}{g':β}{TL:OsState→Option SharedT}(e:opening p=plainProg p.main.scope.names)(hN:Nat.ble 600 N=true)(f:∀s,fenceModules? p s=some s)
  (hr:∀os r,TL os=some r→topRun treeTable p w (BP w os).heap.objs.size ((BP w os).heap.nsMap mainGlobals "__annotations__") N (BP w os) (topStub p)=some r.abs)
  (h1:∀os,(TL os).map (fun r=>stays p (BP w os) r.abs)=some true) (h2:∀os,(TL os).map (fun r=>F r.abs)=some f') (h3:∀os,(TL os).map (fun r=>G r.abs)=some g')
  (h0:∀os,((BP w os).heap.isNs mainGlobals&&(BP w os).gens.size==0)=true):(openEnds treeTable p w N).map (fun s=>(F s,G s))=some (f',g') :=
 AbO (F:=fun s=>(F s,G s)) e hN f (fun os=>by
  have a:=h1 os
  have b:=h2 os
  have c:=h3 os
  have d:=hr os
  cases q:TL os with
  |none=>rw[q]at a;cases a
  | some r =>
   rw[q]at a b c
   simp only[Option.map_some,Option.some.injEq]at a b c
   exact⟨_,d r q,a,by rw[b,c]⟩) h0
end My
set_option maxRecDepth 1000000
set_option maxHeartbeats 0
namespace My
open PySem W
def tp(i:Nat):Stmt:=PySem.Challenge.pw_formcycle_k52_answers_of_bowls.main.body.getD i (.Pass ⟨0,0,0,0⟩)
def fA(s:Stmt):Arguments:=match s with
 |.FunctionDef _ a _ _ _ _ _ _ _ _=>a
 |_=>⟨[],[],none,[],[],none,[]⟩
def fB(s:Stmt):List Stmt:=match s with
 |.FunctionDef _ _ b _ _ _ _ _ _ _=>b
 |_=>[]
def fS(s:Stmt):Scope:=match s with
 |.FunctionDef _ _ _ _ _ _ c _ _ _=>c
 |_=>⟨.function,[],false,false,[]⟩
def inC(s:Stmt)(j:Nat):Stmt:=match s with
 |.ClassDef _ _ _ b _ _ _ _ _ _ _=>b.getD j (.Pass ⟨0,0,0,0⟩)
 |_=>.Pass ⟨0,0,0,0⟩
noncomputable section
abbrev O:=Obj
abbrev sT(s:String)(t:Nat):Value:=.str (.ofString s) t
abbrev iZ(n:Int):Value:=.int n 0
abbrev dE(P:Params)(s:String)(t:Nat)(v:Value):DictEntry:=.mk (PyData.keyHash P (.ofString s)) (.str (.ofString s) t) v
abbrev fO(n q:String)(w:Stmt)(m:String)(t c:Nat):Obj:=.mk (.type "function") none (Data.func (FuncData.mk (.ofString n) (.ofString q) (fA w) (.stmts (fB w)) (fS w) 3 [] .none .none .none (.str (.ofString m) t) none (.ref c) .none 0)) #[]
abbrev tO(a:Array Value):Obj:=.mk (.type "tuple") none (Data.seq a) #[]
abbrev cO(a:Array Value):Obj:=.mk (.type "code") none (Data.fields a) #[]
abbrev nO(a:Array Value):Obj:=.mk .none none (Data.fields a) #[]
abbrev mO(a:Array DictEntry):Obj:=.mk (.type "dict") none (Data.dict a) #[]
abbrev bO(a:Array Value):Obj:=.mk (.type "builtin_function_or_method") none (Data.fields a) #[]
abbrev Lf(o:Obj):BT:=.node o .nil .nil
abbrev Nd(o:Obj)(l r:BT):BT:=.node o l r
abbrev sF(t:Nat):Value:=.str (.ofString "/claim/cut.py") t
def tE:Obj:=.mk (.type "tuple") none (Data.seq #[]) #[]
abbrev cF(n q:String)(a l k r t:Nat):Obj:=.mk (.type "code") none (Data.fields #[.str (.ofString n) a,.str (.ofString q) (a+1),.str (.ofString "/claim/cut.py") (a+2),.int l 0,.int k 0,.int 0 0,.int 0 0,.int 3 0,.ref r,.bool true,.int 181 0,.ref (r+1),.none,.ref (r+2),.ref (r+3),.ref (r+4),.int t 0,.int l 0,.str (.ofString "/claim/cut.py") (t+1)]) #[]
abbrev pO(n q:String)(w:Stmt)(c:Nat):Obj:=.mk .none none (Data.func (FuncData.mk (.ofString n) (.ofString q) (fA w) (.stmts (fB w)) (fS w) 3 [] .none .none .none .none none (.ref c) .none 0)) #[]
abbrev rO(c l:Nat)(m:String)(t:Nat):Obj:=.mk (.type "frame") none Data.plain #[some (.ref c),some (.ref 3),some (.ref l),none,some (.str (.ofString m) t),none,some (.ref 0)]
abbrev sO(c:Nat):Obj:=.mk (.type "super") none (Data.fields #[.ref c,.ref c,.ref c]) #[]
abbrev dO(a:Array DictEntry)(n:Nat):Obj:=.mk (.type "dict") none (Data.dict a n) #[]
abbrev xO(n:String)(b c d e t u:Nat):Obj:=.mk (.type "type") none (Data.cls (ClassData.mk (.ofString n) [.ref b] [.ref c,.ref b,.type "ValueError",.type "Exception",.type "BaseException",.type "object"] d (.ofString n) true [] [] false none false)) #[some (.ref e),none,some (.str (.ofString n) t),some (.str (.ofString n) u),some (.builtin "ValueError.__new__"),some (.bool true)]
def o2:O:=.mk .none none (Data.dict #[]) #[]
def o3(P:Params):O:=dO #[dE P "__name__" 165 (sT "law_formcycle_k52_answers_of_bowls" 745),dE P "__doc__" 166 .none,dE P "__package__" 167 .none,dE P "__loader__" 168 (.builtin "__main__.__loader__#opaque"),dE P "__spec__" 169 .none,dE P "__annotations__" 170 (.ref 6),dE P "__builtins__" 171 (.ref 4),dE P "__file__" 173 (sF 172),dE P "__cached__" 174 .none,dE P "_wall" 193 (.ref 21),dE P "FormError" 213 (.ref 31),dE P "NoTurn" 238 (.ref 51),dE P "NoShape" 263 (.ref 70),dE P "TooGreat" 290 (.ref 89),dE P "NoRoot" 315 (.ref 108),dE P "Nought" 331 (.ref 120),dE P "root" 342 (.ref 129),dE P "is_square" 350 (.ref 136),dE P "check_at_most" 358 (.ref 143),dE P "check_within" 366 (.ref 150),dE P "SAME" 373 (.ref 151),dE P "is_turn" 380 (.ref 158),dE P "check_turn" 387 (.ref 165),dE P "led" 395 (.ref 172),dE P "put_behind" 403 (.ref 179),dE P "back" 410 (.ref 186),dE P "measure" 419 (.ref 193),dE P "value" 429 (.ref 200),dE P "moved" 439 (.ref 207),dE P "middle" 449 (.ref 214),dE P "shape" 457 (.ref 221),dE P "check_bowl" 466 (.ref 228),dE P "stands_least" 476 (.ref 235),dE P "settled" 485 (.ref 242),dE P "turn_lower" 493 (.ref 249),dE P "own_turns" 499 (.ref 254),dE P "turns_of_least" 509 (.ref 261),dE P "turning_of_least" 516 (.ref 268),dE P "MOST_MEASURE" 520 (.int 4000 519),dE P "check_saddle" 527 (.ref 275),dE P "stands_level" 536 (.ref 282),dE P "turn_behind" 547 (.ref 289),dE P "stop_behind" 556 (.ref 296),dE P "eased" 565 (.ref 303),dE P "stops_round" 576 (.ref 310),dE P "lowered" 583 (.ref 317),dE P "Shape" 640 (.ref 355),dE P "Bowl" 664 (.ref 376),dE P "Saddle" 688 (.ref 395),dE P "shape_of" 695 (.ref 404),dE P "way_between" 703 (.ref 411),dE P "MOST_NUMBER" 707 (.int 400 706),dE P "heads" 713 (.ref 416),dE P "families" 726 (.ref 423),dE P "roots_of_square_divisors" 732 (.ref 428),dE P "feet" 738 (.ref 433),dE P "all_answers" 744 (.ref 438),dE P "_law_cell" 754 (.ref 445),dE P "_law_whole" 761 (.ref 452),dE P "_law_wholes" 767 (.ref 457),dE P "_law_bar" 774 (.ref 464),dE P "_law_root" 782 (.ref 471),dE P "_law_turn" 796 (.ref 478),dE P "_law_value" 805 (.ref 485),dE P "_law_moved" 818 (.ref 492),dE P "_law_taken" 834 (.ref 499),dE P "_law_settled" 849 (.ref 506),dE P "_law_row" 865 (.ref 513),dE P "_law_due" 884 (.ref 520),dE P "law" 899 (.ref 527)] 70
def o17:O:=tO #[sT "k" 190]
def o20:O:=cF "_wall" "_wall" 187 1 1 15 191
def o21:O:=fO "_wall" "_wall" (tp 0) "__main__" 164 20
def o22:O:=tO #[.type "ValueError"]
def o30(P:Params):O:=dO #[dE P "__module__" 203 (sT "formcycle.errors" 194),dE P "__firstlineno__" 207 (.int 5 206),dE P "__static_attributes__" 208 (.ref 29),dE P "__weakref__" 210 (.ref 32),dE P "__doc__" 211 .none] 3
def o31:O:=.mk (.type "type") none (Data.cls (ClassData.mk (.ofString "FormError") [.type "ValueError"] [.ref 31,.type "ValueError",.type "Exception",.type "BaseException",.type "object"] 30 (.ofString "FormError") Bool.true [] [.ref 51,.ref 70,.ref 89,.ref 108,.ref 120] Bool.false none Bool.false)) #[some (.ref 22),none,some (sT "FormError" 196),some (sT "FormError" 204),some (.builtin "ValueError.__new__"),some (.bool true)]
def o32:O:=.mk (.type "getset_descriptor") none (Data.fields #[sT "__weakref__" 209,.ref 31,.builtin "ExceptionGroup.__weakref__",.none]) #[]
def o35:O:=tO #[.ref 31]
def o44:O:=tO #[sT "self" 229,sT "turn" 230]
def o47:O:=cF "__init__" "NoTurn.__init__" 226 9 2 42 231
def o48:O:=fO "__init__" "NoTurn.__init__" (inC (tp 3) 0) "formcycle.errors" 194 47
def o49:O:=tO #[sT "turn" 234]
def o50(P:Params):O:=dO #[dE P "__module__" 221 (sT "formcycle.errors" 194),dE P "__firstlineno__" 225 (.int 7 224),dE P "__init__" 233 (.ref 48),dE P "__static_attributes__" 235 (.ref 49),dE P "__doc__" 236 .none] 2
def o51:O:=xO "NoTurn" 31 51 50 35 214 222
def o54:O:=tO #[.ref 31]
def o63:O:=tO #[sT "self" 254,sT "form" 255]
def o66:O:=cF "__init__" "NoShape.__init__" 251 13 2 61 256
def o67:O:=fO "__init__" "NoShape.__init__" (inC (tp 4) 0) "formcycle.errors" 194 66
def o68:O:=tO #[sT "form" 259]
def o69(P:Params):O:=dO #[dE P "__module__" 246 (sT "formcycle.errors" 194),dE P "__firstlineno__" 250 (.int 11 249),dE P "__init__" 258 (.ref 67),dE P "__static_attributes__" 260 (.ref 68),dE P "__doc__" 261 .none] 2
def o70:O:=xO "NoShape" 31 70 69 54 239 247
def o73:O:=tO #[.ref 31]
def o82:O:=tO #[sT "self" 279,sT "number" 280,sT "most" 281]
def o85:O:=cF "__init__" "TooGreat.__init__" 276 17 3 80 282
def o86:O:=fO "__init__" "TooGreat.__init__" (inC (tp 5) 0) "formcycle.errors" 194 85
def o87:O:=tO #[sT "most" 285,sT "number" 286]
def o88(P:Params):O:=dO #[dE P "__module__" 271 (sT "formcycle.errors" 194),dE P "__firstlineno__" 275 (.int 15 274),dE P "__init__" 284 (.ref 86),dE P "__static_attributes__" 287 (.ref 87),dE P "__doc__" 288 .none] 2
def o89:O:=xO "TooGreat" 31 89 88 73 264 272
def o92:O:=tO #[.ref 31]
def AhY:O:=tO #[sT "self" 306,sT "number" 307]
def AhB:O:=cF "__init__" "NoRoot.__init__" 303 22 2 99 308
def Ahl:O:=fO "__init__" "NoRoot.__init__" (inC (tp 6) 0) "formcycle.errors" 194 104
def AhV:O:=tO #[sT "number" 311]
def Aip(P:Params):O:=dO #[dE P "__module__" 298 (sT "formcycle.errors" 194),dE P "__firstlineno__" 302 (.int 20 301),dE P "__init__" 310 (.ref 105),dE P "__static_attributes__" 312 (.ref 106),dE P "__doc__" 313 .none] 2
def AiN:O:=xO "NoRoot" 31 108 107 92 291 299
def o111:O:=tO #[.ref 31]
def Ahu(P:Params):O:=dO #[dE P "__module__" 323 (sT "formcycle.errors" 194),dE P "__firstlineno__" 327 (.int 24 326),dE P "__static_attributes__" 328 (.ref 118),dE P "__doc__" 329 .none] 2
def Aia:O:=xO "Nought" 31 120 119 111 316 324
def Ahw:O:=tO #[sT "number" 337,sT "guess" 338,sT "better" 339]
def Ail:O:=cF "root" "root" 334 27 1 123 340
def Aid:O:=fO "root" "root" (tp 9) "formcycle.wholes" 332 128
def Ahc:O:=tO #[sT "number" 346,sT "side" 347]
def AhL:O:=cF "is_square" "is_square" 343 38 1 130 348
def AiL:O:=fO "is_square" "is_square" (tp 10) "formcycle.wholes" 332 135
def Ahf:O:=tO #[sT "number" 354,sT "most" 355]
def AiU:O:=cF "check_at_most" "check_at_most" 351 43 2 137 356
def Ah6:O:=fO "check_at_most" "check_at_most" (tp 11) "formcycle.wholes" 332 142
def AjK:O:=tO #[sT "number" 362,sT "most" 363]
def Aka:O:=cF "check_within" "check_within" 359 46 2 144 364
def AkU:O:=fO "check_within" "check_within" (tp 12) "formcycle.wholes" 332 149
def AkO:O:=tO #[.int 1 369,.int 0 370,.int 0 371,.int 1 372]
def AkD:O:=tO #[sT "turn" 377]
def Ajx:O:=cF "is_turn" "is_turn" 374 51 1 152 378
def Ajy:O:=fO "is_turn" "is_turn" (tp 15) "formcycle.turns" 367 157
def AjA:O:=tO #[sT "turn" 384]
def AlV:O:=cF "check_turn" "check_turn" 381 53 1 159 385
def Ajm:O:=fO "check_turn" "check_turn" (tp 16) "formcycle.turns" 367 164
def Ajq:O:=tO #[sT "turn" 391,sT "point" 392]
def Al1:O:=cF "led" "led" 388 56 2 166 393
def Ak8:O:=fO "led" "led" (tp 17) "formcycle.turns" 367 171
def Ak3:O:=tO #[sT "one" 399,sT "other" 400]
def AlD:O:=cF "put_behind" "put_behind" 396 59 2 173 401
def AjX:O:=fO "put_behind" "put_behind" (tp 18) "formcycle.turns" 367 178
def AkY:O:=tO #[sT "turn" 407]
def AkF:O:=cF "back" "back" 404 61 1 180 408
def Akg:O:=fO "back" "back" (tp 19) "formcycle.turns" 367 185
def Akp:O:=tO #[sT "form" 416]
def Alc:O:=cF "measure" "measure" 413 65 1 187 417
def Ai0:O:=fO "measure" "measure" (tp 21) "formcycle.forms" 411 192
def Aj4:O:=tO #[sT "form" 423,sT "point" 424,sT "x" 425,sT "y" 426]
def AkE:O:=cF "value" "value" 420 67 2 194 427
def o200:O:=fO "value" "value" (tp 22) "formcycle.forms" 411 199
def Ajz:O:=tO #[sT "form" 433,sT "turn" 434,sT "left" 435,sT "right" 436]
def Ai6:O:=cF "moved" "moved" 430 71 2 201 437
def Al4:O:=fO "moved" "moved" (tp 23) "formcycle.forms" 411 206
def AkM:O:=tO #[sT "form" 443,sT "left" 444,sT "right" 445,sT "crossed" 446]
def AjF:O:=cF "middle" "middle" 440 76 3 208 447
def Ake:O:=fO "middle" "middle" (tp 24) "formcycle.forms" 411 213
def AkB:O:=tO #[sT "form" 453,sT "number" 454]
def AlZ:O:=cF "shape" "shape" 450 79 1 215 455
def Ajr:O:=fO "shape" "shape" (tp 25) "formcycle.forms" 411 220
def AjM:O:=tO #[sT "form" 463]
def Alq:O:=cF "check_bowl" "check_bowl" 460 89 1 222 464
def AkT:O:=fO "check_bowl" "check_bowl" (tp 27) "formcycle.bowls" 458 227
def Al0:O:=tO #[sT "form" 470,sT "a" 471,sT "b" 472,sT "c" 473]
def Amd:O:=cF "stands_least" "stands_least" 467 92 1 229 474
def Alw:O:=fO "stands_least" "stands_least" (tp 28) "formcycle.bowls" 458 234
def Akl:O:=tO #[sT "form" 480,sT "turn" 481,sT "lowering" 482]
def Ajt:O:=cF "settled" "settled" 477 99 1 236 483
def AjT:O:=fO "settled" "settled" (tp 29) "formcycle.bowls" 458 241
def AlL:O:=tO #[sT "form" 489,sT "often" 490]
def AjR:O:=cF "turn_lower" "turn_lower" 486 107 1 243 491
def Ak4:O:=fO "turn_lower" "turn_lower" (tp 30) "formcycle.bowls" 458 248
def Ajh:O:=cO #[sT "own_turns" 494,sT "own_turns" 495,sF 496,iZ 112,iZ 1,iZ 0,iZ 0,iZ 3,.ref 250,.bool true,iZ 181,.ref 251,.none,.none,.none,.ref 252,iZ 497,iZ 112,sF 498]
def Amj:O:=fO "own_turns" "own_turns" (tp 31) "formcycle.bowls" 458 253
def Amg:O:=tO #[sT "form" 503,sT "turning" 504,sT "turns" 505,sT "came" 506]
def Al6:O:=cF "turns_of_least" "turns_of_least" 500 117 1 255 507
def Amm:O:=fO "turns_of_least" "turns_of_least" (tp 32) "formcycle.bowls" 458 260
def AkH:O:=tO #[sT "form" 513]
def AlP:O:=cF "turning_of_least" "turning_of_least" 510 125 1 262 514
def Ak7:O:=fO "turning_of_least" "turning_of_least" (tp 33) "formcycle.bowls" 458 267
def AlG:O:=tO #[sT "form" 524]
def Ajn:O:=cF "check_saddle" "check_saddle" 521 133 1 269 525
def Amk:O:=fO "check_saddle" "check_saddle" (tp 36) "formcycle.saddles" 517 274
def Ai1:O:=tO #[sT "form" 531,sT "far" 532,sT "b" 533]
def AlI:O:=cF "stands_level" "stands_level" 528 137 2 276 534
def AkW:O:=fO "stands_level" "stands_level" (tp 37) "formcycle.saddles" 517 281
def AjD:O:=tO #[sT "form" 540,sT "top" 541,sT "b" 542,sT "c" 543,sT "d" 544]
def AjU:O:=cF "turn_behind" "turn_behind" 537 140 2 283 545
def AjP:O:=fO "turn_behind" "turn_behind" (tp 38) "formcycle.saddles" 517 288
def AlK:O:=tO #[sT "stop" 551,sT "top" 552,sT "turn" 553]
def AiZ:O:=cF "stop_behind" "stop_behind" 548 145 2 290 554
def AlW:O:=fO "stop_behind" "stop_behind" (tp 39) "formcycle.saddles" 517 295
def Aj2:O:=tO #[sT "form" 560,sT "far" 561,sT "stop" 562]
def Akm:O:=cF "eased" "eased" 557 148 1 297 563
def AjI:O:=fO "eased" "eased" (tp 40) "formcycle.saddles" 517 302
def Amn:O:=tO #[sT "form" 569,sT "far" 570,sT "first" 571,sT "stops" 572,sT "stop" 573]
def AjE:O:=cF "stops_round" "stops_round" 566 155 1 304 574
def AjB:O:=fO "stops_round" "stops_round" (tp 41) "formcycle.saddles" 517 309
def Ak9:O:=tO #[sT "form" 580]
def Aj7:O:=cF "lowered" "lowered" 577 165 1 311 581
def Akw:O:=fO "lowered" "lowered" (tp 42) "formcycle.saddles" 517 316
def Ajg:O:=tO #[sT "self" 601,sT "form" 602,sT "lowest" 603]
def AlR:O:=cF "__init__" "Shape.__init__" 598 171 3 325 604
def Amb:O:=fO "__init__" "Shape.__init__" (inC (tp 44) 0) "formcycle.shapes" 584 330
def AjN:O:=tO #[sT "self" 610]
def Aj8:O:=cF "least" "Shape.least" 607 176 1 332 611
def Aj6:O:=fO "least" "Shape.least" (inC (tp 44) 1) "formcycle.shapes" 584 337
def Akq:O:=tO #[sT "self" 617,sT "turn" 618]
def Ajf:O:=cF "leaves" "Shape.leaves" 614 179 2 339 619
def Ai7:O:=fO "leaves" "Shape.leaves" (inC (tp 44) 2) "formcycle.shapes" 584 344
def Amf:O:=tO #[sT "self" 625,sT "other" 626]
def Alm:O:=cF "way_to" "Shape.way_to" 622 182 2 346 627
def Ajb:O:=fO "way_to" "Shape.way_to" (inC (tp 44) 3) "formcycle.shapes" 584 351
def Ajl:O:=tO #[sT "form" 630,sT "lowest" 631,sT "measure" 632]
def Aja(P:Params):O:=dO #[dE P "__module__" 593 (sT "formcycle.shapes" 584),dE P "__firstlineno__" 597 (.int 169 596),dE P "__init__" 606 (.ref 331),dE P "least" 613 (.ref 338),dE P "leaves" 621 (.ref 345),dE P "way_to" 629 (.ref 352),dE P "__static_attributes__" 633 (.ref 353),dE P "__dict__" 635 (.ref 356),dE P "__weakref__" 637 (.ref 357),dE P "__doc__" 638 .none] 4
def Al5:O:=.mk (.type "type") none (Data.cls (ClassData.mk (.ofString "Shape") [.type "object"] [.ref 355,.type "object"] 354 (.ofString "Shape") Bool.true [] [.ref 376,.ref 395] Bool.false none Bool.false)) #[none,none,some (sT "Shape" 586),some (sT "Shape" 594),some (.builtin "object.__new__"),some (.bool true)]
def Ak5:O:=.mk (.type "getset_descriptor") none (Data.fields #[sT "__dict__" 634,.ref 355,.builtin "function.__dict__",.builtin "function.__dict__#set"]) #[]
def Aj5:O:=.mk (.type "getset_descriptor") none (Data.fields #[sT "__weakref__" 636,.ref 355,.builtin "ExceptionGroup.__weakref__",.none]) #[]
def AlX:O:=tO #[.ref 355]
def Ai8:O:=tO #[sT "self" 656,sT "form" 657]
def AiY:O:=cF "__init__" "Bowl.__init__" 653 188 2 367 658
def AlE:O:=fO "__init__" "Bowl.__init__" (inC (tp 45) 0) "formcycle.shapes" 584 372
def Alb(P:Params):O:=dO #[dE P "__module__" 648 (sT "formcycle.shapes" 584),dE P "__firstlineno__" 652 (.int 186 651),dE P "__init__" 660 (.ref 373),dE P "__static_attributes__" 661 (.ref 374),dE P "__doc__" 662 .none] 2
def Alf:O:=.mk (.type "type") none (Data.cls (ClassData.mk (.ofString "Bowl") [.ref 355] [.ref 376,.ref 355,.type "object"] 375 (.ofString "Bowl") Bool.true [] [] Bool.false none Bool.false)) #[some (.ref 360),none,some (sT "Bowl" 641),some (sT "Bowl" 649),some (.builtin "object.__new__"),some (.bool true)]
def Ald:O:=tO #[.ref 355]
def Alz:O:=tO #[sT "self" 680,sT "form" 681]
def AlM:O:=cF "__init__" "Saddle.__init__" 677 192 2 386 682
def Ai3:O:=fO "__init__" "Saddle.__init__" (inC (tp 46) 0) "formcycle.shapes" 584 391
def Ajp(P:Params):O:=dO #[dE P "__module__" 672 (sT "formcycle.shapes" 584),dE P "__firstlineno__" 676 (.int 190 675),dE P "__init__" 684 (.ref 392),dE P "__static_attributes__" 685 (.ref 393),dE P "__doc__" 686 .none] 2
def Ajv:O:=.mk (.type "type") none (Data.cls (ClassData.mk (.ofString "Saddle") [.ref 355] [.ref 395,.ref 355,.type "object"] 394 (.ofString "Saddle") Bool.true [] [] Bool.false none Bool.false)) #[some (.ref 379),none,some (sT "Saddle" 665),some (sT "Saddle" 673),some (.builtin "object.__new__"),some (.bool true)]
def o400:O:=tO #[sT "form" 692]
def AnC:O:=cF "shape_of" "shape_of" 689 194 1 398 693
def Ann:O:=fO "shape_of" "shape_of" (tp 47) "formcycle.shapes" 584 403
def An3:O:=tO #[sT "one" 699,sT "other" 700]
def AmZ:O:=cF "way_between" "way_between" 696 198 2 405 701
def Aob:O:=fO "way_between" "way_between" (tp 48) "formcycle.shapes" 584 410
def AnL:O:=cO #[sT "heads" 708,sT "heads" 709,sF 710,iZ 204,iZ 2,iZ 0,iZ 0,iZ 3,.ref 412,.bool true,iZ 181,.ref 413,.none,.none,.none,.ref 414,iZ 711,iZ 204,sF 712]
def Aof:O:=fO "heads" "heads" (tp 51) "formcycle.answers" 704 415
def AmK:O:=tO #[sT "form" 717,sT "number" 718,sT "whole" 719,sT "found" 720,sT "g" 721,sT "foot" 722,sT "turn" 723]
def AmE:O:=cF "families" "families" 714 206 2 417 724
def Ano:O:=fO "families" "families" (tp 52) "formcycle.answers" 704 422
def Am6:O:=cO #[sT "roots_of_square_divisors" 727,sT "roots_of_square_divisors" 728,sF 729,iZ 218,iZ 1,iZ 0,iZ 0,iZ 3,.ref 424,.bool true,iZ 181,.ref 425,.none,.none,.none,.ref 426,iZ 730,iZ 218,sF 731]
def Ams:O:=fO "roots_of_square_divisors" "roots_of_square_divisors" (tp 53) "formcycle.answers" 704 427
def AnV:O:=cO #[sT "feet" 733,sT "feet" 734,sF 735,iZ 220,iZ 2,iZ 0,iZ 0,iZ 3,.ref 429,.bool true,iZ 181,.ref 430,.none,.none,.none,.ref 431,iZ 736,iZ 220,sF 737]
def Aoc:O:=fO "feet" "feet" (tp 54) "formcycle.answers" 704 432
def An9:O:=cO #[sT "all_answers" 739,sT "all_answers" 740,sF 741,iZ 223,iZ 2,iZ 0,iZ 0,iZ 3,.ref 434,.bool true,iZ 181,.ref 435,.none,.none,.none,.ref 436,iZ 742,iZ 223,sF 743]
def Anu:O:=fO "all_answers" "all_answers" (tp 55) "formcycle.answers" 704 437
def AmL:O:=tO #[sT "_law_script" 750,sT "_law_k" 751]
def o444:O:=cF "_law_cell" "_law_cell" 747 234 2 439 752
def AnI:O:=fO "_law_cell" "_law_cell" (tp 57) "law_formcycle_k52_answers_of_bowls" 745 444
def Anm:O:=tO #[sT "_law_found" 758]
def Anx:O:=cF "_law_whole" "_law_whole" 755 238 1 446 759
def AnE:O:=fO "_law_whole" "_law_whole" (tp 58) "law_formcycle_k52_answers_of_bowls" 745 451
def Am5:O:=cO #[sT "_law_wholes" 762,sT "_law_wholes" 763,sF 764,iZ 240,iZ 2,iZ 0,iZ 0,iZ 3,.ref 453,.bool true,iZ 181,.ref 454,.none,.none,.none,.ref 455,iZ 765,iZ 240,sF 766]
def AmX:O:=fO "_law_wholes" "_law_wholes" (tp 59) "law_formcycle_k52_answers_of_bowls" 745 456
def Ang:O:=tO #[sT "_law_form" 771]
def AmV:O:=cF "_law_bar" "_law_bar" 768 244 1 458 772
def AmC:O:=fO "_law_bar" "_law_bar" (tp 60) "law_formcycle_k52_answers_of_bowls" 745 463
def AmP:O:=tO #[sT "_law_number" 778,sT "_law_near" 779]
def AnO:O:=cF "_law_root" "_law_root" 775 246 1 465 780
def Anf:O:=fO "_law_root" "_law_root" (tp 61) "law_formcycle_k52_answers_of_bowls" 745 470
def Amx:O:=tO #[sT "_law_first" 786,sT "_law_cells" 787,sT "_law_p" 788,sT "_law_q" 789,sT "_law_r" 790,sT "_law_s" 791,sT "_law_cell_here" 792,sT "_law_k" 793]
def An6:O:=cF "_law_turn" "_law_turn" 783 251 2 472 794
def Ani:O:=fO "_law_turn" "_law_turn" (tp 62) "law_formcycle_k52_answers_of_bowls" 745 477
def AmQ:O:=tO #[sT "_law_form" 800,sT "_law_x" 801,sT "_law_y" 802]
def AmH:O:=cF "_law_value" "_law_value" 797 257 3 479 803
def Amv:O:=fO "_law_value" "_law_value" (tp 63) "law_formcycle_k52_answers_of_bowls" 745 484
def Am9:O:=tO #[sT "_law_form" 809,sT "_law_turn_here" 810,sT "_law_p" 811,sT "_law_q" 812,sT "_law_r" 813,sT "_law_s" 814,sT "_law_middle" 815]
def An8:O:=cF "_law_moved" "_law_moved" 806 259 2 486 816
def AnS:O:=fO "_law_moved" "_law_moved" (tp 64) "law_formcycle_k52_answers_of_bowls" 745 491
def Am7:O:=tO #[sT "_law_script" 822,sT "_law_most" 823,sT "_law_cell_here" 824,sT "_law_often" 825,sT "_law_m" 826,sT "_law_b" 827,sT "_law_size" 828,sT "_law_rest" 829,sT "_law_bar_here" 830,sT "_law_sign" 831]
def Anj:O:=cF "_law_taken" "_law_taken" 819 263 2 493 832
def AnK:O:=fO "_law_taken" "_law_taken" (tp 65) "law_formcycle_k52_answers_of_bowls" 745 498
def AmS:O:=tO #[sT "_law_form" 838,sT "_law_a" 839,sT "_law_b" 840,sT "_law_c" 841,sT "_law_p" 842,sT "_law_q" 843,sT "_law_r" 844,sT "_law_s" 845,sT "_law_k" 846]
def AnF:O:=cF "_law_settled" "_law_settled" 835 275 1 500 847
def AmU:O:=fO "_law_settled" "_law_settled" (tp 66) "law_formcycle_k52_answers_of_bowls" 745 505
def Amq:O:=tO #[sT "_law_least" 853,sT "_law_number" 854,sT "_law_y" 855,sT "_law_a" 856,sT "_law_b" 857,sT "_law_c" 858,sT "_law_rest" 859,sT "_law_side" 860,sT "_law_found" 861,sT "_law_top" 862]
def Anw:O:=cF "_law_row" "_law_row" 850 286 3 507 863
def Aoe:O:=fO "_law_row" "_law_row" (tp 67) "law_formcycle_k52_answers_of_bowls" 745 512
def AmR:O:=tO #[sT "_law_form" 869,sT "_law_number" 870,sT "_law_least" 871,sT "_law_turn_here" 872,sT "_law_p" 873,sT "_law_q" 874,sT "_law_r" 875,sT "_law_s" 876,sT "_law_most" 877,sT "_law_found" 878,sT "_law_y" 879,sT "_law_x" 880,sT "_law_z" 881]
def AmM:O:=cF "_law_due" "_law_due" 866 299 2 514 882
def AnW:O:=fO "_law_due" "_law_due" (tp 68) "law_formcycle_k52_answers_of_bowls" 745 519
def AmG:O:=tO #[sT "_law_script" 888,sT "_law_cells" 889,sT "_law_often" 890,sT "_law_near" 891,sT "_law_form" 892,sT "_law_number" 893,sT "_law_due_here" 894,sT "_law_found" 895,sT "_law_point" 896]
def Anh:O:=cF "law" "law" 885 308 1 521 897
def Am8:O:=fO "law" "law" (tp 69) "law_formcycle_k52_answers_of_bowls" 745 526
def KK:Params→Frag :=
fun P=>(nat_lit 2,o2)::(nat_lit 3,o3 P)::(nat_lit 15,tE)::(nat_lit 17,o17)::(nat_lit 18,tE)::(nat_lit 20,o20)::(nat_lit 21,o21)::(nat_lit 22,o22)::(nat_lit 29,tE)::(nat_lit 30,o30 P)::(nat_lit 31,o31)::(nat_lit 32,o32)::(nat_lit 35,o35)::(nat_lit 42,tE)::(nat_lit 44,o44)::(nat_lit 45,tE)::(nat_lit 47,o47)::(nat_lit 48,o48)::(nat_lit 49,o49)::(nat_lit 50,o50 P)::(nat_lit 51,o51)::(nat_lit 54,o54)::(nat_lit 61,tE)::(nat_lit 63,o63)::(nat_lit 64,tE)::(nat_lit 66,o66)::(nat_lit 67,o67)::(nat_lit 68,o68)::(nat_lit 69,o69 P)::(nat_lit 70,o70)::(nat_lit 73,o73)::(nat_lit 80,tE)::(nat_lit 82,o82)::(nat_lit 83,tE)::(nat_lit 85,o85)::(nat_lit 86,o86)::(nat_lit 87,o87)::(nat_lit 88,o88 P)::(nat_lit 89,o89)::(nat_lit 92,o92)::(nat_lit 99,tE)::(nat_lit 101,AhY)::(nat_lit 102,tE)::(nat_lit 104,AhB)::(nat_lit 105,Ahl)::(nat_lit 106,AhV)::(nat_lit 107,Aip P)::(nat_lit 108,AiN)::(nat_lit 111,o111)::(nat_lit 118,tE)::(nat_lit 119,Ahu P)::(nat_lit 120,Aia)::(nat_lit 123,tE)::(nat_lit 125,Ahw)::(nat_lit 126,tE)::(nat_lit 128,Ail)::(nat_lit 129,Aid)::(nat_lit 130,tE)::(nat_lit 132,Ahc)::(nat_lit 133,tE)::(nat_lit 135,AhL)::(nat_lit 136,AiL)::(nat_lit 137,tE)::(nat_lit 139,Ahf)::(nat_lit 140,tE)::(nat_lit 142,AiU)::(nat_lit 143,Ah6)::(nat_lit 144,tE)::(nat_lit 146,AjK)::(nat_lit 147,tE)::(nat_lit 149,Aka)::(nat_lit 150,AkU)::(nat_lit 151,AkO)::(nat_lit 152,tE)::(nat_lit 154,AkD)::(nat_lit 155,tE)::(nat_lit 157,Ajx)::(nat_lit 158,Ajy)::(nat_lit 159,tE)::(nat_lit 161,AjA)::(nat_lit 162,tE)::(nat_lit 164,AlV)::(nat_lit 165,Ajm)::(nat_lit 166,tE)::(nat_lit 168,Ajq)::(nat_lit 169,tE)::(nat_lit 171,Al1)::(nat_lit 172,Ak8)::(nat_lit 173,tE)::(nat_lit 175,Ak3)::(nat_lit 176,tE)::(nat_lit 178,AlD)::(nat_lit 179,AjX)::(nat_lit 180,tE)::(nat_lit 182,AkY)::(nat_lit 183,tE)::(nat_lit 185,AkF)::(nat_lit 186,Akg)::(nat_lit 187,tE)::(nat_lit 189,Akp)::(nat_lit 190,tE)::(nat_lit 192,Alc)::(nat_lit 193,Ai0)::(nat_lit 194,tE)::(nat_lit 196,Aj4)::(nat_lit 197,tE)::(nat_lit 199,AkE)::(nat_lit 200,o200)::(nat_lit 201,tE)::(nat_lit 203,Ajz)::(nat_lit 204,tE)::(nat_lit 206,Ai6)::(nat_lit 207,Al4)::(nat_lit 208,tE)::(nat_lit 210,AkM)::(nat_lit 211,tE)::(nat_lit 213,AjF)::(nat_lit 214,Ake)::(nat_lit 215,tE)::(nat_lit 217,AkB)::(nat_lit 218,tE)::(nat_lit 220,AlZ)::(nat_lit 221,Ajr)::(nat_lit 222,tE)::(nat_lit 224,AjM)::(nat_lit 225,tE)::(nat_lit 227,Alq)::(nat_lit 228,AkT)::(nat_lit 229,tE)::(nat_lit 231,Al0)::(nat_lit 232,tE)::(nat_lit 234,Amd)::(nat_lit 235,Alw)::(nat_lit 236,tE)::(nat_lit 238,Akl)::(nat_lit 239,tE)::(nat_lit 241,Ajt)::(nat_lit 242,AjT)::(nat_lit 243,tE)::(nat_lit 245,AlL)::(nat_lit 246,tE)::(nat_lit 248,AjR)::(nat_lit 249,Ak4)::(nat_lit 250,tE)::(nat_lit 253,Ajh)::(nat_lit 254,Amj)::(nat_lit 255,tE)::(nat_lit 257,Amg)::(nat_lit 258,tE)::(nat_lit 260,Al6)::(nat_lit 261,Amm)::(nat_lit 262,tE)::(nat_lit 264,AkH)::(nat_lit 265,tE)::(nat_lit 267,AlP)::(nat_lit 268,Ak7)::(nat_lit 269,tE)::(nat_lit 271,AlG)::(nat_lit 272,tE)::(nat_lit 274,Ajn)::(nat_lit 275,Amk)::(nat_lit 276,tE)::(nat_lit 278,Ai1)::(nat_lit 279,tE)::(nat_lit 281,AlI)::(nat_lit 282,AkW)::(nat_lit 283,tE)::(nat_lit 285,AjD)::(nat_lit 286,tE)::(nat_lit 288,AjU)::(nat_lit 289,AjP)::(nat_lit 290,tE)::(nat_lit 292,AlK)::(nat_lit 293,tE)::(nat_lit 295,AiZ)::(nat_lit 296,AlW)::(nat_lit 297,tE)::(nat_lit 299,Aj2)::(nat_lit 300,tE)::(nat_lit 302,Akm)::(nat_lit 303,AjI)::(nat_lit 304,tE)::(nat_lit 306,Amn)::(nat_lit 307,tE)::(nat_lit 309,AjE)::(nat_lit 310,AjB)::(nat_lit 311,tE)::(nat_lit 313,Ak9)::(nat_lit 314,tE)::(nat_lit 316,Aj7)::(nat_lit 317,Akw)::(nat_lit 325,tE)::(nat_lit 327,Ajg)::(nat_lit 328,tE)::(nat_lit 330,AlR)::(nat_lit 331,Amb)::(nat_lit 332,tE)::(nat_lit 334,AjN)::(nat_lit 335,tE)::(nat_lit 337,Aj8)::(nat_lit 338,Aj6)::(nat_lit 339,tE)::(nat_lit 341,Akq)::(nat_lit 342,tE)::(nat_lit 344,Ajf)::(nat_lit 345,Ai7)::(nat_lit 346,tE)::(nat_lit 348,Amf)::(nat_lit 349,tE)::(nat_lit 351,Alm)::(nat_lit 352,Ajb)::(nat_lit 353,Ajl)::(nat_lit 354,Aja P)::(nat_lit 355,Al5)::(nat_lit 356,Ak5)::(nat_lit 357,Aj5)::(nat_lit 360,AlX)::(nat_lit 367,tE)::(nat_lit 369,Ai8)::(nat_lit 370,tE)::(nat_lit 372,AiY)::(nat_lit 373,AlE)::(nat_lit 374,tE)::(nat_lit 375,Alb P)::(nat_lit 376,Alf)::(nat_lit 379,Ald)::(nat_lit 386,tE)::(nat_lit 388,Alz)::(nat_lit 389,tE)::(nat_lit 391,AlM)::(nat_lit 392,Ai3)::(nat_lit 393,tE)::(nat_lit 394,Ajp P)::(nat_lit 395,Ajv)::(nat_lit 398,tE)::(nat_lit 400,o400)::(nat_lit 401,tE)::(nat_lit 403,AnC)::(nat_lit 404,Ann)::(nat_lit 405,tE)::(nat_lit 407,An3)::(nat_lit 408,tE)::(nat_lit 410,AmZ)::(nat_lit 411,Aob)::(nat_lit 412,tE)::(nat_lit 415,AnL)::(nat_lit 416,Aof)::(nat_lit 417,tE)::(nat_lit 419,AmK)::(nat_lit 420,tE)::(nat_lit 422,AmE)::(nat_lit 423,Ano)::(nat_lit 424,tE)::(nat_lit 427,Am6)::(nat_lit 428,Ams)::(nat_lit 429,tE)::(nat_lit 432,AnV)::(nat_lit 433,Aoc)::(nat_lit 434,tE)::(nat_lit 437,An9)::(nat_lit 438,Anu)::(nat_lit 439,tE)::(nat_lit 441,AmL)::(nat_lit 442,tE)::(nat_lit 444,o444)::(nat_lit 445,AnI)::(nat_lit 446,tE)::(nat_lit 448,Anm)::(nat_lit 449,tE)::(nat_lit 451,Anx)::(nat_lit 452,AnE)::(nat_lit 453,tE)::(nat_lit 456,Am5)::(nat_lit 457,AmX)::(nat_lit 458,tE)::(nat_lit 460,Ang)::(nat_lit 461,tE)::(nat_lit 463,AmV)::(nat_lit 464,AmC)::(nat_lit 465,tE)::(nat_lit 467,AmP)::(nat_lit 468,tE)::(nat_lit 470,AnO)::(nat_lit 471,Anf)::(nat_lit 472,tE)::(nat_lit 474,Amx)::(nat_lit 475,tE)::(nat_lit 477,An6)::(nat_lit 478,Ani)::(nat_lit 479,tE)::(nat_lit 481,AmQ)::(nat_lit 482,tE)::(nat_lit 484,AmH)::(nat_lit 485,Amv)::(nat_lit 486,tE)::(nat_lit 488,Am9)::(nat_lit 489,tE)::(nat_lit 491,An8)::(nat_lit 492,AnS)::(nat_lit 493,tE)::(nat_lit 495,Am7)::(nat_lit 496,tE)::(nat_lit 498,Anj)::(nat_lit 499,AnK)::(nat_lit 500,tE)::(nat_lit 502,AmS)::(nat_lit 503,tE)::(nat_lit 505,AnF)::(nat_lit 506,AmU)::(nat_lit 507,tE)::(nat_lit 509,Amq)::(nat_lit 510,tE)::(nat_lit 512,Anw)::(nat_lit 513,Aoe)::(nat_lit 514,tE)::(nat_lit 516,AmR)::(nat_lit 517,tE)::(nat_lit 519,AmM)::(nat_lit 520,AnW)::(nat_lit 521,tE)::(nat_lit 523,AmG)::(nat_lit 524,tE)::(nat_lit 526,Anh)::(nat_lit 527,Am8)::[]
def Bp:O:=nO #[]
def AdU:O:=cO #[sT "<module>" 182,sT "<module>" 183,sF 184,iZ 1,iZ 0,iZ 0,iZ 0,iZ 0,.ref 11,.bool false,iZ 181,.ref 12,.none,.none,.none,.none,iZ 185,iZ 1,sF 186]
def Ac7:O:=rO 13 3 "__main__" 164
def AiX(P:Params):O:=dO #[dE P "__name__" 165 (sT "formcycle.wholes" 332),dE P "__doc__" 166 .none,dE P "__package__" 167 .none,dE P "__loader__" 168 (.builtin "__main__.__loader__#opaque"),dE P "__spec__" 169 .none,dE P "__annotations__" 170 (.ref 6),dE P "__builtins__" 171 (.ref 4),dE P "__file__" 173 (sF 172),dE P "__cached__" 174 .none,dE P "_wall" 193 (.ref 21),dE P "FormError" 213 (.ref 31),dE P "NoTurn" 238 (.ref 51),dE P "NoShape" 263 (.ref 70),dE P "TooGreat" 290 (.ref 89),dE P "NoRoot" 315 (.ref 108),dE P "Nought" 331 (.ref 120),dE P "root" 342 (.ref 129),dE P "is_square" 350 (.ref 136),dE P "check_at_most" 358 (.ref 143)] 19
def Aix:O:=nO #[iZ 1,iZ 0,.ref 20,iZ 5,iZ 0,.ref 27,iZ 7,iZ 0,.ref 40,iZ 11,iZ 0,.ref 59,iZ 15,iZ 0,.ref 78,iZ 20,iZ 0,.ref 97,iZ 24,iZ 0,.ref 116,iZ 27,iZ 0,.ref 128,iZ 38,iZ 0,.ref 135,iZ 43,iZ 0,.ref 142]
abbrev fNq(n q:String)(w:Stmt):O:=.mk .none none (Data.func (FuncData.mk (.ofString n) (.ofString q) (fA w) (.stmts (fB w)) (fS w) 0 [] .none .none .none .none none .none .none 0)) #[]
def Adq:O:=fNq "_wall" "_wall" (tp 0)
def Fd:O:=bO #[.builtin "type.__prepare__",.type "type"]
def AdW(P:Params):O:=dO #[dE P "__module__" 203 (sT "formcycle.errors" 194),dE P "__qualname__" 205 (sT "FormError" 204),dE P "__firstlineno__" 207 (.int 5 206),dE P "__static_attributes__" 208 (.ref 29)] 4
def Acz:O:=cO #[sT "FormError" 198,sT "FormError" 199,sF 200,iZ 5,iZ 0,iZ 0,iZ 0,iZ 0,.ref 25,.bool false,iZ 181,.ref 26,.none,.none,.none,.none,iZ 201,iZ 5,sF 202]
def AbP:O:=rO 27 24 "formcycle.errors" 194
def AdO:O:=sO 31
def AbB:O:=bO #[.builtin "object.__init_subclass__",.ref 31]
def Acg(P:Params):O:=dO #[dE P "__module__" 221 (sT "formcycle.errors" 194),dE P "__qualname__" 223 (sT "NoTurn" 222),dE P "__firstlineno__" 225 (.int 7 224),dE P "__init__" 233 (.ref 48),dE P "__static_attributes__" 235 (.ref 49)] 5
def AdT:O:=nO #[iZ 9,iZ 4,.ref 47]
def AcI:O:=cO #[sT "NoTurn" 216,sT "NoTurn" 217,sF 218,iZ 7,iZ 0,iZ 0,iZ 0,iZ 0,.ref 38,.bool false,iZ 181,.ref 39,.none,.none,.none,.none,iZ 219,iZ 7,sF 220]
def Ad8:O:=rO 40 37 "formcycle.errors" 194
def Ac3:O:=fNq "__init__" "NoTurn.__init__" (inC (tp 3) 0)
def AcN:O:=sO 51
def Aco:O:=bO #[.builtin "object.__init_subclass__",.ref 51]
def AdI(P:Params):O:=dO #[dE P "__module__" 246 (sT "formcycle.errors" 194),dE P "__qualname__" 248 (sT "NoShape" 247),dE P "__firstlineno__" 250 (.int 11 249),dE P "__init__" 258 (.ref 67),dE P "__static_attributes__" 260 (.ref 68)] 5
def AbS:O:=nO #[iZ 13,iZ 4,.ref 66]
def Aeb:O:=cO #[sT "NoShape" 241,sT "NoShape" 242,sF 243,iZ 11,iZ 0,iZ 0,iZ 0,iZ 0,.ref 57,.bool false,iZ 181,.ref 58,.none,.none,.none,.none,iZ 244,iZ 11,sF 245]
def Adt:O:=rO 59 56 "formcycle.errors" 194
def AbD:O:=fNq "__init__" "NoShape.__init__" (inC (tp 4) 0)
def Adj:O:=sO 70
def AdD:O:=bO #[.builtin "object.__init_subclass__",.ref 70]
def Ac9(P:Params):O:=dO #[dE P "__module__" 271 (sT "formcycle.errors" 194),dE P "__qualname__" 273 (sT "TooGreat" 272),dE P "__firstlineno__" 275 (.int 15 274),dE P "__init__" 284 (.ref 86),dE P "__static_attributes__" 287 (.ref 87)] 5
def AcJ:O:=nO #[iZ 17,iZ 4,.ref 85]
def Acv:O:=cO #[sT "TooGreat" 266,sT "TooGreat" 267,sF 268,iZ 15,iZ 0,iZ 0,iZ 0,iZ 0,.ref 76,.bool false,iZ 181,.ref 77,.none,.none,.none,.none,iZ 269,iZ 15,sF 270]
def AcC:O:=rO 78 75 "formcycle.errors" 194
def AcQ:O:=fNq "__init__" "TooGreat.__init__" (inC (tp 5) 0)
def Ad5:O:=sO 89
def AdR:O:=bO #[.builtin "object.__init_subclass__",.ref 89]
def AcR(P:Params):O:=dO #[dE P "__module__" 298 (sT "formcycle.errors" 194),dE P "__qualname__" 300 (sT "NoRoot" 299),dE P "__firstlineno__" 302 (.int 20 301),dE P "__init__" 310 (.ref 105),dE P "__static_attributes__" 312 (.ref 106)] 5
def Ach:O:=nO #[iZ 22,iZ 4,.ref 104]
def AdM:O:=cO #[sT "NoRoot" 293,sT "NoRoot" 294,sF 295,iZ 20,iZ 0,iZ 0,iZ 0,iZ 0,.ref 95,.bool false,iZ 181,.ref 96,.none,.none,.none,.none,iZ 296,iZ 20,sF 297]
def AbA:O:=rO 97 94 "formcycle.errors" 194
def Z9:O:=fNq "__init__" "NoRoot.__init__" (inC (tp 6) 0)
def ZW:O:=sO 108
def Z8:O:=bO #[.builtin "object.__init_subclass__",.ref 108]
def Z6(P:Params):O:=dO #[dE P "__module__" 323 (sT "formcycle.errors" 194),dE P "__qualname__" 325 (sT "Nought" 324),dE P "__firstlineno__" 327 (.int 24 326),dE P "__static_attributes__" 328 (.ref 118)] 4
def Zn:O:=cO #[sT "Nought" 318,sT "Nought" 319,sF 320,iZ 24,iZ 0,iZ 0,iZ 0,iZ 0,.ref 114,.bool false,iZ 181,.ref 115,.none,.none,.none,.none,iZ 321,iZ 24,sF 322]
def Zo:O:=rO 116 113 "formcycle.errors" 194
def YJ:O:=sO 120
def ZV:O:=bO #[.builtin "object.__init_subclass__",.ref 120]
def Y6:O:=fNq "root" "root" (tp 9)
def YD:O:=fNq "is_square" "is_square" (tp 10)
def Zm:O:=fNq "check_at_most" "check_at_most" (tp 11)
def Alv(P:Params):O:=dO #[dE P "__name__" 165 (sT "formcycle.shapes" 584),dE P "__doc__" 166 .none,dE P "__package__" 167 .none,dE P "__loader__" 168 (.builtin "__main__.__loader__#opaque"),dE P "__spec__" 169 .none,dE P "__annotations__" 170 (.ref 6),dE P "__builtins__" 171 (.ref 4),dE P "__file__" 173 (sF 172),dE P "__cached__" 174 .none,dE P "_wall" 193 (.ref 21),dE P "FormError" 213 (.ref 31),dE P "NoTurn" 238 (.ref 51),dE P "NoShape" 263 (.ref 70),dE P "TooGreat" 290 (.ref 89),dE P "NoRoot" 315 (.ref 108),dE P "Nought" 331 (.ref 120),dE P "root" 342 (.ref 129),dE P "is_square" 350 (.ref 136),dE P "check_at_most" 358 (.ref 143),dE P "check_within" 366 (.ref 150),dE P "SAME" 373 (.ref 151),dE P "is_turn" 380 (.ref 158),dE P "check_turn" 387 (.ref 165),dE P "led" 395 (.ref 172),dE P "put_behind" 403 (.ref 179),dE P "back" 410 (.ref 186),dE P "measure" 419 (.ref 193),dE P "value" 429 (.ref 200),dE P "moved" 439 (.ref 207),dE P "middle" 449 (.ref 214),dE P "shape" 457 (.ref 221),dE P "check_bowl" 466 (.ref 228),dE P "stands_least" 476 (.ref 235),dE P "settled" 485 (.ref 242),dE P "turn_lower" 493 (.ref 249),dE P "own_turns" 499 (.ref 254),dE P "turns_of_least" 509 (.ref 261),dE P "turning_of_least" 516 (.ref 268),dE P "MOST_MEASURE" 520 (.int 4000 519),dE P "check_saddle" 527 (.ref 275),dE P "stands_level" 536 (.ref 282),dE P "turn_behind" 547 (.ref 289),dE P "stop_behind" 556 (.ref 296),dE P "eased" 565 (.ref 303),dE P "stops_round" 576 (.ref 310),dE P "lowered" 583 (.ref 317),dE P "Shape" 640 (.ref 355),dE P "Bowl" 664 (.ref 376),dE P "Saddle" 688 (.ref 395)] 49
def Ahr:O:=nO #[iZ 1,iZ 0,.ref 20,iZ 5,iZ 0,.ref 27,iZ 7,iZ 0,.ref 40,iZ 11,iZ 0,.ref 59,iZ 15,iZ 0,.ref 78,iZ 20,iZ 0,.ref 97,iZ 24,iZ 0,.ref 116,iZ 27,iZ 0,.ref 128,iZ 38,iZ 0,.ref 135,iZ 43,iZ 0,.ref 142,iZ 46,iZ 0,.ref 149,iZ 51,iZ 0,.ref 157,iZ 53,iZ 0,.ref 164,iZ 56,iZ 0,.ref 171,iZ 59,iZ 0,.ref 178,iZ 61,iZ 0,.ref 185,iZ 65,iZ 0,.ref 192,iZ 67,iZ 0,.ref 199,iZ 71,iZ 0,.ref 206,iZ 76,iZ 0,.ref 213,iZ 79,iZ 0,.ref 220,iZ 89,iZ 0,.ref 227,iZ 92,iZ 0,.ref 234,iZ 99,iZ 0,.ref 241,iZ 107,iZ 0,.ref 248,iZ 112,iZ 0,.ref 253,iZ 117,iZ 0,.ref 260,iZ 125,iZ 0,.ref 267,iZ 133,iZ 0,.ref 274,iZ 137,iZ 0,.ref 281,iZ 140,iZ 0,.ref 288,iZ 145,iZ 0,.ref 295,iZ 148,iZ 0,.ref 302,iZ 155,iZ 0,.ref 309,iZ 165,iZ 0,.ref 316,iZ 169,iZ 0,.ref 323,iZ 186,iZ 0,.ref 365,iZ 190,iZ 0,.ref 384]
def Aew:O:=fNq "check_within" "check_within" (tp 12)
def Afh:O:=fNq "is_turn" "is_turn" (tp 15)
def Afa:O:=fNq "check_turn" "check_turn" (tp 16)
def Ae5:O:=fNq "led" "led" (tp 17)
def Aek:O:=fNq "put_behind" "put_behind" (tp 18)
def Afv:O:=fNq "back" "back" (tp 19)
def Af7:O:=fNq "measure" "measure" (tp 21)
def AeW:O:=fNq "value" "value" (tp 22)
def Aeo:O:=fNq "moved" "moved" (tp 23)
def Agl:O:=fNq "middle" "middle" (tp 24)
def AfE:O:=fNq "shape" "shape" (tp 25)
def Aex:O:=fNq "check_bowl" "check_bowl" (tp 27)
def AfL:O:=fNq "stands_least" "stands_least" (tp 28)
def AfA:O:=fNq "settled" "settled" (tp 29)
def AeU:O:=fNq "turn_lower" "turn_lower" (tp 30)
def Afm:O:=fNq "own_turns" "own_turns" (tp 31)
def Agi:O:=fNq "turns_of_least" "turns_of_least" (tp 32)
def AfR:O:=fNq "turning_of_least" "turning_of_least" (tp 33)
def Aft:O:=fNq "check_saddle" "check_saddle" (tp 36)
def Af2:O:=fNq "stands_level" "stands_level" (tp 37)
def AeQ:O:=fNq "turn_behind" "turn_behind" (tp 38)
def AeH:O:=fNq "stop_behind" "stop_behind" (tp 39)
def AeC:O:=fNq "eased" "eased" (tp 40)
def Ags:O:=fNq "stops_round" "stops_round" (tp 41)
def Agh:O:=fNq "lowered" "lowered" (tp 42)
def Agj(P:Params):O:=dO #[dE P "__module__" 593 (sT "formcycle.shapes" 584),dE P "__qualname__" 595 (sT "Shape" 594),dE P "__firstlineno__" 597 (.int 169 596),dE P "__init__" 606 (.ref 331),dE P "least" 613 (.ref 338),dE P "leaves" 621 (.ref 345),dE P "way_to" 629 (.ref 352),dE P "__static_attributes__" 633 (.ref 353)] 8
def Aep:O:=nO #[iZ 171,iZ 4,.ref 330,iZ 176,iZ 4,.ref 337,iZ 179,iZ 4,.ref 344,iZ 182,iZ 4,.ref 351]
def Afp:O:=cO #[sT "Shape" 588,sT "Shape" 589,sF 590,iZ 169,iZ 0,iZ 0,iZ 0,iZ 0,.ref 321,.bool false,iZ 181,.ref 322,.none,.none,.none,.none,iZ 591,iZ 169,sF 592]
def Ae4:O:=rO 323 320 "formcycle.shapes" 584
def AeA:O:=fNq "__init__" "Shape.__init__" (inC (tp 44) 0)
def Afe:O:=fNq "least" "Shape.least" (inC (tp 44) 1)
def AfV:O:=fNq "leaves" "Shape.leaves" (inC (tp 44) 2)
def AfX:O:=fNq "way_to" "Shape.way_to" (inC (tp 44) 3)
def Aeu:O:=sO 355
def AeN:O:=bO #[.builtin "object.__init_subclass__",.ref 355]
def Af0(P:Params):O:=dO #[dE P "__module__" 648 (sT "formcycle.shapes" 584),dE P "__qualname__" 650 (sT "Bowl" 649),dE P "__firstlineno__" 652 (.int 186 651),dE P "__init__" 660 (.ref 373),dE P "__static_attributes__" 661 (.ref 374)] 5
def AeP:O:=nO #[iZ 188,iZ 4,.ref 372]
def AeF:O:=cO #[sT "Bowl" 643,sT "Bowl" 644,sF 645,iZ 186,iZ 0,iZ 0,iZ 0,iZ 0,.ref 363,.bool false,iZ 181,.ref 364,.none,.none,.none,.none,iZ 646,iZ 186,sF 647]
def AfQ:O:=rO 365 362 "formcycle.shapes" 584
def Afn:O:=fNq "__init__" "Bowl.__init__" (inC (tp 45) 0)
def AeX:O:=sO 376
def Age:O:=bO #[.builtin "object.__init_subclass__",.ref 376]
def AeJ(P:Params):O:=dO #[dE P "__module__" 672 (sT "formcycle.shapes" 584),dE P "__qualname__" 674 (sT "Saddle" 673),dE P "__firstlineno__" 676 (.int 190 675),dE P "__init__" 684 (.ref 392),dE P "__static_attributes__" 685 (.ref 393)] 5
def AfB:O:=nO #[iZ 192,iZ 4,.ref 391]
def Afj:O:=cO #[sT "Saddle" 667,sT "Saddle" 668,sF 669,iZ 190,iZ 0,iZ 0,iZ 0,iZ 0,.ref 382,.bool false,iZ 181,.ref 383,.none,.none,.none,.none,iZ 670,iZ 190,sF 671]
def AeK:O:=rO 384 381 "formcycle.shapes" 584
def Aen:O:=fNq "__init__" "Saddle.__init__" (inC (tp 46) 0)
def Afi:O:=sO 395
def Agp:O:=bO #[.builtin "object.__init_subclass__",.ref 395]
def tr0(P:Params):BT:=Nd (boot_o_0 P) (Nd (boot_o_1 P) (Nd (boot_o_3 P) (Lf (boot_o_7 P)) (Lf tE)) (Nd (boot_o_5 P) (Lf (boot_o_9 P)) (Lf AdU))) (Nd (boot_o_2 P) (Nd (boot_o_4 P) (Lf (boot_o_8 P)) (Lf Bp)) (Nd (boot_o_6 P) (Lf (boot_o_10 P)) (Lf Ac7)))
def St0(w:World)(os:OsState):SharedT:=⟨tr0 w.params,15,Life.mk [] [] [] 0 [] [] Bool.false #[] [] 0 Bool.false Bool.false Bool.false 0 [2000,10,10] Bool.false 0 Bool.true [] [] 0 Bool.false,Array.mk [],Drawn.mk 0 0 0 0,187,os⟩
def ps0:Pos:=⟨0,0,0,0⟩
def An7(P:Params):BT:=Nd (boot_o_0 P) (Nd (boot_o_1 P) (Nd (AiX P) (Nd (boot_o_7 P) (Nd tE (Nd o31 (Nd o63 (Lf Y6) .nil) (Lf tE)) (Nd o47 (Nd AcC (Lf Ah6) .nil) (Lf o111))) (Nd Fd (Nd AdT (Nd Adj (Lf AhL) .nil) (Lf Z9)) (Nd Fd (Lf o87) (Lf (Ahu P))))) (Nd tE (Nd Adq (Nd o35 (Nd o67 (Lf Bp) .nil) (Lf tE)) (Nd o51 (Lf tE) (Lf Bp))) (Nd Acz (Nd Bp (Nd (Ac9 P) (Lf Ahf) .nil) (Lf (Aip P))) (Nd Aeb (Lf AdR) (Lf tE))))) (Nd (boot_o_5 P) (Nd (boot_o_9 P) (Nd o17 (Nd AdO (Nd AbD (Lf Aid) .nil) (Lf AdM)) (Nd o49 (Lf Bp) (Lf (Z6 P)))) (Nd tE (Nd Ad8 (Nd o73 (Lf tE) .nil) (Lf Ahl)) (Nd tE (Lf o89) (Lf YJ)))) (Nd AdU (Nd o21 (Nd (Acg P) (Nd (o69 P) (Lf tE) .nil) (Lf AhY)) (Nd Aco (Lf o85) (Lf Zo))) (Nd tE (Nd tE (Nd AcJ (Lf Zm) .nil) (Lf ZW)) (Nd tE (Lf Fd) (Lf Ahw)))))) (Nd (boot_o_2 P) (Nd (boot_o_4 P) (Nd (boot_o_8 P) (Nd Bp (Nd o32 (Nd tE (Lf Ail) .nil) (Lf Ach)) (Nd o48 (Lf tE) (Lf Fd))) (Nd (AdW P) (Nd AcI (Nd AdD (Lf AiL) .nil) (Lf AhB)) (Nd (AdI P) (Lf (o88 P)) (Lf Aia)))) (Nd Aix (Nd o20 (Nd Fd (Nd o68 (Lf Ahc) .nil) (Lf Bp)) (Nd AcN (Lf AcQ) (Lf Zn))) (Nd AbP (Nd o44 (Nd tE (Lf tE) .nil) (Lf AiN)) (Nd Adt (Lf o92) (Lf Bp))))) (Nd (boot_o_6 P) (Nd (boot_o_10 P) (Nd tE (Nd AbB (Nd o66 (Lf tE) .nil) (Lf AbA)) (Nd (o50 P) (Lf o82) (Lf tE))) (Nd Bp (Nd tE (Nd Fd (Lf Bp) .nil) (Lf AhV)) (Nd AbS (Lf Ad5) (Lf ZV)))) (Nd Ac7 (Nd o22 (Nd tE (Nd o70 (Lf YD) .nil) (Lf tE)) (Nd o54 (Lf o86) (Lf tE))) (Nd (o30 P) (Nd Ac3 (Nd Acv (Lf AiU) .nil) (Lf Z8)) (Nd Bp (Lf (AcR P)) (Lf tE))))))
def Alh(w:World)(os:OsState):SharedT:=⟨An7 w.params,144,Life.mk [] [] [] 0 [] [] Bool.false #[] [] 0 Bool.false Bool.false Bool.false 0 [2000,10,10] Bool.false 0 Bool.true [] [] 0 Bool.false,Array.mk [],Drawn.mk 0 0 0 0,359,os⟩
def Ak0:Pos:=⟨43,0,45,36⟩
def AnQ(P:Params):BT:=Nd (boot_o_0 P) (Nd (boot_o_1 P) (Nd (Alv P) (Nd (boot_o_7 P) (Nd tE (Nd o31 (Nd o63 (Nd Y6 (Lf tE) (Lf AfB)) (Nd Af7 (Lf Fd) .nil)) (Nd tE (Nd tE (Lf AeQ) .nil) (Nd Bp (Lf Alm) .nil))) (Nd o47 (Nd AcC (Nd Ah6 (Lf AlG) .nil) (Nd Al4 (Lf tE) .nil)) (Nd o111 (Nd Ak3 (Lf AjI) .nil) (Nd tE (Lf tE) .nil)))) (Nd Fd (Nd AdT (Nd Adj (Nd AhL (Lf Bp) (Lf AlM)) (Nd AkE (Lf Ajg) .nil)) (Nd Z9 (Nd Bp (Lf AiZ) .nil) (Nd Al0 (Lf AeN) .nil))) (Nd Fd (Nd o87 (Nd AkO (Lf tE) .nil) (Nd tE (Lf AfV) .nil)) (Nd (Ahu P) (Nd tE (Lf tE) .nil) (Nd AeU (Lf (Alb P)) .nil))))) (Nd tE (Nd Adq (Nd o35 (Nd o67 (Nd Bp (Lf Agi) (Lf Bp)) (Nd Bp (Lf Afp) .nil)) (Nd tE (Nd Afa (Lf Bp) .nil) (Nd Alq (Lf Al5) .nil))) (Nd o51 (Nd tE (Nd tE (Lf Amk) .nil) (Nd tE (Lf tE) .nil)) (Nd Bp (Nd AjX (Lf tE) .nil) (Nd tE (Lf Afn) .nil)))) (Nd Acz (Nd Bp (Nd (Ac9 P) (Nd Ahf (Lf AlP) (Lf Ajv)) (Nd Ajz (Lf Amb) .nil)) (Nd (Aip P) (Nd Al1 (Lf Aj2) .nil) (Nd Alw (Lf tE) .nil))) (Nd Aeb (Nd AdR (Nd tE (Lf tE) .nil) (Nd AfE (Lf Bp) .nil)) (Nd tE (Nd tE (Lf Agh) .nil) (Nd Bp (Lf Ald) .nil)))))) (Nd (boot_o_5 P) (Nd (boot_o_9 P) (Nd o17 (Nd AdO (Nd AbD (Nd Aid (Lf Amg) (Lf AeK)) (Nd Ai0 (Lf tE) .nil)) (Nd AdM (Nd AjA (Lf AjP) .nil) (Nd tE (Lf Ajl) .nil))) (Nd o49 (Nd Bp (Nd Bp (Lf Aft) .nil) (Nd Bp (Lf Aj8) .nil)) (Nd (Z6 P) (Nd Aek (Lf Bp) .nil) (Nd Ajt (Lf Ai8) .nil)))) (Nd tE (Nd Ad8 (Nd o73 (Nd tE (Lf tE) (Lf tE)) (Nd tE (Lf AeA) .nil)) (Nd Ahl (Nd tE (Lf tE) .nil) (Nd AfL (Lf Fd) .nil))) (Nd tE (Nd o89 (Nd Bp (Lf AlI) .nil) (Nd AkB (Lf Ai7) .nil)) (Nd YJ (Nd AkF (Lf Ak9) .nil) (Nd Ak4 (Lf AeX) .nil))))) (Nd AdU (Nd o21 (Nd (Acg P) (Nd (o69 P) (Nd tE (Lf Amm) (Lf tE)) (Nd tE (Lf tE) .nil)) (Nd AhY (Nd Ajm (Lf tE) .nil) (Nd tE (Lf Aj5) .nil))) (Nd Aco (Nd o85 (Nd Aka (Lf Bp) .nil) (Nd AjF (Lf Akq) .nil)) (Nd Zo (Nd Bp (Lf AjE) .nil) (Nd AlL (Lf AlE) .nil)))) (Nd tE (Nd tE (Nd AcJ (Nd Zm (Lf tE) (Lf Agp)) (Nd Aeo (Lf Bp) .nil)) (Nd ZW (Nd tE (Lf AeC) .nil) (Nd Bp (Lf AeF) .nil))) (Nd tE (Nd Fd (Nd Ajx (Lf AjD) .nil) (Nd Ajr (Lf tE) .nil)) (Nd Ahw (Nd Akp (Lf Akw) .nil) (Nd Ajh (Lf (AeJ P)) .nil))))))) (Nd (boot_o_2 P) (Nd (boot_o_4 P) (Nd (boot_o_8 P) (Nd Bp (Nd o32 (Nd tE (Nd Ail (Lf Bp) (Lf Afj)) (Nd Alc (Lf (Agj P)) .nil)) (Nd Ach (Nd Bp (Lf AjU) .nil) (Nd AjM (Lf Ajb) .nil))) (Nd o48 (Nd tE (Nd tE (Lf tE) .nil) (Nd tE (Lf Afe) .nil)) (Nd Fd (Nd tE (Lf tE) .nil) (Nd AfA (Lf Bp) .nil)))) (Nd (AdW P) (Nd AcI (Nd AdD (Nd AiL (Lf AkH) (Lf Ai3)) (Nd o200 (Lf tE) .nil)) (Nd AhB (Nd Ajq (Lf AlW) .nil) (Nd tE (Lf AlX) .nil))) (Nd (AdI P) (Nd (o88 P) (Nd tE (Lf Af2) .nil) (Nd Bp (Lf Ajf) .nil)) (Nd Aia (Nd Afv (Lf Bp) .nil) (Nd AjR (Lf Alf) .nil))))) (Nd Ahr (Nd o20 (Nd Fd (Nd o68 (Nd Ahc (Lf Al6) (Lf Alz)) (Nd Aj4 (Lf Ae4) .nil)) (Nd Bp (Nd AlV (Lf AlK) .nil) (Nd AkT (Lf Ak5) .nil))) (Nd AcN (Nd AcQ (Nd Aew (Lf tE) .nil) (Nd Agl (Lf Bp) .nil)) (Nd Zn (Nd tE (Lf Ags) .nil) (Nd Bp (Lf AiY) .nil)))) (Nd AbP (Nd o44 (Nd tE (Nd tE (Lf Ak7) (Lf Afi)) (Nd tE (Lf tE) .nil)) (Nd AiN (Nd Ak8 (Lf tE) .nil) (Nd tE (Lf AeP) .nil))) (Nd Adt (Nd o92 (Nd Afh (Lf Bp) .nil) (Nd AlZ (Lf Amf) .nil)) (Nd Bp (Nd Bp (Lf Aj7) .nil) (Nd Afm (Lf Fd) .nil)))))) (Nd (boot_o_6 P) (Nd (boot_o_10 P) (Nd tE (Nd AbB (Nd o66 (Nd tE (Lf tE) (Lf tE)) (Nd tE (Lf Aep) .nil)) (Nd AbA (Nd tE (Lf tE) .nil) (Nd Aex (Lf (Aja P)) .nil))) (Nd (o50 P) (Nd o82 (Nd AjK (Lf Ajn) .nil) (Nd AkM (Lf Aj6) .nil)) (Nd tE (Nd AlD (Lf Amn) .nil) (Nd AjT (Lf tE) .nil)))) (Nd Bp (Nd tE (Nd Fd (Nd Bp (Lf AfR) (Lf (Ajp P))) (Nd Bp (Lf AlR) .nil)) (Nd AhV (Nd Ae5 (Lf Bp) .nil) (Nd Amd (Lf (Af0 P)) .nil))) (Nd AbS (Nd Ad5 (Nd AkD (Lf AkW) .nil) (Nd tE (Lf tE) .nil)) (Nd ZV (Nd Akg (Lf tE) .nil) (Nd tE (Lf Age) .nil))))) (Nd Ac7 (Nd o22 (Nd tE (Nd o70 (Nd YD (Lf tE) (Lf Aen)) (Nd AeW (Lf Bp) .nil)) (Nd tE (Nd tE (Lf AeH) .nil) (Nd Bp (Lf Aeu) .nil))) (Nd o54 (Nd o86 (Nd AkU (Lf Ai1) .nil) (Nd Ake (Lf tE) .nil)) (Nd tE (Nd AkY (Lf AjB) .nil) (Nd tE (Lf tE) .nil)))) (Nd (o30 P) (Nd Ac3 (Nd Acv (Nd AiU (Lf Bp) .nil) (Nd Ai6 (Lf AjN) .nil)) (Nd Z8 (Nd Bp (Lf Akm) .nil) (Nd Akl (Lf AfQ) .nil))) (Nd Bp (Nd (AcR P) (Nd Ajy (Lf tE) .nil) (Nd tE (Lf AfX) .nil)) (Nd tE (Nd tE (Lf tE) .nil) (Nd Amj (Lf tE) .nil)))))))
def Al3(w:World)(os:OsState):SharedT:=⟨AnQ w.params,398,Life.mk [] [] [] 0 [] [] Bool.false #[] [] 0 Bool.false Bool.false Bool.false 0 [2000,10,10] Bool.false 0 Bool.true [] [] 0 Bool.false,Array.mk [],Drawn.mk 0 0 0 0,689,os⟩
def AjG:Pos:=⟨190,0,193,49⟩
end
noncomputable def vw:Program:={PySem.Challenge.pw_formcycle_k52_answers_of_bowls with main:={PySem.Challenge.pw_formcycle_k52_answers_of_bowls.main with body:=[tp 0,tp 2,tp 3,tp 4,tp 5,tp 6,tp 7,tp 9,tp 10,tp 11,tp 12,tp 14,tp 15,tp 16,tp 17,tp 18,tp 19,tp 21,tp 22,tp 23,tp 24,tp 25,tp 27,tp 28,tp 29,tp 30,tp 31,tp 32,tp 33,tp 35,tp 36,tp 37,tp 38,tp 39,tp 40,tp 41,tp 42,tp 44,tp 45,tp 46,tp 47,tp 48,tp 50,tp 51,tp 52,tp 53,tp 54,tp 55,tp 57,tp 58,tp 59,tp 60,tp 61,tp 62,tp 63,tp 64,tp 65,tp 66,tp 67,tp 68,tp 69]} }
def asK:List Nat:=[2,3,15,17,18,20,21,22,29,30,31,32,35,42,44,45,47,48,49,50,51,54,61,63,64,66,67,68,69,70,73,80,82,83,85,86,87,88,89,92,99,101,102,104,105,106,107,108,111,118,119,120,123,125,126,128,129,130,132,133,135,136,137,139,140,142,143,144,146,147,149,150,151,152,154,155,157,158,159,161,162,164,165,166,168,169,171,172,173,175,176,178,179,180,182,183,185,186,187,189,190,192,193,194,196,197,199,200,201,203,204,206,207,208,210,211,213,214,215,217,218,220,221,222,224,225,227,228,229,231,232,234,235,236,238,239,241,242,243,245,246,248,249,250,253,254,255,257,258,260,261,262,264,265,267,268,269,271,272,274,275,276,278,279,281,282,283,285,286,288,289,290,292,293,295,296,297,299,300,302,303,304,306,307,309,310,311,313,314,316,317,325,327,328,330,331,332,334,335,337,338,339,341,342,344,345,346,348,349,351,352,353,354,355,356,357,360,367,369,370,372,373,374,375,376,379,386,388,389,391,392,393,394,395,398,400,401,403,404,405,407,408,410,411,412,415,416,417,419,420,422,423,424,427,428,429,432,433,434,437,438,439,441,442,444,445,446,448,449,451,452,453,456,457,458,460,461,463,464,465,467,468,470,471,472,474,475,477,478,479,481,482,484,485,486,488,489,491,492,493,495,496,498,499,500,502,503,505,506,507,509,510,512,513,514,516,517,519,520,521,523,524,526,527]
noncomputable def bE:List Stmt:=behindTheImports PySem.Challenge.rw_formcycle_k52_answers_of_bowls.row.prog
noncomputable def ev:Env:={scope:=PySem.Challenge.rw_formcycle_k52_answers_of_bowls.row.prog.main.scope,locals:=mainNs,globals:=mainNs,cells:=[],code:=.ref 13,frame:=some 14}
noncomputable def cc:Code:=.body bE ev
def qq:Pos:=.mk 0 0 0 0
def pp:Pos:=⟨0,0,0,0⟩
theorem AjQ:∀w os,goT treeTable PySem.Challenge.rw_formcycle_k52_answers_of_bowls.row.prog w 11 (some (.ref 6)) 12 (Sd w os) (topStub PySem.Challenge.rw_formcycle_k52_answers_of_bowls.row.prog)=some (St0 w os,⟨denote treeTable cc,cc,pp,[topFrame qq]⟩):=fun w os=>by kernel_rfl
theorem Akk:∀w os,segRunT treeTable PySem.Challenge.rw_formcycle_k52_answers_of_bowls.row.prog w 11 (some (.ref 6)) 1 1 (St0 w os) (blockOf bE ev cc pp [topFrame qq])=some (.next,St0 w os,cc,ps0):=fun w os=>by kernel_rfl
noncomputable def l12:List Stmt:=List.take 12 bE
noncomputable def r12:List Stmt:=List.drop 12 bE
theorem AmW:∀w os,segRunT treeTable PySem.Challenge.rw_formcycle_k52_answers_of_bowls.row.prog w 11 (some (.ref 6)) 1 1520 (St0 w os) (piecesOf l12 ev cc ps0 [topFrame qq])=some (.next,Alh w os,cc,Ak0):=fun w os=>by kernel_rfl
noncomputable def l47:List Stmt:=List.take 35 r12
noncomputable def r47:List Stmt:=List.drop 35 r12
theorem Amu:∀w os,segRunT treeTable PySem.Challenge.rw_formcycle_k52_answers_of_bowls.row.prog w 11 (some (.ref 6)) 1 1635 (Alh w os) (piecesOf l47 ev cc Ak0 [topFrame qq])=some (.next,Al3 w os,cc,AjG):=fun w os=>by kernel_rfl
noncomputable def TL(w:World)(os:OsState):Option SharedT:=Wo treeTable PySem.Challenge.rw_formcycle_k52_answers_of_bowls.row.prog w 11 (some (.ref 6)) 713 (Al3 w os) (restOf r47 ev cc AjG [topFrame qq])
theorem hr:∀w os r,TL w os=some r→topRun treeTable PySem.Challenge.rw_formcycle_k52_answers_of_bowls.row.prog w (BP w os).heap.objs.size ((BP w os).heap.nsMap mainGlobals "__annotations__") 3881 (BP w os) (topStub PySem.Challenge.rw_formcycle_k52_answers_of_bowls.row.prog)=some r.abs:=fun w os r h=>by
 rw[show(BP w os).heap.objs.size=11 by kernel_rfl,show(BP w os).heap.nsMap mainGlobals "__annotations__"=some (.ref 6) by kernel_rfl]
 have k:=Ue _ h
 have k:=piece_app (segRun_of (Amu w os)) k
 rw[show l47++r47=r12 from List.take_append_drop _ _]at k
 have k:=piece_app (segRun_of (AmW w os)) k
 rw[show l12++r12=bE from List.take_append_drop _ _]at k
 have k:=piece_block (segRun_of (Akk w os)) k
 have k:=go_top (Ad6 _ (AjQ w os)) k
 rw[boot_abs]at k
 exact k
noncomputable def sA0(s:Shared):=PyProof.Rows.seen ((PyProof.Rows.recsOf vw).map (·.name)) (PyProof.Rows.ownsOf vw) [] {s with gens:=#[]}
noncomputable def sA1(s:Shared):=s.heap.bltView
noncomputable def sA2(s:Shared):=s.heap.keysOk (looseW vw []) ((PyProof.Rows.recsOf vw).map (·.name)) ((PyProof.Rows.litsOf vw).map (·.1)) ((PyProof.Rows.clssOf vw (looseW vw [])).map (·.name))&&s.heap.accountedOkI (importedModules PySem.Challenge.rw_formcycle_k52_answers_of_bowls.row.prog.main.body)&&s.heap.isNs mainGlobals&&s.heap.isNs builtinsNs&&PyProof.Rows.tablesOk vw s.heap&&(xlAt vw [] s&&recOk (RowW.records PySem.Challenge.rw_formcycle_k52_answers_of_bowls.row.toRowW) s)&&(if true then s.gens.size==0 else !leftWithCleanup s.gens)
noncomputable def sA3(s:Shared):=PyProof.Rows.tabsOk vw s
noncomputable def sA4(s:Shared):=pinSeenD vw (PyProof.Rows.drecsOf vw) s
noncomputable def sA5(s:Shared):=PyProof.Rows.plainSeenE vw (looseW vw []) s
noncomputable def sA6(s:Shared):=PyProof.Rows.plainSeenD vw [] s
noncomputable def sA7(s:Shared):=wideSeen vw s
noncomputable def sA8(s:Shared):=clsSeenW vw [] s
theorem hA:∀(w:World)(os:OsState),(TL w os).map (fun r=>stays PySem.Challenge.rw_formcycle_k52_answers_of_bowls.row.prog (BP w os) r.abs)=some true:=fun w os=>by kernel_rfl
theorem hB0:∀(w:World)(os:OsState),(TL w os).map (fun r=>sA0 r.abs)=some (PyProof.Rows.expectedOf vw):=fun w os=>by kernel_rfl
theorem hB1:∀(w:World)(os:OsState),(TL w os).map (fun r=>(sA1 r.abs,sA3 r.abs,sA4 r.abs,sA6 r.abs,sA8 r.abs))=some (bltViewBooted,true,pinGoodD (PyProof.Rows.drecsOf vw),PyProof.Rows.plainGoodD vw [],clsGoodW vw []):=fun w os=>by kernel_rfl
theorem hB2:∀(w:World)(os:OsState),(TL w os).map (fun r=>sA2 r.abs)=some true:=fun w os=>by kernel_rfl
theorem hB5:∀(w:World)(os:OsState),(TL w os).map (fun r=>sA5 r.abs)=some (PyProof.Rows.plainGoodE vw (looseW vw [])):=fun w os=>by kernel_rfl
theorem hB7:∀(w:World)(os:OsState),(TL w os).map (fun r=>sA7 r.abs)=some (wideGood vw):=fun w os=>by kernel_rfl
theorem nine{α0 α1 α2 α3 α4 α5 α6 α7 α8:Type}{o:Option SharedT}{A0:Shared→α0}{A1:Shared→α1}{A2:Shared→α2}{A3:Shared→α3}{A4:Shared→α4}{A5:Shared→α5}{A6:Shared→α6}{A7:Shared→α7}{A8:Shared→α8}{a0:α0}{a1:α1}{a2:α2}{a3:α3}{a4:α4}{a5:α5}{a6:α6}{a7:α7}{a8:α8}
  (h0:o.map (fun r=>A0 r.abs)=some a0) (h1:o.map (fun r=>(A1 r.abs,A3 r.abs,A4 r.abs,A6 r.abs,A8 r.abs))=some (a1,a3,a4,a6,a8)) (h2:o.map (fun r=>A2 r.abs)=some a2) (h5:o.map (fun r=>A5 r.abs)=some a5) (h7:o.map (fun r=>A7 r.abs)=some a7) :
  o.map (fun r=>(A0 r.abs,A1 r.abs,A2 r.abs,A3 r.abs,A4 r.abs,A5 r.abs,A6 r.abs,A7 r.abs,A8 r.abs))=some (a0,a1,a2,a3,a4,a5,a6,a7,a8):=by
 cases o with
 |none=>cases h0
 | some r =>
  simp only[Option.map_some,Option.some.injEq,Prod.mk.injEq]at h0 h1 h2 h5 h7 ⊢
  exact⟨h0,h1.1,h2,h1.2.1,h1.2.2.1,h5,h1.2.2.2.1,h7,h1.2.2.2.2⟩
theorem hB:∀(w:World)(os:OsState),(TL w os).map (fun r=>openSeen vw [] (importedModules PySem.Challenge.rw_formcycle_k52_answers_of_bowls.row.prog.main.body) (fun s=>xlAt vw [] s&&recOk (RowW.records PySem.Challenge.rw_formcycle_k52_answers_of_bowls.row.toRowW) s) true r.abs)=some (openGood vw []):=fun w os=>nine (A0:=sA0) (A1:=sA1) (A2:=sA2) (A3:=sA3) (A4:=sA4) (A5:=sA5) (A6:=sA6) (A7:=sA7) (A8:=sA8) (hB0 w os) (hB1 w os) (hB2 w os) (hB5 w os) (hB7 w os)
theorem hC:∀(w:World)(os:OsState),(TL w os).map (fun r=>Hook.obs (kHook My.KK My.asK (fun _=>by kernel_rfl)) r.abs)=some (Hook.val (kHook My.KK My.asK (fun _=>by kernel_rfl)) w):=fun w os=>by kernel_rfl
theorem hl:LeftO PySem.Challenge.rw_formcycle_k52_answers_of_bowls.row.prog vw [] (fun s=>xlAt vw [] s&&recOk (RowW.records PySem.Challenge.rw_formcycle_k52_answers_of_bowls.row.toRowW) s) (Hook.obs (kHook My.KK My.asK (fun _=>by kernel_rfl))) (Hook.val (kHook My.KK My.asK (fun _=>by kernel_rfl))) 3881:=fun w=>Acx (TL:=TL w) (by kernel_rfl) (by decide) (fun _=>by kernel_rfl) (hr w) (hA w) (hB w) (hC w) (fun os=>by kernel_rfl)
end My
namespace L2
open PySem Spec PyProof.Rows
abbrev Key:=Sum Int Str
def AgS:Key→Value→Bool
 |.inl k,v=>Value.isInt k v
 |.inr x,v=>Value.isStrOf x v
def An4(w:World):Key→Int
 |.inl k=>hashInt k
 |.inr x=>hashStr w x
theorem CT:∀{k:Key} {v:Value},AgS k v=true→(∃i t,k=Sum.inl i∧v=Value.int i t)∨(∃x t,k=Sum.inr x∧v=Value.str x t)
 | .inl i,v,h=>by
  obtain⟨t,e⟩:=Value.isInt_shape (k:=i) (v:=v) h
  exact .inl ⟨i,t,rfl,e⟩
 | .inr x,v,h=>by
  obtain⟨t,e⟩:=Value.isStrOf_shape (x:=x) (v:=v) h
  exact .inr ⟨x,t,rfl,e⟩
theorem AiK(a b:Int):decide ((Sum.inl a:Key)=Sum.inl b)=(a==b):=by
 by_cases e:a=b
 ·subst e;simp
 ·have h:¬(Sum.inl a:Key)=Sum.inl b:=fun q=>e (Sum.inl.inj q)
  rw[decide_eq_false h]
  exact(beq_eq_false_iff_ne.mpr e).symm
theorem Ah1(a b:Str):decide ((Sum.inr a:Key)=Sum.inr b)=decide (a=b):=by
 by_cases e:a=b
 ·subst e;simp
 ·have h:¬(Sum.inr a:Key)=Sum.inr b:=fun q=>e (Sum.inr.inj q)
  rw[decide_eq_false h,decide_eq_false e]
theorem AhZ(a:Int)(b:Str):decide ((Sum.inl a:Key)=Sum.inr b)=false:=decide_eq_false (fun q=>nomatch q)
theorem AiM(a:Str)(b:Int):decide ((Sum.inr a:Key)=Sum.inl b)=false:=decide_eq_false (fun q=>nomatch q)
def Ub(prog:Program)(w:World):PySem.KeyKind prog w Key where
 is:=AgS
 hash:=An4 w
 inj:=fun v a b ha hb=>by
  rcases CT ha with⟨i,t,rfl,rfl⟩|⟨x,t,rfl,rfl⟩
  ·rcases CT hb with⟨j,u,rfl,e⟩|⟨y,u,rfl,e⟩
   ·injection e with e1 _;rw[e1]
   ·exact nomatch e
  ·rcases CT hb with⟨j,u,rfl,e⟩|⟨y,u,rfl,e⟩
   ·exact nomatch e
   ·injection e with e1 _;rw[e1]
 byValue:=fun k v h=>by
  rcases CT h with⟨i,t,rfl,rfl⟩|⟨x,t,rfl,rfl⟩<;>rfl
 pyHash:=fun hv h=>by
  rcases CT hv with⟨i,t,rfl,rfl⟩|⟨x,t,rfl,rfl⟩
  ·exact wpAny_pyHash_int h
  ·exact wpAny_pyHash_str h
 eqBool:=fun hu hv h=>by
  rcases CT hu with⟨i,t,rfl,rfl⟩|⟨x,t,rfl,rfl⟩
  ·rcases CT hv with⟨j,u,rfl,rfl⟩|⟨y,u,rfl,rfl⟩
   ·rw[AiK]at h;exact wpAny_eqBool_int h
   ·rw[AhZ]at h;exact SeqAt.EqAt.int_str i t y u _ _ _ _ h
  ·rcases CT hv with⟨j,u,rfl,rfl⟩|⟨y,u,rfl,rfl⟩
   ·rw[AiM]at h;exact SeqAt.EqAt.str_int x t j u _ _ _ _ h
   ·rw[Ah1]at h;exact wpAny_eqBool_str h
 «strs» := fun k x t v h=>by
  rcases CT h with⟨i,u,rfl,e⟩|⟨y,u,rfl,e⟩
  ·exact nomatch e
  ·injection e with e1 _
   subst e1
   cases v<;>rfl
end L2
namespace L2
open PySem Spec PyProof.Rows
inductive V where
 |non|bl (b:Bool)|int (i:Int)|str (x:Str)|byt (b:Array UInt8)|flt (b:UInt64)|ref (a:Addr)|ty (n:String)
 deriving DecidableEq
def RelV:V→Value→Prop
 |.non,u=>u=Value.none
 |.bl b,u=>u=Value.bool b
 |.int i,u=>∃t,u=Value.int i t
 |.str x,u=>∃t,u=Value.str x t
 |.byt b,u=>∃t,u=Value.bytes b t
 |.flt b,u=>∃t,u=Value.float b t
 |.ref a,u=>u=Value.ref a
 |.ty n,u=>u=Value.type n
abbrev Vals:List V→List Value→Prop:=Paired RelV
theorem Vals.length{xs:List V}{us:List Value}(r:Vals xs us):xs.length=us.length:=Paired.length r
theorem Vals.get:∀{xs:List V} {us:List Value} {i:Nat} {x:V},Vals xs us→xs[i]? = some x→∃u,us[i]? = some u∧RelV x u
 |_,_,_,_,.nil,e=>by simp at e
 |_,_,0,_,.cons r _,e=>by simp at e;subst e;exact⟨_,rfl,r⟩
 | _,_,i+1,x,.cons _ t,e=>by
  obtain⟨u,h1,h2⟩:=Vals.get (i:=i) (x:=x) t (by simpa using e)
  exact⟨u,by simpa using h1,h2⟩
theorem Vals.append:∀{xs ys:List V} {us ws:List Value},Vals xs us→Vals ys ws→Vals (xs++ys) (us++ws)
 |_,_,_,_,.nil,s=>s
 |_,_,_,_,.cons r t,s=>.cons r (Vals.append t s)
theorem Vals.take:∀{xs:List V} {us:List Value} (n:Nat),Vals xs us→Vals (xs.take n) (us.take n)
 |_,_,0,_=>.nil
 |_,_,_+1,.nil=>.nil
 |_,_,n+1,.cons r t=>.cons r (Vals.take n t)
theorem Vals.drop:∀{xs:List V} {us:List Value} (n:Nat),Vals xs us→Vals (xs.drop n) (us.drop n)
 |_,_,0,r=>r
 |_,_,_+1,.nil=>.nil
 |_,_,n+1,.cons _ t=>Vals.drop n t
def Ri:Option V→Option Value→Prop
 |some v,some u=>RelV v u
 |none,none=>True
 |_,_=>False
def KV{κ:Type}:List (κ×V)→List (κ×Value)→Prop:=Paired fun(p:κ×V)(q:κ×Value)=>p.1=q.1∧RelV p.2 q.2
def kV:Key→V
 |.inl i=>.int i
 |.inr x=>.str x
inductive HO where
  |lst (xs:List V)
  |tup (xs:List V)
  |dK (kvs:List (Key×V))|dT (kvs:List (List Key×V))
  |set (S:Int→Bool) (n:Nat)
  |ins (C dx:Addr) (fs:List (Str×V))
  |own (x:Addr)
  |xd (fs:List (Str×V))
  |met (f x:Addr)
  |rng (lo hi:Int)
  |frz (o:Obj) (u:HO)
  |tbl (ps:Array Value)
  |ext (φ:Heap→Prop)
abbrev Hp:=Addr→Option HO
def upd(H:Hp)(a:Addr)(o:HO):Hp:=fun b=>if b=a then some o else H b
theorem BL{H:Hp}{a:Addr}{o:HO}:upd H a o a=some o:=by unfold upd;rw[if_pos rfl]
theorem Bm{H:Hp}{a b:Addr}{o:HO}(h:b≠a):upd H a o b=H b:=by unfold upd;rw[if_neg h]
theorem Dc{H:Hp}{a b:Addr}{o:HO}(h:H a=some o)(h':H b=none):a≠b:=by
 intro e;subst e;rw[h]at h';cases h'
section
variable(P:Program)(w:World)
def GZ(H:Hp)(h:Heap)(a:Addr):HO→Prop
 |.lst xs=>xs.length≤sizeLine∧∃(its:List Value)(n:Nat),Vals xs its∧h.get? a=some {cls:=.type "list",data:=.seq its.toArray n}
 |.tup xs=>xs.length≤sizeLine∧∃its:List Value,Vals xs its∧IsTup h a its.toArray
 |.dK kvs=>kvs.length≤sizeLine∧(a==sysModules)=false∧∃vs,KV kvs vs∧h.DictOf (Ub P w) a vs
 | .dT kvs=>kvs.length≤sizeLine∧(a==sysModules)=false∧∃xs:List (List Key×Addr×Value),
   Paired (fun(p:List Key×V)(q:List Key×Addr×Value)=>p.1=q.1∧H q.2.1=some (.tup (p.1.map kV))∧RelV p.2 q.2.2) kvs xs ∧
   ∃o es ep,h.get? a=some o∧o.ExactDict∧o.data=.dict es ep∧es.toList=xs.map (entryOfKey (tupleKind (Ub P w)))∧(xs.map (·.1)).Nodup
 |.set S n=>h.SetOf (intKind P w) a S n
 | .ins C dx fs=>H dx=some (.own a)∧fs.length≤1000∧dx≠a∧h.get? a=some (W.instObj C dx) ∧
   ∃mA,h.Ns1 dx mA∧(∀f,Ri (fs.lookup f) (mA f))∧PySem.Within mA (fs.map (·.1))
 |.own _=>∃o,h.get? a=some o
 |.xd fs=>∃mA,h.Ns1 a mA∧∀f,Ri (fs.lookup f) (mA f)
 |.rng lo hi=>∃t u v,h.get? a=some {cls:=.type "range",data:=.fields #[.int lo t,.int hi u,.int 1 v]}
 |.frz o u=>h.get? a=some o∧GZ H h a u
 |.tbl ps=>h.get? a=some {cls:=.none,data:=.fields ps}
 |.met f x=>h.get? a=some (W.methodObj (.ref f) (.ref x))
 |.ext φ=>φ h∧(∃o,h.get? a=some o)∧∀h1 h2:Heap,φ h1→(∀o,h1.get? a=some o→h2.get? a=some o)→φ h2
def HOk(H:Hp)(h:Heap):Prop:=∀a o,H a=some o→GZ P w H h a o
end
section
variable{P:Program}{w:World}{H H':Hp}{h h':Heap}{a:Addr}{o:HO}
theorem GZ.lt(x:GZ P w H h a o):a<h.objs.size:=by
 cases o with
 |lst xs=>obtain⟨_,_,_,_,e⟩:=x;exact Heap.lt_size e
 |tup xs=>obtain⟨_,_,_,p⟩:=x;exact p.lt
 |dK kvs=>obtain⟨_,_,_,_,o,_,_,e,_⟩:=x;exact Heap.lt_size e
 |dT kvs=>obtain⟨_,_,_,_,o,_,_,e,_⟩:=x;exact Heap.lt_size e
 |set S n=>obtain⟨o,_,_,_,e,_⟩:=x;exact Heap.lt_size e
 |ins C dx fs=>obtain⟨_,_,_,e,_⟩:=x;exact Heap.lt_size e
 |own y=>obtain⟨_,e⟩:=x;exact Heap.lt_size e
 |xd fs=>obtain⟨_,⟨_,_,_,e,_⟩,_⟩:=x;exact Heap.lt_size e
 |rng lo hi=>obtain⟨_,_,_,e⟩:=x;exact Heap.lt_size e
 |frz ob u=>obtain⟨e,_⟩:=x;exact Heap.lt_size e
 |tbl ps=>exact Heap.lt_size (show h.get? a=some _ from x)
 |met f y=>exact Heap.lt_size (show h.get? a=some _ from x)
 |ext φ=>obtain⟨_,⟨_,e⟩,_⟩:=x;exact Heap.lt_size e
theorem Paired.qM{α β:Type}{F G:α→β→Prop}:∀{l₁:List α} {l₂:List β},Paired F l₁ l₂→(∀a b,F a b→G a b)→Paired G l₁ l₂
 |_,_,.nil,_=>.nil
 |_,_,.cons r t,f=>.cons (f _ _ r) (Paired.qM t f)
theorem GZ.stay(x:GZ P w H h a o)(k:∀b u,(b=a∨H b=some (.own a))→h.get? b=some u→h'.get? b=some u)
  (ho:∀b,H b=some (.own a)→H' b=some (.own a)) (ht:∀b xs,H b=some (.tup xs)→H' b=some (.tup xs)):GZ P w H' h' a o:=by
 induction o with
 |lst xs=>obtain⟨z,its,n,r,e⟩:=x;exact⟨z,its,n,r,k _ _ (.inl rfl) e⟩
 |tup xs=>obtain⟨z,its,r,ob,e,c⟩:=x;exact⟨z,its,r,ob,k _ _ (.inl rfl) e,c⟩
 |dK kvs=>obtain⟨z,y,vs,r,ob,es,ep,e,c⟩:=x;exact⟨z,y,vs,r,ob,es,ep,k _ _ (.inl rfl) e,c⟩
 | dT kvs =>
  obtain⟨z,y,xs,r,ob,es,ep,e,c⟩:=x
  exact⟨z,y,xs,Paired.qM r fun p q z=>⟨z.1,ht _ _ z.2.1,z.2.2⟩,ob,es,ep,k _ _ (.inl rfl) e,c⟩
 |set S n=>obtain⟨ob,es,ep,t,e,c⟩:=x;exact⟨ob,es,ep,t,k _ _ (.inl rfl) e,c⟩
 | ins C dx fs =>
  obtain⟨d,z,ne,e,mA,⟨od,es,ep,e2,c⟩,r⟩:=x
  exact⟨ho _ d,z,ne,k _ _ (.inl rfl) e,mA,⟨od,es,ep,k _ _ (.inr d) e2,c⟩,r⟩
 |own y=>obtain⟨ob,e⟩:=x;exact⟨ob,k _ _ (.inl rfl) e⟩
 |xd fs=>obtain⟨mA,⟨od,es,ep,e,c⟩,r⟩:=x;exact⟨mA,⟨od,es,ep,k _ _ (.inl rfl) e,c⟩,r⟩
 |rng lo hi=>obtain⟨t,u,v,e⟩:=x;exact⟨t,u,v,k _ _ (.inl rfl) e⟩
 |frz ob u ih=>obtain⟨e,q⟩:=x;exact⟨k _ _ (.inl rfl) e,ih q⟩
 | tbl ps =>
  have e:h.get? a=some {cls:=.none,data:=.fields ps}:=x
  show h'.get? a=some {cls:=.none,data:=.fields ps}
  exact k a _ (.inl rfl) e
 | met f y =>
  have e:h.get? a=some (W.methodObj (.ref f) (.ref y)):=x
  show h'.get? a=some (W.methodObj (.ref f) (.ref y))
  exact k a _ (.inl rfl) e
 |ext φ=>obtain⟨p,⟨o,e⟩,st⟩:=x;exact⟨st _ _ p fun o q=>k _ _ (.inl rfl) q,⟨o,k _ _ (.inl rfl) e⟩,st⟩
theorem HOk.lt(x:HOk P w H h)(e:H a=some o):a<h.objs.size:=(x a o e).lt
theorem HOk.fresh(x:HOk P w H h)(e:h.objs.size≤a):H a=none:=by
 cases q:H a with
 |none=>rfl
 |some u=>exact absurd (Nat.lt_of_lt_of_le (x.lt q) e) (Nat.lt_irrefl _)
theorem HOk.kept(x:HOk P w H h)(k:∀b u,h.get? b=some u→h'.get? b=some u):HOk P w H h':=fun a o e =>
 (x a o e).stay (fun b u _ q=>k b u q) (fun _ q=>q) fun _ _ q=>q
theorem HOk.laid(x:HOk P w H h)(k:∀b u,h.get? b=some u→h'.get? b=some u)(hp:h.objs.size≤a)(new:GZ P w (upd H a o) h' a o):HOk P w (upd H a o) h':=fun b u e=>by
 have hn:=x.fresh hp
 by_cases hb:b=a
 ·subst hb;rw[BL]at e;cases e;exact new
 ·rw[Bm hb]at e
  exact(x b u e).stay (fun c v _ q=>k c v q) (fun c q=>by rw[Bm (Dc q hn)];exact q) fun c xs q=>by rw[Bm (Dc q hn)];exact q
end
def Rd(H:Hp)(a:Addr)(u:HO):Prop:=H a=some u∨∃o,H a=some (.frz o u)
theorem Rd.ok{P:Program}{w:World}{H:Hp}{h:Heap}{a:Addr}{u:HO}(r:Rd H a u)(x:HOk P w H h):GZ P w H h a u:=by
 rcases r with r|⟨o,r⟩
 ·exact x a u r
 ·obtain⟨_,q⟩:=x a _ r
  exact q
def Mut:Option HO→Prop
 |some (.lst _)=>True
 |some (.dK _)=>True
 |some (.dT _)=>True
 |some (.set _ _)=>True
 |some (.ins _ _ _)=>True
 |some (.ext _)=>True
 |_=>False
section
variable{P:Program}{w:World}{H:Hp}{h h':Heap}{x e:Addr}{o':HO}
theorem HOk.write(ok:HOk P w H h)(mu:Mut (H x))(he:e=x∨H e=some (.own x))(k:∀b u,b≠e→h.get? b=some u→h'.get? b=some u)(heo:∃u,h'.get? e=some u)
  (new:GZ P w (upd H x o') h' x o'):HOk P w (upd H x o') h':=fun b u q=>by
 have qN:∀c y,H c=some (.own y)→c≠x:=fun c y r z=>by subst z;rw[r]at mu;exact mu
 have rB:∀c xs,H c=some (.tup xs)→c≠x:=fun c xs r z=>by subst z;rw[r]at mu;exact mu
 by_cases hb:b=x
 ·subst hb;rw[BL]at q;cases q;exact new
 ·rw[Bm hb]at q
  by_cases hbe:b=e
  ·have q':H b=some (.own x):=by
    rcases he with z|z
    ·exact absurd (hbe.trans z) hb
    ·rw[hbe];exact z
   rw[q]at q';cases q'
   obtain⟨v,hv⟩:=heo
   exact⟨v,by rw[hbe];exact hv⟩
  ·refine(ok b u q).stay (fun c v hc r=>k c v ?_ r) (fun c r=>by rw[Bm (qN c b r)];exact r) fun c xs r=>by rw[Bm (rB c xs r)];exact r
   rcases hc with rfl|hc
   ·exact hbe
   ·rintro rfl
    rcases he with z|z
    ·exact qN c b hc z
    ·rw[hc]at z;cases z;exact hb rfl
end
structure Un(fs ex:List Addr)(H H':Hp)(h h':Heap):Prop where
 keep:∀b o,h.get? b=some o→H b=none→b∉fs→b∉ex→h'.get? b=some o
 slot:∀b o,h.get? b=some o→H b=none→b∈fs→b∉ex→∃sl,h'.get? b=some {o with slots:=sl}
 free:∀b o,h.get? b=some o→H b=none→b∉ex→H' b=none
 there:∀b o,h.get? b=some o→b∉ex→∃o',h'.get? b=some o'
 tups:∀b xs,H b=some (.tup xs)→H' b=some (.tup xs)
 fM:∀b o u,H b=some (.frz o u)→H' b=some (.frz o u)
 gQ:∀b ps,H b=some (.tbl ps)→∃more,H' b=some (.tbl (ps++more))
section
variable{fs fs' ex ex':List Addr}{H H1 H2:Hp}{h h1 h2 h':Heap}{a x e:Addr}{o:HO}
theorem Un.any(u:Un fs ex H H1 h h1){b:Addr}{ob:Obj}(q:h.get? b=some ob)(n:H b=none)(hx:b∉ex):∃sl,h1.get? b=some {ob with slots:=sl}:=by
 by_cases hb:b∈fs
 ·exact u.slot b ob q n hb hx
 ·exact⟨ob.slots,u.keep b ob q n hb hx⟩
theorem Un.trans(a:Un fs ex H H1 h h1)(b:Un fs ex H1 H2 h1 h2):Un fs ex H H2 h h2 where
 keep:=fun c ob q n hc hx=>b.keep c ob (a.keep c ob q n hc hx) (a.free c ob q n hx) hc hx
 slot:=fun c ob q n hc hx=>by
  obtain⟨sl,e1⟩:=a.slot c ob q n hc hx
  obtain⟨sl',e2⟩:=b.slot c _ e1 (a.free c ob q n hx) hc hx
  exact⟨sl',e2⟩
 free:=fun c ob q n hx=>by
  obtain⟨o',e1⟩:=a.there c ob q hx
  exact b.free c o' e1 (a.free c ob q n hx) hx
 there:=fun c ob q hx=>by
  obtain⟨o',e1⟩:=a.there c ob q hx
  exact b.there c o' e1 hx
 tups:=fun c xs q=>b.tups c xs (a.tups c xs q)
 fM:=fun c ob xs q=>b.fM c ob xs (a.fM c ob xs q)
 gQ:=fun c ps q=>by
  obtain⟨m1,e1⟩:=a.gQ c ps q
  obtain⟨m2,e2⟩:=b.gQ c _ e1
  exact⟨m1++m2,by rw[e2,Array.append_assoc]⟩
theorem Un.kept(k:∀b u,h.get? b=some u→h'.get? b=some u):Un fs ex H H h h' :=
 ⟨fun b ob q _ _ _=>k b ob q,fun b ob q _ _ _=>⟨ob.slots,k b ob q⟩,fun _ _ _ n _=>n,fun b ob q _=>⟨ob,k b ob q⟩,fun _ _ q=>q,fun _ _ _ q=>q,fun _ ps q=>⟨#[],by rw[q];simp⟩⟩
theorem Un.refl:Un fs ex H H h h:=Un.kept fun _ _ q=>q
theorem Un.laid(k:∀b u,h.get? b=some u→h'.get? b=some u)(hp:h.objs.size≤a)(hn:H a=none):Un fs ex H (upd H a o) h h' where
 keep:=fun b u q _ _ _=>k b u q
 slot:=fun b u q _ _ _=>⟨u.slots,k b u q⟩
 free:=fun b u q n _=>by rw[Bm (Nat.ne_of_lt (Nat.lt_of_lt_of_le (Heap.lt_size q) hp))];exact n
 there:=fun b u q _=>⟨u,k b u q⟩
 tups:=fun b xs q=>by rw[Bm (Dc q hn)];exact q
 fM:=fun b u xs q=>by rw[Bm (Dc q hn)];exact q
 gQ:=fun b ps q=>⟨#[],by rw[Bm (Dc q hn),q];simp⟩
theorem Un.write(mu:Mut (H x))(he:e=x∨H e=some (.own x))(k:∀b u,b≠e→h.get? b=some u→h'.get? b=some u)(heo:∃u,h'.get? e=some u):Un fs ex H (upd H x o) h h':=by
 have hx:∀b,H b=none→b≠x:=fun b n z=>by subst z;rw[n]at mu;exact mu
 have hb:∀b,H b=none→b≠e:=fun b n z=>by
  subst z
  rcases he with r|r
  ·exact hx b n r
  ·rw[n]at r;cases r
 have hm:∀b u,H b=some u→¬Mut (some u)→b≠x:=fun b u q nm z=>by subst z;rw[q]at mu;exact nm mu
 refine⟨fun b u q n _ _=>k b u (hb b n) q,fun b u q n _ _=>⟨u.slots,k b u (hb b n) q⟩,fun b u q n _=>by rw[Bm (hx b n)];exact n,fun b u q _=>?_,
  fun b xs q=>by rw[Bm (hm b _ q fun z=>z)];exact q,fun b u xs q=>by rw[Bm (hm b _ q fun z=>z)];exact q,fun b ps q=>⟨#[],by rw[Bm (hm b _ q fun z=>z),q];simp⟩⟩
 by_cases hbe:b=e
 ·subst hbe;exact heo
 ·exact⟨u,k b u hbe q⟩
end
def trk(h:Heap)(H:Hp):List Addr:=(List.range h.objs.size).filter fun a=>(H a).isSome
def U3(h:Heap)(H:Hp):Heap:=W.hideAll h (trk h H)
theorem AaF(h:Heap)(H:Hp):(U3 h H).objs.size=h.objs.size:=W.hideAll_size _ _
theorem Adk{h:Heap}{H:Hp}{b:Addr}{o:Obj}(e:h.get? b=some o)(n:H b=none):(U3 h H).get? b=some o :=
 W.hideAll_get _ e fun hm=>by
  have q:(H b).isSome=true:=(List.mem_filter.mp hm).2
  rw[n]at q;simp at q
theorem Aei{h:Heap}{H:Hp}{b:Addr}{o:Obj}(e:(U3 h H).get? b=some o):h.get? b=some o∧H b=none:=by
 have e':h.get? b=some o:=W.of_hideAll (trk h H) e
 refine⟨e',?_⟩
 cases q:H b with
 |none=>rfl
 | some x =>
  have hm:b∈trk h H:=List.mem_filter.mpr ⟨List.mem_range.mpr (Heap.lt_size e'),by simp[q]⟩
  have z:(U3 h H).get? b=none:=W.hideAll_none (trk h H) hm
  rw[z]at e;cases e
def Aeh(g h:Heap)(L:Addr):List (Addr×Obj):=(List.range h.objs.size).filterMap fun a=>if a=L∨(g.get? a).isSome=true then none else(h.get? a).map fun o=>(a,o)
def rest(g h:Heap)(L d:Addr):List (Addr×Obj):=(Aeh g h L).filter fun p=>decide (p.1≠d)
end L2
namespace L2
open PySem Spec PyProof.Rows
structure Mod(K:W.Frag)(mg:Str→Option Value)(base:Heap):Prop where
 kin:K.In base
 glob:base.Ns mainGlobals mg
 blt:∃mb,base.Ns builtinsNs mb∧∀x:Str,x≠"__name__"→mb x=bootBuiltins x
 nolimit:base.NoLimit
structure Cx where
 prog:Program
 w:World
 K:W.Frag
 mg:Str→Option Value
 base:Heap
 A:Around
 N:List Str
 s₀:Shared
 H₀:Hp
 env:Env
 outer:List Env
 stack:List Env
 ex:List Addr
 fn:Str→Bool
 calm:Bool
 pn:List (Addr×Obj)
 xe:Value→Shared→Prop
def frs(l:List Env):List Addr:=l.filterMap (·.frame)
abbrev Cx.fs(X:Cx):List Addr:=frs X.outer
def Vis(sc:Scope)(x:Str):Prop:=sc.names.lookup x=some .local∨sc.names.lookup x=some .cell∨sc.names.lookup x=some .free
def Loc(sc:Scope)(x:Str):Prop:=sc.names.lookup x=some .local∨sc.names.lookup x=some .cell
def Look(env:Env)(h:Heap)(m:Str→Option Value)(x:Str)(u:Value):Prop :=
 (env.kindOf x=some .local∧m x=some u)∨((env.kindOf x=some .cell∨env.kindOf x=some .free)∧∃c,env.cells.lookup x=some c∧h.IsCell c (some u))
structure Cx.Ok(X:Cx):Prop where
 mod:Mod X.K X.mg X.base
 kind:X.env.scope.kind=.function
 glob:X.env.globals=mainGlobals
 blt:X.env.builtins=builtinsNs
 above:X.s₀.heap.objs.size≤X.env.locals
 inj:∀x y c,X.env.cells.lookup x=some c→X.env.cells.lookup y=some c→x=y
 has:∀x,(X.env.kindOf x=some .cell∨X.env.kindOf x=some .free)→∃c,X.env.cells.lookup x=some c
 cab:∀x c,X.fn x=true→X.env.cells.lookup x=some c→X.s₀.heap.objs.size≤c
 hd:X.calm=true→X.A.handled=none
 frames:X.A.frames=some X.stack
 stk:X.stack=X.outer∨(X.stack=X.env::X.outer∧X.env.frame=some X.env.locals)
 exf:∀b∈X.ex,b≠X.env.locals∧∀x c,X.env.cells.lookup x=some c→c≠b
 bs:∀b o,X.base.get? b=some o→X.s₀.heap.get? b=some o∧X.H₀ b=none
 bsz:X.base.objs.size≤X.s₀.heap.objs.size
 oW:∀b o,X.base.get? b=some o→b∉X.ex
 nW:∀b∈X.ex,b∉X.fs
 gR:X.s₀.heap.FunFrames X.base X.outer
 frf:∀b∈X.fs,X.H₀ b=none
structure Inv(X:Cx)(pins:List (Addr×Obj))(σ:List (Option V))(H:Hp)(s:Shared):Prop where
 ok:X.Ok
 os:s.os=X.s₀.os
 bare:AllBare s.gens
 base:Un X.fs X.ex X.H₀ H X.s₀.heap s.heap
 loc:∃m,s.heap.Ns X.env.locals m∧∀(i:Nat)(x:Str)(v:V),X.N[i]? = some x→σ[i]? = some (some v)→Vis X.env.scope x→∃u,RelV v u∧Look X.env s.heap m x u
 cell:∀x c,X.env.cells.lookup x=some c→∃v,s.heap.IsCell c v
 free:H X.env.locals=none
 cZ:∀x c,X.env.cells.lookup x=some c→H c=none
 pin:∀p∈X.pn++pins,s.heap.get? p.1=some p.2∧H p.1=none∧p.1≠X.env.locals∧p.1∉X.fs∧∀v,p.2.data≠.cell v
 hok:HOk X.prog X.w H s.heap
 len:σ.length=X.N.length
section
variable{X:Cx}{pins:List (Addr×Obj)}{σ:List (Option V)}{H H':Hp}{s:Shared}{h':Heap}
theorem Cx.Ok.rC(ok:X.Ok){b:Addr}{o:Obj}(e:X.base.get? b=some o):b∉X.fs:=fun hb=>by
 have:=(ok.gR.mem hb).1
 rw[e]at this;cases this
theorem Inv.bs(I:Inv X pins σ H s):∀b o,X.base.get? b=some o→s.heap.get? b=some o∧H b=none:=fun b o e =>
 ⟨I.base.keep b o (I.ok.bs b o e).1 (I.ok.bs b o e).2 (I.ok.rC e) (I.ok.oW b o e),I.base.free b o (I.ok.bs b o e).1 (I.ok.bs b o e).2 (I.ok.oW b o e)⟩
theorem Inv.bk(I:Inv X pins σ H s):∀b o,X.base.get? b=some o→s.heap.get? b=some o:=fun b o e=>(I.bs b o e).1
theorem Inv.mod(I:Inv X pins σ H s):Mod X.K X.mg X.base:=I.ok.mod
theorem Inv.kIn(I:Inv X pins σ H s):X.K.In s.heap:=I.ok.mod.kin.keeps I.bk
theorem Inv.lt(I:Inv X pins σ H s):X.env.locals<s.heap.objs.size:=let ⟨_,hn,_⟩:=I.loc;hn.lt
theorem Inv.sz(I:Inv X pins σ H s):X.s₀.heap.objs.size≤s.heap.objs.size:=Nat.le_trans I.ok.above (Nat.le_of_lt I.lt)
theorem Inv.rD(I:Inv X pins σ H s){a:Addr}(h:s.heap.objs.size≤a):a∉X.fs:=fun hb=>by
 obtain⟨_,o,ho,_⟩:=I.ok.gR.mem hb
 exact absurd (Nat.lt_of_lt_of_le (Heap.lt_size ho) (Nat.le_trans I.sz h)) (Nat.lt_irrefl _)
theorem Inv.cne(I:Inv X pins σ H s):∀x c,X.env.cells.lookup x=some c→c≠X.env.locals:=fun x c e z=>by
 obtain⟨v,o,ho,hd⟩:=I.cell x c e
 obtain⟨m,⟨o',es,ep,ho',hd',_⟩,_⟩:=I.loc
 rw[z,ho']at ho;cases ho;rw[hd']at hd;cases hd
theorem Inv.gR(I:Inv X pins σ H s):s.heap.FunFrames X.base X.outer:=by
 have all:∀(l:List Env),(∀b∈frs l,b∈X.fs)→X.s₀.heap.FunFrames X.base l→s.heap.FunFrames X.base l:=by
  intro l
  induction l with
  |nil=>intro _ _;trivial
  | cons env r ih =>
   intro hs hl
   obtain⟨hk,⟨L,o,hf,hn,ho,hd⟩,hr⟩:=hl
   have hL:L∈X.fs:=hs L (by unfold frs;rw[List.filterMap_cons,hf];exact List.mem_cons_self)
   obtain⟨sl,e⟩:=I.base.slot L o ho (I.ok.frf L hL) hL fun z=>I.ok.nW L z hL
   exact⟨hk,⟨L,_,hf,hn,e,hd⟩,ih (fun b hb=>hs b (by unfold frs;rw[List.filterMap_cons,hf];exact List.mem_cons_of_mem _ hb)) hr⟩
 exact all X.outer (fun _ hb=>hb) I.ok.gR
theorem Inv.stack(I:Inv X pins σ H s):s.heap.FunFrames X.base X.stack:=by
 rcases I.ok.stk with e|⟨e,hf⟩
 ·rw[e];exact I.gR
 ·rw[e]
  obtain⟨m,hn,_⟩:=I.loc
  refine .cons (by rw[I.ok.kind];decide) hf hn ?_ I.gR
  exact Heap.get?_none_of_le (Nat.le_trans I.ok.bsz I.ok.above)
theorem Inv.lW(I:Inv X pins σ H s):∀b∈frs X.stack,b∈X.env.locals::X.fs:=fun b hb=>by
 rcases I.ok.stk with e|⟨e,hf⟩
 ·rw[e]at hb;exact List.mem_cons_of_mem _ hb
 ·rw[e]at hb
  unfold frs at hb
  rw[List.filterMap_cons,hf]at hb
  exact hb
theorem Inv.nu(I:Inv X pins σ H s):∀b∈frs X.stack,H b=none:=fun b hb=>by
 rcases List.mem_cons.mp (I.lW b hb)with e|hb
 ·rw[e];exact I.free
 ·obtain⟨_,o,ho,_⟩:=I.ok.gR.mem hb
  exact I.base.free b o ho (I.ok.frf b hb) fun z=>I.ok.nW b z hb
theorem Inv.step{g':Array GenState}{t':Nat}{d':Drawn}{ch:List Addr}(I:Inv X pins σ H s)
  (hch:∀b∈ch,(b∈X.ex∨X.s₀.heap.objs.size≤b)∧b≠X.env.locals∧(∀x c,X.env.cells.lookup x=some c→c≠b)∧∀p∈X.pn++pins,p.1≠b)
  (keep:∀b o,b≠X.env.locals→b∉X.fs→b∉ch→s.heap.get? b=some o→H b=none→h'.get? b=some o)
  (slot:∀b o,b≠X.env.locals→b∈X.fs→b∉ch→s.heap.get? b=some o→H b=none→∃sl,h'.get? b=some {o with slots:=sl}) (free:∀b o,b∉ch→s.heap.get? b=some o→H b=none→H' b=none)
  (there:∀b o,b∉ch→s.heap.get? b=some o→∃o',h'.get? b=some o')
  (tups:∀b xs,H b=some (.tup xs)→H' b=some (.tup xs)) (fM:∀b o u,H b=some (.frz o u)→H' b=some (.frz o u)) (gQ:∀b ps,H b=some (.tbl ps)→∃more,H' b=some (.tbl (ps++more)))
  (ns:∀m,s.heap.Ns X.env.locals m→h'.Ns X.env.locals m) (hok:HOk X.prog X.w H' h') (hg:AllBare g') :
  Inv X pins σ H' {s with heap:=h',gens:=g',drawn:=d',toks:=t'}:=by
 have neL:∀b o,X.s₀.heap.get? b=some o→b≠X.env.locals:=fun b o e=>Nat.ne_of_lt (Nat.lt_of_lt_of_le (Heap.lt_size e) I.ok.above)
 have neC:∀b o,X.s₀.heap.get? b=some o→b∉X.ex→b∉ch:=fun b o e hx hb=>by
  rcases(hch b hb).1 with z|z
  ·exact hx z
  ·exact absurd (Nat.lt_of_lt_of_le (Heap.lt_size e) z) (Nat.lt_irrefl _)
 have cellK:∀x c,X.env.cells.lookup x=some c→∀v,s.heap.IsCell c v→h'.IsCell c v:=fun x c e v ⟨o,ho,hd⟩=>by
  have nch:c∉ch:=fun z=>(hch c z).2.2.1 x c e rfl
  by_cases hc:c∈X.fs
  ·obtain⟨sl,q⟩:=slot c o (I.cne x c e) hc nch ho (I.cZ x c e)
   exact⟨_,q,hd⟩
  ·exact⟨o,keep c o (I.cne x c e) hc nch ho (I.cZ x c e),hd⟩
 refine⟨I.ok,I.os,hg,⟨fun b o e n hb hx=>?_,fun b o e n hb hx=>?_,fun b o e n hx=>?_,fun b o e hx=>?_,fun b xs e=>tups b xs (I.base.tups b xs e),fun b o xs e=>fM b o xs (I.base.fM b o xs e),fun b ps e=>?_⟩,?_,fun x c e=>?_,?_,fun x c e=>?_,fun p hp=>?_,hok,I.len⟩
 ·exact keep b o (neL b o e) hb (neC b o e hx) (I.base.keep b o e n hb hx) (I.base.free b o e n hx)
 ·obtain⟨sl,e1⟩:=I.base.slot b o e n hb hx
  obtain⟨sl',e2⟩:=slot b _ (neL b o e) hb (neC b o e hx) e1 (I.base.free b o e n hx)
  exact⟨sl',e2⟩
 ·obtain⟨o',e1⟩:=I.base.there b o e hx
  exact free b o' (neC b o e hx) e1 (I.base.free b o e n hx)
 ·obtain⟨o',e1⟩:=I.base.there b o e hx
  exact there b o' (neC b o e hx) e1
 ·obtain⟨m1,e1⟩:=I.base.gQ b ps e
  obtain⟨m2,e2⟩:=gQ b _ e1
  exact⟨m1++m2,by rw[e2,Array.append_assoc]⟩
 ·obtain⟨m,hn,hl⟩:=I.loc
  refine⟨m,ns m hn,fun i x v e1 e2 e3=>?_⟩
  obtain⟨u,r,l⟩:=hl i x v e1 e2 e3
  refine⟨u,r,?_⟩
  rcases l with l|⟨k,c,e,z⟩
  ·exact .inl l
  ·exact .inr ⟨k,c,e,cellK x c e _ z⟩
 ·obtain⟨v,z⟩:=I.cell x c e
  exact⟨v,cellK x c e v z⟩
 ·obtain⟨m,⟨o,_,_,ho,_⟩,_⟩:=I.loc
  exact free _ o (fun z=>(hch _ z).2.1 rfl) ho I.free
 ·obtain⟨v,o,ho,hd⟩:=I.cell x c e
  exact free c o (fun z=>(hch c z).2.2.1 x c e rfl) ho (I.cZ x c e)
 ·obtain⟨e,n,ne,nf,d⟩:=I.pin p hp
  have nch:p.1∉ch:=fun z=>(hch p.1 z).2.2.2 p hp rfl
  exact⟨keep p.1 p.2 ne nf nch e n,free p.1 p.2 nch e n,ne,nf,d⟩
theorem Inv.un{t':Nat}(I:Inv X pins σ H s)(u:Un X.fs [] H H' s.heap h')(hok:HOk X.prog X.w H' h'):Inv X pins σ H' {s with heap:=h',toks:=t'}:=by
 obtain⟨m,⟨o,es,ep,ho,r⟩,_⟩:=id I.loc
 obtain⟨sl,hL⟩:=u.any ho I.free (by simp)
 exact I.step (g':=s.gens) (d':=s.drawn) (ch:=[]) (fun _ z=>nomatch z) (fun b o _ hb _ e n=>u.keep b o e n hb (by simp)) (fun b o _ hb _ e n=>u.slot b o e n hb (by simp)) (fun b o _ e n=>u.free b o e n (by simp)) (fun b o _ e=>u.there b o e (by simp)) u.tups u.fM u.gQ (fun m' hm=>by
  obtain⟨o',es',ep',ho',r'⟩:=hm
  rw[ho]at ho';cases ho'
  exact⟨_,es',ep',hL,r'⟩) hok I.bare
theorem Inv.call{g':Array GenState}{t':Nat}{d':Drawn}{ch:List Addr}(I:Inv X pins σ H s)(u:Un (frs X.stack) ch H H' s.heap h')(hok:HOk X.prog X.w H' h')(hg:AllBare g')
  (hch:∀b∈ch,(b∈X.ex∨X.s₀.heap.objs.size≤b)∧b≠X.env.locals∧(∀x c,X.env.cells.lookup x=some c→c≠b)∧∀p∈X.pn++pins,p.1≠b) :
  Inv X pins σ H' {s with heap:=h',gens:=g',drawn:=d',toks:=t'}:=by
 obtain⟨m,⟨o,es,ep,ho,r⟩,_⟩:=id I.loc
 obtain⟨sl,hL⟩:=u.any ho I.free fun z=>(hch _ z).2.1 rfl
 exact I.step (ch:=ch) hch (fun b o hL hb hc e n=>u.keep b o e n (fun z=>(List.mem_cons.mp (I.lW b z)).elim hL hb) hc) (fun b o _ _ hc e n=>u.any e n hc) (fun b o hc e n=>u.free b o e n hc) (fun b o hc e=>u.there b o e hc) u.tups u.fM u.gQ (fun m' hm=>by
  obtain⟨o',es',ep',ho',r'⟩:=hm
  rw[ho]at ho';cases ho'
  exact⟨_,es',ep',hL,r'⟩) hok hg
theorem Inv.turned{t':Nat}{it:Addr}(I:Inv X pins σ H s)(k:∀b o,b≠it→s.heap.get? b=some o→h'.get? b=some o)(hn:H it=none)(hL:it≠X.env.locals)
  (h1:it∈X.ex∨X.s₀.heap.objs.size≤it) (h2:∀x c,X.env.cells.lookup x=some c→c≠it) (h3:∀p∈X.pn++pins,p.1≠it):Inv X pins σ H {s with heap:=h',toks:=t'}:=by
 have nit:∀b u,H b=some u→b≠it:=fun b u e z=>by rw[z,hn]at e;cases e
 refine I.step (g':=s.gens) (d':=s.drawn) (ch:=[it]) (fun b hb=>?_) (fun b o _ _ hc e _=>k b o (fun z=>hc (by simp[z])) e) (fun b o _ _ hc e _=>⟨o.slots,k b o (fun z=>hc (by simp[z])) e⟩) (fun _ _ _ _ n=>n)
  (fun b o hc e=>⟨o,k b o (fun z=>hc (by simp[z])) e⟩) (fun _ _ e=>e) (fun _ _ _ e=>e) (fun b ps e=>⟨#[],by rw[e];simp⟩) (fun m hm=>?_) (fun b u e=>?_) I.bare
 ·have e:b=it:=by simpa using hb
  subst e
  exact⟨h1,hL,h2,h3⟩
 ·obtain⟨o,es,ep,ho,r⟩:=hm
  exact⟨o,es,ep,k _ o (Ne.symm hL) ho,r⟩
 ·refine(I.hok b u e).stay (fun c v hc q=>k c v ?_ q) (fun _ q=>q) fun _ _ q=>q
  rcases hc with z|z
  ·rw[z];exact nit b u e
  ·exact nit c _ z
theorem Inv.tok(I:Inv X pins σ H s)(t:Nat):Inv X pins σ H {s with toks:=t}:=I.un (h':=s.heap) (t':=t) Un.refl I.hok
theorem Inv.kept{t':Nat}(I:Inv X pins σ H s)(k:∀b u,s.heap.get? b=some u→h'.get? b=some u):Inv X pins σ H {s with heap:=h',toks:=t'}:=I.un (Un.kept k) (I.hok.kept k)
theorem Inv.laid{a:Addr}{o:HO}{t':Nat}(I:Inv X pins σ H s)(k:∀b u,s.heap.get? b=some u→h'.get? b=some u)(hp:s.heap.objs.size≤a)(new:GZ X.prog X.w (upd H a o) h' a o) :
  Inv X pins σ (upd H a o) {s with heap:=h',toks:=t'}:=I.un (Un.laid k hp (I.hok.fresh hp)) (I.hok.laid k hp new)
theorem Inv.write{x e:Addr}{o:HO}{t':Nat}(I:Inv X pins σ H s)(mu:Mut (H x))(he:e=x∨H e=some (.own x))(k:∀b u,b≠e→s.heap.get? b=some u→h'.get? b=some u)(heo:∃u,h'.get? e=some u)
  (new:GZ X.prog X.w (upd H x o) h' x o):Inv X pins σ (upd H x o) {s with heap:=h',toks:=t'}:=I.un (Un.write mu he k heo) (I.hok.write mu he k heo new)
theorem Inv.nA{qw:List (Addr×Obj)}(I:Inv X pins σ H s)(h:∀p∈qw,s.heap.get? p.1=some p.2∧H p.1=none∧p.1≠X.env.locals∧p.1∉X.fs∧∀v,p.2.data≠.cell v):Inv X qw σ H s :=
 ⟨I.ok,I.os,I.bare,I.base,I.loc,I.cell,I.free,I.cZ,fun p hp=>(List.mem_append.mp hp).elim (fun z=>I.pin p (List.mem_append_left _ z)) (h p),I.hok,I.len⟩
theorem Vc{N:List Str}(hN:N.Nodup){i j:Nat}{x:Str}(a:N[i]? = some x)(b:N[j]? = some x):i=j:=by
 obtain⟨h1,e1⟩:=List.getElem?_eq_some_iff.mp a
 obtain⟨h2,e2⟩:=List.getElem?_eq_some_iff.mp b
 exact(List.getElem_inj hN).mp (e1.trans e2.symm)
theorem Rz{M:Model}{A:Around}{E:Value→Shared→Prop}{i:Nat}{x:Str}{v:V}{u:Value}{Q:Unit→Shared→Prop}(I:Inv X pins σ H s)(hN:X.N.Nodup)(hi:X.N[i]? = some x)(hx:Loc X.env.scope x)(r:RelV v u)
  (h:∀s',Inv X pins (σ.set i (some v)) H s'→(∃a,Heap.SameBut a s.heap s'.heap∧(a=X.env.locals∨X.env.cells.lookup x=some a))→Q () s') (hf:X.fn x=true∨X.env.scope.names.lookup x=some .local:=by first|exact .inl rfl|exact .inr rfl|assumption):wpAny M A (storeName X.env x u) Q E s:=by
 obtain⟨m,hn,hl⟩:=id I.loc
 have hcls:(X.env.scope.kind == .class||(X.env.scope.kind == .module&&X.env.locals != X.env.globals))=false:=by rw[I.ok.kind];rfl
 have hiσ:i<σ.length:=by rw[I.len];exact(List.getElem?_eq_some_iff.mp hi).1
 have cne:=I.cne
 have tracked:∀{a:Addr} {h':Heap},(∃o,s.heap.get? a=some o∧H a=none)→Heap.SameBut a s.heap h'→HOk X.prog X.w H h':=fun{a h'} ha hs b ob e=>by
  obtain⟨_,_,hfree⟩:=ha
  refine(I.hok b ob e).stay (fun c w' hc q=>(hs.2 c ?_).trans q) (fun _ q=>q) fun _ _ q=>q
  rintro rfl
  rcases hc with rfl|hc
  ·rw[hfree]at e;cases e
  ·rw[hfree]at hc;cases hc
 rcases hx with hk|hk
 ·refine wpAny_storeName_local hk hn (fun h' hn' hs=>?_) hcls
  obtain⟨oL,_,_,hoL,_⟩:=id hn
  refine h _ ⟨I.ok,I.os,I.bare,⟨fun b o e n hb hx=>?_,fun b o e n hb hx=>?_,I.base.free,fun b o e hx=>?_,I.base.tups,I.base.fM,I.base.gQ⟩,⟨_,hn',fun j y v' e1 e2 e3=>?_⟩,fun y c e=>?_,I.free,I.cZ,fun p hp=>?_,tracked ⟨oL,hoL,I.free⟩ hs,by simpa using I.len⟩ ⟨_,hs,.inl rfl⟩
  ·exact(hs.2 b (Nat.ne_of_lt (Nat.lt_of_lt_of_le (Heap.lt_size e) I.ok.above))).trans (I.base.keep b o e n hb hx)
  ·obtain⟨sl,e1⟩:=I.base.slot b o e n hb hx
   exact⟨sl,(hs.2 b (Nat.ne_of_lt (Nat.lt_of_lt_of_le (Heap.lt_size e) I.ok.above))).trans e1⟩
  ·obtain⟨o',e1⟩:=I.base.there b o e hx
   exact⟨o',(hs.2 b (Nat.ne_of_lt (Nat.lt_of_lt_of_le (Heap.lt_size e) I.ok.above))).trans e1⟩
  ·by_cases hj:j=i
   ·subst hj
    rw[hi]at e1;cases e1
    rw[List.getElem?_set_self hiσ]at e2
    cases e2
    exact⟨u,r,.inl ⟨hk,by simp⟩⟩
   ·rw[List.getElem?_set_ne (Ne.symm hj)]at e2
    obtain⟨u',r',q⟩:=hl j y v' e1 e2 e3
    refine⟨u',r',?_⟩
    rcases q with⟨k,e⟩|⟨k,c,e,z⟩
    ·refine .inl ⟨k,?_⟩
     have:y≠x:=fun e=>hj (Vc hN e1 (e ▸ hi))
     simp[this,e]
    ·exact .inr ⟨k,c,e,z.sameBut hs (cne y c e)⟩
  ·obtain⟨w',z⟩:=I.cell y c e
   exact⟨w',z.sameBut hs (cne y c e)⟩
  ·obtain⟨e,n,ne,nf,d⟩:=I.pin p hp
   exact⟨(hs.2 p.1 ne).trans e,n,ne,nf,d⟩
 ·have hfn:X.fn x=true:=by
   rcases hf with z|z
   ·exact z
   ·rw[z]at hk;cases hk
  obtain⟨c,hc⟩:=I.ok.has x (.inl hk)
  obtain⟨w',z⟩:=I.cell x c hc
  refine wpAny_storeName_cell I.ok.kind hk hc z (fun h' hc' hs=>?_)
  obtain⟨oc,hoc,rE⟩:=id z
  refine h {s with heap:=h'} ⟨I.ok,I.os,I.bare,⟨fun b o e n hb hx=>?_,fun b o e n hb hx=>?_,I.base.free,fun b o e hx=>?_,I.base.tups,I.base.fM,I.base.gQ⟩,⟨m,hn.sameBut hs (Ne.symm (cne x c hc)),fun j y v' e1 e2 e3=>?_⟩,fun y c' e=>?_,I.free,I.cZ,fun p hp=>?_,tracked ⟨oc,hoc,I.cZ x c hc⟩ hs,by simpa using I.len⟩ ⟨c,hs,.inr hc⟩
  ·exact(hs.2 b (Nat.ne_of_lt (Nat.lt_of_lt_of_le (Heap.lt_size e) (I.ok.cab x c hfn hc)))).trans (I.base.keep b o e n hb hx)
  ·obtain⟨sl,e1⟩:=I.base.slot b o e n hb hx
   exact⟨sl,(hs.2 b (Nat.ne_of_lt (Nat.lt_of_lt_of_le (Heap.lt_size e) (I.ok.cab x c hfn hc)))).trans e1⟩
  ·obtain⟨o',e1⟩:=I.base.there b o e hx
   exact⟨o',(hs.2 b (Nat.ne_of_lt (Nat.lt_of_lt_of_le (Heap.lt_size e) (I.ok.cab x c hfn hc)))).trans e1⟩
  ·by_cases hj:j=i
   ·subst hj
    rw[hi]at e1;cases e1
    rw[List.getElem?_set_self hiσ]at e2
    cases e2
    exact⟨u,r,.inr ⟨.inl hk,c,hc,hc'⟩⟩
   ·rw[List.getElem?_set_ne (Ne.symm hj)]at e2
    obtain⟨u',r',q⟩:=hl j y v' e1 e2 e3
    refine⟨u',r',?_⟩
    rcases q with q|⟨k,c',e,z'⟩
    ·exact .inl q
    ·refine .inr ⟨k,c',e,z'.sameBut hs ?_⟩
     rintro rfl
     exact hj (Vc hN e1 (I.ok.inj _ _ _ e hc ▸ hi))
  ·by_cases hcc:c'=c
   ·subst hcc;exact⟨_,hc'⟩
   ·obtain⟨w2,z2⟩:=I.cell y c' e
    exact⟨w2,z2.sameBut hs hcc⟩
  ·obtain⟨e,n,ne,nf,d⟩:=I.pin p hp
   refine⟨(hs.2 p.1 ?_).trans e,n,ne,nf,d⟩
   intro q
   rw[q,hoc]at e
   have q':oc=p.2:=Option.some.inj e
   exact d w' (by rw[←q'];exact rE)
theorem Hy{M:Model}{A:Around}{E:Value→Shared→Prop}{i:Nat}{x:Str}{v:V}{u:Value}{Q:Unit→Shared→Prop}(I:Inv X pins σ H s)(hN:X.N.Nodup)(hi:X.N[i]? = some x)(hx:Loc X.env.scope x)(r:RelV v u)
  (h:∀s',Inv X pins (σ.set i (some v)) H s'→Q () s') (hf:X.fn x=true∨X.env.scope.names.lookup x=some .local:=by first|exact .inl rfl|exact .inr rfl|assumption):wpAny M A (storeName X.env x u) Q E s :=
 Rz I hN hi hx r (fun s' I' _=>h s' I') hf
theorem Inv.call'{s':Shared}{ch:List Addr}(I:Inv X pins σ H s)(ho:s'.os=s.os)(u:Un (frs X.stack) ch H H' s.heap s'.heap)(hok:HOk X.prog X.w H' s'.heap)(hg:AllBare s'.gens)
  (hch:∀b∈ch,(b∈X.ex∨X.s₀.heap.objs.size≤b)∧b≠X.env.locals∧(∀x c,X.env.cells.lookup x=some c→c≠b)∧∀p∈X.pn++pins,p.1≠b):Inv X pins σ H' s':=by
 obtain⟨h',g',d',t',o'⟩:=s'
 have e:o'=s.os:=ho
 subst e
 exact I.call (g':=g') (t':=t') (d':=d') u hok hg hch
end
abbrev XK:=Value→Option Addr→Hp→Prop
abbrev St:=List (Option V)
abbrev VK:=V→Hp→Prop
abbrev TE:=St→Hp→VK→Prop
abbrev TT:=St→Hp→(Bool→Hp→Prop)→Prop
abbrev TA:=St→Hp→(List V→Hp→Prop)→Prop
structure Ends where
 nx:St→Hp→Prop
 rt:VK
 bk:St→Hp→Prop:=fun _ _=>False
 ct:St→Hp→Prop:=fun _ _=>False
abbrev TS:=Ends→St→Hp→Prop
def EP(X:Cx)(pins:List (Addr×Obj))(σ:St)(Q:VK)(u:Value)(s':Shared):Prop:=∃v H',Inv X pins σ H' s'∧RelV v u∧Q v H'
def TP(X:Cx)(pins:List (Addr×Obj))(σ:St)(Q:Bool→Hp→Prop)(b:Bool)(s':Shared):Prop:=∃H',Inv X pins σ H' s'∧Q b H'
def AP(X:Cx)(pins:List (Addr×Obj))(σ:St)(Q:List V→Hp→Prop)(us:List Value)(s':Shared):Prop:=∃vs H',Inv X pins σ H' s'∧Vals vs us∧Q vs H'
def SP(X:Cx)(pins:List (Addr×Obj))(D:Ends)(f:Flow)(s':Shared):Prop :=
 match f with
 |.next=>∃σ' H',Inv X pins σ' H' s'∧D.nx σ' H'
 |.brk=>∃σ' H',Inv X pins σ' H' s'∧D.bk σ' H'
 |.cont=>∃σ' H',Inv X pins σ' H' s'∧D.ct σ' H'
 |.ret u=>∃v σ' H',Inv X pins σ' H' s'∧RelV v u∧D.rt v H'
def PE(X:Cx)(e:Expr)(t:TE):Prop :=
 ∀(pins:List (Addr×Obj))(s:Shared)(σ:St)(H:Hp)(Q:VK),Inv X pins σ H s→t σ H Q→wpAny (model X.prog X.w) X.A (eval e X.env) (EP X pins σ Q) X.xe s
def PT(X:Cx)(e:Expr)(t:TT):Prop :=
 ∀(pins:List (Addr×Obj))(s:Shared)(σ:St)(H:Hp)(Q:Bool→Hp→Prop),Inv X pins σ H s→t σ H Q→wpAny (model X.prog X.w) X.A (isTrue e X.env (eval e X.env)) (TP X pins σ Q) X.xe s
def PW(X:Cx)(e:Expr)(t:TT):Prop :=
 ∀(whole:Sem Value)(pins:List (Addr×Obj))(s:Shared)(σ:St)(H:Hp)(Q:Bool→Hp→Prop),Inv X pins σ H s→t σ H Q→wpAny (model X.prog X.w) X.A (isTrue e X.env whole) (TP X pins σ Q) X.xe s
theorem PW.pt{X:Cx}{e:Expr}{t:TT}(h:PW X e t):PT X e t:=h _
def PA(X:Cx)(es:List Expr)(t:TA):Prop :=
 ∀(pos:Pos)(pins:List (Addr×Obj))(s:Shared)(σ:St)(H:Hp)(Q:List V→Hp→Prop),Inv X pins σ H s→t σ H Q→wpAny (model X.prog X.w) X.A (spliced (backTo pos (starEach es X.env))) (AP X pins σ Q) X.xe s
def PS(X:Cx)(st:Stmt)(t:TS):Prop :=
 ∀(pins:List (Addr×Obj))(s:Shared)(σ:St)(H:Hp)(D:Ends),Inv X pins σ H s→t D σ H→wpAny (model X.prog X.w) X.A (exec st X.env) (SP X pins D) X.xe s
def PSs(X:Cx)(st:List Stmt)(t:TS):Prop :=
 ∀(pins:List (Addr×Obj))(s:Shared)(σ:St)(H:Hp)(D:Ends),Inv X pins σ H s→t D σ H→wpAny (model X.prog X.w) X.A (execs st X.env) (SP X pins D) X.xe s
theorem thn{α:Type}{t:Sem α}{Q Q':α→Shared→Prop}{M:Model}{A:Around}{E:Value→Shared→Prop}{s:Shared}(h:wpAny M A t Q E s)(hQ:∀a s,Q a s→Q' a s):wpAny M A t Q' E s:=wpAny_mono h hQ fun _ _ x=>x
end L2
namespace L2
open PySem Spec PyProof.Rows
section
variable{X:Cx}
theorem bin{a b:Expr}{ta tb:TE}(ha:PE X a ta)(hb:PE X b tb){pins:List (Addr×Obj)}{s:Shared}{σ:St}{H:Hp}{R:V→V→Hp→Prop}(I:Inv X pins σ H s)(h:ta σ H fun x H1=>tb σ H1 fun y H2=>R x y H2)
  {α:Type} {Q:α→Shared→Prop} {f:Value→Value→Sem α}
  (hf:∀v u s2 x y H2,Inv X pins σ H2 s2→RelV x v→RelV y u→R x y H2→wpAny (model X.prog X.w) X.A (f v u) Q X.xe s2) :
  wpAny (model X.prog X.w) X.A (eval a X.env) (fun v s₁=>wpAny (model X.prog X.w) X.A (eval b X.env) (fun u s₂=>wpAny (model X.prog X.w) X.A (f v u) Q X.xe s₂) X.xe s₁) X.xe s:=by
 refine thn (ha pins s σ H _ I h) fun v s1 ⟨x,H1,I1,r1,q1⟩=>?_
 refine thn (hb pins s1 σ H1 _ I1 q1) fun u s2 ⟨y,H2,I2,r2,q2⟩=>?_
 exact hf v u s2 x y H2 I2 r1 r2 q2
def AnP(i:Nat):TE:=fun σ H Q=>∃v,σ[i]? = some (some v)∧Q v H
def tC(v:V):TE:=fun _ H Q=>Q v H
theorem Ir{i:Nat}{x:Str}{pos:Pos}(hN:X.N[i]? = some x)(hv:Vis X.env.scope x)(hd:(x==("__debug__":Str))=false:=by decide)(hcd:(x==("__classdict__":Str))=false:=by decide):PE X (.Name x pos) (AnP i):=by
 intro pins s σ H Q I h
 obtain⟨v,e,h⟩:=h
 obtain⟨m,hn,hl⟩:=I.loc
 obtain⟨u,r,l⟩:=hl i x v hN e hv
 have fin:EP X pins σ Q u s:=⟨v,H,I,r,h⟩
 rcases l with⟨hk,hm⟩|⟨hk,c,hc,hcell⟩
 ·exact wpAny_Name (wpAny_loadName_local I.ok.kind hk hn hm fin) hd
 ·rcases hk with hk|hk
  ·exact wpAny_Name (wpAny_loadName_cell I.ok.kind hk hc hcell fin) hd
  ·exact wpAny_Name (wpAny_loadName_free I.ok.kind hk hc hcell fin hcd) hd
theorem AiP{i j pos}:PE X (.Constant (.int i) j pos) (tC (.int i)):=fun _ _ _ H _ I h=>wpAny_Constant_int ⟨.int i,H,I.tok _,⟨_,rfl⟩,h⟩
theorem Al2{b j pos}:PE X (.Constant (.bool b) j pos) (tC (.bl b)):=fun _ _ _ H _ I h=>Constant_bool ⟨.bl b,H,I,rfl,h⟩
theorem AhK{j pos}:PE X (.Constant .none j pos) (tC .non):=fun _ _ _ H _ I h=>Constant_none ⟨.non,H,I,rfl,h⟩
theorem AiO{x j pos}:PE X (.Constant (.str x) j pos) (tC (.str x)):=fun _ _ _ H _ I h=>Calls.Constant_str ⟨.str x,H,I.tok _,⟨_,rfl⟩,h⟩
def Gl(X:Cx)(x:Str):Prop:=X.env.kindOf x=some .globalImplicit
theorem T7{E:Value→Shared→Prop}{pins:List (Addr×Obj)}{s:Shared}{σ:St}{H:Hp}{x:Str}{u:Value}{pos:Pos}{Q:Value→Shared→Prop}(I:Inv X pins σ H s)(hg:Gl X x)(hm:X.mg x=some u)(h:Q u s)
  (hd:(x==("__debug__":Str))=false:=by decide):wpAny (model X.prog X.w) X.A (eval (.Name x pos) X.env) Q E s :=
 Calls.Name_function_global I.ok.kind hg (Calls.loadGlobal_global (by rw[I.ok.glob];exact I.mod.glob.keeps I.bk) hm h) hd
theorem QJ{E:Value→Shared→Prop}{pins:List (Addr×Obj)}{s:Shared}{σ:St}{H:Hp}{x:Str}{u:Value}{pos:Pos}{Q:Value→Shared→Prop}(I:Inv X pins σ H s)(hg:Gl X x)(hm:X.mg x=none)(hv:bootBuiltins x=some u)(h:Q u s)
  (hn:x≠"__name__":=by decide) (hd:(x==("__debug__":Str))=false:=by decide):wpAny (model X.prog X.w) X.A (eval (.Name x pos) X.env) Q E s:=by
 obtain⟨mb,h1,h2⟩:=I.mod.blt
 exact Calls.Name_function_global I.ok.kind hg (Calls.loadGlobal_builtin (by rw[I.ok.glob];exact I.mod.glob.keeps I.bk) hm (by rw[I.ok.blt];exact h1.keeps I.bk) ((h2 x hn).trans hv) h) hd
theorem ZL{x:Str}{v:V}{u:Value}{pos:Pos}(hg:Gl X x)(hm:X.mg x=some u)(r:RelV v u)(hd:(x==("__debug__":Str))=false:=by decide):PE X (.Name x pos) (tC v) :=
 fun _ _ _ H _ I h=>T7 I hg hm ⟨v,H,I,r,h⟩ hd
theorem Ae0{x:Str}{v:V}{u:Value}{pos:Pos}(hg:Gl X x)(hm:X.mg x=none)(hv:bootBuiltins x=some u)(r:RelV v u)(hn:x≠"__name__":=by decide)(hd:(x==("__debug__":Str))=false:=by decide):PE X (.Name x pos) (tC v) :=
 fun _ _ _ H _ I h=>QJ I hg hm hv ⟨v,H,I,r,h⟩ hn hd
variable{a b:Expr}{ta tb:TE}{pos:Pos}
def PC(X:Cx)(op:CmpOp)(a b:Expr)(t:TE):Prop :=
 ∀(pins:List (Addr×Obj))(s:Shared)(σ:St)(H:Hp)(Q:VK),Inv X pins σ H s→t σ H Q →
  wpAny (model X.prog X.w) X.A (eval a X.env) (fun v s₁=>wpAny (model X.prog X.w) X.A (eval b X.env) (fun u s₂=>wpAny (model X.prog X.w) X.A (compareOp op v u) (EP X pins σ Q) X.xe s₂) X.xe s₁) X.xe s
def tB(t:TE):TT:=fun σ H Q=>t σ H fun x H1=>∃c,x=.bl c∧Q c H1
theorem Amz{op:CmpOp}{t:TE}(h:PC X op a b t)(h1:behindInMarks op b=false:=by first | exact qO _ (by decide) (by decide) | rfl):PT X (.Compare a [op] [b] pos) (tB t):=by
 intro pins s σ H Q I hw
 refine wpAny_isTrue_Compare1 (thn (h pins s σ H _ I hw) fun v s1 h1=>thn h1 fun u s2 h2=>thn h2 fun c s3 ⟨x,H1,I1,r1,q1⟩=>?_) h1
 obtain⟨d,rfl,q⟩:=q1
 cases r1
 exact wpAny_truthy_bool ⟨H1,I1,q⟩
theorem Ahq{e:Expr}{t:TE}(h:PE X e t)(he:∀whole,isTrue e X.env whole=(do let v ←whole;standAt e.pos;holding [v] (truthy v)):=by intro _;rfl):PT X e (tB t):=by
 intro pins s σ H Q I hw
 refine isTrue_plain (thn (h pins s σ H _ I hw) fun v s1 ⟨x,H1,I1,r1,q1⟩=>?_) (he _)
 obtain⟨d,rfl,q⟩:=q1
 cases r1
 exact wpAny_truthy_bool ⟨H1,I1,q⟩
variable{tA tB':TT}{rest:List Expr}
def An1(t u:TT):TT:=fun σ H Q=>t σ H fun c H1=>if c=true then u σ H1 Q else Q false H1
def tOr(t u:TT):TT:=fun σ H Q=>t σ H fun c H1=>if c=true then Q true H1 else u σ H1 Q
def Amt(t:TT):TT:=fun σ H Q=>t σ H fun c H1=>Q (!c) H1
theorem Afu(ha:PT X a tA):PW X (.BoolOp .And [a] pos) tA:=by
 intro wh pins s σ H Q I h
 refine isTrue_and (thn (ha pins s σ H Q I h) fun c s1 e=>?_)
 cases c with
 |true=>exact isTrue_and_nil e
 |false=>exact e
theorem Ah5(ha:PT X a tA):PW X (.BoolOp .Or [a] pos) tA:=by
 intro wh pins s σ H Q I h
 refine isTrue_or (thn (ha pins s σ H Q I h) fun c s1 e=>?_)
 cases c with
 |false=>exact isTrue_or_nil e
 |true=>exact e
theorem AiI(ha:PT X a tA)(hb:PW X (.BoolOp .And (b::rest) pos) tB'):PW X (.BoolOp .And (a::b::rest) pos) (An1 tA tB'):=by
 intro wh pins s σ H Q I h
 refine isTrue_and (thn (ha pins s σ H _ I h) fun c s1 ⟨H1,I1,q1⟩=>?_)
 cases c with
 |true=>exact hb wh pins s1 σ H1 Q I1 q1
 |false=>exact⟨H1,I1,q1⟩
theorem Als(ha:PT X a tA)(hb:PW X (.BoolOp .Or (b::rest) pos) tB'):PW X (.BoolOp .Or (a::b::rest) pos) (tOr tA tB'):=by
 intro wh pins s σ H Q I h
 refine isTrue_or (thn (ha pins s σ H _ I h) fun c s1 ⟨H1,I1,q1⟩=>?_)
 cases c with
 |true=>exact⟨H1,I1,q1⟩
 |false=>exact hb wh pins s1 σ H1 Q I1 q1
theorem AiT(ha:PT X a tA):PT X (.UnaryOp .Not a pos) (Amt tA):=by
 intro pins s σ H Q I h
 exact isTrue_not (ha pins s σ H (fun c H1=>Q (!c) H1) I h)
def Aky(ta tb:TE):TE:=fun σ H Q=>ta σ H fun x H1=>∃c,x=.bl c∧if c=true then tb σ H1 Q else Q (.bl false) H1
def Anr(ta tb:TE):TE:=fun σ H Q=>ta σ H fun x H1=>∃c,x=.bl c∧if c=true then Q (.bl true) H1 else tb σ H1 Q
def Ama(ta:TE):TE:=fun σ H Q=>ta σ H fun x H1=>∃c,x=.bl c∧Q (.bl (!c)) H1
theorem AiR{op}{t:TE}(h:PE X a t):PE X (.BoolOp op [a] pos) t:=fun pins s σ H Q I hw=>BoolOp_one (h pins s σ H Q I hw)
theorem AhG(ha:PE X a ta)(hb:PE X (.BoolOp .And (b::rest) pos) tb):PE X (.BoolOp .And (a::b::rest) pos) (Aky ta tb):=by
 intro pins s σ H Q I h
 refine BoolOp_and (thn (ha pins s σ H _ I h) fun v s1 ⟨x,H1,I1,r1,q1⟩=>?_)
 obtain⟨c,rfl,q1⟩:=q1
 cases r1
 refine wpAny_truthy_bool ?_
 cases c with
 |true=>exact hb pins s1 σ H1 Q I1 q1
 |false=>exact⟨.bl false,H1,I1,rfl,q1⟩
theorem Akz(ha:PE X a ta)(hb:PE X (.BoolOp .Or (b::rest) pos) tb):PE X (.BoolOp .Or (a::b::rest) pos) (Anr ta tb):=by
 intro pins s σ H Q I h
 refine BoolOp_or (thn (ha pins s σ H _ I h) fun v s1 ⟨x,H1,I1,r1,q1⟩=>?_)
 obtain⟨c,rfl,q1⟩:=q1
 cases r1
 refine wpAny_truthy_bool ?_
 cases c with
 |false=>exact hb pins s1 σ H1 Q I1 q1
 |true=>exact⟨.bl true,H1,I1,rfl,q1⟩
theorem AhJ(ha:PE X a ta):PE X (.UnaryOp .Not a pos) (Ama ta):=by
 intro pins s σ H Q I h
 refine UnaryOp_ (thn (ha pins s σ H _ I h) fun v s1 ⟨x,H1,I1,r1,q1⟩=>?_)
 obtain⟨c,rfl,q1⟩:=q1
 cases r1
 exact not_of (wpAny_truthy_bool ⟨.bl (!c),H1,I1,rfl,q1⟩)
end
end L2
namespace L2
open PySem Spec PyProof.Rows
def SqL(K:W.Frag)(H:Hp)(a:Addr)(xs:List V):Prop :=
 Rd H a (.lst xs) ∨
  ∃(o:Obj)(its:Array Value)(n:Nat),K.lookup a=some o∧o.cls=.type "list"∧o.dict=none∧o.data=.seq its n∧its.size≤sizeLine∧Vals xs its.toList
def SqT(K:W.Frag)(H:Hp)(a:Addr)(xs:List V):Prop :=
 Rd H a (.tup xs) ∨
  ∃(o:Obj)(its:Array Value)(n:Nat),K.lookup a=some o∧o.cls=.type "tuple"∧o.data=.seq its n∧its.size≤sizeLine∧Vals xs its.toList
def Amr:Value→Option V
 |.none=>some .non
 |.bool b=>some (.bl b)
 |.int i _=>some (.int i)
 |.str x _=>some (.str x)
 |.bytes b _=>some (.byt b)
 |.float b _=>some (.flt b)
 |.ref a=>some (.ref a)
 |.type n=>some (.ty n)
 |_=>none
theorem RelV.abs{x:V}{u:Value}(r:RelV x u):Amr u=some x:=by
 cases x with
 |non=>cases r;rfl
 |bl _=>cases r;rfl
 |int _=>obtain⟨t,rfl⟩:=r;rfl
 |str _=>obtain⟨t,rfl⟩:=r;rfl
 |byt _=>obtain⟨t,rfl⟩:=r;rfl
 |flt _=>obtain⟨t,rfl⟩:=r;rfl
 |ref _=>cases r;rfl
 |ty _=>cases r;rfl
theorem RelV.inj{x y:V}{u:Value}(r:RelV x u)(q:RelV y u):x=y:=Option.some.inj (r.abs.symm.trans q.abs)
theorem Vals.inj:∀{xs ys:List V} {us:List Value},Vals xs us→Vals ys us→xs=ys
 |_,_,_,.nil,.nil=>rfl
 |_,_,_,.cons r t,.cons r' t'=>by rw[r.inj r',Vals.inj t t']
section
variable{X:Cx}{pins:List (Addr×Obj)}{σ:St}{H:Hp}{s:Shared}{a:Addr}{xs ys:List V}
theorem SqL.of{K:W.Frag}(h:H a=some (.lst xs)):SqL K H a xs:=.inl (.inl h)
theorem SqT.of{K:W.Frag}(h:H a=some (.tup xs)):SqT K H a xs:=.inl (.inl h)
theorem Inv.list(I:Inv X pins σ H s)(h:SqL X.K H a xs):∃its:List Value,Vals xs its∧PlainL s.heap a its.toArray∧xs.length≤sizeLine:=by
 rcases h with h|⟨o,its,n,hk,hc,hd,hs,hz,r⟩
 ·obtain⟨z,its,n,r,e⟩:=h.ok I.hok
  exact⟨its,r,⟨_,n,e,rfl,rfl,rfl⟩,z⟩
 ·refine⟨its.toList,r,⟨o,n,I.kIn a o hk,hc,hd,by simpa using hs⟩,?_⟩
  have e:=r.length
  simp only[Array.length_toList]at e
  omega
theorem Inv.tuple(I:Inv X pins σ H s)(h:SqT X.K H a xs):∃its:List Value,Vals xs its∧IsTup s.heap a its.toArray∧xs.length≤sizeLine:=by
 rcases h with h|⟨o,its,n,hk,hc,hs,hz,r⟩
 ·obtain⟨z,its,r,p⟩:=h.ok I.hok
  exact⟨its,r,p,z⟩
 ·refine⟨its.toList,r,⟨o,I.kIn a o hk,hc,n,by simpa using hs⟩,?_⟩
  have e:=r.length
  simp only[Array.length_toList]at e
  omega
theorem Inv.oX(I:Inv X pins σ H s)(h:SqL X.K H a xs)(h':SqL X.K H a ys):xs=ys:=by
 obtain⟨its,r,⟨o,n,e,_,_,d⟩,_⟩:=I.list h
 obtain⟨its',r',⟨o',n',e',_,_,d'⟩,_⟩:=I.list h'
 rw[e]at e';cases e'
 rw[d]at d'
 injection d' with d1 _
 have:its=its':=by simpa using congrArg Array.toList d1
 subst this
 exact r.inj r'
theorem Inv.nY(I:Inv X pins σ H s)(h:SqT X.K H a xs)(h':SqT X.K H a ys):xs=ys:=by
 obtain⟨its,r,⟨o,e,_,n,d⟩,_⟩:=I.tuple h
 obtain⟨its',r',⟨o',e',_,n',d'⟩,_⟩:=I.tuple h'
 rw[e]at e';cases e'
 rw[d]at d'
 injection d' with d1 _
 have:its=its':=by simpa using congrArg Array.toList d1
 subst this
 exact r.inj r'
end
abbrev Cx.wish(X:Cx)(E:Value→Shared→Prop):Cx:={X with xe:=E}
abbrev Cx.nox(X:Cx):Cx:=X.wish fun _ _=>False
theorem Cx.Ok.wish{X:Cx}(ok:X.Ok)(E:Value→Shared→Prop):(X.wish E).Ok :=
 ⟨ok.mod,ok.kind,ok.glob,ok.blt,ok.above,ok.inj,ok.has,ok.cab,ok.hd,ok.frames,ok.stk,ok.exf,ok.bs,ok.bsz,ok.oW,ok.nW,ok.gR,ok.frf⟩
theorem Cx.Ok.cD{X:Cx}{E:Value→Shared→Prop}(ok:(X.wish E).Ok):X.Ok :=
 ⟨ok.mod,ok.kind,ok.glob,ok.blt,ok.above,ok.inj,ok.has,ok.cab,ok.hd,ok.frames,ok.stk,ok.exf,ok.bs,ok.bsz,ok.oW,ok.nW,ok.gR,ok.frf⟩
section
variable{X:Cx}{pins:List (Addr×Obj)}{σ:St}{H:Hp}{s:Shared}{E:Value→Shared→Prop}
theorem Inv.wish(I:Inv X pins σ H s)(E:Value→Shared→Prop):Inv (X.wish E) pins σ H s:=⟨I.ok.wish E,I.os,I.bare,I.base,I.loc,I.cell,I.free,I.cZ,I.pin,I.hok,I.len⟩
theorem Inv.cD(I:Inv (X.wish E) pins σ H s):Inv X pins σ H s:=⟨I.ok.cD,I.os,I.bare,I.base,I.loc,I.cell,I.free,I.cZ,I.pin,I.hok,I.len⟩
theorem SP.cD{D:Ends}{f:Flow}{s':Shared}(h:SP (X.wish E) pins D f s'):SP X pins D f s':=by
 cases f with
 |next=>obtain⟨σ',H',I,q⟩:=h;exact⟨σ',H',I.cD,q⟩
 |brk=>obtain⟨σ',H',I,q⟩:=h;exact⟨σ',H',I.cD,q⟩
 |cont=>obtain⟨σ',H',I,q⟩:=h;exact⟨σ',H',I.cD,q⟩
 |ret u=>obtain⟨v,σ',H',I,r,q⟩:=h;exact⟨v,σ',H',I.cD,r,q⟩
theorem PSs.nox{st:List Stmt}{t:TS}(h:PSs X.nox st t):PSs X st t:=fun pins s σ H D I hw =>
 wpAny_mono (h pins s σ H D (I.wish _) hw) (fun _ _ q=>q.cD) fun _ _ z=>False.elim z
end
section
variable{X:Cx}{st:Stmt}{rest:List Stmt}{t u:TS}{e:Expr}{te:TE}{pos:Pos}
def Alx:TS:=fun D σ H=>D.nx σ H
def An0(t u:TS):TS:=fun D σ H=>t {D with nx:=u D} σ H
theorem Af4:PSs X [] Alx:=fun _ _ σ H _ I h=>wpAny_execs_nil ⟨σ,H,I,h⟩
theorem Qh(h1:PS X st t)(h2:PSs X rest u):PSs X (st::rest) (An0 t u):=by
 intro pins s σ H D I h
 refine wpAny_execs_cons (thn (h1 pins s σ H {D with nx:=u D} I h) fun f s1 q=>?_)
 cases f with
 | next =>
  obtain⟨σ',H',I',q⟩:=q
  exact h2 pins s1 σ' H' D I' q
 |ret v=>exact q
 |brk=>exact q
 |cont=>exact q
theorem UJ(h1:PS X st t):PSs X [st] t:=by
 intro pins s σ H D I h
 refine wpAny_execs_cons (thn (h1 pins s σ H D I h) fun f s1 q=>?_)
 cases f with
 |next=>exact wpAny_execs_nil q
 |ret v=>exact q
 |brk=>exact q
 |cont=>exact q
theorem Inv.quiet{pins:List (Addr×Obj)}{σ:St}{H:Hp}{s:Shared}(I:Inv X pins σ H s):interactive X.env=false:=by simp[interactive,I.ok.kind]
def AlU(te:TE):TS:=fun D σ H=>te σ H fun _ H1=>D.nx σ H1
theorem Kh(he:PE X e te)(hs:swapsWith e none pos.line X.env=pure false:=by rfl):PS X (.Expr e pos) (AlU te):=by
 intro pins s σ H D I h
 exact wpAny_Expr_any (thn (he pins s σ H _ I h) fun v s1 ⟨x,H1,I1,r1,q1⟩=>⟨σ,H1,I1,q1⟩) I.quiet hs
def Ane(te:TE):TS:=fun D σ H=>te σ H D.rt
theorem Ah7(he:PE X e te):PS X (.Return (some e) pos) (Ane te):=by
 intro pins s σ H D I h
 exact wpAny_Return_some (thn (he pins s σ H _ I h) fun v s1 ⟨x,H1,I1,r1,q1⟩=>⟨x,σ,H1,I1,r1,q1⟩)
def Anb(c:TT)(t u:TS):TS:=fun D σ H=>c σ H fun b H1=>if b=true then t D σ H1 else u D σ H1
theorem AkR{c:Expr}{a b:List Stmt}{tc:TT}(hc:PT X c tc)(ha:PSs X a t)(hb:PSs X b u):PS X (.If c a b pos) (Anb tc t u):=by
 intro pins s σ H D I h
 refine wpAny_If (thn (hc pins s σ H _ I h) fun d s1 ⟨H1,I1,q1⟩=>?_)
 cases d with
 |true=>exact ha pins s1 σ H1 D I1 q1
 |false=>exact hb pins s1 σ H1 D I1 q1
def Ahd:TS:=fun _ _ _=>False
theorem AcM:PS X st Ahd:=fun _ _ _ _ _ _ h=>h.elim
end
abbrev TG:=V→St→Hp→(St→Hp→Prop)→Prop
abbrev TGs:=List V→St→Hp→(St→Hp→Prop)→Prop
def PG(X:Cx)(target:Expr)(t:TG):Prop :=
 ∀(pins:List (Addr×Obj))(s:Shared)(σ:St)(H:Hp)(v:V)(u:Value)(Q:St→Hp→Prop),Inv X pins σ H s→RelV v u→t v σ H Q →
  wpAny (model X.prog X.w) X.A (assign target X.env u) (fun _ s'=>∃σ' H',Inv X pins σ' H' s'∧Q σ' H') X.xe s
def PGs(X:Cx)(ts:List Expr)(t:TGs):Prop :=
 ∀(pins:List (Addr×Obj))(s:Shared)(σ:St)(H:Hp)(vs:List V)(us:List Value)(Q:St→Hp→Prop),Inv X pins σ H s→Vals vs us→t vs σ H Q →
  wpAny (model X.prog X.w) X.A (assignInOrder ((assignEach ts X.env).map (·.2)) us) (fun _ s'=>∃σ' H',Inv X pins σ' H' s'∧Q σ' H') X.xe s
section
variable{X:Cx}{pos:Pos}
def YZ(i:Nat):TG:=fun v σ H Q=>Q (σ.set i (some v)) H
theorem T9{i:Nat}{x:Str}(hN:X.N.Nodup)(hi:X.N[i]? = some x)(hx:Loc X.env.scope x)(hf:X.fn x=true∨X.env.scope.names.lookup x=some .local:=by first | exact .inl rfl | exact .inr rfl | assumption):PG X (.Name x pos) (YZ i):=by
 intro pins s σ H v u Q I r h
 exact wpAny_assign_Name (Hy I hN hi hx r (fun s' I'=>⟨_,H,I',h⟩) hf)
def Anq:TGs:=fun vs σ H Q=>vs=[]∧Q σ H
def AlH(t:TG)(u:TGs):TGs:=fun vs σ H Q=>∃v r,vs=v::r∧t v σ H fun σ' H'=>u r σ' H' Q
theorem Aes:PGs X [] Anq:=by
 intro pins s σ H vs us Q I r h
 obtain⟨e,h⟩:=h
 subst e
 cases r
 exact assignInOrder_nil ⟨σ,H,I,h⟩
theorem Ac8{e:Expr}{es:List Expr}{t:TG}{u:TGs}(h1:PG X e t)(h2:PGs X es u)
  (hs:(assignEach (e::es) X.env).map (·.2)=assign e X.env::(assignEach es X.env).map (·.2):=by rfl):PGs X (e::es) (AlH t u):=by
 intro pins s σ H vs us Q I r h
 obtain⟨v,vr,e1,h⟩:=h
 subst e1
 cases r with
 | cons r rr =>
  rw[hs]
  refine assignInOrder_cons (thn (h1 pins s σ H _ _ _ I r h) fun _ s1 ⟨σ1,H1,I1,q1⟩=>?_)
  exact h2 pins s1 σ1 H1 _ _ Q I1 rr q1
def AnB(K:W.Frag)(n:Nat)(t:TGs):TG:=fun v σ H Q=>∃a xs,v=.ref a∧SqT K H a xs∧xs.length=n∧t xs σ H Q
theorem Aik{es:List Expr}{k:Nat}{t:TGs}{n:Nat}(hc:X.calm=true)(h:PGs X es t)
  (hn:(assignEach es X.env).length=n:=by rfl) (hst:(assignEach es X.env).findIdx? (·.1)=none:=by rfl):PG X (.Tuple es k pos) (AnB X.K n t):=by
 intro pins s σ H v u Q I r hw
 obtain⟨a,xs,e1,hq,hl,hw⟩:=hw
 subst e1
 cases r
 obtain⟨its,rv,ht,hz⟩:=I.tuple hq
 refine assign_Tuple_tuple (I.ok.hd hc) ht (by simp[hn,←hl,rv.length]) hst fun h' hx=>?_
 have I1:Inv X pins σ H {s with heap:=h'}:=I.kept (t':=s.toks) fun b o e=>hx b o (Nat.ne_of_lt (Heap.lt_size e)) e
 exact h pins _ σ H xs _ Q I1 (by simpa using rv) hw
def AkX(te:TE)(g:TG):TS:=fun D σ H=>te σ H fun x H1=>g x σ H1 D.nx
theorem AhR{tg e:Expr}{te:TE}{g:TG}(he:PE X e te)(hg:PG X tg g)(hs:swapsWithSole [tg] e pos.line X.env=pure false:=by rfl)(hw:swappedStores [tg] e X.env=pure none:=by rfl)
  (h1:(assignEach [tg] X.env).map (·.2)=[assign tg X.env]:=by rfl):PS X (.Assign [tg] e pos) (AkX te g):=by
 intro pins s σ H D I h
 refine wpAny_Assign_stores (thn (he pins s σ H _ I h) fun v s1 ⟨x,H1,I1,r1,q1⟩=>?_) hs hw
 rw[h1]
 exact thn (hg pins s1 σ H1 x v _ I1 r1 q1) fun _ s2 q=>q
theorem Xa{i:Nat}{x:Str}{e:Expr}{te:TE}{pos':Pos}(hN:X.N.Nodup)(hi:X.N[i]? = some x)(hx:Loc X.env.scope x)(he:PE X e te)(hs:swapsWith e (some (.Name x pos')) pos.line X.env=pure false:=by rfl)(hf:X.fn x=true∨X.env.scope.names.lookup x=some .local:=by first | exact .inl rfl | exact .inr rfl | assumption) :
  PS X (.Assign [.Name x pos'] e pos) (AkX te (YZ i)):=by
 intro pins s σ H D I h
 refine wpAny_Assign_Name (thn (he pins s σ H _ I h) fun v s1 ⟨y,H1,I1,r1,q1⟩=>?_) hs
 exact Hy I1 hN hi hx r1 (fun s2 I2=>⟨_,H1,I2,q1⟩) hf
def AnM(i j:Nat)(ta:TA):TS:=fun D σ H=>ta σ H fun vs H1=>∃v w,vs=[v,w]∧D.nx ((σ.set i (some v)).set j (some w)) H1
theorem Aic{i j:Nat}{x y:Str}{a b:Expr}{ta:TA}{px py pt:Pos}{kt k2 pt2}(hc:X.calm=true)(hN:X.N.Nodup)(hi:X.N[i]? = some x)(hj:X.N[j]? = some y)(hij:i≠j)
  (hx:X.env.scope.names.lookup x=some .local) (hy:X.env.scope.names.lookup y=some .local) (ha:PA X [a,b] ta)
  (hw:swappedStores [.Tuple [.Name x px,.Name y py] kt pt] (.Tuple [a,b] k2 pt2) X.env=pure (some [x,y]))
  (hs:swapsWithSole [.Tuple [.Name x px,.Name y py] kt pt] (.Tuple [a,b] k2 pt2) pos.line X.env=pure false:=by rfl) :
  PS X (.Assign [.Tuple [.Name x px,.Name y py] kt pt] (.Tuple [a,b] k2 pt2) pos) (AnM i j ta):=by
 intro pins s σ H D I h
 rw[exec_Assign_arm]
 refine wpAny_bind (wpAny_standAt ?_)
 rw[hs]
 refine wpAny_bind (wpAny_pure ?_)
 rw[if_neg (by decide)]
 refine wpAny_bind (Tuple_ (thn (ha _ pins s σ H _ I h) fun us s1 ⟨vs,H1,I1,r1,q1⟩=>?_))
 obtain⟨v,w,e1,q1⟩:=q1
 subst e1
 obtain⟨u1,u2,rfl,rv,rw'⟩:∃u1 u2,us=[u1,u2]∧RelV v u1∧RelV w u2:=by
  cases r1 with
  | cons p q =>
   cases q with
   | cons p' q' =>
    cases q'
    exact⟨_,_,rfl,p,p'⟩
 refine wpAny_newObj_type ?_ (by show 2≤sizeLine;decide)
 have I2:Inv X pins σ H1 {s1 with heap:=s1.heap.push {cls:=.type "tuple",data:=.seq [u1,u2].toArray} }:=I1.kept (t':=s1.toks) fun b o e=>Heap.get?_push_of_some _ e
 rw[hw]
 refine wpAny_bind (wpAny_pure ?_)
 show wpAny (model X.prog X.w) X.A (do rule "assign.swapped-stores";let items ←unpackItems (.ref s1.heap.objs.size) 2 none;assignInOrder [fun v=>bindName X.env y v,fun v=>bindName X.env x v] items.reverse;pure Flow.next) _ _ _
 refine wpAny_bind (wpAny_rule (wpAny_bind (unpackItems_tuple (items:=#[u1,u2]) (I.ok.hd hc) (IsTup.new s1.heap _) fun h' hx'=>?_)))
 have I3:=I2.kept (h':=h') (t':=s1.toks) fun b o e=>hx' b o (Nat.ne_of_lt (Heap.lt_size e)) e
 show wpAny _ _ (assignInOrder [fun v=>bindName X.env y v,fun v=>bindName X.env x v] [u2,u1] >>= fun _=>pure Flow.next) _ _ _
 refine wpAny_bind (assignInOrder_cons (wpAny_bindName (Hy I3 hN hj (.inl hy) rw' (fun s2 I4=>?_) (.inr hy))))
 refine assignInOrder_cons (wpAny_bindName (Hy I4 hN hi (.inl hx) rv (fun s3 I5=>assignInOrder_nil (wpAny_pure ?_)) (.inr hx)))
 rw[List.set_comm _ _ (Ne.symm hij)]at I5
 exact⟨_,H1,I5,q1⟩
end
section
variable{X:Cx}{pos:Pos}
def AhC(c:TT)(tb:TS):TS:=fun D σ H=>∃W:Nat→St→Hp→Prop,(∃m,W m σ H)∧∀m σ H,W m σ H →
 c σ H fun b H1=>if b=true then ∃N:St→Hp→Prop,(∀σ' H',N σ' H'→∃m',m'<m∧W m' σ' H')∧tb {D with nx:=N,ct:=N,bk:=D.nx} σ H1 else D.nx σ H1
theorem AdS{c:Expr}{body:List Stmt}{tc:TT}{tb:TS}(hp:PassesOwn (model X.prog X.w) X.A X.env X.xe)(hc:PT X c tc)(hb:PSs X body tb):PS X (.While c body [] pos) (AhC tc tb):=by
 intro pins s σ H D I h
 obtain⟨W,⟨m0,w0⟩,turn⟩:=h
 refine wpAny_While (codeAny_whileLoop (fun n s'=>∃σ' H',Inv X pins σ' H' s'∧W n σ' H') ?_ m0 ⟨σ,H,I,w0⟩)
 rintro n s1 ⟨σ1,H1,I1,w1⟩
 refine wpAny_passesOwn hp (thn (hc pins s1 σ1 H1 _ I1 (turn n σ1 H1 w1)) fun b s2 ⟨H2,I2,q2⟩=>?_)
 cases b with
 | true =>
  obtain⟨N,hN,q2⟩:=q2
  rw[if_pos rfl]
  refine wpAny_passesOwn hp (thn (hb pins s2 σ1 H2 _ I2 q2) fun f s3 q3=>?_)
  cases f with
  | next =>
   obtain⟨σ3,H3,I3,n3⟩:=q3
   obtain⟨m',hm,w3⟩:=hN σ3 H3 n3
   exact⟨m',hm,σ3,H3,I3,w3⟩
  | cont =>
   obtain⟨σ3,H3,I3,n3⟩:=q3
   obtain⟨m',hm,w3⟩:=hN σ3 H3 n3
   exact⟨m',hm,σ3,H3,I3,w3⟩
  |brk=>exact q3
  |ret v=>exact q3
 | false =>
  rw[if_neg Bool.false_ne_true]
  exact wpAny_execs_nil ⟨σ1,H2,I2,q2⟩
end
structure It where
 go:Nat→Hp→Prop
 yld:Nat→Hp→V→Hp→Prop
 stop:Nat→Hp→Prop
def Ol(X:Cx)(pins:List (Addr×Obj))(H:Hp)(b:Addr):Prop :=
 H b=none∧b≠X.env.locals∧b∉X.fs∧(b∈X.ex∨X.s₀.heap.objs.size≤b)∧(∀x c,X.env.cells.lookup x=some c→c≠b)∧∀p∈X.pn++pins,p.1≠b
theorem Inv.qC{X:Cx}{pins:List (Addr×Obj)}{σ:St}{H H':Hp}{s:Shared}{b:Addr}(I:Inv X pins σ H s)(hb:s.heap.objs.size≤b)(hn:H' b=none):Ol X pins H' b:=by
 refine⟨hn,Nat.ne_of_gt (Nat.lt_of_lt_of_le I.lt hb),I.rD hb,.inr (Nat.le_trans I.sz hb),fun x c e z=>?_,fun p hp z=>?_⟩
 ·obtain⟨v,q⟩:=I.cell x c e
  exact absurd (Nat.lt_of_lt_of_le q.lt (by rw[z];exact hb)) (Nat.lt_irrefl _)
 ·exact absurd (Nat.lt_of_lt_of_le (Heap.lt_size (I.pin p hp).1) (by rw[z];exact hb)) (Nat.lt_irrefl _)
structure Turn(P:Program)(w:World)(K:W.Frag)(tg:Expr)(J:It)(fp:List Addr)(it:Addr)(tn:Nat→Heap→Prop):Prop where
 mem:it∈fp
 obj:∀i h,tn i h→∀b∈fp,∃o,h.get? b=some o∧∀v,o.data≠.cell v
 keep:∀i h h',tn i h→(∀b∈fp,∀o,h.get? b=some o→h'.get? b=some o)→tn i h'
 item:∀(X:Cx),X.prog=P→X.w=w→X.K=K→X.calm=true→∀(i:Nat)(pins:List (Addr×Obj))(s:Shared)(σ:St)(H:Hp)(E:Value→Shared→Prop),Inv X pins σ H s→(∀b∈fp,Ol X pins H b)→tn i s.heap→J.go i H →
  wpAny (model P w) X.A (pyNext (.ref it)) (fun r s1=>∃u,r=some u ∧
   wpAny (model P w) X.A (letOwnedTupleGo tg (.ref it) u) (fun _ s2=>∃x H',Inv X pins σ H' s2∧RelV x u∧J.yld i H x H'∧tn (i+1) s2.heap∧∀b∈fp,H' b=none) E s1) E s
 done:∀(X:Cx),X.prog=P→X.w=w→X.K=K→X.calm=true→∀(i:Nat)(pins:List (Addr×Obj))(s:Shared)(σ:St)(H:Hp)(E:Value→Shared→Prop),Inv X pins σ H s→(∀b∈fp,Ol X pins H b)→tn i s.heap→J.stop i H →
  wpAny (model P w) X.A (pyNext (.ref it)) (fun r s1=>r=none∧Inv X pins σ H s1) E s
 self:∀(A:Around)(i:Nat)(s:Shared)(Q:Value→Shared→Prop)(E:Value→Shared→Prop),tn i s.heap→Q (.ref it) s→wpAny (model P w) A (pyIter (.ref it)) Q E s
abbrev TI:=St→Hp→(It→Hp→Prop)→Prop
def PIE(X:Cx)(pins:List (Addr×Obj))(σ:St)(tg:Expr)(R:It→Hp→Prop)(itv:Value)(s2:Shared):Prop :=
 ∃(it:Addr)(fp:List Addr)(tn:Nat→Heap→Prop)(J:It)(H':Hp),itv=.ref it∧Inv X pins σ H' s2∧Turn X.prog X.w X.K tg J fp it tn∧tn 0 s2.heap∧(∀b∈fp,Ol X pins H' b)∧R J H'
def PI(X:Cx)(tg iter:Expr)(wi:TI):Prop :=
 ∀(pins:List (Addr×Obj))(s:Shared)(σ:St)(H:Hp)(R:It→Hp→Prop),Inv X pins σ H s→wi σ H R →
  wpAny (model X.prog X.w) X.A (eval iter X.env) (fun v s1=>wpAny (model X.prog X.w) X.A (pyIter v) (PIE X pins σ tg R) X.xe s1) X.xe s
theorem AbC{M:Model}{A:Around}{E:Value→Shared→Prop}{s:Shared}{tg:Expr}{it:Addr}{u:Value}{o:Obj}{n:String}{vs:Array Value}{Q:Unit→Shared→Prop}(ho:s.heap.get? it=some o)(hc:o.cls=.type n)(hd:o.data=.fields vs)
  (hn:["enumerate","zip","dict_itemiterator","dict_reverseitemiterator","odict_iterator","itertools.zip_longest","itertools.pairwise"].contains n=false) (hQ:Q () s):wpAny M A (letOwnedTupleGo tg (.ref it) u) Q E s:=by
 unfold letOwnedTupleGo
 cases tg<;>first
  |exact wpAny_pure hQ
  | (cases u<;>first
    |exact wpAny_pure hQ
    | (refine wpAny_bind (wpAny_load ho ?_)
       rw[hc,hd]
       show wpAny M A (if(["enumerate","zip","dict_itemiterator","dict_reverseitemiterator","odict_iterator","itertools.zip_longest","itertools.pairwise"].contains n&&vs[0]? == some (rawInt _))=true then _ else _) Q E s
       rw[if_neg (by intro h;rw[hn,Bool.false_and]at h;cases h)]
       exact wpAny_pure hQ))
def Itl(K:W.Frag)(a:Addr):It :=
 ⟨fun i H=>∃xs x,SqL K H a xs∧xs[i]? = some x,fun i H x H'=>H'=H∧∀xs,SqL K H a xs→xs[i]? = some x,fun i H=>∃xs,SqL K H a xs∧xs.length≤i⟩
def Itt(K:W.Frag)(a:Addr):It :=
 ⟨fun i H=>∃xs x,SqT K H a xs∧xs[i]? = some x,fun i H x H'=>H'=H∧∀xs,SqT K H a xs→xs[i]? = some x,fun i H=>∃xs,SqT K H a xs∧xs.length≤i⟩
def Itr(lo:Int)(n:Nat):It:=⟨fun i _=>i<n,fun i H x H'=>H'=H∧x=.int (lo+i),fun i _=>n≤i⟩
theorem Aal{P:Program}{w:World}{K:W.Frag}{tg:Expr}(a it:Addr):Turn P w K tg (Itl K a) [it] it (fun i h=>h.IsListIter it a i) where
 mem:=by simp
 obj:=fun i h st b hb=>by
  have e:b=it:=by simpa using hb
  subst e
  obtain⟨o,e,c,d⟩:=st
  exact⟨o,e,fun v z=>by rw[d]at z;cases z⟩
 keep:=fun i h h' st k=>st.at fun o e=>k it (by simp) o e
 item:=by
  intro X hP hw hK hc i pins s σ H E I hf st hg
  subst hP hw hK
  obtain⟨xs,x,hq,hx⟩:=hg
  obtain⟨its,rv,p,hz⟩:=I.list hq
  obtain⟨u,hu,ru⟩:=rv.get hx
  obtain⟨f0,f1,f2,f3,f4,f5⟩:=hf it (by simp)
  refine wpAny_pyNext_list_item st p.isList (x:=u) (by simpa using hu) fun h' st' sb=>?_
  have I1:Inv X pins σ H {s with heap:=h'}:=I.turned (t':=s.toks) (fun b o hb e=>(sb.2 b hb).trans e) f0 f1 f3 f4 f5
  obtain⟨o,e,c,d⟩:=id st'
  exact⟨u,rfl,AbC (s:={s with heap:=h'}) e c d (by decide) ⟨x,H,I1,ru,⟨rfl,fun ys hy=>by rw[I.oX hy hq];exact hx⟩,st',fun b hb=>(hf b hb).1⟩⟩
 done:=by
  intro X hP hw hK hc i pins s σ H E I hf st hg
  subst hP hw hK
  obtain⟨xs,hq,hx⟩:=hg
  obtain⟨its,rv,p,hz⟩:=I.list hq
  obtain⟨f0,f1,f2,f3,f4,f5⟩:=hf it (by simp)
  have hl:=rv.length
  exact wpAny_pyNext_list_end (I.ok.hd hc) st p.isList (by simp;omega) fun h' eb=>⟨rfl,I.turned (t':=s.toks) (fun b o hb e=>eb b o hb e) f0 f1 f3 f4 f5⟩
 self:=fun _ _ _ _ _ st h=>wpAny_pyIter_listiter st h
theorem X4{P:Program}{w:World}{K:W.Frag}{tg:Expr}(a it:Addr):Turn P w K tg (Itt K a) [it] it (fun i h=>h.IsTupleIter it a i) where
 mem:=by simp
 obj:=fun i h st b hb=>by
  have e:b=it:=by simpa using hb
  subst e
  obtain⟨o,e,c,d⟩:=st
  exact⟨o,e,fun v z=>by rw[d]at z;cases z⟩
 keep:=fun i h h' st k=>st.at fun o e=>k it (by simp) o e
 item:=by
  intro X hP hw hK hc i pins s σ H E I hf st hg
  subst hP hw hK
  obtain⟨xs,x,hq,hx⟩:=hg
  obtain⟨its,rv,p,hz⟩:=I.tuple hq
  obtain⟨u,hu,ru⟩:=rv.get hx
  obtain⟨f0,f1,f2,f3,f4,f5⟩:=hf it (by simp)
  refine wpAny_pyNext_tuple_item st (show s.heap.IsTuple a its.toArray from p) (x:=u) (by simpa using hu) fun h' st' sb=>?_
  have I1:Inv X pins σ H {s with heap:=h'}:=I.turned (t':=s.toks) (fun b o hb e=>(sb.2 b hb).trans e) f0 f1 f3 f4 f5
  obtain⟨o,e,c,d⟩:=id st'
  exact⟨u,rfl,AbC (s:={s with heap:=h'}) e c d (by decide) ⟨x,H,I1,ru,⟨rfl,fun ys hy=>by rw[I.nY hy hq];exact hx⟩,st',fun b hb=>(hf b hb).1⟩⟩
 done:=by
  intro X hP hw hK hc i pins s σ H E I hf st hg
  subst hP hw hK
  obtain⟨xs,hq,hx⟩:=hg
  obtain⟨its,rv,p,hz⟩:=I.tuple hq
  obtain⟨f0,f1,f2,f3,f4,f5⟩:=hf it (by simp)
  have hl:=rv.length
  exact wpAny_pyNext_tuple_end (I.ok.hd hc) st (show s.heap.IsTuple a its.toArray from p) (by simp;omega) fun h' eb=>⟨rfl,I.turned (t':=s.toks) (fun b o hb e=>eb b o hb e) f0 f1 f3 f4 f5⟩
 self:=fun _ _ _ _ _ st h=>wpAny_pyIter_tupleiter st h
theorem Xc{P:Program}{w:World}{K:PySem.W.Frag}{tg:Expr}(it:Addr)(lo:Int)(n:Nat):Turn P w K tg (Itr lo n) [it] it (fun i h=>IsRangeIter h it (lo+(i:Nat)*1) ((n:Int)-(i:Nat)) 1) where
 mem:=by simp
 obj:=fun i h st b hb=>by
  have e:b=it:=by simpa using hb
  subst e
  exact⟨_,st,fun v z=>by
   have z':Data.fields _=Data.cell v:=z
   cases z'⟩
 keep:=fun i h h' st k=>k it (by simp) _ st
 item:=by
  intro X hP hw hK hc i pins s σ H E I hf st hg
  subst hP hw hK
  obtain⟨f0,f1,f2,f3,f4,f5⟩:=hf it (by simp)
  have W:=Walks.range (prog:=X.prog) (w:=X.w) (I.ok.hd hc) it lo 1 n
  refine W.item i s _ _ hg st fun v h' tk hv st' kk=>?_
  obtain⟨t,rfl⟩:=hv
  have I1:Inv X pins σ H {s with heap:=h',toks:=tk}:=I.turned (fun b o hb e=>kk b o (by simpa using hb) e) f0 f1 f3 f4 f5
  refine⟨_,rfl,AbC (s:={s with heap:=h',toks:=tk}) (n:="range_iterator") st' rfl rfl (by decide) ⟨.int (lo+i),H,I1,⟨t,?_⟩,⟨rfl,rfl⟩,st',fun b hb=>(hf b hb).1⟩⟩
  rw[Int.mul_one]
 done:=by
  intro X hP hw hK hc i pins s σ H E I hf st hg
  subst hP hw hK
  obtain⟨f0,f1,f2,f3,f4,f5⟩:=hf it (by simp)
  exact wpAny_pyNext_range_end (I.ok.hd hc) st (by have:n≤i:=hg;omega) fun h' eb=>⟨rfl,I.turned (t':=s.toks) (fun b o hb e=>eb b o hb e) f0 f1 f3 f4 f5⟩
 self:=fun _ _ _ _ _ st h=>wpAny_pyIter_rangeiter st h
end L2
namespace L2
open PySem Spec PyProof.Rows
section
variable{X:Cx}{tg:Expr}
def Ai9(K:W.Frag)(tl:TE):TI:=fun σ H R=>tl σ H fun x H1=>∃a,x=.ref a∧(∃xs,SqL K H1 a xs)∧R (Itl K a) H1
def AmI(K:W.Frag)(tl:TE):TI:=fun σ H R=>tl σ H fun x H1=>∃a,x=.ref a∧(∃xs,SqT K H1 a xs)∧R (Itt K a) H1
theorem Z1{l:Expr}{tl:TE}(hl:PE X l tl):PI X tg l (Ai9 X.K tl):=by
 intro pins s σ H R I h
 refine thn (hl pins s σ H _ I h) fun v s1 ⟨x,H1,I1,r1,q1⟩=>?_
 obtain⟨a,e,⟨xs,hq⟩,q⟩:=q1
 subst e
 cases r1
 obtain⟨its,rv,p,hz⟩:=I1.list hq
 refine wpAny_pyIter_list p.isList ?_
 refine⟨s1.heap.objs.size,[s1.heap.objs.size],_,_,H1,rfl,I1.kept (t':=s1.toks) fun b o e=>Heap.get?_push_of_some _ e,Aal a _,⟨_,Heap.get?_push_size _ rfl,rfl,rfl⟩,fun b hb=>?_,q⟩
 have e:b=s1.heap.objs.size:=by simpa using hb
 subst e
 exact I1.qC (Nat.le_refl _) (I1.hok.fresh (Nat.le_refl _))
theorem Ahv{l:Expr}{tl:TE}(hl:PE X l tl):PI X tg l (AmI X.K tl):=by
 intro pins s σ H R I h
 refine thn (hl pins s σ H _ I h) fun v s1 ⟨x,H1,I1,r1,q1⟩=>?_
 obtain⟨a,e,⟨xs,hq⟩,q⟩:=q1
 subst e
 cases r1
 obtain⟨its,rv,p,hz⟩:=I1.tuple hq
 refine wpAny_pyIter_tuple (show s1.heap.IsTuple a its.toArray from p) ?_
 refine⟨s1.heap.objs.size,[s1.heap.objs.size],_,_,H1,rfl,I1.kept (t':=s1.toks) fun b o e=>Heap.get?_push_of_some _ e,X4 a _,⟨_,Heap.get?_push_size _ rfl,rfl,rfl⟩,fun b hb=>?_,q⟩
 have e:b=s1.heap.objs.size:=by simpa using hb
 subst e
 exact I1.qC (Nat.le_refl _) (I1.hok.fresh (Nat.le_refl _))
theorem Va{pins:List (Addr×Obj)}{σ:St}{H:Hp}{s:Shared}{R:It→Hp→Prop}{E:Value→Shared→Prop}{lo hi:Int}{t u v:Tok}{tk:Nat}(I:Inv X pins σ H s)(h1:-(2 ^ 62)≤lo)(h2:lo<2 ^ 62)(h3:-(2 ^ 62)≤hi)(h4:hi<2 ^ 62)
  (q:R (Itr lo (hi-lo).toNat) H):wpAny (model X.prog X.w) X.A (pyIter (.ref s.heap.objs.size)) (PIE X pins σ tg R) E {s with heap:=s.heap.push {cls:=.type "range",data:=.fields #[.int lo t,.int hi u,.int 1 v]},toks:=tk}:=by
 refine wpAny_pyIter_range (IsRange.new ..) (small_one h1 h2 h3 h4) ?_
 have I1:Inv X pins σ H {s with heap:=s.heap.push {cls:=.type "range",data:=.fields #[.int lo t,.int hi u,.int 1 v]},toks:=tk}:=I.kept fun b o e=>Heap.get?_push_of_some _ e
 refine⟨(s.heap.push {cls:=.type "range",data:=.fields #[.int lo t,.int hi u,.int 1 v]}).objs.size,[(s.heap.push {cls:=.type "range",data:=.fields #[.int lo t,.int hi u,.int 1 v]}).objs.size],_,_,H,rfl,
  I1.kept (t':=tk) fun b o e=>Heap.get?_push_of_some _ e,Xc _ lo (hi-lo).toNat,?_,fun b hb=>?_,q⟩
 ·have e1:lo+((0:Nat):Int)*1=lo:=by simp
  have e2:(((hi-lo).toNat:Nat):Int)-((0:Nat):Int)=Builtin.Range.rangeSize lo hi 1:=by rw[rangeSize_one];split<;>omega
  show IsRangeIter _ _ (lo+((0:Nat):Int)*1) ((((hi-lo).toNat:Nat):Int)-((0:Nat):Int)) 1
  rw[e1,e2]
  exact Heap.get?_push_size _ rfl
 ·have e:b=(s.heap.push {cls:=.type "range",data:=.fields #[.int lo t,.int hi u,.int 1 v]}).objs.size:=by simpa using hb
  subst e
  exact I1.qC (Nat.le_refl _) (I1.hok.fresh (Nat.le_refl _))
def Amc(ta:TA):TI:=fun σ H R=>ta σ H fun vs H1=>∃j:Int,vs=[.int j]∧-(2 ^ 62)≤j∧j<2 ^ 62∧R (Itr 0 j.toNat) H1
def Alo(ta:TA):TI:=fun σ H R=>ta σ H fun vs H1=>∃i j:Int,vs=[.int i,.int j]∧(-(2 ^ 62)≤i∧i<2 ^ 62∧-(2 ^ 62)≤j∧j<2 ^ 62)∧R (Itr i (j-i).toNat) H1
theorem AaB{a:Expr}{ta:TA}{p pos:Pos}(hg:Gl X "range")(hm:X.mg "range"=none)(ha:PA X [a] ta)(hs:starEach [a] X.env=[(false,eval a X.env)]:=by rfl):PI X tg (.Call (.Name "range" p) [a] [] pos) (Amc ta):=by
 intro pins s σ H R I h
 refine Call_ (QJ I hg hm boot_range (PyProof.Rows.callWith_type1 (thn (ha pos pins s σ H _ I h) fun us s1 ⟨vs,H1,I1,r1,q1⟩=>?_) hs rfl))
 obtain⟨j,e,q1,q2,q⟩:=q1
 subst e
 cases r1 with
 | cons r rr =>
  cases rr
  obtain⟨t,rfl⟩:=r
  exact call_range_1 (Va I1 (by omega) (by omega) q1 q2 (by simpa using q))
theorem Aa2{a b:Expr}{ta:TA}{p pos:Pos}(hg:Gl X "range")(hm:X.mg "range"=none)(ha:PA X [a,b] ta)(hs:starEach [a,b] X.env=[(false,eval a X.env),(false,eval b X.env)]:=by rfl)(hs2:starEach [b] X.env=[(false,eval b X.env)]:=by rfl) :
  PI X tg (.Call (.Name "range" p) [a,b] [] pos) (Alo ta):=by
 intro pins s σ H R I h
 refine Call_ (QJ I hg hm boot_range (PyProof.Rows.callWith_type1 (thn (ha pos pins s σ H _ I h) fun us s1 ⟨vs,H1,I1,r1,q1⟩=>?_) (by rw[hs,hs2]) (by rw[hs2];rfl)))
 obtain⟨i,j,e,⟨q1,q2,q3,q4⟩,q⟩:=q1
 subst e
 cases r1 with
 | cons r rr =>
  cases rr with
  | cons r' rr =>
   cases rr
   obtain⟨t,rfl⟩:=r
   obtain⟨t',rfl⟩:=r'
   exact call_range_2 (Va I1 q1 q2 q3 q4 q)
def AnY(wi:TI)(g:TG)(tb:TS):TS:=fun D σ H=>wi σ H fun J H1=>∃W:Nat→Nat→St→Hp→Prop,(∃m,W 0 m σ H1)∧∀i m σ H,W i m σ H →
 (J.stop i H∧D.nx σ H)∨(J.go i H∧∃N:St→Hp→Prop,(∀σ' H',N σ' H'→∃m',m'<m∧W (i+1) m' σ' H')∧∀x H',J.yld i H x H'→g x σ H' fun σ2 H2=>tb {D with nx:=N,ct:=N,bk:=D.nx} σ2 H2)
def Nm(fp:List Addr)(h:Heap):List (Addr×Obj):=fp.filterMap fun b=>(h.get? b).map fun o=>(b,o)
theorem Gm{fp:List Addr}{h:Heap}{b:Addr}{o:Obj}(hb:b∈fp)(e:h.get? b=some o):(b,o)∈Nm fp h:=List.mem_filterMap.mpr ⟨b,hb,by rw[e];rfl⟩
theorem Abf{fp:List Addr}{h:Heap}{p:Addr×Obj}(hp:p∈Nm fp h):p.1∈fp∧h.get? p.1=some p.2:=by
 obtain⟨b,hb,e⟩:=List.mem_filterMap.mp hp
 cases q:h.get? b with
 |none=>rw[q]at e;cases e
 | some o =>
  rw[q]at e
  have e':(b,o)=p:=Option.some.inj e
  subst e'
  exact⟨hb,q⟩
theorem Inv.pinned{pins:List (Addr×Obj)}{σ:St}{H:Hp}{s:Shared}{fp:List Addr}(I:Inv X pins σ H s)(hf:∀b∈fp,Ol X pins H b)(ho:∀b∈fp,∃o,s.heap.get? b=some o∧∀v,o.data≠.cell v):Inv X (pins++Nm fp s.heap) σ H s :=
 I.nA fun p hp=>(List.mem_append.mp hp).elim (fun z=>I.pin p (List.mem_append_right _ z)) fun z=>by
  obtain⟨hb,e⟩:=Abf z
  obtain⟨f0,f1,f2,_⟩:=hf p.1 hb
  obtain⟨o,e',d⟩:=ho p.1 hb
  rw[e]at e';cases e'
  exact⟨e,f0,f1,f2,d⟩
theorem Inv.cG{pins pl:List (Addr×Obj)}{σ:St}{H:Hp}{s:Shared}(I:Inv X (pins++pl) σ H s):Inv X pins σ H s:=I.nA fun p hp=>I.pin p (List.mem_append_right _ (List.mem_append_left _ hp))
theorem Abr{iter:Expr}{body:List Stmt}{wi:TI}{g:TG}{tb:TS}{pos:Pos}(hp:PassesOwn (model X.prog X.w) X.A X.env X.xe)(hc:X.calm=true)(hi:PI X tg iter wi)(hg:PG X tg g)(hb:PSs X body tb)
  (hs:∀x,foldedSetIterable iter X.env x=pure x:=by intro _;rfl):PS X (.For tg iter body [] pos) (AnY wi g tb):=by
 intro pins s σ H D I h
 refine wpAny_For (thn (hi pins s σ H _ I h) fun v s1 h1=>thn h1 fun itv s2 h2=>?_) hs
 obtain⟨it,fp,tn,J,H2,e,I2,T,st2,f2,W,⟨m0,w0⟩,turn⟩:=h2
 subst e
 have stat:∀{H':Hp},(∀b∈fp,H' b=none)→∀b∈fp,Ol X pins H' b:=fun hn b hb=>⟨hn b hb,(f2 b hb).2⟩
 refine codeAny_forLoop_any (fun n s'=>∃i σ' H',Inv X pins σ' H' s'∧tn i s'.heap∧(∀b∈fp,H' b=none)∧W i n σ' H') ?_ m0 ⟨0,σ,H2,I2,st2,fun b hb=>(f2 b hb).1,w0⟩
 rintro n s3 ⟨i,σ3,H3,I3,st3,fr3,w3⟩
 rcases turn i n σ3 H3 w3 with⟨stop,qn⟩|⟨go,N,hN,step⟩
 ·refine wpAny_passesOwn hp (thn (T.done X rfl rfl rfl hc i pins s3 σ3 H3 X.xe I3 (stat fr3) st3 stop) fun r s4 ⟨hr,I4⟩=>?_)
  subst hr
  exact wpAny_execs_nil ⟨σ3,H3,I4,qn⟩
 ·refine wpAny_passesOwn hp (thn (T.item X rfl rfl rfl hc i pins s3 σ3 H3 X.xe I3 (stat fr3) st3 go) fun r s4 ⟨u,hr,h4⟩=>?_)
  subst hr
  refine wpAny_passesOwn hp (thn h4 fun _ s5 ⟨x,H5,I5,r5,y5,st5,fr5⟩=>?_)
  have I5':=I5.pinned (stat fr5) (T.obj _ _ st5)
  refine wpAny_passesOwn hp (thn (hg _ s5 σ3 H5 x u _ I5' r5 (step x H5 y5)) fun _ s6 ⟨σ6,H6,I6,q6⟩=>?_)
  refine wpAny_passesOwn hp (thn (hb _ s6 σ6 H6 _ I6 q6) fun f s7 q7=>?_)
  have again:∀{σ7:St} {H7:Hp},Inv X (pins++Nm fp s5.heap) σ7 H7 s7→N σ7 H7→∃m,m<n∧∃i σ' H',Inv X pins σ' H' s7∧tn i s7.heap∧(∀b∈fp,H' b=none)∧W i m σ' H':=fun{σ7 H7} I7 n7=>by
   obtain⟨m',hm,w7⟩:=hN σ7 H7 n7
   refine⟨m',hm,i+1,σ7,H7,I7.cG,T.keep _ _ _ st5 fun b hb o e=>(I7.pin (b,o) (List.mem_append_right _ (List.mem_append_right _ (Gm hb e)))).1,fun b hb=>?_,w7⟩
   obtain⟨o,e,d⟩:=T.obj _ _ st5 b hb
   exact(I7.pin (b,o) (List.mem_append_right _ (List.mem_append_right _ (Gm hb e)))).2.1
  cases f with
  |next=>obtain⟨σ7,H7,I7,n7⟩:=q7;exact again I7 n7
  |cont=>obtain⟨σ7,H7,I7,n7⟩:=q7;exact again I7 n7
  |brk=>obtain⟨σ7,H7,I7,q7⟩:=q7;exact⟨σ7,H7,I7.cG,q7⟩
  |ret v=>obtain⟨x7,σ7,H7,I7,r7,q7⟩:=q7;exact⟨x7,σ7,H7,I7.cG,r7,q7⟩
end
end L2
namespace L2
open PySem Spec PyProof.Rows
abbrev R2:=V→V→Hp→VK→Prop
def OpR(X:Cx)(f:Value→Value→Sem Value)(r:R2):Prop :=
 ∀(pins:List (Addr×Obj))(s:Shared)(σ:St)(H:Hp)(x y:V)(v u:Value)(Q:VK),Inv X pins σ H s→RelV x v→RelV y u→r x y H Q →
  wpAny (model X.prog X.w) X.A (f v u) (EP X pins σ Q) X.xe s
def UnR(X:Cx)(f:Value→Sem Value)(r:V→Hp→VK→Prop):Prop :=
 ∀(pins:List (Addr×Obj))(s:Shared)(σ:St)(H:Hp)(x:V)(v:Value)(Q:VK),Inv X pins σ H s→RelV x v→r x H Q →
  wpAny (model X.prog X.w) X.A (f v) (EP X pins σ Q) X.xe s
def JH(X:Cx)(f:Value)(r:List V→Hp→VK→Prop):Prop :=
 ∀(pins:List (Addr×Obj))(s:Shared)(σ:St)(H:Hp)(xs:List V)(us:List Value)(Q:VK),Inv X pins σ H s→Vals xs us→r xs H Q →
  wpAny (model X.prog X.w) X.A (call f us) (EP X pins σ Q) X.xe s
def tOp(r:R2)(ta tb:TE):TE:=fun σ H Q=>ta σ H fun x H1=>tb σ H1 fun y H2=>r x y H2 Q
def tUn(r:V→Hp→VK→Prop)(ta:TE):TE:=fun σ H Q=>ta σ H fun x H1=>r x H1 Q
def rI(C:Int→Int→Prop)(g:Int→Int→V):R2:=fun x y H Q=>∃i j,x=.int i∧y=.int j∧C i j∧Q (g i j) H
def rI0(g:Int→Int→V):R2:=fun x y H Q=>∃i j,x=.int i∧y=.int j∧Q (g i j) H
def rU(g:Int→V):V→Hp→VK→Prop:=fun x H Q=>∃i,x=.int i∧Q (g i) H
section
variable{X:Cx}{a b c:Expr}{ta tb tc:TE}{pos:Pos}
theorem Aif(ha:PE X a ta)(hb:PE X b tb){pins:List (Addr×Obj)}{s:Shared}{σ:St}{H:Hp}{R:V→V→Hp→Prop}(I:Inv X pins σ H s)
  (h:ta σ H fun x H1=>tb σ H1 fun y H2=>R x y H2) {Q:Value→Shared→Prop} {f:Value→Value→Sem Value}
  (hf:∀v u s2 x y H2,Inv X pins σ H2 s2→RelV x v→RelV y u→R x y H2→wpAny (model X.prog X.w) X.A (f v u) Q X.xe s2) :
  wpAny (model X.prog X.w) X.A (eval a X.env) (fun v s₁=>wpAny (model X.prog X.w) X.A (eval b X.env) (fun u s₂=>wpAny (model X.prog X.w) X.A (f v u) Q X.xe s₂) X.xe s₁) X.xe s:=by
 refine thn (ha pins s σ H _ I h) fun v s1 ⟨x,H1,I1,r1,q1⟩=>?_
 refine thn (hb pins s1 σ H1 _ I1 q1) fun u s2 ⟨y,H2,I2,r2,q2⟩=>?_
 exact hf v u s2 x y H2 I2 r1 r2 q2
theorem AjH{op:Operator}{r:R2}(ho:OpR X (binaryOp op) r)(ha:PE X a ta)(hb:PE X b tb):PE X (.BinOp a op b pos) (tOp r ta tb):=by
 intro pins s σ H Q I h
 exact wpAny_BinOp (Aif ha hb I h fun v u s2 x y H2 I2 rx ry q=>ho pins s2 σ H2 x y v u Q I2 rx ry q)
theorem Aly{op:UnaryOp}{r:V→Hp→VK→Prop}(ho:UnR X (unaryOp op) r)(ha:PE X a ta):PE X (.UnaryOp op a pos) (tUn r ta):=by
 intro pins s σ H Q I h
 exact UnaryOp_ (thn (ha pins s σ H _ I h) fun v s1 ⟨x,H1,I1,r1,q1⟩=>ho pins s1 σ H1 x v Q I1 r1 q1)
theorem opI{f:Value→Value→Sem Value}{C:Int→Int→Prop}{g:Int→Int→Int}
  (rule:∀(i j:Int)(t u:Tok)(s:Shared)(Q:Value→Shared→Prop)(E:Value→Shared→Prop),C i j→Q (.int (g i j) s.toks) {s with toks:=s.toks+1}→wpAny (model X.prog X.w) X.A (f (.int i t) (.int j u)) Q E s) :
  OpR X f (rI C fun i j=>.int (g i j)):=by
 intro pins s σ H x y v u Q I rx ry h
 obtain⟨i,j,rfl,rfl,hc,q⟩:=h
 obtain⟨t,rfl⟩:=rx
 obtain⟨t',rfl⟩:=ry
 exact rule i j t t' s _ _ hc ⟨.int (g i j),H,I.tok _,⟨_,rfl⟩,q⟩
theorem AjL{f:Value→Value→Sem Value}{g:Int→Int→Int}
  (rule:∀(i j:Int)(t u:Tok)(s:Shared)(Q:Value→Shared→Prop)(E:Value→Shared→Prop),Q (.int (g i j) s.toks) {s with toks:=s.toks+1}→wpAny (model X.prog X.w) X.A (f (.int i t) (.int j u)) Q E s) :
  OpR X f (rI0 fun i j=>.int (g i j)):=by
 intro pins s σ H x y v u Q I rx ry h
 obtain⟨i,j,rfl,rfl,q⟩:=h
 obtain⟨t,rfl⟩:=rx
 obtain⟨t',rfl⟩:=ry
 exact rule i j t t' s _ _ ⟨.int (g i j),H,I.tok _,⟨_,rfl⟩,q⟩
theorem AeE{f:Value→Value→Sem Value}{g:Int→Int→Bool}
  (rule:∀(i j:Int)(t u:Tok)(s:Shared)(Q:Value→Shared→Prop)(E:Value→Shared→Prop),Q (.bool (g i j)) s→wpAny (model X.prog X.w) X.A (f (.int i t) (.int j u)) Q E s) :
  OpR X f (rI0 fun i j=>.bl (g i j)):=by
 intro pins s σ H x y v u Q I rx ry h
 obtain⟨i,j,rfl,rfl,q⟩:=h
 obtain⟨t,rfl⟩:=rx
 obtain⟨t',rfl⟩:=ry
 exact rule i j t t' s _ _ ⟨.bl (g i j),H,I,rfl,q⟩
def Abj(i j:Int):Prop:=0≤j∧j≤1000000∧i.natAbs<2 ^ 64
theorem Aig:OpR X (binaryOp .Add) (rI0 fun i j=>.int (i+j)):=AjL fun _ _ _ _ _ _ _ q=>add_int q
theorem AhF:OpR X (binaryOp .Sub) (rI0 fun i j=>.int (i-j)):=AjL fun _ _ _ _ _ _ _ q=>sub_int q
theorem AfM:OpR X (binaryOp .Mod) (rI (fun _ j=>j≠0) fun i j=>.int (i.fmod j)):=opI fun _ _ _ _ _ _ _ hc q=>mod_int' hc q
theorem AiG:OpR X (binaryOp .Pow) (rI Abj fun i j=>.int (i ^ j.toNat)):=opI fun _ _ _ _ _ _ _ hc q=>pow_int_small hc.1 hc.2.1 hc.2.2 q
theorem Aiz:OpR X (binaryOp .LShift) (rI Abj fun i j=>.int (i*2 ^ j.toNat)):=opI fun _ _ _ _ _ _ _ hc q=>lshift_int_small hc.1 hc.2.1 hc.2.2 q
theorem unI{f:Value→Sem Value}{g:Int→Int}
  (rule:∀(i:Int)(t:Tok)(s:Shared)(Q:Value→Shared→Prop)(E:Value→Shared→Prop),Q (.int (g i) s.toks) {s with toks:=s.toks+1}→wpAny (model X.prog X.w) X.A (f (.int i t)) Q E s) :
  UnR X f (rU fun i=>.int (g i)):=by
 intro pins s σ H x v Q I rx h
 obtain⟨i,rfl,q⟩:=h
 obtain⟨t,rfl⟩:=rx
 exact rule i t s _ _ ⟨.int (g i),H,I.tok _,⟨_,rfl⟩,q⟩
theorem Ahz:UnR X (unaryOp .USub) (rU fun i=>.int (-i)):=unI fun _ _ _ _ _ q=>neg_int q
end
section
variable{X:Cx}{a b c:Expr}{ta tb tc:TE}{pos:Pos}
theorem Jp{pins:List (Addr×Obj)}{σ:St}{H:Hp}{s:Shared}{Q:VK}{k k':Bool}(I:Inv X pins σ H s)(q:Q (.bl k) H)(e:k=k'):EP X pins σ Q (.bool k') s:=by
 subst e
 exact⟨.bl k,H,I,rfl,q⟩
theorem VG:OpR X (compareOp .Lt) (rI0 fun i j=>.bl (decide (i<j))):=AeE fun _ _ _ _ _ _ _ q=>lt_int q
theorem Ob:OpR X (compareOp .LtE) (rI0 fun i j=>.bl (decide (i≤j))):=AeE fun _ _ _ _ _ _ _ q=>le_int q
theorem AjO:OpR X (compareOp .Gt) (rI0 fun i j=>.bl (decide (j<i))):=AeE fun _ _ _ _ _ _ _ q=>gt_int q
theorem Aje:OpR X (compareOp .GtE) (rI0 fun i j=>.bl (decide (j≤i))):=AeE fun _ _ _ _ _ _ _ q=>ge_int q
theorem Afk:OpR X (compareOp .IsNot) (fun x y H Q=>y=.non∧Q (.bl (!decide (x=.non))) H):=by
 intro pins s σ H x y v u Q I rx ry h
 obtain⟨rfl,q⟩:=h
 cases ry
 refine isnot_none_gen (Jp I q ?_)
 cases x<;>first
  |(cases rx;rfl)
  |(obtain⟨t,rfl⟩:=rx;rfl)
theorem OpR.or{f:Value→Value→Sem Value}{r r':R2}(h:OpR X f r)(h':OpR X f r'):OpR X f (fun x y H Q=>r x y H Q∨r' x y H Q):=by
 intro pins s σ H x y v u Q I rx ry q
 rcases q with q|q
 ·exact h pins s σ H x y v u Q I rx ry q
 ·exact h' pins s σ H x y v u Q I rx ry q
theorem JW(b:Expr){op:CmpOp}(h:op≠.In:=by decide)(h2:op≠.NotIn:=by decide):behindInMarks op b=false:=by
 have e1:(op==CmpOp.In)=false:=by cases op<;>first|rfl|exact absurd rfl h
 have e2:(op==CmpOp.NotIn)=false:=by cases op<;>first|rfl|exact absurd rfl h2
 cases b<;>simp[behindInMarks,e1,e2]
theorem Aee{op:CmpOp}{r:R2}(ho:OpR X (compareOp op) r)(ha:PE X a ta)(hb:PE X b tb)(hm:behindInMarks op b=false):PE X (.Compare a [op] [b] pos) (tOp r ta tb):=by
 intro pins s σ H Q I h
 exact wpAny_Compare1 (Aif ha hb I h fun v u s2 x y H2 I2 rx ry q=>ho pins s2 σ H2 x y v u Q I2 rx ry q) hm
def Aj3(t:TE):TT:=fun σ H Q=>t σ H fun x H'=>∃k,x=.bl k∧Q k H'
theorem Ae2{op:CmpOp}{r:R2}(ho:OpR X (compareOp op) r)(ha:PE X a ta)(hb:PE X b tb)(hm:behindInMarks op b=false):PT X (.Compare a [op] [b] pos) (Aj3 (tOp r ta tb)):=by
 intro pins s σ H Q I h
 refine wpAny_isTrue_Compare1 (thn (ha pins s σ H _ I h) fun v s1 ⟨x,H1,I1,r1,q1⟩=>thn (hb pins s1 σ H1 _ I1 q1) fun u s2 ⟨y,H2,I2,r2,q2⟩ =>
  thn (ho pins s2 σ H2 x y v u _ I2 r1 r2 q2) fun c s3 ⟨z,H3,I3,r3,k,e,q3⟩=>?_) hm
 subst e
 cases r3
 exact wpAny_truthy_bool ⟨H3,I3,q3⟩
def AbZ(r r':R2)(ta tb tc:TE):TE:=fun σ H Q=>ta σ H fun x H1=>tb σ H1 fun y H2=>r x y H2 fun z H3=>∃k,z=.bl k ∧
 (if k=true then tc σ H3 fun w' H4=>r' y w' H4 Q else Q (.bl false) H3)
theorem Adv{op op':CmpOp}{r r':R2}(ho:OpR X (compareOp op) r)(ho':OpR X (compareOp op') r')(ha:PE X a ta)(hb:PE X b tb)(hc:PE X c tc)
  (hm:lastMarks [op,op'] [b,c]=false:=by with_unfolding_all rfl):PE X (.Compare a [op,op'] [b,c] pos) (AbZ r r' ta tb tc):=by
 intro pins s σ H Q I h
 refine Compare_chain (thn (ha pins s σ H _ I h) fun v s1 ⟨x,H1,I1,r1,q1⟩=>chain_link (thn (hb pins s1 σ H1 _ I1 q1) fun u s2 ⟨y,H2,I2,r2,q2⟩ =>
  thn (ho pins s2 σ H2 x y v u _ I2 r1 r2 q2) fun d s3 ⟨z,H3,I3,r3,k,e,q3⟩=>?_)) hm
 subst e
 cases r3
 refine wpAny_truthy_bool ?_
 cases k with
 |false=>exact ite_ff ⟨.bl false,H3,I3,rfl,q3⟩
 |true=>exact ite_tt (chain_last (thn (hc pins s3 σ H3 _ I3 q3) fun w' s4 ⟨z',H4,I4,r4,q4⟩=>ho' pins s4 σ H4 y z' u w' Q I4 r2 r4 q4))
theorem Uk:(sizeLine:Nat)<2 ^ 63:=by rw[sizeLine_eq];decide
theorem vals1{x:V}{us:List Value}(r:Vals [x] us):∃u,us=[u]∧RelV x u:=by
 cases r with
 |cons r1 r2=>cases r2;exact⟨_,rfl,r1⟩
theorem vals2{x y:V}{us:List Value}(r:Vals [x,y] us):∃u w',us=[u,w']∧RelV x u∧RelV y w':=by
 cases r with
 | cons r1 r2 =>
  cases r2 with
  |cons r3 r4=>cases r4;exact⟨_,_,rfl,r1,r3⟩
theorem AbR:JH X (.builtin "abs") (fun xs H Q=>∃i,xs=[.int i]∧Q (.int (if i<0 then -i else i)) H):=by
 intro pins s σ H xs us Q I r h
 obtain⟨i,rfl,q⟩:=h
 obtain⟨u,rfl,t,rfl⟩:=vals1 r
 exact call_abs_int fun u tk=>⟨.int (if i<0 then -i else i),H,I.tok _,⟨_,rfl⟩,q⟩
theorem AaC(hc:X.calm=true):JH X (.builtin "max") (fun xs H Q=>∃i j,xs=[.int i,.int j]∧Q (.int (if j>i then j else i)) H):=by
 intro pins s σ H xs us Q I r h
 obtain⟨i,j,rfl,q⟩:=h
 obtain⟨u,w',rfl,⟨t,rfl⟩,⟨t',rfl⟩⟩:=vals2 r
 refine max_two_ints (I.ok.hd hc) fun h' tk k=>⟨_,H,I.kept k,?_,q⟩
 by_cases hj:j>i
 ·rw[if_pos hj,if_pos hj];exact⟨_,rfl⟩
 ·rw[if_neg hj,if_neg hj];exact⟨_,rfl⟩
end
end L2
namespace L2
open PySem Spec PyProof.Rows
structure Yb(h:Heap)(x dx C:Addr)(mA:Str→Option Value):Prop where
 obj:h.get? x=some (W.instObj C dx)
 ns:h.Ns1 dx mA
 ne:dx≠x
theorem AaL{h:Heap}{dx:Addr}{mA:Str→Option Value}(n:h.Ns1 dx mA):∃od,h.get? dx=some od∧∀name,W.lookIn name od=some (mA name):=by
 obtain⟨o,es,ep,ho,hd,hk,_,hm⟩:=n
 refine⟨o,ho,fun name=>?_⟩
 have e:=hm name
 unfold nsFind findBy at e
 rw[←Array.find?_toList]at e
 unfold W.lookIn
 rw[hd]
 dsimp only
 split
 ·rename_i y q
  rw[q]at e
  exact congrArg some e
 ·rename_i q
  rw[q]at e
  have a:es.toList.any (·.refKey)=false:=by
   rw[List.any_eq_false]
   intro y hy
   obtain⟨z,t,hkey⟩:=hk y (Array.mem_toList_iff.mp hy)
   simp[DictEntry.refKey,hkey]
  have a':¬es.toList.any (·.refKey)=true:=by rw[a];exact Bool.false_ne_true
  rw[if_neg a']
  exact congrArg some e
theorem Yb.look{h:Heap}{x dx C:Addr}{mA:Str→Option Value}(I:Yb h x dx C mA):∃od,W.InstAt h x (W.instObj C dx) C (some od)∧∀name,W.lookIn name od=some (mA name) :=
 let ⟨od,ho,hl⟩:=AaL I.ns
 ⟨od,⟨I.obj,rfl,rfl,ho⟩,hl⟩
section
variable{prog:Program}{w:World}{A:Around}{E:Value→Shared→Prop}{s:Shared}{K:W.Frag}{x dx C f:Addr}{mA:Str→Option Value}{name:Str}{v:Value}
theorem get_map{expr:Bool}{Q:Value→Shared→Prop}(X:K.In s.heap)(I:Yb s.heap x dx C mA)(hg:W.plainGet K C name=true)(hh:W.hasDictIn K C=true)
  (ha:W.findIn K (.ref C) name=some none) (hv:mA name=some v) (hv':W.handedIn v=true) (h:Q v {s with toks:=s.toks+1}) :
  wpAny (model prog w) A (getAttr (.ref x) name expr) Q E s:=by
 obtain⟨od,J,hl⟩:=I.look
 exact W.get_value X J (W.plainGet_of hg).1 (W.findObj_own hh ha rfl (by rw[hl,hv])) hv' h
theorem AcE{pl:Sem Bool}{Q:Value×List Value→Shared→Prop}(X:K.In s.heap)(I:Yb s.heap x dx C mA)(hg:W.plainGet K C name=true)
  (hf:W.findIn K (.ref C) name=some (some (.ref f))) (ht:W.isFn K (.ref f)=true) (hv:mA name=none) (h:Q (.ref f,[.ref x]) s) :
  wpAny (model prog w) A (getMethod (.ref x) name pl) Q E s:=by
 obtain⟨od,J,hl⟩:=I.look
 exact W.method_fn X J (W.plainGet_of hg).1 (W.plainGet_of hg).2 hf (beq_iff_eq.mp ht) (by show(W.lookIn name od).map (·.isSome)=some false;rw[hl,hv];rfl) h
theorem Afy{ns:List Str}{Q:Unit→Shared→Prop}(X:K.In s.heap)(I:Yb s.heap x dx C mA)
  (hs:W.findIn K (.ref C) "__setattr__"=some (some (.builtin "object.__setattr__"))) (hp:W.plainOver K C=true) (ht:W.takerIn K C name=some none) (hh:W.hasDictIn K C=true)
  (hw:PySem.Within mA ns) (hsz:ns.length≤sizeLine)
  (h:∀h',Yb h' x dx C (fun y=>if y=name then some v else mA y)→Heap.SameBut dx s.heap h'→Q () {s with heap:=h',toks:=s.toks+2}) :
  wpAny (model prog w) A (setAttr (.ref x) name v) Q E s:=by
 obtain⟨od,J,hl⟩:=I.look
 refine W.set_plain X J hs (W.osa_open (s:={s with toks:=s.toks+1}) (r:=none) X J hp ht fun b=>?_)
 obtain⟨cd,hc,hd'⟩:=W.any_some hh
 have hx:s.heap.get? x=some ⟨.ref C,some dx,.plain,#[]⟩:=I.obj
 refine wpAny_bind (wpAny_pure (wpAny_bind (wpAny_bind (wpAny_loadPart hx (wpAny_bind (W.Looks.here (s:={s with toks:=s.toks+1}) (W.looks_clsIn X hc) ?_))))))
 rw[hd']
 refine wpAny_pure (a:=some dx) (wpAny_bind (wpAny_pure (wpAny_bind ?_)))
 refine wpAny_nsSet1 (s:={s with toks:=s.toks+1}) I.ns fun h' hn2 hs2=>?_
 obtain⟨oD,esD,epD,hoD,hdD,hcD⟩:=hn2.count (PySem.Within.cons name v hw)
 refine wpAny_bind (wpAny_lookBehind hoD (by rw[hdD];exact pastItsLine_dict (Nat.le_trans hcD (by rw[List.length_cons];omega))) ?_)
 exact wpAny_pure (h _ ⟨(hs2.2 _ (Ne.symm I.ne)).trans I.obj,hn2,I.ne⟩ hs2)
theorem AcS{R:Result→Shared→Prop}{vs:List Value}{kw:List (Str×Value)}(X:K.In s.heap)(hm:W.makesIn K C=true)
  (hi:W.findIn K (.ref C) "__init__"=some (some (.ref f))) (hf:W.typeIn K (.ref f)=some (.type "function"))
  (h:codeAny (model prog w) (A.under (.builtin "type.__call__" ⟨.ref C::vs,kw⟩)) (.call (.ref f) ⟨.ref (s.heap.objs.size+1)::vs,kw⟩) (W.InitBack (s.heap.objs.size+1) R)
   {s with heap:=(s.heap.push W.emptyDict).push (W.instObj C s.heap.objs.size)}) :
  codeAny (model prog w) A (.call (.ref C) ⟨vs,kw⟩) R s:=by
 obtain⟨hh,g,d,t,os⟩:=s
 exact W.make_core (W.makes_of X hm) (W.looks_findIn X hi) (fun self=>W.bind_fn X self hf) (.inl rfl) h
end
def Hl(f:Str)(v:V):List (Str×V)→List (Str×V)
 | []=>[(f,v)]
 |(g,x)::r=>if g=f then(g,v)::r else(g,x)::Hl f v r
theorem Oa(f g:Str)(v:V):∀fs:List (Str×V),(Hl f v fs).lookup g=if g=f then some v else fs.lookup g
 | []=>by
  show List.lookup g [(f,v)]=_
  by_cases h:g=f
  ·have hb:(g==f)=true:=beq_iff_eq.mpr h
   simp only[List.lookup,hb,if_pos h]
  ·have hb:(g==f)=false:=beq_eq_false_iff_ne.mpr h
   simp only[List.lookup,hb,if_neg h]
 | (k,x)::r=>by
  have ih:=Oa f g v r
  rw[show Hl f v ((k,x)::r)=(if k=f then(k,v)::r else(k,x)::Hl f v r)from rfl]
  by_cases hk:k=f
  ·rw[if_pos hk]
   by_cases h:g=k
   ·have hb:(g==k)=true:=beq_iff_eq.mpr h
    simp only[List.lookup,hb,if_pos (h.trans hk)]
   ·have hb:(g==k)=false:=beq_eq_false_iff_ne.mpr h
    simp only[List.lookup,hb,if_neg (fun e:g=f=>h (e.trans hk.symm))]
  ·rw[if_neg hk]
   by_cases h:g=k
   ·have hb:(g==k)=true:=beq_iff_eq.mpr h
    simp only[List.lookup,hb,if_neg (fun e:g=f=>hk (h.symm.trans e))]
   ·have hb:(g==k)=false:=beq_eq_false_iff_ne.mpr h
    simp only[List.lookup,hb]
    exact ih
theorem Nu(f:Str)(v:V):∀fs:List (Str×V),f∈(Hl f v fs).map (·.1)∧∀g,g∈fs.map (·.1)→g∈(Hl f v fs).map (·.1)
 | []=>⟨by simp[Hl],fun g h=>by simp at h⟩
 | (k,x)::r=>by
  obtain⟨i1,i2⟩:=Nu f v r
  rw[show Hl f v ((k,x)::r)=(if k=f then(k,v)::r else(k,x)::Hl f v r)from rfl]
  by_cases hk:k=f
  ·rw[if_pos hk]
   subst hk
   exact⟨by simp,fun g h=>by simpa using h⟩
  ·rw[if_neg hk]
   refine⟨?_,fun g h=>?_⟩
   ·rw[List.map_cons]
    exact List.mem_cons_of_mem _ i1
   ·rw[List.map_cons]at h ⊢
    rcases List.mem_cons.mp h with e|e
    ·exact List.mem_cons.mpr (.inl e)
    ·exact List.mem_cons_of_mem _ (i2 g e)
theorem NK(f:Str)(v:V):∀fs:List (Str×V),(Hl f v fs).length≤fs.length+1
 | []=>by simp[Hl]
 | (k,x)::r=>by
  have ih:=NK f v r
  rw[show Hl f v ((k,x)::r)=(if k=f then(k,v)::r else(k,x)::Hl f v r)from rfl]
  by_cases hk:k=f
  ·rw[if_pos hk,List.length_cons,List.length_cons];omega
  ·rw[if_neg hk,List.length_cons,List.length_cons];omega
theorem Ri.some_of{v:V}{o:Option Value}(r:Ri (some v) o):∃u,o=some u∧RelV v u:=by
 cases o with
 |none=>exact(show False from r).elim
 |some u=>exact⟨u,rfl,r⟩
theorem Ri.none_of{o:Option Value}(r:Ri none o):o=none:=by
 cases o with
 |none=>rfl
 |some u=>exact(show False from r).elim
theorem Aa8{v:V}{u:Value}(r:RelV v u):W.handedIn u=true:=by
 cases v with
 |non=>cases(show u=Value.none from r);rfl
 |bl b=>cases(show u=Value.bool b from r);rfl
 |int i=>obtain⟨t,e⟩:=(show ∃t,u=Value.int i t from r);cases e;rfl
 |str x=>obtain⟨t,e⟩:=(show ∃t,u=Value.str x t from r);cases e;rfl
 |byt b=>obtain⟨t,e⟩:=(show ∃t,u=Value.bytes b t from r);cases e;rfl
 |flt b=>obtain⟨t,e⟩:=(show ∃t,u=Value.float b t from r);cases e;rfl
 |ref a=>cases(show u=Value.ref a from r);rfl
 |ty n=>cases(show u=Value.type n from r);rfl
section
variable{P:Program}{w:World}{H H':Hp}{h h':Heap}{a C dx:Addr}{fs fs':List (Str×V)}
theorem Uj(hok:HOk P w H h)(e:H a=some (.ins C dx fs)):∃mA,Yb h a dx C mA∧(∀f,Ri (fs.lookup f) (mA f))∧PySem.Within mA (fs.map (·.1))∧fs.length≤1000∧H dx=some (.own a):=by
 obtain⟨d,z,ne,ob,mA,n,r,q⟩:=(show GZ P w H h a (.ins C dx fs)from hok a _ e)
 exact⟨mA,⟨ob,n,ne⟩,r,q,z,d⟩
end
structure Cls(K:W.Frag)(C:Addr):Prop where
 pg:W.plainGet K C Str.empty=true
 hd:W.hasDictIn K C=true
 po:W.plainOver K C=true
 sa:W.findIn K (.ref C) "__setattr__"=some (some (.builtin "object.__setattr__"))
theorem Cls.get{K:W.Frag}{C:Addr}(c:Cls K C)(f:Str):W.plainGet K C f=true:=c.pg
def Ia(K:W.Frag)(C:Addr)(f:Str):Prop:=W.findIn K (.ref C) f=some none
theorem Ia.taker{K:W.Frag}{C:Addr}{f:Str}(n:Ia K C f):W.takerIn K C f=some none:=by
 unfold W.takerIn
 rw[show W.findIn K (.ref C) f=some none from n]
 rfl
structure Meth(K:W.Frag)(C:Addr)(m:Str)(f:Addr):Prop where
 at_:W.findIn K (.ref C) m=some (some (.ref f))
 fn:W.isFn K (.ref f)=true
 kp:W.keepIn K (.ref f)=true
section
variable{X:Cx}{pins:List (Addr×Obj)}{σ:St}{H:Hp}{s:Shared}{a C dx:Addr}{fs:List (Str×V)}{f:Str}{v:V}{A:Around}{E:Value→Shared→Prop}
theorem Yx{b:Bool}{Q:Value→Shared→Prop}(I:Inv X pins σ H s)(e:H a=some (.ins C dx fs))(c:Cls X.K C)(n:Ia X.K C f)(l:fs.lookup f=some v)
  (h:∀u s',Inv X pins σ H s'→RelV v u→Q u s'):wpAny (model X.prog X.w) A (getAttr (.ref a) f b) Q E s:=by
 obtain⟨mA,O,r,_,_,_⟩:=Uj I.hok e
 obtain⟨u,hu,ru⟩:=Ri.some_of (v:=v) (o:=mA f) (by rw[←l];exact r f)
 exact get_map I.kIn O (c.get f) c.hd n hu (Aa8 ru) (h u _ (I.tok _) ru)
theorem P0{m:Str}{g:Addr}{pl:Sem Bool}{Q:Value×List Value→Shared→Prop}(I:Inv X pins σ H s)(e:H a=some (.ins C dx fs))(c:Cls X.K C)(k:Meth X.K C m g)(l:fs.lookup m=none)
  (h:Q (.ref g,[.ref a]) s):wpAny (model X.prog X.w) A (getMethod (.ref a) m pl) Q E s:=by
 obtain⟨mA,O,r,_,_,_⟩:=Uj I.hok e
 have hn:mA m=none:=Ri.none_of (by rw[←l];exact r m)
 exact AcE I.kIn O (c.get m) k.at_ k.fn hn h
theorem Ym{y:V}{u:Value}{Q:Unit→Shared→Prop}(I:Inv X pins σ H s)(e:H a=some (.ins C dx fs))(c:Cls X.K C)(n:Ia X.K C f)(hl:fs.length<1000)(ry:RelV y u)
  (h:∀s',Inv X pins σ (upd H a (.ins C dx (Hl f y fs))) s'→Q () s'):wpAny (model X.prog X.w) A (setAttr (.ref a) f u) Q E s:=by
 obtain⟨mA,O,r,wi,_,ho⟩:=Uj I.hok e
 have hz:(fs.map (·.1)).length≤sizeLine:=by rw[List.length_map,sizeLine_eq];omega
 refine Afy I.kIn O c.sa c.po n.taker c.hd wi hz fun h' O' sb=>h _ ?_
 have hd:∃o,h'.get? dx=some o:=let ⟨o,_,_,e',_⟩:=O'.ns;⟨o,e'⟩
 refine I.write (x:=a) (e:=dx) (by rw[e];exact True.intro) (.inr ho) (fun b q hb z=>(sb.2 b hb).trans z) hd ?_
 refine⟨by rw[Bm O.ne];exact ho,?_,O.ne,O'.obj,_,O'.ns,fun g=>?_,fun g hg=>?_⟩
 ·have:=NK f y fs;omega
 ·show Ri ((Hl f y fs).lookup g) (if g=f then some u else mA g)
  rw[Oa]
  by_cases q:g=f
  ·rw[if_pos q,if_pos q];exact ry
  ·rw[if_neg q,if_neg q];exact r g
 ·by_cases q:g=f
  ·rw[q];exact(Nu f y fs).1
  ·refine(Nu f y fs).2 g (wi g fun z=>hg ?_)
   show(if g=f then some u else mA g)=none
   rw[if_neg q];exact z
theorem Inv.made(I:Inv X pins σ H s):Inv X pins σ (upd (upd H s.heap.objs.size (.own (s.heap.objs.size+1))) (s.heap.objs.size+1) (.ins C s.heap.objs.size []))
  {s with heap:=(s.heap.push W.emptyDict).push (W.instObj C s.heap.objs.size)}:=by
 have e1:(s.heap.push W.emptyDict).get? s.heap.objs.size=some W.emptyDict:=Heap.get?_push_size s.heap rfl
 have e2:((s.heap.push W.emptyDict).push (W.instObj C s.heap.objs.size)).get? (s.heap.objs.size+1)=some (W.instObj C s.heap.objs.size):=by
  have:=Heap.get?_push_size (s.heap.push W.emptyDict) (o:=W.instObj C s.heap.objs.size) rfl
  rwa [Heap.size_push]at this
 have e3:(s.heap.push W.emptyDict).Ns s.heap.objs.size (fun _=>none):=⟨W.emptyDict,#[],_,e1,rfl,(fun e he=>absurd he (by simp)),fun _=>rfl⟩
 have I1:=I.laid (a:=s.heap.objs.size) (o:=.own (s.heap.objs.size+1)) (h':=s.heap.push W.emptyDict) (t':=s.toks) (fun b u q=>Heap.get?_push_of_some _ q) (Nat.le_refl _) ⟨_,e1⟩
 refine I1.laid (a:=s.heap.objs.size+1) (o:=.ins C s.heap.objs.size []) (t':=s.toks) (fun b u q=>Heap.get?_push_of_some _ q) (Nat.le_of_eq (Heap.size_push _ _)) ?_
 have ne:s.heap.objs.size≠s.heap.objs.size+1:=Nat.ne_of_lt (Nat.lt_succ_self _)
 refine⟨by rw[Bm ne,BL],Nat.zero_le _,ne,e2,fun _=>none,(Heap.Ns1.of_empty e3).at fun o q=>Heap.get?_push_of_some _ q,fun _=>True.intro,fun y hy=>absurd rfl hy⟩
theorem Ae8{prog:Program}{w:World}{env:Env}{e:Expr}{f:Str}{pos:Pos}{s:Shared}{Q:Value→Shared→Prop}(hb:attributeBase e f env (eval e env)=eval e env)
  (h:wpAny (model prog w) A (eval e env) (fun o s₁=>wpAny (model prog w) A (getAttr o f true) Q E s₁) E s):wpAny (model prog w) A (eval (.Attribute e f pos) env) Q E s :=
 Attribute_any_ h (by rw[arm_eval_Attribute,hb])
end
def AnD(K:W.Frag)(ta:TE)(f:Str):TE:=fun σ H Q=>ta σ H fun x H1=>∃a C dx fs v,x=.ref a∧H1 a=some (.ins C dx fs)∧Cls K C∧Ia K C f∧fs.lookup f=some v∧Q v H1
def Anv(K:W.Frag)(ta tv:TE)(f:Str):TS:=fun D σ H=>tv σ H fun y H1=>ta σ H1 fun x H2=>∃a C dx fs,x=.ref a∧H2 a=some (.ins C dx fs)∧Cls K C∧Ia K C f∧fs.length<1000 ∧
 D.nx σ (upd H2 a (.ins C dx (Hl f y fs)))
section
variable{X:Cx}{o e value:Expr}{f:Str}{pos pos' tpos:Pos}{ta tv:TE}
theorem Aiw(he:PE X e ta)(hb:attributeBase e f X.env (eval e X.env)=eval e X.env):PE X (.Attribute e f pos) (AnD X.K ta f):=by
 intro pins s σ H Q I h
 refine Ae8 hb (thn (he pins s σ H _ I h) fun u s1 ⟨x,H1,I1,rx,a,C,dx,fs,v,ex,ea,c,n,l,q⟩=>?_)
 subst ex
 obtain rfl:u=Value.ref a:=rx
 exact Yx I1 ea c n l fun u' s2 I2 ru=>⟨v,H1,I2,ru,q⟩
theorem XF(ha:PE X o ta)(hv:PE X value tv)(hs:swapsWith value (some (.Attribute o f pos')) pos.line X.env=pure false):PS X (.Assign [.Attribute o f pos'] value pos) (Anv X.K ta tv f):=by
 intro pins s σ H D I h
 refine plainObj_wpAny_Assign_Attribute (thn (hv pins s σ H _ I h) fun u s1 ⟨y,H1,I1,ry,q⟩=>thn (ha pins s1 σ H1 _ I1 q) fun ov s2 ⟨x,H2,I2,rx,a,C,dx,fs,ex,ea,c,n,l,q2⟩=>?_) hs
 subst ex
 obtain rfl:ov=Value.ref a:=rx
 exact Ym I2 ea c n l ry fun s3 I3=>⟨σ,_,I3,q2⟩
end
section
variable{X:Cx}{pins:List (Addr×Obj)}{σ:St}{H:Hp}{s:Shared}{A:Around}{E:Value→Shared→Prop}{Q:Value→Shared→Prop}{c:Value}{b:Bool}
end
end L2
namespace L2
open PySem Spec PyProof.Rows
structure Em(k:Nat)(A:Around):Prop where
 hd:A.handled=none
 dp:A.depth+3*k+5<recursionLimit
 un:A.units+16*k+200<cLine
theorem Em.mono{j k:Nat}{A:Around}(r:Em k A)(h:j≤k):Em j A:=⟨r.hd,by have:=r.dp;omega,by have:=r.un;omega⟩
theorem Em.deeper{k:Nat}{A:Around}(r:Em (k+1) A)(env:Env):Em k (A.deeper env) :=
 ⟨r.hd,by have:=r.dp;show A.depth+1+3*k+5<_;omega,by have:=r.un;show A.units+3+16*k+200<_;omega⟩
theorem Xd{A:Around}{C:Addr}{us:List Value}{kw:List (Str×Value)}:(A.under (.builtin "type.__call__" ⟨.ref C::us,kw⟩)).depth=A.depth+1:=by
 first|rfl|simp[Around.under,Code.weight,Code.isCreation,Code.isGuard,Code.isCaller,Code.frames,Code.isFrame,guardIds]
theorem Xj{A:Around}{C:Addr}{us:List Value}{kw:List (Str×Value)}:(A.under (.builtin "type.__call__" ⟨.ref C::us,kw⟩)).units=A.units+1:=by
 first|rfl|simp[Around.under,Code.cUnits,Code.frames,Code.isFrame]
theorem Em.make{k:Nat}{A:Around}(r:Em (k+1) A)(C:Addr)(us:List Value)(kw:List (Str×Value)):Em k (A.under (.builtin "type.__call__" ⟨.ref C::us,kw⟩)) :=
 ⟨r.hd,by have:=r.dp;rw[Xd];omega,by have:=r.un;rw[Xj];omega⟩
theorem Em.depth{k:Nat}{A:Around}(r:Em k A):A.depth<recursionLimit:=by have:=r.dp;omega
theorem Em.units{k:Nat}{A:Around}(r:Em k A):A.units+64<cLine:=by have:=r.un;omega
def Ajs:TA:=fun _ H Q=>Q [] H
def Aml(ta:TE)(tr:TA):TA:=fun σ H Q=>ta σ H fun x H1=>tr σ H1 fun xs H2=>Q (x::xs) H2
section
variable{X:Cx}{e:Expr}{es:List Expr}{te:TE}{t:TA}{pos:Pos}
theorem M6:PA X [] Ajs:=fun _ _ _ _ H Q I h=>Calls.spliced_nil ⟨[],H,I,.nil,h⟩
theorem HJ(ha:PE X e te)(hr:PA X es t)(hs:starEach (e::es) X.env=(false,eval e X.env)::starEach es X.env:=by rfl):PA X (e::es) (Aml te t):=by
 intro pos pins s σ H Q I h
 rw[hs]
 show wpAny _ _ (spliced ((false,eval e X.env)::backTo pos (starEach es X.env))) _ _ s
 refine Calls.spliced_cons (thn (ha pins s σ H _ I h) fun u s1 ⟨x,H1,I1,r1,q1⟩=>?_)
 exact thn (hr pos pins s1 σ H1 _ I1 q1) fun us s2 ⟨xs,H2,I2,r2,q2⟩=>⟨x::xs,H2,I2,.cons r1 r2,q2⟩
def Am1(t:TA):TE:=fun σ H Q=>t σ H fun xs H1=>xs.length≤sizeLine∧∀p,H1 p=none→Q (.ref p) (upd H1 p (.tup xs))
def AmY(t:TA):TE:=fun σ H Q=>t σ H fun xs H1=>xs.length≤sizeLine∧∀p,H1 p=none→Q (.ref p) (upd H1 p (.lst xs))
theorem Aho{x1}(h:PA X es t):PE X (.Tuple es x1 pos) (Am1 t):=by
 intro pins s σ H Q I hq
 refine wpAny_Tuple_spliced (thn (h pos pins s σ H _ I hq) fun us s1 ⟨xs,H1,I1,r,z,q⟩=>⟨by rw[←r.length];exact z,?_⟩)
 have hf:H1 s1.heap.objs.size=none:=I1.hok.fresh (Nat.le_refl _)
 refine⟨.ref s1.heap.objs.size,upd H1 s1.heap.objs.size (.tup xs),I1.laid (t':=s1.toks) (fun b u e=>Heap.get?_push_of_some _ e) (Nat.le_refl _) ?_,rfl,q _ hf⟩
 exact⟨z,us,r,⟨_,Heap.get?_push_size _ rfl,rfl,_,rfl⟩⟩
theorem Acs(h:PA X es t):PE X (.List es pos) (AmY t):=by
 intro pins s σ H Q I hq
 refine wpAny_List_spliced (thn (h pos pins s σ H _ I hq) fun us s1 ⟨xs,H1,I1,r,z,q⟩=>⟨by rw[←r.length];exact z,?_⟩)
 have hf:H1 s1.heap.objs.size=none:=I1.hok.fresh (Nat.le_refl _)
 refine⟨.ref s1.heap.objs.size,upd H1 s1.heap.objs.size (.lst xs),I1.laid (t':=s1.toks) (fun b u e=>Heap.get?_push_of_some _ e) (Nat.le_refl _) ?_,rfl,q _ hf⟩
 exact⟨z,us,0,r,Heap.get?_push_size _ rfl⟩
end
abbrev Sp:=List V→Hp→VK→XK→Prop
abbrev CXT:=List Env→Hp→Shared→XK→Value→Shared→Prop
structure W3(P:Program)(w:World)(K:W.Frag)(mg:Str→Option Value)(base:Heap)(A:Around)(outer:List Env)(s:Shared)(H:Hp):Prop where
 frames:A.frames=some outer
 mod:Mod K mg base
 bs:∀b o,base.get? b=some o→s.heap.get? b=some o∧H b=none
 bsz:base.objs.size≤s.heap.objs.size
 gR:s.heap.FunFrames base outer
 frf:∀b∈frs outer,H b=none
 hok:HOk P w H s.heap
 bare:AllBare s.gens
def CE(outer:List Env)(P:Program)(w:World)(H:Hp)(s:Shared)(Q:VK)(u:Value)(s':Shared):Prop :=
 ∃v H',s'.os=s.os∧AllBare s'.gens∧Un (frs outer) [] H H' s.heap s'.heap∧HOk P w H' s'.heap∧RelV v u∧Q v H'
def CR(CX:CXT)(outer:List Env)(P:Program)(w:World)(H:Hp)(s:Shared)(Q:VK)(E:XK)(r:Result)(s':Shared):Prop :=
 match r with
 |.ok (.ret u)=>CE outer P w H s Q u s'
 |.ok _=>False
 |.error e=>CX outer H s E e s'
structure Ho(P:Program)(w:World)(K:W.Frag)(mg:Str→Option Value)(base:Heap)(CX:CXT)(k:Nat)(f:Addr)(fd:FuncData)(ps:List Str)(sp:Sp):Prop where
 len:∀vs H Q E,sp vs H Q E→vs.length=ps.length
 run:∀(A:Around)(outer:List Env)(s:Shared)(H:Hp)(args:Args)(us:List Value)(vs:List V)(Q:VK)(E:XK),Em k A→W3 P w K mg base A outer s H→BindsTo s fd args (ps.zip us)→Vals vs us→sp vs H Q E →
  codeAny (model P w) A (.call (.ref f) args) (CR CX outer P w H s Q E) s
theorem W3.make{P:Program}{w:World}{K:W.Frag}{mg:Str→Option Value}{base:Heap}{A:Around}{outer:List Env}{s:Shared}{H:Hp}(e:W3 P w K mg base A outer s H)(C:Addr)(us:List Value)(kw:List (Str×Value)) :
  W3 P w K mg base (A.under (.builtin "type.__call__" ⟨.ref C::us,kw⟩)) outer s H:=⟨by first|exact e.frames|(simpa [Around.under,Code.envs,Code.isFrame,pushEnvs] using e.frames),e.mod,e.bs,e.bsz,e.gR,e.frf,e.hok,e.bare⟩
section
variable{X:Cx}{pins:List (Addr×Obj)}{σ:St}{H:Hp}{s s':Shared}
theorem Inv.env0(I:Inv X pins σ H s):W3 X.prog X.w X.K X.mg X.base X.A X.stack s H :=
 ⟨I.ok.frames,I.ok.mod,I.bs,Nat.le_trans I.ok.bsz I.sz,I.stack,I.nu,I.hok,I.bare⟩
theorem Inv.after{Q:VK}{u:Value}(I:Inv X pins σ H s)(h:CE X.stack X.prog X.w H s Q u s'):EP X pins σ Q u s':=by
 obtain⟨v,H',os,bare,un,hok,r,q⟩:=h
 obtain⟨hh,g,d,t,os'⟩:=s'
 obtain rfl:os'=s.os:=os
 exact⟨v,H',I.call (h':=hh) (g':=g) (d':=d) (t':=t) (ch:=[]) un hok bare (fun b z=>absurd z (by simp)),r,q⟩
end
def AgO(sp:Sp)(dvs:List V)(E:XK)(t:TA):TE:=fun σ H Q=>t σ H fun vs H1=>sp (vs++dvs) H1 Q E
def Ajd(C:Addr)(sp:Sp)(dvs:List V)(E:XK)(t:TA):TE:=fun σ H Q=>t σ H fun vs H1=>∀x dx,H1 x=none→H1 dx=none→dx≠x →
 sp (.ref x::(vs++dvs)) (upd (upd H1 dx (.own x)) x (.ins C dx [])) (fun v H2=>v=.non∧Q (.ref x) H2) E
def Binds(K:W.Frag)(fd:FuncData)(ps:List Str)(ds:List Value):Prop :=
 ∀(s:Shared)(us:List Value),K.In s.heap→(us++ds).length=ps.length→BindsTo s fd ⟨us,[]⟩ (ps.zip (us++ds))
theorem Binds.all{K:W.Frag}{fd:FuncData}{ps:List Str}(h:∀us:List Value,us.length=ps.length→bindArgs fd ⟨us,[]⟩=pure (ps.zip us)):Binds K fd ps []:=fun s us _ hl=>by
 rw[List.append_nil]at hl ⊢
 exact .of_eq (h us hl)
def Passes(CX:CXT)(X:Cx)(E:XK):Prop:=∀(pins:List (Addr×Obj))(σ:St)(H:Hp)(s:Shared)(e:Value)(s':Shared),Inv X pins σ H s→CX X.stack H s E e s'→X.xe e s'
section
variable{X:Cx}{CX:CXT}{k:Nat}{f C:Addr}{fd:FuncData}{ps:List Str}{sp:Sp}{dvs:List V}{ds:List Value}{E:XK}{x m:Str}{p pos apos:Pos}{e o:Expr}{es:List Expr}{ta:TE}{t:TA}
theorem Uu{pins:List (Addr×Obj)}{σ:St}{H:Hp}{s:Shared}{Q:VK}{us:List Value}{vs:List V}(F:Ho X.prog X.w X.K X.mg X.base CX k f fd ps sp)(hr:Em k X.A)(hb:Binds X.K fd ps ds)(hd:Vals dvs ds)(hx:Passes CX X E)
  (I:Inv X pins σ H s) (r:Vals vs us) (h:sp (vs++dvs) H Q E):wpAny (model X.prog X.w) X.A (call (.ref f) us) (EP X pins σ Q) X.xe s:=by
 have r2:Vals (vs++dvs) (us++ds):=r.append hd
 have hl:(us++ds).length=ps.length:=by rw[←r2.length];exact F.len _ _ _ _ h
 refine wpAny_call (codeAny_mono (F.run X.A X.stack s H ⟨us,[]⟩ (us++ds) (vs++dvs) Q E hr I.env0 (hb s us I.kIn hl) r2 h) fun r s' hq=>?_)
 cases r with
 |error e=>exact hx pins σ H s e s' I hq
 | ok fl =>
  cases fl with
  |ret u=>exact I.after hq
  |next=>exact False.elim hq
  |brk=>exact False.elim hq
  |cont=>exact False.elim hq
theorem YS(F:Ho X.prog X.w X.K X.mg X.base CX k f fd ps sp)(hr:Em k X.A)(hg:Gl X x)(hm:X.mg x=some (.ref f))(hk:W.keepIn X.K (.ref f)=true)(hb:Binds X.K fd ps ds)(hd:Vals dvs ds)(hx:Passes CX X E)
  (ha:PA X (e::es) t) (hdb:(x==("__debug__":Str))=false:=by decide) (he:starEach (e::es) X.env=(false,eval e X.env)::starEach es X.env:=by rfl) (hpl:(backTo pos (starEach es X.env)).any (·.1)=false:=by rfl) :
  PE X (.Call (.Name x p) (e::es) [] pos) (AgO sp dvs E t):=by
 intro pins s σ H Q I h
 refine wpAny_Call_Name_kw (T7 I hg hm ?_ hdb)
 refine W.callWith_K (h₀:=X.base) I.ok.mod.kin hk (thn (ha pos pins s σ H _ I h) fun us s1 ⟨vs,H1,I1,r,q⟩=>⟨I1.kIn,?_⟩) he hpl
 exact Uu F hr hb hd hx I1 r q
structure Mk(K:W.Frag)(C f:Addr):Prop where
 makes:W.makesIn K C=true
 init:W.findIn K (.ref C) "__init__"=some (some (.ref f))
 fn:W.isFn K (.ref f)=true
 kp:W.keepIn K (.ref C)=true
theorem Acn{pins:List (Addr×Obj)}{σ:St}{H:Hp}{s:Shared}{Q:VK}{us:List Value}{vs:List V}(M:Mk X.K C f)(F:Ho X.prog X.w X.K X.mg X.base CX k f fd ps sp)(hr:Em (k+1) X.A)(hb:Binds X.K fd ps ds)(hd:Vals dvs ds)
  (hx:Passes CX X E) (I:Inv X pins σ H s) (r:Vals vs us)
  (h:∀x dx,H x=none→H dx=none→dx≠x→sp (.ref x::(vs++dvs)) (upd (upd H dx (.own x)) x (.ins C dx [])) (fun v H2=>v=.non∧Q (.ref x) H2) E) :
  wpAny (model X.prog X.w) X.A (call (.ref C) us) (EP X pins σ Q) X.xe s:=by
 have hq:=h (s.heap.objs.size+1) s.heap.objs.size (I.hok.fresh (Nat.le_succ _)) (I.hok.fresh (Nat.le_refl _)) (Nat.ne_of_lt (Nat.lt_succ_self _))
 have I2:=Inv.made (C:=C) I
 have r2:Vals (V.ref (s.heap.objs.size+1)::(vs++dvs)) (Value.ref (s.heap.objs.size+1)::(us++ds)):=.cons rfl (r.append hd)
 have hl:(Value.ref (s.heap.objs.size+1)::us++ds).length=ps.length:=by
  have e:=r2.length
  rw[F.len _ _ _ _ hq]at e
  exact e.symm
 refine wpAny_call (AcS (f:=f) I.kIn M.makes M.init (beq_iff_eq.mp M.fn) (codeAny_mono (F.run _ X.stack _ _ ⟨Value.ref (s.heap.objs.size+1)::us,[]⟩ (Value.ref (s.heap.objs.size+1)::(us++ds)) _ _ E (hr.make C us [])
  (I2.env0.make C us []) (hb _ (Value.ref (s.heap.objs.size+1)::us) I2.kIn hl) r2 hq) fun r s' hq'=>?_))
 cases r with
 |error e=>exact hx pins σ _ _ e s' I2 hq'
 | ok fl =>
  cases fl with
  | ret u =>
   obtain⟨v,H',I3,rv,ev,q3⟩:=I2.after hq'
   subst ev
   exact⟨rv,⟨V.ref (s.heap.objs.size+1),H',I3,rfl,q3⟩⟩
  |next=>exact False.elim hq'
  |brk=>exact False.elim hq'
  |cont=>exact False.elim hq'
theorem AfU(M:Mk X.K C f)(F:Ho X.prog X.w X.K X.mg X.base CX k f fd ps sp)(hr:Em (k+1) X.A)(hg:Gl X x)(hm:X.mg x=some (.ref C))(hb:Binds X.K fd ps ds)(hd:Vals dvs ds)(hx:Passes CX X E)
  (ha:PA X (e::es) t) (hdb:(x==("__debug__":Str))=false:=by decide) (he:starEach (e::es) X.env=(false,eval e X.env)::starEach es X.env:=by rfl) (hpl:(backTo pos (starEach es X.env)).any (·.1)=false:=by rfl) :
  PE X (.Call (.Name x p) (e::es) [] pos) (Ajd C sp dvs E t):=by
 intro pins s σ H Q I h
 refine wpAny_Call_Name_kw (T7 I hg hm ?_ hdb)
 refine W.callWith_K (h₀:=X.base) I.ok.mod.kin M.kp (thn (ha pos pins s σ H _ I h) fun us s1 ⟨vs,H1,I1,r,q⟩=>⟨I1.kIn,?_⟩) he hpl
 exact Acn M F hr hb hd hx I1 r q
end
section
variable{X:Cx}{CX:CXT}{k:Nat}{f C:Addr}{fd:FuncData}{ps ks:List Str}{sp:Sp}{E:XK}{x m:Str}{p pos apos kpos:Pos}{e o:Expr}{es:List Expr}{kws:List Keyword}{te ta:TE}{t tk:TA}{nm:Option Str}
variable{g:List Value→List Value→List Value}{gV:List V→List V→List V}
end
structure Aq(N P:List Str)(sc:Scope):Prop where
 kind:sc.kind=.function
 co:sc.isCoroutine=false
 gen:sc.isGenerator=false
 nd:N.Nodup
 pre:N.take P.length=P
 par:∀x∈P,sc.names.lookup x=some .local∨sc.names.lookup x=some .cell
 qD:∀y∈sc.names,y.2≠.free
theorem RZ{kindOf:Str→Option NameKind}{x:Str}:∀{binds:List (Str×Value)} {m:Str→Option Value},(∀v,(x,v)∉binds)→bindL kindOf binds m x=m x
 | [],_,_=>rfl
 | (n,v)::r,m,h=>by
  unfold bindL
  rw[RZ fun w hw=>h w (List.mem_cons_of_mem _ hw)]
  split
  ·have:x≠n:=by rintro rfl;exact h v List.mem_cons_self
   simp[this]
  ·rfl
theorem RL{kindOf:Str→Option NameKind}{x:Str}:∀{binds:List (Str×Value)} {m:Str→Option Value},(∀v,(x,v)∉binds)→bindC kindOf binds m x=m x
 | [],_,_=>rfl
 | (n,v)::r,m,h=>by
  unfold bindC
  rw[RL fun w hw=>h w (List.mem_cons_of_mem _ hw)]
  split
  ·rfl
  ·have:x≠n:=by rintro rfl;exact h v List.mem_cons_self
   simp[this]
theorem Sh{kindOf:Str→Option NameKind}{x:Str}{v:Value}:∀{P:List Str} {vs:List Value} {i:Nat} {m:Str→Option Value},P.Nodup→P[i]? = some x→vs[i]? = some v→kindOf x=some .local →
  bindL kindOf (P.zip vs) m x=some v
 | [],_,_,_,_,h,_,_=>by simp at h
 |_::_,[],_,_,_,_,h,_=>by simp at h
 | p::P,w::vs,0,m,nd,h1,h2,hk=>by
  simp at h1 h2;subst h1;subst h2
  show bindL kindOf ((p,w)::P.zip vs) m p=_
  unfold bindL
  rw[RZ fun v hv=>(List.nodup_cons.mp nd).1 (List.of_mem_zip hv).1,if_pos hk]
  simp
 | p::P,w::vs,i+1,m,nd,h1,h2,hk=>by
  show bindL kindOf ((p,w)::P.zip vs) m x=_
  unfold bindL
  exact Sh (i:=i) (List.nodup_cons.mp nd).2 (by simpa using h1) (by simpa using h2) hk
theorem RJ{kindOf:Str→Option NameKind}{x:Str}{v:Value}:∀{P:List Str} {vs:List Value} {i:Nat} {m:Str→Option Value},P.Nodup→P[i]? = some x→vs[i]? = some v→kindOf x≠some .local →
  bindC kindOf (P.zip vs) m x=some v
 | [],_,_,_,_,h,_,_=>by simp at h
 |_::_,[],_,_,_,_,h,_=>by simp at h
 | p::P,w::vs,0,m,nd,h1,h2,hk=>by
  simp at h1 h2;subst h1;subst h2
  show bindC kindOf ((p,w)::P.zip vs) m p=_
  unfold bindC
  rw[RL fun v hv=>(List.nodup_cons.mp nd).1 (List.of_mem_zip hv).1,if_neg hk]
  simp
 | p::P,w::vs,i+1,m,nd,h1,h2,hk=>by
  show bindC kindOf ((p,w)::P.zip vs) m x=_
  unfold bindC
  exact RJ (i:=i) (List.nodup_cons.mp nd).2 (by simpa using h1) (by simpa using h2) hk
def start(N:List Str)(vs:List V):St:=vs.map some++List.replicate (N.length-vs.length) none
def Yz(CX:CXT)(P:Program)(w:World)(K:W.Frag)(mg:Str→Option Value)(base:Heap)(N:List Str)(qual:Str)(scope:Scope)(f:Addr)(cd:Value)(A:Around)(outer:List Env)(s:Shared)(H:Hp)(E:XK):Cx where
 prog:=P
 w:=w
 K:=K
 mg:=mg
 base:=base
 A:=A.deeper (envOfC qual scope s.heap.objs.size f cd)
 N:=N
 s₀:=s
 H₀:=H
 env:=envOfC qual scope s.heap.objs.size f cd
 outer:=outer
 stack:=envOfC qual scope s.heap.objs.size f cd::outer
 ex:=[]
 calm:=true
 fn:=fun _=>true
 pn:=[]
 xe:=fun e s'=>wpAny (model P w) (A.deeper (envOfC qual scope s.heap.objs.size f cd)) (leaving (envOfC qual scope s.heap.objs.size f cd) e) (fun _ s''=>CX outer H s E e s'') (fun e' s''=>CX outer H s E e' s'') s'
theorem Wa{sc:Scope}{n:Nat}{x:Str}(h:sc.names.lookup x=some .cell):∃c,(cellsFrom n sc.names []).lookup x=some c:=by
 have q:=W.cellsFrom_some sc.names n [] (.inl h)
 exact Option.isSome_iff_exists.mp q
theorem Aay{CX:CXT}{P:Program}{w:World}{K:W.Frag}{mg:Str→Option Value}{base:Heap}{N ps:List Str}{qual:Str}{scope:Scope}{f:Addr}{cd:Value}{A:Around}{outer:List Env}{s s1:Shared}{H:Hp}{E:XK}{us:List Value}{vs:List V}
  (S:Aq N ps scope) (hd:A.handled=none) (e0:W3 P w K mg base A outer s H) (hl:vs.length=ps.length) (r:Vals vs us)
  (x:InCallC s s.heap.objs.size (bindL (envOfC qual scope s.heap.objs.size f cd).kindOf (ps.zip us) fun _=>none) (cellsFrom (s.heap.objs.size+1) scope.names []) (bindC (envOfC qual scope s.heap.objs.size f cd).kindOf (ps.zip us) fun _=>none) s1) :
  Inv (Yz CX P w K mg base N qual scope f cd A outer s H E) [] (start N vs) H s1:=by
 have hpl:ps.length≤N.length:=by have:=congrArg List.length S.pre;rw[List.length_take]at this;omega
 obtain⟨h1,tk,rfl,hk⟩:=x.done
 have noA:∀b:Addr,b∉(Yz CX P w K mg base N qual scope f cd A outer s H E).ex:=fun b z=>absurd (show b∈([]:List Addr)from z) (by simp)
 refine⟨⟨e0.mod,S.kind,rfl,rfl,Nat.le_refl _,fun y z c h1 h2=>?_,fun y hy=>?_,fun y c _ h=>?_,fun _=>hd,Around.frames_deeper e0.frames,.inr ⟨rfl,rfl⟩,fun b z=>absurd z (noA b),e0.bs,e0.bsz,fun b _ _=>noA b,fun b z=>absurd z (noA b),e0.gR,e0.frf⟩,
  rfl,e0.bare,Un.kept hk,⟨_,x.toInCall.ns,fun i y v h1 h2 h3=>?_⟩,fun y c h=>⟨_,x.cell y c h⟩,e0.hok.fresh (Nat.le_refl _),fun y c h=>?_,fun p hp=>absurd (show p∈([]:List (Addr×Obj))from hp) (by simp),e0.hok.kept hk,?_⟩
 ·exact name_of_addr x.apart (PySem.mem_of_lookup h1) (PySem.mem_of_lookup h2)
 ·have hy:scope.names.lookup y=some .cell∨scope.names.lookup y=some .free:=hy
  rcases hy with hy|hy
  ·exact Wa hy
  ·exact absurd rfl (S.qD _ (PySem.mem_of_lookup hy))
 ·exact Nat.le_of_lt (x.above y c (PySem.mem_of_lookup h))
 ·have hi:i<vs.length:=by
   unfold start at h2
   by_cases hi:i<vs.length
   ·exact hi
   ·rw[List.getElem?_append_right (by simpa using hi)]at h2
    rw[List.getElem?_replicate]at h2
    split at h2<;>cases h2
  have ha:vs[i]? = some v:=by
   unfold start at h2
   rw[List.getElem?_append_left (by simpa using hi),List.getElem?_map]at h2
   cases e:vs[i]? with
   |none=>rw[e]at h2;cases h2
   |some a=>rw[e]at h2;cases h2;rfl
  obtain⟨u,hu,rv⟩:=r.get ha
  have hp:ps[i]? = some y:=by
   rw[←S.pre,List.getElem?_take_of_lt (by omega)];exact h1
  have ndP:ps.Nodup:=by rw[←S.pre];exact S.nd.sublist (List.take_sublist _ _)
  refine⟨u,rv,?_⟩
  rcases S.par y (List.mem_of_getElem? hp)with k|k
  ·exact .inl ⟨k,Sh ndP hp hu k⟩
  ·obtain⟨c,e⟩:=Wa (n:=s.heap.objs.size+1) k
   refine .inr ⟨.inl k,c,e,?_⟩
   have q:=x.cell y c e
   rw[RJ ndP hp hu (by show scope.names.lookup y≠_;rw[k];decide)]at q
   exact q
 ·exact e0.hok.fresh (Nat.le_of_lt (x.above y c (PySem.mem_of_lookup h)))
 ·unfold start
  show _=N.length
  rw[List.length_append,List.length_map,List.length_replicate]
  omega
theorem AlT{CX:CXT}{P:Program}{w:World}{K:W.Frag}{mg:Str→Option Value}{base:Heap}{k:Nat}{f:Addr}{name qual:Str}{params:Arguments}{body:List Stmt}{scope:Scope}{dV kV doc pm cdv ct oc:Value}{an od:Option Addr}
  {osl:Array (Option Value)} {N ps:List Str} {sp:Sp} (lk:K.lookup f=some ⟨oc,od,.func (W.fnOf name qual params body scope dV kV doc pm an cdv ct),osl⟩) (hcd:W.codeIn K cdv qual=true) (S:Aq N ps scope)
  (len:∀vs H Q E,sp vs H Q E→vs.length=ps.length)
  (hbody:∀(A:Around)(outer:List Env)(s:Shared)(H:Hp)(vs:List V)(Q:VK)(E:XK),Em k (A.deeper (envOfC qual scope s.heap.objs.size f cdv))→sp vs H Q E →
   ∃t,PSs (Yz CX P w K mg base N qual scope f cdv A outer s H E) body t∧t {nx:=fun _ H'=>Q .non H',rt:=Q} (start N vs) H) :
  Ho P w K mg base CX (k+1) f (W.fnOf name qual params body scope dV kV doc pm an cdv ct) ps sp:=by
 refine⟨len,fun A outer s H args us vs Q E hr e0 hb r hsp=>?_⟩
 have hl:=len _ _ _ _ hsp
 have KX:K.In s.heap:=e0.mod.kin.keeps fun b o e=>(e0.bs b o e).1
 have lim:s.heap.NoLimit:=e0.mod.nolimit.keeps fun b o e=>(e0.bs b o e).1
 have hkind:∀y∈ps.zip us,scope.names.lookup y.1=some .local∨(scope.names.lookup y.1=some .cell∧((cellsFrom (s.heap.objs.size+1) scope.names []).lookup y.1).isSome=true):=fun⟨n,v⟩ hy=>by
  rcases S.par n (List.of_mem_zip hy).1 with q|q
  ·exact .inl q
  ·exact .inr ⟨q,W.cellsFrom_some _ _ _ (.inl q)⟩
 refine codeAny_call_function hr.depth (KX _ _ lk) rfl S.co S.gen rfl (W.codeRec_of KX hcd) (hb _ _ _ _ ?_)
 refine wpAny_newFunctionEnv_cells S.kind hkind fun env he s1 x=>?_
 subst he
 refine⟨lim.keeps x.toInCall.keep,codeAny_func ?_⟩
 obtain⟨t,ht,hq⟩:=hbody A outer s H vs Q E (hr.deeper _) hsp
 have I:Inv (Yz CX P w K mg base N qual scope f cdv A outer s H E) [] (start N vs) H s1:=Aay S hr.hd e0 hl r x
 refine wpAny_mono (ht [] s1 (start N vs) H _ I hq) (fun fl s' hs=>?_) fun e s' hs=>hs
 have fin:∀{σ':St} {H':Hp} {v:V} {u:Value},Inv (Yz CX P w K mg base N qual scope f cdv A outer s H E) [] σ' H' s'→RelV v u→Q v H'→CE outer P w H s Q u s' :=
  fun{σ' H' v u} J rv q=>⟨v,H',J.os,J.bare,J.base,J.hok,rv,q⟩
 cases fl with
 | ret u =>
  obtain⟨v,σ',H',J,rv,q⟩:=hs
  exact fin J rv q
 | next =>
  obtain⟨σ',H',J,q⟩:=hs
  exact fin (v:=V.non) (u:=Value.none) J rfl q
 | brk =>
  obtain⟨_,_,_,q⟩:=hs
  exact False.elim q
 | cont =>
  obtain⟨_,_,_,q⟩:=hs
  exact False.elim q
end L2
namespace L2
open PySem Spec PyProof.Rows
section
variable{X:Cx}{x:Str}{p pos:Pos}{e:Expr}{es:List Expr}{t:TA}{id T:String}{r:List V→Hp→VK→Prop}
def tCB(r:List V→Hp→VK→Prop)(t:TA):TE:=fun σ H Q=>t σ H fun vs H1=>r vs H1 Q
theorem Py(hc:JH X (.builtin id) r)(hg:Gl X x)(hm:X.mg x=none)(hv:bootBuiltins x=some (.builtin id))(ha:PA X (e::es) t)(hn:x≠"__name__":=by decide)(hdb:(x==("__debug__":Str))=false:=by decide)
  (he:starEach (e::es) X.env=(false,eval e X.env)::starEach es X.env:=by rfl) (hpl:(backTo pos (starEach es X.env)).any (·.1)=false:=by rfl):PE X (.Call (.Name x p) (e::es) [] pos) (tCB r t):=by
 intro pins s σ H Q I h
 refine wpAny_Call_Name_kw (QJ I hg hm hv ?_ hn hdb)
 exact PyProof.Rows.callWith_builtin1 (thn (ha pos pins s σ H _ I h) fun us s1 ⟨vs,H1,I1,r1,q1⟩=>hc pins s1 σ H1 vs us Q I1 r1 q1) he hpl
theorem Aao(hc:JH X (.type T) r)(hg:Gl X x)(hm:X.mg x=none)(hv:bootBuiltins x=some (.type T))(ha:PA X (e::es) t)(hn:x≠"__name__":=by decide)(hdb:(x==("__debug__":Str))=false:=by decide)
  (he:starEach (e::es) X.env=(false,eval e X.env)::starEach es X.env:=by rfl) (hpl:(backTo pos (starEach es X.env)).any (·.1)=false:=by rfl):PE X (.Call (.Name x p) (e::es) [] pos) (tCB r t):=by
 intro pins s σ H Q I h
 refine wpAny_Call_Name_kw (QJ I hg hm hv ?_ hn hdb)
 exact PyProof.Rows.callWith_type1 (thn (ha pos pins s σ H _ I h) fun us s1 ⟨vs,H1,I1,r1,q1⟩=>hc pins s1 σ H1 vs us Q I1 r1 q1) he hpl
end
end L2
namespace HT
open PySem PyProof.Rows
def lexLt:List Int→List Int→Bool
 | [],[]=>false
 | [],_::_=>true
 |_::_,[]=>false
 |x::xs,y::ys=>if x=y then lexLt xs ys else decide (x<y)
theorem Hs(x y:Int)(xs ys:List Int):lexLt (x::xs) (y::ys)=if x=y then lexLt xs ys else decide (x<y):=rfl
theorem Io:lexLt [] []=false:=rfl
theorem QL(y:Int)(ys:List Int):lexLt [] (y::ys)=true:=rfl
theorem Pg(x:Int)(xs:List Int):lexLt (x::xs) []=false:=rfl
theorem AbJ(A:Around)(s:Shared)(a:Int)(t:Tok)(c:Int)(u:Tok):∃e,SeqAt.EqAt A s (.int a t) (.int c u) e∧(e=true↔a=c) :=
 ⟨(a==c),SeqAt.EqAt.int_int a t c u,by simp⟩
theorem AdY(A:Around)(s:Shared)(a:Int)(t:Tok)(c:Int)(u:Tok)(prog:Program)(w:World)(E:Value→Shared→Prop)(Q:Value→Shared→Prop)(h:Q (.bool (decide (a<c))) s) :
  wpAny (model prog w) A (richCompare .Lt (.int a t) (.int c u)) Q E s :=
 (PyProof.Rows.lt_int h:wpAny (model prog w) A (compareOp .Lt (.int a t) (.int c u)) Q E s)
section
open PySem.SeqAt
open PySem.AutoSeq1 (wpAny_loadPart')
open PySem.MeetsSeq PySem.MeetsSeq2 PySem.MeetsSeq3
theorem Rb(l b:Addr)(items items2:Array Value)(n n2:Nat)(dd dd2:Option Addr)(sl sl2:Array (Option Value))(ns ms:List Int)(hi:IntsAre items.toList ns)(hj:IntsAre items2.toList ms) :
  Meets (Builtin.«tuple.__lt__» ⟨[.ref l,.ref b],[]⟩)
   (fun _ R s=>s.heap.get? l=some {cls:=.type "tuple",dict:=dd,data:=.seq items n,slots:=sl}∧s.heap.get? b=some {cls:=.type "tuple",dict:=dd2,data:=.seq items2 n2,slots:=sl2} ∧
    R (.ok (.ret (.bool (lexLt ns ms)))) s) :=
 .of_wp fun prog w A R s h=>by
  obtain⟨hp,g,d,tk,os⟩:=s;obtain⟨hl,hb,h⟩:=h
  have f2:=AutoSeq1.sub_tuple_tuple
  have z1:items.size=ns.length:=by rw[←hi.length];simp
  have z2:items2.size=ms.length:=by rw[←hj.length];simp
  wp_walk using wpAny_loadPart' hl,wpAny_loadPart' hb,wpAny_forIn_list _ (fun rest b s'=>b.1=none∧s'=⟨hp,g,d,tk,os⟩∧∃(vs ws:List Value)(ns' ms':List Int),rest=vs.zip ws ∧
   IntsAre vs ns'∧IntsAre ws ms'∧ns'.length+items2.size=ms'.length+items.size∧R (.ok (.ret (.bool (lexLt ns' ms')))) ⟨hp,g,d,tk,os⟩) _
  case turn =>
   rintro⟨y,x⟩ rest b s' ⟨hb',rfl,vs,ws,ns',ms',hz,hvi,hwi,hlen,hR⟩
   cases hvi with
   |nil=>rw[List.zip_nil_left]at hz;cases hz
   | cons a t rG =>
    cases hwi with
    |nil=>rw[List.zip_nil_right]at hz;cases hz
    | cons c u rH =>
     rw[List.zip_cons_cons]at hz
     injection hz with hyx hrest
     injection hyx with hy hx
     subst hy hx
     rw[Hs]at hR
     simp only[List.length_cons]at hlen
     obtain⟨e,he,hiff⟩:=AbJ A.in1 ⟨hp,g,d,tk,os⟩ a t c u
     refine wpAny_bind (he prog w _ _ ?_)
     cases e with
     | true =>
      rw[if_pos (hiff.mp rfl)]at hR
      wp_walk
      exact⟨rfl,rfl,_,_,_,_,hrest,rG,rH,by omega,hR⟩
     | false =>
      rw[if_neg (fun q=>absurd (hiff.mpr q) Bool.false_ne_true)]at hR
      have hri:=AdY A.in1 ⟨hp,g,d,tk,os⟩ a t c u prog w
      wp_walk using hri
      exact⟨_,rfl,by simpa using hR⟩
  case fin =>
   rintro⟨b1,b2⟩ s' ⟨hb',rfl,vs,ws,ns',ms',hz,hvi,hwi,hlen,hR⟩
   simp only at hb'
   subst hb'
   have hv:lexLt ns' ms'=decide (items.size<items2.size):=by
    cases hvi with
    | nil =>
     cases hwi with
     | nil =>
      simp only[List.length_nil]at hlen
      rw[Io]
      exact(decide_eq_false (by omega)).symm
     | cons c u hw =>
      simp only[List.length_nil,List.length_cons]at hlen
      rw[QL]
      exact(decide_eq_true (by omega)).symm
    | cons a t hv =>
     cases hwi with
     | nil =>
      simp only[List.length_nil,List.length_cons]at hlen
      rw[Pg]
      exact(decide_eq_false (by omega)).symm
     | cons c u hw =>
      rw[List.zip_cons_cons]at hz
      cases hz
   rw[hv]at hR
   wp_walk
   exact⟨_,rfl,by simpa [Builtin.Tuple.tupleCompareSizes] using hR⟩
  case h =>
   exact⟨rfl,rfl,items.toList,items2.toList,ns,ms,rfl,hi,hj,by omega,h⟩
end
section
variable{prog:Program}{w:World}{A:Around}{E:Value→Shared→Prop}{s:Shared}
theorem K9{l b:Addr}{items items2:Array Value}{ns ms:List Int}{Q:Value→Shared→Prop}(hl:IsTup s.heap l items)(hb:IsTup s.heap b items2)(hi:IntsAre items.toList ns)(hj:IntsAre items2.toList ms)
  (hu:A.units<cLine) (h:Q (.bool (lexLt ns ms)) s):wpAny (model prog w) A (compareOp .Lt (.ref l) (.ref b)) Q E s:=by
 obtain⟨⟨cls,dd,data,sl⟩,ho,hc,n,hd⟩:=id hl
 obtain⟨⟨cls2,dd2,data2,sl2⟩,ho2,hc2,n2,hd2⟩:=id hb
 simp only at hc hd hc2 hd2
 subst hc hd hc2 hd2
 exact richCompare_meets_room (op:=.Lt) ⟨_,ho,rfl⟩ ⟨_,ho2,rfl⟩ PySem.F.slot_tuple_lt PySem.F.entry_tuple_lt (PySem.F.args_tuple_lt_2 _ _) (Rb l b items items2 n n2 dd dd2 sl sl2 ns ms hi hj)
  ⟨ho,ho2,show Value.bool (lexLt ns ms)≠Value.notImplemented∧Q (.bool (lexLt ns ms)) s from⟨(fun x=>nomatch x),h⟩⟩ hu
def sIx(n d:Nat):Option Int→Nat
 |none=>d
 |some v=>if v<0 then(v+(n:Int)).toNat else min v.toNat n
end
end HT
namespace L2
open PySem Spec PyProof.Rows
abbrev TO:=St→Hp→(Option Int→Hp→Prop)→Prop
def PO(X:Cx)(e:Option Expr)(t:TO):Prop :=
 ∀(pins:List (Addr×Obj))(s:Shared)(σ:St)(H:Hp)(Q:Option Int→Hp→Prop),Inv X pins σ H s→t σ H Q →
  wpAny (model X.prog X.w) X.A (evalPart e X.env) (fun u s'=>∃o H',Inv X pins σ H' s'∧IsPart u o∧Q o H') X.xe s
def Ak6(t:TE):TO:=fun σ H Q=>t σ H fun x H1=>∃i,x=.int i∧Q (some i) H1
theorem intsAre_of{ns:List Int}:∀{us:List Value},Vals (ns.map V.int) us→IntsAre us ns:=by
 induction ns with
 |nil=>intro us r;rw[List.map_nil]at r;cases r;exact .nil
 | cons n ns ih =>
  intro us r
  rw[List.map_cons]at r
  cases r with
  | cons r1 r2 =>
   obtain⟨t,e⟩:=r1
   subst e
   exact .cons n t (ih r2)
section
variable{X:Cx}{e:Expr}{te:TE}{lo hi:Option Expr}{tl th:TO}{pos p2:Pos}
theorem AeT(h:PE X e te):PO X (some e) (Ak6 te):=by
 intro pins s σ H Q I hw
 rw[evalPart_some]
 refine thn (h pins s σ H _ I hw) fun u s1 ⟨x,H1,I1,r1,q1⟩=>?_
 obtain⟨i,rfl,q⟩:=q1
 obtain⟨t,rfl⟩:=r1
 exact⟨some i,H1,I1,.int i t,q⟩
def SlR(X:Cx)(r:V→Option Int→Option Int→Hp→VK→Prop):Prop :=
 ∀(pins:List (Addr×Obj))(s:Shared)(σ:St)(H:Hp)(x:V)(v vl vu:Value)(lo hi:Option Int)(sl:Addr)(Q:VK),Inv X pins σ H s→RelV x v→s.heap.IsSliceOf sl vl vu .none→IsPart vl lo→IsPart vu hi→r x lo hi H Q →
  ∃T id,typeLookup (.type T) "__getitem__"=pure (some (.builtin id))∧s.TypeIs v T∧wpAny (model X.prog X.w) X.A (getItem v (.ref sl)) (EP X pins σ Q) X.xe s
def tSl(r:V→Option Int→Option Int→Hp→VK→Prop)(te:TE)(tl th:TO):TE:=fun σ H Q=>te σ H fun x H1=>tl σ H1 fun l H2=>th σ H2 fun u H3=>r x l u H3 Q
theorem Aea{r:V→Option Int→Option Int→Hp→VK→Prop}(hr:SlR X r)(he:PE X e te)(hl:PO X lo tl)(hu:PO X hi th):PE X (.Subscript e (.Slice lo hi none p2) pos) (tSl r te tl th):=by
 intro pins s σ H Q I h
 refine Subscript_ (thn (he pins s σ H _ I h) fun v s1 ⟨x,H1,I1,r1,q1⟩=>?_)
 refine wpAny_Slice (thn (hl pins s1 σ H1 _ I1 q1) fun vl s2 ⟨l,H2,I2,pl,q2⟩=>thn (hu pins s2 σ H2 _ I2 q2) fun vu s3 ⟨u,H3,I3,pu,q3⟩=>?_)
 rw[evalPart_none]
 refine wpAny_pure ?_
 have I4:Inv X pins σ H3 {s3 with heap:=s3.heap.push {cls:=.type "slice",data:=.fields #[vl,vu,.none]} }:=I3.kept (t':=s3.toks) fun b ob q=>Heap.get?_push_of_some _ q
 obtain⟨T,id,hT,ht,hg⟩:=hr pins {s3 with heap:=s3.heap.push {cls:=.type "slice",data:=.fields #[vl,vu,.none]} } σ H3 x v vl vu l u s3.heap.objs.size Q I4 r1 (Heap.IsSliceOf.new ..) pl pu q3
 show wpAny (model X.prog X.w) X.A (subscriptTail e (.Slice lo hi none p2) v (.ref s3.heap.objs.size)) (EP X pins σ Q) X.xe {s3 with heap:=s3.heap.push {cls:=.type "slice",data:=.fields #[vl,vu,.none]} }
 exact tail_any (ops:=[.ref s3.heap.objs.size,v]) ht hT hg (by with_unfolding_all rfl)
def Aam(xs:List V)(lo hi:Option Int):List V:=(xs.drop (HT.sIx xs.length 0 lo)).take (HT.sIx xs.length xs.length hi-HT.sIx xs.length 0 lo)
theorem Wz(xs:List V)(lo hi:Option Int):(Aam xs lo hi).length≤xs.length:=by
 unfold Aam
 rw[List.length_take,List.length_drop]
 omega
end
end L2
namespace L2
open PySem Spec PyProof.Rows
def ixN(n:Nat)(i:Int):Option Nat:=if 0≤i then(if i<n then some i.toNat else none)else if -(n:Int)≤i then some (i+n).toNat else none
def atI{α:Type}(xs:List α)(i:Int):Option α:=(ixN xs.length i).bind fun j=>xs[j]?
theorem AeV{n:Nat}{i:Int}{j:Nat}(h:ixN n i=some j):seqIndex? i n=some j∧j<n∧-(n:Int)≤i∧i<n:=by
 unfold ixN at h
 by_cases h0:0≤i
 ·rw[if_pos h0]at h
  by_cases h1:i<n
  ·rw[if_pos h1]at h
   have e:i.toNat=j:=Option.some.inj h
   exact⟨by rw[seqIndex_of h0 h1,e],by omega,by omega,h1⟩
  ·rw[if_neg h1]at h;cases h
 ·rw[if_neg h0]at h
  by_cases h1:-(n:Int)≤i
  ·rw[if_pos h1]at h
   have e:(i+n).toNat=j:=Option.some.inj h
   exact⟨by rw[seqIndex_neg (by omega) h1,e],by omega,h1,by omega⟩
  ·rw[if_neg h1]at h;cases h
theorem UW{α:Type}{xs:List α}{i:Int}{v:α}(h:atI xs i=some v):∃j,seqIndex? i xs.length=some j∧xs[j]? = some v∧j<xs.length∧-(xs.length:Int)≤i∧i<xs.length:=by
 unfold atI at h
 cases e:ixN xs.length i with
 |none=>rw[e]at h;cases h
 | some j =>
  rw[e]at h
  obtain⟨h1,h2,h3,h4⟩:=AeV e
  exact⟨j,h1,h,h2,h3,h4⟩
theorem Agw{α:Type}{xs:List α}{j:Nat}{v:α}(h:xs[j]? = some v):atI xs (j:Int)=some v:=by
 have hj:j<xs.length:=(List.getElem?_eq_some_iff.mp h).1
 have e:ixN xs.length (j:Int)=some j:=by
  unfold ixN
  rw[if_pos (by omega),if_pos (by omega)];simp
 unfold atI;rw[e];exact h
def Ua(b:Expr):Prop:=∀o i,subscripted b false o i=operate [o,i] (getItem o i)
def IxR(X:Cx)(r:R2):Prop :=
 ∀(value slice:Expr)(pins:List (Addr×Obj))(s:Shared)(σ:St)(H:Hp)(x y:V)(v u:Value)(Q:VK),Inv X pins σ H s→RelV x v→RelV y u→r x y H Q →
  subscripted slice false v u=operate [v,u] (getItem v u)→wpAny (model X.prog X.w) X.A (subscriptTail value slice v u) (EP X pins σ Q) X.xe s
def MtR(X:Cx)(id:String)(r:V→List V→Hp→VK→Prop):Prop :=
 ∀(pins:List (Addr×Obj))(s:Shared)(σ:St)(H:Hp)(x:V)(xs:List V)(v:Value)(us:List Value)(Q:VK),Inv X pins σ H s→RelV x v→Vals xs us→r x xs H Q →
  wpAny (model X.prog X.w) X.A (call (.builtin id) (v::us)) (EP X pins σ Q) X.xe s
section
variable{X:Cx}{a b:Expr}{ta tb:TE}{pos:Pos}
theorem IxR.or{r r':R2}(h:IxR X r)(h':IxR X r'):IxR X (fun x y H Q=>r x y H Q∨r' x y H Q):=by
 intro value slice pins s σ H x y v u Q I rx ry q hs
 rcases q with q|q
 ·exact h value slice pins s σ H x y v u Q I rx ry q hs
 ·exact h' value slice pins s σ H x y v u Q I rx ry q hs
theorem Aj0{r:R2}(hr:IxR X r)(ha:PE X a ta)(hb:PE X b tb)(hs:Ua b):PE X (.Subscript a b pos) (tOp r ta tb):=by
 intro pins s σ H Q I h
 exact Subscript_ (Aif ha hb I h fun v u s2 x y H2 I2 rx ry q=>hr a b pins s2 σ H2 x y v u Q I2 rx ry q (hs _ _))
def AlB(K:W.Frag):R2:=fun x y H Q=>∃p xs i v,x=.ref p∧y=.int i∧SqL K H p xs∧atI xs i=some v∧Q v H
def Aks(K:W.Frag):R2:=fun x y H Q=>∃p xs i v,x=.ref p∧y=.int i∧SqT K H p xs∧atI xs i=some v∧Q v H
def Al7:R2:=fun x y H Q=>∃z i c,x=.str z∧y=.int i∧z.length≤sizeLine∧atI z.cps.toList i=some c∧Q (.str ⟨#[c]⟩) H
theorem Afc:IxR X (AlB X.K):=by
 intro value slice pins s σ H x y v u Q I rx ry h hs
 obtain⟨p,xs,i,z,rfl,rfl,hq,he,q⟩:=h
 cases rx
 obtain⟨t,rfl⟩:=ry
 obtain⟨its,r,pl,hz⟩:=I.list hq
 obtain⟨j,h1,h2,h3,h4,h5⟩:=UW he
 obtain⟨w,ew,rw'⟩:=r.get h2
 have hl:=r.length
 have hn:=Uk
 have fin:EP X pins σ Q w s:=⟨z,H,I,rw',q⟩
 by_cases h0:0≤i
 ·have hj:i.toNat=j:=by
   rw[seqIndex_of h0 h5]at h1
   exact Option.some.inj h1
  exact item_listR pl.isList h0 (by omega) (by rw[hj];simpa using ew) fin hs
 ·have hj:(i+(its.toArray.size:Int)).toNat=j:=by
   rw[seqIndex_neg (by omega) h4]at h1
   rw[List.size_toArray,←hl]
   exact Option.some.inj h1
  exact subscriptTail_builtinR (x:=w) pl.isList.typeIs slot_list_getitem.lookup
   (wpAny_getItem_list_neg (Q:=fun r s'=>r=w∧EP X pins σ Q r s') pl.isList (by omega) (by rw[List.size_toArray]<;>omega) (by omega) (by rw[hj];simpa using ew) ⟨rfl,fin⟩) hs
theorem Ahy:IxR X (Aks X.K):=by
 intro value slice pins s σ H x y v u Q I rx ry h hs
 obtain⟨p,xs,i,z,rfl,rfl,hq,he,q⟩:=h
 cases rx
 obtain⟨t,rfl⟩:=ry
 obtain⟨its,r,pl,hz⟩:=I.tuple hq
 obtain⟨j,h1,h2,h3,h4,h5⟩:=UW he
 obtain⟨w,ew,rw'⟩:=r.get h2
 have hl:=r.length
 have hn:=Uk
 have fin:EP X pins σ Q w s:=⟨z,H,I,rw',q⟩
 exact subscriptTail_builtinR (x:=w) pl.typeIs slot_tuple_getitem.lookup
  (getItem_tuple (j:=j) (Q:=fun r s'=>r=w∧EP X pins σ Q r s') pl (by omega) (by omega) (by rw[List.size_toArray,←hl];exact h1) (by simpa using ew) ⟨rfl,fin⟩) hs
theorem Aiy:IxR X Al7:=by
 intro value slice pins s σ H x y v u Q I rx ry h hs
 obtain⟨z,i,c,rfl,rfl,hz,he,q⟩:=h
 obtain⟨t,rfl⟩:=rx
 obtain⟨t',rfl⟩:=ry
 obtain⟨j,h1,h2,h3,h4,h5⟩:=UW he
 have hl:z.cps.toList.length=z.length:=by simp[Str.length]
 rw[hl]at h1 h4 h5
 have hn:=Uk
 exact tail_any (typeIs_str s z t) slot_str_getitem.lookup (getItem_str (c:=c) (by
  have e1:decide (i < -(2 ^ 63:Int))=false:=decide_eq_false (by omega)
  have e2:decide (i≥2 ^ 63)=false:=decide_eq_false (by omega)
  rw[e1,e2,Bool.or_false]) (by rw[h1];simpa using h2) ⟨.str ⟨#[c]⟩,H,I.tok _,⟨_,rfl⟩,q⟩) hs
def rIx(K:W.Frag):R2:=fun x y H Q=>AlB K x y H Q∨Aks K x y H Q∨Al7 x y H Q
theorem AiQ:IxR X (rIx X.K):=Afc.or (Ahy.or Aiy)
theorem Uv(lo hi:Option Int)(n:Nat):(sliceBounds lo hi none n).1=((HT.sIx n 0 lo:Nat):Int)∧(sliceBounds lo hi none n).2.1=((HT.sIx n n hi:Nat):Int)∧(sliceBounds lo hi none n).2.2=1:=by
 refine⟨?_,?_,rfl⟩
 ·cases lo with
  |none=>simp[sliceBounds,HT.sIx]
  | some i =>
   simp only[sliceBounds,HT.sIx,Option.getD_none,show(1:Int)>0 by decide,if_true]
   by_cases h:i<0
   ·simp only[h,if_true]<;>omega
   ·simp only[h,if_false]<;>omega
 ·cases hi with
  |none=>simp[sliceBounds,HT.sIx]
  | some i =>
   simp only[sliceBounds,HT.sIx,Option.getD_none,show(1:Int)>0 by decide,if_true]
   by_cases h:i<0
   ·simp only[h,if_true]<;>omega
   ·simp only[h,if_false]<;>omega
theorem Rv(its:List Value)(lo hi:Option Int):slicePick its.toArray lo hi none=((its.drop (HT.sIx its.length 0 lo)).take (HT.sIx its.length its.length hi-HT.sIx its.length 0 lo)).toArray:=by
 obtain⟨h1,h2,h3⟩:=Uv lo hi its.toArray.size
 unfold slicePick
 rw[h1,h2,h3]
 simp only[sliceRange_one,pick_run,List.size_toArray]<;>rfl
def Anc(K:W.Frag):V→Option Int→Option Int→Hp→VK→Prop:=fun x lo hi H Q=>∃a xs,x=.ref a∧SqL K H a xs∧∀p,H p=none→Q (.ref p) (upd H p (.lst (Aam xs lo hi)))
theorem Agg:SlR X (Anc X.K):=by
 intro pins s σ H x v vl vu lo hi sl Q I rx hs pl pu h
 obtain⟨a,xs,rfl,hx,q⟩:=h
 cases rx
 obtain⟨its,r,ht,hz⟩:=I.list hx
 have hlen:=r.length
 refine⟨"list",_,slot_list_getitem.lookup,ht.isList.typeIs,?_⟩
 refine wpAny_getItem_list_slice ht.isList hs pl pu .none (by simp) ?_ (by rw[List.size_toArray]<;>omega)
 rw[Rv,←hlen]
 refine⟨.ref s.heap.objs.size,_,I.laid (t':=s.toks) (o:=.lst (Aam xs lo hi)) (fun b ob q=>Heap.get?_push_of_some _ q) (Nat.le_refl _) ?_,rfl,q _ (I.hok.fresh (Nat.le_refl _))⟩
 exact⟨Nat.le_trans (Wz xs lo hi) hz,_,0,(r.drop (HT.sIx xs.length 0 lo)).take (HT.sIx xs.length xs.length hi-HT.sIx xs.length 0 lo),Heap.get?_push_size _ rfl⟩
theorem Um:JH X (.builtin "len") (fun xs H Q=>∃p ys,xs=[.ref p]∧(SqL X.K H p ys∨SqT X.K H p ys)∧Q (.int ys.length) H):=by
 intro pins s σ H xs us Q I r h
 obtain⟨p,ys,rfl,hq,q⟩:=h
 obtain⟨u,rfl,rx⟩:=vals1 r
 cases rx
 have hn:=Uk
 rcases hq with hq|hq
 ·obtain⟨its,r',pl,hz⟩:=I.list hq
  have hlen:=r'.length
  exact Calls.call_len_list pl.isList (by simp only[List.size_toArray]<;>omega) ⟨.int ys.length,H,I.tok _,⟨s.toks+1,by rw[List.size_toArray,hlen]⟩,q⟩
 ·obtain⟨its,r',pl,hz⟩:=I.tuple hq
  have hlen:=r'.length
  exact len_tuple pl (by simp only[List.size_toArray]<;>omega) ⟨.int ys.length,H,I.tok _,⟨s.toks+1,by rw[List.size_toArray,hlen]⟩,q⟩
def tyV(K:W.Frag)(T:String)(x:V)(H:Hp):Prop:=match x with
 |.str _=>T="str"
 |.int _=>T="int"
 | .ref p=>(T="list"∧∃xs,SqL K H p xs)∨(T="tuple"∧∃o,K.lookup p=some o∧o.cls=.type "tuple"∧o.dict=none) ∨
   (T="dict"∧((∃kvs,H p=some (.dK kvs))∨∃kvs,H p=some (.dT kvs)))∨(T="set"∧∃S n,H p=some (.set S n))
 |_=>False
theorem Acf{pins:List (Addr×Obj)}{σ:St}{H:Hp}{s:Shared}{T:String}{x:V}{v:Value}(I:Inv X pins σ H s)(r:RelV x v)(ty:tyV X.K T x H) :
  s.TypeIs v T∧∀a,v=.ref a→∃ob,s.heap.get? a=some ob∧ob.dict=none:=by
 cases x with
 | str z =>
  obtain⟨t,rfl⟩:=r
  cases(show T="str" from ty)
  exact⟨typeIs_str s z t,fun _ e=>nomatch e⟩
 | int i =>
  obtain⟨t,rfl⟩:=r
  cases(show T="int" from ty)
  exact⟨typeIs_int s i t,fun _ e=>nomatch e⟩
 | ref p =>
  cases r
  rcases ty with⟨rfl,xs,hq⟩|⟨rfl,o,hk,hc,hd⟩|⟨rfl,hk⟩|⟨rfl,S,n,hk⟩
  ·obtain⟨its,_,pl,_⟩:=I.list hq
   refine⟨pl.isList.typeIs,fun a e=>?_⟩
   cases e
   obtain⟨o,n,e,c,hd,_⟩:=pl
   exact⟨o,e,hd⟩
  ·refine⟨⟨o,I.kIn p o hk,hc⟩,fun a e=>?_⟩
   cases e
   exact⟨o,I.kIn _ o hk,hd⟩
  ·have z:∃o,s.heap.get? p=some o∧o.ExactDict:=by
    rcases hk with⟨kvs,hk⟩|⟨kvs,hk⟩
    ·obtain⟨_,_,_,_,o,_,_,e,ex,_⟩:=I.hok p _ hk
     exact⟨o,e,ex⟩
    ·obtain⟨_,_,_,_,o,_,_,e,ex,_⟩:=I.hok p _ hk
     exact⟨o,e,ex⟩
   obtain⟨o,e,ex⟩:=z
   refine⟨⟨o,e,ex.1⟩,fun a e2=>?_⟩
   cases e2
   exact⟨o,e,ex.2.1⟩
  ·obtain⟨o,_,_,_,e,ex,_⟩:=I.hok p _ hk
   refine⟨⟨o,e,ex.1⟩,fun a e2=>?_⟩
   cases e2
   exact⟨o,e,ex.2.1⟩
 |_=>exact False.elim ty
def AmB(K:W.Frag)(T:String)(r:V→List V→Hp→VK→Prop)(to:TE):TE:=fun σ H Q=>to σ H fun x H1=>tyV K T x H1∧r x [] H1 Q
def tBM(K:W.Frag)(T:String)(r:V→List V→Hp→VK→Prop)(to:TE)(t:TA):TE:=fun σ H Q=>to σ H fun x H1=>tyV K T x H1∧t σ H1 fun xs H2=>r x xs H2 Q
variable{o e:Expr}{es:List Expr}{to:TE}{t:TA}{name:Str}{apos cpos:Pos}{T id:String}{r:V→List V→Hp→VK→Prop}
theorem Xi(pa:PlainAttrs T)(slot:Slot T name id)(hty:typeOf (.builtin id)=pure (.type "method_descriptor"))(hm:MtR X id r)(ho:PE X o to)
  (hbase:attributeBase o name X.env (eval o X.env)=eval o X.env:=by rfl) (hline:(apos.endLine==cpos.line)=true:=by rfl):PE X (.Call (.Attribute o name apos) [] [] cpos) (AmB X.K T r to):=by
 intro pins s σ H Q I h
 refine wpAny_Call_method0_late hbase hline (thn (ho pins s σ H _ I h) fun v s1 ⟨x,H1,I1,r1,ty,q1⟩=>?_)
 obtain⟨h1,h2⟩:=Acf I1 r1 ty
 exact⟨T,id,pa,slot,hty,h1,h2,Calls.callWith_builtin rfl (PySem.evalArgs_none (hm pins s1 σ H1 x [] v [] Q I1 r1 .nil q1))⟩
theorem Ag5(pa:PlainAttrs T)(slot:Slot T name id)(hty:typeOf (.builtin id)=pure (.type "method_descriptor"))(hm:MtR X id r)(ho:PE X o to)(ha:PA X (e::es) t)
  (hbase:attributeBase o name X.env (eval o X.env)=eval o X.env:=by rfl)
  (hfew:((backTo cpos (starEach (e::es) X.env)).all (fun x=>!x.1)&&(backToKw cpos (keywordEach [] X.env)).all (fun x=>x.1.isSome)
   && decide ((e::es).length+([]:List Keyword).length+(if([]:List Keyword).isEmpty then 0 else 1)<30))=true:=by rfl)
  (hline:(apos.endLine==cpos.line)=true:=by rfl) (hs:starEach (e::es) X.env=(false,eval e X.env)::starEach es X.env:=by rfl) (hplain:(backTo cpos (starEach es X.env)).any (·.1)=false:=by rfl) :
  PE X (.Call (.Attribute o name apos) (e::es) [] cpos) (tBM X.K T r to t):=by
 intro pins s σ H Q I h
 refine wpAny_Call_method_late hbase hfew hline rfl (thn (ho pins s σ H _ I h) fun v s1 ⟨x,H1,I1,r1,ty,q1⟩=>?_)
 obtain⟨h1,h2⟩:=Acf I1 r1 ty
 refine⟨T,id,pa,slot,hty,h1,h2,?_⟩
 have hA:=ha cpos pins s1 σ H1 _ I1 q1
 rw[hs]at hA ⊢
 refine Calls.callWith_builtin (by show(false||(backTo cpos (starEach es X.env)).any (·.1))=false;rw[hplain]<;>rfl) (Calls.evalArgs_plain ?_)
 exact thn hA fun us s2 ⟨vs,H2,I2,r2,q2⟩=>hm pins s2 σ H2 x vs v us Q I2 r1 r2 q2
end
end L2
namespace L2
open PySem Spec PyProof.Rows
def MtM(X:Cx)(id:String)(r:V→List V→Hp→VK→Prop):Prop :=
 ∀(pins:List (Addr×Obj))(s:Shared)(σ:St)(H:Hp)(x:V)(xs:List V)(v:Value)(us:List Value)(Q:VK),Inv X pins σ H s→RelV x v→Vals xs us→r x xs H Q →
  wpAny (model X.prog X.w) X.A (call (.builtin id) (v::us)) (EP X pins σ Q) X.xe s
theorem Vals.one:∀{x:V} {us:List Value},Vals [x] us→∃u,us=[u]∧RelV x u
 |_,_,.cons r .nil=>⟨_,rfl,r⟩
theorem Vals.zero:∀{us:List Value},Vals [] us→us=[]
 |_,.nil=>rfl
theorem Vals.dropLast{xs:List V}{us:List Value}(h:Vals xs us):Vals xs.dropLast us.dropLast:=by
 induction h with
 |nil=>exact .nil
 | cons r t ih =>
  cases t with
  |nil=>exact .nil
  |cons q t'=>exact .cons r ih
theorem Yi{α:Type}(l:List α):l.eraseIdx (l.length-1)=l.dropLast:=by
 induction l with
 |nil=>rfl
 | cons a r ih =>
  cases r with
  |nil=>rfl
  | cons b r =>
   have e:(a::b::r).length-1=((b::r).length-1)+1:=by
    have h1:(a::b::r).length=r.length+2:=rfl
    have h2:(b::r).length=r.length+1:=rfl
    omega
   rw[e,List.eraseIdx_cons_succ,ih]
   all_goals rfl
section
variable{X:Cx}{pins:List (Addr×Obj)}{σ:St}{H:Hp}{s:Shared}{l b:Addr}{xs ys zs:List V}
theorem Inv.pY{its its':List Value}{n:Nat}{f:Array Value→Array Value}{t':Nat}(I:Inv X pins σ H s)(hH:H l=some (.lst xs))
  (e:s.heap.get? l=some {cls:=.type "list",data:=.seq its.toArray n}) (hf:f its.toArray=its'.toArray) (hv:Vals ys its') (hz:ys.length≤sizeLine) :
  Inv X pins σ (upd H l (.lst ys)) {s with heap:=s.heap.update l (Obj.mapSeq f),toks:=t'}:=by
 have q:=PySem.IsL.update e f
 rw[hf]at q
 refine I.write (x:=l) (e:=l) (by rw[hH];exact trivial) (.inl rfl) (fun b' u hb hu=>(Heap.get?_update_other s.heap (Obj.mapSeq f) (Ne.symm hb)).trans hu) ⟨_,q⟩ ?_
 exact⟨hz,its',_,hv,q⟩
theorem Inv.qP{its:List Value}{t':Nat}(I:Inv X pins σ H s)(hv:Vals ys its)(hz:ys.length≤sizeLine) :
  Inv X pins σ (upd H s.heap.objs.size (.lst ys)) {s with heap:=s.heap.push {cls:=.type "list",data:=.seq its.toArray},toks:=t'} :=
 I.laid (fun _ _ q=>Heap.get?_push_of_some _ q) (Nat.le_refl _) ⟨hz,its,0,hv,Heap.get?_push_size _ rfl⟩
theorem Inv.fresh(I:Inv X pins σ H s):H s.heap.objs.size=none:=I.hok.fresh (Nat.le_refl _)
theorem Inv.oY(I:Inv X pins σ H s)(hH:H l=some (.lst xs)):xs.length≤sizeLine∧∃(its:List Value)(n:Nat),Vals xs its∧xs.length=its.length∧s.heap.get? l=some {cls:=.type "list",data:=.seq its.toArray n}:=by
 obtain⟨z,its,n,r,e⟩:=I.hok l _ hH
 exact⟨z,its,n,r,r.length,e⟩
theorem Abo{n:Nat}(h:n≤sizeLine):Builtin.List.listTooLong n=false:=by
 unfold Builtin.List.listTooLong
 exact decide_eq_false (by omega)
end
section
variable{X:Cx}
def Af9:V→List V→Hp→VK→Prop:=fun x vs H Q=>∃l xs y,x=.ref l∧vs=[y]∧H l=some (.lst xs)∧xs.length<sizeLine∧Q .non (upd H l (.lst (xs++[y])))
theorem Mv:MtM X "list.append" Af9:=by
 intro pins s σ H x vs v us Q I rx rv h
 obtain⟨l,xs,y,rfl,rfl,hH,hz,q⟩:=h
 cases rx
 obtain⟨u,rfl,ru⟩:=rv.one
 obtain⟨z,its,n,r,hl,e⟩:=I.oY hH
 refine call_meets F.slot_list_append ⟨_,e,rfl⟩ F.entry_list_append (F.args_list_append_2 _ _) (PySem.list_append l its.toArray n u (by rw[List.size_toArray];omega)) ⟨e,?_⟩
 refine⟨.non,_,I.pY (its':=its++[u]) hH e (by simp) (r.append (.cons ru .nil)) ?_,rfl,q⟩
 rw[List.length_append,List.length_singleton]
 omega
def Af6:V→List V→Hp→VK→Prop:=fun x vs H Q=>∃l b xs zs,x=.ref l∧vs=[.ref b]∧H l=some (.lst xs)∧H b=some (.lst zs)∧xs.length+zs.length≤sizeLine∧Q .non (upd H l (.lst (xs++zs)))
theorem Abk:MtM X "list.extend" Af6:=by
 intro pins s σ H x vs v us Q I rx rv h
 obtain⟨l,b,xs,zs,rfl,rfl,hH,hB,hz,q⟩:=h
 cases rx
 obtain⟨u,rfl,ru⟩:=rv.one
 cases ru
 obtain⟨z,its,n,r,hl,e⟩:=I.oY hH
 obtain⟨z2,its2,n2,r2,hl2,e2⟩:=I.oY hB
 have hsz:its.toArray.size+its2.toArray.size≤sizeLine:=by rw[List.size_toArray,List.size_toArray];omega
 have qQ:¬(!its.toArray.isEmpty&&Builtin.List.listTooLong (its.toArray.size+its2.toArray.size))=true:=by
  rw[Abo hsz,Bool.and_false]
  exact Bool.false_ne_true
 refine call_meets F.slot_list_extend ⟨_,e,rfl⟩ F.entry_list_extend (F.args_list_extend_2 _ _)
  (AutoSeq1.list_extend_list_list_0 l its.toArray n b its2.toArray n2 qQ (by rw[List.size_toArray];omega) (by omega)) ⟨e,e2,?_⟩
 refine⟨.non,_,I.pY (its':=its++its2) hH e (by simp) (r.append r2) ?_,rfl,q⟩
 rw[List.length_append]
 omega
def AnJ:V→List V→Hp→VK→Prop:=fun x vs H Q=>∃l xs y,x=.ref l∧vs=[]∧H l=some (.lst xs)∧xs[xs.length-1]? = some y∧Q y (upd H l (.lst xs.dropLast))
theorem AmT:MtM X "list.pop" AnJ:=by
 intro pins s σ H x vs v us Q I rx rv h
 obtain⟨l,xs,y,rfl,rfl,hH,hy,q⟩:=h
 cases rx
 have hus:=rv.zero
 subst hus
 obtain⟨z,its,n,r,hl,e⟩:=I.oY hH
 obtain⟨u,hu,ru⟩:=r.get hy
 have hy':its.toArray[its.toArray.size-1]? = some u:=by
  show its.toArray[its.length-1]? = some u
  rw[←Array.getElem?_toList,←hl]
  exact hu
 refine call_meets F.slot_list_pop ⟨_,e,rfl⟩ F.entry_list_pop (F.args_list_pop_1 _) (MeetsSeq.list_pop_last l its.toArray n u hy' (by rw[List.size_toArray];omega)) ⟨e,?_⟩
 refine⟨y,_,I.pY (its':=its.dropLast) hH e ?_ r.dropLast ?_,ru,q⟩
 ·show its.toArray.eraseIdxIfInBounds (its.toArray.size-1)=its.dropLast.toArray
  rw[List.size_toArray,List.eraseIdxIfInBounds_toArray,Yi]
 ·rw[List.length_dropLast]
  omega
def AhE:V→List V→Hp→VK→Prop:=fun x vs H Q=>∃l xs,x=.ref l∧vs=[]∧H l=some (.lst xs)∧Q .non (upd H l (.lst []))
theorem Adu:MtM X "list.clear" AhE:=by
 intro pins s σ H x vs v us Q I rx rv h
 obtain⟨l,xs,rfl,rfl,hH,q⟩:=h
 cases rx
 have hus:=rv.zero
 subst hus
 obtain⟨z,its,n,r,hl,e⟩:=I.oY hH
 refine call_meets F.slot_list_clear ⟨_,e,rfl⟩ F.entry_list_clear (F.args_list_clear_1 _) (AutoSeq1.list_clear_list_0 l its.toArray n (by rw[List.size_toArray];omega)) ⟨e,?_⟩
 exact⟨.non,_,I.pY (its':=[]) (ys:=[]) hH e rfl .nil (Nat.zero_le _),rfl,q⟩
end
section
variable{prog:Program}{w:World}{A:Around}{E:Value→Shared→Prop}{s:Shared}
set_option maxRecDepth 100000 in
end
section
variable{X:Cx}
end
end L2
namespace Att
open PySem W Calls PyProof.Rows
theorem Om{P:Params}{h:Heap}:∀(ns:List Int)(vs:List Value),WellAll P h vs (ns.map WData.int)→IntsAre vs ns:=by
 intro ns
 induction ns with
 | nil =>
  intro vs w
  rw[List.map_nil]at w
  cases w
  exact .nil
 | cons n ns ih =>
  intro vs w
  rw[List.map_cons]at w
  cases w with
  | cons a b =>
   cases a
   exact .cons _ _ (ih _ b)
theorem AaE{l:OpenLaw}{n:Nat}(hn:l.most=some n){P:Params}{h:Heap}{args:List WData}{vals:List Value}
  (hpre:l.row.toRowW.claim.pre args=true) (hwl:WellAll P h vals args) :
  ∃a vs ns,vals=[Value.ref a]∧args=[WData.list (ns.map WData.int)]∧h.get? a=some {cls:=.type "list",data:=.seq vs.toArray}∧IntsAre vs ns∧ns.length≤n:=by
 have hsh:WShape.hasAll [] args [.list .int]=true:=(pre_splitW hpre).1
 have hc:l.pre.holds [] {args:=args}=true:=(pre_splitW hpre).2
 obtain⟨d,r,rfl,h1,h2⟩:=hasAllW_cons hsh
 obtain rfl:=hasAllW_nil h2
 obtain⟨xs,rfl,h3⟩:=hasW_list h1
 obtain⟨ns,rfl⟩:=items_int h3
 have hlen:ns.length≤n:=by
  unfold OpenLaw.pre at hc
  have h4:(WTm.not (.lt (.lit (.int (n:Int))) (.len (.arg 0)))).holds [] {args:=[.list (ns.map .int)]}=true:=by
   have h4:=(holds_andW hc).1
   rw[hn]at h4
   exact h4
  have h5:=condW_of h4 (w_not (w_lt w_lit (w_len_list (w_arg rfl))))
  rw[List.length_map]at h5
  refine Nat.le_of_not_lt fun q=>?_
  have q':(n:Int)<((ns.length:Nat):Int):=by omega
  first
   |(rw[decide_eq_true q']at h5;exact absurd h5 (by decide))
   |(simp at h5;omega)
 cases hwl with
 | cons w1 w2 =>
  cases w2
  cases w1 with
  |list ho hall=>exact⟨_,_,ns,rfl,rfl,ho,Om ns _ hall,hlen⟩
theorem Abi(l:OpenLaw)(args:List WData):l.row.toRowW.claim.post args (.bool true) args=true :=
 postW_of (r:=l.row.toRowW) (X:=(true==true))
  (show WShape.has [] (.bool true) .bool=true by first|rfl|decide|simp[WShape.has,WShape.arms,WShape.armsAll])
  (show(WTm.eq .res (.lit (.bool true))).value [] {args:=args,res:=some (.bool true),after:=args}=some (.bool (true==true))from w_eq_bool (w_res rfl) w_lit) rfl
theorem Vd{l:OpenLaw}{n:Nat}{q:Program}{loose:List Str}{XP:(Str→Option Value)→Heap→Prop}{YP:World→Heap→Prop}{d:DefRec}
  (hn:l.most=some n) (hdf:d.params.defaults=[])
  (call:∀(w:World)(s₀ s₁:Shared)(mg mb:Str→Option Value)(fa:Addr)(o:Obj)(pm cd doc:Value)(a:Addr)(vs:List Value)(ns:List Int),
   Ground q loose [] XP w s₀ mg mb s₁.heap→YP w s₁.heap →
   s₁.heap.get? fa=some o→o.data=.func (docDef d.name d.params d.body d.scope pm cd doc)→s₁.heap.CodeRec cd d.name→mg d.name=some (.ref fa) →
   s₁.heap.get? a=some {cls:=.type "list",data:=.seq vs.toArray}→IntsAre vs ns→ns.length≤n→s₁.gens=#[] →
   codeAny (model l.prog w) callerA (.call (.ref fa) ⟨[.ref a],[]⟩) (fun r s'=>r=.ok (.ret (.bool true))∧OldK s₁.heap s'.heap∧s'.os=s₁.os∧AllBare s'.gens) s₁) :
  WalkO q loose XP YP l.row.toRowW d [] (fun f vs=>PySem.call f vs):=by
 intro w s₀ s₁ mg mb G Y fa o pm cd doc dV kV ho hd hcd hD hmg hg args vals as hpre hlay hrd hwl hlo
 obtain rfl:dV=.none:=Dflts.none hD hdf
 obtain rfl:kV=.none:=Dflts.noKw hD
 obtain⟨a,vs,ns,rfl,rfl,hobj,hints,hlen⟩:=AaE hn hpre hwl
 refine enter_call (codeAny_mono (call w s₀ s₁ mg mb fa o pm cd doc a vs ns G Y ho (fd_plain hd) hcd hmg hobj hints hlen hg) fun r s' hq=>?_)
 obtain⟨rfl,h2,h3,h4⟩:=hq
 exact⟨.inl ⟨.bool true,.bool true,[],rfl,fun _=>rfl,.bool true,Abi l _,fun _=>⟨List.Pairwise.nil,fun _ hm=>(nomatch hm)⟩⟩,h2,h3,h4⟩
section
variable{prog:Program}{w:World}{A:Around}{E:Value→Shared→Prop}{s:Shared}{K:Frag}
def ledger(h:Heap)(L d:Addr):List (Addr×Obj):=(List.range h.objs.size).filterMap fun a=>if a=L∨a=d then none else(h.get? a).map fun o=>(a,o)
end
end Att
namespace L2
open PySem Spec PyProof.Rows
theorem RP:∀{vs:List Value} {ns:List Int},IntsAre vs ns→Vals (ns.map V.int) vs
 |_,_,.nil=>.nil
 |_,_,.cons n t h=>.cons ⟨t,rfl⟩ (RP h)
def Only(H:Hp):Prop:=∀b,H b=none∨∃o xs,H b=some (.frz o (.lst xs))
theorem AdP{P:Program}{w:World}{K:W.Frag}{mg mb:Str→Option Value}{CX:CXT}{k:Nat}{fa a:Addr}{fd:FuncData}{x:Str}{sp:Sp}{s₁:Shared}{vs:List Value}{ns:List Int}
  (KX:K.In s₁.heap) (hns:s₁.heap.Ns mainGlobals mg) (hb:s₁.heap.Ns builtinsNs mb) (hbb:∀x:Str,x≠"__name__"→mb x=bootBuiltins x) (hlim:s₁.heap.NoLimit) (hg:s₁.gens=#[])
  (ha:s₁.heap.get? a=some {cls:=.type "list",data:=.seq vs.toArray}) (hi:IntsAre vs ns) (hl:ns.length≤sizeLine) (hr:Em k callerA)
  (F:∀base:Heap,K.In base→base.Ns mainGlobals mg→Ho P w K mg base CX k fa fd [x] sp) (hbind:∀(s:Shared)(u:Value),BindsTo s fd ⟨[u],[]⟩ [(x,u)])
  (hsp:∀H:Hp,Only H→SqL K H a (ns.map V.int)→sp [.ref a] H (fun v _=>v=.bl true) fun _ _ _=>False)
  (hCX:∀H e s',CX [] H s₁ (fun _ _ _=>False) e s'→False) :
  codeAny (model P w) callerA (.call (.ref fa) ⟨[.ref a],[]⟩) (fun r s'=>r=.ok (.ret (.bool true))∧OldK s₁.heap s'.heap∧s'.os=s₁.os∧AllBare s'.gens) s₁:=by
 have rv:=RP hi
 have lenV:=hi.length
 have core:∀H:Hp,Only H→SqL K H a (ns.map V.int)→HOk P w H s₁.heap→(∀b,H b≠none→b=a)→(H a≠none→K.lookup a=none) →
   codeAny (model P w) callerA (.call (.ref fa) ⟨[.ref a],[]⟩) (fun r s'=>r=.ok (.ret (.bool true))∧OldK s₁.heap s'.heap∧s'.os=s₁.os∧AllBare s'.gens) s₁:=by
  intro H hO hS hok hA hK
  have nG:∀{b:Addr} {o:Obj},s₁.heap.get? b=some o→H b=none→(U3 s₁.heap H).get? b=some o:=fun e n=>Adk e n
  have noA:∀{b:Addr} {o:Obj} {es:Array DictEntry} {ep:Nat},s₁.heap.get? b=some o→o.data=.dict es ep→H b=none:=fun{b o es ep} e d=>by
   cases q:H b with
   |none=>rfl
   | some u =>
    have e':b=a:=hA b (by rw[q];simp)
    subst e'
    rw[ha]at e;cases e
    have d':Data.seq vs.toArray _=Data.dict es ep:=d
    cases d'
  have nsK:∀{b:Addr} {m:Str→Option Value},s₁.heap.Ns b m→(U3 s₁.heap H).Ns b m:=fun{b m} ⟨o,es,ep,e,d,r⟩=>⟨o,es,ep,nG e (noA e d),d,r⟩
  have hKb:K.In (U3 s₁.heap H):=fun b o e=>nG (KX b o e) (by
   cases q:H b with
   |none=>rfl
   | some u =>
    have e':b=a:=hA b (by rw[q];simp)
    subst e'
    rw[hK (by rw[q];simp)]at e;cases e)
  have hM:Mod K mg (U3 s₁.heap H):=⟨hKb,nsK hns,⟨mb,nsK hb,hbb⟩,let ⟨mc,h1,h2⟩:=hlim;⟨mc,nsK h1,h2⟩⟩
  have e0:W3 P w K mg (U3 s₁.heap H) callerA [] s₁ H:=⟨rfl,hM,fun b o e=>Aei e,Nat.le_of_eq (AaF _ _),trivial,fun b hb=>absurd (show b∈([]:List Addr)from hb) (by simp),hok,.of_eq hg⟩
  refine codeAny_mono ((F _ hKb (nsK hns)).run callerA [] s₁ H ⟨[.ref a],[]⟩ [.ref a] [.ref a] _ _ hr e0 (hbind s₁ (.ref a)) (.cons rfl .nil) (hsp H hO hS)) fun r s' h=>?_
  cases r with
  |error e=>exact(hCX H e s' h).elim
  | ok fl =>
   cases fl with
   |next=>exact False.elim h
   |brk=>exact False.elim h
   |cont=>exact False.elim h
   | ret u =>
    obtain⟨v,H',os,bare,un,hok',r',q⟩:=h
    have q':v=.bl true:=q
    subst q'
    obtain rfl:u=Value.bool true:=r'
    refine⟨rfl,OldK.of_keep fun b o e=>?_,os,bare⟩
    cases q:H b with
    |none=>exact un.keep b o e q (by intro z;exact absurd (show b∈([]:List Addr)from z) (by simp)) (by simp)
    | some u =>
     rcases hO b with z|⟨ob,xs,z⟩
     ·rw[q]at z;cases z
     ·have z2:=un.fM b ob _ z
      obtain⟨e1,_⟩:=hok b _ z
      obtain⟨e2,_⟩:=hok' b _ z2
      rw[e]at e1;cases e1
      exact e2
 cases hk:K.lookup a with
 | some o =>
  have e:=KX a o hk
  rw[ha]at e
  cases e
  refine core (fun _=>none) (fun _=>.inl rfl) (.inr ⟨_,vs.toArray,_,hk,rfl,rfl,rfl,by rw[List.size_toArray,lenV];exact hl,by simpa using rv⟩) (fun b u z=>by have z':(none:Option HO)=some u:=z;cases z') (fun b z=>absurd rfl z) fun z=>absurd rfl z
 | none =>
  refine core (fun b=>if b=a then some (.frz {cls:=.type "list",data:=.seq vs.toArray} (.lst (ns.map V.int)))else none) (fun b=>?_) (.inl (.inr ⟨{cls:=.type "list",data:=.seq vs.toArray},if_pos rfl⟩)) (fun b u z=>?_) (fun b z=>?_) fun _=>hk
  ·by_cases hb:b=a
   ·exact .inr ⟨_,_,if_pos hb⟩
   ·exact .inl (if_neg hb)
  ·by_cases hb:b=a
   ·have z':=(if_pos hb).symm.trans z
    cases z'
    subst hb
    exact⟨ha,by rw[List.length_map];exact hl,vs,_,rv,ha⟩
   ·have z':=(if_neg hb).symm.trans z
    cases z'
  ·by_cases hb:b=a
   ·exact hb
   ·exact absurd (if_neg hb) z
end L2
namespace L2
open PySem Spec PyProof.Rows
abbrev KOf{K:W.Frag}{h:Heap}(_:K.In h):W.Frag:=K
theorem AfH{l:W.OpenLaw}{n k:Nat}{q:Program}{loose:List Str}{XP:(Str→Option Value)→Heap→Prop}{YP:World→Heap→Prop}{d:DefRec}{K:Params→W.Frag}{CX:World→CXT}{sp:World→Sp}{x:Str}
  (hn:l.most=some n) (hn2:n≤sizeLine) (hdf:d.params.defaults=[]) (hr:Em k callerA)
  (hY:∀(w:World)(h:Heap),YP w h→(K w.params).In h)
  (F:∀(w:World)(mg:Str→Option Value)(fa:Addr)(h:Heap),(K w.params).In h→h.Ns mainGlobals mg→mg d.name=some (.ref fa) →
   ∃fd:FuncData,(∀(s:Shared)(u:Value),BindsTo s fd ⟨[u],[]⟩ [(x,u)]) ∧
    ∀base:Heap,(K w.params).In base→base.Ns mainGlobals mg→Ho l.prog w (K w.params) mg base (CX w) k fa fd [x] (sp w))
  (hsp:∀(w:World)(H:Hp)(a:Addr)(ns:List Int),ns.length≤n→Only H→SqL (K w.params) H a (ns.map V.int)→sp w [.ref a] H (fun v _=>v=.bl true) fun _ _ _=>False)
  (hCX:∀(w:World)(H:Hp)(s:Shared)(e:Value)(s':Shared),CX w [] H s (fun _ _ _=>False) e s'→False) :
  W.WalkO q loose XP YP l.row.toRowW d [] (fun f vs=>PySem.call f vs):=by
 refine Att.Vd hn hdf fun w s₀ s₁ mg mb fa o pm cd doc a vs ns G Y ho hd hcd hmg hobj hints hlen hg=>?_
 have KX:=hY w _ Y
 obtain⟨fd,hb,hF⟩:=F w mg fa _ KX G.T.g hmg
 exact AdP KX G.T.g G.T.b G.T.builtins G.T.nolimit hg hobj hints (Nat.le_trans hlen hn2) hr hF hb (fun H hO hS=>hsp w H a ns hlen hO hS) fun H e s'=>hCX w H s₁ e s'
end L2
namespace L2
open PySem Spec PyProof.Rows
def inClass(s:Stmt)(j:Nat):Stmt:=match s with
 |.ClassDef _ _ _ body _ _ _ _ _ _ _=>body.getD j (.Pass ⟨0,0,0,0⟩)
 |_=>.Pass ⟨0,0,0,0⟩
def Ek(s:Stmt):Arguments:=match s with
 |.FunctionDef _ a _ _ _ _ _ _ _ _=>a
 |_=>{posonlyargs:=[],args:=[],vararg:=none,kwonlyargs:=[],kw_defaults:=[],kwarg:=none,defaults:=[]}
def Du(s:Stmt):List Stmt:=match s with
 |.FunctionDef _ _ b _ _ _ _ _ _ _=>b
 |_=>[]
def Ai(s:Stmt):Scope:=match s with
 |.FunctionDef _ _ _ _ _ _ sc _ _ _=>sc
 |_=>{kind:=.function,names:=[],isGenerator:=false,isCoroutine:=false}
abbrev CX0:CXT:=fun _ _ _ _ _ _=>False
abbrev E0:XK:=fun _ _ _=>False
theorem Sw{X:Cx}:Passes CX0 X E0:=fun _ _ _ _ _ _ _ h=>h.elim
structure Fun(K:W.Frag)(x qual:Str)(st:Stmt)(f:Addr)(fd:FuncData):Prop where
 ex:∃(oc:Value)(od:Option Addr)(kV doc pm:Value)(an:Option Addr)(cdv ct:Value)(osl:Array (Option Value)),
  fd=W.fnOf x qual (Ek st) (Du st) (Ai st) .none kV doc pm an cdv ct∧K.lookup f=some ⟨oc,od,.func fd,osl⟩∧W.codeIn K cdv qual=true
 kp:W.keepIn K (.ref f)=true
section
variable{P:Program}{w:World}{K:W.Frag}{mg:Str→Option Value}{base:Heap}
theorem Fun.ok{x qual:Str}{st:Stmt}{f:Addr}{fd:FuncData}{N ps:List Str}{k:Nat}{sp:Sp}(F:Fun K x qual st f fd)(S:Aq N ps (Ai st))(len:∀vs H Q E,sp vs H Q E→vs.length=ps.length)
  (hbody:∀(cdv:Value)(A:Around)(outer:List Env)(s:Shared)(H:Hp)(vs:List V)(Q:VK)(E:XK),Em k (A.deeper (envOfC qual (Ai st) s.heap.objs.size f cdv))→sp vs H Q E →
   ∃t,PSs (Yz CX0 P w K mg base N qual (Ai st) f cdv A outer s H E).nox (Du st) t∧t {nx:=fun _ H'=>Q .non H',rt:=Q} (start N vs) H):Ho P w K mg base CX0 (k+1) f fd ps sp:=by
 obtain⟨oc,od,kV,doc,pm,an,cdv,ct,osl,rfl,lk,hcd⟩:=F.ex
 refine AlT lk hcd S len fun A outer s H vs Q E hr hsp=>?_
 obtain⟨t,h,q⟩:=hbody cdv A outer s H vs Q E hr hsp
 exact⟨t,h.nox,q⟩
theorem Fun.binds{x qual:Str}{st:Stmt}{f:Addr}{fd:FuncData}{ps:List Str}(F:Fun K x qual st f fd)
  (h:∀(kV doc pm:Value)(an:Option Addr)(cdv ct:Value)(us:List Value),us.length=ps.length→bindArgs (W.fnOf x qual (Ek st) (Du st) (Ai st) .none kV doc pm an cdv ct) ⟨us,[]⟩=pure (ps.zip us)):Binds K fd ps []:=by
 obtain⟨oc,od,kV,doc,pm,an,cdv,ct,osl,rfl,lk,hcd⟩:=F.ex
 exact .all (h kV doc pm an cdv ct)
theorem Nk{x qual:Str}{st:Stmt}{f:Addr}{oc:Value}{od an:Option Addr}{osl:Array (Option Value)}{kV doc pm cdv ct:Value}(l:K.lookup f=some ⟨oc,od,.func (W.fnOf x qual (Ek st) (Du st) (Ai st) .none kV doc pm an cdv ct),osl⟩)
  (c:W.codeIn K cdv qual=true) (k:W.keepIn K (.ref f)=true):Fun K x qual st f (W.fnOf x qual (Ek st) (Du st) (Ai st) .none kV doc pm an cdv ct):=⟨⟨oc,od,kV,doc,pm,an,cdv,ct,osl,rfl,l,c⟩,k⟩
end
theorem Aaz{n:Nat}(h:n≤1000):n<sizeLine:=Nat.lt_of_le_of_lt h (by decide)
section
variable{X:Cx}
end
theorem GR{c A B:Prop}[Decidable c](h1:c→A)(h2:¬c→B):if c then A else B:=by
 by_cases h:c
 ·rw[if_pos h]
  exact h1 h
 ·rw[if_neg h]
  exact h2 h
def Same(H H':Hp):Prop:=∀b o,H b=some o→H' b=some o
theorem Same.refl(H:Hp):Same H H:=fun _ _ h=>h
theorem Same.trans{H H1 H2:Hp}(a:Same H H1)(b:Same H1 H2):Same H H2:=fun c o h=>b c o (a c o h)
theorem Same.seq{K:W.Frag}{H H':Hp}{a:Addr}{xs:List V}(e:Same H H')(h:SqL K H a xs):SqL K H' a xs:=by
 rcases h with(h|⟨o,h⟩)|h
 ·exact .inl (.inl (e _ _ h))
 ·exact .inl (.inr ⟨o,e _ _ h⟩)
 ·exact .inr h
end L2
namespace L2
open PySem Spec PyProof.Rows
def exO(a C dx:Addr)(h:Heap):Prop:=∃o vs,h.get? a=some o∧o.cls=.ref C∧o.dict=(if dx=a then none else some dx)∧o.data=.fields vs
section
variable{M:Model}{A:Around}{E:Value→Shared→Prop}{s:Shared}{base:Heap}{env:Env}{outer:List Env}{L e:Addr}
end
section
variable{P:Program}{w:World}{H:Hp}{h h':Heap}{fs:List Addr}{e:Addr}{oe:Obj}{vs:Array Value}{old:Option Addr}{φ:Heap→Prop}
end
end L2
namespace L2
open PySem Spec PyProof.Rows
section
variable{X:Cx}{pins:List (Addr×Obj)}{σ:St}{H:Hp}{s:Shared}{a:Addr}{E:Value→Shared→Prop}{Q:Unit→Shared→Prop}
end
section
variable{X:Cx}{k:Nat}{f:Addr}{fd:FuncData}{ps:List Str}{sp:Sp}{x:Str}{p pos:Pos}{e:Expr}{es:List Expr}{t:TA}
end
end L2
namespace L2
open PySem Spec PyProof.Rows
abbrev bmV:List Value:=[.type "ValueError",.type "Exception",.type "BaseException",.type "object"]
def AmN(es:Array DictEntry):Bool:=es.toList.all fun e=>match e.key with|.str _ _=>true|_=>false
structure XC(K:W.Frag)(C F:Addr):Prop where
 obj:∃nm q N bs sn sub ab col dd k0 k1 k2 k3 k5,K.lookup C=some (excClassObj nm q C N bs (.ref F::bmV) true sn sub ab col dd k0 k1 k2 k3 k5 "ValueError.__new__")
 tail:∃c0 dd cd sl oc od es ep sl',K.lookup F=some ⟨c0,dd,.cls cd,sl⟩∧K.lookup cd.ns=some ⟨oc,od,.dict es ep,sl'⟩∧AmN es=true∧nsFind es "__init__"=none
 sa:W.findIn K (.ref C) "__setattr__"=some (some (.builtin "object.__setattr__"))
 ga:W.findIn K (.ref C) "__getattribute__"=some (some (.builtin "BaseException.__getattribute__"))
 gh:W.findIn K (.ref C) "__getattr__"=some none
 cl:W.findIn K (.ref C) "__class__"=some (some (.builtin "object.__class__"))
 gg:W.specialIn K (.builtin "object.__class__") "__get__"=some (some (.builtin "getset_descriptor.__get__"))
 gt:W.takesIn K (.builtin "object.__class__")=some true
section
variable{prog:Program}{w:World}{A:Around}{E:Value→Shared→Prop}{s:Shared}{K:W.Frag}{C U fI:Addr}{rest:List Value}
end
end L2
namespace L2
open PySem Spec PyProof.Rows W Builtin Builtin.ObjectAttr
section
variable{prog:Program}{w:World}{A:Around}{E:Value→Shared→Prop}{s:Shared}{K:W.Frag}{C U x:Addr}{name:Str}{v:Value}
end
end L2
namespace L2
open PySem Spec PyProof.Rows W Builtin Builtin.ObjectAttr
section
variable{prog:Program}{w:World}{A:Around}{E:Value→Shared→Prop}{s:Shared}{K:W.Frag}{C U x:Addr}{name:Str}{v:Value}{ox:Obj}{od:Option Obj}
end
end L2
namespace L2
open PySem Spec PyProof.Rows SeqAt
inductive Dt where
 | non | bl (b:Bool) | int (i:Int) | str (x:Str) | tup (ds:List Dt) | lst (ds:List Dt) | fn (a:Addr)
  |exc (c:Str) (ns:List Str) (ds:List Dt)
  |obj (c:Str) (ns:List Str) (ds:List Dt)
def LsD(K:W.Frag)(H:Hp)(a:Addr)(xs:List V):Prop:=H a=some (.lst xs)∨(SqL K H a xs∧∀x∈xs,∃i:Int,x=.int i)
theorem LsD.sq{K:W.Frag}{H:Hp}{a:Addr}{xs:List V}(h:LsD K H a xs):SqL K H a xs:=by
 rcases h with h|⟨h,_⟩
 ·exact SqL.of h
 ·exact h
theorem LsD.mono{K:W.Frag}{H H':Hp}{a:Addr}{xs:List V}(s:Same H H')(h:LsD K H a xs):LsD K H' a xs:=by
 rcases h with h|⟨h,q⟩
 ·exact .inl (s _ _ h)
 ·exact .inr ⟨s.seq h,q⟩
mutual
def Rp(K:W.Frag)(H:Hp):Dt→V→Prop
 |.non,v=>v=.non
 |.bl b,v=>v=.bl b
 |.int i,v=>v=.int i
 |.str x,v=>v=.str x
 |.fn a,v=>v=.ref a
 |.exc c ns ds,v=>∃a C U dx vs,v=.ref a∧W.nsIn K mainGlobals c=some (some (.ref C))∧XC K C U∧H a=some (.ext (exO a C dx))∧(H dx=some (.xd (ns.zip vs))∨dx=a∧ns=[])∧ns.length=ds.length∧RpL K H ds vs
 |.obj c ns ds,v=>∃a C dx vs,v=.ref a∧W.nsIn K mainGlobals c=some (some (.ref C))∧Cls K C∧H a=some (.ins C dx (ns.zip vs))∧ns.length=ds.length∧RpL K H ds vs
 |.tup ds,v=>∃a xs,v=.ref a∧SqT K H a xs∧RpL K H ds xs
 |.lst ds,v=>∃a xs,v=.ref a∧LsD K H a xs∧RpL K H ds xs
def RpL(K:W.Frag)(H:Hp):List Dt→List V→Prop
 | [],xs=>xs=[]
 |d::ds,xs=>∃v r,xs=v::r∧Rp K H d v∧RpL K H ds r
end
theorem Same.fP{K:W.Frag}{H H':Hp}{a:Addr}{xs:List V}(e:Same H H')(h:SqT K H a xs):SqT K H' a xs:=by
 rcases h with(h|⟨o,h⟩)|h
 ·exact .inl (.inl (e _ _ h))
 ·exact .inl (.inr ⟨o,e _ _ h⟩)
 ·exact .inr h
mutual
theorem Rp.mono{K:W.Frag}{H H':Hp}(s:Same H H'):∀{d:Dt} {v:V},Rp K H d v→Rp K H' d v
 |.non,_,h=>by unfold Rp at h ⊢;exact h
 |.bl _,_,h=>by unfold Rp at h ⊢;exact h
 |.int _,_,h=>by unfold Rp at h ⊢;exact h
 |.str _,_,h=>by unfold Rp at h ⊢;exact h
 |.fn _,_,h=>by unfold Rp at h ⊢;exact h
 | .exc _ _ _,_,h=>by
  unfold Rp at h ⊢
  obtain⟨a,C,U,dx,vs,e,q,x,h1,h2,l,r⟩:=h
  exact⟨a,C,U,dx,vs,e,q,x,s _ _ h1,h2.imp (s _ _) id,l,RpL.mono s r⟩
 | .obj _ _ _,_,h=>by
  unfold Rp at h ⊢
  obtain⟨a,C,dx,vs,e,q,x,h1,l,r⟩:=h
  exact⟨a,C,dx,vs,e,q,x,s _ _ h1,l,RpL.mono s r⟩
 | .tup ds,_,h=>by
  unfold Rp at h ⊢
  obtain⟨a,xs,e,q,r⟩:=h
  exact⟨a,xs,e,s.fP q,RpL.mono s r⟩
 | .lst ds,_,h=>by
  unfold Rp at h ⊢
  obtain⟨a,xs,e,q,r⟩:=h
  exact⟨a,xs,e,q.mono s,RpL.mono s r⟩
theorem RpL.mono{K:W.Frag}{H H':Hp}(s:Same H H'):∀{ds:List Dt} {vs:List V},RpL K H ds vs→RpL K H' ds vs
 | [],_,h=>by unfold RpL at h ⊢;exact h
 | d::ds,_,h=>by
  unfold RpL at h ⊢
  obtain⟨v,r,e,q,p⟩:=h
  exact⟨v,r,e,Rp.mono s q,RpL.mono s p⟩
end
section
variable{K:W.Frag}{H:Hp}
theorem JV{v:V}:Rp K H .non v↔v=.non:=by unfold Rp;exact Iff.rfl
theorem Dg{b:Bool}{v:V}:Rp K H (.bl b) v↔v=.bl b:=by unfold Rp;exact Iff.rfl
theorem Bh{i:Int}{v:V}:Rp K H (.int i) v↔v=.int i:=by unfold Rp;exact Iff.rfl
theorem M5{x:Str}{v:V}:Rp K H (.str x) v↔v=.str x:=by unfold Rp;exact Iff.rfl
theorem AgQ{a:Addr}{v:V}:Rp K H (.fn a) v↔v=.ref a:=by unfold Rp;exact Iff.rfl
theorem AbK{c:Str}{ns:List Str}{ds:List Dt}{v:V}:Rp K H (.exc c ns ds) v↔∃a C U dx vs,v=.ref a∧W.nsIn K mainGlobals c=some (some (.ref C))∧XC K C U∧H a=some (.ext (exO a C dx))∧(H dx=some (.xd (ns.zip vs))∨dx=a∧ns=[])∧ns.length=ds.length∧RpL K H ds vs:=by rw[Rp]
theorem Pn{c:Str}{ns:List Str}{ds:List Dt}{v:V}:Rp K H (.obj c ns ds) v↔∃a C dx vs,v=.ref a∧W.nsIn K mainGlobals c=some (some (.ref C))∧Cls K C∧H a=some (.ins C dx (ns.zip vs))∧ns.length=ds.length∧RpL K H ds vs:=by rw[Rp]
theorem Dw{ds:List Dt}{v:V}:Rp K H (.tup ds) v↔∃a xs,v=.ref a∧SqT K H a xs∧RpL K H ds xs:=by rw[Rp]
theorem O6{ds:List Dt}{v:V}:Rp K H (.lst ds) v↔∃a xs,v=.ref a∧LsD K H a xs∧RpL K H ds xs:=by rw[Rp]
theorem Ji{ds:List Dt}{v:V}(h:∃a xs,v=.ref a∧H a=some (.lst xs)∧RpL K H ds xs):Rp K H (.lst ds) v:=let ⟨a,xs,e,h1,h2⟩:=h;O6.mpr ⟨a,xs,e,.inl h1,h2⟩
theorem DY{ds:List Dt}{v:V}(h:Rp K H (.lst ds) v):∃a xs,v=.ref a∧SqL K H a xs∧RpL K H ds xs:=let ⟨a,xs,e,h1,h2⟩:=O6.mp h;⟨a,xs,e,h1.sq,h2⟩
theorem Afd{ns:List Int}{a:Addr}(h:SqL K H a (ns.map V.int))(r:RpL K H (ns.map Dt.int) (ns.map V.int)):Rp K H (.lst (ns.map Dt.int)) (.ref a):=O6.mpr ⟨a,_,rfl,.inr ⟨h,fun x hx=>by obtain⟨i,_,rfl⟩:=List.mem_map.mp hx;exact⟨i,rfl⟩⟩,r⟩
theorem Br{vs:List V}:RpL K H [] vs↔vs=[]:=by rw[RpL]
theorem Ax{d:Dt}{ds:List Dt}{vs:List V}:RpL K H (d::ds) vs↔∃v r,vs=v::r∧Rp K H d v∧RpL K H ds r:=by rw[RpL]
theorem RpL.nil:RpL K H [] []:=Br.mpr rfl
theorem RpL.cons{d:Dt}{ds:List Dt}{v:V}{vs:List V}(h:Rp K H d v)(r:RpL K H ds vs):RpL K H (d::ds) (v::vs):=Ax.mpr ⟨v,vs,rfl,h,r⟩
theorem RpL.len:∀{ds:List Dt} {vs:List V},RpL K H ds vs→vs.length=ds.length
 | [],_,h=>by rw[Br.mp h];rfl
 | d::ds,_,h=>by
  obtain⟨v,r,rfl,_,p⟩:=Ax.mp h
  simp[RpL.len p]
theorem RpL.get:∀{ds:List Dt} {vs:List V} {i:Nat} {d:Dt},RpL K H ds vs→ds[i]? = some d→∃v,vs[i]? = some v∧Rp K H d v
 | [],_,_,_,_,e=>by simp at e
 | d::ds,_,0,_,h,e=>by
  obtain⟨v,r,rfl,q,p⟩:=Ax.mp h
  simp at e;subst e
  exact⟨v,rfl,q⟩
 | d::ds,_,i+1,_,h,e=>by
  obtain⟨v,r,rfl,q,p⟩:=Ax.mp h
  obtain⟨u,e1,e2⟩:=RpL.get (i:=i) p (by simpa using e)
  exact⟨u,by simpa using e1,e2⟩
theorem RpL.get':∀{ds:List Dt} {vs:List V} {i:Nat} {v:V},RpL K H ds vs→vs[i]? = some v→∃d,ds[i]? = some d∧Rp K H d v
 | [],_,_,_,h,e=>by rw[Br.mp h]at e;simp at e
 | d::ds,_,0,_,h,e=>by
  obtain⟨v,r,rfl,q,p⟩:=Ax.mp h
  simp at e;subst e
  exact⟨d,rfl,q⟩
 | d::ds,_,i+1,_,h,e=>by
  obtain⟨v,r,rfl,q,p⟩:=Ax.mp h
  obtain⟨u,e1,e2⟩:=RpL.get' (i:=i) p (by simpa using e)
  exact⟨u,by simpa using e1,e2⟩
theorem RpL.append:∀{ds es:List Dt} {vs ws:List V},RpL K H ds vs→RpL K H es ws→RpL K H (ds++es) (vs++ws)
 | [],_,_,_,h,q=>by rw[Br.mp h];exact q
 | d::ds,_,_,_,h,q=>by
  obtain⟨v,r,rfl,a,p⟩:=Ax.mp h
  exact .cons a (RpL.append p q)
theorem RpL.drop:∀{ds:List Dt} {vs:List V} (n:Nat),RpL K H ds vs→RpL K H (ds.drop n) (vs.drop n)
 |_,_,0,h=>by simpa using h
 | [],_,n+1,h=>by rw[Br.mp h];simpa using RpL.nil
 | d::ds,_,n+1,h=>by
  obtain⟨v,r,rfl,a,p⟩:=Ax.mp h
  simpa using RpL.drop n p
theorem RpL.take:∀{ds:List Dt} {vs:List V} (n:Nat),RpL K H ds vs→RpL K H (ds.take n) (vs.take n)
 |_,_,0,h=>by simpa using RpL.nil
 | [],_,n+1,h=>by rw[Br.mp h];simpa using RpL.nil
 | d::ds,_,n+1,h=>by
  obtain⟨v,r,rfl,a,p⟩:=Ax.mp h
  simpa using RpL.cons a (RpL.take n p)
theorem RpL.ints:∀(ns:List Int),RpL K H (ns.map Dt.int) (ns.map V.int)
 | []=>RpL.nil
 |_::ns=>RpL.cons (Bh.mpr rfl) (RpL.ints ns)
end
def mask(O:List Addr)(H:Hp):Hp:=fun a=>if a∈O then none else H a
theorem Cz{O:List Addr}{H:Hp}{a:Addr}(h:a∈O):mask O H a=none:=if_pos h
theorem Az{O:List Addr}{H:Hp}{a:Addr}(h:a∉O):mask O H a=H a:=if_neg h
theorem BR{O:List Addr}{H:Hp}{a:Addr}{o:HO}(h:mask O H a=some o):a∉O∧H a=some o:=by
 by_cases q:a∈O
 ·rw[Cz q]at h;cases h
 ·rw[Az q]at h;exact⟨q,h⟩
theorem Bw{O:List Addr}{H:Hp}:Same (mask O H) H:=fun _ _ h=>(BR h).2
theorem Same.mask{O:List Addr}{H H':Hp}(s:Same H H'):Same (mask O H) (L2.mask O H'):=fun a o h=>by
 obtain⟨q,e⟩:=BR h
 rw[Az q];exact s a o e
theorem Dy{O O':List Addr}{H:Hp}(h:∀a∈O',a∈O):Same (mask O H) (mask O' H):=fun a o e=>by
 obtain⟨q,e⟩:=BR e
 rw[Az fun z=>q (h a z)];exact e
theorem Same.upd{H:Hp}{p:Addr}{o:HO}(h:H p=none):Same H (L2.upd H p o):=fun a u e=>by
 rw[Bm (Dc e h)];exact e
def tabAt(a:Addr)(xs:List (List Key×Addr×Value))(h:Heap):Prop:=(a==sysModules)=false∧∃(P:Program)(w:World)(o:Obj)(es:Array DictEntry)(ep:Nat),h.get? a=some o∧o.ExactDict∧o.data=.dict es ep∧es.toList=xs.map (entryOfKey (tupleKind (Ub P w)))∧(xs.map (·.1)).Nodup
def Aez(K:W.Frag)(H:Hp)(ks:List (List Int))(xs:List (List Key×Addr×Value)):Prop:=xs.map (·.1)=ks.map (·.map Sum.inl)∧∀x∈xs,SqT K H x.2.1 (x.1.map kV)
theorem Aez.mono{K:W.Frag}{H H':Hp}{ks:List (List Int)}{xs:List (List Key×Addr×Value)}(s:Same H H')(h:Aez K H ks xs):Aez K H' ks xs:=⟨h.1,fun x hx=>s.fP (h.2 x hx)⟩
inductive En where
 |is (d:Dt)|own (ds:List Dt)|tab (ks:List (List Int))|raw (v:V)
abbrev Bv:=List (Option En)
abbrev DTE:=Bv→(Dt→Prop)→Prop
abbrev DTT:=Bv→(Bool→Prop)→Prop
abbrev DTA:=Bv→(List Dt→Prop)→Prop
structure Ft where
 nx:Bv→Prop
 rt:Dt→Prop
 bk:Bv→Prop:=fun _=>False
 ct:Bv→Prop:=fun _=>False
abbrev DTS:=Ft→Bv→Prop
structure Rep(K:W.Frag)(B:Hp)(F O:List Addr)(H:Hp)(σ:St)(ρ:Bv):Prop where
 len:σ.length=ρ.length
 base:Same B H
 fr:∀a∈O,B a=none
 th:∀a∈F++O,H a≠none
 is:∀(i:Nat)(d:Dt),ρ[i]? = some (some (.is d))→∃v,σ[i]? = some (some v)∧Rp K (mask (F++O) H) d v
 own:∀(i:Nat)(ds:List Dt),ρ[i]? = some (some (.own ds))→∃a xs,σ[i]? = some (some (.ref a))∧a∈O∧a∉F∧H a=some (.lst xs)∧RpL K (mask (F++O) H) ds xs
 inj:∀(i j:Nat)(ds es:List Dt)(a:Addr),ρ[i]? = some (some (.own ds))→ρ[j]? = some (some (.own es))→σ[i]? = some (some (.ref a))→σ[j]? = some (some (.ref a))→i=j
 tab:∀(i:Nat)(ks:List (List Int)),ρ[i]? = some (some (.tab ks))→∃a xs,σ[i]? = some (some (.ref a))∧a∈O∧a∉F∧H a=some (.ext (tabAt a xs))∧Aez K (mask (F++O) H) ks xs
 g8:∀(i j:Nat)(ks ls:List (List Int))(a:Addr),ρ[i]? = some (some (.tab ks))→ρ[j]? = some (some (.tab ls))→σ[i]? = some (some (.ref a))→σ[j]? = some (some (.ref a))→i=j
 raw:∀(i:Nat)(v:V),ρ[i]? = some (some (.raw v))→σ[i]? = some (some v)
theorem Mr{ρ:Bv}{i:Nat}{y:Option En}(hy:∀v,y≠some (.raw v)){j:Nat}{v:V}(e:(ρ.set i y)[j]? = some (some (.raw v))):j≠i∧ρ[j]? = some (some (.raw v)):=by
 by_cases hj:j=i
 ·subst hj
  by_cases hk:j<ρ.length
  ·rw[List.getElem?_set_self hk]at e;exact(hy v (Option.some.inj e)).elim
  ·rw[List.getElem?_eq_none (by simpa using hk)]at e;cases e
 ·rw[List.getElem?_set_ne (Ne.symm hj)]at e;exact⟨hj,e⟩
theorem Rep.qF{K:W.Frag}{B:Hp}{F O:List Addr}{H:Hp}{σ:St}{ρ:Bv}(r:Rep K B F O H σ ρ){i:Nat}{x:Option V}{y:Option En}(hy:∀v,y≠some (.raw v))(j:Nat)(v:V)(e:(ρ.set i y)[j]? = some (some (.raw v))):(σ.set i x)[j]? = some (some v):=by
 obtain⟨hj,e⟩:=Mr hy e
 rw[List.getElem?_set_ne (Ne.symm hj)]
 exact r.raw j v e
section
variable{K:W.Frag}{B:Hp}{F O:List Addr}{H H':Hp}{σ:St}{ρ:Bv}
theorem Rep.same(r:Rep K B F O H σ ρ)(s:Same H H'):Rep K B F O H' σ ρ where
 len:=r.len
 base:=r.base.trans s
 fr:=r.fr
 th:=fun a h e=>by
  have:=r.th a h
  cases q:H a with
  |none=>exact this q
  |some o=>rw[s a o q]at e;cases e
 is:=fun i d e=>let ⟨v,h1,h2⟩:=r.is i d e;⟨v,h1,h2.mono s.mask⟩
 own:=fun i ds e=>let ⟨a,xs,h1,h2,h3,h4,h5⟩:=r.own i ds e;⟨a,xs,h1,h2,h3,s _ _ h4,h5.mono s.mask⟩
 inj:=r.inj
 tab:=fun i ks e=>let ⟨a,xs,h1,h2,h3,h4,h5⟩:=r.tab i ks e;⟨a,xs,h1,h2,h3,s _ _ h4,h5.mono s.mask⟩
 g8:=r.g8
 raw:=r.raw
theorem Rep.below(r:Rep K B F O H σ ρ):Same (mask F B) (mask (F++O) H):=fun a o e=>by
 obtain⟨q,e⟩:=BR e
 rw[Az]
 ·exact r.base a o e
 ·intro z
  rcases List.mem_append.mp z with z|z
  ·exact q z
  ·rw[r.fr a z]at e;cases e
theorem Rep.set(r:Rep K B F O H σ ρ)(i:Nat){d:Dt}{v:V}(h:Rp K (mask (F++O) H) d v):Rep K B F O H (σ.set i (some v)) (ρ.set i (some (.is d))):=by
 have hl:=r.len
 have back:∀(j:Nat)(ds:En),(∀z,ds≠.is z)→(ρ.set i (some (.is d)))[j]? = some (some ds)→j≠i∧ρ[j]? = some (some ds):=fun j ds nz e=>by
  by_cases hj:j=i
  ·subst hj
   by_cases hk:j<ρ.length
   ·rw[List.getElem?_set_self hk]at e;cases e;exact(nz d rfl).elim
   ·rw[List.getElem?_eq_none (by simpa using hk)]at e;cases e
  ·rw[List.getElem?_set_ne (Ne.symm hj)]at e;exact⟨hj,e⟩
 refine⟨by simpa using hl,r.base,r.fr,r.th,fun j e q=>?_,fun j ds q=>?_,fun j k ds es a h1 h2 h3 h4=>?_,fun j ks q=>?_,fun j k ds es a h1 h2 h3 h4=>?_,fun j u q=>?_⟩
 ·by_cases hj:j=i
  ·subst hj
   by_cases hk:j<ρ.length
   ·rw[List.getElem?_set_self hk]at q
    cases q
    exact⟨v,List.getElem?_set_self (by omega),h⟩
   ·rw[List.getElem?_eq_none (by simpa using hk)]at q;cases q
  ·rw[List.getElem?_set_ne (Ne.symm hj)]at q ⊢
   exact r.is j e q
 ·obtain⟨hj,q⟩:=back j _ (fun _ z=>by cases z) q
  rw[List.getElem?_set_ne (Ne.symm hj)]
  exact r.own j ds q
 ·obtain⟨hj,q1⟩:=back j _ (fun _ z=>by cases z) h1
  obtain⟨hk,q2⟩:=back k _ (fun _ z=>by cases z) h2
  rw[List.getElem?_set_ne (Ne.symm hj)]at h3
  rw[List.getElem?_set_ne (Ne.symm hk)]at h4
  exact r.inj j k ds es a q1 q2 h3 h4
 ·obtain⟨hj,q⟩:=back j _ (fun _ z=>by cases z) q
  rw[List.getElem?_set_ne (Ne.symm hj)]
  exact r.tab j ks q
 ·obtain⟨hj,q1⟩:=back j _ (fun _ z=>by cases z) h1
  obtain⟨hk,q2⟩:=back k _ (fun _ z=>by cases z) h2
  rw[List.getElem?_set_ne (Ne.symm hj)]at h3
  rw[List.getElem?_set_ne (Ne.symm hk)]at h4
  exact r.g8 j k ds es a q1 q2 h3 h4
 ·obtain⟨hj,q⟩:=back j _ (fun _ z=>by cases z) q
  rw[List.getElem?_set_ne (Ne.symm hj)]
  exact r.raw j u q
end
def lE(K:W.Frag)(t:DTE):TE:=fun σ H Q=>∃B F O ρ,Rep K B F O H σ ρ∧t ρ fun d=>∀v H',Same H H'→Rp K (mask (F++O) H') d v→Q v H'
def lT(K:W.Frag)(t:DTT):TT:=fun σ H Q=>∃B F O ρ,Rep K B F O H σ ρ∧t ρ fun b=>∀H',Same H H'→Q b H'
def lA(K:W.Frag)(t:DTA):TA:=fun σ H Q=>∃B F O ρ,Rep K B F O H σ ρ∧t ρ fun ds=>∀vs H',Same H H'→RpL K (mask (F++O) H') ds vs→Q vs H'
def lD(K:W.Frag)(B:Hp)(F:List Addr)(D:Ends):Ft where
 nx:=fun ρ'=>∀O' σ' H',Rep K B F O' H' σ' ρ'→D.nx σ' H'
 rt:=fun d=>∀v H',Same B H'→Rp K (mask F H') d v→D.rt v H'
 bk:=fun ρ'=>∀O' σ' H',Rep K B F O' H' σ' ρ'→D.bk σ' H'
 ct:=fun ρ'=>∀O' σ' H',Rep K B F O' H' σ' ρ'→D.ct σ' H'
def lS(K:W.Frag)(t:DTS):TS:=fun D σ H=>∃B F O ρ,Rep K B F O H σ ρ∧t (lD K B F D) ρ
structure Ft.le(D D':Ft):Prop where
 nx:∀ρ,D.nx ρ→D'.nx ρ
 rt:∀d,D.rt d→D'.rt d
 bk:∀ρ,D.bk ρ→D'.bk ρ
 ct:∀ρ,D.ct ρ→D'.ct ρ
structure DE(X:Cx)(e:Expr)(t:DTE):Prop where
 mono:∀{ρ Q Q'},(∀d,Q d→Q' d)→t ρ Q→t ρ Q'
 pe:PE X e (lE X.K t)
structure DT(X:Cx)(e:Expr)(t:DTT):Prop where
 mono:∀{ρ Q Q'},(∀d,Q d→Q' d)→t ρ Q→t ρ Q'
 pt:PT X e (lT X.K t)
structure DA(X:Cx)(es:List Expr)(t:DTA):Prop where
 mono:∀{ρ Q Q'},(∀d,Q d→Q' d)→t ρ Q→t ρ Q'
 pa:PA X es (lA X.K t)
structure DS(X:Cx)(st:Stmt)(t:DTS):Prop where
 mono:∀{ρ D D'},Ft.le D D'→t D ρ→t D' ρ
 ps:PS X st (lS X.K t)
structure DSs(X:Cx)(st:List Stmt)(t:DTS):Prop where
 mono:∀{ρ D D'},Ft.le D D'→t D ρ→t D' ρ
 ps:PSs X st (lS X.K t)
theorem PE.imp{X:Cx}{e:Expr}{t t':TE}(h:PE X e t)(i:∀σ H Q,t' σ H Q→t σ H Q):PE X e t':=fun pins s σ H Q I q=>h pins s σ H Q I (i _ _ _ q)
theorem PT.imp{X:Cx}{e:Expr}{t t':TT}(h:PT X e t)(i:∀σ H Q,t' σ H Q→t σ H Q):PT X e t':=fun pins s σ H Q I q=>h pins s σ H Q I (i _ _ _ q)
theorem PA.imp{X:Cx}{e:List Expr}{t t':TA}(h:PA X e t)(i:∀σ H Q,t' σ H Q→t σ H Q):PA X e t':=fun pos pins s σ H Q I q=>h pos pins s σ H Q I (i _ _ _ q)
theorem PS.imp{X:Cx}{e:Stmt}{t t':TS}(h:PS X e t)(i:∀D σ H,t' D σ H→t D σ H):PS X e t':=fun pins s σ H D I q=>h pins s σ H D I (i _ _ _ q)
theorem PSs.imp{X:Cx}{e:List Stmt}{t t':TS}(h:PSs X e t)(i:∀D σ H,t' D σ H→t D σ H):PSs X e t':=fun pins s σ H D I q=>h pins s σ H D I (i _ _ _ q)
section
variable{X:Cx}{a b c e:Expr}{es:List Expr}{ta tb tc te:DTE}{tA tB:DTT}{tl:DTA}{pos:Pos}
def Aej(i:Nat):DTE:=fun ρ Q=>match ρ[i]? with
 |some (some (.is d))=>Q d
 |_=>False
def dC(d:Dt):DTE:=fun _ Q=>Q d
theorem dv(i:Nat){x:Str}{pos:Pos}(hN:X.N[i]? = some x:=by rfl)(hv:Vis X.env.scope x:=by first | exact Or.inl rfl | exact Or.inr (Or.inl rfl) | exact Or.inr (Or.inr rfl))(hd:(x==("__debug__":Str))=false:=by decide)
  (hcd:(x==("__classdict__":Str))=false:=by decide):DE X (.Name x pos) (Aej i) where
 mono:=fun{ρ Q Q'} hq h=>by
  unfold Aej at h ⊢
  split at h
  ·exact hq _ h
  ·exact h.elim
 pe:=(Ir hN hv hd hcd).imp fun σ H Q ⟨B,F,O,ρ,r,h⟩=>by
  unfold Aej at h
  split at h
  ·rename_i d e
   obtain⟨v,h1,h2⟩:=r.is i d e
   exact⟨v,h1,h v H (Same.refl H) h2⟩
  ·exact h.elim
theorem Agm{v:V}{d:Dt}(h:PE X e (tC v))(hr:∀K H,Rp K H d v):DE X e (dC d) where
 mono:=fun hq h=>hq _ h
 pe:=h.imp fun σ H Q ⟨B,F,O,ρ,r,h⟩=>h v H (Same.refl H) (hr _ _)
theorem Ab{i j pos}:DE X (.Constant (.int i) j pos) (dC (.int i)):=Agm AiP fun _ _=>Bh.mpr rfl
theorem NT{i j pos}:DE X (.Constant (.bool i) j pos) (dC (.bl i)):=Agm Al2 fun _ _=>Dg.mpr rfl
theorem Yo{j pos}:DE X (.Constant .none j pos) (dC .non):=Agm AhK fun _ _=>JV.mpr rfl
theorem JM{x j pos}:DE X (.Constant (.str x) j pos) (dC (.str x)):=Agm AiO fun _ _=>M5.mpr rfl
theorem Jr{x:Str}{v:V}{u:Value}{d:Dt}{pos:Pos}(hg:Gl X x)(hm:X.mg x=some u)(r:RelV v u)(hr:∀H,Rp X.K H d v)(hd:(x==("__debug__":Str))=false:=by decide):DE X (.Name x pos) (dC d) where
 mono:=fun hq h=>hq _ h
 pe:=(ZL hg hm r hd).imp fun σ H Q ⟨B,F,O,ρ,_,h⟩=>h v H (Same.refl H) (hr _)
abbrev D2:=Dt→Dt→(Dt→Prop)→Prop
structure Jh(K:W.Frag)(r:R2)(t:D2):Prop where
 mono:∀{a b Q Q'},(∀d,Q d→Q' d)→t a b Q→t a b Q'
 ok:∀(O:List Addr)(H:Hp)(a b:Dt)(x y:V)(Q:VK),(∀p∈O,H p≠none)→Rp K (mask O H) a x→Rp K (mask O H) b y →
  t a b (fun d=>∀v H',Same H H'→Rp K (mask O H') d v→Q v H')→r x y H Q
def dOp(t:D2)(ta tb:DTE):DTE:=fun ρ Q=>ta ρ fun a=>tb ρ fun b=>t a b Q
theorem TF{K:W.Frag}{r:R2}{t:D2}(S:Jh K r t){ta tb:DTE}(ma:∀{ρ Q Q'},(∀d,Q d→Q' d)→ta ρ Q→ta ρ Q')(mb:∀{ρ Q Q'},(∀d,Q d→Q' d)→tb ρ Q→tb ρ Q')
  (σ:St) (H:Hp) (Q:VK) (h:lE K (dOp t ta tb) σ H Q):tOp r (lE K ta) (lE K tb) σ H Q:=by
 obtain⟨B,F,O,ρ,R,h⟩:=h
 refine⟨B,F,O,ρ,R,ma (fun a h v H1 s1 r1=>?_) h⟩
 refine⟨B,F,O,ρ,R.same s1,mb (fun b h u H2 s2 r2=>?_) h⟩
 exact S.ok _ H2 a b v u Q ((R.same s1).same s2).th (r1.mono s2.mask) r2 (S.mono (fun d q w H3 s3 r3=>q w H3 ((s1.trans s2).trans s3) r3) h)
theorem J0{t:D2}(m:∀{a b Q Q'},(∀d,Q d→Q' d)→t a b Q→t a b Q')(ma:∀{ρ Q Q'},(∀d,Q d→Q' d)→ta ρ Q→ta ρ Q')(mb:∀{ρ Q Q'},(∀d,Q d→Q' d)→tb ρ Q→tb ρ Q') :
  ∀{ρ Q Q'},(∀d,Q d→Q' d)→dOp t ta tb ρ Q→dOp t ta tb ρ Q':=fun hq h=>ma (fun _ h=>mb (fun _ h=>m hq h) h) h
theorem Pz{op:Operator}{r:R2}{t:D2}(ho:OpR X (binaryOp op) r)(S:Jh X.K r t)(ha:DE X a ta)(hb:DE X b tb):DE X (.BinOp a op b pos) (dOp t ta tb) where
 mono:=J0 (t:=t) (ta:=ta) (tb:=tb) S.mono ha.mono hb.mono
 pe:=(AjH ho ha.pe hb.pe).imp (TF (ta:=ta) (tb:=tb) S ha.mono hb.mono)
theorem Xz{op:CmpOp}{r:R2}{t:D2}(ho:OpR X (compareOp op) r)(S:Jh X.K r t)(ha:DE X a ta)(hb:DE X b tb)(hm:behindInMarks op b=false):DE X (.Compare a [op] [b] pos) (dOp t ta tb) where
 mono:=J0 (t:=t) (ta:=ta) (tb:=tb) S.mono ha.mono hb.mono
 pe:=(Aee ho ha.pe hb.pe hm).imp (TF (ta:=ta) (tb:=tb) S ha.mono hb.mono)
theorem Ai5{r:R2}{t:D2}(ho:IxR X r)(S:Jh X.K r t)(ha:DE X a ta)(hb:DE X b tb)(hs:Ua b):DE X (.Subscript a b pos) (dOp t ta tb) where
 mono:=J0 (t:=t) (ta:=ta) (tb:=tb) S.mono ha.mono hb.mono
 pe:=(Aj0 ho ha.pe hb.pe hs).imp (TF (ta:=ta) (tb:=tb) S ha.mono hb.mono)
def dI(C:Int→Int→Prop)(g:Int→Int→Int):D2:=fun a b Q=>match a,b with
 |.int i,.int j=>C i j∧Q (.int (g i j))
 |_,_=>False
def dI0(g:Int→Int→Int):D2:=fun a b Q=>match a,b with
 |.int i,.int j=>Q (.int (g i j))
 |_,_=>False
def dB0(g:Int→Int→Bool):D2:=fun a b Q=>match a,b with
 |.int i,.int j=>Q (.bl (g i j))
 |_,_=>False
theorem Ws{K:W.Frag}{C:Int→Int→Prop}{g:Int→Int→Int}:Jh K (rI C fun i j=>.int (g i j)) (dI C g) where
 mono:=fun{a b Q Q'} hq h=>by
  unfold dI at h ⊢
  split at h
  ·exact⟨h.1,hq _ h.2⟩
  ·exact h.elim
 ok:=fun O H a b x y Q _ ra rb h=>by
  unfold dI at h
  split at h
  ·exact⟨_,_,Bh.mp ra,Bh.mp rb,h.1,h.2 _ H (Same.refl H) (Bh.mpr rfl)⟩
  ·exact h.elim
theorem Acp{K:W.Frag}{g:Int→Int→Int}:Jh K (rI0 fun i j=>.int (g i j)) (dI0 g) where
 mono:=fun{a b Q Q'} hq h=>by
  unfold dI0 at h ⊢
  split at h
  ·exact hq _ h
  ·exact h.elim
 ok:=fun O H a b x y Q _ ra rb h=>by
  unfold dI0 at h
  split at h
  ·exact⟨_,_,Bh.mp ra,Bh.mp rb,h _ H (Same.refl H) (Bh.mpr rfl)⟩
  ·exact h.elim
theorem Fe{K:W.Frag}{g:Int→Int→Bool}:Jh K (rI0 fun i j=>.bl (g i j)) (dB0 g) where
 mono:=fun{a b Q Q'} hq h=>by
  unfold dB0 at h ⊢
  split at h
  ·exact hq _ h
  ·exact h.elim
 ok:=fun O H a b x y Q _ ra rb h=>by
  unfold dB0 at h
  split at h
  ·exact⟨_,_,Bh.mp ra,Bh.mp rb,h _ H (Same.refl H) (Dg.mpr rfl)⟩
  ·exact h.elim
theorem Ae1:OpR X (binaryOp .Mult) (rI IntMulOk fun i j=>.int (i*j)):=opI fun _ _ _ _ _ _ _ hc q=>mul_int q hc
def CDv(_ j:Int):Prop:=j≠0∧j.natAbs<2 ^ 9000
theorem log2_small{n:Nat}(h:n<2 ^ 9000):n.log2<9000:=by
 by_cases h0:n=0
 ·subst h0;decide +kernel
 ·exact(Nat.log2_lt h0).mpr h
theorem AbI:OpR X (binaryOp .FloorDiv) (rI CDv fun i j=>.int (i.fdiv j)):=opI fun _ _ _ _ _ _ _ hc q=>floordiv_int hc.1 q (.inl (PyProof.noPylong_of_log2 (log2_small hc.2)))
def Alr:D2:=dI0 fun i j=>i+j
def AlF:D2:=dI0 fun i j=>i-j
def Ale:D2:=dI IntMulOk fun i j=>i*j
def Alp:D2:=dI (fun _ j=>j≠0) fun i j=>i.fmod j
def Ajj:D2:=dI CDv fun i j=>i.fdiv j
def AkK:D2:=dI Abj fun i j=>i ^ j.toNat
def Ala:D2:=dI Abj fun i j=>i*2 ^ j.toNat
def Ank:D2:=dI (fun _ j=>0≤j) fun i j=>i / 2 ^ j.toNat
theorem Bl(ha:DE X a ta)(hb:DE X b tb):DE X (.BinOp a .Add b pos) (dOp Alr ta tb):=Pz Aig Acp ha hb
theorem Cd(ha:DE X a ta)(hb:DE X b tb):DE X (.BinOp a .Sub b pos) (dOp AlF ta tb):=Pz AhF Acp ha hb
theorem Ak(ha:DE X a ta)(hb:DE X b tb):DE X (.BinOp a .Mult b pos) (dOp Ale ta tb):=Pz Ae1 Ws ha hb
theorem Er(ha:DE X a ta)(hb:DE X b tb):DE X (.BinOp a .Mod b pos) (dOp Alp ta tb):=Pz AfM Ws ha hb
theorem Ck(ha:DE X a ta)(hb:DE X b tb):DE X (.BinOp a .FloorDiv b pos) (dOp Ajj ta tb):=Pz AbI Ws ha hb
theorem AiS(ha:DE X a ta)(hb:DE X b tb):DE X (.BinOp a .Pow b pos) (dOp AkK ta tb):=Pz AiG Ws ha hb
theorem Ad3(ha:DE X a ta)(hb:DE X b tb):DE X (.BinOp a .LShift b pos) (dOp Ala ta tb):=Pz Aiz Ws ha hb
def dLt:D2:=dB0 fun i j=>decide (i<j)
def dLe:D2:=dB0 fun i j=>decide (i≤j)
def dGt:D2:=dB0 fun i j=>decide (j<i)
def dGe:D2:=dB0 fun i j=>decide (j≤i)
theorem AjY(ha:DE X a ta)(hb:DE X b tb):DE X (.Compare a [.GtE] [b] pos) (dOp dGe ta tb):=Xz Aje Fe ha hb (JW _)
def ixL:Int→List Dt→Option Dt
 |.ofNat n,ds=>ds[n]?
 |.negSucc m,ds=>if m<ds.length then ds[ds.length-1-m]? else none
def ixD(i:Int):Dt→Option Dt
 |.tup ds=>ixL i ds
 |.lst ds=>ixL i ds
 |_=>none
theorem AcH{i:Int}{ds:List Dt}{d:Dt}(h:ixL i ds=some d):atI ds i=some d:=by
 cases i with
 |ofNat n=>exact Agw h
 | negSucc m =>
  have h':(if m<ds.length then ds[ds.length-1-m]? else none)=some d:=h
  by_cases hm:m<ds.length
  ·rw[if_pos hm]at h'
   unfold atI ixN
   have h1:¬(0:Int)≤Int.negSucc m:=by omega
   have h2:-(ds.length:Int)≤Int.negSucc m:=by omega
   have h3:(Int.negSucc m+(ds.length:Int)).toNat=ds.length-1-m:=by omega
   rw[if_neg h1,if_pos h2,Option.bind_some,h3]
   exact h'
  ·rw[if_neg hm]at h';cases h'
def dIx:D2:=fun a b Q=>match b with
 | .int i=>match ixD i a with
  |some d=>Q d
  |none=>False
 |_=>False
theorem Ack{K:W.Frag}{H:Hp}{ds:List Dt}{xs:List V}{i:Int}{d:Dt}(r:RpL K H ds xs)(h:atI ds i=some d):∃v,atI xs i=some v∧Rp K H d v:=by
 unfold atI at h ⊢
 rw[r.len]
 cases e:ixN ds.length i with
 |none=>rw[e]at h;cases h
 | some j =>
  rw[e]at h
  exact r.get h
theorem AiA{K:W.Frag}:Jh K (rIx K) dIx where
 mono:=fun{a b Q Q'} hq h=>by
  unfold dIx at h ⊢
  split at h
  ·split at h
   ·rename_i e;exact hq _ h
   ·exact h.elim
  ·exact h.elim
 ok:=fun O H a b x y Q _ ra rb h=>by
  unfold dIx at h
  split at h
  ·split at h
   ·rename_i i _ d e
    have eb:=Bh.mp rb
    subst eb
    cases a with
    | tup ds =>
     obtain⟨p,xs,rfl,hs,hl⟩:=Dw.mp ra
     obtain⟨v,e1,e2⟩:=Ack hl (AcH e)
     exact .inr (.inl ⟨p,xs,i,v,rfl,rfl,Bw.fP hs,e1,h v H (Same.refl H) e2⟩)
    | lst ds =>
     obtain⟨p,xs,rfl,hs,hl⟩:=DY ra
     obtain⟨v,e1,e2⟩:=Ack hl (AcH e)
     exact .inl ⟨p,xs,i,v,rfl,rfl,Bw.seq hs,e1,h v H (Same.refl H) e2⟩
    |_=>cases e
   ·exact h.elim
  ·exact h.elim
theorem Ae(ha:DE X a ta)(hb:DE X b tb)(hs:Ua b:=by exact fun _ _=>rfl):DE X (.Subscript a b pos) (dOp dIx ta tb):=Ai5 AiQ AiA ha hb hs
def Agt:Dt→(Dt→Prop)→Prop:=fun a Q=>match a with
 |.int i=>Q (.int (-i))
 |_=>False
def dUn(t:Dt→(Dt→Prop)→Prop)(ta:DTE):DTE:=fun ρ Q=>ta ρ fun a=>t a Q
theorem Fv(ha:DE X a ta):DE X (.UnaryOp .USub a pos) (dUn Agt ta) where
 mono:=fun hq h=>ha.mono (fun d h=>by
  unfold Agt at h ⊢
  split at h
  ·exact hq _ h
  ·exact h.elim) h
 pe:=(Aly Ahz ha.pe).imp fun σ H Q ⟨B,F,O,ρ,R,h⟩=>⟨B,F,O,ρ,R,ha.mono (fun d h v H1 s1 r1=>by
  unfold Agt at h
  split at h
  ·exact⟨_,Bh.mp r1,h _ H1 s1 (Bh.mpr rfl)⟩
  ·exact h.elim) h⟩
def Akv(ta:DTE):DTE:=fun ρ Q=>ta ρ fun a=>match a with
 |.bl k=>Q (.bl (!k))
 |_=>False
def AkG(ta tb:DTE):DTE:=fun ρ Q=>ta ρ fun a=>match a with
 |.bl k=>if k=true then tb ρ Q else Q (.bl false)
 |_=>False
def dOr(ta tb:DTE):DTE:=fun ρ Q=>ta ρ fun a=>match a with
 |.bl k=>if k=true then Q (.bl true)else tb ρ Q
 |_=>False
theorem Ait(ha:DE X a ta):DE X (.UnaryOp .Not a pos) (Akv ta) where
 mono:=fun hq h=>ha.mono (fun d h=>by
  split at h
  ·exact hq _ h
  ·exact h.elim) h
 pe:=(AhJ ha.pe).imp fun σ H Q ⟨B,F,O,ρ,R,h⟩=>⟨B,F,O,ρ,R,ha.mono (fun d h v H1 s1 r1=>by
  split at h
  ·exact⟨_,Dg.mp r1,h _ H1 s1 (Dg.mpr rfl)⟩
  ·exact h.elim) h⟩
theorem Tf{op}(h:DE X a ta):DE X (.BoolOp op [a] pos) ta:=⟨h.mono,AiR h.pe⟩
theorem XM{rest:List Expr}(ha:DE X a ta)(hb:DE X (.BoolOp .And (b::rest) pos) tb):DE X (.BoolOp .And (a::b::rest) pos) (AkG ta tb) where
 mono:=fun hq h=>ha.mono (fun d h=>by
  split at h
  ·split at h
   ·rename_i e;simp only[e,if_true];exact hb.mono hq h
   ·rename_i e;simp only[e];exact hq _ h
  ·exact h.elim) h
 pe:=(AhG ha.pe hb.pe).imp fun σ H Q ⟨B,F,O,ρ,R,h⟩=>⟨B,F,O,ρ,R,ha.mono (fun d h v H1 s1 r1=>by
  split at h
  ·rename_i k
   refine⟨k,Dg.mp r1,?_⟩
   cases k with
   |true=>exact⟨B,F,O,ρ,R.same s1,hb.mono (fun d q v H2 s2 r2=>q v H2 (s1.trans s2) r2) h⟩
   |false=>exact h _ H1 s1 (Dg.mpr rfl)
  ·exact h.elim) h⟩
theorem AkC{rest:List Expr}(ha:DE X a ta)(hb:DE X (.BoolOp .Or (b::rest) pos) tb):DE X (.BoolOp .Or (a::b::rest) pos) (dOr ta tb) where
 mono:=fun hq h=>ha.mono (fun d h=>by
  split at h
  ·split at h
   ·rename_i e;simp only[e,if_true];exact hq _ h
   ·rename_i e;simp only[e];exact hb.mono hq h
  ·exact h.elim) h
 pe:=(Akz ha.pe hb.pe).imp fun σ H Q ⟨B,F,O,ρ,R,h⟩=>⟨B,F,O,ρ,R,ha.mono (fun d h v H1 s1 r1=>by
  split at h
  ·rename_i k
   refine⟨k,Dg.mp r1,?_⟩
   cases k with
   |false=>exact⟨B,F,O,ρ,R.same s1,hb.mono (fun d q v H2 s2 r2=>q v H2 (s1.trans s2) r2) h⟩
   |true=>exact h _ H1 s1 (Dg.mpr rfl)
  ·exact h.elim) h⟩
def Q6(t:DTE):DTT:=fun ρ Q=>t ρ fun a=>match a with
 |.bl k=>Q k
 |_=>False
theorem RN{t:DTE}(m:∀{ρ Q Q'},(∀d,Q d→Q' d)→t ρ Q→t ρ Q'):∀{ρ Q Q'},(∀d,Q d→Q' d)→Q6 t ρ Q→Q6 t ρ Q':=fun hq h=>m (fun d h=>by
  split at h
  ·exact hq _ h
  ·exact h.elim) h
theorem Il(h:DE X e te)(he:∀whole,isTrue e X.env whole=(do let v ←whole;standAt e.pos;holding [v] (truthy v)):=by intro _;rfl):DT X e (Q6 te) where
 mono:=RN (t:=te) h.mono
 pt:=(Ahq h.pe he).imp fun σ H Q ⟨B,F,O,ρ,R,q⟩=>⟨B,F,O,ρ,R,h.mono (fun d q v H1 s1 r1=>by
  split at q
  ·exact⟨_,Dg.mp r1,q H1 s1⟩
  ·exact q.elim) q⟩
theorem Pj{op:CmpOp}{r:R2}{t:D2}(ho:OpR X (compareOp op) r)(S:Jh X.K r t)(ha:DE X a ta)(hb:DE X b tb)(hm:behindInMarks op b=false):DT X (.Compare a [op] [b] pos) (Q6 (dOp t ta tb)) where
 mono:=RN (t:=dOp t ta tb) (J0 (t:=t) (ta:=ta) (tb:=tb) S.mono ha.mono hb.mono)
 pt:=(Ae2 ho ha.pe hb.pe hm).imp fun σ H Q ⟨B,F,O,ρ,R,q⟩=>TF (ta:=ta) (tb:=tb) S ha.mono hb.mono σ H _ ⟨B,F,O,ρ,R,J0 (t:=t) (ta:=ta) (tb:=tb) S.mono ha.mono hb.mono (fun d q v H1 s1 r1=>by
  split at q
  ·exact⟨_,Dg.mp r1,q H1 s1⟩
  ·exact q.elim) q⟩
theorem RW(ha:DE X a ta)(hb:DE X b tb):DT X (.Compare a [.Lt] [b] pos) (Q6 (dOp dLt ta tb)):=Pj VG Fe ha hb (JW _)
theorem R5(ha:DE X a ta)(hb:DE X b tb):DT X (.Compare a [.Gt] [b] pos) (Q6 (dOp dGt ta tb)):=Pj AjO Fe ha hb (JW _)
def Ag2(t:DTT):DTT:=fun ρ Q=>t ρ fun k=>Q (!k)
def AgG(t u:DTT):DTT:=fun ρ Q=>t ρ fun k=>if k=true then u ρ Q else Q false
def AlS(t u:DTT):DTT:=fun ρ Q=>t ρ fun k=>if k=true then Q true else u ρ Q
theorem Ig(ha:DT X a tA):DT X (.UnaryOp .Not a pos) (Ag2 tA) where
 mono:=fun hq h=>ha.mono (fun _ h=>hq _ h) h
 pt:=(AiT ha.pt).imp fun σ H Q ⟨B,F,O,ρ,R,q⟩=>⟨B,F,O,ρ,R,q⟩
structure DW(X:Cx)(e:Expr)(t:DTT):Prop where
 mono:∀{ρ Q Q'},(∀d,Q d→Q' d)→t ρ Q→t ρ Q'
 pw:PW X e (lT X.K t)
theorem DW.dt{t:DTT}(h:DW X e t):DT X e t:=⟨h.mono,h.pw.pt⟩
theorem Ul(ha:DT X a tA):DW X (.BoolOp .And [a] pos) tA:=⟨ha.mono,Afu ha.pt⟩
theorem Jw(ha:DT X a tA):DW X (.BoolOp .Or [a] pos) tA:=⟨ha.mono,Ah5 ha.pt⟩
theorem PW.imp{t t':TT}(h:PW X e t)(i:∀σ H Q,t' σ H Q→t σ H Q):PW X e t':=fun wh pins s σ H Q I q=>h wh pins s σ H Q I (i _ _ _ q)
theorem Xb{rest:List Expr}(ha:DT X a tA)(hb:DW X (.BoolOp .And (b::rest) pos) tB):DW X (.BoolOp .And (a::b::rest) pos) (AgG tA tB) where
 mono:=fun hq h=>ha.mono (fun k h=>by
  cases k with
  |true=>exact hb.mono hq h
  |false=>exact hq _ h) h
 pw:=(AiI ha.pt hb.pw).imp fun σ H Q ⟨B,F,O,ρ,R,q⟩=>⟨B,F,O,ρ,R,ha.mono (fun k h H1 s1=>by
  cases k with
  |true=>exact⟨B,F,O,ρ,R.same s1,hb.mono (fun k q H2 s2=>q H2 (s1.trans s2)) h⟩
  |false=>exact h H1 s1) q⟩
theorem LC{rest:List Expr}(ha:DT X a tA)(hb:DW X (.BoolOp .Or (b::rest) pos) tB):DW X (.BoolOp .Or (a::b::rest) pos) (AlS tA tB) where
 mono:=fun hq h=>ha.mono (fun k h=>by
  cases k with
  |true=>exact hq _ h
  |false=>exact hb.mono hq h) h
 pw:=(Als ha.pt hb.pw).imp fun σ H Q ⟨B,F,O,ρ,R,q⟩=>⟨B,F,O,ρ,R,ha.mono (fun k h H1 s1=>by
  cases k with
  |false=>exact⟨B,F,O,ρ,R.same s1,hb.mono (fun k q H2 s2=>q H2 (s1.trans s2)) h⟩
  |true=>exact h H1 s1) q⟩
def AnR(t:DTT)(ta tb:DTE):DTE:=fun ρ Q=>t ρ fun k=>if k=true then ta ρ Q else tb ρ Q
def Akf:DTA:=fun _ Q=>Q []
def AgB(te:DTE)(tl:DTA):DTA:=fun ρ Q=>te ρ fun d=>tl ρ fun ds=>Q (d::ds)
theorem Ac:DA X [] Akf:=⟨fun hq h=>hq _ h,M6.imp fun σ H Q ⟨B,F,O,ρ,R,q⟩=>q [] H (Same.refl H) RpL.nil⟩
theorem Aa(ha:DE X e te)(hr:DA X es tl)(hs:starEach (e::es) X.env=(false,eval e X.env)::starEach es X.env:=by rfl):DA X (e::es) (AgB te tl) where
 mono:=fun hq h=>ha.mono (fun d h=>hr.mono (fun ds h=>hq _ h) h) h
 pa:=(HJ ha.pe hr.pa hs).imp fun σ H Q ⟨B,F,O,ρ,R,q⟩=>⟨B,F,O,ρ,R,ha.mono (fun d h v H1 s1 r1=>⟨B,F,O,ρ,R.same s1,hr.mono (fun ds h vs H2 s2 r2 =>
  h (v::vs) H2 (s1.trans s2) (RpL.cons (r1.mono s2.mask) r2)) h⟩) q⟩
def dTup(tl:DTA):DTE:=fun ρ Q=>tl ρ fun ds=>ds.length≤sizeLine∧Q (.tup ds)
def AkJ(tl:DTA):DTE:=fun ρ Q=>tl ρ fun ds=>ds.length≤sizeLine∧Q (.lst ds)
theorem Iu{O:List Addr}{H:Hp}{p:Addr}{o:HO}(hp:p∉O):mask O (upd H p o) p=some o:=by rw[Az hp,BL]
theorem Bj{k}(h:DA X es tl):DE X (.Tuple es k pos) (dTup tl) where
 mono:=fun hq z=>h.mono (fun ds q=>⟨q.1,hq _ q.2⟩) z
 pe:=(Aho h.pa).imp fun σ H Q ⟨B,F,O,ρ,R,q⟩=>⟨B,F,O,ρ,R,h.mono (fun ds z vs H1 s1 r1=>⟨by rw[r1.len];exact z.1,fun p hp=>by
  have np:p∉F++O:=fun m=>(R.same s1).th p m hp
  exact z.2 (.ref p) _ (s1.trans (Same.upd hp)) (Dw.mpr ⟨p,vs,rfl,SqT.of (Iu np),r1.mono (Same.upd hp).mask⟩)⟩) q⟩
theorem Fb(h:DA X es tl):DE X (.List es pos) (AkJ tl) where
 mono:=fun hq z=>h.mono (fun ds q=>⟨q.1,hq _ q.2⟩) z
 pe:=(Acs h.pa).imp fun σ H Q ⟨B,F,O,ρ,R,q⟩=>⟨B,F,O,ρ,R,h.mono (fun ds z vs H1 s1 r1=>⟨by rw[r1.len];exact z.1,fun p hp=>by
  have np:p∉F++O:=fun m=>(R.same s1).th p m hp
  exact z.2 (.ref p) _ (s1.trans (Same.upd hp)) (Ji ⟨p,vs,rfl,(Iu np),r1.mono (Same.upd hp).mask⟩)⟩) q⟩
abbrev DSp:=List Dt→(Dt→Prop)→Prop
def lSp(K:W.Frag)(sp:DSp):Sp:=fun vs H Q _=>∃F ds,(∀a∈F,H a≠none)∧RpL K (mask F H) ds vs∧sp ds fun d=>∀v H',Same H H'→Rp K (mask F H') d v→Q v H'
def Hr(sp:DSp):Prop:=∀ds Q Q',(∀d,Q d→Q' d)→sp ds Q→sp ds Q'
def dCall(sp:DSp)(tl:DTA):DTE:=fun ρ Q=>tl ρ fun ds=>sp ds Q
theorem Agk{CX:CXT}{k:Nat}{f:Addr}{fd:FuncData}{ps:List Str}{sp:DSp}{x:Str}{p:Pos}(m:Hr sp)(G:Ho X.prog X.w X.K X.mg X.base CX0 k f fd ps (lSp X.K sp))(hr:Em k X.A)(hg:Gl X x)(hm:X.mg x=some (.ref f))
  (hk:W.keepIn X.K (.ref f)=true) (hb:Binds X.K fd ps []) (ha:DA X (e::es) tl) (hdb:(x==("__debug__":Str))=false:=by decide)
  (he:starEach (e::es) X.env=(false,eval e X.env)::starEach es X.env:=by rfl) (hpl:(backTo pos (starEach es X.env)).any (·.1)=false:=by rfl):DE X (.Call (.Name x p) (e::es) [] pos) (dCall sp tl) where
 mono:=fun hq z=>ha.mono (fun ds q=>m _ _ _ hq q) z
 pe:=(YS G hr hg hm hk hb .nil Sw ha.pa hdb he hpl).imp fun σ H Q ⟨B,F,O,ρ,R,q⟩=>⟨B,F,O,ρ,R,ha.mono (fun ds z vs H1 s1 r1=>by
  show lSp X.K sp (vs++[]) H1 Q E0
  rw[List.append_nil]
  exact⟨F++O,ds,(R.same s1).th,r1,m _ _ _ (fun d q v H2 s2 r2=>q v H2 (s1.trans s2) r2) z⟩) q⟩
variable{st:Stmt}{sts:List Stmt}{t u:DTS}
def AgZ:DTS:=fun D ρ=>D.nx ρ
def Aj9(t u:DTS):DTS:=fun D ρ=>t {D with nx:=u D} ρ
theorem Ame{D D':Ft}{P P':Bv→Prop}(h:Ft.le D D')(hp:∀ρ,P ρ→P' ρ):Ft.le {D with nx:=P} {D' with nx:=P'}:=⟨hp,h.rt,h.bk,h.ct⟩
theorem le_refl{D:Ft}:Ft.le D D:=⟨fun _ h=>h,fun _ h=>h,fun _ h=>h,fun _ h=>h⟩
theorem Bk:DSs X [] AgZ:=⟨fun hd h=>hd.nx _ h,Af4.imp fun D σ H ⟨B,F,O,ρ,R,h⟩=>h O σ H R⟩
theorem Ad(h1:DS X st t)(h2:DSs X sts u):DSs X (st::sts) (Aj9 t u) where
 mono:=fun hd h=>h1.mono (Ame hd fun ρ q=>h2.mono hd q) h
 ps:=(Qh h1.ps h2.ps).imp fun D σ H ⟨B,F,O,ρ,R,h⟩=>⟨B,F,O,ρ,R,h1.mono (D:={lD X.K B F D with nx:=u (lD X.K B F D)}) ⟨fun ρ' q O' σ' H' R'=>⟨B,F,O',ρ',R',q⟩,fun _ q=>q,fun _ q=>q,fun _ q=>q⟩ h⟩
theorem Ah(h1:DS X st t):DSs X [st] t:=⟨h1.mono,UJ h1.ps⟩
def AbU:DTS:=fun _ _=>False
theorem HB:DS X st AbU:=⟨fun _ h=>h.elim,AcM.imp fun D σ H ⟨B,F,O,ρ,R,h⟩=>h.elim⟩
def Aha(te:DTE):DTS:=fun D ρ=>te ρ fun _=>D.nx ρ
theorem Gs(he:DE X e te)(hs:swapsWith e none pos.line X.env=pure false:=by rfl):DS X (.Expr e pos) (Aha te) where
 mono:=fun hd h=>he.mono (fun _ h=>hd.nx _ h) h
 ps:=(Kh he.pe hs).imp fun D σ H ⟨B,F,O,ρ,R,h⟩=>⟨B,F,O,ρ,R,he.mono (fun d q v H1 s1 _=>q O σ H1 (R.same s1)) h⟩
def Ajw(te:DTE):DTS:=fun D ρ=>te ρ D.rt
theorem Ab5{F O:List Addr}{H:Hp}:Same (mask (F++O) H) (mask F H):=Dy fun _ h=>List.mem_append_left _ h
theorem Av(he:DE X e te):DS X (.Return (some e) pos) (Ajw te) where
 mono:=fun hd h=>he.mono (fun _ h=>hd.rt _ h) h
 ps:=(Ah7 he.pe).imp fun D σ H ⟨B,F,O,ρ,R,h⟩=>⟨B,F,O,ρ,R,he.mono (fun d q v H1 s1 r1=>q v H1 (R.base.trans s1) (r1.mono Ab5)) h⟩
def Akh:DTS:=fun D _=>D.rt .non
def dIf(c:DTT)(t u:DTS):DTS:=fun D ρ=>c ρ fun k=>if k=true then t D ρ else u D ρ
theorem Cm{sa sb:List Stmt}(hc:DT X c tA)(ha:DSs X sa t)(hb:DSs X sb u):DS X (.If c sa sb pos) (dIf tA t u) where
 mono:=fun hd h=>hc.mono (fun k h=>by
  cases k with
  |true=>exact ha.mono hd h
  |false=>exact hb.mono hd h) h
 ps:=(AkR hc.pt ha.ps hb.ps).imp fun D σ H ⟨B,F,O,ρ,R,h⟩=>⟨B,F,O,ρ,R,hc.mono (fun k h H1 s1=>by
  cases k with
  |true=>exact⟨B,F,O,ρ,R.same s1,h⟩
  |false=>exact⟨B,F,O,ρ,R.same s1,h⟩) h⟩
abbrev DTG:=Dt→Bv→(Bv→Prop)→Prop
abbrev Q7:=List Dt→Bv→(Bv→Prop)→Prop
def lG(K:W.Frag)(g:DTG):TG:=fun v σ H Q=>∃B F O ρ d,Rep K B F O H σ ρ∧Rp K (mask (F++O) H) d v∧g d ρ fun ρ'=>∀σ',Rep K B F O H σ' ρ'→Q σ' H
def lGs(K:W.Frag)(g:Q7):TGs:=fun vs σ H Q=>∃B F O ρ ds,Rep K B F O H σ ρ∧RpL K (mask (F++O) H) ds vs∧g ds ρ fun ρ'=>∀σ',Rep K B F O H σ' ρ'→Q σ' H
structure DG(X:Cx)(tg:Expr)(g:DTG):Prop where
 mono:∀{d ρ Q Q'},(∀ρ',Q ρ'→Q' ρ')→g d ρ Q→g d ρ Q'
 pg:PG X tg (lG X.K g)
structure DGs(X:Cx)(tgs:List Expr)(g:Q7):Prop where
 mono:∀{d ρ Q Q'},(∀ρ',Q ρ'→Q' ρ')→g d ρ Q→g d ρ Q'
 pg:PGs X tgs (lGs X.K g)
theorem PG.imp{e:Expr}{t t':TG}(h:PG X e t)(i:∀v σ H Q,t' v σ H Q→t v σ H Q):PG X e t':=fun pins s σ H v u Q I r q=>h pins s σ H v u Q I r (i _ _ _ _ q)
theorem PGs.imp{e:List Expr}{t t':TGs}(h:PGs X e t)(i:∀v σ H Q,t' v σ H Q→t v σ H Q):PGs X e t':=fun pins s σ H v u Q I r q=>h pins s σ H v u Q I r (i _ _ _ _ q)
def Yk(i:Nat):DTG:=fun d ρ Q=>Q (ρ.set i (some (.is d)))
theorem Ay(i:Nat){x:Str}(hN:X.N.Nodup)(hi:X.N[i]? = some x:=by rfl)(hx:Loc X.env.scope x:=by first | exact Or.inl rfl | exact Or.inr rfl)
  (hf:X.fn x=true∨X.env.scope.names.lookup x=some .local:=by first|exact .inl rfl|exact .inr rfl|assumption):DG X (.Name x pos) (Yk i) where
 mono:=fun hq h=>hq _ h
 pg:=(T9 hN hi hx hf).imp fun v σ H Q ⟨B,F,O,ρ,d,R,r,h⟩=>h _ (R.set i r)
def Za:Q7:=fun ds ρ Q=>match ds with
 | []=>Q ρ
 |_=>False
def U0(g:DTG)(gs:Q7):Q7:=fun ds ρ Q=>match ds with
 |d::r=>g d ρ fun ρ'=>gs r ρ' Q
 | []=>False
theorem Ga:DGs X [] Za where
 mono:=fun hq h=>by
  unfold Za at h ⊢
  split at h
  ·exact hq _ h
  ·exact h.elim
 pg:=Aes.imp fun vs σ H Q ⟨B,F,O,ρ,ds,R,r,h⟩=>by
  unfold Za at h
  split at h
  ·exact⟨Br.mp r,h σ R⟩
  ·exact h.elim
theorem Ba{g:DTG}{gs:Q7}(h1:DG X e g)(h2:DGs X es gs)(hs:(assignEach (e::es) X.env).map (·.2)=assign e X.env::(assignEach es X.env).map (·.2):=by rfl):DGs X (e::es) (U0 g gs) where
 mono:=fun hq h=>by
  unfold U0 at h ⊢
  split at h
  ·exact h1.mono (fun ρ' q=>h2.mono hq q) h
  ·exact h.elim
 pg:=(Ac8 h1.pg h2.pg hs).imp fun vs σ H Q ⟨B,F,O,ρ,ds,R,r,h⟩=>by
  unfold U0 at h
  split at h
  ·obtain⟨v,vr,rfl,r1,r2⟩:=Ax.mp r
   exact⟨v,vr,rfl,B,F,O,ρ,_,R,r1,h1.mono (fun ρ' q σ' R'=>⟨B,F,O,ρ',_,R',r2,q⟩) h⟩
  ·exact h.elim
def Zb(n:Nat)(gs:Q7):DTG:=fun d ρ Q=>match d with
 |.tup ds=>ds.length=n∧gs ds ρ Q
 |_=>False
theorem Jt{k:Nat}{gs:Q7}{n:Nat}(hc:X.calm=true)(h:DGs X es gs)(hn:(assignEach es X.env).length=n:=by rfl)(hst:(assignEach es X.env).findIdx? (·.1)=none:=by rfl):DG X (.Tuple es k pos) (Zb n gs) where
 mono:=fun hq z=>by
  unfold Zb at z ⊢
  split at z
  ·exact⟨z.1,h.mono hq z.2⟩
  ·exact z.elim
 pg:=(Aik hc h.pg hn hst).imp fun v σ H Q ⟨B,F,O,ρ,d,R,r,z⟩=>by
  unfold Zb at z
  split at z
  ·obtain⟨a,xs,rfl,hs,hl⟩:=Dw.mp r
   exact⟨a,xs,rfl,Bw.fP hs,by rw[hl.len];exact z.1,B,F,O,ρ,_,R,hl,z.2⟩
  ·exact z.elim
def Ah8(te:DTE)(g:DTG):DTS:=fun D ρ=>te ρ fun d=>g d ρ D.nx
theorem HY{tg:Expr}{g:DTG}(he:DE X e te)(hg:DG X tg g)(hs:swapsWithSole [tg] e pos.line X.env=pure false:=by rfl)(hw:swappedStores [tg] e X.env=pure none:=by rfl)
  (h1:(assignEach [tg] X.env).map (·.2)=[assign tg X.env]:=by rfl):DS X (.Assign [tg] e pos) (Ah8 te g) where
 mono:=fun hd h=>he.mono (fun _ h=>hg.mono (fun _ h=>hd.nx _ h) h) h
 ps:=(AhR he.pe hg.pg hs hw h1).imp fun D σ H ⟨B,F,O,ρ,R,h⟩=>⟨B,F,O,ρ,R,he.mono (fun d q v H1 s1 r1=>⟨B,F,O,ρ,d,R.same s1,r1,hg.mono (fun ρ' q σ' R'=>q O σ' H1 R') q⟩) h⟩
def Adb(c:DTT)(tb:DTS):DTS:=fun D ρ=>∃W:Nat→Bv→Prop,(∃m,W m ρ)∧∀m ρ,W m ρ →
 c ρ fun k=>if k=true then tb {D with nx:=fun ρ'=>∃m',m'<m∧W m' ρ',ct:=fun ρ'=>∃m',m'<m∧W m' ρ',bk:=D.nx} ρ else D.nx ρ
theorem HF{body:List Stmt}(hp:PassesOwn (model X.prog X.w) X.A X.env X.xe)(hc:DT X c tA)(hb:DSs X body t):DS X (.While c body [] pos) (Adb tA t) where
 mono:=fun{ρ D D'} hd ⟨W,h0,h⟩=>⟨W,h0,fun m ρ w=>hc.mono (fun k h=>by
  cases k with
  |true=>exact hb.mono (D:={D with nx:=fun ρ'=>∃m',m'<m∧W m' ρ',ct:=fun ρ'=>∃m',m'<m∧W m' ρ',bk:=D.nx}) ⟨fun _ q=>q,hd.rt,hd.nx,fun _ q=>q⟩ h
  |false=>exact hd.nx _ h) (h m ρ w)⟩
 ps:=(AdS hp hc.pt hb.ps).imp fun D σ H ⟨B,F,O,ρ,R,W,⟨m0,w0⟩,h⟩=>by
  refine⟨fun m σ H=>∃O ρ,Rep X.K B F O H σ ρ∧W m ρ,⟨m0,O,ρ,R,w0⟩,?_⟩
  rintro m σ H ⟨O,ρ,R,w⟩
  refine⟨B,F,O,ρ,R,hc.mono (fun k h H1 s1=>?_) (h m ρ w)⟩
  cases k with
  | true =>
   refine⟨fun σ' H'=>∃m',m'<m∧∃O ρ,Rep X.K B F O H' σ' ρ∧W m' ρ,fun σ' H' ⟨m',l,q⟩=>⟨m',l,q⟩,B,F,O,ρ,R.same s1,hb.mono (D:={lD X.K B F D with nx:=fun ρ'=>∃m',m'<m∧W m' ρ',ct:=fun ρ'=>∃m',m'<m∧W m' ρ',bk:=(lD X.K B F D).nx}) ⟨?_,fun _ q=>q,fun _ q=>q,?_⟩ h⟩
   ·rintro ρ' ⟨m',l,w'⟩ O' σ' H' R'
    exact⟨m',l,O',ρ',R',w'⟩
   ·rintro ρ' ⟨m',l,w'⟩ O' σ' H' R'
    exact⟨m',l,O',ρ',R',w'⟩
  |false=>exact h O σ H1 (R.same s1)
def ItD(K:W.Frag)(M:Hp)(J:It)(items:List Dt):Prop:=∀H,Same M H →
 (∀(k:Nat) d,items[k]? = some d→J.go k H∧∀x H',J.yld k H x H'→H'=H∧Rp K M d x)∧J.stop items.length H
abbrev DTI:=Bv→(List Dt→Prop)→Prop
def lI(K:W.Frag)(ti:DTI):TI:=fun σ H R=>∃B F O ρ,Rep K B F O H σ ρ∧ti ρ fun items=>∀J H',Same H H'→ItD K (mask (F++O) H') J items→R J H'
structure DI(X:Cx)(tg iter:Expr)(ti:DTI):Prop where
 mono:∀{ρ Q Q'},(∀d,Q d→Q' d)→ti ρ Q→ti ρ Q'
 pi:PI X tg iter (lI X.K ti)
theorem PI.imp{tg e:Expr}{t t':TI}(h:PI X tg e t)(i:∀σ H Q,t' σ H Q→t σ H Q):PI X tg e t':=fun pins s σ H R I q=>h pins s σ H R I (i _ _ _ q)
def Afs(ti:DTI)(g:DTG)(tb:DTS):DTS:=fun D ρ=>ti ρ fun items=>∃W:Nat→Bv→Prop,W 0 ρ ∧
 (∀(k:Nat) d ρ',items[k]? = some d→W k ρ'→g d ρ' fun ρ2=>tb {D with nx:=W (k+1),ct:=W (k+1),bk:=D.nx} ρ2)∧∀ρ',W items.length ρ'→D.nx ρ'
theorem Rep.rebase{K:W.Frag}{B:Hp}{F O:List Addr}{H:Hp}{σ:St}{ρ:Bv}(r:Rep K B F O H σ ρ):Rep K (mask O H) F O H σ ρ :=
 ⟨r.len,Bw,fun _ h=>Cz h,r.th,r.is,r.own,r.inj,r.tab,r.g8,r.raw⟩
theorem Rep.oZ{K:W.Frag}{B B':Hp}{F O O':List Addr}{H H':Hp}{σ σ':St}{ρ ρ':Bv}(r:Rep K B F O H σ ρ)(r':Rep K (mask O H) F O' H' σ' ρ'):Rep K B F O' H' σ' ρ':=by
 have s:Same B (mask O H):=fun a o e=>by
  rw[Az]
  ·exact r.base a o e
  ·intro z;rw[r.fr a z]at e;cases e
 refine⟨r'.len,s.trans r'.base,fun a h=>?_,r'.th,r'.is,r'.own,r'.inj,r'.tab,r'.g8,r'.raw⟩
 cases q:B a with
 |none=>rfl
 |some o=>have:=s a o q;rw[r'.fr a h]at this;cases this
theorem Rep.sub{K:W.Frag}{B:Hp}{F O:List Addr}{H:Hp}{σ:St}{ρ:Bv}(r:Rep K B F O H σ ρ):Same B (mask O H):=fun a o e=>by
 rw[Az]
 ·exact r.base a o e
 ·intro z;rw[r.fr a z]at e;cases e
theorem AaZ{F O:List Addr}{H:Hp}:mask F (mask O H)=mask (F++O) H:=by
 funext a
 by_cases h1:a∈F
 ·rw[Cz h1,Cz (List.mem_append_left _ h1)]
 ·rw[Az h1]
  by_cases h2:a∈O
  ·rw[Cz h2,Cz (List.mem_append_right _ h2)]
  ·rw[Az h2,Az fun z=>(List.mem_append.mp z).elim h1 h2]
theorem Jm{tg iter:Expr}{body:List Stmt}{ti:DTI}{g:DTG}(hp:PassesOwn (model X.prog X.w) X.A X.env X.xe)(hc:X.calm=true)(hi:DI X tg iter ti)(hg:DG X tg g)(hb:DSs X body t)
  (hs:∀x,foldedSetIterable iter X.env x=pure x:=by intro _;rfl):DS X (.For tg iter body [] pos) (Afs ti g t) where
 mono:=fun{ρ D D'} hd h=>hi.mono (fun items ⟨W,h0,h,he⟩=>⟨W,h0,fun k d ρ' e w=>hg.mono (fun ρ2 q=>hb.mono (D:={D with nx:=W (k+1),ct:=W (k+1),bk:=D.nx}) ⟨fun _ q=>q,hd.rt,hd.nx,fun _ q=>q⟩ q) (h k d ρ' e w),fun ρ' w=>hd.nx _ (he ρ' w)⟩) h
 ps:=(Abr hp hc hi.pi hg.pg hb.ps hs).imp fun D σ H ⟨B,F,O,ρ,R,h⟩=>by
  refine⟨B,F,O,ρ,R,hi.mono (fun items z J H1 s1 it=>?_) h⟩
  obtain⟨W,h0,h,he⟩:=z
  have R1:=R.same s1
  refine⟨fun i m σ H=>m+i=items.length∧∃O' ρ',Rep X.K (mask O H1) F O' H σ ρ'∧W i ρ',⟨items.length,by omega,O,ρ,R1.rebase,h0⟩,?_⟩
  rintro i m σ2 H2 ⟨hm,O',ρ',R2,w⟩
  have sb:Same (mask (F++O) H1) H2:=fun a o e=>R2.base a o (by
   obtain⟨q,e⟩:=BR e
   rw[Az fun z=>q (List.mem_append_right _ z)];exact e)
  obtain⟨go,stop⟩:=it H2 sb
  by_cases hlt:i<items.length
  ·refine .inr ⟨(go i items[i] (by simp[hlt])).1,fun σ' H'=>∃O' ρ',Rep X.K (mask O H1) F O' H' σ' ρ'∧W (i+1) ρ',fun σ' H' q=>⟨m-1,by omega,by omega,q⟩,fun x H3 y=>?_⟩
   obtain⟨e,r⟩:=(go i items[i] (by simp[hlt])).2 x H3 y
   subst e
   have r':Rp X.K (mask (F++O') H3) items[i] x:=r.mono (by rw[←AaZ];exact R2.below)
   refine⟨_,F,O',ρ',_,R2,r',hg.mono (fun ρ2 q σ3 R3=>⟨_,F,O',ρ2,R3,hb.mono (D:={lD X.K B F D with nx:=W (i+1),ct:=W (i+1),bk:=(lD X.K B F D).nx}) ⟨?_,?_,?_,?_⟩ q⟩) (h i _ ρ' (by simp[hlt]) w)⟩
   ·exact fun ρ4 w4 O4 σ4 H4 R4=>⟨O4,ρ4,R4,w4⟩
   ·exact fun d q v H4 s4 r4=>q v H4 (R1.sub.trans s4) r4
   ·exact fun ρ4 q O4 σ4 H4 R4=>q O4 σ4 H4 (R1.oZ (B':=B) R4)
   ·exact fun ρ4 w4 O4 σ4 H4 R4=>⟨O4,ρ4,R4,w4⟩
  ·have e:i=items.length:=by omega
   subst e
   exact .inl ⟨stop,he ρ' w O' σ2 H2 (R1.oZ (B':=B) R2)⟩
def AgT(te:DTE):DTI:=fun ρ Q=>te ρ fun d=>match d with
 |.lst ds=>Q ds
 |_=>False
def AgJ(te:DTE):DTI:=fun ρ Q=>te ρ fun d=>match d with
 |.tup ds=>Q ds
 |_=>False
theorem GP{tg:Expr}(h:DE X e te):DI X tg e (AgT te) where
 mono:=fun hq z=>h.mono (fun d z=>by
  split at z
  ·exact hq _ z
  ·exact z.elim) z
 pi:=(Z1 h.pe).imp fun σ H Q ⟨B,F,O,ρ,R,z⟩=>⟨B,F,O,ρ,R,h.mono (fun d z v H1 s1 r1=>by
  split at z
  ·obtain⟨a,xs,rfl,hs,hl⟩:=DY r1
   refine⟨a,rfl,⟨xs,Bw.seq hs⟩,z _ H1 s1 fun H2 s2=>⟨fun k d e=>?_,xs,s2.seq hs,by rw[hl.len];exact Nat.le_refl _⟩⟩
   obtain⟨x,e1,e2⟩:=hl.get e
   refine⟨⟨xs,x,s2.seq hs,e1⟩,fun y H3 ⟨e3,e4⟩=>⟨e3,?_⟩⟩
   have e5:=e4 xs (s2.seq hs)
   rw[e1]at e5;cases e5;exact e2
  ·exact z.elim) z⟩
theorem AhN{tg:Expr}(h:DE X e te):DI X tg e (AgJ te) where
 mono:=fun hq z=>h.mono (fun d z=>by
  split at z
  ·exact hq _ z
  ·exact z.elim) z
 pi:=(Ahv h.pe).imp fun σ H Q ⟨B,F,O,ρ,R,z⟩=>⟨B,F,O,ρ,R,h.mono (fun d z v H1 s1 r1=>by
  split at z
  ·obtain⟨a,xs,rfl,hs,hl⟩:=Dw.mp r1
   refine⟨a,rfl,⟨xs,Bw.fP hs⟩,z _ H1 s1 fun H2 s2=>⟨fun k d e=>?_,xs,s2.fP hs,by rw[hl.len];exact Nat.le_refl _⟩⟩
   obtain⟨x,e1,e2⟩:=hl.get e
   refine⟨⟨xs,x,s2.fP hs,e1⟩,fun y H3 ⟨e3,e4⟩=>⟨e3,?_⟩⟩
   have e5:=e4 xs (s2.fP hs)
   rw[e1]at e5;cases e5;exact e2
  ·exact z.elim) z⟩
def ups(lo:Int)(n:Nat):List Dt:=(List.range n).map fun i=>.int (lo+(i:Nat))
theorem O9{lo:Int}{n:Nat}:(ups lo n).length=n:=by simp[ups]
theorem Ox{lo:Int}{n k:Nat}{d:Dt}(h:(ups lo n)[k]? = some d):k<n∧d=.int (lo+(k:Nat)):=by
 unfold ups at h
 rw[List.getElem?_map]at h
 by_cases hk:k<n
 ·rw[List.getElem?_range hk]at h
  exact⟨hk,(Option.some.inj h).symm⟩
 ·rw[List.getElem?_eq_none (by simpa using hk)]at h;cases h
theorem RD{K:W.Frag}{M:Hp}{lo:Int}{n:Nat}:ItD K M (Itr lo n) (ups lo n):=fun H _=>by
 refine⟨fun k d e=>?_,?_⟩
 ·obtain⟨hk,rfl⟩:=Ox e
  exact⟨hk,fun x H' y=>⟨y.1,Bh.mpr y.2⟩⟩
 ·rw[O9];exact Nat.le_refl n
def AdF(tl:DTA):DTI:=fun ρ Q=>tl ρ fun ds=>match ds with
 | [.int j]=>(-(2 ^ 62)≤j∧j<2 ^ 62)∧Q (ups 0 j.toNat)
 |_=>False
def AcY(tl:DTA):DTI:=fun ρ Q=>tl ρ fun ds=>match ds with
 | [.int i,.int j]=>(-(2 ^ 62)≤i∧i<2 ^ 62∧-(2 ^ 62)≤j∧j<2 ^ 62)∧Q (ups i (j-i).toNat)
 |_=>False
theorem Agy{tg:Expr}{p:Pos}(hg:Gl X "range")(hm:X.mg "range"=none)(ha:DA X [a] tl)(hs:starEach [a] X.env=[(false,eval a X.env)]:=by rfl):DI X tg (.Call (.Name "range" p) [a] [] pos) (AdF tl) where
 mono:=fun hq z=>ha.mono (fun d z=>by
  split at z
  ·exact⟨z.1,hq _ z.2⟩
  ·exact z.elim) z
 pi:=(AaB hg hm ha.pa hs).imp fun σ H Q ⟨B,F,O,ρ,R,z⟩=>⟨B,F,O,ρ,R,ha.mono (fun d z vs H1 s1 r1=>by
  split at z
  ·obtain⟨v,r,rfl,r2,r3⟩:=Ax.mp r1
   rw[Br.mp r3,Bh.mp r2]
   exact⟨_,rfl,z.1.1,z.1.2,z.2 _ H1 s1 RD⟩
  ·exact z.elim) z⟩
theorem Aaj{tg:Expr}{p:Pos}(hg:Gl X "range")(hm:X.mg "range"=none)(ha:DA X [a,b] tl)(hs:starEach [a,b] X.env=[(false,eval a X.env),(false,eval b X.env)]:=by rfl)(hs2:starEach [b] X.env=[(false,eval b X.env)]:=by rfl) :
  DI X tg (.Call (.Name "range" p) [a,b] [] pos) (AcY tl) where
 mono:=fun hq z=>ha.mono (fun d z=>by
  split at z
  ·exact⟨z.1,hq _ z.2⟩
  ·exact z.elim) z
 pi:=(Aa2 hg hm ha.pa hs hs2).imp fun σ H Q ⟨B,F,O,ρ,R,z⟩=>⟨B,F,O,ρ,R,ha.mono (fun d z vs H1 s1 r1=>by
  split at z
  ·obtain⟨v,r,rfl,r2,r3⟩:=Ax.mp r1
   obtain⟨v',r',rfl,r4,r5⟩:=Ax.mp r3
   rw[Br.mp r5,Bh.mp r2,Bh.mp r4]
   exact⟨_,_,rfl,z.1,z.2 _ H1 s1 RD⟩
  ·exact z.elim) z⟩
end
def Fx(N:List Str)(ds:List Dt):Bv:=ds.map (fun d=>some (.is d))++List.replicate (N.length-ds.length) none
theorem Aat{K:W.Frag}{F:List Addr}{H:Hp}{N:List Str}{ds:List Dt}{vs:List V}(hF:∀a∈F,H a≠none)(r:RpL K (mask F H) ds vs):Rep K H F [] H (start N vs) (Fx N ds):=by
 have hl:=r.len
 have cH:∀(i:Nat)(es:En),(∀z,es≠.is z)→(Fx N ds)[i]? = some (some es)→False:=fun i es nz e=>by
  unfold Fx at e
  by_cases hi:i<ds.length
  ·rw[List.getElem?_append_left (by simpa using hi),List.getElem?_map]at e
   cases q:ds[i]? with
   |none=>rw[q]at e;cases e
   |some d=>rw[q]at e;cases e;exact nz d rfl
  ·rw[List.getElem?_append_right (by simpa using hi),List.getElem?_replicate]at e
   split at e<;>cases e
 refine⟨?_,Same.refl H,fun a h=>(nomatch h),fun a h=>hF a (by simpa using h),fun i d e=>?_,fun i es e=>(cH i _ (fun _ z=>by cases z) e).elim,fun i j es es' a h1=>(cH i _ (fun _ z=>by cases z) h1).elim,fun i es e=>(cH i _ (fun _ z=>by cases z) e).elim,fun i j es es' a h1=>(cH i _ (fun _ z=>by cases z) h1).elim,fun i v e=>(cH i _ (fun _ z=>by cases z) e).elim⟩
 ·unfold start Fx;simp[hl]
 ·unfold Fx at e
  by_cases hi:i<ds.length
  ·rw[List.getElem?_append_left (by simpa using hi),List.getElem?_map]at e
   cases q:ds[i]? with
   |none=>rw[q]at e;cases e
   | some d' =>
    rw[q]at e;cases e
    obtain⟨v,e1,e2⟩:=r.get q
    refine⟨v,?_,by rw[List.append_nil];exact e2⟩
    unfold start
    rw[List.getElem?_append_left (by simp;omega),List.getElem?_map,e1];rfl
  ·rw[List.getElem?_append_right (by simpa using hi),List.getElem?_replicate]at e
   split at e<;>cases e
section
variable{P:Program}{w:World}{K:W.Frag}{mg:Str→Option Value}{base:Heap}
theorem Fun.okD{x qual:Str}{st:Stmt}{f:Addr}{fd:FuncData}{N ps:List Str}{k:Nat}{sp:DSp}(F:Fun K x qual st f fd)(S:Aq N ps (Ai st))(len:∀ds Q,sp ds Q→ds.length=ps.length)
  (hbody:∀(cdv:Value)(A:Around)(outer:List Env)(s:Shared)(H:Hp)(E:XK),Em k (A.deeper (envOfC qual (Ai st) s.heap.objs.size f cdv)) →
   ∃t,DSs (Yz CX0 P w K mg base N qual (Ai st) f cdv A outer s H E).nox (Du st) t∧∀ds Q,sp ds Q→t {nx:=fun _=>Q .non,rt:=Q} (Fx N ds)):Ho P w K mg base CX0 (k+1) f fd ps (lSp K sp):=by
 refine F.ok S (fun vs H Q E ⟨F,ds,_,r,h⟩=>by rw[r.len];exact len _ _ h) fun cdv A outer s H vs Q E hr ⟨F',ds,hF,r,h⟩=>?_
 obtain⟨t,T,q⟩:=hbody cdv A outer s H E hr
 refine⟨_,T.ps,H,F',[],Fx N ds,Aat hF r,T.mono (D:={nx:=fun _=>∀v H',Same H H'→Rp K (mask F' H') .non v→Q v H',rt:=fun d=>∀v H',Same H H'→Rp K (mask F' H') d v→Q v H'}) ⟨?_,?_,fun _ z=>False.elim z,fun _ z=>False.elim z⟩ (q ds _ h)⟩
 ·exact fun ρ z O' σ' H' R'=>z .non H' R'.base (JV.mpr rfl)
 ·exact fun d z v H' s' r'=>z v H' s' r'
end
end L2
namespace L2
open PySem Spec PyProof.Rows SeqAt
structure FnT(K:W.Frag)(mg:Str→Option Value)(x:Str)(st:Stmt)(ps:List Str)(f:Addr)(fd:FuncData):Prop where
 fn:Fun K x x st f fd
 mg:mg x=some (.ref f)
 bd:Binds K fd ps []
def Pm(P:Program)(w:World)(K:W.Frag)(mg:Str→Option Value)(base:Heap)(k:Nat)(x:Str)(st:Stmt)(ps:List Str)(sp:DSp):Prop :=
 ∃f fd,FnT K mg x st ps f fd∧Ho P w K mg base CX0 k f fd ps (lSp K sp)
theorem Fun.uniq{K:W.Frag}{x q:Str}{st:Stmt}{f:Addr}{fd fd':FuncData}(a:Fun K x q st f fd)(b:Fun K x q st f fd'):fd=fd':=by
 obtain⟨oc,od,kV,doc,pm,an,cdv,ct,osl,_,h1,_⟩:=a.ex
 obtain⟨oc',od',kV',uE,pm',an',uF,ct',uG,_,h2,_⟩:=b.ex
 rw[h1]at h2
 injection h2 with h2
 injection h2 with _ _ h2 _
 injection h2
def spec{τ:Type}(args:τ→List Dt)(pre:τ→Prop)(post:τ→Dt→Prop):DSp:=fun ds Q=>∃p,ds=args p∧pre p∧∀d,post p d→Q d
theorem Af{τ:Type}{args:τ→List Dt}{pre:τ→Prop}{post:τ→Dt→Prop}:Hr (spec args pre post):=fun _ _ _ hq ⟨p,e,h,q⟩=>⟨p,e,h,fun d z=>hq _ (q d z)⟩
abbrev CN{τ:Type}(args:τ→List Dt)(pre:τ→Prop)(val:τ→Dt):DSp:=spec args pre fun p d=>d=val p
abbrev T2(a b:Int):Dt:=.tup [.int a,.int b]
abbrev T3(a b c:Int):Dt:=.tup [.int a,.int b,.int c]
abbrev T4(a b c d:Int):Dt:=.tup [.int a,.int b,.int c,.int d]
def AgA:DSp:=spec (fun ns:List Int=>[.lst (ns.map Dt.int)]) (fun ns=>ns.length≤63) fun _ d=>d=.bl true
theorem Adh{H:Hp}:mask [] H=H:=by funext a;exact Az (by simp)
theorem AaI{K:W.Frag}{H:Hp}{a:Addr}{ns:List Int}{E:XK}(hl:ns.length≤63)(hS:SqL K H a (ns.map V.int)):lSp K AgA [.ref a] H (fun v _=>v=.bl true) E :=
 ⟨[],[.lst (ns.map Dt.int)],fun _ h=>(nomatch h),RpL.cons (Afd (by rw[Adh];exact hS) (RpL.ints ns)) RpL.nil,ns,rfl,hl,fun d e v H' s r=>by subst e;exact Dg.mp r⟩
section
variable{X:Cx}{a b c e:Expr}{es:List Expr}{ta tb tc te:DTE}{tA tB:DTT}{tl:DTA}{pos:Pos}
theorem Ag{k:Nat}{ps:List Str}{sp:DSp}{x:Str}{stx:Stmt}{p:Pos}(m:Hr sp)(G:Pm X.prog X.w X.K X.mg X.base k x stx ps sp)(hr:Em k X.A)(hg:Gl X x)
  (ha:DA X (e::es) tl) (hdb:(x==("__debug__":Str))=false:=by decide)
  (he:starEach (e::es) X.env=(false,eval e X.env)::starEach es X.env:=by rfl) (hpl:(backTo pos (starEach es X.env)).any (·.1)=false:=by rfl):DE X (.Call (.Name x p) (e::es) [] pos) (dCall sp tl):=by
 obtain⟨f,fd,F,G⟩:=G
 exact Agk (CX:=CX0) m G hr hg F.mg F.fn.kp F.bd ha hdb he hpl
theorem Aw(i:Nat){x:Str}{pos':Pos}(hN:X.N.Nodup)(he:DE X e te)(hi:X.N[i]? = some x:=by rfl)(hx:Loc X.env.scope x:=by first | exact Or.inl rfl | exact Or.inr rfl)(hs:swapsWith e (some (.Name x pos')) pos.line X.env=pure false:=by rfl)
  (hf:X.fn x=true∨X.env.scope.names.lookup x=some .local:=by first|exact .inl rfl|exact .inr rfl|assumption):DS X (.Assign [.Name x pos'] e pos) (Ah8 te (Yk i)) where
 mono:=fun hd h=>he.mono (fun _ h=>hd.nx _ h) h
 ps:=(Xa hN hi hx he.pe hs hf).imp fun D σ H ⟨B,F,O,ρ,R,h⟩=>⟨B,F,O,ρ,R,he.mono (fun d q v H1 s1 r1=>q O _ H1 ((R.same s1).set i r1)) h⟩
def AgE(i j:Nat)(tl:DTA):DTS:=fun D ρ=>tl ρ fun ds=>match ds with
 | [d,e]=>D.nx ((ρ.set i (some (.is d))).set j (some (.is e)))
 |_=>False
theorem Z7{x y:Str}{px py pt:Pos}{kt k2 pt2}(hc:X.calm=true)(hN:X.N.Nodup)(i j:Nat)(ha:DA X [a,b] tl)(hi:X.N[i]? = some x:=by rfl)(hj:X.N[j]? = some y:=by rfl)(hij:i≠j:=by decide)
  (hx:X.env.scope.names.lookup x=some .local:=by rfl) (hy:X.env.scope.names.lookup y=some .local:=by rfl)
  (hw:swappedStores [.Tuple [.Name x px,.Name y py] kt pt] (.Tuple [a,b] k2 pt2) X.env=pure (some [x,y]):=by rfl)
  (hs:swapsWithSole [.Tuple [.Name x px,.Name y py] kt pt] (.Tuple [a,b] k2 pt2) pos.line X.env=pure false:=by rfl) :
  DS X (.Assign [.Tuple [.Name x px,.Name y py] kt pt] (.Tuple [a,b] k2 pt2) pos) (AgE i j tl) where
 mono:=fun hd h=>ha.mono (fun ds h=>by
  split at h
  ·exact hd.nx _ h
  ·exact h.elim) h
 ps:=(Aic hc hN hi hj hij hx hy ha.pa hw hs).imp fun D σ H ⟨B,F,O,ρ,R,h⟩=>⟨B,F,O,ρ,R,ha.mono (fun ds q vs H1 s1 r1=>by
  split at q
  ·obtain⟨v,r,rfl,r2,r3⟩:=Ax.mp r1
   obtain⟨v',r',rfl,r4,r5⟩:=Ax.mp r3
   obtain rfl:=Br.mp r5
   exact⟨v,v',rfl,q O _ H1 (((R.same s1).set i r2).set j r4)⟩
  ·exact q.elim) h⟩
mutual
def Dt.py:Dt→PyData
 |.non=>.none
 |.bl b=>.bool b
 |.int i=>.int i
 |.str x=>.str x
 |.tup ds=>.tuple (Dt.pys ds)
 |.lst ds=>.list (Dt.pys ds)
 |.fn _=>.dict []
 |.exc _ _ _=>.dict []
 |.obj _ _ _=>.dict []
def Dt.pys:List Dt→List PyData
 | []=>[]
 |d::ds=>d.py::Dt.pys ds
end
mutual
theorem J3{X:Cx}{pins:List (Addr×Obj)}{σ:St}{H:Hp}{s:Shared}(I:Inv X pins σ H s):∀{d:Dt} {v:V} {u:Value},d.py.canLay0=true→Rp X.K H d v→RelV v u→∃as,Reads s.heap u d.py as
 |.non,v,u,_,h,r=>by rw[JV.mp h]at r;cases(show u=.none from r);exact⟨_,by rw[Dt.py];exact .none⟩
 |.bl b,v,u,_,h,r=>by rw[Dg.mp h]at r;cases(show u=.bool b from r);exact⟨_,by rw[Dt.py];exact .bool b⟩
 |.int i,v,u,_,h,r=>by rw[Bh.mp h]at r;obtain⟨t,rfl⟩:=r;exact⟨_,by rw[Dt.py];exact .int i t⟩
 |.str x,v,u,_,h,r=>by rw[M5.mp h]at r;obtain⟨t,rfl⟩:=r;exact⟨_,by rw[Dt.py];exact .str x t⟩
 |.fn a,v,u,c,h,r=>by rw[Dt.py]at c;exact(nomatch c)
 |.exc _ _ _,v,u,c,h,r=>by rw[Dt.py]at c;exact(nomatch c)
 |.obj _ _ _,v,u,c,h,r=>by rw[Dt.py]at c;exact(nomatch c)
 | .tup ds,v,u,c,h,r=>by
  obtain⟨a,xs,rfl,hs,hl⟩:=Dw.mp h
  cases(show u=.ref a from r)
  obtain⟨its,rv,⟨o,h1,h2,n,h3⟩,_⟩:=I.tuple hs
  rw[Dt.py]at c
  obtain⟨as,ra⟩:=Nv I (ds:=ds) (by simpa [PyData.canLay0] using c) hl rv
  exact⟨_,by rw[Dt.py];exact .tuple h1 h2 h3 (by simpa using ra)⟩
 | .lst ds,v,u,c,h,r=>by
  obtain⟨a,xs,rfl,hs,hl⟩:=DY h
  cases(show u=.ref a from r)
  obtain⟨its,rv,⟨o,n,h1,h2,_,h3⟩,_⟩:=I.list hs
  rw[Dt.py]at c
  obtain⟨as,ra⟩:=Nv I (ds:=ds) (by simpa [PyData.canLay0] using c) hl rv
  exact⟨_,by rw[Dt.py];exact .list h1 h2 h3 (by simpa using ra)⟩
theorem Nv{X:Cx}{pins:List (Addr×Obj)}{σ:St}{H:Hp}{s:Shared}(I:Inv X pins σ H s):∀{ds:List Dt} {vs:List V} {us:List Value},PyData.canLayAll0 (Dt.pys ds)=true→RpL X.K H ds vs→Vals vs us→∃as,ReadsAll s.heap us (Dt.pys ds) as
 | [],vs,us,_,h,r=>by rw[Br.mp h]at r;cases r;exact⟨_,by rw[Dt.pys];exact .nil⟩
 | d::ds,vs,us,c,h,r=>by
  obtain⟨v,vr,rfl,h1,h2⟩:=Ax.mp h
  rw[Dt.pys]at c
  have c':d.py.canLay0=true∧PyData.canLayAll0 (Dt.pys ds)=true:=by simpa [PyData.canLayAll0] using c
  cases r with
  | cons r1 r2 =>
   obtain⟨as,ra⟩:=J3 I c'.1 h1 r1
   obtain⟨bs,rb⟩:=Nv I c'.2 h2 r2
   exact⟨_,by rw[Dt.pys];exact .cons ra rb⟩
end
mutual
def Dt.eq:Dt→Dt→Bool
 |.non,.non=>true
 |.bl a,.bl b=>a==b
 |.bl a,.int j=>(if a then 1 else 0)==j
 |.int i,.bl b=>i==(if b then 1 else 0)
 |.int i,.int j=>decide (i=j)
 |.str x,.str y=>x==y
 |.tup xs,.tup ys=>Dt.eqs xs ys
 |.lst xs,.lst ys=>Dt.eqs xs ys
 |_,_=>false
def Dt.eqs:List Dt→List Dt→Bool
 | [],[]=>true
 |x::xs,y::ys=>Dt.eq x y&&Dt.eqs xs ys
 |_,_=>false
end
mutual
def Dt.flat:Nat→Dt→Bool
 |_,.fn _=>false
 |_,.exc _ _ _=>false
 |_,.obj _ _ _=>false
 |_,.str x=>(PyData.str x).canLay0
 |0,.tup _=>false
 |0,.lst _=>false
 |n+1,.tup ds=>Dt.flats n ds
 |n+1,.lst ds=>Dt.flats n ds
 |_,_=>true
def Dt.flats:Nat→List Dt→Bool
 |_,[]=>true
 |n,d::ds=>Dt.flat n d&&Dt.flats n ds
end
mutual
theorem Hq:∀(d:Dt)(n:Nat),d.flat n=true→d.py.canLay0=true∧d.py.depth≤n
 |.non,n,h=>by rw[Dt.py];exact⟨rfl,Nat.zero_le _⟩
 |.bl _,n,h=>by rw[Dt.py];exact⟨rfl,Nat.zero_le _⟩
 |.int _,n,h=>by rw[Dt.py];exact⟨rfl,Nat.zero_le _⟩
 |.str _,n,h=>by rw[Dt.py];exact⟨by simpa [Dt.flat] using h,Nat.zero_le _⟩
 |.fn _,n,h=>by simp[Dt.flat]at h
 |.exc _ _ _,n,h=>by simp[Dt.flat]at h
 |.obj _ _ _,n,h=>by simp[Dt.flat]at h
 |.tup ds,0,h=>by simp[Dt.flat]at h
 |.lst ds,0,h=>by simp[Dt.flat]at h
 | .tup ds,n+1,h=>by
  have:=MP ds n (by simpa [Dt.flat] using h)
  rw[Dt.py]
  exact⟨by simpa [PyData.canLay0] using this.1,by simpa [PyData.depth] using this.2⟩
 | .lst ds,n+1,h=>by
  have:=MP ds n (by simpa [Dt.flat] using h)
  rw[Dt.py]
  exact⟨by simpa [PyData.canLay0] using this.1,by simpa [PyData.depth] using this.2⟩
theorem MP:∀(ds:List Dt)(n:Nat),Dt.flats n ds=true→PyData.canLayAll0 (Dt.pys ds)=true∧PyData.depthAll (Dt.pys ds)≤n
 | [],n,h=>by rw[Dt.pys];exact⟨rfl,Nat.zero_le _⟩
 | d::ds,n,h=>by
  have h':d.flat n=true∧Dt.flats n ds=true:=by simpa [Dt.flats] using h
  have h1:=Hq d n h'.1
  have h2:=MP ds n h'.2
  rw[Dt.pys]
  exact⟨by simp[PyData.canLayAll0,h1.1,h2.1],by simp only[PyData.depthAll];omega⟩
end
mutual
theorem TY:∀(a b:Dt),a.py.canLay0=true→b.py.canLay0=true→PyData.eqv a.py b.py=a.eq b
 |.fn _,b,h,_=>by rw[Dt.py]at h;exact(nomatch h)
 |.exc _ _ _,b,h,_=>by rw[Dt.py]at h;exact(nomatch h)
 |.obj _ _ _,b,h,_=>by rw[Dt.py]at h;exact(nomatch h)
 |a,.fn _,_,h=>by rw[Dt.py]at h;exact(nomatch h)
 |a,.exc _ _ _,_,h=>by rw[Dt.py]at h;exact(nomatch h)
 |a,.obj _ _ _,_,h=>by rw[Dt.py]at h;exact(nomatch h)
 |.non,.non,_,_=>by simp[Dt.py,Dt.eq,PyData.eqv]
 |.non,.bl _,_,_=>by simp[Dt.py,Dt.eq,PyData.eqv]
 |.non,.int _,_,_=>by simp[Dt.py,Dt.eq,PyData.eqv]
 |.non,.str _,_,_=>by simp[Dt.py,Dt.eq,PyData.eqv]
 |.non,.tup _,_,_=>by simp[Dt.py,Dt.eq,PyData.eqv]
 |.non,.lst _,_,_=>by simp[Dt.py,Dt.eq,PyData.eqv]
 |.bl _,.non,_,_=>by simp[Dt.py,Dt.eq,PyData.eqv]
 |.bl _,.bl _,_,_=>by simp[Dt.py,Dt.eq,PyData.eqv]
 |.bl _,.int _,_,_=>by simp[Dt.py,Dt.eq,PyData.eqv]
 |.bl _,.str _,_,_=>by simp[Dt.py,Dt.eq,PyData.eqv]
 |.bl _,.tup _,_,_=>by simp[Dt.py,Dt.eq,PyData.eqv]
 |.bl _,.lst _,_,_=>by simp[Dt.py,Dt.eq,PyData.eqv]
 |.int _,.non,_,_=>by simp[Dt.py,Dt.eq,PyData.eqv]
 |.int _,.bl _,_,_=>by simp[Dt.py,Dt.eq,PyData.eqv]
 | .int i,.int j,_,_=>by
  simp only[Dt.py,Dt.eq,PyData.eqv]
  exact Bool.beq_eq_decide_eq i j
 |.int _,.str _,_,_=>by simp[Dt.py,Dt.eq,PyData.eqv]
 |.int _,.tup _,_,_=>by simp[Dt.py,Dt.eq,PyData.eqv]
 |.int _,.lst _,_,_=>by simp[Dt.py,Dt.eq,PyData.eqv]
 |.str _,.non,_,_=>by simp[Dt.py,Dt.eq,PyData.eqv]
 |.str _,.bl _,_,_=>by simp[Dt.py,Dt.eq,PyData.eqv]
 |.str _,.int _,_,_=>by simp[Dt.py,Dt.eq,PyData.eqv]
 |.str _,.str _,_,_=>by simp[Dt.py,Dt.eq,PyData.eqv]
 |.str _,.tup _,_,_=>by simp[Dt.py,Dt.eq,PyData.eqv]
 |.str _,.lst _,_,_=>by simp[Dt.py,Dt.eq,PyData.eqv]
 |.tup _,.non,_,_=>by simp[Dt.py,Dt.eq,PyData.eqv]
 |.tup _,.bl _,_,_=>by simp[Dt.py,Dt.eq,PyData.eqv]
 |.tup _,.int _,_,_=>by simp[Dt.py,Dt.eq,PyData.eqv]
 |.tup _,.str _,_,_=>by simp[Dt.py,Dt.eq,PyData.eqv]
 | .tup xs,.tup ys,h1,h2=>by
  rw[Dt.py]at h1 h2
  rw[Dt.py,Dt.py,Dt.eq,PyData.eqv]
  exact TV xs ys (by simpa [PyData.canLay0] using h1) (by simpa [PyData.canLay0] using h2)
 |.tup _,.lst _,_,_=>by simp[Dt.py,Dt.eq,PyData.eqv]
 |.lst _,.non,_,_=>by simp[Dt.py,Dt.eq,PyData.eqv]
 |.lst _,.bl _,_,_=>by simp[Dt.py,Dt.eq,PyData.eqv]
 |.lst _,.int _,_,_=>by simp[Dt.py,Dt.eq,PyData.eqv]
 |.lst _,.str _,_,_=>by simp[Dt.py,Dt.eq,PyData.eqv]
 |.lst _,.tup _,_,_=>by simp[Dt.py,Dt.eq,PyData.eqv]
 | .lst xs,.lst ys,h1,h2=>by
  rw[Dt.py]at h1 h2
  rw[Dt.py,Dt.py,Dt.eq,PyData.eqv]
  exact TV xs ys (by simpa [PyData.canLay0] using h1) (by simpa [PyData.canLay0] using h2)
theorem TV:∀(xs ys:List Dt),PyData.canLayAll0 (Dt.pys xs)=true→PyData.canLayAll0 (Dt.pys ys)=true→PyData.eqvAll (Dt.pys xs) (Dt.pys ys)=Dt.eqs xs ys
 | [],[],_,_=>by simp[Dt.pys,Dt.eqs,PyData.eqvAll]
 | [],_::_,_,_=>by simp[Dt.pys,Dt.eqs,PyData.eqvAll]
 |_::_,[],_,_=>by simp[Dt.pys,Dt.eqs,PyData.eqvAll]
 | x::xs,y::ys,h1,h2=>by
  rw[Dt.pys]at h1 h2
  have h1':x.py.canLay0=true∧PyData.canLayAll0 (Dt.pys xs)=true:=by simpa [PyData.canLayAll0] using h1
  have h2':y.py.canLay0=true∧PyData.canLayAll0 (Dt.pys ys)=true:=by simpa [PyData.canLayAll0] using h2
  rw[Dt.pys,Dt.pys,Dt.eqs,PyData.eqvAll,TY x y h1'.1 h2'.1,TV xs ys h1'.2 h2'.2]
end
def Agv(K:W.Frag)(neg:Bool):R2:=fun x y H Q=>∃a b,Rp K H a x∧Rp K H b y∧a.flat 8=true∧b.flat 8=true∧Q (.bl (if neg then !a.eq b else a.eq b)) H
theorem XQ(hu:X.A.units+64<cLine):OpR X (compareOp .Eq) (Agv X.K false):=by
 intro pins s σ H x y v u Q I rx ry ⟨a,b,ra,rb,fa,fb,q⟩
 obtain⟨ca,da⟩:=Hq a 8 fa
 obtain⟨cb,db⟩:=Hq b 8 fb
 obtain⟨as,r1⟩:=J3 I ca ra rx
 obtain⟨bs,r2⟩:=J3 I cb rb ry
 refine rcAt_reads r1 r2 ca cb (by omega) _ _ _ _ ?_
 rw[TY a b ca cb]
 exact⟨.bl _,H,I,rfl,q⟩
theorem AbG(hu:X.A.units+64<cLine):OpR X (compareOp .NotEq) (Agv X.K true):=by
 intro pins s σ H x y v u Q I rx ry ⟨a,b,ra,rb,fa,fb,q⟩
 obtain⟨ca,da⟩:=Hq a 8 fa
 obtain⟨cb,db⟩:=Hq b 8 fb
 obtain⟨as,r1⟩:=J3 I ca ra rx
 obtain⟨bs,r2⟩:=J3 I cb rb ry
 refine compareNe_reads r1 r2 ca cb (by omega) ?_
 rw[TY a b ca cb]
 exact⟨.bl _,H,I,rfl,q⟩
def dEq:D2:=fun a b Q=>(a.flat 8=true∧b.flat 8=true)∧Q (.bl (a.eq b))
def dNe:D2:=fun a b Q=>(a.flat 8=true∧b.flat 8=true)∧Q (.bl (!a.eq b))
theorem Yp{K:W.Frag}:Jh K (Agv K false) dEq:=⟨fun hq h=>⟨h.1,hq _ h.2⟩,fun O H a b x y Q _ ra rb h=>⟨a,b,ra.mono Bw,rb.mono Bw,h.1.1,h.1.2,h.2 _ H (Same.refl H) (Dg.mpr rfl)⟩⟩
theorem AcA{K:W.Frag}:Jh K (Agv K true) dNe:=⟨fun hq h=>⟨h.1,hq _ h.2⟩,fun O H a b x y Q _ ra rb h=>⟨a,b,ra.mono Bw,rb.mono Bw,h.1.1,h.1.2,h.2 _ H (Same.refl H) (Dg.mpr rfl)⟩⟩
theorem YT(hu:X.A.units+64<cLine)(ha:DE X a ta)(hb:DE X b tb):DE X (.Compare a [.Eq] [b] pos) (dOp dEq ta tb):=Xz (XQ hu) Yp ha hb (JW _)
theorem AgF(hu:X.A.units+64<cLine)(ha:DE X a ta)(hb:DE X b tb):DE X (.Compare a [.NotEq] [b] pos) (dOp dNe ta tb):=Xz (AbG hu) AcA ha hb (JW _)
theorem HS(hu:X.A.units+64<cLine)(ha:DE X a ta)(hb:DE X b tb):DT X (.Compare a [.Eq] [b] pos) (Q6 (dOp dEq ta tb)):=Pj (XQ hu) Yp ha hb (JW _)
theorem Gv(hu:X.A.units+64<cLine)(ha:DE X a ta)(hb:DE X b tb):DT X (.Compare a [.NotEq] [b] pos) (Q6 (dOp dNe ta tb)):=Pj (AbG hu) AcA ha hb (JW _)
def isB(k:Bool):Dt→Bool
 |.bl b=>b==k
 |_=>false
def isN:Dt→Bool
 |.non=>true
 |_=>false
theorem AeM:OpR X (compareOp .IsNot) (fun x y H Q=>∃k:Bool,y=.bl k∧Q (.bl (!decide (x=.bl k))) H):=by
 intro pins s σ H x y v u Q I rx ry ⟨k,e,q⟩
 subst e
 cases(show u=.bool k from ry)
 cases x with
 |non=>cases(show v=.none from rx);exact wpAny_isNot_plain rfl (Jp I q (by simp))
 |bl b=>cases(show v=.bool b from rx);exact wpAny_isNot_plain rfl (Jp I q (by cases b<;>cases k<;>rfl))
 |int i=>obtain⟨t,rfl⟩:=rx;exact wpAny_isNot_plain rfl (Jp I q (by simp))
 |str i=>obtain⟨t,rfl⟩:=rx;exact wpAny_isNot_plain rfl (Jp I q (by simp))
 |byt i=>obtain⟨t,rfl⟩:=rx;exact wpAny_isNot_plain rfl (Jp I q (by simp))
 |flt i=>obtain⟨t,rfl⟩:=rx;exact wpAny_isNot_plain rfl (Jp I q (by simp))
 |ref i=>cases(show v=.ref i from rx);exact wpAny_isNot_plain rfl (Jp I q (by simp))
 |ty i=>cases(show v=.type i from rx);exact wpAny_isNot_plain rfl (Jp I q (by simp))
theorem Ah4{K:W.Frag}{H:Hp}{d:Dt}{v:V}{k:Bool}(r:Rp K H d v):decide (v=.bl k)=isB k d:=by
 cases d with
 |non=>rw[JV.mp r];simp[isB]
 |bl b=>rw[Dg.mp r];cases b<;>cases k<;>simp[isB]
 |int i=>rw[Bh.mp r];simp[isB]
 |str i=>rw[M5.mp r];simp[isB]
 |fn a=>rw[AgQ.mp r];simp[isB]
 |exc _ _ _=>obtain⟨a,_,_,_,_,rfl,_⟩:=AbK.mp r;simp[isB]
 |obj _ _ _=>obtain⟨a,_,_,_,rfl,_⟩:=Pn.mp r;simp[isB]
 |tup ds=>obtain⟨a,xs,rfl,_⟩:=Dw.mp r;simp[isB]
 |lst ds=>obtain⟨a,xs,rfl,_⟩:=DY r;simp[isB]
theorem AiF{K:W.Frag}{H:Hp}{d:Dt}{v:V}(r:Rp K H d v):decide (v=.non)=isN d:=by
 cases d with
 |non=>rw[JV.mp r];simp[isN]
 |bl b=>rw[Dg.mp r];simp[isN]
 |int i=>rw[Bh.mp r];simp[isN]
 |str i=>rw[M5.mp r];simp[isN]
 |fn a=>rw[AgQ.mp r];simp[isN]
 |exc _ _ _=>obtain⟨a,_,_,_,_,rfl,_⟩:=AbK.mp r;simp[isN]
 |obj _ _ _=>obtain⟨a,_,_,_,rfl,_⟩:=Pn.mp r;simp[isN]
 |tup ds=>obtain⟨a,xs,rfl,_⟩:=Dw.mp r;simp[isN]
 |lst ds=>obtain⟨a,xs,rfl,_⟩:=DY r;simp[isN]
def dIs(neg:Bool):D2:=fun a b Q=>match b with
 |.bl k=>Q (.bl (if neg then !isB k a else isB k a))
 |.non=>Q (.bl (if neg then !isN a else isN a))
 |_=>False
theorem AdA{neg:Bool}:∀{a b Q Q'},(∀d,Q d→Q' d)→dIs neg a b Q→dIs neg a b Q':=fun{a b Q Q'} hq h=>by
 unfold dIs at h ⊢
 split at h
 ·exact hq _ h
 ·exact hq _ h
 ·exact h.elim
theorem Agu{K:W.Frag}:Jh K (fun x y H Q=>(∃k:Bool,y=.bl k∧Q (.bl (!decide (x=.bl k))) H)∨(y=.non∧Q (.bl (!decide (x=.non))) H)) (dIs true):=⟨AdA,fun O H a b x y Q _ ra rb h=>by
 unfold dIs at h
 split at h
 ·exact .inl ⟨_,Dg.mp rb,by rw[Ah4 ra];exact h _ H (Same.refl H) (Dg.mpr rfl)⟩
 ·exact .inr ⟨JV.mp rb,by rw[AiF ra];exact h _ H (Same.refl H) (Dg.mpr rfl)⟩
 ·exact h.elim⟩
theorem Agc(ha:DE X a ta)(hb:DE X b tb):DT X (.Compare a [.IsNot] [b] pos) (Q6 (dOp (dIs true) ta tb)):=Pj (AeM.or Afk) Agu ha hb (JW _)
def QK(t t':D2)(ta tb tc:DTE):DTE:=fun ρ Q=>ta ρ fun a=>tb ρ fun b=>t a b fun z=>match z with
 |.bl k=>if k=true then tc ρ fun c=>t' b c Q else Q (.bl false)
 |_=>False
theorem Yj{t t':D2}{ta tb tc:DTE}(m:∀{a b Q Q'},(∀d,Q d→Q' d)→t a b Q→t a b Q')(m':∀{a b Q Q'},(∀d,Q d→Q' d)→t' a b Q→t' a b Q')
  (ma:∀{ρ Q Q'},(∀d,Q d→Q' d)→ta ρ Q→ta ρ Q') (mb:∀{ρ Q Q'},(∀d,Q d→Q' d)→tb ρ Q→tb ρ Q') (mc:∀{ρ Q Q'},(∀d,Q d→Q' d)→tc ρ Q→tc ρ Q') :
  ∀{ρ Q Q'},(∀d,Q d→Q' d)→QK t t' ta tb tc ρ Q→QK t t' ta tb tc ρ Q':=fun hq h=>ma (fun _ h=>mb (fun _ h=>m (fun z h=>by
   split at h
   ·rename_i k
    cases k with
    |true=>exact mc (fun _ h=>m' hq h) h
    |false=>exact hq _ h
   ·exact h.elim) h) h) h
theorem AaV{K:W.Frag}{r r':R2}{t t':D2}(S:Jh K r t)(S':Jh K r' t'){ta tb tc:DTE}(ma:∀{ρ Q Q'},(∀d,Q d→Q' d)→ta ρ Q→ta ρ Q')(mb:∀{ρ Q Q'},(∀d,Q d→Q' d)→tb ρ Q→tb ρ Q')(mc:∀{ρ Q Q'},(∀d,Q d→Q' d)→tc ρ Q→tc ρ Q')
  (σ:St) (H:Hp) (Q:VK) (h:lE K (QK t t' ta tb tc) σ H Q):AbZ r r' (lE K ta) (lE K tb) (lE K tc) σ H Q:=by
 obtain⟨B,F,O,ρ,R,h⟩:=h
 refine⟨B,F,O,ρ,R,ma (fun a h v H1 s1 r1=>⟨B,F,O,ρ,R.same s1,mb (fun b h u H2 s2 r2=>?_) h⟩) h⟩
 refine S.ok _ H2 a b v u _ ((R.same s1).same s2).th (r1.mono s2.mask) r2 (S.mono (fun z h w H3 s3 r3=>?_) h)
 split at h
 ·rename_i k
  refine⟨k,Dg.mp r3,?_⟩
  have jU:=(s1.trans s2).trans s3
  cases k with
  |true=>exact⟨B,F,O,ρ,R.same jU,mc (fun c h y H4 s4 r4=>S'.ok _ H4 b c u y Q ((R.same jU).same s4).th ((r2.mono s3.mask).mono s4.mask) r4 (S'.mono (fun d q w' H5 s5 r5=>q w' H5 ((jU.trans s4).trans s5) r5) h)) h⟩
  |false=>exact h _ H3 jU (Dg.mpr rfl)
 ·exact h.elim
theorem Wb{op op':CmpOp}{r r':R2}{t t':D2}(ho:OpR X (compareOp op) r)(ho':OpR X (compareOp op') r')(S:Jh X.K r t)(S':Jh X.K r' t')(ha:DE X a ta)(hb:DE X b tb)(hc:DE X c tc)
  (hm:lastMarks [op,op'] [b,c]=false:=by with_unfolding_all rfl):DE X (.Compare a [op,op'] [b,c] pos) (QK t t' ta tb tc) where
 mono:=Yj (t:=t) (t':=t') (ta:=ta) (tb:=tb) (tc:=tc) S.mono S'.mono ha.mono hb.mono hc.mono
 pe:=(Adv ho ho' ha.pe hb.pe hc.pe hm).imp (AaV (ta:=ta) (tb:=tb) (tc:=tc) S S' ha.mono hb.mono hc.mono)
abbrev DL:=List Dt→(Dt→Prop)→Prop
structure VD(K:W.Frag)(r:List V→Hp→VK→Prop)(t:DL):Prop where
 mono:∀{ds Q Q'},(∀d,Q d→Q' d)→t ds Q→t ds Q'
 ok:∀(O:List Addr)(H:Hp)(ds:List Dt)(xs:List V)(Q:VK),(∀p∈O,H p≠none)→RpL K (mask O H) ds xs →
  t ds (fun d=>∀v H',Same H H'→Rp K (mask O H') d v→Q v H')→r xs H Q
def dCB(t:DL)(tl:DTA):DTE:=fun ρ Q=>tl ρ fun ds=>t ds Q
theorem Ahg{K:W.Frag}{r:List V→Hp→VK→Prop}{t:DL}(S:VD K r t){tl:DTA}(m:∀{ρ Q Q'},(∀d,Q d→Q' d)→tl ρ Q→tl ρ Q')(σ:St)(H:Hp)(Q:VK)(h:lE K (dCB t tl) σ H Q):tCB r (lA K tl) σ H Q:=by
 obtain⟨B,F,O,ρ,R,h⟩:=h
 exact⟨B,F,O,ρ,R,m (fun ds h vs H1 s1 r1=>S.ok _ H1 ds vs Q (R.same s1).th r1 (S.mono (fun d q v H2 s2 r2=>q v H2 (s1.trans s2) r2) h)) h⟩
theorem R0{id:String}{x:Str}{p:Pos}{r:List V→Hp→VK→Prop}{t:DL}(hc:JH X (.builtin id) r)(S:VD X.K r t)(hg:Gl X x)(hm:X.mg x=none)(hv:bootBuiltins x=some (.builtin id))(ha:DA X (e::es) tl)(hn:x≠"__name__":=by decide)
  (hdb:(x==("__debug__":Str))=false:=by decide) (he:starEach (e::es) X.env=(false,eval e X.env)::starEach es X.env:=by rfl) (hpl:(backTo pos (starEach es X.env)).any (·.1)=false:=by rfl):DE X (.Call (.Name x p) (e::es) [] pos) (dCB t tl) where
 mono:=fun hq h=>ha.mono (fun _ h=>S.mono hq h) h
 pe:=(Py hc hg hm hv ha.pa hn hdb he hpl).imp (Ahg (tl:=tl) S ha.mono)
def Adr:DL:=fun ds Q=>match ds with
 | [.lst xs]=>Q (.int xs.length)
 | [.tup xs]=>Q (.int xs.length)
 |_=>False
def Ad9:DL:=fun ds Q=>match ds with
 | [.int i]=>Q (.int (if i<0 then -i else i))
 |_=>False
def Adw:DL:=fun ds Q=>match ds with
 | [.int i,.int j]=>Q (.int (if j>i then j else i))
 |_=>False
def AnH:DL:=fun ds Q=>match ds with
 | [.int i,.int j]=>Q (.int (if j<i then j else i))
 |_=>False
def AlC:DL:=fun ds Q=>match ds with
 | [.int i]=>Q (.int i)
 | [.bl k]=>Q (.int (if k then 1 else 0))
 |_=>False
theorem AeZ{K:W.Frag}:VD K (fun xs H Q=>∃p ys,xs=[.ref p]∧(SqL K H p ys∨SqT K H p ys)∧Q (.int ys.length) H) Adr where
 mono:=fun hq h=>by
  unfold Adr at h ⊢
  split at h
  ·exact hq _ h
  ·exact hq _ h
  ·exact h.elim
 ok:=fun O H ds xs Q _ r h=>by
  unfold Adr at h
  split at h
  ·obtain⟨v,r',rfl,r2,r3⟩:=Ax.mp r
   obtain rfl:=Br.mp r3
   obtain⟨a,ys,rfl,hs,hl⟩:=DY r2
   exact⟨a,ys,rfl,.inl (Bw.seq hs),by rw[hl.len];exact h _ H (Same.refl H) (Bh.mpr rfl)⟩
  ·obtain⟨v,r',rfl,r2,r3⟩:=Ax.mp r
   obtain rfl:=Br.mp r3
   obtain⟨a,ys,rfl,hs,hl⟩:=Dw.mp r2
   exact⟨a,ys,rfl,.inr (Bw.fP hs),by rw[hl.len];exact h _ H (Same.refl H) (Bh.mpr rfl)⟩
  ·exact h.elim
theorem Ako{K:W.Frag}{H:Hp}{i:Int}{xs:List V}(h:RpL K H [.int i] xs):xs=[.int i]:=by
 obtain⟨v,r,rfl,r2,r3⟩:=Ax.mp h
 rw[Br.mp r3,Bh.mp r2]
theorem AnT{K:W.Frag}{H:Hp}{i j:Int}{xs:List V}(h:RpL K H [.int i,.int j] xs):xs=[.int i,.int j]:=by
 obtain⟨v,r,rfl,r2,r3⟩:=Ax.mp h
 rw[Ako r3,Bh.mp r2]
theorem AfG{K:W.Frag}:VD K (fun xs H Q=>∃i,xs=[.int i]∧Q (.int (if i<0 then -i else i)) H) Ad9 where
 mono:=fun hq h=>by
  unfold Ad9 at h ⊢
  split at h
  ·exact hq _ h
  ·exact h.elim
 ok:=fun O H ds xs Q _ r h=>by
  unfold Ad9 at h
  split at h
  ·exact⟨_,Ako r,h _ H (Same.refl H) (Bh.mpr rfl)⟩
  ·exact h.elim
theorem Aey{K:W.Frag}:VD K (fun xs H Q=>∃i j,xs=[.int i,.int j]∧Q (.int (if j>i then j else i)) H) Adw where
 mono:=fun hq h=>by
  unfold Adw at h ⊢
  split at h
  ·exact hq _ h
  ·exact h.elim
 ok:=fun O H ds xs Q _ r h=>by
  unfold Adw at h
  split at h
  ·exact⟨_,_,AnT r,h _ H (Same.refl H) (Bh.mpr rfl)⟩
  ·exact h.elim
theorem XJ{p:Pos}(hm:X.mg "len"=none)(ha:DA X [a] tl)(hg:Gl X "len":=by rfl)(he:starEach [a] X.env=(false,eval a X.env)::starEach [] X.env:=by rfl)(hpl:(backTo pos (starEach [] X.env)).any (·.1)=false:=by rfl) :
  DE X (.Call (.Name "len" p) [a] [] pos) (dCB Adr tl):=R0 Um AeZ hg hm PySem.boot_len ha (he:=he) (hpl:=hpl)
theorem MF{p:Pos}(hm:X.mg "abs"=none)(ha:DA X [a] tl)(hg:Gl X "abs":=by rfl)(hv:bootBuiltins "abs"=some (.builtin "abs"):=by rfl)(he:starEach [a] X.env=(false,eval a X.env)::starEach [] X.env:=by rfl)(hpl:(backTo pos (starEach [] X.env)).any (·.1)=false:=by rfl) :
  DE X (.Call (.Name "abs" p) [a] [] pos) (dCB Ad9 tl):=R0 AbR AfG hg hm hv ha (he:=he) (hpl:=hpl)
theorem Adx{p:Pos}(hm:X.mg "max"=none)(ha:DA X [a,b] tl)(hc:X.calm=true:=by rfl)(hg:Gl X "max":=by rfl)(hv:bootBuiltins "max"=some (.builtin "max"):=by rfl)(he:starEach [a,b] X.env=(false,eval a X.env)::starEach [b] X.env:=by rfl)
  (hpl:(backTo pos (starEach [b] X.env)).any (·.1)=false:=by rfl):DE X (.Call (.Name "max" p) [a,b] [] pos) (dCB Adw tl):=R0 (AaC hc) Aey hg hm hv ha (he:=he) (hpl:=hpl)
def tyOf:Dt→String
 |.non=>"NoneType"
 |.bl _=>"bool"
 |.int _=>"int"
 |.str _=>"str"
 |.tup _=>"tuple"
 |.lst _=>"list"
 |.fn _=>"function"
 |.exc _ _ _=>"exception"
 |.obj _ _ _=>"instance"
def noFn:Dt→Bool
 |.fn _=>false
 |.exc _ _ _=>false
 |.obj _ _ _=>false
 |_=>true
def isT(T:String)(d:Dt):Bool:=tyOf d==T||(T=="int"&&tyOf d=="bool")
def Ss(T:String):Prop:=∀(K:W.Frag)(d:Dt),noFn d=true→W.kitOne K (.type (tyOf d)) (.type T)=some (isT T d)
theorem AbF{T:String}(hT:Ss T):JH X (.builtin "isinstance") (fun xs H Q=>∃d x,xs=[x,.ty T]∧Rp X.K H d x∧noFn d=true∧Q (.bl (isT T d)) H):=by
 intro pins s σ H xs us Q I r ⟨d,x,e,rp,nf,q⟩
 subst e
 obtain⟨u,u2,rfl,r1,r2⟩:=vals2 r
 cases(show u2=.type T from r2)
 have hk:=hT X.K d nf
 have fin:∀tk,EP X pins σ Q (.bool (isT T d)) {s with toks:=tk}:=fun tk=>⟨.bl _,H,I.tok tk,rfl,q⟩
 cases d with
 |non=>rw[JV.mp rp]at r1;cases(show u=Value.none from r1);exact W.kia_one W.kitx_none I.kIn True.intro hk (fun z=>nomatch z) fin
 |bl y=>rw[Dg.mp rp]at r1;cases(show u=Value.bool y from r1);exact W.kia_one W.kitx_bool I.kIn True.intro hk (fun z=>nomatch z) fin
 |int i=>rw[Bh.mp rp]at r1;obtain⟨t,q⟩:=(show ∃t,u=Value.int i t from r1);cases q;exact W.kia_one W.kitx_int I.kIn True.intro hk (fun z=>nomatch z) fin
 |str y=>rw[M5.mp rp]at r1;obtain⟨t,q⟩:=(show ∃t,u=Value.str y t from r1);cases q;exact W.kia_one W.kitx_str I.kIn True.intro hk (fun z=>nomatch z) fin
 |fn a=>cases nf
 |exc _ _ _=>cases nf
 |obj _ _ _=>cases nf
 | tup ds =>
  obtain⟨a,ys,rfl,hs,_⟩:=Dw.mp rp
  cases(show u=Value.ref a from r1)
  obtain⟨_,_,⟨o,h1,h2,_⟩,_⟩:=I.tuple hs
  exact W.kia_one W.kitx_tuple I.kIn ⟨o,h1,h2⟩ hk (fun z=>nomatch z) fin
 | lst ds =>
  obtain⟨a,ys,rfl,hs,_⟩:=DY rp
  cases(show u=Value.ref a from r1)
  obtain⟨_,_,⟨o,n,h1,h2,_⟩,_⟩:=I.list hs
  exact W.kia_one W.kitx_list I.kIn ⟨o,h1,h2⟩ hk (fun z=>nomatch z) fin
def AjZ(T:String)(ta:DTE):DTE:=fun ρ Q=>ta ρ fun d=>noFn d=true∧Q (.bl (isT T d))
theorem QC{T:String}{Ts:Str}{p p2:Pos}(hm:X.mg "isinstance"=none)(hmT:X.mg Ts=none)(hT:Ss T)(ha:DE X a ta)(hg:Gl X "isinstance":=by rfl)(hgT:Gl X Ts:=by rfl)(hv:bootBuiltins "isinstance"=some (.builtin "isinstance"):=by rfl)
  (hvT:bootBuiltins Ts=some (.type T):=by rfl) (hn:Ts≠"__name__":=by decide) (hd:(Ts==("__debug__":Str))=false:=by decide)
  (hs1:starEach [a,.Name Ts p2] X.env=(false,eval a X.env)::starEach [.Name Ts p2] X.env:=by rfl) (hs2:starEach [.Name Ts p2] X.env=(false,eval (.Name Ts p2) X.env)::starEach [] X.env:=by rfl)
  (hpl:(backTo pos (starEach [.Name Ts p2] X.env)).any (·.1)=false:=by rfl):DE X (.Call (.Name "isinstance" p) [a,.Name Ts p2] [] pos) (AjZ T ta) where
 mono:=fun hq h=>ha.mono (fun _ h=>⟨h.1,hq _ h.2⟩) h
 pe:=(Py (AbF hT) hg hm hv (HJ ha.pe (HJ (Ae0 (v:=.ty T) hgT hmT hvT rfl hn hd) M6 hs2) hs1) (he:=hs1) (hpl:=hpl)).imp fun σ H Q ⟨B,F,O,ρ,R,h⟩ =>
  ⟨B,F,O,ρ,R,ha.mono (fun d h v H1 s1 r1=>⟨d,v,rfl,r1.mono Bw,h.1,h.2 _ H1 s1 (Dg.mpr rfl)⟩) h⟩
abbrev DTO:=Bv→(Option Int→Prop)→Prop
def lO(K:W.Frag)(t:DTO):TO:=fun σ H Q=>∃B F O ρ,Rep K B F O H σ ρ∧t ρ fun o=>∀H',Same H H'→Q o H'
structure DO(X:Cx)(e:Option Expr)(t:DTO):Prop where
 mono:∀{ρ Q Q'},(∀d,Q d→Q' d)→t ρ Q→t ρ Q'
 po:PO X e (lO X.K t)
def AeL:DTO:=fun _ Q=>Q none
def Ag6(te:DTE):DTO:=fun ρ Q=>te ρ fun d=>match d with
 |.int i=>Q (some i)
 |_=>False
theorem PO.imp{e:Option Expr}{t t':TO}(h:PO X e t)(i:∀σ H Q,t' σ H Q→t σ H Q):PO X e t':=fun pins s σ H Q I q=>h pins s σ H Q I (i _ _ _ q)
theorem Zr(h:DE X e te):DO X (some e) (Ag6 te) where
 mono:=fun hq z=>h.mono (fun d z=>by
  split at z
  ·exact hq _ z
  ·exact z.elim) z
 po:=(AeT h.pe).imp fun σ H Q ⟨B,F,O,ρ,R,z⟩=>⟨B,F,O,ρ,R,h.mono (fun d z v H1 s1 r1=>by
  split at z
  ·exact⟨_,Bh.mp r1,z H1 s1⟩
  ·exact z.elim) z⟩
def cutD(xs:List Dt)(lo hi:Option Int):List Dt:=(xs.drop (HT.sIx xs.length 0 lo)).take (HT.sIx xs.length xs.length hi-HT.sIx xs.length 0 lo)
theorem RpL.cut{K:W.Frag}{H:Hp}{ds:List Dt}{xs:List V}{lo hi:Option Int}(h:RpL K H ds xs):RpL K H (cutD ds lo hi) (Aam xs lo hi):=by
 unfold cutD Aam
 rw[h.len]
 exact(h.drop _).take _
def AcL(te:DTE)(tl th:DTO):DTE:=fun ρ Q=>te ρ fun d=>tl ρ fun lo=>th ρ fun hi=>match d with
 |.lst ds=>Q (.lst (cutD ds lo hi))
 |_=>False
theorem Abq{lo hi:Option Expr}{t1 t2:DTO}{p2:Pos}(he:DE X e te)(hl:DO X lo t1)(hh:DO X hi t2):DE X (.Subscript e (.Slice lo hi none p2) pos) (AcL te t1 t2) where
 mono:=fun hq z=>he.mono (fun d z=>hl.mono (fun l z=>hh.mono (fun h z=>by
  split at z
  ·exact hq _ z
  ·exact z.elim) z) z) z
 pe:=(Aea Agg he.pe hl.po hh.po).imp fun σ H Q ⟨B,F,O,ρ,R,z⟩=>⟨B,F,O,ρ,R,he.mono (fun d z v H1 s1 r1=>⟨B,F,O,ρ,R.same s1,hl.mono (fun l z H2 s2=>⟨B,F,O,ρ,(R.same s1).same s2,hh.mono (fun h z H3 s3=>by
  split at z
  ·obtain⟨a,xs,rfl,hs,hr⟩:=DY ((r1.mono s2.mask).mono s3.mask)
   refine⟨a,xs,rfl,Bw.seq hs,fun p hp=>?_⟩
   have R3:=((R.same s1).same s2).same s3
   have np:p∉F++O:=fun m=>R3.th p m hp
   refine z (.ref p) _ (((s1.trans s2).trans s3).trans (Same.upd hp)) (Ji ⟨p,_,rfl,(Iu np),?_⟩)
   exact hr.cut.mono (Same.upd hp).mask
  ·exact z.elim) z⟩) z⟩) z⟩
end
theorem Af1:Ss "int":=fun K d h=>by cases d<;>first|rfl|cases h
theorem AdH:Ss "bool":=fun K d h=>by cases d<;>first|rfl|cases h
theorem AaY:Ss "tuple":=fun K d h=>by cases d<;>first|rfl|cases h
theorem Vp:Ss "list":=fun K d h=>by cases d<;>first|rfl|cases h
end L2
namespace L2
open PySem Spec PyProof.Rows SeqAt
theorem KH(env:Env):∀(names:List (Str×NameKind))(cs:List (Str×Addr)),(∀y∈names,y.2=.free→∃c,env.cells.lookup y.1=some c)→(∀n c,cs.lookup n=some c→env.cells.lookup n=some c) →
  ∃cl,(forIn names cs fun(x:Str×NameKind)(r:List (Str×Addr))=>(if(x.2==NameKind.free)=true then(do let c ←cellOf env x.1;pure (ForInStep.yield ((x.1,c)::r)))else pure (ForInStep.yield r):Sem (ForInStep (List (Str×Addr)))))=pure cl ∧
   (∀n c,cl.lookup n=some c→env.cells.lookup n=some c)∧(∀n,(cs.lookup n).isSome=true→(cl.lookup n).isSome=true)∧∀n,(n,NameKind.free)∈names→(cl.lookup n).isSome=true
 | [],cs,_,h2=>⟨cs,rfl,h2,fun _ h=>h,fun n h=>(nomatch h)⟩
 | (x,k)::names,cs,h1,h2=>by
  rw[List.forIn_cons]
  by_cases hk:k=.free
  ·subst hk
   obtain⟨c,hc⟩:=h1 (x,.free) List.mem_cons_self rfl
   have e:cellOf env x=pure c:=by unfold cellOf;rw[hc]
   have h3:∀n c',((x,c)::cs).lookup n=some c'→env.cells.lookup n=some c':=fun n c' q=>by
    rw[List.lookup_cons]at q
    split at q
    ·rename_i b;cases q;rw[eq_of_beq b];exact hc
    ·exact h2 n c' q
   obtain⟨cl,g1,g2,g3,g4⟩:=KH env names ((x,c)::cs) (fun y hy=>h1 y (List.mem_cons_of_mem _ hy)) h3
   refine⟨cl,?_,g2,fun n q=>g3 n ?_,fun n hn=>?_⟩
   ·simp only[beq_self_eq_true,if_true,e,pure_bind]
    exact g1
   ·rw[List.lookup_cons];split
    ·rfl
    ·exact q
   ·rcases List.mem_cons.mp hn with q|q
    ·cases q
     exact g3 x (by rw[List.lookup_cons];simp)
    ·exact g4 n q
  ·have hb:(k==NameKind.free)=false:=by simpa using hk
   obtain⟨cl,g1,g2,g3,g4⟩:=KH env names cs (fun y hy=>h1 y (List.mem_cons_of_mem _ hy)) h2
   refine⟨cl,?_,g2,g3,fun n hn=>?_⟩
   ·simp only[hb,Bool.false_eq_true,if_false,pure_bind]
    exact g1
   ·rcases List.mem_cons.mp hn with q|q
    ·cases q;exact absurd rfl hk
    ·exact g4 n q
theorem Qc{env:Env}{scope:Scope}(h:∀y∈scope.names,y.2=.free→∃c,env.cells.lookup y.1=some c) :
  ∃cl,closureFor scope env=pure cl∧(∀n c,cl.lookup n=some c→env.cells.lookup n=some c)∧∀n,(n,NameKind.free)∈scope.names→∃c,cl.lookup n=some c:=by
 obtain⟨cl,g1,g2,_,g4⟩:=KH env scope.names [] h (fun n c q=>by simp at q)
 refine⟨cl,?_,g2,fun n q=>Option.isSome_iff_exists.mp (g4 n q)⟩
 unfold closureFor
 simp only[bind_pure]
 exact g1
def Bo(X:Cx)(scope:Scope)(N:List Str)(cl:List (Str×Addr))(C:Addr)(s₀:Shared)(H₀:Hp)(ex:List Addr):Cx where
 prog:=X.prog
 w:=X.w
 K:=X.K
 mg:=X.mg
 base:=X.base
 A:=X.A
 N:=N
 s₀:=s₀
 H₀:=H₀
 env:=compEnvC scope cl C X.env
 outer:=X.stack
 stack:=X.stack
 ex:=ex
 fn:=fun _=>false
 calm:=X.calm
 pn:=[]
 xe:=fun _ _=>False
def PTs(X:Cx)(ifs:List Expr)(t:TT):Prop :=
 ∀(pins:List (Addr×Obj))(s:Shared)(σ:St)(H:Hp)(Q:Bool→Hp→Prop),Inv X pins σ H s→t σ H Q →
  wpAny (model X.prog X.w) X.A (forIn ifs true fun c r=>if r=true then do let ok ←isTrue c X.env (eval c X.env);pure (ForInStep.yield ok)else pure (ForInStep.yield r)) (TP X pins σ Q) X.xe s
theorem Aer{X:Cx}:PTs X [] (fun _ H Q=>Q true H):=fun pins s σ H Q I h=>wpAny_tests_nil ⟨H,I,h⟩
theorem Aeg{X:Cx}{c:Expr}{t:TT}(h:PT X c t):PTs X [c] t:=fun pins s σ H Q I q=>wpAny_tests_one (h pins s σ H Q I q)
def Zz(sl:List Nat)(wi:TI)(tt:TT)(te:TE):TE:=fun σ H Q=>wi σ H fun J H1=>∃vs:List V,sl.map (fun j=>σ[j]?)=vs.map (fun v=>some (some v))∧∀D,H1 D=none →
 ∃W:Nat→Nat→List V→Hp→Prop,(∃m,W 0 m [] (upd H1 D (.lst [])))∧∀i m acc H,W i m acc H →
  (J.stop i H∧Q (.ref D) H) ∨
  (J.go i H∧∀x H',J.yld i H x H'→tt (some x::vs.map some) H' fun b H2 =>
   if b=true then te (some x::vs.map some) H2 fun y H3=>H3 D=some (.lst acc)∧acc.length<sizeLine∧∃m',m'<m∧W (i+1) m' (acc++[y]) (upd H3 D (.lst (acc++[y])))
   else ∃m',m'<m∧W (i+1) m' acc H2)
theorem G3{env:Env}:∀{names:List (Str×NameKind)} {x:Str},names.lookup x=some .free→env.scope.kind=.function→env.kindOf x=some .cell →
  (names.map fun(n,k)=>if(k==NameKind.free&&env.scope.kind == .function&&env.kindOf n==some .cell)then(n,NameKind.cell)else(n,k)).lookup x=some .cell
 | [],_,h,_,_=>by simp at h
 | (n,k)::r,x,h,hk,he=>by
  have ih:=@G3 env r x
  show List.lookup x ((if(k==NameKind.free&&env.scope.kind == .function&&env.kindOf n==some .cell)=true then(n,NameKind.cell)else(n,k))::_)=_
  cases hx:x==n with
  | true =>
   simp only[List.lookup_cons,hx]at h
   cases h
   have e:=eq_of_beq hx
   subst e
   simp[List.lookup_cons,hk,he]
  | false =>
   simp only[List.lookup_cons,hx]at h
   by_cases hc:(k==NameKind.free&&env.scope.kind == .function&&env.kindOf n==some .cell)=true
   ·rw[if_pos hc];simp only[List.lookup_cons,hx];exact ih h hk he
   ·rw[if_neg hc];simp only[List.lookup_cons,hx];exact ih h hk he
theorem Mq{env:Env}:∀{names:List (Str×NameKind)} {x:Str},(∀y∈names,y.2≠.cell) →
  ((names.map fun(n,k)=>if(k==NameKind.free&&env.scope.kind == .function&&env.kindOf n==some .cell)then(n,NameKind.cell)else(n,k)).lookup x=some .cell ∨
   (names.map fun(n,k)=>if(k==NameKind.free&&env.scope.kind == .function&&env.kindOf n==some .cell)then(n,NameKind.cell)else(n,k)).lookup x=some .free)→(x,NameKind.free)∈names
 | [],_,_,h=>by simp at h
 | (n,k)::r,x,hn,h=>by
  have ih:=@Mq env r x fun y hy=>hn y (List.mem_cons_of_mem _ hy)
  have nk:k≠.cell:=hn (n,k) List.mem_cons_self
  rw[List.map_cons]at h
  by_cases hc:(k==NameKind.free&&env.scope.kind == .function&&env.kindOf n==some .cell)=true
  ·simp only[hc,if_true,List.lookup_cons]at h
   have kf:k=.free:=by simp at hc;exact hc.1.1
   subst kf
   cases hx:x==n with
   |true=>rw[eq_of_beq hx];exact List.mem_cons_self
   |false=>simp only[hx]at h;exact List.mem_cons_of_mem _ (ih h)
  ·have hc':(k==NameKind.free&&env.scope.kind == .function&&env.kindOf n==some .cell)=false:=by simpa using hc
   simp only[hc',Bool.false_eq_true,if_false,List.lookup_cons]at h
   cases hx:x==n with
   | true =>
    simp only[hx]at h
    have kf:k=.free:=by
     rcases h with h|h
     ·exact absurd (Option.some.inj h) nk
     ·exact Option.some.inj h
    subst kf
    rw[eq_of_beq hx];exact List.mem_cons_self
   |false=>simp only[hx]at h;exact List.mem_cons_of_mem _ (ih h)
section
variable{X:Cx}{elt iter:Expr}{x:Str}{px:Pos}{ifs:List Expr}{scope:Scope}{pos:Pos}{N:List Str}{sl:List Nat}{wi:TI}{tt:TT}{te:TE}
structure Ef(X:Cx)(scope:Scope)(x:Str)(N:List Str)(sl:List Nat):Prop where
 hx:scope.names.lookup x=some .local
 kind:scope.kind=.function
 cell:∀y∈scope.names,y.2≠.cell
 names:∀y∈scope.names,y.2=.local→scope.names.lookup y.1=some .local
 free:∀y∈scope.names,y.2=.free→X.env.kindOf y.1=some .cell
 nd:(x::N).Nodup
 sl:N.map some=sl.map (fun j=>X.N[j]?)
 frN:∀n∈N,scope.names.lookup n=some .free
theorem WW(S:Ef X scope x N sl){pins:List (Addr×Obj)}{σ:St}{H:Hp}{s:Shared}{h₁:Heap}{tk:Nat}{fp:List Addr}{cl:List (Str×Addr)}{vs:List V}{o:Obj}(I:Inv X pins σ H s)
  (hfp:∀b∈fp,Ol X pins H b) (hob:∀b∈fp,∃o,s.heap.get? b=some o) (hns:h₁.Ns s.heap.objs.size (fun _=>none)) (hsb:Heap.SameBut s.heap.objs.size (s.heap.push o) h₁)
  (hcl:∀n c,cl.lookup n=some c→X.env.cells.lookup n=some c) (lq:∀n,(n,NameKind.free)∈scope.names→∃c,cl.lookup n=some c)
  (hvs:sl.map (fun j=>σ[j]?)=vs.map (fun v=>some (some v))) :
  Inv (Bo X scope (x::N) cl s.heap.objs.size s H fp) [] (none::vs.map some) H {s with heap:=h₁,toks:=tk}:=by
 have hL:=I.lt
 have keep:∀b o,s.heap.get? b=some o→h₁.get? b=some o:=fun b o e=>(hsb.2 b (Nat.ne_of_lt (Heap.lt_size e))).trans (Heap.get?_push_of_some _ e)
 have kf:X.env.scope.kind=.function:=I.ok.kind
 refine⟨⟨I.ok.mod,?_,I.ok.glob,I.ok.blt,Nat.le_refl _,fun y z c h1 h2=>I.ok.inj y z c (hcl y c h1) (hcl z c h2),fun y hy=>?_,fun y c h=>(by cases h),I.ok.hd,I.ok.frames,.inl rfl,fun b hb=>⟨?_,fun y c e=>?_⟩,fun b o e=>I.bs b o e,
  Nat.le_trans I.ok.bsz I.sz,fun b o e hb=>?_,fun b hb hz=>?_,I.stack,I.nu⟩,rfl,I.bare,Un.kept keep,⟨_,hns,fun i y v e1 e2 e3=>?_⟩,fun y c e=>?_,I.hok.fresh (Nat.le_refl _),fun y c e=>I.cZ y c (hcl y c e),
  fun p hp=>absurd (show p∈([]:List (Addr×Obj))from hp) (by simp),I.hok.kept keep,?_⟩
 ·exact S.kind
 ·exact lq y (Mq (env:=X.env) (fun z hz=>S.cell z hz) hy)
 ·obtain⟨o',e⟩:=hob b hb
  exact Nat.ne_of_lt (Heap.lt_size e)
 ·exact(hfp b hb).2.2.2.2.1 y c (hcl y c e)
 ·rcases(hfp b hb).2.2.2.1 with z|z
  ·exact I.ok.oW b o e z
  ·exact absurd (Nat.lt_of_lt_of_le (Heap.lt_size e) (Nat.le_trans I.ok.bsz z)) (Nat.lt_irrefl _)
 ·rcases List.mem_cons.mp (I.lW b hz)with q|q
  ·exact(hfp b hb).2.1 q
  ·exact(hfp b hb).2.2.1 q
 ·cases i with
  |zero=>simp at e2
  | succ j =>
   have e1':N[j]? = some y:=by simpa [Bo] using e1
   have e2':vs[j]? = some v:=by
    rw[List.getElem?_cons_succ,List.getElem?_map]at e2
    cases q:vs[j]? with
    |none=>rw[q]at e2;cases e2
    |some v'=>rw[q]at e2;cases e2;rfl
   have q1:=congrArg (fun l=>l[j]?) S.sl
   have q2:=congrArg (fun l=>l[j]?) hvs
   simp only[List.getElem?_map,e1',e2',Option.map_some]at q1 q2
   cases hk:sl[j]? with
   |none=>rw[hk]at q1;cases q1
   | some k =>
    rw[hk]at q1 q2
    have n1:X.N[k]? = some y:=(Option.some.inj q1).symm
    have n2:σ[k]? = some (some v):=Option.some.inj q2
    have hfr:=S.frN y (List.mem_of_getElem? e1')
    have hm:=PySem.mem_of_lookup hfr
    have hc:=S.free _ hm rfl
    obtain⟨m,hn,hl⟩:=I.loc
    obtain⟨u,r,lk⟩:=hl k y v n1 n2 (.inr (.inl hc))
    refine⟨u,r,.inr ⟨.inl (G3 hfr kf hc),?_⟩⟩
    rcases lk with⟨kl,_⟩|⟨_,c,ec,⟨o',ho,hd⟩⟩
    ·rw[hc]at kl;cases kl
    ·obtain⟨c',ec'⟩:=lq y hm
     have:=hcl y c' ec'
     rw[ec]at this;cases this
     exact⟨c,ec',o',keep _ _ ho,hd⟩
 ·obtain⟨v,o',ho,hd⟩:=I.cell y c (hcl y c e)
  exact⟨v,o',keep _ _ ho,hd⟩
 ·have l1:=congrArg List.length S.sl
  have l2:=congrArg List.length hvs
  simp only[List.length_map]at l1 l2
  simp[Bo];omega
theorem YM(S:Ef X scope x N sl)(hc:X.calm=true)(hi:PI X (.Name x px) iter wi)(ht:∀cl C s₀ H₀ ex,PTs (Bo X scope (x::N) cl C s₀ H₀ ex) ifs tt)(he:∀cl C s₀ H₀ ex,PE (Bo X scope (x::N) cl C s₀ H₀ ex) elt te)
  (hs:∀x,foldedSetIterable iter X.env x=pure x:=by intro _;rfl):PE X (.ListComp elt [⟨.Name x px,iter,ifs,0⟩] scope pos) (Zz sl wi tt te):=by
 intro pins s σ H Q I h
 obtain⟨cl,hclos,hcl,lq⟩:=Qc (env:=X.env) (scope:=scope) fun y hy hf=>I.ok.has y.1 (.inl (S.free y hy hf))
 rw[eval_ListComp]
 refine wpAny_comprehension_free (use:=none) rfl hs hclos S.kind S.names (thn (hi pins s σ H _ I h) fun v s1 h1=>thn h1 fun itv s2 h2=>?_)
 obtain⟨it,fp,tn,J,H2,e,I2,T,st2,f2,vs,hvs,hW⟩:=h2
 subst e
 refine wpAny_newObj_type (wpAny_newFunctionEnv S.cell (by intro y hy;simp at hy) (fun h₁ hns₁ hsb₁=>?_) S.kind)
 have hD:H2 s2.heap.objs.size=none:=I2.fresh
 have I3:Inv X pins σ (upd H2 s2.heap.objs.size (.lst [])) {s2 with heap:=s2.heap.push {cls:=.type "list",data:=.seq ([]:List Value).toArray},toks:=s2.toks}:=I2.qP (its:=[]) (ys:=[]) .nil (Nat.zero_le _)
 have hbD:∀b∈fp,b≠s2.heap.objs.size:=fun b hb z=>by
  obtain⟨o',e',_⟩:=T.obj _ _ st2 b hb
  exact absurd (Heap.lt_size e') (by rw[z];exact Nat.lt_irrefl _)
 have f3:∀b∈fp,Ol X pins (upd H2 s2.heap.objs.size (.lst [])) b:=fun b hb=>⟨by rw[Bm (hbD b hb)];exact(f2 b hb).1,(f2 b hb).2⟩
 have ob3:∀b∈fp,∃o,(s2.heap.push {cls:=.type "list",data:=.seq ([]:List Value).toArray}).get? b=some o:=fun b hb=>by
  obtain⟨o',e',_⟩:=T.obj _ _ st2 b hb
  exact⟨o',Heap.get?_push_of_some _ e'⟩
 have IC:=WW (tk:=s2.toks+([]:List (Str×Value)).length) S I3 f3 ob3 hns₁ hsb₁ hcl lq hvs
 dsimp only at hsb₁ IC ⊢
 generalize hCC:(s2.heap.push {cls:=.type "list",data:=.seq ([]:List Value).toArray}).objs.size=C at hns₁ hsb₁ IC ⊢
 have old:∀b o,s2.heap.get? b=some o→h₁.get? b=some o:=fun b o e=>by
  have e1:(s2.heap.push {cls:=.type "list",data:=.seq ([]:List Value).toArray}).get? b=some o:=Heap.get?_push_of_some _ e
  exact(hsb₁.2 b (by rw[←hCC];exact Nat.ne_of_lt (Heap.lt_size e1))).trans (Heap.get?_push_of_some _ e1)
 have st₁:tn 0 h₁:=T.keep _ _ _ st2 fun b hb o e=>old b o e
 obtain⟨W,⟨m0,w0⟩,turn⟩:=hW s2.heap.objs.size hD
 have fpC:∀{H':Hp} {pl:List (Addr×Obj)},(∀b∈fp,H' b=none)→(∀p∈pl,p.1∉fp)→∀b∈fp,Ol (Bo X scope (x::N) cl C {s2 with heap:=s2.heap.push {cls:=.type "list",data:=.seq ([]:List Value).toArray},toks:=s2.toks} (upd H2 s2.heap.objs.size (.lst [])) fp) pl H' b:=fun{H' pl} hn hp b hb=>by
  refine⟨hn b hb,(IC.ok.exf b hb).1,IC.ok.nW b hb,.inl hb,(IC.ok.exf b hb).2,fun p hq z=>?_⟩
  have hq':p∈pl:=by simpa [Bo] using hq
  exact hp p hq' (by rw[z];exact hb)
 have done:∀{σ':St} {H':Hp} {s':Shared},Inv (Bo X scope (x::N) cl C {s2 with heap:=s2.heap.push {cls:=.type "list",data:=.seq ([]:List Value).toArray},toks:=s2.toks} (upd H2 s2.heap.objs.size (.lst [])) fp) [] σ' H' s'→Q (.ref s2.heap.objs.size) H' →
   ∃m,s'.heap.Ns C m∧∀h',Heap.SameBut C s'.heap h'→EP X pins σ Q (.ref s2.heap.objs.size) {s' with heap:=h'}:=fun{σ' H' s'} J q=>by
  obtain⟨m,hn,_⟩:=id J.loc
  refine⟨m,hn,fun h' hs'=>⟨.ref s2.heap.objs.size,H',?_,rfl,q⟩⟩
  have u:Un (frs X.stack) fp H2 H' s2.heap s'.heap:=(Un.laid (fun b u e=>Heap.get?_push_of_some _ e) (Nat.le_refl _) hD).trans J.base
  have nC:∀b o,s2.heap.get? b=some o→b≠C:=fun b o e=>by
   have e1:(s2.heap.push {cls:=.type "list",data:=.seq ([]:List Value).toArray}).get? b=some o:=Heap.get?_push_of_some _ e
   rw[←hCC];exact Nat.ne_of_lt (Heap.lt_size e1)
  have u':Un (frs X.stack) fp H2 H' s2.heap h' :=
   ⟨fun b o e n hb hx=>(hs'.2 b (nC b o e)).trans (u.keep b o e n hb hx),fun b o e n hb hx=>let ⟨sl,q⟩:=u.slot b o e n hb hx;⟨sl,(hs'.2 b (nC b o e)).trans q⟩,u.free,fun b o e hx=>let ⟨o',q⟩:=u.there b o e hx;⟨o',(hs'.2 b (nC b o e)).trans q⟩,u.tups,u.fM,u.gQ⟩
  have hok:HOk X.prog X.w H' h':=fun b ob e=>(J.hok b ob e).stay (fun c w' hc q=>(hs'.2 c (by
   rintro rfl
   have hf:H' c=none:=J.free
   rcases hc with rfl|hc
   ·rw[hf]at e;cases e
   ·rw[hf]at hc;cases hc)).trans q) (fun _ q=>q) fun _ _ q=>q
  have hos:s'.os=s2.os:=J.os
  exact I2.call' (s':={s' with heap:=h'}) (ch:=fp) hos u' hok J.bare fun b hb=>⟨(f2 b hb).2.2.2.1,(f2 b hb).2.1,(f2 b hb).2.2.2.2.1,(f2 b hb).2.2.2.2.2⟩
 have loop:codeAny (model X.prog X.w) X.A (.compLoop (.ListComp elt [⟨.Name x px,iter,ifs,0⟩] scope pos) 0 (.ref it) (.ref s2.heap.objs.size) (compEnvC scope cl C X.env)) (compPost (model X.prog X.w) X.A X.xe none (EP X pins σ Q) (.ref s2.heap.objs.size) C)
   {s2 with heap:=h₁,toks:=s2.toks+([]:List (Str×Value)).length}:=by
  refine codeAny_compLoop_tests (fun n s'=>∃i acc σ' H',Inv (Bo X scope (x::N) cl C {s2 with heap:=s2.heap.push {cls:=.type "list",data:=.seq ([]:List Value).toArray},toks:=s2.toks} (upd H2 s2.heap.objs.size (.lst [])) fp) [] σ' H' s'∧(∃y,σ'=y::vs.map some) ∧
   tn i s'.heap∧(∀b∈fp,H' b=none)∧W i n acc H') ?_ m0 ⟨0,[],_,_,IC,⟨none,rfl⟩,st₁,fun b hb=>(f3 b hb).1,w0⟩
  rintro n s3 ⟨i,acc,σ3,H3,I4,⟨y,rfl⟩,st3,fr3,w3⟩
  rcases turn i n acc H3 w3 with⟨stop,qn⟩|⟨go,step⟩
  ·refine wpAny_mono (T.done (Bo X scope (x::N) cl C {s2 with heap:=s2.heap.push {cls:=.type "list",data:=.seq ([]:List Value).toArray},toks:=s2.toks} (upd H2 s2.heap.objs.size (.lst [])) fp) rfl rfl rfl hc i [] s3 _ H3 (fun _ _=>False) I4 (fpC fr3 (by simp)) st3 stop) (fun r s4 ⟨hr,I5⟩=>?_) fun _ _ z=>False.elim z
   subst hr
   exact done I5 qn
  ·refine wpAny_mono (T.item (Bo X scope (x::N) cl C {s2 with heap:=s2.heap.push {cls:=.type "list",data:=.seq ([]:List Value).toArray},toks:=s2.toks} (upd H2 s2.heap.objs.size (.lst [])) fp) rfl rfl rfl hc i [] s3 _ H3 (fun _ _=>False) I4 (fpC fr3 (by simp)) st3 go) (fun r s4 ⟨u,hr,h4⟩=>?_) fun _ _ z=>False.elim z
   subst hr
   have e0:∀(k:Unit→Sem Unit),(letOwnedTupleGo (.Name x px) (.ref it) u >>= k)=k ():=fun k=>rfl
   have hg:PG (Bo X scope (x::N) cl C {s2 with heap:=s2.heap.push {cls:=.type "list",data:=.seq ([]:List Value).toArray},toks:=s2.toks} (upd H2 s2.heap.objs.size (.lst [])) fp) (.Name x px) (YZ 0):=T9 S.nd rfl (.inl (lookup_relabel_local S.hx)) (.inr (lookup_relabel_local S.hx))
   show wpAny (model X.prog X.w) X.A (assign (.Name x px) (compEnvC scope cl C X.env) u) _ _ s4
   rw[←e0 fun _=>assign (.Name x px) (compEnvC scope cl C X.env) u]
   refine wpAny_bind (wpAny_mono h4 (fun _ s5 ⟨z,H5,I5,r5,y5,st5,fr5⟩=>?_) fun _ _ z=>False.elim z)
   have I5':=I5.pinned (fpC fr5 (by simp)) (T.obj _ _ st5)
   have W5:=hg _ s5 _ H5 z u (fun σ' H'=>σ'=some z::vs.map some∧H'=H5) I5' r5 ⟨rfl,rfl⟩
   refine wpAny_mono W5 (fun _ s6 ⟨σ6,H6,I6,e6,e7⟩=>?_) fun _ _ z=>False.elim z
   subst e6 e7
   refine wpAny_mono (ht _ _ _ _ _ _ s6 _ H6 _ I6 (step z H6 y5)) (fun b s7 ⟨H7,I7,q7⟩=>?_) fun _ _ z=>False.elim z
   have again:∀{H8:Hp} {s8:Shared} {acc':List V},Inv (Bo X scope (x::N) cl C {s2 with heap:=s2.heap.push {cls:=.type "list",data:=.seq ([]:List Value).toArray},toks:=s2.toks} (upd H2 s2.heap.objs.size (.lst [])) fp) ([]++Nm fp s5.heap) (some z::vs.map some) H8 s8→(∃m',m'<n∧W (i+1) m' acc' H8)→∃m,m<n∧∃i acc σ' H',Inv (Bo X scope (x::N) cl C {s2 with heap:=s2.heap.push {cls:=.type "list",data:=.seq ([]:List Value).toArray},toks:=s2.toks} (upd H2 s2.heap.objs.size (.lst [])) fp) [] σ' H' s8∧(∃y,σ'=y::vs.map some)∧tn i s8.heap∧(∀b∈fp,H' b=none)∧W i m acc H':=fun{H8 s8 acc'} I8 ⟨m',hm,w8⟩=>by
    refine⟨m',hm,i+1,acc',_,H8,I8.cG,⟨_,rfl⟩,T.keep _ _ _ st5 fun b hb o e=>(I8.pin (b,o) (List.mem_append_right _ (List.mem_append_right _ (Gm hb e)))).1,fun b hb=>?_,w8⟩
    obtain⟨o,e,d⟩:=T.obj _ _ st5 b hb
    exact(I8.pin (b,o) (List.mem_append_right _ (List.mem_append_right _ (Gm hb e)))).2.1
   cases b with
   |false=>exact again I7 q7
   | true =>
    rw[if_pos rfl]
    refine wpAny_mono (he _ _ _ _ _ _ s7 _ H7 _ I7 q7) (fun v8 s8 ⟨x8,H8,I8,r8,hD8,hz8,q8⟩=>?_) fun _ _ z=>False.elim z
    refine wpAny_mono (Mv (X:=(Bo X scope (x::N) cl C {s2 with heap:=s2.heap.push {cls:=.type "list",data:=.seq ([]:List Value).toArray},toks:=s2.toks} (upd H2 s2.heap.objs.size (.lst [])) fp)) _ s8 _ H8 (.ref s2.heap.objs.size) [x8] (.ref s2.heap.objs.size) [v8] (fun _ H9=>H9=upd H8 s2.heap.objs.size (.lst (acc++[x8]))) I8 rfl (.cons r8 .nil) ⟨_,acc,x8,rfl,rfl,hD8,hz8,rfl⟩) (fun _ s9 ⟨_,H9,I9,_,e9⟩=>?_) fun _ _ z=>False.elim z
    subst e9
    exact again I9 q8
 exact codeAny_compStart_list loop (T.self _ 0 _ _ _ st₁ loop)
def inner(sl:List Nat)(ρ:Bv)(d:Dt):Bv:=some (.is d)::sl.map fun j=>(ρ[j]?).join
structure DTs(X:Cx)(ifs:List Expr)(t:DTT):Prop where
 mono:∀{ρ Q Q'},(∀d,Q d→Q' d)→t ρ Q→t ρ Q'
 pts:PTs X ifs (lT X.K t)
def Mg:DTT:=fun _ Q=>Q true
theorem YG:DTs X [] Mg:=⟨fun hq h=>hq _ h,fun pins s σ H Q I ⟨B,F,O,ρ,R,h⟩=>Aer pins s σ H Q I (h H (Same.refl H))⟩
theorem ZM{c:Expr}{t:DTT}(h:DT X c t):DTs X [c] t:=⟨h.mono,Aeg h.pt⟩
def caught(sl:List Nat)(ρ:Bv):Prop:=∀j∈sl,∃d,ρ[j]? = some (some (.is d))
def HN(sl:List Nat)(ti:DTI)(tt:DTT)(te:DTE):DTE:=fun ρ Q=>ti ρ fun items=>items.length≤sizeLine∧caught sl ρ ∧
 ∃W:Nat→List Dt→Prop,W 0 []∧(∀(k:Nat) d acc,items[k]? = some d→W k acc→tt (inner sl ρ d) fun b=>if b=true then te (inner sl ρ d) fun e=>W (k+1) (acc++[e])else W (k+1) acc) ∧
  ∀acc,acc.length≤items.length→W items.length acc→Q (.lst acc)
theorem J2{K:W.Frag}{B:Hp}{F O:List Addr}{H:Hp}{σ:St}{ρ:Bv}(R:Rep K B F O H σ ρ):∀{sl:List Nat},caught sl ρ→∃vs ds,sl.map (fun j=>σ[j]?)=vs.map (fun v=>some (some v))∧sl.map (fun j=>(ρ[j]?).join)=ds.map (fun d=>some (En.is d))∧RpL K (mask (F++O) H) ds vs
 | [],_=>⟨[],[],rfl,rfl,RpL.nil⟩
 | j::sl,h=>by
  obtain⟨d,e⟩:=h j List.mem_cons_self
  obtain⟨v,e1,e2⟩:=R.is j d e
  obtain⟨vs,ds,h1,h2,h3⟩:=J2 R (sl:=sl) fun k hk=>h k (List.mem_cons_of_mem _ hk)
  exact⟨v::vs,d::ds,by simp[e1,h1],by simp[e,h2],RpL.cons e2 h3⟩
theorem RM{K:W.Frag}{F:List Addr}{H:Hp}{d:Dt}{v:V}{ds:List Dt}{vs:List V}(th:∀a∈F,H a≠none)(r:Rp K (mask F H) d v)(rs:RpL K (mask F H) ds vs) :
  Rep K (fun _=>none) F [] H (some v::vs.map some) (some (.is d)::ds.map fun d=>some (En.is d)):=by
 have e:mask (F++[]) H=mask F H:=by rw[List.append_nil]
 have cH:∀(i:Nat)(es:En),(∀z,es≠.is z)→(some (En.is d)::ds.map fun d=>some (En.is d))[i]? = some (some es)→False:=fun i es nz q=>by
  cases i with
  |zero=>cases q;exact nz _ rfl
  | succ j =>
   rw[List.getElem?_cons_succ,List.getElem?_map]at q
   cases z:ds[j]? with
   |none=>rw[z]at q;cases q
   |some y=>rw[z]at q;cases q;exact nz _ rfl
 refine⟨by simp[rs.len],fun a o q=>(nomatch q),fun a h=>(nomatch h),fun a h=>th a (by simpa using h),fun i y q=>?_,fun i es q=>(cH i _ (fun _ z=>by cases z) q).elim,fun i j es es' a h1=>(cH i _ (fun _ z=>by cases z) h1).elim,fun i es q=>(cH i _ (fun _ z=>by cases z) q).elim,fun i j es es' a h1=>(cH i _ (fun _ z=>by cases z) h1).elim,fun i v q=>(cH i _ (fun _ z=>by cases z) q).elim⟩
 rw[e]
 cases i with
 |zero=>cases q;exact⟨v,rfl,r⟩
 | succ j =>
  rw[List.getElem?_cons_succ,List.getElem?_map]at q
  cases z:ds[j]? with
  |none=>rw[z]at q;cases q
  | some y' =>
   rw[z]at q;cases q
   obtain⟨u,h1,h2⟩:=rs.get z
   exact⟨u,by rw[List.getElem?_cons_succ,List.getElem?_map,h1];rfl,h2⟩
theorem WD{K:PySem.W.Frag}{sl:List Nat}{ti:DTI}{dt:DTT}{de:DTE}(mi:∀{ρ Q Q'},(∀d,Q d→Q' d)→ti ρ Q→ti ρ Q')(mt:∀{ρ Q Q'},(∀d,Q d→Q' d)→dt ρ Q→dt ρ Q')(me:∀{ρ Q Q'},(∀d,Q d→Q' d)→de ρ Q→de ρ Q')
  (σ:St) (H:Hp) (Q:VK) (h:lE K (HN sl ti dt de) σ H Q):Zz sl (lI K ti) (lT K dt) (lE K de) σ H Q:=by
 obtain⟨B,F,O,ρ,R,h⟩:=h
 refine⟨B,F,O,ρ,R,mi (fun items ⟨h1,h2,W,w0,st,fin⟩ J H1 s1 it=>?_) h⟩
 have R1:=R.same s1
 obtain⟨vs,ds,ev,ed,rs⟩:=J2 R1 h2
 refine⟨vs,ev,fun D hD=>?_⟩
 have nD:D∉F++O:=fun z=>R1.th D z hD
 have sM:Same (mask (F++O) H1) (mask (F++O) (upd H1 D (.lst []))):=(Same.upd hD).mask
 refine⟨fun i m acc H2=>m+i=items.length∧H2 D=some (.lst acc)∧acc.length≤i∧Same H1 H2∧∃as,RpL K (mask (D::(F++O)) H2) as acc∧W i as,⟨items.length,by omega,BL,Nat.le_refl _,Same.upd hD,[],RpL.nil,w0⟩,?_⟩
 rintro i m acc H2 ⟨hm,e2,hl,s2,as,ra,w⟩
 have sb:Same (mask (F++O) H1) H2:=fun a o e=>s2 a o (BR e).2
 have sD:Same (mask (F++O) H1) (mask (D::(F++O)) H2):=fun a o e=>by
  obtain⟨q,e⟩:=BR e
  rw[Az fun z=>by
   rcases List.mem_cons.mp z with z|z
   ·rw[z,hD]at e;cases e
   ·exact q z]
  exact s2 a o e
 obtain⟨go,stop⟩:=it H2 sb
 by_cases hlt:i<items.length
 ·refine .inr ⟨(go i items[i] (by simp[hlt])).1,fun z H3 y=>?_⟩
  obtain⟨e,r⟩:=(go i items[i] (by simp[hlt])).2 z H3 y
  subst e
  have th:∀a∈D::(F++O),H3 a≠none:=fun a ha q=>by
   rcases List.mem_cons.mp ha with z|z
   ·rw[z,e2]at q;cases q
   ·have:=R1.th a z
    cases q':H1 a with
    |none=>exact this q'
    |some o=>rw[s2 a o q']at q;cases q
  have R3:=RM th (r.mono sD) (rs.mono sD)
  have ei:some (En.is items[i])::ds.map (fun d=>some (En.is d))=inner sl ρ items[i]:=by unfold inner;rw[ed]
  rw[ei]at R3
  refine⟨_,_,_,_,R3,mt (fun b q H4 s4=>?_) (st i _ as (by simp[hlt]) w)⟩
  cases b with
  | false =>
   refine⟨m-1,by omega,by omega,s4 _ _ e2,by omega,s2.trans s4,as,ra.mono s4.mask,q⟩
  | true =>
   refine⟨_,_,_,_,R3.same s4,me (fun e q v5 H5 s5 r5=>?_) q⟩
   have e5:H5 D=some (.lst acc):=s5 _ _ (s4 _ _ e2)
   have hz:acc.length<sizeLine:=by omega
   have s6:Same (mask (D::(F++O)) H5) (mask (D::(F++O)) (upd H5 D (.lst (acc++[v5])))):=fun a o q=>by
    obtain⟨n,q⟩:=BR q
    rw[Az n,Bm fun z=>n (by rw[z];exact List.mem_cons_self)];exact q
   have em:mask (D::(F++O)++[]) H5=mask (D::(F++O)) H5:=by rw[List.append_nil]
   rw[em]at r5
   refine⟨e5,hz,m-1,by omega,by omega,BL,by simp;omega,fun a o q=>?_,as++[e],(((ra.mono s4.mask).mono s5.mask).append (RpL.cons r5 RpL.nil)).mono s6,q⟩
   rw[Bm (Dc q hD)]
   exact s5 _ _ (s4 _ _ (s2 a o q))
 ·have e:i=items.length:=by omega
  subst e
  refine .inl ⟨stop,fin as (by rw[←ra.len];exact hl) w (.ref D) H2 (s1.trans s2) (Ji ⟨D,acc,rfl,(by rw[Az nD];exact e2),ra.mono (Dy fun a h=>List.mem_cons_of_mem _ h)⟩)⟩
theorem Vz{ti:DTI}{dt:DTT}{de:DTE}(S:Ef X scope x N sl)(hc:X.calm=true)(hi:DI X (.Name x px) iter ti)(ht:∀cl C s₀ H₀ ex,DTs (Bo X scope (x::N) cl C s₀ H₀ ex) ifs dt)(he:∀cl C s₀ H₀ ex,DE (Bo X scope (x::N) cl C s₀ H₀ ex) elt de)
  (hs:∀x,foldedSetIterable iter X.env x=pure x:=by intro _;rfl):DE X (.ListComp elt [⟨.Name x px,iter,ifs,0⟩] scope pos) (HN sl ti dt de):=by
 have mt:∀{ρ Q Q'},(∀d,Q d→Q' d)→dt ρ Q→dt ρ Q':=(ht [] 0 X.s₀ X.H₀ []).mono
 have me:∀{ρ Q Q'},(∀d,Q d→Q' d)→de ρ Q→de ρ Q':=(he [] 0 X.s₀ X.H₀ []).mono
 refine⟨fun hq h=>hi.mono (fun items ⟨h1,h2,W,w0,st,fin⟩=>⟨h1,h2,W,w0,st,fun acc l w=>hq _ (fin acc l w)⟩) h,?_⟩
 refine(YM (tt:=lT X.K dt) (te:=lE X.K de) S hc hi.pi (fun cl C s₀ H₀ ex=>(ht cl C s₀ H₀ ex).pts) (fun cl C s₀ H₀ ex=>(he cl C s₀ H₀ ex).pe) hs).imp (WD (ti:=ti) (dt:=dt) (de:=de) hi.mono mt me)
theorem Uz{ti:DTI}{de:DTE}(S:Ef X scope x N sl)(hc:X.calm=true)(hi:DI X (.Name x px) iter ti)(he:∀cl C s₀ H₀ ex,DE (Bo X scope (x::N) cl C s₀ H₀ ex) elt de)
  (hs:∀x,foldedSetIterable iter X.env x=pure x:=by intro _;rfl):DE X (.ListComp elt [⟨.Name x px,iter,[],0⟩] scope pos) (HN sl ti Mg de):=Vz S hc hi (fun _ _ _ _ _=>YG) he hs
theorem Wc{c:Expr}{ti:DTI}{dt:DTT}{de:DTE}(S:Ef X scope x N sl)(hc:X.calm=true)(hi:DI X (.Name x px) iter ti)(ht:∀cl C s₀ H₀ ex,DT (Bo X scope (x::N) cl C s₀ H₀ ex) c dt)(he:∀cl C s₀ H₀ ex,DE (Bo X scope (x::N) cl C s₀ H₀ ex) elt de)
  (hs:∀x,foldedSetIterable iter X.env x=pure x:=by intro _;rfl):DE X (.ListComp elt [⟨.Name x px,iter,[c],0⟩] scope pos) (HN sl ti dt de):=Vz S hc hi (fun _ _ _ _ _=>ZM (ht _ _ _ _ _)) he hs
end
end L2
namespace L2
open PySem Spec PyProof.Rows SeqAt
def AgI(sc scope:Scope)(NN:List Str)(x:Str)(N:List Str)(sl:List Nat):Bool :=
 decide (scope.names.lookup x=some .local)&&decide (scope.kind=.function)&&scope.names.all (fun y=>decide (y.2≠.cell))&&scope.names.all (fun y=>decide (y.2=.local→scope.names.lookup y.1=some .local)) &&
  scope.names.all (fun y=>decide (y.2=.free→sc.names.lookup y.1=some .cell))&&decide (x::N).Nodup&&decide (N.map some=sl.map (fun j=>NN[j]?))&&N.all (fun n=>decide (scope.names.lookup n=some .free))
theorem Gj{X:Cx}{sc scope:Scope}{NN:List Str}{x:Str}{N:List Str}{sl:List Nat}(h1:X.env.scope=sc)(h2:X.N=NN)(h:AgI sc scope NN x N sl=true):Ef X scope x N sl:=by
 subst h1 h2
 unfold AgI at h
 simp only[Bool.and_eq_true,decide_eq_true_eq,List.all_eq_true]at h
 obtain⟨⟨⟨⟨⟨⟨⟨a,b⟩,c⟩,d⟩,e⟩,f⟩,g⟩,i⟩:=h
 exact⟨a,b,c,d,e,f,g,i⟩
def Bt(n:Nat)(x:Int):Prop:=x.natAbs<2 ^ n
theorem Bt.le{n m:Nat}{x:Int}(h:Bt n x)(l:n≤m):Bt m x:=Nat.lt_of_lt_of_le h (Nat.pow_le_pow_right (by decide) l)
theorem Bt.mul{n m:Nat}{x y:Int}(a:Bt n x)(b:Bt m y):Bt (n+m) (x*y):=by
 unfold Bt at *
 rw[Int.natAbs_mul,Nat.pow_add]
 exact Nat.mul_lt_mul'' a b
theorem Bt.add{n m:Nat}{x y:Int}(a:Bt n x)(b:Bt m y):Bt (max n m+1) (x+y):=by
 have a':=a.le (Nat.le_max_left n m)
 have b':=b.le (Nat.le_max_right n m)
 unfold Bt at *
 rw[Nat.pow_succ]
 have:=Int.natAbs_add_le x y
 omega
theorem Bt.neg{n:Nat}{x:Int}(a:Bt n x):Bt n (-x):=by unfold Bt at *;rw[Int.natAbs_neg];exact a
theorem Bt.sub{n m:Nat}{x y:Int}(a:Bt n x)(b:Bt m y):Bt (max n m+1) (x-y):=by rw[Int.sub_eq_add_neg];exact a.add b.neg
theorem Bt.au{n:Nat}{x:Int}(h:x.natAbs<2 ^ n):Bt n x:=h
theorem Bt.of{n:Nat}{x:Int}(h1:-(2 ^ n)<x)(h2:x<2 ^ n):Bt n x:=by
 unfold Bt
 have:((x.natAbs:Nat):Int)<((2 ^ n:Nat):Int):=by push_cast;omega
 omega
theorem Bt.aj{n m:Nat}{x y:Int}(a:Bt n x)(b:Bt m y)(hn:n≤1048576:=by decide)(hm:m≤1048576:=by decide):IntMulOk x y :=
 IntMulOk.of_bits (intBits_le_iff.mpr (a.le hn)) (intBits_le_iff.mpr (b.le hm))
theorem Bt.cA{n:Nat}{x y:Int}(a:Bt n y)(h:y≠0)(hn:n≤9000:=by decide):CDv x y:=⟨h,a.le hn⟩
theorem Bt.zero:Bt 0 0:=by unfold Bt;decide
theorem Bt.one:Bt 1 1:=by unfold Bt;decide
end L2
namespace L2
open PySem Spec PyProof.Rows SeqAt
section
variable{a b c d e f:Dt}{r s:List Dt}{i j:Int}{k l:Bool}{n:Nat}{x y:Str}
theorem AnG:ixD 0 (.tup (a::r))=some a:=rfl
theorem Anz:ixD 1 (.tup (a::b::r))=some b:=rfl
theorem Amw:ixD 2 (.tup (a::b::c::r))=some c:=rfl
theorem AmJ:ixD 3 (.tup (a::b::c::d::r))=some d:=rfl
theorem Ant:ixD 0 (.lst (a::r))=some a:=rfl
theorem Am4:ixD 1 (.lst (a::b::r))=some b:=rfl
theorem AnZ:ixD 2 (.lst (a::b::c::r))=some c:=rfl
theorem An5:ixD 3 (.lst (a::b::c::d::r))=some d:=rfl
theorem RT:Dt.eq (.int i) (.int j)=decide (i=j):=by rw[Dt.eq]
theorem AjW:Dt.eq (.bl k) (.bl l)=(k==l):=by rw[Dt.eq]
theorem Oc:Dt.eq (.str x) (.str y)=(x==y):=by rw[Dt.eq]
theorem AkA:Dt.eq .non .non=true:=by rw[Dt.eq]
theorem Ai2:Dt.eq .non (.int i)=false:=by simp[Dt.eq]
theorem Akc:Dt.eq .non (.tup r)=false:=by simp[Dt.eq]
theorem AjS:Dt.eq (.tup r) .non=false:=by simp[Dt.eq]
theorem Wy:Dt.eq (.tup r) (.tup s)=Dt.eqs r s:=by rw[Dt.eq]
theorem AlQ:Dt.eq (.lst r) (.lst s)=Dt.eqs r s:=by rw[Dt.eq]
theorem Ug:Dt.eqs [] []=true:=by rw[Dt.eqs]
theorem Tn:Dt.eqs (a::r) (b::s)=(Dt.eq a b&&Dt.eqs r s):=by rw[Dt.eqs]
theorem AhQ:Dt.eqs [] (b::s)=false:=by simp[Dt.eqs]
theorem Ahj:Dt.eqs (b::s) []=false:=by simp[Dt.eqs]
theorem Ti:Dt.flat n (.int i)=true:=by cases n<;>rw[Dt.flat]<;>simp
theorem Ah0:Dt.flat n (.bl k)=true:=by cases n<;>rw[Dt.flat]<;>simp
theorem Ahh:Dt.flat n .non=true:=by cases n<;>rw[Dt.flat]<;>simp
theorem Yh:Dt.flat (n+1) (.tup r)=Dt.flats n r:=by rw[Dt.flat]
theorem Acr:Dt.flat (n+1) (.lst r)=Dt.flats n r:=by rw[Dt.flat]
theorem Agb:Dt.flat 8 (.tup r)=Dt.flats 7 r:=Yh
theorem Aem:Dt.flat 8 (.lst r)=Dt.flats 7 r:=Acr
theorem Ae3:Dt.flat 7 (.tup r)=Dt.flats 6 r:=Yh
theorem Af3:Dt.flat 7 (.lst r)=Dt.flats 6 r:=Acr
theorem Afo:Dt.flat 6 (.tup r)=Dt.flats 5 r:=Yh
theorem AfY:Dt.flats n []=true:=by rw[Dt.flats]
theorem AeG:Dt.flats n (a::r)=(Dt.flat n a&&Dt.flats n r):=by rw[Dt.flats]
theorem Aci{N:Str}{M:List Str}:Fx (N::M) (a::r)=some (.is a)::Fx M r:=by
 unfold Fx
 simp only[List.map_cons,List.length_cons,List.cons_append,Nat.add_sub_add_right]
theorem Acj{N:Str}{M:List Str}:Fx (N::M) []=none::Fx M []:=by
 unfold Fx
 simp[List.replicate_succ]
theorem AdC:Fx [] []=[]:=rfl
theorem Ao(h:n≤1000):n≤sizeLine:=Nat.le_of_lt (Aaz h)
theorem AhT:isT "tuple" (.tup r)=true:=rfl
theorem AhA:isT "list" (.lst r)=true:=rfl
theorem Ahk:isT "int" (.int i)=true:=rfl
theorem Ahp:isT "bool" (.int i)=false:=rfl
theorem Ahn:isT "int" (.bl k)=true:=rfl
theorem Aht:isT "bool" (.bl k)=true:=rfl
theorem AhX:isT "tuple" .non=false:=rfl
theorem Ahm:isT "int" .non=false:=rfl
theorem Ah2:isT "int" (.tup r)=false:=rfl
theorem AhU:isT "bool" (.tup r)=false:=rfl
theorem Amy:noFn (.int i)=true:=rfl
theorem Aod:noFn (.bl k)=true:=rfl
theorem AmA:noFn .non=true:=rfl
theorem AnX:noFn (.tup r)=true:=rfl
theorem Aoa:noFn (.lst r)=true:=rfl
theorem Ans:noFn (.str x)=true:=rfl
theorem Alu:isB true (.bl k)=k:=by cases k<;>rfl
theorem Akr:isB false (.bl k)=!k:=by cases k<;>rfl
theorem Aji:isB k (.int i)=false:=rfl
theorem Akj:isB k .non=false:=rfl
theorem Aiv:isB k (.tup r)=false:=rfl
theorem Akt:isB k (.lst r)=false:=rfl
theorem AkQ:isN .non=true:=rfl
theorem AkV:isN (.int i)=false:=rfl
theorem Akd:isN (.bl k)=false:=rfl
theorem AlA:isN (.tup r)=false:=rfl
theorem AlJ:isN (.lst r)=false:=rfl
end
end L2
namespace L2
open PySem Spec PyProof.Rows SeqAt
theorem ifn{c:Bool}{A B:Prop}(h:c=true)(b:B):if(!c)=true then A else B:=by subst h;exact b
theorem ift{c:Bool}{A B:Prop}(h:c=true)(a:A):if c=true then A else B:=by subst h;exact a
theorem EY{c:Bool}{A B:Prop}(h:c=false)(b:B):if c=true then A else B:=by subst h;exact b
theorem Al{τ:Type}{args:τ→List Dt}{pre:τ→Prop}{val:τ→Dt}{Q:Dt→Prop}(p:τ)(h:pre p)(k:Q (val p)):CN args pre val (args p) Q:=⟨p,rfl,h,fun d e=>by rw[e];exact k⟩
theorem Bg{τ:Type}{args:τ→List Dt}{pre:τ→Prop}{post:τ→Dt→Prop}{Q:Dt→Prop}(p:τ)(h:pre p)(k:∀d,post p d→Q d):spec args pre post (args p) Q:=⟨p,rfl,h,k⟩
theorem N5{sl:List Nat}{tt:DTT}{te:DTE}{ρ:Bv}{Q:Dt→Prop}{items:List Dt}(p:Dt→Bool)(f:Dt→Dt)(ht:∀d∈items,∀R:Bool→Prop,R (p d)→tt (inner sl ρ d) R)(he:∀d∈items,p d=true→∀R:Dt→Prop,R (f d)→te (inner sl ρ d) R)
  (hq:Q (.lst ((items.filter p).map f))):∃W:Nat→List Dt→Prop,W 0 []∧(∀(k:Nat) d acc,items[k]? = some d→W k acc→tt (inner sl ρ d) fun b=>if b=true then te (inner sl ρ d) fun e=>W (k+1) (acc++[e])else W (k+1) acc) ∧
   ∀acc,acc.length≤items.length→W items.length acc→Q (.lst acc):=by
 refine⟨fun k acc=>acc=((items.take k).filter p).map f,by simp,fun k d acc e w=>?_,fun acc _ w=>by rw[w,List.take_length];exact hq⟩
 have hm:=List.mem_of_getElem? e
 refine ht d hm _ ?_
 have ht:=take_succ_filter p items k d e
 by_cases hp:p d=true
 ·rw[if_pos hp]
  refine he d hm hp _ ?_
  show acc++[f d]=_
  rw[w,ht,if_pos hp];simp
 ·rw[if_neg hp]
  show acc=_
  rw[w,ht,if_neg hp];simp
theorem comp_map{sl:List Nat}{te:DTE}{ρ:Bv}{Q:Dt→Prop}{items:List Dt}(f:Dt→Dt)(he:∀d∈items,∀R:Dt→Prop,R (f d)→te (inner sl ρ d) R)
  (hq:Q (.lst (items.map f))):∃W:Nat→List Dt→Prop,W 0 []∧(∀(k:Nat) d acc,items[k]? = some d→W k acc→Mg (inner sl ρ d) fun b=>if b=true then te (inner sl ρ d) fun e=>W (k+1) (acc++[e])else W (k+1) acc) ∧
   ∀acc,acc.length≤items.length→W items.length acc→Q (.lst acc) :=
 N5 (fun _=>true) f (fun _ _ _ h=>h) (fun d hm _ R h=>he d hm R h) (by rw[List.filter_eq_self.mpr (fun _ _=>rfl)];exact hq)
theorem Jl{sl:List Nat}{ti:DTI}{tt:DTT}{te:DTE}{ρ:Bv}{Q:Dt→Prop}(items:List Dt)(p:Dt→Bool)(f:Dt→Dt)(hi:∀R:List Dt→Prop,R items→ti ρ R)(hl:items.length≤sizeLine)(hc:caught sl ρ)
  (ht:∀d∈items,∀R:Bool→Prop,R (p d)→tt (inner sl ρ d) R) (he:∀d∈items,p d=true→∀R:Dt→Prop,R (f d)→te (inner sl ρ d) R) (hq:Q (.lst ((items.filter p).map f))):HN sl ti tt te ρ Q :=
 hi _ ⟨hl,hc,N5 p f ht he hq⟩
theorem Kl{sl:List Nat}{ti:DTI}{te:DTE}{ρ:Bv}{Q:Dt→Prop}(items:List Dt)(f:Dt→Dt)(hi:∀R:List Dt→Prop,R items→ti ρ R)(hl:items.length≤sizeLine)(hc:caught sl ρ)
  (he:∀d∈items,∀R:Dt→Prop,R (f d)→te (inner sl ρ d) R) (hq:Q (.lst (items.map f))):HN sl ti Mg te ρ Q :=
 hi _ ⟨hl,hc,comp_map f he hq⟩
theorem G4{ti:DTI}{g:DTG}{tb:DTS}{D:Ft}{ρ:Bv}(items:List Dt)(hi:∀R:List Dt→Prop,R items→ti ρ R)(W:Nat→Bv→Prop)(h0:W 0 ρ)
  (hs:∀(k:Nat) d ρ',items[k]? = some d→W k ρ'→g d ρ' fun ρ2=>tb {D with nx:=W (k+1),ct:=W (k+1),bk:=D.nx} ρ2) (he:∀ρ',W items.length ρ'→D.nx ρ'):Afs ti g tb D ρ:=hi _ ⟨W,h0,hs,he⟩
theorem ints_get{ns:List Int}{k:Nat}{d:Dt}(h:(ns.map Dt.int)[k]? = some d):∃n,ns[k]? = some n∧d=.int n:=by
 rw[List.getElem?_map]at h
 cases e:ns[k]? with
 |none=>rw[e]at h;cases h
 |some n=>rw[e]at h;cases h;exact⟨n,rfl,rfl⟩
theorem Fi{ρ:Bv}:caught [] ρ:=fun _ h=>(nomatch h)
theorem Dr{j:Nat}{sl:List Nat}{ρ:Bv}{d:Dt}(h:ρ[j]? = some (some (.is d)))(r:caught sl ρ):caught (j::sl) ρ:=fun k hk=>by
 rcases List.mem_cons.mp hk with e|e
 ·subst e;exact⟨d,h⟩
 ·exact r k e
theorem Y5{ns:List Int}{k:Int}(h0:0≤k)(h1:k<ns.length):ixD k (.lst (ns.map Dt.int))=some (.int (ns.getD k.toNat 0)):=by
 obtain⟨j,rfl⟩:=Int.eq_ofNat_of_zero_le h0
 have hj:j<ns.length:=by omega
 show(ns.map Dt.int)[j]? = _
 rw[List.getElem?_map]
 simp[hj]
end L2
namespace L2
theorem HD{c:DTT}{tb:DTS}{D:Ft}{ρ:Bv}(W:Nat→Bv→Prop)(m:Nat)(h0:W m ρ)(h:∀m ρ,W m ρ→c ρ fun k=>if k=true then tb {D with nx:=fun ρ'=>∃m',m'<m∧W m' ρ',ct:=fun ρ'=>∃m',m'<m∧W m' ρ',bk:=D.nx} ρ else D.nx ρ):Adb c tb D ρ:=⟨W,⟨m,h0⟩,h⟩
end L2
namespace L2
open PySem Spec PyProof.Rows SeqAt
section
variable{X:Cx}{a b c e:Expr}{es:List Expr}{ta tb te:DTE}{tl:DTA}{pos:Pos}
def downs(hi:Int)(n:Nat):List Dt:=(List.range n).map fun i=>.int (hi-(i:Nat))
def Ain(tl:DTA):DTI:=fun ρ Q=>tl ρ fun ds=>match ds with
 | [.int i,.int j,.int k]=>k=-1∧(-(2 ^ 62)≤i∧i<2 ^ 62∧-(2 ^ 62)≤j∧j<2 ^ 62)∧Q (downs i (i-j).toNat)
 |_=>False
theorem AfO:MtR X "int.bit_length" (fun x xs H Q=>∃i,x=.int i∧xs=[]∧Q (.int (Builtin.Int.intBits i)) H):=by
 intro pins s σ H x xs v us Q I rx rs ⟨i,e,e2,q⟩
 subst e e2
 cases rs
 obtain⟨t,rfl⟩:=rx
 exact call_int_bit_length ⟨.int _,H,I.tok _,⟨_,rfl⟩,q⟩
def Ag8(ta:DTE):DTE:=fun ρ Q=>ta ρ fun d=>match d with
 |.int i=>Q (.int (Builtin.Int.intBits i))
 |_=>False
theorem Zt{apos:Pos}(ha:DE X a ta)(hbase:attributeBase a "bit_length" X.env (eval a X.env)=eval a X.env:=by rfl)(hline:(apos.endLine==pos.line)=true:=by rfl):DE X (.Call (.Attribute a "bit_length" apos) [] [] pos) (Ag8 ta) where
 mono:=fun hq h=>ha.mono (fun d h=>by
  split at h
  ·exact hq _ h
  ·exact h.elim) h
 pe:=(Xi PySem.F.plainAttrs_int PySem.F.slot_int_bit_length PySem.F.type_int_bit_length AfO ha.pe hbase hline).imp fun σ H Q ⟨B,F,O,ρ,R,h⟩=>⟨B,F,O,ρ,R,ha.mono (fun d h v H1 s1 r1=>by
  split at h
  ·rw[Bh.mp r1]
   exact⟨rfl,_,rfl,rfl,h _ H1 s1 (Bh.mpr rfl)⟩
  ·exact h.elim) h⟩
def Ami(P:Program)(w:World)(K:W.Frag)(mg:Str→Option Value)(base:Heap)(k:Nat)(a:Addr)(sp:DSp):Prop :=
 ∃fd ps,Ho P w K mg base CX0 k a fd ps (lSp K sp)∧Binds K fd ps []∧W.keepIn K (.ref a)=true
def AhS(P:Program)(w:World)(K:W.Frag)(mg:Str→Option Value)(base:Heap)(k:Nat)(tf:DTE)(tl:DTA):DTE:=fun ρ Q=>tf ρ fun d=>match d with
 |.fn a=>W.keepIn K (.ref a)=true∧tl ρ fun ds=>∃sp,Hr sp∧Ami P w K mg base k a sp∧sp ds Q
 |_=>False
def lF(K:W.Frag)(t:DTA):TE:=fun σ H Q=>∃B F O ρ,Rep K B F O H σ ρ∧t ρ fun ds=>∀p H' vs,Same H H'→H' p=some (.lst vs)→p∉F++O→RpL K (mask (F++O) H') ds vs→Q (.ref p) H'
structure DF(X:Cx)(e:Expr)(t:DTA):Prop where
 mono:∀{ρ Q Q'},(∀d,Q d→Q' d)→t ρ Q→t ρ Q'
 pe:PE X e (lF X.K t)
def dOf(t:DTA):DTE:=fun ρ Q=>t ρ fun ds=>Q (.lst ds)
def AiW(tl:DTA):DTA:=fun ρ Q=>tl ρ fun ds=>ds.length≤sizeLine∧Q ds
def AeY(te:DTE)(tl th:DTO):DTA:=fun ρ Q=>te ρ fun d=>tl ρ fun lo=>th ρ fun hi=>match d with
 |.lst ds=>Q (cutD ds lo hi)
 |_=>False
def Ajk(t u:DTA):DTA:=fun ρ Q=>t ρ fun xs=>u ρ fun ys=>xs.length+ys.length≤sizeLine∧Q (xs++ys)
end
end L2
namespace L2
open PySem Spec PyProof.Rows SeqAt
section
variable{X:Cx}{elt iter:Expr}{x:Str}{px:Pos}{ifs:List Expr}{scope:Scope}{pos:Pos}{N:List Str}{sl:List Nat}{wi:TI}{tt:TT}{te:TE}
theorem Xl{pins:List (Addr×Obj)}{σ:St}{H2:Hp}{s2:Shared}{cl:List (Str×Addr)}{it:Addr}{fp:List Addr}{tn:Nat→Heap→Prop}{J:It}{vs:List V}{PP:Value→Addr→Result→Shared→Prop}{E:Value→Shared→Prop}{QD:Hp→Prop}(S:Ef X scope x N sl)(hc:X.calm=true)
  (ht:∀cl C s₀ H₀ ex,PTs (Bo X scope (x::N) cl C s₀ H₀ ex) ifs tt) (he:∀cl C s₀ H₀ ex,PE (Bo X scope (x::N) cl C s₀ H₀ ex) elt te)
  (hcl:∀n c,cl.lookup n=some c→X.env.cells.lookup n=some c) (lq:∀n,(n,NameKind.free)∈scope.names→∃c,cl.lookup n=some c)
  (I2:Inv X pins σ H2 s2) (T:Turn X.prog X.w X.K (.Name x px) J fp it tn) (st2:tn 0 s2.heap) (f2:∀b∈fp,Ol X pins H2 b) (hvs:sl.map (fun j=>σ[j]?)=vs.map (fun v=>some (some v)))
  (hW:∃W:Nat→Nat→List V→Hp→Prop,(∃m,W 0 m [] (upd H2 s2.heap.objs.size (.lst [])))∧∀i m acc H,W i m acc H →
   (J.stop i H∧QD H)∨(J.go i H∧∀x H',J.yld i H x H'→tt (some x::vs.map some) H' fun b H2' =>
    if b=true then te (some x::vs.map some) H2' fun y H3=>H3 s2.heap.objs.size=some (.lst acc)∧acc.length<sizeLine∧∃m',m'<m∧W (i+1) m' (acc++[y]) (upd H3 s2.heap.objs.size (.lst (acc++[y])))
    else ∃m',m'<m∧W (i+1) m' acc H2'))
  (fin:∀(C:Addr),(s2.heap.push {cls:=.type "list",data:=.seq ([]:List Value).toArray}).objs.size=C→∀{σ':St} {H':Hp} {s':Shared},Inv (Bo X scope (x::N) cl C {s2 with heap:=s2.heap.push {cls:=.type "list",data:=.seq ([]:List Value).toArray},toks:=s2.toks} (upd H2 s2.heap.objs.size (.lst [])) fp) [] σ' H' s'→QD H'→PP (.ref s2.heap.objs.size) C (.ok .next) s') :
  wpAny (model X.prog X.w) X.A (newList []) (fun acc s₃=>wpAny (model X.prog X.w) X.A (newFunctionEnv scope X.env.globals cl [] X.env.qual none .none (some X.env)) (fun cenv s₄ =>
   codeAny (model X.prog X.w) X.A (.compStart (.ListComp elt [⟨.Name x px,iter,ifs,0⟩] scope pos) 0 (.ref it) acc {cenv with scope:=relabel scope X.env}) (PP acc cenv.locals) s₄) E s₃) E s2:=by
 refine wpAny_newObj_type (wpAny_newFunctionEnv S.cell (by intro y hy;simp at hy) (fun h₁ hns₁ hsb₁=>?_) S.kind)
 have hD:H2 s2.heap.objs.size=none:=I2.fresh
 have I3:Inv X pins σ (upd H2 s2.heap.objs.size (.lst [])) {s2 with heap:=s2.heap.push {cls:=.type "list",data:=.seq ([]:List Value).toArray},toks:=s2.toks}:=I2.qP (its:=[]) (ys:=[]) .nil (Nat.zero_le _)
 have hbD:∀b∈fp,b≠s2.heap.objs.size:=fun b hb z=>by
  obtain⟨o',e',_⟩:=T.obj _ _ st2 b hb
  exact absurd (Heap.lt_size e') (by rw[z];exact Nat.lt_irrefl _)
 have f3:∀b∈fp,Ol X pins (upd H2 s2.heap.objs.size (.lst [])) b:=fun b hb=>⟨by rw[Bm (hbD b hb)];exact(f2 b hb).1,(f2 b hb).2⟩
 have ob3:∀b∈fp,∃o,(s2.heap.push {cls:=.type "list",data:=.seq ([]:List Value).toArray}).get? b=some o:=fun b hb=>by
  obtain⟨o',e',_⟩:=T.obj _ _ st2 b hb
  exact⟨o',Heap.get?_push_of_some _ e'⟩
 have IC:=WW (tk:=s2.toks+([]:List (Str×Value)).length) S I3 f3 ob3 hns₁ hsb₁ hcl lq hvs
 dsimp only at hsb₁ IC ⊢
 generalize hCC:(s2.heap.push {cls:=.type "list",data:=.seq ([]:List Value).toArray}).objs.size=C at hns₁ hsb₁ IC ⊢
 have old:∀b o,s2.heap.get? b=some o→h₁.get? b=some o:=fun b o e=>by
  have e1:(s2.heap.push {cls:=.type "list",data:=.seq ([]:List Value).toArray}).get? b=some o:=Heap.get?_push_of_some _ e
  exact(hsb₁.2 b (by rw[←hCC];exact Nat.ne_of_lt (Heap.lt_size e1))).trans (Heap.get?_push_of_some _ e1)
 have st₁:tn 0 h₁:=T.keep _ _ _ st2 fun b hb o e=>old b o e
 obtain⟨W,⟨m0,w0⟩,turn⟩:=hW
 have fpC:∀{H':Hp} {pl:List (Addr×Obj)},(∀b∈fp,H' b=none)→(∀p∈pl,p.1∉fp)→∀b∈fp,Ol (Bo X scope (x::N) cl C {s2 with heap:=s2.heap.push {cls:=.type "list",data:=.seq ([]:List Value).toArray},toks:=s2.toks} (upd H2 s2.heap.objs.size (.lst [])) fp) pl H' b:=fun{H' pl} hn hp b hb=>by
  refine⟨hn b hb,(IC.ok.exf b hb).1,IC.ok.nW b hb,.inl hb,(IC.ok.exf b hb).2,fun p hq z=>?_⟩
  have hq':p∈pl:=by simpa [Bo] using hq
  exact hp p hq' (by rw[z];exact hb)
 have loop:codeAny (model X.prog X.w) X.A (.compLoop (.ListComp elt [⟨.Name x px,iter,ifs,0⟩] scope pos) 0 (.ref it) (.ref s2.heap.objs.size) (compEnvC scope cl C X.env)) (PP (.ref s2.heap.objs.size) C)
   {s2 with heap:=h₁,toks:=s2.toks+([]:List (Str×Value)).length}:=by
  refine codeAny_compLoop_tests (fun n s'=>∃i acc σ' H',Inv (Bo X scope (x::N) cl C {s2 with heap:=s2.heap.push {cls:=.type "list",data:=.seq ([]:List Value).toArray},toks:=s2.toks} (upd H2 s2.heap.objs.size (.lst [])) fp) [] σ' H' s'∧(∃y,σ'=y::vs.map some) ∧
   tn i s'.heap∧(∀b∈fp,H' b=none)∧W i n acc H') ?_ m0 ⟨0,[],_,_,IC,⟨none,rfl⟩,st₁,fun b hb=>(f3 b hb).1,w0⟩
  rintro n s3 ⟨i,acc,σ3,H3,I4,⟨y,rfl⟩,st3,fr3,w3⟩
  rcases turn i n acc H3 w3 with⟨stop,qn⟩|⟨go,step⟩
  ·refine wpAny_mono (T.done (Bo X scope (x::N) cl C {s2 with heap:=s2.heap.push {cls:=.type "list",data:=.seq ([]:List Value).toArray},toks:=s2.toks} (upd H2 s2.heap.objs.size (.lst [])) fp) rfl rfl rfl hc i [] s3 _ H3 (fun _ _=>False) I4 (fpC fr3 (by simp)) st3 stop) (fun r s4 ⟨hr,I5⟩=>?_) fun _ _ z=>False.elim z
   subst hr
   exact fin C hCC I5 qn
  ·refine wpAny_mono (T.item (Bo X scope (x::N) cl C {s2 with heap:=s2.heap.push {cls:=.type "list",data:=.seq ([]:List Value).toArray},toks:=s2.toks} (upd H2 s2.heap.objs.size (.lst [])) fp) rfl rfl rfl hc i [] s3 _ H3 (fun _ _=>False) I4 (fpC fr3 (by simp)) st3 go) (fun r s4 ⟨u,hr,h4⟩=>?_) fun _ _ z=>False.elim z
   subst hr
   have e0:∀(k:Unit→Sem Unit),(letOwnedTupleGo (.Name x px) (.ref it) u >>= k)=k ():=fun k=>rfl
   have hg:PG (Bo X scope (x::N) cl C {s2 with heap:=s2.heap.push {cls:=.type "list",data:=.seq ([]:List Value).toArray},toks:=s2.toks} (upd H2 s2.heap.objs.size (.lst [])) fp) (.Name x px) (YZ 0):=T9 S.nd rfl (.inl (lookup_relabel_local S.hx)) (.inr (lookup_relabel_local S.hx))
   show wpAny (model X.prog X.w) X.A (assign (.Name x px) (compEnvC scope cl C X.env) u) _ _ s4
   rw[←e0 fun _=>assign (.Name x px) (compEnvC scope cl C X.env) u]
   refine wpAny_bind (wpAny_mono h4 (fun _ s5 ⟨z,H5,I5,r5,y5,st5,fr5⟩=>?_) fun _ _ z=>False.elim z)
   have I5':=I5.pinned (fpC fr5 (by simp)) (T.obj _ _ st5)
   have W5:=hg _ s5 _ H5 z u (fun σ' H'=>σ'=some z::vs.map some∧H'=H5) I5' r5 ⟨rfl,rfl⟩
   refine wpAny_mono W5 (fun _ s6 ⟨σ6,H6,I6,e6,e7⟩=>?_) fun _ _ z=>False.elim z
   subst e6 e7
   refine wpAny_mono (ht _ _ _ _ _ _ s6 _ H6 _ I6 (step z H6 y5)) (fun b s7 ⟨H7,I7,q7⟩=>?_) fun _ _ z=>False.elim z
   have again:∀{H8:Hp} {s8:Shared} {acc':List V},Inv (Bo X scope (x::N) cl C {s2 with heap:=s2.heap.push {cls:=.type "list",data:=.seq ([]:List Value).toArray},toks:=s2.toks} (upd H2 s2.heap.objs.size (.lst [])) fp) ([]++Nm fp s5.heap) (some z::vs.map some) H8 s8→(∃m',m'<n∧W (i+1) m' acc' H8)→∃m,m<n∧∃i acc σ' H',Inv (Bo X scope (x::N) cl C {s2 with heap:=s2.heap.push {cls:=.type "list",data:=.seq ([]:List Value).toArray},toks:=s2.toks} (upd H2 s2.heap.objs.size (.lst [])) fp) [] σ' H' s8∧(∃y,σ'=y::vs.map some)∧tn i s8.heap∧(∀b∈fp,H' b=none)∧W i m acc H':=fun{H8 s8 acc'} I8 ⟨m',hm,w8⟩=>by
    refine⟨m',hm,i+1,acc',_,H8,I8.cG,⟨_,rfl⟩,T.keep _ _ _ st5 fun b hb o e=>(I8.pin (b,o) (List.mem_append_right _ (List.mem_append_right _ (Gm hb e)))).1,fun b hb=>?_,w8⟩
    obtain⟨o,e,d⟩:=T.obj _ _ st5 b hb
    exact(I8.pin (b,o) (List.mem_append_right _ (List.mem_append_right _ (Gm hb e)))).2.1
   cases b with
   |false=>exact again I7 q7
   | true =>
    rw[if_pos rfl]
    refine wpAny_mono (he _ _ _ _ _ _ s7 _ H7 _ I7 q7) (fun v8 s8 ⟨x8,H8,I8,r8,hD8,hz8,q8⟩=>?_) fun _ _ z=>False.elim z
    refine wpAny_mono (Mv (X:=(Bo X scope (x::N) cl C {s2 with heap:=s2.heap.push {cls:=.type "list",data:=.seq ([]:List Value).toArray},toks:=s2.toks} (upd H2 s2.heap.objs.size (.lst [])) fp)) _ s8 _ H8 (.ref s2.heap.objs.size) [x8] (.ref s2.heap.objs.size) [v8] (fun _ H9=>H9=upd H8 s2.heap.objs.size (.lst (acc++[x8]))) I8 rfl (.cons r8 .nil) ⟨_,acc,x8,rfl,rfl,hD8,hz8,rfl⟩) (fun _ s9 ⟨_,H9,I9,_,e9⟩=>?_) fun _ _ z=>False.elim z
    subst e9
    exact again I9 q8
 exact codeAny_compStart_list loop (T.self _ 0 _ _ _ st₁ loop)
def AlN(i:Nat)(sl:List Nat)(wi:TI)(tt:TT)(te:TE):TS:=fun D σ H=>Zz sl wi tt te σ H fun v H'=>D.nx (σ.set i (some v)) H'
theorem Afg{i:Nat}{y:Str}{py spos:Pos}(S:Ef X scope x N sl)(hc:X.calm=true)(hN:X.N.Nodup)(hyi:X.N[i]? = some y)(hy:X.env.scope.names.lookup y=some .local)(hi:PI X (.Name x px) iter wi)
  (ht:∀cl C s₀ H₀ ex,PTs (Bo X scope (x::N) cl C s₀ H₀ ex) ifs tt) (he:∀cl C s₀ H₀ ex,PE (Bo X scope (x::N) cl C s₀ H₀ ex) elt te)
  (hsw:swapsWith (.ListComp elt [⟨.Name x px,iter,ifs,0⟩] scope pos) (some (.Name y py)) spos.line X.env=pure true) (hs:∀x,foldedSetIterable iter X.env x=pure x:=by intro _;rfl) :
  PS X (.Assign [.Name y py] (.ListComp elt [⟨.Name x px,iter,ifs,0⟩] scope pos) spos) (AlN i sl wi tt te):=by
 intro pins s σ H DD I h
 obtain⟨cl,hclos,hcl,lq⟩:=Qc (env:=X.env) (scope:=scope) fun y hy hf=>I.ok.has y.1 (.inl (S.free y hy hf))
 rw[exec_Assign_Name_used _ _ _ _ hsw]
 refine wpAny_bind (wpAny_standAt (wpAny_bind ?_))
 show wpAny _ X.A (do let _ ←comprehension (.ListComp elt [⟨.Name x px,iter,ifs,0⟩] scope pos) scope X.env _ (newList []) false (eval iter X.env) (some (assign (.Name y py) X.env))) _ _ s
 refine wpAny_bind (wpAny_mono (wpAny_comprehension_free (use:=some (assign (.Name y py) X.env)) (Q:=fun _ s'=>SP X pins DD .next s') rfl hs hclos S.kind S.names
  (thn (hi pins s σ H _ I h) fun v s1 h1=>thn h1 fun itv s2 h2=>?_)) (fun _ s' hq=>wpAny_pure (wpAny_pure hq)) fun _ _ e=>e)
 obtain⟨it,fp,tn,J,H2,e,I2,T,st2,f2,vs,hvs,hW⟩:=h2
 subst e
 refine Xl (QD:=fun H'=>DD.nx (σ.set i (some (.ref s2.heap.objs.size))) H') (PP:=fun acc C=>compPost (model X.prog X.w) X.A X.xe (some (assign (.Name y py) X.env)) (fun _ s'=>SP X pins DD .next s') acc C) S hc ht he hcl lq I2 T st2 f2 hvs (hW s2.heap.objs.size I2.fresh) fun C hCC {σ' H' s'} J q=>?_
 have hD:H2 s2.heap.objs.size=none:=I2.fresh
 have nC:∀b o,s2.heap.get? b=some o→b≠C:=fun b o e=>by
  have e1:(s2.heap.push {cls:=.type "list",data:=.seq ([]:List Value).toArray}).get? b=some o:=Heap.get?_push_of_some _ e
  rw[←hCC];exact Nat.ne_of_lt (Heap.lt_size e1)
 have u:Un (frs X.stack) fp H2 H' s2.heap s'.heap:=(Un.laid (fun b u e=>Heap.get?_push_of_some _ e) (Nat.le_refl _) hD).trans J.base
 have hos:s'.os=s2.os:=J.os
 have IX:Inv X pins σ H' s':=I2.call' (ch:=fp) hos u J.hok J.bare fun b hb=>⟨(f2 b hb).2.2.2.1,(f2 b hb).2.1,(f2 b hb).2.2.2.2.1,(f2 b hb).2.2.2.2.2⟩
 have hLC:X.env.locals≠C:=by
  obtain⟨m,⟨o,_,_,ho,_⟩,_⟩:=I2.loc
  exact nC _ o ho
 have hcC:∀y c,X.env.cells.lookup y=some c→c≠C:=fun y c e=>by
  obtain⟨v,o,ho,_⟩:=I2.cell y c e
  exact nC _ o ho
 show wpAny _ X.A (assign (.Name y py) X.env (.ref s2.heap.objs.size)) _ _ _
 refine wpAny_assign_Name (Rz IX hN hyi (.inl hy) (v:=.ref s2.heap.objs.size) rfl (fun s'' I'' ⟨a,hs2,ha⟩=>?_) (.inr hy))
 obtain⟨m,hn,_⟩:=id J.loc
 have haC:C≠a:=by
  rcases ha with z|z
  ·rw[z];exact Ne.symm hLC
  ·exact Ne.symm (hcC y a z)
 refine⟨m,hn.sameBut hs2 haC,fun h' hs'=>⟨_,H',?_,q⟩⟩
 refine I''.turned (t':=s''.toks) (it:=C) (fun b o hb e=>(hs'.2 b hb).trans e) J.free (Ne.symm hLC) (.inr ?_) hcC (fun p hp z=>?_)
 ·rw[←hCC]
  exact Nat.le_trans I2.sz (by rw[Heap.size_push];exact Nat.le_succ _)
 ·obtain⟨e,_⟩:=I2.pin p hp
  exact nC _ _ e z
theorem R6{sl:List Nat}{ti:DTI}{dt:DTT}{de:DTE}(mi:∀{ρ Q Q'},(∀d,Q d→Q' d)→ti ρ Q→ti ρ Q'):∀{ρ Q Q'},(∀d,Q d→Q' d)→HN sl ti dt de ρ Q→HN sl ti dt de ρ Q' :=
 fun hq h=>mi (fun items ⟨h1,h2,W,w0,st,fin⟩=>⟨h1,h2,W,w0,st,fun acc l w=>hq _ (fin acc l w)⟩) h
def Ad2(i:Nat)(sl:List Nat)(ti:DTI)(tt:DTT)(te:DTE):DTS:=fun D ρ=>HN sl ti tt te ρ fun d=>D.nx (ρ.set i (some (.is d)))
theorem AdN{ti:DTI}{dt:DTT}{de:DTE}{y:Str}{py spos:Pos}(i:Nat)(S:Ef X scope x N sl)(hc:X.calm=true)(hN:X.N.Nodup)(hyi:X.N[i]? = some y)(hy:X.env.scope.names.lookup y=some .local)(hi:DI X (.Name x px) iter ti)
  (ht:∀cl C s₀ H₀ ex,DTs (Bo X scope (x::N) cl C s₀ H₀ ex) ifs dt) (he:∀cl C s₀ H₀ ex,DE (Bo X scope (x::N) cl C s₀ H₀ ex) elt de)
  (hsw:swapsWith (.ListComp elt [⟨.Name x px,iter,ifs,0⟩] scope pos) (some (.Name y py)) spos.line X.env=pure true) (hs:∀x,foldedSetIterable iter X.env x=pure x:=by intro _;rfl) :
  DS X (.Assign [.Name y py] (.ListComp elt [⟨.Name x px,iter,ifs,0⟩] scope pos) spos) (Ad2 i sl ti dt de) where
 mono:=fun hd h=>R6 (ti:=ti) hi.mono (fun d q=>hd.nx _ q) h
 ps:=(Afg (tt:=lT X.K dt) (te:=lE X.K de) S hc hN hyi hy hi.pi (fun cl C s₀ H₀ ex=>(ht cl C s₀ H₀ ex).pts) (fun cl C s₀ H₀ ex=>(he cl C s₀ H₀ ex).pe) hsw hs).imp fun D σ H ⟨B,F,O,ρ,R,h⟩ =>
  WD (ti:=ti) (dt:=dt) (de:=de) hi.mono (ht [] 0 X.s₀ X.H₀ []).mono (he [] 0 X.s₀ X.H₀ []).mono σ H _ ⟨B,F,O,ρ,R,R6 (ti:=ti) hi.mono (fun d q v H' s r=>q O _ H' ((R.same s).set i r)) h⟩
theorem AdQ{c:Expr}{ti:DTI}{dt:DTT}{de:DTE}{y:Str}{py spos:Pos}(i:Nat)(hN:X.N.Nodup)(S:Ef X scope x N sl)(hc:X.calm=true)(hi:DI X (.Name x px) iter ti)(ht:∀cl C s₀ H₀ ex,DT (Bo X scope (x::N) cl C s₀ H₀ ex) c dt)
  (he:∀cl C s₀ H₀ ex,DE (Bo X scope (x::N) cl C s₀ H₀ ex) elt de)
  (hyi:X.N[i]? = some y:=by rfl) (hy:X.env.scope.names.lookup y=some .local:=by rfl) (hsw:swapsWith (.ListComp elt [⟨.Name x px,iter,[c],0⟩] scope pos) (some (.Name y py)) spos.line X.env=pure true:=by rfl) (hs:∀x,foldedSetIterable iter X.env x=pure x:=by intro _;rfl) :
  DS X (.Assign [.Name y py] (.ListComp elt [⟨.Name x px,iter,[c],0⟩] scope pos) spos) (Ad2 i sl ti dt de):=AdN i S hc hN hyi hy hi (fun _ _ _ _ _=>ZM (ht _ _ _ _ _)) he hsw hs
end
section
variable{prog:Program}{w:World}{A:Around}{E:Value→Shared→Prop}{s:Shared}
theorem Sx{it t:Addr}{items:Array Value}(hne:t≠it):∀(n i:Nat)(s:Shared)(Q:List Value→Shared→Prop),s.heap.IsListIter it t i→s.heap.IsList t items→i+n≤items.size →
  (∀h',h'.IsListIter it t (i+n)→Heap.SameBut it s.heap h'→Q ((items.toList.drop i).take n) {s with heap:=h'})→wpAny (model prog w) A (draw (.ref it) n) Q E s
 | 0,i,s,Q,hit,_,_,hQ=>by
  show wpAny _ _ (pure []) Q E s
  exact wpAny_pure (by simpa using hQ s.heap hit (Heap.SameBut.refl ..))
 | n+1,i,s,Q,hit,ht,hle,hQ=>by
  have hlt:i<items.size:=by omega
  show wpAny _ _ (pyNext (.ref it) >>= _) Q E s
  refine wpAny_bind (wpAny_pyNext_list_item hit ht (x:=items[i]) (by simp[hlt]) fun h₁ hit₁ hs₁=>?_)
  refine wpAny_bind (wpAny_holding (Sx hne n (i+1) _ _ hit₁ (ht.extBut hs₁.extBut hne) (by omega) fun h₂ hit₂ hs₂=>wpAny_pure ?_))
  have hd:items.toList.drop i=items[i]::items.toList.drop (i+1):=by simp[List.drop_eq_getElem_cons,hlt]
  have:=hQ h₂ (by rw[show i+(n+1)=i+1+n by omega];exact hit₂) (hs₁.trans hs₂)
  rw[hd,List.take_succ_cons]at this
  exact this
theorem Nb{t:Addr}{items:Array Value}{Q:List Value→Shared→Prop}(hh:A.handled=none)(ht:s.heap.IsList t items)
  (hQ:∀h',Heap.ExtBut s.heap.objs.size s.heap h'→Q items.toList {s with heap:=h'}):wpAny (model prog w) A (unpackItems (.ref t) items.size none) Q E s:=by
 have hlt:t≠s.heap.objs.size:=by obtain⟨o,ho,_⟩:=ht;exact Nat.ne_of_lt (Heap.lt_size ho)
 unfold unpackItems
 refine wpAny_bind ?_
 ·unfold notIterableAtAll
  refine wpAny_bind (wpAny_specialOf ht.typeIs slot_list_iter.lookup ?_)
  refine wpAny_pure ?_
  simp only[Bool.false_eq_true,if_false]
  refine wpAny_bind (wpAny_holding (wpAny_pyIter_list ht ?_))
  have ht':(s.heap.push {cls:=.type "list_iterator",data:=.fields #[.ref t,.int 0 0]}).IsList t items:=by
   obtain⟨o,ho,r⟩:=ht
   exact⟨o,Heap.get?_push_of_some _ ho,r⟩
  refine wpAny_bind (wpAny_holding (Sx hlt items.size 0 _ _ ⟨_,Heap.get?_push_size _ rfl,rfl,rfl⟩ ht' (by omega) fun h₁ hit₁ hs₁=>?_))
  have hall:List.take items.size (List.drop 0 items.toList)=items.toList:=by
   rw[List.drop_zero];exact List.take_of_length_le (by simp)
  rw[hall]
  rw[if_neg (by simp)]
  have ht₁:h₁.IsList t items:=ht'.extBut hs₁.extBut hlt
  refine wpAny_bind (wpAny_holding (wpAny_pyNext_list_end hh hit₁ ht₁ (by simp) fun h₂ he₂=>?_))
  simp only[Option.isSome_none,Bool.false_eq_true,if_false]
  refine wpAny_pure (hQ h₂ fun b o hb e=>he₂ b o hb (hs₁.extBut b o hb (Heap.get?_push_of_some _ e)))
end
section
variable{X:Cx}{es:List Expr}{pos:Pos}
def Anl(K:W.Frag)(n:Nat)(t:TGs):TG:=fun v σ H Q=>∃a xs,v=.ref a∧SqL K H a xs∧xs.length=n∧t xs σ H Q
theorem AhD{k:Nat}{t:TGs}{n:Nat}(hc:X.calm=true)(h:PGs X es t)(hn:(assignEach es X.env).length=n:=by rfl)(hst:(assignEach es X.env).findIdx? (·.1)=none:=by rfl):PG X (.Tuple es k pos) (Anl X.K n t):=by
 intro pins s σ H v u Q I r hw
 obtain⟨a,xs,e1,hq,hl,hw⟩:=hw
 subst e1
 cases r
 obtain⟨its,rv,ht,hz⟩:=I.list hq
 rw[assign_Tuple]
 refine wpAny_bind (wpAny_standAt ?_)
 unfold unpack
 have e2:(assignEach es X.env).length=its.toArray.size:=by simp[hn,←hl,rv.length]
 rw[e2,hst]
 refine wpAny_bind (wpAny_holding (Nb (I.ok.hd hc) ht.isList fun h' hx=>?_))
 have I1:Inv X pins σ H {s with heap:=h'}:=I.kept (t':=s.toks) fun b o e=>hx b o (Nat.ne_of_lt (Heap.lt_size e)) e
 exact h pins _ σ H xs _ Q I1 (by simpa using rv) hw
def Zy(n:Nat)(gs:Q7):DTG:=fun d ρ Q=>match d with
 |.lst ds=>ds.length=n∧gs ds ρ Q
 |_=>False
theorem AbH{k:Nat}{gs:Q7}{n:Nat}(hc:X.calm=true)(h:DGs X es gs)(hn:(assignEach es X.env).length=n:=by rfl)(hst:(assignEach es X.env).findIdx? (·.1)=none:=by rfl):DG X (.Tuple es k pos) (Zy n gs) where
 mono:=fun hq z=>by
  unfold Zy at z ⊢
  split at z
  ·exact⟨z.1,h.mono hq z.2⟩
  ·exact z.elim
 pg:=(AhD hc h.pg hn hst).imp fun v σ H Q ⟨B,F,O,ρ,d,R,r,z⟩=>by
  unfold Zy at z
  split at z
  ·obtain⟨a,xs,rfl,hs,hl⟩:=DY r
   exact⟨a,xs,rfl,Bw.seq hs,by rw[hl.len];exact z.1,B,F,O,ρ,_,R,hl,z.2⟩
  ·exact z.elim
end
end L2
namespace L2
end L2
namespace L2
theorem Le{n:Nat}{x:PySem.Str}:Dt.flat n (.str x)=(PySem.PyData.str x).canLay0:=by cases n<;>rw[Dt.flat]
end L2
namespace L2
open PySem Spec PyProof.Rows SeqAt
section
variable{X:Cx}{pins:List (Addr×Obj)}{σ:St}{H:Hp}{s:Shared}{h':Heap}{a dx C U f fI:Addr}{φ ψ:Heap→Prop}
end
end L2
namespace L2
open PySem Spec PyProof.Rows SeqAt
structure Aiu where
 d:Ft
 ex:Bv→Dt→Prop
abbrev K5:=Aiu→Bv→Prop
abbrev MJ:=Bv→(Dt→Prop)→(Dt→Prop)→Prop
section
variable{X:Cx}{a b c e:Expr}{es:List Expr}{st:Stmt}{sts sa sb:List Stmt}{t u:K5}{ts us:DTS}{te:MJ}{tA:DTT}{tl:DTA}{pos:Pos}
def AiJ(t:DTS):K5:=fun D ρ=>t D.d ρ
def AhM:K5:=fun D ρ=>D.d.nx ρ
def AjJ(t u:K5):K5:=fun D ρ=>t ⟨{D.d with nx:=u D},D.ex⟩ ρ
def AmD(c:DTT)(t u:K5):K5:=fun D ρ=>c ρ fun k=>if k=true then t D ρ else u D ρ
def AhP(te:MJ):K5:=fun D ρ=>te ρ (fun _=>D.d.nx ρ) (D.ex ρ)
def Amo(te:MJ):K5:=fun D ρ=>te ρ D.d.rt (D.ex ρ)
def Akb(te:MJ)(g:DTG):K5:=fun D ρ=>te ρ (fun d=>g d ρ D.d.nx) (D.ex ρ)
abbrev Am3:=List Dt→(Dt→Prop)→(Dt→Prop)→Prop
def AiD(sp:Am3)(tl:DTA):MJ:=fun ρ Q E=>tl ρ fun ds=>sp ds Q E
def Aij(c:Str)(ns:List Str)(tl:DTA):K5:=fun D ρ=>tl ρ fun ds=>ds.length=ns.length∧ds.length≤1000∧D.ex ρ (.exc c ns ds)
end
section
variable{P:Program}{w:World}{K:W.Frag}{mg:Str→Option Value}{base:Heap}
end
end L2
namespace L2
open PySem Spec PyProof.Rows SeqAt
section
variable{X:Cx}{pins:List (Addr×Obj)}{σ:St}{H:Hp}{s:Shared}
end
def Under(K:W.Frag)(mg:Str→Option Value)(c T:Str):Prop:=∀C U,W.nsIn K mainGlobals c=some (some (.ref C))→XC K C U→mg T=some (.ref U)
section
variable{X:Cx}{tb:K5}{ts:DTS}{pos tp hp:Pos}{T n:Str}{U:Addr}{body suite:List Stmt}{b₀:Stmt}
def Ab2(K:W.Frag)(mg:Str→Option Value)(T:Str)(j:Nat)(ts:DTS)(D:Ft)(ρ:Bv)(x:Dt):Prop:=match x with
 |.exc c ns ds=>Under K mg c T∧ts {nx:=fun ρ2=>D.nx (ρ2.set j none),rt:=fun _=>False} (ρ.set j (some (.is (.exc c ns ds))))
 |_=>False
def Anp(K:W.Frag)(mg:Str→Option Value)(T:Str)(j:Nat)(tb:K5)(ts:DTS):K5:=fun D ρ=>tb ⟨D.d,Ab2 K mg T j ts D.d⟩ ρ
end
end L2
namespace L2
open PySem Spec PyProof.Rows SeqAt
def Ali(K:W.Frag)(c:Str)(A:Addr)(b:Bool):Prop:=∀C,W.nsIn K mainGlobals c=some (some (.ref C))→W.kitOne K (.ref C) (.ref A)=some b
def Al9(K:W.Frag)(c:Str)(As:List Addr)(b:Bool):Prop:=∀C,W.nsIn K mainGlobals c=some (some (.ref C))→W.kitAny K (.ref C) (As.map .ref)=some b
def Oq(K:W.Frag)(c f:Str):Prop:=∀C,W.nsIn K mainGlobals c=some (some (.ref C))→W.findIn K (.ref C) f=some none
section
variable{X:Cx}{a b c e:Expr}{es:List Expr}{ta tb te:DTE}{tl:DTA}{pos:Pos}
def AnN(K:W.Frag):DL:=fun ds Q=>match ds with
 | [.exc c _ _,.fn A]=>∃v,Ali K c A v∧Q (.bl v)
 |_=>False
def AkZ(K:W.Frag):DL:=fun ds Q=>match ds with
 | [.exc c _ _,.tup es]=>∃As v,es=As.map .fn∧Al9 K c As v∧Q (.bl v)
 |_=>False
def Am2(ta:DTE):DTE:=fun ρ Q=>ta ρ fun d=>match d with
 |.exc _ _ _=>Q (.bl true)
 |_=>False
theorem zip_get{K:W.Frag}{H:Hp}{f:Str}{d:Dt}:∀{ns:List Str} {ds:List Dt} {vs:List V},RpL K H ds vs→(ns.zip ds).lookup f=some d→∃v,(ns.zip vs).lookup f=some v∧Rp K H d v
 | [],_,_,_,h=>by simp at h
 |_::_,[],_,_,h=>by simp at h
 | n::ns,x::ds,_,r,h=>by
  obtain⟨v,vr,rfl,r1,r2⟩:=Ax.mp r
  rw[List.zip_cons_cons]at h ⊢
  by_cases q:f=n
  ·have hb:(f==n)=true:=beq_iff_eq.mpr q
   simp only[List.lookup,hb]at h ⊢
   cases h;exact⟨v,rfl,r1⟩
  ·have hb:(f==n)=false:=beq_eq_false_iff_ne.mpr q
   simp only[List.lookup,hb]at h ⊢
   exact zip_get r2 h
def AkI(K:W.Frag)(te:DTE)(f:Str):DTE:=fun ρ Q=>te ρ fun d=>match d with
 |.exc c ns ds=>Oq K c f∧∃v,(ns.zip ds).lookup f=some v∧Q v
 |_=>False
def Akx(t:K5):DTS:=fun D ρ=>t ⟨D,fun _ _=>False⟩ ρ
end
end L2
namespace L2
open PySem Spec PyProof.Rows SeqAt
section
variable{K:W.Frag}{mg:Str→Option Value}{c T f:Str}{C U A:Addr}{cd:ClassData}
end
end L2
namespace L2
open PySem Spec PyProof.Rows SeqAt
theorem Lg{O:List Addr}{H:Hp}{a:Addr}{o:HO}(h:a∈O):mask O (upd H a o)=mask O H:=by
 funext b
 by_cases q:b∈O
 ·rw[Cz q,Cz q]
 ·rw[Az q,Az q,Bm (a:=a) (fun z=>q (by rw[z];exact h))]
theorem AcX{F O:List Addr}{H:Hp}{p:Addr}{o:HO}(h:H p=none):mask (F++(p::O)) (upd H p o)=mask (F++O) H:=by
 funext b
 by_cases e:b=p
 ·subst e
  rw[Cz (List.mem_append_right _ List.mem_cons_self)]
  by_cases q:b∈F++O
  ·rw[Cz q]
  ·rw[Az q,h]
 ·by_cases q:b∈F++O
  ·rw[Cz q,Cz]
   rcases List.mem_append.mp q with q|q
   ·exact List.mem_append_left _ q
   ·exact List.mem_append_right _ (List.mem_cons_of_mem _ q)
  ·rw[Az q,Az,Bm e]
   intro z
   rcases List.mem_append.mp z with z|z
   ·exact q (List.mem_append_left _ z)
   ·rcases List.mem_cons.mp z with z|z
    ·exact e z
    ·exact q (List.mem_append_right _ z)
section
variable{K:W.Frag}{B:Hp}{F O:List Addr}{H:Hp}{σ:St}{ρ:Bv}
theorem Rep.o7(r:Rep K B F O H σ ρ)(i:Nat){p:Addr}{ds:List Dt}{xs:List V}(hp:H p=none)(h:RpL K (mask (F++O) H) ds xs):Rep K B F (p::O) (upd H p (.lst xs)) (σ.set i (some (.ref p))) (ρ.set i (some (.own ds))):=by
 have hl:=r.len
 have nF:p∉F:=fun z=>r.th p (List.mem_append_left _ z) hp
 have nO:p∉O:=fun z=>r.th p (List.mem_append_right _ z) hp
 have em:=AcX (F:=F) (O:=O) (o:=.lst xs) hp
 refine⟨by simpa using hl,r.base.trans (Same.upd hp),fun a h=>?_,fun a h e=>?_,fun j d q=>?_,fun j es q=>?_,fun j k es es' a h1 h2 h3 h4=>?_,fun j ks q=>?_,fun j k es es' a h1 h2 h3 h4=>?_,r.qF fun _ z=>by cases z⟩
 ·rcases List.mem_cons.mp h with rfl|h
  ·cases q:B a with
   |none=>rfl
   |some o=>rw[r.base a o q]at hp;cases hp
  ·exact r.fr a h
 ·by_cases z:a=p
  ·rw[z,BL]at e;cases e
  ·rw[Bm z]at e
   refine r.th a ?_ e
   rcases List.mem_append.mp h with h|h
   ·exact List.mem_append_left _ h
   ·exact List.mem_append_right _ ((List.mem_cons.mp h).resolve_left z)
 ·by_cases hj:j=i
  ·subst hj
   by_cases hk:j<ρ.length
   ·rw[List.getElem?_set_self hk]at q;cases q
   ·rw[List.getElem?_eq_none (by simpa using hk)]at q;cases q
  ·rw[List.getElem?_set_ne (Ne.symm hj)]at q ⊢
   rw[em];exact r.is j d q
 ·by_cases hj:j=i
  ·subst hj
   by_cases hk:j<ρ.length
   ·rw[List.getElem?_set_self hk]at q;cases q
    exact⟨p,xs,List.getElem?_set_self (by omega),List.mem_cons_self,nF,BL,by rw[em];exact h⟩
   ·rw[List.getElem?_eq_none (by simpa using hk)]at q;cases q
  ·rw[List.getElem?_set_ne (Ne.symm hj)]at q ⊢
   obtain⟨a,ys,h1,h2,h3,h4,h5⟩:=r.own j es q
   exact⟨a,ys,h1,List.mem_cons_of_mem _ h2,h3,by rw[Bm (a:=p) (fun z=>nO (by rw[←z];exact h2))];exact h4,by rw[em];exact h5⟩
 ·have other:∀(m:Nat) es,m≠i→(ρ.set i (some (.own ds)))[m]? = some (some (.own es))→(σ.set i (some (.ref p)))[m]? = some (some (.ref p))→False:=fun m es hm q1 q2=>by
   rw[List.getElem?_set_ne (Ne.symm hm)]at q1 q2
   obtain⟨b,_,e1,e2,_⟩:=r.own m es q1
   rw[e1]at q2
   cases q2
   exact nO e2
  by_cases hj:j=i
  ·by_cases hk:k=i
   ·rw[hj,hk]
   ·subst hj
    have:a=p:=by
     rw[List.getElem?_set_self (by
      have:=(List.getElem?_eq_some_iff.mp h1).1
      simp at this;omega)]at h3
     cases h3;rfl
    subst this
    exact(other k es' hk h2 h4).elim
  ·by_cases hk:k=i
   ·subst hk
    have:a=p:=by
     rw[List.getElem?_set_self (by
      have:=(List.getElem?_eq_some_iff.mp h2).1
      simp at this;omega)]at h4
     cases h4;rfl
    subst this
    exact(other j es hj h1 h3).elim
   ·rw[List.getElem?_set_ne (Ne.symm hj)]at h1 h3
    rw[List.getElem?_set_ne (Ne.symm hk)]at h2 h4
    exact r.inj j k es es' a h1 h2 h3 h4
 ·have hj:j≠i:=fun z=>by
   subst z
   by_cases hk:j<ρ.length
   ·rw[List.getElem?_set_self hk]at q;cases q
   ·rw[List.getElem?_eq_none (by simpa using hk)]at q;cases q
  rw[List.getElem?_set_ne (Ne.symm hj)]at q ⊢
  obtain⟨a,ys,h1,h2,h3,h4,h5⟩:=r.tab j ks q
  exact⟨a,ys,h1,List.mem_cons_of_mem _ h2,h3,by rw[Bm (a:=p) (fun z=>nO (by rw[←z];exact h2))];exact h4,by rw[em];exact h5⟩
 ·have back:∀(m:Nat) ks,(ρ.set i (some (.own ds)))[m]? = some (some (.tab ks))→m≠i∧ρ[m]? = some (some (.tab ks)):=fun m ks q=>by
   have hm:m≠i:=fun z=>by
    subst z
    by_cases hk:m<ρ.length
    ·rw[List.getElem?_set_self hk]at q;cases q
    ·rw[List.getElem?_eq_none (by simpa using hk)]at q;cases q
   rw[List.getElem?_set_ne (Ne.symm hm)]at q;exact⟨hm,q⟩
  obtain⟨n1,q1⟩:=back j _ h1
  obtain⟨n2,q2⟩:=back k _ h2
  rw[List.getElem?_set_ne (Ne.symm n1)]at h3
  rw[List.getElem?_set_ne (Ne.symm n2)]at h4
  exact r.g8 j k es es' a q1 q2 h3 h4
theorem Rep.lX(r:Rep K B F O H σ ρ){i:Nat}{a:Addr}{ds es:List Dt}{xs ys:List V}(hi:ρ[i]? = some (some (.own ds)))(hs:σ[i]? = some (some (.ref a)))(ha:a∈O)(hH:H a=some (.lst xs))(h:RpL K (mask (F++O) H) es ys) :
  Rep K B F O (upd H a (.lst ys)) σ (ρ.set i (some (.own es))):=by
 have em:mask (F++O) (upd H a (.lst ys))=mask (F++O) H:=Lg (List.mem_append_right _ ha)
 have hk:i<ρ.length:=(List.getElem?_eq_some_iff.mp hi).1
 refine⟨by simpa using r.len,fun b o e=>?_,r.fr,fun b hb e=>?_,fun j d q=>?_,fun j ks q=>?_,fun j k es' qR b h1 h2 h3 h4=>?_,fun j ks q=>?_,fun j k es' qR b h1 h2 h3 h4=>?_,fun j v q=>r.raw j v (Mr (fun _ z=>by cases z) q).2⟩
 ·rw[Bm fun z=>by rw[z,r.fr a ha]at e;cases e];exact r.base b o e
 ·by_cases z:b=a
  ·rw[z,BL]at e;cases e
  ·rw[Bm z]at e;exact r.th b hb e
 ·have hj:j≠i:=fun z=>by subst z;rw[List.getElem?_set_self hk]at q;cases q
  rw[List.getElem?_set_ne (Ne.symm hj)]at q
  rw[em];exact r.is j d q
 ·by_cases hj:j=i
  ·subst hj
   rw[List.getElem?_set_self hk]at q;cases q
   obtain⟨b,_,e1,e2,e3,_⟩:=r.own j ds hi
   rw[hs]at e1;cases e1
   exact⟨a,ys,hs,ha,e3,BL,by rw[em];exact h⟩
  ·rw[List.getElem?_set_ne (Ne.symm hj)]at q
   obtain⟨b,zs,e1,e2,e3,e4,e5⟩:=r.own j ks q
   have nb:b≠a:=fun z=>by subst z;exact hj (r.inj j i ks ds b q hi e1 hs)
   exact⟨b,zs,e1,e2,e3,by rw[Bm nb];exact e4,by rw[em];exact e5⟩
 ·have back:∀(m:Nat) ks,(ρ.set i (some (.own es)))[m]? = some (some (.own ks))→∃ks',ρ[m]? = some (some (.own ks')):=fun m ks q=>by
   by_cases hm:m=i
   ·subst hm;exact⟨ds,hi⟩
   ·rw[List.getElem?_set_ne (Ne.symm hm)]at q;exact⟨ks,q⟩
  obtain⟨_,q1⟩:=back j es' h1
  obtain⟨_,q2⟩:=back k qR h2
  exact r.inj j k _ _ b q1 q2 h3 h4
 ·have hj:j≠i:=fun z=>by subst z;rw[List.getElem?_set_self hk]at q;cases q
  rw[List.getElem?_set_ne (Ne.symm hj)]at q
  obtain⟨b,zs,e1,e2,e3,e4,e5⟩:=r.tab j ks q
  have nb:b≠a:=fun z=>by rw[z,hH]at e4;cases e4
  exact⟨b,zs,e1,e2,e3,by rw[Bm nb];exact e4,by rw[em];exact e5⟩
 ·have back:∀(m:Nat) ks,(ρ.set i (some (.own es)))[m]? = some (some (.tab ks))→ρ[m]? = some (some (.tab ks)):=fun m ks q=>by
   have hm:m≠i:=fun z=>by subst z;rw[List.getElem?_set_self hk]at q;cases q
   rw[List.getElem?_set_ne (Ne.symm hm)]at q;exact q
  exact r.g8 j k _ _ b (back j _ h1) (back k _ h2) h3 h4
theorem Rep.freeze(r:Rep K B F O H σ ρ){i:Nat}{ds:List Dt}(hi:ρ[i]? = some (some (.own ds))):∃O',Rep K B F O' H σ (ρ.set i (some (.is (.lst ds)))):=by
 obtain⟨a,xs,h1,h2,h3,h4,h5⟩:=r.own i ds hi
 have hk:i<ρ.length:=(List.getElem?_eq_some_iff.mp hi).1
 have sub:∀b∈F++O.filter (fun b=>decide (b≠a)),b∈F++O:=fun b hb=>by
  rcases List.mem_append.mp hb with hb|hb
  ·exact List.mem_append_left _ hb
  ·exact List.mem_append_right _ (List.mem_filter.mp hb).1
 have na:a∉F++O.filter (fun b=>decide (b≠a)):=fun z=>by
  rcases List.mem_append.mp z with z|z
  ·exact h3 z
  ·exact of_decide_eq_true (List.mem_filter.mp z).2 rfl
 refine⟨O.filter fun b=>decide (b≠a),by simpa using r.len,r.base,fun b hb=>r.fr b (List.mem_filter.mp hb).1,fun b hb=>r.th b (sub b hb),fun j d q=>?_,fun j es q=>?_,fun j k es es' b q1 q2 q3 q4=>?_,fun j ks q=>?_,fun j k es es' b q1 q2 q3 q4=>?_,fun j v q=>r.raw j v (Mr (fun _ z=>by cases z) q).2⟩
 ·by_cases hj:j=i
  ·subst hj
   rw[List.getElem?_set_self hk]at q;cases q
   exact⟨.ref a,h1,Ji ⟨a,xs,rfl,(by rw[Az na];exact h4),h5.mono (Dy sub)⟩⟩
  ·rw[List.getElem?_set_ne (Ne.symm hj)]at q
   obtain⟨v,e1,e2⟩:=r.is j d q
   exact⟨v,e1,e2.mono (Dy sub)⟩
 ·have hj:j≠i:=fun z=>by subst z;rw[List.getElem?_set_self hk]at q;cases q
  rw[List.getElem?_set_ne (Ne.symm hj)]at q
  obtain⟨b,ys,e1,e2,e3,e4,e5⟩:=r.own j es q
  have nb:b≠a:=fun z=>by subst z;exact hj (r.inj j i es ds b q hi e1 h1)
  exact⟨b,ys,e1,List.mem_filter.mpr ⟨e2,decide_eq_true nb⟩,e3,e4,e5.mono (Dy sub)⟩
 ·have nj:∀(m:Nat) ks,(ρ.set i (some (.is (.lst ds))))[m]? = some (some (.own ks))→ρ[m]? = some (some (.own ks)):=fun m ks q=>by
   have hm:m≠i:=fun z=>by subst z;rw[List.getElem?_set_self hk]at q;cases q
   rw[List.getElem?_set_ne (Ne.symm hm)]at q;exact q
  exact r.inj j k es es' b (nj j es q1) (nj k es' q2) q3 q4
 ·have hj:j≠i:=fun z=>by subst z;rw[List.getElem?_set_self hk]at q;cases q
  rw[List.getElem?_set_ne (Ne.symm hj)]at q
  obtain⟨b,ys,e1,e2,e3,e4,e5⟩:=r.tab j ks q
  have nb:b≠a:=fun z=>by rw[z,h4]at e4;cases e4
  exact⟨b,ys,e1,List.mem_filter.mpr ⟨e2,decide_eq_true nb⟩,e3,e4,e5.mono (Dy sub)⟩
 ·have nj:∀(m:Nat) ks,(ρ.set i (some (.is (.lst ds))))[m]? = some (some (.tab ks))→ρ[m]? = some (some (.tab ks)):=fun m ks q=>by
   have hm:m≠i:=fun z=>by subst z;rw[List.getElem?_set_self hk]at q;cases q
   rw[List.getElem?_set_ne (Ne.symm hm)]at q;exact q
  exact r.g8 j k es es' b (nj j es q1) (nj k es' q2) q3 q4
end
section
variable{X:Cx}{a b c e:Expr}{es:List Expr}{st:Stmt}{ta tb te:DTE}{tl:DTA}{t:DTS}{pos:Pos}
def Ajo(i:Nat)(tl:DTA):DTS:=fun D ρ=>tl ρ fun ds=>ds.length≤sizeLine∧D.nx (ρ.set i (some (.own ds)))
theorem MN(i:Nat){x:Str}{pos' lp:Pos}(hN:X.N.Nodup)(ha:DA X es tl)(hi:X.N[i]? = some x:=by rfl)(hx:Loc X.env.scope x:=by first | exact Or.inl rfl | exact Or.inr rfl)(hs:swapsWith (.List es lp) (some (.Name x pos')) pos.line X.env=pure false:=by rfl)
  (hf:X.fn x=true∨X.env.scope.names.lookup x=some .local:=by first|exact .inl rfl|exact .inr rfl|assumption):DS X (.Assign [.Name x pos'] (.List es lp) pos) (Ajo i tl) where
 mono:=fun hd h=>ha.mono (fun ds ⟨h1,h2⟩=>⟨h1,hd.nx _ h2⟩) h
 ps:=(Xa hN hi hx (Acs ha.pa) hs hf).imp fun D σ H ⟨B,F,O,ρ,R,h⟩=>⟨B,F,O,ρ,R,ha.mono (fun ds ⟨h1,h2⟩ vs H1 s1 r1=>⟨by rw[r1.len];exact h1,fun p hp=>h2 (p::O) _ _ ((R.same s1).o7 i hp r1)⟩) h⟩
def ownAt(ρ:Bv)(j:Nat)(k:List Dt→Prop):Prop:=match ρ[j]? with
 |some (some (.own ds))=>k ds
 |_=>False
theorem ownAt.mono{ρ:Bv}{j:Nat}{k k':List Dt→Prop}(hk:∀ds,k ds→k' ds)(h:ownAt ρ j k):ownAt ρ j k':=by
 unfold ownAt at h ⊢
 split at h
 ·exact hk _ h
 ·exact h.elim
theorem ownAt.get{ρ:Bv}{j:Nat}{k:List Dt→Prop}(h:ownAt ρ j k):∃ds,ρ[j]? = some (some (.own ds))∧k ds:=by
 unfold ownAt at h
 split at h
 ·rename_i ds e;exact⟨ds,e,h⟩
 ·exact h.elim
def Ana(j:Nat)(tb:DTE):DTE:=fun ρ Q=>ownAt ρ j fun ds=>tb ρ fun k=>match k with
 | .int i=>match ixL i ds with
  |some v=>Q v
  |none=>False
 |_=>False
def AkL(j:Nat)(te tb:DTE):DTS:=fun D ρ=>te ρ fun d=>ownAt ρ j fun ds=>tb ρ fun k=>match k with
 |.int i=>(0≤i∧i<ds.length)∧D.nx (ρ.set j (some (.own (ds.set i.toNat d))))
 |_=>False
def AgU(j:Nat)(te:DTE):DTS:=fun D ρ=>ownAt ρ j fun ds=>te ρ fun d=>ds.length<sizeLine∧D.nx (ρ.set j (some (.own (ds++[d]))))
theorem Mz(j:Nat){x:Str}{px ap cp:Pos}(he:DE X e te)(hN:X.N[j]? = some x:=by rfl)(hv:Vis X.env.scope x:=by first | exact Or.inl rfl | exact Or.inr (Or.inl rfl) | exact Or.inr (Or.inr rfl))(hd:(x==("__debug__":Str))=false:=by decide)
  (hcd:(x==("__classdict__":Str))=false:=by decide) (hbase:attributeBase (.Name x px) "append" X.env (eval (.Name x px) X.env)=eval (.Name x px) X.env:=by rfl)
  (hfew:((backTo cp (starEach [e] X.env)).all (fun x=>!x.1)&&(backToKw cp (keywordEach [] X.env)).all (fun x=>x.1.isSome)&&decide ([e].length+([]:List Keyword).length+(if([]:List Keyword).isEmpty then 0 else 1)<30))=true:=by rfl)
  (hline:(ap.endLine==cp.line)=true:=by rfl) (hst:starEach [e] X.env=(false,eval e X.env)::starEach [] X.env:=by rfl) (hplain:(backTo cp (starEach [] X.env)).any (·.1)=false:=by rfl)
  (hs:swapsWith (.Call (.Attribute (.Name x px) "append" ap) [e] [] cp) none pos.line X.env=pure false:=by rfl):DS X (.Expr (.Call (.Attribute (.Name x px) "append" ap) [e] [] cp) pos) (AgU j te) where
 mono:=fun hd h=>h.mono fun ds h=>he.mono (fun d h=>⟨h.1,hd.nx _ h.2⟩) h
 ps:=(Kh (Ag5 PySem.F.plainAttrs_list PySem.F.slot_list_append PySem.F.type_list_append Mv (Ir hN hv hd hcd) (HJ he.pe M6 hst) hbase hfew hline hst hplain) hs).imp fun D σ H ⟨B,F,O,ρ,R,h⟩=>by
  obtain⟨ds,e1,h⟩:=h.get
  obtain⟨a,xs,h1,h2,h3,h4,h5⟩:=R.own j ds e1
  refine⟨_,h1,.inl ⟨rfl,_,SqL.of h4⟩,B,F,O,ρ,R,he.mono (fun d h v H1 s1 r1=>?_) h⟩
  exact⟨a,xs,v,rfl,rfl,s1 _ _ h4,by rw[h5.len];exact h.1,h.2 O σ _ ((R.same s1).lX e1 h1 h2 (s1 _ _ h4) ((h5.mono s1.mask).append (.cons r1 .nil)))⟩
def Ak1(j:Nat)(t:DTS):DTS:=fun D ρ=>ownAt ρ j fun ds=>t D (ρ.set j (some (.is (.lst ds))))
theorem Nx(j:Nat)(h:DS X st t):DS X st (Ak1 j t) where
 mono:=fun hd z=>z.mono fun ds z=>h.mono hd z
 ps:=h.ps.imp fun D σ H ⟨B,F,O,ρ,R,z⟩=>by
  obtain⟨ds,e1,z⟩:=z.get
  obtain⟨O',R'⟩:=R.freeze e1
  exact⟨B,F,O',_,R',z⟩
def AjV(j:Nat):DTE:=fun ρ Q=>ownAt ρ j fun ds=>Q (.int ds.length)
def Aju:D2:=fun a b Q=>match a with
 | .tup xs=>match b with
  |.tup ys=>(xs≠[]∧xs.length+ys.length≤sizeLine)∧Q (.tup (xs++ys))
  |_=>False
 |_=>False
end
end L2
namespace L2
open PySem Spec PyProof.Rows
section qG
variable{X:Cx}{a b c e:Expr}{ta tb tc te:TE}{pos:Pos}
theorem AaH{op op' op2:CmpOp}{r r' r2:R2}(ho:OpR X (compareOp op) r)(ho':OpR X (compareOp op') r')(ho2:OpR X (compareOp op2) r2)(ha:PE X a ta)(hb:PE X b tb)(hc:PE X c tc)(he:PE X e te)
  (hm:lastMarks [op,op',op2] [b,c,e]=false:=by with_unfolding_all rfl):PT X (.Compare a [op,op',op2] [b,c,e] pos) (fun σ H Q=>ta σ H fun x H1=>tb σ H1 fun y H2=>r x y H2 fun z H3=>∃k,z=.bl k ∧
   (if k=true then tc σ H3 fun w' H4=>r' y w' H4 fun z H5=>∃k,z=.bl k∧(if k=true then te σ H5 fun y' H6=>r2 w' y' H6 fun z H7=>∃k,z=.bl k∧Q k H7 else Q false H5)else Q false H3)):=by
 intro pins s σ H Q I h
 refine isTrue_chain (thn (ha pins s σ H _ I h) fun v s1 ⟨x,H1,I1,r1,q1⟩=>test_link (thn (hb pins s1 σ H1 _ I1 q1) fun u s2 ⟨y,H2,I2,r2,q2⟩ =>
  thn (ho pins s2 σ H2 x y v u _ I2 r1 r2 q2) fun d s3 ⟨z,H3,I3,r3,k,e,q3⟩=>?_)) hm
 subst e
 cases r3
 refine wpAny_truthy_bool ?_
 cases k with
 |false=>exact ite_ff ⟨H3,I3,q3⟩
 | true =>
  refine ite_tt (test_link (thn (hc pins s3 σ H3 _ I3 q3) fun w' s4 ⟨z',H4,I4,r4,q4⟩=>thn (ho' pins s4 σ H4 y z' u w' _ I4 r2 r4 q4) fun d' s5 ⟨z2,H5,I5,r5,k2,e2,q5⟩=>?_))
  subst e2
  cases r5
  refine wpAny_truthy_bool ?_
  cases k2 with
  |false=>exact ite_ff ⟨H5,I5,q5⟩
  | true =>
   refine ite_tt (test_last (thn (he pins s5 σ H5 _ I5 q5) fun w2 s6 ⟨z3,H6,I6,r6,q6⟩=>thn (ho2 pins s6 σ H6 z' z3 w' w2 _ I6 r4 r6 q6) fun d' s7 ⟨z4,H7,I7,r7,k3,e3,q7⟩=>?_))
   subst e3
   cases r7
   exact wpAny_truthy_bool ⟨H7,I7,q7⟩
end qG
def Zh(t t' t2:D2)(ta tb tc te:DTE):DTT:=fun ρ Q=>ta ρ fun a=>tb ρ fun b=>t a b fun z=>match z with
 | .bl k=>if k=true then tc ρ fun c=>t' b c fun z=>match z with
  | .bl k=>if k=true then te ρ fun e=>t2 c e fun z=>match z with
   |.bl k=>Q k
   |_=>False
   else Q false
  |_=>False
  else Q false
 |_=>False
section
variable{X:Cx}{a b c e:Expr}{ta tb tc te:DTE}{pos:Pos}
theorem Nt{op op' op2:CmpOp}{r r' r2:R2}{t t' t2:D2}(ho:OpR X (compareOp op) r)(ho':OpR X (compareOp op') r')(ho2:OpR X (compareOp op2) r2)(S:Jh X.K r t)(S':Jh X.K r' t')(S2:Jh X.K r2 t2)(ha:DE X a ta)(hb:DE X b tb)(hc:DE X c tc)(he:DE X e te)
  (hm:lastMarks [op,op',op2] [b,c,e]=false:=by with_unfolding_all rfl):DT X (.Compare a [op,op',op2] [b,c,e] pos) (Zh t t' t2 ta tb tc te) where
 mono:=fun hq h=>ha.mono (fun _ h=>hb.mono (fun _ h=>S.mono (fun z h=>by
  split at h
  ·rename_i k
   cases k with
   | true =>
    refine hc.mono (fun _ h=>S'.mono (fun z h=>?_) h) h
    split at h
    ·rename_i k
     cases k with
     | true =>
      refine he.mono (fun _ h=>S2.mono (fun z h=>?_) h) h
      split at h
      ·exact hq _ h
      ·exact h.elim
     |false=>exact hq _ h
    ·exact h.elim
   |false=>exact hq _ h
  ·exact h.elim) h) h) h
 pt:=(AaH ho ho' ho2 ha.pe hb.pe hc.pe he.pe hm).imp fun σ H Q ⟨B,F,O,ρ,R,h⟩=>by
  refine⟨B,F,O,ρ,R,ha.mono (fun a h v H1 s1 r1=>⟨B,F,O,ρ,R.same s1,hb.mono (fun b h u H2 s2 r2=>?_) h⟩) h⟩
  refine S.ok _ H2 a b v u _ ((R.same s1).same s2).th (r1.mono s2.mask) r2 (S.mono (fun z h w H3 s3 r3=>?_) h)
  split at h
  ·rename_i k
   refine⟨k,Dg.mp r3,?_⟩
   have jU:=(s1.trans s2).trans s3
   cases k with
   |false=>exact h H3 jU
   | true =>
    refine⟨B,F,O,ρ,R.same jU,hc.mono (fun c h y H4 s4 r4=>?_) h⟩
    refine S'.ok _ H4 b c u y _ ((R.same jU).same s4).th ((r2.mono s3.mask).mono s4.mask) r4 (S'.mono (fun z h w H5 s5 r5=>?_) h)
    split at h
    ·rename_i k
     refine⟨k,Dg.mp r5,?_⟩
     have s5':=(jU.trans s4).trans s5
     cases k with
     |false=>exact h H5 s5'
     | true =>
      refine⟨B,F,O,ρ,R.same s5',he.mono (fun e h y2 H6 s6 r6=>?_) h⟩
      refine S2.ok _ H6 c e y y2 _ ((R.same s5').same s6).th ((r4.mono s5.mask).mono s6.mask) r6 (S2.mono (fun z h w H7 s7 r7=>?_) h)
      split at h
      ·exact⟨_,Dg.mp r7,h H7 ((s5'.trans s6).trans s7)⟩
      ·exact h.elim
    ·exact h.elim
  ·exact h.elim
end
end L2
namespace L2
open PySem Spec PyProof.Rows W
end L2
namespace L2
open PySem Spec PyProof.Rows
variable{X:Cx}{a b:Expr}{ta tb:DTE}{pos:Pos}
theorem YQ{K:W.Frag}{H:Hp}:∀{ns:List Int} {xs:List V},RpL K H (ns.map Dt.int) xs→xs=ns.map V.int
 | [],_,h=>by
  obtain rfl:=Br.mp h
  rfl
 | n::ns,_,h=>by
  obtain⟨v,r,rfl,r2,r3⟩:=Ax.mp h
  rw[Bh]at r2
  subst r2
  rw[YQ r3]
  rfl
def dIn:D2:=fun a b Q=>∃(i:Int)(ns:List Int),a=.int i∧b=.lst (ns.map Dt.int)∧Q (.bl (decide (i∈ns)))
def Aj1(i:Nat)(te:DTE):DTS:=fun D ρ=>match ρ[i]? with
 | some (some (.is (.int a)))=>te ρ fun d=>match d with
  |.int b=>D.nx (ρ.set i (some (.is (.int (a+b)))))
  |_=>False
 |_=>False
def Ajc(i j k:Nat)(ta:TA):TS:=fun D σ H=>ta σ H fun vs H1=>∃u v w,vs=[u,v,w]∧D.nx (((σ.set i (some u)).set j (some v)).set k (some w)) H1
theorem Afx{i j k:Nat}{x y z:Str}{a b c:Expr}{ta:TA}{px py pz pt:Pos}{kt k2 pt2}(hc:X.calm=true)(hN:X.N.Nodup)(hi:X.N[i]? = some x)(hj:X.N[j]? = some y)(hk:X.N[k]? = some z)(hij:i≠j)(hik:i≠k)(hjk:j≠k)
  (hx:X.env.scope.names.lookup x=some .local) (hy:X.env.scope.names.lookup y=some .local) (hz:X.env.scope.names.lookup z=some .local) (ha:PA X [a,b,c] ta)
  (hw:swappedStores [.Tuple [.Name x px,.Name y py,.Name z pz] kt pt] (.Tuple [a,b,c] k2 pt2) X.env=pure (some [x,y,z]))
  (hs:swapsWithSole [.Tuple [.Name x px,.Name y py,.Name z pz] kt pt] (.Tuple [a,b,c] k2 pt2) pos.line X.env=pure false:=by rfl) :
  PS X (.Assign [.Tuple [.Name x px,.Name y py,.Name z pz] kt pt] (.Tuple [a,b,c] k2 pt2) pos) (Ajc i j k ta):=by
 intro pins s σ H D I h
 rw[exec_Assign_arm]
 refine wpAny_bind (wpAny_standAt ?_)
 rw[hs]
 refine wpAny_bind (wpAny_pure ?_)
 rw[if_neg (by decide)]
 refine wpAny_bind (Tuple_ (thn (ha _ pins s σ H _ I h) fun us s1 ⟨vs,H1,I1,r1,q1⟩=>?_))
 obtain⟨u,v,w,e1,q1⟩:=q1
 subst e1
 obtain⟨u1,u2,u3,rfl,ru,rv,rw'⟩:∃u1 u2 u3,us=[u1,u2,u3]∧RelV u u1∧RelV v u2∧RelV w u3:=by
  cases r1 with
  | cons p q =>
   cases q with
   | cons p' q' =>
    cases q' with
    | cons p'' q'' =>
     cases q''
     exact⟨_,_,_,rfl,p,p',p''⟩
 refine wpAny_newObj_type ?_ (by show 3≤sizeLine;decide)
 have I2:Inv X pins σ H1 {s1 with heap:=s1.heap.push {cls:=.type "tuple",data:=.seq [u1,u2,u3].toArray} }:=I1.kept (t':=s1.toks) fun b o e=>Heap.get?_push_of_some _ e
 rw[hw]
 refine wpAny_bind (wpAny_pure ?_)
 show wpAny (model X.prog X.w) X.A (do rule "assign.swapped-stores";let items ←unpackItems (.ref s1.heap.objs.size) 3 none;assignInOrder [fun v=>bindName X.env z v,fun v=>bindName X.env y v,fun v=>bindName X.env x v] items.reverse;pure Flow.next) _ _ _
 refine wpAny_bind (wpAny_rule (wpAny_bind (unpackItems_tuple (items:=#[u1,u2,u3]) (I.ok.hd hc) (IsTup.new s1.heap _) fun h' hx'=>?_)))
 have I3:=I2.kept (h':=h') (t':=s1.toks) fun b o e=>hx' b o (Nat.ne_of_lt (Heap.lt_size e)) e
 show wpAny _ _ (assignInOrder [fun v=>bindName X.env z v,fun v=>bindName X.env y v,fun v=>bindName X.env x v] [u3,u2,u1] >>= fun _=>pure Flow.next) _ _ _
 refine wpAny_bind (assignInOrder_cons (wpAny_bindName (Hy I3 hN hk (.inl hz) rw' (fun s2 I4=>?_) (.inr hz))))
 refine assignInOrder_cons (wpAny_bindName (Hy I4 hN hj (.inl hy) rv (fun s3 I5=>?_) (.inr hy)))
 refine assignInOrder_cons (wpAny_bindName (Hy I5 hN hi (.inl hx) ru (fun s4 I6=>assignInOrder_nil (wpAny_pure ?_)) (.inr hx)))
 rw[List.set_comm (some w) (some v) (Ne.symm hjk),List.set_comm (some w) (some u) (Ne.symm hik),List.set_comm (some v) (some u) (Ne.symm hij)]at I6
 exact⟨_,H1,I6,q1⟩
def AgP(i j k:Nat)(tl:DTA):DTS:=fun D ρ=>tl ρ fun ds=>match ds with
 | [d,e,f]=>D.nx (((ρ.set i (some (.is d))).set j (some (.is e))).set k (some (.is f)))
 |_=>False
theorem Afl{a b c:Expr}{tl:DTA}{x y z:Str}{px py pz pt:Pos}{kt k2 pt2}(hc:X.calm=true)(hN:X.N.Nodup)(i j k:Nat)(ha:DA X [a,b,c] tl)(hi:X.N[i]? = some x:=by rfl)(hj:X.N[j]? = some y:=by rfl)(hk:X.N[k]? = some z:=by rfl)(hij:i≠j:=by decide)(hik:i≠k:=by decide)(hjk:j≠k:=by decide)
  (hx:X.env.scope.names.lookup x=some .local:=by rfl) (hy:X.env.scope.names.lookup y=some .local:=by rfl) (hz:X.env.scope.names.lookup z=some .local:=by rfl)
  (hw:swappedStores [.Tuple [.Name x px,.Name y py,.Name z pz] kt pt] (.Tuple [a,b,c] k2 pt2) X.env=pure (some [x,y,z]):=by rfl)
  (hs:swapsWithSole [.Tuple [.Name x px,.Name y py,.Name z pz] kt pt] (.Tuple [a,b,c] k2 pt2) pos.line X.env=pure false:=by rfl) :
  DS X (.Assign [.Tuple [.Name x px,.Name y py,.Name z pz] kt pt] (.Tuple [a,b,c] k2 pt2) pos) (AgP i j k tl) where
 mono:=fun hd h=>ha.mono (fun ds h=>by
  split at h
  ·exact hd.nx _ h
  ·exact h.elim) h
 ps:=(Afx hc hN hi hj hk hij hik hjk hx hy hz ha.pa hw hs).imp fun D σ H ⟨B,F,O,ρ,R,h⟩=>⟨B,F,O,ρ,R,ha.mono (fun ds q vs H1 s1 r1=>by
  split at q
  ·obtain⟨v,r,rfl,r2,r3⟩:=Ax.mp r1
   obtain⟨v',r',rfl,r4,r5⟩:=Ax.mp r3
   obtain⟨v2,r6,rfl,r7,r8⟩:=Ax.mp r5
   obtain rfl:=Br.mp r8
   exact⟨v,v',v2,rfl,q O _ H1 ((((R.same s1).set i r2).set j r4).set k r7)⟩
  ·exact q.elim) h⟩
theorem Iw{ti:DTI}{g:DTG}{tb:DTS}{D:Ft}{ρ:Bv}(h:ti ρ fun items=>Afs (fun _ R=>R items) g tb D ρ):Afs ti g tb D ρ:=h
end L2
namespace L2
open PySem Spec PyProof.Rows SeqAt
mutual
def Dt.noL:Nat→Dt→Bool
 |_,.non=>true
 |_,.bl _=>true
 |_,.int _=>true
 |_,.str _=>true
 |0,_=>false
 |n+1,.tup ds=>Dt.dG n ds
 |_,_=>false
def Dt.dG:Nat→List Dt→Bool
 |_,[]=>true
 |n,d::ds=>Dt.noL n d&&Dt.dG n ds
end
theorem Te{n:Nat}{d:Dt}{r:List Dt}:Dt.dG n (d::r)=(Dt.noL n d&&Dt.dG n r):=by rw[Dt.dG]
theorem W8{n:Nat}:Dt.dG n []=true:=by rw[Dt.dG]
theorem Agz{n:Nat}{i:Int}:Dt.noL n (.int i)=true:=by cases n<;>rw[Dt.noL]<;>simp
theorem Adm{n:Nat}{r:List Dt}:Dt.noL (n+1) (.tup r)=Dt.dG n r:=by rw[Dt.noL]
def Keep(M M':Hp):Prop:=∀b o,M b=some o→(∀xs,o≠.lst xs)→M' b=some o
mutual
theorem AiH{K:W.Frag}{M M':Hp}(k:Keep M M'):∀(n:Nat)(d:Dt)(v:V),d.noL n=true→Rp K M d v→Rp K M' d v
 |_,.non,_,_,r=>by rw[JV]at r ⊢;exact r
 |_,.bl _,_,_,r=>by rw[Dg]at r ⊢;exact r
 |_,.int _,_,_,r=>by rw[Bh]at r ⊢;exact r
 |_,.str _,_,_,r=>by rw[M5]at r ⊢;exact r
 |0,.tup _,_,h,_=>by simp[Dt.noL]at h
 | n+1,.tup ds,_,h,r=>by
  rw[Adm]at h
  obtain⟨a,xs,e,q,r⟩:=Dw.mp r
  refine Dw.mpr ⟨a,xs,e,?_,O5 k n ds xs h r⟩
  rcases q with(q|⟨o,q⟩)|q
  ·exact .inl (.inl (k _ _ q fun _=>by simp))
  ·exact .inl (.inr ⟨o,k _ _ q fun _=>by simp⟩)
  ·exact .inr q
 |0,.lst _,_,h,_=>by simp[Dt.noL]at h
 |_+1,.lst _,_,h,_=>by simp[Dt.noL]at h
 |0,.fn _,_,h,_=>by simp[Dt.noL]at h
 |_+1,.fn _,_,h,_=>by simp[Dt.noL]at h
 |0,.exc _ _ _,_,h,_=>by simp[Dt.noL]at h
 |_+1,.exc _ _ _,_,h,_=>by simp[Dt.noL]at h
 |0,.obj _ _ _,_,h,_=>by simp[Dt.noL]at h
 |_+1,.obj _ _ _,_,h,_=>by simp[Dt.noL]at h
theorem O5{K:W.Frag}{M M':Hp}(k:Keep M M'):∀(n:Nat)(ds:List Dt)(vs:List V),Dt.dG n ds=true→RpL K M ds vs→RpL K M' ds vs
 |_,[],_,_,r=>by rw[Br]at r ⊢;exact r
 | n,d::ds,_,h,r=>by
  rw[Te,Bool.and_eq_true]at h
  obtain⟨v,w,rfl,r1,r2⟩:=Ax.mp r
  exact Ax.mpr ⟨v,w,rfl,AiH k n d v h.1 r1,O5 k n ds w h.2 r2⟩
end
theorem RpL.qx{K:W.Frag}{H:Hp}:∀{ds:List Dt} {vs:List V} {d:Dt},RpL K H ds vs→d∈ds→∃v∈vs,Rp K H d v
 | [],_,_,_,h=>by simp at h
 | d::ds,_,e,r,h=>by
  obtain⟨v,w,rfl,r1,r2⟩:=Ax.mp r
  rcases List.mem_cons.mp h with h|h
  ·subst h;exact⟨v,List.mem_cons_self,r1⟩
  ·obtain⟨u,h1,h2⟩:=RpL.qx r2 h
   exact⟨u,List.mem_cons_of_mem _ h1,h2⟩
def AbQ:Option HO→Bool
 |some (.lst _)=>true
 |_=>false
theorem X8{o:Option HO}(h:AbQ o=true):∃xs,o=some (.lst xs):=by
 unfold AbQ at h
 split at h
 ·exact⟨_,rfl⟩
 ·cases h
def lists(H:Hp)(n:Nat):List Addr:=(List.range n).filter fun a=>AbQ (H a)
theorem AaJ{H:Hp}{n a:Nat}{xs:List V}(h:H a=some (.lst xs))(l:a<n):a∈lists H n:=List.mem_filter.mpr ⟨List.mem_range.mpr l,by rw[h];rfl⟩
theorem Abz{H:Hp}{n a:Nat}(h:a∈lists H n):∃xs,H a=some (.lst xs):=X8 (List.mem_filter.mp h).2
section
variable{X:Cx}{a b c e:Expr}{es:List Expr}{st:Stmt}{ta tb te:DTE}{tl:DTA}{tA:DTT}{t:DTS}{pos:Pos}
def Ah3(i:Nat)(sp:DSp)(tl:DTA):DTS:=fun D ρ=>tl ρ fun ds=>Dt.dG 4 ds=true∧sp ds fun d=>∃ks,d=.lst ks∧(∃r,Dt.tup r∈ks)∧Dt.dG 4 ks=true∧D.nx (ρ.set i (some (.own ks)))
def Ad0(j:Nat)(t:DTT):DTT:=fun ρ Q=>ownAt ρ j fun ds=>t (ρ.set j (some (.is (.lst ds)))) Q
theorem YX(j:Nat)(h:DT X e tA):DT X e (Ad0 j tA) where
 mono:=fun hq z=>z.mono fun ds z=>h.mono hq z
 pt:=h.pt.imp fun σ H Q ⟨B,F,O,ρ,R,z⟩=>by
  obtain⟨ds,e1,z⟩:=z.get
  obtain⟨O',R'⟩:=R.freeze e1
  exact⟨B,F,O',_,R',h.mono (fun b q H' s'=>q H' s') z⟩
def AiE(j:Nat):DTE:=fun ρ Q=>ownAt ρ j fun ds=>Q (.lst ds)
end
end L2
namespace L2
open PySem Spec PyProof.Rows W Builtin Builtin.ObjectAttr
section
variable{prog:Program}{w:World}{A:Around}{E:Value→Shared→Prop}{s:Shared}{K:W.Frag}{C U x dx:Addr}{name:Str}{v:Value}
end
section
variable{X:Cx}{pins:List (Addr×Obj)}{σ:St}{H:Hp}{s:Shared}{h':Heap}{a dx C U f fI:Addr}
end
end L2
namespace L2
open PySem Spec PyProof.Rows SeqAt
abbrev AhW:=Bv→(List Dt→Prop)→(Dt→Prop)→Prop
section
variable{X:Cx}{e:Expr}{es:List Expr}{te:MJ}{tl:DTA}{tx:AhW}{pos:Pos}
def AiC(te:MJ)(tl:DTA):AhW:=fun ρ Q E=>te ρ (fun d=>tl ρ fun ds=>Q (d::ds)) E
def AiB(sp:DSp)(tx:AhW):MJ:=fun ρ Q E=>tx ρ (fun ds=>sp ds Q) E
end
end L2
namespace L2
open PySem Spec PyProof.Rows
section
variable{prog:Program}{w:World}{A:Around}{I S:Addr}{fp wr:List Addr}{n:Nat}{P:Nat→Value→Prop}{St:Nat→Heap→Prop}{bt:Nat→Nat→Bool}{R:Result→Shared→Prop}
def Mh(wr:List Addr)(S:Addr)(h h':Heap):Prop:=∀b o,b∉wr→b≠S→h.get? b=some o→h'.get? b=some o
def Ye(prog:Program)(w:World)(A:Around)(wr:List Addr)(S:Addr)(h:Heap)(P:Nat→Value→Prop)(bt:Nat→Nat→Bool):Prop :=
 ∀(i j:Nat)(x y:Value)(s:Shared)(Q:Value→Shared→Prop)(E:Value→Shared→Prop),Mh wr S h s.heap→P i x→P j y→Q (.bool (bt i j)) s→wpAny (model prog w) A (richCompare .Lt x y) Q E s
theorem Xr:(toString "min"++toString ".loop":String)="min.loop":=by decide
theorem Yc{h0:Heap}(W:Walks prog w A.in1 I fp wr n P St)(less:Ye prog w A.in1 wr S h0 P bt)(off:S∉fp) :
  ∀(left at':Nat)(s:Shared)(best:Value)(c:Nat),n=at'+1+left→St (at'+1) s.heap→P (argBest bt at') best→Mh wr S h0 s.heap →
   s.heap.get? S=some ⟨.type "list",none,.seq #[best,best] c,#[]⟩ →
   (∀v h' tk,P (argBest bt (n-1)) v→Mh wr S s.heap h'→R (.ok (.ret v)) {s with heap:=h',toks:=tk}) →
   codeAny (model prog w) A (.builtin "min.loop" ⟨[.ref I,.none,.ref S],[]⟩) R s:=by
 have off':S∉wr:=fun z=>off (W.sub _ z)
 have nm:=Xr
 intro left
 induction left with
 | zero =>
  intro at' s best c hn st hb hk hS fin
  have e:at'+1=n:=by omega
  refine codeAny_builtin F.entry_min_loop ?_;rw[Around.under_plainId F.plain_min_loop _];show wpAny _ A.in1 (seqItems? (.ref S) >>= _) _ _ s
  refine wpAny_bind (wpAny_seqItems hS rfl ?_);show wpAny _ A.in1 (tryCatch (pyNext (.ref I)) _ >>= _) _ _ s
  refine wpAny_bind (wpAny_tryCatch (W.done s _ _ (e ▸ st) fun h1 tk k1=>?_))
  show wpAny _ A.in1 (updateSeq S (fun _=>#[]) >>= _) _ _ _;refine wpAny_bind (wpAny_updateSeq (k1 S _ off' hS) rfl (wpAny_bind (wpAny_letGo (wpAny_pure ?_))))
  exact fin best _ tk (by rw[←e];exact hb) fun b o nb ns eo=>(Heap.get?_update_other _ _ (Ne.symm ns)).trans (k1 b o nb eo)
 | succ left ih =>
  intro at' s best c hn st hb hk hS fin
  refine codeAny_builtin F.entry_min_loop ?_;rw[Around.under_plainId F.plain_min_loop _];show wpAny _ A.in1 (seqItems? (.ref S) >>= _) _ _ s
  refine wpAny_bind (wpAny_seqItems hS rfl ?_);show wpAny _ A.in1 (tryCatch (pyNext (.ref I)) _ >>= _) _ _ s
  refine wpAny_bind (wpAny_tryCatch (W.item (at'+1) s _ _ (by omega) st fun v h1 tk hv st1 k1=>?_))
  have hS1:=k1 S _ off' hS
  have hk1:Mh wr S h0 h1:=fun b o nb ns eo=>k1 b o nb (hk b o nb ns eo)
  show wpAny _ A.in1 (tryCatch (holding [v,v] (richCompare .Lt v best >>= _)) _ >>= _) _ _ _
  refine wpAny_bind (wpAny_tryCatch (wpAny_holding (wpAny_bind (less (at'+1) (argBest bt at') v best _ _ _ hk1 hv hb ?_))))
  refine wpAny_bind (wpAny_holding (wpAny_truthy_bool ?_));refine wpAny_bind (wpAny_letGo (wpAny_pure ?_))
  cases hbt:bt (at'+1) (argBest bt at')with
  | true =>
   simp only[if_true]
   refine wpAny_bind (wpAny_updateSeq hS1 rfl (wpAny_bind (wpAny_letGo ?_)))
   rw[nm]
   refine wpAny_pure ⟨plainId_quiet F.plain_min_loop _,ih (at'+1) _ v _ (by omega) (W.frame _ _ _ st1 fun b hbf o eo=>(Heap.get?_update_other _ _ (fun z:S=b=>off (z ▸ hbf))).trans eo) (by simp only[argBest,hbt,if_true];exact hv) (fun b o nb ns eo=>(Heap.get?_update_other _ _ (Ne.symm ns)).trans (hk1 b o nb ns eo)) (Heap.get?_update_self _ hS1 rfl) fun v' h2 tk2 hv' k2=>?_⟩
   exact fin v' h2 tk2 hv' fun b o nb ns eo=>k2 b o nb ns ((Heap.get?_update_other _ _ (Ne.symm ns)).trans (k1 b o nb eo))
  | false =>
   simp only[Bool.false_eq_true,if_false]
   refine wpAny_bind (wpAny_letGo ?_)
   rw[nm]
   refine wpAny_pure ⟨plainId_quiet F.plain_min_loop _,ih (at'+1) _ best c (by omega) st1 (by simp only[argBest,hbt,Bool.false_eq_true,if_false];exact hb) hk1 hS1 fun v' h2 tk2 hv' k2=>?_⟩
   exact fin v' h2 tk2 hv' fun b o nb ns eo=>k2 b o nb ns (k1 b o nb eo)
theorem Wg{s:Shared}{c:Nat}(W:Walks prog w A.in1 I fp wr n P St)(less:Ye prog w A.in1 wr S s.heap P bt)(off:S∉fp)(n0:0<n)(st:St 0 s.heap)(hS:s.heap.get? S=some ⟨.type "list",none,.seq #[] c,#[]⟩)
  (fin:∀v h' tk,P (argBest bt (n-1)) v→Mh wr S s.heap h'→R (.ok (.ret v)) {s with heap:=h',toks:=tk}):codeAny (model prog w) A (.builtin "min.loop" ⟨[.ref I,.none,.ref S],[]⟩) R s:=by
 have off':S∉wr:=fun z=>off (W.sub _ z)
 refine codeAny_builtin F.entry_min_loop ?_;rw[Around.under_plainId F.plain_min_loop _];show wpAny _ A.in1 (seqItems? (.ref S) >>= _) _ _ s
 refine wpAny_bind (wpAny_seqItems hS rfl ?_);show wpAny _ A.in1 (tryCatch (pyNext (.ref I)) _ >>= _) _ _ s
 refine wpAny_bind (wpAny_tryCatch (W.item 0 s _ _ n0 st fun v h1 tk hv st1 k1=>?_))
 have hS1:=k1 S _ off' hS
 show wpAny _ A.in1 (updateSeq S (fun _=>#[v,v]) >>= _) _ _ _;refine wpAny_bind (wpAny_updateSeq hS1 rfl ?_);rw[Xr]
 refine wpAny_pure ⟨plainId_quiet F.plain_min_loop _,Yc (h0:=s.heap) W less off (n-1) 0 _ v _ (by omega) (W.frame _ _ _ st1 fun b hbf o eo=>(Heap.get?_update_other _ _ (fun z:S=b=>off (z ▸ hbf))).trans eo) hv (fun b o nb ns eo=>(Heap.get?_update_other _ _ (Ne.symm ns)).trans (k1 b o nb eo)) (Heap.get?_update_self _ hS1 rfl) fun v' h2 tk2 hv' k2=>?_⟩
 exact fin v' h2 tk2 hv' fun b o nb ns eo=>k2 b o nb ns ((Heap.get?_update_other _ _ (Ne.symm ns)).trans (k1 b o nb eo))
theorem Wf{E:Value→Shared→Prop}{s:Shared}{x:Value}{Q:Value→Shared→Prop}
  (h:wpAny (model prog w) A.in1 (pyIter x) (fun it s2=>∃I fp wr n P St bt,it=.ref I∧Walks prog w A.in1 I fp wr n P St∧St 0 s2.heap∧(∀b∈fp,b<s2.heap.objs.size)∧0<n ∧
   (∀h1:Heap,(∀b o,s2.heap.get? b=some o→h1.get? b=some o)→Ye prog w A.in1 wr s2.heap.objs.size h1 P bt) ∧
   ∀v h' tk,P (argBest bt (n-1)) v→(∀b o,b∉wr→s2.heap.get? b=some o→h'.get? b=some o)→Q v {s2 with heap:=h',toks:=tk}) E s) :
  wpAny (model prog w) A (call (.builtin "min") [x]) Q E s:=by
 refine call_function_tree F.kind_min F.plain_min F.entry_min (F.args_min1 _) ?_;show wpAny _ A.in1 (Builtin.Builtins.bindParams "min" ["key","default"] 0 ⟨[],[]⟩ >>= _) _ _ s
 refine wpAny_bind (wpAny_of_eq (show Builtin.Builtins.bindParams "min" ["key","default"] 0 ⟨[],[]⟩=pure [none,none]from rfl) ?_);refine wpAny_bind (wpAny_pure ?_)
 refine wpAny_bind (wpAny_mono h (fun it s2 h2=>?_) fun _ _ z=>z);obtain⟨I,fp,wr,n,P,St,bt,rfl,W,st,low,n0,less,fin⟩:=h2
 refine wpAny_bind (wpAny_newObj_type ?_);rw[Xr]
 have off:s2.heap.objs.size∉fp:=fun z=>Nat.lt_irrefl _ (low _ z)
 refine wpAny_pure ⟨plainId_quiet F.plain_min_loop _,Wg W (less _ fun b o e=>Heap.get?_push_of_some _ e) off n0 (W.frame _ _ _ st fun b _ o e=>Heap.get?_push_of_some _ e) (Heap.get?_push_size _ rfl) fun v h' tk hv k=>?_⟩
 exact fin v h' tk hv fun b o nb e=>k b o nb (Nat.ne_of_lt (Heap.lt_size e)) (Heap.get?_push_of_some _ e)
end
variable{X:Cx}
theorem Vals.at{xs:List V}{us:List Value}(r:Vals xs us):∀(i:Nat)(u:Value),us[i]? = some u→∃x,xs[i]? = some x∧RelV x u:=by
 induction r with
 |nil=>intro i u h;cases h
 | cons h t ih =>
  intro i u e
  cases i with
  |zero=>exact⟨_,rfl,by cases e;exact h⟩
  |succ i=>exact ih i u e
theorem RpL.at'{K:W.Frag}{H:Hp}:∀{ds:List Dt} {vs:List V} (i:Nat) (v:V),RpL K H ds vs→vs[i]? = some v→∃d,ds[i]? = some d∧Rp K H d v
 | [],vs,i,v,h,e=>by
  obtain rfl:=Br.mp h
  cases e
 | d::ds,vs,i,v,h,e=>by
  obtain⟨v',r,rfl,r2,r3⟩:=Ax.mp h
  cases i with
  |zero=>exact⟨d,rfl,by cases e;exact r2⟩
  |succ i=>exact RpL.at' i v r3 e
theorem RpL.len'{K:W.Frag}{H:Hp}:∀{ds:List Dt} {vs:List V},RpL K H ds vs→vs.length=ds.length
 | [],vs,h=>by
  obtain rfl:=Br.mp h
  rfl
 | d::ds,vs,h=>by
  obtain⟨v',r,rfl,r2,r3⟩:=Ax.mp h
  rw[List.length_cons,List.length_cons,RpL.len' r3]
abbrev Cj(ns:List Int):Dt:=.tup (ns.map Dt.int)
end L2
namespace L2
open PySem Spec PyProof.Rows
variable{X:Cx}
theorem ZF:∀(ns ms:List Int),Dt.eqs (ns.map Dt.int) (ms.map Dt.int)=decide (ns=ms)
 | [],[]=>by simp[Dt.eqs]
 | [],m::ms=>by simp[Dt.eqs]
 |n::ns,[]=>by simp[Dt.eqs]
 | n::ns,m::ms=>by
  rw[List.map_cons,List.map_cons,Dt.eqs,ZF ns ms,RT,←Bool.decide_and]
  exact decide_eq_decide.mpr (by simp)
theorem Wl:∀(ns:List Int),Dt.flats 7 (ns.map Dt.int)=true
 | []=>rfl
 |n::ns=>by rw[List.map_cons,Dt.flats,Wl ns];rfl
theorem AeB{K:W.Frag}{H:Hp}{nss:List (List Int)}{vs:List V}(h:RpL K H (nss.map Cj) vs):vs.length=nss.length∧∀(i:Nat)(v:V),vs[i]? = some v→∃a,v=.ref a∧SqT K H a ((nss.getD i []).map V.int):=by
 refine⟨by rw[RpL.len' h,List.length_map],fun i v e=>?_⟩
 obtain⟨d,e1,r⟩:=RpL.at' i v h e
 rw[List.getElem?_map]at e1
 cases q:nss[i]? with
 |none=>rw[q]at e1;cases e1
 | some ns =>
  rw[q]at e1
  cases e1
  have:nss.getD i []=ns:=by simp[List.getD,q]
  rw[this]
  obtain⟨a,ys,rfl,ht,hy⟩:=Dw.mp r
  obtain rfl:=YQ hy
  exact⟨a,rfl,ht⟩
end L2
namespace L2
open PySem Spec PyProof.Rows SeqAt
section
variable{X:Cx}{a b c e o:Expr}{es:List Expr}{ta tb te:DTE}{tl:DTA}{pos apos:Pos}
def AgD(K:W.Frag)(te:DTE)(f:Str):DTE:=fun ρ Q=>te ρ fun d=>match d with
 |.obj c ns ds=>Oq K c f∧∃v,(ns.zip ds).lookup f=some v∧Q v
 |_=>False
theorem O3{f:Str}(h:DE X e te)(hb:attributeBase e f X.env (eval e X.env)=eval e X.env:=by rfl):DE X (.Attribute e f pos) (AgD X.K te f) where
 mono:=fun hq z=>h.mono (fun d z=>by
  split at z
  ·exact let ⟨a,v,b,c⟩:=z;⟨a,v,b,hq _ c⟩
  ·exact z.elim) z
 pe:=(Aiw h.pe hb).imp fun σ H Q ⟨B,F,O,ρ,R,z⟩=>⟨B,F,O,ρ,R,h.mono (fun d z v H1 s1 r1=>by
  split at z
  ·obtain⟨na,y,ly,q⟩:=z
   obtain⟨a,C,dx,vs,rfl,h1,cl,h2,_,h5⟩:=Pn.mp r1
   obtain⟨v,lv,rv⟩:=zip_get h5 ly
   exact⟨a,C,dx,_,v,rfl,Bw _ _ h2,cl,na C h1,lv,q v H1 s1 rv⟩
  ·exact z.elim) z⟩
structure IsC(K:W.Frag)(c:Str):Prop where
 ha:∀C,W.nsIn K mainGlobals c=some (some (.ref C))→W.findIn K (.ref C) "__class__"=some (some (.builtin "object.__class__"))
 hn:W.specialIn K (.builtin "object.__class__") "__get__"=some (some (.builtin "getset_descriptor.__get__"))
 ht:W.takesIn K (.builtin "object.__class__")=some true
 hm:∀C,W.nsIn K mainGlobals c=some (some (.ref C))→W.mroIn K C (.type "object")=some true
def AnU(K:W.Frag):DL:=fun ds Q=>match ds with
 | [.obj c _ _,.fn A]=>∃v,IsC K c∧Ali K c A v∧Q (.bl v)
 |_=>False
def Aad(K:W.Frag)(c m:Str)(g:Addr):Prop:=∀C,W.nsIn K mainGlobals c=some (some (.ref C))→Meth K C m g
def Xh(K:W.Frag)(m:Str)(g:Addr)(sp:Sp)(ta:TE)(t:TA):TE:=fun σ H Q=>ta σ H fun x H1=>∃a C dx fs,x=.ref a∧H1 a=some (.ins C dx fs)∧Cls K C∧Meth K C m g∧fs.lookup m=none∧t σ H1 fun vs H2=>sp (x::vs) H2 Q E0
theorem AiV{pl:Sem Bool}{k:Nat}{m:Str}{g:Addr}{fd:FuncData}{ps:List Str}{sp:Sp}{ta:TE}(he:PE X o ta)(F:Ho X.prog X.w X.K X.mg X.base CX0 k g fd ps sp)(hr:Em k X.A)(hb:Binds X.K fd ps [])
  (ht:eval (.Call (.Attribute o m apos) [] [] pos) X.env=(do
   let ov ←eval o X.env
   standAt apos.atName
   let (f,first) ←holding [ov] (getMethod ov m pl)
   callWith pos f first (backTo pos (starEach [] X.env)) (backToKw pos (keywordEach [] X.env))):=by rfl) :
  PE X (.Call (.Attribute o m apos) [] [] pos) (Xh X.K m g sp ta Ajs):=by
 intro pins s σ H Q I h
 refine W.methodCall_KW (pl:=pl) (thn (he pins s σ H _ I h) fun u s1 ⟨x,H1,I1,rx,a,C,dx,fs,ex,ea,c,hm,l,q⟩=>?_) ht
 subst ex
 obtain rfl:u=Value.ref a:=rx
 refine P0 I1 ea c hm l ?_
 exact W.callWith_K0 (first:=[.ref a]) I1.kIn hm.kp (Uu (us:=[.ref a]) (vs:=[.ref a]) F hr hb .nil Sw I1 (.cons rfl .nil) q)
theorem Ab3{pl:Sem Bool}{k:Nat}{m:Str}{g:Addr}{fd:FuncData}{ps:List Str}{sp:Sp}{ta:TE}{t:TA}(he:PE X o ta)(F:Ho X.prog X.w X.K X.mg X.base CX0 k g fd ps sp)(hr:Em k X.A)(hb:Binds X.K fd ps [])(ha:PA X (e::es) t)
  (kp:W.keepIn X.K (.ref g)=true) (hst:starEach (e::es) X.env=(false,eval e X.env)::starEach es X.env:=by rfl) (hpl:(backTo pos (starEach es X.env)).any (·.1)=false:=by rfl)
  (ht:eval (.Call (.Attribute o m apos) (e::es) [] pos) X.env=(do
   let ov ←eval o X.env
   standAt apos.atName
   let (f,first) ←holding [ov] (getMethod ov m pl)
   callWith pos f first (backTo pos (starEach (e::es) X.env)) (backToKw pos (keywordEach [] X.env))):=by rfl) :
  PE X (.Call (.Attribute o m apos) (e::es) [] pos) (Xh X.K m g sp ta t):=by
 intro pins s σ H Q I h
 refine W.methodCall_KW (pl:=pl) (thn (he pins s σ H _ I h) fun u s1 ⟨x,H1,I1,rx,a,C,dx,fs,ex,ea,c,hm,l,q⟩=>?_) ht
 subst ex
 obtain rfl:u=Value.ref a:=rx
 refine P0 I1 ea c hm l ?_
 refine W.callWith_K (first:=[.ref a]) (h₀:=X.base) I.ok.mod.kin hm.kp (thn (ha pos pins s1 σ H1 _ I1 q) fun us s2 ⟨vs,H2,I2,r,q2⟩=>⟨I2.kIn,?_⟩) hst hpl
 exact Uu (us:=.ref a::us) (vs:=.ref a::vs) F hr hb .nil Sw I2 (.cons rfl r) (by simpa using q2)
def QW(K:W.Frag)(m:Str)(g:Addr)(sp:DSp)(te:DTE)(tl:DTA):DTE:=fun ρ Q=>te ρ fun d=>match d with
 |.obj c ns ds=>Aad K c m g∧m∉ns∧tl ρ fun es=>sp (.obj c ns ds::es) Q
 |_=>False
theorem Vm{f:Str}:∀{ns:List Str} {vs:List V},f∉ns→(ns.zip vs).lookup f=none
 | [],_,_=>by simp
 |_::_,[],_=>by simp
 | n::ns,v::vs,h=>by
  have hb:(f==n)=false:=beq_eq_false_iff_ne.mpr fun e=>h (by rw[e];exact List.mem_cons_self)
  rw[List.zip_cons_cons]
  simp only[List.lookup,hb]
  exact Vm fun z=>h (List.mem_cons_of_mem _ z)
theorem AcV{m:Str}{g:Addr}{sp:DSp}(M:Hr sp)(h:DE X o te)(ha:DA X es tl)(σ:St)(H:Hp)(Q:VK)(z:lE X.K (QW X.K m g sp te tl) σ H Q):Xh X.K m g (lSp X.K sp) (lE X.K te) (lA X.K tl) σ H Q:=by
 obtain⟨B,F,O,ρ,R,z⟩:=z
 refine⟨B,F,O,ρ,R,h.mono (fun d z v H1 s1 r1=>?_) z⟩
 split at z
 ·obtain⟨mo,nm,z⟩:=z
  obtain⟨a,C,dx,vs,e0,h1,cl,h2,_,h5⟩:=Pn.mp r1
  subst e0
  refine⟨a,C,dx,_,rfl,Bw _ _ h2,cl,mo C h1,Vm nm,B,F,O,ρ,R.same s1,ha.mono (fun es z ws H2 s2 r2=>?_) z⟩
  exact⟨F++O,_,((R.same s1).same s2).th,RpL.cons (r1.mono s2.mask) r2,M _ _ _ (fun d q w H3 s3 r3=>q w H3 ((s1.trans s2).trans s3) r3) z⟩
 ·exact z.elim
theorem Aap{m:Str}{g:Addr}{sp:DSp}(M:Hr sp)(h:DE X o te)(ha:DA X es tl){ρ:Bv}{Q Q':Dt→Prop}(hq:∀d,Q d→Q' d)(z:QW X.K m g sp te tl ρ Q):QW X.K m g sp te tl ρ Q':=h.mono (fun d z=>by
 split at z
 ·exact⟨z.1,z.2.1,ha.mono (fun es z=>M _ _ _ hq z) z.2.2⟩
 ·exact z.elim) z
theorem Aet{pl:Sem Bool}{k:Nat}{m:Str}{g:Addr}{fd:FuncData}{ps:List Str}{sp:DSp}(M:Hr sp)(F:Ho X.prog X.w X.K X.mg X.base CX0 k g fd ps (lSp X.K sp))(hb:Binds X.K fd ps [])(kp:W.keepIn X.K (.ref g)=true)(hr:Em k X.A)(h:DE X o te)(ha:DA X (e::es) tl)
  (hst:starEach (e::es) X.env=(false,eval e X.env)::starEach es X.env:=by rfl) (hpl:(backTo pos (starEach es X.env)).any (·.1)=false:=by rfl)
  (ht:eval (.Call (.Attribute o m apos) (e::es) [] pos) X.env=(do
   let ov ←eval o X.env
   standAt apos.atName
   let (f,first) ←holding [ov] (getMethod ov m pl)
   callWith pos f first (backTo pos (starEach (e::es) X.env)) (backToKw pos (keywordEach [] X.env))):=by rfl):DE X (.Call (.Attribute o m apos) (e::es) [] pos) (QW X.K m g sp te tl) where
 mono:=Aap (X:=X) M h ha
 pe:=(Ab3 h.pe F hr hb ha.pa kp hst hpl ht).imp fun σ H Q z=>AcV M h ha σ H Q z
abbrev DIn:=List Dt→(List Dt→Prop)→Prop
def AdV(K:W.Frag)(ns:List Str)(sp:DIn):Sp:=fun vs H Q _=>∃x C dx ys F ds,vs=.ref x::ys∧H x=some (.ins C dx [])∧Cls K C∧(∀f∈ns,Ia K C f)∧x∈F∧(∀a∈F,H a≠none)∧RpL K (mask F H) ds ys ∧
 sp ds fun fds=>∀ws H',Same (mask [x] H) H'→H' x=some (.ins C dx (ns.zip ws))→ns.length=fds.length→RpL K (mask F H') fds ws→Q .non H'
def Uy(sp:DIn):Prop:=∀ds Q Q',(∀d,Q d→Q' d)→sp ds Q→sp ds Q'
structure MkC(K:W.Frag)(mg:Str→Option Value)(c:Str)(ns:List Str)(C f:Addr):Prop where
 mm:Mk K C f
 at_:W.nsIn K mainGlobals c=some (some (.ref C))
 gl:mg c=some (.ref C)
 cl:Cls K C
 no:∀f∈ns,Ia K C f
def AdB(c:Str)(ns:List Str)(sp:DIn)(tl:DTA):DTE:=fun ρ Q=>tl ρ fun ds=>sp ds fun fds=>Q (.obj c ns fds)
theorem AfI{k:Nat}{c:Str}{ns ps:List Str}{C f:Addr}{fd:FuncData}{sp:DIn}{p:Pos}(m:Uy sp)(M:MkC X.K X.mg c ns C f)(G:Ho X.prog X.w X.K X.mg X.base CX0 k f fd ps (AdV X.K ns sp))(hb:Binds X.K fd ps [])(hr:Em (k+1) X.A)(hg:Gl X c)(ha:DA X (e::es) tl)
  (hdb:(c==("__debug__":Str))=false:=by decide) (he:starEach (e::es) X.env=(false,eval e X.env)::starEach es X.env:=by rfl) (hpl:(backTo pos (starEach es X.env)).any (·.1)=false:=by rfl):DE X (.Call (.Name c p) (e::es) [] pos) (AdB c ns sp tl) where
 mono:=fun hq z=>ha.mono (fun ds z=>m _ _ _ (fun fds q=>hq _ q) z) z
 pe:=(AfU M.mm G hr hg M.gl hb .nil Sw ha.pa hdb he hpl).imp fun σ H Q ⟨B,F,O,ρ,R,z⟩=>⟨B,F,O,ρ,R,ha.mono (fun ds z vs H1 s1 r1 x dx nx ndx ne=>by
  have R1:=R.same s1
  have ox:x∉F++O:=fun w=>R1.th x w nx
  have s2:Same H1 (upd (upd H1 dx (.own x)) x (.ins C dx [])):=fun b o q=>by rw[Bm (Dc q nx),Bm (Dc q ndx)];exact q
  refine⟨x,C,dx,vs,x::(F++O),ds,by rw[List.append_nil],BL,M.cl,M.no,List.mem_cons_self,fun b hb'=>?_,?_,m _ _ _ (fun fds q ws H' s' h1 h2 h3=>⟨rfl,?_⟩) z⟩
  ·rcases List.mem_cons.mp hb' with e|w
   ·rw[e,BL];simp
   ·intro q
    cases e:H1 b with
    |none=>exact R1.th b w e
    |some u=>rw[s2 _ _ e]at q;cases q
  ·refine r1.mono fun b o q=>?_
   obtain⟨n1,q⟩:=BR q
   rw[Az fun w=>(List.mem_cons.mp w).elim (fun e=>by rw[e,nx]at q;cases q) n1]
   exact s2 _ _ q
  ·have s3:Same H1 H':=fun b o q=>s' b o (by rw[Az fun w=>by rw[List.mem_singleton.mp w,nx]at q;cases q];exact s2 _ _ q)
   refine q (.ref x) H' (s1.trans s3) (Pn.mpr ⟨x,C,dx,ws,rfl,M.at_,M.cl,by rw[Az ox];exact h1,h2,h3.mono (Dy fun b hb'=>List.mem_cons_of_mem _ hb')⟩)) z⟩
end
end L2
namespace L2
open PySem Spec PyProof.Rows SeqAt
section
variable{K:W.Frag}{B:Hp}{F O:List Addr}{H:Hp}{σ:St}{ρ:Bv}{x:Addr}
theorem Rep.qH(r:Rep K B F O H σ ρ)(hx:x∈F)(hB:B x=none)(o:HO):Rep K B F O (upd H x o) σ ρ:=by
 have em:mask (F++O) (upd H x o)=mask (F++O) H:=Lg (List.mem_append_left _ hx)
 refine⟨r.len,fun b u e=>?_,r.fr,fun b hb e=>?_,fun j d q=>?_,fun j ks q=>?_,r.inj,fun j ks q=>?_,r.g8,r.raw⟩
 ·rw[Bm fun z=>by rw[z,hB]at e;cases e];exact r.base b u e
 ·by_cases z:b=x
  ·rw[z,BL]at e;cases e
  ·rw[Bm z]at e;exact r.th b hb e
 ·rw[em];exact r.is j d q
 ·obtain⟨b,zs,e1,e2,e3,e4,e5⟩:=r.own j ks q
  exact⟨b,zs,e1,e2,e3,by rw[Bm fun z=>e3 (by rw[z];exact hx)];exact e4,by rw[em];exact e5⟩
 ·obtain⟨b,zs,e1,e2,e3,e4,e5⟩:=r.tab j ks q
  exact⟨b,zs,e1,e2,e3,by rw[Bm fun z=>e3 (by rw[z];exact hx)];exact e4,by rw[em];exact e5⟩
def Jq(N:List Str)(ds:List Dt):Bv:=none::(ds.map (fun d=>some (.is d))++List.replicate (N.length-(ds.length+1)) none)
theorem La{N:List Str}{ds:List Dt}{ys:List V}(hx:x∈F)(hF:∀a∈F,H a≠none)(r:RpL K (mask F H) ds ys):Rep K (mask [x] H) F [] H (start N (.ref x::ys)) (Jq N ds):=by
 have hl:=r.len
 have get:∀(i:Nat)(e:En),(Jq N ds)[i]? = some (some e)→∃j d,i=j+1∧ds[j]? = some d∧e=.is d:=fun i e q=>by
  cases i with
  |zero=>cases q
  | succ j =>
   have q:(ds.map (fun d=>some (En.is d))++List.replicate (N.length-(ds.length+1)) none)[j]? = some (some e):=q
   by_cases hi:j<ds.length
   ·rw[List.getElem?_append_left (by simpa using hi),List.getElem?_map]at q
    cases w:ds[j]? with
    |none=>rw[w]at q;cases q
    |some d=>rw[w]at q;cases q;exact⟨j,d,rfl,w,rfl⟩
   ·rw[List.getElem?_append_right (by simpa using hi),List.getElem?_replicate]at q
    split at q<;>cases q
 refine⟨?_,Bw,fun a h=>(nomatch h),fun a h=>hF a (by simpa using h),fun i d e=>?_,fun i es e=>?_,fun i j es es' a h1=>?_,fun i es e=>?_,fun i j es es' a h1=>?_,fun i v e=>?_⟩
 ·unfold start Jq;simp[hl]
 ·obtain⟨j,d',rfl,e1,e2⟩:=get i _ e
  cases e2
  obtain⟨v,w1,w2⟩:=r.get e1
  have hj:j<ys.length:=by rw[hl];exact(List.getElem?_eq_some_iff.mp e1).1
  refine⟨v,?_,by rw[List.append_nil];exact w2⟩
  unfold start
  rw[List.getElem?_append_left (by simp;omega),List.getElem?_map,List.getElem?_cons_succ,w1];rfl
 ·obtain⟨_,_,_,_,z⟩:=get i _ e;cases z
 ·obtain⟨_,_,_,_,z⟩:=get i _ h1;cases z
 ·obtain⟨_,_,_,_,z⟩:=get i _ e;cases z
 ·obtain⟨_,_,_,_,z⟩:=get i _ h1;cases z
 ·obtain⟨_,_,_,_,z⟩:=get i _ e;cases z
end
section
variable{X:Cx}{e e1 e2 e3:Expr}{es:List Expr}{te1 te2 te3:DTE}{tl:DTA}{pos apos:Pos}
def AlY(K:W.Frag)(f1 f2 f3:Str)(te1 te2 te3:DTE):TS:=fun D σ H=>∃B F ρ x C dx,∃S:List Dt→Prop,Rep K B F [] H σ ρ∧x∈F∧B x=none∧σ[0]? = some (some (.ref x))∧H x=some (.ins C dx [])∧Cls K C∧(∀f∈[f1,f2,f3],Ia K C f) ∧
 (te1 ρ fun d1=>te2 ρ fun d2=>te3 ρ fun d3=>S [d1,d2,d3])∧∀fds,S fds→∀ws H',Same B H'→H' x=some (.ins C dx ([f1,f2,f3].zip ws))→[f1,f2,f3].length=fds.length→RpL K (mask F H') fds ws→D.nx σ H'
theorem Ada{f1 f2 f3:Str}{y:Str}{q1 q2 q3 p1 p2 p3 s1 s2 s3:Pos}(h1:DE X e1 te1)(h2:DE X e2 te2)(h3:DE X e3 te3)(n12:f1≠f2)(n13:f1≠f3)(n23:f2≠f3)(hN:X.N[0]? = some y:=by rfl)(hv:Vis X.env.scope y:=by first | exact Or.inl rfl | exact Or.inr (Or.inl rfl) | exact Or.inr (Or.inr rfl))
  (hd:(y==("__debug__":Str))=false:=by decide) (hcd:(y==("__classdict__":Str))=false:=by decide)
  (w1:swapsWith e1 (some (.Attribute (.Name y q1) f1 p1)) s1.line X.env=pure false:=by rfl) (w2:swapsWith e2 (some (.Attribute (.Name y q2) f2 p2)) s2.line X.env=pure false:=by rfl) (w3:swapsWith e3 (some (.Attribute (.Name y q3) f3 p3)) s3.line X.env=pure false:=by rfl) :
  PSs X [.Assign [.Attribute (.Name y q1) f1 p1] e1 s1,.Assign [.Attribute (.Name y q2) f2 p2] e2 s2,.Assign [.Attribute (.Name y q3) f3 p3] e3 s3] (AlY X.K f1 f2 f3 te1 te2 te3) :=
 (Qh (XF (Ir hN hv hd hcd) h1.pe w1) (Qh (XF (Ir hN hv hd hcd) h2.pe w2) (UJ (XF (Ir hN hv hd hcd) h3.pe w3)))).imp fun D σ H ⟨B,F,ρ,x,C,dx,S,R,xF,Bx,σ0,Hx,cl,no,z,fin⟩=>by
  have em:∀(H:Hp)(o:HO),mask (F++[]) (upd H x o)=mask (F++[]) H:=fun H o=>Lg (List.mem_append_left _ xF)
  refine⟨B,F,[],ρ,R,h1.mono (fun d1 z y1 H1 t1 r1=>?_) z⟩
  refine⟨.ref x,σ0,x,C,dx,[],rfl,t1 _ _ Hx,cl,no f1 (by simp),by decide,?_⟩
  have R1:=(R.same t1).qH xF Bx (.ins C dx (Hl f1 y1 []))
  refine⟨B,F,[],ρ,R1,h2.mono (fun d2 z y2 H2 t2 r2=>?_) z⟩
  refine⟨.ref x,σ0,x,C,dx,[(f1,y1)],rfl,t2 _ _ BL,cl,no f2 (by simp),by show 1<1000;decide,?_⟩
  have R2:=(R1.same t2).qH xF Bx (.ins C dx (Hl f2 y2 [(f1,y1)]))
  refine⟨B,F,[],ρ,R2,h3.mono (fun d3 z y3 H3 t3 r3=>?_) z⟩
  have ep2:Hl f2 y2 [(f1,y1)]=[(f1,y1),(f2,y2)]:=by simp[Hl,n12]
  have ep3:Hl f3 y3 [(f1,y1),(f2,y2)]=[(f1,y1),(f2,y2),(f3,y3)]:=by simp[Hl,n13,n23]
  rw[ep2]at t3 R2
  refine⟨.ref x,σ0,x,C,dx,[(f1,y1),(f2,y2)],rfl,t3 _ _ BL,cl,no f3 (by simp),by show 2<1000;decide,?_⟩
  have R3:=(R2.same t3).qH xF Bx (.ins C dx (Hl f3 y3 [(f1,y1),(f2,y2)]))
  rw[ep3]at R3 ⊢
  rw[List.append_nil]at r1 r2 r3 em
  refine fin _ z [y1,y2,y3] _ R3.base BL rfl ?_
  rw[em]
  have m12:Same (mask F H1) (mask F H2):=fun b o q=>t2.mask b o (by rw[em];exact q)
  have m23:Same (mask F H2) (mask F H3):=fun b o q=>t3.mask b o (by rw[em];exact q)
  exact RpL.cons ((r1.mono m12).mono m23) (RpL.cons (r2.mono m23) (RpL.cons r3 RpL.nil))
structure ZD(K:W.Frag)(mg:Str→Option Value)(c m:Str)(g:Addr):Prop where
 ex:∃CS,mg c=some (.ref CS)∧W.specialIn K (.ref CS) "__getattribute__"=some (some (.builtin "type.__getattribute__"))∧W.readsIn K CS (.type "type")=true∧W.findCls K (.ref CS) (.type "type") m=some (.val (.ref g))
 kp:W.keepIn K (.ref g)=true
theorem AcT{pl:Sem Bool}{k:Nat}{c m:Str}{g:Addr}{fd:FuncData}{ps:List Str}{sp:Sp}{t:TA}{p:Pos}(M:ZD X.K X.mg c m g)(hg:Gl X c)(F:Ho X.prog X.w X.K X.mg X.base CX0 k g fd ps sp)(hr:Em k X.A)(hb:Binds X.K fd ps [])(ha:PA X (e::es) t)
  (hdb:(c==("__debug__":Str))=false:=by decide) (hst:starEach (e::es) X.env=(false,eval e X.env)::starEach es X.env:=by rfl) (hpl:(backTo pos (starEach es X.env)).any (·.1)=false:=by rfl)
  (ht:eval (.Call (.Attribute (.Name c p) m apos) (e::es) [] pos) X.env=(do
   let ov ←eval (.Name c p) X.env
   standAt apos.atName
   let (f,first) ←holding [ov] (getMethod ov m pl)
   callWith pos f first (backTo pos (starEach (e::es) X.env)) (backToKw pos (keywordEach [] X.env))):=by rfl) :
  PE X (.Call (.Attribute (.Name c p) m apos) (e::es) [] pos) (AgO sp [] E0 t):=by
 intro pins s σ H Q I h
 obtain⟨CS,hm,hs,hr',hf⟩:=M.ex
 have q0:=(ZL (v:=.ref CS) (pos:=p) hg hm rfl hdb:PE X (.Name c p) (tC (.ref CS))) pins s σ H (fun v H1=>v=.ref CS∧H1=H) I ⟨rfl,rfl⟩
 refine W.methodCall_KW (pl:=pl) (thn q0 fun u s1 ⟨x,H1,I1,rx,ex,eH⟩=>?_) ht
 subst ex
 subst eH
 obtain rfl:u=Value.ref CS:=rx
 refine W.method_cls I1.kIn hs (W.cls_value I1.kIn hr' hf rfl ?_)
 refine W.callWith_K (first:=[]) (h₀:=X.base) I.ok.mod.kin M.kp (thn (ha pos pins _ σ H1 _ (I1.tok _) h) fun us s2 ⟨vs,H2,I2,r,q2⟩=>⟨I2.kIn,?_⟩) hst hpl
 exact Uu F hr hb .nil Sw I2 r q2
def Aku(K:W.Frag)(ns:List Str)(sp:DIn)(tl:DTA):TS:=fun D σ H=>∃B F ρ x C dx,∃S:List Dt→Prop,Rep K B F [] H σ ρ∧x∈F∧B x=none∧σ[0]? = some (some (.ref x))∧H x=some (.ins C dx [])∧Cls K C∧(∀f∈ns,Ia K C f) ∧
 (tl ρ fun ds=>sp ds S)∧∀fds,S fds→∀ws H',Same B H'→H' x=some (.ins C dx (ns.zip ws))→ns.length=fds.length→RpL K (mask F H') fds ws→D.nx σ H'
theorem WR{pl:Sem Bool}{k:Nat}{c y:Str}{g:Addr}{fd:FuncData}{ps ns:List Str}{sp:DIn}{p q ap cp:Pos}(m:Uy sp)(M:ZD X.K X.mg c "__init__" g)(hg:Gl X c)(G:Ho X.prog X.w X.K X.mg X.base CX0 k g fd ps (AdV X.K ns sp))(hb:Binds X.K fd ps [])(hr:Em k X.A)(ha:DA X es tl)(hN:X.N[0]? = some y:=by rfl)
  (hv:Vis X.env.scope y:=by first|exact Or.inl rfl|exact Or.inr (Or.inl rfl)|exact Or.inr (Or.inr rfl)) (hd:(y==("__debug__":Str))=false:=by decide) (hcd:(y==("__classdict__":Str))=false:=by decide) (hdb:(c==("__debug__":Str))=false:=by decide)
  (hst:starEach (.Name y q::es) X.env=(false,eval (.Name y q) X.env)::starEach es X.env:=by rfl) (hpl:(backTo cp (starEach es X.env)).any (·.1)=false:=by rfl)
  (ht:eval (.Call (.Attribute (.Name c p) "__init__" ap) (.Name y q::es) [] cp) X.env=(do
   let ov ←eval (.Name c p) X.env
   standAt ap.atName
   let (f,first) ←holding [ov] (getMethod ov "__init__" pl)
   callWith cp f first (backTo cp (starEach (.Name y q::es) X.env)) (backToKw cp (keywordEach [] X.env))):=by rfl)
  (hs:swapsWith (.Call (.Attribute (.Name c p) "__init__" ap) (.Name y q::es) [] cp) none pos.line X.env=pure false:=by rfl) :
  PSs X [.Expr (.Call (.Attribute (.Name c p) "__init__" ap) (.Name y q::es) [] cp) pos] (Aku X.K ns sp tl) :=
 (UJ (Kh (AcT M hg G hr hb (HJ (Ir hN hv hd hcd) ha.pa hst) hdb hst hpl ht) hs)).imp fun D σ H ⟨B,F,ρ,x,C,dx,S,R,xF,Bx,σ0,Hx,cl,no,z,fin⟩=>by
  refine⟨.ref x,σ0,B,F,[],ρ,R,ha.mono (fun ds z vs H1 s1 r1=>?_) z⟩
  show AdV X.K ns sp ((.ref x::vs)++[]) H1 _ E0
  rw[List.append_nil]
  have R1:=R.same s1
  rw[List.append_nil]at r1
  refine⟨x,C,dx,vs,F,ds,rfl,s1 _ _ Hx,cl,no,xF,fun a h=>R1.th a (List.mem_append_left _ h),r1,m _ _ _ (fun fds w ws H' s' h1 h2 h3=>fin fds w ws H' (fun b o e=>s' b o ?_) h1 h2 h3) z⟩
  rw[Az fun w=>by rw[List.mem_singleton.mp w,Bx]at e;cases e]
  exact R1.base b o e
end
def SN{τ:Type}(args:τ→List Dt)(pre:τ→Prop)(post:τ→List Dt→Prop):DIn:=fun ds R=>∃p,ds=args p∧pre p∧∀fds,post p fds→R fds
theorem Jg{τ:Type}{args:τ→List Dt}{pre:τ→Prop}{post:τ→List Dt→Prop}:Uy (SN args pre post):=fun _ _ _ hq ⟨p,e,h,q⟩=>⟨p,e,h,fun d z=>hq _ (q d z)⟩
theorem Ma{τ:Type}{args:τ→List Dt}{pre:τ→Prop}{post:τ→List Dt→Prop}{R:List Dt→Prop}(p:τ)(h:pre p)(q:∀fds,post p fds→R fds):SN args pre post (args p) R:=⟨p,rfl,h,q⟩
def PmC(P:Program)(w:World)(K:W.Frag)(mg:Str→Option Value)(base:Heap)(k:Nat)(c:Str)(ns:List Str)(sp:DIn):Prop:=∃g fd ps,ZD K mg c "__init__" g∧Binds K fd ps []∧Ho P w K mg base CX0 k g fd ps (AdV K ns sp)
def PmI(P:Program)(w:World)(K:W.Frag)(mg:Str→Option Value)(base:Heap)(k:Nat)(c:Str)(ns:List Str)(sp:DIn):Prop:=∃C f fd ps,MkC K mg c ns C f∧Binds K fd ps []∧Ho P w K mg base CX0 k f fd ps (AdV K ns sp)
def PmM(P:Program)(w:World)(K:W.Frag)(mg:Str→Option Value)(base:Heap)(k:Nat)(cs:List Str)(m:Str)(sp:DSp):Prop:=∃g fd ps,(∀c∈cs,Aad K c m g)∧W.keepIn K (.ref g)=true∧Binds K fd ps []∧Ho P w K mg base CX0 k g fd ps (lSp K sp)
section
variable{X:Cx}{e o:Expr}{es:List Expr}{te:DTE}{tl:DTA}{pos apos:Pos}
theorem VJ{k:Nat}{c:Str}{ns:List Str}{sp:DIn}{p:Pos}(m:Uy sp)(G:PmI X.prog X.w X.K X.mg X.base k c ns sp)(hr:Em (k+1) X.A)(hg:Gl X c)(ha:DA X (e::es) tl)
  (hdb:(c==("__debug__":Str))=false:=by decide) (he:starEach (e::es) X.env=(false,eval e X.env)::starEach es X.env:=by rfl) (hpl:(backTo pos (starEach es X.env)).any (·.1)=false:=by rfl):DE X (.Call (.Name c p) (e::es) [] pos) (AdB c ns sp tl):=by
 obtain⟨C,f,fd,ps,M,B,G⟩:=G
 exact AfI m M G B hr hg ha hdb he hpl
def PJ(cs:List Str)(m:Str)(sp:DSp)(te:DTE)(tl:DTA):DTE:=fun ρ Q=>te ρ fun d=>match d with
 |.obj c ns ds=>(c∈cs∧m∉ns)∧tl ρ fun es=>sp (.obj c ns ds::es) Q
 |_=>False
theorem XS{cs:List Str}{m:Str}{sp:DSp}(M:Hr sp)(h:DE X o te)(ha:DA X es tl){ρ:Bv}{Q Q':Dt→Prop}(hq:∀d,Q d→Q' d)(z:PJ cs m sp te tl ρ Q):PJ cs m sp te tl ρ Q':=h.mono (fun d z=>by
 split at z
 ·exact⟨z.1,ha.mono (fun es z=>M _ _ _ hq z) z.2⟩
 ·exact z.elim) z
theorem Ab9{cs:List Str}{m:Str}{g:Addr}{sp:DSp}(M:Hr sp)(hm:∀c∈cs,Aad X.K c m g)(h:DE X o te)(σ:St)(H:Hp)(Q:VK)(z:lE X.K (PJ cs m sp te tl) σ H Q):lE X.K (QW X.K m g sp te tl) σ H Q:=by
 obtain⟨B,F,O,ρ,R,z⟩:=z
 refine⟨B,F,O,ρ,R,h.mono (fun d z=>?_) z⟩
 split at z
 ·exact⟨hm _ z.1.1,z.1.2,z.2⟩
 ·exact z.elim
theorem AcK{pl:Sem Bool}{k:Nat}{cs:List Str}{m:Str}{sp:DSp}(M:Hr sp)(G:PmM X.prog X.w X.K X.mg X.base k cs m sp)(hr:Em k X.A)(h:DE X o te)(ha:DA X (e::es) tl)
  (hst:starEach (e::es) X.env=(false,eval e X.env)::starEach es X.env:=by rfl) (hpl:(backTo pos (starEach es X.env)).any (·.1)=false:=by rfl)
  (ht:eval (.Call (.Attribute o m apos) (e::es) [] pos) X.env=(do
   let ov ←eval o X.env
   standAt apos.atName
   let (f,first) ←holding [ov] (getMethod ov m pl)
   callWith pos f first (backTo pos (starEach (e::es) X.env)) (backToKw pos (keywordEach [] X.env))):=by rfl):DE X (.Call (.Attribute o m apos) (e::es) [] pos) (PJ cs m sp te tl):=by
 obtain⟨g,fd,ps,hm,kp,B,G⟩:=G
 exact⟨XS M h ha,(Aet M G B kp hr h ha hst hpl ht).pe.imp fun σ H Q z=>Ab9 M hm h σ H Q z⟩
end
end L2
namespace L2
open PySem Spec PyProof.Rows
inductive Lex(A:Around)(s:Shared):List Value→List Value→Bool→Prop
 |nn:Lex A s [] [] false
 |nc {y:Value} {ys:List Value}:Lex A s [] (y::ys) true
 |cn {x:Value} {xs:List Value}:Lex A s (x::xs) [] false
 |eq {x y:Value} {xs ys:List Value} {r:Bool} (h:SeqAt.EqAt A s x y true) (t:Lex A s xs ys r):Lex A s (x::xs) (y::ys) r
 |lt {x y:Value} {xs ys:List Value} {r:Bool} (h:SeqAt.EqAt A s x y false) (t:∀(prog:Program)(w:World)(E:Value→Shared→Prop)(Q:Value→Shared→Prop),Q (.bool r) s→wpAny (model prog w) A (richCompare .Lt x y) Q E s):Lex A s (x::xs) (y::ys) r
section
open PySem.SeqAt PySem.AutoSeq1 PySem.MeetsSeq PySem.MeetsSeq2 PySem.MeetsSeq3
theorem WY(p q:Addr)(us vs:Array Value)(m n:Nat)(e e2:Option Addr)(c c2:Array (Option Value))(res:Bool) :
  Meets (Builtin.«tuple.__lt__» ⟨[.ref p,.ref q],[]⟩) (fun A R st=>st.heap.get? p=some ⟨.type "tuple",e,.seq us m,c⟩∧st.heap.get? q=some ⟨.type "tuple",e2,.seq vs n,c2⟩∧Lex A.in1 st us.toList vs.toList res∧R (.ok (.ret (.bool res))) st) :=
 .of_wp fun prog w A R st h=>by
  obtain⟨hh,gg,dr,tt,os⟩:=st
  obtain⟨h1,h2,L,fin⟩:=h
  have uH:=AutoSeq1.sub_tuple_tuple
  wp_walk using wpAny_loadPart' h1,wpAny_loadPart' h2,wpAny_forIn_list _ (fun rest z st'=>z.1=none∧st'=⟨hh,gg,dr,tt,os⟩∧∃xs ys:List Value,rest=xs.zip ys∧Lex A.in1 ⟨hh,gg,dr,tt,os⟩ xs ys res∧xs.length+vs.size=ys.length+us.size) _
  case turn =>
   rintro⟨x0,y0⟩ rest z st' ⟨z0,rfl,xs,ys,hz,L',hlen⟩
   cases L' with
   |nn=>simp at hz
   |nc=>simp at hz
   |cn=>simp at hz
   | @eq x y xs ys r he t =>
    rw[List.zip_cons_cons]at hz
    obtain⟨hp,hr⟩:=List.cons.inj hz
    obtain⟨rfl,rfl⟩:=Prod.mk.inj hp
    refine wpAny_bind (he prog w _ _ ?_)
    wp_walk
    refine⟨rfl,rfl,xs,ys,hr,t,?_⟩
    simp only[List.length_cons]at hlen
    omega
   | @lt x y xs ys r he t =>
    rw[List.zip_cons_cons]at hz
    obtain⟨hp,hr⟩:=List.cons.inj hz
    obtain⟨rfl,rfl⟩:=Prod.mk.inj hp
    refine wpAny_bind (he prog w _ _ ?_)
    have less:=t prog w
    wp_walk using less
    exact⟨_,rfl,by simpa using fin⟩
  case fin =>
   rintro⟨z1,z2⟩ st' ⟨hz1,rfl,xs,ys,hz,L',hlen⟩
   simp only at hz1
   subst hz1
   have hv:res=decide (us.size<vs.size):=by
    cases L' with
    |nn=>simp at hlen;exact(decide_eq_false (by omega)).symm
    |nc=>simp at hlen;exact(decide_eq_true (by omega)).symm
    |cn=>simp at hlen;exact(decide_eq_false (by omega)).symm
    |eq _ _=>simp at hz
    |lt _ _=>simp at hz
   rw[hv]at fin
   wp_walk
   exact⟨_,rfl,by simpa [Builtin.Tuple.tupleCompareSizes] using fin⟩
  case h=>exact⟨rfl,rfl,us.toList,vs.toList,rfl,L,by simp;omega⟩
end
section
variable{prog:Program}{w:World}{A:Around}{E:Value→Shared→Prop}{s:Shared}
theorem Abx{p q:Addr}{us vs:Array Value}{res:Bool}{Q:Value→Shared→Prop}(hp:IsTup s.heap p us)(hq:IsTup s.heap q vs)(L:Lex A.in1 s us.toList vs.toList res)(hu:A.units<cLine)(h:Q (.bool res) s):wpAny (model prog w) A (richCompare .Lt (.ref p) (.ref q)) Q E s:=by
 obtain⟨⟨c1,e1,a1,b1⟩,g1,k1,m1,t1⟩:=id hp
 obtain⟨⟨c2,e2,a2,b2⟩,g2,k2,m2,t2⟩:=id hq
 dsimp only at k1 t1 k2 t2
 subst k1 t1 k2 t2
 refine richCompare_meets_room (op:=.Lt) ⟨_,g1,rfl⟩ ⟨_,g2,rfl⟩ PySem.F.slot_tuple_lt PySem.F.entry_tuple_lt (PySem.F.args_tuple_lt_2 _ _) (WY p q us vs m1 m2 e1 e2 b1 b2 res) ⟨g1,g2,L,?_⟩ hu
 exact show Value.bool res≠Value.notImplemented∧Q (.bool res) s from⟨(fun z=>nomatch z),h⟩
end
end L2
namespace L2
open PySem Spec PyProof.Rows SeqAt
theorem Mf:∀ns:List Int,HT.lexLt ns ns=false
 | []=>HT.Io
 |n::ns=>by rw[HT.Hs,if_pos rfl,Mf ns]
def FZ(a b:List Int×List Int):Bool:=if a.1=b.1 then HT.lexLt a.2 b.2 else HT.lexLt a.1 b.1
abbrev Ni(a:List Int×List Int):Dt:=.tup [Cj a.1,Cj a.2]
section
variable{X:Cx}
def Qa(K:W.Frag)(H:Hp)(v:V)(a:List Int×List Int):Prop:=∃p p1 p2,v=.ref p∧SqT K H p [.ref p1,.ref p2]∧SqT K H p1 (a.1.map V.int)∧SqT K H p2 (a.2.map V.int)
def AgK(K:W.Frag):List V→Hp→VK→Prop:=fun xs H Q=>∃l vs,∃ps:Nat→List Int×List Int,xs=[.ref l]∧SqL K H l vs∧0<vs.length∧(∀(i:Nat)(v:V),vs[i]? = some v→Qa K H v (ps i)) ∧
 ∀v,vs[argBest (fun i j=>FZ (ps i) (ps j)) (vs.length-1)]? = some v→Q v H
theorem Acb{x y:Addr}{us:List Value}(r:Vals [V.ref x,V.ref y] us):us=[.ref x,.ref y]:=by
 obtain⟨a,b,rfl,r1,r2⟩:=vals2 r
 cases(show a=.ref x from r1)
 cases(show b=.ref y from r2)
 rfl
theorem QX{h:Heap}:∀{us:List Value} {ns:List Int},IntsAre us ns→∃as,ReadsAll h us (Dt.pys (ns.map Dt.int)) as
 |_,_,.nil=>⟨_,by rw[List.map_nil,Dt.pys];exact .nil⟩
 | _,_,.cons n t r=>by
  obtain⟨as,q⟩:=QX (h:=h) r
  exact⟨_,by rw[List.map_cons,Dt.pys,Dt.py];exact .cons (.int n t) q⟩
theorem Ry{h:Heap}{a:Addr}{its:Array Value}{ns:List Int}(t:IsTup h a its)(i:IntsAre its.toList ns):∃as,Reads h (.ref a) (Cj ns).py as:=by
 obtain⟨o,h1,h2,n,h3⟩:=t
 obtain⟨as,r⟩:=QX (h:=h) i
 exact⟨_,by rw[Dt.py];exact .tuple h1 h2 h3 r⟩
theorem Qs{A:Around}{s:Shared}{a b:Addr}{i1 i2:Array Value}{ns ms:List Int}(t1:IsTup s.heap a i1)(t2:IsTup s.heap b i2)(n1:IntsAre i1.toList ns)(n2:IntsAre i2.toList ms)(hu:A.units+8<cLine):EqAt A s (.ref a) (.ref b) (decide (ns=ms)):=by
 have fl:∀ns:List Int,(Cj ns).flat 8=true:=fun ns=>Wl ns
 obtain⟨ca,da⟩:=Hq _ 8 (fl ns)
 obtain⟨cb,db⟩:=Hq _ 8 (fl ms)
 obtain⟨as,q1⟩:=Ry t1 n1
 obtain⟨bs,q2⟩:=Ry t2 n2
 have h:=SeqAt.eqAt_reads _ _ A s _ _ as bs q1 q2 ca cb (by omega)
 rw[TY _ _ ca cb]at h
 have ee:(Cj ns).eq (Cj ms)=decide (ns=ms):=by
  show Dt.eq (.tup _) (.tup _)=_
  rw[Wy,ZF]
 rw[ee]at h
 exact h
theorem Abg(hc:X.calm=true)(hu:X.A.in1.units+16<cLine):JH X (.builtin "min") (AgK X.K):=by
 intro pins s σ H xs us Q I r h
 obtain⟨l,vs,ps,rfl,hl,ne,each,q⟩:=h
 obtain⟨u,rfl,r1⟩:=vals1 r
 cases r1
 obtain⟨its,rv,pl,_⟩:=I.list hl
 have hlen:its.length=vs.length:=rv.length.symm
 have ll:l<s.heap.objs.size:=by
  obtain⟨_,e,_⟩:=pl.isList
  exact Heap.lt_size e
 refine Wf (wpAny_pyIter_list pl.isList ?_)
 refine⟨s.heap.objs.size,[s.heap.objs.size,l],[s.heap.objs.size],its.toArray.size,fun i v=>its.toArray[i]? = some v,_,fun i j=>FZ (ps i) (ps j),rfl,Walks.list (A:=X.A.in1) (I.ok.hd hc) _ l (Nat.ne_of_lt ll) its.toArray,⟨⟨_,Heap.get?_push_size _ rfl,rfl,rfl⟩,pl.isList.push _⟩,fun b hb=>?_,?_,?_,?_⟩
 ·show b<(s.heap.push _).objs.size
  rw[Heap.size_push]
  have hb:b=s.heap.objs.size∨b=l:=by simpa using hb
  rcases hb with e|e
  ·rw[e];exact Nat.lt_succ_self _
  ·rw[e];exact Nat.lt_succ_of_lt ll
 ·rw[List.size_toArray];omega
 ·intro h1 k1 i j x y s' Q' E' kept hx hy q'
  have go:∀a o,s.heap.get? a=some o→s'.heap.get? a=some o:=fun a o eo=>by
   have la:=Heap.lt_size eo
   refine kept a o (fun z=>?_) (fun z=>?_) (k1 a o (Heap.get?_push_of_some _ eo))
   ·have e2:a=s.heap.objs.size:=by simpa using z
    exact Nat.lt_irrefl _ (e2 ▸ la)
   ·have e2:a=(s.heap.push _).objs.size:=z
    rw[Heap.size_push]at e2
    exact Nat.lt_irrefl _ (Nat.lt_of_succ_lt (e2 ▸ la))
  have tup:∀{a:Addr} {xs:List V},SqT X.K H a xs→∃us:List Value,Vals xs us∧IsTup s'.heap a us.toArray:=fun{a xs} ht=>by
   obtain⟨us,r3,⟨o,eo,rest⟩,_⟩:=I.tuple ht
   exact⟨us,r3,o,go a o eo,rest⟩
  have fact:∀(i:Nat)(x:Value),its.toArray[i]? = some x→∃p p1 p2 i1 i2,x=.ref p∧IsTup s'.heap p [Value.ref p1,.ref p2].toArray∧IsTup s'.heap p1 i1∧IsTup s'.heap p2 i2∧IntsAre i1.toList (ps i).1∧IntsAre i2.toList (ps i).2:=fun i x hx=>by
   obtain⟨v,e1,r2⟩:=Vals.at rv i x (by simpa using hx)
   obtain⟨p,p1,p2,rfl,t0,t1,t2⟩:=each i v e1
   cases r2
   obtain⟨us,r0,u0⟩:=tup t0
   obtain⟨u1,r1,w1⟩:=tup t1
   obtain⟨u2,r2,w2⟩:=tup t2
   rw[Acb r0]at u0
   exact⟨p,p1,p2,u1.toArray,u2.toArray,rfl,u0,w1,w2,intsAre_of r1,intsAre_of r2⟩
  obtain⟨p,p1,p2,i1,i2,rfl,a0,a1,a2,n1,n2⟩:=fact i x hx
  obtain⟨b,b1,b2,j1,j2,rfl,c0,c1,c2,m1,m2⟩:=fact j y hy
  have in2:X.A.in1.in1.units=X.A.in1.units+1:=rfl
  refine Abx a0 c0 ?_ (by omega) q'
  show Lex X.A.in1.in1 s' [.ref p1,.ref p2] [.ref b1,.ref b2] _
  have e1:=Qs (A:=X.A.in1.in1) a1 c1 n1 m1 (by omega)
  have e2:=Qs (A:=X.A.in1.in1) a2 c2 n2 m2 (by omega)
  show Lex X.A.in1.in1 s' [.ref p1,.ref p2] [.ref b1,.ref b2] (if(ps i).1=(ps j).1 then HT.lexLt (ps i).2 (ps j).2 else HT.lexLt (ps i).1 (ps j).1)
  by_cases h1:(ps i).1=(ps j).1
  ·rw[if_pos h1]
   rw[decide_eq_true h1]at e1
   refine .eq e1 ?_
   by_cases h2:(ps i).2=(ps j).2
   ·rw[decide_eq_true h2]at e2
    rw[h2]
    have:HT.lexLt (ps j).2 (ps j).2=false:=Mf _
    rw[this]
    exact .eq e2 .nn
   ·rw[decide_eq_false h2]at e2
    exact .lt e2 fun prog w E Q h=>HT.K9 a2 c2 n2 m2 (by omega) h
  ·rw[if_neg h1]
   rw[decide_eq_false h1]at e1
   exact .lt e1 fun prog w E Q h=>HT.K9 a1 c1 n1 m1 (by omega) h
 ·intro v h' tk hv k
  obtain⟨x,e1,r2⟩:=Vals.at rv _ v (by simpa using hv)
  rw[hlen]at e1
  refine⟨x,H,I.kept fun b o e=>k b o (fun z=>?_) (Heap.get?_push_of_some _ e),r2,q x e1⟩
  have e2:b=s.heap.objs.size:=by simpa using z
  have e3:=Heap.lt_size e
  exact Nat.lt_irrefl _ (e2 ▸ e3)
def K3(ps:List (List Int×List Int)):Nat:=argBest (fun i j=>FZ (ps.getD i ([],[])) (ps.getD j ([],[]))) (ps.length-1)
def Ag9:DL:=fun ds Q=>∃ps:List (List Int×List Int),ds=[.lst (ps.map Ni)]∧0<ps.length∧K3 ps<ps.length∧Q (Ni (ps.getD (K3 ps) ([],[])))
theorem ints_of{K:W.Frag}{M:Hp}{ns:List Int}{xs:List V}(r:RpL K M (ns.map Dt.int) xs):xs=ns.map V.int:=by
 induction ns generalizing xs with
 |nil=>exact Br.mp r
 | cons n ns ih =>
  obtain⟨v,w,rfl,r1,r2⟩:=Ax.mp r
  rw[Bh.mp r1,ih r2]
  rfl
theorem AfD{K:W.Frag}{M:Hp}{a:List Int×List Int}{v:V}(r:Rp K M (Ni a) v):Qa K M v a:=by
 obtain⟨p,xs,rfl,h1,h2⟩:=Dw.mp r
 obtain⟨v1,w1,rfl,r1,h2⟩:=Ax.mp h2
 obtain⟨v2,w2,rfl,r2,h2⟩:=Ax.mp h2
 obtain rfl:=Br.mp h2
 obtain⟨p1,x1,rfl,g1,k1⟩:=Dw.mp r1
 obtain⟨p2,x2,rfl,g2,k2⟩:=Dw.mp r2
 rw[ints_of k1]at g1
 rw[ints_of k2]at g2
 exact⟨p,p1,p2,rfl,h1,g1,g2⟩
theorem Qa.mono{K:W.Frag}{M M':Hp}{a:List Int×List Int}{v:V}(s:Same M M')(h:Qa K M v a):Qa K M' v a:=by
 obtain⟨p,p1,p2,e,h1,h2,h3⟩:=h
 exact⟨p,p1,p2,e,s.fP h1,s.fP h2,s.fP h3⟩
theorem Ac2{K:W.Frag}:VD K (AgK K) Ag9 where
 mono:=fun hq ⟨ps,e,n0,lt,h⟩=>⟨ps,e,n0,lt,hq _ h⟩
 ok:=fun O H ds xs Q _ r ⟨ps,e,n0,lt,h⟩=>by
  subst e
  obtain⟨x,r',rfl,r2,r3⟩:=Ax.mp r
  obtain rfl:=Br.mp r3
  obtain⟨l,vs,rfl,hs,hl⟩:=DY r2
  have len:vs.length=ps.length:=by rw[hl.len,List.length_map]
  have at':∀(i:Nat)(v:V),vs[i]? = some v→Rp K (mask O H) (Ni (ps.getD i ([],[]))) v:=fun i v e=>by
   obtain⟨d,e1,e2⟩:=hl.get' e
   rw[List.getElem?_map]at e1
   cases w:ps[i]? with
   |none=>rw[w]at e1;cases e1
   | some a =>
    rw[w]at e1
    cases e1
    rw[List.getD_eq_getElem?_getD,w]
    exact e2
  refine⟨l,vs,fun i=>ps.getD i ([],[]),rfl,Bw.seq hs,by omega,fun i v e=>(AfD (at' i v e)).mono Bw,fun v e=>?_⟩
  rw[len]at e
  exact h v H (Same.refl H) (at' _ v e)
theorem Agx{a:Expr}{tl:DTA}{p pos:Pos}(hm:X.mg "min"=none)(hu:X.A.in1.units+16<cLine)(ha:DA X [a] tl)(hc:X.calm=true:=by rfl)(hg:Gl X "min":=by rfl)(hv:bootBuiltins "min"=some (.builtin "min"):=by rfl)(he:starEach [a] X.env=(false,eval a X.env)::starEach [] X.env:=by rfl)
  (hpl:(backTo pos (starEach [] X.env)).any (·.1)=false:=by rfl):DE X (.Call (.Name "min" p) [a] [] pos) (dCB Ag9 tl):=R0 (Abg hc hu) Ac2 hg hm hv ha (he:=he) (hpl:=hpl)
theorem Ais{A:Around}(h:A.units+64<cLine):A.in1.units+16<cLine:=by show A.units+1+16<cLine;omega
end
end L2
namespace L2
open PySem Spec PyProof.Rows
open PySem.W (KasT kas_asc kas_desc kas_tail3 kas_descPart kas_count kas_place kas_bin kas_sort kas_rev)
def Am{α:Type}(bt:Nat→Nat→Bool):KasT α→α
 |.ret a=>a
 |.ask i j k=>Am bt (k (bt i j))
def Gz{α:Type}(n:Nat)(G:α→Prop):KasT α→Prop
 |.ret a=>G a
 |.ask i j k=>i<n∧j<n∧∀b,Gz n G (k b)
theorem Gz.bind{α β:Type}{n:Nat}{G:α→Prop}{H:β→Prop}{f:α→KasT β}(hf:∀a,G a→Gz n H (f a)):∀t:KasT α,Gz n G t→Gz n H (t.bind f)
 |.ret a,h=>hf a h
 |.ask _ _ k,h=>⟨h.1,h.2.1,fun b=>Gz.bind hf (k b) (h.2.2 b)⟩
theorem Gz.eval{α:Type}{n:Nat}{G:α→Prop}(bt:Nat→Nat→Bool):∀t:KasT α,Gz n G t→G (Am bt t)
 |.ret _,h=>h
 |.ask i j k,h=>Gz.eval bt (k (bt i j)) (h.2.2 _)
theorem V6{α:Type}{n:Nat}{cmp:Nat→Nat→(Bool→Shared→Prop)→Shared→Prop}{bt:Nat→Nat→Bool}{s:Shared}(hc:∀i j,i<n→j<n→∀C:Bool→Shared→Prop,C (bt i j) s→cmp i j C s){G:α→Prop}{Q:α→Shared→Prop} :
  ∀t:KasT α,Gz n G t→Q (Am bt t) s→t.kasWp cmp Q s
 |.ret _,_,q=>q
 |.ask i j k,h,q=>hc i j h.1 h.2.1 _ (V6 hc (k (bt i j)) (h.2.2 _) q)
abbrev Rg(n:Nat):Array Nat:=List.toArray (List.range n)
theorem KC{n:Nat}{p:Array Nat}(n0:0<n)(h:p.Perm (Rg n))(i:Nat):p.getD i 0<n:=by
 by_cases hi:i<p.size
 ·have e:p.getD i 0=p[i]:=by simp[Array.getD,hi]
  rw[e]
  have:=h.mem_iff.mp (Array.getElem_mem hi)
  simpa using this
 ·simpa [Array.getD,hi] using n0
theorem PX{n:Nat}{p:Array Nat}(h:p.Perm (Rg n))(i j:Nat):(kas_rev p i j).Perm (Rg n):=(mirror_perm p i j _).trans h
section
variable{n:Nat}
theorem Td{p:Array Nat}(n0:0<n)(hp:p.Perm (Rg n)):∀f m,Gz n (fun _=>True) (kas_asc p f m)
 |0,_=>trivial
 | f+1,m=>⟨KC n0 hp _,KC n0 hp _,fun b=>by
  cases b
  ·exact Td n0 hp f (m+1)
  ·trivial⟩
theorem Lw(n0:0<n):∀(f:Nat)(p:Array Nat)(m q:Nat),p.Perm (Rg n)→Gz n (fun r:Array Nat×Nat×Nat=>r.1.Perm (Rg n)) (kas_desc f p m q)
 |0,_,_,_,hp=>hp
 | f+1,p,m,q,hp=>⟨KC n0 hp _,KC n0 hp _,fun b=>by
  cases b
  ·refine⟨KC n0 hp _,KC n0 hp _,fun d=>?_⟩
   cases d
   ·exact Lw n0 f p (m+1) (q+1) hp
   ·exact hp
  ·show Gz n _ (if q>0 then _ else _)
   split
   ·exact Lw n0 f _ (m+1) 0 (PX hp _ _)
   ·exact Lw n0 f p (m+1) 0 hp⟩
theorem Vk(n0:0<n){p:Array Nat}(hp:p.Perm (Rg n))(m k:Nat):Gz n (fun r:Nat×Array Nat=>r.2.Perm (Rg n)) (kas_tail3 m k p) :=
 Gz.bind (n:=n) (G:=fun _=>True) (H:=fun r:Nat×Array Nat=>r.2.Perm (Rg n)) (f:=fun j=>KasT.ret (j,kas_rev p 0 m)) (fun _ _=>show(kas_rev p 0 m).Perm (Rg n)from PX hp _ _) _ (Td n0 (PX hp _ _) _ _)
theorem Vw(n0:0<n){p:Array Nat}(hp:p.Perm (Rg n))(m k:Nat):Gz n (fun r:Nat×Array Nat=>r.2.Perm (Rg n)) (kas_descPart m k p) :=
 Gz.bind (fun r hr=>by
  split
  ·exact Vk n0 (PX hr _ _) _ _
  ·exact Vk n0 hr _ _) _ (Lw n0 _ p _ _ hp)
theorem AaA(n0:0<n){p:Array Nat}(hp:p.Perm (Rg n))(k:Nat):Gz n (fun r:Nat×Array Nat=>r.2.Perm (Rg n)) (kas_count k p) :=
 Gz.bind (fun m _=>by
  split
  ·exact hp
  ·split
   ·refine⟨KC n0 hp _,KC n0 hp _,fun b=>?_⟩
    cases b
    ·exact Vw n0 (PX hp _ _) _ _
    ·exact hp
   ·exact Vw n0 hp _ _) _ (Td n0 hp _ _)
theorem Mx(n0:0<n){p:Array Nat}(hp:p.Perm (Rg n))(k:Nat):∀f l r,Gz n (fun _=>True) (kas_place p k f l r)
 |0,_,_=>trivial
 | f+1,l,r=>by
  show Gz n _ (if l≥r then _ else _)
  split
  ·trivial
  ·refine⟨KC n0 hp _,KC n0 hp _,fun b=>?_⟩
   cases b
   ·exact Mx n0 hp k f _ _
   ·exact Mx n0 hp k f _ _
theorem Y4(n0:0<n):∀(f:Nat)(p:Array Nat)(k:Nat),p.Perm (Rg n)→Gz n (fun r:Array Nat=>r.Perm (Rg n)) (kas_bin f p k)
 |0,_,_,hp=>hp
 |f+1,p,k,hp=>Gz.bind (fun l _=>Y4 n0 f _ (k+1) ((bubble_perm p k (k-l)).trans hp)) _ (Mx n0 hp k _ _ _)
theorem V1(n0:0<n):Gz n (fun r:Array Nat=>r.Perm (Rg n)) (kas_sort n) :=
 Gz.bind (fun r hr=>by
  split
  ·exact Y4 n0 _ r.2 _ hr
  ·exact hr) _ (AaA n0 (Array.Perm.refl _) _)
end
def Cw(bt:Nat→Nat→Bool)(n:Nat):List Nat:=(Am bt (kas_sort n)).toList
theorem Cp(bt:Nat→Nat→Bool)(n:Nat):(Cw bt n).Perm (List.range n):=by
 rcases Nat.eq_zero_or_pos n with rfl|h
 ·exact List.Perm.refl _
 ·have:=(V1 h).eval bt
  exact Array.perm_iff_toList_perm.mp this
section
variable{prog:Program}{w:World}{A:Around}{E:Value→Shared→Prop}{s:Shared}
theorem Wn{Q:Bool→Shared→Prop}:∀(vs us:List Value)(ns ms:List Int)(i:Nat),IntsAre vs ns→IntsAre us ms→Q (HT.lexLt ns ms) s→W.KatLex prog w A true (decide (vs.length<us.length)) Q (vs.zip us) i s
 |_,_,_,_,_,.nil,.nil,q=>q
 | _,_,_,_,_,.nil,.cons _ _ _,q=>by
  rw[decide_eq_true (by simp)]
  exact W.kat_nil q
 | _,_,_,_,_,.cons _ _ _,.nil,q=>by
  rw[decide_eq_false (by simp)]
  exact W.kat_nil q
 | _,_,_,_,i,.cons (vs:=vs) (ns:=ns) a t h1,.cons (vs:=us) (ns:=ms) b u h2,q=>by
  rw[HT.Hs]at q
  refine W.kat_cons (wpAny_eqBool_int (W.kat_go (fun e=>W.kat_yes ?_) (fun e=>W.kat_no ?_)))
  ·have e:a=b:=by simpa using e
   rw[if_pos e]at q
   have:=Wn vs us ns ms (i+1) h1 h2 q
   rw[show decide ((Value.int a t::vs).length<(Value.int b u::us).length)=decide (vs.length<us.length)from decide_eq_decide.mpr (by simp)]
   exact this
  ·have e:¬a=b:=by simpa using e
   rw[if_neg e]at q
   cases hi:(true&&i==0)with
   |true=>exact oneLt_int q
   |false=>exact W.kat_one _ _ (richCompare_gives (op:=.Lt) (typeIs_int s _ t) (typeIs_int s _ u) F.slot_int_lt F.entry_int_lt (F.args_int_lt_2 _ _) (gives_int_lt _ _ t u) (fun x=>nomatch x) q)
theorem Ab6{x y:Addr}{xs ys:Array Value}{ns ms:List Int}{Q:Bool→Shared→Prop}(hx:IsTup s.heap x xs)(hy:IsTup s.heap y ys)(hi:IntsAre xs.toList ns)(hj:IntsAre ys.toList ms)(q:Q (HT.lexLt ns ms) s) :
  wpAny (model prog w) A (keyLt' (tuples' true) (.ref x) (.ref y)) Q E s:=by
 obtain⟨o1,g1,_,n1,d1⟩:=hx
 obtain⟨o2,g2,_,n2,d2⟩:=hy
 have:=Wn (prog:=prog) (w:=w) (A:=A) (Q:=Q) xs.toList ys.toList ns ms 0 hi hj q
 exact W.kat_lt g1 d1 g2 d2 (by simpa using this)
def But(a:Addr)(h h':Heap):Prop:=∀b o,b≠a→h.get? b=some o→h'.get? b=some o
theorem Y7:∀vs:List Value,(vs.zip vs).map (·.2)=vs
 | []=>rfl
 |v::vs=>by rw[List.zip_cons_cons,List.map_cons,Y7 vs]
theorem W7{vs:List Value}(bt:Nat→Nat→Bool)(h:vs.length<2):(Cw bt vs.length).map (fun i=>vs.getD i Value.none)=vs:=by
 match vs,h with
 | [],_=>rfl
 | [v],_=>rfl
theorem Uw{a:Addr}{vs:List Value}{n:Nat}{κ:SortKind}{bt:Nat→Nat→Bool}{P:PySem.Fin→Shared→Prop}(ho:s.heap.get? a=some (seqObj "list" vs.toArray n))(h64:vs.length<64)
  (hk:∀h':Heap,But a s.heap h'→2≤vs.length→∀Q:SortKind→Shared→Prop,Q κ {s with heap:=h'}→wpAny (model prog w) A (keyKind' vs.toArray) Q (fun _ _=>False) {s with heap:=h'})
  (hl:∀h':Heap,But a s.heap h'→∀i j,i<vs.length→j<vs.length→∀C:Bool→Shared→Prop,C (bt i j) {s with heap:=h'}→W.kas_ask prog w A κ vs i j C {s with heap:=h'})
  (fin:∀(h':Heap)(c:Nat),But a s.heap h'→h'.get? a=some (seqObj "list" (List.toArray ((Cw bt vs.length).map fun i=>vs.getD i Value.none)) c)→P (.done (.ret .none)) {s with heap:=h'}) :
  wpAny (model prog w) A (Builtin.«list.sort» ⟨[.ref a],[]⟩) P E s:=by
 have la:a<s.heap.objs.size:=Heap.lt_size ho
 have sl:vs.length≤sizeLine:=by rw[sizeLine_eq];omega
 obtain⟨c1,g1⟩:∃c,(s.heap.update a (Obj.mapSeq fun _=>(#[]:Array Value))).get? a=some (seqObj "list" #[] c):=⟨_,get?_update_seq ho fun _=>#[]⟩
 obtain⟨h3,e3⟩:∃h3,h3=((s.heap.update a (Obj.mapSeq fun _=>(#[]:Array Value))).push (seqObj "tuple" vs.toArray 0)).push (seqObj "list" #[] 0):=⟨_,rfl⟩
 have g3:h3.get? a=some (seqObj "list" #[] c1):=by rw[e3];exact Heap.get?_push_of_some _ (Heap.get?_push_of_some _ g1)
 have k3:But a s.heap h3:=fun b o ne e=>by
  rw[e3]
  exact Heap.get?_push_of_some _ (Heap.get?_push_of_some _ ((Heap.get?_update_other _ _ (Ne.symm ne)).trans e))
 have last:∀out:List Value,out.length≤sizeLine→out=(Cw bt vs.length).map (fun i=>vs.getD i Value.none)→∃c2,(h3.update a (Obj.mapSeq fun _=>out.toArray)).get? a=some (seqObj "list" out.toArray c2)∧P (.done (.ret .none)) {s with heap:=h3.update a (Obj.mapSeq fun _=>out.toArray)}:=fun out _ eo=>by
  obtain⟨c2,g⟩:∃c,(h3.update a (Obj.mapSeq fun _=>out.toArray)).get? a=some (seqObj "list" out.toArray c):=⟨_,get?_update_seq g3 fun _=>out.toArray⟩
  refine⟨c2,g,fin _ c2 (fun b o ne e=>(Heap.get?_update_other _ _ (Ne.symm ne)).trans (k3 b o ne e)) ?_⟩
  rw[←eo];exact g
 rw[list_sort_plain]
 refine wpAny_bind (listItems_at ho rfl (wpAny_bind (listUpdate_at ho rfl ?_ (by rw[List.size_toArray];exact sl) (Nat.zero_le _))))
 refine wpAny_bind (seqEpoch_at g1 rfl (wpAny_bind (wpAny_newTuple ?_ (by show vs.length≤_;exact sl))))
 refine wpAny_bind (wpAny_newList (wpAny_holding ?_) (Nat.zero_le _))
 show wpAny (model prog w) A _ P E {s with heap:=((s.heap.update a (Obj.mapSeq fun _=>(#[]:Array Value))).push (seqObj "tuple" vs.toArray 0)).push (seqObj "list" #[] 0)}
 rw[←e3]
 dsimp only
 by_cases few:vs.toArray.size<2
 ·rw[if_pos few,if_pos few]
  have qT:vs.length<2:=by simpa using few
  refine wpAny_bind (wpAny_pure ?_);rw[StateT.run_pure];refine wpAny_bind (wpAny_pure ?_)
  dsimp only
  have eo:(arrOf (SortSt.mk' general' (vs.toArray.zip vs.toArray) #[] 7 none)).map (·.2)=vs.toArray:=by
   show(vs.toArray.zip vs.toArray).map (·.2)=vs.toArray
   rw[←Array.toList_inj,Array.toList_map,Array.toList_zip]
   exact Y7 vs
  rw[eo]
  obtain⟨c2,g,q⟩:=last vs sl (W7 bt qT).symm
  refine wpAny_bind (seqEpoch_at g3 rfl (wpAny_bind (listUpdate_at g3 rfl ?_ (Nat.zero_le _) (by rw[List.size_toArray];exact Nat.le_succ_of_le sl))))
  simp only[bne_self_eq_false,Bool.false_eq_true,if_false]
  exact wpAny_pure q
 ·rw[if_neg few,if_neg few]
  have many:2≤vs.length:=by
   have:¬vs.length<2:=by simpa using few
   omega
  refine wpAny_bind (wpAny_mono (hk h3 k3 many (fun κ' s'=>κ'=κ∧s'={s with heap:=h3}) ⟨rfl,rfl⟩) ?_ fun _ _ x=>x.elim)
  rintro κ' s' ⟨rfl,rfl⟩
  have tree:=V6 (hl h3 k3) (Q:=fun p s'=>p=Am bt (kas_sort vs.length)∧s'={s with heap:=h3}) (kas_sort vs.length) (V1 (by omega)) ⟨rfl,rfl⟩
  refine wpAny_bind (wpAny_mono (W.kat_run (Q:=fun st' s'=>(arrOf st').map (·.2)=List.toArray ((Cw bt vs.length).map fun i=>vs.getD i Value.none)∧failedOf st'=none∧s'={s with heap:=h3}) rfl many h64 (fun p st' s' _ a2 a3 a4=>⟨?_,a3,a4.2⟩) tree) ?_ fun _ _ e=>e)
  ·rw[W.kat_snds rfl a2,a4.1];rfl
  ·rintro⟨⟨⟩,st'⟩ s' ⟨x1,x2,rfl⟩
   dsimp only
   rw[x1]
   have ol:((Cw bt vs.length).map fun i=>vs.getD i Value.none).length≤sizeLine:=by rw[List.length_map,(Cp bt _).length_eq,List.length_range];exact sl
   obtain⟨c2,g,q⟩:=last _ ol rfl
   refine wpAny_bind (seqEpoch_at g3 rfl (wpAny_bind (listUpdate_at g3 rfl ?_ (Nat.zero_le _) (by rw[List.size_toArray];exact Nat.le_succ_of_le ol))))
   rw[x2]
   simp only[bne_self_eq_false,Bool.false_eq_true,if_false]
   exact wpAny_pure q
theorem RB{l:Addr}{vs:List Value}{κ:SortKind}{bt:Nat→Nat→Bool}{Q:Value→Shared→Prop}(hl:s.heap.IsList l vs.toArray)(h64:vs.length<64)
  (hk:∀h':Heap,(∀b o,s.heap.get? b=some o→h'.get? b=some o)→2≤vs.length→∀R:SortKind→Shared→Prop,R κ {s with heap:=h'}→wpAny (model prog w) A.in1.in1 (keyKind' vs.toArray) R (fun _ _=>False) {s with heap:=h'})
  (hc:∀h':Heap,(∀b o,s.heap.get? b=some o→h'.get? b=some o)→∀i j,i<vs.length→j<vs.length→∀C:Bool→Shared→Prop,C (bt i j) {s with heap:=h'}→W.kas_ask prog w A.in1.in1 κ vs i j C {s with heap:=h'})
  (fin:∀(h':Heap)(D:Addr)(c:Nat),(∀b o,s.heap.get? b=some o→h'.get? b=some o)→s.heap.objs.size≤D→h'.get? D=some (seqObj "list" (List.toArray ((Cw bt vs.length).map fun i=>vs.getD i Value.none)) c)→Q (.ref D) {s with heap:=h'}) :
  wpAny (model prog w) A (call (.builtin "sorted") [.ref l]) Q E s:=by
 have sl:vs.length≤sizeLine:=by rw[sizeLine_eq];omega
 obtain⟨h1,e1⟩:∃h1,h1=(s.heap.push (seqObj "list" #[] 0)).update s.heap.objs.size (Obj.mapSeq (· ++ vs.toArray)):=⟨_,rfl⟩
 have z1:h1.objs.size=s.heap.objs.size+1:=by rw[e1,Heap.size_update,size_push']
 have kp:∀b o,s.heap.get? b=some o→(h1.push (seqObj "list" vs.toArray 0)).get? b=some o:=fun b o q=>by
  have lb:b<s.heap.objs.size:=Heap.lt_size q
  refine Heap.get?_push_of_some _ ?_
  rw[e1,Heap.get?_update_ne _ _ _ _ (Nat.ne_of_lt lb)]
  exact Heap.get?_push_of_some _ q
 have gD:(h1.push (seqObj "list" vs.toArray 0)).get? h1.objs.size=some (seqObj "list" vs.toArray 0):=Heap.get?_push_size _ rfl
 have low:∀(h':Heap),But h1.objs.size (h1.push (seqObj "list" vs.toArray 0)) h'→∀b o,s.heap.get? b=some o→h'.get? b=some o:=fun h' k b o q=>by
  have lb:b<s.heap.objs.size:=Heap.lt_size q
  exact k b o (Nat.ne_of_lt (by rw[z1];exact Nat.lt_succ_of_lt lb)) (kp b o q)
 refine Calls.call_function_entry kind_sorted plain_sorted entry_sorted (args_sorted1 _) ?_
 unfold Builtin.«sorted»
 refine wpAny_bind (m:=checkCount "sorted" 1 1 _) (wpAny_pure (wpAny_bind (collect_list hl ?_ (by rw[sizeLine_eq];omega))))
 refine wpAny_bind (wpAny_newList ?_ (by rw[sizeLine_eq];omega))
 show wpAny _ _ _ _ _ {s with heap:=((s.heap.push (seqObj "list" #[] 0)).update s.heap.objs.size (Obj.mapSeq (· ++ vs.toArray))).push (seqObj "list" vs.toArray 0)}
 rw[←e1]
 refine wpAny_bind (wpAny_holding (wpAny_call_entry slot_list_sort ⟨_,gD,rfl⟩ entry_list_sort ?_ (args_list_sort _)))
 refine Uw (s:={s with heap:=h1.push (seqObj "list" vs.toArray 0)}) (κ:=κ) (bt:=bt) gD h64 (fun h' k=>hk h' (low h' k)) (fun h' k=>hc h' (low h' k)) fun h' c k g=>?_
 exact⟨_,rfl,wpAny_pure ⟨_,rfl,fin h' _ c (low h' k) (by rw[z1];omega) g⟩⟩
end
theorem Aag{h:Heap}:∀its:List Value,(∀v∈its,∃a xs ns,v=.ref a∧IsTup h a xs∧IntsAre xs.toList ns∧ns≠[])→∃fs,W.KatTups h its fs∧fs.length=its.length∧∀f∈fs,∃n t,f=Value.int n t
 | [],_=>⟨[],W.KatTups.nil,rfl,fun _ z=>by cases z⟩
 | v::its,hv=>by
  obtain⟨fs,k,lf,ff⟩:=Aag its fun x hx=>hv x (.tail _ hx)
  obtain⟨a,xs,ns,rfl,⟨o,g,c,n,d⟩,hi,ne⟩:=hv v (.head _)
  cases hx:xs.toList with
  |nil=>rw[hx]at hi;cases hi;exact absurd rfl ne
  | cons x r =>
   rw[hx]at hi
   cases hi with
   | cons m t _ =>
    have e0:xs[0]? = some (Value.int m t):=by rw[←Array.getElem?_toList,hx];rfl
    refine⟨.int m t::fs,W.KatTups.cons g c d e0 k,by rw[List.length_cons,List.length_cons,lf],fun f hf=>?_⟩
    rcases List.mem_cons.mp hf with rfl|hf
    ·exact⟨m,t,rfl⟩
    ·exact ff f hf
theorem Ng{xs:List V}{us:List Value}(r:Vals xs us):∀ix:List Nat,(∀i∈ix,i<xs.length)→Vals (ix.map fun i=>xs.getD i V.non) (ix.map fun i=>us.getD i Value.none)
 | [],_=>.nil
 | i::ix,h=>by
  have hi:i<xs.length:=h i (.head _)
  obtain⟨u,eu,ru⟩:=Vals.get (i:=i) (x:=xs[i]) r (List.getElem?_eq_getElem hi)
  have e1:xs.getD i V.non=xs[i]:=by simp[List.getD,hi]
  have e2:us.getD i Value.none=u:=by simp[List.getD,eu]
  rw[List.map_cons,List.map_cons,e1,e2]
  exact .cons ru (Ng r ix fun j hj=>h j (.tail _ hj))
variable{X:Cx}
def Adg(K:W.Frag):List V→Hp→VK→Prop:=fun xs H Q=>∃p vs,∃nss:Nat→List Int,xs=[.ref p]∧SqL K H p vs∧vs.length<64∧(∀(i:Nat)(v:V),vs[i]? = some v→∃a,v=.ref a∧SqT K H a ((nss i).map V.int)∧nss i≠[]) ∧
 ∀l,H l=none→Q (.ref l) (upd H l (.lst ((Cw (fun i j=>HT.lexLt (nss i) (nss j)) vs.length).map fun i=>vs.getD i V.non)))
theorem Xn:JH X (.builtin "sorted") (Adg X.K):=by
 intro pins s σ H xs us Q I r h
 obtain⟨p,vs,nss,rfl,hl,h64,each,q⟩:=h
 obtain⟨u,rfl,r1⟩:=vals1 r
 cases r1
 obtain⟨its,rv,pl,hz⟩:=I.list hl
 have hlen:its.length=vs.length:=rv.length.symm
 have row:∀h':Heap,(∀b o,s.heap.get? b=some o→h'.get? b=some o)→∀(i:Nat)(v:Value),its[i]? = some v→∃a xs,v=.ref a∧IsTup h' a xs∧IntsAre xs.toList (nss i)∧nss i≠[]:=fun h' k i v e=>by
  obtain⟨x,e1,r2⟩:=Vals.at rv i v e
  obtain⟨a,rfl,ht,ne⟩:=each i x e1
  cases r2
  obtain⟨ys,r3,⟨o,g,rest⟩,_⟩:=I.tuple ht
  exact⟨a,ys.toArray,rfl,⟨o,k a o g,rest⟩,intsAre_of r3,ne⟩
 refine RB (κ:=tuples' true) (bt:=fun i j=>HT.lexLt (nss i) (nss j)) (vs:=its) pl.isList (by omega) (fun h' k _ R hR=>?_) (fun h' k i j hi hj C hC=>?_) fun h' D c k hD g=>?_
 ·obtain⟨fs,kt,lf,ff⟩:=Aag (h:=h') its fun v hv=>by
   obtain⟨i,hi,e⟩:=List.getElem_of_mem hv
   obtain⟨a,xs,e1,t,n,ne⟩:=row h' k i v (by rw[←e];exact List.getElem?_eq_getElem hi)
   exact⟨a,xs,_,e1,t,n,ne⟩
  refine W.kat_kind (s:={s with heap:=h'}) (T:=.type "int") kt (by omega) (fun v hv=>?_) (by decide) hR
  obtain⟨n,t,rfl⟩:=ff v hv
  exact .now
 ·obtain⟨a,xs,e1,t1,n1,_⟩:=row h' k i _ (List.getElem?_eq_getElem hi)
  obtain⟨b,ys,e2,t2,n2,_⟩:=row h' k j _ (List.getElem?_eq_getElem hj)
  have d1:its.getD i Value.none=.ref a:=by simp[List.getD,hi,e1]
  have d2:its.getD j Value.none=.ref b:=by simp[List.getD,hj,e2]
  unfold W.kas_ask
  rw[d1,d2]
  exact Ab6 (s:={s with heap:=h'}) t1 t2 n1 n2 hC
 ·have ib:∀i∈Cw (fun i j=>HT.lexLt (nss i) (nss j)) its.length,i<vs.length:=fun i hi=>by
   have:=(Cp _ _).mem_iff.mp hi
   rw[←hlen]
   exact List.mem_range.mp this
  have vp:=Ng rv _ ib
  rw[hlen]at vp g
  have lz:((Cw (fun i j=>HT.lexLt (nss i) (nss j)) vs.length).map fun i=>vs.getD i V.non).length≤sizeLine:=by
   rw[List.length_map,(Cp _ _).length_eq,List.length_range]
   exact hz
  exact⟨.ref D,_,I.laid (t':=s.toks) k hD (show GZ X.prog X.w _ h' _ (.lst _)from⟨lz,_,c,vp,g⟩),rfl,q _ (I.hok.fresh hD)⟩
def Gb(nss:List (List Int)):List (List Int):=(Cw (fun i j=>HT.lexLt (nss.getD i []) (nss.getD j [])) nss.length).map fun i=>nss.getD i []
theorem Dd(nss:List (List Int)):(Gb nss).Perm nss:=by
 have h:=(Cp (fun i j=>HT.lexLt (nss.getD i []) (nss.getD j [])) nss.length).map fun i=>nss.getD i []
 have e:(List.range nss.length).map (fun i=>nss.getD i [])=nss:=by
  refine List.ext_getElem (by simp) fun i h1 h2=>?_
  simp[List.getD,h2]
 rw[e]at h
 exact h
def XH:DL:=fun ds Q=>∃nss:List (List Int),ds=[.lst (nss.map Cj)]∧nss.length<64∧(∀r∈nss,r≠[])∧Q (.lst ((Gb nss).map Cj))
theorem Wr{K:W.Frag}{H:Hp}{nss:List (List Int)}{vs:List V}(r:RpL K H (nss.map Cj) vs):∀ix:List Nat,(∀i∈ix,i<nss.length)→RpL K H (ix.map fun i=>Cj (nss.getD i [])) (ix.map fun i=>vs.getD i V.non)
 | [],_=>RpL.nil
 | i::ix,h=>by
  have hi:i<nss.length:=h i (.head _)
  have hv:i<vs.length:=by rw[RpL.len' r,List.length_map];exact hi
  obtain⟨d,e1,r1⟩:=RpL.at' i vs[i] r (List.getElem?_eq_getElem hv)
  have e2:d=Cj (nss.getD i []):=by
   rw[List.getElem?_map,List.getElem?_eq_getElem hi]at e1
   cases e1
   simp[List.getD,hi]
  have e3:vs.getD i V.non=vs[i]:=by simp[List.getD,hv]
  rw[List.map_cons,List.map_cons,e3,←e2]
  exact RpL.cons r1 (Wr r ix fun j hj=>h j (.tail _ hj))
theorem AaP{K:W.Frag}:VD K (Adg K) XH where
 mono:=fun hq ⟨nss,e,l,n,h⟩=>⟨nss,e,l,n,hq _ h⟩
 ok:=fun O H ds xs Q hO r ⟨nss,e,l64,ne,h⟩=>by
  subst e
  obtain⟨x,r',rfl,ra,r3⟩:=Ax.mp r
  obtain rfl:=Br.mp r3
  obtain⟨p,vs,rfl,hs,hl⟩:=DY ra
  obtain⟨ll,each⟩:=AeB hl
  refine⟨p,vs,fun i=>nss.getD i [],rfl,(Bw (O:=O) (H:=H)).seq hs,by omega,fun i v e=>?_,fun l hn=>?_⟩
  ·obtain⟨a,ea,ht⟩:=each i v e
   have hi:i<nss.length:=by
    have:=(List.getElem?_eq_some_iff.mp e).1
    omega
   refine⟨a,ea,(Bw (O:=O) (H:=H)).fP ht,ne _ ?_⟩
   have:nss.getD i []=nss[i]:=by simp[List.getD,hi]
   show nss.getD i []∈nss
   rw[this]
   exact List.getElem_mem hi
  ·have nl:l∉O:=fun z=>hO l z hn
   refine h _ _ (Same.upd hn) (Ji ⟨l,_,rfl,Iu nl,?_⟩)
   have rp:=Wr hl (Cw (fun i j=>HT.lexLt (nss.getD i []) (nss.getD j [])) nss.length) fun i hi=>List.mem_range.mp ((Cp _ _).mem_iff.mp hi)
   have em:(Gb nss).map Cj=(Cw (fun i j=>HT.lexLt (nss.getD i []) (nss.getD j [])) nss.length).map fun i=>Cj (nss.getD i []):=by
    unfold Gb
    rw[List.map_map]
    rfl
   rw[em,ll]
   exact rp.mono (Same.upd hn).mask
theorem Qz{a:Expr}{tl:DTA}{p pos:Pos}(hm:X.mg "sorted"=none)(ha:DA X [a] tl)(hg:Gl X "sorted":=by rfl)(hv:bootBuiltins "sorted"=some (.builtin "sorted"):=by rfl)(he:starEach [a] X.env=(false,eval a X.env)::starEach [] X.env:=by rfl)
  (hpl:(backTo pos (starEach [] X.env)).any (·.1)=false:=by rfl):DE X (.Call (.Name "sorted" p) [a] [] pos) (dCB XH tl):=R0 Xn AaP hg hm hv ha (he:=he) (hpl:=hpl)
end L2
namespace L2
open PySem Spec PyProof.Rows
open PySem.W (KasT kas_asc kas_desc kas_tail3 kas_descPart kas_count kas_place kas_bin kas_sort kas_rev)
theorem Gf{α β:Type}(bt:Nat→Nat→Bool)(f:α→KasT β):∀t:KasT α,Am bt (t.bind f)=Am bt (f (Am bt t))
 |.ret _=>rfl
 |.ask i j k=>Gf bt f (k (bt i j))
structure Lr(bt:Nat→Nat→Bool):Prop where
 asy:∀i j,bt i j=true→bt j i=false
 neg:∀i j k,bt j i=false→bt k j=false→bt k i=false
theorem Lr.irr{bt:Nat→Nat→Bool}(O:Lr bt)(i:Nat):bt i i=false:=by
 cases h:bt i i
 ·rfl
 ·have:=O.asy i i h
  rw[h]at this
  exact this
abbrev gt(p:Array Nat)(i:Nat):Nat:=p.getD i 0
theorem Ih{p:Array Nat}{i j:Nat}(hj:j≤p.size)(k:Nat):gt (kas_rev p i j) k=if i≤k∧k<j then gt p (i+j-1-k)else gt p k:=by
 have h:=getElem?_mirror_all (xs:=p) (i:=i) hj k
 unfold gt kas_rev
 simp only[Array.getD_eq_getD_getElem?]
 rw[h]
 split<;>rfl
theorem Hu(p:Array Nat)(i j:Nat):(kas_rev p i j).size=p.size:=mirror_size _ _ _ _
theorem Ado{p:Array Nat}{src d:Nat}(hs:src<p.size)(hd:d≤src)(k:Nat):gt (bubble p src d) k=if k=src-d then gt p src else if src-d<k∧k≤src then gt p (k-1)else gt p k:=by
 have h:=getElem?_bubble (xs:=p) hs d hd k
 unfold gt
 simp only[Array.getD_eq_getD_getElem?]
 rw[h]
 repeat' split
 all_goals first|rfl|(exfalso;omega)|(congr 2;omega)
section
variable{bt:Nat→Nat→Bool}(O:Lr bt)
def Up(bt:Nat→Nat→Bool)(p:Array Nat)(m:Nat):Prop:=∀i j,i<j→j<m→bt (gt p j) (gt p i)=false
def Dn(bt:Nat→Nat→Bool)(p:Array Nat)(m:Nat):Prop:=∀i j,i<j→j<m→bt (gt p i) (gt p j)=false
def Fl(bt:Nat→Nat→Bool)(p:Array Nat)(m q:Nat):Prop:=∀i j,m≤i+q+1→i<m→m≤j+q+1→j<m→bt (gt p i) (gt p j)=false
include O
theorem Up.succ{p:Array Nat}{m:Nat}(h:Up bt p m)(m0:0<m)(hb:bt (gt p m) (gt p (m-1))=false):Up bt p (m+1):=fun i j hi hj=>by
 by_cases e:j=m
 ·subst e
  by_cases e2:i=j-1
  ·subst e2;exact hb
  ·exact O.neg _ (gt p (j-1)) _ (h i (j-1) (by omega) (by omega)) hb
 ·exact h i j hi (by omega)
theorem Dn.succ{p:Array Nat}{m:Nat}(h:Dn bt p m)(m0:0<m)(hb:bt (gt p (m-1)) (gt p m)=false):Dn bt p (m+1):=fun i j hi hj=>by
 by_cases e:j=m
 ·subst e
  by_cases e2:i=j-1
  ·subst e2;exact hb
  ·exact O.neg _ (gt p (j-1)) _ hb (h i (j-1) (by omega) (by omega))
 ·exact h i j hi (by omega)
theorem Yw{p:Array Nat}:∀f m,0<m→Up bt p m→Up bt p (Am bt (kas_asc p f m))∧m≤Am bt (kas_asc p f m)∧Am bt (kas_asc p f m)≤m+f∧(Am bt (kas_asc p f m)<m+f→bt (gt p (Am bt (kas_asc p f m))) (gt p (Am bt (kas_asc p f m)-1))=true)
 |0,m,_,h=>⟨h,Nat.le_refl _,Nat.le_refl _,fun z=>absurd z (Nat.lt_irrefl _)⟩
 | f+1,m,m0,h=>by
  have e:Am bt (kas_asc p (f+1) m)=if bt (gt p m) (gt p (m-1))=true then m else Am bt (kas_asc p f (m+1)):=by
   show Am bt (if bt (gt p m) (gt p (m-1))=true then KasT.ret m else kas_asc p f (m+1))=_
   split<;>rfl
  rw[e]
  by_cases hb:bt (gt p m) (gt p (m-1))=true
  ·rw[if_pos hb]
   exact⟨h,Nat.le_refl _,by omega,fun _=>hb⟩
  ·rw[if_neg hb]
   obtain⟨a,b,c,d⟩:=Yw f (m+1) (by omega) (Up.succ O h m0 (by simpa using hb))
   exact⟨a,by omega,by omega,fun z=>d (by omega)⟩
theorem Dn.rev{p:Array Nat}{m q:Nat}(hs:m≤p.size)(hq:q<m)(h:Dn bt p m)(hf:Fl bt p m q):Dn bt (kas_rev p (m-(q+1)) m) m∧Fl bt (kas_rev p (m-(q+1)) m) m q:=by
 refine⟨fun i j hi hj=>?_,fun i j hi1 hi2 hj1 hj2=>?_⟩
 ·rw[Ih hs,Ih hs]
  by_cases e1:m-(q+1)≤i∧i<m
  ·rw[if_pos e1,if_pos (by omega)]
   exact hf _ _ (by omega) (by omega) (by omega) (by omega)
  ·rw[if_neg e1]
   by_cases e2:m-(q+1)≤j∧j<m
   ·rw[if_pos e2]
    exact h _ _ (by omega) (by omega)
   ·rw[if_neg e2]
    exact h _ _ hi hj
 ·rw[Ih hs,Ih hs,if_pos (by omega),if_pos (by omega)]
  exact hf _ _ (by omega) (by omega) (by omega) (by omega)
theorem O8:∀(f:Nat)(p:Array Nat)(m q:Nat),m+f≤p.size→q<m→Dn bt p m→Fl bt p m q →
  Dn bt (Am bt (kas_desc f p m q)).1 (Am bt (kas_desc f p m q)).2.1∧Fl bt (Am bt (kas_desc f p m q)).1 (Am bt (kas_desc f p m q)).2.1 (Am bt (kas_desc f p m q)).2.2∧m≤(Am bt (kas_desc f p m q)).2.1∧(Am bt (kas_desc f p m q)).2.1≤m+f∧(Am bt (kas_desc f p m q)).2.2<(Am bt (kas_desc f p m q)).2.1∧(Am bt (kas_desc f p m q)).1.size=p.size
 |0,p,m,q,hs,hq,h,hf=>⟨h,hf,Nat.le_refl _,Nat.le_refl _,hq,rfl⟩
 | f+1,p,m,q,hs,hq,h,hf=>by
  have one:∀p:Array Nat,Dn bt p (m+1)→Fl bt p (m+1) 0:=fun p _ i j h1 h2 h3 h4=>by
   have:i=j:=by omega
   subst this
   exact O.irr _
  have e:Am bt (kas_desc (f+1) p m q)=if bt (gt p m) (gt p (m-1))=true then(if q>0 then Am bt (kas_desc f (kas_rev p (m-(q+1)) m) (m+1) 0)else Am bt (kas_desc f p (m+1) 0))
    else if bt (gt p (m-1)) (gt p m)=true then(p,m,q)else Am bt (kas_desc f p (m+1) (q+1)):=by
   show Am bt (if bt (gt p m) (gt p (m-1))=true then(if q>0 then kas_desc f (kas_rev p (m-(q+1)) m) (m+1) 0 else kas_desc f p (m+1) 0)else KasT.ask (gt p (m-1)) (gt p m) fun d=>if d=true then .ret (p,m,q)else kas_desc f p (m+1) (q+1))=_
   split
   ·split<;>rfl
   ·show Am bt (if bt (gt p (m-1)) (gt p m)=true then KasT.ret (p,m,q)else kas_desc f p (m+1) (q+1))=_
    split<;>rfl
  rw[e]
  by_cases hb:bt (gt p m) (gt p (m-1))=true
  ·rw[if_pos hb]
   by_cases q0:q>0
   ·rw[if_pos q0]
    obtain⟨d1,f1⟩:=Dn.rev O (by omega) hq h hf
    have hm:bt (gt (kas_rev p (m-(q+1)) m) (m-1)) (gt (kas_rev p (m-(q+1)) m) m)=false:=by
     rw[Ih (by omega),Ih (by omega),if_pos (by omega),if_neg (by omega)]
     refine O.asy _ _ ?_
     cases hx:bt (gt p m) (gt p (m-(q+1)+m-1-(m-1)))
     ·have h1:=hf (m-(q+1)+m-1-(m-1)) (m-1) (by omega) (by omega) (by omega) (by omega)
      have:=O.neg _ _ _ h1 hx
      rw[hb]at this
      cases this
     ·rfl
    have d2:=Dn.succ O d1 (by omega) hm
    obtain⟨a1,a2,a3,a4,a5,a6⟩:=O8 f _ (m+1) 0 (by rw[Hu];omega) (by omega) d2 (one _ d2)
    exact⟨a1,a2,by omega,by omega,a5,by rw[a6,Hu]⟩
   ·rw[if_neg q0]
    have d2:=Dn.succ O h (by omega) (O.asy _ _ hb)
    obtain⟨a1,a2,a3,a4,a5,a6⟩:=O8 f p (m+1) 0 (by omega) (by omega) d2 (one _ d2)
    exact⟨a1,a2,by omega,by omega,a5,a6⟩
  ·rw[if_neg hb]
   by_cases hc:bt (gt p (m-1)) (gt p m)=true
   ·rw[if_pos hc]
    exact⟨h,hf,Nat.le_refl _,by show m≤m+(f+1);omega,hq,rfl⟩
   ·rw[if_neg hc]
    have hb':bt (gt p m) (gt p (m-1))=false:=by simpa using hb
    have hc':bt (gt p (m-1)) (gt p m)=false:=by simpa using hc
    have d2:=Dn.succ O h (by omega) hc'
    obtain⟨a1,a2,a3,a4,a5,a6⟩:=O8 f p (m+1) (q+1) (by omega) (by omega) d2 (fun i j h1 h2 h3 h4=>by
     by_cases ei:i=m
     ·subst ei
      by_cases ej:j=i
      ·subst ej;exact O.irr _
      ·exact O.neg _ (gt p (i-1)) _ (hf (i-1) j (by omega) (by omega) (by omega) (by omega)) hb'
     ·by_cases ej:j=m
      ·subst ej
       exact O.neg _ (gt p (j-1)) _ hc' (hf i (j-1) (by omega) (by omega) (by omega) (by omega))
      ·exact hf i j (by omega) (by omega) (by omega) (by omega))
    exact⟨a1,a2,by omega,by omega,a5,a6⟩
theorem Z4{p:Array Nat}{m k:Nat}(m0:0<m)(hs:k≤p.size)(hm:m≤k)(h:Dn bt p m):Up bt (Am bt (kas_tail3 m k p)).2 (Am bt (kas_tail3 m k p)).1∧m≤(Am bt (kas_tail3 m k p)).1∧(Am bt (kas_tail3 m k p)).1≤k∧(Am bt (kas_tail3 m k p)).2.size=p.size:=by
 have u:Up bt (kas_rev p 0 m) m:=fun i j hi hj=>by
  rw[Ih (by omega),Ih (by omega),if_pos (by omega),if_pos (by omega)]
  exact h _ _ (by omega) (by omega)
 have e:Am bt (kas_tail3 m k p)=(Am bt (kas_asc (kas_rev p 0 m) (k-m) m),kas_rev p 0 m):=Gf bt _ _
 rw[e]
 obtain⟨a,b,c,_⟩:=Yw O (k-m) m m0 u
 exact⟨a,b,by show Am bt (kas_asc (kas_rev p 0 m) (k-m) m)≤k;omega,Hu _ _ _⟩
theorem ZK{p:Array Nat}{m k:Nat}(m0:0<m)(hs:k≤p.size)(hm:m<k)(h:Dn bt p (m+1)):Up bt (Am bt (kas_descPart m k p)).2 (Am bt (kas_descPart m k p)).1∧0<(Am bt (kas_descPart m k p)).1∧(Am bt (kas_descPart m k p)).1≤k∧(Am bt (kas_descPart m k p)).2.size=p.size:=by
 obtain⟨a1,a2,a3,a4,a5,a6⟩:=O8 O (k-(m+1)) p (m+1) 0 (by omega) (by omega) h (fun i j h1 h2 h3 h4=>by
  have:i=j:=by omega
  subst this
  exact O.irr _)
 have e:Am bt (kas_descPart m k p)=Am bt (if(Am bt (kas_desc (k-(m+1)) p (m+1) 0)).2.2>0 then kas_tail3 (Am bt (kas_desc (k-(m+1)) p (m+1) 0)).2.1 k (kas_rev (Am bt (kas_desc (k-(m+1)) p (m+1) 0)).1 ((Am bt (kas_desc (k-(m+1)) p (m+1) 0)).2.1-((Am bt (kas_desc (k-(m+1)) p (m+1) 0)).2.2+1)) (Am bt (kas_desc (k-(m+1)) p (m+1) 0)).2.1)
   else kas_tail3 (Am bt (kas_desc (k-(m+1)) p (m+1) 0)).2.1 k (Am bt (kas_desc (k-(m+1)) p (m+1) 0)).1):=Gf bt _ _
 rw[e]
 generalize Am bt (kas_desc (k-(m+1)) p (m+1) 0)=r at *
 obtain⟨p1,n1,q1⟩:=r
 dsimp only at *
 split
 ·obtain⟨d1,_⟩:=Dn.rev O (by omega) a5 a1 a2
  obtain⟨b1,b2,b3,b4⟩:=Z4 O (p:=kas_rev p1 (n1-(q1+1)) n1) (m:=n1) (k:=k) (by omega) (by rw[Hu];omega) (by omega) d1
  exact⟨b1,by omega,b3,by rw[b4,Hu,a6]⟩
 ·obtain⟨b1,b2,b3,b4⟩:=Z4 O (p:=p1) (m:=n1) (k:=k) (by omega) (by omega) (by omega) a1
  exact⟨b1,by omega,b3,by rw[b4,a6]⟩
theorem AcP{p:Array Nat}{k:Nat}(k0:0<k)(hs:k≤p.size):Up bt (Am bt (kas_count k p)).2 (Am bt (kas_count k p)).1∧0<(Am bt (kas_count k p)).1∧(Am bt (kas_count k p)).1≤k∧(Am bt (kas_count k p)).2.size=p.size:=by
 obtain⟨a1,a2,a3,a4⟩:=Yw O (p:=p) (k-1) 1 (by omega) (fun i j h1 h2=>by omega)
 have e:Am bt (kas_count k p)=Am bt (if((Am bt (kas_asc p (k-1) 1))==k)=true then .ret ((Am bt (kas_asc p (k-1) 1)),p)else if(Am bt (kas_asc p (k-1) 1))>1 then .ask (gt p 0) (gt p ((Am bt (kas_asc p (k-1) 1))-1)) fun c=>if c=true then .ret ((Am bt (kas_asc p (k-1) 1)),p)else kas_descPart (Am bt (kas_asc p (k-1) 1)) k (kas_rev p 0 (Am bt (kas_asc p (k-1) 1)))
   else kas_descPart (Am bt (kas_asc p (k-1) 1)) k p):=Gf bt _ _
 rw[e]
 generalize Am bt (kas_asc p (k-1) 1)=m at *
 split
 ·exact⟨a1,by show 0<m;omega,by show m≤k;omega,rfl⟩
 ·rename_i hne
  have hlt:m<k:=by
   have:m≠k:=by simpa using hne
   omega
  have hb:=a4 (by omega)
  split
  ·rename_i m1
   show Up bt (Am bt (if bt (gt p 0) (gt p (m-1))=true then KasT.ret (m,p)else kas_descPart m k (kas_rev p 0 m))).2 (Am bt (if bt (gt p 0) (gt p (m-1))=true then KasT.ret (m,p)else kas_descPart m k (kas_rev p 0 m))).1∧0<(Am bt (if bt (gt p 0) (gt p (m-1))=true then KasT.ret (m,p)else kas_descPart m k (kas_rev p 0 m))).1∧(Am bt (if bt (gt p 0) (gt p (m-1))=true then KasT.ret (m,p)else kas_descPart m k (kas_rev p 0 m))).1≤k∧(Am bt (if bt (gt p 0) (gt p (m-1))=true then KasT.ret (m,p)else kas_descPart m k (kas_rev p 0 m))).2.size=p.size
   by_cases hc:bt (gt p 0) (gt p (m-1))=true
   ·rw[if_pos hc]
    exact⟨a1,by show 0<m;omega,by show m≤k;omega,rfl⟩
   ·rw[if_neg hc]
    have hc':bt (gt p 0) (gt p (m-1))=false:=by simpa using hc
    have fl:∀i j,i<m→j<m→bt (gt p i) (gt p j)=false:=fun i j hi hj=>by
     have hU:∀i j,i≤j→j<m→bt (gt p j) (gt p i)=false:=fun i j h1 h2=>by
      by_cases e:i=j
      ·subst e;exact O.irr _
      ·exact a1 i j (by omega) h2
     have x1:=hU 0 i (by omega) hi
     by_cases h:i≤j
     ·exact O.neg _ (gt p 0) _ (O.neg _ (gt p (m-1)) _ (hU j (m-1) (by omega) (by omega)) hc') x1
     ·exact hU j i (by omega) hi
    have d:Dn bt (kas_rev p 0 m) (m+1):=fun i j hi hj=>by
     rw[Ih (by omega),Ih (by omega),if_pos (by omega)]
     by_cases ej:j<m
     ·rw[if_pos (by omega)]
      exact fl _ _ (by omega) (by omega)
     ·rw[if_neg (by omega)]
      obtain rfl:j=m:=by omega
      exact O.neg _ (gt p (j-1)) _ (O.asy _ _ hb) (fl _ _ (by omega) (by omega))
    obtain⟨b1,b2,b3,b4⟩:=ZK O (p:=kas_rev p 0 m) (m:=m) (k:=k) (by omega) (by rw[Hu];exact hs) hlt d
    exact⟨b1,b2,b3,by rw[b4,Hu]⟩
  ·have e1:m=1:=by omega
   subst e1
   have d:Dn bt p (1+1):=fun i j hi hj=>by
    obtain rfl:i=0:=by omega
    obtain rfl:j=1:=by omega
    exact O.asy _ _ hb
   exact ZK O (by omega) hs hlt d
theorem up_place{p:Array Nat}{k:Nat}(h:Up bt p k):∀f l r,r≤l+f→l≤r→r≤k→(∀i,i<l→bt (gt p k) (gt p i)=false)→(∀i,r≤i→i<k→bt (gt p i) (gt p k)=false) →
  (∀i,i<Am bt (kas_place p k f l r)→bt (gt p k) (gt p i)=false)∧(∀i,Am bt (kas_place p k f l r)≤i→i<k→bt (gt p i) (gt p k)=false)∧Am bt (kas_place p k f l r)≤k
 | 0,l,r,hf,hl,hr,h1,h2=>by
  obtain rfl:l=r:=by omega
  exact⟨h1,h2,hr⟩
 | f+1,l,r,hf,hl,hr,h1,h2=>by
  by_cases hlr:l≥r
  ·have e:Am bt (kas_place p k (f+1) l r)=l:=by
    show Am bt (if l≥r then _ else _)=_
    rw[if_pos hlr]
    rfl
   rw[e]
   obtain rfl:l=r:=by omega
   exact⟨h1,h2,hr⟩
  ·have e:Am bt (kas_place p k (f+1) l r)=if bt (gt p k) (gt p ((l+r) / 2))=true then Am bt (kas_place p k f l ((l+r) / 2))else Am bt (kas_place p k f ((l+r) / 2+1) r):=by
    show Am bt (if l≥r then _ else _)=_
    rw[if_neg hlr]
    show Am bt (if bt (gt p k) (gt p ((l+r) / 2))=true then _ else _)=_
    split<;>rfl
   rw[e]
   have hU:∀i j,i≤j→j<k→bt (gt p j) (gt p i)=false:=fun i j h1 h2=>by
    by_cases e:i=j
    ·subst e;exact O.irr _
    ·exact h i j (by omega) h2
   by_cases hb:bt (gt p k) (gt p ((l+r) / 2))=true
   ·rw[if_pos hb]
    exact up_place h f l _ (by omega) (by omega) (by omega) h1 (fun i hi hk=>O.neg _ (gt p ((l+r) / 2)) _ (O.asy _ _ hb) (hU _ _ hi hk))
   ·rw[if_neg hb]
    have hb':bt (gt p k) (gt p ((l+r) / 2))=false:=by simpa using hb
    exact up_place h f _ r (by omega) (by omega) hr (fun i hi=>O.neg _ (gt p ((l+r) / 2)) _ (hU _ _ (by omega) (by omega)) hb') h2
theorem Acm:∀(f:Nat)(p:Array Nat)(k:Nat),k+f≤p.size→Up bt p k→Up bt (Am bt (kas_bin f p k)) (k+f)
 |0,p,k,_,h=>h
 | f+1,p,k,hs,h=>by
  have e:Am bt (kas_bin (f+1) p k)=Am bt (kas_bin f (bubble p k (k-Am bt (kas_place p k k 0 k))) (k+1)):=Gf bt _ _
  rw[e]
  obtain⟨a,b,c⟩:=up_place O h k 0 k (by omega) (by omega) (Nat.le_refl _) (fun i hi=>absurd hi (by omega)) (fun i h1 h2=>absurd h1 (by omega))
  generalize Am bt (kas_place p k k 0 k)=l at *
  have u:Up bt (bubble p k (k-l)) (k+1):=fun i j hi hj=>by
   rw[Ado (by omega) (by omega),Ado (by omega) (by omega)]
   have el:k-(k-l)=l:=by omega
   rw[el]
   repeat' split
   all_goals first
    |(exfalso;omega)
    |exact h _ _ (by omega) (by omega)
    |exact a _ (by omega)
    |exact b _ (by omega) (by omega)
  have:=Acm f _ (k+1) (by rw[bubble_size];omega) u
  rw[show k+(f+1)=k+1+f by omega]
  exact this
theorem Aga(n:Nat):Up bt (Am bt (kas_sort n)) n:=by
 by_cases n0:n=0
 ·subst n0
  exact fun i j _ h=>absurd h (by omega)
 have e:Am bt (kas_sort n)=Am bt (if(Am bt (kas_count n (Rg n))).1<n then kas_bin (n-max (Am bt (kas_count n (Rg n))).1 1) (Am bt (kas_count n (Rg n))).2 (max (Am bt (kas_count n (Rg n))).1 1)else .ret (Am bt (kas_count n (Rg n))).2):=Gf bt _ _
 rw[e]
 have sz:(Rg n).size=n:=by simp
 obtain⟨a,b,c,d⟩:=AcP O (p:=Rg n) (k:=n) (by omega) (by omega)
 generalize Am bt (kas_count n (Rg n))=r at *
 obtain⟨m,p⟩:=r
 dsimp only at *
 split
 ·rw[show max m 1=m by omega]
  have:=Acm O (n-m) p m (by omega) a
  rw[show m+(n-m)=n by omega]at this
  exact this
 ·rw[show n=m by omega]
  exact a
end
theorem Aba{bt:Nat→Nat→Bool}(O:Lr bt)(n:Nat):(Cw bt n).Pairwise fun i j=>bt j i=false:=by
 have u:=Aga O n
 have hp:(Cw bt n).length=n:=by
  have:=(Cp bt n).length_eq
  simpa using this
 rw[List.pairwise_iff_getElem]
 intro i j hi hj hij
 have:=u i j hij (by omega)
 unfold Cw at hi hj ⊢
 simp only[gt,Array.getD_eq_getD_getElem?]at this
 rw[Array.length_toList]at hi hj
 rw[Array.getElem?_eq_getElem hi,Array.getElem?_eq_getElem hj]at this
 simpa using this
end L2
namespace L2
open PySem Spec PyProof.Rows
theorem QB(x y:Int)(a b:List Int):HT.lexLt (x::a) (y::b)=if x=y then HT.lexLt a b else decide (x<y):=by
 simp only[HT.lexLt]
theorem Zf:∀a b:List Int,HT.lexLt a b=true→HT.lexLt b a=false
 | [],[],h=>by simp[HT.lexLt]at h
 | [],_::_,_=>by simp[HT.lexLt]
 |_::_,[],h=>by simp[HT.lexLt]at h
 | x::a,y::b,h=>by
  rw[QB]at h ⊢
  by_cases e:x=y
  ·subst e
   rw[if_pos rfl]at h ⊢
   exact Zf a b h
  ·rw[if_neg e]at h
   rw[if_neg (fun z=>e z.symm)]
   have:x<y:=by simpa using h
   simp only[decide_eq_false_iff_not]
   omega
theorem Zd:∀a b c:List Int,HT.lexLt b a=false→HT.lexLt c b=false→HT.lexLt c a=false
 | [],b,c,h1,h2=>by cases c<;>simp[HT.lexLt]
 |x::a,[],c,h1,h2=>by simp[HT.lexLt]at h1
 |x::a,y::b,[],h1,h2=>by simp[HT.lexLt]at h2
 | x::a,y::b,z::c,h1,h2=>by
  rw[QB]at h1 h2 ⊢
  by_cases e1:y=x
  ·subst e1
   rw[if_pos rfl]at h1
   by_cases e2:z=y
   ·subst e2
    rw[if_pos rfl]at h2 ⊢
    exact Zd a b c h1 h2
   ·rw[if_neg e2]at h2 ⊢
    exact h2
  ·rw[if_neg e1]at h1
   have q1:¬y<x:=by simpa using h1
   by_cases e2:z=y
   ·subst e2
    rw[if_neg e1]
    exact h1
   ·rw[if_neg e2]at h2
    have q2:¬z<y:=by simpa using h2
    rw[if_neg (by omega)]
    simp only[decide_eq_false_iff_not]
    omega
theorem AcO:∀a b:List Int,HT.lexLt a b=false→HT.lexLt b a=false→a=b
 | [],[],_,_=>rfl
 | [],_::_,h,_=>by simp[HT.lexLt]at h
 |_::_,[],_,h=>by simp[HT.lexLt]at h
 | x::a,y::b,h1,h2=>by
  rw[QB]at h1 h2
  by_cases e:x=y
  ·subst e
   rw[if_pos rfl]at h1 h2
   rw[AcO a b h1 h2]
  ·rw[if_neg e]at h1
   rw[if_neg (fun z=>e z.symm)]at h2
   have q1:¬x<y:=by simpa using h1
   have q2:¬y<x:=by simpa using h2
   omega
theorem W4(nss:List (List Int)):Lr fun i j=>HT.lexLt (nss.getD i []) (nss.getD j []):=⟨fun _ _=>Zf _ _,fun _ _ _=>Zd _ _ _⟩
theorem Wv(nss:List (List Int)):(Gb nss).Pairwise fun a b=>HT.lexLt b a=false:=by
 unfold Gb
 rw[List.pairwise_map]
 exact Aba (W4 nss) nss.length
theorem Ahi{a b:List (List Int)}(ha:a.Pairwise fun x y=>HT.lexLt y x=false)(hb:b.Pairwise fun x y=>HT.lexLt y x=false)(p:a.Perm b):a=b :=
 p.eq_of_pairwise (fun x y _ _ h1 h2=>AcO x y h2 h1) ha hb
theorem Wk{a b:List (List Int)}(p:a.Perm b):Gb a=Gb b:=Ahi (Wv a) (Wv b) ((Dd a).trans (p.trans (Dd b).symm))
end L2
namespace L2
open PySem Spec PyProof.Rows SeqAt
section
variable{X:Cx}{e:Expr}{te:DTE}{pos:Pos}
def Ag3(j:Nat):DTS:=fun D ρ=>ownAt ρ j fun _=>D.nx (ρ.set j (some (.own [])))
theorem Air(j:Nat){x:Str}{px ap cp:Pos}(hN:X.N[j]? = some x:=by rfl)(hv:Vis X.env.scope x:=by first | exact Or.inl rfl | exact Or.inr (Or.inl rfl) | exact Or.inr (Or.inr rfl))(hd:(x==("__debug__":Str))=false:=by decide)
  (hcd:(x==("__classdict__":Str))=false:=by decide) (hbase:attributeBase (.Name x px) "clear" X.env (eval (.Name x px) X.env)=eval (.Name x px) X.env:=by rfl)
  (hline:(ap.endLine==cp.line)=true:=by rfl)
  (hs:swapsWith (.Call (.Attribute (.Name x px) "clear" ap) [] [] cp) none pos.line X.env=pure false:=by rfl):DS X (.Expr (.Call (.Attribute (.Name x px) "clear" ap) [] [] cp) pos) (Ag3 j) where
 mono:=fun hd h=>h.mono fun ds h=>hd.nx _ h
 ps:=(Kh (Xi PySem.F.plainAttrs_list PySem.F.slot_list_clear PySem.F.type_list_clear Adu (Ir hN hv hd hcd) hbase hline) hs).imp fun D σ H ⟨B,F,O,ρ,R,h⟩=>by
  obtain⟨ds,e1,h⟩:=h.get
  obtain⟨a,xs,h1,h2,h3,h4,h5⟩:=R.own j ds e1
  exact⟨_,h1,.inl ⟨rfl,_,SqL.of h4⟩,a,xs,rfl,rfl,h4,h O σ _ (R.lX e1 h1 h2 h4 .nil)⟩
end
end L2
namespace L2
open PySem
theorem U4:∀a b:List Int,Dt.eqs (a.map Dt.int) (b.map Dt.int)=decide (a=b)
 | [],[]=>by simp[Dt.eqs]
 | [],_::_=>by simp[Dt.eqs]
 |_::_,[]=>by simp[Dt.eqs]
 | x::a,y::b=>by
  rw[List.map_cons,List.map_cons,Dt.eqs,U4 a b,Dt.eq]
  by_cases e:x=y
  ·by_cases e2:a=b<;>simp[e,e2]
  ·simp[e]
theorem Ly:∀a b:List (List Int),Dt.eqs (a.map Cj) (b.map Cj)=decide (a=b)
 | [],[]=>by simp[Dt.eqs]
 | [],_::_=>by simp[Dt.eqs]
 |_::_,[]=>by simp[Dt.eqs]
 | x::a,y::b=>by
  rw[List.map_cons,List.map_cons,Dt.eqs,Ly a b,Dt.eq,U4]
  by_cases e:x=y
  ·by_cases e2:a=b<;>simp[e,e2]
  ·simp[e]
theorem Pr(n:Nat):∀a:List Int,Dt.flats n (a.map Dt.int)=true
 | []=>by simp[Dt.flats]
 |x::a=>by rw[List.map_cons,Dt.flats,Pr n a,Ti];rfl
theorem Ez(n:Nat):∀a:List (List Int),Dt.flats (n+1) (a.map Cj)=true
 | []=>by simp[Dt.flats]
 |x::a=>by rw[List.map_cons,Dt.flats,Ez n a,Dt.flat,Pr];rfl
theorem Sy(n:Nat):∀a:List Int,Dt.dG n (a.map Dt.int)=true
 | []=>W8
 |x::a=>by rw[List.map_cons,Te,Sy n a,Agz];rfl
theorem Rx(n:Nat):∀a:List (List Int),Dt.dG (n+1) (a.map Cj)=true
 | []=>W8
 |x::a=>by rw[List.map_cons,Te,Rx n a,Adm,Sy];rfl
end L2
namespace L2
open PySem Spec PyProof.Rows
open PySem.W (KasT kas_sort)
def Oe:List (List Int)→List (List Int)→Bool
 | [],[]=>false
 | [],_::_=>true
 |_::_,[]=>false
 |a::r,b::s=>if a=b then Oe r s else HT.lexLt a b
abbrev nestD(rs:List (List Int)):Dt:=.tup (rs.map Cj)
inductive Ie(h:Heap):List Value→List (List Int)→Prop
 |nil:Ie h [] []
 |cons {a:Addr} {xs:Array Value} {ns:List Int} {vs:List Value} {rs:List (List Int)} (t:IsTup h a xs) (i:IntsAre xs.toList ns) (r:Ie h vs rs):Ie h (.ref a::vs) (ns::rs)
section
variable{prog:Program}{w:World}{A:Around}{E:Value→Shared→Prop}{s:Shared}
theorem V5(hu:A.units+8<cLine){Q:Bool→Shared→Prop}:∀(vs us:List Value)(rs ss:List (List Int))(i:Nat),Ie s.heap vs rs→Ie s.heap us ss→Q (Oe rs ss) s→W.KatLex prog w A false (decide (vs.length<us.length)) Q (vs.zip us) i s
 |_,_,_,_,_,.nil,.nil,q=>q
 | _,_,_,_,_,.nil,.cons _ _ _,q=>by
  rw[decide_eq_true (by simp)]
  exact W.kat_nil q
 | _,_,_,_,_,.cons _ _ _,.nil,q=>by
  rw[decide_eq_false (by simp)]
  exact W.kat_nil q
 | _,_,_,_,i,.cons (a:=a) (vs:=vs) (rs:=rs) (ns:=ns) t1 i1 h1,.cons (a:=b) (vs:=us) (rs:=ss) (ns:=ms) t2 i2 h2,q=>by
  have q:Q (if ns=ms then Oe rs ss else HT.lexLt ns ms) s:=q
  have e:=Qs (A:=A) (s:=s) t1 t2 i1 i2 hu
  refine W.kat_cons (e prog w _ _ (W.kat_go (fun e=>W.kat_yes ?_) (fun e=>W.kat_no ?_)))
  ·have e:ns=ms:=of_decide_eq_true e
   rw[if_pos e]at q
   have:=V5 hu vs us rs ss (i+1) h1 h2 q
   rw[show decide ((Value.ref a::vs).length<(Value.ref b::us).length)=decide (vs.length<us.length)from decide_eq_decide.mpr (by simp)]
   exact this
  ·have e:¬ns=ms:=of_decide_eq_false e
   rw[if_neg e]at q
   exact W.kat_one _ _ (HT.K9 t1 t2 i1 i2 (by omega) q)
theorem Ab7{x y:Addr}{xs ys:Array Value}{rs ss:List (List Int)}{Q:Bool→Shared→Prop}(hu:A.units+8<cLine)(hx:IsTup s.heap x xs)(hy:IsTup s.heap y ys)(hi:Ie s.heap xs.toList rs)(hj:Ie s.heap ys.toList ss)(q:Q (Oe rs ss) s) :
  wpAny (model prog w) A (keyLt' (tuples' false) (.ref x) (.ref y)) Q E s:=by
 obtain⟨o1,g1,_,n1,d1⟩:=hx
 obtain⟨o2,g2,_,n2,d2⟩:=hy
 have:=V5 (prog:=prog) (w:=w) (A:=A) (Q:=Q) hu xs.toList ys.toList rs ss 0 hi hj q
 exact W.kat_lt g1 d1 g2 d2 (by simpa using this)
end
theorem Vt{h:Heap}:∀its:List Value,(∀v∈its,∃a xs rs,v=.ref a∧IsTup h a xs∧Ie h xs.toList rs∧rs≠[])→∃fs,W.KatTups h its fs∧fs.length=its.length∧∀f∈fs,∃b ys,f=Value.ref b∧IsTup h b ys
 | [],_=>⟨[],W.KatTups.nil,rfl,fun _ z=>by cases z⟩
 | v::its,hv=>by
  obtain⟨fs,k,lf,ff⟩:=Vt its fun x hx=>hv x (.tail _ hx)
  obtain⟨a,xs,rs,rfl,⟨o,g,c,n,d⟩,hi,ne⟩:=hv v (.head _)
  cases hx:xs.toList with
  |nil=>rw[hx]at hi;cases hi;exact absurd rfl ne
  | cons x r =>
   rw[hx]at hi
   cases hi with
   | @cons b ys _ _ _ t i _ =>
    have e0:xs[0]? = some (Value.ref b):=by rw[←Array.getElem?_toList,hx];rfl
    refine⟨.ref b::fs,W.KatTups.cons g c d e0 k,by rw[List.length_cons,List.length_cons,lf],fun f hf=>?_⟩
    rcases List.mem_cons.mp hf with rfl|hf
    ·exact⟨b,ys,rfl,t⟩
    ·exact ff f hf
inductive KJ(K:W.Frag)(H:Hp):List V→List (List Int)→Prop
 |nil:KJ K H [] []
 |cons {a:Addr} {ns:List Int} {vs:List V} {rs:List (List Int)} (t:SqT K H a (ns.map V.int)) (r:KJ K H vs rs):KJ K H (.ref a::vs) (ns::rs)
section
variable{X:Cx}
def AcD(K:W.Frag):List V→Hp→VK→Prop:=fun xs H Q=>∃p vs,∃nss:Nat→List (List Int),xs=[.ref p]∧SqL K H p vs∧vs.length<64∧(∀(i:Nat)(v:V),vs[i]? = some v→∃a ws,v=.ref a∧SqT K H a ws∧KJ K H ws (nss i)∧nss i≠[]) ∧
 ∀l,H l=none→Q (.ref l) (upd H l (.lst ((Cw (fun i j=>Oe (nss i) (nss j)) vs.length).map fun i=>vs.getD i V.non)))
theorem Yg(hu:X.A.in1.in1.units+8<cLine):JH X (.builtin "sorted") (AcD X.K):=by
 intro pins s σ H xs us Q I r h
 obtain⟨p,vs,nss,rfl,hl,h64,each,q⟩:=h
 obtain⟨u,rfl,r1⟩:=vals1 r
 cases r1
 obtain⟨its,rv,pl,hz⟩:=I.list hl
 have hlen:its.length=vs.length:=rv.length.symm
 have on:∀h':Heap,(∀b o,s.heap.get? b=some o→h'.get? b=some o)→∀{ws:List V} {rs:List (List Int)} {us:List Value},KJ X.K H ws rs→Vals ws us→Ie h' us rs:=fun h' k {ws rs us} ra=>by
  induction ra generalizing us with
  | nil =>
   intro rv
   cases rv
   exact .nil
  | @cons a ns vs rs t _ ih =>
   intro rv
   cases rv with
   | cons r1 r2 =>
    cases r1
    obtain⟨ys,r3,⟨o,g,rest⟩,_⟩:=I.tuple t
    exact .cons ⟨o,k a o g,rest⟩ (intsAre_of r3) (ih r2)
 have row:∀h':Heap,(∀b o,s.heap.get? b=some o→h'.get? b=some o)→∀(i:Nat)(v:Value),its[i]? = some v→∃a xs,v=.ref a∧IsTup h' a xs∧Ie h' xs.toList (nss i)∧nss i≠[]:=fun h' k i v e=>by
  obtain⟨x,e1,r2⟩:=Vals.at rv i v e
  obtain⟨a,ws,rfl,ht,ra,ne⟩:=each i x e1
  cases r2
  obtain⟨ys,r3,⟨o,g,rest⟩,_⟩:=I.tuple ht
  exact⟨a,ys.toArray,rfl,⟨o,k a o g,rest⟩,on h' k ra r3,ne⟩
 refine RB (κ:=tuples' false) (bt:=fun i j=>Oe (nss i) (nss j)) (vs:=its) pl.isList (by omega) (fun h' k _ R hR=>?_) (fun h' k i j hi hj C hC=>?_) fun h' D c k hD g=>?_
 ·obtain⟨fs,kt,lf,ff⟩:=Vt (h:=h') its fun v hv=>by
   obtain⟨i,hi,e⟩:=List.getElem_of_mem hv
   obtain⟨a,xs,e1,t,n,ne⟩:=row h' k i v (by rw[←e];exact List.getElem?_eq_getElem hi)
   exact⟨a,xs,_,e1,t,n,ne⟩
  refine W.kat_kind (s:={s with heap:=h'}) (T:=.type "tuple") kt (by omega) (fun v hv=>?_) (by decide) hR
  obtain⟨b,ys,rfl,⟨o,g,c,_⟩⟩:=ff v hv
  rw[←c]
  exact(W.Looks.ld g).andThen .now
 ·obtain⟨a,xs,e1,t1,n1,_⟩:=row h' k i _ (List.getElem?_eq_getElem hi)
  obtain⟨b,ys,e2,t2,n2,_⟩:=row h' k j _ (List.getElem?_eq_getElem hj)
  have d1:its.getD i Value.none=.ref a:=by simp[List.getD,hi,e1]
  have d2:its.getD j Value.none=.ref b:=by simp[List.getD,hj,e2]
  unfold W.kas_ask
  rw[d1,d2]
  exact Ab7 (s:={s with heap:=h'}) hu t1 t2 n1 n2 hC
 ·have ib:∀i∈Cw (fun i j=>Oe (nss i) (nss j)) its.length,i<vs.length:=fun i hi=>by
   have:=(Cp _ _).mem_iff.mp hi
   rw[←hlen]
   exact List.mem_range.mp this
  have vp:=Ng rv _ ib
  rw[hlen]at vp g
  have lz:((Cw (fun i j=>Oe (nss i) (nss j)) vs.length).map fun i=>vs.getD i V.non).length≤sizeLine:=by
   rw[List.length_map,(Cp _ _).length_eq,List.length_range]
   exact hz
  exact⟨.ref D,_,I.laid (t':=s.toks) k hD (show GZ X.prog X.w _ h' _ (.lst _)from⟨lz,_,c,vp,g⟩),rfl,q _ (I.hok.fresh hD)⟩
def Vl(nss:List (List (List Int))):List (List (List Int)):=(Cw (fun i j=>Oe (nss.getD i []) (nss.getD j [])) nss.length).map fun i=>nss.getD i []
theorem Js(nss:List (List (List Int))):(Vl nss).Perm nss:=by
 have h:=(Cp (fun i j=>Oe (nss.getD i []) (nss.getD j [])) nss.length).map fun i=>nss.getD i []
 have e:(List.range nss.length).map (fun i=>nss.getD i [])=nss:=by
  refine List.ext_getElem (by simp) fun i h1 h2=>?_
  simp[List.getD,h2]
 rw[e]at h
 exact h
def Xg:DL:=fun ds Q=>∃nss:List (List (List Int)),ds=[.lst (nss.map nestD)]∧nss.length<64∧(∀r∈nss,r≠[])∧Q (.lst ((Vl nss).map nestD))
theorem Z5{K:W.Frag}{H:Hp}:∀{rs:List (List Int)} {vs:List V},RpL K H (rs.map Cj) vs→KJ K H vs rs
 | [],_,h=>by rw[Br.mp h];exact .nil
 | r::rs,_,h=>by
  obtain⟨v,w,rfl,r1,r2⟩:=Ax.mp h
  obtain⟨a,xs,rfl,t,rl⟩:=Dw.mp r1
  rw[ints_of rl]at t
  exact .cons t (Z5 r2)
theorem Agf{K:W.Frag}{H:Hp}{nss:List (List (List Int))}{vs:List V}(h:RpL K H (nss.map nestD) vs):vs.length=nss.length∧∀(i:Nat)(v:V),vs[i]? = some v→∃a ws,v=.ref a∧SqT K H a ws∧KJ K H ws (nss.getD i []):=by
 refine⟨by rw[RpL.len' h,List.length_map],fun i v e=>?_⟩
 obtain⟨d,e1,r⟩:=RpL.at' i v h e
 rw[List.getElem?_map]at e1
 obtain⟨rs,e2,rfl⟩:=Option.map_eq_some_iff.mp e1
 obtain⟨a,xs,rfl,t,rl⟩:=Dw.mp r
 have:nss.getD i []=rs:=by simp[List.getD,e2]
 rw[this]
 exact⟨a,xs,rfl,t,Z5 rl⟩
theorem RG{K:W.Frag}{H:Hp}{nss:List (List (List Int))}{vs:List V}(r:RpL K H (nss.map nestD) vs):∀ix:List Nat,(∀i∈ix,i<nss.length)→RpL K H (ix.map fun i=>nestD (nss.getD i [])) (ix.map fun i=>vs.getD i V.non)
 | [],_=>RpL.nil
 | i::ix,h=>by
  have hi:i<nss.length:=h i (.head _)
  have hv:i<vs.length:=by rw[RpL.len' r,List.length_map];exact hi
  obtain⟨d,e1,r1⟩:=RpL.at' i vs[i] r (List.getElem?_eq_getElem hv)
  have e2:d=nestD (nss.getD i []):=by
   rw[List.getElem?_map,List.getElem?_eq_getElem hi]at e1
   cases e1
   simp[List.getD,hi]
  have e3:vs.getD i V.non=vs[i]:=by simp[List.getD,hv]
  rw[List.map_cons,List.map_cons,e3,←e2]
  exact RpL.cons r1 (RG r ix fun j hj=>h j (.tail _ hj))
theorem Aa0{K:W.Frag}:VD K (AcD K) Xg where
 mono:=fun hq ⟨nss,e,l,n,h⟩=>⟨nss,e,l,n,hq _ h⟩
 ok:=fun O H ds xs Q hO r ⟨nss,e,l64,ne,h⟩=>by
  subst e
  obtain⟨x,r',rfl,ra,r3⟩:=Ax.mp r
  obtain rfl:=Br.mp r3
  obtain⟨p,vs,rfl,hs,hl⟩:=DY ra
  have le:Same (mask O H) H:=Bw (O:=O) (H:=H)
  have hl':=hl.mono le
  obtain⟨ll,each⟩:=Agf hl'
  refine⟨p,vs,fun i=>nss.getD i [],rfl,(Bw (O:=O) (H:=H)).seq hs,by omega,fun i v e=>?_,fun l hn=>?_⟩
  ·obtain⟨a,ws,ea,ht,hr⟩:=each i v e
   have hi:i<nss.length:=by
    have:=(List.getElem?_eq_some_iff.mp e).1
    omega
   refine⟨a,ws,ea,ht,hr,ne _ ?_⟩
   have:nss.getD i []=nss[i]:=by simp[List.getD,hi]
   show nss.getD i []∈nss
   rw[this]
   exact List.getElem_mem hi
  ·have nl:l∉O:=fun z=>hO l z hn
   refine h _ _ (Same.upd hn) (Ji ⟨l,_,rfl,Iu nl,?_⟩)
   have rp:=RG hl (Cw (fun i j=>Oe (nss.getD i []) (nss.getD j [])) nss.length) fun i hi=>List.mem_range.mp ((Cp _ _).mem_iff.mp hi)
   have em:(Vl nss).map nestD=(Cw (fun i j=>Oe (nss.getD i []) (nss.getD j [])) nss.length).map fun i=>nestD (nss.getD i []):=by
    unfold Vl
    rw[List.map_map]
    rfl
   rw[em,ll]
   exact rp.mono (Same.upd hn).mask
theorem Ab1{a:Expr}{tl:DTA}{p pos:Pos}(hm:X.mg "sorted"=none)(hu:X.A.units+64<cLine)(ha:DA X [a] tl)(hg:Gl X "sorted":=by rfl)(hv:bootBuiltins "sorted"=some (.builtin "sorted"):=by rfl)(he:starEach [a] X.env=(false,eval a X.env)::starEach [] X.env:=by rfl)
  (hpl:(backTo pos (starEach [] X.env)).any (·.1)=false:=by rfl):DE X (.Call (.Name "sorted" p) [a] [] pos) (dCB Xg tl):=R0 (Yg (by have:X.A.in1.in1.units=X.A.units+1+1:=rfl;omega)) Aa0 hg hm hv ha (he:=he) (hpl:=hpl)
end
end L2
namespace L2
open PySem Spec PyProof.Rows
variable{X:Cx}
end L2
namespace L2
open PySem Spec PyProof.Rows SeqAt
theorem TJ{us:List Value}{ns:List Int}(h:IntsAre us ns):Vals (ns.map V.int) us:=by
 induction h with
 |nil=>exact .nil
 |cons n t _ ih=>exact .cons ⟨t,rfl⟩ ih
variable{X:Cx}
theorem VN{K:W.Frag}{H:Hp}:∀{ns:List Int} {vs:List V},RpL K H (ns.map Dt.int) vs→vs=ns.map V.int
 | [],_,h=>Br.mp h
 | n::ns,_,h=>by
  obtain⟨v,r,rfl,r2,r3⟩:=Ax.mp h
  rw[Bh.mp r2,VN r3]
  rfl
theorem Qe{K:W.Frag}{H:Hp}:∀ns:List Int,RpL K H (ns.map Dt.int) (ns.map V.int)
 | []=>Br.mpr rfl
 |n::ns=>Ax.mpr ⟨_,_,rfl,Bh.mpr rfl,Qe ns⟩
end L2
namespace L2
open PySem Spec PyProof.Rows SeqAt
section
variable{P:Program}{w:World}
end
section
variable{X:Cx}{pins:List (Addr×Obj)}{σ:St}{H:Hp}{s:Shared}{a b:Addr}{ks:List (List Int)}{xs:List (List Key×Addr×Value)}{A:Around}{E:Value→Shared→Prop}{k:List Int}
end
section
variable{K:W.Frag}{B:Hp}{F O:List Addr}{H:Hp}{σ:St}{ρ:Bv}
end
section
variable{X:Cx}{e:Expr}{te:DTE}{pos:Pos}
end
end L2
namespace L2
open PySem Spec PyProof.Rows
variable{X:Cx}{a b:Expr}{ta tb:DTE}{pos:Pos}
end L2
namespace L2
open PySem Spec PyProof.Rows SeqAt
section
variable{X:Cx}{k:Nat}{f C:Addr}{fd:FuncData}{ps:List Str}{sp:Sp}{x:Str}{p pos:Pos}{e:Expr}{es:List Expr}{t:TA}
end
section
variable{X:Cx}{o e:Expr}{es:List Expr}{tl:DTA}{te:MJ}{pos:Pos}
end
section
variable{X:Cx}{es:List Expr}{pos:Pos}
end
end L2
namespace L2
open PySem Spec PyProof.Rows SeqAt
section
variable{X:Cx}{e o:Expr}{es:List Expr}{t:TA}{pos apos:Pos}
end
section
variable{X:Cx}{e o a b:Expr}{es:List Expr}{te:DTE}{tl:DTA}{tx:MJ}{tb:DTE}{pos apos:Pos}
end
end L2
namespace L2
open PySem Spec PyProof.Rows SeqAt
section
variable{X:Cx}{C U fI:Addr}{e:Expr}{es:List Expr}{p pos:Pos}{t:TA}{tl:DTA}
end
end L2
namespace L2
open PySem Spec PyProof.Rows SeqAt
section
variable{P:Program}{w:World}{H:Hp}{h h':Heap}{a:Addr}{o:HO}
end
section
variable{X:Cx}{C U:Addr}{e:Expr}{es:List Expr}{p pos:Pos}{t:TA}{tl:DTA}{c:Str}{bm:List Value}
end
section
variable{K:W.Frag}{c:Str}{C U A:Addr}{cd:ClassData}
end
section
variable{t1 t2 t3 t4 u:DTS}{D:Ft}{ρ:Bv}
end
end L2
namespace L2
open PySem Spec PyProof.Rows SeqAt
theorem AaX{K:PySem.W.Frag}{sl:List Nat}{dt:DTT}{de:DTE}(mt:∀{ρ Q Q'},(∀d,Q d→Q' d)→dt ρ Q→dt ρ Q')(me:∀{ρ Q Q'},(∀d,Q d→Q' d)→de ρ Q→de ρ Q')
  {B:Hp} {F O:List Addr} {H H1:Hp} {σ:St} {ρ:Bv} {Q:VK} {items:List Dt} {J:It} (R:Rep K B F O H σ ρ) (h:HN sl (fun _ R=>R items) dt de ρ fun d=>∃as,d=.lst as∧∀D H2 acc,Same H H2→H2 D=some (.lst acc)→D∉F++O→RpL K (mask (F++O) H2) as acc→Q (.ref D) H2) (s1:Same H H1) (it:ItD K (mask (F++O) H1) J items) :
  Zz sl (fun _ _ R=>R J H1) (lT K dt) (lE K de) σ H Q:=by
 obtain⟨h1,h2,W,w0,st,fin⟩:=h
 have R1:=R.same s1
 obtain⟨vs,ds,ev,ed,rs⟩:=J2 R1 h2
 refine⟨vs,ev,fun D hD=>?_⟩
 have nD:D∉F++O:=fun z=>R1.th D z hD
 have sM:Same (mask (F++O) H1) (mask (F++O) (upd H1 D (.lst []))):=(Same.upd hD).mask
 refine⟨fun i m acc H2=>m+i=items.length∧H2 D=some (.lst acc)∧acc.length≤i∧Same H1 H2∧∃as,RpL K (mask (D::(F++O)) H2) as acc∧W i as,⟨items.length,by omega,BL,Nat.le_refl _,Same.upd hD,[],RpL.nil,w0⟩,?_⟩
 rintro i m acc H2 ⟨hm,e2,hl,s2,as,ra,w⟩
 have sb:Same (mask (F++O) H1) H2:=fun a o e=>s2 a o (BR e).2
 have sD:Same (mask (F++O) H1) (mask (D::(F++O)) H2):=fun a o e=>by
  obtain⟨q,e⟩:=BR e
  rw[Az fun z=>by
   rcases List.mem_cons.mp z with z|z
   ·rw[z,hD]at e;cases e
   ·exact q z]
  exact s2 a o e
 obtain⟨go,stop⟩:=it H2 sb
 by_cases hlt:i<items.length
 ·refine .inr ⟨(go i items[i] (by simp[hlt])).1,fun z H3 y=>?_⟩
  obtain⟨e,r⟩:=(go i items[i] (by simp[hlt])).2 z H3 y
  subst e
  have th:∀a∈D::(F++O),H3 a≠none:=fun a ha q=>by
   rcases List.mem_cons.mp ha with z|z
   ·rw[z,e2]at q;cases q
   ·have:=R1.th a z
    cases q':H1 a with
    |none=>exact this q'
    |some o=>rw[s2 a o q']at q;cases q
  have R3:=RM th (r.mono sD) (rs.mono sD)
  have ei:some (En.is items[i])::ds.map (fun d=>some (En.is d))=inner sl ρ items[i]:=by unfold inner;rw[ed]
  rw[ei]at R3
  refine⟨_,_,_,_,R3,mt (fun b q H4 s4=>?_) (st i _ as (by simp[hlt]) w)⟩
  cases b with
  | false =>
   refine⟨m-1,by omega,by omega,s4 _ _ e2,by omega,s2.trans s4,as,ra.mono s4.mask,q⟩
  | true =>
   refine⟨_,_,_,_,R3.same s4,me (fun e q v5 H5 s5 r5=>?_) q⟩
   have e5:H5 D=some (.lst acc):=s5 _ _ (s4 _ _ e2)
   have hz:acc.length<sizeLine:=by omega
   have s6:Same (mask (D::(F++O)) H5) (mask (D::(F++O)) (upd H5 D (.lst (acc++[v5])))):=fun a o q=>by
    obtain⟨n,q⟩:=BR q
    rw[Az n,Bm fun z=>n (by rw[z];exact List.mem_cons_self)];exact q
   have em:mask (D::(F++O)++[]) H5=mask (D::(F++O)) H5:=by rw[List.append_nil]
   rw[em]at r5
   refine⟨e5,hz,m-1,by omega,by omega,BL,by simp;omega,fun a o q=>?_,as++[e],(((ra.mono s4.mask).mono s5.mask).append (RpL.cons r5 RpL.nil)).mono s6,q⟩
   rw[Bm (Dc q hD)]
   exact s5 _ _ (s4 _ _ (s2 a o q))
 ·have e:i=items.length:=by omega
  subst e
  obtain⟨as',e',k⟩:=fin as (by rw[←ra.len];exact hl) w
  cases e'
  exact .inl ⟨stop,k D H2 acc (s1.trans s2) e2 nD (ra.mono (Dy fun a h=>List.mem_cons_of_mem _ h))⟩
section
variable{X:Cx}{iter elt:Expr}{px pos:Pos}{scope:Scope}{x:Str}{N:List Str}{sl:List Nat}{tx:MJ}{de:DTE}{ti:DTI}
def AmF(sl:List Nat)(tx:MJ)(de:DTE):MJ:=fun ρ Q E=>tx ρ (fun d=>match d with
 |.lst ds=>HN sl (fun _ R=>R ds) Mg de ρ Q
 |_=>False) E
def AdL(sl:List Nat)(ti:DTI)(de:DTE):DTA:=fun ρ Q=>HN sl ti Mg de ρ fun d=>match d with
 |.lst as=>Q as
 |_=>False
theorem AfN(S:Ef X scope x N sl)(hc:X.calm=true)(hi:DI X (.Name x px) iter ti)(he:∀cl C s₀ H₀ ex,DE (Bo X scope (x::N) cl C s₀ H₀ ex) elt de)
  (hs:∀x,foldedSetIterable iter X.env x=pure x:=by intro _;rfl):DF X (.ListComp elt [⟨.Name x px,iter,[],0⟩] scope pos) (AdL sl ti de):=by
 have me:∀{ρ Q Q'},(∀d,Q d→Q' d)→de ρ Q→de ρ Q':=(he [] 0 X.s₀ X.H₀ []).mono
 refine⟨fun hq h=>hi.mono (fun items ⟨h1,h2,W,w0,st,fin⟩=>⟨h1,h2,W,w0,st,fun acc l w=>hq _ (fin acc l w)⟩) h,?_⟩
 refine(YM (tt:=lT X.K Mg) (te:=lE X.K de) S hc hi.pi (fun cl C s₀ H₀ ex=>YG.pts) (fun cl C s₀ H₀ ex=>(he cl C s₀ H₀ ex).pe) hs).imp ?_
 rintro σ H Q ⟨B,F,O,ρ,R,h⟩
 refine⟨B,F,O,ρ,R,hi.mono (fun items ⟨h1,h2,W,w0,st,fin⟩ J H1 s1 it=>?_) h⟩
 exact @AaX X.K sl Mg de (fun hq h=>hq _ h) (fun hq h=>me hq h) B F O H H1 σ ρ Q _ _ R ⟨h1,h2,W,w0,st,fun acc l w=>⟨acc,rfl,fun D H2 vs s2 e n r=>fin acc l w D H2 vs s2 e n r⟩⟩ s1 it
def AgX(j:Nat)(te:DTA):DTS:=fun D ρ=>ownAt ρ j fun ds=>te ρ fun es=>ds.length+es.length≤sizeLine∧D.nx (ρ.set j (some (.own (ds++es))))
theorem Aib{e:Expr}{te:DTA}{pos:Pos}(j:Nat){x:Str}{px ap cp:Pos}(he:DF X e te)(hN:X.N[j]? = some x:=by rfl)(hv:Vis X.env.scope x:=by first | exact Or.inl rfl | exact Or.inr (Or.inl rfl) | exact Or.inr (Or.inr rfl))(hd:(x==("__debug__":Str))=false:=by decide)
  (hcd:(x==("__classdict__":Str))=false:=by decide) (hbase:attributeBase (.Name x px) "extend" X.env (eval (.Name x px) X.env)=eval (.Name x px) X.env:=by rfl)
  (hfew:((backTo cp (starEach [e] X.env)).all (fun x=>!x.1)&&(backToKw cp (keywordEach [] X.env)).all (fun x=>x.1.isSome)&&decide ([e].length+([]:List Keyword).length+(if([]:List Keyword).isEmpty then 0 else 1)<30))=true:=by rfl)
  (hline:(ap.endLine==cp.line)=true:=by rfl) (hst:starEach [e] X.env=(false,eval e X.env)::starEach [] X.env:=by rfl) (hplain:(backTo cp (starEach [] X.env)).any (·.1)=false:=by rfl)
  (hs:swapsWith (.Call (.Attribute (.Name x px) "extend" ap) [e] [] cp) none pos.line X.env=pure false:=by rfl):DS X (.Expr (.Call (.Attribute (.Name x px) "extend" ap) [e] [] cp) pos) (AgX j te) where
 mono:=fun hd h=>h.mono fun ds h=>he.mono (fun d h=>⟨h.1,hd.nx _ h.2⟩) h
 ps:=(Kh (Ag5 PySem.F.plainAttrs_list PySem.F.slot_list_extend PySem.F.type_list_extend Abk (Ir hN hv hd hcd) (HJ he.pe M6 hst) hbase hfew hline hst hplain) hs).imp fun D σ H ⟨B,F,O,ρ,R,h⟩=>by
  obtain⟨ds,e1,h⟩:=h.get
  obtain⟨a,xs,h1,h2,h3,h4,h5⟩:=R.own j ds e1
  refine⟨_,h1,.inl ⟨rfl,_,SqL.of h4⟩,B,F,O,ρ,R,he.mono (fun es h p H1 vs s1 hp np r1=>?_) h⟩
  exact⟨a,p,xs,vs,rfl,rfl,s1 _ _ h4,hp,by rw[h5.len,r1.len];exact h.1,h.2 O σ _ ((R.same s1).lX e1 h1 h2 (s1 _ _ h4) ((h5.mono s1.mask).append r1))⟩
end
end L2
namespace L2
open PySem Spec PyProof.Rows SeqAt
section
variable{X:Cx}{a:Expr}{ta:DTE}{pos:Pos}
end
end L2
namespace L2
open PySem Spec PyProof.Rows SeqAt
section
variable{X:Cx}{e:Expr}{te:DTE}
end
end L2
namespace L2
open PySem
namespace Tb
def Rs(xs:Array Nat):Prop:=∀i k,i<k→k<xs.size→xs.getD i 0<xs.getD k 0
theorem AeS{xs:Array Nat}{i j:Nat}(h:i<xs.size):xs.getD i j=xs.getD i 0:=by
 simp[Array.getD,h]
theorem TQ{xs:Array Nat}{j:Nat}(R:Rs xs):∀(fuel lo hi:Nat),lo≤hi→hi≤xs.size→hi-lo≤fuel→(∀i,i<lo→xs.getD i 0<j)→(∀i,hi≤i→i<xs.size→j≤xs.getD i 0) →
  SetTable.below.go xs j fuel lo hi≤xs.size∧(∀i,i<SetTable.below.go xs j fuel lo hi→xs.getD i 0<j)∧∀i,SetTable.below.go xs j fuel lo hi≤i→i<xs.size→j≤xs.getD i 0
 | 0,lo,hi,h1,h2,h3,h4,h5=>by
  have:lo=hi:=by omega
  subst this
  exact⟨h2,h4,h5⟩
 | fuel+1,lo,hi,h1,h2,h3,h4,h5=>by
  unfold SetTable.below.go
  by_cases h:lo<hi
  ·rw[if_pos h]
   dsimp only
   have hm:(lo+hi) / 2<hi:=by omega
   have hl:lo≤(lo+hi) / 2:=by omega
   rw[AeS (show(lo+hi) / 2<xs.size by omega)]
   by_cases q:xs.getD ((lo+hi) / 2) 0<j
   ·rw[if_pos q]
    refine TQ R fuel _ _ (by omega) h2 (by omega) (fun i hi'=>?_) h5
    by_cases e:i=(lo+hi) / 2
    ·rw[e];exact q
    ·have:=R i ((lo+hi) / 2) (by omega) (by omega)
     omega
   ·rw[if_neg q]
    refine TQ R fuel _ _ hl (by omega) (by omega) h4 (fun i hi' hs=>?_)
    by_cases e:i=(lo+hi) / 2
    ·rw[e];omega
    ·have:=R ((lo+hi) / 2) i (by omega) hs
     omega
  ·rw[if_neg h]
   have:lo=hi:=by omega
   subst this
   exact⟨h2,h4,h5⟩
theorem Jk{xs:Array Nat}(R:Rs xs)(j:Nat):SetTable.below xs j≤xs.size∧(∀i,i<SetTable.below xs j→xs.getD i 0<j)∧∀i,SetTable.below xs j≤i→i<xs.size→j≤xs.getD i 0 :=
 TQ R xs.size 0 xs.size (Nat.zero_le _) (Nat.le_refl _) (by omega) (fun i h=>by omega) (fun i h1 h2=>by omega)
theorem below_at{xs:Array Nat}(R:Rs xs){k:Nat}(h:k<xs.size):SetTable.below xs (xs.getD k 0)=k:=by
 obtain⟨h1,h2,h3⟩:=Jk R (xs.getD k 0)
 rcases Nat.lt_trichotomy (SetTable.below xs (xs.getD k 0)) k with z|z|z
 ·have:=h3 _ (Nat.le_refl _) (by omega)
  have:=R _ k z h
  omega
 ·exact z
 ·have:=h2 k z
  omega
theorem Xp{xs:Array Nat}(R:Rs xs){k:Nat}(h:k<xs.size):SetTable.below xs (xs.getD k 0+1)=k+1:=by
 obtain⟨h1,h2,h3⟩:=Jk R (xs.getD k 0+1)
 rcases Nat.lt_trichotomy (SetTable.below xs (xs.getD k 0+1)) (k+1)with z|z|z
 ·have:=h3 k (by omega) h
  omega
 ·exact z
 ·have a:=h2 (k+1) z
  have:=R k (k+1) (by omega) (by omega)
  omega
theorem Xk{xs:Array Nat}(R:Rs xs):SetTable.below xs 0=0:=by
 obtain⟨h1,h2,h3⟩:=Jk R 0
 rcases Nat.eq_zero_or_pos (SetTable.below xs 0)with z|z
 ·exact z
 ·have:=h2 0 z
  omega
def Has(xs:Array Nat)(j:Nat):Prop:=∃k,k<xs.size∧xs.getD k 0=j
theorem Wh{xs:Array Nat}{i:Nat}(h:i<xs.size):xs[i]? = some (xs.getD i 0):=by simp[Array.getD,h]
structure Ok(t:SetTable)(n:Nat):Prop where
 rs:Rs t.place
 sz:t.place.size=n
 le:∀k,k<t.place.size→t.place.getD k 0≤t.mask
 nd:t.dummies=#[]
 lt:n≤t.mask
theorem Qv{t:SetTable}{n j:Nat}(h:Ok t n)(hj:¬Has t.place j):t.slot j=.empty:=by
 unfold SetTable.slot
 dsimp only
 have e:(t.place[SetTable.below t.place j]? == some j)=false:=by
  rw[beq_eq_false_iff_ne]
  intro z
  by_cases q:SetTable.below t.place j<t.place.size
  ·rw[Wh q]at z
   exact hj ⟨_,q,Option.some.inj z⟩
  ·rw[Array.getElem?_eq_none (by omega)]at z
   cases z
 rw[e,h.nd]
 rfl
theorem AaM{t:SetTable}{n k:Nat}(h:Ok t n)(hk:k<t.place.size):t.slot (t.place.getD k 0)=.live k:=by
 unfold SetTable.slot
 dsimp only
 rw[below_at h.rs hk,Wh hk]
 simp
theorem XD{t:SetTable}{n:Nat}(h:Ok t n)(j:Nat):(¬Has t.place j∧t.slot j=.empty)∨∃k,k<t.place.size∧t.place.getD k 0=j∧t.slot j=.live k:=by
 by_cases q:Has t.place j
 ·obtain⟨k,hk,rfl⟩:=q
  exact .inr ⟨k,hk,rfl,AaM h hk⟩
 ·exact .inl ⟨q,Qv h q⟩
def orb(M:Nat):Nat→Nat
 |0=>0
 |n+1=>(orb M n*5+1) % M
def SJ(M:Nat):Nat→Nat→Nat→Nat
 |0,_,acc=>acc
 |n+1,x,acc=>SJ M n ((x*5+1) % M) (acc ||| 2 ^ x)
theorem SM{M j:Nat}:∀(n s acc:Nat),(SJ M n (orb M s) acc).testBit j=true→acc.testBit j=true∨∃m,m<n∧orb M (s+m)=j
 |0,s,acc,h=>.inl h
 | n+1,s,acc,h=>by
  unfold SJ at h
  rcases SM n (s+1) _ h with z|⟨m,hm,e⟩
  ·rw[Nat.testBit_or,Bool.or_eq_true]at z
   rcases z with z|z
   ·exact .inl z
   ·right
    refine⟨0,by omega,?_⟩
    rw[Nat.testBit_two_pow]at z
    exact of_decide_eq_true z
  ·exact .inr ⟨m+1,by omega,by rw[←e];congr 1;omega⟩
def Cyc(M:Nat):Prop:=(∀j,j<M→∃m,m<M∧orb M m=j)∧orb M M=0∧0<M∧M % 2=0
theorem Nj{M:Nat}(h1:SJ M M 0 0=2 ^ M-1)(h2:orb M M=0)(h3:0<M)(h4:M % 2=0):Cyc M:=by
 refine⟨fun j hj=>?_,h2,h3,h4⟩
 have e:(SJ M M (orb M 0) 0).testBit j=true:=by
  show(SJ M M 0 0).testBit j=true
  rw[h1,Nat.testBit_two_pow_sub_one]
  exact decide_eq_true hj
 rcases SM M 0 0 e with z|⟨m,hm,e⟩
 ·simp at z
 ·exact⟨m,hm,by rw[←e,Nat.zero_add]⟩
theorem Aae{M:Nat}(h:orb M M=0):∀k,orb M (M+k)=orb M k
 |0=>h
 | k+1=>by
  show(orb M (M+k)*5+1) % M=(orb M k*5+1) % M
  rw[Aae h k]
def XR(M:Nat):Nat→Nat→Nat
 |0,x=>x
 |n+1,x=>XR M n ((x*5+1) % M)
theorem O7(M:Nat):∀n s,XR M n (orb M s)=orb M (s+n)
 |0,s=>rfl
 | n+1,s=>by
  show XR M n (orb M (s+1))=_
  rw[O7 M n (s+1)]
  congr 1
  omega
theorem Aas{M:Nat}(h:XR M M 0=0):orb M M=0:=by
 have:=O7 M M 0
 rw[Nat.zero_add]at this
 rw[←this];exact h
set_option maxRecDepth 1000000 in
theorem Amp:Cyc 8:=Nj (by decide +kernel) (Aas (by decide +kernel)) (by decide) (by decide)
set_option maxRecDepth 1000000 in
theorem Ai4:Cyc 32:=Nj (by decide +kernel) (Aas (by decide +kernel)) (by decide) (by decide)
set_option maxRecDepth 1000000 in
theorem AhH:Cyc 128:=Nj (by decide +kernel) (Aas (by decide +kernel)) (by decide) (by decide)
set_option maxRecDepth 1000000 in
theorem Aim:Cyc 512:=Nj (by decide +kernel) (Aas (by decide +kernel)) (by decide) (by decide)
set_option maxRecDepth 1000000 in
theorem Aef:Cyc 2048:=Nj (by decide +kernel) (Aas (by decide +kernel)) (by decide) (by decide)
set_option maxRecDepth 1000000 in
theorem Aed:Cyc 8192:=Nj (by decide +kernel) (Aas (by decide +kernel)) (by decide) (by decide)
theorem AdZ{M i j:Nat}(c:Cyc M)(hi:i<M)(hj:j<M):∃m,m<M∧XR M m i=j:=by
 obtain⟨h1,h2,h3,_⟩:=c
 obtain⟨a,ha,rfl⟩:=h1 i hi
 obtain⟨b,hb,rfl⟩:=h1 j hj
 by_cases z:a≤b
 ·exact⟨b-a,by omega,by rw[O7];congr 1;omega⟩
 ·refine⟨M+b-a,by omega,?_⟩
  rw[O7,show a+(M+b-a)=M+b by omega,Aae h2]
def lp(mask:Nat):Nat→Nat×Nat→Nat×Nat
 |0,x=>x
 |n+1,x=>lp mask n (SetTable.leap mask x.1 x.2)
theorem AbE(mask:Nat):∀n m x,lp mask (n+m) x=lp mask m (lp mask n x)
 |0,m,x=>by rw[Nat.zero_add];rfl
 | n+1,m,x=>by
  rw[show n+1+m=(n+m)+1 by omega]
  exact AbE mask n m _
theorem Adl(mask:Nat):∀n x,(lp mask n x).2=x.2 / 32 ^ n
 |0,x=>by simp[lp]
 | n+1,x=>by
  show(lp mask n (SetTable.leap mask x.1 x.2)).2=_
  rw[Adl mask n]
  show x.2 / 32 / 32 ^ n=_
  rw[Nat.div_div_eq_div_mul,Nat.pow_succ,Nat.mul_comm]
theorem YF(mask:Nat):∀n i,lp mask n (i,0)=(XR (mask+1) n i,0)
 |0,i=>rfl
 | n+1,i=>by
  show lp mask n (SetTable.leap mask i 0)=(XR (mask+1) n ((i*5+1) % (mask+1)),0)
  rw[←YF mask n]
  rfl
theorem S5(mask:Nat):∀n x,x.1<mask+1→(lp mask n x).1<mask+1
 |0,x,h=>h
 |n+1,x,h=>S5 mask n _ (Nat.mod_lt _ (by omega))
theorem Afr(h:Int):SetTable.bits h<2 ^ 64:=by
 unfold SetTable.bits
 have:=Int.emod_lt_of_pos h (show(0:Int)<2 ^ 64 by decide)
 have:=Int.emod_nonneg h (show(2 ^ 64:Int)≠0 by decide)
 omega
theorem AhI{mask j:Nat}{h:Int}(c:Cyc (mask+1))(hj:j<mask+1):∃m,m<mask+14∧(lp mask m (SetTable.bits h % (mask+1),SetTable.bits h)).1=j:=by
 have h0:=Adl mask 13 (SetTable.bits h % (mask+1),SetTable.bits h)
 have hz:SetTable.bits h / 32 ^ 13=0:=Nat.div_eq_of_lt (Nat.lt_trans (Afr h) (by decide))
 rw[hz]at h0
 have hl:=S5 mask 13 (SetTable.bits h % (mask+1),SetTable.bits h) (Nat.mod_lt _ (by omega))
 obtain⟨m,hm,e⟩:=AdZ c hl hj
 refine⟨13+m,by omega,?_⟩
 rw[AbE]
 have:lp mask 13 (SetTable.bits h % (mask+1),SetTable.bits h)=((lp mask 13 (SetTable.bits h % (mask+1),SetTable.bits h)).1,0):=Prod.ext rfl h0
 rw[this,YF]
 exact e
end Tb
end L2
namespace L2
open PySem
namespace Tb
def adv(t:SetTable):Nat→SetTable.Probe→SetTable.Probe
 |0,p=>p
 |s+1,p=>adv t s (t.advance p)
theorem Z2(t:SetTable):∀a b p,adv t (a+b) p=adv t b (adv t a p)
 |0,b,p=>by rw[Nat.zero_add];rfl
 | a+1,b,p=>by
  rw[show a+1+b=(a+b)+1 by omega]
  exact Z2 t a b _
theorem Np{mask i:Nat}(h:i≤mask):SetTable.runEnd mask i≤mask∧i≤SetTable.runEnd mask i∧SetTable.runEnd mask i≤i+9:=by
 unfold SetTable.runEnd
 split<;>omega
structure PI(t:SetTable)(p:SetTable.Probe):Prop where
 i:p.i≤t.mask
 j:p.j+p.more≤t.mask
 d:p.dummy=none
theorem PI.adv{t:SetTable}{p:SetTable.Probe}(h:PI t p):PI t (t.advance p):=by
 unfold SetTable.advance
 by_cases q:p.more>0
 ·rw[if_pos q]
  exact⟨h.i,by have:=h.j;show p.j+1+(p.more-1)≤_;omega,h.d⟩
 ·rw[if_neg q]
  have hl:(SetTable.leap t.mask p.i p.perturb).1≤t.mask:=Nat.le_of_lt_succ (Nat.mod_lt _ (by omega))
  obtain⟨h1,h2,_⟩:=Np hl
  exact⟨hl,by show(SetTable.leap t.mask p.i p.perturb).1+(SetTable.runEnd t.mask (SetTable.leap t.mask p.i p.perturb).1-(SetTable.leap t.mask p.i p.perturb).1)≤_;omega,h.d⟩
def Pu(mask:Nat)(x:Nat×Nat):SetTable.Probe:={j:=x.1,more:=SetTable.runEnd mask x.1-x.1,i:=x.1,perturb:=x.2,dummy:=none}
theorem RQ(t:SetTable)(h:Int):t.probeStart h=Pu t.mask (SetTable.bits h % (t.mask+1),SetTable.bits h):=rfl
theorem Aih{t:SetTable}{x:Nat×Nat}(h:x.1≤t.mask):PI t (Pu t.mask x):=by
 obtain⟨h1,h2,_⟩:=Np h
 exact⟨h,by show x.1+(SetTable.runEnd t.mask x.1-x.1)≤_;omega,rfl⟩
theorem Acu{t:SetTable}:∀(r:Nat)(p:SetTable.Probe),p.more=r→adv t (r+1) p={p with j:=(SetTable.leap t.mask p.i p.perturb).1,more:=SetTable.runEnd t.mask (SetTable.leap t.mask p.i p.perturb).1-(SetTable.leap t.mask p.i p.perturb).1,i:=(SetTable.leap t.mask p.i p.perturb).1,perturb:=(SetTable.leap t.mask p.i p.perturb).2}
 | 0,p,e=>by
  show t.advance p=_
  unfold SetTable.advance
  rw[if_neg (by omega)]
 | r+1,p,e=>by
  show adv t (r+1) (t.advance p)=_
  have ea:t.advance p={p with j:=p.j+1,more:=p.more-1}:=by unfold SetTable.advance;rw[if_pos (by omega)]
  rw[ea,Acu r _ (by show p.more-1=r;omega)]
theorem Ab4{t:SetTable}{x:Nat×Nat}(h:x.1≤t.mask):∃s,s≤10∧adv t s (Pu t.mask x)=Pu t.mask (SetTable.leap t.mask x.1 x.2):=by
 obtain⟨_,_,h3⟩:=Np h
 refine⟨(SetTable.runEnd t.mask x.1-x.1)+1,by omega,?_⟩
 rw[Acu (SetTable.runEnd t.mask x.1-x.1) (Pu t.mask x) rfl]
 rfl
theorem Acq{t:SetTable}:∀(m:Nat)(x:Nat×Nat),x.1≤t.mask→∃s,s≤10*m∧adv t s (Pu t.mask x)=Pu t.mask (lp t.mask m x)
 |0,x,_=>⟨0,by omega,rfl⟩
 | m+1,x,h=>by
  obtain⟨s,hs,e⟩:=Ab4 h
  obtain⟨s2,hs2,e2⟩:=Acq m (SetTable.leap t.mask x.1 x.2) (Nat.le_of_lt_succ (Nat.mod_lt _ (by omega)))
  exact⟨s+s2,by omega,by rw[Z2,e,e2];rfl⟩
theorem Ael{t:SetTable}{n:Nat}(h:Ok t n):∃j,j<t.mask+1∧¬Has t.place j:=by
 refine Classical.byContradiction fun c=>?_
 have all:∀j,j<t.mask+1→Has t.place j:=fun j hj=>Classical.byContradiction fun q=>c ⟨j,hj,q⟩
 have sub:∀x∈List.range (t.mask+1),x∈t.place.toList:=fun x hx=>by
  obtain⟨k,hk,e⟩:=all x (List.mem_range.mp hx)
  rw[←e]
  have:t.place.getD k 0=t.place[k]:=by simp[Array.getD,hk]
  rw[this]
  simp
 have len:∀{l m:List Nat},l.Nodup→(∀x∈l,x∈m)→l.length≤m.length:=by
  intro l
  induction l with
  |nil=>intro m _ _;exact Nat.zero_le _
  | cons x l ih =>
   intro m h hs
   obtain⟨h1,h2⟩:=List.nodup_cons.mp h
   have hx:=hs x List.mem_cons_self
   have:=ih (m:=m.erase x) h2 fun y hy=>(List.mem_erase_of_ne fun z=>h1 (by rw[←z];exact hy)).mpr (hs y (List.mem_cons_of_mem _ hy))
   rw[List.length_erase_of_mem hx]at this
   have:=List.length_pos_of_mem hx
   rw[List.length_cons]
   omega
 have:=len List.nodup_range sub
 rw[List.length_range,Array.length_toList,h.sz]at this
 have:=h.lt
 omega
theorem Ac6{t:SetTable}{n:Nat}(h:Ok t n)(c:Cyc (t.mask+1))(x:Int):∃s,s<10*SetTable.turns t.mask∧t.slot (adv t s (t.probeStart x)).j=.empty:=by
 obtain⟨j,hj,nj⟩:=Ael h
 obtain⟨m,hm,e⟩:=AhI (h:=x) c hj
 obtain⟨s,hs,e2⟩:=Acq (t:=t) m (SetTable.bits x % (t.mask+1),SetTable.bits x) (Nat.le_of_lt_succ (Nat.mod_lt _ (by omega)))
 refine⟨s,by unfold SetTable.turns;omega,?_⟩
 rw[RQ,e2]
 show t.slot (lp t.mask m (SetTable.bits x % (t.mask+1),SetTable.bits x)).1=_
 rw[e]
 exact Qv h nj
theorem V0{t:SetTable}{n:Nat}{hashAt:Nat→Int}{x:Int}(h:Ok t n):∀(s fuel:Nat)(p:SetTable.Probe),PI t p→s<fuel→t.slot (adv t s p).j=.empty →
  (∃j,j≤t.mask∧¬Has t.place j∧SetTable.probe.go t hashAt x fuel p=some (.empty j none)) ∨
  ∃j i s',SetTable.probe.go t hashAt x fuel p=some (.candidate j i (adv t (s'+1) p))∧s'<s∧t.slot j=.live i∧i<n∧hashAt i=x
 |s,0,p,_,hf,_=>by omega
 | s,fuel+1,p,hp,hf,he=>by
  unfold SetTable.probe.go
  rcases XD h p.j with⟨nh,e⟩|⟨k,hk,ek,e⟩
  ·rw[e]
   exact .inl ⟨p.j,by have:=hp.j;omega,nh,by rw[hp.d]⟩
  ·rw[e]
   dsimp only
   cases s with
   | zero =>
    have he:t.slot p.j=.empty:=he
    rw[e]at he
    cases he
   | succ s =>
    by_cases q:(hashAt k==x)=true
    ·rw[if_pos q]
     exact .inr ⟨p.j,k,0,rfl,by omega,e,by rw[←h.sz];exact hk,beq_iff_eq.mp q⟩
    ·rw[if_neg q]
     rcases V0 h s fuel (t.advance p) hp.adv (by omega) he with⟨j,z⟩|⟨j,i,s',z1,z2,z3⟩
     ·exact .inl ⟨j,z⟩
     ·exact .inr ⟨j,i,s'+1,z1,by omega,z3⟩
theorem AaT{t:SetTable}{n s:Nat}{hashAt:Nat→Int}{x:Int}{p:SetTable.Probe}(h:Ok t n)(hp:PI t p)(hs:s<10*SetTable.turns t.mask)(he:t.slot (adv t s p).j=.empty) :
  (∃j,j≤t.mask∧¬Has t.place j∧t.probe hashAt x p=some (.empty j none)) ∨
  ∃j i s',t.probe hashAt x p=some (.candidate j i (adv t (s'+1) p))∧s'<s∧t.slot j=.live i∧i<n∧hashAt i=x:=V0 h s _ p hp hs he
theorem getD_insert{xs:Array Nat}{p x i:Nat}(hp:p≤xs.size):(SetTable.insertAt xs p x).getD i 0=if i<p then xs.getD i 0 else if i=p then x else xs.getD (i-1) 0:=by
 unfold SetTable.insertAt
 simp only[Array.getD_eq_getD_getElem?,Array.getElem?_append,Array.size_push,Array.size_extract,Array.getElem?_push,Array.getElem?_extract]
 have e:min p xs.size-0=p:=by omega
 by_cases h1:i<p
 ·rw[if_pos h1]
  rw[if_pos (by omega),if_neg (by omega),if_pos (by omega)]
  simp
 ·by_cases h2:i=p
  ·subst h2
   rw[if_neg h1,if_pos rfl,if_pos (by omega),if_pos (by omega)]
   rfl
  ·rw[if_neg h1,if_neg h2,if_neg (by omega)]
   by_cases h3:i-1<xs.size
   ·rw[if_pos (by omega)]
    congr 2
    omega
   ·rw[if_neg (by omega),Array.getElem?_eq_none (by omega)]
theorem size_insert{α:Type}{xs:Array α}{p:Nat}{x:α}(hp:p≤xs.size):(SetTable.insertAt xs p x).size=xs.size+1:=by
 unfold SetTable.insertAt
 simp only[Array.size_append,Array.size_push,Array.size_extract]
 omega
theorem WT{α:Type}{xs:Array α}{p:Nat}{x:α}(hp:p≤xs.size):(SetTable.insertAt xs p x).toList=xs.toList.take p++x::xs.toList.drop p:=by
 unfold SetTable.insertAt
 simp[Array.toList_append,Array.toList_push,Array.toList_extract,List.extract_eq_drop_take]
 exact List.take_of_length_le (by rw[List.length_drop,Array.length_toList];exact Nat.le_refl _)
theorem Wu{α:Type}{xs:Array α}{p:Nat}{x:α}(hp:p≤xs.size):(SetTable.insertAt xs p x).toList.Perm (x::xs.toList):=by
 rw[WT hp]
 refine List.perm_middle.trans ?_
 rw[List.take_append_drop]
theorem Ahx{t:SetTable}{n j:Nat}(h:Ok t n)(hj:j≤t.mask)(nj:¬Has t.place j)(hn:n+1≤t.mask):Ok (t.put j).1 (n+1)∧(t.put j).2≤n∧(t.put j).1.mask=t.mask∧(t.put j).1.led=t.led∧(t.put j).1.plain=t.plain∧(t.put j).1.moves=t.moves∧(t.put j).1.finger=t.finger:=by
 obtain⟨h1,h2,h3⟩:=Jk h.rs j
 have hd:(SetTable.has t.dummies j)=false:=by rw[h.nd];rfl
 have e:t.put j=({t with place:=SetTable.insertAt t.place (SetTable.below t.place j) j},SetTable.below t.place j):=by
  unfold SetTable.put
  rw[hd]
  rfl
 rw[e]
 refine⟨⟨fun a b hab hb=>?_,?_,fun k hk=>?_,h.nd,hn⟩,by show SetTable.below t.place j≤n;rw[←h.sz];exact h1,rfl,rfl,rfl,rfl,rfl⟩
 ·dsimp only at hb ⊢
  rw[size_insert h1]at hb
  rw[getD_insert h1,getD_insert h1]
  by_cases a1:a<SetTable.below t.place j
  ·rw[if_pos a1]
   by_cases b1:b<SetTable.below t.place j
   ·rw[if_pos b1];exact h.rs a b hab (by omega)
   ·rw[if_neg b1]
    by_cases b2:b=SetTable.below t.place j
    ·rw[if_pos b2];exact h2 a a1
    ·rw[if_neg b2]
     have:=h2 a a1
     have:=h3 (b-1) (by omega) (by omega)
     omega
  ·have b1:¬b<SetTable.below t.place j:=by omega
   have b2:¬b=SetTable.below t.place j:=by omega
   rw[if_neg a1,if_neg b1,if_neg b2]
   by_cases a2:a=SetTable.below t.place j
   ·rw[if_pos a2]
    have w:=h3 (b-1) (by omega) (by omega)
    rcases Nat.lt_or_ge j (t.place.getD (b-1) 0)with z|z
    ·exact z
    ·exact absurd ⟨b-1,by omega,by omega⟩ nj
   ·rw[if_neg a2]
    exact h.rs (a-1) (b-1) (by omega) (by omega)
 ·dsimp only
  rw[size_insert h1,h.sz]
 ·dsimp only at hk ⊢
  rw[size_insert h1]at hk
  rw[getD_insert h1]
  by_cases a1:k<SetTable.below t.place j
  ·rw[if_pos a1];exact h.le k (by omega)
  ·rw[if_neg a1]
   by_cases a2:k=SetTable.below t.place j
   ·rw[if_pos a2];exact hj
   ·rw[if_neg a2];exact h.le (k-1) (by omega)
theorem Ur{t:SetTable}{n:Nat}(h:Ok t n):t.fits n=true:=by
 unfold SetTable.fits SetTable.fill
 rw[h.sz,h.nd]
 have:=h.lt
 simp[this]
theorem Adn(a b:Nat)(l:Bool):Ok (SetTable.fresh a b l) 0:=⟨(fun _ _ _ hk=>absurd hk (Nat.not_lt_zero _)),rfl,(fun _ hk=>absurd hk (Nat.not_lt_zero _)),rfl,Nat.zero_le _⟩
end Tb
end L2
namespace L2
open PySem
namespace Tb
def stages:List Nat:=[8,32,128,512,2048,8192]
theorem Abe{M:Nat}(h:M∈stages):Cyc M:=by
 simp only[stages,List.mem_cons,List.not_mem_nil,or_false]at h
 rcases h with rfl|rfl|rfl|rfl|rfl|rfl
 ·exact Amp
 ·exact Ai4
 ·exact AhH
 ·exact Aim
 ·exact Aef
 ·exact Aed
theorem AdG{t:SetTable}{n:Nat}(h:Ok t n):t.tooFull=decide (t.mask*3≤n*5):=by
 unfold SetTable.tooFull SetTable.fill
 rw[h.sz,h.nd]
 simp
end Tb
end L2
namespace L2
open PySem Spec PyProof.Rows SeqAt
section
variable{prog:Program}{w:World}{A:Around}{E:Value→Shared→Prop}{s:Shared}{h:Heap}{r:List Int}{b:Addr}
theorem AdK{a:Addr}{es es':Array (Int×Value)}{ep:Nat}{t t':SetTable}{xs:List (List Int×Addr)}{Q:Unit→Shared→Prop}(ho:s.heap.get? a=some ⟨.type "set",none,.set es ep t,#[]⟩)(hz:es'.size≤30000)
  (q:∀h',Heap.SameBut a s.heap h'→h'.get? a=some ⟨.type "set",none,.set es' (ep+1) t',#[]⟩→Q () {s with heap:=h'}):wpAny (model prog w) A (storeSet a es' t') Q E s:=by
 have hg:(s.heap.update a (Obj.putSet es' t')).get? a=some ⟨.type "set",none,.set es' (ep+1) t',#[]⟩:=by
  have:=Heap.get?_update_self (Obj.putSet es' t') ho (by rw[putSet_of es' t' rfl];rfl)
  rw[putSet_of es' t' rfl]at this
  exact this
 exact wpAny_storeSet_of ho rfl (q _ (Heap.SameBut.update s.heap a _) hg) (by rw[sizeLine_eq];omega)
end
end L2
namespace L2
open PySem Spec PyProof.Rows SeqAt
section
variable{prog:Program}{w:World}{A:Around}{E:Value→Shared→Prop}{s:Shared}
set_option maxHeartbeats 3200000 in
end
end L2
namespace L2
open PySem Spec PyProof.Rows SeqAt
section
variable{X:Cx}{e:Expr}{te:DTE}{pos:Pos}
end
end L2
namespace L2
open PySem
end L2
namespace L2
open PySem Spec PyProof.Rows SeqAt
theorem El:Slot "set_iterator" "__next__" "set_iterator.__next__" :=
 .of (owner:="set_iterator") (n:="__next__") (by rw[typeLookup_type,builtinLookup_eq_fast];kernel_rfl) (by decide +kernel) (by decide +kernel) (by decide +kernel)
  (by first|exact .inl (by decide +kernel)|exact .inr (by decide +kernel)) (by rw[isSubtype_type];kernel_rfl)
theorem Mt:Slot "set_iterator" "__iter__" "set_iterator.__iter__" :=
 .of (owner:="set_iterator") (n:="__iter__") (by rw[typeLookup_type,builtinLookup_eq_fast];kernel_rfl) (by decide +kernel) (by decide +kernel) (by decide +kernel)
  (by first|exact .inl (by decide +kernel)|exact .inr (by decide +kernel)) (by rw[isSubtype_type];kernel_rfl)
theorem Kz:entryFor table "set_iterator.__next__"=some Builtin.«set_iterator.__next__» := entryFor_of_fast (by kernel_rfl)
theorem Rw:entryFor table "set_iterator.__iter__"=some Builtin.«dict_keyiterator.__iter__» := entryFor_alias (id':="dict_keyiterator.__iter__") (by kernel_rfl) rfl (by decide +kernel) (by kernel_rfl)
theorem UL:entryFor table "set.__iter__"=some Builtin.«frozenset.__iter__» := entryFor_alias (id':="frozenset.__iter__") (by kernel_rfl) rfl (by decide +kernel) (by kernel_rfl)
theorem Mu(a:Value):argsOk "set_iterator.__next__" ⟨[a],[]⟩:=by unfold argsOk;kernel_rfl
theorem S9(a:Value):argsOk "set_iterator.__iter__" ⟨[a],[]⟩:=by unfold argsOk;kernel_rfl
theorem Wx(a:Value):argsOk "set.__iter__" ⟨[a],[]⟩:=by unfold argsOk;kernel_rfl
theorem YC{α:Type}(next:Nat→Nat):∀(f k:Nat)(l:List α)(out:Array α),l.length=f→(pickOrder.go next f k l out).toList.Perm (out.toList++l)
 | 0,k,l,out,h=>by
  rw[List.length_eq_zero_iff.mp h,List.append_nil]
  unfold pickOrder.go
  exact List.Perm.refl _
 | f+1,k,l,out,h=>by
  unfold pickOrder.go
  have hl:next k % l.length<l.length:=Nat.mod_lt _ (by omega)
  rw[List.getElem?_eq_getElem hl]
  dsimp only
  refine(YC next f (k+1) _ _ (by rw[List.length_eraseIdx_of_lt hl];omega)).trans ?_
  rw[Array.toList_push,List.append_assoc]
  refine List.Perm.append_left _ ?_
  show(l[next k % l.length]::l.eraseIdx (next k % l.length)).Perm l
  rw[List.eraseIdx_eq_take_drop_succ]
  refine List.perm_middle.symm.trans ?_
  rw[List.getElem_cons_drop,List.take_append_drop]
theorem AaW{α:Type}(next:Nat→Nat)(xs:Array α):(pickOrder next xs).toList.Perm xs.toList:=YC next _ _ _ _ (by simp)
def byText(w:World):Bool:=w.params.followText "set-order"
structure Gw(w:World)(h:Heap)(a:Addr)(es:Array (Int×Value))(ep:Nat)(t:SetTable):Prop where
 at_:h.get? a=some ⟨.type "set",none,.set es ep t,#[]⟩
 ok:Tb.Ok t es.size
 pl:t.plain=true
 ld:t.led=!byText w
def Eu(w:World)(a:Addr)(ep:Nat)(es:Array (Int×Value)):Array (Int×Value):=if byText w then pickOrder (w.params.setOrder a ep) es else es
theorem R8(w:World)(a:Addr)(ep:Nat)(es:Array (Int×Value)):(Eu w a ep es).toList.Perm es.toList:=by
 unfold Eu
 split
 ·exact AaW _ _
 ·exact List.Perm.refl _
theorem Nz(w:World)(a:Addr)(ep:Nat)(es:Array (Int×Value)):(Eu w a ep es).size=es.size:=by
 have:=(R8 w a ep es).length_eq
 simpa using this
def Gg(w:World)(t:SetTable):Nat→Nat
 |0=>0
 |i+1=>if byText w then 0 else t.place.getD i 0+1
def Pq(w:World)(h:Heap)(I a:Addr)(t:SetTable)(i n ep:Nat):Prop:=h.get? I=some ⟨.type "set_iterator",none,.fields #[.int (Gg w t i) 0,.int i 0,.ref a,.int n 0,.int ep 0],#[]⟩
section
variable{prog:Program}{w:World}{A:Around}{E:Value→Shared→Prop}{s:Shared}{a I:Addr}{es:Array (Int×Value)}{ep i:Nat}{t:SetTable}
theorem Gw.state{Q:(Array (Int×Value)×Nat×SetTable)→Shared→Prop}(S:Gw w s.heap a es ep t)(q:Q (es,ep,t) s):wpAny (model prog w) A (setState a) Q E s:=wpAny_setState_of S.at_ rfl (Tb.Ur S.ok) q
theorem Gw.text{Q:Bool→Shared→Prop}(q:Q (byText w) s):wpAny (model prog w) A setsByText Q E s:=by
 unfold setsByText
 exact wpAny_bind (wpAny_askSetting (wpAny_pure q))
theorem Gw.next(S:Gw w s.heap a es ep t){Q:Option (Value×Nat)→Shared→Prop}(q:Q (((Eu w a ep es)[i]?).map fun e=>(e.2,Gg w t (i+1))) s)(hi:i≤es.size):wpAny (model prog w) A (setNext a (Gg w t i) i ep) Q E s:=by
 unfold setNext
 refine wpAny_bind (S.state ?_)
 dsimp only
 refine wpAny_bind (Gw.text ?_)
 cases hb:byText w with
 | true =>
  rw[if_pos rfl,if_neg (by simp)]
  unfold setWalk
  refine wpAny_bind (wpAny_bind (S.state ?_))
  dsimp only
  refine wpAny_bind (Gw.text ?_)
  rw[hb,if_pos rfl]
  refine wpAny_bind (wpAny_askSetting (wpAny_pure (wpAny_pure ?_)))
  unfold Eu at q
  rw[hb,if_pos rfl]at q
  have e1:Gg w t i=0:=by cases i with
   |zero=>rfl
   |succ i=>unfold Gg;rw[hb];rfl
  have e2:Gg w t (i+1)=0:=by unfold Gg;rw[hb];rfl
  rw[e2]at q
  rw[e1]
  exact q
 | false =>
  rw[if_neg Bool.false_ne_true]
  have hd:(!t.plain&&decide (es.size>1))=false:=by rw[S.pl];rfl
  have hl:(!t.led && !es.isEmpty)=false:=by rw[S.ld,hb];rfl
  have e1:SetTable.below t.place (Gg w t i)=i:=by
   cases i with
   |zero=>exact Tb.Xk S.ok.rs
   | succ i =>
    unfold Gg
    rw[hb]
    exact Tb.Xp S.ok.rs (by have:=S.ok.sz;omega)
  have ps:=S.ok.sz
  rw[if_neg (fun z=>by have z:(!t.plain&&decide (es.size>1))=true:=z;rw[hd]at z;cases z)]
  refine wpAny_bind ?_
  show wpAny _ _ (if(!t.led && !es.isEmpty)=true then unsupported "set:maker-not-led" else pure ()) _ _ s
  rw[hl,if_neg Bool.false_ne_true]
  refine wpAny_pure (wpAny_pure ?_)
  rw[e1]
  unfold Eu Gg at q
  rw[hb]at q
  simp only[Bool.false_eq_true,if_false]at q
  by_cases h:i<es.size
  ·have hp:i<t.place.size:=by omega
   have e2:t.place.getD i 0=t.place[i]:=by simp[Array.getD,hp]
   rw[Array.getElem?_eq_getElem h,Array.getElem?_eq_getElem hp]
   rw[Array.getElem?_eq_getElem h,e2]at q
   exact q
  ·have e2:es[i]? = none:=Array.getElem?_eq_none (by omega)
   rw[e2]at q ⊢
   exact q
theorem Jd{t:SetTable}{i n ep:Nat}(h:Pq w s.heap I a t i n ep):s.TypeIs (.ref I) "set_iterator":=⟨_,h,rfl⟩
theorem Gw.iter(S:Gw w s.heap a es ep t){Q:Value→Shared→Prop}(q:Q (.ref s.heap.objs.size) {s with heap:=s.heap.push ⟨.type "set_iterator",none,.fields #[.int (Gg w t 0) 0,.int (0:Nat) 0,.ref a,.int es.size 0,.int ep 0],#[]⟩}):wpAny (model prog w) A (pyIter (.ref a)) Q E s:=by
 have ty:s.TypeIs (.ref a) "set":=⟨_,S.at_,rfl⟩
 refine wpAny_pyIter_slot ty F.slot_set_iter (wpAny_call_entry F.slot_set_iter ty UL ?_ (Wx _))
 unfold Builtin.«frozenset.__iter__»
 refine wpAny_bind (m:=Builtin.Frozenset.slot0 "__iter__" _) (wpAny_of_eq (a:=a) rfl ?_)
 unfold Builtin.Frozenset.sizeOf setEntries
 refine wpAny_bind (wpAny_bind (wpAny_bind (S.state (wpAny_pure (wpAny_pure ?_)))))
 unfold setDrawn
 refine wpAny_bind (wpAny_bind (S.state ?_))
 dsimp only
 refine wpAny_bind (Gw.text (wpAny_pure ?_))
 have hd:∀b:Bool,(!b&&(!t.plain&&decide (es.size>1)))=false:=fun b=>by rw[S.pl];cases b<;>rfl
 rw[if_neg (fun z=>by have z:(!byText w&&(!t.plain&&decide (es.size>1)))=true:=z;rw[hd]at z;cases z)]
 refine wpAny_bind (m:=pure (rawInt 0)) (wpAny_pure ?_)
 unfold setEpoch
 refine wpAny_bind (wpAny_bind (S.state (wpAny_pure ?_)))
 exact wpAny_bind (wpAny_newObj_type (wpAny_pure ⟨_,rfl,"set_iterator",_,⟨_,Heap.get?_push_size _ rfl,rfl⟩,El.lookup,q⟩))
theorem Gw.item(S:Gw w s.heap a es ep t)(hit:Pq w s.heap I a t i es.size ep)(hne:a≠I)(hi:i<es.size){Q:Option Value→Shared→Prop}{x:Int×Value}(hx:(Eu w a ep es)[i]? = some x)
  (q:∀h',Pq w h' I a t (i+1) es.size ep→Heap.SameBut I s.heap h'→Q (some x.2) {s with heap:=h'}):wpAny (model prog w) A (pyNext (.ref I)) Q E s:=by
 unfold pyNext
 refine wpAny_bind (wpAny_attempt (wpAny_callSpecial?_slot (name:=Str.ofString "__next__") (Jd hit) El (wpAny_call_entry El (Jd hit) Kz ?_ (Mu _))))
 unfold Builtin.«set_iterator.__next__»
 refine wpAny_bind (m:=slotArgs "__next__" 0 _) (wpAny_of_eq (a:=(.ref I,[])) rfl ?_)
 dsimp only
 refine wpAny_bind (wpAny_fieldsOf hit rfl ?_)
 dsimp only
 unfold setEntries
 refine wpAny_bind (wpAny_bind (S.state (wpAny_pure ?_)))
 dsimp only
 rw[if_neg (by simp)]
 simp only[Int.toNat_natCast]
 refine wpAny_bind (S.next ?_ (Nat.le_of_lt hi))
 rw[hx]
 show wpAny _ _ (setField (.ref I) 0 (rawInt (Gg w t (i+1))) >>= _) _ _ s
 refine wpAny_bind (wpAny_setField_rec hit (by show 0<5;decide) fun h1 g1 b1=>?_)
 refine wpAny_bind (wpAny_setField_rec g1 (by show 1<5;decide) fun h2 g2 b2=>?_)
 exact wpAny_pure ⟨x.2,rfl,wpAny_pure (q h2 g2 (b1.trans b2))⟩
theorem Gw.done(hh:A.handled=none)(S:Gw w s.heap a es ep t)(hit:Pq w s.heap I a t es.size es.size ep){Q:Option Value→Shared→Prop}
  (q:∀h',Heap.ExtBut I s.heap h'→Q none {s with heap:=h'}):wpAny (model prog w) A (pyNext (.ref I)) Q E s:=by
 unfold pyNext
 refine wpAny_bind (wpAny_attempt (wpAny_callSpecial?_slot (name:=Str.ofString "__next__") (Jd hit) El (wpAny_call_entry El (Jd hit) Kz ?_ (Mu _))))
 unfold Builtin.«set_iterator.__next__»
 refine wpAny_bind (m:=slotArgs "__next__" 0 _) (wpAny_of_eq (a:=(.ref I,[])) rfl ?_)
 dsimp only
 refine wpAny_bind (wpAny_fieldsOf hit rfl ?_)
 dsimp only
 unfold setEntries
 refine wpAny_bind (wpAny_bind (S.state (wpAny_pure ?_)))
 dsimp only
 rw[if_neg (by simp)]
 simp only[Int.toNat_natCast]
 refine wpAny_bind (S.next ?_ (Nat.le_refl _))
 have hx:(Eu w a ep es)[es.size]? = none:=Array.getElem?_eq_none (by rw[Nz];exact Nat.le_refl _)
 rw[hx]
 show wpAny _ _ (setField (.ref I) 2 .none >>= _) _ _ s
 refine wpAny_bind (wpAny_setField_rec hit (by show 2<5;decide) fun h1 g1 b1=>?_)
 show wpAny _ _ (newExc (.type "StopIteration") [] >>= _) _ _ _
 refine wpAny_bind ?_
 simp only[newExc,newTuple]
 refine wpAny_bind (wpAny_newObj_type ?_ (by size_fits))
 refine wpAny_bind (m:=firstArgMember _ _) (wpAny_of_eq (a:=Value.none) (by first|rfl|(simp only[firstArgMember];rfl)) ?_)
 refine wpAny_newObj_type ?_ (by size_fits)
 simp only[raiseNew]
 refine wpAny_bind (wpAny_handled ?_)
 rw[show A.in1.handled=none from hh]
 refine wpAny_bind (wpAny_pure (wpAny_throw ?_))
 refine wpAny_bind (wpAny_isInstance (T:="StopIteration") (b:=true) ⟨_,Heap.get?_push_size _ rfl,rfl⟩ isSubtype_stop ?_)
 exact wpAny_pure (q _ ((b1.extBut.push _).push _))
theorem Aa7(hh:A.handled=none)(hne:a≠I) :
  Walks prog w A I [I,a] [I] es.size (fun i v=>∃x,(Eu w a ep es)[i]? = some x∧v=x.2) (fun i h=>Pq w h I a t i es.size ep∧Gw w h a es ep t) where
 sub:=fun b hb=>by simp at hb;simp[hb]
 frame:=fun i h h' st hk=>⟨hk I (by simp) _ st.1,⟨hk a (by simp) _ st.2.at_,st.2.ok,st.2.pl,st.2.ld⟩⟩
 item:=fun i s Q E hi st hQ=>by
  have hi':i<(Eu w a ep es).size:=by rw[Nz];exact hi
  refine st.2.item st.1 hne hi (Array.getElem?_eq_getElem hi') fun h' hit' hs'=>?_
  exact hQ _ h' s.toks ⟨_,Array.getElem?_eq_getElem hi',rfl⟩ ⟨hit',⟨(hs'.2 a hne).trans st.2.at_,st.2.ok,st.2.pl,st.2.ld⟩⟩ fun b o hb e=>hs'.extBut b o (fun h=>hb (by simp[h])) e
 done:=fun s Q E st hQ=>st.2.done hh st.1 fun h' he'=>hQ h' s.toks fun b o hb e=>he' b o (fun h=>hb (by simp[h])) e
 self:=fun i s Q E st hQ=>by
  refine wpAny_pyIter_slot (Jd st.1) Mt (wpAny_call_entry Mt (Jd st.1) Rw ?_ (S9 _))
  show wpAny _ _ (ret (.ref I)) _ _ s
  exact wpAny_pure ⟨_,rfl,"set_iterator",_,Jd st.1,El.lookup,hQ⟩
end
end L2
namespace L2
open PySem Spec PyProof.Rows SeqAt
theorem AgL{α:Type}{M:Model}{A:Around}{c:Prop}[Decidable c]{m1 m2:Sem α}{Q:α→Shared→Prop}{E:Value→Shared→Prop}{s:Shared}(h:c)(x:wpAny M A m1 Q E s):wpAny M A (if c then m1 else m2) Q E s:=by
 rw[if_pos h]
 exact x
section
variable{prog:Program}{w:World}{A:Around}{E:Value→Shared→Prop}{s:Shared}{a:Addr}{es:Array (Int×Value)}{ep:Nat}{t:SetTable}
theorem Gw.kept{h h':Heap}(S:Gw w h a es ep t)(k:∀o,h.get? a=some o→h'.get? a=some o):Gw w h' a es ep t:=⟨k _ S.at_,S.ok,S.pl,S.ld⟩
theorem Gw.hint{Q:Bool→Shared→Prop}(S:Gw w s.heap a es ep t)(q:Q false s):wpAny (model prog w) A (Builtin.List.listLengthHint (.ref a)) Q E s:=by
 have ty:s.TypeIs (.ref a) "set":=⟨_,S.at_,rfl⟩
 unfold Builtin.List.listLengthHint
 refine wpAny_bind (wpAny_specialOf ty F.slot_set_len.lookup ?_)
 (generalize hid:("set.__len__":String)=id0;(fail_if_success (clear hid id0));wp_delta;rw[show splitId id0=some ("set","__len__")from by subst hid;decide +kernel];subst hid)
 refine wpAny_bind (wpAny_isInstance (b:=true) ty (by rw[isSubtype_type];kernel_rfl) ?_)
 rw[if_neg (show ¬(!true)=true from by decide)]
 refine AgL (by decide +kernel) ?_
 refine wpAny_bind (wpAny_typeOf ty ?_)
 exact wpAny_pure q
set_option maxHeartbeats 3200000 in
theorem Wm{Q:List Value→Shared→Prop}(hh:A.handled=none)(S:Gw w s.heap a es ep t)(hn:es.size≤sizeLine)
  (q:∀h' tk,(∀b o,s.heap.get? b=some o→h'.get? b=some o)→s.heap.objs.size<h'.objs.size→s.toks≤tk→Q ((Eu w a ep es).toList.map (·.2)) {s with heap:=h',toks:=tk}):wpAny (model prog w) A (collect (.ref a)) Q E s:=by
 unfold collect
 refine wpAny_bind (wpAny_runValue (codeAny_builtin F.entry_proto_collect ?_))
 rw[Around.under_plainId F.plain_proto_collect _]
 show wpAny _ A.in1 (newList [] >>= fun l=>again (.builtin "list.__iadd__" ⟨[l,.ref a],[]⟩)) _ _ s
 refine wpAny_bind (wpAny_newObj_type ?_)
 refine wpAny_pure ⟨plainId_quiet F.plain_list_iadd _,codeAny_builtin F.entry_list_iadd ?_⟩
 rw[Around.under_plainId F.plain_list_iadd _]
 generalize hL:s.heap.objs.size=L
 have la:a<L:=by rw[←hL];exact Heap.lt_size S.at_
 generalize hp:s.heap.push {cls:=.type "list",data:=.seq ([]:List Value).toArray}=h1
 have k1:∀b o,s.heap.get? b=some o→h1.get? b=some o:=fun b o e=>by rw[←hp];exact Heap.get?_push_of_some _ e
 have S1:Gw w h1 a es ep t:=S.kept (k1 a)
 have l1:h1.get? L=some {cls:=.type "list",data:=.seq ([]:List Value).toArray}:=by rw[←hp,←hL];exact Heap.get?_push_size _ rfl
 have z1:h1.objs.size=L+1:=by rw[←hp,←hL];exact Heap.size_push _ _
 have ne:Builtin.List.listSameRef (.ref L) (.ref a)=false:=by
  have:L≠a:=fun e=>by rw[e]at la;exact Nat.lt_irrefl _ la
  simp[Builtin.List.listSameRef,this]
 show wpAny _ A.in1 (Builtin.List.listExtendWith (.ref L) (.ref a) (.ref L)) _ _ {s with heap:=h1}
 unfold Builtin.List.listExtendWith
 refine wpAny_bind (wpAny_typeOf (T:="set") ⟨_,S1.at_,rfl⟩ ?_)
 rw[if_neg (by rw[ne];decide)]
 refine wpAny_bind (S1.iter (s:={s with heap:=h1}) ?_)
 generalize hq:h1.push ⟨.type "set_iterator",none,.fields #[.int (Gg w t 0) 0,.int (0:Nat) 0,.ref a,.int es.size 0,.int ep 0],#[]⟩=h2
 have k2:∀b o,h1.get? b=some o→h2.get? b=some o:=fun b o e=>by rw[←hq];exact Heap.get?_push_of_some _ e
 have S2:Gw w h2 a es ep t:=S1.kept (k2 a)
 have l2:=k2 _ _ l1
 have i2:Pq w h2 (L+1) a t 0 es.size ep:=by rw[←hq,←z1];exact Heap.get?_push_size _ rfl
 dsimp only
 rw[z1]
 refine wpAny_bind (wpAny_holding (S2.hint ?_))
 refine AgL (by decide +kernel) ?_
 refine wpAny_bind (wpAny_rule ?_)
 unfold Builtin.List.listTouch
 refine wpAny_bind (wpAny_bind (listUpdate_at (xs:=#[]) (n:=0) l2 rfl ?_))
 generalize hu1:h2.update L (Obj.mapSeq (·.push .none))=h3
 have b3:Heap.SameBut L h2 h3:=by rw[←hu1];exact Heap.SameBut.update ..
 have l3:h3.get? L=some {cls:=.type "list",data:=.seq #[.none] 1}:=by rw[←hu1];exact get?_update_seq l2 _
 refine listUpdate_at (xs:=#[.none]) (n:=1) l3 rfl ?_
 generalize hu2:h3.update L (Obj.mapSeq (·.pop))=h4
 have b4:Heap.SameBut L h3 h4:=by rw[←hu2];exact Heap.SameBut.update ..
 have l4:h4.get? L=some {cls:=.type "list",data:=.seq #[] 2}:=by rw[←hu2];exact get?_update_seq l3 _
 have na:a≠L:=fun e=>by rw[e]at la;exact Nat.lt_irrefl _ la
 have ni:a≠L+1:=fun e=>by rw[e]at la;exact absurd la (Nat.not_lt.mpr (Nat.le_succ _))
 have nl:L+1≠L:=Nat.succ_ne_self L
 have S4:Gw w h4 a es ep t:=S2.kept fun o e=>(b4.2 a na).trans ((b3.2 a na).trans e)
 have i4:Pq w h4 (L+1) a t 0 es.size ep:=(b4.2 _ nl).trans ((b3.2 _ nl).trans i2)
 have W:=Aa7 (prog:=prog) (w:=w) (A:=A.in1) (I:=L+1) (a:=a) (es:=es) (ep:=ep) (t:=t) hh ni
 refine wpAny_pure ⟨plainId_quiet F.plain_extend_loop _,codeAny_extend_loopS W.toS hn L (by simp only[List.mem_cons,List.not_mem_nil,or_false,not_or];exact⟨fun e=>nl e.symm,fun e=>na e.symm⟩) _ es.size 0 _ _ _ rfl (Nat.zero_le _) ⟨i4,S4⟩ l4 (ItemsOf.nil _) fun s' acc' c' hm hS' hacc=>?_⟩
 show wpAny _ A (load L >>= _) _ _ s'
 refine wpAny_bind (wpAny_load hS' (wpAny_pure ?_))
 have ea:acc'.toList=(Eu w a ep es).toList.map (·.2):=by
  refine List.ext_getElem? fun j=>?_
  rw[List.getElem?_map,Array.getElem?_toList,Array.getElem?_toList]
  by_cases hj:j<es.size
  ·have h5:j<acc'.size:=by rw[hacc.1];exact hj
   obtain⟨x,e1,e2⟩:=hacc.2 j _ (Array.getElem?_eq_getElem h5)
   rw[e1,Array.getElem?_eq_getElem h5,e2]
   rfl
  ·rw[Array.getElem?_eq_none (by rw[hacc.1];omega),Array.getElem?_eq_none (by rw[Nz];omega)]
   rfl
 obtain⟨h',g',d',tk',os'⟩:=s'
 obtain rfl:g'=s.gens:=hm.gens
 obtain rfl:d'=s.drawn:=hm.drawn
 obtain rfl:os'=s.os:=hm.os
 rw[ea]
 refine q h' tk' (fun b o e=>?_) (by rw[hL];exact Heap.lt_size hS') hm.toks
 have lb:b<L:=by rw[←hL];exact Heap.lt_size e
 have n1:b≠L:=fun z=>by rw[z]at lb;exact Nat.lt_irrefl _ lb
 have n2:b≠L+1:=fun z=>by rw[z]at lb;exact absurd lb (Nat.not_lt.mpr (Nat.le_succ _))
 refine hm.heap b o (by simp only[List.mem_cons,List.not_mem_nil,or_false,not_or];exact⟨n1,n2⟩) ?_
 exact(b4.2 b n1).trans ((b3.2 b n1).trans (k2 b o (k1 b o e)))
end
end L2
namespace L2
open PySem Spec PyProof.Rows SeqAt
def numOf:Value→Int
 |.int i _=>i
 |_=>0
def Gx(ns:List Int)(i:Int):List Int:=if i∈ns then ns else i::ns
section
variable{prog:Program}{w:World}{A:Around}{E:Value→Shared→Prop}{s:Shared}
structure Ko(prog:Program)(w:World)(h:Heap)(a:Addr)(es:Array (Int×Value))(ep:Nat)(t:SetTable)(ns:List Int):Prop where
 wk:Gw w h a es ep t
 m7:t.mask=7
 el:ElemsOf (intKind prog w) es.toList
 pm:(es.toList.map fun e=>numOf e.2).Perm ns
theorem Ko.kept{h h':Heap}{a:Addr}{es:Array (Int×Value)}{ep:Nat}{t:SetTable}{ns:List Int}(S:Ko prog w h a es ep t ns)(k:∀o,h.get? a=some o→h'.get? a=some o):Ko prog w h' a es ep t ns:=⟨S.wk.kept k,S.m7,S.el,S.pm⟩
theorem Ko.len{h:Heap}{a:Addr}{es:Array (Int×Value)}{ep:Nat}{t:SetTable}{ns:List Int}(S:Ko prog w h a es ep t ns):es.size=ns.length:=by
 have:=S.pm.length_eq
 rw[List.length_map,Array.length_toList]at this
 exact this
theorem Ko.mem{h:Heap}{a:Addr}{es:Array (Int×Value)}{ep:Nat}{t:SetTable}{ns:List Int}(S:Ko prog w h a es ep t ns)(i:Int):i∈ns↔∃e∈es.toList,(intKind prog w).is i e.2=true:=by
 rw[←S.pm.mem_iff,List.mem_map]
 constructor
 ·rintro⟨e,he,rfl⟩
  obtain⟨⟨k,hk,_⟩,_⟩:=S.el e he
  refine⟨e,he,?_⟩
  obtain⟨t,e2⟩:=Value.isInt_shape hk
  rw[e2]
  exact hk ▸ (by rw[e2];simp[intKind,Value.isInt,numOf])
 ·rintro⟨e,he,hk⟩
  obtain⟨t,e2⟩:=Value.isInt_shape hk
  exact⟨e,he,by rw[e2];rfl⟩
theorem Ae6{t:SetTable}{es:Array (Int×Value)}{n:Nat}(ok:Tb.Ok t es.size)(mk:t.mask=7)(few:es.size≤3)(h:Int)(x:Value):∃t2 p,layNew t es h x=(SetTable.insertAt es p (h,x),t2,false,false)∧Tb.Ok t2 (es.size+1)∧p≤es.size∧t2.mask=7∧t2.led=t.led∧t2.plain=t.plain:=by
 have cy:Tb.Cyc (t.mask+1):=by rw[mk];exact Tb.Abe (by decide)
 obtain⟨m,hm,he⟩:=Tb.Ac6 ok cy h
 have pi:Tb.PI t (t.probeStart h):=by
  rw[Tb.RQ]
  exact Tb.Aih (Nat.le_of_lt_succ (Nat.mod_lt _ (by omega)))
 rcases Tb.AaT (hashAt:=fun _=>h+1) (x:=h) ok pi hm he with⟨j,h1,h2,e⟩|⟨j,i,m',e,hm',hsl,hi,z⟩
 ·obtain⟨ok2,p2,mk2,ld2,pl2,_,_⟩:=Tb.Ahx ok h1 h2 (by omega)
  refine⟨(t.put j).1,(t.put j).2,?_,ok2,p2,mk2.trans mk,ld2,pl2⟩
  have fs:t.freeSlot h=some (j,false):=by
   unfold SetTable.freeSlot
   rw[e]
   rfl
  have sz:(SetTable.insertAt es (t.put j).2 (h,x)).size=es.size+1:=Tb.size_insert p2
  have ft:=Tb.Ur ok2
  unfold layNew
  rw[fs]
  dsimp only
  unfold SetTable.orStandIn
  rw[sz,ft]
  rfl
 ·exact absurd z (by omega)
theorem add_int{a:Addr}{es:Array (Int×Value)}{ep:Nat}{t:SetTable}{ns:List Int}{i:Int}{tk:Nat}{Q:Bool→Shared→Prop}(S:Ko prog w s.heap a es ep t ns)(few:ns.length≤3)
  (q:∀b h' es' ep' t' tk',s.toks≤tk'→Heap.SameBut a s.heap h'→Ko prog w h' a es' ep' t' (Gx ns i)→Q b {s with heap:=h',toks:=tk'}):wpAny (model prog w) A (setAdd a (.int i tk)) Q E s:=by
 have hk:(intKind prog w).is i (.int i tk)=true:=by simp[intKind,Value.isInt]
 have len:=S.len
 unfold setAdd
 refine wpAny_holding (wpAny_bind ((intKind prog w).pyHash hk ?_))
 have S1:Gw w ({s with toks:=s.toks+1}:Shared).heap a es ep t:=S.wk
 unfold setAddHashed setAddHashedIn
 refine wpAny_holding (wpAny_bind (S1.state ?_))
 dsimp only
 have sb:es.size<scanBound:=by unfold scanBound;omega
 rw[byScan_of rfl sb S.el]
 simp only[if_true]
 unfold setAddByScan
 refine wpAny_bind (wpAny_bind (wpAny_rule (wpAny_bind (wpAny_setScan_of hk S1.at_ rfl (Tb.Ur S.wk.ok) S.el ?_))))
 cases hr:List.findIdx? (fun e=>(intKind prog w).is i e.2) es.toList with
 | some j =>
  obtain⟨hj,hp,_⟩:=List.findIdx?_eq_some_iff_getElem.mp hr
  have hm:i∈ns:=(S.mem i).mpr ⟨_,List.getElem_mem hj,hp⟩
  refine wpAny_pure (wpAny_pure ?_)
  exact q false s.heap es ep t (s.toks+1) (Nat.le_succ _) (Heap.SameBut.refl a s.heap) (by unfold Gx;rw[if_pos hm];exact S)
 | none =>
  have hm:i∉ns:=fun z=>by
   obtain⟨e,he,hp⟩:=(S.mem i).mp z
   have:=List.findIdx?_eq_none_iff.mp hr e he
   rw[hp]at this
   cases this
  obtain⟨t2,p,el,ok2,p2,mk2,ld2,pl2⟩:=Ae6 (n:=0) S.wk.ok S.m7 (by omega) ((intKind prog w).hash i) (.int i tk)
  dsimp only
  rw[el]
  dsimp only
  refine wpAny_bind (wpAny_pure ?_)
  rw[pl2,S.wk.pl]
  simp only[if_true]
  rw[hashByValue_scannable 8 rfl]
  refine wpAny_bind (wpAny_pure ?_)
  have sz:(SetTable.insertAt es p ((intKind prog w).hash i,Value.int i tk)).size=es.size+1:=Tb.size_insert p2
  have pm:=Tb.Wu (xs:=es) (x:=((intKind prog w).hash i,Value.int i tk)) p2
  have tf:t2.tooFull=false:=by rw[Tb.AdG ok2,mk2];exact decide_eq_false (by omega)
  have pmE:(SetTable.insertAt es p ((intKind prog w).hash i,Value.int i tk)).toList.Perm (es.toList++[((intKind prog w).hash i,Value.int i tk)]):=pm.trans (List.perm_append_singleton _ _).symm
  simp only[show plainKind (Value.int i tk)=true from rfl,if_true]
  refine wpAny_bind (AdK (xs:=[]) S1.at_ (by rw[sz];omega) fun h1 sb1 g1=>?_)
  rw[if_neg (by rw[tf];decide)]
  refine wpAny_pure (wpAny_pure (q true h1 _ _ t2 (s.toks+1) (Nat.le_succ _) sb1 ⟨⟨g1,by rw[sz];exact ok2,pl2.trans S.wk.pl,ld2.trans S.wk.ld⟩,mk2,(S.el.push hk rfl).perm pmE,?_⟩))
  unfold Gx
  rw[if_neg hm]
  refine(pm.map _).trans ?_
  rw[List.map_cons]
  exact S.pm.cons _
end
end L2
namespace L2
open PySem Spec PyProof.Rows SeqAt
section
variable{prog:Program}{w:World}{A:Around}{E:Value→Shared→Prop}{s:Shared}
theorem Ut(x:Value){Q1:Value→Shared→Prop}(h:Q1 (.ref s.heap.objs.size) {s with heap:=s.heap.push ⟨.type "set",none,.set #[] 0 (.fresh 0 0 (!byText w)),#[]⟩}):codeAny (model prog w) A (.call (.builtin "set.__new__") ⟨[.type "set",x],[]⟩) (wants Q1 E) s:=by
 refine codeAny_of_tree ?_
 show wpAny _ A.in1 (checkBuiltinCall "set.__new__" ⟨[.type "set",x],[]⟩ >>= fun _=>again (.builtin "set.__new__" ⟨[.type "set",x],[]⟩)) _ _ s
 refine wpAny_bind (wpAny_of_eq (F.newCall_set_1 x) (wpAny_pure (And.intro (plainId_quiet F.plain_set_new _) (codeAny_builtin F.entry_set_new ?_))))
 rw[Around.under_plainId F.plain_set_new _]
 unfold Builtin.«set.__new__» Builtin.Frozenset.newClass
 have hsub:=sub_set_self
 obtain⟨hp,g,d,tk,os⟩:=s
 dsimp only
 wp_walk
 refine wpAny_askSetting (wpAny_pure ?_)
 dsimp only
 simp only[newObj]
 exact wpAny_bind (wpAny_alloc (wpAny_pure (wpAny_pure h)))
theorem AdE(l:List Int)(x:Int):(Gx l x).length≤l.length+1:=by
 unfold Gx
 split
 ·omega
 ·exact Nat.le_refl _
theorem Lh:∀(l acc:List Int),(l.foldl Gx acc).length≤acc.length+l.length
 | [],acc=>Nat.le_refl _
 | x::l,acc=>by
  have h1:=Lh l (Gx acc x)
  have h2:=AdE acc x
  rw[List.foldl_cons,List.length_cons]
  omega
theorem Aa3{R:Result→Shared→Prop}{I Sa:Addr}{fp wr:List Addr}{G:Array GenState→Array GenState→Prop}{n:Nat}{P:Nat→Value→Prop}{St:Nat→Shared→Prop}(W:WalksS prog w A.in1 I fp wr G n P St)(sf:Sa∉fp)(ns:List Int)(hlen:ns.length=n)
  (val:∀i v,P i v→∃x tk,ns[i]? = some x∧v=.int x tk) (few:n≤4) :
  ∀(k i:Nat)(s:Shared)(es:Array (Int×Value))(ep:Nat)(t:SetTable),n-i=k→i≤n→St i s→Ko prog w s.heap Sa es ep t ((ns.take i).foldl Gx []) →
   (∀s' es' ep' t',Moved (Sa::wr) G s s'→Ko prog w s'.heap Sa es' ep' t' (ns.foldl Gx [])→R (.ok (.ret .none)) s')→codeAny (model prog w) A (.builtin "set.update.loop" ⟨[.ref Sa,.ref I],[]⟩) R s:=by
 have sw:Sa∉wr:=fun z=>sf (W.sub _ z)
 have up:∀b∈wr,b∈Sa::wr:=fun b z=>List.mem_cons_of_mem _ z
 intro k
 induction k with
 | zero =>
  intro i s es ep t ek li st S fin
  obtain rfl:i=n:=by omega
  refine codeAny_builtin F.entry_set_update_loop ?_
  rw[Around.under_plainId F.plain_set_update_loop _]
  show wpAny _ A.in1 (pyNext (.ref I) >>= fun v=>_) _ _ s
  refine wpAny_bind (W.done s _ _ st fun s1 mv=>?_)
  show wpAny _ A.in1 (ret .none) _ _ s1
  rw[List.take_of_length_le (by omega)]at S
  exact wpAny_pure (fin s1 es ep t (mv.mono up) (S.kept fun o e=>mv.heap _ o sw e))
 | succ k ih =>
  intro i s es ep t ek li st S fin
  have lt:i<n:=by omega
  refine codeAny_builtin F.entry_set_update_loop ?_
  rw[Around.under_plainId F.plain_set_update_loop _]
  show wpAny _ A.in1 (pyNext (.ref I) >>= fun v=>_) _ _ s
  refine wpAny_bind (W.item i s _ _ lt st fun v s1 hv st1 mv=>?_)
  obtain⟨x,tx,hx,rfl⟩:=val i v hv
  have S1:Ko prog w s1.heap Sa es ep t ((ns.take i).foldl Gx []):=S.kept fun o e=>mv.heap _ o sw e
  have ln:=Lh (ns.take i) []
  rw[List.length_take,List.length_nil]at ln
  show wpAny _ A.in1 (holding [Value.int x tx] (setAdd Sa (.int x tx)) >>= fun _=>_) _ _ s1
  refine wpAny_bind (wpAny_holding (add_int S1 (by omega) fun b h' es' ep' t' tk tl sb S2=>?_))
  have e2:Gx ((ns.take i).foldl Gx []) x=(ns.take (i+1)).foldl Gx []:=by rw[List.take_add_one,hx,Option.toList_some,List.foldl_append];rfl
  rw[e2]at S2
  refine wpAny_pure ⟨plainId_quiet F.plain_set_update_loop _,ih (i+1) {s1 with heap:=h',toks:=tk} es' ep' t' (by omega) lt (W.frame _ s1 h' tk st1 tl fun b hb o e=>?_) S2 fun s2 es2 ep2 t2 mv2 S3=>?_⟩
  ·rw[sb.2 b fun z=>sf (by rw[←z];exact hb)];exact e
  ·exact fin s2 es2 ep2 t2 (Moved.trans W.gtrans ((mv.mono up).then_heap tl fun b o hb e=>by rw[sb.2 b fun z=>hb (by rw[z];exact List.mem_cons_self)];exact e) mv2) S3
theorem Agd{vs:List Value}{ns:List Int}(h:IntsAre vs ns):∀{i:Nat} {v:Value},vs[i]? = some v→∃x tk,ns[i]? = some x∧v=.int x tk:=by
 induction h with
 |nil=>intro i v e;cases e
 | cons n t _ ih =>
  intro i v e
  cases i with
  |zero=>cases e;exact⟨n,t,rfl,rfl⟩
  |succ i=>exact ih e
set_option maxHeartbeats 3200000 in
theorem AaN{l:Addr}{vs:List Value}{ns:List Int}{Q:Value→Shared→Prop}(hh:A.handled=none)(hl:s.heap.IsList l vs.toArray)(hI:IntsAre vs ns)(few:ns.length≤4)
  (q:∀h' tk es ep t,Ko prog w h' s.heap.objs.size es ep t (ns.foldl Gx [])→(∀b o,s.heap.get? b=some o→h'.get? b=some o)→Q (.ref s.heap.objs.size) {s with heap:=h',toks:=tk}):wpAny (model prog w) A (call (.type "set") [.ref l]) Q E s:=by
 obtain⟨mc,mt,hmro⟩:=F.called_set.mro
 have hmade:=F.called_set.made
 have hsub:=F.called_set.sub
 refine wpAny_call (codeAny_of_tree ?_)
 show wpAny _ _ (callAny (.type "set") _) _ _ _
 refine wpAny_pure ⟨Code.quiet_builtin _ (by decide +kernel),codeAny_builtin F.entry_type_call ?_⟩
 rw[Around.under_plain (weight_type_call_type "set" [.ref l] []) rfl]
 have i1:=F.called_set.notType
 have i2:=F.called_set.canCreate
 have i3:=F.typeCall_set_1 (.ref l)
 repeat (any_goals (first|assumption|wp_step))
 refine codeAny_mono (Ut (.ref l) (E:=E) (Q1:=fun obj s₁=>obj=.ref s.heap.objs.size∧s₁={s with heap:=s.heap.push ⟨.type "set",none,.set #[] 0 (.fresh 0 0 (!byText w)),#[]⟩}) ⟨rfl,rfl⟩) fun res s₁ hr=>?_
 cases res with
 |error e=>exact hr
 | ok fl =>
  cases fl with
  |next=>exact hr.elim
  |brk=>exact hr.elim
  |cont=>exact hr.elim
  | ret obj =>
   obtain⟨rfl,rfl⟩:=hr
   generalize ob:(⟨.type "set",none,.set #[] 0 (.fresh 0 0 (!byText w)),#[]⟩:Obj)=o0
   have at0:(s.heap.push o0).get? s.heap.objs.size=some o0:=Heap.get?_push_size _ (by rw[←ob];rfl)
   have ty:Shared.TypeIs {s with heap:=s.heap.push o0} (.ref s.heap.objs.size) "set":=⟨_,at0,by rw[←ob]⟩
   have j1:=F.called_set.init.lookup
   have j2:=F.called_set.init.bind (.ref s.heap.objs.size)
   repeat (any_goals (first|assumption|wp_step))
   refine codeAny_mono (codeAny_call_builtin (R:=wants (fun v s₂=>v=.none∧∃h' tk es ep t,s₂={s with heap:=h',toks:=tk}∧Ko prog w h' s.heap.objs.size es ep t (ns.foldl Gx [])∧∀b o,s.heap.get? b=some o→h'.get? b=some o) E) F.called_set.init.plain F.entry_set_init (check_set_init_1 ty ?_)) fun res2 s₂ hr₂=>?_
   ·obtain⟨ol,k1,k2,nl,k3⟩:=hl
    obtain⟨c0,d0,dt0,sl0⟩:=ol
    cases k2
    cases k3
    have lat:(s.heap.push o0).get? l=some ⟨.type "list",d0,.seq vs.toArray nl,sl0⟩:=Heap.get?_push_of_some _ k1
    have m1:=F.sub_list_set
    have m2:=F.sub_list_frozenset
    have m3:(Value.type "list"==Value.type "dict")=false:=by decide
    have il:(s.heap.push o0).IsList l vs.toArray:=⟨_,lat,rfl,nl,rfl⟩
    have ls:l<s.heap.objs.size:=Heap.lt_size k1
    have h3:A.in1.in1.in1.handled=none:=by simp[hh]
    have sz1:(s.heap.push o0).objs.size=s.heap.objs.size+1:=Heap.size_push _ _
    have ni:l≠(s.heap.push o0).objs.size:=by rw[sz1];exact Nat.ne_of_lt (Nat.lt_succ_of_lt ls)
    have lx:vs.toArray.size=ns.length:=by rw[List.size_toArray,hI.length]
    subst ob
    unfold Builtin.«set.__init__» noKeywords Builtin.Frozenset.updateFrom
    generalize hPI:pyIter=PI
    wp_walk
    subst hPI
    refine wpAny_pyIter_list il ?_
    refine wpAny_bind (m:=runValue _) (wpAny_runValue ?_)
    refine Aa3 ((Walks.list h3 _ l ni vs.toArray).toS) (Sa:=s.heap.objs.size) (by rw[sz1];simp only[List.mem_cons,List.not_mem_nil,or_false,not_or];exact⟨Nat.ne_of_lt (Nat.lt_succ_self _),Nat.ne_of_gt ls⟩) ns lx.symm (fun i v hv=>?_) (by omega) (vs.toArray.size-0) 0 _ #[] 0 (.fresh 0 0 (!byText w)) (by omega) (Nat.zero_le _) ⟨⟨_,Heap.get?_push_size _ rfl,rfl,rfl⟩,il.push _⟩ ⟨⟨?_,Tb.Adn 0 0 _,rfl,rfl⟩,rfl,(fun e he=>by cases he),List.Perm.refl _⟩ fun s' es' ep' t' mv S'=>?_
    ·exact Agd hI (by rw[←hv];simp)
    ·exact Heap.get?_push_of_some _ at0
    ·obtain⟨h',g',d',tk',os'⟩:=s'
     obtain rfl:g'=s.gens:=mv.gens
     obtain rfl:d'=s.drawn:=mv.drawn
     obtain rfl:os'=s.os:=mv.os
     refine wpAny_pure ?_
     show wpAny _ _ (ret .none) _ _ _
     refine wpAny_pure ⟨rfl,h',tk',es',ep',t',rfl,S',fun b o e=>mv.heap b o ?_ (Heap.get?_push_of_some _ (Heap.get?_push_of_some _ e))⟩
     have:=Heap.lt_size e
     rw[sz1]
     simp only[List.mem_cons,List.not_mem_nil,or_false,not_or]
     exact⟨Nat.ne_of_lt this,Nat.ne_of_lt (Nat.lt_succ_of_lt this)⟩
   ·cases res2 with
    |error e=>exact hr₂
    | ok fl₂ =>
     cases fl₂ with
     |next=>exact hr₂.elim
     |brk=>exact hr₂.elim
     |cont=>exact hr₂.elim
     | ret v =>
      obtain⟨rfl,h',tk,es,ep,t,rfl,S',kp⟩:=hr₂
      repeat (any_goals (first|assumption|wp_step))
      exact q h' tk es ep t S' kp
theorem Wq:∀{l:List (Int×Value)},ElemsOf (intKind prog w) l→IntsAre (l.map (·.2)) (l.map fun e=>numOf e.2)
 | [],_=>.nil
 | e::l,h=>by
  obtain⟨⟨k,hk,_⟩,_⟩:=h e (.head _)
  obtain⟨t,e2⟩:=Value.isInt_shape hk
  rw[List.map_cons,List.map_cons,e2]
  exact .cons k t (Wq fun x hx=>h x (.tail _ hx))
theorem Vx{a:Addr}{es:Array (Int×Value)}{ep:Nat}{t:SetTable}{ns:List Int}{Q:Value→Shared→Prop}(hh:A.handled=none)(S:Ko prog w s.heap a es ep t ns)(few:ns.length<64)
  (fin:∀h' tk D c (out:Array Value) ns',(∀b o,s.heap.get? b=some o→h'.get? b=some o)→s.heap.objs.size≤D→h'.get? D=some (seqObj "list" out c)→IntsAre out.toList ns'→ns'.Perm ns→ns'.Pairwise (· ≤ ·)→Q (.ref D) {s with heap:=h',toks:=tk}):wpAny (model prog w) A (call (.builtin "sorted") [.ref a]) Q E s:=by
 have len:=S.len
 refine Calls.call_function_entry kind_sorted plain_sorted entry_sorted (args_sorted1 _) ?_
 unfold Builtin.«sorted»
 refine wpAny_bind (m:=checkCount "sorted" 1 1 _) (wpAny_pure (wpAny_bind (Wm hh S.wk (by rw[sizeLine_eq];omega) fun h1 tk k1 big _=>?_)))
 have pw:=R8 w a ep es
 have hI:=Wq (S.el.perm pw)
 have pn:((Eu w a ep es).toList.map fun e=>numOf e.2).Perm ns:=(pw.map _).trans S.pm
 have vl:((Eu w a ep es).toList.map (·.2)).length<64:=by rw[List.length_map,pw.length_eq,Array.length_toList];omega
 generalize (Eu w a ep es).toList.map (·.2)=vs at *
 refine wpAny_bind (wpAny_newList ?_ (by rw[sizeLine_eq];omega))
 have gD:(h1.push (seqObj "list" vs.toArray 0)).get? h1.objs.size=some (seqObj "list" vs.toArray 0):=Heap.get?_push_size _ rfl
 refine wpAny_bind (wpAny_holding (wpAny_call_entry slot_list_sort ⟨_,gD,rfl⟩ entry_list_sort (list_sort_tree (s:={s with heap:=h1.push (seqObj "list" vs.toArray 0),toks:=tk}) gD hI vl fun out ns' a1 a2 a3=>⟨_,rfl,?_⟩) (args_list_sort _)))
 obtain⟨c,g⟩:=sortedHeap_at (vs:=vs) (out:=out) (n:=0) gD
 refine wpAny_pure ⟨_,rfl,fin _ tk _ c out ns' (fun b o e=>?_) (Nat.le_of_lt big) g a1 (a2.trans pn) a3⟩
 have e1:=k1 b o e
 have lb:=Heap.lt_size e1
 rw[sortedHeap_old (Nat.ne_of_lt lb) (by rw[size_push'];exact Nat.lt_succ_of_lt lb)]
 exact Heap.get?_push_of_some _ e1
end
end L2
namespace L2
open PySem Spec PyProof.Rows SeqAt
def Qm(P:Program)(w:World)(a:Addr)(ns:List Int)(h:Heap):Prop:=∃es ep t,Ko P w h a es ep t ns
theorem AaR{P:Program}{w:World}{a:Addr}{ns:List Int}(h1 h2:Heap)(x:Qm P w a ns h1)(k:∀o,h1.get? a=some o→h2.get? a=some o):Qm P w a ns h2:=let ⟨es,ep,t,S⟩:=x;⟨es,ep,t,S.kept k⟩
section
variable{X:Cx}{e:Expr}{te:DTE}{pos:Pos}
theorem Xm(hc:X.calm=true):JH X (.type "set") (fun vs H Q=>∃p,∃ns:List Int,vs=[.ref p]∧SqL X.K H p (ns.map V.int)∧ns.length≤4∧∀a,H a=none→Q (.ref a) (upd H a (.ext (Qm X.prog X.w a (ns.foldl Gx []))))):=by
 intro pins s σ H vs us Q I r h
 obtain⟨p,ns,rfl,hq,few,q⟩:=h
 obtain⟨u,rfl,rx⟩:=vals1 r
 cases rx
 obtain⟨its,r',pl,hz⟩:=I.list hq
 refine AaN (I.ok.hd hc) pl.isList (intsAre_of r') few fun h' tk es ep t S kp=>?_
 exact⟨.ref s.heap.objs.size,_,I.laid (t':=tk) (o:=.ext (Qm X.prog X.w s.heap.objs.size (ns.foldl Gx []))) kp (Nat.le_refl _) ⟨⟨es,ep,t,S⟩,⟨_,S.wk.at_⟩,AaR⟩,rfl,q _ (I.hok.fresh (Nat.le_refl _))⟩
theorem X5(hc:X.calm=true):JH X (.builtin "sorted") (fun vs H Q=>∃a ns,vs=[.ref a]∧H a=some (.ext (Qm X.prog X.w a ns))∧ns.length≤4∧∀ns':List Int,ns'.Perm ns→ns'.Pairwise (· ≤ ·)→∀l,H l=none→Q (.ref l) (upd H l (.lst (ns'.map V.int)))):=by
 intro pins s σ H vs us Q I r h
 obtain⟨a,ns,rfl,ha,few,q⟩:=h
 obtain⟨u,rfl,rx⟩:=vals1 r
 cases rx
 obtain⟨⟨es,ep,t,S⟩,_,_⟩:=I.hok a _ ha
 refine Vx (I.ok.hd hc) S (by omega) fun h' tk D c out ns' kp big g a1 a2 a3=>?_
 have vp:=TJ a1
 have lz:(ns'.map V.int).length≤sizeLine:=by
  rw[List.length_map,a2.length_eq,sizeLine_eq]
  omega
 exact⟨.ref D,_,I.laid (t':=tk) kp big (show GZ X.prog X.w _ _ _ (.lst _)from⟨lz,out.toList,c,vp,g⟩),rfl,q ns' a2 a3 _ (I.hok.fresh big)⟩
def Vv(te:DTE):DTE:=fun ρ Q=>te ρ fun d=>∃ns:List Int,d=.lst (ns.map Dt.int)∧ns.length≤4∧∀ns':List Int,ns'.Perm (ns.foldl Gx [])→ns'.Pairwise (· ≤ ·)→Q (.lst (ns'.map Dt.int))
theorem Yq{p p2 cp:Pos}(hmL:X.mg "sorted"=none)(hmS:X.mg "set"=none)(hc:X.calm=true)(he:DE X e te)(hgL:Gl X "sorted":=by rfl)(hgS:Gl X "set":=by rfl)(hb:bootBuiltins "sorted"=some (.builtin "sorted"):=by rfl)(hv:bootBuiltins "set"=some (.type "set"):=by rfl)
  (hs1:starEach [e] X.env=(false,eval e X.env)::starEach [] X.env:=by rfl) (hp1:(backTo cp (starEach [] X.env)).any (·.1)=false:=by rfl)
  (hs2:starEach [.Call (.Name "set" p2) [e] [] cp] X.env=(false,eval (.Call (.Name "set" p2) [e] [] cp) X.env)::starEach [] X.env:=by rfl) (hp2:(backTo pos (starEach [] X.env)).any (·.1)=false:=by rfl) :
  DE X (.Call (.Name "sorted" p) [.Call (.Name "set" p2) [e] [] cp] [] pos) (Vv te) where
 mono:=fun hq h=>he.mono (fun d ⟨ns,h1,h2,h3⟩=>⟨ns,h1,h2,fun ns' a b=>hq _ (h3 ns' a b)⟩) h
 pe:=(Py (X5 hc) hgL hmL hb (HJ (Aao (Xm hc) hgS hmS hv (HJ he.pe M6 hs1) (he:=hs1) (hpl:=hp1)) M6 hs2) (he:=hs2) (hpl:=hp2)).imp fun σ H Q ⟨B,F,O,ρ,R,h⟩=>⟨B,F,O,ρ,R,he.mono (fun d ⟨ns,e1,few,q⟩ v H1 s1 r1=>by
  subst e1
  obtain⟨pa,ys,rfl,hs,hl⟩:=DY r1
  obtain rfl:=VN hl
  have lf:=Lh ns []
  rw[List.length_nil]at lf
  refine⟨pa,ns,rfl,Bw.seq hs,few,fun a ha=>⟨a,ns.foldl Gx [],rfl,BL,by omega,fun ns' h1 h2 l hl'=>?_⟩⟩
  have hl1:H1 l=none:=by
   by_cases z:l=a
   ·rw[z];exact ha
   ·rw[Bm z]at hl';exact hl'
  have nl:l∉F++O:=fun m=>(R.same s1).th l m hl1
  exact q ns' h1 h2 (.ref l) _ ((s1.trans (Same.upd ha)).trans (Same.upd hl')) (Ji ⟨l,_,rfl,Iu nl,Qe ns'⟩)) h⟩
theorem Ze{l:List Int}(h:l.Nodup)(x:Int):(Gx l x).Nodup:=by
 unfold Gx
 split
 ·exact h
 ·exact List.nodup_cons.mpr ⟨by assumption,h⟩
theorem U7{l:List Int}{x y:Int}:y∈Gx l x↔y∈l∨y=x:=by
 unfold Gx
 split
 ·exact⟨.inl,fun z=>z.elim id fun e=>by rw[e];assumption⟩
 ·rw[List.mem_cons]
  exact Or.comm
theorem Ab8{x y:Int}{ns:List Int}(hp:ns.Perm ([x,y].foldl Gx []))(asc:ns.Pairwise (· ≤ ·)):(∀z,z∈ns↔z=x∨z=y)∧ns.Pairwise (· < ·):=by
 have nd:ns.Nodup:=hp.nodup_iff.mpr (Ze (Ze List.nodup_nil x) y)
 refine⟨fun z=>?_,?_⟩
 ·rw[hp.mem_iff]
  show z∈Gx (Gx [] x) y↔_
  rw[U7,U7]
  simp
 ·exact(List.pairwise_and_iff.mpr ⟨asc,nd⟩).imp fun⟨a,b⟩=>by omega
end
end L2
namespace L2
open PySem Spec PyProof.Rows SeqAt
theorem Qf{L L':List Addr}{H:Hp}(h:∀b,b∈L↔b∈L'):mask L H=mask L' H:=by
 funext b
 by_cases z:b∈L
 ·rw[Cz z,Cz ((h b).mp z)]
 ·rw[Az z,Az fun y=>z ((h b).mpr y)]
section
variable{K:W.Frag}{B:Hp}{F O O1:List Addr}{H H1:Hp}{σ σ':St}{ρ ρ':Bv}{i:Nat}{ds:List Dt}{a:Addr}{xs:List V}
theorem Rep.hide(r:Rep K B F O H σ ρ)(hi:ρ[i]? = some (some (.own ds)))(hs:σ[i]? = some (some (.ref a)))(hl:H a=some (.lst xs))(hF:a∉F)(hO:a∈O)(h1:∀b,b∈O1↔b∈O∧b≠a):Rep K B (a::F) O1 H σ (ρ.set i (some (.raw (.ref a)))):=by
 have hk:i<ρ.length:=(List.getElem?_eq_some_iff.mp hi).1
 have em:mask (a::F++O1) H=mask (F++O) H:=Qf fun b=>by
  simp only[List.cons_append,List.mem_cons,List.mem_append,h1]
  constructor
  ·rintro(rfl|z|⟨z,_⟩)
   ·exact .inr hO
   ·exact .inl z
   ·exact .inr z
  ·rintro(z|z)
   ·exact .inr (.inl z)
   ·by_cases e:b=a
    ·exact .inl e
    ·exact .inr (.inr ⟨z,e⟩)
 have back:∀(j:Nat)(x:En),(∀v,x≠.raw v)→(ρ.set i (some (.raw (.ref a))))[j]? = some (some x)→j≠i∧ρ[j]? = some (some x):=fun j x nx q=>by
  have hj:j≠i:=fun z=>by subst z;rw[List.getElem?_set_self hk]at q;cases q;exact nx _ rfl
  rw[List.getElem?_set_ne (Ne.symm hj)]at q
  exact⟨hj,q⟩
 refine⟨by simpa using r.len,r.base,fun b hb=>r.fr b ((h1 b).mp hb).1,fun b hb=>?_,fun j d q=>?_,fun j es q=>?_,fun j k es es' b q1 q2 q3 q4=>?_,fun j ks q=>?_,fun j k es es' b q1 q2 q3 q4=>?_,fun j v q=>?_⟩
 ·rcases List.mem_append.mp hb with hb|hb
  ·rcases List.mem_cons.mp hb with rfl|hb
   ·rw[hl];simp
   ·exact r.th b (List.mem_append_left _ hb)
  ·exact r.th b (List.mem_append_right _ ((h1 b).mp hb).1)
 ·rw[em]
  exact r.is j d (back j _ (fun _ z=>by cases z) q).2
 ·obtain⟨hj,q'⟩:=back j _ (fun _ z=>by cases z) q
  obtain⟨b,ys,e1,e2,e3,e4,e5⟩:=r.own j es q'
  have nb:b≠a:=fun z=>by rw[z]at e1;exact hj (r.inj j i es ds a q' hi e1 hs)
  exact⟨b,ys,e1,(h1 b).mpr ⟨e2,nb⟩,fun z=>(List.mem_cons.mp z).elim nb e3,e4,by rw[em];exact e5⟩
 ·exact r.inj j k es es' b (back j _ (fun _ z=>by cases z) q1).2 (back k _ (fun _ z=>by cases z) q2).2 q3 q4
 ·obtain⟨hj,q⟩:=back j _ (fun _ z=>by cases z) q
  obtain⟨b,ys,e1,e2,e3,e4,e5⟩:=r.tab j ks q
  have nb:b≠a:=fun z=>by rw[z,hl]at e4;cases e4
  exact⟨b,ys,e1,(h1 b).mpr ⟨e2,nb⟩,fun z=>(List.mem_cons.mp z).elim nb e3,e4,by rw[em];exact e5⟩
 ·exact r.g8 j k es es' b (back j _ (fun _ z=>by cases z) q1).2 (back k _ (fun _ z=>by cases z) q2).2 q3 q4
 ·by_cases hj:j=i
  ·subst hj
   rw[List.getElem?_set_self hk]at q
   cases q
   exact hs
  ·rw[List.getElem?_set_ne (Ne.symm hj)]at q
   exact r.raw j v q
theorem Rep.show(r0:Rep K B F O H1 σ ρ)(hO:a∈O)(hF:a∉F)(hl:H1 a=some (.lst xs))(rl:RpL K (mask (F++O) H1) ds xs)(h1:∀b,b∈O1↔b∈O∧b≠a){O2:List Addr}{H2:Hp}(r:Rep K (mask O1 H1) (a::F) O2 H2 σ' ρ')(hi:ρ'[i]? = some (some (.raw (.ref a)))) :
  Rep K B F (a::O2) H2 σ' (ρ'.set i (some (.own ds))):=by
 have hk:i<ρ'.length:=(List.getElem?_eq_some_iff.mp hi).1
 have hs:=r.raw i _ hi
 have em:mask (F++a::O2) H2=mask (a::F++O2) H2:=Qf fun b=>by
  simp only[List.cons_append,List.mem_cons,List.mem_append]
  constructor
  ·rintro(z|z|z)
   ·exact .inr (.inl z)
   ·exact .inl z
   ·exact .inr (.inr z)
  ·rintro(z|z|z)
   ·exact .inr (.inl z)
   ·exact .inl z
   ·exact .inr (.inr z)
 have sO:Same (mask O H1) (mask O1 H1):=Dy fun b hb=>((h1 b).mp hb).1
 have nO1:a∉O1:=fun z=>((h1 a).mp z).2 rfl
 have la:H2 a=some (.lst xs):=r.base a _ (by rw[Az nO1];exact hl)
 have sB:Same B (mask O1 H1):=r0.sub.trans sO
 have sM:Same (mask (F++O) H1) (mask (a::F++O2) H2):=fun b o e=>by
  obtain⟨nb,e⟩:=BR e
  have nO:b∉O:=fun z=>nb (List.mem_append_right _ z)
  have e1:mask O1 H1 b=some o:=by rw[Az fun z=>nO ((h1 b).mp z).1];exact e
  rw[Az]
  ·exact r.base b o e1
  ·intro z
   rcases List.mem_append.mp z with z|z
   ·rcases List.mem_cons.mp z with z|z
    ·exact nO (by rw[z];exact hO)
    ·exact nb (List.mem_append_left _ z)
   ·rw[r.fr b z]at e1;cases e1
 have back:∀(j:Nat)(x:En),(∀z,x≠.own z)→(ρ'.set i (some (.own ds)))[j]? = some (some x)→j≠i∧ρ'[j]? = some (some x):=fun j x nx q=>by
  have hj:j≠i:=fun z=>by subst z;rw[List.getElem?_set_self hk]at q;cases q;exact nx _ rfl
  rw[List.getElem?_set_ne (Ne.symm hj)]at q
  exact⟨hj,q⟩
 have other:∀(j:Nat) es,j≠i→(ρ'.set i (some (.own ds)))[j]? = some (some (.own es))→σ'[j]? = some (some (.ref a))→False:=fun j es hj q q2=>by
  rw[List.getElem?_set_ne (Ne.symm hj)]at q
  obtain⟨b,ys,e1,e2,e3,_⟩:=r.own j es q
  rw[q2]at e1
  cases e1
  exact e3 List.mem_cons_self
 refine⟨by simpa using r.len,sB.trans r.base,fun b hb=>?_,fun b hb=>?_,fun j d q=>?_,fun j es q=>?_,fun j k es es' b q1 q2 q3 q4=>?_,fun j ks q=>?_,fun j k es es' b q1 q2 q3 q4=>?_,fun j v q=>r.raw j v (Mr (fun _ z=>by cases z) q).2⟩
 ·rcases List.mem_cons.mp hb with rfl|hb
  ·exact r0.fr b hO
  ·cases q:B b with
   |none=>rfl
   |some o=>have:=sB b o q;rw[r.fr b hb]at this;cases this
 ·refine r.th b ?_
  simp only[List.cons_append,List.mem_cons,List.mem_append]at hb ⊢
  rcases hb with z|z|z
  ·exact .inr (.inl z)
  ·exact .inl z
  ·exact .inr (.inr z)
 ·rw[em]
  exact r.is j d (back j _ (fun _ z=>by cases z) q).2
 ·rw[em]
  by_cases hj:j=i
  ·subst hj
   rw[List.getElem?_set_self hk]at q
   cases q
   exact⟨a,xs,hs,List.mem_cons_self,hF,la,rl.mono sM⟩
  ·rw[List.getElem?_set_ne (Ne.symm hj)]at q
   obtain⟨b,ys,e1,e2,e3,e4,e5⟩:=r.own j es q
   exact⟨b,ys,e1,List.mem_cons_of_mem _ e2,fun z=>e3 (List.mem_cons_of_mem _ z),e4,e5⟩
 ·by_cases hj:j=i
  ·by_cases hk2:k=i
   ·rw[hj,hk2]
   ·subst hj
    rw[hs]at q3
    cases q3
    exact(other k es' hk2 q2 q4).elim
  ·by_cases hk2:k=i
   ·subst hk2
    rw[hs]at q4
    cases q4
    exact(other j es hj q1 q3).elim
   ·rw[List.getElem?_set_ne (Ne.symm hj)]at q1
    rw[List.getElem?_set_ne (Ne.symm hk2)]at q2
    exact r.inj j k es es' b q1 q2 q3 q4
 ·rw[em]
  obtain⟨hj,q⟩:=back j _ (fun _ z=>by cases z) q
  obtain⟨b,ys,e1,e2,e3,e4,e5⟩:=r.tab j ks q
  exact⟨b,ys,e1,List.mem_cons_of_mem _ e2,fun z=>e3 (List.mem_cons_of_mem _ z),e4,e5⟩
 ·exact r.g8 j k es es' b (back j _ (fun _ z=>by cases z) q1).2 (back k _ (fun _ z=>by cases z) q2).2 q3 q4
end
section
variable{X:Cx}{e:Expr}{es:List Expr}{st:Stmt}{te:DTE}{tl:DTA}{tA tA':DTT}{t t':DTS}{pos:Pos}
def AbY(j:Nat)(g:DTG)(tb:DTS):DTS:=fun D ρ=>ownAt ρ j fun ds=>∀v:V,∃W:Nat→Bv→Prop,W 0 (ρ.set j (some (.raw v))) ∧
 (∀(k:Nat) d ρ',ds[k]? = some d→W k ρ'→g d ρ' fun ρ2=>tb {D with nx:=W (k+1),ct:=W (k+1),bk:=fun ρ3=>ρ3[j]? = some (some (.raw v))∧D.nx (ρ3.set j (some (.own ds)))} ρ2)∧∀ρ',W ds.length ρ'→ρ'[j]? = some (some (.raw v))∧D.nx (ρ'.set j (some (.own ds)))
theorem AfP(j:Nat){tg:Expr}{body:List Stmt}{g:DTG}{x:Str}{px:Pos}(hp:PassesOwn (model X.prog X.w) X.A X.env X.xe)(hc:X.calm=true)(hg:DG X tg g)(hb:DSs X body t)(hN:X.N[j]? = some x:=by rfl)
  (hv:Vis X.env.scope x:=by first|exact Or.inl rfl|exact Or.inr (Or.inl rfl)|exact Or.inr (Or.inr rfl)) (hd:(x==("__debug__":Str))=false:=by decide) (hcd:(x==("__classdict__":Str))=false:=by decide)
  (hs:∀y,foldedSetIterable (.Name x px) X.env y=pure y:=by intro _;rfl):DS X (.For tg (.Name x px) body [] pos) (AbY j g t) where
 mono:=fun{ρ D D'} hd h=>h.mono fun ds h v=>by
  obtain⟨W,h0,h,he⟩:=h v
  exact⟨W,h0,fun k d ρ' e w=>hg.mono (fun ρ2 q=>hb.mono (D:={D with nx:=W (k+1),ct:=W (k+1),bk:=fun ρ3=>ρ3[j]? = some (some (.raw v))∧D.nx (ρ3.set j (some (.own ds)))}) ⟨fun _ q=>q,hd.rt,fun _ q=>⟨q.1,hd.nx _ q.2⟩,fun _ q=>q⟩ q) (h k d ρ' e w),fun ρ' w=>⟨(he ρ' w).1,hd.nx _ (he ρ' w).2⟩⟩
 ps:=(Abr hp hc (Z1 (Ir hN hv hd hcd)) hg.pg hb.ps hs).imp fun D σ H ⟨B,F,O,ρ,R,h⟩=>by
  obtain⟨ds,e1,h⟩:=h.get
  obtain⟨a,xs,h1,h2,h3,h4,h5⟩:=R.own j ds e1
  obtain⟨W,w0,step,fin⟩:=h (.ref a)
  have hO1:∀b,b∈O.filter (fun b=>decide (b≠a))↔b∈O∧b≠a:=fun b=>by simp
  generalize O.filter (fun b=>decide (b≠a))=O1 at hO1
  have R1:=R.hide e1 h1 h4 h3 h2 hO1
  have nO1:a∉O1:=fun z=>((hO1 a).mp z).2 rfl
  refine⟨_,h1,a,rfl,⟨xs,SqL.of h4⟩,fun i m σ2 H2=>m+i=ds.length∧∃O' ρ',Rep X.K (mask O1 H) (a::F) O' H2 σ2 ρ'∧W i ρ',⟨ds.length,by omega,O1,_,R1.rebase,w0⟩,?_⟩
  rintro i m σ2 H2 ⟨hm,O',ρ',R2,w⟩
  have la:H2 a=some (.lst xs):=R2.base a _ (by rw[Az nO1];exact h4)
  have sM:Same (mask (F++O) H) (mask (a::F++O') H2):=fun b o e=>by
   obtain⟨nb,e⟩:=BR e
   have nO:b∉O:=fun z=>nb (List.mem_append_right _ z)
   have e1:mask O1 H b=some o:=by rw[Az fun z=>nO ((hO1 b).mp z).1];exact e
   rw[Az]
   ·exact R2.base b o e1
   ·intro z
    rcases List.mem_append.mp z with z|z
    ·rcases List.mem_cons.mp z with z|z
     ·exact nO (by rw[z];exact h2)
     ·exact nb (List.mem_append_left _ z)
    ·rw[R2.fr b z]at e1;cases e1
  have sB:Same B (mask O1 H):=R.sub.trans (Dy fun b hb=>((hO1 b).mp hb).1)
  by_cases hlt:i<ds.length
  ·have hi:ds[i]? = some ds[i]:=by simp[hlt]
   obtain⟨y,y1,y2⟩:=h5.get hi
   refine .inr ⟨⟨xs,y,SqL.of la,y1⟩,fun σ' H'=>∃O' ρ',Rep X.K (mask O1 H) (a::F) O' H' σ' ρ'∧W (i+1) ρ',fun σ' H' q=>⟨m-1,by omega,by omega,q⟩,fun z H3 yl=>?_⟩
   obtain⟨e3,e4⟩:=yl
   subst e3
   have e5:=e4 xs (SqL.of la)
   rw[y1]at e5
   cases e5
   refine⟨_,_,O',ρ',_,R2,y2.mono sM,hg.mono (fun ρ2 q σ3 R3=>⟨_,_,O',ρ2,R3,hb.mono (D:={lD X.K B F D with nx:=W (i+1),ct:=W (i+1),bk:=fun ρ3=>ρ3[j]? = some (some (.raw (.ref a)))∧(lD X.K B F D).nx (ρ3.set j (some (.own ds)))}) ⟨?_,?_,?_,?_⟩ q⟩) (step i _ ρ' hi w)⟩
   ·exact fun ρ4 w4 O4 σ4 H4 R4=>⟨O4,ρ4,R4,w4⟩
   ·exact fun d q v H4 s4 r4=>q v H4 (sB.trans s4) (r4.mono (Dy fun b hb=>List.mem_cons_of_mem _ hb))
   ·exact fun ρ4 q O4 σ4 H4 R4=>q.2 _ _ _ (R.show h2 h3 h4 h5 hO1 R4 q.1)
   ·exact fun ρ4 w4 O4 σ4 H4 R4=>⟨O4,ρ4,R4,w4⟩
  ·have e:i=ds.length:=by omega
   subst e
   have f:=fin ρ' w
   exact .inl ⟨⟨xs,SqL.of la,by rw[h5.len];exact Nat.le_refl _⟩,f.2 _ _ _ (R.show h2 h3 h4 h5 hO1 R2 f.1)⟩
def AcG(t t':DTS):DTS:=fun D ρ=>t D ρ∨t' D ρ
theorem Aec(h:DS X st t)(h':DS X st t'):DS X st (AcG t t') where
 mono:=fun hd z=>z.imp (h.mono hd) (h'.mono hd)
 ps:=fun pins s σ H D I ⟨B,F,O,ρ,R,z⟩=>z.elim (fun z=>h.ps pins s σ H D I ⟨B,F,O,ρ,R,z⟩) fun z=>h'.ps pins s σ H D I ⟨B,F,O,ρ,R,z⟩
def Ads(t t':DTT):DTT:=fun ρ Q=>t ρ Q∨t' ρ Q
theorem AcF(h:DT X e tA)(h':DT X e tA'):DT X e (Ads tA tA') where
 mono:=fun hq z=>z.imp (h.mono hq) (h'.mono hq)
 pt:=fun pins s σ H Q I ⟨B,F,O,ρ,R,z⟩=>z.elim (fun z=>h.pt pins s σ H Q I ⟨B,F,O,ρ,R,z⟩) fun z=>h'.pt pins s σ H Q I ⟨B,F,O,ρ,R,z⟩
theorem alt1{D:Ft}{ρ:Bv}(h:t D ρ):AcG t t' D ρ:=.inl h
theorem alt2{D:Ft}{ρ:Bv}(h:t' D ρ):AcG t t' D ρ:=.inr h
theorem AgW{ρ:Bv}{Q:Bool→Prop}(h:tA ρ Q):Ads tA tA' ρ Q:=.inl h
theorem Ag1{ρ:Bv}{Q:Bool→Prop}(h:tA' ρ Q):Ads tA tA' ρ Q:=.inr h
theorem Ade{j:Nat}{g:DTG}{tb:DTS}{D:Ft}{ρ:Bv}(ds:List Dt)(ho:ρ[j]? = some (some (.own ds)))(W:V→Nat→Bv→Prop)(h0:∀v,W v 0 (ρ.set j (some (.raw v))))
  (hs:∀v (k:Nat) d ρ',ds[k]? = some d→W v k ρ'→g d ρ' fun ρ2=>tb {D with nx:=W v (k+1),ct:=W v (k+1),bk:=fun ρ3=>ρ3[j]? = some (some (.raw v))∧D.nx (ρ3.set j (some (.own ds)))} ρ2) (he:∀v ρ',W v ds.length ρ'→ρ'[j]? = some (some (.raw v))∧D.nx (ρ'.set j (some (.own ds)))):AbY j g tb D ρ:=by
 unfold AbY ownAt
 rw[ho]
 exact fun v=>⟨W v,h0 v,hs v,he v⟩
end
end L2
namespace L2
open PySem Spec PyProof.Rows SeqAt
theorem V3(l:Addr)(o:Obj)(n:Nat)(hc:o.cls=.type "list")(hd:o.dict=none)(hs:o.data=.seq #[] n) :
  Meets (Builtin.«list.clear» ⟨[.ref l],[]⟩) (fun _ R s=>s.heap.get? l=some o∧R (.ok (.ret Value.none)) {s with heap:=s.heap.update l (Obj.mapSeq fun _=>#[]),toks:=s.toks}) :=
 .of_wp fun prog w A R s h=>by
  obtain⟨hp,g,d,tk,os⟩:=s
  obtain⟨hl,h⟩:=h
  obtain⟨c,dd,dt,sl⟩:=o
  cases hc;cases hd;cases hs
  wp_walk using wpAny_loadPart' hl
  exact⟨_,rfl,h⟩
section
variable{X:Cx}{e:Expr}{es:List Expr}{te:DTE}{tl:DTA}{pos:Pos}
def AfJ(K:W.Frag):V→List V→Hp→VK→Prop:=fun x vs H Q=>∃l,x=.ref l∧vs=[]∧SqL K H l []∧Q .non H
theorem Aaq:MtM X "list.clear" (AfJ X.K):=by
 intro pins s σ H x vs v us Q I rx rv h
 obtain⟨l,rfl,rfl,hH,q⟩:=h
 cases rx
 have hus:=rv.zero
 subst hus
 obtain⟨its,r,⟨o,n,e,hc,hd,hs⟩,z⟩:=I.list hH
 have hi:its=[]:=by cases r;rfl
 subst hi
 refine call_meets F.slot_list_clear ⟨_,e,hc⟩ F.entry_list_clear (F.args_list_clear_1 _) (V3 l o n hc hd hs) ⟨e,?_⟩
 refine⟨.non,_,I.kept fun b u eb=>?_,rfl,q⟩
 by_cases hb:b=l
 ·subst hb
  rw[e]at eb
  cases eb
  obtain⟨c,dd,dt,sl⟩:=o
  cases hs
  exact Heap.get?_update_self _ e (by rfl)
 ·exact(Heap.get?_update_other _ _ (Ne.symm hb)).trans eb
def Aki(j:Nat):DTS:=fun D ρ=>ρ[j]? = some (some (.is (.lst [])))∧D.nx ρ
theorem Agr(j:Nat){x:Str}{px ap cp:Pos}(hN:X.N[j]? = some x:=by rfl)(hv:Vis X.env.scope x:=by first | exact Or.inl rfl | exact Or.inr (Or.inl rfl) | exact Or.inr (Or.inr rfl))(hd:(x==("__debug__":Str))=false:=by decide)
  (hcd:(x==("__classdict__":Str))=false:=by decide) (hbase:attributeBase (.Name x px) "clear" X.env (eval (.Name x px) X.env)=eval (.Name x px) X.env:=by rfl)
  (hline:(ap.endLine==cp.line)=true:=by rfl)
  (hs:swapsWith (.Call (.Attribute (.Name x px) "clear" ap) [] [] cp) none pos.line X.env=pure false:=by rfl):DS X (.Expr (.Call (.Attribute (.Name x px) "clear" ap) [] [] cp) pos) (Aki j) where
 mono:=fun hd h=>⟨h.1,hd.nx _ h.2⟩
 ps:=(Kh (Xi PySem.F.plainAttrs_list PySem.F.slot_list_clear PySem.F.type_list_clear Aaq (Ir hN hv hd hcd) hbase hline) hs).imp fun D σ H ⟨B,F,O,ρ,R,h1,h⟩=>by
  obtain⟨v,e1,r⟩:=R.is j _ h1
  obtain⟨a,xs,rfl,sq,rl⟩:=DY r
  have hx:=Br.mp rl
  subst hx
  have sq:=Bw.seq sq
  exact⟨_,e1,.inl ⟨rfl,_,sq⟩,a,rfl,rfl,sq,h O σ _ R⟩
def YL(i:Nat)(sp:DSp)(tl:DTA):DTS:=fun D ρ=>tl ρ fun ds=>Dt.dG 4 ds=true∧sp ds fun d=>(∃ks,d=.lst ks∧(∃r,Dt.tup r∈ks)∧Dt.dG 4 ks=true∧D.nx (ρ.set i (some (.own ks))))∨(d=.lst []∧D.nx (ρ.set i (some (.is (.lst [])))))
theorem AaU(i:Nat){k:Nat}{ps:List Str}{sp:DSp}{f y:Str}{stx:Stmt}{p cp pos':Pos}(hN:X.N.Nodup)(m:Hr sp)(G:Pm X.prog X.w X.K X.mg X.base k f stx ps sp)(hr:Em k X.A)(hg:Gl X f)
  (ha:DA X (e::es) tl) (hdb:(f==("__debug__":Str))=false:=by decide) (hi:X.N[i]? = some y:=by rfl) (hx:Loc X.env.scope y:=by first|exact Or.inl rfl|exact Or.inr rfl)
  (he:starEach (e::es) X.env=(false,eval e X.env)::starEach es X.env:=by rfl) (hpl:(backTo cp (starEach es X.env)).any (·.1)=false:=by rfl)
  (hs:swapsWith (.Call (.Name f p) (e::es) [] cp) (some (.Name y pos')) pos.line X.env=pure false:=by rfl)
  (hf:X.fn y=true∨X.env.scope.names.lookup y=some .local:=by first|exact .inl rfl|exact .inr rfl|assumption):DS X (.Assign [.Name y pos'] (.Call (.Name f p) (e::es) [] cp) pos) (YL i sp tl) where
 mono:=fun hd h=>ha.mono (fun ds ⟨h1,h2⟩=>⟨h1,m _ _ _ (fun d z=>z.imp (fun⟨ks,q1,q2,q3,q4⟩=>⟨ks,q1,q2,q3,hd.nx _ q4⟩) fun⟨q1,q2⟩=>⟨q1,hd.nx _ q2⟩) h2⟩) h
 ps:=fun pins s σ H D I ⟨B,F,O,ρ,R,h⟩=>by
  obtain⟨f',fd,FT,G⟩:=G
  refine(Xa hN hi hx (YS G hr hg FT.mg FT.fn.kp FT.bd .nil Sw ha.pa hdb he hpl) hs hf) pins s σ H D I ?_
  refine⟨B,F,O,ρ,R,ha.mono (fun ds ⟨hn,z⟩ vs H1 s1 r1=>?_) h⟩
  show lSp X.K sp (vs++[]) H1 _ E0
  rw[List.append_nil]
  have hL:∀a∈lists H s.heap.objs.size,∃xs,H1 a=some (.lst xs):=fun a h=>by
   obtain⟨xs,e⟩:=Abz h
   exact⟨xs,s1 _ _ e⟩
  refine⟨(F++O)++lists H s.heap.objs.size,ds,fun a h=>?_,?_,m _ _ _ (fun d z2 v H2 s2 r2=>?_) z⟩
  ·rcases List.mem_append.mp h with h|h
   ·exact(R.same s1).th a h
   ·obtain⟨xs,e⟩:=hL a h
    rw[e];simp
  ·refine O5 (fun b o e nl=>?_) 4 ds vs hn r1
   obtain⟨n1,e⟩:=BR e
   rw[Az]
   ·exact e
   ·intro z
    rcases List.mem_append.mp z with z|z
    ·exact n1 z
    ·obtain⟨xs,e'⟩:=hL b z
     rw[e]at e'
     exact nl xs (Option.some.inj e')
  rcases z2 with⟨ks,q1,⟨rr,q2⟩,q3,q4⟩|⟨q1,q2⟩
  ·subst q1
   obtain⟨a,xs,rfl,ls,rl⟩:=O6.mp r2
   have ea:mask ((F++O)++lists H s.heap.objs.size) H2 a=some (.lst xs):=by
    rcases ls with ls|⟨_,hi⟩
    ·exact ls
    ·obtain⟨v,hv,r⟩:=rl.qx q2
     obtain⟨_,_,rfl,_⟩:=Dw.mp r
     obtain⟨i,e⟩:=hi _ hv
     cases e
   obtain⟨na,ea⟩:=BR ea
   have Ha:H a=none:=by
    cases q:H a with
    |none=>rfl
    | some o =>
     have e2:=s2 _ _ (s1 _ _ q)
     rw[ea]at e2
     cases e2
     exact absurd (List.mem_append_right _ (AaJ q (I.hok a _ q).lt)) na
   let H3:Hp:=fun b=>if b=a then none else H2 b
   have h3n:H3 a=none:=if_pos rfl
   have h3o:∀b,b≠a→H3 b=H2 b:=fun b n=>if_neg n
   have eU:upd H3 a (.lst xs)=H2:=by
    funext b
    by_cases n:b=a
    ·subst n;rw[BL,ea]
    ·rw[Bm n,h3o b n]
   have R3:Rep X.K B F O H3 σ ρ:=R.same fun b o q=>by
    rw[h3o b fun n=>by rw[n,Ha]at q;cases q]
    exact s2 _ _ (s1 _ _ q)
   have rl3:RpL X.K (mask (F++O) H3) ks xs:=O5 (fun b o q nl=>by
    obtain⟨n1,q⟩:=BR q
    rw[Az fun z=>n1 (List.mem_append_left _ z),h3o b fun n=>by
     subst n
     rw[ea]at q
     exact nl xs (Option.some.inj q).symm]
    exact q) 4 ks xs q3 rl
   have:=q4 (a::O) _ _ (R3.o7 i h3n rl3)
   rw[eU]at this
   exact this
  ·subst q1
   exact q2 O _ _ ((R.same (s1.trans s2)).set i (r2.mono (Dy fun b hb=>List.mem_append_left _ hb)))
end
end L2
namespace My
open PySem L2
abbrev Uo:DSp:=AgA
abbrev I4:=Int×Int×Int×Int
abbrev I2:=Int×Int
abbrev t4(p:I4):Dt:=T4 p.1 p.2.1 p.2.2.1 p.2.2.2
abbrev t2(p:I2):Dt:=T2 p.1 p.2
def B4(n:Nat)(p:I4):Prop:=Bt n p.1∧Bt n p.2.1∧Bt n p.2.2.1∧Bt n p.2.2.2
def B2(n:Nat)(p:I2):Prop:=Bt n p.1∧Bt n p.2
def det(p:I4):Int:=p.1*p.2.2.2-p.2.1*p.2.2.1
def Dp(t:I4)(p:I2):I2:=(t.1*p.1+t.2.1*p.2,t.2.2.1*p.1+t.2.2.2*p.2)
def Aj(a b:I4):I4:=(a.1*b.1+a.2.1*b.2.2.1,a.1*b.2.1+a.2.1*b.2.2.2,a.2.2.1*b.1+a.2.2.2*b.2.2.1,a.2.2.1*b.2.1+a.2.2.2*b.2.2.2)
def Ar(t:I4):I4:=(t.2.2.2,-t.2.1,-t.2.2.1,t.1)
theorem B4.le{n m:Nat}{t:I4}(h:B4 n t)(l:n≤m):B4 m t:=⟨h.1.le l,h.2.1.le l,h.2.2.1.le l,h.2.2.2.le l⟩
theorem B4.back{n:Nat}{t:I4}(h:B4 n t):B4 n (Ar t):=⟨h.2.2.2,h.2.1.neg,h.2.2.1.neg,h.1⟩
theorem B2.led{n m:Nat}{t:I4}{p:I2}(h:B4 n t)(q:B2 m p):B2 (n+m+1) (Dp t p) :=
 ⟨((h.1.mul q.1).add (h.2.1.mul q.2)).le (by omega),((h.2.2.1.mul q.1).add (h.2.2.2.mul q.2)).le (by omega)⟩
theorem B4.then{n m:Nat}{t u:I4}(h:B4 n t)(q:B4 m u):B4 (n+m+1) (Aj t u) :=
 ⟨((h.1.mul q.1).add (h.2.1.mul q.2.2.1)).le (by omega),((h.1.mul q.2.1).add (h.2.1.mul q.2.2.2)).le (by omega),((h.2.2.1.mul q.1).add (h.2.2.2.mul q.2.2.1)).le (by omega),((h.2.2.1.mul q.2.1).add (h.2.2.2.mul q.2.2.2)).le (by omega)⟩
theorem CJ{t:I4}:det (Ar t)=det t:=by obtain⟨a,b,c,d⟩:=t;simp only[det,Ar];grind
theorem BK{t u:I4}:det (Aj t u)=det t*det u:=by obtain⟨a,b,c,d⟩:=t;obtain⟨e,f,g,h⟩:=u;simp only[det,Aj];grind
theorem Fq{t:I4}(h:det t=1):Aj t (Ar t)=(1,0,0,1):=by
 obtain⟨a,b,c,d⟩:=t
 simp only[det,Aj,Ar,Prod.mk.injEq]at *
 refine⟨?_,?_,?_,?_⟩<;>grind
theorem R7{t:I4}(h:det t=1):Aj (Ar t) t=(1,0,0,1):=by
 obtain⟨a,b,c,d⟩:=t
 simp only[det,Aj,Ar,Prod.mk.injEq]at *
 refine⟨?_,?_,?_,?_⟩<;>grind
theorem J8{t:I4}{p:I2}(h:det t=1):Dp (Ar t) (Dp t p)=p:=by
 obtain⟨a,b,c,d⟩:=t
 obtain⟨x,y⟩:=p
 simp only[det,Dp,Ar,Prod.mk.injEq]at *
 refine⟨?_,?_⟩<;>grind
theorem PN{t u:I4}{p:I2}:Dp (Aj t u) p=Dp t (Dp u p):=by
 obtain⟨a,b,c,d⟩:=t
 obtain⟨e,f,g,i⟩:=u
 obtain⟨x,y⟩:=p
 simp only[Dp,Aj,Prod.mk.injEq]
 refine⟨?_,?_⟩<;>grind
theorem Ady{s t:I4}:Dt.eq (t4 s) (t4 t)=decide (s=t):=by
 obtain⟨a,b,c,d⟩:=s
 obtain⟨e,f,g,h⟩:=t
 simp only[Wy,Tn,Ug,RT,Prod.mk.injEq,Bool.and_true]
 simp only[Bool.decide_and]
abbrev I3:=Int×Int×Int
abbrev t3(p:I3):Dt:=T3 p.1 p.2.1 p.2.2
def B3(n:Nat)(p:I3):Prop:=Bt n p.1∧Bt n p.2.1∧Bt n p.2.2
theorem B3.le{n m:Nat}{t:I3}(h:B3 n t)(l:n≤m):B3 m t:=⟨h.1.le l,h.2.1.le l,h.2.2.le l⟩
def meas(f:I3):Int:=f.2.1*f.2.1-4*f.1*f.2.2
def val(f:I3)(p:I2):Int:=f.1*p.1*p.1+f.2.1*p.1*p.2+f.2.2*p.2*p.2
def mid(f:I3)(l r:I2):Int:=2*f.1*l.1*r.1+f.2.1*(l.1*r.2+r.1*l.2)+2*f.2.2*l.2*r.2
def mov(f:I3)(t:I4):I3:=(val f (t.1,t.2.2.1),mid f (t.1,t.2.2.1) (t.2.1,t.2.2.2),val f (t.2.1,t.2.2.2))
theorem Tr{f:I3}{t:I4}{p:I2}:val (mov f t) p=val f (Dp t p):=by
 obtain⟨a,b,c⟩:=f;obtain⟨e,g,h,i⟩:=t;obtain⟨x,y⟩:=p
 simp only[val,mov,mid,Dp];grind
theorem Bu{f:I3}{t:I4}(h:det t=1):meas (mov f t)=meas f:=by
 obtain⟨a,b,c⟩:=f;obtain⟨e,g,i,j⟩:=t
 simp only[det]at h
 have e1:meas (mov (a,b,c) (e,g,i,j))=(e*j-g*i)*(e*j-g*i)*meas (a,b,c):=by simp only[meas,mov,val,mid];grind
 rw[e1,h];simp
theorem Bc{f:I3}{t u:I4}:mov (mov f t) u=mov f (Aj t u):=by
 obtain⟨a,b,c⟩:=f;obtain⟨e,g,i,j⟩:=t;obtain⟨k,l,m,n⟩:=u
 simp only[mov,val,mid,Aj,Prod.mk.injEq]
 refine⟨?_,?_,?_⟩<;>grind
theorem Ec{f:I3}:mov f (1,0,0,1)=f:=by
 obtain⟨a,b,c⟩:=f
 simp only[mov,val,mid,Prod.mk.injEq]
 refine⟨?_,?_,?_⟩<;>grind
theorem AgV{s t:I3}:Dt.eq (t3 s) (t3 t)=decide (s=t):=by
 obtain⟨a,b,c⟩:=s
 obtain⟨e,f,g⟩:=t
 simp only[Wy,Tn,Ug,RT,Prod.mk.injEq,Bool.and_true]
 simp only[Bool.decide_and]
theorem B3.mov{f:I3}{t:I4}{n m:Nat}(hf:B3 n f)(ht:B4 m t):B3 (n+m+m+5) (mov f t):=by
 obtain⟨a,b,c⟩:=f;obtain⟨e,g,i,j⟩:=t
 obtain⟨ha,hb,hc⟩:=hf
 obtain⟨he,hg,hi,hj⟩:=ht
 have h2:Bt 2 2:=Bt.au (by decide)
 refine⟨?_,?_,?_⟩
 ·exact((((ha.mul he).mul he).add ((hb.mul he).mul hi)).add ((hc.mul hi).mul hi)).le (by omega)
 ·exact(((((h2.mul ha).mul he).mul hg).add (hb.mul ((he.mul hj).add (hg.mul hi)))).add (((h2.mul hc).mul hi).mul hj)).le (by omega)
 ·exact((((ha.mul hg).mul hg).add ((hb.mul hg).mul hj)).add ((hc.mul hj).mul hj)).le (by omega)
def Sq(n r:Int):Prop:=0≤r∧r*r≤n∧n<(r+1)*(r+1)
theorem Sq.uniq{n r s:Int}(a:Sq n r)(b:Sq n s):r=s:=by
 obtain⟨a0,a1,a2⟩:=a
 obtain⟨b0,b1,b2⟩:=b
 rcases Int.lt_trichotomy r s with h|h|h
 ·have:=Int.mul_le_mul (show r+1≤s by omega) (show r+1≤s by omega) (by omega) b0
  omega
 ·exact h
 ·have:=Int.mul_le_mul (show s+1≤r by omega) (show s+1≤r by omega) (by omega) a0
  omega
theorem R9{n g:Int}(hn:0≤n)(hg:0<g):n<((g+n / g) / 2+1)*((g+n / g) / 2+1):=by
 have h1:n<g*(n / g)+g:=Int.lt_mul_ediv_self_add hg
 have h0:0≤n / g:=Int.ediv_nonneg hn (by omega)
 generalize n / g=q at *
 have hb:g+q≤2*((g+q) / 2)+1:=by omega
 have hb0:0≤(g+q) / 2:=by omega
 generalize (g+q) / 2=b at *
 have z1:0≤(g-q-1)*(g-q-1):=by
  rcases Int.le_total 0 (g-q-1)with h|h
  ·exact Int.mul_nonneg h h
  ·exact Int.mul_nonneg_of_nonpos_of_nonpos h h
 have z2:(g+q+1)*(g+q+1)=(g-q-1)*(g-q-1)+4*(g*q+g):=by grind
 have z3:(g+q+1)*(g+q+1)≤(2*(b+1))*(2*(b+1)):=Int.mul_le_mul (by omega) (by omega) (by omega) (by omega)
 have z4:(2*(b+1))*(2*(b+1))=4*((b+1)*(b+1)):=by grind
 omega
theorem W2{n g:Int}(hg:0<g)(h:g≤(g+n / g) / 2):g*g≤n:=by
 have h1:g*(n / g)≤n:=Int.mul_ediv_self_le (by omega)
 have h2:g≤n / g:=by omega
 have:=Int.mul_le_mul_of_nonneg_left h2 (show 0≤g by omega)
 omega
theorem Wt{n g:Int}(hg:0<g)(h:n<g*g):(g+n / g) / 2<g:=by
 have h2:n / g<g:=Int.ediv_lt_of_lt_mul hg (by rw[Int.mul_comm]at h;exact h)
 omega
theorem Yt{n g:Int}(hn:1≤n)(hg:0<g):0<(g+n / g) / 2:=by
 have h0:0≤n / g:=Int.ediv_nonneg (by omega) (by omega)
 rcases Int.lt_or_le g 2 with h|h
 ·have:g=1:=by omega
  subst this
  rw[Int.ediv_one];omega
 ·omega
theorem Ve{n:Int}(hn:0≤n):n<(1*2 ^ ((((Builtin.Int.intBits n:Nat):Int)+1).fdiv 2).toNat+1)*(1*2 ^ ((((Builtin.Int.intBits n:Nat):Int)+1).fdiv 2).toNat+1):=by
 have h1:n.natAbs<2 ^ Builtin.Int.intBits n:=intBits_le_iff.mp (Nat.le_refl _)
 generalize Builtin.Int.intBits n=b at *
 have e:((((b:Nat):Int)+1).fdiv 2).toNat=(b+1) / 2:=by
  rw[Int.fdiv_eq_ediv_of_nonneg _ (by decide)];omega
 rw[e]
 generalize hk:(b+1) / 2=k
 have h2:2 ^ b≤2 ^ k*2 ^ k:=by rw[←Nat.pow_add];exact Nat.pow_le_pow_right (by decide) (by omega)
 have h3:n<((2 ^ k*2 ^ k:Nat):Int):=by omega
 have h4:((2 ^ k*2 ^ k:Nat):Int)=(2 ^ k:Int)*2 ^ k:=by push_cast;rfl
 rw[h4]at h3
 have h5:(0:Int)≤2 ^ k:=Int.pow_nonneg (by decide)
 generalize (2 ^ k:Int)=z at *
 have:(1*z+1)*(1*z+1)=z*z+2*z+1:=by grind
 omega
theorem N6{n:Int}(h:Bt 4000 n):Abj 1 ((((Builtin.Int.intBits n:Nat):Int)+1).fdiv 2)∧Bt 2001 (1*2 ^ ((((Builtin.Int.intBits n:Nat):Int)+1).fdiv 2).toNat)∧0<(1*2 ^ ((((Builtin.Int.intBits n:Nat):Int)+1).fdiv 2).toNat:Int):=by
 have hb:Builtin.Int.intBits n≤4000:=intBits_le_iff.mpr h
 generalize Builtin.Int.intBits n=b at *
 rw[Int.fdiv_eq_ediv_of_nonneg _ (by decide)]
 refine⟨⟨by omega,by omega,by decide⟩,?_,?_⟩
 ·have e:(((b:Int)+1) / 2).toNat≤2000:=by omega
  generalize (((b:Int)+1) / 2).toNat=k at *
  unfold Bt
  rw[Int.one_mul,Int.natAbs_pow]
  exact Nat.pow_lt_pow_right (by decide) (by omega)
 ·rw[Int.one_mul]
  exact Int.pow_pos (by decide)
theorem Tq{n g:Int}(hg:0<g):(g+n.fdiv g).fdiv 2=(g+n / g) / 2:=by
 rw[Int.fdiv_eq_ediv_of_nonneg _ (by decide),Int.fdiv_eq_ediv_of_nonneg _ (by omega)]
def KR(n:Int):Prop:=∃r:Int,r*r=n
theorem Vs{n r:Int}(h:Sq n r):KR n↔r*r=n:=by
 refine⟨fun⟨s,e⟩=>?_,fun e=>⟨r,e⟩⟩
 have hs:Sq n (s.natAbs:Int):=by
  have e2:(s.natAbs:Int)*(s.natAbs:Int)=n:=(Int.natAbs_mul_self' s).trans e
  refine⟨by omega,by omega,?_⟩
  have:((s.natAbs:Int)+1)*((s.natAbs:Int)+1)=(s.natAbs:Int)*(s.natAbs:Int)+2*(s.natAbs:Int)+1:=by grind
  omega
 rw[h.uniq hs]
 exact(Int.natAbs_mul_self' s).trans e
theorem Ln{n:Int}(h:n<0):¬KR n:=fun⟨r,e⟩=>by
 have:0≤r*r:=by
  rcases Int.le_total 0 r with h|h
  ·exact Int.mul_nonneg h h
  ·exact Int.mul_nonneg_of_nonpos_of_nonpos h h
 omega
abbrev Ms:DSp:=spec (fun n:Int=>[.int n]) (fun n=>0≤n∧Bt 4000 n) fun n d=>∃r,d=.int r∧Sq n r∧Bt 2001 r
abbrev Lk:DSp:=spec (fun n:Int=>[.int n]) (fun n=>Bt 4000 n) fun n d=>∃b:Bool,d=.bl b∧(b=true↔KR n)
theorem Kf(a b:Int):a.fmod b=a-b*a.fdiv b:=Int.fmod_def a b
theorem ZX{a b:Int}(h:b≠0):(a.fmod b).natAbs<b.natAbs:=by
 rcases Int.lt_or_lt_of_ne h with h|h
 ·have e:a.fmod b=-((-a).fmod (-b)):=by rw[Kf,Kf,Int.neg_fdiv_neg];grind
  have h1:=Int.fmod_nonneg_of_pos (-a) (show 0 < -b by omega)
  have h2:=Int.fmod_lt_of_pos (-a) (show 0 < -b by omega)
  omega
 ·have h1:=Int.fmod_nonneg_of_pos a h
  have h2:=Int.fmod_lt_of_pos a h
  omega
theorem Adi(a b:Int):Int.gcd b (a.fmod b)=Int.gcd a b:=by
 rw[Kf]
 have:a-b*a.fdiv b=a+b*(-(a.fdiv b)):=by grind
 rw[this,Int.gcd_comm]
 first
  |rw[Int.gcd_add_mul_left_left]
  |simp
def g3(f:I3):Nat:=Int.gcd ((Int.gcd f.1 f.2.1:Nat):Int) f.2.2
inductive Ab0(f:I3):Dt→Prop
 |flat:KR (meas f)→Ab0 f (.str "flat")
 |saddle:¬KR (meas f)→0<meas f→Ab0 f (.str "saddle")
 |bowl:¬KR (meas f)→¬0<meas f→0<f.1→Ab0 f (.str "bowl")
 |dome:¬KR (meas f)→¬0<meas f→¬0<f.1→Ab0 f (.str "dome")
def Pt(x y:Int):Prop:=¬(x=0∧y=0)
structure BJ(f:I3):Prop where
 pos:0<f.1
 lo:-f.1≤f.2.1
 hi:f.2.1≤f.1
 ac:f.1≤f.2.2
 edge:f.2.1=-f.1∨f.1=f.2.2→0≤f.2.1
theorem sq_pos{x:Int}(h:x≠0):1≤x*x:=by
 rcases Int.lt_or_lt_of_ne h with h|h
 ·have:=Int.mul_le_mul_of_nonneg_left (show 1≤-x by omega) (show 0≤-x by omega)
  have e:(-x)*(-x)=x*x:=by grind
  omega
 ·have:=Int.mul_le_mul_of_nonneg_left (show 1≤x by omega) (show 0≤x by omega)
  omega
theorem Ui{a b c x y:Int}(ha:0<a)(h1:-a≤b)(h2:b≤a)(hc:a≤c)(hx:x≠0)(hy:y≠0):c≤val (a,b,c) (x,y):=by
 have key:∀X Y B:Int,1≤X→1≤Y→0≤B→B≤a→a+c-B≤a*(X*X)-B*(X*Y)+c*(Y*Y):=fun X Y B hX hY hB0 hB=>by
  have sX:1≤X*X:=sq_pos (by omega)
  have sY:1≤Y*Y:=sq_pos (by omega)
  rcases Int.le_total Y X with h|h
  ·have z1:X*Y≤X*X:=Int.mul_le_mul_of_nonneg_left h (by omega)
   have z2:B*(X*Y)≤B*(X*X):=Int.mul_le_mul_of_nonneg_left z1 hB0
   have z3:(a-B)*1≤(a-B)*(X*X):=Int.mul_le_mul_of_nonneg_left sX (by omega)
   have z4:c*1≤c*(Y*Y):=Int.mul_le_mul_of_nonneg_left sY (by omega)
   have z5:(a-B)*(X*X)=a*(X*X)-B*(X*X):=by grind
   omega
  ·have z1:X*Y≤Y*Y:=Int.mul_le_mul_of_nonneg_right h (by omega)
   have z2:B*(X*Y)≤B*(Y*Y):=Int.mul_le_mul_of_nonneg_left z1 hB0
   have z3:(c-B)*1≤(c-B)*(Y*Y):=Int.mul_le_mul_of_nonneg_left sY (by omega)
   have z4:a*1≤a*(X*X):=Int.mul_le_mul_of_nonneg_left sX (by omega)
   have z5:(c-B)*(Y*Y)=c*(Y*Y)-B*(Y*Y):=by grind
   omega
 have hX:1≤(x.natAbs:Int):=by omega
 have hY:1≤(y.natAbs:Int):=by omega
 have k:=key x.natAbs y.natAbs b.natAbs hX hY (by omega) (by omega)
 have e1:(x.natAbs:Int)*x.natAbs=x*x:=Int.natAbs_mul_self' x
 have e2:(y.natAbs:Int)*y.natAbs=y*y:=Int.natAbs_mul_self' y
 have e3:-((b.natAbs:Int)*((x.natAbs:Int)*y.natAbs))≤b*(x*y):=by
  have:((b.natAbs:Int)*((x.natAbs:Int)*y.natAbs))=((b*(x*y)).natAbs:Int):=by rw[Int.natAbs_mul,Int.natAbs_mul];push_cast;rfl
  rw[this];omega
 rw[e1,e2]at k
 have e4:val (a,b,c) (x,y)=a*(x*x)+b*(x*y)+c*(y*y):=by simp only[val];grind
 rw[e4]
 omega
theorem K4{a b c x:Int}:val (a,b,c) (x,0)=a*(x*x):=by simp only[val];grind
theorem Tw{a b c y:Int}:val (a,b,c) (0,y)=c*(y*y):=by simp only[val];grind
theorem BJ.min{f:I3}(L:BJ f){x y:Int}(h:Pt x y):f.1≤val f (x,y):=by
 obtain⟨a,b,c⟩:=f
 obtain⟨h0,h1,h2,h3,_⟩:=L
 simp only at h0 h1 h2 h3 ⊢
 by_cases hy:y=0
 ·subst hy
  have hx:x≠0:=fun z=>h ⟨z,rfl⟩
  rw[K4]
  have:=Int.mul_le_mul_of_nonneg_left (sq_pos hx) (show 0≤a by omega)
  omega
 ·by_cases hx:x=0
  ·subst hx
   rw[Tw]
   have:=Int.mul_le_mul_of_nonneg_left (sq_pos hy) (show 0≤c by omega)
   omega
  ·have:=Ui h0 h1 h2 h3 hx hy
   omega
theorem BJ.low{f:I3}(L:BJ f){x y:Int}(h:val f (x,y)<f.2.2):y=0:=by
 obtain⟨a,b,c⟩:=f
 obtain⟨h0,h1,h2,h3,_⟩:=L
 simp only at h0 h1 h2 h3 h ⊢
 by_cases hy:y=0
 ·exact hy
 ·exfalso
  by_cases hx:x=0
  ·subst hx
   rw[Tw]at h
   have:=Int.mul_le_mul_of_nonneg_left (sq_pos hy) (show 0≤c by omega)
   omega
  ·have:=Ui h0 h1 h2 h3 hx hy
   omega
theorem AbV{t:I4}(h:det t=1):Pt t.1 t.2.2.1:=fun⟨h1,h2⟩=>by
 obtain⟨p,q,r,s⟩:=t
 simp only[det]at h h1 h2
 rw[h1,h2]at h
 simp at h
theorem Ci{f:I3}{t:I4}(h:det t=1):mov (mov f t) (Ar t)=f:=by rw[Bc,Fq h,Ec]
theorem M9{x:Int}(h:x*x=1):x=1∨x=-1:=by
 rcases Int.lt_or_le x 0 with z|z
 ·have:(-x)*(-x)=1:=by grind
  rcases Int.lt_or_le (-x) 2 with w|w
  ·exact .inr (by omega)
  ·have:=Int.mul_le_mul w w (by decide) (by omega)
   omega
 ·rcases Int.lt_or_le x 2 with w|w
  ·rcases Int.lt_or_le x 1 with v|v
   ·have:x=0:=by omega
    rw[this]at h;simp at h
   ·exact .inl (by omega)
  ·have:=Int.mul_le_mul w w (by decide) z
   omega
theorem BJ.fix{f:I3}{t:I4}(L:BJ f)(M:BJ (mov f t))(h:det t=1)(ha:(mov f t).1=f.1)(hc:f.1<f.2.2):t=(1,0,0,1)∨t=(-1,0,0,-1):=by
 obtain⟨a,b,c⟩:=f
 obtain⟨p,q,r,s⟩:=t
 have e1:(mov (a,b,c) (p,q,r,s)).1=val (a,b,c) (p,r):=rfl
 have hr:r=0:=L.low (x:=p) (by rw[←e1,ha];exact hc)
 subst hr
 rw[e1,K4]at ha
 have h0:0<a:=L.pos
 simp only at ha
 have hpp:p*p=1:=by
  have:a*(p*p)=a*1:=by rw[ha];omega
  exact Int.eq_of_mul_eq_mul_left (by omega) this
 have hps:p*s=1:=by simp only[det]at h;omega
 have hb:(mov (a,b,c) (p,q,0,s)).2.1=2*(a*(p*q))+b:=by
  show 2*a*p*q+b*(p*s+q*0)+2*c*0*s=_
  rw[hps];grind
 have m1:-a≤2*(a*(p*q))+b:=by
  have:=M.lo
  rw[hb,e1,K4,hpp]at this
  omega
 have m2:2*(a*(p*q))+b≤a:=by
  have:=M.hi
  rw[hb,e1,K4,hpp]at this
  omega
 have m3:2*(a*(p*q))+b=-a→0≤2*(a*(p*q))+b:=fun z=>by
  have:=M.edge (.inl (by rw[hb,e1,K4,hpp];omega))
  rw[hb]at this
  exact this
 have l1:-a≤b:=L.lo
 have l2:b≤a:=L.hi
 have l3:b=-a→0≤b:=fun z=>L.edge (.inl z)
 have hq:p*q=0:=by
  generalize p*q=k at *
  rcases Int.lt_trichotomy k 0 with z|z|z
  ·have:=Int.mul_le_mul_of_nonneg_left (show k≤-1 by omega) (show 0≤a by omega)
   omega
  ·exact z
  ·have:=Int.mul_le_mul_of_nonneg_left (show 1≤k by omega) (show 0≤a by omega)
   omega
 rcases M9 hpp with rfl|rfl
 ·have h1:q=0:=by omega
  have h2:s=1:=by omega
  rw[h1,h2];exact .inl rfl
 ·have h1:q=0:=by omega
  have h2:s=-1:=by omega
  rw[h1,h2];exact .inr rfl
theorem BJ.one{f:I3}{t:I4}(L:BJ f)(M:BJ (mov f t))(h:det t=1):mov f t=f:=by
 have d1:f.1≤(mov f t).1:=by
  have e1:(mov f t).1=val f (t.1,t.2.2.1):=rfl
  rw[e1];exact L.min (AbV h)
 have hk:det (Ar t)=1:=CJ.trans h
 have d2:(mov f t).1≤f.1:=by
  have:=M.min (AbV hk)
  have e1:(mov (mov f t) (Ar t)).1=val (mov f t) ((Ar t).1,(Ar t).2.2.1):=rfl
  rw[←e1,Ci h]at this
  exact this
 have ha:(mov f t).1=f.1:=by omega
 have hm:=Bu (f:=f) h
 by_cases hc:f.1<f.2.2
 ·rcases L.fix M h ha hc with e|e
  ·rw[e,Ec]
  ·rw[e]
   obtain⟨a,b,c⟩:=f
   simp only[mov,val,mid,Prod.mk.injEq]
   refine⟨?_,?_,?_⟩<;>grind
 ·by_cases hc':(mov f t).1<(mov f t).2.2
  ·exfalso
   have L':BJ (mov (mov f t) (Ar t)):=by rw[Ci h];exact L
   have ha':(mov (mov f t) (Ar t)).1=(mov f t).1:=by rw[Ci h];exact ha.symm
   rcases M.fix L' hk ha' hc' with e|e
   ·have:f=mov f t:=by
     have z:=Ci (f:=f) h
     rw[e,Ec]at z
     exact z.symm
    rw[←this]at hc'
    exact hc hc'
   ·have:f=mov f t:=by
     have z:=Ci (f:=f) h
     rw[e]at z
     have z2:mov (mov f t) (-1,0,0,-1)=mov f t:=by
      obtain⟨a,b,c⟩:=mov f t
      simp only[mov,val,mid,Prod.mk.injEq]
      refine⟨?_,?_,?_⟩<;>grind
     rw[z2]at z
     exact z.symm
    rw[←this]at hc'
    exact hc hc'
  ·have l3:=L.ac
   have m3:=M.ac
   have l5:=L.edge (.inr (by omega))
   have m5:=M.edge (.inr (by omega))
   have l0:=L.pos
   have e2:f.2.2=f.1:=by omega
   have e3:(mov f t).2.2=f.1:=by omega
   generalize mov f t=g at *
   obtain⟨a,b,c⟩:=f
   obtain⟨a',b',c'⟩:=g
   simp only at *
   subst ha e2 e3
   simp only[meas]at hm
   have hbb:b'*b'=b*b:=by omega
   have:b'=b:=by
    rcases Int.lt_trichotomy b' b with z|z|z
    ·have z1:b'*b'≤b'*b:=Int.mul_le_mul_of_nonneg_left (by omega) m5
     have z2:b'*b<b*b:=Int.mul_lt_mul_of_pos_right z (by omega)
     omega
    ·exact z
    ·have z1:b*b≤b*b':=Int.mul_le_mul_of_nonneg_left (by omega) l5
     have z2:b*b'<b'*b':=Int.mul_lt_mul_of_pos_right z (by omega)
     omega
   rw[this]
theorem AlO(ns:List Int)(lo hi:Option Int):∃cs:List Int,cutD (ns.map Dt.int) lo hi=cs.map Dt.int∧cs.length≤ns.length:=by
 refine⟨(ns.drop (HT.sIx (ns.map Dt.int).length 0 lo)).take (HT.sIx (ns.map Dt.int).length (ns.map Dt.int).length hi-HT.sIx (ns.map Dt.int).length 0 lo),by unfold cutD;rw[List.map_take,List.map_drop],?_⟩
 rw[List.length_take,List.length_drop];omega
theorem CK(x:Int){m:Int}(h:0<m):0≤x.fmod m∧x.fmod m<m:=⟨Int.fmod_nonneg_of_pos x h,Int.fmod_lt_of_pos x h⟩
theorem Y8{zs:List Int}{k:Int}{P:Int→Prop}(h0:0≤k)(h1:k<zs.length)(hP:∀z∈zs,P z):∃z,ixD k (.lst (zs.map Dt.int))=some (.int z)∧P z:=by
 refine⟨_,Y5 h0 h1,hP _ ?_⟩
 have:k.toNat<zs.length:=by omega
 simp[this]
theorem sq_nonneg(x:Int):0≤x*x:=by
 rcases Int.le_total 0 x with h|h
 ·exact Int.mul_nonneg h h
 ·exact Int.mul_nonneg_of_nonpos_of_nonpos h h
theorem Aev(ns:List Int)(lo hi:Option Int):∃cs:List Int,cutD (ns.map Dt.int) lo hi=cs.map Dt.int∧cs.length≤ns.length∧∀n∈cs,n∈ns:=by
 refine⟨(ns.drop (HT.sIx (ns.map Dt.int).length 0 lo)).take (HT.sIx (ns.map Dt.int).length (ns.map Dt.int).length hi-HT.sIx (ns.map Dt.int).length 0 lo),by unfold cutD;rw[List.map_take,List.map_drop],?_,fun n h=>List.mem_of_mem_drop (List.mem_of_mem_take h)⟩
 rw[List.length_take,List.length_drop];omega
end My
namespace My
open PySem L2
def Bs(f:I3):Prop:=0<f.1∧meas f<0
def stands(f:I3):Bool:=decide (-f.1≤f.2.1∧f.2.1≤f.1∧f.1≤f.2.2)&&(decide (0≤f.2.1)||(decide (f.2.1≠-f.1)&&decide (f.1≠f.2.2)))
theorem Bq{f:I3}(h:0<f.1)(s:stands f=true):BJ f:=by
 simp only[stands,Bool.and_eq_true,Bool.or_eq_true,decide_eq_true_eq]at s
 obtain⟨⟨h1,h2,h3⟩,h4⟩:=s
 exact⟨h,h1,h2,h3,fun z=>by rcases h4 with h4|⟨h4,h5⟩;exact h4;rcases z with z|z;exact absurd z h4;exact absurd z h5⟩
theorem BJ.bowl{f:I3}(L:BJ f):Bs f:=by
 obtain⟨a,b,c⟩:=f
 refine⟨L.pos,?_⟩
 have h0:0<a:=L.pos
 have h1:-a≤b:=L.lo
 have h2:b≤a:=L.hi
 have h3:a≤c:=L.ac
 have h4:b*b≤a*a:=by
  have e1:(b.natAbs:Int)*b.natAbs=b*b:=Int.natAbs_mul_self' b
  have:=Int.mul_le_mul (show(b.natAbs:Int)≤a by omega) (show(b.natAbs:Int)≤a by omega) (by omega) (by omega)
  omega
 have h5:a*a≤a*c:=Int.mul_le_mul_of_nonneg_left h3 (by omega)
 have h6:1≤a*a:=sq_pos (by omega)
 show b*b-4*a*c<0
 have e:4*a*c=4*(a*c):=by grind
 omega
theorem BJ.bt{f:I3}{n:Nat}(L:BJ f)(h:Bt n (meas f)):B3 n f:=by
 obtain⟨a,b,c⟩:=f
 have h0:0<a:=L.pos
 have h1:-a≤b:=L.lo
 have h2:b≤a:=L.hi
 have h3:a≤c:=L.ac
 have h4:b*b≤a*a:=by
  have e1:(b.natAbs:Int)*b.natAbs=b*b:=Int.natAbs_mul_self' b
  have:=Int.mul_le_mul (show(b.natAbs:Int)≤a by omega) (show(b.natAbs:Int)≤a by omega) (by omega) (by omega)
  omega
 have h5:a*a≤a*c:=Int.mul_le_mul_of_nonneg_left h3 (by omega)
 have h6:1*c≤a*c:=Int.mul_le_mul_of_nonneg_right (by omega) (by omega)
 have hm:meas (a,b,c)=b*b-4*(a*c):=by simp only[meas];grind
 have hc:Bt n c:=by unfold Bt at *;rw[hm]at h;omega
 refine⟨?_,?_,hc⟩
 ·show Bt n a
  unfold Bt at *;omega
 ·show Bt n b
  unfold Bt at *;omega
def oft(f:I3):Int:=(f.1-f.2.1).fdiv (2*f.1)
def DR(f:I3):I4:=if oft f≠0 then(1,oft f,0,1)else(0,-1,1,0)
theorem RX{f:I3}:det (DR f)=1:=by
 unfold DR
 split<;>simp[det]
theorem Vu{a b c k:Int}:mov (a,b,c) (1,k,0,1)=(a,b+2*a*k,a*k*k+b*k+c):=by
 simp only[mov,val,mid,Prod.mk.injEq]
 refine⟨?_,?_,?_⟩<;>grind
theorem WL{a b c:Int}:mov (a,b,c) (0,-1,1,0)=(c,-b,a):=by
 simp only[mov,val,mid,Prod.mk.injEq]
 refine⟨?_,?_,?_⟩<;>grind
theorem Kd{a b:Int}(h:0<a):-a<b+2*a*((a-b).fdiv (2*a))∧b+2*a*((a-b).fdiv (2*a))≤a:=by
 rw[Int.fdiv_eq_ediv_of_nonneg _ (by omega)]
 have h1:=Int.lt_mul_ediv_self_add (x:=a-b) (show 0<2*a by omega)
 have h2:=Int.mul_ediv_self_le (x:=a-b) (k:=2*a) (by omega)
 omega
theorem Wi{a b:Int}(h:0<a)(z:(a-b).fdiv (2*a)=0):-a<b∧b≤a:=by
 have:=Kd (b:=b) h
 rw[z]at this
 omega
def msr(f:I3):Nat:=4*f.1.toNat+(if -f.1<f.2.1∧f.2.1≤f.1 then 0 else 2)+(if f.2.1<0 then 1 else 0)
theorem Mw{f:I3}(h:Bs f):0<f.2.2:=by
 obtain⟨a,b,c⟩:=f
 obtain⟨h0,h1⟩:=h
 simp only[meas]at h0 h1 ⊢
 rcases Int.lt_or_le 0 c with h|h
 ·exact h
 ·exfalso
  have h2:0≤b*b:=sq_nonneg b
  have h3:a*c≤a*0:=Int.mul_le_mul_of_nonneg_left h (by omega)
  have e:4*a*c=4*(a*c):=by grind
  omega
theorem J4{f:I3}{t:I4}(h:Bs f)(d:det t=1):Bs (mov f t):=by
 have hm:=Bu (f:=f) d
 refine⟨?_,by rw[hm];exact h.2⟩
 obtain⟨a,b,c⟩:=f
 obtain⟨p,q,r,s⟩:=t
 obtain⟨h0,h1⟩:=h
 show 0<val (a,b,c) (p,r)
 simp only[meas]at h0 h1
 have e:4*(a*val (a,b,c) (p,r))=(2*a*p+b*r)*(2*a*p+b*r)-(b*b-4*a*c)*(r*r):=by simp only[val];grind
 have z1:=sq_nonneg (2*a*p+b*r)
 have z2:0≤(4*a*c-b*b)*(r*r):=Int.mul_nonneg (by omega) (sq_nonneg r)
 have e2:(4*a*c-b*b)*(r*r)=-((b*b-4*a*c)*(r*r)):=by grind
 rcases Int.lt_or_le 0 (val (a,b,c) (p,r))with h|h
 ·exact h
 ·exfalso
  have z3:a*val (a,b,c) (p,r)≤a*0:=Int.mul_le_mul_of_nonneg_left h (by omega)
  have hr:r*r=0:=by
   by_cases hr:r=0
   ·rw[hr];rfl
   ·exfalso
    have:=Int.mul_le_mul (show 1≤4*a*c-b*b by omega) (sq_pos hr) (by omega) (by omega)
    omega
  have hr0:r=0:=by
   by_cases hr0:r=0
   ·exact hr0
   ·have:=sq_pos hr0;omega
  subst hr0
  have hp:p≠0:=fun hp=>by subst hp;simp[det]at d
  have hp1:=sq_pos hp
  have e3:val (a,b,c) (p,0)=a*(p*p):=K4
  rw[e3]at h
  have:=Int.mul_le_mul_of_nonneg_left hp1 (show 0≤a by omega)
  omega
theorem Aa5{f:I3}(h:Bs f)(s:stands f=false):msr (mov f (DR f))<msr f:=by
 obtain⟨a,b,c⟩:=f
 have ha:0<a:=h.1
 have hc:0<c:=Mw h
 unfold DR
 by_cases ho:oft (a,b,c)=0
 ·rw[if_neg (by simpa using ho),WL]
  have ⟨h1,h2⟩:-a<b∧b≤a:=Wi ha ho
  have hs:c<a∨(a=c∧b<0):=by
   simp only[stands,Bool.and_eq_false_iff,Bool.or_eq_false_iff,decide_eq_false_iff_not]at s
   omega
  unfold msr
  simp only
  rw[if_pos (show -a<b∧b≤a from⟨h1,h2⟩)]
  rcases hs with hs|⟨hs,hb⟩
  ·split<;>split<;>split<;>omega
  ·subst hs
   rw[if_pos (show -a < -b∧-b≤a by omega),if_pos hb,if_neg (by omega)]
   omega
 ·rw[if_pos ho,Vu]
  have ⟨h1,h2⟩:=Kd (b:=b) ha
  have hn:¬(-a<b∧b≤a):=fun z=>ho (by
   show(a-b).fdiv (2*a)=0
   rw[Int.fdiv_eq_ediv_of_nonneg _ (by omega)]
   exact Int.ediv_eq_zero_of_lt (by omega) (by omega))
  unfold msr
  simp only
  show 4*a.toNat+(if -a<b+2*a*((a-b).fdiv (2*a))∧b+2*a*((a-b).fdiv (2*a))≤a then 0 else 2)+(if b+2*a*((a-b).fdiv (2*a))<0 then 1 else 0)<_
  rw[if_pos ⟨h1,h2⟩,if_neg hn]
  split<;>split<;>omega
theorem Acd{f:I3}{n:Nat}(h:Bs f)(s:stands f=false)(b1:Bt n f.1)(b2:Bt n f.2.1):Bt n (mov f (DR f)).1∧Bt n (mov f (DR f)).2.1:=by
 obtain⟨a,b,c⟩:=f
 have ha:0<a:=h.1
 have hc:0<c:=Mw h
 have b1:Bt n a:=b1
 have b2:Bt n b:=b2
 unfold DR
 by_cases ho:oft (a,b,c)=0
 ·rw[if_neg (by simpa using ho),WL]
  have ⟨h1,h2⟩:-a<b∧b≤a:=Wi ha ho
  have hs:c≤a:=by
   simp only[stands,Bool.and_eq_false_iff,Bool.or_eq_false_iff,decide_eq_false_iff_not]at s
   omega
  refine⟨?_,b2.neg⟩
  show Bt n c
  unfold Bt at *;omega
 ·rw[if_pos ho,Vu]
  have ⟨h1,h2⟩:=Kd (b:=b) ha
  refine⟨b1,?_⟩
  show Bt n (b+2*a*((a-b).fdiv (2*a)))
  unfold Bt at *;omega
theorem Aac{f:I3}{n m:Nat}(h:Bs f)(b1:Bt n f.1)(b2:Bt n f.2.1)(hm:Bt m (meas f)):B3 (n+n+m+1) f:=by
 obtain⟨a,b,c⟩:=f
 have ha:0<a:=h.1
 have hc:0<c:=Mw h
 refine⟨b1.le (by omega),b2.le (by omega),?_⟩
 have z:=(b2.mul b2).sub hm
 have e:b*b-meas (a,b,c)=4*(a*c):=by simp only[meas];grind
 have z1:1*c≤a*c:=Int.mul_le_mul_of_nonneg_right (by omega) (by omega)
 have z':Bt (max (n+n) m+1) (4*(a*c)):=by rw[←e];exact z
 have z2:Bt (max (n+n) m+1) c:=by unfold Bt at *;omega
 exact z2.le (by omega)
theorem Ag0{n:Nat}{x:Int}(h:x*x<2 ^ (2*n)):Bt n x:=by
 unfold Bt
 rcases Nat.lt_or_ge x.natAbs (2 ^ n)with z|z
 ·exact z
 ·exfalso
  have:=Nat.mul_le_mul z z
  rw[←Nat.pow_add,show n+n=2*n by omega]at this
  have e1:(x.natAbs:Int)*x.natAbs=x*x:=Int.natAbs_mul_self' x
  have:((2 ^ (2*n):Nat):Int)≤(x.natAbs:Int)*x.natAbs:=by exact_mod_cast this
  rw[e1]at this
  push_cast at this
  omega
theorem Vh{f:I3}{n m k:Nat}{x y:Int}(h:Bs f)(hb:B3 n f)(hv:Bt m (val f (x,y)))(hk:n+m+2≤2*k):B2 k (x,y):=by
 obtain⟨a,b,c⟩:=f
 have ha:0<a:=h.1
 have hc:0<c:=Mw h
 have hm:b*b-4*a*c<0:=h.2
 obtain⟨h1,h2,h3⟩:=hb
 have h4:Bt 3 4:=Bt.au (by decide)
 have e1:4*(a*val (a,b,c) (x,y))=(2*a*x+b*y)*(2*a*x+b*y)+(4*a*c-b*b)*(y*y):=by simp only[val];grind
 have e2:4*(c*val (a,b,c) (x,y))=(2*c*y+b*x)*(2*c*y+b*x)+(4*a*c-b*b)*(x*x):=by simp only[val];grind
 have k1:y*y≤4*(a*val (a,b,c) (x,y)):=by
  have z1:=sq_nonneg (2*a*x+b*y)
  have z2:=Int.mul_le_mul_of_nonneg_right (show 1≤4*a*c-b*b by omega) (sq_nonneg y)
  omega
 have k2:x*x≤4*(c*val (a,b,c) (x,y)):=by
  have z1:=sq_nonneg (2*c*y+b*x)
  have z2:=Int.mul_le_mul_of_nonneg_right (show 1≤4*a*c-b*b by omega) (sq_nonneg x)
  omega
 have up:∀{z w:Int},Bt n z→w≤4*(z*val (a,b,c) (x,y))→w<2 ^ (2*k):=fun{z w} hz hw=>by
  have h5:=hz.mul hv
  have h6:Bt (n+m) (z*val (a,b,c) (x,y)):=h5
  have h7:(4:Int)*2 ^ (n+m)≤2 ^ (2*k):=by
   have:(4:Int)*2 ^ (n+m)=2 ^ (n+m+2):=by rw[show n+m+2=(n+m)+1+1 from rfl,Int.pow_succ,Int.pow_succ];omega
   rw[this]
   have:=Nat.pow_le_pow_right (show 0<2 by decide) hk
   exact_mod_cast this
  unfold Bt at h6
  have h8:z*val (a,b,c) (x,y)<2 ^ (n+m):=by
   have:((z*val (a,b,c) (x,y)).natAbs:Int)<((2 ^ (n+m):Nat):Int):=by exact_mod_cast h6
   push_cast at this
   omega
  omega
 exact⟨Ag0 (up h3 k2),Ag0 (up h1 k1)⟩
theorem Tj{f:I3}{t:I4}{n m k:Nat}(h:Bs f)(hb:B3 n f)(hg:B3 m (mov f t))(hk:n+m+2≤2*k):B4 k t:=by
 have p1:=Vh (x:=t.1) (y:=t.2.2.1) h hb hg.1 hk
 have p2:=Vh (x:=t.2.1) (y:=t.2.2.2) h hb hg.2.2 hk
 exact⟨p1.1,p2.1,p1.2,p2.2⟩
theorem Qd{f:I3}(h:oft f=0):DR f=(0,-1,1,0):=by unfold DR;rw[if_neg (by simpa using h)]
theorem Qt{f:I3}(h:¬oft f=0):DR f=(1,oft f,0,1):=by unfold DR;rw[if_pos h]
theorem Abu{f:I3}{n:Nat}(h:0<f.1)(b1:Bt n f.1)(b2:Bt n f.2.1):B4 (n+1) (DR f):=by
 obtain⟨a,b,c⟩:=f
 have h:0<a:=h
 have b1:Bt n a:=b1
 have b2:Bt n b:=b2
 have one:Bt (n+1) 1:=Bt.one.le (by omega)
 by_cases ho:oft (a,b,c)=0
 ·rw[Qd ho]
  exact⟨Bt.zero.le (by omega),one.neg,one,Bt.zero.le (by omega)⟩
 ·rw[Qt ho]
  refine⟨one,?_,Bt.zero.le (by omega),one⟩
  have ⟨h1,h2⟩:=Kd (b:=b) h
  show Bt (n+1) ((a-b).fdiv (2*a))
  generalize (a-b).fdiv (2*a)=k at *
  have e:2*a*k=2*(a*k):=by grind
  have z:(k.natAbs:Int)≤((a*k).natAbs:Int):=by
   rw[Int.natAbs_mul]
   have:=Nat.mul_le_mul_right k.natAbs (show 1≤a.natAbs by omega)
   omega
  unfold Bt at *
  rw[Nat.pow_succ]
  omega
end My
namespace My
open PySem L2
structure Sad(f:I3):Prop where
 no:¬KR (meas f)
 pos:0<meas f
 most:meas f≤4000
def Level(f:I3)(far:Int):Prop:=(0<f.2.1∧f.2.1≤far)∧far-f.2.1<2*(if f.1<0 then -f.1 else f.1)∧2*(if f.1<0 then -f.1 else f.1)≤far+f.2.1
instance {f:I3} {far:Int}:Decidable (Level f far):=by unfold Level;infer_instance
theorem Sad.mov{f:I3}{t:I4}(h:Sad f)(d:det t=1):Sad (mov f t):=by
 have e:=Bu (f:=f) d
 exact⟨by rw[e];exact h.no,by rw[e];exact h.pos,by rw[e];exact h.most⟩
end My
namespace My
open PySem L2
abbrev ab(x:Int):Int:=if x<0 then -x else x
theorem Bd(x:Int):(0≤x∧ab x=x)∨(x<0∧ab x=-x):=by
 rcases Int.lt_or_le x 0 with h|h
 ·exact .inr ⟨h,if_pos h⟩
 ·exact .inl ⟨h,if_neg (by omega)⟩
theorem BX(x:Int):0≤ab x:=by rcases Bd x with⟨h,e⟩|⟨h,e⟩<;>omega
theorem Al8{n:Nat}{x:Int}(h:Bt n x):Bt n (ab x):=by
 rcases Bd x with⟨_,e⟩|⟨_,e⟩<;>rw[e]
 ·exact h
 ·exact h.neg
theorem Aaa{n:Nat}{x y:Int}(h:Bt n y)(l:ab x≤ab y):Bt n x:=by
 unfold Bt at *
 rcases Bd x with⟨_,e⟩|⟨_,e⟩<;>rcases Bd y with⟨_,e'⟩|⟨_,e'⟩<;>omega
theorem S7{n:Nat}{x k:Int}(l:ab x≤k)(hk:k<2 ^ n):Bt n x:=by
 rcases Bd x with⟨_,e⟩|⟨_,e⟩<;>exact Bt.of (by omega) (by omega)
def dB(f:I3)(top:Int):Int:=top-(top+f.2.1).fmod (2*ab f.2.2)
def kB(f:I3)(top:Int):Int:=(f.2.1+dB f top).fdiv (2*f.2.2)
def Cv(f:I3)(top:Int):I4:=(0,-1,1,kB f top)
theorem CP{f:I3}{top:Int}:det (Cv f top)=1:=by simp[det,Cv]
theorem LR{f:I3}{top:Int}(h:f.2.2≠0):top-2*ab f.2.2<dB f top∧dB f top≤top:=by
 have hc:0<2*ab f.2.2:=by rcases Bd f.2.2 with⟨_,e⟩|⟨_,e⟩<;>omega
 have:=CK (top+f.2.1) hc
 unfold dB
 omega
theorem Ip{f:I3}{top:Int}(h:f.2.2≠0):2*f.2.2*kB f top=f.2.1+dB f top:=by
 unfold kB dB
 have e:=Int.fmod_def (top+f.2.1) (2*ab f.2.2)
 generalize (top+f.2.1).fdiv (2*ab f.2.2)=q at *
 have e1:f.2.1+(top-(top+f.2.1).fmod (2*ab f.2.2))=2*ab f.2.2*q:=by omega
 rw[e1]
 rcases Bd f.2.2 with⟨_,e2⟩|⟨_,e2⟩
 ·rw[e2,Int.mul_fdiv_cancel_left _ (by omega)]
 ·have e3:2*ab f.2.2*q=2*f.2.2*(-q):=by rw[e2];grind
  rw[e3,Int.mul_fdiv_cancel_left _ (by omega)]
theorem OJ{f:I3}{top:Int}(h:f.2.2≠0):∃e,mov f (Cv f top)=(f.2.2,dB f top,e):=by
 have hk:=Ip (top:=top) h
 obtain⟨a,b,c⟩:=f
 refine⟨(mov (a,b,c) (Cv (a,b,c) top)).2.2,?_⟩
 have e1:(mov (a,b,c) (Cv (a,b,c) top)).1=c:=by simp only[mov,val,Cv];grind
 have e2:(mov (a,b,c) (Cv (a,b,c) top)).2.1=dB (a,b,c) top:=by
  simp only[mov,mid,Cv]
  simp only at hk
  generalize kB (a,b,c) top=k at *
  have:2*a*0 * -1+b*(0*k + -1*1)+2*c*1*k=2*c*k-b:=by grind
  omega
 ext1
 ·exact e1
 ·ext1
  ·exact e2
  ·rfl
theorem Xv{D far:Int}(r:Sq D far)(n:¬KR D):far*far<D:=by
 rcases Int.lt_or_le (far*far) D with h|h
 ·exact h
 ·exact absurd ⟨far,by have:=r.2.1;omega⟩ n
theorem Uh{D far:Int}(r:Sq D far)(m:D≤4000):far≤63:=by
 rcases Int.lt_or_le far 64 with h|h
 ·omega
 ·have:=Int.mul_le_mul h h (by decide) r.1
  have:=r.2.1
  omega
theorem Jb{f:I3}(S:Sad f):f.2.2≠0:=fun h=>S.no ⟨f.2.1,by
 obtain⟨a,b,c⟩:=f
 simp only at h
 subst h
 simp only[meas]
 omega⟩
theorem AdJ{f:I3}(S:Sad f):f.1≠0:=fun h=>S.no ⟨f.2.1,by
 obtain⟨a,b,c⟩:=f
 simp only at h
 subst h
 simp only[meas]
 omega⟩
theorem QV(x y:Int):ab x*ab y=ab (x*y):=by
 rcases Bd x with⟨h1,e1⟩|⟨h1,e1⟩<;>rcases Bd y with⟨h2,e2⟩|⟨h2,e2⟩<;>rw[e1,e2]
 ·have:=Int.mul_nonneg h1 h2
  exact(if_neg (by omega)).symm
 ·have:=Int.mul_nonneg h1 (show 0≤-y by omega)
  have e:x * -y=-(x*y):=by grind
  by_cases h:x*y<0
  ·rw[ab,if_pos h,e]
  ·rw[ab,if_neg h];omega
 ·have:=Int.mul_nonneg (show 0≤-x by omega) h2
  have e:-x*y=-(x*y):=by grind
  by_cases h:x*y<0
  ·rw[ab,if_pos h,e]
  ·rw[ab,if_neg h];omega
 ·have:=Int.mul_nonneg (show 0≤-x by omega) (show 0≤-y by omega)
  have e:-x * -y=x*y:=by grind
  rw[ab,if_neg (by omega),e]
theorem J1{x k:Int}(h:ab x≤k):x*x≤k*k:=by
 have e:x*x=ab x*ab x:=by
  rcases Bd x with⟨_,e⟩|⟨_,e⟩<;>rw[e]
  grind
 rw[e]
 have:=BX x
 exact Int.mul_le_mul h h this (by omega)
theorem last_eq{c d e D:Int}(h:meas (c,d,e)=D):4*(ab c*ab e)=ab (d*d-D):=by
 have:d*d-D=4*(c*e):=by rw[←h];simp only[meas];grind
 rw[this,QV]
 rcases Bd (c*e)with⟨h1,e1⟩|⟨h1,e1⟩
 ·rw[e1,ab,if_neg (by omega)]
 ·rw[e1,ab,if_pos (by omega)];omega
theorem AfT{c d e D far:Int}(r:Sq D far)(D0:0<D)(h:meas (c,d,e)=D)(hc:far<ab c)(h1:-ab c<d)(h2:d≤ab c):4*ab e≤ab c:=by
 have k:=last_eq h
 have hd:d*d≤ab c*ab c:=by
  refine J1 ?_
  rcases Bd d with⟨_,e1⟩|⟨_,e1⟩<;>omega
 have hD:D≤ab c*ab c:=by
  have:=Int.mul_le_mul (show far+1≤ab c by omega) (show far+1≤ab c by omega) (by have:=r.1;omega) (BX c)
  have:=r.2.2
  omega
 have h0:=sq_nonneg d
 have:ab (d*d-D)≤ab c*ab c:=by
  rcases Bd (d*d-D)with⟨_,e1⟩|⟨_,e1⟩<;>omega
 have hc0:0<ab c:=by have:=r.1;omega
 rcases Int.lt_or_le (ab c) (4*ab e)with z|z
 ·exfalso
  have:=Int.mul_lt_mul_of_pos_left z hc0
  have e2:ab c*(4*ab e)=4*(ab c*ab e):=by grind
  omega
 ·exact z
theorem Aby{c d e D far:Int}(r:Sq D far)(n:¬KR D)(h:meas (c,d,e)=D)(hc:ab c≤far)(hc2:far<2*ab c)(h1:far-2*ab c<d)(h2:d≤far):2*ab e≤far:=by
 have k:=last_eq h
 have hf:=Xv r n
 have hd:d*d≤far*far:=by
  refine J1 ?_
  rcases Bd d with⟨_,e1⟩|⟨_,e1⟩<;>omega
 have h0:=sq_nonneg d
 have hD:=r.2.2
 have:ab (d*d-D)<(far+1)*(far+1):=by
  rcases Bd (d*d-D)with⟨_,e1⟩|⟨_,e1⟩<;>omega
 rcases Int.lt_or_le far (2*ab e)with z|z
 ·exfalso
  have:=Int.mul_le_mul (show far+1≤2*ab c by omega) (show far+1≤2*ab e by omega) (by have:=r.1;omega) (by have:=BX c;omega)
  have e2:2*ab c*(2*ab e)=4*(ab c*ab e):=by grind
  omega
 ·exact z
theorem Zu{c d e far:Int}(hc:2*ab c≤far)(h1:far-2*ab c<d)(h2:d≤far):Level (c,d,e) far:=by
 refine⟨⟨?_,h2⟩,?_,?_⟩
 ·show 0<d;omega
 ·show far-d<2*ab c;omega
 ·show 2*ab c≤far+d;omega
theorem Xq{c d e D far:Int}(r:Sq D far)(hm:D≤4000)(D0:0<D)(h:meas (c,d,e)=D)(c0:c≠0)(hd:ab d≤far):ab e≤1000:=by
 have k:=last_eq h
 have h2:d*d≤far*far:=J1 hd
 have h0:=sq_nonneg d
 have h3:=r.2.1
 have:ab (d*d-D)≤4000:=by
  rcases Bd (d*d-D)with⟨_,e1⟩|⟨_,e1⟩<;>omega
 have hc:1≤ab c:=by rcases Bd c with⟨_,e1⟩|⟨_,e1⟩<;>omega
 have:=Int.mul_le_mul_of_nonneg_right hc (BX e)
 omega
theorem Ju{f:I3}{far:Int}(r:Sq (meas f) far)(n:¬KR (meas f))(L:Level f far):far-f.2.1<2*ab f.2.2∧2*ab f.2.2≤far+f.2.1:=by
 obtain⟨a,b,c⟩:=f
 obtain⟨⟨l1,l2⟩,l3,l4⟩:=L
 have l1:0<b:=l1
 have l2:b≤far:=l2
 have l3:far-b<2*ab a:=l3
 have l4:2*ab a≤far+b:=l4
 show far-b<2*ab c∧2*ab c≤far+b
 have hf:=Xv r n
 have hD:=r.2.2
 have k:4*(ab a*ab c)=ab (b*b-meas (a,b,c)):=last_eq (c:=a) (d:=b) (e:=c) rfl
 generalize meas (a,b,c)=D at *
 have hb:b*b≤far*far:=Int.mul_le_mul l2 l2 (by omega) (by omega)
 have k2:(2*ab a)*(2*ab c)=D-b*b:=by
  have e1:(2*ab a)*(2*ab c)=4*(ab a*ab c):=by grind
  rcases Bd (b*b-D)with⟨_,e⟩|⟨_,e⟩<;>omega
 generalize 2*ab a=A at *
 have hC0:0≤2*ab c:=by have:=BX c;omega
 generalize 2*ab c=C at *
 constructor
 ·rcases Int.lt_or_le (far-b) C with z|z
  ·exact z
  ·exfalso
   have z1:A*C≤(far+b)*(far-b):=Int.mul_le_mul l4 z hC0 (by omega)
   have e1:(far+b)*(far-b)=far*far-b*b:=by grind
   omega
 ·rcases Int.lt_or_le (far+b) C with z|z
  ·exfalso
   have z1:(far-b+1)*(far+b+1)≤A*C:=Int.mul_le_mul (by omega) (by omega) (by omega) (by omega)
   have e1:(far-b+1)*(far+b+1)=(far+1)*(far+1)-b*b:=by grind
   omega
  ·exact z
theorem Xw{f:I3}{far:Int}(S:Sad f)(r:Sq (meas f) far)(L:Level f far):Level (mov f (Cv f far)) far:=by
 have hc:=Jb S
 obtain⟨e,he⟩:=OJ (top:=far) hc
 rw[he]
 have ⟨d1,d2⟩:=LR (top:=far) hc
 have ⟨c1,c2⟩:=Ju r S.no L
 obtain⟨⟨l1,l2⟩,_,_⟩:=L
 have hk:=Ip (top:=far) hc
 have d3:far-2*ab f.2.2<dB f far:=d1
 by_cases hC:2*ab f.2.2≤far
 ·exact Zu hC d1 d2
 ·
  have hd:dB f far=2*ab f.2.2-f.2.1:=by
   have e1:f.2.1+dB f far=2*(f.2.2*kB f far):=by rw[←hk];grind
   have hx:ab (f.2.2*kB f far)=ab f.2.2*ab (kB f far):=(QV _ _).symm
   have hpos:0<f.2.2*kB f far:=by omega
   have hx2:f.2.2*kB f far=ab f.2.2*ab (kB f far):=by rw[←hx,ab,if_neg (by omega)]
   have hk0:0<ab (kB f far):=by
    rcases Int.lt_or_le 0 (ab (kB f far))with z|z
    ·exact z
    ·have:ab (kB f far)=0:=by have:=BX (kB f far);omega
     rw[this]at hx2
     omega
   have hk1:ab (kB f far)=1:=by
    rcases Int.lt_or_le (ab (kB f far)) 2 with z|z
    ·omega
    ·exfalso
     have:=Int.mul_le_mul_of_nonneg_left z (BX f.2.2)
     omega
   rw[hk1]at hx2
   omega
  refine⟨⟨?_,d2⟩,?_,?_⟩
  ·show 0<dB f far;omega
  ·show far-dB f far<2*ab f.2.2;omega
  ·show 2*ab f.2.2≤far+dB f far;omega
theorem Abs{f:I3}{far:Int}(S:Sad f)(r:Sq (meas f) far)(L:Level f far):B3 7 f:=by
 have ⟨c1,c2⟩:=Ju r S.no L
 have h6:=Uh r S.most
 obtain⟨⟨l1,l2⟩,l3,l4⟩:=L
 have l4:2*ab f.1≤far+f.2.1:=l4
 exact⟨S7 (k:=63) (by omega) (by decide),Bt.of (by omega) (by omega),S7 (k:=63) (by omega) (by decide)⟩
end My
namespace My
open PySem L2
abbrev bl(x:Int):Nat:=Builtin.Int.intBits x
theorem YK{x:Int}:Bt (bl x) x:=intBits_le_iff.mp (Nat.le_refl _)
theorem Zq{n:Nat}{x:Int}(h:Bt n x):bl x≤n:=intBits_le_iff.mpr h
theorem Yu{x:Int}(h:x≠0):1≤bl x:=by
 rcases Nat.lt_or_ge 0 (bl x)with z|z
 ·exact z
 ·have:=YK (x:=x)
  unfold Bt at this
  rw[show bl x=0 by omega]at this
  omega
theorem AbL{x:Int}(h:x≠0):2 ^ (bl x-1)≤x.natAbs:=by
 rcases Nat.lt_or_ge x.natAbs (2 ^ (bl x-1))with z|z
 ·have:=Zq (n:=bl x-1) z
  have:=Yu h
  omega
 ·exact z
theorem Aa6{x y:Int}(h:4*ab x≤ab y)(hy:y≠0):bl x+2≤bl y∨x=0:=by
 by_cases hx:x=0
 ·exact .inr hx
 ·refine .inl ?_
  have h1:=AbL hx
  have h2:=YK (x:=y)
  unfold Bt at h2
  have p:=Yu hx
  rcases Nat.lt_or_ge (bl y) (bl x+2)with z|z
  ·exfalso
   have h3:2 ^ bl y≤2 ^ (bl x-1+2):=Nat.pow_le_pow_right (by decide) (by omega)
   rw[Nat.pow_add]at h3
   have h4:4*x.natAbs≤y.natAbs:=by
    rcases Bd x with⟨_,e⟩|⟨_,e⟩<;>rcases Bd y with⟨_,e'⟩|⟨_,e'⟩<;>omega
   omega
  ·exact z
theorem U5{b c d k:Int}{x:Nat}(hc:c≠0)(hb:Bt x b)(hx:bl c≤x)(hd:ab d≤ab c)(hk:2*c*k=b+d):Bt (x+1-bl c) k:=by
 have h1:=AbL hc
 have h2:=YK (x:=c)
 have hp:=Yu hc
 unfold Bt at *
 have e1:2*(c.natAbs*k.natAbs)=(b+d).natAbs:=by
  rw[←hk,Int.mul_assoc,Int.natAbs_mul,Int.natAbs_mul];rfl
 have e2:(b+d).natAbs<2 ^ x+2 ^ bl c:=by
  rcases Bd d with⟨_,e⟩|⟨_,e⟩<;>rcases Bd c with⟨_,e'⟩|⟨_,e'⟩<;>omega
 have e3:2 ^ bl c≤2 ^ x:=Nat.pow_le_pow_right (by decide) hx
 rcases Nat.lt_or_ge k.natAbs (2 ^ (x+1-bl c))with z|z
 ·exact z
 ·exfalso
  have:=Nat.mul_le_mul h1 z
  rw[←Nat.pow_add,show bl c-1+(x+1-bl c)=x by omega]at this
  omega
theorem Ql{f:I3}{top:Int}{m:Nat}(h:Bt m (kB f top))(hm:1≤m):B4 m (Cv f top):=⟨Bt.zero.le (by omega),(Bt.one.le hm).neg,Bt.one.le hm,h⟩
def Rf(n:Nat)(far:Int)(f0:I3)(t:I4):Prop :=
 det t=1∧B3 n (mov f0 t) ∧
 (if far<ab (mov f0 t).2.2 then ∃β x,B4 β t∧Bt x (mov f0 t).2.1∧bl (mov f0 t).2.2≤x∧β+x+bl (mov f0 t).2.2≤2*n+1
  else if Level (mov f0 t) far then B4 (5*n+30) t else if far<2*ab (mov f0 t).2.2 then B4 (3*n+10) t else B4 (4*n+20) t)
def eM(far:Int)(f:I3):Nat:=if far<ab f.2.2 then(ab f.2.2).toNat+3 else if Level f far then 0 else if far<2*ab f.2.2 then 2 else 1
theorem Rf.b4{n:Nat}{far:Int}{f0:I3}{t:I4}(h:Rf n far f0 t):B4 (5*n+30) t:=by
 obtain⟨_,_,h⟩:=h
 split at h
 ·obtain⟨β,x,hb,_,_,_⟩:=h
  exact hb.le (by omega)
 ·split at h
  ·exact h
  ·split at h
   ·exact h.le (by omega)
   ·exact h.le (by omega)
theorem Rf.start{n:Nat}{far:Int}{f:I3}(hn:1≤n)(hf:B3 n f):Rf n far f (1,0,0,1):=by
 have one:B4 1 (1,0,0,1):=⟨Bt.one,Bt.zero.le (by omega),Bt.zero.le (by omega),Bt.one⟩
 unfold Rf
 rw[Ec]
 refine⟨rfl,hf,?_⟩
 split
 ·exact⟨1,n,one,hf.2.1,Zq hf.2.2,by have:=Zq hf.2.2;omega⟩
 ·split
  ·exact one.le (by omega)
  ·split
   ·exact one.le (by omega)
   ·exact one.le (by omega)
theorem Abb{n:Nat}{far:Int}{f0:I3}{t:I4}(hn:12≤n)(S:Sad f0)(r:Sq (meas f0) far)(I:Rf n far f0 t)(nl:¬Level (mov f0 t) far) :
  Rf n far f0 (Aj t (Cv (mov f0 t) (if far>ab (mov f0 t).2.2 then far else ab (mov f0 t).2.2))) ∧
  eM far (mov f0 (Aj t (Cv (mov f0 t) (if far>ab (mov f0 t).2.2 then far else ab (mov f0 t).2.2))))<eM far (mov f0 t) ∧
  B4 (n+3) (Cv (mov f0 t) (if far>ab (mov f0 t).2.2 then far else ab (mov f0 t).2.2)):=by
 have hb4:=I.b4
 obtain⟨hd,hb,hI⟩:=I
 have Sf:=S.mov hd
 have hm:=Bu (f:=f0) hd
 have rf:Sq (meas (mov f0 t)) far:=by rw[hm];exact r
 have f63:=Uh rf Sf.most
 have uI:=r.1
 simp only[Rf,←Bc]
 rw[BK,hd,CP]
 generalize hf:mov f0 t=f at *
 have hc:=Jb Sf
 have c1:1≤ab f.2.2:=by rcases Bd f.2.2 with⟨_,e1⟩|⟨_,e1⟩<;>omega
 by_cases h1:far<ab f.2.2
 ·
  rw[if_pos h1]at hI
  obtain⟨β,x,hβ,hx,hlx,hsum⟩:=hI
  rw[if_neg (show ¬far>ab f.2.2 by omega)]
  have ⟨d1,d2⟩:=LR (top:=ab f.2.2) hc
  have hk:=Ip (top:=ab f.2.2) hc
  obtain⟨e,he⟩:=OJ (top:=ab f.2.2) hc
  have hme:meas (f.2.2,dB f (ab f.2.2),e)=meas f:=by rw[←he,Bu CP]
  have hdc:ab (dB f (ab f.2.2))≤ab f.2.2:=by rcases Bd (dB f (ab f.2.2))with⟨_,e1⟩|⟨_,e1⟩<;>omega
  have h4:=AfT rf Sf.pos hme h1 (by omega) d2
  have kbt:=U5 hc hx hlx hdc hk
  have k1:1≤x+1-bl f.2.2:=by omega
  have nZ:=Ql kbt k1
  have hxn:bl f.2.2≤n:=Zq hb.2.2
  have hS':=Sf.mov (t:=Cv f (ab f.2.2)) CP
  rw[he]at hS'
  have he0:e≠0:=Jb hS'
  have uD:=(Aa6 h4 hc).resolve_right he0
  have hβ':=B4.then hβ nZ
  rw[he]
  refine⟨⟨rfl,⟨hb.2.2,Aaa hb.2.2 hdc,Aaa hb.2.2 (show ab e≤ab f.2.2 by have:=BX e;omega)⟩,?_⟩,?_,?_⟩
  ·show if far<ab e then _ else _
   split
   ·refine⟨_,bl f.2.2,hβ',?_,?_,?_⟩
    ·exact Aaa YK hdc
    ·show bl e≤bl f.2.2;omega
    ·show _+bl f.2.2+bl e≤_;omega
   ·split
    ·exact hβ'.le (by omega)
    ·split
     ·exact hβ'.le (by omega)
     ·exact hβ'.le (by omega)
  ·unfold eM
   rw[if_pos h1]
   show(if far<ab e then(ab e).toNat+3 else _)<_
   split
   ·have:=BX e;omega
   ·split
    ·omega
    ·split<;>omega
  ·
   have:Bt (n+1-bl f.2.2) (kB f (ab f.2.2)):=U5 hc hb.2.1 hxn hdc hk
   exact(Ql this (by omega)).le (by omega)
 ·rw[if_neg h1,if_neg nl]at hI
  have etop:(if far>ab f.2.2 then far else ab f.2.2)=far:=by split<;>omega
  rw[etop]
  have ⟨d1,d2⟩:=LR (top:=far) hc
  have hk:=Ip (top:=far) hc
  obtain⟨e,he⟩:=OJ (top:=far) hc
  have hme:meas (f.2.2,dB f far,e)=meas f:=by rw[←he,Bu CP]
  have hdf:ab (dB f far)≤far:=by rcases Bd (dB f far)with⟨_,e1⟩|⟨_,e1⟩<;>omega
  have hel:=Xq rf Sf.most Sf.pos hme hc hdf
  have kb:Bt (n+2) (kB f far):=by
   have e1:2*(ab f.2.2*ab (kB f far))=ab (f.2.1+dB f far):=by
    rw[←hk,QV]
    have:2*f.2.2*kB f far=2*(f.2.2*kB f far):=by grind
    rw[this]
    rcases Bd (f.2.2*kB f far)with⟨h1,e1⟩|⟨h1,e1⟩
    ·rw[e1,ab,if_neg (by omega)]
    ·rw[e1,ab,if_pos (by omega)];omega
   have e2:=Int.mul_le_mul_of_nonneg_right c1 (BX (kB f far))
   have e3:Bt (n+1) (f.2.1+dB f far):=by
    have:=(hb.2.1).add (show Bt 7 (dB f far)from S7 (k:=63) (by omega) (by decide))
    exact this.le (by omega)
   refine Bt.le (n:=n+1) (Aaa e3 ?_) (by omega)
   have:=BX (kB f far)
   omega
  have nZ:=Ql kb (by omega)
  rw[he]
  have hB:B3 n (f.2.2,dB f far,e):=⟨hb.2.2,Bt.le (n:=7) (S7 (k:=63) (show ab (dB f far)≤63 by omega) (by decide)) (by omega),Bt.le (n:=12) (S7 (x:=e) hel (by decide)) (by omega)⟩
  by_cases h2:far<2*ab f.2.2
  ·rw[if_pos h2]at hI
   have hβ':=B4.then hI nZ
   have hh:=Aby rf Sf.no hme (by omega) h2 (by omega) d2
   have h3:¬far<ab e:=by have:=BX e;omega
   refine⟨⟨rfl,hB,?_⟩,?_,nZ.le (by omega)⟩
   ·show if far<ab e then _ else _
    rw[if_neg h3]
    split
    ·exact hβ'.le (by omega)
    ·rw[if_neg (show ¬far<2*ab (f.2.2,dB f far,e).2.2 by show ¬far<2*ab e;omega)]
     exact hβ'.le (by omega)
   ·unfold eM
    rw[if_neg h1,if_neg nl,if_pos h2]
    show(if far<ab e then _ else _)<2
    rw[if_neg h3]
    split
    ·omega
    ·rw[if_neg (show ¬far<2*ab (f.2.2,dB f far,e).2.2 by show ¬far<2*ab e;omega)]
     omega
  ·rw[if_neg h2]at hI
   have hβ':=B4.then hI nZ
   have hL:Level (f.2.2,dB f far,e) far:=Zu (by omega) d1 d2
   have h3:¬far<ab e:=by
    have:=(Ju (f:=(f.2.2,dB f far,e)) (by rw[hme];exact rf) (by rw[hme];exact Sf.no) hL).2
    simp only at this
    omega
   refine⟨⟨rfl,hB,?_⟩,?_,nZ.le (by omega)⟩
   ·show if far<ab e then _ else _
    rw[if_neg h3,if_pos hL]
    exact hβ'.le (by omega)
   ·unfold eM
    rw[if_neg h1,if_neg nl,if_neg h2]
    show(if far<ab e then _ else _)<1
    rw[if_neg h3,if_pos hL]
    omega
end My
namespace My
open PySem L2
def Riv(f:I3):Prop:=(0<f.1∧f.2.2<0)∧¬KR (meas f)
abbrev tR:I4:=(1,1,0,1)
abbrev tL:I4:=(1,0,1,1)
def sm(f:I3):Int:=f.1+f.2.1+f.2.2
theorem Acl{a b c:Int}:mov (a,b,c) tR=(a,b+2*a,a+b+c):=by
 simp only[mov,val,mid,Prod.mk.injEq]
 refine⟨?_,?_,?_⟩<;>grind
theorem AbT{a b c:Int}:mov (a,b,c) tL=(a+b+c,b+2*c,c):=by
 simp only[mov,val,mid,Prod.mk.injEq]
 refine⟨?_,?_,?_⟩<;>grind
theorem AgM{f:I3}(n:¬KR (meas f)):sm f≠0:=fun h=>n ⟨f.1-f.2.2,by
 obtain⟨a,b,c⟩:=f
 simp only[sm,meas]at *
 have:b=-(a+c):=by omega
 subst this
 grind⟩
def stT(f:I3):I4:=if sm f<0 then tR else tL
def nx(f:I3):I3:=mov f (stT f)
theorem Aio{f:I3}:det (stT f)=1:=by unfold stT;split<;>rfl
theorem Riv.next{f:I3}(h:Riv f):Riv (nx f):=by
 have hm:=Bu (f:=f) (Aio (f:=f))
 refine⟨?_,by unfold nx;rw[hm];exact h.2⟩
 have hs:=AgM h.2
 obtain⟨a,b,c⟩:=f
 obtain⟨⟨h1,h2⟩,_⟩:=h
 by_cases h:sm (a,b,c)<0
 ·have e:nx (a,b,c)=(a,b+2*a,a+b+c):=by unfold nx;rw[show stT (a,b,c)=tR from if_pos h];exact Acl
  rw[e];exact⟨h1,h⟩
 ·have e:nx (a,b,c)=(a+b+c,b+2*c,c):=by unfold nx;rw[show stT (a,b,c)=tL from if_neg h];exact AbT
  rw[e]
  refine⟨?_,h2⟩
  simp only[sm]at h hs ⊢
  omega
structure NN(t:I4):Prop where
 p:1≤t.1
 q:0≤t.2.1
 r:0≤t.2.2.1
 s:1≤t.2.2.2
 d:det t=1
def sz(t:I4):Nat:=(t.1+t.2.1+t.2.2.1+t.2.2.2).toNat
theorem NN.split{t:I4}(h:NN t):t=(1,0,0,1)∨(∃u,NN u∧t=Aj tR u∧sz u<sz t)∨(∃u,NN u∧t=Aj tL u∧sz u<sz t):=by
 obtain⟨p,q,r,s⟩:=t
 obtain⟨hp,hq,hr,hs,hd⟩:=h
 simp only[det]at *
 by_cases c1:r≤p∧s≤q
 ·refine .inr (.inl ⟨(p-r,q-s,r,s),⟨?_,by simp only;omega,hr,hs,?_⟩,?_,?_⟩)
  ·show 1≤p-r
   have e:(p-r)*s-(q-s)*r=1:=by grind
   have z:=Int.mul_nonneg (show 0≤q-s by omega) hr
   rcases Int.lt_or_le (p-r) 1 with w|w
   ·have:(p-r)*s≤0*s:=Int.mul_le_mul_of_nonneg_right (by omega) (by omega)
    omega
   ·exact w
  ·show(p-r)*s-(q-s)*r=1
   grind
  ·simp only[Aj,Prod.mk.injEq]
   refine⟨?_,?_,?_,?_⟩<;>omega
  ·simp only[sz];omega
 ·by_cases c2:p≤r∧q≤s
  ·refine .inr (.inr ⟨(p,q,r-p,s-q),⟨hp,hq,by simp only;omega,?_,?_⟩,?_,?_⟩)
   ·show 1≤s-q
    have e:p*(s-q)-q*(r-p)=1:=by grind
    have z:=Int.mul_nonneg hq (show 0≤r-p by omega)
    rcases Int.lt_or_le (s-q) 1 with w|w
    ·have:p*(s-q)≤p*0:=Int.mul_le_mul_of_nonneg_left (by omega) (by omega)
     omega
    ·exact w
   ·show p*(s-q)-q*(r-p)=1
    grind
   ·simp only[Aj,Prod.mk.injEq]
    refine⟨?_,?_,?_,?_⟩<;>omega
   ·simp only[sz];omega
  ·rcases Int.lt_or_le r p with w|w
   ·
    have w2:q<s:=by omega
    have z:=Int.mul_le_mul (show r+1≤p by omega) (show q+1≤s by omega) (by omega) (by omega)
    have e:(r+1)*(q+1)=r*q+r+q+1:=by grind
    have e2:r*q=q*r:=Int.mul_comm r q
    have r0:r=0:=by omega
    have q0:q=0:=by omega
    subst r0 q0
    left
    have hps:p*s=1:=by omega
    have p1:p=1:=by
     rcases Int.lt_or_le p 2 with v|v
     ·omega
     ·have:=Int.mul_le_mul v hs (by decide) (by omega)
      omega
    subst p1
    have:s=1:=by omega
    rw[this]
   ·
    have w2:s<q:=by omega
    have w3:p<r:=by
     rcases Int.lt_or_le p r with v|v
     ·exact v
     ·have:p=r:=by omega
      subst this
      exfalso
      have e:p*s-q*p=p*(s-q):=by grind
      have:=Int.mul_le_mul_of_nonneg_left (show s-q≤-1 by omega) (show 0≤p by omega)
      omega
    exfalso
    have z:=Int.mul_le_mul (show p≤r-1 by omega) (show s≤q-1 by omega) (by omega) (by omega)
    have e:(r-1)*(q-1)=q*r-r-q+1:=by grind
    omega
def wd:Nat→I3→I4
 |0,_=>(1,0,0,1)
 |n+1,f=>Aj (stT f) (wd n (nx f))
def nxs:Nat→I3→I3
 |0,f=>f
 |n+1,f=>nxs n (nx f)
theorem Gn{t:I4}:Aj (1,0,0,1) t=t:=by
 obtain⟨p,q,r,s⟩:=t
 simp only[Aj,Prod.mk.injEq]
 refine⟨?_,?_,?_,?_⟩<;>omega
theorem Dj{t:I4}:Aj t (1,0,0,1)=t:=by
 obtain⟨p,q,r,s⟩:=t
 simp only[Aj,Prod.mk.injEq]
 refine⟨?_,?_,?_,?_⟩<;>omega
theorem then_assoc{t u v:I4}:Aj (Aj t u) v=Aj t (Aj u v):=by
 obtain⟨a,b,c,d⟩:=t;obtain⟨e,f,g,h⟩:=u;obtain⟨i,j,k,l⟩:=v
 simp only[Aj,Prod.mk.injEq]
 refine⟨?_,?_,?_,?_⟩<;>grind
theorem K7:∀(n:Nat)(f:I3),mov f (wd n f)=nxs n f
 |0,f=>Ec
 |n+1,f=>by rw[wd,←Bc];exact K7 n (nx f)
theorem YW{a b c x y:Int}(ha:0<a)(hb:0<b)(hc:0<c)(hx:0≤x)(hy:0≤y):0≤val (a,b,c) (x,y):=by
 have e:val (a,b,c) (x,y)=a*(x*x)+b*(x*y)+c*(y*y):=by simp only[val];grind
 have h1:=Int.mul_nonneg (show 0≤a by omega) (Int.mul_nonneg hx hx)
 have h2:=Int.mul_nonneg (show 0≤b by omega) (Int.mul_nonneg hx hy)
 have h3:=Int.mul_nonneg (show 0≤c by omega) (Int.mul_nonneg hy hy)
 omega
theorem neg_val{a b c x y:Int}(ha:a<0)(hb:b<0)(hc:c<0)(hx:0≤x)(hy:0≤y):val (a,b,c) (x,y)≤0:=by
 have:=YW (a:=-a) (b:=-b) (c:=-c) (by omega) (by omega) (by omega) hx hy
 have e:val (-a,-b,-c) (x,y)=-val (a,b,c) (x,y):=by simp only[val];grind
 omega
theorem along:∀(m:Nat)(f:I3)(t:I4),sz t≤m→Riv f→NN t→Riv (mov f t)→∃n,t=wd n f:=by
 intro m
 induction m with
 | zero =>
  intro f t hs _ hN _
  exfalso
  have:=hN.p;have:=hN.q;have:=hN.r;have:=hN.s
  unfold sz at hs
  omega
 | succ m ih =>
  intro f t hs hf hN hg
  rcases hN.split with e|⟨u,hu,e,hl⟩|⟨u,hu,e,hl⟩
  ·exact⟨0,e⟩
  ·have hsm:sm f<0:=by
    have hne:=AgM hf.2
    rcases Int.lt_or_le (sm f) 0 with z|z
    ·exact z
    ·exfalso
     rw[e,←Bc]at hg
     obtain⟨a,b,c⟩:=f
     obtain⟨p,q,r,s⟩:=u
     rw[Acl]at hg
     have h1:(mov (a,b+2*a,a+b+c) (p,q,r,s)).2.2<0:=hg.1.2
     have h2:0<a:=hf.1.1
     have h3:c<0:=hf.1.2
     simp only[sm]at hne z
     have h4:0≤val (a,b+2*a,a+b+c) (q,s):=YW h2 (by omega) (by omega) hu.q (by have:=hu.s;simp only at this;omega)
     have h5:(mov (a,b+2*a,a+b+c) (p,q,r,s)).2.2=val (a,b+2*a,a+b+c) (q,s):=rfl
     omega
   have hst:stT f=tR:=by unfold stT;rw[if_pos hsm]
   have hnx:nx f=mov f tR:=by unfold nx;rw[hst]
   have hr:=hf.next
   obtain⟨n,en⟩:=ih (nx f) u (by omega) hr hu (by rw[hnx,Bc,←e];exact hg)
   exact⟨n+1,by rw[wd,hst,←en];exact e⟩
  ·have hsm:¬sm f<0:=by
    intro z
    rw[e,←Bc]at hg
    obtain⟨a,b,c⟩:=f
    obtain⟨p,q,r,s⟩:=u
    rw[AbT]at hg
    have h1:0<(mov (a+b+c,b+2*c,c) (p,q,r,s)).1:=hg.1.1
    have h2:0<a:=hf.1.1
    have h3:c<0:=hf.1.2
    simp only[sm]at z
    have h4:val (a+b+c,b+2*c,c) (p,r)≤0:=neg_val (by omega) (by omega) h3 (by have:=hu.p;simp only at this;omega) hu.r
    have h5:(mov (a+b+c,b+2*c,c) (p,q,r,s)).1=val (a+b+c,b+2*c,c) (p,r):=rfl
    omega
   have hst:stT f=tL:=by unfold stT;rw[if_neg hsm]
   have hnx:nx f=mov f tL:=by unfold nx;rw[hst]
   have hr:=hf.next
   obtain⟨n,en⟩:=ih (nx f) u (by omega) hr hu (by rw[hnx,Bc,←e];exact hg)
   exact⟨n+1,by rw[wd,hst,←en];exact e⟩
def Hv(t:I4):I4:=(-t.1,-t.2.1,-t.2.2.1,-t.2.2.2)
theorem Oz{f:I3}{t:I4}:mov f (Hv t)=mov f t:=by
 obtain⟨a,b,c⟩:=f;obtain⟨p,q,r,s⟩:=t
 simp only[mov,val,mid,Hv,Prod.mk.injEq]
 refine⟨?_,?_,?_⟩<;>grind
theorem neg_neg{t:I4}:Hv (Hv t)=t:=by
 obtain⟨p,q,r,s⟩:=t
 simp only[Hv,Prod.mk.injEq]
 refine⟨?_,?_,?_,?_⟩<;>omega
theorem AfZ{t:I4}:det (Hv t)=det t:=by
 obtain⟨p,q,r,s⟩:=t
 simp only[det,Hv];grind
theorem Vq{t:I4}:Ar (Hv t)=Hv (Ar t):=by
 obtain⟨p,q,r,s⟩:=t
 simp only[Ar,Hv]
theorem signs{f:I3}{t:I4}(hf:Riv f)(hd:det t=1)(hg:Riv (mov f t))(hp:0≤t.1):NN t∨NN (Ar t):=by
 obtain⟨a,b,c⟩:=f
 obtain⟨p,q,r,s⟩:=t
 have ha:0<a:=hf.1.1
 have hc:c<0:=hf.1.2
 have hu:0<val (a,b,c) (p,r):=hg.1.1
 have hv:val (a,b,c) (q,s)<0:=hg.1.2
 have hp:0≤p:=hp
 have p0:p≠0:=fun e=>by
  subst e
  rw[Tw]at hu
  have:=Int.mul_nonneg (show 0≤-c by omega) (sq_nonneg r)
  have e:-c*(r*r)=-(c*(r*r)):=by grind
  omega
 have s0:s≠0:=fun e=>by
  subst e
  rw[K4]at hv
  have:=Int.mul_nonneg (show 0≤a by omega) (sq_nonneg q)
  omega
 have hd':p*s-q*r=1:=hd
 have key:val (a,b,c) (p,r)*(q*s)-val (a,b,c) (q,s)*(p*r)=(p*s-q*r)*(a*(p*q)-c*(r*s)):=by simp only[val];grind
 have hs:0<s:=by
  rcases Int.lt_or_le 0 s with z|z
  ·exact z
  ·exfalso
   have z:s≤-1:=by omega
   have h1:p*s≤1 * -1:=by
    have:=Int.mul_le_mul_of_nonneg_left z (show 0≤p by omega)
    omega
   have hqr:q*r≤-2:=by omega
   rw[hd',Int.one_mul]at key
   rcases Int.lt_or_le q 0 with hq|hq
   ·have hr:0<r:=by
     rcases Int.lt_or_le 0 r with w|w
     ·exact w
     ·have:=Int.mul_nonneg_of_nonpos_of_nonpos (show q≤0 by omega) w
      omega
    have k1:=Int.mul_pos hu (Int.mul_pos_of_neg_of_neg hq (show s<0 by omega))
    have k2:=Int.mul_neg_of_neg_of_pos hv (Int.mul_pos (show 0<p by omega) hr)
    have k3:=Int.mul_neg_of_pos_of_neg ha (Int.mul_neg_of_pos_of_neg (show 0<p by omega) hq)
    have k4:=Int.mul_pos_of_neg_of_neg hc (Int.mul_neg_of_pos_of_neg hr (show s<0 by omega))
    omega
   ·have hq':0<q:=by
     rcases Int.lt_or_le 0 q with w|w
     ·exact w
     ·have:q=0:=by omega
      subst this
      omega
    have hr:r<0:=by
     rcases Int.lt_or_le r 0 with w|w
     ·exact w
     ·have:=Int.mul_nonneg hq w
      omega
    have k1:=Int.mul_neg_of_pos_of_neg hu (Int.mul_neg_of_pos_of_neg hq' (show s<0 by omega))
    have k2:=Int.mul_pos_of_neg_of_neg hv (Int.mul_neg_of_pos_of_neg (show 0<p by omega) hr)
    have k3:=Int.mul_pos ha (Int.mul_pos (show 0<p by omega) hq')
    have k4:=Int.mul_neg_of_neg_of_pos hc (Int.mul_pos_of_neg_of_neg hr (show s<0 by omega))
    omega
 have hps:=Int.mul_le_mul (show 1≤p by omega) (show 1≤s by omega) (by decide) (by omega)
 by_cases hq:0≤q∧0≤r
 ·exact .inl ⟨by simp only;omega,hq.1,hq.2,by simp only;omega,hd⟩
 ·right
  have hqr:q≤0∧r≤0:=by
   rcases Int.lt_trichotomy q 0 with w|w|w
   ·refine⟨by omega,?_⟩
    rcases Int.lt_or_le 0 r with v|v
    ·have:=Int.mul_neg_of_neg_of_pos w v;omega
    ·exact v
   ·omega
   ·exfalso
    have:r<0:=by omega
    have:=Int.mul_neg_of_pos_of_neg w this
    omega
  exact⟨by simp only[Ar];omega,by simp only[Ar];omega,by simp only[Ar];omega,by simp only[Ar];omega,CJ.trans hd⟩
theorem AjC{f:I3}{t:I4}(hf:Riv f)(hd:det t=1)(hg:Riv (mov f t)) :
  (∃n,t=wd n f∨t=Hv (wd n f))∨(∃n,Ar t=wd n (mov f t)∨Ar t=Hv (wd n (mov f t))):=by
 have core:∀t:I4,det t=1→Riv (mov f t)→0≤t.1→(∃n,t=wd n f)∨(∃n,Ar t=wd n (mov f t)):=fun t hd hg hp=>by
  rcases signs hf hd hg hp with h|h
  ·exact .inl (along _ f t (Nat.le_refl _) hf h hg)
  ·exact .inr (along _ (mov f t) (Ar t) (Nat.le_refl _) hg h (by rw[Ci hd];exact hf))
 rcases Int.le_total 0 t.1 with hp|hp
 ·rcases core t hd hg hp with⟨n,h⟩|⟨n,h⟩
  ·exact .inl ⟨n,.inl h⟩
  ·exact .inr ⟨n,.inl h⟩
 ·rcases core (Hv t) (AfZ.trans hd) (by rw[Oz];exact hg) (by show 0≤-t.1;omega)with⟨n,h⟩|⟨n,h⟩
  ·exact .inl ⟨n,.inr (by rw[←h,neg_neg])⟩
  ·rw[Oz,Vq]at h
   exact .inr ⟨n,.inr (by rw[←h,neg_neg])⟩
end My
namespace My
open PySem L2
structure Lv(far:Int)(f:I3):Prop where
 S:Sad f
 r:Sq (meas f) far
 L:Level f far
abbrev aft(far:Int)(f:I3):I3:=mov f (Cv f far)
theorem Lv.next{far:Int}{f:I3}(h:Lv far f):Lv far (aft far f) :=
 ⟨h.S.mov CP,by rw[Bu CP];exact h.r,Xw h.S h.r h.L⟩
theorem Lv.ac{far:Int}{f:I3}(h:Lv far f):f.1*f.2.2<0:=by
 have hf:=Xv h.r h.S.no
 obtain⟨⟨l1,l2⟩,_,_⟩:=h.L
 obtain⟨a,b,c⟩:=f
 have l1:0<b:=l1
 have l2:b≤far:=l2
 have hb:b*b≤far*far:=Int.mul_le_mul l2 l2 (by omega) (by omega)
 have e:meas (a,b,c)=b*b-4*(a*c):=by simp only[meas];grind
 show a*c<0
 omega
theorem Lv.neg{far:Int}{f:I3}(h:Lv far f)(ha:0<f.1):f.2.2<0:=by
 rcases Int.lt_or_le f.2.2 0 with z|z
 ·exact z
 ·have:=h.ac
  have:=Int.mul_nonneg (show 0≤f.1 by omega) z
  omega
theorem Lv.pos{far:Int}{f:I3}(h:Lv far f)(ha:f.1<0):0<f.2.2:=by
 rcases Int.lt_or_le 0 f.2.2 with z|z
 ·exact z
 ·have:=h.ac
  have:=Int.mul_nonneg_of_nonpos_of_nonpos (show f.1≤0 by omega) z
  omega
theorem G8{far:Int}{f:I3}(h:Lv far f):(aft far f).1=f.2.2∧(aft far f).2.1=dB f far∧(aft far f).2.2=f.1-f.2.1*kB f far+f.2.2*(kB f far*kB f far):=by
 obtain⟨e,he⟩:=OJ (top:=far) (Jb h.S)
 refine⟨by show(mov f (Cv f far)).1=_;rw[he],by show(mov f (Cv f far)).2.1=_;rw[he],?_⟩
 show val f (-1,kB f far)=_
 simp only[val];grind
theorem Lv.riv{far:Int}{f:I3}(h:Lv far f)(ha:0<f.1):Riv f:=⟨⟨ha,h.neg ha⟩,h.S.no⟩
theorem Aab{far:Int}{f g:I3}(hf:Lv far f)(hg:Lv far g)(hm:meas f=meas g)(h:aft far f=aft far g):f=g:=by
 have ⟨f1,f2,_⟩:=G8 hf
 have ⟨g1,g2,_⟩:=G8 hg
 have hc:f.2.2=g.2.2:=by rw[←f1,h,g1]
 have hd:dB f far=dB g far:=by rw[←f2,h,g2]
 have kf:=Ip (top:=far) (Jb hf.S)
 have kg:=Ip (top:=far) (Jb hg.S)
 have cf:=(Ju hf.r hf.S.no hf.L).1
 have cg:=(Ju hg.r hg.S.no hg.L).1
 have lf:=hf.L.1.2
 have lg:=hg.L.1.2
 have c0:=Jb hf.S
 obtain⟨a,b,c⟩:=f
 obtain⟨a',b',c'⟩:=g
 simp only at hc hd kf kg cf cg lf lg c0
 subst hc
 rw[←hd]at kg
 have hb:b=b':=by
  have e:b-b'=2*(c*(kB (a,b,c) far-kB (a',b',c) far)):=by
   have:2*(c*(kB (a,b,c) far-kB (a',b',c) far))=2*c*kB (a,b,c) far-2*c*kB (a',b',c) far:=by grind
   omega
  generalize kB (a,b,c) far-kB (a',b',c) far=k at *
  have hx:ab (c*k)=ab c*ab k:=(QV c k).symm
  have hk:ab k=0:=by
   rcases Int.lt_or_le (ab k) 1 with z|z
   ·have:=BX k;omega
   ·exfalso
    have:=Int.mul_le_mul_of_nonneg_left z (BX c)
    rcases Bd (c*k)with⟨_,e1⟩|⟨_,e1⟩<;>omega
  rw[hk]at hx
  have:c*k=0:=by rcases Bd (c*k)with⟨_,e1⟩|⟨_,e1⟩<;>omega
  omega
 subst hb
 have e1:4*c*a=4*c*a':=by
  simp only[meas]at hm
  have x1:4*a*c=4*c*a:=by grind
  have x2:4*a'*c=4*c*a':=by grind
  omega
 have:a=a':=Int.eq_of_mul_eq_mul_left (show 4*c≠0 by omega) e1
 rw[this]
theorem Amh:∀(k:Nat)(a b c:Int),(∀j:Nat,1≤j→j≤k→0<a+b*j+c*(j*j))→wd k (a,b,c)=(1,0,(k:Int),1)
 |0,_,_,_,_=>rfl
 | k+1,a,b,c,h=>by
  have h1:=h 1 (by omega) (by omega)
  have hs:¬sm (a,b,c)<0:=by simp only[sm];simp at h1;omega
  have e:nx (a,b,c)=(a+b+c,b+2*c,c):=by unfold nx;rw[show stT (a,b,c)=tL from if_neg hs];exact AbT
  rw[wd,e,show stT (a,b,c)=tL from if_neg hs,Amh k _ _ _ fun j j1 jk=>?_]
  ·simp only[Aj,Prod.mk.injEq]
   refine⟨by omega,by omega,by push_cast;omega,by omega⟩
  ·have:=h (j+1) (by omega) (by omega)
   have e2:a+b+c+(b+2*c)*(j:Int)+c*((j:Int)*j)=a+b*((j+1:Nat):Int)+c*(((j+1:Nat):Int)*((j+1:Nat):Int)):=by push_cast;grind
   rw[e2];exact this
theorem AkS:∀(k:Nat)(a b c:Int),(∀j:Nat,1≤j→j≤k→a*(j*j)+b*j+c<0)→wd k (a,b,c)=(1,(k:Int),0,1)
 |0,_,_,_,_=>rfl
 | k+1,a,b,c,h=>by
  have h1:=h 1 (by omega) (by omega)
  have hs:sm (a,b,c)<0:=by simp only[sm];simp at h1;omega
  have e:nx (a,b,c)=(a,b+2*a,a+b+c):=by unfold nx;rw[show stT (a,b,c)=tR from if_pos hs];exact Acl
  rw[wd,e,show stT (a,b,c)=tR from if_pos hs,AkS k _ _ _ fun j j1 jk=>?_]
  ·simp only[Aj,Prod.mk.injEq]
   refine⟨by omega,by push_cast;omega,by omega,by omega⟩
  ·have:=h (j+1) (by omega) (by omega)
   have e2:a*((j:Int)*j)+(b+2*a)*(j:Int)+(a+b+c)=a*(((j+1:Nat):Int)*((j+1:Nat):Int))+b*((j+1:Nat):Int)+c:=by push_cast;grind
   rw[e2];exact this
theorem Xf:∀(m n:Nat)(f:I3),wd (m+n) f=Aj (wd m f) (wd n (nxs m f))
 |0,n,f=>by rw[Nat.zero_add];exact Gn.symm
 | m+1,n,f=>by
  rw[show m+1+n=(m+n)+1 by omega,wd,Xf m n (nx f),wd,then_assoc];rfl
theorem Tg:∀(m n:Nat)(f:I3),nxs (m+n) f=nxs n (nxs m f)
 |0,n,f=>by rw[Nat.zero_add];rfl
 |m+1,n,f=>by rw[show m+1+n=(m+n)+1 by omega];exact Tg m n (nx f)
theorem Aln{a b c k j:Int}(hc:c≤0)(h0:0<a)(hk:0<a+b*k+c*(k*k))(j0:0≤j)(jk:j≤k)(k0:0<k):0<a+b*j+c*(j*j):=by
 have e:k*(a+b*j+c*(j*j))=(k-j)*a+j*(a+b*k+c*(k*k))+(-c)*(j*(k-j)*k):=by grind
 have h1:=Int.mul_nonneg (show 0≤k-j by omega) (show 0≤a by omega)
 have h2:=Int.mul_nonneg j0 (show 0≤a+b*k+c*(k*k) by omega)
 have h3:=Int.mul_nonneg (show 0≤-c by omega) (Int.mul_nonneg (Int.mul_nonneg j0 (show 0≤k-j by omega)) (show 0≤k by omega))
 have h4:0<(k-j)*a+j*(a+b*k+c*(k*k)):=by
  by_cases z:j=k
  ·subst z
   have:=Int.mul_pos k0 hk
   omega
  ·have:=Int.mul_pos (show 0<k-j by omega) h0
   omega
 rcases Int.lt_or_le 0 (a+b*j+c*(j*j))with z|z
 ·exact z
 ·have:=Int.mul_le_mul_of_nonneg_left z (show 0≤k by omega)
  omega
theorem Lv.o8{far:Int}{f:I3}(h:Lv far f):(0<f.1→kB f far<0)∧(f.1<0→0<kB f far):=by
 have hk:=Ip (top:=far) (Jb h.S)
 have hd:0<dB f far:=by
  have:=h.next.L.1.1
  rw[(G8 h).2.1]at this
  exact this
 have hb:=h.L.1.1
 constructor
 ·intro ha
  have hc:=h.neg ha
  rcases Int.lt_or_le (kB f far) 0 with z|z
  ·exact z
  ·have:=Int.mul_nonneg (show 0≤-(2*f.2.2) by omega) z
   have e:-(2*f.2.2)*kB f far=-(2*f.2.2*kB f far):=by grind
   omega
 ·intro ha
  have hc:=h.pos ha
  rcases Int.lt_or_le 0 (kB f far)with z|z
  ·exact z
  ·have:=Int.mul_nonneg (show 0≤2*f.2.2 by omega) (show 0≤-kB f far by omega)
   have e:2*f.2.2 * -kB f far=-(2*f.2.2*kB f far):=by grind
   omega
theorem Abh{far:Int}{f:I3}(h:Lv far f)(ha:0<f.1) :
  ∃N:Nat,2≤N∧nxs N f=aft far (aft far f)∧wd N f=Hv (Aj (Cv f far) (Cv (aft far f) far))∧∀j,0<j→j<N→¬Lv far (nxs j f):=by
 have h':=h.next
 have h'':=h'.next
 have hc:=h.neg ha
 have ⟨g1,g2,g3⟩:=G8 h
 have a':(aft far f).1<0:=by rw[g1];exact hc
 have he:=h'.pos a'
 have ⟨q1,q2,q3⟩:=G8 h'
 have a'':0<(aft far (aft far f)).1:=by rw[q1];exact he
 have pZ:=h''.neg a''
 have kn:=h.o8.1 ha
 have kp:=h'.o8.2 a'
 have hk1:=Ip (top:=far) (Jb h.S)
 have hk2:=Ip (top:=far) (Jb h'.S)
 have lb:=h.L.1.2
 have ld':=h''.L.1.2
 rw[q2]at ld'
 rw[g2]at hk2
 rw[q3,g1,g2]at pZ
 rw[g3]at he
 have qU:Cv f far=(0,-1,1,kB f far):=rfl
 have qW:Cv (aft far f) far=(0,-1,1,kB (aft far f) far):=rfl
 rw[qU,qW]
 have e22:(aft far f).2.2=f.1-f.2.1*kB f far+f.2.2*(kB f far*kB f far):=g3
 generalize hF:aft far (aft far f)=F at *
 generalize hd':dB (aft far f) far=d' at *
 generalize rJ:kB (aft far f) far=k2 at *
 have hform:nxs 0 f=f:=rfl
 generalize hg:aft far f=g at *
 generalize hd:dB f far=d at *
 generalize hk1':kB f far=k1 at *
 obtain⟨a,b,c⟩:=f
 have ha:0<a:=ha
 have hc:c<0:=hc
 have lb:b≤far:=lb
 have he:0<a-b*k1+c*(k1*k1):=he
 have hk1:2*c*k1=b+d:=hk1
 have pZ:c-d*k2+g.2.2*(k2*k2)<0:=pZ
 have e22:g.2.2=a-b*k1+c*(k1*k1):=e22
 rw[e22]at pZ hk2
 obtain⟨n1,hn1⟩:∃n:Nat,-k1=n:=⟨(-k1).toNat,by omega⟩
 obtain⟨n2,hn2⟩:∃n:Nat,k2=n:=⟨k2.toNat,by omega⟩
 have p7:k1=-(n1:Int):=by omega
 have hw1:∀i:Nat,i≤n1→wd i (a,b,c)=(1,0,(i:Int),1):=fun i hi=>Amh i a b c fun j j1 ji=>by
  refine Aln (k:=n1) (by omega) ha ?_ (by omega) (by omega) (by omega)
  have:a+b*(n1:Int)+c*((n1:Int)*n1)=a-b*k1+c*(k1*k1):=by rw[p7];grind
  omega
 have hF1:nxs n1 (a,b,c)=(a-b*k1+c*(k1*k1),-d,c):=by
  rw[←K7,hw1 n1 (Nat.le_refl _)]
  have e1:-d=b+2*c*n1:=by
   have:2*c*(n1:Int)=-(2*c*k1):=by rw[p7];grind
   omega
  rw[e1,p7]
  simp only[mov,val,mid,Prod.mk.injEq]
  refine⟨?_,?_,?_⟩<;>grind
 generalize hee:a-b*k1+c*(k1*k1)=e at *
 have hw2:∀i:Nat,i≤n2→wd i (e,-d,c)=(1,(i:Int),0,1):=fun i hi=>AkS i e (-d) c fun j j1 ji=>by
  have:=Aln (a:=-c) (b:=d) (c:=-e) (k:=n2) (j:=j) (by omega) (by omega) (by
   have:-c+d*(n2:Int) + -e*((n2:Int)*n2)=-(c-d*k2+e*(k2*k2)):=by rw[hn2];grind
   omega) (by omega) (by omega) (by omega)
  have e1:e*((j:Int)*j) + -d*j+c=-(-c+d*(j:Int) + -e*((j:Int)*j)):=by grind
  omega
 have hF2:∀i:Nat,i≤n2→nxs (n1+i) (a,b,c)=(e,-d+2*e*i,e*((i:Int)*i)-d*i+c):=fun i hi=>by
  rw[Tg,hF1,←K7,hw2 i hi]
  simp only[mov,val,mid,Prod.mk.injEq]
  refine⟨?_,?_,?_⟩<;>grind
 have hwd:wd (n1+n2) (a,b,c)=Hv (Aj (0,-1,1,k1) (0,-1,1,k2)):=by
  rw[Xf,hF1,hw1 n1 (Nat.le_refl _),hw2 n2 (Nat.le_refl _),p7,hn2]
  simp only[Aj,Hv,Prod.mk.injEq]
  refine⟨?_,?_,?_,?_⟩<;>grind
 refine⟨n1+n2,by omega,?_,hwd,?_⟩
 ·rw[←K7,hwd,Oz,←Bc,←hF,←hg]
  show mov (mov (a,b,c) (0,-1,1,k1)) (0,-1,1,k2)=_
  rw[←hk1',←rJ,←hg];rfl
 ·intro j j0 jn hL
  rcases Nat.lt_or_ge n1 j with z|z
  ·obtain⟨i,rfl⟩:∃i,j=n1+i:=⟨j-n1,by omega⟩
   rw[hF2 i (by omega)]at hL
   have l1:=hL.L.2.1
   have l1:far-(-d+2*e*i)<2*ab e:=l1
   rw[show ab e=e from if_neg (by omega)]at l1
   have hi:(i:Int)≤n2-1:=by omega
   have:=Int.mul_le_mul_of_nonneg_left hi (show 0≤2*e by omega)
   have e1:2*e*((n2:Int)-1)=2*e*k2-2*e:=by rw[hn2];grind
   omega
  ·have hj:nxs j (a,b,c)=(a+b*j+c*((j:Int)*j),b+2*c*j,c):=by
    rw[←K7,hw1 j z]
    simp only[mov,val,mid,Prod.mk.injEq]
    refine⟨?_,?_,?_⟩<;>grind
   rw[hj]at hL
   have l1:=(Ju hL.r hL.S.no hL.L).1
   have l1:far-(b+2*c*j)<2*ab c:=l1
   rw[show ab c=-c from if_pos hc]at l1
   have:=Int.mul_le_mul_of_nonneg_left (show(1:Int)≤j by omega) (show 0≤-(2*c) by omega)
   have e1:-(2*c)*(j:Int)=-(2*c*j):=by grind
   omega
end My
namespace My
open PySem L2
def Sg(t u:I4):Prop:=t=u∨t=Hv u
theorem WK{t u:I4}:Aj (Hv t) u=Hv (Aj t u):=by
 obtain⟨a,b,c,d⟩:=t;obtain⟨e,f,g,h⟩:=u
 simp only[Aj,Hv,Prod.mk.injEq]
 refine⟨?_,?_,?_,?_⟩<;>grind
theorem V8{t u:I4}:Aj t (Hv u)=Hv (Aj t u):=by
 obtain⟨a,b,c,d⟩:=t;obtain⟨e,f,g,h⟩:=u
 simp only[Aj,Hv,Prod.mk.injEq]
 refine⟨?_,?_,?_,?_⟩<;>grind
theorem Gi{t:I4}:Ar (Ar t)=t:=by
 obtain⟨a,b,c,d⟩:=t
 simp only[Ar,Prod.mk.injEq]
 refine⟨trivial,?_,?_,trivial⟩<;>omega
theorem QT{t u:I4}:Ar (Aj t u)=Aj (Ar u) (Ar t):=by
 obtain⟨a,b,c,d⟩:=t;obtain⟨e,f,g,h⟩:=u
 simp only[Aj,Ar,Prod.mk.injEq]
 refine⟨?_,?_,?_,?_⟩<;>grind
theorem Sg.refl{t:I4}:Sg t t:=.inl rfl
theorem Sg.trans{t u v:I4}(h:Sg t u)(k:Sg u v):Sg t v:=by
 rcases h with rfl|rfl<;>rcases k with rfl|rfl
 ·exact .inl rfl
 ·exact .inr rfl
 ·exact .inr rfl
 ·exact .inl neg_neg
theorem Sg.then{t u t' u':I4}(h:Sg t t')(k:Sg u u'):Sg (Aj t u) (Aj t' u'):=by
 rcases h with rfl|rfl<;>rcases k with rfl|rfl
 ·exact .inl rfl
 ·exact .inr V8
 ·exact .inr WK
 ·exact .inl (by rw[WK,V8,neg_neg])
theorem Sg.back{t u:I4}(h:Sg t u):Sg (Ar t) (Ar u):=by
 rcases h with rfl|rfl
 ·exact .inl rfl
 ·exact .inr Vq
theorem Sg.mov{f:I3}{t u:I4}(h:Sg t u):mov f t=mov f u:=by
 rcases h with rfl|rfl
 ·rfl
 ·exact Oz
def rF(far:Int):Nat→I3→I3
 |0,f=>f
 |n+1,f=>rF far n (aft far f)
def rT(far:Int):Nat→I3→I4
 |0,_=>(1,0,0,1)
 |n+1,f=>Aj (Cv f far) (rT far n (aft far f))
theorem JB{far:Int}:∀(n:Nat)(f:I3),mov f (rT far n f)=rF far n f
 |0,_=>Ec
 |n+1,f=>by rw[rT,←Bc];exact JB n (aft far f)
theorem T8{far:Int}:∀(n:Nat)(f:I3),det (rT far n f)=1
 |0,_=>rfl
 |n+1,f=>by rw[rT,BK,CP,T8 n (aft far f)];rfl
theorem GK{far:Int}:∀(m n:Nat)(f:I3),rF far (m+n) f=rF far n (rF far m f)
 |0,n,f=>by rw[Nat.zero_add];rfl
 |m+1,n,f=>by rw[show m+1+n=(m+n)+1 by omega];exact GK m n (aft far f)
theorem Tp{far:Int}:∀(m n:Nat)(f:I3),rT far (m+n) f=Aj (rT far m f) (rT far n (rF far m f))
 |0,n,f=>by rw[Nat.zero_add];exact Gn.symm
 |m+1,n,f=>by rw[show m+1+n=(m+n)+1 by omega,rT,Tp m n (aft far f),rT,then_assoc];rfl
theorem ZG{far:Int}{n:Nat}{f:I3}:rF far (n+1) f=aft far (rF far n f):=by rw[GK];rfl
theorem Aai{far:Int}{n:Nat}{f:I3}:rT far (n+1) f=Aj (rT far n f) (Cv (rF far n f) far):=by
 rw[Tp]
 show Aj _ (Aj _ (1,0,0,1))=_
 rw[Dj]
theorem Lv.rF{far:Int}:∀(n:Nat){f:I3},Lv far f→Lv far (rF far n f)
 |0,_,h=>h
 |n+1,_,h=>Lv.rF n h.next
theorem Lp{far:Int}(n:Nat)(f:I3):meas (rF far n f)=meas f:=by rw[←JB,Bu (T8 n f)]
theorem Aah{far:Int}:∀(n:Nat)(f:I3),Lv far f→0<f.1→Lv far (nxs n f)→∃m,Sg (wd n f) (rT far m f):=by
 intro n
 induction n using Nat.strongRecOn with
 | ind n ih =>
  intro f hf ha hg
  by_cases h0:n=0
  ·subst h0
   exact⟨0,Sg.refl⟩
  ·obtain⟨N,hN,e1,e2,e3⟩:=Abh hf ha
   have hn:N≤n:=by
    rcases Nat.lt_or_ge n N with z|z
    ·exact absurd hg (e3 n (by omega) z)
    ·exact z
   obtain⟨k,rfl⟩:∃k,n=N+k:=⟨n-N,by omega⟩
   have a2:0<(aft far (aft far f)).1:=by
    rw[(G8 hf.next).1]
    exact hf.next.pos (by rw[(G8 hf).1];exact hf.neg ha)
   rw[Tg,e1]at hg
   obtain⟨m,hm⟩:=ih k (by omega) (aft far (aft far f)) hf.next.next a2 hg
   refine⟨m+2,?_⟩
   rw[Xf,e1,e2]
   show Sg _ (Aj (Cv f far) (Aj (Cv (aft far f) far) (rT far m (aft far (aft far f)))))
   rw[←then_assoc]
   exact Sg.then (.inr rfl) hm
def Ring(far:Int)(f g:I3)(t:I4):Prop:=(∃m,Sg t (rT far m f))∨(∃m,Sg (Ar t) (rT far m g))
theorem Ring.swap{far:Int}{f g:I3}{t:I4}(h:Ring far f g t):Ring far g f (Ar t):=by
 rcases h with⟨m,h⟩|⟨m,h⟩
 ·exact .inr ⟨m,by rw[Gi];exact h⟩
 ·exact .inl ⟨m,h⟩
theorem ZP{far:Int}{f g:I3}{t:I4}(hf:Lv far f)(hg:Lv far g)(hd:det t=1)(e:mov f t=g)(fa:0<f.1)(ga:0<g.1):Ring far f g t:=by
 have hr:Riv (mov f t):=by rw[e];exact hg.riv ga
 rcases AjC (hf.riv fa) hd hr with⟨n,h⟩|⟨n,h⟩
 ·have hs:Sg t (wd n f):=h
  have hn:Lv far (nxs n f):=by rw[←K7,←hs.mov,e];exact hg
  obtain⟨m,hm⟩:=Aah n f hf fa hn
  exact .inl ⟨m,hs.trans hm⟩
 ·rw[e]at h
  have hs:Sg (Ar t) (wd n g):=h
  have hn:Lv far (nxs n g):=by rw[←K7,←hs.mov,←e,Ci hd];exact hf
  obtain⟨m,hm⟩:=Aah n g hg ga hn
  exact .inr ⟨m,hs.trans hm⟩
theorem Z0{far:Int}{f g:I3}{t:I4}{m:Nat}(hf:Lv far f)(hg:Lv far g)(hm:meas f=meas g)(h:Sg (Aj t (Cv g far)) (rT far m f))(e:rF far m f=aft far g):(∃k,Sg t (rT far k f))∨Sg t (Ar (Cv g far)):=by
 have cancel:∀{u:I4},Sg (Aj t (Cv g far)) (Aj u (Cv g far))→Sg t u:=fun{u} h=>by
  have:=Sg.then h (Sg.refl (t:=Ar (Cv g far)))
  rw[then_assoc,then_assoc,Fq CP,Dj,Dj]at this
  exact this
 match m,h,e with
 | 0,h,e =>
  right
  refine cancel (h.trans ?_)
  rw[R7 CP]
  exact Sg.refl
 | m+1,h,e =>
  left
  rw[ZG]at e
  have e':=Aab (Lv.rF m hf) hg (by rw[Lp];exact hm) e
  rw[Aai,e']at h
  exact⟨m,cancel h⟩
theorem Tz{far:Int}{f g:I3}{t:I4}(hf:Lv far f)(hg:Lv far g)(hd:det t=1)(e:mov f t=g)(fa:0<f.1)(ga:g.1<0):Ring far f g t:=by
 have hm:meas f=meas g:=by rw[←e,Bu hd]
 have hd':det (Aj t (Cv g far))=1:=by rw[BK,hd,CP];rfl
 have e':mov f (Aj t (Cv g far))=aft far g:=by rw[←Bc,e]
 have ga':0<(aft far g).1:=by rw[(G8 hg).1];exact hg.pos ga
 rcases ZP hf hg.next hd' e' fa ga' with⟨m,h⟩|⟨m,h⟩
 ·have er:rF far m f=aft far g:=by rw[←JB,←h.mov,e']
  rcases Z0 hf hg hm h er with h|h
  ·exact .inl h
  ·refine .inr ⟨1,?_⟩
   have:=h.back
   rw[Gi]at this
   show Sg _ (Aj (Cv g far) (1,0,0,1))
   rw[Dj]
   exact this
 ·refine .inr ⟨m+1,?_⟩
  have h2:=Sg.then (Sg.refl (t:=Cv g far)) h
  rw[QT,←then_assoc,Fq CP,Gn]at h2
  exact h2
theorem Vn{far:Int}{f g:I3}{t:I4}(hf:Lv far f)(hg:Lv far g)(hd:det t=1)(e:mov f t=g):Ring far f g t:=by
 have fa:=AdJ hf.S
 have ga:=AdJ hg.S
 have eb:mov g (Ar t)=f:=by rw[←e,Ci hd]
 have hdb:det (Ar t)=1:=CJ.trans hd
 rcases Int.lt_or_lt_of_ne fa with fa|fa
 ·rcases Int.lt_or_lt_of_ne ga with ga|ga
  ·
   have fa':0<(aft far f).1:=by rw[(G8 hf).1];exact hf.pos fa
   have hd':det (Aj (Ar (Cv f far)) t)=1:=by rw[BK,CJ,CP,hd];rfl
   have e':mov (aft far f) (Aj (Ar (Cv f far)) t)=g:=by
    rw[←Bc,Ci CP,e]
   have hm:meas g=meas f:=by rw[←e,Bu hd]
   rcases Tz hf.next hg hd' e' fa' ga with⟨m,h⟩|⟨m,h⟩
   ·refine .inl ⟨m+1,?_⟩
    have h2:=Sg.then (Sg.refl (t:=Cv f far)) h
    rw[←then_assoc,Fq CP,Gn]at h2
    exact h2
   ·rw[QT,Gi]at h
    have er:rF far m g=aft far f:=by rw[←JB,←h.mov,←Bc,eb]
    rcases Z0 hg hf hm h er with h|h
    ·exact .inr h
    ·refine .inl ⟨1,?_⟩
     have:=h.back
     rw[Gi,Gi]at this
     show Sg _ (Aj (Cv f far) (1,0,0,1))
     rw[Dj]
     exact this
  ·have:=(Tz hg hf hdb eb ga fa).swap
   rw[Gi]at this
   exact this
 ·rcases Int.lt_or_lt_of_ne ga with ga|ga
  ·exact Tz hf hg hd e fa ga
  ·exact ZP hf hg hd e fa ga
theorem Ahb:∀(M:Nat)(x:Nat→Nat),(∀i,i≤M→x i<M)→∃i j,i<j∧j≤M∧x i=x j:=by
 intro M
 induction M with
 |zero=>intro x h;exact absurd (h 0 (Nat.le_refl _)) (by omega)
 | succ M ih =>
  intro x h
  by_cases hex:∃i j,i<j∧j≤M+1∧x i=x j
  ·exact hex
  ·have ne:∀i j,i<j→j≤M+1→x i≠x j:=fun i j h1 h2 h3=>hex ⟨i,j,h1,h2,h3⟩
   obtain⟨i,j,h1,h2,h3⟩:=ih (fun i=>if x i=M then x (M+1)else x i) (fun i hi=>by
    have h1:=h i (by omega)
    have h2:=h (M+1) (Nat.le_refl _)
    have h3:=ne i (M+1) (by omega) (Nat.le_refl _)
    show(if x i=M then x (M+1)else x i)<M
    split<;>omega)
   exfalso
   have n1:=ne i j h1 (by omega)
   have n2:=ne i (M+1) (by omega) (Nat.le_refl _)
   have n3:=ne j (M+1) (by omega) (Nat.le_refl _)
   have h3:(if x i=M then x (M+1)else x i)=(if x j=M then x (M+1)else x j):=h3
   split at h3<;>split at h3<;>omega
theorem M4{far:Int}:∀(i:Nat){f g:I3},Lv far f→Lv far g→meas f=meas g→rF far i f=rF far i g→f=g
 |0,_,_,_,_,_,h=>h
 |i+1,f,g,hf,hg,hm,h=>Aab hf hg hm (M4 i hf.next hg.next (by rw[Bu CP,Bu CP];exact hm) h)
def Vb(f:I3):Nat:=((f.1+63)*64+f.2.1).toNat
theorem Lv.range{far:Int}{f:I3}(h:Lv far f):(-63≤f.1∧f.1≤63)∧(0<f.2.1∧f.2.1≤63):=by
 have h6:=Uh h.r h.S.most
 obtain⟨⟨l1,l2⟩,_,l4⟩:=h.L
 have l4:2*ab f.1≤far+f.2.1:=l4
 rcases Bd f.1 with⟨_,e⟩|⟨_,e⟩<;>omega
theorem code_inj{far:Int}{f g:I3}(hf:Lv far f)(hg:Lv far g)(hm:meas f=meas g)(h:Vb f=Vb g):f=g:=by
 have rf:=hf.range
 have rg:=hg.range
 have ha:=AdJ hf.S
 obtain⟨a,b,c⟩:=f
 obtain⟨a',b',c'⟩:=g
 simp only[Vb]at h rf rg ha
 have e1:a=a':=by omega
 have e2:b=b':=by omega
 subst e1 e2
 have e3:4*a*c=4*a*c':=by simp only[meas]at hm;omega
 have:c=c':=Int.eq_of_mul_eq_mul_left (show 4*a≠0 by omega) e3
 rw[this]
theorem WM{far:Int}{f:I3}(h:Lv far f):∃N,0<N∧N≤8128∧rF far N f=f∧∀j,0<j→j<N→rF far j f≠f:=by
 have ex:∃N,0<N∧N≤8128∧rF far N f=f:=by
  obtain⟨i,j,hij,hj,e⟩:=Ahb 8128 (fun i=>Vb (rF far i f)) (fun i _=>by
   have:=(Lv.rF i h).range
   unfold Vb
   omega)
  have e':=code_inj (Lv.rF i h) (Lv.rF j h) (by rw[Lp,Lp]) e
  obtain⟨k,rfl⟩:∃k,j=k+i:=⟨j-i,by omega⟩
  rw[GK k i f]at e'
  have:=M4 i h (Lv.rF k h) (by rw[Lp]) e'
  exact⟨k,by omega,by omega,this.symm⟩
 have least:∀M,(∃N,0<N∧N≤M∧rF far N f=f)→∃N,0<N∧N≤M∧rF far N f=f∧∀j,0<j→j<N→rF far j f≠f:=by
  intro M
  induction M with
  |zero=>intro⟨N,h1,h2,_⟩;omega
  | succ M ih =>
   intro hN
   by_cases hM:∃N,0<N∧N≤M∧rF far N f=f
   ·obtain⟨N,h1,h2,h3,h4⟩:=ih hM
    exact⟨N,h1,by omega,h3,h4⟩
   ·obtain⟨N,h1,h2,h3⟩:=hN
    exact⟨N,h1,h2,h3,fun j j0 jN e=>hM ⟨j,j0,by omega,e⟩⟩
 exact least 8128 ex
theorem ZJ{f:I3}{far:Int}(h:Lv far f):Bt 9 (kB f far):=by
 have hc:=Jb h.S
 have hk:=Ip (top:=far) hc
 have ⟨d1,d2⟩:=LR (top:=far) hc
 have h6:=Uh h.r h.S.most
 have ⟨c1,c2⟩:=Ju h.r h.S.no h.L
 obtain⟨⟨l1,l2⟩,_,_⟩:=h.L
 have e1:2*(ab f.2.2*ab (kB f far))=ab (f.2.1+dB f far):=by
  rw[←hk,QV]
  have:2*f.2.2*kB f far=2*(f.2.2*kB f far):=by grind
  rw[this]
  rcases Bd (f.2.2*kB f far)with⟨h1,e1⟩|⟨h1,e1⟩
  ·rw[e1,ab,if_neg (by omega)]
  ·rw[e1,ab,if_pos (by omega)];omega
 have c0:1≤ab f.2.2:=by rcases Bd f.2.2 with⟨_,e1⟩|⟨_,e1⟩<;>omega
 have e2:=Int.mul_le_mul_of_nonneg_right c0 (BX (kB f far))
 have e3:ab (f.2.1+dB f far)≤252:=by rcases Bd (f.2.1+dB f far)with⟨_,e1⟩|⟨_,e1⟩<;>omega
 have:=BX (kB f far)
 exact S7 (k:=252) (by omega) (by decide)
theorem AgC{far:Int}:∀(n:Nat){f:I3},Lv far f→B4 (10*n+1) (rT far n f)
 |0,_,_=>⟨Bt.one,Bt.zero.le (by omega),Bt.zero.le (by omega),Bt.one⟩
 | n+1,f,h=>by
  have h1:=Ql (ZJ h) (by decide)
  exact(B4.then h1 (AgC n h.next)).le (by omega)
end My
namespace My
open PySem L2
def tr(t:I4):Int:=t.1+t.2.2.2
theorem Ae7{t x:I4}(h:det x=1):tr (Aj (Aj x t) (Ar x))=tr t:=by
 obtain⟨p,q,r,s⟩:=t;obtain⟨a,b,c,d⟩:=x
 simp only[det]at h
 have:tr (Aj (Aj (a,b,c,d) (p,q,r,s)) (Ar (a,b,c,d)))=(a*d-b*c)*(p+s):=by simp only[tr,Aj,Ar];grind
 rw[this,h,Int.one_mul];rfl
theorem AbW{t x:I4}(h:det x=1):tr (Aj (Aj (Ar x) t) x)=tr t:=by
 have:=Ae7 (t:=t) (x:=Ar x) (CJ.trans h)
 rw[Gi]at this
 exact this
def pl(f:I3):I3:=(f.1 / (g3 f:Int),f.2.1 / (g3 f:Int),f.2.2 / (g3 f:Int))
theorem Zk{far:Int}{f:I3}{N m:Nat}(e:rF far N f=f):tr (rT far N (rF far m f))=tr (rT far N f):=by
 have h1:=Tp (far:=far) m N f
 have h2:=Tp (far:=far) N m f
 rw[e,Nat.add_comm N m]at h2
 have hd:=T8 (far:=far) m f
 have:rT far N (rF far m f)=Aj (Aj (Ar (rT far m f)) (rT far N f)) (rT far m f):=by
  rw[then_assoc,←h2,h1,←then_assoc,R7 hd,Gn]
 rw[this,AbW hd]
theorem Wj{far:Int}{f:I3}{N M m:Nat}(h:Lv far f)(e:rF far N f=f)(min:∀j,0<j→j<N→rF far j f≠f)(e':rF far M (rF far m f)=rF far m f)(min':∀j,0<j→j<M→rF far j (rF far m f)≠rF far m f)(hN:0<N)(hM:0<M):N=M:=by
 have a1:rF far M f=f:=by
  rw[←GK,Nat.add_comm,GK]at e'
  exact M4 m (Lv.rF M h) h (by rw[Lp]) e'
 have a2:rF far N (rF far m f)=rF far m f:=by rw[←GK,Nat.add_comm,GK,e]
 rcases Nat.lt_trichotomy N M with z|z|z
 ·exact absurd a2 (min' N hN z)
 ·exact z
 ·exact absurd a1 (min M hM z)
theorem Aa1{far:Int}{f g:I3}{t:I4}{N M:Nat}(hf:Lv far f)(hg:Lv far g)(hd:det t=1)(e:mov f t=g)(eN:rF far N f=f)(qX:∀j,0<j→j<N→rF far j f≠f)(eM:rF far M g=g)(qY:∀j,0<j→j<M→rF far j g≠g)(hN:0<N)(hM:0<M):N=M∧tr (rT far M g)=tr (rT far N f):=by
 rcases Vn hf hg hd e with⟨m,h⟩|⟨m,h⟩
 ·have eg:rF far m f=g:=by rw[←JB,←h.mov,e]
  subst eg
  have:=Wj hf eN qX eM qY hN hM
  subst this
  exact⟨rfl,Zk eN⟩
 ·have ef:rF far m g=f:=by rw[←JB,←h.mov,←e,Ci hd]
  subst ef
  have:=Wj hg eM qY eN qX hM hN
  subst this
  exact⟨rfl,(Zk eM).symm⟩
end My
namespace My
open PySem L2
end My
namespace My
open PySem L2
def above(n x1 y1 x2 y2:Int):Prop:=(x1*y2+x2*y1)*(x1*y2+x2*y1)<n*(2*y1*y2)*(2*y1*y2)
end My
namespace My
open PySem L2
end My
namespace My
open PySem L2
end My
namespace My
open PySem L2
end My
namespace My
open PySem L2
def pw(s:I4):Nat→I4
 |0=>(1,0,0,1)
 |n+1=>Aj (pw s n) s
end My
namespace My
open PySem L2
theorem Yd{f g:I3}(h1:f.1=g.1)(h2:f.2.1=g.2.1)(h3:f.2.2=g.2.2):f=g:=Prod.ext h1 (Prod.ext h2 h3)
theorem bez:∀(n:Nat)(a b:Int),b.natAbs≤n→∃u v:Int,u*a+v*b=(Int.gcd a b:Int)
 | n,a,b,h=>by
  by_cases hb:b=0
  ·subst hb
   rw[Int.gcd_zero_right]
   rcases Int.lt_or_le a 0 with z|z
   ·exact⟨-1,0,by omega⟩
   ·exact⟨1,0,by omega⟩
  ·have l:=ZX (a:=a) hb
   match n,h with
   |0,h=>omega
   | n+1,h =>
    obtain⟨u,v,e⟩:=bez n b (a.fmod b) (by omega)
    rw[Adi]at e
    refine⟨v,u-v*a.fdiv b,?_⟩
    rw[←e,Int.fmod_def]
    grind
end My
namespace My
open PySem L2
def FP(f:I3):I4:=if f.1=f.2.2∧f.2.1=0 then(0,-1,1,0)else if f.1=f.2.2∧f.2.1=f.1 then(0,-1,1,1)else(-1,0,0,-1)
def Dm(f:I3):List I4:=if f.1=f.2.2∧f.2.1=0 then [(1,0,0,1),(0,-1,1,0),(-1,0,0,-1),(0,1,-1,0)]
 else if f.1=f.2.2∧f.2.1=f.1 then [(1,0,0,1),(0,-1,1,1),(-1,-1,1,0),(-1,0,0,-1),(0,1,-1,-1),(1,1,-1,0)]else [(1,0,0,1),(-1,0,0,-1)]
theorem Ac4{f:I3}{t:I4}(h:t∈Dm f):det t=1∧mov f t=f:=by
 obtain⟨a,b,c⟩:=f
 unfold Dm at h
 dsimp only at h
 split at h
 ·rename_i e
  obtain⟨rfl,rfl⟩:=e
  simp only[List.mem_cons,List.not_mem_nil,or_false]at h
  rcases h with rfl|rfl|rfl|rfl<;>exact⟨by decide,by simp only[mov,val,mid,Prod.mk.injEq];refine⟨by grind,by grind,by grind⟩⟩
 ·split at h
  ·rename_i e
   obtain⟨rfl,rfl⟩:=e
   simp only[List.mem_cons,List.not_mem_nil,or_false]at h
   rcases h with rfl|rfl|rfl|rfl|rfl|rfl<;>exact⟨by decide,by simp only[mov,val,mid,Prod.mk.injEq];refine⟨by grind,by grind,by grind⟩⟩
  ·simp only[List.mem_cons,List.not_mem_nil,or_false]at h
   rcases h with rfl|rfl<;>exact⟨by decide,by simp only[mov,val,mid,Prod.mk.injEq];refine⟨by grind,by grind,by grind⟩⟩
theorem T5{f:I3}{t:I4}(h:t∈Dm f):B4 2 t:=by
 unfold Dm at h
 split at h
 ·simp only[List.mem_cons,List.not_mem_nil,or_false]at h
  rcases h with rfl|rfl|rfl|rfl<;>(unfold B4 Bt;decide)
 ·split at h
  ·simp only[List.mem_cons,List.not_mem_nil,or_false]at h
   rcases h with rfl|rfl|rfl|rfl|rfl|rfl<;>(unfold B4 Bt;decide)
  ·simp only[List.mem_cons,List.not_mem_nil,or_false]at h
   rcases h with rfl|rfl<;>(unfold B4 Bt;decide)
theorem Qq(f:I3):2≤(Dm f).length∧(Dm f).length≤6:=by
 unfold Dm
 split
 ·decide
 ·split<;>decide
theorem Abl(f:I3):(Dm f)[0]? = some (1,0,0,1)∧(Dm f)[1]? = some (FP f)∧(∀k,0<k→k<(Dm f).length→(Dm f)[k]?≠some (1,0,0,1)) ∧
  ∀k,0<k→k<(Dm f).length→∀t,(Dm f)[k]? = some t→(if k+1=(Dm f).length then some (1,0,0,1)else(Dm f)[k+1]?)=some (Aj t (FP f)):=by
 unfold Dm FP
 split
 ·refine⟨rfl,rfl,fun k h1 h2=>?_,fun k h1 h2 t e=>?_⟩
  ·have h2:k<4:=h2
   obtain rfl|rfl|rfl:k=1∨k=2∨k=3:=by omega
   all_goals decide
  ·have h2:k<4:=h2
   obtain rfl|rfl|rfl:k=1∨k=2∨k=3:=by omega
   all_goals (cases e;decide)
 ·split
  ·refine⟨rfl,rfl,fun k h1 h2=>?_,fun k h1 h2 t e=>?_⟩
   ·have h2:k<6:=h2
    obtain rfl|rfl|rfl|rfl|rfl:k=1∨k=2∨k=3∨k=4∨k=5:=by omega
    all_goals decide
   ·have h2:k<6:=h2
    obtain rfl|rfl|rfl|rfl|rfl:k=1∨k=2∨k=3∨k=4∨k=5:=by omega
    all_goals (cases e;decide)
  ·refine⟨rfl,rfl,fun k h1 h2=>?_,fun k h1 h2 t e=>?_⟩
   ·have h2:k<2:=h2
    obtain rfl:k=1:=by omega
    decide
   ·have h2:k<2:=h2
    obtain rfl:k=1:=by omega
    cases e
    decide
def r4(t:I4):List Int:=[t.1,t.2.1,t.2.2.1,t.2.2.2]
end My
namespace My
open PySem L2
def hs(M:Nat):Nat→Nat
 |0=>0
 |i+1=>hs M i+2 ^ (10*(i*i % (4*M)))
def ck(t:Nat):Nat→Nat→Bool
 |0,_=>true
 |k+1,H=>Nat.ble (H % 1024) t&&ck t k (H / 1024)
def tbL:List Nat:=[1,2,2,2,2,4,2,4,3,4,2,4,2,4,4,4,2,6,2,4,4,4,2,8,5,4,6,4,2,8,2,8,4,4,4,6,2,4,4,8,2,8,2,4,6,4,2,8,7,10,4,4,2,12,4,8,4,4,2,8,2,4,6,8,4,8,2,4,4,8,2,12,2,4,10,4,4,8,2,8,9,4,2,8,4,4,4,8,2,12,4,4,4,4,4,16,2,14,6,10,2,8,2,8,8,4,2,12,2,8,4,8,2,8,4,4,6,4,4,16,11,4,4,4,10,12,2,16,4,8,2,8,4,4,12,8,2,8,2,8,4,4,4,12,4,4,14,4,2,20,2,8,6,8,4,8,2,4,4,16,4,18,2,4,8,4,2,16,13,8,6,4,2,8,10,8,4,4,2,12,2,8,4,8,4,8,4,4,12,8,2,16,2,4,8,14,2,12,2,20,4,4,4,8,4,4,6,8,4,16,2,4,4,4,4,24,4,4,4,8,4,8,2,16,15,4,2,8,2,8,8,8,2,12,4,4,4,8,2,16,2,22,18,4,14,8,4,8,4,20,2,12,4,4,8,16,2,8,4,8,6,4,2,16,4,8,4,4,2,24,2,8,8,4,10,8,2,4,6,16,2,8,2,4,8,8,4,24,17,8,4,4,2,28,4,8,12,4,4,20,4,4,4,8,4,12,2,8,4,8,2,16,2,4,12,4,2,8,4,16,4,8,4,18,10,4,4,8,4,16,2,4,6,4,4,16,2,26,4,8,4,12,14,8,8,4,2,8,2,20,12,16,2,8,4,4,8,4,2,24,19,4,22,8,4,8,2,8,6,8,4,8,2,8,20,8,4,24,2,8,4,4,2,32,8,4,6,4,2,16,4,28,4,4,4,12,2,4,8,20]
def tb(M:Nat):Nat:=tbL.getD (M-1) 0
def Zv:Nat→Bool
 |0=>true
 |M+1=>ck (tb (M+1)) (4*(M+1)) (hs (M+1) (2*(M+1)))&&Zv M
set_option maxRecDepth 1000000 in
theorem Ahs:Zv 400=true:=by decide +kernel
theorem AgR:∀(n M:Nat),Zv n=true→0<M→M≤n→ck (tb M) (4*M) (hs M (2*M))=true
 |0,M,_,h1,h2=>by omega
 | n+1,M,h,h1,h2=>by
  unfold Zv at h
  rw[Bool.and_eq_true]at h
  by_cases e:M=n+1
  ·subst e;exact h.1
  ·exact AgR n M h.2 h1 (by omega)
def Kq:List Nat→Nat
 | []=>0
 |e::es=>Kq es+2 ^ (10*e)
def GJ:List Nat→List Nat
 | []=>[]
 |0::es=>GJ es
 |(e+1)::es=>e::GJ es
theorem Nf:∀es:List Nat,Kq es=es.count 0+1024*Kq (GJ es)
 | []=>rfl
 | 0::es=>by
  rw[Kq,GJ,Nf es,List.count_cons_self]
  omega
 | (e+1)::es=>by
  rw[Kq,GJ,Kq,Nf es,List.count_cons_of_ne (by omega)]
  have:2 ^ (10*(e+1))=1024*2 ^ (10*e):=by
   rw[show 10*(e+1)=10+10*e by omega,Nat.pow_add]
  rw[this]
  omega
theorem JZ(c:Nat):∀es:List Nat,(GJ es).count c=es.count (c+1)
 | []=>rfl
 |0::es=>by rw[GJ,JZ c es,List.count_cons_of_ne (by omega)]
 | (e+1)::es=>by
  rw[GJ,List.count_cons,List.count_cons,JZ c es]
  by_cases h:e=c
  ·subst h;simp
  ·have h2:¬e+1=c+1:=by omega
   simp[h]
theorem Nr:∀es:List Nat,(GJ es).length≤es.length
 | []=>Nat.le_refl _
 |0::es=>by rw[GJ,List.length_cons];have:=Nr es;omega
 |(e+1)::es=>by rw[GJ,List.length_cons,List.length_cons];have:=Nr es;omega
theorem PK{t:Nat}:∀(K:Nat)(es:List Nat),es.length<1024→ck t K (Kq es)=true→∀c,c<K→es.count c≤t
 |0,_,_,_,c,hc=>by omega
 | K+1,es,hl,h,c,hc=>by
  unfold ck at h
  rw[Bool.and_eq_true]at h
  have h0:es.count 0<1024:=Nat.lt_of_le_of_lt List.count_le_length hl
  have e:=Nf es
  have e1:Kq es % 1024=es.count 0:=by omega
  have e2:Kq es / 1024=Kq (GJ es):=by omega
  rw[e1,e2]at h
  match c with
  |0=>exact Nat.le_of_ble_eq_true h.1
  | c+1 =>
   rw[←JZ]
   exact PK K _ (Nat.lt_of_le_of_lt (Nr es) hl) h.2 c (by omega)
def sqs(M:Nat):Nat→List Nat
 |0=>[]
 |i+1=>(i*i % (4*M))::sqs M i
theorem Ad7(M:Nat):∀n,hs M n=Kq (sqs M n)
 |0=>rfl
 |n+1=>by rw[hs,sqs,Kq,Ad7 M n]
theorem Zi(M:Nat):∀n,(sqs M n).length=n
 |0=>rfl
 |n+1=>by rw[sqs,List.length_cons,Zi M n]
theorem Aa9{M c:Nat}(h0:0<M)(h:M≤400)(hc:c<4*M):(sqs M (2*M)).count c≤tb M:=by
 have:=AgR 400 M Ahs h0 h
 rw[Ad7]at this
 exact PK _ _ (by rw[Zi];omega) this c hc
def mids(m D:Int):Nat→List Int
 |0=>[]
 |i+1=>mids m D i++(if((i:Int)*i-D).fmod (4*m)=0 then [(i:Int)]else [])
theorem PB{m D:Int}(m0:m≠0):∀n,(mids m D n).length≤(sqs m.natAbs n).count (D % (4*m.natAbs:Int)).toNat
 |0=>Nat.le_refl _
 | n+1=>by
  have ih:=PB (D:=D) m0 n
  rw[mids,sqs,List.length_append]
  split
  ·rename_i h
   have hd:(4*m)∣((n:Int)*n-D):=Int.dvd_of_fmod_eq_zero h
   have hd2:(4*(m.natAbs:Int))∣((n:Int)*n-D):=by
    rcases Int.natAbs_eq m with e|e
    ·rw[←e];exact hd
    ·have:4*(m.natAbs:Int)=-(4*m):=by omega
     rw[this]
     exact Int.neg_dvd.mpr hd
   have e1:D % (4*m.natAbs:Int)=((n*n % (4*m.natAbs):Nat):Int):=by
    have:((n:Int)*n) % (4*m.natAbs:Int)=D % (4*m.natAbs:Int):=Int.emod_eq_emod_iff_emod_sub_eq_zero.mpr (Int.emod_eq_zero_of_dvd hd2)
    rw[←this]
    push_cast
    rfl
   rw[e1,Int.toNat_natCast,List.count_cons_self]
   rw[e1,Int.toNat_natCast]at ih
   simp only[List.length_cons,List.length_nil]
   omega
  ·simp only[List.length_nil,Nat.add_zero]
   exact Nat.le_trans ih (List.count_le_count_cons ..)
theorem Ac5{m D:Int}(m0:m≠0)(h:m.natAbs≤400):(mids m D (2*m.natAbs)).length≤tb m.natAbs:=by
 have hp:0<m.natAbs:=by omega
 refine Nat.le_trans (PB m0 _) (Aa9 hp h ?_)
 have:=Int.emod_lt_of_pos D (show(0:Int)<4*m.natAbs by omega)
 have:=Int.emod_nonneg D (show(4*m.natAbs:Int)≠0 by omega)
 omega
def Jy(N:Nat):Nat→Nat
 |0=>0
 |g+1=>Jy N g+(if N % ((g+1)*(g+1))=0 then tb (N / ((g+1)*(g+1)))else 0)
set_option maxRecDepth 1000000 in
theorem Acy:∀N,N<401→Jy N 20<64:=by decide +kernel
end My
namespace My
open PySem L2
def Fz(m D:Int):List I3:=(mids m D (2*m.natAbs)).map fun b=>(m,b,(b*b-D).fdiv (4*m))
theorem J6{m D b:Int}:∀{n:Nat},b∈mids m D n↔0≤b∧b<n∧(b*b-D).fmod (4*m)=0
 | 0=>by
  rw[mids]
  constructor
  ·intro h;cases h
  ·rintro⟨h1,h2,_⟩;omega
 | n+1=>by
  rw[mids,List.mem_append,J6 (n:=n)]
  constructor
  ·rintro(⟨h1,h2,h3⟩|h)
   ·exact⟨h1,by omega,h3⟩
   ·split at h
    ·rename_i e
     simp only[List.mem_singleton]at h
     subst h
     exact⟨by omega,by omega,e⟩
    ·cases h
  ·rintro⟨h1,h2,h3⟩
   by_cases e:b=(n:Int)
   ·subst e
    right
    rw[if_pos h3]
    exact List.mem_singleton.mpr rfl
   ·left
    exact⟨h1,by omega,h3⟩
structure Rn(m D:Int)(f:I3):Prop where
 a:f.1=m
 lo:0≤f.2.1
 hi:f.2.1<2*m.natAbs
 me:meas f=D
theorem Gu{m D:Int}{f:I3}(m0:m≠0):f∈Fz m D↔Rn m D f:=by
 have m4:4*m≠0:=by omega
 unfold Fz
 rw[List.mem_map]
 constructor
 ·rintro⟨b,hb,rfl⟩
  obtain⟨h1,h2,h3⟩:=J6.mp hb
  refine⟨rfl,h1,by show b<_;omega,?_⟩
  have:=Int.fmod_add_mul_fdiv (b*b-D) (4*m)
  rw[h3]at this
  unfold meas
  show b*b-4*m*(b*b-D).fdiv (4*m)=D
  omega
 ·rintro⟨h1,h2,h3,h4⟩
  obtain⟨a,b,c⟩:=f
  dsimp only at h1 h2 h3
  subst h1
  have h4:b*b-4*a*c=D:=h4
  have e:b*b-D=4*a*c:=by omega
  refine⟨b,J6.mpr ⟨h2,by omega,?_⟩,?_⟩
  ·rw[e];exact Int.mul_fmod_right ..
  ·rw[e,Int.mul_fdiv_cancel_left _ m4]
def Ik(n:Int):Nat→List Int
 |0=>[]
 |i+1=>Ik n i++(if n.fmod ((1+(i:Int))*(1+(i:Int)))=0 then [1+(i:Int)]else [])
theorem Es{n g:Int}:∀{r:Nat},g∈Ik n r↔1≤g∧g≤r∧n.fmod (g*g)=0
 | 0=>by
  rw[Ik]
  constructor
  ·intro h;cases h
  ·rintro⟨h1,h2,_⟩;omega
 | r+1=>by
  rw[Ik,List.mem_append,Es (r:=r)]
  constructor
  ·rintro(⟨h1,h2,h3⟩|h)
   ·exact⟨h1,by omega,h3⟩
   ·split at h
    ·rename_i e
     simp only[List.mem_singleton]at h
     subst h
     exact⟨by omega,by omega,e⟩
    ·cases h
  ·rintro⟨h1,h2,h3⟩
   by_cases e:g=1+(r:Int)
   ·subst e
    right
    rw[if_pos h3]
    exact List.mem_singleton.mpr rfl
   ·left
    exact⟨h1,by omega,h3⟩
theorem KZ{n g:Int}(g0:g≠0)(h:n.fmod (g*g)=0):g*g*n.fdiv (g*g)=n:=by
 have:=Int.fmod_add_mul_fdiv n (g*g)
 rw[h]at this
 omega
theorem Zx{n g m:Int}{r:Nat}(g0:1≤g)(e:g*g*m=n)(n0:n≠0)(hr:Sq n.natAbs r):g∈Ik n r∧n.fdiv (g*g)=m:=by
 have gg:g*g≠0:=Int.mul_ne_zero (by omega) (by omega)
 refine⟨Es.mpr ⟨g0,?_,?_⟩,?_⟩
 ·obtain⟨h1,h2,h3⟩:=hr
  have m0:m≠0:=fun z=>n0 (by rw[←e,z];omega)
  have hm:1≤m.natAbs:=by omega
  have hn:(n.natAbs:Int)=g*g*m.natAbs:=by
   rw[←e,Int.natAbs_mul]
   have:(g*g).natAbs=g*g:=by
    have:=Int.mul_nonneg (show 0≤g by omega) (show 0≤g by omega)
    omega
   push_cast
   rw[this]
  have le:g*g≤n.natAbs:=by
   rw[hn]
   have:g*g*1≤g*g*m.natAbs:=Int.mul_le_mul_of_nonneg_left (by omega) (Int.mul_nonneg (by omega) (by omega))
   omega
  rcases Int.lt_or_le (r:Int) g with z|z
  ·have:((r:Int)+1)*(r+1)≤g*g:=Int.mul_le_mul (by omega) (by omega) (by omega) (by omega)
   omega
  ·exact z
 ·rw[←e];exact Int.mul_fmod_right ..
 ·rw[←e,Int.mul_fdiv_cancel_left _ gg]
theorem ZR{α:Type}{n:Int}{F:Int→List α}(h:∀g:Nat,1≤g→n.natAbs % (g*g)=0→(F g).length≤tb (n.natAbs / (g*g))):∀r:Nat,((Ik n r).flatMap F).length≤Jy n.natAbs r
 |0=>Nat.le_refl _
 | r+1=>by
  rw[Ik,Jy,List.flatMap_append,List.length_append]
  have ih:=ZR h r
  have e1:(1+(r:Int))*(1+(r:Int))=(((r+1)*(r+1):Nat):Int):=by push_cast;grind
  split
  ·rename_i z
   have hz:n.natAbs % ((r+1)*(r+1))=0:=by
    have hd:=Int.dvd_of_fmod_eq_zero z
    rw[e1]at hd
    exact Nat.mod_eq_zero_of_dvd (Int.ofNat_dvd_left.mp hd)
   rw[if_pos hz]
   have:=h (r+1) (by omega) hz
   have e2:(1+(r:Int))=((r+1:Nat):Int):=by push_cast;omega
   rw[e2]
   simp only[List.flatMap_cons,List.flatMap_nil,List.append_nil]
   omega
  ·rename_i z
   simp only[List.flatMap_nil,List.length_nil]
   omega
theorem Ls(N:Nat):∀k r:Nat,Jy N r≤Jy N (r+k)
 |0,_=>Nat.le_refl _
 |k+1,r=>Nat.le_trans (Ls N k r) (by rw[show r+(k+1)=r+k+1 by omega,Jy];omega)
def GF(x y g u v:Int):I4:=(x.fdiv g,-v,y.fdiv g,u)
def Od(f:I3):Int:=(f.2.1.fmod (2*f.1).natAbs-f.2.1).fdiv (2*f.1)
theorem Ago{f:I3}(h:f.1≠0):f.2.1+2*f.1*Od f=f.2.1.fmod (2*f.1).natAbs∧0≤f.2.1.fmod (2*f.1).natAbs∧f.2.1.fmod (2*f.1).natAbs<2*f.1.natAbs:=by
 have hp:(0:Int)<(2*f.1).natAbs:=by omega
 obtain⟨r1,r2⟩:=CK f.2.1 hp
 refine⟨?_,r1,by omega⟩
 unfold Od
 have hd:(2*f.1)∣(f.2.1.fmod (2*f.1).natAbs-f.2.1):=by
  have e:=Int.fmod_def f.2.1 (2*f.1).natAbs
  have d0:(2*f.1)∣((2*f.1).natAbs:Int):=by
   rcases Int.natAbs_eq (2*f.1)with z|z
   ·exact⟨1,by omega⟩
   ·exact⟨-1,by omega⟩
  obtain⟨k,hk⟩:=d0
  exact⟨-(k*f.2.1.fdiv (2*f.1).natAbs),by rw[e];rw[hk];grind⟩
 have:=Int.mul_fdiv_cancel' hd
 omega
theorem U8{f:I3}{k:Int}:mov f (1,k,0,1)=(f.1,f.2.1+2*f.1*k,f.1*k*k+f.2.1*k+f.2.2):=by
 simp only[mov,val,mid,Prod.mk.injEq]
 refine⟨by grind,by grind,by grind⟩
theorem AgN{k:Int}:det (1,k,0,1)=1:=by
 show 1*1-k*0=1
 omega
theorem Ae9{f:I3}{x y g u v n:Int}(hn:val f (x,y)=n)(n0:n≠0)(g0:1≤g)(gx:g∣x)(gy:g∣y)(b:u*x+v*y=g) :
  ∃m,g*g*m=n∧m≠0∧det (GF x y g u v)=1∧(mov f (GF x y g u v)).1=m ∧
   det (Aj (GF x y g u v) (1,Od (mov f (GF x y g u v)),0,1))=1∧Rn m (meas f) (mov f (Aj (GF x y g u v) (1,Od (mov f (GF x y g u v)),0,1))) ∧
   Dp (Aj (GF x y g u v) (1,Od (mov f (GF x y g u v)),0,1)) (g,0)=(x,y):=by
 obtain⟨p,rfl⟩:=gx
 obtain⟨r,rfl⟩:=gy
 have gn:g≠0:=by omega
 have e1:(g*p).fdiv g=p:=Int.mul_fdiv_cancel_left _ gn
 have e2:(g*r).fdiv g=r:=Int.mul_fdiv_cancel_left _ gn
 have hd:p*u+v*r=1:=by
  refine Int.eq_of_mul_eq_mul_left gn ?_
  rw[Int.mul_one]
  grind
 have eT:GF (g*p) (g*r) g u v=(p,-v,r,u):=by unfold GF;rw[e1,e2]
 rw[eT]
 have dT:det (p,-v,r,u)=1:=by
  show p*u - -v*r=1
  grind
 have hm:g*g*val f (p,r)=n:=by
  rw[←hn]
  simp only[val]
  grind
 have m1:(mov f (p,-v,r,u)).1=val f (p,r):=rfl
 have m0:val f (p,r)≠0:=fun z=>n0 (by rw[←hm,z];omega)
 refine⟨val f (p,r),hm,m0,dT,rfl,by rw[BK,dT,AgN];rfl,?_,?_⟩
 ·have k:=Ago (f:=mov f (p,-v,r,u)) m0
  rw[←Bc]
  refine⟨by rw[U8];exact m1,?_,?_,by rw[Bu AgN,Bu dT]⟩
  ·rw[U8]
   show 0≤(mov f (p,-v,r,u)).2.1+2*(mov f (p,-v,r,u)).1*Od (mov f (p,-v,r,u))
   rw[k.1]
   exact k.2.1
  ·rw[U8]
   show(mov f (p,-v,r,u)).2.1+2*(mov f (p,-v,r,u)).1*Od (mov f (p,-v,r,u))<_
   rw[k.1]
   exact k.2.2
 ·rw[PN]
  simp only[Dp,Prod.mk.injEq]
  refine⟨by grind,by grind⟩
theorem AaK{f:I3}{T T':I4}{m D:Int}(m0:m≠0)(d:det T=1)(d':det T'=1)(A:Rn m D (mov f T))(B:Rn m D (mov f T'))(e:(T'.1=T.1∧T'.2.2.1=T.2.2.1)∨(T'.1=-T.1∧T'.2.2.1=-T.2.2.1)):mov f T=mov f T':=by
 obtain⟨p,q,r,s⟩:=T
 obtain⟨p',q',r',s'⟩:=T'
 dsimp only at e
 have d:p*s-q*r=1:=d
 have d':p'*s'-q'*r'=1:=d'
 obtain⟨k,hk⟩:∃k,mov f (p',q',r',s')=mov (mov f (p,q,r,s)) (1,k,0,1):=by
  rcases e with⟨rfl,rfl⟩|⟨rfl,rfl⟩
  ·refine⟨s*q'-q*s',?_⟩
   rw[Bc]
   congr 1
   simp only[Aj,Prod.mk.injEq]
   refine⟨by omega,?_,by omega,?_⟩<;>grind
  ·refine⟨-(s*q'-q*s'),?_⟩
   have en:mov f (-p,q',-r,s')=mov f (p,-q',r,-s'):=by
    simp only[mov,val,mid,Prod.mk.injEq]
    refine⟨by grind,by grind,by grind⟩
   rw[en,Bc]
   congr 1
   simp only[Aj,Prod.mk.injEq]
   refine⟨by omega,?_,by omega,?_⟩<;>grind
 rw[hk]at B ⊢
 rw[U8]at B ⊢
 have h1:=A.a
 have a1:=A.lo
 have a2:=A.hi
 have b1:=B.lo
 have b2:=B.hi
 dsimp only at b1 b2
 rw[h1]at b1 b2
 have hk0:k=0:=by
  rcases Int.lt_trichotomy k 0 with z|z|z
  ·exfalso
   rcases Int.lt_or_le 0 m with w|w
   ·have:m*k≤m * -1:=Int.mul_le_mul_of_nonneg_left (by omega) (by omega)
    have e:2*m*k=2*(m*k):=by grind
    omega
   ·have:m*k≥m * -1:=by
     have:=Int.mul_le_mul_of_nonneg_left (c:=-m) (show k≤-1 by omega) (by omega)
     have e1:-m*k=-(m*k):=Int.neg_mul ..
     have e2:-m * -1=-(m * -1):=Int.neg_mul ..
     omega
    have e:2*m*k=2*(m*k):=by grind
    omega
  ·exact z
  ·exfalso
   rcases Int.lt_or_le 0 m with w|w
   ·have:m*1≤m*k:=Int.mul_le_mul_of_nonneg_left (by omega) (by omega)
    have e:2*m*k=2*(m*k):=by grind
    omega
   ·have:m*k≤m*1:=by
     have:=Int.mul_le_mul_of_nonneg_left (c:=-m) (show 1≤k by omega) (by omega)
     have e1:-m*k=-(m*k):=Int.neg_mul ..
     have e2:-m*1=-(m*1):=Int.neg_mul ..
     omega
    have e:2*m*k=2*(m*k):=by grind
    omega
 subst hk0
 refine Yd rfl ?_ ?_
 ·show _=(mov f (p,q,r,s)).2.1+2*(mov f (p,q,r,s)).1*0
  omega
 ·show _=(mov f (p,q,r,s)).1*0*0+(mov f (p,q,r,s)).2.1*0+(mov f (p,q,r,s)).2.2
  omega
end My
namespace My
open PySem L2
end My
namespace My
open PySem L2
theorem V7(g:I3):(1,0,0,1)∈Dm g∧(-1,0,0,-1)∈Dm g:=by
 unfold Dm
 split
 ·simp
 ·split<;>simp
theorem Gq{x y:Int}(h:x*y=1):(x=1∧y=1)∨(x=-1∧y=-1):=by
 have hu:x.natAbs=1:=by
  have:x.natAbs*y.natAbs=1:=by rw[←Int.natAbs_mul,h];rfl
  exact Nat.eq_one_of_mul_eq_one_right this
 rcases Int.natAbs_eq x with z|z<;>rw[hu]at z
 ·have z:x=1:=z
  subst z
  exact .inl ⟨rfl,by omega⟩
 ·have z:x=-1:=z
  subst z
  exact .inr ⟨rfl,by omega⟩
theorem AeR{g:I3}{t:I4}(L:BJ g)(d:det t=1)(e:mov g t=g):t∈Dm g:=by
 obtain⟨a,b,c⟩:=g
 obtain⟨p,q,r,s⟩:=t
 obtain⟨h0,h1,h2,h3,h4⟩:=id L
 have e1:=congrArg Prod.fst e
 have e2:=congrArg (fun z:I3=>z.2.1) e
 have d:p*s-q*r=1:=d
 dsimp only[mov]at e1 e2
 simp only at h0 h1 h2 h3 h4
 have e2:2*a*p*q+b*(p*s+q*r)+2*c*r*s=b:=e2
 by_cases hr:r=0
 ·subst hr
  have hps:p*s=1:=by omega
  have hq:2*a*(p*q)=0:=by
   have:b*(p*s+q*0)=b:=by rw[hps];omega
   have e3:2*a*p*q=2*a*(p*q):=by grind
   have e4:2*c*0*s=0:=by grind
   omega
  have hq:p*q=0:=by
   rcases Int.mul_eq_zero.mp hq with z|z
   ·omega
   ·exact z
  rcases Gq hps with⟨rfl,rfl⟩|⟨rfl,rfl⟩
  ·have:q=0:=by omega
   subst this
   exact(V7 _).1
  ·have:q=0:=by omega
   subst this
   exact(V7 _).2
 ·by_cases hp:p=0
  ·subst hp
   rw[Tw]at e1
   have r2:=sq_pos hr
   have:c*1≤c*(r*r):=Int.mul_le_mul_of_nonneg_left r2 (by omega)
   have hac:a=c:=by omega
   subst hac
   have b0:=h4 (.inr rfl)
   have hqr:-q*r=1:=by
    have:-q*r=-(q*r):=Int.neg_mul ..
    omega
   have hrs:2*(a*(r*s))=2*b:=by
    have z1:b*(0*s+q*r)=-b:=by
     have:0*s+q*r=-1:=by omega
     rw[this];omega
    have z2:2*a*0*q=0:=by grind
    have z3:2*a*r*s=2*(a*(r*s)):=by grind
    omega
   rcases Int.lt_trichotomy (r*s) 0 with z|z|z
   ·have:a*(r*s)≤a*(-1):=Int.mul_le_mul_of_nonneg_left (by omega) (by omega)
    omega
   ·have hb:b=0:=by rw[z]at hrs;omega
    subst hb
    have hs:s=0:=(Int.mul_eq_zero.mp z).resolve_left hr
    subst hs
    rcases Gq hqr with⟨z1,rfl⟩|⟨z1,rfl⟩
    ·have:q=-1:=by omega
     subst this
     unfold Dm;rw[if_pos ⟨rfl,rfl⟩];simp
    ·have:q=1:=by omega
     subst this
     unfold Dm;rw[if_pos ⟨rfl,rfl⟩];simp
   ·have z1:r*s=1:=by
     rcases Int.lt_or_le 1 (r*s)with w|w
     ·have:a*2≤a*(r*s):=Int.mul_le_mul_of_nonneg_left (by omega) (by omega)
      omega
     ·omega
    have hb:b=a:=by rw[z1]at hrs;omega
    subst hb
    rcases Gq hqr with⟨z2,rfl⟩|⟨z2,rfl⟩
    ·have:q=-1:=by omega
     subst this
     have:s=1:=by omega
     subst this
     unfold Dm;rw[if_neg (by dsimp only;omega),if_pos ⟨rfl,rfl⟩];simp
    ·have:q=1:=by omega
     subst this
     have:s=-1:=by omega
     subst this
     unfold Dm;rw[if_neg (by dsimp only;omega),if_pos ⟨rfl,rfl⟩];simp
  ·have hc:=Ui h0 h1 h2 h3 hp hr
   rw[e1]at hc
   have hac:a=c:=by omega
   subst hac
   have b0:=h4 (.inr rfl)
   have ev:val (a,b,a) (p,r)=a*(p*p)+b*(p*r)+a*(r*r):=by simp only[val];grind
   rw[ev]at e1
   have sp:=sq_pos hp
   have sr:=sq_pos hr
   have npr:p*r<0:=by
    rcases Int.lt_or_le (p*r) 0 with z|z
    ·exact z
    ·have z1:0≤b*(p*r):=Int.mul_nonneg b0 z
     have z2:a*1≤a*(p*p):=Int.mul_le_mul_of_nonneg_left sp (by omega)
     have z3:a*1≤a*(r*r):=Int.mul_le_mul_of_nonneg_left sr (by omega)
     omega
   have hle:a*(p*p+p*r+r*r)≤a*1:=by
    have z1:a*(p*r)≤b*(p*r):=by
     have:=Int.mul_le_mul_of_nonneg_right (c:=-(p*r)) h2 (by omega)
     have w1:a * -(p*r)=-(a*(p*r)):=Int.mul_neg ..
     have w2:b * -(p*r)=-(b*(p*r)):=Int.mul_neg ..
     omega
    have z2:a*(p*p+p*r+r*r)=a*(p*p)+a*(p*r)+a*(r*r):=by grind
    omega
   have hq1:p*p+p*r+r*r≤1:=Int.le_of_mul_le_mul_left hle (by omega)
   have hpr:p=-r:=by
    have z1:(p+r)*(p+r)=p*p+p*r+r*r+p*r:=by grind
    by_cases w:p+r=0
    ·omega
    ·have:=sq_pos w
     omega
   subst hpr
   have e5:-r*r=-(r*r):=Int.neg_mul ..
   have e6:-r * -r=r*r:=by grind
   have hr1:r*r=1:=by
    rw[e5,e6]at hq1
    omega
   have hb:b=a:=by
    rw[e5,e6,hr1]at e1
    omega
   subst hb
   have hd:-r*s-q*r=1:=d
   have f1:b*(2*(-r*q)+(-r*s+q*r)+2*(r*s))=b*1:=by
    have:2*b * -r*q+b*(-r*s+q*r)+2*b*r*s=b*(2*(-r*q)+(-r*s+q*r)+2*(r*s)):=by grind
    omega
   have f2:=Int.eq_of_mul_eq_mul_left (show b≠0 by omega) f1
   have f3:-r*q=-(r*q):=Int.neg_mul ..
   have f4:-r*s=-(r*s):=Int.neg_mul ..
   have f5:q*r=r*q:=Int.mul_comm ..
   rw[f3,f4,f5]at f2
   rw[f4,f5]at hd
   have hs:r*s=0:=by omega
   have hq:r*q=-1:=by omega
   have hs:s=0:=(Int.mul_eq_zero.mp hs).resolve_left hr
   subst hs
   have:r * -q=1:=by
    have:r * -q=-(r*q):=Int.mul_neg ..
    omega
   rcases Gq this with⟨rfl,z⟩|⟨rfl,z⟩
   ·have:q=-1:=by omega
    subst this
    unfold Dm;rw[if_neg (by dsimp only;omega),if_pos ⟨rfl,rfl⟩];simp
   ·have:q=1:=by omega
    subst this
    unfold Dm;rw[if_neg (by dsimp only;omega),if_pos ⟨rfl,rfl⟩];simp
theorem W0{α:Type}[DecidableEq α]:∀{l m:List α},l.Nodup→(∀x∈l,x∈m)→l.length≤m.length
 | [],_,_,_=>Nat.zero_le _
 | x::l,m,h,hs=>by
  obtain⟨h1,h2⟩:=List.nodup_cons.mp h
  have hx:=hs x List.mem_cons_self
  have:=W0 (l:=l) (m:=m.erase x) h2 fun y hy=>(List.mem_erase_of_ne fun z=>h1 (by rw[←z];exact hy)).mpr (hs y (List.mem_cons_of_mem _ hy))
  rw[List.length_erase_of_mem hx]at this
  have:=List.length_pos_of_mem hx
  rw[List.length_cons]
  omega
def Kg(D y:Nat):Nat→List Nat
 |0=>[]
 |s+1=>(s*s+D*(y*y))::Kg D y s
def T6(D S:Nat):Nat→List Nat
 |0=>[]
 |y+1=>Kg D y S++T6 D S y
def gck(S Y K:Nat):List Nat→Bool
 | []=>true
 |D::ds=>ck 15 K (Kq (T6 D S Y))&&gck S Y K ds
set_option maxRecDepth 1000000 in
theorem AnA:gck 41 24 1601 [3,4,5,6,7,8,9,10,11]=true:=by decide +kernel
set_option maxRecDepth 1000000 in
theorem AmO:gck 57 17 3201 [12,13,14,15,16,17,18,19,20,21,22,23]=true:=by decide +kernel
set_option maxRecDepth 1000000 in
theorem Am0:gck 70 14 4801 [27,28,29,30,31,32,33,34,35]=true:=by decide +kernel
theorem Tt{S Y K:Nat}:∀{ds:List Nat} {D:Nat},gck S Y K ds=true→D∈ds→ck 15 K (Kq (T6 D S Y))=true
 | [],_,_,h=>by cases h
 | d::ds,D,h,hm=>by
  unfold gck at h
  rw[Bool.and_eq_true]at h
  rcases List.mem_cons.mp hm with rfl|hm
  ·exact h.1
  ·exact Tt h.2 hm
theorem NP(D y:Nat):∀S,(Kg D y S).length=S
 |0=>rfl
 |S+1=>by rw[Kg,List.length_cons,NP D y S]
theorem V2(D S:Nat):∀Y,(T6 D S Y).length=Y*S
 |0=>by rw[Nat.zero_mul];rfl
 |Y+1=>by rw[T6,List.length_append,NP,V2 D S Y,Nat.succ_mul];omega
def Lb(D y c:Nat):Nat→List (Nat×Nat)
 |0=>[]
 |s+1=>if s*s+D*(y*y)=c then(s,y)::Lb D y c s else Lb D y c s
def KY(D S c:Nat):Nat→List (Nat×Nat)
 |0=>[]
 |y+1=>Lb D y c S++KY D S c y
theorem K1(D y c:Nat):∀S,(Lb D y c S).length=(Kg D y S).count c
 |0=>rfl
 | S+1=>by
  rw[Lb,Kg,List.count_cons]
  by_cases h:S*S+D*(y*y)=c
  ·rw[if_pos h,List.length_cons,K1 D y c S];simp[h]
  ·rw[if_neg h,K1 D y c S];simp[h]
theorem Ph(D S c:Nat):∀Y,(KY D S c Y).length=(T6 D S Y).count c
 |0=>rfl
 |Y+1=>by rw[KY,T6,List.length_append,List.count_append,K1,Ph D S c Y]
theorem QG{D y c s:Nat}:∀{S},s<S→s*s+D*(y*y)=c→(s,y)∈Lb D y c S
 |0,h,_=>by omega
 | S+1,h,e=>by
  rw[Lb]
  by_cases z:s=S
  ·subst z;rw[if_pos e];exact List.mem_cons_self
  ·have:=QG (S:=S) (by omega) e
   split
   ·exact List.mem_cons_of_mem _ this
   ·exact this
theorem Qx{D S c s y:Nat}:∀{Y},s<S→y<Y→s*s+D*(y*y)=c→(s,y)∈KY D S c Y
 |0,_,h,_=>by omega
 | Y+1,hs,hy,e=>by
  rw[KY,List.mem_append]
  by_cases z:y=Y
  ·subst z;exact .inl (QG hs e)
  ·exact .inr (Qx hs (by omega) e)
theorem Abd{D S Y K c:Nat}(h:ck 15 K (Kq (T6 D S Y))=true)(hl:Y*S<1024)(hc:c<K):(KY D S c Y).length≤15:=by
 rw[Ph]
 exact PK K _ (by rw[V2];exact hl) h c hc
def KQ(a b s y:Int):I2:=((s-b*y) / (2*a),y)
theorem Agn{a b x y:Int}(h:0<a):KQ a b (2*a*x+b*y) y=(x,y):=by
 unfold KQ
 have:2*a*x+b*y-b*y=2*a*x:=by omega
 rw[this,Int.mul_ediv_cancel_left _ (by omega)]
theorem Aeq{g:I3}{x y n:Int}(h:val g (x,y)=n):(2*g.1*x+g.2.1*y)*(2*g.1*x+g.2.1*y) + -(meas g)*(y*y)=4*g.1*n:=by
 rw[←h]
 simp only[val,meas]
 grind
theorem AaD{x m:Nat}(h:x*x<m*m):x<m:=by
 rcases Nat.lt_or_ge x m with z|z
 ·exact z
 ·have:=Nat.mul_le_mul z z
  omega
theorem S6{g:I3}{n:Int}{l:List I2}(L:BJ g)(n1:1≤n)(n4:n≤400)(nd:l.Nodup)(hv:∀p∈l,val g p=n):l.length<64:=by
 obtain⟨a,b,c⟩:=g
 obtain⟨h0,h1,h2,h3,_⟩:=id L
 simp only at h0 h1 h2 h3
 obtain⟨D,hD⟩:∃D:Nat,(D:Int)=-(meas (a,b,c)):=⟨(-(meas (a,b,c))).toNat,by have:=L.bowl.2;omega⟩
 obtain⟨A,hA⟩:∃A:Nat,(A:Int)=a:=⟨a.toNat,by omega⟩
 obtain⟨N,hN⟩:∃N:Nat,(N:Int)=n:=⟨n.toNat,by omega⟩
 have hDe:(D:Int)=4*a*c-b*b:=by rw[hD];simp only[meas];omega
 have hbb:b*b≤a*a:=by
  have:(b.natAbs:Int)*b.natAbs≤(a.natAbs:Int)*a.natAbs:=Int.mul_le_mul (by omega) (by omega) (by omega) (by omega)
  rw[Int.natAbs_mul_self',Int.natAbs_mul_self']at this
  exact this
 have hac:a*a≤a*c:=Int.mul_le_mul_of_nonneg_left h3 (by omega)
 have hD3:3*(A*A)≤D:=by
  have:4*a*c=4*(a*c):=by grind
  have:(3*(A*A):Int)≤D:=by rw[hA];omega
  exact_mod_cast this
 have A1:1≤A:=by omega
 have N4:N≤400:=by omega
 have key:∀p∈l,∃S Y:Nat,S*S+D*(Y*Y)=4*A*N∧S=(2*a*p.1+b*p.2).natAbs∧Y=p.2.natAbs∧p=KQ a b (2*a*p.1+b*p.2) p.2:=fun p hp=>by
  have e:=Aeq (hv p hp)
  dsimp only at e
  rw[←hD]at e
  refine⟨_,_,?_,rfl,rfl,(Agn h0).symm⟩
  have:(((2*a*p.1+b*p.2).natAbs*(2*a*p.1+b*p.2).natAbs+D*(p.2.natAbs*p.2.natAbs):Nat):Int)=((4*A*N:Nat):Int):=by
   push_cast
   rw[Int.natAbs_mul_self',Int.natAbs_mul_self',hA,hN]
   exact e
  exact_mod_cast this
 by_cases hbig:12*A≤D
 ·
  have hY:∀p∈l,p.2.natAbs≤11:=fun p hp=>by
   obtain⟨S,Y,e,_,hy,_⟩:=key p hp
   rw[←hy]
   have:Y<12:=by
    rcases Nat.lt_or_ge Y 12 with z|z
    ·exact z
    ·exfalso
     have z1:144≤Y*Y:=Nat.mul_le_mul z z
     have z2:12*A*144≤D*(Y*Y):=Nat.mul_le_mul hbig z1
     have z3:4*A*N≤4*A*400:=Nat.mul_le_mul_left _ N4
     have z4:12*A*144=1728*A:=by omega
     have z5:4*A*400=1600*A:=by omega
     omega
   omega
  have side:∀y:Int,∃s:Nat,∀p∈l,p.2=y→(2*a*p.1+b*p.2).natAbs=s:=fun y=>by
   by_cases h:∃p∈l,p.2=y
   ·obtain⟨p,hp,rfl⟩:=h
    refine⟨(2*a*p.1+b*p.2).natAbs,fun q hq e=>?_⟩
    obtain⟨S,Y,e1,rfl,rfl,_⟩:=key p hp
    obtain⟨S',Y',e2,rfl,rfl,_⟩:=key q hq
    rw[e]at e2 ⊢
    have:(2*a*q.1+b*p.2).natAbs*(2*a*q.1+b*p.2).natAbs=(2*a*p.1+b*p.2).natAbs*(2*a*p.1+b*p.2).natAbs:=by omega
    exact Nat.mul_self_inj.mp this
   ·exact⟨0,fun p hp e=>absurd ⟨p,hp,e⟩ h⟩
  let sd:Int→Nat:=fun y=>Classical.choose (side y)
  have hsd:∀p∈l,(2*a*p.1+b*p.2).natAbs=sd p.2:=fun p hp=>Classical.choose_spec (side p.2) p hp rfl
  have sub:∀p∈l,p∈(List.range 23).flatMap fun i:Nat=>[KQ a b (sd ((i:Int)-11)) ((i:Int)-11),KQ a b (-(sd ((i:Int)-11):Int)) ((i:Int)-11)]:=fun p hp=>by
   have h:=hY p hp
   obtain⟨_,_,_,_,_,e⟩:=key p hp
   refine List.mem_flatMap.mpr ⟨(p.2+11).toNat,List.mem_range.mpr (by omega),?_⟩
   have ei:(((p.2+11).toNat:Nat):Int)-11=p.2:=by omega
   rw[ei]
   have hs:=hsd p hp
   rcases Int.natAbs_eq (2*a*p.1+b*p.2)with z|z
   ·rw[hs]at z
    rw[z]at e
    rw[←e]
    exact List.mem_cons_self
   ·rw[hs]at z
    rw[z]at e
    rw[←e]
    exact List.mem_cons_of_mem _ List.mem_cons_self
  have:=W0 nd sub
  have e:((List.range 23).flatMap fun i:Nat=>[KQ a b (sd ((i:Int)-11)) ((i:Int)-11),KQ a b (-(sd ((i:Int)-11):Int)) ((i:Int)-11)]).length=46:=rfl
  omega
 ·have A3:A≤3:=by
   rcases Nat.lt_or_ge 3 A with z|z
   ·have:A*4≤A*A:=Nat.mul_le_mul_left _ z
    omega
   ·exact z
  have fin:∀S Y K:Nat,ck 15 K (Kq (T6 D S Y))=true→Y*S<1024→4*A*N<K→1600*A<S*S→1600*A<D*(Y*Y)→l.length<64:=fun S Y K hck hl hK hS hY=>by
   have few:=Abd (c:=4*A*N) hck hl hK
   have top:4*A*N≤1600*A:=by
    have:4*A*N≤4*A*400:=Nat.mul_le_mul_left _ N4
    omega
   have sub:∀p∈l,p∈(KY D S (4*A*N) Y).flatMap fun q=>[KQ a b q.1 q.2,KQ a b (-(q.1:Int)) q.2,KQ a b q.1 (-(q.2:Int)),KQ a b (-(q.1:Int)) (-(q.2:Int))]:=fun p hp=>by
    obtain⟨s,y,e1,es,ey,e⟩:=key p hp
    have hs:s<S:=AaD (by omega)
    have hy:y<Y:=by
     rcases Nat.lt_or_ge y Y with z|z
     ·exact z
     ·have:=Nat.mul_le_mul_left D (Nat.mul_le_mul z z)
      omega
    refine List.mem_flatMap.mpr ⟨(s,y),Qx hs hy e1,?_⟩
    rcases Int.natAbs_eq (2*a*p.1+b*p.2)with z|z<;>rcases Int.natAbs_eq p.2 with w|w<;>rw[←es]at z<;>rw[←ey]at w<;>rw[z]at e<;>(have e':=e;conv at e'=>rhs;rw[w])<;>rw[e']<;>simp
   have:=W0 nd sub
   have hlen:∀ps:List (Nat×Nat),(ps.flatMap fun q=>[KQ a b q.1 q.2,KQ a b (-(q.1:Int)) q.2,KQ a b q.1 (-(q.2:Int)),KQ a b (-(q.1:Int)) (-(q.2:Int))]).length=4*ps.length:=fun ps=>by
    induction ps with
    |nil=>rfl
    |cons q ps ih=>rw[List.flatMap_cons,List.length_append,ih,List.length_cons];simp only[List.length_cons,List.length_nil];omega
   rw[hlen]at this
   omega
  have hA':A=1∨A=2∨A=3:=by omega
  rcases hA' with rfl|rfl|rfl
  ·refine fin 41 24 1601 (Tt AnA (?_)) (by decide) (by omega) (by decide) (by omega)
   simp only[List.mem_cons,List.not_mem_nil,or_false]
   omega
  ·refine fin 57 17 3201 (Tt AmO (?_)) (by decide) (by omega) (by decide) (by omega)
   simp only[List.mem_cons,List.not_mem_nil,or_false]
   omega
  ·refine fin 70 14 4801 (Tt Am0 (?_)) (by decide) (by omega) (by decide) (by omega)
   simp only[List.mem_cons,List.not_mem_nil,or_false]
   omega
theorem Ld{u:I4}:Ar (Ar u)=u:=by
 obtain⟨p,q,r,s⟩:=u
 simp[Ar]
theorem AbX{f:I3}{u:I4}{n:Int}{l:List I2}(du:det u=1)(L:BJ (mov f u))(n1:1≤n)(n4:n≤400)(nd:l.Nodup)(hv:∀p∈l,val f p=n):l.length<64:=by
 have inv:∀p,Dp u (Dp (Ar u) p)=p:=fun p=>by
  have:=J8 (t:=Ar u) (p:=p) (by rw[CJ];exact du)
  rw[Ld]at this
  exact this
 have:=S6 (l:=l.map (Dp (Ar u))) L n1 n4 (by
  unfold List.Nodup at *
  rw[List.pairwise_map]
  exact nd.imp fun{a b} h z=>h (by rw[←inv a,z,inv])) fun p hp=>by
   obtain⟨q,hq,rfl⟩:=List.mem_map.mp hp
   rw[Tr,inv]
   exact hv q hq
 rw[List.length_map]at this
 exact this
end My
namespace My
open PySem L2
local macro_rules | `(tactic| walk_at "sc") => `(tactic| (exact ⟨rfl, rfl, rfl, by decide +kernel, rfl, by decide +kernel, by decide +kernel⟩))
local macro_rules | `(tactic| walk_at "lE") => `(tactic| (exact fun ds Q ⟨p, e, _⟩ => by rw [e]; rfl))
local macro_rules | `(tactic| walk_at "b1") => `(tactic| (intro _ _ _ _ _ _ us hl; exact match us, hl with | [_], _ => rfl))
local macro_rules | `(tactic| walk_at "b2") => `(tactic| (intro _ _ _ _ _ _ us hl; exact match us, hl with | [_, _], _ => rfl))
local macro_rules | `(tactic| walk_at "b3") => `(tactic| (intro _ _ _ _ _ _ us hl; exact match us, hl with | [_, _, _], _ => rfl))
local macro_rules | `(tactic| walk_at "rd1") => `(tactic| dsimp only [Ajw, Akh, Aj9, AgZ, dIf, AbU, Aha, Ah8, Yk, Zb, Zy, Ad2, Za, U0, AgE, AgP, Aj1, dIn, dOp, dUn, Aej, dC, dIx, AnG, Anz, Amw, AmJ, Ant, Am4, AnZ, An5, Alr, AlF, Ale, Alp, Ajj, AkK, Ala, Ank, dI, dI0, dB0, dLt, dLe, dGt, dGe, dEq, dNe, dIs, Akv, AkG, dOr, Agt, Q6, Ag2, AgG, AlS, AnR, Akf, AgB, dTup, AkJ, dCall, dCB, Adr, Ad9, Adw, AnH, AlC, AjZ, AcL, AeL, Ag6, QK, Zh, Mg, inner, AgT, AgJ, AdF, AcY, Ain, Ag8, dOf, AiW, AeY, Ajk, AhS, AiJ, AhM, AjJ, AmD, AhP, Amo, Akb, AiD, Aij, Anp, Ab2, AnN, AkZ, Am2, AkI, Akx, Ajo, Ana, AkL, AgU, Ak1, AjV, ownAt, Aju, Ah3, Ad0, AiE, AiC, AiB, AdB, PJ, AgD, AnU, Ag3, AdL, AgX, YL, Xg, Vv, XH,
 List.length_cons,List.length_nil,List.getElem?_cons_zero,List.getElem?_cons_succ,List.set_cons_zero,List.set_cons_succ,Nat.reduceAdd,List.map_cons,List.map_nil,Option.join_some])
local macro_rules | `(tactic| walk_at "rd2") => `(tactic| simp only [Alu, Akr, Aji, Akj, Aiv, Akt, AkQ, AkV, Akd, AlA, AlJ, Amy, Aod, AmA, AnX, Aoa, Ans, AhT, AhA, Ahk, Ahp, Ahn, Aht, AhX, Ahm, Ah2, AhU, RT, AjW, Oc, AkA, Ai2, Akc, AjS, Wy, AlQ, Ug, Tn, AhQ, Ahj, Ti, Ah0, Ahh, Agb, Aem, Ae3, Af3, Afo, AfY, AeG, if_true, if_false, Bool.and_true, Bool.true_and, Bool.false_and, Bool.and_false, Bool.not_true, Bool.not_false, Bool.false_eq_true, true_and, and_true, ite_true, ite_false, List.length_map])
local macro_rules | `(tactic| walk_at "rd") => `(tactic| ((try walk_at "rd1"); (try walk_at "rd2")))
local macro_rules | `(tactic| walk_at "go") => `(tactic| ((try simp only [Aci, Acj, AdC]); walk_at "rd"))
local macro_rules | `(tactic| walk_at "bts") => `(tactic| first | assumption | (with_reducible apply Bt.mul<;>walk_at "bts") | (with_reducible apply Bt.add<;>walk_at "bts") | (with_reducible apply Bt.sub<;>walk_at "bts") | (with_reducible apply Bt.neg<;>walk_at "bts") | exact Bt.au (n := 1) (by decide) | exact Bt.au (n := 8) (by decide) | exact Bt.au (n := 400) (by decide))
local macro_rules | `(tactic| walk_at "bt") => `(tactic| exact Bt.le (by walk_at "bts") (by decide))
local macro_rules | `(tactic| walk_at "mul") => `(tactic| exact Bt.aj (by walk_at "bts") (by walk_at "bts") (by decide) (by decide))
local macro_rules | `(tactic| walk_at "muls") => `(tactic| repeat (refine ⟨by first | walk_at "mul" | exact Ao (by decide) | decide | exact ⟨by decide, by decide⟩, ?_⟩))
def top(i:Nat):Stmt:=PySem.Challenge.pw_formcycle_k52_answers_of_bowls.main.body.getD i (.Pass ⟨0,0,0,0⟩)
abbrev Jz:Stmt:=top 9
theorem LQ:Aq ["number","guess","better"] ["number"] (Ai Jz):=by walk_at "sc"
abbrev Fo:Stmt:=top 10
theorem LK:Aq ["number","side"] ["number"] (Ai Fo):=by walk_at "sc"
abbrev Cy:Stmt:=top 11
theorem Nq:Aq ["number","most"] ["number","most"] (Ai Cy):=by walk_at "sc"
abbrev Cr:Stmt:=top 12
theorem Ov:Aq ["number","most"] ["number","most"] (Ai Cr):=by walk_at "sc"
abbrev Hg:Stmt:=top 15
theorem Xy:Aq ["turn"] ["turn"] (Ai Hg):=by walk_at "sc"
abbrev CG:Stmt:=top 16
theorem Q8:Aq ["turn"] ["turn"] (Ai CG):=by walk_at "sc"
abbrev Sv:Stmt:=top 17
theorem Aie:Aq ["turn","point"] ["turn","point"] (Ai Sv):=by walk_at "sc"
abbrev Cg:Stmt:=top 18
theorem Ro:Aq ["one","other"] ["one","other"] (Ai Cg):=by walk_at "sc"
abbrev K6:Stmt:=top 19
theorem AfS:Aq ["turn"] ["turn"] (Ai K6):=by walk_at "sc"
abbrev Dh:Stmt:=top 21
theorem YB:Aq ["form"] ["form"] (Ai Dh):=by walk_at "sc"
abbrev Ka:Stmt:=top 22
theorem Px:Aq ["form","point","x","y"] ["form","point"] (Ai Ka):=by walk_at "sc"
abbrev Jj:Stmt:=top 23
theorem Qw:Aq ["form","turn","left","right"] ["form","turn"] (Ai Jj):=by walk_at "sc"
abbrev Iz:Stmt:=top 24
theorem SQ:Aq ["form","left","right","crossed"] ["form","left","right"] (Ai Iz):=by walk_at "sc"
abbrev G7:Stmt:=top 25
theorem Vf:Aq ["form","number"] ["form"] (Ai G7):=by walk_at "sc"
abbrev Ds:Stmt:=top 27
theorem Rq:Aq ["form"] ["form"] (Ai Ds):=by walk_at "sc"
abbrev Dl:Stmt:=top 28
theorem Et:Aq ["form","a","b","c"] ["form"] (Ai Dl):=by walk_at "sc"
abbrev Gh:Stmt:=top 29
theorem Hw:Aq ["form","turn","lowering"] ["form"] (Ai Gh):=by walk_at "sc"
abbrev Ei:Stmt:=top 30
theorem Ku:Aq ["form","often"] ["form"] (Ai Ei):=by walk_at "sc"
abbrev Ea:Stmt:=top 31
theorem G9:Aq ["form","lowest","there","home"] ["form"] (Ai Ea):=by walk_at "sc"
abbrev Cq:Stmt:=top 32
theorem CQ:Aq ["form","turning","turns","came"] ["form"] (Ai Cq):=by walk_at "sc"
abbrev Ca:Stmt:=top 33
theorem Km:Aq ["form"] ["form"] (Ai Ca):=by walk_at "sc"
abbrev Cu:Stmt:=top 36
theorem Og:Aq ["form"] ["form"] (Ai Cu):=by walk_at "sc"
abbrev Dk:Stmt:=top 37
theorem JD:Aq ["form","far","b"] ["form","far"] (Ai Dk):=by walk_at "sc"
abbrev DK:Stmt:=top 38
theorem Fy:Aq ["form","top","b","c","d"] ["form","top"] (Ai DK):=by walk_at "sc"
abbrev CZ:Stmt:=top 39
theorem JR:Aq ["stop","top","turn"] ["stop","top"] (Ai CZ):=by walk_at "sc"
abbrev Kc:Stmt:=top 40
theorem Li:Aq ["form","far","stop"] ["form"] (Ai Kc):=by walk_at "sc"
abbrev DN:Stmt:=top 41
theorem Df:Aq ["form","far","first","stops","stop"] ["form"] (Ai DN):=by walk_at "sc"
abbrev Hh:Stmt:=top 42
theorem Xu:Aq ["form"] ["form"] (Ai Hh):=by walk_at "sc"
abbrev Ey:Stmt:=top 47
theorem U9:Aq ["form"] ["form"] (Ai Ey):=by walk_at "sc"
abbrev DQ:Stmt:=top 48
theorem Qi:Aq ["one","other"] ["one","other"] (Ai DQ):=by walk_at "sc"
abbrev Jf:Stmt:=top 51
theorem Ad1:Aq ["form","number"] ["form","number"] (Ai Jf):=by walk_at "sc"
abbrev Gk:Stmt:=top 52
theorem Fp:Aq ["form","number","whole","found","g","foot","turn"] ["form","number"] (Ai Gk):=by walk_at "sc"
abbrev Bf:Stmt:=top 53
theorem Hf:Aq ["number"] ["number"] (Ai Bf):=by walk_at "sc"
abbrev JX:Stmt:=top 54
theorem Zg:Aq ["first","far","middles"] ["first","far"] (Ai JX):=by walk_at "sc"
abbrev CV:Stmt:=top 55
theorem FQ:Aq ["form","number","tops","found","turn"] ["form","number"] (Ai CV):=by walk_at "sc"
abbrev Eb:Stmt:=top 57
theorem TX:Aq ["_law_script","_law_k"] ["_law_script","_law_k"] (Ai Eb):=by walk_at "sc"
abbrev Eo:Stmt:=top 58
theorem Rm:Aq ["_law_found"] ["_law_found"] (Ai Eo):=by walk_at "sc"
abbrev CW:Stmt:=top 59
theorem QS:Aq ["_law_found","_law_many"] ["_law_found","_law_many"] (Ai CW):=by walk_at "sc"
abbrev Ew:Stmt:=top 60
theorem Wd:Aq ["_law_form"] ["_law_form"] (Ai Ew):=by walk_at "sc"
abbrev Ed:Stmt:=top 61
theorem Jx:Aq ["_law_number","_law_near"] ["_law_number"] (Ai Ed):=by walk_at "sc"
abbrev Fj:Stmt:=top 62
theorem BW:Aq ["_law_first","_law_cells","_law_p","_law_q","_law_r","_law_s","_law_cell_here","_law_k"] ["_law_first","_law_cells"] (Ai Fj):=by walk_at "sc"
abbrev Eh:Stmt:=top 63
theorem Rk:Aq ["_law_form","_law_x","_law_y"] ["_law_form","_law_x","_law_y"] (Ai Eh):=by walk_at "sc"
abbrev Ej:Stmt:=top 64
theorem DP:Aq ["_law_form","_law_turn_here","_law_p","_law_q","_law_r","_law_s","_law_middle"] ["_law_form","_law_turn_here"] (Ai Ej):=by walk_at "sc"
abbrev Ep:Stmt:=top 65
theorem Ce:Aq ["_law_script","_law_most","_law_cell_here","_law_often","_law_m","_law_b","_law_size","_law_rest","_law_bar_here","_law_sign"] ["_law_script","_law_most"] (Ai Ep):=by walk_at "sc"
abbrev Di:Stmt:=top 66
theorem Bb:Aq ["_law_form","_law_a","_law_b","_law_c","_law_p","_law_q","_law_r","_law_s","_law_k"] ["_law_form"] (Ai Di):=by walk_at "sc"
abbrev Gd:Stmt:=top 67
theorem Dq:Aq ["_law_least","_law_number","_law_y","_law_a","_law_b","_law_c","_law_rest","_law_side","_law_found","_law_top"] ["_law_least","_law_number","_law_y"] (Ai Gd):=by walk_at "sc"
abbrev Ge:Stmt:=top 68
theorem BZ:Aq ["_law_form","_law_number","_law_least","_law_turn_here","_law_p","_law_q","_law_r","_law_s","_law_most","_law_found","_law_y","_law_x","_law_z"] ["_law_form","_law_number"] (Ai Ge):=by walk_at "sc"
abbrev Mp:Stmt:=top 69
theorem Ib:Aq ["_law_script","_law_cells","_law_often","_law_near","_law_form","_law_number","_law_due_here","_law_found","_law_point"] ["_law_script"] (Ai Mp):=by walk_at "sc"
abbrev IW:Stmt:=inClass (top 44) 0
theorem Aaw:Aq ["self","form","lowest"] ["self","form","lowest"] (Ai IW):=by walk_at "sc"
abbrev Ke:Stmt:=inClass (top 45) 0
theorem Adp:Aq ["self","form"] ["self","form"] (Ai Ke):=by walk_at "sc"
abbrev Hi:Stmt:=inClass (top 46) 0
theorem X3:Aq ["self","form"] ["self","form"] (Ai Hi):=by walk_at "sc"
abbrev Hj:Stmt:=inClass (top 44) 3
theorem Ys:Aq ["self","other"] ["self","other"] (Ai Hj):=by walk_at "sc"
structure Txt(K:W.Frag)(mg:Str→Option Value):Prop where
 o9:∃C f fd,MkC K mg "Bowl" ["form","measure","lowest"] C f∧Fun K "__init__" "Bowl.__init__" Ke f fd∧Binds K fd ["self","form"] []
 p8:IsC K "Bowl"
 jV:Oq K "Bowl" "form"
 cB:Oq K "Bowl" "measure"
 cI:Oq K "Bowl" "lowest"
 lu:∃C f fd,MkC K mg "Saddle" ["form","measure","lowest"] C f∧Fun K "__init__" "Saddle.__init__" Hi f fd∧Binds K fd ["self","form"] []
 n6:IsC K "Saddle"
 iu:Oq K "Saddle" "form"
 bL:Oq K "Saddle" "measure"
 bU:Oq K "Saddle" "lowest"
 lB:∃g fd,ZD K mg "Shape" "__init__" g∧Fun K "__init__" "Shape.__init__" IW g fd∧Binds K fd ["self","form","lowest"] []
 jF:∃g fd,(∀c∈(["Bowl","Saddle"]:List Str),Aad K c "way_to" g)∧W.keepIn K (.ref g)=true∧Fun K "way_to" "Shape.way_to" Hj g fd∧Binds K fd ["self","other"] []
 pq:∃f fd,FnT K mg "root" Jz ["number"] f fd
 gF:∃f fd,FnT K mg "is_square" Fo ["number"] f fd
 cC:∃f fd,FnT K mg "check_at_most" Cy ["number","most"] f fd
 cJ:∃f fd,FnT K mg "check_within" Cr ["number","most"] f fd
 jG:∃f fd,FnT K mg "is_turn" Hg ["turn"] f fd
 eX:∃f fd,FnT K mg "check_turn" CG ["turn"] f fd
 qy:∃f fd,FnT K mg "led" Sv ["turn","point"] f fd
 eZ:∃f fd,FnT K mg "put_behind" Cg ["one","other"] f fd
 pA:∃f fd,FnT K mg "back" K6 ["turn"] f fd
 jH:∃f fd,FnT K mg "measure" Dh ["form"] f fd
 nH:∃f fd,FnT K mg "value" Ka ["form","point"] f fd
 nJ:∃f fd,FnT K mg "moved" Jj ["form","turn"] f fd
 lC:∃f fd,FnT K mg "middle" Iz ["form","left","right"] f fd
 nM:∃f fd,FnT K mg "shape" G7 ["form"] f fd
 fj:∃f fd,FnT K mg "check_bowl" Ds ["form"] f fd
 cL:∃f fd,FnT K mg "stands_least" Dl ["form"] f fd
 jJ:∃f fd,FnT K mg "settled" Gh ["form"] f fd
 fu:∃f fd,FnT K mg "turn_lower" Ei ["form"] f fd
 gG:∃f fd,FnT K mg "own_turns" Ea ["form"] f fd
 bV:∃f fd,FnT K mg "turns_of_least" Cq ["form"] f fd
 bx:∃f fd,FnT K mg "turning_of_least" Ca ["form"] f fd
 cM:∃f fd,FnT K mg "check_saddle" Cu ["form"] f fd
 cN:∃f fd,FnT K mg "stands_level" Dk ["form","far"] f fd
 c7:∃f fd,FnT K mg "turn_behind" DK ["form","top"] f fd
 dg:∃f fd,FnT K mg "stop_behind" CZ ["stop","top"] f fd
 nP:∃f fd,FnT K mg "eased" Kc ["form"] f fd
 dh:∃f fd,FnT K mg "stops_round" DN ["form"] f fd
 jK:∃f fd,FnT K mg "lowered" Hh ["form"] f fd
 iw:∃f fd,FnT K mg "shape_of" Ey ["form"] f fd
 dj:∃f fd,FnT K mg "way_between" DQ ["one","other"] f fd
 nQ:∃f fd,FnT K mg "heads" Jf ["form","number"] f fd
 iy:∃f fd,FnT K mg "families" Gk ["form","number"] f fd
 aK:∃f fd,FnT K mg "roots_of_square_divisors" Bf ["number"] f fd
 pB:∃f fd,FnT K mg "feet" JX ["first","far"] f fd
 dw:∃f fd,FnT K mg "all_answers" CV ["form","number"] f fd
 gH:∃f fd,FnT K mg "_law_cell" Eb ["_law_script","_law_k"] f fd
 fC:∃f fd,FnT K mg "_law_whole" Eo ["_law_found"] f fd
 dz:∃f fd,FnT K mg "_law_wholes" CW ["_law_found","_law_many"] f fd
 iz:∃f fd,FnT K mg "_law_bar" Ew ["_law_form"] f fd
 gJ:∃f fd,FnT K mg "_law_root" Ed ["_law_number"] f fd
 gK:∃f fd,FnT K mg "_law_turn" Fj ["_law_first","_law_cells"] f fd
 fD:∃f fd,FnT K mg "_law_value" Eh ["_law_form","_law_x","_law_y"] f fd
 fG:∃f fd,FnT K mg "_law_moved" Ej ["_law_form","_law_turn_here"] f fd
 fH:∃f fd,FnT K mg "_law_taken" Ep ["_law_script","_law_most"] f fd
 cP:∃f fd,FnT K mg "_law_settled" Di ["_law_form"] f fd
 iB:∃f fd,FnT K mg "_law_row" Gd ["_law_least","_law_number","_law_y"] f fd
 iC:∃f fd,FnT K mg "_law_due" Ge ["_law_form","_law_number"] f fd
 qz:∃f fd,FnT K mg "law" Mp ["_law_script"] f fd
 aP:∃t,mg "MOST_MEASURE"=some (.int (4000) t)
 aB:∃t,mg "MOST_NUMBER"=some (.int (400) t)
 cQ:mg "abs"=none
 fQ:mg "bool"=none
 jL:mg "int"=none
 ak:mg "isinstance"=none
 gM:mg "len"=none
 dH:mg "list"=none
 iD:mg "max"=none
 jM:mg "min"=none
 bM:mg "range"=none
 jO:mg "set"=none
 aM:mg "sorted"=none
 cW:mg "tuple"=none
 jW:∃a,mg "SAME"=some (.ref a)∧∀H,Rp K H (.tup [.int (1),.int (0),.int (0),.int (1)]) (.ref a)
abbrev Qn:DSp:=CN (fun t:I4=>[t4 t]) (B4 300000) fun t=>.bl (decide (det t=1))
abbrev Gp:DSp:=CN (fun t:I4=>[t4 t]) (fun t=>B4 300000 t∧det t=1) fun _=>.non
abbrev Aca:DSp:=CN (fun p:I4×I2=>[t4 p.1,t2 p.2]) (fun p=>B4 300000 p.1∧det p.1=1∧B2 300000 p.2) fun p=>t2 (Dp p.1 p.2)
abbrev Dz:DSp:=CN (fun p:I4×I4=>[t4 p.1,t4 p.2]) (fun p=>B4 400000 p.1∧B4 400000 p.2) fun p=>t4 (Aj p.1 p.2)
abbrev Uc:DSp:=CN (fun t:I4=>[t4 t]) (fun t=>B4 300000 t∧det t=1) fun t=>t4 (Ar t)
section
variable(P:Program)(w:World){K:W.Frag}{mg:Str→Option Value}(base:Heap)
theorem Yn(T:Txt K mg)
  : Pm P w K mg base 1 "is_turn" Hg ["turn"] Qn:=by
 obtain⟨f,fd,F⟩:=T.jG
 refine⟨f,fd,F,F.fn.okD Xy (by walk_at "lE") fun cdv A outer s H E hr=>⟨_,(Ah (Av (YT hr.units (Cd (Ak (Ae (dv 0) Ab) (Ae (dv 0) Ab)) (Ak (Ae (dv 0) Ab) (Ae (dv 0) Ab))) Ab))),fun ds Q h=>?_⟩⟩
 obtain⟨⟨a,b,c,d⟩,rfl,⟨ha,hb,hc,hd⟩,q⟩:=h
 walk_at "go"
 exact⟨by walk_at "mul",by walk_at "mul",q _ rfl⟩
theorem Ra(T:Txt K mg)
  (n8:Pm P w K mg base 1 "is_turn" Hg ["turn"] Qn)
  : Pm P w K mg base 2 "check_turn" CG ["turn"] Gp:=by
 obtain⟨f,fd,F⟩:=T.eX
 refine⟨f,fd,F,F.fn.okD Q8 (by walk_at "lE") fun cdv A outer s H E hr=>⟨_,(Ah (Cm (Ig (Il (Ag Af n8 (hr.mono (by decide)) rfl (Aa (dv 0) Ac)))) (Ah HB) Bk)),fun ds Q h=>?_⟩⟩
 obtain⟨t,rfl,⟨hb,hd⟩,q⟩:=h
 walk_at "go"
 refine Al t hb ?_
 walk_at "rd"
 rw[decide_eq_true hd]
 exact q _ rfl
theorem AhO(T:Txt K mg)
  (aQ:Pm P w K mg base 2 "check_turn" CG ["turn"] Gp)
  : Pm P w K mg base 3 "led" Sv ["turn","point"] Aca:=by
 obtain⟨f,fd,F⟩:=T.qy
 refine⟨f,fd,F,F.fn.okD Aie (by walk_at "lE") fun cdv A outer s H E hr=>⟨_,(Ad (Gs (Ag Af aQ (hr.mono (by decide)) rfl (Aa (dv 0) Ac))) (Ah (Av (Bj (Aa (Bl (Ak (Ae (dv 0) Ab) (Ae (dv 1) Ab)) (Ak (Ae (dv 0) Ab) (Ae (dv 1) Ab))) (Aa (Bl (Ak (Ae (dv 0) Ab) (Ae (dv 1) Ab)) (Ak (Ae (dv 0) Ab) (Ae (dv 1) Ab))) Ac)))))),fun ds Q h=>?_⟩⟩
 obtain⟨⟨⟨a,b,c,d⟩,x,y⟩,rfl,⟨hb,hd,hx,hy⟩,q⟩:=h
 walk_at "go"
 refine Al (a,b,c,d) ⟨hb,hd⟩ ?_
 obtain⟨ha,hb,hc,hd⟩:=hb
 exact⟨by walk_at "mul",by walk_at "mul",by walk_at "mul",by walk_at "mul",Ao (by decide),q _ rfl⟩
theorem Rt(T:Txt K mg)
  : Pm P w K mg base 1 "put_behind" Cg ["one","other"] Dz:=by
 obtain⟨f,fd,F⟩:=T.eZ
 refine⟨f,fd,F,F.fn.okD Ro (by walk_at "lE") fun cdv A outer s H E hr=>⟨_,(Ah (Av (Bj (Aa (Bl (Ak (Ae (dv 0) Ab) (Ae (dv 1) Ab)) (Ak (Ae (dv 0) Ab) (Ae (dv 1) Ab))) (Aa (Bl (Ak (Ae (dv 0) Ab) (Ae (dv 1) Ab)) (Ak (Ae (dv 0) Ab) (Ae (dv 1) Ab))) (Aa (Bl (Ak (Ae (dv 0) Ab) (Ae (dv 1) Ab)) (Ak (Ae (dv 0) Ab) (Ae (dv 1) Ab))) (Aa (Bl (Ak (Ae (dv 0) Ab) (Ae (dv 1) Ab)) (Ak (Ae (dv 0) Ab) (Ae (dv 1) Ab))) Ac))))))),fun ds Q h=>?_⟩⟩
 obtain⟨⟨⟨a,b,c,d⟩,e,f,g,i⟩,rfl,⟨⟨ha,hb,hc,hd⟩,he,hf,hg,hi⟩,q⟩:=h
 walk_at "go"
 exact⟨by walk_at "mul",by walk_at "mul",by walk_at "mul",by walk_at "mul",by walk_at "mul",by walk_at "mul",by walk_at "mul",by walk_at "mul",Ao (by decide),q _ rfl⟩
theorem Agq(T:Txt K mg)
  (aQ:Pm P w K mg base 2 "check_turn" CG ["turn"] Gp)
  : Pm P w K mg base 3 "back" K6 ["turn"] Uc:=by
 obtain⟨f,fd,F⟩:=T.pA
 refine⟨f,fd,F,F.fn.okD AfS (by walk_at "lE") fun cdv A outer s H E hr=>⟨_,(Ad (Gs (Ag Af aQ (hr.mono (by decide)) rfl (Aa (dv 0) Ac))) (Ah (Av (Bj (Aa (Ae (dv 0) Ab) (Aa (Fv (Ae (dv 0) Ab)) (Aa (Fv (Ae (dv 0) Ab)) (Aa (Ae (dv 0) Ab) Ac)))))))),fun ds Q h=>?_⟩⟩
 obtain⟨⟨a,b,c,d⟩,rfl,⟨hb,hd⟩,q⟩:=h
 walk_at "go"
 refine Al (a,b,c,d) ⟨hb,hd⟩ ?_
 exact⟨Ao (by decide),q _ rfl⟩
theorem AeI(T:Txt K mg)
  : Pm P w K mg base 1 "root" Jz ["number"] Ms:=by
 obtain⟨f,fd,F⟩:=T.pq
 refine⟨f,fd,F,F.fn.okD LQ (by walk_at "lE") fun cdv A outer s H E hr=>⟨_,(Ad (Cm (RW (dv 0) Ab) (Ah HB) Bk) (Ad (Cm (HS hr.units (dv 0) Ab) (Ah (Av Ab)) Bk) (Ad (Aw 1 LQ.nd (Ad3 Ab (Ck (Bl (Zt (dv 0)) Ab) Ab))) (Ad (Aw 2 LQ.nd (Ck (Bl (dv 1) (Ck (dv 0) (dv 1))) Ab)) (Ad (HF PassesOwn.never (RW (dv 2) (dv 1)) (Ad (Aw 1 LQ.nd (dv 2)) (Ah (Aw 2 LQ.nd (Ck (Bl (dv 1) (Ck (dv 0) (dv 1))) Ab))))) (Ah (Av (dv 1)))))))),fun ds Q h=>?_⟩⟩
 obtain⟨n,rfl,⟨h0,hb⟩,q⟩:=h
 walk_at "go"
 refine EY (decide_eq_false (by omega)) ?_
 by_cases hz:n=0
 ·subst hz
  exact ift rfl (q _ ⟨0,rfl,⟨by omega,by omega,by omega⟩,Bt.zero.le (by decide)⟩)
 refine EY (decide_eq_false hz) ?_
 obtain⟨c1,c2,c3⟩:=N6 hb
 have hu:=Ve h0
 refine⟨⟨by decide,by decide⟩,c1,?_⟩
 generalize (1*2 ^ ((((Builtin.Int.intBits n:Nat):Int)+1).fdiv 2).toNat:Int)=g at *
 refine⟨Bt.cA c2 (by omega),⟨by decide,by decide⟩,?_⟩
 rw[Tq c3]
 refine HD (fun m ρ=>∃g:Int,ρ=[some (.is (.int n)),some (.is (.int g)),some (.is (.int ((g+n / g) / 2)))]∧0<g∧Bt 2001 g∧n<(g+1)*(g+1)∧m=g.toNat) _ ⟨g,rfl,c3,c2,hu,rfl⟩ ?_
 rintro m _ ⟨g,rfl,hg,hgb,hgu,rfl⟩
 walk_at "rd"
 refine GR (fun hw=>?_) (fun hw=>?_)
 ·have hw:=of_decide_eq_true hw
  have hp:=Yt (show 1≤n by omega) hg
  have hu':=R9 h0 hg
  have hbb:Bt 2001 ((g+n / g) / 2):=by unfold Bt at *;omega
  generalize (g+n / g) / 2=b at *
  refine⟨Bt.cA hbb (by omega),⟨by decide,by decide⟩,?_⟩
  rw[Tq hp]
  exact⟨_,by omega,b,rfl,hp,hbb,hu',rfl⟩
 ·have hw:¬(g+n / g) / 2<g:=fun z=>hw (decide_eq_true z)
  exact q _ ⟨g,rfl,⟨by omega,W2 hg (by omega),hgu⟩,hgb⟩
theorem Tv(T:Txt K mg)
  (dJ:Pm P w K mg base 1 "root" Jz ["number"] Ms)
  : Pm P w K mg base 2 "is_square" Fo ["number"] Lk:=by
 obtain⟨f,fd,F⟩:=T.gF
 refine⟨f,fd,F,F.fn.okD LK (by walk_at "lE") fun cdv A outer s H E hr=>⟨_,(Ad (Cm (RW (dv 0) Ab) (Ah (Av NT)) Bk) (Ad (Aw 1 LK.nd (Ag Af dJ (hr.mono (by decide)) rfl (Aa (dv 0) Ac))) (Ah (Av (YT hr.units (Ak (dv 1) (dv 1)) (dv 0)))))),fun ds Q h=>?_⟩⟩
 obtain⟨n,rfl,hb,q⟩:=h
 walk_at "go"
 refine GR (fun hw=>?_) (fun hw=>?_)
 ·have hw:=of_decide_eq_true hw
  exact q _ ⟨false,rfl,by simp[Ln hw]⟩
 ·have hw:¬n<0:=fun z=>hw (decide_eq_true z)
  refine Bg n ⟨by omega,hb⟩ ?_
  rintro _ ⟨r,rfl,hs,hr'⟩
  walk_at "rd"
  refine⟨by walk_at "mul",q _ ⟨_,rfl,?_⟩⟩
  rw[Vs hs];simp
abbrev Fg:DSp:=CN (fun f:I3=>[t3 f]) (B3 20000) fun f=>.int (meas f)
abbrev Vo:DSp:=CN (fun p:I3×I2=>[t3 p.1,t2 p.2]) (fun p=>B3 20000 p.1∧B2 300000 p.2) fun p=>.int (val p.1 p.2)
abbrev S8:DSp:=CN (fun p:I3×I2×I2=>[t3 p.1,t2 p.2.1,t2 p.2.2]) (fun p=>B3 20000 p.1∧B2 300000 p.2.1∧B2 300000 p.2.2) fun p=>.int (mid p.1 p.2.1 p.2.2)
abbrev Qj:DSp:=CN (fun p:I3×I4=>[t3 p.1,t4 p.2]) (fun p=>B3 20000 p.1∧B4 300000 p.2∧det p.2=1) fun p=>t3 (mov p.1 p.2)
theorem W6(T:Txt K mg)
  : Pm P w K mg base 1 "measure" Dh ["form"] Fg:=by
 obtain⟨f,fd,F⟩:=T.jH
 refine⟨f,fd,F,F.fn.okD YB (by walk_at "lE") fun cdv A outer s H E hr=>⟨_,(Ah (Av (Cd (Ak (Ae (dv 0) Ab) (Ae (dv 0) Ab)) (Ak (Ak Ab (Ae (dv 0) Ab)) (Ae (dv 0) Ab))))),fun ds Q h=>?_⟩⟩
 obtain⟨⟨a,b,c⟩,rfl,⟨ha,hb,hc⟩,q⟩:=h
 walk_at "go"
 have h2:Bt 3 4:=Bt.au (by decide)
 exact⟨by walk_at "mul",by walk_at "mul",by walk_at "mul",q _ rfl⟩
theorem Adf(T:Txt K mg)
  : Pm P w K mg base 1 "value" Ka ["form","point"] Vo:=by
 obtain⟨f,fd,F⟩:=T.nH
 refine⟨f,fd,F,F.fn.okD Px (by walk_at "lE") fun cdv A outer s H E hr=>⟨_,(Ad (Aw 2 Px.nd (Ae (dv 1) Ab)) (Ad (Aw 3 Px.nd (Ae (dv 1) Ab)) (Ah (Av (Bl (Bl (Ak (Ak (Ae (dv 0) Ab) (dv 2)) (dv 2)) (Ak (Ak (Ae (dv 0) Ab) (dv 2)) (dv 3))) (Ak (Ak (Ae (dv 0) Ab) (dv 3)) (dv 3))))))),fun ds Q h=>?_⟩⟩
 obtain⟨⟨⟨a,b,c⟩,x,y⟩,rfl,⟨⟨ha,hb,hc⟩,hx,hy⟩,q⟩:=h
 walk_at "go"
 exact⟨by walk_at "mul",by walk_at "mul",by walk_at "mul",by walk_at "mul",by walk_at "mul",by walk_at "mul",q _ rfl⟩
theorem Aau(T:Txt K mg)
  : Pm P w K mg base 1 "middle" Iz ["form","left","right"] S8:=by
 obtain⟨f,fd,F⟩:=T.lC
 refine⟨f,fd,F,F.fn.okD SQ (by walk_at "lE") fun cdv A outer s H E hr=>⟨_,(Ad (Aw 3 SQ.nd (Bl (Ak (Ae (dv 1) Ab) (Ae (dv 2) Ab)) (Ak (Ae (dv 2) Ab) (Ae (dv 1) Ab)))) (Ah (Av (Bl (Bl (Ak (Ak (Ak Ab (Ae (dv 0) Ab)) (Ae (dv 1) Ab)) (Ae (dv 2) Ab)) (Ak (Ae (dv 0) Ab) (dv 3))) (Ak (Ak (Ak Ab (Ae (dv 0) Ab)) (Ae (dv 1) Ab)) (Ae (dv 2) Ab)))))),fun ds Q h=>?_⟩⟩
 obtain⟨⟨⟨a,b,c⟩,⟨x,y⟩,u,v⟩,rfl,⟨⟨ha,hb,hc⟩,⟨hx,hy⟩,hu,hv⟩,q⟩:=h
 walk_at "go"
 have h2:Bt 2 2:=Bt.au (by decide)
 walk_at "muls"
 exact q _ rfl
theorem Abw(T:Txt K mg)
  (aQ:Pm P w K mg base 2 "check_turn" CG ["turn"] Gp)
  (nR:Pm P w K mg base 1 "value" Ka ["form","point"] Vo)
  (pC:Pm P w K mg base 1 "middle" Iz ["form","left","right"] S8)
  : Pm P w K mg base 3 "moved" Jj ["form","turn"] Qj:=by
 obtain⟨f,fd,F⟩:=T.nJ
 refine⟨f,fd,F,F.fn.okD Qw (by walk_at "lE") fun cdv A outer s H E hr=>⟨_,(Ad (Gs (Ag Af aQ (hr.mono (by decide)) rfl (Aa (dv 1) Ac))) (Ad (Aw 2 Qw.nd (Bj (Aa (Ae (dv 1) Ab) (Aa (Ae (dv 1) Ab) Ac)))) (Ad (Aw 3 Qw.nd (Bj (Aa (Ae (dv 1) Ab) (Aa (Ae (dv 1) Ab) Ac)))) (Ah (Av (Bj (Aa (Ag Af nR (hr.mono (by decide)) rfl (Aa (dv 0) (Aa (dv 2) Ac))) (Aa (Ag Af pC (hr.mono (by decide)) rfl (Aa (dv 0) (Aa (dv 2) (Aa (dv 3) Ac)))) (Aa (Ag Af nR (hr.mono (by decide)) rfl (Aa (dv 0) (Aa (dv 3) Ac))) Ac))))))))),fun ds Q h=>?_⟩⟩
 obtain⟨⟨f,t⟩,rfl,⟨hf,ht,hd⟩,q⟩:=h
 walk_at "go"
 have hl:B2 300000 (t.1,t.2.2.1):=⟨ht.1.le (by decide),ht.2.2.1.le (by decide)⟩
 have hr':B2 300000 (t.2.1,t.2.2.2):=⟨ht.2.1.le (by decide),ht.2.2.2.le (by decide)⟩
 refine Al t ⟨ht,hd⟩ ⟨Ao (by decide),Ao (by decide),?_⟩
 refine Al (f,(t.1,t.2.2.1)) ⟨hf,hl⟩ ?_
 refine Al (f,(t.1,t.2.2.1),(t.2.1,t.2.2.2)) ⟨hf,hl,hr'⟩ ?_
 refine Al (f,(t.2.1,t.2.2.2)) ⟨hf,hr'⟩ ⟨Ao (by decide),?_⟩
 exact q _ rfl
abbrev J5:DSp:=spec (fun f:I3=>[t3 f]) (fun f=>B3 1500 f) Ab0
theorem Ad4(T:Txt K mg)
  (aC:Pm P w K mg base 1 "measure" Dh ["form"] Fg)
  (lH:Pm P w K mg base 2 "is_square" Fo ["number"] Lk)
  : Pm P w K mg base 3 "shape" G7 ["form"] J5:=by
 obtain⟨f,fd,F⟩:=T.nM
 refine⟨f,fd,F,F.fn.okD Vf (by walk_at "lE") fun cdv A outer s H E hr=>⟨_,(Ad (Aw 1 Vf.nd (Ag Af aC (hr.mono (by decide)) rfl (Aa (dv 0) Ac))) (Ad (Cm (Il (Ag Af lH (hr.mono (by decide)) rfl (Aa (dv 1) Ac))) (Ah (Av JM)) Bk) (Ad (Cm (R5 (dv 1) Ab) (Ah (Av JM)) Bk) (Ad (Cm (R5 (Ae (dv 0) Ab) Ab) (Ah (Av JM)) Bk) (Ah (Av JM)))))),fun ds Q h=>?_⟩⟩
 obtain⟨f,rfl,hf,q⟩:=h
 walk_at "go"
 refine Al f (hf.le (by decide)) ?_
 have hm:Bt 4000 (meas f):=by
  obtain⟨h1,h2,h3⟩:=hf
  have h4:Bt 3 4:=Bt.au (by decide)
  exact((h2.mul h2).sub ((h4.mul h1).mul h3)).le (by decide)
 refine Bg (meas f) hm ?_
 rintro _ ⟨b,rfl,hb⟩
 walk_at "rd"
 refine GR (fun h=>q _ (.flat (hb.mp h))) (fun h=>?_)
 have hn:¬KR (meas f):=fun z=>h (hb.mpr z)
 refine GR (fun h=>q _ (.saddle hn (of_decide_eq_true h))) (fun h=>?_)
 have hp:¬0<meas f:=fun z=>h (decide_eq_true z)
 refine GR (fun h=>q _ (.bowl hn hp (of_decide_eq_true h))) (fun h=>q _ (.dome hn hp fun z=>h (decide_eq_true z)))
abbrev Ii:DSp:=CN (fun f:I3=>[t3 f]) (fun f=>B3 1500 f∧Bs f) fun _=>.non
abbrev JC:DSp:=CN (fun f:I3=>[t3 f]) (fun _=>True) fun f=>.bl (stands f)
theorem Q9(T:Txt K mg)
  (bZ:Pm P w K mg base 3 "shape" G7 ["form"] J5)
  : Pm P w K mg base 4 "check_bowl" Ds ["form"] Ii:=by
 obtain⟨f,fd,F⟩:=T.fj
 refine⟨f,fd,F,F.fn.okD Rq (by walk_at "lE") fun cdv A outer s H E hr=>⟨_,(Ah (Cm (Gv hr.units (Ag Af bZ (hr.mono (by decide)) rfl (Aa (dv 0) Ac)) JM) (Ah HB) Bk)),fun ds Q h=>?_⟩⟩
 obtain⟨f,rfl,⟨hb,h0,h1⟩,q⟩:=h
 walk_at "go"
 have h0:0<f.1:=h0
 have h1:meas f<0:=h1
 refine Bg f hb ?_
 rintro _ hw
 cases hw with
 |flat z=>exact absurd z (Ln h1)
 |saddle _ z=>exact absurd z (by omega)
 |dome _ _ z=>exact absurd h0 z
 |bowl _ _ _=>exact⟨⟨by rw[Le];decide +kernel,by rw[Le];decide +kernel⟩,ifn (by rw[Oc];rfl) (q _ rfl)⟩
theorem Oh(T:Txt K mg)
  : Pm P w K mg base 1 "stands_least" Dl ["form"] JC:=by
 obtain⟨f,fd,F⟩:=T.cL
 refine⟨f,fd,F,F.fn.okD Et (by walk_at "lE") fun cdv A outer s H E hr=>⟨_,(Ad (Aw 1 Et.nd (Ae (dv 0) Ab)) (Ad (Aw 2 Et.nd (Ae (dv 0) Ab)) (Ad (Aw 3 Et.nd (Ae (dv 0) Ab)) (Ad (Cm (Ig (Nt Ob Ob Ob Fe Fe Fe  (Fv (dv 1)) (dv 2) (dv 1) (dv 3))) (Ah (Av NT)) Bk) (Ah (Av (AkC (AjY (dv 2) Ab) (Tf (XM (AgF hr.units (dv 2) (Fv (dv 1))) (Tf (AgF hr.units (dv 1) (dv 3)))))))))))),fun ds Q h=>?_⟩⟩
 obtain⟨⟨a,b,c⟩,rfl,_,q⟩:=h
 have q':=q _ rfl
 dsimp only[stands]at q'
 walk_at "go"
 simp only[Bool.decide_and,ne_eq,decide_not]at q'
 generalize decide (-a≤b)=x1 at *
 generalize decide (b≤a)=x2 at *
 generalize decide (a≤c)=x3 at *
 generalize decide (0≤b)=x4 at *
 generalize decide (b=-a)=x5 at *
 generalize decide (a=c)=x6 at *
 cases x1<;>cases x2<;>cases x3<;>cases x4<;>cases x5<;>cases x6<;>exact q'
abbrev KD:DSp:=CN (fun f:I3=>[t3 f]) (fun f=>B3 8000 f∧0<f.1) fun f=>t4 (DR f)
theorem Rr(T:Txt K mg)
  : Pm P w K mg base 1 "turn_lower" Ei ["form"] KD:=by
 obtain⟨f,fd,F⟩:=T.fu
 refine⟨f,fd,F,F.fn.okD Ku (by walk_at "lE") fun cdv A outer s H E hr=>⟨_,(Ad (Aw 1 Ku.nd (Ck (Cd (Ae (dv 0) Ab) (Ae (dv 0) Ab)) (Ak Ab (Ae (dv 0) Ab)))) (Ad (Cm (Gv hr.units (dv 1) Ab) (Ah (Av (Bj (Aa Ab (Aa (dv 1) (Aa Ab (Aa Ab Ac))))))) Bk) (Ah (Av (Bj (Aa Ab (Aa (Fv Ab) (Aa Ab (Aa Ab Ac))))))))),fun ds Q h=>?_⟩⟩
 obtain⟨⟨a,b,c⟩,rfl,⟨⟨h1,h2,h3⟩,h0⟩,q⟩:=h
 have h0:0<a:=h0
 have h1:Bt 8000 a:=h1
 have two:Bt 2 2:=Bt.au (by decide)
 have q':=q _ rfl
 dsimp only at q'
 walk_at "go"
 refine⟨two.aj h1,Bt.cA (two.mul h1) (by omega),?_⟩
 by_cases ho:(a-b).fdiv (2*a)=0
 ·refine EY (by rw[decide_eq_true ho];rfl) ⟨Ao (by decide),?_⟩
  rw[Qd (f:=(a,b,c)) ho]at q'
  exact q'
 ·refine ift (by rw[decide_eq_false ho];rfl) ⟨Ao (by decide),?_⟩
  rw[Qt (f:=(a,b,c)) ho]at q'
  exact q'
def LI(f:I3):Nat→I4
 |0=>(1,0,0,1)
 |k+1=>Aj (LI f k) (DR (mov f (LI f k)))
def Mi(f:I3)(t:I4):Prop:=∃k,t=LI f k∧(∀i,i<k→stands (mov f (LI f i))=false)∧stands (mov f (LI f k))=true
theorem Mi.uniq{f:I3}{t u:I4}(a:Mi f t)(b:Mi f u):t=u:=by
 obtain⟨k,rfl,n1,h1⟩:=a
 obtain⟨l,rfl,n2,h2⟩:=b
 rcases Nat.lt_trichotomy k l with z|z|z
 ·rw[n2 k z]at h1;cases h1
 ·rw[z]
 ·rw[n1 l z]at h2;cases h2
def Mj(f:I3)(d:Dt):Prop:=∃t:I4,d=.tup [t3 (mov f t),t4 t]∧det t=1∧BJ (mov f t)∧B4 5000 t∧Mi f t
abbrev KN:DSp:=spec (fun f:I3=>[t3 f]) (fun f=>B3 1500 f∧Bs f) Mj
theorem Xe(T:Txt K mg)
  (cj:Pm P w K mg base 4 "check_bowl" Ds ["form"] Ii)
  (iG:Pm P w K mg base 1 "stands_least" Dl ["form"] JC)
  (jX:Pm P w K mg base 1 "turn_lower" Ei ["form"] KD)
  (jY:Pm P w K mg base 3 "moved" Jj ["form","turn"] Qj)
  (ao:Pm P w K mg base 1 "put_behind" Cg ["one","other"] Dz)
  : Pm P w K mg base 5 "settled" Gh ["form"] KN:=by
 obtain⟨f,fd,F⟩:=T.jJ
 obtain⟨bN,fV,fW⟩:=T.jW
 refine⟨f,fd,F,F.fn.okD Hw (by walk_at "lE") fun cdv A outer s H E hr=>⟨_,(Ad (Gs (Ag Af cj (hr.mono (by decide)) rfl (Aa (dv 0) Ac))) (Ad (Aw 1 Hw.nd (Jr (v:=.ref bN) rfl fV rfl fW)) (Ad (HF PassesOwn.never (Ig (Il (Ag Af iG (hr.mono (by decide)) rfl (Aa (dv 0) Ac)))) (Ad (Aw 2 Hw.nd (Ag Af jX (hr.mono (by decide)) rfl (Aa (dv 0) Ac))) (Ad (Aw 0 Hw.nd (Ag Af jY (hr.mono (by decide)) rfl (Aa (dv 0) (Aa (dv 2) Ac)))) (Ah (Aw 1 Hw.nd (Ag Af ao (hr.mono (by decide)) rfl (Aa (dv 1) (Aa (dv 2) Ac)))))))) (Ah (Av (Bj (Aa (dv 0) (Aa (dv 1) Ac)))))))),fun ds Q h=>?_⟩⟩
 obtain⟨f,rfl,⟨hb,hw⟩,q⟩:=h
 have hw:Bs f:=hw
 have hb:B3 1500 f:=hb
 have hm:Bt 3010 (meas f):=by
  obtain⟨h1,h2,h3⟩:=hb
  have h4:Bt 3 4:=Bt.au (by decide)
  exact((h2.mul h2).sub ((h4.mul h1).mul h3)).le (by decide)
 walk_at "go"
 refine Al f ⟨hb,hw⟩ ?_
 refine HD (fun m ρ=>∃t x,(∃k,t=LI f k∧∀i,i<k→stands (mov f (LI f i))=false)∧ρ=[some (.is (t3 (mov f t))),some (.is (t4 t)),x]∧det t=1∧Bt 1500 (mov f t).1∧Bt 1500 (mov f t).2.1∧m=msr (mov f t)) _ ⟨(1,0,0,1),none,⟨0,rfl,fun _ h=>absurd h (by omega)⟩,by rw[Ec],rfl,by rw[Ec];exact hb.1,by rw[Ec];exact hb.2.1,rfl⟩ ?_
 rintro m _ ⟨t,x,⟨k,et,nl⟩,rfl,hd,b1,b2,rfl⟩
 have hg:=J4 hw hd
 have hgb:B3 7000 (mov f t):=(Aac hg b1 b2 (by rw[Bu hd];exact hm)).le (by decide)
 have ht:B4 5000 t:=Tj hw hb hgb (by decide)
 walk_at "rd"
 refine Al (mov f t) trivial ?_
 walk_at "rd"
 by_cases hs:stands (mov f t)=true
 ·refine EY (by rw[hs];rfl) ⟨Ao (by decide),q _ ⟨t,rfl,hd,Bq hg.1 hs,ht,k,et,nl,by rw[←et];exact hs⟩⟩
 ·have hs:stands (mov f t)=false:=by simpa using hs
  refine ift (by rw[hs];rfl) ?_
  have hl:B4 2000 (DR (mov f t)):=(Abu hg.1 b1 b2).le (by decide)
  refine Al (mov f t) ⟨hgb.le (by decide),hg.1⟩ ?_
  refine Al (mov f t,DR (mov f t)) ⟨hgb.le (by decide),hl.le (by decide),RX⟩ ?_
  refine Al (t,DR (mov f t)) ⟨ht.le (by decide),hl.le (by decide)⟩ ?_
  have hb':=Acd hg hs b1 b2
  have hm':=Aa5 hg hs
  rw[Bc]at hb' hm'
  dsimp only
  rw[Bc]
  refine⟨_,hm',Aj t (DR (mov f t)),_,⟨k+1,by rw[et];rfl,fun i hi=>?_⟩,rfl,?_,hb'.1,hb'.2,rfl⟩
  case refine_1 =>
   rcases Nat.lt_or_ge i k with z|z
   ·exact nl i z
   ·rw[show i=k by omega,←et];exact hs
  rw[BK,hd,RX];rfl
abbrev GX:DSp:=CN (fun f:I3=>[t3 f]) (fun _=>True) fun f=>t4 (FP f)
theorem Kp(T:Txt K mg)
  : Pm P w K mg base 1 "turning_of_least" Ca ["form"] GX:=by
 obtain⟨f,fd,F⟩:=T.bx
 refine⟨f,fd,F,F.fn.okD Km (by walk_at "lE") fun cdv A outer s H E hr=>⟨_,(Ad (Cm (DW.dt (Xb (HS hr.units (Ae (dv 0) Ab) (Ae (dv 0) Ab)) (Ul (HS hr.units (Ae (dv 0) Ab) Ab)))) (Ah (Av (Bj (Aa Ab (Aa (Fv Ab) (Aa Ab (Aa Ab Ac))))))) Bk) (Ad (Cm (DW.dt (Xb (HS hr.units (Ae (dv 0) Ab) (Ae (dv 0) Ab)) (Ul (HS hr.units (Ae (dv 0) Ab) (Ae (dv 0) Ab))))) (Ah (Av (Bj (Aa Ab (Aa (Fv Ab) (Aa Ab (Aa Ab Ac))))))) Bk) (Ah (Av (Bj (Aa (Fv Ab) (Aa Ab (Aa Ab (Aa (Fv Ab) Ac))))))))),fun ds Q h=>?_⟩⟩
 obtain⟨⟨a,b,c⟩,rfl,_,q⟩:=h
 have q':=q _ rfl
 dsimp only[FP]at q'
 walk_at "go"
 by_cases h1:a=c
 ·by_cases h2:b=0
  ·rw[if_pos ⟨h1,h2⟩]at q'
   simp only[decide_eq_true h1,decide_eq_true h2,if_true]
   walk_at "rd"
   exact⟨Ao (by decide),q'⟩
  ·rw[if_neg (fun z=>h2 z.2)]at q'
   by_cases h3:b=a
   ·rw[if_pos ⟨h1,h3⟩]at q'
    simp only[decide_eq_true h1,decide_eq_false h2,decide_eq_true h3,if_true,Bool.false_eq_true,if_false]
    walk_at "rd"
    exact⟨Ao (by decide),q'⟩
   ·rw[if_neg (fun z=>h3 z.2)]at q'
    simp only[decide_eq_true h1,decide_eq_false h2,decide_eq_false h3,if_true,Bool.false_eq_true,if_false]
    walk_at "rd"
    exact⟨Ao (by decide),q'⟩
 ·rw[if_neg (fun z=>h1 z.1),if_neg (fun z=>h1 z.1)]at q'
  simp only[decide_eq_false h1,Bool.false_eq_true,if_false]
  walk_at "rd"
  exact⟨Ao (by decide),q'⟩
abbrev HW:DSp:=CN (fun f:I3=>[t3 f]) (fun _=>True) fun f=>.lst ((Dm f).map t4)
theorem Lq(T:Txt K mg)
  (dM:Pm P w K mg base 1 "turning_of_least" Ca ["form"] GX)
  (ao:Pm P w K mg base 1 "put_behind" Cg ["one","other"] Dz)
  : Pm P w K mg base 2 "turns_of_least" Cq ["form"] HW:=by
 obtain⟨f,fd,F⟩:=T.bV
 obtain⟨bN,fV,fW⟩:=T.jW
 refine⟨f,fd,F,F.fn.okD CQ (by walk_at "lE") fun cdv A outer s H E hr=>⟨_,(Ad (Aw 1 CQ.nd (Ag Af dM (hr.mono (by decide)) rfl (Aa (dv 0) Ac))) (Ad (MN 2 CQ.nd (Aa (Jr (v:=.ref bN) rfl fV rfl fW) Ac)) (Ad (Aw 3 CQ.nd (dv 1)) (Ad (HF PassesOwn.never (Gv hr.units (dv 3) (Jr (v:=.ref bN) rfl fV rfl fW)) (Ad (Mz 2 (dv 3)) (Ah (Aw 3 CQ.nd (Ag Af ao (hr.mono (by decide)) rfl (Aa (dv 3) (Aa (dv 1) Ac))))))) (Ah (Nx 2 (Av (dv 2)))))))),fun ds Q h=>?_⟩⟩
 obtain⟨f,rfl,_,q⟩:=h
 have q':=q _ rfl
 obtain⟨w0,w1,w2,w3⟩:=Abl f
 obtain⟨l2,l6⟩:=Qq f
 have e1:(Dm f).take 1=[(1,0,0,1)]:=by
  rw[List.take_succ,w0]
  rfl
 walk_at "go"
 refine Al f trivial ?_
 walk_at "rd"
 refine⟨Ao (by decide),HD (fun m ρ=>∃k t,k+m=(Dm f).length∧0<k∧(if k=(Dm f).length then some (1,0,0,1)else(Dm f)[k]?)=some t∧ρ=[some (.is (t3 f)),some (.is (t4 (FP f))),some (.own (((Dm f).take k).map t4)),some (.is (t4 t))]) ((Dm f).length-1) ⟨1,FP f,by omega,by omega,by rw[if_neg (by omega)];exact w1,by rw[e1];rfl⟩ ?_⟩
 rintro m _ ⟨k,t,hk,k0,ht,rfl⟩
 walk_at "rd"
 have hb:B4 2 (FP f):=T5 (List.mem_of_getElem? w1)
 by_cases hl:k=(Dm f).length
 ·rw[if_pos hl]at ht
  cases ht
  refine EY (by simp) ?_
  rw[hl,List.take_length]
  exact q'
 ·rw[if_neg hl]at ht
  have hlt:k<(Dm f).length:=by omega
  have hne:t≠(1,0,0,1):=fun z=>w2 k k0 hlt (by rw[ht,z])
  obtain⟨x,y,z,w⟩:=t
  refine ift ?_ ⟨by rw[List.length_take,Nat.min_eq_left (by omega)];exact Nat.lt_of_lt_of_le (by omega) (Ao (n:=7) (by decide)),Al ((x,y,z,w),FP f) ⟨(T5 (List.mem_of_getElem? ht)).le (by decide),hb.le (by decide)⟩ ?_⟩
  ·have ez:=Ady (s:=(x,y,z,w)) (t:=(1,0,0,1))
   rw[decide_eq_false hne]at ez
   simp only[Wy,Tn,Ug,RT,Bool.and_true]at ez
   rw[ez]
   rfl
  ·refine⟨m-1,by omega,k+1,_,by omega,by omega,w3 k k0 hlt _ ht,?_⟩
   rw[List.take_add_one,ht,Option.toList_some,List.map_append,List.map_cons,List.map_nil]
def Jc(f:I3)(u:I4):List (List Int):=Gb ((Dm (mov f u)).map fun t=>r4 (Aj (Aj u t) (Ar u)))
abbrev Ml:DSp:=spec (fun f:I3=>[t3 f]) (fun f=>B3 1500 f∧Bs f) fun f d=>∃u:I4,det u=1∧BJ (mov f u)∧B4 5000 u∧d=.lst ((Jc f u).map Cj)
theorem Ud(T:Txt K mg)
  (fX:Pm P w K mg base 5 "settled" Gh ["form"] KN)
  (lY:Pm P w K mg base 3 "back" K6 ["turn"] Uc)
  (ao:Pm P w K mg base 1 "put_behind" Cg ["one","other"] Dz)
  (fY:Pm P w K mg base 2 "turns_of_least" Cq ["form"] HW)
  : Pm P w K mg base 6 "own_turns" Ea ["form"] Ml:=by
 obtain⟨f,fd,F⟩:=T.gG
 refine⟨f,fd,F,F.fn.okD G9 (by walk_at "lE") fun cdv A outer s H E hr=>⟨_,(Ad (Aw 1 G9.nd (Ag Af fX (hr.mono (by decide)) rfl (Aa (dv 0) Ac))) (Ad (Aw 2 G9.nd (Ae (dv 1) Ab)) (Ad (Aw 3 G9.nd (Ag Af lY (hr.mono (by decide)) rfl (Aa (dv 2) Ac))) (Ah (Av (Qz T.aM (Aa (Uz (Gj (sc:=Ai Ea) (NN:=["form","lowest","there","home"]) (x:="turn") (N:=["home","there"]) (sl:=[3,2]) rfl rfl (by decide +kernel)) rfl (GP (Ag Af fY (hr.mono (by decide)) rfl (Aa (Ae (dv 1) Ab) Ac))) (fun cl C s0 H0 ex=>(Ag Af ao (hr.mono (by decide)) rfl (Aa (Ag Af ao (hr.mono (by decide)) rfl (Aa (dv 2) (Aa (dv 0) Ac))) (Aa (dv 1) Ac))))) Ac))))))),fun ds Q h=>?_⟩⟩
 obtain⟨f,rfl,⟨hf,hw⟩,q⟩:=h
 walk_at "go"
 refine Bg f ⟨hf,hw⟩ ?_
 rintro _ ⟨u,rfl,du,Lu,bu,_⟩
 walk_at "rd"
 refine Al u ⟨bu.le (by decide),du⟩ ?_
 obtain⟨l2,l6⟩:=Qq (mov f u)
 refine Kl ((Dm (mov f u)).map t4) (fun d=>match d with
  |.tup [.int a,.int b,.int c,.int e]=>t4 (Aj (Aj u (a,b,c,e)) (Ar u))
  |_=>.non) (fun R hR=>?_) (by rw[List.length_map];exact Ao (by omega)) (Dr rfl (Dr rfl Fi)) (fun d hd R hR=>?_) ?_
 ·walk_at "rd"
  exact Al (mov f u) trivial hR
 ·obtain⟨t,ht,rfl⟩:=List.mem_map.mp hd
  unfold inner
  walk_at "rd"
  have bt:=T5 ht
  refine Al (u,t) ⟨bu.le (by decide),bt.le (by decide)⟩ ?_
  exact Al (Aj u t,Ar u) ⟨(bu.then bt).le (by decide),bu.back.le (by decide)⟩ hR
 ·refine⟨(Dm (mov f u)).map fun t=>r4 (Aj (Aj u t) (Ar u)),?_,by rw[List.length_map];omega,fun r hr=>?_,q _ ⟨u,du,Lu,bu,rfl⟩⟩
  ·rw[List.map_map,List.map_map]
   rfl
  ·obtain⟨t,_,rfl⟩:=List.mem_map.mp hr
   simp[r4]
abbrev IK:DSp:=CN (fun p:I2=>[.int p.1,.int p.2]) (fun p=>p.1≤p.2) fun _=>.non
theorem M7(T:Txt K mg)
  : Pm P w K mg base 1 "check_at_most" Cy ["number","most"] IK:=by
 obtain⟨f,fd,F⟩:=T.cC
 refine⟨f,fd,F,F.fn.okD Nq (by walk_at "lE") fun cdv A outer s H E hr=>⟨_,(Ah (Cm (R5 (dv 0) (dv 1)) (Ah HB) Bk)),fun ds Q h=>?_⟩⟩
 obtain⟨⟨n,m⟩,rfl,h0,q⟩:=h
 have h0:n≤m:=h0
 walk_at "go"
 exact EY (decide_eq_false (by omega)) (q _ rfl)
abbrev GQ:DSp:=CN (fun f:I3=>[t3 f]) (fun f=>B3 1500 f∧Sad f) fun _=>.non
abbrev JK:DSp:=CN (fun p:I3×Int=>[t3 p.1,.int p.2]) (fun p=>B3 20000 p.1) fun p=>.bl (decide (Level p.1 p.2))
theorem Oi(T:Txt K mg)
  (gU:Pm P w K mg base 1 "check_at_most" Cy ["number","most"] IK)
  (bZ:Pm P w K mg base 3 "shape" G7 ["form"] J5)
  (aC:Pm P w K mg base 1 "measure" Dh ["form"] Fg)
  : Pm P w K mg base 4 "check_saddle" Cu ["form"] GQ:=by
 obtain⟨f,fd,F⟩:=T.cM
 obtain⟨cR,aP⟩:=T.aP
 refine⟨f,fd,F,F.fn.okD Og (by walk_at "lE") fun cdv A outer s H E hr=>⟨_,(Ad (Cm (Gv hr.units (Ag Af bZ (hr.mono (by decide)) rfl (Aa (dv 0) Ac)) JM) (Ah HB) Bk) (Ah (Gs (Ag Af gU (hr.mono (by decide)) rfl (Aa (Ag Af aC (hr.mono (by decide)) rfl (Aa (dv 0) Ac)) (Aa (Jr (v:=.int (4000)) (d:=.int (4000)) rfl aP ⟨_,rfl⟩ (fun _=>Bh.mpr rfl)) Ac)))))),fun ds Q h=>?_⟩⟩
 obtain⟨f,rfl,⟨hb,hs⟩,q⟩:=h
 have hs:Sad f:=hs
 have nb:Dt.flat 8 (.str "saddle")=true:=by rw[Le];decide +kernel
 walk_at "go"
 refine Bg f hb ?_
 rintro _ hw
 have h0:=hs.pos
 cases hw with
 |flat z=>exact absurd z hs.no
 |bowl _ z _=>exact absurd h0 z
 |dome _ z _=>exact absurd h0 z
 | saddle _ _ =>
  refine⟨⟨nb,nb⟩,ifn (by rw[Oc];rfl) (Al f (hb.le (by decide)) (Al (meas f,4000) hs.most (q _ rfl)))⟩
theorem Oj(T:Txt K mg)
  : Pm P w K mg base 1 "stands_level" Dk ["form","far"] JK:=by
 obtain⟨f,fd,F⟩:=T.cN
 refine⟨f,fd,F,F.fn.okD JD (by walk_at "lE") fun cdv A outer s H E hr=>⟨_,(Ad (Aw 2 JD.nd (Ae (dv 0) Ab)) (Ah (Av (XM (Wb VG Ob Fe Fe Ab (dv 2) (dv 1)) (Tf (Wb VG Ob Fe Fe (Cd (dv 1) (dv 2)) (Ak Ab (MF T.cQ (Aa (Ae (dv 0) Ab) Ac))) (Bl (dv 1) (dv 2)))))))),fun ds Q h=>?_⟩⟩
 obtain⟨⟨⟨a,b,c⟩,far⟩,rfl,hb,q⟩:=h
 have q':=q _ rfl
 obtain⟨ha,_,_⟩:=(show B3 20000 (a,b,c)from hb)
 have ha:Bt 20000 a:=ha
 have two:Bt 2 2:=Bt.au (by decide)
 have ha':Bt 20000 (if a<0 then -a else a):=by split<;>first|exact ha.neg|exact ha
 have q':Q (.bl (decide (Level (a,b,c) far))):=q'
 walk_at "go"
 have hL:Level (a,b,c) far↔(0<b∧b≤far)∧far-b<2*(if a<0 then -a else a)∧2*(if a<0 then -a else a)≤far+b:=Iff.rfl
 generalize (if a<0 then -a else a)=A at *
 by_cases h1:0<b
 ·refine ift (decide_eq_true h1) ?_
  by_cases h2:b≤far
  ·refine ift (decide_eq_true h2) ⟨two.aj ha',?_⟩
   by_cases h3:far-b<2*A
   ·refine ift (decide_eq_true h3) ?_
    have e:decide (Level (a,b,c) far)=decide (2*A≤far+b):=decide_eq_decide.mpr (hL.trans ⟨fun z=>z.2.2,fun z=>⟨⟨h1,h2⟩,h3,z⟩⟩)
    rw[e]at q'
    exact q'
   ·refine EY (decide_eq_false h3) ?_
    rw[decide_eq_false fun z=>h3 (hL.mp z).2.1]at q'
    exact q'
  ·refine EY (decide_eq_false h2) ?_
   rw[decide_eq_false fun z=>h2 (hL.mp z).1.2]at q'
   exact q'
 ·refine EY (decide_eq_false h1) ?_
  rw[decide_eq_false fun z=>h1 (hL.mp z).1.1]at q'
  exact q'
abbrev J7:DSp:=CN (fun p:I3×Int=>[t3 p.1,.int p.2]) (fun p=>B3 8000 p.1∧p.1.2.2≠0) fun p=>t4 (Cv p.1 p.2)
theorem Qo(T:Txt K mg)
  : Pm P w K mg base 1 "turn_behind" DK ["form","top"] J7:=by
 obtain⟨f,fd,F⟩:=T.c7
 refine⟨f,fd,F,F.fn.okD Fy (by walk_at "lE") fun cdv A outer s H E hr=>⟨_,(Ad (Aw 2 Fy.nd (Ae (dv 0) Ab)) (Ad (Aw 3 Fy.nd (Ae (dv 0) Ab)) (Ad (Aw 4 Fy.nd (Cd (dv 1) (Er (Bl (dv 1) (dv 2)) (Ak Ab (MF T.cQ (Aa (dv 3) Ac)))))) (Ah (Av (Bj (Aa Ab (Aa (Fv Ab) (Aa Ab (Aa (Ck (Bl (dv 2) (dv 4)) (Ak Ab (dv 3))) Ac)))))))))),fun ds Q h=>?_⟩⟩
 obtain⟨⟨⟨a,b,c⟩,top⟩,rfl,⟨⟨_,_,hc⟩,h0⟩,q⟩:=h
 have hc:Bt 8000 c:=hc
 have h0:c≠0:=h0
 have two:Bt 2 2:=Bt.au (by decide)
 have hac:2*ab c≠0:=by rcases Bd c with⟨_,e⟩|⟨_,e⟩<;>omega
 walk_at "go"
 exact⟨two.aj (Al8 hc),hac,two.aj hc,Bt.cA (two.mul hc) (by omega),Ao (by decide),q _ rfl⟩
abbrev Kw(f:I3)(t:I4):Dt:=.tup [t3 f,t4 t]
abbrev FW:DSp:=CN (fun p:I3×I4×Int=>[Kw p.1 p.2.1,.int p.2.2]) (fun p=>B3 8000 p.1∧p.1.2.2≠0∧B4 300000 p.2.1∧B4 5000 (Cv p.1 p.2.2)) fun p=>Kw (mov p.1 (Cv p.1 p.2.2)) (Aj p.2.1 (Cv p.1 p.2.2))
theorem Qu(T:Txt K mg)
  (jx:Pm P w K mg base 1 "turn_behind" DK ["form","top"] J7)
  (jY:Pm P w K mg base 3 "moved" Jj ["form","turn"] Qj)
  (ao:Pm P w K mg base 1 "put_behind" Cg ["one","other"] Dz)
  : Pm P w K mg base 4 "stop_behind" CZ ["stop","top"] FW:=by
 obtain⟨f,fd,F⟩:=T.dg
 refine⟨f,fd,F,F.fn.okD JR (by walk_at "lE") fun cdv A outer s H E hr=>⟨_,(Ad (Aw 2 JR.nd (Ag Af jx (hr.mono (by decide)) rfl (Aa (Ae (dv 0) Ab) (Aa (dv 1) Ac)))) (Ah (Av (Bj (Aa (Ag Af jY (hr.mono (by decide)) rfl (Aa (Ae (dv 0) Ab) (Aa (dv 2) Ac))) (Aa (Ag Af ao (hr.mono (by decide)) rfl (Aa (Ae (dv 0) Ab) (Aa (dv 2) Ac))) Ac)))))),fun ds Q h=>?_⟩⟩
 obtain⟨⟨f,t,top⟩,rfl,⟨hf,h0,ht,hb⟩,q⟩:=h
 walk_at "go"
 exact Al (f,top) ⟨hf,h0⟩ (Al (f,Cv f top) ⟨B3.le hf (by decide),B4.le hb (by decide),CP⟩ (Al (t,Cv f top) ⟨B4.le ht (by decide),B4.le hb (by decide)⟩ ⟨Ao (by decide),q _ rfl⟩))
def EI(far:Int)(f:I3):Nat→I4
 |0=>(1,0,0,1)
 |k+1=>Aj (EI far f k) (Cv (mov f (EI far f k)) (if far>ab (mov f (EI far f k)).2.2 then far else ab (mov f (EI far f k)).2.2))
def QF(far:Int)(f:I3)(t:I4):Prop:=∃k,t=EI far f k∧(∀i,i<k→¬Level (mov f (EI far f i)) far)∧Level (mov f (EI far f k)) far
theorem QF.uniq{far:Int}{f:I3}{t u:I4}(a:QF far f t)(b:QF far f u):t=u:=by
 obtain⟨k,rfl,n1,h1⟩:=a
 obtain⟨l,rfl,n2,h2⟩:=b
 rcases Nat.lt_trichotomy k l with z|z|z
 ·exact absurd h1 (n2 k z)
 ·rw[z]
 ·exact absurd h2 (n1 l z)
def Alk(f:I3)(d:Dt):Prop:=∃(t:I4)(far:Int),d=Kw (mov f t) t∧det t=1∧Sq (meas f) far∧Level (mov f t) far∧B4 7600 t∧QF far f t
abbrev V9:DSp:=spec (fun f:I3=>[t3 f]) (fun f=>B3 1500 f∧Sad f) Alk
theorem Ww{f:I3}(S:Sad f):0≤meas f∧Bt 4000 (meas f):=by
 have:=S.pos
 have:=S.most
 exact⟨by omega,Bt.le (n:=13) (Bt.of (by omega) (by omega)) (by decide)⟩
theorem Ac1(T:Txt K mg)
  (bB:Pm P w K mg base 4 "check_saddle" Cu ["form"] GQ)
  (dJ:Pm P w K mg base 1 "root" Jz ["number"] Ms)
  (aC:Pm P w K mg base 1 "measure" Dh ["form"] Fg)
  (iH:Pm P w K mg base 1 "stands_level" Dk ["form","far"] JK)
  (aW:Pm P w K mg base 4 "stop_behind" CZ ["stop","top"] FW)
  : Pm P w K mg base 5 "eased" Kc ["form"] V9:=by
 obtain⟨f,fd,F⟩:=T.nP
 obtain⟨bN,fV,fW⟩:=T.jW
 refine⟨f,fd,F,F.fn.okD Li (by walk_at "lE") fun cdv A outer s H E hr=>⟨_,(Ad (Gs (Ag Af bB (hr.mono (by decide)) rfl (Aa (dv 0) Ac))) (Ad (Aw 1 Li.nd (Ag Af dJ (hr.mono (by decide)) rfl (Aa (Ag Af aC (hr.mono (by decide)) rfl (Aa (dv 0) Ac)) Ac))) (Ad (Aw 2 Li.nd (Bj (Aa (dv 0) (Aa (Jr (v:=.ref bN) rfl fV rfl fW) Ac)))) (Ad (HF PassesOwn.never (Ig (Il (Ag Af iH (hr.mono (by decide)) rfl (Aa (Ae (dv 2) Ab) (Aa (dv 1) Ac))))) (Ah (Aw 2 Li.nd (Ag Af aW (hr.mono (by decide)) rfl (Aa (dv 2) (Aa (Adx T.iD (Aa (MF T.cQ (Aa (Ae (Ae (dv 2) Ab) Ab) Ac)) (Aa (dv 1) Ac))) Ac)))))) (Ah (Av (dv 2))))))),fun ds Q h=>?_⟩⟩
 obtain⟨f,rfl,⟨hb,hS⟩,q⟩:=h
 have hS:Sad f:=hS
 have hb:B3 1500 f:=hb
 walk_at "go"
 refine Al f ⟨hb,hS⟩ (Al f (hb.le (by decide)) (Bg (meas f) (Ww hS) ?_))
 rintro _ ⟨far,rfl,hr',hfb⟩
 walk_at "rd"
 refine⟨Ao (by decide),?_⟩
 refine HD (fun m ρ=>∃k,(∀i,i<k→¬Level (mov f (EI far f i)) far)∧ρ=[some (.is (t3 f)),some (.is (.int far)),some (.is (Kw (mov f (EI far f k)) (EI far f k)))]∧Rf 1500 far f (EI far f k)∧m=eM far (mov f (EI far f k))) _ ⟨0,fun _ h=>absurd h (by omega),by show _=[_,_,some (En.is (Kw (mov f (1,0,0,1)) (1,0,0,1)))];rw[Ec],Rf.start (by decide) hb,rfl⟩ ?_
 rintro m _ ⟨k,nl,rfl,hI,rfl⟩
 have ek:EI far f (k+1)=Aj (EI far f k) (Cv (mov f (EI far f k)) (if far>ab (mov f (EI far f k)).2.2 then far else ab (mov f (EI far f k)).2.2)):=rfl
 obtain⟨t,et⟩:∃t,t=EI far f k:=⟨_,rfl⟩
 rw[←et]at hI ek ⊢
 have hd:=hI.1
 have hg:=hI.2.1
 have ht:=hI.b4
 walk_at "rd"
 refine Al (mov f t,far) (hg.le (by decide)) ?_
 walk_at "rd"
 by_cases hL:Level (mov f t) far
 ·exact EY (by rw[decide_eq_true hL];rfl) (q _ ⟨t,far,rfl,hd,hr',hL,ht.le (by decide),k,et,nl,by rw[←et];exact hL⟩)
 ·refine ift (by rw[decide_eq_false hL];rfl) ?_
  have hst:=Abb (by decide) hS hr' hI hL
  refine Al (mov f t,t,_) ⟨hg.le (by decide),Jb (hS.mov hd),ht.le (by decide),hst.2.2.le (by decide)⟩ ?_
  dsimp only
  rw[Bc]
  refine⟨_,hst.2.1,k+1,fun i hi=>?_,by rw[ek];rfl,by rw[ek];exact hst.1,by rw[ek]⟩
  rcases Nat.lt_or_ge i k with z|z
  ·exact nl i z
  ·rw[show i=k by omega,←et];exact hL
structure Ny(f:I3)(t0:I4)(far:Int)(N:Nat):Prop where
 d:det t0=1
 r:Sq (meas f) far
 v:Lv far (mov f t0)
 b:B4 7600 t0
 n:0<N
 m:N≤8128
 e:rF far N (mov f t0)=mov f t0
 l:∀j,0<j→j<N→rF far j (mov f t0)≠mov f t0
 a:QF far f t0
abbrev GD(f:I3)(t0:I4)(far:Int)(i:Nat):Dt:=Kw (rF far i (mov f t0)) (Aj t0 (rT far i (mov f t0)))
theorem Ny.bt{f:I3}{t0:I4}{far:Int}{N:Nat}(R:Ny f t0 far N)(i:Nat)(h:i≤N):B4 90000 (Aj t0 (rT far i (mov f t0))):=by
 have:=R.m
 exact(B4.then R.b (AgC i R.v)).le (by omega)
abbrev JN:DSp:=spec (fun f:I3=>[t3 f]) (fun f=>B3 1500 f∧Sad f) fun f d=>∃t0 far N,Ny f t0 far N∧d=.lst ((List.range (N+1)).map (GD f t0 far))
theorem AfK{n:Nat}(h:n≤9000):n<PySem.sizeLine:=by unfold PySem.sizeLine;omega
theorem Pa(T:Txt K mg)
  (dJ:Pm P w K mg base 1 "root" Jz ["number"] Ms)
  (qb:Pm P w K mg base 5 "eased" Kc ["form"] V9)
  (aW:Pm P w K mg base 4 "stop_behind" CZ ["stop","top"] FW)
  (aC:Pm P w K mg base 1 "measure" Dh ["form"] Fg)
  : Pm P w K mg base 6 "stops_round" DN ["form"] JN:=by
 obtain⟨f,fd,F⟩:=T.dh
 refine⟨f,fd,F,F.fn.okD Df (by walk_at "lE") fun cdv A outer s H E hr=>⟨_,(Ad (Aw 1 Df.nd (Ag Af dJ (hr.mono (by decide)) rfl (Aa (Ag Af aC (hr.mono (by decide)) rfl (Aa (dv 0) Ac)) Ac))) (Ad (Aw 2 Df.nd (Ag Af qb (hr.mono (by decide)) rfl (Aa (dv 0) Ac))) (Ad (MN 3 Df.nd (Aa (dv 2) Ac)) (Ad (Aw 4 Df.nd (Ag Af aW (hr.mono (by decide)) rfl (Aa (dv 2) (Aa (dv 1) Ac)))) (Ad (HF PassesOwn.never (Gv hr.units (Ae (dv 4) Ab) (Ae (dv 2) Ab)) (Ad (Mz 3 (dv 4)) (Ah (Aw 4 Df.nd (Ag Af aW (hr.mono (by decide)) rfl (Aa (dv 4) (Aa (dv 1) Ac))))))) (Ad (Mz 3 (dv 4)) (Ah (Nx 3 (Av (dv 3)))))))))),fun ds Q h=>?_⟩⟩
 obtain⟨f,rfl,⟨hb,hS⟩,q⟩:=h
 have hS:Sad f:=hS
 have hb:B3 1500 f:=hb
 walk_at "go"
 refine Al f (hb.le (by decide)) (Bg (meas f) (Ww hS) ?_)
 rintro _ ⟨far,rfl,hr',hfb⟩
 refine Bg f ⟨hb,hS⟩ ?_
 rintro _ ⟨t0,bC,rfl,dt,hs,hL,bt,ea⟩
 obtain rfl:=hs.uniq hr'
 have hv:Lv bC (mov f t0):=⟨hS.mov dt,by rw[Bu dt];exact hs,hL⟩
 obtain⟨N,n0,nm,ne,nl⟩:=WM hv
 have R:Ny f t0 bC N:=⟨dt,hs,hv,bt,n0,nm,ne,nl,ea⟩
 walk_at "rd"
 refine⟨Ao (by decide),?_⟩
 have stp:∀{Q:Dt→Prop} (i:Nat),i≤N→Q (GD f t0 bC (i+1))→FW [GD f t0 bC i,.int bC] Q:=fun{Q} i hi h=>by
  have hi':=Lv.rF i hv
  refine Al (rF bC i (mov f t0),Aj t0 (rT bC i (mov f t0)),bC) ⟨(Abs hi'.S hi'.r hi'.L).le (by decide),Jb hi'.S,(R.bt i hi).le (by decide),(Ql (ZJ hi') (by decide)).le (by decide)⟩ ?_
  have h:Q (Kw (rF bC (i+1) (mov f t0)) (Aj t0 (rT bC (i+1) (mov f t0)))):=h
  rw[ZG,Aai,←then_assoc]at h
  exact h
 have e0:Kw (mov f t0) t0=GD f t0 bC 0:=by
  show Kw (mov f t0) t0=Kw (mov f t0) (Aj t0 (1,0,0,1))
  rw[Dj]
 rw[e0]
 refine stp 0 (by omega) ?_
 have last:(List.range (N+1)).map (GD f t0 bC)=(List.range N).map (GD f t0 bC)++[GD f t0 bC N]:=by rw[List.range_succ,List.map_append];rfl
 refine HD (fun m ρ=>∃i:Nat,1≤i∧i≤N∧ρ=[some (.is (t3 f)),some (.is (.int bC)),some (.is (GD f t0 bC 0)),some (.own ((List.range i).map (GD f t0 bC))),some (.is (GD f t0 bC i))]∧m=N-i) _ ⟨1,by omega,by omega,rfl,rfl⟩ ?_
 rintro m _ ⟨i,i1,iN,rfl,rfl⟩
 walk_at "rd"
 have hl:(List.range i).length<sizeLine:=by rw[List.length_range];exact AfK (by omega)
 refine GR (fun hw=>?_) (fun hw=>?_)
 ·have hi:i<N:=by
   rcases Nat.lt_or_ge i N with z|z
   ·exact z
   ·exfalso
    have:i=N:=by omega
    subst this
    rw[ne]at hw
    simp[rF]at hw
  refine⟨hl,stp i iN ⟨N-(i+1),by omega,i+1,by omega,by omega,?_,rfl⟩⟩
  rw[List.range_succ,List.map_append];rfl
 ·have hi:i=N:=by
   rcases Nat.lt_or_ge i N with z|z
   ·exfalso
    refine nl i (by omega) z ?_
    have hw:rF bC i (mov f t0)=rF bC 0 (mov f t0):=by
     generalize rF bC i (mov f t0)=g at *
     generalize rF bC 0 (mov f t0)=g' at *
     obtain⟨a,b,c⟩:=g
     obtain⟨a',b',c'⟩:=g'
     simp at hw
     obtain⟨h1,h2,h3⟩:=hw
     rw[h1,h2,h3]
    exact hw
   ·omega
  subst hi
  refine⟨hl,q _ ⟨t0,bC,i,R,?_⟩⟩
  rw[last]
def Ou(f:I3):List Int:=[f.1,f.2.1,f.2.2]
def Ah9(t:I4):List Int:=[t.1,t.2.1,t.2.2.1,t.2.2.2]
def An2(f:I3)(t0:I4)(far:Int)(N:Nat):List (List Int×List Int):=(List.range (N+1)).map fun i=>(Ou (rF far i (mov f t0)),Ah9 (Aj t0 (rT far i (mov f t0))))
def Low(f:I3)(d:Dt):Prop:=∃t0 far N j,Ny f t0 far N∧j≤N∧(∀i,i≤N→HT.lexLt (Ou (rF far i (mov f t0))) (Ou (rF far j (mov f t0)))=false)∧d=GD f t0 far j∧j=K3 (An2 f t0 far N)
abbrev Qp:DSp:=spec (fun f:I3=>[t3 f]) (fun f=>B3 1500 f∧Sad f) Low
theorem Pb(bt:Nat→Nat→Bool):∀k,argBest bt k≤k
 |0=>Nat.le_refl _
 | k+1=>by
  have:=Pb bt k
  unfold argBest
  split<;>omega
theorem Ij(bt:Nat→Nat→Bool)(ir:∀i,bt i i=false)(tr:∀a b c,bt a b=true→bt b c=true→bt a c=true):∀k j,j≤k→bt j (argBest bt k)=false
 | 0,j,h=>by
  have:j=0:=by omega
  subst this
  exact ir 0
 | k+1,j,h=>by
  unfold argBest
  split
  ·rename_i hb
   rcases Nat.lt_or_ge j (k+1)with z|z
   ·cases q:bt j (k+1)with
    |false=>rfl
    | true =>
     have:=Ij bt ir tr k j (by omega)
     rw[tr _ _ _ q hb]at this
     cases this
   ·have:j=k+1:=by omega
    subst this
    exact ir _
  ·rename_i hb
   rcases Nat.lt_or_ge j (k+1)with z|z
   ·exact Ij bt ir tr k j (by omega)
   ·have:j=k+1:=by omega
    subst this
    simpa using hb
theorem Xx:∀a b c:List Int,HT.lexLt a b=true→HT.lexLt b c=true→HT.lexLt a c=true
 | [],[],_,h,_=>by cases h
 | [],_::_,[],_,h=>by cases h
 | [],_::_,_::_,_,_=>rfl
 |_::_,[],_,h,_=>by cases h
 |_::_,_::_,[],_,h=>by cases h
 | x::a,y::b,z::c,h1,h2=>by
  rw[HT.Hs]at h1 h2 ⊢
  by_cases e1:x=y
  ·subst e1
   rw[if_pos rfl]at h1
   by_cases e2:x=z
   ·subst e2
    rw[if_pos rfl]at h2 ⊢
    exact Xx a b c h1 h2
   ·rw[if_neg e2]at h2 ⊢
    exact h2
  ·rw[if_neg e1]at h1
   have h1:=of_decide_eq_true h1
   by_cases e2:y=z
   ·subst e2
    rw[if_neg e1]
    exact decide_eq_true h1
   ·rw[if_neg e2]at h2
    have h2:=of_decide_eq_true h2
    rw[if_neg (by omega)]
    exact decide_eq_true (by omega)
theorem Af8(a b c:List Int×List Int)(h1:FZ a b=true)(h2:FZ b c=true):FZ a c=true:=by
 unfold FZ at *
 by_cases e1:a.1=b.1
 ·rw[if_pos e1]at h1
  by_cases e2:b.1=c.1
  ·rw[if_pos e2]at h2
   rw[if_pos (e1.trans e2)]
   exact Xx _ _ _ h1 h2
  ·rw[if_neg e2]at h2
   rw[if_neg (by rw[e1];exact e2),e1]
   exact h2
 ·rw[if_neg e1]at h1
  by_cases e2:b.1=c.1
  ·rw[←e2,if_neg e1]
   exact h1
  ·rw[if_neg e2]at h2
   have h3:=Xx _ _ _ h1 h2
   by_cases e3:a.1=c.1
   ·rw[e3,Mf]at h3
    cases h3
   ·rw[if_neg e3]
    exact h3
theorem Acw(a:List Int×List Int):FZ a a=false:=by
 unfold FZ
 rw[if_pos rfl,Mf]
theorem AcB{a b:List Int×List Int}(h:FZ a b=false):HT.lexLt a.1 b.1=false:=by
 unfold FZ at h
 by_cases e:a.1=b.1
 ·rw[e];exact Mf _
 ·rw[if_neg e]at h;exact h
theorem X7(T:Txt K mg)
  (bB:Pm P w K mg base 4 "check_saddle" Cu ["form"] GQ)
  (jy:Pm P w K mg base 6 "stops_round" DN ["form"] JN)
  : Pm P w K mg base 7 "lowered" Hh ["form"] Qp:=by
 obtain⟨f,fd,F⟩:=T.jK
 refine⟨f,fd,F,F.fn.okD Xu (by walk_at "lE") fun cdv A outer s H E hr=>⟨_,(Ad (Gs (Ag Af bB (hr.mono (by decide)) rfl (Aa (dv 0) Ac))) (Ah (Av (Agx T.jM (Ais hr.units) (Aa (Ag Af jy (hr.mono (by decide)) rfl (Aa (dv 0) Ac)) Ac))))),fun ds Q h=>?_⟩⟩
 obtain⟨f,rfl,⟨hb,hS⟩,q⟩:=h
 walk_at "go"
 refine Al f ⟨hb,hS⟩ (Bg f ⟨hb,hS⟩ ?_)
 rintro _ ⟨t0,far,N,R,rfl⟩
 have nm:=R.m
 let ps:List (List Int×List Int):=(List.range (N+1)).map fun i=>(Ou (rF far i (mov f t0)),Ah9 (Aj t0 (rT far i (mov f t0))))
 have lp:ps.length=N+1:=by show((List.range (N+1)).map _).length=_;rw[List.length_map,List.length_range]
 have ep:(List.range (N+1)).map (GD f t0 far)=ps.map Ni:=by
  show _=((List.range (N+1)).map _).map Ni
  rw[List.map_map]
  rfl
 have at':∀i,i≤N→ps.getD i ([],[])=(Ou (rF far i (mov f t0)),Ah9 (Aj t0 (rT far i (mov f t0)))):=fun i hi=>by
  show((List.range (N+1)).map _).getD i _=_
  simp[List.getD,show i<N+1 by omega]
 have kl:K3 ps≤N:=by
  have:=Pb (fun i j=>FZ (ps.getD i ([],[])) (ps.getD j ([],[]))) (ps.length-1)
  unfold K3
  omega
 have least:∀i,i≤N→FZ (ps.getD i ([],[])) (ps.getD (K3 ps) ([],[]))=false:=fun i hi =>
  Ij (fun i j=>FZ (ps.getD i ([],[])) (ps.getD j ([],[]))) (fun _=>Acw _) (fun _ _ _ h1 h2=>Af8 _ _ _ h1 h2) _ i (by omega)
 refine⟨ps,by rw[ep],by omega,by omega,q _ ⟨t0,far,N,K3 ps,R,kl,fun i hi=>?_,?_,rfl⟩⟩
 ·have:=AcB (least i hi)
  rw[at' i hi,at' _ kl]at this
  exact this
 ·rw[at' _ kl]
  rfl
abbrev Vj(c:Str)(f:I3)(d:Dt):Dt:=.obj c ["form","measure","lowest"] [t3 f,.int (meas f),d]
abbrev Nh:DIn:=SN (fun p:I3×Dt=>[t3 p.1,p.2]) (fun p=>B3 1500 p.1) fun p fds=>fds=[t3 p.1,.int (meas p.1),p.2]
abbrev WX:DIn:=SN (fun f:I3=>[t3 f]) (fun f=>B3 1500 f∧Bs f) fun f fds=>∃d,Mj f d∧fds=[t3 f,.int (meas f),d]
abbrev Qy:DIn:=SN (fun f:I3=>[t3 f]) (fun f=>B3 1500 f∧Sad f) fun f fds=>∃d,Low f d∧fds=[t3 f,.int (meas f),d]
theorem AaO(T:Txt K mg)
  (aC:Pm P w K mg base 1 "measure" Dh ["form"] Fg)
  : PmC P w K mg base 2 "Shape" ["form","measure","lowest"] Nh:=by
 obtain⟨g,fd,M,F,B⟩:=T.lB
 refine⟨g,fd,_,M,B,F.ok Aaw (fun vs H Q E ⟨x,C,dx,ys,F',ds,e,_,_,_,_,_,r,h⟩=>by obtain⟨p,ed,_⟩:=h;rw[e,List.length_cons,r.len,ed];rfl) fun cdv A outer s H vs Q E hr ⟨x,C,dx,ys,F',ds,e,hx,cl,no,xF,th,r,h⟩=>?_⟩
 subst e
 refine⟨_,Ada (dv 1) (Ag Af aC (hr.mono (by decide)) rfl (Aa (dv 1) Ac)) (dv 2) (by decide) (by decide) (by decide),mask [x] H,F',Jq ["self","form","lowest"] ds,x,C,dx,(fun fds:List Dt=>∀(ws:List V)(H':Hp),Same (mask [x] H) H'→H' x=some (.ins C dx (List.zip ["form","measure","lowest"] ws))→List.length ["form","measure","lowest"]=fds.length→RpL K (mask F' H') fds ws→Q .non H'),La xF th r,xF,Cz (by simp),rfl,hx,cl,no,?_,fun fds w ws H' s1 h1 h2 h3=>w ws H' s1 h1 h2 h3⟩
 revert h
 generalize (fun fds:List Dt=>∀(ws:List V)(H':Hp),Same (mask [x] H) H'→H' x=some (.ins C dx (List.zip ["form","measure","lowest"] ws))→List.length ["form","measure","lowest"]=fds.length→RpL K (mask F' H') fds ws→Q .non H')=S
 intro h
 obtain⟨⟨f,l⟩,rfl,hb,hq⟩:=h
 have hb:B3 1500 f:=hb
 have e:Jq ["self","form","lowest"] [t3 f,l]=[none,some (.is (t3 f)),some (.is l)]:=rfl
 dsimp only
 rw[e]
 walk_at "rd"
 exact Al f (hb.le (by decide)) (hq _ rfl)
theorem AcU(T:Txt K mg)
  (iI:PmC P w K mg base 2 "Shape" ["form","measure","lowest"] Nh)
  (fX:Pm P w K mg base 5 "settled" Gh ["form"] KN)
  : PmI P w K mg base 6 "Bowl" ["form","measure","lowest"] WX:=by
 obtain⟨C0,f,fd,M,F,B⟩:=T.o9
 obtain⟨gC,fdC,psC,MC,BC,GC⟩:=iI
 refine⟨C0,f,fd,_,M,B,F.ok Adp (fun vs H Q E ⟨x,C,dx,ys,F',ds,e,_,_,_,_,_,r,h⟩=>by obtain⟨p,ed,_⟩:=h;rw[e,List.length_cons,r.len,ed];rfl) fun cdv A outer s H vs Q E hr ⟨x,C,dx,ys,F',ds,e,hx,cl,no,xF,th,r,h⟩=>?_⟩
 subst e
 refine⟨_,WR Jg MC rfl GC BC (hr.mono (by decide)) (Aa (dv 1) (Aa (Ag Af fX (hr.mono (by decide)) rfl (Aa (dv 1) Ac)) Ac)),mask [x] H,F',Jq ["self","form"] ds,x,C,dx,(fun fds:List Dt=>∀(ws:List V)(H':Hp),Same (mask [x] H) H'→H' x=some (.ins C dx (List.zip ["form","measure","lowest"] ws))→List.length ["form","measure","lowest"]=fds.length→RpL K (mask F' H') fds ws→Q .non H'),La xF th r,xF,Cz (by simp),rfl,hx,cl,no,?_,fun fds w ws H' s1 h1 h2 h3=>w ws H' s1 h1 h2 h3⟩
 revert h
 generalize (fun fds:List Dt=>∀(ws:List V)(H':Hp),Same (mask [x] H) H'→H' x=some (.ins C dx (List.zip ["form","measure","lowest"] ws))→List.length ["form","measure","lowest"]=fds.length→RpL K (mask F' H') fds ws→Q .non H')=S
 intro h
 obtain⟨f,rfl,⟨hb,hw⟩,hq⟩:=h
 have e:Jq ["self","form"] [t3 f]=[none,some (.is (t3 f))]:=rfl
 rw[e]
 walk_at "rd"
 refine Bg f ⟨hb,hw⟩ fun d hd=>?_
 refine Ma (f,d) hb ?_
 rintro _ rfl
 exact hq _ ⟨d,hd,rfl⟩
theorem Yy(T:Txt K mg)
  (iI:PmC P w K mg base 2 "Shape" ["form","measure","lowest"] Nh)
  (oh:Pm P w K mg base 7 "lowered" Hh ["form"] Qp)
  : PmI P w K mg base 8 "Saddle" ["form","measure","lowest"] Qy:=by
 obtain⟨C0,f,fd,M,F,B⟩:=T.lu
 obtain⟨gC,fdC,psC,MC,BC,GC⟩:=iI
 refine⟨C0,f,fd,_,M,B,F.ok X3 (fun vs H Q E ⟨x,C,dx,ys,F',ds,e,_,_,_,_,_,r,h⟩=>by obtain⟨p,ed,_⟩:=h;rw[e,List.length_cons,r.len,ed];rfl) fun cdv A outer s H vs Q E hr ⟨x,C,dx,ys,F',ds,e,hx,cl,no,xF,th,r,h⟩=>?_⟩
 subst e
 refine⟨_,WR Jg MC rfl GC BC (hr.mono (by decide)) (Aa (dv 1) (Aa (Ag Af oh (hr.mono (by decide)) rfl (Aa (dv 1) Ac)) Ac)),mask [x] H,F',Jq ["self","form"] ds,x,C,dx,(fun fds:List Dt=>∀(ws:List V)(H':Hp),Same (mask [x] H) H'→H' x=some (.ins C dx (List.zip ["form","measure","lowest"] ws))→List.length ["form","measure","lowest"]=fds.length→RpL K (mask F' H') fds ws→Q .non H'),La xF th r,xF,Cz (by simp),rfl,hx,cl,no,?_,fun fds w ws H' s1 h1 h2 h3=>w ws H' s1 h1 h2 h3⟩
 revert h
 generalize (fun fds:List Dt=>∀(ws:List V)(H':Hp),Same (mask [x] H) H'→H' x=some (.ins C dx (List.zip ["form","measure","lowest"] ws))→List.length ["form","measure","lowest"]=fds.length→RpL K (mask F' H') fds ws→Q .non H')=S
 intro h
 obtain⟨f,rfl,⟨hb,hw⟩,hq⟩:=h
 have e:Jq ["self","form"] [t3 f]=[none,some (.is (t3 f))]:=rfl
 rw[e]
 walk_at "rd"
 refine Bg f ⟨hb,hw⟩ fun d hd=>?_
 refine Ma (f,d) hb ?_
 rintro _ rfl
 exact hq _ ⟨d,hd,rfl⟩
abbrev HX:DSp:=spec (fun f:I3=>[t3 f]) (fun f=>B3 1500 f∧(Bs f∨Sad f)) fun f d=>∃l,(Bs f∧Mj f l∧d=Vj "Bowl" f l)∨(Sad f∧Low f l∧d=Vj "Saddle" f l)
theorem Vi(T:Txt K mg)
  (qd:PmI P w K mg base 6 "Bowl" ["form","measure","lowest"] WX)
  (ou:PmI P w K mg base 8 "Saddle" ["form","measure","lowest"] Qy)
  (bZ:Pm P w K mg base 3 "shape" G7 ["form"] J5)
  : Pm P w K mg base 10 "shape_of" Ey ["form"] HX:=by
 obtain⟨f,fd,F⟩:=T.iw
 refine⟨f,fd,F,F.fn.okD U9 (by walk_at "lE") fun cdv A outer s H E hr=>⟨_,(Ad (Cm (HS hr.units (Ag Af bZ (hr.mono (by decide)) rfl (Aa (dv 0) Ac)) JM) (Ah (Av (VJ Jg qd (hr.mono (by decide)) rfl (Aa (dv 0) Ac)))) Bk) (Ah (Av (VJ Jg ou (hr.mono (by decide)) rfl (Aa (dv 0) Ac))))),fun ds Q h=>?_⟩⟩
 obtain⟨f,rfl,⟨hb,hw⟩,q⟩:=h
 have hb:B3 1500 f:=hb
 have hw:Bs f∨Sad f:=hw
 walk_at "go"
 refine Bg f hb ?_
 rintro _ hs
 have fb:∀x:Str,(PySem.PyData.str x).canLay0=true→Dt.flat 8 (.str x)=true:=fun x h=>by rw[Le];exact h
 have f1:Dt.flat 8 (.str "bowl")=true:=fb _ (by decide +kernel)
 have f2:Dt.flat 8 (.str "saddle")=true:=fb _ (by decide +kernel)
 have mkS:Sad f→SN (fun f:I3=>[t3 f]) (fun f=>B3 1500 f∧Sad f) (fun f fds=>∃d,Low f d∧fds=[t3 f,Dt.int (meas f),d]) [t3 f] fun fds=>Q (Dt.obj "Saddle" ["form","measure","lowest"] fds):=fun hS=>by
  refine Ma f ⟨hb,hS⟩ ?_
  rintro _ ⟨l,hl,rfl⟩
  exact q _ ⟨l,.inr ⟨hS,hl,rfl⟩⟩
 cases hs with
 | flat z =>
  rcases hw with hw|hw
  ·exact absurd z (Ln hw.2)
  ·exact absurd z hw.no
 | saddle _ z =>
  rcases hw with hw|hw
  ·have:=hw.2;omega
  ·exact⟨⟨f2,f1⟩,EY (by rw[Oc];rfl) (mkS hw)⟩
 | dome _ z1 z2 =>
  rcases hw with hw|hw
  ·exact absurd hw.1 z2
  ·exact absurd hw.pos z1
 | bowl _ z1 z2 =>
  rcases hw with hw|hw
  ·refine⟨⟨f1,f1⟩,ift (by rw[Oc];rfl) (Ma f ⟨hb,hw⟩ ?_)⟩
   rintro _ ⟨l,hl,rfl⟩
   exact q _ ⟨l,.inl ⟨hw,hl,rfl⟩⟩
  ·exact absurd hw.pos z1
def LF(f g:I3):Prop:=(Bs f∧∃t,det t=1∧BJ (mov f t)∧g=mov f t)∨(Sad f∧∃t0 far N j,Ny f t0 far N∧j≤N∧(∀i,i≤N→HT.lexLt (Ou (rF far i (mov f t0))) (Ou (rF far j (mov f t0)))=false)∧g=rF far j (mov f t0))
theorem AeO{f g:I3}(h1:HT.lexLt (Ou f) (Ou g)=false)(h2:HT.lexLt (Ou g) (Ou f)=false):f=g:=by
 obtain⟨x1,x2,x3⟩:=f
 obtain⟨y1,y2,y3⟩:=g
 simp only[Ou,HT.Hs,HT.Io]at h1 h2
 have e1:x1=y1:=by
  rcases Int.lt_trichotomy x1 y1 with z|z|z
  ·rw[if_neg (by omega)]at h1;simp at h1;omega
  ·exact z
  ·rw[if_neg (by omega)]at h2;simp at h2;omega
 subst e1
 rw[if_pos rfl]at h1 h2
 have e2:x2=y2:=by
  rcases Int.lt_trichotomy x2 y2 with z|z|z
  ·rw[if_neg (by omega)]at h1;simp at h1;omega
  ·exact z
  ·rw[if_neg (by omega)]at h2;simp at h2;omega
 subst e2
 rw[if_pos rfl]at h1 h2
 have e3:x3=y3:=by
  rcases Int.lt_trichotomy x3 y3 with z|z|z
  ·rw[if_neg (by omega)]at h1;simp at h1;omega
  ·exact z
  ·rw[if_neg (by omega)]at h2;simp at h2;omega
 rw[e3]
theorem K8{far:Int}{g:I3}{N:Nat}(e:rF far N g=g):∀q,rF far (N*q) g=g
 |0=>rfl
 |q+1=>by rw[Nat.mul_succ,GK,K8 e q,e]
theorem Zc{far:Int}{g:I3}{N:Nat}(e:rF far N g=g)(n0:0<N)(n:Nat):∃i,i≤N∧rF far n g=rF far i g:=by
 have h1:=Nat.mod_lt n n0
 have h2:=Nat.div_add_mod n N
 refine⟨n % N,by omega,?_⟩
 have:rF far (N*(n / N)+n % N) g=rF far (n % N) g:=by rw[GK,K8 e]
 rw[h2]at this
 exact this
theorem RK{far:Int}{g h:I3}{N m:Nat}(e:rF far N h=h)(n0:0<N)(k:rF far m h=g):∃j,rF far j g=h:=by
 refine⟨N*m-m,?_⟩
 rw[←k,←GK]
 have:m≤N*m:=Nat.le_mul_of_pos_left m n0
 rw[show m+(N*m-m)=N*m by omega,K8 e]
def FJ(f:I3)(l:Dt):Prop:=(Bs f∧Mj f l)∨(Sad f∧Low f l)
theorem FJ.uniq{f:I3}{l m:Dt}(A:FJ f l)(B:FJ f m):l=m:=by
 rcases A with⟨hb,t,rfl,_,_,_,a⟩|⟨hS,t0,far,N,j,R,_,_,rfl,ej⟩<;>rcases B with⟨hb',u,rfl,_,_,_,b⟩|⟨hS',t1,qI,N1,k,R1,_,_,rfl,ek⟩
 ·rw[a.uniq b]
 ·have:=hb.2;have:=hS'.pos;omega
 ·have:=hb'.2;have:=hS.pos;omega
 ·have ef:far=qI:=R.r.uniq R1.r
  subst ef
  have et:=R.a.uniq R1.a
  subst et
  have en:N=N1:=by
   rcases Nat.lt_trichotomy N N1 with z|z|z
   ·exact absurd R.e (R1.l N R.n z)
   ·exact z
   ·exact absurd R1.e (R.l N1 R1.n z)
  subst en
  rw[ej,ek]
theorem LF.same{f h g g':I3}{x:I4}(A:LF f g)(B:LF h g')(dx:det x=1)(ex:mov f x=h):g=g':=by
 have hm:meas h=meas f:=by rw[←ex,Bu dx]
 rcases A with⟨hb,t,dt,Lt,rfl⟩|⟨hS,t0,far,N,j,R,jl,lj,rfl⟩<;>rcases B with⟨hb',u,du,Lu,rfl⟩|⟨hS',t1,qI,N1,k,R1,kl,lk,rfl⟩
 ·have e:mov (mov f t) (Aj (Ar t) (Aj x u))=mov h u:=by rw[←Bc,Ci dt,←Bc,ex]
  have:=BJ.one Lt (t:=Aj (Ar t) (Aj x u)) (by rw[e];exact Lu) (by rw[BK,BK,CJ,dt,dx,du];rfl)
  rw[e]at this
  exact this.symm
 ·have:=hb.2;have:=hS'.pos;omega
 ·have:=hb'.2;have:=hS.pos;omega
 ·have ef:far=qI:=R.r.uniq (by rw[←hm];exact R1.r)
  subst ef
  have e1:mov (mov f t0) (Aj (Ar t0) (Aj x t1))=mov h t1:=by rw[←Bc,Ci R.d,←Bc,ex]
  have d1:det (Aj (Ar t0) (Aj x t1))=1:=by rw[BK,BK,CJ,R.d,dx,R1.d];rfl
  have en:N=N1:=(Aa1 R.v R1.v d1 e1 R.e R.l R1.e R1.l R.n R1.n).1
  subst en
  have hm:∃m,rF far m (mov f t0)=mov h t1:=by
   rcases Vn R.v R1.v d1 e1 with⟨m,s⟩|⟨m,s⟩
   ·exact⟨m,by rw[←JB,←s.mov,e1]⟩
   ·have e2:mov (mov h t1) (Ar (Aj (Ar t0) (Aj x t1)))=mov f t0:=by rw[←e1,Ci d1]
    exact RK (m:=m) R1.e R1.n (by rw[←JB,←s.mov,e2])
  obtain⟨m,hm⟩:=hm
  obtain⟨m',hm'⟩:=RK R.e R.n hm
  obtain⟨i1,a1,b1⟩:=Zc R.e R.n (m+k)
  obtain⟨i2,a2,b2⟩:=Zc R1.e R1.n (m'+j)
  have h1:=lj i1 a1
  have h2:=lk i2 a2
  rw[←b1,GK,hm]at h1
  rw[←b2,GK,hm']at h2
  exact(AeO h1 h2).symm
theorem SX{f:I3}{l:Dt}(h:FJ f l):∃(g:I3)(t:I4),l=.tup [t3 g,t4 t]∧LF f g∧det t=1∧mov f t=g∧B4 90000 t:=by
 rcases h with⟨hb,t,rfl,dt,L,bt,_⟩|⟨hS,t0,far,N,j,R,jl,lj,rfl,_⟩
 ·exact⟨_,t,rfl,.inl ⟨hb,t,dt,L,rfl⟩,dt,rfl,bt.le (by decide)⟩
 ·exact⟨_,_,rfl,.inr ⟨hS,t0,far,N,j,R,jl,lj,rfl⟩,by rw[BK,R.d,T8];rfl,by rw[←Bc,JB],R.bt j jl⟩
theorem ZQ{f:I3}{d:Dt}(h:∃l,(Bs f∧Mj f l∧d=Vj "Bowl" f l)∨(Sad f∧Low f l∧d=Vj "Saddle" f l)):∃(c:Str)(l:Dt),(c="Bowl"∨c="Saddle")∧d=Vj c f l∧FJ f l:=by
 obtain⟨l,⟨h1,h2,rfl⟩|⟨h1,h2,rfl⟩⟩:=h
 ·exact⟨_,l,.inl rfl,rfl,.inl ⟨h1,h2⟩⟩
 ·exact⟨_,l,.inr rfl,rfl,.inr ⟨h1,h2⟩⟩
theorem Adc{K:W.Frag}{mg:Str→Option Value}(T:Txt K mg){c:Str}(hc:c="Bowl"∨c="Saddle"):Oq K c "lowest":=by
 rcases hc with e|e<;>rw[e]
 ·exact T.cI
 ·exact T.bU
theorem Zw{K:W.Frag}{mg:Str→Option Value}(T:Txt K mg){c:Str}(hc:c="Bowl"∨c="Saddle"):Oq K c "measure":=by
 rcases hc with e|e<;>rw[e]
 ·exact T.cB
 ·exact T.bL
abbrev Ht:DSp:=CN (fun p:(I3×I4)×(I3×I4)=>[.tup [t3 p.1.1,t4 p.1.2],.tup [t3 p.2.1,t4 p.2.2]]) (fun p=>B4 90000 p.1.2∧B4 90000 p.2.2∧det p.2.2=1) fun p=>if p.1.1=p.2.1 then t4 (Aj p.1.2 (Ar p.2.2))else .non
theorem QM(T:Txt K mg)
  (ao:Pm P w K mg base 1 "put_behind" Cg ["one","other"] Dz)
  (lY:Pm P w K mg base 3 "back" K6 ["turn"] Uc)
  : Pm P w K mg base 4 "way_between" DQ ["one","other"] Ht:=by
 obtain⟨f,fd,F⟩:=T.dj
 refine⟨f,fd,F,F.fn.okD Qi (by walk_at "lE") fun cdv A outer s H E hr=>⟨_,(Ad (Cm (Gv hr.units (Ae (dv 0) Ab) (Ae (dv 1) Ab)) (Ah (Av Yo)) Bk) (Ah (Av (Ag Af ao (hr.mono (by decide)) rfl (Aa (Ae (dv 0) Ab) (Aa (Ag Af lY (hr.mono (by decide)) rfl (Aa (Ae (dv 1) Ab) Ac)) Ac)))))),fun ds Q h=>?_⟩⟩
 obtain⟨⟨⟨g,t⟩,h,u⟩,rfl,⟨bt,bu,du⟩,q⟩:=h
 have bt:B4 90000 t:=bt
 have bu:B4 90000 u:=bu
 have q':Q (if g=h then t4 (Aj t (Ar u))else .non):=q _ rfl
 walk_at "go"
 by_cases e:g=h
 ·rw[if_pos e]at q'
  subst e
  exact EY (by simp) (Al u ⟨bu.le (by decide),du⟩ (Al (t,Ar u) ⟨bt.le (by decide),bu.back.le (by decide)⟩ q'))
 ·rw[if_neg e]at q'
  refine ift ?_ q'
  rw[Bool.not_eq_true',Bool.eq_false_iff]
  intro w
  simp only[Bool.and_eq_true,decide_eq_true_eq]at w
  exact e (Prod.ext w.1 (Prod.ext w.2.1 w.2.2))
def JF(f:I3)(l:Dt)(h:I3)(d:Dt):Prop:=(¬(meas f=meas h∧(Bs h∨Sad h))∧d=.non)∨(meas f=meas h∧∃g t g' u,l=.tup [t3 g,t4 t]∧FJ h (.tup [t3 g',t4 u])∧d=if g=g' then t4 (Aj t (Ar u))else .non)
abbrev Qg:DSp:=spec (fun p:Str×I3×Dt×I3=>[Vj p.1 p.2.1 p.2.2.1,t3 p.2.2.2]) (fun p=>(p.1="Bowl"∨p.1="Saddle")∧FJ p.2.1 p.2.2.1∧B3 1500 p.2.2.2) fun p d=>JF p.2.1 p.2.2.1 p.2.2.2 d
theorem X6(T:Txt K mg)
  (aC:Pm P w K mg base 1 "measure" Dh ["form"] Fg)
  (bZ:Pm P w K mg base 3 "shape" G7 ["form"] J5)
  (jz:Pm P w K mg base 4 "way_between" DQ ["one","other"] Ht)
  (dN:Pm P w K mg base 10 "shape_of" Ey ["form"] HX)
  : PmM P w K mg base 11 ["Bowl","Saddle"] "way_to" Qg:=by
 obtain⟨g,fd,hm,kp,F,B⟩:=T.jF
 refine⟨g,fd,_,hm,kp,B,F.okD Ys (by walk_at "lE") fun cdv A outer s H E hr=>⟨_,(Ad (Cm (DW.dt (LC (Gv hr.units (Ag Af aC (hr.mono (by decide)) rfl (Aa (dv 1) Ac)) (O3 (dv 0))) (Jw (HS hr.units (Ag Af bZ (hr.mono (by decide)) rfl (Aa (dv 1) Ac)) JM)))) (Ah (Av Yo)) Bk) (Ah (Av (Ag Af jz (hr.mono (by decide)) rfl (Aa (O3 (dv 0)) (Aa (O3 (Ag Af dN (hr.mono (by decide)) rfl (Aa (dv 1) Ac))) Ac)))))),fun ds Q h=>?_⟩⟩
 obtain⟨⟨c,f,l,h⟩,rfl,⟨hc,hl,hh⟩,q⟩:=h
 have hh:B3 1500 h:=hh
 have hl:FJ f l:=hl
 have q:∀d,JF f l h d→Q d:=q
 obtain⟨g,t,rfl,L,dt,mt,bt⟩:=SX hl
 walk_at "go"
 refine Al h (hh.le (by decide)) ⟨Zw T hc,.int (meas f),rfl,⟨Ti,Ti⟩,?_⟩
 rw[RT]
 by_cases hm:meas h=meas f
 ·refine EY (by rw[decide_eq_true hm];rfl) (Bg h hh ?_)
  rintro _ hs
  have fk:Bs f∨Sad f:=hl.elim (fun z=>.inl z.1) fun z=>.inr z.1
  have nsq:¬KR (meas h):=by
   rw[hm]
   exact fk.elim (fun z=>Ln z.2) fun z=>z.no
  have f1:Dt.flat 8 (.str "dome")=true:=by rw[Le];decide +kernel
  have f2:Dt.flat 8 (.str "bowl")=true:=by rw[Le];decide +kernel
  have f3:Dt.flat 8 (.str "saddle")=true:=by rw[Le];decide +kernel
  have go:(Bs h∨Sad h)→Oq K c "lowest"∧∃v,List.lookup (Str.ofString "lowest") (List.zip [Str.ofString "form",Str.ofString "measure",Str.ofString "lowest"] [t3 f,Dt.int (meas f),Dt.tup [t3 g,t4 t]])=some v∧HX [t3 h] fun d=>match d with
    |.obj c ns ds=>Oq K c "lowest"∧∃v_1,List.lookup (Str.ofString "lowest") (ns.zip ds)=some v_1∧Ht [v,v_1] Q
    |_=>False:=fun kh=>by
   refine⟨Adc T hc,_,rfl,Bg h ⟨hh,kh⟩ ?_⟩
   rintro _ ho
   obtain⟨c2,l2,hc2,rfl,h2⟩:=ZQ ho
   obtain⟨g2,u,rfl,L2,du,mu,bu⟩:=SX h2
   exact⟨Adc T hc2,_,rfl,Al ((g,t),(g2,u)) ⟨bt,bu,du⟩ (q _ (.inr ⟨hm.symm,g,t,g2,u,rfl,h2,rfl⟩))⟩
  cases hs with
  |flat z=>exact absurd z nsq
  |saddle n z=>exact⟨⟨f3,f1⟩,EY (by rw[Oc];rfl) (go (.inr ⟨n,z,fk.elim (fun w=>by have:=w.2;omega) fun w=>by rw[hm];exact w.most⟩))⟩
  |dome _ z1 z2=>exact⟨⟨f1,f1⟩,ift (by rw[Oc];rfl) (q _ (.inl ⟨fun z=>z.2.elim (fun z=>z2 z.1) fun z=>z1 z.pos,rfl⟩))⟩
  |bowl n z1 z2=>exact⟨⟨f2,f1⟩,EY (by rw[Oc];rfl) (go (.inl ⟨z2,by have h0:¬meas h=0:=fun e=>n (by rw[e];exact⟨0,rfl⟩);omega⟩))⟩
 ·refine ift (by rw[decide_eq_false hm];rfl) (q _ (.inl ⟨fun e=>hm e.1.symm,rfl⟩))
theorem t3i{a b:I3}(h:t3 a=t3 b):a=b:=by
 have:=AgV (s:=a) (t:=b)
 rw[h]at this
 have h5:=AgV (s:=b) (t:=b)
 rw[decide_eq_true rfl]at h5
 rw[h5]at this
 exact of_decide_eq_true this.symm
theorem t4i{a b:I4}(h:t4 a=t4 b):a=b:=by
 have:=Ady (s:=a) (t:=b)
 rw[h]at this
 have h5:=Ady (s:=b) (t:=b)
 rw[decide_eq_true rfl]at h5
 rw[h5]at this
 exact of_decide_eq_true this.symm
theorem Iv{g h:I3}{t u:I4}(e:Dt.tup [t3 g,t4 t]=Dt.tup [t3 h,t4 u]):g=h∧t=u:=by
 have:=Dt.tup.inj e
 exact⟨t3i (List.cons.inj this).1,t4i (List.cons.inj (List.cons.inj this).2).1⟩
theorem AbN{f h:I3}{l d d':Dt}(w:JF f l h d)(w':JF f l h d'):d=d':=by
 rcases w with⟨n,rfl⟩|⟨hm,g,t,g',u,rfl,h2,rfl⟩<;>rcases w' with⟨n',rfl⟩|⟨hm',a,b,a',v,el,h3,rfl⟩
 ·rfl
 ·exact absurd ⟨hm',h3.elim (fun z=>.inl z.1) fun z=>.inr z.1⟩ n
 ·exact absurd ⟨hm,h2.elim (fun z=>.inl z.1) fun z=>.inr z.1⟩ n'
 ·have e1:=h2.uniq h3
  obtain⟨rfl,rfl⟩:=Iv el
  obtain⟨rfl,rfl⟩:=Iv e1
  rfl
abbrev Gy:DSp:=CN (fun p:I2=>[.int p.1,.int p.2]) (fun p=>(p.1.natAbs:Int)≤p.2) fun _=>.non
theorem Oo(T:Txt K mg)
  : Pm P w K mg base 1 "check_within" Cr ["number","most"] Gy:=by
 obtain⟨f,fd,F⟩:=T.cJ
 refine⟨f,fd,F,F.fn.okD Ov (by walk_at "lE") fun cdv A outer s H E hr=>⟨_,(Ah (Cm (R5 (MF T.cQ (Aa (dv 0) Ac)) (dv 1)) (Ah HB) Bk)),fun ds Q h=>?_⟩⟩
 obtain⟨⟨n,m⟩,rfl,h0,q⟩:=h
 have h0:(n.natAbs:Int)≤m:=h0
 walk_at "go"
 exact EY (decide_eq_false (by omega)) (q _ rfl)
theorem AkP:∀n:Nat,n<401→∃r,r<21∧r*r≤n∧n<(r+1)*(r+1):=by decide +kernel
theorem Ahe{n:Int}(h:n.natAbs≤400):∃r:Nat,r≤20∧Sq n.natAbs r:=by
 obtain⟨r,h1,h2,h3⟩:=AkP n.natAbs (by omega)
 exact⟨r,by omega,by omega,by exact_mod_cast h2,by exact_mod_cast h3⟩
theorem Yr{sl:List Nat}{ti:DTI}{tt:DTT}{te:DTE}{ρ:Bv}{Q:Dt→Prop}(h:ti ρ fun items=>HN sl (fun _ R=>R items) tt te ρ Q):HN sl ti tt te ρ Q:=h
theorem AkN{a:Nat}{ρ:Bv}{d:Dt}:inner [a] ρ d=[some (.is d),ρ[a]?.join]:=rfl
theorem Alj{a b:Nat}{ρ:Bv}{d:Dt}:inner [a,b] ρ d=[some (.is d),ρ[a]?.join,ρ[b]?.join]:=rfl
def okG(n:Int):Dt→Bool
 |.int g=>decide (n.fmod (g*g)=0)
 |_=>false
theorem VL(n:Int):∀r:Nat,(((ups 1 r).filter (okG n)).map id)=(Ik n r).map Dt.int
 |0=>rfl
 | r+1=>by
  have e:ups 1 (r+1)=ups 1 r++[.int (1+(r:Nat))]:=by
   unfold ups
   rw[List.range_succ,List.map_append]
   rfl
  rw[e,List.filter_append,List.map_append,VL n r,Ik,List.map_append]
  congr 1
  by_cases h:n.fmod ((1+(r:Int))*(1+(r:Int)))=0
  ·rw[if_pos h]
   simp[okG,h]
  ·rw[if_neg h]
   simp[okG,h]
abbrev DX:DSp:=spec (fun n:Int=>[.int n]) (fun n=>n.natAbs≤400) fun n d=>∃r:Nat,r≤20∧Sq n.natAbs r∧d=.lst ((Ik n r).map Dt.int)
theorem G6(T:Txt K mg)
  (dJ:Pm P w K mg base 1 "root" Jz ["number"] Ms)
  : Pm P w K mg base 2 "roots_of_square_divisors" Bf ["number"] DX:=by
 obtain⟨f,fd,F⟩:=T.aK
 refine⟨f,fd,F,F.fn.okD Hf (by walk_at "lE") fun cdv A outer s H E hr=>⟨_,(Ah (Av (Wc (Gj (sc:=Ai Bf) (NN:=["number"]) (x:="g") (N:=["number"]) (sl:=[0]) rfl rfl (by decide +kernel)) rfl (Aaj rfl T.bM (Aa Ab (Aa (Bl (Ag Af dJ (hr.mono (by decide)) rfl (Aa (MF T.cQ (Aa (dv 0) Ac)) Ac)) Ab) Ac))) (fun cl C s0 H0 ex=>(HS hr.units (Er (dv 1) (Ak (dv 0) (dv 0))) Ab)) (fun cl C s0 H0 ex=>(dv 0))))),fun ds Q h=>?_⟩⟩
 obtain⟨n,rfl,hn,q⟩:=h
 have hn:n.natAbs≤400:=hn
 obtain⟨r,hr,sr⟩:=Ahe hn
 walk_at "go"
 refine Jl (ups 1 r) (okG n) id (fun R hR=>?_) (by rw[O9];exact Ao (by omega)) (Dr rfl Fi) (fun d hd R hR=>?_) (fun d hd hp R hR=>hR) ?_
 ·walk_at "rd"
  have ea:(if n<0 then -n else n)=(n.natAbs:Int):=by split<;>omega
  rw[ea]
  refine Bg (n.natAbs:Int) ⟨by omega,Bt.of (by omega) (by omega)⟩ ?_
  rintro _ ⟨r',rfl,hr',_⟩
  have er:r'=(r:Int):=hr'.uniq sr
  subst er
  refine⟨⟨by omega,by omega⟩,?_⟩
  have e2:((r:Int)+1-1).toNat=r:=by omega
  rw[e2]
  exact hR
 ·obtain⟨k,hk⟩:=List.getElem?_of_mem hd
  obtain⟨hk,rfl⟩:=Ox hk
  rw[AkN]
  walk_at "rd"
  have b5:Bt 6 (1+(k:Int)):=Bt.of (by omega) (by omega)
  exact⟨b5.aj b5,fun z=>by
   have:=Int.mul_pos (show(0:Int)<1+(k:Int) by omega) (show(0:Int)<1+(k:Int) by omega)
   omega,hR⟩
 ·rw[VL]
  exact q _ ⟨r,hr,sr,rfl⟩
def okB(m D:Int):Dt→Bool
 |.int b=>decide ((b*b-D).fmod (4*m)=0)
 |_=>false
theorem Vy(m D:Int):∀n:Nat,(((ups 0 n).filter (okB m D)).map id)=(mids m D n).map Dt.int
 |0=>rfl
 | n+1=>by
  have e:ups 0 (n+1)=ups 0 n++[.int (0+(n:Nat))]:=by
   unfold ups
   rw[List.range_succ,List.map_append]
   rfl
  rw[e,List.filter_append,List.map_append,Vy m D n,mids,List.map_append,Int.zero_add]
  congr 1
  by_cases h:((n:Int)*n-D).fmod (4*m)=0
  ·rw[if_pos h]
   simp[okB,h]
  ·rw[if_neg h]
   simp[okB,h]
abbrev Y0:DSp:=CN (fun p:I2=>[.int p.1,.int p.2]) (fun p=>p.1≠0∧p.1.natAbs≤400∧Bt 1400 p.2) fun p=>.lst ((Fz p.1 p.2).map t3)
theorem AfF(T:Txt K mg)
  : Pm P w K mg base 1 "feet" JX ["first","far"] Y0:=by
 obtain⟨f,fd,F⟩:=T.pB
 refine⟨f,fd,F,F.fn.okD Zg (by walk_at "lE") fun cdv A outer s H E hr=>⟨_,(Ad (AdQ 2 Zg.nd (Gj (sc:=Ai JX) (NN:=["first","far","middles"]) (x:="b") (N:=["far","first"]) (sl:=[1,0]) rfl rfl (by decide +kernel)) rfl (Agy rfl T.bM (Aa (Ak Ab (MF T.cQ (Aa (dv 0) Ac))) Ac)) (fun cl C s0 H0 ex=>(HS hr.units (Er (Cd (Ak (dv 0) (dv 0)) (dv 1)) (Ak Ab (dv 2))) Ab)) (fun cl C s0 H0 ex=>(dv 0))) (Ah (Av (Uz (Gj (sc:=Ai JX) (NN:=["first","far","middles"]) (x:="b") (N:=["first","far"]) (sl:=[0,1]) rfl rfl (by decide +kernel)) rfl (GP (dv 2)) (fun cl C s0 H0 ex=>(Bj (Aa (dv 1) (Aa (dv 0) (Aa (Ck (Cd (Ak (dv 0) (dv 0)) (dv 2)) (Ak Ab (dv 1))) Ac))))))))),fun ds Q h=>?_⟩⟩
 obtain⟨⟨m,D⟩,rfl,⟨m0,m4,bD⟩,q⟩:=h
 have m0:m≠0:=m0
 have m4:m.natAbs≤400:=m4
 have bD:Bt 1400 D:=bD
 have q':Q (.lst ((Fz m D).map t3)):=q _ rfl
 have bm:Bt 9 m:=by unfold Bt;omega
 have two:Bt 2 2:=Bt.au (by decide)
 have four:Bt 3 4:=Bt.au (by decide)
 have lm:(mids m D (2*m.natAbs)).length≤800:=by
  have h1:∀n,(mids m D n).length≤n:=fun n=>by
   induction n with
   |zero=>exact Nat.le_refl _
   | succ n ih =>
    rw[mids,List.length_append]
    split<;>simp<;>omega
  have:=h1 (2*m.natAbs)
  omega
 walk_at "go"
 refine Jl (ups 0 (2*m.natAbs)) (okB m D) id (fun R hR=>?_) (by rw[O9];exact Ao (by omega)) (Dr rfl (Dr rfl Fi)) (fun d hd R hR=>?_) (fun d hd hp R hR=>hR) ?_
 ·walk_at "rd"
  have ea:(if m<0 then -m else m)=(m.natAbs:Int):=by split<;>omega
  rw[ea]
  refine⟨two.aj (show Bt 9 (m.natAbs:Int) by unfold Bt at *;omega),⟨by omega,by omega⟩,?_⟩
  have e2:(2*(m.natAbs:Int)).toNat=2*m.natAbs:=by omega
  rw[e2]
  exact hR
 ·obtain⟨k,hk⟩:=List.getElem?_of_mem hd
  obtain⟨hk,rfl⟩:=Ox hk
  rw[Alj]
  walk_at "rd"
  have bk:Bt 10 (0+(k:Int)):=Bt.of (by omega) (by omega)
  exact⟨bk.aj bk,four.aj bm,by omega,hR⟩
 ·rw[Vy]
  walk_at "rd"
  refine Kl ((mids m D (2*m.natAbs)).map Dt.int) (fun d=>match d with
   |.int b=>t3 (m,b,(b*b-D).fdiv (4*m))
   |_=>.non) (fun R hR=>hR) (by rw[List.length_map];exact Ao (by omega)) (Dr rfl (Dr rfl Fi)) (fun d hd R hR=>?_) ?_
  ·obtain⟨b,hb,rfl⟩:=List.mem_map.mp hd
   obtain⟨h1,h2,_⟩:=J6.mp hb
   rw[Alj]
   walk_at "rd"
   have bb:Bt 10 b:=Bt.of (by omega) (by omega)
   exact⟨bb.aj bb,four.aj bm,Bt.cA (four.mul bm) (by omega),Ao (by decide),hR⟩
  ·have e:((mids m D (2*m.natAbs)).map Dt.int).map (fun d=>match d with
    |.int b=>t3 (m,b,(b*b-D).fdiv (4*m))
    |_=>.non)=(Fz m D).map t3:=by
    unfold Fz
    rw[List.map_map,List.map_map]
    rfl
   rw[e]
   exact q'
noncomputable def Ow(f h:I3):Option I4:=open Classical in if w:∃y l,FJ f l∧JF f l h (t4 y)then some (Classical.choose w)else none
theorem YH{f h:I3}{l d:Dt}(hl:FJ f l)(w:JF f l h d):d=match Ow f h with
  |some y=>t4 y
  |none=>.non:=by
 unfold Ow
 split
 ·rename_i y e
  split at e
  ·rename_i z
   cases e
   obtain⟨l',h1,h2⟩:=Classical.choose_spec z
   obtain rfl:=hl.uniq h1
   exact AbN w h2
  ·cases e
 ·rename_i e
  split at e
  ·cases e
  ·rename_i z
   rcases w with⟨_,rfl⟩|⟨hm,g,t,g',u,el,h2,rfl⟩
   ·rfl
   ·split
    ·rename_i eg
     exact absurd ⟨_,l,hl,.inr ⟨hm,g,t,g',u,el,h2,by rw[if_pos eg]⟩⟩ z
    ·rfl
theorem RV{f h:I3}{l:Dt}{t:I4}(hl:FJ f l)(w:JF f l h (t4 t)):det t=1∧mov f t=h∧B4 190000 t:=by
 rcases w with⟨_,e⟩|⟨hm,g,a,g',u,el,h2,e⟩
 ·cases e
 ·obtain⟨g0,t0,e0,L,dt,mt,bt⟩:=SX hl
  rw[el]at e0
  obtain⟨g1,u1,e1,L1,du,mu,bu⟩:=SX h2
  obtain⟨rfl,rfl⟩:=Iv e0
  obtain⟨rfl,rfl⟩:=Iv e1
  by_cases eg:g=g'
  ·rw[if_pos eg]at e
   rw[t4i e]
   refine⟨by rw[BK,CJ,dt,du];rfl,?_,(B4.then bt bu.back).le (by decide)⟩
   rw[←Bc,mt,eg,←mu,Ci du]
  ·rw[if_neg eg]at e
   cases e
theorem Q0{f h:I3}{l:Dt}{t:I4}(hl:FJ f l)(e:Ow f h=some t):det t=1∧mov f t=h∧B4 190000 t:=by
 unfold Ow at e
 split at e
 ·rename_i z
  cases e
  obtain⟨l',h1,h2⟩:=Classical.choose_spec z
  exact RV h1 h2
 ·cases e
abbrev Fam:=Int×I3×I4
def Dv(F:Fam):List (List Int):=[[F.1*F.2.2.1,F.1*F.2.2.2.2.1],[F.2.1.1,F.2.1.2.1,F.2.1.2.2],[F.2.2.1,F.2.2.2.1,F.2.2.2.2.1,F.2.2.2.2.2]]
abbrev Ak2(F:Fam):Dt:=.tup [t2 (F.1*F.2.2.1,F.1*F.2.2.2.2.1),t3 F.2.1,t4 F.2.2]
noncomputable def JL(f:I3)(g:Int)(fs:List I3):List Fam:=fs.filterMap fun h=>(Ow f h).map fun t=>(g,h,t)
noncomputable def Lx(f:I3)(n g:Int):List Fam:=JL f g (Fz (n.fdiv (g*g)) (meas f))
noncomputable def MK(f:I3)(n:Int)(r:Nat):List Fam:=(Ik n r).flatMap (Lx f n)
structure J9(f:I3)(n:Int):Prop where
 bf:B3 1400 f
 kf:Bs f∨Sad f
 n0:n≠0
 n4:n.natAbs≤400
 bm:Bt 1400 (meas f)
theorem Abp{f:I3}{n:Int}(h:J9 f n)(g:Nat)(g1:1≤g)(hg:n.natAbs % (g*g)=0):(Lx f n g).length≤tb (n.natAbs / (g*g)):=by
 have n0:=h.n0
 have n4:=h.n4
 have gg:(g:Int)*g≠0:=Int.mul_ne_zero (by omega) (by omega)
 have hd:n.fmod ((g:Int)*g)=0:=by
  refine Int.fmod_eq_zero_of_dvd ?_
  have:(g*g:Nat)∣n.natAbs:=Nat.dvd_of_mod_eq_zero hg
  have:=Int.ofNat_dvd_left.mpr this
  push_cast at this
  exact this
 have e:=KZ (show(g:Int)≠0 by omega) hd
 have m0:n.fdiv ((g:Int)*g)≠0:=fun z=>n0 (by rw[←e,z];omega)
 have ea:(n.fdiv ((g:Int)*g)).natAbs=n.natAbs / (g*g):=by
  have h1:n.natAbs=g*g*(n.fdiv ((g:Int)*g)).natAbs:=by
   conv=>lhs;rw[←e]
   rw[Int.natAbs_mul,Int.natAbs_mul,Int.natAbs_natCast]
  rw[h1,Nat.mul_div_cancel_left _ (Nat.mul_pos (by omega) (by omega))]
 have m4:(n.fdiv ((g:Int)*g)).natAbs≤400:=by
  rw[ea]
  exact Nat.le_trans (Nat.div_le_self _ _) n4
 rw[←ea]
 refine Nat.le_trans ?_ (Ac5 (D:=meas f) m0 m4)
 unfold Lx JL
 refine Nat.le_trans (List.length_filterMap_le ..) ?_
 unfold Fz
 rw[List.length_map]
 exact Nat.le_refl _
theorem VR{f:I3}{n:Int}{r:Nat}(h:J9 f n)(hr:r≤20):(MK f n r).length<64:=by
 have h1:=ZR (n:=n) (F:=Lx f n) (Abp h) r
 have h2:=Ls n.natAbs (20-r) r
 rw[show r+(20-r)=20 by omega]at h2
 have h3:=Acy n.natAbs (by have:=h.n4;omega)
 unfold MK
 omega
theorem U6{α β:Type}{F:α→List β}{l:List α}{i:Nat}{a:α}(h:l[i]? = some a):((l.take i).flatMap F).length+(F a).length≤(l.flatMap F).length:=by
 obtain⟨hi,e⟩:=List.getElem?_eq_some_iff.mp h
 have e1:l.flatMap F=(l.take (i+1)).flatMap F++(l.drop (i+1)).flatMap F:=by rw[←List.flatMap_append,List.take_append_drop]
 rw[e1,List.take_add_one,h,List.flatMap_append,List.length_append,List.length_append]
 simp only[Option.toList_some,List.flatMap_cons,List.flatMap_nil,List.append_nil]
 omega
theorem Aa4{α β:Type}{F:α→List β}{l:List α}{i:Nat}{a:α}(h:l[i]? = some a):(l.take (i+1)).flatMap F=(l.take i).flatMap F++F a:=by
 rw[List.take_add_one,h,List.flatMap_append]
 simp
theorem Lj{α:Type}{F:α→Dt}{l:List α}{i:Nat}{d:Dt}(h:(l.map F)[i]? = some d):∃a,l[i]? = some a∧d=F a:=by
 rw[List.getElem?_map]at h
 obtain⟨a,h1,h2⟩:=Option.map_eq_some_iff.mp h
 exact⟨a,h1,h2.symm⟩
theorem Abn{f:I3}{g:Int}{fs:List I3}{j:Nat}{h:I3}(e:fs[j]? = some h):JL f g (fs.take (j+1))=JL f g (fs.take j)++(match Ow f h with | some t=>[(g,h,t)] | none=>[]):=by
 unfold JL
 rw[List.take_add_one,e,List.filterMap_append]
 congr 1
 cases hw:Ow f h with
 |none=>simp[hw]
 |some t=>simp[hw]
theorem AbM{f:I3}{g:Int}{fs:List I3}{j:Nat}:(JL f g (fs.take j)).length≤(JL f g fs).length:=by
 have:JL f g fs=JL f g (fs.take j)++JL f g (fs.drop j):=by
  unfold JL
  rw[←List.filterMap_append,List.take_append_drop]
 rw[this,List.length_append]
 omega
theorem Aan{f:I3}{t:I4}(k:Bs f∨Sad f)(d:det t=1):Bs (mov f t)∨Sad (mov f t):=by
 rcases k with k|k
 ·exact .inl (J4 k d)
 ·exact .inr (k.mov d)
theorem Aax{n:Nat}{t b:Int}(h:Bt n (t*b))(hb:b≠0):Bt n t:=by
 unfold Bt at *
 rw[Int.natAbs_mul]at h
 have h4:t.natAbs≤t.natAbs*b.natAbs:=Nat.le_mul_of_pos_right _ (by omega)
 omega
theorem Afq{D m:Int}{h:I3}(m4:m.natAbs≤400)(bD:Bt 1400 D)(F:Rn m D h):B3 1500 h:=by
 obtain⟨a,b,c⟩:=h
 have e1:=F.a
 have e2:=F.lo
 have e3:=F.hi
 have e4:b*b-4*a*c=D:=F.me
 dsimp only at e1 e2 e3
 subst e1
 have ba : Bt 1500 a := by unfold Bt; have : (400 : Nat) < 2 ^ 1500 := by decide +kernel
                           omega
 have bb : Bt 1500 b := by unfold Bt; have : (800 : Nat) < 2 ^ 1500 := by decide +kernel
                           omega
 refine⟨ba,bb,?_⟩
 by_cases a0:a=0
 ·omega
 ·have b10:Bt 10 b:=Bt.of (by omega) (by omega)
  have h4:Bt 1450 (4*a*c):=by
   have:4*a*c=b*b-D:=by omega
   rw[this]
   exact((b10.mul b10).sub bD).le (by decide)
  show Bt 1500 c
  have:Bt 1450 c:=Aax (t:=c) (b:=4*a) (by rw[Int.mul_comm];exact h4) (by omega)
  exact this.le (by decide)
noncomputable def Hz(f:I3)(n:Int)(r:Nat):List (List (List Int)):=Vl ((MK f n r).map Dv)
def Im(f:I3)(n:Int)(r:Nat):Prop:=∃l,FJ f l∧∀g∈Ik n r,∀h∈Fz (n.fdiv (g*g)) (meas f),∃w,JF f l h w
abbrev NQ:DSp:=spec (fun p:I3×Int=>[t3 p.1,.int p.2]) (fun p=>J9 p.1 p.2) fun p d=>∃r:Nat,r≤20∧Sq p.2.natAbs r∧d=.lst ((Hz p.1 p.2 r).map nestD)∧Im p.1 p.2 r
theorem Vg(T:Txt K mg)
  (oA:PmM P w K mg base 11 ["Bowl","Saddle"] "way_to" Qg)
  (dN:Pm P w K mg base 10 "shape_of" Ey ["form"] HX)
  (bG:Pm P w K mg base 1 "check_within" Cr ["number","most"] Gy)
  (bH:Pm P w K mg base 2 "roots_of_square_divisors" Bf ["number"] DX)
  (qJ:Pm P w K mg base 1 "feet" JX ["first","far"] Y0)
  : Pm P w K mg base 12 "families" Gk ["form","number"] NQ:=by
 obtain⟨f,fd,F⟩:=T.iy
 obtain⟨bQ,aB⟩:=T.aB
 refine⟨f,fd,F,F.fn.okD Fp (by walk_at "lE") fun cdv A outer s H E hr=>⟨_,(Ad (Aw 2 Fp.nd (Ag Af dN (hr.mono (by decide)) rfl (Aa (dv 0) Ac))) (Ad (Cm (HS hr.units (dv 1) Ab) (Ah HB) Bk) (Ad (Gs (Ag Af bG (hr.mono (by decide)) rfl (Aa (dv 1) (Aa (Jr (v:=.int (400)) (d:=.int (400)) rfl aB ⟨_,rfl⟩ (fun _=>Bh.mpr rfl)) Ac)))) (Ad (MN 3 Fp.nd Ac) (Ad (Jm PassesOwn.never rfl (GP (Ag Af bH (hr.mono (by decide)) rfl (Aa (dv 1) Ac))) (Ay 4 Fp.nd) (Ah (Jm PassesOwn.never rfl (GP (Ag Af qJ (hr.mono (by decide)) rfl (Aa (Ck (dv 1) (Ak (dv 4) (dv 4))) (Aa (O3 (dv 2)) Ac)))) (Ay 5 Fp.nd) (Ad (Aw 6 Fp.nd (AcK Af oA (hr.mono (by decide)) (dv 2) (Aa (dv 5) Ac))) (Ah (Cm (Agc (dv 6) Yo) (Ah (Mz 3 (Bj (Aa (Bj (Aa (Ak (dv 4) (Ae (dv 6) Ab)) (Aa (Ak (dv 4) (Ae (dv 6) Ab)) Ac))) (Aa (dv 5) (Aa (dv 6) Ac)))))) Bk)))))) (Ah (Nx 3 (Av (Ab1 T.aM hr.units (Aa (dv 3) Ac)))))))))),fun ds Q h=>?_⟩⟩
 obtain⟨⟨f,n⟩,rfl,hP,q⟩:=h
 have hP:J9 f n:=hP
 have n0:=hP.n0
 have n4:=hP.n4
 have q:∀d,(∃r:Nat,r≤20∧Sq n.natAbs r∧d=.lst ((Hz f n r).map nestD)∧Im f n r)→Q d:=q
 walk_at "go"
 refine Bg f ⟨hP.bf.le (by decide),hP.kf⟩ ?_
 rintro _ ho
 obtain⟨c,l,hc,rfl,hl⟩:=ZQ ho
 walk_at "rd"
 refine EY (decide_eq_false n0) (Al (n,400) (by show(n.natAbs:Int)≤400;omega) ⟨Nat.zero_le _,Iw ?_⟩)
 walk_at "rd"
 refine Bg n n4 ?_
 rintro _ ⟨r,hr,sr,rfl⟩
 have l64:=VR hP hr
 refine G4 ((Ik n r).map Dt.int) (fun R h=>h) (fun i ρ=>(∀g∈(Ik n r).take i,∀h∈Fz (n.fdiv (g*g)) (meas f),∃w,JF f l h w)∧∃x y z,ρ=[some (.is (t3 f)),some (.is (.int n)),some (.is (Vj c f l)),some (.own ((((Ik n r).take i).flatMap (Lx f n)).map Ak2)),x,y,z]) ⟨fun g hg=>by simp at hg,none,none,none,by simp⟩ ?_ ?_
 ·rintro i d _ hi ⟨al,x,y,z,rfl⟩
  obtain⟨g,hg,rfl⟩:=ints_get hi
  obtain⟨g1,g2,g3⟩:=Es.mp (List.mem_of_getElem? hg)
  have eg:=KZ (show g≠0 by omega) g3
  have tl:=U6 (F:=Lx f n) hg
  obtain⟨m,em⟩:∃m,n.fdiv (g*g)=m:=⟨_,rfl⟩
  rw[em]at eg
  have m0:m≠0:=fun z=>n0 (by rw[←eg,z];omega)
  have m4:m.natAbs≤400:=by
   have h1:n.natAbs=(g*g).natAbs*m.natAbs:=by rw[←eg,Int.natAbs_mul]
   have h2:1≤(g*g).natAbs:=by
    have:=Int.mul_pos (show 0<g by omega) (show 0<g by omega)
    omega
   have h3:1*m.natAbs≤(g*g).natAbs*m.natAbs:=Nat.mul_le_mul_right _ h2
   omega
  have eG:Lx f n g=JL f g (Fz m (meas f)):=by unfold Lx;rw[em]
  have bg:Bt 6 g:=Bt.of (by omega) (by omega)
  refine Iw ?_
  walk_at "rd"
  refine⟨bg.aj bg,Bt.cA (bg.mul bg) (Int.mul_ne_zero (by omega) (by omega)),Zw T hc,_,rfl,?_⟩
  rw[em]
  refine Al (m,meas f) ⟨m0,m4,hP.bm⟩ ?_
  refine G4 ((Fz m (meas f)).map t3) (fun R h=>h) (fun j ρ=>(∀h∈(Fz m (meas f)).take j,∃w,JF f l h w)∧∃y z,ρ=[some (.is (t3 f)),some (.is (.int n)),some (.is (Vj c f l)),some (.own ((((Ik n r).take i).flatMap (Lx f n)++JL f g ((Fz m (meas f)).take j)).map Ak2)),some (.is (.int g)),y,z]) ⟨fun h hh=>by simp at hh,y,z,by simp[JL]⟩ ?_ ?_
  ·rintro j d _ hj ⟨al2,y,z,rfl⟩
   obtain⟨h,hh,rfl⟩:=Lj hj
   have F:=(Gu m0).mp (List.mem_of_getElem? hh)
   have ft:=Abn (f:=f) (g:=g) hh
   have fl:=AbM (f:=f) (g:=g) (fs:=Fz m (meas f)) (j:=j)
   walk_at "rd"
   refine⟨⟨by rcases hc with e|e<;>rw[e]<;>simp,by decide⟩,Bg (c,f,l,h) ⟨hc,hl,Afq m4 hP.bm F⟩ ?_⟩
   rintro w W
   have W:JF f l h w:=W
   have ew:=YH hl W
   have al3:∀k∈(Fz m (meas f)).take (j+1),∃w,JF f l k w:=fun k hk=>by
    rw[List.take_add_one,hh]at hk
    rcases List.mem_append.mp hk with hk|hk
    ·exact al2 k hk
    ·simp only[Option.toList_some,List.mem_singleton]at hk
     subst hk
     exact⟨w,W⟩
   cases hw:Ow f h with
   | none =>
    rw[hw]at ew ft
    dsimp only at ew ft
    subst ew
    refine EY rfl ⟨al3,some (.is (t3 h)),some (.is .non),?_⟩
    rw[ft,List.append_nil]
   | some t =>
    rw[hw]at ew ft
    dsimp only at ew ft
    subst ew
    refine ift rfl ?_
    walk_at "rd"
    obtain⟨_,_,bt⟩:=RV hl W
    refine⟨bg.aj bt.1,bg.aj bt.2.2.1,Ao (by decide),Ao (by decide),?_,al3,some (.is (t3 h)),some (.is (t4 t)),?_⟩
    ·rw[List.length_append]
     rw[eG]at tl
     have e64:(List.flatMap (Lx f n) (Ik n r)).length<64:=l64
     exact Nat.lt_of_lt_of_le (by omega) (Ao (n:=64) (by decide))
    ·rw[ft,←List.append_assoc,List.map_append (l₂:=[(g,h,t)])]
     rfl
  ·rintro _ ⟨al2,y,z,rfl⟩
   refine⟨fun k hk=>?_,some (.is (.int g)),y,z,?_⟩
   ·rw[List.take_add_one,hg]at hk
    rcases List.mem_append.mp hk with hk|hk
    ·exact al k hk
    ·simp only[Option.toList_some,List.mem_singleton]at hk
     subst hk
     rw[em]
     rw[List.length_map,List.take_length]at al2
     exact al2
   ·rw[Aa4 hg,eG,List.length_map,List.take_length]
 ·rintro _ ⟨al,x,y,z,rfl⟩
  rw[List.length_map,List.take_length]at al
  walk_at "rd"
  rw[List.take_length]
  refine⟨(MK f n r).map Dv,?_,by rw[List.length_map];exact l64,fun rr hrr=>?_,q _ ⟨r,hr,sr,rfl,l,hl,al⟩⟩
  ·rw[List.map_map]
   rfl
  ·obtain⟨F,_,rfl⟩:=List.mem_map.mp hrr
   simp[Dv]
abbrev Vr:DSp:=spec (fun p:I3×Int=>[t3 p.1,.int p.2]) (fun p=>J9 p.1 p.2) fun p d=>∃r:Nat,r≤20∧Sq p.2.natAbs r∧d=.lst ((Hz p.1 p.2 r).map fun rs=>Cj (rs.getD 0 []))∧Im p.1 p.2 r
theorem Fw{f:I3}{n:Int}{r:Nat}{rs:List (List Int)}(h:rs∈Hz f n r):∃F∈MK f n r,rs=Dv F:=by
 have:=(Js _).mem_iff.mp h
 obtain⟨F,h1,h2⟩:=List.mem_map.mp this
 exact⟨F,h1,h2.symm⟩
theorem VF{f:I3}{n:Int}{r:Nat}(h:J9 f n)(hr:r≤20):(Hz f n r).length<64:=by
 unfold Hz
 rw[(Js _).length_eq,List.length_map]
 exact VR h hr
def AgY(k:Nat):Dt→Dt
 |.tup ds=>ds.getD k .non
 |_=>.non
theorem AaQ{f:I3}{n:Int}{r k:Nat}(hk:k<3):((Hz f n r).map nestD).map (AgY k)=((Hz f n r).map fun rs=>rs.getD k []).map Cj:=by
 rw[List.map_map,List.map_map]
 refine List.map_congr_left fun rs hrs=>?_
 obtain⟨F,_,rfl⟩:=Fw hrs
 obtain rfl|rfl|rfl:k=0∨k=1∨k=2:=by omega
 all_goals rfl
theorem Abv(T:Txt K mg)
  (lZ:Pm P w K mg base 12 "families" Gk ["form","number"] NQ)
  : Pm P w K mg base 13 "heads" Jf ["form","number"] Vr:=by
 obtain⟨f,fd,F⟩:=T.nQ
 refine⟨f,fd,F,F.fn.okD Ad1 (by walk_at "lE") fun cdv A outer s H E hr=>⟨_,(Ah (Av (Uz (Gj (sc:=Ai Jf) (NN:=["form","number"]) (x:="family") (N:=[]) (sl:=[]) rfl rfl (by decide +kernel)) rfl (GP (Ag Af lZ (hr.mono (by decide)) rfl (Aa (dv 0) (Aa (dv 1) Ac)))) (fun cl C s0 H0 ex=>(Ae (dv 0) Ab))))),fun ds Q h=>?_⟩⟩
 obtain⟨⟨f,n⟩,rfl,hP,q⟩:=h
 have hP:J9 f n:=hP
 have q:∀d,(∃r:Nat,r≤20∧Sq n.natAbs r∧d=.lst ((Hz f n r).map fun rs=>Cj (rs.getD 0 []))∧Im f n r)→Q d:=q
 walk_at "go"
 refine Yr ?_
 walk_at "rd"
 refine Bg (f,n) hP ?_
 rintro _ ⟨r,hr,sr,rfl,al⟩
 have len:=VF hP hr
 refine Kl ((Hz f n r).map nestD) (AgY 0) (fun R hR=>hR) (by rw[List.length_map];exact Ao (by show(Hz f n r).length≤1000;omega)) Fi (fun d hd R hR=>?_) ?_
 ·obtain⟨rs,hrs,rfl⟩:=List.mem_map.mp hd
  obtain⟨F,_,rfl⟩:=Fw hrs
  unfold inner
  walk_at "rd"
  exact hR
 ·refine q _ ⟨r,hr,sr,?_,al⟩
  have:=AaQ (f:=f) (n:=n) (r:=r) (k:=0) (by decide)
  rw[this,List.map_map]
  rfl
theorem g_same{g g' m:Int}(h:1≤g)(h':1≤g')(m0:m≠0)(e:g*g*m=g'*g'*m):g=g':=by
 have e:=Int.eq_of_mul_eq_mul_right m0 e
 rcases Int.lt_trichotomy g g' with z|z|z
 ·have:=Int.mul_lt_mul' (show g≤g' by omega) z (by omega) (by omega)
  omega
 ·exact z
 ·have:=Int.mul_lt_mul' (show g'≤g by omega) z (by omega) (by omega)
  omega
theorem Yv{F G:Fam}(h:Dv F=Dv G):F.2=G.2:=by
 unfold Dv at h
 simp only[List.cons.injEq,and_true]at h
 obtain⟨_,⟨a1,a2,a3⟩,b1,b2,b3,b4⟩:=h
 exact Prod.ext (Yd a1 a2 a3) (Prod.ext b1 (Prod.ext b2 (Prod.ext b3 b4)))
theorem OD{f:I3}{n:Int}{r:Nat}{l:Dt}{F:Fam}(hl:FJ f l)(h:F∈MK f n r):F.1∈Ik n r∧F.2.1∈Fz (n.fdiv (F.1*F.1)) (meas f)∧Ow f F.2.1=some F.2.2∧det F.2.2=1∧mov f F.2.2=F.2.1∧B4 190000 F.2.2:=by
 unfold MK at h
 obtain⟨g,hg,h⟩:=List.mem_flatMap.mp h
 unfold Lx JL at h
 obtain⟨foot,hf,h⟩:=List.mem_filterMap.mp h
 obtain⟨t,ht,rfl⟩:=Option.map_eq_some_iff.mp h
 exact⟨hg,hf,ht,Q0 hl ht⟩
theorem Aii{f:I3}{n g m:Int}{r:Nat}{h:I3}{t:I4}(g0:1≤g)(e:g*g*m=n)(n0:n≠0)(hr:Sq n.natAbs r)(m0:m≠0)(F:Rn m (meas f) h)(w:Ow f h=some t):(g,h,t)∈MK f n r:=by
 obtain⟨h1,h2⟩:=Zx g0 e n0 hr
 refine List.mem_flatMap.mpr ⟨g,h1,?_⟩
 unfold Lx JL
 rw[h2]
 exact List.mem_filterMap.mpr ⟨h,(Gu m0).mpr F,by rw[w];rfl⟩
theorem ZC(m D:Int):∀n,(mids m D n).Pairwise (· < ·)
 |0=>List.Pairwise.nil
 | n+1=>by
  rw[mids,List.pairwise_append]
  refine⟨ZC m D n,by split<;>simp,fun a ha b hb=>?_⟩
  obtain⟨_,h2,_⟩:=J6.mp ha
  split at hb
  ·simp only[List.mem_singleton]at hb
   omega
  ·cases hb
theorem Aaf(n:Int):∀r,(Ik n r).Pairwise (· < ·)
 |0=>List.Pairwise.nil
 | r+1=>by
  rw[Ik,List.pairwise_append]
  refine⟨Aaf n r,by split<;>simp,fun a ha b hb=>?_⟩
  obtain⟨_,h2,_⟩:=Es.mp ha
  split at hb
  ·simp only[List.mem_singleton]at hb
   omega
  ·cases hb
theorem W9{f:I3}{n:Int}{r:Nat}(n0:n≠0):(MK f n r).Pairwise fun F G=>F.2.1≠G.2.1:=by
 unfold MK
 rw[List.pairwise_flatMap]
 refine⟨fun g hg=>?_,?_⟩
 ·unfold Lx JL Fz
  rw[List.pairwise_filterMap,List.pairwise_map]
  refine(ZC _ _ _).imp fun{a b} hab x hx y hy e=>?_
  obtain⟨t,_,rfl⟩:=Option.map_eq_some_iff.mp hx
  obtain⟨t',_,rfl⟩:=Option.map_eq_some_iff.mp hy
  have:a=b:=congrArg (fun z:I3=>z.2.1) e
  omega
 ·refine List.Pairwise.imp_of_mem (R:=(· < ·)) (fun{a b} ha hb hab x hx y hy e=>?_) (Aaf n r)
  obtain⟨a1,_,a3⟩:=Es.mp ha
  obtain⟨b1,_,b3⟩:=Es.mp hb
  have ea:=KZ (by omega) a3
  have eb:=KZ (by omega) b3
  have ma:n.fdiv (a*a)≠0:=fun z=>n0 (by rw[←ea,z];omega)
  have mb:n.fdiv (b*b)≠0:=fun z=>n0 (by rw[←eb,z];omega)
  unfold Lx JL at hx hy
  obtain⟨h,hh,hx⟩:=List.mem_filterMap.mp hx
  obtain⟨t,_,rfl⟩:=Option.map_eq_some_iff.mp hx
  obtain⟨h',hh',hy⟩:=List.mem_filterMap.mp hy
  obtain⟨t',_,rfl⟩:=Option.map_eq_some_iff.mp hy
  have e:h=h':=e
  subst e
  have e1:=((Gu ma).mp hh).a
  have e2:=((Gu mb).mp hh').a
  have em:n.fdiv (a*a)=n.fdiv (b*b):=e1.symm.trans e2
  rw[←em]at eb
  have:=g_same a1 b1 ma (ea.trans eb.symm)
  omega
theorem Yl{f:I3}{n:Int}{r i j:Nat}{F G:Fam}(n0:n≠0)(hi:(Hz f n r)[i]? = some (Dv F))(hj:(Hz f n r)[j]? = some (Dv G))(e:F.2.1=G.2.1):i=j:=by
 have p:(Hz f n r).Pairwise fun x y=>x.getD 1 []≠y.getD 1 []:=by
  unfold Hz
  rw[(Js _).pairwise_iff (fun h=>h.symm),List.pairwise_map]
  refine(W9 n0).imp fun{a b} h z=>h ?_
  have z:[a.2.1.1,a.2.1.2.1,a.2.1.2.2]=[b.2.1.1,b.2.1.2.1,b.2.1.2.2]:=z
  simp only[List.cons.injEq,and_true]at z
  exact Yd z.1 z.2.1 z.2.2
 rw[List.pairwise_iff_getElem]at p
 obtain⟨hi1,hi2⟩:=List.getElem?_eq_some_iff.mp hi
 obtain⟨hj1,hj2⟩:=List.getElem?_eq_some_iff.mp hj
 have ee:(Dv F).getD 1 []=(Dv G).getD 1 []:=by
  show [F.2.1.1,F.2.1.2.1,F.2.1.2.2]=[G.2.1.1,G.2.1.2.1,G.2.1.2.2]
  rw[e]
 rcases Nat.lt_trichotomy i j with z|z|z
 ·exact absurd ee (by have:=p i j hi1 hj1 z;rw[hi2,hj2]at this;exact this)
 ·exact z
 ·exact absurd ee.symm (by have:=p j i hj1 hi1 z;rw[hi2,hj2]at this;exact this)
theorem Aav{f:I3}{T U:I4}{m D:Int}(m0:m≠0)(d:det T=1)(d':det U=1)(A:Rn m D (mov f T))(B:Rn m D (mov f U))(e1:U.1=T.1)(e2:U.2.2.1=T.2.2.1):U=T:=by
 have es:=AaK m0 d d' A B (.inl ⟨e1,e2⟩)
 obtain⟨p,q,r,s⟩:=T
 obtain⟨p',q',r',s'⟩:=U
 dsimp only at e1 e2
 subst e1 e2
 have d:p'*s-q*r'=1:=d
 have d':p'*s'-q'*r'=1:=d'
 have hU:(p',q',r',s')=Aj (p',q,r',s) (1,s*q'-q*s',0,1):=by
  simp only[Aj,Prod.mk.injEq]
  refine⟨by omega,?_,by omega,?_⟩<;>grind
 have hk:s*q'-q*s'=0:=by
  have h1:(mov f (p',q',r',s')).2.1=(mov f (p',q,r',s)).2.1+2*(mov f (p',q,r',s)).1*(s*q'-q*s'):=by
   rw[hU,←Bc,U8]
  rw[←es]at h1
  have h2:(mov f (p',q,r',s)).1=m:=A.a
  rw[h2]at h1
  have h3:2*m*(s*q'-q*s')=0:=by omega
  rcases Int.mul_eq_zero.mp h3 with z|z
  ·omega
  ·exact z
 rw[hU,hk,Dj]
theorem Abt{T U:I4}{g g':Int}(g0:1≤g)(g0':1≤g')(dT:det T=1)(dU:det U=1)(e1:g'*T.1=g*U.1)(e2:g'*T.2.2.1=g*U.2.2.1):g=g'∧U.1=T.1∧U.2.2.1=T.2.2.1:=by
 obtain⟨a,b,c,d⟩:=T
 obtain⟨x,y,z,w⟩:=U
 have dT:a*d-b*c=1:=dT
 have dU:x*w-y*z=1:=dU
 dsimp only at e1 e2
 have h1:g'=g*(x*d-b*z):=by
  have:g'*(a*d-b*c)=g*(x*d-b*z):=by
   have k1:g'*(a*d-b*c)=g'*a*d-b*(g'*c):=by grind
   rw[k1,e1,e2]
   grind
  rw[dT]at this
  omega
 have h2:g=g'*(a*w-y*c):=by
  have:g*(x*w-y*z)=g'*(a*w-y*c):=by
   have k1:g*(x*w-y*z)=g*x*w-y*(g*z):=by grind
   rw[k1,←e1,←e2]
   grind
  rw[dU]at this
  omega
 have gg:g=g':=Int.dvd_antisymm (by omega) (by omega) ⟨_,h1⟩ ⟨_,h2⟩
 subst gg
 have gn:g≠0:=by omega
 exact⟨rfl,(Int.eq_of_mul_eq_mul_left gn e1).symm,(Int.eq_of_mul_eq_mul_left gn e2).symm⟩
theorem AfW{f:I3}{n:Int}{r:Nat}{F:Fam}(al:Im f n r)(n0:n≠0)(hF:F∈MK f n r):val f (F.1*F.2.2.1,F.1*F.2.2.2.2.1)=n:=by
 obtain⟨l,hl,_⟩:=al
 obtain⟨m1,m2,m3,m4,m5,_⟩:=OD hl hF
 obtain⟨g1,g2,g3⟩:=Es.mp m1
 have eg:=KZ (by omega) g3
 have m0:n.fdiv (F.1*F.1)≠0:=fun z=>n0 (by rw[←eg,z];omega)
 have ha:=((Gu m0).mp m2).a
 rw[←m5]at ha
 have ha:val f (F.2.2.1,F.2.2.2.2.1)=n.fdiv (F.1*F.1):=ha
 rw[←eg,←ha]
 simp only[val]
 grind
theorem Ac0{f h:I3}{n g:Int}{r:Nat}{t:I4}(al:Im f n r)(hg:g∈Ik n r)(hh:h∈Fz (n.fdiv (g*g)) (meas f))(dt:det t=1)(et:mov f t=h):∃t',Ow f h=some t':=by
 obtain⟨l,hl,al⟩:=al
 cases hq:Ow f h with
 |some t'=>exact⟨t',rfl⟩
 | none =>
  exfalso
  obtain⟨w,W⟩:=al g hg h hh
  have ew:=YH hl W
  rw[hq]at ew
  dsimp only at ew
  subst ew
  rcases W with⟨ne,_⟩|⟨_,g1,t1,g2,t2,e1,h2,e3⟩
  ·exact ne ⟨by rw[←et];exact(Bu dt).symm,by rw[←et];exact Aan (hl.elim (fun z=>.inl z.1) fun z=>.inr z.1) dt⟩
  ·obtain⟨g1',t1',e1',L1,_⟩:=SX hl
   rw[e1]at e1'
   obtain⟨rfl,rfl⟩:=Iv e1'
   obtain⟨g2',t2',e2',L2,_⟩:=SX h2
   obtain⟨rfl,rfl⟩:=Iv e2'
   have es:g1=g2:=L1.same L2 dt et
   rw[if_pos es]at e3
   cases e3
def r2(p:I2):List Int:=[p.1,p.2]
def unr(r:List Int):I4:=(r.getD 0 0,r.getD 1 0,r.getD 2 0,r.getD 3 0)
theorem QZ(t:I4):unr (r4 t)=t:=rfl
def hd2(rs:List (List Int)):I2:=((rs.getD 0 []).getD 0 0,(rs.getD 0 []).getD 1 0)
def Qk(f:I3)(u:I4):List I4:=(Jc f u).map unr
noncomputable def AaS(f:I3)(n:Int)(r:Nat)(u:I4):List I2:=(Qk f u).flatMap fun A=>(Hz f n r).map fun rs=>Dp A (hd2 rs)
theorem Ja{f:I3}{u A:I4}(du:det u=1)(L:BJ (mov f u)):A∈Qk f u↔det A=1∧mov f A=f:=by
 constructor
 ·intro h
  obtain⟨row,hr,rfl⟩:=List.mem_map.mp h
  obtain⟨t,ht,rfl⟩:=List.mem_map.mp ((Dd _).mem_iff.mp hr)
  obtain⟨dt,et⟩:=Ac4 ht
  rw[QZ]
  exact⟨by rw[BK,BK,CJ,du,dt];rfl,by rw[←Bc,←Bc,et,Ci du]⟩
 ·rintro⟨dA,eA⟩
  have dt:det (Aj (Aj (Ar u) A) u)=1:=by rw[BK,BK,CJ,du,dA];rfl
  have et:mov (mov f u) (Aj (Aj (Ar u) A) u)=mov f u:=by rw[←Bc,←Bc,Ci du,eA]
  have ht:=AeR L dt et
  refine List.mem_map.mpr ⟨r4 A,(Dd _).mem_iff.mpr (List.mem_map.mpr ⟨_,ht,?_⟩),rfl⟩
  congr 1
  rw[←then_assoc,←then_assoc,Fq du,Gn,then_assoc,Fq du,Dj]
theorem Af5{f:I3}{u:I4}(du:det u=1):(Qk f u).Nodup:=by
 have nd:(Dm (mov f u)).Nodup:=by
  unfold Dm
  split
  ·decide
  ·split<;>decide
 have h1:((Dm (mov f u)).map fun t=>r4 (Aj (Aj u t) (Ar u))).Nodup:=by
  unfold List.Nodup at *
  rw[List.pairwise_map]
  refine nd.imp fun{a b} h z=>h ?_
  have e:Aj (Aj u a) (Ar u)=Aj (Aj u b) (Ar u):=by rw[←QZ (Aj (Aj u a) (Ar u)),z,QZ]
  have e2:=congrArg (fun x=>Aj (Aj (Ar u) x) u) e
  have k:∀t:I4,Aj (Aj (Ar u) (Aj (Aj u t) (Ar u))) u=t:=fun t=>by
   have bu:Aj (Ar u) u=(1,0,0,1):=by
    have:=Fq (t:=Ar u) (by rw[CJ];exact du)
    rwa [Ld]at this
   rw[←then_assoc,←then_assoc,bu,Gn,then_assoc,bu,Dj]
  rw[k,k]at e2
  exact e2
 have h2:(Jc f u).Nodup:=((Dd _).nodup_iff).mpr h1
 unfold Qk List.Nodup at *
 rw[List.pairwise_map]
 refine List.Pairwise.imp_of_mem (fun{a b} ha hb h z=>h ?_) h2
 obtain⟨t,_,rfl⟩:=List.mem_map.mp ((Dd _).mem_iff.mp ha)
 obtain⟨t',_,rfl⟩:=List.mem_map.mp ((Dd _).mem_iff.mp hb)
 rw[QZ,QZ]at z
 rw[z]
theorem Y9{f:I3}{n:Int}{r k k':Nat}{F F':Fam}{A A':I4}(al:Im f n r)(n0:n≠0)(hk:(Hz f n r)[k]? = some (Dv F))(hk':(Hz f n r)[k']? = some (Dv F'))(hF:F∈MK f n r)(hF':F'∈MK f n r)(dA:det A=1)(eA:mov f A=f)(dA':det A'=1)(eA':mov f A'=f)
  (e:Dp A (hd2 (Dv F))=Dp A' (hd2 (Dv F'))):k=k'∧A=A':=by
 obtain⟨l,hl,_⟩:=al
 obtain⟨m1,m2,m3,m4,m5,m6⟩:=OD hl hF
 obtain⟨q1,q2,q3,q4,q5,q6⟩:=OD hl hF'
 obtain⟨g1,_,g3⟩:=Es.mp m1
 obtain⟨g1',_,g3'⟩:=Es.mp q1
 have eg:=KZ (by omega) g3
 have eg':=KZ (by omega) g3'
 have ma:n.fdiv (F.1*F.1)≠0:=fun z=>n0 (by rw[←eg,z];omega)
 have mb:n.fdiv (F'.1*F'.1)≠0:=fun z=>n0 (by rw[←eg',z];omega)
 have fo:=(Gu ma).mp m2
 have fo':=(Gu mb).mp q2
 have dU:det (Aj A F.2.2)=1:=by rw[BK,dA,m4];rfl
 have eU:mov f (Aj A F.2.2)=F.2.1:=by rw[←Bc,eA,m5]
 have dT:det (Aj A' F'.2.2)=1:=by rw[BK,dA',q4];rfl
 have eT:mov f (Aj A' F'.2.2)=F'.2.1:=by rw[←Bc,eA',q5]
 have hh:∀(B:I4)(G:Fam),Dp B (hd2 (Dv G))=Dp (Aj B G.2.2) (G.1,0):=fun B G=>by
  rw[PN]
  congr 1
  show(G.1*G.2.2.1,G.1*G.2.2.2.2.1)=_
  simp only[Dp,Prod.mk.injEq]
  refine⟨by grind,by grind⟩
 rw[hh,hh]at e
 have c1:=congrArg Prod.fst e
 have c2:=congrArg Prod.snd e
 simp only[Dp,Int.mul_zero,Int.add_zero]at c1 c2
 obtain⟨gg,u1,u2⟩:=Abt (T:=Aj A' F'.2.2) (U:=Aj A F.2.2) g1 g1' dT dU (by rw[Int.mul_comm,←c1,Int.mul_comm]) (by rw[Int.mul_comm,←c2,Int.mul_comm])
 rw[←gg]at fo' mb
 have fT:Rn (n.fdiv (F.1*F.1)) (meas f) (mov f (Aj A' F'.2.2)):=by rw[eT];exact fo'
 have fU:Rn (n.fdiv (F.1*F.1)) (meas f) (mov f (Aj A F.2.2)):=by rw[eU];exact fo
 have et:=Aav ma dT dU fT fU u1 u2
 have ef:F.2.1=F'.2.1:=by rw[←eU,←eT,et]
 have ek:=Yl n0 hk hk' ef
 subst ek
 rw[hk]at hk'
 have e2:=congrArg Prod.snd (Yv (Option.some.inj hk'))
 refine⟨rfl,?_⟩
 have e3:=congrArg (fun x=>Aj x (Ar F.2.2)) et
 rw[←e2,then_assoc,then_assoc,Fq m4,Dj,Dj]at e3
 exact e3
theorem AcZ{f:I3}{n:Int}{r:Nat}{u:I4}(du:det u=1)(L:BJ (mov f u))(al:Im f n r)(n0:n≠0):(AaS f n r u).Nodup:=by
 unfold AaS List.Nodup
 rw[List.pairwise_flatMap]
 constructor
 ·intro A hA
  obtain⟨dA,eA⟩:=(Ja du L).mp hA
  rw[List.pairwise_map,List.pairwise_iff_getElem]
  intro i j hi hj hij e
  obtain⟨F,hF,eF⟩:=Fw (List.getElem_mem hi)
  obtain⟨G,hG,eG⟩:=Fw (List.getElem_mem hj)
  rw[eF,eG]at e
  have:=(Y9 al n0 (by rw[List.getElem?_eq_getElem hi,eF]) (by rw[List.getElem?_eq_getElem hj,eG]) hF hG dA eA dA eA e).1
  omega
 ·refine List.Pairwise.imp_of_mem (fun{A B} hA hB h=>?_) (Af5 (f:=f) du)
  obtain⟨dA,eA⟩:=(Ja du L).mp hA
  obtain⟨dB,eB⟩:=(Ja du L).mp hB
  intro x hx y hy e
  obtain⟨rs,h1,rfl⟩:=List.mem_map.mp hx
  obtain⟨rt,h2,rfl⟩:=List.mem_map.mp hy
  obtain⟨i,hi⟩:=List.getElem?_of_mem h1
  obtain⟨j,hj⟩:=List.getElem?_of_mem h2
  obtain⟨F,hF,rfl⟩:=Fw h1
  obtain⟨G,hG,rfl⟩:=Fw h2
  exact h (Y9 al n0 hi hj hF hG dA eA dB eB e).2
theorem Us{f:I3}{n:Int}{r:Nat}{u:I4}{p:I2}(du:det u=1)(L:BJ (mov f u))(al:Im f n r)(n0:n≠0)(sr:Sq n.natAbs r):p∈AaS f n r u↔val f p=n:=by
 constructor
 ·intro h
  obtain⟨A,hA,h⟩:=List.mem_flatMap.mp h
  obtain⟨dA,eA⟩:=(Ja du L).mp hA
  obtain⟨rs,hrs,rfl⟩:=List.mem_map.mp h
  obtain⟨F,hF,rfl⟩:=Fw hrs
  rw[←Tr,eA]
  exact AfW al n0 hF
 ·intro hv
  obtain⟨x,y⟩:=p
  obtain⟨a,b,hb⟩:=bez _ x y (Nat.le_refl _)
  obtain⟨g,eg⟩:∃g:Int,((x.gcd y:Nat):Int)=g:=⟨_,rfl⟩
  have gx:g∣x:=by rw[←eg];exact Int.gcd_dvd_left ..
  have gy:g∣y:=by rw[←eg];exact Int.gcd_dvd_right ..
  have g0:1≤g:=by
   rcases Int.lt_or_le 0 g with z|z
   ·omega
   ·have z0:Int.gcd x y=0:=by omega
    obtain⟨rfl,rfl⟩:=Int.gcd_eq_zero_iff.mp z0
    exfalso
    apply n0
    rw[←hv]
    simp[val]
  rw[eg]at hb
  obtain⟨m,hm,m0,_,_,dT,F,ld⟩:=Ae9 hv n0 g0 gx gy hb
  generalize Aj (GF x y g a b) (1,Od (mov f (GF x y g a b)),0,1)=T at *
  obtain⟨s1,s2⟩:=Zx g0 hm n0 sr
  obtain⟨t,ht⟩:=Ac0 al s1 (by rw[s2];exact(Gu m0).mpr F) dT rfl
  have hF:=Aii g0 hm n0 sr m0 F ht
  obtain⟨l,hl,_⟩:=id al
  obtain⟨dt,mt,_⟩:=Q0 hl ht
  refine List.mem_flatMap.mpr ⟨Aj T (Ar t),(Ja du L).mpr ⟨by rw[BK,CJ,dT,dt];rfl,by rw[←Bc,←mt,Ci dt]⟩,List.mem_map.mpr ⟨Dv (g,mov f T,t),(Js _).mem_iff.mpr (List.mem_map.mpr ⟨_,hF,rfl⟩),?_⟩⟩
  rw[PN]
  have e:Dp (Ar t) (hd2 (Dv (g,mov f T,t)))=(g,0):=by
   have e:=J8 (t:=t) (p:=(g,0)) dt
   have e2:Dp t (g,0)=hd2 (Dv (g,mov f T,t)):=by
    show _=(g*t.1,g*t.2.2.1)
    simp only[Dp,Prod.mk.injEq]
    refine⟨by grind,by grind⟩
   rw[e2]at e
   exact e
  rw[e]
  exact ld
theorem Zj{α:Type}[DecidableEq α]{l m:List α}(hl:l.Nodup)(hm:m.Nodup)(h:∀x,x∈l↔x∈m):l.Perm m:=by
 rw[List.perm_iff_count]
 intro a
 rw[List.Nodup.count hl,List.Nodup.count hm]
 by_cases z:a∈l
 ·rw[if_pos z,if_pos ((h a).mp z)]
 ·rw[if_neg z,if_neg fun y=>z ((h a).mpr y)]
structure Uq(f:I3)(n:Int):Prop where
 bf:B3 800 f
 ho:Bs f
 n4:n.natAbs≤400
 bm:Bt 1400 (meas f)
theorem V4{f:I3}(h:Bs f)(p:I2):0≤val f p:=by
 obtain⟨a,b,c⟩:=f
 obtain⟨x,y⟩:=p
 have h1:0<a:=h.1
 have h2:meas (a,b,c)<0:=h.2
 have e:4*a*val (a,b,c) (x,y)=(2*a*x+b*y)*(2*a*x+b*y) + -meas (a,b,c)*(y*y):=by
  simp only[val,meas]
  grind
 have k1:=sq_nonneg (2*a*x+b*y)
 have k2:=Int.mul_nonneg (show 0≤-meas (a,b,c) by omega) (sq_nonneg y)
 rcases Int.lt_or_le (val (a,b,c) (x,y)) 0 with z|z
 ·have:=Int.mul_pos (show 0<4*a by omega) (show 0 < -val (a,b,c) (x,y) by omega)
  have e2:4*a * -val (a,b,c) (x,y)=-(4*a*val (a,b,c) (x,y)):=Int.mul_neg ..
  omega
 ·exact z
def Jv(f:I3)(n:Int)(d:Dt):Prop:=(n=0∧d=.lst [t2 (0,0)])∨(n≠0∧∃L:List I2,L.Nodup∧(∀p,p∈L↔val f p=n)∧L.length<64∧d=.lst ((Gb (L.map r2)).map Cj))
abbrev JQ:DSp:=spec (fun p:I3×Int=>[t3 p.1,.int p.2]) (fun p=>Uq p.1 p.2) fun p d=>Jv p.1 p.2 d
theorem Abm{α β:Type}{F:α→List β}{l:List α}{i:Nat}{a:α}(h:l[i]? = some a):(l.take (i+1)).flatMap F=(l.take i).flatMap F++F a:=by
 rw[List.take_add_one,h,List.flatMap_append]
 simp
theorem Aar{α β:Type}{F:α→List β}{l:List α}{i:Nat}{a:α}(h:l[i]? = some a):((l.take i).flatMap F).length+(F a).length≤(l.flatMap F).length:=U6 h
theorem Pk(T:Txt K mg)
  (cj:Pm P w K mg base 4 "check_bowl" Ds ["form"] Ii)
  (bG:Pm P w K mg base 1 "check_within" Cr ["number","most"] Gy)
  (qe:Pm P w K mg base 13 "heads" Jf ["form","number"] Vr)
  (lJ:Pm P w K mg base 6 "own_turns" Ea ["form"] Ml)
  (qZ:Pm P w K mg base 3 "led" Sv ["turn","point"] Aca)
  : Pm P w K mg base 14 "all_answers" CV ["form","number"] JQ:=by
 obtain⟨f,fd,F⟩:=T.dw
 obtain⟨bQ,aB⟩:=T.aB
 refine⟨f,fd,F,F.fn.okD FQ (by walk_at "lE") fun cdv A outer s H E hr=>⟨_,(Ad (Gs (Ag Af cj (hr.mono (by decide)) rfl (Aa (dv 0) Ac))) (Ad (Gs (Ag Af bG (hr.mono (by decide)) rfl (Aa (dv 1) (Aa (Jr (v:=.int (400)) (d:=.int (400)) rfl aB ⟨_,rfl⟩ (fun _=>Bh.mpr rfl)) Ac)))) (Ad (Cm (HS hr.units (dv 1) Ab) (Ah (Av (Fb (Aa (Bj (Aa Ab (Aa Ab Ac))) Ac)))) Bk) (Ad (Aw 2 FQ.nd (Ag Af qe (hr.mono (by decide)) rfl (Aa (dv 0) (Aa (dv 1) Ac)))) (Ad (MN 3 FQ.nd Ac) (Ad (Jm PassesOwn.never rfl (GP (Ag Af lJ (hr.mono (by decide)) rfl (Aa (dv 0) Ac))) (Ay 4 FQ.nd) (Ah (Aib 3 (AfN (Gj (sc:=Ai CV) (NN:=["form","number","tops","found","turn"]) (x:="head") (N:=["turn"]) (sl:=[4]) rfl rfl (by decide +kernel)) rfl (GP (dv 2)) (fun cl C s0 H0 ex=>(Ag Af qZ (hr.mono (by decide)) rfl (Aa (dv 1) (Aa (dv 0) Ac)))))))) (Ah (Nx 3 (Av (Qz T.aM (Aa (dv 3) Ac))))))))))),fun ds Q h=>?_⟩⟩
 obtain⟨⟨f,n⟩,rfl,hX,q⟩:=h
 have hX:Uq f n:=hX
 have q:∀d,Jv f n d→Q d:=q
 have hb:=hX.ho
 have n4:=hX.n4
 walk_at "go"
 refine Al f ⟨hX.bf.le (by decide),hb⟩ (Al (n,400) (by show(n.natAbs:Int)≤400;omega) ?_)
 refine GR (fun h0=>⟨Ao (by decide),Ao (by decide),q _ (.inl ⟨of_decide_eq_true h0,rfl⟩)⟩) (fun h0=>?_)
 have n0:n≠0:=fun z=>h0 (decide_eq_true z)
 have hP:J9 f n:=⟨hX.bf.le (by decide),.inl hb,n0,n4,hX.bm⟩
 refine Bg (f,n) hP ?_
 rintro _ ⟨r,hr,sr,rfl,al⟩
 have al:Im f n r:=al
 have sr:Sq n.natAbs r:=sr
 have len:=VF hP hr
 walk_at "rd"
 refine⟨Nat.zero_le _,Iw ?_⟩
 walk_at "rd"
 refine Bg f ⟨hX.bf.le (by decide),hb⟩ ?_
 rintro _ ⟨u,du,Lu,bu,rfl⟩
 have few:(AaS f n r u).length<64:=by
  rcases Int.lt_or_le n 0 with z|z
  ·cases ea:AaS f n r u with
   |nil=>exact(by decide:0<64)
   | cons p l =>
    have:=(Us (p:=p) du Lu al n0 sr).mp (by rw[ea];exact .head _)
    have:=V4 hb p
    omega
  ·exact AbX du Lu (by omega) (by omega) (AcZ du Lu al n0) fun p hp=>(Us du Lu al n0 sr).mp hp
 have lo:(Qk f u).length=(Jc f u).length:=List.length_map ..
 have lo6:(Jc f u).length≤6:=by
  unfold Jc
  rw[(Dd _).length_eq,List.length_map]
  exact(Qq _).2
 let row:I4→List I2:=fun A=>(Hz f n r).map fun rs=>Dp A (hd2 rs)
 have eo:(Jc f u).map Cj=(Qk f u).map t4:=by
  unfold Qk
  rw[List.map_map]
  refine List.map_congr_left fun rr hrr=>?_
  obtain⟨t,_,rfl⟩:=List.mem_map.mp ((Dd _).mem_iff.mp hrr)
  rfl
 rw[eo]
 refine G4 ((Qk f u).map t4) (fun R h=>h) (fun i ρ=>∃y,ρ=[some (.is (t3 f)),some (.is (.int n)),some (.is (.lst ((Hz f n r).map fun rs=>Cj (rs.getD 0 [])))),some (.own ((((Qk f u).take i).flatMap row).map t2)),y]) ⟨_,by simp;rfl⟩ ?_ ?_
 ·rintro i d _ hi ⟨y,rfl⟩
  obtain⟨A,hA,rfl⟩:=Lj hi
  obtain⟨dA,eA⟩:=(Ja du Lu).mp (List.mem_of_getElem? hA)
  have bA:B4 1400 A:=(Tj hb (hX.bf) (m:=800) (k:=801) (by rw[eA];exact hX.bf) (by decide)).le (by decide)
  have tl:=Aar (F:=row) hA
  have qT:((Qk f u).flatMap row).length<64:=few
  walk_at "rd"
  refine Kl ((Hz f n r).map fun rs=>Cj (rs.getD 0 [])) (fun d=>match d with
   |.tup [.int x,.int y]=>t2 (Dp A (x,y))
   |_=>.non) (fun R hR=>hR) (by rw[List.length_map];exact Ao (by omega)) (Dr rfl Fi) (fun d hd R hR=>?_) ?_
  ·obtain⟨rs,hrs,rfl⟩:=List.mem_map.mp hd
   obtain⟨F,hF,rfl⟩:=Fw hrs
   obtain⟨l,hl,_⟩:=id al
   obtain⟨m1,_,_,_,_,m6⟩:=OD hl hF
   obtain⟨g1,g2,_⟩:=Es.mp m1
   have bg6:Bt 6 F.1:=Bt.of (by omega) (by omega)
   rw[AkN]
   walk_at "rd"
   exact Al (A,(F.1*F.2.2.1,F.1*F.2.2.2.2.1)) ⟨bA.le (by decide),dA,(bg6.mul m6.1).le (by decide),(bg6.mul m6.2.2.1).le (by decide)⟩ hR
  ·have em:(((Hz f n r).map fun rs=>Cj (rs.getD 0 [])).map fun d=>match d with
    |.tup [.int x,.int y]=>t2 (Dp A (x,y))
    |_=>.non)=(row A).map t2:=by
    show _=((Hz f n r).map _).map t2
    rw[List.map_map,List.map_map]
    refine List.map_congr_left fun rs hrs=>?_
    obtain⟨F,_,rfl⟩:=Fw hrs
    rfl
   dsimp only
   rw[em]
   refine⟨?_,some (.is (t4 A)),?_⟩
   ·rw[List.length_map,List.length_map]
    exact Ao (by omega)
   ·rw[Abm hA,List.map_append]
 ·rintro _ ⟨y,rfl⟩
  walk_at "rd"
  rw[List.take_length]
  refine⟨((Qk f u).flatMap row).map r2,?_,?_,fun rr hrr=>?_,q _ (.inr ⟨n0,AaS f n r u,AcZ du Lu al n0,fun p=>Us du Lu al n0 sr,few,rfl⟩)⟩
  ·rw[List.map_map]
   rfl
  ·rw[List.length_map]
   exact few
  ·obtain⟨p,_,rfl⟩:=List.mem_map.mp hrr
   simp[r2]
abbrev G5:DSp:=CN (fun p:List Int×Int=>[.lst (p.1.map Dt.int),.int p.2]) (fun p=>0≤p.2) fun p=>.int (p.1.getD p.2.toNat 0)
theorem Jo{Q:Dt→Prop}(ns:List Int)(k:Int)(h:0≤k)(q:Q (.int (ns.getD k.toNat 0))):G5 [.lst (ns.map Dt.int),.int k] Q:=Al (ns,k) h q
theorem Tc(T:Txt K mg)
  : Pm P w K mg base 1 "_law_cell" Eb ["_law_script","_law_k"] G5:=by
 obtain⟨f,fd,F⟩:=T.gH
 refine⟨f,fd,F,F.fn.okD TX (by walk_at "lE") fun cdv A outer s H E hr=>⟨_,(Ad (Cm (RW (dv 1) (XJ T.gM (Aa (dv 0) Ac))) (Ah (Av (Ae (dv 0) (dv 1)))) Bk) (Ah (Av Ab))),fun ds Q h=>?_⟩⟩
 obtain⟨⟨ns,k⟩,rfl,h0,q⟩:=h
 walk_at "go"
 by_cases hk:k<ns.length
 ·simp only[decide_eq_true hk,Y5 h0 hk,if_true]
  exact q _ rfl
 ·simp only[decide_eq_false hk]
  have e:ns.getD k.toNat 0=0:=by
   have:ns.length≤k.toNat:=by have h0':0≤k:=h0;omega
   simp[this]
  have q':=q _ rfl
  dsimp only at q'
  rw[e]at q'
  exact q'
abbrev Ks:DSp:=CN (fun n:Int=>[.int n]) (fun _=>True) fun _=>.bl true
theorem Rh(T:Txt K mg)
  : Pm P w K mg base 1 "_law_whole" Eo ["_law_found"] Ks:=by
 obtain⟨f,fd,F⟩:=T.fC
 refine⟨f,fd,F,F.fn.okD Rm (by walk_at "lE") fun cdv A outer s H E hr=>⟨_,(Ah (Av (XM (QC T.ak T.jL Af1 (dv 0)) (Tf (Ait (QC T.ak T.fQ AdH (dv 0))))))),fun ds Q h=>?_⟩⟩
 obtain⟨n,rfl,_,q⟩:=h
 have q':Q (.bl true):=q _ rfl
 walk_at "go"
 exact q'
def isI:Dt→Bool
 |.int _=>true
 |_=>false
abbrev FN:DSp:=CN (fun p:List Int×Int=>[.tup (p.1.map Dt.int),.int p.2]) (fun p=>p.1.length≤1000) fun p=>.bl (decide ((p.1.length:Int)=p.2))
theorem AaG{Q:Dt→Prop}(ns:List Int)(k:Int)(h:(ns.length:Int)=k)(hl:ns.length≤1000)(q:Q (.bl true)):FN [.tup (ns.map Dt.int),.int k] Q :=
 Al (ns,k) hl (by dsimp only;rw[decide_eq_true h];exact q)
theorem Afb{Q:Dt→Prop}(p:I2)(q:Q (.bl true)):FN [t2 p,.int 2] Q:=AaG [p.1,p.2] 2 rfl (by show 2≤1000;decide) q
theorem PL(T:Txt K mg)
  (jZ:Pm P w K mg base 1 "_law_whole" Eo ["_law_found"] Ks)
  : Pm P w K mg base 2 "_law_wholes" CW ["_law_found","_law_many"] FN:=by
 obtain⟨f,fd,F⟩:=T.dz
 refine⟨f,fd,F,F.fn.okD QS (by walk_at "lE") fun cdv A outer s H E hr=>⟨_,(Ad (Cm (DW.dt (LC (Ig (Il (QC T.ak T.cW AaY (dv 0)))) (Jw (Gv hr.units (XJ T.gM (Aa (dv 0) Ac)) (dv 1))))) (Ah (Av NT)) Bk) (Ah (Av (YT hr.units (XJ T.gM (Aa (Wc (Gj (sc:=Ai CW) (NN:=["_law_found","_law_many"]) (x:="_law_one") (N:=[]) (sl:=[]) rfl rfl (by decide +kernel)) rfl (AhN (dv 0)) (fun cl C s0 H0 ex=>(Il (Ag Af jZ (hr.mono (by decide)) rfl (Aa (dv 0) Ac)))) (fun cl C s0 H0 ex=>(dv 0))) Ac)) (dv 1))))),fun ds Q h=>?_⟩⟩
 obtain⟨⟨ns,k⟩,rfl,h0,q⟩:=h
 walk_at "go"
 have q':=q _ rfl
 dsimp only at q'
 by_cases hk:(ns.length:Int)=k
 ·rw[decide_eq_true hk]at q'
  simp only[decide_eq_true hk]
  walk_at "rd"
  refine Jl (ns.map Dt.int) isI id (fun R h=>h) (by rw[List.length_map];exact Ao h0) Fi (fun d hd R hR=>?_) (fun d hd hp R hR=>hR) ?_
  ·unfold inner
   walk_at "rd"
   obtain⟨n,_,rfl⟩:=List.mem_map.mp hd
   exact Al n trivial hR
  ·have e:(List.filter isI (ns.map Dt.int)).map id=ns.map Dt.int:=by
    rw[List.map_id,List.filter_eq_self]
    intro d hd
    obtain⟨n,_,rfl⟩:=List.mem_map.mp hd
    rfl
   rw[e]
   walk_at "rd"
   rw[decide_eq_true hk]
   exact q'
 ·rw[decide_eq_false hk]at q'
  simp only[decide_eq_false hk]
  exact q'
abbrev JT:DSp:=CN (fun f:I3=>[t3 f]) (fun f=>B3 2000 f) fun f=>.int (meas f)
theorem VP(T:Txt K mg)
  : Pm P w K mg base 1 "_law_bar" Ew ["_law_form"] JT:=by
 obtain⟨f,fd,F⟩:=T.iz
 refine⟨f,fd,F,F.fn.okD Wd (by walk_at "lE") fun cdv A outer s H E hr=>⟨_,(Ah (Av (Cd (Ak (Ae (dv 0) Ab) (Ae (dv 0) Ab)) (Ak (Ak Ab (Ae (dv 0) Ab)) (Ae (dv 0) Ab))))),fun ds Q h=>?_⟩⟩
 obtain⟨f,rfl,hf,q⟩:=h
 have hf:B3 2000 f:=hf
 have q':=q _ rfl
 have four:Bt 3 4:=Bt.au (by decide)
 walk_at "go"
 exact⟨hf.2.1.aj hf.2.1,four.aj hf.1,(four.mul hf.1).aj hf.2.2,q'⟩
abbrev Je:DSp:=spec (fun n:Int=>[.int n]) (fun n=>0≤n∧Bt 4000 n) fun n d=>∃r,d=.int r∧Sq n r∧Bt 2001 r
theorem UG(T:Txt K mg)
  : Pm P w K mg base 1 "_law_root" Ed ["_law_number"] Je:=by
 obtain⟨f,fd,F⟩:=T.gJ
 refine⟨f,fd,F,F.fn.okD Jx (by walk_at "lE") fun cdv A outer s H E hr=>⟨_,(Ad (Aw 1 Jx.nd (Ad3 Ab (Ck (Bl (Zt (dv 0)) Ab) Ab))) (Ad (HF PassesOwn.never (R5 (Ak (dv 1) (dv 1)) (dv 0)) (Ah (Aw 1 Jx.nd (Ck (Bl (dv 1) (Ck (dv 0) (dv 1))) Ab)))) (Ah (Av (dv 1))))),fun ds Q h=>?_⟩⟩
 obtain⟨n,rfl,⟨h0,hb⟩,q⟩:=h
 walk_at "go"
 obtain⟨c1,c2,c3⟩:=N6 hb
 have hu:=Ve h0
 refine⟨⟨by decide,by decide⟩,c1,?_⟩
 generalize (1*2 ^ ((((Builtin.Int.intBits n:Nat):Int)+1).fdiv 2).toNat:Int)=g at *
 refine HD (fun m ρ=>∃g:Int,ρ=[some (.is (.int n)),some (.is (.int g))]∧0≤g∧Bt 2001 g∧n<(g+1)*(g+1)∧m=g.toNat) _ ⟨g,rfl,by omega,c2,hu,rfl⟩ ?_
 rintro m _ ⟨g,rfl,hg,hgb,hgu,rfl⟩
 walk_at "rd"
 refine⟨hgb.aj hgb,GR (fun hw=>?_) (fun hw=>?_)⟩
 ·have hw:=of_decide_eq_true hw
  have hg0:0<g:=by
   rcases Int.lt_or_le 0 g with z|z
   ·exact z
   ·have:g=0:=by omega
    subst this
    omega
  have hd:=Wt hg0 hw
  have hu':=R9 h0 hg0
  have hp:0≤(g+n / g) / 2:=by
   have:=Int.ediv_nonneg h0 (show 0≤g by omega)
   omega
  have hbb:Bt 2001 ((g+n / g) / 2):=by unfold Bt at *;omega
  refine⟨Bt.cA hgb (by omega),⟨by decide,by decide⟩,?_⟩
  rw[Tq hg0]
  exact⟨_,by omega,_,rfl,hp,hbb,hu',rfl⟩
 ·have hw:¬n<g*g:=fun z=>hw (decide_eq_true z)
  exact q _ ⟨g,rfl,⟨by omega,by omega,hgu⟩,hgb⟩
abbrev Lz:DSp:=spec (fun p:Int×List Int=>[.int p.1,.lst (p.2.map Dt.int)]) (fun p=>p.1=0∧p.2.length≤63) fun p d=>∃t:I4,d=t4 t∧det t=1∧B4 210 t
theorem Ux(T:Txt K mg)
  : Pm P w K mg base 1 "_law_turn" Fj ["_law_first","_law_cells"] Lz:=by
 obtain⟨f,fd,F⟩:=T.gK
 refine⟨f,fd,F,F.fn.okD BW (by walk_at "lE") fun cdv A outer s H E hr=>⟨_,(Ad (HY (Bj (Aa Ab (Aa (dv 0) (Aa Ab (Aa Ab Ac))))) (Jt (n:=4) rfl (Ba (Ay 2 BW.nd) (Ba (Ay 3 BW.nd) (Ba (Ay 4 BW.nd) (Ba (Ay 5 BW.nd) Ga)))))) (Ad (Jm PassesOwn.never rfl (GP (dv 1)) (Ay 6 BW.nd) (Ad (Aw 7 BW.nd (Cd (Er (dv 6) Ab) Ab)) (Ah (HY (Bj (Aa (dv 3) (Aa (Cd (Ak (dv 7) (dv 3)) (dv 2)) (Aa (dv 5) (Aa (Cd (Ak (dv 7) (dv 5)) (dv 4)) Ac))))) (Jt (n:=4) rfl (Ba (Ay 2 BW.nd) (Ba (Ay 3 BW.nd) (Ba (Ay 4 BW.nd) (Ba (Ay 5 BW.nd) Ga))))))))) (Ah (Av (Bj (Aa (dv 2) (Aa (dv 3) (Aa (dv 4) (Aa (dv 5) Ac))))))))),fun ds Q h=>?_⟩⟩
 obtain⟨⟨f,cs⟩,rfl,⟨hf,hl⟩,q⟩:=h
 have hf:f=0:=hf
 walk_at "go"
 refine⟨Ao (by decide),?_⟩
 have low:∀{i:Nat} {x:Int},i≤63→x.natAbs≤10 ^ i→Bt 210 x:=fun{i x} hi h=>by
  have h1:(10:Nat) ^ i≤10 ^ 63:=Nat.pow_le_pow_right (by decide) hi
  have h2:(10:Nat) ^ 63<2 ^ 210:=by decide
  exact Nat.lt_of_le_of_lt h (Nat.lt_of_le_of_lt h1 h2)
 have hl:cs.length≤63:=hl
 refine G4 (cs.map Dt.int) (fun R h=>h) (fun i ρ=>∃p q r s x y,ρ=[some (.is (.int f)),some (.is (.lst (cs.map Dt.int))),some (.is (.int p)),some (.is (.int q)),some (.is (.int r)),some (.is (.int s)),x,y]∧p*s-q*r=1∧p.natAbs≤10 ^ i∧q.natAbs≤10 ^ i∧r.natAbs≤10 ^ i∧s.natAbs≤10 ^ i) ?_ ?_ ?_
 ·exact⟨1,f,0,1,none,none,rfl,by omega,by decide,by rw[hf];decide,by decide,by decide⟩
 ·rintro i d _ hi ⟨p,q,r,s,x,y,rfl,hd,hp,hq,hr,hs⟩
  obtain⟨n,hn,rfl⟩:=ints_get hi
  have hk0:n.fmod 19=n % 19:=Int.fmod_eq_emod_of_nonneg n (by decide)
  have hk:Bt 4 (n.fmod 19-9):=by
   rw[hk0]
   exact Bt.of (by omega) (by omega)
  have hi6:i<63:=by
   have:=(List.getElem?_eq_some_iff.mp hn).1
   omega
  have hq':Bt 210 q:=low (by omega) hq
  have hs':Bt 210 s:=low (by omega) hs
  have e10:10 ^ (i+1)=10*10 ^ i:=by rw[Nat.pow_succ,Nat.mul_comm]
  have up:∀{x y k:Int},k.natAbs≤9→x.natAbs≤10 ^ i→y.natAbs≤10 ^ i→(k*x-y).natAbs≤10 ^ (i+1):=fun{x y k} h1 h2 h3=>by
   have a1:(k*x).natAbs≤9*10 ^ i:=by rw[Int.natAbs_mul];exact Nat.mul_le_mul h1 h2
   rw[e10]
   omega
  have k9:(n.fmod 19-9).natAbs≤9:=by rw[hk0];omega
  walk_at "rd"
  refine⟨by decide,by walk_at "mul",by walk_at "mul",Ao (by decide),?_⟩
  refine⟨q,(n.fmod 19-9)*q-p,s,(n.fmod 19-9)*s-r,_,_,rfl,by grind,by omega,up k9 hq hp,by omega,up k9 hs hr⟩
 ·rintro _ ⟨p,q',r,s,x,y,rfl,hd,hp,hq,hr,hs⟩
  walk_at "rd"
  rw[List.length_map]at hp hq hr hs
  refine⟨Ao (by decide),q _ ⟨(p,q',r,s),rfl,hd,low hl hp,low hl hq,low hl hr,low hl hs⟩⟩
abbrev Kr:DSp:=CN (fun p:I3×I2=>[t3 p.1,.int p.2.1,.int p.2.2]) (fun p=>B3 20000 p.1∧B2 300100 p.2) fun p=>.int (val p.1 p.2)
theorem Rj(T:Txt K mg)
  : Pm P w K mg base 1 "_law_value" Eh ["_law_form","_law_x","_law_y"] Kr:=by
 obtain⟨f,fd,F⟩:=T.fD
 refine⟨f,fd,F,F.fn.okD Rk (by walk_at "lE") fun cdv A outer s H E hr=>⟨_,(Ah (Av (Bl (Bl (Ak (Ak (Ae (dv 0) Ab) (dv 1)) (dv 1)) (Ak (Ak (Ae (dv 0) Ab) (dv 1)) (dv 2))) (Ak (Ak (Ae (dv 0) Ab) (dv 2)) (dv 2))))),fun ds Q h=>?_⟩⟩
 obtain⟨⟨⟨a,b,c⟩,x,y⟩,rfl,⟨⟨ha,hb,hc⟩,hx,hy⟩,q⟩:=h
 walk_at "go"
 walk_at "muls"
 exact q _ rfl
abbrev Kv:DSp:=CN (fun p:I3×I4=>[t3 p.1,t4 p.2]) (fun p=>B3 20000 p.1∧B4 300000 p.2) fun p=>t3 (mov p.1 p.2)
theorem Ru(T:Txt K mg)
  (aR:Pm P w K mg base 1 "_law_value" Eh ["_law_form","_law_x","_law_y"] Kr)
  : Pm P w K mg base 2 "_law_moved" Ej ["_law_form","_law_turn_here"] Kv:=by
 obtain⟨f,fd,F⟩:=T.fG
 refine⟨f,fd,F,F.fn.okD DP (by walk_at "lE") fun cdv A outer s H E hr=>⟨_,(Ad (HY (dv 1) (Jt (n:=4) rfl (Ba (Ay 2 DP.nd) (Ba (Ay 3 DP.nd) (Ba (Ay 4 DP.nd) (Ba (Ay 5 DP.nd) Ga)))))) (Ad (Aw 6 DP.nd (Cd (Cd (Ag Af aR (hr.mono (by decide)) rfl (Aa (dv 0) (Aa (Bl (dv 2) (dv 3)) (Aa (Bl (dv 4) (dv 5)) Ac)))) (Ag Af aR (hr.mono (by decide)) rfl (Aa (dv 0) (Aa (dv 2) (Aa (dv 4) Ac))))) (Ag Af aR (hr.mono (by decide)) rfl (Aa (dv 0) (Aa (dv 3) (Aa (dv 5) Ac)))))) (Ah (Av (Bj (Aa (Ag Af aR (hr.mono (by decide)) rfl (Aa (dv 0) (Aa (dv 2) (Aa (dv 4) Ac)))) (Aa (dv 6) (Aa (Ag Af aR (hr.mono (by decide)) rfl (Aa (dv 0) (Aa (dv 3) (Aa (dv 5) Ac)))) Ac)))))))),fun ds Q h=>?_⟩⟩
 obtain⟨⟨f,e,g,i,j⟩,rfl,⟨hf,he,hg,hi,hj⟩,q⟩:=h
 walk_at "go"
 have h1:B2 300100 (e+g,i+j):=⟨(he.add hg).le (by decide),(hi.add hj).le (by decide)⟩
 have h2:B2 300100 (e,i):=⟨he.le (by decide),hi.le (by decide)⟩
 have h3:B2 300100 (g,j):=⟨hg.le (by decide),hj.le (by decide)⟩
 refine Al (f,(e+g,i+j)) ⟨hf,h1⟩ (Al (f,(e,i)) ⟨hf,h2⟩ ?_)
 walk_at "rd"
 refine Al (f,(g,j)) ⟨hf,h3⟩ ?_
 walk_at "rd"
 refine Al (f,(e,i)) ⟨hf,h2⟩ (Al (f,(g,j)) ⟨hf,h3⟩ ⟨Ao (by decide),?_⟩)
 have q':=q _ rfl
 dsimp only[mov]at q'
 have em:val f (e+g,i+j)-val f (e,i)-val f (g,j)=mid f (e,i) (g,j):=by
  obtain⟨a,b,c⟩:=f
  simp only[val,mid];grind
 rw[em]
 exact q'
theorem ZS{n:Nat}{a b:Int}(ha:Bt n a)(h:b≠0):Bt (n+1) (a.fdiv b):=by
 have hb:1≤b.natAbs:=by omega
 have h1:=ZX (a:=a) h
 have e:b*a.fdiv b=a-a.fmod b:=by rw[Kf];grind
 have e2:b.natAbs*(a.fdiv b).natAbs=(a-a.fmod b).natAbs:=by rw[←Int.natAbs_mul,e]
 unfold Bt at *
 rw[Nat.pow_succ]
 by_cases h0:a.fdiv b=0
 ·rw[h0];have:=Nat.two_pow_pos n;simp;omega
 ·rcases Nat.lt_or_ge a.natAbs b.natAbs with hc|hc
  ·have h3:(a-a.fmod b).natAbs<2*b.natAbs:=by omega
   have h4:(a.fdiv b).natAbs<2:=by
    refine Nat.lt_of_mul_lt_mul_left (a:=b.natAbs) ?_
    rw[e2];omega
   have:=Nat.two_pow_pos n
   omega
  ·have h3:(a-a.fmod b).natAbs≤2*a.natAbs:=by omega
   have h4:(a.fdiv b).natAbs≤b.natAbs*(a.fdiv b).natAbs:=Nat.le_mul_of_pos_left _ hb
   omega
abbrev JG:DSp:=spec (fun f:I3=>[t3 f]) (fun f=>B3 800 f∧Bs f) fun f d=>∃t,d=.lst [t3 (mov f t),t4 t]∧det t=1∧BJ (mov f t)∧B4 9000 t∧B3 7000 (mov f t)
theorem IV{a b c:Int}(h0:0<a):(-a<b∧b≤a∧a<c)∨(0≤b∧b≤a∧a=c)↔BJ (a,b,c):=by
 constructor
 ·rintro(⟨h1,h2,h3⟩|⟨h1,h2,h3⟩)
  ·exact⟨h0,by show -a≤b;omega,h2,by show a≤c;omega,fun z=>by rcases z with z|z<;>(have z:_=_:=z;dsimp only at z;omega)⟩
  ·exact⟨h0,by show -a≤b;omega,h2,by show a≤c;omega,fun _=>h1⟩
 ·rintro⟨h1,h2,h3,h4,h5⟩
  have h2:-a≤b:=h2
  have h3:b≤a:=h3
  have h4:a≤c:=h4
  have h5:b=-a∨a=c→0≤b:=h5
  by_cases z:a=c
  ·exact .inr ⟨h5 (.inr z),h3,z⟩
  ·refine .inl ⟨?_,h3,by omega⟩
   rcases Int.lt_or_eq_of_le h2 with w|w
   ·exact w
   ·have:=h5 (.inl w.symm);omega
theorem Ace{a b k:Int}(h0:0<a)(hk:k=(a-b).fdiv (2*a)):-a<b+2*a*k∧b+2*a*k≤a:=by
 have h1:=CK (a-b) (m:=2*a) (by omega)
 have h2:=Int.fmod_def (a-b) (2*a)
 rw[←hk]at h2
 omega
def M8(f:I3)(m:Nat)(ρ:Bv):Prop:=∃(a b c:Int)(t:I4)(x:Option En),ρ=[some (.is (t3 f)),some (.is (.int a)),some (.is (.int b)),some (.is (.int c)),some (.is (.int t.1)),some (.is (.int t.2.1)),some (.is (.int t.2.2.1)),some (.is (.int t.2.2.2)),x]∧mov f t=(a,b,c)∧det t=1∧Bt 1500 a∧Bt 1500 b∧(BJ (a,b,c)→m=2*a.toNat)∧(¬BJ (a,b,c)→m=2*a.toNat+1)
theorem Ot(T:Txt K mg)
  : Pm P w K mg base 1 "_law_settled" Di ["_law_form"] JG:=by
 obtain⟨f,fd,F⟩:=T.cP
 refine⟨f,fd,F,F.fn.okD Bb (by walk_at "lE") fun cdv A outer s H E hr=>⟨_,(Ad (HY (dv 0) (Jt (n:=3) rfl (Ba (Ay 1 Bb.nd) (Ba (Ay 2 Bb.nd) (Ba (Ay 3 Bb.nd) Ga))))) (Ad (HY (Bj (Aa Ab (Aa Ab (Aa Ab (Aa Ab Ac))))) (Jt (n:=4) rfl (Ba (Ay 4 Bb.nd) (Ba (Ay 5 Bb.nd) (Ba (Ay 6 Bb.nd) (Ba (Ay 7 Bb.nd) Ga)))))) (Ad (HF PassesOwn.never (Ig (DW.dt (LC (Nt VG Ob VG Fe Fe Fe  (Cd Ab (dv 1)) (dv 2) (dv 1) (dv 3)) (Jw (Nt Ob Ob (XQ hr.units) Fe Fe Yp  Ab (dv 2) (dv 1) (dv 3)))))) (Ad (Aw 8 Bb.nd (Ck (Cd (dv 1) (dv 2)) (Ak Ab (dv 1)))) (Ad (Z7 rfl Bb.nd 2 3 (Aa (Bl (dv 2) (Ak (Ak Ab (dv 1)) (dv 8))) (Aa (Bl (Bl (Ak (Ak (dv 1) (dv 8)) (dv 8)) (Ak (dv 2) (dv 8))) (dv 3)) Ac))) (Ad (Z7 rfl Bb.nd 5 7 (Aa (Bl (dv 5) (Ak (dv 8) (dv 4))) (Aa (Bl (dv 7) (Ak (dv 8) (dv 6))) Ac))) (Ah (Cm (DW.dt (LC (R5 (dv 1) (dv 3)) (Jw (DW.dt (Xb (HS hr.units (dv 1) (dv 3)) (Ul (RW (dv 2) Ab))))))) (Ad (Afl rfl Bb.nd 1 2 3 (Aa (dv 3) (Aa (Cd Ab (dv 2)) (Aa (dv 1) Ac)))) (Ah (HY (Bj (Aa (dv 5) (Aa (Cd Ab (dv 4)) (Aa (dv 7) (Aa (Cd Ab (dv 6)) Ac))))) (Jt (n:=4) rfl (Ba (Ay 4 Bb.nd) (Ba (Ay 5 Bb.nd) (Ba (Ay 6 Bb.nd) (Ba (Ay 7 Bb.nd) Ga)))))))) Bk)))))) (Ah (Av (Fb (Aa (Bj (Aa (dv 1) (Aa (dv 2) (Aa (dv 3) Ac)))) (Aa (Bj (Aa (dv 4) (Aa (dv 5) (Aa (dv 6) (Aa (dv 7) Ac))))) Ac)))))))),fun ds Q h=>?_⟩⟩
 obtain⟨f,rfl,⟨hb,hw⟩,q⟩:=h
 have hw:Bs f:=hw
 have hb8:B3 800 f:=hb
 have hb:B3 1500 f:=hb8.le (by decide)
 have q:∀d,(∃t,d=.lst [t3 (mov f t),t4 t]∧det t=1∧BJ (mov f t)∧B4 9000 t∧B3 7000 (mov f t))→Q d:=q
 have hm:Bt 3010 (meas f):=by
  obtain⟨h1,h2,h3⟩:=hb
  have h4:Bt 3 4:=Bt.au (by decide)
  exact((h2.mul h2).sub ((h4.mul h1).mul h3)).le (by decide)
 have two:Bt 2 2:=Bt.au (by decide)
 walk_at "go"
 obtain⟨m0,hm1,hm2⟩:∃m0,(BJ f→m0=2*f.1.toNat)∧(¬BJ f→m0=2*f.1.toNat+1):=by
  by_cases z:BJ f
  ·exact⟨_,fun _=>rfl,fun h=>absurd z h⟩
  ·exact⟨_,fun h=>absurd h z,fun _=>rfl⟩
 refine⟨Ao (by decide),HD (M8 f) m0 ⟨f.1,f.2.1,f.2.2,(1,0,0,1),none,rfl,Ec,rfl,hb.1,hb.2.1,hm1,hm2⟩ ?_⟩
 rintro m _ ⟨a,b,c,t,x,rfl,et,dt,ba,bb,m1,m2⟩
 have hg:Bs (a,b,c):=by rw[←et];exact J4 hw dt
 have hgb:B3 7000 (a,b,c):=(Aac hg ba bb (by rw[←et,Bu dt];exact hm)).le (by decide)
 have a0:0<a:=hg.1
 have c0:0<c:=Mw hg
 have bk:Bt 1502 ((a-b).fdiv (2*a)):=ZS (ba.sub bb) (by omega)
 have ⟨s1,s2⟩:=Ace (b:=b) a0 rfl
 walk_at "rd"
 obtain⟨K,eK⟩:∃K,(a-b).fdiv (2*a)=K:=⟨_,rfl⟩
 rw[eK]at bk s1 s2 ⊢
 obtain⟨b',eb⟩:∃x,b+2*a*K=x:=⟨_,rfl⟩
 obtain⟨c',ec⟩:∃x,a*K*K+b*K+c=x:=⟨_,rfl⟩
 rw[eb]at s1 s2
 have em:mov f (Aj t (1,K,0,1))=(a,b',c'):=by
  rw[←Bc,et,←eb,←ec]
  simp only[mov,val,mid,Prod.mk.injEq]
  refine⟨?_,?_,?_⟩<;>grind
 have dm:det (Aj t (1,K,0,1))=1:=by
  rw[BK,dt]
  show 1*(1*1-K*0)=1
  omega
 have hg':Bs (a,b',c'):=by rw[←em];exact J4 hw dm
 have c0':0<c':=Mw hg'
 have es:mov f (Aj (Aj t (1,K,0,1)) (0,-1,1,0))=(c',0-b',a):=by
  rw[←Bc,em]
  simp only[mov,val,mid,Prod.mk.injEq]
  refine⟨?_,?_,?_⟩<;>grind
 have ds:det (Aj (Aj t (1,K,0,1)) (0,-1,1,0))=1:=by rw[BK,dm];rfl
 have bb':Bt 1500 b':=by unfold Bt at *;omega
 have bt:B4 8900 t:=Tj hw hb (m:=7000) (by rw[et];exact hgb) (by decide)
 have e1:Aj t (1,K,0,1)=(t.1,t.2.1+K*t.1,t.2.2.1,t.2.2.2+K*t.2.2.1):=by
  simp only[Aj,Prod.mk.injEq]
  refine⟨?_,?_,?_,?_⟩<;>grind
 rw[e1]at em dm es ds
 have e2:Aj (t.1,t.2.1+K*t.1,t.2.2.1,t.2.2.2+K*t.2.2.1) (0,-1,1,0)=(t.2.1+K*t.1,0-t.1,t.2.2.2+K*t.2.2.1,0-t.2.2.1):=by
  simp only[Aj,Prod.mk.injEq]
  refine⟨?_,?_,?_,?_⟩<;>grind
 rw[e2]at es ds
 have stay:¬BJ (a,b,c)→BJ (a,b',c')→∃m',m'<m∧M8 f m' [some (.is (t3 f)),some (.is (.int (a))),some (.is (.int (b'))),some (.is (.int (c'))),some (.is (.int (t.1))),some (.is (.int (t.2.1+K*t.1))),some (.is (.int (t.2.2.1))),some (.is (.int (t.2.2.2+K*t.2.2.1))),some (.is (.int K))]:=fun n L=>⟨2*a.toNat,by rw[m2 n];omega,a,b',c',(t.1,t.2.1+K*t.1,t.2.2.1,t.2.2.2+K*t.2.2.1),_,rfl,em,dm,ba,bb',fun _=>rfl,fun z=>absurd L z⟩
 have body:¬BJ (a,b,c)→(IntMulOk 2 a∧CDv (a-b) (2*a)∧IntMulOk 2 a∧IntMulOk (2*a) K∧IntMulOk a K∧IntMulOk (a*K) K∧IntMulOk b K∧IntMulOk K t.1∧IntMulOk K t.2.2.1∧if decide (a*K*K+b*K+c<a)=true then 4≤sizeLine∧∃m',m'<m∧M8 f m' [some (.is (t3 f)),some (.is (.int (a*K*K+b*K+c))),some (.is (.int (0-(b+2*a*K)))),some (.is (.int (a))),some (.is (.int (t.2.1+K*t.1))),some (.is (.int (0-t.1))),some (.is (.int (t.2.2.2+K*t.2.2.1))),some (.is (.int (0-t.2.2.1))),some (.is (.int K))]else
   if decide (a=a*K*K+b*K+c)=true then if decide (b+2*a*K<0)=true then 4≤sizeLine∧∃m',m'<m∧M8 f m' [some (.is (t3 f)),some (.is (.int (a*K*K+b*K+c))),some (.is (.int (0-(b+2*a*K)))),some (.is (.int (a))),some (.is (.int (t.2.1+K*t.1))),some (.is (.int (0-t.1))),some (.is (.int (t.2.2.2+K*t.2.2.1))),some (.is (.int (0-t.2.2.1))),some (.is (.int K))]else ∃m',m'<m∧M8 f m' [some (.is (t3 f)),some (.is (.int (a))),some (.is (.int (b+2*a*K))),some (.is (.int (a*K*K+b*K+c))),some (.is (.int (t.1))),some (.is (.int (t.2.1+K*t.1))),some (.is (.int (t.2.2.1))),some (.is (.int (t.2.2.2+K*t.2.2.1))),some (.is (.int K))]
   else ∃m',m'<m∧M8 f m' [some (.is (t3 f)),some (.is (.int (a))),some (.is (.int (b+2*a*K))),some (.is (.int (a*K*K+b*K+c))),some (.is (.int (t.1))),some (.is (.int (t.2.1+K*t.1))),some (.is (.int (t.2.2.1))),some (.is (.int (t.2.2.2+K*t.2.2.1))),some (.is (.int K))]):=fun n=>by
  rw[eb,ec]
  refine⟨two.aj ba,Bt.cA (two.mul ba) (by omega),two.aj ba,(two.mul ba).aj bk,ba.aj bk,(ba.mul bk).aj bk,bb.aj bk,bk.aj bt.1,bk.aj bt.2.2.1,GR (fun h1=>?_) (fun h1=>GR (fun h2=>GR (fun h3=>?_) (fun h3=>?_)) (fun h2=>?_))⟩
  ·have h1:=of_decide_eq_true h1
   have bc':Bt 1500 c':=by unfold Bt at *;omega
   have bn:Bt 1500 (0-b'):=by unfold Bt at *;omega
   refine⟨Ao (by decide),?_⟩
   by_cases z:BJ (c',0-b',a)
   ·exact⟨2*c'.toNat,by rw[m2 n];omega,c',0-b',a,(t.2.1+K*t.1,0-t.1,t.2.2.2+K*t.2.2.1,0-t.2.2.1),_,rfl,es,ds,bc',bn,fun _=>rfl,fun w=>absurd z w⟩
   ·exact⟨2*c'.toNat+1,by rw[m2 n];omega,c',0-b',a,(t.2.1+K*t.1,0-t.1,t.2.2.2+K*t.2.2.1,0-t.2.2.1),_,rfl,es,ds,bc',bn,fun w=>absurd w z,fun _=>rfl⟩
  ·have h2:=of_decide_eq_true h2
   have h3:=of_decide_eq_true h3
   have bc':Bt 1500 c':=by unfold Bt at *;omega
   have bn:Bt 1500 (0-b'):=by unfold Bt at *;omega
   have L:BJ (c',0-b',a):=(IV c0').mp (.inr ⟨by omega,by omega,by omega⟩)
   exact⟨Ao (by decide),2*c'.toNat,by rw[m2 n];omega,c',0-b',a,(t.2.1+K*t.1,0-t.1,t.2.2.2+K*t.2.2.1,0-t.2.2.1),_,rfl,es,ds,bc',bn,fun _=>rfl,fun w=>absurd L w⟩
  ·have h2:=of_decide_eq_true h2
   have h3:¬b'<0:=fun z=>h3 (decide_eq_true z)
   exact stay n ((IV a0).mp (.inr ⟨by omega,by omega,h2⟩))
  ·have h1:¬c'<a:=fun z=>h1 (decide_eq_true z)
   have h2:¬a=c':=fun z=>h2 (decide_eq_true z)
   exact stay n ((IV a0).mp (.inl ⟨by omega,by omega,by omega⟩))
 by_cases hL:BJ (a,b,c)
 ·have fin:3≤sizeLine∧4≤sizeLine∧2≤sizeLine∧Q (Dt.lst [Dt.tup [Dt.int a,Dt.int b,Dt.int c],Dt.tup [Dt.int t.1,Dt.int t.2.1,Dt.int t.2.2.1,Dt.int t.2.2.2]]):=⟨Ao (by decide),Ao (by decide),Ao (by decide),q _ ⟨t,by rw[et],dt,by rw[et];exact hL,bt.le (by decide),by rw[et];exact hgb⟩⟩
  rcases(IV a0).mpr hL with⟨h1,h2,h3⟩|⟨h1,h2,h3⟩
  ·exact ift (decide_eq_true (by omega)) (ift (decide_eq_true h2) (ift (decide_eq_true h3) fin))
  ·exact ift (decide_eq_true (by omega)) (ift (decide_eq_true h2) (EY (decide_eq_false (by omega)) (ift (decide_eq_true h1) (ift (decide_eq_true h2) (EY (by rw[decide_eq_true h3];rfl) fin)))))
 ·have bd:=body hL
  have nx:¬((-a<b∧b≤a∧a<c)∨(0≤b∧b≤a∧a=c)):=fun z=>hL ((IV a0).mp z)
  refine GR (fun h1=>GR (fun h2=>GR (fun h3=>absurd (.inl ⟨?_,of_decide_eq_true h2,of_decide_eq_true h3⟩) nx) (fun _=>GR (fun h4=>GR (fun h5=>GR (fun _=>bd) (fun h6=>absurd (.inr ⟨of_decide_eq_true h4,of_decide_eq_true h5,?_⟩) nx)) (fun _=>bd)) (fun _=>bd))) (fun _=>GR (fun h4=>GR (fun h5=>GR (fun _=>bd) (fun h6=>absurd (.inr ⟨of_decide_eq_true h4,of_decide_eq_true h5,?_⟩) nx)) (fun _=>bd)) (fun _=>bd))) (fun _=>GR (fun h4=>GR (fun h5=>GR (fun _=>bd) (fun h6=>absurd (.inr ⟨of_decide_eq_true h4,of_decide_eq_true h5,?_⟩) nx)) (fun _=>bd)) (fun _=>bd))
  ·have:=of_decide_eq_true h1;omega
  all_goals
   simp only[Bool.not_eq_true',decide_eq_false_iff_not,Decidable.not_not]at h6
   exact h6
structure AcW(o:Int)(f:I3):Prop where
 o1:1≤o
 o2:o≤20
 bo:Bs f
 n4:(f.1*o*o).natAbs≤400
 bt:B3 80 f
abbrev Ky:DSp:=spec (fun p:List Int×Int=>[.lst (p.1.map Dt.int),.int p.2]) (fun p=>(1≤p.2∧p.2≤400)∧(p.1.getD 0 0).fmod 2=0) fun p d=>∃o f,d=.lst [.int o,t3 f]∧AcW o f
theorem Q5(T:Txt K mg)
  (aA:Pm P w K mg base 1 "_law_cell" Eb ["_law_script","_law_k"] G5)
  : Pm P w K mg base 2 "_law_taken" Ep ["_law_script","_law_most"] Ky:=by
 obtain⟨f,fd,F⟩:=T.fH
 refine⟨f,fd,F,F.fn.okD Ce (by walk_at "lE") fun cdv A outer s H E hr=>⟨_,(Ad (Aw 2 Ce.nd (Ag Af aA (hr.mono (by decide)) rfl (Aa (dv 0) (Aa Ab Ac)))) (Ad (Aw 3 Ce.nd (Ae (Fb (Aa Ab (Aa Ab (Aa Ab (Aa (Bl Ab (Er (Ck (dv 2) Ab) Ab)) Ac))))) (Er (Ck (dv 2) Ab) Ab))) (Ad (Aw 4 Ce.nd (Bl Ab (Er (Ck (dv 2) Ab) (Adx T.iD (Aa Ab (Aa (Ck (dv 1) (Ak (dv 3) (dv 3))) Ac)))))) (Ad (Aw 5 Ce.nd (Er (Ag Af aA (hr.mono (by decide)) rfl (Aa (dv 0) (Aa Ab Ac))) (Ak Ab (dv 4)))) (Ad (Cm (HS hr.units (Er (dv 2) Ab) Ab) (Ad (Aw 6 Ce.nd (Ae (Fb (Aa Ab (Aa (AiS Ab Ab) Ac))) (Er (Ck (dv 2) Ab) Ab))) (Ah (Av (Fb (Aa (dv 3) (Aa (Bj (Aa (dv 4) (Aa (dv 5) (Aa (Bl (Bl (Ck (Ak (dv 5) (dv 5)) (Ak Ab (dv 4))) Ab) (Er (Ag Af aA (hr.mono (by decide)) rfl (Aa (dv 0) (Aa Ab Ac))) (dv 6))) Ac)))) Ac)))))) Bk) (Ad (Aw 7 Ce.nd (Er (Ak (dv 5) (dv 5)) (Ak Ab (dv 4)))) (Ad (Aw 8 Ce.nd (Bl (dv 7) (Ak (Ak Ab (dv 4)) (Er (Ag Af aA (hr.mono (by decide)) rfl (Aa (dv 0) (Aa Ab Ac))) (Bl Ab (Ck (Cd Ab (dv 7)) (Ak Ab (dv 4)))))))) (Ad (Aw 9 Ce.nd (Cd Ab (Ak Ab (Er (Ck (dv 2) Ab) Ab)))) (Ah (Av (Fb (Aa (dv 3) (Aa (Bj (Aa (Ak (dv 9) (dv 4)) (Aa (dv 5) (Aa (Ak (dv 9) (Ck (Cd (Ak (dv 5) (dv 5)) (dv 8)) (Ak Ab (dv 4)))) Ac)))) Ac))))))))))))),fun ds Q h=>?_⟩⟩
 obtain⟨⟨ns,most⟩,rfl,⟨⟨hm1,hm4⟩,ev⟩,q⟩:=h
 have hm1:1≤most:=hm1
 have hm4:most≤400:=hm4
 have q:∀d,(∃o f,d=.lst [.int o,t3 f]∧AcW o f)→Q d:=q
 have cp:Abj 10 20:=⟨by decide,by decide,by decide⟩
 walk_at "go"
 refine Jo ns 0 (by decide) ?_
 obtain⟨c,ec⟩:∃c,ns.getD (Int.toNat 0) 0=c:=⟨_,rfl⟩
 have ev:c.fmod 2=0:=by rw[←ec];exact ev
 rw[ec]
 walk_at "rd"
 have c16:=CK (c.fdiv 16) (m:=20) (by decide)
 have c2:=CK (c.fdiv 2) (m:=4) (by decide)
 obtain⟨o,eo,ho⟩:=Y8 (zs:=[1,1,1,1+(c.fdiv 16).fmod 20]) (k:=(c.fdiv 2).fmod 4) (P:=fun z=>1≤z∧z≤20) c2.1 (by simpa using c2.2) (fun z hz=>by
  simp only[List.mem_cons,List.not_mem_nil,or_false]at hz
  omega)
 simp only[List.map_cons,List.map_nil]at eo
 rw[eo]
 obtain⟨o1,o2⟩:=ho
 have bo:Bt 6 o:=Bt.of (by omega) (by omega)
 have oo:0<o*o:=Int.mul_pos (by omega) (by omega)
 have o4:o*o≤400:=by
  have:=Int.mul_le_mul o2 o2 (by omega) (by omega)
  omega
 walk_at "rd"
 obtain⟨w,ew⟩:∃w,(if most.fdiv (o*o)>1 then most.fdiv (o*o)else 1)=w:=⟨_,rfl⟩
 rw[ew]
 have w1:1≤w:=by rw[←ew];split<;>omega
 have dv:=Int.fmod_add_mul_fdiv most (o*o)
 have dr:=CK most oo
 have w4:w*(o*o)≤400:=by
  rw[←ew]
  split
  ·rw[Int.mul_comm];omega
  ·omega
 have rm:=CK (c.fdiv 400) (m:=w) (by omega)
 obtain⟨m,em⟩:∃m,1+(c.fdiv 400).fmod w=m:=⟨_,rfl⟩
 rw[em]
 have m1:1≤m:=by omega
 have mw:m≤w:=by omega
 have m4:m*(o*o)≤400:=by
  have:=Int.mul_le_mul_of_nonneg_right mw (show 0≤o*o by omega)
  omega
 have uJ:m≤400:=by
  have:=Int.mul_le_mul_of_nonneg_left (show 1≤o*o by omega) (show 0≤m by omega)
  omega
 have bm:Bt 9 m:=Bt.of (by omega) (by omega)
 have two:Bt 2 2:=Bt.au (by decide)
 have four:Bt 3 4:=Bt.au (by decide)
 refine⟨⟨by decide,by decide⟩,by decide,Ao (by decide),⟨by decide,by decide⟩,by decide,⟨by decide,by decide⟩,bo.aj bo,Bt.cA (bo.mul bo) (by omega),by omega,Jo ns 1 (by decide) ⟨two.aj bm,?_⟩⟩
 obtain⟨b,eb⟩:∃b,(ns.getD (Int.toNat 1) 0).fmod (2*m)=b:=⟨_,rfl⟩
 have rb:=CK (ns.getD (Int.toNat 1) 0) (m:=2*m) (by omega)
 rw[eb]at rb
 walk_at "rd"
 rw[eb]
 have bb:Bt 10 b:=Bt.of (by omega) (by omega)
 have b0:=sq_nonneg b
 refine⟨by omega,by decide,ift (decide_eq_true ev) ?_⟩
 ·have c8:=CK (c.fdiv 8) (m:=2) (by decide)
  obtain⟨sz,es,hs⟩:=Y8 (zs:=[60,10 ^ Int.toNat 20]) (k:=(c.fdiv 8).fmod 2) (P:=fun z=>1≤z∧z≤2 ^ 67) c8.1 (by simpa using c8.2) (fun z hz=>by
   simp only[List.mem_cons,List.not_mem_nil,or_false]at hz
   rcases hz with rfl|rfl<;>decide)
  simp only[List.map_cons,List.map_nil]at es
  rw[es]
  refine⟨cp,Ao (by decide),⟨by decide,by decide⟩,by decide,bb.aj bb,four.aj bm,Bt.cA (four.mul bm) (by omega),Jo ns 2 (by decide) ⟨by omega,Ao (by decide),Ao (by decide),?_⟩⟩
  have rz:=CK (ns.getD (Int.toNat 2) 0) (m:=sz) (by omega)
  obtain⟨e,ee⟩:∃e,(ns.getD (Int.toNat 2) 0).fmod sz=e:=⟨_,rfl⟩
  rw[ee]at rz ⊢
  have d4:=Int.fmod_add_mul_fdiv (b*b) (4*m)
  have r4:=CK (b*b) (m:=4*m) (by omega)
  obtain⟨h,eh⟩:∃h,(b*b).fdiv (4*m)=h:=⟨_,rfl⟩
  rw[eh]at d4 ⊢
  have h0:0≤h:=by
   rcases Int.lt_or_le h 0 with z|z
   ·have:=Int.mul_le_mul_of_nonneg_left (show h≤-1 by omega) (show 0≤4*m by omega)
    omega
   ·exact z
  have hh:h≤b*b:=by
   have:=Int.mul_le_mul_of_nonneg_right (show 1≤4*m by omega) h0
   omega
  have bbq:b*b≤800*800:=Int.mul_le_mul (by omega) (by omega) (by omega) (by omega)
  have bc:Bt 80 (h+1+e):=Bt.of (by omega) (by omega)
  have e1:4*m*(h+1+e)=4*m*h+4*m+4*m*e:=by grind
  have e2:=Int.mul_nonneg (show 0≤4*m by omega) rz.1
  refine q _ ⟨o,(m,b,h+1+e),rfl,o1,o2,⟨by show 0<m;omega,by show b*b-4*m*(h+1+e)<0;omega⟩,?_,⟨bm.le (by decide),bb.le (by decide),bc⟩⟩
  show(m*o*o).natAbs≤400
  rw[Int.mul_assoc]
  have:=Int.mul_nonneg (show 0≤m by omega) (show 0≤o*o by omega)
  omega
abbrev N8:DSp:=spec (fun p:I3×Int×Int=>[t3 p.1,.int p.2.1,.int p.2.2]) (fun p=>B3 400 p.1∧0<p.1.1∧Bt 400 p.2.1∧Bt 400 p.2.2) fun p d=>∃xs:List Int,d=.lst (xs.map fun x=>t2 (x,p.2.2))∧xs.Pairwise (· < ·)∧(∀x,x∈xs↔val p.1 (x,p.2.2)=p.2.1)∧xs.length≤2
theorem AeD{a b c n x y:Int}(h:0<a):val (a,b,c) (x,y)=n↔(2*a*x+b*y)*(2*a*x+b*y)=4*a*n+meas (a,b,c)*y*y:=by
 have e:(2*a*x+b*y)*(2*a*x+b*y)-meas (a,b,c)*y*y=4*a*val (a,b,c) (x,y):=by
  simp only[val,meas]
  grind
 constructor
 ·intro z
  rw[z]at e
  omega
 ·intro z
  have:4*a*val (a,b,c) (x,y)=4*a*n:=by omega
  exact Int.eq_of_mul_eq_mul_left (by omega) this
theorem VH(T:Txt K mg)
  (cT:Pm P w K mg base 1 "_law_root" Ed ["_law_number"] Je)
  (dR:Pm P w K mg base 1 "_law_bar" Ew ["_law_form"] JT)
  : Pm P w K mg base 2 "_law_row" Gd ["_law_least","_law_number","_law_y"] N8:=by
 obtain⟨f,fd,F⟩:=T.iB
 refine⟨f,fd,F,F.fn.okD Dq (by walk_at "lE") fun cdv A outer s H E hr=>⟨_,(Ad (HY (dv 0) (Jt (n:=3) rfl (Ba (Ay 3 Dq.nd) (Ba (Ay 4 Dq.nd) (Ba (Ay 5 Dq.nd) Ga))))) (Ad (Aw 6 Dq.nd (Bl (Ak (Ak Ab (dv 3)) (dv 1)) (Ak (Ak (Ag Af dR (hr.mono (by decide)) rfl (Aa (dv 0) Ac)) (dv 2)) (dv 2)))) (Ad (Cm (RW (dv 6) Ab) (Ah (Av (Fb Ac))) Bk) (Ad (Aw 7 Dq.nd (Ag Af cT (hr.mono (by decide)) rfl (Aa (dv 6) Ac))) (Ad (Cm (Gv hr.units (Ak (dv 7) (dv 7)) (dv 6)) (Ah (Av (Fb Ac))) Bk) (Ad (MN 8 Dq.nd Ac) (Ad (Jm PassesOwn.never rfl (GP (Yq T.aM T.jO rfl (Fb (Aa (Cd (Cd Ab (Ak (dv 4) (dv 2))) (dv 7)) (Aa (Bl (Cd Ab (Ak (dv 4) (dv 2))) (dv 7)) Ac))))) (Ay 9 Dq.nd) (Ah (Cm (HS hr.units (Er (dv 9) (Ak Ab (dv 3))) Ab) (Ah (Mz 8 (Bj (Aa (Ck (dv 9) (Ak Ab (dv 3))) (Aa (dv 2) Ac))))) Bk))) (Ah (Nx 8 (Av (dv 8))))))))))),fun ds Q h=>?_⟩⟩
 obtain⟨⟨⟨a,b,c⟩,n,y⟩,rfl,⟨hb,a0,bn,by'⟩,q⟩:=h
 have hb:B3 400 (a,b,c):=hb
 have a0:0<a:=a0
 have bn:Bt 400 n:=bn
 have by':Bt 400 y:=by'
 have q:∀d,(∃xs:List Int,d=.lst (xs.map fun x=>t2 (x,y))∧xs.Pairwise (· < ·)∧(∀x,x∈xs↔val (a,b,c) (x,y)=n)∧xs.length≤2)→Q d:=q
 walk_at "go"
 have four:Bt 3 4:=Bt.au (by decide)
 have two:Bt 2 2:=Bt.au (by decide)
 refine⟨four.aj hb.1,(four.mul hb.1).aj bn,Al (a,b,c) (hb.le (by decide)) ?_⟩
 have bm:Bt 810 (meas (a,b,c)):=((hb.2.1.mul hb.2.1).sub ((four.mul hb.1).mul hb.2.2)).le (by decide)
 refine⟨bm.aj by',(bm.mul by').aj by',?_⟩
 obtain⟨R,eR⟩:∃R,4*a*n+meas (a,b,c)*y*y=R:=⟨_,rfl⟩
 have bR:Bt 4000 R:=by rw[←eR];exact(((four.mul hb.1).mul bn).add ((bm.mul by').mul by')).le (by decide)
 rw[eR]
 have ri:∀x,val (a,b,c) (x,y)=n↔(2*a*x+b*y)*(2*a*x+b*y)=R:=fun x=>by rw[AeD a0,eR]
 refine GR (fun h=>⟨Nat.zero_le _,q _ ⟨[],rfl,.nil,fun x=>⟨fun z=>(by cases z),fun z=>?_⟩,by decide⟩⟩) (fun h=>Bg R ⟨?_,bR⟩ ?_)
 ·have h:=of_decide_eq_true h
  have:=(ri x).mp z
  have:=sq_nonneg (2*a*x+b*y)
  omega
 ·have h:¬R<0:=fun z=>h (decide_eq_true z)
  omega
 rintro _ ⟨side,rfl,hs,bs⟩
 walk_at "rd"
 refine⟨bs.aj bs,GR (fun h2=>⟨Nat.zero_le _,q _ ⟨[],rfl,.nil,fun x=>⟨fun z=>(by cases z),fun z=>?_⟩,by decide⟩⟩) (fun h2=>⟨Nat.zero_le _,Iw ?_⟩)⟩
 ·have h3:=(ri x).mp z
  have:side*side=R:=(Vs hs).mp ⟨_,h3⟩
  rw[decide_eq_true this]at h2
  cases h2
 have eS:side*side=R:=by
  by_cases z:side*side=R
  ·exact z
  ·rw[decide_eq_false z]at h2
   exact absurd rfl h2
 walk_at "rd"
 refine⟨hb.2.1.aj by',hb.2.1.aj by',Ao (by decide),[0-b*y-side,0-b*y+side],rfl,(by show 2≤4;decide),fun ns hp asc=>?_⟩
 obtain⟨mem,lt⟩:=Ab8 hp asc
 have len:ns.length≤2:=by
  have h1:=hp.length_eq
  have h3:=Lh [0-b*y-side,0-b*y+side] []
  rw[←h1]at h3
  exact h3
 have m0:2*a≠0:=by omega
 have ma:IntMulOk 2 a:=two.aj hb.1
 have cd:∀z:Int,CDv z (2*a):=fun z=>Bt.cA (two.mul hb.1) m0
 refine G4 (ns.map Dt.int) (fun R h=>h) (fun i ρ=>∃x,ρ=[some (.is (t3 (a,b,c))),some (.is (.int n)),some (.is (.int y)),some (.is (.int a)),some (.is (.int b)),some (.is (.int c)),some (.is (.int R)),some (.is (.int side)),some (.own (((ns.take i).filter fun z=>decide (z.fmod (2*a)=0)).map fun z=>t2 (z.fdiv (2*a),y))),x]) ⟨_,by simp;rfl⟩ ?_ ?_
 ·rintro i d _ hi ⟨x,rfl⟩
  obtain⟨z,hz,rfl⟩:=ints_get hi
  have e1:(ns.take (i+1)).filter (fun z=>decide (z.fmod (2*a)=0))=(ns.take i).filter (fun z=>decide (z.fmod (2*a)=0))++[z].filter (fun z=>decide (z.fmod (2*a)=0)):=by rw[List.take_add_one,hz,List.filter_append];rfl
  have sz:((ns.take i).filter fun z=>decide (z.fmod (2*a)=0)).length<sizeLine:=by
   have h1:=List.length_filter_le (fun z=>decide (z.fmod (2*a)=0)) (ns.take i)
   rw[List.length_take]at h1
   have:=Ao (n:=3) (by decide)
   omega
  walk_at "rd"
  refine⟨ma,m0,?_⟩
  by_cases hm:z.fmod (2*a)=0
  ·refine ift (decide_eq_true hm) ⟨ma,cd z,Ao (by decide),sz,some (.is (.int z)),?_⟩
   rw[e1,List.map_append]
   simp[hm]
  ·refine EY (decide_eq_false hm) ⟨some (.is (.int z)),?_⟩
   rw[e1,List.map_append]
   simp[hm]
 ·rintro _ ⟨x,rfl⟩
  walk_at "rd"
  rw[List.take_length]
  refine q _ ⟨(ns.filter fun z=>decide (z.fmod (2*a)=0)).map fun z=>z.fdiv (2*a),?_,?_,fun x=>?_,?_⟩
  ·rw[List.map_map]
   rfl
  ·rw[List.pairwise_map]
   refine List.Pairwise.imp_of_mem (fun{u v} hu hv h=>?_) (lt.filter _)
   have h1:=of_decide_eq_true (List.mem_filter.mp hu).2
   have h3:=of_decide_eq_true (List.mem_filter.mp hv).2
   have k1:=Int.fmod_add_mul_fdiv u (2*a)
   have k2:=Int.fmod_add_mul_fdiv v (2*a)
   rcases Int.lt_or_le (u.fdiv (2*a)) (v.fdiv (2*a))with w|w
   ·exact w
   ·have:=Int.mul_le_mul_of_nonneg_left w (show 0≤2*a by omega)
    omega
  ·rw[ri,←eS,List.mem_map]
   constructor
   ·rintro⟨z,hz,rfl⟩
    obtain⟨hz,h1⟩:=List.mem_filter.mp hz
    have h1:=of_decide_eq_true h1
    have k1:=Int.fmod_add_mul_fdiv z (2*a)
    rw[h1,Int.zero_add]at k1
    rw[k1]
    rcases(mem z).mp hz with e|e<;>rw[e]<;>grind
   ·intro z
    have:2*a*x+b*y=side∨2*a*x+b*y=-side:=by
     have e:(2*a*x+b*y-side)*(2*a*x+b*y+side)=0:=by grind
     rcases Int.mul_eq_zero.mp e with w|w
     ·exact .inl (by omega)
     ·exact .inr (by omega)
    refine⟨2*a*x,List.mem_filter.mpr ⟨(mem _).mpr (by omega),decide_eq_true (Int.mul_fmod_right ..)⟩,Int.mul_fdiv_cancel_left _ m0⟩
  ·rw[List.length_map]
   have:=List.length_filter_le (fun z=>decide (z.fmod (2*a)=0)) ns
   omega
abbrev NZ:DSp:=spec (fun p:I3×Int=>[t3 p.1,.int p.2]) (fun p=>(B3 800 p.1∧Bs p.1)∧1≤p.2∧p.2≤400∧Bt 390 (meas p.1)) fun p d=>∃L:List I2,L.Nodup∧(∀v,v∈L↔val p.1 v=p.2)∧L.length<64∧d=.lst ((Gb (L.map r2)).map Cj)
theorem N7{g:I3}(L:BJ g):3*g.1≤-meas g∧3*g.2.2≤-meas g:=by
 obtain⟨a,b,c⟩:=g
 obtain⟨h1,h2,h3,h4,_⟩:=L
 have h1:0<a:=h1
 have h2:-a≤b:=h2
 have h3:b≤a:=h3
 have h4:a≤c:=h4
 show 3*a≤-(b*b-4*a*c)∧3*c≤-(b*b-4*a*c)
 have e1:b*b≤a*a:=by
  have:0≤(a-b)*(a+b):=Int.mul_nonneg (by omega) (by omega)
  have e:(a-b)*(a+b)=a*a-b*b:=by grind
  omega
 have e2:a*a≤a*c:=Int.mul_le_mul_of_nonneg_left h4 (by omega)
 have e3:1*c≤a*c:=Int.mul_le_mul_of_nonneg_right (by omega) (by omega)
 have e4:4*a*c=4*(a*c):=Int.mul_assoc ..
 omega
theorem AdX{x:Int}(h:x*x≤534):-24<x∧x<24:=by
 constructor
 ·rcases Int.lt_or_le (-24) x with z|z
  ·exact z
  ·have:=Int.mul_le_mul_of_nonneg_left (show 24≤-x by omega) (show 0≤-x by omega)
   have e:-x * -x=x*x:=by grind
   omega
 ·rcases Int.lt_or_le x 24 with z|z
  ·exact z
  ·have:=Int.mul_le_mul_of_nonneg_left z (show 0≤x by omega)
   omega
theorem AfC{g:I3}{n x y:Int}(L:BJ g)(n4:n≤400)(h:val g (x,y)=n):x*x≤534:=by
 have h3:=(N7 L).2
 obtain⟨a,b,c⟩:=g
 have h3:3*c≤-meas (a,b,c):=h3
 have c0:0<c:=by have h1:0<a:=L.pos;have h4:a≤c:=L.ac;omega
 have e:4*c*n=(2*c*y+b*x)*(2*c*y+b*x) + -meas (a,b,c)*(x*x):=by
  rw[←h]
  simp only[val,meas]
  grind
 have k1:=sq_nonneg (2*c*y+b*x)
 have k2:=Int.mul_le_mul_of_nonneg_right h3 (sq_nonneg x)
 have k3:=Int.mul_le_mul_of_nonneg_left n4 (show 0≤4*c by omega)
 have e2:3*c*(x*x)=c*(3*(x*x)):=by grind
 have k4:c*(3*(x*x))≤c*1600:=by omega
 have:=Int.le_of_mul_le_mul_left k4 c0
 omega
theorem Afz{g:I3}{n x y r:Int}(L:BJ g)(h:val g (x,y)=n)(hr:Sq ((4*g.1*n).fdiv (0-meas g)) r):-r≤y∧y≤r:=by
 have hm:=L.bowl.2
 obtain⟨a,b,c⟩:=g
 have a0:0<a:=L.pos
 have e:4*a*n=(2*a*x+b*y)*(2*a*x+b*y) + -meas (a,b,c)*(y*y):=by
  rw[←h]
  simp only[val,meas]
  grind
 have k1:=sq_nonneg (2*a*x+b*y)
 generalize meas (a,b,c)=D at *
 have hr:Sq ((4*a*n).fdiv (0-D)) r:=hr
 obtain⟨r0,_,r2⟩:=hr
 have k2:=Int.fmod_def (4*a*n) (0-D)
 have k3:=CK (4*a*n) (m:=0-D) (by omega)
 generalize (4*a*n).fdiv (0-D)=N at *
 have e0:0-D=-D:=by omega
 rw[e0]at k2 k3
 have k4:-D*(y*y) < -D*(N+1):=by
  have:-D*(N+1)=-D*N + -D:=by grind
  omega
 have k5:=Int.lt_of_mul_lt_mul_left k4 (by omega)
 have k6:y*y<(r+1)*(r+1):=by omega
 have k7:0<(r+1-y)*(r+1+y):=by
  have:(r+1-y)*(r+1+y)=(r+1)*(r+1)-y*y:=by grind
  omega
 constructor
 ·rcases Int.lt_or_le y (-r)with z|z
  ·have:=Int.mul_nonneg (show 0≤r+1-y by omega) (show 0≤-(r+1+y) by omega)
   have e:(r+1-y) * -(r+1+y)=-((r+1-y)*(r+1+y)):=Int.mul_neg ..
   omega
  ·exact z
 ·rcases Int.lt_or_le r y with z|z
  ·have:=Int.mul_nonneg (show 0≤-(r+1-y) by omega) (show 0≤r+1+y by omega)
   have e:-(r+1-y)*(r+1+y)=-((r+1-y)*(r+1+y)):=Int.neg_mul ..
   omega
  ·exact z
theorem Xo{g:I3}{n r:Int}(L:BJ g)(n1:1≤n)(n4:n≤400)(hr:Sq ((4*g.1*n).fdiv (0-meas g)) r):0≤r∧r<24:=by
 have h3:=(N7 L).1
 have a0:=L.pos
 have k2:=Int.fmod_def (4*g.1*n) (0-meas g)
 have k3:=CK (4*g.1*n) (m:=0-meas g) (by omega)
 obtain⟨r0,r1,_⟩:=hr
 generalize (4*g.1*n).fdiv (0-meas g)=N at *
 refine⟨r0,(AdX (x:=r) ?_).2⟩
 rcases Int.lt_or_le N 534 with z|z
 ·omega
 ·exfalso
  have k1:=Int.mul_le_mul_of_nonneg_left n4 (show 0≤4*g.1 by omega)
  have k4:=Int.mul_le_mul_of_nonneg_left z (show 0≤0-meas g by omega)
  omega
theorem VB(T:Txt K mg)
  (iJ:Pm P w K mg base 1 "_law_settled" Di ["_law_form"] JG)
  (cT:Pm P w K mg base 1 "_law_root" Ed ["_law_number"] Je)
  (mj:Pm P w K mg base 2 "_law_row" Gd ["_law_least","_law_number","_law_y"] N8)
  (dR:Pm P w K mg base 1 "_law_bar" Ew ["_law_form"] JT)
  : Pm P w K mg base 3 "_law_due" Ge ["_law_form","_law_number"] NZ:=by
 obtain⟨f,fd,F⟩:=T.iC
 refine⟨f,fd,F,F.fn.okD BZ (by walk_at "lE") fun cdv A outer s H E hr=>⟨_,(Ad (HY (Ag Af iJ (hr.mono (by decide)) rfl (Aa (dv 0) Ac)) (AbH (n:=2) rfl (Ba (Ay 2 BZ.nd) (Ba (Ay 3 BZ.nd) Ga)))) (Ad (HY (dv 3) (Jt (n:=4) rfl (Ba (Ay 4 BZ.nd) (Ba (Ay 5 BZ.nd) (Ba (Ay 6 BZ.nd) (Ba (Ay 7 BZ.nd) Ga)))))) (Ad (Aw 8 BZ.nd (Ag Af cT (hr.mono (by decide)) rfl (Aa (Ck (Ak (Ak Ab (Ae (dv 2) Ab)) (dv 1)) (Cd Ab (Ag Af dR (hr.mono (by decide)) rfl (Aa (dv 2) Ac)))) Ac))) (Ad (MN 9 BZ.nd Ac) (Ad (Jm PassesOwn.never rfl (Aaj rfl T.bM (Aa (Cd Ab (dv 8)) (Aa (Bl (dv 8) Ab) Ac))) (Ay 10 BZ.nd) (Ah (Jm PassesOwn.never rfl (GP (Ag Af mj (hr.mono (by decide)) rfl (Aa (dv 2) (Aa (dv 1) (Aa (dv 10) Ac))))) (Jt (n:=2) rfl (Ba (Ay 11 BZ.nd) (Ba (Ay 12 BZ.nd) Ga))) (Ah (Mz 9 (Bj (Aa (Bl (Ak (dv 4) (dv 11)) (Ak (dv 5) (dv 12))) (Aa (Bl (Ak (dv 6) (dv 11)) (Ak (dv 7) (dv 12))) Ac)))))))) (Ah (Nx 9 (Av (Qz T.aM (Aa (dv 9) Ac)))))))))),fun ds Q h=>?_⟩⟩
 obtain⟨⟨f,n⟩,rfl,⟨⟨hb,ho⟩,n1,n4,bm⟩,q⟩:=h
 have hb:B3 800 f:=hb
 have ho:Bs f:=ho
 have n1:1≤n:=n1
 have n4:n≤400:=n4
 have bm:Bt 390 (meas f):=bm
 have q:∀d,(∃L:List I2,L.Nodup∧(∀v,v∈L↔val f v=n)∧L.length<64∧d=.lst ((Gb (L.map r2)).map Cj))→Q d:=q
 walk_at "go"
 refine Bg f ⟨hb,ho⟩ ?_
 rintro _ ⟨t,rfl,dt,L,bt,_⟩
 have four:Bt 3 4:=Bt.au (by decide)
 have em:meas (mov f t)=meas f:=Bu dt
 have bg:B3 390 (mov f t):=L.bt (by rw[em];exact bm)
 have vl:∀p,val (mov f t) p=val f (Dp t p):=fun p=>Tr
 have m0:=L.bowl.2
 have a0:=L.pos
 have few:∀l:List I2,l.Nodup→(∀p∈l,val (mov f t) p=n)→l.length<64:=fun l h1 h2=>S6 L n1 n4 h1 h2
 have inv:∀p,Dp t (Dp (Ar t) p)=p:=fun p=>by
  have:=J8 (t:=Ar t) (p:=p) (by rw[CJ];exact dt)
  rwa [Ld]at this
 have inj:∀p p',Dp t p=Dp t p'→p=p':=fun p p' e=>by rw[←J8 (t:=t) (p:=p) dt,e,J8 dt]
 have bn:Bt 400 n:=(show Bt 10 n from Bt.of (by omega) (by omega)).le (by decide)
 have bD:Bt 400 (0-meas (mov f t)):=by
  have:Bt 390 (meas (mov f t)):=by rw[em];exact bm
  unfold Bt at *
  omega
 generalize eg:mov f t=g at *
 obtain⟨p1,q1,r1,s1⟩:=t
 walk_at "rd"
 have N0:0≤(4*g.1*n).fdiv (0-meas g):=by
  rw[Int.fdiv_eq_ediv_of_nonneg _ (by omega)]
  exact Int.ediv_nonneg (Int.mul_nonneg (by omega) (by omega)) (by omega)
 refine⟨four.aj bg.1,(four.mul bg.1).aj bn,Al g (bg.le (by decide)) ⟨Bt.cA bD (by omega),Bg _ ⟨N0,?_⟩ ?_⟩⟩
 ·exact(ZS ((four.mul bg.1).mul bn) (by omega)).le (by decide)
 rintro _ ⟨r,rfl,hr,_⟩
 obtain⟨r0,r24⟩:=Xo L n1 n4 hr
 refine⟨Nat.zero_le _,?_⟩
 refine G4 (ups (0-r) (r+1-(0-r)).toNat) (fun R hR=>?_) (fun k ρ=>∃(l:List I2)(y x z:Option En),ρ=[some (.is (t3 f)),some (.is (.int n)),some (.is (t3 g)),some (.is (t4 (p1,q1,r1,s1))),some (.is (.int p1)),some (.is (.int q1)),some (.is (.int r1)),some (.is (.int s1)),some (.is (.int r)),some (.own (l.map fun p=>t2 (Dp (p1,q1,r1,s1) p))),y,x,z]∧l.Nodup∧∀p:I2,p∈l↔val g p=n∧-r≤p.2∧p.2 < -r+k) ?_ ?_ ?_
 ·walk_at "rd"
  exact⟨⟨by omega,by omega,by omega,by omega⟩,hR⟩
 ·exact⟨[],none,none,none,rfl,.nil,fun p=>⟨fun z=>(by cases z),fun⟨_,h1,h2⟩=>(by omega)⟩⟩
 ·rintro k d _ hk ⟨l,y,x,z,rfl,nd,mem⟩
  obtain⟨kN,rfl⟩:=Ox hk
  obtain⟨Y,eY⟩:∃Y,0-r+(k:Int)=Y:=⟨_,rfl⟩
  rw[eY]
  have bY:Bt 6 Y:=Bt.of (by omega) (by omega)
  refine Iw ?_
  walk_at "rd"
  refine Bg (g,n,Y) ⟨bg.le (by decide),a0,bn,bY.le (by decide)⟩ ?_
  rintro _ ⟨xs,rfl,asc,mx,_⟩
  have mx:∀x,x∈xs↔val g (x,Y)=n:=mx
  have asc:xs.Pairwise (· < ·):=asc
  have part:∀i,(l++(xs.take i).map fun x=>(x,Y)).Nodup∧∀p∈l++(xs.take i).map fun x=>(x,Y),val g p=n:=fun i=>by
   constructor
   ·refine List.nodup_append.mpr ⟨nd,?_,fun a ha b hb e=>?_⟩
    ·unfold List.Nodup
     rw[List.pairwise_map]
     refine(asc.sublist (List.take_sublist ..)).imp fun{a b} h e=>?_
     have:=congrArg Prod.fst e
     dsimp only at this
     omega
    ·obtain⟨x,_,rfl⟩:=List.mem_map.mp hb
     have:=((mem a).mp ha).2.2
     rw[e]at this
     dsimp only at this
     omega
   ·intro p hp
    rcases List.mem_append.mp hp with hp|hp
    ·exact((mem p).mp hp).1
    ·obtain⟨x,hx,rfl⟩:=List.mem_map.mp hp
     exact(mx x).mp (List.mem_of_mem_take hx)
  refine G4 (xs.map fun x=>t2 (x,Y)) (fun R hR=>hR) (fun i ρ=>∃(x z:Option En),ρ=[some (.is (t3 f)),some (.is (.int n)),some (.is (t3 g)),some (.is (t4 (p1,q1,r1,s1))),some (.is (.int p1)),some (.is (.int q1)),some (.is (.int r1)),some (.is (.int s1)),some (.is (.int r)),some (.own ((l++(xs.take i).map fun x=>(x,Y)).map fun p=>t2 (Dp (p1,q1,r1,s1) p))),some (.is (.int Y)),x,z]) ⟨x,z,by simp⟩ ?_ ?_
  ·rintro i d _ hi ⟨x,z,rfl⟩
   obtain⟨X,hX,rfl⟩:=Lj hi
   have bX:Bt 6 X:=by
    have:=AdX (AfC L n4 ((mx X).mp (List.mem_of_getElem? hX)))
    exact Bt.of (by omega) (by omega)
   have sz:=few _ (part i).1 (part i).2
   walk_at "rd"
   refine⟨bt.1.aj bX,bt.2.1.aj bY,bt.2.2.1.aj bX,bt.2.2.2.aj bY,Ao (by decide),Ao (by omega),some (.is (.int X)),some (.is (.int Y)),?_⟩
   rw[List.take_add_one,hX]
   simp[Dp]
  ·rintro _ ⟨x,z,rfl⟩
   refine⟨_,_,_,_,rfl,(part _).1,fun p=>?_⟩
   rw[List.length_map,List.take_length,List.mem_append,mem,List.mem_map]
   obtain⟨px,py⟩:=p
   constructor
   ·rintro(⟨h1,h2,h3⟩|⟨X,h1,h2⟩)
    ·exact⟨h1,h2,by have h3:py < -r+k:=h3;show py < -r+((k+1:Nat):Int);omega⟩
    ·cases h2
     exact⟨(mx px).mp h1,by show -r≤Y;omega,by show Y < -r+((k+1:Nat):Int);omega⟩
   ·rintro⟨h1,h2,h3⟩
    have h2:-r≤py:=h2
    have h3:py < -r+((k+1:Nat):Int):=h3
    by_cases e:py=Y
    ·subst e
     exact .inr ⟨px,(mx px).mpr h1,rfl⟩
    ·exact .inl ⟨h1,h2,by show py < -r+k;omega⟩
 ·rintro _ ⟨l,y,x,z,rfl,nd,mem⟩
  have all:∀p:I2,p∈l↔val g p=n:=fun p=>by
   rw[mem,O9]
   obtain⟨px,py⟩:=p
   refine⟨fun h=>h.1,fun h=>⟨h,?_⟩⟩
   have:=Afz L h hr
   show -r≤py∧py < -r+((r+1-(0-r)).toNat:Int)
   omega
  have lt:=few l nd fun p hp=>(all p).mp hp
  walk_at "rd"
  refine⟨(l.map fun p=>Dp (p1,q1,r1,s1) p).map r2,?_,?_,fun rr hrr=>?_,q _ ⟨l.map fun p=>Dp (p1,q1,r1,s1) p,?_,fun v=>?_,?_,rfl⟩⟩
  ·rw[List.map_map,List.map_map]
   rfl
  ·rw[List.length_map,List.length_map]
   exact lt
  ·obtain⟨p,_,rfl⟩:=List.mem_map.mp hrr
   simp[r2]
  ·unfold List.Nodup at *
   rw[List.pairwise_map]
   exact nd.imp fun{a b} h e=>h (inj a b e)
  ·rw[List.mem_map]
   constructor
   ·rintro⟨p,hp,rfl⟩
    rw[←vl]
    exact(all p).mp hp
   ·intro h
    exact⟨Dp (Ar (p1,q1,r1,s1)) v,(all _).mpr (by rw[vl,inv];exact h),inv v⟩
  ·rw[List.length_map]
   exact lt
theorem AgH{d:Dt}(h:Jv (1,0,1) 1 d):d=.lst [t2 (-1,0),t2 (0,-1),t2 (0,1),t2 (1,0)]:=by
 rcases h with⟨h,_⟩|⟨_,L,nd,hm,_,rfl⟩
 ·cases h
 ·have key:∀p,p∈L↔p∈[(-1,0),(0,-1),(0,1),(1,0)]:=fun p=>by
   rw[hm]
   obtain⟨x,y⟩:=p
   have e:val (1,0,1) (x,y)=x*x+y*y:=by simp only[val];grind
   rw[e]
   constructor
   ·intro h
    have hx:=sq_nonneg x
    have hy:=sq_nonneg y
    by_cases z:y=0
    ·subst z
     rcases M9 (x:=x) (by omega)with rfl|rfl<;>simp
    ·have k:=sq_pos z
     have zx:x=0:=by
      by_cases w:x=0
      ·exact w
      ·have:=sq_pos w
       omega
     subst zx
     rcases M9 (x:=y) (by omega)with rfl|rfl<;>simp
   ·intro h
    simp only[List.mem_cons,Prod.mk.injEq,List.not_mem_nil,or_false]at h
    rcases h with⟨rfl,rfl⟩|⟨rfl,rfl⟩|⟨rfl,rfl⟩|⟨rfl,rfl⟩<;>rfl
  have p:=Zj nd (by decide:([(-1,0),(0,-1),(0,1),(1,0)]:List I2).Nodup) key
  rw[Wk (p.map r2)]
  rfl
theorem Adz{f:I3}{n:Int}{L M:List I2}(a:L.Nodup)(b:M.Nodup)(c:∀v,v∈L↔val f v=n)(d:∀v,v∈M↔val f v=n):Gb (L.map r2)=Gb (M.map r2) :=
 Wk ((Zj a b fun x=>by rw[c,d]).map r2)
theorem WQ{f:I3}{n:Int}{L:List I2}{d:Dt}(n0:n≠0)(h:Jv f n d)(a:L.Nodup)(c:∀v,v∈L↔val f v=n):d=.lst ((Gb (L.map r2)).map Cj):=by
 rcases h with⟨z,_⟩|⟨_,M,b,e,_,rfl⟩
 ·exact absurd z n0
 ·rw[Adz b a e c]
theorem Aak{f:I3}{n:Int}{d:Dt}(ho:Bs f)(n0:n<0)(h:Jv f n d):d=.lst []:=by
 rcases h with⟨z,_⟩|⟨_,M,b,e,_,rfl⟩
 ·omega
 ·cases M with
  |nil=>rfl
  | cons p M =>
   have:=(e p).mp (.head _)
   have:=V4 ho p
   omega
theorem Aiq(T:Txt K mg)
  (j4:Pm P w K mg base 2 "_law_taken" Ep ["_law_script","_law_most"] Ky)
  (j5:Pm P w K mg base 2 "_law_moved" Ej ["_law_form","_law_turn_here"] Kv)
  (aA:Pm P w K mg base 1 "_law_cell" Eb ["_law_script","_law_k"] G5)
  (lK:Pm P w K mg base 1 "_law_turn" Fj ["_law_first","_law_cells"] Lz)
  (mq:Pm P w K mg base 3 "_law_due" Ge ["_law_form","_law_number"] NZ)
  (aF:Pm P w K mg base 14 "all_answers" CV ["form","number"] JQ)
  (dD:Pm P w K mg base 2 "_law_wholes" CW ["_law_found","_law_many"] FN)
  : Pm P w K mg base 15 "law" Mp ["_law_script"] Uo:=by
 obtain⟨f,fd,F⟩:=T.qz
 refine⟨f,fd,F,F.fn.okD Ib (by walk_at "lE") fun cdv A outer s H E hr=>⟨_,(Ad (Aw 1 Ib.nd (Fb (Aa (Ak (Ck (Ag Af aA (hr.mono (by decide)) rfl (Aa (dv 0) (Aa Ab Ac))) Ab) Ab) (Aa (Ag Af aA (hr.mono (by decide)) rfl (Aa (dv 0) (Aa Ab Ac))) (Aa (Ag Af aA (hr.mono (by decide)) rfl (Aa (dv 0) (Aa Ab Ac))) Ac))))) (Ad (HY (Ag Af j4 (hr.mono (by decide)) rfl (Aa (dv 1) (Aa Ab Ac))) (AbH (n:=2) rfl (Ba (Ay 2 Ib.nd) (Ba (Ay 3 Ib.nd) Ga)))) (Ad (Aw 4 Ib.nd (Ag Af j5 (hr.mono (by decide)) rfl (Aa (dv 3) (Aa (Ag Af lK (hr.mono (by decide)) rfl (Aa Ab (Aa (Abq (dv 0) (Zr Ab) (Zr Ab)) Ac))) Ac)))) (Ad (Jm PassesOwn.never rfl (GP (Fb (Aa (Ak (Ak (Ae (dv 3) Ab) (dv 2)) (dv 2)) (Aa (Bl Ab (Er (Ag Af aA (hr.mono (by decide)) rfl (Aa (dv 0) (Aa Ab Ac))) Ab)) Ac)))) (Ay 5 Ib.nd) (Ad (Aw 6 Ib.nd (Ag Af mq (hr.mono (by decide)) rfl (Aa (dv 4) (Aa (dv 5) Ac)))) (Ad (AaU 7 Ib.nd Af aF (hr.mono (by decide)) rfl (Aa (dv 4) (Aa (dv 5) Ac))) (Ad (Cm (AcF (YX 7 (DW.dt (LC (Ig (Il (QC T.ak T.dH Vp (dv 7)))) (Jw (Gv hr.units (dv 7) (dv 6)))))) (DW.dt (LC (Ig (Il (QC T.ak T.dH Vp (dv 7)))) (Jw (Gv hr.units (dv 7) (dv 6)))))) (Ah (Av NT)) Bk) (Ad (Aec (AfP 7 PassesOwn.never rfl (Ay 8 Ib.nd) (Ah (Cm (Ig (Il (Ag Af dD (hr.mono (by decide)) rfl (Aa (dv 8) (Aa Ab Ac))))) (Ah (Av NT)) Bk))) (Jm PassesOwn.never rfl (GP (dv 7)) (Ay 8 Ib.nd) (Ah (Cm (Ig (Il (Ag Af dD (hr.mono (by decide)) rfl (Aa (dv 8) (Aa Ab Ac))))) (Ah (Av NT)) Bk)))) (Ad (Cm (AcF (YX 7 (DW.dt (LC (Gv hr.units (Ag Af aF (hr.mono (by decide)) rfl (Aa (Bj (Aa Ab (Aa Ab (Aa Ab Ac)))) (Aa Ab Ac))) (Fb (Aa (Bj (Aa (Fv Ab) (Aa Ab Ac))) (Aa (Bj (Aa Ab (Aa (Fv Ab) Ac))) (Aa (Bj (Aa Ab (Aa Ab Ac))) (Aa (Bj (Aa Ab (Aa Ab Ac))) Ac)))))) (Jw (Gv hr.units (dv 7) (dv 6)))))) (DW.dt (LC (Gv hr.units (Ag Af aF (hr.mono (by decide)) rfl (Aa (Bj (Aa Ab (Aa Ab (Aa Ab Ac)))) (Aa Ab Ac))) (Fb (Aa (Bj (Aa (Fv Ab) (Aa Ab Ac))) (Aa (Bj (Aa Ab (Aa (Fv Ab) Ac))) (Aa (Bj (Aa Ab (Aa Ab Ac))) (Aa (Bj (Aa Ab (Aa Ab Ac))) Ac)))))) (Jw (Gv hr.units (dv 7) (dv 6)))))) (Ah (Av NT)) Bk) (Ad (Aec (Air 7) (Agr 7)) (Ah (Cm (DW.dt (LC (Gv hr.units (Ag Af aF (hr.mono (by decide)) rfl (Aa (dv 4) (Aa (dv 5) Ac))) (dv 6)) (Jw (Gv hr.units (Ag Af aF (hr.mono (by decide)) rfl (Aa (dv 4) (Aa (Cd Ab (dv 5)) Ac))) (Fb Ac))))) (Ah (Av NT)) Bk))))))))) (Ah (Av (YT hr.units (Ag Af aF (hr.mono (by decide)) rfl (Aa (dv 4) (Aa Ab Ac))) (Fb (Aa (Bj (Aa Ab (Aa Ab Ac))) Ac))))))))),fun ds Q h=>?_⟩⟩
 obtain⟨ns,rfl,hn,q⟩:=h
 have hn:ns.length≤63:=hn
 have q':Q (.bl true):=q _ rfl
 obtain⟨cs,e,hcs,hme⟩:=Aev ns (some 3) (some 63)
 have s2:2≤sizeLine:=Ao (by decide)
 have s3:3≤sizeLine:=Ao (by decide)
 have s4:4≤sizeLine:=Ao (by decide)
 walk_at "go"
 refine Jo ns 0 (by decide) ⟨⟨by decide,by decide⟩,?_,Jo ns 1 (by decide) (Jo ns 2 (by decide) ⟨s3,Bg ([(ns.getD (Int.toNat 0) 0).fdiv 2*2,ns.getD (Int.toNat 1) 0,ns.getD (Int.toNat 2) 0],400) ⟨⟨(show(1:Int)≤400 by decide),(show(400:Int)≤400 by decide)⟩,Int.mul_fmod_left ..⟩ ?_⟩)⟩
 ·exact IntMulOk.of_right (by decide)
 rintro _ ⟨o,f,rfl,T⟩
 walk_at "rd"
 rw[e]
 refine Bg (0,cs) ⟨rfl,by show cs.length≤63;omega⟩ ?_
 rintro _ ⟨t,rfl,dt,bt⟩
 refine Al (f,t) ⟨T.bt.le (by decide),bt.le (by decide)⟩ ?_
 have ho:Bs (mov f t):=J4 T.bo dt
 have bF:B3 800 (mov f t):=(T.bt.mov bt).le (by decide)
 have four:Bt 3 4:=Bt.au (by decide)
 have bm:Bt 390 (meas (mov f t)):=by
  rw[Bu dt]
  exact((T.bt.2.1.mul T.bt.2.1).sub ((four.mul T.bt.1).mul T.bt.2.2)).le (by decide)
 have ap:∀n:Int,n.natAbs≤400→Uq (mov f t) n:=fun n h=>⟨bF,ho,h,bm.le (by decide)⟩
 have bo:Bt 6 o:=Bt.of (by have:=T.o1;omega) (by have:=T.o2;omega)
 have c3:=CK (ns.getD (Int.toNat 3) 0) (m:=400) (by decide)
 obtain⟨m1,em⟩:∃m,f.1*o*o=m:=⟨_,rfl⟩
 obtain⟨m2,em2⟩:∃m,1+(ns.getD (Int.toNat 3) 0).fmod 400=m:=⟨_,rfl⟩
 have m1p:1≤m1∧m1≤400:=by
  have:=T.n4
  rw[em]at this
  have h1:=Int.mul_pos (Int.mul_pos T.bo.1 (show 0<o by have:=T.o1;omega)) (show 0<o by have:=T.o1;omega)
  rw[em]at h1
  omega
 generalize mov f t=G at *
 refine G4 [.int m1,.int m2] (fun R hR=>?_) (fun i ρ=>∃y5 y6 y7 y8,ρ=[some (.is (.lst (ns.map Dt.int))),some (.is (.lst [.int ((ns.getD (Int.toNat 0) 0).fdiv 2*2),.int (ns.getD (Int.toNat 1) 0),.int (ns.getD (Int.toNat 2) 0)])),some (.is (.int o)),some (.is (t3 f)),some (.is (t3 G)),y5,y6,y7,y8]) ⟨_,_,_,_,rfl⟩ ?_ ?_
 ·walk_at "rd"
  refine⟨T.bt.1.aj bo,(T.bt.1.mul bo).aj bo,Jo ns 3 (by decide) ⟨by decide,s2,?_⟩⟩
  rw[em,em2]
  exact hR
 ·rintro i d _ hi ⟨y5,y6,y7,y8,rfl⟩
  obtain⟨n,rfl,n1,n4⟩:∃n,d=.int n∧1≤n∧n≤400:=by
   have:=List.mem_of_getElem? hi
   simp only[List.mem_cons,List.not_mem_nil,or_false]at this
   rcases this with rfl|rfl
   ·exact⟨_,rfl,m1p⟩
   ·exact⟨_,rfl,by omega,by omega⟩
  have n0:n≠0:=by omega
  walk_at "rd"
  refine Bg (G,n) ⟨⟨bF,ho⟩,n1,n4,bm⟩ ?_
  rintro _ ⟨L,nd,mem,len,rfl⟩
  refine⟨by simp only[Te,W8,Adm,Agz,Bool.and_true],Bg (G,n) (ap n (by omega)) fun d hd=>?_⟩
  have ed:=WQ n0 hd nd mem
  subst ed
  have rK:∀r∈Gb (L.map r2),∃p,r=r2 p:=fun r hr=>by
   obtain⟨p,_,rfl⟩:=List.mem_map.mp ((Dd _).mem_iff.mp hr)
   exact⟨p,rfl⟩
  have again:∀d,Jv G n d→d=.lst ((Gb (L.map r2)).map Cj):=fun d h=>WQ n0 h nd mem
  have neg:∀d,Jv G (0-n) d→d=.lst []:=fun d h=>Aak ho (by omega) h
  generalize Gb (L.map r2)=S at *
  have a1:Uq (1,0,1) 1:=⟨⟨Bt.one.le (by decide),Bt.zero.le (by decide),Bt.one.le (by decide)⟩,⟨(show(0:Int)<1 by decide),(show(-4:Int)<0 by decide)⟩,(show 1≤400 by decide),show Bt 1400 (-4)from Bt.au (by decide)⟩
  by_cases hS:S=[]
  ·refine .inr ⟨by rw[hS];rfl,?_⟩
   subst hS
   walk_at "rd"
   refine Ag1 ?_
   walk_at "rd"
   refine⟨rfl,EY rfl (alt2 (G4 [] (fun R h=>h) (fun _ ρ=>ρ=[some (.is (.lst (ns.map Dt.int))),some (.is (.lst [.int ((ns.getD (Int.toNat 0) 0).fdiv 2*2),.int (ns.getD (Int.toNat 1) 0),.int (ns.getD (Int.toNat 2) 0)])),some (.is (.int o)),some (.is (t3 f)),some (.is (t3 G)),some (.is (.int n)),some (.is (.lst [])),some (.is (.lst [])),y8]) rfl (fun k d ρ' hk _=>(by cases hk)) fun ρ' e=>?_))⟩
   subst e
   walk_at "rd"
   refine Ag1 ?_
   walk_at "rd"
   refine⟨s3,Bg ((1,0,1),1) a1 fun d hd=>?_⟩
   rw[AgH hd]
   walk_at "rd"
   refine⟨s2,s2,s2,s2,s4,EY (by decide) (alt2 ⟨rfl,?_⟩)⟩
   walk_at "rd"
   refine Bg (G,n) (ap n (by omega)) fun d hd=>?_
   rw[again d hd]
   walk_at "rd"
   refine⟨rfl,EY rfl (Bg (G,0-n) (ap _ (by omega)) fun d hd=>?_)⟩
   rw[neg d hd]
   exact⟨Nat.zero_le _,rfl,EY rfl ⟨_,_,_,_,rfl⟩⟩
  ·refine .inl ⟨_,rfl,?_,Rx _ _,?_⟩
   ·cases S with
    |nil=>exact absurd rfl hS
    |cons r S=>exact⟨_,.head _⟩
   walk_at "rd"
   refine AgW ?_
   walk_at "rd"
   refine⟨⟨Ez _ _,Ez _ _⟩,EY (by rw[Ly,decide_eq_true rfl];rfl) (alt1 (Ade (S.map Cj) rfl (fun v _ ρ=>∃y8,ρ=[some (.is (.lst (ns.map Dt.int))),some (.is (.lst [.int ((ns.getD (Int.toNat 0) 0).fdiv 2*2),.int (ns.getD (Int.toNat 1) 0),.int (ns.getD (Int.toNat 2) 0)])),some (.is (.int o)),some (.is (t3 f)),some (.is (t3 G)),some (.is (.int n)),some (.is (.lst (S.map Cj))),some (.raw v),y8]) (fun v=>⟨_,rfl⟩) (fun v k d ρ' hk hr=>?_) fun v ρ' hr=>?_))⟩
   ·obtain⟨y,rfl⟩:=hr
    obtain⟨r,hr,rfl⟩:=Lj hk
    obtain⟨p,rfl⟩:=rK r (List.mem_of_getElem? hr)
    walk_at "rd"
    exact Afb p (EY rfl ⟨_,rfl⟩)
   obtain⟨y,rfl⟩:=hr
   refine⟨rfl,?_⟩
   walk_at "rd"
   refine AgW ?_
   walk_at "rd"
   refine⟨s3,Bg ((1,0,1),1) a1 fun d hd=>?_⟩
   rw[AgH hd]
   walk_at "rd"
   refine⟨s2,s2,s2,s2,s4,EY (by decide) ⟨⟨Ez _ _,Ez _ _⟩,EY (by rw[Ly,decide_eq_true rfl];rfl) (alt1 ?_)⟩⟩
   walk_at "rd"
   refine Bg (G,n) (ap n (by omega)) fun d hd=>?_
   rw[again d hd]
   walk_at "rd"
   refine⟨⟨Ez _ _,Ez _ _⟩,EY (by rw[Ly,decide_eq_true rfl];rfl) (Bg (G,0-n) (ap _ (by omega)) fun d hd=>?_)⟩
   rw[neg d hd]
   exact⟨Nat.zero_le _,rfl,EY rfl ⟨_,_,_,_,rfl⟩⟩
 ·rintro _ ⟨y5,y6,y7,y8,rfl⟩
  walk_at "rd"
  refine Bg (G,0) (ap 0 (by decide)) fun d hd=>?_
  rcases hd with⟨_,rfl⟩|⟨z,_⟩
  ·walk_at "rd"
   exact⟨s2,Ao (by decide),q'⟩
  ·exact absurd rfl z
end
abbrev nF(K:W.Frag)(n:Str)(s:Stmt):Prop:=∃(f:Addr)(oc:Value)(od:Option Addr)(kV dc pm:Value)(an:Option Addr)(cd ct:Value)(sl:Array (Option Value)),W.nsIn K mainGlobals n=some (some (.ref f))∧K.lookup f=some ⟨oc,od,.func (W.fnOf n n (Ek s) (Du s) (Ai s) .none kV dc pm an cd ct),sl⟩∧W.codeIn K cd n=true∧W.keepIn K (.ref f)=true
theorem Ag4{K:W.Frag}{n:Str}{s:Stmt}{f:Addr}{od an:Option Addr}{sl:Array (Option Value)}{oc kV dc pm cd ct:Value}(a:W.nsIn K mainGlobals n=some (some (.ref f)))(l:K.lookup f=some ⟨oc,od,.func (W.fnOf n n (Ek s) (Du s) (Ai s) .none kV dc pm an cd ct),sl⟩)(c:W.codeIn K cd n=true)(k:W.keepIn K (.ref f)=true):nF K n s:=⟨f,oc,od,kV,dc,pm,an,cd,ct,sl,a,l,c,k⟩
theorem tM{K:W.Frag}{h:Heap}{mg:Str→Option Value}{n:Str}{s:Stmt}{ps:List Str}(X:K.In h)(G:h.Ns mainGlobals mg)(H:nF K n s)
  (hb:∀(kV doc pm:Value)(an:Option Addr)(cdv ct:Value)(us:List Value),us.length=ps.length→bindArgs (W.fnOf n n (Ek s) (Du s) (Ai s) .none kV doc pm an cdv ct) ⟨us,[]⟩=pure (ps.zip us)):∃f fd,FnT K mg n s ps f fd:=by
 obtain⟨f,oc,od,kV,dc,pm,an,cd,ct,sl,a,l,c,k⟩:=H
 have F:=Nk (st:=s) l c k
 exact⟨_,_,F,W.mg_of X G a,F.binds hb⟩
set_option maxHeartbeats 8000000 in
theorem all_mk{l:W.OpenLaw}{w:World}{K:W.Frag}{h:Heap}{mg:Str→Option Value}{fa:Addr}(X:K.In h)(G:h.Ns mainGlobals mg)(hfa:mg "law"=some (.ref fa))
  (h0:nF K "root" Jz)
  (h1:nF K "is_square" Fo)
  (h2:nF K "check_at_most" Cy)
  (h3:nF K "check_within" Cr)
  (h4:nF K "is_turn" Hg)
  (h5:nF K "check_turn" CG)
  (h6:nF K "led" Sv)
  (h7:nF K "put_behind" Cg)
  (h8:nF K "back" K6)
  (h9:nF K "measure" Dh)
  (h10:nF K "value" Ka)
  (h11:nF K "moved" Jj)
  (h12:nF K "middle" Iz)
  (h13:nF K "shape" G7)
  (h14:nF K "check_bowl" Ds)
  (h15:nF K "stands_least" Dl)
  (h16:nF K "settled" Gh)
  (h17:nF K "turn_lower" Ei)
  (h18:nF K "own_turns" Ea)
  (h19:nF K "turns_of_least" Cq)
  (h20:nF K "turning_of_least" Ca)
  (h21:nF K "check_saddle" Cu)
  (h22:nF K "stands_level" Dk)
  (h23:nF K "turn_behind" DK)
  (h24:nF K "stop_behind" CZ)
  (h25:nF K "eased" Kc)
  (h26:nF K "stops_round" DN)
  (h27:nF K "lowered" Hh)
  (h28:nF K "shape_of" Ey)
  (h29:nF K "way_between" DQ)
  (h30:nF K "heads" Jf)
  (h31:nF K "families" Gk)
  (h32:nF K "roots_of_square_divisors" Bf)
  (h33:nF K "feet" JX)
  (h34:nF K "all_answers" CV)
  (h35:nF K "_law_cell" Eb)
  (h36:nF K "_law_whole" Eo)
  (h37:nF K "_law_wholes" CW)
  (h38:nF K "_law_bar" Ew)
  (h39:nF K "_law_root" Ed)
  (h40:nF K "_law_turn" Fj)
  (h41:nF K "_law_value" Eh)
  (h42:nF K "_law_moved" Ej)
  (h43:nF K "_law_taken" Ep)
  (h44:nF K "_law_settled" Di)
  (h45:nF K "_law_row" Gd)
  (h46:nF K "_law_due" Ge)
  (h47:nF K "law" Mp)
  (cQ:W.nsIn K mainGlobals "abs"=some none)
  (fQ:W.nsIn K mainGlobals "bool"=some none)
  (jL:W.nsIn K mainGlobals "int"=some none)
  (ak:W.nsIn K mainGlobals "isinstance"=some none)
  (gM:W.nsIn K mainGlobals "len"=some none)
  (dH:W.nsIn K mainGlobals "list"=some none)
  (iD:W.nsIn K mainGlobals "max"=some none)
  (jM:W.nsIn K mainGlobals "min"=some none)
  (bM:W.nsIn K mainGlobals "range"=some none)
  (jO:W.nsIn K mainGlobals "set"=some none)
  (aM:W.nsIn K mainGlobals "sorted"=some none)
  (cW:W.nsIn K mainGlobals "tuple"=some none)
  {fJ iK:Addr} {oE oF:Option Addr} {oG:Array (Option Value)} {oH oJ oK oM jP oN:Value}
  (iM:W.nsIn K mainGlobals "Shape"=some (some (.ref fJ))) (iQ:W.specialIn K (.ref fJ) "__getattribute__"=some (some (.builtin "type.__getattribute__"))) (iR:W.readsIn K fJ (.type "type")=true) (iT:W.findCls K (.ref fJ) (.type "type") "__init__"=some (.val (.ref iK)))
  (iU:K.lookup iK=some ⟨oH,oE,.func (W.fnOf "__init__" "Shape.__init__" (Ek IW) (Du IW) (Ai IW) .none oJ oK oM oF jP oN),oG⟩) (iV:W.codeIn K jP "Shape.__init__"=true) (fK:W.keepIn K (.ref iK)=true)
  {aH gY:Addr} {pD pF:Option Addr} {pG:Array (Option Value)} {pH pI pJ pK lM pL:Value}
  (aX:W.nsIn K mainGlobals "Bowl"=some (some (.ref aH))) (j6:W.makesIn K aH=true) (j7:W.findIn K (.ref aH) "__init__"=some (some (.ref gY))) (j8:W.isFn K (.ref gY)=true) (j9:W.keepIn K (.ref aH)=true)
  (iW:W.plainGet K aH Str.empty=true) (iY:W.hasDictIn K aH=true) (jc:W.plainOver K aH=true) (jd:W.findIn K (.ref aH) "__setattr__"=some (some (.builtin "object.__setattr__")))
  (je:W.findIn K (.ref aH) "__class__"=some (some (.builtin "object.__class__"))) (jf:W.specialIn K (.builtin "object.__class__") "__get__"=some (some (.builtin "getset_descriptor.__get__"))) (jg:W.takesIn K (.builtin "object.__class__")=some true) (jh:W.mroIn K aH (.type "object")=some true)
  (kj:K.lookup gY=some ⟨pH,pD,.func (W.fnOf "__init__" "Bowl.__init__" (Ek Ke) (Du Ke) (Ai Ke) .none pI pJ pK pF lM pL),pG⟩) (kE:W.codeIn K lM "Bowl.__init__"=true) (jj:W.keepIn K (.ref gY)=true)
  (aY:W.findIn K (.ref aH) "form"=some none)
  (aL:W.findIn K (.ref aH) "measure"=some none)
  (aN:W.findIn K (.ref aH) "lowest"=some none)
  {aq cX:Addr} {mz mC:Option Addr} {mD:Array (Option Value)} {mF mG mH mJ jm mK:Value}
  (aG:W.nsIn K mainGlobals "Saddle"=some (some (.ref aq))) (fZ:W.makesIn K aq=true) (f9:W.findIn K (.ref aq) "__init__"=some (some (.ref cX))) (gb:W.isFn K (.ref cX)=true) (gj:W.keepIn K (.ref aq)=true)
  (dW:W.plainGet K aq Str.empty=true) (dX:W.hasDictIn K aq=true) (dY:W.plainOver K aq=true) (dZ:W.findIn K (.ref aq) "__setattr__"=some (some (.builtin "object.__setattr__")))
  (d7:W.findIn K (.ref aq) "__class__"=some (some (.builtin "object.__class__"))) (d8:W.specialIn K (.builtin "object.__class__") "__get__"=some (some (.builtin "getset_descriptor.__get__"))) (d9:W.takesIn K (.builtin "object.__class__")=some true) (eE:W.mroIn K aq (.type "object")=some true)
  (gk:K.lookup cX=some ⟨mF,mz,.func (W.fnOf "__init__" "Saddle.__init__" (Ek Hi) (Du Hi) (Ai Hi) .none mG mH mJ mC jm mK),mD⟩) (gq:W.codeIn K jm "Saddle.__init__"=true) (eO:W.keepIn K (.ref cX)=true)
  (aO:W.findIn K (.ref aq) "form"=some none)
  (aD:W.findIn K (.ref aq) "measure"=some none)
  (aJ:W.findIn K (.ref aq) "lowest"=some none)
  {bW:Addr} {mL mQ:Option Addr} {mR:Array (Option Value)} {mU mV mW mX jo mY:Value}
  (bI:W.findIn K (.ref aH) "way_to"=some (some (.ref bW)))
  (aV:W.findIn K (.ref aq) "way_to"=some (some (.ref bW)))
  (cY:W.isFn K (.ref bW)=true) (gw:K.lookup bW=some ⟨mU,mL,.func (W.fnOf "way_to" "Shape.way_to" (Ek Hj) (Du Hj) (Ai Hj) .none mV mW mX mQ jo mY),mR⟩) (gA:W.codeIn K jo "Shape.way_to"=true) (aZ:W.keepIn K (.ref bW)=true)
  {pN:Addr} {qg:Option Addr} {qj:Array (Option Value)} {qK:Nat} {pP:Tok} {pQ:Tok} {pR:Tok} {pU:Tok}
  (bN:W.nsIn K mainGlobals "SAME"=some (some (.ref pN))) (mZ:K.lookup pN=some ⟨.type "tuple",qg,.seq #[.int (1) pP,.int (0) pQ,.int (0) pR,.int (1) pU] qK,qj⟩)
  {cR:Tok} (bJ:W.nsIn K mainGlobals "MOST_MEASURE"=some (some (.int (4000) cR)))
  {bQ:Tok} (bT:W.nsIn K mainGlobals "MOST_NUMBER"=some (some (.int (400) bQ)))
  : ∃fd:FuncData,(∀(s:Shared)(v:Value),BindsTo s fd ⟨[v],[]⟩ [("_law_script",v)])∧∀base:Heap,K.In base→base.Ns mainGlobals mg→Ho l.prog w K mg base CX0 15 fa fd ["_law_script"] (lSp K Uo):=by
 obtain⟨f47,uK,uL,rM,rN,rP,rQ,rR,rW,uM,a47,l47,c47,k47⟩:=h47
 have e:=hfa.symm.trans (W.mg_of X G a47)
 cases e
 have F47:=Nk (st:=Mp) l47 c47 k47
 have lN:=Nk (st:=IW) iU iV fK
 have nT:=Nk (st:=Ke) kj kE jj
 have jQ:=Nk (st:=Hi) gk gq eO
 have jR:=Nk (st:=Hj) gw gA aZ
 have T:Txt K mg:={
  o9:=⟨_,_,_,⟨⟨j6,j7,j8,j9⟩,aX,W.mg_of X G aX,⟨iW,iY,jc,jd⟩,fun f hf=>by simp only[List.mem_cons,List.not_mem_nil,or_false]at hf;rcases hf with hf|hf|hf<;>(subst hf;first|exact aY|exact aL|exact aN)⟩,nT,nT.binds (ps:=["self","form"]) fun _ _ _ _ _ _ us hl=>match us,hl with | [_,_],_=>rfl⟩
  p8:=⟨(fun C e=>by rw[aX]at e;cases e;exact je),jf,jg,(fun C e=>by rw[aX]at e;cases e;exact jh)⟩
  jV:=fun C e=>by rw[aX]at e;cases e;exact aY
  cB:=fun C e=>by rw[aX]at e;cases e;exact aL
  cI:=fun C e=>by rw[aX]at e;cases e;exact aN
  lu:=⟨_,_,_,⟨⟨fZ,f9,gb,gj⟩,aG,W.mg_of X G aG,⟨dW,dX,dY,dZ⟩,fun f hf=>by simp only[List.mem_cons,List.not_mem_nil,or_false]at hf;rcases hf with hf|hf|hf<;>(subst hf;first|exact aO|exact aD|exact aJ)⟩,jQ,jQ.binds (ps:=["self","form"]) fun _ _ _ _ _ _ us hl=>match us,hl with | [_,_],_=>rfl⟩
  n6:=⟨(fun C e=>by rw[aG]at e;cases e;exact d7),d8,d9,(fun C e=>by rw[aG]at e;cases e;exact eE)⟩
  iu:=fun C e=>by rw[aG]at e;cases e;exact aO
  bL:=fun C e=>by rw[aG]at e;cases e;exact aD
  bU:=fun C e=>by rw[aG]at e;cases e;exact aJ
  lB:=⟨_,_,⟨⟨_,W.mg_of X G iM,iQ,iR,iT⟩,fK⟩,lN,lN.binds (ps:=["self","form","lowest"]) fun _ _ _ _ _ _ us hl=>match us,hl with | [_,_,_],_=>rfl⟩
  jF:=⟨_,_,fun c hc=>by simp only[List.mem_cons,List.not_mem_nil,or_false]at hc;rcases hc with hc|hc<;>(subst hc;intro C e;first|(rw[aX]at e;cases e;exact⟨bI,cY,aZ⟩)|(rw[aG]at e;cases e;exact⟨aV,cY,aZ⟩)),aZ,jR,jR.binds (ps:=["self","other"]) fun _ _ _ _ _ _ us hl=>match us,hl with | [_,_],_=>rfl⟩
  pq:=tM X G h0 (by walk_at "b1")
  gF:=tM X G h1 (by walk_at "b1")
  cC:=tM X G h2 (by walk_at "b2")
  cJ:=tM X G h3 (by walk_at "b2")
  jG:=tM X G h4 (by walk_at "b1")
  eX:=tM X G h5 (by walk_at "b1")
  qy:=tM X G h6 (by walk_at "b2")
  eZ:=tM X G h7 (by walk_at "b2")
  pA:=tM X G h8 (by walk_at "b1")
  jH:=tM X G h9 (by walk_at "b1")
  nH:=tM X G h10 (by walk_at "b2")
  nJ:=tM X G h11 (by walk_at "b2")
  lC:=tM X G h12 (by walk_at "b3")
  nM:=tM X G h13 (by walk_at "b1")
  fj:=tM X G h14 (by walk_at "b1")
  cL:=tM X G h15 (by walk_at "b1")
  jJ:=tM X G h16 (by walk_at "b1")
  fu:=tM X G h17 (by walk_at "b1")
  gG:=tM X G h18 (by walk_at "b1")
  bV:=tM X G h19 (by walk_at "b1")
  bx:=tM X G h20 (by walk_at "b1")
  cM:=tM X G h21 (by walk_at "b1")
  cN:=tM X G h22 (by walk_at "b2")
  c7:=tM X G h23 (by walk_at "b2")
  dg:=tM X G h24 (by walk_at "b2")
  nP:=tM X G h25 (by walk_at "b1")
  dh:=tM X G h26 (by walk_at "b1")
  jK:=tM X G h27 (by walk_at "b1")
  iw:=tM X G h28 (by walk_at "b1")
  dj:=tM X G h29 (by walk_at "b2")
  nQ:=tM X G h30 (by walk_at "b2")
  iy:=tM X G h31 (by walk_at "b2")
  aK:=tM X G h32 (by walk_at "b1")
  pB:=tM X G h33 (by walk_at "b2")
  dw:=tM X G h34 (by walk_at "b2")
  gH:=tM X G h35 (by walk_at "b2")
  fC:=tM X G h36 (by walk_at "b1")
  dz:=tM X G h37 (by walk_at "b2")
  iz:=tM X G h38 (by walk_at "b1")
  gJ:=tM X G h39 (by walk_at "b1")
  gK:=tM X G h40 (by walk_at "b2")
  fD:=tM X G h41 (by walk_at "b3")
  fG:=tM X G h42 (by walk_at "b2")
  fH:=tM X G h43 (by walk_at "b2")
  cP:=tM X G h44 (by walk_at "b1")
  iB:=tM X G h45 (by walk_at "b3")
  iC:=tM X G h46 (by walk_at "b2")
  qz:=⟨_,_,F47,W.mg_of X G a47,F47.binds (ps:=["_law_script"]) fun _ _ _ _ _ _ us hl=>match us,hl with | [_],_=>rfl⟩
  cQ:=W.mg_none_of X G cQ
  fQ:=W.mg_none_of X G fQ
  jL:=W.mg_none_of X G jL
  ak:=W.mg_none_of X G ak
  gM:=W.mg_none_of X G gM
  dH:=W.mg_none_of X G dH
  iD:=W.mg_none_of X G iD
  jM:=W.mg_none_of X G jM
  bM:=W.mg_none_of X G bM
  jO:=W.mg_none_of X G jO
  aM:=W.mg_none_of X G aM
  cW:=W.mg_none_of X G cW
  jW:=⟨_,W.mg_of X G bN,fun H=>Dw.mpr ⟨_,[.int (1),.int (0),.int (0),.int (1)],rfl,.inr ⟨_,_,_,mZ,rfl,rfl,Ao (by show 4≤1000;decide),.cons ⟨_,rfl⟩ (.cons ⟨_,rfl⟩ (.cons ⟨_,rfl⟩ (.cons ⟨_,rfl⟩ (.nil))))⟩,RpL.cons (Bh.mpr rfl) (RpL.cons (Bh.mpr rfl) (RpL.cons (Bh.mpr rfl) (RpL.cons (Bh.mpr rfl) (RpL.nil))))⟩⟩
  aP:=⟨_,W.mg_of X G bJ⟩
  aB:=⟨_,W.mg_of X G bT⟩
 }
 refine⟨W.fnOf "law" "law" (Ek Mp) (Du Mp) (Ai Mp) .none rM rN rP rQ rR rW,fun s v=>.of_eq rfl,fun base kb nb=>?_⟩
 have kI:=AeI l.prog w base T 
 have gW:=M7 l.prog w base T 
 have cU:=Oo l.prog w base T 
 have oO:=Yn l.prog w base T 
 have aU:=Rt l.prog w base T 
 have bw:=W6 l.prog w base T 
 have qm:=Adf l.prog w base T 
 have pW:=Aau l.prog w base T 
 have jq:=Oh l.prog w base T 
 have kJ:=Rr l.prog w base T 
 have eV:=Kp l.prog w base T 
 have jr:=Oj l.prog w base T 
 have jA:=Qo l.prog w base T 
 have qL:=AfF l.prog w base T 
 have gO:=Tc l.prog w base T 
 have kO:=Rh l.prog w base T 
 have jt:=VP l.prog w base T 
 have gP:=UG l.prog w base T 
 have lQ:=Ux l.prog w base T 
 have kW:=Rj l.prog w base T 
 have ju:=Ot l.prog w base T 
 have lR:=AaO l.prog w base T bw
 have lU:=Tv l.prog w base T kI
 have cu:=Ra l.prog w base T oO
 have gB:=Lq l.prog w base T eV aU
 have bK:=G6 l.prog w base T kI
 have jB:=PL l.prog w base T kO
 have kY:=Ru l.prog w base T kW
 have kZ:=Q5 l.prog w base T gO
 have m8:=VH l.prog w base T gP jt
 have q9:=AhO l.prog w base T cu
 have pX:=Agq l.prog w base T cu
 have nU:=Abw l.prog w base T cu qm pW
 have gZ:=Ad4 l.prog w base T bw lU
 have m9:=VB l.prog w base T ju gP m8 jt
 have fL:=Q9 l.prog w base T gZ
 have cV:=Oi l.prog w base T gW gZ bw
 have dF:=Qu l.prog w base T jA nU aU
 have jC:=QM l.prog w base T aU pX
 have jT:=Xe l.prog w base T fL jq kJ nU aU
 have qp:=Ac1 l.prog w base T cV kI bw jr dF
 have qt:=AcU l.prog w base T lR jT
 have lV:=Ud l.prog w base T jT pX aU gB
 have jD:=Pa l.prog w base T kI qp dF bw
 have oR:=X7 l.prog w base T cV jD
 have oU:=Yy l.prog w base T lR oR
 have jw:=Vi l.prog w base T qt oU gZ
 have oV:=X6 l.prog w base T bw gZ jC jw
 have nq:=Vg l.prog w base T oV jw cU bK qL
 have qu:=Abv l.prog w base T nq
 have jE:=Pk l.prog w base T fL cU qu lV q9
 have rA:=Aiq l.prog w base T kZ kY gO lQ m9 jE jB
 obtain⟨f,fd,FT,GG⟩:=rA
 have e1:=FT.mg.symm.trans (W.mg_of X G a47)
 cases e1
 have e2:=FT.fn.uniq F47
 subst e2
 exact GG
theorem walk{l:W.OpenLaw}{q:Program}{loose:List Str}{XP:(Str→Option Value)→Heap→Prop}{YP:World→Heap→Prop}{d:DefRec}{K:Params→W.Frag}(hn:l.most=some 63)(hdf:d.params.defaults=[])
  (hY:∀(w:World)(h:Heap),YP w h→(K w.params).In h)
  (F:∀(w:World)(mg:Str→Option Value)(fa:Addr)(h:Heap),(K w.params).In h→h.Ns mainGlobals mg→mg d.name=some (.ref fa) →
   ∃fd:FuncData,(∀(s:Shared)(u:Value),BindsTo s fd ⟨[u],[]⟩ [("_law_script",u)])∧∀base:Heap,(K w.params).In base→base.Ns mainGlobals mg→Ho l.prog w (K w.params) mg base CX0 15 fa fd ["_law_script"] (lSp (K w.params) Uo)) :
  W.WalkO q loose XP YP l.row.toRowW d [] (fun f vs=>PySem.call f vs) :=
 L2.AfH (n:=63) (k:=15) (x:="_law_script") (CX:=fun _=>CX0) (sp:=fun w=>lSp (K w.params) Uo) hn (by decide) hdf ⟨rfl,by decide,by decide⟩ hY F (fun w H a ns hl _ hS=>AaI hl hS) fun _ _ _ _ _ z=>z
end My
open PySem W PyProof.Rows
local macro_rules | `(tactic| walk_at "nF") => `(tactic| (refine' My.Ag4 ?qa ?ql ?qc ?qk; (case qa => k_is); (case ql => k_is); (case qc => k_is); (case qk => k_is)))
theorem My.hFk{K:W.Frag}{n:PySem.Str}{s:PySem.Stmt}(f:PySem.Addr)(m:String)(t c:Nat)(a:W.nsIn K PySem.mainGlobals n=some (some (.ref f)):=by kernel_rfl)(l:K.lookup f=some ⟨.type "function",none,.func (W.fnOf n n (L2.Ek s) (L2.Du s) (L2.Ai s) .none .none .none (.str (.ofString m) t) none (.ref c) .none),#[]⟩:=by kernel_rfl)(d:W.codeIn K (.ref c) n=true:=by kernel_rfl)(k:W.keepIn K (.ref f)=true:=by kernel_rfl):My.nF K n s:=My.Ag4 a l d k
theorem My.hF0(P:PySem.Params):My.nF (My.KK P) "root" My.Jz:=My.hFk 129 "formcycle.wholes" 332 128
theorem My.hF1(P:PySem.Params):My.nF (My.KK P) "is_square" My.Fo:=My.hFk 136 "formcycle.wholes" 332 135
theorem My.hF2(P:PySem.Params):My.nF (My.KK P) "check_at_most" My.Cy:=My.hFk 143 "formcycle.wholes" 332 142
theorem My.hF3(P:PySem.Params):My.nF (My.KK P) "check_within" My.Cr:=My.hFk 150 "formcycle.wholes" 332 149
theorem My.hF4(P:PySem.Params):My.nF (My.KK P) "is_turn" My.Hg:=My.hFk 158 "formcycle.turns" 367 157
theorem My.hF5(P:PySem.Params):My.nF (My.KK P) "check_turn" My.CG:=My.hFk 165 "formcycle.turns" 367 164
theorem My.hF6(P:PySem.Params):My.nF (My.KK P) "led" My.Sv:=My.hFk 172 "formcycle.turns" 367 171
theorem My.hF7(P:PySem.Params):My.nF (My.KK P) "put_behind" My.Cg:=My.hFk 179 "formcycle.turns" 367 178
theorem My.hF8(P:PySem.Params):My.nF (My.KK P) "back" My.K6:=My.hFk 186 "formcycle.turns" 367 185
theorem My.hF9(P:PySem.Params):My.nF (My.KK P) "measure" My.Dh:=My.hFk 193 "formcycle.forms" 411 192
theorem My.rY(P:PySem.Params):My.nF (My.KK P) "value" My.Ka:=My.hFk 200 "formcycle.forms" 411 199
theorem My.rZ(P:PySem.Params):My.nF (My.KK P) "moved" My.Jj:=My.hFk 207 "formcycle.forms" 411 206
theorem My.su(P:PySem.Params):My.nF (My.KK P) "middle" My.Iz:=My.hFk 214 "formcycle.forms" 411 213
theorem My.sy(P:PySem.Params):My.nF (My.KK P) "shape" My.G7:=My.hFk 221 "formcycle.forms" 411 220
theorem My.sE(P:PySem.Params):My.nF (My.KK P) "check_bowl" My.Ds:=My.hFk 228 "formcycle.bowls" 458 227
theorem My.sG(P:PySem.Params):My.nF (My.KK P) "stands_least" My.Dl:=My.hFk 235 "formcycle.bowls" 458 234
theorem My.sH(P:PySem.Params):My.nF (My.KK P) "settled" My.Gh:=My.hFk 242 "formcycle.bowls" 458 241
theorem My.sI(P:PySem.Params):My.nF (My.KK P) "turn_lower" My.Ei:=My.hFk 249 "formcycle.bowls" 458 248
theorem My.sJ(P:PySem.Params):My.nF (My.KK P) "own_turns" My.Ea:=My.hFk 254 "formcycle.bowls" 458 253
theorem My.sS(P:PySem.Params):My.nF (My.KK P) "turns_of_least" My.Cq:=My.hFk 261 "formcycle.bowls" 458 260
theorem My.sU(P:PySem.Params):My.nF (My.KK P) "turning_of_least" My.Ca:=My.hFk 268 "formcycle.bowls" 458 267
theorem My.sV(P:PySem.Params):My.nF (My.KK P) "check_saddle" My.Cu:=My.hFk 275 "formcycle.saddles" 517 274
theorem My.sW(P:PySem.Params):My.nF (My.KK P) "stands_level" My.Dk:=My.hFk 282 "formcycle.saddles" 517 281
theorem My.sZ(P:PySem.Params):My.nF (My.KK P) "turn_behind" My.DK:=My.hFk 289 "formcycle.saddles" 517 288
theorem My.tu(P:PySem.Params):My.nF (My.KK P) "stop_behind" My.CZ:=My.hFk 296 "formcycle.saddles" 517 295
theorem My.tD(P:PySem.Params):My.nF (My.KK P) "eased" My.Kc:=My.hFk 303 "formcycle.saddles" 517 302
theorem My.tG(P:PySem.Params):My.nF (My.KK P) "stops_round" My.DN:=My.hFk 310 "formcycle.saddles" 517 309
theorem My.tH(P:PySem.Params):My.nF (My.KK P) "lowered" My.Hh:=My.hFk 317 "formcycle.saddles" 517 316
theorem My.tK(P:PySem.Params):My.nF (My.KK P) "shape_of" My.Ey:=My.hFk 404 "formcycle.shapes" 584 403
theorem My.tQ(P:PySem.Params):My.nF (My.KK P) "way_between" My.DQ:=My.hFk 411 "formcycle.shapes" 584 410
theorem My.tU(P:PySem.Params):My.nF (My.KK P) "heads" My.Jf:=My.hFk 416 "formcycle.answers" 704 415
theorem My.tV(P:PySem.Params):My.nF (My.KK P) "families" My.Gk:=My.hFk 423 "formcycle.answers" 704 422
theorem My.tW(P:PySem.Params):My.nF (My.KK P) "roots_of_square_divisors" My.Bf:=My.hFk 428 "formcycle.answers" 704 427
theorem My.tX(P:PySem.Params):My.nF (My.KK P) "feet" My.JX:=My.hFk 433 "formcycle.answers" 704 432
theorem My.tY(P:PySem.Params):My.nF (My.KK P) "all_answers" My.CV:=My.hFk 438 "formcycle.answers" 704 437
theorem My.tZ(P:PySem.Params):My.nF (My.KK P) "_law_cell" My.Eb:=My.hFk 445 "law_formcycle_k52_answers_of_bowls" 745 444
theorem My.uc(P:PySem.Params):My.nF (My.KK P) "_law_whole" My.Eo:=My.hFk 452 "law_formcycle_k52_answers_of_bowls" 745 451
theorem My.ud(P:PySem.Params):My.nF (My.KK P) "_law_wholes" My.CW:=My.hFk 457 "law_formcycle_k52_answers_of_bowls" 745 456
theorem My.uf(P:PySem.Params):My.nF (My.KK P) "_law_bar" My.Ew:=My.hFk 464 "law_formcycle_k52_answers_of_bowls" 745 463
theorem My.ug(P:PySem.Params):My.nF (My.KK P) "_law_root" My.Ed:=My.hFk 471 "law_formcycle_k52_answers_of_bowls" 745 470
theorem My.uh(P:PySem.Params):My.nF (My.KK P) "_law_turn" My.Fj:=My.hFk 478 "law_formcycle_k52_answers_of_bowls" 745 477
theorem My.uo(P:PySem.Params):My.nF (My.KK P) "_law_value" My.Eh:=My.hFk 485 "law_formcycle_k52_answers_of_bowls" 745 484
theorem My.uq(P:PySem.Params):My.nF (My.KK P) "_law_moved" My.Ej:=My.hFk 492 "law_formcycle_k52_answers_of_bowls" 745 491
theorem My.ur(P:PySem.Params):My.nF (My.KK P) "_law_taken" My.Ep:=My.hFk 499 "law_formcycle_k52_answers_of_bowls" 745 498
theorem My.uw(P:PySem.Params):My.nF (My.KK P) "_law_settled" My.Di:=My.hFk 506 "law_formcycle_k52_answers_of_bowls" 745 505
theorem My.ux(P:PySem.Params):My.nF (My.KK P) "_law_row" My.Gd:=My.hFk 513 "law_formcycle_k52_answers_of_bowls" 745 512
theorem My.uy(P:PySem.Params):My.nF (My.KK P) "_law_due" My.Ge:=My.hFk 520 "law_formcycle_k52_answers_of_bowls" 745 519
theorem My.uz(P:PySem.Params):My.nF (My.KK P) "law" My.Mp:=My.hFk 527 "law_formcycle_k52_answers_of_bowls" 745 526
set_option maxRecDepth 100000 in
set_option maxHeartbeats 0 in
theorem PySem.Challenge.cw_formcycle_k52_answers_of_bowls_holds : PySem.Challenge.rw_formcycle_k52_answers_of_bowls.Holds := by
 w_on
 refine holds_law My.said0 fun said=>?_
 refine holds_open (r:=PySem.Challenge.rw_formcycle_k52_answers_of_bowls.row) (q:=My.vw) (loose:=[]) (Xt:=fun s=>xlAt My.vw [] s&&recOk (RowW.records (PySem.Challenge.rw_formcycle_k52_answers_of_bowls.row.toRowW)) s) (XP:=XL My.vw []) (Yf:=Hook.obs (kHook My.KK My.asK (fun _=>by kernel_rfl))) (Ya:=Hook.val (kHook My.KK My.asK (fun _=>by kernel_rfl))) (YP:=Hook.says (kHook My.KK My.asK (fun _=>by kernel_rfl))) (N:=3881) My.hl (Hook.of (kHook My.KK My.asK (fun _=>by kernel_rfl))) (Hook.keeps (kHook My.KK My.asK (fun _=>by kernel_rfl))) (fun s e=>xl_of s (Bool.and_eq_true_iff.mp e).1) XL.keeps (by rfl) (by rfl) (by rfl) (fun s e=>recFacts_of (Bool.and_eq_true_iff.mp e).2) (by rfl) said (by decide +kernel) ⟨rfl,rfl,rfl,rfl,rfl,by decide +kernel⟩ ?hw ?hc
 (case hw=>w_witness2)
 k_fill
 refine My.walk (l:=PySem.Challenge.rw_formcycle_k52_answers_of_bowls) rfl rfl (fun w h Y=>PySem.W.kIn_of Y) ?F
 case F =>
  intro w mg fa h KX G hmg
  refine' My.all_mk KX G hmg (My.hF0 _) (My.hF1 _) (My.hF2 _) (My.hF3 _) (My.hF4 _) (My.hF5 _) (My.hF6 _) (My.hF7 _) (My.hF8 _) (My.hF9 _) (My.rY _) (My.rZ _) (My.su _) (My.sy _) (My.sE _) (My.sG _) (My.sH _) (My.sI _) (My.sJ _) (My.sS _) (My.sU _) (My.sV _) (My.sW _) (My.sZ _) (My.tu _) (My.tD _) (My.tG _) (My.tH _) (My.tK _) (My.tQ _) (My.tU _) (My.tV _) (My.tW _) (My.tX _) (My.tY _) (My.tZ _) (My.uc _) (My.ud _) (My.uf _) (My.ug _) (My.uh _) (My.uo _) (My.uq _) (My.ur _) (My.uw _) (My.ux _) (My.uy _) (My.uz _) ?cQ ?fQ ?jL ?ak ?gM ?dH ?iD ?jM ?bM ?jO ?aM ?cW ?iM ?iQ ?iR ?iT ?iU ?iV ?fK ?aX ?j6 ?j7 ?j8 ?j9 ?iW ?iY ?jc ?jd ?je ?jf ?jg ?jh ?kj ?kE ?jj ?aY ?aL ?aN ?aG ?fZ ?f9 ?gb ?gj ?dW ?dX ?dY ?dZ ?d7 ?d8 ?d9 ?eE ?gk ?gq ?eO ?aO ?aD ?aJ ?bI ?aV ?cY ?gw ?gA ?aZ ?bN ?mZ ?bJ ?bT
  case cQ|fQ|jL|ak|gM|dH|iD|jM|bM|jO|aM|cW|iM|iQ|iR|iT|iU|iV|fK|aX|j6|j7|j8|j9|iW|iY|jc|jd|je|jf|jg|jh|kj|kE|jj|aY|aL|aN|aG|fZ|f9|gb|gj|dW|dX|dY|dZ|d7|d8|d9|eE|gk|gq|eO|aO|aD|aJ|bI|aV|cY|gw|gA|aZ|bN|mZ|bJ|bT=>as_aux_lemma=>k_is
