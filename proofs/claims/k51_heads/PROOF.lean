import PyProof.Rows.All
import Wide.All
import OpenK.AllK
import Wide.FinOn
import Lean
import PyProof.EqAt
import PyProof.EqKinds
import PyProof.TupleCall
import PySem.Challenge.RW_formcycle_k51_heads
set_option Elab.async false
set_option linter.all false
set_option maxRecDepth 100000
set_option maxRecDepth 1000000
set_option maxHeartbeats 0
local macro_rules|`(∅)=>`(by omega)
local macro_rules|`(⋯)=>`(by decide)
local macro_rules|`(command|def $d:declId $s:optDeclSig $v:declVal)=>`(command|noncomputable def $d:declId $s:optDeclSig $v:declVal)
local macro_rules|`(command|abbrev $d:declId $s:optDeclSig $v:declVal)=>`(command|noncomputable abbrev $d:declId $s:optDeclSig $v:declVal)
theorem My.said0:PySem.Challenge.rw_formcycle_k51_heads.wellSaid=true:=by kernel_rfl
namespace My
open PySem W
def W0(tb:String→Option Builtin)(p:Program)(w:World)(m:Nat)(ann:Option Value):Nat→SharedT→Thread→Option SharedT
 |0,_,_=>none
 | k+1,s,t=>match through t with
  |true=>some s
  | false=>match stepOk m ann t with
   |false=>none
   | true=>match stepT (denote tb) p w s t with
    |some (s',t')=>W0 tb p w m ann k s' t'
    |none=>none
theorem Vg{tb:String→Option Builtin}{p:Program}{w:World}{m:Nat}{ann:Option Value}:∀(k:Nat){s r:SharedT}{t:Thread},W0 tb p w m ann k s t=some r→topRun tb p w m ann k s.abs t=some r.abs
 |0,s,r,t,h=>by cases h
 | k+1,s,r,t,h=>by
  unfold W0 at h
  unfold topRun
  cases e:through t with
  | true =>
   rw[e]at h
   cases h
   rfl
  | false =>
   rw[e]at h
   dsimp only at h ⊢
   cases e2:stepOk m ann t with
   |false=>rw[e2]at h;cases h
   | true =>
    rw[e2]at h
    dsimp only at h ⊢
    cases e3:stepT (denote tb) p w s t with
    |none=>rw[e3]at h;cases h
    | some st =>
     obtain⟨s',t'⟩:=st
     rw[e3]at h
     rw[stepT_spec e3]
     exact Vg k h
def AhP:List Obj→Nat→BT→BT
 | [],_,t=>t
 |o::os,n,t=>AhP os (n+1) (t.ins n o)
noncomputable def Sx(w:World)(os:OsState):SharedT:=⟨AhP (boot_heap w.params).objs.toList 0 .nil,(boot_heap w.params).objs.size,(boot_heap w.params).life,Array.mk [],boot_drawn,boot_toks,os⟩
noncomputable def BK(w:World)(os:OsState):Shared:=⟨boot_heap w.params,Array.mk [],boot_drawn,boot_toks,os⟩
def stays(p:Program)(s₀ s₁:Shared):Bool:=staticsOk (importedModules p.main.body) s₀.heap s₁.heap&&namesBound p s₁.heap&&gensDone s₁&&laidKept s₀.heap s₁.heap
theorem boot_abs:∀w os,(Sx w os).abs=BK w os:=fun w os=>by kernel_rfl
theorem Ahc{p:Program}{w:World}{N:Nat}{α:Type}{F:Shared→α}{g:α}(e:opening p=plainProg p.main.scope.names)(hN:Nat.ble 600 N=true)(f:∀s,fenceModules? p s=some s)
  (h:∀os,(W0 treeTable p w (BK w os).heap.objs.size ((BK w os).heap.nsMap mainGlobals "__annotations__") N (Sx w os) (topStub p)).map (fun r=>(stays p (BK w os) r.abs,F r.abs))=some (true,g))
  (h0:∀os,((BK w os).heap.isNs mainGlobals&&(BK w os).gens.size==0)=true):(openEnds treeTable p w N).map F=some g:=by
 have hb:=boot_open e hN f w
 unfold openEnds
 cases q:fencedOpening treeTable p w N with
 |none=>rw[q]at hb;cases hb
 | some s =>
  rw[q]at hb
  have hs:s=BK w s.os:=by
   obtain⟨a,b,c,d,o⟩:=s
   simp only[Option.map_some,Option.some.injEq,Prod.mk.injEq]at hb
   obtain⟨rfl,rfl,rfl,rfl⟩:=hb
   rfl
  generalize s.os=o at hs
  subst hs
  show(topFrom treeTable p w N (BK w o)).map F=some g
  unfold topFrom
  rw[h0 o]
  have hh:=h o
  cases q2:W0 treeTable p w (BK w o).heap.objs.size ((BK w o).heap.nsMap mainGlobals "__annotations__") N (Sx w o) (topStub p)with
  |none=>rw[q2]at hh;cases hh
  | some r =>
   rw[q2]at hh
   have hr:=Vg N q2
   rw[boot_abs]at hr
   simp only[Option.map_some,Option.some.injEq,Prod.mk.injEq]at hh
   obtain⟨h1,h2⟩:=hh
   unfold stays at h1
   dsimp only
   rw[hr]
   show(match staticsOk (importedModules p.main.body) (BK w o).heap r.abs.heap&&namesBound p r.abs.heap&&gensDone r.abs&&laidKept (BK w o).heap r.abs.heap with
    |true=>some r.abs
    |false=>none).map F=some g
   rw[h1]
   exact congrArg some h2
noncomputable def TR(p:Program)(w:World)(os:OsState)(N:Nat):Option SharedT:=W0 treeTable p w (BK w os).heap.objs.size ((BK w os).heap.nsMap mainGlobals "__annotations__") N (Sx w os) (topStub p)
theorem Aj3{p:Program}{w:World}{N:Nat}{α β:Type}{F:Shared→α}{G:Shared→β}{f':α}{g':β}(e:opening p=plainProg p.main.scope.names)(hN:Nat.ble 600 N=true)(f:∀s,fenceModules? p s=some s)
  (h1:∀os,(TR p w os N).map (fun r=>stays p (BK w os) r.abs)=some true) (h2:∀os,(TR p w os N).map (fun r=>F r.abs)=some f') (h3:∀os,(TR p w os N).map (fun r=>G r.abs)=some g')
  (h0:∀os,((BK w os).heap.isNs mainGlobals&&(BK w os).gens.size==0)=true):(openEnds treeTable p w N).map (fun s=>(F s,G s))=some (f',g') :=
 Ahc (F:=fun s=>(F s,G s)) e hN f (fun os=>by
  have a:=h1 os
  have b:=h2 os
  have c:=h3 os
  unfold TR at a b c
  revert a b c
  generalize W0 treeTable p w (BK w os).heap.objs.size ((BK w os).heap.nsMap mainGlobals "__annotations__") N (Sx w os) (topStub p)=o
  intro a b c
  cases o with
  |none=>cases a
  | some r =>
   simp only[Option.map_some,Option.some.injEq]at a b c ⊢
   rw[a,b,c]) h0
end My
namespace My
open PySem W
def goT(tb:String→Option Builtin)(p:Program)(w:World)(m:Nat)(ann:Option Value):Nat→SharedT→Thread→Option (SharedT×Thread)
 |0,s,t=>some (s,t)
 | k+1,s,t=>match through t with
  |true=>none
  | false=>match stepOk m ann t with
   |false=>none
   | true=>match stepT (denote tb) p w s t with
    |some (s',t')=>goT tb p w m ann k s' t'
    |none=>none
theorem AeA{tb:String→Option Builtin}{p:Program}{w:World}{m:Nat}{ann:Option Value}:∀(k:Nat){s s':SharedT}{t t':Thread},goT tb p w m ann k s t=some (s',t')→topGo tb p w m ann k s.abs t=some (s'.abs,t')
 |0,s,s',t,t',h=>by cases h;rfl
 | k+1,s,s',t,t',h=>by
  unfold goT at h
  unfold topGo
  cases e:through t with
  |true=>rw[e]at h;cases h
  | false =>
   rw[e]at h
   dsimp only at h ⊢
   cases e2:stepOk m ann t with
   |false=>rw[e2]at h;cases h
   | true =>
    rw[e2]at h
    dsimp only at h ⊢
    cases e3:stepT (denote tb) p w s t with
    |none=>rw[e3]at h;cases h
    | some st =>
     obtain⟨s2,t2⟩:=st
     rw[e3]at h
     rw[stepT_spec e3]
     exact AeA k h
theorem Acv{p:Program}{w:World}{N:Nat}{α:Type}{F:Shared→α}{g:α}(e:opening p=plainProg p.main.scope.names)(hN:Nat.ble 600 N=true)(f:∀s,fenceModules? p s=some s)
  (h:∀os,∃r:Shared,topRun treeTable p w (BK w os).heap.objs.size ((BK w os).heap.nsMap mainGlobals "__annotations__") N (BK w os) (topStub p)=some r∧stays p (BK w os) r=true∧F r=g)
  (h0:∀os,((BK w os).heap.isNs mainGlobals&&(BK w os).gens.size==0)=true):(openEnds treeTable p w N).map F=some g:=by
 have hb:=boot_open e hN f w
 unfold openEnds
 cases q:fencedOpening treeTable p w N with
 |none=>rw[q]at hb;cases hb
 | some s =>
  rw[q]at hb
  have hs:s=BK w s.os:=by
   obtain⟨a,b,c,d,o⟩:=s
   simp only[Option.map_some,Option.some.injEq,Prod.mk.injEq]at hb
   obtain⟨rfl,rfl,rfl,rfl⟩:=hb
   rfl
  generalize s.os=o at hs
  subst hs
  show(topFrom treeTable p w N (BK w o)).map F=some g
  unfold topFrom
  rw[h0 o]
  obtain⟨r,hr,h1,h2⟩:=h o
  unfold stays at h1
  dsimp only
  rw[hr]
  show(match staticsOk (importedModules p.main.body) (BK w o).heap r.heap&&namesBound p r.heap&&gensDone r&&laidKept (BK w o).heap r.heap with
   |true=>some r
   |false=>none).map F=some g
  rw[h1]
  exact congrArg some h2
theorem Aek{p:Program}{w:World}{N:Nat}{α β:Type}{F:Shared→α}{G:Shared→β}{f':α}{g':β}{TL:OsState→Option SharedT}(e:opening p=plainProg p.main.scope.names)(hN:Nat.ble 600 N=true)(f:∀s,fenceModules? p s=some s)
  (hr:∀os r,TL os=some r→topRun treeTable p w (BK w os).heap.objs.size ((BK w os).heap.nsMap mainGlobals "__annotations__") N (BK w os) (topStub p)=some r.abs)
  (h1:∀os,(TL os).map (fun r=>stays p (BK w os) r.abs)=some true) (h2:∀os,(TL os).map (fun r=>F r.abs)=some f') (h3:∀os,(TL os).map (fun r=>G r.abs)=some g')
  (h0:∀os,((BK w os).heap.isNs mainGlobals&&(BK w os).gens.size==0)=true):(openEnds treeTable p w N).map (fun s=>(F s,G s))=some (f',g') :=
 Acv (F:=fun s=>(F s,G s)) e hN f (fun os=>by
  have a:=h1 os
  have b:=h2 os
  have c:=h3 os
  have d:=hr os
  cases q:TL os with
  |none=>rw[q]at a;cases a
  | some r =>
   rw[q]at a b c
   simp only[Option.map_some,Option.some.injEq]at a b c
   exact⟨_,d r q,a,by rw[b,c]⟩) h0
end My
set_option maxRecDepth 1000000
set_option maxHeartbeats 0
namespace My
open PySem W
def tp(i:Nat):Stmt:=PySem.Challenge.pw_formcycle_k51_heads.main.body.getD i (.Pass ⟨0,0,0,0⟩)
def fA(s:Stmt):Arguments:=match s with
 |.FunctionDef _ a _ _ _ _ _ _ _ _=>a
 |_=>⟨[],[],none,[],[],none,[]⟩
def fB(s:Stmt):List Stmt:=match s with
 |.FunctionDef _ _ b _ _ _ _ _ _ _=>b
 |_=>[]
def fS(s:Stmt):Scope:=match s with
 |.FunctionDef _ _ _ _ _ _ c _ _ _=>c
 |_=>⟨.function,[],false,false,[]⟩
def inC(s:Stmt)(j:Nat):Stmt:=match s with
 |.ClassDef _ _ _ b _ _ _ _ _ _ _=>b.getD j (.Pass ⟨0,0,0,0⟩)
 |_=>.Pass ⟨0,0,0,0⟩
noncomputable section
abbrev O:=Obj
abbrev sT(s:String)(t:Nat):Value:=.str (.ofString s) t
abbrev iZ(n:Int):Value:=.int n 0
abbrev dE(P:Params)(s:String)(t:Nat)(v:Value):DictEntry:=.mk (PyData.keyHash P (.ofString s)) (.str (.ofString s) t) v
abbrev fO(n q:String)(w:Stmt)(m:String)(t c:Nat):Obj:=.mk (.type "function") none (Data.func (FuncData.mk (.ofString n) (.ofString q) (fA w) (.stmts (fB w)) (fS w) 3 [] .none .none .none (.str (.ofString m) t) none (.ref c) .none 0)) #[]
abbrev tO(a:Array Value):Obj:=.mk (.type "tuple") none (Data.seq a) #[]
abbrev cO(a:Array Value):Obj:=.mk (.type "code") none (Data.fields a) #[]
abbrev nO(a:Array Value):Obj:=.mk .none none (Data.fields a) #[]
abbrev mO(a:Array DictEntry):Obj:=.mk (.type "dict") none (Data.dict a) #[]
abbrev bO(a:Array Value):Obj:=.mk (.type "builtin_function_or_method") none (Data.fields a) #[]
abbrev Lf(o:Obj):BT:=.node o .nil .nil
abbrev Nd(o:Obj)(l r:BT):BT:=.node o l r
abbrev sF(t:Nat):Value:=.str (.ofString "/claim/cut.py") t
def tE:Obj:=.mk (.type "tuple") none (Data.seq #[]) #[]
abbrev cF(n q:String)(a l k r t:Nat):Obj:=.mk (.type "code") none (Data.fields #[.str (.ofString n) a,.str (.ofString q) (a+1),.str (.ofString "/claim/cut.py") (a+2),.int l 0,.int k 0,.int 0 0,.int 0 0,.int 3 0,.ref r,.bool true,.int 181 0,.ref (r+1),.none,.ref (r+2),.ref (r+3),.ref (r+4),.int t 0,.int l 0,.str (.ofString "/claim/cut.py") (t+1)]) #[]
abbrev pO(n q:String)(w:Stmt)(c:Nat):Obj:=.mk .none none (Data.func (FuncData.mk (.ofString n) (.ofString q) (fA w) (.stmts (fB w)) (fS w) 3 [] .none .none .none .none none (.ref c) .none 0)) #[]
abbrev rO(c l:Nat)(m:String)(t:Nat):Obj:=.mk (.type "frame") none Data.plain #[some (.ref c),some (.ref 3),some (.ref l),none,some (.str (.ofString m) t),none,some (.ref 0)]
abbrev sO(c:Nat):Obj:=.mk (.type "super") none (Data.fields #[.ref c,.ref c,.ref c]) #[]
abbrev dO(a:Array DictEntry)(n:Nat):Obj:=.mk (.type "dict") none (Data.dict a n) #[]
abbrev xO(n:String)(b c d e t u:Nat):Obj:=.mk (.type "type") none (Data.cls (ClassData.mk (.ofString n) [.ref b] [.ref c,.ref b,.type "ValueError",.type "Exception",.type "BaseException",.type "object"] d (.ofString n) true [] [] false none false)) #[some (.ref e),none,some (.str (.ofString n) t),some (.str (.ofString n) u),some (.builtin "ValueError.__new__"),some (.bool true)]
def o2:O:=.mk .none none (Data.dict #[]) #[]
def o3(P:Params):O:=dO #[dE P "__name__" 165 (sT "law_formcycle_k51_heads" 708),dE P "__doc__" 166 .none,dE P "__package__" 167 .none,dE P "__loader__" 168 (.builtin "__main__.__loader__#opaque"),dE P "__spec__" 169 .none,dE P "__annotations__" 170 (.ref 6),dE P "__builtins__" 171 (.ref 4),dE P "__file__" 173 (sF 172),dE P "__cached__" 174 .none,dE P "_wall" 193 (.ref 21),dE P "FormError" 213 (.ref 31),dE P "NoTurn" 238 (.ref 51),dE P "NoShape" 263 (.ref 70),dE P "TooGreat" 290 (.ref 89),dE P "NoRoot" 315 (.ref 108),dE P "Nought" 331 (.ref 120),dE P "root" 342 (.ref 129),dE P "is_square" 350 (.ref 136),dE P "check_at_most" 358 (.ref 143),dE P "check_within" 366 (.ref 150),dE P "SAME" 373 (.ref 151),dE P "is_turn" 380 (.ref 158),dE P "check_turn" 387 (.ref 165),dE P "put_behind" 395 (.ref 172),dE P "back" 402 (.ref 179),dE P "measure" 411 (.ref 186),dE P "value" 421 (.ref 193),dE P "moved" 431 (.ref 200),dE P "middle" 441 (.ref 207),dE P "shape" 449 (.ref 214),dE P "check_bowl" 458 (.ref 221),dE P "stands_least" 468 (.ref 228),dE P "settled" 477 (.ref 235),dE P "turn_lower" 485 (.ref 242),dE P "MOST_MEASURE" 489 (.int 4000 488),dE P "check_saddle" 496 (.ref 249),dE P "stands_level" 505 (.ref 256),dE P "turn_behind" 516 (.ref 263),dE P "stop_behind" 525 (.ref 270),dE P "eased" 534 (.ref 277),dE P "stops_round" 545 (.ref 284),dE P "lowered" 552 (.ref 291),dE P "Shape" 609 (.ref 329),dE P "Bowl" 633 (.ref 350),dE P "Saddle" 657 (.ref 369),dE P "shape_of" 664 (.ref 378),dE P "way_between" 672 (.ref 385),dE P "MOST_NUMBER" 676 (.int 400 675),dE P "heads" 682 (.ref 390),dE P "families" 695 (.ref 397),dE P "roots_of_square_divisors" 701 (.ref 402),dE P "feet" 707 (.ref 407),dE P "_law_cell" 717 (.ref 414),dE P "_law_whole" 724 (.ref 421),dE P "_law_wholes" 730 (.ref 426),dE P "_law_bar" 737 (.ref 433),dE P "_law_root" 745 (.ref 440),dE P "_law_flat" 754 (.ref 447),dE P "_law_level" 762 (.ref 454),dE P "_law_behind" 774 (.ref 461),dE P "_law_bowl" 785 (.ref 468),dE P "_law_least" 795 (.ref 475),dE P "_law_turn" 809 (.ref 482),dE P "_law_value" 818 (.ref 489),dE P "_law_moved" 831 (.ref 496),dE P "_law_taken" 847 (.ref 503),dE P "_law_shares" 859 (.ref 510),dE P "_law_pair" 872 (.ref 517),dE P "_law_tops" 881 (.ref 524),dE P "_law_in" 891 (.ref 531),dE P "_law_due" 907 (.ref 538),dE P "_law_asked" 918 (.ref 545),dE P "law" 924 (.ref 550)] 73
def o17:O:=tO #[sT "k" 190]
def o20:O:=cF "_wall" "_wall" 187 1 1 15 191
def o21:O:=fO "_wall" "_wall" (tp 0) "__main__" 164 20
def o22:O:=tO #[.type "ValueError"]
def o30(P:Params):O:=dO #[dE P "__module__" 203 (sT "formcycle.errors" 194),dE P "__firstlineno__" 207 (.int 5 206),dE P "__static_attributes__" 208 (.ref 29),dE P "__weakref__" 210 (.ref 32),dE P "__doc__" 211 .none] 3
def o31:O:=.mk (.type "type") none (Data.cls (ClassData.mk (.ofString "FormError") [.type "ValueError"] [.ref 31,.type "ValueError",.type "Exception",.type "BaseException",.type "object"] 30 (.ofString "FormError") Bool.true [] [.ref 51,.ref 70,.ref 89,.ref 108,.ref 120] Bool.false none Bool.false)) #[some (.ref 22),none,some (sT "FormError" 196),some (sT "FormError" 204),some (.builtin "ValueError.__new__"),some (.bool true)]
def o32:O:=.mk (.type "getset_descriptor") none (Data.fields #[sT "__weakref__" 209,.ref 31,.builtin "ExceptionGroup.__weakref__",.none]) #[]
def o35:O:=tO #[.ref 31]
def o44:O:=tO #[sT "self" 229,sT "turn" 230]
def o47:O:=cF "__init__" "NoTurn.__init__" 226 9 2 42 231
def o48:O:=fO "__init__" "NoTurn.__init__" (inC (tp 3) 0) "formcycle.errors" 194 47
def o49:O:=tO #[sT "turn" 234]
def o50(P:Params):O:=dO #[dE P "__module__" 221 (sT "formcycle.errors" 194),dE P "__firstlineno__" 225 (.int 7 224),dE P "__init__" 233 (.ref 48),dE P "__static_attributes__" 235 (.ref 49),dE P "__doc__" 236 .none] 2
def o51:O:=xO "NoTurn" 31 51 50 35 214 222
def o54:O:=tO #[.ref 31]
def o63:O:=tO #[sT "self" 254,sT "form" 255]
def o66:O:=cF "__init__" "NoShape.__init__" 251 13 2 61 256
def o67:O:=fO "__init__" "NoShape.__init__" (inC (tp 4) 0) "formcycle.errors" 194 66
def o68:O:=tO #[sT "form" 259]
def o69(P:Params):O:=dO #[dE P "__module__" 246 (sT "formcycle.errors" 194),dE P "__firstlineno__" 250 (.int 11 249),dE P "__init__" 258 (.ref 67),dE P "__static_attributes__" 260 (.ref 68),dE P "__doc__" 261 .none] 2
def o70:O:=xO "NoShape" 31 70 69 54 239 247
def o73:O:=tO #[.ref 31]
def o82:O:=tO #[sT "self" 279,sT "number" 280,sT "most" 281]
def o85:O:=cF "__init__" "TooGreat.__init__" 276 17 3 80 282
def o86:O:=fO "__init__" "TooGreat.__init__" (inC (tp 5) 0) "formcycle.errors" 194 85
def o87:O:=tO #[sT "most" 285,sT "number" 286]
def o88(P:Params):O:=dO #[dE P "__module__" 271 (sT "formcycle.errors" 194),dE P "__firstlineno__" 275 (.int 15 274),dE P "__init__" 284 (.ref 86),dE P "__static_attributes__" 287 (.ref 87),dE P "__doc__" 288 .none] 2
def o89:O:=xO "TooGreat" 31 89 88 73 264 272
def o92:O:=tO #[.ref 31]
def Ajc:O:=tO #[sT "self" 306,sT "number" 307]
def AiL:O:=cF "__init__" "NoRoot.__init__" 303 22 2 99 308
def Aik:O:=fO "__init__" "NoRoot.__init__" (inC (tp 6) 0) "formcycle.errors" 194 104
def Ai5:O:=tO #[sT "number" 311]
def AjK(P:Params):O:=dO #[dE P "__module__" 298 (sT "formcycle.errors" 194),dE P "__firstlineno__" 302 (.int 20 301),dE P "__init__" 310 (.ref 105),dE P "__static_attributes__" 312 (.ref 106),dE P "__doc__" 313 .none] 2
def Ah7:O:=xO "NoRoot" 31 108 107 92 291 299
def o111:O:=tO #[.ref 31]
def Ai2(P:Params):O:=dO #[dE P "__module__" 323 (sT "formcycle.errors" 194),dE P "__firstlineno__" 327 (.int 24 326),dE P "__static_attributes__" 328 (.ref 118),dE P "__doc__" 329 .none] 2
def Aia:O:=xO "Nought" 31 120 119 111 316 324
def AjG:O:=tO #[sT "number" 337,sT "guess" 338,sT "better" 339]
def Ai8:O:=cF "root" "root" 334 27 1 123 340
def Ajy:O:=fO "root" "root" (tp 9) "formcycle.wholes" 332 128
def Ajg:O:=tO #[sT "number" 346,sT "side" 347]
def Aim:O:=cF "is_square" "is_square" 343 38 1 130 348
def Ajr:O:=fO "is_square" "is_square" (tp 10) "formcycle.wholes" 332 135
def Ai1:O:=tO #[sT "number" 354,sT "most" 355]
def Ajx:O:=cF "check_at_most" "check_at_most" 351 43 2 137 356
def AiV:O:=fO "check_at_most" "check_at_most" (tp 11) "formcycle.wholes" 332 142
def AmS:O:=tO #[sT "number" 362,sT "most" 363]
def Amy:O:=cF "check_within" "check_within" 359 46 2 144 364
def Alu:O:=fO "check_within" "check_within" (tp 12) "formcycle.wholes" 332 149
def AkG:O:=tO #[.int 1 369,.int 0 370,.int 0 371,.int 1 372]
def Aj2:O:=tO #[sT "turn" 377]
def AlM:O:=cF "is_turn" "is_turn" 374 51 1 152 378
def Am1:O:=fO "is_turn" "is_turn" (tp 15) "formcycle.turns" 367 157
def Am9:O:=tO #[sT "turn" 384]
def AkR:O:=cF "check_turn" "check_turn" 381 53 1 159 385
def Ali:O:=fO "check_turn" "check_turn" (tp 16) "formcycle.turns" 367 164
def Aly:O:=tO #[sT "one" 391,sT "other" 392]
def Akv:O:=cF "put_behind" "put_behind" 388 56 2 166 393
def AmA:O:=fO "put_behind" "put_behind" (tp 17) "formcycle.turns" 367 171
def Alw:O:=tO #[sT "turn" 399]
def AlT:O:=cF "back" "back" 396 58 1 173 400
def Amo:O:=fO "back" "back" (tp 18) "formcycle.turns" 367 178
def AlQ:O:=tO #[sT "form" 408]
def Akp:O:=cF "measure" "measure" 405 62 1 180 409
def Ak2:O:=fO "measure" "measure" (tp 20) "formcycle.forms" 403 185
def AlK:O:=tO #[sT "form" 415,sT "point" 416,sT "x" 417,sT "y" 418]
def Ak0:O:=cF "value" "value" 412 64 2 187 419
def Ak7:O:=fO "value" "value" (tp 21) "formcycle.forms" 403 192
def Alo:O:=tO #[sT "form" 425,sT "turn" 426,sT "left" 427,sT "right" 428]
def Amu:O:=cF "moved" "moved" 422 68 2 194 429
def o200:O:=fO "moved" "moved" (tp 22) "formcycle.forms" 403 199
def Amm:O:=tO #[sT "form" 435,sT "left" 436,sT "right" 437,sT "crossed" 438]
def Am6:O:=cF "middle" "middle" 432 73 3 201 439
def AlN:O:=fO "middle" "middle" (tp 23) "formcycle.forms" 403 206
def Akb:O:=tO #[sT "form" 445,sT "number" 446]
def Akz:O:=cF "shape" "shape" 442 76 1 208 447
def AkD:O:=fO "shape" "shape" (tp 24) "formcycle.forms" 403 213
def Ala:O:=tO #[sT "form" 455]
def AjW:O:=cF "check_bowl" "check_bowl" 452 86 1 215 456
def Amf:O:=fO "check_bowl" "check_bowl" (tp 26) "formcycle.bowls" 450 220
def AkM:O:=tO #[sT "form" 462,sT "a" 463,sT "b" 464,sT "c" 465]
def Am2:O:=cF "stands_least" "stands_least" 459 89 1 222 466
def Als:O:=fO "stands_least" "stands_least" (tp 27) "formcycle.bowls" 450 227
def Amz:O:=tO #[sT "form" 472,sT "turn" 473,sT "lowering" 474]
def Amd:O:=cF "settled" "settled" 469 96 1 229 475
def AkL:O:=fO "settled" "settled" (tp 28) "formcycle.bowls" 450 234
def AjN:O:=tO #[sT "form" 481,sT "often" 482]
def Amx:O:=cF "turn_lower" "turn_lower" 478 104 1 236 483
def AmH:O:=fO "turn_lower" "turn_lower" (tp 29) "formcycle.bowls" 450 241
def AjS:O:=tO #[sT "form" 493]
def AkK:O:=cF "check_saddle" "check_saddle" 490 111 1 243 494
def Alr:O:=fO "check_saddle" "check_saddle" (tp 32) "formcycle.saddles" 486 248
def AmP:O:=tO #[sT "form" 500,sT "far" 501,sT "b" 502]
def Akh:O:=cF "stands_level" "stands_level" 497 115 2 250 503
def Aj5:O:=fO "stands_level" "stands_level" (tp 33) "formcycle.saddles" 486 255
def AmZ:O:=tO #[sT "form" 509,sT "top" 510,sT "b" 511,sT "c" 512,sT "d" 513]
def AkB:O:=cF "turn_behind" "turn_behind" 506 118 2 257 514
def AmY:O:=fO "turn_behind" "turn_behind" (tp 34) "formcycle.saddles" 486 262
def Aj4:O:=tO #[sT "stop" 520,sT "top" 521,sT "turn" 522]
def Al7:O:=cF "stop_behind" "stop_behind" 517 123 2 264 523
def AkY:O:=fO "stop_behind" "stop_behind" (tp 35) "formcycle.saddles" 486 269
def AmD:O:=tO #[sT "form" 529,sT "far" 530,sT "stop" 531]
def AjP:O:=cF "eased" "eased" 526 126 1 271 532
def AkI:O:=fO "eased" "eased" (tp 36) "formcycle.saddles" 486 276
def Am7:O:=tO #[sT "form" 538,sT "far" 539,sT "first" 540,sT "stops" 541,sT "stop" 542]
def Alf:O:=cF "stops_round" "stops_round" 535 133 1 278 543
def AjX:O:=fO "stops_round" "stops_round" (tp 37) "formcycle.saddles" 486 283
def AmI:O:=tO #[sT "form" 549]
def Am3:O:=cF "lowered" "lowered" 546 143 1 285 550
def Al6:O:=fO "lowered" "lowered" (tp 38) "formcycle.saddles" 486 290
def Aj0:O:=tO #[sT "self" 570,sT "form" 571,sT "lowest" 572]
def Am8:O:=cF "__init__" "Shape.__init__" 567 149 3 299 573
def AlH:O:=fO "__init__" "Shape.__init__" (inC (tp 40) 0) "formcycle.shapes" 553 304
def Alq:O:=tO #[sT "self" 579]
def AlS:O:=cF "least" "Shape.least" 576 154 1 306 580
def Aj9:O:=fO "least" "Shape.least" (inC (tp 40) 1) "formcycle.shapes" 553 311
def Alh:O:=tO #[sT "self" 586,sT "turn" 587]
def Al8:O:=cF "leaves" "Shape.leaves" 583 157 2 313 588
def AlP:O:=fO "leaves" "Shape.leaves" (inC (tp 40) 2) "formcycle.shapes" 553 318
def AlB:O:=tO #[sT "self" 594,sT "other" 595]
def AkH:O:=cF "way_to" "Shape.way_to" 591 160 2 320 596
def Aj8:O:=fO "way_to" "Shape.way_to" (inC (tp 40) 3) "formcycle.shapes" 553 325
def AkE:O:=tO #[sT "form" 599,sT "lowest" 600,sT "measure" 601]
def AjO(P:Params):O:=dO #[dE P "__module__" 562 (sT "formcycle.shapes" 553),dE P "__firstlineno__" 566 (.int 147 565),dE P "__init__" 575 (.ref 305),dE P "least" 582 (.ref 312),dE P "leaves" 590 (.ref 319),dE P "way_to" 598 (.ref 326),dE P "__static_attributes__" 602 (.ref 327),dE P "__dict__" 604 (.ref 330),dE P "__weakref__" 606 (.ref 331),dE P "__doc__" 607 .none] 4
def Aml:O:=.mk (.type "type") none (Data.cls (ClassData.mk (.ofString "Shape") [.type "object"] [.ref 329,.type "object"] 328 (.ofString "Shape") Bool.true [] [.ref 350,.ref 369] Bool.false none Bool.false)) #[none,none,some (sT "Shape" 555),some (sT "Shape" 563),some (.builtin "object.__new__"),some (.bool true)]
def Ak3:O:=.mk (.type "getset_descriptor") none (Data.fields #[sT "__dict__" 603,.ref 329,.builtin "function.__dict__",.builtin "function.__dict__#set"]) #[]
def AlY:O:=.mk (.type "getset_descriptor") none (Data.fields #[sT "__weakref__" 605,.ref 329,.builtin "ExceptionGroup.__weakref__",.none]) #[]
def Amv:O:=tO #[.ref 329]
def AlW:O:=tO #[sT "self" 625,sT "form" 626]
def AmL:O:=cF "__init__" "Bowl.__init__" 622 166 2 341 627
def Ak4:O:=fO "__init__" "Bowl.__init__" (inC (tp 41) 0) "formcycle.shapes" 553 346
def Akk(P:Params):O:=dO #[dE P "__module__" 617 (sT "formcycle.shapes" 553),dE P "__firstlineno__" 621 (.int 164 620),dE P "__init__" 629 (.ref 347),dE P "__static_attributes__" 630 (.ref 348),dE P "__doc__" 631 .none] 2
def Akd:O:=.mk (.type "type") none (Data.cls (ClassData.mk (.ofString "Bowl") [.ref 329] [.ref 350,.ref 329,.type "object"] 349 (.ofString "Bowl") Bool.true [] [] Bool.false none Bool.false)) #[some (.ref 334),none,some (sT "Bowl" 610),some (sT "Bowl" 618),some (.builtin "object.__new__"),some (.bool true)]
def AkW:O:=tO #[.ref 329]
def Aks:O:=tO #[sT "self" 649,sT "form" 650]
def Al5:O:=cF "__init__" "Saddle.__init__" 646 170 2 360 651
def Al9:O:=fO "__init__" "Saddle.__init__" (inC (tp 42) 0) "formcycle.shapes" 553 365
def Aln(P:Params):O:=dO #[dE P "__module__" 641 (sT "formcycle.shapes" 553),dE P "__firstlineno__" 645 (.int 168 644),dE P "__init__" 653 (.ref 366),dE P "__static_attributes__" 654 (.ref 367),dE P "__doc__" 655 .none] 2
def AjQ:O:=.mk (.type "type") none (Data.cls (ClassData.mk (.ofString "Saddle") [.ref 329] [.ref 369,.ref 329,.type "object"] 368 (.ofString "Saddle") Bool.true [] [] Bool.false none Bool.false)) #[some (.ref 353),none,some (sT "Saddle" 634),some (sT "Saddle" 642),some (.builtin "object.__new__"),some (.bool true)]
def Aoj:O:=tO #[sT "form" 661]
def o377:O:=cF "shape_of" "shape_of" 658 172 1 372 662
def Aoz:O:=fO "shape_of" "shape_of" (tp 43) "formcycle.shapes" 553 377
def An7:O:=tO #[sT "one" 668,sT "other" 669]
def AoD:O:=cF "way_between" "way_between" 665 176 2 379 670
def AoN:O:=fO "way_between" "way_between" (tp 44) "formcycle.shapes" 553 384
def AoF:O:=cO #[sT "heads" 677,sT "heads" 678,sF 679,iZ 182,iZ 2,iZ 0,iZ 0,iZ 3,.ref 386,.bool true,iZ 181,.ref 387,.none,.none,.none,.ref 388,iZ 680,iZ 182,sF 681]
def Aoe:O:=fO "heads" "heads" (tp 47) "formcycle.answers" 673 389
def Anm:O:=tO #[sT "form" 686,sT "number" 687,sT "whole" 688,sT "found" 689,sT "g" 690,sT "foot" 691,sT "turn" 692]
def Aog:O:=cF "families" "families" 683 184 2 391 693
def AnV:O:=fO "families" "families" (tp 48) "formcycle.answers" 673 396
def Ao8:O:=cO #[sT "roots_of_square_divisors" 696,sT "roots_of_square_divisors" 697,sF 698,iZ 196,iZ 1,iZ 0,iZ 0,iZ 3,.ref 398,.bool true,iZ 181,.ref 399,.none,.none,.none,.ref 400,iZ 699,iZ 196,sF 700]
def Anr:O:=fO "roots_of_square_divisors" "roots_of_square_divisors" (tp 49) "formcycle.answers" 673 401
def An4:O:=cO #[sT "feet" 702,sT "feet" 703,sF 704,iZ 198,iZ 2,iZ 0,iZ 0,iZ 3,.ref 403,.bool true,iZ 181,.ref 404,.none,.none,.none,.ref 405,iZ 705,iZ 198,sF 706]
def AnF:O:=fO "feet" "feet" (tp 50) "formcycle.answers" 673 406
def AoV:O:=tO #[sT "_law_script" 713,sT "_law_k" 714]
def AoM:O:=cF "_law_cell" "_law_cell" 710 202 2 408 715
def AoL:O:=fO "_law_cell" "_law_cell" (tp 52) "law_formcycle_k51_heads" 708 413
def Ao2:O:=tO #[sT "_law_found" 721]
def An2:O:=cF "_law_whole" "_law_whole" 718 206 1 415 722
def AnD:O:=fO "_law_whole" "_law_whole" (tp 53) "law_formcycle_k51_heads" 708 420
def AoK:O:=cO #[sT "_law_wholes" 725,sT "_law_wholes" 726,sF 727,iZ 208,iZ 2,iZ 0,iZ 0,iZ 3,.ref 422,.bool true,iZ 181,.ref 423,.none,.none,.none,.ref 424,iZ 728,iZ 208,sF 729]
def AoR:O:=fO "_law_wholes" "_law_wholes" (tp 54) "law_formcycle_k51_heads" 708 425
def AoB:O:=tO #[sT "_law_form" 734]
def Aon:O:=cF "_law_bar" "_law_bar" 731 212 1 427 735
def An0:O:=fO "_law_bar" "_law_bar" (tp 55) "law_formcycle_k51_heads" 708 432
def AoC:O:=tO #[sT "_law_number" 741,sT "_law_near" 742]
def Aow:O:=cF "_law_root" "_law_root" 738 214 1 434 743
def AnY:O:=fO "_law_root" "_law_root" (tp 56) "law_formcycle_k51_heads" 708 439
def AoS:O:=tO #[sT "_law_form" 749,sT "_law_bar_here" 750,sT "_law_far" 751]
def Apb:O:=cF "_law_flat" "_law_flat" 746 219 1 441 752
def Ao7:O:=fO "_law_flat" "_law_flat" (tp 57) "law_formcycle_k51_heads" 708 446
def AoH:O:=tO #[sT "_law_form" 758,sT "_law_far" 759]
def Anb:O:=cF "_law_level" "_law_level" 755 223 2 448 760
def AnK:O:=fO "_law_level" "_law_level" (tp 58) "law_formcycle_k51_heads" 708 453
def Ane:O:=tO #[sT "_law_form" 766,sT "_law_top" 767,sT "_law_a" 768,sT "_law_b" 769,sT "_law_c" 770,sT "_law_d" 771]
def Ank:O:=cF "_law_behind" "_law_behind" 763 225 2 455 772
def AnX:O:=fO "_law_behind" "_law_behind" (tp 59) "law_formcycle_k51_heads" 708 460
def Ao4:O:=tO #[sT "_law_form" 778,sT "_law_a" 779,sT "_law_b" 780,sT "_law_c" 781,sT "_law_k" 782]
def An6:O:=cF "_law_bowl" "_law_bowl" 775 229 1 462 783
def Anp:O:=fO "_law_bowl" "_law_bowl" (tp 60) "law_formcycle_k51_heads" 708 467
def AnQ:O:=tO #[sT "_law_first" 799,sT "_law_cells" 800,sT "_law_p" 801,sT "_law_q" 802,sT "_law_r" 803,sT "_law_s" 804,sT "_law_cell_here" 805,sT "_law_k" 806]
def AnW:O:=cF "_law_turn" "_law_turn" 796 249 2 476 807
def Apc:O:=fO "_law_turn" "_law_turn" (tp 62) "law_formcycle_k51_heads" 708 481
def Apa:O:=tO #[sT "_law_form" 813,sT "_law_x" 814,sT "_law_y" 815]
def An9:O:=cF "_law_value" "_law_value" 810 255 3 483 816
def Anw:O:=fO "_law_value" "_law_value" (tp 63) "law_formcycle_k51_heads" 708 488
def AoX:O:=tO #[sT "_law_form" 822,sT "_law_turn_here" 823,sT "_law_p" 824,sT "_law_q" 825,sT "_law_r" 826,sT "_law_s" 827,sT "_law_middle" 828]
def AnT:O:=cF "_law_moved" "_law_moved" 819 257 2 490 829
def Aob:O:=fO "_law_moved" "_law_moved" (tp 64) "law_formcycle_k51_heads" 708 495
def Ani:O:=tO #[sT "_law_script" 835,sT "_law_most" 836,sT "_law_cell_here" 837,sT "_law_often" 838,sT "_law_m" 839,sT "_law_b" 840,sT "_law_size" 841,sT "_law_rest" 842,sT "_law_bar_here" 843,sT "_law_sign" 844]
def Aoh:O:=cF "_law_taken" "_law_taken" 832 261 2 497 845
def Ao3:O:=fO "_law_taken" "_law_taken" (tp 65) "law_formcycle_k51_heads" 708 502
def Ape:O:=tO #[sT "_law_one" 851,sT "_law_other" 852,sT "_law_first" 853,sT "_law_second" 854,sT "_law_k" 855,sT "_law_third" 856]
def Aor:O:=cF "_law_shares" "_law_shares" 848 273 2 504 857
def An1:O:=fO "_law_shares" "_law_shares" (tp 66) "law_formcycle_k51_heads" 708 509
def Ans:O:=tO #[sT "_law_form" 863,sT "_law_point" 864,sT "_law_often" 865,sT "_law_u" 866,sT "_law_v" 867,sT "_law_turn_here" 868,sT "_law_found" 869]
def AnL:O:=cF "_law_pair" "_law_pair" 860 283 2 511 870
def AnJ:O:=fO "_law_pair" "_law_pair" (tp 67) "law_formcycle_k51_heads" 708 516
def Aok:O:=tO #[sT "_law_form" 876,sT "_law_far" 877,sT "_law_found" 878]
def Anj:O:=cF "_law_tops" "_law_tops" 873 288 1 518 879
def Ao6:O:=fO "_law_tops" "_law_tops" (tp 68) "law_formcycle_k51_heads" 708 523
def Anz:O:=tO #[sT "_law_form" 885,sT "_law_tops_here" 886,sT "_law_bar_here" 887,sT "_law_far" 888]
def AnN:O:=cF "_law_in" "_law_in" 882 299 2 525 889
def Ao0:O:=fO "_law_in" "_law_in" (tp 69) "law_formcycle_k51_heads" 708 530
def AoU:O:=tO #[sT "_law_form" 895,sT "_law_number" 896,sT "_law_bar_here" 897,sT "_law_tops_here" 898,sT "_law_due_here" 899,sT "_law_often" 900,sT "_law_n" 901,sT "_law_b" 902,sT "_law_c" 903,sT "_law_rest" 904]
def Aox:O:=cF "_law_due" "_law_due" 892 307 2 532 905
def Ao1:O:=fO "_law_due" "_law_due" (tp 70) "law_formcycle_k51_heads" 708 537
def AnS:O:=tO #[sT "_law_script" 911,sT "_law_often" 912,sT "_law_near" 913,sT "_law_number" 914,sT "_law_many" 915]
def Ang:O:=cF "_law_asked" "_law_asked" 908 319 1 539 916
def Aot:O:=fO "_law_asked" "_law_asked" (tp 71) "law_formcycle_k51_heads" 708 544
def AnZ:O:=cO #[sT "law" 919,sT "law" 920,sF 921,iZ 330,iZ 1,iZ 0,iZ 0,iZ 3,.ref 546,.bool true,iZ 181,.ref 547,.none,.none,.none,.ref 548,iZ 922,iZ 330,sF 923]
def An5:O:=fO "law" "law" (tp 72) "law_formcycle_k51_heads" 708 549
def KK:Params→Frag :=
fun P=>(nat_lit 2,o2)::(nat_lit 3,o3 P)::(nat_lit 15,tE)::(nat_lit 17,o17)::(nat_lit 18,tE)::(nat_lit 20,o20)::(nat_lit 21,o21)::(nat_lit 22,o22)::(nat_lit 29,tE)::(nat_lit 30,o30 P)::(nat_lit 31,o31)::(nat_lit 32,o32)::(nat_lit 35,o35)::(nat_lit 42,tE)::(nat_lit 44,o44)::(nat_lit 45,tE)::(nat_lit 47,o47)::(nat_lit 48,o48)::(nat_lit 49,o49)::(nat_lit 50,o50 P)::(nat_lit 51,o51)::(nat_lit 54,o54)::(nat_lit 61,tE)::(nat_lit 63,o63)::(nat_lit 64,tE)::(nat_lit 66,o66)::(nat_lit 67,o67)::(nat_lit 68,o68)::(nat_lit 69,o69 P)::(nat_lit 70,o70)::(nat_lit 73,o73)::(nat_lit 80,tE)::(nat_lit 82,o82)::(nat_lit 83,tE)::(nat_lit 85,o85)::(nat_lit 86,o86)::(nat_lit 87,o87)::(nat_lit 88,o88 P)::(nat_lit 89,o89)::(nat_lit 92,o92)::(nat_lit 99,tE)::(nat_lit 101,Ajc)::(nat_lit 102,tE)::(nat_lit 104,AiL)::(nat_lit 105,Aik)::(nat_lit 106,Ai5)::(nat_lit 107,AjK P)::(nat_lit 108,Ah7)::(nat_lit 111,o111)::(nat_lit 118,tE)::(nat_lit 119,Ai2 P)::(nat_lit 120,Aia)::(nat_lit 123,tE)::(nat_lit 125,AjG)::(nat_lit 126,tE)::(nat_lit 128,Ai8)::(nat_lit 129,Ajy)::(nat_lit 130,tE)::(nat_lit 132,Ajg)::(nat_lit 133,tE)::(nat_lit 135,Aim)::(nat_lit 136,Ajr)::(nat_lit 137,tE)::(nat_lit 139,Ai1)::(nat_lit 140,tE)::(nat_lit 142,Ajx)::(nat_lit 143,AiV)::(nat_lit 144,tE)::(nat_lit 146,AmS)::(nat_lit 147,tE)::(nat_lit 149,Amy)::(nat_lit 150,Alu)::(nat_lit 151,AkG)::(nat_lit 152,tE)::(nat_lit 154,Aj2)::(nat_lit 155,tE)::(nat_lit 157,AlM)::(nat_lit 158,Am1)::(nat_lit 159,tE)::(nat_lit 161,Am9)::(nat_lit 162,tE)::(nat_lit 164,AkR)::(nat_lit 165,Ali)::(nat_lit 166,tE)::(nat_lit 168,Aly)::(nat_lit 169,tE)::(nat_lit 171,Akv)::(nat_lit 172,AmA)::(nat_lit 173,tE)::(nat_lit 175,Alw)::(nat_lit 176,tE)::(nat_lit 178,AlT)::(nat_lit 179,Amo)::(nat_lit 180,tE)::(nat_lit 182,AlQ)::(nat_lit 183,tE)::(nat_lit 185,Akp)::(nat_lit 186,Ak2)::(nat_lit 187,tE)::(nat_lit 189,AlK)::(nat_lit 190,tE)::(nat_lit 192,Ak0)::(nat_lit 193,Ak7)::(nat_lit 194,tE)::(nat_lit 196,Alo)::(nat_lit 197,tE)::(nat_lit 199,Amu)::(nat_lit 200,o200)::(nat_lit 201,tE)::(nat_lit 203,Amm)::(nat_lit 204,tE)::(nat_lit 206,Am6)::(nat_lit 207,AlN)::(nat_lit 208,tE)::(nat_lit 210,Akb)::(nat_lit 211,tE)::(nat_lit 213,Akz)::(nat_lit 214,AkD)::(nat_lit 215,tE)::(nat_lit 217,Ala)::(nat_lit 218,tE)::(nat_lit 220,AjW)::(nat_lit 221,Amf)::(nat_lit 222,tE)::(nat_lit 224,AkM)::(nat_lit 225,tE)::(nat_lit 227,Am2)::(nat_lit 228,Als)::(nat_lit 229,tE)::(nat_lit 231,Amz)::(nat_lit 232,tE)::(nat_lit 234,Amd)::(nat_lit 235,AkL)::(nat_lit 236,tE)::(nat_lit 238,AjN)::(nat_lit 239,tE)::(nat_lit 241,Amx)::(nat_lit 242,AmH)::(nat_lit 243,tE)::(nat_lit 245,AjS)::(nat_lit 246,tE)::(nat_lit 248,AkK)::(nat_lit 249,Alr)::(nat_lit 250,tE)::(nat_lit 252,AmP)::(nat_lit 253,tE)::(nat_lit 255,Akh)::(nat_lit 256,Aj5)::(nat_lit 257,tE)::(nat_lit 259,AmZ)::(nat_lit 260,tE)::(nat_lit 262,AkB)::(nat_lit 263,AmY)::(nat_lit 264,tE)::(nat_lit 266,Aj4)::(nat_lit 267,tE)::(nat_lit 269,Al7)::(nat_lit 270,AkY)::(nat_lit 271,tE)::(nat_lit 273,AmD)::(nat_lit 274,tE)::(nat_lit 276,AjP)::(nat_lit 277,AkI)::(nat_lit 278,tE)::(nat_lit 280,Am7)::(nat_lit 281,tE)::(nat_lit 283,Alf)::(nat_lit 284,AjX)::(nat_lit 285,tE)::(nat_lit 287,AmI)::(nat_lit 288,tE)::(nat_lit 290,Am3)::(nat_lit 291,Al6)::(nat_lit 299,tE)::(nat_lit 301,Aj0)::(nat_lit 302,tE)::(nat_lit 304,Am8)::(nat_lit 305,AlH)::(nat_lit 306,tE)::(nat_lit 308,Alq)::(nat_lit 309,tE)::(nat_lit 311,AlS)::(nat_lit 312,Aj9)::(nat_lit 313,tE)::(nat_lit 315,Alh)::(nat_lit 316,tE)::(nat_lit 318,Al8)::(nat_lit 319,AlP)::(nat_lit 320,tE)::(nat_lit 322,AlB)::(nat_lit 323,tE)::(nat_lit 325,AkH)::(nat_lit 326,Aj8)::(nat_lit 327,AkE)::(nat_lit 328,AjO P)::(nat_lit 329,Aml)::(nat_lit 330,Ak3)::(nat_lit 331,AlY)::(nat_lit 334,Amv)::(nat_lit 341,tE)::(nat_lit 343,AlW)::(nat_lit 344,tE)::(nat_lit 346,AmL)::(nat_lit 347,Ak4)::(nat_lit 348,tE)::(nat_lit 349,Akk P)::(nat_lit 350,Akd)::(nat_lit 353,AkW)::(nat_lit 360,tE)::(nat_lit 362,Aks)::(nat_lit 363,tE)::(nat_lit 365,Al5)::(nat_lit 366,Al9)::(nat_lit 367,tE)::(nat_lit 368,Aln P)::(nat_lit 369,AjQ)::(nat_lit 372,tE)::(nat_lit 374,Aoj)::(nat_lit 375,tE)::(nat_lit 377,o377)::(nat_lit 378,Aoz)::(nat_lit 379,tE)::(nat_lit 381,An7)::(nat_lit 382,tE)::(nat_lit 384,AoD)::(nat_lit 385,AoN)::(nat_lit 386,tE)::(nat_lit 389,AoF)::(nat_lit 390,Aoe)::(nat_lit 391,tE)::(nat_lit 393,Anm)::(nat_lit 394,tE)::(nat_lit 396,Aog)::(nat_lit 397,AnV)::(nat_lit 398,tE)::(nat_lit 401,Ao8)::(nat_lit 402,Anr)::(nat_lit 403,tE)::(nat_lit 406,An4)::(nat_lit 407,AnF)::(nat_lit 408,tE)::(nat_lit 410,AoV)::(nat_lit 411,tE)::(nat_lit 413,AoM)::(nat_lit 414,AoL)::(nat_lit 415,tE)::(nat_lit 417,Ao2)::(nat_lit 418,tE)::(nat_lit 420,An2)::(nat_lit 421,AnD)::(nat_lit 422,tE)::(nat_lit 425,AoK)::(nat_lit 426,AoR)::(nat_lit 427,tE)::(nat_lit 429,AoB)::(nat_lit 430,tE)::(nat_lit 432,Aon)::(nat_lit 433,An0)::(nat_lit 434,tE)::(nat_lit 436,AoC)::(nat_lit 437,tE)::(nat_lit 439,Aow)::(nat_lit 440,AnY)::(nat_lit 441,tE)::(nat_lit 443,AoS)::(nat_lit 444,tE)::(nat_lit 446,Apb)::(nat_lit 447,Ao7)::(nat_lit 448,tE)::(nat_lit 450,AoH)::(nat_lit 451,tE)::(nat_lit 453,Anb)::(nat_lit 454,AnK)::(nat_lit 455,tE)::(nat_lit 457,Ane)::(nat_lit 458,tE)::(nat_lit 460,Ank)::(nat_lit 461,AnX)::(nat_lit 462,tE)::(nat_lit 464,Ao4)::(nat_lit 465,tE)::(nat_lit 467,An6)::(nat_lit 468,Anp)::(nat_lit 476,tE)::(nat_lit 478,AnQ)::(nat_lit 479,tE)::(nat_lit 481,AnW)::(nat_lit 482,Apc)::(nat_lit 483,tE)::(nat_lit 485,Apa)::(nat_lit 486,tE)::(nat_lit 488,An9)::(nat_lit 489,Anw)::(nat_lit 490,tE)::(nat_lit 492,AoX)::(nat_lit 493,tE)::(nat_lit 495,AnT)::(nat_lit 496,Aob)::(nat_lit 497,tE)::(nat_lit 499,Ani)::(nat_lit 500,tE)::(nat_lit 502,Aoh)::(nat_lit 503,Ao3)::(nat_lit 504,tE)::(nat_lit 506,Ape)::(nat_lit 507,tE)::(nat_lit 509,Aor)::(nat_lit 510,An1)::(nat_lit 511,tE)::(nat_lit 513,Ans)::(nat_lit 514,tE)::(nat_lit 516,AnL)::(nat_lit 517,AnJ)::(nat_lit 518,tE)::(nat_lit 520,Aok)::(nat_lit 521,tE)::(nat_lit 523,Anj)::(nat_lit 524,Ao6)::(nat_lit 525,tE)::(nat_lit 527,Anz)::(nat_lit 528,tE)::(nat_lit 530,AnN)::(nat_lit 531,Ao0)::(nat_lit 532,tE)::(nat_lit 534,AoU)::(nat_lit 535,tE)::(nat_lit 537,Aox)::(nat_lit 538,Ao1)::(nat_lit 539,tE)::(nat_lit 541,AnS)::(nat_lit 542,tE)::(nat_lit 544,Ang)::(nat_lit 545,Aot)::(nat_lit 546,tE)::(nat_lit 549,AnZ)::(nat_lit 550,An5)::[]
def Br:O:=nO #[]
def Ac8:O:=cO #[sT "<module>" 182,sT "<module>" 183,sF 184,iZ 1,iZ 0,iZ 0,iZ 0,iZ 0,.ref 11,.bool false,iZ 181,.ref 12,.none,.none,.none,.none,iZ 185,iZ 1,sF 186]
def Adh:O:=rO 13 3 "__main__" 164
def AkJ(P:Params):O:=dO #[dE P "__name__" 165 (sT "formcycle.wholes" 332),dE P "__doc__" 166 .none,dE P "__package__" 167 .none,dE P "__loader__" 168 (.builtin "__main__.__loader__#opaque"),dE P "__spec__" 169 .none,dE P "__annotations__" 170 (.ref 6),dE P "__builtins__" 171 (.ref 4),dE P "__file__" 173 (sF 172),dE P "__cached__" 174 .none,dE P "_wall" 193 (.ref 21),dE P "FormError" 213 (.ref 31),dE P "NoTurn" 238 (.ref 51),dE P "NoShape" 263 (.ref 70),dE P "TooGreat" 290 (.ref 89),dE P "NoRoot" 315 (.ref 108),dE P "Nought" 331 (.ref 120),dE P "root" 342 (.ref 129),dE P "is_square" 350 (.ref 136),dE P "check_at_most" 358 (.ref 143)] 19
def AiG:O:=nO #[iZ 1,iZ 0,.ref 20,iZ 5,iZ 0,.ref 27,iZ 7,iZ 0,.ref 40,iZ 11,iZ 0,.ref 59,iZ 15,iZ 0,.ref 78,iZ 20,iZ 0,.ref 97,iZ 24,iZ 0,.ref 116,iZ 27,iZ 0,.ref 128,iZ 38,iZ 0,.ref 135,iZ 43,iZ 0,.ref 142]
abbrev fNq(n q:String)(w:Stmt):O:=.mk .none none (Data.func (FuncData.mk (.ofString n) (.ofString q) (fA w) (.stmts (fB w)) (fS w) 0 [] .none .none .none .none none .none .none 0)) #[]
def AeD:O:=fNq "_wall" "_wall" (tp 0)
def Fv:O:=bO #[.builtin "type.__prepare__",.type "type"]
def Aci(P:Params):O:=dO #[dE P "__module__" 203 (sT "formcycle.errors" 194),dE P "__qualname__" 205 (sT "FormError" 204),dE P "__firstlineno__" 207 (.int 5 206),dE P "__static_attributes__" 208 (.ref 29)] 4
def AdB:O:=cO #[sT "FormError" 198,sT "FormError" 199,sF 200,iZ 5,iZ 0,iZ 0,iZ 0,iZ 0,.ref 25,.bool false,iZ 181,.ref 26,.none,.none,.none,.none,iZ 201,iZ 5,sF 202]
def AeU:O:=rO 27 24 "formcycle.errors" 194
def AbQ:O:=sO 31
def Acf:O:=bO #[.builtin "object.__init_subclass__",.ref 31]
def AbT(P:Params):O:=dO #[dE P "__module__" 221 (sT "formcycle.errors" 194),dE P "__qualname__" 223 (sT "NoTurn" 222),dE P "__firstlineno__" 225 (.int 7 224),dE P "__init__" 233 (.ref 48),dE P "__static_attributes__" 235 (.ref 49)] 5
def AcA:O:=nO #[iZ 9,iZ 4,.ref 47]
def AeM:O:=cO #[sT "NoTurn" 216,sT "NoTurn" 217,sF 218,iZ 7,iZ 0,iZ 0,iZ 0,iZ 0,.ref 38,.bool false,iZ 181,.ref 39,.none,.none,.none,.none,iZ 219,iZ 7,sF 220]
def Adr:O:=rO 40 37 "formcycle.errors" 194
def AeN:O:=fNq "__init__" "NoTurn.__init__" (inC (tp 3) 0)
def Adu:O:=sO 51
def AeH:O:=bO #[.builtin "object.__init_subclass__",.ref 51]
def AeE(P:Params):O:=dO #[dE P "__module__" 246 (sT "formcycle.errors" 194),dE P "__qualname__" 248 (sT "NoShape" 247),dE P "__firstlineno__" 250 (.int 11 249),dE P "__init__" 258 (.ref 67),dE P "__static_attributes__" 260 (.ref 68)] 5
def Aer:O:=nO #[iZ 13,iZ 4,.ref 66]
def AdN:O:=cO #[sT "NoShape" 241,sT "NoShape" 242,sF 243,iZ 11,iZ 0,iZ 0,iZ 0,iZ 0,.ref 57,.bool false,iZ 181,.ref 58,.none,.none,.none,.none,iZ 244,iZ 11,sF 245]
def Ac2:O:=rO 59 56 "formcycle.errors" 194
def AeJ:O:=fNq "__init__" "NoShape.__init__" (inC (tp 4) 0)
def AdW:O:=sO 70
def Adf:O:=bO #[.builtin "object.__init_subclass__",.ref 70]
def Acz(P:Params):O:=dO #[dE P "__module__" 271 (sT "formcycle.errors" 194),dE P "__qualname__" 273 (sT "TooGreat" 272),dE P "__firstlineno__" 275 (.int 15 274),dE P "__init__" 284 (.ref 86),dE P "__static_attributes__" 287 (.ref 87)] 5
def Ad6:O:=nO #[iZ 17,iZ 4,.ref 85]
def AeG:O:=cO #[sT "TooGreat" 266,sT "TooGreat" 267,sF 268,iZ 15,iZ 0,iZ 0,iZ 0,iZ 0,.ref 76,.bool false,iZ 181,.ref 77,.none,.none,.none,.none,iZ 269,iZ 15,sF 270]
def AbS:O:=rO 78 75 "formcycle.errors" 194
def Ac5:O:=fNq "__init__" "TooGreat.__init__" (inC (tp 5) 0)
def AcV:O:=sO 89
def AbZ:O:=bO #[.builtin "object.__init_subclass__",.ref 89]
def Adw(P:Params):O:=dO #[dE P "__module__" 298 (sT "formcycle.errors" 194),dE P "__qualname__" 300 (sT "NoRoot" 299),dE P "__firstlineno__" 302 (.int 20 301),dE P "__init__" 310 (.ref 105),dE P "__static_attributes__" 312 (.ref 106)] 5
def Ab0:O:=nO #[iZ 22,iZ 4,.ref 104]
def Aet:O:=cO #[sT "NoRoot" 293,sT "NoRoot" 294,sF 295,iZ 20,iZ 0,iZ 0,iZ 0,iZ 0,.ref 95,.bool false,iZ 181,.ref 96,.none,.none,.none,.none,iZ 296,iZ 20,sF 297]
def Ab5:O:=rO 97 94 "formcycle.errors" 194
def Aai:O:=fNq "__init__" "NoRoot.__init__" (inC (tp 6) 0)
def Aak:O:=sO 108
def Zt:O:=bO #[.builtin "object.__init_subclass__",.ref 108]
def Aaa(P:Params):O:=dO #[dE P "__module__" 323 (sT "formcycle.errors" 194),dE P "__qualname__" 325 (sT "Nought" 324),dE P "__firstlineno__" 327 (.int 24 326),dE P "__static_attributes__" 328 (.ref 118)] 4
def Aad:O:=cO #[sT "Nought" 318,sT "Nought" 319,sF 320,iZ 24,iZ 0,iZ 0,iZ 0,iZ 0,.ref 114,.bool false,iZ 181,.ref 115,.none,.none,.none,.none,iZ 321,iZ 24,sF 322]
def Zn:O:=rO 116 113 "formcycle.errors" 194
def AaJ:O:=sO 120
def AaC:O:=bO #[.builtin "object.__init_subclass__",.ref 120]
def Aat:O:=fNq "root" "root" (tp 9)
def ZV:O:=fNq "is_square" "is_square" (tp 10)
def Aay:O:=fNq "check_at_most" "check_at_most" (tp 11)
def Akt(P:Params):O:=dO #[dE P "__name__" 165 (sT "formcycle.shapes" 553),dE P "__doc__" 166 .none,dE P "__package__" 167 .none,dE P "__loader__" 168 (.builtin "__main__.__loader__#opaque"),dE P "__spec__" 169 .none,dE P "__annotations__" 170 (.ref 6),dE P "__builtins__" 171 (.ref 4),dE P "__file__" 173 (sF 172),dE P "__cached__" 174 .none,dE P "_wall" 193 (.ref 21),dE P "FormError" 213 (.ref 31),dE P "NoTurn" 238 (.ref 51),dE P "NoShape" 263 (.ref 70),dE P "TooGreat" 290 (.ref 89),dE P "NoRoot" 315 (.ref 108),dE P "Nought" 331 (.ref 120),dE P "root" 342 (.ref 129),dE P "is_square" 350 (.ref 136),dE P "check_at_most" 358 (.ref 143),dE P "check_within" 366 (.ref 150),dE P "SAME" 373 (.ref 151),dE P "is_turn" 380 (.ref 158),dE P "check_turn" 387 (.ref 165),dE P "put_behind" 395 (.ref 172),dE P "back" 402 (.ref 179),dE P "measure" 411 (.ref 186),dE P "value" 421 (.ref 193),dE P "moved" 431 (.ref 200),dE P "middle" 441 (.ref 207),dE P "shape" 449 (.ref 214),dE P "check_bowl" 458 (.ref 221),dE P "stands_least" 468 (.ref 228),dE P "settled" 477 (.ref 235),dE P "turn_lower" 485 (.ref 242),dE P "MOST_MEASURE" 489 (.int 4000 488),dE P "check_saddle" 496 (.ref 249),dE P "stands_level" 505 (.ref 256),dE P "turn_behind" 516 (.ref 263),dE P "stop_behind" 525 (.ref 270),dE P "eased" 534 (.ref 277),dE P "stops_round" 545 (.ref 284),dE P "lowered" 552 (.ref 291),dE P "Shape" 609 (.ref 329),dE P "Bowl" 633 (.ref 350),dE P "Saddle" 657 (.ref 369)] 45
def AiQ:O:=nO #[iZ 1,iZ 0,.ref 20,iZ 5,iZ 0,.ref 27,iZ 7,iZ 0,.ref 40,iZ 11,iZ 0,.ref 59,iZ 15,iZ 0,.ref 78,iZ 20,iZ 0,.ref 97,iZ 24,iZ 0,.ref 116,iZ 27,iZ 0,.ref 128,iZ 38,iZ 0,.ref 135,iZ 43,iZ 0,.ref 142,iZ 46,iZ 0,.ref 149,iZ 51,iZ 0,.ref 157,iZ 53,iZ 0,.ref 164,iZ 56,iZ 0,.ref 171,iZ 58,iZ 0,.ref 178,iZ 62,iZ 0,.ref 185,iZ 64,iZ 0,.ref 192,iZ 68,iZ 0,.ref 199,iZ 73,iZ 0,.ref 206,iZ 76,iZ 0,.ref 213,iZ 86,iZ 0,.ref 220,iZ 89,iZ 0,.ref 227,iZ 96,iZ 0,.ref 234,iZ 104,iZ 0,.ref 241,iZ 111,iZ 0,.ref 248,iZ 115,iZ 0,.ref 255,iZ 118,iZ 0,.ref 262,iZ 123,iZ 0,.ref 269,iZ 126,iZ 0,.ref 276,iZ 133,iZ 0,.ref 283,iZ 143,iZ 0,.ref 290,iZ 147,iZ 0,.ref 297,iZ 164,iZ 0,.ref 339,iZ 168,iZ 0,.ref 358]
def AgS:O:=fNq "check_within" "check_within" (tp 12)
def Afn:O:=fNq "is_turn" "is_turn" (tp 15)
def AfX:O:=fNq "check_turn" "check_turn" (tp 16)
def AeZ:O:=fNq "put_behind" "put_behind" (tp 17)
def AgX:O:=fNq "back" "back" (tp 18)
def Af3:O:=fNq "measure" "measure" (tp 20)
def Afu:O:=fNq "value" "value" (tp 21)
def AfK:O:=fNq "moved" "moved" (tp 22)
def Ag8:O:=fNq "middle" "middle" (tp 23)
def Afb:O:=fNq "shape" "shape" (tp 24)
def AgJ:O:=fNq "check_bowl" "check_bowl" (tp 26)
def AgM:O:=fNq "stands_least" "stands_least" (tp 27)
def Ahh:O:=fNq "settled" "settled" (tp 28)
def Ahb:O:=fNq "turn_lower" "turn_lower" (tp 29)
def Aha:O:=fNq "check_saddle" "check_saddle" (tp 32)
def Aga:O:=fNq "stands_level" "stands_level" (tp 33)
def Afs:O:=fNq "turn_behind" "turn_behind" (tp 34)
def AgZ:O:=fNq "stop_behind" "stop_behind" (tp 35)
def AgH:O:=fNq "eased" "eased" (tp 36)
def Afm:O:=fNq "stops_round" "stops_round" (tp 37)
def AgF:O:=fNq "lowered" "lowered" (tp 38)
def Agz(P:Params):O:=dO #[dE P "__module__" 562 (sT "formcycle.shapes" 553),dE P "__qualname__" 564 (sT "Shape" 563),dE P "__firstlineno__" 566 (.int 147 565),dE P "__init__" 575 (.ref 305),dE P "least" 582 (.ref 312),dE P "leaves" 590 (.ref 319),dE P "way_to" 598 (.ref 326),dE P "__static_attributes__" 602 (.ref 327)] 8
def Ae8:O:=nO #[iZ 149,iZ 4,.ref 304,iZ 154,iZ 4,.ref 311,iZ 157,iZ 4,.ref 318,iZ 160,iZ 4,.ref 325]
def Afv:O:=cO #[sT "Shape" 557,sT "Shape" 558,sF 559,iZ 147,iZ 0,iZ 0,iZ 0,iZ 0,.ref 295,.bool false,iZ 181,.ref 296,.none,.none,.none,.none,iZ 560,iZ 147,sF 561]
def AgQ:O:=rO 297 294 "formcycle.shapes" 553
def AgE:O:=fNq "__init__" "Shape.__init__" (inC (tp 40) 0)
def AgI:O:=fNq "least" "Shape.least" (inC (tp 40) 1)
def Ahi:O:=fNq "leaves" "Shape.leaves" (inC (tp 40) 2)
def Agv:O:=fNq "way_to" "Shape.way_to" (inC (tp 40) 3)
def AgG:O:=sO 329
def AgO:O:=bO #[.builtin "object.__init_subclass__",.ref 329]
def Afw(P:Params):O:=dO #[dE P "__module__" 617 (sT "formcycle.shapes" 553),dE P "__qualname__" 619 (sT "Bowl" 618),dE P "__firstlineno__" 621 (.int 164 620),dE P "__init__" 629 (.ref 347),dE P "__static_attributes__" 630 (.ref 348)] 5
def Ag9:O:=nO #[iZ 166,iZ 4,.ref 346]
def Afh:O:=cO #[sT "Bowl" 612,sT "Bowl" 613,sF 614,iZ 164,iZ 0,iZ 0,iZ 0,iZ 0,.ref 337,.bool false,iZ 181,.ref 338,.none,.none,.none,.none,iZ 615,iZ 164,sF 616]
def Ahg:O:=rO 339 336 "formcycle.shapes" 553
def Af2:O:=fNq "__init__" "Bowl.__init__" (inC (tp 41) 0)
def Ago:O:=sO 350
def Ae4:O:=bO #[.builtin "object.__init_subclass__",.ref 350]
def Agm(P:Params):O:=dO #[dE P "__module__" 641 (sT "formcycle.shapes" 553),dE P "__qualname__" 643 (sT "Saddle" 642),dE P "__firstlineno__" 645 (.int 168 644),dE P "__init__" 653 (.ref 366),dE P "__static_attributes__" 654 (.ref 367)] 5
def AfB:O:=nO #[iZ 170,iZ 4,.ref 365]
def Ag4:O:=cO #[sT "Saddle" 636,sT "Saddle" 637,sF 638,iZ 168,iZ 0,iZ 0,iZ 0,iZ 0,.ref 356,.bool false,iZ 181,.ref 357,.none,.none,.none,.none,iZ 639,iZ 168,sF 640]
def Ag6:O:=rO 358 355 "formcycle.shapes" 553
def AfF:O:=fNq "__init__" "Saddle.__init__" (inC (tp 42) 0)
def AfV:O:=sO 369
def Agn:O:=bO #[.builtin "object.__init_subclass__",.ref 369]
def tr0(P:Params):BT:=Nd (boot_o_0 P) (Nd (boot_o_1 P) (Nd (boot_o_3 P) (Lf (boot_o_7 P)) (Lf tE)) (Nd (boot_o_5 P) (Lf (boot_o_9 P)) (Lf Ac8))) (Nd (boot_o_2 P) (Nd (boot_o_4 P) (Lf (boot_o_8 P)) (Lf Br)) (Nd (boot_o_6 P) (Lf (boot_o_10 P)) (Lf Adh)))
def St0(w:World)(os:OsState):SharedT:=⟨tr0 w.params,15,Life.mk [] [] [] 0 [] [] Bool.false #[] [] 0 Bool.false Bool.false Bool.false 0 [2000,10,10] Bool.false 0 Bool.true [] [] 0 Bool.false,Array.mk [],Drawn.mk 0 0 0 0,187,os⟩
def ps0:Pos:=⟨0,0,0,0⟩
def Aom(P:Params):BT:=Nd (boot_o_0 P) (Nd (boot_o_1 P) (Nd (AkJ P) (Nd (boot_o_7 P) (Nd tE (Nd o31 (Nd o63 (Lf Aat) .nil) (Lf tE)) (Nd o47 (Nd AbS (Lf AiV) .nil) (Lf o111))) (Nd Fv (Nd AcA (Nd AdW (Lf Aim) .nil) (Lf Aai)) (Nd Fv (Lf o87) (Lf (Ai2 P))))) (Nd tE (Nd AeD (Nd o35 (Nd o67 (Lf Br) .nil) (Lf tE)) (Nd o51 (Lf tE) (Lf Br))) (Nd AdB (Nd Br (Nd (Acz P) (Lf Ai1) .nil) (Lf (AjK P))) (Nd AdN (Lf AbZ) (Lf tE))))) (Nd (boot_o_5 P) (Nd (boot_o_9 P) (Nd o17 (Nd AbQ (Nd AeJ (Lf Ajy) .nil) (Lf Aet)) (Nd o49 (Lf Br) (Lf (Aaa P)))) (Nd tE (Nd Adr (Nd o73 (Lf tE) .nil) (Lf Aik)) (Nd tE (Lf o89) (Lf AaJ)))) (Nd Ac8 (Nd o21 (Nd (AbT P) (Nd (o69 P) (Lf tE) .nil) (Lf Ajc)) (Nd AeH (Lf o85) (Lf Zn))) (Nd tE (Nd tE (Nd Ad6 (Lf Aay) .nil) (Lf Aak)) (Nd tE (Lf Fv) (Lf AjG)))))) (Nd (boot_o_2 P) (Nd (boot_o_4 P) (Nd (boot_o_8 P) (Nd Br (Nd o32 (Nd tE (Lf Ai8) .nil) (Lf Ab0)) (Nd o48 (Lf tE) (Lf Fv))) (Nd (Aci P) (Nd AeM (Nd Adf (Lf Ajr) .nil) (Lf AiL)) (Nd (AeE P) (Lf (o88 P)) (Lf Aia)))) (Nd AiG (Nd o20 (Nd Fv (Nd o68 (Lf Ajg) .nil) (Lf Br)) (Nd Adu (Lf Ac5) (Lf Aad))) (Nd AeU (Nd o44 (Nd tE (Lf tE) .nil) (Lf Ah7)) (Nd Ac2 (Lf o92) (Lf Br))))) (Nd (boot_o_6 P) (Nd (boot_o_10 P) (Nd tE (Nd Acf (Nd o66 (Lf tE) .nil) (Lf Ab5)) (Nd (o50 P) (Lf o82) (Lf tE))) (Nd Br (Nd tE (Nd Fv (Lf Br) .nil) (Lf Ai5)) (Nd Aer (Lf AcV) (Lf AaC)))) (Nd Adh (Nd o22 (Nd tE (Nd o70 (Lf ZV) .nil) (Lf tE)) (Nd o54 (Lf o86) (Lf tE))) (Nd (o30 P) (Nd AeN (Nd AeG (Lf Ajx) .nil) (Lf Zt)) (Nd Br (Lf (Adw P)) (Lf tE))))))
def AjU(w:World)(os:OsState):SharedT:=⟨Aom w.params,144,Life.mk [] [] [] 0 [] [] Bool.false #[] [] 0 Bool.false Bool.false Bool.false 0 [2000,10,10] Bool.false 0 Bool.true [] [] 0 Bool.false,Array.mk [],Drawn.mk 0 0 0 0,359,os⟩
def AmQ:Pos:=⟨43,0,45,36⟩
def AoT(P:Params):BT:=Nd (boot_o_0 P) (Nd (boot_o_1 P) (Nd (Akt P) (Nd (boot_o_7 P) (Nd tE (Nd o31 (Nd o63 (Nd Aat (Lf Akh) .nil) (Nd Afu (Lf AlP) .nil)) (Nd tE (Nd tE (Lf AmI) .nil) (Nd Br (Lf Ago) .nil))) (Nd o47 (Nd AbS (Nd AiV (Lf tE) .nil) (Nd AlN (Lf Fv) .nil)) (Nd o111 (Nd Alw (Lf AgE) .nil) (Nd tE (Lf tE) .nil)))) (Nd Fv (Nd AcA (Nd AdW (Nd Aim (Lf AmY) .nil) (Nd Amu (Lf AkE) .nil)) (Nd Aai (Nd Br (Lf tE) .nil) (Nd Amz (Lf Ag6) .nil))) (Nd Fv (Nd o87 (Nd AkG (Lf Br) .nil) (Nd tE (Lf AlW) .nil)) (Nd (Ai2 P) (Nd tE (Lf AlS) .nil) (Lf Aha))))) (Nd tE (Nd AeD (Nd o35 (Nd o67 (Nd Br (Lf AmZ) .nil) (Nd Br (Lf tE) .nil)) (Nd tE (Nd AfX (Lf Al6) .nil) (Nd Am2 (Lf (Agm P)) .nil))) (Nd o51 (Nd tE (Nd tE (Lf AgH) .nil) (Nd tE (Lf Afh) .nil)) (Nd Br (Nd Amo (Lf Br) .nil) (Nd tE (Lf Agn) .nil)))) (Nd AdB (Nd Br (Nd (Acz P) (Nd Ai1 (Lf tE) .nil) (Nd Amm (Lf AlY) .nil)) (Nd (AjK P) (Nd Akv (Lf tE) .nil) (Nd AkL (Lf tE) .nil))) (Nd AdN (Nd AbZ (Nd tE (Lf Alf) .nil) (Nd AgJ (Lf Ak4) .nil)) (Nd tE (Nd tE (Lf Alh) .nil) (Lf Br)))))) (Nd (boot_o_5 P) (Nd (boot_o_9 P) (Nd o17 (Nd AbQ (Nd AeJ (Nd Ajy (Lf tE) .nil) (Nd Ak7 (Lf Br) .nil)) (Nd Aet (Nd Am9 (Lf AgF) .nil) (Nd tE (Lf AkW) .nil))) (Nd o49 (Nd Br (Nd Br (Lf AmD) .nil) (Nd Br (Lf tE) .nil)) (Nd (Aaa P) (Nd AgX (Lf AlH) .nil) (Nd Amx (Lf AjQ) .nil)))) (Nd tE (Nd Adr (Nd o73 (Nd tE (Lf Br) .nil) (Nd tE (Lf Aml) .nil)) (Nd Aik (Nd tE (Lf Afv) .nil) (Nd Ahh (Lf Br) .nil))) (Nd tE (Nd o89 (Nd Br (Lf tE) .nil) (Nd Ala (Lf Af2) .nil)) (Nd AaJ (Nd Akp (Lf tE) .nil) (Lf Alr))))) (Nd Ac8 (Nd o21 (Nd (AbT P) (Nd (o69 P) (Nd tE (Lf Afs) .nil) (Nd tE (Lf AkH) .nil)) (Nd Ajc (Nd Ali (Lf Fv) .nil) (Nd tE (Lf AfB) .nil))) (Nd AeH (Nd o85 (Nd Amy (Lf AkI) .nil) (Nd Akz (Lf tE) .nil)) (Nd Zn (Nd Br (Lf tE) .nil) (Lf AjS)))) (Nd tE (Nd tE (Nd Ad6 (Nd Aay (Lf Al7) .nil) (Nd Ag8 (Lf AgO) .nil)) (Nd Aak (Nd tE (Lf Aj0) .nil) (Nd Br (Lf Al5) .nil))) (Nd tE (Nd Fv (Nd AlM (Lf tE) .nil) (Nd Amf (Lf (Akk P)) .nil)) (Nd AjG (Nd AlK (Lf Ahi) .nil) (Lf tE))))))) (Nd (boot_o_2 P) (Nd (boot_o_4 P) (Nd (boot_o_8 P) (Nd Br (Nd o32 (Nd tE (Nd Ai8 (Lf Aj5) .nil) (Nd Ak0 (Lf tE) .nil)) (Nd Ab0 (Nd Br (Lf tE) .nil) (Nd AkM (Lf Ae4) .nil))) (Nd o48 (Nd tE (Nd tE (Lf Br) .nil) (Nd tE (Lf (Afw P)) .nil)) (Nd Fv (Nd tE (Lf Am8) .nil) (Nd Ahb (Lf (Aln P)) .nil)))) (Nd (Aci P) (Nd AeM (Nd Adf (Nd Ajr (Lf tE) .nil) (Nd o200 (Lf (AjO P)) .nil)) (Nd AiL (Nd Aly (Lf Ae8) .nil) (Nd tE (Lf tE) .nil))) (Nd (AeE P) (Nd (o88 P) (Nd tE (Lf Am7) .nil) (Nd Br (Lf tE) .nil)) (Nd Aia (Nd Af3 (Lf Aj9) .nil) (Lf AkK))))) (Nd AiQ (Nd o20 (Nd Fv (Nd o68 (Nd Ajg (Lf tE) .nil) (Nd Alo (Lf Agv) .nil)) (Nd Br (Nd AkR (Lf tE) .nil) (Nd Als (Lf tE) .nil))) (Nd Adu (Nd Ac5 (Nd AgS (Lf AjP) .nil) (Nd Afb (Lf Ahg) .nil)) (Nd Aad (Nd tE (Lf Alq) .nil) (Lf Br)))) (Nd AeU (Nd o44 (Nd tE (Nd tE (Lf AgZ) .nil) (Nd tE (Lf AgG) .nil)) (Nd Ah7 (Nd AmA (Lf Br) .nil) (Nd tE (Lf AfF) .nil))) (Nd Ac2 (Nd o92 (Nd Afn (Lf AjX) .nil) (Nd AjW (Lf tE) .nil)) (Nd Br (Nd Br (Lf tE) .nil) (Lf AmP)))))) (Nd (boot_o_6 P) (Nd (boot_o_10 P) (Nd tE (Nd Acf (Nd o66 (Nd tE (Lf Br) .nil) (Nd tE (Lf AlB) .nil)) (Nd Ab5 (Nd tE (Lf Am3) .nil) (Nd AgM (Lf Fv) .nil))) (Nd (o50 P) (Nd o82 (Nd AmS (Lf tE) .nil) (Nd Akb (Lf Ag9) .nil)) (Nd tE (Nd AlT (Lf tE) .nil) (Nd AmH (Lf AfV) .nil)))) (Nd Br (Nd tE (Nd Fv (Nd Br (Lf Aj4) .nil) (Nd Br (Lf Ak3) .nil)) (Nd Ai5 (Nd AeZ (Lf AgQ) .nil) (Nd Amd (Lf Aks) .nil))) (Nd Aer (Nd AcV (Nd Aj2 (Lf Afm) .nil) (Nd tE (Lf AmL) .nil)) (Nd AaC (Nd Ak2 (Lf Br) .nil) (Lf tE))))) (Nd Adh (Nd o22 (Nd tE (Nd o70 (Nd ZV (Lf AkB) .nil) (Nd AfK (Lf Aj8) .nil)) (Nd tE (Nd tE (Lf (Agz P)) .nil) (Nd Br (Lf Ag4) .nil))) (Nd o54 (Nd o86 (Nd Alu (Lf tE) .nil) (Nd AkD (Lf Br) .nil)) (Nd tE (Nd AlQ (Lf AgI) .nil) (Lf tE)))) (Nd (o30 P) (Nd AeN (Nd AeG (Nd Ajx (Lf AkY) .nil) (Nd Am6 (Lf Amv) .nil)) (Nd Zt (Nd Br (Lf tE) .nil) (Nd AjN (Lf Al9) .nil))) (Nd Br (Nd (Adw P) (Nd Am1 (Lf Br) .nil) (Nd tE (Lf Akd) .nil)) (Nd tE (Nd tE (Lf Al8) .nil) (Lf Aga)))))))
def Akc(w:World)(os:OsState):SharedT:=⟨AoT w.params,372,Life.mk [] [] [] 0 [] [] Bool.false #[] [] 0 Bool.false Bool.false Bool.false 0 [2000,10,10] Bool.false 0 Bool.true [] [] 0 Bool.false,Array.mk [],Drawn.mk 0 0 0 0,658,os⟩
def Am4:Pos:=⟨168,0,171,49⟩
end
noncomputable def vw:Program:={PySem.Challenge.pw_formcycle_k51_heads with main:={PySem.Challenge.pw_formcycle_k51_heads.main with body:=[tp 0,tp 2,tp 3,tp 4,tp 5,tp 6,tp 7,tp 9,tp 10,tp 11,tp 12,tp 14,tp 15,tp 16,tp 17,tp 18,tp 20,tp 21,tp 22,tp 23,tp 24,tp 26,tp 27,tp 28,tp 29,tp 31,tp 32,tp 33,tp 34,tp 35,tp 36,tp 37,tp 38,tp 40,tp 41,tp 42,tp 43,tp 44,tp 46,tp 47,tp 48,tp 49,tp 50,tp 52,tp 53,tp 54,tp 55,tp 56,tp 57,tp 58,tp 59,tp 60,tp 61,tp 62,tp 63,tp 64,tp 65,tp 66,tp 67,tp 68,tp 69,tp 70,tp 71,tp 72]} }
def asK:List Nat:=[2,3,15,17,18,20,21,22,29,30,31,32,35,42,44,45,47,48,49,50,51,54,61,63,64,66,67,68,69,70,73,80,82,83,85,86,87,88,89,92,99,101,102,104,105,106,107,108,111,118,119,120,123,125,126,128,129,130,132,133,135,136,137,139,140,142,143,144,146,147,149,150,151,152,154,155,157,158,159,161,162,164,165,166,168,169,171,172,173,175,176,178,179,180,182,183,185,186,187,189,190,192,193,194,196,197,199,200,201,203,204,206,207,208,210,211,213,214,215,217,218,220,221,222,224,225,227,228,229,231,232,234,235,236,238,239,241,242,243,245,246,248,249,250,252,253,255,256,257,259,260,262,263,264,266,267,269,270,271,273,274,276,277,278,280,281,283,284,285,287,288,290,291,299,301,302,304,305,306,308,309,311,312,313,315,316,318,319,320,322,323,325,326,327,328,329,330,331,334,341,343,344,346,347,348,349,350,353,360,362,363,365,366,367,368,369,372,374,375,377,378,379,381,382,384,385,386,389,390,391,393,394,396,397,398,401,402,403,406,407,408,410,411,413,414,415,417,418,420,421,422,425,426,427,429,430,432,433,434,436,437,439,440,441,443,444,446,447,448,450,451,453,454,455,457,458,460,461,462,464,465,467,468,476,478,479,481,482,483,485,486,488,489,490,492,493,495,496,497,499,500,502,503,504,506,507,509,510,511,513,514,516,517,518,520,521,523,524,525,527,528,530,531,532,534,535,537,538,539,541,542,544,545,546,549,550]
noncomputable def bE:List Stmt:=behindTheImports PySem.Challenge.rw_formcycle_k51_heads.row.prog
noncomputable def ev:Env:={scope:=PySem.Challenge.rw_formcycle_k51_heads.row.prog.main.scope,locals:=mainNs,globals:=mainNs,cells:=[],code:=.ref 13,frame:=some 14}
noncomputable def cc:Code:=.body bE ev
def qq:Pos:=.mk 0 0 0 0
def pp:Pos:=⟨0,0,0,0⟩
theorem AmB:∀w os,goT treeTable PySem.Challenge.rw_formcycle_k51_heads.row.prog w 11 (some (.ref 6)) 12 (Sx w os) (topStub PySem.Challenge.rw_formcycle_k51_heads.row.prog)=some (St0 w os,⟨denote treeTable cc,cc,pp,[topFrame qq]⟩):=fun w os=>by kernel_rfl
theorem AlV:∀w os,segRunT treeTable PySem.Challenge.rw_formcycle_k51_heads.row.prog w 11 (some (.ref 6)) 1 1 (St0 w os) (blockOf bE ev cc pp [topFrame qq])=some (.next,St0 w os,cc,ps0):=fun w os=>by kernel_rfl
noncomputable def l12:List Stmt:=List.take 12 bE
noncomputable def r12:List Stmt:=List.drop 12 bE
theorem Aov:∀w os,segRunT treeTable PySem.Challenge.rw_formcycle_k51_heads.row.prog w 11 (some (.ref 6)) 1 1520 (St0 w os) (piecesOf l12 ev cc ps0 [topFrame qq])=some (.next,AjU w os,cc,AmQ):=fun w os=>by kernel_rfl
noncomputable def l43:List Stmt:=List.take 31 r12
noncomputable def r43:List Stmt:=List.drop 31 r12
theorem Apd:∀w os,segRunT treeTable PySem.Challenge.rw_formcycle_k51_heads.row.prog w 11 (some (.ref 6)) 1 1518 (AjU w os) (piecesOf l43 ev cc AmQ [topFrame qq])=some (.next,Akc w os,cc,Am4):=fun w os=>by kernel_rfl
noncomputable def TL(w:World)(os:OsState):Option SharedT:=W0 treeTable PySem.Challenge.rw_formcycle_k51_heads.row.prog w 11 (some (.ref 6)) 923 (Akc w os) (restOf r43 ev cc Am4 [topFrame qq])
theorem hr:∀w os r,TL w os=some r→topRun treeTable PySem.Challenge.rw_formcycle_k51_heads.row.prog w (BK w os).heap.objs.size ((BK w os).heap.nsMap mainGlobals "__annotations__") 3974 (BK w os) (topStub PySem.Challenge.rw_formcycle_k51_heads.row.prog)=some r.abs:=fun w os r h=>by
 rw[show(BK w os).heap.objs.size=11 by kernel_rfl,show(BK w os).heap.nsMap mainGlobals "__annotations__"=some (.ref 6) by kernel_rfl]
 have k:=Vg _ h
 have k:=piece_app (segRun_of (Apd w os)) k
 rw[show l43++r43=r12 from List.take_append_drop _ _]at k
 have k:=piece_app (segRun_of (Aov w os)) k
 rw[show l12++r12=bE from List.take_append_drop _ _]at k
 have k:=piece_block (segRun_of (AlV w os)) k
 have k:=go_top (AeA _ (AmB w os)) k
 rw[boot_abs]at k
 exact k
noncomputable def sA0(s:Shared):=PyProof.Rows.seen ((PyProof.Rows.recsOf vw).map (·.name)) (PyProof.Rows.ownsOf vw) [] {s with gens:=#[]}
noncomputable def sA1(s:Shared):=s.heap.bltView
noncomputable def sA2(s:Shared):=s.heap.keysOk (looseW vw []) ((PyProof.Rows.recsOf vw).map (·.name)) ((PyProof.Rows.litsOf vw).map (·.1)) ((PyProof.Rows.clssOf vw (looseW vw [])).map (·.name))&&s.heap.accountedOkI (importedModules PySem.Challenge.rw_formcycle_k51_heads.row.prog.main.body)&&s.heap.isNs mainGlobals&&s.heap.isNs builtinsNs&&PyProof.Rows.tablesOk vw s.heap&&(xlAt vw [] s&&recOk (RowW.records PySem.Challenge.rw_formcycle_k51_heads.row.toRowW) s)&&(if true then s.gens.size==0 else !leftWithCleanup s.gens)
noncomputable def sA3(s:Shared):=PyProof.Rows.tabsOk vw s
noncomputable def sA4(s:Shared):=pinSeenD vw (PyProof.Rows.drecsOf vw) s
noncomputable def sA5(s:Shared):=PyProof.Rows.plainSeenE vw (looseW vw []) s
noncomputable def sA6(s:Shared):=PyProof.Rows.plainSeenD vw [] s
noncomputable def sA7(s:Shared):=wideSeen vw s
noncomputable def sA8(s:Shared):=clsSeenW vw [] s
theorem hA:∀(w:World)(os:OsState),(TL w os).map (fun r=>stays PySem.Challenge.rw_formcycle_k51_heads.row.prog (BK w os) r.abs)=some true:=fun w os=>by kernel_rfl
theorem hB0:∀(w:World)(os:OsState),(TL w os).map (fun r=>sA0 r.abs)=some (PyProof.Rows.expectedOf vw):=fun w os=>by kernel_rfl
theorem hB1:∀(w:World)(os:OsState),(TL w os).map (fun r=>(sA1 r.abs,sA3 r.abs,sA4 r.abs,sA6 r.abs,sA8 r.abs))=some (bltViewBooted,true,pinGoodD (PyProof.Rows.drecsOf vw),PyProof.Rows.plainGoodD vw [],clsGoodW vw []):=fun w os=>by kernel_rfl
theorem hB2:∀(w:World)(os:OsState),(TL w os).map (fun r=>sA2 r.abs)=some true:=fun w os=>by kernel_rfl
theorem hB5:∀(w:World)(os:OsState),(TL w os).map (fun r=>sA5 r.abs)=some (PyProof.Rows.plainGoodE vw (looseW vw [])):=fun w os=>by kernel_rfl
theorem hB7:∀(w:World)(os:OsState),(TL w os).map (fun r=>sA7 r.abs)=some (wideGood vw):=fun w os=>by kernel_rfl
theorem nine{α0 α1 α2 α3 α4 α5 α6 α7 α8:Type}{o:Option SharedT}{A0:Shared→α0}{A1:Shared→α1}{A2:Shared→α2}{A3:Shared→α3}{A4:Shared→α4}{A5:Shared→α5}{A6:Shared→α6}{A7:Shared→α7}{A8:Shared→α8}{a0:α0}{a1:α1}{a2:α2}{a3:α3}{a4:α4}{a5:α5}{a6:α6}{a7:α7}{a8:α8}
  (h0:o.map (fun r=>A0 r.abs)=some a0) (h1:o.map (fun r=>(A1 r.abs,A3 r.abs,A4 r.abs,A6 r.abs,A8 r.abs))=some (a1,a3,a4,a6,a8)) (h2:o.map (fun r=>A2 r.abs)=some a2) (h5:o.map (fun r=>A5 r.abs)=some a5) (h7:o.map (fun r=>A7 r.abs)=some a7) :
  o.map (fun r=>(A0 r.abs,A1 r.abs,A2 r.abs,A3 r.abs,A4 r.abs,A5 r.abs,A6 r.abs,A7 r.abs,A8 r.abs))=some (a0,a1,a2,a3,a4,a5,a6,a7,a8):=by
 cases o with
 |none=>cases h0
 | some r =>
  simp only[Option.map_some,Option.some.injEq,Prod.mk.injEq]at h0 h1 h2 h5 h7 ⊢
  exact⟨h0,h1.1,h2,h1.2.1,h1.2.2.1,h5,h1.2.2.2.1,h7,h1.2.2.2.2⟩
theorem hB:∀(w:World)(os:OsState),(TL w os).map (fun r=>openSeen vw [] (importedModules PySem.Challenge.rw_formcycle_k51_heads.row.prog.main.body) (fun s=>xlAt vw [] s&&recOk (RowW.records PySem.Challenge.rw_formcycle_k51_heads.row.toRowW) s) true r.abs)=some (openGood vw []):=fun w os=>nine (A0:=sA0) (A1:=sA1) (A2:=sA2) (A3:=sA3) (A4:=sA4) (A5:=sA5) (A6:=sA6) (A7:=sA7) (A8:=sA8) (hB0 w os) (hB1 w os) (hB2 w os) (hB5 w os) (hB7 w os)
theorem hC:∀(w:World)(os:OsState),(TL w os).map (fun r=>Hook.obs (kHook My.KK My.asK (fun _=>by kernel_rfl)) r.abs)=some (Hook.val (kHook My.KK My.asK (fun _=>by kernel_rfl)) w):=fun w os=>by kernel_rfl
theorem hl:LeftO PySem.Challenge.rw_formcycle_k51_heads.row.prog vw [] (fun s=>xlAt vw [] s&&recOk (RowW.records PySem.Challenge.rw_formcycle_k51_heads.row.toRowW) s) (Hook.obs (kHook My.KK My.asK (fun _=>by kernel_rfl))) (Hook.val (kHook My.KK My.asK (fun _=>by kernel_rfl))) 3974:=fun w=>Aek (TL:=TL w) (by kernel_rfl) ⋯ (fun _=>by kernel_rfl) (hr w) (hA w) (hB w) (hC w) (fun os=>by kernel_rfl)
end My
namespace L2
open PySem Spec PyProof.Rows
abbrev Key:=Sum Int Str
def Aaz:Key→Value→Bool
 |.inl k,v=>Value.isInt k v
 |.inr x,v=>Value.isStrOf x v
def AoQ(w:World):Key→Int
 |.inl k=>hashInt k
 |.inr x=>hashStr w x
theorem CJ:∀{k:Key} {v:Value},Aaz k v=true→(∃i t,k=Sum.inl i∧v=Value.int i t)∨(∃x t,k=Sum.inr x∧v=Value.str x t)
 | .inl i,v,h=>by
  obtain⟨t,e⟩:=Value.isInt_shape (k:=i) (v:=v) h
  exact .inl ⟨i,t,rfl,e⟩
 | .inr x,v,h=>by
  obtain⟨t,e⟩:=Value.isStrOf_shape (x:=x) (v:=v) h
  exact .inr ⟨x,t,rfl,e⟩
theorem AaY(i:Int)(t:Tok):Aaz (.inl i) (.int i t)=true:=by simp[Aaz,Value.isInt]
theorem AjA(a b:Int):decide ((Sum.inl a:Key)=Sum.inl b)=(a==b):=by
 by_cases e:a=b
 ·subst e;simp
 ·have h:¬(Sum.inl a:Key)=Sum.inl b:=fun q=>e (Sum.inl.inj q)
  rw[decide_eq_false h]
  exact(beq_eq_false_iff_ne.mpr e).symm
theorem Ajj(a b:Str):decide ((Sum.inr a:Key)=Sum.inr b)=decide (a=b):=by
 by_cases e:a=b
 ·subst e;simp
 ·have h:¬(Sum.inr a:Key)=Sum.inr b:=fun q=>e (Sum.inr.inj q)
  rw[decide_eq_false h,decide_eq_false e]
theorem Aic(a:Int)(b:Str):decide ((Sum.inl a:Key)=Sum.inr b)=false:=decide_eq_false (fun q=>nomatch q)
theorem AiT(a:Str)(b:Int):decide ((Sum.inr a:Key)=Sum.inl b)=false:=decide_eq_false (fun q=>nomatch q)
def Eb(prog:Program)(w:World):PySem.KeyKind prog w Key where
 is:=Aaz
 hash:=AoQ w
 inj:=fun v a b ha hb=>by
  rcases CJ ha with⟨i,t,rfl,rfl⟩|⟨x,t,rfl,rfl⟩
  ·rcases CJ hb with⟨j,u,rfl,e⟩|⟨y,u,rfl,e⟩
   ·injection e with e1 _;rw[e1]
   ·exact nomatch e
  ·rcases CJ hb with⟨j,u,rfl,e⟩|⟨y,u,rfl,e⟩
   ·exact nomatch e
   ·injection e with e1 _;rw[e1]
 byValue:=fun k v h=>by
  rcases CJ h with⟨i,t,rfl,rfl⟩|⟨x,t,rfl,rfl⟩<;>rfl
 pyHash:=fun hv h=>by
  rcases CJ hv with⟨i,t,rfl,rfl⟩|⟨x,t,rfl,rfl⟩
  ·exact wpAny_pyHash_int h
  ·exact wpAny_pyHash_str h
 eqBool:=fun hu hv h=>by
  rcases CJ hu with⟨i,t,rfl,rfl⟩|⟨x,t,rfl,rfl⟩
  ·rcases CJ hv with⟨j,u,rfl,rfl⟩|⟨y,u,rfl,rfl⟩
   ·rw[AjA]at h;exact wpAny_eqBool_int h
   ·rw[Aic]at h;exact SeqAt.EqAt.int_str i t y u _ _ _ _ h
  ·rcases CJ hv with⟨j,u,rfl,rfl⟩|⟨y,u,rfl,rfl⟩
   ·rw[AiT]at h;exact SeqAt.EqAt.str_int x t j u _ _ _ _ h
   ·rw[Ajj]at h;exact wpAny_eqBool_str h
 «strs» := fun k x t v h=>by
  rcases CJ h with⟨i,u,rfl,e⟩|⟨y,u,rfl,e⟩
  ·exact nomatch e
  ·injection e with e1 _
   subst e1
   cases v<;>rfl
theorem W4(prog:Program)(w:World)(i:Int)(t:Tok):(Eb prog w).is (.inl i) (.int i t)=true:=AaY i t
inductive V where
 |non|bl (b:Bool)|int (i:Int)|str (x:Str)|byt (b:Array UInt8)|flt (b:UInt64)|ref (a:Addr)|ty (n:String)
 deriving DecidableEq
def RelV:V→Value→Prop
 |.non,u=>u=Value.none
 |.bl b,u=>u=Value.bool b
 |.int i,u=>∃t,u=Value.int i t
 |.str x,u=>∃t,u=Value.str x t
 |.byt b,u=>∃t,u=Value.bytes b t
 |.flt b,u=>∃t,u=Value.float b t
 |.ref a,u=>u=Value.ref a
 |.ty n,u=>u=Value.type n
abbrev Vals:List V→List Value→Prop:=Paired RelV
theorem Vals.length{xs:List V}{us:List Value}(r:Vals xs us):xs.length=us.length:=Paired.length r
theorem Vals.get:∀{xs:List V} {us:List Value} {i:Nat} {x:V},Vals xs us→xs[i]? = some x→∃u,us[i]? = some u∧RelV x u
 |_,_,_,_,.nil,e=>by simp at e
 |_,_,0,_,.cons r _,e=>by simp at e;subst e;exact⟨_,rfl,r⟩
 | _,_,i+1,x,.cons _ t,e=>by
  obtain⟨u,h1,h2⟩:=Vals.get (i:=i) (x:=x) t (by simpa using e)
  exact⟨u,by simpa using h1,h2⟩
theorem Vals.append:∀{xs ys:List V} {us ws:List Value},Vals xs us→Vals ys ws→Vals (xs++ys) (us++ws)
 |_,_,_,_,.nil,s=>s
 |_,_,_,_,.cons r t,s=>.cons r (Vals.append t s)
theorem Vals.take:∀{xs:List V} {us:List Value} (n:Nat),Vals xs us→Vals (xs.take n) (us.take n)
 |_,_,0,_=>.nil
 |_,_,_+1,.nil=>.nil
 |_,_,n+1,.cons r t=>.cons r (Vals.take n t)
theorem Vals.drop:∀{xs:List V} {us:List Value} (n:Nat),Vals xs us→Vals (xs.drop n) (us.drop n)
 |_,_,0,r=>r
 |_,_,_+1,.nil=>.nil
 |_,_,n+1,.cons _ t=>Vals.drop n t
def RV:Option V→Option Value→Prop
 |some v,some u=>RelV v u
 |none,none=>True
 |_,_=>False
def KV{κ:Type}:List (κ×V)→List (κ×Value)→Prop:=Paired fun(p:κ×V)(q:κ×Value)=>p.1=q.1∧RelV p.2 q.2
def kV:Key→V
 |.inl i=>.int i
 |.inr x=>.str x
inductive HO where
  |lst (xs:List V)
  |tup (xs:List V)
  |dK (kvs:List (Key×V))|dT (kvs:List (List Key×V))
  |set (S:Int→Bool) (n:Nat)
  |ins (C dx:Addr) (fs:List (Str×V))
  |own (x:Addr)
  |xd (fs:List (Str×V))
  |met (f x:Addr)
  |rng (lo hi:Int)
  |frz (o:Obj) (u:HO)
  |tbl (ps:Array Value)
  |ext (φ:Heap→Prop)
abbrev Hp:=Addr→Option HO
def upd(H:Hp)(a:Addr)(o:HO):Hp:=fun b=>if b=a then some o else H b
theorem Ce{H:Hp}{a:Addr}{o:HO}:upd H a o a=some o:=by unfold upd;rw[if_pos rfl]
theorem Bo{H:Hp}{a b:Addr}{o:HO}(h:b≠a):upd H a o b=H b:=by unfold upd;rw[if_neg h]
theorem Dq{H:Hp}{a b:Addr}{o:HO}(h:H a=some o)(h':H b=none):a≠b:=by
 intro e;subst e;rw[h]at h';cases h'
section
variable(P:Program)(w:World)
def GQ(H:Hp)(h:Heap)(a:Addr):HO→Prop
 |.lst xs=>xs.length≤sizeLine∧∃(its:List Value)(n:Nat),Vals xs its∧h.get? a=some {cls:=.type "list",data:=.seq its.toArray n}
 |.tup xs=>xs.length≤sizeLine∧∃its:List Value,Vals xs its∧IsTup h a its.toArray
 |.dK kvs=>kvs.length≤sizeLine∧(a==sysModules)=false∧∃vs,KV kvs vs∧h.DictOf (Eb P w) a vs
 | .dT kvs=>kvs.length≤sizeLine∧(a==sysModules)=false∧∃xs:List (List Key×Addr×Value),
   Paired (fun(p:List Key×V)(q:List Key×Addr×Value)=>p.1=q.1∧H q.2.1=some (.tup (p.1.map kV))∧RelV p.2 q.2.2) kvs xs ∧
   ∃o es ep,h.get? a=some o∧o.ExactDict∧o.data=.dict es ep∧es.toList=xs.map (entryOfKey (tupleKind (Eb P w)))∧(xs.map (·.1)).Nodup
 |.set S n=>h.SetOf (intKind P w) a S n
 | .ins C dx fs=>H dx=some (.own a)∧fs.length≤1000∧dx≠a∧h.get? a=some (W.instObj C dx) ∧
   ∃mA,h.Ns1 dx mA∧(∀f,RV (fs.lookup f) (mA f))∧PySem.Within mA (fs.map (·.1))
 |.own _=>∃o,h.get? a=some o
 |.xd fs=>∃mA,h.Ns1 a mA∧∀f,RV (fs.lookup f) (mA f)
 |.rng lo hi=>∃t u v,h.get? a=some {cls:=.type "range",data:=.fields #[.int lo t,.int hi u,.int 1 v]}
 |.frz o u=>h.get? a=some o∧GQ H h a u
 |.tbl ps=>h.get? a=some {cls:=.none,data:=.fields ps}
 |.met f x=>h.get? a=some (W.methodObj (.ref f) (.ref x))
 |.ext φ=>φ h∧(∃o,h.get? a=some o)∧∀h1 h2:Heap,φ h1→(∀o,h1.get? a=some o→h2.get? a=some o)→φ h2
def HOk(H:Hp)(h:Heap):Prop:=∀a o,H a=some o→GQ P w H h a o
end
section
variable{P:Program}{w:World}{H H':Hp}{h h':Heap}{a:Addr}{o:HO}
theorem GQ.lt(x:GQ P w H h a o):a<h.objs.size:=by
 cases o with
 |lst xs=>obtain⟨_,_,_,_,e⟩:=x;exact Heap.lt_size e
 |tup xs=>obtain⟨_,_,_,p⟩:=x;exact p.lt
 |dK kvs=>obtain⟨_,_,_,_,o,_,_,e,_⟩:=x;exact Heap.lt_size e
 |dT kvs=>obtain⟨_,_,_,_,o,_,_,e,_⟩:=x;exact Heap.lt_size e
 |set S n=>obtain⟨o,_,_,_,e,_⟩:=x;exact Heap.lt_size e
 |ins C dx fs=>obtain⟨_,_,_,e,_⟩:=x;exact Heap.lt_size e
 |own y=>obtain⟨_,e⟩:=x;exact Heap.lt_size e
 |xd fs=>obtain⟨_,⟨_,_,_,e,_⟩,_⟩:=x;exact Heap.lt_size e
 |rng lo hi=>obtain⟨_,_,_,e⟩:=x;exact Heap.lt_size e
 |frz ob u=>obtain⟨e,_⟩:=x;exact Heap.lt_size e
 |tbl ps=>exact Heap.lt_size (show h.get? a=some _ from x)
 |met f y=>exact Heap.lt_size (show h.get? a=some _ from x)
 |ext φ=>obtain⟨_,⟨_,e⟩,_⟩:=x;exact Heap.lt_size e
theorem Paired.q9{α β:Type}{F G:α→β→Prop}:∀{l₁:List α} {l₂:List β},Paired F l₁ l₂→(∀a b,F a b→G a b)→Paired G l₁ l₂
 |_,_,.nil,_=>.nil
 |_,_,.cons r t,f=>.cons (f _ _ r) (Paired.q9 t f)
theorem GQ.stay(x:GQ P w H h a o)(k:∀b u,(b=a∨H b=some (.own a))→h.get? b=some u→h'.get? b=some u)
  (ho:∀b,H b=some (.own a)→H' b=some (.own a)) (ht:∀b xs,H b=some (.tup xs)→H' b=some (.tup xs)):GQ P w H' h' a o:=by
 induction o with
 |lst xs=>obtain⟨z,its,n,r,e⟩:=x;exact⟨z,its,n,r,k _ _ (.inl rfl) e⟩
 |tup xs=>obtain⟨z,its,r,ob,e,c⟩:=x;exact⟨z,its,r,ob,k _ _ (.inl rfl) e,c⟩
 |dK kvs=>obtain⟨z,y,vs,r,ob,es,ep,e,c⟩:=x;exact⟨z,y,vs,r,ob,es,ep,k _ _ (.inl rfl) e,c⟩
 | dT kvs =>
  obtain⟨z,y,xs,r,ob,es,ep,e,c⟩:=x
  exact⟨z,y,xs,Paired.q9 r fun p q z=>⟨z.1,ht _ _ z.2.1,z.2.2⟩,ob,es,ep,k _ _ (.inl rfl) e,c⟩
 |set S n=>obtain⟨ob,es,ep,t,e,c⟩:=x;exact⟨ob,es,ep,t,k _ _ (.inl rfl) e,c⟩
 | ins C dx fs =>
  obtain⟨d,z,ne,e,mA,⟨od,es,ep,e2,c⟩,r⟩:=x
  exact⟨ho _ d,z,ne,k _ _ (.inl rfl) e,mA,⟨od,es,ep,k _ _ (.inr d) e2,c⟩,r⟩
 |own y=>obtain⟨ob,e⟩:=x;exact⟨ob,k _ _ (.inl rfl) e⟩
 |xd fs=>obtain⟨mA,⟨od,es,ep,e,c⟩,r⟩:=x;exact⟨mA,⟨od,es,ep,k _ _ (.inl rfl) e,c⟩,r⟩
 |rng lo hi=>obtain⟨t,u,v,e⟩:=x;exact⟨t,u,v,k _ _ (.inl rfl) e⟩
 |frz ob u ih=>obtain⟨e,q⟩:=x;exact⟨k _ _ (.inl rfl) e,ih q⟩
 | tbl ps =>
  have e:h.get? a=some {cls:=.none,data:=.fields ps}:=x
  show h'.get? a=some {cls:=.none,data:=.fields ps}
  exact k a _ (.inl rfl) e
 | met f y =>
  have e:h.get? a=some (W.methodObj (.ref f) (.ref y)):=x
  show h'.get? a=some (W.methodObj (.ref f) (.ref y))
  exact k a _ (.inl rfl) e
 |ext φ=>obtain⟨p,⟨o,e⟩,st⟩:=x;exact⟨st _ _ p fun o q=>k _ _ (.inl rfl) q,⟨o,k _ _ (.inl rfl) e⟩,st⟩
theorem HOk.lt(x:HOk P w H h)(e:H a=some o):a<h.objs.size:=(x a o e).lt
theorem HOk.fresh(x:HOk P w H h)(e:h.objs.size≤a):H a=none:=by
 cases q:H a with
 |none=>rfl
 |some u=>exact absurd (Nat.lt_of_lt_of_le (x.lt q) e) (Nat.lt_irrefl _)
theorem HOk.kept(x:HOk P w H h)(k:∀b u,h.get? b=some u→h'.get? b=some u):HOk P w H h':=fun a o e =>
 (x a o e).stay (fun b u _ q=>k b u q) (fun _ q=>q) fun _ _ q=>q
theorem HOk.laid(x:HOk P w H h)(k:∀b u,h.get? b=some u→h'.get? b=some u)(hp:h.objs.size≤a)(new:GQ P w (upd H a o) h' a o):HOk P w (upd H a o) h':=fun b u e=>by
 have hn:=x.fresh hp
 by_cases hb:b=a
 ·subst hb;rw[Ce]at e;cases e;exact new
 ·rw[Bo hb]at e
  exact(x b u e).stay (fun c v _ q=>k c v q) (fun c q=>by rw[Bo (Dq q hn)];exact q) fun c xs q=>by rw[Bo (Dq q hn)];exact q
end
def Rd(H:Hp)(a:Addr)(u:HO):Prop:=H a=some u∨∃o,H a=some (.frz o u)
theorem Rd.ok{P:Program}{w:World}{H:Hp}{h:Heap}{a:Addr}{u:HO}(r:Rd H a u)(x:HOk P w H h):GQ P w H h a u:=by
 rcases r with r|⟨o,r⟩
 ·exact x a u r
 ·obtain⟨_,q⟩:=x a _ r
  exact q
def Mut:Option HO→Prop
 |some (.lst _)=>True
 |some (.dK _)=>True
 |some (.dT _)=>True
 |some (.set _ _)=>True
 |some (.ins _ _ _)=>True
 |some (.ext _)=>True
 |_=>False
section
variable{P:Program}{w:World}{H:Hp}{h h':Heap}{x e:Addr}{o':HO}
theorem HOk.write(ok:HOk P w H h)(mu:Mut (H x))(he:e=x∨H e=some (.own x))(k:∀b u,b≠e→h.get? b=some u→h'.get? b=some u)(heo:∃u,h'.get? e=some u)
  (new:GQ P w (upd H x o') h' x o'):HOk P w (upd H x o') h':=fun b u q=>by
 have rA:∀c y,H c=some (.own y)→c≠x:=fun c y r z=>by subst z;rw[r]at mu;exact mu
 have rP:∀c xs,H c=some (.tup xs)→c≠x:=fun c xs r z=>by subst z;rw[r]at mu;exact mu
 by_cases hb:b=x
 ·subst hb;rw[Ce]at q;cases q;exact new
 ·rw[Bo hb]at q
  by_cases hbe:b=e
  ·have q':H b=some (.own x):=by
    rcases he with z|z
    ·exact absurd (hbe.trans z) hb
    ·rw[hbe];exact z
   rw[q]at q';cases q'
   obtain⟨v,hv⟩:=heo
   exact⟨v,by rw[hbe];exact hv⟩
  ·refine(ok b u q).stay (fun c v hc r=>k c v ?_ r) (fun c r=>by rw[Bo (rA c b r)];exact r) fun c xs r=>by rw[Bo (rP c xs r)];exact r
   rcases hc with rfl|hc
   ·exact hbe
   ·rintro rfl
    rcases he with z|z
    ·exact rA c b hc z
    ·rw[hc]at z;cases z;exact hb rfl
end
structure Un(fs ex:List Addr)(H H':Hp)(h h':Heap):Prop where
 keep:∀b o,h.get? b=some o→H b=none→b∉fs→b∉ex→h'.get? b=some o
 slot:∀b o,h.get? b=some o→H b=none→b∈fs→b∉ex→∃sl,h'.get? b=some {o with slots:=sl}
 free:∀b o,h.get? b=some o→H b=none→b∉ex→H' b=none
 there:∀b o,h.get? b=some o→b∉ex→∃o',h'.get? b=some o'
 tups:∀b xs,H b=some (.tup xs)→H' b=some (.tup xs)
 fW:∀b o u,H b=some (.frz o u)→H' b=some (.frz o u)
 gU:∀b ps,H b=some (.tbl ps)→∃more,H' b=some (.tbl (ps++more))
section
variable{fs fs' ex ex':List Addr}{H H1 H2:Hp}{h h1 h2 h':Heap}{a x e:Addr}{o:HO}
theorem Un.any(u:Un fs ex H H1 h h1){b:Addr}{ob:Obj}(q:h.get? b=some ob)(n:H b=none)(hx:b∉ex):∃sl,h1.get? b=some {ob with slots:=sl}:=by
 by_cases hb:b∈fs
 ·exact u.slot b ob q n hb hx
 ·exact⟨ob.slots,u.keep b ob q n hb hx⟩
theorem Un.trans(a:Un fs ex H H1 h h1)(b:Un fs ex H1 H2 h1 h2):Un fs ex H H2 h h2 where
 keep:=fun c ob q n hc hx=>b.keep c ob (a.keep c ob q n hc hx) (a.free c ob q n hx) hc hx
 slot:=fun c ob q n hc hx=>by
  obtain⟨sl,e1⟩:=a.slot c ob q n hc hx
  obtain⟨sl',e2⟩:=b.slot c _ e1 (a.free c ob q n hx) hc hx
  exact⟨sl',e2⟩
 free:=fun c ob q n hx=>by
  obtain⟨o',e1⟩:=a.there c ob q hx
  exact b.free c o' e1 (a.free c ob q n hx) hx
 there:=fun c ob q hx=>by
  obtain⟨o',e1⟩:=a.there c ob q hx
  exact b.there c o' e1 hx
 tups:=fun c xs q=>b.tups c xs (a.tups c xs q)
 fW:=fun c ob xs q=>b.fW c ob xs (a.fW c ob xs q)
 gU:=fun c ps q=>by
  obtain⟨m1,e1⟩:=a.gU c ps q
  obtain⟨m2,e2⟩:=b.gU c _ e1
  exact⟨m1++m2,by rw[e2,Array.append_assoc]⟩
theorem Un.kept(k:∀b u,h.get? b=some u→h'.get? b=some u):Un fs ex H H h h' :=
 ⟨fun b ob q _ _ _=>k b ob q,fun b ob q _ _ _=>⟨ob.slots,k b ob q⟩,fun _ _ _ n _=>n,fun b ob q _=>⟨ob,k b ob q⟩,fun _ _ q=>q,fun _ _ _ q=>q,fun _ ps q=>⟨#[],by rw[q];simp⟩⟩
theorem Un.refl:Un fs ex H H h h:=Un.kept fun _ _ q=>q
theorem Un.laid(k:∀b u,h.get? b=some u→h'.get? b=some u)(hp:h.objs.size≤a)(hn:H a=none):Un fs ex H (upd H a o) h h' where
 keep:=fun b u q _ _ _=>k b u q
 slot:=fun b u q _ _ _=>⟨u.slots,k b u q⟩
 free:=fun b u q n _=>by rw[Bo (Nat.ne_of_lt (Nat.lt_of_lt_of_le (Heap.lt_size q) hp))];exact n
 there:=fun b u q _=>⟨u,k b u q⟩
 tups:=fun b xs q=>by rw[Bo (Dq q hn)];exact q
 fW:=fun b u xs q=>by rw[Bo (Dq q hn)];exact q
 gU:=fun b ps q=>⟨#[],by rw[Bo (Dq q hn),q];simp⟩
theorem Un.write(mu:Mut (H x))(he:e=x∨H e=some (.own x))(k:∀b u,b≠e→h.get? b=some u→h'.get? b=some u)(heo:∃u,h'.get? e=some u):Un fs ex H (upd H x o) h h':=by
 have hx:∀b,H b=none→b≠x:=fun b n z=>by subst z;rw[n]at mu;exact mu
 have hb:∀b,H b=none→b≠e:=fun b n z=>by
  subst z
  rcases he with r|r
  ·exact hx b n r
  ·rw[n]at r;cases r
 have hm:∀b u,H b=some u→¬Mut (some u)→b≠x:=fun b u q nm z=>by subst z;rw[q]at mu;exact nm mu
 refine⟨fun b u q n _ _=>k b u (hb b n) q,fun b u q n _ _=>⟨u.slots,k b u (hb b n) q⟩,fun b u q n _=>by rw[Bo (hx b n)];exact n,fun b u q _=>?_,
  fun b xs q=>by rw[Bo (hm b _ q fun z=>z)];exact q,fun b u xs q=>by rw[Bo (hm b _ q fun z=>z)];exact q,fun b ps q=>⟨#[],by rw[Bo (hm b _ q fun z=>z),q];simp⟩⟩
 by_cases hbe:b=e
 ·subst hbe;exact heo
 ·exact⟨u,k b u hbe q⟩
end
def trk(h:Heap)(H:Hp):List Addr:=(List.range h.objs.size).filter fun a=>(H a).isSome
def Ur(h:Heap)(H:Hp):Heap:=W.hideAll h (trk h H)
theorem Abu(h:Heap)(H:Hp):(Ur h H).objs.size=h.objs.size:=W.hideAll_size _ _
theorem Adn{h:Heap}{H:Hp}{b:Addr}{o:Obj}(e:h.get? b=some o)(n:H b=none):(Ur h H).get? b=some o :=
 W.hideAll_get _ e fun hm=>by
  have q:(H b).isSome=true:=(List.mem_filter.mp hm).2
  rw[n]at q;simp at q
theorem Agq{h:Heap}{H:Hp}{b:Addr}{o:Obj}(e:(Ur h H).get? b=some o):h.get? b=some o∧H b=none:=by
 have e':h.get? b=some o:=W.of_hideAll (trk h H) e
 refine⟨e',?_⟩
 cases q:H b with
 |none=>rfl
 | some x =>
  have hm:b∈trk h H:=List.mem_filter.mpr ⟨List.mem_range.mpr (Heap.lt_size e'),by simp[q]⟩
  have z:(Ur h H).get? b=none:=W.hideAll_none (trk h H) hm
  rw[z]at e;cases e
def Ag5(g h:Heap)(L:Addr):List (Addr×Obj):=(List.range h.objs.size).filterMap fun a=>if a=L∨(g.get? a).isSome=true then none else(h.get? a).map fun o=>(a,o)
def rest(g h:Heap)(L d:Addr):List (Addr×Obj):=(Ag5 g h L).filter fun p=>decide (p.1≠d)
structure Mod(K:W.Frag)(mg:Str→Option Value)(base:Heap):Prop where
 kin:K.In base
 glob:base.Ns mainGlobals mg
 blt:∃mb,base.Ns builtinsNs mb∧∀x:Str,x≠"__name__"→mb x=bootBuiltins x
 nolimit:base.NoLimit
structure Cx where
 prog:Program
 w:World
 K:W.Frag
 mg:Str→Option Value
 base:Heap
 A:Around
 N:List Str
 s₀:Shared
 H₀:Hp
 env:Env
 outer:List Env
 stack:List Env
 ex:List Addr
 fn:Str→Bool
 calm:Bool
 pn:List (Addr×Obj)
 xe:Value→Shared→Prop
def frs(l:List Env):List Addr:=l.filterMap (·.frame)
abbrev Cx.fs(X:Cx):List Addr:=frs X.outer
def Vis(sc:Scope)(x:Str):Prop:=sc.names.lookup x=some .local∨sc.names.lookup x=some .cell∨sc.names.lookup x=some .free
def Loc(sc:Scope)(x:Str):Prop:=sc.names.lookup x=some .local∨sc.names.lookup x=some .cell
def Look(env:Env)(h:Heap)(m:Str→Option Value)(x:Str)(u:Value):Prop :=
 (env.kindOf x=some .local∧m x=some u)∨((env.kindOf x=some .cell∨env.kindOf x=some .free)∧∃c,env.cells.lookup x=some c∧h.IsCell c (some u))
structure Cx.Ok(X:Cx):Prop where
 mod:Mod X.K X.mg X.base
 kind:X.env.scope.kind=.function
 glob:X.env.globals=mainGlobals
 blt:X.env.builtins=builtinsNs
 above:X.s₀.heap.objs.size≤X.env.locals
 inj:∀x y c,X.env.cells.lookup x=some c→X.env.cells.lookup y=some c→x=y
 has:∀x,(X.env.kindOf x=some .cell∨X.env.kindOf x=some .free)→∃c,X.env.cells.lookup x=some c
 cab:∀x c,X.fn x=true→X.env.cells.lookup x=some c→X.s₀.heap.objs.size≤c
 hd:X.calm=true→X.A.handled=none
 frames:X.A.frames=some X.stack
 stk:X.stack=X.outer∨(X.stack=X.env::X.outer∧X.env.frame=some X.env.locals)
 exf:∀b∈X.ex,b≠X.env.locals∧∀x c,X.env.cells.lookup x=some c→c≠b
 bs:∀b o,X.base.get? b=some o→X.s₀.heap.get? b=some o∧X.H₀ b=none
 bsz:X.base.objs.size≤X.s₀.heap.objs.size
 pA:∀b o,X.base.get? b=some o→b∉X.ex
 n8:∀b∈X.ex,b∉X.fs
 gW:X.s₀.heap.FunFrames X.base X.outer
 frf:∀b∈X.fs,X.H₀ b=none
structure Inv(X:Cx)(pins:List (Addr×Obj))(σ:List (Option V))(H:Hp)(s:Shared):Prop where
 ok:X.Ok
 os:s.os=X.s₀.os
 bare:AllBare s.gens
 base:Un X.fs X.ex X.H₀ H X.s₀.heap s.heap
 loc:∃m,s.heap.Ns X.env.locals m∧∀(i:Nat)(x:Str)(v:V),X.N[i]? = some x→σ[i]? = some (some v)→Vis X.env.scope x→∃u,RelV v u∧Look X.env s.heap m x u
 cell:∀x c,X.env.cells.lookup x=some c→∃v,s.heap.IsCell c v
 free:H X.env.locals=none
 cZ:∀x c,X.env.cells.lookup x=some c→H c=none
 pin:∀p∈X.pn++pins,s.heap.get? p.1=some p.2∧H p.1=none∧p.1≠X.env.locals∧p.1∉X.fs∧∀v,p.2.data≠.cell v
 hok:HOk X.prog X.w H s.heap
 len:σ.length=X.N.length
section
variable{X:Cx}{pins:List (Addr×Obj)}{σ:List (Option V)}{H H':Hp}{s:Shared}{h':Heap}
theorem Cx.Ok.rQ(ok:X.Ok){b:Addr}{o:Obj}(e:X.base.get? b=some o):b∉X.fs:=fun hb=>by
 have:=(ok.gW.mem hb).1
 rw[e]at this;cases this
theorem Inv.bs(I:Inv X pins σ H s):∀b o,X.base.get? b=some o→s.heap.get? b=some o∧H b=none:=fun b o e =>
 ⟨I.base.keep b o (I.ok.bs b o e).1 (I.ok.bs b o e).2 (I.ok.rQ e) (I.ok.pA b o e),I.base.free b o (I.ok.bs b o e).1 (I.ok.bs b o e).2 (I.ok.pA b o e)⟩
theorem Inv.bk(I:Inv X pins σ H s):∀b o,X.base.get? b=some o→s.heap.get? b=some o:=fun b o e=>(I.bs b o e).1
theorem Inv.mod(I:Inv X pins σ H s):Mod X.K X.mg X.base:=I.ok.mod
theorem Inv.kIn(I:Inv X pins σ H s):X.K.In s.heap:=I.ok.mod.kin.keeps I.bk
theorem Inv.lt(I:Inv X pins σ H s):X.env.locals<s.heap.objs.size:=let ⟨_,hn,_⟩:=I.loc;hn.lt
theorem Inv.sz(I:Inv X pins σ H s):X.s₀.heap.objs.size≤s.heap.objs.size:=Nat.le_trans I.ok.above (Nat.le_of_lt I.lt)
theorem Inv.rR(I:Inv X pins σ H s){a:Addr}(h:s.heap.objs.size≤a):a∉X.fs:=fun hb=>by
 obtain⟨_,o,ho,_⟩:=I.ok.gW.mem hb
 exact absurd (Nat.lt_of_lt_of_le (Heap.lt_size ho) (Nat.le_trans I.sz h)) (Nat.lt_irrefl _)
theorem Inv.cne(I:Inv X pins σ H s):∀x c,X.env.cells.lookup x=some c→c≠X.env.locals:=fun x c e z=>by
 obtain⟨v,o,ho,hd⟩:=I.cell x c e
 obtain⟨m,⟨o',es,ep,ho',hd',_⟩,_⟩:=I.loc
 rw[z,ho']at ho;cases ho;rw[hd']at hd;cases hd
theorem Inv.gW(I:Inv X pins σ H s):s.heap.FunFrames X.base X.outer:=by
 have all:∀(l:List Env),(∀b∈frs l,b∈X.fs)→X.s₀.heap.FunFrames X.base l→s.heap.FunFrames X.base l:=by
  intro l
  induction l with
  |nil=>intro _ _;trivial
  | cons env r ih =>
   intro hs hl
   obtain⟨hk,⟨L,o,hf,hn,ho,hd⟩,hr⟩:=hl
   have hL:L∈X.fs:=hs L (by unfold frs;rw[List.filterMap_cons,hf];exact List.mem_cons_self)
   obtain⟨sl,e⟩:=I.base.slot L o ho (I.ok.frf L hL) hL fun z=>I.ok.n8 L z hL
   exact⟨hk,⟨L,_,hf,hn,e,hd⟩,ih (fun b hb=>hs b (by unfold frs;rw[List.filterMap_cons,hf];exact List.mem_cons_of_mem _ hb)) hr⟩
 exact all X.outer (fun _ hb=>hb) I.ok.gW
theorem Inv.stack(I:Inv X pins σ H s):s.heap.FunFrames X.base X.stack:=by
 rcases I.ok.stk with e|⟨e,hf⟩
 ·rw[e];exact I.gW
 ·rw[e]
  obtain⟨m,hn,_⟩:=I.loc
  refine .cons (by rw[I.ok.kind];decide) hf hn ?_ I.gW
  exact Heap.get?_none_of_le (Nat.le_trans I.ok.bsz I.ok.above)
theorem Inv.mq(I:Inv X pins σ H s):∀b∈frs X.stack,b∈X.env.locals::X.fs:=fun b hb=>by
 rcases I.ok.stk with e|⟨e,hf⟩
 ·rw[e]at hb;exact List.mem_cons_of_mem _ hb
 ·rw[e]at hb
  unfold frs at hb
  rw[List.filterMap_cons,hf]at hb
  exact hb
theorem Inv.nH(I:Inv X pins σ H s):∀b∈frs X.stack,H b=none:=fun b hb=>by
 rcases List.mem_cons.mp (I.mq b hb)with e|hb
 ·rw[e];exact I.free
 ·obtain⟨_,o,ho,_⟩:=I.ok.gW.mem hb
  exact I.base.free b o ho (I.ok.frf b hb) fun z=>I.ok.n8 b z hb
theorem Inv.step{g':Array GenState}{t':Nat}{d':Drawn}{ch:List Addr}(I:Inv X pins σ H s)
  (hch:∀b∈ch,(b∈X.ex∨X.s₀.heap.objs.size≤b)∧b≠X.env.locals∧(∀x c,X.env.cells.lookup x=some c→c≠b)∧∀p∈X.pn++pins,p.1≠b)
  (keep:∀b o,b≠X.env.locals→b∉X.fs→b∉ch→s.heap.get? b=some o→H b=none→h'.get? b=some o)
  (slot:∀b o,b≠X.env.locals→b∈X.fs→b∉ch→s.heap.get? b=some o→H b=none→∃sl,h'.get? b=some {o with slots:=sl}) (free:∀b o,b∉ch→s.heap.get? b=some o→H b=none→H' b=none)
  (there:∀b o,b∉ch→s.heap.get? b=some o→∃o',h'.get? b=some o')
  (tups:∀b xs,H b=some (.tup xs)→H' b=some (.tup xs)) (fW:∀b o u,H b=some (.frz o u)→H' b=some (.frz o u)) (gU:∀b ps,H b=some (.tbl ps)→∃more,H' b=some (.tbl (ps++more)))
  (ns:∀m,s.heap.Ns X.env.locals m→h'.Ns X.env.locals m) (hok:HOk X.prog X.w H' h') (hg:AllBare g') :
  Inv X pins σ H' {s with heap:=h',gens:=g',drawn:=d',toks:=t'}:=by
 have neL:∀b o,X.s₀.heap.get? b=some o→b≠X.env.locals:=fun b o e=>Nat.ne_of_lt (Nat.lt_of_lt_of_le (Heap.lt_size e) I.ok.above)
 have neC:∀b o,X.s₀.heap.get? b=some o→b∉X.ex→b∉ch:=fun b o e hx hb=>by
  rcases(hch b hb).1 with z|z
  ·exact hx z
  ·exact absurd (Nat.lt_of_lt_of_le (Heap.lt_size e) z) (Nat.lt_irrefl _)
 have cellK:∀x c,X.env.cells.lookup x=some c→∀v,s.heap.IsCell c v→h'.IsCell c v:=fun x c e v ⟨o,ho,hd⟩=>by
  have nch:c∉ch:=fun z=>(hch c z).2.2.1 x c e rfl
  by_cases hc:c∈X.fs
  ·obtain⟨sl,q⟩:=slot c o (I.cne x c e) hc nch ho (I.cZ x c e)
   exact⟨_,q,hd⟩
  ·exact⟨o,keep c o (I.cne x c e) hc nch ho (I.cZ x c e),hd⟩
 refine⟨I.ok,I.os,hg,⟨fun b o e n hb hx=>?_,fun b o e n hb hx=>?_,fun b o e n hx=>?_,fun b o e hx=>?_,fun b xs e=>tups b xs (I.base.tups b xs e),fun b o xs e=>fW b o xs (I.base.fW b o xs e),fun b ps e=>?_⟩,?_,fun x c e=>?_,?_,fun x c e=>?_,fun p hp=>?_,hok,I.len⟩
 ·exact keep b o (neL b o e) hb (neC b o e hx) (I.base.keep b o e n hb hx) (I.base.free b o e n hx)
 ·obtain⟨sl,e1⟩:=I.base.slot b o e n hb hx
  obtain⟨sl',e2⟩:=slot b _ (neL b o e) hb (neC b o e hx) e1 (I.base.free b o e n hx)
  exact⟨sl',e2⟩
 ·obtain⟨o',e1⟩:=I.base.there b o e hx
  exact free b o' (neC b o e hx) e1 (I.base.free b o e n hx)
 ·obtain⟨o',e1⟩:=I.base.there b o e hx
  exact there b o' (neC b o e hx) e1
 ·obtain⟨m1,e1⟩:=I.base.gU b ps e
  obtain⟨m2,e2⟩:=gU b _ e1
  exact⟨m1++m2,by rw[e2,Array.append_assoc]⟩
 ·obtain⟨m,hn,hl⟩:=I.loc
  refine⟨m,ns m hn,fun i x v e1 e2 e3=>?_⟩
  obtain⟨u,r,l⟩:=hl i x v e1 e2 e3
  refine⟨u,r,?_⟩
  rcases l with l|⟨k,c,e,z⟩
  ·exact .inl l
  ·exact .inr ⟨k,c,e,cellK x c e _ z⟩
 ·obtain⟨v,z⟩:=I.cell x c e
  exact⟨v,cellK x c e v z⟩
 ·obtain⟨m,⟨o,_,_,ho,_⟩,_⟩:=I.loc
  exact free _ o (fun z=>(hch _ z).2.1 rfl) ho I.free
 ·obtain⟨v,o,ho,hd⟩:=I.cell x c e
  exact free c o (fun z=>(hch c z).2.2.1 x c e rfl) ho (I.cZ x c e)
 ·obtain⟨e,n,ne,nf,d⟩:=I.pin p hp
  have nch:p.1∉ch:=fun z=>(hch p.1 z).2.2.2 p hp rfl
  exact⟨keep p.1 p.2 ne nf nch e n,free p.1 p.2 nch e n,ne,nf,d⟩
theorem Inv.un{t':Nat}(I:Inv X pins σ H s)(u:Un X.fs [] H H' s.heap h')(hok:HOk X.prog X.w H' h'):Inv X pins σ H' {s with heap:=h',toks:=t'}:=by
 obtain⟨m,⟨o,es,ep,ho,r⟩,_⟩:=id I.loc
 obtain⟨sl,hL⟩:=u.any ho I.free (by simp)
 exact I.step (g':=s.gens) (d':=s.drawn) (ch:=[]) (fun _ z=>nomatch z) (fun b o _ hb _ e n=>u.keep b o e n hb (by simp)) (fun b o _ hb _ e n=>u.slot b o e n hb (by simp)) (fun b o _ e n=>u.free b o e n (by simp)) (fun b o _ e=>u.there b o e (by simp)) u.tups u.fW u.gU (fun m' hm=>by
  obtain⟨o',es',ep',ho',r'⟩:=hm
  rw[ho]at ho';cases ho'
  exact⟨_,es',ep',hL,r'⟩) hok I.bare
theorem Inv.call{g':Array GenState}{t':Nat}{d':Drawn}{ch:List Addr}(I:Inv X pins σ H s)(u:Un (frs X.stack) ch H H' s.heap h')(hok:HOk X.prog X.w H' h')(hg:AllBare g')
  (hch:∀b∈ch,(b∈X.ex∨X.s₀.heap.objs.size≤b)∧b≠X.env.locals∧(∀x c,X.env.cells.lookup x=some c→c≠b)∧∀p∈X.pn++pins,p.1≠b) :
  Inv X pins σ H' {s with heap:=h',gens:=g',drawn:=d',toks:=t'}:=by
 obtain⟨m,⟨o,es,ep,ho,r⟩,_⟩:=id I.loc
 obtain⟨sl,hL⟩:=u.any ho I.free fun z=>(hch _ z).2.1 rfl
 exact I.step (ch:=ch) hch (fun b o hL hb hc e n=>u.keep b o e n (fun z=>(List.mem_cons.mp (I.mq b z)).elim hL hb) hc) (fun b o _ _ hc e n=>u.any e n hc) (fun b o hc e n=>u.free b o e n hc) (fun b o hc e=>u.there b o e hc) u.tups u.fW u.gU (fun m' hm=>by
  obtain⟨o',es',ep',ho',r'⟩:=hm
  rw[ho]at ho';cases ho'
  exact⟨_,es',ep',hL,r'⟩) hok hg
theorem Inv.turned{t':Nat}{it:Addr}(I:Inv X pins σ H s)(k:∀b o,b≠it→s.heap.get? b=some o→h'.get? b=some o)(hn:H it=none)(hL:it≠X.env.locals)
  (h1:it∈X.ex∨X.s₀.heap.objs.size≤it) (h2:∀x c,X.env.cells.lookup x=some c→c≠it) (h3:∀p∈X.pn++pins,p.1≠it):Inv X pins σ H {s with heap:=h',toks:=t'}:=by
 have nit:∀b u,H b=some u→b≠it:=fun b u e z=>by rw[z,hn]at e;cases e
 refine I.step (g':=s.gens) (d':=s.drawn) (ch:=[it]) (fun b hb=>?_) (fun b o _ _ hc e _=>k b o (fun z=>hc (by simp[z])) e) (fun b o _ _ hc e _=>⟨o.slots,k b o (fun z=>hc (by simp[z])) e⟩) (fun _ _ _ _ n=>n)
  (fun b o hc e=>⟨o,k b o (fun z=>hc (by simp[z])) e⟩) (fun _ _ e=>e) (fun _ _ _ e=>e) (fun b ps e=>⟨#[],by rw[e];simp⟩) (fun m hm=>?_) (fun b u e=>?_) I.bare
 ·have e:b=it:=by simpa using hb
  subst e
  exact⟨h1,hL,h2,h3⟩
 ·obtain⟨o,es,ep,ho,r⟩:=hm
  exact⟨o,es,ep,k _ o (Ne.symm hL) ho,r⟩
 ·refine(I.hok b u e).stay (fun c v hc q=>k c v ?_ q) (fun _ q=>q) fun _ _ q=>q
  rcases hc with z|z
  ·rw[z];exact nit b u e
  ·exact nit c _ z
theorem Inv.tok(I:Inv X pins σ H s)(t:Nat):Inv X pins σ H {s with toks:=t}:=I.un (h':=s.heap) (t':=t) Un.refl I.hok
theorem Inv.kept{t':Nat}(I:Inv X pins σ H s)(k:∀b u,s.heap.get? b=some u→h'.get? b=some u):Inv X pins σ H {s with heap:=h',toks:=t'}:=I.un (Un.kept k) (I.hok.kept k)
theorem Inv.laid{a:Addr}{o:HO}{t':Nat}(I:Inv X pins σ H s)(k:∀b u,s.heap.get? b=some u→h'.get? b=some u)(hp:s.heap.objs.size≤a)(new:GQ X.prog X.w (upd H a o) h' a o) :
  Inv X pins σ (upd H a o) {s with heap:=h',toks:=t'}:=I.un (Un.laid k hp (I.hok.fresh hp)) (I.hok.laid k hp new)
theorem Inv.write{x e:Addr}{o:HO}{t':Nat}(I:Inv X pins σ H s)(mu:Mut (H x))(he:e=x∨H e=some (.own x))(k:∀b u,b≠e→s.heap.get? b=some u→h'.get? b=some u)(heo:∃u,h'.get? e=some u)
  (new:GQ X.prog X.w (upd H x o) h' x o):Inv X pins σ (upd H x o) {s with heap:=h',toks:=t'}:=I.un (Un.write mu he k heo) (I.hok.write mu he k heo new)
theorem Inv.nJ{qF:List (Addr×Obj)}(I:Inv X pins σ H s)(h:∀p∈qF,s.heap.get? p.1=some p.2∧H p.1=none∧p.1≠X.env.locals∧p.1∉X.fs∧∀v,p.2.data≠.cell v):Inv X qF σ H s :=
 ⟨I.ok,I.os,I.bare,I.base,I.loc,I.cell,I.free,I.cZ,fun p hp=>(List.mem_append.mp hp).elim (fun z=>I.pin p (List.mem_append_left _ z)) (h p),I.hok,I.len⟩
theorem Wu{N:List Str}(hN:N.Nodup){i j:Nat}{x:Str}(a:N[i]? = some x)(b:N[j]? = some x):i=j:=by
 obtain⟨h1,e1⟩:=List.getElem?_eq_some_iff.mp a
 obtain⟨h2,e2⟩:=List.getElem?_eq_some_iff.mp b
 exact(List.getElem_inj hN).mp (e1.trans e2.symm)
theorem Tj{M:Model}{A:Around}{E:Value→Shared→Prop}{i:Nat}{x:Str}{v:V}{u:Value}{Q:Unit→Shared→Prop}(I:Inv X pins σ H s)(hN:X.N.Nodup)(hi:X.N[i]? = some x)(hx:Loc X.env.scope x)(r:RelV v u)
  (h:∀s',Inv X pins (σ.set i (some v)) H s'→(∃a,Heap.SameBut a s.heap s'.heap∧(a=X.env.locals∨X.env.cells.lookup x=some a))→Q () s') (hf:X.fn x=true∨X.env.scope.names.lookup x=some .local:=by first|exact .inl rfl|exact .inr rfl|assumption):wpAny M A (storeName X.env x u) Q E s:=by
 obtain⟨m,hn,hl⟩:=id I.loc
 have hcls:(X.env.scope.kind == .class||(X.env.scope.kind == .module&&X.env.locals != X.env.globals))=false:=by rw[I.ok.kind];rfl
 have hiσ:i<σ.length:=by rw[I.len];exact(List.getElem?_eq_some_iff.mp hi).1
 have cne:=I.cne
 have tracked:∀{a:Addr} {h':Heap},(∃o,s.heap.get? a=some o∧H a=none)→Heap.SameBut a s.heap h'→HOk X.prog X.w H h':=fun{a h'} ha hs b ob e=>by
  obtain⟨_,_,hfree⟩:=ha
  refine(I.hok b ob e).stay (fun c w' hc q=>(hs.2 c ?_).trans q) (fun _ q=>q) fun _ _ q=>q
  rintro rfl
  rcases hc with rfl|hc
  ·rw[hfree]at e;cases e
  ·rw[hfree]at hc;cases hc
 rcases hx with hk|hk
 ·refine wpAny_storeName_local hk hn (fun h' hn' hs=>?_) hcls
  obtain⟨oL,_,_,hoL,_⟩:=id hn
  refine h _ ⟨I.ok,I.os,I.bare,⟨fun b o e n hb hx=>?_,fun b o e n hb hx=>?_,I.base.free,fun b o e hx=>?_,I.base.tups,I.base.fW,I.base.gU⟩,⟨_,hn',fun j y v' e1 e2 e3=>?_⟩,fun y c e=>?_,I.free,I.cZ,fun p hp=>?_,tracked ⟨oL,hoL,I.free⟩ hs,by simpa using I.len⟩ ⟨_,hs,.inl rfl⟩
  ·exact(hs.2 b (Nat.ne_of_lt (Nat.lt_of_lt_of_le (Heap.lt_size e) I.ok.above))).trans (I.base.keep b o e n hb hx)
  ·obtain⟨sl,e1⟩:=I.base.slot b o e n hb hx
   exact⟨sl,(hs.2 b (Nat.ne_of_lt (Nat.lt_of_lt_of_le (Heap.lt_size e) I.ok.above))).trans e1⟩
  ·obtain⟨o',e1⟩:=I.base.there b o e hx
   exact⟨o',(hs.2 b (Nat.ne_of_lt (Nat.lt_of_lt_of_le (Heap.lt_size e) I.ok.above))).trans e1⟩
  ·by_cases hj:j=i
   ·subst hj
    rw[hi]at e1;cases e1
    rw[List.getElem?_set_self hiσ]at e2
    cases e2
    exact⟨u,r,.inl ⟨hk,by simp⟩⟩
   ·rw[List.getElem?_set_ne (Ne.symm hj)]at e2
    obtain⟨u',r',q⟩:=hl j y v' e1 e2 e3
    refine⟨u',r',?_⟩
    rcases q with⟨k,e⟩|⟨k,c,e,z⟩
    ·refine .inl ⟨k,?_⟩
     have:y≠x:=fun e=>hj (Wu hN e1 (e ▸ hi))
     simp[this,e]
    ·exact .inr ⟨k,c,e,z.sameBut hs (cne y c e)⟩
  ·obtain⟨w',z⟩:=I.cell y c e
   exact⟨w',z.sameBut hs (cne y c e)⟩
  ·obtain⟨e,n,ne,nf,d⟩:=I.pin p hp
   exact⟨(hs.2 p.1 ne).trans e,n,ne,nf,d⟩
 ·have hfn:X.fn x=true:=by
   rcases hf with z|z
   ·exact z
   ·rw[z]at hk;cases hk
  obtain⟨c,hc⟩:=I.ok.has x (.inl hk)
  obtain⟨w',z⟩:=I.cell x c hc
  refine wpAny_storeName_cell I.ok.kind hk hc z (fun h' hc' hs=>?_)
  obtain⟨oc,hoc,rW⟩:=id z
  refine h {s with heap:=h'} ⟨I.ok,I.os,I.bare,⟨fun b o e n hb hx=>?_,fun b o e n hb hx=>?_,I.base.free,fun b o e hx=>?_,I.base.tups,I.base.fW,I.base.gU⟩,⟨m,hn.sameBut hs (Ne.symm (cne x c hc)),fun j y v' e1 e2 e3=>?_⟩,fun y c' e=>?_,I.free,I.cZ,fun p hp=>?_,tracked ⟨oc,hoc,I.cZ x c hc⟩ hs,by simpa using I.len⟩ ⟨c,hs,.inr hc⟩
  ·exact(hs.2 b (Nat.ne_of_lt (Nat.lt_of_lt_of_le (Heap.lt_size e) (I.ok.cab x c hfn hc)))).trans (I.base.keep b o e n hb hx)
  ·obtain⟨sl,e1⟩:=I.base.slot b o e n hb hx
   exact⟨sl,(hs.2 b (Nat.ne_of_lt (Nat.lt_of_lt_of_le (Heap.lt_size e) (I.ok.cab x c hfn hc)))).trans e1⟩
  ·obtain⟨o',e1⟩:=I.base.there b o e hx
   exact⟨o',(hs.2 b (Nat.ne_of_lt (Nat.lt_of_lt_of_le (Heap.lt_size e) (I.ok.cab x c hfn hc)))).trans e1⟩
  ·by_cases hj:j=i
   ·subst hj
    rw[hi]at e1;cases e1
    rw[List.getElem?_set_self hiσ]at e2
    cases e2
    exact⟨u,r,.inr ⟨.inl hk,c,hc,hc'⟩⟩
   ·rw[List.getElem?_set_ne (Ne.symm hj)]at e2
    obtain⟨u',r',q⟩:=hl j y v' e1 e2 e3
    refine⟨u',r',?_⟩
    rcases q with q|⟨k,c',e,z'⟩
    ·exact .inl q
    ·refine .inr ⟨k,c',e,z'.sameBut hs ?_⟩
     rintro rfl
     exact hj (Wu hN e1 (I.ok.inj _ _ _ e hc ▸ hi))
  ·by_cases hcc:c'=c
   ·subst hcc;exact⟨_,hc'⟩
   ·obtain⟨w2,z2⟩:=I.cell y c' e
    exact⟨w2,z2.sameBut hs hcc⟩
  ·obtain⟨e,n,ne,nf,d⟩:=I.pin p hp
   refine⟨(hs.2 p.1 ?_).trans e,n,ne,nf,d⟩
   intro q
   rw[q,hoc]at e
   have q':oc=p.2:=Option.some.inj e
   exact d w' (by rw[←q'];exact rW)
theorem Ig{M:Model}{A:Around}{E:Value→Shared→Prop}{i:Nat}{x:Str}{v:V}{u:Value}{Q:Unit→Shared→Prop}(I:Inv X pins σ H s)(hN:X.N.Nodup)(hi:X.N[i]? = some x)(hx:Loc X.env.scope x)(r:RelV v u)
  (h:∀s',Inv X pins (σ.set i (some v)) H s'→Q () s') (hf:X.fn x=true∨X.env.scope.names.lookup x=some .local:=by first|exact .inl rfl|exact .inr rfl|assumption):wpAny M A (storeName X.env x u) Q E s :=
 Tj I hN hi hx r (fun s' I' _=>h s' I') hf
theorem Inv.call'{s':Shared}{ch:List Addr}(I:Inv X pins σ H s)(ho:s'.os=s.os)(u:Un (frs X.stack) ch H H' s.heap s'.heap)(hok:HOk X.prog X.w H' s'.heap)(hg:AllBare s'.gens)
  (hch:∀b∈ch,(b∈X.ex∨X.s₀.heap.objs.size≤b)∧b≠X.env.locals∧(∀x c,X.env.cells.lookup x=some c→c≠b)∧∀p∈X.pn++pins,p.1≠b):Inv X pins σ H' s':=by
 obtain⟨h',g',d',t',o'⟩:=s'
 have e:o'=s.os:=ho
 subst e
 exact I.call (g':=g') (t':=t') (d':=d') u hok hg hch
end
abbrev XK:=Value→Option Addr→Hp→Prop
abbrev St:=List (Option V)
abbrev VK:=V→Hp→Prop
abbrev TE:=St→Hp→VK→Prop
abbrev TT:=St→Hp→(Bool→Hp→Prop)→Prop
abbrev TA:=St→Hp→(List V→Hp→Prop)→Prop
structure Ends where
 nx:St→Hp→Prop
 rt:VK
 bk:St→Hp→Prop:=fun _ _=>False
 ct:St→Hp→Prop:=fun _ _=>False
abbrev TS:=Ends→St→Hp→Prop
def EP(X:Cx)(pins:List (Addr×Obj))(σ:St)(Q:VK)(u:Value)(s':Shared):Prop:=∃v H',Inv X pins σ H' s'∧RelV v u∧Q v H'
def TP(X:Cx)(pins:List (Addr×Obj))(σ:St)(Q:Bool→Hp→Prop)(b:Bool)(s':Shared):Prop:=∃H',Inv X pins σ H' s'∧Q b H'
def AP(X:Cx)(pins:List (Addr×Obj))(σ:St)(Q:List V→Hp→Prop)(us:List Value)(s':Shared):Prop:=∃vs H',Inv X pins σ H' s'∧Vals vs us∧Q vs H'
def SP(X:Cx)(pins:List (Addr×Obj))(D:Ends)(f:Flow)(s':Shared):Prop :=
 match f with
 |.next=>∃σ' H',Inv X pins σ' H' s'∧D.nx σ' H'
 |.brk=>∃σ' H',Inv X pins σ' H' s'∧D.bk σ' H'
 |.cont=>∃σ' H',Inv X pins σ' H' s'∧D.ct σ' H'
 |.ret u=>∃v σ' H',Inv X pins σ' H' s'∧RelV v u∧D.rt v H'
def PE(X:Cx)(e:Expr)(t:TE):Prop :=
 ∀(pins:List (Addr×Obj))(s:Shared)(σ:St)(H:Hp)(Q:VK),Inv X pins σ H s→t σ H Q→wpAny (model X.prog X.w) X.A (eval e X.env) (EP X pins σ Q) X.xe s
def PT(X:Cx)(e:Expr)(t:TT):Prop :=
 ∀(pins:List (Addr×Obj))(s:Shared)(σ:St)(H:Hp)(Q:Bool→Hp→Prop),Inv X pins σ H s→t σ H Q→wpAny (model X.prog X.w) X.A (isTrue e X.env (eval e X.env)) (TP X pins σ Q) X.xe s
def PW(X:Cx)(e:Expr)(t:TT):Prop :=
 ∀(whole:Sem Value)(pins:List (Addr×Obj))(s:Shared)(σ:St)(H:Hp)(Q:Bool→Hp→Prop),Inv X pins σ H s→t σ H Q→wpAny (model X.prog X.w) X.A (isTrue e X.env whole) (TP X pins σ Q) X.xe s
theorem PW.pt{X:Cx}{e:Expr}{t:TT}(h:PW X e t):PT X e t:=h _
def PA(X:Cx)(es:List Expr)(t:TA):Prop :=
 ∀(pos:Pos)(pins:List (Addr×Obj))(s:Shared)(σ:St)(H:Hp)(Q:List V→Hp→Prop),Inv X pins σ H s→t σ H Q→wpAny (model X.prog X.w) X.A (spliced (backTo pos (starEach es X.env))) (AP X pins σ Q) X.xe s
def PS(X:Cx)(st:Stmt)(t:TS):Prop :=
 ∀(pins:List (Addr×Obj))(s:Shared)(σ:St)(H:Hp)(D:Ends),Inv X pins σ H s→t D σ H→wpAny (model X.prog X.w) X.A (exec st X.env) (SP X pins D) X.xe s
def PSs(X:Cx)(st:List Stmt)(t:TS):Prop :=
 ∀(pins:List (Addr×Obj))(s:Shared)(σ:St)(H:Hp)(D:Ends),Inv X pins σ H s→t D σ H→wpAny (model X.prog X.w) X.A (execs st X.env) (SP X pins D) X.xe s
theorem thn{α:Type}{t:Sem α}{Q Q':α→Shared→Prop}{M:Model}{A:Around}{E:Value→Shared→Prop}{s:Shared}(h:wpAny M A t Q E s)(hQ:∀a s,Q a s→Q' a s):wpAny M A t Q' E s:=wpAny_mono h hQ fun _ _ x=>x
section
variable{X:Cx}
theorem bin{a b:Expr}{ta tb:TE}(ha:PE X a ta)(hb:PE X b tb){pins:List (Addr×Obj)}{s:Shared}{σ:St}{H:Hp}{R:V→V→Hp→Prop}(I:Inv X pins σ H s)(h:ta σ H fun x H1=>tb σ H1 fun y H2=>R x y H2)
  {α:Type} {Q:α→Shared→Prop} {f:Value→Value→Sem α}
  (hf:∀v u s2 x y H2,Inv X pins σ H2 s2→RelV x v→RelV y u→R x y H2→wpAny (model X.prog X.w) X.A (f v u) Q X.xe s2) :
  wpAny (model X.prog X.w) X.A (eval a X.env) (fun v s₁=>wpAny (model X.prog X.w) X.A (eval b X.env) (fun u s₂=>wpAny (model X.prog X.w) X.A (f v u) Q X.xe s₂) X.xe s₁) X.xe s:=by
 refine thn (ha pins s σ H _ I h) fun v s1 ⟨x,H1,I1,r1,q1⟩=>?_
 refine thn (hb pins s1 σ H1 _ I1 q1) fun u s2 ⟨y,H2,I2,r2,q2⟩=>?_
 exact hf v u s2 x y H2 I2 r1 r2 q2
def AnM(i:Nat):TE:=fun σ H Q=>∃v,σ[i]? = some (some v)∧Q v H
def tC(v:V):TE:=fun _ H Q=>Q v H
theorem Io{i:Nat}{x:Str}{pos:Pos}(hN:X.N[i]? = some x)(hv:Vis X.env.scope x)(hd:(x==("__debug__":Str))=false:=by decide)(hcd:(x==("__classdict__":Str))=false:=by decide):PE X (.Name x pos) (AnM i):=by
 intro pins s σ H Q I h
 obtain⟨v,e,h⟩:=h
 obtain⟨m,hn,hl⟩:=I.loc
 obtain⟨u,r,l⟩:=hl i x v hN e hv
 have fin:EP X pins σ Q u s:=⟨v,H,I,r,h⟩
 rcases l with⟨hk,hm⟩|⟨hk,c,hc,hcell⟩
 ·exact wpAny_Name (wpAny_loadName_local I.ok.kind hk hn hm fin) hd
 ·rcases hk with hk|hk
  ·exact wpAny_Name (wpAny_loadName_cell I.ok.kind hk hc hcell fin) hd
  ·exact wpAny_Name (wpAny_loadName_free I.ok.kind hk hc hcell fin hcd) hd
theorem AiP{i j pos}:PE X (.Constant (.int i) j pos) (tC (.int i)):=fun _ _ _ H _ I h=>wpAny_Constant_int ⟨.int i,H,I.tok _,⟨_,rfl⟩,h⟩
theorem Amk{b j pos}:PE X (.Constant (.bool b) j pos) (tC (.bl b)):=fun _ _ _ H _ I h=>Constant_bool ⟨.bl b,H,I,rfl,h⟩
theorem Ajs{j pos}:PE X (.Constant .none j pos) (tC .non):=fun _ _ _ H _ I h=>Constant_none ⟨.non,H,I,rfl,h⟩
theorem Ah0{x j pos}:PE X (.Constant (.str x) j pos) (tC (.str x)):=fun _ _ _ H _ I h=>Calls.Constant_str ⟨.str x,H,I.tok _,⟨_,rfl⟩,h⟩
def Gl(X:Cx)(x:Str):Prop:=X.env.kindOf x=some .globalImplicit
theorem Vk{E:Value→Shared→Prop}{pins:List (Addr×Obj)}{s:Shared}{σ:St}{H:Hp}{x:Str}{u:Value}{pos:Pos}{Q:Value→Shared→Prop}(I:Inv X pins σ H s)(hg:Gl X x)(hm:X.mg x=some u)(h:Q u s)
  (hd:(x==("__debug__":Str))=false:=by decide):wpAny (model X.prog X.w) X.A (eval (.Name x pos) X.env) Q E s :=
 Calls.Name_function_global I.ok.kind hg (Calls.loadGlobal_global (by rw[I.ok.glob];exact I.mod.glob.keeps I.bk) hm h) hd
theorem Rk{E:Value→Shared→Prop}{pins:List (Addr×Obj)}{s:Shared}{σ:St}{H:Hp}{x:Str}{u:Value}{pos:Pos}{Q:Value→Shared→Prop}(I:Inv X pins σ H s)(hg:Gl X x)(hm:X.mg x=none)(hv:bootBuiltins x=some u)(h:Q u s)
  (hn:x≠"__name__":=by decide) (hd:(x==("__debug__":Str))=false:=by decide):wpAny (model X.prog X.w) X.A (eval (.Name x pos) X.env) Q E s:=by
 obtain⟨mb,h1,h2⟩:=I.mod.blt
 exact Calls.Name_function_global I.ok.kind hg (Calls.loadGlobal_builtin (by rw[I.ok.glob];exact I.mod.glob.keeps I.bk) hm (by rw[I.ok.blt];exact h1.keeps I.bk) ((h2 x hn).trans hv) h) hd
theorem AaH{x:Str}{v:V}{u:Value}{pos:Pos}(hg:Gl X x)(hm:X.mg x=some u)(r:RelV v u)(hd:(x==("__debug__":Str))=false:=by decide):PE X (.Name x pos) (tC v) :=
 fun _ _ _ H _ I h=>Vk I hg hm ⟨v,H,I,r,h⟩ hd
theorem Af7{x:Str}{v:V}{u:Value}{pos:Pos}(hg:Gl X x)(hm:X.mg x=none)(hv:bootBuiltins x=some u)(r:RelV v u)(hn:x≠"__name__":=by decide)(hd:(x==("__debug__":Str))=false:=by decide):PE X (.Name x pos) (tC v) :=
 fun _ _ _ H _ I h=>Rk I hg hm hv ⟨v,H,I,r,h⟩ hn hd
variable{a b:Expr}{ta tb:TE}{pos:Pos}
def PC(X:Cx)(op:CmpOp)(a b:Expr)(t:TE):Prop :=
 ∀(pins:List (Addr×Obj))(s:Shared)(σ:St)(H:Hp)(Q:VK),Inv X pins σ H s→t σ H Q →
  wpAny (model X.prog X.w) X.A (eval a X.env) (fun v s₁=>wpAny (model X.prog X.w) X.A (eval b X.env) (fun u s₂=>wpAny (model X.prog X.w) X.A (compareOp op v u) (EP X pins σ Q) X.xe s₂) X.xe s₁) X.xe s
def tB(t:TE):TT:=fun σ H Q=>t σ H fun x H1=>∃c,x=.bl c∧Q c H1
theorem Aos{op:CmpOp}{t:TE}(h:PC X op a b t)(h1:behindInMarks op b=false:=by first | exact rB _ ⋯ ⋯ | rfl):PT X (.Compare a [op] [b] pos) (tB t):=by
 intro pins s σ H Q I hw
 refine wpAny_isTrue_Compare1 (thn (h pins s σ H _ I hw) fun v s1 h1=>thn h1 fun u s2 h2=>thn h2 fun c s3 ⟨x,H1,I1,r1,q1⟩=>?_) h1
 obtain⟨d,rfl,q⟩:=q1
 cases r1
 exact wpAny_truthy_bool ⟨H1,I1,q⟩
theorem Aif{e:Expr}{t:TE}(h:PE X e t)(he:∀whole,isTrue e X.env whole=(do let v ←whole;standAt e.pos;holding [v] (truthy v)):=by intro _;rfl):PT X e (tB t):=by
 intro pins s σ H Q I hw
 refine isTrue_plain (thn (h pins s σ H _ I hw) fun v s1 ⟨x,H1,I1,r1,q1⟩=>?_) (he _)
 obtain⟨d,rfl,q⟩:=q1
 cases r1
 exact wpAny_truthy_bool ⟨H1,I1,q⟩
variable{tA tB':TT}{rest:List Expr}
def AnU(t u:TT):TT:=fun σ H Q=>t σ H fun c H1=>if c=true then u σ H1 Q else Q false H1
def tOr(t u:TT):TT:=fun σ H Q=>t σ H fun c H1=>if c=true then Q true H1 else u σ H1 Q
def Aoi(t:TT):TT:=fun σ H Q=>t σ H fun c H1=>Q (!c) H1
theorem AgT(ha:PT X a tA):PW X (.BoolOp .And [a] pos) tA:=by
 intro wh pins s σ H Q I h
 refine isTrue_and (thn (ha pins s σ H Q I h) fun c s1 e=>?_)
 cases c with
 |true=>exact isTrue_and_nil e
 |false=>exact e
theorem Ajz(ha:PT X a tA):PW X (.BoolOp .Or [a] pos) tA:=by
 intro wh pins s σ H Q I h
 refine isTrue_or (thn (ha pins s σ H Q I h) fun c s1 e=>?_)
 cases c with
 |false=>exact isTrue_or_nil e
 |true=>exact e
theorem Aip(ha:PT X a tA)(hb:PW X (.BoolOp .And (b::rest) pos) tB'):PW X (.BoolOp .And (a::b::rest) pos) (AnU tA tB'):=by
 intro wh pins s σ H Q I h
 refine isTrue_and (thn (ha pins s σ H _ I h) fun c s1 ⟨H1,I1,q1⟩=>?_)
 cases c with
 |true=>exact hb wh pins s1 σ H1 Q I1 q1
 |false=>exact⟨H1,I1,q1⟩
theorem AlZ(ha:PT X a tA)(hb:PW X (.BoolOp .Or (b::rest) pos) tB'):PW X (.BoolOp .Or (a::b::rest) pos) (tOr tA tB'):=by
 intro wh pins s σ H Q I h
 refine isTrue_or (thn (ha pins s σ H _ I h) fun c s1 ⟨H1,I1,q1⟩=>?_)
 cases c with
 |true=>exact⟨H1,I1,q1⟩
 |false=>exact hb wh pins s1 σ H1 Q I1 q1
theorem Ai0(ha:PT X a tA):PT X (.UnaryOp .Not a pos) (Aoi tA):=by
 intro pins s σ H Q I h
 exact isTrue_not (ha pins s σ H (fun c H1=>Q (!c) H1) I h)
def Ak6(ta tb:TE):TE:=fun σ H Q=>ta σ H fun x H1=>∃c,x=.bl c∧if c=true then tb σ H1 Q else Q (.bl false) H1
def AnC(ta tb:TE):TE:=fun σ H Q=>ta σ H fun x H1=>∃c,x=.bl c∧if c=true then Q (.bl true) H1 else tb σ H1 Q
def AkS(ta:TE):TE:=fun σ H Q=>ta σ H fun x H1=>∃c,x=.bl c∧Q (.bl (!c)) H1
theorem AiD{op}{t:TE}(h:PE X a t):PE X (.BoolOp op [a] pos) t:=fun pins s σ H Q I hw=>BoolOp_one (h pins s σ H Q I hw)
theorem AjL(ha:PE X a ta)(hb:PE X (.BoolOp .And (b::rest) pos) tb):PE X (.BoolOp .And (a::b::rest) pos) (Ak6 ta tb):=by
 intro pins s σ H Q I h
 refine BoolOp_and (thn (ha pins s σ H _ I h) fun v s1 ⟨x,H1,I1,r1,q1⟩=>?_)
 obtain⟨c,rfl,q1⟩:=q1
 cases r1
 refine wpAny_truthy_bool ?_
 cases c with
 |true=>exact hb pins s1 σ H1 Q I1 q1
 |false=>exact⟨.bl false,H1,I1,rfl,q1⟩
theorem Ald(ha:PE X a ta)(hb:PE X (.BoolOp .Or (b::rest) pos) tb):PE X (.BoolOp .Or (a::b::rest) pos) (AnC ta tb):=by
 intro pins s σ H Q I h
 refine BoolOp_or (thn (ha pins s σ H _ I h) fun v s1 ⟨x,H1,I1,r1,q1⟩=>?_)
 obtain⟨c,rfl,q1⟩:=q1
 cases r1
 refine wpAny_truthy_bool ?_
 cases c with
 |false=>exact hb pins s1 σ H1 Q I1 q1
 |true=>exact⟨.bl true,H1,I1,rfl,q1⟩
theorem AiN(ha:PE X a ta):PE X (.UnaryOp .Not a pos) (AkS ta):=by
 intro pins s σ H Q I h
 refine UnaryOp_ (thn (ha pins s σ H _ I h) fun v s1 ⟨x,H1,I1,r1,q1⟩=>?_)
 obtain⟨c,rfl,q1⟩:=q1
 cases r1
 exact not_of (wpAny_truthy_bool ⟨.bl (!c),H1,I1,rfl,q1⟩)
end
def SqL(K:W.Frag)(H:Hp)(a:Addr)(xs:List V):Prop :=
 Rd H a (.lst xs) ∨
  ∃(o:Obj)(its:Array Value)(n:Nat),K.lookup a=some o∧o.cls=.type "list"∧o.dict=none∧o.data=.seq its n∧its.size≤sizeLine∧Vals xs its.toList
def SqT(K:W.Frag)(H:Hp)(a:Addr)(xs:List V):Prop :=
 Rd H a (.tup xs) ∨
  ∃(o:Obj)(its:Array Value)(n:Nat),K.lookup a=some o∧o.cls=.type "tuple"∧o.data=.seq its n∧its.size≤sizeLine∧Vals xs its.toList
def Aoy:Value→Option V
 |.none=>some .non
 |.bool b=>some (.bl b)
 |.int i _=>some (.int i)
 |.str x _=>some (.str x)
 |.bytes b _=>some (.byt b)
 |.float b _=>some (.flt b)
 |.ref a=>some (.ref a)
 |.type n=>some (.ty n)
 |_=>none
theorem RelV.abs{x:V}{u:Value}(r:RelV x u):Aoy u=some x:=by
 cases x with
 |non=>cases r;rfl
 |bl _=>cases r;rfl
 |int _=>obtain⟨t,rfl⟩:=r;rfl
 |str _=>obtain⟨t,rfl⟩:=r;rfl
 |byt _=>obtain⟨t,rfl⟩:=r;rfl
 |flt _=>obtain⟨t,rfl⟩:=r;rfl
 |ref _=>cases r;rfl
 |ty _=>cases r;rfl
theorem RelV.inj{x y:V}{u:Value}(r:RelV x u)(q:RelV y u):x=y:=Option.some.inj (r.abs.symm.trans q.abs)
theorem Vals.inj:∀{xs ys:List V} {us:List Value},Vals xs us→Vals ys us→xs=ys
 |_,_,_,.nil,.nil=>rfl
 |_,_,_,.cons r t,.cons r' t'=>by rw[r.inj r',Vals.inj t t']
section
variable{X:Cx}{pins:List (Addr×Obj)}{σ:St}{H:Hp}{s:Shared}{a:Addr}{xs ys:List V}
theorem SqL.of{K:W.Frag}(h:H a=some (.lst xs)):SqL K H a xs:=.inl (.inl h)
theorem SqT.of{K:W.Frag}(h:H a=some (.tup xs)):SqT K H a xs:=.inl (.inl h)
theorem Inv.list(I:Inv X pins σ H s)(h:SqL X.K H a xs):∃its:List Value,Vals xs its∧PlainL s.heap a its.toArray∧xs.length≤sizeLine:=by
 rcases h with h|⟨o,its,n,hk,hc,hd,hs,hz,r⟩
 ·obtain⟨z,its,n,r,e⟩:=h.ok I.hok
  exact⟨its,r,⟨_,n,e,rfl,rfl,rfl⟩,z⟩
 ·refine⟨its.toList,r,⟨o,n,I.kIn a o hk,hc,hd,by simpa using hs⟩,?_⟩
  have e:=r.length
  simp only[Array.length_toList]at e
  omega
theorem Inv.tuple(I:Inv X pins σ H s)(h:SqT X.K H a xs):∃its:List Value,Vals xs its∧IsTup s.heap a its.toArray∧xs.length≤sizeLine:=by
 rcases h with h|⟨o,its,n,hk,hc,hs,hz,r⟩
 ·obtain⟨z,its,r,p⟩:=h.ok I.hok
  exact⟨its,r,p,z⟩
 ·refine⟨its.toList,r,⟨o,I.kIn a o hk,hc,n,by simpa using hs⟩,?_⟩
  have e:=r.length
  simp only[Array.length_toList]at e
  omega
theorem Inv.pB(I:Inv X pins σ H s)(h:SqL X.K H a xs)(h':SqL X.K H a ys):xs=ys:=by
 obtain⟨its,r,⟨o,n,e,_,_,d⟩,_⟩:=I.list h
 obtain⟨its',r',⟨o',n',e',_,_,d'⟩,_⟩:=I.list h'
 rw[e]at e';cases e'
 rw[d]at d'
 injection d' with d1 _
 have:its=its':=by simpa using congrArg Array.toList d1
 subst this
 exact r.inj r'
theorem Inv.oh(I:Inv X pins σ H s)(h:SqT X.K H a xs)(h':SqT X.K H a ys):xs=ys:=by
 obtain⟨its,r,⟨o,e,_,n,d⟩,_⟩:=I.tuple h
 obtain⟨its',r',⟨o',e',_,n',d'⟩,_⟩:=I.tuple h'
 rw[e]at e';cases e'
 rw[d]at d'
 injection d' with d1 _
 have:its=its':=by simpa using congrArg Array.toList d1
 subst this
 exact r.inj r'
end
abbrev Cx.wish(X:Cx)(E:Value→Shared→Prop):Cx:={X with xe:=E}
abbrev Cx.nox(X:Cx):Cx:=X.wish fun _ _=>False
theorem Cx.Ok.wish{X:Cx}(ok:X.Ok)(E:Value→Shared→Prop):(X.wish E).Ok :=
 ⟨ok.mod,ok.kind,ok.glob,ok.blt,ok.above,ok.inj,ok.has,ok.cab,ok.hd,ok.frames,ok.stk,ok.exf,ok.bs,ok.bsz,ok.pA,ok.n8,ok.gW,ok.frf⟩
theorem Cx.Ok.cH{X:Cx}{E:Value→Shared→Prop}(ok:(X.wish E).Ok):X.Ok :=
 ⟨ok.mod,ok.kind,ok.glob,ok.blt,ok.above,ok.inj,ok.has,ok.cab,ok.hd,ok.frames,ok.stk,ok.exf,ok.bs,ok.bsz,ok.pA,ok.n8,ok.gW,ok.frf⟩
section
variable{X:Cx}{pins:List (Addr×Obj)}{σ:St}{H:Hp}{s:Shared}{E:Value→Shared→Prop}
theorem Inv.wish(I:Inv X pins σ H s)(E:Value→Shared→Prop):Inv (X.wish E) pins σ H s:=⟨I.ok.wish E,I.os,I.bare,I.base,I.loc,I.cell,I.free,I.cZ,I.pin,I.hok,I.len⟩
theorem Inv.cH(I:Inv (X.wish E) pins σ H s):Inv X pins σ H s:=⟨I.ok.cH,I.os,I.bare,I.base,I.loc,I.cell,I.free,I.cZ,I.pin,I.hok,I.len⟩
theorem SP.cH{D:Ends}{f:Flow}{s':Shared}(h:SP (X.wish E) pins D f s'):SP X pins D f s':=by
 cases f with
 |next=>obtain⟨σ',H',I,q⟩:=h;exact⟨σ',H',I.cH,q⟩
 |brk=>obtain⟨σ',H',I,q⟩:=h;exact⟨σ',H',I.cH,q⟩
 |cont=>obtain⟨σ',H',I,q⟩:=h;exact⟨σ',H',I.cH,q⟩
 |ret u=>obtain⟨v,σ',H',I,r,q⟩:=h;exact⟨v,σ',H',I.cH,r,q⟩
theorem PSs.nox{st:List Stmt}{t:TS}(h:PSs X.nox st t):PSs X st t:=fun pins s σ H D I hw =>
 wpAny_mono (h pins s σ H D (I.wish _) hw) (fun _ _ q=>q.cH) fun _ _ z=>False.elim z
end
section
variable{X:Cx}{st:Stmt}{rest:List Stmt}{t u:TS}{e:Expr}{te:TE}{pos:Pos}
def Ak1:TS:=fun D σ H=>D.nx σ H
def AoZ(t u:TS):TS:=fun D σ H=>t {D with nx:=u D} σ H
theorem AgY:PSs X [] Ak1:=fun _ _ σ H _ I h=>wpAny_execs_nil ⟨σ,H,I,h⟩
theorem Ru(h1:PS X st t)(h2:PSs X rest u):PSs X (st::rest) (AoZ t u):=by
 intro pins s σ H D I h
 refine wpAny_execs_cons (thn (h1 pins s σ H {D with nx:=u D} I h) fun f s1 q=>?_)
 cases f with
 | next =>
  obtain⟨σ',H',I',q⟩:=q
  exact h2 pins s1 σ' H' D I' q
 |ret v=>exact q
 |brk=>exact q
 |cont=>exact q
theorem U4(h1:PS X st t):PSs X [st] t:=by
 intro pins s σ H D I h
 refine wpAny_execs_cons (thn (h1 pins s σ H D I h) fun f s1 q=>?_)
 cases f with
 |next=>exact wpAny_execs_nil q
 |ret v=>exact q
 |brk=>exact q
 |cont=>exact q
theorem Inv.quiet{pins:List (Addr×Obj)}{σ:St}{H:Hp}{s:Shared}(I:Inv X pins σ H s):interactive X.env=false:=by simp[interactive,I.ok.kind]
def Akn(te:TE):TS:=fun D σ H=>te σ H fun _ H1=>D.nx σ H1
theorem M8(he:PE X e te)(hs:swapsWith e none pos.line X.env=pure false:=by rfl):PS X (.Expr e pos) (Akn te):=by
 intro pins s σ H D I h
 exact wpAny_Expr_any (thn (he pins s σ H _ I h) fun v s1 ⟨x,H1,I1,r1,q1⟩=>⟨σ,H1,I1,q1⟩) I.quiet hs
def Ao9(te:TE):TS:=fun D σ H=>te σ H D.rt
theorem Aje(he:PE X e te):PS X (.Return (some e) pos) (Ao9 te):=by
 intro pins s σ H D I h
 exact wpAny_Return_some (thn (he pins s σ H _ I h) fun v s1 ⟨x,H1,I1,r1,q1⟩=>⟨x,σ,H1,I1,r1,q1⟩)
def Ant(c:TT)(t u:TS):TS:=fun D σ H=>c σ H fun b H1=>if b=true then t D σ H1 else u D σ H1
theorem AkP{c:Expr}{a b:List Stmt}{tc:TT}(hc:PT X c tc)(ha:PSs X a t)(hb:PSs X b u):PS X (.If c a b pos) (Ant tc t u):=by
 intro pins s σ H D I h
 refine wpAny_If (thn (hc pins s σ H _ I h) fun d s1 ⟨H1,I1,q1⟩=>?_)
 cases d with
 |true=>exact ha pins s1 σ H1 D I1 q1
 |false=>exact hb pins s1 σ H1 D I1 q1
def Aja:TS:=fun _ _ _=>False
theorem AcU:PS X st Aja:=fun _ _ _ _ _ _ h=>h.elim
end
abbrev TG:=V→St→Hp→(St→Hp→Prop)→Prop
abbrev TGs:=List V→St→Hp→(St→Hp→Prop)→Prop
def PG(X:Cx)(target:Expr)(t:TG):Prop :=
 ∀(pins:List (Addr×Obj))(s:Shared)(σ:St)(H:Hp)(v:V)(u:Value)(Q:St→Hp→Prop),Inv X pins σ H s→RelV v u→t v σ H Q →
  wpAny (model X.prog X.w) X.A (assign target X.env u) (fun _ s'=>∃σ' H',Inv X pins σ' H' s'∧Q σ' H') X.xe s
def PGs(X:Cx)(ts:List Expr)(t:TGs):Prop :=
 ∀(pins:List (Addr×Obj))(s:Shared)(σ:St)(H:Hp)(vs:List V)(us:List Value)(Q:St→Hp→Prop),Inv X pins σ H s→Vals vs us→t vs σ H Q →
  wpAny (model X.prog X.w) X.A (assignInOrder ((assignEach ts X.env).map (·.2)) us) (fun _ s'=>∃σ' H',Inv X pins σ' H' s'∧Q σ' H') X.xe s
section
variable{X:Cx}{pos:Pos}
def Aaq(i:Nat):TG:=fun v σ H Q=>Q (σ.set i (some v)) H
theorem U6{i:Nat}{x:Str}(hN:X.N.Nodup)(hi:X.N[i]? = some x)(hx:Loc X.env.scope x)(hf:X.fn x=true∨X.env.scope.names.lookup x=some .local:=by first | exact .inl rfl | exact .inr rfl | assumption):PG X (.Name x pos) (Aaq i):=by
 intro pins s σ H v u Q I r h
 exact wpAny_assign_Name (Ig I hN hi hx r (fun s' I'=>⟨_,H,I',h⟩) hf)
def Aph:TGs:=fun vs σ H Q=>vs=[]∧Q σ H
def Akg(t:TG)(u:TGs):TGs:=fun vs σ H Q=>∃v r,vs=v::r∧t v σ H fun σ' H'=>u r σ' H' Q
theorem Ae9:PGs X [] Aph:=by
 intro pins s σ H vs us Q I r h
 obtain⟨e,h⟩:=h
 subst e
 cases r
 exact assignInOrder_nil ⟨σ,H,I,h⟩
theorem Adk{e:Expr}{es:List Expr}{t:TG}{u:TGs}(h1:PG X e t)(h2:PGs X es u)
  (hs:(assignEach (e::es) X.env).map (·.2)=assign e X.env::(assignEach es X.env).map (·.2):=by rfl):PGs X (e::es) (Akg t u):=by
 intro pins s σ H vs us Q I r h
 obtain⟨v,vr,e1,h⟩:=h
 subst e1
 cases r with
 | cons r rr =>
  rw[hs]
  refine assignInOrder_cons (thn (h1 pins s σ H _ _ _ I r h) fun _ s1 ⟨σ1,H1,I1,q1⟩=>?_)
  exact h2 pins s1 σ1 H1 _ _ Q I1 rr q1
def AoY(K:W.Frag)(n:Nat)(t:TGs):TG:=fun v σ H Q=>∃a xs,v=.ref a∧SqT K H a xs∧xs.length=n∧t xs σ H Q
theorem Ah3{es:List Expr}{k:Nat}{t:TGs}{n:Nat}(hc:X.calm=true)(h:PGs X es t)
  (hn:(assignEach es X.env).length=n:=by rfl) (hst:(assignEach es X.env).findIdx? (·.1)=none:=by rfl):PG X (.Tuple es k pos) (AoY X.K n t):=by
 intro pins s σ H v u Q I r hw
 obtain⟨a,xs,e1,hq,hl,hw⟩:=hw
 subst e1
 cases r
 obtain⟨its,rv,ht,hz⟩:=I.tuple hq
 refine assign_Tuple_tuple (I.ok.hd hc) ht (by simp[hn,←hl,rv.length]) hst fun h' hx=>?_
 have I1:Inv X pins σ H {s with heap:=h'}:=I.kept (t':=s.toks) fun b o e=>hx b o (Nat.ne_of_lt (Heap.lt_size e)) e
 exact h pins _ σ H xs _ Q I1 (by simpa using rv) hw
def Aj6(te:TE)(g:TG):TS:=fun D σ H=>te σ H fun x H1=>g x σ H1 D.nx
theorem Ajk{tg e:Expr}{te:TE}{g:TG}(he:PE X e te)(hg:PG X tg g)(hs:swapsWithSole [tg] e pos.line X.env=pure false:=by rfl)(hw:swappedStores [tg] e X.env=pure none:=by rfl)
  (h1:(assignEach [tg] X.env).map (·.2)=[assign tg X.env]:=by rfl):PS X (.Assign [tg] e pos) (Aj6 te g):=by
 intro pins s σ H D I h
 refine wpAny_Assign_stores (thn (he pins s σ H _ I h) fun v s1 ⟨x,H1,I1,r1,q1⟩=>?_) hs hw
 rw[h1]
 exact thn (hg pins s1 σ H1 x v _ I1 r1 q1) fun _ s2 q=>q
theorem Yn{i:Nat}{x:Str}{e:Expr}{te:TE}{pos':Pos}(hN:X.N.Nodup)(hi:X.N[i]? = some x)(hx:Loc X.env.scope x)(he:PE X e te)(hs:swapsWith e (some (.Name x pos')) pos.line X.env=pure false:=by rfl)(hf:X.fn x=true∨X.env.scope.names.lookup x=some .local:=by first | exact .inl rfl | exact .inr rfl | assumption) :
  PS X (.Assign [.Name x pos'] e pos) (Aj6 te (Aaq i)):=by
 intro pins s σ H D I h
 refine wpAny_Assign_Name (thn (he pins s σ H _ I h) fun v s1 ⟨y,H1,I1,r1,q1⟩=>?_) hs
 exact Ig I1 hN hi hx r1 (fun s2 I2=>⟨_,H1,I2,q1⟩) hf
def Aof(i j:Nat)(ta:TA):TS:=fun D σ H=>ta σ H fun vs H1=>∃v w,vs=[v,w]∧D.nx ((σ.set i (some v)).set j (some w)) H1
theorem Aij{i j:Nat}{x y:Str}{a b:Expr}{ta:TA}{px py pt:Pos}{kt k2 pt2}(hc:X.calm=true)(hN:X.N.Nodup)(hi:X.N[i]? = some x)(hj:X.N[j]? = some y)(hij:i≠j)
  (hx:X.env.scope.names.lookup x=some .local) (hy:X.env.scope.names.lookup y=some .local) (ha:PA X [a,b] ta)
  (hw:swappedStores [.Tuple [.Name x px,.Name y py] kt pt] (.Tuple [a,b] k2 pt2) X.env=pure (some [x,y]))
  (hs:swapsWithSole [.Tuple [.Name x px,.Name y py] kt pt] (.Tuple [a,b] k2 pt2) pos.line X.env=pure false:=by rfl) :
  PS X (.Assign [.Tuple [.Name x px,.Name y py] kt pt] (.Tuple [a,b] k2 pt2) pos) (Aof i j ta):=by
 intro pins s σ H D I h
 rw[exec_Assign_arm]
 refine wpAny_bind (wpAny_standAt ?_)
 rw[hs]
 refine wpAny_bind (wpAny_pure ?_)
 rw[if_neg ⋯]
 refine wpAny_bind (Tuple_ (thn (ha _ pins s σ H _ I h) fun us s1 ⟨vs,H1,I1,r1,q1⟩=>?_))
 obtain⟨v,w,e1,q1⟩:=q1
 subst e1
 obtain⟨u1,u2,rfl,rv,rw'⟩:∃u1 u2,us=[u1,u2]∧RelV v u1∧RelV w u2:=by
  cases r1 with
  | cons p q =>
   cases q with
   | cons p' q' =>
    cases q'
    exact⟨_,_,rfl,p,p'⟩
 refine wpAny_newObj_type ?_ (by show 2≤sizeLine;decide)
 have I2:Inv X pins σ H1 {s1 with heap:=s1.heap.push {cls:=.type "tuple",data:=.seq [u1,u2].toArray} }:=I1.kept (t':=s1.toks) fun b o e=>Heap.get?_push_of_some _ e
 rw[hw]
 refine wpAny_bind (wpAny_pure ?_)
 show wpAny (model X.prog X.w) X.A (do rule "assign.swapped-stores";let items ←unpackItems (.ref s1.heap.objs.size) 2 none;assignInOrder [fun v=>bindName X.env y v,fun v=>bindName X.env x v] items.reverse;pure Flow.next) _ _ _
 refine wpAny_bind (wpAny_rule (wpAny_bind (unpackItems_tuple (items:=#[u1,u2]) (I.ok.hd hc) (IsTup.new s1.heap _) fun h' hx'=>?_)))
 have I3:=I2.kept (h':=h') (t':=s1.toks) fun b o e=>hx' b o (Nat.ne_of_lt (Heap.lt_size e)) e
 show wpAny _ _ (assignInOrder [fun v=>bindName X.env y v,fun v=>bindName X.env x v] [u2,u1] >>= fun _=>pure Flow.next) _ _ _
 refine wpAny_bind (assignInOrder_cons (wpAny_bindName (Ig I3 hN hj (.inl hy) rw' (fun s2 I4=>?_) (.inr hy))))
 refine assignInOrder_cons (wpAny_bindName (Ig I4 hN hi (.inl hx) rv (fun s3 I5=>assignInOrder_nil (wpAny_pure ?_)) (.inr hx)))
 rw[List.set_comm _ _ (Ne.symm hij)]at I5
 exact⟨_,H1,I5,q1⟩
end
section
variable{X:Cx}{pos:Pos}
def Aju(c:TT)(tb:TS):TS:=fun D σ H=>∃W:Nat→St→Hp→Prop,(∃m,W m σ H)∧∀m σ H,W m σ H →
 c σ H fun b H1=>if b=true then ∃N:St→Hp→Prop,(∀σ' H',N σ' H'→∃m',m'<m∧W m' σ' H')∧tb {D with nx:=N,ct:=N,bk:=D.nx} σ H1 else D.nx σ H1
theorem Ads{c:Expr}{body:List Stmt}{tc:TT}{tb:TS}(hp:PassesOwn (model X.prog X.w) X.A X.env X.xe)(hc:PT X c tc)(hb:PSs X body tb):PS X (.While c body [] pos) (Aju tc tb):=by
 intro pins s σ H D I h
 obtain⟨W,⟨m0,w0⟩,turn⟩:=h
 refine wpAny_While (codeAny_whileLoop (fun n s'=>∃σ' H',Inv X pins σ' H' s'∧W n σ' H') ?_ m0 ⟨σ,H,I,w0⟩)
 rintro n s1 ⟨σ1,H1,I1,w1⟩
 refine wpAny_passesOwn hp (thn (hc pins s1 σ1 H1 _ I1 (turn n σ1 H1 w1)) fun b s2 ⟨H2,I2,q2⟩=>?_)
 cases b with
 | true =>
  obtain⟨N,hN,q2⟩:=q2
  rw[if_pos rfl]
  refine wpAny_passesOwn hp (thn (hb pins s2 σ1 H2 _ I2 q2) fun f s3 q3=>?_)
  cases f with
  | next =>
   obtain⟨σ3,H3,I3,n3⟩:=q3
   obtain⟨m',hm,w3⟩:=hN σ3 H3 n3
   exact⟨m',hm,σ3,H3,I3,w3⟩
  | cont =>
   obtain⟨σ3,H3,I3,n3⟩:=q3
   obtain⟨m',hm,w3⟩:=hN σ3 H3 n3
   exact⟨m',hm,σ3,H3,I3,w3⟩
  |brk=>exact q3
  |ret v=>exact q3
 | false =>
  rw[if_neg Bool.false_ne_true]
  exact wpAny_execs_nil ⟨σ1,H2,I2,q2⟩
end
structure It where
 go:Nat→Hp→Prop
 yld:Nat→Hp→V→Hp→Prop
 stop:Nat→Hp→Prop
def Pj(X:Cx)(pins:List (Addr×Obj))(H:Hp)(b:Addr):Prop :=
 H b=none∧b≠X.env.locals∧b∉X.fs∧(b∈X.ex∨X.s₀.heap.objs.size≤b)∧(∀x c,X.env.cells.lookup x=some c→c≠b)∧∀p∈X.pn++pins,p.1≠b
theorem Inv.qJ{X:Cx}{pins:List (Addr×Obj)}{σ:St}{H H':Hp}{s:Shared}{b:Addr}(I:Inv X pins σ H s)(hb:s.heap.objs.size≤b)(hn:H' b=none):Pj X pins H' b:=by
 refine⟨hn,Nat.ne_of_gt (Nat.lt_of_lt_of_le I.lt hb),I.rR hb,.inr (Nat.le_trans I.sz hb),fun x c e z=>?_,fun p hp z=>?_⟩
 ·obtain⟨v,q⟩:=I.cell x c e
  exact absurd (Nat.lt_of_lt_of_le q.lt (by rw[z];exact hb)) (Nat.lt_irrefl _)
 ·exact absurd (Nat.lt_of_lt_of_le (Heap.lt_size (I.pin p hp).1) (by rw[z];exact hb)) (Nat.lt_irrefl _)
structure Turn(P:Program)(w:World)(K:W.Frag)(tg:Expr)(J:It)(fp:List Addr)(it:Addr)(tn:Nat→Heap→Prop):Prop where
 mem:it∈fp
 obj:∀i h,tn i h→∀b∈fp,∃o,h.get? b=some o∧∀v,o.data≠.cell v
 keep:∀i h h',tn i h→(∀b∈fp,∀o,h.get? b=some o→h'.get? b=some o)→tn i h'
 item:∀(X:Cx),X.prog=P→X.w=w→X.K=K→X.calm=true→∀(i:Nat)(pins:List (Addr×Obj))(s:Shared)(σ:St)(H:Hp)(E:Value→Shared→Prop),Inv X pins σ H s→(∀b∈fp,Pj X pins H b)→tn i s.heap→J.go i H →
  wpAny (model P w) X.A (pyNext (.ref it)) (fun r s1=>∃u,r=some u ∧
   wpAny (model P w) X.A (letOwnedTupleGo tg (.ref it) u) (fun _ s2=>∃x H',Inv X pins σ H' s2∧RelV x u∧J.yld i H x H'∧tn (i+1) s2.heap∧∀b∈fp,H' b=none) E s1) E s
 done:∀(X:Cx),X.prog=P→X.w=w→X.K=K→X.calm=true→∀(i:Nat)(pins:List (Addr×Obj))(s:Shared)(σ:St)(H:Hp)(E:Value→Shared→Prop),Inv X pins σ H s→(∀b∈fp,Pj X pins H b)→tn i s.heap→J.stop i H →
  wpAny (model P w) X.A (pyNext (.ref it)) (fun r s1=>r=none∧Inv X pins σ H s1) E s
 self:∀(A:Around)(i:Nat)(s:Shared)(Q:Value→Shared→Prop)(E:Value→Shared→Prop),tn i s.heap→Q (.ref it) s→wpAny (model P w) A (pyIter (.ref it)) Q E s
abbrev TI:=St→Hp→(It→Hp→Prop)→Prop
def PIE(X:Cx)(pins:List (Addr×Obj))(σ:St)(tg:Expr)(R:It→Hp→Prop)(itv:Value)(s2:Shared):Prop :=
 ∃(it:Addr)(fp:List Addr)(tn:Nat→Heap→Prop)(J:It)(H':Hp),itv=.ref it∧Inv X pins σ H' s2∧Turn X.prog X.w X.K tg J fp it tn∧tn 0 s2.heap∧(∀b∈fp,Pj X pins H' b)∧R J H'
def PI(X:Cx)(tg iter:Expr)(wi:TI):Prop :=
 ∀(pins:List (Addr×Obj))(s:Shared)(σ:St)(H:Hp)(R:It→Hp→Prop),Inv X pins σ H s→wi σ H R →
  wpAny (model X.prog X.w) X.A (eval iter X.env) (fun v s1=>wpAny (model X.prog X.w) X.A (pyIter v) (PIE X pins σ tg R) X.xe s1) X.xe s
theorem Ach{M:Model}{A:Around}{E:Value→Shared→Prop}{s:Shared}{tg:Expr}{it:Addr}{u:Value}{o:Obj}{n:String}{vs:Array Value}{Q:Unit→Shared→Prop}(ho:s.heap.get? it=some o)(hc:o.cls=.type n)(hd:o.data=.fields vs)
  (hn:["enumerate","zip","dict_itemiterator","dict_reverseitemiterator","odict_iterator","itertools.zip_longest","itertools.pairwise"].contains n=false) (hQ:Q () s):wpAny M A (letOwnedTupleGo tg (.ref it) u) Q E s:=by
 unfold letOwnedTupleGo
 cases tg<;>first
  |exact wpAny_pure hQ
  | (cases u<;>first
    |exact wpAny_pure hQ
    | (refine wpAny_bind (wpAny_load ho ?_)
       rw[hc,hd]
       show wpAny M A (if(["enumerate","zip","dict_itemiterator","dict_reverseitemiterator","odict_iterator","itertools.zip_longest","itertools.pairwise"].contains n&&vs[0]? == some (rawInt _))=true then _ else _) Q E s
       rw[if_neg (by intro h;rw[hn,Bool.false_and]at h;cases h)]
       exact wpAny_pure hQ))
def Itl(K:W.Frag)(a:Addr):It :=
 ⟨fun i H=>∃xs x,SqL K H a xs∧xs[i]? = some x,fun i H x H'=>H'=H∧∀xs,SqL K H a xs→xs[i]? = some x,fun i H=>∃xs,SqL K H a xs∧xs.length≤i⟩
def Itt(K:W.Frag)(a:Addr):It :=
 ⟨fun i H=>∃xs x,SqT K H a xs∧xs[i]? = some x,fun i H x H'=>H'=H∧∀xs,SqT K H a xs→xs[i]? = some x,fun i H=>∃xs,SqT K H a xs∧xs.length≤i⟩
def Itr(lo:Int)(n:Nat):It:=⟨fun i _=>i<n,fun i H x H'=>H'=H∧x=.int (lo+i),fun i _=>n≤i⟩
theorem AbB{P:Program}{w:World}{K:W.Frag}{tg:Expr}(a it:Addr):Turn P w K tg (Itl K a) [it] it (fun i h=>h.IsListIter it a i) where
 mem:=by simp
 obj:=fun i h st b hb=>by
  have e:b=it:=by simpa using hb
  subst e
  obtain⟨o,e,c,d⟩:=st
  exact⟨o,e,fun v z=>by rw[d]at z;cases z⟩
 keep:=fun i h h' st k=>st.at fun o e=>k it (by simp) o e
 item:=by
  intro X hP hw hK hc i pins s σ H E I hf st hg
  subst hP hw hK
  obtain⟨xs,x,hq,hx⟩:=hg
  obtain⟨its,rv,p,hz⟩:=I.list hq
  obtain⟨u,hu,ru⟩:=rv.get hx
  obtain⟨f0,f1,f2,f3,f4,f5⟩:=hf it (by simp)
  refine wpAny_pyNext_list_item st p.isList (x:=u) (by simpa using hu) fun h' st' sb=>?_
  have I1:Inv X pins σ H {s with heap:=h'}:=I.turned (t':=s.toks) (fun b o hb e=>(sb.2 b hb).trans e) f0 f1 f3 f4 f5
  obtain⟨o,e,c,d⟩:=id st'
  exact⟨u,rfl,Ach (s:={s with heap:=h'}) e c d ⋯ ⟨x,H,I1,ru,⟨rfl,fun ys hy=>by rw[I.pB hy hq];exact hx⟩,st',fun b hb=>(hf b hb).1⟩⟩
 done:=by
  intro X hP hw hK hc i pins s σ H E I hf st hg
  subst hP hw hK
  obtain⟨xs,hq,hx⟩:=hg
  obtain⟨its,rv,p,hz⟩:=I.list hq
  obtain⟨f0,f1,f2,f3,f4,f5⟩:=hf it (by simp)
  have hl:=rv.length
  exact wpAny_pyNext_list_end (I.ok.hd hc) st p.isList (by simp;omega) fun h' eb=>⟨rfl,I.turned (t':=s.toks) (fun b o hb e=>eb b o hb e) f0 f1 f3 f4 f5⟩
 self:=fun _ _ _ _ _ st h=>wpAny_pyIter_listiter st h
theorem Yy{P:Program}{w:World}{K:W.Frag}{tg:Expr}(a it:Addr):Turn P w K tg (Itt K a) [it] it (fun i h=>h.IsTupleIter it a i) where
 mem:=by simp
 obj:=fun i h st b hb=>by
  have e:b=it:=by simpa using hb
  subst e
  obtain⟨o,e,c,d⟩:=st
  exact⟨o,e,fun v z=>by rw[d]at z;cases z⟩
 keep:=fun i h h' st k=>st.at fun o e=>k it (by simp) o e
 item:=by
  intro X hP hw hK hc i pins s σ H E I hf st hg
  subst hP hw hK
  obtain⟨xs,x,hq,hx⟩:=hg
  obtain⟨its,rv,p,hz⟩:=I.tuple hq
  obtain⟨u,hu,ru⟩:=rv.get hx
  obtain⟨f0,f1,f2,f3,f4,f5⟩:=hf it (by simp)
  refine wpAny_pyNext_tuple_item st (show s.heap.IsTuple a its.toArray from p) (x:=u) (by simpa using hu) fun h' st' sb=>?_
  have I1:Inv X pins σ H {s with heap:=h'}:=I.turned (t':=s.toks) (fun b o hb e=>(sb.2 b hb).trans e) f0 f1 f3 f4 f5
  obtain⟨o,e,c,d⟩:=id st'
  exact⟨u,rfl,Ach (s:={s with heap:=h'}) e c d ⋯ ⟨x,H,I1,ru,⟨rfl,fun ys hy=>by rw[I.oh hy hq];exact hx⟩,st',fun b hb=>(hf b hb).1⟩⟩
 done:=by
  intro X hP hw hK hc i pins s σ H E I hf st hg
  subst hP hw hK
  obtain⟨xs,hq,hx⟩:=hg
  obtain⟨its,rv,p,hz⟩:=I.tuple hq
  obtain⟨f0,f1,f2,f3,f4,f5⟩:=hf it (by simp)
  have hl:=rv.length
  exact wpAny_pyNext_tuple_end (I.ok.hd hc) st (show s.heap.IsTuple a its.toArray from p) (by simp;omega) fun h' eb=>⟨rfl,I.turned (t':=s.toks) (fun b o hb e=>eb b o hb e) f0 f1 f3 f4 f5⟩
 self:=fun _ _ _ _ _ st h=>wpAny_pyIter_tupleiter st h
theorem Xw{P:Program}{w:World}{K:PySem.W.Frag}{tg:Expr}(it:Addr)(lo:Int)(n:Nat):Turn P w K tg (Itr lo n) [it] it (fun i h=>IsRangeIter h it (lo+(i:Nat)*1) ((n:Int)-(i:Nat)) 1) where
 mem:=by simp
 obj:=fun i h st b hb=>by
  have e:b=it:=by simpa using hb
  subst e
  exact⟨_,st,fun v z=>by
   have z':Data.fields _=Data.cell v:=z
   cases z'⟩
 keep:=fun i h h' st k=>k it (by simp) _ st
 item:=by
  intro X hP hw hK hc i pins s σ H E I hf st hg
  subst hP hw hK
  obtain⟨f0,f1,f2,f3,f4,f5⟩:=hf it (by simp)
  have W:=Walks.range (prog:=X.prog) (w:=X.w) (I.ok.hd hc) it lo 1 n
  refine W.item i s _ _ hg st fun v h' tk hv st' kk=>?_
  obtain⟨t,rfl⟩:=hv
  have I1:Inv X pins σ H {s with heap:=h',toks:=tk}:=I.turned (fun b o hb e=>kk b o (by simpa using hb) e) f0 f1 f3 f4 f5
  refine⟨_,rfl,Ach (s:={s with heap:=h',toks:=tk}) (n:="range_iterator") st' rfl rfl ⋯ ⟨.int (lo+i),H,I1,⟨t,?_⟩,⟨rfl,rfl⟩,st',fun b hb=>(hf b hb).1⟩⟩
  rw[Int.mul_one]
 done:=by
  intro X hP hw hK hc i pins s σ H E I hf st hg
  subst hP hw hK
  obtain⟨f0,f1,f2,f3,f4,f5⟩:=hf it (by simp)
  exact wpAny_pyNext_range_end (I.ok.hd hc) st (by have:n≤i:=hg;omega) fun h' eb=>⟨rfl,I.turned (t':=s.toks) (fun b o hb e=>eb b o hb e) f0 f1 f3 f4 f5⟩
 self:=fun _ _ _ _ _ st h=>wpAny_pyIter_rangeiter st h
section
variable{X:Cx}{tg:Expr}
def AjT(K:W.Frag)(tl:TE):TI:=fun σ H R=>tl σ H fun x H1=>∃a,x=.ref a∧(∃xs,SqL K H1 a xs)∧R (Itl K a) H1
def AnA(K:W.Frag)(tl:TE):TI:=fun σ H R=>tl σ H fun x H1=>∃a,x=.ref a∧(∃xs,SqT K H1 a xs)∧R (Itt K a) H1
theorem AaD{l:Expr}{tl:TE}(hl:PE X l tl):PI X tg l (AjT X.K tl):=by
 intro pins s σ H R I h
 refine thn (hl pins s σ H _ I h) fun v s1 ⟨x,H1,I1,r1,q1⟩=>?_
 obtain⟨a,e,⟨xs,hq⟩,q⟩:=q1
 subst e
 cases r1
 obtain⟨its,rv,p,hz⟩:=I1.list hq
 refine wpAny_pyIter_list p.isList ?_
 refine⟨s1.heap.objs.size,[s1.heap.objs.size],_,_,H1,rfl,I1.kept (t':=s1.toks) fun b o e=>Heap.get?_push_of_some _ e,AbB a _,⟨_,Heap.get?_push_size _ rfl,rfl,rfl⟩,fun b hb=>?_,q⟩
 have e:b=s1.heap.objs.size:=by simpa using hb
 subst e
 exact I1.qJ (Nat.le_refl _) (I1.hok.fresh (Nat.le_refl _))
theorem Ajp{l:Expr}{tl:TE}(hl:PE X l tl):PI X tg l (AnA X.K tl):=by
 intro pins s σ H R I h
 refine thn (hl pins s σ H _ I h) fun v s1 ⟨x,H1,I1,r1,q1⟩=>?_
 obtain⟨a,e,⟨xs,hq⟩,q⟩:=q1
 subst e
 cases r1
 obtain⟨its,rv,p,hz⟩:=I1.tuple hq
 refine wpAny_pyIter_tuple (show s1.heap.IsTuple a its.toArray from p) ?_
 refine⟨s1.heap.objs.size,[s1.heap.objs.size],_,_,H1,rfl,I1.kept (t':=s1.toks) fun b o e=>Heap.get?_push_of_some _ e,Yy a _,⟨_,Heap.get?_push_size _ rfl,rfl,rfl⟩,fun b hb=>?_,q⟩
 have e:b=s1.heap.objs.size:=by simpa using hb
 subst e
 exact I1.qJ (Nat.le_refl _) (I1.hok.fresh (Nat.le_refl _))
theorem Xb{pins:List (Addr×Obj)}{σ:St}{H:Hp}{s:Shared}{R:It→Hp→Prop}{E:Value→Shared→Prop}{lo hi:Int}{t u v:Tok}{tk:Nat}(I:Inv X pins σ H s)(h1:-(2 ^ 62)≤lo)(h2:lo<2 ^ 62)(h3:-(2 ^ 62)≤hi)(h4:hi<2 ^ 62)
  (q:R (Itr lo (hi-lo).toNat) H):wpAny (model X.prog X.w) X.A (pyIter (.ref s.heap.objs.size)) (PIE X pins σ tg R) E {s with heap:=s.heap.push {cls:=.type "range",data:=.fields #[.int lo t,.int hi u,.int 1 v]},toks:=tk}:=by
 refine wpAny_pyIter_range (IsRange.new ..) (small_one h1 h2 h3 h4) ?_
 have I1:Inv X pins σ H {s with heap:=s.heap.push {cls:=.type "range",data:=.fields #[.int lo t,.int hi u,.int 1 v]},toks:=tk}:=I.kept fun b o e=>Heap.get?_push_of_some _ e
 refine⟨(s.heap.push {cls:=.type "range",data:=.fields #[.int lo t,.int hi u,.int 1 v]}).objs.size,[(s.heap.push {cls:=.type "range",data:=.fields #[.int lo t,.int hi u,.int 1 v]}).objs.size],_,_,H,rfl,
  I1.kept (t':=tk) fun b o e=>Heap.get?_push_of_some _ e,Xw _ lo (hi-lo).toNat,?_,fun b hb=>?_,q⟩
 ·have e1:lo+((0:Nat):Int)*1=lo:=by simp
  have e2:(((hi-lo).toNat:Nat):Int)-((0:Nat):Int)=Builtin.Range.rangeSize lo hi 1:=by rw[rangeSize_one];split<;>omega
  show IsRangeIter _ _ (lo+((0:Nat):Int)*1) ((((hi-lo).toNat:Nat):Int)-((0:Nat):Int)) 1
  rw[e1,e2]
  exact Heap.get?_push_size _ rfl
 ·have e:b=(s.heap.push {cls:=.type "range",data:=.fields #[.int lo t,.int hi u,.int 1 v]}).objs.size:=by simpa using hb
  subst e
  exact I1.qJ (Nat.le_refl _) (I1.hok.fresh (Nat.le_refl _))
def Al2(ta:TA):TI:=fun σ H R=>ta σ H fun vs H1=>∃j:Int,vs=[.int j]∧-(2 ^ 62)≤j∧j<2 ^ 62∧R (Itr 0 j.toNat) H1
def Ak9(ta:TA):TI:=fun σ H R=>ta σ H fun vs H1=>∃i j:Int,vs=[.int i,.int j]∧(-(2 ^ 62)≤i∧i<2 ^ 62∧-(2 ^ 62)≤j∧j<2 ^ 62)∧R (Itr i (j-i).toNat) H1
theorem Abg{a:Expr}{ta:TA}{p pos:Pos}(hg:Gl X "range")(hm:X.mg "range"=none)(ha:PA X [a] ta)(hs:starEach [a] X.env=[(false,eval a X.env)]:=by rfl):PI X tg (.Call (.Name "range" p) [a] [] pos) (Al2 ta):=by
 intro pins s σ H R I h
 refine Call_ (Rk I hg hm boot_range (PyProof.Rows.callWith_type1 (thn (ha pos pins s σ H _ I h) fun us s1 ⟨vs,H1,I1,r1,q1⟩=>?_) hs rfl))
 obtain⟨j,e,q1,q2,q⟩:=q1
 subst e
 cases r1 with
 | cons r rr =>
  cases rr
  obtain⟨t,rfl⟩:=r
  exact call_range_1 (Xb I1 ∅ ∅ q1 q2 (by simpa using q))
theorem AbK{a b:Expr}{ta:TA}{p pos:Pos}(hg:Gl X "range")(hm:X.mg "range"=none)(ha:PA X [a,b] ta)(hs:starEach [a,b] X.env=[(false,eval a X.env),(false,eval b X.env)]:=by rfl)(hs2:starEach [b] X.env=[(false,eval b X.env)]:=by rfl) :
  PI X tg (.Call (.Name "range" p) [a,b] [] pos) (Ak9 ta):=by
 intro pins s σ H R I h
 refine Call_ (Rk I hg hm boot_range (PyProof.Rows.callWith_type1 (thn (ha pos pins s σ H _ I h) fun us s1 ⟨vs,H1,I1,r1,q1⟩=>?_) (by rw[hs,hs2]) (by rw[hs2];rfl)))
 obtain⟨i,j,e,⟨q1,q2,q3,q4⟩,q⟩:=q1
 subst e
 cases r1 with
 | cons r rr =>
  cases rr with
  | cons r' rr =>
   cases rr
   obtain⟨t,rfl⟩:=r
   obtain⟨t',rfl⟩:=r'
   exact call_range_2 (Xb I1 q1 q2 q3 q4 q)
def AoI(wi:TI)(g:TG)(tb:TS):TS:=fun D σ H=>wi σ H fun J H1=>∃W:Nat→Nat→St→Hp→Prop,(∃m,W 0 m σ H1)∧∀i m σ H,W i m σ H →
 (J.stop i H∧D.nx σ H)∨(J.go i H∧∃N:St→Hp→Prop,(∀σ' H',N σ' H'→∃m',m'<m∧W (i+1) m' σ' H')∧∀x H',J.yld i H x H'→g x σ H' fun σ2 H2=>tb {D with nx:=N,ct:=N,bk:=D.nx} σ2 H2)
def Ny(fp:List Addr)(h:Heap):List (Addr×Obj):=fp.filterMap fun b=>(h.get? b).map fun o=>(b,o)
theorem Gs{fp:List Addr}{h:Heap}{b:Addr}{o:Obj}(hb:b∈fp)(e:h.get? b=some o):(b,o)∈Ny fp h:=List.mem_filterMap.mpr ⟨b,hb,by rw[e];rfl⟩
theorem Abv{fp:List Addr}{h:Heap}{p:Addr×Obj}(hp:p∈Ny fp h):p.1∈fp∧h.get? p.1=some p.2:=by
 obtain⟨b,hb,e⟩:=List.mem_filterMap.mp hp
 cases q:h.get? b with
 |none=>rw[q]at e;cases e
 | some o =>
  rw[q]at e
  have e':(b,o)=p:=Option.some.inj e
  subst e'
  exact⟨hb,q⟩
theorem Inv.pinned{pins:List (Addr×Obj)}{σ:St}{H:Hp}{s:Shared}{fp:List Addr}(I:Inv X pins σ H s)(hf:∀b∈fp,Pj X pins H b)(ho:∀b∈fp,∃o,s.heap.get? b=some o∧∀v,o.data≠.cell v):Inv X (pins++Ny fp s.heap) σ H s :=
 I.nJ fun p hp=>(List.mem_append.mp hp).elim (fun z=>I.pin p (List.mem_append_right _ z)) fun z=>by
  obtain⟨hb,e⟩:=Abv z
  obtain⟨f0,f1,f2,_⟩:=hf p.1 hb
  obtain⟨o,e',d⟩:=ho p.1 hb
  rw[e]at e';cases e'
  exact⟨e,f0,f1,f2,d⟩
theorem Inv.cI{pins pl:List (Addr×Obj)}{σ:St}{H:Hp}{s:Shared}(I:Inv X (pins++pl) σ H s):Inv X pins σ H s:=I.nJ fun p hp=>I.pin p (List.mem_append_right _ (List.mem_append_left _ hp))
theorem Acw{iter:Expr}{body:List Stmt}{wi:TI}{g:TG}{tb:TS}{pos:Pos}(hp:PassesOwn (model X.prog X.w) X.A X.env X.xe)(hc:X.calm=true)(hi:PI X tg iter wi)(hg:PG X tg g)(hb:PSs X body tb)
  (hs:∀x,foldedSetIterable iter X.env x=pure x:=by intro _;rfl):PS X (.For tg iter body [] pos) (AoI wi g tb):=by
 intro pins s σ H D I h
 refine wpAny_For (thn (hi pins s σ H _ I h) fun v s1 h1=>thn h1 fun itv s2 h2=>?_) hs
 obtain⟨it,fp,tn,J,H2,e,I2,T,st2,f2,W,⟨m0,w0⟩,turn⟩:=h2
 subst e
 have stat:∀{H':Hp},(∀b∈fp,H' b=none)→∀b∈fp,Pj X pins H' b:=fun hn b hb=>⟨hn b hb,(f2 b hb).2⟩
 refine codeAny_forLoop_any (fun n s'=>∃i σ' H',Inv X pins σ' H' s'∧tn i s'.heap∧(∀b∈fp,H' b=none)∧W i n σ' H') ?_ m0 ⟨0,σ,H2,I2,st2,fun b hb=>(f2 b hb).1,w0⟩
 rintro n s3 ⟨i,σ3,H3,I3,st3,fr3,w3⟩
 rcases turn i n σ3 H3 w3 with⟨stop,qn⟩|⟨go,N,hN,step⟩
 ·refine wpAny_passesOwn hp (thn (T.done X rfl rfl rfl hc i pins s3 σ3 H3 X.xe I3 (stat fr3) st3 stop) fun r s4 ⟨hr,I4⟩=>?_)
  subst hr
  exact wpAny_execs_nil ⟨σ3,H3,I4,qn⟩
 ·refine wpAny_passesOwn hp (thn (T.item X rfl rfl rfl hc i pins s3 σ3 H3 X.xe I3 (stat fr3) st3 go) fun r s4 ⟨u,hr,h4⟩=>?_)
  subst hr
  refine wpAny_passesOwn hp (thn h4 fun _ s5 ⟨x,H5,I5,r5,y5,st5,fr5⟩=>?_)
  have I5':=I5.pinned (stat fr5) (T.obj _ _ st5)
  refine wpAny_passesOwn hp (thn (hg _ s5 σ3 H5 x u _ I5' r5 (step x H5 y5)) fun _ s6 ⟨σ6,H6,I6,q6⟩=>?_)
  refine wpAny_passesOwn hp (thn (hb _ s6 σ6 H6 _ I6 q6) fun f s7 q7=>?_)
  have again:∀{σ7:St} {H7:Hp},Inv X (pins++Ny fp s5.heap) σ7 H7 s7→N σ7 H7→∃m,m<n∧∃i σ' H',Inv X pins σ' H' s7∧tn i s7.heap∧(∀b∈fp,H' b=none)∧W i m σ' H':=fun{σ7 H7} I7 n7=>by
   obtain⟨m',hm,w7⟩:=hN σ7 H7 n7
   refine⟨m',hm,i+1,σ7,H7,I7.cI,T.keep _ _ _ st5 fun b hb o e=>(I7.pin (b,o) (List.mem_append_right _ (List.mem_append_right _ (Gs hb e)))).1,fun b hb=>?_,w7⟩
   obtain⟨o,e,d⟩:=T.obj _ _ st5 b hb
   exact(I7.pin (b,o) (List.mem_append_right _ (List.mem_append_right _ (Gs hb e)))).2.1
  cases f with
  |next=>obtain⟨σ7,H7,I7,n7⟩:=q7;exact again I7 n7
  |cont=>obtain⟨σ7,H7,I7,n7⟩:=q7;exact again I7 n7
  |brk=>obtain⟨σ7,H7,I7,q7⟩:=q7;exact⟨σ7,H7,I7.cI,q7⟩
  |ret v=>obtain⟨x7,σ7,H7,I7,r7,q7⟩:=q7;exact⟨x7,σ7,H7,I7.cI,r7,q7⟩
end
abbrev R2:=V→V→Hp→VK→Prop
def OpR(X:Cx)(f:Value→Value→Sem Value)(r:R2):Prop :=
 ∀(pins:List (Addr×Obj))(s:Shared)(σ:St)(H:Hp)(x y:V)(v u:Value)(Q:VK),Inv X pins σ H s→RelV x v→RelV y u→r x y H Q →
  wpAny (model X.prog X.w) X.A (f v u) (EP X pins σ Q) X.xe s
def UnR(X:Cx)(f:Value→Sem Value)(r:V→Hp→VK→Prop):Prop :=
 ∀(pins:List (Addr×Obj))(s:Shared)(σ:St)(H:Hp)(x:V)(v:Value)(Q:VK),Inv X pins σ H s→RelV x v→r x H Q →
  wpAny (model X.prog X.w) X.A (f v) (EP X pins σ Q) X.xe s
def Il(X:Cx)(f:Value)(r:List V→Hp→VK→Prop):Prop :=
 ∀(pins:List (Addr×Obj))(s:Shared)(σ:St)(H:Hp)(xs:List V)(us:List Value)(Q:VK),Inv X pins σ H s→Vals xs us→r xs H Q →
  wpAny (model X.prog X.w) X.A (call f us) (EP X pins σ Q) X.xe s
def tOp(r:R2)(ta tb:TE):TE:=fun σ H Q=>ta σ H fun x H1=>tb σ H1 fun y H2=>r x y H2 Q
def tUn(r:V→Hp→VK→Prop)(ta:TE):TE:=fun σ H Q=>ta σ H fun x H1=>r x H1 Q
def rI(C:Int→Int→Prop)(g:Int→Int→V):R2:=fun x y H Q=>∃i j,x=.int i∧y=.int j∧C i j∧Q (g i j) H
def rI0(g:Int→Int→V):R2:=fun x y H Q=>∃i j,x=.int i∧y=.int j∧Q (g i j) H
def rU(g:Int→V):V→Hp→VK→Prop:=fun x H Q=>∃i,x=.int i∧Q (g i) H
section
variable{X:Cx}{a b c:Expr}{ta tb tc:TE}{pos:Pos}
theorem Aii(ha:PE X a ta)(hb:PE X b tb){pins:List (Addr×Obj)}{s:Shared}{σ:St}{H:Hp}{R:V→V→Hp→Prop}(I:Inv X pins σ H s)
  (h:ta σ H fun x H1=>tb σ H1 fun y H2=>R x y H2) {Q:Value→Shared→Prop} {f:Value→Value→Sem Value}
  (hf:∀v u s2 x y H2,Inv X pins σ H2 s2→RelV x v→RelV y u→R x y H2→wpAny (model X.prog X.w) X.A (f v u) Q X.xe s2) :
  wpAny (model X.prog X.w) X.A (eval a X.env) (fun v s₁=>wpAny (model X.prog X.w) X.A (eval b X.env) (fun u s₂=>wpAny (model X.prog X.w) X.A (f v u) Q X.xe s₂) X.xe s₁) X.xe s:=by
 refine thn (ha pins s σ H _ I h) fun v s1 ⟨x,H1,I1,r1,q1⟩=>?_
 refine thn (hb pins s1 σ H1 _ I1 q1) fun u s2 ⟨y,H2,I2,r2,q2⟩=>?_
 exact hf v u s2 x y H2 I2 r1 r2 q2
theorem Amp{op:Operator}{r:R2}(ho:OpR X (binaryOp op) r)(ha:PE X a ta)(hb:PE X b tb):PE X (.BinOp a op b pos) (tOp r ta tb):=by
 intro pins s σ H Q I h
 exact wpAny_BinOp (Aii ha hb I h fun v u s2 x y H2 I2 rx ry q=>ho pins s2 σ H2 x y v u Q I2 rx ry q)
theorem Akx{op:UnaryOp}{r:V→Hp→VK→Prop}(ho:UnR X (unaryOp op) r)(ha:PE X a ta):PE X (.UnaryOp op a pos) (tUn r ta):=by
 intro pins s σ H Q I h
 exact UnaryOp_ (thn (ha pins s σ H _ I h) fun v s1 ⟨x,H1,I1,r1,q1⟩=>ho pins s1 σ H1 x v Q I1 r1 q1)
theorem opI{f:Value→Value→Sem Value}{C:Int→Int→Prop}{g:Int→Int→Int}
  (rule:∀(i j:Int)(t u:Tok)(s:Shared)(Q:Value→Shared→Prop)(E:Value→Shared→Prop),C i j→Q (.int (g i j) s.toks) {s with toks:=s.toks+1}→wpAny (model X.prog X.w) X.A (f (.int i t) (.int j u)) Q E s) :
  OpR X f (rI C fun i j=>.int (g i j)):=by
 intro pins s σ H x y v u Q I rx ry h
 obtain⟨i,j,rfl,rfl,hc,q⟩:=h
 obtain⟨t,rfl⟩:=rx
 obtain⟨t',rfl⟩:=ry
 exact rule i j t t' s _ _ hc ⟨.int (g i j),H,I.tok _,⟨_,rfl⟩,q⟩
theorem AlF{f:Value→Value→Sem Value}{g:Int→Int→Int}
  (rule:∀(i j:Int)(t u:Tok)(s:Shared)(Q:Value→Shared→Prop)(E:Value→Shared→Prop),Q (.int (g i j) s.toks) {s with toks:=s.toks+1}→wpAny (model X.prog X.w) X.A (f (.int i t) (.int j u)) Q E s) :
  OpR X f (rI0 fun i j=>.int (g i j)):=by
 intro pins s σ H x y v u Q I rx ry h
 obtain⟨i,j,rfl,rfl,q⟩:=h
 obtain⟨t,rfl⟩:=rx
 obtain⟨t',rfl⟩:=ry
 exact rule i j t t' s _ _ ⟨.int (g i j),H,I.tok _,⟨_,rfl⟩,q⟩
theorem AgL{f:Value→Value→Sem Value}{g:Int→Int→Bool}
  (rule:∀(i j:Int)(t u:Tok)(s:Shared)(Q:Value→Shared→Prop)(E:Value→Shared→Prop),Q (.bool (g i j)) s→wpAny (model X.prog X.w) X.A (f (.int i t) (.int j u)) Q E s) :
  OpR X f (rI0 fun i j=>.bl (g i j)):=by
 intro pins s σ H x y v u Q I rx ry h
 obtain⟨i,j,rfl,rfl,q⟩:=h
 obtain⟨t,rfl⟩:=rx
 obtain⟨t',rfl⟩:=ry
 exact rule i j t t' s _ _ ⟨.bl (g i j),H,I,rfl,q⟩
def Aa1(i j:Int):Prop:=0≤j∧j≤1000000∧i.natAbs<2 ^ 64
theorem AjF:OpR X (binaryOp .Add) (rI0 fun i j=>.int (i+j)):=AlF fun _ _ _ _ _ _ _ q=>add_int q
theorem AiI:OpR X (binaryOp .Sub) (rI0 fun i j=>.int (i-j)):=AlF fun _ _ _ _ _ _ _ q=>sub_int q
theorem Afk:OpR X (binaryOp .Mod) (rI (fun _ j=>j≠0) fun i j=>.int (i.fmod j)):=opI fun _ _ _ _ _ _ _ hc q=>mod_int' hc q
theorem Aiu:OpR X (binaryOp .Pow) (rI Aa1 fun i j=>.int (i ^ j.toNat)):=opI fun _ _ _ _ _ _ _ hc q=>pow_int_small hc.1 hc.2.1 hc.2.2 q
theorem AiU:OpR X (binaryOp .LShift) (rI Aa1 fun i j=>.int (i*2 ^ j.toNat)):=opI fun _ _ _ _ _ _ _ hc q=>lshift_int_small hc.1 hc.2.1 hc.2.2 q
theorem unI{f:Value→Sem Value}{g:Int→Int}
  (rule:∀(i:Int)(t:Tok)(s:Shared)(Q:Value→Shared→Prop)(E:Value→Shared→Prop),Q (.int (g i) s.toks) {s with toks:=s.toks+1}→wpAny (model X.prog X.w) X.A (f (.int i t)) Q E s) :
  UnR X f (rU fun i=>.int (g i)):=by
 intro pins s σ H x v Q I rx h
 obtain⟨i,rfl,q⟩:=h
 obtain⟨t,rfl⟩:=rx
 exact rule i t s _ _ ⟨.int (g i),H,I.tok _,⟨_,rfl⟩,q⟩
theorem Aiw:UnR X (unaryOp .USub) (rU fun i=>.int (-i)):=unI fun _ _ _ _ _ q=>neg_int q
end
section
variable{X:Cx}{a b c:Expr}{ta tb tc:TE}{pos:Pos}
theorem Jp{pins:List (Addr×Obj)}{σ:St}{H:Hp}{s:Shared}{Q:VK}{k k':Bool}(I:Inv X pins σ H s)(q:Q (.bl k) H)(e:k=k'):EP X pins σ Q (.bool k') s:=by
 subst e
 exact⟨.bl k,H,I,rfl,q⟩
theorem Ri:OpR X (compareOp .Lt) (rI0 fun i j=>.bl (decide (i<j))):=AgL fun _ _ _ _ _ _ _ q=>lt_int q
theorem Kq:OpR X (compareOp .LtE) (rI0 fun i j=>.bl (decide (i≤j))):=AgL fun _ _ _ _ _ _ _ q=>le_int q
theorem AhF:OpR X (compareOp .Gt) (rI0 fun i j=>.bl (decide (j<i))):=AgL fun _ _ _ _ _ _ _ q=>gt_int q
theorem AhI:OpR X (compareOp .GtE) (rI0 fun i j=>.bl (decide (j≤i))):=AgL fun _ _ _ _ _ _ _ q=>ge_int q
theorem Ahm:OpR X (compareOp .IsNot) (fun x y H Q=>y=.non∧Q (.bl (!decide (x=.non))) H):=by
 intro pins s σ H x y v u Q I rx ry h
 obtain⟨rfl,q⟩:=h
 cases ry
 refine isnot_none_gen (Jp I q ?_)
 cases x<;>first
  |(cases rx;rfl)
  |(obtain⟨t,rfl⟩:=rx;rfl)
theorem OpR.or{f:Value→Value→Sem Value}{r r':R2}(h:OpR X f r)(h':OpR X f r'):OpR X f (fun x y H Q=>r x y H Q∨r' x y H Q):=by
 intro pins s σ H x y v u Q I rx ry q
 rcases q with q|q
 ·exact h pins s σ H x y v u Q I rx ry q
 ·exact h' pins s σ H x y v u Q I rx ry q
theorem HD(b:Expr){op:CmpOp}(h:op≠.In:=by decide)(h2:op≠.NotIn:=by decide):behindInMarks op b=false:=by
 have e1:(op==CmpOp.In)=false:=by cases op<;>first|rfl|exact absurd rfl h
 have e2:(op==CmpOp.NotIn)=false:=by cases op<;>first|rfl|exact absurd rfl h2
 cases b<;>simp[behindInMarks,e1,e2]
theorem AfD{op:CmpOp}{r:R2}(ho:OpR X (compareOp op) r)(ha:PE X a ta)(hb:PE X b tb)(hm:behindInMarks op b=false):PE X (.Compare a [op] [b] pos) (tOp r ta tb):=by
 intro pins s σ H Q I h
 exact wpAny_Compare1 (Aii ha hb I h fun v u s2 x y H2 I2 rx ry q=>ho pins s2 σ H2 x y v u Q I2 rx ry q) hm
def Aka(t:TE):TT:=fun σ H Q=>t σ H fun x H'=>∃k,x=.bl k∧Q k H'
theorem AgR{op:CmpOp}{r:R2}(ho:OpR X (compareOp op) r)(ha:PE X a ta)(hb:PE X b tb)(hm:behindInMarks op b=false):PT X (.Compare a [op] [b] pos) (Aka (tOp r ta tb)):=by
 intro pins s σ H Q I h
 refine wpAny_isTrue_Compare1 (thn (ha pins s σ H _ I h) fun v s1 ⟨x,H1,I1,r1,q1⟩=>thn (hb pins s1 σ H1 _ I1 q1) fun u s2 ⟨y,H2,I2,r2,q2⟩ =>
  thn (ho pins s2 σ H2 x y v u _ I2 r1 r2 q2) fun c s3 ⟨z,H3,I3,r3,k,e,q3⟩=>?_) hm
 subst e
 cases r3
 exact wpAny_truthy_bool ⟨H3,I3,q3⟩
def AeO(r r':R2)(ta tb tc:TE):TE:=fun σ H Q=>ta σ H fun x H1=>tb σ H1 fun y H2=>r x y H2 fun z H3=>∃k,z=.bl k ∧
 (if k=true then tc σ H3 fun w' H4=>r' y w' H4 Q else Q (.bl false) H3)
theorem AdJ{op op':CmpOp}{r r':R2}(ho:OpR X (compareOp op) r)(ho':OpR X (compareOp op') r')(ha:PE X a ta)(hb:PE X b tb)(hc:PE X c tc)
  (hm:lastMarks [op,op'] [b,c]=false:=by with_unfolding_all rfl):PE X (.Compare a [op,op'] [b,c] pos) (AeO r r' ta tb tc):=by
 intro pins s σ H Q I h
 refine Compare_chain (thn (ha pins s σ H _ I h) fun v s1 ⟨x,H1,I1,r1,q1⟩=>chain_link (thn (hb pins s1 σ H1 _ I1 q1) fun u s2 ⟨y,H2,I2,r2,q2⟩ =>
  thn (ho pins s2 σ H2 x y v u _ I2 r1 r2 q2) fun d s3 ⟨z,H3,I3,r3,k,e,q3⟩=>?_)) hm
 subst e
 cases r3
 refine wpAny_truthy_bool ?_
 cases k with
 |false=>exact ite_ff ⟨.bl false,H3,I3,rfl,q3⟩
 |true=>exact ite_tt (chain_last (thn (hc pins s3 σ H3 _ I3 q3) fun w' s4 ⟨z',H4,I4,r4,q4⟩=>ho' pins s4 σ H4 y z' u w' Q I4 r2 r4 q4))
theorem Uq:(sizeLine:Nat)<2 ^ 63:=by rw[sizeLine_eq];decide
theorem vals1{x:V}{us:List Value}(r:Vals [x] us):∃u,us=[u]∧RelV x u:=by
 cases r with
 |cons r1 r2=>cases r2;exact⟨_,rfl,r1⟩
theorem vals2{x y:V}{us:List Value}(r:Vals [x,y] us):∃u w',us=[u,w']∧RelV x u∧RelV y w':=by
 cases r with
 | cons r1 r2 =>
  cases r2 with
  |cons r3 r4=>cases r4;exact⟨_,_,rfl,r1,r3⟩
theorem Ac4:Il X (.builtin "abs") (fun xs H Q=>∃i,xs=[.int i]∧Q (.int (if i<0 then -i else i)) H):=by
 intro pins s σ H xs us Q I r h
 obtain⟨i,rfl,q⟩:=h
 obtain⟨u,rfl,t,rfl⟩:=vals1 r
 exact call_abs_int fun u tk=>⟨.int (if i<0 then -i else i),H,I.tok _,⟨_,rfl⟩,q⟩
theorem AbH(hc:X.calm=true):Il X (.builtin "max") (fun xs H Q=>∃i j,xs=[.int i,.int j]∧Q (.int (if j>i then j else i)) H):=by
 intro pins s σ H xs us Q I r h
 obtain⟨i,j,rfl,q⟩:=h
 obtain⟨u,w',rfl,⟨t,rfl⟩,⟨t',rfl⟩⟩:=vals2 r
 refine max_two_ints (I.ok.hd hc) fun h' tk k=>⟨_,H,I.kept k,?_,q⟩
 by_cases hj:j>i
 ·rw[if_pos hj,if_pos hj];exact⟨_,rfl⟩
 ·rw[if_neg hj,if_neg hj];exact⟨_,rfl⟩
end
structure Yc(h:Heap)(x dx C:Addr)(mA:Str→Option Value):Prop where
 obj:h.get? x=some (W.instObj C dx)
 ns:h.Ns1 dx mA
 ne:dx≠x
theorem AbC{h:Heap}{dx:Addr}{mA:Str→Option Value}(n:h.Ns1 dx mA):∃od,h.get? dx=some od∧∀name,W.lookIn name od=some (mA name):=by
 obtain⟨o,es,ep,ho,hd,hk,_,hm⟩:=n
 refine⟨o,ho,fun name=>?_⟩
 have e:=hm name
 unfold nsFind findBy at e
 rw[←Array.find?_toList]at e
 unfold W.lookIn
 rw[hd]
 dsimp only
 split
 ·rename_i y q
  rw[q]at e
  exact congrArg some e
 ·rename_i q
  rw[q]at e
  have a:es.toList.any (·.refKey)=false:=by
   rw[List.any_eq_false]
   intro y hy
   obtain⟨z,t,hkey⟩:=hk y (Array.mem_toList_iff.mp hy)
   simp[DictEntry.refKey,hkey]
  have a':¬es.toList.any (·.refKey)=true:=by rw[a];exact Bool.false_ne_true
  rw[if_neg a']
  exact congrArg some e
theorem Yc.look{h:Heap}{x dx C:Addr}{mA:Str→Option Value}(I:Yc h x dx C mA):∃od,W.InstAt h x (W.instObj C dx) C (some od)∧∀name,W.lookIn name od=some (mA name) :=
 let ⟨od,ho,hl⟩:=AbC I.ns
 ⟨od,⟨I.obj,rfl,rfl,ho⟩,hl⟩
section
variable{prog:Program}{w:World}{A:Around}{E:Value→Shared→Prop}{s:Shared}{K:W.Frag}{x dx C f:Addr}{mA:Str→Option Value}{name:Str}{v:Value}
theorem get_map{expr:Bool}{Q:Value→Shared→Prop}(X:K.In s.heap)(I:Yc s.heap x dx C mA)(hg:W.plainGet K C name=true)(hh:W.hasDictIn K C=true)
  (ha:W.findIn K (.ref C) name=some none) (hv:mA name=some v) (hv':W.handedIn v=true) (h:Q v {s with toks:=s.toks+1}) :
  wpAny (model prog w) A (getAttr (.ref x) name expr) Q E s:=by
 obtain⟨od,J,hl⟩:=I.look
 exact W.get_value X J (W.plainGet_of hg).1 (W.findObj_own hh ha rfl (by rw[hl,hv])) hv' h
theorem Ac7{pl:Sem Bool}{Q:Value×List Value→Shared→Prop}(X:K.In s.heap)(I:Yc s.heap x dx C mA)(hg:W.plainGet K C name=true)
  (hf:W.findIn K (.ref C) name=some (some (.ref f))) (ht:W.isFn K (.ref f)=true) (hv:mA name=none) (h:Q (.ref f,[.ref x]) s) :
  wpAny (model prog w) A (getMethod (.ref x) name pl) Q E s:=by
 obtain⟨od,J,hl⟩:=I.look
 exact W.method_fn X J (W.plainGet_of hg).1 (W.plainGet_of hg).2 hf (beq_iff_eq.mp ht) (by show(W.lookIn name od).map (·.isSome)=some false;rw[hl,hv];rfl) h
theorem Af8{ns:List Str}{Q:Unit→Shared→Prop}(X:K.In s.heap)(I:Yc s.heap x dx C mA)
  (hs:W.findIn K (.ref C) "__setattr__"=some (some (.builtin "object.__setattr__"))) (hp:W.plainOver K C=true) (ht:W.takerIn K C name=some none) (hh:W.hasDictIn K C=true)
  (hw:PySem.Within mA ns) (hsz:ns.length≤sizeLine)
  (h:∀h',Yc h' x dx C (fun y=>if y=name then some v else mA y)→Heap.SameBut dx s.heap h'→Q () {s with heap:=h',toks:=s.toks+2}) :
  wpAny (model prog w) A (setAttr (.ref x) name v) Q E s:=by
 obtain⟨od,J,hl⟩:=I.look
 refine W.set_plain X J hs (W.osa_open (s:={s with toks:=s.toks+1}) (r:=none) X J hp ht fun b=>?_)
 obtain⟨cd,hc,hd'⟩:=W.any_some hh
 have hx:s.heap.get? x=some ⟨.ref C,some dx,.plain,#[]⟩:=I.obj
 refine wpAny_bind (wpAny_pure (wpAny_bind (wpAny_bind (wpAny_loadPart hx (wpAny_bind (W.Looks.here (s:={s with toks:=s.toks+1}) (W.looks_clsIn X hc) ?_))))))
 rw[hd']
 refine wpAny_pure (a:=some dx) (wpAny_bind (wpAny_pure (wpAny_bind ?_)))
 refine wpAny_nsSet1 (s:={s with toks:=s.toks+1}) I.ns fun h' hn2 hs2=>?_
 obtain⟨oD,esD,epD,hoD,hdD,hcD⟩:=hn2.count (PySem.Within.cons name v hw)
 refine wpAny_bind (wpAny_lookBehind hoD (by rw[hdD];exact pastItsLine_dict (Nat.le_trans hcD (by rw[List.length_cons];omega))) ?_)
 exact wpAny_pure (h _ ⟨(hs2.2 _ (Ne.symm I.ne)).trans I.obj,hn2,I.ne⟩ hs2)
theorem AeC{R:Result→Shared→Prop}{vs:List Value}{kw:List (Str×Value)}(X:K.In s.heap)(hm:W.makesIn K C=true)
  (hi:W.findIn K (.ref C) "__init__"=some (some (.ref f))) (hf:W.typeIn K (.ref f)=some (.type "function"))
  (h:codeAny (model prog w) (A.under (.builtin "type.__call__" ⟨.ref C::vs,kw⟩)) (.call (.ref f) ⟨.ref (s.heap.objs.size+1)::vs,kw⟩) (W.InitBack (s.heap.objs.size+1) R)
   {s with heap:=(s.heap.push W.emptyDict).push (W.instObj C s.heap.objs.size)}) :
  codeAny (model prog w) A (.call (.ref C) ⟨vs,kw⟩) R s:=by
 obtain⟨hh,g,d,t,os⟩:=s
 exact W.make_core (W.makes_of X hm) (W.looks_findIn X hi) (fun self=>W.bind_fn X self hf) (.inl rfl) h
end
def HW(f:Str)(v:V):List (Str×V)→List (Str×V)
 | []=>[(f,v)]
 |(g,x)::r=>if g=f then(g,v)::r else(g,x)::HW f v r
theorem Oz(f g:Str)(v:V):∀fs:List (Str×V),(HW f v fs).lookup g=if g=f then some v else fs.lookup g
 | []=>by
  show List.lookup g [(f,v)]=_
  by_cases h:g=f
  ·have hb:(g==f)=true:=beq_iff_eq.mpr h
   simp only[List.lookup,hb,if_pos h]
  ·have hb:(g==f)=false:=beq_eq_false_iff_ne.mpr h
   simp only[List.lookup,hb,if_neg h]
 | (k,x)::r=>by
  have ih:=Oz f g v r
  rw[show HW f v ((k,x)::r)=(if k=f then(k,v)::r else(k,x)::HW f v r)from rfl]
  by_cases hk:k=f
  ·rw[if_pos hk]
   by_cases h:g=k
   ·have hb:(g==k)=true:=beq_iff_eq.mpr h
    simp only[List.lookup,hb,if_pos (h.trans hk)]
   ·have hb:(g==k)=false:=beq_eq_false_iff_ne.mpr h
    simp only[List.lookup,hb,if_neg (fun e:g=f=>h (e.trans hk.symm))]
  ·rw[if_neg hk]
   by_cases h:g=k
   ·have hb:(g==k)=true:=beq_iff_eq.mpr h
    simp only[List.lookup,hb,if_neg (fun e:g=f=>hk (h.symm.trans e))]
   ·have hb:(g==k)=false:=beq_eq_false_iff_ne.mpr h
    simp only[List.lookup,hb]
    exact ih
theorem Om(f:Str)(v:V):∀fs:List (Str×V),f∈(HW f v fs).map (·.1)∧∀g,g∈fs.map (·.1)→g∈(HW f v fs).map (·.1)
 | []=>⟨by simp[HW],fun g h=>by simp at h⟩
 | (k,x)::r=>by
  obtain⟨i1,i2⟩:=Om f v r
  rw[show HW f v ((k,x)::r)=(if k=f then(k,v)::r else(k,x)::HW f v r)from rfl]
  by_cases hk:k=f
  ·rw[if_pos hk]
   subst hk
   exact⟨by simp,fun g h=>by simpa using h⟩
  ·rw[if_neg hk]
   refine⟨?_,fun g h=>?_⟩
   ·rw[List.map_cons]
    exact List.mem_cons_of_mem _ i1
   ·rw[List.map_cons]at h ⊢
    rcases List.mem_cons.mp h with e|e
    ·exact List.mem_cons.mpr (.inl e)
    ·exact List.mem_cons_of_mem _ (i2 g e)
theorem Ou(f:Str)(v:V):∀fs:List (Str×V),(HW f v fs).length≤fs.length+1
 | []=>by simp[HW]
 | (k,x)::r=>by
  have ih:=Ou f v r
  rw[show HW f v ((k,x)::r)=(if k=f then(k,v)::r else(k,x)::HW f v r)from rfl]
  by_cases hk:k=f
  ·rw[if_pos hk,List.length_cons,List.length_cons];omega
  ·rw[if_neg hk,List.length_cons,List.length_cons];omega
theorem RV.some_of{v:V}{o:Option Value}(r:RV (some v) o):∃u,o=some u∧RelV v u:=by
 cases o with
 |none=>exact(show False from r).elim
 |some u=>exact⟨u,rfl,r⟩
theorem RV.none_of{o:Option Value}(r:RV none o):o=none:=by
 cases o with
 |none=>rfl
 |some u=>exact(show False from r).elim
theorem Abe{v:V}{u:Value}(r:RelV v u):W.handedIn u=true:=by
 cases v with
 |non=>cases(show u=Value.none from r);rfl
 |bl b=>cases(show u=Value.bool b from r);rfl
 |int i=>obtain⟨t,e⟩:=(show ∃t,u=Value.int i t from r);cases e;rfl
 |str x=>obtain⟨t,e⟩:=(show ∃t,u=Value.str x t from r);cases e;rfl
 |byt b=>obtain⟨t,e⟩:=(show ∃t,u=Value.bytes b t from r);cases e;rfl
 |flt b=>obtain⟨t,e⟩:=(show ∃t,u=Value.float b t from r);cases e;rfl
 |ref a=>cases(show u=Value.ref a from r);rfl
 |ty n=>cases(show u=Value.type n from r);rfl
section
variable{P:Program}{w:World}{H H':Hp}{h h':Heap}{a C dx:Addr}{fs fs':List (Str×V)}
theorem Ud(hok:HOk P w H h)(e:H a=some (.ins C dx fs)):∃mA,Yc h a dx C mA∧(∀f,RV (fs.lookup f) (mA f))∧PySem.Within mA (fs.map (·.1))∧fs.length≤1000∧H dx=some (.own a):=by
 obtain⟨d,z,ne,ob,mA,n,r,q⟩:=(show GQ P w H h a (.ins C dx fs)from hok a _ e)
 exact⟨mA,⟨ob,n,ne⟩,r,q,z,d⟩
end
structure Cls(K:W.Frag)(C:Addr):Prop where
 pg:W.plainGet K C Str.empty=true
 hd:W.hasDictIn K C=true
 po:W.plainOver K C=true
 sa:W.findIn K (.ref C) "__setattr__"=some (some (.builtin "object.__setattr__"))
theorem Cls.get{K:W.Frag}{C:Addr}(c:Cls K C)(f:Str):W.plainGet K C f=true:=c.pg
def Iz(K:W.Frag)(C:Addr)(f:Str):Prop:=W.findIn K (.ref C) f=some none
theorem Iz.taker{K:W.Frag}{C:Addr}{f:Str}(n:Iz K C f):W.takerIn K C f=some none:=by
 unfold W.takerIn
 rw[show W.findIn K (.ref C) f=some none from n]
 rfl
structure Meth(K:W.Frag)(C:Addr)(m:Str)(f:Addr):Prop where
 at_:W.findIn K (.ref C) m=some (some (.ref f))
 fn:W.isFn K (.ref f)=true
 kp:W.keepIn K (.ref f)=true
section
variable{X:Cx}{pins:List (Addr×Obj)}{σ:St}{H:Hp}{s:Shared}{a C dx:Addr}{fs:List (Str×V)}{f:Str}{v:V}{A:Around}{E:Value→Shared→Prop}
theorem Yr{b:Bool}{Q:Value→Shared→Prop}(I:Inv X pins σ H s)(e:H a=some (.ins C dx fs))(c:Cls X.K C)(n:Iz X.K C f)(l:fs.lookup f=some v)
  (h:∀u s',Inv X pins σ H s'→RelV v u→Q u s'):wpAny (model X.prog X.w) A (getAttr (.ref a) f b) Q E s:=by
 obtain⟨mA,O,r,_,_,_⟩:=Ud I.hok e
 obtain⟨u,hu,ru⟩:=RV.some_of (v:=v) (o:=mA f) (by rw[←l];exact r f)
 exact get_map I.kIn O (c.get f) c.hd n hu (Abe ru) (h u _ (I.tok _) ru)
theorem Ry{m:Str}{g:Addr}{pl:Sem Bool}{Q:Value×List Value→Shared→Prop}(I:Inv X pins σ H s)(e:H a=some (.ins C dx fs))(c:Cls X.K C)(k:Meth X.K C m g)(l:fs.lookup m=none)
  (h:Q (.ref g,[.ref a]) s):wpAny (model X.prog X.w) A (getMethod (.ref a) m pl) Q E s:=by
 obtain⟨mA,O,r,_,_,_⟩:=Ud I.hok e
 have hn:mA m=none:=RV.none_of (by rw[←l];exact r m)
 exact Ac7 I.kIn O (c.get m) k.at_ k.fn hn h
theorem Yp{y:V}{u:Value}{Q:Unit→Shared→Prop}(I:Inv X pins σ H s)(e:H a=some (.ins C dx fs))(c:Cls X.K C)(n:Iz X.K C f)(hl:fs.length<1000)(ry:RelV y u)
  (h:∀s',Inv X pins σ (upd H a (.ins C dx (HW f y fs))) s'→Q () s'):wpAny (model X.prog X.w) A (setAttr (.ref a) f u) Q E s:=by
 obtain⟨mA,O,r,wi,_,ho⟩:=Ud I.hok e
 have hz:(fs.map (·.1)).length≤sizeLine:=by rw[List.length_map,sizeLine_eq];omega
 refine Af8 I.kIn O c.sa c.po n.taker c.hd wi hz fun h' O' sb=>h _ ?_
 have hd:∃o,h'.get? dx=some o:=let ⟨o,_,_,e',_⟩:=O'.ns;⟨o,e'⟩
 refine I.write (x:=a) (e:=dx) (by rw[e];exact True.intro) (.inr ho) (fun b q hb z=>(sb.2 b hb).trans z) hd ?_
 refine⟨by rw[Bo O.ne];exact ho,?_,O.ne,O'.obj,_,O'.ns,fun g=>?_,fun g hg=>?_⟩
 ·have:=Ou f y fs;omega
 ·show RV ((HW f y fs).lookup g) (if g=f then some u else mA g)
  rw[Oz]
  by_cases q:g=f
  ·rw[if_pos q,if_pos q];exact ry
  ·rw[if_neg q,if_neg q];exact r g
 ·by_cases q:g=f
  ·rw[q];exact(Om f y fs).1
  ·refine(Om f y fs).2 g (wi g fun z=>hg ?_)
   show(if g=f then some u else mA g)=none
   rw[if_neg q];exact z
theorem Inv.made(I:Inv X pins σ H s):Inv X pins σ (upd (upd H s.heap.objs.size (.own (s.heap.objs.size+1))) (s.heap.objs.size+1) (.ins C s.heap.objs.size []))
  {s with heap:=(s.heap.push W.emptyDict).push (W.instObj C s.heap.objs.size)}:=by
 have e1:(s.heap.push W.emptyDict).get? s.heap.objs.size=some W.emptyDict:=Heap.get?_push_size s.heap rfl
 have e2:((s.heap.push W.emptyDict).push (W.instObj C s.heap.objs.size)).get? (s.heap.objs.size+1)=some (W.instObj C s.heap.objs.size):=by
  have:=Heap.get?_push_size (s.heap.push W.emptyDict) (o:=W.instObj C s.heap.objs.size) rfl
  rwa [Heap.size_push]at this
 have e3:(s.heap.push W.emptyDict).Ns s.heap.objs.size (fun _=>none):=⟨W.emptyDict,#[],_,e1,rfl,(fun e he=>absurd he (by simp)),fun _=>rfl⟩
 have I1:=I.laid (a:=s.heap.objs.size) (o:=.own (s.heap.objs.size+1)) (h':=s.heap.push W.emptyDict) (t':=s.toks) (fun b u q=>Heap.get?_push_of_some _ q) (Nat.le_refl _) ⟨_,e1⟩
 refine I1.laid (a:=s.heap.objs.size+1) (o:=.ins C s.heap.objs.size []) (t':=s.toks) (fun b u q=>Heap.get?_push_of_some _ q) (Nat.le_of_eq (Heap.size_push _ _)) ?_
 have ne:s.heap.objs.size≠s.heap.objs.size+1:=Nat.ne_of_lt (Nat.lt_succ_self _)
 refine⟨by rw[Bo ne,Ce],Nat.zero_le _,ne,e2,fun _=>none,(Heap.Ns1.of_empty e3).at fun o q=>Heap.get?_push_of_some _ q,fun _=>True.intro,fun y hy=>absurd rfl hy⟩
theorem Agy{prog:Program}{w:World}{env:Env}{e:Expr}{f:Str}{pos:Pos}{s:Shared}{Q:Value→Shared→Prop}(hb:attributeBase e f env (eval e env)=eval e env)
  (h:wpAny (model prog w) A (eval e env) (fun o s₁=>wpAny (model prog w) A (getAttr o f true) Q E s₁) E s):wpAny (model prog w) A (eval (.Attribute e f pos) env) Q E s :=
 Attribute_any_ h (by rw[arm_eval_Attribute,hb])
end
def AoE(K:W.Frag)(ta:TE)(f:Str):TE:=fun σ H Q=>ta σ H fun x H1=>∃a C dx fs v,x=.ref a∧H1 a=some (.ins C dx fs)∧Cls K C∧Iz K C f∧fs.lookup f=some v∧Q v H1
def Aoc(K:W.Frag)(ta tv:TE)(f:Str):TS:=fun D σ H=>tv σ H fun y H1=>ta σ H1 fun x H2=>∃a C dx fs,x=.ref a∧H2 a=some (.ins C dx fs)∧Cls K C∧Iz K C f∧fs.length<1000 ∧
 D.nx σ (upd H2 a (.ins C dx (HW f y fs)))
section
variable{X:Cx}{o e value:Expr}{f:Str}{pos pos' tpos:Pos}{ta tv:TE}
theorem Ajb(he:PE X e ta)(hb:attributeBase e f X.env (eval e X.env)=eval e X.env):PE X (.Attribute e f pos) (AoE X.K ta f):=by
 intro pins s σ H Q I h
 refine Agy hb (thn (he pins s σ H _ I h) fun u s1 ⟨x,H1,I1,rx,a,C,dx,fs,v,ex,ea,c,n,l,q⟩=>?_)
 subst ex
 obtain rfl:u=Value.ref a:=rx
 exact Yr I1 ea c n l fun u' s2 I2 ru=>⟨v,H1,I2,ru,q⟩
theorem X8(ha:PE X o ta)(hv:PE X value tv)(hs:swapsWith value (some (.Attribute o f pos')) pos.line X.env=pure false):PS X (.Assign [.Attribute o f pos'] value pos) (Aoc X.K ta tv f):=by
 intro pins s σ H D I h
 refine plainObj_wpAny_Assign_Attribute (thn (hv pins s σ H _ I h) fun u s1 ⟨y,H1,I1,ry,q⟩=>thn (ha pins s1 σ H1 _ I1 q) fun ov s2 ⟨x,H2,I2,rx,a,C,dx,fs,ex,ea,c,n,l,q2⟩=>?_) hs
 subst ex
 obtain rfl:ov=Value.ref a:=rx
 exact Yp I2 ea c n l ry fun s3 I3=>⟨σ,_,I3,q2⟩
end
section
variable{X:Cx}{pins:List (Addr×Obj)}{σ:St}{H:Hp}{s:Shared}{A:Around}{E:Value→Shared→Prop}{Q:Value→Shared→Prop}{c:Value}{b:Bool}
end
structure El(k:Nat)(A:Around):Prop where
 hd:A.handled=none
 dp:A.depth+3*k+5<recursionLimit
 un:A.units+16*k+200<cLine
theorem El.mono{j k:Nat}{A:Around}(r:El k A)(h:j≤k):El j A:=⟨r.hd,by have:=r.dp;omega,by have:=r.un;omega⟩
theorem El.deeper{k:Nat}{A:Around}(r:El (k+1) A)(env:Env):El k (A.deeper env) :=
 ⟨r.hd,by have:=r.dp;show A.depth+1+3*k+5<_;omega,by have:=r.un;show A.units+3+16*k+200<_;omega⟩
theorem XF{A:Around}{C:Addr}{us:List Value}{kw:List (Str×Value)}:(A.under (.builtin "type.__call__" ⟨.ref C::us,kw⟩)).depth=A.depth+1:=by
 first|rfl|simp[Around.under,Code.weight,Code.isCreation,Code.isGuard,Code.isCaller,Code.frames,Code.isFrame,guardIds]
theorem Yk{A:Around}{C:Addr}{us:List Value}{kw:List (Str×Value)}:(A.under (.builtin "type.__call__" ⟨.ref C::us,kw⟩)).units=A.units+1:=by
 first|rfl|simp[Around.under,Code.cUnits,Code.frames,Code.isFrame]
theorem El.make{k:Nat}{A:Around}(r:El (k+1) A)(C:Addr)(us:List Value)(kw:List (Str×Value)):El k (A.under (.builtin "type.__call__" ⟨.ref C::us,kw⟩)) :=
 ⟨r.hd,by have:=r.dp;rw[XF];omega,by have:=r.un;rw[Yk];omega⟩
theorem El.depth{k:Nat}{A:Around}(r:El k A):A.depth<recursionLimit:=by have:=r.dp;omega
theorem El.units{k:Nat}{A:Around}(r:El k A):A.units+64<cLine:=by have:=r.un;omega
def Akf:TA:=fun _ H Q=>Q [] H
def Alp(ta:TE)(tr:TA):TA:=fun σ H Q=>ta σ H fun x H1=>tr σ H1 fun xs H2=>Q (x::xs) H2
section
variable{X:Cx}{e:Expr}{es:List Expr}{te:TE}{t:TA}{pos:Pos}
theorem Lr:PA X [] Akf:=fun _ _ _ _ H Q I h=>Calls.spliced_nil ⟨[],H,I,.nil,h⟩
theorem Hs(ha:PE X e te)(hr:PA X es t)(hs:starEach (e::es) X.env=(false,eval e X.env)::starEach es X.env:=by rfl):PA X (e::es) (Alp te t):=by
 intro pos pins s σ H Q I h
 rw[hs]
 show wpAny _ _ (spliced ((false,eval e X.env)::backTo pos (starEach es X.env))) _ _ s
 refine Calls.spliced_cons (thn (ha pins s σ H _ I h) fun u s1 ⟨x,H1,I1,r1,q1⟩=>?_)
 exact thn (hr pos pins s1 σ H1 _ I1 q1) fun us s2 ⟨xs,H2,I2,r2,q2⟩=>⟨x::xs,H2,I2,.cons r1 r2,q2⟩
def Anu(t:TA):TE:=fun σ H Q=>t σ H fun xs H1=>xs.length≤sizeLine∧∀p,H1 p=none→Q (.ref p) (upd H1 p (.tup xs))
def AnG(t:TA):TE:=fun σ H Q=>t σ H fun xs H1=>xs.length≤sizeLine∧∀p,H1 p=none→Q (.ref p) (upd H1 p (.lst xs))
theorem AjC{x1}(h:PA X es t):PE X (.Tuple es x1 pos) (Anu t):=by
 intro pins s σ H Q I hq
 refine wpAny_Tuple_spliced (thn (h pos pins s σ H _ I hq) fun us s1 ⟨xs,H1,I1,r,z,q⟩=>⟨by rw[←r.length];exact z,?_⟩)
 have hf:H1 s1.heap.objs.size=none:=I1.hok.fresh (Nat.le_refl _)
 refine⟨.ref s1.heap.objs.size,upd H1 s1.heap.objs.size (.tup xs),I1.laid (t':=s1.toks) (fun b u e=>Heap.get?_push_of_some _ e) (Nat.le_refl _) ?_,rfl,q _ hf⟩
 exact⟨z,us,r,⟨_,Heap.get?_push_size _ rfl,rfl,_,rfl⟩⟩
theorem Acp(h:PA X es t):PE X (.List es pos) (AnG t):=by
 intro pins s σ H Q I hq
 refine wpAny_List_spliced (thn (h pos pins s σ H _ I hq) fun us s1 ⟨xs,H1,I1,r,z,q⟩=>⟨by rw[←r.length];exact z,?_⟩)
 have hf:H1 s1.heap.objs.size=none:=I1.hok.fresh (Nat.le_refl _)
 refine⟨.ref s1.heap.objs.size,upd H1 s1.heap.objs.size (.lst xs),I1.laid (t':=s1.toks) (fun b u e=>Heap.get?_push_of_some _ e) (Nat.le_refl _) ?_,rfl,q _ hf⟩
 exact⟨z,us,0,r,Heap.get?_push_size _ rfl⟩
end
abbrev Sp:=List V→Hp→VK→XK→Prop
abbrev CXT:=List Env→Hp→Shared→XK→Value→Shared→Prop
structure Y8(P:Program)(w:World)(K:W.Frag)(mg:Str→Option Value)(base:Heap)(A:Around)(outer:List Env)(s:Shared)(H:Hp):Prop where
 frames:A.frames=some outer
 mod:Mod K mg base
 bs:∀b o,base.get? b=some o→s.heap.get? b=some o∧H b=none
 bsz:base.objs.size≤s.heap.objs.size
 gW:s.heap.FunFrames base outer
 frf:∀b∈frs outer,H b=none
 hok:HOk P w H s.heap
 bare:AllBare s.gens
def CE(outer:List Env)(P:Program)(w:World)(H:Hp)(s:Shared)(Q:VK)(u:Value)(s':Shared):Prop :=
 ∃v H',s'.os=s.os∧AllBare s'.gens∧Un (frs outer) [] H H' s.heap s'.heap∧HOk P w H' s'.heap∧RelV v u∧Q v H'
def CR(CX:CXT)(outer:List Env)(P:Program)(w:World)(H:Hp)(s:Shared)(Q:VK)(E:XK)(r:Result)(s':Shared):Prop :=
 match r with
 |.ok (.ret u)=>CE outer P w H s Q u s'
 |.ok _=>False
 |.error e=>CX outer H s E e s'
structure HJ(P:Program)(w:World)(K:W.Frag)(mg:Str→Option Value)(base:Heap)(CX:CXT)(k:Nat)(f:Addr)(fd:FuncData)(ps:List Str)(sp:Sp):Prop where
 len:∀vs H Q E,sp vs H Q E→vs.length=ps.length
 run:∀(A:Around)(outer:List Env)(s:Shared)(H:Hp)(args:Args)(us:List Value)(vs:List V)(Q:VK)(E:XK),El k A→Y8 P w K mg base A outer s H→BindsTo s fd args (ps.zip us)→Vals vs us→sp vs H Q E →
  codeAny (model P w) A (.call (.ref f) args) (CR CX outer P w H s Q E) s
theorem Y8.make{P:Program}{w:World}{K:W.Frag}{mg:Str→Option Value}{base:Heap}{A:Around}{outer:List Env}{s:Shared}{H:Hp}(e:Y8 P w K mg base A outer s H)(C:Addr)(us:List Value)(kw:List (Str×Value)) :
  Y8 P w K mg base (A.under (.builtin "type.__call__" ⟨.ref C::us,kw⟩)) outer s H:=⟨by first|exact e.frames|(simpa [Around.under,Code.envs,Code.isFrame,pushEnvs] using e.frames),e.mod,e.bs,e.bsz,e.gW,e.frf,e.hok,e.bare⟩
section
variable{X:Cx}{pins:List (Addr×Obj)}{σ:St}{H:Hp}{s s':Shared}
theorem Inv.env0(I:Inv X pins σ H s):Y8 X.prog X.w X.K X.mg X.base X.A X.stack s H :=
 ⟨I.ok.frames,I.ok.mod,I.bs,Nat.le_trans I.ok.bsz I.sz,I.stack,I.nH,I.hok,I.bare⟩
theorem Inv.after{Q:VK}{u:Value}(I:Inv X pins σ H s)(h:CE X.stack X.prog X.w H s Q u s'):EP X pins σ Q u s':=by
 obtain⟨v,H',os,bare,un,hok,r,q⟩:=h
 obtain⟨hh,g,d,t,os'⟩:=s'
 obtain rfl:os'=s.os:=os
 exact⟨v,H',I.call (h':=hh) (g':=g) (d':=d) (t':=t) (ch:=[]) un hok bare (fun b z=>absurd z (by simp)),r,q⟩
end
def Ahr(sp:Sp)(dvs:List V)(E:XK)(t:TA):TE:=fun σ H Q=>t σ H fun vs H1=>sp (vs++dvs) H1 Q E
def AmW(C:Addr)(sp:Sp)(dvs:List V)(E:XK)(t:TA):TE:=fun σ H Q=>t σ H fun vs H1=>∀x dx,H1 x=none→H1 dx=none→dx≠x →
 sp (.ref x::(vs++dvs)) (upd (upd H1 dx (.own x)) x (.ins C dx [])) (fun v H2=>v=.non∧Q (.ref x) H2) E
def Binds(K:W.Frag)(fd:FuncData)(ps:List Str)(ds:List Value):Prop :=
 ∀(s:Shared)(us:List Value),K.In s.heap→(us++ds).length=ps.length→BindsTo s fd ⟨us,[]⟩ (ps.zip (us++ds))
theorem Binds.all{K:W.Frag}{fd:FuncData}{ps:List Str}(h:∀us:List Value,us.length=ps.length→bindArgs fd ⟨us,[]⟩=pure (ps.zip us)):Binds K fd ps []:=fun s us _ hl=>by
 rw[List.append_nil]at hl ⊢
 exact .of_eq (h us hl)
def Passes(CX:CXT)(X:Cx)(E:XK):Prop:=∀(pins:List (Addr×Obj))(σ:St)(H:Hp)(s:Shared)(e:Value)(s':Shared),Inv X pins σ H s→CX X.stack H s E e s'→X.xe e s'
section
variable{X:Cx}{CX:CXT}{k:Nat}{f C:Addr}{fd:FuncData}{ps:List Str}{sp:Sp}{dvs:List V}{ds:List Value}{E:XK}{x m:Str}{p pos apos:Pos}{e o:Expr}{es:List Expr}{ta:TE}{t:TA}
theorem Ve{pins:List (Addr×Obj)}{σ:St}{H:Hp}{s:Shared}{Q:VK}{us:List Value}{vs:List V}(F:HJ X.prog X.w X.K X.mg X.base CX k f fd ps sp)(hr:El k X.A)(hb:Binds X.K fd ps ds)(hd:Vals dvs ds)(hx:Passes CX X E)
  (I:Inv X pins σ H s) (r:Vals vs us) (h:sp (vs++dvs) H Q E):wpAny (model X.prog X.w) X.A (call (.ref f) us) (EP X pins σ Q) X.xe s:=by
 have r2:Vals (vs++dvs) (us++ds):=r.append hd
 have hl:(us++ds).length=ps.length:=by rw[←r2.length];exact F.len _ _ _ _ h
 refine wpAny_call (codeAny_mono (F.run X.A X.stack s H ⟨us,[]⟩ (us++ds) (vs++dvs) Q E hr I.env0 (hb s us I.kIn hl) r2 h) fun r s' hq=>?_)
 cases r with
 |error e=>exact hx pins σ H s e s' I hq
 | ok fl =>
  cases fl with
  |ret u=>exact I.after hq
  |next=>exact False.elim hq
  |brk=>exact False.elim hq
  |cont=>exact False.elim hq
theorem AaO(F:HJ X.prog X.w X.K X.mg X.base CX k f fd ps sp)(hr:El k X.A)(hg:Gl X x)(hm:X.mg x=some (.ref f))(hk:W.keepIn X.K (.ref f)=true)(hb:Binds X.K fd ps ds)(hd:Vals dvs ds)(hx:Passes CX X E)
  (ha:PA X (e::es) t) (hdb:(x==("__debug__":Str))=false:=by decide) (he:starEach (e::es) X.env=(false,eval e X.env)::starEach es X.env:=by rfl) (hpl:(backTo pos (starEach es X.env)).any (·.1)=false:=by rfl) :
  PE X (.Call (.Name x p) (e::es) [] pos) (Ahr sp dvs E t):=by
 intro pins s σ H Q I h
 refine wpAny_Call_Name_kw (Vk I hg hm ?_ hdb)
 refine W.callWith_K (h₀:=X.base) I.ok.mod.kin hk (thn (ha pos pins s σ H _ I h) fun us s1 ⟨vs,H1,I1,r,q⟩=>⟨I1.kIn,?_⟩) he hpl
 exact Ve F hr hb hd hx I1 r q
structure Mk(K:W.Frag)(C f:Addr):Prop where
 makes:W.makesIn K C=true
 init:W.findIn K (.ref C) "__init__"=some (some (.ref f))
 fn:W.isFn K (.ref f)=true
 kp:W.keepIn K (.ref C)=true
theorem AeT{pins:List (Addr×Obj)}{σ:St}{H:Hp}{s:Shared}{Q:VK}{us:List Value}{vs:List V}(M:Mk X.K C f)(F:HJ X.prog X.w X.K X.mg X.base CX k f fd ps sp)(hr:El (k+1) X.A)(hb:Binds X.K fd ps ds)(hd:Vals dvs ds)
  (hx:Passes CX X E) (I:Inv X pins σ H s) (r:Vals vs us)
  (h:∀x dx,H x=none→H dx=none→dx≠x→sp (.ref x::(vs++dvs)) (upd (upd H dx (.own x)) x (.ins C dx [])) (fun v H2=>v=.non∧Q (.ref x) H2) E) :
  wpAny (model X.prog X.w) X.A (call (.ref C) us) (EP X pins σ Q) X.xe s:=by
 have hq:=h (s.heap.objs.size+1) s.heap.objs.size (I.hok.fresh (Nat.le_succ _)) (I.hok.fresh (Nat.le_refl _)) (Nat.ne_of_lt (Nat.lt_succ_self _))
 have I2:=Inv.made (C:=C) I
 have r2:Vals (V.ref (s.heap.objs.size+1)::(vs++dvs)) (Value.ref (s.heap.objs.size+1)::(us++ds)):=.cons rfl (r.append hd)
 have hl:(Value.ref (s.heap.objs.size+1)::us++ds).length=ps.length:=by
  have e:=r2.length
  rw[F.len _ _ _ _ hq]at e
  exact e.symm
 refine wpAny_call (AeC (f:=f) I.kIn M.makes M.init (beq_iff_eq.mp M.fn) (codeAny_mono (F.run _ X.stack _ _ ⟨Value.ref (s.heap.objs.size+1)::us,[]⟩ (Value.ref (s.heap.objs.size+1)::(us++ds)) _ _ E (hr.make C us [])
  (I2.env0.make C us []) (hb _ (Value.ref (s.heap.objs.size+1)::us) I2.kIn hl) r2 hq) fun r s' hq'=>?_))
 cases r with
 |error e=>exact hx pins σ _ _ e s' I2 hq'
 | ok fl =>
  cases fl with
  | ret u =>
   obtain⟨v,H',I3,rv,ev,q3⟩:=I2.after hq'
   subst ev
   exact⟨rv,⟨V.ref (s.heap.objs.size+1),H',I3,rfl,q3⟩⟩
  |next=>exact False.elim hq'
  |brk=>exact False.elim hq'
  |cont=>exact False.elim hq'
theorem Ag7(M:Mk X.K C f)(F:HJ X.prog X.w X.K X.mg X.base CX k f fd ps sp)(hr:El (k+1) X.A)(hg:Gl X x)(hm:X.mg x=some (.ref C))(hb:Binds X.K fd ps ds)(hd:Vals dvs ds)(hx:Passes CX X E)
  (ha:PA X (e::es) t) (hdb:(x==("__debug__":Str))=false:=by decide) (he:starEach (e::es) X.env=(false,eval e X.env)::starEach es X.env:=by rfl) (hpl:(backTo pos (starEach es X.env)).any (·.1)=false:=by rfl) :
  PE X (.Call (.Name x p) (e::es) [] pos) (AmW C sp dvs E t):=by
 intro pins s σ H Q I h
 refine wpAny_Call_Name_kw (Vk I hg hm ?_ hdb)
 refine W.callWith_K (h₀:=X.base) I.ok.mod.kin M.kp (thn (ha pos pins s σ H _ I h) fun us s1 ⟨vs,H1,I1,r,q⟩=>⟨I1.kIn,?_⟩) he hpl
 exact AeT M F hr hb hd hx I1 r q
end
section
variable{X:Cx}{CX:CXT}{k:Nat}{f C:Addr}{fd:FuncData}{ps ks:List Str}{sp:Sp}{E:XK}{x m:Str}{p pos apos kpos:Pos}{e o:Expr}{es:List Expr}{kws:List Keyword}{te ta:TE}{t tk:TA}{nm:Option Str}
variable{g:List Value→List Value→List Value}{gV:List V→List V→List V}
end
structure Ao(N P:List Str)(sc:Scope):Prop where
 kind:sc.kind=.function
 co:sc.isCoroutine=false
 gen:sc.isGenerator=false
 nd:N.Nodup
 pre:N.take P.length=P
 par:∀x∈P,sc.names.lookup x=some .local∨sc.names.lookup x=some .cell
 qK:∀y∈sc.names,y.2≠.free
theorem SQ{kindOf:Str→Option NameKind}{x:Str}:∀{binds:List (Str×Value)} {m:Str→Option Value},(∀v,(x,v)∉binds)→bindL kindOf binds m x=m x
 | [],_,_=>rfl
 | (n,v)::r,m,h=>by
  unfold bindL
  rw[SQ fun w hw=>h w (List.mem_cons_of_mem _ hw)]
  split
  ·have:x≠n:=by rintro rfl;exact h v List.mem_cons_self
   simp[this]
  ·rfl
theorem Sw{kindOf:Str→Option NameKind}{x:Str}:∀{binds:List (Str×Value)} {m:Str→Option Value},(∀v,(x,v)∉binds)→bindC kindOf binds m x=m x
 | [],_,_=>rfl
 | (n,v)::r,m,h=>by
  unfold bindC
  rw[Sw fun w hw=>h w (List.mem_cons_of_mem _ hw)]
  split
  ·rfl
  ·have:x≠n:=by rintro rfl;exact h v List.mem_cons_self
   simp[this]
theorem Ti{kindOf:Str→Option NameKind}{x:Str}{v:Value}:∀{P:List Str} {vs:List Value} {i:Nat} {m:Str→Option Value},P.Nodup→P[i]? = some x→vs[i]? = some v→kindOf x=some .local →
  bindL kindOf (P.zip vs) m x=some v
 | [],_,_,_,_,h,_,_=>by simp at h
 |_::_,[],_,_,_,_,h,_=>by simp at h
 | p::P,w::vs,0,m,nd,h1,h2,hk=>by
  simp at h1 h2;subst h1;subst h2
  show bindL kindOf ((p,w)::P.zip vs) m p=_
  unfold bindL
  rw[SQ fun v hv=>(List.nodup_cons.mp nd).1 (List.of_mem_zip hv).1,if_pos hk]
  simp
 | p::P,w::vs,i+1,m,nd,h1,h2,hk=>by
  show bindL kindOf ((p,w)::P.zip vs) m x=_
  unfold bindL
  exact Ti (i:=i) (List.nodup_cons.mp nd).2 (by simpa using h1) (by simpa using h2) hk
theorem S7{kindOf:Str→Option NameKind}{x:Str}{v:Value}:∀{P:List Str} {vs:List Value} {i:Nat} {m:Str→Option Value},P.Nodup→P[i]? = some x→vs[i]? = some v→kindOf x≠some .local →
  bindC kindOf (P.zip vs) m x=some v
 | [],_,_,_,_,h,_,_=>by simp at h
 |_::_,[],_,_,_,_,h,_=>by simp at h
 | p::P,w::vs,0,m,nd,h1,h2,hk=>by
  simp at h1 h2;subst h1;subst h2
  show bindC kindOf ((p,w)::P.zip vs) m p=_
  unfold bindC
  rw[Sw fun v hv=>(List.nodup_cons.mp nd).1 (List.of_mem_zip hv).1,if_neg hk]
  simp
 | p::P,w::vs,i+1,m,nd,h1,h2,hk=>by
  show bindC kindOf ((p,w)::P.zip vs) m x=_
  unfold bindC
  exact S7 (i:=i) (List.nodup_cons.mp nd).2 (by simpa using h1) (by simpa using h2) hk
def start(N:List Str)(vs:List V):St:=vs.map some++List.replicate (N.length-vs.length) none
def X5(CX:CXT)(P:Program)(w:World)(K:W.Frag)(mg:Str→Option Value)(base:Heap)(N:List Str)(qual:Str)(scope:Scope)(f:Addr)(cd:Value)(A:Around)(outer:List Env)(s:Shared)(H:Hp)(E:XK):Cx where
 prog:=P
 w:=w
 K:=K
 mg:=mg
 base:=base
 A:=A.deeper (envOfC qual scope s.heap.objs.size f cd)
 N:=N
 s₀:=s
 H₀:=H
 env:=envOfC qual scope s.heap.objs.size f cd
 outer:=outer
 stack:=envOfC qual scope s.heap.objs.size f cd::outer
 ex:=[]
 calm:=true
 fn:=fun _=>true
 pn:=[]
 xe:=fun e s'=>wpAny (model P w) (A.deeper (envOfC qual scope s.heap.objs.size f cd)) (leaving (envOfC qual scope s.heap.objs.size f cd) e) (fun _ s''=>CX outer H s E e s'') (fun e' s''=>CX outer H s E e' s'') s'
theorem Wi{sc:Scope}{n:Nat}{x:Str}(h:sc.names.lookup x=some .cell):∃c,(cellsFrom n sc.names []).lookup x=some c:=by
 have q:=W.cellsFrom_some sc.names n [] (.inl h)
 exact Option.isSome_iff_exists.mp q
theorem AaW{CX:CXT}{P:Program}{w:World}{K:W.Frag}{mg:Str→Option Value}{base:Heap}{N ps:List Str}{qual:Str}{scope:Scope}{f:Addr}{cd:Value}{A:Around}{outer:List Env}{s s1:Shared}{H:Hp}{E:XK}{us:List Value}{vs:List V}
  (S:Ao N ps scope) (hd:A.handled=none) (e0:Y8 P w K mg base A outer s H) (hl:vs.length=ps.length) (r:Vals vs us)
  (x:InCallC s s.heap.objs.size (bindL (envOfC qual scope s.heap.objs.size f cd).kindOf (ps.zip us) fun _=>none) (cellsFrom (s.heap.objs.size+1) scope.names []) (bindC (envOfC qual scope s.heap.objs.size f cd).kindOf (ps.zip us) fun _=>none) s1) :
  Inv (X5 CX P w K mg base N qual scope f cd A outer s H E) [] (start N vs) H s1:=by
 have hpl:ps.length≤N.length:=by have:=congrArg List.length S.pre;rw[List.length_take]at this;omega
 obtain⟨h1,tk,rfl,hk⟩:=x.done
 have noA:∀b:Addr,b∉(X5 CX P w K mg base N qual scope f cd A outer s H E).ex:=fun b z=>absurd (show b∈([]:List Addr)from z) (by simp)
 refine⟨⟨e0.mod,S.kind,rfl,rfl,Nat.le_refl _,fun y z c h1 h2=>?_,fun y hy=>?_,fun y c _ h=>?_,fun _=>hd,Around.frames_deeper e0.frames,.inr ⟨rfl,rfl⟩,fun b z=>absurd z (noA b),e0.bs,e0.bsz,fun b _ _=>noA b,fun b z=>absurd z (noA b),e0.gW,e0.frf⟩,
  rfl,e0.bare,Un.kept hk,⟨_,x.toInCall.ns,fun i y v h1 h2 h3=>?_⟩,fun y c h=>⟨_,x.cell y c h⟩,e0.hok.fresh (Nat.le_refl _),fun y c h=>?_,fun p hp=>absurd (show p∈([]:List (Addr×Obj))from hp) (by simp),e0.hok.kept hk,?_⟩
 ·exact name_of_addr x.apart (PySem.mem_of_lookup h1) (PySem.mem_of_lookup h2)
 ·have hy:scope.names.lookup y=some .cell∨scope.names.lookup y=some .free:=hy
  rcases hy with hy|hy
  ·exact Wi hy
  ·exact absurd rfl (S.qK _ (PySem.mem_of_lookup hy))
 ·exact Nat.le_of_lt (x.above y c (PySem.mem_of_lookup h))
 ·have hi:i<vs.length:=by
   unfold start at h2
   by_cases hi:i<vs.length
   ·exact hi
   ·rw[List.getElem?_append_right (by simpa using hi)]at h2
    rw[List.getElem?_replicate]at h2
    split at h2<;>cases h2
  have ha:vs[i]? = some v:=by
   unfold start at h2
   rw[List.getElem?_append_left (by simpa using hi),List.getElem?_map]at h2
   cases e:vs[i]? with
   |none=>rw[e]at h2;cases h2
   |some a=>rw[e]at h2;cases h2;rfl
  obtain⟨u,hu,rv⟩:=r.get ha
  have hp:ps[i]? = some y:=by
   rw[←S.pre,List.getElem?_take_of_lt ∅];exact h1
  have ndP:ps.Nodup:=by rw[←S.pre];exact S.nd.sublist (List.take_sublist _ _)
  refine⟨u,rv,?_⟩
  rcases S.par y (List.mem_of_getElem? hp)with k|k
  ·exact .inl ⟨k,Ti ndP hp hu k⟩
  ·obtain⟨c,e⟩:=Wi (n:=s.heap.objs.size+1) k
   refine .inr ⟨.inl k,c,e,?_⟩
   have q:=x.cell y c e
   rw[S7 ndP hp hu (by show scope.names.lookup y≠_;rw[k];decide)]at q
   exact q
 ·exact e0.hok.fresh (Nat.le_of_lt (x.above y c (PySem.mem_of_lookup h)))
 ·unfold start
  show _=N.length
  rw[List.length_append,List.length_map,List.length_replicate]
  omega
theorem Ake{CX:CXT}{P:Program}{w:World}{K:W.Frag}{mg:Str→Option Value}{base:Heap}{k:Nat}{f:Addr}{name qual:Str}{params:Arguments}{body:List Stmt}{scope:Scope}{dV kV doc pm cdv ct oc:Value}{an od:Option Addr}
  {osl:Array (Option Value)} {N ps:List Str} {sp:Sp} (lk:K.lookup f=some ⟨oc,od,.func (W.fnOf name qual params body scope dV kV doc pm an cdv ct),osl⟩) (hcd:W.codeIn K cdv qual=true) (S:Ao N ps scope)
  (len:∀vs H Q E,sp vs H Q E→vs.length=ps.length)
  (hbody:∀(A:Around)(outer:List Env)(s:Shared)(H:Hp)(vs:List V)(Q:VK)(E:XK),El k (A.deeper (envOfC qual scope s.heap.objs.size f cdv))→sp vs H Q E →
   ∃t,PSs (X5 CX P w K mg base N qual scope f cdv A outer s H E) body t∧t {nx:=fun _ H'=>Q .non H',rt:=Q} (start N vs) H) :
  HJ P w K mg base CX (k+1) f (W.fnOf name qual params body scope dV kV doc pm an cdv ct) ps sp:=by
 refine⟨len,fun A outer s H args us vs Q E hr e0 hb r hsp=>?_⟩
 have hl:=len _ _ _ _ hsp
 have KX:K.In s.heap:=e0.mod.kin.keeps fun b o e=>(e0.bs b o e).1
 have lim:s.heap.NoLimit:=e0.mod.nolimit.keeps fun b o e=>(e0.bs b o e).1
 have hkind:∀y∈ps.zip us,scope.names.lookup y.1=some .local∨(scope.names.lookup y.1=some .cell∧((cellsFrom (s.heap.objs.size+1) scope.names []).lookup y.1).isSome=true):=fun⟨n,v⟩ hy=>by
  rcases S.par n (List.of_mem_zip hy).1 with q|q
  ·exact .inl q
  ·exact .inr ⟨q,W.cellsFrom_some _ _ _ (.inl q)⟩
 refine codeAny_call_function hr.depth (KX _ _ lk) rfl S.co S.gen rfl (W.codeRec_of KX hcd) (hb _ _ _ _ ?_)
 refine wpAny_newFunctionEnv_cells S.kind hkind fun env he s1 x=>?_
 subst he
 refine⟨lim.keeps x.toInCall.keep,codeAny_func ?_⟩
 obtain⟨t,ht,hq⟩:=hbody A outer s H vs Q E (hr.deeper _) hsp
 have I:Inv (X5 CX P w K mg base N qual scope f cdv A outer s H E) [] (start N vs) H s1:=AaW S hr.hd e0 hl r x
 refine wpAny_mono (ht [] s1 (start N vs) H _ I hq) (fun fl s' hs=>?_) fun e s' hs=>hs
 have fin:∀{σ':St} {H':Hp} {v:V} {u:Value},Inv (X5 CX P w K mg base N qual scope f cdv A outer s H E) [] σ' H' s'→RelV v u→Q v H'→CE outer P w H s Q u s' :=
  fun{σ' H' v u} J rv q=>⟨v,H',J.os,J.bare,J.base,J.hok,rv,q⟩
 cases fl with
 | ret u =>
  obtain⟨v,σ',H',J,rv,q⟩:=hs
  exact fin J rv q
 | next =>
  obtain⟨σ',H',J,q⟩:=hs
  exact fin (v:=V.non) (u:=Value.none) J rfl q
 | brk =>
  obtain⟨_,_,_,q⟩:=hs
  exact False.elim q
 | cont =>
  obtain⟨_,_,_,q⟩:=hs
  exact False.elim q
section
variable{X:Cx}{x:Str}{p pos:Pos}{e:Expr}{es:List Expr}{t:TA}{id T:String}{r:List V→Hp→VK→Prop}
def tCB(r:List V→Hp→VK→Prop)(t:TA):TE:=fun σ H Q=>t σ H fun vs H1=>r vs H1 Q
theorem Ro(hc:Il X (.builtin id) r)(hg:Gl X x)(hm:X.mg x=none)(hv:bootBuiltins x=some (.builtin id))(ha:PA X (e::es) t)(hn:x≠"__name__":=by decide)(hdb:(x==("__debug__":Str))=false:=by decide)
  (he:starEach (e::es) X.env=(false,eval e X.env)::starEach es X.env:=by rfl) (hpl:(backTo pos (starEach es X.env)).any (·.1)=false:=by rfl):PE X (.Call (.Name x p) (e::es) [] pos) (tCB r t):=by
 intro pins s σ H Q I h
 refine wpAny_Call_Name_kw (Rk I hg hm hv ?_ hn hdb)
 exact PyProof.Rows.callWith_builtin1 (thn (ha pos pins s σ H _ I h) fun us s1 ⟨vs,H1,I1,r1,q1⟩=>hc pins s1 σ H1 vs us Q I1 r1 q1) he hpl
theorem Ol(hc:Il X (.type T) r)(hg:Gl X x)(hm:X.mg x=none)(hv:bootBuiltins x=some (.type T))(ha:PA X (e::es) t)(hn:x≠"__name__":=by decide)(hdb:(x==("__debug__":Str))=false:=by decide)
  (he:starEach (e::es) X.env=(false,eval e X.env)::starEach es X.env:=by rfl) (hpl:(backTo pos (starEach es X.env)).any (·.1)=false:=by rfl):PE X (.Call (.Name x p) (e::es) [] pos) (tCB r t):=by
 intro pins s σ H Q I h
 refine wpAny_Call_Name_kw (Rk I hg hm hv ?_ hn hdb)
 exact PyProof.Rows.callWith_type1 (thn (ha pos pins s σ H _ I h) fun us s1 ⟨vs,H1,I1,r1,q1⟩=>hc pins s1 σ H1 vs us Q I1 r1 q1) he hpl
end
end L2
namespace HT
open PySem PyProof.Rows
def lexLt:List Int→List Int→Bool
 | [],[]=>false
 | [],_::_=>true
 |_::_,[]=>false
 |x::xs,y::ys=>if x=y then lexLt xs ys else decide (x<y)
theorem Ia(x y:Int)(xs ys:List Int):lexLt (x::xs) (y::ys)=if x=y then lexLt xs ys else decide (x<y):=rfl
theorem Jc:lexLt [] []=false:=rfl
theorem Rv(y:Int)(ys:List Int):lexLt [] (y::ys)=true:=rfl
theorem P0(x:Int)(xs:List Int):lexLt (x::xs) []=false:=rfl
theorem Ael(A:Around)(s:Shared)(a:Int)(t:Tok)(c:Int)(u:Tok):∃e,SeqAt.EqAt A s (.int a t) (.int c u) e∧(e=true↔a=c) :=
 ⟨(a==c),SeqAt.EqAt.int_int a t c u,by simp⟩
theorem AdS(A:Around)(s:Shared)(a:Int)(t:Tok)(c:Int)(u:Tok)(prog:Program)(w:World)(E:Value→Shared→Prop)(Q:Value→Shared→Prop)(h:Q (.bool (decide (a<c))) s) :
  wpAny (model prog w) A (richCompare .Lt (.int a t) (.int c u)) Q E s :=
 (PyProof.Rows.lt_int h:wpAny (model prog w) A (compareOp .Lt (.int a t) (.int c u)) Q E s)
section
open PySem.SeqAt
open PySem.AutoSeq1 (wpAny_loadPart')
open PySem.MeetsSeq PySem.MeetsSeq2 PySem.MeetsSeq3
theorem RK(l b:Addr)(items items2:Array Value)(n n2:Nat)(dd dd2:Option Addr)(sl sl2:Array (Option Value))(ns ms:List Int)(hi:IntsAre items.toList ns)(hj:IntsAre items2.toList ms) :
  Meets (Builtin.«tuple.__lt__» ⟨[.ref l,.ref b],[]⟩)
   (fun _ R s=>s.heap.get? l=some {cls:=.type "tuple",dict:=dd,data:=.seq items n,slots:=sl}∧s.heap.get? b=some {cls:=.type "tuple",dict:=dd2,data:=.seq items2 n2,slots:=sl2} ∧
    R (.ok (.ret (.bool (lexLt ns ms)))) s) :=
 .of_wp fun prog w A R s h=>by
  obtain⟨hp,g,d,tk,os⟩:=s;obtain⟨hl,hb,h⟩:=h
  have f2:=AutoSeq1.sub_tuple_tuple
  have z1:items.size=ns.length:=by rw[←hi.length];simp
  have z2:items2.size=ms.length:=by rw[←hj.length];simp
  wp_walk using wpAny_loadPart' hl,wpAny_loadPart' hb,wpAny_forIn_list _ (fun rest b s'=>b.1=none∧s'=⟨hp,g,d,tk,os⟩∧∃(vs ws:List Value)(ns' ms':List Int),rest=vs.zip ws ∧
   IntsAre vs ns'∧IntsAre ws ms'∧ns'.length+items2.size=ms'.length+items.size∧R (.ok (.ret (.bool (lexLt ns' ms')))) ⟨hp,g,d,tk,os⟩) _
  case turn =>
   rintro⟨y,x⟩ rest b s' ⟨hb',rfl,vs,ws,ns',ms',hz,hvi,hwi,hlen,hR⟩
   cases hvi with
   |nil=>rw[List.zip_nil_left]at hz;cases hz
   | cons a t rY =>
    cases hwi with
    |nil=>rw[List.zip_nil_right]at hz;cases hz
    | cons c u rZ =>
     rw[List.zip_cons_cons]at hz
     injection hz with hyx hrest
     injection hyx with hy hx
     subst hy hx
     rw[Ia]at hR
     simp only[List.length_cons]at hlen
     obtain⟨e,he,hiff⟩:=Ael A.in1 ⟨hp,g,d,tk,os⟩ a t c u
     refine wpAny_bind (he prog w _ _ ?_)
     cases e with
     | true =>
      rw[if_pos (hiff.mp rfl)]at hR
      wp_walk
      exact⟨rfl,rfl,_,_,_,_,hrest,rY,rZ,∅,hR⟩
     | false =>
      rw[if_neg (fun q=>absurd (hiff.mpr q) Bool.false_ne_true)]at hR
      have hri:=AdS A.in1 ⟨hp,g,d,tk,os⟩ a t c u prog w
      wp_walk using hri
      exact⟨_,rfl,by simpa using hR⟩
  case fin =>
   rintro⟨b1,b2⟩ s' ⟨hb',rfl,vs,ws,ns',ms',hz,hvi,hwi,hlen,hR⟩
   simp only at hb'
   subst hb'
   have hv:lexLt ns' ms'=decide (items.size<items2.size):=by
    cases hvi with
    | nil =>
     cases hwi with
     | nil =>
      simp only[List.length_nil]at hlen
      rw[Jc]
      exact(decide_eq_false ∅).symm
     | cons c u hw =>
      simp only[List.length_nil,List.length_cons]at hlen
      rw[Rv]
      exact(decide_eq_true ∅).symm
    | cons a t hv =>
     cases hwi with
     | nil =>
      simp only[List.length_nil,List.length_cons]at hlen
      rw[P0]
      exact(decide_eq_false ∅).symm
     | cons c u hw =>
      rw[List.zip_cons_cons]at hz
      cases hz
   rw[hv]at hR
   wp_walk
   exact⟨_,rfl,by simpa [Builtin.Tuple.tupleCompareSizes] using hR⟩
  case h =>
   exact⟨rfl,rfl,items.toList,items2.toList,ns,ms,rfl,hi,hj,∅,h⟩
end
section
variable{prog:Program}{w:World}{A:Around}{E:Value→Shared→Prop}{s:Shared}
theorem LK{l b:Addr}{items items2:Array Value}{ns ms:List Int}{Q:Value→Shared→Prop}(hl:IsTup s.heap l items)(hb:IsTup s.heap b items2)(hi:IntsAre items.toList ns)(hj:IntsAre items2.toList ms)
  (hu:A.units<cLine) (h:Q (.bool (lexLt ns ms)) s):wpAny (model prog w) A (compareOp .Lt (.ref l) (.ref b)) Q E s:=by
 obtain⟨⟨cls,dd,data,sl⟩,ho,hc,n,hd⟩:=id hl
 obtain⟨⟨cls2,dd2,data2,sl2⟩,ho2,hc2,n2,hd2⟩:=id hb
 simp only at hc hd hc2 hd2
 subst hc hd hc2 hd2
 exact richCompare_meets_room (op:=.Lt) ⟨_,ho,rfl⟩ ⟨_,ho2,rfl⟩ PySem.F.slot_tuple_lt PySem.F.entry_tuple_lt (PySem.F.args_tuple_lt_2 _ _) (RK l b items items2 n n2 dd dd2 sl sl2 ns ms hi hj)
  ⟨ho,ho2,show Value.bool (lexLt ns ms)≠Value.notImplemented∧Q (.bool (lexLt ns ms)) s from⟨(fun x=>nomatch x),h⟩⟩ hu
def sIx(n d:Nat):Option Int→Nat
 |none=>d
 |some v=>if v<0 then(v+(n:Int)).toNat else min v.toNat n
end
end HT
namespace L2
open PySem Spec PyProof.Rows
abbrev TO:=St→Hp→(Option Int→Hp→Prop)→Prop
def PO(X:Cx)(e:Option Expr)(t:TO):Prop :=
 ∀(pins:List (Addr×Obj))(s:Shared)(σ:St)(H:Hp)(Q:Option Int→Hp→Prop),Inv X pins σ H s→t σ H Q →
  wpAny (model X.prog X.w) X.A (evalPart e X.env) (fun u s'=>∃o H',Inv X pins σ H' s'∧IsPart u o∧Q o H') X.xe s
def Amw(t:TE):TO:=fun σ H Q=>t σ H fun x H1=>∃i,x=.int i∧Q (some i) H1
theorem intsAre_of{ns:List Int}:∀{us:List Value},Vals (ns.map V.int) us→IntsAre us ns:=by
 induction ns with
 |nil=>intro us r;rw[List.map_nil]at r;cases r;exact .nil
 | cons n ns ih =>
  intro us r
  rw[List.map_cons]at r
  cases r with
  | cons r1 r2 =>
   obtain⟨t,e⟩:=r1
   subst e
   exact .cons n t (ih r2)
section
variable{X:Cx}{e:Expr}{te:TE}{lo hi:Option Expr}{tl th:TO}{pos p2:Pos}
theorem Af4(h:PE X e te):PO X (some e) (Amw te):=by
 intro pins s σ H Q I hw
 rw[evalPart_some]
 refine thn (h pins s σ H _ I hw) fun u s1 ⟨x,H1,I1,r1,q1⟩=>?_
 obtain⟨i,rfl,q⟩:=q1
 obtain⟨t,rfl⟩:=r1
 exact⟨some i,H1,I1,.int i t,q⟩
def SlR(X:Cx)(r:V→Option Int→Option Int→Hp→VK→Prop):Prop :=
 ∀(pins:List (Addr×Obj))(s:Shared)(σ:St)(H:Hp)(x:V)(v vl vu:Value)(lo hi:Option Int)(sl:Addr)(Q:VK),Inv X pins σ H s→RelV x v→s.heap.IsSliceOf sl vl vu .none→IsPart vl lo→IsPart vu hi→r x lo hi H Q →
  ∃T id,typeLookup (.type T) "__getitem__"=pure (some (.builtin id))∧s.TypeIs v T∧wpAny (model X.prog X.w) X.A (getItem v (.ref sl)) (EP X pins σ Q) X.xe s
def tSl(r:V→Option Int→Option Int→Hp→VK→Prop)(te:TE)(tl th:TO):TE:=fun σ H Q=>te σ H fun x H1=>tl σ H1 fun l H2=>th σ H2 fun u H3=>r x l u H3 Q
theorem Adj{r:V→Option Int→Option Int→Hp→VK→Prop}(hr:SlR X r)(he:PE X e te)(hl:PO X lo tl)(hu:PO X hi th):PE X (.Subscript e (.Slice lo hi none p2) pos) (tSl r te tl th):=by
 intro pins s σ H Q I h
 refine Subscript_ (thn (he pins s σ H _ I h) fun v s1 ⟨x,H1,I1,r1,q1⟩=>?_)
 refine wpAny_Slice (thn (hl pins s1 σ H1 _ I1 q1) fun vl s2 ⟨l,H2,I2,pl,q2⟩=>thn (hu pins s2 σ H2 _ I2 q2) fun vu s3 ⟨u,H3,I3,pu,q3⟩=>?_)
 rw[evalPart_none]
 refine wpAny_pure ?_
 have I4:Inv X pins σ H3 {s3 with heap:=s3.heap.push {cls:=.type "slice",data:=.fields #[vl,vu,.none]} }:=I3.kept (t':=s3.toks) fun b ob q=>Heap.get?_push_of_some _ q
 obtain⟨T,id,hT,ht,hg⟩:=hr pins {s3 with heap:=s3.heap.push {cls:=.type "slice",data:=.fields #[vl,vu,.none]} } σ H3 x v vl vu l u s3.heap.objs.size Q I4 r1 (Heap.IsSliceOf.new ..) pl pu q3
 show wpAny (model X.prog X.w) X.A (subscriptTail e (.Slice lo hi none p2) v (.ref s3.heap.objs.size)) (EP X pins σ Q) X.xe {s3 with heap:=s3.heap.push {cls:=.type "slice",data:=.fields #[vl,vu,.none]} }
 exact tail_any (ops:=[.ref s3.heap.objs.size,v]) ht hT hg (by with_unfolding_all rfl)
def AbG(xs:List V)(lo hi:Option Int):List V:=(xs.drop (HT.sIx xs.length 0 lo)).take (HT.sIx xs.length xs.length hi-HT.sIx xs.length 0 lo)
theorem Wv(xs:List V)(lo hi:Option Int):(AbG xs lo hi).length≤xs.length:=by
 unfold AbG
 rw[List.length_take,List.length_drop]
 omega
end
def ixN(n:Nat)(i:Int):Option Nat:=if 0≤i then(if i<n then some i.toNat else none)else if -(n:Int)≤i then some (i+n).toNat else none
def atI{α:Type}(xs:List α)(i:Int):Option α:=(ixN xs.length i).bind fun j=>xs[j]?
theorem AfN{n:Nat}{i:Int}{j:Nat}(h:ixN n i=some j):seqIndex? i n=some j∧j<n∧-(n:Int)≤i∧i<n:=by
 unfold ixN at h
 by_cases h0:0≤i
 ·rw[if_pos h0]at h
  by_cases h1:i<n
  ·rw[if_pos h1]at h
   have e:i.toNat=j:=Option.some.inj h
   exact⟨by rw[seqIndex_of h0 h1,e],∅,∅,h1⟩
  ·rw[if_neg h1]at h;cases h
 ·rw[if_neg h0]at h
  by_cases h1:-(n:Int)≤i
  ·rw[if_pos h1]at h
   have e:(i+n).toNat=j:=Option.some.inj h
   exact⟨by rw[seqIndex_neg ∅ h1,e],∅,h1,∅⟩
  ·rw[if_neg h1]at h;cases h
theorem Uj{α:Type}{xs:List α}{i:Int}{v:α}(h:atI xs i=some v):∃j,seqIndex? i xs.length=some j∧xs[j]? = some v∧j<xs.length∧-(xs.length:Int)≤i∧i<xs.length:=by
 unfold atI at h
 cases e:ixN xs.length i with
 |none=>rw[e]at h;cases h
 | some j =>
  rw[e]at h
  obtain⟨h1,h2,h3,h4⟩:=AfN e
  exact⟨j,h1,h,h2,h3,h4⟩
theorem AfR{α:Type}{xs:List α}{j:Nat}{v:α}(h:xs[j]? = some v):atI xs (j:Int)=some v:=by
 have hj:j<xs.length:=(List.getElem?_eq_some_iff.mp h).1
 have e:ixN xs.length (j:Int)=some j:=by
  unfold ixN
  rw[if_pos ∅,if_pos ∅];simp
 unfold atI;rw[e];exact h
def Vj(b:Expr):Prop:=∀o i,subscripted b false o i=operate [o,i] (getItem o i)
def IxR(X:Cx)(r:R2):Prop :=
 ∀(value slice:Expr)(pins:List (Addr×Obj))(s:Shared)(σ:St)(H:Hp)(x y:V)(v u:Value)(Q:VK),Inv X pins σ H s→RelV x v→RelV y u→r x y H Q →
  subscripted slice false v u=operate [v,u] (getItem v u)→wpAny (model X.prog X.w) X.A (subscriptTail value slice v u) (EP X pins σ Q) X.xe s
def MtR(X:Cx)(id:String)(r:V→List V→Hp→VK→Prop):Prop :=
 ∀(pins:List (Addr×Obj))(s:Shared)(σ:St)(H:Hp)(x:V)(xs:List V)(v:Value)(us:List Value)(Q:VK),Inv X pins σ H s→RelV x v→Vals xs us→r x xs H Q →
  wpAny (model X.prog X.w) X.A (call (.builtin id) (v::us)) (EP X pins σ Q) X.xe s
section
variable{X:Cx}{a b:Expr}{ta tb:TE}{pos:Pos}
theorem IxR.or{r r':R2}(h:IxR X r)(h':IxR X r'):IxR X (fun x y H Q=>r x y H Q∨r' x y H Q):=by
 intro value slice pins s σ H x y v u Q I rx ry q hs
 rcases q with q|q
 ·exact h value slice pins s σ H x y v u Q I rx ry q hs
 ·exact h' value slice pins s σ H x y v u Q I rx ry q hs
theorem AkV{r:R2}(hr:IxR X r)(ha:PE X a ta)(hb:PE X b tb)(hs:Vj b):PE X (.Subscript a b pos) (tOp r ta tb):=by
 intro pins s σ H Q I h
 exact Subscript_ (Aii ha hb I h fun v u s2 x y H2 I2 rx ry q=>hr a b pins s2 σ H2 x y v u Q I2 rx ry q (hs _ _))
def AmF(K:W.Frag):R2:=fun x y H Q=>∃p xs i v,x=.ref p∧y=.int i∧SqL K H p xs∧atI xs i=some v∧Q v H
def Akq(K:W.Frag):R2:=fun x y H Q=>∃p xs i v,x=.ref p∧y=.int i∧SqT K H p xs∧atI xs i=some v∧Q v H
def Aki:R2:=fun x y H Q=>∃z i c,x=.str z∧y=.int i∧z.length≤sizeLine∧atI z.cps.toList i=some c∧Q (.str ⟨#[c]⟩) H
theorem Afa:IxR X (AmF X.K):=by
 intro value slice pins s σ H x y v u Q I rx ry h hs
 obtain⟨p,xs,i,z,rfl,rfl,hq,he,q⟩:=h
 cases rx
 obtain⟨t,rfl⟩:=ry
 obtain⟨its,r,pl,hz⟩:=I.list hq
 obtain⟨j,h1,h2,h3,h4,h5⟩:=Uj he
 obtain⟨w,ew,rw'⟩:=r.get h2
 have hl:=r.length
 have hn:=Uq
 have fin:EP X pins σ Q w s:=⟨z,H,I,rw',q⟩
 by_cases h0:0≤i
 ·have hj:i.toNat=j:=by
   rw[seqIndex_of h0 h5]at h1
   exact Option.some.inj h1
  exact item_listR pl.isList h0 ∅ (by rw[hj];simpa using ew) fin hs
 ·have hj:(i+(its.toArray.size:Int)).toNat=j:=by
   rw[seqIndex_neg ∅ h4]at h1
   rw[List.size_toArray,←hl]
   exact Option.some.inj h1
  exact subscriptTail_builtinR (x:=w) pl.isList.typeIs slot_list_getitem.lookup
   (wpAny_getItem_list_neg (Q:=fun r s'=>r=w∧EP X pins σ Q r s') pl.isList ∅ (by rw[List.size_toArray]<;>omega) ∅ (by rw[hj];simpa using ew) ⟨rfl,fin⟩) hs
theorem AiM:IxR X (Akq X.K):=by
 intro value slice pins s σ H x y v u Q I rx ry h hs
 obtain⟨p,xs,i,z,rfl,rfl,hq,he,q⟩:=h
 cases rx
 obtain⟨t,rfl⟩:=ry
 obtain⟨its,r,pl,hz⟩:=I.tuple hq
 obtain⟨j,h1,h2,h3,h4,h5⟩:=Uj he
 obtain⟨w,ew,rw'⟩:=r.get h2
 have hl:=r.length
 have hn:=Uq
 have fin:EP X pins σ Q w s:=⟨z,H,I,rw',q⟩
 exact subscriptTail_builtinR (x:=w) pl.typeIs slot_tuple_getitem.lookup
  (getItem_tuple (j:=j) (Q:=fun r s'=>r=w∧EP X pins σ Q r s') pl ∅ ∅ (by rw[List.size_toArray,←hl];exact h1) (by simpa using ew) ⟨rfl,fin⟩) hs
theorem Aji:IxR X Aki:=by
 intro value slice pins s σ H x y v u Q I rx ry h hs
 obtain⟨z,i,c,rfl,rfl,hz,he,q⟩:=h
 obtain⟨t,rfl⟩:=rx
 obtain⟨t',rfl⟩:=ry
 obtain⟨j,h1,h2,h3,h4,h5⟩:=Uj he
 have hl:z.cps.toList.length=z.length:=by simp[Str.length]
 rw[hl]at h1 h4 h5
 have hn:=Uq
 exact tail_any (typeIs_str s z t) slot_str_getitem.lookup (getItem_str (c:=c) (by
  have e1:decide (i < -(2 ^ 63:Int))=false:=decide_eq_false ∅
  have e2:decide (i≥2 ^ 63)=false:=decide_eq_false ∅
  rw[e1,e2,Bool.or_false]) (by rw[h1];simpa using h2) ⟨.str ⟨#[c]⟩,H,I.tok _,⟨_,rfl⟩,q⟩) hs
def rIx(K:W.Frag):R2:=fun x y H Q=>AmF K x y H Q∨Akq K x y H Q∨Aki x y H Q
theorem AjJ:IxR X (rIx X.K):=Afa.or (AiM.or Aji)
theorem Vq(lo hi:Option Int)(n:Nat):(sliceBounds lo hi none n).1=((HT.sIx n 0 lo:Nat):Int)∧(sliceBounds lo hi none n).2.1=((HT.sIx n n hi:Nat):Int)∧(sliceBounds lo hi none n).2.2=1:=by
 refine⟨?_,?_,rfl⟩
 ·cases lo with
  |none=>simp[sliceBounds,HT.sIx]
  | some i =>
   simp only[sliceBounds,HT.sIx,Option.getD_none,show(1:Int)>0 by decide,if_true]
   by_cases h:i<0
   ·simp only[h,if_true]<;>omega
   ·simp only[h,if_false]<;>omega
 ·cases hi with
  |none=>simp[sliceBounds,HT.sIx]
  | some i =>
   simp only[sliceBounds,HT.sIx,Option.getD_none,show(1:Int)>0 by decide,if_true]
   by_cases h:i<0
   ·simp only[h,if_true]<;>omega
   ·simp only[h,if_false]<;>omega
theorem RZ(its:List Value)(lo hi:Option Int):slicePick its.toArray lo hi none=((its.drop (HT.sIx its.length 0 lo)).take (HT.sIx its.length its.length hi-HT.sIx its.length 0 lo)).toArray:=by
 obtain⟨h1,h2,h3⟩:=Vq lo hi its.toArray.size
 unfold slicePick
 rw[h1,h2,h3]
 simp only[sliceRange_one,pick_run,List.size_toArray]<;>rfl
def Aoq(K:W.Frag):V→Option Int→Option Int→Hp→VK→Prop:=fun x lo hi H Q=>∃a xs,x=.ref a∧SqL K H a xs∧∀p,H p=none→Q (.ref p) (upd H p (.lst (AbG xs lo hi)))
theorem Ahe:SlR X (Aoq X.K):=by
 intro pins s σ H x v vl vu lo hi sl Q I rx hs pl pu h
 obtain⟨a,xs,rfl,hx,q⟩:=h
 cases rx
 obtain⟨its,r,ht,hz⟩:=I.list hx
 have hlen:=r.length
 refine⟨"list",_,slot_list_getitem.lookup,ht.isList.typeIs,?_⟩
 refine wpAny_getItem_list_slice ht.isList hs pl pu .none (by simp) ?_ (by rw[List.size_toArray]<;>omega)
 rw[RZ,←hlen]
 refine⟨.ref s.heap.objs.size,_,I.laid (t':=s.toks) (o:=.lst (AbG xs lo hi)) (fun b ob q=>Heap.get?_push_of_some _ q) (Nat.le_refl _) ?_,rfl,q _ (I.hok.fresh (Nat.le_refl _))⟩
 exact⟨Nat.le_trans (Wv xs lo hi) hz,_,0,(r.drop (HT.sIx xs.length 0 lo)).take (HT.sIx xs.length xs.length hi-HT.sIx xs.length 0 lo),Heap.get?_push_size _ rfl⟩
theorem U3:Il X (.builtin "len") (fun xs H Q=>∃p ys,xs=[.ref p]∧(SqL X.K H p ys∨SqT X.K H p ys)∧Q (.int ys.length) H):=by
 intro pins s σ H xs us Q I r h
 obtain⟨p,ys,rfl,hq,q⟩:=h
 obtain⟨u,rfl,rx⟩:=vals1 r
 cases rx
 have hn:=Uq
 rcases hq with hq|hq
 ·obtain⟨its,r',pl,hz⟩:=I.list hq
  have hlen:=r'.length
  exact Calls.call_len_list pl.isList (by simp only[List.size_toArray]<;>omega) ⟨.int ys.length,H,I.tok _,⟨s.toks+1,by rw[List.size_toArray,hlen]⟩,q⟩
 ·obtain⟨its,r',pl,hz⟩:=I.tuple hq
  have hlen:=r'.length
  exact len_tuple pl (by simp only[List.size_toArray]<;>omega) ⟨.int ys.length,H,I.tok _,⟨s.toks+1,by rw[List.size_toArray,hlen]⟩,q⟩
theorem Nh:Il X (.type "list") (fun xs H Q=>∃p ys,xs=[.ref p]∧(SqL X.K H p ys∨SqT X.K H p ys)∧∀l,H l=none→Q (.ref l) (upd H l (.lst ys))):=by
 intro pins s σ H xs us Q I r h
 obtain⟨p,ys,rfl,hq,q⟩:=h
 obtain⟨u,rfl,rx⟩:=vals1 r
 cases rx
 have fin:∀(its:List Value),Vals ys its→ys.length≤sizeLine→∀(h':Heap)(c':Nat),(∀b o',s.heap.get? b=some o'→h'.get? b=some o') →
   h'.get? s.heap.objs.size=some {cls:=.type "list",dict:=none,data:=.seq its.toArray c',slots:=#[]}→EP X pins σ Q (.ref s.heap.objs.size) {s with heap:=h'}:=fun its r' hz h' c' kp e =>
  ⟨.ref s.heap.objs.size,_,I.laid (t':=s.toks) kp (Nat.le_refl _) (show GQ X.prog X.w _ h' _ (.lst ys)from⟨hz,its,c',r',e⟩),rfl,q _ (I.hok.fresh (Nat.le_refl _))⟩
 rcases hq with hq|hq
 ·obtain⟨its,r',pl,hz⟩:=I.list hq
  have hlen:=r'.length
  obtain⟨o,ho,hc,n,hd⟩:=pl.isList
  exact call_list_seq p (.inl rfl) ho hc hd (fun h' c' kp e=>fin its r' hz h' c' kp e) (by simp only[List.size_toArray]<;>omega)
 ·obtain⟨its,r',pl,hz⟩:=I.tuple hq
  have hlen:=r'.length
  obtain⟨o,ho,hc,n,hd⟩:=pl
  exact call_list_seq p (.inr rfl) ho hc hd (fun h' c' kp e=>fin its r' hz h' c' kp e) (by simp only[List.size_toArray]<;>omega)
def tyV(K:W.Frag)(T:String)(x:V)(H:Hp):Prop:=match x with
 |.str _=>T="str"
 |.int _=>T="int"
 | .ref p=>(T="list"∧∃xs,SqL K H p xs)∨(T="tuple"∧∃o,K.lookup p=some o∧o.cls=.type "tuple"∧o.dict=none) ∨
   (T="dict"∧((∃kvs,H p=some (.dK kvs))∨∃kvs,H p=some (.dT kvs)))∨(T="set"∧∃S n,H p=some (.set S n))
 |_=>False
theorem Ac3{pins:List (Addr×Obj)}{σ:St}{H:Hp}{s:Shared}{T:String}{x:V}{v:Value}(I:Inv X pins σ H s)(r:RelV x v)(ty:tyV X.K T x H) :
  s.TypeIs v T∧∀a,v=.ref a→∃ob,s.heap.get? a=some ob∧ob.dict=none:=by
 cases x with
 | str z =>
  obtain⟨t,rfl⟩:=r
  cases(show T="str" from ty)
  exact⟨typeIs_str s z t,fun _ e=>nomatch e⟩
 | int i =>
  obtain⟨t,rfl⟩:=r
  cases(show T="int" from ty)
  exact⟨typeIs_int s i t,fun _ e=>nomatch e⟩
 | ref p =>
  cases r
  rcases ty with⟨rfl,xs,hq⟩|⟨rfl,o,hk,hc,hd⟩|⟨rfl,hk⟩|⟨rfl,S,n,hk⟩
  ·obtain⟨its,_,pl,_⟩:=I.list hq
   refine⟨pl.isList.typeIs,fun a e=>?_⟩
   cases e
   obtain⟨o,n,e,c,hd,_⟩:=pl
   exact⟨o,e,hd⟩
  ·refine⟨⟨o,I.kIn p o hk,hc⟩,fun a e=>?_⟩
   cases e
   exact⟨o,I.kIn _ o hk,hd⟩
  ·have z:∃o,s.heap.get? p=some o∧o.ExactDict:=by
    rcases hk with⟨kvs,hk⟩|⟨kvs,hk⟩
    ·obtain⟨_,_,_,_,o,_,_,e,ex,_⟩:=I.hok p _ hk
     exact⟨o,e,ex⟩
    ·obtain⟨_,_,_,_,o,_,_,e,ex,_⟩:=I.hok p _ hk
     exact⟨o,e,ex⟩
   obtain⟨o,e,ex⟩:=z
   refine⟨⟨o,e,ex.1⟩,fun a e2=>?_⟩
   cases e2
   exact⟨o,e,ex.2.1⟩
  ·obtain⟨o,_,_,_,e,ex,_⟩:=I.hok p _ hk
   refine⟨⟨o,e,ex.1⟩,fun a e2=>?_⟩
   cases e2
   exact⟨o,e,ex.2.1⟩
 |_=>exact False.elim ty
def Aou(K:W.Frag)(T:String)(r:V→List V→Hp→VK→Prop)(to:TE):TE:=fun σ H Q=>to σ H fun x H1=>tyV K T x H1∧r x [] H1 Q
def tBM(K:W.Frag)(T:String)(r:V→List V→Hp→VK→Prop)(to:TE)(t:TA):TE:=fun σ H Q=>to σ H fun x H1=>tyV K T x H1∧t σ H1 fun xs H2=>r x xs H2 Q
variable{o e:Expr}{es:List Expr}{to:TE}{t:TA}{name:Str}{apos cpos:Pos}{T id:String}{r:V→List V→Hp→VK→Prop}
theorem Yj(pa:PlainAttrs T)(slot:Slot T name id)(hty:typeOf (.builtin id)=pure (.type "method_descriptor"))(hm:MtR X id r)(ho:PE X o to)
  (hbase:attributeBase o name X.env (eval o X.env)=eval o X.env:=by rfl) (hline:(apos.endLine==cpos.line)=true:=by rfl):PE X (.Call (.Attribute o name apos) [] [] cpos) (Aou X.K T r to):=by
 intro pins s σ H Q I h
 refine wpAny_Call_method0_late hbase hline (thn (ho pins s σ H _ I h) fun v s1 ⟨x,H1,I1,r1,ty,q1⟩=>?_)
 obtain⟨h1,h2⟩:=Ac3 I1 r1 ty
 exact⟨T,id,pa,slot,hty,h1,h2,Calls.callWith_builtin rfl (PySem.evalArgs_none (hm pins s1 σ H1 x [] v [] Q I1 r1 .nil q1))⟩
theorem Al1(pa:PlainAttrs T)(slot:Slot T name id)(hty:typeOf (.builtin id)=pure (.type "method_descriptor"))(hm:MtR X id r)(ho:PE X o to)(ha:PA X (e::es) t)
  (hbase:attributeBase o name X.env (eval o X.env)=eval o X.env:=by rfl)
  (hfew:((backTo cpos (starEach (e::es) X.env)).all (fun x=>!x.1)&&(backToKw cpos (keywordEach [] X.env)).all (fun x=>x.1.isSome)
   && decide ((e::es).length+([]:List Keyword).length+(if([]:List Keyword).isEmpty then 0 else 1)<30))=true:=by rfl)
  (hline:(apos.endLine==cpos.line)=true:=by rfl) (hs:starEach (e::es) X.env=(false,eval e X.env)::starEach es X.env:=by rfl) (hplain:(backTo cpos (starEach es X.env)).any (·.1)=false:=by rfl) :
  PE X (.Call (.Attribute o name apos) (e::es) [] cpos) (tBM X.K T r to t):=by
 intro pins s σ H Q I h
 refine wpAny_Call_method_late hbase hfew hline rfl (thn (ho pins s σ H _ I h) fun v s1 ⟨x,H1,I1,r1,ty,q1⟩=>?_)
 obtain⟨h1,h2⟩:=Ac3 I1 r1 ty
 refine⟨T,id,pa,slot,hty,h1,h2,?_⟩
 have hA:=ha cpos pins s1 σ H1 _ I1 q1
 rw[hs]at hA ⊢
 refine Calls.callWith_builtin (by show(false||(backTo cpos (starEach es X.env)).any (·.1))=false;rw[hplain]<;>rfl) (Calls.evalArgs_plain ?_)
 exact thn hA fun us s2 ⟨vs,H2,I2,r2,q2⟩=>hm pins s2 σ H2 x vs v us Q I2 r1 r2 q2
end
def MtM(X:Cx)(id:String)(r:V→List V→Hp→VK→Prop):Prop :=
 ∀(pins:List (Addr×Obj))(s:Shared)(σ:St)(H:Hp)(x:V)(xs:List V)(v:Value)(us:List Value)(Q:VK),Inv X pins σ H s→RelV x v→Vals xs us→r x xs H Q →
  wpAny (model X.prog X.w) X.A (call (.builtin id) (v::us)) (EP X pins σ Q) X.xe s
theorem Vals.one:∀{x:V} {us:List Value},Vals [x] us→∃u,us=[u]∧RelV x u
 |_,_,.cons r .nil=>⟨_,rfl,r⟩
theorem Vals.zero:∀{us:List Value},Vals [] us→us=[]
 |_,.nil=>rfl
theorem Vals.dropLast{xs:List V}{us:List Value}(h:Vals xs us):Vals xs.dropLast us.dropLast:=by
 induction h with
 |nil=>exact .nil
 | cons r t ih =>
  cases t with
  |nil=>exact .nil
  |cons q t'=>exact .cons r ih
theorem Yz{α:Type}(l:List α):l.eraseIdx (l.length-1)=l.dropLast:=by
 induction l with
 |nil=>rfl
 | cons a r ih =>
  cases r with
  |nil=>rfl
  | cons b r =>
   have e:(a::b::r).length-1=((b::r).length-1)+1:=by
    have h1:(a::b::r).length=r.length+2:=rfl
    have h2:(b::r).length=r.length+1:=rfl
    omega
   rw[e,List.eraseIdx_cons_succ,ih]
   all_goals rfl
section
variable{X:Cx}{pins:List (Addr×Obj)}{σ:St}{H:Hp}{s:Shared}{l b:Addr}{xs ys zs:List V}
theorem Inv.qL{its its':List Value}{n:Nat}{f:Array Value→Array Value}{t':Nat}(I:Inv X pins σ H s)(hH:H l=some (.lst xs))
  (e:s.heap.get? l=some {cls:=.type "list",data:=.seq its.toArray n}) (hf:f its.toArray=its'.toArray) (hv:Vals ys its') (hz:ys.length≤sizeLine) :
  Inv X pins σ (upd H l (.lst ys)) {s with heap:=s.heap.update l (Obj.mapSeq f),toks:=t'}:=by
 have q:=PySem.IsL.update e f
 rw[hf]at q
 refine I.write (x:=l) (e:=l) (by rw[hH];exact trivial) (.inl rfl) (fun b' u hb hu=>(Heap.get?_update_other s.heap (Obj.mapSeq f) (Ne.symm hb)).trans hu) ⟨_,q⟩ ?_
 exact⟨hz,its',_,hv,q⟩
theorem Inv.rC{its:List Value}{t':Nat}(I:Inv X pins σ H s)(hv:Vals ys its)(hz:ys.length≤sizeLine) :
  Inv X pins σ (upd H s.heap.objs.size (.lst ys)) {s with heap:=s.heap.push {cls:=.type "list",data:=.seq its.toArray},toks:=t'} :=
 I.laid (fun _ _ q=>Heap.get?_push_of_some _ q) (Nat.le_refl _) ⟨hz,its,0,hv,Heap.get?_push_size _ rfl⟩
theorem Inv.fresh(I:Inv X pins σ H s):H s.heap.objs.size=none:=I.hok.fresh (Nat.le_refl _)
theorem Inv.qM(I:Inv X pins σ H s)(hH:H l=some (.lst xs)):xs.length≤sizeLine∧∃(its:List Value)(n:Nat),Vals xs its∧xs.length=its.length∧s.heap.get? l=some {cls:=.type "list",data:=.seq its.toArray n}:=by
 obtain⟨z,its,n,r,e⟩:=I.hok l _ hH
 exact⟨z,its,n,r,r.length,e⟩
end
section
variable{X:Cx}
def AgN:V→List V→Hp→VK→Prop:=fun x vs H Q=>∃l xs y,x=.ref l∧vs=[y]∧H l=some (.lst xs)∧xs.length<sizeLine∧Q .non (upd H l (.lst (xs++[y])))
theorem Nu:MtM X "list.append" AgN:=by
 intro pins s σ H x vs v us Q I rx rv h
 obtain⟨l,xs,y,rfl,rfl,hH,hz,q⟩:=h
 cases rx
 obtain⟨u,rfl,ru⟩:=rv.one
 obtain⟨z,its,n,r,hl,e⟩:=I.qM hH
 refine call_meets F.slot_list_append ⟨_,e,rfl⟩ F.entry_list_append (F.args_list_append_2 _ _) (PySem.list_append l its.toArray n u (by rw[List.size_toArray];omega)) ⟨e,?_⟩
 refine⟨.non,_,I.qL (its':=its++[u]) hH e (by simp) (r.append (.cons ru .nil)) ?_,rfl,q⟩
 rw[List.length_append,List.length_singleton]
 omega
def AoP:V→List V→Hp→VK→Prop:=fun x vs H Q=>∃l xs y,x=.ref l∧vs=[]∧H l=some (.lst xs)∧xs[xs.length-1]? = some y∧Q y (upd H l (.lst xs.dropLast))
theorem An8:MtM X "list.pop" AoP:=by
 intro pins s σ H x vs v us Q I rx rv h
 obtain⟨l,xs,y,rfl,rfl,hH,hy,q⟩:=h
 cases rx
 have hus:=rv.zero
 subst hus
 obtain⟨z,its,n,r,hl,e⟩:=I.qM hH
 obtain⟨u,hu,ru⟩:=r.get hy
 have hy':its.toArray[its.toArray.size-1]? = some u:=by
  show its.toArray[its.length-1]? = some u
  rw[←Array.getElem?_toList,←hl]
  exact hu
 refine call_meets F.slot_list_pop ⟨_,e,rfl⟩ F.entry_list_pop (F.args_list_pop_1 _) (MeetsSeq.list_pop_last l its.toArray n u hy' (by rw[List.size_toArray];omega)) ⟨e,?_⟩
 refine⟨y,_,I.qL (its':=its.dropLast) hH e ?_ r.dropLast ?_,ru,q⟩
 ·show its.toArray.eraseIdxIfInBounds (its.toArray.size-1)=its.dropLast.toArray
  rw[List.size_toArray,List.eraseIdxIfInBounds_toArray,Yz]
 ·rw[List.length_dropLast]
  omega
def AjI:V→List V→Hp→VK→Prop:=fun x vs H Q=>∃l xs,x=.ref l∧vs=[]∧H l=some (.lst xs)∧Q .non (upd H l (.lst []))
theorem AbY:MtM X "list.clear" AjI:=by
 intro pins s σ H x vs v us Q I rx rv h
 obtain⟨l,xs,rfl,rfl,hH,q⟩:=h
 cases rx
 have hus:=rv.zero
 subst hus
 obtain⟨z,its,n,r,hl,e⟩:=I.qM hH
 refine call_meets F.slot_list_clear ⟨_,e,rfl⟩ F.entry_list_clear (F.args_list_clear_1 _) (AutoSeq1.list_clear_list_0 l its.toArray n (by rw[List.size_toArray];omega)) ⟨e,?_⟩
 exact⟨.non,_,I.qL (its':=[]) (ys:=[]) hH e rfl .nil (Nat.zero_le _),rfl,q⟩
end
section
variable{prog:Program}{w:World}{A:Around}{E:Value→Shared→Prop}{s:Shared}
end
section
variable{X:Cx}
end
end L2
namespace Att
open PySem W Calls PyProof.Rows
theorem Pb{P:Params}{h:Heap}:∀(ns:List Int)(vs:List Value),WellAll P h vs (ns.map WData.int)→IntsAre vs ns:=by
 intro ns
 induction ns with
 | nil =>
  intro vs w
  rw[List.map_nil]at w
  cases w
  exact .nil
 | cons n ns ih =>
  intro vs w
  rw[List.map_cons]at w
  cases w with
  | cons a b =>
   cases a
   exact .cons _ _ (ih _ b)
theorem Abx{l:OpenLaw}{n:Nat}(hn:l.most=some n){P:Params}{h:Heap}{args:List WData}{vals:List Value}
  (hpre:l.row.toRowW.claim.pre args=true) (hwl:WellAll P h vals args) :
  ∃a vs ns,vals=[Value.ref a]∧args=[WData.list (ns.map WData.int)]∧h.get? a=some {cls:=.type "list",data:=.seq vs.toArray}∧IntsAre vs ns∧ns.length≤n:=by
 have hsh:WShape.hasAll [] args [.list .int]=true:=(pre_splitW hpre).1
 have hc:l.pre.holds [] {args:=args}=true:=(pre_splitW hpre).2
 obtain⟨d,r,rfl,h1,h2⟩:=hasAllW_cons hsh
 obtain rfl:=hasAllW_nil h2
 obtain⟨xs,rfl,h3⟩:=hasW_list h1
 obtain⟨ns,rfl⟩:=items_int h3
 have hlen:ns.length≤n:=by
  unfold OpenLaw.pre at hc
  have h4:(WTm.not (.lt (.lit (.int (n:Int))) (.len (.arg 0)))).holds [] {args:=[.list (ns.map .int)]}=true:=by
   have h4:=(holds_andW hc).1
   rw[hn]at h4
   exact h4
  have h5:=condW_of h4 (w_not (w_lt w_lit (w_len_list (w_arg rfl))))
  rw[List.length_map]at h5
  refine Nat.le_of_not_lt fun q=>?_
  have q':(n:Int)<((ns.length:Nat):Int):=∅
  first
   |(rw[decide_eq_true q']at h5;exact absurd h5 ⋯)
   |(simp at h5;omega)
 cases hwl with
 | cons w1 w2 =>
  cases w2
  cases w1 with
  |list ho hall=>exact⟨_,_,ns,rfl,rfl,ho,Pb ns _ hall,hlen⟩
theorem Abr(l:OpenLaw)(args:List WData):l.row.toRowW.claim.post args (.bool true) args=true :=
 postW_of (r:=l.row.toRowW) (X:=(true==true))
  (show WShape.has [] (.bool true) .bool=true by first|rfl|decide|simp[WShape.has,WShape.arms,WShape.armsAll])
  (show(WTm.eq .res (.lit (.bool true))).value [] {args:=args,res:=some (.bool true),after:=args}=some (.bool (true==true))from w_eq_bool (w_res rfl) w_lit) rfl
theorem Wh{l:OpenLaw}{n:Nat}{q:Program}{loose:List Str}{XP:(Str→Option Value)→Heap→Prop}{YP:World→Heap→Prop}{d:DefRec}
  (hn:l.most=some n) (hdf:d.params.defaults=[])
  (call:∀(w:World)(s₀ s₁:Shared)(mg mb:Str→Option Value)(fa:Addr)(o:Obj)(pm cd doc:Value)(a:Addr)(vs:List Value)(ns:List Int),
   Ground q loose [] XP w s₀ mg mb s₁.heap→YP w s₁.heap →
   s₁.heap.get? fa=some o→o.data=.func (docDef d.name d.params d.body d.scope pm cd doc)→s₁.heap.CodeRec cd d.name→mg d.name=some (.ref fa) →
   s₁.heap.get? a=some {cls:=.type "list",data:=.seq vs.toArray}→IntsAre vs ns→ns.length≤n→s₁.gens=#[] →
   codeAny (model l.prog w) callerA (.call (.ref fa) ⟨[.ref a],[]⟩) (fun r s'=>r=.ok (.ret (.bool true))∧OldK s₁.heap s'.heap∧s'.os=s₁.os∧AllBare s'.gens) s₁) :
  WalkO q loose XP YP l.row.toRowW d [] (fun f vs=>PySem.call f vs):=by
 intro w s₀ s₁ mg mb G Y fa o pm cd doc dV kV ho hd hcd hD hmg hg args vals as hpre hlay hrd hwl hlo
 obtain rfl:dV=.none:=Dflts.none hD hdf
 obtain rfl:kV=.none:=Dflts.noKw hD
 obtain⟨a,vs,ns,rfl,rfl,hobj,hints,hlen⟩:=Abx hn hpre hwl
 refine enter_call (codeAny_mono (call w s₀ s₁ mg mb fa o pm cd doc a vs ns G Y ho (fd_plain hd) hcd hmg hobj hints hlen hg) fun r s' hq=>?_)
 obtain⟨rfl,h2,h3,h4⟩:=hq
 exact⟨.inl ⟨.bool true,.bool true,[],rfl,fun _=>rfl,.bool true,Abr l _,fun _=>⟨List.Pairwise.nil,fun _ hm=>(nomatch hm)⟩⟩,h2,h3,h4⟩
section
variable{prog:Program}{w:World}{A:Around}{E:Value→Shared→Prop}{s:Shared}{K:Frag}
def ledger(h:Heap)(L d:Addr):List (Addr×Obj):=(List.range h.objs.size).filterMap fun a=>if a=L∨a=d then none else(h.get? a).map fun o=>(a,o)
end
end Att
namespace L2
open PySem Spec PyProof.Rows
theorem Sh:∀{vs:List Value} {ns:List Int},IntsAre vs ns→Vals (ns.map V.int) vs
 |_,_,.nil=>.nil
 |_,_,.cons n t h=>.cons ⟨t,rfl⟩ (Sh h)
def Only(H:Hp):Prop:=∀b,H b=none∨∃o xs,H b=some (.frz o (.lst xs))
theorem AbU{P:Program}{w:World}{K:W.Frag}{mg mb:Str→Option Value}{CX:CXT}{k:Nat}{fa a:Addr}{fd:FuncData}{x:Str}{sp:Sp}{s₁:Shared}{vs:List Value}{ns:List Int}
  (KX:K.In s₁.heap) (hns:s₁.heap.Ns mainGlobals mg) (hb:s₁.heap.Ns builtinsNs mb) (hbb:∀x:Str,x≠"__name__"→mb x=bootBuiltins x) (hlim:s₁.heap.NoLimit) (hg:s₁.gens=#[])
  (ha:s₁.heap.get? a=some {cls:=.type "list",data:=.seq vs.toArray}) (hi:IntsAre vs ns) (hl:ns.length≤sizeLine) (hr:El k callerA)
  (F:∀base:Heap,K.In base→base.Ns mainGlobals mg→HJ P w K mg base CX k fa fd [x] sp) (hbind:∀(s:Shared)(u:Value),BindsTo s fd ⟨[u],[]⟩ [(x,u)])
  (hsp:∀H:Hp,Only H→SqL K H a (ns.map V.int)→sp [.ref a] H (fun v _=>v=.bl true) fun _ _ _=>False)
  (hCX:∀H e s',CX [] H s₁ (fun _ _ _=>False) e s'→False) :
  codeAny (model P w) callerA (.call (.ref fa) ⟨[.ref a],[]⟩) (fun r s'=>r=.ok (.ret (.bool true))∧OldK s₁.heap s'.heap∧s'.os=s₁.os∧AllBare s'.gens) s₁:=by
 have rv:=Sh hi
 have lenV:=hi.length
 have core:∀H:Hp,Only H→SqL K H a (ns.map V.int)→HOk P w H s₁.heap→(∀b,H b≠none→b=a)→(H a≠none→K.lookup a=none) →
   codeAny (model P w) callerA (.call (.ref fa) ⟨[.ref a],[]⟩) (fun r s'=>r=.ok (.ret (.bool true))∧OldK s₁.heap s'.heap∧s'.os=s₁.os∧AllBare s'.gens) s₁:=by
  intro H hO hS hok hA hK
  have nM:∀{b:Addr} {o:Obj},s₁.heap.get? b=some o→H b=none→(Ur s₁.heap H).get? b=some o:=fun e n=>Adn e n
  have noA:∀{b:Addr} {o:Obj} {es:Array DictEntry} {ep:Nat},s₁.heap.get? b=some o→o.data=.dict es ep→H b=none:=fun{b o es ep} e d=>by
   cases q:H b with
   |none=>rfl
   | some u =>
    have e':b=a:=hA b (by rw[q];simp)
    subst e'
    rw[ha]at e;cases e
    have d':Data.seq vs.toArray _=Data.dict es ep:=d
    cases d'
  have nsK:∀{b:Addr} {m:Str→Option Value},s₁.heap.Ns b m→(Ur s₁.heap H).Ns b m:=fun{b m} ⟨o,es,ep,e,d,r⟩=>⟨o,es,ep,nM e (noA e d),d,r⟩
  have hKb:K.In (Ur s₁.heap H):=fun b o e=>nM (KX b o e) (by
   cases q:H b with
   |none=>rfl
   | some u =>
    have e':b=a:=hA b (by rw[q];simp)
    subst e'
    rw[hK (by rw[q];simp)]at e;cases e)
  have hM:Mod K mg (Ur s₁.heap H):=⟨hKb,nsK hns,⟨mb,nsK hb,hbb⟩,let ⟨mc,h1,h2⟩:=hlim;⟨mc,nsK h1,h2⟩⟩
  have e0:Y8 P w K mg (Ur s₁.heap H) callerA [] s₁ H:=⟨rfl,hM,fun b o e=>Agq e,Nat.le_of_eq (Abu _ _),trivial,fun b hb=>absurd (show b∈([]:List Addr)from hb) (by simp),hok,.of_eq hg⟩
  refine codeAny_mono ((F _ hKb (nsK hns)).run callerA [] s₁ H ⟨[.ref a],[]⟩ [.ref a] [.ref a] _ _ hr e0 (hbind s₁ (.ref a)) (.cons rfl .nil) (hsp H hO hS)) fun r s' h=>?_
  cases r with
  |error e=>exact(hCX H e s' h).elim
  | ok fl =>
   cases fl with
   |next=>exact False.elim h
   |brk=>exact False.elim h
   |cont=>exact False.elim h
   | ret u =>
    obtain⟨v,H',os,bare,un,hok',r',q⟩:=h
    have q':v=.bl true:=q
    subst q'
    obtain rfl:u=Value.bool true:=r'
    refine⟨rfl,OldK.of_keep fun b o e=>?_,os,bare⟩
    cases q:H b with
    |none=>exact un.keep b o e q (by intro z;exact absurd (show b∈([]:List Addr)from z) (by simp)) (by simp)
    | some u =>
     rcases hO b with z|⟨ob,xs,z⟩
     ·rw[q]at z;cases z
     ·have z2:=un.fW b ob _ z
      obtain⟨e1,_⟩:=hok b _ z
      obtain⟨e2,_⟩:=hok' b _ z2
      rw[e]at e1;cases e1
      exact e2
 cases hk:K.lookup a with
 | some o =>
  have e:=KX a o hk
  rw[ha]at e
  cases e
  refine core (fun _=>none) (fun _=>.inl rfl) (.inr ⟨_,vs.toArray,_,hk,rfl,rfl,rfl,by rw[List.size_toArray,lenV];exact hl,by simpa using rv⟩) (fun b u z=>by have z':(none:Option HO)=some u:=z;cases z') (fun b z=>absurd rfl z) fun z=>absurd rfl z
 | none =>
  refine core (fun b=>if b=a then some (.frz {cls:=.type "list",data:=.seq vs.toArray} (.lst (ns.map V.int)))else none) (fun b=>?_) (.inl (.inr ⟨{cls:=.type "list",data:=.seq vs.toArray},if_pos rfl⟩)) (fun b u z=>?_) (fun b z=>?_) fun _=>hk
  ·by_cases hb:b=a
   ·exact .inr ⟨_,_,if_pos hb⟩
   ·exact .inl (if_neg hb)
  ·by_cases hb:b=a
   ·have z':=(if_pos hb).symm.trans z
    cases z'
    subst hb
    exact⟨ha,by rw[List.length_map];exact hl,vs,_,rv,ha⟩
   ·have z':=(if_neg hb).symm.trans z
    cases z'
  ·by_cases hb:b=a
   ·exact hb
   ·exact absurd (if_neg hb) z
abbrev KOf{K:W.Frag}{h:Heap}(_:K.In h):W.Frag:=K
theorem Ae2{l:W.OpenLaw}{n k:Nat}{q:Program}{loose:List Str}{XP:(Str→Option Value)→Heap→Prop}{YP:World→Heap→Prop}{d:DefRec}{K:Params→W.Frag}{CX:World→CXT}{sp:World→Sp}{x:Str}
  (hn:l.most=some n) (hn2:n≤sizeLine) (hdf:d.params.defaults=[]) (hr:El k callerA)
  (hY:∀(w:World)(h:Heap),YP w h→(K w.params).In h)
  (F:∀(w:World)(mg:Str→Option Value)(fa:Addr)(h:Heap),(K w.params).In h→h.Ns mainGlobals mg→mg d.name=some (.ref fa) →
   ∃fd:FuncData,(∀(s:Shared)(u:Value),BindsTo s fd ⟨[u],[]⟩ [(x,u)]) ∧
    ∀base:Heap,(K w.params).In base→base.Ns mainGlobals mg→HJ l.prog w (K w.params) mg base (CX w) k fa fd [x] (sp w))
  (hsp:∀(w:World)(H:Hp)(a:Addr)(ns:List Int),ns.length≤n→Only H→SqL (K w.params) H a (ns.map V.int)→sp w [.ref a] H (fun v _=>v=.bl true) fun _ _ _=>False)
  (hCX:∀(w:World)(H:Hp)(s:Shared)(e:Value)(s':Shared),CX w [] H s (fun _ _ _=>False) e s'→False) :
  W.WalkO q loose XP YP l.row.toRowW d [] (fun f vs=>PySem.call f vs):=by
 refine Att.Wh hn hdf fun w s₀ s₁ mg mb fa o pm cd doc a vs ns G Y ho hd hcd hmg hobj hints hlen hg=>?_
 have KX:=hY w _ Y
 obtain⟨fd,hb,hF⟩:=F w mg fa _ KX G.T.g hmg
 exact AbU KX G.T.g G.T.b G.T.builtins G.T.nolimit hg hobj hints (Nat.le_trans hlen hn2) hr hF hb (fun H hO hS=>hsp w H a ns hlen hO hS) fun H e s'=>hCX w H s₁ e s'
def inClass(s:Stmt)(j:Nat):Stmt:=match s with
 |.ClassDef _ _ _ body _ _ _ _ _ _ _=>body.getD j (.Pass ⟨0,0,0,0⟩)
 |_=>.Pass ⟨0,0,0,0⟩
def Ep(s:Stmt):Arguments:=match s with
 |.FunctionDef _ a _ _ _ _ _ _ _ _=>a
 |_=>{posonlyargs:=[],args:=[],vararg:=none,kwonlyargs:=[],kw_defaults:=[],kwarg:=none,defaults:=[]}
def Dr(s:Stmt):List Stmt:=match s with
 |.FunctionDef _ _ b _ _ _ _ _ _ _=>b
 |_=>[]
def Ai(s:Stmt):Scope:=match s with
 |.FunctionDef _ _ _ _ _ _ sc _ _ _=>sc
 |_=>{kind:=.function,names:=[],isGenerator:=false,isCoroutine:=false}
abbrev CX0:CXT:=fun _ _ _ _ _ _=>False
abbrev E0:XK:=fun _ _ _=>False
theorem Ua{X:Cx}:Passes CX0 X E0:=fun _ _ _ _ _ _ _ h=>h.elim
structure Fun(K:W.Frag)(x qual:Str)(st:Stmt)(f:Addr)(fd:FuncData):Prop where
 ex:∃(oc:Value)(od:Option Addr)(kV doc pm:Value)(an:Option Addr)(cdv ct:Value)(osl:Array (Option Value)),
  fd=W.fnOf x qual (Ep st) (Dr st) (Ai st) .none kV doc pm an cdv ct∧K.lookup f=some ⟨oc,od,.func fd,osl⟩∧W.codeIn K cdv qual=true
 kp:W.keepIn K (.ref f)=true
section
variable{P:Program}{w:World}{K:W.Frag}{mg:Str→Option Value}{base:Heap}
theorem Fun.ok{x qual:Str}{st:Stmt}{f:Addr}{fd:FuncData}{N ps:List Str}{k:Nat}{sp:Sp}(F:Fun K x qual st f fd)(S:Ao N ps (Ai st))(len:∀vs H Q E,sp vs H Q E→vs.length=ps.length)
  (hbody:∀(cdv:Value)(A:Around)(outer:List Env)(s:Shared)(H:Hp)(vs:List V)(Q:VK)(E:XK),El k (A.deeper (envOfC qual (Ai st) s.heap.objs.size f cdv))→sp vs H Q E →
   ∃t,PSs (X5 CX0 P w K mg base N qual (Ai st) f cdv A outer s H E).nox (Dr st) t∧t {nx:=fun _ H'=>Q .non H',rt:=Q} (start N vs) H):HJ P w K mg base CX0 (k+1) f fd ps sp:=by
 obtain⟨oc,od,kV,doc,pm,an,cdv,ct,osl,rfl,lk,hcd⟩:=F.ex
 refine Ake lk hcd S len fun A outer s H vs Q E hr hsp=>?_
 obtain⟨t,h,q⟩:=hbody cdv A outer s H vs Q E hr hsp
 exact⟨t,h.nox,q⟩
theorem Fun.binds{x qual:Str}{st:Stmt}{f:Addr}{fd:FuncData}{ps:List Str}(F:Fun K x qual st f fd)
  (h:∀(kV doc pm:Value)(an:Option Addr)(cdv ct:Value)(us:List Value),us.length=ps.length→bindArgs (W.fnOf x qual (Ep st) (Dr st) (Ai st) .none kV doc pm an cdv ct) ⟨us,[]⟩=pure (ps.zip us)):Binds K fd ps []:=by
 obtain⟨oc,od,kV,doc,pm,an,cdv,ct,osl,rfl,lk,hcd⟩:=F.ex
 exact .all (h kV doc pm an cdv ct)
theorem NK{x qual:Str}{st:Stmt}{f:Addr}{oc:Value}{od an:Option Addr}{osl:Array (Option Value)}{kV doc pm cdv ct:Value}(l:K.lookup f=some ⟨oc,od,.func (W.fnOf x qual (Ep st) (Dr st) (Ai st) .none kV doc pm an cdv ct),osl⟩)
  (c:W.codeIn K cdv qual=true) (k:W.keepIn K (.ref f)=true):Fun K x qual st f (W.fnOf x qual (Ep st) (Dr st) (Ai st) .none kV doc pm an cdv ct):=⟨⟨oc,od,kV,doc,pm,an,cdv,ct,osl,rfl,l,c⟩,k⟩
end
theorem Abq{n:Nat}(h:n≤1000):n<sizeLine:=Nat.lt_of_le_of_lt h ⋯
section
variable{X:Cx}
end
theorem Gj{c A B:Prop}[Decidable c](h1:c→A)(h2:¬c→B):if c then A else B:=by
 by_cases h:c
 ·rw[if_pos h]
  exact h1 h
 ·rw[if_neg h]
  exact h2 h
def Same(H H':Hp):Prop:=∀b o,H b=some o→H' b=some o
theorem Same.refl(H:Hp):Same H H:=fun _ _ h=>h
theorem Same.trans{H H1 H2:Hp}(a:Same H H1)(b:Same H1 H2):Same H H2:=fun c o h=>b c o (a c o h)
theorem Same.seq{K:W.Frag}{H H':Hp}{a:Addr}{xs:List V}(e:Same H H')(h:SqL K H a xs):SqL K H' a xs:=by
 rcases h with(h|⟨o,h⟩)|h
 ·exact .inl (.inl (e _ _ h))
 ·exact .inl (.inr ⟨o,e _ _ h⟩)
 ·exact .inr h
def exO(a C dx:Addr)(h:Heap):Prop:=∃o vs,h.get? a=some o∧o.cls=.ref C∧o.dict=(if dx=a then none else some dx)∧o.data=.fields vs
section
variable{M:Model}{A:Around}{E:Value→Shared→Prop}{s:Shared}{base:Heap}{env:Env}{outer:List Env}{L e:Addr}
end
section
variable{P:Program}{w:World}{H:Hp}{h h':Heap}{fs:List Addr}{e:Addr}{oe:Obj}{vs:Array Value}{old:Option Addr}{φ:Heap→Prop}
end
section
variable{X:Cx}{pins:List (Addr×Obj)}{σ:St}{H:Hp}{s:Shared}{a:Addr}{E:Value→Shared→Prop}{Q:Unit→Shared→Prop}
end
section
variable{X:Cx}{k:Nat}{f:Addr}{fd:FuncData}{ps:List Str}{sp:Sp}{x:Str}{p pos:Pos}{e:Expr}{es:List Expr}{t:TA}
end
abbrev bmV:List Value:=[.type "ValueError",.type "Exception",.type "BaseException",.type "object"]
def Anf(es:Array DictEntry):Bool:=es.toList.all fun e=>match e.key with|.str _ _=>true|_=>false
structure XC(K:W.Frag)(C F:Addr):Prop where
 obj:∃nm q N bs sn sub ab col dd k0 k1 k2 k3 k5,K.lookup C=some (excClassObj nm q C N bs (.ref F::bmV) true sn sub ab col dd k0 k1 k2 k3 k5 "ValueError.__new__")
 tail:∃c0 dd cd sl oc od es ep sl',K.lookup F=some ⟨c0,dd,.cls cd,sl⟩∧K.lookup cd.ns=some ⟨oc,od,.dict es ep,sl'⟩∧Anf es=true∧nsFind es "__init__"=none
 sa:W.findIn K (.ref C) "__setattr__"=some (some (.builtin "object.__setattr__"))
 ga:W.findIn K (.ref C) "__getattribute__"=some (some (.builtin "BaseException.__getattribute__"))
 gh:W.findIn K (.ref C) "__getattr__"=some none
 cl:W.findIn K (.ref C) "__class__"=some (some (.builtin "object.__class__"))
 gg:W.specialIn K (.builtin "object.__class__") "__get__"=some (some (.builtin "getset_descriptor.__get__"))
 gt:W.takesIn K (.builtin "object.__class__")=some true
section
variable{prog:Program}{w:World}{A:Around}{E:Value→Shared→Prop}{s:Shared}{K:W.Frag}{C U fI:Addr}{rest:List Value}
end
end L2
namespace L2
open PySem Spec PyProof.Rows W Builtin Builtin.ObjectAttr
section
variable{prog:Program}{w:World}{A:Around}{E:Value→Shared→Prop}{s:Shared}{K:W.Frag}{C U x:Addr}{name:Str}{v:Value}
end
end L2
namespace L2
open PySem Spec PyProof.Rows W Builtin Builtin.ObjectAttr
section
variable{prog:Program}{w:World}{A:Around}{E:Value→Shared→Prop}{s:Shared}{K:W.Frag}{C U x:Addr}{name:Str}{v:Value}{ox:Obj}{od:Option Obj}
end
end L2
namespace L2
open PySem Spec PyProof.Rows SeqAt
inductive Dt where
 | non | bl (b:Bool) | int (i:Int) | str (x:Str) | tup (ds:List Dt) | lst (ds:List Dt) | fn (a:Addr)
  |exc (c:Str) (ns:List Str) (ds:List Dt)
  |obj (c:Str) (ns:List Str) (ds:List Dt)
def LsD(K:W.Frag)(H:Hp)(a:Addr)(xs:List V):Prop:=H a=some (.lst xs)∨(SqL K H a xs∧∀x∈xs,∃i:Int,x=.int i)
theorem LsD.sq{K:W.Frag}{H:Hp}{a:Addr}{xs:List V}(h:LsD K H a xs):SqL K H a xs:=by
 rcases h with h|⟨h,_⟩
 ·exact SqL.of h
 ·exact h
theorem LsD.mono{K:W.Frag}{H H':Hp}{a:Addr}{xs:List V}(s:Same H H')(h:LsD K H a xs):LsD K H' a xs:=by
 rcases h with h|⟨h,q⟩
 ·exact .inl (s _ _ h)
 ·exact .inr ⟨s.seq h,q⟩
mutual
def Rp(K:W.Frag)(H:Hp):Dt→V→Prop
 |.non,v=>v=.non
 |.bl b,v=>v=.bl b
 |.int i,v=>v=.int i
 |.str x,v=>v=.str x
 |.fn a,v=>v=.ref a
 |.exc c ns ds,v=>∃a C U dx vs,v=.ref a∧W.nsIn K mainGlobals c=some (some (.ref C))∧XC K C U∧H a=some (.ext (exO a C dx))∧(H dx=some (.xd (ns.zip vs))∨dx=a∧ns=[])∧ns.length=ds.length∧RpL K H ds vs
 |.obj c ns ds,v=>∃a C dx vs,v=.ref a∧W.nsIn K mainGlobals c=some (some (.ref C))∧Cls K C∧H a=some (.ins C dx (ns.zip vs))∧ns.length=ds.length∧RpL K H ds vs
 |.tup ds,v=>∃a xs,v=.ref a∧SqT K H a xs∧RpL K H ds xs
 |.lst ds,v=>∃a xs,v=.ref a∧LsD K H a xs∧RpL K H ds xs
def RpL(K:W.Frag)(H:Hp):List Dt→List V→Prop
 | [],xs=>xs=[]
 |d::ds,xs=>∃v r,xs=v::r∧Rp K H d v∧RpL K H ds r
end
theorem Same.bU{K:W.Frag}{H H':Hp}{a:Addr}{xs:List V}(e:Same H H')(h:SqT K H a xs):SqT K H' a xs:=by
 rcases h with(h|⟨o,h⟩)|h
 ·exact .inl (.inl (e _ _ h))
 ·exact .inl (.inr ⟨o,e _ _ h⟩)
 ·exact .inr h
mutual
theorem Rp.mono{K:W.Frag}{H H':Hp}(s:Same H H'):∀{d:Dt} {v:V},Rp K H d v→Rp K H' d v
 |.non,_,h=>by unfold Rp at h ⊢;exact h
 |.bl _,_,h=>by unfold Rp at h ⊢;exact h
 |.int _,_,h=>by unfold Rp at h ⊢;exact h
 |.str _,_,h=>by unfold Rp at h ⊢;exact h
 |.fn _,_,h=>by unfold Rp at h ⊢;exact h
 | .exc _ _ _,_,h=>by
  unfold Rp at h ⊢
  obtain⟨a,C,U,dx,vs,e,q,x,h1,h2,l,r⟩:=h
  exact⟨a,C,U,dx,vs,e,q,x,s _ _ h1,h2.imp (s _ _) id,l,RpL.mono s r⟩
 | .obj _ _ _,_,h=>by
  unfold Rp at h ⊢
  obtain⟨a,C,dx,vs,e,q,x,h1,l,r⟩:=h
  exact⟨a,C,dx,vs,e,q,x,s _ _ h1,l,RpL.mono s r⟩
 | .tup ds,_,h=>by
  unfold Rp at h ⊢
  obtain⟨a,xs,e,q,r⟩:=h
  exact⟨a,xs,e,s.bU q,RpL.mono s r⟩
 | .lst ds,_,h=>by
  unfold Rp at h ⊢
  obtain⟨a,xs,e,q,r⟩:=h
  exact⟨a,xs,e,q.mono s,RpL.mono s r⟩
theorem RpL.mono{K:W.Frag}{H H':Hp}(s:Same H H'):∀{ds:List Dt} {vs:List V},RpL K H ds vs→RpL K H' ds vs
 | [],_,h=>by unfold RpL at h ⊢;exact h
 | d::ds,_,h=>by
  unfold RpL at h ⊢
  obtain⟨v,r,e,q,p⟩:=h
  exact⟨v,r,e,Rp.mono s q,RpL.mono s p⟩
end
section
variable{K:W.Frag}{H:Hp}
theorem J7{v:V}:Rp K H .non v↔v=.non:=by unfold Rp;exact Iff.rfl
theorem Cz{b:Bool}{v:V}:Rp K H (.bl b) v↔v=.bl b:=by unfold Rp;exact Iff.rfl
theorem Bf{i:Int}{v:V}:Rp K H (.int i) v↔v=.int i:=by unfold Rp;exact Iff.rfl
theorem Oh{x:Str}{v:V}:Rp K H (.str x) v↔v=.str x:=by unfold Rp;exact Iff.rfl
theorem AhT{a:Addr}{v:V}:Rp K H (.fn a) v↔v=.ref a:=by unfold Rp;exact Iff.rfl
theorem Adq{c:Str}{ns:List Str}{ds:List Dt}{v:V}:Rp K H (.exc c ns ds) v↔∃a C U dx vs,v=.ref a∧W.nsIn K mainGlobals c=some (some (.ref C))∧XC K C U∧H a=some (.ext (exO a C dx))∧(H dx=some (.xd (ns.zip vs))∨dx=a∧ns=[])∧ns.length=ds.length∧RpL K H ds vs:=by rw[Rp]
theorem Qy{c:Str}{ns:List Str}{ds:List Dt}{v:V}:Rp K H (.obj c ns ds) v↔∃a C dx vs,v=.ref a∧W.nsIn K mainGlobals c=some (some (.ref C))∧Cls K C∧H a=some (.ins C dx (ns.zip vs))∧ns.length=ds.length∧RpL K H ds vs:=by rw[Rp]
theorem Cu{ds:List Dt}{v:V}:Rp K H (.tup ds) v↔∃a xs,v=.ref a∧SqT K H a xs∧RpL K H ds xs:=by rw[Rp]
theorem PK{ds:List Dt}{v:V}:Rp K H (.lst ds) v↔∃a xs,v=.ref a∧LsD K H a xs∧RpL K H ds xs:=by rw[Rp]
theorem Ho{ds:List Dt}{v:V}(h:∃a xs,v=.ref a∧H a=some (.lst xs)∧RpL K H ds xs):Rp K H (.lst ds) v:=let ⟨a,xs,e,h1,h2⟩:=h;PK.mpr ⟨a,xs,e,.inl h1,h2⟩
theorem CN{ds:List Dt}{v:V}(h:Rp K H (.lst ds) v):∃a xs,v=.ref a∧SqL K H a xs∧RpL K H ds xs:=let ⟨a,xs,e,h1,h2⟩:=PK.mp h;⟨a,xs,e,h1.sq,h2⟩
theorem Ahf{ns:List Int}{a:Addr}(h:SqL K H a (ns.map V.int))(r:RpL K H (ns.map Dt.int) (ns.map V.int)):Rp K H (.lst (ns.map Dt.int)) (.ref a):=PK.mpr ⟨a,_,rfl,.inr ⟨h,fun x hx=>by obtain⟨i,_,rfl⟩:=List.mem_map.mp hx;exact⟨i,rfl⟩⟩,r⟩
theorem Bq{vs:List V}:RpL K H [] vs↔vs=[]:=by rw[RpL]
theorem Aw{d:Dt}{ds:List Dt}{vs:List V}:RpL K H (d::ds) vs↔∃v r,vs=v::r∧Rp K H d v∧RpL K H ds r:=by rw[RpL]
theorem RpL.nil:RpL K H [] []:=Bq.mpr rfl
theorem RpL.cons{d:Dt}{ds:List Dt}{v:V}{vs:List V}(h:Rp K H d v)(r:RpL K H ds vs):RpL K H (d::ds) (v::vs):=Aw.mpr ⟨v,vs,rfl,h,r⟩
theorem RpL.len:∀{ds:List Dt} {vs:List V},RpL K H ds vs→vs.length=ds.length
 | [],_,h=>by rw[Bq.mp h];rfl
 | d::ds,_,h=>by
  obtain⟨v,r,rfl,_,p⟩:=Aw.mp h
  simp[RpL.len p]
theorem RpL.get:∀{ds:List Dt} {vs:List V} {i:Nat} {d:Dt},RpL K H ds vs→ds[i]? = some d→∃v,vs[i]? = some v∧Rp K H d v
 | [],_,_,_,_,e=>by simp at e
 | d::ds,_,0,_,h,e=>by
  obtain⟨v,r,rfl,q,p⟩:=Aw.mp h
  simp at e;subst e
  exact⟨v,rfl,q⟩
 | d::ds,_,i+1,_,h,e=>by
  obtain⟨v,r,rfl,q,p⟩:=Aw.mp h
  obtain⟨u,e1,e2⟩:=RpL.get (i:=i) p (by simpa using e)
  exact⟨u,by simpa using e1,e2⟩
theorem RpL.get':∀{ds:List Dt} {vs:List V} {i:Nat} {v:V},RpL K H ds vs→vs[i]? = some v→∃d,ds[i]? = some d∧Rp K H d v
 | [],_,_,_,h,e=>by rw[Bq.mp h]at e;simp at e
 | d::ds,_,0,_,h,e=>by
  obtain⟨v,r,rfl,q,p⟩:=Aw.mp h
  simp at e;subst e
  exact⟨d,rfl,q⟩
 | d::ds,_,i+1,_,h,e=>by
  obtain⟨v,r,rfl,q,p⟩:=Aw.mp h
  obtain⟨u,e1,e2⟩:=RpL.get' (i:=i) p (by simpa using e)
  exact⟨u,by simpa using e1,e2⟩
theorem RpL.append:∀{ds es:List Dt} {vs ws:List V},RpL K H ds vs→RpL K H es ws→RpL K H (ds++es) (vs++ws)
 | [],_,_,_,h,q=>by rw[Bq.mp h];exact q
 | d::ds,_,_,_,h,q=>by
  obtain⟨v,r,rfl,a,p⟩:=Aw.mp h
  exact .cons a (RpL.append p q)
theorem RpL.drop:∀{ds:List Dt} {vs:List V} (n:Nat),RpL K H ds vs→RpL K H (ds.drop n) (vs.drop n)
 |_,_,0,h=>by simpa using h
 | [],_,n+1,h=>by rw[Bq.mp h];simpa using RpL.nil
 | d::ds,_,n+1,h=>by
  obtain⟨v,r,rfl,a,p⟩:=Aw.mp h
  simpa using RpL.drop n p
theorem RpL.take:∀{ds:List Dt} {vs:List V} (n:Nat),RpL K H ds vs→RpL K H (ds.take n) (vs.take n)
 |_,_,0,h=>by simpa using RpL.nil
 | [],_,n+1,h=>by rw[Bq.mp h];simpa using RpL.nil
 | d::ds,_,n+1,h=>by
  obtain⟨v,r,rfl,a,p⟩:=Aw.mp h
  simpa using RpL.cons a (RpL.take n p)
theorem RpL.ints:∀(ns:List Int),RpL K H (ns.map Dt.int) (ns.map V.int)
 | []=>RpL.nil
 |_::ns=>RpL.cons (Bf.mpr rfl) (RpL.ints ns)
end
def mask(O:List Addr)(H:Hp):Hp:=fun a=>if a∈O then none else H a
theorem CK{O:List Addr}{H:Hp}{a:Addr}(h:a∈O):mask O H a=none:=if_pos h
theorem Az{O:List Addr}{H:Hp}{a:Addr}(h:a∉O):mask O H a=H a:=if_neg h
theorem Ck{O:List Addr}{H:Hp}{a:Addr}{o:HO}(h:mask O H a=some o):a∉O∧H a=some o:=by
 by_cases q:a∈O
 ·rw[CK q]at h;cases h
 ·rw[Az q]at h;exact⟨q,h⟩
theorem Bh{O:List Addr}{H:Hp}:Same (mask O H) H:=fun _ _ h=>(Ck h).2
theorem Same.mask{O:List Addr}{H H':Hp}(s:Same H H'):Same (mask O H) (L2.mask O H'):=fun a o h=>by
 obtain⟨q,e⟩:=Ck h
 rw[Az q];exact s a o e
theorem Ei{O O':List Addr}{H:Hp}(h:∀a∈O',a∈O):Same (mask O H) (mask O' H):=fun a o e=>by
 obtain⟨q,e⟩:=Ck e
 rw[Az fun z=>q (h a z)];exact e
theorem Same.upd{H:Hp}{p:Addr}{o:HO}(h:H p=none):Same H (L2.upd H p o):=fun a u e=>by
 rw[Bo (Dq e h)];exact e
def tabAt(a:Addr)(xs:List (List Key×Addr×Value))(h:Heap):Prop:=(a==sysModules)=false∧∃(P:Program)(w:World)(o:Obj)(es:Array DictEntry)(ep:Nat),h.get? a=some o∧o.ExactDict∧o.data=.dict es ep∧es.toList=xs.map (entryOfKey (tupleKind (Eb P w)))∧(xs.map (·.1)).Nodup
def Afy(K:W.Frag)(H:Hp)(ks:List (List Int))(xs:List (List Key×Addr×Value)):Prop:=xs.map (·.1)=ks.map (·.map Sum.inl)∧∀x∈xs,SqT K H x.2.1 (x.1.map kV)
theorem Afy.mono{K:W.Frag}{H H':Hp}{ks:List (List Int)}{xs:List (List Key×Addr×Value)}(s:Same H H')(h:Afy K H ks xs):Afy K H' ks xs:=⟨h.1,fun x hx=>s.bU (h.2 x hx)⟩
inductive En where
 |is (d:Dt)|own (ds:List Dt)|tab (ks:List (List Int))|raw (v:V)
abbrev Bu:=List (Option En)
abbrev DTE:=Bu→(Dt→Prop)→Prop
abbrev DTT:=Bu→(Bool→Prop)→Prop
abbrev DTA:=Bu→(List Dt→Prop)→Prop
structure FN where
 nx:Bu→Prop
 rt:Dt→Prop
 bk:Bu→Prop:=fun _=>False
 ct:Bu→Prop:=fun _=>False
abbrev DTS:=FN→Bu→Prop
structure Rep(K:W.Frag)(B:Hp)(F O:List Addr)(H:Hp)(σ:St)(ρ:Bu):Prop where
 len:σ.length=ρ.length
 base:Same B H
 fr:∀a∈O,B a=none
 th:∀a∈F++O,H a≠none
 is:∀(i:Nat)(d:Dt),ρ[i]? = some (some (.is d))→∃v,σ[i]? = some (some v)∧Rp K (mask (F++O) H) d v
 own:∀(i:Nat)(ds:List Dt),ρ[i]? = some (some (.own ds))→∃a xs,σ[i]? = some (some (.ref a))∧a∈O∧a∉F∧H a=some (.lst xs)∧RpL K (mask (F++O) H) ds xs
 inj:∀(i j:Nat)(ds es:List Dt)(a:Addr),ρ[i]? = some (some (.own ds))→ρ[j]? = some (some (.own es))→σ[i]? = some (some (.ref a))→σ[j]? = some (some (.ref a))→i=j
 tab:∀(i:Nat)(ks:List (List Int)),ρ[i]? = some (some (.tab ks))→∃a xs,σ[i]? = some (some (.ref a))∧a∈O∧a∉F∧H a=some (.ext (tabAt a xs))∧Afy K (mask (F++O) H) ks xs
 iw:∀(i j:Nat)(ks ls:List (List Int))(a:Addr),ρ[i]? = some (some (.tab ks))→ρ[j]? = some (some (.tab ls))→σ[i]? = some (some (.ref a))→σ[j]? = some (some (.ref a))→i=j
 raw:∀(i:Nat)(v:V),ρ[i]? = some (some (.raw v))→σ[i]? = some (some v)
theorem Mq{ρ:Bu}{i:Nat}{y:Option En}(hy:∀v,y≠some (.raw v)){j:Nat}{v:V}(e:(ρ.set i y)[j]? = some (some (.raw v))):j≠i∧ρ[j]? = some (some (.raw v)):=by
 by_cases hj:j=i
 ·subst hj
  by_cases hk:j<ρ.length
  ·rw[List.getElem?_set_self hk]at e;exact(hy v (Option.some.inj e)).elim
  ·rw[List.getElem?_eq_none (by simpa using hk)]at e;cases e
 ·rw[List.getElem?_set_ne (Ne.symm hj)]at e;exact⟨hj,e⟩
theorem Rep.qN{K:W.Frag}{B:Hp}{F O:List Addr}{H:Hp}{σ:St}{ρ:Bu}(r:Rep K B F O H σ ρ){i:Nat}{x:Option V}{y:Option En}(hy:∀v,y≠some (.raw v))(j:Nat)(v:V)(e:(ρ.set i y)[j]? = some (some (.raw v))):(σ.set i x)[j]? = some (some v):=by
 obtain⟨hj,e⟩:=Mq hy e
 rw[List.getElem?_set_ne (Ne.symm hj)]
 exact r.raw j v e
section
variable{K:W.Frag}{B:Hp}{F O:List Addr}{H H':Hp}{σ:St}{ρ:Bu}
theorem Rep.same(r:Rep K B F O H σ ρ)(s:Same H H'):Rep K B F O H' σ ρ where
 len:=r.len
 base:=r.base.trans s
 fr:=r.fr
 th:=fun a h e=>by
  have:=r.th a h
  cases q:H a with
  |none=>exact this q
  |some o=>rw[s a o q]at e;cases e
 is:=fun i d e=>let ⟨v,h1,h2⟩:=r.is i d e;⟨v,h1,h2.mono s.mask⟩
 own:=fun i ds e=>let ⟨a,xs,h1,h2,h3,h4,h5⟩:=r.own i ds e;⟨a,xs,h1,h2,h3,s _ _ h4,h5.mono s.mask⟩
 inj:=r.inj
 tab:=fun i ks e=>let ⟨a,xs,h1,h2,h3,h4,h5⟩:=r.tab i ks e;⟨a,xs,h1,h2,h3,s _ _ h4,h5.mono s.mask⟩
 iw:=r.iw
 raw:=r.raw
theorem Rep.below(r:Rep K B F O H σ ρ):Same (mask F B) (mask (F++O) H):=fun a o e=>by
 obtain⟨q,e⟩:=Ck e
 rw[Az]
 ·exact r.base a o e
 ·intro z
  rcases List.mem_append.mp z with z|z
  ·exact q z
  ·rw[r.fr a z]at e;cases e
theorem Rep.set(r:Rep K B F O H σ ρ)(i:Nat){d:Dt}{v:V}(h:Rp K (mask (F++O) H) d v):Rep K B F O H (σ.set i (some v)) (ρ.set i (some (.is d))):=by
 have hl:=r.len
 have back:∀(j:Nat)(ds:En),(∀z,ds≠.is z)→(ρ.set i (some (.is d)))[j]? = some (some ds)→j≠i∧ρ[j]? = some (some ds):=fun j ds nz e=>by
  by_cases hj:j=i
  ·subst hj
   by_cases hk:j<ρ.length
   ·rw[List.getElem?_set_self hk]at e;cases e;exact(nz d rfl).elim
   ·rw[List.getElem?_eq_none (by simpa using hk)]at e;cases e
  ·rw[List.getElem?_set_ne (Ne.symm hj)]at e;exact⟨hj,e⟩
 refine⟨by simpa using hl,r.base,r.fr,r.th,fun j e q=>?_,fun j ds q=>?_,fun j k ds es a h1 h2 h3 h4=>?_,fun j ks q=>?_,fun j k ds es a h1 h2 h3 h4=>?_,fun j u q=>?_⟩
 ·by_cases hj:j=i
  ·subst hj
   by_cases hk:j<ρ.length
   ·rw[List.getElem?_set_self hk]at q
    cases q
    exact⟨v,List.getElem?_set_self ∅,h⟩
   ·rw[List.getElem?_eq_none (by simpa using hk)]at q;cases q
  ·rw[List.getElem?_set_ne (Ne.symm hj)]at q ⊢
   exact r.is j e q
 ·obtain⟨hj,q⟩:=back j _ (fun _ z=>by cases z) q
  rw[List.getElem?_set_ne (Ne.symm hj)]
  exact r.own j ds q
 ·obtain⟨hj,q1⟩:=back j _ (fun _ z=>by cases z) h1
  obtain⟨hk,q2⟩:=back k _ (fun _ z=>by cases z) h2
  rw[List.getElem?_set_ne (Ne.symm hj)]at h3
  rw[List.getElem?_set_ne (Ne.symm hk)]at h4
  exact r.inj j k ds es a q1 q2 h3 h4
 ·obtain⟨hj,q⟩:=back j _ (fun _ z=>by cases z) q
  rw[List.getElem?_set_ne (Ne.symm hj)]
  exact r.tab j ks q
 ·obtain⟨hj,q1⟩:=back j _ (fun _ z=>by cases z) h1
  obtain⟨hk,q2⟩:=back k _ (fun _ z=>by cases z) h2
  rw[List.getElem?_set_ne (Ne.symm hj)]at h3
  rw[List.getElem?_set_ne (Ne.symm hk)]at h4
  exact r.iw j k ds es a q1 q2 h3 h4
 ·obtain⟨hj,q⟩:=back j _ (fun _ z=>by cases z) q
  rw[List.getElem?_set_ne (Ne.symm hj)]
  exact r.raw j u q
end
def lE(K:W.Frag)(t:DTE):TE:=fun σ H Q=>∃B F O ρ,Rep K B F O H σ ρ∧t ρ fun d=>∀v H',Same H H'→Rp K (mask (F++O) H') d v→Q v H'
def lT(K:W.Frag)(t:DTT):TT:=fun σ H Q=>∃B F O ρ,Rep K B F O H σ ρ∧t ρ fun b=>∀H',Same H H'→Q b H'
def lA(K:W.Frag)(t:DTA):TA:=fun σ H Q=>∃B F O ρ,Rep K B F O H σ ρ∧t ρ fun ds=>∀vs H',Same H H'→RpL K (mask (F++O) H') ds vs→Q vs H'
def lD(K:W.Frag)(B:Hp)(F:List Addr)(D:Ends):FN where
 nx:=fun ρ'=>∀O' σ' H',Rep K B F O' H' σ' ρ'→D.nx σ' H'
 rt:=fun d=>∀v H',Same B H'→Rp K (mask F H') d v→D.rt v H'
 bk:=fun ρ'=>∀O' σ' H',Rep K B F O' H' σ' ρ'→D.bk σ' H'
 ct:=fun ρ'=>∀O' σ' H',Rep K B F O' H' σ' ρ'→D.ct σ' H'
def lS(K:W.Frag)(t:DTS):TS:=fun D σ H=>∃B F O ρ,Rep K B F O H σ ρ∧t (lD K B F D) ρ
structure FN.le(D D':FN):Prop where
 nx:∀ρ,D.nx ρ→D'.nx ρ
 rt:∀d,D.rt d→D'.rt d
 bk:∀ρ,D.bk ρ→D'.bk ρ
 ct:∀ρ,D.ct ρ→D'.ct ρ
structure DE(X:Cx)(e:Expr)(t:DTE):Prop where
 mono:∀{ρ Q Q'},(∀d,Q d→Q' d)→t ρ Q→t ρ Q'
 pe:PE X e (lE X.K t)
structure DT(X:Cx)(e:Expr)(t:DTT):Prop where
 mono:∀{ρ Q Q'},(∀d,Q d→Q' d)→t ρ Q→t ρ Q'
 pt:PT X e (lT X.K t)
structure DA(X:Cx)(es:List Expr)(t:DTA):Prop where
 mono:∀{ρ Q Q'},(∀d,Q d→Q' d)→t ρ Q→t ρ Q'
 pa:PA X es (lA X.K t)
structure DS(X:Cx)(st:Stmt)(t:DTS):Prop where
 mono:∀{ρ D D'},FN.le D D'→t D ρ→t D' ρ
 ps:PS X st (lS X.K t)
structure DSs(X:Cx)(st:List Stmt)(t:DTS):Prop where
 mono:∀{ρ D D'},FN.le D D'→t D ρ→t D' ρ
 ps:PSs X st (lS X.K t)
theorem PE.imp{X:Cx}{e:Expr}{t t':TE}(h:PE X e t)(i:∀σ H Q,t' σ H Q→t σ H Q):PE X e t':=fun pins s σ H Q I q=>h pins s σ H Q I (i _ _ _ q)
theorem PT.imp{X:Cx}{e:Expr}{t t':TT}(h:PT X e t)(i:∀σ H Q,t' σ H Q→t σ H Q):PT X e t':=fun pins s σ H Q I q=>h pins s σ H Q I (i _ _ _ q)
theorem PA.imp{X:Cx}{e:List Expr}{t t':TA}(h:PA X e t)(i:∀σ H Q,t' σ H Q→t σ H Q):PA X e t':=fun pos pins s σ H Q I q=>h pos pins s σ H Q I (i _ _ _ q)
theorem PS.imp{X:Cx}{e:Stmt}{t t':TS}(h:PS X e t)(i:∀D σ H,t' D σ H→t D σ H):PS X e t':=fun pins s σ H D I q=>h pins s σ H D I (i _ _ _ q)
theorem PSs.imp{X:Cx}{e:List Stmt}{t t':TS}(h:PSs X e t)(i:∀D σ H,t' D σ H→t D σ H):PSs X e t':=fun pins s σ H D I q=>h pins s σ H D I (i _ _ _ q)
section
variable{X:Cx}{a b c e:Expr}{es:List Expr}{ta tb tc te:DTE}{tA tB:DTT}{tl:DTA}{pos:Pos}
def Vu(i:Nat):DTE:=fun ρ Q=>match ρ[i]? with
 |some (some (.is d))=>Q d
 |_=>False
def dC(d:Dt):DTE:=fun _ Q=>Q d
theorem dv(i:Nat){x:Str}{pos:Pos}(hN:X.N[i]? = some x:=by rfl)(hv:Vis X.env.scope x:=by first | exact Or.inl rfl | exact Or.inr (Or.inl rfl) | exact Or.inr (Or.inr rfl))(hd:(x==("__debug__":Str))=false:=by decide)
  (hcd:(x==("__classdict__":Str))=false:=by decide):DE X (.Name x pos) (Vu i) where
 mono:=fun{ρ Q Q'} hq h=>by
  unfold Vu at h ⊢
  split at h
  ·exact hq _ h
  ·exact h.elim
 pe:=(Io hN hv hd hcd).imp fun σ H Q ⟨B,F,O,ρ,r,h⟩=>by
  unfold Vu at h
  split at h
  ·rename_i d e
   obtain⟨v,h1,h2⟩:=r.is i d e
   exact⟨v,h1,h v H (Same.refl H) h2⟩
  ·exact h.elim
theorem Agc{v:V}{d:Dt}(h:PE X e (tC v))(hr:∀K H,Rp K H d v):DE X e (dC d) where
 mono:=fun hq h=>hq _ h
 pe:=h.imp fun σ H Q ⟨B,F,O,ρ,r,h⟩=>h v H (Same.refl H) (hr _ _)
theorem Ab{i j pos}:DE X (.Constant (.int i) j pos) (dC (.int i)):=Agc AiP fun _ _=>Bf.mpr rfl
theorem Ow{i j pos}:DE X (.Constant (.bool i) j pos) (dC (.bl i)):=Agc Amk fun _ _=>Cz.mpr rfl
theorem Y4{j pos}:DE X (.Constant .none j pos) (dC .non):=Agc Ajs fun _ _=>J7.mpr rfl
theorem Kd{x j pos}:DE X (.Constant (.str x) j pos) (dC (.str x)):=Agc Ah0 fun _ _=>Oh.mpr rfl
theorem Px{x:Str}{v:V}{u:Value}{d:Dt}{pos:Pos}(hg:Gl X x)(hm:X.mg x=some u)(r:RelV v u)(hr:∀H,Rp X.K H d v)(hd:(x==("__debug__":Str))=false:=by decide):DE X (.Name x pos) (dC d) where
 mono:=fun hq h=>hq _ h
 pe:=(AaH hg hm r hd).imp fun σ H Q ⟨B,F,O,ρ,_,h⟩=>h v H (Same.refl H) (hr _)
abbrev D2:=Dt→Dt→(Dt→Prop)→Prop
structure Jb(K:W.Frag)(r:R2)(t:D2):Prop where
 mono:∀{a b Q Q'},(∀d,Q d→Q' d)→t a b Q→t a b Q'
 ok:∀(O:List Addr)(H:Hp)(a b:Dt)(x y:V)(Q:VK),(∀p∈O,H p≠none)→Rp K (mask O H) a x→Rp K (mask O H) b y →
  t a b (fun d=>∀v H',Same H H'→Rp K (mask O H') d v→Q v H')→r x y H Q
def dOp(t:D2)(ta tb:DTE):DTE:=fun ρ Q=>ta ρ fun a=>tb ρ fun b=>t a b Q
theorem Uy{K:W.Frag}{r:R2}{t:D2}(S:Jb K r t){ta tb:DTE}(ma:∀{ρ Q Q'},(∀d,Q d→Q' d)→ta ρ Q→ta ρ Q')(mb:∀{ρ Q Q'},(∀d,Q d→Q' d)→tb ρ Q→tb ρ Q')
  (σ:St) (H:Hp) (Q:VK) (h:lE K (dOp t ta tb) σ H Q):tOp r (lE K ta) (lE K tb) σ H Q:=by
 obtain⟨B,F,O,ρ,R,h⟩:=h
 refine⟨B,F,O,ρ,R,ma (fun a h v H1 s1 r1=>?_) h⟩
 refine⟨B,F,O,ρ,R.same s1,mb (fun b h u H2 s2 r2=>?_) h⟩
 exact S.ok _ H2 a b v u Q ((R.same s1).same s2).th (r1.mono s2.mask) r2 (S.mono (fun d q w H3 s3 r3=>q w H3 ((s1.trans s2).trans s3) r3) h)
theorem Ks{t:D2}(m:∀{a b Q Q'},(∀d,Q d→Q' d)→t a b Q→t a b Q')(ma:∀{ρ Q Q'},(∀d,Q d→Q' d)→ta ρ Q→ta ρ Q')(mb:∀{ρ Q Q'},(∀d,Q d→Q' d)→tb ρ Q→tb ρ Q') :
  ∀{ρ Q Q'},(∀d,Q d→Q' d)→dOp t ta tb ρ Q→dOp t ta tb ρ Q':=fun hq h=>ma (fun _ h=>mb (fun _ h=>m hq h) h) h
theorem Rb{op:Operator}{r:R2}{t:D2}(ho:OpR X (binaryOp op) r)(S:Jb X.K r t)(ha:DE X a ta)(hb:DE X b tb):DE X (.BinOp a op b pos) (dOp t ta tb) where
 mono:=Ks (t:=t) (ta:=ta) (tb:=tb) S.mono ha.mono hb.mono
 pe:=(Amp ho ha.pe hb.pe).imp (Uy (ta:=ta) (tb:=tb) S ha.mono hb.mono)
theorem Qk{op:CmpOp}{r:R2}{t:D2}(ho:OpR X (compareOp op) r)(S:Jb X.K r t)(ha:DE X a ta)(hb:DE X b tb)(hm:behindInMarks op b=false):DE X (.Compare a [op] [b] pos) (dOp t ta tb) where
 mono:=Ks (t:=t) (ta:=ta) (tb:=tb) S.mono ha.mono hb.mono
 pe:=(AfD ho ha.pe hb.pe hm).imp (Uy (ta:=ta) (tb:=tb) S ha.mono hb.mono)
theorem AkC{r:R2}{t:D2}(ho:IxR X r)(S:Jb X.K r t)(ha:DE X a ta)(hb:DE X b tb)(hs:Vj b):DE X (.Subscript a b pos) (dOp t ta tb) where
 mono:=Ks (t:=t) (ta:=ta) (tb:=tb) S.mono ha.mono hb.mono
 pe:=(AkV ho ha.pe hb.pe hs).imp (Uy (ta:=ta) (tb:=tb) S ha.mono hb.mono)
def dI(C:Int→Int→Prop)(g:Int→Int→Int):D2:=fun a b Q=>match a,b with
 |.int i,.int j=>C i j∧Q (.int (g i j))
 |_,_=>False
def dI0(g:Int→Int→Int):D2:=fun a b Q=>match a,b with
 |.int i,.int j=>Q (.int (g i j))
 |_,_=>False
def dB0(g:Int→Int→Bool):D2:=fun a b Q=>match a,b with
 |.int i,.int j=>Q (.bl (g i j))
 |_,_=>False
theorem V3{K:W.Frag}{C:Int→Int→Prop}{g:Int→Int→Int}:Jb K (rI C fun i j=>.int (g i j)) (dI C g) where
 mono:=fun{a b Q Q'} hq h=>by
  unfold dI at h ⊢
  split at h
  ·exact⟨h.1,hq _ h.2⟩
  ·exact h.elim
 ok:=fun O H a b x y Q _ ra rb h=>by
  unfold dI at h
  split at h
  ·exact⟨_,_,Bf.mp ra,Bf.mp rb,h.1,h.2 _ H (Same.refl H) (Bf.mpr rfl)⟩
  ·exact h.elim
theorem AeR{K:W.Frag}{g:Int→Int→Int}:Jb K (rI0 fun i j=>.int (g i j)) (dI0 g) where
 mono:=fun{a b Q Q'} hq h=>by
  unfold dI0 at h ⊢
  split at h
  ·exact hq _ h
  ·exact h.elim
 ok:=fun O H a b x y Q _ ra rb h=>by
  unfold dI0 at h
  split at h
  ·exact⟨_,_,Bf.mp ra,Bf.mp rb,h _ H (Same.refl H) (Bf.mpr rfl)⟩
  ·exact h.elim
theorem Cw{K:W.Frag}{g:Int→Int→Bool}:Jb K (rI0 fun i j=>.bl (g i j)) (dB0 g) where
 mono:=fun{a b Q Q'} hq h=>by
  unfold dB0 at h ⊢
  split at h
  ·exact hq _ h
  ·exact h.elim
 ok:=fun O H a b x y Q _ ra rb h=>by
  unfold dB0 at h
  split at h
  ·exact⟨_,_,Bf.mp ra,Bf.mp rb,h _ H (Same.refl H) (Cz.mpr rfl)⟩
  ·exact h.elim
theorem Afo:OpR X (binaryOp .Mult) (rI IntMulOk fun i j=>.int (i*j)):=opI fun _ _ _ _ _ _ _ hc q=>mul_int q hc
def CDv(_ j:Int):Prop:=j≠0∧j.natAbs<2 ^ 9000
theorem log2_small{n:Nat}(h:n<2 ^ 9000):n.log2<9000:=by
 by_cases h0:n=0
 ·subst h0;decide +kernel
 ·exact(Nat.log2_lt h0).mpr h
theorem Ab4:OpR X (binaryOp .FloorDiv) (rI CDv fun i j=>.int (i.fdiv j)):=opI fun _ _ _ _ _ _ _ hc q=>floordiv_int hc.1 q (.inl (PyProof.noPylong_of_log2 (log2_small hc.2)))
def AlJ:D2:=dI0 fun i j=>i+j
def AjY:D2:=dI0 fun i j=>i-j
def AmJ:D2:=dI IntMulOk fun i j=>i*j
def AkU:D2:=dI (fun _ j=>j≠0) fun i j=>i.fmod j
def Amq:D2:=dI CDv fun i j=>i.fdiv j
def Amt:D2:=dI Aa1 fun i j=>i ^ j.toNat
def AlG:D2:=dI Aa1 fun i j=>i*2 ^ j.toNat
def An3:D2:=dI (fun _ j=>0≤j) fun i j=>i / 2 ^ j.toNat
theorem Bs(ha:DE X a ta)(hb:DE X b tb):DE X (.BinOp a .Add b pos) (dOp AlJ ta tb):=Rb AjF AeR ha hb
theorem BJ(ha:DE X a ta)(hb:DE X b tb):DE X (.BinOp a .Sub b pos) (dOp AjY ta tb):=Rb AiI AeR ha hb
theorem Aj(ha:DE X a ta)(hb:DE X b tb):DE X (.BinOp a .Mult b pos) (dOp AmJ ta tb):=Rb Afo V3 ha hb
theorem CV(ha:DE X a ta)(hb:DE X b tb):DE X (.BinOp a .Mod b pos) (dOp AkU ta tb):=Rb Afk V3 ha hb
theorem BW(ha:DE X a ta)(hb:DE X b tb):DE X (.BinOp a .FloorDiv b pos) (dOp Amq ta tb):=Rb Ab4 V3 ha hb
theorem Aio(ha:DE X a ta)(hb:DE X b tb):DE X (.BinOp a .Pow b pos) (dOp Amt ta tb):=Rb Aiu V3 ha hb
theorem Aeg(ha:DE X a ta)(hb:DE X b tb):DE X (.BinOp a .LShift b pos) (dOp AlG ta tb):=Rb AiU V3 ha hb
def dLt:D2:=dB0 fun i j=>decide (i<j)
def dLe:D2:=dB0 fun i j=>decide (i≤j)
def dGt:D2:=dB0 fun i j=>decide (j<i)
def dGe:D2:=dB0 fun i j=>decide (j≤i)
theorem Alx(ha:DE X a ta)(hb:DE X b tb):DE X (.Compare a [.Gt] [b] pos) (dOp dGt ta tb):=Qk AhF Cw ha hb (HD _)
theorem AkA(ha:DE X a ta)(hb:DE X b tb):DE X (.Compare a [.GtE] [b] pos) (dOp dGe ta tb):=Qk AhI Cw ha hb (HD _)
def ixL:Int→List Dt→Option Dt
 |.ofNat n,ds=>ds[n]?
 |.negSucc m,ds=>if m<ds.length then ds[ds.length-1-m]? else none
def ixD(i:Int):Dt→Option Dt
 |.tup ds=>ixL i ds
 |.lst ds=>ixL i ds
 |_=>none
theorem Ab6{i:Int}{ds:List Dt}{d:Dt}(h:ixL i ds=some d):atI ds i=some d:=by
 cases i with
 |ofNat n=>exact AfR h
 | negSucc m =>
  have h':(if m<ds.length then ds[ds.length-1-m]? else none)=some d:=h
  by_cases hm:m<ds.length
  ·rw[if_pos hm]at h'
   unfold atI ixN
   have h1:¬(0:Int)≤Int.negSucc m:=∅
   have h2:-(ds.length:Int)≤Int.negSucc m:=∅
   have h3:(Int.negSucc m+(ds.length:Int)).toNat=ds.length-1-m:=∅
   rw[if_neg h1,if_pos h2,Option.bind_some,h3]
   exact h'
  ·rw[if_neg hm]at h';cases h'
def dIx:D2:=fun a b Q=>match b with
 | .int i=>match ixD i a with
  |some d=>Q d
  |none=>False
 |_=>False
theorem Ab3{K:W.Frag}{H:Hp}{ds:List Dt}{xs:List V}{i:Int}{d:Dt}(r:RpL K H ds xs)(h:atI ds i=some d):∃v,atI xs i=some v∧Rp K H d v:=by
 unfold atI at h ⊢
 rw[r.len]
 cases e:ixN ds.length i with
 |none=>rw[e]at h;cases h
 | some j =>
  rw[e]at h
  exact r.get h
theorem Ajl{K:W.Frag}:Jb K (rIx K) dIx where
 mono:=fun{a b Q Q'} hq h=>by
  unfold dIx at h ⊢
  split at h
  ·split at h
   ·rename_i e;exact hq _ h
   ·exact h.elim
  ·exact h.elim
 ok:=fun O H a b x y Q _ ra rb h=>by
  unfold dIx at h
  split at h
  ·split at h
   ·rename_i i _ d e
    have eb:=Bf.mp rb
    subst eb
    cases a with
    | tup ds =>
     obtain⟨p,xs,rfl,hs,hl⟩:=Cu.mp ra
     obtain⟨v,e1,e2⟩:=Ab3 hl (Ab6 e)
     exact .inr (.inl ⟨p,xs,i,v,rfl,rfl,Bh.bU hs,e1,h v H (Same.refl H) e2⟩)
    | lst ds =>
     obtain⟨p,xs,rfl,hs,hl⟩:=CN ra
     obtain⟨v,e1,e2⟩:=Ab3 hl (Ab6 e)
     exact .inl ⟨p,xs,i,v,rfl,rfl,Bh.seq hs,e1,h v H (Same.refl H) e2⟩
    |_=>cases e
   ·exact h.elim
  ·exact h.elim
theorem Ac(ha:DE X a ta)(hb:DE X b tb)(hs:Vj b:=by exact fun _ _=>rfl):DE X (.Subscript a b pos) (dOp dIx ta tb):=AkC AjJ Ajl ha hb hs
def Agf:Dt→(Dt→Prop)→Prop:=fun a Q=>match a with
 |.int i=>Q (.int (-i))
 |_=>False
def dUn(t:Dt→(Dt→Prop)→Prop)(ta:DTE):DTE:=fun ρ Q=>ta ρ fun a=>t a Q
theorem Ob(ha:DE X a ta):DE X (.UnaryOp .USub a pos) (dUn Agf ta) where
 mono:=fun hq h=>ha.mono (fun d h=>by
  unfold Agf at h ⊢
  split at h
  ·exact hq _ h
  ·exact h.elim) h
 pe:=(Akx Aiw ha.pe).imp fun σ H Q ⟨B,F,O,ρ,R,h⟩=>⟨B,F,O,ρ,R,ha.mono (fun d h v H1 s1 r1=>by
  unfold Agf at h
  split at h
  ·exact⟨_,Bf.mp r1,h _ H1 s1 (Bf.mpr rfl)⟩
  ·exact h.elim) h⟩
def Amc(ta:DTE):DTE:=fun ρ Q=>ta ρ fun a=>match a with
 |.bl k=>Q (.bl (!k))
 |_=>False
def AlI(ta tb:DTE):DTE:=fun ρ Q=>ta ρ fun a=>match a with
 |.bl k=>if k=true then tb ρ Q else Q (.bl false)
 |_=>False
def dOr(ta tb:DTE):DTE:=fun ρ Q=>ta ρ fun a=>match a with
 |.bl k=>if k=true then Q (.bl true)else tb ρ Q
 |_=>False
theorem AiE(ha:DE X a ta):DE X (.UnaryOp .Not a pos) (Amc ta) where
 mono:=fun hq h=>ha.mono (fun d h=>by
  split at h
  ·exact hq _ h
  ·exact h.elim) h
 pe:=(AiN ha.pe).imp fun σ H Q ⟨B,F,O,ρ,R,h⟩=>⟨B,F,O,ρ,R,ha.mono (fun d h v H1 s1 r1=>by
  split at h
  ·exact⟨_,Cz.mp r1,h _ H1 s1 (Cz.mpr rfl)⟩
  ·exact h.elim) h⟩
theorem Nv{op}(h:DE X a ta):DE X (.BoolOp op [a] pos) ta:=⟨h.mono,AiD h.pe⟩
theorem Qh{rest:List Expr}(ha:DE X a ta)(hb:DE X (.BoolOp .And (b::rest) pos) tb):DE X (.BoolOp .And (a::b::rest) pos) (AlI ta tb) where
 mono:=fun hq h=>ha.mono (fun d h=>by
  split at h
  ·split at h
   ·rename_i e;simp only[e,if_true];exact hb.mono hq h
   ·rename_i e;simp only[e];exact hq _ h
  ·exact h.elim) h
 pe:=(AjL ha.pe hb.pe).imp fun σ H Q ⟨B,F,O,ρ,R,h⟩=>⟨B,F,O,ρ,R,ha.mono (fun d h v H1 s1 r1=>by
  split at h
  ·rename_i k
   refine⟨k,Cz.mp r1,?_⟩
   cases k with
   |true=>exact⟨B,F,O,ρ,R.same s1,hb.mono (fun d q v H2 s2 r2=>q v H2 (s1.trans s2) r2) h⟩
   |false=>exact h _ H1 s1 (Cz.mpr rfl)
  ·exact h.elim) h⟩
theorem AmG{rest:List Expr}(ha:DE X a ta)(hb:DE X (.BoolOp .Or (b::rest) pos) tb):DE X (.BoolOp .Or (a::b::rest) pos) (dOr ta tb) where
 mono:=fun hq h=>ha.mono (fun d h=>by
  split at h
  ·split at h
   ·rename_i e;simp only[e,if_true];exact hq _ h
   ·rename_i e;simp only[e];exact hb.mono hq h
  ·exact h.elim) h
 pe:=(Ald ha.pe hb.pe).imp fun σ H Q ⟨B,F,O,ρ,R,h⟩=>⟨B,F,O,ρ,R,ha.mono (fun d h v H1 s1 r1=>by
  split at h
  ·rename_i k
   refine⟨k,Cz.mp r1,?_⟩
   cases k with
   |false=>exact⟨B,F,O,ρ,R.same s1,hb.mono (fun d q v H2 s2 r2=>q v H2 (s1.trans s2) r2) h⟩
   |true=>exact h _ H1 s1 (Cz.mpr rfl)
  ·exact h.elim) h⟩
def Ma(t:DTE):DTT:=fun ρ Q=>t ρ fun a=>match a with
 |.bl k=>Q k
 |_=>False
theorem Tp{t:DTE}(m:∀{ρ Q Q'},(∀d,Q d→Q' d)→t ρ Q→t ρ Q'):∀{ρ Q Q'},(∀d,Q d→Q' d)→Ma t ρ Q→Ma t ρ Q':=fun hq h=>m (fun d h=>by
  split at h
  ·exact hq _ h
  ·exact h.elim) h
theorem Gn(h:DE X e te)(he:∀whole,isTrue e X.env whole=(do let v ←whole;standAt e.pos;holding [v] (truthy v)):=by intro _;rfl):DT X e (Ma te) where
 mono:=Tp (t:=te) h.mono
 pt:=(Aif h.pe he).imp fun σ H Q ⟨B,F,O,ρ,R,q⟩=>⟨B,F,O,ρ,R,h.mono (fun d q v H1 s1 r1=>by
  split at q
  ·exact⟨_,Cz.mp r1,q H1 s1⟩
  ·exact q.elim) q⟩
theorem Ka{op:CmpOp}{r:R2}{t:D2}(ho:OpR X (compareOp op) r)(S:Jb X.K r t)(ha:DE X a ta)(hb:DE X b tb)(hm:behindInMarks op b=false):DT X (.Compare a [op] [b] pos) (Ma (dOp t ta tb)) where
 mono:=Tp (t:=dOp t ta tb) (Ks (t:=t) (ta:=ta) (tb:=tb) S.mono ha.mono hb.mono)
 pt:=(AgR ho ha.pe hb.pe hm).imp fun σ H Q ⟨B,F,O,ρ,R,q⟩=>Uy (ta:=ta) (tb:=tb) S ha.mono hb.mono σ H _ ⟨B,F,O,ρ,R,Ks (t:=t) (ta:=ta) (tb:=tb) S.mono ha.mono hb.mono (fun d q v H1 s1 r1=>by
  split at q
  ·exact⟨_,Cz.mp r1,q H1 s1⟩
  ·exact q.elim) q⟩
theorem O6(ha:DE X a ta)(hb:DE X b tb):DT X (.Compare a [.Lt] [b] pos) (Ma (dOp dLt ta tb)):=Ka Ri Cw ha hb (HD _)
theorem Akj(ha:DE X a ta)(hb:DE X b tb):DT X (.Compare a [.LtE] [b] pos) (Ma (dOp dLe ta tb)):=Ka Kq Cw ha hb (HD _)
theorem TF(ha:DE X a ta)(hb:DE X b tb):DT X (.Compare a [.Gt] [b] pos) (Ma (dOp dGt ta tb)):=Ka AhF Cw ha hb (HD _)
theorem AjZ(ha:DE X a ta)(hb:DE X b tb):DT X (.Compare a [.GtE] [b] pos) (Ma (dOp dGe ta tb)):=Ka AhI Cw ha hb (HD _)
def Ahs(t:DTT):DTT:=fun ρ Q=>t ρ fun k=>Q (!k)
def AhZ(t u:DTT):DTT:=fun ρ Q=>t ρ fun k=>if k=true then u ρ Q else Q false
def Ama(t u:DTT):DTT:=fun ρ Q=>t ρ fun k=>if k=true then Q true else u ρ Q
theorem G9(ha:DT X a tA):DT X (.UnaryOp .Not a pos) (Ahs tA) where
 mono:=fun hq h=>ha.mono (fun _ h=>hq _ h) h
 pt:=(Ai0 ha.pt).imp fun σ H Q ⟨B,F,O,ρ,R,q⟩=>⟨B,F,O,ρ,R,q⟩
structure DW(X:Cx)(e:Expr)(t:DTT):Prop where
 mono:∀{ρ Q Q'},(∀d,Q d→Q' d)→t ρ Q→t ρ Q'
 pw:PW X e (lT X.K t)
theorem DW.dt{t:DTT}(h:DW X e t):DT X e t:=⟨h.mono,h.pw.pt⟩
theorem Vs(ha:DT X a tA):DW X (.BoolOp .And [a] pos) tA:=⟨ha.mono,AgT ha.pt⟩
theorem Ke(ha:DT X a tA):DW X (.BoolOp .Or [a] pos) tA:=⟨ha.mono,Ajz ha.pt⟩
theorem PW.imp{t t':TT}(h:PW X e t)(i:∀σ H Q,t' σ H Q→t σ H Q):PW X e t':=fun wh pins s σ H Q I q=>h wh pins s σ H Q I (i _ _ _ q)
theorem Yv{rest:List Expr}(ha:DT X a tA)(hb:DW X (.BoolOp .And (b::rest) pos) tB):DW X (.BoolOp .And (a::b::rest) pos) (AhZ tA tB) where
 mono:=fun hq h=>ha.mono (fun k h=>by
  cases k with
  |true=>exact hb.mono hq h
  |false=>exact hq _ h) h
 pw:=(Aip ha.pt hb.pw).imp fun σ H Q ⟨B,F,O,ρ,R,q⟩=>⟨B,F,O,ρ,R,ha.mono (fun k h H1 s1=>by
  cases k with
  |true=>exact⟨B,F,O,ρ,R.same s1,hb.mono (fun k q H2 s2=>q H2 (s1.trans s2)) h⟩
  |false=>exact h H1 s1) q⟩
theorem OD{rest:List Expr}(ha:DT X a tA)(hb:DW X (.BoolOp .Or (b::rest) pos) tB):DW X (.BoolOp .Or (a::b::rest) pos) (Ama tA tB) where
 mono:=fun hq h=>ha.mono (fun k h=>by
  cases k with
  |true=>exact hq _ h
  |false=>exact hb.mono hq h) h
 pw:=(AlZ ha.pt hb.pw).imp fun σ H Q ⟨B,F,O,ρ,R,q⟩=>⟨B,F,O,ρ,R,ha.mono (fun k h H1 s1=>by
  cases k with
  |false=>exact⟨B,F,O,ρ,R.same s1,hb.mono (fun k q H2 s2=>q H2 (s1.trans s2)) h⟩
  |true=>exact h H1 s1) q⟩
def AnO(t:DTT)(ta tb:DTE):DTE:=fun ρ Q=>t ρ fun k=>if k=true then ta ρ Q else tb ρ Q
def AdX:DTA:=fun _ Q=>Q []
def Rn(te:DTE)(tl:DTA):DTA:=fun ρ Q=>te ρ fun d=>tl ρ fun ds=>Q (d::ds)
theorem Af:DA X [] AdX:=⟨fun hq h=>hq _ h,Lr.imp fun σ H Q ⟨B,F,O,ρ,R,q⟩=>q [] H (Same.refl H) RpL.nil⟩
theorem Aa(ha:DE X e te)(hr:DA X es tl)(hs:starEach (e::es) X.env=(false,eval e X.env)::starEach es X.env:=by rfl):DA X (e::es) (Rn te tl) where
 mono:=fun hq h=>ha.mono (fun d h=>hr.mono (fun ds h=>hq _ h) h) h
 pa:=(Hs ha.pe hr.pa hs).imp fun σ H Q ⟨B,F,O,ρ,R,q⟩=>⟨B,F,O,ρ,R,ha.mono (fun d h v H1 s1 r1=>⟨B,F,O,ρ,R.same s1,hr.mono (fun ds h vs H2 s2 r2 =>
  h (v::vs) H2 (s1.trans s2) (RpL.cons (r1.mono s2.mask) r2)) h⟩) q⟩
def dTup(tl:DTA):DTE:=fun ρ Q=>tl ρ fun ds=>ds.length≤sizeLine∧Q (.tup ds)
def Amb(tl:DTA):DTE:=fun ρ Q=>tl ρ fun ds=>ds.length≤sizeLine∧Q (.lst ds)
theorem Gm{O:List Addr}{H:Hp}{p:Addr}{o:HO}(hp:p∉O):mask O (upd H p o) p=some o:=by rw[Az hp,Ce]
theorem Bw{k}(h:DA X es tl):DE X (.Tuple es k pos) (dTup tl) where
 mono:=fun hq z=>h.mono (fun ds q=>⟨q.1,hq _ q.2⟩) z
 pe:=(AjC h.pa).imp fun σ H Q ⟨B,F,O,ρ,R,q⟩=>⟨B,F,O,ρ,R,h.mono (fun ds z vs H1 s1 r1=>⟨by rw[r1.len];exact z.1,fun p hp=>by
  have np:p∉F++O:=fun m=>(R.same s1).th p m hp
  exact z.2 (.ref p) _ (s1.trans (Same.upd hp)) (Cu.mpr ⟨p,vs,rfl,SqT.of (Gm np),r1.mono (Same.upd hp).mask⟩)⟩) q⟩
theorem Nr(h:DA X es tl):DE X (.List es pos) (Amb tl) where
 mono:=fun hq z=>h.mono (fun ds q=>⟨q.1,hq _ q.2⟩) z
 pe:=(Acp h.pa).imp fun σ H Q ⟨B,F,O,ρ,R,q⟩=>⟨B,F,O,ρ,R,h.mono (fun ds z vs H1 s1 r1=>⟨by rw[r1.len];exact z.1,fun p hp=>by
  have np:p∉F++O:=fun m=>(R.same s1).th p m hp
  exact z.2 (.ref p) _ (s1.trans (Same.upd hp)) (Ho ⟨p,vs,rfl,(Gm np),r1.mono (Same.upd hp).mask⟩)⟩) q⟩
abbrev DSp:=List Dt→(Dt→Prop)→Prop
def lSp(K:W.Frag)(sp:DSp):Sp:=fun vs H Q _=>∃F ds,(∀a∈F,H a≠none)∧RpL K (mask F H) ds vs∧sp ds fun d=>∀v H',Same H H'→Rp K (mask F H') d v→Q v H'
def HX(sp:DSp):Prop:=∀ds Q Q',(∀d,Q d→Q' d)→sp ds Q→sp ds Q'
def dCall(sp:DSp)(tl:DTA):DTE:=fun ρ Q=>tl ρ fun ds=>sp ds Q
theorem Agx{CX:CXT}{k:Nat}{f:Addr}{fd:FuncData}{ps:List Str}{sp:DSp}{x:Str}{p:Pos}(m:HX sp)(G:HJ X.prog X.w X.K X.mg X.base CX0 k f fd ps (lSp X.K sp))(hr:El k X.A)(hg:Gl X x)(hm:X.mg x=some (.ref f))
  (hk:W.keepIn X.K (.ref f)=true) (hb:Binds X.K fd ps []) (ha:DA X (e::es) tl) (hdb:(x==("__debug__":Str))=false:=by decide)
  (he:starEach (e::es) X.env=(false,eval e X.env)::starEach es X.env:=by rfl) (hpl:(backTo pos (starEach es X.env)).any (·.1)=false:=by rfl):DE X (.Call (.Name x p) (e::es) [] pos) (dCall sp tl) where
 mono:=fun hq z=>ha.mono (fun ds q=>m _ _ _ hq q) z
 pe:=(AaO G hr hg hm hk hb .nil Ua ha.pa hdb he hpl).imp fun σ H Q ⟨B,F,O,ρ,R,q⟩=>⟨B,F,O,ρ,R,ha.mono (fun ds z vs H1 s1 r1=>by
  show lSp X.K sp (vs++[]) H1 Q E0
  rw[List.append_nil]
  exact⟨F++O,ds,(R.same s1).th,r1,m _ _ _ (fun d q v H2 s2 r2=>q v H2 (s1.trans s2) r2) z⟩) q⟩
variable{st:Stmt}{sts:List Stmt}{t u:DTS}
def AhX:DTS:=fun D ρ=>D.nx ρ
def Xz(t u:DTS):DTS:=fun D ρ=>t {D with nx:=u D} ρ
theorem AlX{D D':FN}{P P':Bu→Prop}(h:FN.le D D')(hp:∀ρ,P ρ→P' ρ):FN.le {D with nx:=P} {D' with nx:=P'}:=⟨hp,h.rt,h.bk,h.ct⟩
theorem le_refl{D:FN}:FN.le D D:=⟨fun _ h=>h,fun _ h=>h,fun _ h=>h,fun _ h=>h⟩
theorem Bd:DSs X [] AhX:=⟨fun hd h=>hd.nx _ h,AgY.imp fun D σ H ⟨B,F,O,ρ,R,h⟩=>h O σ H R⟩
theorem Ad(h1:DS X st t)(h2:DSs X sts u):DSs X (st::sts) (Xz t u) where
 mono:=fun hd h=>h1.mono (AlX hd fun ρ q=>h2.mono hd q) h
 ps:=(Ru h1.ps h2.ps).imp fun D σ H ⟨B,F,O,ρ,R,h⟩=>⟨B,F,O,ρ,R,h1.mono (D:={lD X.K B F D with nx:=u (lD X.K B F D)}) ⟨fun ρ' q O' σ' H' R'=>⟨B,F,O',ρ',R',q⟩,fun _ q=>q,fun _ q=>q,fun _ q=>q⟩ h⟩
theorem Ah(h1:DS X st t):DSs X [st] t:=⟨h1.mono,U4 h1.ps⟩
def Aes:DTS:=fun _ _=>False
theorem HY:DS X st Aes:=⟨fun _ h=>h.elim,AcU.imp fun D σ H ⟨B,F,O,ρ,R,h⟩=>h.elim⟩
def AhR(te:DTE):DTS:=fun D ρ=>te ρ fun _=>D.nx ρ
theorem Jk(he:DE X e te)(hs:swapsWith e none pos.line X.env=pure false:=by rfl):DS X (.Expr e pos) (AhR te) where
 mono:=fun hd h=>he.mono (fun _ h=>hd.nx _ h) h
 ps:=(M8 he.pe hs).imp fun D σ H ⟨B,F,O,ρ,R,h⟩=>⟨B,F,O,ρ,R,he.mono (fun d q v H1 s1 _=>q O σ H1 (R.same s1)) h⟩
def AmC(te:DTE):DTS:=fun D ρ=>te ρ D.rt
theorem Acx{F O:List Addr}{H:Hp}:Same (mask (F++O) H) (mask F H):=Ei fun _ h=>List.mem_append_left _ h
theorem Av(he:DE X e te):DS X (.Return (some e) pos) (AmC te) where
 mono:=fun hd h=>he.mono (fun _ h=>hd.rt _ h) h
 ps:=(Aje he.pe).imp fun D σ H ⟨B,F,O,ρ,R,h⟩=>⟨B,F,O,ρ,R,he.mono (fun d q v H1 s1 r1=>q v H1 (R.base.trans s1) (r1.mono Acx)) h⟩
def Ams:DTS:=fun D _=>D.rt .non
def dIf(c:DTT)(t u:DTS):DTS:=fun D ρ=>c ρ fun k=>if k=true then t D ρ else u D ρ
theorem Cj{sa sb:List Stmt}(hc:DT X c tA)(ha:DSs X sa t)(hb:DSs X sb u):DS X (.If c sa sb pos) (dIf tA t u) where
 mono:=fun hd h=>hc.mono (fun k h=>by
  cases k with
  |true=>exact ha.mono hd h
  |false=>exact hb.mono hd h) h
 ps:=(AkP hc.pt ha.ps hb.ps).imp fun D σ H ⟨B,F,O,ρ,R,h⟩=>⟨B,F,O,ρ,R,hc.mono (fun k h H1 s1=>by
  cases k with
  |true=>exact⟨B,F,O,ρ,R.same s1,h⟩
  |false=>exact⟨B,F,O,ρ,R.same s1,h⟩) h⟩
abbrev DTG:=Dt→Bu→(Bu→Prop)→Prop
abbrev R7:=List Dt→Bu→(Bu→Prop)→Prop
def lG(K:W.Frag)(g:DTG):TG:=fun v σ H Q=>∃B F O ρ d,Rep K B F O H σ ρ∧Rp K (mask (F++O) H) d v∧g d ρ fun ρ'=>∀σ',Rep K B F O H σ' ρ'→Q σ' H
def lGs(K:W.Frag)(g:R7):TGs:=fun vs σ H Q=>∃B F O ρ ds,Rep K B F O H σ ρ∧RpL K (mask (F++O) H) ds vs∧g ds ρ fun ρ'=>∀σ',Rep K B F O H σ' ρ'→Q σ' H
structure DG(X:Cx)(tg:Expr)(g:DTG):Prop where
 mono:∀{d ρ Q Q'},(∀ρ',Q ρ'→Q' ρ')→g d ρ Q→g d ρ Q'
 pg:PG X tg (lG X.K g)
structure DGs(X:Cx)(tgs:List Expr)(g:R7):Prop where
 mono:∀{d ρ Q Q'},(∀ρ',Q ρ'→Q' ρ')→g d ρ Q→g d ρ Q'
 pg:PGs X tgs (lGs X.K g)
theorem PG.imp{e:Expr}{t t':TG}(h:PG X e t)(i:∀v σ H Q,t' v σ H Q→t v σ H Q):PG X e t':=fun pins s σ H v u Q I r q=>h pins s σ H v u Q I r (i _ _ _ _ q)
theorem PGs.imp{e:List Expr}{t t':TGs}(h:PGs X e t)(i:∀v σ H Q,t' v σ H Q→t v σ H Q):PGs X e t':=fun pins s σ H v u Q I r q=>h pins s σ H v u Q I r (i _ _ _ _ q)
def Zk(i:Nat):DTG:=fun d ρ Q=>Q (ρ.set i (some (.is d)))
theorem Bj(i:Nat){x:Str}(hN:X.N.Nodup)(hi:X.N[i]? = some x:=by rfl)(hx:Loc X.env.scope x:=by first | exact Or.inl rfl | exact Or.inr rfl)
  (hf:X.fn x=true∨X.env.scope.names.lookup x=some .local:=by first|exact .inl rfl|exact .inr rfl|assumption):DG X (.Name x pos) (Zk i) where
 mono:=fun hq h=>hq _ h
 pg:=(U6 hN hi hx hf).imp fun v σ H Q ⟨B,F,O,ρ,d,R,r,h⟩=>h _ (R.set i r)
def Aao:R7:=fun ds ρ Q=>match ds with
 | []=>Q ρ
 |_=>False
def Uw(g:DTG)(gs:R7):R7:=fun ds ρ Q=>match ds with
 |d::r=>g d ρ fun ρ'=>gs r ρ' Q
 | []=>False
theorem Ht:DGs X [] Aao where
 mono:=fun hq h=>by
  unfold Aao at h ⊢
  split at h
  ·exact hq _ h
  ·exact h.elim
 pg:=Ae9.imp fun vs σ H Q ⟨B,F,O,ρ,ds,R,r,h⟩=>by
  unfold Aao at h
  split at h
  ·exact⟨Bq.mp r,h σ R⟩
  ·exact h.elim
theorem Bk{g:DTG}{gs:R7}(h1:DG X e g)(h2:DGs X es gs)(hs:(assignEach (e::es) X.env).map (·.2)=assign e X.env::(assignEach es X.env).map (·.2):=by rfl):DGs X (e::es) (Uw g gs) where
 mono:=fun hq h=>by
  unfold Uw at h ⊢
  split at h
  ·exact h1.mono (fun ρ' q=>h2.mono hq q) h
  ·exact h.elim
 pg:=(Adk h1.pg h2.pg hs).imp fun vs σ H Q ⟨B,F,O,ρ,ds,R,r,h⟩=>by
  unfold Uw at h
  split at h
  ·obtain⟨v,vr,rfl,r1,r2⟩:=Aw.mp r
   exact⟨v,vr,rfl,B,F,O,ρ,_,R,r1,h1.mono (fun ρ' q σ' R'=>⟨B,F,O,ρ',_,R',r2,q⟩) h⟩
  ·exact h.elim
def Aan(n:Nat)(gs:R7):DTG:=fun d ρ Q=>match d with
 |.tup ds=>ds.length=n∧gs ds ρ Q
 |_=>False
theorem Lx{k:Nat}{gs:R7}{n:Nat}(hc:X.calm=true)(h:DGs X es gs)(hn:(assignEach es X.env).length=n:=by rfl)(hst:(assignEach es X.env).findIdx? (·.1)=none:=by rfl):DG X (.Tuple es k pos) (Aan n gs) where
 mono:=fun hq z=>by
  unfold Aan at z ⊢
  split at z
  ·exact⟨z.1,h.mono hq z.2⟩
  ·exact z.elim
 pg:=(Ah3 hc h.pg hn hst).imp fun v σ H Q ⟨B,F,O,ρ,d,R,r,z⟩=>by
  unfold Aan at z
  split at z
  ·obtain⟨a,xs,rfl,hs,hl⟩:=Cu.mp r
   exact⟨a,xs,rfl,Bh.bU hs,by rw[hl.len];exact z.1,B,F,O,ρ,_,R,hl,z.2⟩
  ·exact z.elim
def Ai9(te:DTE)(g:DTG):DTS:=fun D ρ=>te ρ fun d=>g d ρ D.nx
theorem Jq{tg:Expr}{g:DTG}(he:DE X e te)(hg:DG X tg g)(hs:swapsWithSole [tg] e pos.line X.env=pure false:=by rfl)(hw:swappedStores [tg] e X.env=pure none:=by rfl)
  (h1:(assignEach [tg] X.env).map (·.2)=[assign tg X.env]:=by rfl):DS X (.Assign [tg] e pos) (Ai9 te g) where
 mono:=fun hd h=>he.mono (fun _ h=>hg.mono (fun _ h=>hd.nx _ h) h) h
 ps:=(Ajk he.pe hg.pg hs hw h1).imp fun D σ H ⟨B,F,O,ρ,R,h⟩=>⟨B,F,O,ρ,R,he.mono (fun d q v H1 s1 r1=>⟨B,F,O,ρ,d,R.same s1,r1,hg.mono (fun ρ' q σ' R'=>q O σ' H1 R') q⟩) h⟩
def AeF(c:DTT)(tb:DTS):DTS:=fun D ρ=>∃W:Nat→Bu→Prop,(∃m,W m ρ)∧∀m ρ,W m ρ →
 c ρ fun k=>if k=true then tb {D with nx:=fun ρ'=>∃m',m'<m∧W m' ρ',ct:=fun ρ'=>∃m',m'<m∧W m' ρ',bk:=D.nx} ρ else D.nx ρ
theorem Fi{body:List Stmt}(hp:PassesOwn (model X.prog X.w) X.A X.env X.xe)(hc:DT X c tA)(hb:DSs X body t):DS X (.While c body [] pos) (AeF tA t) where
 mono:=fun{ρ D D'} hd ⟨W,h0,h⟩=>⟨W,h0,fun m ρ w=>hc.mono (fun k h=>by
  cases k with
  |true=>exact hb.mono (D:={D with nx:=fun ρ'=>∃m',m'<m∧W m' ρ',ct:=fun ρ'=>∃m',m'<m∧W m' ρ',bk:=D.nx}) ⟨fun _ q=>q,hd.rt,hd.nx,fun _ q=>q⟩ h
  |false=>exact hd.nx _ h) (h m ρ w)⟩
 ps:=(Ads hp hc.pt hb.ps).imp fun D σ H ⟨B,F,O,ρ,R,W,⟨m0,w0⟩,h⟩=>by
  refine⟨fun m σ H=>∃O ρ,Rep X.K B F O H σ ρ∧W m ρ,⟨m0,O,ρ,R,w0⟩,?_⟩
  rintro m σ H ⟨O,ρ,R,w⟩
  refine⟨B,F,O,ρ,R,hc.mono (fun k h H1 s1=>?_) (h m ρ w)⟩
  cases k with
  | true =>
   refine⟨fun σ' H'=>∃m',m'<m∧∃O ρ,Rep X.K B F O H' σ' ρ∧W m' ρ,fun σ' H' ⟨m',l,q⟩=>⟨m',l,q⟩,B,F,O,ρ,R.same s1,hb.mono (D:={lD X.K B F D with nx:=fun ρ'=>∃m',m'<m∧W m' ρ',ct:=fun ρ'=>∃m',m'<m∧W m' ρ',bk:=(lD X.K B F D).nx}) ⟨?_,fun _ q=>q,fun _ q=>q,?_⟩ h⟩
   ·rintro ρ' ⟨m',l,w'⟩ O' σ' H' R'
    exact⟨m',l,O',ρ',R',w'⟩
   ·rintro ρ' ⟨m',l,w'⟩ O' σ' H' R'
    exact⟨m',l,O',ρ',R',w'⟩
  |false=>exact h O σ H1 (R.same s1)
def ItD(K:W.Frag)(M:Hp)(J:It)(items:List Dt):Prop:=∀H,Same M H →
 (∀(k:Nat) d,items[k]? = some d→J.go k H∧∀x H',J.yld k H x H'→H'=H∧Rp K M d x)∧J.stop items.length H
abbrev DTI:=Bu→(List Dt→Prop)→Prop
def lI(K:W.Frag)(ti:DTI):TI:=fun σ H R=>∃B F O ρ,Rep K B F O H σ ρ∧ti ρ fun items=>∀J H',Same H H'→ItD K (mask (F++O) H') J items→R J H'
structure DI(X:Cx)(tg iter:Expr)(ti:DTI):Prop where
 mono:∀{ρ Q Q'},(∀d,Q d→Q' d)→ti ρ Q→ti ρ Q'
 pi:PI X tg iter (lI X.K ti)
theorem PI.imp{tg e:Expr}{t t':TI}(h:PI X tg e t)(i:∀σ H Q,t' σ H Q→t σ H Q):PI X tg e t':=fun pins s σ H R I q=>h pins s σ H R I (i _ _ _ q)
def AfC(ti:DTI)(g:DTG)(tb:DTS):DTS:=fun D ρ=>ti ρ fun items=>∃W:Nat→Bu→Prop,W 0 ρ ∧
 (∀(k:Nat) d ρ',items[k]? = some d→W k ρ'→g d ρ' fun ρ2=>tb {D with nx:=W (k+1),ct:=W (k+1),bk:=D.nx} ρ2)∧∀ρ',W items.length ρ'→D.nx ρ'
theorem Rep.rebase{K:W.Frag}{B:Hp}{F O:List Addr}{H:Hp}{σ:St}{ρ:Bu}(r:Rep K B F O H σ ρ):Rep K (mask O H) F O H σ ρ :=
 ⟨r.len,Bh,fun _ h=>CK h,r.th,r.is,r.own,r.inj,r.tab,r.iw,r.raw⟩
theorem Rep.pC{K:W.Frag}{B B':Hp}{F O O':List Addr}{H H':Hp}{σ σ':St}{ρ ρ':Bu}(r:Rep K B F O H σ ρ)(r':Rep K (mask O H) F O' H' σ' ρ'):Rep K B F O' H' σ' ρ':=by
 have s:Same B (mask O H):=fun a o e=>by
  rw[Az]
  ·exact r.base a o e
  ·intro z;rw[r.fr a z]at e;cases e
 refine⟨r'.len,s.trans r'.base,fun a h=>?_,r'.th,r'.is,r'.own,r'.inj,r'.tab,r'.iw,r'.raw⟩
 cases q:B a with
 |none=>rfl
 |some o=>have:=s a o q;rw[r'.fr a h]at this;cases this
theorem Rep.sub{K:W.Frag}{B:Hp}{F O:List Addr}{H:Hp}{σ:St}{ρ:Bu}(r:Rep K B F O H σ ρ):Same B (mask O H):=fun a o e=>by
 rw[Az]
 ·exact r.base a o e
 ·intro z;rw[r.fr a z]at e;cases e
theorem AbA{F O:List Addr}{H:Hp}:mask F (mask O H)=mask (F++O) H:=by
 funext a
 by_cases h1:a∈F
 ·rw[CK h1,CK (List.mem_append_left _ h1)]
 ·rw[Az h1]
  by_cases h2:a∈O
  ·rw[CK h2,CK (List.mem_append_right _ h2)]
  ·rw[Az h2,Az fun z=>(List.mem_append.mp z).elim h1 h2]
theorem Oc{tg iter:Expr}{body:List Stmt}{ti:DTI}{g:DTG}(hp:PassesOwn (model X.prog X.w) X.A X.env X.xe)(hc:X.calm=true)(hi:DI X tg iter ti)(hg:DG X tg g)(hb:DSs X body t)
  (hs:∀x,foldedSetIterable iter X.env x=pure x:=by intro _;rfl):DS X (.For tg iter body [] pos) (AfC ti g t) where
 mono:=fun{ρ D D'} hd h=>hi.mono (fun items ⟨W,h0,h,he⟩=>⟨W,h0,fun k d ρ' e w=>hg.mono (fun ρ2 q=>hb.mono (D:={D with nx:=W (k+1),ct:=W (k+1),bk:=D.nx}) ⟨fun _ q=>q,hd.rt,hd.nx,fun _ q=>q⟩ q) (h k d ρ' e w),fun ρ' w=>hd.nx _ (he ρ' w)⟩) h
 ps:=(Acw hp hc hi.pi hg.pg hb.ps hs).imp fun D σ H ⟨B,F,O,ρ,R,h⟩=>by
  refine⟨B,F,O,ρ,R,hi.mono (fun items z J H1 s1 it=>?_) h⟩
  obtain⟨W,h0,h,he⟩:=z
  have R1:=R.same s1
  refine⟨fun i m σ H=>m+i=items.length∧∃O' ρ',Rep X.K (mask O H1) F O' H σ ρ'∧W i ρ',⟨items.length,∅,O,ρ,R1.rebase,h0⟩,?_⟩
  rintro i m σ2 H2 ⟨hm,O',ρ',R2,w⟩
  have sb:Same (mask (F++O) H1) H2:=fun a o e=>R2.base a o (by
   obtain⟨q,e⟩:=Ck e
   rw[Az fun z=>q (List.mem_append_right _ z)];exact e)
  obtain⟨go,stop⟩:=it H2 sb
  by_cases hlt:i<items.length
  ·refine .inr ⟨(go i items[i] (by simp[hlt])).1,fun σ' H'=>∃O' ρ',Rep X.K (mask O H1) F O' H' σ' ρ'∧W (i+1) ρ',fun σ' H' q=>⟨m-1,∅,∅,q⟩,fun x H3 y=>?_⟩
   obtain⟨e,r⟩:=(go i items[i] (by simp[hlt])).2 x H3 y
   subst e
   have r':Rp X.K (mask (F++O') H3) items[i] x:=r.mono (by rw[←AbA];exact R2.below)
   refine⟨_,F,O',ρ',_,R2,r',hg.mono (fun ρ2 q σ3 R3=>⟨_,F,O',ρ2,R3,hb.mono (D:={lD X.K B F D with nx:=W (i+1),ct:=W (i+1),bk:=(lD X.K B F D).nx}) ⟨?_,?_,?_,?_⟩ q⟩) (h i _ ρ' (by simp[hlt]) w)⟩
   ·exact fun ρ4 w4 O4 σ4 H4 R4=>⟨O4,ρ4,R4,w4⟩
   ·exact fun d q v H4 s4 r4=>q v H4 (R1.sub.trans s4) r4
   ·exact fun ρ4 q O4 σ4 H4 R4=>q O4 σ4 H4 (R1.pC (B':=B) R4)
   ·exact fun ρ4 w4 O4 σ4 H4 R4=>⟨O4,ρ4,R4,w4⟩
  ·have e:i=items.length:=∅
   subst e
   exact .inl ⟨stop,he ρ' w O' σ2 H2 (R1.pC (B':=B) R2)⟩
def Aeo(te:DTE):DTI:=fun ρ Q=>te ρ fun d=>match d with
 |.lst ds=>Q ds
 |_=>False
def AhV(te:DTE):DTI:=fun ρ Q=>te ρ fun d=>match d with
 |.tup ds=>Q ds
 |_=>False
theorem Kg{tg:Expr}(h:DE X e te):DI X tg e (Aeo te) where
 mono:=fun hq z=>h.mono (fun d z=>by
  split at z
  ·exact hq _ z
  ·exact z.elim) z
 pi:=(AaD h.pe).imp fun σ H Q ⟨B,F,O,ρ,R,z⟩=>⟨B,F,O,ρ,R,h.mono (fun d z v H1 s1 r1=>by
  split at z
  ·obtain⟨a,xs,rfl,hs,hl⟩:=CN r1
   refine⟨a,rfl,⟨xs,Bh.seq hs⟩,z _ H1 s1 fun H2 s2=>⟨fun k d e=>?_,xs,s2.seq hs,by rw[hl.len];exact Nat.le_refl _⟩⟩
   obtain⟨x,e1,e2⟩:=hl.get e
   refine⟨⟨xs,x,s2.seq hs,e1⟩,fun y H3 ⟨e3,e4⟩=>⟨e3,?_⟩⟩
   have e5:=e4 xs (s2.seq hs)
   rw[e1]at e5;cases e5;exact e2
  ·exact z.elim) z⟩
theorem AiA{tg:Expr}(h:DE X e te):DI X tg e (AhV te) where
 mono:=fun hq z=>h.mono (fun d z=>by
  split at z
  ·exact hq _ z
  ·exact z.elim) z
 pi:=(Ajp h.pe).imp fun σ H Q ⟨B,F,O,ρ,R,z⟩=>⟨B,F,O,ρ,R,h.mono (fun d z v H1 s1 r1=>by
  split at z
  ·obtain⟨a,xs,rfl,hs,hl⟩:=Cu.mp r1
   refine⟨a,rfl,⟨xs,Bh.bU hs⟩,z _ H1 s1 fun H2 s2=>⟨fun k d e=>?_,xs,s2.bU hs,by rw[hl.len];exact Nat.le_refl _⟩⟩
   obtain⟨x,e1,e2⟩:=hl.get e
   refine⟨⟨xs,x,s2.bU hs,e1⟩,fun y H3 ⟨e3,e4⟩=>⟨e3,?_⟩⟩
   have e5:=e4 xs (s2.bU hs)
   rw[e1]at e5;cases e5;exact e2
  ·exact z.elim) z⟩
def ups(lo:Int)(n:Nat):List Dt:=(List.range n).map fun i=>.int (lo+(i:Nat))
theorem Ky{lo:Int}{n:Nat}:(ups lo n).length=n:=by simp[ups]
theorem Nf{lo:Int}{n k:Nat}{d:Dt}(h:(ups lo n)[k]? = some d):k<n∧d=.int (lo+(k:Nat)):=by
 unfold ups at h
 rw[List.getElem?_map]at h
 by_cases hk:k<n
 ·rw[List.getElem?_range hk]at h
  exact⟨hk,(Option.some.inj h).symm⟩
 ·rw[List.getElem?_eq_none (by simpa using hk)]at h;cases h
theorem Tn{K:W.Frag}{M:Hp}{lo:Int}{n:Nat}:ItD K M (Itr lo n) (ups lo n):=fun H _=>by
 refine⟨fun k d e=>?_,?_⟩
 ·obtain⟨hk,rfl⟩:=Nf e
  exact⟨hk,fun x H' y=>⟨y.1,Bf.mpr y.2⟩⟩
 ·rw[Ky];exact Nat.le_refl n
def Adb(tl:DTA):DTI:=fun ρ Q=>tl ρ fun ds=>match ds with
 | [.int j]=>(-(2 ^ 62)≤j∧j<2 ^ 62)∧Q (ups 0 j.toNat)
 |_=>False
def Aea(tl:DTA):DTI:=fun ρ Q=>tl ρ fun ds=>match ds with
 | [.int i,.int j]=>(-(2 ^ 62)≤i∧i<2 ^ 62∧-(2 ^ 62)≤j∧j<2 ^ 62)∧Q (ups i (j-i).toNat)
 |_=>False
theorem ZC{tg:Expr}{p:Pos}(hg:Gl X "range")(hm:X.mg "range"=none)(ha:DA X [a] tl)(hs:starEach [a] X.env=[(false,eval a X.env)]:=by rfl):DI X tg (.Call (.Name "range" p) [a] [] pos) (Adb tl) where
 mono:=fun hq z=>ha.mono (fun d z=>by
  split at z
  ·exact⟨z.1,hq _ z.2⟩
  ·exact z.elim) z
 pi:=(Abg hg hm ha.pa hs).imp fun σ H Q ⟨B,F,O,ρ,R,z⟩=>⟨B,F,O,ρ,R,ha.mono (fun d z vs H1 s1 r1=>by
  split at z
  ·obtain⟨v,r,rfl,r2,r3⟩:=Aw.mp r1
   rw[Bq.mp r3,Bf.mp r2]
   exact⟨_,rfl,z.1.1,z.1.2,z.2 _ H1 s1 Tn⟩
  ·exact z.elim) z⟩
theorem AaP{tg:Expr}{p:Pos}(hg:Gl X "range")(hm:X.mg "range"=none)(ha:DA X [a,b] tl)(hs:starEach [a,b] X.env=[(false,eval a X.env),(false,eval b X.env)]:=by rfl)(hs2:starEach [b] X.env=[(false,eval b X.env)]:=by rfl) :
  DI X tg (.Call (.Name "range" p) [a,b] [] pos) (Aea tl) where
 mono:=fun hq z=>ha.mono (fun d z=>by
  split at z
  ·exact⟨z.1,hq _ z.2⟩
  ·exact z.elim) z
 pi:=(AbK hg hm ha.pa hs hs2).imp fun σ H Q ⟨B,F,O,ρ,R,z⟩=>⟨B,F,O,ρ,R,ha.mono (fun d z vs H1 s1 r1=>by
  split at z
  ·obtain⟨v,r,rfl,r2,r3⟩:=Aw.mp r1
   obtain⟨v',r',rfl,r4,r5⟩:=Aw.mp r3
   rw[Bq.mp r5,Bf.mp r2,Bf.mp r4]
   exact⟨_,_,rfl,z.1,z.2 _ H1 s1 Tn⟩
  ·exact z.elim) z⟩
end
def Gi(N:List Str)(ds:List Dt):Bu:=ds.map (fun d=>some (.is d))++List.replicate (N.length-ds.length) none
theorem Abh{K:W.Frag}{F:List Addr}{H:Hp}{N:List Str}{ds:List Dt}{vs:List V}(hF:∀a∈F,H a≠none)(r:RpL K (mask F H) ds vs):Rep K H F [] H (start N vs) (Gi N ds):=by
 have hl:=r.len
 have cJ:∀(i:Nat)(es:En),(∀z,es≠.is z)→(Gi N ds)[i]? = some (some es)→False:=fun i es nz e=>by
  unfold Gi at e
  by_cases hi:i<ds.length
  ·rw[List.getElem?_append_left (by simpa using hi),List.getElem?_map]at e
   cases q:ds[i]? with
   |none=>rw[q]at e;cases e
   |some d=>rw[q]at e;cases e;exact nz d rfl
  ·rw[List.getElem?_append_right (by simpa using hi),List.getElem?_replicate]at e
   split at e<;>cases e
 refine⟨?_,Same.refl H,fun a h=>(nomatch h),fun a h=>hF a (by simpa using h),fun i d e=>?_,fun i es e=>(cJ i _ (fun _ z=>by cases z) e).elim,fun i j es es' a h1=>(cJ i _ (fun _ z=>by cases z) h1).elim,fun i es e=>(cJ i _ (fun _ z=>by cases z) e).elim,fun i j es es' a h1=>(cJ i _ (fun _ z=>by cases z) h1).elim,fun i v e=>(cJ i _ (fun _ z=>by cases z) e).elim⟩
 ·unfold start Gi;simp[hl]
 ·unfold Gi at e
  by_cases hi:i<ds.length
  ·rw[List.getElem?_append_left (by simpa using hi),List.getElem?_map]at e
   cases q:ds[i]? with
   |none=>rw[q]at e;cases e
   | some d' =>
    rw[q]at e;cases e
    obtain⟨v,e1,e2⟩:=r.get q
    refine⟨v,?_,by rw[List.append_nil];exact e2⟩
    unfold start
    rw[List.getElem?_append_left (by simp;omega),List.getElem?_map,e1];rfl
  ·rw[List.getElem?_append_right (by simpa using hi),List.getElem?_replicate]at e
   split at e<;>cases e
section
variable{P:Program}{w:World}{K:W.Frag}{mg:Str→Option Value}{base:Heap}
theorem Fun.okD{x qual:Str}{st:Stmt}{f:Addr}{fd:FuncData}{N ps:List Str}{k:Nat}{sp:DSp}(F:Fun K x qual st f fd)(S:Ao N ps (Ai st))(len:∀ds Q,sp ds Q→ds.length=ps.length)
  (hbody:∀(cdv:Value)(A:Around)(outer:List Env)(s:Shared)(H:Hp)(E:XK),El k (A.deeper (envOfC qual (Ai st) s.heap.objs.size f cdv)) →
   ∃t,DSs (X5 CX0 P w K mg base N qual (Ai st) f cdv A outer s H E).nox (Dr st) t∧∀ds Q,sp ds Q→t {nx:=fun _=>Q .non,rt:=Q} (Gi N ds)):HJ P w K mg base CX0 (k+1) f fd ps (lSp K sp):=by
 refine F.ok S (fun vs H Q E ⟨F,ds,_,r,h⟩=>by rw[r.len];exact len _ _ h) fun cdv A outer s H vs Q E hr ⟨F',ds,hF,r,h⟩=>?_
 obtain⟨t,T,q⟩:=hbody cdv A outer s H E hr
 refine⟨_,T.ps,H,F',[],Gi N ds,Abh hF r,T.mono (D:={nx:=fun _=>∀v H',Same H H'→Rp K (mask F' H') .non v→Q v H',rt:=fun d=>∀v H',Same H H'→Rp K (mask F' H') d v→Q v H'}) ⟨?_,?_,fun _ z=>False.elim z,fun _ z=>False.elim z⟩ (q ds _ h)⟩
 ·exact fun ρ z O' σ' H' R'=>z .non H' R'.base (J7.mpr rfl)
 ·exact fun d z v H' s' r'=>z v H' s' r'
end
end L2
namespace L2
open PySem Spec PyProof.Rows SeqAt
structure FnT(K:W.Frag)(mg:Str→Option Value)(x:Str)(st:Stmt)(ps:List Str)(f:Addr)(fd:FuncData):Prop where
 fn:Fun K x x st f fd
 mg:mg x=some (.ref f)
 bd:Binds K fd ps []
def Pm(P:Program)(w:World)(K:W.Frag)(mg:Str→Option Value)(base:Heap)(k:Nat)(x:Str)(st:Stmt)(ps:List Str)(sp:DSp):Prop :=
 ∃f fd,FnT K mg x st ps f fd∧HJ P w K mg base CX0 k f fd ps (lSp K sp)
theorem Fun.uniq{K:W.Frag}{x q:Str}{st:Stmt}{f:Addr}{fd fd':FuncData}(a:Fun K x q st f fd)(b:Fun K x q st f fd'):fd=fd':=by
 obtain⟨oc,od,kV,doc,pm,an,cdv,ct,osl,_,h1,_⟩:=a.ex
 obtain⟨oc',od',kV',uR,pm',an',uT,ct',uU,_,h2,_⟩:=b.ex
 rw[h1]at h2
 injection h2 with h2
 injection h2 with _ _ h2 _
 injection h2
def spec{τ:Type}(args:τ→List Dt)(pre:τ→Prop)(post:τ→Dt→Prop):DSp:=fun ds Q=>∃p,ds=args p∧pre p∧∀d,post p d→Q d
theorem Ae{τ:Type}{args:τ→List Dt}{pre:τ→Prop}{post:τ→Dt→Prop}:HX (spec args pre post):=fun _ _ _ hq ⟨p,e,h,q⟩=>⟨p,e,h,fun d z=>hq _ (q d z)⟩
abbrev Dc{τ:Type}(args:τ→List Dt)(pre:τ→Prop)(val:τ→Dt):DSp:=spec args pre fun p d=>d=val p
abbrev T2(a b:Int):Dt:=.tup [.int a,.int b]
abbrev T3(a b c:Int):Dt:=.tup [.int a,.int b,.int c]
abbrev T4(a b c d:Int):Dt:=.tup [.int a,.int b,.int c,.int d]
def AhB:DSp:=spec (fun ns:List Int=>[.lst (ns.map Dt.int)]) (fun ns=>ns.length≤63) fun _ d=>d=.bl true
theorem AcX{H:Hp}:mask [] H=H:=by funext a;exact Az (by simp)
theorem Abk{K:W.Frag}{H:Hp}{a:Addr}{ns:List Int}{E:XK}(hl:ns.length≤63)(hS:SqL K H a (ns.map V.int)):lSp K AhB [.ref a] H (fun v _=>v=.bl true) E :=
 ⟨[],[.lst (ns.map Dt.int)],fun _ h=>(nomatch h),RpL.cons (Ahf (by rw[AcX];exact hS) (RpL.ints ns)) RpL.nil,ns,rfl,hl,fun d e v H' s r=>by subst e;exact Cz.mp r⟩
section
variable{X:Cx}{a b c e:Expr}{es:List Expr}{ta tb tc te:DTE}{tA tB:DTT}{tl:DTA}{pos:Pos}
theorem Ag{k:Nat}{ps:List Str}{sp:DSp}{x:Str}{stx:Stmt}{p:Pos}(m:HX sp)(G:Pm X.prog X.w X.K X.mg X.base k x stx ps sp)(hr:El k X.A)(hg:Gl X x)
  (ha:DA X (e::es) tl) (hdb:(x==("__debug__":Str))=false:=by decide)
  (he:starEach (e::es) X.env=(false,eval e X.env)::starEach es X.env:=by rfl) (hpl:(backTo pos (starEach es X.env)).any (·.1)=false:=by rfl):DE X (.Call (.Name x p) (e::es) [] pos) (dCall sp tl):=by
 obtain⟨f,fd,F,G⟩:=G
 exact Agx (CX:=CX0) m G hr hg F.mg F.fn.kp F.bd ha hdb he hpl
theorem Aq(i:Nat){x:Str}{pos':Pos}(hN:X.N.Nodup)(he:DE X e te)(hi:X.N[i]? = some x:=by rfl)(hx:Loc X.env.scope x:=by first | exact Or.inl rfl | exact Or.inr rfl)(hs:swapsWith e (some (.Name x pos')) pos.line X.env=pure false:=by rfl)
  (hf:X.fn x=true∨X.env.scope.names.lookup x=some .local:=by first|exact .inl rfl|exact .inr rfl|assumption):DS X (.Assign [.Name x pos'] e pos) (Ai9 te (Zk i)) where
 mono:=fun hd h=>he.mono (fun _ h=>hd.nx _ h) h
 ps:=(Yn hN hi hx he.pe hs hf).imp fun D σ H ⟨B,F,O,ρ,R,h⟩=>⟨B,F,O,ρ,R,he.mono (fun d q v H1 s1 r1=>q O _ H1 ((R.same s1).set i r1)) h⟩
def AhM(i j:Nat)(tl:DTA):DTS:=fun D ρ=>tl ρ fun ds=>match ds with
 | [d,e]=>D.nx ((ρ.set i (some (.is d))).set j (some (.is e)))
 |_=>False
theorem AaB{x y:Str}{px py pt:Pos}{kt k2 pt2}(hc:X.calm=true)(hN:X.N.Nodup)(i j:Nat)(ha:DA X [a,b] tl)(hi:X.N[i]? = some x:=by rfl)(hj:X.N[j]? = some y:=by rfl)(hij:i≠j:=by decide)
  (hx:X.env.scope.names.lookup x=some .local:=by rfl) (hy:X.env.scope.names.lookup y=some .local:=by rfl)
  (hw:swappedStores [.Tuple [.Name x px,.Name y py] kt pt] (.Tuple [a,b] k2 pt2) X.env=pure (some [x,y]):=by rfl)
  (hs:swapsWithSole [.Tuple [.Name x px,.Name y py] kt pt] (.Tuple [a,b] k2 pt2) pos.line X.env=pure false:=by rfl) :
  DS X (.Assign [.Tuple [.Name x px,.Name y py] kt pt] (.Tuple [a,b] k2 pt2) pos) (AhM i j tl) where
 mono:=fun hd h=>ha.mono (fun ds h=>by
  split at h
  ·exact hd.nx _ h
  ·exact h.elim) h
 ps:=(Aij hc hN hi hj hij hx hy ha.pa hw hs).imp fun D σ H ⟨B,F,O,ρ,R,h⟩=>⟨B,F,O,ρ,R,ha.mono (fun ds q vs H1 s1 r1=>by
  split at q
  ·obtain⟨v,r,rfl,r2,r3⟩:=Aw.mp r1
   obtain⟨v',r',rfl,r4,r5⟩:=Aw.mp r3
   obtain rfl:=Bq.mp r5
   exact⟨v,v',rfl,q O _ H1 (((R.same s1).set i r2).set j r4)⟩
  ·exact q.elim) h⟩
mutual
def Dt.py:Dt→PyData
 |.non=>.none
 |.bl b=>.bool b
 |.int i=>.int i
 |.str x=>.str x
 |.tup ds=>.tuple (Dt.pys ds)
 |.lst ds=>.list (Dt.pys ds)
 |.fn _=>.dict []
 |.exc _ _ _=>.dict []
 |.obj _ _ _=>.dict []
def Dt.pys:List Dt→List PyData
 | []=>[]
 |d::ds=>d.py::Dt.pys ds
end
mutual
theorem HF{X:Cx}{pins:List (Addr×Obj)}{σ:St}{H:Hp}{s:Shared}(I:Inv X pins σ H s):∀{d:Dt} {v:V} {u:Value},d.py.canLay0=true→Rp X.K H d v→RelV v u→∃as,Reads s.heap u d.py as
 |.non,v,u,_,h,r=>by rw[J7.mp h]at r;cases(show u=.none from r);exact⟨_,by rw[Dt.py];exact .none⟩
 |.bl b,v,u,_,h,r=>by rw[Cz.mp h]at r;cases(show u=.bool b from r);exact⟨_,by rw[Dt.py];exact .bool b⟩
 |.int i,v,u,_,h,r=>by rw[Bf.mp h]at r;obtain⟨t,rfl⟩:=r;exact⟨_,by rw[Dt.py];exact .int i t⟩
 |.str x,v,u,_,h,r=>by rw[Oh.mp h]at r;obtain⟨t,rfl⟩:=r;exact⟨_,by rw[Dt.py];exact .str x t⟩
 |.fn a,v,u,c,h,r=>by rw[Dt.py]at c;exact(nomatch c)
 |.exc _ _ _,v,u,c,h,r=>by rw[Dt.py]at c;exact(nomatch c)
 |.obj _ _ _,v,u,c,h,r=>by rw[Dt.py]at c;exact(nomatch c)
 | .tup ds,v,u,c,h,r=>by
  obtain⟨a,xs,rfl,hs,hl⟩:=Cu.mp h
  cases(show u=.ref a from r)
  obtain⟨its,rv,⟨o,h1,h2,n,h3⟩,_⟩:=I.tuple hs
  rw[Dt.py]at c
  obtain⟨as,ra⟩:=NT I (ds:=ds) (by simpa [PyData.canLay0] using c) hl rv
  exact⟨_,by rw[Dt.py];exact .tuple h1 h2 h3 (by simpa using ra)⟩
 | .lst ds,v,u,c,h,r=>by
  obtain⟨a,xs,rfl,hs,hl⟩:=CN h
  cases(show u=.ref a from r)
  obtain⟨its,rv,⟨o,n,h1,h2,_,h3⟩,_⟩:=I.list hs
  rw[Dt.py]at c
  obtain⟨as,ra⟩:=NT I (ds:=ds) (by simpa [PyData.canLay0] using c) hl rv
  exact⟨_,by rw[Dt.py];exact .list h1 h2 h3 (by simpa using ra)⟩
theorem NT{X:Cx}{pins:List (Addr×Obj)}{σ:St}{H:Hp}{s:Shared}(I:Inv X pins σ H s):∀{ds:List Dt} {vs:List V} {us:List Value},PyData.canLayAll0 (Dt.pys ds)=true→RpL X.K H ds vs→Vals vs us→∃as,ReadsAll s.heap us (Dt.pys ds) as
 | [],vs,us,_,h,r=>by rw[Bq.mp h]at r;cases r;exact⟨_,by rw[Dt.pys];exact .nil⟩
 | d::ds,vs,us,c,h,r=>by
  obtain⟨v,vr,rfl,h1,h2⟩:=Aw.mp h
  rw[Dt.pys]at c
  have c':d.py.canLay0=true∧PyData.canLayAll0 (Dt.pys ds)=true:=by simpa [PyData.canLayAll0] using c
  cases r with
  | cons r1 r2 =>
   obtain⟨as,ra⟩:=HF I c'.1 h1 r1
   obtain⟨bs,rb⟩:=NT I c'.2 h2 r2
   exact⟨_,by rw[Dt.pys];exact .cons ra rb⟩
end
mutual
def Dt.eq:Dt→Dt→Bool
 |.non,.non=>true
 |.bl a,.bl b=>a==b
 |.bl a,.int j=>(if a then 1 else 0)==j
 |.int i,.bl b=>i==(if b then 1 else 0)
 |.int i,.int j=>decide (i=j)
 |.str x,.str y=>x==y
 |.tup xs,.tup ys=>Dt.eqs xs ys
 |.lst xs,.lst ys=>Dt.eqs xs ys
 |_,_=>false
def Dt.eqs:List Dt→List Dt→Bool
 | [],[]=>true
 |x::xs,y::ys=>Dt.eq x y&&Dt.eqs xs ys
 |_,_=>false
end
mutual
def Dt.flat:Nat→Dt→Bool
 |_,.fn _=>false
 |_,.exc _ _ _=>false
 |_,.obj _ _ _=>false
 |_,.str x=>(PyData.str x).canLay0
 |0,.tup _=>false
 |0,.lst _=>false
 |n+1,.tup ds=>Dt.flats n ds
 |n+1,.lst ds=>Dt.flats n ds
 |_,_=>true
def Dt.flats:Nat→List Dt→Bool
 |_,[]=>true
 |n,d::ds=>Dt.flat n d&&Dt.flats n ds
end
mutual
theorem Gk:∀(d:Dt)(n:Nat),d.flat n=true→d.py.canLay0=true∧d.py.depth≤n
 |.non,n,h=>by rw[Dt.py];exact⟨rfl,Nat.zero_le _⟩
 |.bl _,n,h=>by rw[Dt.py];exact⟨rfl,Nat.zero_le _⟩
 |.int _,n,h=>by rw[Dt.py];exact⟨rfl,Nat.zero_le _⟩
 |.str _,n,h=>by rw[Dt.py];exact⟨by simpa [Dt.flat] using h,Nat.zero_le _⟩
 |.fn _,n,h=>by simp[Dt.flat]at h
 |.exc _ _ _,n,h=>by simp[Dt.flat]at h
 |.obj _ _ _,n,h=>by simp[Dt.flat]at h
 |.tup ds,0,h=>by simp[Dt.flat]at h
 |.lst ds,0,h=>by simp[Dt.flat]at h
 | .tup ds,n+1,h=>by
  have:=Og ds n (by simpa [Dt.flat] using h)
  rw[Dt.py]
  exact⟨by simpa [PyData.canLay0] using this.1,by simpa [PyData.depth] using this.2⟩
 | .lst ds,n+1,h=>by
  have:=Og ds n (by simpa [Dt.flat] using h)
  rw[Dt.py]
  exact⟨by simpa [PyData.canLay0] using this.1,by simpa [PyData.depth] using this.2⟩
theorem Og:∀(ds:List Dt)(n:Nat),Dt.flats n ds=true→PyData.canLayAll0 (Dt.pys ds)=true∧PyData.depthAll (Dt.pys ds)≤n
 | [],n,h=>by rw[Dt.pys];exact⟨rfl,Nat.zero_le _⟩
 | d::ds,n,h=>by
  have h':d.flat n=true∧Dt.flats n ds=true:=by simpa [Dt.flats] using h
  have h1:=Gk d n h'.1
  have h2:=Og ds n h'.2
  rw[Dt.pys]
  exact⟨by simp[PyData.canLayAll0,h1.1,h2.1],by simp only[PyData.depthAll];omega⟩
end
mutual
theorem Q7:∀(a b:Dt),a.py.canLay0=true→b.py.canLay0=true→PyData.eqv a.py b.py=a.eq b
 |.fn _,b,h,_=>by rw[Dt.py]at h;exact(nomatch h)
 |.exc _ _ _,b,h,_=>by rw[Dt.py]at h;exact(nomatch h)
 |.obj _ _ _,b,h,_=>by rw[Dt.py]at h;exact(nomatch h)
 |a,.fn _,_,h=>by rw[Dt.py]at h;exact(nomatch h)
 |a,.exc _ _ _,_,h=>by rw[Dt.py]at h;exact(nomatch h)
 |a,.obj _ _ _,_,h=>by rw[Dt.py]at h;exact(nomatch h)
 |.non,.non,_,_=>by simp[Dt.py,Dt.eq,PyData.eqv]
 |.non,.bl _,_,_=>by simp[Dt.py,Dt.eq,PyData.eqv]
 |.non,.int _,_,_=>by simp[Dt.py,Dt.eq,PyData.eqv]
 |.non,.str _,_,_=>by simp[Dt.py,Dt.eq,PyData.eqv]
 |.non,.tup _,_,_=>by simp[Dt.py,Dt.eq,PyData.eqv]
 |.non,.lst _,_,_=>by simp[Dt.py,Dt.eq,PyData.eqv]
 |.bl _,.non,_,_=>by simp[Dt.py,Dt.eq,PyData.eqv]
 |.bl _,.bl _,_,_=>by simp[Dt.py,Dt.eq,PyData.eqv]
 |.bl _,.int _,_,_=>by simp[Dt.py,Dt.eq,PyData.eqv]
 |.bl _,.str _,_,_=>by simp[Dt.py,Dt.eq,PyData.eqv]
 |.bl _,.tup _,_,_=>by simp[Dt.py,Dt.eq,PyData.eqv]
 |.bl _,.lst _,_,_=>by simp[Dt.py,Dt.eq,PyData.eqv]
 |.int _,.non,_,_=>by simp[Dt.py,Dt.eq,PyData.eqv]
 |.int _,.bl _,_,_=>by simp[Dt.py,Dt.eq,PyData.eqv]
 | .int i,.int j,_,_=>by
  simp only[Dt.py,Dt.eq,PyData.eqv]
  exact Bool.beq_eq_decide_eq i j
 |.int _,.str _,_,_=>by simp[Dt.py,Dt.eq,PyData.eqv]
 |.int _,.tup _,_,_=>by simp[Dt.py,Dt.eq,PyData.eqv]
 |.int _,.lst _,_,_=>by simp[Dt.py,Dt.eq,PyData.eqv]
 |.str _,.non,_,_=>by simp[Dt.py,Dt.eq,PyData.eqv]
 |.str _,.bl _,_,_=>by simp[Dt.py,Dt.eq,PyData.eqv]
 |.str _,.int _,_,_=>by simp[Dt.py,Dt.eq,PyData.eqv]
 |.str _,.str _,_,_=>by simp[Dt.py,Dt.eq,PyData.eqv]
 |.str _,.tup _,_,_=>by simp[Dt.py,Dt.eq,PyData.eqv]
 |.str _,.lst _,_,_=>by simp[Dt.py,Dt.eq,PyData.eqv]
 |.tup _,.non,_,_=>by simp[Dt.py,Dt.eq,PyData.eqv]
 |.tup _,.bl _,_,_=>by simp[Dt.py,Dt.eq,PyData.eqv]
 |.tup _,.int _,_,_=>by simp[Dt.py,Dt.eq,PyData.eqv]
 |.tup _,.str _,_,_=>by simp[Dt.py,Dt.eq,PyData.eqv]
 | .tup xs,.tup ys,h1,h2=>by
  rw[Dt.py]at h1 h2
  rw[Dt.py,Dt.py,Dt.eq,PyData.eqv]
  exact Vx xs ys (by simpa [PyData.canLay0] using h1) (by simpa [PyData.canLay0] using h2)
 |.tup _,.lst _,_,_=>by simp[Dt.py,Dt.eq,PyData.eqv]
 |.lst _,.non,_,_=>by simp[Dt.py,Dt.eq,PyData.eqv]
 |.lst _,.bl _,_,_=>by simp[Dt.py,Dt.eq,PyData.eqv]
 |.lst _,.int _,_,_=>by simp[Dt.py,Dt.eq,PyData.eqv]
 |.lst _,.str _,_,_=>by simp[Dt.py,Dt.eq,PyData.eqv]
 |.lst _,.tup _,_,_=>by simp[Dt.py,Dt.eq,PyData.eqv]
 | .lst xs,.lst ys,h1,h2=>by
  rw[Dt.py]at h1 h2
  rw[Dt.py,Dt.py,Dt.eq,PyData.eqv]
  exact Vx xs ys (by simpa [PyData.canLay0] using h1) (by simpa [PyData.canLay0] using h2)
theorem Vx:∀(xs ys:List Dt),PyData.canLayAll0 (Dt.pys xs)=true→PyData.canLayAll0 (Dt.pys ys)=true→PyData.eqvAll (Dt.pys xs) (Dt.pys ys)=Dt.eqs xs ys
 | [],[],_,_=>by simp[Dt.pys,Dt.eqs,PyData.eqvAll]
 | [],_::_,_,_=>by simp[Dt.pys,Dt.eqs,PyData.eqvAll]
 |_::_,[],_,_=>by simp[Dt.pys,Dt.eqs,PyData.eqvAll]
 | x::xs,y::ys,h1,h2=>by
  rw[Dt.pys]at h1 h2
  have h1':x.py.canLay0=true∧PyData.canLayAll0 (Dt.pys xs)=true:=by simpa [PyData.canLayAll0] using h1
  have h2':y.py.canLay0=true∧PyData.canLayAll0 (Dt.pys ys)=true:=by simpa [PyData.canLayAll0] using h2
  rw[Dt.pys,Dt.pys,Dt.eqs,PyData.eqvAll,Q7 x y h1'.1 h2'.1,Vx xs ys h1'.2 h2'.2]
end
def Af1(K:W.Frag)(neg:Bool):R2:=fun x y H Q=>∃a b,Rp K H a x∧Rp K H b y∧a.flat 8=true∧b.flat 8=true∧Q (.bl (if neg then !a.eq b else a.eq b)) H
theorem YD(hu:X.A.units+64<cLine):OpR X (compareOp .Eq) (Af1 X.K false):=by
 intro pins s σ H x y v u Q I rx ry ⟨a,b,ra,rb,fa,fb,q⟩
 obtain⟨ca,da⟩:=Gk a 8 fa
 obtain⟨cb,db⟩:=Gk b 8 fb
 obtain⟨as,r1⟩:=HF I ca ra rx
 obtain⟨bs,r2⟩:=HF I cb rb ry
 refine rcAt_reads r1 r2 ca cb ∅ _ _ _ _ ?_
 rw[Q7 a b ca cb]
 exact⟨.bl _,H,I,rfl,q⟩
theorem Ad2(hu:X.A.units+64<cLine):OpR X (compareOp .NotEq) (Af1 X.K true):=by
 intro pins s σ H x y v u Q I rx ry ⟨a,b,ra,rb,fa,fb,q⟩
 obtain⟨ca,da⟩:=Gk a 8 fa
 obtain⟨cb,db⟩:=Gk b 8 fb
 obtain⟨as,r1⟩:=HF I ca ra rx
 obtain⟨bs,r2⟩:=HF I cb rb ry
 refine compareNe_reads r1 r2 ca cb ∅ ?_
 rw[Q7 a b ca cb]
 exact⟨.bl _,H,I,rfl,q⟩
def dEq:D2:=fun a b Q=>(a.flat 8=true∧b.flat 8=true)∧Q (.bl (a.eq b))
def dNe:D2:=fun a b Q=>(a.flat 8=true∧b.flat 8=true)∧Q (.bl (!a.eq b))
theorem YB{K:W.Frag}:Jb K (Af1 K false) dEq:=⟨fun hq h=>⟨h.1,hq _ h.2⟩,fun O H a b x y Q _ ra rb h=>⟨a,b,ra.mono Bh,rb.mono Bh,h.1.1,h.1.2,h.2 _ H (Same.refl H) (Cz.mpr rfl)⟩⟩
theorem AcC{K:W.Frag}:Jb K (Af1 K true) dNe:=⟨fun hq h=>⟨h.1,hq _ h.2⟩,fun O H a b x y Q _ ra rb h=>⟨a,b,ra.mono Bh,rb.mono Bh,h.1.1,h.1.2,h.2 _ H (Same.refl H) (Cz.mpr rfl)⟩⟩
theorem VL(hu:X.A.units+64<cLine)(ha:DE X a ta)(hb:DE X b tb):DE X (.Compare a [.Eq] [b] pos) (dOp dEq ta tb):=Qk (YD hu) YB ha hb (HD _)
theorem AhL(hu:X.A.units+64<cLine)(ha:DE X a ta)(hb:DE X b tb):DE X (.Compare a [.NotEq] [b] pos) (dOp dNe ta tb):=Qk (Ad2 hu) AcC ha hb (HD _)
theorem JV(hu:X.A.units+64<cLine)(ha:DE X a ta)(hb:DE X b tb):DT X (.Compare a [.Eq] [b] pos) (Ma (dOp dEq ta tb)):=Ka (YD hu) YB ha hb (HD _)
theorem Im(hu:X.A.units+64<cLine)(ha:DE X a ta)(hb:DE X b tb):DT X (.Compare a [.NotEq] [b] pos) (Ma (dOp dNe ta tb)):=Ka (Ad2 hu) AcC ha hb (HD _)
def isB(k:Bool):Dt→Bool
 |.bl b=>b==k
 |_=>false
def isN:Dt→Bool
 |.non=>true
 |_=>false
theorem AfA:OpR X (compareOp .IsNot) (fun x y H Q=>∃k:Bool,y=.bl k∧Q (.bl (!decide (x=.bl k))) H):=by
 intro pins s σ H x y v u Q I rx ry ⟨k,e,q⟩
 subst e
 cases(show u=.bool k from ry)
 cases x with
 |non=>cases(show v=.none from rx);exact wpAny_isNot_plain rfl (Jp I q (by simp))
 |bl b=>cases(show v=.bool b from rx);exact wpAny_isNot_plain rfl (Jp I q (by cases b<;>cases k<;>rfl))
 |int i=>obtain⟨t,rfl⟩:=rx;exact wpAny_isNot_plain rfl (Jp I q (by simp))
 |str i=>obtain⟨t,rfl⟩:=rx;exact wpAny_isNot_plain rfl (Jp I q (by simp))
 |byt i=>obtain⟨t,rfl⟩:=rx;exact wpAny_isNot_plain rfl (Jp I q (by simp))
 |flt i=>obtain⟨t,rfl⟩:=rx;exact wpAny_isNot_plain rfl (Jp I q (by simp))
 |ref i=>cases(show v=.ref i from rx);exact wpAny_isNot_plain rfl (Jp I q (by simp))
 |ty i=>cases(show v=.type i from rx);exact wpAny_isNot_plain rfl (Jp I q (by simp))
theorem AiH{K:W.Frag}{H:Hp}{d:Dt}{v:V}{k:Bool}(r:Rp K H d v):decide (v=.bl k)=isB k d:=by
 cases d with
 |non=>rw[J7.mp r];simp[isB]
 |bl b=>rw[Cz.mp r];cases b<;>cases k<;>simp[isB]
 |int i=>rw[Bf.mp r];simp[isB]
 |str i=>rw[Oh.mp r];simp[isB]
 |fn a=>rw[AhT.mp r];simp[isB]
 |exc _ _ _=>obtain⟨a,_,_,_,_,rfl,_⟩:=Adq.mp r;simp[isB]
 |obj _ _ _=>obtain⟨a,_,_,_,rfl,_⟩:=Qy.mp r;simp[isB]
 |tup ds=>obtain⟨a,xs,rfl,_⟩:=Cu.mp r;simp[isB]
 |lst ds=>obtain⟨a,xs,rfl,_⟩:=CN r;simp[isB]
theorem Ah4{K:W.Frag}{H:Hp}{d:Dt}{v:V}(r:Rp K H d v):decide (v=.non)=isN d:=by
 cases d with
 |non=>rw[J7.mp r];simp[isN]
 |bl b=>rw[Cz.mp r];simp[isN]
 |int i=>rw[Bf.mp r];simp[isN]
 |str i=>rw[Oh.mp r];simp[isN]
 |fn a=>rw[AhT.mp r];simp[isN]
 |exc _ _ _=>obtain⟨a,_,_,_,_,rfl,_⟩:=Adq.mp r;simp[isN]
 |obj _ _ _=>obtain⟨a,_,_,_,rfl,_⟩:=Qy.mp r;simp[isN]
 |tup ds=>obtain⟨a,xs,rfl,_⟩:=Cu.mp r;simp[isN]
 |lst ds=>obtain⟨a,xs,rfl,_⟩:=CN r;simp[isN]
def dIs(neg:Bool):D2:=fun a b Q=>match b with
 |.bl k=>Q (.bl (if neg then !isB k a else isB k a))
 |.non=>Q (.bl (if neg then !isN a else isN a))
 |_=>False
theorem AcK{neg:Bool}:∀{a b Q Q'},(∀d,Q d→Q' d)→dIs neg a b Q→dIs neg a b Q':=fun{a b Q Q'} hq h=>by
 unfold dIs at h ⊢
 split at h
 ·exact hq _ h
 ·exact hq _ h
 ·exact h.elim
theorem Af5{K:W.Frag}:Jb K (fun x y H Q=>(∃k:Bool,y=.bl k∧Q (.bl (!decide (x=.bl k))) H)∨(y=.non∧Q (.bl (!decide (x=.non))) H)) (dIs true):=⟨AcK,fun O H a b x y Q _ ra rb h=>by
 unfold dIs at h
 split at h
 ·exact .inl ⟨_,Cz.mp rb,by rw[AiH ra];exact h _ H (Same.refl H) (Cz.mpr rfl)⟩
 ·exact .inr ⟨J7.mp rb,by rw[Ah4 ra];exact h _ H (Same.refl H) (Cz.mpr rfl)⟩
 ·exact h.elim⟩
theorem Af0(ha:DE X a ta)(hb:DE X b tb):DT X (.Compare a [.IsNot] [b] pos) (Ma (dOp (dIs true) ta tb)):=Ka (AfA.or Ahm) Af5 ha hb (HD _)
def Qs(t t':D2)(ta tb tc:DTE):DTE:=fun ρ Q=>ta ρ fun a=>tb ρ fun b=>t a b fun z=>match z with
 |.bl k=>if k=true then tc ρ fun c=>t' b c Q else Q (.bl false)
 |_=>False
theorem Yd{t t':D2}{ta tb tc:DTE}(m:∀{a b Q Q'},(∀d,Q d→Q' d)→t a b Q→t a b Q')(m':∀{a b Q Q'},(∀d,Q d→Q' d)→t' a b Q→t' a b Q')
  (ma:∀{ρ Q Q'},(∀d,Q d→Q' d)→ta ρ Q→ta ρ Q') (mb:∀{ρ Q Q'},(∀d,Q d→Q' d)→tb ρ Q→tb ρ Q') (mc:∀{ρ Q Q'},(∀d,Q d→Q' d)→tc ρ Q→tc ρ Q') :
  ∀{ρ Q Q'},(∀d,Q d→Q' d)→Qs t t' ta tb tc ρ Q→Qs t t' ta tb tc ρ Q':=fun hq h=>ma (fun _ h=>mb (fun _ h=>m (fun z h=>by
   split at h
   ·rename_i k
    cases k with
    |true=>exact mc (fun _ h=>m' hq h) h
    |false=>exact hq _ h
   ·exact h.elim) h) h) h
theorem Aa0{K:W.Frag}{r r':R2}{t t':D2}(S:Jb K r t)(S':Jb K r' t'){ta tb tc:DTE}(ma:∀{ρ Q Q'},(∀d,Q d→Q' d)→ta ρ Q→ta ρ Q')(mb:∀{ρ Q Q'},(∀d,Q d→Q' d)→tb ρ Q→tb ρ Q')(mc:∀{ρ Q Q'},(∀d,Q d→Q' d)→tc ρ Q→tc ρ Q')
  (σ:St) (H:Hp) (Q:VK) (h:lE K (Qs t t' ta tb tc) σ H Q):AeO r r' (lE K ta) (lE K tb) (lE K tc) σ H Q:=by
 obtain⟨B,F,O,ρ,R,h⟩:=h
 refine⟨B,F,O,ρ,R,ma (fun a h v H1 s1 r1=>⟨B,F,O,ρ,R.same s1,mb (fun b h u H2 s2 r2=>?_) h⟩) h⟩
 refine S.ok _ H2 a b v u _ ((R.same s1).same s2).th (r1.mono s2.mask) r2 (S.mono (fun z h w H3 s3 r3=>?_) h)
 split at h
 ·rename_i k
  refine⟨k,Cz.mp r3,?_⟩
  have jX:=(s1.trans s2).trans s3
  cases k with
  |true=>exact⟨B,F,O,ρ,R.same jX,mc (fun c h y H4 s4 r4=>S'.ok _ H4 b c u y Q ((R.same jX).same s4).th ((r2.mono s3.mask).mono s4.mask) r4 (S'.mono (fun d q w' H5 s5 r5=>q w' H5 ((jX.trans s4).trans s5) r5) h)) h⟩
  |false=>exact h _ H3 jX (Cz.mpr rfl)
 ·exact h.elim
theorem Ms{op op':CmpOp}{r r':R2}{t t':D2}(ho:OpR X (compareOp op) r)(ho':OpR X (compareOp op') r')(S:Jb X.K r t)(S':Jb X.K r' t')(ha:DE X a ta)(hb:DE X b tb)(hc:DE X c tc)
  (hm:lastMarks [op,op'] [b,c]=false:=by with_unfolding_all rfl):DE X (.Compare a [op,op'] [b,c] pos) (Qs t t' ta tb tc) where
 mono:=Yd (t:=t) (t':=t') (ta:=ta) (tb:=tb) (tc:=tc) S.mono S'.mono ha.mono hb.mono hc.mono
 pe:=(AdJ ho ho' ha.pe hb.pe hc.pe hm).imp (Aa0 (ta:=ta) (tb:=tb) (tc:=tc) S S' ha.mono hb.mono hc.mono)
abbrev DL:=List Dt→(Dt→Prop)→Prop
structure Vf(K:W.Frag)(r:List V→Hp→VK→Prop)(t:DL):Prop where
 mono:∀{ds Q Q'},(∀d,Q d→Q' d)→t ds Q→t ds Q'
 ok:∀(O:List Addr)(H:Hp)(ds:List Dt)(xs:List V)(Q:VK),(∀p∈O,H p≠none)→RpL K (mask O H) ds xs →
  t ds (fun d=>∀v H',Same H H'→Rp K (mask O H') d v→Q v H')→r xs H Q
def dCB(t:DL)(tl:DTA):DTE:=fun ρ Q=>tl ρ fun ds=>t ds Q
theorem Ah6{K:W.Frag}{r:List V→Hp→VK→Prop}{t:DL}(S:Vf K r t){tl:DTA}(m:∀{ρ Q Q'},(∀d,Q d→Q' d)→tl ρ Q→tl ρ Q')(σ:St)(H:Hp)(Q:VK)(h:lE K (dCB t tl) σ H Q):tCB r (lA K tl) σ H Q:=by
 obtain⟨B,F,O,ρ,R,h⟩:=h
 exact⟨B,F,O,ρ,R,m (fun ds h vs H1 s1 r1=>S.ok _ H1 ds vs Q (R.same s1).th r1 (S.mono (fun d q v H2 s2 r2=>q v H2 (s1.trans s2) r2) h)) h⟩
theorem Q8{id:String}{x:Str}{p:Pos}{r:List V→Hp→VK→Prop}{t:DL}(hc:Il X (.builtin id) r)(S:Vf X.K r t)(hg:Gl X x)(hm:X.mg x=none)(hv:bootBuiltins x=some (.builtin id))(ha:DA X (e::es) tl)(hn:x≠"__name__":=by decide)
  (hdb:(x==("__debug__":Str))=false:=by decide) (he:starEach (e::es) X.env=(false,eval e X.env)::starEach es X.env:=by rfl) (hpl:(backTo pos (starEach es X.env)).any (·.1)=false:=by rfl):DE X (.Call (.Name x p) (e::es) [] pos) (dCB t tl) where
 mono:=fun hq h=>ha.mono (fun _ h=>S.mono hq h) h
 pe:=(Ro hc hg hm hv ha.pa hn hdb he hpl).imp (Ah6 (tl:=tl) S ha.mono)
def AdZ:DL:=fun ds Q=>match ds with
 | [.lst xs]=>Q (.int xs.length)
 | [.tup xs]=>Q (.int xs.length)
 |_=>False
def Adt:DL:=fun ds Q=>match ds with
 | [.int i]=>Q (.int (if i<0 then -i else i))
 |_=>False
def Aem:DL:=fun ds Q=>match ds with
 | [.int i,.int j]=>Q (.int (if j>i then j else i))
 |_=>False
def Anc:DL:=fun ds Q=>match ds with
 | [.int i,.int j]=>Q (.int (if j<i then j else i))
 |_=>False
def Amn:DL:=fun ds Q=>match ds with
 | [.int i]=>Q (.int i)
 | [.bl k]=>Q (.int (if k then 1 else 0))
 |_=>False
theorem Ahk{K:W.Frag}:Vf K (fun xs H Q=>∃p ys,xs=[.ref p]∧(SqL K H p ys∨SqT K H p ys)∧Q (.int ys.length) H) AdZ where
 mono:=fun hq h=>by
  unfold AdZ at h ⊢
  split at h
  ·exact hq _ h
  ·exact hq _ h
  ·exact h.elim
 ok:=fun O H ds xs Q _ r h=>by
  unfold AdZ at h
  split at h
  ·obtain⟨v,r',rfl,r2,r3⟩:=Aw.mp r
   obtain rfl:=Bq.mp r3
   obtain⟨a,ys,rfl,hs,hl⟩:=CN r2
   exact⟨a,ys,rfl,.inl (Bh.seq hs),by rw[hl.len];exact h _ H (Same.refl H) (Bf.mpr rfl)⟩
  ·obtain⟨v,r',rfl,r2,r3⟩:=Aw.mp r
   obtain rfl:=Bq.mp r3
   obtain⟨a,ys,rfl,hs,hl⟩:=Cu.mp r2
   exact⟨a,ys,rfl,.inr (Bh.bU hs),by rw[hl.len];exact h _ H (Same.refl H) (Bf.mpr rfl)⟩
  ·exact h.elim
theorem AmO{K:W.Frag}{H:Hp}{i:Int}{xs:List V}(h:RpL K H [.int i] xs):xs=[.int i]:=by
 obtain⟨v,r,rfl,r2,r3⟩:=Aw.mp h
 rw[Bq.mp r3,Bf.mp r2]
theorem AnP{K:W.Frag}{H:Hp}{i j:Int}{xs:List V}(h:RpL K H [.int i,.int j] xs):xs=[.int i,.int j]:=by
 obtain⟨v,r,rfl,r2,r3⟩:=Aw.mp h
 rw[AmO r3,Bf.mp r2]
theorem AfS{K:W.Frag}:Vf K (fun xs H Q=>∃i,xs=[.int i]∧Q (.int (if i<0 then -i else i)) H) Adt where
 mono:=fun hq h=>by
  unfold Adt at h ⊢
  split at h
  ·exact hq _ h
  ·exact h.elim
 ok:=fun O H ds xs Q _ r h=>by
  unfold Adt at h
  split at h
  ·exact⟨_,AmO r,h _ H (Same.refl H) (Bf.mpr rfl)⟩
  ·exact h.elim
theorem AgA{K:W.Frag}:Vf K (fun xs H Q=>∃i j,xs=[.int i,.int j]∧Q (.int (if j>i then j else i)) H) Aem where
 mono:=fun hq h=>by
  unfold Aem at h ⊢
  split at h
  ·exact hq _ h
  ·exact h.elim
 ok:=fun O H ds xs Q _ r h=>by
  unfold Aem at h
  split at h
  ·exact⟨_,_,AnP r,h _ H (Same.refl H) (Bf.mpr rfl)⟩
  ·exact h.elim
theorem Yb{p:Pos}(hm:X.mg "len"=none)(ha:DA X [a] tl)(hg:Gl X "len":=by rfl)(he:starEach [a] X.env=(false,eval a X.env)::starEach [] X.env:=by rfl)(hpl:(backTo pos (starEach [] X.env)).any (·.1)=false:=by rfl) :
  DE X (.Call (.Name "len" p) [a] [] pos) (dCB AdZ tl):=Q8 U3 Ahk hg hm PySem.boot_len ha (he:=he) (hpl:=hpl)
theorem G8{p:Pos}(hm:X.mg "abs"=none)(ha:DA X [a] tl)(hg:Gl X "abs":=by rfl)(hv:bootBuiltins "abs"=some (.builtin "abs"):=by rfl)(he:starEach [a] X.env=(false,eval a X.env)::starEach [] X.env:=by rfl)(hpl:(backTo pos (starEach [] X.env)).any (·.1)=false:=by rfl) :
  DE X (.Call (.Name "abs" p) [a] [] pos) (dCB Adt tl):=Q8 Ac4 AfS hg hm hv ha (he:=he) (hpl:=hpl)
theorem Vc{p:Pos}(hm:X.mg "max"=none)(ha:DA X [a,b] tl)(hc:X.calm=true:=by rfl)(hg:Gl X "max":=by rfl)(hv:bootBuiltins "max"=some (.builtin "max"):=by rfl)(he:starEach [a,b] X.env=(false,eval a X.env)::starEach [b] X.env:=by rfl)
  (hpl:(backTo pos (starEach [b] X.env)).any (·.1)=false:=by rfl):DE X (.Call (.Name "max" p) [a,b] [] pos) (dCB Aem tl):=Q8 (AbH hc) AgA hg hm hv ha (he:=he) (hpl:=hpl)
def tyOf:Dt→String
 |.non=>"NoneType"
 |.bl _=>"bool"
 |.int _=>"int"
 |.str _=>"str"
 |.tup _=>"tuple"
 |.lst _=>"list"
 |.fn _=>"function"
 |.exc _ _ _=>"exception"
 |.obj _ _ _=>"instance"
def noFn:Dt→Bool
 |.fn _=>false
 |.exc _ _ _=>false
 |.obj _ _ _=>false
 |_=>true
def isT(T:String)(d:Dt):Bool:=tyOf d==T||(T=="int"&&tyOf d=="bool")
def S5(T:String):Prop:=∀(K:W.Frag)(d:Dt),noFn d=true→W.kitOne K (.type (tyOf d)) (.type T)=some (isT T d)
theorem Adi{T:String}(hT:S5 T):Il X (.builtin "isinstance") (fun xs H Q=>∃d x,xs=[x,.ty T]∧Rp X.K H d x∧noFn d=true∧Q (.bl (isT T d)) H):=by
 intro pins s σ H xs us Q I r ⟨d,x,e,rp,nf,q⟩
 subst e
 obtain⟨u,u2,rfl,r1,r2⟩:=vals2 r
 cases(show u2=.type T from r2)
 have hk:=hT X.K d nf
 have fin:∀tk,EP X pins σ Q (.bool (isT T d)) {s with toks:=tk}:=fun tk=>⟨.bl _,H,I.tok tk,rfl,q⟩
 cases d with
 |non=>rw[J7.mp rp]at r1;cases(show u=Value.none from r1);exact W.kia_one W.kitx_none I.kIn True.intro hk (fun z=>nomatch z) fin
 |bl y=>rw[Cz.mp rp]at r1;cases(show u=Value.bool y from r1);exact W.kia_one W.kitx_bool I.kIn True.intro hk (fun z=>nomatch z) fin
 |int i=>rw[Bf.mp rp]at r1;obtain⟨t,q⟩:=(show ∃t,u=Value.int i t from r1);cases q;exact W.kia_one W.kitx_int I.kIn True.intro hk (fun z=>nomatch z) fin
 |str y=>rw[Oh.mp rp]at r1;obtain⟨t,q⟩:=(show ∃t,u=Value.str y t from r1);cases q;exact W.kia_one W.kitx_str I.kIn True.intro hk (fun z=>nomatch z) fin
 |fn a=>cases nf
 |exc _ _ _=>cases nf
 |obj _ _ _=>cases nf
 | tup ds =>
  obtain⟨a,ys,rfl,hs,_⟩:=Cu.mp rp
  cases(show u=Value.ref a from r1)
  obtain⟨_,_,⟨o,h1,h2,_⟩,_⟩:=I.tuple hs
  exact W.kia_one W.kitx_tuple I.kIn ⟨o,h1,h2⟩ hk (fun z=>nomatch z) fin
 | lst ds =>
  obtain⟨a,ys,rfl,hs,_⟩:=CN rp
  cases(show u=Value.ref a from r1)
  obtain⟨_,_,⟨o,n,h1,h2,_⟩,_⟩:=I.list hs
  exact W.kia_one W.kitx_list I.kIn ⟨o,h1,h2⟩ hk (fun z=>nomatch z) fin
def Alm(T:String)(ta:DTE):DTE:=fun ρ Q=>ta ρ fun d=>noFn d=true∧Q (.bl (isT T d))
theorem QZ{T:String}{Ts:Str}{p p2:Pos}(hm:X.mg "isinstance"=none)(hmT:X.mg Ts=none)(hT:S5 T)(ha:DE X a ta)(hg:Gl X "isinstance":=by rfl)(hgT:Gl X Ts:=by rfl)(hv:bootBuiltins "isinstance"=some (.builtin "isinstance"):=by rfl)
  (hvT:bootBuiltins Ts=some (.type T):=by rfl) (hn:Ts≠"__name__":=by decide) (hd:(Ts==("__debug__":Str))=false:=by decide)
  (hs1:starEach [a,.Name Ts p2] X.env=(false,eval a X.env)::starEach [.Name Ts p2] X.env:=by rfl) (hs2:starEach [.Name Ts p2] X.env=(false,eval (.Name Ts p2) X.env)::starEach [] X.env:=by rfl)
  (hpl:(backTo pos (starEach [.Name Ts p2] X.env)).any (·.1)=false:=by rfl):DE X (.Call (.Name "isinstance" p) [a,.Name Ts p2] [] pos) (Alm T ta) where
 mono:=fun hq h=>ha.mono (fun _ h=>⟨h.1,hq _ h.2⟩) h
 pe:=(Ro (Adi hT) hg hm hv (Hs ha.pe (Hs (Af7 (v:=.ty T) hgT hmT hvT rfl hn hd) Lr hs2) hs1) (he:=hs1) (hpl:=hpl)).imp fun σ H Q ⟨B,F,O,ρ,R,h⟩ =>
  ⟨B,F,O,ρ,R,ha.mono (fun d h v H1 s1 r1=>⟨d,v,rfl,r1.mono Bh,h.1,h.2 _ H1 s1 (Cz.mpr rfl)⟩) h⟩
abbrev DTO:=Bu→(Option Int→Prop)→Prop
def lO(K:W.Frag)(t:DTO):TO:=fun σ H Q=>∃B F O ρ,Rep K B F O H σ ρ∧t ρ fun o=>∀H',Same H H'→Q o H'
structure DO(X:Cx)(e:Option Expr)(t:DTO):Prop where
 mono:∀{ρ Q Q'},(∀d,Q d→Q' d)→t ρ Q→t ρ Q'
 po:PO X e (lO X.K t)
def Afl:DTO:=fun _ Q=>Q none
def AhE(te:DTE):DTO:=fun ρ Q=>te ρ fun d=>match d with
 |.int i=>Q (some i)
 |_=>False
theorem PO.imp{e:Option Expr}{t t':TO}(h:PO X e t)(i:∀σ H Q,t' σ H Q→t σ H Q):PO X e t':=fun pins s σ H Q I q=>h pins s σ H Q I (i _ _ _ q)
theorem Zy(h:DE X e te):DO X (some e) (AhE te) where
 mono:=fun hq z=>h.mono (fun d z=>by
  split at z
  ·exact hq _ z
  ·exact z.elim) z
 po:=(Af4 h.pe).imp fun σ H Q ⟨B,F,O,ρ,R,z⟩=>⟨B,F,O,ρ,R,h.mono (fun d z v H1 s1 r1=>by
  split at z
  ·exact⟨_,Bf.mp r1,z H1 s1⟩
  ·exact z.elim) z⟩
def cutD(xs:List Dt)(lo hi:Option Int):List Dt:=(xs.drop (HT.sIx xs.length 0 lo)).take (HT.sIx xs.length xs.length hi-HT.sIx xs.length 0 lo)
theorem RpL.cut{K:W.Frag}{H:Hp}{ds:List Dt}{xs:List V}{lo hi:Option Int}(h:RpL K H ds xs):RpL K H (cutD ds lo hi) (AbG xs lo hi):=by
 unfold cutD AbG
 rw[h.len]
 exact(h.drop _).take _
def AeB(te:DTE)(tl th:DTO):DTE:=fun ρ Q=>te ρ fun d=>tl ρ fun lo=>th ρ fun hi=>match d with
 |.lst ds=>Q (.lst (cutD ds lo hi))
 |_=>False
theorem AcI{lo hi:Option Expr}{t1 t2:DTO}{p2:Pos}(he:DE X e te)(hl:DO X lo t1)(hh:DO X hi t2):DE X (.Subscript e (.Slice lo hi none p2) pos) (AeB te t1 t2) where
 mono:=fun hq z=>he.mono (fun d z=>hl.mono (fun l z=>hh.mono (fun h z=>by
  split at z
  ·exact hq _ z
  ·exact z.elim) z) z) z
 pe:=(Adj Ahe he.pe hl.po hh.po).imp fun σ H Q ⟨B,F,O,ρ,R,z⟩=>⟨B,F,O,ρ,R,he.mono (fun d z v H1 s1 r1=>⟨B,F,O,ρ,R.same s1,hl.mono (fun l z H2 s2=>⟨B,F,O,ρ,(R.same s1).same s2,hh.mono (fun h z H3 s3=>by
  split at z
  ·obtain⟨a,xs,rfl,hs,hr⟩:=CN ((r1.mono s2.mask).mono s3.mask)
   refine⟨a,xs,rfl,Bh.seq hs,fun p hp=>?_⟩
   have R3:=((R.same s1).same s2).same s3
   have np:p∉F++O:=fun m=>R3.th p m hp
   refine z (.ref p) _ (((s1.trans s2).trans s3).trans (Same.upd hp)) (Ho ⟨p,_,rfl,(Gm np),?_⟩)
   exact hr.cut.mono (Same.upd hp).mask
  ·exact z.elim) z⟩) z⟩) z⟩
end
theorem Agw:S5 "int":=fun K d h=>by cases d<;>first|rfl|cases h
theorem Ad7:S5 "bool":=fun K d h=>by cases d<;>first|rfl|cases h
theorem Abs:S5 "tuple":=fun K d h=>by cases d<;>first|rfl|cases h
theorem V4:S5 "list":=fun K d h=>by cases d<;>first|rfl|cases h
end L2
namespace L2
open PySem Spec PyProof.Rows SeqAt
theorem Ln(env:Env):∀(names:List (Str×NameKind))(cs:List (Str×Addr)),(∀y∈names,y.2=.free→∃c,env.cells.lookup y.1=some c)→(∀n c,cs.lookup n=some c→env.cells.lookup n=some c) →
  ∃cl,(forIn names cs fun(x:Str×NameKind)(r:List (Str×Addr))=>(if(x.2==NameKind.free)=true then(do let c ←cellOf env x.1;pure (ForInStep.yield ((x.1,c)::r)))else pure (ForInStep.yield r):Sem (ForInStep (List (Str×Addr)))))=pure cl ∧
   (∀n c,cl.lookup n=some c→env.cells.lookup n=some c)∧(∀n,(cs.lookup n).isSome=true→(cl.lookup n).isSome=true)∧∀n,(n,NameKind.free)∈names→(cl.lookup n).isSome=true
 | [],cs,_,h2=>⟨cs,rfl,h2,fun _ h=>h,fun n h=>(nomatch h)⟩
 | (x,k)::names,cs,h1,h2=>by
  rw[List.forIn_cons]
  by_cases hk:k=.free
  ·subst hk
   obtain⟨c,hc⟩:=h1 (x,.free) List.mem_cons_self rfl
   have e:cellOf env x=pure c:=by unfold cellOf;rw[hc]
   have h3:∀n c',((x,c)::cs).lookup n=some c'→env.cells.lookup n=some c':=fun n c' q=>by
    rw[List.lookup_cons]at q
    split at q
    ·rename_i b;cases q;rw[eq_of_beq b];exact hc
    ·exact h2 n c' q
   obtain⟨cl,g1,g2,g3,g4⟩:=Ln env names ((x,c)::cs) (fun y hy=>h1 y (List.mem_cons_of_mem _ hy)) h3
   refine⟨cl,?_,g2,fun n q=>g3 n ?_,fun n hn=>?_⟩
   ·simp only[beq_self_eq_true,if_true,e,pure_bind]
    exact g1
   ·rw[List.lookup_cons];split
    ·rfl
    ·exact q
   ·rcases List.mem_cons.mp hn with q|q
    ·cases q
     exact g3 x (by rw[List.lookup_cons];simp)
    ·exact g4 n q
  ·have hb:(k==NameKind.free)=false:=by simpa using hk
   obtain⟨cl,g1,g2,g3,g4⟩:=Ln env names cs (fun y hy=>h1 y (List.mem_cons_of_mem _ hy)) h2
   refine⟨cl,?_,g2,g3,fun n hn=>?_⟩
   ·simp only[hb,Bool.false_eq_true,if_false,pure_bind]
    exact g1
   ·rcases List.mem_cons.mp hn with q|q
    ·cases q;exact absurd rfl hk
    ·exact g4 n q
theorem PN{env:Env}{scope:Scope}(h:∀y∈scope.names,y.2=.free→∃c,env.cells.lookup y.1=some c) :
  ∃cl,closureFor scope env=pure cl∧(∀n c,cl.lookup n=some c→env.cells.lookup n=some c)∧∀n,(n,NameKind.free)∈scope.names→∃c,cl.lookup n=some c:=by
 obtain⟨cl,g1,g2,_,g4⟩:=Ln env scope.names [] h (fun n c q=>by simp at q)
 refine⟨cl,?_,g2,fun n q=>Option.isSome_iff_exists.mp (g4 n q)⟩
 unfold closureFor
 simp only[bind_pure]
 exact g1
def Bm(X:Cx)(scope:Scope)(N:List Str)(cl:List (Str×Addr))(C:Addr)(s₀:Shared)(H₀:Hp)(ex:List Addr):Cx where
 prog:=X.prog
 w:=X.w
 K:=X.K
 mg:=X.mg
 base:=X.base
 A:=X.A
 N:=N
 s₀:=s₀
 H₀:=H₀
 env:=compEnvC scope cl C X.env
 outer:=X.stack
 stack:=X.stack
 ex:=ex
 fn:=fun _=>false
 calm:=X.calm
 pn:=[]
 xe:=fun _ _=>False
def PTs(X:Cx)(ifs:List Expr)(t:TT):Prop :=
 ∀(pins:List (Addr×Obj))(s:Shared)(σ:St)(H:Hp)(Q:Bool→Hp→Prop),Inv X pins σ H s→t σ H Q →
  wpAny (model X.prog X.w) X.A (forIn ifs true fun c r=>if r=true then do let ok ←isTrue c X.env (eval c X.env);pure (ForInStep.yield ok)else pure (ForInStep.yield r)) (TP X pins σ Q) X.xe s
theorem Afp{X:Cx}:PTs X [] (fun _ H Q=>Q true H):=fun pins s σ H Q I h=>wpAny_tests_nil ⟨H,I,h⟩
theorem Agj{X:Cx}{c:Expr}{t:TT}(h:PT X c t):PTs X [c] t:=fun pins s σ H Q I q=>wpAny_tests_one (h pins s σ H Q I q)
def AdU(sl:List Nat)(wi:TI)(tt:TT)(te:TE):TE:=fun σ H Q=>wi σ H fun J H1=>∃vs:List V,sl.map (fun j=>σ[j]?)=vs.map (fun v=>some (some v))∧∀D,H1 D=none →
 ∃W:Nat→Nat→List V→Hp→Prop,(∃m,W 0 m [] (upd H1 D (.lst [])))∧∀i m acc H,W i m acc H →
  (J.stop i H∧Q (.ref D) H) ∨
  (J.go i H∧∀x H',J.yld i H x H'→tt (some x::vs.map some) H' fun b H2 =>
   if b=true then te (some x::vs.map some) H2 fun y H3=>H3 D=some (.lst acc)∧acc.length<sizeLine∧∃m',m'<m∧W (i+1) m' (acc++[y]) (upd H3 D (.lst (acc++[y])))
   else ∃m',m'<m∧W (i+1) m' acc H2)
theorem Hg{env:Env}:∀{names:List (Str×NameKind)} {x:Str},names.lookup x=some .free→env.scope.kind=.function→env.kindOf x=some .cell →
  (names.map fun(n,k)=>if(k==NameKind.free&&env.scope.kind == .function&&env.kindOf n==some .cell)then(n,NameKind.cell)else(n,k)).lookup x=some .cell
 | [],_,h,_,_=>by simp at h
 | (n,k)::r,x,h,hk,he=>by
  have ih:=@Hg env r x
  show List.lookup x ((if(k==NameKind.free&&env.scope.kind == .function&&env.kindOf n==some .cell)=true then(n,NameKind.cell)else(n,k))::_)=_
  cases hx:x==n with
  | true =>
   simp only[List.lookup_cons,hx]at h
   cases h
   have e:=eq_of_beq hx
   subst e
   simp[List.lookup_cons,hk,he]
  | false =>
   simp only[List.lookup_cons,hx]at h
   by_cases hc:(k==NameKind.free&&env.scope.kind == .function&&env.kindOf n==some .cell)=true
   ·rw[if_pos hc];simp only[List.lookup_cons,hx];exact ih h hk he
   ·rw[if_neg hc];simp only[List.lookup_cons,hx];exact ih h hk he
theorem MK{env:Env}:∀{names:List (Str×NameKind)} {x:Str},(∀y∈names,y.2≠.cell) →
  ((names.map fun(n,k)=>if(k==NameKind.free&&env.scope.kind == .function&&env.kindOf n==some .cell)then(n,NameKind.cell)else(n,k)).lookup x=some .cell ∨
   (names.map fun(n,k)=>if(k==NameKind.free&&env.scope.kind == .function&&env.kindOf n==some .cell)then(n,NameKind.cell)else(n,k)).lookup x=some .free)→(x,NameKind.free)∈names
 | [],_,_,h=>by simp at h
 | (n,k)::r,x,hn,h=>by
  have ih:=@MK env r x fun y hy=>hn y (List.mem_cons_of_mem _ hy)
  have nk:k≠.cell:=hn (n,k) List.mem_cons_self
  rw[List.map_cons]at h
  by_cases hc:(k==NameKind.free&&env.scope.kind == .function&&env.kindOf n==some .cell)=true
  ·simp only[hc,if_true,List.lookup_cons]at h
   have kf:k=.free:=by simp at hc;exact hc.1.1
   subst kf
   cases hx:x==n with
   |true=>rw[eq_of_beq hx];exact List.mem_cons_self
   |false=>simp only[hx]at h;exact List.mem_cons_of_mem _ (ih h)
  ·have hc':(k==NameKind.free&&env.scope.kind == .function&&env.kindOf n==some .cell)=false:=by simpa using hc
   simp only[hc',Bool.false_eq_true,if_false,List.lookup_cons]at h
   cases hx:x==n with
   | true =>
    simp only[hx]at h
    have kf:k=.free:=by
     rcases h with h|h
     ·exact absurd (Option.some.inj h) nk
     ·exact Option.some.inj h
    subst kf
    rw[eq_of_beq hx];exact List.mem_cons_self
   |false=>simp only[hx]at h;exact List.mem_cons_of_mem _ (ih h)
section
variable{X:Cx}{elt iter:Expr}{x:Str}{px:Pos}{ifs:List Expr}{scope:Scope}{pos:Pos}{N:List Str}{sl:List Nat}{wi:TI}{tt:TT}{te:TE}
structure Fg(X:Cx)(scope:Scope)(x:Str)(N:List Str)(sl:List Nat):Prop where
 hx:scope.names.lookup x=some .local
 kind:scope.kind=.function
 cell:∀y∈scope.names,y.2≠.cell
 names:∀y∈scope.names,y.2=.local→scope.names.lookup y.1=some .local
 free:∀y∈scope.names,y.2=.free→X.env.kindOf y.1=some .cell
 nd:(x::N).Nodup
 sl:N.map some=sl.map (fun j=>X.N[j]?)
 frN:∀n∈N,scope.names.lookup n=some .free
theorem VB(S:Fg X scope x N sl){pins:List (Addr×Obj)}{σ:St}{H:Hp}{s:Shared}{h₁:Heap}{tk:Nat}{fp:List Addr}{cl:List (Str×Addr)}{vs:List V}{o:Obj}(I:Inv X pins σ H s)
  (hfp:∀b∈fp,Pj X pins H b) (hob:∀b∈fp,∃o,s.heap.get? b=some o) (hns:h₁.Ns s.heap.objs.size (fun _=>none)) (hsb:Heap.SameBut s.heap.objs.size (s.heap.push o) h₁)
  (hcl:∀n c,cl.lookup n=some c→X.env.cells.lookup n=some c) (lC:∀n,(n,NameKind.free)∈scope.names→∃c,cl.lookup n=some c)
  (hvs:sl.map (fun j=>σ[j]?)=vs.map (fun v=>some (some v))) :
  Inv (Bm X scope (x::N) cl s.heap.objs.size s H fp) [] (none::vs.map some) H {s with heap:=h₁,toks:=tk}:=by
 have hL:=I.lt
 have keep:∀b o,s.heap.get? b=some o→h₁.get? b=some o:=fun b o e=>(hsb.2 b (Nat.ne_of_lt (Heap.lt_size e))).trans (Heap.get?_push_of_some _ e)
 have kf:X.env.scope.kind=.function:=I.ok.kind
 refine⟨⟨I.ok.mod,?_,I.ok.glob,I.ok.blt,Nat.le_refl _,fun y z c h1 h2=>I.ok.inj y z c (hcl y c h1) (hcl z c h2),fun y hy=>?_,fun y c h=>(by cases h),I.ok.hd,I.ok.frames,.inl rfl,fun b hb=>⟨?_,fun y c e=>?_⟩,fun b o e=>I.bs b o e,
  Nat.le_trans I.ok.bsz I.sz,fun b o e hb=>?_,fun b hb hz=>?_,I.stack,I.nH⟩,rfl,I.bare,Un.kept keep,⟨_,hns,fun i y v e1 e2 e3=>?_⟩,fun y c e=>?_,I.hok.fresh (Nat.le_refl _),fun y c e=>I.cZ y c (hcl y c e),
  fun p hp=>absurd (show p∈([]:List (Addr×Obj))from hp) (by simp),I.hok.kept keep,?_⟩
 ·exact S.kind
 ·exact lC y (MK (env:=X.env) (fun z hz=>S.cell z hz) hy)
 ·obtain⟨o',e⟩:=hob b hb
  exact Nat.ne_of_lt (Heap.lt_size e)
 ·exact(hfp b hb).2.2.2.2.1 y c (hcl y c e)
 ·rcases(hfp b hb).2.2.2.1 with z|z
  ·exact I.ok.pA b o e z
  ·exact absurd (Nat.lt_of_lt_of_le (Heap.lt_size e) (Nat.le_trans I.ok.bsz z)) (Nat.lt_irrefl _)
 ·rcases List.mem_cons.mp (I.mq b hz)with q|q
  ·exact(hfp b hb).2.1 q
  ·exact(hfp b hb).2.2.1 q
 ·cases i with
  |zero=>simp at e2
  | succ j =>
   have e1':N[j]? = some y:=by simpa [Bm] using e1
   have e2':vs[j]? = some v:=by
    rw[List.getElem?_cons_succ,List.getElem?_map]at e2
    cases q:vs[j]? with
    |none=>rw[q]at e2;cases e2
    |some v'=>rw[q]at e2;cases e2;rfl
   have q1:=congrArg (fun l=>l[j]?) S.sl
   have q2:=congrArg (fun l=>l[j]?) hvs
   simp only[List.getElem?_map,e1',e2',Option.map_some]at q1 q2
   cases hk:sl[j]? with
   |none=>rw[hk]at q1;cases q1
   | some k =>
    rw[hk]at q1 q2
    have n1:X.N[k]? = some y:=(Option.some.inj q1).symm
    have n2:σ[k]? = some (some v):=Option.some.inj q2
    have hfr:=S.frN y (List.mem_of_getElem? e1')
    have hm:=PySem.mem_of_lookup hfr
    have hc:=S.free _ hm rfl
    obtain⟨m,hn,hl⟩:=I.loc
    obtain⟨u,r,lk⟩:=hl k y v n1 n2 (.inr (.inl hc))
    refine⟨u,r,.inr ⟨.inl (Hg hfr kf hc),?_⟩⟩
    rcases lk with⟨kl,_⟩|⟨_,c,ec,⟨o',ho,hd⟩⟩
    ·rw[hc]at kl;cases kl
    ·obtain⟨c',ec'⟩:=lC y hm
     have:=hcl y c' ec'
     rw[ec]at this;cases this
     exact⟨c,ec',o',keep _ _ ho,hd⟩
 ·obtain⟨v,o',ho,hd⟩:=I.cell y c (hcl y c e)
  exact⟨v,o',keep _ _ ho,hd⟩
 ·have l1:=congrArg List.length S.sl
  have l2:=congrArg List.length hvs
  simp only[List.length_map]at l1 l2
  simp[Bm];omega
theorem Ae1(S:Fg X scope x N sl)(hc:X.calm=true)(hi:PI X (.Name x px) iter wi)(ht:∀cl C s₀ H₀ ex,PTs (Bm X scope (x::N) cl C s₀ H₀ ex) ifs tt)(he:∀cl C s₀ H₀ ex,PE (Bm X scope (x::N) cl C s₀ H₀ ex) elt te)
  (hs:∀x,foldedSetIterable iter X.env x=pure x:=by intro _;rfl):PE X (.ListComp elt [⟨.Name x px,iter,ifs,0⟩] scope pos) (AdU sl wi tt te):=by
 intro pins s σ H Q I h
 obtain⟨cl,hclos,hcl,lC⟩:=PN (env:=X.env) (scope:=scope) fun y hy hf=>I.ok.has y.1 (.inl (S.free y hy hf))
 rw[eval_ListComp]
 refine wpAny_comprehension_free (use:=none) rfl hs hclos S.kind S.names (thn (hi pins s σ H _ I h) fun v s1 h1=>thn h1 fun itv s2 h2=>?_)
 obtain⟨it,fp,tn,J,H2,e,I2,T,st2,f2,vs,hvs,hW⟩:=h2
 subst e
 refine wpAny_newObj_type (wpAny_newFunctionEnv S.cell (by intro y hy;simp at hy) (fun h₁ hns₁ hsb₁=>?_) S.kind)
 have hD:H2 s2.heap.objs.size=none:=I2.fresh
 have I3:Inv X pins σ (upd H2 s2.heap.objs.size (.lst [])) {s2 with heap:=s2.heap.push {cls:=.type "list",data:=.seq ([]:List Value).toArray},toks:=s2.toks}:=I2.rC (its:=[]) (ys:=[]) .nil (Nat.zero_le _)
 have hbD:∀b∈fp,b≠s2.heap.objs.size:=fun b hb z=>by
  obtain⟨o',e',_⟩:=T.obj _ _ st2 b hb
  exact absurd (Heap.lt_size e') (by rw[z];exact Nat.lt_irrefl _)
 have f3:∀b∈fp,Pj X pins (upd H2 s2.heap.objs.size (.lst [])) b:=fun b hb=>⟨by rw[Bo (hbD b hb)];exact(f2 b hb).1,(f2 b hb).2⟩
 have ob3:∀b∈fp,∃o,(s2.heap.push {cls:=.type "list",data:=.seq ([]:List Value).toArray}).get? b=some o:=fun b hb=>by
  obtain⟨o',e',_⟩:=T.obj _ _ st2 b hb
  exact⟨o',Heap.get?_push_of_some _ e'⟩
 have IC:=VB (tk:=s2.toks+([]:List (Str×Value)).length) S I3 f3 ob3 hns₁ hsb₁ hcl lC hvs
 dsimp only at hsb₁ IC ⊢
 generalize hCC:(s2.heap.push {cls:=.type "list",data:=.seq ([]:List Value).toArray}).objs.size=C at hns₁ hsb₁ IC ⊢
 have old:∀b o,s2.heap.get? b=some o→h₁.get? b=some o:=fun b o e=>by
  have e1:(s2.heap.push {cls:=.type "list",data:=.seq ([]:List Value).toArray}).get? b=some o:=Heap.get?_push_of_some _ e
  exact(hsb₁.2 b (by rw[←hCC];exact Nat.ne_of_lt (Heap.lt_size e1))).trans (Heap.get?_push_of_some _ e1)
 have st₁:tn 0 h₁:=T.keep _ _ _ st2 fun b hb o e=>old b o e
 obtain⟨W,⟨m0,w0⟩,turn⟩:=hW s2.heap.objs.size hD
 have fpC:∀{H':Hp} {pl:List (Addr×Obj)},(∀b∈fp,H' b=none)→(∀p∈pl,p.1∉fp)→∀b∈fp,Pj (Bm X scope (x::N) cl C {s2 with heap:=s2.heap.push {cls:=.type "list",data:=.seq ([]:List Value).toArray},toks:=s2.toks} (upd H2 s2.heap.objs.size (.lst [])) fp) pl H' b:=fun{H' pl} hn hp b hb=>by
  refine⟨hn b hb,(IC.ok.exf b hb).1,IC.ok.n8 b hb,.inl hb,(IC.ok.exf b hb).2,fun p hq z=>?_⟩
  have hq':p∈pl:=by simpa [Bm] using hq
  exact hp p hq' (by rw[z];exact hb)
 have done:∀{σ':St} {H':Hp} {s':Shared},Inv (Bm X scope (x::N) cl C {s2 with heap:=s2.heap.push {cls:=.type "list",data:=.seq ([]:List Value).toArray},toks:=s2.toks} (upd H2 s2.heap.objs.size (.lst [])) fp) [] σ' H' s'→Q (.ref s2.heap.objs.size) H' →
   ∃m,s'.heap.Ns C m∧∀h',Heap.SameBut C s'.heap h'→EP X pins σ Q (.ref s2.heap.objs.size) {s' with heap:=h'}:=fun{σ' H' s'} J q=>by
  obtain⟨m,hn,_⟩:=id J.loc
  refine⟨m,hn,fun h' hs'=>⟨.ref s2.heap.objs.size,H',?_,rfl,q⟩⟩
  have u:Un (frs X.stack) fp H2 H' s2.heap s'.heap:=(Un.laid (fun b u e=>Heap.get?_push_of_some _ e) (Nat.le_refl _) hD).trans J.base
  have nC:∀b o,s2.heap.get? b=some o→b≠C:=fun b o e=>by
   have e1:(s2.heap.push {cls:=.type "list",data:=.seq ([]:List Value).toArray}).get? b=some o:=Heap.get?_push_of_some _ e
   rw[←hCC];exact Nat.ne_of_lt (Heap.lt_size e1)
  have u':Un (frs X.stack) fp H2 H' s2.heap h' :=
   ⟨fun b o e n hb hx=>(hs'.2 b (nC b o e)).trans (u.keep b o e n hb hx),fun b o e n hb hx=>let ⟨sl,q⟩:=u.slot b o e n hb hx;⟨sl,(hs'.2 b (nC b o e)).trans q⟩,u.free,fun b o e hx=>let ⟨o',q⟩:=u.there b o e hx;⟨o',(hs'.2 b (nC b o e)).trans q⟩,u.tups,u.fW,u.gU⟩
  have hok:HOk X.prog X.w H' h':=fun b ob e=>(J.hok b ob e).stay (fun c w' hc q=>(hs'.2 c (by
   rintro rfl
   have hf:H' c=none:=J.free
   rcases hc with rfl|hc
   ·rw[hf]at e;cases e
   ·rw[hf]at hc;cases hc)).trans q) (fun _ q=>q) fun _ _ q=>q
  have hos:s'.os=s2.os:=J.os
  exact I2.call' (s':={s' with heap:=h'}) (ch:=fp) hos u' hok J.bare fun b hb=>⟨(f2 b hb).2.2.2.1,(f2 b hb).2.1,(f2 b hb).2.2.2.2.1,(f2 b hb).2.2.2.2.2⟩
 have loop:codeAny (model X.prog X.w) X.A (.compLoop (.ListComp elt [⟨.Name x px,iter,ifs,0⟩] scope pos) 0 (.ref it) (.ref s2.heap.objs.size) (compEnvC scope cl C X.env)) (compPost (model X.prog X.w) X.A X.xe none (EP X pins σ Q) (.ref s2.heap.objs.size) C)
   {s2 with heap:=h₁,toks:=s2.toks+([]:List (Str×Value)).length}:=by
  refine codeAny_compLoop_tests (fun n s'=>∃i acc σ' H',Inv (Bm X scope (x::N) cl C {s2 with heap:=s2.heap.push {cls:=.type "list",data:=.seq ([]:List Value).toArray},toks:=s2.toks} (upd H2 s2.heap.objs.size (.lst [])) fp) [] σ' H' s'∧(∃y,σ'=y::vs.map some) ∧
   tn i s'.heap∧(∀b∈fp,H' b=none)∧W i n acc H') ?_ m0 ⟨0,[],_,_,IC,⟨none,rfl⟩,st₁,fun b hb=>(f3 b hb).1,w0⟩
  rintro n s3 ⟨i,acc,σ3,H3,I4,⟨y,rfl⟩,st3,fr3,w3⟩
  rcases turn i n acc H3 w3 with⟨stop,qn⟩|⟨go,step⟩
  ·refine wpAny_mono (T.done (Bm X scope (x::N) cl C {s2 with heap:=s2.heap.push {cls:=.type "list",data:=.seq ([]:List Value).toArray},toks:=s2.toks} (upd H2 s2.heap.objs.size (.lst [])) fp) rfl rfl rfl hc i [] s3 _ H3 (fun _ _=>False) I4 (fpC fr3 (by simp)) st3 stop) (fun r s4 ⟨hr,I5⟩=>?_) fun _ _ z=>False.elim z
   subst hr
   exact done I5 qn
  ·refine wpAny_mono (T.item (Bm X scope (x::N) cl C {s2 with heap:=s2.heap.push {cls:=.type "list",data:=.seq ([]:List Value).toArray},toks:=s2.toks} (upd H2 s2.heap.objs.size (.lst [])) fp) rfl rfl rfl hc i [] s3 _ H3 (fun _ _=>False) I4 (fpC fr3 (by simp)) st3 go) (fun r s4 ⟨u,hr,h4⟩=>?_) fun _ _ z=>False.elim z
   subst hr
   have e0:∀(k:Unit→Sem Unit),(letOwnedTupleGo (.Name x px) (.ref it) u >>= k)=k ():=fun k=>rfl
   have hg:PG (Bm X scope (x::N) cl C {s2 with heap:=s2.heap.push {cls:=.type "list",data:=.seq ([]:List Value).toArray},toks:=s2.toks} (upd H2 s2.heap.objs.size (.lst [])) fp) (.Name x px) (Aaq 0):=U6 S.nd rfl (.inl (lookup_relabel_local S.hx)) (.inr (lookup_relabel_local S.hx))
   show wpAny (model X.prog X.w) X.A (assign (.Name x px) (compEnvC scope cl C X.env) u) _ _ s4
   rw[←e0 fun _=>assign (.Name x px) (compEnvC scope cl C X.env) u]
   refine wpAny_bind (wpAny_mono h4 (fun _ s5 ⟨z,H5,I5,r5,y5,st5,fr5⟩=>?_) fun _ _ z=>False.elim z)
   have I5':=I5.pinned (fpC fr5 (by simp)) (T.obj _ _ st5)
   have W5:=hg _ s5 _ H5 z u (fun σ' H'=>σ'=some z::vs.map some∧H'=H5) I5' r5 ⟨rfl,rfl⟩
   refine wpAny_mono W5 (fun _ s6 ⟨σ6,H6,I6,e6,e7⟩=>?_) fun _ _ z=>False.elim z
   subst e6 e7
   refine wpAny_mono (ht _ _ _ _ _ _ s6 _ H6 _ I6 (step z H6 y5)) (fun b s7 ⟨H7,I7,q7⟩=>?_) fun _ _ z=>False.elim z
   have again:∀{H8:Hp} {s8:Shared} {acc':List V},Inv (Bm X scope (x::N) cl C {s2 with heap:=s2.heap.push {cls:=.type "list",data:=.seq ([]:List Value).toArray},toks:=s2.toks} (upd H2 s2.heap.objs.size (.lst [])) fp) ([]++Ny fp s5.heap) (some z::vs.map some) H8 s8→(∃m',m'<n∧W (i+1) m' acc' H8)→∃m,m<n∧∃i acc σ' H',Inv (Bm X scope (x::N) cl C {s2 with heap:=s2.heap.push {cls:=.type "list",data:=.seq ([]:List Value).toArray},toks:=s2.toks} (upd H2 s2.heap.objs.size (.lst [])) fp) [] σ' H' s8∧(∃y,σ'=y::vs.map some)∧tn i s8.heap∧(∀b∈fp,H' b=none)∧W i m acc H':=fun{H8 s8 acc'} I8 ⟨m',hm,w8⟩=>by
    refine⟨m',hm,i+1,acc',_,H8,I8.cI,⟨_,rfl⟩,T.keep _ _ _ st5 fun b hb o e=>(I8.pin (b,o) (List.mem_append_right _ (List.mem_append_right _ (Gs hb e)))).1,fun b hb=>?_,w8⟩
    obtain⟨o,e,d⟩:=T.obj _ _ st5 b hb
    exact(I8.pin (b,o) (List.mem_append_right _ (List.mem_append_right _ (Gs hb e)))).2.1
   cases b with
   |false=>exact again I7 q7
   | true =>
    rw[if_pos rfl]
    refine wpAny_mono (he _ _ _ _ _ _ s7 _ H7 _ I7 q7) (fun v8 s8 ⟨x8,H8,I8,r8,hD8,hz8,q8⟩=>?_) fun _ _ z=>False.elim z
    refine wpAny_mono (Nu (X:=(Bm X scope (x::N) cl C {s2 with heap:=s2.heap.push {cls:=.type "list",data:=.seq ([]:List Value).toArray},toks:=s2.toks} (upd H2 s2.heap.objs.size (.lst [])) fp)) _ s8 _ H8 (.ref s2.heap.objs.size) [x8] (.ref s2.heap.objs.size) [v8] (fun _ H9=>H9=upd H8 s2.heap.objs.size (.lst (acc++[x8]))) I8 rfl (.cons r8 .nil) ⟨_,acc,x8,rfl,rfl,hD8,hz8,rfl⟩) (fun _ s9 ⟨_,H9,I9,_,e9⟩=>?_) fun _ _ z=>False.elim z
    subst e9
    exact again I9 q8
 exact codeAny_compStart_list loop (T.self _ 0 _ _ _ st₁ loop)
def inner(sl:List Nat)(ρ:Bu)(d:Dt):Bu:=some (.is d)::sl.map fun j=>(ρ[j]?).join
structure DTs(X:Cx)(ifs:List Expr)(t:DTT):Prop where
 mono:∀{ρ Q Q'},(∀d,Q d→Q' d)→t ρ Q→t ρ Q'
 pts:PTs X ifs (lT X.K t)
def S9:DTT:=fun _ Q=>Q true
theorem AfG:DTs X [] S9:=⟨fun hq h=>hq _ h,fun pins s σ H Q I ⟨B,F,O,ρ,R,h⟩=>Afp pins s σ H Q I (h H (Same.refl H))⟩
theorem Aav{c:Expr}{t:DTT}(h:DT X c t):DTs X [c] t:=⟨h.mono,Agj h.pt⟩
def caught(sl:List Nat)(ρ:Bu):Prop:=∀j∈sl,∃d,ρ[j]? = some (some (.is d))
def JW(sl:List Nat)(ti:DTI)(tt:DTT)(te:DTE):DTE:=fun ρ Q=>ti ρ fun items=>items.length≤sizeLine∧caught sl ρ ∧
 ∃W:Nat→List Dt→Prop,W 0 []∧(∀(k:Nat) d acc,items[k]? = some d→W k acc→tt (inner sl ρ d) fun b=>if b=true then te (inner sl ρ d) fun e=>W (k+1) (acc++[e])else W (k+1) acc) ∧
  ∀acc,acc.length≤items.length→W items.length acc→Q (.lst acc)
theorem Oq{K:W.Frag}{B:Hp}{F O:List Addr}{H:Hp}{σ:St}{ρ:Bu}(R:Rep K B F O H σ ρ):∀{sl:List Nat},caught sl ρ→∃vs ds,sl.map (fun j=>σ[j]?)=vs.map (fun v=>some (some v))∧sl.map (fun j=>(ρ[j]?).join)=ds.map (fun d=>some (En.is d))∧RpL K (mask (F++O) H) ds vs
 | [],_=>⟨[],[],rfl,rfl,RpL.nil⟩
 | j::sl,h=>by
  obtain⟨d,e⟩:=h j List.mem_cons_self
  obtain⟨v,e1,e2⟩:=R.is j d e
  obtain⟨vs,ds,h1,h2,h3⟩:=Oq R (sl:=sl) fun k hk=>h k (List.mem_cons_of_mem _ hk)
  exact⟨v::vs,d::ds,by simp[e1,h1],by simp[e,h2],RpL.cons e2 h3⟩
theorem AbN{K:W.Frag}{F:List Addr}{H:Hp}{d:Dt}{v:V}{ds:List Dt}{vs:List V}(th:∀a∈F,H a≠none)(r:Rp K (mask F H) d v)(rs:RpL K (mask F H) ds vs) :
  Rep K (fun _=>none) F [] H (some v::vs.map some) (some (.is d)::ds.map fun d=>some (En.is d)):=by
 have e:mask (F++[]) H=mask F H:=by rw[List.append_nil]
 have cJ:∀(i:Nat)(es:En),(∀z,es≠.is z)→(some (En.is d)::ds.map fun d=>some (En.is d))[i]? = some (some es)→False:=fun i es nz q=>by
  cases i with
  |zero=>cases q;exact nz _ rfl
  | succ j =>
   rw[List.getElem?_cons_succ,List.getElem?_map]at q
   cases z:ds[j]? with
   |none=>rw[z]at q;cases q
   |some y=>rw[z]at q;cases q;exact nz _ rfl
 refine⟨by simp[rs.len],fun a o q=>(nomatch q),fun a h=>(nomatch h),fun a h=>th a (by simpa using h),fun i y q=>?_,fun i es q=>(cJ i _ (fun _ z=>by cases z) q).elim,fun i j es es' a h1=>(cJ i _ (fun _ z=>by cases z) h1).elim,fun i es q=>(cJ i _ (fun _ z=>by cases z) q).elim,fun i j es es' a h1=>(cJ i _ (fun _ z=>by cases z) h1).elim,fun i v q=>(cJ i _ (fun _ z=>by cases z) q).elim⟩
 rw[e]
 cases i with
 |zero=>cases q;exact⟨v,rfl,r⟩
 | succ j =>
  rw[List.getElem?_cons_succ,List.getElem?_map]at q
  cases z:ds[j]? with
  |none=>rw[z]at q;cases q
  | some y' =>
   rw[z]at q;cases q
   obtain⟨u,h1,h2⟩:=rs.get z
   exact⟨u,by rw[List.getElem?_cons_succ,List.getElem?_map,h1];rfl,h2⟩
theorem Xk{K:PySem.W.Frag}{sl:List Nat}{ti:DTI}{dt:DTT}{de:DTE}(mi:∀{ρ Q Q'},(∀d,Q d→Q' d)→ti ρ Q→ti ρ Q')(mt:∀{ρ Q Q'},(∀d,Q d→Q' d)→dt ρ Q→dt ρ Q')(me:∀{ρ Q Q'},(∀d,Q d→Q' d)→de ρ Q→de ρ Q')
  (σ:St) (H:Hp) (Q:VK) (h:lE K (JW sl ti dt de) σ H Q):AdU sl (lI K ti) (lT K dt) (lE K de) σ H Q:=by
 obtain⟨B,F,O,ρ,R,h⟩:=h
 refine⟨B,F,O,ρ,R,mi (fun items ⟨h1,h2,W,w0,st,fin⟩ J H1 s1 it=>?_) h⟩
 have R1:=R.same s1
 obtain⟨vs,ds,ev,ed,rs⟩:=Oq R1 h2
 refine⟨vs,ev,fun D hD=>?_⟩
 have nD:D∉F++O:=fun z=>R1.th D z hD
 have sM:Same (mask (F++O) H1) (mask (F++O) (upd H1 D (.lst []))):=(Same.upd hD).mask
 refine⟨fun i m acc H2=>m+i=items.length∧H2 D=some (.lst acc)∧acc.length≤i∧Same H1 H2∧∃as,RpL K (mask (D::(F++O)) H2) as acc∧W i as,⟨items.length,∅,Ce,Nat.le_refl _,Same.upd hD,[],RpL.nil,w0⟩,?_⟩
 rintro i m acc H2 ⟨hm,e2,hl,s2,as,ra,w⟩
 have sb:Same (mask (F++O) H1) H2:=fun a o e=>s2 a o (Ck e).2
 have sD:Same (mask (F++O) H1) (mask (D::(F++O)) H2):=fun a o e=>by
  obtain⟨q,e⟩:=Ck e
  rw[Az fun z=>by
   rcases List.mem_cons.mp z with z|z
   ·rw[z,hD]at e;cases e
   ·exact q z]
  exact s2 a o e
 obtain⟨go,stop⟩:=it H2 sb
 by_cases hlt:i<items.length
 ·refine .inr ⟨(go i items[i] (by simp[hlt])).1,fun z H3 y=>?_⟩
  obtain⟨e,r⟩:=(go i items[i] (by simp[hlt])).2 z H3 y
  subst e
  have th:∀a∈D::(F++O),H3 a≠none:=fun a ha q=>by
   rcases List.mem_cons.mp ha with z|z
   ·rw[z,e2]at q;cases q
   ·have:=R1.th a z
    cases q':H1 a with
    |none=>exact this q'
    |some o=>rw[s2 a o q']at q;cases q
  have R3:=AbN th (r.mono sD) (rs.mono sD)
  have ei:some (En.is items[i])::ds.map (fun d=>some (En.is d))=inner sl ρ items[i]:=by unfold inner;rw[ed]
  rw[ei]at R3
  refine⟨_,_,_,_,R3,mt (fun b q H4 s4=>?_) (st i _ as (by simp[hlt]) w)⟩
  cases b with
  | false =>
   refine⟨m-1,∅,∅,s4 _ _ e2,∅,s2.trans s4,as,ra.mono s4.mask,q⟩
  | true =>
   refine⟨_,_,_,_,R3.same s4,me (fun e q v5 H5 s5 r5=>?_) q⟩
   have e5:H5 D=some (.lst acc):=s5 _ _ (s4 _ _ e2)
   have hz:acc.length<sizeLine:=∅
   have s6:Same (mask (D::(F++O)) H5) (mask (D::(F++O)) (upd H5 D (.lst (acc++[v5])))):=fun a o q=>by
    obtain⟨n,q⟩:=Ck q
    rw[Az n,Bo fun z=>n (by rw[z];exact List.mem_cons_self)];exact q
   have em:mask (D::(F++O)++[]) H5=mask (D::(F++O)) H5:=by rw[List.append_nil]
   rw[em]at r5
   refine⟨e5,hz,m-1,∅,∅,Ce,by simp;omega,fun a o q=>?_,as++[e],(((ra.mono s4.mask).mono s5.mask).append (RpL.cons r5 RpL.nil)).mono s6,q⟩
   rw[Bo (Dq q hD)]
   exact s5 _ _ (s4 _ _ (s2 a o q))
 ·have e:i=items.length:=∅
  subst e
  refine .inl ⟨stop,fin as (by rw[←ra.len];exact hl) w (.ref D) H2 (s1.trans s2) (Ho ⟨D,acc,rfl,(by rw[Az nD];exact e2),ra.mono (Ei fun a h=>List.mem_cons_of_mem _ h)⟩)⟩
theorem W6{ti:DTI}{dt:DTT}{de:DTE}(S:Fg X scope x N sl)(hc:X.calm=true)(hi:DI X (.Name x px) iter ti)(ht:∀cl C s₀ H₀ ex,DTs (Bm X scope (x::N) cl C s₀ H₀ ex) ifs dt)(he:∀cl C s₀ H₀ ex,DE (Bm X scope (x::N) cl C s₀ H₀ ex) elt de)
  (hs:∀x,foldedSetIterable iter X.env x=pure x:=by intro _;rfl):DE X (.ListComp elt [⟨.Name x px,iter,ifs,0⟩] scope pos) (JW sl ti dt de):=by
 have mt:∀{ρ Q Q'},(∀d,Q d→Q' d)→dt ρ Q→dt ρ Q':=(ht [] 0 X.s₀ X.H₀ []).mono
 have me:∀{ρ Q Q'},(∀d,Q d→Q' d)→de ρ Q→de ρ Q':=(he [] 0 X.s₀ X.H₀ []).mono
 refine⟨fun hq h=>hi.mono (fun items ⟨h1,h2,W,w0,st,fin⟩=>⟨h1,h2,W,w0,st,fun acc l w=>hq _ (fin acc l w)⟩) h,?_⟩
 refine(Ae1 (tt:=lT X.K dt) (te:=lE X.K de) S hc hi.pi (fun cl C s₀ H₀ ex=>(ht cl C s₀ H₀ ex).pts) (fun cl C s₀ H₀ ex=>(he cl C s₀ H₀ ex).pe) hs).imp (Xk (ti:=ti) (dt:=dt) (de:=de) hi.mono mt me)
theorem Pq{ti:DTI}{de:DTE}(S:Fg X scope x N sl)(hc:X.calm=true)(hi:DI X (.Name x px) iter ti)(he:∀cl C s₀ H₀ ex,DE (Bm X scope (x::N) cl C s₀ H₀ ex) elt de)
  (hs:∀x,foldedSetIterable iter X.env x=pure x:=by intro _;rfl):DE X (.ListComp elt [⟨.Name x px,iter,[],0⟩] scope pos) (JW sl ti S9 de):=W6 S hc hi (fun _ _ _ _ _=>AfG) he hs
theorem Wk{c:Expr}{ti:DTI}{dt:DTT}{de:DTE}(S:Fg X scope x N sl)(hc:X.calm=true)(hi:DI X (.Name x px) iter ti)(ht:∀cl C s₀ H₀ ex,DT (Bm X scope (x::N) cl C s₀ H₀ ex) c dt)(he:∀cl C s₀ H₀ ex,DE (Bm X scope (x::N) cl C s₀ H₀ ex) elt de)
  (hs:∀x,foldedSetIterable iter X.env x=pure x:=by intro _;rfl):DE X (.ListComp elt [⟨.Name x px,iter,[c],0⟩] scope pos) (JW sl ti dt de):=W6 S hc hi (fun _ _ _ _ _=>Aav (ht _ _ _ _ _)) he hs
end
def AhC(sc scope:Scope)(NN:List Str)(x:Str)(N:List Str)(sl:List Nat):Bool :=
 decide (scope.names.lookup x=some .local)&&decide (scope.kind=.function)&&scope.names.all (fun y=>decide (y.2≠.cell))&&scope.names.all (fun y=>decide (y.2=.local→scope.names.lookup y.1=some .local)) &&
  scope.names.all (fun y=>decide (y.2=.free→sc.names.lookup y.1=some .cell))&&decide (x::N).Nodup&&decide (N.map some=sl.map (fun j=>NN[j]?))&&N.all (fun n=>decide (scope.names.lookup n=some .free))
theorem Gx{X:Cx}{sc scope:Scope}{NN:List Str}{x:Str}{N:List Str}{sl:List Nat}(h1:X.env.scope=sc)(h2:X.N=NN)(h:AhC sc scope NN x N sl=true):Fg X scope x N sl:=by
 subst h1 h2
 unfold AhC at h
 simp only[Bool.and_eq_true,decide_eq_true_eq,List.all_eq_true]at h
 obtain⟨⟨⟨⟨⟨⟨⟨a,b⟩,c⟩,d⟩,e⟩,f⟩,g⟩,i⟩:=h
 exact⟨a,b,c,d,e,f,g,i⟩
def Bt(n:Nat)(x:Int):Prop:=x.natAbs<2 ^ n
theorem Bt.le{n m:Nat}{x:Int}(h:Bt n x)(l:n≤m):Bt m x:=Nat.lt_of_lt_of_le h (Nat.pow_le_pow_right ⋯ l)
theorem Bt.mul{n m:Nat}{x y:Int}(a:Bt n x)(b:Bt m y):Bt (n+m) (x*y):=by
 unfold Bt at *
 rw[Int.natAbs_mul,Nat.pow_add]
 exact Nat.mul_lt_mul'' a b
theorem Bt.add{n m:Nat}{x y:Int}(a:Bt n x)(b:Bt m y):Bt (max n m+1) (x+y):=by
 have a':=a.le (Nat.le_max_left n m)
 have b':=b.le (Nat.le_max_right n m)
 unfold Bt at *
 rw[Nat.pow_succ]
 have:=Int.natAbs_add_le x y
 omega
theorem Bt.neg{n:Nat}{x:Int}(a:Bt n x):Bt n (-x):=by unfold Bt at *;rw[Int.natAbs_neg];exact a
theorem Bt.sub{n m:Nat}{x y:Int}(a:Bt n x)(b:Bt m y):Bt (max n m+1) (x-y):=by rw[Int.sub_eq_add_neg];exact a.add b.neg
theorem Bt.ak{n:Nat}{x:Int}(h:x.natAbs<2 ^ n):Bt n x:=h
theorem Bt.of{n:Nat}{x:Int}(h1:-(2 ^ n)<x)(h2:x<2 ^ n):Bt n x:=by
 unfold Bt
 have:((x.natAbs:Nat):Int)<((2 ^ n:Nat):Int):=by push_cast;omega
 omega
theorem Bt.aj{n m:Nat}{x y:Int}(a:Bt n x)(b:Bt m y)(hn:n≤1048576:=by decide)(hm:m≤1048576:=by decide):IntMulOk x y :=
 IntMulOk.of_bits (intBits_le_iff.mpr (a.le hn)) (intBits_le_iff.mpr (b.le hm))
theorem Bt.aU{n:Nat}{x y:Int}(a:Bt n y)(h:y≠0)(hn:n≤9000:=by decide):CDv x y:=⟨h,a.le hn⟩
theorem Bt.zero:Bt 0 0:=by unfold Bt;decide
theorem Bt.one:Bt 1 1:=by unfold Bt;decide
section
variable{a b c d e f:Dt}{r s:List Dt}{i j:Int}{k l:Bool}{n:Nat}{x y:Str}
theorem Aop:ixD 0 (.tup (a::r))=some a:=rfl
theorem AoA:ixD 1 (.tup (a::b::r))=some b:=rfl
theorem AnI:ixD 2 (.tup (a::b::c::r))=some c:=rfl
theorem Apg:ixD 3 (.tup (a::b::c::d::r))=some d:=rfl
theorem Anq:ixD 0 (.lst (a::r))=some a:=rfl
theorem AnE:ixD 1 (.lst (a::b::r))=some b:=rfl
theorem Aoa:ixD 2 (.lst (a::b::c::r))=some c:=rfl
theorem AnR:ixD 3 (.lst (a::b::c::d::r))=some d:=rfl
theorem S8:Dt.eq (.int i) (.int j)=decide (i=j):=by rw[Dt.eq]
theorem AmR:Dt.eq (.bl k) (.bl l)=(k==l):=by rw[Dt.eq]
theorem OJ:Dt.eq (.str x) (.str y)=(x==y):=by rw[Dt.eq]
theorem Alk:Dt.eq .non .non=true:=by rw[Dt.eq]
theorem Alc:Dt.eq .non (.int i)=false:=by simp[Dt.eq]
theorem Ak5:Dt.eq .non (.tup r)=false:=by simp[Dt.eq]
theorem AjR:Dt.eq (.tup r) .non=false:=by simp[Dt.eq]
theorem AaL:Dt.eq (.tup r) (.tup s)=Dt.eqs r s:=by rw[Dt.eq]
theorem Aht:Dt.eq (.lst r) (.lst s)=Dt.eqs r s:=by rw[Dt.eq]
theorem XM:Dt.eqs [] []=true:=by rw[Dt.eqs]
theorem YM:Dt.eqs (a::r) (b::s)=(Dt.eq a b&&Dt.eqs r s):=by rw[Dt.eqs]
theorem Aig:Dt.eqs [] (b::s)=false:=by simp[Dt.eqs]
theorem Ail:Dt.eqs (b::s) []=false:=by simp[Dt.eqs]
theorem QM:Dt.flat n (.int i)=true:=by cases n<;>rw[Dt.flat]<;>simp
theorem Ah2:Dt.flat n (.bl k)=true:=by cases n<;>rw[Dt.flat]<;>simp
theorem Ajt:Dt.flat n .non=true:=by cases n<;>rw[Dt.flat]<;>simp
theorem YQ:Dt.flat (n+1) (.tup r)=Dt.flats n r:=by rw[Dt.flat]
theorem Acm:Dt.flat (n+1) (.lst r)=Dt.flats n r:=by rw[Dt.flat]
theorem AfI:Dt.flat 8 (.tup r)=Dt.flats 7 r:=YQ
theorem AaK:Dt.flat 8 (.lst r)=Dt.flats 7 r:=Acm
theorem AfZ:Dt.flat 7 (.tup r)=Dt.flats 6 r:=YQ
theorem Agt:Dt.flat 7 (.lst r)=Dt.flats 6 r:=Acm
theorem AgK:Dt.flat 6 (.tup r)=Dt.flats 5 r:=YQ
theorem AfE:Dt.flats n []=true:=by rw[Dt.flats]
theorem AgP:Dt.flats n (a::r)=(Dt.flat n a&&Dt.flats n r):=by rw[Dt.flats]
theorem W8{N:Str}{M:List Str}:Gi (N::M) (a::r)=some (.is a)::Gi M r:=by
 unfold Gi
 simp only[List.map_cons,List.length_cons,List.cons_append,Nat.add_sub_add_right]
theorem V9{N:Str}{M:List Str}:Gi (N::M) []=none::Gi M []:=by
 unfold Gi
 simp[List.replicate_succ]
theorem WD:Gi [] []=[]:=rfl
theorem Ax(h:n≤1000):n≤sizeLine:=Nat.le_of_lt (Abq h)
theorem Aiv:isT "tuple" (.tup r)=true:=rfl
theorem Ait:isT "list" (.lst r)=true:=rfl
theorem Ais:isT "int" (.int i)=true:=rfl
theorem Ah8:isT "bool" (.int i)=false:=rfl
theorem AiX:isT "int" (.bl k)=true:=rfl
theorem AjB:isT "bool" (.bl k)=true:=rfl
theorem Ajd:isT "tuple" .non=false:=rfl
theorem AiK:isT "int" .non=false:=rfl
theorem Ah1:isT "int" (.tup r)=false:=rfl
theorem AiY:isT "bool" (.tup r)=false:=rfl
theorem Anx:noFn (.int i)=true:=rfl
theorem Aoo:noFn (.bl k)=true:=rfl
theorem Ano:noFn .non=true:=rfl
theorem Ao5:noFn (.tup r)=true:=rfl
theorem AnH:noFn (.lst r)=true:=rfl
theorem AoO:noFn (.str x)=true:=rfl
theorem AkQ:isB true (.bl k)=k:=by cases k<;>rfl
theorem Ako:isB false (.bl k)=!k:=by cases k<;>rfl
theorem AkN:isB k (.int i)=false:=rfl
theorem Alb:isB k .non=false:=rfl
theorem Ain:isB k (.tup r)=false:=rfl
theorem Akw:isB k (.lst r)=false:=rfl
theorem Akl:isN .non=true:=rfl
theorem AlO:isN (.int i)=false:=rfl
theorem Amh:isN (.bl k)=false:=rfl
theorem AmE:isN (.tup r)=false:=rfl
theorem Akr:isN (.lst r)=false:=rfl
end
theorem ifn{c:Bool}{A B:Prop}(h:c=true)(b:B):if(!c)=true then A else B:=by subst h;exact b
theorem ift{c:Bool}{A B:Prop}(h:c=true)(a:A):if c=true then A else B:=by subst h;exact a
theorem DY{c:Bool}{A B:Prop}(h:c=false)(b:B):if c=true then A else B:=by subst h;exact b
theorem Al{τ:Type}{args:τ→List Dt}{pre:τ→Prop}{val:τ→Dt}{Q:Dt→Prop}(p:τ)(h:pre p)(k:Q (val p)):Dc args pre val (args p) Q:=⟨p,rfl,h,fun d e=>by rw[e];exact k⟩
theorem Bg{τ:Type}{args:τ→List Dt}{pre:τ→Prop}{post:τ→Dt→Prop}{Q:Dt→Prop}(p:τ)(h:pre p)(k:∀d,post p d→Q d):spec args pre post (args p) Q:=⟨p,rfl,h,k⟩
theorem Ov{sl:List Nat}{tt:DTT}{te:DTE}{ρ:Bu}{Q:Dt→Prop}{items:List Dt}(p:Dt→Bool)(f:Dt→Dt)(ht:∀d∈items,∀R:Bool→Prop,R (p d)→tt (inner sl ρ d) R)(he:∀d∈items,p d=true→∀R:Dt→Prop,R (f d)→te (inner sl ρ d) R)
  (hq:Q (.lst ((items.filter p).map f))):∃W:Nat→List Dt→Prop,W 0 []∧(∀(k:Nat) d acc,items[k]? = some d→W k acc→tt (inner sl ρ d) fun b=>if b=true then te (inner sl ρ d) fun e=>W (k+1) (acc++[e])else W (k+1) acc) ∧
   ∀acc,acc.length≤items.length→W items.length acc→Q (.lst acc):=by
 refine⟨fun k acc=>acc=((items.take k).filter p).map f,by simp,fun k d acc e w=>?_,fun acc _ w=>by rw[w,List.take_length];exact hq⟩
 have hm:=List.mem_of_getElem? e
 refine ht d hm _ ?_
 have ht:=take_succ_filter p items k d e
 by_cases hp:p d=true
 ·rw[if_pos hp]
  refine he d hm hp _ ?_
  show acc++[f d]=_
  rw[w,ht,if_pos hp];simp
 ·rw[if_neg hp]
  show acc=_
  rw[w,ht,if_neg hp];simp
theorem comp_map{sl:List Nat}{te:DTE}{ρ:Bu}{Q:Dt→Prop}{items:List Dt}(f:Dt→Dt)(he:∀d∈items,∀R:Dt→Prop,R (f d)→te (inner sl ρ d) R)
  (hq:Q (.lst (items.map f))):∃W:Nat→List Dt→Prop,W 0 []∧(∀(k:Nat) d acc,items[k]? = some d→W k acc→S9 (inner sl ρ d) fun b=>if b=true then te (inner sl ρ d) fun e=>W (k+1) (acc++[e])else W (k+1) acc) ∧
   ∀acc,acc.length≤items.length→W items.length acc→Q (.lst acc) :=
 Ov (fun _=>true) f (fun _ _ _ h=>h) (fun d hm _ R h=>he d hm R h) (by rw[List.filter_eq_self.mpr (fun _ _=>rfl)];exact hq)
theorem Jr{sl:List Nat}{ti:DTI}{tt:DTT}{te:DTE}{ρ:Bu}{Q:Dt→Prop}(items:List Dt)(p:Dt→Bool)(f:Dt→Dt)(hi:∀R:List Dt→Prop,R items→ti ρ R)(hl:items.length≤sizeLine)(hc:caught sl ρ)
  (ht:∀d∈items,∀R:Bool→Prop,R (p d)→tt (inner sl ρ d) R) (he:∀d∈items,p d=true→∀R:Dt→Prop,R (f d)→te (inner sl ρ d) R) (hq:Q (.lst ((items.filter p).map f))):JW sl ti tt te ρ Q :=
 hi _ ⟨hl,hc,Ov p f ht he hq⟩
theorem Nq{sl:List Nat}{ti:DTI}{te:DTE}{ρ:Bu}{Q:Dt→Prop}(items:List Dt)(f:Dt→Dt)(hi:∀R:List Dt→Prop,R items→ti ρ R)(hl:items.length≤sizeLine)(hc:caught sl ρ)
  (he:∀d∈items,∀R:Dt→Prop,R (f d)→te (inner sl ρ d) R) (hq:Q (.lst (items.map f))):JW sl ti S9 te ρ Q :=
 hi _ ⟨hl,hc,comp_map f he hq⟩
theorem KQ{ti:DTI}{g:DTG}{tb:DTS}{D:FN}{ρ:Bu}(items:List Dt)(hi:∀R:List Dt→Prop,R items→ti ρ R)(W:Nat→Bu→Prop)(h0:W 0 ρ)
  (hs:∀(k:Nat) d ρ',items[k]? = some d→W k ρ'→g d ρ' fun ρ2=>tb {D with nx:=W (k+1),ct:=W (k+1),bk:=D.nx} ρ2) (he:∀ρ',W items.length ρ'→D.nx ρ'):AfC ti g tb D ρ:=hi _ ⟨W,h0,hs,he⟩
theorem ints_get{ns:List Int}{k:Nat}{d:Dt}(h:(ns.map Dt.int)[k]? = some d):∃n,ns[k]? = some n∧d=.int n:=by
 rw[List.getElem?_map]at h
 cases e:ns[k]? with
 |none=>rw[e]at h;cases h
 |some n=>rw[e]at h;cases h;exact⟨n,rfl,rfl⟩
theorem Gw{ρ:Bu}:caught [] ρ:=fun _ h=>(nomatch h)
theorem FJ{j:Nat}{sl:List Nat}{ρ:Bu}{d:Dt}(h:ρ[j]? = some (some (.is d)))(r:caught sl ρ):caught (j::sl) ρ:=fun k hk=>by
 rcases List.mem_cons.mp hk with e|e
 ·subst e;exact⟨d,h⟩
 ·exact r k e
theorem ZW{ns:List Int}{k:Int}(h0:0≤k)(h1:k<ns.length):ixD k (.lst (ns.map Dt.int))=some (.int (ns.getD k.toNat 0)):=by
 obtain⟨j,rfl⟩:=Int.eq_ofNat_of_zero_le h0
 have hj:j<ns.length:=∅
 show(ns.map Dt.int)[j]? = _
 rw[List.getElem?_map]
 simp[hj]
end L2
namespace L2
theorem Fe{c:DTT}{tb:DTS}{D:FN}{ρ:Bu}(W:Nat→Bu→Prop)(m:Nat)(h0:W m ρ)(h:∀m ρ,W m ρ→c ρ fun k=>if k=true then tb {D with nx:=fun ρ'=>∃m',m'<m∧W m' ρ',ct:=fun ρ'=>∃m',m'<m∧W m' ρ',bk:=D.nx} ρ else D.nx ρ):AeF c tb D ρ:=⟨W,⟨m,h0⟩,h⟩
end L2
namespace L2
open PySem Spec PyProof.Rows SeqAt
section
variable{X:Cx}{a b c e:Expr}{es:List Expr}{ta tb te:DTE}{tl:DTA}{pos:Pos}
def downs(hi:Int)(n:Nat):List Dt:=(List.range n).map fun i=>.int (hi-(i:Nat))
def AiJ(tl:DTA):DTI:=fun ρ Q=>tl ρ fun ds=>match ds with
 | [.int i,.int j,.int k]=>k=-1∧(-(2 ^ 62)≤i∧i<2 ^ 62∧-(2 ^ 62)≤j∧j<2 ^ 62)∧Q (downs i (i-j).toNat)
 |_=>False
theorem Agd:MtR X "int.bit_length" (fun x xs H Q=>∃i,x=.int i∧xs=[]∧Q (.int (Builtin.Int.intBits i)) H):=by
 intro pins s σ H x xs v us Q I rx rs ⟨i,e,e2,q⟩
 subst e e2
 cases rs
 obtain⟨t,rfl⟩:=rx
 exact call_int_bit_length ⟨.int _,H,I.tok _,⟨_,rfl⟩,q⟩
def AhU(ta:DTE):DTE:=fun ρ Q=>ta ρ fun d=>match d with
 |.int i=>Q (.int (Builtin.Int.intBits i))
 |_=>False
theorem Z5{apos:Pos}(ha:DE X a ta)(hbase:attributeBase a "bit_length" X.env (eval a X.env)=eval a X.env:=by rfl)(hline:(apos.endLine==pos.line)=true:=by rfl):DE X (.Call (.Attribute a "bit_length" apos) [] [] pos) (AhU ta) where
 mono:=fun hq h=>ha.mono (fun d h=>by
  split at h
  ·exact hq _ h
  ·exact h.elim) h
 pe:=(Yj PySem.F.plainAttrs_int PySem.F.slot_int_bit_length PySem.F.type_int_bit_length Agd ha.pe hbase hline).imp fun σ H Q ⟨B,F,O,ρ,R,h⟩=>⟨B,F,O,ρ,R,ha.mono (fun d h v H1 s1 r1=>by
  split at h
  ·rw[Bf.mp r1]
   exact⟨rfl,_,rfl,rfl,h _ H1 s1 (Bf.mpr rfl)⟩
  ·exact h.elim) h⟩
def Aj1(P:Program)(w:World)(K:W.Frag)(mg:Str→Option Value)(base:Heap)(k:Nat)(a:Addr)(sp:DSp):Prop :=
 ∃fd ps,HJ P w K mg base CX0 k a fd ps (lSp K sp)∧Binds K fd ps []∧W.keepIn K (.ref a)=true
def AiW(P:Program)(w:World)(K:W.Frag)(mg:Str→Option Value)(base:Heap)(k:Nat)(tf:DTE)(tl:DTA):DTE:=fun ρ Q=>tf ρ fun d=>match d with
 |.fn a=>W.keepIn K (.ref a)=true∧tl ρ fun ds=>∃sp,HX sp∧Aj1 P w K mg base k a sp∧sp ds Q
 |_=>False
def dOf(t:DTA):DTE:=fun ρ Q=>t ρ fun ds=>Q (.lst ds)
def AmK(tl:DTA):DTA:=fun ρ Q=>tl ρ fun ds=>ds.length≤sizeLine∧Q ds
def Ahj(te:DTE)(tl th:DTO):DTA:=fun ρ Q=>te ρ fun d=>tl ρ fun lo=>th ρ fun hi=>match d with
 |.lst ds=>Q (cutD ds lo hi)
 |_=>False
def AkZ(t u:DTA):DTA:=fun ρ Q=>t ρ fun xs=>u ρ fun ys=>xs.length+ys.length≤sizeLine∧Q (xs++ys)
end
section
variable{X:Cx}{elt iter:Expr}{x:Str}{px:Pos}{ifs:List Expr}{scope:Scope}{pos:Pos}{N:List Str}{sl:List Nat}{wi:TI}{tt:TT}{te:TE}
theorem Yh{pins:List (Addr×Obj)}{σ:St}{H2:Hp}{s2:Shared}{cl:List (Str×Addr)}{it:Addr}{fp:List Addr}{tn:Nat→Heap→Prop}{J:It}{vs:List V}{PP:Value→Addr→Result→Shared→Prop}{E:Value→Shared→Prop}{QD:Hp→Prop}(S:Fg X scope x N sl)(hc:X.calm=true)
  (ht:∀cl C s₀ H₀ ex,PTs (Bm X scope (x::N) cl C s₀ H₀ ex) ifs tt) (he:∀cl C s₀ H₀ ex,PE (Bm X scope (x::N) cl C s₀ H₀ ex) elt te)
  (hcl:∀n c,cl.lookup n=some c→X.env.cells.lookup n=some c) (lC:∀n,(n,NameKind.free)∈scope.names→∃c,cl.lookup n=some c)
  (I2:Inv X pins σ H2 s2) (T:Turn X.prog X.w X.K (.Name x px) J fp it tn) (st2:tn 0 s2.heap) (f2:∀b∈fp,Pj X pins H2 b) (hvs:sl.map (fun j=>σ[j]?)=vs.map (fun v=>some (some v)))
  (hW:∃W:Nat→Nat→List V→Hp→Prop,(∃m,W 0 m [] (upd H2 s2.heap.objs.size (.lst [])))∧∀i m acc H,W i m acc H →
   (J.stop i H∧QD H)∨(J.go i H∧∀x H',J.yld i H x H'→tt (some x::vs.map some) H' fun b H2' =>
    if b=true then te (some x::vs.map some) H2' fun y H3=>H3 s2.heap.objs.size=some (.lst acc)∧acc.length<sizeLine∧∃m',m'<m∧W (i+1) m' (acc++[y]) (upd H3 s2.heap.objs.size (.lst (acc++[y])))
    else ∃m',m'<m∧W (i+1) m' acc H2'))
  (fin:∀(C:Addr),(s2.heap.push {cls:=.type "list",data:=.seq ([]:List Value).toArray}).objs.size=C→∀{σ':St} {H':Hp} {s':Shared},Inv (Bm X scope (x::N) cl C {s2 with heap:=s2.heap.push {cls:=.type "list",data:=.seq ([]:List Value).toArray},toks:=s2.toks} (upd H2 s2.heap.objs.size (.lst [])) fp) [] σ' H' s'→QD H'→PP (.ref s2.heap.objs.size) C (.ok .next) s') :
  wpAny (model X.prog X.w) X.A (newList []) (fun acc s₃=>wpAny (model X.prog X.w) X.A (newFunctionEnv scope X.env.globals cl [] X.env.qual none .none (some X.env)) (fun cenv s₄ =>
   codeAny (model X.prog X.w) X.A (.compStart (.ListComp elt [⟨.Name x px,iter,ifs,0⟩] scope pos) 0 (.ref it) acc {cenv with scope:=relabel scope X.env}) (PP acc cenv.locals) s₄) E s₃) E s2:=by
 refine wpAny_newObj_type (wpAny_newFunctionEnv S.cell (by intro y hy;simp at hy) (fun h₁ hns₁ hsb₁=>?_) S.kind)
 have hD:H2 s2.heap.objs.size=none:=I2.fresh
 have I3:Inv X pins σ (upd H2 s2.heap.objs.size (.lst [])) {s2 with heap:=s2.heap.push {cls:=.type "list",data:=.seq ([]:List Value).toArray},toks:=s2.toks}:=I2.rC (its:=[]) (ys:=[]) .nil (Nat.zero_le _)
 have hbD:∀b∈fp,b≠s2.heap.objs.size:=fun b hb z=>by
  obtain⟨o',e',_⟩:=T.obj _ _ st2 b hb
  exact absurd (Heap.lt_size e') (by rw[z];exact Nat.lt_irrefl _)
 have f3:∀b∈fp,Pj X pins (upd H2 s2.heap.objs.size (.lst [])) b:=fun b hb=>⟨by rw[Bo (hbD b hb)];exact(f2 b hb).1,(f2 b hb).2⟩
 have ob3:∀b∈fp,∃o,(s2.heap.push {cls:=.type "list",data:=.seq ([]:List Value).toArray}).get? b=some o:=fun b hb=>by
  obtain⟨o',e',_⟩:=T.obj _ _ st2 b hb
  exact⟨o',Heap.get?_push_of_some _ e'⟩
 have IC:=VB (tk:=s2.toks+([]:List (Str×Value)).length) S I3 f3 ob3 hns₁ hsb₁ hcl lC hvs
 dsimp only at hsb₁ IC ⊢
 generalize hCC:(s2.heap.push {cls:=.type "list",data:=.seq ([]:List Value).toArray}).objs.size=C at hns₁ hsb₁ IC ⊢
 have old:∀b o,s2.heap.get? b=some o→h₁.get? b=some o:=fun b o e=>by
  have e1:(s2.heap.push {cls:=.type "list",data:=.seq ([]:List Value).toArray}).get? b=some o:=Heap.get?_push_of_some _ e
  exact(hsb₁.2 b (by rw[←hCC];exact Nat.ne_of_lt (Heap.lt_size e1))).trans (Heap.get?_push_of_some _ e1)
 have st₁:tn 0 h₁:=T.keep _ _ _ st2 fun b hb o e=>old b o e
 obtain⟨W,⟨m0,w0⟩,turn⟩:=hW
 have fpC:∀{H':Hp} {pl:List (Addr×Obj)},(∀b∈fp,H' b=none)→(∀p∈pl,p.1∉fp)→∀b∈fp,Pj (Bm X scope (x::N) cl C {s2 with heap:=s2.heap.push {cls:=.type "list",data:=.seq ([]:List Value).toArray},toks:=s2.toks} (upd H2 s2.heap.objs.size (.lst [])) fp) pl H' b:=fun{H' pl} hn hp b hb=>by
  refine⟨hn b hb,(IC.ok.exf b hb).1,IC.ok.n8 b hb,.inl hb,(IC.ok.exf b hb).2,fun p hq z=>?_⟩
  have hq':p∈pl:=by simpa [Bm] using hq
  exact hp p hq' (by rw[z];exact hb)
 have loop:codeAny (model X.prog X.w) X.A (.compLoop (.ListComp elt [⟨.Name x px,iter,ifs,0⟩] scope pos) 0 (.ref it) (.ref s2.heap.objs.size) (compEnvC scope cl C X.env)) (PP (.ref s2.heap.objs.size) C)
   {s2 with heap:=h₁,toks:=s2.toks+([]:List (Str×Value)).length}:=by
  refine codeAny_compLoop_tests (fun n s'=>∃i acc σ' H',Inv (Bm X scope (x::N) cl C {s2 with heap:=s2.heap.push {cls:=.type "list",data:=.seq ([]:List Value).toArray},toks:=s2.toks} (upd H2 s2.heap.objs.size (.lst [])) fp) [] σ' H' s'∧(∃y,σ'=y::vs.map some) ∧
   tn i s'.heap∧(∀b∈fp,H' b=none)∧W i n acc H') ?_ m0 ⟨0,[],_,_,IC,⟨none,rfl⟩,st₁,fun b hb=>(f3 b hb).1,w0⟩
  rintro n s3 ⟨i,acc,σ3,H3,I4,⟨y,rfl⟩,st3,fr3,w3⟩
  rcases turn i n acc H3 w3 with⟨stop,qn⟩|⟨go,step⟩
  ·refine wpAny_mono (T.done (Bm X scope (x::N) cl C {s2 with heap:=s2.heap.push {cls:=.type "list",data:=.seq ([]:List Value).toArray},toks:=s2.toks} (upd H2 s2.heap.objs.size (.lst [])) fp) rfl rfl rfl hc i [] s3 _ H3 (fun _ _=>False) I4 (fpC fr3 (by simp)) st3 stop) (fun r s4 ⟨hr,I5⟩=>?_) fun _ _ z=>False.elim z
   subst hr
   exact fin C hCC I5 qn
  ·refine wpAny_mono (T.item (Bm X scope (x::N) cl C {s2 with heap:=s2.heap.push {cls:=.type "list",data:=.seq ([]:List Value).toArray},toks:=s2.toks} (upd H2 s2.heap.objs.size (.lst [])) fp) rfl rfl rfl hc i [] s3 _ H3 (fun _ _=>False) I4 (fpC fr3 (by simp)) st3 go) (fun r s4 ⟨u,hr,h4⟩=>?_) fun _ _ z=>False.elim z
   subst hr
   have e0:∀(k:Unit→Sem Unit),(letOwnedTupleGo (.Name x px) (.ref it) u >>= k)=k ():=fun k=>rfl
   have hg:PG (Bm X scope (x::N) cl C {s2 with heap:=s2.heap.push {cls:=.type "list",data:=.seq ([]:List Value).toArray},toks:=s2.toks} (upd H2 s2.heap.objs.size (.lst [])) fp) (.Name x px) (Aaq 0):=U6 S.nd rfl (.inl (lookup_relabel_local S.hx)) (.inr (lookup_relabel_local S.hx))
   show wpAny (model X.prog X.w) X.A (assign (.Name x px) (compEnvC scope cl C X.env) u) _ _ s4
   rw[←e0 fun _=>assign (.Name x px) (compEnvC scope cl C X.env) u]
   refine wpAny_bind (wpAny_mono h4 (fun _ s5 ⟨z,H5,I5,r5,y5,st5,fr5⟩=>?_) fun _ _ z=>False.elim z)
   have I5':=I5.pinned (fpC fr5 (by simp)) (T.obj _ _ st5)
   have W5:=hg _ s5 _ H5 z u (fun σ' H'=>σ'=some z::vs.map some∧H'=H5) I5' r5 ⟨rfl,rfl⟩
   refine wpAny_mono W5 (fun _ s6 ⟨σ6,H6,I6,e6,e7⟩=>?_) fun _ _ z=>False.elim z
   subst e6 e7
   refine wpAny_mono (ht _ _ _ _ _ _ s6 _ H6 _ I6 (step z H6 y5)) (fun b s7 ⟨H7,I7,q7⟩=>?_) fun _ _ z=>False.elim z
   have again:∀{H8:Hp} {s8:Shared} {acc':List V},Inv (Bm X scope (x::N) cl C {s2 with heap:=s2.heap.push {cls:=.type "list",data:=.seq ([]:List Value).toArray},toks:=s2.toks} (upd H2 s2.heap.objs.size (.lst [])) fp) ([]++Ny fp s5.heap) (some z::vs.map some) H8 s8→(∃m',m'<n∧W (i+1) m' acc' H8)→∃m,m<n∧∃i acc σ' H',Inv (Bm X scope (x::N) cl C {s2 with heap:=s2.heap.push {cls:=.type "list",data:=.seq ([]:List Value).toArray},toks:=s2.toks} (upd H2 s2.heap.objs.size (.lst [])) fp) [] σ' H' s8∧(∃y,σ'=y::vs.map some)∧tn i s8.heap∧(∀b∈fp,H' b=none)∧W i m acc H':=fun{H8 s8 acc'} I8 ⟨m',hm,w8⟩=>by
    refine⟨m',hm,i+1,acc',_,H8,I8.cI,⟨_,rfl⟩,T.keep _ _ _ st5 fun b hb o e=>(I8.pin (b,o) (List.mem_append_right _ (List.mem_append_right _ (Gs hb e)))).1,fun b hb=>?_,w8⟩
    obtain⟨o,e,d⟩:=T.obj _ _ st5 b hb
    exact(I8.pin (b,o) (List.mem_append_right _ (List.mem_append_right _ (Gs hb e)))).2.1
   cases b with
   |false=>exact again I7 q7
   | true =>
    rw[if_pos rfl]
    refine wpAny_mono (he _ _ _ _ _ _ s7 _ H7 _ I7 q7) (fun v8 s8 ⟨x8,H8,I8,r8,hD8,hz8,q8⟩=>?_) fun _ _ z=>False.elim z
    refine wpAny_mono (Nu (X:=(Bm X scope (x::N) cl C {s2 with heap:=s2.heap.push {cls:=.type "list",data:=.seq ([]:List Value).toArray},toks:=s2.toks} (upd H2 s2.heap.objs.size (.lst [])) fp)) _ s8 _ H8 (.ref s2.heap.objs.size) [x8] (.ref s2.heap.objs.size) [v8] (fun _ H9=>H9=upd H8 s2.heap.objs.size (.lst (acc++[x8]))) I8 rfl (.cons r8 .nil) ⟨_,acc,x8,rfl,rfl,hD8,hz8,rfl⟩) (fun _ s9 ⟨_,H9,I9,_,e9⟩=>?_) fun _ _ z=>False.elim z
    subst e9
    exact again I9 q8
 exact codeAny_compStart_list loop (T.self _ 0 _ _ _ st₁ loop)
def Alz(i:Nat)(sl:List Nat)(wi:TI)(tt:TT)(te:TE):TS:=fun D σ H=>AdU sl wi tt te σ H fun v H'=>D.nx (σ.set i (some v)) H'
theorem AgB{i:Nat}{y:Str}{py spos:Pos}(S:Fg X scope x N sl)(hc:X.calm=true)(hN:X.N.Nodup)(hyi:X.N[i]? = some y)(hy:X.env.scope.names.lookup y=some .local)(hi:PI X (.Name x px) iter wi)
  (ht:∀cl C s₀ H₀ ex,PTs (Bm X scope (x::N) cl C s₀ H₀ ex) ifs tt) (he:∀cl C s₀ H₀ ex,PE (Bm X scope (x::N) cl C s₀ H₀ ex) elt te)
  (hsw:swapsWith (.ListComp elt [⟨.Name x px,iter,ifs,0⟩] scope pos) (some (.Name y py)) spos.line X.env=pure true) (hs:∀x,foldedSetIterable iter X.env x=pure x:=by intro _;rfl) :
  PS X (.Assign [.Name y py] (.ListComp elt [⟨.Name x px,iter,ifs,0⟩] scope pos) spos) (Alz i sl wi tt te):=by
 intro pins s σ H DD I h
 obtain⟨cl,hclos,hcl,lC⟩:=PN (env:=X.env) (scope:=scope) fun y hy hf=>I.ok.has y.1 (.inl (S.free y hy hf))
 rw[exec_Assign_Name_used _ _ _ _ hsw]
 refine wpAny_bind (wpAny_standAt (wpAny_bind ?_))
 show wpAny _ X.A (do let _ ←comprehension (.ListComp elt [⟨.Name x px,iter,ifs,0⟩] scope pos) scope X.env _ (newList []) false (eval iter X.env) (some (assign (.Name y py) X.env))) _ _ s
 refine wpAny_bind (wpAny_mono (wpAny_comprehension_free (use:=some (assign (.Name y py) X.env)) (Q:=fun _ s'=>SP X pins DD .next s') rfl hs hclos S.kind S.names
  (thn (hi pins s σ H _ I h) fun v s1 h1=>thn h1 fun itv s2 h2=>?_)) (fun _ s' hq=>wpAny_pure (wpAny_pure hq)) fun _ _ e=>e)
 obtain⟨it,fp,tn,J,H2,e,I2,T,st2,f2,vs,hvs,hW⟩:=h2
 subst e
 refine Yh (QD:=fun H'=>DD.nx (σ.set i (some (.ref s2.heap.objs.size))) H') (PP:=fun acc C=>compPost (model X.prog X.w) X.A X.xe (some (assign (.Name y py) X.env)) (fun _ s'=>SP X pins DD .next s') acc C) S hc ht he hcl lC I2 T st2 f2 hvs (hW s2.heap.objs.size I2.fresh) fun C hCC {σ' H' s'} J q=>?_
 have hD:H2 s2.heap.objs.size=none:=I2.fresh
 have nC:∀b o,s2.heap.get? b=some o→b≠C:=fun b o e=>by
  have e1:(s2.heap.push {cls:=.type "list",data:=.seq ([]:List Value).toArray}).get? b=some o:=Heap.get?_push_of_some _ e
  rw[←hCC];exact Nat.ne_of_lt (Heap.lt_size e1)
 have u:Un (frs X.stack) fp H2 H' s2.heap s'.heap:=(Un.laid (fun b u e=>Heap.get?_push_of_some _ e) (Nat.le_refl _) hD).trans J.base
 have hos:s'.os=s2.os:=J.os
 have IX:Inv X pins σ H' s':=I2.call' (ch:=fp) hos u J.hok J.bare fun b hb=>⟨(f2 b hb).2.2.2.1,(f2 b hb).2.1,(f2 b hb).2.2.2.2.1,(f2 b hb).2.2.2.2.2⟩
 have hLC:X.env.locals≠C:=by
  obtain⟨m,⟨o,_,_,ho,_⟩,_⟩:=I2.loc
  exact nC _ o ho
 have hcC:∀y c,X.env.cells.lookup y=some c→c≠C:=fun y c e=>by
  obtain⟨v,o,ho,_⟩:=I2.cell y c e
  exact nC _ o ho
 show wpAny _ X.A (assign (.Name y py) X.env (.ref s2.heap.objs.size)) _ _ _
 refine wpAny_assign_Name (Tj IX hN hyi (.inl hy) (v:=.ref s2.heap.objs.size) rfl (fun s'' I'' ⟨a,hs2,ha⟩=>?_) (.inr hy))
 obtain⟨m,hn,_⟩:=id J.loc
 have haC:C≠a:=by
  rcases ha with z|z
  ·rw[z];exact Ne.symm hLC
  ·exact Ne.symm (hcC y a z)
 refine⟨m,hn.sameBut hs2 haC,fun h' hs'=>⟨_,H',?_,q⟩⟩
 refine I''.turned (t':=s''.toks) (it:=C) (fun b o hb e=>(hs'.2 b hb).trans e) J.free (Ne.symm hLC) (.inr ?_) hcC (fun p hp z=>?_)
 ·rw[←hCC]
  exact Nat.le_trans I2.sz (by rw[Heap.size_push];exact Nat.le_succ _)
 ·obtain⟨e,_⟩:=I2.pin p hp
  exact nC _ _ e z
theorem Ss{sl:List Nat}{ti:DTI}{dt:DTT}{de:DTE}(mi:∀{ρ Q Q'},(∀d,Q d→Q' d)→ti ρ Q→ti ρ Q'):∀{ρ Q Q'},(∀d,Q d→Q' d)→JW sl ti dt de ρ Q→JW sl ti dt de ρ Q' :=
 fun hq h=>mi (fun items ⟨h1,h2,W,w0,st,fin⟩=>⟨h1,h2,W,w0,st,fun acc l w=>hq _ (fin acc l w)⟩) h
def Adx(i:Nat)(sl:List Nat)(ti:DTI)(tt:DTT)(te:DTE):DTS:=fun D ρ=>JW sl ti tt te ρ fun d=>D.nx (ρ.set i (some (.is d)))
theorem AcR{ti:DTI}{dt:DTT}{de:DTE}{y:Str}{py spos:Pos}(i:Nat)(S:Fg X scope x N sl)(hc:X.calm=true)(hN:X.N.Nodup)(hyi:X.N[i]? = some y)(hy:X.env.scope.names.lookup y=some .local)(hi:DI X (.Name x px) iter ti)
  (ht:∀cl C s₀ H₀ ex,DTs (Bm X scope (x::N) cl C s₀ H₀ ex) ifs dt) (he:∀cl C s₀ H₀ ex,DE (Bm X scope (x::N) cl C s₀ H₀ ex) elt de)
  (hsw:swapsWith (.ListComp elt [⟨.Name x px,iter,ifs,0⟩] scope pos) (some (.Name y py)) spos.line X.env=pure true) (hs:∀x,foldedSetIterable iter X.env x=pure x:=by intro _;rfl) :
  DS X (.Assign [.Name y py] (.ListComp elt [⟨.Name x px,iter,ifs,0⟩] scope pos) spos) (Adx i sl ti dt de) where
 mono:=fun hd h=>Ss (ti:=ti) hi.mono (fun d q=>hd.nx _ q) h
 ps:=(AgB (tt:=lT X.K dt) (te:=lE X.K de) S hc hN hyi hy hi.pi (fun cl C s₀ H₀ ex=>(ht cl C s₀ H₀ ex).pts) (fun cl C s₀ H₀ ex=>(he cl C s₀ H₀ ex).pe) hsw hs).imp fun D σ H ⟨B,F,O,ρ,R,h⟩ =>
  Xk (ti:=ti) (dt:=dt) (de:=de) hi.mono (ht [] 0 X.s₀ X.H₀ []).mono (he [] 0 X.s₀ X.H₀ []).mono σ H _ ⟨B,F,O,ρ,R,Ss (ti:=ti) hi.mono (fun d q v H' s r=>q O _ H' ((R.same s).set i r)) h⟩
theorem Adp{c:Expr}{ti:DTI}{dt:DTT}{de:DTE}{y:Str}{py spos:Pos}(i:Nat)(hN:X.N.Nodup)(S:Fg X scope x N sl)(hc:X.calm=true)(hi:DI X (.Name x px) iter ti)(ht:∀cl C s₀ H₀ ex,DT (Bm X scope (x::N) cl C s₀ H₀ ex) c dt)
  (he:∀cl C s₀ H₀ ex,DE (Bm X scope (x::N) cl C s₀ H₀ ex) elt de)
  (hyi:X.N[i]? = some y:=by rfl) (hy:X.env.scope.names.lookup y=some .local:=by rfl) (hsw:swapsWith (.ListComp elt [⟨.Name x px,iter,[c],0⟩] scope pos) (some (.Name y py)) spos.line X.env=pure true:=by rfl) (hs:∀x,foldedSetIterable iter X.env x=pure x:=by intro _;rfl) :
  DS X (.Assign [.Name y py] (.ListComp elt [⟨.Name x px,iter,[c],0⟩] scope pos) spos) (Adx i sl ti dt de):=AcR i S hc hN hyi hy hi (fun _ _ _ _ _=>Aav (ht _ _ _ _ _)) he hsw hs
end
section
variable{prog:Program}{w:World}{A:Around}{E:Value→Shared→Prop}{s:Shared}
theorem Tw{it t:Addr}{items:Array Value}(hne:t≠it):∀(n i:Nat)(s:Shared)(Q:List Value→Shared→Prop),s.heap.IsListIter it t i→s.heap.IsList t items→i+n≤items.size →
  (∀h',h'.IsListIter it t (i+n)→Heap.SameBut it s.heap h'→Q ((items.toList.drop i).take n) {s with heap:=h'})→wpAny (model prog w) A (draw (.ref it) n) Q E s
 | 0,i,s,Q,hit,_,_,hQ=>by
  show wpAny _ _ (pure []) Q E s
  exact wpAny_pure (by simpa using hQ s.heap hit (Heap.SameBut.refl ..))
 | n+1,i,s,Q,hit,ht,hle,hQ=>by
  have hlt:i<items.size:=∅
  show wpAny _ _ (pyNext (.ref it) >>= _) Q E s
  refine wpAny_bind (wpAny_pyNext_list_item hit ht (x:=items[i]) (by simp[hlt]) fun h₁ hit₁ hs₁=>?_)
  refine wpAny_bind (wpAny_holding (Tw hne n (i+1) _ _ hit₁ (ht.extBut hs₁.extBut hne) ∅ fun h₂ hit₂ hs₂=>wpAny_pure ?_))
  have hd:items.toList.drop i=items[i]::items.toList.drop (i+1):=by simp[List.drop_eq_getElem_cons,hlt]
  have:=hQ h₂ (by rw[show i+(n+1)=i+1+n by omega];exact hit₂) (hs₁.trans hs₂)
  rw[hd,List.take_succ_cons]at this
  exact this
theorem Od{t:Addr}{items:Array Value}{Q:List Value→Shared→Prop}(hh:A.handled=none)(ht:s.heap.IsList t items)
  (hQ:∀h',Heap.ExtBut s.heap.objs.size s.heap h'→Q items.toList {s with heap:=h'}):wpAny (model prog w) A (unpackItems (.ref t) items.size none) Q E s:=by
 have hlt:t≠s.heap.objs.size:=by obtain⟨o,ho,_⟩:=ht;exact Nat.ne_of_lt (Heap.lt_size ho)
 unfold unpackItems
 refine wpAny_bind ?_
 ·unfold notIterableAtAll
  refine wpAny_bind (wpAny_specialOf ht.typeIs slot_list_iter.lookup ?_)
  refine wpAny_pure ?_
  simp only[Bool.false_eq_true,if_false]
  refine wpAny_bind (wpAny_holding (wpAny_pyIter_list ht ?_))
  have ht':(s.heap.push {cls:=.type "list_iterator",data:=.fields #[.ref t,.int 0 0]}).IsList t items:=by
   obtain⟨o,ho,r⟩:=ht
   exact⟨o,Heap.get?_push_of_some _ ho,r⟩
  refine wpAny_bind (wpAny_holding (Tw hlt items.size 0 _ _ ⟨_,Heap.get?_push_size _ rfl,rfl,rfl⟩ ht' ∅ fun h₁ hit₁ hs₁=>?_))
  have hall:List.take items.size (List.drop 0 items.toList)=items.toList:=by
   rw[List.drop_zero];exact List.take_of_length_le (by simp)
  rw[hall]
  rw[if_neg (by simp)]
  have ht₁:h₁.IsList t items:=ht'.extBut hs₁.extBut hlt
  refine wpAny_bind (wpAny_holding (wpAny_pyNext_list_end hh hit₁ ht₁ (by simp) fun h₂ he₂=>?_))
  simp only[Option.isSome_none,Bool.false_eq_true,if_false]
  refine wpAny_pure (hQ h₂ fun b o hb e=>he₂ b o hb (hs₁.extBut b o hb (Heap.get?_push_of_some _ e)))
end
section
variable{X:Cx}{es:List Expr}{pos:Pos}
def Anv(K:W.Frag)(n:Nat)(t:TGs):TG:=fun v σ H Q=>∃a xs,v=.ref a∧SqL K H a xs∧xs.length=n∧t xs σ H Q
theorem Ai7{k:Nat}{t:TGs}{n:Nat}(hc:X.calm=true)(h:PGs X es t)(hn:(assignEach es X.env).length=n:=by rfl)(hst:(assignEach es X.env).findIdx? (·.1)=none:=by rfl):PG X (.Tuple es k pos) (Anv X.K n t):=by
 intro pins s σ H v u Q I r hw
 obtain⟨a,xs,e1,hq,hl,hw⟩:=hw
 subst e1
 cases r
 obtain⟨its,rv,ht,hz⟩:=I.list hq
 rw[assign_Tuple]
 refine wpAny_bind (wpAny_standAt ?_)
 unfold unpack
 have e2:(assignEach es X.env).length=its.toArray.size:=by simp[hn,←hl,rv.length]
 rw[e2,hst]
 refine wpAny_bind (wpAny_holding (Od (I.ok.hd hc) ht.isList fun h' hx=>?_))
 have I1:Inv X pins σ H {s with heap:=h'}:=I.kept (t':=s.toks) fun b o e=>hx b o (Nat.ne_of_lt (Heap.lt_size e)) e
 exact h pins _ σ H xs _ Q I1 (by simpa using rv) hw
def Aah(n:Nat)(gs:R7):DTG:=fun d ρ Q=>match d with
 |.lst ds=>ds.length=n∧gs ds ρ Q
 |_=>False
theorem Acq{k:Nat}{gs:R7}{n:Nat}(hc:X.calm=true)(h:DGs X es gs)(hn:(assignEach es X.env).length=n:=by rfl)(hst:(assignEach es X.env).findIdx? (·.1)=none:=by rfl):DG X (.Tuple es k pos) (Aah n gs) where
 mono:=fun hq z=>by
  unfold Aah at z ⊢
  split at z
  ·exact⟨z.1,h.mono hq z.2⟩
  ·exact z.elim
 pg:=(Ai7 hc h.pg hn hst).imp fun v σ H Q ⟨B,F,O,ρ,d,R,r,z⟩=>by
  unfold Aah at z
  split at z
  ·obtain⟨a,xs,rfl,hs,hl⟩:=CN r
   exact⟨a,xs,rfl,Bh.seq hs,by rw[hl.len];exact z.1,B,F,O,ρ,_,R,hl,z.2⟩
  ·exact z.elim
end
end L2
namespace L2
end L2
namespace L2
theorem LC{n:Nat}{x:PySem.Str}:Dt.flat n (.str x)=(PySem.PyData.str x).canLay0:=by cases n<;>rw[Dt.flat]
end L2
namespace L2
open PySem Spec PyProof.Rows SeqAt
section
variable{X:Cx}{pins:List (Addr×Obj)}{σ:St}{H:Hp}{s:Shared}{h':Heap}{a dx C U f fI:Addr}{φ ψ:Heap→Prop}
end
structure AjD where
 d:FN
 ex:Bu→Dt→Prop
abbrev Lj:=AjD→Bu→Prop
abbrev Qd:=Bu→(Dt→Prop)→(Dt→Prop)→Prop
section
variable{X:Cx}{a b c e:Expr}{es:List Expr}{st:Stmt}{sts sa sb:List Stmt}{t u:Lj}{ts us:DTS}{te:Qd}{tA:DTT}{tl:DTA}{pos:Pos}
def AiF(t:DTS):Lj:=fun D ρ=>t D.d ρ
def Ajo:Lj:=fun D ρ=>D.d.nx ρ
def AmV(t u:Lj):Lj:=fun D ρ=>t ⟨{D.d with nx:=u D},D.ex⟩ ρ
def Aol(c:DTT)(t u:Lj):Lj:=fun D ρ=>c ρ fun k=>if k=true then t D ρ else u D ρ
def Ajn(te:Qd):Lj:=fun D ρ=>te ρ (fun _=>D.d.nx ρ) (D.ex ρ)
def Ale(te:Qd):Lj:=fun D ρ=>te ρ D.d.rt (D.ex ρ)
def AmM(te:Qd)(g:DTG):Lj:=fun D ρ=>te ρ (fun d=>g d ρ D.d.nx) (D.ex ρ)
abbrev AoJ:=List Dt→(Dt→Prop)→(Dt→Prop)→Prop
def AiB(sp:AoJ)(tl:DTA):Qd:=fun ρ Q E=>tl ρ fun ds=>sp ds Q E
def Aid(c:Str)(ns:List Str)(tl:DTA):Lj:=fun D ρ=>tl ρ fun ds=>ds.length=ns.length∧ds.length≤1000∧D.ex ρ (.exc c ns ds)
end
section
variable{P:Program}{w:World}{K:W.Frag}{mg:Str→Option Value}{base:Heap}
end
section
variable{X:Cx}{pins:List (Addr×Obj)}{σ:St}{H:Hp}{s:Shared}
end
def Under(K:W.Frag)(mg:Str→Option Value)(c T:Str):Prop:=∀C U,W.nsIn K mainGlobals c=some (some (.ref C))→XC K C U→mg T=some (.ref U)
section
variable{X:Cx}{tb:Lj}{ts:DTS}{pos tp hp:Pos}{T n:Str}{U:Addr}{body suite:List Stmt}{b₀:Stmt}
def Ac9(K:W.Frag)(mg:Str→Option Value)(T:Str)(j:Nat)(ts:DTS)(D:FN)(ρ:Bu)(x:Dt):Prop:=match x with
 |.exc c ns ds=>Under K mg c T∧ts {nx:=fun ρ2=>D.nx (ρ2.set j none),rt:=fun _=>False} (ρ.set j (some (.is (.exc c ns ds))))
 |_=>False
def AnB(K:W.Frag)(mg:Str→Option Value)(T:Str)(j:Nat)(tb:Lj)(ts:DTS):Lj:=fun D ρ=>tb ⟨D.d,Ac9 K mg T j ts D.d⟩ ρ
end
def Ame(K:W.Frag)(c:Str)(A:Addr)(b:Bool):Prop:=∀C,W.nsIn K mainGlobals c=some (some (.ref C))→W.kitOne K (.ref C) (.ref A)=some b
def AlU(K:W.Frag)(c:Str)(As:List Addr)(b:Bool):Prop:=∀C,W.nsIn K mainGlobals c=some (some (.ref C))→W.kitAny K (.ref C) (As.map .ref)=some b
def Pg(K:W.Frag)(c f:Str):Prop:=∀C,W.nsIn K mainGlobals c=some (some (.ref C))→W.findIn K (.ref C) f=some none
section
variable{X:Cx}{a b c e:Expr}{es:List Expr}{ta tb te:DTE}{tl:DTA}{pos:Pos}
def Ann(K:W.Frag):DL:=fun ds Q=>match ds with
 | [.exc c _ _,.fn A]=>∃v,Ame K c A v∧Q (.bl v)
 |_=>False
def AlR(K:W.Frag):DL:=fun ds Q=>match ds with
 | [.exc c _ _,.tup es]=>∃As v,es=As.map .fn∧AlU K c As v∧Q (.bl v)
 |_=>False
def Apf(ta:DTE):DTE:=fun ρ Q=>ta ρ fun d=>match d with
 |.exc _ _ _=>Q (.bl true)
 |_=>False
theorem zip_get{K:W.Frag}{H:Hp}{f:Str}{d:Dt}:∀{ns:List Str} {ds:List Dt} {vs:List V},RpL K H ds vs→(ns.zip ds).lookup f=some d→∃v,(ns.zip vs).lookup f=some v∧Rp K H d v
 | [],_,_,_,h=>by simp at h
 |_::_,[],_,_,h=>by simp at h
 | n::ns,x::ds,_,r,h=>by
  obtain⟨v,vr,rfl,r1,r2⟩:=Aw.mp r
  rw[List.zip_cons_cons]at h ⊢
  by_cases q:f=n
  ·have hb:(f==n)=true:=beq_iff_eq.mpr q
   simp only[List.lookup,hb]at h ⊢
   cases h;exact⟨v,rfl,r1⟩
  ·have hb:(f==n)=false:=beq_eq_false_iff_ne.mpr q
   simp only[List.lookup,hb]at h ⊢
   exact zip_get r2 h
def Aku(K:W.Frag)(te:DTE)(f:Str):DTE:=fun ρ Q=>te ρ fun d=>match d with
 |.exc c ns ds=>Pg K c f∧∃v,(ns.zip ds).lookup f=some v∧Q v
 |_=>False
def Am0(t:Lj):DTS:=fun D ρ=>t ⟨D,fun _ _=>False⟩ ρ
end
section
variable{K:W.Frag}{mg:Str→Option Value}{c T f:Str}{C U A:Addr}{cd:ClassData}
end
theorem Lq{O:List Addr}{H:Hp}{a:Addr}{o:HO}(h:a∈O):mask O (upd H a o)=mask O H:=by
 funext b
 by_cases q:b∈O
 ·rw[CK q,CK q]
 ·rw[Az q,Az q,Bo (a:=a) (fun z=>q (by rw[z];exact h))]
theorem Adc{F O:List Addr}{H:Hp}{p:Addr}{o:HO}(h:H p=none):mask (F++(p::O)) (upd H p o)=mask (F++O) H:=by
 funext b
 by_cases e:b=p
 ·subst e
  rw[CK (List.mem_append_right _ List.mem_cons_self)]
  by_cases q:b∈F++O
  ·rw[CK q]
  ·rw[Az q,h]
 ·by_cases q:b∈F++O
  ·rw[CK q,CK]
   rcases List.mem_append.mp q with q|q
   ·exact List.mem_append_left _ q
   ·exact List.mem_append_right _ (List.mem_cons_of_mem _ q)
  ·rw[Az q,Az,Bo e]
   intro z
   rcases List.mem_append.mp z with z|z
   ·exact q (List.mem_append_left _ z)
   ·rcases List.mem_cons.mp z with z|z
    ·exact e z
    ·exact q (List.mem_append_right _ z)
section
variable{K:W.Frag}{B:Hp}{F O:List Addr}{H:Hp}{σ:St}{ρ:Bu}
theorem Rep.pD(r:Rep K B F O H σ ρ)(i:Nat){p:Addr}{ds:List Dt}{xs:List V}(hp:H p=none)(h:RpL K (mask (F++O) H) ds xs):Rep K B F (p::O) (upd H p (.lst xs)) (σ.set i (some (.ref p))) (ρ.set i (some (.own ds))):=by
 have hl:=r.len
 have nF:p∉F:=fun z=>r.th p (List.mem_append_left _ z) hp
 have nO:p∉O:=fun z=>r.th p (List.mem_append_right _ z) hp
 have em:=Adc (F:=F) (O:=O) (o:=.lst xs) hp
 refine⟨by simpa using hl,r.base.trans (Same.upd hp),fun a h=>?_,fun a h e=>?_,fun j d q=>?_,fun j es q=>?_,fun j k es es' a h1 h2 h3 h4=>?_,fun j ks q=>?_,fun j k es es' a h1 h2 h3 h4=>?_,r.qN fun _ z=>by cases z⟩
 ·rcases List.mem_cons.mp h with rfl|h
  ·cases q:B a with
   |none=>rfl
   |some o=>rw[r.base a o q]at hp;cases hp
  ·exact r.fr a h
 ·by_cases z:a=p
  ·rw[z,Ce]at e;cases e
  ·rw[Bo z]at e
   refine r.th a ?_ e
   rcases List.mem_append.mp h with h|h
   ·exact List.mem_append_left _ h
   ·exact List.mem_append_right _ ((List.mem_cons.mp h).resolve_left z)
 ·by_cases hj:j=i
  ·subst hj
   by_cases hk:j<ρ.length
   ·rw[List.getElem?_set_self hk]at q;cases q
   ·rw[List.getElem?_eq_none (by simpa using hk)]at q;cases q
  ·rw[List.getElem?_set_ne (Ne.symm hj)]at q ⊢
   rw[em];exact r.is j d q
 ·by_cases hj:j=i
  ·subst hj
   by_cases hk:j<ρ.length
   ·rw[List.getElem?_set_self hk]at q;cases q
    exact⟨p,xs,List.getElem?_set_self ∅,List.mem_cons_self,nF,Ce,by rw[em];exact h⟩
   ·rw[List.getElem?_eq_none (by simpa using hk)]at q;cases q
  ·rw[List.getElem?_set_ne (Ne.symm hj)]at q ⊢
   obtain⟨a,ys,h1,h2,h3,h4,h5⟩:=r.own j es q
   exact⟨a,ys,h1,List.mem_cons_of_mem _ h2,h3,by rw[Bo (a:=p) (fun z=>nO (by rw[←z];exact h2))];exact h4,by rw[em];exact h5⟩
 ·have other:∀(m:Nat) es,m≠i→(ρ.set i (some (.own ds)))[m]? = some (some (.own es))→(σ.set i (some (.ref p)))[m]? = some (some (.ref p))→False:=fun m es hm q1 q2=>by
   rw[List.getElem?_set_ne (Ne.symm hm)]at q1 q2
   obtain⟨b,_,e1,e2,_⟩:=r.own m es q1
   rw[e1]at q2
   cases q2
   exact nO e2
  by_cases hj:j=i
  ·by_cases hk:k=i
   ·rw[hj,hk]
   ·subst hj
    have:a=p:=by
     rw[List.getElem?_set_self (by
      have:=(List.getElem?_eq_some_iff.mp h1).1
      simp at this;omega)]at h3
     cases h3;rfl
    subst this
    exact(other k es' hk h2 h4).elim
  ·by_cases hk:k=i
   ·subst hk
    have:a=p:=by
     rw[List.getElem?_set_self (by
      have:=(List.getElem?_eq_some_iff.mp h2).1
      simp at this;omega)]at h4
     cases h4;rfl
    subst this
    exact(other j es hj h1 h3).elim
   ·rw[List.getElem?_set_ne (Ne.symm hj)]at h1 h3
    rw[List.getElem?_set_ne (Ne.symm hk)]at h2 h4
    exact r.inj j k es es' a h1 h2 h3 h4
 ·have hj:j≠i:=fun z=>by
   subst z
   by_cases hk:j<ρ.length
   ·rw[List.getElem?_set_self hk]at q;cases q
   ·rw[List.getElem?_eq_none (by simpa using hk)]at q;cases q
  rw[List.getElem?_set_ne (Ne.symm hj)]at q ⊢
  obtain⟨a,ys,h1,h2,h3,h4,h5⟩:=r.tab j ks q
  exact⟨a,ys,h1,List.mem_cons_of_mem _ h2,h3,by rw[Bo (a:=p) (fun z=>nO (by rw[←z];exact h2))];exact h4,by rw[em];exact h5⟩
 ·have back:∀(m:Nat) ks,(ρ.set i (some (.own ds)))[m]? = some (some (.tab ks))→m≠i∧ρ[m]? = some (some (.tab ks)):=fun m ks q=>by
   have hm:m≠i:=fun z=>by
    subst z
    by_cases hk:m<ρ.length
    ·rw[List.getElem?_set_self hk]at q;cases q
    ·rw[List.getElem?_eq_none (by simpa using hk)]at q;cases q
   rw[List.getElem?_set_ne (Ne.symm hm)]at q;exact⟨hm,q⟩
  obtain⟨n1,q1⟩:=back j _ h1
  obtain⟨n2,q2⟩:=back k _ h2
  rw[List.getElem?_set_ne (Ne.symm n1)]at h3
  rw[List.getElem?_set_ne (Ne.symm n2)]at h4
  exact r.iw j k es es' a q1 q2 h3 h4
theorem Rep.pF(r:Rep K B F O H σ ρ){i:Nat}{a:Addr}{ds es:List Dt}{xs ys:List V}(hi:ρ[i]? = some (some (.own ds)))(hs:σ[i]? = some (some (.ref a)))(ha:a∈O)(hH:H a=some (.lst xs))(h:RpL K (mask (F++O) H) es ys) :
  Rep K B F O (upd H a (.lst ys)) σ (ρ.set i (some (.own es))):=by
 have em:mask (F++O) (upd H a (.lst ys))=mask (F++O) H:=Lq (List.mem_append_right _ ha)
 have hk:i<ρ.length:=(List.getElem?_eq_some_iff.mp hi).1
 refine⟨by simpa using r.len,fun b o e=>?_,r.fr,fun b hb e=>?_,fun j d q=>?_,fun j ks q=>?_,fun j k es' rD b h1 h2 h3 h4=>?_,fun j ks q=>?_,fun j k es' rD b h1 h2 h3 h4=>?_,fun j v q=>r.raw j v (Mq (fun _ z=>by cases z) q).2⟩
 ·rw[Bo fun z=>by rw[z,r.fr a ha]at e;cases e];exact r.base b o e
 ·by_cases z:b=a
  ·rw[z,Ce]at e;cases e
  ·rw[Bo z]at e;exact r.th b hb e
 ·have hj:j≠i:=fun z=>by subst z;rw[List.getElem?_set_self hk]at q;cases q
  rw[List.getElem?_set_ne (Ne.symm hj)]at q
  rw[em];exact r.is j d q
 ·by_cases hj:j=i
  ·subst hj
   rw[List.getElem?_set_self hk]at q;cases q
   obtain⟨b,_,e1,e2,e3,_⟩:=r.own j ds hi
   rw[hs]at e1;cases e1
   exact⟨a,ys,hs,ha,e3,Ce,by rw[em];exact h⟩
  ·rw[List.getElem?_set_ne (Ne.symm hj)]at q
   obtain⟨b,zs,e1,e2,e3,e4,e5⟩:=r.own j ks q
   have nb:b≠a:=fun z=>by subst z;exact hj (r.inj j i ks ds b q hi e1 hs)
   exact⟨b,zs,e1,e2,e3,by rw[Bo nb];exact e4,by rw[em];exact e5⟩
 ·have back:∀(m:Nat) ks,(ρ.set i (some (.own es)))[m]? = some (some (.own ks))→∃ks',ρ[m]? = some (some (.own ks')):=fun m ks q=>by
   by_cases hm:m=i
   ·subst hm;exact⟨ds,hi⟩
   ·rw[List.getElem?_set_ne (Ne.symm hm)]at q;exact⟨ks,q⟩
  obtain⟨_,q1⟩:=back j es' h1
  obtain⟨_,q2⟩:=back k rD h2
  exact r.inj j k _ _ b q1 q2 h3 h4
 ·have hj:j≠i:=fun z=>by subst z;rw[List.getElem?_set_self hk]at q;cases q
  rw[List.getElem?_set_ne (Ne.symm hj)]at q
  obtain⟨b,zs,e1,e2,e3,e4,e5⟩:=r.tab j ks q
  have nb:b≠a:=fun z=>by rw[z,hH]at e4;cases e4
  exact⟨b,zs,e1,e2,e3,by rw[Bo nb];exact e4,by rw[em];exact e5⟩
 ·have back:∀(m:Nat) ks,(ρ.set i (some (.own es)))[m]? = some (some (.tab ks))→ρ[m]? = some (some (.tab ks)):=fun m ks q=>by
   have hm:m≠i:=fun z=>by subst z;rw[List.getElem?_set_self hk]at q;cases q
   rw[List.getElem?_set_ne (Ne.symm hm)]at q;exact q
  exact r.iw j k _ _ b (back j _ h1) (back k _ h2) h3 h4
theorem Rep.freeze(r:Rep K B F O H σ ρ){i:Nat}{ds:List Dt}(hi:ρ[i]? = some (some (.own ds))):∃O',Rep K B F O' H σ (ρ.set i (some (.is (.lst ds)))):=by
 obtain⟨a,xs,h1,h2,h3,h4,h5⟩:=r.own i ds hi
 have hk:i<ρ.length:=(List.getElem?_eq_some_iff.mp hi).1
 have sub:∀b∈F++O.filter (fun b=>decide (b≠a)),b∈F++O:=fun b hb=>by
  rcases List.mem_append.mp hb with hb|hb
  ·exact List.mem_append_left _ hb
  ·exact List.mem_append_right _ (List.mem_filter.mp hb).1
 have na:a∉F++O.filter (fun b=>decide (b≠a)):=fun z=>by
  rcases List.mem_append.mp z with z|z
  ·exact h3 z
  ·exact of_decide_eq_true (List.mem_filter.mp z).2 rfl
 refine⟨O.filter fun b=>decide (b≠a),by simpa using r.len,r.base,fun b hb=>r.fr b (List.mem_filter.mp hb).1,fun b hb=>r.th b (sub b hb),fun j d q=>?_,fun j es q=>?_,fun j k es es' b q1 q2 q3 q4=>?_,fun j ks q=>?_,fun j k es es' b q1 q2 q3 q4=>?_,fun j v q=>r.raw j v (Mq (fun _ z=>by cases z) q).2⟩
 ·by_cases hj:j=i
  ·subst hj
   rw[List.getElem?_set_self hk]at q;cases q
   exact⟨.ref a,h1,Ho ⟨a,xs,rfl,(by rw[Az na];exact h4),h5.mono (Ei sub)⟩⟩
  ·rw[List.getElem?_set_ne (Ne.symm hj)]at q
   obtain⟨v,e1,e2⟩:=r.is j d q
   exact⟨v,e1,e2.mono (Ei sub)⟩
 ·have hj:j≠i:=fun z=>by subst z;rw[List.getElem?_set_self hk]at q;cases q
  rw[List.getElem?_set_ne (Ne.symm hj)]at q
  obtain⟨b,ys,e1,e2,e3,e4,e5⟩:=r.own j es q
  have nb:b≠a:=fun z=>by subst z;exact hj (r.inj j i es ds b q hi e1 h1)
  exact⟨b,ys,e1,List.mem_filter.mpr ⟨e2,decide_eq_true nb⟩,e3,e4,e5.mono (Ei sub)⟩
 ·have nj:∀(m:Nat) ks,(ρ.set i (some (.is (.lst ds))))[m]? = some (some (.own ks))→ρ[m]? = some (some (.own ks)):=fun m ks q=>by
   have hm:m≠i:=fun z=>by subst z;rw[List.getElem?_set_self hk]at q;cases q
   rw[List.getElem?_set_ne (Ne.symm hm)]at q;exact q
  exact r.inj j k es es' b (nj j es q1) (nj k es' q2) q3 q4
 ·have hj:j≠i:=fun z=>by subst z;rw[List.getElem?_set_self hk]at q;cases q
  rw[List.getElem?_set_ne (Ne.symm hj)]at q
  obtain⟨b,ys,e1,e2,e3,e4,e5⟩:=r.tab j ks q
  have nb:b≠a:=fun z=>by rw[z,h4]at e4;cases e4
  exact⟨b,ys,e1,List.mem_filter.mpr ⟨e2,decide_eq_true nb⟩,e3,e4,e5.mono (Ei sub)⟩
 ·have nj:∀(m:Nat) ks,(ρ.set i (some (.is (.lst ds))))[m]? = some (some (.tab ks))→ρ[m]? = some (some (.tab ks)):=fun m ks q=>by
   have hm:m≠i:=fun z=>by subst z;rw[List.getElem?_set_self hk]at q;cases q
   rw[List.getElem?_set_ne (Ne.symm hm)]at q;exact q
  exact r.iw j k es es' b (nj j es q1) (nj k es' q2) q3 q4
end
section
variable{X:Cx}{a b c e:Expr}{es:List Expr}{st:Stmt}{ta tb te:DTE}{tl:DTA}{t:DTS}{pos:Pos}
def Akm(i:Nat)(tl:DTA):DTS:=fun D ρ=>tl ρ fun ds=>ds.length≤sizeLine∧D.nx (ρ.set i (some (.own ds)))
theorem Vo(i:Nat){x:Str}{pos' lp:Pos}(hN:X.N.Nodup)(ha:DA X es tl)(hi:X.N[i]? = some x:=by rfl)(hx:Loc X.env.scope x:=by first | exact Or.inl rfl | exact Or.inr rfl)(hs:swapsWith (.List es lp) (some (.Name x pos')) pos.line X.env=pure false:=by rfl)
  (hf:X.fn x=true∨X.env.scope.names.lookup x=some .local:=by first|exact .inl rfl|exact .inr rfl|assumption):DS X (.Assign [.Name x pos'] (.List es lp) pos) (Akm i tl) where
 mono:=fun hd h=>ha.mono (fun ds ⟨h1,h2⟩=>⟨h1,hd.nx _ h2⟩) h
 ps:=(Yn hN hi hx (Acp ha.pa) hs hf).imp fun D σ H ⟨B,F,O,ρ,R,h⟩=>⟨B,F,O,ρ,R,ha.mono (fun ds ⟨h1,h2⟩ vs H1 s1 r1=>⟨by rw[r1.len];exact h1,fun p hp=>h2 (p::O) _ _ ((R.same s1).pD i hp r1)⟩) h⟩
def ownAt(ρ:Bu)(j:Nat)(k:List Dt→Prop):Prop:=match ρ[j]? with
 |some (some (.own ds))=>k ds
 |_=>False
theorem ownAt.mono{ρ:Bu}{j:Nat}{k k':List Dt→Prop}(hk:∀ds,k ds→k' ds)(h:ownAt ρ j k):ownAt ρ j k':=by
 unfold ownAt at h ⊢
 split at h
 ·exact hk _ h
 ·exact h.elim
theorem ownAt.get{ρ:Bu}{j:Nat}{k:List Dt→Prop}(h:ownAt ρ j k):∃ds,ρ[j]? = some (some (.own ds))∧k ds:=by
 unfold ownAt at h
 split at h
 ·rename_i ds e;exact⟨ds,e,h⟩
 ·exact h.elim
def Anl(j:Nat)(tb:DTE):DTE:=fun ρ Q=>ownAt ρ j fun ds=>tb ρ fun k=>match k with
 | .int i=>match ixL i ds with
  |some v=>Q v
  |none=>False
 |_=>False
def Amg(j:Nat)(te tb:DTE):DTS:=fun D ρ=>te ρ fun d=>ownAt ρ j fun ds=>tb ρ fun k=>match k with
 |.int i=>(0≤i∧i<ds.length)∧D.nx (ρ.set j (some (.own (ds.set i.toNat d))))
 |_=>False
def Ahz(j:Nat)(te:DTE):DTS:=fun D ρ=>ownAt ρ j fun ds=>te ρ fun d=>ds.length<sizeLine∧D.nx (ρ.set j (some (.own (ds++[d]))))
theorem Ql(j:Nat){x:Str}{px ap cp:Pos}(he:DE X e te)(hN:X.N[j]? = some x:=by rfl)(hv:Vis X.env.scope x:=by first | exact Or.inl rfl | exact Or.inr (Or.inl rfl) | exact Or.inr (Or.inr rfl))(hd:(x==("__debug__":Str))=false:=by decide)
  (hcd:(x==("__classdict__":Str))=false:=by decide) (hbase:attributeBase (.Name x px) "append" X.env (eval (.Name x px) X.env)=eval (.Name x px) X.env:=by rfl)
  (hfew:((backTo cp (starEach [e] X.env)).all (fun x=>!x.1)&&(backToKw cp (keywordEach [] X.env)).all (fun x=>x.1.isSome)&&decide ([e].length+([]:List Keyword).length+(if([]:List Keyword).isEmpty then 0 else 1)<30))=true:=by rfl)
  (hline:(ap.endLine==cp.line)=true:=by rfl) (hst:starEach [e] X.env=(false,eval e X.env)::starEach [] X.env:=by rfl) (hplain:(backTo cp (starEach [] X.env)).any (·.1)=false:=by rfl)
  (hs:swapsWith (.Call (.Attribute (.Name x px) "append" ap) [e] [] cp) none pos.line X.env=pure false:=by rfl):DS X (.Expr (.Call (.Attribute (.Name x px) "append" ap) [e] [] cp) pos) (Ahz j te) where
 mono:=fun hd h=>h.mono fun ds h=>he.mono (fun d h=>⟨h.1,hd.nx _ h.2⟩) h
 ps:=(M8 (Al1 PySem.F.plainAttrs_list PySem.F.slot_list_append PySem.F.type_list_append Nu (Io hN hv hd hcd) (Hs he.pe Lr hst) hbase hfew hline hst hplain) hs).imp fun D σ H ⟨B,F,O,ρ,R,h⟩=>by
  obtain⟨ds,e1,h⟩:=h.get
  obtain⟨a,xs,h1,h2,h3,h4,h5⟩:=R.own j ds e1
  refine⟨_,h1,.inl ⟨rfl,_,SqL.of h4⟩,B,F,O,ρ,R,he.mono (fun d h v H1 s1 r1=>?_) h⟩
  exact⟨a,xs,v,rfl,rfl,s1 _ _ h4,by rw[h5.len];exact h.1,h.2 O σ _ ((R.same s1).pF e1 h1 h2 (s1 _ _ h4) ((h5.mono s1.mask).append (.cons r1 .nil)))⟩
def Amr(j:Nat)(t:DTS):DTS:=fun D ρ=>ownAt ρ j fun ds=>t D (ρ.set j (some (.is (.lst ds))))
theorem Uu(j:Nat)(h:DS X st t):DS X st (Amr j t) where
 mono:=fun hd z=>z.mono fun ds z=>h.mono hd z
 ps:=h.ps.imp fun D σ H ⟨B,F,O,ρ,R,z⟩=>by
  obtain⟨ds,e1,z⟩:=z.get
  obtain⟨O',R'⟩:=R.freeze e1
  exact⟨B,F,O',_,R',z⟩
def Alv(j:Nat):DTE:=fun ρ Q=>ownAt ρ j fun ds=>Q (.int ds.length)
def AmN:D2:=fun a b Q=>match a with
 | .tup xs=>match b with
  |.tup ys=>(xs≠[]∧xs.length+ys.length≤sizeLine)∧Q (.tup (xs++ys))
  |_=>False
 |_=>False
end
section qO
variable{X:Cx}{a b c e:Expr}{ta tb tc te:TE}{pos:Pos}
theorem Aa3{op op' op2:CmpOp}{r r' r2:R2}(ho:OpR X (compareOp op) r)(ho':OpR X (compareOp op') r')(ho2:OpR X (compareOp op2) r2)(ha:PE X a ta)(hb:PE X b tb)(hc:PE X c tc)(he:PE X e te)
  (hm:lastMarks [op,op',op2] [b,c,e]=false:=by with_unfolding_all rfl):PT X (.Compare a [op,op',op2] [b,c,e] pos) (fun σ H Q=>ta σ H fun x H1=>tb σ H1 fun y H2=>r x y H2 fun z H3=>∃k,z=.bl k ∧
   (if k=true then tc σ H3 fun w' H4=>r' y w' H4 fun z H5=>∃k,z=.bl k∧(if k=true then te σ H5 fun y' H6=>r2 w' y' H6 fun z H7=>∃k,z=.bl k∧Q k H7 else Q false H5)else Q false H3)):=by
 intro pins s σ H Q I h
 refine isTrue_chain (thn (ha pins s σ H _ I h) fun v s1 ⟨x,H1,I1,r1,q1⟩=>test_link (thn (hb pins s1 σ H1 _ I1 q1) fun u s2 ⟨y,H2,I2,r2,q2⟩ =>
  thn (ho pins s2 σ H2 x y v u _ I2 r1 r2 q2) fun d s3 ⟨z,H3,I3,r3,k,e,q3⟩=>?_)) hm
 subst e
 cases r3
 refine wpAny_truthy_bool ?_
 cases k with
 |false=>exact ite_ff ⟨H3,I3,q3⟩
 | true =>
  refine ite_tt (test_link (thn (hc pins s3 σ H3 _ I3 q3) fun w' s4 ⟨z',H4,I4,r4,q4⟩=>thn (ho' pins s4 σ H4 y z' u w' _ I4 r2 r4 q4) fun d' s5 ⟨z2,H5,I5,r5,k2,e2,q5⟩=>?_))
  subst e2
  cases r5
  refine wpAny_truthy_bool ?_
  cases k2 with
  |false=>exact ite_ff ⟨H5,I5,q5⟩
  | true =>
   refine ite_tt (test_last (thn (he pins s5 σ H5 _ I5 q5) fun w2 s6 ⟨z3,H6,I6,r6,q6⟩=>thn (ho2 pins s6 σ H6 z' z3 w' w2 _ I6 r4 r6 q6) fun d' s7 ⟨z4,H7,I7,r7,k3,e3,q7⟩=>?_))
   subst e3
   cases r7
   exact wpAny_truthy_bool ⟨H7,I7,q7⟩
end qO
def Zr(t t' t2:D2)(ta tb tc te:DTE):DTT:=fun ρ Q=>ta ρ fun a=>tb ρ fun b=>t a b fun z=>match z with
 | .bl k=>if k=true then tc ρ fun c=>t' b c fun z=>match z with
  | .bl k=>if k=true then te ρ fun e=>t2 c e fun z=>match z with
   |.bl k=>Q k
   |_=>False
   else Q false
  |_=>False
  else Q false
 |_=>False
section
variable{X:Cx}{a b c e:Expr}{ta tb tc te:DTE}{pos:Pos}
theorem Np{op op' op2:CmpOp}{r r' r2:R2}{t t' t2:D2}(ho:OpR X (compareOp op) r)(ho':OpR X (compareOp op') r')(ho2:OpR X (compareOp op2) r2)(S:Jb X.K r t)(S':Jb X.K r' t')(S2:Jb X.K r2 t2)(ha:DE X a ta)(hb:DE X b tb)(hc:DE X c tc)(he:DE X e te)
  (hm:lastMarks [op,op',op2] [b,c,e]=false:=by with_unfolding_all rfl):DT X (.Compare a [op,op',op2] [b,c,e] pos) (Zr t t' t2 ta tb tc te) where
 mono:=fun hq h=>ha.mono (fun _ h=>hb.mono (fun _ h=>S.mono (fun z h=>by
  split at h
  ·rename_i k
   cases k with
   | true =>
    refine hc.mono (fun _ h=>S'.mono (fun z h=>?_) h) h
    split at h
    ·rename_i k
     cases k with
     | true =>
      refine he.mono (fun _ h=>S2.mono (fun z h=>?_) h) h
      split at h
      ·exact hq _ h
      ·exact h.elim
     |false=>exact hq _ h
    ·exact h.elim
   |false=>exact hq _ h
  ·exact h.elim) h) h) h
 pt:=(Aa3 ho ho' ho2 ha.pe hb.pe hc.pe he.pe hm).imp fun σ H Q ⟨B,F,O,ρ,R,h⟩=>by
  refine⟨B,F,O,ρ,R,ha.mono (fun a h v H1 s1 r1=>⟨B,F,O,ρ,R.same s1,hb.mono (fun b h u H2 s2 r2=>?_) h⟩) h⟩
  refine S.ok _ H2 a b v u _ ((R.same s1).same s2).th (r1.mono s2.mask) r2 (S.mono (fun z h w H3 s3 r3=>?_) h)
  split at h
  ·rename_i k
   refine⟨k,Cz.mp r3,?_⟩
   have jX:=(s1.trans s2).trans s3
   cases k with
   |false=>exact h H3 jX
   | true =>
    refine⟨B,F,O,ρ,R.same jX,hc.mono (fun c h y H4 s4 r4=>?_) h⟩
    refine S'.ok _ H4 b c u y _ ((R.same jX).same s4).th ((r2.mono s3.mask).mono s4.mask) r4 (S'.mono (fun z h w H5 s5 r5=>?_) h)
    split at h
    ·rename_i k
     refine⟨k,Cz.mp r5,?_⟩
     have s5':=(jX.trans s4).trans s5
     cases k with
     |false=>exact h H5 s5'
     | true =>
      refine⟨B,F,O,ρ,R.same s5',he.mono (fun e h y2 H6 s6 r6=>?_) h⟩
      refine S2.ok _ H6 c e y y2 _ ((R.same s5').same s6).th ((r4.mono s5.mask).mono s6.mask) r6 (S2.mono (fun z h w H7 s7 r7=>?_) h)
      split at h
      ·exact⟨_,Cz.mp r7,h H7 ((s5'.trans s6).trans s7)⟩
      ·exact h.elim
    ·exact h.elim
  ·exact h.elim
end
end L2
namespace L2
open PySem Spec PyProof.Rows W
end L2
namespace L2
open PySem Spec PyProof.Rows
section
variable{X:Cx}{a b:Expr}{ta tb:DTE}{pos:Pos}
theorem Vt{K:W.Frag}{H:Hp}:∀{ns:List Int} {xs:List V},RpL K H (ns.map Dt.int) xs→xs=ns.map V.int
 | [],_,h=>by
  obtain rfl:=Bq.mp h
  rfl
 | n::ns,_,h=>by
  obtain⟨v,r,rfl,r2,r3⟩:=Aw.mp h
  rw[Bf]at r2
  subst r2
  rw[Vt r3]
  rfl
def dIn:D2:=fun a b Q=>∃(i:Int)(ns:List Int),a=.int i∧b=.lst (ns.map Dt.int)∧Q (.bl (decide (i∈ns)))
def Aj7(i:Nat)(te:DTE):DTS:=fun D ρ=>match ρ[i]? with
 | some (some (.is (.int a)))=>te ρ fun d=>match d with
  |.int b=>D.nx (ρ.set i (some (.is (.int (a+b)))))
  |_=>False
 |_=>False
def AlA(i j k:Nat)(ta:TA):TS:=fun D σ H=>ta σ H fun vs H1=>∃u v w,vs=[u,v,w]∧D.nx (((σ.set i (some u)).set j (some v)).set k (some w)) H1
theorem AgD{i j k:Nat}{x y z:Str}{a b c:Expr}{ta:TA}{px py pz pt:Pos}{kt k2 pt2}(hc:X.calm=true)(hN:X.N.Nodup)(hi:X.N[i]? = some x)(hj:X.N[j]? = some y)(hk:X.N[k]? = some z)(hij:i≠j)(hik:i≠k)(hjk:j≠k)
  (hx:X.env.scope.names.lookup x=some .local) (hy:X.env.scope.names.lookup y=some .local) (hz:X.env.scope.names.lookup z=some .local) (ha:PA X [a,b,c] ta)
  (hw:swappedStores [.Tuple [.Name x px,.Name y py,.Name z pz] kt pt] (.Tuple [a,b,c] k2 pt2) X.env=pure (some [x,y,z]))
  (hs:swapsWithSole [.Tuple [.Name x px,.Name y py,.Name z pz] kt pt] (.Tuple [a,b,c] k2 pt2) pos.line X.env=pure false:=by rfl) :
  PS X (.Assign [.Tuple [.Name x px,.Name y py,.Name z pz] kt pt] (.Tuple [a,b,c] k2 pt2) pos) (AlA i j k ta):=by
 intro pins s σ H D I h
 rw[exec_Assign_arm]
 refine wpAny_bind (wpAny_standAt ?_)
 rw[hs]
 refine wpAny_bind (wpAny_pure ?_)
 rw[if_neg ⋯]
 refine wpAny_bind (Tuple_ (thn (ha _ pins s σ H _ I h) fun us s1 ⟨vs,H1,I1,r1,q1⟩=>?_))
 obtain⟨u,v,w,e1,q1⟩:=q1
 subst e1
 obtain⟨u1,u2,u3,rfl,ru,rv,rw'⟩:∃u1 u2 u3,us=[u1,u2,u3]∧RelV u u1∧RelV v u2∧RelV w u3:=by
  cases r1 with
  | cons p q =>
   cases q with
   | cons p' q' =>
    cases q' with
    | cons p'' q'' =>
     cases q''
     exact⟨_,_,_,rfl,p,p',p''⟩
 refine wpAny_newObj_type ?_ (by show 3≤sizeLine;decide)
 have I2:Inv X pins σ H1 {s1 with heap:=s1.heap.push {cls:=.type "tuple",data:=.seq [u1,u2,u3].toArray} }:=I1.kept (t':=s1.toks) fun b o e=>Heap.get?_push_of_some _ e
 rw[hw]
 refine wpAny_bind (wpAny_pure ?_)
 show wpAny (model X.prog X.w) X.A (do rule "assign.swapped-stores";let items ←unpackItems (.ref s1.heap.objs.size) 3 none;assignInOrder [fun v=>bindName X.env z v,fun v=>bindName X.env y v,fun v=>bindName X.env x v] items.reverse;pure Flow.next) _ _ _
 refine wpAny_bind (wpAny_rule (wpAny_bind (unpackItems_tuple (items:=#[u1,u2,u3]) (I.ok.hd hc) (IsTup.new s1.heap _) fun h' hx'=>?_)))
 have I3:=I2.kept (h':=h') (t':=s1.toks) fun b o e=>hx' b o (Nat.ne_of_lt (Heap.lt_size e)) e
 show wpAny _ _ (assignInOrder [fun v=>bindName X.env z v,fun v=>bindName X.env y v,fun v=>bindName X.env x v] [u3,u2,u1] >>= fun _=>pure Flow.next) _ _ _
 refine wpAny_bind (assignInOrder_cons (wpAny_bindName (Ig I3 hN hk (.inl hz) rw' (fun s2 I4=>?_) (.inr hz))))
 refine assignInOrder_cons (wpAny_bindName (Ig I4 hN hj (.inl hy) rv (fun s3 I5=>?_) (.inr hy)))
 refine assignInOrder_cons (wpAny_bindName (Ig I5 hN hi (.inl hx) ru (fun s4 I6=>assignInOrder_nil (wpAny_pure ?_)) (.inr hx)))
 rw[List.set_comm (some w) (some v) (Ne.symm hjk),List.set_comm (some w) (some u) (Ne.symm hik),List.set_comm (some v) (some u) (Ne.symm hij)]at I6
 exact⟨_,H1,I6,q1⟩
def AhH(i j k:Nat)(tl:DTA):DTS:=fun D ρ=>tl ρ fun ds=>match ds with
 | [d,e,f]=>D.nx (((ρ.set i (some (.is d))).set j (some (.is e))).set k (some (.is f)))
 |_=>False
theorem Afj{a b c:Expr}{tl:DTA}{x y z:Str}{px py pz pt:Pos}{kt k2 pt2}(hc:X.calm=true)(hN:X.N.Nodup)(i j k:Nat)(ha:DA X [a,b,c] tl)(hi:X.N[i]? = some x:=by rfl)(hj:X.N[j]? = some y:=by rfl)(hk:X.N[k]? = some z:=by rfl)(hij:i≠j:=by decide)(hik:i≠k:=by decide)(hjk:j≠k:=by decide)
  (hx:X.env.scope.names.lookup x=some .local:=by rfl) (hy:X.env.scope.names.lookup y=some .local:=by rfl) (hz:X.env.scope.names.lookup z=some .local:=by rfl)
  (hw:swappedStores [.Tuple [.Name x px,.Name y py,.Name z pz] kt pt] (.Tuple [a,b,c] k2 pt2) X.env=pure (some [x,y,z]):=by rfl)
  (hs:swapsWithSole [.Tuple [.Name x px,.Name y py,.Name z pz] kt pt] (.Tuple [a,b,c] k2 pt2) pos.line X.env=pure false:=by rfl) :
  DS X (.Assign [.Tuple [.Name x px,.Name y py,.Name z pz] kt pt] (.Tuple [a,b,c] k2 pt2) pos) (AhH i j k tl) where
 mono:=fun hd h=>ha.mono (fun ds h=>by
  split at h
  ·exact hd.nx _ h
  ·exact h.elim) h
 ps:=(AgD hc hN hi hj hk hij hik hjk hx hy hz ha.pa hw hs).imp fun D σ H ⟨B,F,O,ρ,R,h⟩=>⟨B,F,O,ρ,R,ha.mono (fun ds q vs H1 s1 r1=>by
  split at q
  ·obtain⟨v,r,rfl,r2,r3⟩:=Aw.mp r1
   obtain⟨v',r',rfl,r4,r5⟩:=Aw.mp r3
   obtain⟨v2,r6,rfl,r7,r8⟩:=Aw.mp r5
   obtain rfl:=Bq.mp r8
   exact⟨v,v',v2,rfl,q O _ H1 ((((R.same s1).set i r2).set j r4).set k r7)⟩
  ·exact q.elim) h⟩
theorem TQ{ti:DTI}{g:DTG}{tb:DTS}{D:FN}{ρ:Bu}(h:ti ρ fun items=>AfC (fun _ R=>R items) g tb D ρ):AfC ti g tb D ρ:=h
end
open PySem.SeqAt
mutual
def Dt.noL:Nat→Dt→Bool
 |_,.non=>true
 |_,.bl _=>true
 |_,.int _=>true
 |_,.str _=>true
 |0,_=>false
 |n+1,.tup ds=>Dt.dM n ds
 |_,_=>false
def Dt.dM:Nat→List Dt→Bool
 |_,[]=>true
 |n,d::ds=>Dt.noL n d&&Dt.dM n ds
end
theorem U8{n:Nat}{d:Dt}{r:List Dt}:Dt.dM n (d::r)=(Dt.noL n d&&Dt.dM n r):=by rw[Dt.dM]
theorem YG{n:Nat}:Dt.dM n []=true:=by rw[Dt.dM]
theorem AhN{n:Nat}{i:Int}:Dt.noL n (.int i)=true:=by cases n<;>rw[Dt.noL]<;>simp
theorem Adm{n:Nat}{r:List Dt}:Dt.noL (n+1) (.tup r)=Dt.dM n r:=by rw[Dt.noL]
def Keep(M M':Hp):Prop:=∀b o,M b=some o→(∀xs,o≠.lst xs)→M' b=some o
mutual
theorem Aiz{K:W.Frag}{M M':Hp}(k:Keep M M'):∀(n:Nat)(d:Dt)(v:V),d.noL n=true→Rp K M d v→Rp K M' d v
 |_,.non,_,_,r=>by rw[J7]at r ⊢;exact r
 |_,.bl _,_,_,r=>by rw[Cz]at r ⊢;exact r
 |_,.int _,_,_,r=>by rw[Bf]at r ⊢;exact r
 |_,.str _,_,_,r=>by rw[Oh]at r ⊢;exact r
 |0,.tup _,_,h,_=>by simp[Dt.noL]at h
 | n+1,.tup ds,_,h,r=>by
  rw[Adm]at h
  obtain⟨a,xs,e,q,r⟩:=Cu.mp r
  refine Cu.mpr ⟨a,xs,e,?_,PB k n ds xs h r⟩
  rcases q with(q|⟨o,q⟩)|q
  ·exact .inl (.inl (k _ _ q fun _=>by simp))
  ·exact .inl (.inr ⟨o,k _ _ q fun _=>by simp⟩)
  ·exact .inr q
 |0,.lst _,_,h,_=>by simp[Dt.noL]at h
 |_+1,.lst _,_,h,_=>by simp[Dt.noL]at h
 |0,.fn _,_,h,_=>by simp[Dt.noL]at h
 |_+1,.fn _,_,h,_=>by simp[Dt.noL]at h
 |0,.exc _ _ _,_,h,_=>by simp[Dt.noL]at h
 |_+1,.exc _ _ _,_,h,_=>by simp[Dt.noL]at h
 |0,.obj _ _ _,_,h,_=>by simp[Dt.noL]at h
 |_+1,.obj _ _ _,_,h,_=>by simp[Dt.noL]at h
theorem PB{K:W.Frag}{M M':Hp}(k:Keep M M'):∀(n:Nat)(ds:List Dt)(vs:List V),Dt.dM n ds=true→RpL K M ds vs→RpL K M' ds vs
 |_,[],_,_,r=>by rw[Bq]at r ⊢;exact r
 | n,d::ds,_,h,r=>by
  rw[U8,Bool.and_eq_true]at h
  obtain⟨v,w,rfl,r1,r2⟩:=Aw.mp r
  exact Aw.mpr ⟨v,w,rfl,Aiz k n d v h.1 r1,PB k n ds w h.2 r2⟩
end
theorem RpL.qG{K:W.Frag}{H:Hp}:∀{ds:List Dt} {vs:List V} {d:Dt},RpL K H ds vs→d∈ds→∃v∈vs,Rp K H d v
 | [],_,_,_,h=>by simp at h
 | d::ds,_,e,r,h=>by
  obtain⟨v,w,rfl,r1,r2⟩:=Aw.mp r
  rcases List.mem_cons.mp h with h|h
  ·subst h;exact⟨v,List.mem_cons_self,r1⟩
  ·obtain⟨u,h1,h2⟩:=RpL.qG r2 h
   exact⟨u,List.mem_cons_of_mem _ h1,h2⟩
def Ac0:Option HO→Bool
 |some (.lst _)=>true
 |_=>false
theorem X6{o:Option HO}(h:Ac0 o=true):∃xs,o=some (.lst xs):=by
 unfold Ac0 at h
 split at h
 ·exact⟨_,rfl⟩
 ·cases h
def lists(H:Hp)(n:Nat):List Addr:=(List.range n).filter fun a=>Ac0 (H a)
theorem Abn{H:Hp}{n a:Nat}{xs:List V}(h:H a=some (.lst xs))(l:a<n):a∈lists H n:=List.mem_filter.mpr ⟨List.mem_range.mpr l,by rw[h];rfl⟩
theorem AcF{H:Hp}{n a:Nat}(h:a∈lists H n):∃xs,H a=some (.lst xs):=X6 (List.mem_filter.mp h).2
section
variable{X:Cx}{a b c e:Expr}{es:List Expr}{st:Stmt}{ta tb te:DTE}{tl:DTA}{tA:DTT}{t:DTS}{pos:Pos}
def Aib(i:Nat)(sp:DSp)(tl:DTA):DTS:=fun D ρ=>tl ρ fun ds=>Dt.dM 4 ds=true∧sp ds fun d=>∃ks,d=.lst ks∧(∃r,Dt.tup r∈ks)∧Dt.dM 4 ks=true∧D.nx (ρ.set i (some (.own ks)))
def AeQ(j:Nat)(t:DTT):DTT:=fun ρ Q=>ownAt ρ j fun ds=>t (ρ.set j (some (.is (.lst ds)))) Q
theorem U5(j:Nat)(h:DT X e tA):DT X e (AeQ j tA) where
 mono:=fun hq z=>z.mono fun ds z=>h.mono hq z
 pt:=h.pt.imp fun σ H Q ⟨B,F,O,ρ,R,z⟩=>by
  obtain⟨ds,e1,z⟩:=z.get
  obtain⟨O',R'⟩:=R.freeze e1
  exact⟨B,F,O',_,R',h.mono (fun b q H' s'=>q H' s') z⟩
def Aeh(j:Nat):DTE:=fun ρ Q=>ownAt ρ j fun ds=>Q (.lst ds)
theorem AdY(j:Nat){x:Str}{p px:Pos}(hm:X.mg "list"=none)(hN:X.N[j]? = some x:=by rfl)(hv:Vis X.env.scope x:=by first | exact Or.inl rfl | exact Or.inr (Or.inl rfl) | exact Or.inr (Or.inr rfl))(hd:(x==("__debug__":Str))=false:=by decide)
  (hcd:(x==("__classdict__":Str))=false:=by decide) (hg:Gl X "list":=by rfl) (hst:starEach [.Name x px] X.env=(false,eval (.Name x px) X.env)::starEach [] X.env:=by rfl) (hpl:(backTo pos (starEach [] X.env)).any (·.1)=false:=by rfl):DE X (.Call (.Name "list" p) [.Name x px] [] pos) (Aeh j) where
 mono:=fun hq h=>h.mono fun ds h=>hq _ h
 pe:=(Ol Nh hg hm rfl (Hs (Io hN hv hd hcd) Lr hst) (he:=hst) (hpl:=hpl)).imp fun σ H Q ⟨B,F,O,ρ,R,h⟩=>by
  obtain⟨ds,e1,h⟩:=h.get
  obtain⟨a,xs,h1,h2,h3,h4,h5⟩:=R.own j ds e1
  refine⟨_,h1,a,xs,rfl,.inl (SqL.of h4),fun l hl=>?_⟩
  have nl:l∉F++O:=fun z=>R.th l z hl
  exact h _ _ (Same.upd hl) (Ho ⟨l,xs,rfl,Gm nl,h5.mono (Same.upd hl).mask⟩)
end
end L2
namespace L2
open PySem Spec PyProof.Rows W Builtin Builtin.ObjectAttr
section
variable{prog:Program}{w:World}{A:Around}{E:Value→Shared→Prop}{s:Shared}{K:W.Frag}{C U x dx:Addr}{name:Str}{v:Value}
end
section
variable{X:Cx}{pins:List (Addr×Obj)}{σ:St}{H:Hp}{s:Shared}{h':Heap}{a dx C U f fI:Addr}
end
end L2
namespace L2
open PySem Spec PyProof.Rows SeqAt
abbrev Aix:=Bu→(List Dt→Prop)→(Dt→Prop)→Prop
section
variable{X:Cx}{e:Expr}{es:List Expr}{te:Qd}{tl:DTA}{tx:Aix}{pos:Pos}
def Ai4(te:Qd)(tl:DTA):Aix:=fun ρ Q E=>te ρ (fun d=>tl ρ fun ds=>Q (d::ds)) E
def Ai6(sp:DSp)(tx:Aix):Qd:=fun ρ Q E=>tx ρ (fun ds=>sp ds Q) E
end
section
variable{prog:Program}{w:World}{A:Around}{I S:Addr}{fp wr:List Addr}{n:Nat}{P:Nat→Value→Prop}{St:Nat→Heap→Prop}{bt:Nat→Nat→Bool}{R:Result→Shared→Prop}
def M5(wr:List Addr)(S:Addr)(h h':Heap):Prop:=∀b o,b∉wr→b≠S→h.get? b=some o→h'.get? b=some o
def Yu(prog:Program)(w:World)(A:Around)(wr:List Addr)(S:Addr)(h:Heap)(P:Nat→Value→Prop)(bt:Nat→Nat→Bool):Prop :=
 ∀(i j:Nat)(x y:Value)(s:Shared)(Q:Value→Shared→Prop)(E:Value→Shared→Prop),M5 wr S h s.heap→P i x→P j y→Q (.bool (bt i j)) s→wpAny (model prog w) A (richCompare .Lt x y) Q E s
theorem Zc:(toString "min"++toString ".loop":String)="min.loop":=⋯
theorem YL{h0:Heap}(W:Walks prog w A.in1 I fp wr n P St)(less:Yu prog w A.in1 wr S h0 P bt)(off:S∉fp) :
  ∀(left at':Nat)(s:Shared)(best:Value)(c:Nat),n=at'+1+left→St (at'+1) s.heap→P (argBest bt at') best→M5 wr S h0 s.heap →
   s.heap.get? S=some ⟨.type "list",none,.seq #[best,best] c,#[]⟩ →
   (∀v h' tk,P (argBest bt (n-1)) v→M5 wr S s.heap h'→R (.ok (.ret v)) {s with heap:=h',toks:=tk}) →
   codeAny (model prog w) A (.builtin "min.loop" ⟨[.ref I,.none,.ref S],[]⟩) R s:=by
 have off':S∉wr:=fun z=>off (W.sub _ z)
 have nm:=Zc
 intro left
 induction left with
 | zero =>
  intro at' s best c hn st hb hk hS fin
  have e:at'+1=n:=∅
  refine codeAny_builtin F.entry_min_loop ?_;rw[Around.under_plainId F.plain_min_loop _];show wpAny _ A.in1 (seqItems? (.ref S) >>= _) _ _ s
  refine wpAny_bind (wpAny_seqItems hS rfl ?_);show wpAny _ A.in1 (tryCatch (pyNext (.ref I)) _ >>= _) _ _ s
  refine wpAny_bind (wpAny_tryCatch (W.done s _ _ (e ▸ st) fun h1 tk k1=>?_))
  show wpAny _ A.in1 (updateSeq S (fun _=>#[]) >>= _) _ _ _;refine wpAny_bind (wpAny_updateSeq (k1 S _ off' hS) rfl (wpAny_bind (wpAny_letGo (wpAny_pure ?_))))
  exact fin best _ tk (by rw[←e];exact hb) fun b o nb ns eo=>(Heap.get?_update_other _ _ (Ne.symm ns)).trans (k1 b o nb eo)
 | succ left ih =>
  intro at' s best c hn st hb hk hS fin
  refine codeAny_builtin F.entry_min_loop ?_;rw[Around.under_plainId F.plain_min_loop _];show wpAny _ A.in1 (seqItems? (.ref S) >>= _) _ _ s
  refine wpAny_bind (wpAny_seqItems hS rfl ?_);show wpAny _ A.in1 (tryCatch (pyNext (.ref I)) _ >>= _) _ _ s
  refine wpAny_bind (wpAny_tryCatch (W.item (at'+1) s _ _ ∅ st fun v h1 tk hv st1 k1=>?_))
  have hS1:=k1 S _ off' hS
  have hk1:M5 wr S h0 h1:=fun b o nb ns eo=>k1 b o nb (hk b o nb ns eo)
  show wpAny _ A.in1 (tryCatch (holding [v,v] (richCompare .Lt v best >>= _)) _ >>= _) _ _ _
  refine wpAny_bind (wpAny_tryCatch (wpAny_holding (wpAny_bind (less (at'+1) (argBest bt at') v best _ _ _ hk1 hv hb ?_))))
  refine wpAny_bind (wpAny_holding (wpAny_truthy_bool ?_));refine wpAny_bind (wpAny_letGo (wpAny_pure ?_))
  cases hbt:bt (at'+1) (argBest bt at')with
  | true =>
   simp only[if_true]
   refine wpAny_bind (wpAny_updateSeq hS1 rfl (wpAny_bind (wpAny_letGo ?_)))
   rw[nm]
   refine wpAny_pure ⟨plainId_quiet F.plain_min_loop _,ih (at'+1) _ v _ ∅ (W.frame _ _ _ st1 fun b hbf o eo=>(Heap.get?_update_other _ _ (fun z:S=b=>off (z ▸ hbf))).trans eo) (by simp only[argBest,hbt,if_true];exact hv) (fun b o nb ns eo=>(Heap.get?_update_other _ _ (Ne.symm ns)).trans (hk1 b o nb ns eo)) (Heap.get?_update_self _ hS1 rfl) fun v' h2 tk2 hv' k2=>?_⟩
   exact fin v' h2 tk2 hv' fun b o nb ns eo=>k2 b o nb ns ((Heap.get?_update_other _ _ (Ne.symm ns)).trans (k1 b o nb eo))
  | false =>
   simp only[Bool.false_eq_true,if_false]
   refine wpAny_bind (wpAny_letGo ?_)
   rw[nm]
   refine wpAny_pure ⟨plainId_quiet F.plain_min_loop _,ih (at'+1) _ best c ∅ st1 (by simp only[argBest,hbt,Bool.false_eq_true,if_false];exact hb) hk1 hS1 fun v' h2 tk2 hv' k2=>?_⟩
   exact fin v' h2 tk2 hv' fun b o nb ns eo=>k2 b o nb ns (k1 b o nb eo)
theorem Wq{s:Shared}{c:Nat}(W:Walks prog w A.in1 I fp wr n P St)(less:Yu prog w A.in1 wr S s.heap P bt)(off:S∉fp)(n0:0<n)(st:St 0 s.heap)(hS:s.heap.get? S=some ⟨.type "list",none,.seq #[] c,#[]⟩)
  (fin:∀v h' tk,P (argBest bt (n-1)) v→M5 wr S s.heap h'→R (.ok (.ret v)) {s with heap:=h',toks:=tk}):codeAny (model prog w) A (.builtin "min.loop" ⟨[.ref I,.none,.ref S],[]⟩) R s:=by
 have off':S∉wr:=fun z=>off (W.sub _ z)
 refine codeAny_builtin F.entry_min_loop ?_;rw[Around.under_plainId F.plain_min_loop _];show wpAny _ A.in1 (seqItems? (.ref S) >>= _) _ _ s
 refine wpAny_bind (wpAny_seqItems hS rfl ?_);show wpAny _ A.in1 (tryCatch (pyNext (.ref I)) _ >>= _) _ _ s
 refine wpAny_bind (wpAny_tryCatch (W.item 0 s _ _ n0 st fun v h1 tk hv st1 k1=>?_))
 have hS1:=k1 S _ off' hS
 show wpAny _ A.in1 (updateSeq S (fun _=>#[v,v]) >>= _) _ _ _;refine wpAny_bind (wpAny_updateSeq hS1 rfl ?_);rw[Zc]
 refine wpAny_pure ⟨plainId_quiet F.plain_min_loop _,YL (h0:=s.heap) W less off (n-1) 0 _ v _ ∅ (W.frame _ _ _ st1 fun b hbf o eo=>(Heap.get?_update_other _ _ (fun z:S=b=>off (z ▸ hbf))).trans eo) hv (fun b o nb ns eo=>(Heap.get?_update_other _ _ (Ne.symm ns)).trans (k1 b o nb eo)) (Heap.get?_update_self _ hS1 rfl) fun v' h2 tk2 hv' k2=>?_⟩
 exact fin v' h2 tk2 hv' fun b o nb ns eo=>k2 b o nb ns ((Heap.get?_update_other _ _ (Ne.symm ns)).trans (k1 b o nb eo))
theorem Wc{E:Value→Shared→Prop}{s:Shared}{x:Value}{Q:Value→Shared→Prop}
  (h:wpAny (model prog w) A.in1 (pyIter x) (fun it s2=>∃I fp wr n P St bt,it=.ref I∧Walks prog w A.in1 I fp wr n P St∧St 0 s2.heap∧(∀b∈fp,b<s2.heap.objs.size)∧0<n ∧
   (∀h1:Heap,(∀b o,s2.heap.get? b=some o→h1.get? b=some o)→Yu prog w A.in1 wr s2.heap.objs.size h1 P bt) ∧
   ∀v h' tk,P (argBest bt (n-1)) v→(∀b o,b∉wr→s2.heap.get? b=some o→h'.get? b=some o)→Q v {s2 with heap:=h',toks:=tk}) E s) :
  wpAny (model prog w) A (call (.builtin "min") [x]) Q E s:=by
 refine call_function_tree F.kind_min F.plain_min F.entry_min (F.args_min1 _) ?_;show wpAny _ A.in1 (Builtin.Builtins.bindParams "min" ["key","default"] 0 ⟨[],[]⟩ >>= _) _ _ s
 refine wpAny_bind (wpAny_of_eq (show Builtin.Builtins.bindParams "min" ["key","default"] 0 ⟨[],[]⟩=pure [none,none]from rfl) ?_);refine wpAny_bind (wpAny_pure ?_)
 refine wpAny_bind (wpAny_mono h (fun it s2 h2=>?_) fun _ _ z=>z);obtain⟨I,fp,wr,n,P,St,bt,rfl,W,st,low,n0,less,fin⟩:=h2
 refine wpAny_bind (wpAny_newObj_type ?_);rw[Zc]
 have off:s2.heap.objs.size∉fp:=fun z=>Nat.lt_irrefl _ (low _ z)
 refine wpAny_pure ⟨plainId_quiet F.plain_min_loop _,Wq W (less _ fun b o e=>Heap.get?_push_of_some _ e) off n0 (W.frame _ _ _ st fun b _ o e=>Heap.get?_push_of_some _ e) (Heap.get?_push_size _ rfl) fun v h' tk hv k=>?_⟩
 exact fin v h' tk hv fun b o nb e=>k b o nb (Nat.ne_of_lt (Heap.lt_size e)) (Heap.get?_push_of_some _ e)
end
section
variable{X:Cx}
theorem Vals.at{xs:List V}{us:List Value}(r:Vals xs us):∀(i:Nat)(u:Value),us[i]? = some u→∃x,xs[i]? = some x∧RelV x u:=by
 induction r with
 |nil=>intro i u h;cases h
 | cons h t ih =>
  intro i u e
  cases i with
  |zero=>exact⟨_,rfl,by cases e;exact h⟩
  |succ i=>exact ih i u e
theorem RpL.at'{K:W.Frag}{H:Hp}:∀{ds:List Dt} {vs:List V} (i:Nat) (v:V),RpL K H ds vs→vs[i]? = some v→∃d,ds[i]? = some d∧Rp K H d v
 | [],vs,i,v,h,e=>by
  obtain rfl:=Bq.mp h
  cases e
 | d::ds,vs,i,v,h,e=>by
  obtain⟨v',r,rfl,r2,r3⟩:=Aw.mp h
  cases i with
  |zero=>exact⟨d,rfl,by cases e;exact r2⟩
  |succ i=>exact RpL.at' i v r3 e
theorem RpL.len'{K:W.Frag}{H:Hp}:∀{ds:List Dt} {vs:List V},RpL K H ds vs→vs.length=ds.length
 | [],vs,h=>by
  obtain rfl:=Bq.mp h
  rfl
 | d::ds,vs,h=>by
  obtain⟨v',r,rfl,r2,r3⟩:=Aw.mp h
  rw[List.length_cons,List.length_cons,RpL.len' r3]
abbrev Bc(ns:List Int):Dt:=.tup (ns.map Dt.int)
end
section
variable{X:Cx}
theorem AcY{h:Heap}{a:Addr}{i1 i2:Array Value}(t1:IsTup h a i1)(t2:IsTup h a i2):i1=i2:=by
 obtain⟨o,e1,_,n1,d1⟩:=t1
 obtain⟨o',e2,_,n2,d2⟩:=t2
 rw[e1]at e2
 cases e2
 rw[d1]at d2
 cases d2
 rfl
theorem AeX{K:W.Frag}{H:Hp}{a:Addr}{ns:List Int}(h:SqT K H a (ns.map V.int)):Rp K H (Bc ns) (.ref a):=Cu.mpr ⟨a,_,rfl,h,RpL.ints ns⟩
theorem Vn:∀(ns ms:List Int),Dt.eqs (ns.map Dt.int) (ms.map Dt.int)=decide (ns=ms)
 | [],[]=>by simp[Dt.eqs]
 | [],m::ms=>by simp[Dt.eqs]
 |n::ns,[]=>by simp[Dt.eqs]
 | n::ns,m::ms=>by
  rw[List.map_cons,List.map_cons,Dt.eqs,Vn ns ms,S8,←Bool.decide_and]
  exact decide_eq_decide.mpr (by simp)
theorem Rq:∀(ns:List Int),Dt.flats 7 (ns.map Dt.int)=true
 | []=>rfl
 |n::ns=>by rw[List.map_cons,Dt.flats,Rq ns];rfl
theorem Vw{K:W.Frag}{H:Hp}{nss:List (List Int)}{vs:List V}(h:RpL K H (nss.map Bc) vs):vs.length=nss.length∧∀(i:Nat)(v:V),vs[i]? = some v→∃a,v=.ref a∧SqT K H a ((nss.getD i []).map V.int):=by
 refine⟨by rw[RpL.len' h,List.length_map],fun i v e=>?_⟩
 obtain⟨d,e1,r⟩:=RpL.at' i v h e
 rw[List.getElem?_map]at e1
 cases q:nss[i]? with
 |none=>rw[q]at e1;cases e1
 | some ns =>
  rw[q]at e1
  cases e1
  have:nss.getD i []=ns:=by simp[List.getD,q]
  rw[this]
  obtain⟨a,ys,rfl,ht,hy⟩:=Cu.mp r
  obtain rfl:=Vt hy
  exact⟨a,rfl,ht⟩
theorem Al0{A:Around}(h:A.units+64<cLine):A.in1.units+8<cLine:=by show A.units+1+8<cLine;omega
end
section
variable{X:Cx}{a b c e o:Expr}{es:List Expr}{ta tb te:DTE}{tl:DTA}{pos apos:Pos}
def AhK(K:W.Frag)(te:DTE)(f:Str):DTE:=fun ρ Q=>te ρ fun d=>match d with
 |.obj c ns ds=>Pg K c f∧∃v,(ns.zip ds).lookup f=some v∧Q v
 |_=>False
theorem PL{f:Str}(h:DE X e te)(hb:attributeBase e f X.env (eval e X.env)=eval e X.env:=by rfl):DE X (.Attribute e f pos) (AhK X.K te f) where
 mono:=fun hq z=>h.mono (fun d z=>by
  split at z
  ·exact let ⟨a,v,b,c⟩:=z;⟨a,v,b,hq _ c⟩
  ·exact z.elim) z
 pe:=(Ajb h.pe hb).imp fun σ H Q ⟨B,F,O,ρ,R,z⟩=>⟨B,F,O,ρ,R,h.mono (fun d z v H1 s1 r1=>by
  split at z
  ·obtain⟨na,y,ly,q⟩:=z
   obtain⟨a,C,dx,vs,rfl,h1,cl,h2,_,h5⟩:=Qy.mp r1
   obtain⟨v,lv,rv⟩:=zip_get h5 ly
   exact⟨a,C,dx,_,v,rfl,Bh _ _ h2,cl,na C h1,lv,q v H1 s1 rv⟩
  ·exact z.elim) z⟩
structure IsC(K:W.Frag)(c:Str):Prop where
 ha:∀C,W.nsIn K mainGlobals c=some (some (.ref C))→W.findIn K (.ref C) "__class__"=some (some (.builtin "object.__class__"))
 hn:W.specialIn K (.builtin "object.__class__") "__get__"=some (some (.builtin "getset_descriptor.__get__"))
 ht:W.takesIn K (.builtin "object.__class__")=some true
 hm:∀C,W.nsIn K mainGlobals c=some (some (.ref C))→W.mroIn K C (.type "object")=some true
def Anh(K:W.Frag):DL:=fun ds Q=>match ds with
 | [.obj c _ _,.fn A]=>∃v,IsC K c∧Ame K c A v∧Q (.bl v)
 |_=>False
def Z6(K:W.Frag)(c m:Str)(g:Addr):Prop:=∀C,W.nsIn K mainGlobals c=some (some (.ref C))→Meth K C m g
def YS(K:W.Frag)(m:Str)(g:Addr)(sp:Sp)(ta:TE)(t:TA):TE:=fun σ H Q=>ta σ H fun x H1=>∃a C dx fs,x=.ref a∧H1 a=some (.ins C dx fs)∧Cls K C∧Meth K C m g∧fs.lookup m=none∧t σ H1 fun vs H2=>sp (x::vs) H2 Q E0
theorem AjM{pl:Sem Bool}{k:Nat}{m:Str}{g:Addr}{fd:FuncData}{ps:List Str}{sp:Sp}{ta:TE}(he:PE X o ta)(F:HJ X.prog X.w X.K X.mg X.base CX0 k g fd ps sp)(hr:El k X.A)(hb:Binds X.K fd ps [])
  (ht:eval (.Call (.Attribute o m apos) [] [] pos) X.env=(do
   let ov ←eval o X.env
   standAt apos.atName
   let (f,first) ←holding [ov] (getMethod ov m pl)
   callWith pos f first (backTo pos (starEach [] X.env)) (backToKw pos (keywordEach [] X.env))):=by rfl) :
  PE X (.Call (.Attribute o m apos) [] [] pos) (YS X.K m g sp ta Akf):=by
 intro pins s σ H Q I h
 refine W.methodCall_KW (pl:=pl) (thn (he pins s σ H _ I h) fun u s1 ⟨x,H1,I1,rx,a,C,dx,fs,ex,ea,c,hm,l,q⟩=>?_) ht
 subst ex
 obtain rfl:u=Value.ref a:=rx
 refine Ry I1 ea c hm l ?_
 exact W.callWith_K0 (first:=[.ref a]) I1.kIn hm.kp (Ve (us:=[.ref a]) (vs:=[.ref a]) F hr hb .nil Ua I1 (.cons rfl .nil) q)
theorem Ade{pl:Sem Bool}{k:Nat}{m:Str}{g:Addr}{fd:FuncData}{ps:List Str}{sp:Sp}{ta:TE}{t:TA}(he:PE X o ta)(F:HJ X.prog X.w X.K X.mg X.base CX0 k g fd ps sp)(hr:El k X.A)(hb:Binds X.K fd ps [])(ha:PA X (e::es) t)
  (kp:W.keepIn X.K (.ref g)=true) (hst:starEach (e::es) X.env=(false,eval e X.env)::starEach es X.env:=by rfl) (hpl:(backTo pos (starEach es X.env)).any (·.1)=false:=by rfl)
  (ht:eval (.Call (.Attribute o m apos) (e::es) [] pos) X.env=(do
   let ov ←eval o X.env
   standAt apos.atName
   let (f,first) ←holding [ov] (getMethod ov m pl)
   callWith pos f first (backTo pos (starEach (e::es) X.env)) (backToKw pos (keywordEach [] X.env))):=by rfl) :
  PE X (.Call (.Attribute o m apos) (e::es) [] pos) (YS X.K m g sp ta t):=by
 intro pins s σ H Q I h
 refine W.methodCall_KW (pl:=pl) (thn (he pins s σ H _ I h) fun u s1 ⟨x,H1,I1,rx,a,C,dx,fs,ex,ea,c,hm,l,q⟩=>?_) ht
 subst ex
 obtain rfl:u=Value.ref a:=rx
 refine Ry I1 ea c hm l ?_
 refine W.callWith_K (first:=[.ref a]) (h₀:=X.base) I.ok.mod.kin hm.kp (thn (ha pos pins s1 σ H1 _ I1 q) fun us s2 ⟨vs,H2,I2,r,q2⟩=>⟨I2.kIn,?_⟩) hst hpl
 exact Ve (us:=.ref a::us) (vs:=.ref a::vs) F hr hb .nil Ua I2 (.cons rfl r) (by simpa using q2)
def Qq(K:W.Frag)(m:Str)(g:Addr)(sp:DSp)(te:DTE)(tl:DTA):DTE:=fun ρ Q=>te ρ fun d=>match d with
 |.obj c ns ds=>Z6 K c m g∧m∉ns∧tl ρ fun es=>sp (.obj c ns ds::es) Q
 |_=>False
theorem WW{f:Str}:∀{ns:List Str} {vs:List V},f∉ns→(ns.zip vs).lookup f=none
 | [],_,_=>by simp
 |_::_,[],_=>by simp
 | n::ns,v::vs,h=>by
  have hb:(f==n)=false:=beq_eq_false_iff_ne.mpr fun e=>h (by rw[e];exact List.mem_cons_self)
  rw[List.zip_cons_cons]
  simp only[List.lookup,hb]
  exact WW fun z=>h (List.mem_cons_of_mem _ z)
theorem AdI{m:Str}{g:Addr}{sp:DSp}(M:HX sp)(h:DE X o te)(ha:DA X es tl)(σ:St)(H:Hp)(Q:VK)(z:lE X.K (Qq X.K m g sp te tl) σ H Q):YS X.K m g (lSp X.K sp) (lE X.K te) (lA X.K tl) σ H Q:=by
 obtain⟨B,F,O,ρ,R,z⟩:=z
 refine⟨B,F,O,ρ,R,h.mono (fun d z v H1 s1 r1=>?_) z⟩
 split at z
 ·obtain⟨mo,nm,z⟩:=z
  obtain⟨a,C,dx,vs,e0,h1,cl,h2,_,h5⟩:=Qy.mp r1
  subst e0
  refine⟨a,C,dx,_,rfl,Bh _ _ h2,cl,mo C h1,WW nm,B,F,O,ρ,R.same s1,ha.mono (fun es z ws H2 s2 r2=>?_) z⟩
  exact⟨F++O,_,((R.same s1).same s2).th,RpL.cons (r1.mono s2.mask) r2,M _ _ _ (fun d q w H3 s3 r3=>q w H3 ((s1.trans s2).trans s3) r3) z⟩
 ·exact z.elim
theorem AbE{m:Str}{g:Addr}{sp:DSp}(M:HX sp)(h:DE X o te)(ha:DA X es tl){ρ:Bu}{Q Q':Dt→Prop}(hq:∀d,Q d→Q' d)(z:Qq X.K m g sp te tl ρ Q):Qq X.K m g sp te tl ρ Q':=h.mono (fun d z=>by
 split at z
 ·exact⟨z.1,z.2.1,ha.mono (fun es z=>M _ _ _ hq z) z.2.2⟩
 ·exact z.elim) z
theorem AfY{pl:Sem Bool}{k:Nat}{m:Str}{g:Addr}{fd:FuncData}{ps:List Str}{sp:DSp}(M:HX sp)(F:HJ X.prog X.w X.K X.mg X.base CX0 k g fd ps (lSp X.K sp))(hb:Binds X.K fd ps [])(kp:W.keepIn X.K (.ref g)=true)(hr:El k X.A)(h:DE X o te)(ha:DA X (e::es) tl)
  (hst:starEach (e::es) X.env=(false,eval e X.env)::starEach es X.env:=by rfl) (hpl:(backTo pos (starEach es X.env)).any (·.1)=false:=by rfl)
  (ht:eval (.Call (.Attribute o m apos) (e::es) [] pos) X.env=(do
   let ov ←eval o X.env
   standAt apos.atName
   let (f,first) ←holding [ov] (getMethod ov m pl)
   callWith pos f first (backTo pos (starEach (e::es) X.env)) (backToKw pos (keywordEach [] X.env))):=by rfl):DE X (.Call (.Attribute o m apos) (e::es) [] pos) (Qq X.K m g sp te tl) where
 mono:=AbE (X:=X) M h ha
 pe:=(Ade h.pe F hr hb ha.pa kp hst hpl ht).imp fun σ H Q z=>AdI M h ha σ H Q z
abbrev DIn:=List Dt→(List Dt→Prop)→Prop
def Acu(K:W.Frag)(ns:List Str)(sp:DIn):Sp:=fun vs H Q _=>∃x C dx ys F ds,vs=.ref x::ys∧H x=some (.ins C dx [])∧Cls K C∧(∀f∈ns,Iz K C f)∧x∈F∧(∀a∈F,H a≠none)∧RpL K (mask F H) ds ys ∧
 sp ds fun fds=>∀ws H',Same (mask [x] H) H'→H' x=some (.ins C dx (ns.zip ws))→ns.length=fds.length→RpL K (mask F H') fds ws→Q .non H'
def U7(sp:DIn):Prop:=∀ds Q Q',(∀d,Q d→Q' d)→sp ds Q→sp ds Q'
structure MkC(K:W.Frag)(mg:Str→Option Value)(c:Str)(ns:List Str)(C f:Addr):Prop where
 mm:Mk K C f
 at_:W.nsIn K mainGlobals c=some (some (.ref C))
 gl:mg c=some (.ref C)
 cl:Cls K C
 no:∀f∈ns,Iz K C f
def Adz(c:Str)(ns:List Str)(sp:DIn)(tl:DTA):DTE:=fun ρ Q=>tl ρ fun ds=>sp ds fun fds=>Q (.obj c ns fds)
theorem Ahl{k:Nat}{c:Str}{ns ps:List Str}{C f:Addr}{fd:FuncData}{sp:DIn}{p:Pos}(m:U7 sp)(M:MkC X.K X.mg c ns C f)(G:HJ X.prog X.w X.K X.mg X.base CX0 k f fd ps (Acu X.K ns sp))(hb:Binds X.K fd ps [])(hr:El (k+1) X.A)(hg:Gl X c)(ha:DA X (e::es) tl)
  (hdb:(c==("__debug__":Str))=false:=by decide) (he:starEach (e::es) X.env=(false,eval e X.env)::starEach es X.env:=by rfl) (hpl:(backTo pos (starEach es X.env)).any (·.1)=false:=by rfl):DE X (.Call (.Name c p) (e::es) [] pos) (Adz c ns sp tl) where
 mono:=fun hq z=>ha.mono (fun ds z=>m _ _ _ (fun fds q=>hq _ q) z) z
 pe:=(Ag7 M.mm G hr hg M.gl hb .nil Ua ha.pa hdb he hpl).imp fun σ H Q ⟨B,F,O,ρ,R,z⟩=>⟨B,F,O,ρ,R,ha.mono (fun ds z vs H1 s1 r1 x dx nx ndx ne=>by
  have R1:=R.same s1
  have ox:x∉F++O:=fun w=>R1.th x w nx
  have s2:Same H1 (upd (upd H1 dx (.own x)) x (.ins C dx [])):=fun b o q=>by rw[Bo (Dq q nx),Bo (Dq q ndx)];exact q
  refine⟨x,C,dx,vs,x::(F++O),ds,by rw[List.append_nil],Ce,M.cl,M.no,List.mem_cons_self,fun b hb'=>?_,?_,m _ _ _ (fun fds q ws H' s' h1 h2 h3=>⟨rfl,?_⟩) z⟩
  ·rcases List.mem_cons.mp hb' with e|w
   ·rw[e,Ce];simp
   ·intro q
    cases e:H1 b with
    |none=>exact R1.th b w e
    |some u=>rw[s2 _ _ e]at q;cases q
  ·refine r1.mono fun b o q=>?_
   obtain⟨n1,q⟩:=Ck q
   rw[Az fun w=>(List.mem_cons.mp w).elim (fun e=>by rw[e,nx]at q;cases q) n1]
   exact s2 _ _ q
  ·have s3:Same H1 H':=fun b o q=>s' b o (by rw[Az fun w=>by rw[List.mem_singleton.mp w,nx]at q;cases q];exact s2 _ _ q)
   refine q (.ref x) H' (s1.trans s3) (Qy.mpr ⟨x,C,dx,ws,rfl,M.at_,M.cl,by rw[Az ox];exact h1,h2,h3.mono (Ei fun b hb'=>List.mem_cons_of_mem _ hb')⟩)) z⟩
end
section
variable{K:W.Frag}{B:Hp}{F O:List Addr}{H:Hp}{σ:St}{ρ:Bu}{x:Addr}
theorem Rep.qP(r:Rep K B F O H σ ρ)(hx:x∈F)(hB:B x=none)(o:HO):Rep K B F O (upd H x o) σ ρ:=by
 have em:mask (F++O) (upd H x o)=mask (F++O) H:=Lq (List.mem_append_left _ hx)
 refine⟨r.len,fun b u e=>?_,r.fr,fun b hb e=>?_,fun j d q=>?_,fun j ks q=>?_,r.inj,fun j ks q=>?_,r.iw,r.raw⟩
 ·rw[Bo fun z=>by rw[z,hB]at e;cases e];exact r.base b u e
 ·by_cases z:b=x
  ·rw[z,Ce]at e;cases e
  ·rw[Bo z]at e;exact r.th b hb e
 ·rw[em];exact r.is j d q
 ·obtain⟨b,zs,e1,e2,e3,e4,e5⟩:=r.own j ks q
  exact⟨b,zs,e1,e2,e3,by rw[Bo fun z=>e3 (by rw[z];exact hx)];exact e4,by rw[em];exact e5⟩
 ·obtain⟨b,zs,e1,e2,e3,e4,e5⟩:=r.tab j ks q
  exact⟨b,zs,e1,e2,e3,by rw[Bo fun z=>e3 (by rw[z];exact hx)];exact e4,by rw[em];exact e5⟩
def Jx(N:List Str)(ds:List Dt):Bu:=none::(ds.map (fun d=>some (.is d))++List.replicate (N.length-(ds.length+1)) none)
theorem Lw{N:List Str}{ds:List Dt}{ys:List V}(hx:x∈F)(hF:∀a∈F,H a≠none)(r:RpL K (mask F H) ds ys):Rep K (mask [x] H) F [] H (start N (.ref x::ys)) (Jx N ds):=by
 have hl:=r.len
 have get:∀(i:Nat)(e:En),(Jx N ds)[i]? = some (some e)→∃j d,i=j+1∧ds[j]? = some d∧e=.is d:=fun i e q=>by
  cases i with
  |zero=>cases q
  | succ j =>
   have q:(ds.map (fun d=>some (En.is d))++List.replicate (N.length-(ds.length+1)) none)[j]? = some (some e):=q
   by_cases hi:j<ds.length
   ·rw[List.getElem?_append_left (by simpa using hi),List.getElem?_map]at q
    cases w:ds[j]? with
    |none=>rw[w]at q;cases q
    |some d=>rw[w]at q;cases q;exact⟨j,d,rfl,w,rfl⟩
   ·rw[List.getElem?_append_right (by simpa using hi),List.getElem?_replicate]at q
    split at q<;>cases q
 refine⟨?_,Bh,fun a h=>(nomatch h),fun a h=>hF a (by simpa using h),fun i d e=>?_,fun i es e=>?_,fun i j es es' a h1=>?_,fun i es e=>?_,fun i j es es' a h1=>?_,fun i v e=>?_⟩
 ·unfold start Jx;simp[hl]
 ·obtain⟨j,d',rfl,e1,e2⟩:=get i _ e
  cases e2
  obtain⟨v,w1,w2⟩:=r.get e1
  have hj:j<ys.length:=by rw[hl];exact(List.getElem?_eq_some_iff.mp e1).1
  refine⟨v,?_,by rw[List.append_nil];exact w2⟩
  unfold start
  rw[List.getElem?_append_left (by simp;omega),List.getElem?_map,List.getElem?_cons_succ,w1];rfl
 ·obtain⟨_,_,_,_,z⟩:=get i _ e;cases z
 ·obtain⟨_,_,_,_,z⟩:=get i _ h1;cases z
 ·obtain⟨_,_,_,_,z⟩:=get i _ e;cases z
 ·obtain⟨_,_,_,_,z⟩:=get i _ h1;cases z
 ·obtain⟨_,_,_,_,z⟩:=get i _ e;cases z
end
section
variable{X:Cx}{e e1 e2 e3:Expr}{es:List Expr}{te1 te2 te3:DTE}{tl:DTA}{pos apos:Pos}
def Alj(K:W.Frag)(f1 f2 f3:Str)(te1 te2 te3:DTE):TS:=fun D σ H=>∃B F ρ x C dx,∃S:List Dt→Prop,Rep K B F [] H σ ρ∧x∈F∧B x=none∧σ[0]? = some (some (.ref x))∧H x=some (.ins C dx [])∧Cls K C∧(∀f∈[f1,f2,f3],Iz K C f) ∧
 (te1 ρ fun d1=>te2 ρ fun d2=>te3 ρ fun d3=>S [d1,d2,d3])∧∀fds,S fds→∀ws H',Same B H'→H' x=some (.ins C dx ([f1,f2,f3].zip ws))→[f1,f2,f3].length=fds.length→RpL K (mask F H') fds ws→D.nx σ H'
theorem AdA{f1 f2 f3:Str}{y:Str}{q1 q2 q3 p1 p2 p3 s1 s2 s3:Pos}(h1:DE X e1 te1)(h2:DE X e2 te2)(h3:DE X e3 te3)(n12:f1≠f2)(n13:f1≠f3)(n23:f2≠f3)(hN:X.N[0]? = some y:=by rfl)(hv:Vis X.env.scope y:=by first | exact Or.inl rfl | exact Or.inr (Or.inl rfl) | exact Or.inr (Or.inr rfl))
  (hd:(y==("__debug__":Str))=false:=by decide) (hcd:(y==("__classdict__":Str))=false:=by decide)
  (w1:swapsWith e1 (some (.Attribute (.Name y q1) f1 p1)) s1.line X.env=pure false:=by rfl) (w2:swapsWith e2 (some (.Attribute (.Name y q2) f2 p2)) s2.line X.env=pure false:=by rfl) (w3:swapsWith e3 (some (.Attribute (.Name y q3) f3 p3)) s3.line X.env=pure false:=by rfl) :
  PSs X [.Assign [.Attribute (.Name y q1) f1 p1] e1 s1,.Assign [.Attribute (.Name y q2) f2 p2] e2 s2,.Assign [.Attribute (.Name y q3) f3 p3] e3 s3] (Alj X.K f1 f2 f3 te1 te2 te3) :=
 (Ru (X8 (Io hN hv hd hcd) h1.pe w1) (Ru (X8 (Io hN hv hd hcd) h2.pe w2) (U4 (X8 (Io hN hv hd hcd) h3.pe w3)))).imp fun D σ H ⟨B,F,ρ,x,C,dx,S,R,xF,Bx,σ0,Hx,cl,no,z,fin⟩=>by
  have em:∀(H:Hp)(o:HO),mask (F++[]) (upd H x o)=mask (F++[]) H:=fun H o=>Lq (List.mem_append_left _ xF)
  refine⟨B,F,[],ρ,R,h1.mono (fun d1 z y1 H1 t1 r1=>?_) z⟩
  refine⟨.ref x,σ0,x,C,dx,[],rfl,t1 _ _ Hx,cl,no f1 (by simp),⋯,?_⟩
  have R1:=(R.same t1).qP xF Bx (.ins C dx (HW f1 y1 []))
  refine⟨B,F,[],ρ,R1,h2.mono (fun d2 z y2 H2 t2 r2=>?_) z⟩
  refine⟨.ref x,σ0,x,C,dx,[(f1,y1)],rfl,t2 _ _ Ce,cl,no f2 (by simp),by show 1<1000;decide,?_⟩
  have R2:=(R1.same t2).qP xF Bx (.ins C dx (HW f2 y2 [(f1,y1)]))
  refine⟨B,F,[],ρ,R2,h3.mono (fun d3 z y3 H3 t3 r3=>?_) z⟩
  have ep2:HW f2 y2 [(f1,y1)]=[(f1,y1),(f2,y2)]:=by simp[HW,n12]
  have ep3:HW f3 y3 [(f1,y1),(f2,y2)]=[(f1,y1),(f2,y2),(f3,y3)]:=by simp[HW,n13,n23]
  rw[ep2]at t3 R2
  refine⟨.ref x,σ0,x,C,dx,[(f1,y1),(f2,y2)],rfl,t3 _ _ Ce,cl,no f3 (by simp),by show 2<1000;decide,?_⟩
  have R3:=(R2.same t3).qP xF Bx (.ins C dx (HW f3 y3 [(f1,y1),(f2,y2)]))
  rw[ep3]at R3 ⊢
  rw[List.append_nil]at r1 r2 r3 em
  refine fin _ z [y1,y2,y3] _ R3.base Ce rfl ?_
  rw[em]
  have m12:Same (mask F H1) (mask F H2):=fun b o q=>t2.mask b o (by rw[em];exact q)
  have m23:Same (mask F H2) (mask F H3):=fun b o q=>t3.mask b o (by rw[em];exact q)
  exact RpL.cons ((r1.mono m12).mono m23) (RpL.cons (r2.mono m23) (RpL.cons r3 RpL.nil))
structure Z8(K:W.Frag)(mg:Str→Option Value)(c m:Str)(g:Addr):Prop where
 ex:∃CS,mg c=some (.ref CS)∧W.specialIn K (.ref CS) "__getattribute__"=some (some (.builtin "type.__getattribute__"))∧W.readsIn K CS (.type "type")=true∧W.findCls K (.ref CS) (.type "type") m=some (.val (.ref g))
 kp:W.keepIn K (.ref g)=true
theorem AdM{pl:Sem Bool}{k:Nat}{c m:Str}{g:Addr}{fd:FuncData}{ps:List Str}{sp:Sp}{t:TA}{p:Pos}(M:Z8 X.K X.mg c m g)(hg:Gl X c)(F:HJ X.prog X.w X.K X.mg X.base CX0 k g fd ps sp)(hr:El k X.A)(hb:Binds X.K fd ps [])(ha:PA X (e::es) t)
  (hdb:(c==("__debug__":Str))=false:=by decide) (hst:starEach (e::es) X.env=(false,eval e X.env)::starEach es X.env:=by rfl) (hpl:(backTo pos (starEach es X.env)).any (·.1)=false:=by rfl)
  (ht:eval (.Call (.Attribute (.Name c p) m apos) (e::es) [] pos) X.env=(do
   let ov ←eval (.Name c p) X.env
   standAt apos.atName
   let (f,first) ←holding [ov] (getMethod ov m pl)
   callWith pos f first (backTo pos (starEach (e::es) X.env)) (backToKw pos (keywordEach [] X.env))):=by rfl) :
  PE X (.Call (.Attribute (.Name c p) m apos) (e::es) [] pos) (Ahr sp [] E0 t):=by
 intro pins s σ H Q I h
 obtain⟨CS,hm,hs,hr',hf⟩:=M.ex
 have q0:=(AaH (v:=.ref CS) (pos:=p) hg hm rfl hdb:PE X (.Name c p) (tC (.ref CS))) pins s σ H (fun v H1=>v=.ref CS∧H1=H) I ⟨rfl,rfl⟩
 refine W.methodCall_KW (pl:=pl) (thn q0 fun u s1 ⟨x,H1,I1,rx,ex,eH⟩=>?_) ht
 subst ex
 subst eH
 obtain rfl:u=Value.ref CS:=rx
 refine W.method_cls I1.kIn hs (W.cls_value I1.kIn hr' hf rfl ?_)
 refine W.callWith_K (first:=[]) (h₀:=X.base) I.ok.mod.kin M.kp (thn (ha pos pins _ σ H1 _ (I1.tok _) h) fun us s2 ⟨vs,H2,I2,r,q2⟩=>⟨I2.kIn,?_⟩) hst hpl
 exact Ve F hr hb .nil Ua I2 r q2
def AlL(K:W.Frag)(ns:List Str)(sp:DIn)(tl:DTA):TS:=fun D σ H=>∃B F ρ x C dx,∃S:List Dt→Prop,Rep K B F [] H σ ρ∧x∈F∧B x=none∧σ[0]? = some (some (.ref x))∧H x=some (.ins C dx [])∧Cls K C∧(∀f∈ns,Iz K C f) ∧
 (tl ρ fun ds=>sp ds S)∧∀fds,S fds→∀ws H',Same B H'→H' x=some (.ins C dx (ns.zip ws))→ns.length=fds.length→RpL K (mask F H') fds ws→D.nx σ H'
theorem Xn{pl:Sem Bool}{k:Nat}{c y:Str}{g:Addr}{fd:FuncData}{ps ns:List Str}{sp:DIn}{p q ap cp:Pos}(m:U7 sp)(M:Z8 X.K X.mg c "__init__" g)(hg:Gl X c)(G:HJ X.prog X.w X.K X.mg X.base CX0 k g fd ps (Acu X.K ns sp))(hb:Binds X.K fd ps [])(hr:El k X.A)(ha:DA X es tl)(hN:X.N[0]? = some y:=by rfl)
  (hv:Vis X.env.scope y:=by first|exact Or.inl rfl|exact Or.inr (Or.inl rfl)|exact Or.inr (Or.inr rfl)) (hd:(y==("__debug__":Str))=false:=by decide) (hcd:(y==("__classdict__":Str))=false:=by decide) (hdb:(c==("__debug__":Str))=false:=by decide)
  (hst:starEach (.Name y q::es) X.env=(false,eval (.Name y q) X.env)::starEach es X.env:=by rfl) (hpl:(backTo cp (starEach es X.env)).any (·.1)=false:=by rfl)
  (ht:eval (.Call (.Attribute (.Name c p) "__init__" ap) (.Name y q::es) [] cp) X.env=(do
   let ov ←eval (.Name c p) X.env
   standAt ap.atName
   let (f,first) ←holding [ov] (getMethod ov "__init__" pl)
   callWith cp f first (backTo cp (starEach (.Name y q::es) X.env)) (backToKw cp (keywordEach [] X.env))):=by rfl)
  (hs:swapsWith (.Call (.Attribute (.Name c p) "__init__" ap) (.Name y q::es) [] cp) none pos.line X.env=pure false:=by rfl) :
  PSs X [.Expr (.Call (.Attribute (.Name c p) "__init__" ap) (.Name y q::es) [] cp) pos] (AlL X.K ns sp tl) :=
 (U4 (M8 (AdM M hg G hr hb (Hs (Io hN hv hd hcd) ha.pa hst) hdb hst hpl ht) hs)).imp fun D σ H ⟨B,F,ρ,x,C,dx,S,R,xF,Bx,σ0,Hx,cl,no,z,fin⟩=>by
  refine⟨.ref x,σ0,B,F,[],ρ,R,ha.mono (fun ds z vs H1 s1 r1=>?_) z⟩
  show Acu X.K ns sp ((.ref x::vs)++[]) H1 _ E0
  rw[List.append_nil]
  have R1:=R.same s1
  rw[List.append_nil]at r1
  refine⟨x,C,dx,vs,F,ds,rfl,s1 _ _ Hx,cl,no,xF,fun a h=>R1.th a (List.mem_append_left _ h),r1,m _ _ _ (fun fds w ws H' s' h1 h2 h3=>fin fds w ws H' (fun b o e=>s' b o ?_) h1 h2 h3) z⟩
  rw[Az fun w=>by rw[List.mem_singleton.mp w,Bx]at e;cases e]
  exact R1.base b o e
end
def Ub{τ:Type}(args:τ→List Dt)(pre:τ→Prop)(post:τ→List Dt→Prop):DIn:=fun ds R=>∃p,ds=args p∧pre p∧∀fds,post p fds→R fds
theorem Jl{τ:Type}{args:τ→List Dt}{pre:τ→Prop}{post:τ→List Dt→Prop}:U7 (Ub args pre post):=fun _ _ _ hq ⟨p,e,h,q⟩=>⟨p,e,h,fun d z=>hq _ (q d z)⟩
theorem M7{τ:Type}{args:τ→List Dt}{pre:τ→Prop}{post:τ→List Dt→Prop}{R:List Dt→Prop}(p:τ)(h:pre p)(q:∀fds,post p fds→R fds):Ub args pre post (args p) R:=⟨p,rfl,h,q⟩
def PmC(P:Program)(w:World)(K:W.Frag)(mg:Str→Option Value)(base:Heap)(k:Nat)(c:Str)(ns:List Str)(sp:DIn):Prop:=∃g fd ps,Z8 K mg c "__init__" g∧Binds K fd ps []∧HJ P w K mg base CX0 k g fd ps (Acu K ns sp)
def PmI(P:Program)(w:World)(K:W.Frag)(mg:Str→Option Value)(base:Heap)(k:Nat)(c:Str)(ns:List Str)(sp:DIn):Prop:=∃C f fd ps,MkC K mg c ns C f∧Binds K fd ps []∧HJ P w K mg base CX0 k f fd ps (Acu K ns sp)
def PmM(P:Program)(w:World)(K:W.Frag)(mg:Str→Option Value)(base:Heap)(k:Nat)(cs:List Str)(m:Str)(sp:DSp):Prop:=∃g fd ps,(∀c∈cs,Z6 K c m g)∧W.keepIn K (.ref g)=true∧Binds K fd ps []∧HJ P w K mg base CX0 k g fd ps (lSp K sp)
section
variable{X:Cx}{e o:Expr}{es:List Expr}{te:DTE}{tl:DTA}{pos apos:Pos}
theorem Wm{k:Nat}{c:Str}{ns:List Str}{sp:DIn}{p:Pos}(m:U7 sp)(G:PmI X.prog X.w X.K X.mg X.base k c ns sp)(hr:El (k+1) X.A)(hg:Gl X c)(ha:DA X (e::es) tl)
  (hdb:(c==("__debug__":Str))=false:=by decide) (he:starEach (e::es) X.env=(false,eval e X.env)::starEach es X.env:=by rfl) (hpl:(backTo pos (starEach es X.env)).any (·.1)=false:=by rfl):DE X (.Call (.Name c p) (e::es) [] pos) (Adz c ns sp tl):=by
 obtain⟨C,f,fd,ps,M,B,G⟩:=G
 exact Ahl m M G B hr hg ha hdb he hpl
def QW(cs:List Str)(m:Str)(sp:DSp)(te:DTE)(tl:DTA):DTE:=fun ρ Q=>te ρ fun d=>match d with
 |.obj c ns ds=>(c∈cs∧m∉ns)∧tl ρ fun es=>sp (.obj c ns ds::es) Q
 |_=>False
theorem Y9{cs:List Str}{m:Str}{sp:DSp}(M:HX sp)(h:DE X o te)(ha:DA X es tl){ρ:Bu}{Q Q':Dt→Prop}(hq:∀d,Q d→Q' d)(z:QW cs m sp te tl ρ Q):QW cs m sp te tl ρ Q':=h.mono (fun d z=>by
 split at z
 ·exact⟨z.1,ha.mono (fun es z=>M _ _ _ hq z) z.2⟩
 ·exact z.elim) z
theorem AdF{cs:List Str}{m:Str}{g:Addr}{sp:DSp}(M:HX sp)(hm:∀c∈cs,Z6 X.K c m g)(h:DE X o te)(σ:St)(H:Hp)(Q:VK)(z:lE X.K (QW cs m sp te tl) σ H Q):lE X.K (Qq X.K m g sp te tl) σ H Q:=by
 obtain⟨B,F,O,ρ,R,z⟩:=z
 refine⟨B,F,O,ρ,R,h.mono (fun d z=>?_) z⟩
 split at z
 ·exact⟨hm _ z.1.1,z.1.2,z.2⟩
 ·exact z.elim
theorem Ab2{pl:Sem Bool}{k:Nat}{cs:List Str}{m:Str}{sp:DSp}(M:HX sp)(G:PmM X.prog X.w X.K X.mg X.base k cs m sp)(hr:El k X.A)(h:DE X o te)(ha:DA X (e::es) tl)
  (hst:starEach (e::es) X.env=(false,eval e X.env)::starEach es X.env:=by rfl) (hpl:(backTo pos (starEach es X.env)).any (·.1)=false:=by rfl)
  (ht:eval (.Call (.Attribute o m apos) (e::es) [] pos) X.env=(do
   let ov ←eval o X.env
   standAt apos.atName
   let (f,first) ←holding [ov] (getMethod ov m pl)
   callWith pos f first (backTo pos (starEach (e::es) X.env)) (backToKw pos (keywordEach [] X.env))):=by rfl):DE X (.Call (.Attribute o m apos) (e::es) [] pos) (QW cs m sp te tl):=by
 obtain⟨g,fd,ps,hm,kp,B,G⟩:=G
 exact⟨Y9 M h ha,(AfY M G B kp hr h ha hst hpl ht).pe.imp fun σ H Q z=>AdF M hm h σ H Q z⟩
end
inductive Lex(A:Around)(s:Shared):List Value→List Value→Bool→Prop
 |nn:Lex A s [] [] false
 |nc {y:Value} {ys:List Value}:Lex A s [] (y::ys) true
 |cn {x:Value} {xs:List Value}:Lex A s (x::xs) [] false
 |eq {x y:Value} {xs ys:List Value} {r:Bool} (h:SeqAt.EqAt A s x y true) (t:Lex A s xs ys r):Lex A s (x::xs) (y::ys) r
 |lt {x y:Value} {xs ys:List Value} {r:Bool} (h:SeqAt.EqAt A s x y false) (t:∀(prog:Program)(w:World)(E:Value→Shared→Prop)(Q:Value→Shared→Prop),Q (.bool r) s→wpAny (model prog w) A (richCompare .Lt x y) Q E s):Lex A s (x::xs) (y::ys) r
section
open PySem.SeqAt PySem.AutoSeq1 PySem.MeetsSeq PySem.MeetsSeq2 PySem.MeetsSeq3
theorem Zh(p q:Addr)(us vs:Array Value)(m n:Nat)(e e2:Option Addr)(c c2:Array (Option Value))(res:Bool) :
  Meets (Builtin.«tuple.__lt__» ⟨[.ref p,.ref q],[]⟩) (fun A R st=>st.heap.get? p=some ⟨.type "tuple",e,.seq us m,c⟩∧st.heap.get? q=some ⟨.type "tuple",e2,.seq vs n,c2⟩∧Lex A.in1 st us.toList vs.toList res∧R (.ok (.ret (.bool res))) st) :=
 .of_wp fun prog w A R st h=>by
  obtain⟨hh,gg,dr,tt,os⟩:=st
  obtain⟨h1,h2,L,fin⟩:=h
  have uV:=AutoSeq1.sub_tuple_tuple
  wp_walk using wpAny_loadPart' h1,wpAny_loadPart' h2,wpAny_forIn_list _ (fun rest z st'=>z.1=none∧st'=⟨hh,gg,dr,tt,os⟩∧∃xs ys:List Value,rest=xs.zip ys∧Lex A.in1 ⟨hh,gg,dr,tt,os⟩ xs ys res∧xs.length+vs.size=ys.length+us.size) _
  case turn =>
   rintro⟨x0,y0⟩ rest z st' ⟨z0,rfl,xs,ys,hz,L',hlen⟩
   cases L' with
   |nn=>simp at hz
   |nc=>simp at hz
   |cn=>simp at hz
   | @eq x y xs ys r he t =>
    rw[List.zip_cons_cons]at hz
    obtain⟨hp,hr⟩:=List.cons.inj hz
    obtain⟨rfl,rfl⟩:=Prod.mk.inj hp
    refine wpAny_bind (he prog w _ _ ?_)
    wp_walk
    refine⟨rfl,rfl,xs,ys,hr,t,?_⟩
    simp only[List.length_cons]at hlen
    omega
   | @lt x y xs ys r he t =>
    rw[List.zip_cons_cons]at hz
    obtain⟨hp,hr⟩:=List.cons.inj hz
    obtain⟨rfl,rfl⟩:=Prod.mk.inj hp
    refine wpAny_bind (he prog w _ _ ?_)
    have less:=t prog w
    wp_walk using less
    exact⟨_,rfl,by simpa using fin⟩
  case fin =>
   rintro⟨z1,z2⟩ st' ⟨hz1,rfl,xs,ys,hz,L',hlen⟩
   simp only at hz1
   subst hz1
   have hv:res=decide (us.size<vs.size):=by
    cases L' with
    |nn=>simp at hlen;exact(decide_eq_false ∅).symm
    |nc=>simp at hlen;exact(decide_eq_true ∅).symm
    |cn=>simp at hlen;exact(decide_eq_false ∅).symm
    |eq _ _=>simp at hz
    |lt _ _=>simp at hz
   rw[hv]at fin
   wp_walk
   exact⟨_,rfl,by simpa [Builtin.Tuple.tupleCompareSizes] using fin⟩
  case h=>exact⟨rfl,rfl,us.toList,vs.toList,rfl,L,by simp;omega⟩
end
section
variable{prog:Program}{w:World}{A:Around}{E:Value→Shared→Prop}{s:Shared}
theorem Acl{p q:Addr}{us vs:Array Value}{res:Bool}{Q:Value→Shared→Prop}(hp:IsTup s.heap p us)(hq:IsTup s.heap q vs)(L:Lex A.in1 s us.toList vs.toList res)(hu:A.units<cLine)(h:Q (.bool res) s):wpAny (model prog w) A (richCompare .Lt (.ref p) (.ref q)) Q E s:=by
 obtain⟨⟨c1,e1,a1,b1⟩,g1,k1,m1,t1⟩:=id hp
 obtain⟨⟨c2,e2,a2,b2⟩,g2,k2,m2,t2⟩:=id hq
 dsimp only at k1 t1 k2 t2
 subst k1 t1 k2 t2
 refine richCompare_meets_room (op:=.Lt) ⟨_,g1,rfl⟩ ⟨_,g2,rfl⟩ PySem.F.slot_tuple_lt PySem.F.entry_tuple_lt (PySem.F.args_tuple_lt_2 _ _) (Zh p q us vs m1 m2 e1 e2 b1 b2 res) ⟨g1,g2,L,?_⟩ hu
 exact show Value.bool res≠Value.notImplemented∧Q (.bool res) s from⟨(fun z=>nomatch z),h⟩
end
theorem K1:∀ns:List Int,HT.lexLt ns ns=false
 | []=>HT.Jc
 |n::ns=>by rw[HT.Ia,if_pos rfl,K1 ns]
def Gh(a b:List Int×List Int):Bool:=if a.1=b.1 then HT.lexLt a.2 b.2 else HT.lexLt a.1 b.1
abbrev N6(a:List Int×List Int):Dt:=.tup [Bc a.1,Bc a.2]
section
variable{X:Cx}
def Rf(K:W.Frag)(H:Hp)(v:V)(a:List Int×List Int):Prop:=∃p p1 p2,v=.ref p∧SqT K H p [.ref p1,.ref p2]∧SqT K H p1 (a.1.map V.int)∧SqT K H p2 (a.2.map V.int)
def Ahu(K:W.Frag):List V→Hp→VK→Prop:=fun xs H Q=>∃l vs,∃ps:Nat→List Int×List Int,xs=[.ref l]∧SqL K H l vs∧0<vs.length∧(∀(i:Nat)(v:V),vs[i]? = some v→Rf K H v (ps i)) ∧
 ∀v,vs[argBest (fun i j=>Gh (ps i) (ps j)) (vs.length-1)]? = some v→Q v H
theorem Aen{x y:Addr}{us:List Value}(r:Vals [V.ref x,V.ref y] us):us=[.ref x,.ref y]:=by
 obtain⟨a,b,rfl,r1,r2⟩:=vals2 r
 cases(show a=.ref x from r1)
 cases(show b=.ref y from r2)
 rfl
theorem Rt{h:Heap}:∀{us:List Value} {ns:List Int},IntsAre us ns→∃as,ReadsAll h us (Dt.pys (ns.map Dt.int)) as
 |_,_,.nil=>⟨_,by rw[List.map_nil,Dt.pys];exact .nil⟩
 | _,_,.cons n t r=>by
  obtain⟨as,q⟩:=Rt (h:=h) r
  exact⟨_,by rw[List.map_cons,Dt.pys,Dt.py];exact .cons (.int n t) q⟩
theorem TX{h:Heap}{a:Addr}{its:Array Value}{ns:List Int}(t:IsTup h a its)(i:IntsAre its.toList ns):∃as,Reads h (.ref a) (Bc ns).py as:=by
 obtain⟨o,h1,h2,n,h3⟩:=t
 obtain⟨as,r⟩:=Rt (h:=h) i
 exact⟨_,by rw[Dt.py];exact .tuple h1 h2 h3 r⟩
theorem Qi{A:Around}{s:Shared}{a b:Addr}{i1 i2:Array Value}{ns ms:List Int}(t1:IsTup s.heap a i1)(t2:IsTup s.heap b i2)(n1:IntsAre i1.toList ns)(n2:IntsAre i2.toList ms)(hu:A.units+8<cLine):EqAt A s (.ref a) (.ref b) (decide (ns=ms)):=by
 have fl:∀ns:List Int,(Bc ns).flat 8=true:=fun ns=>Rq ns
 obtain⟨ca,da⟩:=Gk _ 8 (fl ns)
 obtain⟨cb,db⟩:=Gk _ 8 (fl ms)
 obtain⟨as,q1⟩:=TX t1 n1
 obtain⟨bs,q2⟩:=TX t2 n2
 have h:=SeqAt.eqAt_reads _ _ A s _ _ as bs q1 q2 ca cb ∅
 rw[Q7 _ _ ca cb]at h
 have ee:(Bc ns).eq (Bc ms)=decide (ns=ms):=by
  show Dt.eq (.tup _) (.tup _)=_
  rw[AaL,Vn]
 rw[ee]at h
 exact h
theorem Aa8(hc:X.calm=true)(hu:X.A.in1.units+16<cLine):Il X (.builtin "min") (Ahu X.K):=by
 intro pins s σ H xs us Q I r h
 obtain⟨l,vs,ps,rfl,hl,ne,each,q⟩:=h
 obtain⟨u,rfl,r1⟩:=vals1 r
 cases r1
 obtain⟨its,rv,pl,_⟩:=I.list hl
 have hlen:its.length=vs.length:=rv.length.symm
 have ll:l<s.heap.objs.size:=by
  obtain⟨_,e,_⟩:=pl.isList
  exact Heap.lt_size e
 refine Wc (wpAny_pyIter_list pl.isList ?_)
 refine⟨s.heap.objs.size,[s.heap.objs.size,l],[s.heap.objs.size],its.toArray.size,fun i v=>its.toArray[i]? = some v,_,fun i j=>Gh (ps i) (ps j),rfl,Walks.list (A:=X.A.in1) (I.ok.hd hc) _ l (Nat.ne_of_lt ll) its.toArray,⟨⟨_,Heap.get?_push_size _ rfl,rfl,rfl⟩,pl.isList.push _⟩,fun b hb=>?_,?_,?_,?_⟩
 ·show b<(s.heap.push _).objs.size
  rw[Heap.size_push]
  have hb:b=s.heap.objs.size∨b=l:=by simpa using hb
  rcases hb with e|e
  ·rw[e];exact Nat.lt_succ_self _
  ·rw[e];exact Nat.lt_succ_of_lt ll
 ·rw[List.size_toArray];omega
 ·intro h1 k1 i j x y s' Q' E' kept hx hy q'
  have go:∀a o,s.heap.get? a=some o→s'.heap.get? a=some o:=fun a o eo=>by
   have la:=Heap.lt_size eo
   refine kept a o (fun z=>?_) (fun z=>?_) (k1 a o (Heap.get?_push_of_some _ eo))
   ·have e2:a=s.heap.objs.size:=by simpa using z
    exact Nat.lt_irrefl _ (e2 ▸ la)
   ·have e2:a=(s.heap.push _).objs.size:=z
    rw[Heap.size_push]at e2
    exact Nat.lt_irrefl _ (Nat.lt_of_succ_lt (e2 ▸ la))
  have tup:∀{a:Addr} {xs:List V},SqT X.K H a xs→∃us:List Value,Vals xs us∧IsTup s'.heap a us.toArray:=fun{a xs} ht=>by
   obtain⟨us,r3,⟨o,eo,rest⟩,_⟩:=I.tuple ht
   exact⟨us,r3,o,go a o eo,rest⟩
  have fact:∀(i:Nat)(x:Value),its.toArray[i]? = some x→∃p p1 p2 i1 i2,x=.ref p∧IsTup s'.heap p [Value.ref p1,.ref p2].toArray∧IsTup s'.heap p1 i1∧IsTup s'.heap p2 i2∧IntsAre i1.toList (ps i).1∧IntsAre i2.toList (ps i).2:=fun i x hx=>by
   obtain⟨v,e1,r2⟩:=Vals.at rv i x (by simpa using hx)
   obtain⟨p,p1,p2,rfl,t0,t1,t2⟩:=each i v e1
   cases r2
   obtain⟨us,r0,u0⟩:=tup t0
   obtain⟨u1,r1,w1⟩:=tup t1
   obtain⟨u2,r2,w2⟩:=tup t2
   rw[Aen r0]at u0
   exact⟨p,p1,p2,u1.toArray,u2.toArray,rfl,u0,w1,w2,intsAre_of r1,intsAre_of r2⟩
  obtain⟨p,p1,p2,i1,i2,rfl,a0,a1,a2,n1,n2⟩:=fact i x hx
  obtain⟨b,b1,b2,j1,j2,rfl,c0,c1,c2,m1,m2⟩:=fact j y hy
  have in2:X.A.in1.in1.units=X.A.in1.units+1:=rfl
  refine Acl a0 c0 ?_ ∅ q'
  show Lex X.A.in1.in1 s' [.ref p1,.ref p2] [.ref b1,.ref b2] _
  have e1:=Qi (A:=X.A.in1.in1) a1 c1 n1 m1 ∅
  have e2:=Qi (A:=X.A.in1.in1) a2 c2 n2 m2 ∅
  show Lex X.A.in1.in1 s' [.ref p1,.ref p2] [.ref b1,.ref b2] (if(ps i).1=(ps j).1 then HT.lexLt (ps i).2 (ps j).2 else HT.lexLt (ps i).1 (ps j).1)
  by_cases h1:(ps i).1=(ps j).1
  ·rw[if_pos h1]
   rw[decide_eq_true h1]at e1
   refine .eq e1 ?_
   by_cases h2:(ps i).2=(ps j).2
   ·rw[decide_eq_true h2]at e2
    rw[h2]
    have:HT.lexLt (ps j).2 (ps j).2=false:=K1 _
    rw[this]
    exact .eq e2 .nn
   ·rw[decide_eq_false h2]at e2
    exact .lt e2 fun prog w E Q h=>HT.LK a2 c2 n2 m2 ∅ h
  ·rw[if_neg h1]
   rw[decide_eq_false h1]at e1
   exact .lt e1 fun prog w E Q h=>HT.LK a1 c1 n1 m1 ∅ h
 ·intro v h' tk hv k
  obtain⟨x,e1,r2⟩:=Vals.at rv _ v (by simpa using hv)
  rw[hlen]at e1
  refine⟨x,H,I.kept fun b o e=>k b o (fun z=>?_) (Heap.get?_push_of_some _ e),r2,q x e1⟩
  have e2:b=s.heap.objs.size:=by simpa using z
  have e3:=Heap.lt_size e
  exact Nat.lt_irrefl _ (e2 ▸ e3)
def Lp(ps:List (List Int×List Int)):Nat:=argBest (fun i j=>Gh (ps.getD i ([],[])) (ps.getD j ([],[]))) (ps.length-1)
def Ahp:DL:=fun ds Q=>∃ps:List (List Int×List Int),ds=[.lst (ps.map N6)]∧0<ps.length∧Lp ps<ps.length∧Q (N6 (ps.getD (Lp ps) ([],[])))
theorem ints_of{K:W.Frag}{M:Hp}{ns:List Int}{xs:List V}(r:RpL K M (ns.map Dt.int) xs):xs=ns.map V.int:=by
 induction ns generalizing xs with
 |nil=>exact Bq.mp r
 | cons n ns ih =>
  obtain⟨v,w,rfl,r1,r2⟩:=Aw.mp r
  rw[Bf.mp r1,ih r2]
  rfl
theorem Agl{K:W.Frag}{M:Hp}{a:List Int×List Int}{v:V}(r:Rp K M (N6 a) v):Rf K M v a:=by
 obtain⟨p,xs,rfl,h1,h2⟩:=Cu.mp r
 obtain⟨v1,w1,rfl,r1,h2⟩:=Aw.mp h2
 obtain⟨v2,w2,rfl,r2,h2⟩:=Aw.mp h2
 obtain rfl:=Bq.mp h2
 obtain⟨p1,x1,rfl,g1,k1⟩:=Cu.mp r1
 obtain⟨p2,x2,rfl,g2,k2⟩:=Cu.mp r2
 rw[ints_of k1]at g1
 rw[ints_of k2]at g2
 exact⟨p,p1,p2,rfl,h1,g1,g2⟩
theorem Rf.mono{K:W.Frag}{M M':Hp}{a:List Int×List Int}{v:V}(s:Same M M')(h:Rf K M v a):Rf K M' v a:=by
 obtain⟨p,p1,p2,e,h1,h2,h3⟩:=h
 exact⟨p,p1,p2,e,s.bU h1,s.bU h2,s.bU h3⟩
theorem Aei{K:W.Frag}:Vf K (Ahu K) Ahp where
 mono:=fun hq ⟨ps,e,n0,lt,h⟩=>⟨ps,e,n0,lt,hq _ h⟩
 ok:=fun O H ds xs Q _ r ⟨ps,e,n0,lt,h⟩=>by
  subst e
  obtain⟨x,r',rfl,r2,r3⟩:=Aw.mp r
  obtain rfl:=Bq.mp r3
  obtain⟨l,vs,rfl,hs,hl⟩:=CN r2
  have len:vs.length=ps.length:=by rw[hl.len,List.length_map]
  have at':∀(i:Nat)(v:V),vs[i]? = some v→Rp K (mask O H) (N6 (ps.getD i ([],[]))) v:=fun i v e=>by
   obtain⟨d,e1,e2⟩:=hl.get' e
   rw[List.getElem?_map]at e1
   cases w:ps[i]? with
   |none=>rw[w]at e1;cases e1
   | some a =>
    rw[w]at e1
    cases e1
    rw[List.getD_eq_getElem?_getD,w]
    exact e2
  refine⟨l,vs,fun i=>ps.getD i ([],[]),rfl,Bh.seq hs,∅,fun i v e=>(Agl (at' i v e)).mono Bh,fun v e=>?_⟩
  rw[len]at e
  exact h v H (Same.refl H) (at' _ v e)
theorem AfW{a:Expr}{tl:DTA}{p pos:Pos}(hm:X.mg "min"=none)(hu:X.A.in1.units+16<cLine)(ha:DA X [a] tl)(hc:X.calm=true:=by rfl)(hg:Gl X "min":=by rfl)(hv:bootBuiltins "min"=some (.builtin "min"):=by rfl)(he:starEach [a] X.env=(false,eval a X.env)::starEach [] X.env:=by rfl)
  (hpl:(backTo pos (starEach [] X.env)).any (·.1)=false:=by rfl):DE X (.Call (.Name "min" p) [a] [] pos) (dCB Ahp tl):=Q8 (Aa8 hc hu) Aei hg hm hv ha (he:=he) (hpl:=hpl)
theorem Ah5{A:Around}(h:A.units+64<cLine):A.in1.units+16<cLine:=by show A.units+1+16<cLine;omega
end
section
variable{X:Cx}{a b:Expr}{ta tb:DTE}{pos:Pos}
end
section
variable{X:Cx}{e:Expr}{te:DTE}
end
section
variable{P:Program}{w:World}{A:Around}{E:Value→Shared→Prop}{s:Shared}
end
section
variable{X:Cx}{tg:Expr}{pins:List (Addr×Obj)}{σ:St}{H:Hp}{s:Shared}{g:Heap}
end
section
variable{X:Cx}{tg:Expr}
end
section
variable{X:Cx}{elt iter:Expr}{x:Str}{N:List Str}{sl:List Nat}{scope:Scope}{px pos:Pos}
end
section
variable{prog:Program}{w:World}{A:Around}
end
section
variable{X:Cx}
end
section
variable{X:Cx}
end
open PySem.W (KasT kas_asc kas_desc kas_tail3 kas_descPart kas_count kas_place kas_bin kas_sort kas_rev)
def Am{α:Type}(bt:Nat→Nat→Bool):KasT α→α
 |.ret a=>a
 |.ask i j k=>Am bt (k (bt i j))
def G5{α:Type}(n:Nat)(G:α→Prop):KasT α→Prop
 |.ret a=>G a
 |.ask i j k=>i<n∧j<n∧∀b,G5 n G (k b)
theorem G5.bind{α β:Type}{n:Nat}{G:α→Prop}{H:β→Prop}{f:α→KasT β}(hf:∀a,G a→G5 n H (f a)):∀t:KasT α,G5 n G t→G5 n H (t.bind f)
 |.ret a,h=>hf a h
 |.ask _ _ k,h=>⟨h.1,h.2.1,fun b=>G5.bind hf (k b) (h.2.2 b)⟩
theorem G5.eval{α:Type}{n:Nat}{G:α→Prop}(bt:Nat→Nat→Bool):∀t:KasT α,G5 n G t→G (Am bt t)
 |.ret _,h=>h
 |.ask i j k,h=>G5.eval bt (k (bt i j)) (h.2.2 _)
theorem VF{α:Type}{n:Nat}{cmp:Nat→Nat→(Bool→Shared→Prop)→Shared→Prop}{bt:Nat→Nat→Bool}{s:Shared}(hc:∀i j,i<n→j<n→∀C:Bool→Shared→Prop,C (bt i j) s→cmp i j C s){G:α→Prop}{Q:α→Shared→Prop} :
  ∀t:KasT α,G5 n G t→Q (Am bt t) s→t.kasWp cmp Q s
 |.ret _,_,q=>q
 |.ask i j k,h,q=>hc i j h.1 h.2.1 _ (VF hc (k (bt i j)) (h.2.2 _) q)
abbrev Rg(n:Nat):Array Nat:=List.toArray (List.range n)
theorem Lg{n:Nat}{p:Array Nat}(n0:0<n)(h:p.Perm (Rg n))(i:Nat):p.getD i 0<n:=by
 by_cases hi:i<p.size
 ·have e:p.getD i 0=p[i]:=by simp[Array.getD,hi]
  rw[e]
  have:=h.mem_iff.mp (Array.getElem_mem hi)
  simpa using this
 ·simpa [Array.getD,hi] using n0
theorem QK{n:Nat}{p:Array Nat}(h:p.Perm (Rg n))(i j:Nat):(kas_rev p i j).Perm (Rg n):=(mirror_perm p i j _).trans h
section
variable{n:Nat}
theorem Vv{p:Array Nat}(n0:0<n)(hp:p.Perm (Rg n)):∀f m,G5 n (fun _=>True) (kas_asc p f m)
 |0,_=>trivial
 | f+1,m=>⟨Lg n0 hp _,Lg n0 hp _,fun b=>by
  cases b
  ·exact Vv n0 hp f (m+1)
  ·trivial⟩
theorem Mf(n0:0<n):∀(f:Nat)(p:Array Nat)(m q:Nat),p.Perm (Rg n)→G5 n (fun r:Array Nat×Nat×Nat=>r.1.Perm (Rg n)) (kas_desc f p m q)
 |0,_,_,_,hp=>hp
 | f+1,p,m,q,hp=>⟨Lg n0 hp _,Lg n0 hp _,fun b=>by
  cases b
  ·refine⟨Lg n0 hp _,Lg n0 hp _,fun d=>?_⟩
   cases d
   ·exact Mf n0 f p (m+1) (q+1) hp
   ·exact hp
  ·show G5 n _ (if q>0 then _ else _)
   split
   ·exact Mf n0 f _ (m+1) 0 (QK hp _ _)
   ·exact Mf n0 f p (m+1) 0 hp⟩
theorem Xr(n0:0<n){p:Array Nat}(hp:p.Perm (Rg n))(m k:Nat):G5 n (fun r:Nat×Array Nat=>r.2.Perm (Rg n)) (kas_tail3 m k p) :=
 G5.bind (n:=n) (G:=fun _=>True) (H:=fun r:Nat×Array Nat=>r.2.Perm (Rg n)) (f:=fun j=>KasT.ret (j,kas_rev p 0 m)) (fun _ _=>show(kas_rev p 0 m).Perm (Rg n)from QK hp _ _) _ (Vv n0 (QK hp _ _) _ _)
theorem Xp(n0:0<n){p:Array Nat}(hp:p.Perm (Rg n))(m k:Nat):G5 n (fun r:Nat×Array Nat=>r.2.Perm (Rg n)) (kas_descPart m k p) :=
 G5.bind (fun r hr=>by
  split
  ·exact Xr n0 (QK hr _ _) _ _
  ·exact Xr n0 hr _ _) _ (Mf n0 _ p _ _ hp)
theorem Abf(n0:0<n){p:Array Nat}(hp:p.Perm (Rg n))(k:Nat):G5 n (fun r:Nat×Array Nat=>r.2.Perm (Rg n)) (kas_count k p) :=
 G5.bind (fun m _=>by
  split
  ·exact hp
  ·split
   ·refine⟨Lg n0 hp _,Lg n0 hp _,fun b=>?_⟩
    cases b
    ·exact Xp n0 (QK hp _ _) _ _
    ·exact hp
   ·exact Xp n0 hp _ _) _ (Vv n0 hp _ _)
theorem N7(n0:0<n){p:Array Nat}(hp:p.Perm (Rg n))(k:Nat):∀f l r,G5 n (fun _=>True) (kas_place p k f l r)
 |0,_,_=>trivial
 | f+1,l,r=>by
  show G5 n _ (if l≥r then _ else _)
  split
  ·trivial
  ·refine⟨Lg n0 hp _,Lg n0 hp _,fun b=>?_⟩
   cases b
   ·exact N7 n0 hp k f _ _
   ·exact N7 n0 hp k f _ _
theorem ZK(n0:0<n):∀(f:Nat)(p:Array Nat)(k:Nat),p.Perm (Rg n)→G5 n (fun r:Array Nat=>r.Perm (Rg n)) (kas_bin f p k)
 |0,_,_,hp=>hp
 |f+1,p,k,hp=>G5.bind (fun l _=>ZK n0 f _ (k+1) ((bubble_perm p k (k-l)).trans hp)) _ (N7 n0 hp k _ _ _)
theorem Xo(n0:0<n):G5 n (fun r:Array Nat=>r.Perm (Rg n)) (kas_sort n) :=
 G5.bind (fun r hr=>by
  split
  ·exact ZK n0 _ r.2 _ hr
  ·exact hr) _ (Abf n0 (Array.Perm.refl _) _)
end
def Cd(bt:Nat→Nat→Bool)(n:Nat):List Nat:=(Am bt (kas_sort n)).toList
theorem BP(bt:Nat→Nat→Bool)(n:Nat):(Cd bt n).Perm (List.range n):=by
 rcases Nat.eq_zero_or_pos n with rfl|h
 ·exact List.Perm.refl _
 ·have:=(Xo h).eval bt
  exact Array.perm_iff_toList_perm.mp this
section
variable{prog:Program}{w:World}{A:Around}{E:Value→Shared→Prop}{s:Shared}
theorem Xq{Q:Bool→Shared→Prop}:∀(vs us:List Value)(ns ms:List Int)(i:Nat),IntsAre vs ns→IntsAre us ms→Q (HT.lexLt ns ms) s→W.KatLex prog w A true (decide (vs.length<us.length)) Q (vs.zip us) i s
 |_,_,_,_,_,.nil,.nil,q=>q
 | _,_,_,_,_,.nil,.cons _ _ _,q=>by
  rw[decide_eq_true (by simp)]
  exact W.kat_nil q
 | _,_,_,_,_,.cons _ _ _,.nil,q=>by
  rw[decide_eq_false (by simp)]
  exact W.kat_nil q
 | _,_,_,_,i,.cons (vs:=vs) (ns:=ns) a t h1,.cons (vs:=us) (ns:=ms) b u h2,q=>by
  rw[HT.Ia]at q
  refine W.kat_cons (wpAny_eqBool_int (W.kat_go (fun e=>W.kat_yes ?_) (fun e=>W.kat_no ?_)))
  ·have e:a=b:=by simpa using e
   rw[if_pos e]at q
   have:=Xq vs us ns ms (i+1) h1 h2 q
   rw[show decide ((Value.int a t::vs).length<(Value.int b u::us).length)=decide (vs.length<us.length)from decide_eq_decide.mpr (by simp)]
   exact this
  ·have e:¬a=b:=by simpa using e
   rw[if_neg e]at q
   cases hi:(true&&i==0)with
   |true=>exact oneLt_int q
   |false=>exact W.kat_one _ _ (richCompare_gives (op:=.Lt) (typeIs_int s _ t) (typeIs_int s _ u) F.slot_int_lt F.entry_int_lt (F.args_int_lt_2 _ _) (gives_int_lt _ _ t u) (fun x=>nomatch x) q)
theorem VR{x y:Addr}{xs ys:Array Value}{ns ms:List Int}{Q:Bool→Shared→Prop}(hx:IsTup s.heap x xs)(hy:IsTup s.heap y ys)(hi:IntsAre xs.toList ns)(hj:IntsAre ys.toList ms)(q:Q (HT.lexLt ns ms) s) :
  wpAny (model prog w) A (keyLt' (tuples' true) (.ref x) (.ref y)) Q E s:=by
 obtain⟨o1,g1,_,n1,d1⟩:=hx
 obtain⟨o2,g2,_,n2,d2⟩:=hy
 have:=Xq (prog:=prog) (w:=w) (A:=A) (Q:=Q) xs.toList ys.toList ns ms 0 hi hj q
 exact W.kat_lt g1 d1 g2 d2 (by simpa using this)
def But(a:Addr)(h h':Heap):Prop:=∀b o,b≠a→h.get? b=some o→h'.get? b=some o
theorem AaN:∀vs:List Value,(vs.zip vs).map (·.2)=vs
 | []=>rfl
 |v::vs=>by rw[List.zip_cons_cons,List.map_cons,AaN vs]
theorem Za{vs:List Value}(bt:Nat→Nat→Bool)(h:vs.length<2):(Cd bt vs.length).map (fun i=>vs.getD i Value.none)=vs:=by
 match vs,h with
 | [],_=>rfl
 | [v],_=>rfl
theorem Nk{a:Addr}{vs:List Value}{n:Nat}{κ:SortKind}{bt:Nat→Nat→Bool}{P:PySem.Fin→Shared→Prop}(ho:s.heap.get? a=some (seqObj "list" vs.toArray n))(h64:vs.length<64)
  (hk:∀h':Heap,But a s.heap h'→2≤vs.length→∀Q:SortKind→Shared→Prop,Q κ {s with heap:=h'}→wpAny (model prog w) A (keyKind' vs.toArray) Q (fun _ _=>False) {s with heap:=h'})
  (hl:∀h':Heap,But a s.heap h'→∀i j,i<vs.length→j<vs.length→∀C:Bool→Shared→Prop,C (bt i j) {s with heap:=h'}→W.kas_ask prog w A κ vs i j C {s with heap:=h'})
  (fin:∀(h':Heap)(c:Nat),But a s.heap h'→h'.get? a=some (seqObj "list" (List.toArray ((Cd bt vs.length).map fun i=>vs.getD i Value.none)) c)→P (.done (.ret .none)) {s with heap:=h'}) :
  wpAny (model prog w) A (Builtin.«list.sort» ⟨[.ref a],[]⟩) P E s:=by
 have la:a<s.heap.objs.size:=Heap.lt_size ho
 have sl:vs.length≤sizeLine:=by rw[sizeLine_eq];omega
 obtain⟨c1,g1⟩:∃c,(s.heap.update a (Obj.mapSeq fun _=>(#[]:Array Value))).get? a=some (seqObj "list" #[] c):=⟨_,get?_update_seq ho fun _=>#[]⟩
 obtain⟨h3,e3⟩:∃h3,h3=((s.heap.update a (Obj.mapSeq fun _=>(#[]:Array Value))).push (seqObj "tuple" vs.toArray 0)).push (seqObj "list" #[] 0):=⟨_,rfl⟩
 have g3:h3.get? a=some (seqObj "list" #[] c1):=by rw[e3];exact Heap.get?_push_of_some _ (Heap.get?_push_of_some _ g1)
 have k3:But a s.heap h3:=fun b o ne e=>by
  rw[e3]
  exact Heap.get?_push_of_some _ (Heap.get?_push_of_some _ ((Heap.get?_update_other _ _ (Ne.symm ne)).trans e))
 have last:∀out:List Value,out.length≤sizeLine→out=(Cd bt vs.length).map (fun i=>vs.getD i Value.none)→∃c2,(h3.update a (Obj.mapSeq fun _=>out.toArray)).get? a=some (seqObj "list" out.toArray c2)∧P (.done (.ret .none)) {s with heap:=h3.update a (Obj.mapSeq fun _=>out.toArray)}:=fun out _ eo=>by
  obtain⟨c2,g⟩:∃c,(h3.update a (Obj.mapSeq fun _=>out.toArray)).get? a=some (seqObj "list" out.toArray c):=⟨_,get?_update_seq g3 fun _=>out.toArray⟩
  refine⟨c2,g,fin _ c2 (fun b o ne e=>(Heap.get?_update_other _ _ (Ne.symm ne)).trans (k3 b o ne e)) ?_⟩
  rw[←eo];exact g
 rw[list_sort_plain]
 refine wpAny_bind (listItems_at ho rfl (wpAny_bind (listUpdate_at ho rfl ?_ (by rw[List.size_toArray];exact sl) (Nat.zero_le _))))
 refine wpAny_bind (seqEpoch_at g1 rfl (wpAny_bind (wpAny_newTuple ?_ (by show vs.length≤_;exact sl))))
 refine wpAny_bind (wpAny_newList (wpAny_holding ?_) (Nat.zero_le _))
 show wpAny (model prog w) A _ P E {s with heap:=((s.heap.update a (Obj.mapSeq fun _=>(#[]:Array Value))).push (seqObj "tuple" vs.toArray 0)).push (seqObj "list" #[] 0)}
 rw[←e3]
 dsimp only
 by_cases few:vs.toArray.size<2
 ·rw[if_pos few,if_pos few]
  have su:vs.length<2:=by simpa using few
  refine wpAny_bind (wpAny_pure ?_);rw[StateT.run_pure];refine wpAny_bind (wpAny_pure ?_)
  dsimp only
  have eo:(arrOf (SortSt.mk' general' (vs.toArray.zip vs.toArray) #[] 7 none)).map (·.2)=vs.toArray:=by
   show(vs.toArray.zip vs.toArray).map (·.2)=vs.toArray
   rw[←Array.toList_inj,Array.toList_map,Array.toList_zip]
   exact AaN vs
  rw[eo]
  obtain⟨c2,g,q⟩:=last vs sl (Za bt su).symm
  refine wpAny_bind (seqEpoch_at g3 rfl (wpAny_bind (listUpdate_at g3 rfl ?_ (Nat.zero_le _) (by rw[List.size_toArray];exact Nat.le_succ_of_le sl))))
  simp only[bne_self_eq_false,Bool.false_eq_true,if_false]
  exact wpAny_pure q
 ·rw[if_neg few,if_neg few]
  have many:2≤vs.length:=by
   have:¬vs.length<2:=by simpa using few
   omega
  refine wpAny_bind (wpAny_mono (hk h3 k3 many (fun κ' s'=>κ'=κ∧s'={s with heap:=h3}) ⟨rfl,rfl⟩) ?_ fun _ _ x=>x.elim)
  rintro κ' s' ⟨rfl,rfl⟩
  have tree:=VF (hl h3 k3) (Q:=fun p s'=>p=Am bt (kas_sort vs.length)∧s'={s with heap:=h3}) (kas_sort vs.length) (Xo ∅) ⟨rfl,rfl⟩
  refine wpAny_bind (wpAny_mono (W.kat_run (Q:=fun st' s'=>(arrOf st').map (·.2)=List.toArray ((Cd bt vs.length).map fun i=>vs.getD i Value.none)∧failedOf st'=none∧s'={s with heap:=h3}) rfl many h64 (fun p st' s' _ a2 a3 a4=>⟨?_,a3,a4.2⟩) tree) ?_ fun _ _ e=>e)
  ·rw[W.kat_snds rfl a2,a4.1];rfl
  ·rintro⟨⟨⟩,st'⟩ s' ⟨x1,x2,rfl⟩
   dsimp only
   rw[x1]
   have ol:((Cd bt vs.length).map fun i=>vs.getD i Value.none).length≤sizeLine:=by rw[List.length_map,(BP bt _).length_eq,List.length_range];exact sl
   obtain⟨c2,g,q⟩:=last _ ol rfl
   refine wpAny_bind (seqEpoch_at g3 rfl (wpAny_bind (listUpdate_at g3 rfl ?_ (Nat.zero_le _) (by rw[List.size_toArray];exact Nat.le_succ_of_le ol))))
   rw[x2]
   simp only[bne_self_eq_false,Bool.false_eq_true,if_false]
   exact wpAny_pure q
theorem T8{l:Addr}{vs:List Value}{κ:SortKind}{bt:Nat→Nat→Bool}{Q:Value→Shared→Prop}(hl:s.heap.IsList l vs.toArray)(h64:vs.length<64)
  (hk:∀h':Heap,(∀b o,s.heap.get? b=some o→h'.get? b=some o)→2≤vs.length→∀R:SortKind→Shared→Prop,R κ {s with heap:=h'}→wpAny (model prog w) A.in1.in1 (keyKind' vs.toArray) R (fun _ _=>False) {s with heap:=h'})
  (hc:∀h':Heap,(∀b o,s.heap.get? b=some o→h'.get? b=some o)→∀i j,i<vs.length→j<vs.length→∀C:Bool→Shared→Prop,C (bt i j) {s with heap:=h'}→W.kas_ask prog w A.in1.in1 κ vs i j C {s with heap:=h'})
  (fin:∀(h':Heap)(D:Addr)(c:Nat),(∀b o,s.heap.get? b=some o→h'.get? b=some o)→s.heap.objs.size≤D→h'.get? D=some (seqObj "list" (List.toArray ((Cd bt vs.length).map fun i=>vs.getD i Value.none)) c)→Q (.ref D) {s with heap:=h'}) :
  wpAny (model prog w) A (call (.builtin "sorted") [.ref l]) Q E s:=by
 have sl:vs.length≤sizeLine:=by rw[sizeLine_eq];omega
 obtain⟨h1,e1⟩:∃h1,h1=(s.heap.push (seqObj "list" #[] 0)).update s.heap.objs.size (Obj.mapSeq (· ++ vs.toArray)):=⟨_,rfl⟩
 have z1:h1.objs.size=s.heap.objs.size+1:=by rw[e1,Heap.size_update,size_push']
 have kp:∀b o,s.heap.get? b=some o→(h1.push (seqObj "list" vs.toArray 0)).get? b=some o:=fun b o q=>by
  have lb:b<s.heap.objs.size:=Heap.lt_size q
  refine Heap.get?_push_of_some _ ?_
  rw[e1,Heap.get?_update_ne _ _ _ _ (Nat.ne_of_lt lb)]
  exact Heap.get?_push_of_some _ q
 have gD:(h1.push (seqObj "list" vs.toArray 0)).get? h1.objs.size=some (seqObj "list" vs.toArray 0):=Heap.get?_push_size _ rfl
 have low:∀(h':Heap),But h1.objs.size (h1.push (seqObj "list" vs.toArray 0)) h'→∀b o,s.heap.get? b=some o→h'.get? b=some o:=fun h' k b o q=>by
  have lb:b<s.heap.objs.size:=Heap.lt_size q
  exact k b o (Nat.ne_of_lt (by rw[z1];exact Nat.lt_succ_of_lt lb)) (kp b o q)
 refine Calls.call_function_entry kind_sorted plain_sorted entry_sorted (args_sorted1 _) ?_
 unfold Builtin.«sorted»
 refine wpAny_bind (m:=checkCount "sorted" 1 1 _) (wpAny_pure (wpAny_bind (collect_list hl ?_ (by rw[sizeLine_eq];omega))))
 refine wpAny_bind (wpAny_newList ?_ (by rw[sizeLine_eq];omega))
 show wpAny _ _ _ _ _ {s with heap:=((s.heap.push (seqObj "list" #[] 0)).update s.heap.objs.size (Obj.mapSeq (· ++ vs.toArray))).push (seqObj "list" vs.toArray 0)}
 rw[←e1]
 refine wpAny_bind (wpAny_holding (wpAny_call_entry slot_list_sort ⟨_,gD,rfl⟩ entry_list_sort ?_ (args_list_sort _)))
 refine Nk (s:={s with heap:=h1.push (seqObj "list" vs.toArray 0)}) (κ:=κ) (bt:=bt) gD h64 (fun h' k=>hk h' (low h' k)) (fun h' k=>hc h' (low h' k)) fun h' c k g=>?_
 exact⟨_,rfl,wpAny_pure ⟨_,rfl,fin h' _ c (low h' k) (by rw[z1];omega) g⟩⟩
end
theorem Ug{h:Heap}:∀its:List Value,(∀v∈its,∃a xs ns,v=.ref a∧IsTup h a xs∧IntsAre xs.toList ns∧ns≠[])→∃fs,W.KatTups h its fs∧fs.length=its.length∧∀f∈fs,∃n t,f=Value.int n t
 | [],_=>⟨[],W.KatTups.nil,rfl,fun _ z=>by cases z⟩
 | v::its,hv=>by
  obtain⟨fs,k,lf,ff⟩:=Ug its fun x hx=>hv x (.tail _ hx)
  obtain⟨a,xs,ns,rfl,⟨o,g,c,n,d⟩,hi,ne⟩:=hv v (.head _)
  cases hx:xs.toList with
  |nil=>rw[hx]at hi;cases hi;exact absurd rfl ne
  | cons x r =>
   rw[hx]at hi
   cases hi with
   | cons m t _ =>
    have e0:xs[0]? = some (Value.int m t):=by rw[←Array.getElem?_toList,hx];rfl
    refine⟨.int m t::fs,W.KatTups.cons g c d e0 k,by rw[List.length_cons,List.length_cons,lf],fun f hf=>?_⟩
    rcases List.mem_cons.mp hf with rfl|hf
    ·exact⟨m,t,rfl⟩
    ·exact ff f hf
theorem Kz{xs:List V}{us:List Value}(r:Vals xs us):∀ix:List Nat,(∀i∈ix,i<xs.length)→Vals (ix.map fun i=>xs.getD i V.non) (ix.map fun i=>us.getD i Value.none)
 | [],_=>.nil
 | i::ix,h=>by
  have hi:i<xs.length:=h i (.head _)
  obtain⟨u,eu,ru⟩:=Vals.get (i:=i) (x:=xs[i]) r (List.getElem?_eq_getElem hi)
  have e1:xs.getD i V.non=xs[i]:=by simp[List.getD,hi]
  have e2:us.getD i Value.none=u:=by simp[List.getD,eu]
  rw[List.map_cons,List.map_cons,e1,e2]
  exact .cons ru (Kz r ix fun j hj=>h j (.tail _ hj))
section
variable{X:Cx}
def Ab1(K:W.Frag):List V→Hp→VK→Prop:=fun xs H Q=>∃p vs,∃nss:Nat→List Int,xs=[.ref p]∧SqL K H p vs∧vs.length<64∧(∀(i:Nat)(v:V),vs[i]? = some v→∃a,v=.ref a∧SqT K H a ((nss i).map V.int)∧nss i≠[]) ∧
 ∀l,H l=none→Q (.ref l) (upd H l (.lst ((Cd (fun i j=>HT.lexLt (nss i) (nss j)) vs.length).map fun i=>vs.getD i V.non)))
theorem X4:Il X (.builtin "sorted") (Ab1 X.K):=by
 intro pins s σ H xs us Q I r h
 obtain⟨p,vs,nss,rfl,hl,h64,each,q⟩:=h
 obtain⟨u,rfl,r1⟩:=vals1 r
 cases r1
 obtain⟨its,rv,pl,hz⟩:=I.list hl
 have hlen:its.length=vs.length:=rv.length.symm
 have row:∀h':Heap,(∀b o,s.heap.get? b=some o→h'.get? b=some o)→∀(i:Nat)(v:Value),its[i]? = some v→∃a xs,v=.ref a∧IsTup h' a xs∧IntsAre xs.toList (nss i)∧nss i≠[]:=fun h' k i v e=>by
  obtain⟨x,e1,r2⟩:=Vals.at rv i v e
  obtain⟨a,rfl,ht,ne⟩:=each i x e1
  cases r2
  obtain⟨ys,r3,⟨o,g,rest⟩,_⟩:=I.tuple ht
  exact⟨a,ys.toArray,rfl,⟨o,k a o g,rest⟩,intsAre_of r3,ne⟩
 refine T8 (κ:=tuples' true) (bt:=fun i j=>HT.lexLt (nss i) (nss j)) (vs:=its) pl.isList ∅ (fun h' k _ R hR=>?_) (fun h' k i j hi hj C hC=>?_) fun h' D c k hD g=>?_
 ·obtain⟨fs,kt,lf,ff⟩:=Ug (h:=h') its fun v hv=>by
   obtain⟨i,hi,e⟩:=List.getElem_of_mem hv
   obtain⟨a,xs,e1,t,n,ne⟩:=row h' k i v (by rw[←e];exact List.getElem?_eq_getElem hi)
   exact⟨a,xs,_,e1,t,n,ne⟩
  refine W.kat_kind (s:={s with heap:=h'}) (T:=.type "int") kt ∅ (fun v hv=>?_) ⋯ hR
  obtain⟨n,t,rfl⟩:=ff v hv
  exact .now
 ·obtain⟨a,xs,e1,t1,n1,_⟩:=row h' k i _ (List.getElem?_eq_getElem hi)
  obtain⟨b,ys,e2,t2,n2,_⟩:=row h' k j _ (List.getElem?_eq_getElem hj)
  have d1:its.getD i Value.none=.ref a:=by simp[List.getD,hi,e1]
  have d2:its.getD j Value.none=.ref b:=by simp[List.getD,hj,e2]
  unfold W.kas_ask
  rw[d1,d2]
  exact VR (s:={s with heap:=h'}) t1 t2 n1 n2 hC
 ·have ib:∀i∈Cd (fun i j=>HT.lexLt (nss i) (nss j)) its.length,i<vs.length:=fun i hi=>by
   have:=(BP _ _).mem_iff.mp hi
   rw[←hlen]
   exact List.mem_range.mp this
  have vp:=Kz rv _ ib
  rw[hlen]at vp g
  have lz:((Cd (fun i j=>HT.lexLt (nss i) (nss j)) vs.length).map fun i=>vs.getD i V.non).length≤sizeLine:=by
   rw[List.length_map,(BP _ _).length_eq,List.length_range]
   exact hz
  exact⟨.ref D,_,I.laid (t':=s.toks) k hD (show GQ X.prog X.w _ h' _ (.lst _)from⟨lz,_,c,vp,g⟩),rfl,q _ (I.hok.fresh hD)⟩
def Ib(nss:List (List Int)):List (List Int):=(Cd (fun i j=>HT.lexLt (nss.getD i []) (nss.getD j [])) nss.length).map fun i=>nss.getD i []
theorem Jv(nss:List (List Int)):(Ib nss).Perm nss:=by
 have h:=(BP (fun i j=>HT.lexLt (nss.getD i []) (nss.getD j [])) nss.length).map fun i=>nss.getD i []
 have e:(List.range nss.length).map (fun i=>nss.getD i [])=nss:=by
  refine List.ext_getElem (by simp) fun i h1 h2=>?_
  simp[List.getD,h2]
 rw[e]at h
 exact h
def Vp:DL:=fun ds Q=>∃nss:List (List Int),ds=[.lst (nss.map Bc)]∧nss.length<64∧(∀r∈nss,r≠[])∧Q (.lst ((Ib nss).map Bc))
theorem Qg{K:W.Frag}{H:Hp}{nss:List (List Int)}{vs:List V}(r:RpL K H (nss.map Bc) vs):∀ix:List Nat,(∀i∈ix,i<nss.length)→RpL K H (ix.map fun i=>Bc (nss.getD i [])) (ix.map fun i=>vs.getD i V.non)
 | [],_=>RpL.nil
 | i::ix,h=>by
  have hi:i<nss.length:=h i (.head _)
  have hv:i<vs.length:=by rw[RpL.len' r,List.length_map];exact hi
  obtain⟨d,e1,r1⟩:=RpL.at' i vs[i] r (List.getElem?_eq_getElem hv)
  have e2:d=Bc (nss.getD i []):=by
   rw[List.getElem?_map,List.getElem?_eq_getElem hi]at e1
   cases e1
   simp[List.getD,hi]
  have e3:vs.getD i V.non=vs[i]:=by simp[List.getD,hv]
  rw[List.map_cons,List.map_cons,e3,←e2]
  exact RpL.cons r1 (Qg r ix fun j hj=>h j (.tail _ hj))
theorem AbL{K:W.Frag}:Vf K (Ab1 K) Vp where
 mono:=fun hq ⟨nss,e,l,n,h⟩=>⟨nss,e,l,n,hq _ h⟩
 ok:=fun O H ds xs Q hO r ⟨nss,e,l64,ne,h⟩=>by
  subst e
  obtain⟨x,r',rfl,ra,r3⟩:=Aw.mp r
  obtain rfl:=Bq.mp r3
  obtain⟨p,vs,rfl,hs,hl⟩:=CN ra
  obtain⟨ll,each⟩:=Vw hl
  refine⟨p,vs,fun i=>nss.getD i [],rfl,(Bh (O:=O) (H:=H)).seq hs,∅,fun i v e=>?_,fun l hn=>?_⟩
  ·obtain⟨a,ea,ht⟩:=each i v e
   have hi:i<nss.length:=by
    have:=(List.getElem?_eq_some_iff.mp e).1
    omega
   refine⟨a,ea,(Bh (O:=O) (H:=H)).bU ht,ne _ ?_⟩
   have:nss.getD i []=nss[i]:=by simp[List.getD,hi]
   show nss.getD i []∈nss
   rw[this]
   exact List.getElem_mem hi
  ·have nl:l∉O:=fun z=>hO l z hn
   refine h _ _ (Same.upd hn) (Ho ⟨l,_,rfl,Gm nl,?_⟩)
   have rp:=Qg hl (Cd (fun i j=>HT.lexLt (nss.getD i []) (nss.getD j [])) nss.length) fun i hi=>List.mem_range.mp ((BP _ _).mem_iff.mp hi)
   have em:(Ib nss).map Bc=(Cd (fun i j=>HT.lexLt (nss.getD i []) (nss.getD j [])) nss.length).map fun i=>Bc (nss.getD i []):=by
    unfold Ib
    rw[List.map_map]
    rfl
   rw[em,ll]
   exact rp.mono (Same.upd hn).mask
theorem Wf{a:Expr}{tl:DTA}{p pos:Pos}(hm:X.mg "sorted"=none)(ha:DA X [a] tl)(hg:Gl X "sorted":=by rfl)(hv:bootBuiltins "sorted"=some (.builtin "sorted"):=by rfl)(he:starEach [a] X.env=(false,eval a X.env)::starEach [] X.env:=by rfl)
  (hpl:(backTo pos (starEach [] X.env)).any (·.1)=false:=by rfl):DE X (.Call (.Name "sorted" p) [a] [] pos) (dCB Vp tl):=Q8 X4 AbL hg hm hv ha (he:=he) (hpl:=hpl)
end
open PySem.W (KasT kas_asc kas_desc kas_tail3 kas_descPart kas_count kas_place kas_bin kas_sort kas_rev)
theorem GF{α β:Type}(bt:Nat→Nat→Bool)(f:α→KasT β):∀t:KasT α,Am bt (t.bind f)=Am bt (f (Am bt t))
 |.ret _=>rfl
 |.ask i j k=>GF bt f (k (bt i j))
structure Nb(bt:Nat→Nat→Bool):Prop where
 asy:∀i j,bt i j=true→bt j i=false
 neg:∀i j k,bt j i=false→bt k j=false→bt k i=false
theorem Nb.irr{bt:Nat→Nat→Bool}(O:Nb bt)(i:Nat):bt i i=false:=by
 cases h:bt i i
 ·rfl
 ·have:=O.asy i i h
  rw[h]at this
  exact this
abbrev gt(p:Array Nat)(i:Nat):Nat:=p.getD i 0
theorem Iu{p:Array Nat}{i j:Nat}(hj:j≤p.size)(k:Nat):gt (kas_rev p i j) k=if i≤k∧k<j then gt p (i+j-1-k)else gt p k:=by
 have h:=getElem?_mirror_all (xs:=p) (i:=i) hj k
 unfold gt kas_rev
 simp only[Array.getD_eq_getD_getElem?]
 rw[h]
 split<;>rfl
theorem Ij(p:Array Nat)(i j:Nat):(kas_rev p i j).size=p.size:=mirror_size _ _ _ _
theorem Ada{p:Array Nat}{src d:Nat}(hs:src<p.size)(hd:d≤src)(k:Nat):gt (bubble p src d) k=if k=src-d then gt p src else if src-d<k∧k≤src then gt p (k-1)else gt p k:=by
 have h:=getElem?_bubble (xs:=p) hs d hd k
 unfold gt
 simp only[Array.getD_eq_getD_getElem?]
 rw[h]
 repeat' split
 all_goals first|rfl|(exfalso;omega)|(congr 2;omega)
section
variable{bt:Nat→Nat→Bool}(O:Nb bt)
def Up(bt:Nat→Nat→Bool)(p:Array Nat)(m:Nat):Prop:=∀i j,i<j→j<m→bt (gt p j) (gt p i)=false
def Dn(bt:Nat→Nat→Bool)(p:Array Nat)(m:Nat):Prop:=∀i j,i<j→j<m→bt (gt p i) (gt p j)=false
def Fl(bt:Nat→Nat→Bool)(p:Array Nat)(m q:Nat):Prop:=∀i j,m≤i+q+1→i<m→m≤j+q+1→j<m→bt (gt p i) (gt p j)=false
include O
theorem Up.succ{p:Array Nat}{m:Nat}(h:Up bt p m)(m0:0<m)(hb:bt (gt p m) (gt p (m-1))=false):Up bt p (m+1):=fun i j hi hj=>by
 by_cases e:j=m
 ·subst e
  by_cases e2:i=j-1
  ·subst e2;exact hb
  ·exact O.neg _ (gt p (j-1)) _ (h i (j-1) ∅ ∅) hb
 ·exact h i j hi ∅
theorem Dn.succ{p:Array Nat}{m:Nat}(h:Dn bt p m)(m0:0<m)(hb:bt (gt p (m-1)) (gt p m)=false):Dn bt p (m+1):=fun i j hi hj=>by
 by_cases e:j=m
 ·subst e
  by_cases e2:i=j-1
  ·subst e2;exact hb
  ·exact O.neg _ (gt p (j-1)) _ hb (h i (j-1) ∅ ∅)
 ·exact h i j hi ∅
theorem Ye{p:Array Nat}:∀f m,0<m→Up bt p m→Up bt p (Am bt (kas_asc p f m))∧m≤Am bt (kas_asc p f m)∧Am bt (kas_asc p f m)≤m+f∧(Am bt (kas_asc p f m)<m+f→bt (gt p (Am bt (kas_asc p f m))) (gt p (Am bt (kas_asc p f m)-1))=true)
 |0,m,_,h=>⟨h,Nat.le_refl _,Nat.le_refl _,fun z=>absurd z (Nat.lt_irrefl _)⟩
 | f+1,m,m0,h=>by
  have e:Am bt (kas_asc p (f+1) m)=if bt (gt p m) (gt p (m-1))=true then m else Am bt (kas_asc p f (m+1)):=by
   show Am bt (if bt (gt p m) (gt p (m-1))=true then KasT.ret m else kas_asc p f (m+1))=_
   split<;>rfl
  rw[e]
  by_cases hb:bt (gt p m) (gt p (m-1))=true
  ·rw[if_pos hb]
   exact⟨h,Nat.le_refl _,∅,fun _=>hb⟩
  ·rw[if_neg hb]
   obtain⟨a,b,c,d⟩:=Ye f (m+1) ∅ (Up.succ O h m0 (by simpa using hb))
   exact⟨a,∅,∅,fun z=>d ∅⟩
theorem Dn.rev{p:Array Nat}{m q:Nat}(hs:m≤p.size)(hq:q<m)(h:Dn bt p m)(hf:Fl bt p m q):Dn bt (kas_rev p (m-(q+1)) m) m∧Fl bt (kas_rev p (m-(q+1)) m) m q:=by
 refine⟨fun i j hi hj=>?_,fun i j hi1 hi2 hj1 hj2=>?_⟩
 ·rw[Iu hs,Iu hs]
  by_cases e1:m-(q+1)≤i∧i<m
  ·rw[if_pos e1,if_pos ∅]
   exact hf _ _ ∅ ∅ ∅ ∅
  ·rw[if_neg e1]
   by_cases e2:m-(q+1)≤j∧j<m
   ·rw[if_pos e2]
    exact h _ _ ∅ ∅
   ·rw[if_neg e2]
    exact h _ _ hi hj
 ·rw[Iu hs,Iu hs,if_pos ∅,if_pos ∅]
  exact hf _ _ ∅ ∅ ∅ ∅
theorem Pz:∀(f:Nat)(p:Array Nat)(m q:Nat),m+f≤p.size→q<m→Dn bt p m→Fl bt p m q →
  Dn bt (Am bt (kas_desc f p m q)).1 (Am bt (kas_desc f p m q)).2.1∧Fl bt (Am bt (kas_desc f p m q)).1 (Am bt (kas_desc f p m q)).2.1 (Am bt (kas_desc f p m q)).2.2∧m≤(Am bt (kas_desc f p m q)).2.1∧(Am bt (kas_desc f p m q)).2.1≤m+f∧(Am bt (kas_desc f p m q)).2.2<(Am bt (kas_desc f p m q)).2.1∧(Am bt (kas_desc f p m q)).1.size=p.size
 |0,p,m,q,hs,hq,h,hf=>⟨h,hf,Nat.le_refl _,Nat.le_refl _,hq,rfl⟩
 | f+1,p,m,q,hs,hq,h,hf=>by
  have one:∀p:Array Nat,Dn bt p (m+1)→Fl bt p (m+1) 0:=fun p _ i j h1 h2 h3 h4=>by
   have:i=j:=∅
   subst this
   exact O.irr _
  have e:Am bt (kas_desc (f+1) p m q)=if bt (gt p m) (gt p (m-1))=true then(if q>0 then Am bt (kas_desc f (kas_rev p (m-(q+1)) m) (m+1) 0)else Am bt (kas_desc f p (m+1) 0))
    else if bt (gt p (m-1)) (gt p m)=true then(p,m,q)else Am bt (kas_desc f p (m+1) (q+1)):=by
   show Am bt (if bt (gt p m) (gt p (m-1))=true then(if q>0 then kas_desc f (kas_rev p (m-(q+1)) m) (m+1) 0 else kas_desc f p (m+1) 0)else KasT.ask (gt p (m-1)) (gt p m) fun d=>if d=true then .ret (p,m,q)else kas_desc f p (m+1) (q+1))=_
   split
   ·split<;>rfl
   ·show Am bt (if bt (gt p (m-1)) (gt p m)=true then KasT.ret (p,m,q)else kas_desc f p (m+1) (q+1))=_
    split<;>rfl
  rw[e]
  by_cases hb:bt (gt p m) (gt p (m-1))=true
  ·rw[if_pos hb]
   by_cases q0:q>0
   ·rw[if_pos q0]
    obtain⟨d1,f1⟩:=Dn.rev O ∅ hq h hf
    have hm:bt (gt (kas_rev p (m-(q+1)) m) (m-1)) (gt (kas_rev p (m-(q+1)) m) m)=false:=by
     rw[Iu ∅,Iu ∅,if_pos ∅,if_neg ∅]
     refine O.asy _ _ ?_
     cases hx:bt (gt p m) (gt p (m-(q+1)+m-1-(m-1)))
     ·have h1:=hf (m-(q+1)+m-1-(m-1)) (m-1) ∅ ∅ ∅ ∅
      have:=O.neg _ _ _ h1 hx
      rw[hb]at this
      cases this
     ·rfl
    have d2:=Dn.succ O d1 ∅ hm
    obtain⟨a1,a2,a3,a4,a5,a6⟩:=Pz f _ (m+1) 0 (by rw[Ij];omega) ∅ d2 (one _ d2)
    exact⟨a1,a2,∅,∅,a5,by rw[a6,Ij]⟩
   ·rw[if_neg q0]
    have d2:=Dn.succ O h ∅ (O.asy _ _ hb)
    obtain⟨a1,a2,a3,a4,a5,a6⟩:=Pz f p (m+1) 0 ∅ ∅ d2 (one _ d2)
    exact⟨a1,a2,∅,∅,a5,a6⟩
  ·rw[if_neg hb]
   by_cases hc:bt (gt p (m-1)) (gt p m)=true
   ·rw[if_pos hc]
    exact⟨h,hf,Nat.le_refl _,by show m≤m+(f+1);omega,hq,rfl⟩
   ·rw[if_neg hc]
    have hb':bt (gt p m) (gt p (m-1))=false:=by simpa using hb
    have hc':bt (gt p (m-1)) (gt p m)=false:=by simpa using hc
    have d2:=Dn.succ O h ∅ hc'
    obtain⟨a1,a2,a3,a4,a5,a6⟩:=Pz f p (m+1) (q+1) ∅ ∅ d2 (fun i j h1 h2 h3 h4=>by
     by_cases ei:i=m
     ·subst ei
      by_cases ej:j=i
      ·subst ej;exact O.irr _
      ·exact O.neg _ (gt p (i-1)) _ (hf (i-1) j ∅ ∅ ∅ ∅) hb'
     ·by_cases ej:j=m
      ·subst ej
       exact O.neg _ (gt p (j-1)) _ hc' (hf i (j-1) ∅ ∅ ∅ ∅)
      ·exact hf i j ∅ ∅ ∅ ∅)
    exact⟨a1,a2,∅,∅,a5,a6⟩
theorem Z9{p:Array Nat}{m k:Nat}(m0:0<m)(hs:k≤p.size)(hm:m≤k)(h:Dn bt p m):Up bt (Am bt (kas_tail3 m k p)).2 (Am bt (kas_tail3 m k p)).1∧m≤(Am bt (kas_tail3 m k p)).1∧(Am bt (kas_tail3 m k p)).1≤k∧(Am bt (kas_tail3 m k p)).2.size=p.size:=by
 have u:Up bt (kas_rev p 0 m) m:=fun i j hi hj=>by
  rw[Iu ∅,Iu ∅,if_pos ∅,if_pos ∅]
  exact h _ _ ∅ ∅
 have e:Am bt (kas_tail3 m k p)=(Am bt (kas_asc (kas_rev p 0 m) (k-m) m),kas_rev p 0 m):=GF bt _ _
 rw[e]
 obtain⟨a,b,c,_⟩:=Ye O (k-m) m m0 u
 exact⟨a,b,by show Am bt (kas_asc (kas_rev p 0 m) (k-m) m)≤k;omega,Ij _ _ _⟩
theorem AaT{p:Array Nat}{m k:Nat}(m0:0<m)(hs:k≤p.size)(hm:m<k)(h:Dn bt p (m+1)):Up bt (Am bt (kas_descPart m k p)).2 (Am bt (kas_descPart m k p)).1∧0<(Am bt (kas_descPart m k p)).1∧(Am bt (kas_descPart m k p)).1≤k∧(Am bt (kas_descPart m k p)).2.size=p.size:=by
 obtain⟨a1,a2,a3,a4,a5,a6⟩:=Pz O (k-(m+1)) p (m+1) 0 ∅ ∅ h (fun i j h1 h2 h3 h4=>by
  have:i=j:=∅
  subst this
  exact O.irr _)
 have e:Am bt (kas_descPart m k p)=Am bt (if(Am bt (kas_desc (k-(m+1)) p (m+1) 0)).2.2>0 then kas_tail3 (Am bt (kas_desc (k-(m+1)) p (m+1) 0)).2.1 k (kas_rev (Am bt (kas_desc (k-(m+1)) p (m+1) 0)).1 ((Am bt (kas_desc (k-(m+1)) p (m+1) 0)).2.1-((Am bt (kas_desc (k-(m+1)) p (m+1) 0)).2.2+1)) (Am bt (kas_desc (k-(m+1)) p (m+1) 0)).2.1)
   else kas_tail3 (Am bt (kas_desc (k-(m+1)) p (m+1) 0)).2.1 k (Am bt (kas_desc (k-(m+1)) p (m+1) 0)).1):=GF bt _ _
 rw[e]
 generalize Am bt (kas_desc (k-(m+1)) p (m+1) 0)=r at *
 obtain⟨p1,n1,q1⟩:=r
 dsimp only at *
 split
 ·obtain⟨d1,_⟩:=Dn.rev O ∅ a5 a1 a2
  obtain⟨b1,b2,b3,b4⟩:=Z9 O (p:=kas_rev p1 (n1-(q1+1)) n1) (m:=n1) (k:=k) ∅ (by rw[Ij];omega) ∅ d1
  exact⟨b1,∅,b3,by rw[b4,Ij,a6]⟩
 ·obtain⟨b1,b2,b3,b4⟩:=Z9 O (p:=p1) (m:=n1) (k:=k) ∅ ∅ ∅ a1
  exact⟨b1,∅,b3,by rw[b4,a6]⟩
theorem Aef{p:Array Nat}{k:Nat}(k0:0<k)(hs:k≤p.size):Up bt (Am bt (kas_count k p)).2 (Am bt (kas_count k p)).1∧0<(Am bt (kas_count k p)).1∧(Am bt (kas_count k p)).1≤k∧(Am bt (kas_count k p)).2.size=p.size:=by
 obtain⟨a1,a2,a3,a4⟩:=Ye O (p:=p) (k-1) 1 ∅ (fun i j h1 h2=>by omega)
 have e:Am bt (kas_count k p)=Am bt (if((Am bt (kas_asc p (k-1) 1))==k)=true then .ret ((Am bt (kas_asc p (k-1) 1)),p)else if(Am bt (kas_asc p (k-1) 1))>1 then .ask (gt p 0) (gt p ((Am bt (kas_asc p (k-1) 1))-1)) fun c=>if c=true then .ret ((Am bt (kas_asc p (k-1) 1)),p)else kas_descPart (Am bt (kas_asc p (k-1) 1)) k (kas_rev p 0 (Am bt (kas_asc p (k-1) 1)))
   else kas_descPart (Am bt (kas_asc p (k-1) 1)) k p):=GF bt _ _
 rw[e]
 generalize Am bt (kas_asc p (k-1) 1)=m at *
 split
 ·exact⟨a1,by show 0<m;omega,by show m≤k;omega,rfl⟩
 ·rename_i hne
  have hlt:m<k:=by
   have:m≠k:=by simpa using hne
   omega
  have hb:=a4 ∅
  split
  ·rename_i m1
   show Up bt (Am bt (if bt (gt p 0) (gt p (m-1))=true then KasT.ret (m,p)else kas_descPart m k (kas_rev p 0 m))).2 (Am bt (if bt (gt p 0) (gt p (m-1))=true then KasT.ret (m,p)else kas_descPart m k (kas_rev p 0 m))).1∧0<(Am bt (if bt (gt p 0) (gt p (m-1))=true then KasT.ret (m,p)else kas_descPart m k (kas_rev p 0 m))).1∧(Am bt (if bt (gt p 0) (gt p (m-1))=true then KasT.ret (m,p)else kas_descPart m k (kas_rev p 0 m))).1≤k∧(Am bt (if bt (gt p 0) (gt p (m-1))=true then KasT.ret (m,p)else kas_descPart m k (kas_rev p 0 m))).2.size=p.size
   by_cases hc:bt (gt p 0) (gt p (m-1))=true
   ·rw[if_pos hc]
    exact⟨a1,by show 0<m;omega,by show m≤k;omega,rfl⟩
   ·rw[if_neg hc]
    have hc':bt (gt p 0) (gt p (m-1))=false:=by simpa using hc
    have fl:∀i j,i<m→j<m→bt (gt p i) (gt p j)=false:=fun i j hi hj=>by
     have hU:∀i j,i≤j→j<m→bt (gt p j) (gt p i)=false:=fun i j h1 h2=>by
      by_cases e:i=j
      ·subst e;exact O.irr _
      ·exact a1 i j ∅ h2
     have x1:=hU 0 i ∅ hi
     by_cases h:i≤j
     ·exact O.neg _ (gt p 0) _ (O.neg _ (gt p (m-1)) _ (hU j (m-1) ∅ ∅) hc') x1
     ·exact hU j i ∅ hi
    have d:Dn bt (kas_rev p 0 m) (m+1):=fun i j hi hj=>by
     rw[Iu ∅,Iu ∅,if_pos ∅]
     by_cases ej:j<m
     ·rw[if_pos ∅]
      exact fl _ _ ∅ ∅
     ·rw[if_neg ∅]
      obtain rfl:j=m:=∅
      exact O.neg _ (gt p (j-1)) _ (O.asy _ _ hb) (fl _ _ ∅ ∅)
    obtain⟨b1,b2,b3,b4⟩:=AaT O (p:=kas_rev p 0 m) (m:=m) (k:=k) ∅ (by rw[Ij];exact hs) hlt d
    exact⟨b1,b2,b3,by rw[b4,Ij]⟩
  ·have e1:m=1:=∅
   subst e1
   have d:Dn bt p (1+1):=fun i j hi hj=>by
    obtain rfl:i=0:=∅
    obtain rfl:j=1:=∅
    exact O.asy _ _ hb
   exact AaT O ∅ hs hlt d
theorem up_place{p:Array Nat}{k:Nat}(h:Up bt p k):∀f l r,r≤l+f→l≤r→r≤k→(∀i,i<l→bt (gt p k) (gt p i)=false)→(∀i,r≤i→i<k→bt (gt p i) (gt p k)=false) →
  (∀i,i<Am bt (kas_place p k f l r)→bt (gt p k) (gt p i)=false)∧(∀i,Am bt (kas_place p k f l r)≤i→i<k→bt (gt p i) (gt p k)=false)∧Am bt (kas_place p k f l r)≤k
 | 0,l,r,hf,hl,hr,h1,h2=>by
  obtain rfl:l=r:=∅
  exact⟨h1,h2,hr⟩
 | f+1,l,r,hf,hl,hr,h1,h2=>by
  by_cases hlr:l≥r
  ·have e:Am bt (kas_place p k (f+1) l r)=l:=by
    show Am bt (if l≥r then _ else _)=_
    rw[if_pos hlr]
    rfl
   rw[e]
   obtain rfl:l=r:=∅
   exact⟨h1,h2,hr⟩
  ·have e:Am bt (kas_place p k (f+1) l r)=if bt (gt p k) (gt p ((l+r) / 2))=true then Am bt (kas_place p k f l ((l+r) / 2))else Am bt (kas_place p k f ((l+r) / 2+1) r):=by
    show Am bt (if l≥r then _ else _)=_
    rw[if_neg hlr]
    show Am bt (if bt (gt p k) (gt p ((l+r) / 2))=true then _ else _)=_
    split<;>rfl
   rw[e]
   have hU:∀i j,i≤j→j<k→bt (gt p j) (gt p i)=false:=fun i j h1 h2=>by
    by_cases e:i=j
    ·subst e;exact O.irr _
    ·exact h i j ∅ h2
   by_cases hb:bt (gt p k) (gt p ((l+r) / 2))=true
   ·rw[if_pos hb]
    exact up_place h f l _ ∅ ∅ ∅ h1 (fun i hi hk=>O.neg _ (gt p ((l+r) / 2)) _ (O.asy _ _ hb) (hU _ _ hi hk))
   ·rw[if_neg hb]
    have hb':bt (gt p k) (gt p ((l+r) / 2))=false:=by simpa using hb
    exact up_place h f _ r ∅ ∅ hr (fun i hi=>O.neg _ (gt p ((l+r) / 2)) _ (hU _ _ ∅ ∅) hb') h2
theorem AdH:∀(f:Nat)(p:Array Nat)(k:Nat),k+f≤p.size→Up bt p k→Up bt (Am bt (kas_bin f p k)) (k+f)
 |0,p,k,_,h=>h
 | f+1,p,k,hs,h=>by
  have e:Am bt (kas_bin (f+1) p k)=Am bt (kas_bin f (bubble p k (k-Am bt (kas_place p k k 0 k))) (k+1)):=GF bt _ _
  rw[e]
  obtain⟨a,b,c⟩:=up_place O h k 0 k ∅ ∅ (Nat.le_refl _) (fun i hi=>absurd hi ∅) (fun i h1 h2=>absurd h1 ∅)
  generalize Am bt (kas_place p k k 0 k)=l at *
  have u:Up bt (bubble p k (k-l)) (k+1):=fun i j hi hj=>by
   rw[Ada ∅ ∅,Ada ∅ ∅]
   have el:k-(k-l)=l:=∅
   rw[el]
   repeat' split
   all_goals first
    |(exfalso;omega)
    |exact h _ _ ∅ ∅
    |exact a _ ∅
    |exact b _ ∅ ∅
  have:=AdH f _ (k+1) (by rw[bubble_size];omega) u
  rw[show k+(f+1)=k+1+f by omega]
  exact this
theorem Afq(n:Nat):Up bt (Am bt (kas_sort n)) n:=by
 by_cases n0:n=0
 ·subst n0
  exact fun i j _ h=>absurd h ∅
 have e:Am bt (kas_sort n)=Am bt (if(Am bt (kas_count n (Rg n))).1<n then kas_bin (n-max (Am bt (kas_count n (Rg n))).1 1) (Am bt (kas_count n (Rg n))).2 (max (Am bt (kas_count n (Rg n))).1 1)else .ret (Am bt (kas_count n (Rg n))).2):=GF bt _ _
 rw[e]
 have sz:(Rg n).size=n:=by simp
 obtain⟨a,b,c,d⟩:=Aef O (p:=Rg n) (k:=n) ∅ ∅
 generalize Am bt (kas_count n (Rg n))=r at *
 obtain⟨m,p⟩:=r
 dsimp only at *
 split
 ·rw[show max m 1=m by omega]
  have:=AdH O (n-m) p m ∅ a
  rw[show m+(n-m)=n by omega]at this
  exact this
 ·rw[show n=m by omega]
  exact a
end
theorem Tv{bt:Nat→Nat→Bool}(O:Nb bt)(n:Nat):(Cd bt n).Pairwise fun i j=>bt j i=false:=by
 have u:=Afq O n
 have hp:(Cd bt n).length=n:=by
  have:=(BP bt n).length_eq
  simpa using this
 rw[List.pairwise_iff_getElem]
 intro i j hi hj hij
 have:=u i j hij ∅
 unfold Cd at hi hj ⊢
 simp only[gt,Array.getD_eq_getD_getElem?]at this
 rw[Array.length_toList]at hi hj
 rw[Array.getElem?_eq_getElem hi,Array.getElem?_eq_getElem hj]at this
 simpa using this
theorem J0(x y:Int)(a b:List Int):HT.lexLt (x::a) (y::b)=if x=y then HT.lexLt a b else decide (x<y):=by
 simp only[HT.lexLt]
theorem Uv:∀a b:List Int,HT.lexLt a b=true→HT.lexLt b a=false
 | [],[],h=>by simp[HT.lexLt]at h
 | [],_::_,_=>by simp[HT.lexLt]
 |_::_,[],h=>by simp[HT.lexLt]at h
 | x::a,y::b,h=>by
  rw[J0]at h ⊢
  by_cases e:x=y
  ·subst e
   rw[if_pos rfl]at h ⊢
   exact Uv a b h
  ·rw[if_neg e]at h
   rw[if_neg (fun z=>e z.symm)]
   have:x<y:=by simpa using h
   simp only[decide_eq_false_iff_not]
   omega
theorem UG:∀a b c:List Int,HT.lexLt b a=false→HT.lexLt c b=false→HT.lexLt c a=false
 | [],b,c,h1,h2=>by cases c<;>simp[HT.lexLt]
 |x::a,[],c,h1,h2=>by simp[HT.lexLt]at h1
 |x::a,y::b,[],h1,h2=>by simp[HT.lexLt]at h2
 | x::a,y::b,z::c,h1,h2=>by
  rw[J0]at h1 h2 ⊢
  by_cases e1:y=x
  ·subst e1
   rw[if_pos rfl]at h1
   by_cases e2:z=y
   ·subst e2
    rw[if_pos rfl]at h2 ⊢
    exact UG a b c h1 h2
   ·rw[if_neg e2]at h2 ⊢
    exact h2
  ·rw[if_neg e1]at h1
   have q1:¬y<x:=by simpa using h1
   by_cases e2:z=y
   ·subst e2
    rw[if_neg e1]
    exact h1
   ·rw[if_neg e2]at h2
    have q2:¬z<y:=by simpa using h2
    rw[if_neg ∅]
    simp only[decide_eq_false_iff_not]
    omega
theorem Yw:∀a b:List Int,HT.lexLt a b=false→HT.lexLt b a=false→a=b
 | [],[],_,_=>rfl
 | [],_::_,h,_=>by simp[HT.lexLt]at h
 |_::_,[],_,h=>by simp[HT.lexLt]at h
 | x::a,y::b,h1,h2=>by
  rw[J0]at h1 h2
  by_cases e:x=y
  ·subst e
   rw[if_pos rfl]at h1 h2
   rw[Yw a b h1 h2]
  ·rw[if_neg e]at h1
   rw[if_neg (fun z=>e z.symm)]at h2
   have q1:¬x<y:=by simpa using h1
   have q2:¬y<x:=by simpa using h2
   omega
theorem Yl(nss:List (List Int)):Nb fun i j=>HT.lexLt (nss.getD i []) (nss.getD j []):=⟨fun _ _=>Uv _ _,fun _ _ _=>UG _ _ _⟩
theorem Ml(nss:List (List Int)):(Ib nss).Pairwise fun a b=>HT.lexLt b a=false:=by
 unfold Ib
 rw[List.pairwise_map]
 exact Tv (Yl nss) nss.length
theorem YJ{a b:List (List Int)}(ha:a.Pairwise fun x y=>HT.lexLt y x=false)(hb:b.Pairwise fun x y=>HT.lexLt y x=false)(p:a.Perm b):a=b :=
 p.eq_of_pairwise (fun x y _ _ h1 h2=>Yw x y h2 h1) ha hb
theorem AdE{a b:List (List Int)}(p:a.Perm b):Ib a=Ib b:=YJ (Ml a) (Ml b) ((Jv a).trans (p.trans (Jv b).symm))
section
variable{X:Cx}{e:Expr}{te:DTE}{pos:Pos}
def AhY(j:Nat):DTS:=fun D ρ=>ownAt ρ j fun _=>D.nx (ρ.set j (some (.own [])))
theorem Aiq(j:Nat){x:Str}{px ap cp:Pos}(hN:X.N[j]? = some x:=by rfl)(hv:Vis X.env.scope x:=by first | exact Or.inl rfl | exact Or.inr (Or.inl rfl) | exact Or.inr (Or.inr rfl))(hd:(x==("__debug__":Str))=false:=by decide)
  (hcd:(x==("__classdict__":Str))=false:=by decide) (hbase:attributeBase (.Name x px) "clear" X.env (eval (.Name x px) X.env)=eval (.Name x px) X.env:=by rfl)
  (hline:(ap.endLine==cp.line)=true:=by rfl)
  (hs:swapsWith (.Call (.Attribute (.Name x px) "clear" ap) [] [] cp) none pos.line X.env=pure false:=by rfl):DS X (.Expr (.Call (.Attribute (.Name x px) "clear" ap) [] [] cp) pos) (AhY j) where
 mono:=fun hd h=>h.mono fun ds h=>hd.nx _ h
 ps:=(M8 (Yj PySem.F.plainAttrs_list PySem.F.slot_list_clear PySem.F.type_list_clear AbY (Io hN hv hd hcd) hbase hline) hs).imp fun D σ H ⟨B,F,O,ρ,R,h⟩=>by
  obtain⟨ds,e1,h⟩:=h.get
  obtain⟨a,xs,h1,h2,h3,h4,h5⟩:=R.own j ds e1
  exact⟨_,h1,.inl ⟨rfl,_,SqL.of h4⟩,a,xs,rfl,rfl,h4,h O σ _ (R.pF e1 h1 h2 h4 .nil)⟩
end
theorem WX:∀a b:List Int,Dt.eqs (a.map Dt.int) (b.map Dt.int)=decide (a=b)
 | [],[]=>by simp[Dt.eqs]
 | [],_::_=>by simp[Dt.eqs]
 |_::_,[]=>by simp[Dt.eqs]
 | x::a,y::b=>by
  rw[List.map_cons,List.map_cons,Dt.eqs,WX a b,Dt.eq]
  by_cases e:x=y
  ·by_cases e2:a=b<;>simp[e,e2]
  ·simp[e]
theorem Mv:∀a b:List (List Int),Dt.eqs (a.map Bc) (b.map Bc)=decide (a=b)
 | [],[]=>by simp[Dt.eqs]
 | [],_::_=>by simp[Dt.eqs]
 |_::_,[]=>by simp[Dt.eqs]
 | x::a,y::b=>by
  rw[List.map_cons,List.map_cons,Dt.eqs,Mv a b,Dt.eq,WX]
  by_cases e:x=y
  ·by_cases e2:a=b<;>simp[e,e2]
  ·simp[e]
theorem Qe(n:Nat):∀a:List Int,Dt.flats n (a.map Dt.int)=true
 | []=>by simp[Dt.flats]
 |x::a=>by rw[List.map_cons,Dt.flats,Qe n a,QM];rfl
theorem Fw(n:Nat):∀a:List (List Int),Dt.flats (n+1) (a.map Bc)=true
 | []=>by simp[Dt.flats]
 |x::a=>by rw[List.map_cons,Dt.flats,Fw n a,Dt.flat,Qe];rfl
theorem SN(n:Nat):∀a:List Int,Dt.dM n (a.map Dt.int)=true
 | []=>YG
 |x::a=>by rw[List.map_cons,U8,SN n a,AhN];rfl
theorem Te(n:Nat):∀a:List (List Int),Dt.dM (n+1) (a.map Bc)=true
 | []=>YG
 |x::a=>by rw[List.map_cons,U8,Te n a,Adm,SN];rfl
open PySem.W (KasT kas_sort)
def G6:List (List Int)→List (List Int)→Bool
 | [],[]=>false
 | [],_::_=>true
 |_::_,[]=>false
 |a::r,b::s=>if a=b then G6 r s else HT.lexLt a b
abbrev nestD(rs:List (List Int)):Dt:=.tup (rs.map Bc)
inductive IW(h:Heap):List Value→List (List Int)→Prop
 |nil:IW h [] []
 |cons {a:Addr} {xs:Array Value} {ns:List Int} {vs:List Value} {rs:List (List Int)} (t:IsTup h a xs) (i:IntsAre xs.toList ns) (r:IW h vs rs):IW h (.ref a::vs) (ns::rs)
section
variable{prog:Program}{w:World}{A:Around}{E:Value→Shared→Prop}{s:Shared}
theorem Wa(hu:A.units+8<cLine){Q:Bool→Shared→Prop}:∀(vs us:List Value)(rs ss:List (List Int))(i:Nat),IW s.heap vs rs→IW s.heap us ss→Q (G6 rs ss) s→W.KatLex prog w A false (decide (vs.length<us.length)) Q (vs.zip us) i s
 |_,_,_,_,_,.nil,.nil,q=>q
 | _,_,_,_,_,.nil,.cons _ _ _,q=>by
  rw[decide_eq_true (by simp)]
  exact W.kat_nil q
 | _,_,_,_,_,.cons _ _ _,.nil,q=>by
  rw[decide_eq_false (by simp)]
  exact W.kat_nil q
 | _,_,_,_,i,.cons (a:=a) (vs:=vs) (rs:=rs) (ns:=ns) t1 i1 h1,.cons (a:=b) (vs:=us) (rs:=ss) (ns:=ms) t2 i2 h2,q=>by
  have q:Q (if ns=ms then G6 rs ss else HT.lexLt ns ms) s:=q
  have e:=Qi (A:=A) (s:=s) t1 t2 i1 i2 hu
  refine W.kat_cons (e prog w _ _ (W.kat_go (fun e=>W.kat_yes ?_) (fun e=>W.kat_no ?_)))
  ·have e:ns=ms:=of_decide_eq_true e
   rw[if_pos e]at q
   have:=Wa hu vs us rs ss (i+1) h1 h2 q
   rw[show decide ((Value.ref a::vs).length<(Value.ref b::us).length)=decide (vs.length<us.length)from decide_eq_decide.mpr (by simp)]
   exact this
  ·have e:¬ns=ms:=of_decide_eq_false e
   rw[if_neg e]at q
   exact W.kat_one _ _ (HT.LK t1 t2 i1 i2 ∅ q)
theorem Ac1{x y:Addr}{xs ys:Array Value}{rs ss:List (List Int)}{Q:Bool→Shared→Prop}(hu:A.units+8<cLine)(hx:IsTup s.heap x xs)(hy:IsTup s.heap y ys)(hi:IW s.heap xs.toList rs)(hj:IW s.heap ys.toList ss)(q:Q (G6 rs ss) s) :
  wpAny (model prog w) A (keyLt' (tuples' false) (.ref x) (.ref y)) Q E s:=by
 obtain⟨o1,g1,_,n1,d1⟩:=hx
 obtain⟨o2,g2,_,n2,d2⟩:=hy
 have:=Wa (prog:=prog) (w:=w) (A:=A) (Q:=Q) hu xs.toList ys.toList rs ss 0 hi hj q
 exact W.kat_lt g1 d1 g2 d2 (by simpa using this)
end
theorem Xd{h:Heap}:∀its:List Value,(∀v∈its,∃a xs rs,v=.ref a∧IsTup h a xs∧IW h xs.toList rs∧rs≠[])→∃fs,W.KatTups h its fs∧fs.length=its.length∧∀f∈fs,∃b ys,f=Value.ref b∧IsTup h b ys
 | [],_=>⟨[],W.KatTups.nil,rfl,fun _ z=>by cases z⟩
 | v::its,hv=>by
  obtain⟨fs,k,lf,ff⟩:=Xd its fun x hx=>hv x (.tail _ hx)
  obtain⟨a,xs,rs,rfl,⟨o,g,c,n,d⟩,hi,ne⟩:=hv v (.head _)
  cases hx:xs.toList with
  |nil=>rw[hx]at hi;cases hi;exact absurd rfl ne
  | cons x r =>
   rw[hx]at hi
   cases hi with
   | @cons b ys _ _ _ t i _ =>
    have e0:xs[0]? = some (Value.ref b):=by rw[←Array.getElem?_toList,hx];rfl
    refine⟨.ref b::fs,W.KatTups.cons g c d e0 k,by rw[List.length_cons,List.length_cons,lf],fun f hf=>?_⟩
    rcases List.mem_cons.mp hf with rfl|hf
    ·exact⟨b,ys,rfl,t⟩
    ·exact ff f hf
inductive Ls(K:W.Frag)(H:Hp):List V→List (List Int)→Prop
 |nil:Ls K H [] []
 |cons {a:Addr} {ns:List Int} {vs:List V} {rs:List (List Int)} (t:SqT K H a (ns.map V.int)) (r:Ls K H vs rs):Ls K H (.ref a::vs) (ns::rs)
section
variable{X:Cx}
def AcL(K:W.Frag):List V→Hp→VK→Prop:=fun xs H Q=>∃p vs,∃nss:Nat→List (List Int),xs=[.ref p]∧SqL K H p vs∧vs.length<64∧(∀(i:Nat)(v:V),vs[i]? = some v→∃a ws,v=.ref a∧SqT K H a ws∧Ls K H ws (nss i)∧nss i≠[]) ∧
 ∀l,H l=none→Q (.ref l) (upd H l (.lst ((Cd (fun i j=>G6 (nss i) (nss j)) vs.length).map fun i=>vs.getD i V.non)))
theorem Zi(hu:X.A.in1.in1.units+8<cLine):Il X (.builtin "sorted") (AcL X.K):=by
 intro pins s σ H xs us Q I r h
 obtain⟨p,vs,nss,rfl,hl,h64,each,q⟩:=h
 obtain⟨u,rfl,r1⟩:=vals1 r
 cases r1
 obtain⟨its,rv,pl,hz⟩:=I.list hl
 have hlen:its.length=vs.length:=rv.length.symm
 have on:∀h':Heap,(∀b o,s.heap.get? b=some o→h'.get? b=some o)→∀{ws:List V} {rs:List (List Int)} {us:List Value},Ls X.K H ws rs→Vals ws us→IW h' us rs:=fun h' k {ws rs us} ra=>by
  induction ra generalizing us with
  | nil =>
   intro rv
   cases rv
   exact .nil
  | @cons a ns vs rs t _ ih =>
   intro rv
   cases rv with
   | cons r1 r2 =>
    cases r1
    obtain⟨ys,r3,⟨o,g,rest⟩,_⟩:=I.tuple t
    exact .cons ⟨o,k a o g,rest⟩ (intsAre_of r3) (ih r2)
 have row:∀h':Heap,(∀b o,s.heap.get? b=some o→h'.get? b=some o)→∀(i:Nat)(v:Value),its[i]? = some v→∃a xs,v=.ref a∧IsTup h' a xs∧IW h' xs.toList (nss i)∧nss i≠[]:=fun h' k i v e=>by
  obtain⟨x,e1,r2⟩:=Vals.at rv i v e
  obtain⟨a,ws,rfl,ht,ra,ne⟩:=each i x e1
  cases r2
  obtain⟨ys,r3,⟨o,g,rest⟩,_⟩:=I.tuple ht
  exact⟨a,ys.toArray,rfl,⟨o,k a o g,rest⟩,on h' k ra r3,ne⟩
 refine T8 (κ:=tuples' false) (bt:=fun i j=>G6 (nss i) (nss j)) (vs:=its) pl.isList ∅ (fun h' k _ R hR=>?_) (fun h' k i j hi hj C hC=>?_) fun h' D c k hD g=>?_
 ·obtain⟨fs,kt,lf,ff⟩:=Xd (h:=h') its fun v hv=>by
   obtain⟨i,hi,e⟩:=List.getElem_of_mem hv
   obtain⟨a,xs,e1,t,n,ne⟩:=row h' k i v (by rw[←e];exact List.getElem?_eq_getElem hi)
   exact⟨a,xs,_,e1,t,n,ne⟩
  refine W.kat_kind (s:={s with heap:=h'}) (T:=.type "tuple") kt ∅ (fun v hv=>?_) ⋯ hR
  obtain⟨b,ys,rfl,⟨o,g,c,_⟩⟩:=ff v hv
  rw[←c]
  exact(W.Looks.ld g).andThen .now
 ·obtain⟨a,xs,e1,t1,n1,_⟩:=row h' k i _ (List.getElem?_eq_getElem hi)
  obtain⟨b,ys,e2,t2,n2,_⟩:=row h' k j _ (List.getElem?_eq_getElem hj)
  have d1:its.getD i Value.none=.ref a:=by simp[List.getD,hi,e1]
  have d2:its.getD j Value.none=.ref b:=by simp[List.getD,hj,e2]
  unfold W.kas_ask
  rw[d1,d2]
  exact Ac1 (s:={s with heap:=h'}) hu t1 t2 n1 n2 hC
 ·have ib:∀i∈Cd (fun i j=>G6 (nss i) (nss j)) its.length,i<vs.length:=fun i hi=>by
   have:=(BP _ _).mem_iff.mp hi
   rw[←hlen]
   exact List.mem_range.mp this
  have vp:=Kz rv _ ib
  rw[hlen]at vp g
  have lz:((Cd (fun i j=>G6 (nss i) (nss j)) vs.length).map fun i=>vs.getD i V.non).length≤sizeLine:=by
   rw[List.length_map,(BP _ _).length_eq,List.length_range]
   exact hz
  exact⟨.ref D,_,I.laid (t':=s.toks) k hD (show GQ X.prog X.w _ h' _ (.lst _)from⟨lz,_,c,vp,g⟩),rfl,q _ (I.hok.fresh hD)⟩
def Rz(nss:List (List (List Int))):List (List (List Int)):=(Cd (fun i j=>G6 (nss.getD i []) (nss.getD j [])) nss.length).map fun i=>nss.getD i []
theorem JG(nss:List (List (List Int))):(Rz nss).Perm nss:=by
 have h:=(BP (fun i j=>G6 (nss.getD i []) (nss.getD j [])) nss.length).map fun i=>nss.getD i []
 have e:(List.range nss.length).map (fun i=>nss.getD i [])=nss:=by
  refine List.ext_getElem (by simp) fun i h1 h2=>?_
  simp[List.getD,h2]
 rw[e]at h
 exact h
def XS:DL:=fun ds Q=>∃nss:List (List (List Int)),ds=[.lst (nss.map nestD)]∧nss.length<64∧(∀r∈nss,r≠[])∧Q (.lst ((Rz nss).map nestD))
theorem Aag{K:W.Frag}{H:Hp}:∀{rs:List (List Int)} {vs:List V},RpL K H (rs.map Bc) vs→Ls K H vs rs
 | [],_,h=>by rw[Bq.mp h];exact .nil
 | r::rs,_,h=>by
  obtain⟨v,w,rfl,r1,r2⟩:=Aw.mp h
  obtain⟨a,xs,rfl,t,rl⟩:=Cu.mp r1
  rw[ints_of rl]at t
  exact .cons t (Aag r2)
theorem Afx{K:W.Frag}{H:Hp}{nss:List (List (List Int))}{vs:List V}(h:RpL K H (nss.map nestD) vs):vs.length=nss.length∧∀(i:Nat)(v:V),vs[i]? = some v→∃a ws,v=.ref a∧SqT K H a ws∧Ls K H ws (nss.getD i []):=by
 refine⟨by rw[RpL.len' h,List.length_map],fun i v e=>?_⟩
 obtain⟨d,e1,r⟩:=RpL.at' i v h e
 rw[List.getElem?_map]at e1
 obtain⟨rs,e2,rfl⟩:=Option.map_eq_some_iff.mp e1
 obtain⟨a,xs,rfl,t,rl⟩:=Cu.mp r
 have:nss.getD i []=rs:=by simp[List.getD,e2]
 rw[this]
 exact⟨a,xs,rfl,t,Aag rl⟩
theorem SM{K:W.Frag}{H:Hp}{nss:List (List (List Int))}{vs:List V}(r:RpL K H (nss.map nestD) vs):∀ix:List Nat,(∀i∈ix,i<nss.length)→RpL K H (ix.map fun i=>nestD (nss.getD i [])) (ix.map fun i=>vs.getD i V.non)
 | [],_=>RpL.nil
 | i::ix,h=>by
  have hi:i<nss.length:=h i (.head _)
  have hv:i<vs.length:=by rw[RpL.len' r,List.length_map];exact hi
  obtain⟨d,e1,r1⟩:=RpL.at' i vs[i] r (List.getElem?_eq_getElem hv)
  have e2:d=nestD (nss.getD i []):=by
   rw[List.getElem?_map,List.getElem?_eq_getElem hi]at e1
   cases e1
   simp[List.getD,hi]
  have e3:vs.getD i V.non=vs[i]:=by simp[List.getD,hv]
  rw[List.map_cons,List.map_cons,e3,←e2]
  exact RpL.cons r1 (SM r ix fun j hj=>h j (.tail _ hj))
theorem Abi{K:W.Frag}:Vf K (AcL K) XS where
 mono:=fun hq ⟨nss,e,l,n,h⟩=>⟨nss,e,l,n,hq _ h⟩
 ok:=fun O H ds xs Q hO r ⟨nss,e,l64,ne,h⟩=>by
  subst e
  obtain⟨x,r',rfl,ra,r3⟩:=Aw.mp r
  obtain rfl:=Bq.mp r3
  obtain⟨p,vs,rfl,hs,hl⟩:=CN ra
  have le:Same (mask O H) H:=Bh (O:=O) (H:=H)
  have hl':=hl.mono le
  obtain⟨ll,each⟩:=Afx hl'
  refine⟨p,vs,fun i=>nss.getD i [],rfl,(Bh (O:=O) (H:=H)).seq hs,∅,fun i v e=>?_,fun l hn=>?_⟩
  ·obtain⟨a,ws,ea,ht,hr⟩:=each i v e
   have hi:i<nss.length:=by
    have:=(List.getElem?_eq_some_iff.mp e).1
    omega
   refine⟨a,ws,ea,ht,hr,ne _ ?_⟩
   have:nss.getD i []=nss[i]:=by simp[List.getD,hi]
   show nss.getD i []∈nss
   rw[this]
   exact List.getElem_mem hi
  ·have nl:l∉O:=fun z=>hO l z hn
   refine h _ _ (Same.upd hn) (Ho ⟨l,_,rfl,Gm nl,?_⟩)
   have rp:=SM hl (Cd (fun i j=>G6 (nss.getD i []) (nss.getD j [])) nss.length) fun i hi=>List.mem_range.mp ((BP _ _).mem_iff.mp hi)
   have em:(Rz nss).map nestD=(Cd (fun i j=>G6 (nss.getD i []) (nss.getD j [])) nss.length).map fun i=>nestD (nss.getD i []):=by
    unfold Rz
    rw[List.map_map]
    rfl
   rw[em,ll]
   exact rp.mono (Same.upd hn).mask
theorem Aee{a:Expr}{tl:DTA}{p pos:Pos}(hm:X.mg "sorted"=none)(hu:X.A.units+64<cLine)(ha:DA X [a] tl)(hg:Gl X "sorted":=by rfl)(hv:bootBuiltins "sorted"=some (.builtin "sorted"):=by rfl)(he:starEach [a] X.env=(false,eval a X.env)::starEach [] X.env:=by rfl)
  (hpl:(backTo pos (starEach [] X.env)).any (·.1)=false:=by rfl):DE X (.Call (.Name "sorted" p) [a] [] pos) (dCB XS tl):=Q8 (Zi (by have:X.A.in1.in1.units=X.A.units+1+1:=rfl;omega)) Abi hg hm hv ha (he:=he) (hpl:=hpl)
end
section
variable{X:Cx}
end
section
variable{X:Cx}
theorem Ra{K:W.Frag}{H:Hp}:∀ns:List Int,RpL K H (ns.map Dt.int) (ns.map V.int)
 | []=>Bq.mpr rfl
 |n::ns=>Aw.mpr ⟨_,_,rfl,Bf.mpr rfl,Ra ns⟩
end
section
variable{P:Program}{w:World}
theorem S6:∀{ks:List Int} {us:List Value},Vals (ks.map V.int) us→ItemsAre (Eb P w) (ks.map Sum.inl) us
 | [],_,r=>by cases r;exact .nil
 | _::ks,_,r=>by
  cases r with
  | cons h t =>
   obtain⟨t',rfl⟩:=h
   exact .cons (W4 P w _ t') (S6 t)
theorem Z1:∀{a b:List Int},a.map (Sum.inl:Int→Key)=b.map Sum.inl→a=b
 | [],[],_=>rfl
 | [],_::_,e=>by cases e
 |_::_,[],e=>by cases e
 | x::xs,y::ys,e=>by
  obtain⟨h1,h2⟩:=List.cons.inj e
  rw[Sum.inl.inj h1,Z1 h2]
end
section
variable{X:Cx}{pins:List (Addr×Obj)}{σ:St}{H:Hp}{s:Shared}{a b:Addr}{ks:List (List Int)}{xs:List (List Key×Addr×Value)}{A:Around}{E:Value→Shared→Prop}{k:List Int}
theorem Ahd(I:Inv X pins σ H s)(h:SqT X.K H b (k.map V.int)):(tupleKind (Eb X.prog X.w)).is s.heap (k.map Sum.inl) b:=by
 obtain⟨its,r,⟨o,h1,h2,n,h3⟩,_⟩:=I.tuple h
 exact⟨o,its.toArray,n,h1,h2,h3,by simpa using S6 r⟩
end
section
variable{K:W.Frag}{B:Hp}{F O:List Addr}{H:Hp}{σ:St}{ρ:Bu}
end
section
variable{X:Cx}{e:Expr}{te:DTE}{pos:Pos}
theorem Vh{K:W.Frag}{H:Hp}{k:List Int}{v:V}(r:Rp K H (Bc k) v):∃b,v=.ref b∧SqT K H b (k.map V.int):=by
 obtain⟨b,ys,rfl,ht,hy⟩:=Cu.mp r
 obtain rfl:=Vt hy
 exact⟨b,rfl,ht⟩
end
section
variable{X:Cx}{a b:Expr}{ta tb:DTE}{pos:Pos}
def AhG(K:W.Frag):R2:=fun x y H Q=>∃b ns p vs,∃nss:Nat→List Int,x=.ref b∧y=.ref p∧SqL K H p vs∧SqT K H b (List.map V.int ns)∧(∀(i:Nat)(v:V),vs[i]? = some v→∃a,v=.ref a∧SqT K H a ((nss i).map V.int)) ∧
 ∀k:Bool,(k=true↔∃i,i<vs.length∧nss i=ns)→Q (.bl (!k)) H
theorem Ww(hu:X.A.units+64<cLine){pins:List (Addr×Obj)}{s:Shared}{σ:St}{H:Hp}{b p:Addr}{ns:List Int}{vs:List V}{nss:Nat→List Int}(I:Inv X pins σ H s)(hl:SqL X.K H p vs)(hb:SqT X.K H b (List.map V.int ns))(each:∀(i:Nat)(v:V),vs[i]? = some v→∃a,v=.ref a∧SqT X.K H a ((nss i).map V.int)) :
  ∃(its:Array Value)(e:Value→Bool),s.heap.IsList p its∧(∀y,y∈its→SeqAt.EqAt X.A.in1 s y (.ref b) (e y))∧(its.any e=true↔∃i,i<vs.length∧nss i=ns):=by
 classical
 obtain⟨its,rv,pl,hz⟩:=I.list hl
 have hlen:its.length=vs.length:=rv.length.symm
 have fl:∀ns:List Int,(Bc ns).flat 8=true:=fun ns=>Rq ns
 have mz:∀(i:Nat)(y:Value),its[i]? = some y→∃a,y=.ref a∧SqT X.K H a ((nss i).map V.int):=fun i y e=>by
  obtain⟨v,e1,r2⟩:=Vals.at rv i y e
  obtain⟨a,rfl,ht⟩:=each i v e1
  cases r2
  exact⟨a,rfl,ht⟩
 have uniq:∀(i i':Nat)(y:Value),its[i]? = some y→its[i']? = some y→nss i=nss i':=fun i i' y e e'=>by
  obtain⟨a,rfl,h1⟩:=mz i y e
  obtain⟨a',ea,h2⟩:=mz i' _ e'
  cases ea
  obtain⟨i1,v1,t1,_⟩:=I.tuple h1
  obtain⟨i2,v2,t2,_⟩:=I.tuple h2
  have es:=AcY t1 t2
  have n1:IntsAre i1.toArray.toList (nss i):=intsAre_of v1
  have n2:IntsAre i2.toArray.toList (nss i'):=intsAre_of v2
  rw[←es]at n2
  rw[←n1.numsOf,←n2.numsOf]
 refine⟨its.toArray,fun y=>decide (∃i,its[i]? = some y∧nss i=ns),pl.isList,fun y hy=>?_,?_⟩
 ·obtain⟨i,hi,e⟩:=List.getElem_of_mem (show y∈its by simpa using hy)
  have e1:its[i]? = some y:=by rw[←e];exact List.getElem?_eq_getElem hi
  obtain⟨a,rfl,ht⟩:=mz i y e1
  obtain⟨ca,da⟩:=Gk _ 8 (fl (nss i))
  obtain⟨cb,db⟩:=Gk _ 8 (fl ns)
  obtain⟨as,q1⟩:=HF I ca (AeX ht) (rfl:RelV (.ref a) (.ref a))
  obtain⟨bs,q2⟩:=HF I cb (AeX hb) (rfl:RelV (.ref b) (.ref b))
  have:=SeqAt.eqAt_reads _ _ X.A.in1 s _ _ as bs q1 q2 ca cb (by have:=Al0 hu;omega)
  rw[Q7 _ _ ca cb]at this
  have ee:(Bc (nss i)).eq (Bc ns)=decide (∃i,its[i]? = some (Value.ref a)∧nss i=ns):=by
   show Dt.eqs _ _=_
   rw[Vn]
   refine decide_eq_decide.mpr ⟨fun z=>⟨i,e1,z⟩,?_⟩
   rintro⟨i',e2,e3⟩
   exact(uniq i i' _ e1 e2).trans e3
  rw[ee]at this
  exact this
 ·rw[Array.any_eq_true]
  constructor
  ·rintro⟨i,hi,e⟩
   obtain⟨j,e1,e2⟩:=of_decide_eq_true e
   have:=(List.getElem?_eq_some_iff.mp e1).1
   exact⟨j,∅,e2⟩
  ·rintro⟨i,hi,e⟩
   have hi':i<its.toArray.size:=by rw[List.size_toArray];omega
   refine⟨i,hi',decide_eq_true ⟨i,?_,e⟩⟩
   rw[List.getElem_toArray]
   exact List.getElem?_eq_getElem _
theorem AgV(hu:X.A.units+64<cLine):OpR X (compareOp .NotIn) (AhG X.K):=by
 intro pins s σ H x y v u Q I rx ry h
 obtain⟨b,ns,p,vs,nss,rfl,rfl,hl,hb,each,q⟩:=h
 cases rx
 cases ry
 obtain⟨its,e,h1,h2,h3⟩:=Ww hu I hl hb each
 exact SeqAt.notIn_listAt e h1 h2 ⟨.bl _,H,I,rfl,q _ h3⟩
def AbV:D2:=fun a b Q=>∃(ns:List Int)(nss:List (List Int)),a=Bc ns∧b=.lst (nss.map Bc)∧Q (.bl (!decide (ns∈nss)))
theorem AcG{K:W.Frag}:Jb K (AhG K) AbV:=⟨fun hq ⟨i,ns,e1,e2,h⟩=>⟨i,ns,e1,e2,hq _ h⟩,fun O H a b x y Q _ ra rb ⟨ns,nss,e1,e2,h⟩=>by
 subst e1 e2
 obtain⟨c,rfl,hc⟩:=Vh ra
 obtain⟨p,vs,rfl,hs,hl⟩:=CN rb
 obtain⟨ll,each⟩:=Vw hl
 refine⟨c,ns,p,vs,fun i=>nss.getD i [],rfl,rfl,Bh.seq hs,Bh.bU hc,fun i v e=>?_,fun k hk=>?_⟩
 ·obtain⟨a,ea,ht⟩:=each i v e
  exact⟨a,ea,Bh.bU ht⟩
 ·have:k=decide (ns∈nss):=by
   rw[Bool.eq_iff_iff,hk,decide_eq_true_eq]
   constructor
   ·rintro⟨i,hi,e⟩
    have hi':i<nss.length:=∅
    rw[←e]
    show nss.getD i []∈nss
    have:nss.getD i []=nss[i]:=by simp[List.getD,hi']
    rw[this]
    exact List.getElem_mem hi'
   ·intro m
    obtain⟨i,hi,e⟩:=List.getElem_of_mem m
    exact⟨i,∅,by simp[List.getD,hi,e]⟩
  rw[this]
  exact h _ H (Same.refl H) (Cz.mpr rfl)⟩
theorem Ag1(hu:X.A.units+64<cLine)(ha:DE X a ta)(hb:DE X b tb)(hm:behindInMarks .NotIn b=false:=by with_unfolding_all rfl):DT X (.Compare a [.NotIn] [b] pos) (Ma (dOp AbV ta tb)):=Ka (AgV hu) AcG ha hb hm
end
section
variable{X:Cx}{k:Nat}{f C:Addr}{fd:FuncData}{ps:List Str}{sp:Sp}{x:Str}{p pos:Pos}{e:Expr}{es:List Expr}{t:TA}
end
section
variable{X:Cx}{o e:Expr}{es:List Expr}{tl:DTA}{te:Qd}{pos:Pos}
end
section
variable{X:Cx}{es:List Expr}{pos:Pos}
end
section
variable{X:Cx}{e o:Expr}{es:List Expr}{t:TA}{pos apos:Pos}
end
section
variable{X:Cx}{e o a b:Expr}{es:List Expr}{te:DTE}{tl:DTA}{tx:Qd}{tb:DTE}{pos apos:Pos}
end
section
variable{X:Cx}{C U fI:Addr}{e:Expr}{es:List Expr}{p pos:Pos}{t:TA}{tl:DTA}
end
section
variable{P:Program}{w:World}{H:Hp}{h h':Heap}{a:Addr}{o:HO}
end
section
variable{X:Cx}{C U:Addr}{e:Expr}{es:List Expr}{p pos:Pos}{t:TA}{tl:DTA}{c:Str}{bm:List Value}
end
section
variable{K:W.Frag}{c:Str}{C U A:Addr}{cd:ClassData}
end
section
variable{t1 t2 t3 t4 u:DTS}{D:FN}{ρ:Bu}
theorem AdT(S:Bu→Prop)(h1:∀N:Bu→Prop,(∀ρ',S ρ'→N ρ')→Xz t1 (Xz t2 t3) {D with nx:=N} ρ)(h2:∀ρ',S ρ'→u D ρ'):Xz t1 (Xz t2 (Xz t3 u)) D ρ:=h1 (u D) h2
end
section
variable{X:Cx}{iter elt:Expr}{px pos:Pos}{scope:Scope}{x:Str}{N:List Str}{sl:List Nat}{tx:Qd}{de:DTE}{ti:DTI}
end
section
variable{X:Cx}{a:Expr}{ta:DTE}{pos:Pos}
end
section
variable{X:Cx}{e:Expr}{te:DTE}
end
namespace Tb
def Rs(xs:Array Nat):Prop:=∀i k,i<k→k<xs.size→xs.getD i 0<xs.getD k 0
theorem Ag2{xs:Array Nat}{i j:Nat}(h:i<xs.size):xs.getD i j=xs.getD i 0:=by
 simp[Array.getD,h]
theorem Vr{xs:Array Nat}{j:Nat}(R:Rs xs):∀(fuel lo hi:Nat),lo≤hi→hi≤xs.size→hi-lo≤fuel→(∀i,i<lo→xs.getD i 0<j)→(∀i,hi≤i→i<xs.size→j≤xs.getD i 0) →
  SetTable.below.go xs j fuel lo hi≤xs.size∧(∀i,i<SetTable.below.go xs j fuel lo hi→xs.getD i 0<j)∧∀i,SetTable.below.go xs j fuel lo hi≤i→i<xs.size→j≤xs.getD i 0
 | 0,lo,hi,h1,h2,h3,h4,h5=>by
  have:lo=hi:=∅
  subst this
  exact⟨h2,h4,h5⟩
 | fuel+1,lo,hi,h1,h2,h3,h4,h5=>by
  unfold SetTable.below.go
  by_cases h:lo<hi
  ·rw[if_pos h]
   dsimp only
   have hm:(lo+hi) / 2<hi:=∅
   have hl:lo≤(lo+hi) / 2:=∅
   rw[Ag2 (show(lo+hi) / 2<xs.size by omega)]
   by_cases q:xs.getD ((lo+hi) / 2) 0<j
   ·rw[if_pos q]
    refine Vr R fuel _ _ ∅ h2 ∅ (fun i hi'=>?_) h5
    by_cases e:i=(lo+hi) / 2
    ·rw[e];exact q
    ·have:=R i ((lo+hi) / 2) ∅ ∅
     omega
   ·rw[if_neg q]
    refine Vr R fuel _ _ hl ∅ ∅ h4 (fun i hi' hs=>?_)
    by_cases e:i=(lo+hi) / 2
    ·rw[e];omega
    ·have:=R ((lo+hi) / 2) i ∅ hs
     omega
  ·rw[if_neg h]
   have:lo=hi:=∅
   subst this
   exact⟨h2,h4,h5⟩
theorem JC{xs:Array Nat}(R:Rs xs)(j:Nat):SetTable.below xs j≤xs.size∧(∀i,i<SetTable.below xs j→xs.getD i 0<j)∧∀i,SetTable.below xs j≤i→i<xs.size→j≤xs.getD i 0 :=
 Vr R xs.size 0 xs.size (Nat.zero_le _) (Nat.le_refl _) ∅ (fun i h=>by omega) (fun i h1 h2=>by omega)
theorem below_at{xs:Array Nat}(R:Rs xs){k:Nat}(h:k<xs.size):SetTable.below xs (xs.getD k 0)=k:=by
 obtain⟨h1,h2,h3⟩:=JC R (xs.getD k 0)
 rcases Nat.lt_trichotomy (SetTable.below xs (xs.getD k 0)) k with z|z|z
 ·have:=h3 _ (Nat.le_refl _) ∅
  have:=R _ k z h
  omega
 ·exact z
 ·have:=h2 k z
  omega
theorem Yo{xs:Array Nat}(R:Rs xs){k:Nat}(h:k<xs.size):SetTable.below xs (xs.getD k 0+1)=k+1:=by
 obtain⟨h1,h2,h3⟩:=JC R (xs.getD k 0+1)
 rcases Nat.lt_trichotomy (SetTable.below xs (xs.getD k 0+1)) (k+1)with z|z|z
 ·have:=h3 k ∅ h
  omega
 ·exact z
 ·have a:=h2 (k+1) z
  have:=R k (k+1) ∅ ∅
  omega
theorem Y7{xs:Array Nat}(R:Rs xs):SetTable.below xs 0=0:=by
 obtain⟨h1,h2,h3⟩:=JC R 0
 rcases Nat.eq_zero_or_pos (SetTable.below xs 0)with z|z
 ·exact z
 ·have:=h2 0 z
  omega
def Has(xs:Array Nat)(j:Nat):Prop:=∃k,k<xs.size∧xs.getD k 0=j
theorem WQ{xs:Array Nat}{i:Nat}(h:i<xs.size):xs[i]? = some (xs.getD i 0):=by simp[Array.getD,h]
structure Ok(t:SetTable)(n:Nat):Prop where
 rs:Rs t.place
 sz:t.place.size=n
 le:∀k,k<t.place.size→t.place.getD k 0≤t.mask
 nd:t.dummies=#[]
 lt:n≤t.mask
theorem Q9{t:SetTable}{n j:Nat}(h:Ok t n)(hj:¬Has t.place j):t.slot j=.empty:=by
 unfold SetTable.slot
 dsimp only
 have e:(t.place[SetTable.below t.place j]? == some j)=false:=by
  rw[beq_eq_false_iff_ne]
  intro z
  by_cases q:SetTable.below t.place j<t.place.size
  ·rw[WQ q]at z
   exact hj ⟨_,q,Option.some.inj z⟩
  ·rw[Array.getElem?_eq_none ∅]at z
   cases z
 rw[e,h.nd]
 rfl
theorem Aa9{t:SetTable}{n k:Nat}(h:Ok t n)(hk:k<t.place.size):t.slot (t.place.getD k 0)=.live k:=by
 unfold SetTable.slot
 dsimp only
 rw[below_at h.rs hk,WQ hk]
 simp
theorem Xy{t:SetTable}{n:Nat}(h:Ok t n)(j:Nat):(¬Has t.place j∧t.slot j=.empty)∨∃k,k<t.place.size∧t.place.getD k 0=j∧t.slot j=.live k:=by
 by_cases q:Has t.place j
 ·obtain⟨k,hk,rfl⟩:=q
  exact .inr ⟨k,hk,rfl,Aa9 h hk⟩
 ·exact .inl ⟨q,Q9 h q⟩
def orb(M:Nat):Nat→Nat
 |0=>0
 |n+1=>(orb M n*5+1) % M
def TY(M:Nat):Nat→Nat→Nat→Nat
 |0,_,acc=>acc
 |n+1,x,acc=>TY M n ((x*5+1) % M) (acc ||| 2 ^ x)
theorem TV{M j:Nat}:∀(n s acc:Nat),(TY M n (orb M s) acc).testBit j=true→acc.testBit j=true∨∃m,m<n∧orb M (s+m)=j
 |0,s,acc,h=>.inl h
 | n+1,s,acc,h=>by
  unfold TY at h
  rcases TV n (s+1) _ h with z|⟨m,hm,e⟩
  ·rw[Nat.testBit_or,Bool.or_eq_true]at z
   rcases z with z|z
   ·exact .inl z
   ·right
    refine⟨0,∅,?_⟩
    rw[Nat.testBit_two_pow]at z
    exact of_decide_eq_true z
  ·exact .inr ⟨m+1,∅,by rw[←e];congr 1;omega⟩
def Cyc(M:Nat):Prop:=(∀j,j<M→∃m,m<M∧orb M m=j)∧orb M M=0∧0<M∧M % 2=0
theorem Oi{M:Nat}(h1:TY M M 0 0=2 ^ M-1)(h2:orb M M=0)(h3:0<M)(h4:M % 2=0):Cyc M:=by
 refine⟨fun j hj=>?_,h2,h3,h4⟩
 have e:(TY M M (orb M 0) 0).testBit j=true:=by
  show(TY M M 0 0).testBit j=true
  rw[h1,Nat.testBit_two_pow_sub_one]
  exact decide_eq_true hj
 rcases TV M 0 0 e with z|⟨m,hm,e⟩
 ·simp at z
 ·exact⟨m,hm,by rw[←e,Nat.zero_add]⟩
theorem ZF{M:Nat}(h:orb M M=0):∀k,orb M (M+k)=orb M k
 |0=>h
 | k+1=>by
  show(orb M (M+k)*5+1) % M=(orb M k*5+1) % M
  rw[ZF h k]
def YF(M:Nat):Nat→Nat→Nat
 |0,x=>x
 |n+1,x=>YF M n ((x*5+1) % M)
theorem Pr(M:Nat):∀n s,YF M n (orb M s)=orb M (s+n)
 |0,s=>rfl
 | n+1,s=>by
  show YF M n (orb M (s+1))=_
  rw[Pr M n (s+1)]
  congr 1
  omega
theorem Abm{M:Nat}(h:YF M M 0=0):orb M M=0:=by
 have:=Pr M M 0
 rw[Nat.zero_add]at this
 rw[←this];exact h
set_option maxRecDepth 1000000 in
theorem AoG:Cyc 8:=Oi (by decide +kernel) (Abm (by decide +kernel)) ⋯ ⋯
set_option maxRecDepth 1000000 in
theorem Ak8:Cyc 32:=Oi (by decide +kernel) (Abm (by decide +kernel)) ⋯ ⋯
set_option maxRecDepth 1000000 in
theorem Air:Cyc 128:=Oi (by decide +kernel) (Abm (by decide +kernel)) ⋯ ⋯
set_option maxRecDepth 1000000 in
theorem Ajm:Cyc 512:=Oi (by decide +kernel) (Abm (by decide +kernel)) ⋯ ⋯
set_option maxRecDepth 1000000 in
theorem Agh:Cyc 2048:=Oi (by decide +kernel) (Abm (by decide +kernel)) ⋯ ⋯
set_option maxRecDepth 1000000 in
theorem AgC:Cyc 8192:=Oi (by decide +kernel) (Abm (by decide +kernel)) ⋯ ⋯
theorem Aez{M i j:Nat}(c:Cyc M)(hi:i<M)(hj:j<M):∃m,m<M∧YF M m i=j:=by
 obtain⟨h1,h2,h3,_⟩:=c
 obtain⟨a,ha,rfl⟩:=h1 i hi
 obtain⟨b,hb,rfl⟩:=h1 j hj
 by_cases z:a≤b
 ·exact⟨b-a,∅,by rw[Pr];congr 1;omega⟩
 ·refine⟨M+b-a,∅,?_⟩
  rw[Pr,show a+(M+b-a)=M+b by omega,ZF h2]
def lp(mask:Nat):Nat→Nat×Nat→Nat×Nat
 |0,x=>x
 |n+1,x=>lp mask n (SetTable.leap mask x.1 x.2)
theorem Acb(mask:Nat):∀n m x,lp mask (n+m) x=lp mask m (lp mask n x)
 |0,m,x=>by rw[Nat.zero_add];rfl
 | n+1,m,x=>by
  rw[show n+1+m=(n+m)+1 by omega]
  exact Acb mask n m _
theorem AeL(mask:Nat):∀n x,(lp mask n x).2=x.2 / 32 ^ n
 |0,x=>by simp[lp]
 | n+1,x=>by
  show(lp mask n (SetTable.leap mask x.1 x.2)).2=_
  rw[AeL mask n]
  show x.2 / 32 / 32 ^ n=_
  rw[Nat.div_div_eq_div_mul,Nat.pow_succ,Nat.mul_comm]
theorem ZM(mask:Nat):∀n i,lp mask n (i,0)=(YF (mask+1) n i,0)
 |0,i=>rfl
 | n+1,i=>by
  show lp mask n (SetTable.leap mask i 0)=(YF (mask+1) n ((i*5+1) % (mask+1)),0)
  rw[←ZM mask n]
  rfl
theorem Tt(mask:Nat):∀n x,x.1<mask+1→(lp mask n x).1<mask+1
 |0,x,h=>h
 |n+1,x,h=>Tt mask n _ (Nat.mod_lt _ ∅)
theorem Agr(h:Int):SetTable.bits h<2 ^ 64:=by
 unfold SetTable.bits
 have:=Int.emod_lt_of_pos h (show(0:Int)<2 ^ 64 by decide)
 have:=Int.emod_nonneg h (show(2 ^ 64:Int)≠0 by decide)
 omega
theorem Ab7{mask j:Nat}{h:Int}(c:Cyc (mask+1))(hj:j<mask+1):∃m,m<mask+14∧(lp mask m (SetTable.bits h % (mask+1),SetTable.bits h)).1=j:=by
 have h0:=AeL mask 13 (SetTable.bits h % (mask+1),SetTable.bits h)
 have hz:SetTable.bits h / 32 ^ 13=0:=Nat.div_eq_of_lt (Nat.lt_trans (Agr h) ⋯)
 rw[hz]at h0
 have hl:=Tt mask 13 (SetTable.bits h % (mask+1),SetTable.bits h) (Nat.mod_lt _ ∅)
 obtain⟨m,hm,e⟩:=Aez c hl hj
 refine⟨13+m,∅,?_⟩
 rw[Acb]
 have:lp mask 13 (SetTable.bits h % (mask+1),SetTable.bits h)=((lp mask 13 (SetTable.bits h % (mask+1),SetTable.bits h)).1,0):=Prod.ext rfl h0
 rw[this,ZM]
 exact e
end Tb
end L2
namespace L2
open PySem
namespace Tb
def adv(t:SetTable):Nat→SetTable.Probe→SetTable.Probe
 |0,p=>p
 |s+1,p=>adv t s (t.advance p)
theorem Pu(t:SetTable):∀a b p,adv t (a+b) p=adv t b (adv t a p)
 |0,b,p=>by rw[Nat.zero_add];rfl
 | a+1,b,p=>by
  rw[show a+1+b=(a+b)+1 by omega]
  exact Pu t a b _
theorem Aev(t:SetTable)(s:Nat)(p:SetTable.Probe):adv t (s+1) p=t.advance (adv t s p):=Pu t s 1 p
theorem Jh{mask i:Nat}(h:i≤mask):SetTable.runEnd mask i≤mask∧i≤SetTable.runEnd mask i∧SetTable.runEnd mask i≤i+9:=by
 unfold SetTable.runEnd
 split<;>omega
structure PI(t:SetTable)(p:SetTable.Probe):Prop where
 i:p.i≤t.mask
 j:p.j+p.more≤t.mask
 d:p.dummy=none
theorem PI.adv{t:SetTable}{p:SetTable.Probe}(h:PI t p):PI t (t.advance p):=by
 unfold SetTable.advance
 by_cases q:p.more>0
 ·rw[if_pos q]
  exact⟨h.i,by have:=h.j;show p.j+1+(p.more-1)≤_;omega,h.d⟩
 ·rw[if_neg q]
  have hl:(SetTable.leap t.mask p.i p.perturb).1≤t.mask:=Nat.le_of_lt_succ (Nat.mod_lt _ ∅)
  obtain⟨h1,h2,_⟩:=Jh hl
  exact⟨hl,by show(SetTable.leap t.mask p.i p.perturb).1+(SetTable.runEnd t.mask (SetTable.leap t.mask p.i p.perturb).1-(SetTable.leap t.mask p.i p.perturb).1)≤_;omega,h.d⟩
theorem PI.advs{t:SetTable}{p:SetTable.Probe}(h:PI t p):∀s,PI t (Tb.adv t s p)
 |0=>h
 |s+1=>by rw[Aev];exact(h.advs s).adv
def Q0(mask:Nat)(x:Nat×Nat):SetTable.Probe:={j:=x.1,more:=SetTable.runEnd mask x.1-x.1,i:=x.1,perturb:=x.2,dummy:=none}
theorem Td(t:SetTable)(h:Int):t.probeStart h=Q0 t.mask (SetTable.bits h % (t.mask+1),SetTable.bits h):=rfl
theorem Ajw{t:SetTable}{x:Nat×Nat}(h:x.1≤t.mask):PI t (Q0 t.mask x):=by
 obtain⟨h1,h2,_⟩:=Jh h
 exact⟨h,by show x.1+(SetTable.runEnd t.mask x.1-x.1)≤_;omega,rfl⟩
theorem AdK{t:SetTable}:∀(r:Nat)(p:SetTable.Probe),p.more=r→adv t (r+1) p={p with j:=(SetTable.leap t.mask p.i p.perturb).1,more:=SetTable.runEnd t.mask (SetTable.leap t.mask p.i p.perturb).1-(SetTable.leap t.mask p.i p.perturb).1,i:=(SetTable.leap t.mask p.i p.perturb).1,perturb:=(SetTable.leap t.mask p.i p.perturb).2}
 | 0,p,e=>by
  show t.advance p=_
  unfold SetTable.advance
  rw[if_neg ∅]
 | r+1,p,e=>by
  show adv t (r+1) (t.advance p)=_
  have ea:t.advance p={p with j:=p.j+1,more:=p.more-1}:=by unfold SetTable.advance;rw[if_pos ∅]
  rw[ea,AdK r _ (by show p.more-1=r;omega)]
theorem AcN{t:SetTable}{x:Nat×Nat}(h:x.1≤t.mask):∃s,s≤10∧adv t s (Q0 t.mask x)=Q0 t.mask (SetTable.leap t.mask x.1 x.2):=by
 obtain⟨_,_,h3⟩:=Jh h
 refine⟨(SetTable.runEnd t.mask x.1-x.1)+1,∅,?_⟩
 rw[AdK (SetTable.runEnd t.mask x.1-x.1) (Q0 t.mask x) rfl]
 rfl
theorem AcH{t:SetTable}:∀(m:Nat)(x:Nat×Nat),x.1≤t.mask→∃s,s≤10*m∧adv t s (Q0 t.mask x)=Q0 t.mask (lp t.mask m x)
 |0,x,_=>⟨0,∅,rfl⟩
 | m+1,x,h=>by
  obtain⟨s,hs,e⟩:=AcN h
  obtain⟨s2,hs2,e2⟩:=AcH m (SetTable.leap t.mask x.1 x.2) (Nat.le_of_lt_succ (Nat.mod_lt _ ∅))
  exact⟨s+s2,∅,by rw[Pu,e,e2];rfl⟩
theorem AfO{t:SetTable}{n:Nat}(h:Ok t n):∃j,j<t.mask+1∧¬Has t.place j:=by
 refine Classical.byContradiction fun c=>?_
 have all:∀j,j<t.mask+1→Has t.place j:=fun j hj=>Classical.byContradiction fun q=>c ⟨j,hj,q⟩
 have sub:∀x∈List.range (t.mask+1),x∈t.place.toList:=fun x hx=>by
  obtain⟨k,hk,e⟩:=all x (List.mem_range.mp hx)
  rw[←e]
  have:t.place.getD k 0=t.place[k]:=by simp[Array.getD,hk]
  rw[this]
  simp
 have len:∀{l m:List Nat},l.Nodup→(∀x∈l,x∈m)→l.length≤m.length:=by
  intro l
  induction l with
  |nil=>intro m _ _;exact Nat.zero_le _
  | cons x l ih =>
   intro m h hs
   obtain⟨h1,h2⟩:=List.nodup_cons.mp h
   have hx:=hs x List.mem_cons_self
   have:=ih (m:=m.erase x) h2 fun y hy=>(List.mem_erase_of_ne fun z=>h1 (by rw[←z];exact hy)).mpr (hs y (List.mem_cons_of_mem _ hy))
   rw[List.length_erase_of_mem hx]at this
   have:=List.length_pos_of_mem hx
   rw[List.length_cons]
   omega
 have:=len List.nodup_range sub
 rw[List.length_range,Array.length_toList,h.sz]at this
 have:=h.lt
 omega
theorem Aeb{t:SetTable}{n:Nat}(h:Ok t n)(c:Cyc (t.mask+1))(x:Int):∃s,s<10*SetTable.turns t.mask∧t.slot (adv t s (t.probeStart x)).j=.empty:=by
 obtain⟨j,hj,nj⟩:=AfO h
 obtain⟨m,hm,e⟩:=Ab7 (h:=x) c hj
 obtain⟨s,hs,e2⟩:=AcH (t:=t) m (SetTable.bits x % (t.mask+1),SetTable.bits x) (Nat.le_of_lt_succ (Nat.mod_lt _ ∅))
 refine⟨s,by unfold SetTable.turns;omega,?_⟩
 rw[Td,e2]
 show t.slot (lp t.mask m (SetTable.bits x % (t.mask+1),SetTable.bits x)).1=_
 rw[e]
 exact Q9 h nj
theorem V1{t:SetTable}{n:Nat}{hashAt:Nat→Int}{x:Int}(h:Ok t n):∀(s fuel:Nat)(p:SetTable.Probe),PI t p→s<fuel→t.slot (adv t s p).j=.empty →
  (∃j,j≤t.mask∧¬Has t.place j∧SetTable.probe.go t hashAt x fuel p=some (.empty j none)) ∨
  ∃j i s',SetTable.probe.go t hashAt x fuel p=some (.candidate j i (adv t (s'+1) p))∧s'<s∧t.slot j=.live i∧i<n∧hashAt i=x
 |s,0,p,_,hf,_=>by omega
 | s,fuel+1,p,hp,hf,he=>by
  unfold SetTable.probe.go
  rcases Xy h p.j with⟨nh,e⟩|⟨k,hk,ek,e⟩
  ·rw[e]
   exact .inl ⟨p.j,by have:=hp.j;omega,nh,by rw[hp.d]⟩
  ·rw[e]
   dsimp only
   cases s with
   | zero =>
    have he:t.slot p.j=.empty:=he
    rw[e]at he
    cases he
   | succ s =>
    by_cases q:(hashAt k==x)=true
    ·rw[if_pos q]
     exact .inr ⟨p.j,k,0,rfl,∅,e,by rw[←h.sz];exact hk,beq_iff_eq.mp q⟩
    ·rw[if_neg q]
     rcases V1 h s fuel (t.advance p) hp.adv ∅ he with⟨j,z⟩|⟨j,i,s',z1,z2,z3⟩
     ·exact .inl ⟨j,z⟩
     ·exact .inr ⟨j,i,s'+1,z1,∅,z3⟩
theorem Abo{t:SetTable}{n s:Nat}{hashAt:Nat→Int}{x:Int}{p:SetTable.Probe}(h:Ok t n)(hp:PI t p)(hs:s<10*SetTable.turns t.mask)(he:t.slot (adv t s p).j=.empty) :
  (∃j,j≤t.mask∧¬Has t.place j∧t.probe hashAt x p=some (.empty j none)) ∨
  ∃j i s',t.probe hashAt x p=some (.candidate j i (adv t (s'+1) p))∧s'<s∧t.slot j=.live i∧i<n∧hashAt i=x:=V1 h s _ p hp hs he
theorem getD_insert{xs:Array Nat}{p x i:Nat}(hp:p≤xs.size):(SetTable.insertAt xs p x).getD i 0=if i<p then xs.getD i 0 else if i=p then x else xs.getD (i-1) 0:=by
 unfold SetTable.insertAt
 simp only[Array.getD_eq_getD_getElem?,Array.getElem?_append,Array.size_push,Array.size_extract,Array.getElem?_push,Array.getElem?_extract]
 have e:min p xs.size-0=p:=∅
 by_cases h1:i<p
 ·rw[if_pos h1]
  rw[if_pos ∅,if_neg ∅,if_pos ∅]
  simp
 ·by_cases h2:i=p
  ·subst h2
   rw[if_neg h1,if_pos rfl,if_pos ∅,if_pos ∅]
   rfl
  ·rw[if_neg h1,if_neg h2,if_neg ∅]
   by_cases h3:i-1<xs.size
   ·rw[if_pos ∅]
    congr 2
    omega
   ·rw[if_neg ∅,Array.getElem?_eq_none ∅]
theorem size_insert{α:Type}{xs:Array α}{p:Nat}{x:α}(hp:p≤xs.size):(SetTable.insertAt xs p x).size=xs.size+1:=by
 unfold SetTable.insertAt
 simp only[Array.size_append,Array.size_push,Array.size_extract]
 omega
theorem Wz{α:Type}{xs:Array α}{p:Nat}{x:α}(hp:p≤xs.size):(SetTable.insertAt xs p x).toList=xs.toList.take p++x::xs.toList.drop p:=by
 unfold SetTable.insertAt
 simp[Array.toList_append,Array.toList_push,Array.toList_extract,List.extract_eq_drop_take]
 exact List.take_of_length_le (by rw[List.length_drop,Array.length_toList];exact Nat.le_refl _)
theorem W2{α:Type}{xs:Array α}{p:Nat}{x:α}(hp:p≤xs.size):(SetTable.insertAt xs p x).toList.Perm (x::xs.toList):=by
 rw[Wz hp]
 refine List.perm_middle.trans ?_
 rw[List.take_append_drop]
theorem Ajv{t:SetTable}{n j:Nat}(h:Ok t n)(hj:j≤t.mask)(nj:¬Has t.place j)(hn:n+1≤t.mask):Ok (t.put j).1 (n+1)∧(t.put j).2≤n∧(t.put j).1.mask=t.mask∧(t.put j).1.led=t.led∧(t.put j).1.plain=t.plain∧(t.put j).1.moves=t.moves∧(t.put j).1.finger=t.finger:=by
 obtain⟨h1,h2,h3⟩:=JC h.rs j
 have hd:(SetTable.has t.dummies j)=false:=by rw[h.nd];rfl
 have e:t.put j=({t with place:=SetTable.insertAt t.place (SetTable.below t.place j) j},SetTable.below t.place j):=by
  unfold SetTable.put
  rw[hd]
  rfl
 rw[e]
 refine⟨⟨fun a b hab hb=>?_,?_,fun k hk=>?_,h.nd,hn⟩,by show SetTable.below t.place j≤n;rw[←h.sz];exact h1,rfl,rfl,rfl,rfl,rfl⟩
 ·dsimp only at hb ⊢
  rw[size_insert h1]at hb
  rw[getD_insert h1,getD_insert h1]
  by_cases a1:a<SetTable.below t.place j
  ·rw[if_pos a1]
   by_cases b1:b<SetTable.below t.place j
   ·rw[if_pos b1];exact h.rs a b hab ∅
   ·rw[if_neg b1]
    by_cases b2:b=SetTable.below t.place j
    ·rw[if_pos b2];exact h2 a a1
    ·rw[if_neg b2]
     have:=h2 a a1
     have:=h3 (b-1) ∅ ∅
     omega
  ·have b1:¬b<SetTable.below t.place j:=∅
   have b2:¬b=SetTable.below t.place j:=∅
   rw[if_neg a1,if_neg b1,if_neg b2]
   by_cases a2:a=SetTable.below t.place j
   ·rw[if_pos a2]
    have w:=h3 (b-1) ∅ ∅
    rcases Nat.lt_or_ge j (t.place.getD (b-1) 0)with z|z
    ·exact z
    ·exact absurd ⟨b-1,∅,∅⟩ nj
   ·rw[if_neg a2]
    exact h.rs (a-1) (b-1) ∅ ∅
 ·dsimp only
  rw[size_insert h1,h.sz]
 ·dsimp only at hk ⊢
  rw[size_insert h1]at hk
  rw[getD_insert h1]
  by_cases a1:k<SetTable.below t.place j
  ·rw[if_pos a1];exact h.le k ∅
  ·rw[if_neg a1]
   by_cases a2:k=SetTable.below t.place j
   ·rw[if_pos a2];exact hj
   ·rw[if_neg a2];exact h.le (k-1) ∅
theorem Uk{t:SetTable}{n:Nat}(h:Ok t n):t.fits n=true:=by
 unfold SetTable.fits SetTable.fill
 rw[h.sz,h.nd]
 have:=h.lt
 simp[this]
theorem Aec(a b:Nat)(l:Bool):Ok (SetTable.fresh a b l) 0:=⟨(fun _ _ _ hk=>absurd hk (Nat.not_lt_zero _)),rfl,(fun _ hk=>absurd hk (Nat.not_lt_zero _)),rfl,Nat.zero_le _⟩
end Tb
end L2
namespace L2
open PySem
namespace Tb
theorem Sy{mask:Nat}{owner:Array (Option Nat)}:∀(m fuel:Nat)(x:Nat×Nat),x.1≤mask→m<fuel→owner.getD (lp mask m x).1 (some 0)=none →
  ∃j,SetTable.layClean.free mask owner fuel x.1 x.2=some j∧j≤mask∧owner.getD j (some 0)=none
 |m,0,x,_,h,_=>by omega
 | m,fuel+1,x,hx,hf,he=>by
  unfold SetTable.layClean.free
  cases q:(List.range (SetTable.runEnd mask x.1+1-x.1)).find? fun k=>(owner.getD (x.1+k) (some 0)).isNone with
  | some k =>
   have h1:=List.mem_of_find?_eq_some q
   have h2:=List.find?_some q
   rw[List.mem_range]at h1
   obtain⟨r1,r2,_⟩:=Jh hx
   exact⟨x.1+k,rfl,∅,Option.isNone_iff_eq_none.mp h2⟩
  | none =>
   cases m with
   | zero =>
    exfalso
    have he:owner.getD x.1 (some 0)=none:=he
    obtain⟨r1,r2,_⟩:=Jh hx
    have:=List.find?_eq_none.mp q 0 (List.mem_range.mpr ∅)
    rw[Nat.add_zero,he]at this
    exact this rfl
   | succ m =>
    exact Sy m fuel (SetTable.leap mask x.1 x.2) (Nat.le_of_lt_succ (Nat.mod_lt _ ∅)) ∅ he
structure Laid(mask:Nat)(owner:Array (Option Nat))(js:List Nat):Prop where
 sz:owner.size=mask+1
 nd:js.Nodup
 le:∀j∈js,j≤mask
 at_:∀j idx,j≤mask→(owner.getD j (some 0)=some idx↔js[idx]? = some j)
theorem Laid.iy{mask:Nat}{owner:Array (Option Nat)}{js:List Nat}(L:Laid mask owner js){j:Nat}(hj:j≤mask):owner.getD j (some 0)=none↔j∉js:=by
 constructor
 ·intro h m
  obtain⟨idx,e⟩:=List.getElem?_of_mem m
  have:=(L.at_ j idx hj).mpr e
  rw[h]at this
  cases this
 ·intro h
  cases q:owner.getD j (some 0)with
  |none=>rfl
  |some idx=>exact absurd (List.mem_of_getElem? ((L.at_ j idx hj).mp q)) h
theorem Laid.start(mask:Nat):Laid mask (Array.replicate (mask+1) none) [] where
 sz:=Array.size_replicate
 nd:=List.nodup_nil
 le:=fun j h=>by cases h
 at_:=fun j idx hj=>by
  have:(Array.replicate (mask+1) (none:Option Nat)).getD j (some 0)=none:=by
   simp[Array.getD,show j<mask+1 by omega]
  rw[this]
  constructor
  ·intro h;cases h
  ·intro h;cases h
theorem Laid.put{mask:Nat}{owner:Array (Option Nat)}{js:List Nat}(L:Laid mask owner js){j:Nat}(hj:j≤mask)(nj:owner.getD j (some 0)=none):Laid mask (owner.setIfInBounds j (some js.length)) (js++[j]) where
 sz:=by rw[Array.size_setIfInBounds];exact L.sz
 nd:=by
  rw[List.nodup_append]
  refine⟨L.nd,by simp,fun a ha b hb e=>?_⟩
  rw[List.mem_singleton]at hb
  rw[e,hb]at ha
  exact(L.iy hj).mp nj ha
 le:=fun a h=>by
  rcases List.mem_append.mp h with h|h
  ·exact L.le a h
  ·rw[List.mem_singleton.mp h];exact hj
 at_:=fun a idx ha=>by
  have ow:(owner.setIfInBounds j (some js.length)).getD a (some 0)=if a=j then some js.length else owner.getD a (some 0):=by
   have hs:=L.sz
   simp only[Array.getD_eq_getD_getElem?,Array.getElem?_setIfInBounds]
   by_cases e:j=a
   ·rw[if_pos e,if_pos ∅,if_pos e.symm]
    rfl
   ·rw[if_neg e,if_neg (Ne.symm e)]
  rw[ow]
  have nm:=(L.iy hj).mp nj
  by_cases e:a=j
  ·rw[if_pos e]
   subst e
   constructor
   ·intro h
    cases h
    simp
   ·intro h
    rw[List.getElem?_append]at h
    split at h
    ·exact absurd (List.mem_of_getElem? h) nm
    ·rename_i hl
     have:idx-js.length=0:=by
      cases q:idx-js.length with
      |zero=>rfl
      |succ m=>rw[q]at h;cases h
     have:idx=js.length:=∅
     rw[this]
  ·rw[if_neg e,L.at_ a idx ha]
   rw[List.getElem?_append]
   split
   ·exact Iff.rfl
   ·rename_i hl
    constructor
    ·intro h
     rw[List.getElem?_eq_none ∅]at h
     cases h
    ·intro h
     cases q:idx-js.length with
     |zero=>rw[q]at h;cases h;exact absurd rfl e
     |succ m=>rw[q]at h;cases h
theorem Laid.step{mask:Nat}{owner:Array (Option Nat)}{js:List Nat}(L:Laid mask owner js)(c:Cyc (mask+1))(hl:js.length≤mask)(h:Int) :
  ∃j,SetTable.layClean.free mask owner (SetTable.turns mask) (SetTable.bits h % (mask+1)) (SetTable.bits h)=some j∧Laid mask (owner.setIfInBounds j (some js.length)) (js++[j]):=by
 obtain⟨j0,h0,n0⟩:∃j,j<mask+1∧j∉js:=by
  refine Classical.byContradiction fun q=>?_
  have all:∀x∈List.range (mask+1),x∈js:=fun x hx=>Classical.byContradiction fun z=>q ⟨x,List.mem_range.mp hx,z⟩
  have len:∀{l m:List Nat},l.Nodup→(∀x∈l,x∈m)→l.length≤m.length:=by
   intro l
   induction l with
   |nil=>intro m _ _;exact Nat.zero_le _
   | cons x l ih =>
    intro m h hs
    obtain⟨h1,h2⟩:=List.nodup_cons.mp h
    have hx:=hs x List.mem_cons_self
    have:=ih (m:=m.erase x) h2 fun y hy=>(List.mem_erase_of_ne fun z=>h1 (by rw[←z];exact hy)).mpr (hs y (List.mem_cons_of_mem _ hy))
    rw[List.length_erase_of_mem hx]at this
    have:=List.length_pos_of_mem hx
    rw[List.length_cons]
    omega
  have:=len List.nodup_range all
  rw[List.length_range]at this
  omega
 obtain⟨m,hm,e⟩:=Ab7 (h:=h) c h0
 obtain⟨j,e1,e2,e3⟩:=Sy (owner:=owner) m (SetTable.turns mask) (SetTable.bits h % (mask+1),SetTable.bits h) (Nat.le_of_lt_succ (Nat.mod_lt _ ∅)) (by unfold SetTable.turns;omega) (by rw[e];exact(L.iy ∅).mpr n0)
 exact⟨j,e1,L.put e2 e3⟩
theorem Tz{mask:Nat}(c:Cyc (mask+1)):∀(hs:List Int)(owner:Array (Option Nat))(js:List Nat),Laid mask owner js→js.length+hs.length≤mask →
  ∃pG js',hs.foldl (fun acc h=>do
    let (owner,k) ←acc
    let j ←SetTable.layClean.free mask owner (SetTable.turns mask) (SetTable.bits h % (mask+1)) (SetTable.bits h)
    pure (owner.setIfInBounds j (some k),k+1)) (some (owner,js.length))=some (pG,js'.length)∧Laid mask pG js'∧js'.length=js.length+hs.length
 | [],owner,js,L,_=>⟨owner,js,rfl,L,rfl⟩
 | h::hs,owner,js,L,hl=>by
  rw[List.length_cons]at hl
  obtain⟨j,e,L2⟩:=L.step c ∅ h
  obtain⟨o',js',e2,L3,e3⟩:=Tz c hs _ _ L2 (by rw[List.length_append];simp only[List.length_singleton];omega)
  refine⟨o',js',?_,L3,?_⟩
  ·rw[List.foldl_cons]
   have:(do
    let (owner,k) ← (some (owner,js.length):Option (Array (Option Nat)×Nat))
    let j ←SetTable.layClean.free mask owner (SetTable.turns mask) (SetTable.bits h % (mask+1)) (SetTable.bits h)
    pure (owner.setIfInBounds j (some k),k+1))=some (owner.setIfInBounds j (some js.length),js.length+1):=by
    show(SetTable.layClean.free mask owner (SetTable.turns mask) (SetTable.bits h % (mask+1)) (SetTable.bits h)).bind _=_
    rw[e]
    rfl
   rw[this]
   rw[List.length_append]at e2
   exact e2
  ·rw[e3,List.length_append]
   simp only[List.length_cons,List.length_nil]
   omega
theorem YW{mask:Nat}(c:Cyc (mask+1))(hs:Array Int)(hl:hs.size≤mask):∃owner js,SetTable.layClean mask hs=some owner∧Laid mask owner js∧js.length=hs.size:=by
 obtain⟨o,js,e,L,el⟩:=Tz c hs.toList (Array.replicate (mask+1) none) [] (Laid.start mask) (by simpa using hl)
 refine⟨o,js,?_,L,by simpa using el⟩
 unfold SetTable.layClean
 rw[←Array.foldl_toList,show(some (Array.replicate (mask+1) (none:Option Nat),0))=some (Array.replicate (mask+1) none,([]:List Nat).length)from rfl]
 rw[e]
 rfl
theorem Ag0{l m:List Nat}(hl:l.Nodup)(hm:m.Nodup)(h:∀x,x∈l↔x∈m):l.Perm m:=by
 rw[List.perm_iff_count]
 intro a
 rw[List.Nodup.count hl,List.Nodup.count hm]
 by_cases z:a∈l
 ·rw[if_pos z,if_pos ((h a).mp z)]
 ·rw[if_neg z,if_neg fun y=>z ((h a).mpr y)]
theorem AfT{mask finger moves:Nat}{led plain:Bool}(c:Cyc (mask+1))(hs:Array Int)(hl:hs.size≤mask):∃t order,SetTable.laid mask finger moves led plain hs=some (t,order)∧Ok t hs.size∧t.mask=mask∧t.led=led∧t.plain=plain∧order.toList.Perm (List.range hs.size):=by
 obtain⟨owner,js,e,L,el⟩:=YW c hs hl
 have gd:∀j,j≤mask→owner.getD j none=owner.getD j (some 0):=fun j hj=>by
  have:=L.sz
  simp[Array.getD,show j<owner.size by omega]
 let live:=(List.range (mask+1)).filterMap fun j=>(owner.getD j none).map (j,·)
 have mem:∀j idx,(j,idx)∈live↔j≤mask∧js[idx]? = some j:=fun j idx=>by
  show(j,idx)∈(List.range (mask+1)).filterMap _↔_
  rw[List.mem_filterMap]
  constructor
  ·rintro⟨a,ha,h⟩
   rw[List.mem_range]at ha
   obtain⟨b,hb,h⟩:=Option.map_eq_some_iff.mp h
   cases h
   rw[gd _ ∅]at hb
   exact⟨∅,(L.at_ _ _ ∅).mp hb⟩
  ·rintro⟨hj,h⟩
   exact⟨j,List.mem_range.mpr ∅,by rw[gd j hj,(L.at_ j idx hj).mpr h];rfl⟩
 have inc:live.Pairwise fun a b=>a.1<b.1:=by
  show((List.range (mask+1)).filterMap _).Pairwise _
  rw[List.pairwise_filterMap]
  refine List.pairwise_lt_range.imp fun{a b} hab x hx y hy=>?_
  obtain⟨_,_,rfl⟩:=Option.map_eq_some_iff.mp hx
  obtain⟨_,_,rfl⟩:=Option.map_eq_some_iff.mp hy
  exact hab
 have nd:(live.map (·.2)).Nodup:=by
  unfold List.Nodup
  rw[List.pairwise_map]
  refine List.Pairwise.imp_of_mem (fun{a b} ha hb h z=>?_) inc
  have h1:=((mem a.1 a.2).mp ha).2
  have h2:=((mem b.1 b.2).mp hb).2
  rw[z,h2]at h1
  have:=Option.some.inj h1
  omega
 have perm:(live.map (·.2)).Perm (List.range hs.size):=by
  refine Ag0 nd List.nodup_range fun x=>?_
  rw[List.mem_range]
  constructor
  ·intro h
   obtain⟨⟨j,idx⟩,hm,rfl⟩:=List.mem_map.mp h
   have:=(List.getElem?_eq_some_iff.mp ((mem j idx).mp hm).2).1
   show idx<_
   omega
  ·intro h
   obtain⟨j,hj⟩:∃j,js[x]? = some j:=⟨_,List.getElem?_eq_getElem ∅⟩
   exact List.mem_map.mpr ⟨(j,x),(mem j x).mpr ⟨L.le j (List.mem_of_getElem? hj),hj⟩,rfl⟩
 have len:live.length=hs.size:=by
  have:=perm.length_eq
  rw[List.length_map,List.length_range]at this
  exact this
 refine⟨{mask,place:=(live.map (·.1)).toArray,dummies:=#[],finger,led,moves,plain},(live.map (·.2)).toArray,?_,⟨fun i k hik hk=>?_,?_,fun k hk=>?_,rfl,hl⟩,rfl,rfl,rfl,by simpa using perm⟩
 ·unfold SetTable.laid
  rw[e]
  rfl
 ·dsimp only at hk ⊢
  rw[List.size_toArray,List.length_map]at hk
  have:=List.pairwise_iff_getElem.mp inc i k ∅ hk hik
  simp only[Array.getD_eq_getD_getElem?,List.getElem?_toArray,List.getElem?_map,List.getElem?_eq_getElem (show i<live.length by omega),List.getElem?_eq_getElem hk]
  exact this
 ·show((live.map (·.1)).toArray).size=hs.size
  rw[List.size_toArray,List.length_map,len]
 ·dsimp only at hk ⊢
  rw[List.size_toArray,List.length_map]at hk
  have:=((mem (live[k]).1 (live[k]).2).mp (List.getElem_mem hk)).1
  simp only[Array.getD_eq_getD_getElem?,List.getElem?_toArray,List.getElem?_map,List.getElem?_eq_getElem hk]
  exact this
theorem X3{α:Type}{es:Array α}{order:Array Nat}(h:order.toList.Perm (List.range es.size)):(order.filterMap (es[·]?)).toList.Perm es.toList:=by
 rw[Array.toList_filterMap]
 refine(h.filterMap _).trans ?_
 have e:(List.range es.size).filterMap (es[·]?)=es.toList:=by
  refine List.ext_getElem? fun i=>?_
  have:(List.range es.size).filterMap (es[·]?)=(List.range es.size).pmap (fun i (hi:i<es.size)=>es[i]) (fun i hi=>List.mem_range.mp hi):=by
   have:∀(l:List Nat)(hl:∀i∈l,i<es.size),l.filterMap (es[·]?)=l.pmap (fun i (hi:i<es.size)=>es[i]) hl:=by
    intro l
    induction l with
    |nil=>intro _;rfl
    | cons x l ih =>
     intro hl
     have hx:=hl x List.mem_cons_self
     rw[List.filterMap_cons,List.pmap_cons,←ih]
     simp[hx]
   exact this _ _
  rw[this]
  by_cases hi:i<es.size
  ·simp[hi]
  ·simp[hi]
 rw[e]
def stages:List Nat:=[8,32,128,512,2048,8192]
theorem T6{M:Nat}(h:M∈stages):Cyc M:=by
 simp only[stages,List.mem_cons,List.not_mem_nil,or_false]at h
 rcases h with rfl|rfl|rfl|rfl|rfl|rfl
 ·exact AoG
 ·exact Ak8
 ·exact Air
 ·exact Ajm
 ·exact Agh
 ·exact AgC
structure Good(t:SetTable)(n:Nat):Prop where
 ok:Ok t n
 st:t.mask+1∈stages
 few:n*5<t.mask*3
theorem Good.fresh(a b:Nat)(l:Bool):Good (SetTable.fresh a b l) 0:=⟨Aec a b l,(show 8∈stages by decide),(show 0*5<7*3 by decide)⟩
theorem Good.room{t:SetTable}{n:Nat}(h:Good t n):n+1≤t.mask:=by
 have h1:=h.st
 have h2:=h.few
 have h3:=h.ok.lt
 simp only[stages,List.mem_cons,List.not_mem_nil,or_false]at h1
 omega
theorem Good.odd{t:SetTable}{n:Nat}(h:Good t n):t.gaveWay=false:=by
 have h1:=h.st
 simp only[stages,List.mem_cons,List.not_mem_nil,or_false]at h1
 unfold SetTable.gaveWay
 rw[beq_eq_false_iff_ne]
 omega
theorem WK{t:SetTable}{n:Nat}(h:Ok t n):t.tooFull=decide (t.mask*3≤n*5):=by
 unfold SetTable.tooFull SetTable.fill
 rw[h.sz,h.nd]
 simp
theorem Zf{t:SetTable}{n:Nat}(h:Good t n)(hf:t.mask*3≤(n+1)*5)(hn:n<4914):SetTable.sizeAbove (SetTable.grown (n+1))∈stages∧(n+1)*5<(SetTable.sizeAbove (SetTable.grown (n+1))-1)*3∧n+1≤SetTable.sizeAbove (SetTable.grown (n+1))-1∧0<SetTable.sizeAbove (SetTable.grown (n+1))∧SetTable.sizeAbove (SetTable.grown (n+1))≤8192:=by
 have h1:=h.st
 have h2:=h.few
 simp only[stages,List.mem_cons,List.not_mem_nil,or_false]at h1
 obtain rfl|rfl|rfl|rfl|rfl:n=4∨n=18∨n=76∨n=306∨n=1228:=∅
 all_goals decide
end Tb
end L2
namespace L2
open PySem Spec PyProof.Rows SeqAt
section
variable{prog:Program}{w:World}{A:Around}{E:Value→Shared→Prop}{s:Shared}{h:Heap}{r:List Int}{b:Addr}
def Ez(prog:Program)(w:World)(h:Heap)(r:List Int)(b:Addr):Prop:=(tupleKind (Eb prog w)).is h (r.map Sum.inl) b
theorem V7:∀{r:List Int} {vs:List Value},ItemsAre (Eb prog w) (r.map Sum.inl) vs→∀v∈vs,∃i t,v=.int i t
 | [],_,h,v,hv=>by cases h;cases hv
 | i::r,_,h,v,hv=>by
  cases h with
  | cons h1 h2 =>
   rcases List.mem_cons.mp hv with rfl|hv
   ·have h1:Value.isInt i v=true:=h1
    cases v<;>simp[Value.isInt]at h1
    exact⟨_,_,rfl⟩
   ·exact V7 h2 v hv
theorem Ez.items(x:Ez prog w h r b):∃o items n,h.get? b=some o∧o.cls=.type "tuple"∧o.data=.seq items n∧∀v∈items.toList,∃i t,v=.int i t:=by
 obtain⟨o,items,n,h1,h2,h3,h4⟩:=x
 exact⟨o,items,n,h1,h2,h3,V7 h4⟩
theorem Aa2{Q:Bool→Shared→Prop}(x:Ez prog w s.heap r b)(q:Q true s):wpAny (model prog w) A (hashByValue 8 (.ref b)) Q E s:=by
 obtain⟨o,items,n,ho,hc,hd,hi⟩:=x.items
 unfold hashByValue
 refine wpAny_bind (wpAny_specialOf ⟨o,ho,hc⟩ F.slot_tuple_hash.lookup ?_)
 show wpAny _ _ (seqItems? (.ref b) >>= _) _ _ s
 refine wpAny_bind (wpAny_seqItems ho hd ?_)
 refine wpAny_bind ?_
 show wpAny _ _ (forIn items _ _) _ _ s
 rw[←Array.forIn_toList]
 refine wpAny_forIn_list _ (fun rest r s'=>r.1=none∧s'=s∧∀v∈rest,∃i t,v=.int i t) _ ?_ ?_ _ _ ⟨rfl,rfl,hi⟩
 ·rintro v rest r s' ⟨hr,rfl,hall⟩
  obtain⟨i,t,rfl⟩:=hall v List.mem_cons_self
  refine wpAny_bind (wpAny_pure ?_)
  simp only[Bool.not_true,Bool.false_eq_true,if_false]
  exact wpAny_pure ⟨rfl,rfl,fun u hu'=>hall u (List.mem_cons_of_mem _ hu')⟩
 ·rintro⟨r1,r2⟩ s' ⟨hr,rfl,_⟩
  simp only at hr
  subst hr
  exact wpAny_pure q
theorem SX{Q:Bool→Shared→Prop}(x:Ez prog w s.heap r b)(q:Q false s):wpAny (model prog w) A (ofAClassStatement 8 (.ref b)) Q E s:=by
 obtain⟨o,items,n,ho,hc,hd,hi⟩:=x.items
 unfold ofAClassStatement
 refine wpAny_bind (wpAny_typeOf ⟨o,ho,hc⟩ ?_)
 dsimp only
 refine wpAny_bind (wpAny_pure ?_)
 simp only[Bool.not_true,Bool.false_eq_true,if_false]
 refine wpAny_bind (wpAny_seqItems ho hd ?_)
 dsimp only
 refine wpAny_bind ?_
 rw[←Array.forIn_toList]
 refine wpAny_forIn_list _ (fun rest r s'=>r.1=none∧s'=s∧∀v∈rest,∃i t,v=.int i t) _ ?_ ?_ _ _ ⟨rfl,rfl,hi⟩
 ·rintro v rest r s' ⟨hr,rfl,hall⟩
  obtain⟨i,t,rfl⟩:=hall v List.mem_cons_self
  refine wpAny_bind (wpAny_pure ?_)
  simp only[Bool.false_eq_true,if_false]
  exact wpAny_pure ⟨rfl,rfl,fun u hu'=>hall u (List.mem_cons_of_mem _ hu')⟩
 ·rintro⟨r1,r2⟩ s' ⟨hr,rfl,_⟩
  simp only at hr
  subst hr
  exact wpAny_pure q
theorem AdG{Q:Bool→Shared→Prop}(x:Ez prog w s.heap r b){stored:List Value}(hs:∀y∈stored,∃r' b',y=.ref b'∧Ez prog w s.heap r' b')(q:Q false s):wpAny (model prog w) A (searchCouldBeSeen (.ref b) stored) Q E s:=by
 unfold searchCouldBeSeen
 refine wpAny_bind ?_
 refine wpAny_forIn_list _ (fun rest r s'=>r.1=none∧s'=s∧∀y∈rest,∃r' b',y=.ref b'∧Ez prog w s.heap r' b') _ ?_ ?_ _ _ ⟨rfl,rfl,hs⟩
 ·rintro v rest r s' ⟨hr,rfl,hall⟩
  obtain⟨r',b',rfl,hb'⟩:=hall v List.mem_cons_self
  have fin:∀u∈rest,∃r' b',u=.ref b'∧Ez prog w s'.heap r' b':=fun u hu'=>hall u (List.mem_cons_of_mem _ hu')
  dsimp only
  by_cases e:(b==b'||(carriedByValue (.ref b)&&carriedByValue (.ref b')))=true
  ·rw[if_pos e]
   exact wpAny_pure ⟨rfl,rfl,fin⟩
  ·rw[if_neg e]
   refine wpAny_bind (wpAny_eqIsQuiet_tuple x ?_)
   simp only[Bool.not_true,Bool.false_eq_true,if_false]
   refine wpAny_bind (wpAny_eqIsQuiet_tuple hb' ?_)
   simp only[Bool.not_true,Bool.false_eq_true,if_false]
   refine wpAny_bind (SX x ?_)
   simp only[Bool.false_eq_true,if_false]
   refine wpAny_bind (SX hb' ?_)
   simp only[Bool.false_eq_true,if_false]
   exact wpAny_pure ⟨rfl,rfl,fin⟩
 ·rintro⟨r1,r2⟩ s' ⟨hr,rfl,_⟩
  simp only at hr
  subst hr
  exact wpAny_pure q
def Xe(prog:Program)(w:World)(x:List Int×Addr):Int×Value:=((tupleKind (Eb prog w)).hash (x.1.map Sum.inl),.ref x.2)
def byText(w:World):Bool:=w.params.followText "set-order"
structure JZ(prog:Program)(w:World)(h:Heap)(a:Addr)(es:Array (Int×Value))(ep:Nat)(t:SetTable)(xs:List (List Int×Addr)):Prop where
 at_:h.get? a=some ⟨.type "set",none,.set es ep t,#[]⟩
 good:Tb.Good t es.size
 pm:es.toList.Perm (xs.map (Xe prog w))
 rows:∀x∈xs,Ez prog w h x.1 x.2
 pl:t.plain=true
 ld:t.led=!byText w
theorem JZ.len{a:Addr}{es:Array (Int×Value)}{ep:Nat}{t:SetTable}{xs:List (List Int×Addr)}(S:JZ prog w h a es ep t xs):es.size=xs.length:=by
 have:=S.pm.length_eq
 rw[Array.length_toList,List.length_map]at this
 exact this
theorem JZ.entry{a:Addr}{es:Array (Int×Value)}{ep:Nat}{t:SetTable}{xs:List (List Int×Addr)}(S:JZ prog w h a es ep t xs){i:Nat}(hi:i<es.size):∃x∈xs,es[i]? = some (Xe prog w x):=by
 have:es[i]∈es.toList:=by simp
 obtain⟨x,hx,e⟩:=List.mem_map.mp (S.pm.mem_iff.mp this)
 exact⟨x,hx,by rw[Array.getElem?_eq_getElem hi,e]⟩
theorem Nm{a:Addr}{es:Array (Int×Value)}{ep:Nat}{t:SetTable}{xs:List (List Int×Addr)}{Q:(Array (Int×Value)×Nat×SetTable)→Shared→Prop}(S:JZ prog w s.heap a es ep t xs)(q:Q (es,ep,t) s):wpAny (model prog w) A (setState a) Q E s :=
 wpAny_setState_of S.at_ rfl (Tb.Uk S.good.ok) q
theorem Qv{a:Addr}{es:Array (Int×Value)}{ep:Nat}{t:SetTable}{xs:List (List Int×Addr)}{x:Int}{Q:SetFound→Shared→Prop}(S:JZ prog w s.heap a es ep t xs)(hu:A.units<cLine)(hb:Ez prog w s.heap r b)(new:∀y∈xs,y.1≠r)
  (q:∀j,j≤t.mask→¬Tb.Has t.place j→Q (.free j false) s):∀(m fuel:Nat)(st:Option SetTable.Probe),Tb.PI t (st.getD (t.probeStart x))→m<10*SetTable.turns t.mask→m<fuel→t.slot (Tb.adv t m (st.getD (t.probeStart x))).j=.empty →
   wpAny (model prog w) A (setSearchFrom a (.ref b) x true fuel st) Q E s
 |m,0,st,_,_,hf,_=>by omega
 | m,fuel+1,st,hp,hm,hf,he=>by
  unfold setSearchFrom
  refine wpAny_bind (Nm S ?_)
  dsimp only
  rw[S.good.odd]
  simp only[Bool.false_eq_true,if_false]
  rcases Tb.Abo (hashAt:=_) (x:=x) S.good.ok hp hm he with⟨j,h1,h2,e⟩|⟨j,i,m',e,hm',hsl,hi,_⟩
  ·rw[e]
   exact wpAny_pure (q j h1 h2)
  ·rw[e]
   dsimp only
   obtain⟨y,hy,ey⟩:=S.entry hi
   have rest:wpAny (model prog w) A (do
     let some (_,y):=es[i]?|unsupported "internal:set-entry"
     let equal ←holding [y] (eqBool y (.ref b))
     let (es',_,t') ←setState a
     if true&&equal then return .there none
     let some same:=t'.sameMemory t.moves t.mask|unsupported "set.changed-during-lookup:is-the-new-block-at-the-old-address"
     let still ←match(if same then t'.slot j else .empty)with
      | .live i'=>match es'[i']? with
       |some (_,y')=>do pure (if ←isSame y' y then some i' else none)
       |none=>pure none
      |_=>pure none
     match still with
     |none=>rule "set.search.anew";setSearchFrom a (.ref b) x true fuel none
     |some i'=>if equal then return .there (some i')else setSearchFrom a (.ref b) x true fuel (some (Tb.adv t (m'+1) (st.getD (t.probeStart x))))) Q E s:=by
    rw[ey]
    dsimp only[Xe]
    have ne:decide (y.1.map (Sum.inl:Int→Key)=r.map Sum.inl)=false:=decide_eq_false fun z=>new y hy (Z1 z)
    refine wpAny_bind (wpAny_holding ((tupleKind (Eb prog w)).eqBool hu (S.rows y hy) hb ?_))
    rw[ne]
    refine wpAny_bind (Nm S ?_)
    dsimp only
    have sm:t.sameMemory t.moves t.mask=some true:=by unfold SetTable.sameMemory;rw[if_pos (by simp)]
    simp only[Bool.and_false,Bool.false_eq_true,if_false]
    rw[sm]
    dsimp only
    simp only[if_true]
    rw[hsl]
    dsimp only
    rw[ey]
    dsimp only[Xe]
    refine wpAny_bind (wpAny_isSame_ref_self (wpAny_bind (wpAny_pure ?_)))
    simp only[if_true]
    refine Qv S hu hb new q (m-(m'+1)) fuel (some (Tb.adv t (m'+1) (st.getD (t.probeStart x)))) (hp.advs _) ∅ ∅ ?_
    show t.slot (Tb.adv t (m-(m'+1)) (Tb.adv t (m'+1) (st.getD (t.probeStart x)))).j=.empty
    rw[←Tb.Pu,show m'+1+(m-(m'+1))=m by omega]
    exact he
   cases hl:t.led with
   | true =>
    rw[Bool.not_true,if_neg Bool.false_ne_true]
    first|exact rest|exact wpAny_bind (wpAny_pure rest)
   | false =>
    rw[Bool.not_false,if_pos rfl]
    refine wpAny_bind (AdG hb (fun z hz=>?_) ?_)
    ·obtain⟨e0,he0,rfl⟩:=List.mem_map.mp hz
     have:e0∈es.toList:=by
      have:=Array.mem_toList_iff.mp he0
      exact Array.mem_toList_iff.mpr (Array.mem_filter.mp this).1
     obtain⟨y',hy',rfl⟩:=List.mem_map.mp (S.pm.mem_iff.mp this)
     exact⟨y'.1,y'.2,rfl,S.rows y' hy'⟩
    ·rw[if_neg Bool.false_ne_true]
     first|exact rest|exact wpAny_pure rest
theorem Ez.stays{h':Heap}{a:Addr}{o:Obj}{es:Array (Int×Value)}{ep:Nat}{t:SetTable}(x:Ez prog w h r b)(ho:h.get? a=some o)(hd:o.data=.set es ep t)(hs:Heap.SameBut a h h'):Ez prog w h' r b:=by
 obtain⟨o',items,n,h1,h2,h3,h4⟩:=x
 have ne:b≠a:=by
  rintro rfl
  rw[ho]at h1
  cases h1
  rw[hd]at h3
  cases h3
 exact⟨o',items,n,(hs.2 b ne).trans h1,h2,h3,h4⟩
theorem Xm{a:Addr}{es es':Array (Int×Value)}{ep:Nat}{t t':SetTable}{xs:List (List Int×Addr)}{Q:Unit→Shared→Prop}(ho:s.heap.get? a=some ⟨.type "set",none,.set es ep t,#[]⟩)(hz:es'.size≤30000)
  (q:∀h',Heap.SameBut a s.heap h'→h'.get? a=some ⟨.type "set",none,.set es' (ep+1) t',#[]⟩→Q () {s with heap:=h'}):wpAny (model prog w) A (storeSet a es' t') Q E s:=by
 have hg:(s.heap.update a (Obj.putSet es' t')).get? a=some ⟨.type "set",none,.set es' (ep+1) t',#[]⟩:=by
  have:=Heap.get?_update_self (Obj.putSet es' t') ho (by rw[putSet_of es' t' rfl];rfl)
  rw[putSet_of es' t' rfl]at this
  exact this
 exact wpAny_storeSet_of ho rfl (q _ (Heap.SameBut.update s.heap a _) hg) (by rw[sizeLine_eq];omega)
theorem AcB{a:Addr}{es:Array (Int×Value)}{ep wanted:Nat}{t:SetTable}{xs:List (List Int×Addr)}{Q:Unit→Shared→Prop}(ho:s.heap.get? a=some ⟨.type "set",none,.set es ep t,#[]⟩)(ok:Tb.Ok t es.size)
  (st:SetTable.sizeAbove wanted∈Tb.stages) (few:es.size*5<(SetTable.sizeAbove wanted-1)*3) (le:es.size≤SetTable.sizeAbove wanted-1) (pos:0<SetTable.sizeAbove wanted) (top:SetTable.sizeAbove wanted≤8192) (hz:es.size≤30000)
  (q:∀h' es' t',Heap.SameBut a s.heap h'→h'.get? a=some ⟨.type "set",none,.set es' (ep+1) t',#[]⟩→Tb.Good t' es'.size→es'.toList.Perm es.toList→t'.plain=t.plain→t'.led=t.led→Q () {s with heap:=h'}):wpAny (model prog w) A (setRelay a wanted) Q E s:=by
 unfold setRelay
 refine wpAny_bind (wpAny_setState_of ho rfl (Tb.Uk ok) ?_)
 dsimp only
 have hs:¬SetTable.sizeAbove wanted>sizeLine:=by rw[sizeLine_eq];omega
 have cy:Tb.Cyc (SetTable.sizeAbove wanted-1+1):=by rw[Nat.sub_add_cancel pos];exact Tb.T6 st
 obtain⟨t',order,e,ok',m',l',p',pm⟩:=Tb.AfT (finger:=t.finger) (moves:=t.movedTo (SetTable.sizeAbove wanted-1)) (led:=t.led) (plain:=t.plain) cy (es.map (·.1)) (by rw[Array.size_map];exact le)
 rw[Array.size_map]at ok' pm
 have pm':=Tb.X3 pm
 have sz:(order.filterMap (es[·]?)).size=es.size:=by rw[←Array.length_toList,pm'.length_eq,Array.length_toList]
 have er:t.relaid (es.map (·.1)) wanted=some (t',order):=e
 rw[if_neg hs,er]
 have fin:wpAny (model prog w) A (storeSet a (order.filterMap (es[·]?)) t') Q E s:=Xm (xs:=xs) ho (by rw[sz];exact hz) fun h' sb g=>q h' _ t' sb g ⟨by rw[sz];exact ok',by rw[m',Nat.sub_add_cancel pos];exact st,by rw[sz,m'];exact few⟩ pm' p' l'
 have re:wpAny (model prog w) A (do
   let some (t,order):=(some (t',order):Option (SetTable×Array Nat))|unsupported "internal:set-table-without-room"
   let es':=order.filterMap (es[·]?)
   if es'.size != es.size then unsupported "internal:set-table-lost-an-element"
   pure (es',t)) (fun x s'=>wpAny (model prog w) A (storeSet a x.1 x.2) Q E s') E s:=by
  dsimp only
  have:((order.filterMap (es[·]?)).size != es.size)=false:=by rw[sz];simp
  rw[this]
  simp only[Bool.false_eq_true,if_false]
  exact wpAny_pure fin
 first|exact wpAny_bind re|exact wpAny_bind (wpAny_pure (wpAny_bind re))
theorem Afi{a:Addr}{es:Array (Int×Value)}{ep:Nat}{t:SetTable}{xs:List (List Int×Addr)}{Q:Bool→Shared→Prop}(S:JZ prog w s.heap a es ep t xs)(hu:A.units<cLine)(hb:Ez prog w s.heap r b)(new:∀y∈xs,y.1≠r)(hn:xs.length<4914)
  (q:∀h' es' ep' t' tk,s.toks≤tk→Heap.SameBut a s.heap h'→JZ prog w h' a es' ep' t' ((r,b)::xs)→Q true {s with heap:=h',toks:=tk}):wpAny (model prog w) A (setAdd a (.ref b)) Q E s:=by
 have len:=S.len
 unfold setAdd
 refine wpAny_holding (wpAny_bind ((tupleKind (Eb prog w)).pyHash hu hb ?_))
 have S1:JZ prog w ({s with toks:=s.toks+(tupleKind (Eb prog w)).draws (r.map Sum.inl)}:Shared).heap a es ep t xs:=S
 have hb1:Ez prog w ({s with toks:=s.toks+(tupleKind (Eb prog w)).draws (r.map Sum.inl)}:Shared).heap r b:=hb
 generalize hx:(tupleKind (Eb prog w)).hash (r.map Sum.inl)=x
 unfold setAddHashed
 refine wpAny_holding ?_
 unfold setAddHashedIn
 refine wpAny_bind (Nm S1 ?_)
 dsimp only
 have bs:byScan (.ref b) es=false:=rfl
 rw[bs]
 simp only[Bool.false_eq_true,if_false]
 obtain⟨m,hm,he⟩:=Tb.Aeb S.good.ok (Tb.T6 S.good.st) x
 unfold setSearch
 have st:=S.good.st
 have m1:m<100000:=by
  unfold SetTable.turns at hm
  simp only[Tb.stages,List.mem_cons,List.not_mem_nil,or_false]at st
  omega
 have pi:Tb.PI t ((none:Option SetTable.Probe).getD (t.probeStart x)):=by
  show Tb.PI t (t.probeStart x)
  rw[Tb.Td]
  exact Tb.Ajw (Nat.le_of_lt_succ (Nat.mod_lt _ ∅))
 have room:=S.good.room
 refine wpAny_bind (Qv S1 hu hb1 new (fun j hj nj=>?_) m 100000 none pi hm m1 he)
 dsimp only
 refine wpAny_bind (Nm S1 ?_)
 dsimp only
 obtain⟨ok2,p2,mk2,ld2,pl2,_,_⟩:=Tb.Ajv S.good.ok hj nj room
 generalize uW:t.put j=P at ok2 p2 mk2 ld2 pl2 ⊢
 obtain⟨t2,p⟩:=P
 dsimp only at ok2 p2 mk2 ld2 pl2 ⊢
 have qQ:t2.plain=true:=pl2.trans S.pl
 have rE:t2.led=!byText w:=ld2.trans S.ld
 rw[qQ]
 simp only[if_true]
 refine wpAny_bind (Aa2 hb1 ?_)
 simp only[if_true]
 have isz:(SetTable.insertAt es p (x,Value.ref b)).size=es.size+1:=Tb.size_insert p2
 have ipm:(SetTable.insertAt es p (x,Value.ref b)).toList.Perm (((r,b)::xs).map (Xe prog w)):=by
  refine(Tb.W2 p2).trans ?_
  rw[List.map_cons]
  have:Xe prog w (r,b)=(x,Value.ref b):=by unfold Xe;rw[hx]
  rw[this]
  exact S.pm.cons _
 have qH:∀h':Heap,Heap.SameBut a s.heap h'→∀y∈(r,b)::xs,Ez prog w h' y.1 y.2:=fun h' sb y hy=>by
  rcases List.mem_cons.mp hy with rfl|hy
  ·exact hb.stays S.at_ rfl sb
  ·exact(S.rows y hy).stays S.at_ rfl sb
 refine wpAny_bind (Xm (xs:=xs) S1.at_ (by rw[isz];omega) fun h1 sb1 g1=>?_)
 by_cases tf:t2.mask*3≤(es.size+1)*5
 ·have:(!false&&t2.tooFull)=true:=by rw[Tb.WK ok2,decide_eq_true tf];rfl
  rw[if_pos this]
  rw[mk2]at tf
  obtain⟨n1,n2,n3,n4,n5⟩:=Tb.Zf S.good tf ∅
  have sy:Tb.Ok t2 (SetTable.insertAt es p (x,Value.ref b)).size:=by rw[isz];exact ok2
  refine wpAny_bind (AcB (xs:=xs) g1 sy n1 (by rw[isz];exact n2) (by rw[isz];exact n3) n4 n5 (by rw[isz];omega) fun h2 es2 t3 sb2 g2 gd2 pm2 pp2 lp2=>?_)
  exact wpAny_pure (q h2 es2 _ t3 _ (Nat.le_add_right _ _) (sb1.trans sb2) ⟨g2,gd2,pm2.trans ipm,qH h2 (sb1.trans sb2),pp2.trans qQ,lp2.trans rE⟩)
 ·have:(!false&&t2.tooFull)=false:=by rw[Tb.WK ok2,decide_eq_false tf];rfl
  rw[if_neg (by rw[this];exact Bool.false_ne_true)]
  refine wpAny_pure (q h1 _ _ t2 _ (Nat.le_add_right _ _) sb1 ⟨g1,⟨by rw[isz];exact ok2,by rw[mk2];exact S.good.st,by rw[isz];omega⟩,ipm,qH h1 sb1,qQ,rE⟩)
end
section
variable{prog:Program}{w:World}{A:Around}{E:Value→Shared→Prop}{s:Shared}
theorem Vb(x:Value){Q1:Value→Shared→Prop}(h:Q1 (.ref s.heap.objs.size) {s with heap:=s.heap.push ⟨.type "set",none,.set #[] 0 (.fresh 0 0 (!byText w)),#[]⟩}):codeAny (model prog w) A (.call (.builtin "set.__new__") ⟨[.type "set",x],[]⟩) (wants Q1 E) s:=by
 refine codeAny_of_tree ?_
 show wpAny _ A.in1 (checkBuiltinCall "set.__new__" ⟨[.type "set",x],[]⟩ >>= fun _=>again (.builtin "set.__new__" ⟨[.type "set",x],[]⟩)) _ _ s
 refine wpAny_bind (wpAny_of_eq (F.newCall_set_1 x) (wpAny_pure (And.intro (plainId_quiet F.plain_set_new _) (codeAny_builtin F.entry_set_new ?_))))
 rw[Around.under_plainId F.plain_set_new _]
 unfold Builtin.«set.__new__» Builtin.Frozenset.newClass
 have hsub:=sub_set_self
 obtain⟨hp,g,d,tk,os⟩:=s
 dsimp only
 wp_walk
 refine wpAny_askSetting (wpAny_pure ?_)
 dsimp only
 simp only[newObj]
 exact wpAny_bind (wpAny_alloc (wpAny_pure (wpAny_pure h)))
theorem Ez.kept{h h':Heap}{r:List Int}{b:Addr}(x:Ez prog w h r b)(k:∀o,h.get? b=some o→h'.get? b=some o):Ez prog w h' r b:=by
 obtain⟨o,its,n,h1,z⟩:=x
 exact⟨o,its,n,k _ h1,z⟩
theorem JZ.kept{h h':Heap}{a:Addr}{es:Array (Int×Value)}{ep:Nat}{t:SetTable}{xs:List (List Int×Addr)}(S:JZ prog w h a es ep t xs)(k:∀o,h.get? a=some o→h'.get? a=some o)(kr:∀x∈xs,∀o,h.get? x.2=some o→h'.get? x.2=some o):JZ prog w h' a es ep t xs :=
 ⟨k _ S.at_,S.good,S.pm,fun x hx=>(S.rows x hx).kept (kr x hx),S.pl,S.ld⟩
theorem AcS{R:Result→Shared→Prop}{I Sa:Addr}{fp wr:List Addr}{G:Array GenState→Array GenState→Prop}{n:Nat}{P:Nat→Value→Prop}{St:Nat→Shared→Prop}(W:WalksS prog w A.in1 I fp wr G n P St)(sf:Sa∉fp)(hu:A.in1.units<cLine)(xs:List (List Int×Addr))(hlen:xs.length=n)
  (val:∀i v,P i v→∃x,xs[i]? = some x∧v=.ref x.2) (nd:(xs.map (·.1)).Nodup) (few:n<4914) (far:∀x∈xs,x.2∉Sa::wr) :
  ∀(k i:Nat)(s:Shared)(es:Array (Int×Value))(ep:Nat)(t:SetTable),n-i=k→i≤n→St i s→JZ prog w s.heap Sa es ep t (xs.take i).reverse→(∀x∈xs,Ez prog w s.heap x.1 x.2) →
   (∀s' es' ep' t',Moved (Sa::wr) G s s'→JZ prog w s'.heap Sa es' ep' t' xs.reverse→R (.ok (.ret .none)) s')→codeAny (model prog w) A (.builtin "set.update.loop" ⟨[.ref Sa,.ref I],[]⟩) R s:=by
 have sw:Sa∉wr:=fun z=>sf (W.sub _ z)
 have up:∀b∈wr,b∈Sa::wr:=fun b z=>List.mem_cons_of_mem _ z
 intro k
 induction k with
 | zero =>
  intro i s es ep t ek li st S rw0 fin
  obtain rfl:i=n:=∅
  refine codeAny_builtin F.entry_set_update_loop ?_
  rw[Around.under_plainId F.plain_set_update_loop _]
  show wpAny _ A.in1 (pyNext (.ref I) >>= fun v=>_) _ _ s
  refine wpAny_bind (W.done s _ _ st fun s1 mv=>?_)
  show wpAny _ A.in1 (ret .none) _ _ s1
  rw[List.take_of_length_le ∅]at S
  exact wpAny_pure (fin s1 es ep t (mv.mono up) (S.kept (fun o e=>mv.heap _ o sw e) fun x hx o e=>mv.heap _ o (fun z=>far x (List.mem_reverse.mp hx) (up _ z)) e))
 | succ k ih =>
  intro i s es ep t ek li st S rw0 fin
  have lt:i<n:=∅
  refine codeAny_builtin F.entry_set_update_loop ?_
  rw[Around.under_plainId F.plain_set_update_loop _]
  show wpAny _ A.in1 (pyNext (.ref I) >>= fun v=>_) _ _ s
  refine wpAny_bind (W.item i s _ _ lt st fun v s1 hv st1 mv=>?_)
  obtain⟨x,hx,rfl⟩:=val i v hv
  have xm:=List.mem_of_getElem? hx
  have S1:JZ prog w s1.heap Sa es ep t (xs.take i).reverse:=S.kept (fun o e=>mv.heap _ o sw e) fun y hy o e=>mv.heap _ o (fun z=>far y (List.mem_of_mem_take (List.mem_reverse.mp hy)) (up _ z)) e
  have R1:∀y∈xs,Ez prog w s1.heap y.1 y.2:=fun y hy=>(rw0 y hy).kept fun o e=>mv.heap _ o (fun z=>far y hy (up _ z)) e
  have new:∀y∈(xs.take i).reverse,y.1≠x.1:=fun y hy e=>by
   obtain⟨j,hj⟩:=List.getElem?_of_mem (List.mem_reverse.mp hy)
   have jl:j<i:=by
    have:=(List.getElem?_eq_some_iff.mp hj).1
    rw[List.length_take]at this
    omega
   rw[List.getElem?_take_of_lt jl]at hj
   have h1:(xs.map (·.1))[j]? = some x.1:=by rw[List.getElem?_map,hj,←e];rfl
   have h2:(xs.map (·.1))[i]? = some x.1:=by rw[List.getElem?_map,hx];rfl
   have:=(List.getElem?_inj (List.getElem?_eq_some_iff.mp h1).1 nd).mp (h1.trans h2.symm)
   omega
  show wpAny _ A.in1 (holding [Value.ref x.2] (setAdd Sa (.ref x.2)) >>= fun _=>_) _ _ s1
  refine wpAny_bind (wpAny_holding (Afi S1 hu (R1 x xm) new (by rw[List.length_reverse,List.length_take];omega) fun h' es' ep' t' tk tl sb S2=>?_))
  have e2:x::(xs.take i).reverse=(xs.take (i+1)).reverse:=by rw[List.take_add_one,hx,Option.toList_some,List.reverse_append];rfl
  have S2:JZ prog w h' Sa es' ep' t' (xs.take (i+1)).reverse:=by rw[←e2];exact S2
  refine wpAny_pure ⟨plainId_quiet F.plain_set_update_loop _,ih (i+1) {s1 with heap:=h',toks:=tk} es' ep' t' ∅ lt (W.frame _ s1 h' tk st1 tl fun b hb o e=>?_) S2 (fun y hy=>(R1 y hy).stays S1.at_ rfl sb) fun s2 es2 ep2 t2 mv2 S3=>?_⟩
  ·rw[sb.2 b fun z=>sf (by rw[←z];exact hb)];exact e
  ·exact fin s2 es2 ep2 t2 (Moved.trans W.gtrans ((mv.mono up).then_heap tl fun b o hb e=>by rw[sb.2 b fun z=>hb (by rw[z];exact List.mem_cons_self)];exact e) mv2) S3
set_option maxHeartbeats 3200000 in
theorem Abb{l:Addr}{vs:List Value}{xs:List (List Int×Addr)}{Q:Value→Shared→Prop}(hh:A.handled=none)(hu:A.units+16<cLine)(hl:s.heap.IsList l vs.toArray)(ev:vs=xs.map fun x=>.ref x.2)(rows:∀x∈xs,Ez prog w s.heap x.1 x.2)(nd:(xs.map (·.1)).Nodup)(few:xs.length<4914)
  (q:∀h' tk es ep t,JZ prog w h' s.heap.objs.size es ep t xs.reverse→(∀b o,s.heap.get? b=some o→h'.get? b=some o)→Q (.ref s.heap.objs.size) {s with heap:=h',toks:=tk}):wpAny (model prog w) A (call (.type "set") [.ref l]) Q E s:=by
 obtain⟨mc,mt,hmro⟩:=F.called_set.mro
 have hmade:=F.called_set.made
 have hsub:=F.called_set.sub
 refine wpAny_call (codeAny_of_tree ?_)
 show wpAny _ _ (callAny (.type "set") _) _ _ _
 refine wpAny_pure ⟨Code.quiet_builtin _ (by decide +kernel),codeAny_builtin F.entry_type_call ?_⟩
 rw[Around.under_plain (weight_type_call_type "set" [.ref l] []) rfl]
 have i1:=F.called_set.notType
 have i2:=F.called_set.canCreate
 have i3:=F.typeCall_set_1 (.ref l)
 repeat (any_goals (first|assumption|wp_step))
 refine codeAny_mono (Vb (.ref l) (E:=E) (Q1:=fun obj s₁=>obj=.ref s.heap.objs.size∧s₁={s with heap:=s.heap.push ⟨.type "set",none,.set #[] 0 (.fresh 0 0 (!byText w)),#[]⟩}) ⟨rfl,rfl⟩) fun res s₁ hr=>?_
 cases res with
 |error e=>exact hr
 | ok fl =>
  cases fl with
  |next=>exact hr.elim
  |brk=>exact hr.elim
  |cont=>exact hr.elim
  | ret obj =>
   obtain⟨rfl,rfl⟩:=hr
   generalize ob:(⟨.type "set",none,.set #[] 0 (.fresh 0 0 (!byText w)),#[]⟩:Obj)=o0
   have at0:(s.heap.push o0).get? s.heap.objs.size=some o0:=Heap.get?_push_size _ (by rw[←ob];rfl)
   have ty:Shared.TypeIs {s with heap:=s.heap.push o0} (.ref s.heap.objs.size) "set":=⟨_,at0,by rw[←ob]⟩
   have j1:=F.called_set.init.lookup
   have j2:=F.called_set.init.bind (.ref s.heap.objs.size)
   repeat (any_goals (first|assumption|wp_step))
   refine codeAny_mono (codeAny_call_builtin (R:=wants (fun v s₂=>v=.none∧∃h' tk es ep t,s₂={s with heap:=h',toks:=tk}∧JZ prog w h' s.heap.objs.size es ep t xs.reverse∧∀b o,s.heap.get? b=some o→h'.get? b=some o) E) F.called_set.init.plain F.entry_set_init (check_set_init_1 ty ?_)) fun res2 s₂ hr₂=>?_
   ·obtain⟨ol,k1,k2,nl,k3⟩:=hl
    obtain⟨c0,d0,dt0,sl0⟩:=ol
    cases k2
    cases k3
    have lat:(s.heap.push o0).get? l=some ⟨.type "list",d0,.seq vs.toArray nl,sl0⟩:=Heap.get?_push_of_some _ k1
    have m1:=F.sub_list_set
    have m2:=F.sub_list_frozenset
    have m3:(Value.type "list"==Value.type "dict")=false:=⋯
    have il:(s.heap.push o0).IsList l vs.toArray:=⟨_,lat,rfl,nl,rfl⟩
    have ls:l<s.heap.objs.size:=Heap.lt_size k1
    have h3:A.in1.in1.in1.handled=none:=by simp[hh]
    have sz1:(s.heap.push o0).objs.size=s.heap.objs.size+1:=Heap.size_push _ _
    have ni:l≠(s.heap.push o0).objs.size:=by rw[sz1];exact Nat.ne_of_lt (Nat.lt_succ_of_lt ls)
    have lx:vs.toArray.size=xs.length:=by rw[ev,List.size_toArray,List.length_map]
    have old:∀x∈xs,x.2<s.heap.objs.size:=fun x hx=>by
     obtain⟨o,_,_,e,_⟩:=rows x hx
     exact Heap.lt_size e
    subst ob
    unfold Builtin.«set.__init__» noKeywords Builtin.Frozenset.updateFrom
    generalize hPI:pyIter=PI
    wp_walk
    subst hPI
    refine wpAny_pyIter_list il ?_
    refine wpAny_bind (m:=runValue _) (wpAny_runValue ?_)
    refine AcS ((Walks.list h3 _ l ni vs.toArray).toS) (Sa:=s.heap.objs.size) (by rw[sz1];simp only[List.mem_cons,List.not_mem_nil,or_false,not_or];exact⟨Nat.ne_of_lt (Nat.lt_succ_self _),Nat.ne_of_gt ls⟩) (by show A.units+1+1+1<cLine;omega) xs lx.symm (fun i v hv=>?_) nd ∅ (fun x hx=>?_) (vs.toArray.size-0) 0 _ #[] 0 (.fresh 0 0 (!byText w)) ∅ (Nat.zero_le _) ⟨⟨_,Heap.get?_push_size _ rfl,rfl,rfl⟩,il.push _⟩ ⟨?_,Tb.Good.fresh 0 0 (!byText w),List.Perm.refl _,(fun x hx=>by cases hx),rfl,rfl⟩ (fun x hx=>(rows x hx).kept fun o e=>Heap.get?_push_of_some _ (Heap.get?_push_of_some _ e)) fun s' es' ep' t' mv S'=>?_
    ·have:vs[i]? = some v:=by rw[←hv];simp
     rw[ev,List.getElem?_map]at this
     obtain⟨x,h1,h2⟩:=Option.map_eq_some_iff.mp this
     exact⟨x,h1,h2.symm⟩
    ·have:=old x hx
     rw[sz1]
     simp only[List.mem_cons,List.not_mem_nil,or_false,not_or]
     exact⟨Nat.ne_of_lt this,Nat.ne_of_lt (Nat.lt_succ_of_lt this)⟩
    ·exact Heap.get?_push_of_some _ at0
    ·obtain⟨h',g',d',tk',os'⟩:=s'
     obtain rfl:g'=s.gens:=mv.gens
     obtain rfl:d'=s.drawn:=mv.drawn
     obtain rfl:os'=s.os:=mv.os
     refine wpAny_pure ?_
     show wpAny _ _ (ret .none) _ _ _
     refine wpAny_pure ⟨rfl,h',tk',es',ep',t',rfl,S',fun b o e=>mv.heap b o ?_ (Heap.get?_push_of_some _ (Heap.get?_push_of_some _ e))⟩
     have:=Heap.lt_size e
     rw[sz1]
     simp only[List.mem_cons,List.not_mem_nil,or_false,not_or]
     exact⟨Nat.ne_of_lt this,Nat.ne_of_lt (Nat.lt_succ_of_lt this)⟩
   ·cases res2 with
    |error e=>exact hr₂
    | ok fl₂ =>
     cases fl₂ with
     |next=>exact hr₂.elim
     |brk=>exact hr₂.elim
     |cont=>exact hr₂.elim
     | ret v =>
      obtain⟨rfl,h',tk,es,ep,t,rfl,S',kp⟩:=hr₂
      repeat (any_goals (first|assumption|wp_step))
      exact q h' tk es ep t S' kp
end
def Zw(K:W.Frag)(H:Hp)(xs:List (List Int×Addr)):Prop:=∀x∈xs,SqT K H x.2 (x.1.map V.int)
theorem Tc:∀{bs:List Addr} {its:List Value},Vals (bs.map V.ref) its→its=bs.map Value.ref
 | [],_,r=>by cases r;rfl
 | b::bs,_,r=>by
  cases r with
  |cons z1 z2=>rw[Tc z2];rw[show _=Value.ref b from z1];rfl
section
variable{X:Cx}{e:Expr}{te:DTE}{pos:Pos}
theorem AaF{K:W.Frag}{H:Hp}:∀{nss:List (List Int)} {vs:List V},RpL K H (nss.map Bc) vs→∃xs:List (List Int×Addr),vs=xs.map (fun x=>V.ref x.2)∧xs.map (·.1)=nss∧Zw K H xs
 | [],_,h=>by rw[Bq.mp h];exact⟨[],rfl,rfl,fun x hx=>by cases hx⟩
 | r::nss,_,h=>by
  obtain⟨v,vr,rfl,h1,h2⟩:=Aw.mp h
  obtain⟨b,rfl,hb⟩:=Vh h1
  obtain⟨xs,e1,e2,e3⟩:=AaF h2
  refine⟨(r,b)::xs,by rw[e1];rfl,by rw[List.map_cons,e2],fun x hx=>?_⟩
  rcases List.mem_cons.mp hx with rfl|hx
  ·exact hb
  ·exact e3 x hx
end
theorem AkF{A:Around}(h:A.units+64<cLine):A.units+16<cLine:=∅
theorem Es:Slot "set_iterator" "__next__" "set_iterator.__next__" :=
 .of (owner:="set_iterator") (n:="__next__") (by rw[typeLookup_type,builtinLookup_eq_fast];kernel_rfl) (by decide +kernel) (by decide +kernel) (by decide +kernel)
  (by first|exact .inl (by decide +kernel)|exact .inr (by decide +kernel)) (by rw[isSubtype_type];kernel_rfl)
theorem Mj:Slot "set_iterator" "__iter__" "set_iterator.__iter__" :=
 .of (owner:="set_iterator") (n:="__iter__") (by rw[typeLookup_type,builtinLookup_eq_fast];kernel_rfl) (by decide +kernel) (by decide +kernel) (by decide +kernel)
  (by first|exact .inl (by decide +kernel)|exact .inr (by decide +kernel)) (by rw[isSubtype_type];kernel_rfl)
theorem La:entryFor table "set_iterator.__next__"=some Builtin.«set_iterator.__next__» := entryFor_of_fast (by kernel_rfl)
theorem RX:entryFor table "set_iterator.__iter__"=some Builtin.«dict_keyiterator.__iter__» := entryFor_alias (id':="dict_keyiterator.__iter__") (by kernel_rfl) rfl (by decide +kernel) (by kernel_rfl)
theorem Uz:entryFor table "set.__iter__"=some Builtin.«frozenset.__iter__» := entryFor_alias (id':="frozenset.__iter__") (by kernel_rfl) rfl (by decide +kernel) (by kernel_rfl)
theorem Mg(a:Value):argsOk "set_iterator.__next__" ⟨[a],[]⟩:=by unfold argsOk;kernel_rfl
theorem Uo(a:Value):argsOk "set_iterator.__iter__" ⟨[a],[]⟩:=by unfold argsOk;kernel_rfl
theorem Xf(a:Value):argsOk "set.__iter__" ⟨[a],[]⟩:=by unfold argsOk;kernel_rfl
theorem Zx{α:Type}(next:Nat→Nat):∀(f k:Nat)(l:List α)(out:Array α),l.length=f→(pickOrder.go next f k l out).toList.Perm (out.toList++l)
 | 0,k,l,out,h=>by
  rw[List.length_eq_zero_iff.mp h,List.append_nil]
  unfold pickOrder.go
  exact List.Perm.refl _
 | f+1,k,l,out,h=>by
  unfold pickOrder.go
  have hl:next k % l.length<l.length:=Nat.mod_lt _ ∅
  rw[List.getElem?_eq_getElem hl]
  dsimp only
  refine(Zx next f (k+1) _ _ (by rw[List.length_eraseIdx_of_lt hl];omega)).trans ?_
  rw[Array.toList_push,List.append_assoc]
  refine List.Perm.append_left _ ?_
  show(l[next k % l.length]::l.eraseIdx (next k % l.length)).Perm l
  rw[List.eraseIdx_eq_take_drop_succ]
  refine List.perm_middle.symm.trans ?_
  rw[List.getElem_cons_drop,List.take_append_drop]
theorem Aa5{α:Type}(next:Nat→Nat)(xs:Array α):(pickOrder next xs).toList.Perm xs.toList:=Zx next _ _ _ _ (by simp)
structure GR(w:World)(h:Heap)(a:Addr)(es:Array (Int×Value))(ep:Nat)(t:SetTable):Prop where
 at_:h.get? a=some ⟨.type "set",none,.set es ep t,#[]⟩
 ok:Tb.Ok t es.size
 pl:t.plain=true
 ld:t.led=!byText w
def Ga(w:World)(a:Addr)(ep:Nat)(es:Array (Int×Value)):Array (Int×Value):=if byText w then pickOrder (w.params.setOrder a ep) es else es
theorem Tr(w:World)(a:Addr)(ep:Nat)(es:Array (Int×Value)):(Ga w a ep es).toList.Perm es.toList:=by
 unfold Ga
 split
 ·exact Aa5 _ _
 ·exact List.Perm.refl _
theorem KD(w:World)(a:Addr)(ep:Nat)(es:Array (Int×Value)):(Ga w a ep es).size=es.size:=by
 have:=(Tr w a ep es).length_eq
 simpa using this
def Gu(w:World)(t:SetTable):Nat→Nat
 |0=>0
 |i+1=>if byText w then 0 else t.place.getD i 0+1
def Qt(w:World)(h:Heap)(I a:Addr)(t:SetTable)(i n ep:Nat):Prop:=h.get? I=some ⟨.type "set_iterator",none,.fields #[.int (Gu w t i) 0,.int i 0,.ref a,.int n 0,.int ep 0],#[]⟩
section
variable{prog:Program}{w:World}{A:Around}{E:Value→Shared→Prop}{s:Shared}{a I:Addr}{es:Array (Int×Value)}{ep i:Nat}{t:SetTable}
theorem GR.state{Q:(Array (Int×Value)×Nat×SetTable)→Shared→Prop}(S:GR w s.heap a es ep t)(q:Q (es,ep,t) s):wpAny (model prog w) A (setState a) Q E s:=wpAny_setState_of S.at_ rfl (Tb.Uk S.ok) q
theorem GR.text{Q:Bool→Shared→Prop}(q:Q (byText w) s):wpAny (model prog w) A setsByText Q E s:=by
 unfold setsByText
 exact wpAny_bind (wpAny_askSetting (wpAny_pure q))
theorem GR.next(S:GR w s.heap a es ep t){Q:Option (Value×Nat)→Shared→Prop}(q:Q (((Ga w a ep es)[i]?).map fun e=>(e.2,Gu w t (i+1))) s)(hi:i≤es.size):wpAny (model prog w) A (setNext a (Gu w t i) i ep) Q E s:=by
 unfold setNext
 refine wpAny_bind (S.state ?_)
 dsimp only
 refine wpAny_bind (GR.text ?_)
 cases hb:byText w with
 | true =>
  rw[if_pos rfl,if_neg (by simp)]
  unfold setWalk
  refine wpAny_bind (wpAny_bind (S.state ?_))
  dsimp only
  refine wpAny_bind (GR.text ?_)
  rw[hb,if_pos rfl]
  refine wpAny_bind (wpAny_askSetting (wpAny_pure (wpAny_pure ?_)))
  unfold Ga at q
  rw[hb,if_pos rfl]at q
  have e1:Gu w t i=0:=by cases i with
   |zero=>rfl
   |succ i=>unfold Gu;rw[hb];rfl
  have e2:Gu w t (i+1)=0:=by unfold Gu;rw[hb];rfl
  rw[e2]at q
  rw[e1]
  exact q
 | false =>
  rw[if_neg Bool.false_ne_true]
  have hd:(!t.plain&&decide (es.size>1))=false:=by rw[S.pl];rfl
  have hl:(!t.led && !es.isEmpty)=false:=by rw[S.ld,hb];rfl
  have e1:SetTable.below t.place (Gu w t i)=i:=by
   cases i with
   |zero=>exact Tb.Y7 S.ok.rs
   | succ i =>
    unfold Gu
    rw[hb]
    exact Tb.Yo S.ok.rs (by have:=S.ok.sz;omega)
  have ps:=S.ok.sz
  rw[if_neg (fun z=>by have z:(!t.plain&&decide (es.size>1))=true:=z;rw[hd]at z;cases z)]
  refine wpAny_bind ?_
  show wpAny _ _ (if(!t.led && !es.isEmpty)=true then unsupported "set:maker-not-led" else pure ()) _ _ s
  rw[hl,if_neg Bool.false_ne_true]
  refine wpAny_pure (wpAny_pure ?_)
  rw[e1]
  unfold Ga Gu at q
  rw[hb]at q
  simp only[Bool.false_eq_true,if_false]at q
  by_cases h:i<es.size
  ·have hp:i<t.place.size:=∅
   have e2:t.place.getD i 0=t.place[i]:=by simp[Array.getD,hp]
   rw[Array.getElem?_eq_getElem h,Array.getElem?_eq_getElem hp]
   rw[Array.getElem?_eq_getElem h,e2]at q
   exact q
  ·have e2:es[i]? = none:=Array.getElem?_eq_none ∅
   rw[e2]at q ⊢
   exact q
theorem JB{t:SetTable}{i n ep:Nat}(h:Qt w s.heap I a t i n ep):s.TypeIs (.ref I) "set_iterator":=⟨_,h,rfl⟩
theorem GR.iter(S:GR w s.heap a es ep t){Q:Value→Shared→Prop}(q:Q (.ref s.heap.objs.size) {s with heap:=s.heap.push ⟨.type "set_iterator",none,.fields #[.int (Gu w t 0) 0,.int (0:Nat) 0,.ref a,.int es.size 0,.int ep 0],#[]⟩}):wpAny (model prog w) A (pyIter (.ref a)) Q E s:=by
 have ty:s.TypeIs (.ref a) "set":=⟨_,S.at_,rfl⟩
 refine wpAny_pyIter_slot ty F.slot_set_iter (wpAny_call_entry F.slot_set_iter ty Uz ?_ (Xf _))
 unfold Builtin.«frozenset.__iter__»
 refine wpAny_bind (m:=Builtin.Frozenset.slot0 "__iter__" _) (wpAny_of_eq (a:=a) rfl ?_)
 unfold Builtin.Frozenset.sizeOf setEntries
 refine wpAny_bind (wpAny_bind (wpAny_bind (S.state (wpAny_pure (wpAny_pure ?_)))))
 unfold setDrawn
 refine wpAny_bind (wpAny_bind (S.state ?_))
 dsimp only
 refine wpAny_bind (GR.text (wpAny_pure ?_))
 have hd:∀b:Bool,(!b&&(!t.plain&&decide (es.size>1)))=false:=fun b=>by rw[S.pl];cases b<;>rfl
 rw[if_neg (fun z=>by have z:(!byText w&&(!t.plain&&decide (es.size>1)))=true:=z;rw[hd]at z;cases z)]
 refine wpAny_bind (m:=pure (rawInt 0)) (wpAny_pure ?_)
 unfold setEpoch
 refine wpAny_bind (wpAny_bind (S.state (wpAny_pure ?_)))
 exact wpAny_bind (wpAny_newObj_type (wpAny_pure ⟨_,rfl,"set_iterator",_,⟨_,Heap.get?_push_size _ rfl,rfl⟩,Es.lookup,q⟩))
theorem GR.item(S:GR w s.heap a es ep t)(hit:Qt w s.heap I a t i es.size ep)(hne:a≠I)(hi:i<es.size){Q:Option Value→Shared→Prop}{x:Int×Value}(hx:(Ga w a ep es)[i]? = some x)
  (q:∀h',Qt w h' I a t (i+1) es.size ep→Heap.SameBut I s.heap h'→Q (some x.2) {s with heap:=h'}):wpAny (model prog w) A (pyNext (.ref I)) Q E s:=by
 unfold pyNext
 refine wpAny_bind (wpAny_attempt (wpAny_callSpecial?_slot (name:=Str.ofString "__next__") (JB hit) Es (wpAny_call_entry Es (JB hit) La ?_ (Mg _))))
 unfold Builtin.«set_iterator.__next__»
 refine wpAny_bind (m:=slotArgs "__next__" 0 _) (wpAny_of_eq (a:=(.ref I,[])) rfl ?_)
 dsimp only
 refine wpAny_bind (wpAny_fieldsOf hit rfl ?_)
 dsimp only
 unfold setEntries
 refine wpAny_bind (wpAny_bind (S.state (wpAny_pure ?_)))
 dsimp only
 rw[if_neg (by simp)]
 simp only[Int.toNat_natCast]
 refine wpAny_bind (S.next ?_ (Nat.le_of_lt hi))
 rw[hx]
 show wpAny _ _ (setField (.ref I) 0 (rawInt (Gu w t (i+1))) >>= _) _ _ s
 refine wpAny_bind (wpAny_setField_rec hit (by show 0<5;decide) fun h1 g1 b1=>?_)
 refine wpAny_bind (wpAny_setField_rec g1 (by show 1<5;decide) fun h2 g2 b2=>?_)
 exact wpAny_pure ⟨x.2,rfl,wpAny_pure (q h2 g2 (b1.trans b2))⟩
theorem GR.done(hh:A.handled=none)(S:GR w s.heap a es ep t)(hit:Qt w s.heap I a t es.size es.size ep){Q:Option Value→Shared→Prop}
  (q:∀h',Heap.ExtBut I s.heap h'→Q none {s with heap:=h'}):wpAny (model prog w) A (pyNext (.ref I)) Q E s:=by
 unfold pyNext
 refine wpAny_bind (wpAny_attempt (wpAny_callSpecial?_slot (name:=Str.ofString "__next__") (JB hit) Es (wpAny_call_entry Es (JB hit) La ?_ (Mg _))))
 unfold Builtin.«set_iterator.__next__»
 refine wpAny_bind (m:=slotArgs "__next__" 0 _) (wpAny_of_eq (a:=(.ref I,[])) rfl ?_)
 dsimp only
 refine wpAny_bind (wpAny_fieldsOf hit rfl ?_)
 dsimp only
 unfold setEntries
 refine wpAny_bind (wpAny_bind (S.state (wpAny_pure ?_)))
 dsimp only
 rw[if_neg (by simp)]
 simp only[Int.toNat_natCast]
 refine wpAny_bind (S.next ?_ (Nat.le_refl _))
 have hx:(Ga w a ep es)[es.size]? = none:=Array.getElem?_eq_none (by rw[KD];exact Nat.le_refl _)
 rw[hx]
 show wpAny _ _ (setField (.ref I) 2 .none >>= _) _ _ s
 refine wpAny_bind (wpAny_setField_rec hit (by show 2<5;decide) fun h1 g1 b1=>?_)
 show wpAny _ _ (newExc (.type "StopIteration") [] >>= _) _ _ _
 refine wpAny_bind ?_
 simp only[newExc,newTuple]
 refine wpAny_bind (wpAny_newObj_type ?_ (by size_fits))
 refine wpAny_bind (m:=firstArgMember _ _) (wpAny_of_eq (a:=Value.none) (by first|rfl|(simp only[firstArgMember];rfl)) ?_)
 refine wpAny_newObj_type ?_ (by size_fits)
 simp only[raiseNew]
 refine wpAny_bind (wpAny_handled ?_)
 rw[show A.in1.handled=none from hh]
 refine wpAny_bind (wpAny_pure (wpAny_throw ?_))
 refine wpAny_bind (wpAny_isInstance (T:="StopIteration") (b:=true) ⟨_,Heap.get?_push_size _ rfl,rfl⟩ isSubtype_stop ?_)
 exact wpAny_pure (q _ ((b1.extBut.push _).push _))
theorem Aa7(hh:A.handled=none)(hne:a≠I) :
  Walks prog w A I [I,a] [I] es.size (fun i v=>∃x,(Ga w a ep es)[i]? = some x∧v=x.2) (fun i h=>Qt w h I a t i es.size ep∧GR w h a es ep t) where
 sub:=fun b hb=>by simp at hb;simp[hb]
 frame:=fun i h h' st hk=>⟨hk I (by simp) _ st.1,⟨hk a (by simp) _ st.2.at_,st.2.ok,st.2.pl,st.2.ld⟩⟩
 item:=fun i s Q E hi st hQ=>by
  have hi':i<(Ga w a ep es).size:=by rw[KD];exact hi
  refine st.2.item st.1 hne hi (Array.getElem?_eq_getElem hi') fun h' hit' hs'=>?_
  exact hQ _ h' s.toks ⟨_,Array.getElem?_eq_getElem hi',rfl⟩ ⟨hit',⟨(hs'.2 a hne).trans st.2.at_,st.2.ok,st.2.pl,st.2.ld⟩⟩ fun b o hb e=>hs'.extBut b o (fun h=>hb (by simp[h])) e
 done:=fun s Q E st hQ=>st.2.done hh st.1 fun h' he'=>hQ h' s.toks fun b o hb e=>he' b o (fun h=>hb (by simp[h])) e
 self:=fun i s Q E st hQ=>by
  refine wpAny_pyIter_slot (JB st.1) Mj (wpAny_call_entry Mj (JB st.1) RX ?_ (Uo _))
  show wpAny _ _ (ret (.ref I)) _ _ s
  exact wpAny_pure ⟨_,rfl,"set_iterator",_,JB st.1,Es.lookup,hQ⟩
end
theorem Ahv{α:Type}{M:Model}{A:Around}{c:Prop}[Decidable c]{m1 m2:Sem α}{Q:α→Shared→Prop}{E:Value→Shared→Prop}{s:Shared}(h:c)(x:wpAny M A m1 Q E s):wpAny M A (if c then m1 else m2) Q E s:=by
 rw[if_pos h]
 exact x
section
variable{prog:Program}{w:World}{A:Around}{E:Value→Shared→Prop}{s:Shared}{a:Addr}{es:Array (Int×Value)}{ep:Nat}{t:SetTable}
theorem GR.kept{h h':Heap}(S:GR w h a es ep t)(k:∀o,h.get? a=some o→h'.get? a=some o):GR w h' a es ep t:=⟨k _ S.at_,S.ok,S.pl,S.ld⟩
theorem GR.hint{Q:Bool→Shared→Prop}(S:GR w s.heap a es ep t)(q:Q false s):wpAny (model prog w) A (Builtin.List.listLengthHint (.ref a)) Q E s:=by
 have ty:s.TypeIs (.ref a) "set":=⟨_,S.at_,rfl⟩
 unfold Builtin.List.listLengthHint
 refine wpAny_bind (wpAny_specialOf ty F.slot_set_len.lookup ?_)
 (generalize hid:("set.__len__":String)=id0;(fail_if_success (clear hid id0));wp_delta;rw[show splitId id0=some ("set","__len__")from by subst hid;decide +kernel];subst hid)
 refine wpAny_bind (wpAny_isInstance (b:=true) ty (by rw[isSubtype_type];kernel_rfl) ?_)
 rw[if_neg (show ¬(!true)=true from by decide)]
 refine Ahv (by decide +kernel) ?_
 refine wpAny_bind (wpAny_typeOf ty ?_)
 exact wpAny_pure q
set_option maxHeartbeats 3200000 in
theorem Wb{Q:List Value→Shared→Prop}(hh:A.handled=none)(S:GR w s.heap a es ep t)(hn:es.size≤sizeLine)
  (q:∀h' tk,(∀b o,s.heap.get? b=some o→h'.get? b=some o)→s.heap.objs.size<h'.objs.size→s.toks≤tk→Q ((Ga w a ep es).toList.map (·.2)) {s with heap:=h',toks:=tk}):wpAny (model prog w) A (collect (.ref a)) Q E s:=by
 unfold collect
 refine wpAny_bind (wpAny_runValue (codeAny_builtin F.entry_proto_collect ?_))
 rw[Around.under_plainId F.plain_proto_collect _]
 show wpAny _ A.in1 (newList [] >>= fun l=>again (.builtin "list.__iadd__" ⟨[l,.ref a],[]⟩)) _ _ s
 refine wpAny_bind (wpAny_newObj_type ?_)
 refine wpAny_pure ⟨plainId_quiet F.plain_list_iadd _,codeAny_builtin F.entry_list_iadd ?_⟩
 rw[Around.under_plainId F.plain_list_iadd _]
 generalize hL:s.heap.objs.size=L
 have la:a<L:=by rw[←hL];exact Heap.lt_size S.at_
 generalize hp:s.heap.push {cls:=.type "list",data:=.seq ([]:List Value).toArray}=h1
 have k1:∀b o,s.heap.get? b=some o→h1.get? b=some o:=fun b o e=>by rw[←hp];exact Heap.get?_push_of_some _ e
 have S1:GR w h1 a es ep t:=S.kept (k1 a)
 have l1:h1.get? L=some {cls:=.type "list",data:=.seq ([]:List Value).toArray}:=by rw[←hp,←hL];exact Heap.get?_push_size _ rfl
 have z1:h1.objs.size=L+1:=by rw[←hp,←hL];exact Heap.size_push _ _
 have ne:Builtin.List.listSameRef (.ref L) (.ref a)=false:=by
  have:L≠a:=fun e=>by rw[e]at la;exact Nat.lt_irrefl _ la
  simp[Builtin.List.listSameRef,this]
 show wpAny _ A.in1 (Builtin.List.listExtendWith (.ref L) (.ref a) (.ref L)) _ _ {s with heap:=h1}
 unfold Builtin.List.listExtendWith
 refine wpAny_bind (wpAny_typeOf (T:="set") ⟨_,S1.at_,rfl⟩ ?_)
 rw[if_neg (by rw[ne];decide)]
 refine wpAny_bind (S1.iter (s:={s with heap:=h1}) ?_)
 generalize hq:h1.push ⟨.type "set_iterator",none,.fields #[.int (Gu w t 0) 0,.int (0:Nat) 0,.ref a,.int es.size 0,.int ep 0],#[]⟩=h2
 have k2:∀b o,h1.get? b=some o→h2.get? b=some o:=fun b o e=>by rw[←hq];exact Heap.get?_push_of_some _ e
 have S2:GR w h2 a es ep t:=S1.kept (k2 a)
 have l2:=k2 _ _ l1
 have i2:Qt w h2 (L+1) a t 0 es.size ep:=by rw[←hq,←z1];exact Heap.get?_push_size _ rfl
 dsimp only
 rw[z1]
 refine wpAny_bind (wpAny_holding (S2.hint ?_))
 refine Ahv (by decide +kernel) ?_
 refine wpAny_bind (wpAny_rule ?_)
 unfold Builtin.List.listTouch
 refine wpAny_bind (wpAny_bind (listUpdate_at (xs:=#[]) (n:=0) l2 rfl ?_))
 generalize hu1:h2.update L (Obj.mapSeq (·.push .none))=h3
 have b3:Heap.SameBut L h2 h3:=by rw[←hu1];exact Heap.SameBut.update ..
 have l3:h3.get? L=some {cls:=.type "list",data:=.seq #[.none] 1}:=by rw[←hu1];exact get?_update_seq l2 _
 refine listUpdate_at (xs:=#[.none]) (n:=1) l3 rfl ?_
 generalize hu2:h3.update L (Obj.mapSeq (·.pop))=h4
 have b4:Heap.SameBut L h3 h4:=by rw[←hu2];exact Heap.SameBut.update ..
 have l4:h4.get? L=some {cls:=.type "list",data:=.seq #[] 2}:=by rw[←hu2];exact get?_update_seq l3 _
 have na:a≠L:=fun e=>by rw[e]at la;exact Nat.lt_irrefl _ la
 have ni:a≠L+1:=fun e=>by rw[e]at la;exact absurd la (Nat.not_lt.mpr (Nat.le_succ _))
 have nl:L+1≠L:=Nat.succ_ne_self L
 have S4:GR w h4 a es ep t:=S2.kept fun o e=>(b4.2 a na).trans ((b3.2 a na).trans e)
 have i4:Qt w h4 (L+1) a t 0 es.size ep:=(b4.2 _ nl).trans ((b3.2 _ nl).trans i2)
 have W:=Aa7 (prog:=prog) (w:=w) (A:=A.in1) (I:=L+1) (a:=a) (es:=es) (ep:=ep) (t:=t) hh ni
 refine wpAny_pure ⟨plainId_quiet F.plain_extend_loop _,codeAny_extend_loopS W.toS hn L (by simp only[List.mem_cons,List.not_mem_nil,or_false,not_or];exact⟨fun e=>nl e.symm,fun e=>na e.symm⟩) _ es.size 0 _ _ _ rfl (Nat.zero_le _) ⟨i4,S4⟩ l4 (ItemsOf.nil _) fun s' acc' c' hm hS' hacc=>?_⟩
 show wpAny _ A (load L >>= _) _ _ s'
 refine wpAny_bind (wpAny_load hS' (wpAny_pure ?_))
 have ea:acc'.toList=(Ga w a ep es).toList.map (·.2):=by
  refine List.ext_getElem? fun j=>?_
  rw[List.getElem?_map,Array.getElem?_toList,Array.getElem?_toList]
  by_cases hj:j<es.size
  ·have h5:j<acc'.size:=by rw[hacc.1];exact hj
   obtain⟨x,e1,e2⟩:=hacc.2 j _ (Array.getElem?_eq_getElem h5)
   rw[e1,Array.getElem?_eq_getElem h5,e2]
   rfl
  ·rw[Array.getElem?_eq_none (by rw[hacc.1];omega),Array.getElem?_eq_none (by rw[KD];omega)]
   rfl
 obtain⟨h',g',d',tk',os'⟩:=s'
 obtain rfl:g'=s.gens:=hm.gens
 obtain rfl:d'=s.drawn:=hm.drawn
 obtain rfl:os'=s.os:=hm.os
 rw[ea]
 refine q h' tk' (fun b o e=>?_) (by rw[hL];exact Heap.lt_size hS') hm.toks
 have lb:b<L:=by rw[←hL];exact Heap.lt_size e
 have n1:b≠L:=fun z=>by rw[z]at lb;exact Nat.lt_irrefl _ lb
 have n2:b≠L+1:=fun z=>by rw[z]at lb;exact absurd lb (Nat.not_lt.mpr (Nat.le_succ _))
 refine hm.heap b o (by simp only[List.mem_cons,List.not_mem_nil,or_false,not_or];exact⟨n1,n2⟩) ?_
 exact(b4.2 b n1).trans ((b3.2 b n1).trans (k2 b o (k1 b o e)))
end
section
variable{prog:Program}{w:World}{A:Around}{E:Value→Shared→Prop}{s:Shared}
end
section
variable{prog:Program}{w:World}{A:Around}{E:Value→Shared→Prop}{s:Shared}
end
section
variable{X:Cx}{e:Expr}{te:DTE}{pos:Pos}
end
theorem Rm{L L':List Addr}{H:Hp}(h:∀b,b∈L↔b∈L'):mask L H=mask L' H:=by
 funext b
 by_cases z:b∈L
 ·rw[CK z,CK ((h b).mp z)]
 ·rw[Az z,Az fun y=>z ((h b).mpr y)]
section
variable{K:W.Frag}{B:Hp}{F O O1:List Addr}{H H1:Hp}{σ σ':St}{ρ ρ':Bu}{i:Nat}{ds:List Dt}{a:Addr}{xs:List V}
theorem Rep.hide(r:Rep K B F O H σ ρ)(hi:ρ[i]? = some (some (.own ds)))(hs:σ[i]? = some (some (.ref a)))(hl:H a=some (.lst xs))(hF:a∉F)(hO:a∈O)(h1:∀b,b∈O1↔b∈O∧b≠a):Rep K B (a::F) O1 H σ (ρ.set i (some (.raw (.ref a)))):=by
 have hk:i<ρ.length:=(List.getElem?_eq_some_iff.mp hi).1
 have em:mask (a::F++O1) H=mask (F++O) H:=Rm fun b=>by
  simp only[List.cons_append,List.mem_cons,List.mem_append,h1]
  constructor
  ·rintro(rfl|z|⟨z,_⟩)
   ·exact .inr hO
   ·exact .inl z
   ·exact .inr z
  ·rintro(z|z)
   ·exact .inr (.inl z)
   ·by_cases e:b=a
    ·exact .inl e
    ·exact .inr (.inr ⟨z,e⟩)
 have back:∀(j:Nat)(x:En),(∀v,x≠.raw v)→(ρ.set i (some (.raw (.ref a))))[j]? = some (some x)→j≠i∧ρ[j]? = some (some x):=fun j x nx q=>by
  have hj:j≠i:=fun z=>by subst z;rw[List.getElem?_set_self hk]at q;cases q;exact nx _ rfl
  rw[List.getElem?_set_ne (Ne.symm hj)]at q
  exact⟨hj,q⟩
 refine⟨by simpa using r.len,r.base,fun b hb=>r.fr b ((h1 b).mp hb).1,fun b hb=>?_,fun j d q=>?_,fun j es q=>?_,fun j k es es' b q1 q2 q3 q4=>?_,fun j ks q=>?_,fun j k es es' b q1 q2 q3 q4=>?_,fun j v q=>?_⟩
 ·rcases List.mem_append.mp hb with hb|hb
  ·rcases List.mem_cons.mp hb with rfl|hb
   ·rw[hl];simp
   ·exact r.th b (List.mem_append_left _ hb)
  ·exact r.th b (List.mem_append_right _ ((h1 b).mp hb).1)
 ·rw[em]
  exact r.is j d (back j _ (fun _ z=>by cases z) q).2
 ·obtain⟨hj,q'⟩:=back j _ (fun _ z=>by cases z) q
  obtain⟨b,ys,e1,e2,e3,e4,e5⟩:=r.own j es q'
  have nb:b≠a:=fun z=>by rw[z]at e1;exact hj (r.inj j i es ds a q' hi e1 hs)
  exact⟨b,ys,e1,(h1 b).mpr ⟨e2,nb⟩,fun z=>(List.mem_cons.mp z).elim nb e3,e4,by rw[em];exact e5⟩
 ·exact r.inj j k es es' b (back j _ (fun _ z=>by cases z) q1).2 (back k _ (fun _ z=>by cases z) q2).2 q3 q4
 ·obtain⟨hj,q⟩:=back j _ (fun _ z=>by cases z) q
  obtain⟨b,ys,e1,e2,e3,e4,e5⟩:=r.tab j ks q
  have nb:b≠a:=fun z=>by rw[z,hl]at e4;cases e4
  exact⟨b,ys,e1,(h1 b).mpr ⟨e2,nb⟩,fun z=>(List.mem_cons.mp z).elim nb e3,e4,by rw[em];exact e5⟩
 ·exact r.iw j k es es' b (back j _ (fun _ z=>by cases z) q1).2 (back k _ (fun _ z=>by cases z) q2).2 q3 q4
 ·by_cases hj:j=i
  ·subst hj
   rw[List.getElem?_set_self hk]at q
   cases q
   exact hs
  ·rw[List.getElem?_set_ne (Ne.symm hj)]at q
   exact r.raw j v q
theorem Rep.show(r0:Rep K B F O H1 σ ρ)(hO:a∈O)(hF:a∉F)(hl:H1 a=some (.lst xs))(rl:RpL K (mask (F++O) H1) ds xs)(h1:∀b,b∈O1↔b∈O∧b≠a){O2:List Addr}{H2:Hp}(r:Rep K (mask O1 H1) (a::F) O2 H2 σ' ρ')(hi:ρ'[i]? = some (some (.raw (.ref a)))) :
  Rep K B F (a::O2) H2 σ' (ρ'.set i (some (.own ds))):=by
 have hk:i<ρ'.length:=(List.getElem?_eq_some_iff.mp hi).1
 have hs:=r.raw i _ hi
 have em:mask (F++a::O2) H2=mask (a::F++O2) H2:=Rm fun b=>by
  simp only[List.cons_append,List.mem_cons,List.mem_append]
  constructor
  ·rintro(z|z|z)
   ·exact .inr (.inl z)
   ·exact .inl z
   ·exact .inr (.inr z)
  ·rintro(z|z|z)
   ·exact .inr (.inl z)
   ·exact .inl z
   ·exact .inr (.inr z)
 have sO:Same (mask O H1) (mask O1 H1):=Ei fun b hb=>((h1 b).mp hb).1
 have nO1:a∉O1:=fun z=>((h1 a).mp z).2 rfl
 have la:H2 a=some (.lst xs):=r.base a _ (by rw[Az nO1];exact hl)
 have sB:Same B (mask O1 H1):=r0.sub.trans sO
 have sM:Same (mask (F++O) H1) (mask (a::F++O2) H2):=fun b o e=>by
  obtain⟨nb,e⟩:=Ck e
  have nO:b∉O:=fun z=>nb (List.mem_append_right _ z)
  have e1:mask O1 H1 b=some o:=by rw[Az fun z=>nO ((h1 b).mp z).1];exact e
  rw[Az]
  ·exact r.base b o e1
  ·intro z
   rcases List.mem_append.mp z with z|z
   ·rcases List.mem_cons.mp z with z|z
    ·exact nO (by rw[z];exact hO)
    ·exact nb (List.mem_append_left _ z)
   ·rw[r.fr b z]at e1;cases e1
 have back:∀(j:Nat)(x:En),(∀z,x≠.own z)→(ρ'.set i (some (.own ds)))[j]? = some (some x)→j≠i∧ρ'[j]? = some (some x):=fun j x nx q=>by
  have hj:j≠i:=fun z=>by subst z;rw[List.getElem?_set_self hk]at q;cases q;exact nx _ rfl
  rw[List.getElem?_set_ne (Ne.symm hj)]at q
  exact⟨hj,q⟩
 have other:∀(j:Nat) es,j≠i→(ρ'.set i (some (.own ds)))[j]? = some (some (.own es))→σ'[j]? = some (some (.ref a))→False:=fun j es hj q q2=>by
  rw[List.getElem?_set_ne (Ne.symm hj)]at q
  obtain⟨b,ys,e1,e2,e3,_⟩:=r.own j es q
  rw[q2]at e1
  cases e1
  exact e3 List.mem_cons_self
 refine⟨by simpa using r.len,sB.trans r.base,fun b hb=>?_,fun b hb=>?_,fun j d q=>?_,fun j es q=>?_,fun j k es es' b q1 q2 q3 q4=>?_,fun j ks q=>?_,fun j k es es' b q1 q2 q3 q4=>?_,fun j v q=>r.raw j v (Mq (fun _ z=>by cases z) q).2⟩
 ·rcases List.mem_cons.mp hb with rfl|hb
  ·exact r0.fr b hO
  ·cases q:B b with
   |none=>rfl
   |some o=>have:=sB b o q;rw[r.fr b hb]at this;cases this
 ·refine r.th b ?_
  simp only[List.cons_append,List.mem_cons,List.mem_append]at hb ⊢
  rcases hb with z|z|z
  ·exact .inr (.inl z)
  ·exact .inl z
  ·exact .inr (.inr z)
 ·rw[em]
  exact r.is j d (back j _ (fun _ z=>by cases z) q).2
 ·rw[em]
  by_cases hj:j=i
  ·subst hj
   rw[List.getElem?_set_self hk]at q
   cases q
   exact⟨a,xs,hs,List.mem_cons_self,hF,la,rl.mono sM⟩
  ·rw[List.getElem?_set_ne (Ne.symm hj)]at q
   obtain⟨b,ys,e1,e2,e3,e4,e5⟩:=r.own j es q
   exact⟨b,ys,e1,List.mem_cons_of_mem _ e2,fun z=>e3 (List.mem_cons_of_mem _ z),e4,e5⟩
 ·by_cases hj:j=i
  ·by_cases hk2:k=i
   ·rw[hj,hk2]
   ·subst hj
    rw[hs]at q3
    cases q3
    exact(other k es' hk2 q2 q4).elim
  ·by_cases hk2:k=i
   ·subst hk2
    rw[hs]at q4
    cases q4
    exact(other j es hj q1 q3).elim
   ·rw[List.getElem?_set_ne (Ne.symm hj)]at q1
    rw[List.getElem?_set_ne (Ne.symm hk2)]at q2
    exact r.inj j k es es' b q1 q2 q3 q4
 ·rw[em]
  obtain⟨hj,q⟩:=back j _ (fun _ z=>by cases z) q
  obtain⟨b,ys,e1,e2,e3,e4,e5⟩:=r.tab j ks q
  exact⟨b,ys,e1,List.mem_cons_of_mem _ e2,fun z=>e3 (List.mem_cons_of_mem _ z),e4,e5⟩
 ·exact r.iw j k es es' b (back j _ (fun _ z=>by cases z) q1).2 (back k _ (fun _ z=>by cases z) q2).2 q3 q4
end
section
variable{X:Cx}{e:Expr}{es:List Expr}{st:Stmt}{te:DTE}{tl:DTA}{tA tA':DTT}{t t':DTS}{pos:Pos}
def Ad4(j:Nat)(g:DTG)(tb:DTS):DTS:=fun D ρ=>ownAt ρ j fun ds=>∀v:V,∃W:Nat→Bu→Prop,W 0 (ρ.set j (some (.raw v))) ∧
 (∀(k:Nat) d ρ',ds[k]? = some d→W k ρ'→g d ρ' fun ρ2=>tb {D with nx:=W (k+1),ct:=W (k+1),bk:=fun ρ3=>ρ3[j]? = some (some (.raw v))∧D.nx (ρ3.set j (some (.own ds)))} ρ2)∧∀ρ',W ds.length ρ'→ρ'[j]? = some (some (.raw v))∧D.nx (ρ'.set j (some (.own ds)))
theorem Age(j:Nat){tg:Expr}{body:List Stmt}{g:DTG}{x:Str}{px:Pos}(hp:PassesOwn (model X.prog X.w) X.A X.env X.xe)(hc:X.calm=true)(hg:DG X tg g)(hb:DSs X body t)(hN:X.N[j]? = some x:=by rfl)
  (hv:Vis X.env.scope x:=by first|exact Or.inl rfl|exact Or.inr (Or.inl rfl)|exact Or.inr (Or.inr rfl)) (hd:(x==("__debug__":Str))=false:=by decide) (hcd:(x==("__classdict__":Str))=false:=by decide)
  (hs:∀y,foldedSetIterable (.Name x px) X.env y=pure y:=by intro _;rfl):DS X (.For tg (.Name x px) body [] pos) (Ad4 j g t) where
 mono:=fun{ρ D D'} hd h=>h.mono fun ds h v=>by
  obtain⟨W,h0,h,he⟩:=h v
  exact⟨W,h0,fun k d ρ' e w=>hg.mono (fun ρ2 q=>hb.mono (D:={D with nx:=W (k+1),ct:=W (k+1),bk:=fun ρ3=>ρ3[j]? = some (some (.raw v))∧D.nx (ρ3.set j (some (.own ds)))}) ⟨fun _ q=>q,hd.rt,fun _ q=>⟨q.1,hd.nx _ q.2⟩,fun _ q=>q⟩ q) (h k d ρ' e w),fun ρ' w=>⟨(he ρ' w).1,hd.nx _ (he ρ' w).2⟩⟩
 ps:=(Acw hp hc (AaD (Io hN hv hd hcd)) hg.pg hb.ps hs).imp fun D σ H ⟨B,F,O,ρ,R,h⟩=>by
  obtain⟨ds,e1,h⟩:=h.get
  obtain⟨a,xs,h1,h2,h3,h4,h5⟩:=R.own j ds e1
  obtain⟨W,w0,step,fin⟩:=h (.ref a)
  have hO1:∀b,b∈O.filter (fun b=>decide (b≠a))↔b∈O∧b≠a:=fun b=>by simp
  generalize O.filter (fun b=>decide (b≠a))=O1 at hO1
  have R1:=R.hide e1 h1 h4 h3 h2 hO1
  have nO1:a∉O1:=fun z=>((hO1 a).mp z).2 rfl
  refine⟨_,h1,a,rfl,⟨xs,SqL.of h4⟩,fun i m σ2 H2=>m+i=ds.length∧∃O' ρ',Rep X.K (mask O1 H) (a::F) O' H2 σ2 ρ'∧W i ρ',⟨ds.length,∅,O1,_,R1.rebase,w0⟩,?_⟩
  rintro i m σ2 H2 ⟨hm,O',ρ',R2,w⟩
  have la:H2 a=some (.lst xs):=R2.base a _ (by rw[Az nO1];exact h4)
  have sM:Same (mask (F++O) H) (mask (a::F++O') H2):=fun b o e=>by
   obtain⟨nb,e⟩:=Ck e
   have nO:b∉O:=fun z=>nb (List.mem_append_right _ z)
   have e1:mask O1 H b=some o:=by rw[Az fun z=>nO ((hO1 b).mp z).1];exact e
   rw[Az]
   ·exact R2.base b o e1
   ·intro z
    rcases List.mem_append.mp z with z|z
    ·rcases List.mem_cons.mp z with z|z
     ·exact nO (by rw[z];exact h2)
     ·exact nb (List.mem_append_left _ z)
    ·rw[R2.fr b z]at e1;cases e1
  have sB:Same B (mask O1 H):=R.sub.trans (Ei fun b hb=>((hO1 b).mp hb).1)
  by_cases hlt:i<ds.length
  ·have hi:ds[i]? = some ds[i]:=by simp[hlt]
   obtain⟨y,y1,y2⟩:=h5.get hi
   refine .inr ⟨⟨xs,y,SqL.of la,y1⟩,fun σ' H'=>∃O' ρ',Rep X.K (mask O1 H) (a::F) O' H' σ' ρ'∧W (i+1) ρ',fun σ' H' q=>⟨m-1,∅,∅,q⟩,fun z H3 yl=>?_⟩
   obtain⟨e3,e4⟩:=yl
   subst e3
   have e5:=e4 xs (SqL.of la)
   rw[y1]at e5
   cases e5
   refine⟨_,_,O',ρ',_,R2,y2.mono sM,hg.mono (fun ρ2 q σ3 R3=>⟨_,_,O',ρ2,R3,hb.mono (D:={lD X.K B F D with nx:=W (i+1),ct:=W (i+1),bk:=fun ρ3=>ρ3[j]? = some (some (.raw (.ref a)))∧(lD X.K B F D).nx (ρ3.set j (some (.own ds)))}) ⟨?_,?_,?_,?_⟩ q⟩) (step i _ ρ' hi w)⟩
   ·exact fun ρ4 w4 O4 σ4 H4 R4=>⟨O4,ρ4,R4,w4⟩
   ·exact fun d q v H4 s4 r4=>q v H4 (sB.trans s4) (r4.mono (Ei fun b hb=>List.mem_cons_of_mem _ hb))
   ·exact fun ρ4 q O4 σ4 H4 R4=>q.2 _ _ _ (R.show h2 h3 h4 h5 hO1 R4 q.1)
   ·exact fun ρ4 w4 O4 σ4 H4 R4=>⟨O4,ρ4,R4,w4⟩
  ·have e:i=ds.length:=∅
   subst e
   have f:=fin ρ' w
   exact .inl ⟨⟨xs,SqL.of la,by rw[h5.len];exact Nat.le_refl _⟩,f.2 _ _ _ (R.show h2 h3 h4 h5 hO1 R2 f.1)⟩
def Ace(t t':DTS):DTS:=fun D ρ=>t D ρ∨t' D ρ
theorem AeW(h:DS X st t)(h':DS X st t'):DS X st (Ace t t') where
 mono:=fun hd z=>z.imp (h.mono hd) (h'.mono hd)
 ps:=fun pins s σ H D I ⟨B,F,O,ρ,R,z⟩=>z.elim (fun z=>h.ps pins s σ H D I ⟨B,F,O,ρ,R,z⟩) fun z=>h'.ps pins s σ H D I ⟨B,F,O,ρ,R,z⟩
def AeK(t t':DTT):DTT:=fun ρ Q=>t ρ Q∨t' ρ Q
theorem Acs(h:DT X e tA)(h':DT X e tA'):DT X e (AeK tA tA') where
 mono:=fun hq z=>z.imp (h.mono hq) (h'.mono hq)
 pt:=fun pins s σ H Q I ⟨B,F,O,ρ,R,z⟩=>z.elim (fun z=>h.pt pins s σ H Q I ⟨B,F,O,ρ,R,z⟩) fun z=>h'.pt pins s σ H Q I ⟨B,F,O,ρ,R,z⟩
def Adv(t t':DTE):DTE:=fun ρ Q=>t ρ Q∨t' ρ Q
theorem Ajf{te':DTE}(h:DE X e te)(h':DE X e te'):DE X e (Adv te te') where
 mono:=fun hq z=>z.imp (h.mono hq) (h'.mono hq)
 pe:=fun pins s σ H Q I ⟨B,F,O,ρ,R,z⟩=>z.elim (fun z=>h.pe pins s σ H Q I ⟨B,F,O,ρ,R,z⟩) fun z=>h'.pe pins s σ H Q I ⟨B,F,O,ρ,R,z⟩
theorem alt1{D:FN}{ρ:Bu}(h:t D ρ):Ace t t' D ρ:=.inl h
theorem alt2{D:FN}{ρ:Bu}(h:t' D ρ):Ace t t' D ρ:=.inr h
theorem AhA{ρ:Bu}{Q:Bool→Prop}(h:tA ρ Q):AeK tA tA' ρ Q:=.inl h
theorem Ahy{ρ:Bu}{Q:Bool→Prop}(h:tA' ρ Q):AeK tA tA' ρ Q:=.inr h
theorem Aky{te':DTE}{ρ:Bu}{Q:Dt→Prop}(h:te ρ Q):Adv te te' ρ Q:=.inl h
theorem AlE{te':DTE}{ρ:Bu}{Q:Dt→Prop}(h:te' ρ Q):Adv te te' ρ Q:=.inr h
theorem AcQ{j:Nat}{g:DTG}{tb:DTS}{D:FN}{ρ:Bu}(ds:List Dt)(ho:ρ[j]? = some (some (.own ds)))(W:V→Nat→Bu→Prop)(h0:∀v,W v 0 (ρ.set j (some (.raw v))))
  (hs:∀v (k:Nat) d ρ',ds[k]? = some d→W v k ρ'→g d ρ' fun ρ2=>tb {D with nx:=W v (k+1),ct:=W v (k+1),bk:=fun ρ3=>ρ3[j]? = some (some (.raw v))∧D.nx (ρ3.set j (some (.own ds)))} ρ2) (he:∀v ρ',W v ds.length ρ'→ρ'[j]? = some (some (.raw v))∧D.nx (ρ'.set j (some (.own ds)))):Ad4 j g tb D ρ:=by
 unfold Ad4 ownAt
 rw[ho]
 exact fun v=>⟨W v,h0 v,hs v,he v⟩
end
theorem WM(l:Addr)(o:Obj)(n:Nat)(hc:o.cls=.type "list")(hd:o.dict=none)(hs:o.data=.seq #[] n) :
  Meets (Builtin.«list.clear» ⟨[.ref l],[]⟩) (fun _ R s=>s.heap.get? l=some o∧R (.ok (.ret Value.none)) {s with heap:=s.heap.update l (Obj.mapSeq fun _=>#[]),toks:=s.toks}) :=
 .of_wp fun prog w A R s h=>by
  obtain⟨hp,g,d,tk,os⟩:=s
  obtain⟨hl,h⟩:=h
  obtain⟨c,dd,dt,sl⟩:=o
  cases hc;cases hd;cases hs
  wp_walk using wpAny_loadPart' hl
  exact⟨_,rfl,h⟩
section
variable{X:Cx}{e:Expr}{es:List Expr}{te:DTE}{tl:DTA}{pos:Pos}
def AfQ(K:W.Frag):V→List V→Hp→VK→Prop:=fun x vs H Q=>∃l,x=.ref l∧vs=[]∧SqL K H l []∧Q .non H
theorem AaX:MtM X "list.clear" (AfQ X.K):=by
 intro pins s σ H x vs v us Q I rx rv h
 obtain⟨l,rfl,rfl,hH,q⟩:=h
 cases rx
 have hus:=rv.zero
 subst hus
 obtain⟨its,r,⟨o,n,e,hc,hd,hs⟩,z⟩:=I.list hH
 have hi:its=[]:=by cases r;rfl
 subst hi
 refine call_meets F.slot_list_clear ⟨_,e,hc⟩ F.entry_list_clear (F.args_list_clear_1 _) (WM l o n hc hd hs) ⟨e,?_⟩
 refine⟨.non,_,I.kept fun b u eb=>?_,rfl,q⟩
 by_cases hb:b=l
 ·subst hb
  rw[e]at eb
  cases eb
  obtain⟨c,dd,dt,sl⟩:=o
  cases hs
  exact Heap.get?_update_self _ e (by rfl)
 ·exact(Heap.get?_update_other _ _ (Ne.symm hb)).trans eb
def AkT(j:Nat):DTS:=fun D ρ=>ρ[j]? = some (some (.is (.lst [])))∧D.nx ρ
theorem Ae6(j:Nat){x:Str}{px ap cp:Pos}(hN:X.N[j]? = some x:=by rfl)(hv:Vis X.env.scope x:=by first | exact Or.inl rfl | exact Or.inr (Or.inl rfl) | exact Or.inr (Or.inr rfl))(hd:(x==("__debug__":Str))=false:=by decide)
  (hcd:(x==("__classdict__":Str))=false:=by decide) (hbase:attributeBase (.Name x px) "clear" X.env (eval (.Name x px) X.env)=eval (.Name x px) X.env:=by rfl)
  (hline:(ap.endLine==cp.line)=true:=by rfl)
  (hs:swapsWith (.Call (.Attribute (.Name x px) "clear" ap) [] [] cp) none pos.line X.env=pure false:=by rfl):DS X (.Expr (.Call (.Attribute (.Name x px) "clear" ap) [] [] cp) pos) (AkT j) where
 mono:=fun hd h=>⟨h.1,hd.nx _ h.2⟩
 ps:=(M8 (Yj PySem.F.plainAttrs_list PySem.F.slot_list_clear PySem.F.type_list_clear AaX (Io hN hv hd hcd) hbase hline) hs).imp fun D σ H ⟨B,F,O,ρ,R,h1,h⟩=>by
  obtain⟨v,e1,r⟩:=R.is j _ h1
  obtain⟨a,xs,rfl,sq,rl⟩:=CN r
  have hx:=Bq.mp rl
  subst hx
  have sq:=Bh.seq sq
  exact⟨_,e1,.inl ⟨rfl,_,sq⟩,a,rfl,rfl,sq,h O σ _ R⟩
def ZJ(i:Nat)(sp:DSp)(tl:DTA):DTS:=fun D ρ=>tl ρ fun ds=>Dt.dM 4 ds=true∧sp ds fun d=>(∃ks,d=.lst ks∧(∃r,Dt.tup r∈ks)∧Dt.dM 4 ks=true∧D.nx (ρ.set i (some (.own ks))))∨(d=.lst []∧D.nx (ρ.set i (some (.is (.lst [])))))
theorem Aa6(i:Nat){k:Nat}{ps:List Str}{sp:DSp}{f y:Str}{stx:Stmt}{p cp pos':Pos}(hN:X.N.Nodup)(m:HX sp)(G:Pm X.prog X.w X.K X.mg X.base k f stx ps sp)(hr:El k X.A)(hg:Gl X f)
  (ha:DA X (e::es) tl) (hdb:(f==("__debug__":Str))=false:=by decide) (hi:X.N[i]? = some y:=by rfl) (hx:Loc X.env.scope y:=by first|exact Or.inl rfl|exact Or.inr rfl)
  (he:starEach (e::es) X.env=(false,eval e X.env)::starEach es X.env:=by rfl) (hpl:(backTo cp (starEach es X.env)).any (·.1)=false:=by rfl)
  (hs:swapsWith (.Call (.Name f p) (e::es) [] cp) (some (.Name y pos')) pos.line X.env=pure false:=by rfl)
  (hf:X.fn y=true∨X.env.scope.names.lookup y=some .local:=by first|exact .inl rfl|exact .inr rfl|assumption):DS X (.Assign [.Name y pos'] (.Call (.Name f p) (e::es) [] cp) pos) (ZJ i sp tl) where
 mono:=fun hd h=>ha.mono (fun ds ⟨h1,h2⟩=>⟨h1,m _ _ _ (fun d z=>z.imp (fun⟨ks,q1,q2,q3,q4⟩=>⟨ks,q1,q2,q3,hd.nx _ q4⟩) fun⟨q1,q2⟩=>⟨q1,hd.nx _ q2⟩) h2⟩) h
 ps:=fun pins s σ H D I ⟨B,F,O,ρ,R,h⟩=>by
  obtain⟨f',fd,FT,G⟩:=G
  refine(Yn hN hi hx (AaO G hr hg FT.mg FT.fn.kp FT.bd .nil Ua ha.pa hdb he hpl) hs hf) pins s σ H D I ?_
  refine⟨B,F,O,ρ,R,ha.mono (fun ds ⟨hn,z⟩ vs H1 s1 r1=>?_) h⟩
  show lSp X.K sp (vs++[]) H1 _ E0
  rw[List.append_nil]
  have hL:∀a∈lists H s.heap.objs.size,∃xs,H1 a=some (.lst xs):=fun a h=>by
   obtain⟨xs,e⟩:=AcF h
   exact⟨xs,s1 _ _ e⟩
  refine⟨(F++O)++lists H s.heap.objs.size,ds,fun a h=>?_,?_,m _ _ _ (fun d z2 v H2 s2 r2=>?_) z⟩
  ·rcases List.mem_append.mp h with h|h
   ·exact(R.same s1).th a h
   ·obtain⟨xs,e⟩:=hL a h
    rw[e];simp
  ·refine PB (fun b o e nl=>?_) 4 ds vs hn r1
   obtain⟨n1,e⟩:=Ck e
   rw[Az]
   ·exact e
   ·intro z
    rcases List.mem_append.mp z with z|z
    ·exact n1 z
    ·obtain⟨xs,e'⟩:=hL b z
     rw[e]at e'
     exact nl xs (Option.some.inj e')
  rcases z2 with⟨ks,q1,⟨rr,q2⟩,q3,q4⟩|⟨q1,q2⟩
  ·subst q1
   obtain⟨a,xs,rfl,ls,rl⟩:=PK.mp r2
   have ea:mask ((F++O)++lists H s.heap.objs.size) H2 a=some (.lst xs):=by
    rcases ls with ls|⟨_,hi⟩
    ·exact ls
    ·obtain⟨v,hv,r⟩:=rl.qG q2
     obtain⟨_,_,rfl,_⟩:=Cu.mp r
     obtain⟨i,e⟩:=hi _ hv
     cases e
   obtain⟨na,ea⟩:=Ck ea
   have Ha:H a=none:=by
    cases q:H a with
    |none=>rfl
    | some o =>
     have e2:=s2 _ _ (s1 _ _ q)
     rw[ea]at e2
     cases e2
     exact absurd (List.mem_append_right _ (Abn q (I.hok a _ q).lt)) na
   let H3:Hp:=fun b=>if b=a then none else H2 b
   have h3n:H3 a=none:=if_pos rfl
   have h3o:∀b,b≠a→H3 b=H2 b:=fun b n=>if_neg n
   have eU:upd H3 a (.lst xs)=H2:=by
    funext b
    by_cases n:b=a
    ·subst n;rw[Ce,ea]
    ·rw[Bo n,h3o b n]
   have R3:Rep X.K B F O H3 σ ρ:=R.same fun b o q=>by
    rw[h3o b fun n=>by rw[n,Ha]at q;cases q]
    exact s2 _ _ (s1 _ _ q)
   have rl3:RpL X.K (mask (F++O) H3) ks xs:=PB (fun b o q nl=>by
    obtain⟨n1,q⟩:=Ck q
    rw[Az fun z=>n1 (List.mem_append_left _ z),h3o b fun n=>by
     subst n
     rw[ea]at q
     exact nl xs (Option.some.inj q).symm]
    exact q) 4 ks xs q3 rl
   have:=q4 (a::O) _ _ (R3.pD i h3n rl3)
   rw[eU]at this
   exact this
  ·subst q1
   exact q2 O _ _ ((R.same (s1.trans s2)).set i (r2.mono (Ei fun b hb=>List.mem_append_left _ hb)))
end
theorem Aby{α β:Type}{f:α→β}{l m:List β}(p:l.Perm m):∀xs:List α,m=xs.map f→∃ys:List α,ys.Perm xs∧l=ys.map f:=by
 induction p with
 |nil=>exact fun xs e=>⟨xs,.refl _,e⟩
 | cons x _ ih =>
  intro xs e
  cases xs with
  |nil=>cases e
  | cons y xs =>
   injection e with e1 e2
   obtain⟨ys,p,rfl⟩:=ih xs e2
   exact⟨y::ys,p.cons y,by rw[List.map_cons,e1]⟩
 | swap x y l =>
  intro xs e
  match xs,e with
  | a::b::xs,e =>
   injection e with e1 e2
   injection e2 with e2 e3
   exact⟨b::a::xs,.swap _ _ _,by rw[List.map_cons,List.map_cons,e1,e2,e3]⟩
 | trans _ _ ih1 ih2 =>
  intro xs e
  obtain⟨ys,p,rfl⟩:=ih2 xs e
  obtain⟨zs,p2,e2⟩:=ih1 ys rfl
  exact⟨zs,p2.trans p,e2⟩
section
variable{prog:Program}{w:World}{A:Around}{E:Value→Shared→Prop}{s:Shared}
theorem Wn{a:Addr}{es:Array (Int×Value)}{ep:Nat}{t:SetTable}{vs:List Value}{κ:SortKind}{bt:Nat→Nat→Bool}{Q:Value→Shared→Prop}(hh:A.handled=none)(S:GR w s.heap a es ep t)(ev:(Ga w a ep es).toList.map (·.2)=vs)(h64:vs.length<64)
  (hk:∀(h':Heap)(tk:Tok),(∀b o,s.heap.get? b=some o→h'.get? b=some o)→2≤vs.length→∀R:SortKind→Shared→Prop,R κ {s with heap:=h',toks:=tk}→wpAny (model prog w) A.in1.in1 (keyKind' vs.toArray) R (fun _ _=>False) {s with heap:=h',toks:=tk})
  (hc:∀(h':Heap)(tk:Tok),(∀b o,s.heap.get? b=some o→h'.get? b=some o)→∀i j,i<vs.length→j<vs.length→∀C:Bool→Shared→Prop,C (bt i j) {s with heap:=h',toks:=tk}→W.kas_ask prog w A.in1.in1 κ vs i j C {s with heap:=h',toks:=tk})
  (fin:∀(h':Heap)(tk:Tok)(D:Addr)(c:Nat),(∀b o,s.heap.get? b=some o→h'.get? b=some o)→s.heap.objs.size≤D→h'.get? D=some (seqObj "list" (List.toArray ((Cd bt vs.length).map fun i=>vs.getD i Value.none)) c)→Q (.ref D) {s with heap:=h',toks:=tk}) :
  wpAny (model prog w) A (call (.builtin "sorted") [.ref a]) Q E s:=by
 have len:es.size=vs.length:=by rw[←ev,List.length_map,Array.length_toList,KD]
 refine Calls.call_function_entry kind_sorted plain_sorted entry_sorted (args_sorted1 _) ?_
 unfold Builtin.«sorted»
 refine wpAny_bind (m:=checkCount "sorted" 1 1 _) (wpAny_pure (wpAny_bind (Wb hh S (by rw[sizeLine_eq];omega) fun h1 tk k1 big _=>?_)))
 rw[ev]
 refine wpAny_bind (wpAny_newList ?_ (by rw[sizeLine_eq];omega))
 have gD:(h1.push (seqObj "list" vs.toArray 0)).get? h1.objs.size=some (seqObj "list" vs.toArray 0):=Heap.get?_push_size _ rfl
 have low:∀(h':Heap),But h1.objs.size (h1.push (seqObj "list" vs.toArray 0)) h'→∀b o,s.heap.get? b=some o→h'.get? b=some o:=fun h' k b o q=>by
  have q1:=k1 b o q
  have lb:=Heap.lt_size q1
  exact k b o (Nat.ne_of_lt lb) (Heap.get?_push_of_some _ q1)
 refine wpAny_bind (wpAny_holding (wpAny_call_entry slot_list_sort ⟨_,gD,rfl⟩ entry_list_sort ?_ (args_list_sort _)))
 refine Nk (s:={s with heap:=h1.push (seqObj "list" vs.toArray 0),toks:=tk}) (κ:=κ) (bt:=bt) gD h64 (fun h' k=>hk h' tk (low h' k)) (fun h' k=>hc h' tk (low h' k)) fun h' c k g=>?_
 exact⟨_,rfl,wpAny_pure ⟨_,rfl,fin h' tk _ c (low h' k) (Nat.le_of_lt big) g⟩⟩
end
def Rr(P:Program)(w:World)(a:Addr)(xs:List (List Int×Addr))(h:Heap):Prop:=∃es ep t,GR w h a es ep t∧es.toList.Perm (xs.map (Xe P w))
theorem AaV{P:Program}{w:World}{a:Addr}{xs:List (List Int×Addr)}(h1 h2:Heap)(x:Rr P w a xs h1)(k:∀o,h1.get? a=some o→h2.get? a=some o):Rr P w a xs h2:=let ⟨es,ep,t,S,p⟩:=x;⟨es,ep,t,S.kept k,p⟩
section
variable{X:Cx}{e:Expr}{te:DTE}{pos:Pos}
theorem Xx(hc:X.calm=true)(hu:X.A.units+16<cLine):Il X (.type "set") (fun vs H Q=>∃p xs,vs=[.ref p]∧SqL X.K H p (xs.map fun x=>V.ref x.2)∧Zw X.K H xs∧(xs.map (·.1)).Nodup∧xs.length<64∧∀a,H a=none→Q (.ref a) (upd H a (.ext (Rr X.prog X.w a xs.reverse)))):=by
 intro pins s σ H vs us Q I r h
 obtain⟨p,xs,rfl,hq,rows,nd,few,q⟩:=h
 obtain⟨u,rfl,rx⟩:=vals1 r
 cases rx
 obtain⟨its,r',pl,hz⟩:=I.list hq
 have ei:its=xs.map fun x=>Value.ref x.2:=by
  have:(xs.map fun x=>V.ref x.2)=(xs.map (·.2)).map V.ref:=by rw[List.map_map];rfl
  rw[this]at r'
  rw[Tc r',List.map_map]
  rfl
 refine Abb (I.ok.hd hc) hu pl.isList ei (fun x hx=>Ahd I (rows x hx)) nd ∅ fun h' tk es ep t S kp=>?_
 exact⟨.ref s.heap.objs.size,_,I.laid (t':=tk) (o:=.ext (Rr X.prog X.w s.heap.objs.size xs.reverse)) kp (Nat.le_refl _) ⟨⟨es,ep,t,⟨S.at_,S.good.ok,S.pl,S.ld⟩,S.pm⟩,⟨_,S.at_⟩,AaV⟩,rfl,q _ (I.hok.fresh (Nat.le_refl _))⟩
theorem YK(hc:X.calm=true):Il X (.builtin "sorted") (fun vs H Q=>∃a xs,vs=[.ref a]∧H a=some (.ext (Rr X.prog X.w a xs))∧xs.length<64∧Zw X.K H xs∧(∀x∈xs,x.1≠[]) ∧
  ∀ys:List (List Int×Addr),ys.Perm xs→∀l,H l=none→Q (.ref l) (upd H l (.lst ((Cd (fun i j=>HT.lexLt ((ys.map (·.1)).getD i []) ((ys.map (·.1)).getD j [])) (ys.map (·.1)).length).map fun i=>(ys.map fun y=>V.ref y.2).getD i V.non)))):=by
 intro pins s σ H vs us Q I r h
 obtain⟨a,xs,rfl,ha,few,rows,ne,q⟩:=h
 obtain⟨u,rfl,rx⟩:=vals1 r
 cases rx
 obtain⟨⟨es,ep,t,S,pm⟩,_,_⟩:=I.hok a _ ha
 obtain⟨ys,py,ey⟩:=Aby ((Tr X.w a ep es).trans pm) xs rfl
 have ev:(Ga X.w a ep es).toList.map (·.2)=ys.map fun y=>Value.ref y.2:=by rw[ey,List.map_map];rfl
 have rv:Vals (ys.map fun y=>V.ref y.2) (ys.map fun y=>Value.ref y.2):=by
  clear ev ey py
  induction ys with
  |nil=>exact .nil
  |cons y ys ih=>exact .cons (rfl:RelV (.ref y.2) (.ref y.2)) ih
 have ly:ys.length=xs.length:=py.length_eq
 have row:∀h':Heap,(∀b o,s.heap.get? b=some o→h'.get? b=some o)→∀(i:Nat)(v:Value),(ys.map fun y=>Value.ref y.2)[i]? = some v→∃a xs,v=.ref a∧IsTup h' a xs∧IntsAre xs.toList ((ys.map (·.1)).getD i [])∧(ys.map (·.1)).getD i []≠[]:=fun h' k i v e=>by
  rw[List.getElem?_map]at e
  cases q:ys[i]? with
  |none=>rw[q]at e;cases e
  | some y =>
   rw[q]at e
   cases e
   have my:y∈xs:=py.mem_iff.mp (List.mem_of_getElem? q)
   obtain⟨zs,r3,⟨o,g,rest⟩,_⟩:=I.tuple (rows y my)
   have e2:(ys.map (·.1)).getD i []=y.1:=by simp[List.getD,q]
   rw[e2]
   exact⟨y.2,zs.toArray,rfl,⟨o,k _ o g,rest⟩,intsAre_of r3,ne y my⟩
 have lv:(ys.map fun y=>Value.ref y.2).length=ys.length:=List.length_map ..
 refine Wn (κ:=tuples' true) (bt:=fun i j=>HT.lexLt ((ys.map (·.1)).getD i []) ((ys.map (·.1)).getD j [])) (I.ok.hd hc) S ev (by rw[lv];omega) (fun h' tk k _ R hR=>?_) (fun h' tk k i j hi hj C hC=>?_) fun h' tk D c k hD g=>?_
 ·obtain⟨fs,kt,lf,ff⟩:=Ug (h:=h') (ys.map fun y=>Value.ref y.2) fun v hv=>by
   obtain⟨i,hi,e⟩:=List.getElem_of_mem hv
   obtain⟨a,xs,e1,t,n,ne⟩:=row h' k i v (by rw[←e];exact List.getElem?_eq_getElem hi)
   exact⟨a,xs,_,e1,t,n,ne⟩
  refine W.kat_kind (s:={s with heap:=h',toks:=tk}) (T:=.type "int") kt ∅ (fun v hv=>?_) ⋯ hR
  obtain⟨n,t,rfl⟩:=ff v hv
  exact .now
 ·obtain⟨a,xs,e1,t1,n1,_⟩:=row h' k i _ (List.getElem?_eq_getElem hi)
  obtain⟨b,zs,e2,t2,n2,_⟩:=row h' k j _ (List.getElem?_eq_getElem hj)
  have d1:(ys.map fun y=>Value.ref y.2).getD i Value.none=.ref a:=by simp only[List.getD,List.getElem?_eq_getElem hi,Option.getD_some,e1]
  have d2:(ys.map fun y=>Value.ref y.2).getD j Value.none=.ref b:=by simp only[List.getD,List.getElem?_eq_getElem hj,Option.getD_some,e2]
  unfold W.kas_ask
  rw[d1,d2]
  exact VR (s:={s with heap:=h',toks:=tk}) t1 t2 n1 n2 hC
 ·have e3:(ys.map fun y=>Value.ref y.2).length=(ys.map (·.1)).length:=by rw[List.length_map,List.length_map]
  rw[e3]at g
  have ib:∀i∈Cd (fun i j=>HT.lexLt ((ys.map (·.1)).getD i []) ((ys.map (·.1)).getD j [])) (ys.map (·.1)).length,i<(ys.map fun y=>V.ref y.2).length:=fun i hi=>by
   have:=List.mem_range.mp ((BP _ _).mem_iff.mp hi)
   rw[List.length_map]at this ⊢
   exact this
  have vp:=Kz rv _ ib
  have lz:((Cd (fun i j=>HT.lexLt ((ys.map (·.1)).getD i []) ((ys.map (·.1)).getD j [])) (ys.map (·.1)).length).map fun i=>(ys.map fun y=>V.ref y.2).getD i V.non).length≤sizeLine:=by
   rw[List.length_map,(BP _ _).length_eq,List.length_range,List.length_map,sizeLine_eq]
   omega
  exact⟨.ref D,_,I.laid (t':=tk) k hD (show GQ X.prog X.w _ h' _ (.lst _)from⟨lz,_,c,vp,g⟩),rfl,q ys py _ (I.hok.fresh hD)⟩
def SJ(te:DTE):DTE:=fun ρ Q=>te ρ fun d=>∃nss:List (List Int),d=.lst (nss.map Bc)∧nss.Nodup∧nss.length<64∧(∀r∈nss,r≠[])∧Q (.lst ((Ib nss).map Bc))
theorem ZS{K:W.Frag}{H:Hp}:∀{xs:List (List Int×Addr)},Zw K H xs→RpL K H ((xs.map (·.1)).map Bc) (xs.map fun x=>V.ref x.2)
 | [],_=>RpL.nil
 |x::xs,h=>RpL.cons (Cu.mpr ⟨x.2,_,rfl,h x (.head _),Ra x.1⟩) (ZS fun y hy=>h y (.tail _ hy))
theorem Oo{p p2 cp:Pos}(hmL:X.mg "sorted"=none)(hmS:X.mg "set"=none)(hu:X.A.units+16<cLine)(hc:X.calm=true)(he:DE X e te)(hgL:Gl X "sorted":=by rfl)(hgS:Gl X "set":=by rfl)(hb:bootBuiltins "sorted"=some (.builtin "sorted"):=by rfl)(hv:bootBuiltins "set"=some (.type "set"):=by rfl)
  (hs1:starEach [e] X.env=(false,eval e X.env)::starEach [] X.env:=by rfl) (hp1:(backTo cp (starEach [] X.env)).any (·.1)=false:=by rfl)
  (hs2:starEach [.Call (.Name "set" p2) [e] [] cp] X.env=(false,eval (.Call (.Name "set" p2) [e] [] cp) X.env)::starEach [] X.env:=by rfl) (hp2:(backTo pos (starEach [] X.env)).any (·.1)=false:=by rfl) :
  DE X (.Call (.Name "sorted" p) [.Call (.Name "set" p2) [e] [] cp] [] pos) (SJ te) where
 mono:=fun hq h=>he.mono (fun d ⟨ns,h1,h2,h3,h4,h5⟩=>⟨ns,h1,h2,h3,h4,hq _ h5⟩) h
 pe:=(Ro (YK hc) hgL hmL hb (Hs (Ol (Xx hc hu) hgS hmS hv (Hs he.pe Lr hs1) (he:=hs1) (hpl:=hp1)) Lr hs2) (he:=hs2) (hpl:=hp2)).imp fun σ H Q ⟨B,F,O,ρ,R,h⟩=>⟨B,F,O,ρ,R,he.mono (fun d ⟨nss,e1,nd,few,ne,q⟩ v H1 s1 r1=>by
  subst e1
  obtain⟨pa,ys,rfl,hs,hl⟩:=CN r1
  obtain⟨xs,rfl,ex,rv⟩:=AaF hl
  have lx:xs.length=nss.length:=by rw[←ex,List.length_map]
  have mx:∀x∈xs,x.1∈nss:=fun x hx=>by rw[←ex];exact List.mem_map.mpr ⟨x,hx,rfl⟩
  refine⟨pa,xs,rfl,Bh.seq hs,fun x hx=>Bh.bU (rv x hx),by rw[ex];exact nd,∅,fun a ha=>⟨a,xs.reverse,rfl,Ce,by rw[List.length_reverse];omega,fun x hx=>(Same.upd ha).bU (Bh.bU (rv x (List.mem_reverse.mp hx))),fun x hx=>ne _ (mx x (List.mem_reverse.mp hx)),fun zs pz l hl'=>?_⟩⟩
  have hl1:H1 l=none:=by
   by_cases z:l=a
   ·rw[z];exact ha
   ·rw[Bo z]at hl';exact hl'
  have nl:l∉F++O:=fun m=>(R.same s1).th l m hl1
  have pz':zs.Perm xs:=pz.trans (List.reverse_perm xs)
  have es:Ib nss=Ib (zs.map (·.1)):=AdE (by rw[←ex];exact(pz'.map _).symm)
  have rz:RpL X.K (mask (F++O) H1) ((zs.map (·.1)).map Bc) (zs.map fun x=>V.ref x.2):=ZS fun x hx=>rv x (pz'.mem_iff.mp hx)
  have rp:=Qg rz (Cd (fun i j=>HT.lexLt ((zs.map (·.1)).getD i []) ((zs.map (·.1)).getD j [])) (zs.map (·.1)).length) fun i hi=>List.mem_range.mp ((BP _ _).mem_iff.mp hi)
  have em:(Ib nss).map Bc=(Cd (fun i j=>HT.lexLt ((zs.map (·.1)).getD i []) ((zs.map (·.1)).getD j [])) (zs.map (·.1)).length).map fun i=>Bc ((zs.map (·.1)).getD i []):=by
   rw[es]
   unfold Ib
   rw[List.map_map]
   rfl
  rw[em]at q
  exact q (.ref l) _ ((s1.trans (Same.upd ha)).trans (Same.upd hl')) (Ho ⟨l,_,rfl,Gm nl,rp.mono ((Same.upd ha).trans (Same.upd hl')).mask⟩)) h⟩
end
variable{X:Cx}{a b:Expr}{ta tb:DTE}{pos:Pos}
def AlD(K:W.Frag):R2:=fun x y H Q=>∃b ns p vs,∃nss:Nat→List Int,x=.ref b∧y=.ref p∧SqL K H p vs∧SqT K H b (List.map V.int ns)∧(∀(i:Nat)(v:V),vs[i]? = some v→∃a,v=.ref a∧SqT K H a ((nss i).map V.int)) ∧
 ∀k:Bool,(k=true↔∃i,i<vs.length∧nss i=ns)→Q (.bl k) H
theorem AiO(hu:X.A.units+64<cLine):OpR X (compareOp .In) (AlD X.K):=by
 intro pins s σ H x y v u Q I rx ry h
 obtain⟨b,ns,p,vs,nss,rfl,rfl,hl,hb,each,q⟩:=h
 cases rx
 cases ry
 obtain⟨its,e,h1,h2,h3⟩:=Ww hu I hl hb each
 exact SeqAt.in_listAt e h1 h2 ⟨.bl _,H,I,rfl,q _ h3⟩
def Aie:D2:=fun a b Q=>∃(ns:List Int)(nss:List (List Int)),a=Bc ns∧b=.lst (nss.map Bc)∧Q (.bl (decide (ns∈nss)))
theorem Agb{K:W.Frag}:Jb K (AlD K) Aie:=⟨fun hq ⟨i,ns,e1,e2,h⟩=>⟨i,ns,e1,e2,hq _ h⟩,fun O H a b x y Q _ ra rb ⟨ns,nss,e1,e2,h⟩=>by
 subst e1 e2
 obtain⟨c,rfl,hc⟩:=Vh ra
 obtain⟨p,vs,rfl,hs,hl⟩:=CN rb
 obtain⟨ll,each⟩:=Vw hl
 refine⟨c,ns,p,vs,fun i=>nss.getD i [],rfl,rfl,Bh.seq hs,Bh.bU hc,fun i v e=>?_,fun k hk=>?_⟩
 ·obtain⟨a,ea,ht⟩:=each i v e
  exact⟨a,ea,Bh.bU ht⟩
 ·have:k=decide (ns∈nss):=by
   rw[Bool.eq_iff_iff,hk,decide_eq_true_eq]
   constructor
   ·rintro⟨i,hi,e⟩
    have hi':i<nss.length:=∅
    rw[←e]
    show nss.getD i []∈nss
    have:nss.getD i []=nss[i]:=by simp[List.getD,hi']
    rw[this]
    exact List.getElem_mem hi'
   ·intro m
    obtain⟨i,hi,e⟩:=List.getElem_of_mem m
    exact⟨i,∅,by simp[List.getD,hi,e]⟩
  rw[this]
  exact h _ H (Same.refl H) (Cz.mpr rfl)⟩
theorem AeI(hu:X.A.units+64<cLine)(ha:DE X a ta)(hb:DE X b tb)(hm:behindInMarks .In b=false:=by with_unfolding_all rfl):DE X (.Compare a [.In] [b] pos) (dOp Aie ta tb):=Qk (AiO hu) Agb ha hb hm
def ZQ:List V→Hp→VK→Prop:=fun xs H Q=>∃i j,xs=[.int i,.int j]∧CDv i j∧∀p,H p=none→Q (.ref p) (upd H p (.tup [.int (i.fdiv j),.int (i.fmod j)]))
theorem Ut:Il X (.builtin "divmod") ZQ:=by
 intro pins s σ H xs us Q I r h
 obtain⟨i,j,rfl,hc,q⟩:=h
 obtain⟨u,v,rfl,⟨t,rfl⟩,⟨t',rfl⟩⟩:=vals2 r
 refine divmod_int hc.1 ?_ (.inl (PyProof.noPylong_of_log2 (log2_small hc.2)))
 have sz:[V.int (i.fdiv j),V.int (i.fmod j)].length≤sizeLine:=by
  show 2≤sizeLine
  rw[sizeLine_eq]
  decide
 refine⟨.ref s.heap.objs.size,_,I.laid (o:=.tup [.int (i.fdiv j),.int (i.fmod j)]) (fun b o e=>Heap.get?_push_of_some _ e) (Nat.le_refl _) ⟨sz,[.int (i.fdiv j) s.toks,.int (i.fmod j) (s.toks+1)],.cons ⟨_,rfl⟩ (.cons ⟨_,rfl⟩ .nil),?_⟩,rfl,q _ (I.hok.fresh (Nat.le_refl _))⟩
 exact⟨_,Heap.get?_push_size s.heap rfl,rfl,0,rfl⟩
def Uh:DL:=fun ds Q=>∃i j:Int,ds=[.int i,.int j]∧CDv i j∧Q (.tup [.int (i.fdiv j),.int (i.fmod j)])
theorem X7{K:W.Frag}:Vf K ZQ Uh where
 mono:=fun hq ⟨i,j,e,c,h⟩=>⟨i,j,e,c,hq _ h⟩
 ok:=fun O H ds xs Q hO r ⟨i,j,e,c,h⟩=>by
  subst e
  obtain⟨x,r1,rfl,ra,r2⟩:=Aw.mp r
  obtain⟨y,r3,rfl,rb,r4⟩:=Aw.mp r2
  obtain rfl:=Bq.mp r4
  obtain rfl:=Bf.mp ra
  obtain rfl:=Bf.mp rb
  refine⟨i,j,rfl,c,fun p hn=>?_⟩
  have nl:p∉O:=fun z=>hO p z hn
  exact h _ _ (Same.upd hn) (Cu.mpr ⟨p,_,rfl,SqT.of (Gm nl),RpL.cons (Bf.mpr rfl) (RpL.cons (Bf.mpr rfl) RpL.nil)⟩)
theorem AbM{tl:DTA}{p:Pos}(hm:X.mg "divmod"=none)(ha:DA X [a,b] tl)(hg:Gl X "divmod":=by rfl)(hv:bootBuiltins "divmod"=some (.builtin "divmod"):=by rfl)(he:starEach [a,b] X.env=(false,eval a X.env)::starEach [b] X.env:=by rfl)
  (hpl:(backTo pos (starEach [b] X.env)).any (·.1)=false:=by rfl):DE X (.Call (.Name "divmod" p) [a,b] [] pos) (dCB Uh tl):=Q8 Ut X7 hg hm hv ha (he:=he) (hpl:=hpl)
def Acg(te:DTE):DTE:=fun ρ Q=>te ρ fun d=>∃ds,d=.lst ds∧Q (.lst ds)
theorem AcO{e:Expr}{te:DTE}{p:Pos}(hm:X.mg "list"=none)(h:DE X e te)(hg:Gl X "list":=by rfl)(hst:starEach [e] X.env=(false,eval e X.env)::starEach [] X.env:=by rfl)(hpl:(backTo pos (starEach [] X.env)).any (·.1)=false:=by rfl):DE X (.Call (.Name "list" p) [e] [] pos) (Acg te) where
 mono:=fun hq z=>h.mono (fun d ⟨ds,e,z⟩=>⟨ds,e,hq _ z⟩) z
 pe:=(Ol Nh hg hm rfl (Hs h.pe Lr hst) (he:=hst) (hpl:=hpl)).imp fun σ H Q ⟨B,F,O,ρ,R,z⟩=>⟨B,F,O,ρ,R,h.mono (fun d ⟨ds,e1,q⟩ v H1 s1 r1=>by
  subst e1
  obtain⟨a,xs,rfl,hs,hl⟩:=CN r1
  refine⟨a,xs,rfl,.inl (Bh.seq hs),fun l hn=>?_⟩
  have nl:l∉F++O:=fun z=>(R.same s1).th l z hn
  exact q _ _ (s1.trans (Same.upd hn)) (Ho ⟨l,xs,rfl,Gm nl,hl.mono (Same.upd hn).mask⟩)) z⟩
end L2
namespace My
open PySem L2
abbrev U9:DSp:=AhB
abbrev I4:=Int×Int×Int×Int
abbrev I2:=Int×Int
abbrev t4(p:I4):Dt:=T4 p.1 p.2.1 p.2.2.1 p.2.2.2
abbrev t2(p:I2):Dt:=T2 p.1 p.2
def B4(n:Nat)(p:I4):Prop:=Bt n p.1∧Bt n p.2.1∧Bt n p.2.2.1∧Bt n p.2.2.2
def B2(n:Nat)(p:I2):Prop:=Bt n p.1∧Bt n p.2
def det(p:I4):Int:=p.1*p.2.2.2-p.2.1*p.2.2.1
def K6(t:I4)(p:I2):I2:=(t.1*p.1+t.2.1*p.2,t.2.2.1*p.1+t.2.2.2*p.2)
def Ak(a b:I4):I4:=(a.1*b.1+a.2.1*b.2.2.1,a.1*b.2.1+a.2.1*b.2.2.2,a.2.2.1*b.1+a.2.2.2*b.2.2.1,a.2.2.1*b.2.1+a.2.2.2*b.2.2.2)
def Ba(t:I4):I4:=(t.2.2.2,-t.2.1,-t.2.2.1,t.1)
theorem B4.le{n m:Nat}{t:I4}(h:B4 n t)(l:n≤m):B4 m t:=⟨h.1.le l,h.2.1.le l,h.2.2.1.le l,h.2.2.2.le l⟩
theorem B4.back{n:Nat}{t:I4}(h:B4 n t):B4 n (Ba t):=⟨h.2.2.2,h.2.1.neg,h.2.2.1.neg,h.1⟩
theorem B2.led{n m:Nat}{t:I4}{p:I2}(h:B4 n t)(q:B2 m p):B2 (n+m+1) (K6 t p) :=
 ⟨((h.1.mul q.1).add (h.2.1.mul q.2)).le ∅,((h.2.2.1.mul q.1).add (h.2.2.2.mul q.2)).le ∅⟩
theorem B4.then{n m:Nat}{t u:I4}(h:B4 n t)(q:B4 m u):B4 (n+m+1) (Ak t u) :=
 ⟨((h.1.mul q.1).add (h.2.1.mul q.2.2.1)).le ∅,((h.1.mul q.2.1).add (h.2.1.mul q.2.2.2)).le ∅,((h.2.2.1.mul q.1).add (h.2.2.2.mul q.2.2.1)).le ∅,((h.2.2.1.mul q.2.1).add (h.2.2.2.mul q.2.2.2)).le ∅⟩
def Ef{t:I4}:det (Ba t)=det t:=by obtain⟨a,b,c,d⟩:=t;simp only[det,Ba];grind
def BR{t u:I4}:det (Ak t u)=det t*det u:=by obtain⟨a,b,c,d⟩:=t;obtain⟨e,f,g,h⟩:=u;simp only[det,Ak];grind
def KJ{t:I4}(h:det t=1):Ak t (Ba t)=(1,0,0,1):=by
 obtain⟨a,b,c,d⟩:=t
 simp only[det,Ak,Ba,Prod.mk.injEq]at *
 refine⟨?_,?_,?_,?_⟩<;>grind
def Uc{t:I4}(h:det t=1):Ak (Ba t) t=(1,0,0,1):=by
 obtain⟨a,b,c,d⟩:=t
 simp only[det,Ak,Ba,Prod.mk.injEq]at *
 refine⟨?_,?_,?_,?_⟩<;>grind
def Aex{t u:I4}{p:I2}:K6 (Ak t u) p=K6 t (K6 u p):=by
 obtain⟨a,b,c,d⟩:=t
 obtain⟨e,f,g,i⟩:=u
 obtain⟨x,y⟩:=p
 simp only[K6,Ak,Prod.mk.injEq]
 refine⟨?_,?_⟩<;>grind
def AhW{s t:I4}:Dt.eq (t4 s) (t4 t)=decide (s=t):=by
 obtain⟨a,b,c,d⟩:=s
 obtain⟨e,f,g,h⟩:=t
 simp only[AaL,YM,XM,S8,Prod.mk.injEq,Bool.and_true]
 simp only[Bool.decide_and]
abbrev I3:=Int×Int×Int
abbrev t3(p:I3):Dt:=T3 p.1 p.2.1 p.2.2
def B3(n:Nat)(p:I3):Prop:=Bt n p.1∧Bt n p.2.1∧Bt n p.2.2
theorem B3.le{n m:Nat}{t:I3}(h:B3 n t)(l:n≤m):B3 m t:=⟨h.1.le l,h.2.1.le l,h.2.2.le l⟩
def meas(f:I3):Int:=f.2.1*f.2.1-4*f.1*f.2.2
def val(f:I3)(p:I2):Int:=f.1*p.1*p.1+f.2.1*p.1*p.2+f.2.2*p.2*p.2
def mid(f:I3)(l r:I2):Int:=2*f.1*l.1*r.1+f.2.1*(l.1*r.2+r.1*l.2)+2*f.2.2*l.2*r.2
def mov(f:I3)(t:I4):I3:=(val f (t.1,t.2.2.1),mid f (t.1,t.2.2.1) (t.2.1,t.2.2.2),val f (t.2.1,t.2.2.2))
def Ana{f:I3}{t:I4}{p:I2}:val (mov f t) p=val f (K6 t p):=by
 obtain⟨a,b,c⟩:=f;obtain⟨e,g,h,i⟩:=t;obtain⟨x,y⟩:=p
 simp only[val,mov,mid,K6];grind
def Bl{f:I3}{t:I4}(h:det t=1):meas (mov f t)=meas f:=by
 obtain⟨a,b,c⟩:=f;obtain⟨e,g,i,j⟩:=t
 simp only[det]at h
 have e1:meas (mov (a,b,c) (e,g,i,j))=(e*j-g*i)*(e*j-g*i)*meas (a,b,c):=by simp only[meas,mov,val,mid];grind
 rw[e1,h];simp
def Ay{f:I3}{t u:I4}:mov (mov f t) u=mov f (Ak t u):=by
 obtain⟨a,b,c⟩:=f;obtain⟨e,g,i,j⟩:=t;obtain⟨k,l,m,n⟩:=u
 simp only[mov,val,mid,Ak,Prod.mk.injEq]
 refine⟨?_,?_,?_⟩<;>grind
def Dl{f:I3}:mov f (1,0,0,1)=f:=by
 obtain⟨a,b,c⟩:=f
 simp only[mov,val,mid,Prod.mk.injEq]
 refine⟨?_,?_,?_⟩<;>grind
def Ahx{s t:I3}:Dt.eq (t3 s) (t3 t)=decide (s=t):=by
 obtain⟨a,b,c⟩:=s
 obtain⟨e,f,g⟩:=t
 simp only[AaL,YM,XM,S8,Prod.mk.injEq,Bool.and_true]
 simp only[Bool.decide_and]
theorem B3.mov{f:I3}{t:I4}{n m:Nat}(hf:B3 n f)(ht:B4 m t):B3 (n+m+m+5) (mov f t):=by
 obtain⟨a,b,c⟩:=f;obtain⟨e,g,i,j⟩:=t
 obtain⟨ha,hb,hc⟩:=hf
 obtain⟨he,hg,hi,hj⟩:=ht
 have h2:Bt 2 2:=Bt.ak ⋯
 refine⟨?_,?_,?_⟩
 ·exact((((ha.mul he).mul he).add ((hb.mul he).mul hi)).add ((hc.mul hi).mul hi)).le ∅
 ·exact(((((h2.mul ha).mul he).mul hg).add (hb.mul ((he.mul hj).add (hg.mul hi)))).add (((h2.mul hc).mul hi).mul hj)).le ∅
 ·exact((((ha.mul hg).mul hg).add ((hb.mul hg).mul hj)).add ((hc.mul hj).mul hj)).le ∅
def Sq(n r:Int):Prop:=0≤r∧r*r≤n∧n<(r+1)*(r+1)
theorem Sq.uniq{n r s:Int}(a:Sq n r)(b:Sq n s):r=s:=by
 obtain⟨a0,a1,a2⟩:=a
 obtain⟨b0,b1,b2⟩:=b
 rcases Int.lt_trichotomy r s with h|h|h
 ·have:=Int.mul_le_mul (show r+1≤s by omega) (show r+1≤s by omega) ∅ b0
  omega
 ·exact h
 ·have:=Int.mul_le_mul (show s+1≤r by omega) (show s+1≤r by omega) ∅ a0
  omega
def Sv{n g:Int}(hn:0≤n)(hg:0<g):n<((g+n / g) / 2+1)*((g+n / g) / 2+1):=by
 have h1:n<g*(n / g)+g:=Int.lt_mul_ediv_self_add hg
 have h0:0≤n / g:=Int.ediv_nonneg hn ∅
 generalize n / g=q at *
 have hb:g+q≤2*((g+q) / 2)+1:=∅
 have hb0:0≤(g+q) / 2:=∅
 generalize (g+q) / 2=b at *
 have z1:0≤(g-q-1)*(g-q-1):=by
  rcases Int.le_total 0 (g-q-1)with h|h
  ·exact Int.mul_nonneg h h
  ·exact Int.mul_nonneg_of_nonpos_of_nonpos h h
 have z2:(g+q+1)*(g+q+1)=(g-q-1)*(g-q-1)+4*(g*q+g):=by grind
 have z3:(g+q+1)*(g+q+1)≤(2*(b+1))*(2*(b+1)):=Int.mul_le_mul ∅ ∅ ∅ ∅
 have z4:(2*(b+1))*(2*(b+1))=4*((b+1)*(b+1)):=by grind
 omega
def Ys{n g:Int}(hg:0<g)(h:g≤(g+n / g) / 2):g*g≤n:=by
 have h1:g*(n / g)≤n:=Int.mul_ediv_self_le ∅
 have h2:g≤n / g:=∅
 have:=Int.mul_le_mul_of_nonneg_left h2 (show 0≤g by omega)
 omega
def Xc{n g:Int}(hg:0<g)(h:n<g*g):(g+n / g) / 2<g:=by
 have h2:n / g<g:=Int.ediv_lt_of_lt_mul hg (by rw[Int.mul_comm]at h;exact h)
 omega
def Xv{n g:Int}(hn:1≤n)(hg:0<g):0<(g+n / g) / 2:=by
 have h0:0≤n / g:=Int.ediv_nonneg ∅ ∅
 rcases Int.lt_or_le g 2 with h|h
 ·have:g=1:=∅
  subst this
  rw[Int.ediv_one];omega
 ·omega
def V8{n:Int}(hn:0≤n):n<(1*2 ^ ((((Builtin.Int.intBits n:Nat):Int)+1).fdiv 2).toNat+1)*(1*2 ^ ((((Builtin.Int.intBits n:Nat):Int)+1).fdiv 2).toNat+1):=by
 have h1:n.natAbs<2 ^ Builtin.Int.intBits n:=intBits_le_iff.mp (Nat.le_refl _)
 generalize Builtin.Int.intBits n=b at *
 have e:((((b:Nat):Int)+1).fdiv 2).toNat=(b+1) / 2:=by
  rw[Int.fdiv_eq_ediv_of_nonneg _ ⋯];omega
 rw[e]
 generalize hk:(b+1) / 2=k
 have h2:2 ^ b≤2 ^ k*2 ^ k:=by rw[←Nat.pow_add];exact Nat.pow_le_pow_right ⋯ ∅
 have h3:n<((2 ^ k*2 ^ k:Nat):Int):=∅
 have h4:((2 ^ k*2 ^ k:Nat):Int)=(2 ^ k:Int)*2 ^ k:=by push_cast;rfl
 rw[h4]at h3
 have h5:(0:Int)≤2 ^ k:=Int.pow_nonneg ⋯
 generalize (2 ^ k:Int)=z at *
 have:(1*z+1)*(1*z+1)=z*z+2*z+1:=by grind
 omega
def O5{n:Int}(h:Bt 4000 n):Aa1 1 ((((Builtin.Int.intBits n:Nat):Int)+1).fdiv 2)∧Bt 2001 (1*2 ^ ((((Builtin.Int.intBits n:Nat):Int)+1).fdiv 2).toNat)∧0<(1*2 ^ ((((Builtin.Int.intBits n:Nat):Int)+1).fdiv 2).toNat:Int):=by
 have hb:Builtin.Int.intBits n≤4000:=intBits_le_iff.mpr h
 generalize Builtin.Int.intBits n=b at *
 rw[Int.fdiv_eq_ediv_of_nonneg _ ⋯]
 refine⟨⟨∅,∅,⋯⟩,?_,?_⟩
 ·have e:(((b:Int)+1) / 2).toNat≤2000:=∅
  generalize (((b:Int)+1) / 2).toNat=k at *
  unfold Bt
  rw[Int.one_mul,Int.natAbs_pow]
  exact Nat.pow_lt_pow_right ⋯ ∅
 ·rw[Int.one_mul]
  exact Int.pow_pos ⋯
def Va{n g:Int}(hg:0<g):(g+n.fdiv g).fdiv 2=(g+n / g) / 2:=by
 rw[Int.fdiv_eq_ediv_of_nonneg _ ⋯,Int.fdiv_eq_ediv_of_nonneg _ ∅]
def Je(n:Int):Prop:=∃r:Int,r*r=n
def AcW{n r:Int}(h:Sq n r):Je n↔r*r=n:=by
 refine⟨fun⟨s,e⟩=>?_,fun e=>⟨r,e⟩⟩
 have hs:Sq n (s.natAbs:Int):=by
  have e2:(s.natAbs:Int)*(s.natAbs:Int)=n:=(Int.natAbs_mul_self' s).trans e
  refine⟨∅,∅,?_⟩
  have:((s.natAbs:Int)+1)*((s.natAbs:Int)+1)=(s.natAbs:Int)*(s.natAbs:Int)+2*(s.natAbs:Int)+1:=by grind
  omega
 rw[h.uniq hs]
 exact(Int.natAbs_mul_self' s).trans e
def MP{n:Int}(h:n<0):¬Je n:=fun⟨r,e⟩=>by
 have:0≤r*r:=by
  rcases Int.le_total 0 r with h|h
  ·exact Int.mul_nonneg h h
  ·exact Int.mul_nonneg_of_nonpos_of_nonpos h h
 omega
abbrev Mt:DSp:=spec (fun n:Int=>[.int n]) (fun n=>0≤n∧Bt 4000 n) fun n d=>∃r,d=.int r∧Sq n r∧Bt 2001 r
abbrev Mw:DSp:=spec (fun n:Int=>[.int n]) (fun n=>Bt 4000 n) fun n d=>∃b:Bool,d=.bl b∧(b=true↔Je n)
def Dz(a b:Int):a.fmod b=a-b*a.fdiv b:=Int.fmod_def a b
def Ui{a b:Int}(h:b≠0):(a.fmod b).natAbs<b.natAbs:=by
 rcases Int.lt_or_lt_of_ne h with h|h
 ·have e:a.fmod b=-((-a).fmod (-b)):=by rw[Dz,Dz,Int.neg_fdiv_neg];grind
  have h1:=Int.fmod_nonneg_of_pos (-a) (show 0 < -b by omega)
  have h2:=Int.fmod_lt_of_pos (-a) (show 0 < -b by omega)
  omega
 ·have h1:=Int.fmod_nonneg_of_pos a h
  have h2:=Int.fmod_lt_of_pos a h
  omega
def AbR(a b:Int):Int.gcd b (a.fmod b)=Int.gcd a b:=by
 rw[Dz]
 have:a-b*a.fdiv b=a+b*(-(a.fdiv b)):=by grind
 rw[this,Int.gcd_comm]
 first
  |rw[Int.gcd_add_mul_left_left]
  |simp
def g3(f:I3):Nat:=Int.gcd ((Int.gcd f.1 f.2.1:Nat):Int) f.2.2
def Afr{f:I3}(h:g3 f=0):f=(0,0,0):=by
 obtain⟨a,b,c⟩:=f
 have h1:=Int.gcd_eq_zero_iff.mp h
 have h2:=Int.gcd_eq_zero_iff.mp (show Int.gcd a b=0 by have:=h1.1;simp only at this;omega)
 have h3:c=0:=h1.2
 rw[h2.1,h2.2,h3]
def AdP(f:I3):(g3 f:Int)∣f.1∧(g3 f:Int)∣f.2.1∧(g3 f:Int)∣f.2.2:=by
 have h1:(g3 f:Int)∣((Int.gcd f.1 f.2.1:Nat):Int):=Int.gcd_dvd_left _ _
 exact⟨Int.dvd_trans h1 (Int.gcd_dvd_left _ _),Int.dvd_trans h1 (Int.gcd_dvd_right _ _),Int.gcd_dvd_right _ _⟩
def AjE{f:I3}(h:g3 f≠0):Int.gcd ((Int.gcd (f.1 / (g3 f:Int)) (f.2.1 / (g3 f:Int)):Nat):Int) (f.2.2 / (g3 f:Int))=1:=by
 obtain⟨⟨x,hx⟩,⟨y,hy⟩,⟨z,hz⟩⟩:=AdP f
 have hG:(g3 f:Int)≠0:=∅
 have ex:f.1 / (g3 f:Int)=x:=by rw[hx,Int.mul_ediv_cancel_left _ hG]
 have ey:f.2.1 / (g3 f:Int)=y:=by rw[hy,Int.mul_ediv_cancel_left _ hG]
 have ez:f.2.2 / (g3 f:Int)=z:=by rw[hz,Int.mul_ediv_cancel_left _ hG]
 rw[ex,ey,ez]
 have e:g3 f=g3 f*Int.gcd ((Int.gcd x y:Nat):Int) z:=by
  have e1:Int.gcd f.1 f.2.1=g3 f*Int.gcd x y:=by rw[hx,hy,Int.gcd_mul_left];simp
  have e2:g3 f=Int.gcd ((Int.gcd f.1 f.2.1:Nat):Int) f.2.2:=rfl
  rw[e1,hz]at e2
  rw[show((g3 f*Int.gcd x y:Nat):Int)=(g3 f:Int)*((Int.gcd x y:Nat):Int) by push_cast;rfl,Int.gcd_mul_left]at e2
  simpa using e2
 have hp:0<g3 f:=∅
 have e':g3 f*Int.gcd ((Int.gcd x y:Nat):Int) z=g3 f*1:=by rw[←e,Nat.mul_one]
 exact Nat.eq_of_mul_eq_mul_left hp e'
inductive Ad0(f:I3):Dt→Prop
 |flat:Je (meas f)→Ad0 f (.str "flat")
 |saddle:¬Je (meas f)→0<meas f→Ad0 f (.str "saddle")
 |bowl:¬Je (meas f)→¬0<meas f→0<f.1→Ad0 f (.str "bowl")
 |dome:¬Je (meas f)→¬0<meas f→¬0<f.1→Ad0 f (.str "dome")
def Pt(x y:Int):Prop:=¬(x=0∧y=0)
structure Cq(f:I3):Prop where
 pos:0<f.1
 lo:-f.1≤f.2.1
 hi:f.2.1≤f.1
 ac:f.1≤f.2.2
 edge:f.2.1=-f.1∨f.1=f.2.2→0≤f.2.1
theorem sq_pos{x:Int}(h:x≠0):1≤x*x:=by
 rcases Int.lt_or_lt_of_ne h with h|h
 ·have:=Int.mul_le_mul_of_nonneg_left (show 1≤-x by omega) (show 0≤-x by omega)
  have e:(-x)*(-x)=x*x:=by grind
  omega
 ·have:=Int.mul_le_mul_of_nonneg_left (show 1≤x by omega) (show 0≤x by omega)
  omega
def Aar{a b c x y:Int}(ha:0<a)(h1:-a≤b)(h2:b≤a)(hc:a≤c)(hx:x≠0)(hy:y≠0):c≤val (a,b,c) (x,y):=by
 have key:∀X Y B:Int,1≤X→1≤Y→0≤B→B≤a→a+c-B≤a*(X*X)-B*(X*Y)+c*(Y*Y):=fun X Y B hX hY hB0 hB=>by
  have sX:1≤X*X:=sq_pos ∅
  have sY:1≤Y*Y:=sq_pos ∅
  rcases Int.le_total Y X with h|h
  ·have z1:X*Y≤X*X:=Int.mul_le_mul_of_nonneg_left h ∅
   have z2:B*(X*Y)≤B*(X*X):=Int.mul_le_mul_of_nonneg_left z1 hB0
   have z3:(a-B)*1≤(a-B)*(X*X):=Int.mul_le_mul_of_nonneg_left sX ∅
   have z4:c*1≤c*(Y*Y):=Int.mul_le_mul_of_nonneg_left sY ∅
   have z5:(a-B)*(X*X)=a*(X*X)-B*(X*X):=by grind
   omega
  ·have z1:X*Y≤Y*Y:=Int.mul_le_mul_of_nonneg_right h ∅
   have z2:B*(X*Y)≤B*(Y*Y):=Int.mul_le_mul_of_nonneg_left z1 hB0
   have z3:(c-B)*1≤(c-B)*(Y*Y):=Int.mul_le_mul_of_nonneg_left sY ∅
   have z4:a*1≤a*(X*X):=Int.mul_le_mul_of_nonneg_left sX ∅
   have z5:(c-B)*(Y*Y)=c*(Y*Y)-B*(Y*Y):=by grind
   omega
 have hX:1≤(x.natAbs:Int):=∅
 have hY:1≤(y.natAbs:Int):=∅
 have k:=key x.natAbs y.natAbs b.natAbs hX hY ∅ ∅
 have e1:(x.natAbs:Int)*x.natAbs=x*x:=Int.natAbs_mul_self' x
 have e2:(y.natAbs:Int)*y.natAbs=y*y:=Int.natAbs_mul_self' y
 have e3:-((b.natAbs:Int)*((x.natAbs:Int)*y.natAbs))≤b*(x*y):=by
  have:((b.natAbs:Int)*((x.natAbs:Int)*y.natAbs))=((b*(x*y)).natAbs:Int):=by rw[Int.natAbs_mul,Int.natAbs_mul];push_cast;rfl
  rw[this];omega
 rw[e1,e2]at k
 have e4:val (a,b,c) (x,y)=a*(x*x)+b*(x*y)+c*(y*y):=by simp only[val];grind
 rw[e4]
 omega
def LQ{a b c x:Int}:val (a,b,c) (x,0)=a*(x*x):=by simp only[val];grind
def XD{a b c y:Int}:val (a,b,c) (0,y)=c*(y*y):=by simp only[val];grind
theorem Cq.min{f:I3}(L:Cq f){x y:Int}(h:Pt x y):f.1≤val f (x,y):=by
 obtain⟨a,b,c⟩:=f
 obtain⟨h0,h1,h2,h3,_⟩:=L
 simp only at h0 h1 h2 h3 ⊢
 by_cases hy:y=0
 ·subst hy
  have hx:x≠0:=fun z=>h ⟨z,rfl⟩
  rw[LQ]
  have:=Int.mul_le_mul_of_nonneg_left (sq_pos hx) (show 0≤a by omega)
  omega
 ·by_cases hx:x=0
  ·subst hx
   rw[XD]
   have:=Int.mul_le_mul_of_nonneg_left (sq_pos hy) (show 0≤c by omega)
   omega
  ·have:=Aar h0 h1 h2 h3 hx hy
   omega
theorem Cq.low{f:I3}(L:Cq f){x y:Int}(h:val f (x,y)<f.2.2):y=0:=by
 obtain⟨a,b,c⟩:=f
 obtain⟨h0,h1,h2,h3,_⟩:=L
 simp only at h0 h1 h2 h3 h ⊢
 by_cases hy:y=0
 ·exact hy
 ·exfalso
  by_cases hx:x=0
  ·subst hx
   rw[XD]at h
   have:=Int.mul_le_mul_of_nonneg_left (sq_pos hy) (show 0≤c by omega)
   omega
  ·have:=Aar h0 h1 h2 h3 hx hy
   omega
def AeV{t:I4}(h:det t=1):Pt t.1 t.2.2.1:=fun⟨h1,h2⟩=>by
 obtain⟨p,q,r,s⟩:=t
 simp only[det]at h h1 h2
 rw[h1,h2]at h
 simp at h
def BZ{f:I3}{t:I4}(h:det t=1):mov (mov f t) (Ba t)=f:=by rw[Ay,KJ h,Dl]
def Abd{x:Int}(h:x*x=1):x=1∨x=-1:=by
 rcases Int.lt_or_le x 0 with z|z
 ·have:(-x)*(-x)=1:=by grind
  rcases Int.lt_or_le (-x) 2 with w|w
  ·exact .inr ∅
  ·have:=Int.mul_le_mul w w ⋯ ∅
   omega
 ·rcases Int.lt_or_le x 2 with w|w
  ·rcases Int.lt_or_le x 1 with v|v
   ·have:x=0:=∅
    rw[this]at h;simp at h
   ·exact .inl ∅
  ·have:=Int.mul_le_mul w w ⋯ z
   omega
theorem Cq.fix{f:I3}{t:I4}(L:Cq f)(M:Cq (mov f t))(h:det t=1)(ha:(mov f t).1=f.1)(hc:f.1<f.2.2):t=(1,0,0,1)∨t=(-1,0,0,-1):=by
 obtain⟨a,b,c⟩:=f
 obtain⟨p,q,r,s⟩:=t
 have e1:(mov (a,b,c) (p,q,r,s)).1=val (a,b,c) (p,r):=rfl
 have hr:r=0:=L.low (x:=p) (by rw[←e1,ha];exact hc)
 subst hr
 rw[e1,LQ]at ha
 have h0:0<a:=L.pos
 simp only at ha
 have hpp:p*p=1:=by
  have:a*(p*p)=a*1:=by rw[ha];omega
  exact Int.eq_of_mul_eq_mul_left ∅ this
 have hps:p*s=1:=by simp only[det]at h;omega
 have hb:(mov (a,b,c) (p,q,0,s)).2.1=2*(a*(p*q))+b:=by
  show 2*a*p*q+b*(p*s+q*0)+2*c*0*s=_
  rw[hps];grind
 have m1:-a≤2*(a*(p*q))+b:=by
  have:=M.lo
  rw[hb,e1,LQ,hpp]at this
  omega
 have m2:2*(a*(p*q))+b≤a:=by
  have:=M.hi
  rw[hb,e1,LQ,hpp]at this
  omega
 have m3:2*(a*(p*q))+b=-a→0≤2*(a*(p*q))+b:=fun z=>by
  have:=M.edge (.inl (by rw[hb,e1,LQ,hpp];omega))
  rw[hb]at this
  exact this
 have l1:-a≤b:=L.lo
 have l2:b≤a:=L.hi
 have l3:b=-a→0≤b:=fun z=>L.edge (.inl z)
 have hq:p*q=0:=by
  generalize p*q=k at *
  rcases Int.lt_trichotomy k 0 with z|z|z
  ·have:=Int.mul_le_mul_of_nonneg_left (show k≤-1 by omega) (show 0≤a by omega)
   omega
  ·exact z
  ·have:=Int.mul_le_mul_of_nonneg_left (show 1≤k by omega) (show 0≤a by omega)
   omega
 rcases Abd hpp with rfl|rfl
 ·have h1:q=0:=∅
  have h2:s=1:=∅
  rw[h1,h2];exact .inl rfl
 ·have h1:q=0:=∅
  have h2:s=-1:=∅
  rw[h1,h2];exact .inr rfl
theorem Cq.one{f:I3}{t:I4}(L:Cq f)(M:Cq (mov f t))(h:det t=1):mov f t=f:=by
 have d1:f.1≤(mov f t).1:=by
  have e1:(mov f t).1=val f (t.1,t.2.2.1):=rfl
  rw[e1];exact L.min (AeV h)
 have hk:det (Ba t)=1:=Ef.trans h
 have d2:(mov f t).1≤f.1:=by
  have:=M.min (AeV hk)
  have e1:(mov (mov f t) (Ba t)).1=val (mov f t) ((Ba t).1,(Ba t).2.2.1):=rfl
  rw[←e1,BZ h]at this
  exact this
 have ha:(mov f t).1=f.1:=∅
 have hm:=Bl (f:=f) h
 by_cases hc:f.1<f.2.2
 ·rcases L.fix M h ha hc with e|e
  ·rw[e,Dl]
  ·rw[e]
   obtain⟨a,b,c⟩:=f
   simp only[mov,val,mid,Prod.mk.injEq]
   refine⟨?_,?_,?_⟩<;>grind
 ·by_cases hc':(mov f t).1<(mov f t).2.2
  ·exfalso
   have L':Cq (mov (mov f t) (Ba t)):=by rw[BZ h];exact L
   have ha':(mov (mov f t) (Ba t)).1=(mov f t).1:=by rw[BZ h];exact ha.symm
   rcases M.fix L' hk ha' hc' with e|e
   ·have:f=mov f t:=by
     have z:=BZ (f:=f) h
     rw[e,Dl]at z
     exact z.symm
    rw[←this]at hc'
    exact hc hc'
   ·have:f=mov f t:=by
     have z:=BZ (f:=f) h
     rw[e]at z
     have z2:mov (mov f t) (-1,0,0,-1)=mov f t:=by
      obtain⟨a,b,c⟩:=mov f t
      simp only[mov,val,mid,Prod.mk.injEq]
      refine⟨?_,?_,?_⟩<;>grind
     rw[z2]at z
     exact z.symm
    rw[←this]at hc'
    exact hc hc'
  ·have l3:=L.ac
   have m3:=M.ac
   have l5:=L.edge (.inr ∅)
   have m5:=M.edge (.inr ∅)
   have l0:=L.pos
   have e2:f.2.2=f.1:=∅
   have e3:(mov f t).2.2=f.1:=∅
   generalize mov f t=g at *
   obtain⟨a,b,c⟩:=f
   obtain⟨a',b',c'⟩:=g
   simp only at *
   subst ha e2 e3
   simp only[meas]at hm
   have hbb:b'*b'=b*b:=∅
   have:b'=b:=by
    rcases Int.lt_trichotomy b' b with z|z|z
    ·have z1:b'*b'≤b'*b:=Int.mul_le_mul_of_nonneg_left ∅ m5
     have z2:b'*b<b*b:=Int.mul_lt_mul_of_pos_right z ∅
     omega
    ·exact z
    ·have z1:b*b≤b*b':=Int.mul_le_mul_of_nonneg_left ∅ l5
     have z2:b*b'<b'*b':=Int.mul_lt_mul_of_pos_right z ∅
     omega
   rw[this]
def AkO(ns:List Int)(lo hi:Option Int):∃cs:List Int,cutD (ns.map Dt.int) lo hi=cs.map Dt.int∧cs.length≤ns.length:=by
 refine⟨(ns.drop (HT.sIx (ns.map Dt.int).length 0 lo)).take (HT.sIx (ns.map Dt.int).length (ns.map Dt.int).length hi-HT.sIx (ns.map Dt.int).length 0 lo),by unfold cutD;rw[List.map_take,List.map_drop],?_⟩
 rw[List.length_take,List.length_drop];omega
def Ci(x:Int){m:Int}(h:0<m):0≤x.fmod m∧x.fmod m<m:=⟨Int.fmod_nonneg_of_pos x h,Int.fmod_lt_of_pos x h⟩
def Aam{zs:List Int}{k:Int}{P:Int→Prop}(h0:0≤k)(h1:k<zs.length)(hP:∀z∈zs,P z):∃z,ixD k (.lst (zs.map Dt.int))=some (.int z)∧P z:=by
 refine⟨_,ZW h0 h1,hP _ ?_⟩
 have:k.toNat<zs.length:=∅
 simp[this]
theorem sq_nonneg(x:Int):0≤x*x:=by
 rcases Int.le_total 0 x with h|h
 ·exact Int.mul_nonneg h h
 ·exact Int.mul_nonneg_of_nonpos_of_nonpos h h
def Afc(ns:List Int)(lo hi:Option Int):∃cs:List Int,cutD (ns.map Dt.int) lo hi=cs.map Dt.int∧cs.length≤ns.length∧∀n∈cs,n∈ns:=by
 refine⟨(ns.drop (HT.sIx (ns.map Dt.int).length 0 lo)).take (HT.sIx (ns.map Dt.int).length (ns.map Dt.int).length hi-HT.sIx (ns.map Dt.int).length 0 lo),by unfold cutD;rw[List.map_take,List.map_drop],?_,fun n h=>List.mem_of_mem_drop (List.mem_of_mem_take h)⟩
 rw[List.length_take,List.length_drop];omega
def Bv(f:I3):Prop:=0<f.1∧meas f<0
def stands(f:I3):Bool:=decide (-f.1≤f.2.1∧f.2.1≤f.1∧f.1≤f.2.2)&&(decide (0≤f.2.1)||(decide (f.2.1≠-f.1)&&decide (f.1≠f.2.2)))
def Bp{f:I3}(h:0<f.1)(s:stands f=true):Cq f:=by
 simp only[stands,Bool.and_eq_true,Bool.or_eq_true,decide_eq_true_eq]at s
 obtain⟨⟨h1,h2,h3⟩,h4⟩:=s
 exact⟨h,h1,h2,h3,fun z=>by rcases h4 with h4|⟨h4,h5⟩;exact h4;rcases z with z|z;exact absurd z h4;exact absurd z h5⟩
theorem Cq.bowl{f:I3}(L:Cq f):Bv f:=by
 obtain⟨a,b,c⟩:=f
 refine⟨L.pos,?_⟩
 have h0:0<a:=L.pos
 have h1:-a≤b:=L.lo
 have h2:b≤a:=L.hi
 have h3:a≤c:=L.ac
 have h4:b*b≤a*a:=by
  have e1:(b.natAbs:Int)*b.natAbs=b*b:=Int.natAbs_mul_self' b
  have:=Int.mul_le_mul (show(b.natAbs:Int)≤a by omega) (show(b.natAbs:Int)≤a by omega) ∅ ∅
  omega
 have h5:a*a≤a*c:=Int.mul_le_mul_of_nonneg_left h3 ∅
 have h6:1≤a*a:=sq_pos ∅
 show b*b-4*a*c<0
 have e:4*a*c=4*(a*c):=by grind
 omega
theorem Cq.bt{f:I3}{n:Nat}(L:Cq f)(h:Bt n (meas f)):B3 n f:=by
 obtain⟨a,b,c⟩:=f
 have h0:0<a:=L.pos
 have h1:-a≤b:=L.lo
 have h2:b≤a:=L.hi
 have h3:a≤c:=L.ac
 have h4:b*b≤a*a:=by
  have e1:(b.natAbs:Int)*b.natAbs=b*b:=Int.natAbs_mul_self' b
  have:=Int.mul_le_mul (show(b.natAbs:Int)≤a by omega) (show(b.natAbs:Int)≤a by omega) ∅ ∅
  omega
 have h5:a*a≤a*c:=Int.mul_le_mul_of_nonneg_left h3 ∅
 have h6:1*c≤a*c:=Int.mul_le_mul_of_nonneg_right ∅ ∅
 have hm:meas (a,b,c)=b*b-4*(a*c):=by simp only[meas];grind
 have hc:Bt n c:=by unfold Bt at *;rw[hm]at h;omega
 refine⟨?_,?_,hc⟩
 ·show Bt n a
  unfold Bt at *;omega
 ·show Bt n b
  unfold Bt at *;omega
def oft(f:I3):Int:=(f.1-f.2.1).fdiv (2*f.1)
def Ea(f:I3):I4:=if oft f≠0 then(1,oft f,0,1)else(0,-1,1,0)
def T9{f:I3}:det (Ea f)=1:=by
 unfold Ea
 split<;>simp[det]
def W3{a b c k:Int}:mov (a,b,c) (1,k,0,1)=(a,b+2*a*k,a*k*k+b*k+c):=by
 simp only[mov,val,mid,Prod.mk.injEq]
 refine⟨?_,?_,?_⟩<;>grind
def VH{a b c:Int}:mov (a,b,c) (0,-1,1,0)=(c,-b,a):=by
 simp only[mov,val,mid,Prod.mk.injEq]
 refine⟨?_,?_,?_⟩<;>grind
def K3{a b:Int}(h:0<a):-a<b+2*a*((a-b).fdiv (2*a))∧b+2*a*((a-b).fdiv (2*a))≤a:=by
 rw[Int.fdiv_eq_ediv_of_nonneg _ ∅]
 have h1:=Int.lt_mul_ediv_self_add (x:=a-b) (show 0<2*a by omega)
 have h2:=Int.mul_ediv_self_le (x:=a-b) (k:=2*a) ∅
 omega
def Wx{a b:Int}(h:0<a)(z:(a-b).fdiv (2*a)=0):-a<b∧b≤a:=by
 have:=K3 (b:=b) h
 rw[z]at this
 omega
def msr(f:I3):Nat:=4*f.1.toNat+(if -f.1<f.2.1∧f.2.1≤f.1 then 0 else 2)+(if f.2.1<0 then 1 else 0)
def NQ{f:I3}(h:Bv f):0<f.2.2:=by
 obtain⟨a,b,c⟩:=f
 obtain⟨h0,h1⟩:=h
 simp only[meas]at h0 h1 ⊢
 rcases Int.lt_or_le 0 c with h|h
 ·exact h
 ·exfalso
  have h2:0≤b*b:=sq_nonneg b
  have h3:a*c≤a*0:=Int.mul_le_mul_of_nonneg_left h ∅
  have e:4*a*c=4*(a*c):=by grind
  omega
def J9{f:I3}{t:I4}(h:Bv f)(d:det t=1):Bv (mov f t):=by
 have hm:=Bl (f:=f) d
 refine⟨?_,by rw[hm];exact h.2⟩
 obtain⟨a,b,c⟩:=f
 obtain⟨p,q,r,s⟩:=t
 obtain⟨h0,h1⟩:=h
 show 0<val (a,b,c) (p,r)
 simp only[meas]at h0 h1
 have e:4*(a*val (a,b,c) (p,r))=(2*a*p+b*r)*(2*a*p+b*r)-(b*b-4*a*c)*(r*r):=by simp only[val];grind
 have z1:=sq_nonneg (2*a*p+b*r)
 have z2:0≤(4*a*c-b*b)*(r*r):=Int.mul_nonneg ∅ (sq_nonneg r)
 have e2:(4*a*c-b*b)*(r*r)=-((b*b-4*a*c)*(r*r)):=by grind
 rcases Int.lt_or_le 0 (val (a,b,c) (p,r))with h|h
 ·exact h
 ·exfalso
  have z3:a*val (a,b,c) (p,r)≤a*0:=Int.mul_le_mul_of_nonneg_left h ∅
  have hr:r*r=0:=by
   by_cases hr:r=0
   ·rw[hr];rfl
   ·exfalso
    have:=Int.mul_le_mul (show 1≤4*a*c-b*b by omega) (sq_pos hr) ∅ ∅
    omega
  have hr0:r=0:=by
   by_cases hr0:r=0
   ·exact hr0
   ·have:=sq_pos hr0;omega
  subst hr0
  have hp:p≠0:=fun hp=>by subst hp;simp[det]at d
  have hp1:=sq_pos hp
  have e3:val (a,b,c) (p,0)=a*(p*p):=LQ
  rw[e3]at h
  have:=Int.mul_le_mul_of_nonneg_left hp1 (show 0≤a by omega)
  omega
def AbO{f:I3}(h:Bv f)(s:stands f=false):msr (mov f (Ea f))<msr f:=by
 obtain⟨a,b,c⟩:=f
 have ha:0<a:=h.1
 have hc:0<c:=NQ h
 unfold Ea
 by_cases ho:oft (a,b,c)=0
 ·rw[if_neg (by simpa using ho),VH]
  have ⟨h1,h2⟩:-a<b∧b≤a:=Wx ha ho
  have hs:c<a∨(a=c∧b<0):=by
   simp only[stands,Bool.and_eq_false_iff,Bool.or_eq_false_iff,decide_eq_false_iff_not]at s
   omega
  unfold msr
  simp only
  rw[if_pos (show -a<b∧b≤a from⟨h1,h2⟩)]
  rcases hs with hs|⟨hs,hb⟩
  ·split<;>split<;>split<;>omega
  ·subst hs
   rw[if_pos (show -a < -b∧-b≤a by omega),if_pos hb,if_neg ∅]
   omega
 ·rw[if_pos ho,W3]
  have ⟨h1,h2⟩:=K3 (b:=b) ha
  have hn:¬(-a<b∧b≤a):=fun z=>ho (by
   show(a-b).fdiv (2*a)=0
   rw[Int.fdiv_eq_ediv_of_nonneg _ ∅]
   exact Int.ediv_eq_zero_of_lt ∅ ∅)
  unfold msr
  simp only
  show 4*a.toNat+(if -a<b+2*a*((a-b).fdiv (2*a))∧b+2*a*((a-b).fdiv (2*a))≤a then 0 else 2)+(if b+2*a*((a-b).fdiv (2*a))<0 then 1 else 0)<_
  rw[if_pos ⟨h1,h2⟩,if_neg hn]
  split<;>split<;>omega
def AcP{f:I3}{n:Nat}(h:Bv f)(s:stands f=false)(b1:Bt n f.1)(b2:Bt n f.2.1):Bt n (mov f (Ea f)).1∧Bt n (mov f (Ea f)).2.1:=by
 obtain⟨a,b,c⟩:=f
 have ha:0<a:=h.1
 have hc:0<c:=NQ h
 have b1:Bt n a:=b1
 have b2:Bt n b:=b2
 unfold Ea
 by_cases ho:oft (a,b,c)=0
 ·rw[if_neg (by simpa using ho),VH]
  have ⟨h1,h2⟩:-a<b∧b≤a:=Wx ha ho
  have hs:c≤a:=by
   simp only[stands,Bool.and_eq_false_iff,Bool.or_eq_false_iff,decide_eq_false_iff_not]at s
   omega
  refine⟨?_,b2.neg⟩
  show Bt n c
  unfold Bt at *;omega
 ·rw[if_pos ho,W3]
  have ⟨h1,h2⟩:=K3 (b:=b) ha
  refine⟨b1,?_⟩
  show Bt n (b+2*a*((a-b).fdiv (2*a)))
  unfold Bt at *;omega
def ZX{f:I3}{n m:Nat}(h:Bv f)(b1:Bt n f.1)(b2:Bt n f.2.1)(hm:Bt m (meas f)):B3 (n+n+m+1) f:=by
 obtain⟨a,b,c⟩:=f
 have ha:0<a:=h.1
 have hc:0<c:=NQ h
 refine⟨b1.le ∅,b2.le ∅,?_⟩
 have z:=(b2.mul b2).sub hm
 have e:b*b-meas (a,b,c)=4*(a*c):=by simp only[meas];grind
 have z1:1*c≤a*c:=Int.mul_le_mul_of_nonneg_right ∅ ∅
 have z':Bt (max (n+n) m+1) (4*(a*c)):=by rw[←e];exact z
 have z2:Bt (max (n+n) m+1) c:=by unfold Bt at *;omega
 exact z2.le ∅
def Aho{n:Nat}{x:Int}(h:x*x<2 ^ (2*n)):Bt n x:=by
 unfold Bt
 rcases Nat.lt_or_ge x.natAbs (2 ^ n)with z|z
 ·exact z
 ·exfalso
  have:=Nat.mul_le_mul z z
  rw[←Nat.pow_add,show n+n=2*n by omega]at this
  have e1:(x.natAbs:Int)*x.natAbs=x*x:=Int.natAbs_mul_self' x
  have:((2 ^ (2*n):Nat):Int)≤(x.natAbs:Int)*x.natAbs:=by exact_mod_cast this
  rw[e1]at this
  push_cast at this
  omega
def Xi{f:I3}{n m k:Nat}{x y:Int}(h:Bv f)(hb:B3 n f)(hv:Bt m (val f (x,y)))(hk:n+m+2≤2*k):B2 k (x,y):=by
 obtain⟨a,b,c⟩:=f
 have ha:0<a:=h.1
 have hc:0<c:=NQ h
 have hm:b*b-4*a*c<0:=h.2
 obtain⟨h1,h2,h3⟩:=hb
 have h4:Bt 3 4:=Bt.ak ⋯
 have e1:4*(a*val (a,b,c) (x,y))=(2*a*x+b*y)*(2*a*x+b*y)+(4*a*c-b*b)*(y*y):=by simp only[val];grind
 have e2:4*(c*val (a,b,c) (x,y))=(2*c*y+b*x)*(2*c*y+b*x)+(4*a*c-b*b)*(x*x):=by simp only[val];grind
 have k1:y*y≤4*(a*val (a,b,c) (x,y)):=by
  have z1:=sq_nonneg (2*a*x+b*y)
  have z2:=Int.mul_le_mul_of_nonneg_right (show 1≤4*a*c-b*b by omega) (sq_nonneg y)
  omega
 have k2:x*x≤4*(c*val (a,b,c) (x,y)):=by
  have z1:=sq_nonneg (2*c*y+b*x)
  have z2:=Int.mul_le_mul_of_nonneg_right (show 1≤4*a*c-b*b by omega) (sq_nonneg x)
  omega
 have up:∀{z w:Int},Bt n z→w≤4*(z*val (a,b,c) (x,y))→w<2 ^ (2*k):=fun{z w} hz hw=>by
  have h5:=hz.mul hv
  have h6:Bt (n+m) (z*val (a,b,c) (x,y)):=h5
  have h7:(4:Int)*2 ^ (n+m)≤2 ^ (2*k):=by
   have:(4:Int)*2 ^ (n+m)=2 ^ (n+m+2):=by rw[show n+m+2=(n+m)+1+1 from rfl,Int.pow_succ,Int.pow_succ];omega
   rw[this]
   have:=Nat.pow_le_pow_right (show 0<2 by decide) hk
   exact_mod_cast this
  unfold Bt at h6
  have h8:z*val (a,b,c) (x,y)<2 ^ (n+m):=by
   have:((z*val (a,b,c) (x,y)).natAbs:Int)<((2 ^ (n+m):Nat):Int):=by exact_mod_cast h6
   push_cast at this
   omega
  omega
 exact⟨Aho (up h3 k2),Aho (up h1 k1)⟩
def Aaj{f:I3}{t:I4}{n m k:Nat}(h:Bv f)(hb:B3 n f)(hg:B3 m (mov f t))(hk:n+m+2≤2*k):B4 k t:=by
 have p1:=Xi (x:=t.1) (y:=t.2.2.1) h hb hg.1 hk
 have p2:=Xi (x:=t.2.1) (y:=t.2.2.2) h hb hg.2.2 hk
 exact⟨p1.1,p2.1,p1.2,p2.2⟩
def Qo{f:I3}(h:oft f=0):Ea f=(0,-1,1,0):=by unfold Ea;rw[if_neg (by simpa using h)]
def QX{f:I3}(h:¬oft f=0):Ea f=(1,oft f,0,1):=by unfold Ea;rw[if_pos h]
def Aej{f:I3}{n:Nat}(h:0<f.1)(b1:Bt n f.1)(b2:Bt n f.2.1):B4 (n+1) (Ea f):=by
 obtain⟨a,b,c⟩:=f
 have h:0<a:=h
 have b1:Bt n a:=b1
 have b2:Bt n b:=b2
 have one:Bt (n+1) 1:=Bt.one.le ∅
 by_cases ho:oft (a,b,c)=0
 ·rw[Qo ho]
  exact⟨Bt.zero.le ∅,one.neg,one,Bt.zero.le ∅⟩
 ·rw[QX ho]
  refine⟨one,?_,Bt.zero.le ∅,one⟩
  have ⟨h1,h2⟩:=K3 (b:=b) h
  show Bt (n+1) ((a-b).fdiv (2*a))
  generalize (a-b).fdiv (2*a)=k at *
  have e:2*a*k=2*(a*k):=by grind
  have z:(k.natAbs:Int)≤((a*k).natAbs:Int):=by
   rw[Int.natAbs_mul]
   have:=Nat.mul_le_mul_right k.natAbs (show 1≤a.natAbs by omega)
   omega
  unfold Bt at *
  rw[Nat.pow_succ]
  omega
structure Sad(f:I3):Prop where
 no:¬Je (meas f)
 pos:0<meas f
 most:meas f≤4000
def Level(f:I3)(far:Int):Prop:=(0<f.2.1∧f.2.1≤far)∧far-f.2.1<2*(if f.1<0 then -f.1 else f.1)∧2*(if f.1<0 then -f.1 else f.1)≤far+f.2.1
instance {f:I3} {far:Int}:Decidable (Level f far):=by unfold Level;infer_instance
theorem Sad.mov{f:I3}{t:I4}(h:Sad f)(d:det t=1):Sad (mov f t):=by
 have e:=Bl (f:=f) d
 exact⟨by rw[e];exact h.no,by rw[e];exact h.pos,by rw[e];exact h.most⟩
abbrev ab(x:Int):Int:=if x<0 then -x else x
def Ar(x:Int):(0≤x∧ab x=x)∨(x<0∧ab x=-x):=by
 rcases Int.lt_or_le x 0 with h|h
 ·exact .inr ⟨h,if_pos h⟩
 ·exact .inl ⟨h,if_neg ∅⟩
def BL(x:Int):0≤ab x:=by rcases Ar x with⟨h,e⟩|⟨h,e⟩<;>omega
def Xl{n:Nat}{x:Int}(h:Bt n x):Bt n (ab x):=by
 rcases Ar x with⟨_,e⟩|⟨_,e⟩<;>rw[e]
 ·exact h
 ·exact h.neg
def Vz{n:Nat}{x y:Int}(h:Bt n y)(l:ab x≤ab y):Bt n x:=by
 unfold Bt at *
 rcases Ar x with⟨_,e⟩|⟨_,e⟩<;>rcases Ar y with⟨_,e'⟩|⟨_,e'⟩<;>omega
def T7{n:Nat}{x k:Int}(l:ab x≤k)(hk:k<2 ^ n):Bt n x:=by
 rcases Ar x with⟨_,e⟩|⟨_,e⟩<;>exact Bt.of ∅ ∅
def dB(f:I3)(top:Int):Int:=top-(top+f.2.1).fmod (2*ab f.2.2)
def kB(f:I3)(top:Int):Int:=(f.2.1+dB f top).fdiv (2*f.2.2)
def Ca(f:I3)(top:Int):I4:=(0,-1,1,kB f top)
def Cv{f:I3}{top:Int}:det (Ca f top)=1:=by simp[det,Ca]
def Kl{f:I3}{top:Int}(h:f.2.2≠0):top-2*ab f.2.2<dB f top∧dB f top≤top:=by
 have hc:0<2*ab f.2.2:=by rcases Ar f.2.2 with⟨_,e⟩|⟨_,e⟩<;>omega
 have:=Ci (top+f.2.1) hc
 unfold dB
 omega
def Iv{f:I3}{top:Int}(h:f.2.2≠0):2*f.2.2*kB f top=f.2.1+dB f top:=by
 unfold kB dB
 have e:=Int.fmod_def (top+f.2.1) (2*ab f.2.2)
 generalize (top+f.2.1).fdiv (2*ab f.2.2)=q at *
 have e1:f.2.1+(top-(top+f.2.1).fmod (2*ab f.2.2))=2*ab f.2.2*q:=∅
 rw[e1]
 rcases Ar f.2.2 with⟨_,e2⟩|⟨_,e2⟩
 ·rw[e2,Int.mul_fdiv_cancel_left _ ∅]
 ·have e3:2*ab f.2.2*q=2*f.2.2*(-q):=by rw[e2];grind
  rw[e3,Int.mul_fdiv_cancel_left _ ∅]
def Mu{f:I3}{top:Int}(h:f.2.2≠0):∃e,mov f (Ca f top)=(f.2.2,dB f top,e):=by
 have hk:=Iv (top:=top) h
 obtain⟨a,b,c⟩:=f
 refine⟨(mov (a,b,c) (Ca (a,b,c) top)).2.2,?_⟩
 have e1:(mov (a,b,c) (Ca (a,b,c) top)).1=c:=by simp only[mov,val,Ca];grind
 have e2:(mov (a,b,c) (Ca (a,b,c) top)).2.1=dB (a,b,c) top:=by
  simp only[mov,mid,Ca]
  simp only at hk
  generalize kB (a,b,c) top=k at *
  have:2*a*0 * -1+b*(0*k + -1*1)+2*c*1*k=2*c*k-b:=by grind
  omega
 ext1
 ·exact e1
 ·ext1
  ·exact e2
  ·rfl
def XQ{D far:Int}(r:Sq D far)(n:¬Je D):far*far<D:=by
 rcases Int.lt_or_le (far*far) D with h|h
 ·exact h
 ·exact absurd ⟨far,by have:=r.2.1;omega⟩ n
def Oe{D far:Int}(r:Sq D far)(m:D≤4000):far≤63:=by
 rcases Int.lt_or_le far 64 with h|h
 ·omega
 ·have:=Int.mul_le_mul h h ⋯ r.1
  have:=r.2.1
  omega
def Gg{f:I3}(S:Sad f):f.2.2≠0:=fun h=>S.no ⟨f.2.1,by
 obtain⟨a,b,c⟩:=f
 simp only at h
 subst h
 simp only[meas]
 omega⟩
def Ox{f:I3}(S:Sad f):f.1≠0:=fun h=>S.no ⟨f.2.1,by
 obtain⟨a,b,c⟩:=f
 simp only at h
 subst h
 simp only[meas]
 omega⟩
def Kh(x y:Int):ab x*ab y=ab (x*y):=by
 rcases Ar x with⟨h1,e1⟩|⟨h1,e1⟩<;>rcases Ar y with⟨h2,e2⟩|⟨h2,e2⟩<;>rw[e1,e2]
 ·have:=Int.mul_nonneg h1 h2
  exact(if_neg ∅).symm
 ·have:=Int.mul_nonneg h1 (show 0≤-y by omega)
  have e:x * -y=-(x*y):=by grind
  by_cases h:x*y<0
  ·rw[ab,if_pos h,e]
  ·rw[ab,if_neg h];omega
 ·have:=Int.mul_nonneg (show 0≤-x by omega) h2
  have e:-x*y=-(x*y):=by grind
  by_cases h:x*y<0
  ·rw[ab,if_pos h,e]
  ·rw[ab,if_neg h];omega
 ·have:=Int.mul_nonneg (show 0≤-x by omega) (show 0≤-y by omega)
  have e:-x * -y=x*y:=by grind
  rw[ab,if_neg ∅,e]
def J4{x k:Int}(h:ab x≤k):x*x≤k*k:=by
 have e:x*x=ab x*ab x:=by
  rcases Ar x with⟨_,e⟩|⟨_,e⟩<;>rw[e]
  grind
 rw[e]
 have:=BL x
 exact Int.mul_le_mul h h this ∅
theorem last_eq{c d e D:Int}(h:meas (c,d,e)=D):4*(ab c*ab e)=ab (d*d-D):=by
 have:d*d-D=4*(c*e):=by rw[←h];simp only[meas];grind
 rw[this,Kh]
 rcases Ar (c*e)with⟨h1,e1⟩|⟨h1,e1⟩
 ·rw[e1,ab,if_neg ∅]
 ·rw[e1,ab,if_pos ∅];omega
def Agu{c d e D far:Int}(r:Sq D far)(D0:0<D)(h:meas (c,d,e)=D)(hc:far<ab c)(h1:-ab c<d)(h2:d≤ab c):4*ab e≤ab c:=by
 have k:=last_eq h
 have hd:d*d≤ab c*ab c:=by
  refine J4 ?_
  rcases Ar d with⟨_,e1⟩|⟨_,e1⟩<;>omega
 have hD:D≤ab c*ab c:=by
  have:=Int.mul_le_mul (show far+1≤ab c by omega) (show far+1≤ab c by omega) (by have:=r.1;omega) (BL c)
  have:=r.2.2
  omega
 have h0:=sq_nonneg d
 have:ab (d*d-D)≤ab c*ab c:=by
  rcases Ar (d*d-D)with⟨_,e1⟩|⟨_,e1⟩<;>omega
 have hc0:0<ab c:=by have:=r.1;omega
 rcases Int.lt_or_le (ab c) (4*ab e)with z|z
 ·exfalso
  have:=Int.mul_lt_mul_of_pos_left z hc0
  have e2:ab c*(4*ab e)=4*(ab c*ab e):=by grind
  omega
 ·exact z
def Acd{c d e D far:Int}(r:Sq D far)(n:¬Je D)(h:meas (c,d,e)=D)(hc:ab c≤far)(hc2:far<2*ab c)(h1:far-2*ab c<d)(h2:d≤far):2*ab e≤far:=by
 have k:=last_eq h
 have hf:=XQ r n
 have hd:d*d≤far*far:=by
  refine J4 ?_
  rcases Ar d with⟨_,e1⟩|⟨_,e1⟩<;>omega
 have h0:=sq_nonneg d
 have hD:=r.2.2
 have:ab (d*d-D)<(far+1)*(far+1):=by
  rcases Ar (d*d-D)with⟨_,e1⟩|⟨_,e1⟩<;>omega
 rcases Int.lt_or_le far (2*ab e)with z|z
 ·exfalso
  have:=Int.mul_le_mul (show far+1≤2*ab c by omega) (show far+1≤2*ab e by omega) (by have:=r.1;omega) (by have:=BL c;omega)
  have e2:2*ab c*(2*ab e)=4*(ab c*ab e):=by grind
  omega
 ·exact z
def Z2{c d e far:Int}(hc:2*ab c≤far)(h1:far-2*ab c<d)(h2:d≤far):Level (c,d,e) far:=by
 refine⟨⟨?_,h2⟩,?_,?_⟩
 ·show 0<d;omega
 ·show far-d<2*ab c;omega
 ·show 2*ab c≤far+d;omega
def Ze{c d e D far:Int}(r:Sq D far)(hm:D≤4000)(D0:0<D)(h:meas (c,d,e)=D)(c0:c≠0)(hd:ab d≤far):ab e≤1000:=by
 have k:=last_eq h
 have h2:d*d≤far*far:=J4 hd
 have h0:=sq_nonneg d
 have h3:=r.2.1
 have:ab (d*d-D)≤4000:=by
  rcases Ar (d*d-D)with⟨_,e1⟩|⟨_,e1⟩<;>omega
 have hc:1≤ab c:=by rcases Ar c with⟨_,e1⟩|⟨_,e1⟩<;>omega
 have:=Int.mul_le_mul_of_nonneg_right hc (BL e)
 omega
def JF{f:I3}{far:Int}(r:Sq (meas f) far)(n:¬Je (meas f))(L:Level f far):far-f.2.1<2*ab f.2.2∧2*ab f.2.2≤far+f.2.1:=by
 obtain⟨a,b,c⟩:=f
 obtain⟨⟨l1,l2⟩,l3,l4⟩:=L
 have l1:0<b:=l1
 have l2:b≤far:=l2
 have l3:far-b<2*ab a:=l3
 have l4:2*ab a≤far+b:=l4
 show far-b<2*ab c∧2*ab c≤far+b
 have hf:=XQ r n
 have hD:=r.2.2
 have k:4*(ab a*ab c)=ab (b*b-meas (a,b,c)):=last_eq (c:=a) (d:=b) (e:=c) rfl
 generalize meas (a,b,c)=D at *
 have hb:b*b≤far*far:=Int.mul_le_mul l2 l2 ∅ ∅
 have k2:(2*ab a)*(2*ab c)=D-b*b:=by
  have e1:(2*ab a)*(2*ab c)=4*(ab a*ab c):=by grind
  rcases Ar (b*b-D)with⟨_,e⟩|⟨_,e⟩<;>omega
 generalize 2*ab a=A at *
 have hC0:0≤2*ab c:=by have:=BL c;omega
 generalize 2*ab c=C at *
 constructor
 ·rcases Int.lt_or_le (far-b) C with z|z
  ·exact z
  ·exfalso
   have z1:A*C≤(far+b)*(far-b):=Int.mul_le_mul l4 z hC0 ∅
   have e1:(far+b)*(far-b)=far*far-b*b:=by grind
   omega
 ·rcases Int.lt_or_le (far+b) C with z|z
  ·exfalso
   have z1:(far-b+1)*(far+b+1)≤A*C:=Int.mul_le_mul ∅ ∅ ∅ ∅
   have e1:(far-b+1)*(far+b+1)=(far+1)*(far+1)-b*b:=by grind
   omega
  ·exact z
def YT{f:I3}{far:Int}(S:Sad f)(r:Sq (meas f) far)(L:Level f far):Level (mov f (Ca f far)) far:=by
 have hc:=Gg S
 obtain⟨e,he⟩:=Mu (top:=far) hc
 rw[he]
 have ⟨d1,d2⟩:=Kl (top:=far) hc
 have ⟨c1,c2⟩:=JF r S.no L
 obtain⟨⟨l1,l2⟩,_,_⟩:=L
 have hk:=Iv (top:=far) hc
 have d3:far-2*ab f.2.2<dB f far:=d1
 by_cases hC:2*ab f.2.2≤far
 ·exact Z2 hC d1 d2
 ·
  have hd:dB f far=2*ab f.2.2-f.2.1:=by
   have e1:f.2.1+dB f far=2*(f.2.2*kB f far):=by rw[←hk];grind
   have hx:ab (f.2.2*kB f far)=ab f.2.2*ab (kB f far):=(Kh _ _).symm
   have hpos:0<f.2.2*kB f far:=∅
   have hx2:f.2.2*kB f far=ab f.2.2*ab (kB f far):=by rw[←hx,ab,if_neg ∅]
   have hk0:0<ab (kB f far):=by
    rcases Int.lt_or_le 0 (ab (kB f far))with z|z
    ·exact z
    ·have:ab (kB f far)=0:=by have:=BL (kB f far);omega
     rw[this]at hx2
     omega
   have hk1:ab (kB f far)=1:=by
    rcases Int.lt_or_le (ab (kB f far)) 2 with z|z
    ·omega
    ·exfalso
     have:=Int.mul_le_mul_of_nonneg_left z (BL f.2.2)
     omega
   rw[hk1]at hx2
   omega
  refine⟨⟨?_,d2⟩,?_,?_⟩
  ·show 0<dB f far;omega
  ·show far-dB f far<2*ab f.2.2;omega
  ·show 2*ab f.2.2≤far+dB f far;omega
def Kr{f:I3}{far:Int}(S:Sad f)(r:Sq (meas f) far)(L:Level f far):B3 7 f:=by
 have ⟨c1,c2⟩:=JF r S.no L
 have h6:=Oe r S.most
 obtain⟨⟨l1,l2⟩,l3,l4⟩:=L
 have l4:2*ab f.1≤far+f.2.1:=l4
 exact⟨T7 (k:=63) ∅ ⋯,Bt.of ∅ ∅,T7 (k:=63) ∅ ⋯⟩
abbrev bl(x:Int):Nat:=Builtin.Int.intBits x
def AaR{x:Int}:Bt (bl x) x:=intBits_le_iff.mp (Nat.le_refl _)
def AaI{n:Nat}{x:Int}(h:Bt n x):bl x≤n:=intBits_le_iff.mpr h
def Zj{x:Int}(h:x≠0):1≤bl x:=by
 rcases Nat.lt_or_ge 0 (bl x)with z|z
 ·exact z
 ·have:=AaR (x:=x)
  unfold Bt at this
  rw[show bl x=0 by omega]at this
  omega
def Ad1{x:Int}(h:x≠0):2 ^ (bl x-1)≤x.natAbs:=by
 rcases Nat.lt_or_ge x.natAbs (2 ^ (bl x-1))with z|z
 ·have:=AaI (n:=bl x-1) z
  have:=Zj h
  omega
 ·exact z
def Abw{x y:Int}(h:4*ab x≤ab y)(hy:y≠0):bl x+2≤bl y∨x=0:=by
 by_cases hx:x=0
 ·exact .inr hx
 ·refine .inl ?_
  have h1:=Ad1 hx
  have h2:=AaR (x:=y)
  unfold Bt at h2
  have p:=Zj hx
  rcases Nat.lt_or_ge (bl y) (bl x+2)with z|z
  ·exfalso
   have h3:2 ^ bl y≤2 ^ (bl x-1+2):=Nat.pow_le_pow_right ⋯ ∅
   rw[Nat.pow_add]at h3
   have h4:4*x.natAbs≤y.natAbs:=by
    rcases Ar x with⟨_,e⟩|⟨_,e⟩<;>rcases Ar y with⟨_,e'⟩|⟨_,e'⟩<;>omega
   omega
  ·exact z
def Xh{b c d k:Int}{x:Nat}(hc:c≠0)(hb:Bt x b)(hx:bl c≤x)(hd:ab d≤ab c)(hk:2*c*k=b+d):Bt (x+1-bl c) k:=by
 have h1:=Ad1 hc
 have h2:=AaR (x:=c)
 have hp:=Zj hc
 unfold Bt at *
 have e1:2*(c.natAbs*k.natAbs)=(b+d).natAbs:=by
  rw[←hk,Int.mul_assoc,Int.natAbs_mul,Int.natAbs_mul];rfl
 have e2:(b+d).natAbs<2 ^ x+2 ^ bl c:=by
  rcases Ar d with⟨_,e⟩|⟨_,e⟩<;>rcases Ar c with⟨_,e'⟩|⟨_,e'⟩<;>omega
 have e3:2 ^ bl c≤2 ^ x:=Nat.pow_le_pow_right ⋯ hx
 rcases Nat.lt_or_ge k.natAbs (2 ^ (x+1-bl c))with z|z
 ·exact z
 ·exfalso
  have:=Nat.mul_le_mul h1 z
  rw[←Nat.pow_add,show bl c-1+(x+1-bl c)=x by omega]at this
  omega
def Qj{f:I3}{top:Int}{m:Nat}(h:Bt m (kB f top))(hm:1≤m):B4 m (Ca f top):=⟨Bt.zero.le ∅,(Bt.one.le hm).neg,Bt.one.le hm,h⟩
def K4(n:Nat)(far:Int)(f0:I3)(t:I4):Prop :=
 det t=1∧B3 n (mov f0 t) ∧
 (if far<ab (mov f0 t).2.2 then ∃β x,B4 β t∧Bt x (mov f0 t).2.1∧bl (mov f0 t).2.2≤x∧β+x+bl (mov f0 t).2.2≤2*n+1
  else if Level (mov f0 t) far then B4 (5*n+30) t else if far<2*ab (mov f0 t).2.2 then B4 (3*n+10) t else B4 (4*n+20) t)
def eM(far:Int)(f:I3):Nat:=if far<ab f.2.2 then(ab f.2.2).toNat+3 else if Level f far then 0 else if far<2*ab f.2.2 then 2 else 1
theorem K4.b4{n:Nat}{far:Int}{f0:I3}{t:I4}(h:K4 n far f0 t):B4 (5*n+30) t:=by
 obtain⟨_,_,h⟩:=h
 split at h
 ·obtain⟨β,x,hb,_,_,_⟩:=h
  exact hb.le ∅
 ·split at h
  ·exact h
  ·split at h
   ·exact h.le ∅
   ·exact h.le ∅
theorem K4.start{n:Nat}{far:Int}{f:I3}(hn:1≤n)(hf:B3 n f):K4 n far f (1,0,0,1):=by
 have one:B4 1 (1,0,0,1):=⟨Bt.one,Bt.zero.le ∅,Bt.zero.le ∅,Bt.one⟩
 unfold K4
 rw[Dl]
 refine⟨rfl,hf,?_⟩
 split
 ·exact⟨1,n,one,hf.2.1,AaI hf.2.2,by have:=AaI hf.2.2;omega⟩
 ·split
  ·exact one.le ∅
  ·split
   ·exact one.le ∅
   ·exact one.le ∅
def KN{n:Nat}{far:Int}{f0:I3}{t:I4}(hn:12≤n)(S:Sad f0)(r:Sq (meas f0) far)(I:K4 n far f0 t)(nl:¬Level (mov f0 t) far) :
  K4 n far f0 (Ak t (Ca (mov f0 t) (if far>ab (mov f0 t).2.2 then far else ab (mov f0 t).2.2))) ∧
  eM far (mov f0 (Ak t (Ca (mov f0 t) (if far>ab (mov f0 t).2.2 then far else ab (mov f0 t).2.2))))<eM far (mov f0 t) ∧
  B4 (n+3) (Ca (mov f0 t) (if far>ab (mov f0 t).2.2 then far else ab (mov f0 t).2.2)):=by
 have hb4:=I.b4
 obtain⟨hd,hb,hI⟩:=I
 have Sf:=S.mov hd
 have hm:=Bl (f:=f0) hd
 have rf:Sq (meas (mov f0 t)) far:=by rw[hm];exact r
 have f63:=Oe rf Sf.most
 have rG:=r.1
 simp only[K4,←Ay]
 rw[BR,hd,Cv]
 generalize hf:mov f0 t=f at *
 have hc:=Gg Sf
 have c1:1≤ab f.2.2:=by rcases Ar f.2.2 with⟨_,e1⟩|⟨_,e1⟩<;>omega
 by_cases h1:far<ab f.2.2
 ·
  rw[if_pos h1]at hI
  obtain⟨β,x,hβ,hx,hlx,hsum⟩:=hI
  rw[if_neg (show ¬far>ab f.2.2 by omega)]
  have ⟨d1,d2⟩:=Kl (top:=ab f.2.2) hc
  have hk:=Iv (top:=ab f.2.2) hc
  obtain⟨e,he⟩:=Mu (top:=ab f.2.2) hc
  have hme:meas (f.2.2,dB f (ab f.2.2),e)=meas f:=by rw[←he,Bl Cv]
  have hdc:ab (dB f (ab f.2.2))≤ab f.2.2:=by rcases Ar (dB f (ab f.2.2))with⟨_,e1⟩|⟨_,e1⟩<;>omega
  have h4:=Agu rf Sf.pos hme h1 ∅ d2
  have kbt:=Xh hc hx hlx hdc hk
  have k1:1≤x+1-bl f.2.2:=∅
  have ou:=Qj kbt k1
  have hxn:bl f.2.2≤n:=AaI hb.2.2
  have hS':=Sf.mov (t:=Ca f (ab f.2.2)) Cv
  rw[he]at hS'
  have he0:e≠0:=Gg hS'
  have uQ:=(Abw h4 hc).resolve_right he0
  have hβ':=B4.then hβ ou
  rw[he]
  refine⟨⟨rfl,⟨hb.2.2,Vz hb.2.2 hdc,Vz hb.2.2 (show ab e≤ab f.2.2 by have:=BL e;omega)⟩,?_⟩,?_,?_⟩
  ·show if far<ab e then _ else _
   split
   ·refine⟨_,bl f.2.2,hβ',?_,?_,?_⟩
    ·exact Vz AaR hdc
    ·show bl e≤bl f.2.2;omega
    ·show _+bl f.2.2+bl e≤_;omega
   ·split
    ·exact hβ'.le ∅
    ·split
     ·exact hβ'.le ∅
     ·exact hβ'.le ∅
  ·unfold eM
   rw[if_pos h1]
   show(if far<ab e then(ab e).toNat+3 else _)<_
   split
   ·have:=BL e;omega
   ·split
    ·omega
    ·split<;>omega
  ·
   have:Bt (n+1-bl f.2.2) (kB f (ab f.2.2)):=Xh hc hb.2.1 hxn hdc hk
   exact(Qj this ∅).le ∅
 ·rw[if_neg h1,if_neg nl]at hI
  have etop:(if far>ab f.2.2 then far else ab f.2.2)=far:=by split<;>omega
  rw[etop]
  have ⟨d1,d2⟩:=Kl (top:=far) hc
  have hk:=Iv (top:=far) hc
  obtain⟨e,he⟩:=Mu (top:=far) hc
  have hme:meas (f.2.2,dB f far,e)=meas f:=by rw[←he,Bl Cv]
  have hdf:ab (dB f far)≤far:=by rcases Ar (dB f far)with⟨_,e1⟩|⟨_,e1⟩<;>omega
  have hel:=Ze rf Sf.most Sf.pos hme hc hdf
  have kb:Bt (n+2) (kB f far):=by
   have e1:2*(ab f.2.2*ab (kB f far))=ab (f.2.1+dB f far):=by
    rw[←hk,Kh]
    have:2*f.2.2*kB f far=2*(f.2.2*kB f far):=by grind
    rw[this]
    rcases Ar (f.2.2*kB f far)with⟨h1,e1⟩|⟨h1,e1⟩
    ·rw[e1,ab,if_neg ∅]
    ·rw[e1,ab,if_pos ∅];omega
   have e2:=Int.mul_le_mul_of_nonneg_right c1 (BL (kB f far))
   have e3:Bt (n+1) (f.2.1+dB f far):=by
    have:=(hb.2.1).add (show Bt 7 (dB f far)from T7 (k:=63) ∅ ⋯)
    exact this.le ∅
   refine Bt.le (n:=n+1) (Vz e3 ?_) ∅
   have:=BL (kB f far)
   omega
  have ou:=Qj kb ∅
  rw[he]
  have hB:B3 n (f.2.2,dB f far,e):=⟨hb.2.2,Bt.le (n:=7) (T7 (k:=63) (show ab (dB f far)≤63 by omega) ⋯) ∅,Bt.le (n:=12) (T7 (x:=e) hel ⋯) ∅⟩
  by_cases h2:far<2*ab f.2.2
  ·rw[if_pos h2]at hI
   have hβ':=B4.then hI ou
   have hh:=Acd rf Sf.no hme ∅ h2 ∅ d2
   have h3:¬far<ab e:=by have:=BL e;omega
   refine⟨⟨rfl,hB,?_⟩,?_,ou.le ∅⟩
   ·show if far<ab e then _ else _
    rw[if_neg h3]
    split
    ·exact hβ'.le ∅
    ·rw[if_neg (show ¬far<2*ab (f.2.2,dB f far,e).2.2 by show ¬far<2*ab e;omega)]
     exact hβ'.le ∅
   ·unfold eM
    rw[if_neg h1,if_neg nl,if_pos h2]
    show(if far<ab e then _ else _)<2
    rw[if_neg h3]
    split
    ·omega
    ·rw[if_neg (show ¬far<2*ab (f.2.2,dB f far,e).2.2 by show ¬far<2*ab e;omega)]
     omega
  ·rw[if_neg h2]at hI
   have hβ':=B4.then hI ou
   have hL:Level (f.2.2,dB f far,e) far:=Z2 ∅ d1 d2
   have h3:¬far<ab e:=by
    have:=(JF (f:=(f.2.2,dB f far,e)) (by rw[hme];exact rf) (by rw[hme];exact Sf.no) hL).2
    simp only at this
    omega
   refine⟨⟨rfl,hB,?_⟩,?_,ou.le ∅⟩
   ·show if far<ab e then _ else _
    rw[if_neg h3,if_pos hL]
    exact hβ'.le ∅
   ·unfold eM
    rw[if_neg h1,if_neg nl,if_neg h2]
    show(if far<ab e then _ else _)<1
    rw[if_neg h3,if_pos hL]
    omega
def Riv(f:I3):Prop:=(0<f.1∧f.2.2<0)∧¬Je (meas f)
abbrev tR:I4:=(1,1,0,1)
abbrev tL:I4:=(1,0,1,1)
def sm(f:I3):Int:=f.1+f.2.1+f.2.2
def Aep{a b c:Int}:mov (a,b,c) tR=(a,b+2*a,a+b+c):=by
 simp only[mov,val,mid,Prod.mk.injEq]
 refine⟨?_,?_,?_⟩<;>grind
def Ab8{a b c:Int}:mov (a,b,c) tL=(a+b+c,b+2*c,c):=by
 simp only[mov,val,mid,Prod.mk.injEq]
 refine⟨?_,?_,?_⟩<;>grind
def AhD{f:I3}(n:¬Je (meas f)):sm f≠0:=fun h=>n ⟨f.1-f.2.2,by
 obtain⟨a,b,c⟩:=f
 simp only[sm,meas]at *
 have:b=-(a+c):=∅
 subst this
 grind⟩
def stT(f:I3):I4:=if sm f<0 then tR else tL
def nx(f:I3):I3:=mov f (stT f)
def AiZ{f:I3}:det (stT f)=1:=by unfold stT;split<;>rfl
theorem Riv.next{f:I3}(h:Riv f):Riv (nx f):=by
 have hm:=Bl (f:=f) (AiZ (f:=f))
 refine⟨?_,by unfold nx;rw[hm];exact h.2⟩
 have hs:=AhD h.2
 obtain⟨a,b,c⟩:=f
 obtain⟨⟨h1,h2⟩,_⟩:=h
 by_cases h:sm (a,b,c)<0
 ·have e:nx (a,b,c)=(a,b+2*a,a+b+c):=by unfold nx;rw[show stT (a,b,c)=tR from if_pos h];exact Aep
  rw[e];exact⟨h1,h⟩
 ·have e:nx (a,b,c)=(a+b+c,b+2*c,c):=by unfold nx;rw[show stT (a,b,c)=tL from if_neg h];exact Ab8
  rw[e]
  refine⟨?_,h2⟩
  simp only[sm]at h hs ⊢
  omega
structure NN(t:I4):Prop where
 p:1≤t.1
 q:0≤t.2.1
 r:0≤t.2.2.1
 s:1≤t.2.2.2
 d:det t=1
def sz(t:I4):Nat:=(t.1+t.2.1+t.2.2.1+t.2.2.2).toNat
theorem NN.split{t:I4}(h:NN t):t=(1,0,0,1)∨(∃u,NN u∧t=Ak tR u∧sz u<sz t)∨(∃u,NN u∧t=Ak tL u∧sz u<sz t):=by
 obtain⟨p,q,r,s⟩:=t
 obtain⟨hp,hq,hr,hs,hd⟩:=h
 simp only[det]at *
 by_cases c1:r≤p∧s≤q
 ·refine .inr (.inl ⟨(p-r,q-s,r,s),⟨?_,by simp only;omega,hr,hs,?_⟩,?_,?_⟩)
  ·show 1≤p-r
   have e:(p-r)*s-(q-s)*r=1:=by grind
   have z:=Int.mul_nonneg (show 0≤q-s by omega) hr
   rcases Int.lt_or_le (p-r) 1 with w|w
   ·have:(p-r)*s≤0*s:=Int.mul_le_mul_of_nonneg_right ∅ ∅
    omega
   ·exact w
  ·show(p-r)*s-(q-s)*r=1
   grind
  ·simp only[Ak,Prod.mk.injEq]
   refine⟨?_,?_,?_,?_⟩<;>omega
  ·simp only[sz];omega
 ·by_cases c2:p≤r∧q≤s
  ·refine .inr (.inr ⟨(p,q,r-p,s-q),⟨hp,hq,by simp only;omega,?_,?_⟩,?_,?_⟩)
   ·show 1≤s-q
    have e:p*(s-q)-q*(r-p)=1:=by grind
    have z:=Int.mul_nonneg hq (show 0≤r-p by omega)
    rcases Int.lt_or_le (s-q) 1 with w|w
    ·have:p*(s-q)≤p*0:=Int.mul_le_mul_of_nonneg_left ∅ ∅
     omega
    ·exact w
   ·show p*(s-q)-q*(r-p)=1
    grind
   ·simp only[Ak,Prod.mk.injEq]
    refine⟨?_,?_,?_,?_⟩<;>omega
   ·simp only[sz];omega
  ·rcases Int.lt_or_le r p with w|w
   ·
    have w2:q<s:=∅
    have z:=Int.mul_le_mul (show r+1≤p by omega) (show q+1≤s by omega) ∅ ∅
    have e:(r+1)*(q+1)=r*q+r+q+1:=by grind
    have e2:r*q=q*r:=Int.mul_comm r q
    have r0:r=0:=∅
    have q0:q=0:=∅
    subst r0 q0
    left
    have hps:p*s=1:=∅
    have p1:p=1:=by
     rcases Int.lt_or_le p 2 with v|v
     ·omega
     ·have:=Int.mul_le_mul v hs ⋯ ∅
      omega
    subst p1
    have:s=1:=∅
    rw[this]
   ·
    have w2:s<q:=∅
    have w3:p<r:=by
     rcases Int.lt_or_le p r with v|v
     ·exact v
     ·have:p=r:=∅
      subst this
      exfalso
      have e:p*s-q*p=p*(s-q):=by grind
      have:=Int.mul_le_mul_of_nonneg_left (show s-q≤-1 by omega) (show 0≤p by omega)
      omega
    exfalso
    have z:=Int.mul_le_mul (show p≤r-1 by omega) (show s≤q-1 by omega) ∅ ∅
    have e:(r-1)*(q-1)=q*r-r-q+1:=by grind
    omega
def wd:Nat→I3→I4
 |0,_=>(1,0,0,1)
 |n+1,f=>Ak (stT f) (wd n (nx f))
def nxs:Nat→I3→I3
 |0,f=>f
 |n+1,f=>nxs n (nx f)
def Jj{t:I4}:Ak (1,0,0,1) t=t:=by
 obtain⟨p,q,r,s⟩:=t
 simp only[Ak,Prod.mk.injEq]
 refine⟨?_,?_,?_,?_⟩<;>omega
def Eo{t:I4}:Ak t (1,0,0,1)=t:=by
 obtain⟨p,q,r,s⟩:=t
 simp only[Ak,Prod.mk.injEq]
 refine⟨?_,?_,?_,?_⟩<;>omega
theorem then_assoc{t u v:I4}:Ak (Ak t u) v=Ak t (Ak u v):=by
 obtain⟨a,b,c,d⟩:=t;obtain⟨e,f,g,h⟩:=u;obtain⟨i,j,k,l⟩:=v
 simp only[Ak,Prod.mk.injEq]
 refine⟨?_,?_,?_,?_⟩<;>grind
theorem Lz:∀(n:Nat)(f:I3),mov f (wd n f)=nxs n f
 |0,f=>Dl
 |n+1,f=>by rw[wd,←Ay];exact Lz n (nx f)
def ZR{a b c x y:Int}(ha:0<a)(hb:0<b)(hc:0<c)(hx:0≤x)(hy:0≤y):0≤val (a,b,c) (x,y):=by
 have e:val (a,b,c) (x,y)=a*(x*x)+b*(x*y)+c*(y*y):=by simp only[val];grind
 have h1:=Int.mul_nonneg (show 0≤a by omega) (Int.mul_nonneg hx hx)
 have h2:=Int.mul_nonneg (show 0≤b by omega) (Int.mul_nonneg hx hy)
 have h3:=Int.mul_nonneg (show 0≤c by omega) (Int.mul_nonneg hy hy)
 omega
theorem neg_val{a b c x y:Int}(ha:a<0)(hb:b<0)(hc:c<0)(hx:0≤x)(hy:0≤y):val (a,b,c) (x,y)≤0:=by
 have:=ZR (a:=-a) (b:=-b) (c:=-c) ∅ ∅ ∅ hx hy
 have e:val (-a,-b,-c) (x,y)=-val (a,b,c) (x,y):=by simp only[val];grind
 omega
theorem along:∀(m:Nat)(f:I3)(t:I4),sz t≤m→Riv f→NN t→Riv (mov f t)→∃n,t=wd n f:=by
 intro m
 induction m with
 | zero =>
  intro f t hs _ hN _
  exfalso
  have:=hN.p;have:=hN.q;have:=hN.r;have:=hN.s
  unfold sz at hs
  omega
 | succ m ih =>
  intro f t hs hf hN hg
  rcases hN.split with e|⟨u,hu,e,hl⟩|⟨u,hu,e,hl⟩
  ·exact⟨0,e⟩
  ·have hsm:sm f<0:=by
    have hne:=AhD hf.2
    rcases Int.lt_or_le (sm f) 0 with z|z
    ·exact z
    ·exfalso
     rw[e,←Ay]at hg
     obtain⟨a,b,c⟩:=f
     obtain⟨p,q,r,s⟩:=u
     rw[Aep]at hg
     have h1:(mov (a,b+2*a,a+b+c) (p,q,r,s)).2.2<0:=hg.1.2
     have h2:0<a:=hf.1.1
     have h3:c<0:=hf.1.2
     simp only[sm]at hne z
     have h4:0≤val (a,b+2*a,a+b+c) (q,s):=ZR h2 ∅ ∅ hu.q (by have:=hu.s;simp only at this;omega)
     have h5:(mov (a,b+2*a,a+b+c) (p,q,r,s)).2.2=val (a,b+2*a,a+b+c) (q,s):=rfl
     omega
   have hst:stT f=tR:=by unfold stT;rw[if_pos hsm]
   have hnx:nx f=mov f tR:=by unfold nx;rw[hst]
   have hr:=hf.next
   obtain⟨n,en⟩:=ih (nx f) u ∅ hr hu (by rw[hnx,Ay,←e];exact hg)
   exact⟨n+1,by rw[wd,hst,←en];exact e⟩
  ·have hsm:¬sm f<0:=by
    intro z
    rw[e,←Ay]at hg
    obtain⟨a,b,c⟩:=f
    obtain⟨p,q,r,s⟩:=u
    rw[Ab8]at hg
    have h1:0<(mov (a+b+c,b+2*c,c) (p,q,r,s)).1:=hg.1.1
    have h2:0<a:=hf.1.1
    have h3:c<0:=hf.1.2
    simp only[sm]at z
    have h4:val (a+b+c,b+2*c,c) (p,r)≤0:=neg_val ∅ ∅ h3 (by have:=hu.p;simp only at this;omega) hu.r
    have h5:(mov (a+b+c,b+2*c,c) (p,q,r,s)).1=val (a+b+c,b+2*c,c) (p,r):=rfl
    omega
   have hst:stT f=tL:=by unfold stT;rw[if_neg hsm]
   have hnx:nx f=mov f tL:=by unfold nx;rw[hst]
   have hr:=hf.next
   obtain⟨n,en⟩:=ih (nx f) u ∅ hr hu (by rw[hnx,Ay,←e];exact hg)
   exact⟨n+1,by rw[wd,hst,←en];exact e⟩
def Ie(t:I4):I4:=(-t.1,-t.2.1,-t.2.2.1,-t.2.2.2)
def Py{f:I3}{t:I4}:mov f (Ie t)=mov f t:=by
 obtain⟨a,b,c⟩:=f;obtain⟨p,q,r,s⟩:=t
 simp only[mov,val,mid,Ie,Prod.mk.injEq]
 refine⟨?_,?_,?_⟩<;>grind
theorem neg_neg{t:I4}:Ie (Ie t)=t:=by
 obtain⟨p,q,r,s⟩:=t
 simp only[Ie,Prod.mk.injEq]
 refine⟨?_,?_,?_,?_⟩<;>omega
def Ahn{t:I4}:det (Ie t)=det t:=by
 obtain⟨p,q,r,s⟩:=t
 simp only[det,Ie];grind
def Wr{t:I4}:Ba (Ie t)=Ie (Ba t):=by
 obtain⟨p,q,r,s⟩:=t
 simp only[Ba,Ie]
theorem signs{f:I3}{t:I4}(hf:Riv f)(hd:det t=1)(hg:Riv (mov f t))(hp:0≤t.1):NN t∨NN (Ba t):=by
 obtain⟨a,b,c⟩:=f
 obtain⟨p,q,r,s⟩:=t
 have ha:0<a:=hf.1.1
 have hc:c<0:=hf.1.2
 have hu:0<val (a,b,c) (p,r):=hg.1.1
 have hv:val (a,b,c) (q,s)<0:=hg.1.2
 have hp:0≤p:=hp
 have p0:p≠0:=fun e=>by
  subst e
  rw[XD]at hu
  have:=Int.mul_nonneg (show 0≤-c by omega) (sq_nonneg r)
  have e:-c*(r*r)=-(c*(r*r)):=by grind
  omega
 have s0:s≠0:=fun e=>by
  subst e
  rw[LQ]at hv
  have:=Int.mul_nonneg (show 0≤a by omega) (sq_nonneg q)
  omega
 have hd':p*s-q*r=1:=hd
 have key:val (a,b,c) (p,r)*(q*s)-val (a,b,c) (q,s)*(p*r)=(p*s-q*r)*(a*(p*q)-c*(r*s)):=by simp only[val];grind
 have hs:0<s:=by
  rcases Int.lt_or_le 0 s with z|z
  ·exact z
  ·exfalso
   have z:s≤-1:=∅
   have h1:p*s≤1 * -1:=by
    have:=Int.mul_le_mul_of_nonneg_left z (show 0≤p by omega)
    omega
   have hqr:q*r≤-2:=∅
   rw[hd',Int.one_mul]at key
   rcases Int.lt_or_le q 0 with hq|hq
   ·have hr:0<r:=by
     rcases Int.lt_or_le 0 r with w|w
     ·exact w
     ·have:=Int.mul_nonneg_of_nonpos_of_nonpos (show q≤0 by omega) w
      omega
    have k1:=Int.mul_pos hu (Int.mul_pos_of_neg_of_neg hq (show s<0 by omega))
    have k2:=Int.mul_neg_of_neg_of_pos hv (Int.mul_pos (show 0<p by omega) hr)
    have k3:=Int.mul_neg_of_pos_of_neg ha (Int.mul_neg_of_pos_of_neg (show 0<p by omega) hq)
    have k4:=Int.mul_pos_of_neg_of_neg hc (Int.mul_neg_of_pos_of_neg hr (show s<0 by omega))
    omega
   ·have hq':0<q:=by
     rcases Int.lt_or_le 0 q with w|w
     ·exact w
     ·have:q=0:=∅
      subst this
      omega
    have hr:r<0:=by
     rcases Int.lt_or_le r 0 with w|w
     ·exact w
     ·have:=Int.mul_nonneg hq w
      omega
    have k1:=Int.mul_neg_of_pos_of_neg hu (Int.mul_neg_of_pos_of_neg hq' (show s<0 by omega))
    have k2:=Int.mul_pos_of_neg_of_neg hv (Int.mul_neg_of_pos_of_neg (show 0<p by omega) hr)
    have k3:=Int.mul_pos ha (Int.mul_pos (show 0<p by omega) hq')
    have k4:=Int.mul_neg_of_neg_of_pos hc (Int.mul_pos_of_neg_of_neg hr (show s<0 by omega))
    omega
 have hps:=Int.mul_le_mul (show 1≤p by omega) (show 1≤s by omega) ⋯ ∅
 by_cases hq:0≤q∧0≤r
 ·exact .inl ⟨by simp only;omega,hq.1,hq.2,by simp only;omega,hd⟩
 ·right
  have hqr:q≤0∧r≤0:=by
   rcases Int.lt_trichotomy q 0 with w|w|w
   ·refine⟨∅,?_⟩
    rcases Int.lt_or_le 0 r with v|v
    ·have:=Int.mul_neg_of_neg_of_pos w v;omega
    ·exact v
   ·omega
   ·exfalso
    have:r<0:=∅
    have:=Int.mul_neg_of_pos_of_neg w this
    omega
  exact⟨by simp only[Ba];omega,by simp only[Ba];omega,by simp only[Ba];omega,by simp only[Ba];omega,Ef.trans hd⟩
def AmT{f:I3}{t:I4}(hf:Riv f)(hd:det t=1)(hg:Riv (mov f t)) :
  (∃n,t=wd n f∨t=Ie (wd n f))∨(∃n,Ba t=wd n (mov f t)∨Ba t=Ie (wd n (mov f t))):=by
 have core:∀t:I4,det t=1→Riv (mov f t)→0≤t.1→(∃n,t=wd n f)∨(∃n,Ba t=wd n (mov f t)):=fun t hd hg hp=>by
  rcases signs hf hd hg hp with h|h
  ·exact .inl (along _ f t (Nat.le_refl _) hf h hg)
  ·exact .inr (along _ (mov f t) (Ba t) (Nat.le_refl _) hg h (by rw[BZ hd];exact hf))
 rcases Int.le_total 0 t.1 with hp|hp
 ·rcases core t hd hg hp with⟨n,h⟩|⟨n,h⟩
  ·exact .inl ⟨n,.inl h⟩
  ·exact .inr ⟨n,.inl h⟩
 ·rcases core (Ie t) (Ahn.trans hd) (by rw[Py];exact hg) (by show 0≤-t.1;omega)with⟨n,h⟩|⟨n,h⟩
  ·exact .inl ⟨n,.inr (by rw[←h,neg_neg])⟩
  ·rw[Py,Wr]at h
   exact .inr ⟨n,.inr (by rw[←h,neg_neg])⟩
structure Lv(far:Int)(f:I3):Prop where
 S:Sad f
 r:Sq (meas f) far
 L:Level f far
abbrev aft(far:Int)(f:I3):I3:=mov f (Ca f far)
theorem Lv.next{far:Int}{f:I3}(h:Lv far f):Lv far (aft far f) :=
 ⟨h.S.mov Cv,by rw[Bl Cv];exact h.r,YT h.S h.r h.L⟩
theorem Lv.ac{far:Int}{f:I3}(h:Lv far f):f.1*f.2.2<0:=by
 have hf:=XQ h.r h.S.no
 obtain⟨⟨l1,l2⟩,_,_⟩:=h.L
 obtain⟨a,b,c⟩:=f
 have l1:0<b:=l1
 have l2:b≤far:=l2
 have hb:b*b≤far*far:=Int.mul_le_mul l2 l2 ∅ ∅
 have e:meas (a,b,c)=b*b-4*(a*c):=by simp only[meas];grind
 show a*c<0
 omega
theorem Lv.neg{far:Int}{f:I3}(h:Lv far f)(ha:0<f.1):f.2.2<0:=by
 rcases Int.lt_or_le f.2.2 0 with z|z
 ·exact z
 ·have:=h.ac
  have:=Int.mul_nonneg (show 0≤f.1 by omega) z
  omega
theorem Lv.pos{far:Int}{f:I3}(h:Lv far f)(ha:f.1<0):0<f.2.2:=by
 rcases Int.lt_or_le 0 f.2.2 with z|z
 ·exact z
 ·have:=h.ac
  have:=Int.mul_nonneg_of_nonpos_of_nonpos (show f.1≤0 by omega) z
  omega
def GK{far:Int}{f:I3}(h:Lv far f):(aft far f).1=f.2.2∧(aft far f).2.1=dB f far∧(aft far f).2.2=f.1-f.2.1*kB f far+f.2.2*(kB f far*kB f far):=by
 obtain⟨e,he⟩:=Mu (top:=far) (Gg h.S)
 refine⟨by show(mov f (Ca f far)).1=_;rw[he],by show(mov f (Ca f far)).2.1=_;rw[he],?_⟩
 show val f (-1,kB f far)=_
 simp only[val];grind
theorem Lv.riv{far:Int}{f:I3}(h:Lv far f)(ha:0<f.1):Riv f:=⟨⟨ha,h.neg ha⟩,h.S.no⟩
def ZL{far:Int}{f g:I3}(hf:Lv far f)(hg:Lv far g)(hm:meas f=meas g)(h:aft far f=aft far g):f=g:=by
 have ⟨f1,f2,_⟩:=GK hf
 have ⟨g1,g2,_⟩:=GK hg
 have hc:f.2.2=g.2.2:=by rw[←f1,h,g1]
 have hd:dB f far=dB g far:=by rw[←f2,h,g2]
 have kf:=Iv (top:=far) (Gg hf.S)
 have kg:=Iv (top:=far) (Gg hg.S)
 have cf:=(JF hf.r hf.S.no hf.L).1
 have cg:=(JF hg.r hg.S.no hg.L).1
 have lf:=hf.L.1.2
 have lg:=hg.L.1.2
 have c0:=Gg hf.S
 obtain⟨a,b,c⟩:=f
 obtain⟨a',b',c'⟩:=g
 simp only at hc hd kf kg cf cg lf lg c0
 subst hc
 rw[←hd]at kg
 have hb:b=b':=by
  have e:b-b'=2*(c*(kB (a,b,c) far-kB (a',b',c) far)):=by
   have:2*(c*(kB (a,b,c) far-kB (a',b',c) far))=2*c*kB (a,b,c) far-2*c*kB (a',b',c) far:=by grind
   omega
  generalize kB (a,b,c) far-kB (a',b',c) far=k at *
  have hx:ab (c*k)=ab c*ab k:=(Kh c k).symm
  have hk:ab k=0:=by
   rcases Int.lt_or_le (ab k) 1 with z|z
   ·have:=BL k;omega
   ·exfalso
    have:=Int.mul_le_mul_of_nonneg_left z (BL c)
    rcases Ar (c*k)with⟨_,e1⟩|⟨_,e1⟩<;>omega
  rw[hk]at hx
  have:c*k=0:=by rcases Ar (c*k)with⟨_,e1⟩|⟨_,e1⟩<;>omega
  omega
 subst hb
 have e1:4*c*a=4*c*a':=by
  simp only[meas]at hm
  have x1:4*a*c=4*c*a:=by grind
  have x2:4*a'*c=4*c*a':=by grind
  omega
 have:a=a':=Int.eq_of_mul_eq_mul_left (show 4*c≠0 by omega) e1
 rw[this]
theorem AmU:∀(k:Nat)(a b c:Int),(∀j:Nat,1≤j→j≤k→0<a+b*j+c*(j*j))→wd k (a,b,c)=(1,0,(k:Int),1)
 |0,_,_,_,_=>rfl
 | k+1,a,b,c,h=>by
  have h1:=h 1 ∅ ∅
  have hs:¬sm (a,b,c)<0:=by simp only[sm];simp at h1;omega
  have e:nx (a,b,c)=(a+b+c,b+2*c,c):=by unfold nx;rw[show stT (a,b,c)=tL from if_neg hs];exact Ab8
  rw[wd,e,show stT (a,b,c)=tL from if_neg hs,AmU k _ _ _ fun j j1 jk=>?_]
  ·simp only[Ak,Prod.mk.injEq]
   refine⟨∅,∅,by push_cast;omega,∅⟩
  ·have:=h (j+1) ∅ ∅
   have e2:a+b+c+(b+2*c)*(j:Int)+c*((j:Int)*j)=a+b*((j+1:Nat):Int)+c*(((j+1:Nat):Int)*((j+1:Nat):Int)):=by push_cast;grind
   rw[e2];exact this
theorem Al3:∀(k:Nat)(a b c:Int),(∀j:Nat,1≤j→j≤k→a*(j*j)+b*j+c<0)→wd k (a,b,c)=(1,(k:Int),0,1)
 |0,_,_,_,_=>rfl
 | k+1,a,b,c,h=>by
  have h1:=h 1 ∅ ∅
  have hs:sm (a,b,c)<0:=by simp only[sm];simp at h1;omega
  have e:nx (a,b,c)=(a,b+2*a,a+b+c):=by unfold nx;rw[show stT (a,b,c)=tR from if_pos hs];exact Aep
  rw[wd,e,show stT (a,b,c)=tR from if_pos hs,Al3 k _ _ _ fun j j1 jk=>?_]
  ·simp only[Ak,Prod.mk.injEq]
   refine⟨∅,by push_cast;omega,∅,∅⟩
  ·have:=h (j+1) ∅ ∅
   have e2:a*((j:Int)*j)+(b+2*a)*(j:Int)+(a+b+c)=a*(((j+1:Nat):Int)*((j+1:Nat):Int))+b*((j+1:Nat):Int)+c:=by push_cast;grind
   rw[e2];exact this
theorem XR:∀(m n:Nat)(f:I3),wd (m+n) f=Ak (wd m f) (wd n (nxs m f))
 |0,n,f=>by rw[Nat.zero_add];exact Jj.symm
 | m+1,n,f=>by
  rw[show m+1+n=(m+n)+1 by omega,wd,XR m n (nx f),wd,then_assoc];rfl
theorem Ux:∀(m n:Nat)(f:I3),nxs (m+n) f=nxs n (nxs m f)
 |0,n,f=>by rw[Nat.zero_add];rfl
 |m+1,n,f=>by rw[show m+1+n=(m+n)+1 by omega];exact Ux m n (nx f)
def AmX{a b c k j:Int}(hc:c≤0)(h0:0<a)(hk:0<a+b*k+c*(k*k))(j0:0≤j)(jk:j≤k)(k0:0<k):0<a+b*j+c*(j*j):=by
 have e:k*(a+b*j+c*(j*j))=(k-j)*a+j*(a+b*k+c*(k*k))+(-c)*(j*(k-j)*k):=by grind
 have h1:=Int.mul_nonneg (show 0≤k-j by omega) (show 0≤a by omega)
 have h2:=Int.mul_nonneg j0 (show 0≤a+b*k+c*(k*k) by omega)
 have h3:=Int.mul_nonneg (show 0≤-c by omega) (Int.mul_nonneg (Int.mul_nonneg j0 (show 0≤k-j by omega)) (show 0≤k by omega))
 have h4:0<(k-j)*a+j*(a+b*k+c*(k*k)):=by
  by_cases z:j=k
  ·subst z
   have:=Int.mul_pos k0 hk
   omega
  ·have:=Int.mul_pos (show 0<k-j by omega) h0
   omega
 rcases Int.lt_or_le 0 (a+b*j+c*(j*j))with z|z
 ·exact z
 ·have:=Int.mul_le_mul_of_nonneg_left z (show 0≤k by omega)
  omega
theorem Lv.iz{far:Int}{f:I3}(h:Lv far f):(0<f.1→kB f far<0)∧(f.1<0→0<kB f far):=by
 have hk:=Iv (top:=far) (Gg h.S)
 have hd:0<dB f far:=by
  have:=h.next.L.1.1
  rw[(GK h).2.1]at this
  exact this
 have hb:=h.L.1.1
 constructor
 ·intro ha
  have hc:=h.neg ha
  rcases Int.lt_or_le (kB f far) 0 with z|z
  ·exact z
  ·have:=Int.mul_nonneg (show 0≤-(2*f.2.2) by omega) z
   have e:-(2*f.2.2)*kB f far=-(2*f.2.2*kB f far):=by grind
   omega
 ·intro ha
  have hc:=h.pos ha
  rcases Int.lt_or_le 0 (kB f far)with z|z
  ·exact z
  ·have:=Int.mul_nonneg (show 0≤2*f.2.2 by omega) (show 0≤-kB f far by omega)
   have e:2*f.2.2 * -kB f far=-(2*f.2.2*kB f far):=by grind
   omega
def AbJ{far:Int}{f:I3}(h:Lv far f)(ha:0<f.1) :
  ∃N:Nat,2≤N∧nxs N f=aft far (aft far f)∧wd N f=Ie (Ak (Ca f far) (Ca (aft far f) far))∧∀j,0<j→j<N→¬Lv far (nxs j f):=by
 have h':=h.next
 have h'':=h'.next
 have hc:=h.neg ha
 have ⟨g1,g2,g3⟩:=GK h
 have a':(aft far f).1<0:=by rw[g1];exact hc
 have he:=h'.pos a'
 have ⟨q1,q2,q3⟩:=GK h'
 have a'':0<(aft far (aft far f)).1:=by rw[q1];exact he
 have qg:=h''.neg a''
 have kn:=h.iz.1 ha
 have kp:=h'.iz.2 a'
 have hk1:=Iv (top:=far) (Gg h.S)
 have hk2:=Iv (top:=far) (Gg h'.S)
 have lb:=h.L.1.2
 have ld':=h''.L.1.2
 rw[q2]at ld'
 rw[g2]at hk2
 rw[q3,g1,g2]at qg
 rw[g3]at he
 have rH:Ca f far=(0,-1,1,kB f far):=rfl
 have rJ:Ca (aft far f) far=(0,-1,1,kB (aft far f) far):=rfl
 rw[rH,rJ]
 have e22:(aft far f).2.2=f.1-f.2.1*kB f far+f.2.2*(kB f far*kB f far):=g3
 generalize hF:aft far (aft far f)=F at *
 generalize hd':dB (aft far f) far=d' at *
 generalize sE:kB (aft far f) far=k2 at *
 have hform:nxs 0 f=f:=rfl
 generalize hg:aft far f=g at *
 generalize hd:dB f far=d at *
 generalize hk1':kB f far=k1 at *
 obtain⟨a,b,c⟩:=f
 have ha:0<a:=ha
 have hc:c<0:=hc
 have lb:b≤far:=lb
 have he:0<a-b*k1+c*(k1*k1):=he
 have hk1:2*c*k1=b+d:=hk1
 have qg:c-d*k2+g.2.2*(k2*k2)<0:=qg
 have e22:g.2.2=a-b*k1+c*(k1*k1):=e22
 rw[e22]at qg hk2
 obtain⟨n1,hn1⟩:∃n:Nat,-k1=n:=⟨(-k1).toNat,∅⟩
 obtain⟨n2,hn2⟩:∃n:Nat,k2=n:=⟨k2.toNat,∅⟩
 have qj:k1=-(n1:Int):=∅
 have hw1:∀i:Nat,i≤n1→wd i (a,b,c)=(1,0,(i:Int),1):=fun i hi=>AmU i a b c fun j j1 ji=>by
  refine AmX (k:=n1) ∅ ha ?_ ∅ ∅ ∅
  have:a+b*(n1:Int)+c*((n1:Int)*n1)=a-b*k1+c*(k1*k1):=by rw[qj];grind
  omega
 have hF1:nxs n1 (a,b,c)=(a-b*k1+c*(k1*k1),-d,c):=by
  rw[←Lz,hw1 n1 (Nat.le_refl _)]
  have e1:-d=b+2*c*n1:=by
   have:2*c*(n1:Int)=-(2*c*k1):=by rw[qj];grind
   omega
  rw[e1,qj]
  simp only[mov,val,mid,Prod.mk.injEq]
  refine⟨?_,?_,?_⟩<;>grind
 generalize hee:a-b*k1+c*(k1*k1)=e at *
 have hw2:∀i:Nat,i≤n2→wd i (e,-d,c)=(1,(i:Int),0,1):=fun i hi=>Al3 i e (-d) c fun j j1 ji=>by
  have:=AmX (a:=-c) (b:=d) (c:=-e) (k:=n2) (j:=j) ∅ ∅ (by
   have:-c+d*(n2:Int) + -e*((n2:Int)*n2)=-(c-d*k2+e*(k2*k2)):=by rw[hn2];grind
   omega) ∅ ∅ ∅
  have e1:e*((j:Int)*j) + -d*j+c=-(-c+d*(j:Int) + -e*((j:Int)*j)):=by grind
  omega
 have hF2:∀i:Nat,i≤n2→nxs (n1+i) (a,b,c)=(e,-d+2*e*i,e*((i:Int)*i)-d*i+c):=fun i hi=>by
  rw[Ux,hF1,←Lz,hw2 i hi]
  simp only[mov,val,mid,Prod.mk.injEq]
  refine⟨?_,?_,?_⟩<;>grind
 have hwd:wd (n1+n2) (a,b,c)=Ie (Ak (0,-1,1,k1) (0,-1,1,k2)):=by
  rw[XR,hF1,hw1 n1 (Nat.le_refl _),hw2 n2 (Nat.le_refl _),qj,hn2]
  simp only[Ak,Ie,Prod.mk.injEq]
  refine⟨?_,?_,?_,?_⟩<;>grind
 refine⟨n1+n2,∅,?_,hwd,?_⟩
 ·rw[←Lz,hwd,Py,←Ay,←hF,←hg]
  show mov (mov (a,b,c) (0,-1,1,k1)) (0,-1,1,k2)=_
  rw[←hk1',←sE,←hg];rfl
 ·intro j j0 jn hL
  rcases Nat.lt_or_ge n1 j with z|z
  ·obtain⟨i,rfl⟩:∃i,j=n1+i:=⟨j-n1,∅⟩
   rw[hF2 i ∅]at hL
   have l1:=hL.L.2.1
   have l1:far-(-d+2*e*i)<2*ab e:=l1
   rw[show ab e=e from if_neg ∅]at l1
   have hi:(i:Int)≤n2-1:=∅
   have:=Int.mul_le_mul_of_nonneg_left hi (show 0≤2*e by omega)
   have e1:2*e*((n2:Int)-1)=2*e*k2-2*e:=by rw[hn2];grind
   omega
  ·have hj:nxs j (a,b,c)=(a+b*j+c*((j:Int)*j),b+2*c*j,c):=by
    rw[←Lz,hw1 j z]
    simp only[mov,val,mid,Prod.mk.injEq]
    refine⟨?_,?_,?_⟩<;>grind
   rw[hj]at hL
   have l1:=(JF hL.r hL.S.no hL.L).1
   have l1:far-(b+2*c*j)<2*ab c:=l1
   rw[show ab c=-c from if_pos hc]at l1
   have:=Int.mul_le_mul_of_nonneg_left (show(1:Int)≤j by omega) (show 0≤-(2*c) by omega)
   have e1:-(2*c)*(j:Int)=-(2*c*j):=by grind
   omega
def Sg(t u:I4):Prop:=t=u∨t=Ie u
def VG{t u:I4}:Ak (Ie t) u=Ie (Ak t u):=by
 obtain⟨a,b,c,d⟩:=t;obtain⟨e,f,g,h⟩:=u
 simp only[Ak,Ie,Prod.mk.injEq]
 refine⟨?_,?_,?_,?_⟩<;>grind
def W7{t u:I4}:Ak t (Ie u)=Ie (Ak t u):=by
 obtain⟨a,b,c,d⟩:=t;obtain⟨e,f,g,h⟩:=u
 simp only[Ak,Ie,Prod.mk.injEq]
 refine⟨?_,?_,?_,?_⟩<;>grind
def Gy{t:I4}:Ba (Ba t)=t:=by
 obtain⟨a,b,c,d⟩:=t
 simp only[Ba,Prod.mk.injEq]
 refine⟨trivial,?_,?_,trivial⟩<;>omega
def QG{t u:I4}:Ba (Ak t u)=Ak (Ba u) (Ba t):=by
 obtain⟨a,b,c,d⟩:=t;obtain⟨e,f,g,h⟩:=u
 simp only[Ak,Ba,Prod.mk.injEq]
 refine⟨?_,?_,?_,?_⟩<;>grind
theorem Sg.refl{t:I4}:Sg t t:=.inl rfl
theorem Sg.trans{t u v:I4}(h:Sg t u)(k:Sg u v):Sg t v:=by
 rcases h with rfl|rfl<;>rcases k with rfl|rfl
 ·exact .inl rfl
 ·exact .inr rfl
 ·exact .inr rfl
 ·exact .inl neg_neg
theorem Sg.then{t u t' u':I4}(h:Sg t t')(k:Sg u u'):Sg (Ak t u) (Ak t' u'):=by
 rcases h with rfl|rfl<;>rcases k with rfl|rfl
 ·exact .inl rfl
 ·exact .inr W7
 ·exact .inr VG
 ·exact .inl (by rw[VG,W7,neg_neg])
theorem Sg.back{t u:I4}(h:Sg t u):Sg (Ba t) (Ba u):=by
 rcases h with rfl|rfl
 ·exact .inl rfl
 ·exact .inr Wr
theorem Sg.mov{f:I3}{t u:I4}(h:Sg t u):mov f t=mov f u:=by
 rcases h with rfl|rfl
 ·rfl
 ·exact Py
def rF(far:Int):Nat→I3→I3
 |0,f=>f
 |n+1,f=>rF far n (aft far f)
def rT(far:Int):Nat→I3→I4
 |0,_=>(1,0,0,1)
 |n+1,f=>Ak (Ca f far) (rT far n (aft far f))
def Fb{far:Int}:∀(n:Nat)(f:I3),mov f (rT far n f)=rF far n f
 |0,_=>Dl
 |n+1,f=>by rw[rT,←Ay];exact Fb n (aft far f)
def N5{far:Int}:∀(n:Nat)(f:I3),det (rT far n f)=1
 |0,_=>rfl
 |n+1,f=>by rw[rT,BR,Cv,N5 n (aft far f)];rfl
def EY{far:Int}:∀(m n:Nat)(f:I3),rF far (m+n) f=rF far n (rF far m f)
 |0,n,f=>by rw[Nat.zero_add];rfl
 |m+1,n,f=>by rw[show m+1+n=(m+n)+1 by omega];exact EY m n (aft far f)
def Us{far:Int}:∀(m n:Nat)(f:I3),rT far (m+n) f=Ak (rT far m f) (rT far n (rF far m f))
 |0,n,f=>by rw[Nat.zero_add];exact Jj.symm
 |m+1,n,f=>by rw[show m+1+n=(m+n)+1 by omega,rT,Us m n (aft far f),rT,then_assoc];rfl
def PJ{far:Int}{n:Nat}{f:I3}:rF far (n+1) f=aft far (rF far n f):=by rw[EY];rfl
def MJ{far:Int}{n:Nat}{f:I3}:rT far (n+1) f=Ak (rT far n f) (Ca (rF far n f) far):=by
 rw[Us]
 show Ak _ (Ak _ (1,0,0,1))=_
 rw[Eo]
theorem Lv.rF{far:Int}:∀(n:Nat){f:I3},Lv far f→Lv far (rF far n f)
 |0,_,h=>h
 |n+1,_,h=>Lv.rF n h.next
def KC{far:Int}(n:Nat)(f:I3):meas (rF far n f)=meas f:=by rw[←Fb,Bl (N5 n f)]
def Z0{far:Int}:∀(n:Nat)(f:I3),Lv far f→0<f.1→Lv far (nxs n f)→∃m,Sg (wd n f) (rT far m f):=by
 intro n
 induction n using Nat.strongRecOn with
 | ind n ih =>
  intro f hf ha hg
  by_cases h0:n=0
  ·subst h0
   exact⟨0,Sg.refl⟩
  ·obtain⟨N,hN,e1,e2,e3⟩:=AbJ hf ha
   have hn:N≤n:=by
    rcases Nat.lt_or_ge n N with z|z
    ·exact absurd hg (e3 n ∅ z)
    ·exact z
   obtain⟨k,rfl⟩:∃k,n=N+k:=⟨n-N,∅⟩
   have a2:0<(aft far (aft far f)).1:=by
    rw[(GK hf.next).1]
    exact hf.next.pos (by rw[(GK hf).1];exact hf.neg ha)
   rw[Ux,e1]at hg
   obtain⟨m,hm⟩:=ih k ∅ (aft far (aft far f)) hf.next.next a2 hg
   refine⟨m+2,?_⟩
   rw[XR,e1,e2]
   show Sg _ (Ak (Ca f far) (Ak (Ca (aft far f) far) (rT far m (aft far (aft far f)))))
   rw[←then_assoc]
   exact Sg.then (.inr rfl) hm
def Ring(far:Int)(f g:I3)(t:I4):Prop:=(∃m,Sg t (rT far m f))∨(∃m,Sg (Ba t) (rT far m g))
theorem Ring.swap{far:Int}{f g:I3}{t:I4}(h:Ring far f g t):Ring far g f (Ba t):=by
 rcases h with⟨m,h⟩|⟨m,h⟩
 ·exact .inr ⟨m,by rw[Gy];exact h⟩
 ·exact .inl ⟨m,h⟩
def AaM{far:Int}{f g:I3}{t:I4}(hf:Lv far f)(hg:Lv far g)(hd:det t=1)(e:mov f t=g)(fa:0<f.1)(ga:0<g.1):Ring far f g t:=by
 have hr:Riv (mov f t):=by rw[e];exact hg.riv ga
 rcases AmT (hf.riv fa) hd hr with⟨n,h⟩|⟨n,h⟩
 ·have hs:Sg t (wd n f):=h
  have hn:Lv far (nxs n f):=by rw[←Lz,←hs.mov,e];exact hg
  obtain⟨m,hm⟩:=Z0 n f hf fa hn
  exact .inl ⟨m,hs.trans hm⟩
 ·rw[e]at h
  have hs:Sg (Ba t) (wd n g):=h
  have hn:Lv far (nxs n g):=by rw[←Lz,←hs.mov,←e,BZ hd];exact hf
  obtain⟨m,hm⟩:=Z0 n g hg ga hn
  exact .inr ⟨m,hs.trans hm⟩
def AaG{far:Int}{f g:I3}{t:I4}{m:Nat}(hf:Lv far f)(hg:Lv far g)(hm:meas f=meas g)(h:Sg (Ak t (Ca g far)) (rT far m f))(e:rF far m f=aft far g):(∃k,Sg t (rT far k f))∨Sg t (Ba (Ca g far)):=by
 have cancel:∀{u:I4},Sg (Ak t (Ca g far)) (Ak u (Ca g far))→Sg t u:=fun{u} h=>by
  have:=Sg.then h (Sg.refl (t:=Ba (Ca g far)))
  rw[then_assoc,then_assoc,KJ Cv,Eo,Eo]at this
  exact this
 match m,h,e with
 | 0,h,e =>
  right
  refine cancel (h.trans ?_)
  rw[Uc Cv]
  exact Sg.refl
 | m+1,h,e =>
  left
  rw[PJ]at e
  have e':=ZL (Lv.rF m hf) hg (by rw[KC];exact hm) e
  rw[MJ,e']at h
  exact⟨m,cancel h⟩
def Vi{far:Int}{f g:I3}{t:I4}(hf:Lv far f)(hg:Lv far g)(hd:det t=1)(e:mov f t=g)(fa:0<f.1)(ga:g.1<0):Ring far f g t:=by
 have hm:meas f=meas g:=by rw[←e,Bl hd]
 have hd':det (Ak t (Ca g far))=1:=by rw[BR,hd,Cv];rfl
 have e':mov f (Ak t (Ca g far))=aft far g:=by rw[←Ay,e]
 have ga':0<(aft far g).1:=by rw[(GK hg).1];exact hg.pos ga
 rcases AaM hf hg.next hd' e' fa ga' with⟨m,h⟩|⟨m,h⟩
 ·have er:rF far m f=aft far g:=by rw[←Fb,←h.mov,e']
  rcases AaG hf hg hm h er with h|h
  ·exact .inl h
  ·refine .inr ⟨1,?_⟩
   have:=h.back
   rw[Gy]at this
   show Sg _ (Ak (Ca g far) (1,0,0,1))
   rw[Eo]
   exact this
 ·refine .inr ⟨m+1,?_⟩
  have h2:=Sg.then (Sg.refl (t:=Ca g far)) h
  rw[QG,←then_assoc,KJ Cv,Jj]at h2
  exact h2
def Mi{far:Int}{f g:I3}{t:I4}(hf:Lv far f)(hg:Lv far g)(hd:det t=1)(e:mov f t=g):Ring far f g t:=by
 have fa:=Ox hf.S
 have ga:=Ox hg.S
 have eb:mov g (Ba t)=f:=by rw[←e,BZ hd]
 have hdb:det (Ba t)=1:=Ef.trans hd
 rcases Int.lt_or_lt_of_ne fa with fa|fa
 ·rcases Int.lt_or_lt_of_ne ga with ga|ga
  ·
   have fa':0<(aft far f).1:=by rw[(GK hf).1];exact hf.pos fa
   have hd':det (Ak (Ba (Ca f far)) t)=1:=by rw[BR,Ef,Cv,hd];rfl
   have e':mov (aft far f) (Ak (Ba (Ca f far)) t)=g:=by
    rw[←Ay,BZ Cv,e]
   have hm:meas g=meas f:=by rw[←e,Bl hd]
   rcases Vi hf.next hg hd' e' fa' ga with⟨m,h⟩|⟨m,h⟩
   ·refine .inl ⟨m+1,?_⟩
    have h2:=Sg.then (Sg.refl (t:=Ca f far)) h
    rw[←then_assoc,KJ Cv,Jj]at h2
    exact h2
   ·rw[QG,Gy]at h
    have er:rF far m g=aft far f:=by rw[←Fb,←h.mov,←Ay,eb]
    rcases AaG hg hf hm h er with h|h
    ·exact .inr h
    ·refine .inl ⟨1,?_⟩
     have:=h.back
     rw[Gy,Gy]at this
     show Sg _ (Ak (Ca f far) (1,0,0,1))
     rw[Eo]
     exact this
  ·have:=(Vi hg hf hdb eb ga fa).swap
   rw[Gy]at this
   exact this
 ·rcases Int.lt_or_lt_of_ne ga with ga|ga
  ·exact Vi hf hg hd e fa ga
  ·exact AaM hf hg hd e fa ga
theorem Ai3:∀(M:Nat)(x:Nat→Nat),(∀i,i≤M→x i<M)→∃i j,i<j∧j≤M∧x i=x j:=by
 intro M
 induction M with
 |zero=>intro x h;exact absurd (h 0 (Nat.le_refl _)) ∅
 | succ M ih =>
  intro x h
  by_cases hex:∃i j,i<j∧j≤M+1∧x i=x j
  ·exact hex
  ·have ne:∀i j,i<j→j≤M+1→x i≠x j:=fun i j h1 h2 h3=>hex ⟨i,j,h1,h2,h3⟩
   obtain⟨i,j,h1,h2,h3⟩:=ih (fun i=>if x i=M then x (M+1)else x i) (fun i hi=>by
    have h1:=h i ∅
    have h2:=h (M+1) (Nat.le_refl _)
    have h3:=ne i (M+1) ∅ (Nat.le_refl _)
    show(if x i=M then x (M+1)else x i)<M
    split<;>omega)
   exfalso
   have n1:=ne i j h1 ∅
   have n2:=ne i (M+1) ∅ (Nat.le_refl _)
   have n3:=ne j (M+1) ∅ (Nat.le_refl _)
   have h3:(if x i=M then x (M+1)else x i)=(if x j=M then x (M+1)else x j):=h3
   split at h3<;>split at h3<;>omega
def KR{far:Int}:∀(i:Nat){f g:I3},Lv far f→Lv far g→meas f=meas g→rF far i f=rF far i g→f=g
 |0,_,_,_,_,_,h=>h
 |i+1,f,g,hf,hg,hm,h=>ZL hf hg hm (KR i hf.next hg.next (by rw[Bl Cv,Bl Cv];exact hm) h)
def Xa(f:I3):Nat:=((f.1+63)*64+f.2.1).toNat
theorem Lv.range{far:Int}{f:I3}(h:Lv far f):(-63≤f.1∧f.1≤63)∧(0<f.2.1∧f.2.1≤63):=by
 have h6:=Oe h.r h.S.most
 obtain⟨⟨l1,l2⟩,_,l4⟩:=h.L
 have l4:2*ab f.1≤far+f.2.1:=l4
 rcases Ar f.1 with⟨_,e⟩|⟨_,e⟩<;>omega
theorem code_inj{far:Int}{f g:I3}(hf:Lv far f)(hg:Lv far g)(hm:meas f=meas g)(h:Xa f=Xa g):f=g:=by
 have rf:=hf.range
 have rg:=hg.range
 have ha:=Ox hf.S
 obtain⟨a,b,c⟩:=f
 obtain⟨a',b',c'⟩:=g
 simp only[Xa]at h rf rg ha
 have e1:a=a':=∅
 have e2:b=b':=∅
 subst e1 e2
 have e3:4*a*c=4*a*c':=by simp only[meas]at hm;omega
 have:c=c':=Int.eq_of_mul_eq_mul_left (show 4*a≠0 by omega) e3
 rw[this]
def Kf{far:Int}{f:I3}(h:Lv far f):∃N,0<N∧N≤8128∧rF far N f=f∧∀j,0<j→j<N→rF far j f≠f:=by
 have ex:∃N,0<N∧N≤8128∧rF far N f=f:=by
  obtain⟨i,j,hij,hj,e⟩:=Ai3 8128 (fun i=>Xa (rF far i f)) (fun i _=>by
   have:=(Lv.rF i h).range
   unfold Xa
   omega)
  have e':=code_inj (Lv.rF i h) (Lv.rF j h) (by rw[KC,KC]) e
  obtain⟨k,rfl⟩:∃k,j=k+i:=⟨j-i,∅⟩
  rw[EY k i f]at e'
  have:=KR i h (Lv.rF k h) (by rw[KC]) e'
  exact⟨k,∅,∅,this.symm⟩
 have least:∀M,(∃N,0<N∧N≤M∧rF far N f=f)→∃N,0<N∧N≤M∧rF far N f=f∧∀j,0<j→j<N→rF far j f≠f:=by
  intro M
  induction M with
  |zero=>intro⟨N,h1,h2,_⟩;omega
  | succ M ih =>
   intro hN
   by_cases hM:∃N,0<N∧N≤M∧rF far N f=f
   ·obtain⟨N,h1,h2,h3,h4⟩:=ih hM
    exact⟨N,h1,∅,h3,h4⟩
   ·obtain⟨N,h1,h2,h3⟩:=hN
    exact⟨N,h1,h2,h3,fun j j0 jN e=>hM ⟨j,j0,∅,e⟩⟩
 exact least 8128 ex
def Z7{f:I3}{far:Int}(h:Lv far f):Bt 9 (kB f far):=by
 have hc:=Gg h.S
 have hk:=Iv (top:=far) hc
 have ⟨d1,d2⟩:=Kl (top:=far) hc
 have h6:=Oe h.r h.S.most
 have ⟨c1,c2⟩:=JF h.r h.S.no h.L
 obtain⟨⟨l1,l2⟩,_,_⟩:=h.L
 have e1:2*(ab f.2.2*ab (kB f far))=ab (f.2.1+dB f far):=by
  rw[←hk,Kh]
  have:2*f.2.2*kB f far=2*(f.2.2*kB f far):=by grind
  rw[this]
  rcases Ar (f.2.2*kB f far)with⟨h1,e1⟩|⟨h1,e1⟩
  ·rw[e1,ab,if_neg ∅]
  ·rw[e1,ab,if_pos ∅];omega
 have c0:1≤ab f.2.2:=by rcases Ar f.2.2 with⟨_,e1⟩|⟨_,e1⟩<;>omega
 have e2:=Int.mul_le_mul_of_nonneg_right c0 (BL (kB f far))
 have e3:ab (f.2.1+dB f far)≤252:=by rcases Ar (f.2.1+dB f far)with⟨_,e1⟩|⟨_,e1⟩<;>omega
 have:=BL (kB f far)
 exact T7 (k:=252) ∅ ⋯
def Ahq{far:Int}:∀(n:Nat){f:I3},Lv far f→B4 (10*n+1) (rT far n f)
 |0,_,_=>⟨Bt.one,Bt.zero.le ∅,Bt.zero.le ∅,Bt.one⟩
 | n+1,f,h=>by
  have h1:=Qj (Z7 h) ⋯
  exact(B4.then h1 (Ahq n h.next)).le ∅
def tr(t:I4):Int:=t.1+t.2.2.2
def AfL{t x:I4}(h:det x=1):tr (Ak (Ak x t) (Ba x))=tr t:=by
 obtain⟨p,q,r,s⟩:=t;obtain⟨a,b,c,d⟩:=x
 simp only[det]at h
 have:tr (Ak (Ak (a,b,c,d) (p,q,r,s)) (Ba (a,b,c,d)))=(a*d-b*c)*(p+s):=by simp only[tr,Ak,Ba];grind
 rw[this,h,Int.one_mul];rfl
def Ac6{t x:I4}(h:det x=1):tr (Ak (Ak (Ba x) t) x)=tr t:=by
 have:=AfL (t:=t) (x:=Ba x) (Ef.trans h)
 rw[Gy]at this
 exact this
def Afz{f:I3}{t:I4}(hd:det t=1)(e:mov f t=f):f.1*t.2.1=-(f.2.2*t.2.2.1)∧f.1*(t.2.2.2-t.1)=f.2.1*t.2.2.1:=by
 obtain⟨a,b,c⟩:=f;obtain⟨p,q,r,s⟩:=t
 simp only[det]at hd
 simp only[mov,val,mid,Prod.mk.injEq]at e
 obtain⟨e1,e2,_⟩:=e
 have k1:2*q*(a*p*p+b*p*r+c*r*r)-p*(2*a*p*q+b*(p*s+q*r)+2*c*r*s)=-(b*p+2*c*r)*(p*s-q*r):=by grind
 have k2:2*s*(a*p*p+b*p*r+c*r*r)-r*(2*a*p*q+b*(p*s+q*r)+2*c*r*s)=(2*a*p+b*r)*(p*s-q*r):=by grind
 rw[e1,e2,hd]at k1 k2
 simp only
 constructor
 ·have x1:2*q*a-p*b=2*(a*q)-b*p:=by grind
  have x2:-(b*p+2*c*r)*1=-(b*p)-2*(c*r):=by grind
  omega
 ·have x1:2*s*a-r*b=2*(a*s)-b*r:=by grind
  have x2:(2*a*p+b*r)*1=2*(a*p)+b*r:=by grind
  have x3:a*(s-p)=a*s-a*p:=by grind
  omega
def Yq{f:I3}(h:f.1≠0):0<g3 f:=by
 rcases Nat.lt_or_ge 0 (g3 f)with z|z
 ·exact z
 ·have:=Afr (show g3 f=0 by omega)
  rw[this]at h
  exact absurd rfl h
def pl(f:I3):I3:=(f.1 / (g3 f:Int),f.2.1 / (g3 f:Int),f.2.2 / (g3 f:Int))
def PX(f:I3):f.1=(g3 f:Int)*(pl f).1∧f.2.1=(g3 f:Int)*(pl f).2.1∧f.2.2=(g3 f:Int)*(pl f).2.2:=by
 obtain⟨h1,h2,h3⟩:=AdP f
 exact⟨(Int.mul_ediv_cancel' h1).symm,(Int.mul_ediv_cancel' h2).symm,(Int.mul_ediv_cancel' h3).symm⟩
def AjH{f:I3}(h:f.1≠0):g3 (pl f)=1:=AjE (by have:=Yq h;omega)
def AfU(f:I3):meas f=(g3 f:Int)*(g3 f:Int)*meas (pl f):=by
 have ⟨h1,h2,h3⟩:=PX f
 generalize (g3 f:Int)=m at *
 generalize pl f=p at *
 obtain⟨a,b,c⟩:=f
 obtain⟨x,y,z⟩:=p
 simp only at h1 h2 h3
 subst h1 h2 h3
 simp only[meas]
 grind
def Afd{x y z r:Int}(h:g3 (x,y,z)=1)(h2:x∣y*r)(h3:x∣z*r):x∣r:=by
 have d1:x∣((Int.gcd (x*r) (y*r):Nat):Int):=Int.dvd_coe_gcd (Int.dvd_mul_right x r) h2
 have d2:x∣((Int.gcd ((Int.gcd (x*r) (y*r):Nat):Int) (z*r):Nat):Int):=Int.dvd_coe_gcd d1 h3
 have e:Int.gcd ((Int.gcd (x*r) (y*r):Nat):Int) (z*r)=r.natAbs:=by
  rw[Int.gcd_mul_right]
  have:((Int.gcd x y*r.natAbs:Nat):Int)=((Int.gcd x y:Nat):Int)*((r.natAbs:Nat):Int):=by push_cast;rfl
  rw[this]
  have e2:Int.gcd (((Int.gcd x y:Nat):Int)*((r.natAbs:Nat):Int)) (z*r)=Int.gcd (((Int.gcd x y:Nat):Int)*r) (z*r):=by
   rcases Ar r with⟨hr,_⟩|⟨hr,_⟩
   ·rw[show((r.natAbs:Nat):Int)=r by omega]
   ·rw[show((r.natAbs:Nat):Int)=-r by omega,Int.mul_neg,Int.neg_gcd]
  rw[e2,Int.gcd_mul_right]
  have:Int.gcd ((Int.gcd x y:Nat):Int) z=1:=h
  rw[this,Nat.one_mul]
 rw[e]at d2
 exact Int.dvd_natAbs.mp d2
def Ady{f:I3}{t:I4}(ha:f.1≠0)(hd:det t=1)(e:mov f t=f):∃v:Int,t.2.2.1=(pl f).1*v∧t.2.1=-((pl f).2.2*v)∧t.2.2.2-t.1=(pl f).2.1*v∧tr t*tr t-meas (pl f)*(v*v)=4:=by
 have ⟨h1,h2⟩:=Afz hd e
 have ⟨e1,e2,e3⟩:=PX f
 have hp:=AjH ha
 have hm:(g3 f:Int)≠0:=by have:=Yq ha;omega
 generalize pl f=p at *
 obtain⟨x,y,z⟩:=p
 obtain⟨p',q,r,s⟩:=t
 simp only at *
 rw[e1,e2]at h2
 rw[e1,e3]at h1
 generalize (g3 f:Int)=m at *
 have k1:x*q=-(z*r):=by
  have:m*(x*q)=m*(-(z*r)):=by grind
  exact Int.eq_of_mul_eq_mul_left hm this
 have k2:x*(s-p')=y*r:=by
  have:m*(x*(s-p'))=m*(y*r):=by grind
  exact Int.eq_of_mul_eq_mul_left hm this
 have x0:x≠0:=fun h=>by rw[h]at e1;exact ha (by rw[e1];simp)
 obtain⟨v,hv⟩:=Afd hp ⟨s-p',k2.symm⟩ ⟨-q,by rw[Int.mul_neg,k1];omega⟩
 subst hv
 have k3:q=-(z*v):=by
  have:x*q=x*(-(z*v)):=by rw[k1];grind
  exact Int.eq_of_mul_eq_mul_left x0 this
 have k4:s-p'=y*v:=by
  have:x*(s-p')=x*(y*v):=by rw[k2];grind
  exact Int.eq_of_mul_eq_mul_left x0 this
 refine⟨v,rfl,k3,k4,?_⟩
 simp only[tr,meas,det]at *
 have hs:s=p'+y*v:=∅
 subst hs k3
 grind
def AcZ{far:Int}{f:I3}{N:Nat}(e:rF far N f=f):mov f (rT far N f)=f:=by rw[Fb,e]
def Aab{far:Int}{f:I3}{N m:Nat}(e:rF far N f=f):tr (rT far N (rF far m f))=tr (rT far N f):=by
 have h1:=Us (far:=far) m N f
 have h2:=Us (far:=far) N m f
 rw[e,Nat.add_comm N m]at h2
 have hd:=N5 (far:=far) m f
 have:rT far N (rF far m f)=Ak (Ak (Ba (rT far m f)) (rT far N f)) (rT far m f):=by
  rw[then_assoc,←h2,h1,←then_assoc,Uc hd,Jj]
 rw[this,Ac6 hd]
def V0{far:Int}{f:I3}{N M m:Nat}(h:Lv far f)(e:rF far N f=f)(min:∀j,0<j→j<N→rF far j f≠f)(e':rF far M (rF far m f)=rF far m f)(min':∀j,0<j→j<M→rF far j (rF far m f)≠rF far m f)(hN:0<N)(hM:0<M):N=M:=by
 have a1:rF far M f=f:=by
  rw[←EY,Nat.add_comm,EY]at e'
  exact KR m (Lv.rF M h) h (by rw[KC]) e'
 have a2:rF far N (rF far m f)=rF far m f:=by rw[←EY,Nat.add_comm,EY,e]
 rcases Nat.lt_trichotomy N M with z|z|z
 ·exact absurd a2 (min' N hN z)
 ·exact z
 ·exact absurd a1 (min M hM z)
def Abl{far:Int}{f g:I3}{t:I4}{N M:Nat}(hf:Lv far f)(hg:Lv far g)(hd:det t=1)(e:mov f t=g)(eN:rF far N f=f)(rK:∀j,0<j→j<N→rF far j f≠f)(eM:rF far M g=g)(rM:∀j,0<j→j<M→rF far j g≠g)(hN:0<N)(hM:0<M):N=M∧tr (rT far M g)=tr (rT far N f):=by
 rcases Mi hf hg hd e with⟨m,h⟩|⟨m,h⟩
 ·have eg:rF far m f=g:=by rw[←Fb,←h.mov,e]
  subst eg
  have:=V0 hf eN rK eM rM hN hM
  subst this
  exact⟨rfl,Aab eN⟩
 ·have ef:rF far m g=f:=by rw[←Fb,←h.mov,←e,BZ hd]
  subst ef
  have:=V0 hg eM rM eN rK hM hN
  subst this
  exact⟨rfl,(Aab eM).symm⟩
def Aod{far:Int}{f:I3}(h:Lv far f):∀n:Nat,(rT far (n+1) f).2.1≠0∧0≤-(kB (rF far (n+1) f) far*((rT far (n+1) f).2.1*(rT far (n+1) f).1)):=by
 intro n
 induction n with
 | zero =>
  have e:rT far 1 f=Ca f far:=by show Ak _ (1,0,0,1)=_;exact Eo
  rw[e]
  simp[Ca]
 | succ n ih =>
  obtain⟨h1,h2⟩:=ih
  have hL:=Lv.rF (n+1) h
  rw[MJ (n:=n+1)]
  have er:rF far (n+1+1) f=aft far (rF far (n+1) f):=PJ
  rw[er]
  generalize rT far (n+1) f=t at *
  generalize rF far (n+1) f=g at *
  obtain⟨p,q,r,s⟩:=t
  have e1:(Ak (p,q,r,s) (Ca g far)).2.1=kB g far*q-p:=by simp only[Ak,Ca];grind
  have e2:(Ak (p,q,r,s) (Ca g far)).1=q:=by simp only[Ak,Ca];grind
  rw[e1,e2]
  simp only at h1 h2
  have ks:=hL.iz
  have ks':=hL.next.iz
  have ha:=Ox hL.S
  have fst:=(GK hL).1
  have key:0<(kB g far*q-p)*(kB g far*q):=by
   have k0:kB g far≠0:=by
    rcases Int.lt_or_lt_of_ne ha with z|z
    ·have:=ks.2 z;omega
    ·have:=ks.1 z;omega
   have kq:kB g far*q≠0:=Int.mul_ne_zero k0 h1
   have x1:=sq_pos kq
   have x2:(kB g far*q-p)*(kB g far*q)=(kB g far*q)*(kB g far*q) + -(kB g far*(q*p)):=by grind
   omega
  refine⟨fun z=>by rw[z]at key;simp at key,?_⟩
  have hu:kB g far*kB (aft far g) far<0:=by
   rcases Int.lt_or_lt_of_ne ha with z|z
   ·have a1:=ks.2 z
    have a2:=ks'.1 (by rw[fst];exact hL.pos z)
    exact Int.mul_neg_of_pos_of_neg a1 a2
   ·have a1:=ks.1 z
    have a2:=ks'.2 (by rw[fst];exact hL.neg z)
    exact Int.mul_neg_of_neg_of_pos a1 a2
  generalize kB g far=k at *
  generalize kB (aft far g) far=k' at *
  generalize k*q-p=w at *
  rcases Int.lt_or_le 0 (k'*(w*q))with z|z
  ·exfalso
   have x:=Int.mul_pos key z
   have e3:w*(k*q)*(k'*(w*q))=(k*k')*((w*q)*(w*q)):=by grind
   have y:=Int.mul_nonneg (show 0≤-(k*k') by omega) (sq_nonneg (w*q))
   have e4:-(k*k')*((w*q)*(w*q))=-((k*k')*((w*q)*(w*q))):=by grind
   omega
  ·omega
def Aew{m:Nat}{x:Int}(h0:0≤x)(h:x≤2 ^ m):Bt (m+1) x:=by
 unfold Bt
 obtain⟨X,rfl⟩:=Int.eq_ofNat_of_zero_le h0
 have e:((2:Int) ^ m)=((2 ^ m:Nat):Int):=by push_cast;rfl
 rw[e]at h
 rw[Int.natAbs_natCast,Nat.pow_succ]
 have:0<2 ^ m:=Nat.pow_pos ⋯
 omega
def above(n x1 y1 x2 y2:Int):Prop:=(x1*y2+x2*y1)*(x1*y2+x2*y1)<n*(2*y1*y2)*(2*y1*y2)
def Ami{a b:Int}(ha:0≤a)(h:a<b):a*a<b*b:=by
 have h1:=Int.mul_le_mul_of_nonneg_left (Int.le_of_lt h) ha
 have h2:=Int.mul_lt_mul_of_pos_right h (show 0<b by omega)
 omega
def slv(n f:Nat):Nat→Nat→Nat→Nat→Nat→Nat→Nat→Nat→Bool
 |0,_,_,_,_,_,_,_=>false
 | k+1,p,q,a,x',y',x,y =>
  (fun p'=>(fun q'=>(fun a'=>if Nat.beq q' 1 then(Nat.beq (x*x) (n*(y*y)+1)||Nat.beq (x*x+1) (n*(y*y)))&&(Nat.ble 1 y&&(Nat.ble 1 x&&(Nat.ble x (2 ^ 240)&&Nat.ble y (2 ^ 240))))else slv n f k p' q' a' x y (a'*x+x') (a'*y+y'))
   ((f+p') / q')) ((n-p'*p') / q)) (a*q-p)
def Aeq(f:Nat):Nat→Bool
 |0=>true
 |d+1=>slv (f*f+(d+1)) f 140 0 1 f 1 0 f 1&&Aeq f d
def AgU:Nat→Bool
 |0=>true
 |f+1=>Aeq (f+1) (2*(f+1))&&AgU f
theorem Afg:AgU 63=true:=by decide +kernel
def Aax{f:Nat}:∀{d k:Nat},Aeq f d=true→1≤k→k≤d→slv (f*f+k) f 140 0 1 f 1 0 f 1=true
 |0,k,_,h1,h2=>by omega
 | d+1,k,h,h1,h2=>by
  unfold Aeq at h
  rw[Bool.and_eq_true]at h
  rcases Nat.lt_or_ge k (d+1)with z|z
  ·exact Aax h.2 h1 ∅
  ·have:k=d+1:=∅
   subst this
   exact h.1
theorem Aal:∀{F f:Nat},AgU F=true→1≤f→f≤F→Aeq f (2*f)=true
 |0,f,_,h1,h2=>by omega
 | F+1,f,h,h1,h2=>by
  unfold AgU at h
  rw[Bool.and_eq_true]at h
  rcases Nat.lt_or_ge f (F+1)with z|z
  ·exact Aal h.2 h1 ∅
  ·have:f=F+1:=∅
   subst this
   exact h.1
def Ad8{n f:Nat}:∀(k p q a x' y' x y:Nat),slv n f k p q a x' y' x y=true→∃X Y:Nat,X*X=n*(Y*Y)+1∧1≤X∧1≤Y∧Y≤2 ^ 481
 |0,p,q,a,x',y',x,y,h=>by cases h
 | k+1,p,q,a,x',y',x,y,h=>by
  unfold slv at h
  dsimp only at h
  split at h
  ·simp only[Bool.and_eq_true,Bool.or_eq_true,Nat.ble_eq,Nat.beq_eq]at h
   obtain⟨h1,h2,h3,h4,h5⟩:=h
   rcases h1 with h1|h1
   ·exact⟨x,y,h1,h3,h2,Nat.le_trans h5 (Nat.pow_le_pow_right ⋯ ⋯)⟩
   ·refine⟨x*x+n*(y*y),2*(x*y),?_,?_,?_,?_⟩
    ·have e1:n*(2*(x*y)*(2*(x*y)))=4*((x*x)*(n*(y*y))):=by grind
     rw[e1,←h1]
     generalize x*x=z
     grind
    ·have:=Nat.mul_le_mul h3 h3
     omega
    ·have:=Nat.mul_le_mul h3 h2
     omega
    ·have:=Nat.mul_le_mul h4 h5
     have e:(2:Nat) ^ 481=2*(2 ^ 240*2 ^ 240):=by rw[←Nat.pow_add,←Nat.pow_succ']
     rw[e]
     omega
  ·exact Ad8 k _ _ _ _ _ _ _ h
theorem solved{n f:Int}(h:Sq n f)(h1:1≤n)(hm:n≤4000)(hs:f*f≠n):∃X Y:Int,X*X-n*(Y*Y)=1∧1≤X∧1≤Y∧Y≤2 ^ 481:=by
 obtain⟨h0,h2,h3⟩:=h
 have f1:1≤f:=by
  rcases Int.lt_or_le f 1 with z|z
  ·have:f=0:=∅
   subst this
   omega
  ·exact z
 have f63:f≤63:=by
  rcases Int.lt_or_le 63 f with z|z
  ·have:=Int.mul_le_mul (show 64≤f by omega) (show 64≤f by omega) ⋯ ∅
   omega
  ·exact z
 obtain⟨F,rfl⟩:=Int.eq_ofNat_of_zero_le h0
 have e1:((F:Int)+1)*((F:Int)+1)=F*F+2*F+1:=by grind
 obtain⟨d,hd⟩:=Int.eq_ofNat_of_zero_le (show 0≤n-(F:Int)*F by omega)
 have en:n=((F*F+d:Nat):Int):=by
  have:=Int.natCast_mul F F
  omega
 subst en
 obtain⟨X,Y,x1,x2,x3,x4⟩:=Ad8 140 _ _ _ _ _ _ _ (Aax (Aal Afg (f:=F) ∅ ∅) (k:=d) ∅ ∅)
 refine⟨(X:Int),(Y:Int),?_,∅,∅,?_⟩
 ·have c1:=Int.natCast_mul X X
  have c2:=Int.natCast_mul Y Y
  have c3:=Int.natCast_mul (F*F+d) (Y*Y)
  rw[←c1,←c2,←c3]
  omega
 ·have e:((2:Int) ^ 481)=((2 ^ 481:Nat):Int):=by push_cast;rfl
  rw[e]
  omega
def Wo{x y:Int}(h:x*x≤y*y):ab x≤ab y:=by
 rcases Int.lt_or_le (ab y) (ab x)with z|z
 ·exfalso
  have a:=Ami (BL y) z
  have e:∀x:Int,ab x*ab x=x*x:=fun x=>by rcases Ar x with⟨_,e⟩|⟨_,e⟩<;>rw[e]<;>grind
  rw[e,e]at a
  omega
 ·exact z
def Aih{far:Int}{f:I3}(h:Lv far f)(n:Nat):ab (rT far (n+1) f).2.1≤ab (rT far (n+1+1) f).2.1:=by
 obtain⟨h1,h2⟩:=Aod h n
 have hv:=Lv.rF (n+1) h
 have ks:=hv.iz
 have ha:=Ox hv.S
 have k0:kB (rF far (n+1) f) far≠0:=by
  rcases Int.lt_or_le 0 (rF far (n+1) f).1 with z|z
  ·have:=ks.1 z;omega
  ·have:=ks.2 ∅;omega
 have e:(rT far (n+1+1) f).2.1=-(rT far (n+1) f).1+(rT far (n+1) f).2.1*kB (rF far (n+1) f) far:=by
  rw[MJ]
  show(rT far (n+1) f).1*(-1)+(rT far (n+1) f).2.1*kB (rF far (n+1) f) far=_
  omega
 rw[e]
 apply Wo
 generalize kB (rF far (n+1) f) far=k at *
 generalize (rT far (n+1) f).1=p at *
 generalize (rT far (n+1) f).2.1=q at *
 have a1:(-p+q*k)*(-p+q*k)=p*p+2 * -(k*(q*p))+k*k*(q*q):=by grind
 have a2:=sq_pos k0
 have a3:=Int.mul_le_mul_of_nonneg_right a2 (sq_nonneg q)
 have a4:=sq_nonneg p
 omega
def Yt{far:Int}{f:I3}(h:Lv far f)(n:Nat):∀d,ab (rT far (n+1) f).2.1≤ab (rT far (n+1+d) f).2.1
 |0=>Int.le_refl _
 | d+1=>by
  have a:=Yt h n d
  have b:=Aih h (n+d)
  rw[show n+d+1=n+1+d by omega]at b
  exact Int.le_trans a b
def AbW{f:I3}{t w:Int}(ha:f.1≠0)(h:t*t-meas (pl f)*(w*w)=4):∃T:I4,det T=1∧mov f T=f∧T.2.1=-((pl f).2.2*w):=by
 obtain⟨e1,e2,e3⟩:=PX f
 generalize pl f=Z at *
 obtain⟨a,b,c⟩:=Z
 dsimp only at *
 have hm:meas (a,b,c)=b*b-4*a*c:=rfl
 rw[hm]at h
 obtain⟨P',hP⟩:∃P':Int,t=2*P'+b*w:=by
  have h1:(t-b*w) % 2=0:=by
   have e:(t-b*w)*(t-b*w)=4+2*(-(2*a*c*(w*w))-b*w*(t-b*w)):=by grind
   have h2:((t-b*w)*(t-b*w)) % 2=0:=∅
   rcases(show(t-b*w) % 2=0∨(t-b*w) % 2=1 by omega)with z|z
   ·exact z
   ·rw[Int.mul_emod,z]at h2
    cases h2
  exact⟨(t-b*w) / 2,∅⟩
 subst hP
 have key:P'*P'+b*P'*w+a*c*(w*w)=1:=by grind
 refine⟨(P',-(c*w),a*w,P'+b*w),?_,?_,rfl⟩
 ·show P'*(P'+b*w) - -(c*w)*(a*w)=1
  grind
 ·have e:f=((g3 f:Int)*a,(g3 f:Int)*b,(g3 f:Int)*c):=Prod.ext e1 (Prod.ext e2 e3)
  generalize (g3 f:Int)=g at *
  subst e
  simp only[mov,val,mid]
  refine Prod.ext ?_ (Prod.ext ?_ ?_)<;>dsimp only
  ·have:g*a*P'*P'+g*b*P'*(a*w)+g*c*(a*w)*(a*w)=g*a*(P'*P'+b*P'*w+a*c*(w*w)):=by grind
   rw[this,key,Int.mul_one]
  ·have:2*(g*a)*P' * -(c*w)+g*b*(P'*(P'+b*w) + -(c*w)*(a*w))+2*(g*c)*(a*w)*(P'+b*w)=g*b*(P'*P'+b*P'*w+a*c*(w*w)):=by grind
   rw[this,key,Int.mul_one]
  ·have:g*a * -(c*w) * -(c*w)+g*b * -(c*w)*(P'+b*w)+g*c*(P'+b*w)*(P'+b*w)=g*c*(P'*P'+b*P'*w+a*c*(w*w)):=by grind
   rw[this,key,Int.mul_one]
def AfP{far:Int}{g:I3}{N:Nat}{v t w:Int}(h:Lv far g)(hN:0<N)(min:∀j,0<j→j<N→rF far j g≠g)(hv:(rT far N g).2.1=-((pl g).2.2*v))(hw:w≠0)(e:t*t-meas (pl g)*(w*w)=4):ab v≤ab w:=by
 have ha:=Ox h.S
 have hc:=Gg h.S
 have hc':(pl g).2.2≠0:=fun z=>hc (by rw[(PX g).2.2,z];simp)
 obtain⟨T,d,m,q⟩:=AbW ha e
 have key:∃k,ab (rT far k g).2.1=ab ((pl g).2.2*w)∧rF far k g=g:=by
  have an:∀x:Int,ab (-x)=ab x:=fun x=>by rcases Ar x with⟨_,e⟩|⟨_,e⟩<;>rcases Ar (-x)with⟨_,e'⟩|⟨_,e'⟩<;>omega
  rcases Mi h h d m with⟨k,s⟩|⟨k,s⟩
  ·refine⟨k,?_,by rw[←Fb,←s.mov,m]⟩
   rcases s with s|s
   ·rw[←s,q,an]
   ·have:T.2.1=-(rT far k g).2.1:=by rw[s];rfl
    rw[←an,←this,q,an]
  ·have mb:mov g (Ba T)=g:=by
    have:=BZ (f:=g) d
    rw[m]at this
    exact this
   refine⟨k,?_,by rw[←Fb,←s.mov,mb]⟩
   have bq:(Ba T).2.1=-T.2.1:=rfl
   rcases s with s|s
   ·rw[←s,bq,an,q,an]
   ·have:(Ba T).2.1=-(rT far k g).2.1:=by rw[s];rfl
    rw[←an,←this,bq,an,q,an]
 obtain⟨k,k1,k2⟩:=key
 have k0:k≠0:=fun z=>by
  subst z
  have e0:(rT far 0 g).2.1=0:=rfl
  rw[e0,←Kh]at k1
  have h1:1≤ab (pl g).2.2:=by rcases Ar (pl g).2.2 with⟨_,e⟩|⟨_,e⟩<;>omega
  have h2:1≤ab w:=by rcases Ar w with⟨_,e⟩|⟨_,e⟩<;>omega
  have h3:=Int.mul_le_mul h1 h2 ⋯ ∅
  have h4:ab (0:Int)=0:=rfl
  omega
 have kN:N≤k:=by
  rcases Nat.lt_or_ge k N with z|z
  ·exact absurd k2 (min k ∅ z)
  ·exact z
 have gr:=Yt h (N-1) (k-N)
 rw[show N-1+1=N by omega,show N+(k-N)=k by omega,k1,hv]at gr
 have an:ab (-((pl g).2.2*v))=ab ((pl g).2.2*v):=by rcases Ar ((pl g).2.2*v)with⟨_,e⟩|⟨_,e⟩<;>rcases Ar (-((pl g).2.2*v))with⟨_,e'⟩|⟨_,e'⟩<;>omega
 rw[an,←Kh,←Kh]at gr
 have h1:1≤ab (pl g).2.2:=by rcases Ar (pl g).2.2 with⟨_,e⟩|⟨_,e⟩<;>omega
 exact Int.le_of_mul_le_mul_left gr ∅
def Agk{far:Int}{g:I3}{N:Nat}{v:Int}(h:Lv far g)(hN:0<N)(min:∀j,0<j→j<N→rF far j g≠g)(hv:(rT far N g).2.1=-((pl g).2.2*v))(hm1:1≤meas (pl g))(hm:meas (pl g)≤4000)(hs:¬Je (meas (pl g))){r:Int}(hr:Sq (meas (pl g)) r):Bt 490 v:=by
 obtain⟨X,Y,e,x1,y1,ym⟩:=solved hr hm1 hm fun z=>hs ⟨r,z⟩
 have:=AfP (t:=2*X) (w:=2*Y) h hN min hv ∅ (by
  have:2*X*(2*X)-meas (pl g)*(2*Y*(2*Y))=4*(X*X-meas (pl g)*(Y*Y)):=by grind
  rw[this,e]
  rfl)
 have e2:ab (2*Y)=2*Y:=by rcases Ar (2*Y)with⟨_,e⟩|⟨_,e⟩<;>omega
 have h3:Bt 490 (2*Y):=by
  have:Bt 483 (2*Y):=Aew ∅ (by
   have e4:(2:Int) ^ 482=2*2 ^ 481:=by rw[Int.pow_succ,Int.mul_comm]
   omega)
  exact this.le ⋯
 exact Vz h3 ∅
def pw(s:I4):Nat→I4
 |0=>(1,0,0,1)
 |n+1=>Ak (pw s n) s
def Adg{f g:I3}(h1:f.1=g.1)(h2:f.2.1=g.2.1)(h3:f.2.2=g.2.2):f=g:=Prod.ext h1 (Prod.ext h2 h3)
def r4(t:I4):List Int:=[t.1,t.2.1,t.2.2.1,t.2.2.2]
structure Gd(D:Int)(f:I3):Prop where
 m:meas f=D
 p:g3 f=1
 n:¬Je D
section
variable{D:Int}{U f:I3}(u1:U.1=1)(um:meas U=D)(hf:Gd D f)
end
def hs(M:Nat):Nat→Nat
 |0=>0
 |i+1=>hs M i+2 ^ (10*(i*i % (4*M)))
def ck(t:Nat):Nat→Nat→Bool
 |0,_=>true
 |k+1,H=>Nat.ble (H % 1024) t&&ck t k (H / 1024)
def tbL:List Nat:=[1,2,2,2,2,4,2,4,3,4,2,4,2,4,4,4,2,6,2,4,4,4,2,8,5,4,6,4,2,8,2,8,4,4,4,6,2,4,4,8,2,8,2,4,6,4,2,8,7,10,4,4,2,12,4,8,4,4,2,8,2,4,6,8,4,8,2,4,4,8,2,12,2,4,10,4,4,8,2,8,9,4,2,8,4,4,4,8,2,12,4,4,4,4,4,16,2,14,6,10,2,8,2,8,8,4,2,12,2,8,4,8,2,8,4,4,6,4,4,16,11,4,4,4,10,12,2,16,4,8,2,8,4,4,12,8,2,8,2,8,4,4,4,12,4,4,14,4,2,20,2,8,6,8,4,8,2,4,4,16,4,18,2,4,8,4,2,16,13,8,6,4,2,8,10,8,4,4,2,12,2,8,4,8,4,8,4,4,12,8,2,16,2,4,8,14,2,12,2,20,4,4,4,8,4,4,6,8,4,16,2,4,4,4,4,24,4,4,4,8,4,8,2,16,15,4,2,8,2,8,8,8,2,12,4,4,4,8,2,16,2,22,18,4,14,8,4,8,4,20,2,12,4,4,8,16,2,8,4,8,6,4,2,16,4,8,4,4,2,24,2,8,8,4,10,8,2,4,6,16,2,8,2,4,8,8,4,24,17,8,4,4,2,28,4,8,12,4,4,20,4,4,4,8,4,12,2,8,4,8,2,16,2,4,12,4,2,8,4,16,4,8,4,18,10,4,4,8,4,16,2,4,6,4,4,16,2,26,4,8,4,12,14,8,8,4,2,8,2,20,12,16,2,8,4,4,8,4,2,24,19,4,22,8,4,8,2,8,6,8,4,8,2,8,20,8,4,24,2,8,4,4,2,32,8,4,6,4,2,16,4,28,4,4,4,12,2,4,8,20]
def tb(M:Nat):Nat:=tbL.getD (M-1) 0
def Zv:Nat→Bool
 |0=>true
 |M+1=>ck (tb (M+1)) (4*(M+1)) (hs (M+1) (2*(M+1)))&&Zv M
set_option maxRecDepth 1000000 in
theorem Ah9:Zv 400=true:=by decide +kernel
theorem AhQ:∀(n M:Nat),Zv n=true→0<M→M≤n→ck (tb M) (4*M) (hs M (2*M))=true
 |0,M,_,h1,h2=>by omega
 | n+1,M,h,h1,h2=>by
  unfold Zv at h
  rw[Bool.and_eq_true]at h
  by_cases e:M=n+1
  ·subst e;exact h.1
  ·exact AhQ n M h.2 h1 ∅
def O9:List Nat→Nat
 | []=>0
 |e::es=>O9 es+2 ^ (10*e)
def G7:List Nat→List Nat
 | []=>[]
 |0::es=>G7 es
 |(e+1)::es=>e::G7 es
theorem Nx:∀es:List Nat,O9 es=es.count 0+1024*O9 (G7 es)
 | []=>rfl
 | 0::es=>by
  rw[O9,G7,Nx es,List.count_cons_self]
  omega
 | (e+1)::es=>by
  rw[O9,G7,O9,Nx es,List.count_cons_of_ne ∅]
  have:2 ^ (10*(e+1))=1024*2 ^ (10*e):=by
   rw[show 10*(e+1)=10+10*e by omega,Nat.pow_add]
  rw[this]
  omega
def J8(c:Nat):∀es:List Nat,(G7 es).count c=es.count (c+1)
 | []=>rfl
 |0::es=>by rw[G7,J8 c es,List.count_cons_of_ne ∅]
 | (e+1)::es=>by
  rw[G7,List.count_cons,List.count_cons,J8 c es]
  by_cases h:e=c
  ·subst h;simp
  ·have h2:¬e+1=c+1:=∅
   simp[h]
theorem Oj:∀es:List Nat,(G7 es).length≤es.length
 | []=>Nat.le_refl _
 |0::es=>by rw[G7,List.length_cons];have:=Oj es;omega
 |(e+1)::es=>by rw[G7,List.length_cons,List.length_cons];have:=Oj es;omega
def Ws{t:Nat}:∀(K:Nat)(es:List Nat),es.length<1024→ck t K (O9 es)=true→∀c,c<K→es.count c≤t
 |0,_,_,_,c,hc=>by omega
 | K+1,es,hl,h,c,hc=>by
  unfold ck at h
  rw[Bool.and_eq_true]at h
  have h0:es.count 0<1024:=Nat.lt_of_le_of_lt List.count_le_length hl
  have e:=Nx es
  have e1:O9 es % 1024=es.count 0:=∅
  have e2:O9 es / 1024=O9 (G7 es):=∅
  rw[e1,e2]at h
  match c with
  |0=>exact Nat.le_of_ble_eq_true h.1
  | c+1 =>
   rw[←J8]
   exact Ws K _ (Nat.lt_of_le_of_lt (Oj es) hl) h.2 c ∅
def sqs(M:Nat):Nat→List Nat
 |0=>[]
 |i+1=>(i*i % (4*M))::sqs M i
def Ado(M:Nat):∀n,hs M n=O9 (sqs M n)
 |0=>rfl
 |n+1=>by rw[hs,sqs,O9,Ado M n]
def ZP(M:Nat):∀n,(sqs M n).length=n
 |0=>rfl
 |n+1=>by rw[sqs,List.length_cons,ZP M n]
def AbP{M c:Nat}(h0:0<M)(h:M≤400)(hc:c<4*M):(sqs M (2*M)).count c≤tb M:=by
 have:=AhQ 400 M Ah9 h0 h
 rw[Ado]at this
 exact Ws _ _ (by rw[ZP];omega) this c hc
def mids(m D:Int):Nat→List Int
 |0=>[]
 |i+1=>mids m D i++(if((i:Int)*i-D).fmod (4*m)=0 then [(i:Int)]else [])
def QC{m D:Int}(m0:m≠0):∀n,(mids m D n).length≤(sqs m.natAbs n).count (D % (4*m.natAbs:Int)).toNat
 |0=>Nat.le_refl _
 | n+1=>by
  have ih:=QC (D:=D) m0 n
  rw[mids,sqs,List.length_append]
  split
  ·rename_i h
   have hd:(4*m)∣((n:Int)*n-D):=Int.dvd_of_fmod_eq_zero h
   have hd2:(4*(m.natAbs:Int))∣((n:Int)*n-D):=by
    rcases Int.natAbs_eq m with e|e
    ·rw[←e];exact hd
    ·have:4*(m.natAbs:Int)=-(4*m):=∅
     rw[this]
     exact Int.neg_dvd.mpr hd
   have e1:D % (4*m.natAbs:Int)=((n*n % (4*m.natAbs):Nat):Int):=by
    have:((n:Int)*n) % (4*m.natAbs:Int)=D % (4*m.natAbs:Int):=Int.emod_eq_emod_iff_emod_sub_eq_zero.mpr (Int.emod_eq_zero_of_dvd hd2)
    rw[←this]
    push_cast
    rfl
   rw[e1,Int.toNat_natCast,List.count_cons_self]
   rw[e1,Int.toNat_natCast]at ih
   simp only[List.length_cons,List.length_nil]
   omega
  ·simp only[List.length_nil,Nat.add_zero]
   exact Nat.le_trans ih (List.count_le_count_cons ..)
def AdO{m D:Int}(m0:m≠0)(h:m.natAbs≤400):(mids m D (2*m.natAbs)).length≤tb m.natAbs:=by
 have hp:0<m.natAbs:=∅
 refine Nat.le_trans (QC m0 _) (AbP hp h ?_)
 have:=Int.emod_lt_of_pos D (show(0:Int)<4*m.natAbs by omega)
 have:=Int.emod_nonneg D (show(4*m.natAbs:Int)≠0 by omega)
 omega
def Jm(N:Nat):Nat→Nat
 |0=>0
 |g+1=>Jm N g+(if N % ((g+1)*(g+1))=0 then tb (N / ((g+1)*(g+1)))else 0)
set_option maxRecDepth 1000000 in
theorem Ab9:∀N,N<401→Jm N 20<64:=by decide +kernel
def Gf(m D:Int):List I3:=(mids m D (2*m.natAbs)).map fun b=>(m,b,(b*b-D).fdiv (4*m))
def Ko{m D b:Int}:∀{n:Nat},b∈mids m D n↔0≤b∧b<n∧(b*b-D).fmod (4*m)=0
 | 0=>by
  rw[mids]
  constructor
  ·intro h;cases h
  ·rintro⟨h1,h2,_⟩;omega
 | n+1=>by
  rw[mids,List.mem_append,Ko (n:=n)]
  constructor
  ·rintro(⟨h1,h2,h3⟩|h)
   ·exact⟨h1,∅,h3⟩
   ·split at h
    ·rename_i e
     simp only[List.mem_singleton]at h
     subst h
     exact⟨∅,∅,e⟩
    ·cases h
  ·rintro⟨h1,h2,h3⟩
   by_cases e:b=(n:Int)
   ·subst e
    right
    rw[if_pos h3]
    exact List.mem_singleton.mpr rfl
   ·left
    exact⟨h1,∅,h3⟩
structure K5(m D:Int)(f:I3):Prop where
 a:f.1=m
 lo:0≤f.2.1
 hi:f.2.1<2*m.natAbs
 me:meas f=D
def Fd{m D:Int}{f:I3}(m0:m≠0):f∈Gf m D↔K5 m D f:=by
 have m4:4*m≠0:=∅
 unfold Gf
 rw[List.mem_map]
 constructor
 ·rintro⟨b,hb,rfl⟩
  obtain⟨h1,h2,h3⟩:=Ko.mp hb
  refine⟨rfl,h1,by show b<_;omega,?_⟩
  have:=Int.fmod_add_mul_fdiv (b*b-D) (4*m)
  rw[h3]at this
  unfold meas
  show b*b-4*m*(b*b-D).fdiv (4*m)=D
  omega
 ·rintro⟨h1,h2,h3,h4⟩
  obtain⟨a,b,c⟩:=f
  dsimp only at h1 h2 h3
  subst h1
  have h4:b*b-4*a*c=D:=h4
  have e:b*b-D=4*a*c:=∅
  refine⟨b,Ko.mpr ⟨h2,∅,?_⟩,?_⟩
  ·rw[e];exact Int.mul_fmod_right ..
  ·rw[e,Int.mul_fdiv_cancel_left _ m4]
def Ir(n:Int):Nat→List Int
 |0=>[]
 |i+1=>Ir n i++(if n.fmod ((1+(i:Int))*(1+(i:Int)))=0 then [1+(i:Int)]else [])
def Dg{n g:Int}:∀{r:Nat},g∈Ir n r↔1≤g∧g≤r∧n.fmod (g*g)=0
 | 0=>by
  rw[Ir]
  constructor
  ·intro h;cases h
  ·rintro⟨h1,h2,_⟩;omega
 | r+1=>by
  rw[Ir,List.mem_append,Dg (r:=r)]
  constructor
  ·rintro(⟨h1,h2,h3⟩|h)
   ·exact⟨h1,∅,h3⟩
   ·split at h
    ·rename_i e
     simp only[List.mem_singleton]at h
     subst h
     exact⟨∅,∅,e⟩
    ·cases h
  ·rintro⟨h1,h2,h3⟩
   by_cases e:g=1+(r:Int)
   ·subst e
    right
    rw[if_pos h3]
    exact List.mem_singleton.mpr rfl
   ·left
    exact⟨h1,∅,h3⟩
def Ja{n g:Int}(g0:g≠0)(h:n.fmod (g*g)=0):g*g*n.fdiv (g*g)=n:=by
 have:=Int.fmod_add_mul_fdiv n (g*g)
 rw[h]at this
 omega
def Aap{n g m:Int}{r:Nat}(g0:1≤g)(e:g*g*m=n)(n0:n≠0)(hr:Sq n.natAbs r):g∈Ir n r∧n.fdiv (g*g)=m:=by
 have gg:g*g≠0:=Int.mul_ne_zero ∅ ∅
 refine⟨Dg.mpr ⟨g0,?_,?_⟩,?_⟩
 ·obtain⟨h1,h2,h3⟩:=hr
  have m0:m≠0:=fun z=>n0 (by rw[←e,z];omega)
  have hm:1≤m.natAbs:=∅
  have hn:(n.natAbs:Int)=g*g*m.natAbs:=by
   rw[←e,Int.natAbs_mul]
   have:(g*g).natAbs=g*g:=by
    have:=Int.mul_nonneg (show 0≤g by omega) (show 0≤g by omega)
    omega
   push_cast
   rw[this]
  have le:g*g≤n.natAbs:=by
   rw[hn]
   have:g*g*1≤g*g*m.natAbs:=Int.mul_le_mul_of_nonneg_left ∅ (Int.mul_nonneg ∅ ∅)
   omega
  rcases Int.lt_or_le (r:Int) g with z|z
  ·have:((r:Int)+1)*(r+1)≤g*g:=Int.mul_le_mul ∅ ∅ ∅ ∅
   omega
  ·exact z
 ·rw[←e];exact Int.mul_fmod_right ..
 ·rw[←e,Int.mul_fdiv_cancel_left _ gg]
def AaE{α:Type}{n:Int}{F:Int→List α}(h:∀g:Nat,1≤g→n.natAbs % (g*g)=0→(F g).length≤tb (n.natAbs / (g*g))):∀r:Nat,((Ir n r).flatMap F).length≤Jm n.natAbs r
 |0=>Nat.le_refl _
 | r+1=>by
  rw[Ir,Jm,List.flatMap_append,List.length_append]
  have ih:=AaE h r
  have e1:(1+(r:Int))*(1+(r:Int))=(((r+1)*(r+1):Nat):Int):=by push_cast;grind
  split
  ·rename_i z
   have hz:n.natAbs % ((r+1)*(r+1))=0:=by
    have hd:=Int.dvd_of_fmod_eq_zero z
    rw[e1]at hd
    exact Nat.mod_eq_zero_of_dvd (Int.ofNat_dvd_left.mp hd)
   rw[if_pos hz]
   have:=h (r+1) ∅ hz
   have e2:(1+(r:Int))=((r+1:Nat):Int):=by push_cast;omega
   rw[e2]
   simp only[List.flatMap_cons,List.flatMap_nil,List.append_nil]
   omega
  ·rename_i z
   simp only[List.flatMap_nil,List.length_nil]
   omega
def LR(N:Nat):∀k r:Nat,Jm N r≤Jm N (r+k)
 |0,_=>Nat.le_refl _
 |k+1,r=>Nat.le_trans (LR N k r) (by rw[show r+(k+1)=r+k+1 by omega,Jm];omega)
def CQ(x y g u v:Int):I4:=(x.fdiv g,-v,y.fdiv g,u)
def Ld(f:I3):Int:=(f.2.1.fmod (2*f.1).natAbs-f.2.1).fdiv (2*f.1)
def ZD{f:I3}(h:f.1≠0):f.2.1+2*f.1*Ld f=f.2.1.fmod (2*f.1).natAbs∧0≤f.2.1.fmod (2*f.1).natAbs∧f.2.1.fmod (2*f.1).natAbs<2*f.1.natAbs:=by
 have hp:(0:Int)<(2*f.1).natAbs:=∅
 obtain⟨r1,r2⟩:=Ci f.2.1 hp
 refine⟨?_,r1,∅⟩
 unfold Ld
 have hd:(2*f.1)∣(f.2.1.fmod (2*f.1).natAbs-f.2.1):=by
  have e:=Int.fmod_def f.2.1 (2*f.1).natAbs
  have d0:(2*f.1)∣((2*f.1).natAbs:Int):=by
   rcases Int.natAbs_eq (2*f.1)with z|z
   ·exact⟨1,∅⟩
   ·exact⟨-1,∅⟩
  obtain⟨k,hk⟩:=d0
  exact⟨-(k*f.2.1.fdiv (2*f.1).natAbs),by rw[e];rw[hk];grind⟩
 have:=Int.mul_fdiv_cancel' hd
 omega
def WR{f:I3}{k:Int}:mov f (1,k,0,1)=(f.1,f.2.1+2*f.1*k,f.1*k*k+f.2.1*k+f.2.2):=by
 simp only[mov,val,mid,Prod.mk.injEq]
 refine⟨by grind,by grind,by grind⟩
def AhO{k:Int}:det (1,k,0,1)=1:=by
 show 1*1-k*0=1
 omega
def Ae3{f:I3}{x y g u v n:Int}(hn:val f (x,y)=n)(n0:n≠0)(g0:1≤g)(gx:g∣x)(gy:g∣y)(b:u*x+v*y=g) :
  ∃m,g*g*m=n∧m≠0∧det (CQ x y g u v)=1∧(mov f (CQ x y g u v)).1=m ∧
   det (Ak (CQ x y g u v) (1,Ld (mov f (CQ x y g u v)),0,1))=1∧K5 m (meas f) (mov f (Ak (CQ x y g u v) (1,Ld (mov f (CQ x y g u v)),0,1))) ∧
   K6 (Ak (CQ x y g u v) (1,Ld (mov f (CQ x y g u v)),0,1)) (g,0)=(x,y):=by
 obtain⟨p,rfl⟩:=gx
 obtain⟨r,rfl⟩:=gy
 have gn:g≠0:=∅
 have e1:(g*p).fdiv g=p:=Int.mul_fdiv_cancel_left _ gn
 have e2:(g*r).fdiv g=r:=Int.mul_fdiv_cancel_left _ gn
 have hd:p*u+v*r=1:=by
  refine Int.eq_of_mul_eq_mul_left gn ?_
  rw[Int.mul_one]
  grind
 have eT:CQ (g*p) (g*r) g u v=(p,-v,r,u):=by unfold CQ;rw[e1,e2]
 rw[eT]
 have dT:det (p,-v,r,u)=1:=by
  show p*u - -v*r=1
  grind
 have hm:g*g*val f (p,r)=n:=by
  rw[←hn]
  simp only[val]
  grind
 have m1:(mov f (p,-v,r,u)).1=val f (p,r):=rfl
 have m0:val f (p,r)≠0:=fun z=>n0 (by rw[←hm,z];omega)
 refine⟨val f (p,r),hm,m0,dT,rfl,by rw[BR,dT,AhO];rfl,?_,?_⟩
 ·have k:=ZD (f:=mov f (p,-v,r,u)) m0
  rw[←Ay]
  refine⟨by rw[WR];exact m1,?_,?_,by rw[Bl AhO,Bl dT]⟩
  ·rw[WR]
   show 0≤(mov f (p,-v,r,u)).2.1+2*(mov f (p,-v,r,u)).1*Ld (mov f (p,-v,r,u))
   rw[k.1]
   exact k.2.1
  ·rw[WR]
   show(mov f (p,-v,r,u)).2.1+2*(mov f (p,-v,r,u)).1*Ld (mov f (p,-v,r,u))<_
   rw[k.1]
   exact k.2.2
 ·rw[Aex]
  simp only[K6,Prod.mk.injEq]
  refine⟨by grind,by grind⟩
def AbF{f:I3}{T T':I4}{m D:Int}(m0:m≠0)(d:det T=1)(d':det T'=1)(A:K5 m D (mov f T))(B:K5 m D (mov f T'))(e:(T'.1=T.1∧T'.2.2.1=T.2.2.1)∨(T'.1=-T.1∧T'.2.2.1=-T.2.2.1)):mov f T=mov f T':=by
 obtain⟨p,q,r,s⟩:=T
 obtain⟨p',q',r',s'⟩:=T'
 dsimp only at e
 have d:p*s-q*r=1:=d
 have d':p'*s'-q'*r'=1:=d'
 obtain⟨k,hk⟩:∃k,mov f (p',q',r',s')=mov (mov f (p,q,r,s)) (1,k,0,1):=by
  rcases e with⟨rfl,rfl⟩|⟨rfl,rfl⟩
  ·refine⟨s*q'-q*s',?_⟩
   rw[Ay]
   congr 1
   simp only[Ak,Prod.mk.injEq]
   refine⟨∅,?_,∅,?_⟩<;>grind
  ·refine⟨-(s*q'-q*s'),?_⟩
   have en:mov f (-p,q',-r,s')=mov f (p,-q',r,-s'):=by
    simp only[mov,val,mid,Prod.mk.injEq]
    refine⟨by grind,by grind,by grind⟩
   rw[en,Ay]
   congr 1
   simp only[Ak,Prod.mk.injEq]
   refine⟨∅,?_,∅,?_⟩<;>grind
 rw[hk]at B ⊢
 rw[WR]at B ⊢
 have h1:=A.a
 have a1:=A.lo
 have a2:=A.hi
 have b1:=B.lo
 have b2:=B.hi
 dsimp only at b1 b2
 rw[h1]at b1 b2
 have hk0:k=0:=by
  rcases Int.lt_trichotomy k 0 with z|z|z
  ·exfalso
   rcases Int.lt_or_le 0 m with w|w
   ·have:m*k≤m * -1:=Int.mul_le_mul_of_nonneg_left ∅ ∅
    have e:2*m*k=2*(m*k):=by grind
    omega
   ·have:m*k≥m * -1:=by
     have:=Int.mul_le_mul_of_nonneg_left (c:=-m) (show k≤-1 by omega) ∅
     have e1:-m*k=-(m*k):=Int.neg_mul ..
     have e2:-m * -1=-(m * -1):=Int.neg_mul ..
     omega
    have e:2*m*k=2*(m*k):=by grind
    omega
  ·exact z
  ·exfalso
   rcases Int.lt_or_le 0 m with w|w
   ·have:m*1≤m*k:=Int.mul_le_mul_of_nonneg_left ∅ ∅
    have e:2*m*k=2*(m*k):=by grind
    omega
   ·have:m*k≤m*1:=by
     have:=Int.mul_le_mul_of_nonneg_left (c:=-m) (show 1≤k by omega) ∅
     have e1:-m*k=-(m*k):=Int.neg_mul ..
     have e2:-m*1=-(m*1):=Int.neg_mul ..
     omega
    have e:2*m*k=2*(m*k):=by grind
    omega
 subst hk0
 refine Adg rfl ?_ ?_
 ·show _=(mov f (p,q,r,s)).2.1+2*(mov f (p,q,r,s)).1*0
  omega
 ·show _=(mov f (p,q,r,s)).1*0*0+(mov f (p,q,r,s)).2.1*0+(mov f (p,q,r,s)).2.2
  omega
def Acn{far:Int}{f:I3}(n:Nat):(rT far (n+1+1) f).1=(rT far (n+1) f).2.1∧(rT far 1 f).1=0:=by
 constructor
 ·rw[MJ (n:=n+1)]
  generalize rT far (n+1) f=t
  generalize rF far (n+1) f=g
  obtain⟨p,q,r,s⟩:=t
  simp only[Ak,Ca]
  grind
 ·have e:rT far 1 f=Ca f far:=by show Ak _ (1,0,0,1)=_;exact Eo
  rw[e]
  rfl
def AdQ{g:I3}{far:Int}(h:Lv far g):1≤meas (pl g)∧meas (pl g)≤4000∧¬Je (meas (pl g))∧B3 7 (pl g):=by
 have ha:=Ox h.S
 have hg:=Yq ha
 have hmm:=AfU g
 have hp:=h.S.pos
 have sq1:=sq_pos (show(g3 g:Int)≠0 by omega)
 have p1:1≤meas (pl g):=by
  rcases Int.lt_or_le 0 (meas (pl g))with z|z
  ·omega
  ·have:=Int.mul_nonneg (show 0≤(g3 g:Int)*g3 g by omega) (show 0≤-meas (pl g) by omega)
   have e:(g3 g:Int)*g3 g * -meas (pl g)=-((g3 g:Int)*g3 g*meas (pl g)):=Int.mul_neg ..
   omega
 refine⟨p1,?_,fun⟨r,hr⟩=>h.S.no ⟨g3 g*r,?_⟩,?_⟩
 ·have:=h.S.most
  have:=Int.mul_le_mul_of_nonneg_right sq1 (show 0≤meas (pl g) by omega)
  omega
 ·rw[hmm,←hr]
  grind
 ·have lb:=Kr h.S h.r h.L
  obtain⟨e1,e2,e3⟩:=PX g
  have one:∀{x y:Int},Bt 7 x→x=(g3 g:Int)*y→Bt 7 y:=fun{x y} hx e=>by
   unfold Bt at *
   rw[e,Int.natAbs_mul]at hx
   have:1*y.natAbs≤(g3 g:Int).natAbs*y.natAbs:=Nat.mul_le_mul_right _ ∅
   omega
  exact⟨one lb.1 e1,one lb.2.1 e2,one lb.2.2 e3⟩
def AdD{n:Int}(h0:0≤n):∀k:Nat,n<(k:Int)*k→∃r,Sq n r
 |0,h=>by omega
 | k+1,h=>by
  rcases Int.lt_or_le n ((k:Int)*k)with z|z
  ·exact AdD h0 k z
  ·exact⟨k,∅,z,by push_cast at h;exact h⟩
def AiS{far:Int}{g:I3}{N:Nat}(h:Lv far g)(hN:0<N)(e:rF far N g=g)(min:∀j,0<j→j<N→rF far j g≠g):Bt 500 (rT far N g).2.1:=by
 obtain⟨p1,p4,ps,pb⟩:=AdQ h
 obtain⟨r,hr⟩:=AdD (n:=meas (pl g)) ∅ 64 ∅
 obtain⟨v,_,hq,_⟩:=Ady (Ox h.S) (N5 N g) (AcZ e)
 have bv:=Agk h hN min hq p1 p4 ps hr
 rw[hq]
 exact(pb.2.2.mul bv).neg.le ⋯
def AiC{n:Nat}{x y:Int}(h:Bt n y)(l:ab x≤ab y):Bt n x:=by
 unfold Bt at *
 rcases Ar x with⟨_,e⟩|⟨_,e⟩<;>rcases Ar y with⟨_,e'⟩|⟨_,e'⟩<;>omega
def AeS{far:Int}{g:I3}{N:Nat}(h:Lv far g)(hN:0<N)(e:rF far N g=g)(min:∀j,0<j→j<N→rF far j g≠g){j:Nat}(hj:j≤N):Bt 500 (rT far j g).1∧Bt 500 (rT far j g).2.1:=by
 have b:=AiS h hN e min
 have q:∀i,0<i→i≤N→Bt 500 (rT far i g).2.1:=fun i i0 il=>by
  obtain⟨i,rfl⟩:∃k,i=k+1:=⟨i-1,∅⟩
  have:=Yt h i (N-(i+1))
  rw[show i+1+(N-(i+1))=N by omega]at this
  exact AiC b this
 match j with
 |0=>exact⟨Bt.one.le ⋯,Bt.zero.le ⋯⟩
 |1=>exact⟨by rw[(Acn (far:=far) (f:=g) 0).2];exact Bt.zero.le ⋯,q 1 ⋯ hj⟩
 |j+2=>exact⟨by rw[(Acn (far:=far) (f:=g) j).1];exact q (j+1) ∅ ∅,q (j+2) ∅ hj⟩
def M6{g:I3}{p r a:Int}(hg:B3 7 g)(hc:g.2.2≠0)(ha:Bt 7 a)(e:val g (p,r)=a)(hp:Bt 500 p):Bt 512 r:=by
 obtain⟨x,y,z⟩:=g
 have e:x*p*p+y*p*r+z*r*r=a:=e
 obtain⟨hx,hy,hz⟩:=hg
 have hx:Bt 7 x:=hx
 have hy:Bt 7 y:=hy
 have hc:z≠0:=hc
 have key:r.natAbs≤300*(p.natAbs+1):=by
  refine Nat.le_of_not_lt fun big=>?_
  have e2:z*r*r=a-x*p*p-y*p*r:=∅
  have n1:(z*r*r).natAbs=z.natAbs*r.natAbs*r.natAbs:=by rw[Int.natAbs_mul,Int.natAbs_mul]
  have n2:(a-x*p*p-y*p*r).natAbs≤a.natAbs+x.natAbs*p.natAbs*p.natAbs+y.natAbs*p.natAbs*r.natAbs:=by
   have h1:(x*p*p).natAbs=x.natAbs*p.natAbs*p.natAbs:=by rw[Int.natAbs_mul,Int.natAbs_mul]
   have h2:(y*p*r).natAbs=y.natAbs*p.natAbs*r.natAbs:=by rw[Int.natAbs_mul,Int.natAbs_mul]
   omega
  rw[←e2,n1]at n2
  unfold Bt at hx hy ha
  generalize r.natAbs=R at *
  generalize p.natAbs=P at *
  have zz:1≤z.natAbs:=∅
  have m1:R*R≤z.natAbs*R*R:=by
   have:1*R*R≤z.natAbs*R*R:=Nat.mul_le_mul_right _ (Nat.mul_le_mul_right _ zz)
   rw[Nat.one_mul]at this
   exact this
  have m2:x.natAbs*P*P≤128*P*R:=Nat.mul_le_mul (Nat.mul_le_mul_right _ ∅) ∅
  have m3:y.natAbs*P*R≤128*P*R:=Nat.mul_le_mul_right _ (Nat.mul_le_mul_right _ ∅)
  have m4:(300*(P+1)+1)*R≤R*R:=Nat.mul_le_mul_right _ ∅
  have m5:(300*(P+1)+1)*R=300*P*R+301*R:=by grind
  have m6:300*P*R=128*P*R+128*P*R+44*P*R:=by grind
  omega
 unfold Bt at *
 have:(2:Nat) ^ 512=4096*2 ^ 500:=by rw[show 512=12+500 from rfl,Nat.pow_add]
 have:=Nat.two_pow_pos 500
 omega
def AgW{far:Int}{g:I3}{N:Nat}(h:Lv far g)(hN:0<N)(e:rF far N g=g)(min:∀j,0<j→j<N→rF far j g≠g){j:Nat}(hj:j≤N):B4 512 (rT far j g):=by
 obtain⟨b1,b2⟩:=AeS h hN e min hj
 have hv:=Lv.rF j h
 have lb:=Kr h.S h.r h.L
 have lj:=Kr hv.S hv.r hv.L
 have em:=Fb (far:=far) j g
 have e1:val g ((rT far j g).1,(rT far j g).2.2.1)=(rF far j g).1:=by rw[←em];rfl
 have e2:val g ((rT far j g).2.1,(rT far j g).2.2.2)=(rF far j g).2.2:=by rw[←em];rfl
 exact⟨b1.le ⋯,b2.le ⋯,M6 lb (Gg h.S) lj.1 e1 b1,M6 lb (Gg h.S) lj.2.2 e2 b2⟩
def Rl(far:Int)(f g:I3):Prop:=∃m,rF far m f=g
def Qf{far:Int}{g:I3}{N:Nat}(e:rF far N g=g):∀q,rF far (N*q) g=g
 |0=>rfl
 |q+1=>by rw[Nat.mul_succ,EY,Qf e q,e]
def AjV{far:Int}{g:I3}{N:Nat}(e:rF far N g=g)(n0:0<N)(n:Nat):∃i,i<N∧rF far n g=rF far i g:=by
 have h1:=Nat.mod_lt n n0
 have h2:=Nat.div_add_mod n N
 refine⟨n % N,h1,?_⟩
 have:rF far (N*(n / N)+n % N) g=rF far (n % N) g:=by rw[EY,Qf e]
 rw[h2]at this
 exact this
theorem Rl.symm{far:Int}{f g:I3}(h:Lv far f)(a:Rl far f g):Rl far g f:=by
 obtain⟨N,n0,_,e,_⟩:=Kf h
 obtain⟨m,rfl⟩:=a
 refine⟨N*m-m,?_⟩
 rw[←EY]
 have:m≤N*m:=Nat.le_mul_of_pos_left m n0
 rw[show m+(N*m-m)=N*m by omega,Qf e]
end My
namespace My
open PySem L2
local macro_rules | `(tactic| walk_at "sc") => `(tactic| (exact ⟨rfl, rfl, rfl, by decide +kernel, rfl, by decide +kernel, by decide +kernel⟩))
local macro_rules | `(tactic| walk_at "lE") => `(tactic| (exact fun ds Q ⟨p, e, _⟩ => by rw [e]; rfl))
local macro_rules | `(tactic| walk_at "b1") => `(tactic| (intro _ _ _ _ _ _ us hl; exact match us, hl with | [_], _ => rfl))
local macro_rules | `(tactic| walk_at "b2") => `(tactic| (intro _ _ _ _ _ _ us hl; exact match us, hl with | [_, _], _ => rfl))
local macro_rules | `(tactic| walk_at "b3") => `(tactic| (intro _ _ _ _ _ _ us hl; exact match us, hl with | [_, _, _], _ => rfl))
local macro_rules | `(tactic| walk_at "rd1") => `(tactic| dsimp only [AmC, Ams, Xz, AhX, dIf, Aes, AhR, Ai9, Zk, Aan, Aah, Adx, Aao, Uw, AhM, AhH, Aj7, dIn, dOp, dUn, Vu, dC, dIx, Aop, AoA, AnI, Apg, Anq, AnE, Aoa, AnR, AlJ, AjY, AmJ, AkU, Amq, Amt, AlG, An3, dI, dI0, dB0, dLt, dLe, dGt, dGe, dEq, dNe, dIs, Amc, AlI, dOr, Agf, Ma, Ahs, AhZ, Ama, AnO, AdX, Rn, dTup, Amb, dCall, dCB, AdZ, Adt, Aem, Anc, Amn, Alm, AeB, Afl, AhE, Qs, Zr, S9, inner, Aeo, AhV, Adb, Aea, AiJ, AhU, dOf, AmK, Ahj, AkZ, AiW, AiF, Ajo, AmV, Aol, Ajn, Ale, AmM, AiB, Aid, AnB, Ac9, Ann, AlR, Apf, Aku, Am0, Akm, Anl, Amg, Ahz, Amr, Alv, ownAt, AmN, Aib, AeQ, Aeh, Ai4, Ai6, Adz, QW, AhK, Anh, AhY, Uh, ZJ, Aie, Acg, AbV, XS, SJ, Vp,
 List.length_cons,List.length_nil,List.getElem?_cons_zero,List.getElem?_cons_succ,List.set_cons_zero,List.set_cons_succ,Nat.reduceAdd,List.map_cons,List.map_nil,Option.join_some])
local macro_rules | `(tactic| walk_at "rd2") => `(tactic| simp only [AkQ, Ako, AkN, Alb, Ain, Akw, Akl, AlO, Amh, AmE, Akr, Anx, Aoo, Ano, Ao5, AnH, AoO, Aiv, Ait, Ais, Ah8, AiX, AjB, Ajd, AiK, Ah1, AiY, S8, AmR, OJ, Alk, Alc, Ak5, AjR, AaL, Aht, XM, YM, Aig, Ail, QM, Ah2, Ajt, AfI, AaK, AfZ, Agt, AgK, AfE, AgP, if_true, if_false, Bool.and_true, Bool.true_and, Bool.false_and, Bool.and_false, Bool.not_true, Bool.not_false, Bool.false_eq_true, true_and, and_true, ite_true, ite_false, List.length_map])
local macro_rules | `(tactic| walk_at "rd") => `(tactic| ((try walk_at "rd1"); (try walk_at "rd2")))
local macro_rules | `(tactic| walk_at "go") => `(tactic| ((try simp only [W8, V9, WD]); walk_at "rd"))
local macro_rules | `(tactic| walk_at "bts") => `(tactic| first | assumption | (with_reducible apply Bt.mul<;>walk_at "bts") | (with_reducible apply Bt.add<;>walk_at "bts") | (with_reducible apply Bt.sub<;>walk_at "bts") | (with_reducible apply Bt.neg<;>walk_at "bts") | exact Bt.ak (n := 1) ⋯ | exact Bt.ak (n := 8) ⋯ | exact Bt.ak (n := 400) ⋯)
local macro_rules | `(tactic| walk_at "bt") => `(tactic| exact Bt.le (by walk_at "bts") ⋯)
local macro_rules | `(tactic| walk_at "mul") => `(tactic| exact Bt.aj (by walk_at "bts") (by walk_at "bts") ⋯ ⋯)
local macro_rules | `(tactic| walk_at "muls") => `(tactic| repeat (refine ⟨by first | walk_at "mul" | exact Ax ⋯ | decide | exact ⟨⋯, by decide⟩, ?_⟩))
def top(i:Nat):Stmt:=PySem.Challenge.pw_formcycle_k51_heads.main.body.getD i (.Pass ⟨0,0,0,0⟩)
abbrev JK:Stmt:=top 9
theorem Mr:Ao ["number","guess","better"] ["number"] (Ai JK):=by walk_at "sc"
abbrev FP:Stmt:=top 10
theorem Mz:Ao ["number","side"] ["number"] (Ai FP):=by walk_at "sc"
abbrev Cy:Stmt:=top 11
theorem Oa:Ao ["number","most"] ["number","most"] (Ai Cy):=by walk_at "sc"
abbrev Dj:Stmt:=top 12
theorem Pa:Ao ["number","most"] ["number","most"] (Ai Dj):=by walk_at "sc"
abbrev Hu:Stmt:=top 15
theorem Zd:Ao ["turn"] ["turn"] (Ai Hu):=by walk_at "sc"
abbrev Du:Stmt:=top 16
theorem RG:Ao ["turn"] ["turn"] (Ai Du):=by walk_at "sc"
abbrev CP:Stmt:=top 17
theorem RW:Ao ["one","other"] ["one","other"] (Ai CP):=by walk_at "sc"
abbrev Nz:Stmt:=top 18
theorem Agi:Ao ["turn"] ["turn"] (Ai Nz):=by walk_at "sc"
abbrev Dk:Stmt:=top 20
theorem XH:Ao ["form"] ["form"] (Ai Dk):=by walk_at "sc"
abbrev KH:Stmt:=top 21
theorem QT:Ao ["form","point","x","y"] ["form","point"] (Ai KH):=by walk_at "sc"
abbrev Jo:Stmt:=top 22
theorem Qc:Ao ["form","turn","left","right"] ["form","turn"] (Ai Jo):=by walk_at "sc"
abbrev Jf:Stmt:=top 23
theorem Tg:Ao ["form","left","right","crossed"] ["form","left","right"] (Ai Jf):=by walk_at "sc"
abbrev Hj:Stmt:=top 24
theorem WY:Ao ["form","number"] ["form"] (Ai Hj):=by walk_at "sc"
abbrev Ew:Stmt:=top 26
theorem RB:Ao ["form"] ["form"] (Ai Ew):=by walk_at "sc"
abbrev Dh:Stmt:=top 27
theorem Fj:Ao ["form","a","b","c"] ["form"] (Ai Dh):=by walk_at "sc"
abbrev Hv:Stmt:=top 28
theorem HS:Ao ["form","turn","lowering"] ["form"] (Ai Hv):=by walk_at "sc"
abbrev Eu:Stmt:=top 29
theorem Lb:Ao ["form","often"] ["form"] (Ai Eu):=by walk_at "sc"
abbrev Cr:Stmt:=top 32
theorem Pk:Ao ["form"] ["form"] (Ai Cr):=by walk_at "sc"
abbrev Df:Stmt:=top 33
theorem JQ:Ao ["form","far","b"] ["form","far"] (Ai Df):=by walk_at "sc"
abbrev DR:Stmt:=top 34
theorem Gb:Ao ["form","top","b","c","d"] ["form","top"] (Ai DR):=by walk_at "sc"
abbrev CW:Stmt:=top 35
theorem Km:Ao ["stop","top","turn"] ["stop","top"] (Ai CW):=by walk_at "sc"
abbrev KZ:Stmt:=top 36
theorem MF:Ao ["form","far","stop"] ["form"] (Ai KZ):=by walk_at "sc"
abbrev DN:Stmt:=top 37
theorem Dd:Ao ["form","far","first","stops","stop"] ["form"] (Ai DN):=by walk_at "sc"
abbrev Hy:Stmt:=top 38
theorem YX:Ao ["form"] ["form"] (Ai Hy):=by walk_at "sc"
abbrev Fq:Stmt:=top 43
theorem WL:Ao ["form"] ["form"] (Ai Fq):=by walk_at "sc"
abbrev DQ:Stmt:=top 44
theorem Qa:Ao ["one","other"] ["one","other"] (Ai DQ):=by walk_at "sc"
abbrev Jw:Stmt:=top 47
theorem AdR:Ao ["form","number"] ["form","number"] (Ai Jw):=by walk_at "sc"
abbrev Gz:Stmt:=top 48
theorem Fz:Ao ["form","number","whole","found","g","foot","turn"] ["form","number"] (Ai Gz):=by walk_at "sc"
abbrev Bb:Stmt:=top 49
theorem Hq:Ao ["number"] ["number"] (Ai Bb):=by walk_at "sc"
abbrev Kc:Stmt:=top 50
theorem Aau:Ao ["first","far","middles"] ["first","far"] (Ai Kc):=by walk_at "sc"
abbrev Eh:Stmt:=top 52
theorem UJ:Ao ["_law_script","_law_k"] ["_law_script","_law_k"] (Ai Eh):=by walk_at "sc"
abbrev Em:Stmt:=top 53
theorem RQ:Ao ["_law_found"] ["_law_found"] (Ai Em):=by walk_at "sc"
abbrev CZ:Stmt:=top 54
theorem Qu:Ao ["_law_found","_law_many"] ["_law_found","_law_many"] (Ai CZ):=by walk_at "sc"
abbrev Cm:Stmt:=top 55
theorem VD:Ao ["_law_form"] ["_law_form"] (Ai Cm):=by walk_at "sc"
abbrev Dm:Stmt:=top 56
theorem Js:Ao ["_law_number","_law_near"] ["_law_number"] (Ai Dm):=by walk_at "sc"
abbrev Fy:Stmt:=top 57
theorem JH:Ao ["_law_form","_law_bar_here","_law_far"] ["_law_form"] (Ai Fy):=by walk_at "sc"
abbrev Dy:Stmt:=top 58
theorem RP:Ao ["_law_form","_law_far"] ["_law_form","_law_far"] (Ai Dy):=by walk_at "sc"
abbrev CT:Stmt:=top 59
theorem Ej:Ao ["_law_form","_law_top","_law_a","_law_b","_law_c","_law_d"] ["_law_form","_law_top"] (Ai CT):=by walk_at "sc"
abbrev Ed:Stmt:=top 60
theorem Dv:Ao ["_law_form","_law_a","_law_b","_law_c","_law_k"] ["_law_form"] (Ai Ed):=by walk_at "sc"
abbrev FQ:Stmt:=top 62
theorem BX:Ao ["_law_first","_law_cells","_law_p","_law_q","_law_r","_law_s","_law_cell_here","_law_k"] ["_law_first","_law_cells"] (Ai FQ):=by walk_at "sc"
abbrev Ds:Stmt:=top 63
theorem RJ:Ao ["_law_form","_law_x","_law_y"] ["_law_form","_law_x","_law_y"] (Ai Ds):=by walk_at "sc"
abbrev Dw:Stmt:=top 64
theorem DP:Ao ["_law_form","_law_turn_here","_law_p","_law_q","_law_r","_law_s","_law_middle"] ["_law_form","_law_turn_here"] (Ai Dw):=by walk_at "sc"
abbrev Et:Stmt:=top 65
theorem Cg:Ao ["_law_script","_law_most","_law_cell_here","_law_often","_law_m","_law_b","_law_size","_law_rest","_law_bar_here","_law_sign"] ["_law_script","_law_most"] (Ai Et):=by walk_at "sc"
abbrev DK:Stmt:=top 66
theorem Di:Ao ["_law_one","_law_other","_law_first","_law_second","_law_k","_law_third"] ["_law_one","_law_other"] (Ai DK):=by walk_at "sc"
abbrev Fx:Stmt:=top 67
theorem Ey:Ao ["_law_form","_law_point","_law_often","_law_u","_law_v","_law_turn_here","_law_found"] ["_law_form","_law_point"] (Ai Fx):=by walk_at "sc"
abbrev FW:Stmt:=top 68
theorem Gp:Ao ["_law_form","_law_far","_law_found"] ["_law_form"] (Ai FW):=by walk_at "sc"
abbrev Hw:Stmt:=top 69
theorem Jz:Ao ["_law_form","_law_tops_here","_law_bar_here","_law_far"] ["_law_form","_law_tops_here"] (Ai Hw):=by walk_at "sc"
abbrev Gv:Stmt:=top 70
theorem CG:Ao ["_law_form","_law_number","_law_bar_here","_law_tops_here","_law_due_here","_law_often","_law_n","_law_b","_law_c","_law_rest"] ["_law_form","_law_number"] (Ai Gv):=by walk_at "sc"
abbrev Er:Stmt:=top 71
theorem Cp:Ao ["_law_script","_law_often","_law_near","_law_number","_law_many"] ["_law_script"] (Ai Er):=by walk_at "sc"
abbrev J5:Stmt:=top 72
theorem J3:Ao ["_law_script","_law_near","_law_number","_law_form","_law_found","_law_point","_law_kept"] ["_law_script"] (Ai J5):=by walk_at "sc"
abbrev Jg:Stmt:=inClass (top 40) 0
theorem Aa4:Ao ["self","form","lowest"] ["self","form","lowest"] (Ai Jg):=by walk_at "sc"
abbrev KY:Stmt:=inClass (top 41) 0
theorem Ack:Ao ["self","form"] ["self","form"] (Ai KY):=by walk_at "sc"
abbrev HB:Stmt:=inClass (top 42) 0
theorem Ym:Ao ["self","form"] ["self","form"] (Ai HB):=by walk_at "sc"
abbrev Hz:Stmt:=inClass (top 40) 3
theorem Y5:Ao ["self","other"] ["self","other"] (Ai Hz):=by walk_at "sc"
structure Txt(K:W.Frag)(mg:Str→Option Value):Prop where
 pH:∃C f fd,MkC K mg "Bowl" ["form","measure","lowest"] C f∧Fun K "__init__" "Bowl.__init__" KY f fd∧Binds K fd ["self","form"] []
 qm:IsC K "Bowl"
 jY:Pg K "Bowl" "form"
 cD:Pg K "Bowl" "measure"
 cL:Pg K "Bowl" "lowest"
 lF:∃C f fd,MkC K mg "Saddle" ["form","measure","lowest"] C f∧Fun K "__init__" "Saddle.__init__" HB f fd∧Binds K fd ["self","form"] []
 oA:IsC K "Saddle"
 iB:Pg K "Saddle" "form"
 bR:Pg K "Saddle" "measure"
 bV:Pg K "Saddle" "lowest"
 lH:∃g fd,Z8 K mg "Shape" "__init__" g∧Fun K "__init__" "Shape.__init__" Jg g fd∧Binds K fd ["self","form","lowest"] []
 jK:∃g fd,(∀c∈(["Bowl","Saddle"]:List Str),Z6 K c "way_to" g)∧W.keepIn K (.ref g)=true∧Fun K "way_to" "Shape.way_to" Hz g fd∧Binds K fd ["self","other"] []
 pI:∃f fd,FnT K mg "root" JK ["number"] f fd
 gA:∃f fd,FnT K mg "is_square" FP ["number"] f fd
 cG:∃f fd,FnT K mg "check_at_most" Cy ["number","most"] f fd
 cM:∃f fd,FnT K mg "check_within" Dj ["number","most"] f fd
 jL:∃f fd,FnT K mg "is_turn" Hu ["turn"] f fd
 eX:∃f fd,FnT K mg "check_turn" Du ["turn"] f fd
 eY:∃f fd,FnT K mg "put_behind" CP ["one","other"] f fd
 pJ:∃f fd,FnT K mg "back" Nz ["turn"] f fd
 jM:∃f fd,FnT K mg "measure" Dk ["form"] f fd
 nP:∃f fd,FnT K mg "value" KH ["form","point"] f fd
 nQ:∃f fd,FnT K mg "moved" Jo ["form","turn"] f fd
 lJ:∃f fd,FnT K mg "middle" Jf ["form","left","right"] f fd
 nR:∃f fd,FnT K mg "shape" Hj ["form"] f fd
 eZ:∃f fd,FnT K mg "check_bowl" Ew ["form"] f fd
 cN:∃f fd,FnT K mg "stands_least" Dh ["form"] f fd
 jO:∃f fd,FnT K mg "settled" Hv ["form"] f fd
 fj:∃f fd,FnT K mg "turn_lower" Eu ["form"] f fd
 cP:∃f fd,FnT K mg "check_saddle" Cr ["form"] f fd
 cQ:∃f fd,FnT K mg "stands_level" Df ["form","far"] f fd
 c7:∃f fd,FnT K mg "turn_behind" DR ["form","top"] f fd
 dg:∃f fd,FnT K mg "stop_behind" CW ["stop","top"] f fd
 nT:∃f fd,FnT K mg "eased" KZ ["form"] f fd
 dh:∃f fd,FnT K mg "stops_round" DN ["form"] f fd
 jP:∃f fd,FnT K mg "lowered" Hy ["form"] f fd
 iC:∃f fd,FnT K mg "shape_of" Fq ["form"] f fd
 dj:∃f fd,FnT K mg "way_between" DQ ["one","other"] f fd
 nU:∃f fd,FnT K mg "heads" Jw ["form","number"] f fd
 iD:∃f fd,FnT K mg "families" Gz ["form","number"] f fd
 aK:∃f fd,FnT K mg "roots_of_square_divisors" Bb ["number"] f fd
 pK:∃f fd,FnT K mg "feet" Kc ["first","far"] f fd
 gB:∃f fd,FnT K mg "_law_cell" Eh ["_law_script","_law_k"] f fd
 fu:∃f fd,FnT K mg "_law_whole" Em ["_law_found"] f fd
 dw:∃f fd,FnT K mg "_law_wholes" CZ ["_law_found","_law_many"] f fd
 iG:∃f fd,FnT K mg "_law_bar" Cm ["_law_form"] f fd
 gF:∃f fd,FnT K mg "_law_root" Dm ["_law_number"] f fd
 gG:∃f fd,FnT K mg "_law_flat" Fy ["_law_form"] f fd
 fC:∃f fd,FnT K mg "_law_level" Dy ["_law_form","_law_far"] f fd
 dz:∃f fd,FnT K mg "_law_behind" CT ["_law_form","_law_top"] f fd
 gH:∃f fd,FnT K mg "_law_bowl" Ed ["_law_form"] f fd
 gJ:∃f fd,FnT K mg "_law_turn" FQ ["_law_first","_law_cells"] f fd
 fD:∃f fd,FnT K mg "_law_value" Ds ["_law_form","_law_x","_law_y"] f fd
 fG:∃f fd,FnT K mg "_law_moved" Dw ["_law_form","_law_turn_here"] f fd
 fH:∃f fd,FnT K mg "_law_taken" Et ["_law_script","_law_most"] f fd
 dD:∃f fd,FnT K mg "_law_shares" DK ["_law_one","_law_other"] f fd
 gK:∃f fd,FnT K mg "_law_pair" Fx ["_law_form","_law_point"] f fd
 gM:∃f fd,FnT K mg "_law_tops" FW ["_law_form"] f fd
 jQ:∃f fd,FnT K mg "_law_in" Hw ["_law_form","_law_tops_here"] f fd
 iH:∃f fd,FnT K mg "_law_due" Gv ["_law_form","_law_number"] f fd
 fJ:∃f fd,FnT K mg "_law_asked" Er ["_law_script"] f fd
 qI:∃f fd,FnT K mg "law" J5 ["_law_script"] f fd
 aQ:∃t,mg "MOST_MEASURE"=some (.int (4000) t)
 aW:∃t,mg "MOST_NUMBER"=some (.int (400) t)
 bA:mg "abs"=none
 fX:mg "bool"=none
 bW:mg "divmod"=none
 jR:mg "int"=none
 au:mg "isinstance"=none
 gO:mg "len"=none
 bZ:mg "list"=none
 fK:mg "max"=none
 jT:mg "min"=none
 bC:mg "range"=none
 iI:mg "set"=none
 aM:mg "sorted"=none
 cW:mg "tuple"=none
 mC:∃a,mg "SAME"=some (.ref a)∧∀H,Rp K H (.tup [.int (1),.int (0),.int (0),.int (1)]) (.ref a)
abbrev Q5:DSp:=Dc (fun t:I4=>[t4 t]) (B4 300000) fun t=>.bl (decide (det t=1))
abbrev Ip:DSp:=Dc (fun t:I4=>[t4 t]) (fun t=>B4 300000 t∧det t=1) fun _=>.non
abbrev GJ:DSp:=Dc (fun p:I4×I4=>[t4 p.1,t4 p.2]) (fun p=>B4 400000 p.1∧B4 400000 p.2) fun p=>t4 (Ak p.1 p.2)
abbrev AaS:DSp:=Dc (fun t:I4=>[t4 t]) (fun t=>B4 300000 t∧det t=1) fun t=>t4 (Ba t)
section
variable(P:Program)(w:World){K:W.Frag}{mg:Str→Option Value}(base:Heap)
def Zg(T:Txt K mg)
  : Pm P w K mg base 1 "is_turn" Hu ["turn"] Q5:=by
 obtain⟨f,fd,F⟩:=T.jL
 refine⟨f,fd,F,F.fn.okD Zd (by walk_at "lE") fun cdv A outer s H E hr=>⟨_,(Ah (Av (VL hr.units (BJ (Aj (Ac (dv 0) Ab) (Ac (dv 0) Ab)) (Aj (Ac (dv 0) Ab) (Ac (dv 0) Ab))) Ab))),fun ds Q h=>?_⟩⟩
 obtain⟨⟨a,b,c,d⟩,rfl,⟨ha,hb,hc,hd⟩,q⟩:=h
 walk_at "go"
 exact⟨by walk_at "mul",by walk_at "mul",q _ rfl⟩
def RM(T:Txt K mg)
  (oE:Pm P w K mg base 1 "is_turn" Hu ["turn"] Q5)
  : Pm P w K mg base 2 "check_turn" Du ["turn"] Ip:=by
 obtain⟨f,fd,F⟩:=T.eX
 refine⟨f,fd,F,F.fn.okD RG (by walk_at "lE") fun cdv A outer s H E hr=>⟨_,(Ah (Cj (G9 (Gn (Ag Ae oE (hr.mono ⋯) rfl (Aa (dv 0) Af)))) (Ah HY) Bd)),fun ds Q h=>?_⟩⟩
 obtain⟨t,rfl,⟨hb,hd⟩,q⟩:=h
 walk_at "go"
 refine Al t hb ?_
 walk_at "rd"
 rw[decide_eq_true hd]
 exact q _ rfl
def RD(T:Txt K mg)
  : Pm P w K mg base 1 "put_behind" CP ["one","other"] GJ:=by
 obtain⟨f,fd,F⟩:=T.eY
 refine⟨f,fd,F,F.fn.okD RW (by walk_at "lE") fun cdv A outer s H E hr=>⟨_,(Ah (Av (Bw (Aa (Bs (Aj (Ac (dv 0) Ab) (Ac (dv 1) Ab)) (Aj (Ac (dv 0) Ab) (Ac (dv 1) Ab))) (Aa (Bs (Aj (Ac (dv 0) Ab) (Ac (dv 1) Ab)) (Aj (Ac (dv 0) Ab) (Ac (dv 1) Ab))) (Aa (Bs (Aj (Ac (dv 0) Ab) (Ac (dv 1) Ab)) (Aj (Ac (dv 0) Ab) (Ac (dv 1) Ab))) (Aa (Bs (Aj (Ac (dv 0) Ab) (Ac (dv 1) Ab)) (Aj (Ac (dv 0) Ab) (Ac (dv 1) Ab))) Af))))))),fun ds Q h=>?_⟩⟩
 obtain⟨⟨⟨a,b,c,d⟩,e,f,g,i⟩,rfl,⟨⟨ha,hb,hc,hd⟩,he,hf,hg,hi⟩,q⟩:=h
 walk_at "go"
 exact⟨by walk_at "mul",by walk_at "mul",by walk_at "mul",by walk_at "mul",by walk_at "mul",by walk_at "mul",by walk_at "mul",by walk_at "mul",Ax ⋯,q _ rfl⟩
def Ag3(T:Txt K mg)
  (cj:Pm P w K mg base 2 "check_turn" Du ["turn"] Ip)
  : Pm P w K mg base 3 "back" Nz ["turn"] AaS:=by
 obtain⟨f,fd,F⟩:=T.pJ
 refine⟨f,fd,F,F.fn.okD Agi (by walk_at "lE") fun cdv A outer s H E hr=>⟨_,(Ad (Jk (Ag Ae cj (hr.mono ⋯) rfl (Aa (dv 0) Af))) (Ah (Av (Bw (Aa (Ac (dv 0) Ab) (Aa (Ob (Ac (dv 0) Ab)) (Aa (Ob (Ac (dv 0) Ab)) (Aa (Ac (dv 0) Ab) Af)))))))),fun ds Q h=>?_⟩⟩
 obtain⟨⟨a,b,c,d⟩,rfl,⟨hb,hd⟩,q⟩:=h
 walk_at "go"
 refine Al (a,b,c,d) ⟨hb,hd⟩ ?_
 exact⟨Ax ⋯,q _ rfl⟩
def Agg(T:Txt K mg)
  : Pm P w K mg base 1 "root" JK ["number"] Mt:=by
 obtain⟨f,fd,F⟩:=T.pI
 refine⟨f,fd,F,F.fn.okD Mr (by walk_at "lE") fun cdv A outer s H E hr=>⟨_,(Ad (Cj (O6 (dv 0) Ab) (Ah HY) Bd) (Ad (Cj (JV hr.units (dv 0) Ab) (Ah (Av Ab)) Bd) (Ad (Aq 1 Mr.nd (Aeg Ab (BW (Bs (Z5 (dv 0)) Ab) Ab))) (Ad (Aq 2 Mr.nd (BW (Bs (dv 1) (BW (dv 0) (dv 1))) Ab)) (Ad (Fi PassesOwn.never (O6 (dv 2) (dv 1)) (Ad (Aq 1 Mr.nd (dv 2)) (Ah (Aq 2 Mr.nd (BW (Bs (dv 1) (BW (dv 0) (dv 1))) Ab))))) (Ah (Av (dv 1)))))))),fun ds Q h=>?_⟩⟩
 obtain⟨n,rfl,⟨h0,hb⟩,q⟩:=h
 walk_at "go"
 refine DY (decide_eq_false ∅) ?_
 by_cases hz:n=0
 ·subst hz
  exact ift rfl (q _ ⟨0,rfl,⟨∅,∅,∅⟩,Bt.zero.le ⋯⟩)
 refine DY (decide_eq_false hz) ?_
 obtain⟨c1,c2,c3⟩:=O5 hb
 have hu:=V8 h0
 refine⟨⟨⋯,⋯⟩,c1,?_⟩
 generalize (1*2 ^ ((((Builtin.Int.intBits n:Nat):Int)+1).fdiv 2).toNat:Int)=g at *
 refine⟨Bt.aU c2 ∅,⟨⋯,⋯⟩,?_⟩
 rw[Va c3]
 refine Fe (fun m ρ=>∃g:Int,ρ=[some (.is (.int n)),some (.is (.int g)),some (.is (.int ((g+n / g) / 2)))]∧0<g∧Bt 2001 g∧n<(g+1)*(g+1)∧m=g.toNat) _ ⟨g,rfl,c3,c2,hu,rfl⟩ ?_
 rintro m _ ⟨g,rfl,hg,hgb,hgu,rfl⟩
 walk_at "rd"
 refine Gj (fun hw=>?_) (fun hw=>?_)
 ·have hw:=of_decide_eq_true hw
  have hp:=Xv (show 1≤n by omega) hg
  have hu':=Sv h0 hg
  have hbb:Bt 2001 ((g+n / g) / 2):=by unfold Bt at *;omega
  generalize (g+n / g) / 2=b at *
  refine⟨Bt.aU hbb ∅,⟨⋯,⋯⟩,?_⟩
  rw[Va hp]
  exact⟨_,∅,b,rfl,hp,hbb,hu',rfl⟩
 ·have hw:¬(g+n / g) / 2<g:=fun z=>hw (decide_eq_true z)
  exact q _ ⟨g,rfl,⟨∅,Ys hg ∅,hgu⟩,hgb⟩
def Vm(T:Txt K mg)
  (dN:Pm P w K mg base 1 "root" JK ["number"] Mt)
  : Pm P w K mg base 2 "is_square" FP ["number"] Mw:=by
 obtain⟨f,fd,F⟩:=T.gA
 refine⟨f,fd,F,F.fn.okD Mz (by walk_at "lE") fun cdv A outer s H E hr=>⟨_,(Ad (Cj (O6 (dv 0) Ab) (Ah (Av Ow)) Bd) (Ad (Aq 1 Mz.nd (Ag Ae dN (hr.mono ⋯) rfl (Aa (dv 0) Af))) (Ah (Av (VL hr.units (Aj (dv 1) (dv 1)) (dv 0)))))),fun ds Q h=>?_⟩⟩
 obtain⟨n,rfl,hb,q⟩:=h
 walk_at "go"
 refine Gj (fun hw=>?_) (fun hw=>?_)
 ·have hw:=of_decide_eq_true hw
  exact q _ ⟨false,rfl,by simp[MP hw]⟩
 ·have hw:¬n<0:=fun z=>hw (decide_eq_true z)
  refine Bg n ⟨∅,hb⟩ ?_
  rintro _ ⟨r,rfl,hs,hr'⟩
  walk_at "rd"
  refine⟨by walk_at "mul",q _ ⟨_,rfl,?_⟩⟩
  rw[AcW hs];simp
abbrev Fp:DSp:=Dc (fun f:I3=>[t3 f]) (B3 20000) fun f=>.int (meas f)
abbrev Xu:DSp:=Dc (fun p:I3×I2=>[t3 p.1,t2 p.2]) (fun p=>B3 20000 p.1∧B2 300000 p.2) fun p=>.int (val p.1 p.2)
abbrev TJ:DSp:=Dc (fun p:I3×I2×I2=>[t3 p.1,t2 p.2.1,t2 p.2.2]) (fun p=>B3 20000 p.1∧B2 300000 p.2.1∧B2 300000 p.2.2) fun p=>.int (mid p.1 p.2.1 p.2.2)
abbrev Rj:DSp:=Dc (fun p:I3×I4=>[t3 p.1,t4 p.2]) (fun p=>B3 20000 p.1∧B4 300000 p.2∧det p.2=1) fun p=>t3 (mov p.1 p.2)
def Yx(T:Txt K mg)
  : Pm P w K mg base 1 "measure" Dk ["form"] Fp:=by
 obtain⟨f,fd,F⟩:=T.jM
 refine⟨f,fd,F,F.fn.okD XH (by walk_at "lE") fun cdv A outer s H E hr=>⟨_,(Ah (Av (BJ (Aj (Ac (dv 0) Ab) (Ac (dv 0) Ab)) (Aj (Aj Ab (Ac (dv 0) Ab)) (Ac (dv 0) Ab))))),fun ds Q h=>?_⟩⟩
 obtain⟨⟨a,b,c⟩,rfl,⟨ha,hb,hc⟩,q⟩:=h
 walk_at "go"
 have h2:Bt 3 4:=Bt.ak ⋯
 exact⟨by walk_at "mul",by walk_at "mul",by walk_at "mul",q _ rfl⟩
def Aey(T:Txt K mg)
  : Pm P w K mg base 1 "value" KH ["form","point"] Xu:=by
 obtain⟨f,fd,F⟩:=T.nP
 refine⟨f,fd,F,F.fn.okD QT (by walk_at "lE") fun cdv A outer s H E hr=>⟨_,(Ad (Aq 2 QT.nd (Ac (dv 1) Ab)) (Ad (Aq 3 QT.nd (Ac (dv 1) Ab)) (Ah (Av (Bs (Bs (Aj (Aj (Ac (dv 0) Ab) (dv 2)) (dv 2)) (Aj (Aj (Ac (dv 0) Ab) (dv 2)) (dv 3))) (Aj (Aj (Ac (dv 0) Ab) (dv 3)) (dv 3))))))),fun ds Q h=>?_⟩⟩
 obtain⟨⟨⟨a,b,c⟩,x,y⟩,rfl,⟨⟨ha,hb,hc⟩,hx,hy⟩,q⟩:=h
 walk_at "go"
 exact⟨by walk_at "mul",by walk_at "mul",by walk_at "mul",by walk_at "mul",by walk_at "mul",by walk_at "mul",q _ rfl⟩
def Abt(T:Txt K mg)
  : Pm P w K mg base 1 "middle" Jf ["form","left","right"] TJ:=by
 obtain⟨f,fd,F⟩:=T.lJ
 refine⟨f,fd,F,F.fn.okD Tg (by walk_at "lE") fun cdv A outer s H E hr=>⟨_,(Ad (Aq 3 Tg.nd (Bs (Aj (Ac (dv 1) Ab) (Ac (dv 2) Ab)) (Aj (Ac (dv 2) Ab) (Ac (dv 1) Ab)))) (Ah (Av (Bs (Bs (Aj (Aj (Aj Ab (Ac (dv 0) Ab)) (Ac (dv 1) Ab)) (Ac (dv 2) Ab)) (Aj (Ac (dv 0) Ab) (dv 3))) (Aj (Aj (Aj Ab (Ac (dv 0) Ab)) (Ac (dv 1) Ab)) (Ac (dv 2) Ab)))))),fun ds Q h=>?_⟩⟩
 obtain⟨⟨⟨a,b,c⟩,⟨x,y⟩,u,v⟩,rfl,⟨⟨ha,hb,hc⟩,⟨hx,hy⟩,hu,hv⟩,q⟩:=h
 walk_at "go"
 have h2:Bt 2 2:=Bt.ak ⋯
 walk_at "muls"
 exact q _ rfl
def AbX(T:Txt K mg)
  (cj:Pm P w K mg base 2 "check_turn" Du ["turn"] Ip)
  (nW:Pm P w K mg base 1 "value" KH ["form","point"] Xu)
  (pL:Pm P w K mg base 1 "middle" Jf ["form","left","right"] TJ)
  : Pm P w K mg base 3 "moved" Jo ["form","turn"] Rj:=by
 obtain⟨f,fd,F⟩:=T.nQ
 refine⟨f,fd,F,F.fn.okD Qc (by walk_at "lE") fun cdv A outer s H E hr=>⟨_,(Ad (Jk (Ag Ae cj (hr.mono ⋯) rfl (Aa (dv 1) Af))) (Ad (Aq 2 Qc.nd (Bw (Aa (Ac (dv 1) Ab) (Aa (Ac (dv 1) Ab) Af)))) (Ad (Aq 3 Qc.nd (Bw (Aa (Ac (dv 1) Ab) (Aa (Ac (dv 1) Ab) Af)))) (Ah (Av (Bw (Aa (Ag Ae nW (hr.mono ⋯) rfl (Aa (dv 0) (Aa (dv 2) Af))) (Aa (Ag Ae pL (hr.mono ⋯) rfl (Aa (dv 0) (Aa (dv 2) (Aa (dv 3) Af)))) (Aa (Ag Ae nW (hr.mono ⋯) rfl (Aa (dv 0) (Aa (dv 3) Af))) Af))))))))),fun ds Q h=>?_⟩⟩
 obtain⟨⟨f,t⟩,rfl,⟨hf,ht,hd⟩,q⟩:=h
 walk_at "go"
 have hl:B2 300000 (t.1,t.2.2.1):=⟨ht.1.le ⋯,ht.2.2.1.le ⋯⟩
 have hr':B2 300000 (t.2.1,t.2.2.2):=⟨ht.2.1.le ⋯,ht.2.2.2.le ⋯⟩
 refine Al t ⟨ht,hd⟩ ⟨Ax ⋯,Ax ⋯,?_⟩
 refine Al (f,(t.1,t.2.2.1)) ⟨hf,hl⟩ ?_
 refine Al (f,(t.1,t.2.2.1),(t.2.1,t.2.2.2)) ⟨hf,hl,hr'⟩ ?_
 refine Al (f,(t.2.1,t.2.2.2)) ⟨hf,hr'⟩ ⟨Ax ⋯,?_⟩
 exact q _ rfl
abbrev J2:DSp:=spec (fun f:I3=>[t3 f]) (fun f=>B3 1500 f) Ad0
def AcD(T:Txt K mg)
  (aD:Pm P w K mg base 1 "measure" Dk ["form"] Fp)
  (lK:Pm P w K mg base 2 "is_square" FP ["number"] Mw)
  : Pm P w K mg base 3 "shape" Hj ["form"] J2:=by
 obtain⟨f,fd,F⟩:=T.nR
 refine⟨f,fd,F,F.fn.okD WY (by walk_at "lE") fun cdv A outer s H E hr=>⟨_,(Ad (Aq 1 WY.nd (Ag Ae aD (hr.mono ⋯) rfl (Aa (dv 0) Af))) (Ad (Cj (Gn (Ag Ae lK (hr.mono ⋯) rfl (Aa (dv 1) Af))) (Ah (Av Kd)) Bd) (Ad (Cj (TF (dv 1) Ab) (Ah (Av Kd)) Bd) (Ad (Cj (TF (Ac (dv 0) Ab) Ab) (Ah (Av Kd)) Bd) (Ah (Av Kd)))))),fun ds Q h=>?_⟩⟩
 obtain⟨f,rfl,hf,q⟩:=h
 walk_at "go"
 refine Al f (hf.le ⋯) ?_
 have hm:Bt 4000 (meas f):=by
  obtain⟨h1,h2,h3⟩:=hf
  have h4:Bt 3 4:=Bt.ak ⋯
  exact((h2.mul h2).sub ((h4.mul h1).mul h3)).le ⋯
 refine Bg (meas f) hm ?_
 rintro _ ⟨b,rfl,hb⟩
 walk_at "rd"
 refine Gj (fun h=>q _ (.flat (hb.mp h))) (fun h=>?_)
 have hn:¬Je (meas f):=fun z=>h (hb.mpr z)
 refine Gj (fun h=>q _ (.saddle hn (of_decide_eq_true h))) (fun h=>?_)
 have hp:¬0<meas f:=fun z=>h (decide_eq_true z)
 refine Gj (fun h=>q _ (.bowl hn hp (of_decide_eq_true h))) (fun h=>q _ (.dome hn hp fun z=>h (decide_eq_true z)))
abbrev Le:DSp:=Dc (fun f:I3=>[t3 f]) (fun f=>B3 1500 f∧Bv f) fun _=>.non
abbrev JM:DSp:=Dc (fun f:I3=>[t3 f]) (fun _=>True) fun f=>.bl (stands f)
def RT(T:Txt K mg)
  (cu:Pm P w K mg base 3 "shape" Hj ["form"] J2)
  : Pm P w K mg base 4 "check_bowl" Ew ["form"] Le:=by
 obtain⟨f,fd,F⟩:=T.eZ
 refine⟨f,fd,F,F.fn.okD RB (by walk_at "lE") fun cdv A outer s H E hr=>⟨_,(Ah (Cj (Im hr.units (Ag Ae cu (hr.mono ⋯) rfl (Aa (dv 0) Af)) Kd) (Ah HY) Bd)),fun ds Q h=>?_⟩⟩
 obtain⟨f,rfl,⟨hb,h0,h1⟩,q⟩:=h
 walk_at "go"
 have h0:0<f.1:=h0
 have h1:meas f<0:=h1
 refine Bg f hb ?_
 rintro _ hw
 cases hw with
 |flat z=>exact absurd z (MP h1)
 |saddle _ z=>exact absurd z ∅
 |dome _ _ z=>exact absurd h0 z
 |bowl _ _ _=>exact⟨⟨by rw[LC];decide +kernel,by rw[LC];decide +kernel⟩,ifn (by rw[OJ];rfl) (q _ rfl)⟩
def Pn(T:Txt K mg)
  : Pm P w K mg base 1 "stands_least" Dh ["form"] JM:=by
 obtain⟨f,fd,F⟩:=T.cN
 refine⟨f,fd,F,F.fn.okD Fj (by walk_at "lE") fun cdv A outer s H E hr=>⟨_,(Ad (Aq 1 Fj.nd (Ac (dv 0) Ab)) (Ad (Aq 2 Fj.nd (Ac (dv 0) Ab)) (Ad (Aq 3 Fj.nd (Ac (dv 0) Ab)) (Ad (Cj (G9 (Np Kq Kq Kq Cw Cw Cw  (Ob (dv 1)) (dv 2) (dv 1) (dv 3))) (Ah (Av Ow)) Bd) (Ah (Av (AmG (AkA (dv 2) Ab) (Nv (Qh (AhL hr.units (dv 2) (Ob (dv 1))) (Nv (AhL hr.units (dv 1) (dv 3)))))))))))),fun ds Q h=>?_⟩⟩
 obtain⟨⟨a,b,c⟩,rfl,_,q⟩:=h
 have q':=q _ rfl
 dsimp only[stands]at q'
 walk_at "go"
 simp only[Bool.decide_and,ne_eq,decide_not]at q'
 generalize decide (-a≤b)=x1 at *
 generalize decide (b≤a)=x2 at *
 generalize decide (a≤c)=x3 at *
 generalize decide (0≤b)=x4 at *
 generalize decide (b=-a)=x5 at *
 generalize decide (a=c)=x6 at *
 cases x1<;>cases x2<;>cases x3<;>cases x4<;>cases x5<;>cases x6<;>exact q'
abbrev K9:DSp:=Dc (fun f:I3=>[t3 f]) (fun f=>B3 8000 f∧0<f.1) fun f=>t4 (Ea f)
def RL(T:Txt K mg)
  : Pm P w K mg base 1 "turn_lower" Eu ["form"] K9:=by
 obtain⟨f,fd,F⟩:=T.fj
 refine⟨f,fd,F,F.fn.okD Lb (by walk_at "lE") fun cdv A outer s H E hr=>⟨_,(Ad (Aq 1 Lb.nd (BW (BJ (Ac (dv 0) Ab) (Ac (dv 0) Ab)) (Aj Ab (Ac (dv 0) Ab)))) (Ad (Cj (Im hr.units (dv 1) Ab) (Ah (Av (Bw (Aa Ab (Aa (dv 1) (Aa Ab (Aa Ab Af))))))) Bd) (Ah (Av (Bw (Aa Ab (Aa (Ob Ab) (Aa Ab (Aa Ab Af))))))))),fun ds Q h=>?_⟩⟩
 obtain⟨⟨a,b,c⟩,rfl,⟨⟨h1,h2,h3⟩,h0⟩,q⟩:=h
 have h0:0<a:=h0
 have h1:Bt 8000 a:=h1
 have two:Bt 2 2:=Bt.ak ⋯
 have q':=q _ rfl
 dsimp only at q'
 walk_at "go"
 refine⟨two.aj h1,Bt.aU (two.mul h1) ∅,?_⟩
 by_cases ho:(a-b).fdiv (2*a)=0
 ·refine DY (by rw[decide_eq_true ho];rfl) ⟨Ax ⋯,?_⟩
  rw[Qo (f:=(a,b,c)) ho]at q'
  exact q'
 ·refine ift (by rw[decide_eq_false ho];rfl) ⟨Ax ⋯,?_⟩
  rw[QX (f:=(a,b,c)) ho]at q'
  exact q'
def LI(f:I3):Nat→I4
 |0=>(1,0,0,1)
 |k+1=>Ak (LI f k) (Ea (mov f (LI f k)))
def Nj(f:I3)(t:I4):Prop:=∃k,t=LI f k∧(∀i,i<k→stands (mov f (LI f i))=false)∧stands (mov f (LI f k))=true
theorem Nj.uniq{f:I3}{t u:I4}(a:Nj f t)(b:Nj f u):t=u:=by
 obtain⟨k,rfl,n1,h1⟩:=a
 obtain⟨l,rfl,n2,h2⟩:=b
 rcases Nat.lt_trichotomy k l with z|z|z
 ·rw[n2 k z]at h1;cases h1
 ·rw[z]
 ·rw[n1 l z]at h2;cases h2
def Ni(f:I3)(d:Dt):Prop:=∃t:I4,d=.tup [t3 (mov f t),t4 t]∧det t=1∧Cq (mov f t)∧B4 5000 t∧Nj f t
abbrev QS:DSp:=spec (fun f:I3=>[t3 f]) (fun f=>B3 1500 f∧Bv f) Ni
def Yg(T:Txt K mg)
  (jZ:Pm P w K mg base 4 "check_bowl" Ew ["form"] Le)
  (iJ:Pm P w K mg base 1 "stands_least" Dh ["form"] JM)
  (j4:Pm P w K mg base 1 "turn_lower" Eu ["form"] K9)
  (j5:Pm P w K mg base 3 "moved" Jo ["form","turn"] Rj)
  (aR:Pm P w K mg base 1 "put_behind" CP ["one","other"] GJ)
  : Pm P w K mg base 5 "settled" Hv ["form"] QS:=by
 obtain⟨f,fd,F⟩:=T.jO
 obtain⟨dR,mD,mF⟩:=T.mC
 refine⟨f,fd,F,F.fn.okD HS (by walk_at "lE") fun cdv A outer s H E hr=>⟨_,(Ad (Jk (Ag Ae jZ (hr.mono ⋯) rfl (Aa (dv 0) Af))) (Ad (Aq 1 HS.nd (Px (v:=.ref dR) rfl mD rfl mF)) (Ad (Fi PassesOwn.never (G9 (Gn (Ag Ae iJ (hr.mono ⋯) rfl (Aa (dv 0) Af)))) (Ad (Aq 2 HS.nd (Ag Ae j4 (hr.mono ⋯) rfl (Aa (dv 0) Af))) (Ad (Aq 0 HS.nd (Ag Ae j5 (hr.mono ⋯) rfl (Aa (dv 0) (Aa (dv 2) Af)))) (Ah (Aq 1 HS.nd (Ag Ae aR (hr.mono ⋯) rfl (Aa (dv 1) (Aa (dv 2) Af)))))))) (Ah (Av (Bw (Aa (dv 0) (Aa (dv 1) Af)))))))),fun ds Q h=>?_⟩⟩
 obtain⟨f,rfl,⟨hb,hw⟩,q⟩:=h
 have hw:Bv f:=hw
 have hb:B3 1500 f:=hb
 have hm:Bt 3010 (meas f):=by
  obtain⟨h1,h2,h3⟩:=hb
  have h4:Bt 3 4:=Bt.ak ⋯
  exact((h2.mul h2).sub ((h4.mul h1).mul h3)).le ⋯
 walk_at "go"
 refine Al f ⟨hb,hw⟩ ?_
 refine Fe (fun m ρ=>∃t x,(∃k,t=LI f k∧∀i,i<k→stands (mov f (LI f i))=false)∧ρ=[some (.is (t3 (mov f t))),some (.is (t4 t)),x]∧det t=1∧Bt 1500 (mov f t).1∧Bt 1500 (mov f t).2.1∧m=msr (mov f t)) _ ⟨(1,0,0,1),none,⟨0,rfl,fun _ h=>absurd h ∅⟩,by rw[Dl],rfl,by rw[Dl];exact hb.1,by rw[Dl];exact hb.2.1,rfl⟩ ?_
 rintro m _ ⟨t,x,⟨k,et,nl⟩,rfl,hd,b1,b2,rfl⟩
 have hg:=J9 hw hd
 have hgb:B3 7000 (mov f t):=(ZX hg b1 b2 (by rw[Bl hd];exact hm)).le ⋯
 have ht:B4 5000 t:=Aaj hw hb hgb ⋯
 walk_at "rd"
 refine Al (mov f t) trivial ?_
 walk_at "rd"
 by_cases hs:stands (mov f t)=true
 ·refine DY (by rw[hs];rfl) ⟨Ax ⋯,q _ ⟨t,rfl,hd,Bp hg.1 hs,ht,k,et,nl,by rw[←et];exact hs⟩⟩
 ·have hs:stands (mov f t)=false:=by simpa using hs
  refine ift (by rw[hs];rfl) ?_
  have hl:B4 2000 (Ea (mov f t)):=(Aej hg.1 b1 b2).le ⋯
  refine Al (mov f t) ⟨hgb.le ⋯,hg.1⟩ ?_
  refine Al (mov f t,Ea (mov f t)) ⟨hgb.le ⋯,hl.le ⋯,T9⟩ ?_
  refine Al (t,Ea (mov f t)) ⟨ht.le ⋯,hl.le ⋯⟩ ?_
  have hb':=AcP hg hs b1 b2
  have hm':=AbO hg hs
  rw[Ay]at hb' hm'
  dsimp only
  rw[Ay]
  refine⟨_,hm',Ak t (Ea (mov f t)),_,⟨k+1,by rw[et];rfl,fun i hi=>?_⟩,rfl,?_,hb'.1,hb'.2,rfl⟩
  case refine_1 =>
   rcases Nat.lt_or_ge i k with z|z
   ·exact nl i z
   ·rw[show i=k by omega,←et];exact hs
  rw[BR,hd,T9];rfl
abbrev Jd:DSp:=Dc (fun p:I2=>[.int p.1,.int p.2]) (fun p=>p.1≤p.2) fun _=>.non
def N8(T:Txt K mg)
  : Pm P w K mg base 1 "check_at_most" Cy ["number","most"] Jd:=by
 obtain⟨f,fd,F⟩:=T.cG
 refine⟨f,fd,F,F.fn.okD Oa (by walk_at "lE") fun cdv A outer s H E hr=>⟨_,(Ah (Cj (TF (dv 0) (dv 1)) (Ah HY) Bd)),fun ds Q h=>?_⟩⟩
 obtain⟨⟨n,m⟩,rfl,h0,q⟩:=h
 have h0:n≤m:=h0
 walk_at "go"
 exact DY (decide_eq_false ∅) (q _ rfl)
abbrev Hf:DSp:=Dc (fun f:I3=>[t3 f]) (fun f=>B3 1500 f∧Sad f) fun _=>.non
abbrev JR:DSp:=Dc (fun p:I3×Int=>[t3 p.1,.int p.2]) (fun p=>B3 20000 p.1) fun p=>.bl (decide (Level p.1 p.2))
def Ph(T:Txt K mg)
  (gY:Pm P w K mg base 1 "check_at_most" Cy ["number","most"] Jd)
  (cu:Pm P w K mg base 3 "shape" Hj ["form"] J2)
  (aD:Pm P w K mg base 1 "measure" Dk ["form"] Fp)
  : Pm P w K mg base 4 "check_saddle" Cr ["form"] Hf:=by
 obtain⟨f,fd,F⟩:=T.cP
 obtain⟨cR,aQ⟩:=T.aQ
 refine⟨f,fd,F,F.fn.okD Pk (by walk_at "lE") fun cdv A outer s H E hr=>⟨_,(Ad (Cj (Im hr.units (Ag Ae cu (hr.mono ⋯) rfl (Aa (dv 0) Af)) Kd) (Ah HY) Bd) (Ah (Jk (Ag Ae gY (hr.mono ⋯) rfl (Aa (Ag Ae aD (hr.mono ⋯) rfl (Aa (dv 0) Af)) (Aa (Px (v:=.int (4000)) (d:=.int (4000)) rfl aQ ⟨_,rfl⟩ (fun _=>Bf.mpr rfl)) Af)))))),fun ds Q h=>?_⟩⟩
 obtain⟨f,rfl,⟨hb,hs⟩,q⟩:=h
 have hs:Sad f:=hs
 have nb:Dt.flat 8 (.str "saddle")=true:=by rw[LC];decide +kernel
 walk_at "go"
 refine Bg f hb ?_
 rintro _ hw
 have h0:=hs.pos
 cases hw with
 |flat z=>exact absurd z hs.no
 |bowl _ z _=>exact absurd h0 z
 |dome _ z _=>exact absurd h0 z
 | saddle _ _ =>
  refine⟨⟨nb,nb⟩,ifn (by rw[OJ];rfl) (Al f (hb.le ⋯) (Al (meas f,4000) hs.most (q _ rfl)))⟩
def O8(T:Txt K mg)
  : Pm P w K mg base 1 "stands_level" Df ["form","far"] JR:=by
 obtain⟨f,fd,F⟩:=T.cQ
 refine⟨f,fd,F,F.fn.okD JQ (by walk_at "lE") fun cdv A outer s H E hr=>⟨_,(Ad (Aq 2 JQ.nd (Ac (dv 0) Ab)) (Ah (Av (Qh (Ms Ri Kq Cw Cw Ab (dv 2) (dv 1)) (Nv (Ms Ri Kq Cw Cw (BJ (dv 1) (dv 2)) (Aj Ab (G8 T.bA (Aa (Ac (dv 0) Ab) Af))) (Bs (dv 1) (dv 2)))))))),fun ds Q h=>?_⟩⟩
 obtain⟨⟨⟨a,b,c⟩,far⟩,rfl,hb,q⟩:=h
 have q':=q _ rfl
 obtain⟨ha,_,_⟩:=(show B3 20000 (a,b,c)from hb)
 have ha:Bt 20000 a:=ha
 have two:Bt 2 2:=Bt.ak ⋯
 have ha':Bt 20000 (if a<0 then -a else a):=by split<;>first|exact ha.neg|exact ha
 have q':Q (.bl (decide (Level (a,b,c) far))):=q'
 walk_at "go"
 have hL:Level (a,b,c) far↔(0<b∧b≤far)∧far-b<2*(if a<0 then -a else a)∧2*(if a<0 then -a else a)≤far+b:=Iff.rfl
 generalize (if a<0 then -a else a)=A at *
 by_cases h1:0<b
 ·refine ift (decide_eq_true h1) ?_
  by_cases h2:b≤far
  ·refine ift (decide_eq_true h2) ⟨two.aj ha',?_⟩
   by_cases h3:far-b<2*A
   ·refine ift (decide_eq_true h3) ?_
    have e:decide (Level (a,b,c) far)=decide (2*A≤far+b):=decide_eq_decide.mpr (hL.trans ⟨fun z=>z.2.2,fun z=>⟨⟨h1,h2⟩,h3,z⟩⟩)
    rw[e]at q'
    exact q'
   ·refine DY (decide_eq_false h3) ?_
    rw[decide_eq_false fun z=>h3 (hL.mp z).2.1]at q'
    exact q'
  ·refine DY (decide_eq_false h2) ?_
   rw[decide_eq_false fun z=>h2 (hL.mp z).1.2]at q'
   exact q'
 ·refine DY (decide_eq_false h1) ?_
  rw[decide_eq_false fun z=>h1 (hL.mp z).1.1]at q'
  exact q'
abbrev Ku:DSp:=Dc (fun p:I3×Int=>[t3 p.1,.int p.2]) (fun p=>B3 8000 p.1∧p.1.2.2≠0) fun p=>t4 (Ca p.1 p.2)
def Qw(T:Txt K mg)
  : Pm P w K mg base 1 "turn_behind" DR ["form","top"] Ku:=by
 obtain⟨f,fd,F⟩:=T.c7
 refine⟨f,fd,F,F.fn.okD Gb (by walk_at "lE") fun cdv A outer s H E hr=>⟨_,(Ad (Aq 2 Gb.nd (Ac (dv 0) Ab)) (Ad (Aq 3 Gb.nd (Ac (dv 0) Ab)) (Ad (Aq 4 Gb.nd (BJ (dv 1) (CV (Bs (dv 1) (dv 2)) (Aj Ab (G8 T.bA (Aa (dv 3) Af)))))) (Ah (Av (Bw (Aa Ab (Aa (Ob Ab) (Aa Ab (Aa (BW (Bs (dv 2) (dv 4)) (Aj Ab (dv 3))) Af)))))))))),fun ds Q h=>?_⟩⟩
 obtain⟨⟨⟨a,b,c⟩,top⟩,rfl,⟨⟨_,_,hc⟩,h0⟩,q⟩:=h
 have hc:Bt 8000 c:=hc
 have h0:c≠0:=h0
 have two:Bt 2 2:=Bt.ak ⋯
 have hac:2*ab c≠0:=by rcases Ar c with⟨_,e⟩|⟨_,e⟩<;>omega
 walk_at "go"
 exact⟨two.aj (Xl hc),hac,two.aj hc,Bt.aU (two.mul hc) ∅,Ax ⋯,q _ rfl⟩
abbrev K7(f:I3)(t:I4):Dt:=.tup [t3 f,t4 t]
abbrev FZ:DSp:=Dc (fun p:I3×I4×Int=>[K7 p.1 p.2.1,.int p.2.2]) (fun p=>B3 8000 p.1∧p.1.2.2≠0∧B4 300000 p.2.1∧B4 5000 (Ca p.1 p.2.2)) fun p=>K7 (mov p.1 (Ca p.1 p.2.2)) (Ak p.2.1 (Ca p.1 p.2.2))
def Qm(T:Txt K mg)
  (jA:Pm P w K mg base 1 "turn_behind" DR ["form","top"] Ku)
  (j5:Pm P w K mg base 3 "moved" Jo ["form","turn"] Rj)
  (aR:Pm P w K mg base 1 "put_behind" CP ["one","other"] GJ)
  : Pm P w K mg base 4 "stop_behind" CW ["stop","top"] FZ:=by
 obtain⟨f,fd,F⟩:=T.dg
 refine⟨f,fd,F,F.fn.okD Km (by walk_at "lE") fun cdv A outer s H E hr=>⟨_,(Ad (Aq 2 Km.nd (Ag Ae jA (hr.mono ⋯) rfl (Aa (Ac (dv 0) Ab) (Aa (dv 1) Af)))) (Ah (Av (Bw (Aa (Ag Ae j5 (hr.mono ⋯) rfl (Aa (Ac (dv 0) Ab) (Aa (dv 2) Af))) (Aa (Ag Ae aR (hr.mono ⋯) rfl (Aa (Ac (dv 0) Ab) (Aa (dv 2) Af))) Af)))))),fun ds Q h=>?_⟩⟩
 obtain⟨⟨f,t,top⟩,rfl,⟨hf,h0,ht,hb⟩,q⟩:=h
 walk_at "go"
 exact Al (f,top) ⟨hf,h0⟩ (Al (f,Ca f top) ⟨B3.le hf ⋯,B4.le hb ⋯,Cv⟩ (Al (t,Ca f top) ⟨B4.le ht ⋯,B4.le hb ⋯⟩ ⟨Ax ⋯,q _ rfl⟩))
def EI(far:Int)(f:I3):Nat→I4
 |0=>(1,0,0,1)
 |k+1=>Ak (EI far f k) (Ca (mov f (EI far f k)) (if far>ab (mov f (EI far f k)).2.2 then far else ab (mov f (EI far f k)).2.2))
def Lk(far:Int)(f:I3)(t:I4):Prop:=∃k,t=EI far f k∧(∀i,i<k→¬Level (mov f (EI far f i)) far)∧Level (mov f (EI far f k)) far
theorem Lk.uniq{far:Int}{f:I3}{t u:I4}(a:Lk far f t)(b:Lk far f u):t=u:=by
 obtain⟨k,rfl,n1,h1⟩:=a
 obtain⟨l,rfl,n2,h2⟩:=b
 rcases Nat.lt_trichotomy k l with z|z|z
 ·exact absurd h1 (n2 k z)
 ·rw[z]
 ·exact absurd h2 (n1 l z)
def Al4(f:I3)(d:Dt):Prop:=∃(t:I4)(far:Int),d=K7 (mov f t) t∧det t=1∧Sq (meas f) far∧Level (mov f t) far∧B4 7600 t∧Lk far f t
abbrev Vy:DSp:=spec (fun f:I3=>[t3 f]) (fun f=>B3 1500 f∧Sad f) Al4
def M4{f:I3}(S:Sad f):0≤meas f∧Bt 4000 (meas f):=by
 have:=S.pos
 have:=S.most
 exact⟨∅,Bt.le (n:=13) (Bt.of ∅ ∅) ⋯⟩
def AcE(T:Txt K mg)
  (bJ:Pm P w K mg base 4 "check_saddle" Cr ["form"] Hf)
  (dN:Pm P w K mg base 1 "root" JK ["number"] Mt)
  (aD:Pm P w K mg base 1 "measure" Dk ["form"] Fp)
  (iK:Pm P w K mg base 1 "stands_level" Df ["form","far"] JR)
  (aX:Pm P w K mg base 4 "stop_behind" CW ["stop","top"] FZ)
  : Pm P w K mg base 5 "eased" KZ ["form"] Vy:=by
 obtain⟨f,fd,F⟩:=T.nT
 obtain⟨dR,mD,mF⟩:=T.mC
 refine⟨f,fd,F,F.fn.okD MF (by walk_at "lE") fun cdv A outer s H E hr=>⟨_,(Ad (Jk (Ag Ae bJ (hr.mono ⋯) rfl (Aa (dv 0) Af))) (Ad (Aq 1 MF.nd (Ag Ae dN (hr.mono ⋯) rfl (Aa (Ag Ae aD (hr.mono ⋯) rfl (Aa (dv 0) Af)) Af))) (Ad (Aq 2 MF.nd (Bw (Aa (dv 0) (Aa (Px (v:=.ref dR) rfl mD rfl mF) Af)))) (Ad (Fi PassesOwn.never (G9 (Gn (Ag Ae iK (hr.mono ⋯) rfl (Aa (Ac (dv 2) Ab) (Aa (dv 1) Af))))) (Ah (Aq 2 MF.nd (Ag Ae aX (hr.mono ⋯) rfl (Aa (dv 2) (Aa (Vc T.fK (Aa (G8 T.bA (Aa (Ac (Ac (dv 2) Ab) Ab) Af)) (Aa (dv 1) Af))) Af)))))) (Ah (Av (dv 2))))))),fun ds Q h=>?_⟩⟩
 obtain⟨f,rfl,⟨hb,hS⟩,q⟩:=h
 have hS:Sad f:=hS
 have hb:B3 1500 f:=hb
 walk_at "go"
 refine Al f ⟨hb,hS⟩ (Al f (hb.le ⋯) (Bg (meas f) (M4 hS) ?_))
 rintro _ ⟨far,rfl,hr',hfb⟩
 walk_at "rd"
 refine⟨Ax ⋯,?_⟩
 refine Fe (fun m ρ=>∃k,(∀i,i<k→¬Level (mov f (EI far f i)) far)∧ρ=[some (.is (t3 f)),some (.is (.int far)),some (.is (K7 (mov f (EI far f k)) (EI far f k)))]∧K4 1500 far f (EI far f k)∧m=eM far (mov f (EI far f k))) _ ⟨0,fun _ h=>absurd h ∅,by show _=[_,_,some (En.is (K7 (mov f (1,0,0,1)) (1,0,0,1)))];rw[Dl],K4.start ⋯ hb,rfl⟩ ?_
 rintro m _ ⟨k,nl,rfl,hI,rfl⟩
 have ek:EI far f (k+1)=Ak (EI far f k) (Ca (mov f (EI far f k)) (if far>ab (mov f (EI far f k)).2.2 then far else ab (mov f (EI far f k)).2.2)):=rfl
 obtain⟨t,et⟩:∃t,t=EI far f k:=⟨_,rfl⟩
 rw[←et]at hI ek ⊢
 have hd:=hI.1
 have hg:=hI.2.1
 have ht:=hI.b4
 walk_at "rd"
 refine Al (mov f t,far) (hg.le ⋯) ?_
 walk_at "rd"
 by_cases hL:Level (mov f t) far
 ·exact DY (by rw[decide_eq_true hL];rfl) (q _ ⟨t,far,rfl,hd,hr',hL,ht.le ⋯,k,et,nl,by rw[←et];exact hL⟩)
 ·refine ift (by rw[decide_eq_false hL];rfl) ?_
  have hst:=KN ⋯ hS hr' hI hL
  refine Al (mov f t,t,_) ⟨hg.le ⋯,Gg (hS.mov hd),ht.le ⋯,hst.2.2.le ⋯⟩ ?_
  dsimp only
  rw[Ay]
  refine⟨_,hst.2.1,k+1,fun i hi=>?_,by rw[ek];rfl,by rw[ek];exact hst.1,by rw[ek]⟩
  rcases Nat.lt_or_ge i k with z|z
  ·exact nl i z
  ·rw[show i=k by omega,←et];exact hL
structure NP(f:I3)(t0:I4)(far:Int)(N:Nat):Prop where
 d:det t0=1
 r:Sq (meas f) far
 v:Lv far (mov f t0)
 b:B4 7600 t0
 n:0<N
 m:N≤8128
 e:rF far N (mov f t0)=mov f t0
 l:∀j,0<j→j<N→rF far j (mov f t0)≠mov f t0
 a:Lk far f t0
abbrev G4(f:I3)(t0:I4)(far:Int)(i:Nat):Dt:=K7 (rF far i (mov f t0)) (Ak t0 (rT far i (mov f t0)))
theorem NP.bt{f:I3}{t0:I4}{far:Int}{N:Nat}(R:NP f t0 far N)(i:Nat)(h:i≤N):B4 90000 (Ak t0 (rT far i (mov f t0))):=by
 have:=R.m
 exact(B4.then R.b (Ahq i R.v)).le ∅
abbrev J1:DSp:=spec (fun f:I3=>[t3 f]) (fun f=>B3 1500 f∧Sad f) fun f d=>∃t0 far N,NP f t0 far N∧d=.lst ((List.range (N+1)).map (G4 f t0 far))
def AaQ{n:Nat}(h:n≤9000):n<PySem.sizeLine:=by unfold PySem.sizeLine;omega
def Qp(T:Txt K mg)
  (dN:Pm P w K mg base 1 "root" JK ["number"] Mt)
  (qp:Pm P w K mg base 5 "eased" KZ ["form"] Vy)
  (aX:Pm P w K mg base 4 "stop_behind" CW ["stop","top"] FZ)
  (aD:Pm P w K mg base 1 "measure" Dk ["form"] Fp)
  : Pm P w K mg base 6 "stops_round" DN ["form"] J1:=by
 obtain⟨f,fd,F⟩:=T.dh
 refine⟨f,fd,F,F.fn.okD Dd (by walk_at "lE") fun cdv A outer s H E hr=>⟨_,(Ad (Aq 1 Dd.nd (Ag Ae dN (hr.mono ⋯) rfl (Aa (Ag Ae aD (hr.mono ⋯) rfl (Aa (dv 0) Af)) Af))) (Ad (Aq 2 Dd.nd (Ag Ae qp (hr.mono ⋯) rfl (Aa (dv 0) Af))) (Ad (Vo 3 Dd.nd (Aa (dv 2) Af)) (Ad (Aq 4 Dd.nd (Ag Ae aX (hr.mono ⋯) rfl (Aa (dv 2) (Aa (dv 1) Af)))) (Ad (Fi PassesOwn.never (Im hr.units (Ac (dv 4) Ab) (Ac (dv 2) Ab)) (Ad (Ql 3 (dv 4)) (Ah (Aq 4 Dd.nd (Ag Ae aX (hr.mono ⋯) rfl (Aa (dv 4) (Aa (dv 1) Af))))))) (Ad (Ql 3 (dv 4)) (Ah (Uu 3 (Av (dv 3)))))))))),fun ds Q h=>?_⟩⟩
 obtain⟨f,rfl,⟨hb,hS⟩,q⟩:=h
 have hS:Sad f:=hS
 have hb:B3 1500 f:=hb
 walk_at "go"
 refine Al f (hb.le ⋯) (Bg (meas f) (M4 hS) ?_)
 rintro _ ⟨far,rfl,hr',hfb⟩
 refine Bg f ⟨hb,hS⟩ ?_
 rintro _ ⟨t0,aq,rfl,dt,hs,hL,bt,ea⟩
 obtain rfl:=hs.uniq hr'
 have hv:Lv aq (mov f t0):=⟨hS.mov dt,by rw[Bl dt];exact hs,hL⟩
 obtain⟨N,n0,nm,ne,nl⟩:=Kf hv
 have R:NP f t0 aq N:=⟨dt,hs,hv,bt,n0,nm,ne,nl,ea⟩
 walk_at "rd"
 refine⟨Ax ⋯,?_⟩
 have stp:∀{Q:Dt→Prop} (i:Nat),i≤N→Q (G4 f t0 aq (i+1))→FZ [G4 f t0 aq i,.int aq] Q:=fun{Q} i hi h=>by
  have hi':=Lv.rF i hv
  refine Al (rF aq i (mov f t0),Ak t0 (rT aq i (mov f t0)),aq) ⟨(Kr hi'.S hi'.r hi'.L).le ⋯,Gg hi'.S,(R.bt i hi).le ⋯,(Qj (Z7 hi') ⋯).le ⋯⟩ ?_
  have h:Q (K7 (rF aq (i+1) (mov f t0)) (Ak t0 (rT aq (i+1) (mov f t0)))):=h
  rw[PJ,MJ,←then_assoc]at h
  exact h
 have e0:K7 (mov f t0) t0=G4 f t0 aq 0:=by
  show K7 (mov f t0) t0=K7 (mov f t0) (Ak t0 (1,0,0,1))
  rw[Eo]
 rw[e0]
 refine stp 0 ∅ ?_
 have last:(List.range (N+1)).map (G4 f t0 aq)=(List.range N).map (G4 f t0 aq)++[G4 f t0 aq N]:=by rw[List.range_succ,List.map_append];rfl
 refine Fe (fun m ρ=>∃i:Nat,1≤i∧i≤N∧ρ=[some (.is (t3 f)),some (.is (.int aq)),some (.is (G4 f t0 aq 0)),some (.own ((List.range i).map (G4 f t0 aq))),some (.is (G4 f t0 aq i))]∧m=N-i) _ ⟨1,∅,∅,rfl,rfl⟩ ?_
 rintro m _ ⟨i,i1,iN,rfl,rfl⟩
 walk_at "rd"
 have hl:(List.range i).length<sizeLine:=by rw[List.length_range];exact AaQ ∅
 refine Gj (fun hw=>?_) (fun hw=>?_)
 ·have hi:i<N:=by
   rcases Nat.lt_or_ge i N with z|z
   ·exact z
   ·exfalso
    have:i=N:=∅
    subst this
    rw[ne]at hw
    simp[rF]at hw
  refine⟨hl,stp i iN ⟨N-(i+1),∅,i+1,∅,∅,?_,rfl⟩⟩
  rw[List.range_succ,List.map_append];rfl
 ·have hi:i=N:=by
   rcases Nat.lt_or_ge i N with z|z
   ·exfalso
    refine nl i ∅ z ?_
    have hw:rF aq i (mov f t0)=rF aq 0 (mov f t0):=by
     generalize rF aq i (mov f t0)=g at *
     generalize rF aq 0 (mov f t0)=g' at *
     obtain⟨a,b,c⟩:=g
     obtain⟨a',b',c'⟩:=g'
     simp at hw
     obtain⟨h1,h2,h3⟩:=hw
     rw[h1,h2,h3]
    exact hw
   ·omega
  subst hi
  refine⟨hl,q _ ⟨t0,aq,i,R,?_⟩⟩
  rw[last]
def GX(f:I3):List Int:=[f.1,f.2.1,f.2.2]
def Aiy(t:I4):List Int:=[t.1,t.2.1,t.2.2.1,t.2.2.2]
def AoW(f:I3)(t0:I4)(far:Int)(N:Nat):List (List Int×List Int):=(List.range (N+1)).map fun i=>(GX (rF far i (mov f t0)),Aiy (Ak t0 (rT far i (mov f t0))))
def Low(f:I3)(d:Dt):Prop:=∃t0 far N j,NP f t0 far N∧j≤N∧(∀i,i≤N→HT.lexLt (GX (rF far i (mov f t0))) (GX (rF far j (mov f t0)))=false)∧d=G4 f t0 far j∧j=Lp (AoW f t0 far N)
abbrev QF:DSp:=spec (fun f:I3=>[t3 f]) (fun f=>B3 1500 f∧Sad f) Low
def Rh(bt:Nat→Nat→Bool):∀k,argBest bt k≤k
 |0=>Nat.le_refl _
 | k+1=>by
  have:=Rh bt k
  unfold argBest
  split<;>omega
def Iw(bt:Nat→Nat→Bool)(ir:∀i,bt i i=false)(tr:∀a b c,bt a b=true→bt b c=true→bt a c=true):∀k j,j≤k→bt j (argBest bt k)=false
 | 0,j,h=>by
  have:j=0:=∅
  subst this
  exact ir 0
 | k+1,j,h=>by
  unfold argBest
  split
  ·rename_i hb
   rcases Nat.lt_or_ge j (k+1)with z|z
   ·cases q:bt j (k+1)with
    |false=>rfl
    | true =>
     have:=Iw bt ir tr k j ∅
     rw[tr _ _ _ q hb]at this
     cases this
   ·have:j=k+1:=∅
    subst this
    exact ir _
  ·rename_i hb
   rcases Nat.lt_or_ge j (k+1)with z|z
   ·exact Iw bt ir tr k j ∅
   ·have:j=k+1:=∅
    subst this
    simpa using hb
theorem Y0:∀a b c:List Int,HT.lexLt a b=true→HT.lexLt b c=true→HT.lexLt a c=true
 | [],[],_,h,_=>by cases h
 | [],_::_,[],_,h=>by cases h
 | [],_::_,_::_,_,_=>rfl
 |_::_,[],_,h,_=>by cases h
 |_::_,_::_,[],_,h=>by cases h
 | x::a,y::b,z::c,h1,h2=>by
  rw[HT.Ia]at h1 h2 ⊢
  by_cases e1:x=y
  ·subst e1
   rw[if_pos rfl]at h1
   by_cases e2:x=z
   ·subst e2
    rw[if_pos rfl]at h2 ⊢
    exact Y0 a b c h1 h2
   ·rw[if_neg e2]at h2 ⊢
    exact h2
  ·rw[if_neg e1]at h1
   have h1:=of_decide_eq_true h1
   by_cases e2:y=z
   ·subst e2
    rw[if_neg e1]
    exact decide_eq_true h1
   ·rw[if_neg e2]at h2
    have h2:=of_decide_eq_true h2
    rw[if_neg ∅]
    exact decide_eq_true ∅
def Aft(a b c:List Int×List Int)(h1:Gh a b=true)(h2:Gh b c=true):Gh a c=true:=by
 unfold Gh at *
 by_cases e1:a.1=b.1
 ·rw[if_pos e1]at h1
  by_cases e2:b.1=c.1
  ·rw[if_pos e2]at h2
   rw[if_pos (e1.trans e2)]
   exact Y0 _ _ _ h1 h2
  ·rw[if_neg e2]at h2
   rw[if_neg (by rw[e1];exact e2),e1]
   exact h2
 ·rw[if_neg e1]at h1
  by_cases e2:b.1=c.1
  ·rw[←e2,if_neg e1]
   exact h1
  ·rw[if_neg e2]at h2
   have h3:=Y0 _ _ _ h1 h2
   by_cases e3:a.1=c.1
   ·rw[e3,K1]at h3
    cases h3
   ·rw[if_neg e3]
    exact h3
def AdL(a:List Int×List Int):Gh a a=false:=by
 unfold Gh
 rw[if_pos rfl,K1]
def Aco{a b:List Int×List Int}(h:Gh a b=false):HT.lexLt a.1 b.1=false:=by
 unfold Gh at h
 by_cases e:a.1=b.1
 ·rw[e];exact K1 _
 ·rw[if_neg e]at h;exact h
def YC(T:Txt K mg)
  (bJ:Pm P w K mg base 4 "check_saddle" Cr ["form"] Hf)
  (jB:Pm P w K mg base 6 "stops_round" DN ["form"] J1)
  : Pm P w K mg base 7 "lowered" Hy ["form"] QF:=by
 obtain⟨f,fd,F⟩:=T.jP
 refine⟨f,fd,F,F.fn.okD YX (by walk_at "lE") fun cdv A outer s H E hr=>⟨_,(Ad (Jk (Ag Ae bJ (hr.mono ⋯) rfl (Aa (dv 0) Af))) (Ah (Av (AfW T.jT (Ah5 hr.units) (Aa (Ag Ae jB (hr.mono ⋯) rfl (Aa (dv 0) Af)) Af))))),fun ds Q h=>?_⟩⟩
 obtain⟨f,rfl,⟨hb,hS⟩,q⟩:=h
 walk_at "go"
 refine Al f ⟨hb,hS⟩ (Bg f ⟨hb,hS⟩ ?_)
 rintro _ ⟨t0,far,N,R,rfl⟩
 have nm:=R.m
 let ps:List (List Int×List Int):=(List.range (N+1)).map fun i=>(GX (rF far i (mov f t0)),Aiy (Ak t0 (rT far i (mov f t0))))
 have lp:ps.length=N+1:=by show((List.range (N+1)).map _).length=_;rw[List.length_map,List.length_range]
 have ep:(List.range (N+1)).map (G4 f t0 far)=ps.map N6:=by
  show _=((List.range (N+1)).map _).map N6
  rw[List.map_map]
  rfl
 have at':∀i,i≤N→ps.getD i ([],[])=(GX (rF far i (mov f t0)),Aiy (Ak t0 (rT far i (mov f t0)))):=fun i hi=>by
  show((List.range (N+1)).map _).getD i _=_
  simp[List.getD,show i<N+1 by omega]
 have kl:Lp ps≤N:=by
  have:=Rh (fun i j=>Gh (ps.getD i ([],[])) (ps.getD j ([],[]))) (ps.length-1)
  unfold Lp
  omega
 have least:∀i,i≤N→Gh (ps.getD i ([],[])) (ps.getD (Lp ps) ([],[]))=false:=fun i hi =>
  Iw (fun i j=>Gh (ps.getD i ([],[])) (ps.getD j ([],[]))) (fun _=>AdL _) (fun _ _ _ h1 h2=>Aft _ _ _ h1 h2) _ i ∅
 refine⟨ps,by rw[ep],∅,∅,q _ ⟨t0,far,N,Lp ps,R,kl,fun i hi=>?_,?_,rfl⟩⟩
 ·have:=Aco (least i hi)
  rw[at' i hi,at' _ kl]at this
  exact this
 ·rw[at' _ kl]
  rfl
abbrev WT(c:Str)(f:I3)(d:Dt):Dt:=.obj c ["form","measure","lowest"] [t3 f,.int (meas f),d]
abbrev Nt:DIn:=Ub (fun p:I3×Dt=>[t3 p.1,p.2]) (fun p=>B3 1500 p.1) fun p fds=>fds=[t3 p.1,.int (meas p.1),p.2]
abbrev Wg:DIn:=Ub (fun f:I3=>[t3 f]) (fun f=>B3 1500 f∧Bv f) fun f fds=>∃d,Ni f d∧fds=[t3 f,.int (meas f),d]
abbrev Rw:DIn:=Ub (fun f:I3=>[t3 f]) (fun f=>B3 1500 f∧Sad f) fun f fds=>∃d,Low f d∧fds=[t3 f,.int (meas f),d]
def Abz(T:Txt K mg)
  (aD:Pm P w K mg base 1 "measure" Dk ["form"] Fp)
  : PmC P w K mg base 2 "Shape" ["form","measure","lowest"] Nt:=by
 obtain⟨g,fd,M,F,B⟩:=T.lH
 refine⟨g,fd,_,M,B,F.ok Aa4 (fun vs H Q E ⟨x,C,dx,ys,F',ds,e,_,_,_,_,_,r,h⟩=>by obtain⟨p,ed,_⟩:=h;rw[e,List.length_cons,r.len,ed];rfl) fun cdv A outer s H vs Q E hr ⟨x,C,dx,ys,F',ds,e,hx,cl,no,xF,th,r,h⟩=>?_⟩
 subst e
 refine⟨_,AdA (dv 1) (Ag Ae aD (hr.mono ⋯) rfl (Aa (dv 1) Af)) (dv 2) ⋯ ⋯ ⋯,mask [x] H,F',Jx ["self","form","lowest"] ds,x,C,dx,(fun fds:List Dt=>∀(ws:List V)(H':Hp),Same (mask [x] H) H'→H' x=some (.ins C dx (List.zip ["form","measure","lowest"] ws))→List.length ["form","measure","lowest"]=fds.length→RpL K (mask F' H') fds ws→Q .non H'),Lw xF th r,xF,CK (by simp),rfl,hx,cl,no,?_,fun fds w ws H' s1 h1 h2 h3=>w ws H' s1 h1 h2 h3⟩
 revert h
 generalize (fun fds:List Dt=>∀(ws:List V)(H':Hp),Same (mask [x] H) H'→H' x=some (.ins C dx (List.zip ["form","measure","lowest"] ws))→List.length ["form","measure","lowest"]=fds.length→RpL K (mask F' H') fds ws→Q .non H')=S
 intro h
 obtain⟨⟨f,l⟩,rfl,hb,hq⟩:=h
 have hb:B3 1500 f:=hb
 have e:Jx ["self","form","lowest"] [t3 f,l]=[none,some (.is (t3 f)),some (.is l)]:=rfl
 dsimp only
 rw[e]
 walk_at "rd"
 exact Al f (hb.le ⋯) (hq _ rfl)
def AcM(T:Txt K mg)
  (iM:PmC P w K mg base 2 "Shape" ["form","measure","lowest"] Nt)
  (oF:Pm P w K mg base 5 "settled" Hv ["form"] QS)
  : PmI P w K mg base 6 "Bowl" ["form","measure","lowest"] Wg:=by
 obtain⟨C0,f,fd,M,F,B⟩:=T.pH
 obtain⟨gC,fdC,psC,MC,BC,GC⟩:=iM
 refine⟨C0,f,fd,_,M,B,F.ok Ack (fun vs H Q E ⟨x,C,dx,ys,F',ds,e,_,_,_,_,_,r,h⟩=>by obtain⟨p,ed,_⟩:=h;rw[e,List.length_cons,r.len,ed];rfl) fun cdv A outer s H vs Q E hr ⟨x,C,dx,ys,F',ds,e,hx,cl,no,xF,th,r,h⟩=>?_⟩
 subst e
 refine⟨_,Xn Jl MC rfl GC BC (hr.mono ⋯) (Aa (dv 1) (Aa (Ag Ae oF (hr.mono ⋯) rfl (Aa (dv 1) Af)) Af)),mask [x] H,F',Jx ["self","form"] ds,x,C,dx,(fun fds:List Dt=>∀(ws:List V)(H':Hp),Same (mask [x] H) H'→H' x=some (.ins C dx (List.zip ["form","measure","lowest"] ws))→List.length ["form","measure","lowest"]=fds.length→RpL K (mask F' H') fds ws→Q .non H'),Lw xF th r,xF,CK (by simp),rfl,hx,cl,no,?_,fun fds w ws H' s1 h1 h2 h3=>w ws H' s1 h1 h2 h3⟩
 revert h
 generalize (fun fds:List Dt=>∀(ws:List V)(H':Hp),Same (mask [x] H) H'→H' x=some (.ins C dx (List.zip ["form","measure","lowest"] ws))→List.length ["form","measure","lowest"]=fds.length→RpL K (mask F' H') fds ws→Q .non H')=S
 intro h
 obtain⟨f,rfl,⟨hb,hw⟩,hq⟩:=h
 have e:Jx ["self","form"] [t3 f]=[none,some (.is (t3 f))]:=rfl
 rw[e]
 walk_at "rd"
 refine Bg f ⟨hb,hw⟩ fun d hd=>?_
 refine M7 (f,d) hb ?_
 rintro _ rfl
 exact hq _ ⟨d,hd,rfl⟩
def YH(T:Txt K mg)
  (iM:PmC P w K mg base 2 "Shape" ["form","measure","lowest"] Nt)
  (oG:Pm P w K mg base 7 "lowered" Hy ["form"] QF)
  : PmI P w K mg base 8 "Saddle" ["form","measure","lowest"] Rw:=by
 obtain⟨C0,f,fd,M,F,B⟩:=T.lF
 obtain⟨gC,fdC,psC,MC,BC,GC⟩:=iM
 refine⟨C0,f,fd,_,M,B,F.ok Ym (fun vs H Q E ⟨x,C,dx,ys,F',ds,e,_,_,_,_,_,r,h⟩=>by obtain⟨p,ed,_⟩:=h;rw[e,List.length_cons,r.len,ed];rfl) fun cdv A outer s H vs Q E hr ⟨x,C,dx,ys,F',ds,e,hx,cl,no,xF,th,r,h⟩=>?_⟩
 subst e
 refine⟨_,Xn Jl MC rfl GC BC (hr.mono ⋯) (Aa (dv 1) (Aa (Ag Ae oG (hr.mono ⋯) rfl (Aa (dv 1) Af)) Af)),mask [x] H,F',Jx ["self","form"] ds,x,C,dx,(fun fds:List Dt=>∀(ws:List V)(H':Hp),Same (mask [x] H) H'→H' x=some (.ins C dx (List.zip ["form","measure","lowest"] ws))→List.length ["form","measure","lowest"]=fds.length→RpL K (mask F' H') fds ws→Q .non H'),Lw xF th r,xF,CK (by simp),rfl,hx,cl,no,?_,fun fds w ws H' s1 h1 h2 h3=>w ws H' s1 h1 h2 h3⟩
 revert h
 generalize (fun fds:List Dt=>∀(ws:List V)(H':Hp),Same (mask [x] H) H'→H' x=some (.ins C dx (List.zip ["form","measure","lowest"] ws))→List.length ["form","measure","lowest"]=fds.length→RpL K (mask F' H') fds ws→Q .non H')=S
 intro h
 obtain⟨f,rfl,⟨hb,hw⟩,hq⟩:=h
 have e:Jx ["self","form"] [t3 f]=[none,some (.is (t3 f))]:=rfl
 rw[e]
 walk_at "rd"
 refine Bg f ⟨hb,hw⟩ fun d hd=>?_
 refine M7 (f,d) hb ?_
 rintro _ rfl
 exact hq _ ⟨d,hd,rfl⟩
abbrev Ik:DSp:=spec (fun f:I3=>[t3 f]) (fun f=>B3 1500 f∧(Bv f∨Sad f)) fun f d=>∃l,(Bv f∧Ni f l∧d=WT "Bowl" f l)∨(Sad f∧Low f l∧d=WT "Saddle" f l)
def Wt(T:Txt K mg)
  (qt:PmI P w K mg base 6 "Bowl" ["form","measure","lowest"] Wg)
  (oH:PmI P w K mg base 8 "Saddle" ["form","measure","lowest"] Rw)
  (cu:Pm P w K mg base 3 "shape" Hj ["form"] J2)
  : Pm P w K mg base 10 "shape_of" Fq ["form"] Ik:=by
 obtain⟨f,fd,F⟩:=T.iC
 refine⟨f,fd,F,F.fn.okD WL (by walk_at "lE") fun cdv A outer s H E hr=>⟨_,(Ad (Cj (JV hr.units (Ag Ae cu (hr.mono ⋯) rfl (Aa (dv 0) Af)) Kd) (Ah (Av (Wm Jl qt (hr.mono ⋯) rfl (Aa (dv 0) Af)))) Bd) (Ah (Av (Wm Jl oH (hr.mono ⋯) rfl (Aa (dv 0) Af))))),fun ds Q h=>?_⟩⟩
 obtain⟨f,rfl,⟨hb,hw⟩,q⟩:=h
 have hb:B3 1500 f:=hb
 have hw:Bv f∨Sad f:=hw
 walk_at "go"
 refine Bg f hb ?_
 rintro _ hs
 have fb:∀x:Str,(PySem.PyData.str x).canLay0=true→Dt.flat 8 (.str x)=true:=fun x h=>by rw[LC];exact h
 have f1:Dt.flat 8 (.str "bowl")=true:=fb _ (by decide +kernel)
 have f2:Dt.flat 8 (.str "saddle")=true:=fb _ (by decide +kernel)
 have mkS:Sad f→Ub (fun f:I3=>[t3 f]) (fun f=>B3 1500 f∧Sad f) (fun f fds=>∃d,Low f d∧fds=[t3 f,Dt.int (meas f),d]) [t3 f] fun fds=>Q (Dt.obj "Saddle" ["form","measure","lowest"] fds):=fun hS=>by
  refine M7 f ⟨hb,hS⟩ ?_
  rintro _ ⟨l,hl,rfl⟩
  exact q _ ⟨l,.inr ⟨hS,hl,rfl⟩⟩
 cases hs with
 | flat z =>
  rcases hw with hw|hw
  ·exact absurd z (MP hw.2)
  ·exact absurd z hw.no
 | saddle _ z =>
  rcases hw with hw|hw
  ·have:=hw.2;omega
  ·exact⟨⟨f2,f1⟩,DY (by rw[OJ];rfl) (mkS hw)⟩
 | dome _ z1 z2 =>
  rcases hw with hw|hw
  ·exact absurd hw.1 z2
  ·exact absurd hw.pos z1
 | bowl _ z1 z2 =>
  rcases hw with hw|hw
  ·refine⟨⟨f1,f1⟩,ift (by rw[OJ];rfl) (M7 f ⟨hb,hw⟩ ?_)⟩
   rintro _ ⟨l,hl,rfl⟩
   exact q _ ⟨l,.inl ⟨hw,hl,rfl⟩⟩
  ·exact absurd hw.pos z1
def LF(f g:I3):Prop:=(Bv f∧∃t,det t=1∧Cq (mov f t)∧g=mov f t)∨(Sad f∧∃t0 far N j,NP f t0 far N∧j≤N∧(∀i,i≤N→HT.lexLt (GX (rF far i (mov f t0))) (GX (rF far j (mov f t0)))=false)∧g=rF far j (mov f t0))
def Afe{f g:I3}(h1:HT.lexLt (GX f) (GX g)=false)(h2:HT.lexLt (GX g) (GX f)=false):f=g:=by
 obtain⟨x1,x2,x3⟩:=f
 obtain⟨y1,y2,y3⟩:=g
 simp only[GX,HT.Ia,HT.Jc]at h1 h2
 have e1:x1=y1:=by
  rcases Int.lt_trichotomy x1 y1 with z|z|z
  ·rw[if_neg ∅]at h1;simp at h1;omega
  ·exact z
  ·rw[if_neg ∅]at h2;simp at h2;omega
 subst e1
 rw[if_pos rfl]at h1 h2
 have e2:x2=y2:=by
  rcases Int.lt_trichotomy x2 y2 with z|z|z
  ·rw[if_neg ∅]at h1;simp at h1;omega
  ·exact z
  ·rw[if_neg ∅]at h2;simp at h2;omega
 subst e2
 rw[if_pos rfl]at h1 h2
 have e3:x3=y3:=by
  rcases Int.lt_trichotomy x3 y3 with z|z|z
  ·rw[if_neg ∅]at h1;simp at h1;omega
  ·exact z
  ·rw[if_neg ∅]at h2;simp at h2;omega
 rw[e3]
def Ly{far:Int}{g:I3}{N:Nat}(e:rF far N g=g):∀q,rF far (N*q) g=g
 |0=>rfl
 |q+1=>by rw[Nat.mul_succ,EY,Ly e q,e]
def AaA{far:Int}{g:I3}{N:Nat}(e:rF far N g=g)(n0:0<N)(n:Nat):∃i,i≤N∧rF far n g=rF far i g:=by
 have h1:=Nat.mod_lt n n0
 have h2:=Nat.div_add_mod n N
 refine⟨n % N,∅,?_⟩
 have:rF far (N*(n / N)+n % N) g=rF far (n % N) g:=by rw[EY,Ly e]
 rw[h2]at this
 exact this
def Tf{far:Int}{g h:I3}{N m:Nat}(e:rF far N h=h)(n0:0<N)(k:rF far m h=g):∃j,rF far j g=h:=by
 refine⟨N*m-m,?_⟩
 rw[←k,←EY]
 have:m≤N*m:=Nat.le_mul_of_pos_left m n0
 rw[show m+(N*m-m)=N*m by omega,Ly e]
def Ek(f:I3)(l:Dt):Prop:=(Bv f∧Ni f l)∨(Sad f∧Low f l)
theorem Ek.uniq{f:I3}{l m:Dt}(A:Ek f l)(B:Ek f m):l=m:=by
 rcases A with⟨hb,t,rfl,_,_,_,a⟩|⟨hS,t0,far,N,j,R,_,_,rfl,ej⟩<;>rcases B with⟨hb',u,rfl,_,_,_,b⟩|⟨hS',t1,qR,N1,k,R1,_,_,rfl,ek⟩
 ·rw[a.uniq b]
 ·have:=hb.2;have:=hS'.pos;omega
 ·have:=hb'.2;have:=hS.pos;omega
 ·have ef:far=qR:=R.r.uniq R1.r
  subst ef
  have et:=R.a.uniq R1.a
  subst et
  have en:N=N1:=by
   rcases Nat.lt_trichotomy N N1 with z|z|z
   ·exact absurd R.e (R1.l N R.n z)
   ·exact z
   ·exact absurd R1.e (R.l N1 R1.n z)
  subst en
  rw[ej,ek]
theorem LF.same{f h g g':I3}{x:I4}(A:LF f g)(B:LF h g')(dx:det x=1)(ex:mov f x=h):g=g':=by
 have hm:meas h=meas f:=by rw[←ex,Bl dx]
 rcases A with⟨hb,t,dt,Lt,rfl⟩|⟨hS,t0,far,N,j,R,jl,lj,rfl⟩<;>rcases B with⟨hb',u,du,Lu,rfl⟩|⟨hS',t1,qR,N1,k,R1,kl,lk,rfl⟩
 ·have e:mov (mov f t) (Ak (Ba t) (Ak x u))=mov h u:=by rw[←Ay,BZ dt,←Ay,ex]
  have:=Cq.one Lt (t:=Ak (Ba t) (Ak x u)) (by rw[e];exact Lu) (by rw[BR,BR,Ef,dt,dx,du];rfl)
  rw[e]at this
  exact this.symm
 ·have:=hb.2;have:=hS'.pos;omega
 ·have:=hb'.2;have:=hS.pos;omega
 ·have ef:far=qR:=R.r.uniq (by rw[←hm];exact R1.r)
  subst ef
  have e1:mov (mov f t0) (Ak (Ba t0) (Ak x t1))=mov h t1:=by rw[←Ay,BZ R.d,←Ay,ex]
  have d1:det (Ak (Ba t0) (Ak x t1))=1:=by rw[BR,BR,Ef,R.d,dx,R1.d];rfl
  have en:N=N1:=(Abl R.v R1.v d1 e1 R.e R.l R1.e R1.l R.n R1.n).1
  subst en
  have hm:∃m,rF far m (mov f t0)=mov h t1:=by
   rcases Mi R.v R1.v d1 e1 with⟨m,s⟩|⟨m,s⟩
   ·exact⟨m,by rw[←Fb,←s.mov,e1]⟩
   ·have e2:mov (mov h t1) (Ba (Ak (Ba t0) (Ak x t1)))=mov f t0:=by rw[←e1,BZ d1]
    exact Tf (m:=m) R1.e R1.n (by rw[←Fb,←s.mov,e2])
  obtain⟨m,hm⟩:=hm
  obtain⟨m',hm'⟩:=Tf R.e R.n hm
  obtain⟨i1,a1,b1⟩:=AaA R.e R.n (m+k)
  obtain⟨i2,a2,b2⟩:=AaA R1.e R1.n (m'+j)
  have h1:=lj i1 a1
  have h2:=lk i2 a2
  rw[←b1,EY,hm]at h1
  rw[←b2,EY,hm']at h2
  exact(Afe h1 h2).symm
def T5{f:I3}{l:Dt}(h:Ek f l):∃(g:I3)(t:I4),l=.tup [t3 g,t4 t]∧LF f g∧det t=1∧mov f t=g∧B4 90000 t:=by
 rcases h with⟨hb,t,rfl,dt,L,bt,_⟩|⟨hS,t0,far,N,j,R,jl,lj,rfl,_⟩
 ·exact⟨_,t,rfl,.inl ⟨hb,t,dt,L,rfl⟩,dt,rfl,bt.le ⋯⟩
 ·exact⟨_,_,rfl,.inr ⟨hS,t0,far,N,j,R,jl,lj,rfl⟩,by rw[BR,R.d,N5];rfl,by rw[←Ay,Fb],R.bt j jl⟩
def ZG{f:I3}{d:Dt}(h:∃l,(Bv f∧Ni f l∧d=WT "Bowl" f l)∨(Sad f∧Low f l∧d=WT "Saddle" f l)):∃(c:Str)(l:Dt),(c="Bowl"∨c="Saddle")∧d=WT c f l∧Ek f l:=by
 obtain⟨l,⟨h1,h2,rfl⟩|⟨h1,h2,rfl⟩⟩:=h
 ·exact⟨_,l,.inl rfl,rfl,.inl ⟨h1,h2⟩⟩
 ·exact⟨_,l,.inr rfl,rfl,.inr ⟨h1,h2⟩⟩
def Ad9{K:W.Frag}{mg:Str→Option Value}(T:Txt K mg){c:Str}(hc:c="Bowl"∨c="Saddle"):Pg K c "lowest":=by
 rcases hc with e|e<;>rw[e]
 ·exact T.cL
 ·exact T.bV
def Zo{K:W.Frag}{mg:Str→Option Value}(T:Txt K mg){c:Str}(hc:c="Bowl"∨c="Saddle"):Pg K c "measure":=by
 rcases hc with e|e<;>rw[e]
 ·exact T.cD
 ·exact T.bR
abbrev HN:DSp:=Dc (fun p:(I3×I4)×(I3×I4)=>[.tup [t3 p.1.1,t4 p.1.2],.tup [t3 p.2.1,t4 p.2.2]]) (fun p=>B4 90000 p.1.2∧B4 90000 p.2.2∧det p.2.2=1) fun p=>if p.1.1=p.2.1 then t4 (Ak p.1.2 (Ba p.2.2))else .non
def Qn(T:Txt K mg)
  (aR:Pm P w K mg base 1 "put_behind" CP ["one","other"] GJ)
  (qT:Pm P w K mg base 3 "back" Nz ["turn"] AaS)
  : Pm P w K mg base 4 "way_between" DQ ["one","other"] HN:=by
 obtain⟨f,fd,F⟩:=T.dj
 refine⟨f,fd,F,F.fn.okD Qa (by walk_at "lE") fun cdv A outer s H E hr=>⟨_,(Ad (Cj (Im hr.units (Ac (dv 0) Ab) (Ac (dv 1) Ab)) (Ah (Av Y4)) Bd) (Ah (Av (Ag Ae aR (hr.mono ⋯) rfl (Aa (Ac (dv 0) Ab) (Aa (Ag Ae qT (hr.mono ⋯) rfl (Aa (Ac (dv 1) Ab) Af)) Af)))))),fun ds Q h=>?_⟩⟩
 obtain⟨⟨⟨g,t⟩,h,u⟩,rfl,⟨bt,bu,du⟩,q⟩:=h
 have bt:B4 90000 t:=bt
 have bu:B4 90000 u:=bu
 have q':Q (if g=h then t4 (Ak t (Ba u))else .non):=q _ rfl
 walk_at "go"
 by_cases e:g=h
 ·rw[if_pos e]at q'
  subst e
  exact DY (by simp) (Al u ⟨bu.le ⋯,du⟩ (Al (t,Ba u) ⟨bt.le ⋯,bu.back.le ⋯⟩ q'))
 ·rw[if_neg e]at q'
  refine ift ?_ q'
  rw[Bool.not_eq_true',Bool.eq_false_iff]
  intro w
  simp only[Bool.and_eq_true,decide_eq_true_eq]at w
  exact e (Prod.ext w.1 (Prod.ext w.2.1 w.2.2))
def JT(f:I3)(l:Dt)(h:I3)(d:Dt):Prop:=(¬(meas f=meas h∧(Bv h∨Sad h))∧d=.non)∨(meas f=meas h∧∃g t g' u,l=.tup [t3 g,t4 t]∧Ek h (.tup [t3 g',t4 u])∧d=if g=g' then t4 (Ak t (Ba u))else .non)
abbrev Qx:DSp:=spec (fun p:Str×I3×Dt×I3=>[WT p.1 p.2.1 p.2.2.1,t3 p.2.2.2]) (fun p=>(p.1="Bowl"∨p.1="Saddle")∧Ek p.2.1 p.2.2.1∧B3 1500 p.2.2.2) fun p d=>JT p.2.1 p.2.2.1 p.2.2.2 d
def XJ(T:Txt K mg)
  (aD:Pm P w K mg base 1 "measure" Dk ["form"] Fp)
  (cu:Pm P w K mg base 3 "shape" Hj ["form"] J2)
  (jC:Pm P w K mg base 4 "way_between" DQ ["one","other"] HN)
  (dW:Pm P w K mg base 10 "shape_of" Fq ["form"] Ik)
  : PmM P w K mg base 11 ["Bowl","Saddle"] "way_to" Qx:=by
 obtain⟨g,fd,hm,kp,F,B⟩:=T.jK
 refine⟨g,fd,_,hm,kp,B,F.okD Y5 (by walk_at "lE") fun cdv A outer s H E hr=>⟨_,(Ad (Cj (DW.dt (OD (Im hr.units (Ag Ae aD (hr.mono ⋯) rfl (Aa (dv 1) Af)) (PL (dv 0))) (Ke (JV hr.units (Ag Ae cu (hr.mono ⋯) rfl (Aa (dv 1) Af)) Kd)))) (Ah (Av Y4)) Bd) (Ah (Av (Ag Ae jC (hr.mono ⋯) rfl (Aa (PL (dv 0)) (Aa (PL (Ag Ae dW (hr.mono ⋯) rfl (Aa (dv 1) Af))) Af)))))),fun ds Q h=>?_⟩⟩
 obtain⟨⟨c,f,l,h⟩,rfl,⟨hc,hl,hh⟩,q⟩:=h
 have hh:B3 1500 h:=hh
 have hl:Ek f l:=hl
 have q:∀d,JT f l h d→Q d:=q
 obtain⟨g,t,rfl,L,dt,mt,bt⟩:=T5 hl
 walk_at "go"
 refine Al h (hh.le ⋯) ⟨Zo T hc,.int (meas f),rfl,⟨QM,QM⟩,?_⟩
 rw[S8]
 by_cases hm:meas h=meas f
 ·refine DY (by rw[decide_eq_true hm];rfl) (Bg h hh ?_)
  rintro _ hs
  have fk:Bv f∨Sad f:=hl.elim (fun z=>.inl z.1) fun z=>.inr z.1
  have nsq:¬Je (meas h):=by
   rw[hm]
   exact fk.elim (fun z=>MP z.2) fun z=>z.no
  have f1:Dt.flat 8 (.str "dome")=true:=by rw[LC];decide +kernel
  have f2:Dt.flat 8 (.str "bowl")=true:=by rw[LC];decide +kernel
  have f3:Dt.flat 8 (.str "saddle")=true:=by rw[LC];decide +kernel
  have go:(Bv h∨Sad h)→Pg K c "lowest"∧∃v,List.lookup (Str.ofString "lowest") (List.zip [Str.ofString "form",Str.ofString "measure",Str.ofString "lowest"] [t3 f,Dt.int (meas f),Dt.tup [t3 g,t4 t]])=some v∧Ik [t3 h] fun d=>match d with
    |.obj c ns ds=>Pg K c "lowest"∧∃v_1,List.lookup (Str.ofString "lowest") (ns.zip ds)=some v_1∧HN [v,v_1] Q
    |_=>False:=fun kh=>by
   refine⟨Ad9 T hc,_,rfl,Bg h ⟨hh,kh⟩ ?_⟩
   rintro _ ho
   obtain⟨c2,l2,hc2,rfl,h2⟩:=ZG ho
   obtain⟨g2,u,rfl,L2,du,mu,bu⟩:=T5 h2
   exact⟨Ad9 T hc2,_,rfl,Al ((g,t),(g2,u)) ⟨bt,bu,du⟩ (q _ (.inr ⟨hm.symm,g,t,g2,u,rfl,h2,rfl⟩))⟩
  cases hs with
  |flat z=>exact absurd z nsq
  |saddle n z=>exact⟨⟨f3,f1⟩,DY (by rw[OJ];rfl) (go (.inr ⟨n,z,fk.elim (fun w=>by have:=w.2;omega) fun w=>by rw[hm];exact w.most⟩))⟩
  |dome _ z1 z2=>exact⟨⟨f1,f1⟩,ift (by rw[OJ];rfl) (q _ (.inl ⟨fun z=>z.2.elim (fun z=>z2 z.1) fun z=>z1 z.pos,rfl⟩))⟩
  |bowl n z1 z2=>exact⟨⟨f2,f1⟩,DY (by rw[OJ];rfl) (go (.inl ⟨z2,by have h0:¬meas h=0:=fun e=>n (by rw[e];exact⟨0,rfl⟩);omega⟩))⟩
 ·refine ift (by rw[decide_eq_false hm];rfl) (q _ (.inl ⟨fun e=>hm e.1.symm,rfl⟩))
theorem t3i{a b:I3}(h:t3 a=t3 b):a=b:=by
 have:=Ahx (s:=a) (t:=b)
 rw[h]at this
 have h5:=Ahx (s:=b) (t:=b)
 rw[decide_eq_true rfl]at h5
 rw[h5]at this
 exact of_decide_eq_true this.symm
theorem t4i{a b:I4}(h:t4 a=t4 b):a=b:=by
 have:=AhW (s:=a) (t:=b)
 rw[h]at this
 have h5:=AhW (s:=b) (t:=b)
 rw[decide_eq_true rfl]at h5
 rw[h5]at this
 exact of_decide_eq_true this.symm
def GZ{g h:I3}{t u:I4}(e:Dt.tup [t3 g,t4 t]=Dt.tup [t3 h,t4 u]):g=h∧t=u:=by
 have:=Dt.tup.inj e
 exact⟨t3i (List.cons.inj this).1,t4i (List.cons.inj (List.cons.inj this).2).1⟩
def Ad5{f h:I3}{l d d':Dt}(w:JT f l h d)(w':JT f l h d'):d=d':=by
 rcases w with⟨n,rfl⟩|⟨hm,g,t,g',u,rfl,h2,rfl⟩<;>rcases w' with⟨n',rfl⟩|⟨hm',a,b,a',v,el,h3,rfl⟩
 ·rfl
 ·exact absurd ⟨hm',h3.elim (fun z=>.inl z.1) fun z=>.inr z.1⟩ n
 ·exact absurd ⟨hm,h2.elim (fun z=>.inl z.1) fun z=>.inr z.1⟩ n'
 ·have e1:=h2.uniq h3
  obtain⟨rfl,rfl⟩:=GZ el
  obtain⟨rfl,rfl⟩:=GZ e1
  rfl
abbrev JN:DSp:=Dc (fun p:I2=>[.int p.1,.int p.2]) (fun p=>(p.1.natAbs:Int)≤p.2) fun _=>.non
def O7(T:Txt K mg)
  : Pm P w K mg base 1 "check_within" Dj ["number","most"] JN:=by
 obtain⟨f,fd,F⟩:=T.cM
 refine⟨f,fd,F,F.fn.okD Pa (by walk_at "lE") fun cdv A outer s H E hr=>⟨_,(Ah (Cj (TF (G8 T.bA (Aa (dv 0) Af)) (dv 1)) (Ah HY) Bd)),fun ds Q h=>?_⟩⟩
 obtain⟨⟨n,m⟩,rfl,h0,q⟩:=h
 have h0:(n.natAbs:Int)≤m:=h0
 walk_at "go"
 exact DY (decide_eq_false ∅) (q _ rfl)
theorem AkX:∀n:Nat,n<401→∃r,r<21∧r*r≤n∧n<(r+1)*(r+1):=by decide +kernel
def AiR{n:Int}(h:n.natAbs≤400):∃r:Nat,r≤20∧Sq n.natAbs r:=by
 obtain⟨r,h1,h2,h3⟩:=AkX n.natAbs ∅
 exact⟨r,∅,∅,by exact_mod_cast h2,by exact_mod_cast h3⟩
def Y6{sl:List Nat}{ti:DTI}{tt:DTT}{te:DTE}{ρ:Bu}{Q:Dt→Prop}(h:ti ρ fun items=>JW sl (fun _ R=>R items) tt te ρ Q):JW sl ti tt te ρ Q:=h
def Am5{a:Nat}{ρ:Bu}{d:Dt}:inner [a] ρ d=[some (.is d),ρ[a]?.join]:=rfl
def AlC{a b:Nat}{ρ:Bu}{d:Dt}:inner [a,b] ρ d=[some (.is d),ρ[a]?.join,ρ[b]?.join]:=rfl
def okG(n:Int):Dt→Bool
 |.int g=>decide (n.fmod (g*g)=0)
 |_=>false
def Wl(n:Int):∀r:Nat,(((ups 1 r).filter (okG n)).map id)=(Ir n r).map Dt.int
 |0=>rfl
 | r+1=>by
  have e:ups 1 (r+1)=ups 1 r++[.int (1+(r:Nat))]:=by
   unfold ups
   rw[List.range_succ,List.map_append]
   rfl
  rw[e,List.filter_append,List.map_append,Wl n r,Ir,List.map_append]
  congr 1
  by_cases h:n.fmod ((1+(r:Int))*(1+(r:Int)))=0
  ·rw[if_pos h]
   simp[okG,h]
  ·rw[if_neg h]
   simp[okG,h]
abbrev Ec:DSp:=spec (fun n:Int=>[.int n]) (fun n=>n.natAbs≤400) fun n d=>∃r:Nat,r≤20∧Sq n.natAbs r∧d=.lst ((Ir n r).map Dt.int)
def Hh(T:Txt K mg)
  (dN:Pm P w K mg base 1 "root" JK ["number"] Mt)
  : Pm P w K mg base 2 "roots_of_square_divisors" Bb ["number"] Ec:=by
 obtain⟨f,fd,F⟩:=T.aK
 refine⟨f,fd,F,F.fn.okD Hq (by walk_at "lE") fun cdv A outer s H E hr=>⟨_,(Ah (Av (Wk (Gx (sc:=Ai Bb) (NN:=["number"]) (x:="g") (N:=["number"]) (sl:=[0]) rfl rfl (by decide +kernel)) rfl (AaP rfl T.bC (Aa Ab (Aa (Bs (Ag Ae dN (hr.mono ⋯) rfl (Aa (G8 T.bA (Aa (dv 0) Af)) Af)) Ab) Af))) (fun cl C s0 H0 ex=>(JV hr.units (CV (dv 1) (Aj (dv 0) (dv 0))) Ab)) (fun cl C s0 H0 ex=>(dv 0))))),fun ds Q h=>?_⟩⟩
 obtain⟨n,rfl,hn,q⟩:=h
 have hn:n.natAbs≤400:=hn
 obtain⟨r,hr,sr⟩:=AiR hn
 walk_at "go"
 refine Jr (ups 1 r) (okG n) id (fun R hR=>?_) (by rw[Ky];exact Ax ∅) (FJ rfl Gw) (fun d hd R hR=>?_) (fun d hd hp R hR=>hR) ?_
 ·walk_at "rd"
  have ea:(if n<0 then -n else n)=(n.natAbs:Int):=by split<;>omega
  rw[ea]
  refine Bg (n.natAbs:Int) ⟨∅,Bt.of ∅ ∅⟩ ?_
  rintro _ ⟨r',rfl,hr',_⟩
  have er:r'=(r:Int):=hr'.uniq sr
  subst er
  refine⟨⟨∅,∅⟩,?_⟩
  have e2:((r:Int)+1-1).toNat=r:=∅
  rw[e2]
  exact hR
 ·obtain⟨k,hk⟩:=List.getElem?_of_mem hd
  obtain⟨hk,rfl⟩:=Nf hk
  rw[Am5]
  walk_at "rd"
  have b5:Bt 6 (1+(k:Int)):=Bt.of ∅ ∅
  exact⟨b5.aj b5,fun z=>by
   have:=Int.mul_pos (show(0:Int)<1+(k:Int) by omega) (show(0:Int)<1+(k:Int) by omega)
   omega,hR⟩
 ·rw[Wl]
  exact q _ ⟨r,hr,sr,rfl⟩
def okB(m D:Int):Dt→Bool
 |.int b=>decide ((b*b-D).fmod (4*m)=0)
 |_=>false
def Wy(m D:Int):∀n:Nat,(((ups 0 n).filter (okB m D)).map id)=(mids m D n).map Dt.int
 |0=>rfl
 | n+1=>by
  have e:ups 0 (n+1)=ups 0 n++[.int (0+(n:Nat))]:=by
   unfold ups
   rw[List.range_succ,List.map_append]
   rfl
  rw[e,List.filter_append,List.map_append,Wy m D n,mids,List.map_append,Int.zero_add]
  congr 1
  by_cases h:((n:Int)*n-D).fmod (4*m)=0
  ·rw[if_pos h]
   simp[okB,h]
  ·rw[if_neg h]
   simp[okB,h]
abbrev Zq:DSp:=Dc (fun p:I2=>[.int p.1,.int p.2]) (fun p=>p.1≠0∧p.1.natAbs≤400∧Bt 1400 p.2) fun p=>.lst ((Gf p.1 p.2).map t3)
def AfJ(T:Txt K mg)
  : Pm P w K mg base 1 "feet" Kc ["first","far"] Zq:=by
 obtain⟨f,fd,F⟩:=T.pK
 refine⟨f,fd,F,F.fn.okD Aau (by walk_at "lE") fun cdv A outer s H E hr=>⟨_,(Ad (Adp 2 Aau.nd (Gx (sc:=Ai Kc) (NN:=["first","far","middles"]) (x:="b") (N:=["far","first"]) (sl:=[1,0]) rfl rfl (by decide +kernel)) rfl (ZC rfl T.bC (Aa (Aj Ab (G8 T.bA (Aa (dv 0) Af))) Af)) (fun cl C s0 H0 ex=>(JV hr.units (CV (BJ (Aj (dv 0) (dv 0)) (dv 1)) (Aj Ab (dv 2))) Ab)) (fun cl C s0 H0 ex=>(dv 0))) (Ah (Av (Pq (Gx (sc:=Ai Kc) (NN:=["first","far","middles"]) (x:="b") (N:=["first","far"]) (sl:=[0,1]) rfl rfl (by decide +kernel)) rfl (Kg (dv 2)) (fun cl C s0 H0 ex=>(Bw (Aa (dv 1) (Aa (dv 0) (Aa (BW (BJ (Aj (dv 0) (dv 0)) (dv 2)) (Aj Ab (dv 1))) Af))))))))),fun ds Q h=>?_⟩⟩
 obtain⟨⟨m,D⟩,rfl,⟨m0,m4,bD⟩,q⟩:=h
 have m0:m≠0:=m0
 have m4:m.natAbs≤400:=m4
 have bD:Bt 1400 D:=bD
 have q':Q (.lst ((Gf m D).map t3)):=q _ rfl
 have bm:Bt 9 m:=by unfold Bt;omega
 have two:Bt 2 2:=Bt.ak ⋯
 have four:Bt 3 4:=Bt.ak ⋯
 have lm:(mids m D (2*m.natAbs)).length≤800:=by
  have h1:∀n,(mids m D n).length≤n:=fun n=>by
   induction n with
   |zero=>exact Nat.le_refl _
   | succ n ih =>
    rw[mids,List.length_append]
    split<;>simp<;>omega
  have:=h1 (2*m.natAbs)
  omega
 walk_at "go"
 refine Jr (ups 0 (2*m.natAbs)) (okB m D) id (fun R hR=>?_) (by rw[Ky];exact Ax ∅) (FJ rfl (FJ rfl Gw)) (fun d hd R hR=>?_) (fun d hd hp R hR=>hR) ?_
 ·walk_at "rd"
  have ea:(if m<0 then -m else m)=(m.natAbs:Int):=by split<;>omega
  rw[ea]
  refine⟨two.aj (show Bt 9 (m.natAbs:Int) by unfold Bt at *;omega),⟨∅,∅⟩,?_⟩
  have e2:(2*(m.natAbs:Int)).toNat=2*m.natAbs:=∅
  rw[e2]
  exact hR
 ·obtain⟨k,hk⟩:=List.getElem?_of_mem hd
  obtain⟨hk,rfl⟩:=Nf hk
  rw[AlC]
  walk_at "rd"
  have bk:Bt 10 (0+(k:Int)):=Bt.of ∅ ∅
  exact⟨bk.aj bk,four.aj bm,∅,hR⟩
 ·rw[Wy]
  walk_at "rd"
  refine Nq ((mids m D (2*m.natAbs)).map Dt.int) (fun d=>match d with
   |.int b=>t3 (m,b,(b*b-D).fdiv (4*m))
   |_=>.non) (fun R hR=>hR) (by rw[List.length_map];exact Ax ∅) (FJ rfl (FJ rfl Gw)) (fun d hd R hR=>?_) ?_
  ·obtain⟨b,hb,rfl⟩:=List.mem_map.mp hd
   obtain⟨h1,h2,_⟩:=Ko.mp hb
   rw[AlC]
   walk_at "rd"
   have bb:Bt 10 b:=Bt.of ∅ ∅
   exact⟨bb.aj bb,four.aj bm,Bt.aU (four.mul bm) ∅,Ax ⋯,hR⟩
  ·have e:((mids m D (2*m.natAbs)).map Dt.int).map (fun d=>match d with
    |.int b=>t3 (m,b,(b*b-D).fdiv (4*m))
    |_=>.non)=(Gf m D).map t3:=by
    unfold Gf
    rw[List.map_map,List.map_map]
    rfl
   rw[e]
   exact q'
noncomputable def Mp(f h:I3):Option I4:=open Classical in if w:∃y l,Ek f l∧JT f l h (t4 y)then some (Classical.choose w)else none
def Aac{f h:I3}{l d:Dt}(hl:Ek f l)(w:JT f l h d):d=match Mp f h with
  |some y=>t4 y
  |none=>.non:=by
 unfold Mp
 split
 ·rename_i y e
  split at e
  ·rename_i z
   cases e
   obtain⟨l',h1,h2⟩:=Classical.choose_spec z
   obtain rfl:=hl.uniq h1
   exact Ad5 w h2
  ·cases e
 ·rename_i e
  split at e
  ·cases e
  ·rename_i z
   rcases w with⟨_,rfl⟩|⟨hm,g,t,g',u,el,h2,rfl⟩
   ·rfl
   ·split
    ·rename_i eg
     exact absurd ⟨_,l,hl,.inr ⟨hm,g,t,g',u,el,h2,by rw[if_pos eg]⟩⟩ z
    ·rfl
def Sd{f h:I3}{l:Dt}{t:I4}(hl:Ek f l)(w:JT f l h (t4 t)):det t=1∧mov f t=h∧B4 190000 t:=by
 rcases w with⟨_,e⟩|⟨hm,g,a,g',u,el,h2,e⟩
 ·cases e
 ·obtain⟨g0,t0,e0,L,dt,mt,bt⟩:=T5 hl
  rw[el]at e0
  obtain⟨g1,u1,e1,L1,du,mu,bu⟩:=T5 h2
  obtain⟨rfl,rfl⟩:=GZ e0
  obtain⟨rfl,rfl⟩:=GZ e1
  by_cases eg:g=g'
  ·rw[if_pos eg]at e
   rw[t4i e]
   refine⟨by rw[BR,Ef,dt,du];rfl,?_,(B4.then bt bu.back).le ⋯⟩
   rw[←Ay,mt,eg,←mu,BZ du]
  ·rw[if_neg eg]at e
   cases e
def Zb{f h:I3}{l:Dt}{t:I4}(hl:Ek f l)(e:Mp f h=some t):det t=1∧mov f t=h∧B4 190000 t:=by
 unfold Mp at e
 split at e
 ·rename_i z
  cases e
  obtain⟨l',h1,h2⟩:=Classical.choose_spec z
  exact Sd h1 h2
 ·cases e
theorem Lk.bt{n:Nat}{far:Int}{f:I3}{t:I4}(hn:12≤n)(S:Sad f)(r:Sq (meas f) far)(hf:B3 n f)(a:Lk far f t):B4 (5*n+30) t:=by
 obtain⟨k,rfl,nl,_⟩:=a
 have:∀i,i≤k→K4 n far f (EI far f i):=fun i=>by
  induction i with
  |zero=>exact fun _=>K4.start ∅ hf
  |succ i ih=>exact fun h=>(KN hn S r (ih ∅) (nl i ∅)).1
 exact(this k (Nat.le_refl _)).b4
theorem Ek.bt{n:Nat}{f g:I3}{t:I4}(hn:12≤n)(hf:B3 n f)(hl:Ek f (.tup [t3 g,t4 t])):B4 (5*n+560) t:=by
 rcases hl with⟨hb,t',e,_,L,_,_⟩|⟨hS,t0,far,N,j,R,jl,_,e,_⟩
 ·obtain⟨_,rfl⟩:=GZ e
  have four:Bt 3 4:=Bt.ak ⋯
  have bm:Bt (2*n+9) (meas f):=((hf.2.1.mul hf.2.1).sub (((four.mul hf.1).mul hf.2.2).le (m:=2*n+8) ∅)).le ∅
  have dt:det t=1:=by assumption
  exact Aaj hb hf (L.bt (by rw[Bl dt];exact bm)) ∅
 ·obtain⟨_,rfl⟩:=GZ e
  exact(B4.then (R.a.bt hn hS R.r hf) (AgW R.v R.n R.e R.l jl)).le ∅
def Agp{n m:Nat}{f h:I3}{l:Dt}{t:I4}(hn:12≤n)(hm:12≤m)(hf:B3 n f)(hh:B3 m h)(hl:Ek f l)(e:Mp f h=some t):B4 (5*n+5*m+1121) t:=by
 unfold Mp at e
 split at e
 ·rename_i z
  cases e
  obtain⟨l',h1,h2⟩:=Classical.choose_spec z
  rcases h2 with⟨_,e⟩|⟨_,g,a,g',u,el,h3,e⟩
  ·cases e
  ·subst el
   by_cases eg:g=g'
   ·rw[if_pos eg]at e
    rw[t4i e]
    exact(B4.then (h1.bt hn hf) (h3.bt hm hh).back).le ∅
   ·rw[if_neg eg]at e
    cases e
 ·cases e
abbrev Fam:=Int×I3×I4
def Jy(F:Fam):List (List Int):=[[F.1*F.2.2.1,F.1*F.2.2.2.2.1],[F.2.1.1,F.2.1.2.1,F.2.1.2.2],[F.2.2.1,F.2.2.2.1,F.2.2.2.2.1,F.2.2.2.2.2]]
abbrev Amj(F:Fam):Dt:=.tup [t2 (F.1*F.2.2.1,F.1*F.2.2.2.2.1),t3 F.2.1,t4 F.2.2]
noncomputable def JX(f:I3)(g:Int)(fs:List I3):List Fam:=fs.filterMap fun h=>(Mp f h).map fun t=>(g,h,t)
noncomputable def M9(f:I3)(n g:Int):List Fam:=JX f g (Gf (n.fdiv (g*g)) (meas f))
noncomputable def GD(f:I3)(n:Int)(r:Nat):List Fam:=(Ir n r).flatMap (M9 f n)
structure J6(f:I3)(n:Int):Prop where
 bf:B3 1400 f
 kf:Bv f∨Sad f
 n0:n≠0
 n4:n.natAbs≤400
 bm:Bt 1400 (meas f)
def Acy{f:I3}{n:Int}(h:J6 f n)(g:Nat)(g1:1≤g)(hg:n.natAbs % (g*g)=0):(M9 f n g).length≤tb (n.natAbs / (g*g)):=by
 have n0:=h.n0
 have n4:=h.n4
 have gg:(g:Int)*g≠0:=Int.mul_ne_zero ∅ ∅
 have hd:n.fmod ((g:Int)*g)=0:=by
  refine Int.fmod_eq_zero_of_dvd ?_
  have:(g*g:Nat)∣n.natAbs:=Nat.dvd_of_mod_eq_zero hg
  have:=Int.ofNat_dvd_left.mpr this
  push_cast at this
  exact this
 have e:=Ja (show(g:Int)≠0 by omega) hd
 have m0:n.fdiv ((g:Int)*g)≠0:=fun z=>n0 (by rw[←e,z];omega)
 have ea:(n.fdiv ((g:Int)*g)).natAbs=n.natAbs / (g*g):=by
  have h1:n.natAbs=g*g*(n.fdiv ((g:Int)*g)).natAbs:=by
   conv=>lhs;rw[←e]
   rw[Int.natAbs_mul,Int.natAbs_mul,Int.natAbs_natCast]
  rw[h1,Nat.mul_div_cancel_left _ (Nat.mul_pos ∅ ∅)]
 have m4:(n.fdiv ((g:Int)*g)).natAbs≤400:=by
  rw[ea]
  exact Nat.le_trans (Nat.div_le_self _ _) n4
 rw[←ea]
 refine Nat.le_trans ?_ (AdO (D:=meas f) m0 m4)
 unfold M9 JX
 refine Nat.le_trans (List.length_filterMap_le ..) ?_
 unfold Gf
 rw[List.length_map]
 exact Nat.le_refl _
def W9{f:I3}{n:Int}{r:Nat}(h:J6 f n)(hr:r≤20):(GD f n r).length<64:=by
 have h1:=AaE (n:=n) (F:=M9 f n) (Acy h) r
 have h2:=LR n.natAbs (20-r) r
 rw[show r+(20-r)=20 by omega]at h2
 have h3:=Ab9 n.natAbs (by have:=h.n4;omega)
 unfold GD
 omega
def Ad3{α β:Type}{F:α→List β}{l:List α}{i:Nat}{a:α}(h:l[i]? = some a):((l.take i).flatMap F).length+(F a).length≤(l.flatMap F).length:=by
 obtain⟨hi,e⟩:=List.getElem?_eq_some_iff.mp h
 have e1:l.flatMap F=(l.take (i+1)).flatMap F++(l.drop (i+1)).flatMap F:=by rw[←List.flatMap_append,List.take_append_drop]
 rw[e1,List.take_add_one,h,List.flatMap_append,List.length_append,List.length_append]
 simp only[Option.toList_some,List.flatMap_cons,List.flatMap_nil,List.append_nil]
 omega
def AbD{α β:Type}{F:α→List β}{l:List α}{i:Nat}{a:α}(h:l[i]? = some a):(l.take (i+1)).flatMap F=(l.take i).flatMap F++F a:=by
 rw[List.take_add_one,h,List.flatMap_append]
 simp
def Wd{α:Type}{F:α→Dt}{l:List α}{i:Nat}{d:Dt}(h:(l.map F)[i]? = some d):∃a,l[i]? = some a∧d=F a:=by
 rw[List.getElem?_map]at h
 obtain⟨a,h1,h2⟩:=Option.map_eq_some_iff.mp h
 exact⟨a,h1,h2.symm⟩
def Abp{f:I3}{g:Int}{fs:List I3}{j:Nat}{h:I3}(e:fs[j]? = some h):JX f g (fs.take (j+1))=JX f g (fs.take j)++(match Mp f h with | some t=>[(g,h,t)] | none=>[]):=by
 unfold JX
 rw[List.take_add_one,e,List.filterMap_append]
 congr 1
 cases hw:Mp f h with
 |none=>simp[hw]
 |some t=>simp[hw]
def Acr{f:I3}{g:Int}{fs:List I3}{j:Nat}:(JX f g (fs.take j)).length≤(JX f g fs).length:=by
 have:JX f g fs=JX f g (fs.take j)++JX f g (fs.drop j):=by
  unfold JX
  rw[←List.filterMap_append,List.take_append_drop]
 rw[this,List.length_append]
 omega
def Tq{f:I3}{t:I4}(k:Bv f∨Sad f)(d:det t=1):Bv (mov f t)∨Sad (mov f t):=by
 rcases k with k|k
 ·exact .inl (J9 k d)
 ·exact .inr (k.mov d)
def Kw{n:Nat}{t b:Int}(h:Bt n (t*b))(hb:b≠0):Bt n t:=by
 unfold Bt at *
 rw[Int.natAbs_mul]at h
 have h4:t.natAbs≤t.natAbs*b.natAbs:=Nat.le_mul_of_pos_right _ ∅
 omega
def AfH{D m:Int}{h:I3}(m4:m.natAbs≤400)(bD:Bt 1400 D)(F:K5 m D h):B3 1500 h:=by
 obtain⟨a,b,c⟩:=h
 have e1:=F.a
 have e2:=F.lo
 have e3:=F.hi
 have e4:b*b-4*a*c=D:=F.me
 dsimp only at e1 e2 e3
 subst e1
 have ba : Bt 1500 a := by unfold Bt; have : (400 : Nat) < 2 ^ 1500 := by decide +kernel
                           omega
 have bb : Bt 1500 b := by unfold Bt; have : (800 : Nat) < 2 ^ 1500 := by decide +kernel
                           omega
 refine⟨ba,bb,?_⟩
 by_cases a0:a=0
 ·omega
 ·have b10:Bt 10 b:=Bt.of ∅ ∅
  have h4:Bt 1450 (4*a*c):=by
   have:4*a*c=b*b-D:=∅
   rw[this]
   exact((b10.mul b10).sub bD).le ⋯
  show Bt 1500 c
  have:Bt 1450 c:=Kw (t:=c) (b:=4*a) (by rw[Int.mul_comm];exact h4) ∅
  exact this.le ⋯
noncomputable def Gq(f:I3)(n:Int)(r:Nat):List (List (List Int)):=Rz ((GD f n r).map Jy)
def DX(f:I3)(n:Int)(r:Nat):Prop:=∃l,Ek f l∧∀g∈Ir n r,∀h∈Gf (n.fdiv (g*g)) (meas f),∃w,JT f l h w
abbrev Ot:DSp:=spec (fun p:I3×Int=>[t3 p.1,.int p.2]) (fun p=>J6 p.1 p.2) fun p d=>∃r:Nat,r≤20∧Sq p.2.natAbs r∧d=.lst ((Gq p.1 p.2 r).map nestD)∧DX p.1 p.2 r
def Wj(T:Txt K mg)
  (oJ:PmM P w K mg base 11 ["Bowl","Saddle"] "way_to" Qx)
  (dW:Pm P w K mg base 10 "shape_of" Fq ["form"] Ik)
  (iQ:Pm P w K mg base 1 "check_within" Dj ["number","most"] JN)
  (bK:Pm P w K mg base 2 "roots_of_square_divisors" Bb ["number"] Ec)
  (qU:Pm P w K mg base 1 "feet" Kc ["first","far"] Zq)
  : Pm P w K mg base 12 "families" Gz ["form","number"] Ot:=by
 obtain⟨f,fd,F⟩:=T.iD
 obtain⟨dF,aW⟩:=T.aW
 refine⟨f,fd,F,F.fn.okD Fz (by walk_at "lE") fun cdv A outer s H E hr=>⟨_,(Ad (Aq 2 Fz.nd (Ag Ae dW (hr.mono ⋯) rfl (Aa (dv 0) Af))) (Ad (Cj (JV hr.units (dv 1) Ab) (Ah HY) Bd) (Ad (Jk (Ag Ae iQ (hr.mono ⋯) rfl (Aa (dv 1) (Aa (Px (v:=.int (400)) (d:=.int (400)) rfl aW ⟨_,rfl⟩ (fun _=>Bf.mpr rfl)) Af)))) (Ad (Vo 3 Fz.nd Af) (Ad (Oc PassesOwn.never rfl (Kg (Ag Ae bK (hr.mono ⋯) rfl (Aa (dv 1) Af))) (Bj 4 Fz.nd) (Ah (Oc PassesOwn.never rfl (Kg (Ag Ae qU (hr.mono ⋯) rfl (Aa (BW (dv 1) (Aj (dv 4) (dv 4))) (Aa (PL (dv 2)) Af)))) (Bj 5 Fz.nd) (Ad (Aq 6 Fz.nd (Ab2 Ae oJ (hr.mono ⋯) (dv 2) (Aa (dv 5) Af))) (Ah (Cj (Af0 (dv 6) Y4) (Ah (Ql 3 (Bw (Aa (Bw (Aa (Aj (dv 4) (Ac (dv 6) Ab)) (Aa (Aj (dv 4) (Ac (dv 6) Ab)) Af))) (Aa (dv 5) (Aa (dv 6) Af)))))) Bd)))))) (Ah (Uu 3 (Av (Aee T.aM hr.units (Aa (dv 3) Af)))))))))),fun ds Q h=>?_⟩⟩
 obtain⟨⟨f,n⟩,rfl,hP,q⟩:=h
 have hP:J6 f n:=hP
 have n0:=hP.n0
 have n4:=hP.n4
 have q:∀d,(∃r:Nat,r≤20∧Sq n.natAbs r∧d=.lst ((Gq f n r).map nestD)∧DX f n r)→Q d:=q
 walk_at "go"
 refine Bg f ⟨hP.bf.le ⋯,hP.kf⟩ ?_
 rintro _ ho
 obtain⟨c,l,hc,rfl,hl⟩:=ZG ho
 walk_at "rd"
 refine DY (decide_eq_false n0) (Al (n,400) (by show(n.natAbs:Int)≤400;omega) ⟨Nat.zero_le _,TQ ?_⟩)
 walk_at "rd"
 refine Bg n n4 ?_
 rintro _ ⟨r,hr,sr,rfl⟩
 have l64:=W9 hP hr
 refine KQ ((Ir n r).map Dt.int) (fun R h=>h) (fun i ρ=>(∀g∈(Ir n r).take i,∀h∈Gf (n.fdiv (g*g)) (meas f),∃w,JT f l h w)∧∃x y z,ρ=[some (.is (t3 f)),some (.is (.int n)),some (.is (WT c f l)),some (.own ((((Ir n r).take i).flatMap (M9 f n)).map Amj)),x,y,z]) ⟨fun g hg=>by simp at hg,none,none,none,by simp⟩ ?_ ?_
 ·rintro i d _ hi ⟨al,x,y,z,rfl⟩
  obtain⟨g,hg,rfl⟩:=ints_get hi
  obtain⟨g1,g2,g3⟩:=Dg.mp (List.mem_of_getElem? hg)
  have eg:=Ja (show g≠0 by omega) g3
  have tl:=Ad3 (F:=M9 f n) hg
  obtain⟨m,em⟩:∃m,n.fdiv (g*g)=m:=⟨_,rfl⟩
  rw[em]at eg
  have m0:m≠0:=fun z=>n0 (by rw[←eg,z];omega)
  have m4:m.natAbs≤400:=by
   have h1:n.natAbs=(g*g).natAbs*m.natAbs:=by rw[←eg,Int.natAbs_mul]
   have h2:1≤(g*g).natAbs:=by
    have:=Int.mul_pos (show 0<g by omega) (show 0<g by omega)
    omega
   have h3:1*m.natAbs≤(g*g).natAbs*m.natAbs:=Nat.mul_le_mul_right _ h2
   omega
  have eG:M9 f n g=JX f g (Gf m (meas f)):=by unfold M9;rw[em]
  have bg:Bt 6 g:=Bt.of ∅ ∅
  refine TQ ?_
  walk_at "rd"
  refine⟨bg.aj bg,Bt.aU (bg.mul bg) (Int.mul_ne_zero ∅ ∅),Zo T hc,_,rfl,?_⟩
  rw[em]
  refine Al (m,meas f) ⟨m0,m4,hP.bm⟩ ?_
  refine KQ ((Gf m (meas f)).map t3) (fun R h=>h) (fun j ρ=>(∀h∈(Gf m (meas f)).take j,∃w,JT f l h w)∧∃y z,ρ=[some (.is (t3 f)),some (.is (.int n)),some (.is (WT c f l)),some (.own ((((Ir n r).take i).flatMap (M9 f n)++JX f g ((Gf m (meas f)).take j)).map Amj)),some (.is (.int g)),y,z]) ⟨fun h hh=>by simp at hh,y,z,by simp[JX]⟩ ?_ ?_
  ·rintro j d _ hj ⟨al2,y,z,rfl⟩
   obtain⟨h,hh,rfl⟩:=Wd hj
   have F:=(Fd m0).mp (List.mem_of_getElem? hh)
   have ft:=Abp (f:=f) (g:=g) hh
   have fl:=Acr (f:=f) (g:=g) (fs:=Gf m (meas f)) (j:=j)
   walk_at "rd"
   refine⟨⟨by rcases hc with e|e<;>rw[e]<;>simp,⋯⟩,Bg (c,f,l,h) ⟨hc,hl,AfH m4 hP.bm F⟩ ?_⟩
   rintro w W
   have W:JT f l h w:=W
   have ew:=Aac hl W
   have al3:∀k∈(Gf m (meas f)).take (j+1),∃w,JT f l k w:=fun k hk=>by
    rw[List.take_add_one,hh]at hk
    rcases List.mem_append.mp hk with hk|hk
    ·exact al2 k hk
    ·simp only[Option.toList_some,List.mem_singleton]at hk
     subst hk
     exact⟨w,W⟩
   cases hw:Mp f h with
   | none =>
    rw[hw]at ew ft
    dsimp only at ew ft
    subst ew
    refine DY rfl ⟨al3,some (.is (t3 h)),some (.is .non),?_⟩
    rw[ft,List.append_nil]
   | some t =>
    rw[hw]at ew ft
    dsimp only at ew ft
    subst ew
    refine ift rfl ?_
    walk_at "rd"
    obtain⟨_,_,bt⟩:=Sd hl W
    refine⟨bg.aj bt.1,bg.aj bt.2.2.1,Ax ⋯,Ax ⋯,?_,al3,some (.is (t3 h)),some (.is (t4 t)),?_⟩
    ·rw[List.length_append]
     rw[eG]at tl
     have e64:(List.flatMap (M9 f n) (Ir n r)).length<64:=l64
     exact Nat.lt_of_lt_of_le ∅ (Ax (n:=64) ⋯)
    ·rw[ft,←List.append_assoc,List.map_append (l₂:=[(g,h,t)])]
     rfl
  ·rintro _ ⟨al2,y,z,rfl⟩
   refine⟨fun k hk=>?_,some (.is (.int g)),y,z,?_⟩
   ·rw[List.take_add_one,hg]at hk
    rcases List.mem_append.mp hk with hk|hk
    ·exact al k hk
    ·simp only[Option.toList_some,List.mem_singleton]at hk
     subst hk
     rw[em]
     rw[List.length_map,List.take_length]at al2
     exact al2
   ·rw[AbD hg,eG,List.length_map,List.take_length]
 ·rintro _ ⟨al,x,y,z,rfl⟩
  rw[List.length_map,List.take_length]at al
  walk_at "rd"
  rw[List.take_length]
  refine⟨(GD f n r).map Jy,?_,by rw[List.length_map];exact l64,fun rr hrr=>?_,q _ ⟨r,hr,sr,rfl,l,hl,al⟩⟩
  ·rw[List.map_map]
   rfl
  ·obtain⟨F,_,rfl⟩:=List.mem_map.mp hrr
   simp[Jy]
abbrev VN:DSp:=spec (fun p:I3×Int=>[t3 p.1,.int p.2]) (fun p=>J6 p.1 p.2) fun p d=>∃r:Nat,r≤20∧Sq p.2.natAbs r∧d=.lst ((Gq p.1 p.2 r).map fun rs=>Bc (rs.getD 0 []))∧DX p.1 p.2 r
def Ii{f:I3}{n:Int}{r:Nat}{rs:List (List Int)}(h:rs∈Gq f n r):∃F∈GD f n r,rs=Jy F:=by
 have:=(JG _).mem_iff.mp h
 obtain⟨F,h1,h2⟩:=List.mem_map.mp this
 exact⟨F,h1,h2.symm⟩
def V6{f:I3}{n:Int}{r:Nat}(h:J6 f n)(hr:r≤20):(Gq f n r).length<64:=by
 unfold Gq
 rw[(JG _).length_eq,List.length_map]
 exact W9 h hr
def Ahw(k:Nat):Dt→Dt
 |.tup ds=>ds.getD k .non
 |_=>.non
def Abj{f:I3}{n:Int}{r k:Nat}(hk:k<3):((Gq f n r).map nestD).map (Ahw k)=((Gq f n r).map fun rs=>rs.getD k []).map Bc:=by
 rw[List.map_map,List.map_map]
 refine List.map_congr_left fun rs hrs=>?_
 obtain⟨F,_,rfl⟩:=Ii hrs
 obtain rfl|rfl|rfl:k=0∨k=1∨k=2:=∅
 all_goals rfl
def AdV(T:Txt K mg)
  (mG:Pm P w K mg base 12 "families" Gz ["form","number"] Ot)
  : Pm P w K mg base 13 "heads" Jw ["form","number"] VN:=by
 obtain⟨f,fd,F⟩:=T.nU
 refine⟨f,fd,F,F.fn.okD AdR (by walk_at "lE") fun cdv A outer s H E hr=>⟨_,(Ah (Av (Pq (Gx (sc:=Ai Jw) (NN:=["form","number"]) (x:="family") (N:=[]) (sl:=[]) rfl rfl (by decide +kernel)) rfl (Kg (Ag Ae mG (hr.mono ⋯) rfl (Aa (dv 0) (Aa (dv 1) Af)))) (fun cl C s0 H0 ex=>(Ac (dv 0) Ab))))),fun ds Q h=>?_⟩⟩
 obtain⟨⟨f,n⟩,rfl,hP,q⟩:=h
 have hP:J6 f n:=hP
 have q:∀d,(∃r:Nat,r≤20∧Sq n.natAbs r∧d=.lst ((Gq f n r).map fun rs=>Bc (rs.getD 0 []))∧DX f n r)→Q d:=q
 walk_at "go"
 refine Y6 ?_
 walk_at "rd"
 refine Bg (f,n) hP ?_
 rintro _ ⟨r,hr,sr,rfl,al⟩
 have len:=V6 hP hr
 refine Nq ((Gq f n r).map nestD) (Ahw 0) (fun R hR=>hR) (by rw[List.length_map];exact Ax (by show(Gq f n r).length≤1000;omega)) Gw (fun d hd R hR=>?_) ?_
 ·obtain⟨rs,hrs,rfl⟩:=List.mem_map.mp hd
  obtain⟨F,_,rfl⟩:=Ii hrs
  unfold inner
  walk_at "rd"
  exact hR
 ·refine q _ ⟨r,hr,sr,?_,al⟩
  have:=Abj (f:=f) (n:=n) (r:=r) (k:=0) ⋯
  rw[this,List.map_map]
  rfl
theorem g_same{g g' m:Int}(h:1≤g)(h':1≤g')(m0:m≠0)(e:g*g*m=g'*g'*m):g=g':=by
 have e:=Int.eq_of_mul_eq_mul_right m0 e
 rcases Int.lt_trichotomy g g' with z|z|z
 ·have:=Int.mul_lt_mul' (show g≤g' by omega) z ∅ ∅
  omega
 ·exact z
 ·have:=Int.mul_lt_mul' (show g'≤g by omega) z ∅ ∅
  omega
def JD{f:I3}{n:Int}{r:Nat}{l:Dt}{F:Fam}(hl:Ek f l)(h:F∈GD f n r):F.1∈Ir n r∧F.2.1∈Gf (n.fdiv (F.1*F.1)) (meas f)∧Mp f F.2.1=some F.2.2∧det F.2.2=1∧mov f F.2.2=F.2.1∧B4 190000 F.2.2:=by
 unfold GD at h
 obtain⟨g,hg,h⟩:=List.mem_flatMap.mp h
 unfold M9 JX at h
 obtain⟨foot,hf,h⟩:=List.mem_filterMap.mp h
 obtain⟨t,ht,rfl⟩:=Option.map_eq_some_iff.mp h
 exact⟨hg,hf,ht,Zb hl ht⟩
def Ajq{f:I3}{n g m:Int}{r:Nat}{h:I3}{t:I4}(g0:1≤g)(e:g*g*m=n)(n0:n≠0)(hr:Sq n.natAbs r)(m0:m≠0)(F:K5 m (meas f) h)(w:Mp f h=some t):(g,h,t)∈GD f n r:=by
 obtain⟨h1,h2⟩:=Aap g0 e n0 hr
 refine List.mem_flatMap.mpr ⟨g,h1,?_⟩
 unfold M9 JX
 rw[h2]
 exact List.mem_filterMap.mpr ⟨h,(Fd m0).mpr F,by rw[w];rfl⟩
def Aae(m D:Int):∀n,(mids m D n).Pairwise (· < ·)
 |0=>List.Pairwise.nil
 | n+1=>by
  rw[mids,List.pairwise_append]
  refine⟨Aae m D n,by split<;>simp,fun a ha b hb=>?_⟩
  obtain⟨_,h2,_⟩:=Ko.mp ha
  split at hb
  ·simp only[List.mem_singleton]at hb
   omega
  ·cases hb
def Aaf(n:Int):∀r,(Ir n r).Pairwise (· < ·)
 |0=>List.Pairwise.nil
 | r+1=>by
  rw[Ir,List.pairwise_append]
  refine⟨Aaf n r,by split<;>simp,fun a ha b hb=>?_⟩
  obtain⟨_,h2,_⟩:=Dg.mp ha
  split at hb
  ·simp only[List.mem_singleton]at hb
   omega
  ·cases hb
def Q6{f:I3}{n:Int}{r:Nat}(n0:n≠0):(GD f n r).Pairwise fun F G=>F.2.1≠G.2.1:=by
 unfold GD
 rw[List.pairwise_flatMap]
 refine⟨fun g hg=>?_,?_⟩
 ·unfold M9 JX Gf
  rw[List.pairwise_filterMap,List.pairwise_map]
  refine(Aae _ _ _).imp fun{a b} hab x hx y hy e=>?_
  obtain⟨t,_,rfl⟩:=Option.map_eq_some_iff.mp hx
  obtain⟨t',_,rfl⟩:=Option.map_eq_some_iff.mp hy
  have:a=b:=congrArg (fun z:I3=>z.2.1) e
  omega
 ·refine List.Pairwise.imp_of_mem (R:=(· < ·)) (fun{a b} ha hb hab x hx y hy e=>?_) (Aaf n r)
  obtain⟨a1,_,a3⟩:=Dg.mp ha
  obtain⟨b1,_,b3⟩:=Dg.mp hb
  have ea:=Ja ∅ a3
  have eb:=Ja ∅ b3
  have ma:n.fdiv (a*a)≠0:=fun z=>n0 (by rw[←ea,z];omega)
  have mb:n.fdiv (b*b)≠0:=fun z=>n0 (by rw[←eb,z];omega)
  unfold M9 JX at hx hy
  obtain⟨h,hh,hx⟩:=List.mem_filterMap.mp hx
  obtain⟨t,_,rfl⟩:=Option.map_eq_some_iff.mp hx
  obtain⟨h',hh',hy⟩:=List.mem_filterMap.mp hy
  obtain⟨t',_,rfl⟩:=Option.map_eq_some_iff.mp hy
  have e:h=h':=e
  subst e
  have e1:=((Fd ma).mp hh).a
  have e2:=((Fd mb).mp hh').a
  have em:n.fdiv (a*a)=n.fdiv (b*b):=e1.symm.trans e2
  rw[←em]at eb
  have:=g_same a1 b1 ma (ea.trans eb.symm)
  omega
def Zm{f:I3}{n:Int}{r i j:Nat}{F G:Fam}(n0:n≠0)(hi:(Gq f n r)[i]? = some (Jy F))(hj:(Gq f n r)[j]? = some (Jy G))(e:F.2.1=G.2.1):i=j:=by
 have p:(Gq f n r).Pairwise fun x y=>x.getD 1 []≠y.getD 1 []:=by
  unfold Gq
  rw[(JG _).pairwise_iff (fun h=>h.symm),List.pairwise_map]
  refine(Q6 n0).imp fun{a b} h z=>h ?_
  have z:[a.2.1.1,a.2.1.2.1,a.2.1.2.2]=[b.2.1.1,b.2.1.2.1,b.2.1.2.2]:=z
  simp only[List.cons.injEq,and_true]at z
  exact Adg z.1 z.2.1 z.2.2
 rw[List.pairwise_iff_getElem]at p
 obtain⟨hi1,hi2⟩:=List.getElem?_eq_some_iff.mp hi
 obtain⟨hj1,hj2⟩:=List.getElem?_eq_some_iff.mp hj
 have ee:(Jy F).getD 1 []=(Jy G).getD 1 []:=by
  show [F.2.1.1,F.2.1.2.1,F.2.1.2.2]=[G.2.1.1,G.2.1.2.1,G.2.1.2.2]
  rw[e]
 rcases Nat.lt_trichotomy i j with z|z|z
 ·exact absurd ee (by have:=p i j hi1 hj1 z;rw[hi2,hj2]at this;exact this)
 ·exact z
 ·exact absurd ee.symm (by have:=p j i hj1 hi1 z;rw[hi2,hj2]at this;exact this)
def AbI{f:I3}{T U:I4}{m D:Int}(m0:m≠0)(d:det T=1)(d':det U=1)(A:K5 m D (mov f T))(B:K5 m D (mov f U))(e1:U.1=T.1)(e2:U.2.2.1=T.2.2.1):U=T:=by
 have es:=AbF m0 d d' A B (.inl ⟨e1,e2⟩)
 obtain⟨p,q,r,s⟩:=T
 obtain⟨p',q',r',s'⟩:=U
 dsimp only at e1 e2
 subst e1 e2
 have d:p'*s-q*r'=1:=d
 have d':p'*s'-q'*r'=1:=d'
 have hU:(p',q',r',s')=Ak (p',q,r',s) (1,s*q'-q*s',0,1):=by
  simp only[Ak,Prod.mk.injEq]
  refine⟨∅,?_,∅,?_⟩<;>grind
 have hk:s*q'-q*s'=0:=by
  have h1:(mov f (p',q',r',s')).2.1=(mov f (p',q,r',s)).2.1+2*(mov f (p',q,r',s)).1*(s*q'-q*s'):=by
   rw[hU,←Ay,WR]
  rw[←es]at h1
  have h2:(mov f (p',q,r',s)).1=m:=A.a
  rw[h2]at h1
  have h3:2*m*(s*q'-q*s')=0:=∅
  rcases Int.mul_eq_zero.mp h3 with z|z
  ·omega
  ·exact z
 rw[hU,hk,Eo]
def Acj{T U:I4}{g g':Int}(g0:1≤g)(g0':1≤g')(dT:det T=1)(dU:det U=1)(e1:g'*T.1=g*U.1)(e2:g'*T.2.2.1=g*U.2.2.1):g=g'∧U.1=T.1∧U.2.2.1=T.2.2.1:=by
 obtain⟨a,b,c,d⟩:=T
 obtain⟨x,y,z,w⟩:=U
 have dT:a*d-b*c=1:=dT
 have dU:x*w-y*z=1:=dU
 dsimp only at e1 e2
 have h1:g'=g*(x*d-b*z):=by
  have:g'*(a*d-b*c)=g*(x*d-b*z):=by
   have k1:g'*(a*d-b*c)=g'*a*d-b*(g'*c):=by grind
   rw[k1,e1,e2]
   grind
  rw[dT]at this
  omega
 have h2:g=g'*(a*w-y*c):=by
  have:g*(x*w-y*z)=g'*(a*w-y*c):=by
   have k1:g*(x*w-y*z)=g*x*w-y*(g*z):=by grind
   rw[k1,←e1,←e2]
   grind
  rw[dU]at this
  omega
 have gg:g=g':=Int.dvd_antisymm ∅ ∅ ⟨_,h1⟩ ⟨_,h2⟩
 subst gg
 have gn:g≠0:=∅
 exact⟨rfl,(Int.eq_of_mul_eq_mul_left gn e1).symm,(Int.eq_of_mul_eq_mul_left gn e2).symm⟩
def Ae5{f:I3}{n:Int}{r:Nat}{F:Fam}(al:DX f n r)(n0:n≠0)(hF:F∈GD f n r):val f (F.1*F.2.2.1,F.1*F.2.2.2.2.1)=n:=by
 obtain⟨l,hl,_⟩:=al
 obtain⟨m1,m2,m3,m4,m5,_⟩:=JD hl hF
 obtain⟨g1,g2,g3⟩:=Dg.mp m1
 have eg:=Ja ∅ g3
 have m0:n.fdiv (F.1*F.1)≠0:=fun z=>n0 (by rw[←eg,z];omega)
 have ha:=((Fd m0).mp m2).a
 rw[←m5]at ha
 have ha:val f (F.2.2.1,F.2.2.2.2.1)=n.fdiv (F.1*F.1):=ha
 rw[←eg,←ha]
 simp only[val]
 grind
def AcJ{f h:I3}{n g:Int}{r:Nat}{t:I4}(al:DX f n r)(hg:g∈Ir n r)(hh:h∈Gf (n.fdiv (g*g)) (meas f))(dt:det t=1)(et:mov f t=h):∃t',Mp f h=some t':=by
 obtain⟨l,hl,al⟩:=al
 cases hq:Mp f h with
 |some t'=>exact⟨t',rfl⟩
 | none =>
  exfalso
  obtain⟨w,W⟩:=al g hg h hh
  have ew:=Aac hl W
  rw[hq]at ew
  dsimp only at ew
  subst ew
  rcases W with⟨ne,_⟩|⟨_,g1,t1,g2,t2,e1,h2,e3⟩
  ·exact ne ⟨by rw[←et];exact(Bl dt).symm,by rw[←et];exact Tq (hl.elim (fun z=>.inl z.1) fun z=>.inr z.1) dt⟩
  ·obtain⟨g1',t1',e1',L1,_⟩:=T5 hl
   rw[e1]at e1'
   obtain⟨rfl,rfl⟩:=GZ e1'
   obtain⟨g2',t2',e2',L2,_⟩:=T5 h2
   obtain⟨rfl,rfl⟩:=GZ e2'
   have es:g1=g2:=L1.same L2 dt et
   rw[if_pos es]at e3
   cases e3
def Qz{k:Nat}{D m:Int}{h:I3}(hk:20≤k)(m4:m.natAbs≤400)(m0:m≠0)(bD:Bt k D)(F:K5 m D h):B3 (k+2) h:=by
 obtain⟨a,b,c⟩:=h
 have e1:=F.a
 have e2:=F.lo
 have e3:=F.hi
 have e4:b*b-4*a*c=D:=F.me
 dsimp only at e1 e2 e3
 subst e1
 have ba:Bt 10 a:=Bt.of ∅ ∅
 have bb:Bt 10 b:=Bt.of ∅ ∅
 refine⟨ba.le ∅,bb.le ∅,?_⟩
 have h4:Bt (k+1) (4*a*c):=by
  have:4*a*c=b*b-D:=∅
  rw[this]
  exact(((bb.mul bb).le (m:=k) ∅).sub bD).le ∅
 show Bt (k+2) c
 have:Bt (k+1) c:=Kw (t:=c) (b:=4*a) (by rw[Int.mul_comm];exact h4) ∅
 exact this.le ∅
def Af6{f:I3}{n:Int}{r k j:Nat}{F:Fam}(al:DX f n r)(n0:n≠0)(n4:n.natAbs≤400)(hr:r≤20)(hk:20≤k)(hj:12≤j)(hf:B3 j f)(bD:Bt k (meas f))(hF:F∈GD f n r):B2 (5*j+5*(k+2)+1127) (F.1*F.2.2.1,F.1*F.2.2.2.2.1):=by
 obtain⟨l,hl,_⟩:=al
 obtain⟨m1,m2,m3,_⟩:=JD hl hF
 obtain⟨g1,g2,g3⟩:=Dg.mp m1
 have eg:=Ja ∅ g3
 have m0:n.fdiv (F.1*F.1)≠0:=fun z=>n0 (by rw[←eg,z];omega)
 have m4:(n.fdiv (F.1*F.1)).natAbs≤400:=by
  have h1:n.natAbs=(F.1*F.1).natAbs*(n.fdiv (F.1*F.1)).natAbs:=by conv=>lhs;rw[←eg,Int.natAbs_mul]
  have h2:1≤(F.1*F.1).natAbs:=by
   have:=Int.mul_pos (show 0<F.1 by omega) (show 0<F.1 by omega)
   omega
  have h3:1*(n.fdiv (F.1*F.1)).natAbs≤(F.1*F.1).natAbs*(n.fdiv (F.1*F.1)).natAbs:=Nat.mul_le_mul_right _ h2
  omega
 have bt:=Agp hj (m:=k+2) ∅ hf (Qz hk m4 m0 bD ((Fd m0).mp m2)) hl m3
 have bg:Bt 6 F.1:=Bt.of ∅ ∅
 exact⟨(bg.mul bt.1).le ∅,(bg.mul bt.2.2.1).le ∅⟩
abbrev Hr:DSp:=Dc (fun p:List Int×Int=>[.lst (p.1.map Dt.int),.int p.2]) (fun p=>0≤p.2) fun p=>.int (p.1.getD p.2.toNat 0)
def Hl{Q:Dt→Prop}(ns:List Int)(k:Int)(h:0≤k)(q:Q (.int (ns.getD k.toNat 0))):Hr [.lst (ns.map Dt.int),.int k] Q:=Al (ns,k) h q
def Ue(T:Txt K mg)
  : Pm P w K mg base 1 "_law_cell" Eh ["_law_script","_law_k"] Hr:=by
 obtain⟨f,fd,F⟩:=T.gB
 refine⟨f,fd,F,F.fn.okD UJ (by walk_at "lE") fun cdv A outer s H E hr=>⟨_,(Ad (Cj (O6 (dv 1) (Yb T.gO (Aa (dv 0) Af))) (Ah (Av (Ac (dv 0) (dv 1)))) Bd) (Ah (Av Ab))),fun ds Q h=>?_⟩⟩
 obtain⟨⟨ns,k⟩,rfl,h0,q⟩:=h
 walk_at "go"
 by_cases hk:k<ns.length
 ·simp only[decide_eq_true hk,ZW h0 hk,if_true]
  exact q _ rfl
 ·simp only[decide_eq_false hk]
  have e:ns.getD k.toNat 0=0:=by
   have:ns.length≤k.toNat:=by have h0':0≤k:=h0;omega
   simp[this]
  have q':=q _ rfl
  dsimp only at q'
  rw[e]at q'
  exact q'
abbrev K8:DSp:=Dc (fun n:Int=>[.int n]) (fun _=>True) fun _=>.bl true
def R6(T:Txt K mg)
  : Pm P w K mg base 1 "_law_whole" Em ["_law_found"] K8:=by
 obtain⟨f,fd,F⟩:=T.fu
 refine⟨f,fd,F,F.fn.okD RQ (by walk_at "lE") fun cdv A outer s H E hr=>⟨_,(Ah (Av (Qh (QZ T.au T.jR Agw (dv 0)) (Nv (AiE (QZ T.au T.fX Ad7 (dv 0))))))),fun ds Q h=>?_⟩⟩
 obtain⟨n,rfl,_,q⟩:=h
 have q':Q (.bl true):=q _ rfl
 walk_at "go"
 exact q'
def isI:Dt→Bool
 |.int _=>true
 |_=>false
abbrev Ge:DSp:=Dc (fun p:List Int×Int=>[.tup (p.1.map Dt.int),.int p.2]) (fun p=>p.1.length≤1000) fun p=>.bl (decide ((p.1.length:Int)=p.2))
def Aba{Q:Dt→Prop}(ns:List Int)(k:Int)(h:(ns.length:Int)=k)(hl:ns.length≤1000)(q:Q (.bl true)):Ge [.tup (ns.map Dt.int),.int k] Q :=
 Al (ns,k) hl (by dsimp only;rw[decide_eq_true h];exact q)
def Ags{Q:Dt→Prop}(p:I2)(q:Q (.bl true)):Ge [t2 p,.int 2] Q:=Aba [p.1,p.2] 2 rfl (by show 2≤1000;decide) q
def Rx(T:Txt K mg)
  (j6:Pm P w K mg base 1 "_law_whole" Em ["_law_found"] K8)
  : Pm P w K mg base 2 "_law_wholes" CZ ["_law_found","_law_many"] Ge:=by
 obtain⟨f,fd,F⟩:=T.dw
 refine⟨f,fd,F,F.fn.okD Qu (by walk_at "lE") fun cdv A outer s H E hr=>⟨_,(Ad (Cj (DW.dt (OD (G9 (Gn (QZ T.au T.cW Abs (dv 0)))) (Ke (Im hr.units (Yb T.gO (Aa (dv 0) Af)) (dv 1))))) (Ah (Av Ow)) Bd) (Ah (Av (VL hr.units (Yb T.gO (Aa (Wk (Gx (sc:=Ai CZ) (NN:=["_law_found","_law_many"]) (x:="_law_one") (N:=[]) (sl:=[]) rfl rfl (by decide +kernel)) rfl (AiA (dv 0)) (fun cl C s0 H0 ex=>(Gn (Ag Ae j6 (hr.mono ⋯) rfl (Aa (dv 0) Af)))) (fun cl C s0 H0 ex=>(dv 0))) Af)) (dv 1))))),fun ds Q h=>?_⟩⟩
 obtain⟨⟨ns,k⟩,rfl,h0,q⟩:=h
 walk_at "go"
 have q':=q _ rfl
 dsimp only at q'
 by_cases hk:(ns.length:Int)=k
 ·rw[decide_eq_true hk]at q'
  simp only[decide_eq_true hk]
  walk_at "rd"
  refine Jr (ns.map Dt.int) isI id (fun R h=>h) (by rw[List.length_map];exact Ax h0) Gw (fun d hd R hR=>?_) (fun d hd hp R hR=>hR) ?_
  ·unfold inner
   walk_at "rd"
   obtain⟨n,_,rfl⟩:=List.mem_map.mp hd
   exact Al n trivial hR
  ·have e:(List.filter isI (ns.map Dt.int)).map id=ns.map Dt.int:=by
    rw[List.map_id,List.filter_eq_self]
    intro d hd
    obtain⟨n,_,rfl⟩:=List.mem_map.mp hd
    rfl
   rw[e]
   walk_at "rd"
   rw[decide_eq_true hk]
   exact q'
 ·rw[decide_eq_false hk]at q'
  simp only[decide_eq_false hk]
  exact q'
abbrev Dp:DSp:=Dc (fun f:I3=>[t3 f]) (fun f=>B3 2000 f) fun f=>.int (meas f)
def VP(T:Txt K mg)
  : Pm P w K mg base 1 "_law_bar" Cm ["_law_form"] Dp:=by
 obtain⟨f,fd,F⟩:=T.iG
 refine⟨f,fd,F,F.fn.okD VD (by walk_at "lE") fun cdv A outer s H E hr=>⟨_,(Ah (Av (BJ (Aj (Ac (dv 0) Ab) (Ac (dv 0) Ab)) (Aj (Aj Ab (Ac (dv 0) Ab)) (Ac (dv 0) Ab))))),fun ds Q h=>?_⟩⟩
 obtain⟨f,rfl,hf,q⟩:=h
 have hf:B3 2000 f:=hf
 have q':=q _ rfl
 have four:Bt 3 4:=Bt.ak ⋯
 walk_at "go"
 exact⟨hf.2.1.aj hf.2.1,four.aj hf.1,(four.mul hf.1).aj hf.2.2,q'⟩
abbrev Hi:DSp:=spec (fun n:Int=>[.int n]) (fun n=>0≤n∧Bt 4000 n) fun n d=>∃r,d=.int r∧Sq n r∧Bt 2001 r
def Ul(T:Txt K mg)
  : Pm P w K mg base 1 "_law_root" Dm ["_law_number"] Hi:=by
 obtain⟨f,fd,F⟩:=T.gF
 refine⟨f,fd,F,F.fn.okD Js (by walk_at "lE") fun cdv A outer s H E hr=>⟨_,(Ad (Aq 1 Js.nd (Aeg Ab (BW (Bs (Z5 (dv 0)) Ab) Ab))) (Ad (Fi PassesOwn.never (TF (Aj (dv 1) (dv 1)) (dv 0)) (Ah (Aq 1 Js.nd (BW (Bs (dv 1) (BW (dv 0) (dv 1))) Ab)))) (Ah (Av (dv 1))))),fun ds Q h=>?_⟩⟩
 obtain⟨n,rfl,⟨h0,hb⟩,q⟩:=h
 walk_at "go"
 obtain⟨c1,c2,c3⟩:=O5 hb
 have hu:=V8 h0
 refine⟨⟨⋯,⋯⟩,c1,?_⟩
 generalize (1*2 ^ ((((Builtin.Int.intBits n:Nat):Int)+1).fdiv 2).toNat:Int)=g at *
 refine Fe (fun m ρ=>∃g:Int,ρ=[some (.is (.int n)),some (.is (.int g))]∧0≤g∧Bt 2001 g∧n<(g+1)*(g+1)∧m=g.toNat) _ ⟨g,rfl,∅,c2,hu,rfl⟩ ?_
 rintro m _ ⟨g,rfl,hg,hgb,hgu,rfl⟩
 walk_at "rd"
 refine⟨hgb.aj hgb,Gj (fun hw=>?_) (fun hw=>?_)⟩
 ·have hw:=of_decide_eq_true hw
  have hg0:0<g:=by
   rcases Int.lt_or_le 0 g with z|z
   ·exact z
   ·have:g=0:=∅
    subst this
    omega
  have hd:=Xc hg0 hw
  have hu':=Sv h0 hg0
  have hp:0≤(g+n / g) / 2:=by
   have:=Int.ediv_nonneg h0 (show 0≤g by omega)
   omega
  have hbb:Bt 2001 ((g+n / g) / 2):=by unfold Bt at *;omega
  refine⟨Bt.aU hgb ∅,⟨⋯,⋯⟩,?_⟩
  rw[Va hg0]
  exact⟨_,∅,_,rfl,hp,hbb,hu',rfl⟩
 ·have hw:¬n<g*g:=fun z=>hw (decide_eq_true z)
  exact q _ ⟨g,rfl,⟨∅,∅,hgu⟩,hgb⟩
abbrev MN:DSp:=spec (fun f:I3=>[t3 f]) (fun f=>B3 1500 f∧0≤meas f) fun f d=>∃b:Bool,d=.bl b∧(b=true↔Je (meas f))
def Vd(T:Txt K mg)
  (ao:Pm P w K mg base 1 "_law_bar" Cm ["_law_form"] Dp)
  (bB:Pm P w K mg base 1 "_law_root" Dm ["_law_number"] Hi)
  : Pm P w K mg base 2 "_law_flat" Fy ["_law_form"] MN:=by
 obtain⟨f,fd,F⟩:=T.gG
 refine⟨f,fd,F,F.fn.okD JH (by walk_at "lE") fun cdv A outer s H E hr=>⟨_,(Ad (Aq 1 JH.nd (Ag Ae ao (hr.mono ⋯) rfl (Aa (dv 0) Af))) (Ad (Aq 2 JH.nd (Ag Ae bB (hr.mono ⋯) rfl (Aa (dv 1) Af))) (Ah (Av (VL hr.units (Aj (dv 2) (dv 2)) (dv 1)))))),fun ds Q h=>?_⟩⟩
 obtain⟨f,rfl,⟨hf,h0⟩,q⟩:=h
 have hf:B3 1500 f:=hf
 have h0:0≤meas f:=h0
 have four:Bt 3 4:=Bt.ak ⋯
 have bm:Bt 4000 (meas f):=((hf.2.1.mul hf.2.1).sub (((four.mul hf.1).mul hf.2.2).le (m:=3010) ⋯)).le ⋯
 walk_at "go"
 refine Al f (hf.le ⋯) (Bg (meas f) ⟨h0,bm⟩ ?_)
 rintro _ ⟨r,rfl,hs,hb⟩
 walk_at "rd"
 refine⟨hb.aj hb,q _ ⟨_,rfl,?_⟩⟩
 rw[decide_eq_true_eq]
 refine⟨fun e=>⟨r,e⟩,fun⟨x,e⟩=>?_⟩
 obtain⟨r0,r1,r2⟩:=hs
 have e2:(x.natAbs:Int)*x.natAbs=meas f:=(Int.natAbs_mul_self' x).trans e
 obtain⟨k,ek,k0⟩:∃k:Int,(x.natAbs:Int)=k∧0≤k:=⟨_,rfl,∅⟩
 rw[ek]at e2
 rcases Int.lt_trichotomy r k with z|z|z
 ·have:=Int.mul_le_mul (show r+1≤k by omega) (show r+1≤k by omega) ∅ k0
  omega
 ·rw[z];exact e2
 ·have:=Int.mul_le_mul (show k+1≤r by omega) (show k+1≤r by omega) ∅ r0
  have:(k+1)*(k+1)=k*k+2*k+1:=by grind
  omega
abbrev Ju:DSp:=spec (fun p:Int×List Int=>[.int p.1,.lst (p.2.map Dt.int)]) (fun p=>p.1=0∧p.2.length≤63) fun p d=>∃t:I4,d=t4 t∧det t=1∧B4 210 t
def Vl(T:Txt K mg)
  : Pm P w K mg base 1 "_law_turn" FQ ["_law_first","_law_cells"] Ju:=by
 obtain⟨f,fd,F⟩:=T.gJ
 refine⟨f,fd,F,F.fn.okD BX (by walk_at "lE") fun cdv A outer s H E hr=>⟨_,(Ad (Jq (Bw (Aa Ab (Aa (dv 0) (Aa Ab (Aa Ab Af))))) (Lx (n:=4) rfl (Bk (Bj 2 BX.nd) (Bk (Bj 3 BX.nd) (Bk (Bj 4 BX.nd) (Bk (Bj 5 BX.nd) Ht)))))) (Ad (Oc PassesOwn.never rfl (Kg (dv 1)) (Bj 6 BX.nd) (Ad (Aq 7 BX.nd (BJ (CV (dv 6) Ab) Ab)) (Ah (Jq (Bw (Aa (dv 3) (Aa (BJ (Aj (dv 7) (dv 3)) (dv 2)) (Aa (dv 5) (Aa (BJ (Aj (dv 7) (dv 5)) (dv 4)) Af))))) (Lx (n:=4) rfl (Bk (Bj 2 BX.nd) (Bk (Bj 3 BX.nd) (Bk (Bj 4 BX.nd) (Bk (Bj 5 BX.nd) Ht))))))))) (Ah (Av (Bw (Aa (dv 2) (Aa (dv 3) (Aa (dv 4) (Aa (dv 5) Af))))))))),fun ds Q h=>?_⟩⟩
 obtain⟨⟨f,cs⟩,rfl,⟨hf,hl⟩,q⟩:=h
 have hf:f=0:=hf
 walk_at "go"
 refine⟨Ax ⋯,?_⟩
 have low:∀{i:Nat} {x:Int},i≤63→x.natAbs≤10 ^ i→Bt 210 x:=fun{i x} hi h=>by
  have h1:(10:Nat) ^ i≤10 ^ 63:=Nat.pow_le_pow_right ⋯ hi
  have h2:(10:Nat) ^ 63<2 ^ 210:=⋯
  exact Nat.lt_of_le_of_lt h (Nat.lt_of_le_of_lt h1 h2)
 have hl:cs.length≤63:=hl
 refine KQ (cs.map Dt.int) (fun R h=>h) (fun i ρ=>∃p q r s x y,ρ=[some (.is (.int f)),some (.is (.lst (cs.map Dt.int))),some (.is (.int p)),some (.is (.int q)),some (.is (.int r)),some (.is (.int s)),x,y]∧p*s-q*r=1∧p.natAbs≤10 ^ i∧q.natAbs≤10 ^ i∧r.natAbs≤10 ^ i∧s.natAbs≤10 ^ i) ?_ ?_ ?_
 ·exact⟨1,f,0,1,none,none,rfl,∅,⋯,by rw[hf];decide,⋯,⋯⟩
 ·rintro i d _ hi ⟨p,q,r,s,x,y,rfl,hd,hp,hq,hr,hs⟩
  obtain⟨n,hn,rfl⟩:=ints_get hi
  have hk0:n.fmod 19=n % 19:=Int.fmod_eq_emod_of_nonneg n ⋯
  have hk:Bt 4 (n.fmod 19-9):=by
   rw[hk0]
   exact Bt.of ∅ ∅
  have hi6:i<63:=by
   have:=(List.getElem?_eq_some_iff.mp hn).1
   omega
  have hq':Bt 210 q:=low ∅ hq
  have hs':Bt 210 s:=low ∅ hs
  have e10:10 ^ (i+1)=10*10 ^ i:=by rw[Nat.pow_succ,Nat.mul_comm]
  have up:∀{x y k:Int},k.natAbs≤9→x.natAbs≤10 ^ i→y.natAbs≤10 ^ i→(k*x-y).natAbs≤10 ^ (i+1):=fun{x y k} h1 h2 h3=>by
   have a1:(k*x).natAbs≤9*10 ^ i:=by rw[Int.natAbs_mul];exact Nat.mul_le_mul h1 h2
   rw[e10]
   omega
  have k9:(n.fmod 19-9).natAbs≤9:=by rw[hk0];omega
  walk_at "rd"
  refine⟨⋯,by walk_at "mul",by walk_at "mul",Ax ⋯,?_⟩
  refine⟨q,(n.fmod 19-9)*q-p,s,(n.fmod 19-9)*s-r,_,_,rfl,by grind,∅,up k9 hq hp,∅,up k9 hs hr⟩
 ·rintro _ ⟨p,q',r,s,x,y,rfl,hd,hp,hq,hr,hs⟩
  walk_at "rd"
  rw[List.length_map]at hp hq hr hs
  refine⟨Ax ⋯,q _ ⟨(p,q',r,s),rfl,hd,low hl hp,low hl hq,low hl hr,low hl hs⟩⟩
abbrev IK:DSp:=Dc (fun p:I3×I2=>[t3 p.1,.int p.2.1,.int p.2.2]) (fun p=>B3 20000 p.1∧B2 300100 p.2) fun p=>.int (val p.1 p.2)
def R9(T:Txt K mg)
  : Pm P w K mg base 1 "_law_value" Ds ["_law_form","_law_x","_law_y"] IK:=by
 obtain⟨f,fd,F⟩:=T.fD
 refine⟨f,fd,F,F.fn.okD RJ (by walk_at "lE") fun cdv A outer s H E hr=>⟨_,(Ah (Av (Bs (Bs (Aj (Aj (Ac (dv 0) Ab) (dv 1)) (dv 1)) (Aj (Aj (Ac (dv 0) Ab) (dv 1)) (dv 2))) (Aj (Aj (Ac (dv 0) Ab) (dv 2)) (dv 2))))),fun ds Q h=>?_⟩⟩
 obtain⟨⟨⟨a,b,c⟩,x,y⟩,rfl,⟨⟨ha,hb,hc⟩,hx,hy⟩,q⟩:=h
 walk_at "go"
 walk_at "muls"
 exact q _ rfl
abbrev GP:DSp:=Dc (fun p:I3×I4=>[t3 p.1,t4 p.2]) (fun p=>B3 20000 p.1∧B4 300000 p.2) fun p=>t3 (mov p.1 p.2)
def R8(T:Txt K mg)
  (aB:Pm P w K mg base 1 "_law_value" Ds ["_law_form","_law_x","_law_y"] IK)
  : Pm P w K mg base 2 "_law_moved" Dw ["_law_form","_law_turn_here"] GP:=by
 obtain⟨f,fd,F⟩:=T.fG
 refine⟨f,fd,F,F.fn.okD DP (by walk_at "lE") fun cdv A outer s H E hr=>⟨_,(Ad (Jq (dv 1) (Lx (n:=4) rfl (Bk (Bj 2 DP.nd) (Bk (Bj 3 DP.nd) (Bk (Bj 4 DP.nd) (Bk (Bj 5 DP.nd) Ht)))))) (Ad (Aq 6 DP.nd (BJ (BJ (Ag Ae aB (hr.mono ⋯) rfl (Aa (dv 0) (Aa (Bs (dv 2) (dv 3)) (Aa (Bs (dv 4) (dv 5)) Af)))) (Ag Ae aB (hr.mono ⋯) rfl (Aa (dv 0) (Aa (dv 2) (Aa (dv 4) Af))))) (Ag Ae aB (hr.mono ⋯) rfl (Aa (dv 0) (Aa (dv 3) (Aa (dv 5) Af)))))) (Ah (Av (Bw (Aa (Ag Ae aB (hr.mono ⋯) rfl (Aa (dv 0) (Aa (dv 2) (Aa (dv 4) Af)))) (Aa (dv 6) (Aa (Ag Ae aB (hr.mono ⋯) rfl (Aa (dv 0) (Aa (dv 3) (Aa (dv 5) Af)))) Af)))))))),fun ds Q h=>?_⟩⟩
 obtain⟨⟨f,e,g,i,j⟩,rfl,⟨hf,he,hg,hi,hj⟩,q⟩:=h
 walk_at "go"
 have h1:B2 300100 (e+g,i+j):=⟨(he.add hg).le ⋯,(hi.add hj).le ⋯⟩
 have h2:B2 300100 (e,i):=⟨he.le ⋯,hi.le ⋯⟩
 have h3:B2 300100 (g,j):=⟨hg.le ⋯,hj.le ⋯⟩
 refine Al (f,(e+g,i+j)) ⟨hf,h1⟩ (Al (f,(e,i)) ⟨hf,h2⟩ ?_)
 walk_at "rd"
 refine Al (f,(g,j)) ⟨hf,h3⟩ ?_
 walk_at "rd"
 refine Al (f,(e,i)) ⟨hf,h2⟩ (Al (f,(g,j)) ⟨hf,h3⟩ ⟨Ax ⋯,?_⟩)
 have q':=q _ rfl
 dsimp only[mov]at q'
 have em:val f (e+g,i+j)-val f (e,i)-val f (g,j)=mid f (e,i) (g,j):=by
  obtain⟨a,b,c⟩:=f
  simp only[val,mid];grind
 rw[em]
 exact q'
structure Taken(o:Int)(f:I3):Prop where
 o1:1≤o
 o2:o≤20
 a0:f.1≠0
 n4:(f.1*o*o).natAbs≤400
 me:(meas f<0∧0<f.1)∨(0≤meas f∧meas f≤4000)
 bt:B3 80 f
 sb:0≤meas f→B3 24 f
abbrev Lh:DSp:=spec (fun p:List Int×Int=>[.lst (p.1.map Dt.int),.int p.2]) (fun p=>1≤p.2∧p.2≤400) fun p d=>∃o f,d=.lst [.int o,t3 f]∧Taken o f
def R0(T:Txt K mg)
  (aC:Pm P w K mg base 1 "_law_cell" Eh ["_law_script","_law_k"] Hr)
  : Pm P w K mg base 2 "_law_taken" Et ["_law_script","_law_most"] Lh:=by
 obtain⟨f,fd,F⟩:=T.fH
 refine⟨f,fd,F,F.fn.okD Cg (by walk_at "lE") fun cdv A outer s H E hr=>⟨_,(Ad (Aq 2 Cg.nd (Ag Ae aC (hr.mono ⋯) rfl (Aa (dv 0) (Aa Ab Af)))) (Ad (Aq 3 Cg.nd (Ac (Nr (Aa Ab (Aa Ab (Aa Ab (Aa (Bs Ab (CV (BW (dv 2) Ab) Ab)) Af))))) (CV (BW (dv 2) Ab) Ab))) (Ad (Aq 4 Cg.nd (Bs Ab (CV (BW (dv 2) Ab) (Vc T.fK (Aa Ab (Aa (BW (dv 1) (Aj (dv 3) (dv 3))) Af)))))) (Ad (Aq 5 Cg.nd (CV (Ag Ae aC (hr.mono ⋯) rfl (Aa (dv 0) (Aa Ab Af))) (Aj Ab (dv 4)))) (Ad (Cj (JV hr.units (CV (dv 2) Ab) Ab) (Ad (Aq 6 Cg.nd (Ac (Nr (Aa Ab (Aa (Aio Ab Ab) Af))) (CV (BW (dv 2) Ab) Ab))) (Ah (Av (Nr (Aa (dv 3) (Aa (Bw (Aa (dv 4) (Aa (dv 5) (Aa (Bs (Bs (BW (Aj (dv 5) (dv 5)) (Aj Ab (dv 4))) Ab) (CV (Ag Ae aC (hr.mono ⋯) rfl (Aa (dv 0) (Aa Ab Af))) (dv 6))) Af)))) Af)))))) Bd) (Ad (Aq 7 Cg.nd (CV (Aj (dv 5) (dv 5)) (Aj Ab (dv 4)))) (Ad (Aq 8 Cg.nd (Bs (dv 7) (Aj (Aj Ab (dv 4)) (CV (Ag Ae aC (hr.mono ⋯) rfl (Aa (dv 0) (Aa Ab Af))) (Bs Ab (BW (BJ Ab (dv 7)) (Aj Ab (dv 4)))))))) (Ad (Aq 9 Cg.nd (BJ Ab (Aj Ab (CV (BW (dv 2) Ab) Ab)))) (Ah (Av (Nr (Aa (dv 3) (Aa (Bw (Aa (Aj (dv 9) (dv 4)) (Aa (dv 5) (Aa (Aj (dv 9) (BW (BJ (Aj (dv 5) (dv 5)) (dv 8)) (Aj Ab (dv 4)))) Af)))) Af))))))))))))),fun ds Q h=>?_⟩⟩
 obtain⟨⟨ns,most⟩,rfl,⟨hm1,hm4⟩,q⟩:=h
 have hm1:1≤most:=hm1
 have hm4:most≤400:=hm4
 have q:∀d,(∃o f,d=.lst [.int o,t3 f]∧Taken o f)→Q d:=q
 have cp:Aa1 10 20:=⟨⋯,⋯,⋯⟩
 walk_at "go"
 refine Hl ns 0 ⋯ ?_
 obtain⟨c,ec⟩:∃c,ns.getD (Int.toNat 0) 0=c:=⟨_,rfl⟩
 rw[ec]
 walk_at "rd"
 have c16:=Ci (c.fdiv 16) (m:=20) ⋯
 have c2:=Ci (c.fdiv 2) (m:=4) ⋯
 obtain⟨o,eo,ho⟩:=Aam (zs:=[1,1,1,1+(c.fdiv 16).fmod 20]) (k:=(c.fdiv 2).fmod 4) (P:=fun z=>1≤z∧z≤20) c2.1 (by simpa using c2.2) (fun z hz=>by
  simp only[List.mem_cons,List.not_mem_nil,or_false]at hz
  omega)
 simp only[List.map_cons,List.map_nil]at eo
 rw[eo]
 obtain⟨o1,o2⟩:=ho
 have bo:Bt 6 o:=Bt.of ∅ ∅
 have oo:0<o*o:=Int.mul_pos ∅ ∅
 have o4:o*o≤400:=by
  have:=Int.mul_le_mul o2 o2 ∅ ∅
  omega
 walk_at "rd"
 obtain⟨w,ew⟩:∃w,(if most.fdiv (o*o)>1 then most.fdiv (o*o)else 1)=w:=⟨_,rfl⟩
 rw[ew]
 have w1:1≤w:=by rw[←ew];split<;>omega
 have dv:=Int.fmod_add_mul_fdiv most (o*o)
 have dr:=Ci most oo
 have w4:w*(o*o)≤400:=by
  rw[←ew]
  split
  ·rw[Int.mul_comm];omega
  ·omega
 have rm:=Ci (c.fdiv 400) (m:=w) ∅
 obtain⟨m,em⟩:∃m,1+(c.fdiv 400).fmod w=m:=⟨_,rfl⟩
 rw[em]
 have m1:1≤m:=∅
 have mw:m≤w:=∅
 have m4:m*(o*o)≤400:=by
  have:=Int.mul_le_mul_of_nonneg_right mw (show 0≤o*o by omega)
  omega
 have uX:m≤400:=by
  have:=Int.mul_le_mul_of_nonneg_left (show 1≤o*o by omega) (show 0≤m by omega)
  omega
 have bm:Bt 9 m:=Bt.of ∅ ∅
 have two:Bt 2 2:=Bt.ak ⋯
 have four:Bt 3 4:=Bt.ak ⋯
 refine⟨⟨⋯,⋯⟩,⋯,Ax ⋯,⟨⋯,⋯⟩,⋯,⟨⋯,⋯⟩,bo.aj bo,Bt.aU (bo.mul bo) ∅,∅,Hl ns 1 ⋯ ⟨two.aj bm,?_⟩⟩
 obtain⟨b,eb⟩:∃b,(ns.getD (Int.toNat 1) 0).fmod (2*m)=b:=⟨_,rfl⟩
 have rb:=Ci (ns.getD (Int.toNat 1) 0) (m:=2*m) ∅
 rw[eb]at rb
 walk_at "rd"
 rw[eb]
 have bb:Bt 10 b:=Bt.of ∅ ∅
 have b0:=sq_nonneg b
 refine⟨∅,⋯,Gj (fun _=>?_) (fun _=>?_)⟩
 ·have c8:=Ci (c.fdiv 8) (m:=2) ⋯
  obtain⟨sz,es,hs⟩:=Aam (zs:=[60,10 ^ Int.toNat 20]) (k:=(c.fdiv 8).fmod 2) (P:=fun z=>1≤z∧z≤2 ^ 67) c8.1 (by simpa using c8.2) (fun z hz=>by
   simp only[List.mem_cons,List.not_mem_nil,or_false]at hz
   rcases hz with rfl|rfl<;>decide)
  simp only[List.map_cons,List.map_nil]at es
  rw[es]
  refine⟨cp,Ax ⋯,⟨⋯,⋯⟩,⋯,bb.aj bb,four.aj bm,Bt.aU (four.mul bm) ∅,Hl ns 2 ⋯ ⟨∅,Ax ⋯,Ax ⋯,?_⟩⟩
  have rz:=Ci (ns.getD (Int.toNat 2) 0) (m:=sz) ∅
  obtain⟨e,ee⟩:∃e,(ns.getD (Int.toNat 2) 0).fmod sz=e:=⟨_,rfl⟩
  rw[ee]at rz ⊢
  have d4:=Int.fmod_add_mul_fdiv (b*b) (4*m)
  have r4:=Ci (b*b) (m:=4*m) ∅
  obtain⟨h,eh⟩:∃h,(b*b).fdiv (4*m)=h:=⟨_,rfl⟩
  rw[eh]at d4 ⊢
  have h0:0≤h:=by
   rcases Int.lt_or_le h 0 with z|z
   ·have:=Int.mul_le_mul_of_nonneg_left (show h≤-1 by omega) (show 0≤4*m by omega)
    omega
   ·exact z
  have hh:h≤b*b:=by
   have:=Int.mul_le_mul_of_nonneg_right (show 1≤4*m by omega) h0
   omega
  have bbq:b*b≤800*800:=Int.mul_le_mul ∅ ∅ ∅ ∅
  have bc:Bt 80 (h+1+e):=Bt.of ∅ ∅
  refine q _ ⟨o,(m,b,h+1+e),rfl,o1,o2,by show m≠0;omega,?_,.inl ⟨?_,by show 0<m;omega⟩,⟨bm.le ⋯,bb.le ⋯,bc⟩,fun z=>absurd z (by
   show ¬0≤b*b-4*m*(h+1+e)
   have e1:4*m*(h+1+e)=4*m*h+4*m+4*m*e:=by grind
   have e2:=Int.mul_nonneg (show 0≤4*m by omega) rz.1
   omega)⟩
  ·show(m*o*o).natAbs≤400
   rw[Int.mul_assoc]
   have:=Int.mul_nonneg (show 0≤m by omega) (show 0≤o*o by omega)
   omega
  ·show b*b-4*m*(h+1+e)<0
   have e1:4*m*(h+1+e)=4*m*h+4*m+4*m*e:=by grind
   have e2:=Int.mul_nonneg (show 0≤4*m by omega) rz.1
   omega
 ·have c8:=Ci (c.fdiv 8) (m:=2) ⋯
  refine⟨bb.aj bb,four.aj bm,∅,four.aj bm,Hl ns 2 ⋯ ⟨four.aj bm,Bt.aU (four.mul bm) ∅,?_⟩⟩
  walk_at "rd"
  have d4:=Int.fmod_add_mul_fdiv (b*b) (4*m)
  have r4:=Ci (b*b) (m:=4*m) ∅
  obtain⟨h,eh⟩:∃h,(b*b).fdiv (4*m)=h:=⟨_,rfl⟩
  obtain⟨re,er⟩:∃h,(b*b).fmod (4*m)=h:=⟨_,rfl⟩
  rw[eh,er]at d4
  rw[er]at r4
  rw[er]
  have d5:=Int.fmod_add_mul_fdiv (4000-re) (4*m)
  have r5:=Ci (4000-re) (m:=4*m) ∅
  obtain⟨k,ek⟩:∃h,(4000-re).fdiv (4*m)=h:=⟨_,rfl⟩
  rw[ek]at d5 ⊢
  have k0:0≤k:=by
   rcases Int.lt_or_le k 0 with z|z
   ·have:=Int.mul_le_mul_of_nonneg_left (show k≤-1 by omega) (show 0≤4*m by omega)
    omega
   ·exact z
  have rz:=Ci (ns.getD (Int.toNat 2) 0) (m:=1+k) ∅
  obtain⟨e,ee⟩:∃e,(ns.getD (Int.toNat 2) 0).fmod (1+k)=e:=⟨_,rfl⟩
  rw[ee]at rz ⊢
  have me:=Int.mul_le_mul_of_nonneg_left (show e≤k by omega) (show 0≤4*m by omega)
  have me0:=Int.mul_nonneg (show 0≤4*m by omega) rz.1
  have k4:k≤4000:=by
   have:=Int.mul_le_mul_of_nonneg_right (show 1≤4*m by omega) k0
   omega
  have be:Bt 13 e:=Bt.of ∅ ∅
  have ed:b*b-(re+4*m*e)=4*m*(h-e):=by
   rw[Int.mul_sub]
   omega
  have ev:(b*b-(re+4*m*e)).fdiv (4*m)=h-e:=by rw[ed,Int.mul_fdiv_cancel_left _ ∅]
  rw[ev]
  have h0:0≤h:=by
   rcases Int.lt_or_le h 0 with z|z
   ·have:=Int.mul_le_mul_of_nonneg_left (show h≤-1 by omega) (show 0≤4*m by omega)
    omega
   ·exact z
  have hh:h≤b*b:=by
   have:=Int.mul_le_mul_of_nonneg_right (show 1≤4*m by omega) h0
   omega
  have bbq:b*b≤800*800:=Int.mul_le_mul ∅ ∅ ∅ ∅
  have bc:Bt 20 (h-e):=Bt.of ∅ ∅
  obtain⟨s,es⟩:∃s,1-2*(c.fdiv 8).fmod 2=s:=⟨_,rfl⟩
  have s1:s=1∨s=-1:=∅
  have bs:Bt 2 s:=Bt.of ∅ ∅
  have bw:Bt 2 ((c.fdiv 8).fmod 2):=Bt.of ∅ ∅
  rw[es]
  refine⟨∅,(four.mul bm).aj be,⟨⋯,⋯⟩,⋯,two.aj bw,bs.aj bm,bb.aj bb,four.aj bm,Bt.aU (four.mul bm) ∅,bs.aj bc,Ax ⋯,Ax ⋯,?_⟩
  have ss:s*s=1:=by rcases s1 with z|z<;>rw[z]<;>decide
  have ms:meas (s*m,b,s*(h-e))=re+4*m*e:=by
   show b*b-4*(s*m)*(s*(h-e))=_
   have:4*(s*m)*(s*(h-e))=s*s*(4*m*(h-e)):=by grind
   rw[this,ss]
   omega
  refine q _ ⟨o,(s*m,b,s*(h-e)),rfl,o1,o2,?_,?_,.inr ⟨by rw[ms];omega,by rw[ms];omega⟩,⟨(bs.mul bm).le ⋯,bb.le ⋯,(bs.mul bc).le ⋯⟩,fun _=>⟨(bs.mul bm).le ⋯,bb.le ⋯,(bs.mul bc).le ⋯⟩⟩
  ·show s*m≠0
   exact Int.mul_ne_zero ∅ ∅
  ·show(s*m*o*o).natAbs≤400
   have e1:s*m*o*o=s*(m*(o*o)):=by grind
   have:=Int.mul_nonneg (show 0≤m by omega) (show 0≤o*o by omega)
   rw[e1,Int.natAbs_mul]
   have sa:s.natAbs=1:=∅
   rw[sa]
   omega
def Zz{n:Nat}{a b:Int}(ha:Bt n a)(h:b≠0):Bt (n+1) (a.fdiv b):=by
 have hb:1≤b.natAbs:=∅
 have h1:=Ui (a:=a) h
 have e:b*a.fdiv b=a-a.fmod b:=by rw[Dz];grind
 have e2:b.natAbs*(a.fdiv b).natAbs=(a-a.fmod b).natAbs:=by rw[←Int.natAbs_mul,e]
 unfold Bt at *
 rw[Nat.pow_succ]
 by_cases h0:a.fdiv b=0
 ·rw[h0];have:=Nat.two_pow_pos n;simp;omega
 ·rcases Nat.lt_or_ge a.natAbs b.natAbs with hc|hc
  ·have h3:(a-a.fmod b).natAbs<2*b.natAbs:=∅
   have h4:(a.fdiv b).natAbs<2:=by
    refine Nat.lt_of_mul_lt_mul_left (a:=b.natAbs) ?_
    rw[e2];omega
   have:=Nat.two_pow_pos n
   omega
  ·have h3:(a-a.fmod b).natAbs≤2*a.natAbs:=∅
   have h4:(a.fdiv b).natAbs≤b.natAbs*(a.fdiv b).natAbs:=Nat.le_mul_of_pos_left _ hb
   omega
structure Rows(a b n u v m s t:Int):Prop where
 r1:n=u*a+v*b
 r2:m=s*a+t*b
 g:Int.gcd n m=Int.gcd a b
 n0:Bt 8900 n
 m0:Bt 8900 m
 u0:Bt 8901 u
 s0:Bt 8901 s
 v0:Bt 20000 v
 t0:Bt 20000 t
structure Lat(b n u m s:Int):Prop where
 ex:∃e d N M U S B:Int,n=e*N∧m=e*M∧u=d*U∧s=d*S∧b=e*B∧(e=1∨e=-1)∧(d=1∨d=-1)∧0<N∧0≤M∧U≤0∧0≤S∧N*S-M*U=B∧-U≤B
theorem Lat.first{a b:Int}(h:b≠0):Lat b b 0 (a.fmod b) 1:=by
 rcases Int.lt_or_lt_of_ne h with h|h
 ·have e:a.fmod b=-((-a).fmod (-b)):=by rw[Dz,Dz,Int.neg_fdiv_neg];grind
  have h1:=Int.fmod_nonneg_of_pos (-a) (show 0 < -b by omega)
  exact⟨-1,1,-b,(-a).fmod (-b),0,1,-b,∅,∅,∅,∅,∅,.inr rfl,.inl rfl,∅,h1,∅,∅,by simp,∅⟩
 ·have h1:=Int.fmod_nonneg_of_pos a h
  exact⟨1,1,b,a.fmod b,0,1,b,∅,∅,∅,∅,∅,.inl rfl,.inl rfl,∅,h1,∅,∅,by simp,∅⟩
theorem Lat.step{b n u m s:Int}(L:Lat b n u m s)(h:m≠0):Lat b m s (n-n.fdiv m*m) (u-n.fdiv m*s):=by
 obtain⟨e,d,N,M,U,S,B,hn,hm,hu,hs,hb,he,hd,hN,hM,hU,hS,hE,hUB⟩:=L.ex
 have hM':0<M:=by
  rcases Int.lt_or_eq_of_le hM with z|z
  ·exact z
  ·rw[←z]at hm;simp at hm;exact absurd hm h
 have q1:n.fdiv m=N.fdiv M:=by
  rw[hn,hm]
  rcases he with rfl|rfl
  ·simp
  ·simp[Int.neg_fdiv_neg]
 have q2:0≤N.fdiv M:=Int.fdiv_nonneg ∅ ∅
 have q3:0≤N-M*N.fdiv M:=by rw[←Dz];exact Int.fmod_nonneg_of_pos N hM'
 rw[q1]
 generalize N.fdiv M=q at *
 have hSB:S≤B:=by
  have z1:0≤M*(-U):=Int.mul_nonneg hM ∅
  have z2:0≤(N-1)*S:=Int.mul_nonneg ∅ hS
  have:N*S-M*U=(N-1)*S+S+M*(-U):=by grind
  omega
 have z3:0≤q*S:=Int.mul_nonneg q2 hS
 refine⟨e,-d,M,N-M*q,-S,q*S-U,B,hm,?_,?_,?_,hb,he,?_,hM',q3,∅,∅,?_,∅⟩
 ·rw[hn,hm];grind
 ·rw[hs];grind
 ·rw[hu,hs];grind
 ·rcases hd with rfl|rfl
  ·exact .inr rfl
  ·exact .inl rfl
 ·rw[←hE];grind
theorem Lat.bounds{b n u m s:Int}(L:Lat b n u m s):u.natAbs≤b.natAbs∧s.natAbs≤b.natAbs:=by
 obtain⟨e,d,N,M,U,S,B,hn,hm,hu,hs,hb,he,hd,hN,hM,hU,hS,hE,hUB⟩:=L.ex
 have z1:0≤M*(-U):=Int.mul_nonneg hM ∅
 have z2:0≤(N-1)*S:=Int.mul_nonneg ∅ hS
 have:N*S-M*U=(N-1)*S+S+M*(-U):=by grind
 have hSB:S≤B:=∅
 rcases he with rfl|rfl<;>rcases hd with rfl|rfl<;>omega
theorem Rows.step{a b n u v m s t:Int}(R:Rows a b n u v m s t)(ha:Bt 8900 a)(hb:Bt 8900 b)(hbn:b≠0)(h:m≠0)(L:Lat b m s (n-n.fdiv m*m) (u-n.fdiv m*s)) :
  Rows a b m s t (n-n.fdiv m*m) (u-n.fdiv m*s) (v-n.fdiv m*t):=by
 have e:n-n.fdiv m*m=n.fmod m:=by rw[Dz];grind
 have hl:=Ui (a:=n) h
 have hm:=R.m0
 have hs:Bt 8901 (u-n.fdiv m*s):=by
  have:=L.bounds.2
  have hb':=hb.le (m:=8901) ⋯
  unfold Bt at *
  omega
 have hr:Bt 8900 (n-n.fdiv m*m):=by rw[e];unfold Bt at *;omega
 have er:n-n.fdiv m*m=(u-n.fdiv m*s)*a+(v-n.fdiv m*t)*b:=by
  have h1:=R.r1
  have h2:=R.r2
  generalize n.fdiv m=q at *
  rw[h1,h2];grind
 refine⟨R.r2,er,?_,R.m0,hr,R.s0,hs,R.t0,?_⟩
 ·rw[e,AbR];exact R.g
 ·refine Kw (b:=b) ?_ hbn
  have:(v-n.fdiv m*t)*b=(n-n.fdiv m*m)-(u-n.fdiv m*s)*a:=by rw[er];grind
  rw[this]
  exact(hr.sub (hs.mul ha)).le ⋯
abbrev Kp:DSp:=spec (fun p:I2=>[.int p.1,.int p.2]) (fun p=>Bt 8900 p.1∧Bt 8900 p.2) fun p d=>∃u v:Int,d=T3 ((Int.gcd p.1 p.2:Nat):Int) u v∧u*p.1+v*p.2=((Int.gcd p.1 p.2:Nat):Int)∧Bt 20000 u∧Bt 20000 v
def QV(T:Txt K mg)
  : Pm P w K mg base 1 "_law_shares" DK ["_law_one","_law_other"] Kp:=by
 obtain⟨f,fd,F⟩:=T.dD
 refine⟨f,fd,F,F.fn.okD Di (by walk_at "lE") fun cdv A outer s H E hr=>⟨_,(Ad (Aq 2 Di.nd (Bw (Aa (dv 0) (Aa Ab (Aa Ab Af))))) (Ad (Aq 3 Di.nd (Bw (Aa (dv 1) (Aa Ab (Aa Ab Af))))) (Ad (Fi PassesOwn.never (Im hr.units (Ac (dv 3) Ab) Ab) (Ad (Aq 4 Di.nd (BW (Ac (dv 2) Ab) (Ac (dv 3) Ab))) (Ad (Aq 5 Di.nd (Bw (Aa (BJ (Ac (dv 2) Ab) (Aj (dv 4) (Ac (dv 3) Ab))) (Aa (BJ (Ac (dv 2) Ab) (Aj (dv 4) (Ac (dv 3) Ab))) (Aa (BJ (Ac (dv 2) Ab) (Aj (dv 4) (Ac (dv 3) Ab))) Af))))) (Ah (AaB rfl Di.nd 2 3 (Aa (dv 3) (Aa (dv 5) Af))))))) (Ad (Cj (O6 (Ac (dv 2) Ab) Ab) (Ah (Av (Bw (Aa (BJ Ab (Ac (dv 2) Ab)) (Aa (BJ Ab (Ac (dv 2) Ab)) (Aa (BJ Ab (Ac (dv 2) Ab)) Af)))))) Bd) (Ah (Av (dv 2))))))),fun ds Q h=>?_⟩⟩
 obtain⟨⟨a,b⟩,rfl,⟨ha,hb⟩,k⟩:=h
 walk_at "go"
 refine⟨Ax ⋯,Ax ⋯,?_⟩
 refine Fe (fun m ρ=>∃n u v x s t y z,ρ=[some (.is (.int a)),some (.is (.int b)),some (.is (T3 n u v)),some (.is (T3 x s t)),y,z]∧Rows a b n u v x s t∧((n=a∧u=1∧x=b∧s=0)∨(b≠0∧Lat b n u x s))∧m=x.natAbs) _ ⟨a,1,0,b,0,1,none,none,rfl,⟨by grind,by grind,rfl,ha,hb,Bt.one.le ⋯,Bt.zero.le ⋯,Bt.zero.le ⋯,Bt.one.le ⋯⟩,.inl ⟨rfl,rfl,rfl,rfl⟩,rfl⟩ ?_
 rintro m _ ⟨n,u,v,x,s,t,y,z,rfl,R,hc,rfl⟩
 walk_at "rd"
 have hG:=R.g
 by_cases hx:x=0
 ·subst hx
  rw[Int.gcd_zero_right]at hG
  simp only[decide_true,Bool.not_true]
  walk_at "rd"
  have r1:=R.r1
  refine Gj (fun hn=>⟨Ax ⋯,k _ ⟨0-u,0-v,?_,?_,?_,?_⟩⟩) (fun hn=>k _ ⟨u,v,?_,?_,R.u0.le ⋯,R.v0⟩)
  ·have hn:=of_decide_eq_true hn
   have e:0-n=((Int.gcd a b:Nat):Int):=∅
   rw[e]
  ·have hn:=of_decide_eq_true hn
   have e:0-n=((Int.gcd a b:Nat):Int):=∅
   show(0-u)*a+(0-v)*b=_
   rw[←e,r1];grind
  ·rw[Int.zero_sub];exact(R.u0.neg).le ⋯
  ·rw[Int.zero_sub];exact R.v0.neg
  ·have hn:¬n<0:=fun z=>hn (decide_eq_true z)
   have e:n=((Int.gcd a b:Nat):Int):=∅
   rw[←e]
  ·have hn:¬n<0:=fun z=>hn (decide_eq_true z)
   have e:n=((Int.gcd a b:Nat):Int):=∅
   show u*a+v*b=_
   rw[←e,←r1]
 ·simp only[decide_eq_false hx,Bool.not_false,if_true]
  have hbn:b≠0:=by
   rcases hc with⟨_,_,e,_⟩|⟨e,_⟩
   ·rw[←e];exact hx
   ·exact e
  have L:Lat b x s (n-n.fdiv x*x) (u-n.fdiv x*s):=by
   rcases hc with⟨rfl,rfl,rfl,rfl⟩|⟨_,L⟩
   ·have:=Lat.first (a:=n) hx
    have e:n-n.fdiv x*x=n.fmod x:=by rw[Dz];grind
    have e2:(1:Int)-n.fdiv x*0=1:=∅
    rw[e,e2];exact this
   ·exact L.step hx
  have hq:=Zz R.n0 hx
  have e:n-n.fdiv x*x=n.fmod x:=by rw[Dz];grind
  refine⟨Bt.aU R.m0 hx,hq.aj R.m0,hq.aj R.s0,hq.aj R.t0,Ax ⋯,_,?_,_,_,_,_,_,_,_,_,rfl,Rows.step R ha hb hbn hx L,.inr ⟨hbn,L⟩,rfl⟩
  rw[e]
  exact Ui hx
abbrev IV:DSp:=Dc (fun p:I3×Int=>[t3 p.1,.int p.2]) (fun p=>B3 20000 p.1) fun p=>.bl (decide (Level p.1 p.2))
def R5(T:Txt K mg)
  : Pm P w K mg base 1 "_law_level" Dy ["_law_form","_law_far"] IV:=by
 obtain⟨f,fd,F⟩:=T.fC
 refine⟨f,fd,F,F.fn.okD RP (by walk_at "lE") fun cdv A outer s H E hr=>⟨_,(Ah (Av (Qh (Ms Ri Kq Cw Cw Ab (Ac (dv 0) Ab) (dv 1)) (Nv (Ms Ri Kq Cw Cw (BJ (dv 1) (Ac (dv 0) Ab)) (Aj Ab (G8 T.bA (Aa (Ac (dv 0) Ab) Af))) (Bs (dv 1) (Ac (dv 0) Ab))))))),fun ds Q h=>?_⟩⟩
 obtain⟨⟨⟨a,b,c⟩,far⟩,rfl,hb,q⟩:=h
 have q':=q _ rfl
 obtain⟨ha,_,_⟩:=(show B3 20000 (a,b,c)from hb)
 have ha:Bt 20000 a:=ha
 have two:Bt 2 2:=Bt.ak ⋯
 have ha':Bt 20000 (if a<0 then -a else a):=by split<;>first|exact ha.neg|exact ha
 have q':Q (.bl (decide (Level (a,b,c) far))):=q'
 walk_at "go"
 have hL:Level (a,b,c) far↔(0<b∧b≤far)∧far-b<2*(if a<0 then -a else a)∧2*(if a<0 then -a else a)≤far+b:=Iff.rfl
 generalize (if a<0 then -a else a)=A at *
 by_cases h1:0<b
 ·refine ift (decide_eq_true h1) ?_
  by_cases h2:b≤far
  ·refine ift (decide_eq_true h2) ⟨two.aj ha',?_⟩
   by_cases h3:far-b<2*A
   ·refine ift (decide_eq_true h3) ?_
    have e:decide (Level (a,b,c) far)=decide (2*A≤far+b):=decide_eq_decide.mpr (hL.trans ⟨fun z=>z.2.2,fun z=>⟨⟨h1,h2⟩,h3,z⟩⟩)
    rw[e]at q'
    exact q'
   ·refine DY (decide_eq_false h3) ?_
    rw[decide_eq_false fun z=>h3 (hL.mp z).2.1]at q'
    exact q'
  ·refine DY (decide_eq_false h2) ?_
   rw[decide_eq_false fun z=>h2 (hL.mp z).1.2]at q'
   exact q'
 ·refine DY (decide_eq_false h1) ?_
  rw[decide_eq_false fun z=>h1 (hL.mp z).1.1]at q'
  exact q'
abbrev Ih:DSp:=Dc (fun p:I3×Int=>[t3 p.1,.int p.2]) (fun p=>B3 2000 p.1∧p.1.2.2≠0∧Bt 2000 p.2) fun p=>t3 (mov p.1 (Ca p.1 p.2))
def QB(T:Txt K mg)
  (ao:Pm P w K mg base 1 "_law_bar" Cm ["_law_form"] Dp)
  : Pm P w K mg base 2 "_law_behind" CT ["_law_form","_law_top"] Ih:=by
 obtain⟨f,fd,F⟩:=T.dz
 refine⟨f,fd,F,F.fn.okD Ej (by walk_at "lE") fun cdv A outer s H E hr=>⟨_,(Ad (Jq (dv 0) (Lx (n:=3) rfl (Bk (Bj 2 Ej.nd) (Bk (Bj 3 Ej.nd) (Bk (Bj 4 Ej.nd) Ht))))) (Ad (Aq 5 Ej.nd (BJ (dv 1) (CV (Bs (dv 1) (dv 3)) (Aj Ab (G8 T.bA (Aa (dv 4) Af)))))) (Ah (Av (Bw (Aa (dv 4) (Aa (dv 5) (Aa (BW (BJ (Aj (dv 5) (dv 5)) (Ag Ae ao (hr.mono ⋯) rfl (Aa (dv 0) Af))) (Aj Ab (dv 4))) Af)))))))),fun ds Q h=>?_⟩⟩
 obtain⟨⟨f,top⟩,rfl,⟨hf,h0,ht⟩,q⟩:=h
 have hf:B3 2000 f:=hf
 have h0:f.2.2≠0:=h0
 have ht:Bt 2000 top:=ht
 have q':=q _ rfl
 dsimp only at q'
 obtain⟨e,he⟩:=Mu (top:=top) h0
 have hm:=Bl (f:=f) (t:=Ca f top) Cv
 rw[he]at q' hm
 have two:Bt 2 2:=Bt.ak ⋯
 have four:Bt 3 4:=Bt.ak ⋯
 have hac:2*ab f.2.2≠0:=by rcases Ar f.2.2 with⟨_,e⟩|⟨_,e⟩<;>omega
 have ⟨d1,d2⟩:=Kl (top:=top) h0
 have hd:Bt 2005 (dB f top):=by
  have h1:=two.mul (Xl hf.2.2)
  have h2:=ht.sub h1
  have h3:Bt 2004 (top-2*ab f.2.2):=h2.le ⋯
  unfold Bt at *
  omega
 have em:dB f top*dB f top-meas f=4*f.2.2*e:=by rw[←hm];simp only[meas];omega
 obtain⟨a,b,c⟩:=f
 walk_at "go"
 refine⟨two.aj (Xl hf.2.2),hac,?_⟩
 have edB:top-(top+b).fmod (2*ab c)=dB (a,b,c) top:=rfl
 rw[edB]
 refine⟨hd.aj hd,Al (a,b,c) (hf.le ⋯) ⟨four.aj hf.2.2,Bt.aU (four.mul hf.2.2) (by have:c≠0:=h0;omega),Ax ⋯,?_⟩⟩
 rw[em,Int.mul_fdiv_cancel_left _ (by have:c≠0:=h0;show 4*c≠0;omega)]
 exact q'
def Ji{a b c:Int}(h0:0<a):(-a<b∧b≤a∧a<c)∨(0≤b∧b≤a∧a=c)↔Cq (a,b,c):=by
 constructor
 ·rintro(⟨h1,h2,h3⟩|⟨h1,h2,h3⟩)
  ·exact⟨h0,by show -a≤b;omega,h2,by show a≤c;omega,fun z=>by rcases z with z|z<;>(have z:_=_:=z;dsimp only at z;omega)⟩
  ·exact⟨h0,by show -a≤b;omega,h2,by show a≤c;omega,fun _=>h1⟩
 ·rintro⟨h1,h2,h3,h4,h5⟩
  have h2:-a≤b:=h2
  have h3:b≤a:=h3
  have h4:a≤c:=h4
  have h5:b=-a∨a=c→0≤b:=h5
  by_cases z:a=c
  ·exact .inr ⟨h5 (.inr z),h3,z⟩
  ·refine .inl ⟨?_,h3,∅⟩
   rcases Int.lt_or_eq_of_le h2 with w|w
   ·exact w
   ·have:=h5 (.inl w.symm);omega
abbrev JL:DSp:=spec (fun f:I3=>[t3 f]) (fun f=>B3 1500 f∧Bv f) fun f d=>∃g,d=t3 g∧LF f g
def Aed{a b k:Int}(h0:0<a)(hk:k=(a-b).fdiv (2*a)):-a<b+2*a*k∧b+2*a*k≤a:=by
 have h1:=Ci (a-b) (m:=2*a) ∅
 have h2:=Int.fmod_def (a-b) (2*a)
 rw[←hk]at h2
 omega
def NZ(f:I3)(m:Nat)(ρ:Bu):Prop:=∃(a b c:Int)(t:I4)(x:Option En),ρ=[some (.is (t3 f)),some (.is (.int a)),some (.is (.int b)),some (.is (.int c)),x]∧mov f t=(a,b,c)∧det t=1∧Bt 1500 a∧Bt 1500 b∧(Cq (a,b,c)→m=2*a.toNat)∧(¬Cq (a,b,c)→m=2*a.toNat+1)
def UW(T:Txt K mg)
  : Pm P w K mg base 1 "_law_bowl" Ed ["_law_form"] JL:=by
 obtain⟨f,fd,F⟩:=T.gH
 refine⟨f,fd,F,F.fn.okD Dv (by walk_at "lE") fun cdv A outer s H E hr=>⟨_,(Ad (Jq (dv 0) (Lx (n:=3) rfl (Bk (Bj 1 Dv.nd) (Bk (Bj 2 Dv.nd) (Bk (Bj 3 Dv.nd) Ht))))) (Ad (Fi PassesOwn.never (G9 (DW.dt (OD (Np Ri Kq Ri Cw Cw Cw  (BJ Ab (dv 1)) (dv 2) (dv 1) (dv 3)) (Ke (Np Kq Kq (YD hr.units) Cw Cw YB  Ab (dv 2) (dv 1) (dv 3)))))) (Ad (Aq 4 Dv.nd (BW (BJ (dv 1) (dv 2)) (Aj Ab (dv 1)))) (Ad (AaB rfl Dv.nd 2 3 (Aa (Bs (dv 2) (Aj (Aj Ab (dv 1)) (dv 4))) (Aa (Bs (Bs (Aj (Aj (dv 1) (dv 4)) (dv 4)) (Aj (dv 2) (dv 4))) (dv 3)) Af))) (Ah (Cj (DW.dt (OD (TF (dv 1) (dv 3)) (Ke (DW.dt (Yv (JV hr.units (dv 1) (dv 3)) (Vs (O6 (dv 2) Ab))))))) (Ah (Afj rfl Dv.nd 1 2 3 (Aa (dv 3) (Aa (BJ Ab (dv 2)) (Aa (dv 1) Af))))) Bd))))) (Ah (Av (Bw (Aa (dv 1) (Aa (dv 2) (Aa (dv 3) Af)))))))),fun ds Q h=>?_⟩⟩
 obtain⟨f,rfl,⟨hb,hw⟩,q⟩:=h
 have hw:Bv f:=hw
 have hb:B3 1500 f:=hb
 have q:∀d,(∃g,d=t3 g∧LF f g)→Q d:=q
 have hm:Bt 3010 (meas f):=by
  obtain⟨h1,h2,h3⟩:=hb
  have h4:Bt 3 4:=Bt.ak ⋯
  exact((h2.mul h2).sub ((h4.mul h1).mul h3)).le ⋯
 have two:Bt 2 2:=Bt.ak ⋯
 walk_at "go"
 obtain⟨m0,hm1,hm2⟩:∃m0,(Cq f→m0=2*f.1.toNat)∧(¬Cq f→m0=2*f.1.toNat+1):=by
  by_cases z:Cq f
  ·exact⟨_,fun _=>rfl,fun h=>absurd z h⟩
  ·exact⟨_,fun h=>absurd h z,fun _=>rfl⟩
 refine Fe (NZ f) m0 ⟨f.1,f.2.1,f.2.2,(1,0,0,1),none,rfl,Dl,rfl,hb.1,hb.2.1,hm1,hm2⟩ ?_
 rintro m _ ⟨a,b,c,t,x,rfl,et,dt,ba,bb,m1,m2⟩
 have hg:Bv (a,b,c):=by rw[←et];exact J9 hw dt
 have hgb:B3 7000 (a,b,c):=(ZX hg ba bb (by rw[←et,Bl dt];exact hm)).le ⋯
 have a0:0<a:=hg.1
 have c0:0<c:=NQ hg
 have bk:Bt 1502 ((a-b).fdiv (2*a)):=Zz (ba.sub bb) ∅
 have ⟨s1,s2⟩:=Aed (b:=b) a0 rfl
 walk_at "rd"
 obtain⟨K,eK⟩:∃K,(a-b).fdiv (2*a)=K:=⟨_,rfl⟩
 rw[eK]at bk s1 s2 ⊢
 obtain⟨b',eb⟩:∃x,b+2*a*K=x:=⟨_,rfl⟩
 obtain⟨c',ec⟩:∃x,a*K*K+b*K+c=x:=⟨_,rfl⟩
 rw[eb]at s1 s2
 have em:mov f (Ak t (1,K,0,1))=(a,b',c'):=by
  rw[←Ay,et,←eb,←ec]
  simp only[mov,val,mid,Prod.mk.injEq]
  refine⟨?_,?_,?_⟩<;>grind
 have dm:det (Ak t (1,K,0,1))=1:=by
  rw[BR,dt]
  show 1*(1*1-K*0)=1
  omega
 have hg':Bv (a,b',c'):=by rw[←em];exact J9 hw dm
 have c0':0<c':=NQ hg'
 have es:mov f (Ak (Ak t (1,K,0,1)) (0,-1,1,0))=(c',0-b',a):=by
  rw[←Ay,em]
  simp only[mov,val,mid,Prod.mk.injEq]
  refine⟨?_,?_,?_⟩<;>grind
 have ds:det (Ak (Ak t (1,K,0,1)) (0,-1,1,0))=1:=by rw[BR,dm];rfl
 have bb':Bt 1500 b':=by unfold Bt at *;omega
 have stay:¬Cq (a,b,c)→Cq (a,b',c')→∃m',m'<m∧NZ f m' [some (.is (t3 f)),some (.is (.int a)),some (.is (.int b')),some (.is (.int c')),some (.is (.int K))]:=fun n L=>⟨2*a.toNat,by rw[m2 n];omega,a,b',c',_,_,rfl,em,dm,ba,bb',fun _=>rfl,fun z=>absurd L z⟩
 have body:¬Cq (a,b,c)→(IntMulOk 2 a∧CDv (a-b) (2*a)∧IntMulOk 2 a∧IntMulOk (2*a) K∧IntMulOk a K∧IntMulOk (a*K) K∧IntMulOk b K∧if decide (a*K*K+b*K+c<a)=true then ∃m',m'<m∧NZ f m' [some (.is (t3 f)),some (.is (.int (a*K*K+b*K+c))),some (.is (.int (0-(b+2*a*K)))),some (.is (.int a)),some (.is (.int K))]else
   if decide (a=a*K*K+b*K+c)=true then if decide (b+2*a*K<0)=true then ∃m',m'<m∧NZ f m' [some (.is (t3 f)),some (.is (.int (a*K*K+b*K+c))),some (.is (.int (0-(b+2*a*K)))),some (.is (.int a)),some (.is (.int K))]else ∃m',m'<m∧NZ f m' [some (.is (t3 f)),some (.is (.int a)),some (.is (.int (b+2*a*K))),some (.is (.int (a*K*K+b*K+c))),some (.is (.int K))]
   else ∃m',m'<m∧NZ f m' [some (.is (t3 f)),some (.is (.int a)),some (.is (.int (b+2*a*K))),some (.is (.int (a*K*K+b*K+c))),some (.is (.int K))]):=fun n=>by
  rw[eb,ec]
  refine⟨two.aj ba,Bt.aU (two.mul ba) ∅,two.aj ba,(two.mul ba).aj bk,ba.aj bk,(ba.mul bk).aj bk,bb.aj bk,Gj (fun h1=>?_) (fun h1=>Gj (fun h2=>Gj (fun h3=>?_) (fun h3=>?_)) (fun h2=>?_))⟩
  ·have h1:=of_decide_eq_true h1
   have bc':Bt 1500 c':=by unfold Bt at *;omega
   have bn:Bt 1500 (0-b'):=by unfold Bt at *;omega
   by_cases z:Cq (c',0-b',a)
   ·exact⟨2*c'.toNat,by rw[m2 n];omega,c',0-b',a,_,_,rfl,es,ds,bc',bn,fun _=>rfl,fun w=>absurd z w⟩
   ·exact⟨2*c'.toNat+1,by rw[m2 n];omega,c',0-b',a,_,_,rfl,es,ds,bc',bn,fun w=>absurd w z,fun _=>rfl⟩
  ·have h2:=of_decide_eq_true h2
   have h3:=of_decide_eq_true h3
   have bc':Bt 1500 c':=by unfold Bt at *;omega
   have bn:Bt 1500 (0-b'):=by unfold Bt at *;omega
   have L:Cq (c',0-b',a):=(Ji c0').mp (.inr ⟨∅,∅,∅⟩)
   exact⟨2*c'.toNat,by rw[m2 n];omega,c',0-b',a,_,_,rfl,es,ds,bc',bn,fun _=>rfl,fun w=>absurd L w⟩
  ·have h2:=of_decide_eq_true h2
   have h3:¬b'<0:=fun z=>h3 (decide_eq_true z)
   exact stay n ((Ji a0).mp (.inr ⟨∅,∅,h2⟩))
  ·have h1:¬c'<a:=fun z=>h1 (decide_eq_true z)
   have h2:¬a=c':=fun z=>h2 (decide_eq_true z)
   exact stay n ((Ji a0).mp (.inl ⟨∅,∅,∅⟩))
 by_cases hL:Cq (a,b,c)
 ·have fin:3≤sizeLine∧Q (Dt.tup [Dt.int a,Dt.int b,Dt.int c]):=⟨Ax ⋯,q _ ⟨(a,b,c),rfl,.inl ⟨hw,t,dt,by rw[et];exact hL,et.symm⟩⟩⟩
  rcases(Ji a0).mpr hL with⟨h1,h2,h3⟩|⟨h1,h2,h3⟩
  ·exact ift (decide_eq_true ∅) (ift (decide_eq_true h2) (ift (decide_eq_true h3) fin))
  ·exact ift (decide_eq_true ∅) (ift (decide_eq_true h2) (DY (decide_eq_false ∅) (ift (decide_eq_true h1) (ift (decide_eq_true h2) (DY (by rw[decide_eq_true h3];rfl) fin)))))
 ·have bd:=body hL
  have nx:¬((-a<b∧b≤a∧a<c)∨(0≤b∧b≤a∧a=c)):=fun z=>hL ((Ji a0).mp z)
  refine Gj (fun h1=>Gj (fun h2=>Gj (fun h3=>absurd (.inl ⟨?_,of_decide_eq_true h2,of_decide_eq_true h3⟩) nx) (fun _=>Gj (fun h4=>Gj (fun h5=>Gj (fun _=>bd) (fun h6=>absurd (.inr ⟨of_decide_eq_true h4,of_decide_eq_true h5,?_⟩) nx)) (fun _=>bd)) (fun _=>bd))) (fun _=>Gj (fun h4=>Gj (fun h5=>Gj (fun _=>bd) (fun h6=>absurd (.inr ⟨of_decide_eq_true h4,of_decide_eq_true h5,?_⟩) nx)) (fun _=>bd)) (fun _=>bd))) (fun _=>Gj (fun h4=>Gj (fun h5=>Gj (fun _=>bd) (fun h6=>absurd (.inr ⟨of_decide_eq_true h4,of_decide_eq_true h5,?_⟩) nx)) (fun _=>bd)) (fun _=>bd))
  ·have:=of_decide_eq_true h1;omega
  all_goals
   simp only[Bool.not_eq_true',decide_eq_false_iff_not,Decidable.not_not]at h6
   exact h6
def QL(f:I3)(ts:List I3):Prop:=(Bv f∧∃t,det t=1∧Cq (mov f t)∧ts=[mov f t])∨(Sad f∧∃t far N,det t=1∧Sq (meas f) far∧Lv far (mov f t)∧0<N∧rF far N (mov f t)=mov f t∧ts=(List.range N).map fun i=>rF far i (mov f t))
def Aaw(ts:List I3):ts.map t3=(ts.map GX).map Bc:=by
 rw[List.map_map]
 rfl
def V2{f g:I3}(h:GX f=GX g):f=g:=by
 obtain⟨a,b,c⟩:=f
 obtain⟨x,y,z⟩:=g
 unfold GX at h
 injection h with h1 h
 injection h with h2 h
 injection h with h3 _
 have h1:a=x:=h1
 have h2:b=y:=h2
 have h3:c=z:=h3
 rw[h1,h2,h3]
def V5{f:I3}{ts:List I3}:GX f∈ts.map GX↔f∈ts:=by
 rw[List.mem_map]
 exact⟨fun⟨g,h,e⟩=>by rw[←V2 e];exact h,fun h=>⟨f,h,rfl⟩⟩
def AeP{far:Int}{z:I3}{i k N:Nat}(hv:Lv far z)(l:∀j,0<j→j<N→rF far j z≠z)(ki:k<i)(iN:i<N):rF far i z≠rF far k z:=fun e=>by
 have h1:rF far k (rF far (i-k) z)=rF far i z:=by rw[←EY,Nat.sub_add_cancel ∅]
 exact l (i-k) ∅ ∅ (KR k (Lv.rF _ hv) hv (KC _ z) (h1.trans e))
def AcT{far:Int}{z g:I3}{T:I4}{N:Nat}(v:Lv far z)(vg:Lv far g)(d:det T=1)(e:mov z T=g)(n0:0<N)(eN:rF far N z=z):∃i,i<N∧rF far i z=g:=by
 have r:Rl far z g:=by
  rcases Mi v vg d e with⟨m,s⟩|⟨m,s⟩
  ·exact⟨m,by rw[←Fb,←s.mov,e]⟩
  ·have e2:rF far m g=z:=by rw[←Fb,←s.mov,←e,BZ d]
   exact Rl.symm vg ⟨m,e2⟩
 obtain⟨m,rfl⟩:=r
 obtain⟨i,hi,ei⟩:=AjV eN n0 m
 exact⟨i,hi,ei.symm⟩
abbrev Mh:DSp:=spec (fun f:I3=>[t3 f]) (fun f=>B3 1500 f∧(Bv f∨Sad f)) fun f d=>∃ts,d=.lst (ts.map t3)∧QL f ts
def UL(T:Txt K mg)
  (bB:Pm P w K mg base 1 "_law_root" Dm ["_law_number"] Hi)
  (ao:Pm P w K mg base 1 "_law_bar" Cm ["_law_form"] Dp)
  (cA:Pm P w K mg base 1 "_law_level" Dy ["_law_form","_law_far"] IV)
  (aY:Pm P w K mg base 2 "_law_behind" CT ["_law_form","_law_top"] Ih)
  (cT:Pm P w K mg base 1 "_law_bowl" Ed ["_law_form"] JL)
  : Pm P w K mg base 3 "_law_tops" FW ["_law_form"] Mh:=by
 obtain⟨f,fd,F⟩:=T.gM
 refine⟨f,fd,F,F.fn.okD Gp (by walk_at "lE") fun cdv A outer s H E hr=>⟨_,(Ad (Cj (O6 (Ag Ae ao (hr.mono ⋯) rfl (Aa (dv 0) Af)) Ab) (Ah (Av (Nr (Aa (Ag Ae cT (hr.mono ⋯) rfl (Aa (dv 0) Af)) Af)))) Bd) (Ad (Aq 1 Gp.nd (Ag Ae bB (hr.mono ⋯) rfl (Aa (Ag Ae ao (hr.mono ⋯) rfl (Aa (dv 0) Af)) Af))) (Ad (Fi PassesOwn.never (G9 (Gn (Ag Ae cA (hr.mono ⋯) rfl (Aa (dv 0) (Aa (dv 1) Af))))) (Ah (Aq 0 Gp.nd (Ag Ae aY (hr.mono ⋯) rfl (Aa (dv 0) (Aa (Vc T.fK (Aa (dv 1) (Aa (G8 T.bA (Aa (Ac (dv 0) Ab) Af)) Af))) Af)))))) (Ad (Vo 2 Gp.nd Af) (Ad (Fi PassesOwn.never (U5 2 (Ag1 hr.units (dv 0) (dv 2))) (Ad (Ql 2 (dv 0)) (Ah (Aq 0 Gp.nd (Ag Ae aY (hr.mono ⋯) rfl (Aa (dv 0) (Aa (dv 1) Af))))))) (Ah (Uu 2 (Av (dv 2))))))))),fun ds Q h=>?_⟩⟩
 obtain⟨f,rfl,⟨hb,hw⟩,q⟩:=h
 have hb:B3 1500 f:=hb
 have hw:Bv f∨Sad f:=hw
 have q:∀d,(∃ts,d=.lst (ts.map t3)∧QL f ts)→Q d:=q
 walk_at "go"
 rcases hw with hw|hS
 ·have:=hw.2
  refine Al f (hb.le ⋯) (ift (decide_eq_true this) (Bg f ⟨hb,hw⟩ ?_))
  rintro _ ⟨g,rfl,⟨_,t,dt,L,rfl⟩|⟨hS,_⟩⟩
  ·exact⟨Ax ⋯,q _ ⟨[mov f t],rfl,.inl ⟨hw,t,dt,L,rfl⟩⟩⟩
  ·have:=hS.pos
   omega
 have hp:=hS.pos
 refine Al f (hb.le ⋯) (DY (decide_eq_false ∅) (Al f (hb.le ⋯) (Bg (meas f) (M4 hS) ?_)))
 rintro _ ⟨far,rfl,hr',hfb⟩
 have f63:=Oe hr' hS.most
 have rG:=hr'.1
 have qu:Bt 7 far:=Bt.of ∅ ∅
 refine Fe (fun m ρ=>∃k,(∀i,i<k→¬Level (mov f (EI far f i)) far)∧ρ=[some (.is (t3 (mov f (EI far f k)))),some (.is (.int far)),none]∧K4 1500 far f (EI far f k)∧m=eM far (mov f (EI far f k))) _ ⟨0,fun _ h=>absurd h ∅,by show _=[some (En.is (t3 (mov f (1,0,0,1)))),_,_];rw[Dl],K4.start ⋯ hb,rfl⟩ ?_
 rintro m _ ⟨k,nl0,rfl,hI,rfl⟩
 have ek:EI far f (k+1)=Ak (EI far f k) (Ca (mov f (EI far f k)) (if far>ab (mov f (EI far f k)).2.2 then far else ab (mov f (EI far f k)).2.2)):=rfl
 obtain⟨t,et⟩:∃t,t=EI far f k:=⟨_,rfl⟩
 rw[←et]at hI ek ⊢
 have hd:=hI.1
 have hg:=hI.2.1
 walk_at "rd"
 refine Al (mov f t,far) (hg.le ⋯) ?_
 walk_at "rd"
 by_cases hL:Level (mov f t) far
 ·refine DY (by rw[decide_eq_true hL];rfl) ⟨Nat.zero_le _,?_⟩
  have hv:Lv far (mov f t):=⟨hS.mov hd,by rw[Bl hd];exact hr',hL⟩
  obtain⟨N,n0,nm,ne,nl⟩:=Kf hv
  refine Fe (fun m ρ=>∃i,i≤N∧ρ=[some (.is (t3 (rF far i (mov f t)))),some (.is (.int far)),some (.own (((List.range i).map fun k=>rF far k (mov f t)).map t3))]∧m=N-i) _ ⟨0,∅,rfl,rfl⟩ ?_
  rintro m _ ⟨i,iN,rfl,rfl⟩
  have hi':=Lv.rF i hv
  have bi:=Kr hi'.S hi'.r hi'.L
  walk_at "rd"
  refine⟨GX (rF far i (mov f t)),((List.range i).map fun k=>rF far k (mov f t)).map GX,rfl,by rw[Aaw],?_⟩
  have mem:GX (rF far i (mov f t))∈((List.range i).map fun k=>rF far k (mov f t)).map GX↔i=N:=by
   rw[V5,List.mem_map]
   constructor
   ·rintro⟨k,hk,e⟩
    have hk:=List.mem_range.mp hk
    rcases Nat.lt_or_ge i N with z|z
    ·exact absurd e.symm (AeP hv nl hk z)
    ·omega
   ·intro z
    exact⟨0,List.mem_range.mpr ∅,by rw[z,ne];rfl⟩
  by_cases e:i=N
  ·refine DY (by rw[decide_eq_true (mem.mpr e)];rfl) ?_
   walk_at "rd"
   subst e
   exact q _ ⟨_,rfl,.inr ⟨hS,t,far,i,hd,hr',hv,n0,ne,rfl⟩⟩
  ·refine ift (by rw[decide_eq_false fun z=>e (mem.mp z)];rfl) ?_
   walk_at "rd"
   have sz:i<sizeLine:=AaQ ∅
   refine⟨by simpa using sz,Al (rF far i (mov f t),far) ⟨bi.le ⋯,Gg hi'.S,qu.le ⋯⟩ ⟨N-(i+1),∅,i+1,∅,?_,rfl⟩⟩
   rw[List.range_succ,List.map_append,List.map_append,PJ]
   rfl
 ·refine ift (by rw[decide_eq_false hL];rfl) ?_
  have hst:=KN ⋯ hS hr' hI hL
  have em:(if ab (mov f t).2.2>far then ab (mov f t).2.2 else far)=(if far>ab (mov f t).2.2 then far else ab (mov f t).2.2):=by split<;>split<;>omega
  have qW:Bt 2000 (if far>ab (mov f t).2.2 then far else ab (mov f t).2.2):=by
   split
   ·exact qu.le ⋯
   ·exact(Xl hg.2.2).le ⋯
  refine Al (mov f t,if ab (mov f t).2.2>far then ab (mov f t).2.2 else far) ⟨hg.le ⋯,Gg (hS.mov hd),by rw[em];exact qW⟩ ?_
  dsimp only
  rw[em,Ay]
  refine⟨_,hst.2.1,k+1,fun i hi=>?_,by rw[ek],by rw[ek];exact hst.1,by rw[ek]⟩
  rcases Nat.lt_or_ge i k with z|z
  ·exact nl0 i z
  ·rw[show i=k by omega,←et];exact hL
abbrev QJ:DSp:=spec (fun p:I3×I3×List I3=>[t3 p.2.1,.lst (p.2.2.map t3)]) (fun p=>QL p.1 p.2.2∧B3 1500 p.2.1∧p.2.1.1≠0∧meas p.2.1=meas p.1) fun p d=>∃b:Bool,d=.bl b∧(b=true↔∃t,det t=1∧mov p.1 t=p.2.1)
def YZ(T:Txt K mg)
  (ao:Pm P w K mg base 1 "_law_bar" Cm ["_law_form"] Dp)
  (bB:Pm P w K mg base 1 "_law_root" Dm ["_law_number"] Hi)
  (cA:Pm P w K mg base 1 "_law_level" Dy ["_law_form","_law_far"] IV)
  (aY:Pm P w K mg base 2 "_law_behind" CT ["_law_form","_law_top"] Ih)
  (cT:Pm P w K mg base 1 "_law_bowl" Ed ["_law_form"] JL)
  : Pm P w K mg base 3 "_law_in" Hw ["_law_form","_law_tops_here"] QJ:=by
 obtain⟨f,fd,F⟩:=T.jQ
 refine⟨f,fd,F,F.fn.okD Jz (by walk_at "lE") fun cdv A outer s H E hr=>⟨_,(Ad (Aq 2 Jz.nd (Ag Ae ao (hr.mono ⋯) rfl (Aa (dv 0) Af))) (Ad (Cj (O6 (dv 2) Ab) (Ah (Av (Qh (Alx (Ac (dv 0) Ab) Ab) (Nv (AeI hr.units (Ag Ae cT (hr.mono ⋯) rfl (Aa (dv 0) Af)) (dv 1)))))) Bd) (Ad (Aq 3 Jz.nd (Ag Ae bB (hr.mono ⋯) rfl (Aa (dv 2) Af))) (Ad (Fi PassesOwn.never (G9 (Gn (Ag Ae cA (hr.mono ⋯) rfl (Aa (dv 0) (Aa (dv 3) Af))))) (Ah (Aq 0 Jz.nd (Ag Ae aY (hr.mono ⋯) rfl (Aa (dv 0) (Aa (Vc T.fK (Aa (dv 3) (Aa (G8 T.bA (Aa (Ac (dv 0) Ab) Af)) Af))) Af)))))) (Ah (Av (AeI hr.units (dv 0) (dv 1)))))))),fun ds Q h=>?_⟩⟩
 obtain⟨⟨f,h,ts⟩,rfl,⟨T,hb,h0,hm⟩,q⟩:=h
 have T:QL f ts:=T
 have hb:B3 1500 h:=hb
 have h0:h.1≠0:=h0
 have hm:meas h=meas f:=hm
 have q:∀d,(∃b:Bool,d=.bl b∧(b=true↔∃t,det t=1∧mov f t=h))→Q d:=q
 have comp:∀{t u:I4},det t=1→det u=1→mov f t=mov h u→∃x,det x=1∧mov f x=h:=fun{t u} dt du e=>⟨Ak t (Ba u),by rw[BR,Ef,dt,du];rfl,by rw[←Ay,e,BZ du]⟩
 walk_at "go"
 refine Al h (hb.le ⋯) ?_
 rcases T with⟨hw,t,dt,L,rfl⟩|⟨hS,t,far,N,dt,r,v,n0,eN,rfl⟩
 ·have:=hw.2
  refine ift (decide_eq_true ∅) ?_
  by_cases hp:0<h.1
  ·refine ift (decide_eq_true hp) (Bg h ⟨hb,hp,∅⟩ ?_)
   rintro _ ⟨g,rfl,G⟩
   have G:LF h g:=G
   refine⟨GX g,[GX (mov f t)],rfl,rfl,q _ ⟨_,rfl,?_⟩⟩
   rw[decide_eq_true_eq,List.mem_singleton]
   constructor
   ·intro e
    have e:=V2 e
    rcases G with⟨_,u,du,_,eu⟩|⟨hS,_⟩
    ·exact comp dt du (by rw[←e,eu])
    ·have:=hS.pos
     omega
   ·rintro⟨x,dx,ex⟩
    rw[LF.same (.inl ⟨hw,t,dt,L,rfl⟩) G dx ex]
  ·refine DY (decide_eq_false hp) (q _ ⟨_,rfl,?_⟩)
   refine⟨fun z=>(by cases z),fun⟨x,dx,ex⟩=>?_⟩
   have:=J9 hw dx
   rw[ex]at this
   exact absurd this.1 hp
 have hp:=hS.pos
 have hS':Sad h:=⟨by rw[hm];exact hS.no,∅,by rw[hm];exact hS.most⟩
 refine DY (decide_eq_false ∅) (Bg (meas h) (M4 hS') ?_)
 rintro _ ⟨aq,rfl,hr',hfb⟩
 rw[hm]at hr'
 obtain rfl:=hr'.uniq r
 rw[←hm]at hr'
 have f63:=Oe hr' hS'.most
 have rG:=hr'.1
 have qu:Bt 7 aq:=Bt.of ∅ ∅
 refine Fe (fun m ρ=>∃k,(∀i,i<k→¬Level (mov h (EI aq h i)) aq)∧ρ=[some (.is (t3 (mov h (EI aq h k)))),some (.is (.lst (((List.range N).map fun i=>rF aq i (mov f t)).map t3))),some (.is (.int (meas h))),some (.is (.int aq))]∧K4 1500 aq h (EI aq h k)∧m=eM aq (mov h (EI aq h k))) _ ⟨0,fun _ h=>absurd h ∅,by show _=[some (En.is (t3 (mov h (1,0,0,1)))),_,_,_];rw[Dl],K4.start ⋯ hb,rfl⟩ ?_
 rintro m _ ⟨k,nl0,rfl,hI,rfl⟩
 have ek:EI aq h (k+1)=Ak (EI aq h k) (Ca (mov h (EI aq h k)) (if aq>ab (mov h (EI aq h k)).2.2 then aq else ab (mov h (EI aq h k)).2.2)):=rfl
 obtain⟨u,et⟩:∃t,t=EI aq h k:=⟨_,rfl⟩
 rw[←et]at hI ek ⊢
 have hd:=hI.1
 have hg:=hI.2.1
 walk_at "rd"
 refine Al (mov h u,aq) (hg.le ⋯) ?_
 walk_at "rd"
 by_cases hL:Level (mov h u) aq
 ·refine DY (by rw[decide_eq_true hL];rfl) ?_
  have hv:Lv aq (mov h u):=⟨hS'.mov hd,by rw[Bl hd];exact hr',hL⟩
  walk_at "rd"
  refine⟨GX (mov h u),((List.range N).map fun i=>rF aq i (mov f t)).map GX,rfl,by rw[Aaw],q _ ⟨_,rfl,?_⟩⟩
  rw[decide_eq_true_eq,V5,List.mem_map]
  constructor
  ·rintro⟨i,_,e⟩
   refine comp (t:=Ak t (rT aq i (mov f t))) (by rw[BR,dt,N5];rfl) hd ?_
   rw[←Ay,Fb,e]
  ·rintro⟨x,dx,ex⟩
   obtain⟨i,hi,e⟩:=AcT (T:=Ak (Ba t) (Ak x u)) v hv (by rw[BR,BR,Ef,dt,dx,hd];rfl) (by rw[←Ay,BZ dt,←Ay,ex]) n0 eN
   exact⟨i,List.mem_range.mpr hi,e⟩
 ·refine ift (by rw[decide_eq_false hL];rfl) ?_
  have hst:=KN ⋯ hS' hr' hI hL
  have em:(if ab (mov h u).2.2>aq then ab (mov h u).2.2 else aq)=(if aq>ab (mov h u).2.2 then aq else ab (mov h u).2.2):=by split<;>split<;>omega
  have qW:Bt 2000 (if aq>ab (mov h u).2.2 then aq else ab (mov h u).2.2):=by
   split
   ·exact qu.le ⋯
   ·exact(Xl hg.2.2).le ⋯
  refine Al (mov h u,if ab (mov h u).2.2>aq then ab (mov h u).2.2 else aq) ⟨hg.le ⋯,Gg (hS'.mov hd),by rw[em];exact qW⟩ ?_
  dsimp only
  rw[em,Ay]
  refine⟨_,hst.2.1,k+1,fun i hi=>?_,by rw[ek],by rw[ek];exact hst.1,by rw[ek]⟩
  rcases Nat.lt_or_ge i k with z|z
  ·exact nl0 i z
  ·rw[show i=k by omega,←et];exact hL
theorem Xj:∀r s:List (List Int),G6 r s=true→G6 s r=false
 | [],[],h=>by simp[G6]at h
 | [],_::_,_=>rfl
 |_::_,[],h=>by simp[G6]at h
 | a::r,b::s,h=>by
  unfold G6 at h ⊢
  by_cases e:a=b
  ·rw[if_pos e]at h
   rw[if_pos e.symm]
   exact Xj r s h
  ·rw[if_neg e]at h
   rw[if_neg (Ne.symm e)]
   exact Uv _ _ h
theorem VJ:∀r s t:List (List Int),G6 s r=false→G6 t s=false→G6 t r=false
 | [],_,[],_,_=>rfl
 | [],_,_::_,_,_=>rfl
 |_::_,[],_,h,_=>by simp[G6]at h
 |_::_,_::_,[],_,h=>by simp[G6]at h
 | a::r,b::s,c::t,h1,h2=>by
  unfold G6 at h1 h2 ⊢
  by_cases e1:b=a
  ·rw[if_pos e1]at h1
   subst e1
   by_cases e2:c=b
   ·rw[if_pos e2]at h2 ⊢
    exact VJ r s t h1 h2
   ·rw[if_neg e2]at h2 ⊢
    exact h2
  ·rw[if_neg e1]at h1
   by_cases e2:c=b
   ·subst e2
    rw[if_neg e1]
    exact h1
   ·rw[if_neg e2]at h2
    have e3:c≠a:=fun z=>by
     subst z
     exact e1 (Yw _ _ h1 h2)
    rw[if_neg e3]
    exact UG _ _ _ h1 h2
def Aeu(nss:List (List (List Int))):(Rz nss).Pairwise fun a b=>G6 b a=false:=by
 unfold Rz
 rw[List.pairwise_map]
 exact Tv (bt:=fun i j=>G6 (nss.getD i []) (nss.getD j [])) ⟨fun _ _=>Xj _ _,fun _ _ _=>VJ _ _ _⟩ nss.length
def hdR(rs:List (List Int)):List Int:=rs.getD 0 []
def AeY(f:I3)(n:Int)(r:Nat):((Gq f n r).map hdR).Pairwise fun a b=>HT.lexLt b a=false:=by
 rw[List.pairwise_map]
 refine List.Pairwise.imp_of_mem (fun{a b} ha hb h=>?_) (Aeu _)
 obtain⟨F,_,rfl⟩:=Ii ha
 obtain⟨G,_,rfl⟩:=Ii hb
 have h:(if [G.1*G.2.2.1,G.1*G.2.2.2.2.1]=[F.1*F.2.2.1,F.1*F.2.2.2.2.1]then _ else HT.lexLt [G.1*G.2.2.1,G.1*G.2.2.2.2.1] [F.1*F.2.2.1,F.1*F.2.2.2.2.1])=false:=h
 show HT.lexLt [G.1*G.2.2.1,G.1*G.2.2.2.2.1] [F.1*F.2.2.1,F.1*F.2.2.2.2.1]=false
 by_cases e:[G.1*G.2.2.1,G.1*G.2.2.2.2.1]=[F.1*F.2.2.1,F.1*F.2.2.2.2.1]
 ·rw[e]
  exact K1 _
 ·rw[if_neg e]at h
  exact h
def Aas{f:I3}{n:Int}{r:Nat}{F:Fam}{g m:Int}{T:I4}(al:DX f n r)(n0:n≠0)(hF:F∈GD f n r)(g1:1≤g)(dT:det T=1)(Ft:K5 m (meas f) (mov f T))(ld:K6 T (g,0)=(F.1*F.2.2.1,F.1*F.2.2.2.2.1))(hm:g*g*m=n):g=F.1∧mov f T=F.2.1:=by
 obtain⟨l,hl,_⟩:=al
 obtain⟨m1,m2,_,m4,m5,_⟩:=JD hl hF
 obtain⟨q1,_,q3⟩:=Dg.mp m1
 have eg:=Ja ∅ q3
 have c1:=congrArg Prod.fst ld
 have c2:=congrArg Prod.snd ld
 simp only[K6,Int.mul_zero,Int.add_zero]at c1 c2
 obtain⟨gg,u1,u2⟩:=Acj (T:=T) (U:=F.2.2) q1 g1 dT m4 (by rw[Int.mul_comm,c1]) (by rw[Int.mul_comm,c2])
 subst gg
 have gn:F.1*F.1≠0:=Int.mul_ne_zero ∅ ∅
 have em:n.fdiv (F.1*F.1)=m:=Int.eq_of_mul_eq_mul_left gn (eg.trans hm.symm)
 have m0:m≠0:=fun z=>n0 (by rw[←hm,z];omega)
 rw[em]at m2
 have fo:=(Fd m0).mp m2
 have:=AbI m0 dT m4 Ft (by rw[m5];exact fo) u1 u2
 exact⟨rfl,by rw[←this,m5]⟩
def AdC{f:I3}{n:Int}{r:Nat}(al:DX f n r)(n0:n≠0):((Gq f n r).map hdR).Nodup:=by
 unfold List.Nodup
 rw[List.pairwise_map,List.pairwise_iff_getElem]
 intro i j hi hj hij e
 obtain⟨F,hF,eF⟩:=Ii (List.getElem_mem hi)
 obtain⟨G,hG,eG⟩:=Ii (List.getElem_mem hj)
 rw[eF,eG]at e
 have e:[F.1*F.2.2.1,F.1*F.2.2.2.2.1]=[G.1*G.2.2.1,G.1*G.2.2.2.2.1]:=e
 injection e with e1 e
 injection e with e2 _
 obtain⟨l,hl,_⟩:=id al
 obtain⟨m1,m2,_,m4,m5,_⟩:=JD hl hF
 obtain⟨q1,_,q3⟩:=Dg.mp m1
 have eg:=Ja ∅ q3
 have m0:n.fdiv (F.1*F.1)≠0:=fun z=>n0 (by rw[←eg,z];omega)
 have fo:=(Fd m0).mp m2
 obtain⟨_,k2⟩:=Aas (T:=F.2.2) (g:=F.1) al n0 hG q1 m4 (by rw[m5];exact fo) (by
  simp only[K6,Int.mul_zero,Int.add_zero,Prod.mk.injEq]
  exact⟨by rw[Int.mul_comm,e1],by rw[Int.mul_comm,e2]⟩) eg
 have:=Zm n0 (by rw[List.getElem?_eq_getElem hi,eF]) (by rw[List.getElem?_eq_getElem hj,eG]) (by rw[←m5];exact k2)
 omega
abbrev Jt:DSp:=spec (fun p:I3×I2=>[t3 p.1,t2 p.2]) (fun p=>val p.1 p.2≠0∧(val p.1 p.2).natAbs≤400∧B3 800 p.1∧B2 8900 p.2) fun p d=>∃(g m:Int)(T:I4),d=t2 (g,(mov p.1 T).2.1)∧1≤g∧det T=1∧K5 m (meas p.1) (mov p.1 T)∧K6 T (g,0)=p.2∧g*g*m=val p.1 p.2
def Um(T:Txt K mg)
  (jD:Pm P w K mg base 1 "_law_shares" DK ["_law_one","_law_other"] Kp)
  (cB:Pm P w K mg base 2 "_law_moved" Dw ["_law_form","_law_turn_here"] GP)
  : Pm P w K mg base 3 "_law_pair" Fx ["_law_form","_law_point"] Jt:=by
 obtain⟨f,fd,F⟩:=T.gK
 refine⟨f,fd,F,F.fn.okD Ey (by walk_at "lE") fun cdv A outer s H E hr=>⟨_,(Ad (Jq (Ag Ae jD (hr.mono ⋯) rfl (Aa (Ac (dv 1) Ab) (Aa (Ac (dv 1) Ab) Af))) (Lx (n:=3) rfl (Bk (Bj 2 Ey.nd) (Bk (Bj 3 Ey.nd) (Bk (Bj 4 Ey.nd) Ht))))) (Ad (Aq 5 Ey.nd (Bw (Aa (BW (Ac (dv 1) Ab) (dv 2)) (Aa (BJ Ab (dv 4)) (Aa (BW (Ac (dv 1) Ab) (dv 2)) (Aa (dv 3) Af)))))) (Ad (Aq 6 Ey.nd (Ag Ae cB (hr.mono ⋯) rfl (Aa (dv 0) (Aa (dv 5) Af)))) (Ah (Av (Bw (Aa (dv 2) (Aa (CV (Ac (dv 6) Ab) (Aj Ab (G8 T.bA (Aa (Ac (dv 6) Ab) Af)))) Af)))))))),fun ds Q h=>?_⟩⟩
 obtain⟨⟨f,x,y⟩,rfl,⟨n0,n4,hf,hx,hy⟩,q⟩:=h
 obtain⟨n,hv⟩:∃n,val f (x,y)=n:=⟨_,rfl⟩
 have nn:n≠0:=by rw[←hv];exact n0
 have n4:n.natAbs≤400:=by rw[←hv];exact n4
 have hf:B3 800 f:=hf
 have hx:Bt 8900 x:=hx
 have hy:Bt 8900 y:=hy
 have q:∀d,(∃(g m:Int)(T:I4),d=t2 (g,(mov f T).2.1)∧1≤g∧det T=1∧K5 m (meas f) (mov f T)∧K6 T (g,0)=(x,y)∧g*g*m=val f (x,y))→Q d:=q
 walk_at "go"
 refine Bg (x,y) ⟨hx,hy⟩ ?_
 rintro _ ⟨u,v,rfl,b,bu,bv⟩
 walk_at "rd"
 obtain⟨g,eg⟩:∃g:Int,((x.gcd y:Nat):Int)=g:=⟨_,rfl⟩
 have b:u*x+v*y=((x.gcd y:Nat):Int):=b
 have gx:g∣x:=by rw[←eg];exact Int.gcd_dvd_left ..
 have gy:g∣y:=by rw[←eg];exact Int.gcd_dvd_right ..
 have g0:1≤g:=by
  rcases Int.lt_or_le 0 g with z|z
  ·omega
  ·have z0:Int.gcd x y=0:=∅
   obtain⟨rfl,rfl⟩:=Int.gcd_eq_zero_iff.mp z0
   exact absurd (show n=0 by rw[←hv];simp[val]) nn
 have bg:Bt 8900 g:=by
  rw[←eg]
  unfold Bt at *
  by_cases z:x=0
  ·subst z
   rw[Int.gcd_zero_left]
   simpa using hy
  ·have:=Nat.le_of_dvd (show 0<x.natAbs by omega) (Int.gcd_dvd_natAbs_left x y)
   omega
 rw[eg]at b ⊢
 obtain⟨m,hm,m0,dT0,e1,dT,F,ld⟩:=Ae3 hv nn g0 gx gy b
 have bd:∀{z:Int},Bt 8900 z→g∣z→Bt 8900 (z.fdiv g):=fun{z} bz ⟨k,hk⟩=>by
  rw[hk,Int.mul_fdiv_cancel_left _ ∅]
  exact Kw (t:=k) (b:=g) (by rw[Int.mul_comm,←hk];exact bz) ∅
 have bT0:B4 20000 (CQ x y g u v):=⟨(bd hx gx).le ⋯,bv.neg,(bd hy gy).le ⋯,bu⟩
 have bF:=(B3.mov hf bT0).le (m:=41000) ⋯
 have two:Bt 2 2:=Bt.ak ⋯
 rw[Int.zero_sub]
 refine⟨Bt.aU bg ∅,Bt.aU bg ∅,Ax ⋯,Al (f,CQ x y g u v) ⟨hf.le ⋯,bT0.le ⋯⟩ ?_⟩
 have a0:(mov f (CQ x y g u v)).1≠0:=by rw[e1];exact m0
 have fb:=(ZD a0).1
 have eT:(mov f (Ak (CQ x y g u v) (1,Ld (mov f (CQ x y g u v)),0,1))).2.1=(mov f (CQ x y g u v)).2.1+2*(mov f (CQ x y g u v)).1*Ld (mov f (CQ x y g u v)):=by
  rw[←Ay]
  generalize mov f (CQ x y g u v)=G
  obtain⟨G1,G2,G3⟩:=G
  simp only[mov,mid]
  grind
 rw[fb]at eT
 walk_at "rd"
 generalize hG:mov f (CQ x y g u v)=G at *
 have ea:2*(if G.1<0 then -G.1 else G.1)=((2*G.1).natAbs:Int):=by split<;>omega
 have ba:Bt 41000 (if G.1<0 then -G.1 else G.1):=by
  split
  ·exact bF.1.neg
  ·exact bF.1
 refine⟨two.aj ba,∅,Ax ⋯,q _ ⟨g,m,Ak (CQ x y g u v) (1,Ld G,0,1),?_,g0,dT,F,ld,by rw[hv];exact hm⟩⟩
 rw[ea,eT]
def Mx(f:I3)(n:Int)(p:I2):Prop:=1≤p.1∧∃m,p.1*p.1*m=n∧∃h,K5 m (meas f) h∧h.2.1=p.2∧∃t,det t=1∧mov f t=h
def Lt2(p q:I2):Prop:=p.1<q.1∨(p.1=q.1∧p.2<q.2)
abbrev Kv:DSp:=spec (fun p:I3×Int=>[t3 p.1,.int p.2]) (fun p=>B3 1400 p.1∧(Bv p.1∨Sad p.1)∧p.2≠0∧p.2.natAbs≤400∧Bt 1300 (meas p.1)) fun p d=>∃l:List I2,d=.lst (l.map t2)∧l.Pairwise Lt2∧∀v,v∈l↔Mx p.1 p.2 v
def Zu{f:I3}{n:Int}{p:I2}(n0:n≠0)(n4:n.natAbs≤400)(h:Mx f n p):p.1≤20∧n.fmod (p.1*p.1)=0:=by
 obtain⟨h1,m,e,_⟩:=h
 have m0:m≠0:=fun z=>n0 (by rw[←e,z];omega)
 constructor
 ·rcases Int.lt_or_le 20 p.1 with z|z
  ·exfalso
   have k1:=Int.mul_le_mul (show 21≤p.1 by omega) (show 21≤p.1 by omega) ∅ ∅
   have k2:n.natAbs=(p.1*p.1).natAbs*m.natAbs:=by rw[←e,Int.natAbs_mul]
   have k3:(p.1*p.1).natAbs*1≤(p.1*p.1).natAbs*m.natAbs:=Nat.mul_le_mul_left _ ∅
   omega
  ·exact z
 ·rw[←e]
  exact Int.mul_fmod_right ..
def Xg(T:Txt K mg)
  (ao:Pm P w K mg base 1 "_law_bar" Cm ["_law_form"] Dp)
  (lM:Pm P w K mg base 3 "_law_tops" FW ["_law_form"] Mh)
  (oK:Pm P w K mg base 3 "_law_in" Hw ["_law_form","_law_tops_here"] QJ)
  : Pm P w K mg base 4 "_law_due" Gv ["_law_form","_law_number"] Kv:=by
 obtain⟨f,fd,F⟩:=T.iH
 refine⟨f,fd,F,F.fn.okD CG (by walk_at "lE") fun cdv A outer s H E hr=>⟨_,(Ad (Aq 2 CG.nd (Ag Ae ao (hr.mono ⋯) rfl (Aa (dv 0) Af))) (Ad (Aq 3 CG.nd (Ag Ae lM (hr.mono ⋯) rfl (Aa (dv 0) Af))) (Ad (Vo 4 CG.nd Af) (Ad (Oc PassesOwn.never rfl (AaP rfl T.bC (Aa Ab (Aa Ab Af))) (Bj 5 CG.nd) (Ah (Cj (JV hr.units (CV (dv 1) (Aj (dv 5) (dv 5))) Ab) (Ad (Aq 6 CG.nd (BW (dv 1) (Aj (dv 5) (dv 5)))) (Ah (Oc PassesOwn.never rfl (ZC rfl T.bC (Aa (Aj Ab (G8 T.bA (Aa (dv 6) Af))) Af)) (Bj 7 CG.nd) (Ad (Jq (AbM T.bW (Aa (BJ (Aj (dv 7) (dv 7)) (dv 2)) (Aa (Aj Ab (dv 6)) Af))) (Lx (n:=2) rfl (Bk (Bj 8 CG.nd) (Bk (Bj 9 CG.nd) Ht)))) (Ah (Cj (DW.dt (Yv (JV hr.units (dv 9) Ab) (Vs (Gn (Ag Ae oK (hr.mono ⋯) rfl (Aa (Bw (Aa (dv 6) (Aa (dv 7) (Aa (dv 8) Af)))) (Aa (dv 3) Af))))))) (Ah (Ql 4 (Bw (Aa (dv 5) (Aa (dv 7) Af))))) Bd)))))) Bd))) (Ah (Uu 4 (Av (dv 4)))))))),fun ds Q h=>?_⟩⟩
 obtain⟨⟨f,n⟩,rfl,⟨hf,hk,n0,n4,bD⟩,q⟩:=h
 have hf:B3 1400 f:=hf
 have hk:Bv f∨Sad f:=hk
 have n0:n≠0:=n0
 have n4:n.natAbs≤400:=n4
 have bD:Bt 1300 (meas f):=bD
 have q:∀d,(∃l:List I2,d=.lst (l.map t2)∧l.Pairwise Lt2∧∀v,v∈l↔Mx f n v)→Q d:=q
 have four:Bt 3 4:=Bt.ak ⋯
 have two:Bt 2 2:=Bt.ak ⋯
 walk_at "go"
 refine Al f (hf.le ⋯) (Bg f ⟨hf.le ⋯,hk⟩ ?_)
 rintro _ ⟨ts,rfl,T⟩
 have T:QL f ts:=T
 obtain⟨D,eD⟩:∃D,meas f=D:=⟨_,rfl⟩
 rw[eD]at bD ⊢
 refine⟨Nat.zero_le _,?_⟩
 refine KQ (ups 1 20) (fun R hR=>?_) (fun k ρ=>∃(l:List I2)(y1 y2 y3 y4 y5:Option En),ρ=[some (.is (t3 f)),some (.is (.int n)),some (.is (.int D)),some (.is (.lst (ts.map t3))),some (.own (l.map t2)),y1,y2,y3,y4,y5]∧l.Pairwise Lt2∧l.length≤800*k∧∀p:I2,p∈l↔Mx f n p∧p.1<1+k) ?_ ?_ ?_
 ·walk_at "rd"
  exact⟨⟨⋯,⋯,⋯,⋯⟩,hR⟩
 ·exact⟨[],none,none,none,none,none,rfl,.nil,Nat.zero_le _,fun p=>⟨fun z=>(by cases z),fun⟨⟨h1,_⟩,h2⟩=>∅⟩⟩
 ·rintro k d _ hk' ⟨l,y1,y2,y3,y4,y5,rfl,up,len,mem⟩
  obtain⟨kN,rfl⟩:=Nf hk'
  obtain⟨g,eg⟩:∃g:Int,1+(k:Int)=g:=⟨_,rfl⟩
  rw[eg]
  have g1:1≤g:=∅
  have g20:g≤20:=∅
  have bg:Bt 6 g:=Bt.of ∅ ∅
  have gg:g*g≠0:=Int.mul_ne_zero ∅ ∅
  walk_at "rd"
  refine⟨bg.aj bg,gg,?_⟩
  by_cases hd:n.fmod (g*g)=0
  ·refine ift (decide_eq_true hd) ⟨bg.aj bg,Bt.aU (bg.mul bg) gg,?_⟩
   have em:=Ja ∅ hd
   obtain⟨m,hm⟩:∃m,n.fdiv (g*g)=m:=⟨_,rfl⟩
   rw[hm]at em ⊢
   have m0:m≠0:=fun z=>n0 (by rw[←em,z];omega)
   have m4:m.natAbs≤400:=by
    have h1:n.natAbs=(g*g).natAbs*m.natAbs:=by rw[←em,Int.natAbs_mul]
    have h3:1*m.natAbs≤(g*g).natAbs*m.natAbs:=Nat.mul_le_mul_right _ ∅
    omega
   have bm:Bt 10 m:=Bt.of ∅ ∅
   have ea:2*(if m<0 then -m else m)=2*(m.natAbs:Int):=by split<;>omega
   have bam:Bt 10 (if m<0 then -m else m):=by split<;>exact Bt.of ∅ ∅
   refine KQ (ups 0 (2*m.natAbs)) (fun R hR=>?_) (fun j ρ=>∃(l':List I2)(y3 y4 y5:Option En),ρ=[some (.is (t3 f)),some (.is (.int n)),some (.is (.int D)),some (.is (.lst (ts.map t3))),some (.own (l'.map t2)),some (.is (.int g)),some (.is (.int m)),y3,y4,y5]∧l'.Pairwise Lt2∧l'.length≤800*k+j∧∀p:I2,p∈l'↔Mx f n p∧(p.1<g∨(p.1=g∧p.2<j))) ?_ ?_ ?_
   ·walk_at "rd"
    rw[ea]
    have e2:(2*(m.natAbs:Int)).toNat=2*m.natAbs:=∅
    rw[e2]
    exact⟨two.aj bam,⟨∅,∅⟩,hR⟩
   ·refine⟨l,_,_,_,rfl,up,len,fun p=>?_⟩
    rw[mem]
    refine and_congr_right fun hp=>?_
    constructor
    ·intro z
     exact .inl ∅
    ·rintro(z|⟨z,z2⟩)
     ·omega
     ·obtain⟨_,_,_,h,Fh,e,_⟩:=hp
      have:=Fh.lo
      omega
   ·rintro j d _ hj ⟨l',y3,y4,y5,rfl,up',len',mem'⟩
    obtain⟨jN,rfl⟩:=Nf hj
    obtain⟨b,eb⟩:∃b:Int,0+(j:Int)=b:=⟨_,rfl⟩
    rw[eb]
    have bb:Bt 11 b:=Bt.of ∅ ∅
    have stepM:∀p:I2,(p.1<g∨(p.1=g∧p.2<((j+1:Nat):Int)))↔(p.1<g∨(p.1=g∧p.2<(j:Int)))∨p=(g,b):=fun p=>by
     obtain⟨px,py⟩:=p
     simp only[Prod.mk.injEq]
     omega
    have skip:¬Mx f n (g,b)→∀p:I2,p∈l'↔Mx f n p∧(p.1<g∨(p.1=g∧p.2<((j+1:Nat):Int))):=fun no p=>by
     rw[mem',stepM]
     refine and_congr_right fun hp=>⟨.inl,fun z=>?_⟩
     rcases z with z|rfl
     ·exact z
     ·exact absurd hp no
    have m4':4*m≠0:=∅
    walk_at "rd"
    refine⟨bb.aj bb,four.aj bm,_,_,rfl,Bt.aU (four.mul bm) m4',?_⟩
    have fd:=Int.fmod_add_mul_fdiv (b*b-D) (4*m)
    obtain⟨c,ec⟩:∃c,(b*b-D).fdiv (4*m)=c:=⟨_,rfl⟩
    rw[ec]at fd ⊢
    by_cases hr:(b*b-D).fmod (4*m)=0
    ·rw[hr]at fd
     have F:K5 m (meas f) (m,b,c):=⟨rfl,by show 0≤b;omega,by show b<2*(m.natAbs:Int);omega,by rw[eD];show b*b-4*m*c=D;omega⟩
     refine ift (decide_eq_true hr) ⟨Ax ⋯,Bg (f,(m,b,c),ts) ⟨T,(Qz (k:=1300) ⋯ m4 m0 (by rw[eD];exact bD) F).le ⋯,m0,F.me⟩ ?_⟩
     rintro _ ⟨bo,rfl,hbo⟩
     have hbo:bo=true↔∃t,det t=1∧mov f t=(m,b,c):=hbo
     have sz:l'.length<sizeLine:=by rw[sizeLine_eq];omega
     refine Gj (fun z=>⟨Ax ⋯,sz,l'++[(g,b)],_,_,_,by rw[List.map_append];rfl,?_,by rw[List.length_append,List.length_singleton];omega,fun p=>?_⟩) (fun z=>⟨l',_,_,_,rfl,up',∅,skip fun hd=>z ?_⟩)
     ·rw[List.pairwise_append]
      refine⟨up',List.pairwise_singleton ..,fun x hx y hy=>?_⟩
      rw[List.mem_singleton]at hy
      subst hy
      have:=((mem' x).mp hx).2
      show x.1<g∨(x.1=g∧x.2<b)
      omega
     ·rw[List.mem_append,mem',List.mem_singleton,stepM]
      constructor
      ·rintro(⟨h1,h2⟩|rfl)
       ·exact⟨h1,.inl h2⟩
       ·exact⟨⟨g1,m,em,(m,b,c),F,rfl,hbo.mp z⟩,.inr rfl⟩
      ·rintro⟨h1,h2|h2⟩
       ·exact .inl ⟨h1,h2⟩
       ·exact .inr h2
     ·obtain⟨_,m',em',h,Fh,eh,ht⟩:=hd
      have e1:m'=m:=Int.eq_of_mul_eq_mul_left gg (em'.trans em.symm)
      subst e1
      have eh':h=(m',b,c):=by
       obtain⟨ha,hb,hc⟩:=h
       have k1:ha=m':=Fh.a
       have k2:hb=b:=eh
       subst k1 k2
       have k3:hb*hb-4*ha*hc=meas f:=Fh.me
       have k4:hb*hb-4*ha*c=meas f:=F.me
       have:4*ha*hc=4*ha*c:=∅
       rw[Int.eq_of_mul_eq_mul_left m4' this]
      exact hbo.mpr (by rw[←eh'];exact ht)
    ·refine DY (decide_eq_false hr) ⟨l',_,_,_,rfl,up',∅,skip fun hd=>hr ?_⟩
     obtain⟨_,m',em',h,Fh,eh,ht⟩:=hd
     have e1:m'=m:=Int.eq_of_mul_eq_mul_left gg (em'.trans em.symm)
     subst e1
     obtain⟨ha,hb,hc⟩:=h
     have k1:ha=m':=Fh.a
     have k2:hb=b:=eh
     subst k1 k2
     have k3:hb*hb-4*ha*hc=meas f:=Fh.me
     have k4:hb*hb-D=4*ha*hc:=∅
     rw[k4]
     exact Int.mul_fmod_right ..
   ·rintro _ ⟨l',y3,y4,y5,rfl,up',len',mem'⟩
    refine⟨l',_,_,_,_,_,rfl,up',by rw[Ky]at len';omega,fun p=>?_⟩
    rw[mem']
    refine and_congr_right fun hp=>?_
    constructor
    ·rintro(z|⟨z,_⟩)<;>omega
    ·intro z
     rcases Int.lt_or_le p.1 g with w|w
     ·exact .inl w
     ·have e:p.1=g:=∅
      refine .inr ⟨e,?_⟩
      obtain⟨_,m',em',h,Fh,eh,_⟩:=hp
      rw[e]at em'
      have:m'=m:=Int.eq_of_mul_eq_mul_left gg (em'.trans em.symm)
      subst this
      have:=Fh.hi
      rw[Ky]
      omega
  ·refine DY (decide_eq_false hd) ⟨l,_,_,_,_,_,rfl,up,∅,fun p=>?_⟩
   rw[mem]
   refine and_congr_right fun hp=>⟨fun z=>by omega,fun z=>?_⟩
   rcases Int.lt_or_le p.1 g with w|w
   ·omega
   ·have e:p.1=g:=∅
    have:=(Zu n0 n4 hp).2
    rw[e]at this
    exact absurd this hd
 ·rintro _ ⟨l,y1,y2,y3,y4,y5,rfl,up,len,mem⟩
  walk_at "rd"
  refine q _ ⟨l,rfl,up,fun v=>?_⟩
  rw[mem,Ky]
  exact⟨fun z=>z.1,fun z=>⟨z,by have:=(Zu n0 n4 z).1;omega⟩⟩
structure Z4(f:I3)(n:Int):Prop where
 n0:n≠0
 n4:n.natAbs≤400
 me:(meas f<0∧0<f.1)∨(0≤meas f∧meas f≤4000)
 bt:B3 90 f
abbrev Li:DSp:=spec (fun ns:List Int=>[.lst (ns.map Dt.int)]) (fun _=>True) fun _ d=>∃f n,d=.lst [t3 f,.int n]∧Z4 f n
def AaZ{f:I3}{k:Int}:meas (f.1*k,f.2.1*k,f.2.2*k)=meas f*k*k:=by
 simp only[meas]
 grind
def RN(T:Txt K mg)
  (j7:Pm P w K mg base 2 "_law_taken" Et ["_law_script","_law_most"] Lh)
  (aC:Pm P w K mg base 1 "_law_cell" Eh ["_law_script","_law_k"] Hr)
  (ao:Pm P w K mg base 1 "_law_bar" Cm ["_law_form"] Dp)
  : Pm P w K mg base 3 "_law_asked" Er ["_law_script"] Li:=by
 obtain⟨f,fd,F⟩:=T.fJ
 refine⟨f,fd,F,F.fn.okD Cp (by walk_at "lE") fun cdv A outer s H E hr=>⟨_,(Ad (Jq (Ag Ae j7 (hr.mono ⋯) rfl (Aa (dv 0) (Aa Ab Af))) (Acq (n:=2) rfl (Bk (Bj 1 Cp.nd) (Bk (Bj 2 Cp.nd) Ht)))) (Ad (Aq 3 Cp.nd (Aj (Aj (Ac (dv 2) Ab) (dv 1)) (dv 1))) (Ad (Cj (JV hr.units (CV (Ag Ae aC (hr.mono ⋯) rfl (Aa (dv 0) (Aa Ab Af))) Ab) Ab) (Ad (Aq 3 Cp.nd (Bs Ab (CV (BW (Ag Ae aC (hr.mono ⋯) rfl (Aa (dv 0) (Aa Ab Af))) Ab) Ab))) (Ad (Cj (JV hr.units (CV (BW (Ag Ae aC (hr.mono ⋯) rfl (Aa (dv 0) (Aa Ab Af))) Ab) Ab) Ab) (Ah (Aq 3 Cp.nd (BJ Ab (dv 3)))) Bd) (Ad (Aq 4 Cp.nd (Bs Ab (CV (Ag Ae aC (hr.mono ⋯) rfl (Aa (dv 0) (Aa Ab Af))) Ab))) (Ah (Cj (Akj (Aj (Aj (Ag Ae ao (hr.mono ⋯) rfl (Aa (dv 2) Af)) (dv 4)) (dv 4)) Ab) (Ah (Aq 2 Cp.nd (Bw (Aa (Aj (Ac (dv 2) Ab) (dv 4)) (Aa (Aj (Ac (dv 2) Ab) (dv 4)) (Aa (Aj (Ac (dv 2) Ab) (dv 4)) Af)))))) Bd))))) Bd) (Ah (Av (Nr (Aa (dv 2) (Aa (dv 3) Af)))))))),fun ds Q h=>?_⟩⟩
 obtain⟨ns,rfl,_,q⟩:=h
 have q:∀d,(∃f n,d=.lst [t3 f,.int n]∧Z4 f n)→Q d:=q
 walk_at "go"
 refine Bg (ns,400) ⟨(show(1:Int)≤400 by decide),(show(400:Int)≤400 by decide)⟩ ?_
 rintro _ ⟨o,f,rfl,T⟩
 have T:Taken o f:=T
 have bo:Bt 6 o:=Bt.of (by have:=T.o1;omega) (by have:=T.o2;omega)
 have s2:2≤sizeLine:=Ax ⋯
 have s3:3≤sizeLine:=Ax ⋯
 walk_at "rd"
 have nn:f.1*o*o≠0:=Int.mul_ne_zero (Int.mul_ne_zero T.a0 (by have:=T.o1;omega)) (by have:=T.o1;omega)
 have r8:=Ci ((ns.getD (Int.toNat 3) 0).fdiv 8) (m:=400) ⋯
 have r6:=Ci (ns.getD (Int.toNat 4) 0) (m:=6) ⋯
 refine⟨T.bt.1.aj bo,(T.bt.1.mul bo).aj bo,Hl ns 3 ⋯ ⟨⋯,Gj (fun _=>Hl ns 3 ⋯ ⟨⟨⋯,⋯⟩,⋯,?_⟩) (fun _=>⟨s2,q _ ⟨f,_,rfl,nn,T.n4,T.me,T.bt.le ⋯⟩⟩)⟩⟩
 obtain⟨m,em⟩:∃m,1+((ns.getD (Int.toNat 3) 0).fdiv 8).fmod 400=m:=⟨_,rfl⟩
 obtain⟨k,ek⟩:∃k,1+(ns.getD (Int.toNat 4) 0).fmod 6=k:=⟨_,rfl⟩
 rw[em]
 have bk:Bt 4 k:=Bt.of ∅ ∅
 have bM:Bt 170 (meas f):=((T.bt.2.1.mul T.bt.2.1).sub (((show Bt 3 4 from Bt.ak ⋯).mul T.bt.1).mul T.bt.2.2)).le ⋯
 have rest:∀n:Int,n≠0→n.natAbs≤400→IntMulOk (meas f) k∧IntMulOk (meas f*k) k∧if decide (meas f*k*k≤4000)=true then IntMulOk f.1 k∧IntMulOk f.2.1 k∧IntMulOk f.2.2 k∧3≤sizeLine∧2≤sizeLine∧Q (.lst [.tup [.int (f.1*k),.int (f.2.1*k),.int (f.2.2*k)],.int n])else 2≤sizeLine∧Q (.lst [t3 f,.int n]):=fun n n0 n4=>by
  refine⟨bM.aj bk,(bM.mul bk).aj bk,Gj (fun h=>?_) (fun _=>⟨s2,q _ ⟨f,n,rfl,n0,n4,T.me,T.bt.le ⋯⟩⟩)⟩
  have h:=of_decide_eq_true h
  refine⟨T.bt.1.aj bk,T.bt.2.1.aj bk,T.bt.2.2.aj bk,s3,s2,q _ ⟨(f.1*k,f.2.1*k,f.2.2*k),n,rfl,n0,n4,?_,(T.bt.1.mul bk).le ⋯,(T.bt.2.1.mul bk).le ⋯,(T.bt.2.2.mul bk).le ⋯⟩⟩
  rw[AaZ]
  have kk:0<k*k:=Int.mul_pos ∅ ∅
  rcases T.me with⟨h1,h2⟩|⟨h1,h2⟩
  ·refine .inl ⟨?_,Int.mul_pos h2 ∅⟩
   have:=Int.mul_pos (show 0 < -meas f by omega) kk
   have e:-meas f*(k*k)=-(meas f*k*k):=by grind
   omega
  ·refine .inr ⟨?_,h⟩
   have:=Int.mul_nonneg h1 (show 0≤k*k by omega)
   rw[Int.mul_assoc]
   exact this
 walk_at "rd"
 refine Hl ns 3 ⋯ ⟨⟨⋯,⋯⟩,⋯,Gj (fun _=>Hl ns 4 ⋯ ⟨⋯,Al f (T.bt.le ⋯) ?_⟩) (fun _=>Hl ns 4 ⋯ ⟨⋯,Al f (T.bt.le ⋯) ?_⟩)⟩
 all_goals
  dsimp only
  rw[ek]
 ·exact rest (0-m) ∅ ∅
 ·exact rest m ∅ ∅
def Af9{α:Type}[DecidableEq α]{l m:List α}(hl:l.Nodup)(hm:m.Nodup)(h:∀x,x∈l↔x∈m):l.Perm m:=by
 rw[List.perm_iff_count]
 intro a
 rw[List.Nodup.count hl,List.Nodup.count hm]
 by_cases z:a∈l
 ·rw[if_pos z,if_pos ((h a).mp z)]
 ·rw[if_neg z,if_neg fun y=>z ((h a).mpr y)]
def U0{f:I3}{n:Int}{r:Nat}{F:Fam}(al:DX f n r)(n0:n≠0)(hF:F∈GD f n r):∃m,F.1*F.1*m=n∧K5 m (meas f) F.2.1:=by
 obtain⟨l,hl,_⟩:=al
 obtain⟨m1,m2,_⟩:=JD hl hF
 obtain⟨q1,_,q3⟩:=Dg.mp m1
 have eg:=Ja ∅ q3
 have m0:n.fdiv (F.1*F.1)≠0:=fun z=>n0 (by rw[←eg,z];omega)
 exact⟨_,eg,(Fd m0).mp m2⟩
def Ng(F:Fam):List Int:=[F.1,F.2.1.2.1]
def AaU{f g:I3}{n:Int}{r:Nat}{T:I4}(al:DX f n r)(n0:n≠0)(sr:Sq n.natAbs r)(dT:det T=1)(eT:mov g T=f)(p:I2):Mx g n p↔∃F∈GD f n r,(F.1,F.2.1.2.1)=p:=by
 have em:meas f=meas g:=by rw[←eT,Bl dT]
 constructor
 ·rintro⟨h1,m,hm,h,Fh,eb,t,dt,et⟩
  have m0:m≠0:=fun z=>n0 (by rw[←hm,z];omega)
  rw[←em]at Fh
  obtain⟨s1,s2⟩:=Aap h1 hm n0 sr
  obtain⟨t',ht⟩:=AcJ (t:=Ak (Ba T) t) al s1 (by rw[s2];exact(Fd m0).mpr Fh) (by rw[BR,Ef,dT,dt];rfl) (by rw[←Ay,←eT,BZ dT,et])
  exact⟨_,Ajq h1 hm n0 sr m0 Fh ht,Prod.ext rfl eb⟩
 ·rintro⟨F,hF,rfl⟩
  obtain⟨m,hm,Fo⟩:=U0 al n0 hF
  obtain⟨l,hl,_⟩:=id al
  obtain⟨m1,_,_,m4,m5,_⟩:=JD hl hF
  rw[em]at Fo
  exact⟨(Dg.mp m1).1,m,hm,_,Fo,rfl,Ak T F.2.2,by rw[BR,dT,m4];rfl,by rw[←Ay,eT,m5]⟩
def Aca{f:I3}{n:Int}{r:Nat}(al:DX f n r)(n0:n≠0):((GD f n r).map Ng).Nodup:=by
 unfold List.Nodup
 rw[List.pairwise_map]
 refine List.Pairwise.imp_of_mem (fun{F G} hF hG h e=>h ?_) (Q6 n0)
 unfold Ng at e
 injection e with e1 e
 injection e with e2 _
 obtain⟨m,hm,A⟩:=U0 al n0 hF
 obtain⟨m',hm',B⟩:=U0 al n0 hG
 rw[←e1]at hm'
 have g1:F.1*F.1≠0:=fun z=>n0 (by rw[←hm,z,Int.zero_mul])
 obtain rfl:=Int.eq_of_mul_eq_mul_left g1 (hm.trans hm'.symm)
 have a1:=A.a
 have a2:=B.a
 have d1:=A.me
 have d2:=B.me
 have m0:m≠0:=fun z=>n0 (by rw[←hm,z];omega)
 generalize F.2.1=x at *
 generalize G.2.1=y at *
 obtain⟨xa,xb,xc⟩:=x
 obtain⟨ya,yb,yc⟩:=y
 simp only at a1 a2 e2
 subst a1 e2
 subst a2
 have k:xb*xb-4*ya*xc=xb*xb-4*ya*yc:=d1.trans d2.symm
 have:4*ya*xc=4*ya*yc:=∅
 rw[Int.eq_of_mul_eq_mul_left ∅ this]
def Ae7{p q:I2}(h:Lt2 p q):HT.lexLt [q.1,q.2] [p.1,p.2]=false:=by
 rw[J0,J0]
 rcases h with h|⟨h1,h2⟩
 ·rw[if_neg ∅]
  simp only[decide_eq_false_iff_not]
  omega
 ·rw[if_pos h1.symm,if_neg ∅]
  simp only[decide_eq_false_iff_not]
  omega
def Yi{f g:I3}{n:Int}{r:Nat}{T:I4}{l:List I2}{ps:List (List Int)}(al:DX f n r)(n0:n≠0)(sr:Sq n.natAbs r)(dT:det T=1)(eT:mov g T=f)(up:l.Pairwise Lt2)(mem:∀v,v∈l↔Mx g n v)(hp:ps.Perm ((GD f n r).map Ng)):Ib ps=l.map fun p=>[p.1,p.2]:=by
 have nd:(l.map fun p:I2=>[p.1,p.2]).Nodup:=by
  unfold List.Nodup
  rw[List.pairwise_map]
  refine up.imp fun{a b} h e=>?_
  injection e with e1 e
  injection e with e2 _
  rcases h with h|⟨_,h⟩<;>omega
 have pm:((GD f n r).map Ng).Perm (l.map fun p=>[p.1,p.2]):=by
  refine Af9 (Aca al n0) nd fun x=>?_
  rw[List.mem_map,List.mem_map]
  constructor
  ·rintro⟨F,hF,rfl⟩
   exact⟨(F.1,F.2.1.2.1),(mem _).mpr ((AaU al n0 sr dT eT _).mpr ⟨F,hF,rfl⟩),rfl⟩
  ·rintro⟨p,hp,rfl⟩
   obtain⟨F,hF,e⟩:=(AaU al n0 sr dT eT p).mp ((mem p).mp hp)
   exact⟨F,hF,by rw[←e];rfl⟩
 refine YJ (Ml ps) ?_ ((Jv ps).trans (hp.trans pm))
 rw[List.pairwise_map]
 exact up.imp fun{a b} h=>Ae7 h
def O3(F:Fam):List Int:=[F.1*F.2.2.1,F.1*F.2.2.2.2.1]
noncomputable def prR(f:I3)(n:Int)(r:Nat)(d:Dt):List Int:=open Classical in if h:∃F∈GD f n r,d=Bc (O3 F)then Ng h.choose else []
def Adl{a b:List Int}(h:Bc a=Bc b):a=b:=by
 have h:a.map Dt.int=b.map Dt.int:=Dt.tup.inj h
 induction a generalizing b with
 | nil=>cases b with
  |nil=>rfl
  |cons y b=>cases h
 | cons x a ih=>cases b with
  |nil=>cases h
  | cons y b =>
   injection h with h1 h2
   rw[Dt.int.inj h1,ih (by show Dt.tup _=Dt.tup _;rw[h2]) h2]
def AhJ{f:I3}{n:Int}{r:Nat}{F:Fam}{g m:Int}{T:I4}(al:DX f n r)(n0:n≠0)(hF:F∈GD f n r)(g1:1≤g)(dT:det T=1)(Ft:K5 m (meas f) (mov f T))(ld:K6 T (g,0)=(F.1*F.2.2.1,F.1*F.2.2.2.2.1))(hm:g*g*m=n):prR f n r (Bc (O3 F))=[g,(mov f T).2.1]:=by
 have h:∃G∈GD f n r,Bc (O3 F)=Bc (O3 G):=⟨F,hF,rfl⟩
 unfold prR
 rw[dif_pos h]
 obtain⟨hG,e⟩:=h.choose_spec
 generalize h.choose=G at hG e ⊢
 have e:=Adl e
 unfold O3 at e
 injection e with e1 e
 injection e with e2 _
 obtain⟨k1,k2⟩:=Aas al n0 hG g1 dT Ft (by rw[ld,e1,e2]) hm
 unfold Ng
 rw[k1,k2]
def AfM{f:I3}{n:Int}{r:Nat}{F:Fam}(al:DX f n r)(n0:n≠0)(hF:F∈GD f n r):prR f n r (Bc (O3 F))=Ng F:=by
 obtain⟨m,hm,Fo⟩:=U0 al n0 hF
 obtain⟨l,hl,_⟩:=id al
 obtain⟨m1,_,_,m4,m5,_⟩:=JD hl hF
 rw[AhJ (T:=F.2.2) (g:=F.1) al n0 hF (Dg.mp m1).1 m4 (by rw[m5];exact Fo) (by
  simp only[K6,Int.mul_zero,Int.add_zero,Prod.mk.injEq]
  exact⟨Int.mul_comm ..,Int.mul_comm ..⟩) hm,m5]
 rfl
def Ae0{f:I3}{n:Int}{r:Nat}(al:DX f n r)(n0:n≠0):(((Gq f n r).map hdR).map fun x=>prR f n r (Bc x)).Perm ((GD f n r).map Ng):=by
 have h:((Gq f n r).map hdR).Perm (((GD f n r).map Jy).map hdR):=(JG _).map _
 refine(h.map _).trans (List.Perm.of_eq ?_)
 rw[List.map_map,List.map_map]
 refine List.map_congr_left fun F hF=>?_
 exact AfM al n0 hF
def Ajh(T:Txt K mg)
  (j8:Pm P w K mg base 3 "_law_asked" Er ["_law_script"] Li)
  (cB:Pm P w K mg base 2 "_law_moved" Dw ["_law_form","_law_turn_here"] GP)
  (nY:Pm P w K mg base 13 "heads" Jw ["form","number"] VN)
  (lN:Pm P w K mg base 2 "_law_flat" Fy ["_law_form"] MN)
  (lQ:Pm P w K mg base 1 "_law_turn" FQ ["_law_first","_law_cells"] Ju)
  (iR:Pm P w K mg base 4 "_law_due" Gv ["_law_form","_law_number"] Kv)
  (ao:Pm P w K mg base 1 "_law_bar" Cm ["_law_form"] Dp)
  (dG:Pm P w K mg base 2 "_law_wholes" CZ ["_law_found","_law_many"] Ge)
  (aB:Pm P w K mg base 1 "_law_value" Ds ["_law_form","_law_x","_law_y"] IK)
  (gP:Pm P w K mg base 3 "_law_pair" Fx ["_law_form","_law_point"] Jt)
  : Pm P w K mg base 14 "law" J5 ["_law_script"] U9:=by
 obtain⟨f,fd,F⟩:=T.qI
 refine⟨f,fd,F,F.fn.okD J3 (by walk_at "lE") fun cdv A outer s H E hr=>⟨_,(Ad (Jq (Ag Ae j8 (hr.mono ⋯) rfl (Aa (dv 0) Af)) (Acq (n:=2) rfl (Bk (Bj 1 J3.nd) (Bk (Bj 2 J3.nd) Ht)))) (Ad (Cj (DW.dt (Yv (AjZ (Ag Ae ao (hr.mono ⋯) rfl (Aa (dv 1) Af)) Ab) (Vs (Gn (Ag Ae lN (hr.mono ⋯) rfl (Aa (dv 1) Af)))))) (Ah (Av Ow)) Bd) (Ad (Aq 3 J3.nd (Ag Ae cB (hr.mono ⋯) rfl (Aa (dv 1) (Aa (Ag Ae lQ (hr.mono ⋯) rfl (Aa Ab (Aa (AcI (dv 0) (Zy Ab) (Zy Ab)) Af))) Af)))) (Ad (Aa6 4 J3.nd Ae nY (hr.mono ⋯) rfl (Aa (dv 3) (Aa (dv 2) Af))) (Ad (Cj (Acs (U5 4 (DW.dt (OD (G9 (Gn (QZ T.au T.bZ V4 (dv 4)))) (Ke (Im hr.units (dv 4) (Oo T.aM T.iI (AkF hr.units) rfl (dv 4))))))) (DW.dt (OD (G9 (Gn (QZ T.au T.bZ V4 (dv 4)))) (Ke (Im hr.units (dv 4) (Oo T.aM T.iI (AkF hr.units) rfl (dv 4))))))) (Ah (Av Ow)) Bd) (Ad (AeW (Age 4 PassesOwn.never rfl (Bj 5 J3.nd) (Ah (Cj (DW.dt (OD (G9 (Gn (Ag Ae dG (hr.mono ⋯) rfl (Aa (dv 5) (Aa Ab Af))))) (Ke (Im hr.units (Ag Ae aB (hr.mono ⋯) rfl (Aa (dv 3) (Aa (Ac (dv 5) Ab) (Aa (Ac (dv 5) Ab) Af)))) (dv 2))))) (Ah (Av Ow)) Bd))) (Oc PassesOwn.never rfl (Kg (dv 4)) (Bj 5 J3.nd) (Ah (Cj (DW.dt (OD (G9 (Gn (Ag Ae dG (hr.mono ⋯) rfl (Aa (dv 5) (Aa Ab Af))))) (Ke (Im hr.units (Ag Ae aB (hr.mono ⋯) rfl (Aa (dv 3) (Aa (Ac (dv 5) Ab) (Aa (Ac (dv 5) Ab) Af)))) (dv 2))))) (Ah (Av Ow)) Bd)))) (Ad (Cj (Acs (U5 4 (Im hr.units (Wf T.aM (Aa (Pq (Gx (sc:=Ai J5) (NN:=["_law_script","_law_near","_law_number","_law_form","_law_found","_law_point","_law_kept"]) (x:="_law_point") (N:=["_law_form"]) (sl:=[3]) rfl rfl (by decide +kernel)) rfl (Kg (dv 4)) (fun cl C s0 H0 ex=>(Ag Ae gP (hr.mono ⋯) rfl (Aa (dv 1) (Aa (dv 0) Af))))) Af)) (Ag Ae iR (hr.mono ⋯) rfl (Aa (dv 1) (Aa (dv 2) Af))))) (Im hr.units (Wf T.aM (Aa (Pq (Gx (sc:=Ai J5) (NN:=["_law_script","_law_near","_law_number","_law_form","_law_found","_law_point","_law_kept"]) (x:="_law_point") (N:=["_law_form"]) (sl:=[3]) rfl rfl (by decide +kernel)) rfl (Kg (dv 4)) (fun cl C s0 H0 ex=>(Ag Ae gP (hr.mono ⋯) rfl (Aa (dv 1) (Aa (dv 0) Af))))) Af)) (Ag Ae iR (hr.mono ⋯) rfl (Aa (dv 1) (Aa (dv 2) Af))))) (Ah (Av Ow)) Bd) (Ad (Aq 6 J3.nd (Ajf (AdY 4 T.bZ) (AcO T.bZ (dv 4)))) (Ad (AeW (Aiq 4) (Ae6 4)) (Ah (Av (VL hr.units (Ag Ae nY (hr.mono ⋯) rfl (Aa (dv 3) (Aa (dv 2) Af))) (dv 6))))))))))))),fun ds Q h=>?_⟩⟩
 obtain⟨ns,rfl,hn,q⟩:=h
 have hn:ns.length≤63:=hn
 have q':Q (.bl true):=q _ rfl
 obtain⟨cs,e,hcs,hme⟩:=Afc ns (some 5) (some 63)
 simp only[W8,V9,WD]
 refine AdT (fun ρ=>∃f n t,(Z4 f n∧(Bv f∨Sad f)∧det t=1∧B4 210 t)∧ρ=[some (.is (.lst (ns.map Dt.int))),some (.is (t3 f)),some (.is (.int n)),some (.is (t3 (mov f t))),none,none,none]) (fun N hN=>?_) ?_
 ·walk_at "rd"
  refine Bg ns trivial ?_
  rintro _ ⟨f,n,rfl,A⟩
  have A:Z4 f n:=A
  have go:(Bv f∨Sad f)→Ju [.int 0,.lst (cutD (ns.map Dt.int) (some 5) (some 63))] fun d=>GP [t3 f,d] fun d=>N [some (.is (.lst (ns.map Dt.int))),some (.is (t3 f)),some (.is (.int n)),some (.is d),none,none,none]:=fun k=>by
   rw[e]
   refine Bg (0,cs) ⟨rfl,by show cs.length≤63;omega⟩ ?_
   rintro _ ⟨t,rfl,dt,bt⟩
   exact Al (f,t) ⟨A.bt.le ⋯,bt.le ⋯⟩ (hN _ ⟨f,n,t,⟨A,k,dt,bt⟩,rfl⟩)
  walk_at "rd"
  refine Al f (A.bt.le ⋯) ?_
  rcases A.me with⟨h1,h2⟩|⟨h1,h2⟩
  ·exact DY (decide_eq_false ∅) (go (.inl ⟨h2,h1⟩))
  ·refine ift (decide_eq_true h1) (Bg f ⟨A.bt.le ⋯,h1⟩ ?_)
   rintro _ ⟨b,rfl,hb⟩
   have hb:b=true↔Je (meas f):=hb
   refine Gj (fun _=>q') (fun nb=>go (.inr ⟨fun z=>nb (hb.mpr z),?_,h2⟩))
   rcases Int.lt_or_eq_of_le h1 with z|z
   ·exact z
   ·exact absurd (hb.mpr ⟨0,by rw[←z];rfl⟩) nb
 rintro _ ⟨f,n,t,⟨A,kf,dt,bt⟩,rfl⟩
 have n0:=A.n0
 have n4:=A.n4
 have four:Bt 3 4:=Bt.ak ⋯
 have bD:Bt 200 (meas f):=((A.bt.2.1.mul A.bt.2.1).sub ((four.mul A.bt.1).mul A.bt.2.2)).le ⋯
 have bG:B3 515 (mov f t):=(A.bt.mov bt).le ⋯
 have bDG:Bt 200 (meas (mov f t)):=by rw[Bl dt];exact bD
 have hP:J6 (mov f t) n:=⟨bG.le ⋯,Tq kf dt,n0,n4,bDG.le ⋯⟩
 obtain⟨G,eG⟩:∃G,mov f t=G:=⟨_,rfl⟩
 rw[eG]at bG bDG hP ⊢
 walk_at "rd"
 refine⟨by simp only[U8,YG,Adm,AhN,Bool.and_true],Bg (G,n) hP ?_⟩
 rintro _ ⟨r,hr,sr,rfl,al⟩
 have hr:r≤20:=hr
 have sr:Sq n.natAbs r:=sr
 have al:DX G n r:=al
 have len:((Gq G n r).map hdR).length<64:=by rw[List.length_map];exact V6 hP hr
 have nd:=AdC al n0
 have srt:Ib ((Gq G n r).map hdR)=(Gq G n r).map hdR:=YJ (Ml _) (AeY G n r) (Jv _)
 have pp:=Ae0 al n0
 have row:∀x∈(Gq G n r).map hdR,∃F∈GD G n r,x=O3 F:=fun x hx=>by
  obtain⟨rs,hrs,rfl⟩:=List.mem_map.mp hx
  obtain⟨F,hF,rfl⟩:=Ii hrs
  exact⟨F,hF,rfl⟩
 have eS:∀r,(Gq G n r).map (fun rs=>Bc (rs.getD 0 []))=((Gq G n r).map hdR).map Bc:=fun r=>by rw[List.map_map];rfl
 have again:∀d:Dt,(∃r:Nat,r≤20∧Sq n.natAbs r∧d=.lst ((Gq G n r).map fun rs=>Bc (rs.getD 0 []))∧DX G n r)→d=.lst (((Gq G n r).map hdR).map Bc):=by
  rintro _ ⟨r',_,sr',rfl,_⟩
  have:(r':Int)=r:=sr'.uniq sr
  obtain rfl:r'=r:=∅
  rw[eS]
 dsimp only
 rw[eS]
 clear eS
 generalize (Gq G n r).map hdR=S at *
 have ne:∀x∈S,x≠[]:=fun x hx=>by
  obtain⟨F,_,rfl⟩:=row x hx
  unfold O3
  exact List.cons_ne_nil _ _
 have hv:∀{F:Fam},F∈GD G n r→val G (F.1*F.2.2.1,F.1*F.2.2.2.2.1)=n:=fun hF=>Ae5 al n0 hF
 have hB:∀{F:Fam},F∈GD G n r→B2 8900 (F.1*F.2.2.1,F.1*F.2.2.2.2.1):=fun hF=>by
  have:=Af6 al n0 n4 hr (k:=200) (j:=515) ⋯ ⋯ bG bDG hF
  exact⟨this.1.le ⋯,this.2.le ⋯⟩
 have key:∀(y:Option En)(P:Bool→Prop),P false→Ma (dOp dNe (dCB Vp (Rn (JW [3] (Aeo (Vu 4)) S9 (dCall Jt (Rn (Vu 1) (Rn (Vu 0) AdX)))) AdX)) (dCall Kv (Rn (Vu 1) (Rn (Vu 2) AdX)))) [some (.is (.lst (ns.map Dt.int))),some (.is (t3 f)),some (.is (.int n)),some (.is (t3 G)),some (.is (.lst (S.map Bc))),y,none] P:=fun y P hP'=>by
  walk_at "rd"
  refine Nq (S.map Bc) (fun d=>Bc (prR G n r d)) (fun R hR=>hR) (by rw[List.length_map];exact Ax ∅) (FJ rfl Gw) (fun d hd R hR=>?_) ?_
  ·obtain⟨x,hx,rfl⟩:=List.mem_map.mp hd
   obtain⟨F,hF,rfl⟩:=row x hx
   rw[Am5]
   walk_at "rd"
   refine Bg (G,(F.1*F.2.2.1,F.1*F.2.2.2.2.1)) ⟨by rw[hv hF];exact n0,by rw[hv hF];exact n4,bG.le ⋯,hB hF⟩ ?_
   rintro _ ⟨g,m,T,rfl,g1,dT,Fo,ld,hm⟩
   have hm:g*g*m=val G (F.1*F.2.2.1,F.1*F.2.2.2.2.1):=hm
   rw[hv hF]at hm
   have:=AhJ al n0 hF g1 dT Fo ld hm
   rw[this]at hR
   exact hR
  ·have lp:(S.map fun x=>prR G n r (Bc x)).length<64:=by rw[List.length_map];exact len
   refine⟨S.map fun x=>prR G n r (Bc x),by rw[List.map_map,List.map_map];rfl,lp,fun x hx=>?_,Bg (f,n) ⟨A.bt.le ⋯,kf,n0,n4,bD.le ⋯⟩ ?_⟩
   ·obtain⟨F,_,rfl⟩:=List.mem_map.mp (pp.mem_iff.mp hx)
    unfold Ng
    exact List.cons_ne_nil _ _
   ·rintro _ ⟨l,rfl,up,mem⟩
    have es:=Yi al n0 sr dt eG up mem pp
    have el:l.map t2=(l.map fun p=>[p.1,p.2]).map Bc:=by rw[List.map_map];rfl
    rw[es,el]
    refine⟨⟨Fw _ _,by rw[AaK];exact Fw _ _⟩,?_⟩
    rw[Aht,Mv,decide_eq_true rfl]
    exact hP'
 have point:∀x∈S,∃p:I2,Bc x=t2 p∧val G p=n∧B2 300100 p:=fun x hx=>by
  obtain⟨F,hF,rfl⟩:=row x hx
  have b:=hB hF
  exact⟨(F.1*F.2.2.1,F.1*F.2.2.2.2.1),rfl,hv hF,b.1.le ⋯,b.2.le ⋯⟩
 by_cases hS:S=[]
 ·refine .inr ⟨by rw[hS];rfl,?_⟩
  subst hS
  refine Ahy ?_
  walk_at "rd"
  refine⟨[],rfl,.nil,⋯,fun x hx=>(by cases hx),?_⟩
  rw[srt]
  refine⟨rfl,DY rfl (alt2 (KQ [] (fun R h=>h) (fun _ ρ=>ρ=[some (.is (.lst (ns.map Dt.int))),some (.is (t3 f)),some (.is (.int n)),some (.is (t3 G)),some (.is (.lst [])),none,none]) rfl (fun k d ρ' hk _=>(by cases hk)) fun ρ' e=>?_))⟩
  subst e
  walk_at "rd"
  refine Ahy (key none _ (DY rfl ?_))
  walk_at "rd"
  refine AlE ⟨[],rfl,alt2 ⟨rfl,?_⟩⟩
  walk_at "rd"
  refine Bg (G,n) hP fun d hd=>?_
  rw[again d hd]
  exact⟨rfl,q'⟩
 ·refine .inl ⟨_,rfl,?_,Te _ _,?_⟩
  ·cases S with
   |nil=>exact absurd rfl hS
   |cons r S=>exact⟨_,.head _⟩
  refine AhA ?_
  walk_at "rd"
  refine⟨S,rfl,nd,len,ne,?_⟩
  rw[srt]
  walk_at "rd"
  refine⟨⟨Fw _ _,Fw _ _⟩,DY (by rw[Mv,decide_eq_true rfl];rfl) (alt1 (AcQ (S.map Bc) rfl (fun v _ ρ=>∃y,ρ=[some (.is (.lst (ns.map Dt.int))),some (.is (t3 f)),some (.is (.int n)),some (.is (t3 G)),some (.raw v),y,none]) (fun v=>⟨_,rfl⟩) (fun v k d ρ' hk hr=>?_) fun v ρ' hr=>?_))⟩
  ·obtain⟨y,rfl⟩:=hr
   obtain⟨x,hx,rfl⟩:=Wd hk
   obtain⟨p,ep,vp,bp⟩:=point x (List.mem_of_getElem? hx)
   rw[ep]
   walk_at "rd"
   refine Ags p (DY rfl ?_)
   walk_at "rd"
   refine Al (G,p) ⟨bG.le ⋯,bp⟩ ?_
   dsimp only
   rw[vp]
   exact⟨by rw[QM],DY (by rw[S8,decide_eq_true rfl];rfl) ⟨_,rfl⟩⟩
  obtain⟨y,rfl⟩:=hr
  refine⟨rfl,?_⟩
  walk_at "rd"
  refine AhA (key y _ (DY rfl ?_))
  walk_at "rd"
  refine Aky ?_
  walk_at "rd"
  refine alt1 ?_
  walk_at "rd"
  refine Bg (G,n) hP fun d hd=>?_
  rw[again d hd]
  walk_at "rd"
  refine⟨⟨Fw _ _,Fw _ _⟩,?_⟩
  rw[Mv,decide_eq_true rfl]
  exact q'
end
abbrev nF(K:W.Frag)(n:Str)(s:Stmt):Prop:=∃(f:Addr)(oc:Value)(od:Option Addr)(kV dc pm:Value)(an:Option Addr)(cd ct:Value)(sl:Array (Option Value)),W.nsIn K mainGlobals n=some (some (.ref f))∧K.lookup f=some ⟨oc,od,.func (W.fnOf n n (Ep s) (Dr s) (Ai s) .none kV dc pm an cd ct),sl⟩∧W.codeIn K cd n=true∧W.keepIn K (.ref f)=true
def AhS{K:W.Frag}{n:Str}{s:Stmt}{f:Addr}{od an:Option Addr}{sl:Array (Option Value)}{oc kV dc pm cd ct:Value}(a:W.nsIn K mainGlobals n=some (some (.ref f)))(l:K.lookup f=some ⟨oc,od,.func (W.fnOf n n (Ep s) (Dr s) (Ai s) .none kV dc pm an cd ct),sl⟩)(c:W.codeIn K cd n=true)(k:W.keepIn K (.ref f)=true):nF K n s:=⟨f,oc,od,kV,dc,pm,an,cd,ct,sl,a,l,c,k⟩
theorem tM{K:W.Frag}{h:Heap}{mg:Str→Option Value}{n:Str}{s:Stmt}{ps:List Str}(X:K.In h)(G:h.Ns mainGlobals mg)(H:nF K n s)
  (hb:∀(kV doc pm:Value)(an:Option Addr)(cdv ct:Value)(us:List Value),us.length=ps.length→bindArgs (W.fnOf n n (Ep s) (Dr s) (Ai s) .none kV doc pm an cdv ct) ⟨us,[]⟩=pure (ps.zip us)):∃f fd,FnT K mg n s ps f fd:=by
 obtain⟨f,oc,od,kV,dc,pm,an,cd,ct,sl,a,l,c,k⟩:=H
 have F:=NK (st:=s) l c k
 exact⟨_,_,F,W.mg_of X G a,F.binds hb⟩
set_option maxHeartbeats 8000000 in
theorem all_mk{l:W.OpenLaw}{w:World}{K:W.Frag}{h:Heap}{mg:Str→Option Value}{fa:Addr}(X:K.In h)(G:h.Ns mainGlobals mg)(hfa:mg "law"=some (.ref fa))
  (h0:nF K "root" JK)
  (h1:nF K "is_square" FP)
  (h2:nF K "check_at_most" Cy)
  (h3:nF K "check_within" Dj)
  (h4:nF K "is_turn" Hu)
  (h5:nF K "check_turn" Du)
  (h6:nF K "put_behind" CP)
  (h7:nF K "back" Nz)
  (h8:nF K "measure" Dk)
  (h9:nF K "value" KH)
  (h10:nF K "moved" Jo)
  (h11:nF K "middle" Jf)
  (h12:nF K "shape" Hj)
  (h13:nF K "check_bowl" Ew)
  (h14:nF K "stands_least" Dh)
  (h15:nF K "settled" Hv)
  (h16:nF K "turn_lower" Eu)
  (h17:nF K "check_saddle" Cr)
  (h18:nF K "stands_level" Df)
  (h19:nF K "turn_behind" DR)
  (h20:nF K "stop_behind" CW)
  (h21:nF K "eased" KZ)
  (h22:nF K "stops_round" DN)
  (h23:nF K "lowered" Hy)
  (h24:nF K "shape_of" Fq)
  (h25:nF K "way_between" DQ)
  (h26:nF K "heads" Jw)
  (h27:nF K "families" Gz)
  (h28:nF K "roots_of_square_divisors" Bb)
  (h29:nF K "feet" Kc)
  (h30:nF K "_law_cell" Eh)
  (h31:nF K "_law_whole" Em)
  (h32:nF K "_law_wholes" CZ)
  (h33:nF K "_law_bar" Cm)
  (h34:nF K "_law_root" Dm)
  (h35:nF K "_law_flat" Fy)
  (h36:nF K "_law_level" Dy)
  (h37:nF K "_law_behind" CT)
  (h38:nF K "_law_bowl" Ed)
  (h39:nF K "_law_turn" FQ)
  (h40:nF K "_law_value" Ds)
  (h41:nF K "_law_moved" Dw)
  (h42:nF K "_law_taken" Et)
  (h43:nF K "_law_shares" DK)
  (h44:nF K "_law_pair" Fx)
  (h45:nF K "_law_tops" FW)
  (h46:nF K "_law_in" Hw)
  (h47:nF K "_law_due" Gv)
  (h48:nF K "_law_asked" Er)
  (h49:nF K "law" J5)
  (bA:W.nsIn K mainGlobals "abs"=some none)
  (fX:W.nsIn K mainGlobals "bool"=some none)
  (bW:W.nsIn K mainGlobals "divmod"=some none)
  (jR:W.nsIn K mainGlobals "int"=some none)
  (au:W.nsIn K mainGlobals "isinstance"=some none)
  (gO:W.nsIn K mainGlobals "len"=some none)
  (bZ:W.nsIn K mainGlobals "list"=some none)
  (fK:W.nsIn K mainGlobals "max"=some none)
  (jT:W.nsIn K mainGlobals "min"=some none)
  (bC:W.nsIn K mainGlobals "range"=some none)
  (iI:W.nsIn K mainGlobals "set"=some none)
  (aM:W.nsIn K mainGlobals "sorted"=some none)
  (cW:W.nsIn K mainGlobals "tuple"=some none)
  {fL iT:Addr} {oM oN:Option Addr} {oO:Array (Option Value)} {oR oU oV oW jU oX:Value}
  (iU:W.nsIn K mainGlobals "Shape"=some (some (.ref fL))) (iV:W.specialIn K (.ref fL) "__getattribute__"=some (some (.builtin "type.__getattribute__"))) (iW:W.readsIn K fL (.type "type")=true) (iY:W.findCls K (.ref fL) (.type "type") "__init__"=some (.val (.ref iT)))
  (jc:K.lookup iT=some ⟨oR,oM,.func (W.fnOf "__init__" "Shape.__init__" (Ep Jg) (Dr Jg) (Ai Jg) .none oU oV oW oN jU oX),oO⟩) (jd:W.codeIn K jU "Shape.__init__"=true) (fM:W.keepIn K (.ref iT)=true)
  {aH g8:Addr} {pN pP:Option Addr} {pQ:Array (Option Value)} {pR pU pW pX lR pY:Value}
  (aZ:W.nsIn K mainGlobals "Bowl"=some (some (.ref aH))) (j9:W.makesIn K aH=true) (kj:W.findIn K (.ref aH) "__init__"=some (some (.ref g8))) (kE:W.isFn K (.ref g8)=true) (kI:W.keepIn K (.ref aH)=true)
  (je:W.plainGet K aH Str.empty=true) (jf:W.hasDictIn K aH=true) (jg:W.plainOver K aH=true) (jh:W.findIn K (.ref aH) "__setattr__"=some (some (.builtin "object.__setattr__")))
  (jj:W.findIn K (.ref aH) "__class__"=some (some (.builtin "object.__class__"))) (jm:W.specialIn K (.builtin "object.__class__") "__get__"=some (some (.builtin "getset_descriptor.__get__"))) (jo:W.takesIn K (.builtin "object.__class__")=some true) (jq:W.mroIn K aH (.type "object")=some true)
  (kJ:K.lookup g8=some ⟨pR,pN,.func (W.fnOf "__init__" "Bowl.__init__" (Ep KY) (Dr KY) (Ai KY) .none pU pW pX pP lR pY),pQ⟩) (kO:W.codeIn K lR "Bowl.__init__"=true) (jr:W.keepIn K (.ref g8)=true)
  (bx:W.findIn K (.ref aH) "form"=some none)
  (aL:W.findIn K (.ref aH) "measure"=some none)
  (aN:W.findIn K (.ref aH) "lowest"=some none)
  {aA cX:Addr} {mH mJ:Option Addr} {mK:Array (Option Value)} {mL mQ mR mU jt mV:Value}
  (aG:W.nsIn K mainGlobals "Saddle"=some (some (.ref aA))) (fY:W.makesIn K aA=true) (fZ:W.findIn K (.ref aA) "__init__"=some (some (.ref cX))) (f9:W.isFn K (.ref cX)=true) (gb:W.keepIn K (.ref aA)=true)
  (dX:W.plainGet K aA Str.empty=true) (dY:W.hasDictIn K aA=true) (dZ:W.plainOver K aA=true) (d7:W.findIn K (.ref aA) "__setattr__"=some (some (.builtin "object.__setattr__")))
  (d8:W.findIn K (.ref aA) "__class__"=some (some (.builtin "object.__class__"))) (d9:W.specialIn K (.builtin "object.__class__") "__get__"=some (some (.builtin "getset_descriptor.__get__"))) (eE:W.takesIn K (.builtin "object.__class__")=some true) (eO:W.mroIn K aA (.type "object")=some true)
  (gj:K.lookup cX=some ⟨mL,mH,.func (W.fnOf "__init__" "Saddle.__init__" (Ep HB) (Dr HB) (Ai HB) .none mQ mR mU mJ jt mV),mK⟩) (gk:W.codeIn K jt "Saddle.__init__"=true) (eV:W.keepIn K (.ref cX)=true)
  (aO:W.findIn K (.ref aA) "form"=some none)
  (aF:W.findIn K (.ref aA) "measure"=some none)
  (aJ:W.findIn K (.ref aA) "lowest"=some none)
  {bY:Addr} {mW mX:Option Addr} {mY:Array (Option Value)} {mZ m7 m8 m9 ju nq:Value}
  (bL:W.findIn K (.ref aH) "way_to"=some (some (.ref bY)))
  (aV:W.findIn K (.ref aA) "way_to"=some (some (.ref bY)))
  (cY:W.isFn K (.ref bY)=true) (gq:K.lookup bY=some ⟨mZ,mW,.func (W.fnOf "way_to" "Shape.way_to" (Ep Hz) (Dr Hz) (Ai Hz) .none m7 m8 m9 mX ju nq),mY⟩) (gw:W.codeIn K ju "Shape.way_to"=true) (bH:W.keepIn K (.ref bY)=true)
  {pZ:Addr} {qw:Option Addr} {qx:Array (Option Value)} {qX:Nat} {p7:Tok} {p8:Tok} {qb:Tok} {qd:Tok}
  (dR:W.nsIn K mainGlobals "SAME"=some (some (.ref pZ))) (nu:K.lookup pZ=some ⟨.type "tuple",qw,.seq #[.int (1) p7,.int (0) p8,.int (0) qb,.int (1) qd] qX,qx⟩)
  {cR:Tok} (bN:W.nsIn K mainGlobals "MOST_MEASURE"=some (some (.int (4000) cR)))
  {dF:Tok} (bT:W.nsIn K mainGlobals "MOST_NUMBER"=some (some (.int (400) dF)))
  : ∃fd:FuncData,(∀(s:Shared)(v:Value),BindsTo s fd ⟨[v],[]⟩ [("_law_script",v)])∧∀base:Heap,K.In base→base.Ns mainGlobals mg→HJ l.prog w K mg base CX0 14 fa fd ["_law_script"] (lSp K U9):=by
 obtain⟨f49,uY,uZ,sG,sH,sI,sJ,sS,sU,u5,a49,l49,c49,k49⟩:=h49
 have e:=hfa.symm.trans (W.mg_of X G a49)
 cases e
 have F49:=NK (st:=J5) l49 c49 k49
 have lU:=NK (st:=Jg) jc jd fM
 have nZ:=NK (st:=KY) kJ kO jr
 have jV:=NK (st:=HB) gj gk eV
 have jW:=NK (st:=Hz) gq gw bH
 have T:Txt K mg:={
  pH:=⟨_,_,_,⟨⟨j9,kj,kE,kI⟩,aZ,W.mg_of X G aZ,⟨je,jf,jg,jh⟩,fun f hf=>by simp only[List.mem_cons,List.not_mem_nil,or_false]at hf;rcases hf with hf|hf|hf<;>(subst hf;first|exact bx|exact aL|exact aN)⟩,nZ,nZ.binds (ps:=["self","form"]) fun _ _ _ _ _ _ us hl=>match us,hl with | [_,_],_=>rfl⟩
  qm:=⟨(fun C e=>by rw[aZ]at e;cases e;exact jj),jm,jo,(fun C e=>by rw[aZ]at e;cases e;exact jq)⟩
  jY:=fun C e=>by rw[aZ]at e;cases e;exact bx
  cD:=fun C e=>by rw[aZ]at e;cases e;exact aL
  cL:=fun C e=>by rw[aZ]at e;cases e;exact aN
  lF:=⟨_,_,_,⟨⟨fY,fZ,f9,gb⟩,aG,W.mg_of X G aG,⟨dX,dY,dZ,d7⟩,fun f hf=>by simp only[List.mem_cons,List.not_mem_nil,or_false]at hf;rcases hf with hf|hf|hf<;>(subst hf;first|exact aO|exact aF|exact aJ)⟩,jV,jV.binds (ps:=["self","form"]) fun _ _ _ _ _ _ us hl=>match us,hl with | [_,_],_=>rfl⟩
  oA:=⟨(fun C e=>by rw[aG]at e;cases e;exact d8),d9,eE,(fun C e=>by rw[aG]at e;cases e;exact eO)⟩
  iB:=fun C e=>by rw[aG]at e;cases e;exact aO
  bR:=fun C e=>by rw[aG]at e;cases e;exact aF
  bV:=fun C e=>by rw[aG]at e;cases e;exact aJ
  lH:=⟨_,_,⟨⟨_,W.mg_of X G iU,iV,iW,iY⟩,fM⟩,lU,lU.binds (ps:=["self","form","lowest"]) fun _ _ _ _ _ _ us hl=>match us,hl with | [_,_,_],_=>rfl⟩
  jK:=⟨_,_,fun c hc=>by simp only[List.mem_cons,List.not_mem_nil,or_false]at hc;rcases hc with hc|hc<;>(subst hc;intro C e;first|(rw[aZ]at e;cases e;exact⟨bL,cY,bH⟩)|(rw[aG]at e;cases e;exact⟨aV,cY,bH⟩)),bH,jW,jW.binds (ps:=["self","other"]) fun _ _ _ _ _ _ us hl=>match us,hl with | [_,_],_=>rfl⟩
  pI:=tM X G h0 (by walk_at "b1")
  gA:=tM X G h1 (by walk_at "b1")
  cG:=tM X G h2 (by walk_at "b2")
  cM:=tM X G h3 (by walk_at "b2")
  jL:=tM X G h4 (by walk_at "b1")
  eX:=tM X G h5 (by walk_at "b1")
  eY:=tM X G h6 (by walk_at "b2")
  pJ:=tM X G h7 (by walk_at "b1")
  jM:=tM X G h8 (by walk_at "b1")
  nP:=tM X G h9 (by walk_at "b2")
  nQ:=tM X G h10 (by walk_at "b2")
  lJ:=tM X G h11 (by walk_at "b3")
  nR:=tM X G h12 (by walk_at "b1")
  eZ:=tM X G h13 (by walk_at "b1")
  cN:=tM X G h14 (by walk_at "b1")
  jO:=tM X G h15 (by walk_at "b1")
  fj:=tM X G h16 (by walk_at "b1")
  cP:=tM X G h17 (by walk_at "b1")
  cQ:=tM X G h18 (by walk_at "b2")
  c7:=tM X G h19 (by walk_at "b2")
  dg:=tM X G h20 (by walk_at "b2")
  nT:=tM X G h21 (by walk_at "b1")
  dh:=tM X G h22 (by walk_at "b1")
  jP:=tM X G h23 (by walk_at "b1")
  iC:=tM X G h24 (by walk_at "b1")
  dj:=tM X G h25 (by walk_at "b2")
  nU:=tM X G h26 (by walk_at "b2")
  iD:=tM X G h27 (by walk_at "b2")
  aK:=tM X G h28 (by walk_at "b1")
  pK:=tM X G h29 (by walk_at "b2")
  gB:=tM X G h30 (by walk_at "b2")
  fu:=tM X G h31 (by walk_at "b1")
  dw:=tM X G h32 (by walk_at "b2")
  iG:=tM X G h33 (by walk_at "b1")
  gF:=tM X G h34 (by walk_at "b1")
  gG:=tM X G h35 (by walk_at "b1")
  fC:=tM X G h36 (by walk_at "b2")
  dz:=tM X G h37 (by walk_at "b2")
  gH:=tM X G h38 (by walk_at "b1")
  gJ:=tM X G h39 (by walk_at "b2")
  fD:=tM X G h40 (by walk_at "b3")
  fG:=tM X G h41 (by walk_at "b2")
  fH:=tM X G h42 (by walk_at "b2")
  dD:=tM X G h43 (by walk_at "b2")
  gK:=tM X G h44 (by walk_at "b2")
  gM:=tM X G h45 (by walk_at "b1")
  jQ:=tM X G h46 (by walk_at "b2")
  iH:=tM X G h47 (by walk_at "b2")
  fJ:=tM X G h48 (by walk_at "b1")
  qI:=⟨_,_,F49,W.mg_of X G a49,F49.binds (ps:=["_law_script"]) fun _ _ _ _ _ _ us hl=>match us,hl with | [_],_=>rfl⟩
  bA:=W.mg_none_of X G bA
  fX:=W.mg_none_of X G fX
  bW:=W.mg_none_of X G bW
  jR:=W.mg_none_of X G jR
  au:=W.mg_none_of X G au
  gO:=W.mg_none_of X G gO
  bZ:=W.mg_none_of X G bZ
  fK:=W.mg_none_of X G fK
  jT:=W.mg_none_of X G jT
  bC:=W.mg_none_of X G bC
  iI:=W.mg_none_of X G iI
  aM:=W.mg_none_of X G aM
  cW:=W.mg_none_of X G cW
  mC:=⟨_,W.mg_of X G dR,fun H=>Cu.mpr ⟨_,[.int (1),.int (0),.int (0),.int (1)],rfl,.inr ⟨_,_,_,nu,rfl,rfl,Ax (by show 4≤1000;decide),.cons ⟨_,rfl⟩ (.cons ⟨_,rfl⟩ (.cons ⟨_,rfl⟩ (.cons ⟨_,rfl⟩ (.nil))))⟩,RpL.cons (Bf.mpr rfl) (RpL.cons (Bf.mpr rfl) (RpL.cons (Bf.mpr rfl) (RpL.cons (Bf.mpr rfl) (RpL.nil))))⟩⟩
  aQ:=⟨_,W.mg_of X G bN⟩
  aW:=⟨_,W.mg_of X G bT⟩
 }
 refine⟨W.fnOf "law" "law" (Ep J5) (Dr J5) (Ai J5) .none sG sH sI sJ sS sU,fun s v=>.of_eq rfl,fun base kb nb=>?_⟩
 have kW:=Agg l.prog w base T 
 have gZ:=N8 l.prog w base T 
 have jw:=O7 l.prog w base T 
 have oY:=Zg l.prog w base T 
 have cC:=RD l.prog w base T 
 have bI:=Yx l.prog w base T 
 have qy:=Aey l.prog w base T 
 have qe:=Abt l.prog w base T 
 have jx:=Pn l.prog w base T 
 have kY:=RL l.prog w base T 
 have jy:=O8 l.prog w base T 
 have jE:=Qw l.prog w base T 
 have qY:=AfJ l.prog w base T 
 have gQ:=Ue l.prog w base T 
 have kZ:=R6 l.prog w base T 
 have aP:=VP l.prog w base T 
 have cU:=Ul l.prog w base T 
 have fP:=R5 l.prog w base T 
 have gR:=UW l.prog w base T 
 have lV:=Vl l.prog w base T 
 have fQ:=R9 l.prog w base T 
 have jF:=QV l.prog w base T 
 have lW:=Abz l.prog w base T bI
 have lX:=Vm l.prog w base T kW
 have fU:=RM l.prog w base T oY
 have bQ:=Hh l.prog w base T kW
 have jG:=Rx l.prog w base T kZ
 have lY:=Vd l.prog w base T aP cU
 have dH:=QB l.prog w base T aP
 have fV:=R8 l.prog w base T fQ
 have lq:=R0 l.prog w base T gQ
 have qZ:=Ag3 l.prog w base T fU
 have n6:=AbX l.prog w base T fU qy qe
 have iu:=AcD l.prog w base T bI lX
 have lZ:=Um l.prog w base T jF fV
 have mj:=UL l.prog w base T cU aP fP dH gR
 have oZ:=YZ l.prog w base T aP cU fP dH gR
 have lu:=RN l.prog w base T lq gQ aP
 have lB:=RT l.prog w base T iu
 have cV:=Ph l.prog w base T gZ iu bI
 have dJ:=Qm l.prog w base T jE n6 cC
 have jH:=Qn l.prog w base T cC qZ
 have nA:=Xg l.prog w base T aP mj oZ
 have o7:=Yg l.prog w base T lB jx kY n6 cC
 have qz:=AcE l.prog w base T cV kW bI jy dJ
 have qC:=AcM l.prog w base T lW o7
 have jJ:=Qp l.prog w base T kW qz dJ bI
 have o8:=YC l.prog w base T cV jJ
 have o9:=YH l.prog w base T lW o8
 have jz:=Wt l.prog w base T qC o9 iu
 have pq:=XJ l.prog w base T bI iu jH jz
 have nG:=Wj l.prog w base T pq jz jw bQ qY
 have qD:=AdV l.prog w base T nG
 have rN:=Ajh l.prog w base T lu fV qD lY lV nA aP jG fQ lZ
 obtain⟨f,fd,FT,GG⟩:=rN
 have e1:=FT.mg.symm.trans (W.mg_of X G a49)
 cases e1
 have e2:=FT.fn.uniq F49
 subst e2
 exact GG
theorem walk{l:W.OpenLaw}{q:Program}{loose:List Str}{XP:(Str→Option Value)→Heap→Prop}{YP:World→Heap→Prop}{d:DefRec}{K:Params→W.Frag}(hn:l.most=some 63)(hdf:d.params.defaults=[])
  (hY:∀(w:World)(h:Heap),YP w h→(K w.params).In h)
  (F:∀(w:World)(mg:Str→Option Value)(fa:Addr)(h:Heap),(K w.params).In h→h.Ns mainGlobals mg→mg d.name=some (.ref fa) →
   ∃fd:FuncData,(∀(s:Shared)(u:Value),BindsTo s fd ⟨[u],[]⟩ [("_law_script",u)])∧∀base:Heap,(K w.params).In base→base.Ns mainGlobals mg→HJ l.prog w (K w.params) mg base CX0 14 fa fd ["_law_script"] (lSp (K w.params) U9)) :
  W.WalkO q loose XP YP l.row.toRowW d [] (fun f vs=>PySem.call f vs) :=
 L2.Ae2 (n:=63) (k:=14) (x:="_law_script") (CX:=fun _=>CX0) (sp:=fun w=>lSp (K w.params) U9) hn ⋯ hdf ⟨rfl,⋯,⋯⟩ hY F (fun w H a ns hl _ hS=>Abk hl hS) fun _ _ _ _ _ z=>z
end My
open PySem W PyProof.Rows
local macro_rules | `(tactic| walk_at "nF") => `(tactic| (refine' My.AhS ?qa ?ql ?qc ?qk; (case qa => k_is); (case ql => k_is); (case qc => k_is); (case qk => k_is)))
theorem My.hFk{K:W.Frag}{n:PySem.Str}{s:PySem.Stmt}(f:PySem.Addr)(m:String)(t c:Nat)(a:W.nsIn K PySem.mainGlobals n=some (some (.ref f)):=by kernel_rfl)(l:K.lookup f=some ⟨.type "function",none,.func (W.fnOf n n (L2.Ep s) (L2.Dr s) (L2.Ai s) .none .none .none (.str (.ofString m) t) none (.ref c) .none),#[]⟩:=by kernel_rfl)(d:W.codeIn K (.ref c) n=true:=by kernel_rfl)(k:W.keepIn K (.ref f)=true:=by kernel_rfl):My.nF K n s:=My.AhS a l d k
theorem My.hF0(P:PySem.Params):My.nF (My.KK P) "root" My.JK:=My.hFk 129 "formcycle.wholes" 332 128
theorem My.hF1(P:PySem.Params):My.nF (My.KK P) "is_square" My.FP:=My.hFk 136 "formcycle.wholes" 332 135
theorem My.hF2(P:PySem.Params):My.nF (My.KK P) "check_at_most" My.Cy:=My.hFk 143 "formcycle.wholes" 332 142
theorem My.hF3(P:PySem.Params):My.nF (My.KK P) "check_within" My.Dj:=My.hFk 150 "formcycle.wholes" 332 149
theorem My.hF4(P:PySem.Params):My.nF (My.KK P) "is_turn" My.Hu:=My.hFk 158 "formcycle.turns" 367 157
theorem My.hF5(P:PySem.Params):My.nF (My.KK P) "check_turn" My.Du:=My.hFk 165 "formcycle.turns" 367 164
theorem My.hF6(P:PySem.Params):My.nF (My.KK P) "put_behind" My.CP:=My.hFk 172 "formcycle.turns" 367 171
theorem My.hF7(P:PySem.Params):My.nF (My.KK P) "back" My.Nz:=My.hFk 179 "formcycle.turns" 367 178
theorem My.hF8(P:PySem.Params):My.nF (My.KK P) "measure" My.Dk:=My.hFk 186 "formcycle.forms" 403 185
theorem My.hF9(P:PySem.Params):My.nF (My.KK P) "value" My.KH:=My.hFk 193 "formcycle.forms" 403 192
theorem My.sV(P:PySem.Params):My.nF (My.KK P) "moved" My.Jo:=My.hFk 200 "formcycle.forms" 403 199
theorem My.sW(P:PySem.Params):My.nF (My.KK P) "middle" My.Jf:=My.hFk 207 "formcycle.forms" 403 206
theorem My.sZ(P:PySem.Params):My.nF (My.KK P) "shape" My.Hj:=My.hFk 214 "formcycle.forms" 403 213
theorem My.tu(P:PySem.Params):My.nF (My.KK P) "check_bowl" My.Ew:=My.hFk 221 "formcycle.bowls" 450 220
theorem My.tD(P:PySem.Params):My.nF (My.KK P) "stands_least" My.Dh:=My.hFk 228 "formcycle.bowls" 450 227
theorem My.tG(P:PySem.Params):My.nF (My.KK P) "settled" My.Hv:=My.hFk 235 "formcycle.bowls" 450 234
theorem My.tH(P:PySem.Params):My.nF (My.KK P) "turn_lower" My.Eu:=My.hFk 242 "formcycle.bowls" 450 241
theorem My.tK(P:PySem.Params):My.nF (My.KK P) "check_saddle" My.Cr:=My.hFk 249 "formcycle.saddles" 486 248
theorem My.tQ(P:PySem.Params):My.nF (My.KK P) "stands_level" My.Df:=My.hFk 256 "formcycle.saddles" 486 255
theorem My.tU(P:PySem.Params):My.nF (My.KK P) "turn_behind" My.DR:=My.hFk 263 "formcycle.saddles" 486 262
theorem My.tV(P:PySem.Params):My.nF (My.KK P) "stop_behind" My.CW:=My.hFk 270 "formcycle.saddles" 486 269
theorem My.tW(P:PySem.Params):My.nF (My.KK P) "eased" My.KZ:=My.hFk 277 "formcycle.saddles" 486 276
theorem My.tX(P:PySem.Params):My.nF (My.KK P) "stops_round" My.DN:=My.hFk 284 "formcycle.saddles" 486 283
theorem My.tY(P:PySem.Params):My.nF (My.KK P) "lowered" My.Hy:=My.hFk 291 "formcycle.saddles" 486 290
theorem My.tZ(P:PySem.Params):My.nF (My.KK P) "shape_of" My.Fq:=My.hFk 378 "formcycle.shapes" 553 377
theorem My.uc(P:PySem.Params):My.nF (My.KK P) "way_between" My.DQ:=My.hFk 385 "formcycle.shapes" 553 384
theorem My.ud(P:PySem.Params):My.nF (My.KK P) "heads" My.Jw:=My.hFk 390 "formcycle.answers" 673 389
theorem My.uf(P:PySem.Params):My.nF (My.KK P) "families" My.Gz:=My.hFk 397 "formcycle.answers" 673 396
theorem My.ug(P:PySem.Params):My.nF (My.KK P) "roots_of_square_divisors" My.Bb:=My.hFk 402 "formcycle.answers" 673 401
theorem My.uh(P:PySem.Params):My.nF (My.KK P) "feet" My.Kc:=My.hFk 407 "formcycle.answers" 673 406
theorem My.uo(P:PySem.Params):My.nF (My.KK P) "_law_cell" My.Eh:=My.hFk 414 "law_formcycle_k51_heads" 708 413
theorem My.uq(P:PySem.Params):My.nF (My.KK P) "_law_whole" My.Em:=My.hFk 421 "law_formcycle_k51_heads" 708 420
theorem My.ur(P:PySem.Params):My.nF (My.KK P) "_law_wholes" My.CZ:=My.hFk 426 "law_formcycle_k51_heads" 708 425
theorem My.uw(P:PySem.Params):My.nF (My.KK P) "_law_bar" My.Cm:=My.hFk 433 "law_formcycle_k51_heads" 708 432
theorem My.ux(P:PySem.Params):My.nF (My.KK P) "_law_root" My.Dm:=My.hFk 440 "law_formcycle_k51_heads" 708 439
theorem My.uy(P:PySem.Params):My.nF (My.KK P) "_law_flat" My.Fy:=My.hFk 447 "law_formcycle_k51_heads" 708 446
theorem My.uz(P:PySem.Params):My.nF (My.KK P) "_law_level" My.Dy:=My.hFk 454 "law_formcycle_k51_heads" 708 453
theorem My.uD(P:PySem.Params):My.nF (My.KK P) "_law_behind" My.CT:=My.hFk 461 "law_formcycle_k51_heads" 708 460
theorem My.uE(P:PySem.Params):My.nF (My.KK P) "_law_bowl" My.Ed:=My.hFk 468 "law_formcycle_k51_heads" 708 467
theorem My.uF(P:PySem.Params):My.nF (My.KK P) "_law_turn" My.FQ:=My.hFk 482 "law_formcycle_k51_heads" 708 481
theorem My.uG(P:PySem.Params):My.nF (My.KK P) "_law_value" My.Ds:=My.hFk 489 "law_formcycle_k51_heads" 708 488
theorem My.uH(P:PySem.Params):My.nF (My.KK P) "_law_moved" My.Dw:=My.hFk 496 "law_formcycle_k51_heads" 708 495
theorem My.uI(P:PySem.Params):My.nF (My.KK P) "_law_taken" My.Et:=My.hFk 503 "law_formcycle_k51_heads" 708 502
theorem My.uJ(P:PySem.Params):My.nF (My.KK P) "_law_shares" My.DK:=My.hFk 510 "law_formcycle_k51_heads" 708 509
theorem My.uK(P:PySem.Params):My.nF (My.KK P) "_law_pair" My.Fx:=My.hFk 517 "law_formcycle_k51_heads" 708 516
theorem My.uL(P:PySem.Params):My.nF (My.KK P) "_law_tops" My.FW:=My.hFk 524 "law_formcycle_k51_heads" 708 523
theorem My.uM(P:PySem.Params):My.nF (My.KK P) "_law_in" My.Hw:=My.hFk 531 "law_formcycle_k51_heads" 708 530
theorem My.uN(P:PySem.Params):My.nF (My.KK P) "_law_due" My.Gv:=My.hFk 538 "law_formcycle_k51_heads" 708 537
theorem My.uO(P:PySem.Params):My.nF (My.KK P) "_law_asked" My.Er:=My.hFk 545 "law_formcycle_k51_heads" 708 544
theorem My.uP(P:PySem.Params):My.nF (My.KK P) "law" My.J5:=My.hFk 550 "law_formcycle_k51_heads" 708 549
set_option maxRecDepth 100000 in
set_option maxHeartbeats 0 in
theorem PySem.Challenge.cw_formcycle_k51_heads_holds : PySem.Challenge.rw_formcycle_k51_heads.Holds := by
 w_on
 refine holds_law My.said0 fun said=>?_
 refine holds_open (r:=PySem.Challenge.rw_formcycle_k51_heads.row) (q:=My.vw) (loose:=[]) (Xt:=fun s=>xlAt My.vw [] s&&recOk (RowW.records (PySem.Challenge.rw_formcycle_k51_heads.row.toRowW)) s) (XP:=XL My.vw []) (Yf:=Hook.obs (kHook My.KK My.asK (fun _=>by kernel_rfl))) (Ya:=Hook.val (kHook My.KK My.asK (fun _=>by kernel_rfl))) (YP:=Hook.says (kHook My.KK My.asK (fun _=>by kernel_rfl))) (N:=3974) My.hl (Hook.of (kHook My.KK My.asK (fun _=>by kernel_rfl))) (Hook.keeps (kHook My.KK My.asK (fun _=>by kernel_rfl))) (fun s e=>xl_of s (Bool.and_eq_true_iff.mp e).1) XL.keeps (by rfl) (by rfl) (by rfl) (fun s e=>recFacts_of (Bool.and_eq_true_iff.mp e).2) (by rfl) said (by decide +kernel) ⟨rfl,rfl,rfl,rfl,rfl,by decide +kernel⟩ ?hw ?hc
 (case hw=>w_witness2)
 k_fill
 refine My.walk (l:=PySem.Challenge.rw_formcycle_k51_heads) rfl rfl (fun w h Y=>PySem.W.kIn_of Y) ?F
 case F =>
  intro w mg fa h KX G hmg
  refine' My.all_mk KX G hmg (My.hF0 _) (My.hF1 _) (My.hF2 _) (My.hF3 _) (My.hF4 _) (My.hF5 _) (My.hF6 _) (My.hF7 _) (My.hF8 _) (My.hF9 _) (My.sV _) (My.sW _) (My.sZ _) (My.tu _) (My.tD _) (My.tG _) (My.tH _) (My.tK _) (My.tQ _) (My.tU _) (My.tV _) (My.tW _) (My.tX _) (My.tY _) (My.tZ _) (My.uc _) (My.ud _) (My.uf _) (My.ug _) (My.uh _) (My.uo _) (My.uq _) (My.ur _) (My.uw _) (My.ux _) (My.uy _) (My.uz _) (My.uD _) (My.uE _) (My.uF _) (My.uG _) (My.uH _) (My.uI _) (My.uJ _) (My.uK _) (My.uL _) (My.uM _) (My.uN _) (My.uO _) (My.uP _) ?bA ?fX ?bW ?jR ?au ?gO ?bZ ?fK ?jT ?bC ?iI ?aM ?cW ?iU ?iV ?iW ?iY ?jc ?jd ?fM ?aZ ?j9 ?kj ?kE ?kI ?je ?jf ?jg ?jh ?jj ?jm ?jo ?jq ?kJ ?kO ?jr ?bx ?aL ?aN ?aG ?fY ?fZ ?f9 ?gb ?dX ?dY ?dZ ?d7 ?d8 ?d9 ?eE ?eO ?gj ?gk ?eV ?aO ?aF ?aJ ?bL ?aV ?cY ?gq ?gw ?bH ?dR ?nu ?bN ?bT
  case bA|fX|bW|jR|au|gO|bZ|fK|jT|bC|iI|aM|cW|iU|iV|iW|iY|jc|jd|fM|aZ|j9|kj|kE|kI|je|jf|jg|jh|jj|jm|jo|jq|kJ|kO|jr|bx|aL|aN|aG|fY|fZ|f9|gb|dX|dY|dZ|d7|d8|d9|eE|eO|gj|gk|eV|aO|aF|aJ|bL|aV|cY|gq|gw|bH|dR|nu|bN|bT=>as_aux_lemma=>k_is
