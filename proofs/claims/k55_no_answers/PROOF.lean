import PyProof.Rows.All
import Wide.All
import OpenK.AllK
import Wide.FinOn
import Lean
import PyProof.EqAt
import PyProof.EqKinds
import PyProof.TupleCall
import PySem.Challenge.RW_formcycle_k55_no_answers
set_option Elab.async false
set_option linter.all false
set_option maxRecDepth 100000
set_option maxRecDepth 1000000
set_option maxHeartbeats 0
local macro_rules|`(command|def $d:declId $s:optDeclSig $v:declVal)=>`(command|noncomputable def $d:declId $s:optDeclSig $v:declVal)
local macro_rules|`(command|abbrev $d:declId $s:optDeclSig $v:declVal)=>`(command|noncomputable abbrev $d:declId $s:optDeclSig $v:declVal)
theorem My.said0:PySem.Challenge.rw_formcycle_k55_no_answers.wellSaid=true:=by kernel_rfl
namespace My
open PySem W
def Vx(tb:String→Option Builtin)(p:Program)(w:World)(m:Nat)(ann:Option Value):Nat→SharedT→Thread→Option SharedT
 |0,_,_=>none
 | k+1,s,t=>match through t with
  |true=>some s
  | false=>match stepOk m ann t with
   |false=>none
   | true=>match stepT (denote tb) p w s t with
    |some (s',t')=>Vx tb p w m ann k s' t'
    |none=>none
theorem Ug{tb:String→Option Builtin}{p:Program}{w:World}{m:Nat}{ann:Option Value}:∀(k:Nat){s r:SharedT}{t:Thread},Vx tb p w m ann k s t=some r→topRun tb p w m ann k s.abs t=some r.abs
 |0,s,r,t,h=>by cases h
 | k+1,s,r,t,h=>by
  unfold Vx at h
  unfold topRun
  cases e:through t with
  | true =>
   rw[e]at h
   cases h
   rfl
  | false =>
   rw[e]at h
   dsimp only at h ⊢
   cases e2:stepOk m ann t with
   |false=>rw[e2]at h;cases h
   | true =>
    rw[e2]at h
    dsimp only at h ⊢
    cases e3:stepT (denote tb) p w s t with
    |none=>rw[e3]at h;cases h
    | some st =>
     obtain⟨s',t'⟩:=st
     rw[e3]at h
     rw[stepT_spec e3]
     exact Ug k h
def AhG:List Obj→Nat→BT→BT
 | [],_,t=>t
 |o::os,n,t=>AhG os (n+1) (t.ins n o)
noncomputable def Sx(w:World)(os:OsState):SharedT:=⟨AhG (boot_heap w.params).objs.toList 0 .nil,(boot_heap w.params).objs.size,(boot_heap w.params).life,Array.mk [],boot_drawn,boot_toks,os⟩
noncomputable def Bw(w:World)(os:OsState):Shared:=⟨boot_heap w.params,Array.mk [],boot_drawn,boot_toks,os⟩
def stays(p:Program)(s₀ s₁:Shared):Bool:=staticsOk (importedModules p.main.body) s₀.heap s₁.heap&&namesBound p s₁.heap&&gensDone s₁&&laidKept s₀.heap s₁.heap
theorem boot_abs:∀w os,(Sx w os).abs=Bw w os:=fun w os=>by kernel_rfl
theorem AfK{p:Program}{w:World}{N:Nat}{α:Type}{F:Shared→α}{g:α}(e:opening p=plainProg p.main.scope.names)(hN:Nat.ble 600 N=true)(f:∀s,fenceModules? p s=some s)
  (h:∀os,(Vx treeTable p w (Bw w os).heap.objs.size ((Bw w os).heap.nsMap mainGlobals "__annotations__") N (Sx w os) (topStub p)).map (fun r=>(stays p (Bw w os) r.abs,F r.abs))=some (true,g))
  (h0:∀os,((Bw w os).heap.isNs mainGlobals&&(Bw w os).gens.size==0)=true):(openEnds treeTable p w N).map F=some g:=by
 have hb:=boot_open e hN f w
 unfold openEnds
 cases q:fencedOpening treeTable p w N with
 |none=>rw[q]at hb;cases hb
 | some s =>
  rw[q]at hb
  have hs:s=Bw w s.os:=by
   obtain⟨a,b,c,d,o⟩:=s
   simp only[Option.map_some,Option.some.injEq,Prod.mk.injEq]at hb
   obtain⟨rfl,rfl,rfl,rfl⟩:=hb
   rfl
  generalize s.os=o at hs
  subst hs
  show(topFrom treeTable p w N (Bw w o)).map F=some g
  unfold topFrom
  rw[h0 o]
  have hh:=h o
  cases q2:Vx treeTable p w (Bw w o).heap.objs.size ((Bw w o).heap.nsMap mainGlobals "__annotations__") N (Sx w o) (topStub p)with
  |none=>rw[q2]at hh;cases hh
  | some r =>
   rw[q2]at hh
   have hr:=Ug N q2
   rw[boot_abs]at hr
   simp only[Option.map_some,Option.some.injEq,Prod.mk.injEq]at hh
   obtain⟨h1,h2⟩:=hh
   unfold stays at h1
   dsimp only
   rw[hr]
   show(match staticsOk (importedModules p.main.body) (Bw w o).heap r.abs.heap&&namesBound p r.abs.heap&&gensDone r.abs&&laidKept (Bw w o).heap r.abs.heap with
    |true=>some r.abs
    |false=>none).map F=some g
   rw[h1]
   exact congrArg some h2
noncomputable def TR(p:Program)(w:World)(os:OsState)(N:Nat):Option SharedT:=Vx treeTable p w (Bw w os).heap.objs.size ((Bw w os).heap.nsMap mainGlobals "__annotations__") N (Sx w os) (topStub p)
theorem Am6{p:Program}{w:World}{N:Nat}{α β:Type}{F:Shared→α}{G:Shared→β}{f':α}{g':β}(e:opening p=plainProg p.main.scope.names)(hN:Nat.ble 600 N=true)(f:∀s,fenceModules? p s=some s)
  (h1:∀os,(TR p w os N).map (fun r=>stays p (Bw w os) r.abs)=some true) (h2:∀os,(TR p w os N).map (fun r=>F r.abs)=some f') (h3:∀os,(TR p w os N).map (fun r=>G r.abs)=some g')
  (h0:∀os,((Bw w os).heap.isNs mainGlobals&&(Bw w os).gens.size==0)=true):(openEnds treeTable p w N).map (fun s=>(F s,G s))=some (f',g') :=
 AfK (F:=fun s=>(F s,G s)) e hN f (fun os=>by
  have a:=h1 os
  have b:=h2 os
  have c:=h3 os
  unfold TR at a b c
  revert a b c
  generalize Vx treeTable p w (Bw w os).heap.objs.size ((Bw w os).heap.nsMap mainGlobals "__annotations__") N (Sx w os) (topStub p)=o
  intro a b c
  cases o with
  |none=>cases a
  | some r =>
   simp only[Option.map_some,Option.some.injEq]at a b c ⊢
   rw[a,b,c]) h0
end My
namespace My
open PySem W
def goT(tb:String→Option Builtin)(p:Program)(w:World)(m:Nat)(ann:Option Value):Nat→SharedT→Thread→Option (SharedT×Thread)
 |0,s,t=>some (s,t)
 | k+1,s,t=>match through t with
  |true=>none
  | false=>match stepOk m ann t with
   |false=>none
   | true=>match stepT (denote tb) p w s t with
    |some (s',t')=>goT tb p w m ann k s' t'
    |none=>none
theorem AdW{tb:String→Option Builtin}{p:Program}{w:World}{m:Nat}{ann:Option Value}:∀(k:Nat){s s':SharedT}{t t':Thread},goT tb p w m ann k s t=some (s',t')→topGo tb p w m ann k s.abs t=some (s'.abs,t')
 |0,s,s',t,t',h=>by cases h;rfl
 | k+1,s,s',t,t',h=>by
  unfold goT at h
  unfold topGo
  cases e:through t with
  |true=>rw[e]at h;cases h
  | false =>
   rw[e]at h
   dsimp only at h ⊢
   cases e2:stepOk m ann t with
   |false=>rw[e2]at h;cases h
   | true =>
    rw[e2]at h
    dsimp only at h ⊢
    cases e3:stepT (denote tb) p w s t with
    |none=>rw[e3]at h;cases h
    | some st =>
     obtain⟨s2,t2⟩:=st
     rw[e3]at h
     rw[stepT_spec e3]
     exact AdW k h
theorem AdU{p:Program}{w:World}{N:Nat}{α:Type}{F:Shared→α}{g:α}(e:opening p=plainProg p.main.scope.names)(hN:Nat.ble 600 N=true)(f:∀s,fenceModules? p s=some s)
  (h:∀os,∃r:Shared,topRun treeTable p w (Bw w os).heap.objs.size ((Bw w os).heap.nsMap mainGlobals "__annotations__") N (Bw w os) (topStub p)=some r∧stays p (Bw w os) r=true∧F r=g)
  (h0:∀os,((Bw w os).heap.isNs mainGlobals&&(Bw w os).gens.size==0)=true):(openEnds treeTable p w N).map F=some g:=by
 have hb:=boot_open e hN f w
 unfold openEnds
 cases q:fencedOpening treeTable p w N with
 |none=>rw[q]at hb;cases hb
 | some s =>
  rw[q]at hb
  have hs:s=Bw w s.os:=by
   obtain⟨a,b,c,d,o⟩:=s
   simp only[Option.map_some,Option.some.injEq,Prod.mk.injEq]at hb
   obtain⟨rfl,rfl,rfl,rfl⟩:=hb
   rfl
  generalize s.os=o at hs
  subst hs
  show(topFrom treeTable p w N (Bw w o)).map F=some g
  unfold topFrom
  rw[h0 o]
  obtain⟨r,hr,h1,h2⟩:=h o
  unfold stays at h1
  dsimp only
  rw[hr]
  show(match staticsOk (importedModules p.main.body) (Bw w o).heap r.heap&&namesBound p r.heap&&gensDone r&&laidKept (Bw w o).heap r.heap with
   |true=>some r
   |false=>none).map F=some g
  rw[h1]
  exact congrArg some h2
theorem Aej{p:Program}{w:World}{N:Nat}{α β:Type}{F:Shared→α}{G:Shared→β}{f':α}{g':β}{TL:OsState→Option SharedT}(e:opening p=plainProg p.main.scope.names)(hN:Nat.ble 600 N=true)(f:∀s,fenceModules? p s=some s)
  (hr:∀os r,TL os=some r→topRun treeTable p w (Bw w os).heap.objs.size ((Bw w os).heap.nsMap mainGlobals "__annotations__") N (Bw w os) (topStub p)=some r.abs)
  (h1:∀os,(TL os).map (fun r=>stays p (Bw w os) r.abs)=some true) (h2:∀os,(TL os).map (fun r=>F r.abs)=some f') (h3:∀os,(TL os).map (fun r=>G r.abs)=some g')
  (h0:∀os,((Bw w os).heap.isNs mainGlobals&&(Bw w os).gens.size==0)=true):(openEnds treeTable p w N).map (fun s=>(F s,G s))=some (f',g') :=
 AdU (F:=fun s=>(F s,G s)) e hN f (fun os=>by
  have a:=h1 os
  have b:=h2 os
  have c:=h3 os
  have d:=hr os
  cases q:TL os with
  |none=>rw[q]at a;cases a
  | some r =>
   rw[q]at a b c
   simp only[Option.map_some,Option.some.injEq]at a b c
   exact⟨_,d r q,a,by rw[b,c]⟩) h0
end My
set_option maxRecDepth 1000000
set_option maxHeartbeats 0
namespace My
open PySem W
def tp(i:Nat):Stmt:=PySem.Challenge.pw_formcycle_k55_no_answers.main.body.getD i (.Pass ⟨0,0,0,0⟩)
def fA(s:Stmt):Arguments:=match s with
 |.FunctionDef _ a _ _ _ _ _ _ _ _=>a
 |_=>⟨[],[],none,[],[],none,[]⟩
def fB(s:Stmt):List Stmt:=match s with
 |.FunctionDef _ _ b _ _ _ _ _ _ _=>b
 |_=>[]
def fS(s:Stmt):Scope:=match s with
 |.FunctionDef _ _ _ _ _ _ c _ _ _=>c
 |_=>⟨.function,[],false,false,[]⟩
def inC(s:Stmt)(j:Nat):Stmt:=match s with
 |.ClassDef _ _ _ b _ _ _ _ _ _ _=>b.getD j (.Pass ⟨0,0,0,0⟩)
 |_=>.Pass ⟨0,0,0,0⟩
noncomputable section
abbrev O:=Obj
abbrev sT(s:String)(t:Nat):Value:=.str (.ofString s) t
abbrev iZ(n:Int):Value:=.int n 0
abbrev dE(P:Params)(s:String)(t:Nat)(v:Value):DictEntry:=.mk (PyData.keyHash P (.ofString s)) (.str (.ofString s) t) v
abbrev fO(n q:String)(w:Stmt)(m:String)(t c:Nat):Obj:=.mk (.type "function") none (Data.func (FuncData.mk (.ofString n) (.ofString q) (fA w) (.stmts (fB w)) (fS w) 3 [] .none .none .none (.str (.ofString m) t) none (.ref c) .none 0)) #[]
abbrev tO(a:Array Value):Obj:=.mk (.type "tuple") none (Data.seq a) #[]
abbrev cO(a:Array Value):Obj:=.mk (.type "code") none (Data.fields a) #[]
abbrev nO(a:Array Value):Obj:=.mk .none none (Data.fields a) #[]
abbrev mO(a:Array DictEntry):Obj:=.mk (.type "dict") none (Data.dict a) #[]
abbrev bO(a:Array Value):Obj:=.mk (.type "builtin_function_or_method") none (Data.fields a) #[]
abbrev Lf(o:Obj):BT:=.node o .nil .nil
abbrev Nd(o:Obj)(l r:BT):BT:=.node o l r
abbrev sF(t:Nat):Value:=.str (.ofString "/claim/cut.py") t
def tE:Obj:=.mk (.type "tuple") none (Data.seq #[]) #[]
abbrev cF(n q:String)(a l k r t:Nat):Obj:=.mk (.type "code") none (Data.fields #[.str (.ofString n) a,.str (.ofString q) (a+1),.str (.ofString "/claim/cut.py") (a+2),.int l 0,.int k 0,.int 0 0,.int 0 0,.int 3 0,.ref r,.bool true,.int 181 0,.ref (r+1),.none,.ref (r+2),.ref (r+3),.ref (r+4),.int t 0,.int l 0,.str (.ofString "/claim/cut.py") (t+1)]) #[]
abbrev pO(n q:String)(w:Stmt)(c:Nat):Obj:=.mk .none none (Data.func (FuncData.mk (.ofString n) (.ofString q) (fA w) (.stmts (fB w)) (fS w) 3 [] .none .none .none .none none (.ref c) .none 0)) #[]
abbrev rO(c l:Nat)(m:String)(t:Nat):Obj:=.mk (.type "frame") none Data.plain #[some (.ref c),some (.ref 3),some (.ref l),none,some (.str (.ofString m) t),none,some (.ref 0)]
abbrev sO(c:Nat):Obj:=.mk (.type "super") none (Data.fields #[.ref c,.ref c,.ref c]) #[]
abbrev dO(a:Array DictEntry)(n:Nat):Obj:=.mk (.type "dict") none (Data.dict a n) #[]
abbrev xO(n:String)(b c d e t u:Nat):Obj:=.mk (.type "type") none (Data.cls (ClassData.mk (.ofString n) [.ref b] [.ref c,.ref b,.type "ValueError",.type "Exception",.type "BaseException",.type "object"] d (.ofString n) true [] [] false none false)) #[some (.ref e),none,some (.str (.ofString n) t),some (.str (.ofString n) u),some (.builtin "ValueError.__new__"),some (.bool true)]
def o2:O:=.mk .none none (Data.dict #[]) #[]
def o3(P:Params):O:=dO #[dE P "__name__" 165 (sT "law_formcycle_k55_no_answers" 926),dE P "__doc__" 166 .none,dE P "__package__" 167 .none,dE P "__loader__" 168 (.builtin "__main__.__loader__#opaque"),dE P "__spec__" 169 .none,dE P "__annotations__" 170 (.ref 6),dE P "__builtins__" 171 (.ref 4),dE P "__file__" 173 (sF 172),dE P "__cached__" 174 .none,dE P "_wall" 193 (.ref 21),dE P "FormError" 213 (.ref 31),dE P "NoTurn" 238 (.ref 51),dE P "NoShape" 263 (.ref 70),dE P "TooGreat" 290 (.ref 89),dE P "NoRoot" 315 (.ref 108),dE P "NotLevel" 340 (.ref 127),dE P "NotOwn" 365 (.ref 146),dE P "Apart" 381 (.ref 158),dE P "NotPlain" 406 (.ref 177),dE P "NoMeasure" 431 (.ref 196),dE P "Nought" 447 (.ref 208),dE P "NoAnswer" 472 (.ref 227),dE P "shares" 485 (.ref 236),dE P "row_less" 494 (.ref 243),dE P "root" 503 (.ref 250),dE P "is_square" 511 (.ref 257),dE P "check_at_most" 519 (.ref 264),dE P "check_within" 527 (.ref 271),dE P "SAME" 534 (.ref 272),dE P "is_turn" 541 (.ref 279),dE P "check_turn" 548 (.ref 286),dE P "led" 556 (.ref 293),dE P "put_behind" 564 (.ref 300),dE P "back" 571 (.ref 307),dE P "measure" 580 (.ref 314),dE P "value" 590 (.ref 321),dE P "moved" 600 (.ref 328),dE P "middle" 610 (.ref 335),dE P "shape" 618 (.ref 342),dE P "check_bowl" 627 (.ref 349),dE P "stands_least" 637 (.ref 356),dE P "settled" 646 (.ref 363),dE P "turn_lower" 654 (.ref 370),dE P "own_turns" 660 (.ref 375),dE P "turns_of_least" 670 (.ref 382),dE P "turning_of_least" 677 (.ref 389),dE P "MOST_MEASURE" 681 (.int 4000 680),dE P "check_saddle" 688 (.ref 396),dE P "stands_level" 697 (.ref 403),dE P "turn_behind" 708 (.ref 410),dE P "stop_behind" 717 (.ref 417),dE P "eased" 726 (.ref 424),dE P "stops_round" 737 (.ref 431),dE P "lowered" 744 (.ref 438),dE P "Shape" 801 (.ref 476),dE P "Bowl" 825 (.ref 497),dE P "Saddle" 849 (.ref 516),dE P "shape_of" 856 (.ref 525),dE P "way_between" 864 (.ref 532),dE P "MOST_NUMBER" 868 (.int 400 867),dE P "heads" 874 (.ref 537),dE P "families" 887 (.ref 544),dE P "roots_of_square_divisors" 893 (.ref 549),dE P "feet" 899 (.ref 554),dE P "whence" 905 (.ref 559),dE P "turn_to_foot" 919 (.ref 566),dE P "all_answers" 925 (.ref 571),dE P "_law_told" 939 (.ref 578),dE P "_law_kinds" 948 (.ref 585),dE P "_law_good" 954 (.ref 590),dE P "_law_due" 968 (.ref 597),dE P "law" 985 (.ref 604)] 72
def o17:O:=tO #[sT "k" 190]
def o20:O:=cF "_wall" "_wall" 187 1 1 15 191
def o21:O:=fO "_wall" "_wall" (tp 0) "__main__" 164 20
def o22:O:=tO #[.type "ValueError"]
def o30(P:Params):O:=dO #[dE P "__module__" 203 (sT "formcycle.errors" 194),dE P "__firstlineno__" 207 (.int 5 206),dE P "__static_attributes__" 208 (.ref 29),dE P "__weakref__" 210 (.ref 32),dE P "__doc__" 211 .none] 3
def o31:O:=.mk (.type "type") none (Data.cls (ClassData.mk (.ofString "FormError") [.type "ValueError"] [.ref 31,.type "ValueError",.type "Exception",.type "BaseException",.type "object"] 30 (.ofString "FormError") Bool.true [] [.ref 51,.ref 70,.ref 89,.ref 108,.ref 127,.ref 146,.ref 158,.ref 177,.ref 196,.ref 208,.ref 227] Bool.false none Bool.false)) #[some (.ref 22),none,some (sT "FormError" 196),some (sT "FormError" 204),some (.builtin "ValueError.__new__"),some (.bool true)]
def o32:O:=.mk (.type "getset_descriptor") none (Data.fields #[sT "__weakref__" 209,.ref 31,.builtin "ExceptionGroup.__weakref__",.none]) #[]
def o35:O:=tO #[.ref 31]
def o44:O:=tO #[sT "self" 229,sT "turn" 230]
def o47:O:=cF "__init__" "NoTurn.__init__" 226 9 2 42 231
def o48:O:=fO "__init__" "NoTurn.__init__" (inC (tp 3) 0) "formcycle.errors" 194 47
def o49:O:=tO #[sT "turn" 234]
def o50(P:Params):O:=dO #[dE P "__module__" 221 (sT "formcycle.errors" 194),dE P "__firstlineno__" 225 (.int 7 224),dE P "__init__" 233 (.ref 48),dE P "__static_attributes__" 235 (.ref 49),dE P "__doc__" 236 .none] 2
def o51:O:=xO "NoTurn" 31 51 50 35 214 222
def o54:O:=tO #[.ref 31]
def o63:O:=tO #[sT "self" 254,sT "form" 255]
def o66:O:=cF "__init__" "NoShape.__init__" 251 13 2 61 256
def o67:O:=fO "__init__" "NoShape.__init__" (inC (tp 4) 0) "formcycle.errors" 194 66
def o68:O:=tO #[sT "form" 259]
def o69(P:Params):O:=dO #[dE P "__module__" 246 (sT "formcycle.errors" 194),dE P "__firstlineno__" 250 (.int 11 249),dE P "__init__" 258 (.ref 67),dE P "__static_attributes__" 260 (.ref 68),dE P "__doc__" 261 .none] 2
def o70:O:=xO "NoShape" 31 70 69 54 239 247
def o73:O:=tO #[.ref 31]
def o82:O:=tO #[sT "self" 279,sT "number" 280,sT "most" 281]
def o85:O:=cF "__init__" "TooGreat.__init__" 276 17 3 80 282
def o86:O:=fO "__init__" "TooGreat.__init__" (inC (tp 5) 0) "formcycle.errors" 194 85
def o87:O:=tO #[sT "most" 285,sT "number" 286]
def o88(P:Params):O:=dO #[dE P "__module__" 271 (sT "formcycle.errors" 194),dE P "__firstlineno__" 275 (.int 15 274),dE P "__init__" 284 (.ref 86),dE P "__static_attributes__" 287 (.ref 87),dE P "__doc__" 288 .none] 2
def o89:O:=xO "TooGreat" 31 89 88 73 264 272
def o92:O:=tO #[.ref 31]
def Ahi:O:=tO #[sT "self" 306,sT "number" 307]
def Ag9:O:=cF "__init__" "NoRoot.__init__" 303 22 2 99 308
def Ahv:O:=fO "__init__" "NoRoot.__init__" (inC (tp 6) 0) "formcycle.errors" 194 104
def Ags:O:=tO #[sT "number" 311]
def Af2(P:Params):O:=dO #[dE P "__module__" 298 (sT "formcycle.errors" 194),dE P "__firstlineno__" 302 (.int 20 301),dE P "__init__" 310 (.ref 105),dE P "__static_attributes__" 312 (.ref 106),dE P "__doc__" 313 .none] 2
def Agk:O:=xO "NoRoot" 31 108 107 92 291 299
def o111:O:=tO #[.ref 31]
def Aha:O:=tO #[sT "self" 331,sT "form" 332]
def Agy:O:=cF "__init__" "NotLevel.__init__" 328 26 2 118 333
def AfO:O:=fO "__init__" "NotLevel.__init__" (inC (tp 7) 0) "formcycle.errors" 194 123
def AfD:O:=tO #[sT "form" 336]
def AgW(P:Params):O:=dO #[dE P "__module__" 323 (sT "formcycle.errors" 194),dE P "__firstlineno__" 327 (.int 24 326),dE P "__init__" 335 (.ref 124),dE P "__static_attributes__" 337 (.ref 125),dE P "__doc__" 338 .none] 2
def AfV:O:=xO "NotLevel" 31 127 126 111 316 324
def Afz:O:=tO #[.ref 31]
def Ahx:O:=tO #[sT "self" 356,sT "turn" 357]
def AgM:O:=cF "__init__" "NotOwn.__init__" 353 30 2 137 358
def Afh:O:=fO "__init__" "NotOwn.__init__" (inC (tp 8) 0) "formcycle.errors" 194 142
def Ag0:O:=tO #[sT "turn" 361]
def AfE(P:Params):O:=dO #[dE P "__module__" 348 (sT "formcycle.errors" 194),dE P "__firstlineno__" 352 (.int 28 351),dE P "__init__" 360 (.ref 143),dE P "__static_attributes__" 362 (.ref 144),dE P "__doc__" 363 .none] 2
def Agr:O:=xO "NotOwn" 31 146 145 130 341 349
def AiG:O:=tO #[.ref 31]
def AiM(P:Params):O:=dO #[dE P "__module__" 373 (sT "formcycle.errors" 194),dE P "__firstlineno__" 377 (.int 32 376),dE P "__static_attributes__" 378 (.ref 156),dE P "__doc__" 379 .none] 2
def Aik:O:=xO "Apart" 31 158 157 149 366 374
def Akl:O:=tO #[.ref 31]
def AiS:O:=tO #[sT "self" 397,sT "form" 398]
def AjV:O:=cF "__init__" "NotPlain.__init__" 394 36 2 168 399
def AiI:O:=fO "__init__" "NotPlain.__init__" (inC (tp 10) 0) "formcycle.errors" 194 173
def Akf:O:=tO #[sT "form" 402]
def Ajo(P:Params):O:=dO #[dE P "__module__" 389 (sT "formcycle.errors" 194),dE P "__firstlineno__" 393 (.int 34 392),dE P "__init__" 401 (.ref 174),dE P "__static_attributes__" 403 (.ref 175),dE P "__doc__" 404 .none] 2
def AkF:O:=xO "NotPlain" 31 177 176 161 382 390
def Ajx:O:=tO #[.ref 31]
def Aku:O:=tO #[sT "self" 422,sT "number" 423]
def Akk:O:=cF "__init__" "NoMeasure.__init__" 419 40 2 187 424
def Akd:O:=fO "__init__" "NoMeasure.__init__" (inC (tp 11) 0) "formcycle.errors" 194 192
def AiO:O:=tO #[sT "number" 427]
def AjL(P:Params):O:=dO #[dE P "__module__" 414 (sT "formcycle.errors" 194),dE P "__firstlineno__" 418 (.int 38 417),dE P "__init__" 426 (.ref 193),dE P "__static_attributes__" 428 (.ref 194),dE P "__doc__" 429 .none] 2
def AkB:O:=xO "NoMeasure" 31 196 195 180 407 415
def Akt:O:=tO #[.ref 31]
def Ajp(P:Params):O:=dO #[dE P "__module__" 439 (sT "formcycle.errors" 194),dE P "__firstlineno__" 443 (.int 42 442),dE P "__static_attributes__" 444 (.ref 206),dE P "__doc__" 445 .none] 2
def AjT:O:=xO "Nought" 31 208 207 199 432 440
def Aj6:O:=tO #[.ref 31]
def Aiz:O:=tO #[sT "self" 463,sT "point" 464]
def Ajh:O:=cF "__init__" "NoAnswer.__init__" 460 46 2 218 465
def AkH:O:=fO "__init__" "NoAnswer.__init__" (inC (tp 13) 0) "formcycle.errors" 194 223
def Akz:O:=tO #[sT "point" 468]
def AjS(P:Params):O:=dO #[dE P "__module__" 455 (sT "formcycle.errors" 194),dE P "__firstlineno__" 459 (.int 44 458),dE P "__init__" 467 (.ref 224),dE P "__static_attributes__" 469 (.ref 225),dE P "__doc__" 470 .none] 2
def AkL:O:=xO "NoAnswer" 31 227 226 211 448 456
def Akb:O:=tO #[sT "one" 478,sT "other" 479,sT "row" 480,sT "lower" 481,sT "rest" 482]
def Ai9:O:=cF "shares" "shares" 475 49 2 230 483
def AjO:O:=fO "shares" "shares" (tp 15) "formcycle.wholes" 473 235
def AkI:O:=tO #[sT "row" 489,sT "lower" 490,sT "often" 491]
def Ajq:O:=cF "row_less" "row_less" 486 59 3 237 492
def Ai4:O:=fO "row_less" "row_less" (tp 16) "formcycle.wholes" 473 242
def Aj8:O:=tO #[sT "number" 498,sT "guess" 499,sT "better" 500]
def AiB:O:=cF "root" "root" 495 61 1 244 501
def Ajm:O:=fO "root" "root" (tp 17) "formcycle.wholes" 473 249
def AjW:O:=tO #[sT "number" 507,sT "side" 508]
def Ail:O:=cF "is_square" "is_square" 504 72 1 251 509
def Aky:O:=fO "is_square" "is_square" (tp 18) "formcycle.wholes" 473 256
def AiK:O:=tO #[sT "number" 515,sT "most" 516]
def Ai6:O:=cF "check_at_most" "check_at_most" 512 77 2 258 517
def Ai8:O:=fO "check_at_most" "check_at_most" (tp 19) "formcycle.wholes" 473 263
def AiN:O:=tO #[sT "number" 523,sT "most" 524]
def AiX:O:=cF "check_within" "check_within" 520 80 2 265 525
def Aj1:O:=fO "check_within" "check_within" (tp 20) "formcycle.wholes" 473 270
def Ajw:O:=tO #[.int 1 530,.int 0 531,.int 0 532,.int 1 533]
def AjK:O:=tO #[sT "turn" 538]
def AjZ:O:=cF "is_turn" "is_turn" 535 85 1 273 539
def Aj0:O:=fO "is_turn" "is_turn" (tp 23) "formcycle.turns" 528 278
def Aiv:O:=tO #[sT "turn" 545]
def AjE:O:=cF "check_turn" "check_turn" 542 87 1 280 546
def Aj9:O:=fO "check_turn" "check_turn" (tp 24) "formcycle.turns" 528 285
def Ain:O:=tO #[sT "turn" 552,sT "point" 553]
def Aiq:O:=cF "led" "led" 549 90 2 287 554
def AiH:O:=fO "led" "led" (tp 25) "formcycle.turns" 528 292
def AkA:O:=tO #[sT "one" 560,sT "other" 561]
def Ajg:O:=cF "put_behind" "put_behind" 557 93 2 294 562
def o300:O:=fO "put_behind" "put_behind" (tp 26) "formcycle.turns" 528 299
def Akw:O:=tO #[sT "turn" 568]
def Aim:O:=cF "back" "back" 565 95 1 301 569
def Ajf:O:=fO "back" "back" (tp 27) "formcycle.turns" 528 306
def Amw:O:=tO #[sT "form" 577]
def Ank:O:=cF "measure" "measure" 574 99 1 308 578
def AkP:O:=fO "measure" "measure" (tp 29) "formcycle.forms" 572 313
def Alo:O:=tO #[sT "form" 584,sT "point" 585,sT "x" 586,sT "y" 587]
def Ak3:O:=cF "value" "value" 581 101 2 315 588
def Ano:O:=fO "value" "value" (tp 30) "formcycle.forms" 572 320
def AkN:O:=tO #[sT "form" 594,sT "turn" 595,sT "left" 596,sT "right" 597]
def AnH:O:=cF "moved" "moved" 591 105 2 322 598
def AlQ:O:=fO "moved" "moved" (tp 31) "formcycle.forms" 572 327
def Als:O:=tO #[sT "form" 604,sT "left" 605,sT "right" 606,sT "crossed" 607]
def Ani:O:=cF "middle" "middle" 601 110 3 329 608
def Anq:O:=fO "middle" "middle" (tp 32) "formcycle.forms" 572 334
def AmM:O:=tO #[sT "form" 614,sT "number" 615]
def Amh:O:=cF "shape" "shape" 611 113 1 336 616
def AnA:O:=fO "shape" "shape" (tp 33) "formcycle.forms" 572 341
def Al8:O:=tO #[sT "form" 624]
def AmW:O:=cF "check_bowl" "check_bowl" 621 123 1 343 625
def Ak6:O:=fO "check_bowl" "check_bowl" (tp 35) "formcycle.bowls" 619 348
def Amz:O:=tO #[sT "form" 631,sT "a" 632,sT "b" 633,sT "c" 634]
def AlO:O:=cF "stands_least" "stands_least" 628 126 1 350 635
def AnK:O:=fO "stands_least" "stands_least" (tp 36) "formcycle.bowls" 619 355
def Ame:O:=tO #[sT "form" 641,sT "turn" 642,sT "lowering" 643]
def Anr:O:=cF "settled" "settled" 638 133 1 357 644
def Ald:O:=fO "settled" "settled" (tp 37) "formcycle.bowls" 619 362
def Am0:O:=tO #[sT "form" 650,sT "often" 651]
def Anm:O:=cF "turn_lower" "turn_lower" 647 141 1 364 652
def Ak7:O:=fO "turn_lower" "turn_lower" (tp 38) "formcycle.bowls" 619 369
def AkV:O:=cO #[sT "own_turns" 655,sT "own_turns" 656,sF 657,iZ 146,iZ 1,iZ 0,iZ 0,iZ 3,.ref 371,.bool true,iZ 181,.ref 372,.none,.none,.none,.ref 373,iZ 658,iZ 146,sF 659]
def AnW:O:=fO "own_turns" "own_turns" (tp 39) "formcycle.bowls" 619 374
def AmT:O:=tO #[sT "form" 664,sT "turning" 665,sT "turns" 666,sT "came" 667]
def AlF:O:=cF "turns_of_least" "turns_of_least" 661 151 1 376 668
def AmL:O:=fO "turns_of_least" "turns_of_least" (tp 40) "formcycle.bowls" 619 381
def AlJ:O:=tO #[sT "form" 674]
def AnT:O:=cF "turning_of_least" "turning_of_least" 671 159 1 383 675
def Amb:O:=fO "turning_of_least" "turning_of_least" (tp 41) "formcycle.bowls" 619 388
def AlE:O:=tO #[sT "form" 685]
def Amd:O:=cF "check_saddle" "check_saddle" 682 167 1 390 686
def AlW:O:=fO "check_saddle" "check_saddle" (tp 44) "formcycle.saddles" 678 395
def Alk:O:=tO #[sT "form" 692,sT "far" 693,sT "b" 694]
def Anx:O:=cF "stands_level" "stands_level" 689 171 2 397 695
def An3:O:=fO "stands_level" "stands_level" (tp 45) "formcycle.saddles" 678 402
def AlR:O:=tO #[sT "form" 701,sT "top" 702,sT "b" 703,sT "c" 704,sT "d" 705]
def AmR:O:=cF "turn_behind" "turn_behind" 698 174 2 404 706
def Am9:O:=fO "turn_behind" "turn_behind" (tp 46) "formcycle.saddles" 678 409
def AlB:O:=tO #[sT "stop" 712,sT "top" 713,sT "turn" 714]
def Aml:O:=cF "stop_behind" "stop_behind" 709 179 2 411 715
def AlU:O:=fO "stop_behind" "stop_behind" (tp 47) "formcycle.saddles" 678 416
def Anh:O:=tO #[sT "form" 721,sT "far" 722,sT "stop" 723]
def AnG:O:=cF "eased" "eased" 718 182 1 418 724
def AkW:O:=fO "eased" "eased" (tp 48) "formcycle.saddles" 678 423
def Am5:O:=tO #[sT "form" 730,sT "far" 731,sT "first" 732,sT "stops" 733,sT "stop" 734]
def Amu:O:=cF "stops_round" "stops_round" 727 189 1 425 735
def AnB:O:=fO "stops_round" "stops_round" (tp 49) "formcycle.saddles" 678 430
def Alq:O:=tO #[sT "form" 741]
def AnZ:O:=cF "lowered" "lowered" 738 199 1 432 742
def Amm:O:=fO "lowered" "lowered" (tp 50) "formcycle.saddles" 678 437
def Amn:O:=tO #[sT "self" 762,sT "form" 763,sT "lowest" 764]
def Alm:O:=cF "__init__" "Shape.__init__" 759 205 3 446 765
def AlP:O:=fO "__init__" "Shape.__init__" (inC (tp 52) 0) "formcycle.shapes" 745 451
def Amr:O:=tO #[sT "self" 771]
def AnU:O:=cF "least" "Shape.least" 768 210 1 453 772
def Ak1:O:=fO "least" "Shape.least" (inC (tp 52) 1) "formcycle.shapes" 745 458
def Amj:O:=tO #[sT "self" 778,sT "turn" 779]
def AnS:O:=cF "leaves" "Shape.leaves" 775 213 2 460 780
def Anf:O:=fO "leaves" "Shape.leaves" (inC (tp 52) 2) "formcycle.shapes" 745 465
def Amv:O:=tO #[sT "self" 786,sT "other" 787]
def Ala:O:=cF "way_to" "Shape.way_to" 783 216 2 467 788
def AlA:O:=fO "way_to" "Shape.way_to" (inC (tp 52) 3) "formcycle.shapes" 745 472
def AkO:O:=tO #[sT "form" 791,sT "lowest" 792,sT "measure" 793]
def AkX(P:Params):O:=dO #[dE P "__module__" 754 (sT "formcycle.shapes" 745),dE P "__firstlineno__" 758 (.int 203 757),dE P "__init__" 767 (.ref 452),dE P "least" 774 (.ref 459),dE P "leaves" 782 (.ref 466),dE P "way_to" 790 (.ref 473),dE P "__static_attributes__" 794 (.ref 474),dE P "__dict__" 796 (.ref 477),dE P "__weakref__" 798 (.ref 478),dE P "__doc__" 799 .none] 4
def An1:O:=.mk (.type "type") none (Data.cls (ClassData.mk (.ofString "Shape") [.type "object"] [.ref 476,.type "object"] 475 (.ofString "Shape") Bool.true [] [.ref 497,.ref 516] Bool.false none Bool.false)) #[none,none,some (sT "Shape" 747),some (sT "Shape" 755),some (.builtin "object.__new__"),some (.bool true)]
def AnJ:O:=.mk (.type "getset_descriptor") none (Data.fields #[sT "__dict__" 795,.ref 476,.builtin "function.__dict__",.builtin "function.__dict__#set"]) #[]
def AnL:O:=.mk (.type "getset_descriptor") none (Data.fields #[sT "__weakref__" 797,.ref 476,.builtin "ExceptionGroup.__weakref__",.none]) #[]
def Ama:O:=tO #[.ref 476]
def AlD:O:=tO #[sT "self" 817,sT "form" 818]
def AnF:O:=cF "__init__" "Bowl.__init__" 814 222 2 488 819
def AkR:O:=fO "__init__" "Bowl.__init__" (inC (tp 53) 0) "formcycle.shapes" 745 493
def An5(P:Params):O:=dO #[dE P "__module__" 809 (sT "formcycle.shapes" 745),dE P "__firstlineno__" 813 (.int 220 812),dE P "__init__" 821 (.ref 494),dE P "__static_attributes__" 822 (.ref 495),dE P "__doc__" 823 .none] 2
def Ana:O:=.mk (.type "type") none (Data.cls (ClassData.mk (.ofString "Bowl") [.ref 476] [.ref 497,.ref 476,.type "object"] 496 (.ofString "Bowl") Bool.true [] [] Bool.false none Bool.false)) #[some (.ref 481),none,some (sT "Bowl" 802),some (sT "Bowl" 810),some (.builtin "object.__new__"),some (.bool true)]
def AlX:O:=tO #[.ref 476]
def AmO:O:=tO #[sT "self" 841,sT "form" 842]
def Alx:O:=cF "__init__" "Saddle.__init__" 838 226 2 507 843
def AkU:O:=fO "__init__" "Saddle.__init__" (inC (tp 54) 0) "formcycle.shapes" 745 512
def AnR(P:Params):O:=dO #[dE P "__module__" 833 (sT "formcycle.shapes" 745),dE P "__firstlineno__" 837 (.int 224 836),dE P "__init__" 845 (.ref 513),dE P "__static_attributes__" 846 (.ref 514),dE P "__doc__" 847 .none] 2
def Am1:O:=.mk (.type "type") none (Data.cls (ClassData.mk (.ofString "Saddle") [.ref 476] [.ref 516,.ref 476,.type "object"] 515 (.ofString "Saddle") Bool.true [] [] Bool.false none Bool.false)) #[some (.ref 500),none,some (sT "Saddle" 826),some (sT "Saddle" 834),some (.builtin "object.__new__"),some (.bool true)]
def AmG:O:=tO #[sT "form" 853]
def Ans:O:=cF "shape_of" "shape_of" 850 228 1 519 854
def Ane:O:=fO "shape_of" "shape_of" (tp 55) "formcycle.shapes" 745 524
def AmB:O:=tO #[sT "one" 860,sT "other" 861]
def Al7:O:=cF "way_between" "way_between" 857 232 2 526 862
def AnD:O:=fO "way_between" "way_between" (tp 56) "formcycle.shapes" 745 531
def AoH:O:=cO #[sT "heads" 869,sT "heads" 870,sF 871,iZ 238,iZ 2,iZ 0,iZ 0,iZ 3,.ref 533,.bool true,iZ 181,.ref 534,.none,.none,.none,.ref 535,iZ 872,iZ 238,sF 873]
def Aph:O:=fO "heads" "heads" (tp 59) "formcycle.answers" 865 536
def Ao0:O:=tO #[sT "form" 878,sT "number" 879,sT "whole" 880,sT "found" 881,sT "g" 882,sT "foot" 883,sT "turn" 884]
def Aoi:O:=cF "families" "families" 875 240 2 538 885
def Apm:O:=fO "families" "families" (tp 60) "formcycle.answers" 865 543
def AoV:O:=cO #[sT "roots_of_square_divisors" 888,sT "roots_of_square_divisors" 889,sF 890,iZ 252,iZ 1,iZ 0,iZ 0,iZ 3,.ref 545,.bool true,iZ 181,.ref 546,.none,.none,.none,.ref 547,iZ 891,iZ 252,sF 892]
def AoC:O:=fO "roots_of_square_divisors" "roots_of_square_divisors" (tp 61) "formcycle.answers" 865 548
def Aol:O:=cO #[sT "feet" 894,sT "feet" 895,sF 896,iZ 254,iZ 2,iZ 0,iZ 0,iZ 3,.ref 550,.bool true,iZ 181,.ref 551,.none,.none,.none,.ref 552,iZ 897,iZ 254,sF 898]
def Ao5:O:=fO "feet" "feet" (tp 62) "formcycle.answers" 865 553
def AoX:O:=cO #[sT "whence" 900,sT "whence" 901,sF 902,iZ 257,iZ 3,iZ 0,iZ 0,iZ 3,.ref 555,.bool true,iZ 181,.ref 556,.none,.none,.none,.ref 557,iZ 903,iZ 257,sF 904]
def Apq:O:=fO "whence" "whence" (tp 63) "formcycle.answers" 865 558
def Apk:O:=tO #[sT "form" 909,sT "point" 910,sT "common" 911,sT "g" 912,sT "turn" 913,sT "stands" 914,sT "twice" 915,sT "often" 916]
def AoQ:O:=cF "turn_to_foot" "turn_to_foot" 906 264 2 560 917
def Api:O:=fO "turn_to_foot" "turn_to_foot" (tp 64) "formcycle.answers" 865 565
def AoI:O:=cO #[sT "all_answers" 920,sT "all_answers" 921,sF 922,iZ 272,iZ 2,iZ 0,iZ 0,iZ 3,.ref 567,.bool true,iZ 181,.ref 568,.none,.none,.none,.ref 569,iZ 923,iZ 272,sF 924]
def Apt:O:=fO "all_answers" "all_answers" (tp 65) "formcycle.answers" 865 570
def Aok:O:=tO #[sT "_law_way" 931,sT "_law_form" 932,sT "_law_number" 933,sT "_law_point" 934,sT "_law_told_here" 935,sT "e" 936]
def AoD:O:=cF "_law_told" "_law_told" 928 283 4 572 937
def Aof:O:=fO "_law_told" "_law_told" (tp 67) "law_formcycle_k55_no_answers" 926 577
def Aox:O:=tO #[sT "_law_told_here" 943,sT "_law_found" 944,sT "_law_others" 945]
def AoE:O:=cF "_law_kinds" "_law_kinds" 940 295 1 579 946
def Aos:O:=fO "_law_kinds" "_law_kinds" (tp 68) "law_formcycle_k55_no_answers" 926 584
def AoU:O:=cO #[sT "_law_good" 949,sT "_law_good" 950,sF 951,iZ 300,iZ 3,iZ 0,iZ 0,iZ 3,.ref 586,.bool true,iZ 181,.ref 587,.none,.none,.none,.ref 588,iZ 952,iZ 300,sF 953]
def Apg:O:=fO "_law_good" "_law_good" (tp 69) "law_formcycle_k55_no_answers" 926 589
def Ao6:O:=tO #[sT "_law_way" 958,sT "_law_kind" 959,sT "_law_form" 960,sT "_law_number" 961,sT "_law_point" 962,sT "_law_x" 963,sT "_law_y" 964,sT "_law_taken" 965]
def Aoz:O:=cF "_law_due" "_law_due" 955 310 5 591 966
def AoA:O:=fO "_law_due" "_law_due" (tp 70) "law_formcycle_k55_no_answers" 926 596
def o600:O:=tO #[sT "_law_script" 972,sT "_law_cell" 973,sT "_law_far" 974,sT "_law_kind" 975,sT "_law_flat" 976,sT "_law_wide" 977,sT "_law_form" 978,sT "_law_number" 979,sT "_law_point" 980,sT "_law_due_here" 981,sT "_law_field" 982]
def Ape:O:=cF "law" "law" 969 324 1 598 983
def Aov:O:=fO "law" "law" (tp 71) "law_formcycle_k55_no_answers" 926 603
def KK:Params→Frag :=
fun P=>(nat_lit 2,o2)::(nat_lit 3,o3 P)::(nat_lit 15,tE)::(nat_lit 17,o17)::(nat_lit 18,tE)::(nat_lit 20,o20)::(nat_lit 21,o21)::(nat_lit 22,o22)::(nat_lit 29,tE)::(nat_lit 30,o30 P)::(nat_lit 31,o31)::(nat_lit 32,o32)::(nat_lit 35,o35)::(nat_lit 42,tE)::(nat_lit 44,o44)::(nat_lit 45,tE)::(nat_lit 47,o47)::(nat_lit 48,o48)::(nat_lit 49,o49)::(nat_lit 50,o50 P)::(nat_lit 51,o51)::(nat_lit 54,o54)::(nat_lit 61,tE)::(nat_lit 63,o63)::(nat_lit 64,tE)::(nat_lit 66,o66)::(nat_lit 67,o67)::(nat_lit 68,o68)::(nat_lit 69,o69 P)::(nat_lit 70,o70)::(nat_lit 73,o73)::(nat_lit 80,tE)::(nat_lit 82,o82)::(nat_lit 83,tE)::(nat_lit 85,o85)::(nat_lit 86,o86)::(nat_lit 87,o87)::(nat_lit 88,o88 P)::(nat_lit 89,o89)::(nat_lit 92,o92)::(nat_lit 99,tE)::(nat_lit 101,Ahi)::(nat_lit 102,tE)::(nat_lit 104,Ag9)::(nat_lit 105,Ahv)::(nat_lit 106,Ags)::(nat_lit 107,Af2 P)::(nat_lit 108,Agk)::(nat_lit 111,o111)::(nat_lit 118,tE)::(nat_lit 120,Aha)::(nat_lit 121,tE)::(nat_lit 123,Agy)::(nat_lit 124,AfO)::(nat_lit 125,AfD)::(nat_lit 126,AgW P)::(nat_lit 127,AfV)::(nat_lit 130,Afz)::(nat_lit 137,tE)::(nat_lit 139,Ahx)::(nat_lit 140,tE)::(nat_lit 142,AgM)::(nat_lit 143,Afh)::(nat_lit 144,Ag0)::(nat_lit 145,AfE P)::(nat_lit 146,Agr)::(nat_lit 149,AiG)::(nat_lit 156,tE)::(nat_lit 157,AiM P)::(nat_lit 158,Aik)::(nat_lit 161,Akl)::(nat_lit 168,tE)::(nat_lit 170,AiS)::(nat_lit 171,tE)::(nat_lit 173,AjV)::(nat_lit 174,AiI)::(nat_lit 175,Akf)::(nat_lit 176,Ajo P)::(nat_lit 177,AkF)::(nat_lit 180,Ajx)::(nat_lit 187,tE)::(nat_lit 189,Aku)::(nat_lit 190,tE)::(nat_lit 192,Akk)::(nat_lit 193,Akd)::(nat_lit 194,AiO)::(nat_lit 195,AjL P)::(nat_lit 196,AkB)::(nat_lit 199,Akt)::(nat_lit 206,tE)::(nat_lit 207,Ajp P)::(nat_lit 208,AjT)::(nat_lit 211,Aj6)::(nat_lit 218,tE)::(nat_lit 220,Aiz)::(nat_lit 221,tE)::(nat_lit 223,Ajh)::(nat_lit 224,AkH)::(nat_lit 225,Akz)::(nat_lit 226,AjS P)::(nat_lit 227,AkL)::(nat_lit 230,tE)::(nat_lit 232,Akb)::(nat_lit 233,tE)::(nat_lit 235,Ai9)::(nat_lit 236,AjO)::(nat_lit 237,tE)::(nat_lit 239,AkI)::(nat_lit 240,tE)::(nat_lit 242,Ajq)::(nat_lit 243,Ai4)::(nat_lit 244,tE)::(nat_lit 246,Aj8)::(nat_lit 247,tE)::(nat_lit 249,AiB)::(nat_lit 250,Ajm)::(nat_lit 251,tE)::(nat_lit 253,AjW)::(nat_lit 254,tE)::(nat_lit 256,Ail)::(nat_lit 257,Aky)::(nat_lit 258,tE)::(nat_lit 260,AiK)::(nat_lit 261,tE)::(nat_lit 263,Ai6)::(nat_lit 264,Ai8)::(nat_lit 265,tE)::(nat_lit 267,AiN)::(nat_lit 268,tE)::(nat_lit 270,AiX)::(nat_lit 271,Aj1)::(nat_lit 272,Ajw)::(nat_lit 273,tE)::(nat_lit 275,AjK)::(nat_lit 276,tE)::(nat_lit 278,AjZ)::(nat_lit 279,Aj0)::(nat_lit 280,tE)::(nat_lit 282,Aiv)::(nat_lit 283,tE)::(nat_lit 285,AjE)::(nat_lit 286,Aj9)::(nat_lit 287,tE)::(nat_lit 289,Ain)::(nat_lit 290,tE)::(nat_lit 292,Aiq)::(nat_lit 293,AiH)::(nat_lit 294,tE)::(nat_lit 296,AkA)::(nat_lit 297,tE)::(nat_lit 299,Ajg)::(nat_lit 300,o300)::(nat_lit 301,tE)::(nat_lit 303,Akw)::(nat_lit 304,tE)::(nat_lit 306,Aim)::(nat_lit 307,Ajf)::(nat_lit 308,tE)::(nat_lit 310,Amw)::(nat_lit 311,tE)::(nat_lit 313,Ank)::(nat_lit 314,AkP)::(nat_lit 315,tE)::(nat_lit 317,Alo)::(nat_lit 318,tE)::(nat_lit 320,Ak3)::(nat_lit 321,Ano)::(nat_lit 322,tE)::(nat_lit 324,AkN)::(nat_lit 325,tE)::(nat_lit 327,AnH)::(nat_lit 328,AlQ)::(nat_lit 329,tE)::(nat_lit 331,Als)::(nat_lit 332,tE)::(nat_lit 334,Ani)::(nat_lit 335,Anq)::(nat_lit 336,tE)::(nat_lit 338,AmM)::(nat_lit 339,tE)::(nat_lit 341,Amh)::(nat_lit 342,AnA)::(nat_lit 343,tE)::(nat_lit 345,Al8)::(nat_lit 346,tE)::(nat_lit 348,AmW)::(nat_lit 349,Ak6)::(nat_lit 350,tE)::(nat_lit 352,Amz)::(nat_lit 353,tE)::(nat_lit 355,AlO)::(nat_lit 356,AnK)::(nat_lit 357,tE)::(nat_lit 359,Ame)::(nat_lit 360,tE)::(nat_lit 362,Anr)::(nat_lit 363,Ald)::(nat_lit 364,tE)::(nat_lit 366,Am0)::(nat_lit 367,tE)::(nat_lit 369,Anm)::(nat_lit 370,Ak7)::(nat_lit 371,tE)::(nat_lit 374,AkV)::(nat_lit 375,AnW)::(nat_lit 376,tE)::(nat_lit 378,AmT)::(nat_lit 379,tE)::(nat_lit 381,AlF)::(nat_lit 382,AmL)::(nat_lit 383,tE)::(nat_lit 385,AlJ)::(nat_lit 386,tE)::(nat_lit 388,AnT)::(nat_lit 389,Amb)::(nat_lit 390,tE)::(nat_lit 392,AlE)::(nat_lit 393,tE)::(nat_lit 395,Amd)::(nat_lit 396,AlW)::(nat_lit 397,tE)::(nat_lit 399,Alk)::(nat_lit 400,tE)::(nat_lit 402,Anx)::(nat_lit 403,An3)::(nat_lit 404,tE)::(nat_lit 406,AlR)::(nat_lit 407,tE)::(nat_lit 409,AmR)::(nat_lit 410,Am9)::(nat_lit 411,tE)::(nat_lit 413,AlB)::(nat_lit 414,tE)::(nat_lit 416,Aml)::(nat_lit 417,AlU)::(nat_lit 418,tE)::(nat_lit 420,Anh)::(nat_lit 421,tE)::(nat_lit 423,AnG)::(nat_lit 424,AkW)::(nat_lit 425,tE)::(nat_lit 427,Am5)::(nat_lit 428,tE)::(nat_lit 430,Amu)::(nat_lit 431,AnB)::(nat_lit 432,tE)::(nat_lit 434,Alq)::(nat_lit 435,tE)::(nat_lit 437,AnZ)::(nat_lit 438,Amm)::(nat_lit 446,tE)::(nat_lit 448,Amn)::(nat_lit 449,tE)::(nat_lit 451,Alm)::(nat_lit 452,AlP)::(nat_lit 453,tE)::(nat_lit 455,Amr)::(nat_lit 456,tE)::(nat_lit 458,AnU)::(nat_lit 459,Ak1)::(nat_lit 460,tE)::(nat_lit 462,Amj)::(nat_lit 463,tE)::(nat_lit 465,AnS)::(nat_lit 466,Anf)::(nat_lit 467,tE)::(nat_lit 469,Amv)::(nat_lit 470,tE)::(nat_lit 472,Ala)::(nat_lit 473,AlA)::(nat_lit 474,AkO)::(nat_lit 475,AkX P)::(nat_lit 476,An1)::(nat_lit 477,AnJ)::(nat_lit 478,AnL)::(nat_lit 481,Ama)::(nat_lit 488,tE)::(nat_lit 490,AlD)::(nat_lit 491,tE)::(nat_lit 493,AnF)::(nat_lit 494,AkR)::(nat_lit 495,tE)::(nat_lit 496,An5 P)::(nat_lit 497,Ana)::(nat_lit 500,AlX)::(nat_lit 507,tE)::(nat_lit 509,AmO)::(nat_lit 510,tE)::(nat_lit 512,Alx)::(nat_lit 513,AkU)::(nat_lit 514,tE)::(nat_lit 515,AnR P)::(nat_lit 516,Am1)::(nat_lit 519,tE)::(nat_lit 521,AmG)::(nat_lit 522,tE)::(nat_lit 524,Ans)::(nat_lit 525,Ane)::(nat_lit 526,tE)::(nat_lit 528,AmB)::(nat_lit 529,tE)::(nat_lit 531,Al7)::(nat_lit 532,AnD)::(nat_lit 533,tE)::(nat_lit 536,AoH)::(nat_lit 537,Aph)::(nat_lit 538,tE)::(nat_lit 540,Ao0)::(nat_lit 541,tE)::(nat_lit 543,Aoi)::(nat_lit 544,Apm)::(nat_lit 545,tE)::(nat_lit 548,AoV)::(nat_lit 549,AoC)::(nat_lit 550,tE)::(nat_lit 553,Aol)::(nat_lit 554,Ao5)::(nat_lit 555,tE)::(nat_lit 558,AoX)::(nat_lit 559,Apq)::(nat_lit 560,tE)::(nat_lit 562,Apk)::(nat_lit 563,tE)::(nat_lit 565,AoQ)::(nat_lit 566,Api)::(nat_lit 567,tE)::(nat_lit 570,AoI)::(nat_lit 571,Apt)::(nat_lit 572,tE)::(nat_lit 574,Aok)::(nat_lit 575,tE)::(nat_lit 577,AoD)::(nat_lit 578,Aof)::(nat_lit 579,tE)::(nat_lit 581,Aox)::(nat_lit 582,tE)::(nat_lit 584,AoE)::(nat_lit 585,Aos)::(nat_lit 586,tE)::(nat_lit 589,AoU)::(nat_lit 590,Apg)::(nat_lit 591,tE)::(nat_lit 593,Ao6)::(nat_lit 594,tE)::(nat_lit 596,Aoz)::(nat_lit 597,AoA)::(nat_lit 598,tE)::(nat_lit 600,o600)::(nat_lit 601,tE)::(nat_lit 603,Ape)::(nat_lit 604,Aov)::[]
def Az:O:=nO #[]
def Z8:O:=cO #[sT "<module>" 182,sT "<module>" 183,sF 184,iZ 1,iZ 0,iZ 0,iZ 0,iZ 0,.ref 11,.bool false,iZ 181,.ref 12,.none,.none,.none,.none,iZ 185,iZ 1,sF 186]
def ZP:O:=rO 13 3 "__main__" 164
def Aom(P:Params):O:=dO #[dE P "__name__" 165 (sT "formcycle.errors" 194),dE P "__doc__" 166 .none,dE P "__package__" 167 .none,dE P "__loader__" 168 (.builtin "__main__.__loader__#opaque"),dE P "__spec__" 169 .none,dE P "__annotations__" 170 (.ref 6),dE P "__builtins__" 171 (.ref 4),dE P "__file__" 173 (sF 172),dE P "__cached__" 174 .none,dE P "_wall" 193 (.ref 21),dE P "FormError" 213 (.ref 31),dE P "NoTurn" 238 (.ref 51),dE P "NoShape" 263 (.ref 70),dE P "TooGreat" 290 (.ref 89),dE P "NoRoot" 315 (.ref 108),dE P "NotLevel" 340 (.ref 127),dE P "NotOwn" 365 (.ref 146)] 17
def Anw:O:=nO #[iZ 1,iZ 0,.ref 20,iZ 5,iZ 0,.ref 27,iZ 7,iZ 0,.ref 40,iZ 11,iZ 0,.ref 59,iZ 15,iZ 0,.ref 78,iZ 20,iZ 0,.ref 97,iZ 24,iZ 0,.ref 116,iZ 28,iZ 0,.ref 135]
abbrev fNq(n q:String)(w:Stmt):O:=.mk .none none (Data.func (FuncData.mk (.ofString n) (.ofString q) (fA w) (.stmts (fB w)) (fS w) 0 [] .none .none .none .none none .none .none 0)) #[]
def Ad0:O:=fNq "_wall" "_wall" (tp 0)
def Ci:O:=bO #[.builtin "type.__prepare__",.type "type"]
def Aex(P:Params):O:=dO #[dE P "__module__" 203 (sT "formcycle.errors" 194),dE P "__qualname__" 205 (sT "FormError" 204),dE P "__firstlineno__" 207 (.int 5 206),dE P "__static_attributes__" 208 (.ref 29)] 4
def Ac8:O:=cO #[sT "FormError" 198,sT "FormError" 199,sF 200,iZ 5,iZ 0,iZ 0,iZ 0,iZ 0,.ref 25,.bool false,iZ 181,.ref 26,.none,.none,.none,.none,iZ 201,iZ 5,sF 202]
def AeY:O:=rO 27 24 "formcycle.errors" 194
def AlM:O:=.mk (.type "type") none (Data.cls (ClassData.mk (.ofString "FormError") [.type "ValueError"] [.ref 31,.type "ValueError",.type "Exception",.type "BaseException",.type "object"] 30 (.ofString "FormError") Bool.true [] [.ref 51,.ref 70,.ref 89,.ref 108,.ref 127,.ref 146] Bool.false none Bool.false)) #[some (.ref 22),none,some (sT "FormError" 196),some (sT "FormError" 204),some (.builtin "ValueError.__new__"),some (.bool true)]
def Aeo:O:=sO 31
def Ae3:O:=bO #[.builtin "object.__init_subclass__",.ref 31]
def Adr(P:Params):O:=dO #[dE P "__module__" 221 (sT "formcycle.errors" 194),dE P "__qualname__" 223 (sT "NoTurn" 222),dE P "__firstlineno__" 225 (.int 7 224),dE P "__init__" 233 (.ref 48),dE P "__static_attributes__" 235 (.ref 49)] 5
def Adn:O:=nO #[iZ 9,iZ 4,.ref 47]
def Adx:O:=cO #[sT "NoTurn" 216,sT "NoTurn" 217,sF 218,iZ 7,iZ 0,iZ 0,iZ 0,iZ 0,.ref 38,.bool false,iZ 181,.ref 39,.none,.none,.none,.none,iZ 219,iZ 7,sF 220]
def AcJ:O:=rO 40 37 "formcycle.errors" 194
def AeQ:O:=fNq "__init__" "NoTurn.__init__" (inC (tp 3) 0)
def Ae9:O:=sO 51
def Ae4:O:=bO #[.builtin "object.__init_subclass__",.ref 51]
def Ae2(P:Params):O:=dO #[dE P "__module__" 246 (sT "formcycle.errors" 194),dE P "__qualname__" 248 (sT "NoShape" 247),dE P "__firstlineno__" 250 (.int 11 249),dE P "__init__" 258 (.ref 67),dE P "__static_attributes__" 260 (.ref 68)] 5
def AdD:O:=nO #[iZ 13,iZ 4,.ref 66]
def AcX:O:=cO #[sT "NoShape" 241,sT "NoShape" 242,sF 243,iZ 11,iZ 0,iZ 0,iZ 0,iZ 0,.ref 57,.bool false,iZ 181,.ref 58,.none,.none,.none,.none,iZ 244,iZ 11,sF 245]
def AcH:O:=rO 59 56 "formcycle.errors" 194
def Adl:O:=fNq "__init__" "NoShape.__init__" (inC (tp 4) 0)
def AeC:O:=sO 70
def Ac7:O:=bO #[.builtin "object.__init_subclass__",.ref 70]
def AeS(P:Params):O:=dO #[dE P "__module__" 271 (sT "formcycle.errors" 194),dE P "__qualname__" 273 (sT "TooGreat" 272),dE P "__firstlineno__" 275 (.int 15 274),dE P "__init__" 284 (.ref 86),dE P "__static_attributes__" 287 (.ref 87)] 5
def Aeu:O:=nO #[iZ 17,iZ 4,.ref 85]
def AcI:O:=cO #[sT "TooGreat" 266,sT "TooGreat" 267,sF 268,iZ 15,iZ 0,iZ 0,iZ 0,iZ 0,.ref 76,.bool false,iZ 181,.ref 77,.none,.none,.none,.none,iZ 269,iZ 15,sF 270]
def Acn:O:=rO 78 75 "formcycle.errors" 194
def Acm:O:=fNq "__init__" "TooGreat.__init__" (inC (tp 5) 0)
def Ael:O:=sO 89
def Adm:O:=bO #[.builtin "object.__init_subclass__",.ref 89]
def AcN(P:Params):O:=dO #[dE P "__module__" 298 (sT "formcycle.errors" 194),dE P "__qualname__" 300 (sT "NoRoot" 299),dE P "__firstlineno__" 302 (.int 20 301),dE P "__init__" 310 (.ref 105),dE P "__static_attributes__" 312 (.ref 106)] 5
def AeP:O:=nO #[iZ 22,iZ 4,.ref 104]
def AdI:O:=cO #[sT "NoRoot" 293,sT "NoRoot" 294,sF 295,iZ 20,iZ 0,iZ 0,iZ 0,iZ 0,.ref 95,.bool false,iZ 181,.ref 96,.none,.none,.none,.none,iZ 296,iZ 20,sF 297]
def Ae6:O:=rO 97 94 "formcycle.errors" 194
def Yb:O:=fNq "__init__" "NoRoot.__init__" (inC (tp 6) 0)
def Xz:O:=sO 108
def Xr:O:=bO #[.builtin "object.__init_subclass__",.ref 108]
def Xf(P:Params):O:=dO #[dE P "__module__" 323 (sT "formcycle.errors" 194),dE P "__qualname__" 325 (sT "NotLevel" 324),dE P "__firstlineno__" 327 (.int 24 326),dE P "__init__" 335 (.ref 124),dE P "__static_attributes__" 337 (.ref 125)] 5
def YG:O:=nO #[iZ 26,iZ 4,.ref 123]
def YH:O:=cO #[sT "NotLevel" 318,sT "NotLevel" 319,sF 320,iZ 24,iZ 0,iZ 0,iZ 0,iZ 0,.ref 114,.bool false,iZ 181,.ref 115,.none,.none,.none,.none,iZ 321,iZ 24,sF 322]
def YT:O:=rO 116 113 "formcycle.errors" 194
def YS:O:=fNq "__init__" "NotLevel.__init__" (inC (tp 7) 0)
def Ym:O:=sO 127
def X5:O:=bO #[.builtin "object.__init_subclass__",.ref 127]
def Yw(P:Params):O:=dO #[dE P "__module__" 348 (sT "formcycle.errors" 194),dE P "__qualname__" 350 (sT "NotOwn" 349),dE P "__firstlineno__" 352 (.int 28 351),dE P "__init__" 360 (.ref 143),dE P "__static_attributes__" 362 (.ref 144)] 5
def YQ:O:=nO #[iZ 30,iZ 4,.ref 142]
def Yz:O:=cO #[sT "NotOwn" 343,sT "NotOwn" 344,sF 345,iZ 28,iZ 0,iZ 0,iZ 0,iZ 0,.ref 133,.bool false,iZ 181,.ref 134,.none,.none,.none,.none,iZ 346,iZ 28,sF 347]
def Xo:O:=rO 135 132 "formcycle.errors" 194
def XS:O:=fNq "__init__" "NotOwn.__init__" (inC (tp 8) 0)
def Yn:O:=sO 146
def Xi:O:=bO #[.builtin "object.__init_subclass__",.ref 146]
def AmV(P:Params):O:=dO #[dE P "__name__" 165 (sT "formcycle.turns" 528),dE P "__doc__" 166 .none,dE P "__package__" 167 .none,dE P "__loader__" 168 (.builtin "__main__.__loader__#opaque"),dE P "__spec__" 169 .none,dE P "__annotations__" 170 (.ref 6),dE P "__builtins__" 171 (.ref 4),dE P "__file__" 173 (sF 172),dE P "__cached__" 174 .none,dE P "_wall" 193 (.ref 21),dE P "FormError" 213 (.ref 31),dE P "NoTurn" 238 (.ref 51),dE P "NoShape" 263 (.ref 70),dE P "TooGreat" 290 (.ref 89),dE P "NoRoot" 315 (.ref 108),dE P "NotLevel" 340 (.ref 127),dE P "NotOwn" 365 (.ref 146),dE P "Apart" 381 (.ref 158),dE P "NotPlain" 406 (.ref 177),dE P "NoMeasure" 431 (.ref 196),dE P "Nought" 447 (.ref 208),dE P "NoAnswer" 472 (.ref 227),dE P "shares" 485 (.ref 236),dE P "row_less" 494 (.ref 243),dE P "root" 503 (.ref 250),dE P "is_square" 511 (.ref 257),dE P "check_at_most" 519 (.ref 264),dE P "check_within" 527 (.ref 271),dE P "SAME" 534 (.ref 272),dE P "is_turn" 541 (.ref 279),dE P "check_turn" 548 (.ref 286),dE P "led" 556 (.ref 293),dE P "put_behind" 564 (.ref 300),dE P "back" 571 (.ref 307)] 34
def Ajv:O:=nO #[iZ 1,iZ 0,.ref 20,iZ 5,iZ 0,.ref 27,iZ 7,iZ 0,.ref 40,iZ 11,iZ 0,.ref 59,iZ 15,iZ 0,.ref 78,iZ 20,iZ 0,.ref 97,iZ 24,iZ 0,.ref 116,iZ 28,iZ 0,.ref 135,iZ 32,iZ 0,.ref 154,iZ 34,iZ 0,.ref 166,iZ 38,iZ 0,.ref 185,iZ 42,iZ 0,.ref 204,iZ 44,iZ 0,.ref 216,iZ 49,iZ 0,.ref 235,iZ 59,iZ 0,.ref 242,iZ 61,iZ 0,.ref 249,iZ 72,iZ 0,.ref 256,iZ 77,iZ 0,.ref 263,iZ 80,iZ 0,.ref 270,iZ 85,iZ 0,.ref 278,iZ 87,iZ 0,.ref 285,iZ 90,iZ 0,.ref 292,iZ 93,iZ 0,.ref 299,iZ 95,iZ 0,.ref 306]
def Zd(P:Params):O:=dO #[dE P "__module__" 373 (sT "formcycle.errors" 194),dE P "__qualname__" 375 (sT "Apart" 374),dE P "__firstlineno__" 377 (.int 32 376),dE P "__static_attributes__" 378 (.ref 156)] 4
def AaO:O:=cO #[sT "Apart" 368,sT "Apart" 369,sF 370,iZ 32,iZ 0,iZ 0,iZ 0,iZ 0,.ref 152,.bool false,iZ 181,.ref 153,.none,.none,.none,.none,iZ 371,iZ 32,sF 372]
def Zv:O:=rO 154 151 "formcycle.errors" 194
def Y8:O:=sO 158
def AaP:O:=bO #[.builtin "object.__init_subclass__",.ref 158]
def Aaa(P:Params):O:=dO #[dE P "__module__" 389 (sT "formcycle.errors" 194),dE P "__qualname__" 391 (sT "NotPlain" 390),dE P "__firstlineno__" 393 (.int 34 392),dE P "__init__" 401 (.ref 174),dE P "__static_attributes__" 403 (.ref 175)] 5
def AaF:O:=nO #[iZ 36,iZ 4,.ref 173]
def ZF:O:=cO #[sT "NotPlain" 384,sT "NotPlain" 385,sF 386,iZ 34,iZ 0,iZ 0,iZ 0,iZ 0,.ref 164,.bool false,iZ 181,.ref 165,.none,.none,.none,.none,iZ 387,iZ 34,sF 388]
def Zg:O:=rO 166 163 "formcycle.errors" 194
def ZS:O:=fNq "__init__" "NotPlain.__init__" (inC (tp 10) 0)
def Aaj:O:=sO 177
def Zm:O:=bO #[.builtin "object.__init_subclass__",.ref 177]
def AaG(P:Params):O:=dO #[dE P "__module__" 414 (sT "formcycle.errors" 194),dE P "__qualname__" 416 (sT "NoMeasure" 415),dE P "__firstlineno__" 418 (.int 38 417),dE P "__init__" 426 (.ref 193),dE P "__static_attributes__" 428 (.ref 194)] 5
def AaD:O:=nO #[iZ 40,iZ 4,.ref 192]
def AaL:O:=cO #[sT "NoMeasure" 409,sT "NoMeasure" 410,sF 411,iZ 38,iZ 0,iZ 0,iZ 0,iZ 0,.ref 183,.bool false,iZ 181,.ref 184,.none,.none,.none,.none,iZ 412,iZ 38,sF 413]
def Aaz:O:=rO 185 182 "formcycle.errors" 194
def Aa4:O:=fNq "__init__" "NoMeasure.__init__" (inC (tp 11) 0)
def Z6:O:=sO 196
def Aa3:O:=bO #[.builtin "object.__init_subclass__",.ref 196]
def Zo(P:Params):O:=dO #[dE P "__module__" 439 (sT "formcycle.errors" 194),dE P "__qualname__" 441 (sT "Nought" 440),dE P "__firstlineno__" 443 (.int 42 442),dE P "__static_attributes__" 444 (.ref 206)] 4
def Aa2:O:=cO #[sT "Nought" 434,sT "Nought" 435,sF 436,iZ 42,iZ 0,iZ 0,iZ 0,iZ 0,.ref 202,.bool false,iZ 181,.ref 203,.none,.none,.none,.none,iZ 437,iZ 42,sF 438]
def Aa5:O:=rO 204 201 "formcycle.errors" 194
def Zn:O:=sO 208
def Aan:O:=bO #[.builtin "object.__init_subclass__",.ref 208]
def AaH(P:Params):O:=dO #[dE P "__module__" 455 (sT "formcycle.errors" 194),dE P "__qualname__" 457 (sT "NoAnswer" 456),dE P "__firstlineno__" 459 (.int 44 458),dE P "__init__" 467 (.ref 224),dE P "__static_attributes__" 469 (.ref 225)] 5
def Aay:O:=nO #[iZ 46,iZ 4,.ref 223]
def Z5:O:=cO #[sT "NoAnswer" 450,sT "NoAnswer" 451,sF 452,iZ 44,iZ 0,iZ 0,iZ 0,iZ 0,.ref 214,.bool false,iZ 181,.ref 215,.none,.none,.none,.none,iZ 453,iZ 44,sF 454]
def Aac:O:=rO 216 213 "formcycle.errors" 194
def AaT:O:=fNq "__init__" "NoAnswer.__init__" (inC (tp 13) 0)
def Aao:O:=sO 227
def Zk:O:=bO #[.builtin "object.__init_subclass__",.ref 227]
def Aai:O:=fNq "shares" "shares" (tp 15)
def ZX:O:=fNq "row_less" "row_less" (tp 16)
def AaA:O:=fNq "root" "root" (tp 17)
def Aar:O:=fNq "is_square" "is_square" (tp 18)
def Aau:O:=fNq "check_at_most" "check_at_most" (tp 19)
def Aa6:O:=fNq "check_within" "check_within" (tp 20)
def ZW:O:=fNq "is_turn" "is_turn" (tp 23)
def Zi:O:=fNq "check_turn" "check_turn" (tp 24)
def Zf:O:=fNq "led" "led" (tp 25)
def Aab:O:=fNq "put_behind" "put_behind" (tp 26)
def Aat:O:=fNq "back" "back" (tp 27)
def Ami(P:Params):O:=dO #[dE P "__name__" 165 (sT "formcycle.answers" 865),dE P "__doc__" 166 .none,dE P "__package__" 167 .none,dE P "__loader__" 168 (.builtin "__main__.__loader__#opaque"),dE P "__spec__" 169 .none,dE P "__annotations__" 170 (.ref 6),dE P "__builtins__" 171 (.ref 4),dE P "__file__" 173 (sF 172),dE P "__cached__" 174 .none,dE P "_wall" 193 (.ref 21),dE P "FormError" 213 (.ref 31),dE P "NoTurn" 238 (.ref 51),dE P "NoShape" 263 (.ref 70),dE P "TooGreat" 290 (.ref 89),dE P "NoRoot" 315 (.ref 108),dE P "NotLevel" 340 (.ref 127),dE P "NotOwn" 365 (.ref 146),dE P "Apart" 381 (.ref 158),dE P "NotPlain" 406 (.ref 177),dE P "NoMeasure" 431 (.ref 196),dE P "Nought" 447 (.ref 208),dE P "NoAnswer" 472 (.ref 227),dE P "shares" 485 (.ref 236),dE P "row_less" 494 (.ref 243),dE P "root" 503 (.ref 250),dE P "is_square" 511 (.ref 257),dE P "check_at_most" 519 (.ref 264),dE P "check_within" 527 (.ref 271),dE P "SAME" 534 (.ref 272),dE P "is_turn" 541 (.ref 279),dE P "check_turn" 548 (.ref 286),dE P "led" 556 (.ref 293),dE P "put_behind" 564 (.ref 300),dE P "back" 571 (.ref 307),dE P "measure" 580 (.ref 314),dE P "value" 590 (.ref 321),dE P "moved" 600 (.ref 328),dE P "middle" 610 (.ref 335),dE P "shape" 618 (.ref 342),dE P "check_bowl" 627 (.ref 349),dE P "stands_least" 637 (.ref 356),dE P "settled" 646 (.ref 363),dE P "turn_lower" 654 (.ref 370),dE P "own_turns" 660 (.ref 375),dE P "turns_of_least" 670 (.ref 382),dE P "turning_of_least" 677 (.ref 389),dE P "MOST_MEASURE" 681 (.int 4000 680),dE P "check_saddle" 688 (.ref 396),dE P "stands_level" 697 (.ref 403),dE P "turn_behind" 708 (.ref 410),dE P "stop_behind" 717 (.ref 417),dE P "eased" 726 (.ref 424),dE P "stops_round" 737 (.ref 431),dE P "lowered" 744 (.ref 438),dE P "Shape" 801 (.ref 476),dE P "Bowl" 825 (.ref 497),dE P "Saddle" 849 (.ref 516),dE P "shape_of" 856 (.ref 525),dE P "way_between" 864 (.ref 532)] 59
def AiV:O:=nO #[iZ 1,iZ 0,.ref 20,iZ 5,iZ 0,.ref 27,iZ 7,iZ 0,.ref 40,iZ 11,iZ 0,.ref 59,iZ 15,iZ 0,.ref 78,iZ 20,iZ 0,.ref 97,iZ 24,iZ 0,.ref 116,iZ 28,iZ 0,.ref 135,iZ 32,iZ 0,.ref 154,iZ 34,iZ 0,.ref 166,iZ 38,iZ 0,.ref 185,iZ 42,iZ 0,.ref 204,iZ 44,iZ 0,.ref 216,iZ 49,iZ 0,.ref 235,iZ 59,iZ 0,.ref 242,iZ 61,iZ 0,.ref 249,iZ 72,iZ 0,.ref 256,iZ 77,iZ 0,.ref 263,iZ 80,iZ 0,.ref 270,iZ 85,iZ 0,.ref 278,iZ 87,iZ 0,.ref 285,iZ 90,iZ 0,.ref 292,iZ 93,iZ 0,.ref 299,iZ 95,iZ 0,.ref 306,iZ 99,iZ 0,.ref 313,iZ 101,iZ 0,.ref 320,iZ 105,iZ 0,.ref 327,iZ 110,iZ 0,.ref 334,iZ 113,iZ 0,.ref 341,iZ 123,iZ 0,.ref 348,iZ 126,iZ 0,.ref 355,iZ 133,iZ 0,.ref 362,iZ 141,iZ 0,.ref 369,iZ 146,iZ 0,.ref 374,iZ 151,iZ 0,.ref 381,iZ 159,iZ 0,.ref 388,iZ 167,iZ 0,.ref 395,iZ 171,iZ 0,.ref 402,iZ 174,iZ 0,.ref 409,iZ 179,iZ 0,.ref 416,iZ 182,iZ 0,.ref 423,iZ 189,iZ 0,.ref 430,iZ 199,iZ 0,.ref 437,iZ 203,iZ 0,.ref 444,iZ 220,iZ 0,.ref 486,iZ 224,iZ 0,.ref 505,iZ 228,iZ 0,.ref 524,iZ 232,iZ 0,.ref 531]
def Afj:O:=fNq "measure" "measure" (tp 29)
def Agv:O:=fNq "value" "value" (tp 30)
def Agf:O:=fNq "moved" "moved" (tp 31)
def Ahn:O:=fNq "middle" "middle" (tp 32)
def AfG:O:=fNq "shape" "shape" (tp 33)
def AfF:O:=fNq "check_bowl" "check_bowl" (tp 35)
def Ahh:O:=fNq "stands_least" "stands_least" (tp 36)
def AfL:O:=fNq "settled" "settled" (tp 37)
def Ahu:O:=fNq "turn_lower" "turn_lower" (tp 38)
def Agn:O:=fNq "own_turns" "own_turns" (tp 39)
def Ahj:O:=fNq "turns_of_least" "turns_of_least" (tp 40)
def AgV:O:=fNq "turning_of_least" "turning_of_least" (tp 41)
def AfA:O:=fNq "check_saddle" "check_saddle" (tp 44)
def Afx:O:=fNq "stands_level" "stands_level" (tp 45)
def Ahk:O:=fNq "turn_behind" "turn_behind" (tp 46)
def Afv:O:=fNq "stop_behind" "stop_behind" (tp 47)
def Age:O:=fNq "eased" "eased" (tp 48)
def Ahe:O:=fNq "stops_round" "stops_round" (tp 49)
def Afb:O:=fNq "lowered" "lowered" (tp 50)
def Ahb(P:Params):O:=dO #[dE P "__module__" 754 (sT "formcycle.shapes" 745),dE P "__qualname__" 756 (sT "Shape" 755),dE P "__firstlineno__" 758 (.int 203 757),dE P "__init__" 767 (.ref 452),dE P "least" 774 (.ref 459),dE P "leaves" 782 (.ref 466),dE P "way_to" 790 (.ref 473),dE P "__static_attributes__" 794 (.ref 474)] 8
def Ago:O:=nO #[iZ 205,iZ 4,.ref 451,iZ 210,iZ 4,.ref 458,iZ 213,iZ 4,.ref 465,iZ 216,iZ 4,.ref 472]
def AgD:O:=cO #[sT "Shape" 749,sT "Shape" 750,sF 751,iZ 203,iZ 0,iZ 0,iZ 0,iZ 0,.ref 442,.bool false,iZ 181,.ref 443,.none,.none,.none,.none,iZ 752,iZ 203,sF 753]
def Ag8:O:=rO 444 441 "formcycle.shapes" 745
def Agm:O:=fNq "__init__" "Shape.__init__" (inC (tp 52) 0)
def AgK:O:=fNq "least" "Shape.least" (inC (tp 52) 1)
def Afo:O:=fNq "leaves" "Shape.leaves" (inC (tp 52) 2)
def Afc:O:=fNq "way_to" "Shape.way_to" (inC (tp 52) 3)
def Ag5:O:=sO 476
def Ahs:O:=bO #[.builtin "object.__init_subclass__",.ref 476]
def AfP(P:Params):O:=dO #[dE P "__module__" 809 (sT "formcycle.shapes" 745),dE P "__qualname__" 811 (sT "Bowl" 810),dE P "__firstlineno__" 813 (.int 220 812),dE P "__init__" 821 (.ref 494),dE P "__static_attributes__" 822 (.ref 495)] 5
def Afs:O:=nO #[iZ 222,iZ 4,.ref 493]
def AgZ:O:=cO #[sT "Bowl" 804,sT "Bowl" 805,sF 806,iZ 220,iZ 0,iZ 0,iZ 0,iZ 0,.ref 484,.bool false,iZ 181,.ref 485,.none,.none,.none,.none,iZ 807,iZ 220,sF 808]
def AfW:O:=rO 486 483 "formcycle.shapes" 745
def Ahy:O:=fNq "__init__" "Bowl.__init__" (inC (tp 53) 0)
def Agh:O:=sO 497
def AgX:O:=bO #[.builtin "object.__init_subclass__",.ref 497]
def Af1(P:Params):O:=dO #[dE P "__module__" 833 (sT "formcycle.shapes" 745),dE P "__qualname__" 835 (sT "Saddle" 834),dE P "__firstlineno__" 837 (.int 224 836),dE P "__init__" 845 (.ref 513),dE P "__static_attributes__" 846 (.ref 514)] 5
def Afw:O:=nO #[iZ 226,iZ 4,.ref 512]
def Aho:O:=cO #[sT "Saddle" 828,sT "Saddle" 829,sF 830,iZ 224,iZ 0,iZ 0,iZ 0,iZ 0,.ref 503,.bool false,iZ 181,.ref 504,.none,.none,.none,.none,iZ 831,iZ 224,sF 832]
def AfH:O:=rO 505 502 "formcycle.shapes" 745
def Aht:O:=fNq "__init__" "Saddle.__init__" (inC (tp 54) 0)
def Ag1:O:=sO 516
def Agd:O:=bO #[.builtin "object.__init_subclass__",.ref 516]
def AgG:O:=fNq "shape_of" "shape_of" (tp 55)
def Ahm:O:=fNq "way_between" "way_between" (tp 56)
def tr0(P:Params):BT:=Nd (boot_o_0 P) (Nd (boot_o_1 P) (Nd (boot_o_3 P) (Lf (boot_o_7 P)) (Lf tE)) (Nd (boot_o_5 P) (Lf (boot_o_9 P)) (Lf Z8))) (Nd (boot_o_2 P) (Nd (boot_o_4 P) (Lf (boot_o_8 P)) (Lf Az)) (Nd (boot_o_6 P) (Lf (boot_o_10 P)) (Lf ZP)))
def St0(w:World)(os:OsState):SharedT:=⟨tr0 w.params,15,Life.mk [] [] [] 0 [] [] Bool.false #[] [] 0 Bool.false Bool.false Bool.false 0 [2000,10,10] Bool.false 0 Bool.true [] [] 0 Bool.false,Array.mk [],Drawn.mk 0 0 0 0,187,os⟩
def ps0:Pos:=⟨0,0,0,0⟩
def tr9(P:Params):BT:=Nd (boot_o_0 P) (Nd (boot_o_1 P) (Nd (Aom P) (Nd (boot_o_7 P) (Nd tE (Nd AlM (Nd o63 (Lf AfV) .nil) (Lf tE)) (Nd o47 (Nd Acn (Lf Afh) .nil) (Lf o111))) (Nd Ci (Nd Adn (Nd AeC (Lf Yz) .nil) (Lf Yb)) (Nd Ci (Lf o87) (Lf Az)))) (Nd tE (Nd Ad0 (Nd o35 (Nd o67 (Lf Ci) .nil) (Lf tE)) (Nd o51 (Nd tE (Lf Yn) .nil) (Lf YG))) (Nd Ac8 (Nd Az (Nd (AeS P) (Lf Ahx) .nil) (Lf (Af2 P))) (Nd AcX (Lf Adm) (Lf Agy))))) (Nd (boot_o_5 P) (Nd (boot_o_9 P) (Nd o17 (Nd Aeo (Nd Adl (Lf X5) .nil) (Lf AdI)) (Nd o49 (Nd Az (Lf (AfE P)) .nil) (Lf (Xf P)))) (Nd tE (Nd AcJ (Nd o73 (Lf tE) .nil) (Lf Ahv)) (Nd tE (Lf o89) (Lf tE)))) (Nd Z8 (Nd o21 (Nd (Adr P) (Nd (o69 P) (Lf tE) .nil) (Lf Ahi)) (Nd Ae4 (Lf o85) (Lf YT))) (Nd tE (Nd tE (Nd Aeu (Lf XS) .nil) (Lf Xz)) (Nd tE (Lf Ci) (Lf AfD)))))) (Nd (boot_o_2 P) (Nd (boot_o_4 P) (Nd (boot_o_8 P) (Nd Az (Nd o32 (Nd tE (Lf Ym) .nil) (Lf AeP)) (Nd o48 (Nd tE (Lf Ag0) .nil) (Lf Ci))) (Nd (Aex P) (Nd Adx (Nd Ac7 (Lf Xo) .nil) (Lf Ag9)) (Nd (Ae2 P) (Lf (o88 P)) (Lf Aha)))) (Nd Anw (Nd o20 (Nd Ci (Nd o68 (Lf (Yw P)) .nil) (Lf Az)) (Nd Ae9 (Nd Acm (Lf Xi) .nil) (Lf YH))) (Nd AeY (Nd o44 (Nd tE (Lf tE) .nil) (Lf Agk)) (Nd AcH (Lf o92) (Lf AfO))))) (Nd (boot_o_6 P) (Nd (boot_o_10 P) (Nd tE (Nd Ae3 (Nd o66 (Lf Afz) .nil) (Lf Ae6)) (Nd (o50 P) (Nd o82 (Lf Agr) .nil) (Lf tE))) (Nd Az (Nd tE (Nd Ci (Lf Az) .nil) (Lf Ags)) (Nd AdD (Lf Ael) (Lf YS)))) (Nd ZP (Nd o22 (Nd tE (Nd o70 (Lf YQ) .nil) (Lf tE)) (Nd o54 (Lf o86) (Lf tE))) (Nd (o30 P) (Nd AeQ (Nd AcI (Lf AgM) .nil) (Lf Xr)) (Nd Az (Lf (AcN P)) (Lf (AgW P)))))))
def St9(w:World)(os:OsState):SharedT:=⟨tr9 w.params,149,Life.mk [] [] [] 0 [] [] Bool.false #[] [] 0 Bool.false Bool.false Bool.false 0 [2000,10,10] Bool.false 0 Bool.true [] [] 0 Bool.false,Array.mk [],Drawn.mk 0 0 0 0,366,os⟩
def ps9:Pos:=⟨28,0,31,24⟩
def Ao3(P:Params):BT:=Nd (boot_o_0 P) (Nd (boot_o_1 P) (Nd (AmV P) (Nd (boot_o_7 P) (Nd tE (Nd o31 (Nd o63 (Nd AfV (Lf Aar) .nil) (Lf Aa4)) (Nd tE (Nd Y8 (Lf tE) .nil) (Lf Ajh))) (Nd o47 (Nd Acn (Nd Afh (Lf Aj1) .nil) (Lf (Ajp P))) (Nd o111 (Nd Akf (Lf Akw) .nil) (Lf AkI)))) (Nd Ci (Nd Adn (Nd AeC (Nd Yz (Lf Ai6) .nil) (Lf Akt)) (Nd Yb (Nd Zg (Lf Az) .nil) (Lf Az))) (Nd Ci (Nd o87 (Nd (Zd P) (Lf Aj0) .nil) (Lf Aay)) (Nd Az (Lf tE) (Lf tE))))) (Nd tE (Nd Ad0 (Nd o35 (Nd o67 (Nd Ci (Lf Az) .nil) (Lf (AjL P))) (Nd tE (Nd (Aaa P) (Lf Zf) .nil) (Lf AkL))) (Nd o51 (Nd tE (Nd Yn (Lf AjK) .nil) (Lf Aj6)) (Nd YG (Nd Zm (Lf Ajf) .nil) (Lf Ai4)))) (Nd Ac8 (Nd Az (Nd (AeS P) (Nd Ahx (Lf AiN) .nil) (Lf Az)) (Nd (Af2 P) (Nd tE (Lf Ajg) .nil) (Lf Ai9))) (Nd AcX (Nd Adm (Nd Zv (Lf tE) .nil) (Lf Az)) (Nd Agy (Lf tE) (Lf tE)))))) (Nd (boot_o_5 P) (Nd (boot_o_9 P) (Nd o17 (Nd Aeo (Nd Adl (Nd X5 (Lf Aky) .nil) (Lf Akd)) (Nd AdI (Nd Akl (Lf Ain) .nil) (Lf Akz))) (Nd o49 (Nd Az (Nd (AfE P) (Lf tE) .nil) (Lf Zn)) (Nd (Xf P) (Nd AkF (Lf Aat) .nil) (Lf ZX)))) (Nd tE (Nd AcJ (Nd o73 (Nd tE (Lf tE) .nil) (Lf (Zo P))) (Nd Ahv (Nd Az (Lf tE) .nil) (Lf tE))) (Nd tE (Nd o89 (Nd Az (Lf Az) .nil) (Lf Aac)) (Nd tE (Lf AaL) (Lf AiB))))) (Nd Z8 (Nd o21 (Nd (Adr P) (Nd (o69 P) (Nd tE (Lf tE) .nil) (Lf Z6)) (Nd Ahi (Nd AaF (Lf AiH) .nil) (Lf Zk))) (Nd Ae4 (Nd o85 (Nd AiG (Lf ZW) .nil) (Lf (AaH P))) (Nd YT (Lf Ci) (Lf Az)))) (Nd tE (Nd tE (Nd Aeu (Nd XS (Lf Aa6) .nil) (Lf Aa5)) (Nd Xz (Nd AjV (Lf tE) .nil) (Lf tE))) (Nd tE (Nd Ci (Nd (AiM P) (Lf AjE) .nil) (Lf tE)) (Nd AfD (Lf Aku) (Lf AjW))))))) (Nd (boot_o_2 P) (Nd (boot_o_4 P) (Nd (boot_o_8 P) (Nd Az (Nd o32 (Nd tE (Nd Ym (Lf Ail) .nil) (Lf Akk)) (Nd AeP (Nd AaP (Lf Az) .nil) (Lf AkH))) (Nd o48 (Nd tE (Nd Ag0 (Lf Ajw) .nil) (Lf AjT)) (Nd Ci (Nd (Ajo P) (Lf tE) .nil) (Lf tE)))) (Nd (Aex P) (Nd Adx (Nd Ac7 (Nd Xo (Lf Ai8) .nil) (Lf Ci)) (Nd Ag9 (Nd tE (Lf AkA) .nil) (Lf Akb))) (Nd (Ae2 P) (Nd (o88 P) (Nd tE (Lf tE) .nil) (Lf Z5)) (Nd Aha (Lf AaD) (Lf AaA))))) (Nd Ajv (Nd o20 (Nd Ci (Nd o68 (Nd (Yw P) (Lf AiK) .nil) (Lf AkB)) (Nd Az (Nd tE (Lf Aiq) .nil) (Lf Aao))) (Nd Ae9 (Nd Acm (Nd Xi (Lf tE) .nil) (Lf Ci)) (Nd YH (Lf Ajx) (Lf tE)))) (Nd AeY (Nd o44 (Nd tE (Nd tE (Lf tE) .nil) (Lf Aa2)) (Nd Agk (Nd ZS (Lf o300) .nil) (Lf AjO))) (Nd AcH (Nd o92 (Nd tE (Lf Zi) .nil) (Lf Aiz)) (Nd AfO (Lf Az) (Lf Az)))))) (Nd (boot_o_6 P) (Nd (boot_o_10 P) (Nd tE (Nd Ae3 (Nd o66 (Nd Afz (Lf tE) .nil) (Lf AiO)) (Nd Ae6 (Nd Ci (Lf tE) .nil) (Lf (AjS P)))) (Nd (o50 P) (Nd o82 (Nd Agr (Lf Az) .nil) (Lf Aan)) (Nd tE (Nd Aaj (Lf Aim) .nil) (Lf Ajq)))) (Nd Az (Nd tE (Nd Ci (Nd Az (Lf Az) .nil) (Lf tE)) (Nd Ags (Nd AiS (Lf Aab) .nil) (Lf Aai))) (Nd AdD (Nd Ael (Nd AaO (Lf Aiv) .nil) (Lf tE)) (Nd YS (Lf Aaz) (Lf Ajm))))) (Nd ZP (Nd o22 (Nd tE (Nd o70 (Nd YQ (Lf Aau) .nil) (Lf Aa3)) (Nd tE (Nd ZF (Lf tE) .nil) (Lf tE))) (Nd o54 (Nd o86 (Nd Ci (Lf AjZ) .nil) (Lf tE)) (Nd tE (Lf (AaG P)) (Lf Aj8)))) (Nd (o30 P) (Nd AeQ (Nd AcI (Nd AgM (Lf AiX) .nil) (Lf tE)) (Nd Xr (Nd AiI (Lf Az) .nil) (Lf Az))) (Nd Az (Nd (AcN P) (Nd Aik (Lf Aj9) .nil) (Lf AaT)) (Nd (AgW P) (Lf tE) (Lf tE)))))))
def Alz(w:World)(os:OsState):SharedT:=⟨Ao3 w.params,308,Life.mk [] [] [] 0 [] [] Bool.false #[] [] 0 Bool.false Bool.false Bool.false 0 [2000,10,10] Bool.false 0 Bool.true [] [] 0 Bool.false,Array.mk [],Drawn.mk 0 0 0 0,572,os⟩
def Amk:Pos:=⟨95,0,97,49⟩
def Aow(P:Params):BT:=Nd (boot_o_0 P) (Nd (boot_o_1 P) (Nd (Ami P) (Nd (boot_o_7 P) (Nd tE (Nd o31 (Nd o63 (Nd AfV (Nd Aar (Lf Aht) .nil) (Lf tE)) (Nd Aa4 (Lf Agv) (Lf Az))) (Nd tE (Nd Y8 (Lf tE) (Lf Afv)) (Nd Ajh (Lf Az) (Lf Ag5)))) (Nd o47 (Nd Acn (Nd Afh (Nd Aj1 (Lf Az) .nil) (Lf Alk)) (Nd (Ajp P) (Lf Anq) (Lf tE))) (Nd o111 (Nd Akf (Lf Akw) (Lf AnB)) (Nd AkI (Lf tE) (Lf tE))))) (Nd Ci (Nd Adn (Nd AeC (Nd Yz (Nd Ai6 (Lf tE) .nil) (Lf Az)) (Nd Akt (Lf AnH) (Lf Amr))) (Nd Yb (Nd Zg (Lf Az) (Lf AnG)) (Nd Az (Lf Ame) (Lf AfW)))) (Nd Ci (Nd o87 (Nd (Zd P) (Lf Aj0) (Lf tE)) (Nd Aay (Lf tE) (Lf Afc))) (Nd Az (Nd tE (Lf tE) (Lf tE)) (Nd tE (Lf AnW) (Lf tE)))))) (Nd tE (Nd Ad0 (Nd o35 (Nd o67 (Nd Ci (Nd Az (Lf (AnR P)) .nil) (Lf AgV)) (Nd (AjL P) (Lf Az) (Lf Alm))) (Nd tE (Nd (Aaa P) (Lf Zf) (Lf Az)) (Nd AkL (Lf AlO) (Lf (AfP P))))) (Nd o51 (Nd tE (Nd Yn (Nd AjK (Lf Al7) .nil) (Lf An3)) (Nd Aj6 (Lf tE) (Lf tE))) (Nd YG (Nd Zm (Lf Ajf) (Lf tE)) (Nd Ai4 (Lf tE) (Lf AgX))))) (Nd Ac8 (Nd Az (Nd (AeS P) (Nd Ahx (Nd AiN (Lf AgG) .nil) (Lf Amd)) (Nd Az (Lf Als) (Lf Ak1))) (Nd (Af2 P) (Nd tE (Lf Ajg) (Lf Am5)) (Nd Ai9 (Lf Ald) (Lf tE)))) (Nd AcX (Nd Adm (Nd Zv (Lf tE) (Lf tE)) (Nd Az (Lf AfF) (Lf (AkX P)))) (Nd Agy (Nd tE (Lf tE) (Lf Ago)) (Nd tE (Lf tE) (Lf tE))))))) (Nd (boot_o_5 P) (Nd (boot_o_9 P) (Nd o17 (Nd Aeo (Nd Adl (Nd X5 (Nd Aky (Lf AkU) .nil) (Lf AlJ)) (Nd Akd (Lf Ano) (Lf tE))) (Nd AdI (Nd Akl (Lf Ain) (Lf AlU)) (Nd Akz (Lf tE) (Lf Ama)))) (Nd o49 (Nd Az (Nd (AfE P) (Nd tE (Lf tE) .nil) (Lf Afx)) (Nd Zn (Lf Az) (Lf AnS))) (Nd (Xf P) (Nd AkF (Lf Aat) (Lf Az)) (Nd ZX (Lf Anm) (Lf Ana))))) (Nd tE (Nd AcJ (Nd o73 (Nd tE (Nd tE (Lf AmG) .nil) (Lf tE)) (Nd (Zo P) (Lf tE) (Lf AgK))) (Nd Ahv (Nd Az (Lf tE) (Lf tE)) (Nd tE (Lf AfL) (Lf Az)))) (Nd tE (Nd o89 (Nd Az (Lf Az) (Lf AmR)) (Nd Aac (Lf Al8) (Lf AlA))) (Nd tE (Nd AaL (Lf Ank) (Lf (Ahb P))) (Nd AiB (Lf Az) (Lf Aho)))))) (Nd Z8 (Nd o21 (Nd (Adr P) (Nd (o69 P) (Nd tE (Nd tE (Lf Ag1) .nil) (Lf Amb)) (Nd Z6 (Lf tE) (Lf tE))) (Nd Ahi (Nd AaF (Lf AiH) (Lf tE)) (Nd Zk (Lf tE) (Lf Afs)))) (Nd Ae4 (Nd o85 (Nd AiG (Lf ZW) (Lf Az)) (Nd (AaH P) (Lf Amh) (Lf Amv))) (Nd YT (Nd Ci (Lf Az) (Lf AnZ)) (Nd Az (Lf Agn) (Lf Ci))))) (Nd tE (Nd tE (Nd Aeu (Nd XS (Nd Aa6 (Lf Ane) .nil) (Lf tE)) (Nd Aa5 (Lf Ahn) (Lf Az))) (Nd Xz (Nd AjV (Lf tE) (Lf Ahe)) (Nd tE (Lf Az) (Lf AnF)))) (Nd tE (Nd Ci (Nd (AiM P) (Lf AjE) (Lf AlB)) (Nd tE (Lf Ak6) (Lf AnJ))) (Nd AfD (Nd Aku (Lf Alo) (Lf Ag8)) (Nd AjW (Lf AlF) (Lf AmO)))))))) (Nd (boot_o_2 P) (Nd (boot_o_4 P) (Nd (boot_o_8 P) (Nd Az (Nd o32 (Nd tE (Nd Ym (Nd Ail (Lf Alx) .nil) (Lf Az)) (Nd Akk (Lf Ak3) (Lf Amn))) (Nd AeP (Nd AaP (Lf Az) (Lf Aml)) (Nd AkH (Lf Amz) (Lf Ahs)))) (Nd o48 (Nd tE (Nd Ag0 (Nd Ajw (Lf AmB) .nil) (Lf tE)) (Nd AjT (Lf tE) (Lf Afo))) (Nd Ci (Nd (Ajo P) (Lf tE) (Lf tE)) (Nd tE (Lf Ahu) (Lf (An5 P)))))) (Nd (Aex P) (Nd Adx (Nd Ac7 (Nd Xo (Nd Ai8 (Lf Az) .nil) (Lf AlE)) (Nd Ci (Lf AlQ) (Lf tE))) (Nd Ag9 (Nd tE (Lf AkA) (Lf AkW)) (Nd Akb (Lf tE) (Lf tE)))) (Nd (Ae2 P) (Nd (o88 P) (Nd tE (Lf tE) (Lf Ahk)) (Nd Z5 (Lf Az) (Lf Ala))) (Nd Aha (Nd AaD (Lf Afj) (Lf Ci)) (Nd AaA (Lf tE) (Lf Afw)))))) (Nd AiV (Nd o20 (Nd Ci (Nd o68 (Nd (Yw P) (Nd AiK (Lf Am1) .nil) (Lf AnT)) (Nd AkB (Lf AkN) (Lf AlP))) (Nd Az (Nd tE (Lf Aiq) (Lf Anh)) (Nd Aao (Lf AnK) (Lf tE)))) (Nd Ae9 (Nd Acm (Nd Xi (Nd tE (Lf AnD) .nil) (Lf tE)) (Nd Ci (Lf AfG) (Lf Az))) (Nd YH (Nd Ajx (Lf tE) (Lf Afb)) (Nd tE (Lf Az) (Lf AlX))))) (Nd AeY (Nd o44 (Nd tE (Nd tE (Nd tE (Lf Ans) .nil) (Lf AlW)) (Nd Aa2 (Lf tE) (Lf tE))) (Nd Agk (Nd ZS (Lf o300) (Lf tE)) (Nd AjO (Lf tE) (Lf Ahy)))) (Nd AcH (Nd o92 (Nd tE (Lf Zi) (Lf Az)) (Nd Aiz (Lf AmW) (Lf An1))) (Nd AfO (Nd Az (Lf Az) (Lf AgD)) (Nd Az (Lf Ahj) (Lf Az))))))) (Nd (boot_o_6 P) (Nd (boot_o_10 P) (Nd tE (Nd Ae3 (Nd o66 (Nd Afz (Nd tE (Lf tE) .nil) (Lf tE)) (Nd AiO (Lf tE) (Lf Agm))) (Nd Ae6 (Nd Ci (Lf tE) (Lf tE)) (Nd (AjS P) (Lf Ahh) (Lf Ci)))) (Nd (o50 P) (Nd o82 (Nd Agr (Nd Az (Lf Ahm) .nil) (Lf Anx)) (Nd Aan (Lf AmM) (Lf Anf))) (Nd tE (Nd Aaj (Lf Aim) (Lf Alq)) (Nd Ajq (Lf Ak7) (Lf Agh))))) (Nd Az (Nd tE (Nd Ci (Nd Az (Nd Az (Lf tE) .nil) (Lf AfA)) (Nd tE (Lf Az) (Lf AnU))) (Nd Ags (Nd AiS (Lf Aab) (Lf Az)) (Nd Aai (Lf Anr) (Lf AlD)))) (Nd AdD (Nd Ael (Nd AaO (Lf Aiv) (Lf Am9)) (Nd tE (Lf tE) (Lf AkO))) (Nd YS (Nd Aaz (Lf AkP) (Lf tE)) (Nd Ajm (Lf AmT) (Lf AfH)))))) (Nd ZP (Nd o22 (Nd tE (Nd o70 (Nd YQ (Nd Aau (Lf Agd) .nil) (Lf tE)) (Nd Aa3 (Lf Agf) (Lf Az))) (Nd tE (Nd ZF (Lf tE) (Lf Age)) (Nd tE (Lf Az) (Lf AgZ)))) (Nd o54 (Nd o86 (Nd Ci (Lf AjZ) (Lf AlR)) (Nd tE (Lf AnA) (Lf tE))) (Nd tE (Nd (AaG P) (Lf Amw) (Lf Amm)) (Nd Aj8 (Lf AkV) (Lf (Af1 P)))))) (Nd (o30 P) (Nd AeQ (Nd AcI (Nd AgM (Nd AiX (Lf tE) .nil) (Lf Az)) (Nd tE (Lf Ani) (Lf Amj))) (Nd Xr (Nd AiI (Lf Az) (Lf Amu)) (Nd Az (Lf Am0) (Lf AkR)))) (Nd Az (Nd (AcN P) (Nd Aik (Lf Aj9) (Lf tE)) (Nd AaT (Lf tE) (Lf AnL))) (Nd (AgW P) (Nd tE (Lf tE) (Lf tE)) (Nd tE (Lf AmL) (Lf tE))))))))
def Amt(w:World)(os:OsState):SharedT:=⟨Aow w.params,533,Life.mk [] [] [] 0 [] [] Bool.false #[] [] 0 Bool.false Bool.false Bool.false 0 [2000,10,10] Bool.false 0 Bool.true [] [] 0 Bool.false,Array.mk [],Drawn.mk 0 0 0 0,867,os⟩
def AmZ:Pos:=⟨236,0,236,8⟩
end
noncomputable def vw:Program:={PySem.Challenge.pw_formcycle_k55_no_answers with main:={PySem.Challenge.pw_formcycle_k55_no_answers.main with body:=[tp 0,tp 2,tp 3,tp 4,tp 5,tp 6,tp 7,tp 8,tp 9,tp 10,tp 11,tp 12,tp 13,tp 15,tp 16,tp 17,tp 18,tp 19,tp 20,tp 22,tp 23,tp 24,tp 25,tp 26,tp 27,tp 29,tp 30,tp 31,tp 32,tp 33,tp 35,tp 36,tp 37,tp 38,tp 39,tp 40,tp 41,tp 43,tp 44,tp 45,tp 46,tp 47,tp 48,tp 49,tp 50,tp 52,tp 53,tp 54,tp 55,tp 56,tp 58,tp 59,tp 60,tp 61,tp 62,tp 63,tp 64,tp 65,tp 67,tp 68,tp 69,tp 70,tp 71]} }
def asK:List Nat:=[2,3,15,17,18,20,21,22,29,30,31,32,35,42,44,45,47,48,49,50,51,54,61,63,64,66,67,68,69,70,73,80,82,83,85,86,87,88,89,92,99,101,102,104,105,106,107,108,111,118,120,121,123,124,125,126,127,130,137,139,140,142,143,144,145,146,149,156,157,158,161,168,170,171,173,174,175,176,177,180,187,189,190,192,193,194,195,196,199,206,207,208,211,218,220,221,223,224,225,226,227,230,232,233,235,236,237,239,240,242,243,244,246,247,249,250,251,253,254,256,257,258,260,261,263,264,265,267,268,270,271,272,273,275,276,278,279,280,282,283,285,286,287,289,290,292,293,294,296,297,299,300,301,303,304,306,307,308,310,311,313,314,315,317,318,320,321,322,324,325,327,328,329,331,332,334,335,336,338,339,341,342,343,345,346,348,349,350,352,353,355,356,357,359,360,362,363,364,366,367,369,370,371,374,375,376,378,379,381,382,383,385,386,388,389,390,392,393,395,396,397,399,400,402,403,404,406,407,409,410,411,413,414,416,417,418,420,421,423,424,425,427,428,430,431,432,434,435,437,438,446,448,449,451,452,453,455,456,458,459,460,462,463,465,466,467,469,470,472,473,474,475,476,477,478,481,488,490,491,493,494,495,496,497,500,507,509,510,512,513,514,515,516,519,521,522,524,525,526,528,529,531,532,533,536,537,538,540,541,543,544,545,548,549,550,553,554,555,558,559,560,562,563,565,566,567,570,571,572,574,575,577,578,579,581,582,584,585,586,589,590,591,593,594,596,597,598,600,601,603,604]
noncomputable def bE:List Stmt:=behindTheImports PySem.Challenge.rw_formcycle_k55_no_answers.row.prog
noncomputable def ev:Env:={scope:=PySem.Challenge.rw_formcycle_k55_no_answers.row.prog.main.scope,locals:=mainNs,globals:=mainNs,cells:=[],code:=.ref 13,frame:=some 14}
noncomputable def cc:Code:=.body bE ev
def qq:Pos:=.mk 0 0 0 0
def pp:Pos:=⟨0,0,0,0⟩
theorem Anp:∀w os,goT treeTable PySem.Challenge.rw_formcycle_k55_no_answers.row.prog w 11 (some (.ref 6)) 12 (Sx w os) (topStub PySem.Challenge.rw_formcycle_k55_no_answers.row.prog)=some (St0 w os,⟨denote treeTable cc,cc,pp,[topFrame qq]⟩):=fun w os=>by kernel_rfl
theorem Anu:∀w os,segRunT treeTable PySem.Challenge.rw_formcycle_k55_no_answers.row.prog w 11 (some (.ref 6)) 1 1 (St0 w os) (blockOf bE ev cc pp [topFrame qq])=some (.next,St0 w os,cc,ps0):=fun w os=>by kernel_rfl
noncomputable def l9:List Stmt:=List.take 9 bE
noncomputable def r9:List Stmt:=List.drop 9 bE
theorem g_9:∀w os,segRunT treeTable PySem.Challenge.rw_formcycle_k55_no_answers.row.prog w 11 (some (.ref 6)) 1 1697 (St0 w os) (piecesOf l9 ev cc ps0 [topFrame qq])=some (.next,St9 w os,cc,ps9):=fun w os=>by kernel_rfl
noncomputable def l28:List Stmt:=List.take 19 r9
noncomputable def r28:List Stmt:=List.drop 19 r9
theorem Apo:∀w os,segRunT treeTable PySem.Challenge.rw_formcycle_k55_no_answers.row.prog w 11 (some (.ref 6)) 1 1526 (St9 w os) (piecesOf l28 ev cc ps9 [topFrame qq])=some (.next,Alz w os,cc,Amk):=fun w os=>by kernel_rfl
noncomputable def l58:List Stmt:=List.take 30 r28
noncomputable def r58:List Stmt:=List.drop 30 r28
theorem Apu:∀w os,segRunT treeTable PySem.Challenge.rw_formcycle_k55_no_answers.row.prog w 11 (some (.ref 6)) 1 1503 (Alz w os) (piecesOf l58 ev cc Amk [topFrame qq])=some (.next,Amt w os,cc,AmZ):=fun w os=>by kernel_rfl
noncomputable def TL(w:World)(os:OsState):Option SharedT:=Vx treeTable PySem.Challenge.rw_formcycle_k55_no_answers.row.prog w 11 (some (.ref 6)) 436 (Amt w os) (restOf r58 ev cc AmZ [topFrame qq])
theorem hr:∀w os r,TL w os=some r→topRun treeTable PySem.Challenge.rw_formcycle_k55_no_answers.row.prog w (Bw w os).heap.objs.size ((Bw w os).heap.nsMap mainGlobals "__annotations__") 5175 (Bw w os) (topStub PySem.Challenge.rw_formcycle_k55_no_answers.row.prog)=some r.abs:=fun w os r h=>by
 rw[show(Bw w os).heap.objs.size=11 by kernel_rfl,show(Bw w os).heap.nsMap mainGlobals "__annotations__"=some (.ref 6) by kernel_rfl]
 have k:=Ug _ h
 have k:=piece_app (segRun_of (Apu w os)) k
 rw[show l58++r58=r28 from List.take_append_drop _ _]at k
 have k:=piece_app (segRun_of (Apo w os)) k
 rw[show l28++r28=r9 from List.take_append_drop _ _]at k
 have k:=piece_app (segRun_of (g_9 w os)) k
 rw[show l9++r9=bE from List.take_append_drop _ _]at k
 have k:=piece_block (segRun_of (Anu w os)) k
 have k:=go_top (AdW _ (Anp w os)) k
 rw[boot_abs]at k
 exact k
noncomputable def sA0(s:Shared):=PyProof.Rows.seen ((PyProof.Rows.recsOf vw).map (·.name)) (PyProof.Rows.ownsOf vw) [] {s with gens:=#[]}
noncomputable def sA1(s:Shared):=s.heap.bltView
noncomputable def sA2(s:Shared):=s.heap.keysOk (looseW vw []) ((PyProof.Rows.recsOf vw).map (·.name)) ((PyProof.Rows.litsOf vw).map (·.1)) ((PyProof.Rows.clssOf vw (looseW vw [])).map (·.name))&&s.heap.accountedOkI (importedModules PySem.Challenge.rw_formcycle_k55_no_answers.row.prog.main.body)&&s.heap.isNs mainGlobals&&s.heap.isNs builtinsNs&&PyProof.Rows.tablesOk vw s.heap&&(xlAt vw [] s&&recOk (RowW.records PySem.Challenge.rw_formcycle_k55_no_answers.row.toRowW) s)&&(if true then s.gens.size==0 else !leftWithCleanup s.gens)
noncomputable def sA3(s:Shared):=PyProof.Rows.tabsOk vw s
noncomputable def sA4(s:Shared):=pinSeenD vw (PyProof.Rows.drecsOf vw) s
noncomputable def sA5(s:Shared):=PyProof.Rows.plainSeenE vw (looseW vw []) s
noncomputable def sA6(s:Shared):=PyProof.Rows.plainSeenD vw [] s
noncomputable def sA7(s:Shared):=wideSeen vw s
noncomputable def sA8(s:Shared):=clsSeenW vw [] s
theorem hA:∀(w:World)(os:OsState),(TL w os).map (fun r=>stays PySem.Challenge.rw_formcycle_k55_no_answers.row.prog (Bw w os) r.abs)=some true:=fun w os=>by kernel_rfl
theorem hB0:∀(w:World)(os:OsState),(TL w os).map (fun r=>sA0 r.abs)=some (PyProof.Rows.expectedOf vw):=fun w os=>by kernel_rfl
theorem hB1:∀(w:World)(os:OsState),(TL w os).map (fun r=>(sA1 r.abs,sA3 r.abs,sA4 r.abs,sA6 r.abs,sA8 r.abs))=some (bltViewBooted,true,pinGoodD (PyProof.Rows.drecsOf vw),PyProof.Rows.plainGoodD vw [],clsGoodW vw []):=fun w os=>by kernel_rfl
theorem hB2:∀(w:World)(os:OsState),(TL w os).map (fun r=>sA2 r.abs)=some true:=fun w os=>by kernel_rfl
theorem hB5:∀(w:World)(os:OsState),(TL w os).map (fun r=>sA5 r.abs)=some (PyProof.Rows.plainGoodE vw (looseW vw [])):=fun w os=>by kernel_rfl
theorem hB7:∀(w:World)(os:OsState),(TL w os).map (fun r=>sA7 r.abs)=some (wideGood vw):=fun w os=>by kernel_rfl
theorem nine{α0 α1 α2 α3 α4 α5 α6 α7 α8:Type}{o:Option SharedT}{A0:Shared→α0}{A1:Shared→α1}{A2:Shared→α2}{A3:Shared→α3}{A4:Shared→α4}{A5:Shared→α5}{A6:Shared→α6}{A7:Shared→α7}{A8:Shared→α8}{a0:α0}{a1:α1}{a2:α2}{a3:α3}{a4:α4}{a5:α5}{a6:α6}{a7:α7}{a8:α8}
  (h0:o.map (fun r=>A0 r.abs)=some a0) (h1:o.map (fun r=>(A1 r.abs,A3 r.abs,A4 r.abs,A6 r.abs,A8 r.abs))=some (a1,a3,a4,a6,a8)) (h2:o.map (fun r=>A2 r.abs)=some a2) (h5:o.map (fun r=>A5 r.abs)=some a5) (h7:o.map (fun r=>A7 r.abs)=some a7) :
  o.map (fun r=>(A0 r.abs,A1 r.abs,A2 r.abs,A3 r.abs,A4 r.abs,A5 r.abs,A6 r.abs,A7 r.abs,A8 r.abs))=some (a0,a1,a2,a3,a4,a5,a6,a7,a8):=by
 cases o with
 |none=>cases h0
 | some r =>
  simp only[Option.map_some,Option.some.injEq,Prod.mk.injEq]at h0 h1 h2 h5 h7 ⊢
  exact⟨h0,h1.1,h2,h1.2.1,h1.2.2.1,h5,h1.2.2.2.1,h7,h1.2.2.2.2⟩
theorem hB:∀(w:World)(os:OsState),(TL w os).map (fun r=>openSeen vw [] (importedModules PySem.Challenge.rw_formcycle_k55_no_answers.row.prog.main.body) (fun s=>xlAt vw [] s&&recOk (RowW.records PySem.Challenge.rw_formcycle_k55_no_answers.row.toRowW) s) true r.abs)=some (openGood vw []):=fun w os=>nine (A0:=sA0) (A1:=sA1) (A2:=sA2) (A3:=sA3) (A4:=sA4) (A5:=sA5) (A6:=sA6) (A7:=sA7) (A8:=sA8) (hB0 w os) (hB1 w os) (hB2 w os) (hB5 w os) (hB7 w os)
theorem hC:∀(w:World)(os:OsState),(TL w os).map (fun r=>Hook.obs (kHook My.KK My.asK (fun _=>by kernel_rfl)) r.abs)=some (Hook.val (kHook My.KK My.asK (fun _=>by kernel_rfl)) w):=fun w os=>by kernel_rfl
theorem hl:LeftO PySem.Challenge.rw_formcycle_k55_no_answers.row.prog vw [] (fun s=>xlAt vw [] s&&recOk (RowW.records PySem.Challenge.rw_formcycle_k55_no_answers.row.toRowW) s) (Hook.obs (kHook My.KK My.asK (fun _=>by kernel_rfl))) (Hook.val (kHook My.KK My.asK (fun _=>by kernel_rfl))) 5175:=fun w=>Aej (TL:=TL w) (by kernel_rfl) (by decide) (fun _=>by kernel_rfl) (hr w) (hA w) (hB w) (hC w) (fun os=>by kernel_rfl)
end My
namespace L2
open PySem Spec PyProof.Rows
abbrev Key:=Sum Int Str
def AhS:Key→Value→Bool
 |.inl k,v=>Value.isInt k v
 |.inr x,v=>Value.isStrOf x v
def Aon(w:World):Key→Int
 |.inl k=>hashInt k
 |.inr x=>hashStr w x
theorem CT:∀{k:Key} {v:Value},AhS k v=true→(∃i t,k=Sum.inl i∧v=Value.int i t)∨(∃x t,k=Sum.inr x∧v=Value.str x t)
 | .inl i,v,h=>by
  obtain⟨t,e⟩:=Value.isInt_shape (k:=i) (v:=v) h
  exact .inl ⟨i,t,rfl,e⟩
 | .inr x,v,h=>by
  obtain⟨t,e⟩:=Value.isStrOf_shape (x:=x) (v:=v) h
  exact .inr ⟨x,t,rfl,e⟩
theorem AjU(a b:Int):decide ((Sum.inl a:Key)=Sum.inl b)=(a==b):=by
 by_cases e:a=b
 ·subst e;simp
 ·have h:¬(Sum.inl a:Key)=Sum.inl b:=fun q=>e (Sum.inl.inj q)
  rw[decide_eq_false h]
  exact(beq_eq_false_iff_ne.mpr e).symm
theorem AkD(a b:Str):decide ((Sum.inr a:Key)=Sum.inr b)=decide (a=b):=by
 by_cases e:a=b
 ·subst e;simp
 ·have h:¬(Sum.inr a:Key)=Sum.inr b:=fun q=>e (Sum.inr.inj q)
  rw[decide_eq_false h,decide_eq_false e]
theorem AkJ(a:Int)(b:Str):decide ((Sum.inl a:Key)=Sum.inr b)=false:=decide_eq_false (fun q=>nomatch q)
theorem Aiw(a:Str)(b:Int):decide ((Sum.inr a:Key)=Sum.inl b)=false:=decide_eq_false (fun q=>nomatch q)
def Vh(prog:Program)(w:World):PySem.KeyKind prog w Key where
 is:=AhS
 hash:=Aon w
 inj:=fun v a b ha hb=>by
  rcases CT ha with⟨i,t,rfl,rfl⟩|⟨x,t,rfl,rfl⟩
  ·rcases CT hb with⟨j,u,rfl,e⟩|⟨y,u,rfl,e⟩
   ·injection e with e1 _;rw[e1]
   ·exact nomatch e
  ·rcases CT hb with⟨j,u,rfl,e⟩|⟨y,u,rfl,e⟩
   ·exact nomatch e
   ·injection e with e1 _;rw[e1]
 byValue:=fun k v h=>by
  rcases CT h with⟨i,t,rfl,rfl⟩|⟨x,t,rfl,rfl⟩<;>rfl
 pyHash:=fun hv h=>by
  rcases CT hv with⟨i,t,rfl,rfl⟩|⟨x,t,rfl,rfl⟩
  ·exact wpAny_pyHash_int h
  ·exact wpAny_pyHash_str h
 eqBool:=fun hu hv h=>by
  rcases CT hu with⟨i,t,rfl,rfl⟩|⟨x,t,rfl,rfl⟩
  ·rcases CT hv with⟨j,u,rfl,rfl⟩|⟨y,u,rfl,rfl⟩
   ·rw[AjU]at h;exact wpAny_eqBool_int h
   ·rw[AkJ]at h;exact SeqAt.EqAt.int_str i t y u _ _ _ _ h
  ·rcases CT hv with⟨j,u,rfl,rfl⟩|⟨y,u,rfl,rfl⟩
   ·rw[Aiw]at h;exact SeqAt.EqAt.str_int x t j u _ _ _ _ h
   ·rw[AkD]at h;exact wpAny_eqBool_str h
 «strs» := fun k x t v h=>by
  rcases CT h with⟨i,u,rfl,e⟩|⟨y,u,rfl,e⟩
  ·exact nomatch e
  ·injection e with e1 _
   subst e1
   cases v<;>rfl
end L2
namespace L2
open PySem Spec PyProof.Rows
inductive V where
 |non|bl (b:Bool)|int (i:Int)|str (x:Str)|byt (b:Array UInt8)|flt (b:UInt64)|ref (a:Addr)|ty (n:String)
 deriving DecidableEq
def RelV:V→Value→Prop
 |.non,u=>u=Value.none
 |.bl b,u=>u=Value.bool b
 |.int i,u=>∃t,u=Value.int i t
 |.str x,u=>∃t,u=Value.str x t
 |.byt b,u=>∃t,u=Value.bytes b t
 |.flt b,u=>∃t,u=Value.float b t
 |.ref a,u=>u=Value.ref a
 |.ty n,u=>u=Value.type n
abbrev Vals:List V→List Value→Prop:=Paired RelV
theorem Vals.length{xs:List V}{us:List Value}(r:Vals xs us):xs.length=us.length:=Paired.length r
theorem Vals.get:∀{xs:List V} {us:List Value} {i:Nat} {x:V},Vals xs us→xs[i]? = some x→∃u,us[i]? = some u∧RelV x u
 |_,_,_,_,.nil,e=>by simp at e
 |_,_,0,_,.cons r _,e=>by simp at e;subst e;exact⟨_,rfl,r⟩
 | _,_,i+1,x,.cons _ t,e=>by
  obtain⟨u,h1,h2⟩:=Vals.get (i:=i) (x:=x) t (by simpa using e)
  exact⟨u,by simpa using h1,h2⟩
theorem Vals.append:∀{xs ys:List V} {us ws:List Value},Vals xs us→Vals ys ws→Vals (xs++ys) (us++ws)
 |_,_,_,_,.nil,s=>s
 |_,_,_,_,.cons r t,s=>.cons r (Vals.append t s)
theorem Vals.take:∀{xs:List V} {us:List Value} (n:Nat),Vals xs us→Vals (xs.take n) (us.take n)
 |_,_,0,_=>.nil
 |_,_,_+1,.nil=>.nil
 |_,_,n+1,.cons r t=>.cons r (Vals.take n t)
theorem Vals.drop:∀{xs:List V} {us:List Value} (n:Nat),Vals xs us→Vals (xs.drop n) (us.drop n)
 |_,_,0,r=>r
 |_,_,_+1,.nil=>.nil
 |_,_,n+1,.cons _ t=>Vals.drop n t
def Mj:Option V→Option Value→Prop
 |some v,some u=>RelV v u
 |none,none=>True
 |_,_=>False
def KV{κ:Type}:List (κ×V)→List (κ×Value)→Prop:=Paired fun(p:κ×V)(q:κ×Value)=>p.1=q.1∧RelV p.2 q.2
def kV:Key→V
 |.inl i=>.int i
 |.inr x=>.str x
inductive HO where
  |lst (xs:List V)
  |tup (xs:List V)
  |dK (kvs:List (Key×V))|dT (kvs:List (List Key×V))
  |set (S:Int→Bool) (n:Nat)
  |ins (C dx:Addr) (fs:List (Str×V))
  |own (x:Addr)
  |xd (fs:List (Str×V))
  |met (f x:Addr)
  |rng (lo hi:Int)
  |frz (o:Obj) (u:HO)
  |tbl (ps:Array Value)
  |ext (φ:Heap→Prop)
abbrev Hp:=Addr→Option HO
def upd(H:Hp)(a:Addr)(o:HO):Hp:=fun b=>if b=a then some o else H b
theorem Av{H:Hp}{a:Addr}{o:HO}:upd H a o a=some o:=by unfold upd;rw[if_pos rfl]
theorem Ak{H:Hp}{a b:Addr}{o:HO}(h:b≠a):upd H a o b=H b:=by unfold upd;rw[if_neg h]
theorem Bb{H:Hp}{a b:Addr}{o:HO}(h:H a=some o)(h':H b=none):a≠b:=by
 intro e;subst e;rw[h]at h';cases h'
section
variable(P:Program)(w:World)
def Ej(H:Hp)(h:Heap)(a:Addr):HO→Prop
 |.lst xs=>xs.length≤sizeLine∧∃(its:List Value)(n:Nat),Vals xs its∧h.get? a=some {cls:=.type "list",data:=.seq its.toArray n}
 |.tup xs=>xs.length≤sizeLine∧∃its:List Value,Vals xs its∧IsTup h a its.toArray
 |.dK kvs=>kvs.length≤sizeLine∧(a==sysModules)=false∧∃vs,KV kvs vs∧h.DictOf (Vh P w) a vs
 | .dT kvs=>kvs.length≤sizeLine∧(a==sysModules)=false∧∃xs:List (List Key×Addr×Value),
   Paired (fun(p:List Key×V)(q:List Key×Addr×Value)=>p.1=q.1∧H q.2.1=some (.tup (p.1.map kV))∧RelV p.2 q.2.2) kvs xs ∧
   ∃o es ep,h.get? a=some o∧o.ExactDict∧o.data=.dict es ep∧es.toList=xs.map (entryOfKey (tupleKind (Vh P w)))∧(xs.map (·.1)).Nodup
 |.set S n=>h.SetOf (intKind P w) a S n
 | .ins C dx fs=>H dx=some (.own a)∧fs.length≤1000∧dx≠a∧h.get? a=some (W.instObj C dx) ∧
   ∃mA,h.Ns1 dx mA∧(∀f,Mj (fs.lookup f) (mA f))∧PySem.Within mA (fs.map (·.1))
 |.own _=>∃o,h.get? a=some o
 |.xd fs=>∃mA,h.Ns1 a mA∧∀f,Mj (fs.lookup f) (mA f)
 |.rng lo hi=>∃t u v,h.get? a=some {cls:=.type "range",data:=.fields #[.int lo t,.int hi u,.int 1 v]}
 |.frz o u=>h.get? a=some o∧Ej H h a u
 |.tbl ps=>h.get? a=some {cls:=.none,data:=.fields ps}
 |.met f x=>h.get? a=some (W.methodObj (.ref f) (.ref x))
 |.ext φ=>φ h∧(∃o,h.get? a=some o)∧∀h1 h2:Heap,φ h1→(∀o,h1.get? a=some o→h2.get? a=some o)→φ h2
def HOk(H:Hp)(h:Heap):Prop:=∀a o,H a=some o→Ej P w H h a o
end
section
variable{P:Program}{w:World}{H H':Hp}{h h':Heap}{a:Addr}{o:HO}
theorem Ej.lt(x:Ej P w H h a o):a<h.objs.size:=by
 cases o with
 |lst xs=>obtain⟨_,_,_,_,e⟩:=x;exact Heap.lt_size e
 |tup xs=>obtain⟨_,_,_,p⟩:=x;exact p.lt
 |dK kvs=>obtain⟨_,_,_,_,o,_,_,e,_⟩:=x;exact Heap.lt_size e
 |dT kvs=>obtain⟨_,_,_,_,o,_,_,e,_⟩:=x;exact Heap.lt_size e
 |set S n=>obtain⟨o,_,_,_,e,_⟩:=x;exact Heap.lt_size e
 |ins C dx fs=>obtain⟨_,_,_,e,_⟩:=x;exact Heap.lt_size e
 |own y=>obtain⟨_,e⟩:=x;exact Heap.lt_size e
 |xd fs=>obtain⟨_,⟨_,_,_,e,_⟩,_⟩:=x;exact Heap.lt_size e
 |rng lo hi=>obtain⟨_,_,_,e⟩:=x;exact Heap.lt_size e
 |frz ob u=>obtain⟨e,_⟩:=x;exact Heap.lt_size e
 |tbl ps=>exact Heap.lt_size (show h.get? a=some _ from x)
 |met f y=>exact Heap.lt_size (show h.get? a=some _ from x)
 |ext φ=>obtain⟨_,⟨_,e⟩,_⟩:=x;exact Heap.lt_size e
theorem Paired.acr{α β:Type}{F G:α→β→Prop}:∀{l₁:List α} {l₂:List β},Paired F l₁ l₂→(∀a b,F a b→G a b)→Paired G l₁ l₂
 |_,_,.nil,_=>.nil
 |_,_,.cons r t,f=>.cons (f _ _ r) (Paired.acr t f)
theorem Ej.stay(x:Ej P w H h a o)(k:∀b u,(b=a∨H b=some (.own a))→h.get? b=some u→h'.get? b=some u)
  (ho:∀b,H b=some (.own a)→H' b=some (.own a)) (ht:∀b xs,H b=some (.tup xs)→H' b=some (.tup xs)):Ej P w H' h' a o:=by
 induction o with
 |lst xs=>obtain⟨z,its,n,r,e⟩:=x;exact⟨z,its,n,r,k _ _ (.inl rfl) e⟩
 |tup xs=>obtain⟨z,its,r,ob,e,c⟩:=x;exact⟨z,its,r,ob,k _ _ (.inl rfl) e,c⟩
 |dK kvs=>obtain⟨z,y,vs,r,ob,es,ep,e,c⟩:=x;exact⟨z,y,vs,r,ob,es,ep,k _ _ (.inl rfl) e,c⟩
 | dT kvs =>
  obtain⟨z,y,xs,r,ob,es,ep,e,c⟩:=x
  exact⟨z,y,xs,Paired.acr r fun p q z=>⟨z.1,ht _ _ z.2.1,z.2.2⟩,ob,es,ep,k _ _ (.inl rfl) e,c⟩
 |set S n=>obtain⟨ob,es,ep,t,e,c⟩:=x;exact⟨ob,es,ep,t,k _ _ (.inl rfl) e,c⟩
 | ins C dx fs =>
  obtain⟨d,z,ne,e,mA,⟨od,es,ep,e2,c⟩,r⟩:=x
  exact⟨ho _ d,z,ne,k _ _ (.inl rfl) e,mA,⟨od,es,ep,k _ _ (.inr d) e2,c⟩,r⟩
 |own y=>obtain⟨ob,e⟩:=x;exact⟨ob,k _ _ (.inl rfl) e⟩
 |xd fs=>obtain⟨mA,⟨od,es,ep,e,c⟩,r⟩:=x;exact⟨mA,⟨od,es,ep,k _ _ (.inl rfl) e,c⟩,r⟩
 |rng lo hi=>obtain⟨t,u,v,e⟩:=x;exact⟨t,u,v,k _ _ (.inl rfl) e⟩
 |frz ob u ih=>obtain⟨e,q⟩:=x;exact⟨k _ _ (.inl rfl) e,ih q⟩
 | tbl ps =>
  have e:h.get? a=some {cls:=.none,data:=.fields ps}:=x
  show h'.get? a=some {cls:=.none,data:=.fields ps}
  exact k a _ (.inl rfl) e
 | met f y =>
  have e:h.get? a=some (W.methodObj (.ref f) (.ref y)):=x
  show h'.get? a=some (W.methodObj (.ref f) (.ref y))
  exact k a _ (.inl rfl) e
 |ext φ=>obtain⟨p,⟨o,e⟩,st⟩:=x;exact⟨st _ _ p fun o q=>k _ _ (.inl rfl) q,⟨o,k _ _ (.inl rfl) e⟩,st⟩
theorem HOk.lt(x:HOk P w H h)(e:H a=some o):a<h.objs.size:=(x a o e).lt
theorem HOk.fresh(x:HOk P w H h)(e:h.objs.size≤a):H a=none:=by
 cases q:H a with
 |none=>rfl
 |some u=>exact absurd (Nat.lt_of_lt_of_le (x.lt q) e) (Nat.lt_irrefl _)
theorem HOk.kept(x:HOk P w H h)(k:∀b u,h.get? b=some u→h'.get? b=some u):HOk P w H h':=fun a o e =>
 (x a o e).stay (fun b u _ q=>k b u q) (fun _ q=>q) fun _ _ q=>q
theorem HOk.laid(x:HOk P w H h)(k:∀b u,h.get? b=some u→h'.get? b=some u)(hp:h.objs.size≤a)(new:Ej P w (upd H a o) h' a o):HOk P w (upd H a o) h':=fun b u e=>by
 have hn:=x.fresh hp
 by_cases hb:b=a
 ·subst hb;rw[Av]at e;cases e;exact new
 ·rw[Ak hb]at e
  exact(x b u e).stay (fun c v _ q=>k c v q) (fun c q=>by rw[Ak (Bb q hn)];exact q) fun c xs q=>by rw[Ak (Bb q hn)];exact q
end
def Rd(H:Hp)(a:Addr)(u:HO):Prop:=H a=some u∨∃o,H a=some (.frz o u)
theorem Rd.ok{P:Program}{w:World}{H:Hp}{h:Heap}{a:Addr}{u:HO}(r:Rd H a u)(x:HOk P w H h):Ej P w H h a u:=by
 rcases r with r|⟨o,r⟩
 ·exact x a u r
 ·obtain⟨_,q⟩:=x a _ r
  exact q
def Mut:Option HO→Prop
 |some (.lst _)=>True
 |some (.dK _)=>True
 |some (.dT _)=>True
 |some (.set _ _)=>True
 |some (.ins _ _ _)=>True
 |some (.ext _)=>True
 |_=>False
section
variable{P:Program}{w:World}{H:Hp}{h h':Heap}{x e:Addr}{o':HO}
theorem HOk.write(ok:HOk P w H h)(mu:Mut (H x))(he:e=x∨H e=some (.own x))(k:∀b u,b≠e→h.get? b=some u→h'.get? b=some u)(heo:∃u,h'.get? e=some u)
  (new:Ej P w (upd H x o') h' x o'):HOk P w (upd H x o') h':=fun b u q=>by
 have acs:∀c y,H c=some (.own y)→c≠x:=fun c y r z=>by subst z;rw[r]at mu;exact mu
 have acN:∀c xs,H c=some (.tup xs)→c≠x:=fun c xs r z=>by subst z;rw[r]at mu;exact mu
 by_cases hb:b=x
 ·subst hb;rw[Av]at q;cases q;exact new
 ·rw[Ak hb]at q
  by_cases hbe:b=e
  ·have q':H b=some (.own x):=by
    rcases he with z|z
    ·exact absurd (hbe.trans z) hb
    ·rw[hbe];exact z
   rw[q]at q';cases q'
   obtain⟨v,hv⟩:=heo
   exact⟨v,by rw[hbe];exact hv⟩
  ·refine(ok b u q).stay (fun c v hc r=>k c v ?_ r) (fun c r=>by rw[Ak (acs c b r)];exact r) fun c xs r=>by rw[Ak (acN c xs r)];exact r
   rcases hc with rfl|hc
   ·exact hbe
   ·rintro rfl
    rcases he with z|z
    ·exact acs c b hc z
    ·rw[hc]at z;cases z;exact hb rfl
end
structure Un(fs ex:List Addr)(H H':Hp)(h h':Heap):Prop where
 keep:∀b o,h.get? b=some o→H b=none→b∉fs→b∉ex→h'.get? b=some o
 slot:∀b o,h.get? b=some o→H b=none→b∈fs→b∉ex→∃sl,h'.get? b=some {o with slots:=sl}
 free:∀b o,h.get? b=some o→H b=none→b∉ex→H' b=none
 there:∀b o,h.get? b=some o→b∉ex→∃o',h'.get? b=some o'
 tups:∀b xs,H b=some (.tup xs)→H' b=some (.tup xs)
 lK:∀b o u,H b=some (.frz o u)→H' b=some (.frz o u)
 mD:∀b ps,H b=some (.tbl ps)→∃more,H' b=some (.tbl (ps++more))
section
variable{fs fs' ex ex':List Addr}{H H1 H2:Hp}{h h1 h2 h':Heap}{a x e:Addr}{o:HO}
theorem Un.any(u:Un fs ex H H1 h h1){b:Addr}{ob:Obj}(q:h.get? b=some ob)(n:H b=none)(hx:b∉ex):∃sl,h1.get? b=some {ob with slots:=sl}:=by
 by_cases hb:b∈fs
 ·exact u.slot b ob q n hb hx
 ·exact⟨ob.slots,u.keep b ob q n hb hx⟩
theorem Un.trans(a:Un fs ex H H1 h h1)(b:Un fs ex H1 H2 h1 h2):Un fs ex H H2 h h2 where
 keep:=fun c ob q n hc hx=>b.keep c ob (a.keep c ob q n hc hx) (a.free c ob q n hx) hc hx
 slot:=fun c ob q n hc hx=>by
  obtain⟨sl,e1⟩:=a.slot c ob q n hc hx
  obtain⟨sl',e2⟩:=b.slot c _ e1 (a.free c ob q n hx) hc hx
  exact⟨sl',e2⟩
 free:=fun c ob q n hx=>by
  obtain⟨o',e1⟩:=a.there c ob q hx
  exact b.free c o' e1 (a.free c ob q n hx) hx
 there:=fun c ob q hx=>by
  obtain⟨o',e1⟩:=a.there c ob q hx
  exact b.there c o' e1 hx
 tups:=fun c xs q=>b.tups c xs (a.tups c xs q)
 lK:=fun c ob xs q=>b.lK c ob xs (a.lK c ob xs q)
 mD:=fun c ps q=>by
  obtain⟨m1,e1⟩:=a.mD c ps q
  obtain⟨m2,e2⟩:=b.mD c _ e1
  exact⟨m1++m2,by rw[e2,Array.append_assoc]⟩
theorem Un.kept(k:∀b u,h.get? b=some u→h'.get? b=some u):Un fs ex H H h h' :=
 ⟨fun b ob q _ _ _=>k b ob q,fun b ob q _ _ _=>⟨ob.slots,k b ob q⟩,fun _ _ _ n _=>n,fun b ob q _=>⟨ob,k b ob q⟩,fun _ _ q=>q,fun _ _ _ q=>q,fun _ ps q=>⟨#[],by rw[q];simp⟩⟩
theorem Un.refl:Un fs ex H H h h:=Un.kept fun _ _ q=>q
theorem Un.laid(k:∀b u,h.get? b=some u→h'.get? b=some u)(hp:h.objs.size≤a)(hn:H a=none):Un fs ex H (upd H a o) h h' where
 keep:=fun b u q _ _ _=>k b u q
 slot:=fun b u q _ _ _=>⟨u.slots,k b u q⟩
 free:=fun b u q n _=>by rw[Ak (Nat.ne_of_lt (Nat.lt_of_lt_of_le (Heap.lt_size q) hp))];exact n
 there:=fun b u q _=>⟨u,k b u q⟩
 tups:=fun b xs q=>by rw[Ak (Bb q hn)];exact q
 lK:=fun b u xs q=>by rw[Ak (Bb q hn)];exact q
 mD:=fun b ps q=>⟨#[],by rw[Ak (Bb q hn),q];simp⟩
theorem Un.write(mu:Mut (H x))(he:e=x∨H e=some (.own x))(k:∀b u,b≠e→h.get? b=some u→h'.get? b=some u)(heo:∃u,h'.get? e=some u):Un fs ex H (upd H x o) h h':=by
 have hx:∀b,H b=none→b≠x:=fun b n z=>by subst z;rw[n]at mu;exact mu
 have hb:∀b,H b=none→b≠e:=fun b n z=>by
  subst z
  rcases he with r|r
  ·exact hx b n r
  ·rw[n]at r;cases r
 have hm:∀b u,H b=some u→¬Mut (some u)→b≠x:=fun b u q nm z=>by subst z;rw[q]at mu;exact nm mu
 refine⟨fun b u q n _ _=>k b u (hb b n) q,fun b u q n _ _=>⟨u.slots,k b u (hb b n) q⟩,fun b u q n _=>by rw[Ak (hx b n)];exact n,fun b u q _=>?_,
  fun b xs q=>by rw[Ak (hm b _ q fun z=>z)];exact q,fun b u xs q=>by rw[Ak (hm b _ q fun z=>z)];exact q,fun b ps q=>⟨#[],by rw[Ak (hm b _ q fun z=>z),q];simp⟩⟩
 by_cases hbe:b=e
 ·subst hbe;exact heo
 ·exact⟨u,k b u hbe q⟩
end
def trk(h:Heap)(H:Hp):List Addr:=(List.range h.objs.size).filter fun a=>(H a).isSome
def T7(h:Heap)(H:Hp):Heap:=W.hideAll h (trk h H)
theorem Abk(h:Heap)(H:Hp):(T7 h H).objs.size=h.objs.size:=W.hideAll_size _ _
theorem Adu{h:Heap}{H:Hp}{b:Addr}{o:Obj}(e:h.get? b=some o)(n:H b=none):(T7 h H).get? b=some o :=
 W.hideAll_get _ e fun hm=>by
  have q:(H b).isSome=true:=(List.mem_filter.mp hm).2
  rw[n]at q;simp at q
theorem Afq{h:Heap}{H:Hp}{b:Addr}{o:Obj}(e:(T7 h H).get? b=some o):h.get? b=some o∧H b=none:=by
 have e':h.get? b=some o:=W.of_hideAll (trk h H) e
 refine⟨e',?_⟩
 cases q:H b with
 |none=>rfl
 | some x =>
  have hm:b∈trk h H:=List.mem_filter.mpr ⟨List.mem_range.mpr (Heap.lt_size e'),by simp[q]⟩
  have z:(T7 h H).get? b=none:=W.hideAll_none (trk h H) hm
  rw[z]at e;cases e
def Agt(g h:Heap)(L:Addr):List (Addr×Obj):=(List.range h.objs.size).filterMap fun a=>if a=L∨(g.get? a).isSome=true then none else(h.get? a).map fun o=>(a,o)
def rest(g h:Heap)(L d:Addr):List (Addr×Obj):=(Agt g h L).filter fun p=>decide (p.1≠d)
end L2
namespace L2
open PySem Spec PyProof.Rows
structure Mod(K:W.Frag)(mg:Str→Option Value)(base:Heap):Prop where
 kin:K.In base
 glob:base.Ns mainGlobals mg
 blt:∃mb,base.Ns builtinsNs mb∧∀x:Str,x≠"__name__"→mb x=bootBuiltins x
 nolimit:base.NoLimit
structure Cx where
 prog:Program
 w:World
 K:W.Frag
 mg:Str→Option Value
 base:Heap
 A:Around
 N:List Str
 s₀:Shared
 H₀:Hp
 env:Env
 outer:List Env
 stack:List Env
 ex:List Addr
 fn:Str→Bool
 calm:Bool
 pn:List (Addr×Obj)
 xe:Value→Shared→Prop
def frs(l:List Env):List Addr:=l.filterMap (·.frame)
abbrev Cx.fs(X:Cx):List Addr:=frs X.outer
def Vis(sc:Scope)(x:Str):Prop:=sc.names.lookup x=some .local∨sc.names.lookup x=some .cell∨sc.names.lookup x=some .free
def Loc(sc:Scope)(x:Str):Prop:=sc.names.lookup x=some .local∨sc.names.lookup x=some .cell
def Look(env:Env)(h:Heap)(m:Str→Option Value)(x:Str)(u:Value):Prop :=
 (env.kindOf x=some .local∧m x=some u)∨((env.kindOf x=some .cell∨env.kindOf x=some .free)∧∃c,env.cells.lookup x=some c∧h.IsCell c (some u))
structure Cx.Ok(X:Cx):Prop where
 mod:Mod X.K X.mg X.base
 kind:X.env.scope.kind=.function
 glob:X.env.globals=mainGlobals
 blt:X.env.builtins=builtinsNs
 above:X.s₀.heap.objs.size≤X.env.locals
 inj:∀x y c,X.env.cells.lookup x=some c→X.env.cells.lookup y=some c→x=y
 has:∀x,(X.env.kindOf x=some .cell∨X.env.kindOf x=some .free)→∃c,X.env.cells.lookup x=some c
 cab:∀x c,X.fn x=true→X.env.cells.lookup x=some c→X.s₀.heap.objs.size≤c
 hd:X.calm=true→X.A.handled=none
 frames:X.A.frames=some X.stack
 stk:X.stack=X.outer∨(X.stack=X.env::X.outer∧X.env.frame=some X.env.locals)
 exf:∀b∈X.ex,b≠X.env.locals∧∀x c,X.env.cells.lookup x=some c→c≠b
 bs:∀b o,X.base.get? b=some o→X.s₀.heap.get? b=some o∧X.H₀ b=none
 bsz:X.base.objs.size≤X.s₀.heap.objs.size
 vf:∀b o,X.base.get? b=some o→b∉X.ex
 uh:∀b∈X.ex,b∉X.fs
 lM:X.s₀.heap.FunFrames X.base X.outer
 frf:∀b∈X.fs,X.H₀ b=none
structure Inv(X:Cx)(pins:List (Addr×Obj))(σ:List (Option V))(H:Hp)(s:Shared):Prop where
 ok:X.Ok
 os:s.os=X.s₀.os
 bare:AllBare s.gens
 base:Un X.fs X.ex X.H₀ H X.s₀.heap s.heap
 loc:∃m,s.heap.Ns X.env.locals m∧∀(i:Nat)(x:Str)(v:V),X.N[i]? = some x→σ[i]? = some (some v)→Vis X.env.scope x→∃u,RelV v u∧Look X.env s.heap m x u
 cell:∀x c,X.env.cells.lookup x=some c→∃v,s.heap.IsCell c v
 free:H X.env.locals=none
 gR:∀x c,X.env.cells.lookup x=some c→H c=none
 pin:∀p∈X.pn++pins,s.heap.get? p.1=some p.2∧H p.1=none∧p.1≠X.env.locals∧p.1∉X.fs∧∀v,p.2.data≠.cell v
 hok:HOk X.prog X.w H s.heap
 len:σ.length=X.N.length
section
variable{X:Cx}{pins:List (Addr×Obj)}{σ:List (Option V)}{H H':Hp}{s:Shared}{h':Heap}
theorem Cx.Ok.acO(ok:X.Ok){b:Addr}{o:Obj}(e:X.base.get? b=some o):b∉X.fs:=fun hb=>by
 have:=(ok.lM.mem hb).1
 rw[e]at this;cases this
theorem Inv.bs(I:Inv X pins σ H s):∀b o,X.base.get? b=some o→s.heap.get? b=some o∧H b=none:=fun b o e =>
 ⟨I.base.keep b o (I.ok.bs b o e).1 (I.ok.bs b o e).2 (I.ok.acO e) (I.ok.vf b o e),I.base.free b o (I.ok.bs b o e).1 (I.ok.bs b o e).2 (I.ok.vf b o e)⟩
theorem Inv.bk(I:Inv X pins σ H s):∀b o,X.base.get? b=some o→s.heap.get? b=some o:=fun b o e=>(I.bs b o e).1
theorem Inv.mod(I:Inv X pins σ H s):Mod X.K X.mg X.base:=I.ok.mod
theorem Inv.kIn(I:Inv X pins σ H s):X.K.In s.heap:=I.ok.mod.kin.keeps I.bk
theorem Inv.lt(I:Inv X pins σ H s):X.env.locals<s.heap.objs.size:=let ⟨_,hn,_⟩:=I.loc;hn.lt
theorem Inv.sz(I:Inv X pins σ H s):X.s₀.heap.objs.size≤s.heap.objs.size:=Nat.le_trans I.ok.above (Nat.le_of_lt I.lt)
theorem Inv.acP(I:Inv X pins σ H s){a:Addr}(h:s.heap.objs.size≤a):a∉X.fs:=fun hb=>by
 obtain⟨_,o,ho,_⟩:=I.ok.lM.mem hb
 exact absurd (Nat.lt_of_lt_of_le (Heap.lt_size ho) (Nat.le_trans I.sz h)) (Nat.lt_irrefl _)
theorem Inv.cne(I:Inv X pins σ H s):∀x c,X.env.cells.lookup x=some c→c≠X.env.locals:=fun x c e z=>by
 obtain⟨v,o,ho,hd⟩:=I.cell x c e
 obtain⟨m,⟨o',es,ep,ho',hd',_⟩,_⟩:=I.loc
 rw[z,ho']at ho;cases ho;rw[hd']at hd;cases hd
theorem Inv.lM(I:Inv X pins σ H s):s.heap.FunFrames X.base X.outer:=by
 have all:∀(l:List Env),(∀b∈frs l,b∈X.fs)→X.s₀.heap.FunFrames X.base l→s.heap.FunFrames X.base l:=by
  intro l
  induction l with
  |nil=>intro _ _;trivial
  | cons env r ih =>
   intro hs hl
   obtain⟨hk,⟨L,o,hf,hn,ho,hd⟩,hr⟩:=hl
   have hL:L∈X.fs:=hs L (by unfold frs;rw[List.filterMap_cons,hf];exact List.mem_cons_self)
   obtain⟨sl,e⟩:=I.base.slot L o ho (I.ok.frf L hL) hL fun z=>I.ok.uh L z hL
   exact⟨hk,⟨L,_,hf,hn,e,hd⟩,ih (fun b hb=>hs b (by unfold frs;rw[List.filterMap_cons,hf];exact List.mem_cons_of_mem _ hb)) hr⟩
 exact all X.outer (fun _ hb=>hb) I.ok.lM
theorem Inv.stack(I:Inv X pins σ H s):s.heap.FunFrames X.base X.stack:=by
 rcases I.ok.stk with e|⟨e,hf⟩
 ·rw[e];exact I.lM
 ·rw[e]
  obtain⟨m,hn,_⟩:=I.loc
  refine .cons (by rw[I.ok.kind];decide) hf hn ?_ I.lM
  exact Heap.get?_none_of_le (Nat.le_trans I.ok.bsz I.ok.above)
theorem Inv.vg(I:Inv X pins σ H s):∀b∈frs X.stack,b∈X.env.locals::X.fs:=fun b hb=>by
 rcases I.ok.stk with e|⟨e,hf⟩
 ·rw[e]at hb;exact List.mem_cons_of_mem _ hb
 ·rw[e]at hb
  unfold frs at hb
  rw[List.filterMap_cons,hf]at hb
  exact hb
theorem Inv.vh(I:Inv X pins σ H s):∀b∈frs X.stack,H b=none:=fun b hb=>by
 rcases List.mem_cons.mp (I.vg b hb)with e|hb
 ·rw[e];exact I.free
 ·obtain⟨_,o,ho,_⟩:=I.ok.lM.mem hb
  exact I.base.free b o ho (I.ok.frf b hb) fun z=>I.ok.uh b z hb
theorem Inv.step{g':Array GenState}{t':Nat}{d':Drawn}{ch:List Addr}(I:Inv X pins σ H s)
  (hch:∀b∈ch,(b∈X.ex∨X.s₀.heap.objs.size≤b)∧b≠X.env.locals∧(∀x c,X.env.cells.lookup x=some c→c≠b)∧∀p∈X.pn++pins,p.1≠b)
  (keep:∀b o,b≠X.env.locals→b∉X.fs→b∉ch→s.heap.get? b=some o→H b=none→h'.get? b=some o)
  (slot:∀b o,b≠X.env.locals→b∈X.fs→b∉ch→s.heap.get? b=some o→H b=none→∃sl,h'.get? b=some {o with slots:=sl}) (free:∀b o,b∉ch→s.heap.get? b=some o→H b=none→H' b=none)
  (there:∀b o,b∉ch→s.heap.get? b=some o→∃o',h'.get? b=some o')
  (tups:∀b xs,H b=some (.tup xs)→H' b=some (.tup xs)) (lK:∀b o u,H b=some (.frz o u)→H' b=some (.frz o u)) (mD:∀b ps,H b=some (.tbl ps)→∃more,H' b=some (.tbl (ps++more)))
  (ns:∀m,s.heap.Ns X.env.locals m→h'.Ns X.env.locals m) (hok:HOk X.prog X.w H' h') (hg:AllBare g') :
  Inv X pins σ H' {s with heap:=h',gens:=g',drawn:=d',toks:=t'}:=by
 have neL:∀b o,X.s₀.heap.get? b=some o→b≠X.env.locals:=fun b o e=>Nat.ne_of_lt (Nat.lt_of_lt_of_le (Heap.lt_size e) I.ok.above)
 have neC:∀b o,X.s₀.heap.get? b=some o→b∉X.ex→b∉ch:=fun b o e hx hb=>by
  rcases(hch b hb).1 with z|z
  ·exact hx z
  ·exact absurd (Nat.lt_of_lt_of_le (Heap.lt_size e) z) (Nat.lt_irrefl _)
 have cellK:∀x c,X.env.cells.lookup x=some c→∀v,s.heap.IsCell c v→h'.IsCell c v:=fun x c e v ⟨o,ho,hd⟩=>by
  have nch:c∉ch:=fun z=>(hch c z).2.2.1 x c e rfl
  by_cases hc:c∈X.fs
  ·obtain⟨sl,q⟩:=slot c o (I.cne x c e) hc nch ho (I.gR x c e)
   exact⟨_,q,hd⟩
  ·exact⟨o,keep c o (I.cne x c e) hc nch ho (I.gR x c e),hd⟩
 refine⟨I.ok,I.os,hg,⟨fun b o e n hb hx=>?_,fun b o e n hb hx=>?_,fun b o e n hx=>?_,fun b o e hx=>?_,fun b xs e=>tups b xs (I.base.tups b xs e),fun b o xs e=>lK b o xs (I.base.lK b o xs e),fun b ps e=>?_⟩,?_,fun x c e=>?_,?_,fun x c e=>?_,fun p hp=>?_,hok,I.len⟩
 ·exact keep b o (neL b o e) hb (neC b o e hx) (I.base.keep b o e n hb hx) (I.base.free b o e n hx)
 ·obtain⟨sl,e1⟩:=I.base.slot b o e n hb hx
  obtain⟨sl',e2⟩:=slot b _ (neL b o e) hb (neC b o e hx) e1 (I.base.free b o e n hx)
  exact⟨sl',e2⟩
 ·obtain⟨o',e1⟩:=I.base.there b o e hx
  exact free b o' (neC b o e hx) e1 (I.base.free b o e n hx)
 ·obtain⟨o',e1⟩:=I.base.there b o e hx
  exact there b o' (neC b o e hx) e1
 ·obtain⟨m1,e1⟩:=I.base.mD b ps e
  obtain⟨m2,e2⟩:=mD b _ e1
  exact⟨m1++m2,by rw[e2,Array.append_assoc]⟩
 ·obtain⟨m,hn,hl⟩:=I.loc
  refine⟨m,ns m hn,fun i x v e1 e2 e3=>?_⟩
  obtain⟨u,r,l⟩:=hl i x v e1 e2 e3
  refine⟨u,r,?_⟩
  rcases l with l|⟨k,c,e,z⟩
  ·exact .inl l
  ·exact .inr ⟨k,c,e,cellK x c e _ z⟩
 ·obtain⟨v,z⟩:=I.cell x c e
  exact⟨v,cellK x c e v z⟩
 ·obtain⟨m,⟨o,_,_,ho,_⟩,_⟩:=I.loc
  exact free _ o (fun z=>(hch _ z).2.1 rfl) ho I.free
 ·obtain⟨v,o,ho,hd⟩:=I.cell x c e
  exact free c o (fun z=>(hch c z).2.2.1 x c e rfl) ho (I.gR x c e)
 ·obtain⟨e,n,ne,nf,d⟩:=I.pin p hp
  have nch:p.1∉ch:=fun z=>(hch p.1 z).2.2.2 p hp rfl
  exact⟨keep p.1 p.2 ne nf nch e n,free p.1 p.2 nch e n,ne,nf,d⟩
theorem Inv.un{t':Nat}(I:Inv X pins σ H s)(u:Un X.fs [] H H' s.heap h')(hok:HOk X.prog X.w H' h'):Inv X pins σ H' {s with heap:=h',toks:=t'}:=by
 obtain⟨m,⟨o,es,ep,ho,r⟩,_⟩:=id I.loc
 obtain⟨sl,hL⟩:=u.any ho I.free (by simp)
 exact I.step (g':=s.gens) (d':=s.drawn) (ch:=[]) (fun _ z=>nomatch z) (fun b o _ hb _ e n=>u.keep b o e n hb (by simp)) (fun b o _ hb _ e n=>u.slot b o e n hb (by simp)) (fun b o _ e n=>u.free b o e n (by simp)) (fun b o _ e=>u.there b o e (by simp)) u.tups u.lK u.mD (fun m' hm=>by
  obtain⟨o',es',ep',ho',r'⟩:=hm
  rw[ho]at ho';cases ho'
  exact⟨_,es',ep',hL,r'⟩) hok I.bare
theorem Inv.call{g':Array GenState}{t':Nat}{d':Drawn}{ch:List Addr}(I:Inv X pins σ H s)(u:Un (frs X.stack) ch H H' s.heap h')(hok:HOk X.prog X.w H' h')(hg:AllBare g')
  (hch:∀b∈ch,(b∈X.ex∨X.s₀.heap.objs.size≤b)∧b≠X.env.locals∧(∀x c,X.env.cells.lookup x=some c→c≠b)∧∀p∈X.pn++pins,p.1≠b) :
  Inv X pins σ H' {s with heap:=h',gens:=g',drawn:=d',toks:=t'}:=by
 obtain⟨m,⟨o,es,ep,ho,r⟩,_⟩:=id I.loc
 obtain⟨sl,hL⟩:=u.any ho I.free fun z=>(hch _ z).2.1 rfl
 exact I.step (ch:=ch) hch (fun b o hL hb hc e n=>u.keep b o e n (fun z=>(List.mem_cons.mp (I.vg b z)).elim hL hb) hc) (fun b o _ _ hc e n=>u.any e n hc) (fun b o hc e n=>u.free b o e n hc) (fun b o hc e=>u.there b o e hc) u.tups u.lK u.mD (fun m' hm=>by
  obtain⟨o',es',ep',ho',r'⟩:=hm
  rw[ho]at ho';cases ho'
  exact⟨_,es',ep',hL,r'⟩) hok hg
theorem Inv.turned{t':Nat}{it:Addr}(I:Inv X pins σ H s)(k:∀b o,b≠it→s.heap.get? b=some o→h'.get? b=some o)(hn:H it=none)(hL:it≠X.env.locals)
  (h1:it∈X.ex∨X.s₀.heap.objs.size≤it) (h2:∀x c,X.env.cells.lookup x=some c→c≠it) (h3:∀p∈X.pn++pins,p.1≠it):Inv X pins σ H {s with heap:=h',toks:=t'}:=by
 have nit:∀b u,H b=some u→b≠it:=fun b u e z=>by rw[z,hn]at e;cases e
 refine I.step (g':=s.gens) (d':=s.drawn) (ch:=[it]) (fun b hb=>?_) (fun b o _ _ hc e _=>k b o (fun z=>hc (by simp[z])) e) (fun b o _ _ hc e _=>⟨o.slots,k b o (fun z=>hc (by simp[z])) e⟩) (fun _ _ _ _ n=>n)
  (fun b o hc e=>⟨o,k b o (fun z=>hc (by simp[z])) e⟩) (fun _ _ e=>e) (fun _ _ _ e=>e) (fun b ps e=>⟨#[],by rw[e];simp⟩) (fun m hm=>?_) (fun b u e=>?_) I.bare
 ·have e:b=it:=by simpa using hb
  subst e
  exact⟨h1,hL,h2,h3⟩
 ·obtain⟨o,es,ep,ho,r⟩:=hm
  exact⟨o,es,ep,k _ o (Ne.symm hL) ho,r⟩
 ·refine(I.hok b u e).stay (fun c v hc q=>k c v ?_ q) (fun _ q=>q) fun _ _ q=>q
  rcases hc with z|z
  ·rw[z];exact nit b u e
  ·exact nit c _ z
theorem Inv.tok(I:Inv X pins σ H s)(t:Nat):Inv X pins σ H {s with toks:=t}:=I.un (h':=s.heap) (t':=t) Un.refl I.hok
theorem Inv.kept{t':Nat}(I:Inv X pins σ H s)(k:∀b u,s.heap.get? b=some u→h'.get? b=some u):Inv X pins σ H {s with heap:=h',toks:=t'}:=I.un (Un.kept k) (I.hok.kept k)
theorem Inv.laid{a:Addr}{o:HO}{t':Nat}(I:Inv X pins σ H s)(k:∀b u,s.heap.get? b=some u→h'.get? b=some u)(hp:s.heap.objs.size≤a)(new:Ej X.prog X.w (upd H a o) h' a o) :
  Inv X pins σ (upd H a o) {s with heap:=h',toks:=t'}:=I.un (Un.laid k hp (I.hok.fresh hp)) (I.hok.laid k hp new)
theorem Inv.write{x e:Addr}{o:HO}{t':Nat}(I:Inv X pins σ H s)(mu:Mut (H x))(he:e=x∨H e=some (.own x))(k:∀b u,b≠e→s.heap.get? b=some u→h'.get? b=some u)(heo:∃u,h'.get? e=some u)
  (new:Ej X.prog X.w (upd H x o) h' x o):Inv X pins σ (upd H x o) {s with heap:=h',toks:=t'}:=I.un (Un.write mu he k heo) (I.hok.write mu he k heo new)
theorem Inv.aaw{wQ:List (Addr×Obj)}(I:Inv X pins σ H s)(h:∀p∈wQ,s.heap.get? p.1=some p.2∧H p.1=none∧p.1≠X.env.locals∧p.1∉X.fs∧∀v,p.2.data≠.cell v):Inv X wQ σ H s :=
 ⟨I.ok,I.os,I.bare,I.base,I.loc,I.cell,I.free,I.gR,fun p hp=>(List.mem_append.mp hp).elim (fun z=>I.pin p (List.mem_append_left _ z)) (h p),I.hok,I.len⟩
theorem Qg{N:List Str}(hN:N.Nodup){i j:Nat}{x:Str}(a:N[i]? = some x)(b:N[j]? = some x):i=j:=by
 obtain⟨h1,e1⟩:=List.getElem?_eq_some_iff.mp a
 obtain⟨h2,e2⟩:=List.getElem?_eq_some_iff.mp b
 exact(List.getElem_inj hN).mp (e1.trans e2.symm)
theorem Td{M:Model}{A:Around}{E:Value→Shared→Prop}{i:Nat}{x:Str}{v:V}{u:Value}{Q:Unit→Shared→Prop}(I:Inv X pins σ H s)(hN:X.N.Nodup)(hi:X.N[i]? = some x)(hx:Loc X.env.scope x)(r:RelV v u)
  (h:∀s',Inv X pins (σ.set i (some v)) H s'→(∃a,Heap.SameBut a s.heap s'.heap∧(a=X.env.locals∨X.env.cells.lookup x=some a))→Q () s') (hf:X.fn x=true∨X.env.scope.names.lookup x=some .local:=by first|exact .inl rfl|exact .inr rfl|assumption):wpAny M A (storeName X.env x u) Q E s:=by
 obtain⟨m,hn,hl⟩:=id I.loc
 have hcls:(X.env.scope.kind == .class||(X.env.scope.kind == .module&&X.env.locals != X.env.globals))=false:=by rw[I.ok.kind];rfl
 have hiσ:i<σ.length:=by rw[I.len];exact(List.getElem?_eq_some_iff.mp hi).1
 have cne:=I.cne
 have tracked:∀{a:Addr} {h':Heap},(∃o,s.heap.get? a=some o∧H a=none)→Heap.SameBut a s.heap h'→HOk X.prog X.w H h':=fun{a h'} ha hs b ob e=>by
  obtain⟨_,_,hfree⟩:=ha
  refine(I.hok b ob e).stay (fun c w' hc q=>(hs.2 c ?_).trans q) (fun _ q=>q) fun _ _ q=>q
  rintro rfl
  rcases hc with rfl|hc
  ·rw[hfree]at e;cases e
  ·rw[hfree]at hc;cases hc
 rcases hx with hk|hk
 ·refine wpAny_storeName_local hk hn (fun h' hn' hs=>?_) hcls
  obtain⟨oL,_,_,hoL,_⟩:=id hn
  refine h _ ⟨I.ok,I.os,I.bare,⟨fun b o e n hb hx=>?_,fun b o e n hb hx=>?_,I.base.free,fun b o e hx=>?_,I.base.tups,I.base.lK,I.base.mD⟩,⟨_,hn',fun j y v' e1 e2 e3=>?_⟩,fun y c e=>?_,I.free,I.gR,fun p hp=>?_,tracked ⟨oL,hoL,I.free⟩ hs,by simpa using I.len⟩ ⟨_,hs,.inl rfl⟩
  ·exact(hs.2 b (Nat.ne_of_lt (Nat.lt_of_lt_of_le (Heap.lt_size e) I.ok.above))).trans (I.base.keep b o e n hb hx)
  ·obtain⟨sl,e1⟩:=I.base.slot b o e n hb hx
   exact⟨sl,(hs.2 b (Nat.ne_of_lt (Nat.lt_of_lt_of_le (Heap.lt_size e) I.ok.above))).trans e1⟩
  ·obtain⟨o',e1⟩:=I.base.there b o e hx
   exact⟨o',(hs.2 b (Nat.ne_of_lt (Nat.lt_of_lt_of_le (Heap.lt_size e) I.ok.above))).trans e1⟩
  ·by_cases hj:j=i
   ·subst hj
    rw[hi]at e1;cases e1
    rw[List.getElem?_set_self hiσ]at e2
    cases e2
    exact⟨u,r,.inl ⟨hk,by simp⟩⟩
   ·rw[List.getElem?_set_ne (Ne.symm hj)]at e2
    obtain⟨u',r',q⟩:=hl j y v' e1 e2 e3
    refine⟨u',r',?_⟩
    rcases q with⟨k,e⟩|⟨k,c,e,z⟩
    ·refine .inl ⟨k,?_⟩
     have:y≠x:=fun e=>hj (Qg hN e1 (e ▸ hi))
     simp[this,e]
    ·exact .inr ⟨k,c,e,z.sameBut hs (cne y c e)⟩
  ·obtain⟨w',z⟩:=I.cell y c e
   exact⟨w',z.sameBut hs (cne y c e)⟩
  ·obtain⟨e,n,ne,nf,d⟩:=I.pin p hp
   exact⟨(hs.2 p.1 ne).trans e,n,ne,nf,d⟩
 ·have hfn:X.fn x=true:=by
   rcases hf with z|z
   ·exact z
   ·rw[z]at hk;cases hk
  obtain⟨c,hc⟩:=I.ok.has x (.inl hk)
  obtain⟨w',z⟩:=I.cell x c hc
  refine wpAny_storeName_cell I.ok.kind hk hc z (fun h' hc' hs=>?_)
  obtain⟨oc,hoc,acQ⟩:=id z
  refine h {s with heap:=h'} ⟨I.ok,I.os,I.bare,⟨fun b o e n hb hx=>?_,fun b o e n hb hx=>?_,I.base.free,fun b o e hx=>?_,I.base.tups,I.base.lK,I.base.mD⟩,⟨m,hn.sameBut hs (Ne.symm (cne x c hc)),fun j y v' e1 e2 e3=>?_⟩,fun y c' e=>?_,I.free,I.gR,fun p hp=>?_,tracked ⟨oc,hoc,I.gR x c hc⟩ hs,by simpa using I.len⟩ ⟨c,hs,.inr hc⟩
  ·exact(hs.2 b (Nat.ne_of_lt (Nat.lt_of_lt_of_le (Heap.lt_size e) (I.ok.cab x c hfn hc)))).trans (I.base.keep b o e n hb hx)
  ·obtain⟨sl,e1⟩:=I.base.slot b o e n hb hx
   exact⟨sl,(hs.2 b (Nat.ne_of_lt (Nat.lt_of_lt_of_le (Heap.lt_size e) (I.ok.cab x c hfn hc)))).trans e1⟩
  ·obtain⟨o',e1⟩:=I.base.there b o e hx
   exact⟨o',(hs.2 b (Nat.ne_of_lt (Nat.lt_of_lt_of_le (Heap.lt_size e) (I.ok.cab x c hfn hc)))).trans e1⟩
  ·by_cases hj:j=i
   ·subst hj
    rw[hi]at e1;cases e1
    rw[List.getElem?_set_self hiσ]at e2
    cases e2
    exact⟨u,r,.inr ⟨.inl hk,c,hc,hc'⟩⟩
   ·rw[List.getElem?_set_ne (Ne.symm hj)]at e2
    obtain⟨u',r',q⟩:=hl j y v' e1 e2 e3
    refine⟨u',r',?_⟩
    rcases q with q|⟨k,c',e,z'⟩
    ·exact .inl q
    ·refine .inr ⟨k,c',e,z'.sameBut hs ?_⟩
     rintro rfl
     exact hj (Qg hN e1 (I.ok.inj _ _ _ e hc ▸ hi))
  ·by_cases hcc:c'=c
   ·subst hcc;exact⟨_,hc'⟩
   ·obtain⟨w2,z2⟩:=I.cell y c' e
    exact⟨w2,z2.sameBut hs hcc⟩
  ·obtain⟨e,n,ne,nf,d⟩:=I.pin p hp
   refine⟨(hs.2 p.1 ?_).trans e,n,ne,nf,d⟩
   intro q
   rw[q,hoc]at e
   have q':oc=p.2:=Option.some.inj e
   exact d w' (by rw[←q'];exact acQ)
theorem M8{M:Model}{A:Around}{E:Value→Shared→Prop}{i:Nat}{x:Str}{v:V}{u:Value}{Q:Unit→Shared→Prop}(I:Inv X pins σ H s)(hN:X.N.Nodup)(hi:X.N[i]? = some x)(hx:Loc X.env.scope x)(r:RelV v u)
  (h:∀s',Inv X pins (σ.set i (some v)) H s'→Q () s') (hf:X.fn x=true∨X.env.scope.names.lookup x=some .local:=by first|exact .inl rfl|exact .inr rfl|assumption):wpAny M A (storeName X.env x u) Q E s :=
 Td I hN hi hx r (fun s' I' _=>h s' I') hf
theorem Inv.call'{s':Shared}{ch:List Addr}(I:Inv X pins σ H s)(ho:s'.os=s.os)(u:Un (frs X.stack) ch H H' s.heap s'.heap)(hok:HOk X.prog X.w H' s'.heap)(hg:AllBare s'.gens)
  (hch:∀b∈ch,(b∈X.ex∨X.s₀.heap.objs.size≤b)∧b≠X.env.locals∧(∀x c,X.env.cells.lookup x=some c→c≠b)∧∀p∈X.pn++pins,p.1≠b):Inv X pins σ H' s':=by
 obtain⟨h',g',d',t',o'⟩:=s'
 have e:o'=s.os:=ho
 subst e
 exact I.call (g':=g') (t':=t') (d':=d') u hok hg hch
end
abbrev XK:=Value→Option Addr→Hp→Prop
abbrev St:=List (Option V)
abbrev VK:=V→Hp→Prop
abbrev TE:=St→Hp→VK→Prop
abbrev TT:=St→Hp→(Bool→Hp→Prop)→Prop
abbrev TA:=St→Hp→(List V→Hp→Prop)→Prop
structure Ends where
 nx:St→Hp→Prop
 rt:VK
 bk:St→Hp→Prop:=fun _ _=>False
 ct:St→Hp→Prop:=fun _ _=>False
abbrev TS:=Ends→St→Hp→Prop
def EP(X:Cx)(pins:List (Addr×Obj))(σ:St)(Q:VK)(u:Value)(s':Shared):Prop:=∃v H',Inv X pins σ H' s'∧RelV v u∧Q v H'
def TP(X:Cx)(pins:List (Addr×Obj))(σ:St)(Q:Bool→Hp→Prop)(b:Bool)(s':Shared):Prop:=∃H',Inv X pins σ H' s'∧Q b H'
def AP(X:Cx)(pins:List (Addr×Obj))(σ:St)(Q:List V→Hp→Prop)(us:List Value)(s':Shared):Prop:=∃vs H',Inv X pins σ H' s'∧Vals vs us∧Q vs H'
def SP(X:Cx)(pins:List (Addr×Obj))(D:Ends)(f:Flow)(s':Shared):Prop :=
 match f with
 |.next=>∃σ' H',Inv X pins σ' H' s'∧D.nx σ' H'
 |.brk=>∃σ' H',Inv X pins σ' H' s'∧D.bk σ' H'
 |.cont=>∃σ' H',Inv X pins σ' H' s'∧D.ct σ' H'
 |.ret u=>∃v σ' H',Inv X pins σ' H' s'∧RelV v u∧D.rt v H'
def PE(X:Cx)(e:Expr)(t:TE):Prop :=
 ∀(pins:List (Addr×Obj))(s:Shared)(σ:St)(H:Hp)(Q:VK),Inv X pins σ H s→t σ H Q→wpAny (model X.prog X.w) X.A (eval e X.env) (EP X pins σ Q) X.xe s
def PT(X:Cx)(e:Expr)(t:TT):Prop :=
 ∀(pins:List (Addr×Obj))(s:Shared)(σ:St)(H:Hp)(Q:Bool→Hp→Prop),Inv X pins σ H s→t σ H Q→wpAny (model X.prog X.w) X.A (isTrue e X.env (eval e X.env)) (TP X pins σ Q) X.xe s
def PW(X:Cx)(e:Expr)(t:TT):Prop :=
 ∀(whole:Sem Value)(pins:List (Addr×Obj))(s:Shared)(σ:St)(H:Hp)(Q:Bool→Hp→Prop),Inv X pins σ H s→t σ H Q→wpAny (model X.prog X.w) X.A (isTrue e X.env whole) (TP X pins σ Q) X.xe s
theorem PW.pt{X:Cx}{e:Expr}{t:TT}(h:PW X e t):PT X e t:=h _
def PA(X:Cx)(es:List Expr)(t:TA):Prop :=
 ∀(pos:Pos)(pins:List (Addr×Obj))(s:Shared)(σ:St)(H:Hp)(Q:List V→Hp→Prop),Inv X pins σ H s→t σ H Q→wpAny (model X.prog X.w) X.A (spliced (backTo pos (starEach es X.env))) (AP X pins σ Q) X.xe s
def PS(X:Cx)(st:Stmt)(t:TS):Prop :=
 ∀(pins:List (Addr×Obj))(s:Shared)(σ:St)(H:Hp)(D:Ends),Inv X pins σ H s→t D σ H→wpAny (model X.prog X.w) X.A (exec st X.env) (SP X pins D) X.xe s
def PSs(X:Cx)(st:List Stmt)(t:TS):Prop :=
 ∀(pins:List (Addr×Obj))(s:Shared)(σ:St)(H:Hp)(D:Ends),Inv X pins σ H s→t D σ H→wpAny (model X.prog X.w) X.A (execs st X.env) (SP X pins D) X.xe s
theorem thn{α:Type}{t:Sem α}{Q Q':α→Shared→Prop}{M:Model}{A:Around}{E:Value→Shared→Prop}{s:Shared}(h:wpAny M A t Q E s)(hQ:∀a s,Q a s→Q' a s):wpAny M A t Q' E s:=wpAny_mono h hQ fun _ _ x=>x
end L2
namespace L2
open PySem Spec PyProof.Rows
section
variable{X:Cx}
theorem bin{a b:Expr}{ta tb:TE}(ha:PE X a ta)(hb:PE X b tb){pins:List (Addr×Obj)}{s:Shared}{σ:St}{H:Hp}{R:V→V→Hp→Prop}(I:Inv X pins σ H s)(h:ta σ H fun x H1=>tb σ H1 fun y H2=>R x y H2)
  {α:Type} {Q:α→Shared→Prop} {f:Value→Value→Sem α}
  (hf:∀v u s2 x y H2,Inv X pins σ H2 s2→RelV x v→RelV y u→R x y H2→wpAny (model X.prog X.w) X.A (f v u) Q X.xe s2) :
  wpAny (model X.prog X.w) X.A (eval a X.env) (fun v s₁=>wpAny (model X.prog X.w) X.A (eval b X.env) (fun u s₂=>wpAny (model X.prog X.w) X.A (f v u) Q X.xe s₂) X.xe s₁) X.xe s:=by
 refine thn (ha pins s σ H _ I h) fun v s1 ⟨x,H1,I1,r1,q1⟩=>?_
 refine thn (hb pins s1 σ H1 _ I1 q1) fun u s2 ⟨y,H2,I2,r2,q2⟩=>?_
 exact hf v u s2 x y H2 I2 r1 r2 q2
def Amo(i:Nat):TE:=fun σ H Q=>∃v,σ[i]? = some (some v)∧Q v H
def tC(v:V):TE:=fun _ H Q=>Q v H
theorem JB{i:Nat}{x:Str}{pos:Pos}(hN:X.N[i]? = some x)(hv:Vis X.env.scope x)(hd:(x==("__debug__":Str))=false:=by decide)(hcd:(x==("__classdict__":Str))=false:=by decide):PE X (.Name x pos) (Amo i):=by
 intro pins s σ H Q I h
 obtain⟨v,e,h⟩:=h
 obtain⟨m,hn,hl⟩:=I.loc
 obtain⟨u,r,l⟩:=hl i x v hN e hv
 have fin:EP X pins σ Q u s:=⟨v,H,I,r,h⟩
 rcases l with⟨hk,hm⟩|⟨hk,c,hc,hcell⟩
 ·exact wpAny_Name (wpAny_loadName_local I.ok.kind hk hn hm fin) hd
 ·rcases hk with hk|hk
  ·exact wpAny_Name (wpAny_loadName_cell I.ok.kind hk hc hcell fin) hd
  ·exact wpAny_Name (wpAny_loadName_free I.ok.kind hk hc hcell fin hcd) hd
theorem AiU{i j pos}:PE X (.Constant (.int i) j pos) (tC (.int i)):=fun _ _ _ H _ I h=>wpAny_Constant_int ⟨.int i,H,I.tok _,⟨_,rfl⟩,h⟩
theorem AnX{b j pos}:PE X (.Constant (.bool b) j pos) (tC (.bl b)):=fun _ _ _ H _ I h=>Constant_bool ⟨.bl b,H,I,rfl,h⟩
theorem Ajt{j pos}:PE X (.Constant .none j pos) (tC .non):=fun _ _ _ H _ I h=>Constant_none ⟨.non,H,I,rfl,h⟩
theorem Ai1{x j pos}:PE X (.Constant (.str x) j pos) (tC (.str x)):=fun _ _ _ H _ I h=>Calls.Constant_str ⟨.str x,H,I.tok _,⟨_,rfl⟩,h⟩
def Gl(X:Cx)(x:Str):Prop:=X.env.kindOf x=some .globalImplicit
theorem Ii{E:Value→Shared→Prop}{pins:List (Addr×Obj)}{s:Shared}{σ:St}{H:Hp}{x:Str}{u:Value}{pos:Pos}{Q:Value→Shared→Prop}(I:Inv X pins σ H s)(hg:Gl X x)(hm:X.mg x=some u)(h:Q u s)
  (hd:(x==("__debug__":Str))=false:=by decide):wpAny (model X.prog X.w) X.A (eval (.Name x pos) X.env) Q E s :=
 Calls.Name_function_global I.ok.kind hg (Calls.loadGlobal_global (by rw[I.ok.glob];exact I.mod.glob.keeps I.bk) hm h) hd
theorem U4{E:Value→Shared→Prop}{pins:List (Addr×Obj)}{s:Shared}{σ:St}{H:Hp}{x:Str}{u:Value}{pos:Pos}{Q:Value→Shared→Prop}(I:Inv X pins σ H s)(hg:Gl X x)(hm:X.mg x=none)(hv:bootBuiltins x=some u)(h:Q u s)
  (hn:x≠"__name__":=by decide) (hd:(x==("__debug__":Str))=false:=by decide):wpAny (model X.prog X.w) X.A (eval (.Name x pos) X.env) Q E s:=by
 obtain⟨mb,h1,h2⟩:=I.mod.blt
 exact Calls.Name_function_global I.ok.kind hg (Calls.loadGlobal_builtin (by rw[I.ok.glob];exact I.mod.glob.keeps I.bk) hm (by rw[I.ok.blt];exact h1.keeps I.bk) ((h2 x hn).trans hv) h) hd
theorem Aap{x:Str}{v:V}{u:Value}{pos:Pos}(hg:Gl X x)(hm:X.mg x=some u)(r:RelV v u)(hd:(x==("__debug__":Str))=false:=by decide):PE X (.Name x pos) (tC v) :=
 fun _ _ _ H _ I h=>Ii I hg hm ⟨v,H,I,r,h⟩ hd
theorem Vk{x:Str}{v:V}{u:Value}{pos:Pos}(hg:Gl X x)(hm:X.mg x=none)(hv:bootBuiltins x=some u)(r:RelV v u)(hn:x≠"__name__":=by decide)(hd:(x==("__debug__":Str))=false:=by decide):PE X (.Name x pos) (tC v) :=
 fun _ _ _ H _ I h=>U4 I hg hm hv ⟨v,H,I,r,h⟩ hn hd
variable{a b:Expr}{ta tb:TE}{pos:Pos}
def PC(X:Cx)(op:CmpOp)(a b:Expr)(t:TE):Prop :=
 ∀(pins:List (Addr×Obj))(s:Shared)(σ:St)(H:Hp)(Q:VK),Inv X pins σ H s→t σ H Q →
  wpAny (model X.prog X.w) X.A (eval a X.env) (fun v s₁=>wpAny (model X.prog X.w) X.A (eval b X.env) (fun u s₂=>wpAny (model X.prog X.w) X.A (compareOp op v u) (EP X pins σ Q) X.xe s₂) X.xe s₁) X.xe s
def tB(t:TE):TT:=fun σ H Q=>t σ H fun x H1=>∃c,x=.bl c∧Q c H1
theorem Aor{op:CmpOp}{t:TE}(h:PC X op a b t)(h1:behindInMarks op b=false:=by first | exact acu _ (by decide) (by decide) | rfl):PT X (.Compare a [op] [b] pos) (tB t):=by
 intro pins s σ H Q I hw
 refine wpAny_isTrue_Compare1 (thn (h pins s σ H _ I hw) fun v s1 h1=>thn h1 fun u s2 h2=>thn h2 fun c s3 ⟨x,H1,I1,r1,q1⟩=>?_) h1
 obtain⟨d,rfl,q⟩:=q1
 cases r1
 exact wpAny_truthy_bool ⟨H1,I1,q⟩
theorem Aju{e:Expr}{t:TE}(h:PE X e t)(he:∀whole,isTrue e X.env whole=(do let v ←whole;standAt e.pos;holding [v] (truthy v)):=by intro _;rfl):PT X e (tB t):=by
 intro pins s σ H Q I hw
 refine isTrue_plain (thn (h pins s σ H _ I hw) fun v s1 ⟨x,H1,I1,r1,q1⟩=>?_) (he _)
 obtain⟨d,rfl,q⟩:=q1
 cases r1
 exact wpAny_truthy_bool ⟨H1,I1,q⟩
variable{tA tB':TT}{rest:List Expr}
def AoR(t u:TT):TT:=fun σ H Q=>t σ H fun c H1=>if c=true then u σ H1 Q else Q false H1
def tOr(t u:TT):TT:=fun σ H Q=>t σ H fun c H1=>if c=true then Q true H1 else u σ H1 Q
def Aob(t:TT):TT:=fun σ H Q=>t σ H fun c H1=>Q (!c) H1
theorem Af4(ha:PT X a tA):PW X (.BoolOp .And [a] pos) tA:=by
 intro wh pins s σ H Q I h
 refine isTrue_and (thn (ha pins s σ H Q I h) fun c s1 e=>?_)
 cases c with
 |true=>exact isTrue_and_nil e
 |false=>exact e
theorem Aja(ha:PT X a tA):PW X (.BoolOp .Or [a] pos) tA:=by
 intro wh pins s σ H Q I h
 refine isTrue_or (thn (ha pins s σ H Q I h) fun c s1 e=>?_)
 cases c with
 |false=>exact isTrue_or_nil e
 |true=>exact e
theorem AjR(ha:PT X a tA)(hb:PW X (.BoolOp .And (b::rest) pos) tB'):PW X (.BoolOp .And (a::b::rest) pos) (AoR tA tB'):=by
 intro wh pins s σ H Q I h
 refine isTrue_and (thn (ha pins s σ H _ I h) fun c s1 ⟨H1,I1,q1⟩=>?_)
 cases c with
 |true=>exact hb wh pins s1 σ H1 Q I1 q1
 |false=>exact⟨H1,I1,q1⟩
theorem AmE(ha:PT X a tA)(hb:PW X (.BoolOp .Or (b::rest) pos) tB'):PW X (.BoolOp .Or (a::b::rest) pos) (tOr tA tB'):=by
 intro wh pins s σ H Q I h
 refine isTrue_or (thn (ha pins s σ H _ I h) fun c s1 ⟨H1,I1,q1⟩=>?_)
 cases c with
 |true=>exact⟨H1,I1,q1⟩
 |false=>exact hb wh pins s1 σ H1 Q I1 q1
theorem AiP(ha:PT X a tA):PT X (.UnaryOp .Not a pos) (Aob tA):=by
 intro pins s σ H Q I h
 exact isTrue_not (ha pins s σ H (fun c H1=>Q (!c) H1) I h)
def AlT(ta tb:TE):TE:=fun σ H Q=>ta σ H fun x H1=>∃c,x=.bl c∧if c=true then tb σ H1 Q else Q (.bl false) H1
def AoL(ta tb:TE):TE:=fun σ H Q=>ta σ H fun x H1=>∃c,x=.bl c∧if c=true then Q (.bl true) H1 else tb σ H1 Q
theorem AiZ{op}{t:TE}(h:PE X a t):PE X (.BoolOp op [a] pos) t:=fun pins s σ H Q I hw=>BoolOp_one (h pins s σ H Q I hw)
theorem AkE(ha:PE X a ta)(hb:PE X (.BoolOp .And (b::rest) pos) tb):PE X (.BoolOp .And (a::b::rest) pos) (AlT ta tb):=by
 intro pins s σ H Q I h
 refine BoolOp_and (thn (ha pins s σ H _ I h) fun v s1 ⟨x,H1,I1,r1,q1⟩=>?_)
 obtain⟨c,rfl,q1⟩:=q1
 cases r1
 refine wpAny_truthy_bool ?_
 cases c with
 |true=>exact hb pins s1 σ H1 Q I1 q1
 |false=>exact⟨.bl false,H1,I1,rfl,q1⟩
theorem AnY(ha:PE X a ta)(hb:PE X (.BoolOp .Or (b::rest) pos) tb):PE X (.BoolOp .Or (a::b::rest) pos) (AoL ta tb):=by
 intro pins s σ H Q I h
 refine BoolOp_or (thn (ha pins s σ H _ I h) fun v s1 ⟨x,H1,I1,r1,q1⟩=>?_)
 obtain⟨c,rfl,q1⟩:=q1
 cases r1
 refine wpAny_truthy_bool ?_
 cases c with
 |false=>exact hb pins s1 σ H1 Q I1 q1
 |true=>exact⟨.bl true,H1,I1,rfl,q1⟩
end
end L2
namespace L2
open PySem Spec PyProof.Rows
def SqL(K:W.Frag)(H:Hp)(a:Addr)(xs:List V):Prop :=
 Rd H a (.lst xs) ∨
  ∃(o:Obj)(its:Array Value)(n:Nat),K.lookup a=some o∧o.cls=.type "list"∧o.dict=none∧o.data=.seq its n∧its.size≤sizeLine∧Vals xs its.toList
def SqT(K:W.Frag)(H:Hp)(a:Addr)(xs:List V):Prop :=
 Rd H a (.tup xs) ∨
  ∃(o:Obj)(its:Array Value)(n:Nat),K.lookup a=some o∧o.cls=.type "tuple"∧o.data=.seq its n∧its.size≤sizeLine∧Vals xs its.toList
def AoS:Value→Option V
 |.none=>some .non
 |.bool b=>some (.bl b)
 |.int i _=>some (.int i)
 |.str x _=>some (.str x)
 |.bytes b _=>some (.byt b)
 |.float b _=>some (.flt b)
 |.ref a=>some (.ref a)
 |.type n=>some (.ty n)
 |_=>none
theorem RelV.abs{x:V}{u:Value}(r:RelV x u):AoS u=some x:=by
 cases x with
 |non=>cases r;rfl
 |bl _=>cases r;rfl
 |int _=>obtain⟨t,rfl⟩:=r;rfl
 |str _=>obtain⟨t,rfl⟩:=r;rfl
 |byt _=>obtain⟨t,rfl⟩:=r;rfl
 |flt _=>obtain⟨t,rfl⟩:=r;rfl
 |ref _=>cases r;rfl
 |ty _=>cases r;rfl
theorem RelV.inj{x y:V}{u:Value}(r:RelV x u)(q:RelV y u):x=y:=Option.some.inj (r.abs.symm.trans q.abs)
theorem Vals.inj:∀{xs ys:List V} {us:List Value},Vals xs us→Vals ys us→xs=ys
 |_,_,_,.nil,.nil=>rfl
 |_,_,_,.cons r t,.cons r' t'=>by rw[r.inj r',Vals.inj t t']
section
variable{X:Cx}{pins:List (Addr×Obj)}{σ:St}{H:Hp}{s:Shared}{a:Addr}{xs ys:List V}
theorem SqL.of{K:W.Frag}(h:H a=some (.lst xs)):SqL K H a xs:=.inl (.inl h)
theorem SqT.of{K:W.Frag}(h:H a=some (.tup xs)):SqT K H a xs:=.inl (.inl h)
theorem Inv.list(I:Inv X pins σ H s)(h:SqL X.K H a xs):∃its:List Value,Vals xs its∧PlainL s.heap a its.toArray∧xs.length≤sizeLine:=by
 rcases h with h|⟨o,its,n,hk,hc,hd,hs,hz,r⟩
 ·obtain⟨z,its,n,r,e⟩:=h.ok I.hok
  exact⟨its,r,⟨_,n,e,rfl,rfl,rfl⟩,z⟩
 ·refine⟨its.toList,r,⟨o,n,I.kIn a o hk,hc,hd,by simpa using hs⟩,?_⟩
  have e:=r.length
  simp only[Array.length_toList]at e
  omega
theorem Inv.tuple(I:Inv X pins σ H s)(h:SqT X.K H a xs):∃its:List Value,Vals xs its∧IsTup s.heap a its.toArray∧xs.length≤sizeLine:=by
 rcases h with h|⟨o,its,n,hk,hc,hs,hz,r⟩
 ·obtain⟨z,its,r,p⟩:=h.ok I.hok
  exact⟨its,r,p,z⟩
 ·refine⟨its.toList,r,⟨o,I.kIn a o hk,hc,n,by simpa using hs⟩,?_⟩
  have e:=r.length
  simp only[Array.length_toList]at e
  omega
theorem Inv.abk(I:Inv X pins σ H s)(h:SqL X.K H a xs)(h':SqL X.K H a ys):xs=ys:=by
 obtain⟨its,r,⟨o,n,e,_,_,d⟩,_⟩:=I.list h
 obtain⟨its',r',⟨o',n',e',_,_,d'⟩,_⟩:=I.list h'
 rw[e]at e';cases e'
 rw[d]at d'
 injection d' with d1 _
 have:its=its':=by simpa using congrArg Array.toList d1
 subst this
 exact r.inj r'
end
abbrev Cx.wish(X:Cx)(E:Value→Shared→Prop):Cx:={X with xe:=E}
abbrev Cx.nox(X:Cx):Cx:=X.wish fun _ _=>False
theorem Cx.Ok.wish{X:Cx}(ok:X.Ok)(E:Value→Shared→Prop):(X.wish E).Ok :=
 ⟨ok.mod,ok.kind,ok.glob,ok.blt,ok.above,ok.inj,ok.has,ok.cab,ok.hd,ok.frames,ok.stk,ok.exf,ok.bs,ok.bsz,ok.vf,ok.uh,ok.lM,ok.frf⟩
theorem Cx.Ok.jg{X:Cx}{E:Value→Shared→Prop}(ok:(X.wish E).Ok):X.Ok :=
 ⟨ok.mod,ok.kind,ok.glob,ok.blt,ok.above,ok.inj,ok.has,ok.cab,ok.hd,ok.frames,ok.stk,ok.exf,ok.bs,ok.bsz,ok.vf,ok.uh,ok.lM,ok.frf⟩
section
variable{X:Cx}{pins:List (Addr×Obj)}{σ:St}{H:Hp}{s:Shared}{E:Value→Shared→Prop}
theorem Inv.wish(I:Inv X pins σ H s)(E:Value→Shared→Prop):Inv (X.wish E) pins σ H s:=⟨I.ok.wish E,I.os,I.bare,I.base,I.loc,I.cell,I.free,I.gR,I.pin,I.hok,I.len⟩
theorem Inv.jg(I:Inv (X.wish E) pins σ H s):Inv X pins σ H s:=⟨I.ok.jg,I.os,I.bare,I.base,I.loc,I.cell,I.free,I.gR,I.pin,I.hok,I.len⟩
theorem SP.jg{D:Ends}{f:Flow}{s':Shared}(h:SP (X.wish E) pins D f s'):SP X pins D f s':=by
 cases f with
 |next=>obtain⟨σ',H',I,q⟩:=h;exact⟨σ',H',I.jg,q⟩
 |brk=>obtain⟨σ',H',I,q⟩:=h;exact⟨σ',H',I.jg,q⟩
 |cont=>obtain⟨σ',H',I,q⟩:=h;exact⟨σ',H',I.jg,q⟩
 |ret u=>obtain⟨v,σ',H',I,r,q⟩:=h;exact⟨v,σ',H',I.jg,r,q⟩
theorem PSs.nox{st:List Stmt}{t:TS}(h:PSs X.nox st t):PSs X st t:=fun pins s σ H D I hw =>
 wpAny_mono (h pins s σ H D (I.wish _) hw) (fun _ _ q=>q.jg) fun _ _ z=>False.elim z
end
section
variable{X:Cx}{st:Stmt}{rest:List Stmt}{t u:TS}{e:Expr}{te:TE}{pos:Pos}
def AlY:TS:=fun D σ H=>D.nx σ H
def Ao1(t u:TS):TS:=fun D σ H=>t {D with nx:=u D} σ H
theorem ZG:PSs X [] AlY:=fun _ _ σ H _ I h=>wpAny_execs_nil ⟨σ,H,I,h⟩
theorem J4(h1:PS X st t)(h2:PSs X rest u):PSs X (st::rest) (Ao1 t u):=by
 intro pins s σ H D I h
 refine wpAny_execs_cons (thn (h1 pins s σ H {D with nx:=u D} I h) fun f s1 q=>?_)
 cases f with
 | next =>
  obtain⟨σ',H',I',q⟩:=q
  exact h2 pins s1 σ' H' D I' q
 |ret v=>exact q
 |brk=>exact q
 |cont=>exact q
theorem Ih(h1:PS X st t):PSs X [st] t:=by
 intro pins s σ H D I h
 refine wpAny_execs_cons (thn (h1 pins s σ H D I h) fun f s1 q=>?_)
 cases f with
 |next=>exact wpAny_execs_nil q
 |ret v=>exact q
 |brk=>exact q
 |cont=>exact q
theorem Inv.quiet{pins:List (Addr×Obj)}{σ:St}{H:Hp}{s:Shared}(I:Inv X pins σ H s):interactive X.env=false:=by simp[interactive,I.ok.kind]
def Anc(te:TE):TS:=fun D σ H=>te σ H fun _ H1=>D.nx σ H1
theorem KJ(he:PE X e te)(hs:swapsWith e none pos.line X.env=pure false:=by rfl):PS X (.Expr e pos) (Anc te):=by
 intro pins s σ H D I h
 exact wpAny_Expr_any (thn (he pins s σ H _ I h) fun v s1 ⟨x,H1,I1,r1,q1⟩=>⟨σ,H1,I1,q1⟩) I.quiet hs
def Ao9(te:TE):TS:=fun D σ H=>te σ H D.rt
theorem AdR(he:PE X e te):PS X (.Return (some e) pos) (Ao9 te):=by
 intro pins s σ H D I h
 exact wpAny_Return_some (thn (he pins s σ H _ I h) fun v s1 ⟨x,H1,I1,r1,q1⟩=>⟨x,σ,H1,I1,r1,q1⟩)
def Aoh(c:TT)(t u:TS):TS:=fun D σ H=>c σ H fun b H1=>if b=true then t D σ H1 else u D σ H1
theorem AhL{c:Expr}{a b:List Stmt}{tc:TT}(hc:PT X c tc)(ha:PSs X a t)(hb:PSs X b u):PS X (.If c a b pos) (Aoh tc t u):=by
 intro pins s σ H D I h
 refine wpAny_If (thn (hc pins s σ H _ I h) fun d s1 ⟨H1,I1,q1⟩=>?_)
 cases d with
 |true=>exact ha pins s1 σ H1 D I1 q1
 |false=>exact hb pins s1 σ H1 D I1 q1
def AiW:TS:=fun _ _ _=>False
theorem Adc:PS X st AiW:=fun _ _ _ _ _ _ h=>h.elim
end
abbrev TG:=V→St→Hp→(St→Hp→Prop)→Prop
abbrev TGs:=List V→St→Hp→(St→Hp→Prop)→Prop
def PG(X:Cx)(target:Expr)(t:TG):Prop :=
 ∀(pins:List (Addr×Obj))(s:Shared)(σ:St)(H:Hp)(v:V)(u:Value)(Q:St→Hp→Prop),Inv X pins σ H s→RelV v u→t v σ H Q →
  wpAny (model X.prog X.w) X.A (assign target X.env u) (fun _ s'=>∃σ' H',Inv X pins σ' H' s'∧Q σ' H') X.xe s
def PGs(X:Cx)(ts:List Expr)(t:TGs):Prop :=
 ∀(pins:List (Addr×Obj))(s:Shared)(σ:St)(H:Hp)(vs:List V)(us:List Value)(Q:St→Hp→Prop),Inv X pins σ H s→Vals vs us→t vs σ H Q →
  wpAny (model X.prog X.w) X.A (assignInOrder ((assignEach ts X.env).map (·.2)) us) (fun _ s'=>∃σ' H',Inv X pins σ' H' s'∧Q σ' H') X.xe s
section
variable{X:Cx}{pos:Pos}
def AaE(i:Nat):TG:=fun v σ H Q=>Q (σ.set i (some v)) H
theorem Vj{i:Nat}{x:Str}(hN:X.N.Nodup)(hi:X.N[i]? = some x)(hx:Loc X.env.scope x)(hf:X.fn x=true∨X.env.scope.names.lookup x=some .local:=by first | exact .inl rfl | exact .inr rfl | assumption):PG X (.Name x pos) (AaE i):=by
 intro pins s σ H v u Q I r h
 exact wpAny_assign_Name (M8 I hN hi hx r (fun s' I'=>⟨_,H,I',h⟩) hf)
def AoJ:TGs:=fun vs σ H Q=>vs=[]∧Q σ H
def AmX(t:TG)(u:TGs):TGs:=fun vs σ H Q=>∃v r,vs=v::r∧t v σ H fun σ' H'=>u r σ' H' Q
theorem Agg:PGs X [] AoJ:=by
 intro pins s σ H vs us Q I r h
 obtain⟨e,h⟩:=h
 subst e
 cases r
 exact assignInOrder_nil ⟨σ,H,I,h⟩
theorem Ac4{e:Expr}{es:List Expr}{t:TG}{u:TGs}(h1:PG X e t)(h2:PGs X es u)
  (hs:(assignEach (e::es) X.env).map (·.2)=assign e X.env::(assignEach es X.env).map (·.2):=by rfl):PGs X (e::es) (AmX t u):=by
 intro pins s σ H vs us Q I r h
 obtain⟨v,vr,e1,h⟩:=h
 subst e1
 cases r with
 | cons r rr =>
  rw[hs]
  refine assignInOrder_cons (thn (h1 pins s σ H _ _ _ I r h) fun _ s1 ⟨σ1,H1,I1,q1⟩=>?_)
  exact h2 pins s1 σ1 H1 _ _ Q I1 rr q1
def AoT(K:W.Frag)(n:Nat)(t:TGs):TG:=fun v σ H Q=>∃a xs,v=.ref a∧SqT K H a xs∧xs.length=n∧t xs σ H Q
theorem AjX{es:List Expr}{k:Nat}{t:TGs}{n:Nat}(hc:X.calm=true)(h:PGs X es t)
  (hn:(assignEach es X.env).length=n:=by rfl) (hst:(assignEach es X.env).findIdx? (·.1)=none:=by rfl):PG X (.Tuple es k pos) (AoT X.K n t):=by
 intro pins s σ H v u Q I r hw
 obtain⟨a,xs,e1,hq,hl,hw⟩:=hw
 subst e1
 cases r
 obtain⟨its,rv,ht,hz⟩:=I.tuple hq
 refine assign_Tuple_tuple (I.ok.hd hc) ht (by simp[hn,←hl,rv.length]) hst fun h' hx=>?_
 have I1:Inv X pins σ H {s with heap:=h'}:=I.kept (t':=s.toks) fun b o e=>hx b o (Nat.ne_of_lt (Heap.lt_size e)) e
 exact h pins _ σ H xs _ Q I1 (by simpa using rv) hw
def Ali(te:TE)(g:TG):TS:=fun D σ H=>te σ H fun x H1=>g x σ H1 D.nx
theorem Akc{tg e:Expr}{te:TE}{g:TG}(he:PE X e te)(hg:PG X tg g)(hs:swapsWithSole [tg] e pos.line X.env=pure false:=by rfl)(hw:swappedStores [tg] e X.env=pure none:=by rfl)
  (h1:(assignEach [tg] X.env).map (·.2)=[assign tg X.env]:=by rfl):PS X (.Assign [tg] e pos) (Ali te g):=by
 intro pins s σ H D I h
 refine wpAny_Assign_stores (thn (he pins s σ H _ I h) fun v s1 ⟨x,H1,I1,r1,q1⟩=>?_) hs hw
 rw[h1]
 exact thn (hg pins s1 σ H1 x v _ I1 r1 q1) fun _ s2 q=>q
theorem Yc{i:Nat}{x:Str}{e:Expr}{te:TE}{pos':Pos}(hN:X.N.Nodup)(hi:X.N[i]? = some x)(hx:Loc X.env.scope x)(he:PE X e te)(hs:swapsWith e (some (.Name x pos')) pos.line X.env=pure false:=by rfl)(hf:X.fn x=true∨X.env.scope.names.lookup x=some .local:=by first | exact .inl rfl | exact .inr rfl | assumption) :
  PS X (.Assign [.Name x pos'] e pos) (Ali te (AaE i)):=by
 intro pins s σ H D I h
 refine wpAny_Assign_Name (thn (he pins s σ H _ I h) fun v s1 ⟨y,H1,I1,r1,q1⟩=>?_) hs
 exact M8 I1 hN hi hx r1 (fun s2 I2=>⟨_,H1,I2,q1⟩) hf
end
section
variable{X:Cx}{pos:Pos}
def Akq(c:TT)(tb:TS):TS:=fun D σ H=>∃W:Nat→St→Hp→Prop,(∃m,W m σ H)∧∀m σ H,W m σ H →
 c σ H fun b H1=>if b=true then ∃N:St→Hp→Prop,(∀σ' H',N σ' H'→∃m',m'<m∧W m' σ' H')∧tb {D with nx:=N,ct:=N,bk:=D.nx} σ H1 else D.nx σ H1
theorem AdA{c:Expr}{body:List Stmt}{tc:TT}{tb:TS}(hp:PassesOwn (model X.prog X.w) X.A X.env X.xe)(hc:PT X c tc)(hb:PSs X body tb):PS X (.While c body [] pos) (Akq tc tb):=by
 intro pins s σ H D I h
 obtain⟨W,⟨m0,w0⟩,turn⟩:=h
 refine wpAny_While (codeAny_whileLoop (fun n s'=>∃σ' H',Inv X pins σ' H' s'∧W n σ' H') ?_ m0 ⟨σ,H,I,w0⟩)
 rintro n s1 ⟨σ1,H1,I1,w1⟩
 refine wpAny_passesOwn hp (thn (hc pins s1 σ1 H1 _ I1 (turn n σ1 H1 w1)) fun b s2 ⟨H2,I2,q2⟩=>?_)
 cases b with
 | true =>
  obtain⟨N,hN,q2⟩:=q2
  rw[if_pos rfl]
  refine wpAny_passesOwn hp (thn (hb pins s2 σ1 H2 _ I2 q2) fun f s3 q3=>?_)
  cases f with
  | next =>
   obtain⟨σ3,H3,I3,n3⟩:=q3
   obtain⟨m',hm,w3⟩:=hN σ3 H3 n3
   exact⟨m',hm,σ3,H3,I3,w3⟩
  | cont =>
   obtain⟨σ3,H3,I3,n3⟩:=q3
   obtain⟨m',hm,w3⟩:=hN σ3 H3 n3
   exact⟨m',hm,σ3,H3,I3,w3⟩
  |brk=>exact q3
  |ret v=>exact q3
 | false =>
  rw[if_neg Bool.false_ne_true]
  exact wpAny_execs_nil ⟨σ1,H2,I2,q2⟩
end
structure It where
 go:Nat→Hp→Prop
 yld:Nat→Hp→V→Hp→Prop
 stop:Nat→Hp→Prop
def OJ(X:Cx)(pins:List (Addr×Obj))(H:Hp)(b:Addr):Prop :=
 H b=none∧b≠X.env.locals∧b∉X.fs∧(b∈X.ex∨X.s₀.heap.objs.size≤b)∧(∀x c,X.env.cells.lookup x=some c→c≠b)∧∀p∈X.pn++pins,p.1≠b
theorem Inv.acv{X:Cx}{pins:List (Addr×Obj)}{σ:St}{H H':Hp}{s:Shared}{b:Addr}(I:Inv X pins σ H s)(hb:s.heap.objs.size≤b)(hn:H' b=none):OJ X pins H' b:=by
 refine⟨hn,Nat.ne_of_gt (Nat.lt_of_lt_of_le I.lt hb),I.acP hb,.inr (Nat.le_trans I.sz hb),fun x c e z=>?_,fun p hp z=>?_⟩
 ·obtain⟨v,q⟩:=I.cell x c e
  exact absurd (Nat.lt_of_lt_of_le q.lt (by rw[z];exact hb)) (Nat.lt_irrefl _)
 ·exact absurd (Nat.lt_of_lt_of_le (Heap.lt_size (I.pin p hp).1) (by rw[z];exact hb)) (Nat.lt_irrefl _)
structure Turn(P:Program)(w:World)(K:W.Frag)(tg:Expr)(J:It)(fp:List Addr)(it:Addr)(tn:Nat→Heap→Prop):Prop where
 mem:it∈fp
 obj:∀i h,tn i h→∀b∈fp,∃o,h.get? b=some o∧∀v,o.data≠.cell v
 keep:∀i h h',tn i h→(∀b∈fp,∀o,h.get? b=some o→h'.get? b=some o)→tn i h'
 item:∀(X:Cx),X.prog=P→X.w=w→X.K=K→X.calm=true→∀(i:Nat)(pins:List (Addr×Obj))(s:Shared)(σ:St)(H:Hp)(E:Value→Shared→Prop),Inv X pins σ H s→(∀b∈fp,OJ X pins H b)→tn i s.heap→J.go i H →
  wpAny (model P w) X.A (pyNext (.ref it)) (fun r s1=>∃u,r=some u ∧
   wpAny (model P w) X.A (letOwnedTupleGo tg (.ref it) u) (fun _ s2=>∃x H',Inv X pins σ H' s2∧RelV x u∧J.yld i H x H'∧tn (i+1) s2.heap∧∀b∈fp,H' b=none) E s1) E s
 done:∀(X:Cx),X.prog=P→X.w=w→X.K=K→X.calm=true→∀(i:Nat)(pins:List (Addr×Obj))(s:Shared)(σ:St)(H:Hp)(E:Value→Shared→Prop),Inv X pins σ H s→(∀b∈fp,OJ X pins H b)→tn i s.heap→J.stop i H →
  wpAny (model P w) X.A (pyNext (.ref it)) (fun r s1=>r=none∧Inv X pins σ H s1) E s
 self:∀(A:Around)(i:Nat)(s:Shared)(Q:Value→Shared→Prop)(E:Value→Shared→Prop),tn i s.heap→Q (.ref it) s→wpAny (model P w) A (pyIter (.ref it)) Q E s
abbrev TI:=St→Hp→(It→Hp→Prop)→Prop
def PIE(X:Cx)(pins:List (Addr×Obj))(σ:St)(tg:Expr)(R:It→Hp→Prop)(itv:Value)(s2:Shared):Prop :=
 ∃(it:Addr)(fp:List Addr)(tn:Nat→Heap→Prop)(J:It)(H':Hp),itv=.ref it∧Inv X pins σ H' s2∧Turn X.prog X.w X.K tg J fp it tn∧tn 0 s2.heap∧(∀b∈fp,OJ X pins H' b)∧R J H'
def PI(X:Cx)(tg iter:Expr)(wi:TI):Prop :=
 ∀(pins:List (Addr×Obj))(s:Shared)(σ:St)(H:Hp)(R:It→Hp→Prop),Inv X pins σ H s→wi σ H R →
  wpAny (model X.prog X.w) X.A (eval iter X.env) (fun v s1=>wpAny (model X.prog X.w) X.A (pyIter v) (PIE X pins σ tg R) X.xe s1) X.xe s
theorem Ah2{M:Model}{A:Around}{E:Value→Shared→Prop}{s:Shared}{tg:Expr}{it:Addr}{u:Value}{o:Obj}{n:String}{vs:Array Value}{Q:Unit→Shared→Prop}(ho:s.heap.get? it=some o)(hc:o.cls=.type n)(hd:o.data=.fields vs)
  (hn:["enumerate","zip","dict_itemiterator","dict_reverseitemiterator","odict_iterator","itertools.zip_longest","itertools.pairwise"].contains n=false) (hQ:Q () s):wpAny M A (letOwnedTupleGo tg (.ref it) u) Q E s:=by
 unfold letOwnedTupleGo
 cases tg<;>first
  |exact wpAny_pure hQ
  | (cases u<;>first
    |exact wpAny_pure hQ
    | (refine wpAny_bind (wpAny_load ho ?_)
       rw[hc,hd]
       show wpAny M A (if(["enumerate","zip","dict_itemiterator","dict_reverseitemiterator","odict_iterator","itertools.zip_longest","itertools.pairwise"].contains n&&vs[0]? == some (rawInt _))=true then _ else _) Q E s
       rw[if_neg (by intro h;rw[hn,Bool.false_and]at h;cases h)]
       exact wpAny_pure hQ))
def Itl(K:W.Frag)(a:Addr):It :=
 ⟨fun i H=>∃xs x,SqL K H a xs∧xs[i]? = some x,fun i H x H'=>H'=H∧∀xs,SqL K H a xs→xs[i]? = some x,fun i H=>∃xs,SqL K H a xs∧xs.length≤i⟩
def Itr(lo:Int)(n:Nat):It:=⟨fun i _=>i<n,fun i H x H'=>H'=H∧x=.int (lo+i),fun i _=>n≤i⟩
theorem Ab2{P:Program}{w:World}{K:W.Frag}{tg:Expr}(a it:Addr):Turn P w K tg (Itl K a) [it] it (fun i h=>h.IsListIter it a i) where
 mem:=by simp
 obj:=fun i h st b hb=>by
  have e:b=it:=by simpa using hb
  subst e
  obtain⟨o,e,c,d⟩:=st
  exact⟨o,e,fun v z=>by rw[d]at z;cases z⟩
 keep:=fun i h h' st k=>st.at fun o e=>k it (by simp) o e
 item:=by
  intro X hP hw hK hc i pins s σ H E I hf st hg
  subst hP hw hK
  obtain⟨xs,x,hq,hx⟩:=hg
  obtain⟨its,rv,p,hz⟩:=I.list hq
  obtain⟨u,hu,ru⟩:=rv.get hx
  obtain⟨f0,f1,f2,f3,f4,f5⟩:=hf it (by simp)
  refine wpAny_pyNext_list_item st p.isList (x:=u) (by simpa using hu) fun h' st' sb=>?_
  have I1:Inv X pins σ H {s with heap:=h'}:=I.turned (t':=s.toks) (fun b o hb e=>(sb.2 b hb).trans e) f0 f1 f3 f4 f5
  obtain⟨o,e,c,d⟩:=id st'
  exact⟨u,rfl,Ah2 (s:={s with heap:=h'}) e c d (by decide) ⟨x,H,I1,ru,⟨rfl,fun ys hy=>by rw[I.abk hy hq];exact hx⟩,st',fun b hb=>(hf b hb).1⟩⟩
 done:=by
  intro X hP hw hK hc i pins s σ H E I hf st hg
  subst hP hw hK
  obtain⟨xs,hq,hx⟩:=hg
  obtain⟨its,rv,p,hz⟩:=I.list hq
  obtain⟨f0,f1,f2,f3,f4,f5⟩:=hf it (by simp)
  have hl:=rv.length
  exact wpAny_pyNext_list_end (I.ok.hd hc) st p.isList (by simp;omega) fun h' eb=>⟨rfl,I.turned (t':=s.toks) (fun b o hb e=>eb b o hb e) f0 f1 f3 f4 f5⟩
 self:=fun _ _ _ _ _ st h=>wpAny_pyIter_listiter st h
theorem YC{P:Program}{w:World}{K:PySem.W.Frag}{tg:Expr}(it:Addr)(lo:Int)(n:Nat):Turn P w K tg (Itr lo n) [it] it (fun i h=>IsRangeIter h it (lo+(i:Nat)*1) ((n:Int)-(i:Nat)) 1) where
 mem:=by simp
 obj:=fun i h st b hb=>by
  have e:b=it:=by simpa using hb
  subst e
  exact⟨_,st,fun v z=>by
   have z':Data.fields _=Data.cell v:=z
   cases z'⟩
 keep:=fun i h h' st k=>k it (by simp) _ st
 item:=by
  intro X hP hw hK hc i pins s σ H E I hf st hg
  subst hP hw hK
  obtain⟨f0,f1,f2,f3,f4,f5⟩:=hf it (by simp)
  have W:=Walks.range (prog:=X.prog) (w:=X.w) (I.ok.hd hc) it lo 1 n
  refine W.item i s _ _ hg st fun v h' tk hv st' kk=>?_
  obtain⟨t,rfl⟩:=hv
  have I1:Inv X pins σ H {s with heap:=h',toks:=tk}:=I.turned (fun b o hb e=>kk b o (by simpa using hb) e) f0 f1 f3 f4 f5
  refine⟨_,rfl,Ah2 (s:={s with heap:=h',toks:=tk}) (n:="range_iterator") st' rfl rfl (by decide) ⟨.int (lo+i),H,I1,⟨t,?_⟩,⟨rfl,rfl⟩,st',fun b hb=>(hf b hb).1⟩⟩
  rw[Int.mul_one]
 done:=by
  intro X hP hw hK hc i pins s σ H E I hf st hg
  subst hP hw hK
  obtain⟨f0,f1,f2,f3,f4,f5⟩:=hf it (by simp)
  exact wpAny_pyNext_range_end (I.ok.hd hc) st (by have:n≤i:=hg;omega) fun h' eb=>⟨rfl,I.turned (t':=s.toks) (fun b o hb e=>eb b o hb e) f0 f1 f3 f4 f5⟩
 self:=fun _ _ _ _ _ st h=>wpAny_pyIter_rangeiter st h
end L2
namespace L2
open PySem Spec PyProof.Rows
section
variable{X:Cx}{tg:Expr}
def AlG(K:W.Frag)(tl:TE):TI:=fun σ H R=>tl σ H fun x H1=>∃a,x=.ref a∧(∃xs,SqL K H1 a xs)∧R (Itl K a) H1
theorem Aba{l:Expr}{tl:TE}(hl:PE X l tl):PI X tg l (AlG X.K tl):=by
 intro pins s σ H R I h
 refine thn (hl pins s σ H _ I h) fun v s1 ⟨x,H1,I1,r1,q1⟩=>?_
 obtain⟨a,e,⟨xs,hq⟩,q⟩:=q1
 subst e
 cases r1
 obtain⟨its,rv,p,hz⟩:=I1.list hq
 refine wpAny_pyIter_list p.isList ?_
 refine⟨s1.heap.objs.size,[s1.heap.objs.size],_,_,H1,rfl,I1.kept (t':=s1.toks) fun b o e=>Heap.get?_push_of_some _ e,Ab2 a _,⟨_,Heap.get?_push_size _ rfl,rfl,rfl⟩,fun b hb=>?_,q⟩
 have e:b=s1.heap.objs.size:=by simpa using hb
 subst e
 exact I1.acv (Nat.le_refl _) (I1.hok.fresh (Nat.le_refl _))
theorem WK{pins:List (Addr×Obj)}{σ:St}{H:Hp}{s:Shared}{R:It→Hp→Prop}{E:Value→Shared→Prop}{lo hi:Int}{t u v:Tok}{tk:Nat}(I:Inv X pins σ H s)(h1:-(2 ^ 62)≤lo)(h2:lo<2 ^ 62)(h3:-(2 ^ 62)≤hi)(h4:hi<2 ^ 62)
  (q:R (Itr lo (hi-lo).toNat) H):wpAny (model X.prog X.w) X.A (pyIter (.ref s.heap.objs.size)) (PIE X pins σ tg R) E {s with heap:=s.heap.push {cls:=.type "range",data:=.fields #[.int lo t,.int hi u,.int 1 v]},toks:=tk}:=by
 refine wpAny_pyIter_range (IsRange.new ..) (small_one h1 h2 h3 h4) ?_
 have I1:Inv X pins σ H {s with heap:=s.heap.push {cls:=.type "range",data:=.fields #[.int lo t,.int hi u,.int 1 v]},toks:=tk}:=I.kept fun b o e=>Heap.get?_push_of_some _ e
 refine⟨(s.heap.push {cls:=.type "range",data:=.fields #[.int lo t,.int hi u,.int 1 v]}).objs.size,[(s.heap.push {cls:=.type "range",data:=.fields #[.int lo t,.int hi u,.int 1 v]}).objs.size],_,_,H,rfl,
  I1.kept (t':=tk) fun b o e=>Heap.get?_push_of_some _ e,YC _ lo (hi-lo).toNat,?_,fun b hb=>?_,q⟩
 ·have e1:lo+((0:Nat):Int)*1=lo:=by simp
  have e2:(((hi-lo).toNat:Nat):Int)-((0:Nat):Int)=Builtin.Range.rangeSize lo hi 1:=by rw[rangeSize_one];split<;>omega
  show IsRangeIter _ _ (lo+((0:Nat):Int)*1) ((((hi-lo).toNat:Nat):Int)-((0:Nat):Int)) 1
  rw[e1,e2]
  exact Heap.get?_push_size _ rfl
 ·have e:b=(s.heap.push {cls:=.type "range",data:=.fields #[.int lo t,.int hi u,.int 1 v]}).objs.size:=by simpa using hb
  subst e
  exact I1.acv (Nat.le_refl _) (I1.hok.fresh (Nat.le_refl _))
def AmI(ta:TA):TI:=fun σ H R=>ta σ H fun vs H1=>∃j:Int,vs=[.int j]∧-(2 ^ 62)≤j∧j<2 ^ 62∧R (Itr 0 j.toNat) H1
def AlK(ta:TA):TI:=fun σ H R=>ta σ H fun vs H1=>∃i j:Int,vs=[.int i,.int j]∧(-(2 ^ 62)≤i∧i<2 ^ 62∧-(2 ^ 62)≤j∧j<2 ^ 62)∧R (Itr i (j-i).toNat) H1
theorem AbN{a:Expr}{ta:TA}{p pos:Pos}(hg:Gl X "range")(hm:X.mg "range"=none)(ha:PA X [a] ta)(hs:starEach [a] X.env=[(false,eval a X.env)]:=by rfl):PI X tg (.Call (.Name "range" p) [a] [] pos) (AmI ta):=by
 intro pins s σ H R I h
 refine Call_ (U4 I hg hm boot_range (PyProof.Rows.callWith_type1 (thn (ha pos pins s σ H _ I h) fun us s1 ⟨vs,H1,I1,r1,q1⟩=>?_) hs rfl))
 obtain⟨j,e,q1,q2,q⟩:=q1
 subst e
 cases r1 with
 | cons r rr =>
  cases rr
  obtain⟨t,rfl⟩:=r
  exact call_range_1 (WK I1 (by omega) (by omega) q1 q2 (by simpa using q))
theorem Ab5{a b:Expr}{ta:TA}{p pos:Pos}(hg:Gl X "range")(hm:X.mg "range"=none)(ha:PA X [a,b] ta)(hs:starEach [a,b] X.env=[(false,eval a X.env),(false,eval b X.env)]:=by rfl)(hs2:starEach [b] X.env=[(false,eval b X.env)]:=by rfl) :
  PI X tg (.Call (.Name "range" p) [a,b] [] pos) (AlK ta):=by
 intro pins s σ H R I h
 refine Call_ (U4 I hg hm boot_range (PyProof.Rows.callWith_type1 (thn (ha pos pins s σ H _ I h) fun us s1 ⟨vs,H1,I1,r1,q1⟩=>?_) (by rw[hs,hs2]) (by rw[hs2];rfl)))
 obtain⟨i,j,e,⟨q1,q2,q3,q4⟩,q⟩:=q1
 subst e
 cases r1 with
 | cons r rr =>
  cases rr with
  | cons r' rr =>
   cases rr
   obtain⟨t,rfl⟩:=r
   obtain⟨t',rfl⟩:=r'
   exact call_range_2 (WK I1 q1 q2 q3 q4 q)
def Apf(wi:TI)(g:TG)(tb:TS):TS:=fun D σ H=>wi σ H fun J H1=>∃W:Nat→Nat→St→Hp→Prop,(∃m,W 0 m σ H1)∧∀i m σ H,W i m σ H →
 (J.stop i H∧D.nx σ H)∨(J.go i H∧∃N:St→Hp→Prop,(∀σ' H',N σ' H'→∃m',m'<m∧W (i+1) m' σ' H')∧∀x H',J.yld i H x H'→g x σ H' fun σ2 H2=>tb {D with nx:=N,ct:=N,bk:=D.nx} σ2 H2)
def NQ(fp:List Addr)(h:Heap):List (Addr×Obj):=fp.filterMap fun b=>(h.get? b).map fun o=>(b,o)
theorem Gf{fp:List Addr}{h:Heap}{b:Addr}{o:Obj}(hb:b∈fp)(e:h.get? b=some o):(b,o)∈NQ fp h:=List.mem_filterMap.mpr ⟨b,hb,by rw[e];rfl⟩
theorem AbE{fp:List Addr}{h:Heap}{p:Addr×Obj}(hp:p∈NQ fp h):p.1∈fp∧h.get? p.1=some p.2:=by
 obtain⟨b,hb,e⟩:=List.mem_filterMap.mp hp
 cases q:h.get? b with
 |none=>rw[q]at e;cases e
 | some o =>
  rw[q]at e
  have e':(b,o)=p:=Option.some.inj e
  subst e'
  exact⟨hb,q⟩
theorem Inv.pinned{pins:List (Addr×Obj)}{σ:St}{H:Hp}{s:Shared}{fp:List Addr}(I:Inv X pins σ H s)(hf:∀b∈fp,OJ X pins H b)(ho:∀b∈fp,∃o,s.heap.get? b=some o∧∀v,o.data≠.cell v):Inv X (pins++NQ fp s.heap) σ H s :=
 I.aaw fun p hp=>(List.mem_append.mp hp).elim (fun z=>I.pin p (List.mem_append_right _ z)) fun z=>by
  obtain⟨hb,e⟩:=AbE z
  obtain⟨f0,f1,f2,_⟩:=hf p.1 hb
  obtain⟨o,e',d⟩:=ho p.1 hb
  rw[e]at e';cases e'
  exact⟨e,f0,f1,f2,d⟩
theorem Inv.jx{pins pl:List (Addr×Obj)}{σ:St}{H:Hp}{s:Shared}(I:Inv X (pins++pl) σ H s):Inv X pins σ H s:=I.aaw fun p hp=>I.pin p (List.mem_append_right _ (List.mem_append_left _ hp))
theorem Ajy{iter:Expr}{body:List Stmt}{wi:TI}{g:TG}{tb:TS}{pos:Pos}(hp:PassesOwn (model X.prog X.w) X.A X.env X.xe)(hc:X.calm=true)(hi:PI X tg iter wi)(hg:PG X tg g)(hb:PSs X body tb)
  (hs:∀x,foldedSetIterable iter X.env x=pure x:=by intro _;rfl):PS X (.For tg iter body [] pos) (Apf wi g tb):=by
 intro pins s σ H D I h
 refine wpAny_For (thn (hi pins s σ H _ I h) fun v s1 h1=>thn h1 fun itv s2 h2=>?_) hs
 obtain⟨it,fp,tn,J,H2,e,I2,T,st2,f2,W,⟨m0,w0⟩,turn⟩:=h2
 subst e
 have stat:∀{H':Hp},(∀b∈fp,H' b=none)→∀b∈fp,OJ X pins H' b:=fun hn b hb=>⟨hn b hb,(f2 b hb).2⟩
 refine codeAny_forLoop_any (fun n s'=>∃i σ' H',Inv X pins σ' H' s'∧tn i s'.heap∧(∀b∈fp,H' b=none)∧W i n σ' H') ?_ m0 ⟨0,σ,H2,I2,st2,fun b hb=>(f2 b hb).1,w0⟩
 rintro n s3 ⟨i,σ3,H3,I3,st3,fr3,w3⟩
 rcases turn i n σ3 H3 w3 with⟨stop,qn⟩|⟨go,N,hN,step⟩
 ·refine wpAny_passesOwn hp (thn (T.done X rfl rfl rfl hc i pins s3 σ3 H3 X.xe I3 (stat fr3) st3 stop) fun r s4 ⟨hr,I4⟩=>?_)
  subst hr
  exact wpAny_execs_nil ⟨σ3,H3,I4,qn⟩
 ·refine wpAny_passesOwn hp (thn (T.item X rfl rfl rfl hc i pins s3 σ3 H3 X.xe I3 (stat fr3) st3 go) fun r s4 ⟨u,hr,h4⟩=>?_)
  subst hr
  refine wpAny_passesOwn hp (thn h4 fun _ s5 ⟨x,H5,I5,r5,y5,st5,fr5⟩=>?_)
  have I5':=I5.pinned (stat fr5) (T.obj _ _ st5)
  refine wpAny_passesOwn hp (thn (hg _ s5 σ3 H5 x u _ I5' r5 (step x H5 y5)) fun _ s6 ⟨σ6,H6,I6,q6⟩=>?_)
  refine wpAny_passesOwn hp (thn (hb _ s6 σ6 H6 _ I6 q6) fun f s7 q7=>?_)
  have again:∀{σ7:St} {H7:Hp},Inv X (pins++NQ fp s5.heap) σ7 H7 s7→N σ7 H7→∃m,m<n∧∃i σ' H',Inv X pins σ' H' s7∧tn i s7.heap∧(∀b∈fp,H' b=none)∧W i m σ' H':=fun{σ7 H7} I7 n7=>by
   obtain⟨m',hm,w7⟩:=hN σ7 H7 n7
   refine⟨m',hm,i+1,σ7,H7,I7.jx,T.keep _ _ _ st5 fun b hb o e=>(I7.pin (b,o) (List.mem_append_right _ (List.mem_append_right _ (Gf hb e)))).1,fun b hb=>?_,w7⟩
   obtain⟨o,e,d⟩:=T.obj _ _ st5 b hb
   exact(I7.pin (b,o) (List.mem_append_right _ (List.mem_append_right _ (Gf hb e)))).2.1
  cases f with
  |next=>obtain⟨σ7,H7,I7,n7⟩:=q7;exact again I7 n7
  |cont=>obtain⟨σ7,H7,I7,n7⟩:=q7;exact again I7 n7
  |brk=>obtain⟨σ7,H7,I7,q7⟩:=q7;exact⟨σ7,H7,I7.jx,q7⟩
  |ret v=>obtain⟨x7,σ7,H7,I7,r7,q7⟩:=q7;exact⟨x7,σ7,H7,I7.jx,r7,q7⟩
end
end L2
namespace L2
open PySem Spec PyProof.Rows
abbrev R2:=V→V→Hp→VK→Prop
def OpR(X:Cx)(f:Value→Value→Sem Value)(r:R2):Prop :=
 ∀(pins:List (Addr×Obj))(s:Shared)(σ:St)(H:Hp)(x y:V)(v u:Value)(Q:VK),Inv X pins σ H s→RelV x v→RelV y u→r x y H Q →
  wpAny (model X.prog X.w) X.A (f v u) (EP X pins σ Q) X.xe s
def UnR(X:Cx)(f:Value→Sem Value)(r:V→Hp→VK→Prop):Prop :=
 ∀(pins:List (Addr×Obj))(s:Shared)(σ:St)(H:Hp)(x:V)(v:Value)(Q:VK),Inv X pins σ H s→RelV x v→r x H Q →
  wpAny (model X.prog X.w) X.A (f v) (EP X pins σ Q) X.xe s
def Kr(X:Cx)(f:Value)(r:List V→Hp→VK→Prop):Prop :=
 ∀(pins:List (Addr×Obj))(s:Shared)(σ:St)(H:Hp)(xs:List V)(us:List Value)(Q:VK),Inv X pins σ H s→Vals xs us→r xs H Q →
  wpAny (model X.prog X.w) X.A (call f us) (EP X pins σ Q) X.xe s
def tOp(r:R2)(ta tb:TE):TE:=fun σ H Q=>ta σ H fun x H1=>tb σ H1 fun y H2=>r x y H2 Q
def tUn(r:V→Hp→VK→Prop)(ta:TE):TE:=fun σ H Q=>ta σ H fun x H1=>r x H1 Q
def rI(C:Int→Int→Prop)(g:Int→Int→V):R2:=fun x y H Q=>∃i j,x=.int i∧y=.int j∧C i j∧Q (g i j) H
def rI0(g:Int→Int→V):R2:=fun x y H Q=>∃i j,x=.int i∧y=.int j∧Q (g i j) H
def rU(g:Int→V):V→Hp→VK→Prop:=fun x H Q=>∃i,x=.int i∧Q (g i) H
section
variable{X:Cx}{a b c:Expr}{ta tb tc:TE}{pos:Pos}
theorem AjY(ha:PE X a ta)(hb:PE X b tb){pins:List (Addr×Obj)}{s:Shared}{σ:St}{H:Hp}{R:V→V→Hp→Prop}(I:Inv X pins σ H s)
  (h:ta σ H fun x H1=>tb σ H1 fun y H2=>R x y H2) {Q:Value→Shared→Prop} {f:Value→Value→Sem Value}
  (hf:∀v u s2 x y H2,Inv X pins σ H2 s2→RelV x v→RelV y u→R x y H2→wpAny (model X.prog X.w) X.A (f v u) Q X.xe s2) :
  wpAny (model X.prog X.w) X.A (eval a X.env) (fun v s₁=>wpAny (model X.prog X.w) X.A (eval b X.env) (fun u s₂=>wpAny (model X.prog X.w) X.A (f v u) Q X.xe s₂) X.xe s₁) X.xe s:=by
 refine thn (ha pins s σ H _ I h) fun v s1 ⟨x,H1,I1,r1,q1⟩=>?_
 refine thn (hb pins s1 σ H1 _ I1 q1) fun u s2 ⟨y,H2,I2,r2,q2⟩=>?_
 exact hf v u s2 x y H2 I2 r1 r2 q2
theorem AhF{op:Operator}{r:R2}(ho:OpR X (binaryOp op) r)(ha:PE X a ta)(hb:PE X b tb):PE X (.BinOp a op b pos) (tOp r ta tb):=by
 intro pins s σ H Q I h
 exact wpAny_BinOp (AjY ha hb I h fun v u s2 x y H2 I2 rx ry q=>ho pins s2 σ H2 x y v u Q I2 rx ry q)
theorem AnP{op:UnaryOp}{r:V→Hp→VK→Prop}(ho:UnR X (unaryOp op) r)(ha:PE X a ta):PE X (.UnaryOp op a pos) (tUn r ta):=by
 intro pins s σ H Q I h
 exact UnaryOp_ (thn (ha pins s σ H _ I h) fun v s1 ⟨x,H1,I1,r1,q1⟩=>ho pins s1 σ H1 x v Q I1 r1 q1)
theorem opI{f:Value→Value→Sem Value}{C:Int→Int→Prop}{g:Int→Int→Int}
  (rule:∀(i j:Int)(t u:Tok)(s:Shared)(Q:Value→Shared→Prop)(E:Value→Shared→Prop),C i j→Q (.int (g i j) s.toks) {s with toks:=s.toks+1}→wpAny (model X.prog X.w) X.A (f (.int i t) (.int j u)) Q E s) :
  OpR X f (rI C fun i j=>.int (g i j)):=by
 intro pins s σ H x y v u Q I rx ry h
 obtain⟨i,j,rfl,rfl,hc,q⟩:=h
 obtain⟨t,rfl⟩:=rx
 obtain⟨t',rfl⟩:=ry
 exact rule i j t t' s _ _ hc ⟨.int (g i j),H,I.tok _,⟨_,rfl⟩,q⟩
theorem Alf{f:Value→Value→Sem Value}{g:Int→Int→Int}
  (rule:∀(i j:Int)(t u:Tok)(s:Shared)(Q:Value→Shared→Prop)(E:Value→Shared→Prop),Q (.int (g i j) s.toks) {s with toks:=s.toks+1}→wpAny (model X.prog X.w) X.A (f (.int i t) (.int j u)) Q E s) :
  OpR X f (rI0 fun i j=>.int (g i j)):=by
 intro pins s σ H x y v u Q I rx ry h
 obtain⟨i,j,rfl,rfl,q⟩:=h
 obtain⟨t,rfl⟩:=rx
 obtain⟨t',rfl⟩:=ry
 exact rule i j t t' s _ _ ⟨.int (g i j),H,I.tok _,⟨_,rfl⟩,q⟩
theorem AfS{f:Value→Value→Sem Value}{g:Int→Int→Bool}
  (rule:∀(i j:Int)(t u:Tok)(s:Shared)(Q:Value→Shared→Prop)(E:Value→Shared→Prop),Q (.bool (g i j)) s→wpAny (model X.prog X.w) X.A (f (.int i t) (.int j u)) Q E s) :
  OpR X f (rI0 fun i j=>.bl (g i j)):=by
 intro pins s σ H x y v u Q I rx ry h
 obtain⟨i,j,rfl,rfl,q⟩:=h
 obtain⟨t,rfl⟩:=rx
 obtain⟨t',rfl⟩:=ry
 exact rule i j t t' s _ _ ⟨.bl (g i j),H,I,rfl,q⟩
def AbB(i j:Int):Prop:=0≤j∧j≤1000000∧i.natAbs<2 ^ 64
theorem Ajk:OpR X (binaryOp .Add) (rI0 fun i j=>.int (i+j)):=Alf fun _ _ _ _ _ _ _ q=>add_int q
theorem Akg:OpR X (binaryOp .Sub) (rI0 fun i j=>.int (i-j)):=Alf fun _ _ _ _ _ _ _ q=>sub_int q
theorem AgJ:OpR X (binaryOp .Mod) (rI (fun _ j=>j≠0) fun i j=>.int (i.fmod j)):=opI fun _ _ _ _ _ _ _ hc q=>mod_int' hc q
theorem Akm:OpR X (binaryOp .Pow) (rI AbB fun i j=>.int (i ^ j.toNat)):=opI fun _ _ _ _ _ _ _ hc q=>pow_int_small hc.1 hc.2.1 hc.2.2 q
theorem Aix:OpR X (binaryOp .LShift) (rI AbB fun i j=>.int (i*2 ^ j.toNat)):=opI fun _ _ _ _ _ _ _ hc q=>lshift_int_small hc.1 hc.2.1 hc.2.2 q
theorem unI{f:Value→Sem Value}{g:Int→Int}
  (rule:∀(i:Int)(t:Tok)(s:Shared)(Q:Value→Shared→Prop)(E:Value→Shared→Prop),Q (.int (g i) s.toks) {s with toks:=s.toks+1}→wpAny (model X.prog X.w) X.A (f (.int i t)) Q E s) :
  UnR X f (rU fun i=>.int (g i)):=by
 intro pins s σ H x v Q I rx h
 obtain⟨i,rfl,q⟩:=h
 obtain⟨t,rfl⟩:=rx
 exact rule i t s _ _ ⟨.int (g i),H,I.tok _,⟨_,rfl⟩,q⟩
theorem Aip:UnR X (unaryOp .USub) (rU fun i=>.int (-i)):=unI fun _ _ _ _ _ q=>neg_int q
end
section
variable{X:Cx}{a b c:Expr}{ta tb tc:TE}{pos:Pos}
theorem JH{pins:List (Addr×Obj)}{σ:St}{H:Hp}{s:Shared}{Q:VK}{k k':Bool}(I:Inv X pins σ H s)(q:Q (.bl k) H)(e:k=k'):EP X pins σ Q (.bool k') s:=by
 subst e
 exact⟨.bl k,H,I,rfl,q⟩
theorem Acf:OpR X (compareOp .Lt) (rI0 fun i j=>.bl (decide (i<j))):=AfS fun _ _ _ _ _ _ _ q=>lt_int q
theorem VN:OpR X (compareOp .LtE) (rI0 fun i j=>.bl (decide (i≤j))):=AfS fun _ _ _ _ _ _ _ q=>le_int q
theorem Ak9:OpR X (compareOp .Gt) (rI0 fun i j=>.bl (decide (j<i))):=AfS fun _ _ _ _ _ _ _ q=>gt_int q
theorem AnV:OpR X (compareOp .GtE) (rI0 fun i j=>.bl (decide (j≤i))):=AfS fun _ _ _ _ _ _ _ q=>ge_int q
theorem Af9:OpR X (compareOp .IsNot) (fun x y H Q=>y=.non∧Q (.bl (!decide (x=.non))) H):=by
 intro pins s σ H x y v u Q I rx ry h
 obtain⟨rfl,q⟩:=h
 cases ry
 refine isnot_none_gen (JH I q ?_)
 cases x<;>first
  |(cases rx;rfl)
  |(obtain⟨t,rfl⟩:=rx;rfl)
theorem OpR.or{f:Value→Value→Sem Value}{r r':R2}(h:OpR X f r)(h':OpR X f r'):OpR X f (fun x y H Q=>r x y H Q∨r' x y H Q):=by
 intro pins s σ H x y v u Q I rx ry q
 rcases q with q|q
 ·exact h pins s σ H x y v u Q I rx ry q
 ·exact h' pins s σ H x y v u Q I rx ry q
theorem Km(b:Expr){op:CmpOp}(h:op≠.In:=by decide)(h2:op≠.NotIn:=by decide):behindInMarks op b=false:=by
 have e1:(op==CmpOp.In)=false:=by cases op<;>first|rfl|exact absurd rfl h
 have e2:(op==CmpOp.NotIn)=false:=by cases op<;>first|rfl|exact absurd rfl h2
 cases b<;>simp[behindInMarks,e1,e2]
theorem Ag7{op:CmpOp}{r:R2}(ho:OpR X (compareOp op) r)(ha:PE X a ta)(hb:PE X b tb)(hm:behindInMarks op b=false):PE X (.Compare a [op] [b] pos) (tOp r ta tb):=by
 intro pins s σ H Q I h
 exact wpAny_Compare1 (AjY ha hb I h fun v u s2 x y H2 I2 rx ry q=>ho pins s2 σ H2 x y v u Q I2 rx ry q) hm
def AnO(t:TE):TT:=fun σ H Q=>t σ H fun x H'=>∃k,x=.bl k∧Q k H'
theorem Afr{op:CmpOp}{r:R2}(ho:OpR X (compareOp op) r)(ha:PE X a ta)(hb:PE X b tb)(hm:behindInMarks op b=false):PT X (.Compare a [op] [b] pos) (AnO (tOp r ta tb)):=by
 intro pins s σ H Q I h
 refine wpAny_isTrue_Compare1 (thn (ha pins s σ H _ I h) fun v s1 ⟨x,H1,I1,r1,q1⟩=>thn (hb pins s1 σ H1 _ I1 q1) fun u s2 ⟨y,H2,I2,r2,q2⟩ =>
  thn (ho pins s2 σ H2 x y v u _ I2 r1 r2 q2) fun c s3 ⟨z,H3,I3,r3,k,e,q3⟩=>?_) hm
 subst e
 cases r3
 exact wpAny_truthy_bool ⟨H3,I3,q3⟩
def Ad4(r r':R2)(ta tb tc:TE):TE:=fun σ H Q=>ta σ H fun x H1=>tb σ H1 fun y H2=>r x y H2 fun z H3=>∃k,z=.bl k ∧
 (if k=true then tc σ H3 fun w' H4=>r' y w' H4 Q else Q (.bl false) H3)
theorem AcV{op op':CmpOp}{r r':R2}(ho:OpR X (compareOp op) r)(ho':OpR X (compareOp op') r')(ha:PE X a ta)(hb:PE X b tb)(hc:PE X c tc)
  (hm:lastMarks [op,op'] [b,c]=false:=by with_unfolding_all rfl):PE X (.Compare a [op,op'] [b,c] pos) (Ad4 r r' ta tb tc):=by
 intro pins s σ H Q I h
 refine Compare_chain (thn (ha pins s σ H _ I h) fun v s1 ⟨x,H1,I1,r1,q1⟩=>chain_link (thn (hb pins s1 σ H1 _ I1 q1) fun u s2 ⟨y,H2,I2,r2,q2⟩ =>
  thn (ho pins s2 σ H2 x y v u _ I2 r1 r2 q2) fun d s3 ⟨z,H3,I3,r3,k,e,q3⟩=>?_)) hm
 subst e
 cases r3
 refine wpAny_truthy_bool ?_
 cases k with
 |false=>exact ite_ff ⟨.bl false,H3,I3,rfl,q3⟩
 |true=>exact ite_tt (chain_last (thn (hc pins s3 σ H3 _ I3 q3) fun w' s4 ⟨z',H4,I4,r4,q4⟩=>ho' pins s4 σ H4 y z' u w' Q I4 r2 r4 q4))
theorem Xp:(sizeLine:Nat)<2 ^ 63:=by rw[sizeLine_eq];decide
theorem vals1{x:V}{us:List Value}(r:Vals [x] us):∃u,us=[u]∧RelV x u:=by
 cases r with
 |cons r1 r2=>cases r2;exact⟨_,rfl,r1⟩
theorem vals2{x y:V}{us:List Value}(r:Vals [x,y] us):∃u w',us=[u,w']∧RelV x u∧RelV y w':=by
 cases r with
 | cons r1 r2 =>
  cases r2 with
  |cons r3 r4=>cases r4;exact⟨_,_,rfl,r1,r3⟩
theorem AdY:Kr X (.builtin "abs") (fun xs H Q=>∃i,xs=[.int i]∧Q (.int (if i<0 then -i else i)) H):=by
 intro pins s σ H xs us Q I r h
 obtain⟨i,rfl,q⟩:=h
 obtain⟨u,rfl,t,rfl⟩:=vals1 r
 exact call_abs_int fun u tk=>⟨.int (if i<0 then -i else i),H,I.tok _,⟨_,rfl⟩,q⟩
theorem Ab1(hc:X.calm=true):Kr X (.builtin "max") (fun xs H Q=>∃i j,xs=[.int i,.int j]∧Q (.int (if j>i then j else i)) H):=by
 intro pins s σ H xs us Q I r h
 obtain⟨i,j,rfl,q⟩:=h
 obtain⟨u,w',rfl,⟨t,rfl⟩,⟨t',rfl⟩⟩:=vals2 r
 refine max_two_ints (I.ok.hd hc) fun h' tk k=>⟨_,H,I.kept k,?_,q⟩
 by_cases hj:j>i
 ·rw[if_pos hj,if_pos hj];exact⟨_,rfl⟩
 ·rw[if_neg hj,if_neg hj];exact⟨_,rfl⟩
end
end L2
namespace L2
open PySem Spec PyProof.Rows
structure Xk(h:Heap)(x dx C:Addr)(mA:Str→Option Value):Prop where
 obj:h.get? x=some (W.instObj C dx)
 ns:h.Ns1 dx mA
 ne:dx≠x
theorem Tv{h:Heap}{dx:Addr}{mA:Str→Option Value}(n:h.Ns1 dx mA):∃od,h.get? dx=some od∧∀name,W.lookIn name od=some (mA name):=by
 obtain⟨o,es,ep,ho,hd,hk,_,hm⟩:=n
 refine⟨o,ho,fun name=>?_⟩
 have e:=hm name
 unfold nsFind findBy at e
 rw[←Array.find?_toList]at e
 unfold W.lookIn
 rw[hd]
 dsimp only
 split
 ·rename_i y q
  rw[q]at e
  exact congrArg some e
 ·rename_i q
  rw[q]at e
  have a:es.toList.any (·.refKey)=false:=by
   rw[List.any_eq_false]
   intro y hy
   obtain⟨z,t,hkey⟩:=hk y (Array.mem_toList_iff.mp hy)
   simp[DictEntry.refKey,hkey]
  have a':¬es.toList.any (·.refKey)=true:=by rw[a];exact Bool.false_ne_true
  rw[if_neg a']
  exact congrArg some e
theorem Xk.look{h:Heap}{x dx C:Addr}{mA:Str→Option Value}(I:Xk h x dx C mA):∃od,W.InstAt h x (W.instObj C dx) C (some od)∧∀name,W.lookIn name od=some (mA name) :=
 let ⟨od,ho,hl⟩:=Tv I.ns
 ⟨od,⟨I.obj,rfl,rfl,ho⟩,hl⟩
section
variable{prog:Program}{w:World}{A:Around}{E:Value→Shared→Prop}{s:Shared}{K:W.Frag}{x dx C f:Addr}{mA:Str→Option Value}{name:Str}{v:Value}
theorem get_map{expr:Bool}{Q:Value→Shared→Prop}(X:K.In s.heap)(I:Xk s.heap x dx C mA)(hg:W.plainGet K C name=true)(hh:W.hasDictIn K C=true)
  (ha:W.findIn K (.ref C) name=some none) (hv:mA name=some v) (hv':W.handedIn v=true) (h:Q v {s with toks:=s.toks+1}) :
  wpAny (model prog w) A (getAttr (.ref x) name expr) Q E s:=by
 obtain⟨od,J,hl⟩:=I.look
 exact W.get_value X J (W.plainGet_of hg).1 (W.findObj_own hh ha rfl (by rw[hl,hv])) hv' h
theorem Adz{pl:Sem Bool}{Q:Value×List Value→Shared→Prop}(X:K.In s.heap)(I:Xk s.heap x dx C mA)(hg:W.plainGet K C name=true)
  (hf:W.findIn K (.ref C) name=some (some (.ref f))) (ht:W.isFn K (.ref f)=true) (hv:mA name=none) (h:Q (.ref f,[.ref x]) s) :
  wpAny (model prog w) A (getMethod (.ref x) name pl) Q E s:=by
 obtain⟨od,J,hl⟩:=I.look
 exact W.method_fn X J (W.plainGet_of hg).1 (W.plainGet_of hg).2 hf (beq_iff_eq.mp ht) (by show(W.lookIn name od).map (·.isSome)=some false;rw[hl,hv];rfl) h
theorem Agl{ns:List Str}{Q:Unit→Shared→Prop}(X:K.In s.heap)(I:Xk s.heap x dx C mA)
  (hs:W.findIn K (.ref C) "__setattr__"=some (some (.builtin "object.__setattr__"))) (hp:W.plainOver K C=true) (ht:W.takerIn K C name=some none) (hh:W.hasDictIn K C=true)
  (hw:PySem.Within mA ns) (hsz:ns.length≤sizeLine)
  (h:∀h',Xk h' x dx C (fun y=>if y=name then some v else mA y)→Heap.SameBut dx s.heap h'→Q () {s with heap:=h',toks:=s.toks+2}) :
  wpAny (model prog w) A (setAttr (.ref x) name v) Q E s:=by
 obtain⟨od,J,hl⟩:=I.look
 refine W.set_plain X J hs (W.osa_open (s:={s with toks:=s.toks+1}) (r:=none) X J hp ht fun b=>?_)
 obtain⟨cd,hc,hd'⟩:=W.any_some hh
 have hx:s.heap.get? x=some ⟨.ref C,some dx,.plain,#[]⟩:=I.obj
 refine wpAny_bind (wpAny_pure (wpAny_bind (wpAny_bind (wpAny_loadPart hx (wpAny_bind (W.Looks.here (s:={s with toks:=s.toks+1}) (W.looks_clsIn X hc) ?_))))))
 rw[hd']
 refine wpAny_pure (a:=some dx) (wpAny_bind (wpAny_pure (wpAny_bind ?_)))
 refine wpAny_nsSet1 (s:={s with toks:=s.toks+1}) I.ns fun h' hn2 hs2=>?_
 obtain⟨oD,esD,epD,hoD,hdD,hcD⟩:=hn2.count (PySem.Within.cons name v hw)
 refine wpAny_bind (wpAny_lookBehind hoD (by rw[hdD];exact pastItsLine_dict (Nat.le_trans hcD (by rw[List.length_cons];omega))) ?_)
 exact wpAny_pure (h _ ⟨(hs2.2 _ (Ne.symm I.ne)).trans I.obj,hn2,I.ne⟩ hs2)
theorem Vv{R:Result→Shared→Prop}{vs:List Value}{kw:List (Str×Value)}(X:K.In s.heap)(hm:W.makesIn K C=true)
  (hi:W.findIn K (.ref C) "__init__"=some (some (.ref f))) (hf:W.typeIn K (.ref f)=some (.type "function"))
  (h:codeAny (model prog w) (A.under (.builtin "type.__call__" ⟨.ref C::vs,kw⟩)) (.call (.ref f) ⟨.ref (s.heap.objs.size+1)::vs,kw⟩) (W.InitBack (s.heap.objs.size+1) R)
   {s with heap:=(s.heap.push W.emptyDict).push (W.instObj C s.heap.objs.size)}) :
  codeAny (model prog w) A (.call (.ref C) ⟨vs,kw⟩) R s:=by
 obtain⟨hh,g,d,t,os⟩:=s
 exact W.make_core (W.makes_of X hm) (W.looks_findIn X hi) (fun self=>W.bind_fn X self hf) (.inl rfl) h
end
def HX(f:Str)(v:V):List (Str×V)→List (Str×V)
 | []=>[(f,v)]
 |(g,x)::r=>if g=f then(g,v)::r else(g,x)::HX f v r
theorem Ol(f g:Str)(v:V):∀fs:List (Str×V),(HX f v fs).lookup g=if g=f then some v else fs.lookup g
 | []=>by
  show List.lookup g [(f,v)]=_
  by_cases h:g=f
  ·have hb:(g==f)=true:=beq_iff_eq.mpr h
   simp only[List.lookup,hb,if_pos h]
  ·have hb:(g==f)=false:=beq_eq_false_iff_ne.mpr h
   simp only[List.lookup,hb,if_neg h]
 | (k,x)::r=>by
  have ih:=Ol f g v r
  rw[show HX f v ((k,x)::r)=(if k=f then(k,v)::r else(k,x)::HX f v r)from rfl]
  by_cases hk:k=f
  ·rw[if_pos hk]
   by_cases h:g=k
   ·have hb:(g==k)=true:=beq_iff_eq.mpr h
    simp only[List.lookup,hb,if_pos (h.trans hk)]
   ·have hb:(g==k)=false:=beq_eq_false_iff_ne.mpr h
    simp only[List.lookup,hb,if_neg (fun e:g=f=>h (e.trans hk.symm))]
  ·rw[if_neg hk]
   by_cases h:g=k
   ·have hb:(g==k)=true:=beq_iff_eq.mpr h
    simp only[List.lookup,hb,if_neg (fun e:g=f=>hk (h.symm.trans e))]
   ·have hb:(g==k)=false:=beq_eq_false_iff_ne.mpr h
    simp only[List.lookup,hb]
    exact ih
theorem Nx(f:Str)(v:V):∀fs:List (Str×V),f∈(HX f v fs).map (·.1)∧∀g,g∈fs.map (·.1)→g∈(HX f v fs).map (·.1)
 | []=>⟨by simp[HX],fun g h=>by simp at h⟩
 | (k,x)::r=>by
  obtain⟨i1,i2⟩:=Nx f v r
  rw[show HX f v ((k,x)::r)=(if k=f then(k,v)::r else(k,x)::HX f v r)from rfl]
  by_cases hk:k=f
  ·rw[if_pos hk]
   subst hk
   exact⟨by simp,fun g h=>by simpa using h⟩
  ·rw[if_neg hk]
   refine⟨?_,fun g h=>?_⟩
   ·rw[List.map_cons]
    exact List.mem_cons_of_mem _ i1
   ·rw[List.map_cons]at h ⊢
    rcases List.mem_cons.mp h with e|e
    ·exact List.mem_cons.mpr (.inl e)
    ·exact List.mem_cons_of_mem _ (i2 g e)
theorem Ov(f:Str)(v:V):∀fs:List (Str×V),(HX f v fs).length≤fs.length+1
 | []=>by simp[HX]
 | (k,x)::r=>by
  have ih:=Ov f v r
  rw[show HX f v ((k,x)::r)=(if k=f then(k,v)::r else(k,x)::HX f v r)from rfl]
  by_cases hk:k=f
  ·rw[if_pos hk,List.length_cons,List.length_cons];omega
  ·rw[if_neg hk,List.length_cons,List.length_cons];omega
theorem Mj.some_of{v:V}{o:Option Value}(r:Mj (some v) o):∃u,o=some u∧RelV v u:=by
 cases o with
 |none=>exact(show False from r).elim
 |some u=>exact⟨u,rfl,r⟩
theorem Mj.none_of{o:Option Value}(r:Mj none o):o=none:=by
 cases o with
 |none=>rfl
 |some u=>exact(show False from r).elim
theorem S8{v:V}{u:Value}(r:RelV v u):W.handedIn u=true:=by
 cases v with
 |non=>cases(show u=Value.none from r);rfl
 |bl b=>cases(show u=Value.bool b from r);rfl
 |int i=>obtain⟨t,e⟩:=(show ∃t,u=Value.int i t from r);cases e;rfl
 |str x=>obtain⟨t,e⟩:=(show ∃t,u=Value.str x t from r);cases e;rfl
 |byt b=>obtain⟨t,e⟩:=(show ∃t,u=Value.bytes b t from r);cases e;rfl
 |flt b=>obtain⟨t,e⟩:=(show ∃t,u=Value.float b t from r);cases e;rfl
 |ref a=>cases(show u=Value.ref a from r);rfl
 |ty n=>cases(show u=Value.type n from r);rfl
section
variable{P:Program}{w:World}{H H':Hp}{h h':Heap}{a C dx:Addr}{fs fs':List (Str×V)}
theorem Vc(hok:HOk P w H h)(e:H a=some (.ins C dx fs)):∃mA,Xk h a dx C mA∧(∀f,Mj (fs.lookup f) (mA f))∧PySem.Within mA (fs.map (·.1))∧fs.length≤1000∧H dx=some (.own a):=by
 obtain⟨d,z,ne,ob,mA,n,r,q⟩:=(show Ej P w H h a (.ins C dx fs)from hok a _ e)
 exact⟨mA,⟨ob,n,ne⟩,r,q,z,d⟩
end
structure Cls(K:W.Frag)(C:Addr):Prop where
 pg:W.plainGet K C Str.empty=true
 hd:W.hasDictIn K C=true
 po:W.plainOver K C=true
 sa:W.findIn K (.ref C) "__setattr__"=some (some (.builtin "object.__setattr__"))
theorem Cls.get{K:W.Frag}{C:Addr}(c:Cls K C)(f:Str):W.plainGet K C f=true:=c.pg
def GQ(K:W.Frag)(C:Addr)(f:Str):Prop:=W.findIn K (.ref C) f=some none
theorem GQ.taker{K:W.Frag}{C:Addr}{f:Str}(n:GQ K C f):W.takerIn K C f=some none:=by
 unfold W.takerIn
 rw[show W.findIn K (.ref C) f=some none from n]
 rfl
structure Meth(K:W.Frag)(C:Addr)(m:Str)(f:Addr):Prop where
 at_:W.findIn K (.ref C) m=some (some (.ref f))
 fn:W.isFn K (.ref f)=true
 kp:W.keepIn K (.ref f)=true
section
variable{X:Cx}{pins:List (Addr×Obj)}{σ:St}{H:Hp}{s:Shared}{a C dx:Addr}{fs:List (Str×V)}{f:Str}{v:V}{A:Around}{E:Value→Shared→Prop}
theorem YM{b:Bool}{Q:Value→Shared→Prop}(I:Inv X pins σ H s)(e:H a=some (.ins C dx fs))(c:Cls X.K C)(n:GQ X.K C f)(l:fs.lookup f=some v)
  (h:∀u s',Inv X pins σ H s'→RelV v u→Q u s'):wpAny (model X.prog X.w) A (getAttr (.ref a) f b) Q E s:=by
 obtain⟨mA,O,r,_,_,_⟩:=Vc I.hok e
 obtain⟨u,hu,ru⟩:=Mj.some_of (v:=v) (o:=mA f) (by rw[←l];exact r f)
 exact get_map I.kIn O (c.get f) c.hd n hu (S8 ru) (h u _ (I.tok _) ru)
theorem Ro{m:Str}{g:Addr}{pl:Sem Bool}{Q:Value×List Value→Shared→Prop}(I:Inv X pins σ H s)(e:H a=some (.ins C dx fs))(c:Cls X.K C)(k:Meth X.K C m g)(l:fs.lookup m=none)
  (h:Q (.ref g,[.ref a]) s):wpAny (model X.prog X.w) A (getMethod (.ref a) m pl) Q E s:=by
 obtain⟨mA,O,r,_,_,_⟩:=Vc I.hok e
 have hn:mA m=none:=Mj.none_of (by rw[←l];exact r m)
 exact Adz I.kIn O (c.get m) k.at_ k.fn hn h
theorem X6{y:V}{u:Value}{Q:Unit→Shared→Prop}(I:Inv X pins σ H s)(e:H a=some (.ins C dx fs))(c:Cls X.K C)(n:GQ X.K C f)(hl:fs.length<1000)(ry:RelV y u)
  (h:∀s',Inv X pins σ (upd H a (.ins C dx (HX f y fs))) s'→Q () s'):wpAny (model X.prog X.w) A (setAttr (.ref a) f u) Q E s:=by
 obtain⟨mA,O,r,wi,_,ho⟩:=Vc I.hok e
 have hz:(fs.map (·.1)).length≤sizeLine:=by rw[List.length_map,sizeLine_eq];omega
 refine Agl I.kIn O c.sa c.po n.taker c.hd wi hz fun h' O' sb=>h _ ?_
 have hd:∃o,h'.get? dx=some o:=let ⟨o,_,_,e',_⟩:=O'.ns;⟨o,e'⟩
 refine I.write (x:=a) (e:=dx) (by rw[e];exact True.intro) (.inr ho) (fun b q hb z=>(sb.2 b hb).trans z) hd ?_
 refine⟨by rw[Ak O.ne];exact ho,?_,O.ne,O'.obj,_,O'.ns,fun g=>?_,fun g hg=>?_⟩
 ·have:=Ov f y fs;omega
 ·show Mj ((HX f y fs).lookup g) (if g=f then some u else mA g)
  rw[Ol]
  by_cases q:g=f
  ·rw[if_pos q,if_pos q];exact ry
  ·rw[if_neg q,if_neg q];exact r g
 ·by_cases q:g=f
  ·rw[q];exact(Nx f y fs).1
  ·refine(Nx f y fs).2 g (wi g fun z=>hg ?_)
   show(if g=f then some u else mA g)=none
   rw[if_neg q];exact z
theorem Inv.made(I:Inv X pins σ H s):Inv X pins σ (upd (upd H s.heap.objs.size (.own (s.heap.objs.size+1))) (s.heap.objs.size+1) (.ins C s.heap.objs.size []))
  {s with heap:=(s.heap.push W.emptyDict).push (W.instObj C s.heap.objs.size)}:=by
 have e1:(s.heap.push W.emptyDict).get? s.heap.objs.size=some W.emptyDict:=Heap.get?_push_size s.heap rfl
 have e2:((s.heap.push W.emptyDict).push (W.instObj C s.heap.objs.size)).get? (s.heap.objs.size+1)=some (W.instObj C s.heap.objs.size):=by
  have:=Heap.get?_push_size (s.heap.push W.emptyDict) (o:=W.instObj C s.heap.objs.size) rfl
  rwa [Heap.size_push]at this
 have e3:(s.heap.push W.emptyDict).Ns s.heap.objs.size (fun _=>none):=⟨W.emptyDict,#[],_,e1,rfl,(fun e he=>absurd he (by simp)),fun _=>rfl⟩
 have I1:=I.laid (a:=s.heap.objs.size) (o:=.own (s.heap.objs.size+1)) (h':=s.heap.push W.emptyDict) (t':=s.toks) (fun b u q=>Heap.get?_push_of_some _ q) (Nat.le_refl _) ⟨_,e1⟩
 refine I1.laid (a:=s.heap.objs.size+1) (o:=.ins C s.heap.objs.size []) (t':=s.toks) (fun b u q=>Heap.get?_push_of_some _ q) (Nat.le_of_eq (Heap.size_push _ _)) ?_
 have ne:s.heap.objs.size≠s.heap.objs.size+1:=Nat.ne_of_lt (Nat.lt_succ_self _)
 refine⟨by rw[Ak ne,Av],Nat.zero_le _,ne,e2,fun _=>none,(Heap.Ns1.of_empty e3).at fun o q=>Heap.get?_push_of_some _ q,fun _=>True.intro,fun y hy=>absurd rfl hy⟩
theorem AaC{prog:Program}{w:World}{env:Env}{e:Expr}{f:Str}{pos:Pos}{s:Shared}{Q:Value→Shared→Prop}(hb:attributeBase e f env (eval e env)=eval e env)
  (h:wpAny (model prog w) A (eval e env) (fun o s₁=>wpAny (model prog w) A (getAttr o f true) Q E s₁) E s):wpAny (model prog w) A (eval (.Attribute e f pos) env) Q E s :=
 Attribute_any_ h (by rw[arm_eval_Attribute,hb])
end
def AoZ(K:W.Frag)(ta:TE)(f:Str):TE:=fun σ H Q=>ta σ H fun x H1=>∃a C dx fs v,x=.ref a∧H1 a=some (.ins C dx fs)∧Cls K C∧GQ K C f∧fs.lookup f=some v∧Q v H1
def Ao2(K:W.Frag)(ta tv:TE)(f:Str):TS:=fun D σ H=>tv σ H fun y H1=>ta σ H1 fun x H2=>∃a C dx fs,x=.ref a∧H2 a=some (.ins C dx fs)∧Cls K C∧GQ K C f∧fs.length<1000 ∧
 D.nx σ (upd H2 a (.ins C dx (HX f y fs)))
section
variable{X:Cx}{o e value:Expr}{f:Str}{pos pos' tpos:Pos}{ta tv:TE}
theorem AjD(he:PE X e ta)(hb:attributeBase e f X.env (eval e X.env)=eval e X.env):PE X (.Attribute e f pos) (AoZ X.K ta f):=by
 intro pins s σ H Q I h
 refine AaC hb (thn (he pins s σ H _ I h) fun u s1 ⟨x,H1,I1,rx,a,C,dx,fs,v,ex,ea,c,n,l,q⟩=>?_)
 subst ex
 obtain rfl:u=Value.ref a:=rx
 exact YM I1 ea c n l fun u' s2 I2 ru=>⟨v,H1,I2,ru,q⟩
theorem X7(ha:PE X o ta)(hv:PE X value tv)(hs:swapsWith value (some (.Attribute o f pos')) pos.line X.env=pure false):PS X (.Assign [.Attribute o f pos'] value pos) (Ao2 X.K ta tv f):=by
 intro pins s σ H D I h
 refine plainObj_wpAny_Assign_Attribute (thn (hv pins s σ H _ I h) fun u s1 ⟨y,H1,I1,ry,q⟩=>thn (ha pins s1 σ H1 _ I1 q) fun ov s2 ⟨x,H2,I2,rx,a,C,dx,fs,ex,ea,c,n,l,q2⟩=>?_) hs
 subst ex
 obtain rfl:ov=Value.ref a:=rx
 exact X6 I2 ea c n l ry fun s3 I3=>⟨σ,_,I3,q2⟩
end
section
variable{X:Cx}{pins:List (Addr×Obj)}{σ:St}{H:Hp}{s:Shared}{A:Around}{E:Value→Shared→Prop}{Q:Value→Shared→Prop}{c:Value}{b:Bool}
end
end L2
namespace L2
open PySem Spec PyProof.Rows
structure CK(k:Nat)(A:Around):Prop where
 hd:A.handled=none
 dp:A.depth+3*k+5<recursionLimit
 un:A.units+16*k+200<cLine
theorem CK.mono{j k:Nat}{A:Around}(r:CK k A)(h:j≤k):CK j A:=⟨r.hd,by have:=r.dp;omega,by have:=r.un;omega⟩
theorem CK.deeper{k:Nat}{A:Around}(r:CK (k+1) A)(env:Env):CK k (A.deeper env) :=
 ⟨r.hd,by have:=r.dp;show A.depth+1+3*k+5<_;omega,by have:=r.un;show A.units+3+16*k+200<_;omega⟩
theorem YX{A:Around}{C:Addr}{us:List Value}{kw:List (Str×Value)}:(A.under (.builtin "type.__call__" ⟨.ref C::us,kw⟩)).depth=A.depth+1:=by
 first|rfl|simp[Around.under,Code.weight,Code.isCreation,Code.isGuard,Code.isCaller,Code.frames,Code.isFrame,guardIds]
theorem Yk{A:Around}{C:Addr}{us:List Value}{kw:List (Str×Value)}:(A.under (.builtin "type.__call__" ⟨.ref C::us,kw⟩)).units=A.units+1:=by
 first|rfl|simp[Around.under,Code.cUnits,Code.frames,Code.isFrame]
theorem CK.make{k:Nat}{A:Around}(r:CK (k+1) A)(C:Addr)(us:List Value)(kw:List (Str×Value)):CK k (A.under (.builtin "type.__call__" ⟨.ref C::us,kw⟩)) :=
 ⟨r.hd,by have:=r.dp;rw[YX];omega,by have:=r.un;rw[Yk];omega⟩
theorem CK.depth{k:Nat}{A:Around}(r:CK k A):A.depth<recursionLimit:=by have:=r.dp;omega
theorem CK.units{k:Nat}{A:Around}(r:CK k A):A.units+64<cLine:=by have:=r.un;omega
def AnC:TA:=fun _ H Q=>Q [] H
def AnN(ta:TE)(tr:TA):TA:=fun σ H Q=>ta σ H fun x H1=>tr σ H1 fun xs H2=>Q (x::xs) H2
section
variable{X:Cx}{e:Expr}{es:List Expr}{te:TE}{t:TA}{pos:Pos}
theorem Lg:PA X [] AnC:=fun _ _ _ _ H Q I h=>Calls.spliced_nil ⟨[],H,I,.nil,h⟩
theorem Ei(ha:PE X e te)(hr:PA X es t)(hs:starEach (e::es) X.env=(false,eval e X.env)::starEach es X.env:=by rfl):PA X (e::es) (AnN te t):=by
 intro pos pins s σ H Q I h
 rw[hs]
 show wpAny _ _ (spliced ((false,eval e X.env)::backTo pos (starEach es X.env))) _ _ s
 refine Calls.spliced_cons (thn (ha pins s σ H _ I h) fun u s1 ⟨x,H1,I1,r1,q1⟩=>?_)
 exact thn (hr pos pins s1 σ H1 _ I1 q1) fun us s2 ⟨xs,H2,I2,r2,q2⟩=>⟨x::xs,H2,I2,.cons r1 r2,q2⟩
def Aoq(t:TA):TE:=fun σ H Q=>t σ H fun xs H1=>xs.length≤sizeLine∧∀p,H1 p=none→Q (.ref p) (upd H1 p (.tup xs))
def Aog(t:TA):TE:=fun σ H Q=>t σ H fun xs H1=>xs.length≤sizeLine∧∀p,H1 p=none→Q (.ref p) (upd H1 p (.lst xs))
theorem Ac2{x1}(h:PA X es t):PE X (.Tuple es x1 pos) (Aoq t):=by
 intro pins s σ H Q I hq
 refine wpAny_Tuple_spliced (thn (h pos pins s σ H _ I hq) fun us s1 ⟨xs,H1,I1,r,z,q⟩=>⟨by rw[←r.length];exact z,?_⟩)
 have hf:H1 s1.heap.objs.size=none:=I1.hok.fresh (Nat.le_refl _)
 refine⟨.ref s1.heap.objs.size,upd H1 s1.heap.objs.size (.tup xs),I1.laid (t':=s1.toks) (fun b u e=>Heap.get?_push_of_some _ e) (Nat.le_refl _) ?_,rfl,q _ hf⟩
 exact⟨z,us,r,⟨_,Heap.get?_push_size _ rfl,rfl,_,rfl⟩⟩
theorem Xl(h:PA X es t):PE X (.List es pos) (Aog t):=by
 intro pins s σ H Q I hq
 refine wpAny_List_spliced (thn (h pos pins s σ H _ I hq) fun us s1 ⟨xs,H1,I1,r,z,q⟩=>⟨by rw[←r.length];exact z,?_⟩)
 have hf:H1 s1.heap.objs.size=none:=I1.hok.fresh (Nat.le_refl _)
 refine⟨.ref s1.heap.objs.size,upd H1 s1.heap.objs.size (.lst xs),I1.laid (t':=s1.toks) (fun b u e=>Heap.get?_push_of_some _ e) (Nat.le_refl _) ?_,rfl,q _ hf⟩
 exact⟨z,us,0,r,Heap.get?_push_size _ rfl⟩
end
abbrev Sp:=List V→Hp→VK→XK→Prop
abbrev CXT:=List Env→Hp→Shared→XK→Value→Shared→Prop
structure Yd(P:Program)(w:World)(K:W.Frag)(mg:Str→Option Value)(base:Heap)(A:Around)(outer:List Env)(s:Shared)(H:Hp):Prop where
 frames:A.frames=some outer
 mod:Mod K mg base
 bs:∀b o,base.get? b=some o→s.heap.get? b=some o∧H b=none
 bsz:base.objs.size≤s.heap.objs.size
 lM:s.heap.FunFrames base outer
 frf:∀b∈frs outer,H b=none
 hok:HOk P w H s.heap
 bare:AllBare s.gens
def CE(outer:List Env)(P:Program)(w:World)(H:Hp)(s:Shared)(Q:VK)(u:Value)(s':Shared):Prop :=
 ∃v H',s'.os=s.os∧AllBare s'.gens∧Un (frs outer) [] H H' s.heap s'.heap∧HOk P w H' s'.heap∧RelV v u∧Q v H'
def CR(CX:CXT)(outer:List Env)(P:Program)(w:World)(H:Hp)(s:Shared)(Q:VK)(E:XK)(r:Result)(s':Shared):Prop :=
 match r with
 |.ok (.ret u)=>CE outer P w H s Q u s'
 |.ok _=>False
 |.error e=>CX outer H s E e s'
structure Ef(P:Program)(w:World)(K:W.Frag)(mg:Str→Option Value)(base:Heap)(CX:CXT)(k:Nat)(f:Addr)(fd:FuncData)(ps:List Str)(sp:Sp):Prop where
 len:∀vs H Q E,sp vs H Q E→vs.length=ps.length
 run:∀(A:Around)(outer:List Env)(s:Shared)(H:Hp)(args:Args)(us:List Value)(vs:List V)(Q:VK)(E:XK),CK k A→Yd P w K mg base A outer s H→BindsTo s fd args (ps.zip us)→Vals vs us→sp vs H Q E →
  codeAny (model P w) A (.call (.ref f) args) (CR CX outer P w H s Q E) s
theorem Yd.make{P:Program}{w:World}{K:W.Frag}{mg:Str→Option Value}{base:Heap}{A:Around}{outer:List Env}{s:Shared}{H:Hp}(e:Yd P w K mg base A outer s H)(C:Addr)(us:List Value)(kw:List (Str×Value)) :
  Yd P w K mg base (A.under (.builtin "type.__call__" ⟨.ref C::us,kw⟩)) outer s H:=⟨by first|exact e.frames|(simpa [Around.under,Code.envs,Code.isFrame,pushEnvs] using e.frames),e.mod,e.bs,e.bsz,e.lM,e.frf,e.hok,e.bare⟩
section
variable{X:Cx}{pins:List (Addr×Obj)}{σ:St}{H:Hp}{s s':Shared}
theorem Inv.env0(I:Inv X pins σ H s):Yd X.prog X.w X.K X.mg X.base X.A X.stack s H :=
 ⟨I.ok.frames,I.ok.mod,I.bs,Nat.le_trans I.ok.bsz I.sz,I.stack,I.vh,I.hok,I.bare⟩
theorem Inv.after{Q:VK}{u:Value}(I:Inv X pins σ H s)(h:CE X.stack X.prog X.w H s Q u s'):EP X pins σ Q u s':=by
 obtain⟨v,H',os,bare,un,hok,r,q⟩:=h
 obtain⟨hh,g,d,t,os'⟩:=s'
 obtain rfl:os'=s.os:=os
 exact⟨v,H',I.call (h':=hh) (g':=g) (d':=d) (t':=t) (ch:=[]) un hok bare (fun b z=>absurd z (by simp)),r,q⟩
end
def Aia(sp:Sp)(dvs:List V)(E:XK)(t:TA):TE:=fun σ H Q=>t σ H fun vs H1=>sp (vs++dvs) H1 Q E
def Amq(C:Addr)(sp:Sp)(dvs:List V)(E:XK)(t:TA):TE:=fun σ H Q=>t σ H fun vs H1=>∀x dx,H1 x=none→H1 dx=none→dx≠x →
 sp (.ref x::(vs++dvs)) (upd (upd H1 dx (.own x)) x (.ins C dx [])) (fun v H2=>v=.non∧Q (.ref x) H2) E
def Binds(K:W.Frag)(fd:FuncData)(ps:List Str)(ds:List Value):Prop :=
 ∀(s:Shared)(us:List Value),K.In s.heap→(us++ds).length=ps.length→BindsTo s fd ⟨us,[]⟩ (ps.zip (us++ds))
theorem Binds.all{K:W.Frag}{fd:FuncData}{ps:List Str}(h:∀us:List Value,us.length=ps.length→bindArgs fd ⟨us,[]⟩=pure (ps.zip us)):Binds K fd ps []:=fun s us _ hl=>by
 rw[List.append_nil]at hl ⊢
 exact .of_eq (h us hl)
def Passes(CX:CXT)(X:Cx)(E:XK):Prop:=∀(pins:List (Addr×Obj))(σ:St)(H:Hp)(s:Shared)(e:Value)(s':Shared),Inv X pins σ H s→CX X.stack H s E e s'→X.xe e s'
section
variable{X:Cx}{CX:CXT}{k:Nat}{f C:Addr}{fd:FuncData}{ps:List Str}{sp:Sp}{dvs:List V}{ds:List Value}{E:XK}{x m:Str}{p pos apos:Pos}{e o:Expr}{es:List Expr}{ta:TE}{t:TA}
theorem Vi{pins:List (Addr×Obj)}{σ:St}{H:Hp}{s:Shared}{Q:VK}{us:List Value}{vs:List V}(F:Ef X.prog X.w X.K X.mg X.base CX k f fd ps sp)(hr:CK k X.A)(hb:Binds X.K fd ps ds)(hd:Vals dvs ds)(hx:Passes CX X E)
  (I:Inv X pins σ H s) (r:Vals vs us) (h:sp (vs++dvs) H Q E):wpAny (model X.prog X.w) X.A (call (.ref f) us) (EP X pins σ Q) X.xe s:=by
 have r2:Vals (vs++dvs) (us++ds):=r.append hd
 have hl:(us++ds).length=ps.length:=by rw[←r2.length];exact F.len _ _ _ _ h
 refine wpAny_call (codeAny_mono (F.run X.A X.stack s H ⟨us,[]⟩ (us++ds) (vs++dvs) Q E hr I.env0 (hb s us I.kIn hl) r2 h) fun r s' hq=>?_)
 cases r with
 |error e=>exact hx pins σ H s e s' I hq
 | ok fl =>
  cases fl with
  |ret u=>exact I.after hq
  |next=>exact False.elim hq
  |brk=>exact False.elim hq
  |cont=>exact False.elim hq
theorem Afd(F:Ef X.prog X.w X.K X.mg X.base CX k f fd ps sp)(hr:CK k X.A)(hg:Gl X x)(hm:X.mg x=some (.ref f))(hk:W.keepIn X.K (.ref f)=true)(hb:Binds X.K fd ps ds)(hd:Vals dvs ds)(hx:Passes CX X E)
  (ha:PA X (e::es) t) (hdb:(x==("__debug__":Str))=false:=by decide) (he:starEach (e::es) X.env=(false,eval e X.env)::starEach es X.env:=by rfl) (hpl:(backTo pos (starEach es X.env)).any (·.1)=false:=by rfl) :
  PE X (.Call (.Name x p) (e::es) [] pos) (Aia sp dvs E t):=by
 intro pins s σ H Q I h
 refine wpAny_Call_Name_kw (Ii I hg hm ?_ hdb)
 refine W.callWith_K (h₀:=X.base) I.ok.mod.kin hk (thn (ha pos pins s σ H _ I h) fun us s1 ⟨vs,H1,I1,r,q⟩=>⟨I1.kIn,?_⟩) he hpl
 exact Vi F hr hb hd hx I1 r q
structure Mk(K:W.Frag)(C f:Addr):Prop where
 makes:W.makesIn K C=true
 init:W.findIn K (.ref C) "__init__"=some (some (.ref f))
 fn:W.isFn K (.ref f)=true
 kp:W.keepIn K (.ref C)=true
theorem Ad9{pins:List (Addr×Obj)}{σ:St}{H:Hp}{s:Shared}{Q:VK}{us:List Value}{vs:List V}(M:Mk X.K C f)(F:Ef X.prog X.w X.K X.mg X.base CX k f fd ps sp)(hr:CK (k+1) X.A)(hb:Binds X.K fd ps ds)(hd:Vals dvs ds)
  (hx:Passes CX X E) (I:Inv X pins σ H s) (r:Vals vs us)
  (h:∀x dx,H x=none→H dx=none→dx≠x→sp (.ref x::(vs++dvs)) (upd (upd H dx (.own x)) x (.ins C dx [])) (fun v H2=>v=.non∧Q (.ref x) H2) E) :
  wpAny (model X.prog X.w) X.A (call (.ref C) us) (EP X pins σ Q) X.xe s:=by
 have hq:=h (s.heap.objs.size+1) s.heap.objs.size (I.hok.fresh (Nat.le_succ _)) (I.hok.fresh (Nat.le_refl _)) (Nat.ne_of_lt (Nat.lt_succ_self _))
 have I2:=Inv.made (C:=C) I
 have r2:Vals (V.ref (s.heap.objs.size+1)::(vs++dvs)) (Value.ref (s.heap.objs.size+1)::(us++ds)):=.cons rfl (r.append hd)
 have hl:(Value.ref (s.heap.objs.size+1)::us++ds).length=ps.length:=by
  have e:=r2.length
  rw[F.len _ _ _ _ hq]at e
  exact e.symm
 refine wpAny_call (Vv (f:=f) I.kIn M.makes M.init (beq_iff_eq.mp M.fn) (codeAny_mono (F.run _ X.stack _ _ ⟨Value.ref (s.heap.objs.size+1)::us,[]⟩ (Value.ref (s.heap.objs.size+1)::(us++ds)) _ _ E (hr.make C us [])
  (I2.env0.make C us []) (hb _ (Value.ref (s.heap.objs.size+1)::us) I2.kIn hl) r2 hq) fun r s' hq'=>?_))
 cases r with
 |error e=>exact hx pins σ _ _ e s' I2 hq'
 | ok fl =>
  cases fl with
  | ret u =>
   obtain⟨v,H',I3,rv,ev,q3⟩:=I2.after hq'
   subst ev
   exact⟨rv,⟨V.ref (s.heap.objs.size+1),H',I3,rfl,q3⟩⟩
  |next=>exact False.elim hq'
  |brk=>exact False.elim hq'
  |cont=>exact False.elim hq'
theorem AfT(M:Mk X.K C f)(F:Ef X.prog X.w X.K X.mg X.base CX k f fd ps sp)(hr:CK (k+1) X.A)(hg:Gl X x)(hm:X.mg x=some (.ref C))(hb:Binds X.K fd ps ds)(hd:Vals dvs ds)(hx:Passes CX X E)
  (ha:PA X (e::es) t) (hdb:(x==("__debug__":Str))=false:=by decide) (he:starEach (e::es) X.env=(false,eval e X.env)::starEach es X.env:=by rfl) (hpl:(backTo pos (starEach es X.env)).any (·.1)=false:=by rfl) :
  PE X (.Call (.Name x p) (e::es) [] pos) (Amq C sp dvs E t):=by
 intro pins s σ H Q I h
 refine wpAny_Call_Name_kw (Ii I hg hm ?_ hdb)
 refine W.callWith_K (h₀:=X.base) I.ok.mod.kin M.kp (thn (ha pos pins s σ H _ I h) fun us s1 ⟨vs,H1,I1,r,q⟩=>⟨I1.kIn,?_⟩) he hpl
 exact Ad9 M F hr hb hd hx I1 r q
end
section
variable{X:Cx}{CX:CXT}{k:Nat}{f C:Addr}{fd:FuncData}{ps ks:List Str}{sp:Sp}{E:XK}{x m:Str}{p pos apos kpos:Pos}{e o:Expr}{es:List Expr}{kws:List Keyword}{te ta:TE}{t tk:TA}{nm:Option Str}
variable{g:List Value→List Value→List Value}{gV:List V→List V→List V}
end
structure Aq(N P:List Str)(sc:Scope):Prop where
 kind:sc.kind=.function
 co:sc.isCoroutine=false
 gen:sc.isGenerator=false
 nd:N.Nodup
 pre:N.take P.length=P
 par:∀x∈P,sc.names.lookup x=some .local∨sc.names.lookup x=some .cell
 ab6:∀y∈sc.names,y.2≠.free
theorem S7{kindOf:Str→Option NameKind}{x:Str}:∀{binds:List (Str×Value)} {m:Str→Option Value},(∀v,(x,v)∉binds)→bindL kindOf binds m x=m x
 | [],_,_=>rfl
 | (n,v)::r,m,h=>by
  unfold bindL
  rw[S7 fun w hw=>h w (List.mem_cons_of_mem _ hw)]
  split
  ·have:x≠n:=by rintro rfl;exact h v List.mem_cons_self
   simp[this]
  ·rfl
theorem SJ{kindOf:Str→Option NameKind}{x:Str}:∀{binds:List (Str×Value)} {m:Str→Option Value},(∀v,(x,v)∉binds)→bindC kindOf binds m x=m x
 | [],_,_=>rfl
 | (n,v)::r,m,h=>by
  unfold bindC
  rw[SJ fun w hw=>h w (List.mem_cons_of_mem _ hw)]
  split
  ·rfl
  ·have:x≠n:=by rintro rfl;exact h v List.mem_cons_self
   simp[this]
theorem TJ{kindOf:Str→Option NameKind}{x:Str}{v:Value}:∀{P:List Str} {vs:List Value} {i:Nat} {m:Str→Option Value},P.Nodup→P[i]? = some x→vs[i]? = some v→kindOf x=some .local →
  bindL kindOf (P.zip vs) m x=some v
 | [],_,_,_,_,h,_,_=>by simp at h
 |_::_,[],_,_,_,_,h,_=>by simp at h
 | p::P,w::vs,0,m,nd,h1,h2,hk=>by
  simp at h1 h2;subst h1;subst h2
  show bindL kindOf ((p,w)::P.zip vs) m p=_
  unfold bindL
  rw[S7 fun v hv=>(List.nodup_cons.mp nd).1 (List.of_mem_zip hv).1,if_pos hk]
  simp
 | p::P,w::vs,i+1,m,nd,h1,h2,hk=>by
  show bindL kindOf ((p,w)::P.zip vs) m x=_
  unfold bindL
  exact TJ (i:=i) (List.nodup_cons.mp nd).2 (by simpa using h1) (by simpa using h2) hk
theorem Tt{kindOf:Str→Option NameKind}{x:Str}{v:Value}:∀{P:List Str} {vs:List Value} {i:Nat} {m:Str→Option Value},P.Nodup→P[i]? = some x→vs[i]? = some v→kindOf x≠some .local →
  bindC kindOf (P.zip vs) m x=some v
 | [],_,_,_,_,h,_,_=>by simp at h
 |_::_,[],_,_,_,_,h,_=>by simp at h
 | p::P,w::vs,0,m,nd,h1,h2,hk=>by
  simp at h1 h2;subst h1;subst h2
  show bindC kindOf ((p,w)::P.zip vs) m p=_
  unfold bindC
  rw[SJ fun v hv=>(List.nodup_cons.mp nd).1 (List.of_mem_zip hv).1,if_neg hk]
  simp
 | p::P,w::vs,i+1,m,nd,h1,h2,hk=>by
  show bindC kindOf ((p,w)::P.zip vs) m x=_
  unfold bindC
  exact Tt (i:=i) (List.nodup_cons.mp nd).2 (by simpa using h1) (by simpa using h2) hk
def start(N:List Str)(vs:List V):St:=vs.map some++List.replicate (N.length-vs.length) none
def RZ(CX:CXT)(P:Program)(w:World)(K:W.Frag)(mg:Str→Option Value)(base:Heap)(N:List Str)(qual:Str)(scope:Scope)(f:Addr)(cd:Value)(A:Around)(outer:List Env)(s:Shared)(H:Hp)(E:XK):Cx where
 prog:=P
 w:=w
 K:=K
 mg:=mg
 base:=base
 A:=A.deeper (envOfC qual scope s.heap.objs.size f cd)
 N:=N
 s₀:=s
 H₀:=H
 env:=envOfC qual scope s.heap.objs.size f cd
 outer:=outer
 stack:=envOfC qual scope s.heap.objs.size f cd::outer
 ex:=[]
 calm:=true
 fn:=fun _=>true
 pn:=[]
 xe:=fun e s'=>wpAny (model P w) (A.deeper (envOfC qual scope s.heap.objs.size f cd)) (leaving (envOfC qual scope s.heap.objs.size f cd) e) (fun _ s''=>CX outer H s E e s'') (fun e' s''=>CX outer H s E e' s'') s'
theorem V0{sc:Scope}{n:Nat}{x:Str}(h:sc.names.lookup x=some .cell):∃c,(cellsFrom n sc.names []).lookup x=some c:=by
 have q:=W.cellsFrom_some sc.names n [] (.inl h)
 exact Option.isSome_iff_exists.mp q
theorem Ab3{CX:CXT}{P:Program}{w:World}{K:W.Frag}{mg:Str→Option Value}{base:Heap}{N ps:List Str}{qual:Str}{scope:Scope}{f:Addr}{cd:Value}{A:Around}{outer:List Env}{s s1:Shared}{H:Hp}{E:XK}{us:List Value}{vs:List V}
  (S:Aq N ps scope) (hd:A.handled=none) (e0:Yd P w K mg base A outer s H) (hl:vs.length=ps.length) (r:Vals vs us)
  (x:InCallC s s.heap.objs.size (bindL (envOfC qual scope s.heap.objs.size f cd).kindOf (ps.zip us) fun _=>none) (cellsFrom (s.heap.objs.size+1) scope.names []) (bindC (envOfC qual scope s.heap.objs.size f cd).kindOf (ps.zip us) fun _=>none) s1) :
  Inv (RZ CX P w K mg base N qual scope f cd A outer s H E) [] (start N vs) H s1:=by
 have hpl:ps.length≤N.length:=by have:=congrArg List.length S.pre;rw[List.length_take]at this;omega
 obtain⟨h1,tk,rfl,hk⟩:=x.done
 have noA:∀b:Addr,b∉(RZ CX P w K mg base N qual scope f cd A outer s H E).ex:=fun b z=>absurd (show b∈([]:List Addr)from z) (by simp)
 refine⟨⟨e0.mod,S.kind,rfl,rfl,Nat.le_refl _,fun y z c h1 h2=>?_,fun y hy=>?_,fun y c _ h=>?_,fun _=>hd,Around.frames_deeper e0.frames,.inr ⟨rfl,rfl⟩,fun b z=>absurd z (noA b),e0.bs,e0.bsz,fun b _ _=>noA b,fun b z=>absurd z (noA b),e0.lM,e0.frf⟩,
  rfl,e0.bare,Un.kept hk,⟨_,x.toInCall.ns,fun i y v h1 h2 h3=>?_⟩,fun y c h=>⟨_,x.cell y c h⟩,e0.hok.fresh (Nat.le_refl _),fun y c h=>?_,fun p hp=>absurd (show p∈([]:List (Addr×Obj))from hp) (by simp),e0.hok.kept hk,?_⟩
 ·exact name_of_addr x.apart (PySem.mem_of_lookup h1) (PySem.mem_of_lookup h2)
 ·have hy:scope.names.lookup y=some .cell∨scope.names.lookup y=some .free:=hy
  rcases hy with hy|hy
  ·exact V0 hy
  ·exact absurd rfl (S.ab6 _ (PySem.mem_of_lookup hy))
 ·exact Nat.le_of_lt (x.above y c (PySem.mem_of_lookup h))
 ·have hi:i<vs.length:=by
   unfold start at h2
   by_cases hi:i<vs.length
   ·exact hi
   ·rw[List.getElem?_append_right (by simpa using hi)]at h2
    rw[List.getElem?_replicate]at h2
    split at h2<;>cases h2
  have ha:vs[i]? = some v:=by
   unfold start at h2
   rw[List.getElem?_append_left (by simpa using hi),List.getElem?_map]at h2
   cases e:vs[i]? with
   |none=>rw[e]at h2;cases h2
   |some a=>rw[e]at h2;cases h2;rfl
  obtain⟨u,hu,rv⟩:=r.get ha
  have hp:ps[i]? = some y:=by
   rw[←S.pre,List.getElem?_take_of_lt (by omega)];exact h1
  have ndP:ps.Nodup:=by rw[←S.pre];exact S.nd.sublist (List.take_sublist _ _)
  refine⟨u,rv,?_⟩
  rcases S.par y (List.mem_of_getElem? hp)with k|k
  ·exact .inl ⟨k,TJ ndP hp hu k⟩
  ·obtain⟨c,e⟩:=V0 (n:=s.heap.objs.size+1) k
   refine .inr ⟨.inl k,c,e,?_⟩
   have q:=x.cell y c e
   rw[Tt ndP hp hu (by show scope.names.lookup y≠_;rw[k];decide)]at q
   exact q
 ·exact e0.hok.fresh (Nat.le_of_lt (x.above y c (PySem.mem_of_lookup h)))
 ·unfold start
  show _=N.length
  rw[List.length_append,List.length_map,List.length_replicate]
  omega
theorem AeW{CX:CXT}{P:Program}{w:World}{K:W.Frag}{mg:Str→Option Value}{base:Heap}{k:Nat}{f:Addr}{name qual:Str}{params:Arguments}{body:List Stmt}{scope:Scope}{dV kV doc pm cdv ct oc:Value}{an od:Option Addr}
  {osl:Array (Option Value)} {N ps:List Str} {sp:Sp} (lk:K.lookup f=some ⟨oc,od,.func (W.fnOf name qual params body scope dV kV doc pm an cdv ct),osl⟩) (hcd:W.codeIn K cdv qual=true) (S:Aq N ps scope)
  (len:∀vs H Q E,sp vs H Q E→vs.length=ps.length)
  (hbody:∀(A:Around)(outer:List Env)(s:Shared)(H:Hp)(vs:List V)(Q:VK)(E:XK),CK k (A.deeper (envOfC qual scope s.heap.objs.size f cdv))→sp vs H Q E →
   ∃t,PSs (RZ CX P w K mg base N qual scope f cdv A outer s H E) body t∧t {nx:=fun _ H'=>Q .non H',rt:=Q} (start N vs) H) :
  Ef P w K mg base CX (k+1) f (W.fnOf name qual params body scope dV kV doc pm an cdv ct) ps sp:=by
 refine⟨len,fun A outer s H args us vs Q E hr e0 hb r hsp=>?_⟩
 have hl:=len _ _ _ _ hsp
 have KX:K.In s.heap:=e0.mod.kin.keeps fun b o e=>(e0.bs b o e).1
 have lim:s.heap.NoLimit:=e0.mod.nolimit.keeps fun b o e=>(e0.bs b o e).1
 have hkind:∀y∈ps.zip us,scope.names.lookup y.1=some .local∨(scope.names.lookup y.1=some .cell∧((cellsFrom (s.heap.objs.size+1) scope.names []).lookup y.1).isSome=true):=fun⟨n,v⟩ hy=>by
  rcases S.par n (List.of_mem_zip hy).1 with q|q
  ·exact .inl q
  ·exact .inr ⟨q,W.cellsFrom_some _ _ _ (.inl q)⟩
 refine codeAny_call_function hr.depth (KX _ _ lk) rfl S.co S.gen rfl (W.codeRec_of KX hcd) (hb _ _ _ _ ?_)
 refine wpAny_newFunctionEnv_cells S.kind hkind fun env he s1 x=>?_
 subst he
 refine⟨lim.keeps x.toInCall.keep,codeAny_func ?_⟩
 obtain⟨t,ht,hq⟩:=hbody A outer s H vs Q E (hr.deeper _) hsp
 have I:Inv (RZ CX P w K mg base N qual scope f cdv A outer s H E) [] (start N vs) H s1:=Ab3 S hr.hd e0 hl r x
 refine wpAny_mono (ht [] s1 (start N vs) H _ I hq) (fun fl s' hs=>?_) fun e s' hs=>hs
 have fin:∀{σ':St} {H':Hp} {v:V} {u:Value},Inv (RZ CX P w K mg base N qual scope f cdv A outer s H E) [] σ' H' s'→RelV v u→Q v H'→CE outer P w H s Q u s' :=
  fun{σ' H' v u} J rv q=>⟨v,H',J.os,J.bare,J.base,J.hok,rv,q⟩
 cases fl with
 | ret u =>
  obtain⟨v,σ',H',J,rv,q⟩:=hs
  exact fin J rv q
 | next =>
  obtain⟨σ',H',J,q⟩:=hs
  exact fin (v:=V.non) (u:=Value.none) J rfl q
 | brk =>
  obtain⟨_,_,_,q⟩:=hs
  exact False.elim q
 | cont =>
  obtain⟨_,_,_,q⟩:=hs
  exact False.elim q
end L2
namespace L2
open PySem Spec PyProof.Rows
section
variable{X:Cx}{x:Str}{p pos:Pos}{e:Expr}{es:List Expr}{t:TA}{id T:String}{r:List V→Hp→VK→Prop}
def tCB(r:List V→Hp→VK→Prop)(t:TA):TE:=fun σ H Q=>t σ H fun vs H1=>r vs H1 Q
theorem Qm(hc:Kr X (.builtin id) r)(hg:Gl X x)(hm:X.mg x=none)(hv:bootBuiltins x=some (.builtin id))(ha:PA X (e::es) t)(hn:x≠"__name__":=by decide)(hdb:(x==("__debug__":Str))=false:=by decide)
  (he:starEach (e::es) X.env=(false,eval e X.env)::starEach es X.env:=by rfl) (hpl:(backTo pos (starEach es X.env)).any (·.1)=false:=by rfl):PE X (.Call (.Name x p) (e::es) [] pos) (tCB r t):=by
 intro pins s σ H Q I h
 refine wpAny_Call_Name_kw (U4 I hg hm hv ?_ hn hdb)
 exact PyProof.Rows.callWith_builtin1 (thn (ha pos pins s σ H _ I h) fun us s1 ⟨vs,H1,I1,r1,q1⟩=>hc pins s1 σ H1 vs us Q I1 r1 q1) he hpl
end
end L2
namespace HT
open PySem PyProof.Rows
def lexLt:List Int→List Int→Bool
 | [],[]=>false
 | [],_::_=>true
 |_::_,[]=>false
 |x::xs,y::ys=>if x=y then lexLt xs ys else decide (x<y)
theorem HS(x y:Int)(xs ys:List Int):lexLt (x::xs) (y::ys)=if x=y then lexLt xs ys else decide (x<y):=rfl
theorem Jd:lexLt [] []=false:=rfl
theorem RG(y:Int)(ys:List Int):lexLt [] (y::ys)=true:=rfl
theorem Qv(x:Int)(xs:List Int):lexLt (x::xs) []=false:=rfl
theorem Adg(A:Around)(s:Shared)(a:Int)(t:Tok)(c:Int)(u:Tok):∃e,SeqAt.EqAt A s (.int a t) (.int c u) e∧(e=true↔a=c) :=
 ⟨(a==c),SeqAt.EqAt.int_int a t c u,by simp⟩
theorem AeT(A:Around)(s:Shared)(a:Int)(t:Tok)(c:Int)(u:Tok)(prog:Program)(w:World)(E:Value→Shared→Prop)(Q:Value→Shared→Prop)(h:Q (.bool (decide (a<c))) s) :
  wpAny (model prog w) A (richCompare .Lt (.int a t) (.int c u)) Q E s :=
 (PyProof.Rows.lt_int h:wpAny (model prog w) A (compareOp .Lt (.int a t) (.int c u)) Q E s)
section
open PySem.SeqAt
open PySem.AutoSeq1 (wpAny_loadPart')
open PySem.MeetsSeq PySem.MeetsSeq2 PySem.MeetsSeq3
theorem Sh(l b:Addr)(items items2:Array Value)(n n2:Nat)(dd dd2:Option Addr)(sl sl2:Array (Option Value))(ns ms:List Int)(hi:IntsAre items.toList ns)(hj:IntsAre items2.toList ms) :
  Meets (Builtin.«tuple.__lt__» ⟨[.ref l,.ref b],[]⟩)
   (fun _ R s=>s.heap.get? l=some {cls:=.type "tuple",dict:=dd,data:=.seq items n,slots:=sl}∧s.heap.get? b=some {cls:=.type "tuple",dict:=dd2,data:=.seq items2 n2,slots:=sl2} ∧
    R (.ok (.ret (.bool (lexLt ns ms)))) s) :=
 .of_wp fun prog w A R s h=>by
  obtain⟨hp,g,d,tk,os⟩:=s;obtain⟨hl,hb,h⟩:=h
  have f2:=AutoSeq1.sub_tuple_tuple
  have z1:items.size=ns.length:=by rw[←hi.length];simp
  have z2:items2.size=ms.length:=by rw[←hj.length];simp
  wp_walk using wpAny_loadPart' hl,wpAny_loadPart' hb,wpAny_forIn_list _ (fun rest b s'=>b.1=none∧s'=⟨hp,g,d,tk,os⟩∧∃(vs ws:List Value)(ns' ms':List Int),rest=vs.zip ws ∧
   IntsAre vs ns'∧IntsAre ws ms'∧ns'.length+items2.size=ms'.length+items.size∧R (.ok (.ret (.bool (lexLt ns' ms')))) ⟨hp,g,d,tk,os⟩) _
  case turn =>
   rintro⟨y,x⟩ rest b s' ⟨hb',rfl,vs,ws,ns',ms',hz,hvi,hwi,hlen,hR⟩
   cases hvi with
   |nil=>rw[List.zip_nil_left]at hz;cases hz
   | cons a t acR =>
    cases hwi with
    |nil=>rw[List.zip_nil_right]at hz;cases hz
    | cons c u acS =>
     rw[List.zip_cons_cons]at hz
     injection hz with hyx hrest
     injection hyx with hy hx
     subst hy hx
     rw[HS]at hR
     simp only[List.length_cons]at hlen
     obtain⟨e,he,hiff⟩:=Adg A.in1 ⟨hp,g,d,tk,os⟩ a t c u
     refine wpAny_bind (he prog w _ _ ?_)
     cases e with
     | true =>
      rw[if_pos (hiff.mp rfl)]at hR
      wp_walk
      exact⟨rfl,rfl,_,_,_,_,hrest,acR,acS,by omega,hR⟩
     | false =>
      rw[if_neg (fun q=>absurd (hiff.mpr q) Bool.false_ne_true)]at hR
      have hri:=AeT A.in1 ⟨hp,g,d,tk,os⟩ a t c u prog w
      wp_walk using hri
      exact⟨_,rfl,by simpa using hR⟩
  case fin =>
   rintro⟨b1,b2⟩ s' ⟨hb',rfl,vs,ws,ns',ms',hz,hvi,hwi,hlen,hR⟩
   simp only at hb'
   subst hb'
   have hv:lexLt ns' ms'=decide (items.size<items2.size):=by
    cases hvi with
    | nil =>
     cases hwi with
     | nil =>
      simp only[List.length_nil]at hlen
      rw[Jd]
      exact(decide_eq_false (by omega)).symm
     | cons c u hw =>
      simp only[List.length_nil,List.length_cons]at hlen
      rw[RG]
      exact(decide_eq_true (by omega)).symm
    | cons a t hv =>
     cases hwi with
     | nil =>
      simp only[List.length_nil,List.length_cons]at hlen
      rw[Qv]
      exact(decide_eq_false (by omega)).symm
     | cons c u hw =>
      rw[List.zip_cons_cons]at hz
      cases hz
   rw[hv]at hR
   wp_walk
   exact⟨_,rfl,by simpa [Builtin.Tuple.tupleCompareSizes] using hR⟩
  case h =>
   exact⟨rfl,rfl,items.toList,items2.toList,ns,ms,rfl,hi,hj,by omega,h⟩
end
section
variable{prog:Program}{w:World}{A:Around}{E:Value→Shared→Prop}{s:Shared}
theorem Lh{l b:Addr}{items items2:Array Value}{ns ms:List Int}{Q:Value→Shared→Prop}(hl:IsTup s.heap l items)(hb:IsTup s.heap b items2)(hi:IntsAre items.toList ns)(hj:IntsAre items2.toList ms)
  (hu:A.units<cLine) (h:Q (.bool (lexLt ns ms)) s):wpAny (model prog w) A (compareOp .Lt (.ref l) (.ref b)) Q E s:=by
 obtain⟨⟨cls,dd,data,sl⟩,ho,hc,n,hd⟩:=id hl
 obtain⟨⟨cls2,dd2,data2,sl2⟩,ho2,hc2,n2,hd2⟩:=id hb
 simp only at hc hd hc2 hd2
 subst hc hd hc2 hd2
 exact richCompare_meets_room (op:=.Lt) ⟨_,ho,rfl⟩ ⟨_,ho2,rfl⟩ PySem.F.slot_tuple_lt PySem.F.entry_tuple_lt (PySem.F.args_tuple_lt_2 _ _) (Sh l b items items2 n n2 dd dd2 sl sl2 ns ms hi hj)
  ⟨ho,ho2,show Value.bool (lexLt ns ms)≠Value.notImplemented∧Q (.bool (lexLt ns ms)) s from⟨(fun x=>nomatch x),h⟩⟩ hu
def sIx(n d:Nat):Option Int→Nat
 |none=>d
 |some v=>if v<0 then(v+(n:Int)).toNat else min v.toNat n
end
end HT
namespace L2
open PySem Spec PyProof.Rows
abbrev TO:=St→Hp→(Option Int→Hp→Prop)→Prop
def PO(X:Cx)(e:Option Expr)(t:TO):Prop :=
 ∀(pins:List (Addr×Obj))(s:Shared)(σ:St)(H:Hp)(Q:Option Int→Hp→Prop),Inv X pins σ H s→t σ H Q →
  wpAny (model X.prog X.w) X.A (evalPart e X.env) (fun u s'=>∃o H',Inv X pins σ H' s'∧IsPart u o∧Q o H') X.xe s
def Ag6:TO:=fun _ H Q=>Q none H
def Ak4(t:TE):TO:=fun σ H Q=>t σ H fun x H1=>∃i,x=.int i∧Q (some i) H1
theorem intsAre_of{ns:List Int}:∀{us:List Value},Vals (ns.map V.int) us→IntsAre us ns:=by
 induction ns with
 |nil=>intro us r;rw[List.map_nil]at r;cases r;exact .nil
 | cons n ns ih =>
  intro us r
  rw[List.map_cons]at r
  cases r with
  | cons r1 r2 =>
   obtain⟨t,e⟩:=r1
   subst e
   exact .cons n t (ih r2)
section
variable{X:Cx}{e:Expr}{te:TE}{lo hi:Option Expr}{tl th:TO}{pos p2:Pos}
theorem AfX:PO X none Ag6:=by
 intro pins s σ H Q I h
 rw[evalPart_none]
 exact wpAny_pure ⟨none,H,I,.none,h⟩
theorem AgY(h:PE X e te):PO X (some e) (Ak4 te):=by
 intro pins s σ H Q I hw
 rw[evalPart_some]
 refine thn (h pins s σ H _ I hw) fun u s1 ⟨x,H1,I1,r1,q1⟩=>?_
 obtain⟨i,rfl,q⟩:=q1
 obtain⟨t,rfl⟩:=r1
 exact⟨some i,H1,I1,.int i t,q⟩
def SlR(X:Cx)(r:V→Option Int→Option Int→Hp→VK→Prop):Prop :=
 ∀(pins:List (Addr×Obj))(s:Shared)(σ:St)(H:Hp)(x:V)(v vl vu:Value)(lo hi:Option Int)(sl:Addr)(Q:VK),Inv X pins σ H s→RelV x v→s.heap.IsSliceOf sl vl vu .none→IsPart vl lo→IsPart vu hi→r x lo hi H Q →
  ∃T id,typeLookup (.type T) "__getitem__"=pure (some (.builtin id))∧s.TypeIs v T∧wpAny (model X.prog X.w) X.A (getItem v (.ref sl)) (EP X pins σ Q) X.xe s
def tSl(r:V→Option Int→Option Int→Hp→VK→Prop)(te:TE)(tl th:TO):TE:=fun σ H Q=>te σ H fun x H1=>tl σ H1 fun l H2=>th σ H2 fun u H3=>r x l u H3 Q
theorem AcG{r:V→Option Int→Option Int→Hp→VK→Prop}(hr:SlR X r)(he:PE X e te)(hl:PO X lo tl)(hu:PO X hi th):PE X (.Subscript e (.Slice lo hi none p2) pos) (tSl r te tl th):=by
 intro pins s σ H Q I h
 refine Subscript_ (thn (he pins s σ H _ I h) fun v s1 ⟨x,H1,I1,r1,q1⟩=>?_)
 refine wpAny_Slice (thn (hl pins s1 σ H1 _ I1 q1) fun vl s2 ⟨l,H2,I2,pl,q2⟩=>thn (hu pins s2 σ H2 _ I2 q2) fun vu s3 ⟨u,H3,I3,pu,q3⟩=>?_)
 rw[evalPart_none]
 refine wpAny_pure ?_
 have I4:Inv X pins σ H3 {s3 with heap:=s3.heap.push {cls:=.type "slice",data:=.fields #[vl,vu,.none]} }:=I3.kept (t':=s3.toks) fun b ob q=>Heap.get?_push_of_some _ q
 obtain⟨T,id,hT,ht,hg⟩:=hr pins {s3 with heap:=s3.heap.push {cls:=.type "slice",data:=.fields #[vl,vu,.none]} } σ H3 x v vl vu l u s3.heap.objs.size Q I4 r1 (Heap.IsSliceOf.new ..) pl pu q3
 show wpAny (model X.prog X.w) X.A (subscriptTail e (.Slice lo hi none p2) v (.ref s3.heap.objs.size)) (EP X pins σ Q) X.xe {s3 with heap:=s3.heap.push {cls:=.type "slice",data:=.fields #[vl,vu,.none]} }
 exact tail_any (ops:=[.ref s3.heap.objs.size,v]) ht hT hg (by with_unfolding_all rfl)
def AbO(xs:List V)(lo hi:Option Int):List V:=(xs.drop (HT.sIx xs.length 0 lo)).take (HT.sIx xs.length xs.length hi-HT.sIx xs.length 0 lo)
theorem VD(xs:List V)(lo hi:Option Int):(AbO xs lo hi).length≤xs.length:=by
 unfold AbO
 rw[List.length_take,List.length_drop]
 omega
end
end L2
namespace L2
open PySem Spec PyProof.Rows
def ixN(n:Nat)(i:Int):Option Nat:=if 0≤i then(if i<n then some i.toNat else none)else if -(n:Int)≤i then some (i+n).toNat else none
def atI{α:Type}(xs:List α)(i:Int):Option α:=(ixN xs.length i).bind fun j=>xs[j]?
theorem AgB{n:Nat}{i:Int}{j:Nat}(h:ixN n i=some j):seqIndex? i n=some j∧j<n∧-(n:Int)≤i∧i<n:=by
 unfold ixN at h
 by_cases h0:0≤i
 ·rw[if_pos h0]at h
  by_cases h1:i<n
  ·rw[if_pos h1]at h
   have e:i.toNat=j:=Option.some.inj h
   exact⟨by rw[seqIndex_of h0 h1,e],by omega,by omega,h1⟩
  ·rw[if_neg h1]at h;cases h
 ·rw[if_neg h0]at h
  by_cases h1:-(n:Int)≤i
  ·rw[if_pos h1]at h
   have e:(i+n).toNat=j:=Option.some.inj h
   exact⟨by rw[seqIndex_neg (by omega) h1,e],by omega,h1,by omega⟩
  ·rw[if_neg h1]at h;cases h
theorem Ud{α:Type}{xs:List α}{i:Int}{v:α}(h:atI xs i=some v):∃j,seqIndex? i xs.length=some j∧xs[j]? = some v∧j<xs.length∧-(xs.length:Int)≤i∧i<xs.length:=by
 unfold atI at h
 cases e:ixN xs.length i with
 |none=>rw[e]at h;cases h
 | some j =>
  rw[e]at h
  obtain⟨h1,h2,h3,h4⟩:=AgB e
  exact⟨j,h1,h,h2,h3,h4⟩
theorem Ahz{α:Type}{xs:List α}{j:Nat}{v:α}(h:xs[j]? = some v):atI xs (j:Int)=some v:=by
 have hj:j<xs.length:=(List.getElem?_eq_some_iff.mp h).1
 have e:ixN xs.length (j:Int)=some j:=by
  unfold ixN
  rw[if_pos (by omega),if_pos (by omega)];simp
 unfold atI;rw[e];exact h
def Vb(b:Expr):Prop:=∀o i,subscripted b false o i=operate [o,i] (getItem o i)
def IxR(X:Cx)(r:R2):Prop :=
 ∀(value slice:Expr)(pins:List (Addr×Obj))(s:Shared)(σ:St)(H:Hp)(x y:V)(v u:Value)(Q:VK),Inv X pins σ H s→RelV x v→RelV y u→r x y H Q →
  subscripted slice false v u=operate [v,u] (getItem v u)→wpAny (model X.prog X.w) X.A (subscriptTail value slice v u) (EP X pins σ Q) X.xe s
def MtR(X:Cx)(id:String)(r:V→List V→Hp→VK→Prop):Prop :=
 ∀(pins:List (Addr×Obj))(s:Shared)(σ:St)(H:Hp)(x:V)(xs:List V)(v:Value)(us:List Value)(Q:VK),Inv X pins σ H s→RelV x v→Vals xs us→r x xs H Q →
  wpAny (model X.prog X.w) X.A (call (.builtin id) (v::us)) (EP X pins σ Q) X.xe s
section
variable{X:Cx}{a b:Expr}{ta tb:TE}{pos:Pos}
theorem IxR.or{r r':R2}(h:IxR X r)(h':IxR X r'):IxR X (fun x y H Q=>r x y H Q∨r' x y H Q):=by
 intro value slice pins s σ H x y v u Q I rx ry q hs
 rcases q with q|q
 ·exact h value slice pins s σ H x y v u Q I rx ry q hs
 ·exact h' value slice pins s σ H x y v u Q I rx ry q hs
theorem AkS{r:R2}(hr:IxR X r)(ha:PE X a ta)(hb:PE X b tb)(hs:Vb b):PE X (.Subscript a b pos) (tOp r ta tb):=by
 intro pins s σ H Q I h
 exact Subscript_ (AjY ha hb I h fun v u s2 x y H2 I2 rx ry q=>hr a b pins s2 σ H2 x y v u Q I2 rx ry q (hs _ _))
def An2(K:W.Frag):R2:=fun x y H Q=>∃p xs i v,x=.ref p∧y=.int i∧SqL K H p xs∧atI xs i=some v∧Q v H
def AlV(K:W.Frag):R2:=fun x y H Q=>∃p xs i v,x=.ref p∧y=.int i∧SqT K H p xs∧atI xs i=some v∧Q v H
def AlI:R2:=fun x y H Q=>∃z i c,x=.str z∧y=.int i∧z.length≤sizeLine∧atI z.cps.toList i=some c∧Q (.str ⟨#[c]⟩) H
theorem AgA:IxR X (An2 X.K):=by
 intro value slice pins s σ H x y v u Q I rx ry h hs
 obtain⟨p,xs,i,z,rfl,rfl,hq,he,q⟩:=h
 cases rx
 obtain⟨t,rfl⟩:=ry
 obtain⟨its,r,pl,hz⟩:=I.list hq
 obtain⟨j,h1,h2,h3,h4,h5⟩:=Ud he
 obtain⟨w,ew,rw'⟩:=r.get h2
 have hl:=r.length
 have hn:=Xp
 have fin:EP X pins σ Q w s:=⟨z,H,I,rw',q⟩
 by_cases h0:0≤i
 ·have hj:i.toNat=j:=by
   rw[seqIndex_of h0 h5]at h1
   exact Option.some.inj h1
  exact item_listR pl.isList h0 (by omega) (by rw[hj];simpa using ew) fin hs
 ·have hj:(i+(its.toArray.size:Int)).toNat=j:=by
   rw[seqIndex_neg (by omega) h4]at h1
   rw[List.size_toArray,←hl]
   exact Option.some.inj h1
  exact subscriptTail_builtinR (x:=w) pl.isList.typeIs slot_list_getitem.lookup
   (wpAny_getItem_list_neg (Q:=fun r s'=>r=w∧EP X pins σ Q r s') pl.isList (by omega) (by rw[List.size_toArray]<;>omega) (by omega) (by rw[hj];simpa using ew) ⟨rfl,fin⟩) hs
theorem AiT:IxR X (AlV X.K):=by
 intro value slice pins s σ H x y v u Q I rx ry h hs
 obtain⟨p,xs,i,z,rfl,rfl,hq,he,q⟩:=h
 cases rx
 obtain⟨t,rfl⟩:=ry
 obtain⟨its,r,pl,hz⟩:=I.tuple hq
 obtain⟨j,h1,h2,h3,h4,h5⟩:=Ud he
 obtain⟨w,ew,rw'⟩:=r.get h2
 have hl:=r.length
 have hn:=Xp
 have fin:EP X pins σ Q w s:=⟨z,H,I,rw',q⟩
 exact subscriptTail_builtinR (x:=w) pl.typeIs slot_tuple_getitem.lookup
  (getItem_tuple (j:=j) (Q:=fun r s'=>r=w∧EP X pins σ Q r s') pl (by omega) (by omega) (by rw[List.size_toArray,←hl];exact h1) (by simpa using ew) ⟨rfl,fin⟩) hs
theorem Ai2:IxR X AlI:=by
 intro value slice pins s σ H x y v u Q I rx ry h hs
 obtain⟨z,i,c,rfl,rfl,hz,he,q⟩:=h
 obtain⟨t,rfl⟩:=rx
 obtain⟨t',rfl⟩:=ry
 obtain⟨j,h1,h2,h3,h4,h5⟩:=Ud he
 have hl:z.cps.toList.length=z.length:=by simp[Str.length]
 rw[hl]at h1 h4 h5
 have hn:=Xp
 exact tail_any (typeIs_str s z t) slot_str_getitem.lookup (getItem_str (c:=c) (by
  have e1:decide (i < -(2 ^ 63:Int))=false:=decide_eq_false (by omega)
  have e2:decide (i≥2 ^ 63)=false:=decide_eq_false (by omega)
  rw[e1,e2,Bool.or_false]) (by rw[h1];simpa using h2) ⟨.str ⟨#[c]⟩,H,I.tok _,⟨_,rfl⟩,q⟩) hs
def rIx(K:W.Frag):R2:=fun x y H Q=>An2 K x y H Q∨AlV K x y H Q∨AlI x y H Q
theorem AjA:IxR X (rIx X.K):=AgA.or (AiT.or Ai2)
theorem Ul(lo hi:Option Int)(n:Nat):(sliceBounds lo hi none n).1=((HT.sIx n 0 lo:Nat):Int)∧(sliceBounds lo hi none n).2.1=((HT.sIx n n hi:Nat):Int)∧(sliceBounds lo hi none n).2.2=1:=by
 refine⟨?_,?_,rfl⟩
 ·cases lo with
  |none=>simp[sliceBounds,HT.sIx]
  | some i =>
   simp only[sliceBounds,HT.sIx,Option.getD_none,show(1:Int)>0 by decide,if_true]
   by_cases h:i<0
   ·simp only[h,if_true]<;>omega
   ·simp only[h,if_false]<;>omega
 ·cases hi with
  |none=>simp[sliceBounds,HT.sIx]
  | some i =>
   simp only[sliceBounds,HT.sIx,Option.getD_none,show(1:Int)>0 by decide,if_true]
   by_cases h:i<0
   ·simp only[h,if_true]<;>omega
   ·simp only[h,if_false]<;>omega
theorem RN(its:List Value)(lo hi:Option Int):slicePick its.toArray lo hi none=((its.drop (HT.sIx its.length 0 lo)).take (HT.sIx its.length its.length hi-HT.sIx its.length 0 lo)).toArray:=by
 obtain⟨h1,h2,h3⟩:=Ul lo hi its.toArray.size
 unfold slicePick
 rw[h1,h2,h3]
 simp only[sliceRange_one,pick_run,List.size_toArray]<;>rfl
def Aoy(K:W.Frag):V→Option Int→Option Int→Hp→VK→Prop:=fun x lo hi H Q=>∃a xs,x=.ref a∧SqL K H a xs∧∀p,H p=none→Q (.ref p) (upd H p (.lst (AbO xs lo hi)))
theorem Afl:SlR X (Aoy X.K):=by
 intro pins s σ H x v vl vu lo hi sl Q I rx hs pl pu h
 obtain⟨a,xs,rfl,hx,q⟩:=h
 cases rx
 obtain⟨its,r,ht,hz⟩:=I.list hx
 have hlen:=r.length
 refine⟨"list",_,slot_list_getitem.lookup,ht.isList.typeIs,?_⟩
 refine wpAny_getItem_list_slice ht.isList hs pl pu .none (by simp) ?_ (by rw[List.size_toArray]<;>omega)
 rw[RN,←hlen]
 refine⟨.ref s.heap.objs.size,_,I.laid (t':=s.toks) (o:=.lst (AbO xs lo hi)) (fun b ob q=>Heap.get?_push_of_some _ q) (Nat.le_refl _) ?_,rfl,q _ (I.hok.fresh (Nat.le_refl _))⟩
 exact⟨Nat.le_trans (VD xs lo hi) hz,_,0,(r.drop (HT.sIx xs.length 0 lo)).take (HT.sIx xs.length xs.length hi-HT.sIx xs.length 0 lo),Heap.get?_push_size _ rfl⟩
def tyV(K:W.Frag)(T:String)(x:V)(H:Hp):Prop:=match x with
 |.str _=>T="str"
 |.int _=>T="int"
 | .ref p=>(T="list"∧∃xs,SqL K H p xs)∨(T="tuple"∧∃o,K.lookup p=some o∧o.cls=.type "tuple"∧o.dict=none) ∨
   (T="dict"∧((∃kvs,H p=some (.dK kvs))∨∃kvs,H p=some (.dT kvs)))∨(T="set"∧∃S n,H p=some (.set S n))
 |_=>False
theorem Ada{pins:List (Addr×Obj)}{σ:St}{H:Hp}{s:Shared}{T:String}{x:V}{v:Value}(I:Inv X pins σ H s)(r:RelV x v)(ty:tyV X.K T x H) :
  s.TypeIs v T∧∀a,v=.ref a→∃ob,s.heap.get? a=some ob∧ob.dict=none:=by
 cases x with
 | str z =>
  obtain⟨t,rfl⟩:=r
  cases(show T="str" from ty)
  exact⟨typeIs_str s z t,fun _ e=>nomatch e⟩
 | int i =>
  obtain⟨t,rfl⟩:=r
  cases(show T="int" from ty)
  exact⟨typeIs_int s i t,fun _ e=>nomatch e⟩
 | ref p =>
  cases r
  rcases ty with⟨rfl,xs,hq⟩|⟨rfl,o,hk,hc,hd⟩|⟨rfl,hk⟩|⟨rfl,S,n,hk⟩
  ·obtain⟨its,_,pl,_⟩:=I.list hq
   refine⟨pl.isList.typeIs,fun a e=>?_⟩
   cases e
   obtain⟨o,n,e,c,hd,_⟩:=pl
   exact⟨o,e,hd⟩
  ·refine⟨⟨o,I.kIn p o hk,hc⟩,fun a e=>?_⟩
   cases e
   exact⟨o,I.kIn _ o hk,hd⟩
  ·have z:∃o,s.heap.get? p=some o∧o.ExactDict:=by
    rcases hk with⟨kvs,hk⟩|⟨kvs,hk⟩
    ·obtain⟨_,_,_,_,o,_,_,e,ex,_⟩:=I.hok p _ hk
     exact⟨o,e,ex⟩
    ·obtain⟨_,_,_,_,o,_,_,e,ex,_⟩:=I.hok p _ hk
     exact⟨o,e,ex⟩
   obtain⟨o,e,ex⟩:=z
   refine⟨⟨o,e,ex.1⟩,fun a e2=>?_⟩
   cases e2
   exact⟨o,e,ex.2.1⟩
  ·obtain⟨o,_,_,_,e,ex,_⟩:=I.hok p _ hk
   refine⟨⟨o,e,ex.1⟩,fun a e2=>?_⟩
   cases e2
   exact⟨o,e,ex.2.1⟩
 |_=>exact False.elim ty
def Ao4(K:W.Frag)(T:String)(r:V→List V→Hp→VK→Prop)(to:TE):TE:=fun σ H Q=>to σ H fun x H1=>tyV K T x H1∧r x [] H1 Q
def tBM(K:W.Frag)(T:String)(r:V→List V→Hp→VK→Prop)(to:TE)(t:TA):TE:=fun σ H Q=>to σ H fun x H1=>tyV K T x H1∧t σ H1 fun xs H2=>r x xs H2 Q
variable{o e:Expr}{es:List Expr}{to:TE}{t:TA}{name:Str}{apos cpos:Pos}{T id:String}{r:V→List V→Hp→VK→Prop}
theorem AjH(pa:PlainAttrs T)(slot:Slot T name id)(hty:typeOf (.builtin id)=pure (.type "method_descriptor"))(hm:MtR X id r)(ho:PE X o to)
  (hbase:attributeBase o name X.env (eval o X.env)=eval o X.env:=by rfl) (hline:(apos.endLine==cpos.line)=true:=by rfl):PE X (.Call (.Attribute o name apos) [] [] cpos) (Ao4 X.K T r to):=by
 intro pins s σ H Q I h
 refine wpAny_Call_method0_late hbase hline (thn (ho pins s σ H _ I h) fun v s1 ⟨x,H1,I1,r1,ty,q1⟩=>?_)
 obtain⟨h1,h2⟩:=Ada I1 r1 ty
 exact⟨T,id,pa,slot,hty,h1,h2,Calls.callWith_builtin rfl (PySem.evalArgs_none (hm pins s1 σ H1 x [] v [] Q I1 r1 .nil q1))⟩
theorem AcC(pa:PlainAttrs T)(slot:Slot T name id)(hty:typeOf (.builtin id)=pure (.type "method_descriptor"))(hm:MtR X id r)(ho:PE X o to)(ha:PA X (e::es) t)
  (hbase:attributeBase o name X.env (eval o X.env)=eval o X.env:=by rfl)
  (hfew:((backTo cpos (starEach (e::es) X.env)).all (fun x=>!x.1)&&(backToKw cpos (keywordEach [] X.env)).all (fun x=>x.1.isSome)
   && decide ((e::es).length+([]:List Keyword).length+(if([]:List Keyword).isEmpty then 0 else 1)<30))=true:=by rfl)
  (hline:(apos.endLine==cpos.line)=true:=by rfl) (hs:starEach (e::es) X.env=(false,eval e X.env)::starEach es X.env:=by rfl) (hplain:(backTo cpos (starEach es X.env)).any (·.1)=false:=by rfl) :
  PE X (.Call (.Attribute o name apos) (e::es) [] cpos) (tBM X.K T r to t):=by
 intro pins s σ H Q I h
 refine wpAny_Call_method_late hbase hfew hline rfl (thn (ho pins s σ H _ I h) fun v s1 ⟨x,H1,I1,r1,ty,q1⟩=>?_)
 obtain⟨h1,h2⟩:=Ada I1 r1 ty
 refine⟨T,id,pa,slot,hty,h1,h2,?_⟩
 have hA:=ha cpos pins s1 σ H1 _ I1 q1
 rw[hs]at hA ⊢
 refine Calls.callWith_builtin (by show(false||(backTo cpos (starEach es X.env)).any (·.1))=false;rw[hplain]<;>rfl) (Calls.evalArgs_plain ?_)
 exact thn hA fun us s2 ⟨vs,H2,I2,r2,q2⟩=>hm pins s2 σ H2 x vs v us Q I2 r1 r2 q2
end
end L2
namespace L2
open PySem Spec PyProof.Rows
def MtM(X:Cx)(id:String)(r:V→List V→Hp→VK→Prop):Prop :=
 ∀(pins:List (Addr×Obj))(s:Shared)(σ:St)(H:Hp)(x:V)(xs:List V)(v:Value)(us:List Value)(Q:VK),Inv X pins σ H s→RelV x v→Vals xs us→r x xs H Q →
  wpAny (model X.prog X.w) X.A (call (.builtin id) (v::us)) (EP X pins σ Q) X.xe s
theorem Vals.one:∀{x:V} {us:List Value},Vals [x] us→∃u,us=[u]∧RelV x u
 |_,_,.cons r .nil=>⟨_,rfl,r⟩
section
variable{X:Cx}{pins:List (Addr×Obj)}{σ:St}{H:Hp}{s:Shared}{l b:Addr}{xs ys zs:List V}
theorem Inv.acw{its its':List Value}{n:Nat}{f:Array Value→Array Value}{t':Nat}(I:Inv X pins σ H s)(hH:H l=some (.lst xs))
  (e:s.heap.get? l=some {cls:=.type "list",data:=.seq its.toArray n}) (hf:f its.toArray=its'.toArray) (hv:Vals ys its') (hz:ys.length≤sizeLine) :
  Inv X pins σ (upd H l (.lst ys)) {s with heap:=s.heap.update l (Obj.mapSeq f),toks:=t'}:=by
 have q:=PySem.IsL.update e f
 rw[hf]at q
 refine I.write (x:=l) (e:=l) (by rw[hH];exact trivial) (.inl rfl) (fun b' u hb hu=>(Heap.get?_update_other s.heap (Obj.mapSeq f) (Ne.symm hb)).trans hu) ⟨_,q⟩ ?_
 exact⟨hz,its',_,hv,q⟩
theorem Inv.ab7{its:List Value}{t':Nat}(I:Inv X pins σ H s)(hv:Vals ys its)(hz:ys.length≤sizeLine) :
  Inv X pins σ (upd H s.heap.objs.size (.lst ys)) {s with heap:=s.heap.push {cls:=.type "list",data:=.seq its.toArray},toks:=t'} :=
 I.laid (fun _ _ q=>Heap.get?_push_of_some _ q) (Nat.le_refl _) ⟨hz,its,0,hv,Heap.get?_push_size _ rfl⟩
theorem Inv.fresh(I:Inv X pins σ H s):H s.heap.objs.size=none:=I.hok.fresh (Nat.le_refl _)
theorem Inv.abl(I:Inv X pins σ H s)(hH:H l=some (.lst xs)):xs.length≤sizeLine∧∃(its:List Value)(n:Nat),Vals xs its∧xs.length=its.length∧s.heap.get? l=some {cls:=.type "list",data:=.seq its.toArray n}:=by
 obtain⟨z,its,n,r,e⟩:=I.hok l _ hH
 exact⟨z,its,n,r,r.length,e⟩
theorem AdX{n:Nat}(h:n≤sizeLine):Builtin.List.listTooLong n=false:=by
 unfold Builtin.List.listTooLong
 exact decide_eq_false (by omega)
end
section
variable{X:Cx}
def Agj:V→List V→Hp→VK→Prop:=fun x vs H Q=>∃l xs y,x=.ref l∧vs=[y]∧H l=some (.lst xs)∧xs.length<sizeLine∧Q .non (upd H l (.lst (xs++[y])))
theorem NK:MtM X "list.append" Agj:=by
 intro pins s σ H x vs v us Q I rx rv h
 obtain⟨l,xs,y,rfl,rfl,hH,hz,q⟩:=h
 cases rx
 obtain⟨u,rfl,ru⟩:=rv.one
 obtain⟨z,its,n,r,hl,e⟩:=I.abl hH
 refine call_meets F.slot_list_append ⟨_,e,rfl⟩ F.entry_list_append (F.args_list_append_2 _ _) (PySem.list_append l its.toArray n u (by rw[List.size_toArray];omega)) ⟨e,?_⟩
 refine⟨.non,_,I.acw (its':=its++[u]) hH e (by simp) (r.append (.cons ru .nil)) ?_,rfl,q⟩
 rw[List.length_append,List.length_singleton]
 omega
def AfN:V→List V→Hp→VK→Prop:=fun x vs H Q=>∃l b xs zs,x=.ref l∧vs=[.ref b]∧H l=some (.lst xs)∧H b=some (.lst zs)∧xs.length+zs.length≤sizeLine∧Q .non (upd H l (.lst (xs++zs)))
theorem Abl:MtM X "list.extend" AfN:=by
 intro pins s σ H x vs v us Q I rx rv h
 obtain⟨l,b,xs,zs,rfl,rfl,hH,hB,hz,q⟩:=h
 cases rx
 obtain⟨u,rfl,ru⟩:=rv.one
 cases ru
 obtain⟨z,its,n,r,hl,e⟩:=I.abl hH
 obtain⟨z2,its2,n2,r2,hl2,e2⟩:=I.abl hB
 have hsz:its.toArray.size+its2.toArray.size≤sizeLine:=by rw[List.size_toArray,List.size_toArray];omega
 have acy:¬(!its.toArray.isEmpty&&Builtin.List.listTooLong (its.toArray.size+its2.toArray.size))=true:=by
  rw[AdX hsz,Bool.and_false]
  exact Bool.false_ne_true
 refine call_meets F.slot_list_extend ⟨_,e,rfl⟩ F.entry_list_extend (F.args_list_extend_2 _ _)
  (AutoSeq1.list_extend_list_list_0 l its.toArray n b its2.toArray n2 acy (by rw[List.size_toArray];omega) (by omega)) ⟨e,e2,?_⟩
 refine⟨.non,_,I.acw (its':=its++its2) hH e (by simp) (r.append r2) ?_,rfl,q⟩
 rw[List.length_append]
 omega
def An7:R2:=fun x y H Q=>∃l b xs zs,x=.ref l∧y=.ref b∧H l=some (.lst xs)∧H b=some (.lst zs)∧xs.length+zs.length≤sizeLine∧∀p,H p=none→Q (.ref p) (upd H p (.lst (xs++zs)))
theorem Ai5:OpR X (binaryOp .Add) An7:=by
 intro pins s σ H x y v u Q I rx ry h
 obtain⟨l,b,xs,zs,rfl,rfl,hH,hB,hz,q⟩:=h
 cases rx
 cases ry
 obtain⟨z,its,n,r,hl,e⟩:=I.abl hH
 obtain⟨z2,its2,n2,r2,hl2,e2⟩:=I.abl hB
 refine PySem.P.add_list e e2 ?_ (by rw[List.size_toArray,List.size_toArray];omega)
 have ea:its.toArray++its2.toArray=(its++its2).toArray:=by simp
 rw[ea]
 exact⟨.ref _,_,I.ab7 (t':=s.toks) (r.append r2) (by rw[List.length_append];omega),rfl,q _ I.fresh⟩
end
section
variable{prog:Program}{w:World}{A:Around}{E:Value→Shared→Prop}{s:Shared}
set_option maxRecDepth 100000 in
end
section
variable{X:Cx}
end
end L2
namespace Att
open PySem W Calls PyProof.Rows
theorem O3{P:Params}{h:Heap}:∀(ns:List Int)(vs:List Value),WellAll P h vs (ns.map WData.int)→IntsAre vs ns:=by
 intro ns
 induction ns with
 | nil =>
  intro vs w
  rw[List.map_nil]at w
  cases w
  exact .nil
 | cons n ns ih =>
  intro vs w
  rw[List.map_cons]at w
  cases w with
  | cons a b =>
   cases a
   exact .cons _ _ (ih _ b)
theorem Ab8{l:OpenLaw}{n:Nat}(hn:l.most=some n){P:Params}{h:Heap}{args:List WData}{vals:List Value}
  (hpre:l.row.toRowW.claim.pre args=true) (hwl:WellAll P h vals args) :
  ∃a vs ns,vals=[Value.ref a]∧args=[WData.list (ns.map WData.int)]∧h.get? a=some {cls:=.type "list",data:=.seq vs.toArray}∧IntsAre vs ns∧ns.length≤n:=by
 have hsh:WShape.hasAll [] args [.list .int]=true:=(pre_splitW hpre).1
 have hc:l.pre.holds [] {args:=args}=true:=(pre_splitW hpre).2
 obtain⟨d,r,rfl,h1,h2⟩:=hasAllW_cons hsh
 obtain rfl:=hasAllW_nil h2
 obtain⟨xs,rfl,h3⟩:=hasW_list h1
 obtain⟨ns,rfl⟩:=items_int h3
 have hlen:ns.length≤n:=by
  unfold OpenLaw.pre at hc
  have h4:(WTm.not (.lt (.lit (.int (n:Int))) (.len (.arg 0)))).holds [] {args:=[.list (ns.map .int)]}=true:=by
   have h4:=(holds_andW hc).1
   rw[hn]at h4
   exact h4
  have h5:=condW_of h4 (w_not (w_lt w_lit (w_len_list (w_arg rfl))))
  rw[List.length_map]at h5
  refine Nat.le_of_not_lt fun q=>?_
  have q':(n:Int)<((ns.length:Nat):Int):=by omega
  first
   |(rw[decide_eq_true q']at h5;exact absurd h5 (by decide))
   |(simp at h5;omega)
 cases hwl with
 | cons w1 w2 =>
  cases w2
  cases w1 with
  |list ho hall=>exact⟨_,_,ns,rfl,rfl,ho,O3 ns _ hall,hlen⟩
theorem Abf(l:OpenLaw)(args:List WData):l.row.toRowW.claim.post args (.bool true) args=true :=
 postW_of (r:=l.row.toRowW) (X:=(true==true))
  (show WShape.has [] (.bool true) .bool=true by first|rfl|decide|simp[WShape.has,WShape.arms,WShape.armsAll])
  (show(WTm.eq .res (.lit (.bool true))).value [] {args:=args,res:=some (.bool true),after:=args}=some (.bool (true==true))from w_eq_bool (w_res rfl) w_lit) rfl
theorem V8{l:OpenLaw}{n:Nat}{q:Program}{loose:List Str}{XP:(Str→Option Value)→Heap→Prop}{YP:World→Heap→Prop}{d:DefRec}
  (hn:l.most=some n) (hdf:d.params.defaults=[])
  (call:∀(w:World)(s₀ s₁:Shared)(mg mb:Str→Option Value)(fa:Addr)(o:Obj)(pm cd doc:Value)(a:Addr)(vs:List Value)(ns:List Int),
   Ground q loose [] XP w s₀ mg mb s₁.heap→YP w s₁.heap →
   s₁.heap.get? fa=some o→o.data=.func (docDef d.name d.params d.body d.scope pm cd doc)→s₁.heap.CodeRec cd d.name→mg d.name=some (.ref fa) →
   s₁.heap.get? a=some {cls:=.type "list",data:=.seq vs.toArray}→IntsAre vs ns→ns.length≤n→s₁.gens=#[] →
   codeAny (model l.prog w) callerA (.call (.ref fa) ⟨[.ref a],[]⟩) (fun r s'=>r=.ok (.ret (.bool true))∧OldK s₁.heap s'.heap∧s'.os=s₁.os∧AllBare s'.gens) s₁) :
  WalkO q loose XP YP l.row.toRowW d [] (fun f vs=>PySem.call f vs):=by
 intro w s₀ s₁ mg mb G Y fa o pm cd doc dV kV ho hd hcd hD hmg hg args vals as hpre hlay hrd hwl hlo
 obtain rfl:dV=.none:=Dflts.none hD hdf
 obtain rfl:kV=.none:=Dflts.noKw hD
 obtain⟨a,vs,ns,rfl,rfl,hobj,hints,hlen⟩:=Ab8 hn hpre hwl
 refine enter_call (codeAny_mono (call w s₀ s₁ mg mb fa o pm cd doc a vs ns G Y ho (fd_plain hd) hcd hmg hobj hints hlen hg) fun r s' hq=>?_)
 obtain⟨rfl,h2,h3,h4⟩:=hq
 exact⟨.inl ⟨.bool true,.bool true,[],rfl,fun _=>rfl,.bool true,Abf l _,fun _=>⟨List.Pairwise.nil,fun _ hm=>(nomatch hm)⟩⟩,h2,h3,h4⟩
section
variable{prog:Program}{w:World}{A:Around}{E:Value→Shared→Prop}{s:Shared}{K:Frag}
def ledger(h:Heap)(L d:Addr):List (Addr×Obj):=(List.range h.objs.size).filterMap fun a=>if a=L∨a=d then none else(h.get? a).map fun o=>(a,o)
end
end Att
namespace L2
open PySem Spec PyProof.Rows
theorem Sy:∀{vs:List Value} {ns:List Int},IntsAre vs ns→Vals (ns.map V.int) vs
 |_,_,.nil=>.nil
 |_,_,.cons n t h=>.cons ⟨t,rfl⟩ (Sy h)
def Only(H:Hp):Prop:=∀b,H b=none∨∃o xs,H b=some (.frz o (.lst xs))
theorem Acd{P:Program}{w:World}{K:W.Frag}{mg mb:Str→Option Value}{CX:CXT}{k:Nat}{fa a:Addr}{fd:FuncData}{x:Str}{sp:Sp}{s₁:Shared}{vs:List Value}{ns:List Int}
  (KX:K.In s₁.heap) (hns:s₁.heap.Ns mainGlobals mg) (hb:s₁.heap.Ns builtinsNs mb) (hbb:∀x:Str,x≠"__name__"→mb x=bootBuiltins x) (hlim:s₁.heap.NoLimit) (hg:s₁.gens=#[])
  (ha:s₁.heap.get? a=some {cls:=.type "list",data:=.seq vs.toArray}) (hi:IntsAre vs ns) (hl:ns.length≤sizeLine) (hr:CK k callerA)
  (F:∀base:Heap,K.In base→base.Ns mainGlobals mg→Ef P w K mg base CX k fa fd [x] sp) (hbind:∀(s:Shared)(u:Value),BindsTo s fd ⟨[u],[]⟩ [(x,u)])
  (hsp:∀H:Hp,Only H→SqL K H a (ns.map V.int)→sp [.ref a] H (fun v _=>v=.bl true) fun _ _ _=>False)
  (hCX:∀H e s',CX [] H s₁ (fun _ _ _=>False) e s'→False) :
  codeAny (model P w) callerA (.call (.ref fa) ⟨[.ref a],[]⟩) (fun r s'=>r=.ok (.ret (.bool true))∧OldK s₁.heap s'.heap∧s'.os=s₁.os∧AllBare s'.gens) s₁:=by
 have rv:=Sy hi
 have lenV:=hi.length
 have core:∀H:Hp,Only H→SqL K H a (ns.map V.int)→HOk P w H s₁.heap→(∀b,H b≠none→b=a)→(H a≠none→K.lookup a=none) →
   codeAny (model P w) callerA (.call (.ref fa) ⟨[.ref a],[]⟩) (fun r s'=>r=.ok (.ret (.bool true))∧OldK s₁.heap s'.heap∧s'.os=s₁.os∧AllBare s'.gens) s₁:=by
  intro H hO hS hok hA hK
  have aax:∀{b:Addr} {o:Obj},s₁.heap.get? b=some o→H b=none→(T7 s₁.heap H).get? b=some o:=fun e n=>Adu e n
  have noA:∀{b:Addr} {o:Obj} {es:Array DictEntry} {ep:Nat},s₁.heap.get? b=some o→o.data=.dict es ep→H b=none:=fun{b o es ep} e d=>by
   cases q:H b with
   |none=>rfl
   | some u =>
    have e':b=a:=hA b (by rw[q];simp)
    subst e'
    rw[ha]at e;cases e
    have d':Data.seq vs.toArray _=Data.dict es ep:=d
    cases d'
  have nsK:∀{b:Addr} {m:Str→Option Value},s₁.heap.Ns b m→(T7 s₁.heap H).Ns b m:=fun{b m} ⟨o,es,ep,e,d,r⟩=>⟨o,es,ep,aax e (noA e d),d,r⟩
  have hKb:K.In (T7 s₁.heap H):=fun b o e=>aax (KX b o e) (by
   cases q:H b with
   |none=>rfl
   | some u =>
    have e':b=a:=hA b (by rw[q];simp)
    subst e'
    rw[hK (by rw[q];simp)]at e;cases e)
  have hM:Mod K mg (T7 s₁.heap H):=⟨hKb,nsK hns,⟨mb,nsK hb,hbb⟩,let ⟨mc,h1,h2⟩:=hlim;⟨mc,nsK h1,h2⟩⟩
  have e0:Yd P w K mg (T7 s₁.heap H) callerA [] s₁ H:=⟨rfl,hM,fun b o e=>Afq e,Nat.le_of_eq (Abk _ _),trivial,fun b hb=>absurd (show b∈([]:List Addr)from hb) (by simp),hok,.of_eq hg⟩
  refine codeAny_mono ((F _ hKb (nsK hns)).run callerA [] s₁ H ⟨[.ref a],[]⟩ [.ref a] [.ref a] _ _ hr e0 (hbind s₁ (.ref a)) (.cons rfl .nil) (hsp H hO hS)) fun r s' h=>?_
  cases r with
  |error e=>exact(hCX H e s' h).elim
  | ok fl =>
   cases fl with
   |next=>exact False.elim h
   |brk=>exact False.elim h
   |cont=>exact False.elim h
   | ret u =>
    obtain⟨v,H',os,bare,un,hok',r',q⟩:=h
    have q':v=.bl true:=q
    subst q'
    obtain rfl:u=Value.bool true:=r'
    refine⟨rfl,OldK.of_keep fun b o e=>?_,os,bare⟩
    cases q:H b with
    |none=>exact un.keep b o e q (by intro z;exact absurd (show b∈([]:List Addr)from z) (by simp)) (by simp)
    | some u =>
     rcases hO b with z|⟨ob,xs,z⟩
     ·rw[q]at z;cases z
     ·have z2:=un.lK b ob _ z
      obtain⟨e1,_⟩:=hok b _ z
      obtain⟨e2,_⟩:=hok' b _ z2
      rw[e]at e1;cases e1
      exact e2
 cases hk:K.lookup a with
 | some o =>
  have e:=KX a o hk
  rw[ha]at e
  cases e
  refine core (fun _=>none) (fun _=>.inl rfl) (.inr ⟨_,vs.toArray,_,hk,rfl,rfl,rfl,by rw[List.size_toArray,lenV];exact hl,by simpa using rv⟩) (fun b u z=>by have z':(none:Option HO)=some u:=z;cases z') (fun b z=>absurd rfl z) fun z=>absurd rfl z
 | none =>
  refine core (fun b=>if b=a then some (.frz {cls:=.type "list",data:=.seq vs.toArray} (.lst (ns.map V.int)))else none) (fun b=>?_) (.inl (.inr ⟨{cls:=.type "list",data:=.seq vs.toArray},if_pos rfl⟩)) (fun b u z=>?_) (fun b z=>?_) fun _=>hk
  ·by_cases hb:b=a
   ·exact .inr ⟨_,_,if_pos hb⟩
   ·exact .inl (if_neg hb)
  ·by_cases hb:b=a
   ·have z':=(if_pos hb).symm.trans z
    cases z'
    subst hb
    exact⟨ha,by rw[List.length_map];exact hl,vs,_,rv,ha⟩
   ·have z':=(if_neg hb).symm.trans z
    cases z'
  ·by_cases hb:b=a
   ·exact hb
   ·exact absurd (if_neg hb) z
end L2
namespace L2
open PySem Spec PyProof.Rows
abbrev KOf{K:W.Frag}{h:Heap}(_:K.In h):W.Frag:=K
theorem Afp{l:W.OpenLaw}{n k:Nat}{q:Program}{loose:List Str}{XP:(Str→Option Value)→Heap→Prop}{YP:World→Heap→Prop}{d:DefRec}{K:Params→W.Frag}{CX:World→CXT}{sp:World→Sp}{x:Str}
  (hn:l.most=some n) (hn2:n≤sizeLine) (hdf:d.params.defaults=[]) (hr:CK k callerA)
  (hY:∀(w:World)(h:Heap),YP w h→(K w.params).In h)
  (F:∀(w:World)(mg:Str→Option Value)(fa:Addr)(h:Heap),(K w.params).In h→h.Ns mainGlobals mg→mg d.name=some (.ref fa) →
   ∃fd:FuncData,(∀(s:Shared)(u:Value),BindsTo s fd ⟨[u],[]⟩ [(x,u)]) ∧
    ∀base:Heap,(K w.params).In base→base.Ns mainGlobals mg→Ef l.prog w (K w.params) mg base (CX w) k fa fd [x] (sp w))
  (hsp:∀(w:World)(H:Hp)(a:Addr)(ns:List Int),ns.length≤n→Only H→SqL (K w.params) H a (ns.map V.int)→sp w [.ref a] H (fun v _=>v=.bl true) fun _ _ _=>False)
  (hCX:∀(w:World)(H:Hp)(s:Shared)(e:Value)(s':Shared),CX w [] H s (fun _ _ _=>False) e s'→False) :
  W.WalkO q loose XP YP l.row.toRowW d [] (fun f vs=>PySem.call f vs):=by
 refine Att.V8 hn hdf fun w s₀ s₁ mg mb fa o pm cd doc a vs ns G Y ho hd hcd hmg hobj hints hlen hg=>?_
 have KX:=hY w _ Y
 obtain⟨fd,hb,hF⟩:=F w mg fa _ KX G.T.g hmg
 exact Acd KX G.T.g G.T.b G.T.builtins G.T.nolimit hg hobj hints (Nat.le_trans hlen hn2) hr hF hb (fun H hO hS=>hsp w H a ns hlen hO hS) fun H e s'=>hCX w H s₁ e s'
end L2
namespace L2
open PySem Spec PyProof.Rows
def inClass(s:Stmt)(j:Nat):Stmt:=match s with
 |.ClassDef _ _ _ body _ _ _ _ _ _ _=>body.getD j (.Pass ⟨0,0,0,0⟩)
 |_=>.Pass ⟨0,0,0,0⟩
def Df(s:Stmt):Arguments:=match s with
 |.FunctionDef _ a _ _ _ _ _ _ _ _=>a
 |_=>{posonlyargs:=[],args:=[],vararg:=none,kwonlyargs:=[],kw_defaults:=[],kwarg:=none,defaults:=[]}
def Cj(s:Stmt):List Stmt:=match s with
 |.FunctionDef _ _ b _ _ _ _ _ _ _=>b
 |_=>[]
def Af(s:Stmt):Scope:=match s with
 |.FunctionDef _ _ _ _ _ _ sc _ _ _=>sc
 |_=>{kind:=.function,names:=[],isGenerator:=false,isCoroutine:=false}
abbrev CX0:CXT:=fun _ _ _ _ _ _=>False
abbrev E0:XK:=fun _ _ _=>False
theorem WY{X:Cx}:Passes CX0 X E0:=fun _ _ _ _ _ _ _ h=>h.elim
structure Fun(K:W.Frag)(x qual:Str)(st:Stmt)(f:Addr)(fd:FuncData):Prop where
 ex:∃(oc:Value)(od:Option Addr)(kV doc pm:Value)(an:Option Addr)(cdv ct:Value)(osl:Array (Option Value)),
  fd=W.fnOf x qual (Df st) (Cj st) (Af st) .none kV doc pm an cdv ct∧K.lookup f=some ⟨oc,od,.func fd,osl⟩∧W.codeIn K cdv qual=true
 kp:W.keepIn K (.ref f)=true
section
variable{P:Program}{w:World}{K:W.Frag}{mg:Str→Option Value}{base:Heap}
theorem Fun.ok{x qual:Str}{st:Stmt}{f:Addr}{fd:FuncData}{N ps:List Str}{k:Nat}{sp:Sp}(F:Fun K x qual st f fd)(S:Aq N ps (Af st))(len:∀vs H Q E,sp vs H Q E→vs.length=ps.length)
  (hbody:∀(cdv:Value)(A:Around)(outer:List Env)(s:Shared)(H:Hp)(vs:List V)(Q:VK)(E:XK),CK k (A.deeper (envOfC qual (Af st) s.heap.objs.size f cdv))→sp vs H Q E →
   ∃t,PSs (RZ CX0 P w K mg base N qual (Af st) f cdv A outer s H E).nox (Cj st) t∧t {nx:=fun _ H'=>Q .non H',rt:=Q} (start N vs) H):Ef P w K mg base CX0 (k+1) f fd ps sp:=by
 obtain⟨oc,od,kV,doc,pm,an,cdv,ct,osl,rfl,lk,hcd⟩:=F.ex
 refine AeW lk hcd S len fun A outer s H vs Q E hr hsp=>?_
 obtain⟨t,h,q⟩:=hbody cdv A outer s H vs Q E hr hsp
 exact⟨t,h.nox,q⟩
theorem Fun.binds{x qual:Str}{st:Stmt}{f:Addr}{fd:FuncData}{ps:List Str}(F:Fun K x qual st f fd)
  (h:∀(kV doc pm:Value)(an:Option Addr)(cdv ct:Value)(us:List Value),us.length=ps.length→bindArgs (W.fnOf x qual (Df st) (Cj st) (Af st) .none kV doc pm an cdv ct) ⟨us,[]⟩=pure (ps.zip us)):Binds K fd ps []:=by
 obtain⟨oc,od,kV,doc,pm,an,cdv,ct,osl,rfl,lk,hcd⟩:=F.ex
 exact .all (h kV doc pm an cdv ct)
theorem Jz{x qual:Str}{st:Stmt}{f:Addr}{oc:Value}{od an:Option Addr}{osl:Array (Option Value)}{kV doc pm cdv ct:Value}(l:K.lookup f=some ⟨oc,od,.func (W.fnOf x qual (Df st) (Cj st) (Af st) .none kV doc pm an cdv ct),osl⟩)
  (c:W.codeIn K cdv qual=true) (k:W.keepIn K (.ref f)=true):Fun K x qual st f (W.fnOf x qual (Df st) (Cj st) (Af st) .none kV doc pm an cdv ct):=⟨⟨oc,od,kV,doc,pm,an,cdv,ct,osl,rfl,l,c⟩,k⟩
end
theorem Oa{n:Nat}(h:n≤1000):n<sizeLine:=Nat.lt_of_le_of_lt h (by decide)
section
variable{X:Cx}
theorem pv(i:Nat){x:Str}{pos:Pos}(hN:X.N[i]? = some x:=by rfl)(hv:Vis X.env.scope x:=by first | exact Or.inl rfl | exact Or.inr (Or.inl rfl) | exact Or.inr (Or.inr rfl))(hd:(x==("__debug__":Str))=false:=by decide)
  (hcd:(x==("__classdict__":Str))=false:=by decide):PE X (.Name x pos) (Amo i):=JB hN hv hd hcd
end
theorem Ie{c A B:Prop}[Decidable c](h1:c→A)(h2:¬c→B):if c then A else B:=by
 by_cases h:c
 ·rw[if_pos h]
  exact h1 h
 ·rw[if_neg h]
  exact h2 h
def Same(H H':Hp):Prop:=∀b o,H b=some o→H' b=some o
theorem Same.refl(H:Hp):Same H H:=fun _ _ h=>h
theorem Same.trans{H H1 H2:Hp}(a:Same H H1)(b:Same H1 H2):Same H H2:=fun c o h=>b c o (a c o h)
theorem Same.seq{K:W.Frag}{H H':Hp}{a:Addr}{xs:List V}(e:Same H H')(h:SqL K H a xs):SqL K H' a xs:=by
 rcases h with(h|⟨o,h⟩)|h
 ·exact .inl (.inl (e _ _ h))
 ·exact .inl (.inr ⟨o,e _ _ h⟩)
 ·exact .inr h
end L2
namespace L2
open PySem Spec PyProof.Rows
def tbO(T:Addr)(h:Heap):Prop:=∃o ts,h.get? T=some o∧o.data=.fields ts∧ts[3]? = some .none
def exO(a C dx:Addr)(h:Heap):Prop:=∃o vs,h.get? a=some o∧o.cls=.ref C∧o.dict=(if dx=a then none else some dx)∧o.data=.fields vs
theorem Qy{T:Addr}(h1 h2:Heap)(x:tbO T h1)(k:∀o,h1.get? T=some o→h2.get? T=some o):tbO T h2 :=
 let ⟨o,ts,e,r⟩:=x;⟨o,ts,k o e,r⟩
theorem WQ{a C dx:Addr}(h1 h2:Heap)(x:exO a C dx h1)(k:∀o,h1.get? a=some o→h2.get? a=some o):exO a C dx h2 :=
 let ⟨o,vs,e,r⟩:=x;⟨o,vs,k o e,r⟩
def Ip(h:Heap)(H:Hp)(a:Addr):Prop:=∃o vs,h.get? a=some o∧o.data=.fields vs∧(vs[1]? = some .none∨∃T,vs[1]? = some (.ref T)∧T≠a∧H T=some (.ext (tbO T)))
section
variable{M:Model}{A:Around}{E:Value→Shared→Prop}{s:Shared}{base:Heap}{env:Env}{outer:List Env}{L e:Addr}
structure Zw(fs:List Addr)(e:Addr)(old:Option Addr)(oe:Obj)(h h':Heap):Prop where
 keep:∀b o,b∉fs→b≠e→old≠some b→h.get? b=some o→h'.get? b=some o
 slot:∀b o,b≠e→old≠some b→h.get? b=some o→∃sl,h'.get? b=some {o with slots:=sl}
 exc:∃vs T,h'.get? e=some {oe with data:=.fields vs}∧vs[1]? = some (.ref T)∧T≠e∧h.objs.size≤T∧tbO T h'
 old:∀b,old=some b→tbO b h'
theorem AaN{oe:Obj}{vs:Array Value}{head:Value}{hadNext:Bool}{Q:Unit→Shared→Prop}(fr:A.frames=some (env::outer))(ff:s.heap.FunFrames base (env::outer))(ef:env.frame=some L)
  (qC:s.heap.get? e=some oe) (od:oe.data=.fields vs) (z:1<vs.size)
  (q:∀h',Zw (frs (env::outer)) e none oe s.heap h'→Q () {s with heap:=h'}) :
  wpAny M A (frameOf env >>= fun a=>entryPlaceOf L hadNext >>= fun pl=>EntryCells.newEntry head a .none (rawInt L) .none pl >>= fun b=>setField (.ref e) 1 b)
   (fun _ s'=>wpAny M A (setFlight (.ref e) none) Q E s') E s:=by
 have ne:e∉frs (env::outer):=fun hm=>by
  obtain⟨_,o,ho,hnf⟩:=ff.mem hm
  rw[qC]at ho;cases ho;exact hnf vs od
 refine wpAny_bind (wpAny_frameOf_fun fr ff ef fun h₁ sl₁=>wpAny_bind (wpAny_entryPlaceOf fun pl hpl=>?_))
 unfold EntryCells.newEntry newFields
 refine wpAny_bind (wpAny_newObj_type ?_ (hpl.sizeOk5 _ _ _ _ _))
 generalize hob:({cls:=.type "traceback",dict:=none,data:=.fields ([head,.ref L,.none,rawInt L,.none]++(if pl.isEmpty then List.replicate 6 Value.none else pl)).toArray}:Obj)=ob
 have obd:∃ts:Array Value,ob.data=.fields ts∧3<ts.size:=⟨_,by rw[←hob],by simp only[List.size_toArray,List.length_append,List.length_cons,List.length_nil];omega⟩
 obtain⟨ts,obd,tz⟩:=obd
 have e₁:h₁.get? e=some oe:=(sl₁.2.1 e ne).trans qC
 have e₂:(h₁.push ob).get? e=some oe:=Heap.get?_push_of_some ob e₁
 refine wpAny_setField e₂ od z ?_
 have Te:h₁.objs.size≠e:=Nat.ne_of_gt (Heap.lt_size e₁)
 have d₃:=Obj.data_mapFields od (·.setIfInBounds 1 (Value.ref h₁.objs.size))
 have e₃:=Heap.get?_update_self (Obj.mapFields (·.setIfInBounds 1 (Value.ref h₁.objs.size))) e₂ (Obj.isFreed_of_fields d₃)
 have t₂:(h₁.push ob).get? h₁.objs.size=some ob:=Heap.get?_push_size h₁ (Obj.isFreed_of_fields obd)
 have t₃:=(Heap.get?_update_other (h₁.push ob) (Obj.mapFields (·.setIfInBounds 1 (Value.ref h₁.objs.size))) (Ne.symm Te)).trans t₂
 unfold setFlight
 refine wpAny_bind (wpAny_field e₃ d₃ (x:=.ref h₁.objs.size) (by simp[z]) ?_)
 rw[if_pos (by simp)]
 refine wpAny_setField t₃ obd tz (q _ ?_)
 have kk:∀b o,b≠e→h₁.get? b=some o→(((h₁.push ob).update e (Obj.mapFields (·.setIfInBounds 1 (Value.ref h₁.objs.size)))).update h₁.objs.size (Obj.mapFields (·.setIfInBounds 3 ((none:Option Addr).elim Value.none fun f=>rawInt f)))).get? b=some o:=by
  intro b o nb hb
  rw[Heap.get?_update_other _ _ (Nat.ne_of_gt (Heap.lt_size hb)),Heap.get?_update_other _ _ (Ne.symm nb)]
  exact Heap.get?_push_of_some ob hb
 refine⟨fun b o nf nb _ hb=>kk b o nb ((sl₁.2.1 b nf).trans hb),fun b o nb _ hb=>?_,⟨vs.setIfInBounds 1 (Value.ref h₁.objs.size),h₁.objs.size,?_,by simp[z],Te,by rw[sl₁.1];exact Nat.le_refl _,?_⟩,fun b z=>by cases z⟩
 ·obtain⟨sl,hs⟩:=sl₁.2.2 b o hb
  exact⟨sl,kk b _ nb hs⟩
 ·rw[Heap.get?_update_other _ _ Te,e₃]
  obtain⟨c,d,dt,sl⟩:=oe
  cases od
  rfl
 ·exact⟨_,_,Heap.get?_update_self _ t₃ (Obj.isFreed_of_fields (Obj.data_mapFields obd _)),Obj.data_mapFields obd _,by simp[tz]⟩
theorem fly{oe:Obj}{vs:Array Value}{old:Option Addr}{Q:Unit→Shared→Prop}(fr:A.frames=some (env::outer))(ff:s.heap.FunFrames base (env::outer))(ef:env.frame=some L)
  (qC:s.heap.get? e=some oe) (od:oe.data=.fields vs) (ht:vs[1]? = some (old.elim .none .ref)) (ho:∀T,old=some T→T≠e∧tbO T s.heap)
  (q:∀h',Zw (frs (env::outer)) e old oe s.heap h'→Q () {s with heap:=h'}) :
  wpAny M A (noteFrame (.ref e) env) (fun _ s'=>wpAny M A (setFlight (.ref e) none) Q E s') E s:=by
 have z:1<vs.size:=(Array.getElem?_eq_some_iff.mp ht).1
 unfold noteFrame
 simp only[ef]
 refine wpAny_bind (wpAny_field qC od ht ?_)
 cases old with
 | none =>
  rw[if_neg (by simp)]
  exact AaN fr ff ef qC od z q
 | some T =>
  obtain⟨Te,oT,ts,hT,dT,h3⟩:=ho T rfl
  rw[if_pos (by simp)]
  refine wpAny_bind (wpAny_field hT dT h3 ?_)
  rw[if_neg (by simp[rawInt])]
  have tz:3<ts.size:=(Array.getElem?_eq_some_iff.mp h3).1
  refine wpAny_bind (wpAny_setField hT dT tz ?_)
  have oth:∀b,b≠T→(s.heap.update T (Obj.mapFields (·.setIfInBounds 3 Value.none))).get? b=s.heap.get? b:=fun b hb=>Heap.get?_update_other _ _ (Ne.symm hb)
  have dT':=Obj.data_mapFields dT (·.setIfInBounds 3 Value.none)
  have hT':=Heap.get?_update_self (Obj.mapFields (·.setIfInBounds 3 Value.none)) hT (Obj.isFreed_of_fields dT')
  have nT:T∉frs (env::outer):=fun hm=>by
   obtain⟨_,o,ho,hnf⟩:=ff.mem hm
   rw[hT]at ho;cases ho;exact hnf ts dT
  refine AaN (s:={s with heap:=s.heap.update T (Obj.mapFields (·.setIfInBounds 3 Value.none))}) fr (ff.of_keeps fun b o hb hnf=>⟨o,(oth b fun w=>by subst w;rw[hT]at hb;cases hb;exact hnf ts dT).trans hb,rfl⟩) ef ((oth e (Ne.symm Te)).trans qC) od z fun h' F=>q h' ?_
  obtain⟨vs',T',x1,x2,x3,x4,x5⟩:=F.exc
  refine⟨fun b o nf nb no hb=>F.keep b o nf nb (by simp) ((oth b fun w=>no (by rw[w])).trans hb),fun b o nb no hb=>F.slot b o nb (by simp) ((oth b fun w=>no (by rw[w])).trans hb),⟨vs',T',x1,x2,x3,?_,x5⟩,fun b w=>?_⟩
  ·simpa [Heap.size_update] using x4
  ·cases w
   exact⟨_,_,F.keep T _ nT Te (by simp) hT',dT',by simp[tz]⟩
end
section
variable{P:Program}{w:World}{H:Hp}{h h':Heap}{fs:List Addr}{e:Addr}{oe:Obj}{vs:Array Value}{old:Option Addr}{φ:Heap→Prop}
theorem Zw.held(F:Zw fs e old oe h h')(qC:h.get? e=some oe)(hok:HOk P w H h)(ff:∀b∈fs,H b=none)(He:H e=some (.ext φ))(hφ:∀h1 h2:Heap,(∀o vs,h1.get? e=some o→h2.get? e=some {o with data:=.fields vs}→φ h1→φ h2))
  (ho:∀T,old=some T→H T=some (.ext (tbO T))) :
  ∃H',Same H H'∧Un fs [] H H' h h'∧HOk P w H' h'∧Ip h' H' e:=by
 obtain⟨vs',T,x1,x2,x3,x4,x5⟩:=F.exc
 have nT:H T=none:=hok.fresh x4
 have eT:∀b,old=some b→b≠T:=fun b w z=>by
  have:=ho b w
  rw[z,nT]at this;cases this
 have hs:Same H (upd H T (.ext (tbO T))):=fun b o q=>by rw[Ak (Bb q nT)];exact q
 have tr:∀b o,H b=none→h.get? b=some o→b≠e∧old≠some b:=fun b o n q=>⟨fun z=>(by rw[z,He]at n;cases n),fun z=>(by rw[ho b z]at n;cases n)⟩
 refine⟨upd H T (.ext (tbO T)),hs,⟨fun b o q n nf _=>F.keep b o nf (tr b o n q).1 (tr b o n q).2 q,fun b o q n _ _=>F.slot b o (tr b o n q).1 (tr b o n q).2 q,fun b o q n _=>?_,fun b o q _=>?_,fun b xs q=>hs b _ q,fun b o u q=>hs b _ q,fun b ps q=>⟨#[],by rw[hs b _ q];simp⟩⟩,fun b u q=>?_,⟨_,vs',x1,rfl,.inr ⟨T,x2,x3,Av⟩⟩⟩
 ·rw[Ak]
  ·exact n
  ·intro z;rw[z,Heap.get?_none_of_le x4]at q;cases q
 ·by_cases z:b=e
  ·exact⟨_,by rw[z];exact x1⟩
  ·by_cases z':old=some b
   ·obtain⟨o',_,k,_⟩:=F.old b z';exact⟨o',k⟩
   ·obtain⟨sl,k⟩:=F.slot b o z z' q;exact⟨_,k⟩
 ·by_cases z:b=T
  ·subst z
   rw[Av]at q;cases q
   exact⟨x5,let ⟨o,_,k,_⟩:=x5;⟨o,k⟩,Qy⟩
  ·rw[Ak z]at q
   by_cases z1:b=e
   ·subst z1
    rw[He]at q;cases q
    obtain⟨p1,_,p3⟩:=hok b _ He
    exact⟨hφ h h' oe vs' qC x1 p1,⟨_,x1⟩,p3⟩
   ·by_cases z2:old=some b
    ·rw[ho b z2]at q;cases q
     have k:=F.old b z2
     exact⟨k,let ⟨o,_,k,_⟩:=k;⟨o,k⟩,Qy⟩
    ·refine(hok b u q).stay (fun c v hc r=>?_) (fun c r=>hs c _ r) fun c xs r=>hs c _ r
     have nf:c∉fs:=fun m=>by
      have:=ff c m
      rcases hc with rfl|hc
      ·rw[q]at this;cases this
      ·rw[hc]at this;cases this
     refine F.keep c v nf ?_ ?_ r
     ·rintro rfl
      rcases hc with rfl|hc
      ·exact z1 rfl
      ·rw[He]at hc;cases hc
     ·intro m
      rcases hc with rfl|hc
      ·exact z2 m
      ·rw[ho c m]at hc;cases hc
end
theorem Xq{a C dx:Addr}(h1 h2:Heap)(o:Obj)(vs:Array Value)(e1:h1.get? a=some o)(e2:h2.get? a=some {o with data:=.fields vs})(x:exO a C dx h1):exO a C dx h2:=by
 obtain⟨o',vs',q,r1,r2,r3⟩:=x
 rw[e1]at q;cases q
 exact⟨_,vs,e2,r1,r2,rfl⟩
end L2
namespace L2
open PySem Spec PyProof.Rows
def Exc(H:Hp)(a:Addr):Prop:=∃C dx,H a=some (.ext (exO a C dx))
theorem Exc.same{H H':Hp}{a:Addr}(x:Exc H a)(s:Same H H'):Exc H' a:=let ⟨C,dx,e⟩:=x;⟨C,dx,s _ _ e⟩
def CXe(P:Program)(w:World):CXT:=fun outer H s E e s' =>
 ∃a H',e=.ref a∧s'.os=s.os∧AllBare s'.gens∧Un (frs outer) [] H H' s.heap s'.heap∧HOk P w H' s'.heap∧Ip s'.heap H' a∧Exc H' a∧E (.ref a) none H'
def Qp(X:Cx)(σ:St)(a:Addr)(H:Hp):Prop:=∀(pins:List (Addr×Obj))(s:Shared),Inv X pins σ H s→Ip s.heap H a→Exc H a→X.xe (.ref a) s
section
variable{X:Cx}{pins:List (Addr×Obj)}{σ:St}{H:Hp}{s:Shared}{a:Addr}{E:Value→Shared→Prop}{Q:Unit→Shared→Prop}
theorem Aih(I:Inv X pins σ H s)(hst:X.stack=X.env::X.outer)(hfr:X.env.frame=some X.env.locals)(fl:Ip s.heap H a)(ex:Exc H a)
  (q:∀H' h',Same H H'→Un (frs X.stack) [] H H' s.heap h'→HOk X.prog X.w H' h'→Ip h' H' a→Q () {s with heap:=h'}) :
  wpAny (model X.prog X.w) X.A (noteFrame (.ref a) X.env) (fun _ s'=>wpAny (model X.prog X.w) X.A (setFlight (.ref a) none) Q E s') E s:=by
 obtain⟨o,vs,e1,e2,e3⟩:=fl
 obtain⟨C,dx,He⟩:=ex
 have ff:=I.stack
 have fr:=I.ok.frames
 rw[hst]at ff fr
 have key:∀old:Option Addr,vs[1]? = some (old.elim .none .ref)→(∀T,old=some T→T≠a∧H T=some (.ext (tbO T))) →
   wpAny (model X.prog X.w) X.A (noteFrame (.ref a) X.env) (fun _ s'=>wpAny (model X.prog X.w) X.A (setFlight (.ref a) none) Q E s') E s:=by
  intro old h1 h2
  refine fly fr ff hfr e1 e2 h1 (fun T z=>⟨(h2 T z).1,(I.hok T _ (h2 T z).2).1⟩) fun h' F=>?_
  obtain⟨H',y1,y2,y3,y4⟩:=F.held e1 I.hok (fun b hb=>I.vh b (by rw[hst];exact hb)) He (fun h1 h2 o vs x1 x2 x3=>Xq h1 h2 o vs x1 x2 x3) fun T z=>(h2 T z).2
  exact q H' h' y1 (by rw[hst];exact y2) y3 y4
 rcases e3 with e3|⟨T,e3,e4,e5⟩
 ·exact key none e3 fun _ z=>by cases z
 ·exact key (some T) e3 fun _ z=>by cases z;exact⟨e4,e5⟩
theorem lands(I:Inv X pins σ H s)(hst:X.stack=X.env::X.outer)(hfr:X.env.frame=some X.env.locals)(fl:Ip s.heap H a)(ex:Exc H a)
  (q:∀H' s',Same H H'→Inv X pins σ H' s'→Ip s'.heap H' a→Q () s') :
  wpAny (model X.prog X.w) X.A (noteFrame (.ref a) X.env) (fun _ s'=>wpAny (model X.prog X.w) X.A (setFlight (.ref a) none) Q E s') E s :=
 Aih I hst hfr fl ex fun H' h' y1 y2 y3 y4=>q H' _ y1 (I.call (t':=s.toks) (g':=s.gens) (d':=s.drawn) (ch:=[]) y2 y3 I.bare fun b z=>absurd z (by simp)) y4
theorem leaves(I:Inv X pins σ H s)(hst:X.stack=X.env::X.outer)(hfr:X.env.frame=some X.env.locals)(hx:X.ex=[])(fl:Ip s.heap H a)(ex:Exc H a)
  (q:∀H' s',s'.os=X.s₀.os→AllBare s'.gens→Same H H'→Un (frs X.outer) [] X.H₀ H' X.s₀.heap s'.heap→HOk X.prog X.w H' s'.heap→Ip s'.heap H' a→Exc H' a→Q () s') :
  wpAny (model X.prog X.w) X.A (leaving X.env (.ref a)) Q E s:=by
 refine wpAny_bind (Aih I hst hfr fl ex fun H' h' y1 y2 y3 y4=>q H' _ I.os I.bare y1 ?_ y3 y4 (ex.same y1))
 have b:=I.base
 rw[hx]at b
 have nl:∀c o,X.s₀.heap.get? c=some o→c≠X.env.locals:=fun c o e=>Nat.ne_of_lt (Nat.lt_of_lt_of_le (Heap.lt_size e) I.ok.above)
 have nf:∀c o,X.s₀.heap.get? c=some o→c∉frs X.outer→c∉frs X.stack:=fun c o e n m=>(List.mem_cons.mp (I.vg c m)).elim (nl c o e) n
 refine⟨fun c o e n m _=>y2.keep c o (b.keep c o e n m (by simp)) (b.free c o e n (by simp)) (nf c o e m) (by simp),fun c o e n m _=>?_,fun c o e n _=>?_,fun c o e _=>?_,fun c xs e=>y2.tups c xs (b.tups c xs e),fun c o u e=>y2.lK c o u (b.lK c o u e),fun c ps e=>?_⟩
 ·obtain⟨sl,e1⟩:=b.slot c o e n m (by simp)
  obtain⟨sl',e2⟩:=y2.any e1 (b.free c o e n (by simp)) (by simp)
  exact⟨sl',e2⟩
 ·obtain⟨o',e1⟩:=b.there c o e (by simp)
  exact y2.free c o' e1 (b.free c o e n (by simp)) (by simp)
 ·obtain⟨o',e1⟩:=b.there c o e (by simp)
  exact y2.there c o' e1 (by simp)
 ·obtain⟨m1,e1⟩:=b.mD c ps e
  obtain⟨m2,e2⟩:=y2.mD c _ e1
  exact⟨m1++m2,by rw[e2,Array.append_assoc]⟩
end
theorem Zu{P:Program}{w:World}{K:W.Frag}{mg:Str→Option Value}{base:Heap}{N:List Str}{qual:Str}{scope:Scope}{f:Addr}{cd:Value}{A:Around}{outer:List Env}{s:Shared}{H₀:Hp}{E:XK}{σ:St}{a:Addr}{H:Hp}
  (h:∀H',Same H H'→E (.ref a) none H'):Qp (RZ (CXe P w) P w K mg base N qual scope f cd A outer s H₀ E) σ a H:=fun pins s1 I fl ex =>
 leaves I rfl rfl rfl fl ex fun H' s' y1 y2 y3 y4 y5 y6 y7=>⟨a,H',rfl,y1,y2,y4,y5,y6,y7,h H' y3⟩
section
variable{X:Cx}{k:Nat}{f:Addr}{fd:FuncData}{ps:List Str}{sp:Sp}{x:Str}{p pos:Pos}{e:Expr}{es:List Expr}{t:TA}
def Ai0(X:Cx)(sp:Sp)(t:TA):TE:=fun σ H Q=>t σ H fun vs H1=>sp vs H1 Q fun v _ H'=>∃a,v=.ref a∧Qp X σ a H'
theorem Agp{pins:List (Addr×Obj)}{σ:St}{H:Hp}{s:Shared}{Q:VK}{us:List Value}{vs:List V}(F:Ef X.prog X.w X.K X.mg X.base (CXe X.prog X.w) k f fd ps sp)(hr:CK k X.A)(hb:Binds X.K fd ps [])
  (I:Inv X pins σ H s) (r:Vals vs us) (h:sp vs H Q fun v _ H'=>∃a,v=.ref a∧Qp X σ a H'):wpAny (model X.prog X.w) X.A (call (.ref f) us) (EP X pins σ Q) X.xe s:=by
 have hl:us.length=ps.length:=by rw[←r.length];exact F.len _ _ _ _ h
 have hb':=hb s us I.kIn (by rw[List.append_nil];exact hl)
 rw[List.append_nil]at hb'
 refine wpAny_call (codeAny_mono (F.run X.A X.stack s H ⟨us,[]⟩ us vs Q _ hr I.env0 hb' r h) fun r s' hq=>?_)
 cases r with
 | error e =>
  obtain⟨a,H',rfl,y1,y2,y3,y4,y5,y6,a',y7,y8⟩:=hq
  cases y7
  exact y8 pins s' (I.call' (ch:=[]) y1 y3 y4 y2 fun b z=>absurd z (by simp)) y5 y6
 | ok fl =>
  cases fl with
  |ret u=>exact I.after hq
  |next=>exact False.elim hq
  |brk=>exact False.elim hq
  |cont=>exact False.elim hq
theorem Aep(F:Ef X.prog X.w X.K X.mg X.base (CXe X.prog X.w) k f fd ps sp)(hr:CK k X.A)(hg:Gl X x)(hm:X.mg x=some (.ref f))(hk:W.keepIn X.K (.ref f)=true)(hb:Binds X.K fd ps [])
  (ha:PA X (e::es) t) (hdb:(x==("__debug__":Str))=false:=by decide) (he:starEach (e::es) X.env=(false,eval e X.env)::starEach es X.env:=by rfl) (hpl:(backTo pos (starEach es X.env)).any (·.1)=false:=by rfl) :
  PE X (.Call (.Name x p) (e::es) [] pos) (Ai0 X sp t):=by
 intro pins s σ H Q I h
 refine wpAny_Call_Name_kw (Ii I hg hm ?_ hdb)
 refine W.callWith_K (h₀:=X.base) I.ok.mod.kin hk (thn (ha pos pins s σ H _ I h) fun us s1 ⟨vs,H1,I1,r,q⟩=>⟨I1.kIn,Agp F hr hb I1 r q⟩) he hpl
theorem Ef.calm{P:Program}{w:World}{K:W.Frag}{mg:Str→Option Value}{base:Heap}{k:Nat}{f:Addr}{fd:FuncData}{ps:List Str}{sp sp':Sp}(F:Ef P w K mg base (CXe P w) k f fd ps sp)
  (h:∀vs H Q E,sp' vs H Q E→sp vs H Q E0):Ef P w K mg base CX0 k f fd ps sp' :=
 ⟨fun vs H Q E q=>F.len vs H Q E0 (h _ _ _ _ q),fun A outer s H args us vs Q E hr he hb hv hs=>codeAny_mono (F.run A outer s H args us vs Q E0 hr he hb hv (h _ _ _ _ hs)) fun r s' hq=>by
  cases r with
  |error e=>obtain⟨_,_,_,_,_,_,_,_,_,z⟩:=hq;exact z.elim
  |ok fl=>cases fl<;>exact hq⟩
end
end L2
namespace L2
open PySem Spec PyProof.Rows
abbrev bmV:List Value:=[.type "ValueError",.type "Exception",.type "BaseException",.type "object"]
def AdT(es:Array DictEntry):Bool:=es.toList.all fun e=>match e.key with|.str _ _=>true|_=>false
theorem Z7{es:Array DictEntry}(h:AdT es=true):StrKeys es:=fun e he=>by
 have:=List.all_eq_true.mp h e (Array.mem_toList_iff.mpr he)
 split at this
 ·rename_i n t q;exact⟨n,t,q⟩
 ·cases this
structure XC(K:W.Frag)(C F:Addr):Prop where
 obj:∃nm q N bs sn sub ab col dd k0 k1 k2 k3 k5,K.lookup C=some (excClassObj nm q C N bs (.ref F::bmV) true sn sub ab col dd k0 k1 k2 k3 k5 "ValueError.__new__")
 tail:∃c0 dd cd sl oc od es ep sl',K.lookup F=some ⟨c0,dd,.cls cd,sl⟩∧K.lookup cd.ns=some ⟨oc,od,.dict es ep,sl'⟩∧AdT es=true∧nsFind es "__init__"=none
 sa:W.findIn K (.ref C) "__setattr__"=some (some (.builtin "object.__setattr__"))
 ga:W.findIn K (.ref C) "__getattribute__"=some (some (.builtin "BaseException.__getattribute__"))
 gh:W.findIn K (.ref C) "__getattr__"=some none
 cl:W.findIn K (.ref C) "__class__"=some (some (.builtin "object.__class__"))
 gg:W.specialIn K (.builtin "object.__class__") "__get__"=some (some (.builtin "getset_descriptor.__get__"))
 gt:W.takesIn K (.builtin "object.__class__")=some true
theorem XC.own{K:W.Frag}{C F:Addr}{h:Heap}(c:XC K C F)(X:K.In h):OwnTail h bmV (.ref F::bmV):=by
 obtain⟨c0,dd,cd,sl,oc,od,es,ep,sl',h1,h2,h3,h4⟩:=c.tail
 exact .own (X _ _ h1) ⟨_,es,ep,X _ _ h2,rfl,Z7 h3,fun _=>rfl⟩ h4 .base
def excAt(C t:Addr):Obj:={cls:=.ref C,data:=.fields #[.ref t,.none,.none,.none,.bool false,.none]}
def Ah5(vs:List Value):Obj:={cls:=.type "tuple",data:=.seq vs.toArray}
def withExc(h:Heap)(C:Addr)(vs:List Value):Heap:=(h.push (Ah5 vs)).push (excAt C h.objs.size)
theorem Mq{h:Heap}{C:Addr}{vs:List Value}{b:Addr}{o:Obj}(e:h.get? b=some o):(withExc h C vs).get? b=some o:=Heap.get?_push_of_some _ (Heap.get?_push_of_some _ e)
theorem Lj{h:Heap}{C:Addr}{vs:List Value}:(withExc h C vs).get? (h.objs.size+1)=some (excAt C h.objs.size):=by
 unfold withExc
 have e:h.objs.size+1=(h.push (Ah5 vs)).objs.size:=(Heap.size_push _ _).symm
 rw[e];exact Heap.get?_push_size _ rfl
section
variable{prog:Program}{w:World}{A:Around}{E:Value→Shared→Prop}{s:Shared}{K:W.Frag}{C U fI:Addr}{rest:List Value}
theorem Abp{Q:Fin→Shared→Prop}(X:K.In s.heap)(c:XC K C U)(hi:W.findIn K (.ref C) "__init__"=some (some (.ref fI)))(hf:W.typeIn K (.ref fI)=some (.type "function"))(hz:rest.length≤sizeLine)
  (hq:wpAny (model prog w) A (call (.ref fI) (.ref (s.heap.objs.size+1)::rest)) (fun r s'=>r=.none∧Q (.done (.ret (.ref (s.heap.objs.size+1)))) s') E {s with heap:=withExc s.heap C rest}) :
  wpAny (model prog w) A (Builtin.«type.__call__» ⟨.ref C::rest,[]⟩) Q E s:=by
 obtain⟨nm,q,N,bs,sn,sub,ab,col,dd,k0,k1,k2,k3,k5,lk⟩:=c.obj
 obtain⟨h,g,d,t,os⟩:=s
 have oC:h.get? C=some _:=X _ _ lk
 have T:=c.own X
 have FB:=F.excBase_ValueError
 repeat (first|with_reducible refine wpAny_loadPart_at oC ?_|with_reducible refine wpAny_madeBy_exc oC ?_|wp_step)
 refine codeAny_call_builtin_code (Code.quiet_builtin _ FB.quiet) (wpAny_check_new_subT FB T oC (codeAny_exc_new_subT FB T oC ?_ hz))
 show wpAny (model prog w) A _ Q E {heap:=withExc h C rest,gens:=g,drawn:=d,toks:=t,os:=os}
 have X1:K.In (withExc h C rest):=X.keeps fun _ _=>Mq
 have oC1:(withExc h C rest).get? C=some _:=X1 _ _ lk
 have oe:(withExc h C rest).get? (h.objs.size+1)=some {cls:=.ref C,data:=.fields #[.ref h.objs.size,.none,.none,.none,.bool false,.none]}:=Lj
 have cC:(Value.ref C::(.ref U::bmV)).contains (.ref C)=true:=by simp
 unfold isInstance
 repeat (first|with_reducible refine wpAny_loadPart_at oe ?_|(with_reducible refine wpAny_isSubtype_exc oC1 ?_;rw[cC])|wp_step)
 show wpAny _ _ (typeLookup (.ref C) _) _ _ _
 refine(W.looks_findIn X1 hi) _ _ _ _ (fun _ _ e=>e) ?_
 refine wpAny_holding (wpAny_bind ((W.bind_fn X1 (.ref (h.objs.size+1)) hf) _ _ _ _ (fun _ _ e=>e) ?_))
 refine wpAny_bind (wpAny_mono hq (fun r s' hr=>?_) fun _ _ x=>x)
 obtain⟨rfl,hQ⟩:=hr
 wp_walk
 exact hQ
theorem AeM{Q:Value→Shared→Prop}(X:K.In s.heap)(c:XC K C U)(hi:W.findIn K (.ref C) "__init__"=some (some (.ref fI)))(hf:W.typeIn K (.ref fI)=some (.type "function"))(hz:rest.length≤sizeLine)
  (hq:wpAny (model prog w) (A.under (.builtin "type.__call__" ⟨.ref C::rest,[]⟩)) (call (.ref fI) (.ref (s.heap.objs.size+1)::rest)) (fun r s'=>r=.none∧Q (.ref (s.heap.objs.size+1)) s') E {s with heap:=withExc s.heap C rest}) :
  wpAny (model prog w) A (call (.ref C) rest) Q E s:=by
 obtain⟨nm,q,N,bs,sn,sub,ab,col,dd,k0,k1,k2,k3,k5,lk⟩:=id c.obj
 obtain⟨h,g,d,t,os⟩:=s
 have oC:h.get? C=some _:=X _ _ lk
 have u1:=tc_lookup
 have u2:=tc_bind (.ref C)
 have u3:(⟨h,g,d,t,os⟩:Shared).TypeIs (.ref C) "type":=⟨_,oC,rfl⟩
 refine wpAny_call (codeAny_of_tree ?_)
 show wpAny _ _ (callAny (.ref C) _) _ _ _
 repeat (any_goals (first|assumption|with_reducible refine wpAny_loadPart_at oC ?_|wp_step))
 exact⟨rfl,codeAny_call_builtin_at (Code.quiet_builtin _ (by decide +kernel)) entry_typeCall (wpAny_check_type_call_sub oC (Abp X c hi hf hz hq))⟩
theorem TF{env:Env}{x:Sem Value}{Q:Flow→Shared→Prop}(c:XC K C U)(hh:A.handled=none)
  (h:wpAny (model prog w) A x (fun v s₁=>K.In s₁.heap∧∃e od vs sl,v=.ref e∧s₁.heap.get? e=some ⟨.ref C,od,.fields vs,sl⟩∧vs[1]? = some .none∧E (.ref e) s₁) E s) :
  wpAny (model prog w) A (raiseStmt env (some x) none) Q E s:=by
 obtain⟨nm,q,N,bs,sn,sub,ab,col,dd,k0,k1,k2,k3,k5,lk⟩:=c.obj
 have cB:(Value.ref C::(.ref U::bmV)).contains (.type "BaseException")=true:=by simp
 unfold raiseStmt
 refine wpAny_bind (wpAny_mono h (fun v s₁ h₁=>?_) fun _ _ x=>x)
 obtain⟨X,e,od,vs,sl,rfl,he,h1,hE⟩:=h₁
 obtain⟨hp,g,d,tk,os⟩:=s₁
 have oC:hp.get? C=some _:=X _ _ lk
 repeat (first|with_reducible refine wpAny_loadPart_at he ?_|with_reducible refine wpAny_field he rfl h1 ?_|with_reducible refine wpAny_loadPart_at oC ?_|(with_reducible refine wpAny_isSubtype_exc oC ?_;rw[cB])|wp_step)
 exact wpAny_raiseNew_none hh hE
end
end L2
namespace L2
open PySem Spec PyProof.Rows W Builtin Builtin.ObjectAttr
section
variable{prog:Program}{w:World}{A:Around}{E:Value→Shared→Prop}{s:Shared}{K:W.Frag}{C U x:Addr}{name:Str}{v:Value}
theorem XC.cls(c:XC K C U):∃cd,clsIn K C=some cd∧cd.mro=.ref C :: .ref U::bmV∧cd.hasDict=true:=by
 obtain⟨nm,q,N,bs,sn,sub,ab,col,dd,k0,k1,k2,k3,k5,lk⟩:=c.obj
 exact⟨_,by unfold clsIn;rw[lk],rfl,rfl⟩
theorem XC.sub(c:XC K C U)(b:Value):mroIn K C b=some ((Value.ref C :: .ref U::bmV).contains b):=by
 obtain⟨cd,h1,h2,_⟩:=c.cls
 unfold mroIn
 rw[h1,Option.bind_some,h2]
 rfl
structure XB(K:W.Frag)(C:Addr):Prop where
 obj:∃nm q N bs bm hd sn sub ab col dd k0 k1 k2 k3 k5,K.lookup C=some (excClassObj nm q C N bs bm hd sn sub ab col dd k0 k1 k2 k3 k5 "ValueError.__new__")
 sb:mroIn K C (.type "BaseException")=some true
 so:mroIn K C (.type "object")=some true
 ga:W.findIn K (.ref C) "__getattribute__"=some (some (.builtin "BaseException.__getattribute__"))
 gh:W.findIn K (.ref C) "__getattr__"=some none
 cl:W.findIn K (.ref C) "__class__"=some (some (.builtin "object.__class__"))
 gg:W.specialIn K (.builtin "object.__class__") "__get__"=some (some (.builtin "getset_descriptor.__get__"))
 gt:W.takesIn K (.builtin "object.__class__")=some true
theorem XC.xb(c:XC K C U):XB K C:=by
 obtain⟨nm,q,N,bs,sn,sub,ab,col,dd,k0,k1,k2,k3,k5,lk⟩:=id c.obj
 exact⟨⟨_,_,_,_,_,_,_,_,_,_,_,_,_,_,_,_,lk⟩,by rw[c.sub];simp,by rw[c.sub];simp,c.ga,c.gh,c.cl,c.gg,c.gt⟩
theorem XB.cls(c:XB K C):(clsIn K C).isSome=true:=by
 obtain⟨nm,q,N,bs,bm,hd,sn,sub,ab,col,dd,k0,k1,k2,k3,k5,lk⟩:=c.obj
 unfold clsIn;rw[lk];rfl
theorem AdN{R:Result→Shared→Prop}{od:Option Obj}{ox:Obj}{tk:Tok}(X:K.In s.heap)(c:XC K C U)(I:InstAt s.heap x ox C od)(ht:takerIn K C name=some none)
  (h:∀b,wpAny (model prog w) A.in1 (storeInOwnDict (.ref x) (.ref C) (.str name tk) name v b)
   (fun fin s'=>match fin with|.done f=>R (.ok f) s'|.again c'=>c'.quiet=true∧codeAny (model prog w) A c' R s') (fun e s'=>R (.error e) s') s) :
  codeAny (model prog w) A (.call (.builtin "object.__setattr__") ⟨[.ref x,.str name tk,v],[]⟩) R s:=by
 have SF:=PySem.F.store_object
 have SV:=PySem.F.store_ValueError
 obtain⟨cd,hc,hm,_⟩:=c.cls
 have sub:Looks (model prog w) s.heap (isInstance (.ref x) (.type "object")) true:=I.type.andThen (looks_mroIn X (by rw[c.sub];simp))
 refine codeAny_call_builtin SF.slot.plain SF.entry (@check_slot (model prog w) _ _ s "object.__setattr__" "object" "__setattr__" (.ref x) [.str name tk,v] [] _ SF.kind SF.split sub (SF.args (.ref x) (.str name tk) v) ?_)
 obtain⟨attr,ha,hr⟩:=Option.bind_eq_some_iff.mp ht
 have mr:Looks (model prog w) s.heap (mroOf (.ref C)) cd.mro:=(looks_clsIn X hc).andThen .now
 have tk3:Looks (model prog w) s.heap (storeTaker? attr) none:=by
  cases attr with
  |none=>exact .now
  | some a =>
   obtain⟨b,hb,hn⟩:=Option.map_eq_some_iff.mp hr
   refine(looks_takesIn X hb).andThen ?_
   cases b with
   |true=>cases hn
   |false=>exact .now
 rw[osa_eq,refuse_eq]
 refine wpAny_bind (wpAny_bind (I.type.here (wpAny_bind (mr.here ?_))))
 rw[hm,refuseLoop_ref,refuseLoop_ref,SV.passes]
 exact wpAny_pure (wpAny_bind (I.type.here (wpAny_bind ((looks_findIn X ha).here (wpAny_bind (tk3.here (h _)))))))
theorem Al5{Q:Unit→Shared→Prop}{vs:Array Value}{sl:Array (Option Value)}(X:K.In s.heap)(c:XC K C U)(ht:takerIn K C name=some none)(hx:s.heap.get? x=some ⟨.ref C,none,.fields vs,sl⟩)
  (h:∀h' tk',h'.get? x=some ⟨.ref C,some s.heap.objs.size,.fields vs,sl⟩→h'.Ns1 s.heap.objs.size (fun y=>if y=name then some v else none)→(∀b o,b≠x→s.heap.get? b=some o→h'.get? b=some o)→Q () {s with heap:=h',toks:=tk'}) :
  wpAny (model prog w) A (setAttr (.ref x) name v) Q E s:=by
 have I:InstAt s.heap x ⟨.ref C,none,.fields vs,sl⟩ C none:=⟨hx,rfl,rfl,trivial⟩
 refine set_plain X I c.sa (AdN (s:={s with toks:=s.toks+1}) X c I ht fun b=>?_)
 obtain⟨cd,hc,hm,hd⟩:=c.cls
 refine wpAny_bind (wpAny_pure (wpAny_bind ?_))
 show wpAny _ _ (instanceDict x true) _ _ _
 unfold instanceDict
 refine wpAny_bind (wpAny_loadPart hx ?_)
 dsimp only
 refine wpAny_bind ((looks_clsIn X hc).here (s:={s with toks:=s.toks+1}) ?_)
 rw[hd]
 obtain⟨hp,g,d,t,os⟩:=s
 have x1:(hp.push {cls:=.type "dict",data:=.dict #[]}).get? x=some ⟨.ref C,none,.fields vs,sl⟩:=Heap.get?_push_of_some _ hx
 have nx:x≠hp.objs.size:=Nat.ne_of_lt (Heap.lt_size hx)
 refine wpAny_bind (wpAny_alloc' (wpAny_bind (wpAny_update' x1 ?_)))
 refine wpAny_pure ?_
 have x2:=Heap.get?_update_self (fun o:Obj=>{cls:=o.cls,dict:=some hp.objs.size,data:=o.data,slots:=o.slots}) x1 rfl
 have gd:((hp.push {cls:=.type "dict",data:=.dict #[]}).update x fun o=>{cls:=o.cls,dict:=some hp.objs.size,data:=o.data,slots:=o.slots}).get? hp.objs.size=some {cls:=.type "dict",data:=.dict #[]} :=
  (Heap.get?_update_ne _ _ _ _ nx.symm).trans (Heap.get?_push_at rfl rfl)
 have nd:((hp.push {cls:=.type "dict",data:=.dict #[]}).update x fun o=>{cls:=o.cls,dict:=some hp.objs.size,data:=o.data,slots:=o.slots}).Ns hp.objs.size (fun _=>none) :=
  ⟨_,#[],_,gd,rfl,fun e he=>absurd he (by simp),fun _=>rfl⟩
 show wpAny _ _ (storeInDict hp.objs.size (.str name _) name v) _ _ _
 unfold storeInDict newKeyGuard
 refine wpAny_bind (wpAny_pure (wpAny_bind (wpAny_nsSet1 (Heap.Ns1.of_empty nd) fun h' hn' hs=>?_)))
 obtain⟨oD,esD,epD,hoD,hdD,hcD⟩:=hn'.count (Within.cons name v Within.nil)
 refine wpAny_bind (wpAny_lookBehind hoD (by rw[hdD];exact pastItsLine_dict (Nat.le_trans hcD (by rw[List.length_cons,List.length_nil,sizeLine_eq];omega))) ?_)
 refine wpAny_pure (h h' _ ((hs.2 x nx).trans x2) hn' fun b o nb hb=>?_)
 exact(hs.2 b (Nat.ne_of_lt (Heap.lt_size hb))).trans ((Heap.get?_update_ne _ _ _ _ nb).trans (Heap.get?_push_of_some _ hb))
end
end L2
namespace L2
open PySem Spec PyProof.Rows W Builtin Builtin.ObjectAttr
section
variable{prog:Program}{w:World}{A:Around}{E:Value→Shared→Prop}{s:Shared}{K:W.Frag}{C U x:Addr}{name:Str}{v:Value}{ox:Obj}{od:Option Obj}
theorem Y9{tk:Tok}{fill expr:Bool}{Q:Value→Shared→Prop}(X:K.In s.heap)(c:XB K C)(I:InstAt s.heap x ox C od)(hv:handedIn v=true)
  (h:wpAny (model prog w) A.in1 (Builtin.«object.__getattribute__» ⟨[.ref x,.str name tk],[]⟩) (fun fin s'=>fin=.done (.ret v)∧Q v s') (fun _ _=>False) s) :
  wpAny (model prog w) A (getAttrBy (.ref x) (.str name tk) fill expr) Q E s:=by
 have FX:=PySem.F.excAttr_ValueError
 have e0:(expr&&onTheHeap (Value.builtin "BaseException.__getattribute__"))=false:=by cases expr<;>rfl
 have e2:(Value.builtin "BaseException.__getattribute__"==Value.builtin "object.__getattribute__")=false:=by decide +kernel
 have L0:=I.type (M:=model prog w)
 have L1:=looks_findIn (M:=model prog w) X c.ga
 have L2:=looks_findIn (M:=model prog w) X c.gh
 have sub:Looks (model prog w) s.heap (isInstance (.ref x) (.type "BaseException")) true:=I.type.andThen (looks_mroIn X c.sb)
 unfold getAttrBy
 refine wpAny_holding (wpAny_bind (L0.here (wpAny_bind (L1.here ?_))))
 dsimp only
 rw[show(onTheHeap (Value.ref C)&&Value.builtin "BaseException.__getattribute__"==Value.builtin "object.__getattribute__")=false by rw[e2];rfl]
 unfold getAttrByItsOwn hookBefore
 refine wpAny_bind (L2.here (wpAny_bind (wpAny_attempt ?_)))
 unfold callGetattribute
 rw[e0]
 refine wpAny_holding ?_
 unfold boundAndCalled
 rw[show(if false=true then runValue (.builtin "lifetime.attribute" ⟨[.ref x,.str name tk,.builtin "BaseException.__getattribute__"],[]⟩)else(do let (g,first) ←bindSpecial (.builtin "BaseException.__getattribute__") (.ref x);call g (first++[.str name tk])))=(do let (g,first) ←bindSpecial (.builtin "BaseException.__getattribute__") (.ref x);call g (first++[.str name tk]))from rfl,FX.ga.bind]
 refine wpAny_bind (wpAny_pure (wpAny_call (codeAny_call_builtin FX.ga.plain F.entry_bexc_ga (check_slot (i:="BaseException.__getattribute__") (owner:="BaseException") (n:="__getattribute__") (by decide +kernel) (by decide +kernel) sub (F.args_bexc_ga _ _) (wpAny_mono h (fun fin s' hq=>?_) fun _ _ z=>z.elim)))))
 obtain⟨rfl,q⟩:=hq
 show wpAny _ _ (handedOut v) _ _ _
 rw[handedOut_of hv]
 exact wpAny_pure q
theorem AoF{expr:Bool}{Q:Value→Shared→Prop}(X:K.In s.heap)(c:XB K C)(I:InstAt s.heap x ox C od)(hf:findObj K C od name=some (.value v))(hv:handedIn v=true)(h:Q v {s with toks:=s.toks+1}) :
  wpAny (model prog w) A (getAttr (.ref x) name expr) Q E s:=by
 unfold getAttr
 refine wpAny_bind (wpAny_mkText (Y9 (s:={s with toks:=s.toks+1}) X c I hv ?_))
 refine wpAny_bind (wpAny_pure (wpAny_bind (wpAny_pure (wpAny_bind (I.type.here (s:={s with toks:=s.toks+1}) (wpAny_bind ((looks_find X I hf).here (s:={s with toks:=s.toks+1}) ?_)))))))
 exact wpAny_pure ⟨rfl,h⟩
theorem AjP{Q:Option Value→Shared→Prop}(X:K.In s.heap)(c:XB K C)(I:InstAt s.heap x ox C od)(h:Q (some (.ref C)) {s with toks:=s.toks+1}) :
  wpAny (model prog w) A (getAttr? (.ref x) "__class__") Q E s:=by
 have hf:findObj K C od "__class__"=some (.bind (.builtin "getset_descriptor.__get__") (.builtin "object.__class__")):=by
  obtain⟨cd,hc⟩:=Option.isSome_iff_exists.mp c.cls
  unfold findObj
  rw[hc,Option.bind_some,c.cl,Option.bind_some]
  simp[c.gg,c.gt]
 unfold getAttr? getAttrBy?
 refine wpAny_bind (wpAny_mkText (wpAny_bind (wpAny_attempt (Y9 (v:=.ref C) (s:={s with toks:=s.toks+1}) X c I rfl ?_))))
 refine wpAny_bind (wpAny_pure (wpAny_bind (wpAny_pure (wpAny_bind (I.type.here (s:={s with toks:=s.toks+1}) (wpAny_bind ((looks_find X I hf).here (s:={s with toks:=s.toks+1}) ?_)))))))
 show wpAny _ _ (holding [.builtin "object.__class__"] (call (.builtin "getset_descriptor.__get__") [.builtin "object.__class__",.ref x,.ref C]) >>= ret) _ _ _
 exact wpAny_bind (wpAny_holding (wpAny_call (class_get (s:={s with toks:=s.toks+1}) X I c.so (wpAny_pure ⟨rfl,wpAny_pure h⟩))))
theorem Ake(c:XB K C):KitX K (.ref x) (.ref C) (fun h=>∃ox od,InstAt h x ox C od) where
 ty:=fun _ _ _ ⟨_,_,I⟩=>I.type
 it:=fun _ _ X _=>by
  obtain⟨nm,q,N,bs,bm,hd,sn,sub,ab,col,dd,k0,k1,k2,k3,k5,lk⟩:=c.obj
  intro A' Q' E' s' k q
  unfold isType loadHead
  exact wpAny_bind (wpAny_loadPart (k _ _ (X _ _ lk)) (wpAny_pure q))
 ne:=fun h tp dd its n sl X htp=>by
  obtain⟨nm,q,N,bs,bm,hd,sn,sub,ab,col,dd,k0,k1,k2,k3,k5,lk⟩:=c.obj
  refine Bool.eq_false_iff.mpr fun q=>?_
  have e:C=tp:=Value.ref.inj (beq_iff_eq.mp q)
  subst e
  have z:=congrArg Obj.cls (Option.some.inj ((X _ _ lk).symm.trans htp))
  exact absurd (Value.type.inj z) (by decide)
 ca:=fun X ⟨_,_,I⟩ k=>AjP X c I k
end
end L2
namespace L2
open PySem Spec PyProof.Rows SeqAt
inductive Dt where
 | non | bl (b:Bool) | int (i:Int) | str (x:Str) | tup (ds:List Dt) | lst (ds:List Dt) | fn (a:Addr)
  |exc (c:Str) (ns:List Str) (ds:List Dt)
  |obj (c:Str) (ns:List Str) (ds:List Dt)
def LsD(K:W.Frag)(H:Hp)(a:Addr)(xs:List V):Prop:=H a=some (.lst xs)∨(SqL K H a xs∧∀x∈xs,∃i:Int,x=.int i)
theorem LsD.sq{K:W.Frag}{H:Hp}{a:Addr}{xs:List V}(h:LsD K H a xs):SqL K H a xs:=by
 rcases h with h|⟨h,_⟩
 ·exact SqL.of h
 ·exact h
theorem LsD.mono{K:W.Frag}{H H':Hp}{a:Addr}{xs:List V}(s:Same H H')(h:LsD K H a xs):LsD K H' a xs:=by
 rcases h with h|⟨h,q⟩
 ·exact .inl (s _ _ h)
 ·exact .inr ⟨s.seq h,q⟩
mutual
def Rp(K:W.Frag)(H:Hp):Dt→V→Prop
 |.non,v=>v=.non
 |.bl b,v=>v=.bl b
 |.int i,v=>v=.int i
 |.str x,v=>v=.str x
 |.fn a,v=>v=.ref a
 |.exc c ns ds,v=>∃a C U dx vs,v=.ref a∧W.nsIn K mainGlobals c=some (some (.ref C))∧XC K C U∧H a=some (.ext (exO a C dx))∧(H dx=some (.xd (ns.zip vs))∨dx=a∧ns=[])∧ns.length=ds.length∧RpL K H ds vs
 |.obj c ns ds,v=>∃a C dx vs,v=.ref a∧W.nsIn K mainGlobals c=some (some (.ref C))∧Cls K C∧H a=some (.ins C dx (ns.zip vs))∧ns.length=ds.length∧RpL K H ds vs
 |.tup ds,v=>∃a xs,v=.ref a∧SqT K H a xs∧RpL K H ds xs
 |.lst ds,v=>∃a xs,v=.ref a∧LsD K H a xs∧RpL K H ds xs
def RpL(K:W.Frag)(H:Hp):List Dt→List V→Prop
 | [],xs=>xs=[]
 |d::ds,xs=>∃v r,xs=v::r∧Rp K H d v∧RpL K H ds r
end
theorem Same.qZ{K:W.Frag}{H H':Hp}{a:Addr}{xs:List V}(e:Same H H')(h:SqT K H a xs):SqT K H' a xs:=by
 rcases h with(h|⟨o,h⟩)|h
 ·exact .inl (.inl (e _ _ h))
 ·exact .inl (.inr ⟨o,e _ _ h⟩)
 ·exact .inr h
mutual
theorem Rp.mono{K:W.Frag}{H H':Hp}(s:Same H H'):∀{d:Dt} {v:V},Rp K H d v→Rp K H' d v
 |.non,_,h=>by unfold Rp at h ⊢;exact h
 |.bl _,_,h=>by unfold Rp at h ⊢;exact h
 |.int _,_,h=>by unfold Rp at h ⊢;exact h
 |.str _,_,h=>by unfold Rp at h ⊢;exact h
 |.fn _,_,h=>by unfold Rp at h ⊢;exact h
 | .exc _ _ _,_,h=>by
  unfold Rp at h ⊢
  obtain⟨a,C,U,dx,vs,e,q,x,h1,h2,l,r⟩:=h
  exact⟨a,C,U,dx,vs,e,q,x,s _ _ h1,h2.imp (s _ _) id,l,RpL.mono s r⟩
 | .obj _ _ _,_,h=>by
  unfold Rp at h ⊢
  obtain⟨a,C,dx,vs,e,q,x,h1,l,r⟩:=h
  exact⟨a,C,dx,vs,e,q,x,s _ _ h1,l,RpL.mono s r⟩
 | .tup ds,_,h=>by
  unfold Rp at h ⊢
  obtain⟨a,xs,e,q,r⟩:=h
  exact⟨a,xs,e,s.qZ q,RpL.mono s r⟩
 | .lst ds,_,h=>by
  unfold Rp at h ⊢
  obtain⟨a,xs,e,q,r⟩:=h
  exact⟨a,xs,e,q.mono s,RpL.mono s r⟩
theorem RpL.mono{K:W.Frag}{H H':Hp}(s:Same H H'):∀{ds:List Dt} {vs:List V},RpL K H ds vs→RpL K H' ds vs
 | [],_,h=>by unfold RpL at h ⊢;exact h
 | d::ds,_,h=>by
  unfold RpL at h ⊢
  obtain⟨v,r,e,q,p⟩:=h
  exact⟨v,r,e,Rp.mono s q,RpL.mono s p⟩
end
section
variable{K:W.Frag}{H:Hp}
theorem J5{v:V}:Rp K H .non v↔v=.non:=by unfold Rp;exact Iff.rfl
theorem Dd{b:Bool}{v:V}:Rp K H (.bl b) v↔v=.bl b:=by unfold Rp;exact Iff.rfl
theorem Bp{i:Int}{v:V}:Rp K H (.int i) v↔v=.int i:=by unfold Rp;exact Iff.rfl
theorem Rm{x:Str}{v:V}:Rp K H (.str x) v↔v=.str x:=by unfold Rp;exact Iff.rfl
theorem Ww{a:Addr}{v:V}:Rp K H (.fn a) v↔v=.ref a:=by unfold Rp;exact Iff.rfl
theorem JL{c:Str}{ns:List Str}{ds:List Dt}{v:V}:Rp K H (.exc c ns ds) v↔∃a C U dx vs,v=.ref a∧W.nsIn K mainGlobals c=some (some (.ref C))∧XC K C U∧H a=some (.ext (exO a C dx))∧(H dx=some (.xd (ns.zip vs))∨dx=a∧ns=[])∧ns.length=ds.length∧RpL K H ds vs:=by rw[Rp]
theorem N6{c:Str}{ns:List Str}{ds:List Dt}{v:V}:Rp K H (.obj c ns ds) v↔∃a C dx vs,v=.ref a∧W.nsIn K mainGlobals c=some (some (.ref C))∧Cls K C∧H a=some (.ins C dx (ns.zip vs))∧ns.length=ds.length∧RpL K H ds vs:=by rw[Rp]
theorem Dv{ds:List Dt}{v:V}:Rp K H (.tup ds) v↔∃a xs,v=.ref a∧SqT K H a xs∧RpL K H ds xs:=by rw[Rp]
theorem Py{ds:List Dt}{v:V}:Rp K H (.lst ds) v↔∃a xs,v=.ref a∧LsD K H a xs∧RpL K H ds xs:=by rw[Rp]
theorem Jv{ds:List Dt}{v:V}(h:∃a xs,v=.ref a∧H a=some (.lst xs)∧RpL K H ds xs):Rp K H (.lst ds) v:=let ⟨a,xs,e,h1,h2⟩:=h;Py.mpr ⟨a,xs,e,.inl h1,h2⟩
theorem Et{ds:List Dt}{v:V}(h:Rp K H (.lst ds) v):∃a xs,v=.ref a∧SqL K H a xs∧RpL K H ds xs:=let ⟨a,xs,e,h1,h2⟩:=Py.mp h;⟨a,xs,e,h1.sq,h2⟩
theorem Ahr{ns:List Int}{a:Addr}(h:SqL K H a (ns.map V.int))(r:RpL K H (ns.map Dt.int) (ns.map V.int)):Rp K H (.lst (ns.map Dt.int)) (.ref a):=Py.mpr ⟨a,_,rfl,.inr ⟨h,fun x hx=>by obtain⟨i,_,rfl⟩:=List.mem_map.mp hx;exact⟨i,rfl⟩⟩,r⟩
theorem BL{vs:List V}:RpL K H [] vs↔vs=[]:=by rw[RpL]
theorem Bc{d:Dt}{ds:List Dt}{vs:List V}:RpL K H (d::ds) vs↔∃v r,vs=v::r∧Rp K H d v∧RpL K H ds r:=by rw[RpL]
theorem RpL.nil:RpL K H [] []:=BL.mpr rfl
theorem RpL.cons{d:Dt}{ds:List Dt}{v:V}{vs:List V}(h:Rp K H d v)(r:RpL K H ds vs):RpL K H (d::ds) (v::vs):=Bc.mpr ⟨v,vs,rfl,h,r⟩
theorem RpL.len:∀{ds:List Dt} {vs:List V},RpL K H ds vs→vs.length=ds.length
 | [],_,h=>by rw[BL.mp h];rfl
 | d::ds,_,h=>by
  obtain⟨v,r,rfl,_,p⟩:=Bc.mp h
  simp[RpL.len p]
theorem RpL.get:∀{ds:List Dt} {vs:List V} {i:Nat} {d:Dt},RpL K H ds vs→ds[i]? = some d→∃v,vs[i]? = some v∧Rp K H d v
 | [],_,_,_,_,e=>by simp at e
 | d::ds,_,0,_,h,e=>by
  obtain⟨v,r,rfl,q,p⟩:=Bc.mp h
  simp at e;subst e
  exact⟨v,rfl,q⟩
 | d::ds,_,i+1,_,h,e=>by
  obtain⟨v,r,rfl,q,p⟩:=Bc.mp h
  obtain⟨u,e1,e2⟩:=RpL.get (i:=i) p (by simpa using e)
  exact⟨u,by simpa using e1,e2⟩
theorem RpL.get':∀{ds:List Dt} {vs:List V} {i:Nat} {v:V},RpL K H ds vs→vs[i]? = some v→∃d,ds[i]? = some d∧Rp K H d v
 | [],_,_,_,h,e=>by rw[BL.mp h]at e;simp at e
 | d::ds,_,0,_,h,e=>by
  obtain⟨v,r,rfl,q,p⟩:=Bc.mp h
  simp at e;subst e
  exact⟨d,rfl,q⟩
 | d::ds,_,i+1,_,h,e=>by
  obtain⟨v,r,rfl,q,p⟩:=Bc.mp h
  obtain⟨u,e1,e2⟩:=RpL.get' (i:=i) p (by simpa using e)
  exact⟨u,by simpa using e1,e2⟩
theorem RpL.append:∀{ds es:List Dt} {vs ws:List V},RpL K H ds vs→RpL K H es ws→RpL K H (ds++es) (vs++ws)
 | [],_,_,_,h,q=>by rw[BL.mp h];exact q
 | d::ds,_,_,_,h,q=>by
  obtain⟨v,r,rfl,a,p⟩:=Bc.mp h
  exact .cons a (RpL.append p q)
theorem RpL.drop:∀{ds:List Dt} {vs:List V} (n:Nat),RpL K H ds vs→RpL K H (ds.drop n) (vs.drop n)
 |_,_,0,h=>by simpa using h
 | [],_,n+1,h=>by rw[BL.mp h];simpa using RpL.nil
 | d::ds,_,n+1,h=>by
  obtain⟨v,r,rfl,a,p⟩:=Bc.mp h
  simpa using RpL.drop n p
theorem RpL.take:∀{ds:List Dt} {vs:List V} (n:Nat),RpL K H ds vs→RpL K H (ds.take n) (vs.take n)
 |_,_,0,h=>by simpa using RpL.nil
 | [],_,n+1,h=>by rw[BL.mp h];simpa using RpL.nil
 | d::ds,_,n+1,h=>by
  obtain⟨v,r,rfl,a,p⟩:=Bc.mp h
  simpa using RpL.cons a (RpL.take n p)
theorem RpL.ints:∀(ns:List Int),RpL K H (ns.map Dt.int) (ns.map V.int)
 | []=>RpL.nil
 |_::ns=>RpL.cons (Bp.mpr rfl) (RpL.ints ns)
end
def mask(O:List Addr)(H:Hp):Hp:=fun a=>if a∈O then none else H a
theorem Dz{O:List Addr}{H:Hp}{a:Addr}(h:a∈O):mask O H a=none:=if_pos h
theorem Ba{O:List Addr}{H:Hp}{a:Addr}(h:a∉O):mask O H a=H a:=if_neg h
theorem Cg{O:List Addr}{H:Hp}{a:Addr}{o:HO}(h:mask O H a=some o):a∉O∧H a=some o:=by
 by_cases q:a∈O
 ·rw[Dz q]at h;cases h
 ·rw[Ba q]at h;exact⟨q,h⟩
theorem Bk{O:List Addr}{H:Hp}:Same (mask O H) H:=fun _ _ h=>(Cg h).2
theorem Same.mask{O:List Addr}{H H':Hp}(s:Same H H'):Same (mask O H) (L2.mask O H'):=fun a o h=>by
 obtain⟨q,e⟩:=Cg h
 rw[Ba q];exact s a o e
theorem Fb{O O':List Addr}{H:Hp}(h:∀a∈O',a∈O):Same (mask O H) (mask O' H):=fun a o e=>by
 obtain⟨q,e⟩:=Cg e
 rw[Ba fun z=>q (h a z)];exact e
theorem Same.upd{H:Hp}{p:Addr}{o:HO}(h:H p=none):Same H (L2.upd H p o):=fun a u e=>by
 rw[Ak (Bb e h)];exact e
def tabAt(a:Addr)(xs:List (List Key×Addr×Value))(h:Heap):Prop:=(a==sysModules)=false∧∃(P:Program)(w:World)(o:Obj)(es:Array DictEntry)(ep:Nat),h.get? a=some o∧o.ExactDict∧o.data=.dict es ep∧es.toList=xs.map (entryOfKey (tupleKind (Vh P w)))∧(xs.map (·.1)).Nodup
def Agb(K:W.Frag)(H:Hp)(ks:List (List Int))(xs:List (List Key×Addr×Value)):Prop:=xs.map (·.1)=ks.map (·.map Sum.inl)∧∀x∈xs,SqT K H x.2.1 (x.1.map kV)
theorem Agb.mono{K:W.Frag}{H H':Hp}{ks:List (List Int)}{xs:List (List Key×Addr×Value)}(s:Same H H')(h:Agb K H ks xs):Agb K H' ks xs:=⟨h.1,fun x hx=>s.qZ (h.2 x hx)⟩
inductive En where
 |is (d:Dt)|own (ds:List Dt)|tab (ks:List (List Int))
abbrev BP:=List (Option En)
abbrev DTE:=BP→(Dt→Prop)→Prop
abbrev DTT:=BP→(Bool→Prop)→Prop
abbrev DTA:=BP→(List Dt→Prop)→Prop
structure Gd where
 nx:BP→Prop
 rt:Dt→Prop
 bk:BP→Prop:=fun _=>False
 ct:BP→Prop:=fun _=>False
abbrev DTS:=Gd→BP→Prop
structure Rep(K:W.Frag)(B:Hp)(F O:List Addr)(H:Hp)(σ:St)(ρ:BP):Prop where
 len:σ.length=ρ.length
 base:Same B H
 fr:∀a∈O,B a=none
 th:∀a∈F++O,H a≠none
 is:∀(i:Nat)(d:Dt),ρ[i]? = some (some (.is d))→∃v,σ[i]? = some (some v)∧Rp K (mask (F++O) H) d v
 own:∀(i:Nat)(ds:List Dt),ρ[i]? = some (some (.own ds))→∃a xs,σ[i]? = some (some (.ref a))∧a∈O∧a∉F∧H a=some (.lst xs)∧RpL K (mask (F++O) H) ds xs
 inj:∀(i j:Nat)(ds es:List Dt)(a:Addr),ρ[i]? = some (some (.own ds))→ρ[j]? = some (some (.own es))→σ[i]? = some (some (.ref a))→σ[j]? = some (some (.ref a))→i=j
 tab:∀(i:Nat)(ks:List (List Int)),ρ[i]? = some (some (.tab ks))→∃a xs,σ[i]? = some (some (.ref a))∧a∈O∧a∉F∧H a=some (.ext (tabAt a xs))∧Agb K (mask (F++O) H) ks xs
 uo:∀(i j:Nat)(ks ls:List (List Int))(a:Addr),ρ[i]? = some (some (.tab ks))→ρ[j]? = some (some (.tab ls))→σ[i]? = some (some (.ref a))→σ[j]? = some (some (.ref a))→i=j
section
variable{K:W.Frag}{B:Hp}{F O:List Addr}{H H':Hp}{σ:St}{ρ:BP}
theorem Rep.same(r:Rep K B F O H σ ρ)(s:Same H H'):Rep K B F O H' σ ρ where
 len:=r.len
 base:=r.base.trans s
 fr:=r.fr
 th:=fun a h e=>by
  have:=r.th a h
  cases q:H a with
  |none=>exact this q
  |some o=>rw[s a o q]at e;cases e
 is:=fun i d e=>let ⟨v,h1,h2⟩:=r.is i d e;⟨v,h1,h2.mono s.mask⟩
 own:=fun i ds e=>let ⟨a,xs,h1,h2,h3,h4,h5⟩:=r.own i ds e;⟨a,xs,h1,h2,h3,s _ _ h4,h5.mono s.mask⟩
 inj:=r.inj
 tab:=fun i ks e=>let ⟨a,xs,h1,h2,h3,h4,h5⟩:=r.tab i ks e;⟨a,xs,h1,h2,h3,s _ _ h4,h5.mono s.mask⟩
 uo:=r.uo
theorem Rep.below(r:Rep K B F O H σ ρ):Same (mask F B) (mask (F++O) H):=fun a o e=>by
 obtain⟨q,e⟩:=Cg e
 rw[Ba]
 ·exact r.base a o e
 ·intro z
  rcases List.mem_append.mp z with z|z
  ·exact q z
  ·rw[r.fr a z]at e;cases e
theorem Rep.set(r:Rep K B F O H σ ρ)(i:Nat){d:Dt}{v:V}(h:Rp K (mask (F++O) H) d v):Rep K B F O H (σ.set i (some v)) (ρ.set i (some (.is d))):=by
 have hl:=r.len
 have back:∀(j:Nat)(ds:En),(∀z,ds≠.is z)→(ρ.set i (some (.is d)))[j]? = some (some ds)→j≠i∧ρ[j]? = some (some ds):=fun j ds nz e=>by
  by_cases hj:j=i
  ·subst hj
   by_cases hk:j<ρ.length
   ·rw[List.getElem?_set_self hk]at e;cases e;exact(nz d rfl).elim
   ·rw[List.getElem?_eq_none (by simpa using hk)]at e;cases e
  ·rw[List.getElem?_set_ne (Ne.symm hj)]at e;exact⟨hj,e⟩
 refine⟨by simpa using hl,r.base,r.fr,r.th,fun j e q=>?_,fun j ds q=>?_,fun j k ds es a h1 h2 h3 h4=>?_,fun j ks q=>?_,fun j k ds es a h1 h2 h3 h4=>?_⟩
 ·by_cases hj:j=i
  ·subst hj
   by_cases hk:j<ρ.length
   ·rw[List.getElem?_set_self hk]at q
    cases q
    exact⟨v,List.getElem?_set_self (by omega),h⟩
   ·rw[List.getElem?_eq_none (by simpa using hk)]at q;cases q
  ·rw[List.getElem?_set_ne (Ne.symm hj)]at q ⊢
   exact r.is j e q
 ·obtain⟨hj,q⟩:=back j _ (fun _ z=>by cases z) q
  rw[List.getElem?_set_ne (Ne.symm hj)]
  exact r.own j ds q
 ·obtain⟨hj,q1⟩:=back j _ (fun _ z=>by cases z) h1
  obtain⟨hk,q2⟩:=back k _ (fun _ z=>by cases z) h2
  rw[List.getElem?_set_ne (Ne.symm hj)]at h3
  rw[List.getElem?_set_ne (Ne.symm hk)]at h4
  exact r.inj j k ds es a q1 q2 h3 h4
 ·obtain⟨hj,q⟩:=back j _ (fun _ z=>by cases z) q
  rw[List.getElem?_set_ne (Ne.symm hj)]
  exact r.tab j ks q
 ·obtain⟨hj,q1⟩:=back j _ (fun _ z=>by cases z) h1
  obtain⟨hk,q2⟩:=back k _ (fun _ z=>by cases z) h2
  rw[List.getElem?_set_ne (Ne.symm hj)]at h3
  rw[List.getElem?_set_ne (Ne.symm hk)]at h4
  exact r.uo j k ds es a q1 q2 h3 h4
end
def lE(K:W.Frag)(t:DTE):TE:=fun σ H Q=>∃B F O ρ,Rep K B F O H σ ρ∧t ρ fun d=>∀v H',Same H H'→Rp K (mask (F++O) H') d v→Q v H'
def lT(K:W.Frag)(t:DTT):TT:=fun σ H Q=>∃B F O ρ,Rep K B F O H σ ρ∧t ρ fun b=>∀H',Same H H'→Q b H'
def lA(K:W.Frag)(t:DTA):TA:=fun σ H Q=>∃B F O ρ,Rep K B F O H σ ρ∧t ρ fun ds=>∀vs H',Same H H'→RpL K (mask (F++O) H') ds vs→Q vs H'
def lD(K:W.Frag)(B:Hp)(F:List Addr)(D:Ends):Gd where
 nx:=fun ρ'=>∀O' σ' H',Rep K B F O' H' σ' ρ'→D.nx σ' H'
 rt:=fun d=>∀v H',Same B H'→Rp K (mask F H') d v→D.rt v H'
 bk:=fun ρ'=>∀O' σ' H',Rep K B F O' H' σ' ρ'→D.bk σ' H'
 ct:=fun ρ'=>∀O' σ' H',Rep K B F O' H' σ' ρ'→D.ct σ' H'
def lS(K:W.Frag)(t:DTS):TS:=fun D σ H=>∃B F O ρ,Rep K B F O H σ ρ∧t (lD K B F D) ρ
structure Gd.le(D D':Gd):Prop where
 nx:∀ρ,D.nx ρ→D'.nx ρ
 rt:∀d,D.rt d→D'.rt d
 bk:∀ρ,D.bk ρ→D'.bk ρ
 ct:∀ρ,D.ct ρ→D'.ct ρ
structure DE(X:Cx)(e:Expr)(t:DTE):Prop where
 mono:∀{ρ Q Q'},(∀d,Q d→Q' d)→t ρ Q→t ρ Q'
 pe:PE X e (lE X.K t)
structure DT(X:Cx)(e:Expr)(t:DTT):Prop where
 mono:∀{ρ Q Q'},(∀d,Q d→Q' d)→t ρ Q→t ρ Q'
 pt:PT X e (lT X.K t)
structure DA(X:Cx)(es:List Expr)(t:DTA):Prop where
 mono:∀{ρ Q Q'},(∀d,Q d→Q' d)→t ρ Q→t ρ Q'
 pa:PA X es (lA X.K t)
structure DS(X:Cx)(st:Stmt)(t:DTS):Prop where
 mono:∀{ρ D D'},Gd.le D D'→t D ρ→t D' ρ
 ps:PS X st (lS X.K t)
structure DSs(X:Cx)(st:List Stmt)(t:DTS):Prop where
 mono:∀{ρ D D'},Gd.le D D'→t D ρ→t D' ρ
 ps:PSs X st (lS X.K t)
theorem PE.imp{X:Cx}{e:Expr}{t t':TE}(h:PE X e t)(i:∀σ H Q,t' σ H Q→t σ H Q):PE X e t':=fun pins s σ H Q I q=>h pins s σ H Q I (i _ _ _ q)
theorem PT.imp{X:Cx}{e:Expr}{t t':TT}(h:PT X e t)(i:∀σ H Q,t' σ H Q→t σ H Q):PT X e t':=fun pins s σ H Q I q=>h pins s σ H Q I (i _ _ _ q)
theorem PA.imp{X:Cx}{e:List Expr}{t t':TA}(h:PA X e t)(i:∀σ H Q,t' σ H Q→t σ H Q):PA X e t':=fun pos pins s σ H Q I q=>h pos pins s σ H Q I (i _ _ _ q)
theorem PS.imp{X:Cx}{e:Stmt}{t t':TS}(h:PS X e t)(i:∀D σ H,t' D σ H→t D σ H):PS X e t':=fun pins s σ H D I q=>h pins s σ H D I (i _ _ _ q)
theorem PSs.imp{X:Cx}{e:List Stmt}{t t':TS}(h:PSs X e t)(i:∀D σ H,t' D σ H→t D σ H):PSs X e t':=fun pins s σ H D I q=>h pins s σ H D I (i _ _ _ q)
section
variable{X:Cx}{a b c e:Expr}{es:List Expr}{ta tb tc te:DTE}{tA tB:DTT}{tl:DTA}{pos:Pos}
def Abm(i:Nat):DTE:=fun ρ Q=>match ρ[i]? with
 |some (some (.is d))=>Q d
 |_=>False
def dC(d:Dt):DTE:=fun _ Q=>Q d
theorem dv(i:Nat){x:Str}{pos:Pos}(hN:X.N[i]? = some x:=by rfl)(hv:Vis X.env.scope x:=by first | exact Or.inl rfl | exact Or.inr (Or.inl rfl) | exact Or.inr (Or.inr rfl))(hd:(x==("__debug__":Str))=false:=by decide)
  (hcd:(x==("__classdict__":Str))=false:=by decide):DE X (.Name x pos) (Abm i) where
 mono:=fun{ρ Q Q'} hq h=>by
  unfold Abm at h ⊢
  split at h
  ·exact hq _ h
  ·exact h.elim
 pe:=(JB hN hv hd hcd).imp fun σ H Q ⟨B,F,O,ρ,r,h⟩=>by
  unfold Abm at h
  split at h
  ·rename_i d e
   obtain⟨v,h1,h2⟩:=r.is i d e
   exact⟨v,h1,h v H (Same.refl H) h2⟩
  ·exact h.elim
theorem Afu{v:V}{d:Dt}(h:PE X e (tC v))(hr:∀K H,Rp K H d v):DE X e (dC d) where
 mono:=fun hq h=>hq _ h
 pe:=h.imp fun σ H Q ⟨B,F,O,ρ,r,h⟩=>h v H (Same.refl H) (hr _ _)
theorem Ab{i j pos}:DE X (.Constant (.int i) j pos) (dC (.int i)):=Afu AiU fun _ _=>Bp.mpr rfl
theorem S6{i j pos}:DE X (.Constant (.bool i) j pos) (dC (.bl i)):=Afu AnX fun _ _=>Dd.mpr rfl
theorem NP{j pos}:DE X (.Constant .none j pos) (dC .non):=Afu Ajt fun _ _=>J5.mpr rfl
theorem JN{x j pos}:DE X (.Constant (.str x) j pos) (dC (.str x)):=Afu Ai1 fun _ _=>Rm.mpr rfl
theorem Ik{x:Str}{v:V}{u:Value}{d:Dt}{pos:Pos}(hg:Gl X x)(hm:X.mg x=some u)(r:RelV v u)(hr:∀H,Rp X.K H d v)(hd:(x==("__debug__":Str))=false:=by decide):DE X (.Name x pos) (dC d) where
 mono:=fun hq h=>hq _ h
 pe:=(Aap hg hm r hd).imp fun σ H Q ⟨B,F,O,ρ,_,h⟩=>h v H (Same.refl H) (hr _)
abbrev D2:=Dt→Dt→(Dt→Prop)→Prop
structure JG(K:W.Frag)(r:R2)(t:D2):Prop where
 mono:∀{a b Q Q'},(∀d,Q d→Q' d)→t a b Q→t a b Q'
 ok:∀(O:List Addr)(H:Hp)(a b:Dt)(x y:V)(Q:VK),(∀p∈O,H p≠none)→Rp K (mask O H) a x→Rp K (mask O H) b y →
  t a b (fun d=>∀v H',Same H H'→Rp K (mask O H') d v→Q v H')→r x y H Q
def dOp(t:D2)(ta tb:DTE):DTE:=fun ρ Q=>ta ρ fun a=>tb ρ fun b=>t a b Q
theorem Vf{K:W.Frag}{r:R2}{t:D2}(S:JG K r t){ta tb:DTE}(ma:∀{ρ Q Q'},(∀d,Q d→Q' d)→ta ρ Q→ta ρ Q')(mb:∀{ρ Q Q'},(∀d,Q d→Q' d)→tb ρ Q→tb ρ Q')
  (σ:St) (H:Hp) (Q:VK) (h:lE K (dOp t ta tb) σ H Q):tOp r (lE K ta) (lE K tb) σ H Q:=by
 obtain⟨B,F,O,ρ,R,h⟩:=h
 refine⟨B,F,O,ρ,R,ma (fun a h v H1 s1 r1=>?_) h⟩
 refine⟨B,F,O,ρ,R.same s1,mb (fun b h u H2 s2 r2=>?_) h⟩
 exact S.ok _ H2 a b v u Q ((R.same s1).same s2).th (r1.mono s2.mask) r2 (S.mono (fun d q w H3 s3 r3=>q w H3 ((s1.trans s2).trans s3) r3) h)
theorem Kw{t:D2}(m:∀{a b Q Q'},(∀d,Q d→Q' d)→t a b Q→t a b Q')(ma:∀{ρ Q Q'},(∀d,Q d→Q' d)→ta ρ Q→ta ρ Q')(mb:∀{ρ Q Q'},(∀d,Q d→Q' d)→tb ρ Q→tb ρ Q') :
  ∀{ρ Q Q'},(∀d,Q d→Q' d)→dOp t ta tb ρ Q→dOp t ta tb ρ Q':=fun hq h=>ma (fun _ h=>mb (fun _ h=>m hq h) h) h
theorem Q0{op:Operator}{r:R2}{t:D2}(ho:OpR X (binaryOp op) r)(S:JG X.K r t)(ha:DE X a ta)(hb:DE X b tb):DE X (.BinOp a op b pos) (dOp t ta tb) where
 mono:=Kw (t:=t) (ta:=ta) (tb:=tb) S.mono ha.mono hb.mono
 pe:=(AhF ho ha.pe hb.pe).imp (Vf (ta:=ta) (tb:=tb) S ha.mono hb.mono)
theorem Xu{op:CmpOp}{r:R2}{t:D2}(ho:OpR X (compareOp op) r)(S:JG X.K r t)(ha:DE X a ta)(hb:DE X b tb)(hm:behindInMarks op b=false):DE X (.Compare a [op] [b] pos) (dOp t ta tb) where
 mono:=Kw (t:=t) (ta:=ta) (tb:=tb) S.mono ha.mono hb.mono
 pe:=(Ag7 ho ha.pe hb.pe hm).imp (Vf (ta:=ta) (tb:=tb) S ha.mono hb.mono)
theorem Aly{r:R2}{t:D2}(ho:IxR X r)(S:JG X.K r t)(ha:DE X a ta)(hb:DE X b tb)(hs:Vb b):DE X (.Subscript a b pos) (dOp t ta tb) where
 mono:=Kw (t:=t) (ta:=ta) (tb:=tb) S.mono ha.mono hb.mono
 pe:=(AkS ho ha.pe hb.pe hs).imp (Vf (ta:=ta) (tb:=tb) S ha.mono hb.mono)
def dI(C:Int→Int→Prop)(g:Int→Int→Int):D2:=fun a b Q=>match a,b with
 |.int i,.int j=>C i j∧Q (.int (g i j))
 |_,_=>False
def dI0(g:Int→Int→Int):D2:=fun a b Q=>match a,b with
 |.int i,.int j=>Q (.int (g i j))
 |_,_=>False
def dB0(g:Int→Int→Bool):D2:=fun a b Q=>match a,b with
 |.int i,.int j=>Q (.bl (g i j))
 |_,_=>False
theorem Vo{K:W.Frag}{C:Int→Int→Prop}{g:Int→Int→Int}:JG K (rI C fun i j=>.int (g i j)) (dI C g) where
 mono:=fun{a b Q Q'} hq h=>by
  unfold dI at h ⊢
  split at h
  ·exact⟨h.1,hq _ h.2⟩
  ·exact h.elim
 ok:=fun O H a b x y Q _ ra rb h=>by
  unfold dI at h
  split at h
  ·exact⟨_,_,Bp.mp ra,Bp.mp rb,h.1,h.2 _ H (Same.refl H) (Bp.mpr rfl)⟩
  ·exact h.elim
theorem Acx{K:W.Frag}{g:Int→Int→Int}:JG K (rI0 fun i j=>.int (g i j)) (dI0 g) where
 mono:=fun{a b Q Q'} hq h=>by
  unfold dI0 at h ⊢
  split at h
  ·exact hq _ h
  ·exact h.elim
 ok:=fun O H a b x y Q _ ra rb h=>by
  unfold dI0 at h
  split at h
  ·exact⟨_,_,Bp.mp ra,Bp.mp rb,h _ H (Same.refl H) (Bp.mpr rfl)⟩
  ·exact h.elim
theorem Iv{K:W.Frag}{g:Int→Int→Bool}:JG K (rI0 fun i j=>.bl (g i j)) (dB0 g) where
 mono:=fun{a b Q Q'} hq h=>by
  unfold dB0 at h ⊢
  split at h
  ·exact hq _ h
  ·exact h.elim
 ok:=fun O H a b x y Q _ ra rb h=>by
  unfold dB0 at h
  split at h
  ·exact⟨_,_,Bp.mp ra,Bp.mp rb,h _ H (Same.refl H) (Dd.mpr rfl)⟩
  ·exact h.elim
theorem AfZ:OpR X (binaryOp .Mult) (rI IntMulOk fun i j=>.int (i*j)):=opI fun _ _ _ _ _ _ _ hc q=>mul_int q hc
def CDv(_ j:Int):Prop:=j≠0∧j.natAbs<2 ^ 9000
theorem log2_small{n:Nat}(h:n<2 ^ 9000):n.log2<9000:=by
 by_cases h0:n=0
 ·subst h0;decide +kernel
 ·exact(Nat.log2_lt h0).mpr h
theorem AcW:OpR X (binaryOp .FloorDiv) (rI CDv fun i j=>.int (i.fdiv j)):=opI fun _ _ _ _ _ _ _ hc q=>floordiv_int hc.1 q (.inl (PyProof.noPylong_of_log2 (log2_small hc.2)))
def Ang:D2:=dI0 fun i j=>i+j
def Amx:D2:=dI0 fun i j=>i-j
def AlS:D2:=dI IntMulOk fun i j=>i*j
def Am8:D2:=dI (fun _ j=>j≠0) fun i j=>i.fmod j
def AlZ:D2:=dI CDv fun i j=>i.fdiv j
def AmJ:D2:=dI AbB fun i j=>i ^ j.toNat
def AkT:D2:=dI AbB fun i j=>i*2 ^ j.toNat
def Aoj:D2:=dI (fun _ j=>0≤j) fun i j=>i / 2 ^ j.toNat
theorem Ce(ha:DE X a ta)(hb:DE X b tb):DE X (.BinOp a .Add b pos) (dOp Ang ta tb):=Q0 Ajk Acx ha hb
theorem Ew(ha:DE X a ta)(hb:DE X b tb):DE X (.BinOp a .Sub b pos) (dOp Amx ta tb):=Q0 Akg Acx ha hb
theorem Ax(ha:DE X a ta)(hb:DE X b tb):DE X (.BinOp a .Mult b pos) (dOp AlS ta tb):=Q0 AfZ Vo ha hb
theorem GZ(ha:DE X a ta)(hb:DE X b tb):DE X (.BinOp a .Mod b pos) (dOp Am8 ta tb):=Q0 AgJ Vo ha hb
theorem Ed(ha:DE X a ta)(hb:DE X b tb):DE X (.BinOp a .FloorDiv b pos) (dOp AlZ ta tb):=Q0 AcW Vo ha hb
theorem Ajb(ha:DE X a ta)(hb:DE X b tb):DE X (.BinOp a .Pow b pos) (dOp AmJ ta tb):=Q0 Akm Vo ha hb
theorem AjC(ha:DE X a ta)(hb:DE X b tb):DE X (.BinOp a .LShift b pos) (dOp AkT ta tb):=Q0 Aix Vo ha hb
def dLt:D2:=dB0 fun i j=>decide (i<j)
def dLe:D2:=dB0 fun i j=>decide (i≤j)
def dGt:D2:=dB0 fun i j=>decide (j<i)
def dGe:D2:=dB0 fun i j=>decide (j≤i)
theorem AmP(ha:DE X a ta)(hb:DE X b tb):DE X (.Compare a [.GtE] [b] pos) (dOp dGe ta tb):=Xu AnV Iv ha hb (Km _)
def ixL:Int→List Dt→Option Dt
 |.ofNat n,ds=>ds[n]?
 |.negSucc m,ds=>if m<ds.length then ds[ds.length-1-m]? else none
def ixD(i:Int):Dt→Option Dt
 |.tup ds=>ixL i ds
 |.lst ds=>ixL i ds
 |_=>none
theorem Ac5{i:Int}{ds:List Dt}{d:Dt}(h:ixL i ds=some d):atI ds i=some d:=by
 cases i with
 |ofNat n=>exact Ahz h
 | negSucc m =>
  have h':(if m<ds.length then ds[ds.length-1-m]? else none)=some d:=h
  by_cases hm:m<ds.length
  ·rw[if_pos hm]at h'
   unfold atI ixN
   have h1:¬(0:Int)≤Int.negSucc m:=by omega
   have h2:-(ds.length:Int)≤Int.negSucc m:=by omega
   have h3:(Int.negSucc m+(ds.length:Int)).toNat=ds.length-1-m:=by omega
   rw[if_neg h1,if_pos h2,Option.bind_some,h3]
   exact h'
  ·rw[if_neg hm]at h';cases h'
def dIx:D2:=fun a b Q=>match b with
 | .int i=>match ixD i a with
  |some d=>Q d
  |none=>False
 |_=>False
theorem Ac3{K:W.Frag}{H:Hp}{ds:List Dt}{xs:List V}{i:Int}{d:Dt}(r:RpL K H ds xs)(h:atI ds i=some d):∃v,atI xs i=some v∧Rp K H d v:=by
 unfold atI at h ⊢
 rw[r.len]
 cases e:ixN ds.length i with
 |none=>rw[e]at h;cases h
 | some j =>
  rw[e]at h
  exact r.get h
theorem Aj2{K:W.Frag}:JG K (rIx K) dIx where
 mono:=fun{a b Q Q'} hq h=>by
  unfold dIx at h ⊢
  split at h
  ·split at h
   ·rename_i e;exact hq _ h
   ·exact h.elim
  ·exact h.elim
 ok:=fun O H a b x y Q _ ra rb h=>by
  unfold dIx at h
  split at h
  ·split at h
   ·rename_i i _ d e
    have eb:=Bp.mp rb
    subst eb
    cases a with
    | tup ds =>
     obtain⟨p,xs,rfl,hs,hl⟩:=Dv.mp ra
     obtain⟨v,e1,e2⟩:=Ac3 hl (Ac5 e)
     exact .inr (.inl ⟨p,xs,i,v,rfl,rfl,Bk.qZ hs,e1,h v H (Same.refl H) e2⟩)
    | lst ds =>
     obtain⟨p,xs,rfl,hs,hl⟩:=Et ra
     obtain⟨v,e1,e2⟩:=Ac3 hl (Ac5 e)
     exact .inl ⟨p,xs,i,v,rfl,rfl,Bk.seq hs,e1,h v H (Same.refl H) e2⟩
    |_=>cases e
   ·exact h.elim
  ·exact h.elim
theorem Ac(ha:DE X a ta)(hb:DE X b tb)(hs:Vb b:=by exact fun _ _=>rfl):DE X (.Subscript a b pos) (dOp dIx ta tb):=Aly AjA Aj2 ha hb hs
def Afm:Dt→(Dt→Prop)→Prop:=fun a Q=>match a with
 |.int i=>Q (.int (-i))
 |_=>False
def dUn(t:Dt→(Dt→Prop)→Prop)(ta:DTE):DTE:=fun ρ Q=>ta ρ fun a=>t a Q
theorem Dp(ha:DE X a ta):DE X (.UnaryOp .USub a pos) (dUn Afm ta) where
 mono:=fun hq h=>ha.mono (fun d h=>by
  unfold Afm at h ⊢
  split at h
  ·exact hq _ h
  ·exact h.elim) h
 pe:=(AnP Aip ha.pe).imp fun σ H Q ⟨B,F,O,ρ,R,h⟩=>⟨B,F,O,ρ,R,ha.mono (fun d h v H1 s1 r1=>by
  unfold Afm at h
  split at h
  ·exact⟨_,Bp.mp r1,h _ H1 s1 (Bp.mpr rfl)⟩
  ·exact h.elim) h⟩
def AoY(ta:DTE):DTE:=fun ρ Q=>ta ρ fun a=>match a with
 |.bl k=>Q (.bl (!k))
 |_=>False
def Am3(ta tb:DTE):DTE:=fun ρ Q=>ta ρ fun a=>match a with
 |.bl k=>if k=true then tb ρ Q else Q (.bl false)
 |_=>False
def dOr(ta tb:DTE):DTE:=fun ρ Q=>ta ρ fun a=>match a with
 |.bl k=>if k=true then Q (.bl true)else tb ρ Q
 |_=>False
theorem Qt{op}(h:DE X a ta):DE X (.BoolOp op [a] pos) ta:=⟨h.mono,AiZ h.pe⟩
theorem Aew{rest:List Expr}(ha:DE X a ta)(hb:DE X (.BoolOp .And (b::rest) pos) tb):DE X (.BoolOp .And (a::b::rest) pos) (Am3 ta tb) where
 mono:=fun hq h=>ha.mono (fun d h=>by
  split at h
  ·split at h
   ·rename_i e;simp only[e,if_true];exact hb.mono hq h
   ·rename_i e;simp only[e];exact hq _ h
  ·exact h.elim) h
 pe:=(AkE ha.pe hb.pe).imp fun σ H Q ⟨B,F,O,ρ,R,h⟩=>⟨B,F,O,ρ,R,ha.mono (fun d h v H1 s1 r1=>by
  split at h
  ·rename_i k
   refine⟨k,Dd.mp r1,?_⟩
   cases k with
   |true=>exact⟨B,F,O,ρ,R.same s1,hb.mono (fun d q v H2 s2 r2=>q v H2 (s1.trans s2) r2) h⟩
   |false=>exact h _ H1 s1 (Dd.mpr rfl)
  ·exact h.elim) h⟩
theorem Adi{rest:List Expr}(ha:DE X a ta)(hb:DE X (.BoolOp .Or (b::rest) pos) tb):DE X (.BoolOp .Or (a::b::rest) pos) (dOr ta tb) where
 mono:=fun hq h=>ha.mono (fun d h=>by
  split at h
  ·split at h
   ·rename_i e;simp only[e,if_true];exact hq _ h
   ·rename_i e;simp only[e];exact hb.mono hq h
  ·exact h.elim) h
 pe:=(AnY ha.pe hb.pe).imp fun σ H Q ⟨B,F,O,ρ,R,h⟩=>⟨B,F,O,ρ,R,ha.mono (fun d h v H1 s1 r1=>by
  split at h
  ·rename_i k
   refine⟨k,Dd.mp r1,?_⟩
   cases k with
   |false=>exact⟨B,F,O,ρ,R.same s1,hb.mono (fun d q v H2 s2 r2=>q v H2 (s1.trans s2) r2) h⟩
   |true=>exact h _ H1 s1 (Dd.mpr rfl)
  ·exact h.elim) h⟩
def RL(t:DTE):DTT:=fun ρ Q=>t ρ fun a=>match a with
 |.bl k=>Q k
 |_=>False
theorem Ss{t:DTE}(m:∀{ρ Q Q'},(∀d,Q d→Q' d)→t ρ Q→t ρ Q'):∀{ρ Q Q'},(∀d,Q d→Q' d)→RL t ρ Q→RL t ρ Q':=fun hq h=>m (fun d h=>by
  split at h
  ·exact hq _ h
  ·exact h.elim) h
theorem QC(h:DE X e te)(he:∀whole,isTrue e X.env whole=(do let v ←whole;standAt e.pos;holding [v] (truthy v)):=by intro _;rfl):DT X e (RL te) where
 mono:=Ss (t:=te) h.mono
 pt:=(Aju h.pe he).imp fun σ H Q ⟨B,F,O,ρ,R,q⟩=>⟨B,F,O,ρ,R,h.mono (fun d q v H1 s1 r1=>by
  split at q
  ·exact⟨_,Dd.mp r1,q H1 s1⟩
  ·exact q.elim) q⟩
theorem Qe{op:CmpOp}{r:R2}{t:D2}(ho:OpR X (compareOp op) r)(S:JG X.K r t)(ha:DE X a ta)(hb:DE X b tb)(hm:behindInMarks op b=false):DT X (.Compare a [op] [b] pos) (RL (dOp t ta tb)) where
 mono:=Ss (t:=dOp t ta tb) (Kw (t:=t) (ta:=ta) (tb:=tb) S.mono ha.mono hb.mono)
 pt:=(Afr ho ha.pe hb.pe hm).imp fun σ H Q ⟨B,F,O,ρ,R,q⟩=>Vf (ta:=ta) (tb:=tb) S ha.mono hb.mono σ H _ ⟨B,F,O,ρ,R,Kw (t:=t) (ta:=ta) (tb:=tb) S.mono ha.mono hb.mono (fun d q v H1 s1 r1=>by
  split at q
  ·exact⟨_,Dd.mp r1,q H1 s1⟩
  ·exact q.elim) q⟩
theorem Rj(ha:DE X a ta)(hb:DE X b tb):DT X (.Compare a [.Lt] [b] pos) (RL (dOp dLt ta tb)):=Qe Acf Iv ha hb (Km _)
theorem WL(ha:DE X a ta)(hb:DE X b tb):DT X (.Compare a [.Gt] [b] pos) (RL (dOp dGt ta tb)):=Qe Ak9 Iv ha hb (Km _)
def Ah8(t:DTT):DTT:=fun ρ Q=>t ρ fun k=>Q (!k)
def AhH(t u:DTT):DTT:=fun ρ Q=>t ρ fun k=>if k=true then u ρ Q else Q false
def AkY(t u:DTT):DTT:=fun ρ Q=>t ρ fun k=>if k=true then Q true else u ρ Q
theorem Rf(ha:DT X a tA):DT X (.UnaryOp .Not a pos) (Ah8 tA) where
 mono:=fun hq h=>ha.mono (fun _ h=>hq _ h) h
 pt:=(AiP ha.pt).imp fun σ H Q ⟨B,F,O,ρ,R,q⟩=>⟨B,F,O,ρ,R,q⟩
structure DW(X:Cx)(e:Expr)(t:DTT):Prop where
 mono:∀{ρ Q Q'},(∀d,Q d→Q' d)→t ρ Q→t ρ Q'
 pw:PW X e (lT X.K t)
theorem DW.dt{t:DTT}(h:DW X e t):DT X e t:=⟨h.mono,h.pw.pt⟩
theorem Mt(ha:DT X a tA):DW X (.BoolOp .And [a] pos) tA:=⟨ha.mono,Af4 ha.pt⟩
theorem Aer(ha:DT X a tA):DW X (.BoolOp .Or [a] pos) tA:=⟨ha.mono,Aja ha.pt⟩
theorem PW.imp{t t':TT}(h:PW X e t)(i:∀σ H Q,t' σ H Q→t σ H Q):PW X e t':=fun wh pins s σ H Q I q=>h wh pins s σ H Q I (i _ _ _ q)
theorem Qa{rest:List Expr}(ha:DT X a tA)(hb:DW X (.BoolOp .And (b::rest) pos) tB):DW X (.BoolOp .And (a::b::rest) pos) (AhH tA tB) where
 mono:=fun hq h=>ha.mono (fun k h=>by
  cases k with
  |true=>exact hb.mono hq h
  |false=>exact hq _ h) h
 pw:=(AjR ha.pt hb.pw).imp fun σ H Q ⟨B,F,O,ρ,R,q⟩=>⟨B,F,O,ρ,R,ha.mono (fun k h H1 s1=>by
  cases k with
  |true=>exact⟨B,F,O,ρ,R.same s1,hb.mono (fun k q H2 s2=>q H2 (s1.trans s2)) h⟩
  |false=>exact h H1 s1) q⟩
theorem Ah6{rest:List Expr}(ha:DT X a tA)(hb:DW X (.BoolOp .Or (b::rest) pos) tB):DW X (.BoolOp .Or (a::b::rest) pos) (AkY tA tB) where
 mono:=fun hq h=>ha.mono (fun k h=>by
  cases k with
  |true=>exact hq _ h
  |false=>exact hb.mono hq h) h
 pw:=(AmE ha.pt hb.pw).imp fun σ H Q ⟨B,F,O,ρ,R,q⟩=>⟨B,F,O,ρ,R,ha.mono (fun k h H1 s1=>by
  cases k with
  |false=>exact⟨B,F,O,ρ,R.same s1,hb.mono (fun k q H2 s2=>q H2 (s1.trans s2)) h⟩
  |true=>exact h H1 s1) q⟩
def An8(t:DTT)(ta tb:DTE):DTE:=fun ρ Q=>t ρ fun k=>if k=true then ta ρ Q else tb ρ Q
def Al2:DTA:=fun _ Q=>Q []
def AhT(te:DTE)(tl:DTA):DTA:=fun ρ Q=>te ρ fun d=>tl ρ fun ds=>Q (d::ds)
theorem Ad:DA X [] Al2:=⟨fun hq h=>hq _ h,Lg.imp fun σ H Q ⟨B,F,O,ρ,R,q⟩=>q [] H (Same.refl H) RpL.nil⟩
theorem Aa(ha:DE X e te)(hr:DA X es tl)(hs:starEach (e::es) X.env=(false,eval e X.env)::starEach es X.env:=by rfl):DA X (e::es) (AhT te tl) where
 mono:=fun hq h=>ha.mono (fun d h=>hr.mono (fun ds h=>hq _ h) h) h
 pa:=(Ei ha.pe hr.pa hs).imp fun σ H Q ⟨B,F,O,ρ,R,q⟩=>⟨B,F,O,ρ,R,ha.mono (fun d h v H1 s1 r1=>⟨B,F,O,ρ,R.same s1,hr.mono (fun ds h vs H2 s2 r2 =>
  h (v::vs) H2 (s1.trans s2) (RpL.cons (r1.mono s2.mask) r2)) h⟩) q⟩
def dTup(tl:DTA):DTE:=fun ρ Q=>tl ρ fun ds=>ds.length≤sizeLine∧Q (.tup ds)
def AnI(tl:DTA):DTE:=fun ρ Q=>tl ρ fun ds=>ds.length≤sizeLine∧Q (.lst ds)
theorem MF{O:List Addr}{H:Hp}{p:Addr}{o:HO}(hp:p∉O):mask O (upd H p o) p=some o:=by rw[Ba hp,Av]
theorem Bj{k}(h:DA X es tl):DE X (.Tuple es k pos) (dTup tl) where
 mono:=fun hq z=>h.mono (fun ds q=>⟨q.1,hq _ q.2⟩) z
 pe:=(Ac2 h.pa).imp fun σ H Q ⟨B,F,O,ρ,R,q⟩=>⟨B,F,O,ρ,R,h.mono (fun ds z vs H1 s1 r1=>⟨by rw[r1.len];exact z.1,fun p hp=>by
  have np:p∉F++O:=fun m=>(R.same s1).th p m hp
  exact z.2 (.ref p) _ (s1.trans (Same.upd hp)) (Dv.mpr ⟨p,vs,rfl,SqT.of (MF np),r1.mono (Same.upd hp).mask⟩)⟩) q⟩
theorem Gz(h:DA X es tl):DE X (.List es pos) (AnI tl) where
 mono:=fun hq z=>h.mono (fun ds q=>⟨q.1,hq _ q.2⟩) z
 pe:=(Xl h.pa).imp fun σ H Q ⟨B,F,O,ρ,R,q⟩=>⟨B,F,O,ρ,R,h.mono (fun ds z vs H1 s1 r1=>⟨by rw[r1.len];exact z.1,fun p hp=>by
  have np:p∉F++O:=fun m=>(R.same s1).th p m hp
  exact z.2 (.ref p) _ (s1.trans (Same.upd hp)) (Jv ⟨p,vs,rfl,(MF np),r1.mono (Same.upd hp).mask⟩)⟩) q⟩
abbrev DSp:=List Dt→(Dt→Prop)→Prop
def lSp(K:W.Frag)(sp:DSp):Sp:=fun vs H Q _=>∃F ds,(∀a∈F,H a≠none)∧RpL K (mask F H) ds vs∧sp ds fun d=>∀v H',Same H H'→Rp K (mask F H') d v→Q v H'
def Ja(sp:DSp):Prop:=∀ds Q Q',(∀d,Q d→Q' d)→sp ds Q→sp ds Q'
def dCall(sp:DSp)(tl:DTA):DTE:=fun ρ Q=>tl ρ fun ds=>sp ds Q
theorem AgQ{CX:CXT}{k:Nat}{f:Addr}{fd:FuncData}{ps:List Str}{sp:DSp}{x:Str}{p:Pos}(m:Ja sp)(G:Ef X.prog X.w X.K X.mg X.base CX0 k f fd ps (lSp X.K sp))(hr:CK k X.A)(hg:Gl X x)(hm:X.mg x=some (.ref f))
  (hk:W.keepIn X.K (.ref f)=true) (hb:Binds X.K fd ps []) (ha:DA X (e::es) tl) (hdb:(x==("__debug__":Str))=false:=by decide)
  (he:starEach (e::es) X.env=(false,eval e X.env)::starEach es X.env:=by rfl) (hpl:(backTo pos (starEach es X.env)).any (·.1)=false:=by rfl):DE X (.Call (.Name x p) (e::es) [] pos) (dCall sp tl) where
 mono:=fun hq z=>ha.mono (fun ds q=>m _ _ _ hq q) z
 pe:=(Afd G hr hg hm hk hb .nil WY ha.pa hdb he hpl).imp fun σ H Q ⟨B,F,O,ρ,R,q⟩=>⟨B,F,O,ρ,R,ha.mono (fun ds z vs H1 s1 r1=>by
  show lSp X.K sp (vs++[]) H1 Q E0
  rw[List.append_nil]
  exact⟨F++O,ds,(R.same s1).th,r1,m _ _ _ (fun d q v H2 s2 r2=>q v H2 (s1.trans s2) r2) z⟩) q⟩
variable{st:Stmt}{sts:List Stmt}{t u:DTS}
def Aij:DTS:=fun D ρ=>D.nx ρ
def Wt(t u:DTS):DTS:=fun D ρ=>t {D with nx:=u D} ρ
theorem Ale{D D':Gd}{P P':BP→Prop}(h:Gd.le D D')(hp:∀ρ,P ρ→P' ρ):Gd.le {D with nx:=P} {D' with nx:=P'}:=⟨hp,h.rt,h.bk,h.ct⟩
theorem le_refl{D:Gd}:Gd.le D D:=⟨fun _ h=>h,fun _ h=>h,fun _ h=>h,fun _ h=>h⟩
theorem Bq:DSs X [] Aij:=⟨fun hd h=>hd.nx _ h,ZG.imp fun D σ H ⟨B,F,O,ρ,R,h⟩=>h O σ H R⟩
theorem Ae(h1:DS X st t)(h2:DSs X sts u):DSs X (st::sts) (Wt t u) where
 mono:=fun hd h=>h1.mono (Ale hd fun ρ q=>h2.mono hd q) h
 ps:=(J4 h1.ps h2.ps).imp fun D σ H ⟨B,F,O,ρ,R,h⟩=>⟨B,F,O,ρ,R,h1.mono (D:={lD X.K B F D with nx:=u (lD X.K B F D)}) ⟨fun ρ' q O' σ' H' R'=>⟨B,F,O',ρ',R',q⟩,fun _ q=>q,fun _ q=>q,fun _ q=>q⟩ h⟩
theorem Aj(h1:DS X st t):DSs X [st] t:=⟨h1.mono,Ih h1.ps⟩
def AdP:DTS:=fun _ _=>False
theorem VJ:DS X st AdP:=⟨fun _ h=>h.elim,Adc.imp fun D σ H ⟨B,F,O,ρ,R,h⟩=>h.elim⟩
def Aif(te:DTE):DTS:=fun D ρ=>te ρ fun _=>D.nx ρ
theorem Ng(he:DE X e te)(hs:swapsWith e none pos.line X.env=pure false:=by rfl):DS X (.Expr e pos) (Aif te) where
 mono:=fun hd h=>he.mono (fun _ h=>hd.nx _ h) h
 ps:=(KJ he.pe hs).imp fun D σ H ⟨B,F,O,ρ,R,h⟩=>⟨B,F,O,ρ,R,he.mono (fun d q v H1 s1 _=>q O σ H1 (R.same s1)) h⟩
def Aka(te:DTE):DTS:=fun D ρ=>te ρ D.rt
theorem QM{F O:List Addr}{H:Hp}:Same (mask (F++O) H) (mask F H):=Fb fun _ h=>List.mem_append_left _ h
theorem Ay(he:DE X e te):DS X (.Return (some e) pos) (Aka te) where
 mono:=fun hd h=>he.mono (fun _ h=>hd.rt _ h) h
 ps:=(AdR he.pe).imp fun D σ H ⟨B,F,O,ρ,R,h⟩=>⟨B,F,O,ρ,R,he.mono (fun d q v H1 s1 r1=>q v H1 (R.base.trans s1) (r1.mono QM)) h⟩
def Aln:DTS:=fun D _=>D.rt .non
def dIf(c:DTT)(t u:DTS):DTS:=fun D ρ=>c ρ fun k=>if k=true then t D ρ else u D ρ
theorem CV{sa sb:List Stmt}(hc:DT X c tA)(ha:DSs X sa t)(hb:DSs X sb u):DS X (.If c sa sb pos) (dIf tA t u) where
 mono:=fun hd h=>hc.mono (fun k h=>by
  cases k with
  |true=>exact ha.mono hd h
  |false=>exact hb.mono hd h) h
 ps:=(AhL hc.pt ha.ps hb.ps).imp fun D σ H ⟨B,F,O,ρ,R,h⟩=>⟨B,F,O,ρ,R,hc.mono (fun k h H1 s1=>by
  cases k with
  |true=>exact⟨B,F,O,ρ,R.same s1,h⟩
  |false=>exact⟨B,F,O,ρ,R.same s1,h⟩) h⟩
abbrev DTG:=Dt→BP→(BP→Prop)→Prop
abbrev Sd:=List Dt→BP→(BP→Prop)→Prop
def lG(K:W.Frag)(g:DTG):TG:=fun v σ H Q=>∃B F O ρ d,Rep K B F O H σ ρ∧Rp K (mask (F++O) H) d v∧g d ρ fun ρ'=>∀σ',Rep K B F O H σ' ρ'→Q σ' H
def lGs(K:W.Frag)(g:Sd):TGs:=fun vs σ H Q=>∃B F O ρ ds,Rep K B F O H σ ρ∧RpL K (mask (F++O) H) ds vs∧g ds ρ fun ρ'=>∀σ',Rep K B F O H σ' ρ'→Q σ' H
structure DG(X:Cx)(tg:Expr)(g:DTG):Prop where
 mono:∀{d ρ Q Q'},(∀ρ',Q ρ'→Q' ρ')→g d ρ Q→g d ρ Q'
 pg:PG X tg (lG X.K g)
structure DGs(X:Cx)(tgs:List Expr)(g:Sd):Prop where
 mono:∀{d ρ Q Q'},(∀ρ',Q ρ'→Q' ρ')→g d ρ Q→g d ρ Q'
 pg:PGs X tgs (lGs X.K g)
theorem PG.imp{e:Expr}{t t':TG}(h:PG X e t)(i:∀v σ H Q,t' v σ H Q→t v σ H Q):PG X e t':=fun pins s σ H v u Q I r q=>h pins s σ H v u Q I r (i _ _ _ _ q)
theorem PGs.imp{e:List Expr}{t t':TGs}(h:PGs X e t)(i:∀v σ H Q,t' v σ H Q→t v σ H Q):PGs X e t':=fun pins s σ H v u Q I r q=>h pins s σ H v u Q I r (i _ _ _ _ q)
def Ri(i:Nat):DTG:=fun d ρ Q=>Q (ρ.set i (some (.is d)))
theorem Ij(i:Nat){x:Str}(hN:X.N.Nodup)(hi:X.N[i]? = some x:=by rfl)(hx:Loc X.env.scope x:=by first | exact Or.inl rfl | exact Or.inr rfl)
  (hf:X.fn x=true∨X.env.scope.names.lookup x=some .local:=by first|exact .inl rfl|exact .inr rfl|assumption):DG X (.Name x pos) (Ri i) where
 mono:=fun hq h=>hq _ h
 pg:=(Vj hN hi hx hf).imp fun v σ H Q ⟨B,F,O,ρ,d,R,r,h⟩=>h _ (R.set i r)
def Aa0:Sd:=fun ds ρ Q=>match ds with
 | []=>Q ρ
 |_=>False
def Vg(g:DTG)(gs:Sd):Sd:=fun ds ρ Q=>match ds with
 |d::r=>g d ρ fun ρ'=>gs r ρ' Q
 | []=>False
theorem Aa1:DGs X [] Aa0 where
 mono:=fun hq h=>by
  unfold Aa0 at h ⊢
  split at h
  ·exact hq _ h
  ·exact h.elim
 pg:=Agg.imp fun vs σ H Q ⟨B,F,O,ρ,ds,R,r,h⟩=>by
  unfold Aa0 at h
  split at h
  ·exact⟨BL.mp r,h σ R⟩
  ·exact h.elim
theorem Mh{g:DTG}{gs:Sd}(h1:DG X e g)(h2:DGs X es gs)(hs:(assignEach (e::es) X.env).map (·.2)=assign e X.env::(assignEach es X.env).map (·.2):=by rfl):DGs X (e::es) (Vg g gs) where
 mono:=fun hq h=>by
  unfold Vg at h ⊢
  split at h
  ·exact h1.mono (fun ρ' q=>h2.mono hq q) h
  ·exact h.elim
 pg:=(Ac4 h1.pg h2.pg hs).imp fun vs σ H Q ⟨B,F,O,ρ,ds,R,r,h⟩=>by
  unfold Vg at h
  split at h
  ·obtain⟨v,vr,rfl,r1,r2⟩:=Bc.mp r
   exact⟨v,vr,rfl,B,F,O,ρ,_,R,r1,h1.mono (fun ρ' q σ' R'=>⟨B,F,O,ρ',_,R',r2,q⟩) h⟩
  ·exact h.elim
def AaW(n:Nat)(gs:Sd):DTG:=fun d ρ Q=>match d with
 |.tup ds=>ds.length=n∧gs ds ρ Q
 |_=>False
theorem Aiu{k:Nat}{gs:Sd}{n:Nat}(hc:X.calm=true)(h:DGs X es gs)(hn:(assignEach es X.env).length=n:=by rfl)(hst:(assignEach es X.env).findIdx? (·.1)=none:=by rfl):DG X (.Tuple es k pos) (AaW n gs) where
 mono:=fun hq z=>by
  unfold AaW at z ⊢
  split at z
  ·exact⟨z.1,h.mono hq z.2⟩
  ·exact z.elim
 pg:=(AjX hc h.pg hn hst).imp fun v σ H Q ⟨B,F,O,ρ,d,R,r,z⟩=>by
  unfold AaW at z
  split at z
  ·obtain⟨a,xs,rfl,hs,hl⟩:=Dv.mp r
   exact⟨a,xs,rfl,Bk.qZ hs,by rw[hl.len];exact z.1,B,F,O,ρ,_,R,hl,z.2⟩
  ·exact z.elim
def Aft(te:DTE)(g:DTG):DTS:=fun D ρ=>te ρ fun d=>g d ρ D.nx
theorem AeV{tg:Expr}{g:DTG}(he:DE X e te)(hg:DG X tg g)(hs:swapsWithSole [tg] e pos.line X.env=pure false:=by rfl)(hw:swappedStores [tg] e X.env=pure none:=by rfl)
  (h1:(assignEach [tg] X.env).map (·.2)=[assign tg X.env]:=by rfl):DS X (.Assign [tg] e pos) (Aft te g) where
 mono:=fun hd h=>he.mono (fun _ h=>hg.mono (fun _ h=>hd.nx _ h) h) h
 ps:=(Akc he.pe hg.pg hs hw h1).imp fun D σ H ⟨B,F,O,ρ,R,h⟩=>⟨B,F,O,ρ,R,he.mono (fun d q v H1 s1 r1=>⟨B,F,O,ρ,d,R.same s1,r1,hg.mono (fun ρ' q σ' R'=>q O σ' H1 R') q⟩) h⟩
def Acp(c:DTT)(tb:DTS):DTS:=fun D ρ=>∃W:Nat→BP→Prop,(∃m,W m ρ)∧∀m ρ,W m ρ →
 c ρ fun k=>if k=true then tb {D with nx:=fun ρ'=>∃m',m'<m∧W m' ρ',ct:=fun ρ'=>∃m',m'<m∧W m' ρ',bk:=D.nx} ρ else D.nx ρ
theorem Jl{body:List Stmt}(hp:PassesOwn (model X.prog X.w) X.A X.env X.xe)(hc:DT X c tA)(hb:DSs X body t):DS X (.While c body [] pos) (Acp tA t) where
 mono:=fun{ρ D D'} hd ⟨W,h0,h⟩=>⟨W,h0,fun m ρ w=>hc.mono (fun k h=>by
  cases k with
  |true=>exact hb.mono (D:={D with nx:=fun ρ'=>∃m',m'<m∧W m' ρ',ct:=fun ρ'=>∃m',m'<m∧W m' ρ',bk:=D.nx}) ⟨fun _ q=>q,hd.rt,hd.nx,fun _ q=>q⟩ h
  |false=>exact hd.nx _ h) (h m ρ w)⟩
 ps:=(AdA hp hc.pt hb.ps).imp fun D σ H ⟨B,F,O,ρ,R,W,⟨m0,w0⟩,h⟩=>by
  refine⟨fun m σ H=>∃O ρ,Rep X.K B F O H σ ρ∧W m ρ,⟨m0,O,ρ,R,w0⟩,?_⟩
  rintro m σ H ⟨O,ρ,R,w⟩
  refine⟨B,F,O,ρ,R,hc.mono (fun k h H1 s1=>?_) (h m ρ w)⟩
  cases k with
  | true =>
   refine⟨fun σ' H'=>∃m',m'<m∧∃O ρ,Rep X.K B F O H' σ' ρ∧W m' ρ,fun σ' H' ⟨m',l,q⟩=>⟨m',l,q⟩,B,F,O,ρ,R.same s1,hb.mono (D:={lD X.K B F D with nx:=fun ρ'=>∃m',m'<m∧W m' ρ',ct:=fun ρ'=>∃m',m'<m∧W m' ρ',bk:=(lD X.K B F D).nx}) ⟨?_,fun _ q=>q,fun _ q=>q,?_⟩ h⟩
   ·rintro ρ' ⟨m',l,w'⟩ O' σ' H' R'
    exact⟨m',l,O',ρ',R',w'⟩
   ·rintro ρ' ⟨m',l,w'⟩ O' σ' H' R'
    exact⟨m',l,O',ρ',R',w'⟩
  |false=>exact h O σ H1 (R.same s1)
def ItD(K:W.Frag)(M:Hp)(J:It)(items:List Dt):Prop:=∀H,Same M H →
 (∀(k:Nat) d,items[k]? = some d→J.go k H∧∀x H',J.yld k H x H'→H'=H∧Rp K M d x)∧J.stop items.length H
abbrev DTI:=BP→(List Dt→Prop)→Prop
def lI(K:W.Frag)(ti:DTI):TI:=fun σ H R=>∃B F O ρ,Rep K B F O H σ ρ∧ti ρ fun items=>∀J H',Same H H'→ItD K (mask (F++O) H') J items→R J H'
structure DI(X:Cx)(tg iter:Expr)(ti:DTI):Prop where
 mono:∀{ρ Q Q'},(∀d,Q d→Q' d)→ti ρ Q→ti ρ Q'
 pi:PI X tg iter (lI X.K ti)
theorem PI.imp{tg e:Expr}{t t':TI}(h:PI X tg e t)(i:∀σ H Q,t' σ H Q→t σ H Q):PI X tg e t':=fun pins s σ H R I q=>h pins s σ H R I (i _ _ _ q)
def Ahf(ti:DTI)(g:DTG)(tb:DTS):DTS:=fun D ρ=>ti ρ fun items=>∃W:Nat→BP→Prop,W 0 ρ ∧
 (∀(k:Nat) d ρ',items[k]? = some d→W k ρ'→g d ρ' fun ρ2=>tb {D with nx:=W (k+1),ct:=W (k+1),bk:=D.nx} ρ2)∧∀ρ',W items.length ρ'→D.nx ρ'
theorem Rep.rebase{K:W.Frag}{B:Hp}{F O:List Addr}{H:Hp}{σ:St}{ρ:BP}(r:Rep K B F O H σ ρ):Rep K (mask O H) F O H σ ρ :=
 ⟨r.len,Bk,fun _ h=>Dz h,r.th,r.is,r.own,r.inj,r.tab,r.uo⟩
theorem Rep.abm{K:W.Frag}{B B':Hp}{F O O':List Addr}{H H':Hp}{σ σ':St}{ρ ρ':BP}(r:Rep K B F O H σ ρ)(r':Rep K (mask O H) F O' H' σ' ρ'):Rep K B F O' H' σ' ρ':=by
 have s:Same B (mask O H):=fun a o e=>by
  rw[Ba]
  ·exact r.base a o e
  ·intro z;rw[r.fr a z]at e;cases e
 refine⟨r'.len,s.trans r'.base,fun a h=>?_,r'.th,r'.is,r'.own,r'.inj,r'.tab,r'.uo⟩
 cases q:B a with
 |none=>rfl
 |some o=>have:=s a o q;rw[r'.fr a h]at this;cases this
theorem Rep.sub{K:W.Frag}{B:Hp}{F O:List Addr}{H:Hp}{σ:St}{ρ:BP}(r:Rep K B F O H σ ρ):Same B (mask O H):=fun a o e=>by
 rw[Ba]
 ·exact r.base a o e
 ·intro z;rw[r.fr a z]at e;cases e
theorem Abw{F O:List Addr}{H:Hp}:mask F (mask O H)=mask (F++O) H:=by
 funext a
 by_cases h1:a∈F
 ·rw[Dz h1,Dz (List.mem_append_left _ h1)]
 ·rw[Ba h1]
  by_cases h2:a∈O
  ·rw[Dz h2,Dz (List.mem_append_right _ h2)]
  ·rw[Ba h2,Ba fun z=>(List.mem_append.mp z).elim h1 h2]
theorem Uv{tg iter:Expr}{body:List Stmt}{ti:DTI}{g:DTG}(hp:PassesOwn (model X.prog X.w) X.A X.env X.xe)(hc:X.calm=true)(hi:DI X tg iter ti)(hg:DG X tg g)(hb:DSs X body t)
  (hs:∀x,foldedSetIterable iter X.env x=pure x:=by intro _;rfl):DS X (.For tg iter body [] pos) (Ahf ti g t) where
 mono:=fun{ρ D D'} hd h=>hi.mono (fun items ⟨W,h0,h,he⟩=>⟨W,h0,fun k d ρ' e w=>hg.mono (fun ρ2 q=>hb.mono (D:={D with nx:=W (k+1),ct:=W (k+1),bk:=D.nx}) ⟨fun _ q=>q,hd.rt,hd.nx,fun _ q=>q⟩ q) (h k d ρ' e w),fun ρ' w=>hd.nx _ (he ρ' w)⟩) h
 ps:=(Ajy hp hc hi.pi hg.pg hb.ps hs).imp fun D σ H ⟨B,F,O,ρ,R,h⟩=>by
  refine⟨B,F,O,ρ,R,hi.mono (fun items z J H1 s1 it=>?_) h⟩
  obtain⟨W,h0,h,he⟩:=z
  have R1:=R.same s1
  refine⟨fun i m σ H=>m+i=items.length∧∃O' ρ',Rep X.K (mask O H1) F O' H σ ρ'∧W i ρ',⟨items.length,by omega,O,ρ,R1.rebase,h0⟩,?_⟩
  rintro i m σ2 H2 ⟨hm,O',ρ',R2,w⟩
  have sb:Same (mask (F++O) H1) H2:=fun a o e=>R2.base a o (by
   obtain⟨q,e⟩:=Cg e
   rw[Ba fun z=>q (List.mem_append_right _ z)];exact e)
  obtain⟨go,stop⟩:=it H2 sb
  by_cases hlt:i<items.length
  ·refine .inr ⟨(go i items[i] (by simp[hlt])).1,fun σ' H'=>∃O' ρ',Rep X.K (mask O H1) F O' H' σ' ρ'∧W (i+1) ρ',fun σ' H' q=>⟨m-1,by omega,by omega,q⟩,fun x H3 y=>?_⟩
   obtain⟨e,r⟩:=(go i items[i] (by simp[hlt])).2 x H3 y
   subst e
   have r':Rp X.K (mask (F++O') H3) items[i] x:=r.mono (by rw[←Abw];exact R2.below)
   refine⟨_,F,O',ρ',_,R2,r',hg.mono (fun ρ2 q σ3 R3=>⟨_,F,O',ρ2,R3,hb.mono (D:={lD X.K B F D with nx:=W (i+1),ct:=W (i+1),bk:=(lD X.K B F D).nx}) ⟨?_,?_,?_,?_⟩ q⟩) (h i _ ρ' (by simp[hlt]) w)⟩
   ·exact fun ρ4 w4 O4 σ4 H4 R4=>⟨O4,ρ4,R4,w4⟩
   ·exact fun d q v H4 s4 r4=>q v H4 (R1.sub.trans s4) r4
   ·exact fun ρ4 q O4 σ4 H4 R4=>q O4 σ4 H4 (R1.abm (B':=B) R4)
   ·exact fun ρ4 w4 O4 σ4 H4 R4=>⟨O4,ρ4,R4,w4⟩
  ·have e:i=items.length:=by omega
   subst e
   exact .inl ⟨stop,he ρ' w O' σ2 H2 (R1.abm (B':=B) R2)⟩
def AhP(te:DTE):DTI:=fun ρ Q=>te ρ fun d=>match d with
 |.lst ds=>Q ds
 |_=>False
def Amg(te:DTE):DTI:=fun ρ Q=>te ρ fun d=>match d with
 |.tup ds=>Q ds
 |_=>False
theorem Kl{tg:Expr}(h:DE X e te):DI X tg e (AhP te) where
 mono:=fun hq z=>h.mono (fun d z=>by
  split at z
  ·exact hq _ z
  ·exact z.elim) z
 pi:=(Aba h.pe).imp fun σ H Q ⟨B,F,O,ρ,R,z⟩=>⟨B,F,O,ρ,R,h.mono (fun d z v H1 s1 r1=>by
  split at z
  ·obtain⟨a,xs,rfl,hs,hl⟩:=Et r1
   refine⟨a,rfl,⟨xs,Bk.seq hs⟩,z _ H1 s1 fun H2 s2=>⟨fun k d e=>?_,xs,s2.seq hs,by rw[hl.len];exact Nat.le_refl _⟩⟩
   obtain⟨x,e1,e2⟩:=hl.get e
   refine⟨⟨xs,x,s2.seq hs,e1⟩,fun y H3 ⟨e3,e4⟩=>⟨e3,?_⟩⟩
   have e5:=e4 xs (s2.seq hs)
   rw[e1]at e5;cases e5;exact e2
  ·exact z.elim) z⟩
def ups(lo:Int)(n:Nat):List Dt:=(List.range n).map fun i=>.int (lo+(i:Nat))
theorem Pr{lo:Int}{n:Nat}:(ups lo n).length=n:=by simp[ups]
theorem Px{lo:Int}{n k:Nat}{d:Dt}(h:(ups lo n)[k]? = some d):k<n∧d=.int (lo+(k:Nat)):=by
 unfold ups at h
 rw[List.getElem?_map]at h
 by_cases hk:k<n
 ·rw[List.getElem?_range hk]at h
  exact⟨hk,(Option.some.inj h).symm⟩
 ·rw[List.getElem?_eq_none (by simpa using hk)]at h;cases h
theorem SM{K:W.Frag}{M:Hp}{lo:Int}{n:Nat}:ItD K M (Itr lo n) (ups lo n):=fun H _=>by
 refine⟨fun k d e=>?_,?_⟩
 ·obtain⟨hk,rfl⟩:=Px e
  exact⟨hk,fun x H' y=>⟨y.1,Bp.mpr y.2⟩⟩
 ·rw[Pr];exact Nat.le_refl n
def Ace(tl:DTA):DTI:=fun ρ Q=>tl ρ fun ds=>match ds with
 | [.int j]=>(-(2 ^ 62)≤j∧j<2 ^ 62)∧Q (ups 0 j.toNat)
 |_=>False
def Adv(tl:DTA):DTI:=fun ρ Q=>tl ρ fun ds=>match ds with
 | [.int i,.int j]=>(-(2 ^ 62)≤i∧i<2 ^ 62∧-(2 ^ 62)≤j∧j<2 ^ 62)∧Q (ups i (j-i).toNat)
 |_=>False
theorem ZQ{tg:Expr}{p:Pos}(hg:Gl X "range")(hm:X.mg "range"=none)(ha:DA X [a] tl)(hs:starEach [a] X.env=[(false,eval a X.env)]:=by rfl):DI X tg (.Call (.Name "range" p) [a] [] pos) (Ace tl) where
 mono:=fun hq z=>ha.mono (fun d z=>by
  split at z
  ·exact⟨z.1,hq _ z.2⟩
  ·exact z.elim) z
 pi:=(AbN hg hm ha.pa hs).imp fun σ H Q ⟨B,F,O,ρ,R,z⟩=>⟨B,F,O,ρ,R,ha.mono (fun d z vs H1 s1 r1=>by
  split at z
  ·obtain⟨v,r,rfl,r2,r3⟩:=Bc.mp r1
   rw[BL.mp r3,Bp.mp r2]
   exact⟨_,rfl,z.1.1,z.1.2,z.2 _ H1 s1 SM⟩
  ·exact z.elim) z⟩
theorem AfI{tg:Expr}{p:Pos}(hg:Gl X "range")(hm:X.mg "range"=none)(ha:DA X [a,b] tl)(hs:starEach [a,b] X.env=[(false,eval a X.env),(false,eval b X.env)]:=by rfl)(hs2:starEach [b] X.env=[(false,eval b X.env)]:=by rfl) :
  DI X tg (.Call (.Name "range" p) [a,b] [] pos) (Adv tl) where
 mono:=fun hq z=>ha.mono (fun d z=>by
  split at z
  ·exact⟨z.1,hq _ z.2⟩
  ·exact z.elim) z
 pi:=(Ab5 hg hm ha.pa hs hs2).imp fun σ H Q ⟨B,F,O,ρ,R,z⟩=>⟨B,F,O,ρ,R,ha.mono (fun d z vs H1 s1 r1=>by
  split at z
  ·obtain⟨v,r,rfl,r2,r3⟩:=Bc.mp r1
   obtain⟨v',r',rfl,r4,r5⟩:=Bc.mp r3
   rw[BL.mp r5,Bp.mp r2,Bp.mp r4]
   exact⟨_,_,rfl,z.1,z.2 _ H1 s1 SM⟩
  ·exact z.elim) z⟩
end
def Ey(N:List Str)(ds:List Dt):BP:=ds.map (fun d=>some (.is d))++List.replicate (N.length-ds.length) none
theorem Tc{K:W.Frag}{F:List Addr}{H:Hp}{N:List Str}{ds:List Dt}{vs:List V}(hF:∀a∈F,H a≠none)(r:RpL K (mask F H) ds vs):Rep K H F [] H (start N vs) (Ey N ds):=by
 have hl:=r.len
 have ou:∀(i:Nat)(es:En),(∀z,es≠.is z)→(Ey N ds)[i]? = some (some es)→False:=fun i es nz e=>by
  unfold Ey at e
  by_cases hi:i<ds.length
  ·rw[List.getElem?_append_left (by simpa using hi),List.getElem?_map]at e
   cases q:ds[i]? with
   |none=>rw[q]at e;cases e
   |some d=>rw[q]at e;cases e;exact nz d rfl
  ·rw[List.getElem?_append_right (by simpa using hi),List.getElem?_replicate]at e
   split at e<;>cases e
 refine⟨?_,Same.refl H,fun a h=>(nomatch h),fun a h=>hF a (by simpa using h),fun i d e=>?_,fun i es e=>(ou i _ (fun _ z=>by cases z) e).elim,fun i j es es' a h1=>(ou i _ (fun _ z=>by cases z) h1).elim,fun i es e=>(ou i _ (fun _ z=>by cases z) e).elim,fun i j es es' a h1=>(ou i _ (fun _ z=>by cases z) h1).elim⟩
 ·unfold start Ey;simp[hl]
 ·unfold Ey at e
  by_cases hi:i<ds.length
  ·rw[List.getElem?_append_left (by simpa using hi),List.getElem?_map]at e
   cases q:ds[i]? with
   |none=>rw[q]at e;cases e
   | some d' =>
    rw[q]at e;cases e
    obtain⟨v,e1,e2⟩:=r.get q
    refine⟨v,?_,by rw[List.append_nil];exact e2⟩
    unfold start
    rw[List.getElem?_append_left (by simp;omega),List.getElem?_map,e1];rfl
  ·rw[List.getElem?_append_right (by simpa using hi),List.getElem?_replicate]at e
   split at e<;>cases e
section
variable{P:Program}{w:World}{K:W.Frag}{mg:Str→Option Value}{base:Heap}
theorem Fun.okD{x qual:Str}{st:Stmt}{f:Addr}{fd:FuncData}{N ps:List Str}{k:Nat}{sp:DSp}(F:Fun K x qual st f fd)(S:Aq N ps (Af st))(len:∀ds Q,sp ds Q→ds.length=ps.length)
  (hbody:∀(cdv:Value)(A:Around)(outer:List Env)(s:Shared)(H:Hp)(E:XK),CK k (A.deeper (envOfC qual (Af st) s.heap.objs.size f cdv)) →
   ∃t,DSs (RZ CX0 P w K mg base N qual (Af st) f cdv A outer s H E).nox (Cj st) t∧∀ds Q,sp ds Q→t {nx:=fun _=>Q .non,rt:=Q} (Ey N ds)):Ef P w K mg base CX0 (k+1) f fd ps (lSp K sp):=by
 refine F.ok S (fun vs H Q E ⟨F,ds,_,r,h⟩=>by rw[r.len];exact len _ _ h) fun cdv A outer s H vs Q E hr ⟨F',ds,hF,r,h⟩=>?_
 obtain⟨t,T,q⟩:=hbody cdv A outer s H E hr
 refine⟨_,T.ps,H,F',[],Ey N ds,Tc hF r,T.mono (D:={nx:=fun _=>∀v H',Same H H'→Rp K (mask F' H') .non v→Q v H',rt:=fun d=>∀v H',Same H H'→Rp K (mask F' H') d v→Q v H'}) ⟨?_,?_,fun _ z=>False.elim z,fun _ z=>False.elim z⟩ (q ds _ h)⟩
 ·exact fun ρ z O' σ' H' R'=>z .non H' R'.base (J5.mpr rfl)
 ·exact fun d z v H' s' r'=>z v H' s' r'
end
end L2
namespace L2
open PySem Spec PyProof.Rows SeqAt
structure FnT(K:W.Frag)(mg:Str→Option Value)(x:Str)(st:Stmt)(ps:List Str)(f:Addr)(fd:FuncData):Prop where
 fn:Fun K x x st f fd
 mg:mg x=some (.ref f)
 bd:Binds K fd ps []
def Pm(P:Program)(w:World)(K:W.Frag)(mg:Str→Option Value)(base:Heap)(k:Nat)(x:Str)(st:Stmt)(ps:List Str)(sp:DSp):Prop :=
 ∃f fd,FnT K mg x st ps f fd∧Ef P w K mg base CX0 k f fd ps (lSp K sp)
theorem Fun.uniq{K:W.Frag}{x q:Str}{st:Stmt}{f:Addr}{fd fd':FuncData}(a:Fun K x q st f fd)(b:Fun K x q st f fd'):fd=fd':=by
 obtain⟨oc,od,kV,doc,pm,an,cdv,ct,osl,_,h1,_⟩:=a.ex
 obtain⟨oc',od',kV',adG,pm',an',adH,ct',adI,_,h2,_⟩:=b.ex
 rw[h1]at h2
 injection h2 with h2
 injection h2 with _ _ h2 _
 injection h2
def spec{τ:Type}(args:τ→List Dt)(pre:τ→Prop)(post:τ→Dt→Prop):DSp:=fun ds Q=>∃p,ds=args p∧pre p∧∀d,post p d→Q d
theorem Ag{τ:Type}{args:τ→List Dt}{pre:τ→Prop}{post:τ→Dt→Prop}:Ja (spec args pre post):=fun _ _ _ hq ⟨p,e,h,q⟩=>⟨p,e,h,fun d z=>hq _ (q d z)⟩
abbrev DP{τ:Type}(args:τ→List Dt)(pre:τ→Prop)(val:τ→Dt):DSp:=spec args pre fun p d=>d=val p
abbrev T2(a b:Int):Dt:=.tup [.int a,.int b]
abbrev T3(a b c:Int):Dt:=.tup [.int a,.int b,.int c]
abbrev T4(a b c d:Int):Dt:=.tup [.int a,.int b,.int c,.int d]
def AhX:DSp:=spec (fun ns:List Int=>[.lst (ns.map Dt.int)]) (fun ns=>ns.length≤63) fun _ d=>d=.bl true
theorem Ads{H:Hp}:mask [] H=H:=by funext a;exact Ba (by simp)
theorem AbV{K:W.Frag}{H:Hp}{a:Addr}{ns:List Int}{E:XK}(hl:ns.length≤63)(hS:SqL K H a (ns.map V.int)):lSp K AhX [.ref a] H (fun v _=>v=.bl true) E :=
 ⟨[],[.lst (ns.map Dt.int)],fun _ h=>(nomatch h),RpL.cons (Ahr (by rw[Ads];exact hS) (RpL.ints ns)) RpL.nil,ns,rfl,hl,fun d e v H' s r=>by subst e;exact Dd.mp r⟩
section
variable{X:Cx}{a b c e:Expr}{es:List Expr}{ta tb tc te:DTE}{tA tB:DTT}{tl:DTA}{pos:Pos}
theorem Ai{k:Nat}{ps:List Str}{sp:DSp}{x:Str}{stx:Stmt}{p:Pos}(m:Ja sp)(G:Pm X.prog X.w X.K X.mg X.base k x stx ps sp)(hr:CK k X.A)(hg:Gl X x)
  (ha:DA X (e::es) tl) (hdb:(x==("__debug__":Str))=false:=by decide)
  (he:starEach (e::es) X.env=(false,eval e X.env)::starEach es X.env:=by rfl) (hpl:(backTo pos (starEach es X.env)).any (·.1)=false:=by rfl):DE X (.Call (.Name x p) (e::es) [] pos) (dCall sp tl):=by
 obtain⟨f,fd,F,G⟩:=G
 exact AgQ (CX:=CX0) m G hr hg F.mg F.fn.kp F.bd ha hdb he hpl
theorem Aw(i:Nat){x:Str}{pos':Pos}(hN:X.N.Nodup)(he:DE X e te)(hi:X.N[i]? = some x:=by rfl)(hx:Loc X.env.scope x:=by first | exact Or.inl rfl | exact Or.inr rfl)(hs:swapsWith e (some (.Name x pos')) pos.line X.env=pure false:=by rfl)
  (hf:X.fn x=true∨X.env.scope.names.lookup x=some .local:=by first|exact .inl rfl|exact .inr rfl|assumption):DS X (.Assign [.Name x pos'] e pos) (Aft te (Ri i)) where
 mono:=fun hd h=>he.mono (fun _ h=>hd.nx _ h) h
 ps:=(Yc hN hi hx he.pe hs hf).imp fun D σ H ⟨B,F,O,ρ,R,h⟩=>⟨B,F,O,ρ,R,he.mono (fun d q v H1 s1 r1=>q O _ H1 ((R.same s1).set i r1)) h⟩
def AmD(i j:Nat)(tl:DTA):DTS:=fun D ρ=>tl ρ fun ds=>match ds with
 | [d,e]=>D.nx ((ρ.set i (some (.is d))).set j (some (.is e)))
 |_=>False
mutual
def Dt.py:Dt→PyData
 |.non=>.none
 |.bl b=>.bool b
 |.int i=>.int i
 |.str x=>.str x
 |.tup ds=>.tuple (Dt.pys ds)
 |.lst ds=>.list (Dt.pys ds)
 |.fn _=>.dict []
 |.exc _ _ _=>.dict []
 |.obj _ _ _=>.dict []
def Dt.pys:List Dt→List PyData
 | []=>[]
 |d::ds=>d.py::Dt.pys ds
end
mutual
theorem HN{X:Cx}{pins:List (Addr×Obj)}{σ:St}{H:Hp}{s:Shared}(I:Inv X pins σ H s):∀{d:Dt} {v:V} {u:Value},d.py.canLay0=true→Rp X.K H d v→RelV v u→∃as,Reads s.heap u d.py as
 |.non,v,u,_,h,r=>by rw[J5.mp h]at r;cases(show u=.none from r);exact⟨_,by rw[Dt.py];exact .none⟩
 |.bl b,v,u,_,h,r=>by rw[Dd.mp h]at r;cases(show u=.bool b from r);exact⟨_,by rw[Dt.py];exact .bool b⟩
 |.int i,v,u,_,h,r=>by rw[Bp.mp h]at r;obtain⟨t,rfl⟩:=r;exact⟨_,by rw[Dt.py];exact .int i t⟩
 |.str x,v,u,_,h,r=>by rw[Rm.mp h]at r;obtain⟨t,rfl⟩:=r;exact⟨_,by rw[Dt.py];exact .str x t⟩
 |.fn a,v,u,c,h,r=>by rw[Dt.py]at c;exact(nomatch c)
 |.exc _ _ _,v,u,c,h,r=>by rw[Dt.py]at c;exact(nomatch c)
 |.obj _ _ _,v,u,c,h,r=>by rw[Dt.py]at c;exact(nomatch c)
 | .tup ds,v,u,c,h,r=>by
  obtain⟨a,xs,rfl,hs,hl⟩:=Dv.mp h
  cases(show u=.ref a from r)
  obtain⟨its,rv,⟨o,h1,h2,n,h3⟩,_⟩:=I.tuple hs
  rw[Dt.py]at c
  obtain⟨as,ra⟩:=Ny I (ds:=ds) (by simpa [PyData.canLay0] using c) hl rv
  exact⟨_,by rw[Dt.py];exact .tuple h1 h2 h3 (by simpa using ra)⟩
 | .lst ds,v,u,c,h,r=>by
  obtain⟨a,xs,rfl,hs,hl⟩:=Et h
  cases(show u=.ref a from r)
  obtain⟨its,rv,⟨o,n,h1,h2,_,h3⟩,_⟩:=I.list hs
  rw[Dt.py]at c
  obtain⟨as,ra⟩:=Ny I (ds:=ds) (by simpa [PyData.canLay0] using c) hl rv
  exact⟨_,by rw[Dt.py];exact .list h1 h2 h3 (by simpa using ra)⟩
theorem Ny{X:Cx}{pins:List (Addr×Obj)}{σ:St}{H:Hp}{s:Shared}(I:Inv X pins σ H s):∀{ds:List Dt} {vs:List V} {us:List Value},PyData.canLayAll0 (Dt.pys ds)=true→RpL X.K H ds vs→Vals vs us→∃as,ReadsAll s.heap us (Dt.pys ds) as
 | [],vs,us,_,h,r=>by rw[BL.mp h]at r;cases r;exact⟨_,by rw[Dt.pys];exact .nil⟩
 | d::ds,vs,us,c,h,r=>by
  obtain⟨v,vr,rfl,h1,h2⟩:=Bc.mp h
  rw[Dt.pys]at c
  have c':d.py.canLay0=true∧PyData.canLayAll0 (Dt.pys ds)=true:=by simpa [PyData.canLayAll0] using c
  cases r with
  | cons r1 r2 =>
   obtain⟨as,ra⟩:=HN I c'.1 h1 r1
   obtain⟨bs,rb⟩:=Ny I c'.2 h2 r2
   exact⟨_,by rw[Dt.pys];exact .cons ra rb⟩
end
mutual
def Dt.eq:Dt→Dt→Bool
 |.non,.non=>true
 |.bl a,.bl b=>a==b
 |.bl a,.int j=>(if a then 1 else 0)==j
 |.int i,.bl b=>i==(if b then 1 else 0)
 |.int i,.int j=>decide (i=j)
 |.str x,.str y=>x==y
 |.tup xs,.tup ys=>Dt.eqs xs ys
 |.lst xs,.lst ys=>Dt.eqs xs ys
 |_,_=>false
def Dt.eqs:List Dt→List Dt→Bool
 | [],[]=>true
 |x::xs,y::ys=>Dt.eq x y&&Dt.eqs xs ys
 |_,_=>false
end
mutual
def Dt.flat:Nat→Dt→Bool
 |_,.fn _=>false
 |_,.exc _ _ _=>false
 |_,.obj _ _ _=>false
 |_,.str x=>(PyData.str x).canLay0
 |0,.tup _=>false
 |0,.lst _=>false
 |n+1,.tup ds=>Dt.flats n ds
 |n+1,.lst ds=>Dt.flats n ds
 |_,_=>true
def Dt.flats:Nat→List Dt→Bool
 |_,[]=>true
 |n,d::ds=>Dt.flat n d&&Dt.flats n ds
end
mutual
theorem Gb:∀(d:Dt)(n:Nat),d.flat n=true→d.py.canLay0=true∧d.py.depth≤n
 |.non,n,h=>by rw[Dt.py];exact⟨rfl,Nat.zero_le _⟩
 |.bl _,n,h=>by rw[Dt.py];exact⟨rfl,Nat.zero_le _⟩
 |.int _,n,h=>by rw[Dt.py];exact⟨rfl,Nat.zero_le _⟩
 |.str _,n,h=>by rw[Dt.py];exact⟨by simpa [Dt.flat] using h,Nat.zero_le _⟩
 |.fn _,n,h=>by simp[Dt.flat]at h
 |.exc _ _ _,n,h=>by simp[Dt.flat]at h
 |.obj _ _ _,n,h=>by simp[Dt.flat]at h
 |.tup ds,0,h=>by simp[Dt.flat]at h
 |.lst ds,0,h=>by simp[Dt.flat]at h
 | .tup ds,n+1,h=>by
  have:=N7 ds n (by simpa [Dt.flat] using h)
  rw[Dt.py]
  exact⟨by simpa [PyData.canLay0] using this.1,by simpa [PyData.depth] using this.2⟩
 | .lst ds,n+1,h=>by
  have:=N7 ds n (by simpa [Dt.flat] using h)
  rw[Dt.py]
  exact⟨by simpa [PyData.canLay0] using this.1,by simpa [PyData.depth] using this.2⟩
theorem N7:∀(ds:List Dt)(n:Nat),Dt.flats n ds=true→PyData.canLayAll0 (Dt.pys ds)=true∧PyData.depthAll (Dt.pys ds)≤n
 | [],n,h=>by rw[Dt.pys];exact⟨rfl,Nat.zero_le _⟩
 | d::ds,n,h=>by
  have h':d.flat n=true∧Dt.flats n ds=true:=by simpa [Dt.flats] using h
  have h1:=Gb d n h'.1
  have h2:=N7 ds n h'.2
  rw[Dt.pys]
  exact⟨by simp[PyData.canLayAll0,h1.1,h2.1],by simp only[PyData.depthAll];omega⟩
end
mutual
theorem Rq:∀(a b:Dt),a.py.canLay0=true→b.py.canLay0=true→PyData.eqv a.py b.py=a.eq b
 |.fn _,b,h,_=>by rw[Dt.py]at h;exact(nomatch h)
 |.exc _ _ _,b,h,_=>by rw[Dt.py]at h;exact(nomatch h)
 |.obj _ _ _,b,h,_=>by rw[Dt.py]at h;exact(nomatch h)
 |a,.fn _,_,h=>by rw[Dt.py]at h;exact(nomatch h)
 |a,.exc _ _ _,_,h=>by rw[Dt.py]at h;exact(nomatch h)
 |a,.obj _ _ _,_,h=>by rw[Dt.py]at h;exact(nomatch h)
 |.non,.non,_,_=>by simp[Dt.py,Dt.eq,PyData.eqv]
 |.non,.bl _,_,_=>by simp[Dt.py,Dt.eq,PyData.eqv]
 |.non,.int _,_,_=>by simp[Dt.py,Dt.eq,PyData.eqv]
 |.non,.str _,_,_=>by simp[Dt.py,Dt.eq,PyData.eqv]
 |.non,.tup _,_,_=>by simp[Dt.py,Dt.eq,PyData.eqv]
 |.non,.lst _,_,_=>by simp[Dt.py,Dt.eq,PyData.eqv]
 |.bl _,.non,_,_=>by simp[Dt.py,Dt.eq,PyData.eqv]
 |.bl _,.bl _,_,_=>by simp[Dt.py,Dt.eq,PyData.eqv]
 |.bl _,.int _,_,_=>by simp[Dt.py,Dt.eq,PyData.eqv]
 |.bl _,.str _,_,_=>by simp[Dt.py,Dt.eq,PyData.eqv]
 |.bl _,.tup _,_,_=>by simp[Dt.py,Dt.eq,PyData.eqv]
 |.bl _,.lst _,_,_=>by simp[Dt.py,Dt.eq,PyData.eqv]
 |.int _,.non,_,_=>by simp[Dt.py,Dt.eq,PyData.eqv]
 |.int _,.bl _,_,_=>by simp[Dt.py,Dt.eq,PyData.eqv]
 | .int i,.int j,_,_=>by
  simp only[Dt.py,Dt.eq,PyData.eqv]
  exact Bool.beq_eq_decide_eq i j
 |.int _,.str _,_,_=>by simp[Dt.py,Dt.eq,PyData.eqv]
 |.int _,.tup _,_,_=>by simp[Dt.py,Dt.eq,PyData.eqv]
 |.int _,.lst _,_,_=>by simp[Dt.py,Dt.eq,PyData.eqv]
 |.str _,.non,_,_=>by simp[Dt.py,Dt.eq,PyData.eqv]
 |.str _,.bl _,_,_=>by simp[Dt.py,Dt.eq,PyData.eqv]
 |.str _,.int _,_,_=>by simp[Dt.py,Dt.eq,PyData.eqv]
 |.str _,.str _,_,_=>by simp[Dt.py,Dt.eq,PyData.eqv]
 |.str _,.tup _,_,_=>by simp[Dt.py,Dt.eq,PyData.eqv]
 |.str _,.lst _,_,_=>by simp[Dt.py,Dt.eq,PyData.eqv]
 |.tup _,.non,_,_=>by simp[Dt.py,Dt.eq,PyData.eqv]
 |.tup _,.bl _,_,_=>by simp[Dt.py,Dt.eq,PyData.eqv]
 |.tup _,.int _,_,_=>by simp[Dt.py,Dt.eq,PyData.eqv]
 |.tup _,.str _,_,_=>by simp[Dt.py,Dt.eq,PyData.eqv]
 | .tup xs,.tup ys,h1,h2=>by
  rw[Dt.py]at h1 h2
  rw[Dt.py,Dt.py,Dt.eq,PyData.eqv]
  exact Uq xs ys (by simpa [PyData.canLay0] using h1) (by simpa [PyData.canLay0] using h2)
 |.tup _,.lst _,_,_=>by simp[Dt.py,Dt.eq,PyData.eqv]
 |.lst _,.non,_,_=>by simp[Dt.py,Dt.eq,PyData.eqv]
 |.lst _,.bl _,_,_=>by simp[Dt.py,Dt.eq,PyData.eqv]
 |.lst _,.int _,_,_=>by simp[Dt.py,Dt.eq,PyData.eqv]
 |.lst _,.str _,_,_=>by simp[Dt.py,Dt.eq,PyData.eqv]
 |.lst _,.tup _,_,_=>by simp[Dt.py,Dt.eq,PyData.eqv]
 | .lst xs,.lst ys,h1,h2=>by
  rw[Dt.py]at h1 h2
  rw[Dt.py,Dt.py,Dt.eq,PyData.eqv]
  exact Uq xs ys (by simpa [PyData.canLay0] using h1) (by simpa [PyData.canLay0] using h2)
theorem Uq:∀(xs ys:List Dt),PyData.canLayAll0 (Dt.pys xs)=true→PyData.canLayAll0 (Dt.pys ys)=true→PyData.eqvAll (Dt.pys xs) (Dt.pys ys)=Dt.eqs xs ys
 | [],[],_,_=>by simp[Dt.pys,Dt.eqs,PyData.eqvAll]
 | [],_::_,_,_=>by simp[Dt.pys,Dt.eqs,PyData.eqvAll]
 |_::_,[],_,_=>by simp[Dt.pys,Dt.eqs,PyData.eqvAll]
 | x::xs,y::ys,h1,h2=>by
  rw[Dt.pys]at h1 h2
  have h1':x.py.canLay0=true∧PyData.canLayAll0 (Dt.pys xs)=true:=by simpa [PyData.canLayAll0] using h1
  have h2':y.py.canLay0=true∧PyData.canLayAll0 (Dt.pys ys)=true:=by simpa [PyData.canLayAll0] using h2
  rw[Dt.pys,Dt.pys,Dt.eqs,PyData.eqvAll,Rq x y h1'.1 h2'.1,Uq xs ys h1'.2 h2'.2]
end
def Agu(K:W.Frag)(neg:Bool):R2:=fun x y H Q=>∃a b,Rp K H a x∧Rp K H b y∧a.flat 8=true∧b.flat 8=true∧Q (.bl (if neg then !a.eq b else a.eq b)) H
theorem Aei(hu:X.A.units+64<cLine):OpR X (compareOp .Eq) (Agu X.K false):=by
 intro pins s σ H x y v u Q I rx ry ⟨a,b,ra,rb,fa,fb,q⟩
 obtain⟨ca,da⟩:=Gb a 8 fa
 obtain⟨cb,db⟩:=Gb b 8 fb
 obtain⟨as,r1⟩:=HN I ca ra rx
 obtain⟨bs,r2⟩:=HN I cb rb ry
 refine rcAt_reads r1 r2 ca cb (by omega) _ _ _ _ ?_
 rw[Rq a b ca cb]
 exact⟨.bl _,H,I,rfl,q⟩
theorem Aet(hu:X.A.units+64<cLine):OpR X (compareOp .NotEq) (Agu X.K true):=by
 intro pins s σ H x y v u Q I rx ry ⟨a,b,ra,rb,fa,fb,q⟩
 obtain⟨ca,da⟩:=Gb a 8 fa
 obtain⟨cb,db⟩:=Gb b 8 fb
 obtain⟨as,r1⟩:=HN I ca ra rx
 obtain⟨bs,r2⟩:=HN I cb rb ry
 refine compareNe_reads r1 r2 ca cb (by omega) ?_
 rw[Rq a b ca cb]
 exact⟨.bl _,H,I,rfl,q⟩
def dEq:D2:=fun a b Q=>(a.flat 8=true∧b.flat 8=true)∧Q (.bl (a.eq b))
def dNe:D2:=fun a b Q=>(a.flat 8=true∧b.flat 8=true)∧Q (.bl (!a.eq b))
theorem Ac6{K:W.Frag}:JG K (Agu K false) dEq:=⟨fun hq h=>⟨h.1,hq _ h.2⟩,fun O H a b x y Q _ ra rb h=>⟨a,b,ra.mono Bk,rb.mono Bk,h.1.1,h.1.2,h.2 _ H (Same.refl H) (Dd.mpr rfl)⟩⟩
theorem AdL{K:W.Frag}:JG K (Agu K true) dNe:=⟨fun hq h=>⟨h.1,hq _ h.2⟩,fun O H a b x y Q _ ra rb h=>⟨a,b,ra.mono Bk,rb.mono Bk,h.1.1,h.1.2,h.2 _ H (Same.refl H) (Dd.mpr rfl)⟩⟩
theorem Oj(hu:X.A.units+64<cLine)(ha:DE X a ta)(hb:DE X b tb):DE X (.Compare a [.Eq] [b] pos) (dOp dEq ta tb):=Xu (Aei hu) Ac6 ha hb (Km _)
theorem Ah7(hu:X.A.units+64<cLine)(ha:DE X a ta)(hb:DE X b tb):DE X (.Compare a [.NotEq] [b] pos) (dOp dNe ta tb):=Xu (Aet hu) AdL ha hb (Km _)
theorem Fj(hu:X.A.units+64<cLine)(ha:DE X a ta)(hb:DE X b tb):DT X (.Compare a [.Eq] [b] pos) (RL (dOp dEq ta tb)):=Qe (Aei hu) Ac6 ha hb (Km _)
theorem Jo(hu:X.A.units+64<cLine)(ha:DE X a ta)(hb:DE X b tb):DT X (.Compare a [.NotEq] [b] pos) (RL (dOp dNe ta tb)):=Qe (Aet hu) AdL ha hb (Km _)
def isB(k:Bool):Dt→Bool
 |.bl b=>b==k
 |_=>false
def isN:Dt→Bool
 |.non=>true
 |_=>false
theorem AgC:OpR X (compareOp .IsNot) (fun x y H Q=>∃k:Bool,y=.bl k∧Q (.bl (!decide (x=.bl k))) H):=by
 intro pins s σ H x y v u Q I rx ry ⟨k,e,q⟩
 subst e
 cases(show u=.bool k from ry)
 cases x with
 |non=>cases(show v=.none from rx);exact wpAny_isNot_plain rfl (JH I q (by simp))
 |bl b=>cases(show v=.bool b from rx);exact wpAny_isNot_plain rfl (JH I q (by cases b<;>cases k<;>rfl))
 |int i=>obtain⟨t,rfl⟩:=rx;exact wpAny_isNot_plain rfl (JH I q (by simp))
 |str i=>obtain⟨t,rfl⟩:=rx;exact wpAny_isNot_plain rfl (JH I q (by simp))
 |byt i=>obtain⟨t,rfl⟩:=rx;exact wpAny_isNot_plain rfl (JH I q (by simp))
 |flt i=>obtain⟨t,rfl⟩:=rx;exact wpAny_isNot_plain rfl (JH I q (by simp))
 |ref i=>cases(show v=.ref i from rx);exact wpAny_isNot_plain rfl (JH I q (by simp))
 |ty i=>cases(show v=.type i from rx);exact wpAny_isNot_plain rfl (JH I q (by simp))
theorem AkC{K:W.Frag}{H:Hp}{d:Dt}{v:V}{k:Bool}(r:Rp K H d v):decide (v=.bl k)=isB k d:=by
 cases d with
 |non=>rw[J5.mp r];simp[isB]
 |bl b=>rw[Dd.mp r];cases b<;>cases k<;>simp[isB]
 |int i=>rw[Bp.mp r];simp[isB]
 |str i=>rw[Rm.mp r];simp[isB]
 |fn a=>rw[Ww.mp r];simp[isB]
 |exc _ _ _=>obtain⟨a,_,_,_,_,rfl,_⟩:=JL.mp r;simp[isB]
 |obj _ _ _=>obtain⟨a,_,_,_,rfl,_⟩:=N6.mp r;simp[isB]
 |tup ds=>obtain⟨a,xs,rfl,_⟩:=Dv.mp r;simp[isB]
 |lst ds=>obtain⟨a,xs,rfl,_⟩:=Et r;simp[isB]
theorem AjQ{K:W.Frag}{H:Hp}{d:Dt}{v:V}(r:Rp K H d v):decide (v=.non)=isN d:=by
 cases d with
 |non=>rw[J5.mp r];simp[isN]
 |bl b=>rw[Dd.mp r];simp[isN]
 |int i=>rw[Bp.mp r];simp[isN]
 |str i=>rw[Rm.mp r];simp[isN]
 |fn a=>rw[Ww.mp r];simp[isN]
 |exc _ _ _=>obtain⟨a,_,_,_,_,rfl,_⟩:=JL.mp r;simp[isN]
 |obj _ _ _=>obtain⟨a,_,_,_,rfl,_⟩:=N6.mp r;simp[isN]
 |tup ds=>obtain⟨a,xs,rfl,_⟩:=Dv.mp r;simp[isN]
 |lst ds=>obtain⟨a,xs,rfl,_⟩:=Et r;simp[isN]
def dIs(neg:Bool):D2:=fun a b Q=>match b with
 |.bl k=>Q (.bl (if neg then !isB k a else isB k a))
 |.non=>Q (.bl (if neg then !isN a else isN a))
 |_=>False
theorem Ade{neg:Bool}:∀{a b Q Q'},(∀d,Q d→Q' d)→dIs neg a b Q→dIs neg a b Q':=fun{a b Q Q'} hq h=>by
 unfold dIs at h ⊢
 split at h
 ·exact hq _ h
 ·exact hq _ h
 ·exact h.elim
theorem Ahg{K:W.Frag}:JG K (fun x y H Q=>(∃k:Bool,y=.bl k∧Q (.bl (!decide (x=.bl k))) H)∨(y=.non∧Q (.bl (!decide (x=.non))) H)) (dIs true):=⟨Ade,fun O H a b x y Q _ ra rb h=>by
 unfold dIs at h
 split at h
 ·exact .inl ⟨_,Dd.mp rb,by rw[AkC ra];exact h _ H (Same.refl H) (Dd.mpr rfl)⟩
 ·exact .inr ⟨J5.mp rb,by rw[AjQ ra];exact h _ H (Same.refl H) (Dd.mpr rfl)⟩
 ·exact h.elim⟩
theorem Ahq(ha:DE X a ta)(hb:DE X b tb):DT X (.Compare a [.IsNot] [b] pos) (RL (dOp (dIs true) ta tb)):=Qe (AgC.or Af9) Ahg ha hb (Km _)
def QT(t t':D2)(ta tb tc:DTE):DTE:=fun ρ Q=>ta ρ fun a=>tb ρ fun b=>t a b fun z=>match z with
 |.bl k=>if k=true then tc ρ fun c=>t' b c Q else Q (.bl false)
 |_=>False
theorem Xy{t t':D2}{ta tb tc:DTE}(m:∀{a b Q Q'},(∀d,Q d→Q' d)→t a b Q→t a b Q')(m':∀{a b Q Q'},(∀d,Q d→Q' d)→t' a b Q→t' a b Q')
  (ma:∀{ρ Q Q'},(∀d,Q d→Q' d)→ta ρ Q→ta ρ Q') (mb:∀{ρ Q Q'},(∀d,Q d→Q' d)→tb ρ Q→tb ρ Q') (mc:∀{ρ Q Q'},(∀d,Q d→Q' d)→tc ρ Q→tc ρ Q') :
  ∀{ρ Q Q'},(∀d,Q d→Q' d)→QT t t' ta tb tc ρ Q→QT t t' ta tb tc ρ Q':=fun hq h=>ma (fun _ h=>mb (fun _ h=>m (fun z h=>by
   split at h
   ·rename_i k
    cases k with
    |true=>exact mc (fun _ h=>m' hq h) h
    |false=>exact hq _ h
   ·exact h.elim) h) h) h
theorem AbK{K:W.Frag}{r r':R2}{t t':D2}(S:JG K r t)(S':JG K r' t'){ta tb tc:DTE}(ma:∀{ρ Q Q'},(∀d,Q d→Q' d)→ta ρ Q→ta ρ Q')(mb:∀{ρ Q Q'},(∀d,Q d→Q' d)→tb ρ Q→tb ρ Q')(mc:∀{ρ Q Q'},(∀d,Q d→Q' d)→tc ρ Q→tc ρ Q')
  (σ:St) (H:Hp) (Q:VK) (h:lE K (QT t t' ta tb tc) σ H Q):Ad4 r r' (lE K ta) (lE K tb) (lE K tc) σ H Q:=by
 obtain⟨B,F,O,ρ,R,h⟩:=h
 refine⟨B,F,O,ρ,R,ma (fun a h v H1 s1 r1=>⟨B,F,O,ρ,R.same s1,mb (fun b h u H2 s2 r2=>?_) h⟩) h⟩
 refine S.ok _ H2 a b v u _ ((R.same s1).same s2).th (r1.mono s2.mask) r2 (S.mono (fun z h w H3 s3 r3=>?_) h)
 split at h
 ·rename_i k
  refine⟨k,Dd.mp r3,?_⟩
  have vm:=(s1.trans s2).trans s3
  cases k with
  |true=>exact⟨B,F,O,ρ,R.same vm,mc (fun c h y H4 s4 r4=>S'.ok _ H4 b c u y Q ((R.same vm).same s4).th ((r2.mono s3.mask).mono s4.mask) r4 (S'.mono (fun d q w' H5 s5 r5=>q w' H5 ((vm.trans s4).trans s5) r5) h)) h⟩
  |false=>exact h _ H3 vm (Dd.mpr rfl)
 ·exact h.elim
theorem VR{op op':CmpOp}{r r':R2}{t t':D2}(ho:OpR X (compareOp op) r)(ho':OpR X (compareOp op') r')(S:JG X.K r t)(S':JG X.K r' t')(ha:DE X a ta)(hb:DE X b tb)(hc:DE X c tc)
  (hm:lastMarks [op,op'] [b,c]=false:=by with_unfolding_all rfl):DE X (.Compare a [op,op'] [b,c] pos) (QT t t' ta tb tc) where
 mono:=Xy (t:=t) (t':=t') (ta:=ta) (tb:=tb) (tc:=tc) S.mono S'.mono ha.mono hb.mono hc.mono
 pe:=(AcV ho ho' ha.pe hb.pe hc.pe hm).imp (AbK (ta:=ta) (tb:=tb) (tc:=tc) S S' ha.mono hb.mono hc.mono)
abbrev DL:=List Dt→(Dt→Prop)→Prop
structure Uw(K:W.Frag)(r:List V→Hp→VK→Prop)(t:DL):Prop where
 mono:∀{ds Q Q'},(∀d,Q d→Q' d)→t ds Q→t ds Q'
 ok:∀(O:List Addr)(H:Hp)(ds:List Dt)(xs:List V)(Q:VK),(∀p∈O,H p≠none)→RpL K (mask O H) ds xs →
  t ds (fun d=>∀v H',Same H H'→Rp K (mask O H') d v→Q v H')→r xs H Q
def dCB(t:DL)(tl:DTA):DTE:=fun ρ Q=>tl ρ fun ds=>t ds Q
theorem Ajr{K:W.Frag}{r:List V→Hp→VK→Prop}{t:DL}(S:Uw K r t){tl:DTA}(m:∀{ρ Q Q'},(∀d,Q d→Q' d)→tl ρ Q→tl ρ Q')(σ:St)(H:Hp)(Q:VK)(h:lE K (dCB t tl) σ H Q):tCB r (lA K tl) σ H Q:=by
 obtain⟨B,F,O,ρ,R,h⟩:=h
 exact⟨B,F,O,ρ,R,m (fun ds h vs H1 s1 r1=>S.ok _ H1 ds vs Q (R.same s1).th r1 (S.mono (fun d q v H2 s2 r2=>q v H2 (s1.trans s2) r2) h)) h⟩
theorem Rw{id:String}{x:Str}{p:Pos}{r:List V→Hp→VK→Prop}{t:DL}(hc:Kr X (.builtin id) r)(S:Uw X.K r t)(hg:Gl X x)(hm:X.mg x=none)(hv:bootBuiltins x=some (.builtin id))(ha:DA X (e::es) tl)(hn:x≠"__name__":=by decide)
  (hdb:(x==("__debug__":Str))=false:=by decide) (he:starEach (e::es) X.env=(false,eval e X.env)::starEach es X.env:=by rfl) (hpl:(backTo pos (starEach es X.env)).any (·.1)=false:=by rfl):DE X (.Call (.Name x p) (e::es) [] pos) (dCB t tl) where
 mono:=fun hq h=>ha.mono (fun _ h=>S.mono hq h) h
 pe:=(Qm hc hg hm hv ha.pa hn hdb he hpl).imp (Ajr (tl:=tl) S ha.mono)
def AoM:DL:=fun ds Q=>match ds with
 | [.lst xs]=>Q (.int xs.length)
 | [.tup xs]=>Q (.int xs.length)
 |_=>False
def Ad2:DL:=fun ds Q=>match ds with
 | [.int i]=>Q (.int (if i<0 then -i else i))
 |_=>False
def Ady:DL:=fun ds Q=>match ds with
 | [.int i,.int j]=>Q (.int (if j>i then j else i))
 |_=>False
def AoB:DL:=fun ds Q=>match ds with
 | [.int i,.int j]=>Q (.int (if j<i then j else i))
 |_=>False
def Amc:DL:=fun ds Q=>match ds with
 | [.int i]=>Q (.int i)
 | [.bl k]=>Q (.int (if k then 1 else 0))
 |_=>False
theorem Alr{K:W.Frag}{H:Hp}{i:Int}{xs:List V}(h:RpL K H [.int i] xs):xs=[.int i]:=by
 obtain⟨v,r,rfl,r2,r3⟩:=Bc.mp h
 rw[BL.mp r3,Bp.mp r2]
theorem Apb{K:W.Frag}{H:Hp}{i j:Int}{xs:List V}(h:RpL K H [.int i,.int j] xs):xs=[.int i,.int j]:=by
 obtain⟨v,r,rfl,r2,r3⟩:=Bc.mp h
 rw[Alr r3,Bp.mp r2]
theorem Af7{K:W.Frag}:Uw K (fun xs H Q=>∃i,xs=[.int i]∧Q (.int (if i<0 then -i else i)) H) Ad2 where
 mono:=fun hq h=>by
  unfold Ad2 at h ⊢
  split at h
  ·exact hq _ h
  ·exact h.elim
 ok:=fun O H ds xs Q _ r h=>by
  unfold Ad2 at h
  split at h
  ·exact⟨_,Alr r,h _ H (Same.refl H) (Bp.mpr rfl)⟩
  ·exact h.elim
theorem AhA{K:W.Frag}:Uw K (fun xs H Q=>∃i j,xs=[.int i,.int j]∧Q (.int (if j>i then j else i)) H) Ady where
 mono:=fun hq h=>by
  unfold Ady at h ⊢
  split at h
  ·exact hq _ h
  ·exact h.elim
 ok:=fun O H ds xs Q _ r h=>by
  unfold Ady at h
  split at h
  ·exact⟨_,_,Apb r,h _ H (Same.refl H) (Bp.mpr rfl)⟩
  ·exact h.elim
theorem Ks{p:Pos}(hm:X.mg "abs"=none)(ha:DA X [a] tl)(hg:Gl X "abs":=by rfl)(hv:bootBuiltins "abs"=some (.builtin "abs"):=by rfl)(he:starEach [a] X.env=(false,eval a X.env)::starEach [] X.env:=by rfl)(hpl:(backTo pos (starEach [] X.env)).any (·.1)=false:=by rfl) :
  DE X (.Call (.Name "abs" p) [a] [] pos) (dCB Ad2 tl):=Rw AdY Af7 hg hm hv ha (he:=he) (hpl:=hpl)
theorem Aks{p:Pos}(hm:X.mg "max"=none)(ha:DA X [a,b] tl)(hc:X.calm=true:=by rfl)(hg:Gl X "max":=by rfl)(hv:bootBuiltins "max"=some (.builtin "max"):=by rfl)(he:starEach [a,b] X.env=(false,eval a X.env)::starEach [b] X.env:=by rfl)
  (hpl:(backTo pos (starEach [b] X.env)).any (·.1)=false:=by rfl):DE X (.Call (.Name "max" p) [a,b] [] pos) (dCB Ady tl):=Rw (Ab1 hc) AhA hg hm hv ha (he:=he) (hpl:=hpl)
def tyOf:Dt→String
 |.non=>"NoneType"
 |.bl _=>"bool"
 |.int _=>"int"
 |.str _=>"str"
 |.tup _=>"tuple"
 |.lst _=>"list"
 |.fn _=>"function"
 |.exc _ _ _=>"exception"
 |.obj _ _ _=>"instance"
def noFn:Dt→Bool
 |.fn _=>false
 |.exc _ _ _=>false
 |.obj _ _ _=>false
 |_=>true
def isT(T:String)(d:Dt):Bool:=tyOf d==T||(T=="int"&&tyOf d=="bool")
def Aou(T:String)(ta:DTE):DTE:=fun ρ Q=>ta ρ fun d=>noFn d=true∧Q (.bl (isT T d))
abbrev DTO:=BP→(Option Int→Prop)→Prop
def lO(K:W.Frag)(t:DTO):TO:=fun σ H Q=>∃B F O ρ,Rep K B F O H σ ρ∧t ρ fun o=>∀H',Same H H'→Q o H'
structure DO(X:Cx)(e:Option Expr)(t:DTO):Prop where
 mono:∀{ρ Q Q'},(∀d,Q d→Q' d)→t ρ Q→t ρ Q'
 po:PO X e (lO X.K t)
def Aaq:DTO:=fun _ Q=>Q none
def Aib(te:DTE):DTO:=fun ρ Q=>te ρ fun d=>match d with
 |.int i=>Q (some i)
 |_=>False
theorem PO.imp{e:Option Expr}{t t':TO}(h:PO X e t)(i:∀σ H Q,t' σ H Q→t σ H Q):PO X e t':=fun pins s σ H Q I q=>h pins s σ H Q I (i _ _ _ q)
theorem Agx:DO X none Aaq:=⟨fun hq h=>hq _ h,AfX.imp fun σ H Q ⟨B,F,O,ρ,R,h⟩=>h H (Same.refl H)⟩
theorem AgT(h:DE X e te):DO X (some e) (Aib te) where
 mono:=fun hq z=>h.mono (fun d z=>by
  split at z
  ·exact hq _ z
  ·exact z.elim) z
 po:=(AgY h.pe).imp fun σ H Q ⟨B,F,O,ρ,R,z⟩=>⟨B,F,O,ρ,R,h.mono (fun d z v H1 s1 r1=>by
  split at z
  ·exact⟨_,Bp.mp r1,z H1 s1⟩
  ·exact z.elim) z⟩
def cutD(xs:List Dt)(lo hi:Option Int):List Dt:=(xs.drop (HT.sIx xs.length 0 lo)).take (HT.sIx xs.length xs.length hi-HT.sIx xs.length 0 lo)
theorem RpL.cut{K:W.Frag}{H:Hp}{ds:List Dt}{xs:List V}{lo hi:Option Int}(h:RpL K H ds xs):RpL K H (cutD ds lo hi) (AbO xs lo hi):=by
 unfold cutD AbO
 rw[h.len]
 exact(h.drop _).take _
def Ajs(te:DTE)(tl th:DTO):DTE:=fun ρ Q=>te ρ fun d=>tl ρ fun lo=>th ρ fun hi=>match d with
 |.lst ds=>Q (.lst (cutD ds lo hi))
 |_=>False
end
end L2
namespace L2
open PySem Spec PyProof.Rows SeqAt
theorem Lx(env:Env):∀(names:List (Str×NameKind))(cs:List (Str×Addr)),(∀y∈names,y.2=.free→∃c,env.cells.lookup y.1=some c)→(∀n c,cs.lookup n=some c→env.cells.lookup n=some c) →
  ∃cl,(forIn names cs fun(x:Str×NameKind)(r:List (Str×Addr))=>(if(x.2==NameKind.free)=true then(do let c ←cellOf env x.1;pure (ForInStep.yield ((x.1,c)::r)))else pure (ForInStep.yield r):Sem (ForInStep (List (Str×Addr)))))=pure cl ∧
   (∀n c,cl.lookup n=some c→env.cells.lookup n=some c)∧(∀n,(cs.lookup n).isSome=true→(cl.lookup n).isSome=true)∧∀n,(n,NameKind.free)∈names→(cl.lookup n).isSome=true
 | [],cs,_,h2=>⟨cs,rfl,h2,fun _ h=>h,fun n h=>(nomatch h)⟩
 | (x,k)::names,cs,h1,h2=>by
  rw[List.forIn_cons]
  by_cases hk:k=.free
  ·subst hk
   obtain⟨c,hc⟩:=h1 (x,.free) List.mem_cons_self rfl
   have e:cellOf env x=pure c:=by unfold cellOf;rw[hc]
   have h3:∀n c',((x,c)::cs).lookup n=some c'→env.cells.lookup n=some c':=fun n c' q=>by
    rw[List.lookup_cons]at q
    split at q
    ·rename_i b;cases q;rw[eq_of_beq b];exact hc
    ·exact h2 n c' q
   obtain⟨cl,g1,g2,g3,g4⟩:=Lx env names ((x,c)::cs) (fun y hy=>h1 y (List.mem_cons_of_mem _ hy)) h3
   refine⟨cl,?_,g2,fun n q=>g3 n ?_,fun n hn=>?_⟩
   ·simp only[beq_self_eq_true,if_true,e,pure_bind]
    exact g1
   ·rw[List.lookup_cons];split
    ·rfl
    ·exact q
   ·rcases List.mem_cons.mp hn with q|q
    ·cases q
     exact g3 x (by rw[List.lookup_cons];simp)
    ·exact g4 n q
  ·have hb:(k==NameKind.free)=false:=by simpa using hk
   obtain⟨cl,g1,g2,g3,g4⟩:=Lx env names cs (fun y hy=>h1 y (List.mem_cons_of_mem _ hy)) h2
   refine⟨cl,?_,g2,g3,fun n hn=>?_⟩
   ·simp only[hb,Bool.false_eq_true,if_false,pure_bind]
    exact g1
   ·rcases List.mem_cons.mp hn with q|q
    ·cases q;exact absurd rfl hk
    ·exact g4 n q
theorem Q6{env:Env}{scope:Scope}(h:∀y∈scope.names,y.2=.free→∃c,env.cells.lookup y.1=some c) :
  ∃cl,closureFor scope env=pure cl∧(∀n c,cl.lookup n=some c→env.cells.lookup n=some c)∧∀n,(n,NameKind.free)∈scope.names→∃c,cl.lookup n=some c:=by
 obtain⟨cl,g1,g2,_,g4⟩:=Lx env scope.names [] h (fun n c q=>by simp at q)
 refine⟨cl,?_,g2,fun n q=>Option.isSome_iff_exists.mp (g4 n q)⟩
 unfold closureFor
 simp only[bind_pure]
 exact g1
def Bm(X:Cx)(scope:Scope)(N:List Str)(cl:List (Str×Addr))(C:Addr)(s₀:Shared)(H₀:Hp)(ex:List Addr):Cx where
 prog:=X.prog
 w:=X.w
 K:=X.K
 mg:=X.mg
 base:=X.base
 A:=X.A
 N:=N
 s₀:=s₀
 H₀:=H₀
 env:=compEnvC scope cl C X.env
 outer:=X.stack
 stack:=X.stack
 ex:=ex
 fn:=fun _=>false
 calm:=X.calm
 pn:=[]
 xe:=fun _ _=>False
def PTs(X:Cx)(ifs:List Expr)(t:TT):Prop :=
 ∀(pins:List (Addr×Obj))(s:Shared)(σ:St)(H:Hp)(Q:Bool→Hp→Prop),Inv X pins σ H s→t σ H Q →
  wpAny (model X.prog X.w) X.A (forIn ifs true fun c r=>if r=true then do let ok ←isTrue c X.env (eval c X.env);pure (ForInStep.yield ok)else pure (ForInStep.yield r)) (TP X pins σ Q) X.xe s
theorem Af0{X:Cx}:PTs X [] (fun _ H Q=>Q true H):=fun pins s σ H Q I h=>wpAny_tests_nil ⟨H,I,h⟩
theorem AfM{X:Cx}{c:Expr}{t:TT}(h:PT X c t):PTs X [c] t:=fun pins s σ H Q I q=>wpAny_tests_one (h pins s σ H Q I q)
def Vu(sl:List Nat)(wi:TI)(tt:TT)(te:TE):TE:=fun σ H Q=>wi σ H fun J H1=>∃vs:List V,sl.map (fun j=>σ[j]?)=vs.map (fun v=>some (some v))∧∀D,H1 D=none →
 ∃W:Nat→Nat→List V→Hp→Prop,(∃m,W 0 m [] (upd H1 D (.lst [])))∧∀i m acc H,W i m acc H →
  (J.stop i H∧Q (.ref D) H) ∨
  (J.go i H∧∀x H',J.yld i H x H'→tt (some x::vs.map some) H' fun b H2 =>
   if b=true then te (some x::vs.map some) H2 fun y H3=>H3 D=some (.lst acc)∧acc.length<sizeLine∧∃m',m'<m∧W (i+1) m' (acc++[y]) (upd H3 D (.lst (acc++[y])))
   else ∃m',m'<m∧W (i+1) m' acc H2)
theorem G4{env:Env}:∀{names:List (Str×NameKind)} {x:Str},names.lookup x=some .free→env.scope.kind=.function→env.kindOf x=some .cell →
  (names.map fun(n,k)=>if(k==NameKind.free&&env.scope.kind == .function&&env.kindOf n==some .cell)then(n,NameKind.cell)else(n,k)).lookup x=some .cell
 | [],_,h,_,_=>by simp at h
 | (n,k)::r,x,h,hk,he=>by
  have ih:=@G4 env r x
  show List.lookup x ((if(k==NameKind.free&&env.scope.kind == .function&&env.kindOf n==some .cell)=true then(n,NameKind.cell)else(n,k))::_)=_
  cases hx:x==n with
  | true =>
   simp only[List.lookup_cons,hx]at h
   cases h
   have e:=eq_of_beq hx
   subst e
   simp[List.lookup_cons,hk,he]
  | false =>
   simp only[List.lookup_cons,hx]at h
   by_cases hc:(k==NameKind.free&&env.scope.kind == .function&&env.kindOf n==some .cell)=true
   ·rw[if_pos hc];simp only[List.lookup_cons,hx];exact ih h hk he
   ·rw[if_neg hc];simp only[List.lookup_cons,hx];exact ih h hk he
theorem M9{env:Env}:∀{names:List (Str×NameKind)} {x:Str},(∀y∈names,y.2≠.cell) →
  ((names.map fun(n,k)=>if(k==NameKind.free&&env.scope.kind == .function&&env.kindOf n==some .cell)then(n,NameKind.cell)else(n,k)).lookup x=some .cell ∨
   (names.map fun(n,k)=>if(k==NameKind.free&&env.scope.kind == .function&&env.kindOf n==some .cell)then(n,NameKind.cell)else(n,k)).lookup x=some .free)→(x,NameKind.free)∈names
 | [],_,_,h=>by simp at h
 | (n,k)::r,x,hn,h=>by
  have ih:=@M9 env r x fun y hy=>hn y (List.mem_cons_of_mem _ hy)
  have nk:k≠.cell:=hn (n,k) List.mem_cons_self
  rw[List.map_cons]at h
  by_cases hc:(k==NameKind.free&&env.scope.kind == .function&&env.kindOf n==some .cell)=true
  ·simp only[hc,if_true,List.lookup_cons]at h
   have kf:k=.free:=by simp at hc;exact hc.1.1
   subst kf
   cases hx:x==n with
   |true=>rw[eq_of_beq hx];exact List.mem_cons_self
   |false=>simp only[hx]at h;exact List.mem_cons_of_mem _ (ih h)
  ·have hc':(k==NameKind.free&&env.scope.kind == .function&&env.kindOf n==some .cell)=false:=by simpa using hc
   simp only[hc',Bool.false_eq_true,if_false,List.lookup_cons]at h
   cases hx:x==n with
   | true =>
    simp only[hx]at h
    have kf:k=.free:=by
     rcases h with h|h
     ·exact absurd (Option.some.inj h) nk
     ·exact Option.some.inj h
    subst kf
    rw[eq_of_beq hx];exact List.mem_cons_self
   |false=>simp only[hx]at h;exact List.mem_cons_of_mem _ (ih h)
section
variable{X:Cx}{elt iter:Expr}{x:Str}{px:Pos}{ifs:List Expr}{scope:Scope}{pos:Pos}{N:List Str}{sl:List Nat}{wi:TI}{tt:TT}{te:TE}
structure DQ(X:Cx)(scope:Scope)(x:Str)(N:List Str)(sl:List Nat):Prop where
 hx:scope.names.lookup x=some .local
 kind:scope.kind=.function
 cell:∀y∈scope.names,y.2≠.cell
 names:∀y∈scope.names,y.2=.local→scope.names.lookup y.1=some .local
 free:∀y∈scope.names,y.2=.free→X.env.kindOf y.1=some .cell
 nd:(x::N).Nodup
 sl:N.map some=sl.map (fun j=>X.N[j]?)
 frN:∀n∈N,scope.names.lookup n=some .free
theorem Vr(S:DQ X scope x N sl){pins:List (Addr×Obj)}{σ:St}{H:Hp}{s:Shared}{h₁:Heap}{tk:Nat}{fp:List Addr}{cl:List (Str×Addr)}{vs:List V}{o:Obj}(I:Inv X pins σ H s)
  (hfp:∀b∈fp,OJ X pins H b) (hob:∀b∈fp,∃o,s.heap.get? b=some o) (hns:h₁.Ns s.heap.objs.size (fun _=>none)) (hsb:Heap.SameBut s.heap.objs.size (s.heap.push o) h₁)
  (hcl:∀n c,cl.lookup n=some c→X.env.cells.lookup n=some c) (wR:∀n,(n,NameKind.free)∈scope.names→∃c,cl.lookup n=some c)
  (hvs:sl.map (fun j=>σ[j]?)=vs.map (fun v=>some (some v))) :
  Inv (Bm X scope (x::N) cl s.heap.objs.size s H fp) [] (none::vs.map some) H {s with heap:=h₁,toks:=tk}:=by
 have hL:=I.lt
 have keep:∀b o,s.heap.get? b=some o→h₁.get? b=some o:=fun b o e=>(hsb.2 b (Nat.ne_of_lt (Heap.lt_size e))).trans (Heap.get?_push_of_some _ e)
 have kf:X.env.scope.kind=.function:=I.ok.kind
 refine⟨⟨I.ok.mod,?_,I.ok.glob,I.ok.blt,Nat.le_refl _,fun y z c h1 h2=>I.ok.inj y z c (hcl y c h1) (hcl z c h2),fun y hy=>?_,fun y c h=>(by cases h),I.ok.hd,I.ok.frames,.inl rfl,fun b hb=>⟨?_,fun y c e=>?_⟩,fun b o e=>I.bs b o e,
  Nat.le_trans I.ok.bsz I.sz,fun b o e hb=>?_,fun b hb hz=>?_,I.stack,I.vh⟩,rfl,I.bare,Un.kept keep,⟨_,hns,fun i y v e1 e2 e3=>?_⟩,fun y c e=>?_,I.hok.fresh (Nat.le_refl _),fun y c e=>I.gR y c (hcl y c e),
  fun p hp=>absurd (show p∈([]:List (Addr×Obj))from hp) (by simp),I.hok.kept keep,?_⟩
 ·exact S.kind
 ·exact wR y (M9 (env:=X.env) (fun z hz=>S.cell z hz) hy)
 ·obtain⟨o',e⟩:=hob b hb
  exact Nat.ne_of_lt (Heap.lt_size e)
 ·exact(hfp b hb).2.2.2.2.1 y c (hcl y c e)
 ·rcases(hfp b hb).2.2.2.1 with z|z
  ·exact I.ok.vf b o e z
  ·exact absurd (Nat.lt_of_lt_of_le (Heap.lt_size e) (Nat.le_trans I.ok.bsz z)) (Nat.lt_irrefl _)
 ·rcases List.mem_cons.mp (I.vg b hz)with q|q
  ·exact(hfp b hb).2.1 q
  ·exact(hfp b hb).2.2.1 q
 ·cases i with
  |zero=>simp at e2
  | succ j =>
   have e1':N[j]? = some y:=by simpa [Bm] using e1
   have e2':vs[j]? = some v:=by
    rw[List.getElem?_cons_succ,List.getElem?_map]at e2
    cases q:vs[j]? with
    |none=>rw[q]at e2;cases e2
    |some v'=>rw[q]at e2;cases e2;rfl
   have q1:=congrArg (fun l=>l[j]?) S.sl
   have q2:=congrArg (fun l=>l[j]?) hvs
   simp only[List.getElem?_map,e1',e2',Option.map_some]at q1 q2
   cases hk:sl[j]? with
   |none=>rw[hk]at q1;cases q1
   | some k =>
    rw[hk]at q1 q2
    have n1:X.N[k]? = some y:=(Option.some.inj q1).symm
    have n2:σ[k]? = some (some v):=Option.some.inj q2
    have hfr:=S.frN y (List.mem_of_getElem? e1')
    have hm:=PySem.mem_of_lookup hfr
    have hc:=S.free _ hm rfl
    obtain⟨m,hn,hl⟩:=I.loc
    obtain⟨u,r,lk⟩:=hl k y v n1 n2 (.inr (.inl hc))
    refine⟨u,r,.inr ⟨.inl (G4 hfr kf hc),?_⟩⟩
    rcases lk with⟨kl,_⟩|⟨_,c,ec,⟨o',ho,hd⟩⟩
    ·rw[hc]at kl;cases kl
    ·obtain⟨c',ec'⟩:=wR y hm
     have:=hcl y c' ec'
     rw[ec]at this;cases this
     exact⟨c,ec',o',keep _ _ ho,hd⟩
 ·obtain⟨v,o',ho,hd⟩:=I.cell y c (hcl y c e)
  exact⟨v,o',keep _ _ ho,hd⟩
 ·have l1:=congrArg List.length S.sl
  have l2:=congrArg List.length hvs
  simp only[List.length_map]at l1 l2
  simp[Bm];omega
theorem Vn(S:DQ X scope x N sl)(hc:X.calm=true)(hi:PI X (.Name x px) iter wi)(ht:∀cl C s₀ H₀ ex,PTs (Bm X scope (x::N) cl C s₀ H₀ ex) ifs tt)(he:∀cl C s₀ H₀ ex,PE (Bm X scope (x::N) cl C s₀ H₀ ex) elt te)
  (hs:∀x,foldedSetIterable iter X.env x=pure x:=by intro _;rfl):PE X (.ListComp elt [⟨.Name x px,iter,ifs,0⟩] scope pos) (Vu sl wi tt te):=by
 intro pins s σ H Q I h
 obtain⟨cl,hclos,hcl,wR⟩:=Q6 (env:=X.env) (scope:=scope) fun y hy hf=>I.ok.has y.1 (.inl (S.free y hy hf))
 rw[eval_ListComp]
 refine wpAny_comprehension_free (use:=none) rfl hs hclos S.kind S.names (thn (hi pins s σ H _ I h) fun v s1 h1=>thn h1 fun itv s2 h2=>?_)
 obtain⟨it,fp,tn,J,H2,e,I2,T,st2,f2,vs,hvs,hW⟩:=h2
 subst e
 refine wpAny_newObj_type (wpAny_newFunctionEnv S.cell (by intro y hy;simp at hy) (fun h₁ hns₁ hsb₁=>?_) S.kind)
 have hD:H2 s2.heap.objs.size=none:=I2.fresh
 have I3:Inv X pins σ (upd H2 s2.heap.objs.size (.lst [])) {s2 with heap:=s2.heap.push {cls:=.type "list",data:=.seq ([]:List Value).toArray},toks:=s2.toks}:=I2.ab7 (its:=[]) (ys:=[]) .nil (Nat.zero_le _)
 have hbD:∀b∈fp,b≠s2.heap.objs.size:=fun b hb z=>by
  obtain⟨o',e',_⟩:=T.obj _ _ st2 b hb
  exact absurd (Heap.lt_size e') (by rw[z];exact Nat.lt_irrefl _)
 have f3:∀b∈fp,OJ X pins (upd H2 s2.heap.objs.size (.lst [])) b:=fun b hb=>⟨by rw[Ak (hbD b hb)];exact(f2 b hb).1,(f2 b hb).2⟩
 have ob3:∀b∈fp,∃o,(s2.heap.push {cls:=.type "list",data:=.seq ([]:List Value).toArray}).get? b=some o:=fun b hb=>by
  obtain⟨o',e',_⟩:=T.obj _ _ st2 b hb
  exact⟨o',Heap.get?_push_of_some _ e'⟩
 have IC:=Vr (tk:=s2.toks+([]:List (Str×Value)).length) S I3 f3 ob3 hns₁ hsb₁ hcl wR hvs
 dsimp only at hsb₁ IC ⊢
 generalize hCC:(s2.heap.push {cls:=.type "list",data:=.seq ([]:List Value).toArray}).objs.size=C at hns₁ hsb₁ IC ⊢
 have old:∀b o,s2.heap.get? b=some o→h₁.get? b=some o:=fun b o e=>by
  have e1:(s2.heap.push {cls:=.type "list",data:=.seq ([]:List Value).toArray}).get? b=some o:=Heap.get?_push_of_some _ e
  exact(hsb₁.2 b (by rw[←hCC];exact Nat.ne_of_lt (Heap.lt_size e1))).trans (Heap.get?_push_of_some _ e1)
 have st₁:tn 0 h₁:=T.keep _ _ _ st2 fun b hb o e=>old b o e
 obtain⟨W,⟨m0,w0⟩,turn⟩:=hW s2.heap.objs.size hD
 have fpC:∀{H':Hp} {pl:List (Addr×Obj)},(∀b∈fp,H' b=none)→(∀p∈pl,p.1∉fp)→∀b∈fp,OJ (Bm X scope (x::N) cl C {s2 with heap:=s2.heap.push {cls:=.type "list",data:=.seq ([]:List Value).toArray},toks:=s2.toks} (upd H2 s2.heap.objs.size (.lst [])) fp) pl H' b:=fun{H' pl} hn hp b hb=>by
  refine⟨hn b hb,(IC.ok.exf b hb).1,IC.ok.uh b hb,.inl hb,(IC.ok.exf b hb).2,fun p hq z=>?_⟩
  have hq':p∈pl:=by simpa [Bm] using hq
  exact hp p hq' (by rw[z];exact hb)
 have done:∀{σ':St} {H':Hp} {s':Shared},Inv (Bm X scope (x::N) cl C {s2 with heap:=s2.heap.push {cls:=.type "list",data:=.seq ([]:List Value).toArray},toks:=s2.toks} (upd H2 s2.heap.objs.size (.lst [])) fp) [] σ' H' s'→Q (.ref s2.heap.objs.size) H' →
   ∃m,s'.heap.Ns C m∧∀h',Heap.SameBut C s'.heap h'→EP X pins σ Q (.ref s2.heap.objs.size) {s' with heap:=h'}:=fun{σ' H' s'} J q=>by
  obtain⟨m,hn,_⟩:=id J.loc
  refine⟨m,hn,fun h' hs'=>⟨.ref s2.heap.objs.size,H',?_,rfl,q⟩⟩
  have u:Un (frs X.stack) fp H2 H' s2.heap s'.heap:=(Un.laid (fun b u e=>Heap.get?_push_of_some _ e) (Nat.le_refl _) hD).trans J.base
  have nC:∀b o,s2.heap.get? b=some o→b≠C:=fun b o e=>by
   have e1:(s2.heap.push {cls:=.type "list",data:=.seq ([]:List Value).toArray}).get? b=some o:=Heap.get?_push_of_some _ e
   rw[←hCC];exact Nat.ne_of_lt (Heap.lt_size e1)
  have u':Un (frs X.stack) fp H2 H' s2.heap h' :=
   ⟨fun b o e n hb hx=>(hs'.2 b (nC b o e)).trans (u.keep b o e n hb hx),fun b o e n hb hx=>let ⟨sl,q⟩:=u.slot b o e n hb hx;⟨sl,(hs'.2 b (nC b o e)).trans q⟩,u.free,fun b o e hx=>let ⟨o',q⟩:=u.there b o e hx;⟨o',(hs'.2 b (nC b o e)).trans q⟩,u.tups,u.lK,u.mD⟩
  have hok:HOk X.prog X.w H' h':=fun b ob e=>(J.hok b ob e).stay (fun c w' hc q=>(hs'.2 c (by
   rintro rfl
   have hf:H' c=none:=J.free
   rcases hc with rfl|hc
   ·rw[hf]at e;cases e
   ·rw[hf]at hc;cases hc)).trans q) (fun _ q=>q) fun _ _ q=>q
  have hos:s'.os=s2.os:=J.os
  exact I2.call' (s':={s' with heap:=h'}) (ch:=fp) hos u' hok J.bare fun b hb=>⟨(f2 b hb).2.2.2.1,(f2 b hb).2.1,(f2 b hb).2.2.2.2.1,(f2 b hb).2.2.2.2.2⟩
 have loop:codeAny (model X.prog X.w) X.A (.compLoop (.ListComp elt [⟨.Name x px,iter,ifs,0⟩] scope pos) 0 (.ref it) (.ref s2.heap.objs.size) (compEnvC scope cl C X.env)) (compPost (model X.prog X.w) X.A X.xe none (EP X pins σ Q) (.ref s2.heap.objs.size) C)
   {s2 with heap:=h₁,toks:=s2.toks+([]:List (Str×Value)).length}:=by
  refine codeAny_compLoop_tests (fun n s'=>∃i acc σ' H',Inv (Bm X scope (x::N) cl C {s2 with heap:=s2.heap.push {cls:=.type "list",data:=.seq ([]:List Value).toArray},toks:=s2.toks} (upd H2 s2.heap.objs.size (.lst [])) fp) [] σ' H' s'∧(∃y,σ'=y::vs.map some) ∧
   tn i s'.heap∧(∀b∈fp,H' b=none)∧W i n acc H') ?_ m0 ⟨0,[],_,_,IC,⟨none,rfl⟩,st₁,fun b hb=>(f3 b hb).1,w0⟩
  rintro n s3 ⟨i,acc,σ3,H3,I4,⟨y,rfl⟩,st3,fr3,w3⟩
  rcases turn i n acc H3 w3 with⟨stop,qn⟩|⟨go,step⟩
  ·refine wpAny_mono (T.done (Bm X scope (x::N) cl C {s2 with heap:=s2.heap.push {cls:=.type "list",data:=.seq ([]:List Value).toArray},toks:=s2.toks} (upd H2 s2.heap.objs.size (.lst [])) fp) rfl rfl rfl hc i [] s3 _ H3 (fun _ _=>False) I4 (fpC fr3 (by simp)) st3 stop) (fun r s4 ⟨hr,I5⟩=>?_) fun _ _ z=>False.elim z
   subst hr
   exact done I5 qn
  ·refine wpAny_mono (T.item (Bm X scope (x::N) cl C {s2 with heap:=s2.heap.push {cls:=.type "list",data:=.seq ([]:List Value).toArray},toks:=s2.toks} (upd H2 s2.heap.objs.size (.lst [])) fp) rfl rfl rfl hc i [] s3 _ H3 (fun _ _=>False) I4 (fpC fr3 (by simp)) st3 go) (fun r s4 ⟨u,hr,h4⟩=>?_) fun _ _ z=>False.elim z
   subst hr
   have e0:∀(k:Unit→Sem Unit),(letOwnedTupleGo (.Name x px) (.ref it) u >>= k)=k ():=fun k=>rfl
   have hg:PG (Bm X scope (x::N) cl C {s2 with heap:=s2.heap.push {cls:=.type "list",data:=.seq ([]:List Value).toArray},toks:=s2.toks} (upd H2 s2.heap.objs.size (.lst [])) fp) (.Name x px) (AaE 0):=Vj S.nd rfl (.inl (lookup_relabel_local S.hx)) (.inr (lookup_relabel_local S.hx))
   show wpAny (model X.prog X.w) X.A (assign (.Name x px) (compEnvC scope cl C X.env) u) _ _ s4
   rw[←e0 fun _=>assign (.Name x px) (compEnvC scope cl C X.env) u]
   refine wpAny_bind (wpAny_mono h4 (fun _ s5 ⟨z,H5,I5,r5,y5,st5,fr5⟩=>?_) fun _ _ z=>False.elim z)
   have I5':=I5.pinned (fpC fr5 (by simp)) (T.obj _ _ st5)
   have W5:=hg _ s5 _ H5 z u (fun σ' H'=>σ'=some z::vs.map some∧H'=H5) I5' r5 ⟨rfl,rfl⟩
   refine wpAny_mono W5 (fun _ s6 ⟨σ6,H6,I6,e6,e7⟩=>?_) fun _ _ z=>False.elim z
   subst e6 e7
   refine wpAny_mono (ht _ _ _ _ _ _ s6 _ H6 _ I6 (step z H6 y5)) (fun b s7 ⟨H7,I7,q7⟩=>?_) fun _ _ z=>False.elim z
   have again:∀{H8:Hp} {s8:Shared} {acc':List V},Inv (Bm X scope (x::N) cl C {s2 with heap:=s2.heap.push {cls:=.type "list",data:=.seq ([]:List Value).toArray},toks:=s2.toks} (upd H2 s2.heap.objs.size (.lst [])) fp) ([]++NQ fp s5.heap) (some z::vs.map some) H8 s8→(∃m',m'<n∧W (i+1) m' acc' H8)→∃m,m<n∧∃i acc σ' H',Inv (Bm X scope (x::N) cl C {s2 with heap:=s2.heap.push {cls:=.type "list",data:=.seq ([]:List Value).toArray},toks:=s2.toks} (upd H2 s2.heap.objs.size (.lst [])) fp) [] σ' H' s8∧(∃y,σ'=y::vs.map some)∧tn i s8.heap∧(∀b∈fp,H' b=none)∧W i m acc H':=fun{H8 s8 acc'} I8 ⟨m',hm,w8⟩=>by
    refine⟨m',hm,i+1,acc',_,H8,I8.jx,⟨_,rfl⟩,T.keep _ _ _ st5 fun b hb o e=>(I8.pin (b,o) (List.mem_append_right _ (List.mem_append_right _ (Gf hb e)))).1,fun b hb=>?_,w8⟩
    obtain⟨o,e,d⟩:=T.obj _ _ st5 b hb
    exact(I8.pin (b,o) (List.mem_append_right _ (List.mem_append_right _ (Gf hb e)))).2.1
   cases b with
   |false=>exact again I7 q7
   | true =>
    rw[if_pos rfl]
    refine wpAny_mono (he _ _ _ _ _ _ s7 _ H7 _ I7 q7) (fun v8 s8 ⟨x8,H8,I8,r8,hD8,hz8,q8⟩=>?_) fun _ _ z=>False.elim z
    refine wpAny_mono (NK (X:=(Bm X scope (x::N) cl C {s2 with heap:=s2.heap.push {cls:=.type "list",data:=.seq ([]:List Value).toArray},toks:=s2.toks} (upd H2 s2.heap.objs.size (.lst [])) fp)) _ s8 _ H8 (.ref s2.heap.objs.size) [x8] (.ref s2.heap.objs.size) [v8] (fun _ H9=>H9=upd H8 s2.heap.objs.size (.lst (acc++[x8]))) I8 rfl (.cons r8 .nil) ⟨_,acc,x8,rfl,rfl,hD8,hz8,rfl⟩) (fun _ s9 ⟨_,H9,I9,_,e9⟩=>?_) fun _ _ z=>False.elim z
    subst e9
    exact again I9 q8
 exact codeAny_compStart_list loop (T.self _ 0 _ _ _ st₁ loop)
def inner(sl:List Nat)(ρ:BP)(d:Dt):BP:=some (.is d)::sl.map fun j=>(ρ[j]?).join
structure DTs(X:Cx)(ifs:List Expr)(t:DTT):Prop where
 mono:∀{ρ Q Q'},(∀d,Q d→Q' d)→t ρ Q→t ρ Q'
 pts:PTs X ifs (lT X.K t)
def Ka:DTT:=fun _ Q=>Q true
theorem Ux:DTs X [] Ka:=⟨fun hq h=>hq _ h,fun pins s σ H Q I ⟨B,F,O,ρ,R,h⟩=>Af0 pins s σ H Q I (h H (Same.refl H))⟩
theorem ZD{c:Expr}{t:DTT}(h:DT X c t):DTs X [c] t:=⟨h.mono,AfM h.pt⟩
def caught(sl:List Nat)(ρ:BP):Prop:=∀j∈sl,∃d,ρ[j]? = some (some (.is d))
def Jf(sl:List Nat)(ti:DTI)(tt:DTT)(te:DTE):DTE:=fun ρ Q=>ti ρ fun items=>items.length≤sizeLine∧caught sl ρ ∧
 ∃W:Nat→List Dt→Prop,W 0 []∧(∀(k:Nat) d acc,items[k]? = some d→W k acc→tt (inner sl ρ d) fun b=>if b=true then te (inner sl ρ d) fun e=>W (k+1) (acc++[e])else W (k+1) acc) ∧
  ∀acc,acc.length≤items.length→W items.length acc→Q (.lst acc)
theorem Kd{K:W.Frag}{B:Hp}{F O:List Addr}{H:Hp}{σ:St}{ρ:BP}(R:Rep K B F O H σ ρ):∀{sl:List Nat},caught sl ρ→∃vs ds,sl.map (fun j=>σ[j]?)=vs.map (fun v=>some (some v))∧sl.map (fun j=>(ρ[j]?).join)=ds.map (fun d=>some (En.is d))∧RpL K (mask (F++O) H) ds vs
 | [],_=>⟨[],[],rfl,rfl,RpL.nil⟩
 | j::sl,h=>by
  obtain⟨d,e⟩:=h j List.mem_cons_self
  obtain⟨v,e1,e2⟩:=R.is j d e
  obtain⟨vs,ds,h1,h2,h3⟩:=Kd R (sl:=sl) fun k hk=>h k (List.mem_cons_of_mem _ hk)
  exact⟨v::vs,d::ds,by simp[e1,h1],by simp[e,h2],RpL.cons e2 h3⟩
theorem Tn{K:W.Frag}{F:List Addr}{H:Hp}{d:Dt}{v:V}{ds:List Dt}{vs:List V}(th:∀a∈F,H a≠none)(r:Rp K (mask F H) d v)(rs:RpL K (mask F H) ds vs) :
  Rep K (fun _=>none) F [] H (some v::vs.map some) (some (.is d)::ds.map fun d=>some (En.is d)):=by
 have e:mask (F++[]) H=mask F H:=by rw[List.append_nil]
 have ou:∀(i:Nat)(es:En),(∀z,es≠.is z)→(some (En.is d)::ds.map fun d=>some (En.is d))[i]? = some (some es)→False:=fun i es nz q=>by
  cases i with
  |zero=>cases q;exact nz _ rfl
  | succ j =>
   rw[List.getElem?_cons_succ,List.getElem?_map]at q
   cases z:ds[j]? with
   |none=>rw[z]at q;cases q
   |some y=>rw[z]at q;cases q;exact nz _ rfl
 refine⟨by simp[rs.len],fun a o q=>(nomatch q),fun a h=>(nomatch h),fun a h=>th a (by simpa using h),fun i y q=>?_,fun i es q=>(ou i _ (fun _ z=>by cases z) q).elim,fun i j es es' a h1=>(ou i _ (fun _ z=>by cases z) h1).elim,fun i es q=>(ou i _ (fun _ z=>by cases z) q).elim,fun i j es es' a h1=>(ou i _ (fun _ z=>by cases z) h1).elim⟩
 rw[e]
 cases i with
 |zero=>cases q;exact⟨v,rfl,r⟩
 | succ j =>
  rw[List.getElem?_cons_succ,List.getElem?_map]at q
  cases z:ds[j]? with
  |none=>rw[z]at q;cases q
  | some y' =>
   rw[z]at q;cases q
   obtain⟨u,h1,h2⟩:=rs.get z
   exact⟨u,by rw[List.getElem?_cons_succ,List.getElem?_map,h1];rfl,h2⟩
theorem V5{K:PySem.W.Frag}{sl:List Nat}{ti:DTI}{dt:DTT}{de:DTE}(mi:∀{ρ Q Q'},(∀d,Q d→Q' d)→ti ρ Q→ti ρ Q')(mt:∀{ρ Q Q'},(∀d,Q d→Q' d)→dt ρ Q→dt ρ Q')(me:∀{ρ Q Q'},(∀d,Q d→Q' d)→de ρ Q→de ρ Q')
  (σ:St) (H:Hp) (Q:VK) (h:lE K (Jf sl ti dt de) σ H Q):Vu sl (lI K ti) (lT K dt) (lE K de) σ H Q:=by
 obtain⟨B,F,O,ρ,R,h⟩:=h
 refine⟨B,F,O,ρ,R,mi (fun items ⟨h1,h2,W,w0,st,fin⟩ J H1 s1 it=>?_) h⟩
 have R1:=R.same s1
 obtain⟨vs,ds,ev,ed,rs⟩:=Kd R1 h2
 refine⟨vs,ev,fun D hD=>?_⟩
 have nD:D∉F++O:=fun z=>R1.th D z hD
 have sM:Same (mask (F++O) H1) (mask (F++O) (upd H1 D (.lst []))):=(Same.upd hD).mask
 refine⟨fun i m acc H2=>m+i=items.length∧H2 D=some (.lst acc)∧acc.length≤i∧Same H1 H2∧∃as,RpL K (mask (D::(F++O)) H2) as acc∧W i as,⟨items.length,by omega,Av,Nat.le_refl _,Same.upd hD,[],RpL.nil,w0⟩,?_⟩
 rintro i m acc H2 ⟨hm,e2,hl,s2,as,ra,w⟩
 have sb:Same (mask (F++O) H1) H2:=fun a o e=>s2 a o (Cg e).2
 have sD:Same (mask (F++O) H1) (mask (D::(F++O)) H2):=fun a o e=>by
  obtain⟨q,e⟩:=Cg e
  rw[Ba fun z=>by
   rcases List.mem_cons.mp z with z|z
   ·rw[z,hD]at e;cases e
   ·exact q z]
  exact s2 a o e
 obtain⟨go,stop⟩:=it H2 sb
 by_cases hlt:i<items.length
 ·refine .inr ⟨(go i items[i] (by simp[hlt])).1,fun z H3 y=>?_⟩
  obtain⟨e,r⟩:=(go i items[i] (by simp[hlt])).2 z H3 y
  subst e
  have th:∀a∈D::(F++O),H3 a≠none:=fun a ha q=>by
   rcases List.mem_cons.mp ha with z|z
   ·rw[z,e2]at q;cases q
   ·have:=R1.th a z
    cases q':H1 a with
    |none=>exact this q'
    |some o=>rw[s2 a o q']at q;cases q
  have R3:=Tn th (r.mono sD) (rs.mono sD)
  have ei:some (En.is items[i])::ds.map (fun d=>some (En.is d))=inner sl ρ items[i]:=by unfold inner;rw[ed]
  rw[ei]at R3
  refine⟨_,_,_,_,R3,mt (fun b q H4 s4=>?_) (st i _ as (by simp[hlt]) w)⟩
  cases b with
  | false =>
   refine⟨m-1,by omega,by omega,s4 _ _ e2,by omega,s2.trans s4,as,ra.mono s4.mask,q⟩
  | true =>
   refine⟨_,_,_,_,R3.same s4,me (fun e q v5 H5 s5 r5=>?_) q⟩
   have e5:H5 D=some (.lst acc):=s5 _ _ (s4 _ _ e2)
   have hz:acc.length<sizeLine:=by omega
   have s6:Same (mask (D::(F++O)) H5) (mask (D::(F++O)) (upd H5 D (.lst (acc++[v5])))):=fun a o q=>by
    obtain⟨n,q⟩:=Cg q
    rw[Ba n,Ak fun z=>n (by rw[z];exact List.mem_cons_self)];exact q
   have em:mask (D::(F++O)++[]) H5=mask (D::(F++O)) H5:=by rw[List.append_nil]
   rw[em]at r5
   refine⟨e5,hz,m-1,by omega,by omega,Av,by simp;omega,fun a o q=>?_,as++[e],(((ra.mono s4.mask).mono s5.mask).append (RpL.cons r5 RpL.nil)).mono s6,q⟩
   rw[Ak (Bb q hD)]
   exact s5 _ _ (s4 _ _ (s2 a o q))
 ·have e:i=items.length:=by omega
  subst e
  refine .inl ⟨stop,fin as (by rw[←ra.len];exact hl) w (.ref D) H2 (s1.trans s2) (Jv ⟨D,acc,rfl,(by rw[Ba nD];exact e2),ra.mono (Fb fun a h=>List.mem_cons_of_mem _ h)⟩)⟩
theorem VL{ti:DTI}{dt:DTT}{de:DTE}(S:DQ X scope x N sl)(hc:X.calm=true)(hi:DI X (.Name x px) iter ti)(ht:∀cl C s₀ H₀ ex,DTs (Bm X scope (x::N) cl C s₀ H₀ ex) ifs dt)(he:∀cl C s₀ H₀ ex,DE (Bm X scope (x::N) cl C s₀ H₀ ex) elt de)
  (hs:∀x,foldedSetIterable iter X.env x=pure x:=by intro _;rfl):DE X (.ListComp elt [⟨.Name x px,iter,ifs,0⟩] scope pos) (Jf sl ti dt de):=by
 have mt:∀{ρ Q Q'},(∀d,Q d→Q' d)→dt ρ Q→dt ρ Q':=(ht [] 0 X.s₀ X.H₀ []).mono
 have me:∀{ρ Q Q'},(∀d,Q d→Q' d)→de ρ Q→de ρ Q':=(he [] 0 X.s₀ X.H₀ []).mono
 refine⟨fun hq h=>hi.mono (fun items ⟨h1,h2,W,w0,st,fin⟩=>⟨h1,h2,W,w0,st,fun acc l w=>hq _ (fin acc l w)⟩) h,?_⟩
 refine(Vn (tt:=lT X.K dt) (te:=lE X.K de) S hc hi.pi (fun cl C s₀ H₀ ex=>(ht cl C s₀ H₀ ex).pts) (fun cl C s₀ H₀ ex=>(he cl C s₀ H₀ ex).pe) hs).imp (V5 (ti:=ti) (dt:=dt) (de:=de) hi.mono mt me)
theorem Pq{ti:DTI}{de:DTE}(S:DQ X scope x N sl)(hc:X.calm=true)(hi:DI X (.Name x px) iter ti)(he:∀cl C s₀ H₀ ex,DE (Bm X scope (x::N) cl C s₀ H₀ ex) elt de)
  (hs:∀x,foldedSetIterable iter X.env x=pure x:=by intro _;rfl):DE X (.ListComp elt [⟨.Name x px,iter,[],0⟩] scope pos) (Jf sl ti Ka de):=VL S hc hi (fun _ _ _ _ _=>Ux) he hs
theorem Ad8{c:Expr}{ti:DTI}{dt:DTT}{de:DTE}(S:DQ X scope x N sl)(hc:X.calm=true)(hi:DI X (.Name x px) iter ti)(ht:∀cl C s₀ H₀ ex,DT (Bm X scope (x::N) cl C s₀ H₀ ex) c dt)(he:∀cl C s₀ H₀ ex,DE (Bm X scope (x::N) cl C s₀ H₀ ex) elt de)
  (hs:∀x,foldedSetIterable iter X.env x=pure x:=by intro _;rfl):DE X (.ListComp elt [⟨.Name x px,iter,[c],0⟩] scope pos) (Jf sl ti dt de):=VL S hc hi (fun _ _ _ _ _=>ZD (ht _ _ _ _ _)) he hs
end
end L2
namespace L2
open PySem Spec PyProof.Rows SeqAt
def AhW(sc scope:Scope)(NN:List Str)(x:Str)(N:List Str)(sl:List Nat):Bool :=
 decide (scope.names.lookup x=some .local)&&decide (scope.kind=.function)&&scope.names.all (fun y=>decide (y.2≠.cell))&&scope.names.all (fun y=>decide (y.2=.local→scope.names.lookup y.1=some .local)) &&
  scope.names.all (fun y=>decide (y.2=.free→sc.names.lookup y.1=some .cell))&&decide (x::N).Nodup&&decide (N.map some=sl.map (fun j=>NN[j]?))&&N.all (fun n=>decide (scope.names.lookup n=some .free))
theorem Fx{X:Cx}{sc scope:Scope}{NN:List Str}{x:Str}{N:List Str}{sl:List Nat}(h1:X.env.scope=sc)(h2:X.N=NN)(h:AhW sc scope NN x N sl=true):DQ X scope x N sl:=by
 subst h1 h2
 unfold AhW at h
 simp only[Bool.and_eq_true,decide_eq_true_eq,List.all_eq_true]at h
 obtain⟨⟨⟨⟨⟨⟨⟨a,b⟩,c⟩,d⟩,e⟩,f⟩,g⟩,i⟩:=h
 exact⟨a,b,c,d,e,f,g,i⟩
def Bt(n:Nat)(x:Int):Prop:=x.natAbs<2 ^ n
theorem Bt.le{n m:Nat}{x:Int}(h:Bt n x)(l:n≤m):Bt m x:=Nat.lt_of_lt_of_le h (Nat.pow_le_pow_right (by decide) l)
theorem Bt.mul{n m:Nat}{x y:Int}(a:Bt n x)(b:Bt m y):Bt (n+m) (x*y):=by
 unfold Bt at *
 rw[Int.natAbs_mul,Nat.pow_add]
 exact Nat.mul_lt_mul'' a b
theorem Bt.add{n m:Nat}{x y:Int}(a:Bt n x)(b:Bt m y):Bt (max n m+1) (x+y):=by
 have a':=a.le (Nat.le_max_left n m)
 have b':=b.le (Nat.le_max_right n m)
 unfold Bt at *
 rw[Nat.pow_succ]
 have:=Int.natAbs_add_le x y
 omega
theorem Bt.neg{n:Nat}{x:Int}(a:Bt n x):Bt n (-x):=by unfold Bt at *;rw[Int.natAbs_neg];exact a
theorem Bt.sub{n m:Nat}{x y:Int}(a:Bt n x)(b:Bt m y):Bt (max n m+1) (x-y):=by rw[Int.sub_eq_add_neg];exact a.add b.neg
theorem Bt.aK{n:Nat}{x:Int}(h:x.natAbs<2 ^ n):Bt n x:=h
theorem Bt.of{n:Nat}{x:Int}(h1:-(2 ^ n)<x)(h2:x<2 ^ n):Bt n x:=by
 unfold Bt
 have:((x.natAbs:Nat):Int)<((2 ^ n:Nat):Int):=by push_cast;omega
 omega
theorem Bt.aY{n m:Nat}{x y:Int}(a:Bt n x)(b:Bt m y)(hn:n≤1048576:=by decide)(hm:m≤1048576:=by decide):IntMulOk x y :=
 IntMulOk.of_bits (intBits_le_iff.mpr (a.le hn)) (intBits_le_iff.mpr (b.le hm))
theorem Bt.lW{n:Nat}{x y:Int}(a:Bt n y)(h:y≠0)(hn:n≤9000:=by decide):CDv x y:=⟨h,a.le hn⟩
theorem Bt.zero:Bt 0 0:=by unfold Bt;decide
theorem Bt.one:Bt 1 1:=by unfold Bt;decide
end L2
namespace L2
open PySem Spec PyProof.Rows SeqAt
section
variable{a b c d e f:Dt}{r s:List Dt}{i j:Int}{k l:Bool}{n:Nat}{x y:Str}
theorem Aoc:ixD 0 (.tup (a::r))=some a:=rfl
theorem Apc:ixD 1 (.tup (a::b::r))=some b:=rfl
theorem Apv:ixD 2 (.tup (a::b::c::r))=some c:=rfl
theorem AoW:ixD 3 (.tup (a::b::c::d::r))=some d:=rfl
theorem Aod:ixD 0 (.lst (a::r))=some a:=rfl
theorem AoN:ixD 1 (.lst (a::b::r))=some b:=rfl
theorem Aop:ixD 2 (.lst (a::b::c::r))=some c:=rfl
theorem Ao7:ixD 3 (.lst (a::b::c::d::r))=some d:=rfl
theorem Ot:Dt.eq (.int i) (.int j)=decide (i=j):=by rw[Dt.eq]
theorem SX:Dt.eq (.bl k) (.bl l)=(k==l):=by rw[Dt.eq]
theorem Hz:Dt.eq (.str x) (.str y)=(x==y):=by rw[Dt.eq]
theorem Alp:Dt.eq .non .non=true:=by rw[Dt.eq]
theorem An0:Dt.eq .non (.int i)=false:=by simp[Dt.eq]
theorem Ak2:Dt.eq .non (.tup r)=false:=by simp[Dt.eq]
theorem Amp:Dt.eq (.tup r) .non=false:=by simp[Dt.eq]
theorem Qo:Dt.eq (.tup r) (.tup s)=Dt.eqs r s:=by rw[Dt.eq]
theorem RB:Dt.eq (.lst r) (.lst s)=Dt.eqs r s:=by rw[Dt.eq]
theorem Hv:Dt.eqs [] []=true:=by rw[Dt.eqs]
theorem HB:Dt.eqs (a::r) (b::s)=(Dt.eq a b&&Dt.eqs r s):=by rw[Dt.eqs]
theorem Akj:Dt.eqs [] (b::s)=false:=by simp[Dt.eqs]
theorem AiF:Dt.eqs (b::s) []=false:=by simp[Dt.eqs]
theorem Iu:Dt.flat n (.int i)=true:=by cases n<;>rw[Dt.flat]<;>simp
theorem N8:Dt.flat n (.bl k)=true:=by cases n<;>rw[Dt.flat]<;>simp
theorem Air:Dt.flat n .non=true:=by cases n<;>rw[Dt.flat]<;>simp
theorem Yv:Dt.flat (n+1) (.tup r)=Dt.flats n r:=by rw[Dt.flat]
theorem Acj:Dt.flat (n+1) (.lst r)=Dt.flats n r:=by rw[Dt.flat]
theorem Vd:Dt.flat 8 (.tup r)=Dt.flats 7 r:=Yv
theorem Jy:Dt.flat 8 (.lst r)=Dt.flats 7 r:=Acj
theorem Aad:Dt.flat 7 (.tup r)=Dt.flats 6 r:=Yv
theorem AgN:Dt.flat 7 (.lst r)=Dt.flats 6 r:=Acj
theorem AgR:Dt.flat 6 (.tup r)=Dt.flats 5 r:=Yv
theorem Hl:Dt.flats n []=true:=by rw[Dt.flats]
theorem Hi:Dt.flats n (a::r)=(Dt.flat n a&&Dt.flats n r):=by rw[Dt.flats]
theorem Aef{N:Str}{M:List Str}:Ey (N::M) (a::r)=some (.is a)::Ey M r:=by
 unfold Ey
 simp only[List.map_cons,List.length_cons,List.cons_append,Nat.add_sub_add_right]
theorem AeJ{N:Str}{M:List Str}:Ey (N::M) []=none::Ey M []:=by
 unfold Ey
 simp[List.replicate_succ]
theorem Aeb:Ey [] []=[]:=rfl
theorem Am(h:n≤1000):n≤sizeLine:=Nat.le_of_lt (Oa h)
theorem Aj3:isT "tuple" (.tup r)=true:=rfl
theorem Aj5:isT "list" (.lst r)=true:=rfl
theorem AjF:isT "int" (.int i)=true:=rfl
theorem Ait:isT "bool" (.int i)=false:=rfl
theorem Akh:isT "int" (.bl k)=true:=rfl
theorem Akn:isT "bool" (.bl k)=true:=rfl
theorem Ajj:isT "tuple" .non=false:=rfl
theorem AjB:isT "int" .non=false:=rfl
theorem AjI:isT "int" (.tup r)=false:=rfl
theorem AiQ:isT "bool" (.tup r)=false:=rfl
theorem Apd:noFn (.int i)=true:=rfl
theorem Aps:noFn (.bl k)=true:=rfl
theorem AoO:noFn .non=true:=rfl
theorem Apj:noFn (.tup r)=true:=rfl
theorem Apn:noFn (.lst r)=true:=rfl
theorem Aoe:noFn (.str x)=true:=rfl
theorem An4:isB true (.bl k)=k:=by cases k<;>rfl
theorem AmS:isB false (.bl k)=!k:=by cases k<;>rfl
theorem Alc:isB k (.int i)=false:=rfl
theorem Ann:isB k .non=false:=rfl
theorem Akv:isB k (.tup r)=false:=rfl
theorem Amy:isB k (.lst r)=false:=rfl
theorem AnQ:isN .non=true:=rfl
theorem Al0:isN (.int i)=false:=rfl
theorem Anv:isN (.bl k)=false:=rfl
theorem Ant:isN (.tup r)=false:=rfl
theorem AlH:isN (.lst r)=false:=rfl
end
end L2
namespace L2
open PySem Spec PyProof.Rows SeqAt
theorem ifn{c:Bool}{A B:Prop}(h:c=true)(b:B):if(!c)=true then A else B:=by subst h;exact b
theorem ift{c:Bool}{A B:Prop}(h:c=true)(a:A):if c=true then A else B:=by subst h;exact a
theorem Fz{c:Bool}{A B:Prop}(h:c=false)(b:B):if c=true then A else B:=by subst h;exact b
theorem Ar{τ:Type}{args:τ→List Dt}{pre:τ→Prop}{val:τ→Dt}{Q:Dt→Prop}(p:τ)(h:pre p)(k:Q (val p)):DP args pre val (args p) Q:=⟨p,rfl,h,fun d e=>by rw[e];exact k⟩
theorem Cd{τ:Type}{args:τ→List Dt}{pre:τ→Prop}{post:τ→Dt→Prop}{Q:Dt→Prop}(p:τ)(h:pre p)(k:∀d,post p d→Q d):spec args pre post (args p) Q:=⟨p,rfl,h,k⟩
theorem Oh{sl:List Nat}{tt:DTT}{te:DTE}{ρ:BP}{Q:Dt→Prop}{items:List Dt}(p:Dt→Bool)(f:Dt→Dt)(ht:∀d∈items,∀R:Bool→Prop,R (p d)→tt (inner sl ρ d) R)(he:∀d∈items,p d=true→∀R:Dt→Prop,R (f d)→te (inner sl ρ d) R)
  (hq:Q (.lst ((items.filter p).map f))):∃W:Nat→List Dt→Prop,W 0 []∧(∀(k:Nat) d acc,items[k]? = some d→W k acc→tt (inner sl ρ d) fun b=>if b=true then te (inner sl ρ d) fun e=>W (k+1) (acc++[e])else W (k+1) acc) ∧
   ∀acc,acc.length≤items.length→W items.length acc→Q (.lst acc):=by
 refine⟨fun k acc=>acc=((items.take k).filter p).map f,by simp,fun k d acc e w=>?_,fun acc _ w=>by rw[w,List.take_length];exact hq⟩
 have hm:=List.mem_of_getElem? e
 refine ht d hm _ ?_
 have ht:=take_succ_filter p items k d e
 by_cases hp:p d=true
 ·rw[if_pos hp]
  refine he d hm hp _ ?_
  show acc++[f d]=_
  rw[w,ht,if_pos hp];simp
 ·rw[if_neg hp]
  show acc=_
  rw[w,ht,if_neg hp];simp
theorem comp_map{sl:List Nat}{te:DTE}{ρ:BP}{Q:Dt→Prop}{items:List Dt}(f:Dt→Dt)(he:∀d∈items,∀R:Dt→Prop,R (f d)→te (inner sl ρ d) R)
  (hq:Q (.lst (items.map f))):∃W:Nat→List Dt→Prop,W 0 []∧(∀(k:Nat) d acc,items[k]? = some d→W k acc→Ka (inner sl ρ d) fun b=>if b=true then te (inner sl ρ d) fun e=>W (k+1) (acc++[e])else W (k+1) acc) ∧
   ∀acc,acc.length≤items.length→W items.length acc→Q (.lst acc) :=
 Oh (fun _=>true) f (fun _ _ _ h=>h) (fun d hm _ R h=>he d hm R h) (by rw[List.filter_eq_self.mpr (fun _ _=>rfl)];exact hq)
theorem Np{sl:List Nat}{ti:DTI}{tt:DTT}{te:DTE}{ρ:BP}{Q:Dt→Prop}(items:List Dt)(p:Dt→Bool)(f:Dt→Dt)(hi:∀R:List Dt→Prop,R items→ti ρ R)(hl:items.length≤sizeLine)(hc:caught sl ρ)
  (ht:∀d∈items,∀R:Bool→Prop,R (p d)→tt (inner sl ρ d) R) (he:∀d∈items,p d=true→∀R:Dt→Prop,R (f d)→te (inner sl ρ d) R) (hq:Q (.lst ((items.filter p).map f))):Jf sl ti tt te ρ Q :=
 hi _ ⟨hl,hc,Oh p f ht he hq⟩
theorem Hr{sl:List Nat}{ti:DTI}{te:DTE}{ρ:BP}{Q:Dt→Prop}(items:List Dt)(f:Dt→Dt)(hi:∀R:List Dt→Prop,R items→ti ρ R)(hl:items.length≤sizeLine)(hc:caught sl ρ)
  (he:∀d∈items,∀R:Dt→Prop,R (f d)→te (inner sl ρ d) R) (hq:Q (.lst (items.map f))):Jf sl ti Ka te ρ Q :=
 hi _ ⟨hl,hc,comp_map f he hq⟩
theorem Pg{ti:DTI}{g:DTG}{tb:DTS}{D:Gd}{ρ:BP}(items:List Dt)(hi:∀R:List Dt→Prop,R items→ti ρ R)(W:Nat→BP→Prop)(h0:W 0 ρ)
  (hs:∀(k:Nat) d ρ',items[k]? = some d→W k ρ'→g d ρ' fun ρ2=>tb {D with nx:=W (k+1),ct:=W (k+1),bk:=D.nx} ρ2) (he:∀ρ',W items.length ρ'→D.nx ρ'):Ahf ti g tb D ρ:=hi _ ⟨W,h0,hs,he⟩
theorem ints_get{ns:List Int}{k:Nat}{d:Dt}(h:(ns.map Dt.int)[k]? = some d):∃n,ns[k]? = some n∧d=.int n:=by
 rw[List.getElem?_map]at h
 cases e:ns[k]? with
 |none=>rw[e]at h;cases h
 |some n=>rw[e]at h;cases h;exact⟨n,rfl,rfl⟩
theorem Eo{ρ:BP}:caught [] ρ:=fun _ h=>(nomatch h)
theorem CW{j:Nat}{sl:List Nat}{ρ:BP}{d:Dt}(h:ρ[j]? = some (some (.is d)))(r:caught sl ρ):caught (j::sl) ρ:=fun k hk=>by
 rcases List.mem_cons.mp hk with e|e
 ·subst e;exact⟨d,h⟩
 ·exact r k e
theorem Afa{ns:List Int}{k:Int}(h0:0≤k)(h1:k<ns.length):ixD k (.lst (ns.map Dt.int))=some (.int (ns.getD k.toNat 0)):=by
 obtain⟨j,rfl⟩:=Int.eq_ofNat_of_zero_le h0
 have hj:j<ns.length:=by omega
 show(ns.map Dt.int)[j]? = _
 rw[List.getElem?_map]
 simp[hj]
end L2
namespace L2
theorem Jm{c:DTT}{tb:DTS}{D:Gd}{ρ:BP}(W:Nat→BP→Prop)(m:Nat)(h0:W m ρ)(h:∀m ρ,W m ρ→c ρ fun k=>if k=true then tb {D with nx:=fun ρ'=>∃m',m'<m∧W m' ρ',ct:=fun ρ'=>∃m',m'<m∧W m' ρ',bk:=D.nx} ρ else D.nx ρ):Acp c tb D ρ:=⟨W,⟨m,h0⟩,h⟩
end L2
namespace L2
open PySem Spec PyProof.Rows SeqAt
section
variable{X:Cx}{a b c e:Expr}{es:List Expr}{ta tb te:DTE}{tl:DTA}{pos:Pos}
def downs(hi:Int)(n:Nat):List Dt:=(List.range n).map fun i=>.int (hi-(i:Nat))
def AiD(tl:DTA):DTI:=fun ρ Q=>tl ρ fun ds=>match ds with
 | [.int i,.int j,.int k]=>k=-1∧(-(2 ^ 62)≤i∧i<2 ^ 62∧-(2 ^ 62)≤j∧j<2 ^ 62)∧Q (downs i (i-j).toNat)
 |_=>False
theorem Ahl:MtR X "int.bit_length" (fun x xs H Q=>∃i,x=.int i∧xs=[]∧Q (.int (Builtin.Int.intBits i)) H):=by
 intro pins s σ H x xs v us Q I rx rs ⟨i,e,e2,q⟩
 subst e e2
 cases rs
 obtain⟨t,rfl⟩:=rx
 exact call_int_bit_length ⟨.int _,H,I.tok _,⟨_,rfl⟩,q⟩
def AhE(ta:DTE):DTE:=fun ρ Q=>ta ρ fun d=>match d with
 |.int i=>Q (.int (Builtin.Int.intBits i))
 |_=>False
theorem Ag2{apos:Pos}(ha:DE X a ta)(hbase:attributeBase a "bit_length" X.env (eval a X.env)=eval a X.env:=by rfl)(hline:(apos.endLine==pos.line)=true:=by rfl):DE X (.Call (.Attribute a "bit_length" apos) [] [] pos) (AhE ta) where
 mono:=fun hq h=>ha.mono (fun d h=>by
  split at h
  ·exact hq _ h
  ·exact h.elim) h
 pe:=(AjH PySem.F.plainAttrs_int PySem.F.slot_int_bit_length PySem.F.type_int_bit_length Ahl ha.pe hbase hline).imp fun σ H Q ⟨B,F,O,ρ,R,h⟩=>⟨B,F,O,ρ,R,ha.mono (fun d h v H1 s1 r1=>by
  split at h
  ·rw[Bp.mp r1]
   exact⟨rfl,_,rfl,rfl,h _ H1 s1 (Bp.mpr rfl)⟩
  ·exact h.elim) h⟩
def AmC(P:Program)(w:World)(K:W.Frag)(mg:Str→Option Value)(base:Heap)(k:Nat)(a:Addr)(sp:DSp):Prop :=
 ∃fd ps,Ef P w K mg base CX0 k a fd ps (lSp K sp)∧Binds K fd ps []∧W.keepIn K (.ref a)=true
def Aki(P:Program)(w:World)(K:W.Frag)(mg:Str→Option Value)(base:Heap)(k:Nat)(tf:DTE)(tl:DTA):DTE:=fun ρ Q=>tf ρ fun d=>match d with
 |.fn a=>W.keepIn K (.ref a)=true∧tl ρ fun ds=>∃sp,Ja sp∧AmC P w K mg base k a sp∧sp ds Q
 |_=>False
def lF(K:W.Frag)(t:DTA):TE:=fun σ H Q=>∃B F O ρ,Rep K B F O H σ ρ∧t ρ fun ds=>∀p H' vs,Same H H'→H' p=some (.lst vs)→p∉F++O→RpL K (mask (F++O) H') ds vs→Q (.ref p) H'
structure DF(X:Cx)(e:Expr)(t:DTA):Prop where
 mono:∀{ρ Q Q'},(∀d,Q d→Q' d)→t ρ Q→t ρ Q'
 pe:PE X e (lF X.K t)
def dOf(t:DTA):DTE:=fun ρ Q=>t ρ fun ds=>Q (.lst ds)
theorem DF.de{t:DTA}(h:DF X e t):DE X e (dOf t) where
 mono:=fun hq z=>h.mono (fun _ z=>hq _ z) z
 pe:=h.pe.imp fun σ H Q ⟨B,F,O,ρ,R,z⟩=>⟨B,F,O,ρ,R,h.mono (fun ds z p H' vs s e n r=>z (.ref p) H' s (Jv ⟨p,vs,rfl,(by rw[Ba n];exact e),r⟩)) z⟩
def AhJ(tl:DTA):DTA:=fun ρ Q=>tl ρ fun ds=>ds.length≤sizeLine∧Q ds
theorem YK(h:DA X es tl):DF X (.List es pos) (AhJ tl) where
 mono:=fun hq z=>h.mono (fun ds q=>⟨q.1,hq _ q.2⟩) z
 pe:=(Xl h.pa).imp fun σ H Q ⟨B,F,O,ρ,R,q⟩=>⟨B,F,O,ρ,R,h.mono (fun ds z vs H1 s1 r1=>⟨by rw[r1.len];exact z.1,fun p hp=>by
  have np:p∉F++O:=fun m=>(R.same s1).th p m hp
  exact z.2 p _ vs (s1.trans (Same.upd hp)) Av np (r1.mono (Same.upd hp).mask)⟩) q⟩
def AaR(te:DTE)(tl th:DTO):DTA:=fun ρ Q=>te ρ fun d=>tl ρ fun lo=>th ρ fun hi=>match d with
 |.lst ds=>Q (cutD ds lo hi)
 |_=>False
theorem AeK{lo hi:Option Expr}{t1 t2:DTO}{p2:Pos}(he:DE X e te)(hl:DO X lo t1)(hh:DO X hi t2):DF X (.Subscript e (.Slice lo hi none p2) pos) (AaR te t1 t2) where
 mono:=fun hq z=>he.mono (fun d z=>hl.mono (fun l z=>hh.mono (fun h z=>by
  split at z
  ·exact hq _ z
  ·exact z.elim) z) z) z
 pe:=(AcG Afl he.pe hl.po hh.po).imp fun σ H Q ⟨B,F,O,ρ,R,z⟩=>⟨B,F,O,ρ,R,he.mono (fun d z v H1 s1 r1=>⟨B,F,O,ρ,R.same s1,hl.mono (fun l z H2 s2=>⟨B,F,O,ρ,(R.same s1).same s2,hh.mono (fun h z H3 s3=>by
  split at z
  ·obtain⟨a,xs,rfl,hs,hr⟩:=Et ((r1.mono s2.mask).mono s3.mask)
   refine⟨a,xs,rfl,Bk.seq hs,fun p hp=>?_⟩
   have R3:=((R.same s1).same s2).same s3
   have np:p∉F++O:=fun m=>R3.th p m hp
   exact z p _ _ (((s1.trans s2).trans s3).trans (Same.upd hp)) Av np (hr.cut.mono (Same.upd hp).mask)
  ·exact z.elim) z⟩) z⟩) z⟩
def AhZ(t u:DTA):DTA:=fun ρ Q=>t ρ fun xs=>u ρ fun ys=>xs.length+ys.length≤sizeLine∧Q (xs++ys)
theorem Xn{t u:DTA}(ha:DF X a t)(hb:DF X b u):DF X (.BinOp a .Add b pos) (AhZ t u) where
 mono:=fun hq z=>ha.mono (fun _ z=>hb.mono (fun _ z=>⟨z.1,hq _ z.2⟩) z) z
 pe:=(AhF Ai5 ha.pe hb.pe).imp fun σ H Q ⟨B,F,O,ρ,R,z⟩=>⟨B,F,O,ρ,R,ha.mono (fun xs z p H1 vs s1 e1 n1 r1=>⟨B,F,O,ρ,R.same s1,hb.mono (fun ys z p2 H2 ws s2 e2 n2 r2=>by
  refine⟨p,p2,vs,ws,rfl,rfl,s2 _ _ e1,e2,by rw[r1.len,r2.len];exact z.1,fun l hl=>?_⟩
  have np:l∉F++O:=fun m=>((R.same s1).same s2).th l m hl
  exact z.2 l _ _ ((s1.trans s2).trans (Same.upd hl)) Av np (((r1.mono s2.mask).append r2).mono (Same.upd hl).mask)) z⟩) z⟩
end
end L2
namespace L2
open PySem Spec PyProof.Rows SeqAt
section
variable{X:Cx}{elt iter:Expr}{x:Str}{px:Pos}{ifs:List Expr}{scope:Scope}{pos:Pos}{N:List Str}{sl:List Nat}{wi:TI}{tt:TT}{te:TE}
theorem Yg{pins:List (Addr×Obj)}{σ:St}{H2:Hp}{s2:Shared}{cl:List (Str×Addr)}{it:Addr}{fp:List Addr}{tn:Nat→Heap→Prop}{J:It}{vs:List V}{PP:Value→Addr→Result→Shared→Prop}{E:Value→Shared→Prop}{QD:Hp→Prop}(S:DQ X scope x N sl)(hc:X.calm=true)
  (ht:∀cl C s₀ H₀ ex,PTs (Bm X scope (x::N) cl C s₀ H₀ ex) ifs tt) (he:∀cl C s₀ H₀ ex,PE (Bm X scope (x::N) cl C s₀ H₀ ex) elt te)
  (hcl:∀n c,cl.lookup n=some c→X.env.cells.lookup n=some c) (wR:∀n,(n,NameKind.free)∈scope.names→∃c,cl.lookup n=some c)
  (I2:Inv X pins σ H2 s2) (T:Turn X.prog X.w X.K (.Name x px) J fp it tn) (st2:tn 0 s2.heap) (f2:∀b∈fp,OJ X pins H2 b) (hvs:sl.map (fun j=>σ[j]?)=vs.map (fun v=>some (some v)))
  (hW:∃W:Nat→Nat→List V→Hp→Prop,(∃m,W 0 m [] (upd H2 s2.heap.objs.size (.lst [])))∧∀i m acc H,W i m acc H →
   (J.stop i H∧QD H)∨(J.go i H∧∀x H',J.yld i H x H'→tt (some x::vs.map some) H' fun b H2' =>
    if b=true then te (some x::vs.map some) H2' fun y H3=>H3 s2.heap.objs.size=some (.lst acc)∧acc.length<sizeLine∧∃m',m'<m∧W (i+1) m' (acc++[y]) (upd H3 s2.heap.objs.size (.lst (acc++[y])))
    else ∃m',m'<m∧W (i+1) m' acc H2'))
  (fin:∀(C:Addr),(s2.heap.push {cls:=.type "list",data:=.seq ([]:List Value).toArray}).objs.size=C→∀{σ':St} {H':Hp} {s':Shared},Inv (Bm X scope (x::N) cl C {s2 with heap:=s2.heap.push {cls:=.type "list",data:=.seq ([]:List Value).toArray},toks:=s2.toks} (upd H2 s2.heap.objs.size (.lst [])) fp) [] σ' H' s'→QD H'→PP (.ref s2.heap.objs.size) C (.ok .next) s') :
  wpAny (model X.prog X.w) X.A (newList []) (fun acc s₃=>wpAny (model X.prog X.w) X.A (newFunctionEnv scope X.env.globals cl [] X.env.qual none .none (some X.env)) (fun cenv s₄ =>
   codeAny (model X.prog X.w) X.A (.compStart (.ListComp elt [⟨.Name x px,iter,ifs,0⟩] scope pos) 0 (.ref it) acc {cenv with scope:=relabel scope X.env}) (PP acc cenv.locals) s₄) E s₃) E s2:=by
 refine wpAny_newObj_type (wpAny_newFunctionEnv S.cell (by intro y hy;simp at hy) (fun h₁ hns₁ hsb₁=>?_) S.kind)
 have hD:H2 s2.heap.objs.size=none:=I2.fresh
 have I3:Inv X pins σ (upd H2 s2.heap.objs.size (.lst [])) {s2 with heap:=s2.heap.push {cls:=.type "list",data:=.seq ([]:List Value).toArray},toks:=s2.toks}:=I2.ab7 (its:=[]) (ys:=[]) .nil (Nat.zero_le _)
 have hbD:∀b∈fp,b≠s2.heap.objs.size:=fun b hb z=>by
  obtain⟨o',e',_⟩:=T.obj _ _ st2 b hb
  exact absurd (Heap.lt_size e') (by rw[z];exact Nat.lt_irrefl _)
 have f3:∀b∈fp,OJ X pins (upd H2 s2.heap.objs.size (.lst [])) b:=fun b hb=>⟨by rw[Ak (hbD b hb)];exact(f2 b hb).1,(f2 b hb).2⟩
 have ob3:∀b∈fp,∃o,(s2.heap.push {cls:=.type "list",data:=.seq ([]:List Value).toArray}).get? b=some o:=fun b hb=>by
  obtain⟨o',e',_⟩:=T.obj _ _ st2 b hb
  exact⟨o',Heap.get?_push_of_some _ e'⟩
 have IC:=Vr (tk:=s2.toks+([]:List (Str×Value)).length) S I3 f3 ob3 hns₁ hsb₁ hcl wR hvs
 dsimp only at hsb₁ IC ⊢
 generalize hCC:(s2.heap.push {cls:=.type "list",data:=.seq ([]:List Value).toArray}).objs.size=C at hns₁ hsb₁ IC ⊢
 have old:∀b o,s2.heap.get? b=some o→h₁.get? b=some o:=fun b o e=>by
  have e1:(s2.heap.push {cls:=.type "list",data:=.seq ([]:List Value).toArray}).get? b=some o:=Heap.get?_push_of_some _ e
  exact(hsb₁.2 b (by rw[←hCC];exact Nat.ne_of_lt (Heap.lt_size e1))).trans (Heap.get?_push_of_some _ e1)
 have st₁:tn 0 h₁:=T.keep _ _ _ st2 fun b hb o e=>old b o e
 obtain⟨W,⟨m0,w0⟩,turn⟩:=hW
 have fpC:∀{H':Hp} {pl:List (Addr×Obj)},(∀b∈fp,H' b=none)→(∀p∈pl,p.1∉fp)→∀b∈fp,OJ (Bm X scope (x::N) cl C {s2 with heap:=s2.heap.push {cls:=.type "list",data:=.seq ([]:List Value).toArray},toks:=s2.toks} (upd H2 s2.heap.objs.size (.lst [])) fp) pl H' b:=fun{H' pl} hn hp b hb=>by
  refine⟨hn b hb,(IC.ok.exf b hb).1,IC.ok.uh b hb,.inl hb,(IC.ok.exf b hb).2,fun p hq z=>?_⟩
  have hq':p∈pl:=by simpa [Bm] using hq
  exact hp p hq' (by rw[z];exact hb)
 have loop:codeAny (model X.prog X.w) X.A (.compLoop (.ListComp elt [⟨.Name x px,iter,ifs,0⟩] scope pos) 0 (.ref it) (.ref s2.heap.objs.size) (compEnvC scope cl C X.env)) (PP (.ref s2.heap.objs.size) C)
   {s2 with heap:=h₁,toks:=s2.toks+([]:List (Str×Value)).length}:=by
  refine codeAny_compLoop_tests (fun n s'=>∃i acc σ' H',Inv (Bm X scope (x::N) cl C {s2 with heap:=s2.heap.push {cls:=.type "list",data:=.seq ([]:List Value).toArray},toks:=s2.toks} (upd H2 s2.heap.objs.size (.lst [])) fp) [] σ' H' s'∧(∃y,σ'=y::vs.map some) ∧
   tn i s'.heap∧(∀b∈fp,H' b=none)∧W i n acc H') ?_ m0 ⟨0,[],_,_,IC,⟨none,rfl⟩,st₁,fun b hb=>(f3 b hb).1,w0⟩
  rintro n s3 ⟨i,acc,σ3,H3,I4,⟨y,rfl⟩,st3,fr3,w3⟩
  rcases turn i n acc H3 w3 with⟨stop,qn⟩|⟨go,step⟩
  ·refine wpAny_mono (T.done (Bm X scope (x::N) cl C {s2 with heap:=s2.heap.push {cls:=.type "list",data:=.seq ([]:List Value).toArray},toks:=s2.toks} (upd H2 s2.heap.objs.size (.lst [])) fp) rfl rfl rfl hc i [] s3 _ H3 (fun _ _=>False) I4 (fpC fr3 (by simp)) st3 stop) (fun r s4 ⟨hr,I5⟩=>?_) fun _ _ z=>False.elim z
   subst hr
   exact fin C hCC I5 qn
  ·refine wpAny_mono (T.item (Bm X scope (x::N) cl C {s2 with heap:=s2.heap.push {cls:=.type "list",data:=.seq ([]:List Value).toArray},toks:=s2.toks} (upd H2 s2.heap.objs.size (.lst [])) fp) rfl rfl rfl hc i [] s3 _ H3 (fun _ _=>False) I4 (fpC fr3 (by simp)) st3 go) (fun r s4 ⟨u,hr,h4⟩=>?_) fun _ _ z=>False.elim z
   subst hr
   have e0:∀(k:Unit→Sem Unit),(letOwnedTupleGo (.Name x px) (.ref it) u >>= k)=k ():=fun k=>rfl
   have hg:PG (Bm X scope (x::N) cl C {s2 with heap:=s2.heap.push {cls:=.type "list",data:=.seq ([]:List Value).toArray},toks:=s2.toks} (upd H2 s2.heap.objs.size (.lst [])) fp) (.Name x px) (AaE 0):=Vj S.nd rfl (.inl (lookup_relabel_local S.hx)) (.inr (lookup_relabel_local S.hx))
   show wpAny (model X.prog X.w) X.A (assign (.Name x px) (compEnvC scope cl C X.env) u) _ _ s4
   rw[←e0 fun _=>assign (.Name x px) (compEnvC scope cl C X.env) u]
   refine wpAny_bind (wpAny_mono h4 (fun _ s5 ⟨z,H5,I5,r5,y5,st5,fr5⟩=>?_) fun _ _ z=>False.elim z)
   have I5':=I5.pinned (fpC fr5 (by simp)) (T.obj _ _ st5)
   have W5:=hg _ s5 _ H5 z u (fun σ' H'=>σ'=some z::vs.map some∧H'=H5) I5' r5 ⟨rfl,rfl⟩
   refine wpAny_mono W5 (fun _ s6 ⟨σ6,H6,I6,e6,e7⟩=>?_) fun _ _ z=>False.elim z
   subst e6 e7
   refine wpAny_mono (ht _ _ _ _ _ _ s6 _ H6 _ I6 (step z H6 y5)) (fun b s7 ⟨H7,I7,q7⟩=>?_) fun _ _ z=>False.elim z
   have again:∀{H8:Hp} {s8:Shared} {acc':List V},Inv (Bm X scope (x::N) cl C {s2 with heap:=s2.heap.push {cls:=.type "list",data:=.seq ([]:List Value).toArray},toks:=s2.toks} (upd H2 s2.heap.objs.size (.lst [])) fp) ([]++NQ fp s5.heap) (some z::vs.map some) H8 s8→(∃m',m'<n∧W (i+1) m' acc' H8)→∃m,m<n∧∃i acc σ' H',Inv (Bm X scope (x::N) cl C {s2 with heap:=s2.heap.push {cls:=.type "list",data:=.seq ([]:List Value).toArray},toks:=s2.toks} (upd H2 s2.heap.objs.size (.lst [])) fp) [] σ' H' s8∧(∃y,σ'=y::vs.map some)∧tn i s8.heap∧(∀b∈fp,H' b=none)∧W i m acc H':=fun{H8 s8 acc'} I8 ⟨m',hm,w8⟩=>by
    refine⟨m',hm,i+1,acc',_,H8,I8.jx,⟨_,rfl⟩,T.keep _ _ _ st5 fun b hb o e=>(I8.pin (b,o) (List.mem_append_right _ (List.mem_append_right _ (Gf hb e)))).1,fun b hb=>?_,w8⟩
    obtain⟨o,e,d⟩:=T.obj _ _ st5 b hb
    exact(I8.pin (b,o) (List.mem_append_right _ (List.mem_append_right _ (Gf hb e)))).2.1
   cases b with
   |false=>exact again I7 q7
   | true =>
    rw[if_pos rfl]
    refine wpAny_mono (he _ _ _ _ _ _ s7 _ H7 _ I7 q7) (fun v8 s8 ⟨x8,H8,I8,r8,hD8,hz8,q8⟩=>?_) fun _ _ z=>False.elim z
    refine wpAny_mono (NK (X:=(Bm X scope (x::N) cl C {s2 with heap:=s2.heap.push {cls:=.type "list",data:=.seq ([]:List Value).toArray},toks:=s2.toks} (upd H2 s2.heap.objs.size (.lst [])) fp)) _ s8 _ H8 (.ref s2.heap.objs.size) [x8] (.ref s2.heap.objs.size) [v8] (fun _ H9=>H9=upd H8 s2.heap.objs.size (.lst (acc++[x8]))) I8 rfl (.cons r8 .nil) ⟨_,acc,x8,rfl,rfl,hD8,hz8,rfl⟩) (fun _ s9 ⟨_,H9,I9,_,e9⟩=>?_) fun _ _ z=>False.elim z
    subst e9
    exact again I9 q8
 exact codeAny_compStart_list loop (T.self _ 0 _ _ _ st₁ loop)
def AmA(i:Nat)(sl:List Nat)(wi:TI)(tt:TT)(te:TE):TS:=fun D σ H=>Vu sl wi tt te σ H fun v H'=>D.nx (σ.set i (some v)) H'
theorem AhB{i:Nat}{y:Str}{py spos:Pos}(S:DQ X scope x N sl)(hc:X.calm=true)(hN:X.N.Nodup)(hyi:X.N[i]? = some y)(hy:X.env.scope.names.lookup y=some .local)(hi:PI X (.Name x px) iter wi)
  (ht:∀cl C s₀ H₀ ex,PTs (Bm X scope (x::N) cl C s₀ H₀ ex) ifs tt) (he:∀cl C s₀ H₀ ex,PE (Bm X scope (x::N) cl C s₀ H₀ ex) elt te)
  (hsw:swapsWith (.ListComp elt [⟨.Name x px,iter,ifs,0⟩] scope pos) (some (.Name y py)) spos.line X.env=pure true) (hs:∀x,foldedSetIterable iter X.env x=pure x:=by intro _;rfl) :
  PS X (.Assign [.Name y py] (.ListComp elt [⟨.Name x px,iter,ifs,0⟩] scope pos) spos) (AmA i sl wi tt te):=by
 intro pins s σ H DD I h
 obtain⟨cl,hclos,hcl,wR⟩:=Q6 (env:=X.env) (scope:=scope) fun y hy hf=>I.ok.has y.1 (.inl (S.free y hy hf))
 rw[exec_Assign_Name_used _ _ _ _ hsw]
 refine wpAny_bind (wpAny_standAt (wpAny_bind ?_))
 show wpAny _ X.A (do let _ ←comprehension (.ListComp elt [⟨.Name x px,iter,ifs,0⟩] scope pos) scope X.env _ (newList []) false (eval iter X.env) (some (assign (.Name y py) X.env))) _ _ s
 refine wpAny_bind (wpAny_mono (wpAny_comprehension_free (use:=some (assign (.Name y py) X.env)) (Q:=fun _ s'=>SP X pins DD .next s') rfl hs hclos S.kind S.names
  (thn (hi pins s σ H _ I h) fun v s1 h1=>thn h1 fun itv s2 h2=>?_)) (fun _ s' hq=>wpAny_pure (wpAny_pure hq)) fun _ _ e=>e)
 obtain⟨it,fp,tn,J,H2,e,I2,T,st2,f2,vs,hvs,hW⟩:=h2
 subst e
 refine Yg (QD:=fun H'=>DD.nx (σ.set i (some (.ref s2.heap.objs.size))) H') (PP:=fun acc C=>compPost (model X.prog X.w) X.A X.xe (some (assign (.Name y py) X.env)) (fun _ s'=>SP X pins DD .next s') acc C) S hc ht he hcl wR I2 T st2 f2 hvs (hW s2.heap.objs.size I2.fresh) fun C hCC {σ' H' s'} J q=>?_
 have hD:H2 s2.heap.objs.size=none:=I2.fresh
 have nC:∀b o,s2.heap.get? b=some o→b≠C:=fun b o e=>by
  have e1:(s2.heap.push {cls:=.type "list",data:=.seq ([]:List Value).toArray}).get? b=some o:=Heap.get?_push_of_some _ e
  rw[←hCC];exact Nat.ne_of_lt (Heap.lt_size e1)
 have u:Un (frs X.stack) fp H2 H' s2.heap s'.heap:=(Un.laid (fun b u e=>Heap.get?_push_of_some _ e) (Nat.le_refl _) hD).trans J.base
 have hos:s'.os=s2.os:=J.os
 have IX:Inv X pins σ H' s':=I2.call' (ch:=fp) hos u J.hok J.bare fun b hb=>⟨(f2 b hb).2.2.2.1,(f2 b hb).2.1,(f2 b hb).2.2.2.2.1,(f2 b hb).2.2.2.2.2⟩
 have hLC:X.env.locals≠C:=by
  obtain⟨m,⟨o,_,_,ho,_⟩,_⟩:=I2.loc
  exact nC _ o ho
 have hcC:∀y c,X.env.cells.lookup y=some c→c≠C:=fun y c e=>by
  obtain⟨v,o,ho,_⟩:=I2.cell y c e
  exact nC _ o ho
 show wpAny _ X.A (assign (.Name y py) X.env (.ref s2.heap.objs.size)) _ _ _
 refine wpAny_assign_Name (Td IX hN hyi (.inl hy) (v:=.ref s2.heap.objs.size) rfl (fun s'' I'' ⟨a,hs2,ha⟩=>?_) (.inr hy))
 obtain⟨m,hn,_⟩:=id J.loc
 have haC:C≠a:=by
  rcases ha with z|z
  ·rw[z];exact Ne.symm hLC
  ·exact Ne.symm (hcC y a z)
 refine⟨m,hn.sameBut hs2 haC,fun h' hs'=>⟨_,H',?_,q⟩⟩
 refine I''.turned (t':=s''.toks) (it:=C) (fun b o hb e=>(hs'.2 b hb).trans e) J.free (Ne.symm hLC) (.inr ?_) hcC (fun p hp z=>?_)
 ·rw[←hCC]
  exact Nat.le_trans I2.sz (by rw[Heap.size_push];exact Nat.le_succ _)
 ·obtain⟨e,_⟩:=I2.pin p hp
  exact nC _ _ e z
theorem Tg{sl:List Nat}{ti:DTI}{dt:DTT}{de:DTE}(mi:∀{ρ Q Q'},(∀d,Q d→Q' d)→ti ρ Q→ti ρ Q'):∀{ρ Q Q'},(∀d,Q d→Q' d)→Jf sl ti dt de ρ Q→Jf sl ti dt de ρ Q' :=
 fun hq h=>mi (fun items ⟨h1,h2,W,w0,st,fin⟩=>⟨h1,h2,W,w0,st,fun acc l w=>hq _ (fin acc l w)⟩) h
def AcO(i:Nat)(sl:List Nat)(ti:DTI)(tt:DTT)(te:DTE):DTS:=fun D ρ=>Jf sl ti tt te ρ fun d=>D.nx (ρ.set i (some (.is d)))
theorem AeR{ti:DTI}{dt:DTT}{de:DTE}{y:Str}{py spos:Pos}(i:Nat)(S:DQ X scope x N sl)(hc:X.calm=true)(hN:X.N.Nodup)(hyi:X.N[i]? = some y)(hy:X.env.scope.names.lookup y=some .local)(hi:DI X (.Name x px) iter ti)
  (ht:∀cl C s₀ H₀ ex,DTs (Bm X scope (x::N) cl C s₀ H₀ ex) ifs dt) (he:∀cl C s₀ H₀ ex,DE (Bm X scope (x::N) cl C s₀ H₀ ex) elt de)
  (hsw:swapsWith (.ListComp elt [⟨.Name x px,iter,ifs,0⟩] scope pos) (some (.Name y py)) spos.line X.env=pure true) (hs:∀x,foldedSetIterable iter X.env x=pure x:=by intro _;rfl) :
  DS X (.Assign [.Name y py] (.ListComp elt [⟨.Name x px,iter,ifs,0⟩] scope pos) spos) (AcO i sl ti dt de) where
 mono:=fun hd h=>Tg (ti:=ti) hi.mono (fun d q=>hd.nx _ q) h
 ps:=(AhB (tt:=lT X.K dt) (te:=lE X.K de) S hc hN hyi hy hi.pi (fun cl C s₀ H₀ ex=>(ht cl C s₀ H₀ ex).pts) (fun cl C s₀ H₀ ex=>(he cl C s₀ H₀ ex).pe) hsw hs).imp fun D σ H ⟨B,F,O,ρ,R,h⟩ =>
  V5 (ti:=ti) (dt:=dt) (de:=de) hi.mono (ht [] 0 X.s₀ X.H₀ []).mono (he [] 0 X.s₀ X.H₀ []).mono σ H _ ⟨B,F,O,ρ,R,Tg (ti:=ti) hi.mono (fun d q v H' s r=>q O _ H' ((R.same s).set i r)) h⟩
theorem AeN{c:Expr}{ti:DTI}{dt:DTT}{de:DTE}{y:Str}{py spos:Pos}(i:Nat)(hN:X.N.Nodup)(S:DQ X scope x N sl)(hc:X.calm=true)(hi:DI X (.Name x px) iter ti)(ht:∀cl C s₀ H₀ ex,DT (Bm X scope (x::N) cl C s₀ H₀ ex) c dt)
  (he:∀cl C s₀ H₀ ex,DE (Bm X scope (x::N) cl C s₀ H₀ ex) elt de)
  (hyi:X.N[i]? = some y:=by rfl) (hy:X.env.scope.names.lookup y=some .local:=by rfl) (hsw:swapsWith (.ListComp elt [⟨.Name x px,iter,[c],0⟩] scope pos) (some (.Name y py)) spos.line X.env=pure true:=by rfl) (hs:∀x,foldedSetIterable iter X.env x=pure x:=by intro _;rfl) :
  DS X (.Assign [.Name y py] (.ListComp elt [⟨.Name x px,iter,[c],0⟩] scope pos) spos) (AcO i sl ti dt de):=AeR i S hc hN hyi hy hi (fun _ _ _ _ _=>ZD (ht _ _ _ _ _)) he hsw hs
end
section
variable{prog:Program}{w:World}{A:Around}{E:Value→Shared→Prop}{s:Shared}
theorem Tz{it t:Addr}{items:Array Value}(hne:t≠it):∀(n i:Nat)(s:Shared)(Q:List Value→Shared→Prop),s.heap.IsListIter it t i→s.heap.IsList t items→i+n≤items.size →
  (∀h',h'.IsListIter it t (i+n)→Heap.SameBut it s.heap h'→Q ((items.toList.drop i).take n) {s with heap:=h'})→wpAny (model prog w) A (draw (.ref it) n) Q E s
 | 0,i,s,Q,hit,_,_,hQ=>by
  show wpAny _ _ (pure []) Q E s
  exact wpAny_pure (by simpa using hQ s.heap hit (Heap.SameBut.refl ..))
 | n+1,i,s,Q,hit,ht,hle,hQ=>by
  have hlt:i<items.size:=by omega
  show wpAny _ _ (pyNext (.ref it) >>= _) Q E s
  refine wpAny_bind (wpAny_pyNext_list_item hit ht (x:=items[i]) (by simp[hlt]) fun h₁ hit₁ hs₁=>?_)
  refine wpAny_bind (wpAny_holding (Tz hne n (i+1) _ _ hit₁ (ht.extBut hs₁.extBut hne) (by omega) fun h₂ hit₂ hs₂=>wpAny_pure ?_))
  have hd:items.toList.drop i=items[i]::items.toList.drop (i+1):=by simp[List.drop_eq_getElem_cons,hlt]
  have:=hQ h₂ (by rw[show i+(n+1)=i+1+n by omega];exact hit₂) (hs₁.trans hs₂)
  rw[hd,List.take_succ_cons]at this
  exact this
theorem Oc{t:Addr}{items:Array Value}{Q:List Value→Shared→Prop}(hh:A.handled=none)(ht:s.heap.IsList t items)
  (hQ:∀h',Heap.ExtBut s.heap.objs.size s.heap h'→Q items.toList {s with heap:=h'}):wpAny (model prog w) A (unpackItems (.ref t) items.size none) Q E s:=by
 have hlt:t≠s.heap.objs.size:=by obtain⟨o,ho,_⟩:=ht;exact Nat.ne_of_lt (Heap.lt_size ho)
 unfold unpackItems
 refine wpAny_bind ?_
 ·unfold notIterableAtAll
  refine wpAny_bind (wpAny_specialOf ht.typeIs slot_list_iter.lookup ?_)
  refine wpAny_pure ?_
  simp only[Bool.false_eq_true,if_false]
  refine wpAny_bind (wpAny_holding (wpAny_pyIter_list ht ?_))
  have ht':(s.heap.push {cls:=.type "list_iterator",data:=.fields #[.ref t,.int 0 0]}).IsList t items:=by
   obtain⟨o,ho,r⟩:=ht
   exact⟨o,Heap.get?_push_of_some _ ho,r⟩
  refine wpAny_bind (wpAny_holding (Tz hlt items.size 0 _ _ ⟨_,Heap.get?_push_size _ rfl,rfl,rfl⟩ ht' (by omega) fun h₁ hit₁ hs₁=>?_))
  have hall:List.take items.size (List.drop 0 items.toList)=items.toList:=by
   rw[List.drop_zero];exact List.take_of_length_le (by simp)
  rw[hall]
  rw[if_neg (by simp)]
  have ht₁:h₁.IsList t items:=ht'.extBut hs₁.extBut hlt
  refine wpAny_bind (wpAny_holding (wpAny_pyNext_list_end hh hit₁ ht₁ (by simp) fun h₂ he₂=>?_))
  simp only[Option.isSome_none,Bool.false_eq_true,if_false]
  refine wpAny_pure (hQ h₂ fun b o hb e=>he₂ b o hb (hs₁.extBut b o hb (Heap.get?_push_of_some _ e)))
end
section
variable{X:Cx}{es:List Expr}{pos:Pos}
def Aoa(K:W.Frag)(n:Nat)(t:TGs):TG:=fun v σ H Q=>∃a xs,v=.ref a∧SqL K H a xs∧xs.length=n∧t xs σ H Q
theorem Aje{k:Nat}{t:TGs}{n:Nat}(hc:X.calm=true)(h:PGs X es t)(hn:(assignEach es X.env).length=n:=by rfl)(hst:(assignEach es X.env).findIdx? (·.1)=none:=by rfl):PG X (.Tuple es k pos) (Aoa X.K n t):=by
 intro pins s σ H v u Q I r hw
 obtain⟨a,xs,e1,hq,hl,hw⟩:=hw
 subst e1
 cases r
 obtain⟨its,rv,ht,hz⟩:=I.list hq
 rw[assign_Tuple]
 refine wpAny_bind (wpAny_standAt ?_)
 unfold unpack
 have e2:(assignEach es X.env).length=its.toArray.size:=by simp[hn,←hl,rv.length]
 rw[e2,hst]
 refine wpAny_bind (wpAny_holding (Oc (I.ok.hd hc) ht.isList fun h' hx=>?_))
 have I1:Inv X pins σ H {s with heap:=h'}:=I.kept (t':=s.toks) fun b o e=>hx b o (Nat.ne_of_lt (Heap.lt_size e)) e
 exact h pins _ σ H xs _ Q I1 (by simpa using rv) hw
def AaI(n:Nat)(gs:Sd):DTG:=fun d ρ Q=>match d with
 |.lst ds=>ds.length=n∧gs ds ρ Q
 |_=>False
theorem Ajz{k:Nat}{gs:Sd}{n:Nat}(hc:X.calm=true)(h:DGs X es gs)(hn:(assignEach es X.env).length=n:=by rfl)(hst:(assignEach es X.env).findIdx? (·.1)=none:=by rfl):DG X (.Tuple es k pos) (AaI n gs) where
 mono:=fun hq z=>by
  unfold AaI at z ⊢
  split at z
  ·exact⟨z.1,h.mono hq z.2⟩
  ·exact z.elim
 pg:=(Aje hc h.pg hn hst).imp fun v σ H Q ⟨B,F,O,ρ,d,R,r,z⟩=>by
  unfold AaI at z
  split at z
  ·obtain⟨a,xs,rfl,hs,hl⟩:=Et r
   exact⟨a,xs,rfl,Bk.seq hs,by rw[hl.len];exact z.1,B,F,O,ρ,_,R,hl,z.2⟩
  ·exact z.elim
end
end L2
namespace L2
end L2
namespace L2
theorem GJ{n:Nat}{x:PySem.Str}:Dt.flat n (.str x)=(PySem.PyData.str x).canLay0:=by cases n<;>rw[Dt.flat]
end L2
namespace L2
open PySem Spec PyProof.Rows SeqAt
def exN(a C:Addr)(h:Heap):Prop:=∃vs sl,h.get? a=some ⟨.ref C,none,.fields vs,sl⟩∧vs[1]? = some .none
def exF(a C dx:Addr)(h:Heap):Prop:=∃vs sl,h.get? a=some ⟨.ref C,some dx,.fields vs,sl⟩∧vs[1]? = some .none∧dx≠a
theorem Wf{a C:Addr}(h1 h2:Heap)(x:exN a C h1)(k:∀o,h1.get? a=some o→h2.get? a=some o):exN a C h2:=let ⟨vs,sl,e,r⟩:=x;⟨vs,sl,k _ e,r⟩
theorem Aev{a C dx:Addr}(h1 h2:Heap)(x:exF a C dx h1)(k:∀o,h1.get? a=some o→h2.get? a=some o):exF a C dx h2:=let ⟨vs,sl,e,r⟩:=x;⟨vs,sl,k _ e,r⟩
theorem exN.ex{a C:Addr}{h:Heap}(x:exN a C h):exO a C a h:=let ⟨vs,sl,e,_⟩:=x;⟨_,vs,e,rfl,(if_pos rfl).symm,rfl⟩
theorem exF.ex{a C dx:Addr}{h:Heap}(x:exF a C dx h):exO a C dx h:=let ⟨vs,sl,e,_,r⟩:=x;⟨_,vs,e,rfl,(if_neg r).symm,rfl⟩
section
variable{X:Cx}{pins:List (Addr×Obj)}{σ:St}{H:Hp}{s:Shared}{h':Heap}{a dx C U f fI:Addr}{φ ψ:Heap→Prop}
theorem Inv.put2{od:HO}{t':Nat}(I:Inv X pins σ H s)(Ha:H a=some (.ext φ))(hd:s.heap.objs.size≤dx)(k:∀b u,b≠a→s.heap.get? b=some u→h'.get? b=some u)(ha:∃u,h'.get? a=some u)
  (n1:Ej X.prog X.w (upd (upd H dx od) a (.ext ψ)) h' a (.ext ψ)) (n2:Ej X.prog X.w (upd (upd H dx od) a (.ext ψ)) h' dx od):Inv X pins σ (upd (upd H dx od) a (.ext ψ)) {s with heap:=h',toks:=t'}:=by
 have nd:H dx=none:=I.hok.fresh hd
 have na:a≠dx:=Bb Ha nd
 have jy:∀b u,H b=some u→b≠a→upd (upd H dx od) a (.ext ψ) b=some u:=fun b u e n=>by rw[Ak n,Ak (Bb e nd)];exact e
 have nt:∀b u,H b=none→s.heap.get? b=some u→b≠a:=fun b u n _ z=>by rw[z,Ha]at n;cases n
 refine I.un ⟨fun b u e n _ _=>k b u (nt b u n e) e,fun b u e n _ _=>⟨u.slots,k b u (nt b u n e) e⟩,fun b u e n _=>?_,fun b u e _=>?_,fun b xs e=>jy b _ e fun z=>(by rw[z,Ha]at e;cases e),fun b o u e=>jy b _ e fun z=>(by rw[z,Ha]at e;cases e),fun b ps e=>⟨#[],by rw[jy b _ e fun z=>by rw[z,Ha]at e;cases e];simp⟩⟩ ?_
 ·rw[Ak (nt b u n e),Ak (Nat.ne_of_lt (Nat.lt_of_lt_of_le (Heap.lt_size e) hd))];exact n
 ·by_cases z:b=a
  ·rw[z];exact ha
  ·exact⟨u,k b u z e⟩
 ·intro b u e
  by_cases z:b=a
  ·subst z;rw[Av]at e;cases e;exact n1
  ·rw[Ak z]at e
   by_cases z':b=dx
   ·subst z';rw[Av]at e;cases e;exact n2
   ·rw[Ak z']at e
    refine(I.hok b u e).stay (fun c v hc q=>k c v ?_ q) (fun c q=>jy c _ q fun w=>by rw[w,Ha]at q;cases q) fun c xs q=>jy c _ q fun w=>by rw[w,Ha]at q;cases q
    rcases hc with rfl|hc
    ·exact z
    ·rintro rfl;rw[Ha]at hc;cases hc
theorem Inv.again(I:Inv X pins σ H s)(Ha:H a=some (.ext φ))(n:ψ s.heap)(st:∀h1 h2:Heap,ψ h1→(∀o,h1.get? a=some o→h2.get? a=some o)→ψ h2):Inv X pins σ (upd H a (.ext ψ)) s:=by
 obtain⟨_,th,_⟩:=I.hok a _ Ha
 exact I.write (t':=s.toks) (h':=s.heap) (by rw[Ha];exact True.intro) (.inl rfl) (fun _ _ _ e=>e) th ⟨n,th,st⟩
def sX1(C:Addr)(ta tv:TE)(f:Str):TS:=fun D σ H=>tv σ H fun y H1=>ta σ H1 fun x H2=>∃a,x=.ref a∧H2 a=some (.ext (exN a C))∧∀dx,H2 dx=none→dx≠a→D.nx σ (upd (upd H2 dx (.xd [(f,y)])) a (.ext (exF a C dx)))
theorem Acz{o value:Expr}{f:Str}{pos pos':Pos}{ta tv:TE}(c:XC X.K C U)(ht:W.takerIn X.K C f=some none)(ha:PE X o ta)(hv:PE X value tv)(hs:swapsWith value (some (.Attribute o f pos')) pos.line X.env=pure false:=by rfl) :
  PS X (.Assign [.Attribute o f pos'] value pos) (sX1 C ta tv f):=by
 intro pins s σ H D I h
 refine plainObj_wpAny_Assign_Attribute (thn (hv pins s σ H _ I h) fun u s1 ⟨y,H1,I1,ry,q⟩=>thn (ha pins s1 σ H1 _ I1 q) fun ov s2 ⟨x,H2,I2,rx,a,ex,ea,q2⟩=>?_) hs
 subst ex
 obtain rfl:ov=Value.ref a:=rx
 obtain⟨⟨vs,sl,hx,h1⟩,_,_⟩:=I2.hok a _ ea
 have nx:s2.heap.objs.size≠a:=Nat.ne_of_gt (Heap.lt_size hx)
 refine Al5 I2.kIn c ht hx fun h' tk' x1 x2 x3=>⟨σ,_,I2.put2 (dx:=s2.heap.objs.size) (od:=.xd [(f,y)]) (ψ:=exF a C s2.heap.objs.size) (t':=tk') ea (Nat.le_refl _) x3 ⟨_,x1⟩ ⟨⟨vs,sl,x1,h1,nx⟩,⟨_,x1⟩,Aev⟩ ⟨_,x2,fun g=>?_⟩,q2 _ (I2.hok.fresh (Nat.le_refl _)) nx⟩
 show Mj (List.lookup g [(f,y)]) (if g=f then some u else none)
 by_cases q:g=f
 ·rw[if_pos q,show List.lookup g [(f,y)]=some y by simp[List.lookup,beq_iff_eq.mpr q]];exact ry
 ·rw[if_neg q,show List.lookup g [(f,y)]=none by simp[List.lookup,beq_eq_false_iff_ne.mpr q]];trivial
def Ah9(C:Addr)(ns:List Str):Sp:=fun vs H Q _=>∃a ys,vs=.ref a::ys∧ys.length=ns.length∧H a=some (.ext (exN a C))∧∀dx,H dx=none→dx≠a→Q .non (upd (upd H dx (.xd (ns.zip ys))) a (.ext (exF a C dx)))
structure XR(P:Program)(w:World)(K:W.Frag)(mg:Str→Option Value)(base:Heap)(k:Nat)(c:Str)(ns:List Str)(C U fI:Addr)(fd:FuncData)(ps:List Str):Prop where
 at_:W.nsIn K mainGlobals c=some (some (.ref C))
 gl:mg c=some (.ref C)
 kp:W.keepIn K (.ref C)=true
 xc:XC K C U
 hi:W.findIn K (.ref C) "__init__"=some (some (.ref fI))
 hf:W.typeIn K (.ref fI)=some (.type "function")
 bd:Binds K fd ps []
 ln:ps.length=ns.length+1
 ok:Ef P w K mg base CX0 k fI fd ps (Ah9 C ns)
def Ajl(C:Addr)(ns:List Str)(t:TA):TE:=fun σ H Q=>t σ H fun vs H1=>vs.length=ns.length∧vs.length≤1000∧∀a dx,H1 a=none→H1 dx=none→dx≠a→Q (.ref a) (upd (upd (upd H1 a (.ext (exN a C))) dx (.xd (ns.zip vs))) a (.ext (exF a C dx)))
theorem AdK{k:Nat}{c:Str}{ns ps:List Str}{fd:FuncData}{e:Expr}{es:List Expr}{p pos:Pos}{t:TA}(G:XR X.prog X.w X.K X.mg X.base k c ns C U fI fd ps)(hr:CK (k+1) X.A)(hg:Gl X c)(ha:PA X (e::es) t)
  (hdb:(c==("__debug__":Str))=false:=by decide) (he:starEach (e::es) X.env=(false,eval e X.env)::starEach es X.env:=by rfl) (hpl:(backTo pos (starEach es X.env)).any (·.1)=false:=by rfl) :
  PE X (.Call (.Name c p) (e::es) [] pos) (Ajl C ns t):=by
 intro pins s σ H Q I h
 refine wpAny_Call_Name_kw (Ii I hg G.gl ?_ hdb)
 refine W.callWith_K (h₀:=X.base) I.ok.mod.kin G.kp (thn (ha pos pins s σ H _ I h) fun us s1 ⟨vs,H1,I1,r,l1,l2,q⟩=>⟨I1.kIn,?_⟩) he hpl
 have nz:H1 (s1.heap.objs.size+1)=none:=I1.hok.fresh (Nat.le_succ _)
 have lu:us.length=vs.length:=r.length.symm
 have I2:Inv X pins σ (upd H1 (s1.heap.objs.size+1) (.ext (exN (s1.heap.objs.size+1) C))) {s1 with heap:=withExc s1.heap C us} :=
  I1.laid (t':=s1.toks) (fun _ _=>Mq) (Nat.le_succ _) ⟨⟨_,_,Lj,rfl⟩,⟨_,Lj⟩,Wf⟩
 refine AeM I1.kIn G.xc G.hi G.hf (by rw[List.nil_append,lu];exact Nat.le_of_lt (Oa l2)) ?_
 have hb:=G.bd {s1 with heap:=withExc s1.heap C us} (.ref (s1.heap.objs.size+1)::us) I2.kIn (by rw[List.append_nil,List.length_cons,lu,l1,G.ln])
 rw[List.append_nil]at hb
 refine wpAny_call (codeAny_mono (G.ok.run _ X.stack {s1 with heap:=withExc s1.heap C us} _ ⟨.ref (s1.heap.objs.size+1)::us,[]⟩ _ (.ref (s1.heap.objs.size+1)::vs) (fun v H2=>v=.non∧Q (.ref (s1.heap.objs.size+1)) H2) E0 (hr.make C us []) (I2.env0.make C us []) hb (.cons rfl r)
  ⟨_,vs,rfl,l1,Av,fun dx h1 h2=>⟨rfl,?_⟩⟩) fun r' s' hq=>?_)
 ·rw[Ak h2]at h1
  exact q _ dx nz h1 h2
 ·cases r' with
  |error e=>exact False.elim hq
  | ok fl =>
   cases fl with
   | ret u =>
    obtain⟨v,H',I3,ru,e1,q3⟩:=I2.after hq
    rw[e1]at ru
    exact⟨ru,.ref _,H',I3,rfl,q3⟩
   |next=>exact False.elim hq
   |brk=>exact False.elim hq
   |cont=>exact False.elim hq
def AjJ(X:Cx)(C:Addr)(te:TE):TS:=fun _ σ H=>te σ H fun v H2=>∃a dx,v=.ref a∧H2 a=some (.ext (exF a C dx))∧Qp X σ a (upd H2 a (.ext (exO a C dx)))
theorem Ad3{e:Expr}{pos:Pos}{te:TE}(c:XC X.K C U)(hc:X.calm=true)(he:PE X e te):PS X (.Raise (some e) none pos) (AjJ X C te):=by
 intro pins s σ H D I h
 rw[arm_exec_Raise]
 have key:wpAny (model X.prog X.w) X.A (eval e X.env) (fun v s₁=>X.K.In s₁.heap∧∃b od vs sl,v=.ref b∧s₁.heap.get? b=some ⟨.ref C,od,.fields vs,sl⟩∧vs[1]? = some .none∧X.xe (.ref b) s₁) X.xe s:=by
  refine thn (he pins s σ H _ I h) fun u s1 ⟨v,H2,I2,rv,a,dx,e1,e2,wi⟩=>⟨I2.kIn,?_⟩
  subst e1
  obtain rfl:u=Value.ref a:=rv
  obtain⟨⟨vs,sl,hx,h1,nd⟩,_,_⟩:=I2.hok a _ e2
  refine⟨a,_,vs,sl,rfl,hx,h1,wi pins s1 (I2.again e2 (exF.ex ⟨vs,sl,hx,h1,nd⟩) WQ) ⟨_,vs,hx,rfl,.inl h1⟩ ⟨C,dx,Av⟩⟩
 refine wpAny_bind (wpAny_standAt (TF c (I.ok.hd hc) ?_))
 first
  |exact wpAny_bind (thn key fun v s₃ h₃=>wpAny_bind (wpAny_standAt (wpAny_pure h₃)))
  |exact key
end
end L2
namespace L2
open PySem Spec PyProof.Rows SeqAt
structure Nt where
 d:Gd
 ex:BP→Dt→Prop
abbrev Jk:=Nt→BP→Prop
abbrev JC:=BP→(Dt→Prop)→(Dt→Prop)→Prop
structure Nt.le(D D':Nt):Prop where
 d:Gd.le D.d D'.d
 ex:∀ρ x,D.ex ρ x→D'.ex ρ x
def lDX(X:Cx)(B:Hp)(F:List Addr)(D:Ends):Nt:=⟨lD X.K B F D,fun ρ' x=>∀O' σ' a H',Rep X.K B F O' H' σ' ρ'→Rp X.K (mask (F++O') H') x (.ref a)→Qp X σ' a H'⟩
def lSX(X:Cx)(t:Jk):TS:=fun D σ H=>∃B F O ρ,Rep X.K B F O H σ ρ∧t (lDX X B F D) ρ
def lEX(X:Cx)(t:JC):TE:=fun σ H Q=>∃B F O ρ,Rep X.K B F O H σ ρ∧t ρ (fun d=>∀v H',Same H H'→Rp X.K (mask (F++O) H') d v→Q v H') (fun x=>∀a H',Same H H'→Rp X.K (mask (F++O) H') x (.ref a)→Qp X σ a H')
structure DSX(X:Cx)(st:Stmt)(t:Jk):Prop where
 mono:∀{ρ D D'},Nt.le D D'→t D ρ→t D' ρ
 ps:PS X st (lSX X t)
structure Wo(X:Cx)(st:List Stmt)(t:Jk):Prop where
 mono:∀{ρ D D'},Nt.le D D'→t D ρ→t D' ρ
 ps:PSs X st (lSX X t)
structure DEX(X:Cx)(e:Expr)(t:JC):Prop where
 mono:∀{ρ Q Q' E E'},(∀d,Q d→Q' d)→(∀d,E d→E' d)→t ρ Q E→t ρ Q' E'
 pe:PE X e (lEX X t)
section
variable{X:Cx}{a b c e:Expr}{es:List Expr}{st:Stmt}{sts sa sb:List Stmt}{t u:Jk}{ts us:DTS}{te:JC}{tA:DTT}{tl:DTA}{pos:Pos}
theorem PS.nox{st:Stmt}{t:TS}(h:PS X.nox st t):PS X st t:=fun pins s σ H D I hw =>
 wpAny_mono (h pins s σ H D (I.wish _) hw) (fun _ _ q=>q.jg) fun _ _ z=>False.elim z
def AcU(t:DTS):Jk:=fun D ρ=>t D.d ρ
theorem GF(h:DS X.nox st ts):DSX X st (AcU ts) where
 mono:=fun hd z=>h.mono hd.d z
 ps:=(PS.nox h.ps).imp fun D σ H ⟨B,F,O,ρ,R,z⟩=>⟨B,F,O,ρ,R,z⟩
def Ac9:Jk:=fun D ρ=>D.d.nx ρ
def Aic(t u:Jk):Jk:=fun D ρ=>t ⟨{D.d with nx:=u D},D.ex⟩ ρ
theorem Ji:Wo X [] Ac9:=⟨fun hd h=>hd.d.nx _ h,ZG.imp fun D σ H ⟨B,F,O,ρ,R,h⟩=>h O σ H R⟩
theorem Bs(h1:DSX X st t)(h2:Wo X sts u):Wo X (st::sts) (Aic t u) where
 mono:=fun{ρ D D'} hd h=>h1.mono (D:=⟨{D.d with nx:=u D},D.ex⟩) ⟨⟨fun ρ q=>h2.mono hd q,hd.d.rt,hd.d.bk,hd.d.ct⟩,hd.ex⟩ h
 ps:=(J4 h1.ps h2.ps).imp fun D σ H ⟨B,F,O,ρ,R,h⟩=>⟨B,F,O,ρ,R,h1.mono (D:=⟨{ (lDX X B F D).d with nx:=u (lDX X B F D)},(lDX X B F D).ex⟩) ⟨⟨fun ρ' q O' σ' H' R'=>⟨B,F,O',ρ',R',q⟩,fun _ q=>q,fun _ q=>q,fun _ q=>q⟩,fun _ _ q=>q⟩ h⟩
theorem Bu(h1:DSX X st t):Wo X [st] t:=⟨h1.mono,Ih h1.ps⟩
def Am2(c:DTT)(t u:Jk):Jk:=fun D ρ=>c ρ fun k=>if k=true then t D ρ else u D ρ
theorem Kf(hc:DT X c tA)(ha:Wo X sa t)(hb:Wo X sb u):DSX X (.If c sa sb pos) (Am2 tA t u) where
 mono:=fun hd h=>hc.mono (fun k h=>by
  cases k with
  |true=>exact ha.mono hd h
  |false=>exact hb.mono hd h) h
 ps:=(AhL hc.pt ha.ps hb.ps).imp fun D σ H ⟨B,F,O,ρ,R,h⟩=>⟨B,F,O,ρ,R,hc.mono (fun k h H1 s1=>by
  cases k with
  |true=>exact⟨B,F,O,ρ,R.same s1,h⟩
  |false=>exact⟨B,F,O,ρ,R.same s1,h⟩) h⟩
def AcB(te:JC):Jk:=fun D ρ=>te ρ (fun _=>D.d.nx ρ) (D.ex ρ)
theorem Kv(he:DEX X e te)(hs:swapsWith e none pos.line X.env=pure false:=by rfl):DSX X (.Expr e pos) (AcB te) where
 mono:=fun hd h=>he.mono (fun _ h=>hd.d.nx _ h) (fun _ h=>hd.ex _ _ h) h
 ps:=(KJ he.pe hs).imp fun D σ H ⟨B,F,O,ρ,R,h⟩=>⟨B,F,O,ρ,R,he.mono (fun d q v H1 s1 _=>q O σ H1 (R.same s1)) (fun x q a H1 s1 r1=>q O σ a H1 (R.same s1) r1) h⟩
def AhY(te:JC):Jk:=fun D ρ=>te ρ D.d.rt (D.ex ρ)
theorem Aav(he:DEX X e te):DSX X (.Return (some e) pos) (AhY te) where
 mono:=fun hd h=>he.mono (fun _ h=>hd.d.rt _ h) (fun _ h=>hd.ex _ _ h) h
 ps:=(AdR he.pe).imp fun D σ H ⟨B,F,O,ρ,R,h⟩=>⟨B,F,O,ρ,R,he.mono (fun d q v H1 s1 r1=>q v H1 (R.base.trans s1) (r1.mono QM)) (fun x q a H1 s1 r1=>q O σ a H1 (R.same s1) r1) h⟩
def AhD(te:JC)(g:DTG):Jk:=fun D ρ=>te ρ (fun d=>g d ρ D.d.nx) (D.ex ρ)
theorem KH(i:Nat){x:Str}{pos':Pos}(hN:X.N.Nodup)(he:DEX X e te)(hi:X.N[i]? = some x:=by rfl)(hx:Loc X.env.scope x:=by first | exact Or.inl rfl | exact Or.inr rfl)(hs:swapsWith e (some (.Name x pos')) pos.line X.env=pure false:=by rfl)
  (hf:X.fn x=true∨X.env.scope.names.lookup x=some .local:=by first|exact .inl rfl|exact .inr rfl|assumption):DSX X (.Assign [.Name x pos'] e pos) (AhD te (Ri i)) where
 mono:=fun hd h=>he.mono (fun _ h=>hd.d.nx _ h) (fun _ h=>hd.ex _ _ h) h
 ps:=(Yc hN hi hx he.pe hs hf).imp fun D σ H ⟨B,F,O,ρ,R,h⟩=>⟨B,F,O,ρ,R,he.mono (fun d q v H1 s1 r1=>q O _ H1 ((R.same s1).set i r1)) (fun x q a H1 s1 r1=>q O σ a H1 (R.same s1) r1) h⟩
abbrev J1:=List Dt→(Dt→Prop)→(Dt→Prop)→Prop
def Anz(K:W.Frag)(sp:J1):Sp:=fun vs H Q E=>∃F ds,(∀a∈F,H a≠none)∧RpL K (mask F H) ds vs∧sp ds (fun d=>∀v H',Same H H'→Rp K (mask F H') d v→Q v H') (fun x=>∀a H',Same H H'→Rp K (mask F H') x (.ref a)→E (.ref a) none H')
def AeL(sp:J1):Prop:=∀ds Q Q' E E',(∀d,Q d→Q' d)→(∀d,E d→E' d)→sp ds Q E→sp ds Q' E'
def AeG(sp:J1)(tl:DTA):JC:=fun ρ Q E=>tl ρ fun ds=>sp ds Q E
def PmX(P:Program)(w:World)(K:W.Frag)(mg:Str→Option Value)(base:Heap)(k:Nat)(x:Str)(st:Stmt)(ps:List Str)(sp:J1):Prop :=
 ∃f fd,FnT K mg x st ps f fd∧Ef P w K mg base (CXe P w) k f fd ps (Anz K sp)
theorem Dq{k:Nat}{ps:List Str}{sp:J1}{x:Str}{stx:Stmt}{p:Pos}(m:AeL sp)(G:PmX X.prog X.w X.K X.mg X.base k x stx ps sp)(hr:CK k X.A)(hg:Gl X x)
  (ha:DA X (e::es) tl) (hdb:(x==("__debug__":Str))=false:=by decide)
  (he:starEach (e::es) X.env=(false,eval e X.env)::starEach es X.env:=by rfl) (hpl:(backTo pos (starEach es X.env)).any (·.1)=false:=by rfl):DEX X (.Call (.Name x p) (e::es) [] pos) (AeG sp tl):=by
 obtain⟨f,fd,F,G⟩:=G
 refine⟨fun hq hx h=>ha.mono (fun ds h=>m ds _ _ _ _ hq hx h) h,(Aep G hr hg F.mg F.fn.kp F.bd ha.pa hdb he hpl).imp fun σ H Q ⟨B,F,O,ρ,R,h⟩=>⟨B,F,O,ρ,R,ha.mono (fun ds q vs H1 s1 r1=>⟨F++O,ds,(R.same s1).th,r1,m ds _ _ _ _ (fun d z v H2 s2 r2=>z v H2 (s1.trans s2) r2) (fun x z a H2 s2 r2=>⟨a,rfl,z a H2 (s1.trans s2) r2⟩) q⟩) h⟩⟩
theorem PmX.pm{P:Program}{w:World}{K:W.Frag}{mg:Str→Option Value}{base:Heap}{k:Nat}{x:Str}{st:Stmt}{ps:List Str}{sp:J1}{sp':DSp}(G:PmX P w K mg base k x st ps sp)(m:AeL sp)
  (h:∀ds Q,sp' ds Q→sp ds Q fun _=>False):Pm P w K mg base k x st ps sp':=by
 obtain⟨f,fd,F,G⟩:=G
 exact⟨f,fd,F,G.calm fun vs H Q E ⟨F',ds,h1,r,q⟩=>⟨F',ds,h1,r,m ds _ _ _ _ (fun _ z=>z) (fun _ z=>z.elim) (h ds _ q)⟩⟩
def Aeg(c:Str)(ns:List Str)(tl:DTA):Jk:=fun D ρ=>tl ρ fun ds=>ds.length=ns.length∧ds.length≤1000∧D.ex ρ (.exc c ns ds)
theorem Jp{k:Nat}{c:Str}{ns ps:List Str}{fd:FuncData}{C U fI:Addr}{p cp:Pos}(G:XR X.prog X.w X.K X.mg X.base k c ns C U fI fd ps)(hr:CK (k+1) X.A)(hc:X.calm=true)(hg:Gl X c)(ha:DA X (e::es) tl)
  (hdb:(c==("__debug__":Str))=false:=by decide) (he:starEach (e::es) X.env=(false,eval e X.env)::starEach es X.env:=by rfl) (hpl:(backTo cp (starEach es X.env)).any (·.1)=false:=by rfl) :
  DSX X (.Raise (some (.Call (.Name c p) (e::es) [] cp)) none pos) (Aeg c ns tl) where
 mono:=fun hd h=>ha.mono (fun ds ⟨h1,h2,h3⟩=>⟨h1,h2,hd.ex _ _ h3⟩) h
 ps:=(Ad3 G.xc hc (AdK G hr hg ha.pa hdb he hpl)).imp fun D σ H ⟨B,F,O,ρ,R,h⟩=>⟨B,F,O,ρ,R,ha.mono (fun ds ⟨h1,h2,h3⟩ vs H1 s1 r1=>by
  refine⟨by rw[r1.len];exact h1,by rw[r1.len];exact h2,fun a dx na nd ne=>⟨a,dx,rfl,Av,?_⟩⟩
  have R1:=R.same s1
  have oa:a∉F++O:=fun z=>R1.th a z na
  have od:dx∉F++O:=fun z=>R1.th dx z nd
  have s2:Same H1 (upd (upd (upd (upd H1 a (.ext (exN a C))) dx (.xd (ns.zip vs))) a (.ext (exF a C dx))) a (.ext (exO a C dx))):=fun b o q=>by
   rw[Ak (Bb q na),Ak (Bb q na),Ak (Bb q nd),Ak (Bb q na)];exact q
  refine h3 O σ a _ (R1.same s2) (JL.mpr ⟨a,C,U,dx,vs,rfl,G.at_,G.xc,?_,?_,h1.symm,r1.mono s2.mask⟩)
  ·rw[Ba oa];exact Av
  ·refine .inl ?_
   rw[Ba od,Ak ne,Ak ne];exact Av) h⟩
end
section
variable{P:Program}{w:World}{K:W.Frag}{mg:Str→Option Value}{base:Heap}
theorem Fun.okX{x qual:Str}{st:Stmt}{f:Addr}{fd:FuncData}{N ps:List Str}{k:Nat}{sp:J1}(F:Fun K x qual st f fd)(S:Aq N ps (Af st))(len:∀ds Q E,sp ds Q E→ds.length=ps.length)
  (hbody:∀(cdv:Value)(A:Around)(outer:List Env)(s:Shared)(H:Hp)(E:XK),CK k (A.deeper (envOfC qual (Af st) s.heap.objs.size f cdv)) →
   ∃t,Wo (RZ (CXe P w) P w K mg base N qual (Af st) f cdv A outer s H E) (Cj st) t∧∀ds Q Ex,sp ds Q Ex→t ⟨{nx:=fun _=>Q .non,rt:=Q},fun _=>Ex⟩ (Ey N ds)):Ef P w K mg base (CXe P w) (k+1) f fd ps (Anz K sp):=by
 obtain⟨oc,od,kV,doc,pm,an,cdv,ct,osl,rfl,lk,hcd⟩:=F.ex
 refine AeW lk hcd S (fun vs H Q E ⟨F,ds,_,r,h⟩=>by rw[r.len];exact len _ _ _ h) fun A outer s H vs Q E hr ⟨F',ds,hF,r,h⟩=>?_
 obtain⟨t,T,q⟩:=hbody cdv A outer s H E hr
 refine⟨_,T.ps,H,F',[],Ey N ds,Tc hF r,T.mono (D:=⟨{nx:=fun _=>∀v H',Same H H'→Rp K (mask F' H') .non v→Q v H',rt:=fun d=>∀v H',Same H H'→Rp K (mask F' H') d v→Q v H'},fun _ x=>∀a H',Same H H'→Rp K (mask F' H') x (.ref a)→E (.ref a) none H'⟩) ⟨⟨?_,?_,fun _ z=>False.elim z,fun _ z=>False.elim z⟩,?_⟩ (q ds _ _ h)⟩
 ·exact fun ρ z O' σ' H' R'=>z .non H' R'.base (J5.mpr rfl)
 ·exact fun d z v H' s' r'=>z v H' s' r'
 ·exact fun ρ x z O' σ' a H' R' r'=>Zu fun H2 s2=>z a H2 (R'.base.trans s2) ((r'.mono QM).mono s2.mask)
end
def JV{τ:Type}(args:τ→List Dt)(pre:τ→Prop)(good:τ→Prop)(post:τ→Dt→Prop)(exc:τ→Dt):J1:=fun ds Q E=>∃p,ds=args p∧pre p∧(good p→∀d,post p d→Q d)∧(¬good p→E (exc p))
theorem Bo{τ:Type}{args:τ→List Dt}{pre good:τ→Prop}{post:τ→Dt→Prop}{exc:τ→Dt}:AeL (JV args pre good post exc):=fun _ _ _ _ _ hq hx ⟨p,e,h,q,x⟩=>⟨p,e,h,fun g d z=>hq _ (q g d z),fun g=>hx _ (x g)⟩
theorem Di{τ:Type}{args:τ→List Dt}{pre good:τ→Prop}{post:τ→Dt→Prop}{exc:τ→Dt}{Q E:Dt→Prop}(p:τ)(h:pre p)(k:good p→∀d,post p d→Q d)(x:¬good p→E (exc p)):JV args pre good post exc (args p) Q E:=⟨p,rfl,h,k,x⟩
end L2
namespace L2
open PySem Spec PyProof.Rows SeqAt
section
variable{X:Cx}{pins:List (Addr×Obj)}{σ:St}{H:Hp}{s:Shared}
theorem Inv.forget{j:Nat}{n:Str}{m:Str→Option Value}{u:Option Value}{h':Heap}(I:Inv X pins σ H s)(hN:X.N.Nodup)(hj:X.N[j]? = some n)(hl:∀(i:Nat)(x:Str)(v:V),X.N[i]? = some x→σ[i]? = some (some v)→Vis X.env.scope x→∃u,RelV v u∧Look X.env s.heap m x u)
  (hn:h'.Ns X.env.locals (fun x=>if x=n then u else m x)) (sb:Heap.SameBut X.env.locals s.heap h'):Inv X pins (σ.set j none) H {s with heap:=h'}:=by
 have ne:∀b o,X.s₀.heap.get? b=some o→b≠X.env.locals:=fun b o e=>Nat.ne_of_lt (Nat.lt_of_lt_of_le (Heap.lt_size e) I.ok.above)
 refine⟨I.ok,I.os,I.bare,⟨fun b o e n hb hx=>(sb.2 b (ne b o e)).trans (I.base.keep b o e n hb hx),fun b o e n hb hx=>?_,I.base.free,fun b o e hx=>?_,I.base.tups,I.base.lK,I.base.mD⟩,⟨_,hn,fun i y v e1 e2 e3=>?_⟩,fun y c e=>?_,I.free,I.gR,fun p hp=>?_,fun b ob e=>?_,by simpa using I.len⟩
 ·obtain⟨sl,e1⟩:=I.base.slot b o e n hb hx
  exact⟨sl,(sb.2 b (ne b o e)).trans e1⟩
 ·obtain⟨o',e1⟩:=I.base.there b o e hx
  exact⟨o',(sb.2 b (ne b o e)).trans e1⟩
 ·have hij:i≠j:=fun z=>by
   subst z
   by_cases hk:i<σ.length
   ·rw[List.getElem?_set_self hk]at e2;cases e2
   ·rw[List.getElem?_eq_none (by simpa using hk)]at e2;cases e2
  rw[List.getElem?_set_ne (Ne.symm hij)]at e2
  obtain⟨u',r',q⟩:=hl i y v e1 e2 e3
  refine⟨u',r',?_⟩
  rcases q with⟨k,e⟩|⟨k,c,e,z⟩
  ·have:y≠n:=fun e=>hij (Qg hN e1 (e ▸ hj))
   exact .inl ⟨k,by simp[this,e]⟩
  ·exact .inr ⟨k,c,e,z.sameBut sb (I.cne y c e)⟩
 ·obtain⟨w',z⟩:=I.cell y c e
  exact⟨w',z.sameBut sb (I.cne y c e)⟩
 ·obtain⟨e,n,ne,nf,d⟩:=I.pin p hp
  exact⟨(sb.2 p.1 ne).trans e,n,ne,nf,d⟩
 ·refine(I.hok b ob e).stay (fun c w' hc q=>(sb.2 c ?_).trans q) (fun _ q=>q) fun _ _ q=>q
  rintro rfl
  rcases hc with hc|hc
  ·rw[←hc,I.free]at e;cases e
  ·rw[I.free]at hc;cases hc
theorem AbZ{M:Model}{A:Around}{E:Value→Shared→Prop}{j:Nat}{n:Str}{pos:Pos}{Q:Unit→Shared→Prop}(I:Inv X pins σ H s)(hN:X.N.Nodup)(hj:X.N[j]? = some n)(hk:X.env.scope.names.lookup n=some .local)
  (h:∀s',Inv X pins (σ.set j none) H s'→Q () s'):wpAny M A (bindName X.env n .none >>= fun _=>unbindBehindTheSuite X.env n pos) Q E s:=by
 refine wpAny_bind (wpAny_bindName (M8 (v:=.non) I hN hj (.inl hk) rfl (fun s1 I1=>?_) (.inr hk)))
 obtain⟨m,hn,hl⟩:=id I1.loc
 have hjσ:j<σ.length:=by rw[I.len];exact(List.getElem?_eq_some_iff.mp hj).1
 obtain⟨u,r,q⟩:=hl j n .non hj (List.getElem?_set_self hjσ) (.inl hk)
 have hm:m n=some u:=by
  rcases q with⟨_,e⟩|⟨k,_⟩
  ·exact e
  ·rcases k with k|k
   ·have k:X.env.scope.names.lookup n=some .cell:=k
    rw[hk]at k;cases k
   ·have k:X.env.scope.names.lookup n=some .free:=k
    rw[hk]at k;cases k
 have hp:(X.env.scope.kind == .class||(X.env.scope.kind == .module&&X.env.locals != X.env.globals))=false:=by rw[I.ok.kind];rfl
 unfold unbindBehindTheSuite
 refine wpAny_onRaise (wpAny_mono (wpAny_unbindName_local (E:=fun _ _=>False) hk hn hm hp fun h' u' hn' sb=>?_) (fun _ _ z=>z) fun _ _ z=>z.elim)
 refine h _ ?_
 have:=I1.forget hN hj hl hn' sb
 rwa [List.set_set]at this
abbrev Cx.body(X:Cx)(W:Value→Shared→Prop)(pn:List (Addr×Obj)):Cx:={X with xe:=W,pn:=pn}
abbrev Cx.suite(X:Cx)(a:Addr):Cx:={X with A:=X.A.mark (some (.ref a)),calm:=false,xe:=fun _ _=>False}
theorem Inv.body(I:Inv X pins σ H s)(W:Value→Shared→Prop):Inv (X.body W (X.pn++pins)) [] σ H s :=
 ⟨⟨I.ok.mod,I.ok.kind,I.ok.glob,I.ok.blt,I.ok.above,I.ok.inj,I.ok.has,I.ok.cab,I.ok.hd,I.ok.frames,I.ok.stk,I.ok.exf,I.ok.bs,I.ok.bsz,I.ok.vf,I.ok.uh,I.ok.lM,I.ok.frf⟩,I.os,I.bare,I.base,I.loc,I.cell,I.free,I.gR,fun p hp=>I.pin p (by simpa using hp),I.hok,I.len⟩
theorem Inv.q9{W:Value→Shared→Prop}{wQ:List (Addr×Obj)}(I:Inv (X.body W (X.pn++pins)) wQ σ H s):Inv X pins σ H s :=
 ⟨⟨I.ok.mod,I.ok.kind,I.ok.glob,I.ok.blt,I.ok.above,I.ok.inj,I.ok.has,I.ok.cab,I.ok.hd,I.ok.frames,I.ok.stk,I.ok.exf,I.ok.bs,I.ok.bsz,I.ok.vf,I.ok.uh,I.ok.lM,I.ok.frf⟩,I.os,I.bare,I.base,I.loc,I.cell,I.free,I.gR,fun p hp=>I.pin p (List.mem_append_left _ hp),I.hok,I.len⟩
theorem Inv.suite(I:Inv X pins σ H s)(a:Addr):Inv (X.suite a) pins σ H s :=
 ⟨⟨I.ok.mod,I.ok.kind,I.ok.glob,I.ok.blt,I.ok.above,I.ok.inj,I.ok.has,I.ok.cab,fun z=>(by cases z),I.ok.frames,I.ok.stk,I.ok.exf,I.ok.bs,I.ok.bsz,I.ok.vf,I.ok.uh,I.ok.lM,I.ok.frf⟩,I.os,I.bare,I.base,I.loc,I.cell,I.free,I.gR,I.pin,I.hok,I.len⟩
theorem Inv.abR{a:Addr}(I:Inv (X.suite a) pins σ H s)(hd:X.calm=true→X.A.handled=none):Inv X pins σ H s :=
 ⟨⟨I.ok.mod,I.ok.kind,I.ok.glob,I.ok.blt,I.ok.above,I.ok.inj,I.ok.has,I.ok.cab,hd,I.ok.frames,I.ok.stk,I.ok.exf,I.ok.bs,I.ok.bsz,I.ok.vf,I.ok.uh,I.ok.lM,I.ok.frf⟩,I.os,I.bare,I.base,I.loc,I.cell,I.free,I.gR,I.pin,I.hok,I.len⟩
end
structure XU(K:W.Frag)(mg:Str→Option Value)(c:Str)(U:Addr):Prop where
 gl:mg c=some (.ref U)
 obj:∃nm q N bs hd sn sub ab col dd k0 k1 k2 k3 k5 id,K.lookup U=some (excClassObj nm q U N bs bmV hd sn sub ab col dd k0 k1 k2 k3 k5 id)
theorem AiC{M:Model}{A:Around}{E:Value→Shared→Prop}{s:Shared}{K:W.Frag}{mg:Str→Option Value}{C U e:Addr}{oe:Obj}{c:Str}{Q:Bool→Shared→Prop}(X:K.In s.heap)(x:XC K C U)(u:XU K mg c U)(he:s.heap.get? e=some oe)(hc:oe.cls=.ref C)(q:Q true s) :
  wpAny M A (excMatches (.ref e) (.ref U)) Q E s:=by
 obtain⟨nm,q1,N,bs,sn,sub,ab,col,dd,k0,k1,k2,k3,k5,lk⟩:=x.obj
 obtain⟨nm',q1',N',bs',hd',sn',sub',ab',col',dd',k0',k1',k2',k3',k5',id',lk'⟩:=u.obj
 obtain⟨h,g,d,t,os⟩:=s
 have oC:h.get? C=some _:=X _ _ lk
 have oU:h.get? U=some _:=X _ _ lk'
 have c1:(Value.ref U::bmV).contains (.type "BaseException")=true:=by simp
 have c2:(Value.ref C::(.ref U::bmV)).contains (.ref U)=true:=by simp
 have nt:=tc_notTuple
 unfold excMatches
 repeat (first|(with_reducible refine wpAny_loadPart_at he ?_;rw[hc])|with_reducible refine wpAny_loadPart_at oU ?_|(with_reducible refine wpAny_isSubtype_exc oU ?_;rw[c1])|(with_reducible refine wpAny_isSubtype_exc oC ?_;rw[c2])|wp_step)
 exact q
theorem XC.uniq{K:W.Frag}{C U U':Addr}(x:XC K C U)(y:XC K C U'):U=U':=by
 obtain⟨nm,q1,N,bs,sn,sub,ab,col,dd,k0,k1,k2,k3,k5,lk⟩:=x.obj
 obtain⟨nm',q1',N',bs',sn',sub',ab',col',dd',k0',k1',k2',k3',k5',lk'⟩:=y.obj
 rw[lk]at lk'
 injection lk' with e
 injection e with _ _ e _
 injection e with e
 injection e with _ _ e
 injection e with _ e
 injection e with e _
 injection e
def Under(K:W.Frag)(mg:Str→Option Value)(c T:Str):Prop:=∀C U,W.nsIn K mainGlobals c=some (some (.ref C))→XC K C U→mg T=some (.ref U)
theorem Rep.unset{K:W.Frag}{B:Hp}{F O:List Addr}{H:Hp}{σ:St}{ρ:BP}(r:Rep K B F O H σ ρ)(j:Nat):Rep K B F O H (σ.set j none) (ρ.set j none):=by
 have back:∀(i:Nat)(x:En),(ρ.set j none)[i]? = some (some x)→i≠j∧ρ[i]? = some (some x):=fun i x e=>by
  by_cases hi:i=j
  ·subst hi
   by_cases hk:i<ρ.length
   ·rw[List.getElem?_set_self hk]at e;cases e
   ·rw[List.getElem?_eq_none (by simpa using hk)]at e;cases e
  ·rw[List.getElem?_set_ne (Ne.symm hi)]at e;exact⟨hi,e⟩
 refine⟨by simpa using r.len,r.base,r.fr,r.th,fun i d e=>?_,fun i ds e=>?_,fun i k ds es a h1 h2 h3 h4=>?_,fun i ks e=>?_,fun i k ds es a h1 h2 h3 h4=>?_⟩
 ·obtain⟨n,e⟩:=back i _ e
  rw[List.getElem?_set_ne (Ne.symm n)];exact r.is i d e
 ·obtain⟨n,e⟩:=back i _ e
  rw[List.getElem?_set_ne (Ne.symm n)];exact r.own i ds e
 ·obtain⟨n1,e1⟩:=back i _ h1
  obtain⟨n2,e2⟩:=back k _ h2
  rw[List.getElem?_set_ne (Ne.symm n1)]at h3
  rw[List.getElem?_set_ne (Ne.symm n2)]at h4
  exact r.inj i k ds es a e1 e2 h3 h4
 ·obtain⟨n,e⟩:=back i _ e
  rw[List.getElem?_set_ne (Ne.symm n)];exact r.tab i ks e
 ·obtain⟨n1,e1⟩:=back i _ h1
  obtain⟨n2,e2⟩:=back k _ h2
  rw[List.getElem?_set_ne (Ne.symm n1)]at h3
  rw[List.getElem?_set_ne (Ne.symm n2)]at h4
  exact r.uo i k ds es a e1 e2 h3 h4
theorem AjM{X:Cx}{pins:List (Addr×Obj)}{σ:St}{H:Hp}{s:Shared}{a:Addr}{M:Model}{A:Around}{E:Value→Shared→Prop}{Q:Unit→Shared→Prop}(I:Inv X pins σ H s)(fl:Ip s.heap H a)(q:∀s',Inv X pins σ H s'→Q () s'):wpAny M A (setFlight (.ref a) none) Q E s:=by
 obtain⟨o,vs,e1,e2,e3⟩:=fl
 unfold setFlight
 rcases e3 with e3|⟨T,e3,e4,e5⟩
 ·refine wpAny_bind (wpAny_field e1 e2 e3 ?_)
  rw[if_neg (by simp)]
  exact wpAny_pure (q s I)
 ·refine wpAny_bind (wpAny_field e1 e2 e3 ?_)
  rw[if_pos (by simp)]
  obtain⟨⟨oT,ts,t1,t2,t3⟩,_,_⟩:=I.hok T _ e5
  have tz:3<ts.size:=(Array.getElem?_eq_some_iff.mp t3).1
  have d':=Obj.data_mapFields t2 (·.setIfInBounds 3 Value.none)
  have t':=Heap.get?_update_self (Obj.mapFields (·.setIfInBounds 3 Value.none)) t1 (Obj.isFreed_of_fields d')
  refine wpAny_setField t1 t2 tz (q _ ?_)
  have J:=I.write (x:=T) (e:=T) (o:=.ext (tbO T)) (t':=s.toks) (h':=s.heap.update T (Obj.mapFields (·.setIfInBounds 3 Value.none))) (by rw[e5];exact True.intro) (.inl rfl) (fun b u n e=>(Heap.get?_update_other _ _ (Ne.symm n)).trans e) ⟨_,t'⟩ ⟨⟨_,_,t',d',by simp[tz]⟩,⟨_,t'⟩,Qy⟩
  have eH:upd H T (.ext (tbO T))=H:=by
   funext b
   by_cases z:b=T
   ·rw[z,Av,e5]
   ·rw[Ak z]
  rw[eH]at J
  exact J
section
variable{X:Cx}{tb:Jk}{ts:DTS}{pos tp hp:Pos}{T n:Str}{U:Addr}{body suite:List Stmt}{b₀:Stmt}
def Ju(K:W.Frag)(mg:Str→Option Value)(T:Str)(j:Nat)(ts:DTS)(D:Gd)(ρ:BP)(x:Dt):Prop:=match x with
 |.exc c ns ds=>Under K mg c T∧ts {nx:=fun ρ2=>D.nx (ρ2.set j none),rt:=fun _=>False} (ρ.set j (some (.is (.exc c ns ds))))
 |_=>False
def Ak0(K:W.Frag)(mg:Str→Option Value)(T:Str)(j:Nat)(tb:Jk)(ts:DTS):Jk:=fun D ρ=>tb ⟨D.d,Ju K mg T j ts D.d⟩ ρ
theorem Afk(j:Nat)(u:XU X.K X.mg T U)(hN:X.N.Nodup)(hb:∀W pn,Wo (X.body W pn) body tb)(hs:∀a,DSs (X.suite a) (b₀::suite) ts)(hst:X.stack=X.env::X.outer:=by rfl)(hfr:X.env.frame=some X.env.locals:=by rfl)(hj:X.N[j]? = some n:=by rfl)(hk:X.env.scope.names.lookup n=some .local:=by rfl)(hg:Gl X T:=by rfl)
  (hd:(T==("__debug__":Str))=false:=by decide):DSX X (.Try body [.ExceptHandler (some (.Name T tp)) (some n) (b₀::suite) hp] [] [] pos) (Ak0 X.K X.mg T j tb ts) where
 mono:=fun{ρ D D'} hd h=>(hb X.xe X.pn).mono (D:=⟨D.d,Ju X.K X.mg T j ts D.d⟩) ⟨hd.d,fun ρ' x z=>by
  revert z
  dsimp only
  unfold Ju
  split
  ·exact fun z=>⟨z.1,(hs 0).mono (D:={nx:=fun ρ2=>D.d.nx (ρ2.set j none),rt:=fun _=>False}) ⟨fun _ q=>hd.d.nx _ q,fun _ q=>q,fun _ q=>q,fun _ q=>q⟩ z.2⟩
  ·exact fun z=>z⟩ h
 ps:=by
  rintro pins s σ H D I ⟨B,F,O,ρ,R,h⟩
  refine wpAny_Try_except ?_
  refine wpAny_mono ((hb (fun e s₁=>wpAny (model X.prog X.w) X.A (noteFrame e X.env) (fun _ s₂=>wpAny (model X.prog X.w) X.A (setFlight e none) (fun _ s₃=>wpAny (model X.prog X.w) X.A (handleBy e X.env [.ExceptHandler (some (.Name T tp)) (some n) (b₀::suite) hp]) (SP X pins D) X.xe s₃) X.xe s₂) X.xe s₁) (X.pn++pins)).ps [] s σ H D (I.body _) ⟨B,F,O,ρ,R,(hb X.xe X.pn).mono (D:=⟨(lDX X B F D).d,Ju X.K X.mg T j ts (lDX X B F D).d⟩) ⟨⟨fun _ q=>q,fun _ q=>q,fun _ q=>q,fun _ q=>q⟩,fun ρ' x z=>?_⟩ h⟩) (fun f s1 q=>?_) fun e s1 q=>q
  ·revert z
   dsimp only
   unfold Ju
   split
   ·rintro⟨un,z⟩ O' σ' a H' R' rp wQ s1 I1 fl ex
    have I2:Inv X pins σ' H' s1:=I1.q9
    obtain⟨a',C,U',dx,vs,ea,h1,xc,h2,h3,h4,h5⟩:=JL.mp rp
    obtain rfl:a=a':=V.ref.inj ea
    refine lands I2 hst hfr fl ex fun H2 s2 sm I3 fl2=>?_
    refine wpAny_handleBy_cons (codeAny_handlers_test (Ii (X:=X.suite a) (E:=fun x s₁=>_) (I3.suite a) hg u.gl ?_ hd)) (by intro q;cases q)
    have eU:U'=U:=by
     have:=(un C U' h1 xc).symm.trans u.gl
     injection this with this
     injection this
    subst eU
    have h2':=I3.hok a _ (sm _ _ (Bk _ _ h2))
    obtain⟨⟨oe,_,k1,k2,_⟩,_,_⟩:=h2'
    refine AiC I3.kIn xc u k1 k2 ?_
    refine codeAny_handlers_suite_as (AjM I3 fl2 fun s3 I4=>?_)
    refine M8 (X:=X.suite a) (v:=.ref a) (I4.suite a) hN hj (.inl hk) rfl (fun s4 I5=>?_) (.inr hk)
    have R2:=(R'.same sm).set j (rp.mono sm.mask)
    refine wpAny_mono ((hs a).ps pins s4 _ H2 {nx:=fun σ5 H5=>D.nx (σ5.set j none) H5,rt:=fun _ _=>False} I5 ⟨B,F,O',_,R2,(hs a).mono (D:={nx:=fun ρ2=>(lDX X B F D).d.nx (ρ2.set j none),rt:=fun _=>False}) ⟨fun ρ5 q O5 σ5 H5 R5=>q O5 _ H5 (R5.unset j),fun _ q=>q.elim,fun _ q=>q.elim,fun _ q=>q.elim⟩ z⟩) (fun f s5 q=>?_) fun _ _ z=>z.elim
    cases f with
    | next =>
     obtain⟨σ5,H5,I6,q⟩:=q
     exact AbZ (I6.abR I.ok.hd) hN hj hk fun s6 I7=>⟨_,H5,I7,q⟩
    |brk=>obtain⟨_,_,_,q⟩:=q;exact q.elim
    |cont=>obtain⟨_,_,_,q⟩:=q;exact q.elim
    |ret u=>obtain⟨_,_,_,_,_,q⟩:=q;exact q.elim
   ·exact fun z=>z.elim
  ·cases f with
   | next =>
    obtain⟨σ',H',I',q⟩:=q
    exact wpAny_execs_nil ⟨σ',H',I'.q9,q⟩
   |brk=>obtain⟨σ',H',I',q⟩:=q;exact⟨σ',H',I'.q9,q⟩
   |cont=>obtain⟨σ',H',I',q⟩:=q;exact⟨σ',H',I'.q9,q⟩
   |ret u=>obtain⟨v,σ',H',I',r,q⟩:=q;exact⟨v,σ',H',I'.q9,r,q⟩
end
end L2
namespace L2
open PySem Spec PyProof.Rows SeqAt
def Bg(K:W.Frag)(c:Str)(A:Addr)(b:Bool):Prop:=∀C,W.nsIn K mainGlobals c=some (some (.ref C))→W.kitOne K (.ref C) (.ref A)=some b
def Oi(K:W.Frag)(c:Str)(As:List Addr)(b:Bool):Prop:=∀C,W.nsIn K mainGlobals c=some (some (.ref C))→W.kitAny K (.ref C) (As.map .ref)=some b
def HD(K:W.Frag)(c f:Str):Prop:=∀C,W.nsIn K mainGlobals c=some (some (.ref C))→W.findIn K (.ref C) f=some none
theorem Oi.nil{K:W.Frag}{c:Str}:Oi K c [] false:=fun _ _=>rfl
theorem Oi.cons{K:W.Frag}{c:Str}{A:Addr}{As:List Addr}(h:Bg K c A false)(r:Oi K c As false):Oi K c (A::As) false:=fun C e=>by
 show W.kitAny K (.ref C) (.ref A::As.map .ref)=some false
 unfold W.kitAny
 rw[h C e]
 exact r C e
theorem AaY:∀{As:List Addr} {its:List Value},Vals (As.map V.ref) its→its=As.map .ref
 | [],_,rv=>by cases rv;rfl
 | A::As,_,rv=>by
  cases rv with
  |cons z1 z2=>rw[AaY z2];rw[show _=Value.ref A from z1];rfl
theorem XC.inst{X:Cx}{pins:List (Addr×Obj)}{σ:St}{H:Hp}{s:Shared}{a C dx:Addr}{fs:List (Str×V)}(I:Inv X pins σ H s)(h1:H a=some (.ext (exO a C dx)))(h2:H dx=some (.xd fs)) :
  ∃(ox od:Obj)(mA:Str→Option Value),W.InstAt s.heap a ox C (some od)∧(∀name,W.lookIn name od=some (mA name))∧∀f,Mj (fs.lookup f) (mA f):=by
 obtain⟨⟨o,vs,e1,e2,e3,e4⟩,_,_⟩:=I.hok a _ h1
 obtain⟨mA,n,r⟩:=(show Ej X.prog X.w H s.heap dx (.xd fs)from I.hok dx _ h2)
 obtain⟨od,e5,e6⟩:=Tv n
 have ne:dx≠a:=fun z=>by rw[z,h1]at h2;cases h2
 rw[if_neg ne]at e3
 exact⟨o,od,mA,⟨e1,e2,by unfold W.notCls;rw[e4],by rw[e3];exact e5⟩,e6,r⟩
theorem XC.instN{X:Cx}{pins:List (Addr×Obj)}{σ:St}{H:Hp}{s:Shared}{a C dx:Addr}{ns:List Str}{vs:List V}(I:Inv X pins σ H s)(h1:H a=some (.ext (exO a C dx)))(h2:H dx=some (.xd (ns.zip vs))∨dx=a∧ns=[]) :
  ∃(ox:Obj)(od:Option Obj),W.InstAt s.heap a ox C od:=by
 rcases h2 with h2|⟨h2,_⟩
 ·obtain⟨ox,od,_,J,_⟩:=XC.inst I h1 h2
  exact⟨ox,_,J⟩
 ·obtain⟨⟨o,vs,e1,e2,e3,e4⟩,_,_⟩:=I.hok a _ h1
  rw[if_pos h2]at e3
  exact⟨o,none,e1,e2,by unfold W.notCls;rw[e4],by rw[e3];trivial⟩
section
variable{X:Cx}{a b c e:Expr}{es:List Expr}{ta tb te:DTE}{tl:DTA}{pos:Pos}
theorem AdE:Kr X (.builtin "isinstance") (fun xs H Q=>∃c ns ds x A v,xs=[x,.ref A]∧Rp X.K H (.exc c ns ds) x∧Bg X.K c A v∧Q (.bl v) H):=by
 intro pins s σ H xs us Q I r ⟨c,ns,ds,x,A,v,e,rp,sx,q⟩
 subst e
 obtain⟨u,u2,rfl,r1,r2⟩:=vals2 r
 cases(show u2=.ref A from r2)
 obtain⟨a,C,U,dx,vs,rfl,h1,xc,h2,h3,_,_⟩:=JL.mp rp
 cases(show u=.ref a from r1)
 obtain⟨ox,od,J⟩:=XC.instN I h2 h3
 exact W.kia_one (Ake xc.xb) I.kIn ⟨ox,od,J⟩ (sx C h1) (fun z=>nomatch z) fun tk=>⟨.bl _,H,I.tok tk,rfl,q⟩
theorem AbP:Kr X (.builtin "isinstance") (fun xs H Q=>∃c ns ds x t As v,xs=[x,.ref t]∧Rp X.K H (.exc c ns ds) x∧SqT X.K H t (As.map .ref)∧Oi X.K c As v∧Q (.bl v) H):=by
 intro pins s σ H xs us Q I r ⟨c,ns,ds,x,t,As,v,e,rp,ht,sx,q⟩
 subst e
 obtain⟨u,u2,rfl,r1,r2⟩:=vals2 r
 cases(show u2=.ref t from r2)
 obtain⟨a,C,U,dx,vs,rfl,h1,xc,h2,h3,_,_⟩:=JL.mp rp
 cases(show u=.ref a from r1)
 obtain⟨ox,od,J⟩:=XC.instN I h2 h3
 obtain⟨its,rv,⟨o,k1,k2,n,k3⟩,_⟩:=I.tuple ht
 have ei:its=As.map .ref:=AaY rv
 subst ei
 obtain⟨oc,odd,dt,osl⟩:=o
 cases k2
 cases k3
 exact W.kia_tup (Ake xc.xb) I.kIn ⟨ox,od,J⟩ k1 (by simpa using sx C h1) (fun z=>nomatch z) fun tk=>⟨.bl _,H,I.tok tk,rfl,q⟩
def AeU(K:W.Frag):DL:=fun ds Q=>match ds with
 | [.exc c _ _,.fn A]=>∃v,Bg K c A v∧Q (.bl v)
 |_=>False
theorem AfQ{K:W.Frag}:Uw K (fun xs H Q=>∃c ns ds x A v,xs=[x,.ref A]∧Rp K H (.exc c ns ds) x∧Bg K c A v∧Q (.bl v) H) (AeU K) where
 mono:=fun hq h=>by
  unfold AeU at h ⊢
  split at h
  ·exact let ⟨v,h1,h2⟩:=h;⟨v,h1,hq _ h2⟩
  ·exact h.elim
 ok:=fun O H ds xs Q _ r h=>by
  unfold AeU at h
  split at h
  ·obtain⟨v,h1,h2⟩:=h
   obtain⟨x,xr,rfl,r1,r2⟩:=Bc.mp r
   obtain⟨y,yr,rfl,r3,r4⟩:=Bc.mp r2
   rw[BL.mp r4,Ww.mp r3]
   exact⟨_,_,_,x,_,v,rfl,r1.mono Bk,h1,h2 _ H (Same.refl H) (Dd.mpr rfl)⟩
  ·exact h.elim
def W4(K:W.Frag):DL:=fun ds Q=>match ds with
 | [.exc c _ _,.tup es]=>∃As v,es=As.map .fn∧Oi K c As v∧Q (.bl v)
 |_=>False
theorem Aek{K:W.Frag}{H:Hp}:∀{As:List Addr} {vs:List V},RpL K H (As.map Dt.fn) vs→vs=As.map .ref
 | [],_,h=>BL.mp h
 | A::As,_,h=>by
  obtain⟨v,r,rfl,h1,h2⟩:=Bc.mp h
  rw[Aek h2,Ww.mp h1];rfl
theorem Aee{K:W.Frag}:Uw K (fun xs H Q=>∃c ns ds x t As v,xs=[x,.ref t]∧Rp K H (.exc c ns ds) x∧SqT K H t (As.map .ref)∧Oi K c As v∧Q (.bl v) H) (W4 K) where
 mono:=fun hq h=>by
  unfold W4 at h ⊢
  split at h
  ·exact let ⟨As,v,h0,h1,h2⟩:=h;⟨As,v,h0,h1,hq _ h2⟩
  ·exact h.elim
 ok:=fun O H ds xs Q _ r h=>by
  unfold W4 at h
  split at h
  ·obtain⟨As,v,rfl,h1,h2⟩:=h
   obtain⟨x,xr,rfl,r1,r2⟩:=Bc.mp r
   obtain⟨y,yr,rfl,r3,r4⟩:=Bc.mp r2
   obtain⟨t,ys,rfl,q1,q2⟩:=Dv.mp r3
   rw[BL.mp r4]
   rw[Aek q2]at q1
   exact⟨_,_,_,x,t,As,v,rfl,r1.mono Bk,Bk.qZ q1,h1,h2 _ H (Same.refl H) (Dd.mpr rfl)⟩
  ·exact h.elim
theorem Uc{p:Pos}(hm:X.mg "isinstance"=none)(ha:DA X [a,b] tl)(hg:Gl X "isinstance":=by rfl)(hv:bootBuiltins "isinstance"=some (.builtin "isinstance"):=by rfl)(he:starEach [a,b] X.env=(false,eval a X.env)::starEach [b] X.env:=by rfl)
  (hpl:(backTo pos (starEach [b] X.env)).any (·.1)=false:=by rfl):DE X (.Call (.Name "isinstance" p) [a,b] [] pos) (dCB (AeU X.K) tl):=Rw AdE AfQ hg hm hv ha (he:=he) (hpl:=hpl)
theorem Agz{p:Pos}(hm:X.mg "isinstance"=none)(ha:DA X [a,b] tl)(hg:Gl X "isinstance":=by rfl)(hv:bootBuiltins "isinstance"=some (.builtin "isinstance"):=by rfl)(he:starEach [a,b] X.env=(false,eval a X.env)::starEach [b] X.env:=by rfl)
  (hpl:(backTo pos (starEach [b] X.env)).any (·.1)=false:=by rfl):DE X (.Call (.Name "isinstance" p) [a,b] [] pos) (dCB (W4 X.K) tl):=Rw AbP Aee hg hm hv ha (he:=he) (hpl:=hpl)
theorem Em{x:Str}{A:Addr}{pos:Pos}(hm:X.mg x=some (.ref A))(hg:Gl X x:=by rfl)(hd:(x==("__debug__":Str))=false:=by decide):DE X (.Name x pos) (dC (.fn A)):=Ik (v:=.ref A) hg hm rfl (fun _=>Ww.mpr rfl) hd
theorem XC.value{K:W.Frag}{C U:Addr}(c:XC K C U):W.kitOne K (.ref C) (.type "ValueError")=some true:=by
 unfold W.kitOne
 rw[if_neg (by simp)]
 show(if W.kitMeta "ValueError"=true then W.mroIn K C (.type "ValueError")else none)=some true
 rw[if_pos (by decide +kernel),c.sub]
 simp
theorem Adp:Kr X (.builtin "isinstance") (fun xs H Q=>∃c ns ds x,xs=[x,.ty "ValueError"]∧Rp X.K H (.exc c ns ds) x∧Q (.bl true) H):=by
 intro pins s σ H xs us Q I r ⟨c,ns,ds,x,e,rp,q⟩
 subst e
 obtain⟨u,u2,rfl,r1,r2⟩:=vals2 r
 cases(show u2=.type "ValueError" from r2)
 obtain⟨a,C,U,dx,vs,rfl,h1,xc,h2,h3,_,_⟩:=JL.mp rp
 cases(show u=.ref a from r1)
 obtain⟨ox,od,J⟩:=XC.instN I h2 h3
 exact W.kia_one (Ake xc.xb) I.kIn ⟨ox,od,J⟩ xc.value (fun z=>nomatch z) fun tk=>⟨.bl _,H,I.tok tk,rfl,q⟩
def AnE(ta:DTE):DTE:=fun ρ Q=>ta ρ fun d=>match d with
 |.exc _ _ _=>Q (.bl true)
 |_=>False
theorem Ais{p p2:Pos}(hm:X.mg "isinstance"=none)(hmT:X.mg "ValueError"=none)(ha:DE X a ta)(hg:Gl X "isinstance":=by rfl)(hgT:Gl X "ValueError":=by rfl)(hv:bootBuiltins "isinstance"=some (.builtin "isinstance"):=by rfl)
  (hvT:bootBuiltins "ValueError"=some (.type "ValueError"):=by rfl)
  (hs1:starEach [a,.Name "ValueError" p2] X.env=(false,eval a X.env)::starEach [.Name "ValueError" p2] X.env:=by rfl) (hs2:starEach [.Name "ValueError" p2] X.env=(false,eval (.Name "ValueError" p2) X.env)::starEach [] X.env:=by rfl)
  (hpl:(backTo pos (starEach [.Name "ValueError" p2] X.env)).any (·.1)=false:=by rfl):DE X (.Call (.Name "isinstance" p) [a,.Name "ValueError" p2] [] pos) (AnE ta) where
 mono:=fun hq h=>ha.mono (fun d h=>by
  split at h
  ·exact hq _ h
  ·exact h.elim) h
 pe:=(Qm Adp hg hm hv (Ei ha.pe (Ei (Vk (v:=.ty "ValueError") hgT hmT hvT rfl (by decide) (by decide)) Lg hs2) hs1) (he:=hs1) (hpl:=hpl)).imp fun σ H Q ⟨B,F,O,ρ,R,h⟩ =>
  ⟨B,F,O,ρ,R,ha.mono (fun d h v H1 s1 r1=>by
   split at h
   ·exact⟨_,_,_,v,rfl,r1.mono Bk,h _ H1 s1 (Dd.mpr rfl)⟩
   ·exact h.elim) h⟩
def AnM(K:W.Frag)(ta:TE)(f:Str):TE:=fun σ H Q=>ta σ H fun x H1=>∃a C U dx fs v,x=.ref a∧XC K C U∧W.findIn K (.ref C) f=some none∧H1 a=some (.ext (exO a C dx))∧H1 dx=some (.xd fs)∧fs.lookup f=some v∧Q v H1
theorem Ahd{f:Str}{ta:TE}(he:PE X e ta)(hb:attributeBase e f X.env (eval e X.env)=eval e X.env:=by rfl):PE X (.Attribute e f pos) (AnM X.K ta f):=by
 intro pins s σ H Q I h
 refine AaC hb (thn (he pins s σ H _ I h) fun u s1 ⟨x,H1,I1,rx,a,C,U,dx,fs,v,ex,xc,nf,h1,h2,l,q⟩=>?_)
 subst ex
 obtain rfl:u=Value.ref a:=rx
 obtain⟨ox,od,mA,J,lk,r⟩:=XC.inst I1 h1 h2
 obtain⟨cd,hc,_,hd⟩:=xc.cls
 have rf:=r f
 rw[l]at rf
 obtain⟨y,e1,e2⟩:=Mj.some_of rf
 exact AoF I1.kIn xc.xb J (W.findObj_own (by unfold W.hasDictIn;rw[hc];exact hd) nf rfl (by rw[lk,e1])) (S8 e2) ⟨v,H1,I1.tok _,e2,q⟩
theorem zip_get{K:W.Frag}{H:Hp}{f:Str}{d:Dt}:∀{ns:List Str} {ds:List Dt} {vs:List V},RpL K H ds vs→(ns.zip ds).lookup f=some d→∃v,(ns.zip vs).lookup f=some v∧Rp K H d v
 | [],_,_,_,h=>by simp at h
 |_::_,[],_,_,h=>by simp at h
 | n::ns,x::ds,_,r,h=>by
  obtain⟨v,vr,rfl,r1,r2⟩:=Bc.mp r
  rw[List.zip_cons_cons]at h ⊢
  by_cases q:f=n
  ·have hb:(f==n)=true:=beq_iff_eq.mpr q
   simp only[List.lookup,hb]at h ⊢
   cases h;exact⟨v,rfl,r1⟩
  ·have hb:(f==n)=false:=beq_eq_false_iff_ne.mpr q
   simp only[List.lookup,hb]at h ⊢
   exact zip_get r2 h
def Ah4(K:W.Frag)(te:DTE)(f:Str):DTE:=fun ρ Q=>te ρ fun d=>match d with
 |.exc c ns ds=>HD K c f∧∃v,(ns.zip ds).lookup f=some v∧Q v
 |_=>False
theorem Pk{f:Str}(h:DE X e te)(hb:attributeBase e f X.env (eval e X.env)=eval e X.env:=by rfl):DE X (.Attribute e f pos) (Ah4 X.K te f) where
 mono:=fun hq z=>h.mono (fun d z=>by
  split at z
  ·exact let ⟨a,v,b,c⟩:=z;⟨a,v,b,hq _ c⟩
  ·exact z.elim) z
 pe:=(Ahd h.pe hb).imp fun σ H Q ⟨B,F,O,ρ,R,z⟩=>⟨B,F,O,ρ,R,h.mono (fun d z v H1 s1 r1=>by
  split at z
  ·obtain⟨na,y,ly,q⟩:=z
   obtain⟨a,C,U,dx,vs,rfl,h1,xc,h2,h3,_,h5⟩:=JL.mp r1
   obtain⟨v,lv,rv⟩:=zip_get h5 ly
   have h3:=h3.resolve_right fun z=>by rw[z.2]at ly;cases ly
   exact⟨a,C,U,dx,_,v,rfl,xc,na C h1,Bk _ _ h2,Bk _ _ h3,lv,q v H1 s1 rv⟩
  ·exact z.elim) z⟩
def Aii(t:Jk):DTS:=fun D ρ=>t ⟨D,fun _ _=>False⟩ ρ
theorem AgE{st:Stmt}{t:Jk}(h:DSX X st t):DS X st (Aii t) where
 mono:=fun{ρ D D'} hd z=>h.mono (D:=⟨D,fun _ _=>False⟩) ⟨hd,fun _ _ q=>q⟩ z
 ps:=h.ps.imp fun D σ H ⟨B,F,O,ρ,R,z⟩=>⟨B,F,O,ρ,R,h.mono (D:=⟨lD X.K B F D,fun _ _=>False⟩) ⟨⟨fun _ q=>q,fun _ q=>q,fun _ q=>q,fun _ q=>q⟩,fun _ _ q=>q.elim⟩ z⟩
end
end L2
namespace L2
open PySem Spec PyProof.Rows SeqAt
structure XRT(K:W.Frag)(mg:Str→Option Value)(c:Str)(ns:List Str)(qual:Str)(st:Stmt)(C U fI:Addr)(fd:FuncData)(ps:List Str):Prop where
 at_:W.nsIn K mainGlobals c=some (some (.ref C))
 gl:mg c=some (.ref C)
 kp:W.keepIn K (.ref C)=true
 xc:XC K C U
 hi:W.findIn K (.ref C) "__init__"=some (some (.ref fI))
 hf:W.typeIn K (.ref fI)=some (.type "function")
 bd:Binds K fd ps []
 ln:ps.length=ns.length+1
 fn:Fun K "__init__" qual st fI fd
 tk:∀f∈ns,W.takerIn K C f=some none
theorem XRT.mk1{P:Program}{w:World}{K:W.Frag}{mg:Str→Option Value}{base:Heap}{k:Nat}{c qual:Str}{ns:List Str}{st:Stmt}{C U fI:Addr}{fd:FuncData}{ps:List Str}(R:XRT K mg c ns qual st C U fI fd ps)
  (h:Ef P w K mg base CX0 k fI fd ps (Ah9 C ns)):XR P w K mg base k c ns C U fI fd ps:=⟨R.at_,R.gl,R.kp,R.xc,R.hi,R.hf,R.bd,R.ln,h⟩
section
variable{K:W.Frag}{mg:Str→Option Value}{c T f:Str}{C U A:Addr}{cd:ClassData}
theorem Bg.self(h:W.nsIn K mainGlobals c=some (some (.ref C))):Bg K c C true:=fun C' e=>by
 rw[h]at e;cases e
 unfold W.kitOne
 rw[if_pos (by simp)]
theorem Bg.no(h:W.nsIn K mainGlobals c=some (some (.ref C)))(x:XC K C U)(z:W.clsIn K A=some cd)(t:W.typeIn K (.ref A)=some (.type "type"))(m:W.mroIn K C (.ref A)=some false):Bg K c A false:=fun C' e=>by
 rw[h]at e;cases e
 have ne:C≠A:=fun q=>by
  subst q
  rw[x.sub]at m
  simp at m
 unfold W.kitOne
 rw[if_neg (by simp[ne])]
 show(if((W.clsIn K A).isSome&&W.typeIn K (.ref A)==some (.type "type"))=true then W.mroIn K C (.ref A)else none)=some false
 rw[if_pos (by rw[z,t];simp),m]
theorem Under.mk(h:W.nsIn K mainGlobals c=some (some (.ref C)))(x:XC K C U)(m:mg T=some (.ref U)):Under K mg c T:=fun C' U' e y=>by
 rw[h]at e;cases e
 rw[x.uniq y]at m
 exact m
theorem HD.mk(h:W.nsIn K mainGlobals c=some (some (.ref C)))(n:W.findIn K (.ref C) f=some none):HD K c f:=fun C' e=>by
 rw[h]at e;cases e
 exact n
end
end L2
namespace L2
open PySem Spec PyProof.Rows SeqAt
theorem Ls{O:List Addr}{H:Hp}{a:Addr}{o:HO}(h:a∈O):mask O (upd H a o)=mask O H:=by
 funext b
 by_cases q:b∈O
 ·rw[Dz q,Dz q]
 ·rw[Ba q,Ba q,Ak (a:=a) (fun z=>q (by rw[z];exact h))]
theorem AdO{F O:List Addr}{H:Hp}{p:Addr}{o:HO}(h:H p=none):mask (F++(p::O)) (upd H p o)=mask (F++O) H:=by
 funext b
 by_cases e:b=p
 ·subst e
  rw[Dz (List.mem_append_right _ List.mem_cons_self)]
  by_cases q:b∈F++O
  ·rw[Dz q]
  ·rw[Ba q,h]
 ·by_cases q:b∈F++O
  ·rw[Dz q,Dz]
   rcases List.mem_append.mp q with q|q
   ·exact List.mem_append_left _ q
   ·exact List.mem_append_right _ (List.mem_cons_of_mem _ q)
  ·rw[Ba q,Ba,Ak e]
   intro z
   rcases List.mem_append.mp z with z|z
   ·exact q (List.mem_append_left _ z)
   ·rcases List.mem_cons.mp z with z|z
    ·exact e z
    ·exact q (List.mem_append_right _ z)
section
variable{K:W.Frag}{B:Hp}{F O:List Addr}{H:Hp}{σ:St}{ρ:BP}
theorem Rep.ab8(r:Rep K B F O H σ ρ)(i:Nat){p:Addr}{ds:List Dt}{xs:List V}(hp:H p=none)(h:RpL K (mask (F++O) H) ds xs):Rep K B F (p::O) (upd H p (.lst xs)) (σ.set i (some (.ref p))) (ρ.set i (some (.own ds))):=by
 have hl:=r.len
 have nF:p∉F:=fun z=>r.th p (List.mem_append_left _ z) hp
 have nO:p∉O:=fun z=>r.th p (List.mem_append_right _ z) hp
 have em:=AdO (F:=F) (O:=O) (o:=.lst xs) hp
 refine⟨by simpa using hl,r.base.trans (Same.upd hp),fun a h=>?_,fun a h e=>?_,fun j d q=>?_,fun j es q=>?_,fun j k es es' a h1 h2 h3 h4=>?_,fun j ks q=>?_,fun j k es es' a h1 h2 h3 h4=>?_⟩
 ·rcases List.mem_cons.mp h with rfl|h
  ·cases q:B a with
   |none=>rfl
   |some o=>rw[r.base a o q]at hp;cases hp
  ·exact r.fr a h
 ·by_cases z:a=p
  ·rw[z,Av]at e;cases e
  ·rw[Ak z]at e
   refine r.th a ?_ e
   rcases List.mem_append.mp h with h|h
   ·exact List.mem_append_left _ h
   ·exact List.mem_append_right _ ((List.mem_cons.mp h).resolve_left z)
 ·by_cases hj:j=i
  ·subst hj
   by_cases hk:j<ρ.length
   ·rw[List.getElem?_set_self hk]at q;cases q
   ·rw[List.getElem?_eq_none (by simpa using hk)]at q;cases q
  ·rw[List.getElem?_set_ne (Ne.symm hj)]at q ⊢
   rw[em];exact r.is j d q
 ·by_cases hj:j=i
  ·subst hj
   by_cases hk:j<ρ.length
   ·rw[List.getElem?_set_self hk]at q;cases q
    exact⟨p,xs,List.getElem?_set_self (by omega),List.mem_cons_self,nF,Av,by rw[em];exact h⟩
   ·rw[List.getElem?_eq_none (by simpa using hk)]at q;cases q
  ·rw[List.getElem?_set_ne (Ne.symm hj)]at q ⊢
   obtain⟨a,ys,h1,h2,h3,h4,h5⟩:=r.own j es q
   exact⟨a,ys,h1,List.mem_cons_of_mem _ h2,h3,by rw[Ak (a:=p) (fun z=>nO (by rw[←z];exact h2))];exact h4,by rw[em];exact h5⟩
 ·have other:∀(m:Nat) es,m≠i→(ρ.set i (some (.own ds)))[m]? = some (some (.own es))→(σ.set i (some (.ref p)))[m]? = some (some (.ref p))→False:=fun m es hm q1 q2=>by
   rw[List.getElem?_set_ne (Ne.symm hm)]at q1 q2
   obtain⟨b,_,e1,e2,_⟩:=r.own m es q1
   rw[e1]at q2
   cases q2
   exact nO e2
  by_cases hj:j=i
  ·by_cases hk:k=i
   ·rw[hj,hk]
   ·subst hj
    have:a=p:=by
     rw[List.getElem?_set_self (by
      have:=(List.getElem?_eq_some_iff.mp h1).1
      simp at this;omega)]at h3
     cases h3;rfl
    subst this
    exact(other k es' hk h2 h4).elim
  ·by_cases hk:k=i
   ·subst hk
    have:a=p:=by
     rw[List.getElem?_set_self (by
      have:=(List.getElem?_eq_some_iff.mp h2).1
      simp at this;omega)]at h4
     cases h4;rfl
    subst this
    exact(other j es hj h1 h3).elim
   ·rw[List.getElem?_set_ne (Ne.symm hj)]at h1 h3
    rw[List.getElem?_set_ne (Ne.symm hk)]at h2 h4
    exact r.inj j k es es' a h1 h2 h3 h4
 ·have hj:j≠i:=fun z=>by
   subst z
   by_cases hk:j<ρ.length
   ·rw[List.getElem?_set_self hk]at q;cases q
   ·rw[List.getElem?_eq_none (by simpa using hk)]at q;cases q
  rw[List.getElem?_set_ne (Ne.symm hj)]at q ⊢
  obtain⟨a,ys,h1,h2,h3,h4,h5⟩:=r.tab j ks q
  exact⟨a,ys,h1,List.mem_cons_of_mem _ h2,h3,by rw[Ak (a:=p) (fun z=>nO (by rw[←z];exact h2))];exact h4,by rw[em];exact h5⟩
 ·have back:∀(m:Nat) ks,(ρ.set i (some (.own ds)))[m]? = some (some (.tab ks))→m≠i∧ρ[m]? = some (some (.tab ks)):=fun m ks q=>by
   have hm:m≠i:=fun z=>by
    subst z
    by_cases hk:m<ρ.length
    ·rw[List.getElem?_set_self hk]at q;cases q
    ·rw[List.getElem?_eq_none (by simpa using hk)]at q;cases q
   rw[List.getElem?_set_ne (Ne.symm hm)]at q;exact⟨hm,q⟩
  obtain⟨n1,q1⟩:=back j _ h1
  obtain⟨n2,q2⟩:=back k _ h2
  rw[List.getElem?_set_ne (Ne.symm n1)]at h3
  rw[List.getElem?_set_ne (Ne.symm n2)]at h4
  exact r.uo j k es es' a q1 q2 h3 h4
theorem Rep.abn(r:Rep K B F O H σ ρ){i:Nat}{a:Addr}{ds es:List Dt}{xs ys:List V}(hi:ρ[i]? = some (some (.own ds)))(hs:σ[i]? = some (some (.ref a)))(ha:a∈O)(hH:H a=some (.lst xs))(h:RpL K (mask (F++O) H) es ys) :
  Rep K B F O (upd H a (.lst ys)) σ (ρ.set i (some (.own es))):=by
 have em:mask (F++O) (upd H a (.lst ys))=mask (F++O) H:=Ls (List.mem_append_right _ ha)
 have hk:i<ρ.length:=(List.getElem?_eq_some_iff.mp hi).1
 refine⟨by simpa using r.len,fun b o e=>?_,r.fr,fun b hb e=>?_,fun j d q=>?_,fun j ks q=>?_,fun j k es' acz b h1 h2 h3 h4=>?_,fun j ks q=>?_,fun j k es' acz b h1 h2 h3 h4=>?_⟩
 ·rw[Ak fun z=>by rw[z,r.fr a ha]at e;cases e];exact r.base b o e
 ·by_cases z:b=a
  ·rw[z,Av]at e;cases e
  ·rw[Ak z]at e;exact r.th b hb e
 ·have hj:j≠i:=fun z=>by subst z;rw[List.getElem?_set_self hk]at q;cases q
  rw[List.getElem?_set_ne (Ne.symm hj)]at q
  rw[em];exact r.is j d q
 ·by_cases hj:j=i
  ·subst hj
   rw[List.getElem?_set_self hk]at q;cases q
   obtain⟨b,_,e1,e2,e3,_⟩:=r.own j ds hi
   rw[hs]at e1;cases e1
   exact⟨a,ys,hs,ha,e3,Av,by rw[em];exact h⟩
  ·rw[List.getElem?_set_ne (Ne.symm hj)]at q
   obtain⟨b,zs,e1,e2,e3,e4,e5⟩:=r.own j ks q
   have nb:b≠a:=fun z=>by subst z;exact hj (r.inj j i ks ds b q hi e1 hs)
   exact⟨b,zs,e1,e2,e3,by rw[Ak nb];exact e4,by rw[em];exact e5⟩
 ·have back:∀(m:Nat) ks,(ρ.set i (some (.own es)))[m]? = some (some (.own ks))→∃ks',ρ[m]? = some (some (.own ks')):=fun m ks q=>by
   by_cases hm:m=i
   ·subst hm;exact⟨ds,hi⟩
   ·rw[List.getElem?_set_ne (Ne.symm hm)]at q;exact⟨ks,q⟩
  obtain⟨_,q1⟩:=back j es' h1
  obtain⟨_,q2⟩:=back k acz h2
  exact r.inj j k _ _ b q1 q2 h3 h4
 ·have hj:j≠i:=fun z=>by subst z;rw[List.getElem?_set_self hk]at q;cases q
  rw[List.getElem?_set_ne (Ne.symm hj)]at q
  obtain⟨b,zs,e1,e2,e3,e4,e5⟩:=r.tab j ks q
  have nb:b≠a:=fun z=>by rw[z,hH]at e4;cases e4
  exact⟨b,zs,e1,e2,e3,by rw[Ak nb];exact e4,by rw[em];exact e5⟩
 ·have back:∀(m:Nat) ks,(ρ.set i (some (.own es)))[m]? = some (some (.tab ks))→ρ[m]? = some (some (.tab ks)):=fun m ks q=>by
   have hm:m≠i:=fun z=>by subst z;rw[List.getElem?_set_self hk]at q;cases q
   rw[List.getElem?_set_ne (Ne.symm hm)]at q;exact q
  exact r.uo j k _ _ b (back j _ h1) (back k _ h2) h3 h4
theorem Rep.freeze(r:Rep K B F O H σ ρ){i:Nat}{ds:List Dt}(hi:ρ[i]? = some (some (.own ds))):∃O',Rep K B F O' H σ (ρ.set i (some (.is (.lst ds)))):=by
 obtain⟨a,xs,h1,h2,h3,h4,h5⟩:=r.own i ds hi
 have hk:i<ρ.length:=(List.getElem?_eq_some_iff.mp hi).1
 have sub:∀b∈F++O.filter (fun b=>decide (b≠a)),b∈F++O:=fun b hb=>by
  rcases List.mem_append.mp hb with hb|hb
  ·exact List.mem_append_left _ hb
  ·exact List.mem_append_right _ (List.mem_filter.mp hb).1
 have na:a∉F++O.filter (fun b=>decide (b≠a)):=fun z=>by
  rcases List.mem_append.mp z with z|z
  ·exact h3 z
  ·exact of_decide_eq_true (List.mem_filter.mp z).2 rfl
 refine⟨O.filter fun b=>decide (b≠a),by simpa using r.len,r.base,fun b hb=>r.fr b (List.mem_filter.mp hb).1,fun b hb=>r.th b (sub b hb),fun j d q=>?_,fun j es q=>?_,fun j k es es' b q1 q2 q3 q4=>?_,fun j ks q=>?_,fun j k es es' b q1 q2 q3 q4=>?_⟩
 ·by_cases hj:j=i
  ·subst hj
   rw[List.getElem?_set_self hk]at q;cases q
   exact⟨.ref a,h1,Jv ⟨a,xs,rfl,(by rw[Ba na];exact h4),h5.mono (Fb sub)⟩⟩
  ·rw[List.getElem?_set_ne (Ne.symm hj)]at q
   obtain⟨v,e1,e2⟩:=r.is j d q
   exact⟨v,e1,e2.mono (Fb sub)⟩
 ·have hj:j≠i:=fun z=>by subst z;rw[List.getElem?_set_self hk]at q;cases q
  rw[List.getElem?_set_ne (Ne.symm hj)]at q
  obtain⟨b,ys,e1,e2,e3,e4,e5⟩:=r.own j es q
  have nb:b≠a:=fun z=>by subst z;exact hj (r.inj j i es ds b q hi e1 h1)
  exact⟨b,ys,e1,List.mem_filter.mpr ⟨e2,decide_eq_true nb⟩,e3,e4,e5.mono (Fb sub)⟩
 ·have nj:∀(m:Nat) ks,(ρ.set i (some (.is (.lst ds))))[m]? = some (some (.own ks))→ρ[m]? = some (some (.own ks)):=fun m ks q=>by
   have hm:m≠i:=fun z=>by subst z;rw[List.getElem?_set_self hk]at q;cases q
   rw[List.getElem?_set_ne (Ne.symm hm)]at q;exact q
  exact r.inj j k es es' b (nj j es q1) (nj k es' q2) q3 q4
 ·have hj:j≠i:=fun z=>by subst z;rw[List.getElem?_set_self hk]at q;cases q
  rw[List.getElem?_set_ne (Ne.symm hj)]at q
  obtain⟨b,ys,e1,e2,e3,e4,e5⟩:=r.tab j ks q
  have nb:b≠a:=fun z=>by rw[z,h4]at e4;cases e4
  exact⟨b,ys,e1,List.mem_filter.mpr ⟨e2,decide_eq_true nb⟩,e3,e4,e5.mono (Fb sub)⟩
 ·have nj:∀(m:Nat) ks,(ρ.set i (some (.is (.lst ds))))[m]? = some (some (.tab ks))→ρ[m]? = some (some (.tab ks)):=fun m ks q=>by
   have hm:m≠i:=fun z=>by subst z;rw[List.getElem?_set_self hk]at q;cases q
   rw[List.getElem?_set_ne (Ne.symm hm)]at q;exact q
  exact r.uo j k es es' b (nj j es q1) (nj k es' q2) q3 q4
end
section
variable{X:Cx}{a b c e:Expr}{es:List Expr}{st:Stmt}{ta tb te:DTE}{tl:DTA}{t:DTS}{pos:Pos}
def Alb(i:Nat)(tl:DTA):DTS:=fun D ρ=>tl ρ fun ds=>ds.length≤sizeLine∧D.nx (ρ.set i (some (.own ds)))
theorem UG(i:Nat){x:Str}{pos' lp:Pos}(hN:X.N.Nodup)(ha:DA X es tl)(hi:X.N[i]? = some x:=by rfl)(hx:Loc X.env.scope x:=by first | exact Or.inl rfl | exact Or.inr rfl)(hs:swapsWith (.List es lp) (some (.Name x pos')) pos.line X.env=pure false:=by rfl)
  (hf:X.fn x=true∨X.env.scope.names.lookup x=some .local:=by first|exact .inl rfl|exact .inr rfl|assumption):DS X (.Assign [.Name x pos'] (.List es lp) pos) (Alb i tl) where
 mono:=fun hd h=>ha.mono (fun ds ⟨h1,h2⟩=>⟨h1,hd.nx _ h2⟩) h
 ps:=(Yc hN hi hx (Xl ha.pa) hs hf).imp fun D σ H ⟨B,F,O,ρ,R,h⟩=>⟨B,F,O,ρ,R,ha.mono (fun ds ⟨h1,h2⟩ vs H1 s1 r1=>⟨by rw[r1.len];exact h1,fun p hp=>h2 (p::O) _ _ ((R.same s1).ab8 i hp r1)⟩) h⟩
def ownAt(ρ:BP)(j:Nat)(k:List Dt→Prop):Prop:=match ρ[j]? with
 |some (some (.own ds))=>k ds
 |_=>False
theorem ownAt.mono{ρ:BP}{j:Nat}{k k':List Dt→Prop}(hk:∀ds,k ds→k' ds)(h:ownAt ρ j k):ownAt ρ j k':=by
 unfold ownAt at h ⊢
 split at h
 ·exact hk _ h
 ·exact h.elim
theorem ownAt.get{ρ:BP}{j:Nat}{k:List Dt→Prop}(h:ownAt ρ j k):∃ds,ρ[j]? = some (some (.own ds))∧k ds:=by
 unfold ownAt at h
 split at h
 ·rename_i ds e;exact⟨ds,e,h⟩
 ·exact h.elim
def Aot(j:Nat)(tb:DTE):DTE:=fun ρ Q=>ownAt ρ j fun ds=>tb ρ fun k=>match k with
 | .int i=>match ixL i ds with
  |some v=>Q v
  |none=>False
 |_=>False
def Am7(j:Nat)(te tb:DTE):DTS:=fun D ρ=>te ρ fun d=>ownAt ρ j fun ds=>tb ρ fun k=>match k with
 |.int i=>(0≤i∧i<ds.length)∧D.nx (ρ.set j (some (.own (ds.set i.toNat d))))
 |_=>False
def AhN(j:Nat)(te:DTE):DTS:=fun D ρ=>ownAt ρ j fun ds=>te ρ fun d=>ds.length<sizeLine∧D.nx (ρ.set j (some (.own (ds++[d]))))
theorem Ui(j:Nat){x:Str}{px ap cp:Pos}(he:DE X e te)(hN:X.N[j]? = some x:=by rfl)(hv:Vis X.env.scope x:=by first | exact Or.inl rfl | exact Or.inr (Or.inl rfl) | exact Or.inr (Or.inr rfl))(hd:(x==("__debug__":Str))=false:=by decide)
  (hcd:(x==("__classdict__":Str))=false:=by decide) (hbase:attributeBase (.Name x px) "append" X.env (eval (.Name x px) X.env)=eval (.Name x px) X.env:=by rfl)
  (hfew:((backTo cp (starEach [e] X.env)).all (fun x=>!x.1)&&(backToKw cp (keywordEach [] X.env)).all (fun x=>x.1.isSome)&&decide ([e].length+([]:List Keyword).length+(if([]:List Keyword).isEmpty then 0 else 1)<30))=true:=by rfl)
  (hline:(ap.endLine==cp.line)=true:=by rfl) (hst:starEach [e] X.env=(false,eval e X.env)::starEach [] X.env:=by rfl) (hplain:(backTo cp (starEach [] X.env)).any (·.1)=false:=by rfl)
  (hs:swapsWith (.Call (.Attribute (.Name x px) "append" ap) [e] [] cp) none pos.line X.env=pure false:=by rfl):DS X (.Expr (.Call (.Attribute (.Name x px) "append" ap) [e] [] cp) pos) (AhN j te) where
 mono:=fun hd h=>h.mono fun ds h=>he.mono (fun d h=>⟨h.1,hd.nx _ h.2⟩) h
 ps:=(KJ (AcC PySem.F.plainAttrs_list PySem.F.slot_list_append PySem.F.type_list_append NK (JB hN hv hd hcd) (Ei he.pe Lg hst) hbase hfew hline hst hplain) hs).imp fun D σ H ⟨B,F,O,ρ,R,h⟩=>by
  obtain⟨ds,e1,h⟩:=h.get
  obtain⟨a,xs,h1,h2,h3,h4,h5⟩:=R.own j ds e1
  refine⟨_,h1,.inl ⟨rfl,_,SqL.of h4⟩,B,F,O,ρ,R,he.mono (fun d h v H1 s1 r1=>?_) h⟩
  exact⟨a,xs,v,rfl,rfl,s1 _ _ h4,by rw[h5.len];exact h.1,h.2 O σ _ ((R.same s1).abn e1 h1 h2 (s1 _ _ h4) ((h5.mono s1.mask).append (.cons r1 .nil)))⟩
def Alw(j:Nat)(t:DTS):DTS:=fun D ρ=>ownAt ρ j fun ds=>t D (ρ.set j (some (.is (.lst ds))))
theorem Uj(j:Nat)(h:DS X st t):DS X st (Alw j t) where
 mono:=fun hd z=>z.mono fun ds z=>h.mono hd z
 ps:=h.ps.imp fun D σ H ⟨B,F,O,ρ,R,z⟩=>by
  obtain⟨ds,e1,z⟩:=z.get
  obtain⟨O',R'⟩:=R.freeze e1
  exact⟨B,F,O',_,R',z⟩
def AkZ(j:Nat):DTE:=fun ρ Q=>ownAt ρ j fun ds=>Q (.int ds.length)
def AmY:D2:=fun a b Q=>match a with
 | .tup xs=>match b with
  |.tup ys=>(xs≠[]∧xs.length+ys.length≤sizeLine)∧Q (.tup (xs++ys))
  |_=>False
 |_=>False
end
end L2
namespace L2
open PySem Spec PyProof.Rows
section ab9
variable{X:Cx}{a b c e:Expr}{ta tb tc te:TE}{pos:Pos}
theorem AbU{op op' op2:CmpOp}{r r' r2:R2}(ho:OpR X (compareOp op) r)(ho':OpR X (compareOp op') r')(ho2:OpR X (compareOp op2) r2)(ha:PE X a ta)(hb:PE X b tb)(hc:PE X c tc)(he:PE X e te)
  (hm:lastMarks [op,op',op2] [b,c,e]=false:=by with_unfolding_all rfl):PT X (.Compare a [op,op',op2] [b,c,e] pos) (fun σ H Q=>ta σ H fun x H1=>tb σ H1 fun y H2=>r x y H2 fun z H3=>∃k,z=.bl k ∧
   (if k=true then tc σ H3 fun w' H4=>r' y w' H4 fun z H5=>∃k,z=.bl k∧(if k=true then te σ H5 fun y' H6=>r2 w' y' H6 fun z H7=>∃k,z=.bl k∧Q k H7 else Q false H5)else Q false H3)):=by
 intro pins s σ H Q I h
 refine isTrue_chain (thn (ha pins s σ H _ I h) fun v s1 ⟨x,H1,I1,r1,q1⟩=>test_link (thn (hb pins s1 σ H1 _ I1 q1) fun u s2 ⟨y,H2,I2,r2,q2⟩ =>
  thn (ho pins s2 σ H2 x y v u _ I2 r1 r2 q2) fun d s3 ⟨z,H3,I3,r3,k,e,q3⟩=>?_)) hm
 subst e
 cases r3
 refine wpAny_truthy_bool ?_
 cases k with
 |false=>exact ite_ff ⟨H3,I3,q3⟩
 | true =>
  refine ite_tt (test_link (thn (hc pins s3 σ H3 _ I3 q3) fun w' s4 ⟨z',H4,I4,r4,q4⟩=>thn (ho' pins s4 σ H4 y z' u w' _ I4 r2 r4 q4) fun d' s5 ⟨z2,H5,I5,r5,k2,e2,q5⟩=>?_))
  subst e2
  cases r5
  refine wpAny_truthy_bool ?_
  cases k2 with
  |false=>exact ite_ff ⟨H5,I5,q5⟩
  | true =>
   refine ite_tt (test_last (thn (he pins s5 σ H5 _ I5 q5) fun w2 s6 ⟨z3,H6,I6,r6,q6⟩=>thn (ho2 pins s6 σ H6 z' z3 w' w2 _ I6 r4 r6 q6) fun d' s7 ⟨z4,H7,I7,r7,k3,e3,q7⟩=>?_))
   subst e3
   cases r7
   exact wpAny_truthy_bool ⟨H7,I7,q7⟩
end ab9
def ZJ(t t' t2:D2)(ta tb tc te:DTE):DTT:=fun ρ Q=>ta ρ fun a=>tb ρ fun b=>t a b fun z=>match z with
 | .bl k=>if k=true then tc ρ fun c=>t' b c fun z=>match z with
  | .bl k=>if k=true then te ρ fun e=>t2 c e fun z=>match z with
   |.bl k=>Q k
   |_=>False
   else Q false
  |_=>False
  else Q false
 |_=>False
section
variable{X:Cx}{a b c e:Expr}{ta tb tc te:DTE}{pos:Pos}
theorem Abu{op op' op2:CmpOp}{r r' r2:R2}{t t' t2:D2}(ho:OpR X (compareOp op) r)(ho':OpR X (compareOp op') r')(ho2:OpR X (compareOp op2) r2)(S:JG X.K r t)(S':JG X.K r' t')(S2:JG X.K r2 t2)(ha:DE X a ta)(hb:DE X b tb)(hc:DE X c tc)(he:DE X e te)
  (hm:lastMarks [op,op',op2] [b,c,e]=false:=by with_unfolding_all rfl):DT X (.Compare a [op,op',op2] [b,c,e] pos) (ZJ t t' t2 ta tb tc te) where
 mono:=fun hq h=>ha.mono (fun _ h=>hb.mono (fun _ h=>S.mono (fun z h=>by
  split at h
  ·rename_i k
   cases k with
   | true =>
    refine hc.mono (fun _ h=>S'.mono (fun z h=>?_) h) h
    split at h
    ·rename_i k
     cases k with
     | true =>
      refine he.mono (fun _ h=>S2.mono (fun z h=>?_) h) h
      split at h
      ·exact hq _ h
      ·exact h.elim
     |false=>exact hq _ h
    ·exact h.elim
   |false=>exact hq _ h
  ·exact h.elim) h) h) h
 pt:=(AbU ho ho' ho2 ha.pe hb.pe hc.pe he.pe hm).imp fun σ H Q ⟨B,F,O,ρ,R,h⟩=>by
  refine⟨B,F,O,ρ,R,ha.mono (fun a h v H1 s1 r1=>⟨B,F,O,ρ,R.same s1,hb.mono (fun b h u H2 s2 r2=>?_) h⟩) h⟩
  refine S.ok _ H2 a b v u _ ((R.same s1).same s2).th (r1.mono s2.mask) r2 (S.mono (fun z h w H3 s3 r3=>?_) h)
  split at h
  ·rename_i k
   refine⟨k,Dd.mp r3,?_⟩
   have vm:=(s1.trans s2).trans s3
   cases k with
   |false=>exact h H3 vm
   | true =>
    refine⟨B,F,O,ρ,R.same vm,hc.mono (fun c h y H4 s4 r4=>?_) h⟩
    refine S'.ok _ H4 b c u y _ ((R.same vm).same s4).th ((r2.mono s3.mask).mono s4.mask) r4 (S'.mono (fun z h w H5 s5 r5=>?_) h)
    split at h
    ·rename_i k
     refine⟨k,Dd.mp r5,?_⟩
     have s5':=(vm.trans s4).trans s5
     cases k with
     |false=>exact h H5 s5'
     | true =>
      refine⟨B,F,O,ρ,R.same s5',he.mono (fun e h y2 H6 s6 r6=>?_) h⟩
      refine S2.ok _ H6 c e y y2 _ ((R.same s5').same s6).th ((r4.mono s5.mask).mono s6.mask) r6 (S2.mono (fun z h w H7 s7 r7=>?_) h)
      split at h
      ·exact⟨_,Dd.mp r7,h H7 ((s5'.trans s6).trans s7)⟩
      ·exact h.elim
    ·exact h.elim
  ·exact h.elim
end
end L2
namespace L2
open PySem Spec PyProof.Rows W
end L2
namespace L2
open PySem Spec PyProof.Rows
variable{X:Cx}{a b:Expr}{ta tb:DTE}{pos:Pos}
theorem Us{K:W.Frag}{H:Hp}:∀{ns:List Int} {xs:List V},RpL K H (ns.map Dt.int) xs→xs=ns.map V.int
 | [],_,h=>by
  obtain rfl:=BL.mp h
  rfl
 | n::ns,_,h=>by
  obtain⟨v,r,rfl,r2,r3⟩:=Bc.mp h
  rw[Bp]at r2
  subst r2
  rw[Us r3]
  rfl
def dIn:D2:=fun a b Q=>∃(i:Int)(ns:List Int),a=.int i∧b=.lst (ns.map Dt.int)∧Q (.bl (decide (i∈ns)))
def AmK(i:Nat)(te:DTE):DTS:=fun D ρ=>match ρ[i]? with
 | some (some (.is (.int a)))=>te ρ fun d=>match d with
  |.int b=>D.nx (ρ.set i (some (.is (.int (a+b)))))
  |_=>False
 |_=>False
def Amf(i j k:Nat)(tl:DTA):DTS:=fun D ρ=>tl ρ fun ds=>match ds with
 | [d,e,f]=>D.nx (((ρ.set i (some (.is d))).set j (some (.is e))).set k (some (.is f)))
 |_=>False
theorem Nz{ti:DTI}{g:DTG}{tb:DTS}{D:Gd}{ρ:BP}(h:ti ρ fun items=>Ahf (fun _ R=>R items) g tb D ρ):Ahf ti g tb D ρ:=h
end L2
namespace L2
open PySem Spec PyProof.Rows SeqAt
mutual
def Dt.noL:Nat→Dt→Bool
 |_,.non=>true
 |_,.bl _=>true
 |_,.int _=>true
 |_,.str _=>true
 |0,_=>false
 |n+1,.tup ds=>Dt.vo n ds
 |_,_=>false
def Dt.vo:Nat→List Dt→Bool
 |_,[]=>true
 |n,d::ds=>Dt.noL n d&&Dt.vo n ds
end
theorem Akr{n:Nat}{d:Dt}{r:List Dt}:Dt.vo n (d::r)=(Dt.noL n d&&Dt.vo n r):=by rw[Dt.vo]
theorem Anj{n:Nat}{r:List Dt}:Dt.noL (n+1) (.tup r)=Dt.vo n r:=by rw[Dt.noL]
def Keep(M M':Hp):Prop:=∀b o,M b=some o→(∀xs,o≠.lst xs)→M' b=some o
mutual
theorem AiY{K:W.Frag}{M M':Hp}(k:Keep M M'):∀(n:Nat)(d:Dt)(v:V),d.noL n=true→Rp K M d v→Rp K M' d v
 |_,.non,_,_,r=>by rw[J5]at r ⊢;exact r
 |_,.bl _,_,_,r=>by rw[Dd]at r ⊢;exact r
 |_,.int _,_,_,r=>by rw[Bp]at r ⊢;exact r
 |_,.str _,_,_,r=>by rw[Rm]at r ⊢;exact r
 |0,.tup _,_,h,_=>by simp[Dt.noL]at h
 | n+1,.tup ds,_,h,r=>by
  rw[Anj]at h
  obtain⟨a,xs,e,q,r⟩:=Dv.mp r
  refine Dv.mpr ⟨a,xs,e,?_,ZV k n ds xs h r⟩
  rcases q with(q|⟨o,q⟩)|q
  ·exact .inl (.inl (k _ _ q fun _=>by simp))
  ·exact .inl (.inr ⟨o,k _ _ q fun _=>by simp⟩)
  ·exact .inr q
 |0,.lst _,_,h,_=>by simp[Dt.noL]at h
 |_+1,.lst _,_,h,_=>by simp[Dt.noL]at h
 |0,.fn _,_,h,_=>by simp[Dt.noL]at h
 |_+1,.fn _,_,h,_=>by simp[Dt.noL]at h
 |0,.exc _ _ _,_,h,_=>by simp[Dt.noL]at h
 |_+1,.exc _ _ _,_,h,_=>by simp[Dt.noL]at h
 |0,.obj _ _ _,_,h,_=>by simp[Dt.noL]at h
 |_+1,.obj _ _ _,_,h,_=>by simp[Dt.noL]at h
theorem ZV{K:W.Frag}{M M':Hp}(k:Keep M M'):∀(n:Nat)(ds:List Dt)(vs:List V),Dt.vo n ds=true→RpL K M ds vs→RpL K M' ds vs
 |_,[],_,_,r=>by rw[BL]at r ⊢;exact r
 | n,d::ds,_,h,r=>by
  rw[Akr,Bool.and_eq_true]at h
  obtain⟨v,w,rfl,r1,r2⟩:=Bc.mp r
  exact Bc.mpr ⟨v,w,rfl,AiY k n d v h.1 r1,ZV k n ds w h.2 r2⟩
end
theorem RpL.ab2{K:W.Frag}{H:Hp}:∀{ds:List Dt} {vs:List V} {d:Dt},RpL K H ds vs→d∈ds→∃v∈vs,Rp K H d v
 | [],_,_,_,h=>by simp at h
 | d::ds,_,e,r,h=>by
  obtain⟨v,w,rfl,r1,r2⟩:=Bc.mp r
  rcases List.mem_cons.mp h with h|h
  ·subst h;exact⟨v,List.mem_cons_self,r1⟩
  ·obtain⟨u,h1,h2⟩:=RpL.ab2 r2 h
   exact⟨u,List.mem_cons_of_mem _ h1,h2⟩
def AmF:Option HO→Bool
 |some (.lst _)=>true
 |_=>false
def lists(H:Hp)(n:Nat):List Addr:=(List.range n).filter fun a=>AmF (H a)
section
variable{X:Cx}{a b c e:Expr}{es:List Expr}{st:Stmt}{ta tb te:DTE}{tl:DTA}{tA:DTT}{t:DTS}{pos:Pos}
def AkG(i:Nat)(sp:DSp)(tl:DTA):DTS:=fun D ρ=>tl ρ fun ds=>Dt.vo 4 ds=true∧sp ds fun d=>∃ks,d=.lst ks∧(∃r,Dt.tup r∈ks)∧Dt.vo 4 ks=true∧D.nx (ρ.set i (some (.own ks)))
def Aio(j:Nat)(t:DTT):DTT:=fun ρ Q=>ownAt ρ j fun ds=>t (ρ.set j (some (.is (.lst ds)))) Q
def Ai7(j:Nat):DTE:=fun ρ Q=>ownAt ρ j fun ds=>Q (.lst ds)
end
end L2
namespace L2
open PySem Spec PyProof.Rows W Builtin Builtin.ObjectAttr
section
variable{prog:Program}{w:World}{A:Around}{E:Value→Shared→Prop}{s:Shared}{K:W.Frag}{C U x dx:Addr}{name:Str}{v:Value}
theorem Alj{Q:Unit→Shared→Prop}{vs:Array Value}{sl:Array (Option Value)}{m:Str→Option Value}{ns:List Str}(X:K.In s.heap)(c:XC K C U)(ht:takerIn K C name=some none)(hx:s.heap.get? x=some ⟨.ref C,some dx,.fields vs,sl⟩)
  (hn:s.heap.Ns1 dx m) (wi:PySem.Within m ns) (hl:ns.length≤1000)
  (h:∀h' tk',h'.Ns1 dx (fun y=>if y=name then some v else m y)→(∀b o,b≠dx→s.heap.get? b=some o→h'.get? b=some o)→Q () {s with heap:=h',toks:=tk'}) :
  wpAny (model prog w) A (setAttr (.ref x) name v) Q E s:=by
 obtain⟨oD0,es0,ep0,ho0,adE⟩:=id hn
 have I:InstAt s.heap x ⟨.ref C,some dx,.fields vs,sl⟩ C (some oD0):=⟨hx,rfl,rfl,ho0⟩
 refine set_plain X I c.sa (AdN (s:={s with toks:=s.toks+1}) X c I ht fun b=>?_)
 obtain⟨cd,hc,hm,hd⟩:=c.cls
 refine wpAny_bind (wpAny_pure (wpAny_bind ?_))
 show wpAny _ _ (instanceDict x true) _ _ _
 unfold instanceDict
 refine wpAny_bind (wpAny_loadPart hx ?_)
 dsimp only
 refine wpAny_bind ((looks_clsIn X hc).here (s:={s with toks:=s.toks+1}) ?_)
 rw[hd]
 refine wpAny_pure ?_
 show wpAny _ _ (storeInDict dx (.str name _) name v) _ _ _
 unfold storeInDict newKeyGuard
 refine wpAny_bind (wpAny_pure (wpAny_bind (wpAny_nsSet1 (s:={s with toks:=s.toks+1}) hn fun h' hn' hs=>?_)))
 obtain⟨oD,esD,epD,hoD,hdD,hcD⟩:=hn'.count (Within.cons name v wi)
 refine wpAny_bind (wpAny_lookBehind hoD (by rw[hdD];exact pastItsLine_dict (Nat.le_trans hcD (by rw[List.length_cons,sizeLine_eq];omega))) ?_)
 exact wpAny_pure (h h' _ hn' fun b o nb hb=>(hs.2 b nb).trans hb)
end
section
variable{X:Cx}{pins:List (Addr×Obj)}{σ:St}{H:Hp}{s:Shared}{h':Heap}{a dx C U f fI:Addr}
theorem Inv.acA{fs fs':List (Str×V)}{t':Nat}(I:Inv X pins σ H s)(Hd:H dx=some (.xd fs))(k:∀b u,b≠dx→s.heap.get? b=some u→h'.get? b=some u)(hd:∃u,h'.get? dx=some u)
  (n:Ej X.prog X.w (upd H dx (.xd fs')) h' dx (.xd fs')):Inv X pins σ (upd H dx (.xd fs')) {s with heap:=h',toks:=t'}:=by
 have jy:∀b u,H b=some u→b≠dx→upd H dx (.xd fs') b=some u:=fun b u e n=>by rw[Ak n];exact e
 have nt:∀b u,H b=none→s.heap.get? b=some u→b≠dx:=fun b u n _ z=>by rw[z,Hd]at n;cases n
 refine I.un ⟨fun b u e n _ _=>k b u (nt b u n e) e,fun b u e n _ _=>⟨u.slots,k b u (nt b u n e) e⟩,fun b u e n _=>?_,fun b u e _=>?_,fun b xs e=>jy b _ e fun z=>(by rw[z,Hd]at e;cases e),fun b o u e=>jy b _ e fun z=>(by rw[z,Hd]at e;cases e),fun b ps e=>⟨#[],by rw[jy b _ e fun z=>by rw[z,Hd]at e;cases e];simp⟩⟩ ?_
 ·rw[Ak (nt b u n e)];exact n
 ·by_cases z:b=dx
  ·rw[z];exact hd
  ·exact⟨u,k b u z e⟩
 ·intro b u e
  by_cases z:b=dx
  ·subst z;rw[Av]at e;cases e;exact n
  ·rw[Ak z]at e
   refine(I.hok b u e).stay (fun c v hc q=>k c v ?_ q) (fun c q=>jy c _ q fun w=>by rw[w,Hd]at q;cases q) fun c xs q=>jy c _ q fun w=>by rw[w,Hd]at q;cases q
   rcases hc with rfl|hc
   ·exact z
   ·rintro rfl;rw[Hd]at hc;cases hc
def sX2(C:Addr)(ta tv:TE)(f:Str):TS:=fun D σ H=>tv σ H fun y H1=>ta σ H1 fun x H2=>∃a dx fs,x=.ref a∧H2 a=some (.ext (exF a C dx))∧H2 dx=some (.xd fs)∧fs.length≤1000∧fs.lookup f=none∧D.nx σ (upd H2 dx (.xd (fs++[(f,y)])))
theorem Rb{f g:Str}{y:V}:∀{fs:List (Str×V)},fs.lookup f=none→(fs++[(f,y)]).lookup g=if g=f then some y else fs.lookup g
 | [],_=>by
  by_cases q:g=f
  ·rw[if_pos q];simp[List.lookup,q]
  ·rw[if_neg q];simp[List.lookup,beq_eq_false_iff_ne.mpr q]
 | (k,z)::fs,h=>by
  have nk:(f==k)=false:=by
   cases e:f==k with
   |false=>rfl
   |true=>simp[List.lookup,e]at h
  have h2:fs.lookup f=none:=by simpa [List.lookup,nk] using h
  have ih:=Rb (g:=g) (y:=y) h2
  cases e:g==k with
  | true =>
   have:¬g=f:=fun q=>by
    rw[q,nk]at e
    cases e
   rw[if_neg this]
   simp[List.lookup,e]
  | false =>
   simp only[List.cons_append,List.lookup,e]
   exact ih
theorem lookup_mem{g:Str}:∀{fs:List (Str×V)},fs.lookup g≠none→g∈fs.map (·.1)
 | [],h=>absurd rfl h
 | (k,z)::fs,h=>by
  cases e:g==k with
  |true=>rw[List.map_cons,beq_iff_eq.mp e];exact List.mem_cons_self
  | false =>
   have:fs.lookup g≠none:=by simpa [List.lookup,e] using h
   rw[List.map_cons]
   exact List.mem_cons_of_mem _ (lookup_mem this)
theorem AlL{o value:Expr}{f:Str}{pos pos':Pos}{ta tv:TE}(c:XC X.K C U)(ht:W.takerIn X.K C f=some none)(ha:PE X o ta)(hv:PE X value tv)(hs:swapsWith value (some (.Attribute o f pos')) pos.line X.env=pure false:=by rfl) :
  PS X (.Assign [.Attribute o f pos'] value pos) (sX2 C ta tv f):=by
 intro pins s σ H D I h
 refine plainObj_wpAny_Assign_Attribute (thn (hv pins s σ H _ I h) fun u s1 ⟨y,H1,I1,ry,q⟩=>thn (ha pins s1 σ H1 _ I1 q) fun ov s2 ⟨x,H2,I2,rx,a,dx,fs,ex,ea,ed,fl,fn,q2⟩=>?_) hs
 subst ex
 obtain rfl:ov=Value.ref a:=rx
 obtain⟨⟨vs,sl,hx,h1,nx⟩,_,_⟩:=I2.hok a _ ea
 obtain⟨mA,hn,hm⟩:=(show Ej X.prog X.w H2 s2.heap dx (.xd fs)from I2.hok dx _ ed)
 have wi:PySem.Within mA (fs.map (·.1)):=fun g hg=>lookup_mem fun z=>hg (by
  have:=hm g
  rw[z]at this
  cases q:mA g with
  |none=>rfl
  |some w=>rw[q]at this;exact this.elim)
 refine Alj I2.kIn c ht hx hn wi (by rw[List.length_map];exact fl) fun h' tk' x1 x2=>⟨σ,_,I2.acA (fs':=fs++[(f,y)]) (t':=tk') ed x2 (let ⟨o,_,_,e,_⟩:=x1;⟨o,e⟩) ⟨_,x1,fun g=>?_⟩,q2⟩
 rw[Rb fn]
 show Mj _ (if g=f then some u else mA g)
 by_cases q:g=f
 ·rw[if_pos q,if_pos q];exact ry
 ·rw[if_neg q,if_neg q];exact hm g
theorem Ado{H:Hp}{a dx:Addr}{o u v:HO}(n:dx≠a):upd (upd (upd H dx o) a u) dx v=upd (upd H dx v) a u:=by
 funext b
 by_cases h1:b=dx
 ·subst h1;rw[Av,Ak n,Av]
 ·by_cases h2:b=a
  ·subst h2;rw[Ak h1,Av,Av]
  ·rw[Ak h1,Ak h2,Ak h1,Ak h2,Ak h1]
end
end L2
namespace L2
open PySem Spec PyProof.Rows SeqAt
abbrev R8:=BP→(List Dt→Prop)→(Dt→Prop)→Prop
def lAX(X:Cx)(t:R8):TA:=fun σ H Q=>∃B F O ρ,Rep X.K B F O H σ ρ∧t ρ (fun ds=>∀vs H',Same H H'→RpL X.K (mask (F++O) H') ds vs→Q vs H') (fun x=>∀a H',Same H H'→Rp X.K (mask (F++O) H') x (.ref a)→Qp X σ a H')
structure DAX(X:Cx)(es:List Expr)(t:R8):Prop where
 mono:∀{ρ Q Q' E E'},(∀d,Q d→Q' d)→(∀d,E d→E' d)→t ρ Q E→t ρ Q' E'
 pa:PA X es (lAX X t)
section
variable{X:Cx}{e:Expr}{es:List Expr}{te:JC}{tl:DTA}{tx:R8}{pos:Pos}
def AcY(te:JC)(tl:DTA):R8:=fun ρ Q E=>te ρ (fun d=>tl ρ fun ds=>Q (d::ds)) E
theorem AcE(ha:DEX X e te)(hr:DA X es tl)(hs:starEach (e::es) X.env=(false,eval e X.env)::starEach es X.env:=by rfl):DAX X (e::es) (AcY te tl) where
 mono:=fun hq hx h=>ha.mono (fun d h=>hr.mono (fun ds h=>hq _ h) h) hx h
 pa:=(Ei ha.pe hr.pa hs).imp fun σ H Q ⟨B,F,O,ρ,R,q⟩=>⟨B,F,O,ρ,R,ha.mono (fun d h v H1 s1 r1=>⟨B,F,O,ρ,R.same s1,hr.mono (fun ds h vs H2 s2 r2 =>
  h (v::vs) H2 (s1.trans s2) (RpL.cons (r1.mono s2.mask) r2)) h⟩) (fun x h=>h) q⟩
def Aiy(sp:DSp)(tx:R8):JC:=fun ρ Q E=>tx ρ (fun ds=>sp ds Q) E
end
end L2
namespace L2
open PySem Spec PyProof.Rows
section
variable{prog:Program}{w:World}{A:Around}{I S:Addr}{fp wr:List Addr}{n:Nat}{P:Nat→Value→Prop}{St:Nat→Heap→Prop}{bt:Nat→Nat→Bool}{R:Result→Shared→Prop}
def M6(wr:List Addr)(S:Addr)(h h':Heap):Prop:=∀b o,b∉wr→b≠S→h.get? b=some o→h'.get? b=some o
def YL(prog:Program)(w:World)(A:Around)(wr:List Addr)(S:Addr)(h:Heap)(P:Nat→Value→Prop)(bt:Nat→Nat→Bool):Prop :=
 ∀(i j:Nat)(x y:Value)(s:Shared)(Q:Value→Shared→Prop)(E:Value→Shared→Prop),M6 wr S h s.heap→P i x→P j y→Q (.bool (bt i j)) s→wpAny (model prog w) A (richCompare .Lt x y) Q E s
theorem XF:(toString "min"++toString ".loop":String)="min.loop":=by decide
theorem Xv{h0:Heap}(W:Walks prog w A.in1 I fp wr n P St)(less:YL prog w A.in1 wr S h0 P bt)(off:S∉fp) :
  ∀(left at':Nat)(s:Shared)(best:Value)(c:Nat),n=at'+1+left→St (at'+1) s.heap→P (argBest bt at') best→M6 wr S h0 s.heap →
   s.heap.get? S=some ⟨.type "list",none,.seq #[best,best] c,#[]⟩ →
   (∀v h' tk,P (argBest bt (n-1)) v→M6 wr S s.heap h'→R (.ok (.ret v)) {s with heap:=h',toks:=tk}) →
   codeAny (model prog w) A (.builtin "min.loop" ⟨[.ref I,.none,.ref S],[]⟩) R s:=by
 have off':S∉wr:=fun z=>off (W.sub _ z)
 have nm:=XF
 intro left
 induction left with
 | zero =>
  intro at' s best c hn st hb hk hS fin
  have e:at'+1=n:=by omega
  refine codeAny_builtin F.entry_min_loop ?_;rw[Around.under_plainId F.plain_min_loop _];show wpAny _ A.in1 (seqItems? (.ref S) >>= _) _ _ s
  refine wpAny_bind (wpAny_seqItems hS rfl ?_);show wpAny _ A.in1 (tryCatch (pyNext (.ref I)) _ >>= _) _ _ s
  refine wpAny_bind (wpAny_tryCatch (W.done s _ _ (e ▸ st) fun h1 tk k1=>?_))
  show wpAny _ A.in1 (updateSeq S (fun _=>#[]) >>= _) _ _ _;refine wpAny_bind (wpAny_updateSeq (k1 S _ off' hS) rfl (wpAny_bind (wpAny_letGo (wpAny_pure ?_))))
  exact fin best _ tk (by rw[←e];exact hb) fun b o nb ns eo=>(Heap.get?_update_other _ _ (Ne.symm ns)).trans (k1 b o nb eo)
 | succ left ih =>
  intro at' s best c hn st hb hk hS fin
  refine codeAny_builtin F.entry_min_loop ?_;rw[Around.under_plainId F.plain_min_loop _];show wpAny _ A.in1 (seqItems? (.ref S) >>= _) _ _ s
  refine wpAny_bind (wpAny_seqItems hS rfl ?_);show wpAny _ A.in1 (tryCatch (pyNext (.ref I)) _ >>= _) _ _ s
  refine wpAny_bind (wpAny_tryCatch (W.item (at'+1) s _ _ (by omega) st fun v h1 tk hv st1 k1=>?_))
  have hS1:=k1 S _ off' hS
  have hk1:M6 wr S h0 h1:=fun b o nb ns eo=>k1 b o nb (hk b o nb ns eo)
  show wpAny _ A.in1 (tryCatch (holding [v,v] (richCompare .Lt v best >>= _)) _ >>= _) _ _ _
  refine wpAny_bind (wpAny_tryCatch (wpAny_holding (wpAny_bind (less (at'+1) (argBest bt at') v best _ _ _ hk1 hv hb ?_))))
  refine wpAny_bind (wpAny_holding (wpAny_truthy_bool ?_));refine wpAny_bind (wpAny_letGo (wpAny_pure ?_))
  cases hbt:bt (at'+1) (argBest bt at')with
  | true =>
   simp only[if_true]
   refine wpAny_bind (wpAny_updateSeq hS1 rfl (wpAny_bind (wpAny_letGo ?_)))
   rw[nm]
   refine wpAny_pure ⟨plainId_quiet F.plain_min_loop _,ih (at'+1) _ v _ (by omega) (W.frame _ _ _ st1 fun b hbf o eo=>(Heap.get?_update_other _ _ (fun z:S=b=>off (z ▸ hbf))).trans eo) (by simp only[argBest,hbt,if_true];exact hv) (fun b o nb ns eo=>(Heap.get?_update_other _ _ (Ne.symm ns)).trans (hk1 b o nb ns eo)) (Heap.get?_update_self _ hS1 rfl) fun v' h2 tk2 hv' k2=>?_⟩
   exact fin v' h2 tk2 hv' fun b o nb ns eo=>k2 b o nb ns ((Heap.get?_update_other _ _ (Ne.symm ns)).trans (k1 b o nb eo))
  | false =>
   simp only[Bool.false_eq_true,if_false]
   refine wpAny_bind (wpAny_letGo ?_)
   rw[nm]
   refine wpAny_pure ⟨plainId_quiet F.plain_min_loop _,ih (at'+1) _ best c (by omega) st1 (by simp only[argBest,hbt,Bool.false_eq_true,if_false];exact hb) hk1 hS1 fun v' h2 tk2 hv' k2=>?_⟩
   exact fin v' h2 tk2 hv' fun b o nb ns eo=>k2 b o nb ns (k1 b o nb eo)
theorem V9{s:Shared}{c:Nat}(W:Walks prog w A.in1 I fp wr n P St)(less:YL prog w A.in1 wr S s.heap P bt)(off:S∉fp)(n0:0<n)(st:St 0 s.heap)(hS:s.heap.get? S=some ⟨.type "list",none,.seq #[] c,#[]⟩)
  (fin:∀v h' tk,P (argBest bt (n-1)) v→M6 wr S s.heap h'→R (.ok (.ret v)) {s with heap:=h',toks:=tk}):codeAny (model prog w) A (.builtin "min.loop" ⟨[.ref I,.none,.ref S],[]⟩) R s:=by
 have off':S∉wr:=fun z=>off (W.sub _ z)
 refine codeAny_builtin F.entry_min_loop ?_;rw[Around.under_plainId F.plain_min_loop _];show wpAny _ A.in1 (seqItems? (.ref S) >>= _) _ _ s
 refine wpAny_bind (wpAny_seqItems hS rfl ?_);show wpAny _ A.in1 (tryCatch (pyNext (.ref I)) _ >>= _) _ _ s
 refine wpAny_bind (wpAny_tryCatch (W.item 0 s _ _ n0 st fun v h1 tk hv st1 k1=>?_))
 have hS1:=k1 S _ off' hS
 show wpAny _ A.in1 (updateSeq S (fun _=>#[v,v]) >>= _) _ _ _;refine wpAny_bind (wpAny_updateSeq hS1 rfl ?_);rw[XF]
 refine wpAny_pure ⟨plainId_quiet F.plain_min_loop _,Xv (h0:=s.heap) W less off (n-1) 0 _ v _ (by omega) (W.frame _ _ _ st1 fun b hbf o eo=>(Heap.get?_update_other _ _ (fun z:S=b=>off (z ▸ hbf))).trans eo) hv (fun b o nb ns eo=>(Heap.get?_update_other _ _ (Ne.symm ns)).trans (k1 b o nb eo)) (Heap.get?_update_self _ hS1 rfl) fun v' h2 tk2 hv' k2=>?_⟩
 exact fin v' h2 tk2 hv' fun b o nb ns eo=>k2 b o nb ns ((Heap.get?_update_other _ _ (Ne.symm ns)).trans (k1 b o nb eo))
theorem VH{E:Value→Shared→Prop}{s:Shared}{x:Value}{Q:Value→Shared→Prop}
  (h:wpAny (model prog w) A.in1 (pyIter x) (fun it s2=>∃I fp wr n P St bt,it=.ref I∧Walks prog w A.in1 I fp wr n P St∧St 0 s2.heap∧(∀b∈fp,b<s2.heap.objs.size)∧0<n ∧
   (∀h1:Heap,(∀b o,s2.heap.get? b=some o→h1.get? b=some o)→YL prog w A.in1 wr s2.heap.objs.size h1 P bt) ∧
   ∀v h' tk,P (argBest bt (n-1)) v→(∀b o,b∉wr→s2.heap.get? b=some o→h'.get? b=some o)→Q v {s2 with heap:=h',toks:=tk}) E s) :
  wpAny (model prog w) A (call (.builtin "min") [x]) Q E s:=by
 refine call_function_tree F.kind_min F.plain_min F.entry_min (F.args_min1 _) ?_;show wpAny _ A.in1 (Builtin.Builtins.bindParams "min" ["key","default"] 0 ⟨[],[]⟩ >>= _) _ _ s
 refine wpAny_bind (wpAny_of_eq (show Builtin.Builtins.bindParams "min" ["key","default"] 0 ⟨[],[]⟩=pure [none,none]from rfl) ?_);refine wpAny_bind (wpAny_pure ?_)
 refine wpAny_bind (wpAny_mono h (fun it s2 h2=>?_) fun _ _ z=>z);obtain⟨I,fp,wr,n,P,St,bt,rfl,W,st,low,n0,less,fin⟩:=h2
 refine wpAny_bind (wpAny_newObj_type ?_);rw[XF]
 have off:s2.heap.objs.size∉fp:=fun z=>Nat.lt_irrefl _ (low _ z)
 refine wpAny_pure ⟨plainId_quiet F.plain_min_loop _,V9 W (less _ fun b o e=>Heap.get?_push_of_some _ e) off n0 (W.frame _ _ _ st fun b _ o e=>Heap.get?_push_of_some _ e) (Heap.get?_push_size _ rfl) fun v h' tk hv k=>?_⟩
 exact fin v h' tk hv fun b o nb e=>k b o nb (Nat.ne_of_lt (Heap.lt_size e)) (Heap.get?_push_of_some _ e)
end
variable{X:Cx}
theorem Vals.at{xs:List V}{us:List Value}(r:Vals xs us):∀(i:Nat)(u:Value),us[i]? = some u→∃x,xs[i]? = some x∧RelV x u:=by
 induction r with
 |nil=>intro i u h;cases h
 | cons h t ih =>
  intro i u e
  cases i with
  |zero=>exact⟨_,rfl,by cases e;exact h⟩
  |succ i=>exact ih i u e
theorem RpL.at'{K:W.Frag}{H:Hp}:∀{ds:List Dt} {vs:List V} (i:Nat) (v:V),RpL K H ds vs→vs[i]? = some v→∃d,ds[i]? = some d∧Rp K H d v
 | [],vs,i,v,h,e=>by
  obtain rfl:=BL.mp h
  cases e
 | d::ds,vs,i,v,h,e=>by
  obtain⟨v',r,rfl,r2,r3⟩:=Bc.mp h
  cases i with
  |zero=>exact⟨d,rfl,by cases e;exact r2⟩
  |succ i=>exact RpL.at' i v r3 e
theorem RpL.len'{K:W.Frag}{H:Hp}:∀{ds:List Dt} {vs:List V},RpL K H ds vs→vs.length=ds.length
 | [],vs,h=>by
  obtain rfl:=BL.mp h
  rfl
 | d::ds,vs,h=>by
  obtain⟨v',r,rfl,r2,r3⟩:=Bc.mp h
  rw[List.length_cons,List.length_cons,RpL.len' r3]
abbrev Cy(ns:List Int):Dt:=.tup (ns.map Dt.int)
end L2
namespace L2
open PySem Spec PyProof.Rows
variable{X:Cx}
theorem AcK{h:Heap}{a:Addr}{i1 i2:Array Value}(t1:IsTup h a i1)(t2:IsTup h a i2):i1=i2:=by
 obtain⟨o,e1,_,n1,d1⟩:=t1
 obtain⟨o',e2,_,n2,d2⟩:=t2
 rw[e1]at e2
 cases e2
 rw[d1]at d2
 cases d2
 rfl
def Agi(K:W.Frag):V→List V→Hp→VK→Prop:=fun x ys H Q=>∃p vs,∃nss:Nat→List Int,∃b ns j,x=.ref p∧ys=[.ref b]∧SqL K H p vs∧SqT K H b (List.map V.int ns)∧(∀(i:Nat)(v:V),vs[i]? = some v→∃a,v=.ref a∧SqT K H a ((nss i).map V.int)) ∧
 j<vs.length∧nss j=ns∧(∀m,m<j→nss m≠ns)∧Q (.int (j:Nat)) H
theorem Acq{K:W.Frag}{H:Hp}{a:Addr}{ns:List Int}(h:SqT K H a (ns.map V.int)):Rp K H (Cy ns) (.ref a):=Dv.mpr ⟨a,_,rfl,h,RpL.ints ns⟩
theorem Ut:∀(ns ms:List Int),Dt.eqs (ns.map Dt.int) (ms.map Dt.int)=decide (ns=ms)
 | [],[]=>by simp[Dt.eqs]
 | [],m::ms=>by simp[Dt.eqs]
 |n::ns,[]=>by simp[Dt.eqs]
 | n::ns,m::ms=>by
  rw[List.map_cons,List.map_cons,Dt.eqs,Ut ns ms,Ot,←Bool.decide_and]
  exact decide_eq_decide.mpr (by simp)
theorem Rk:∀(ns:List Int),Dt.flats 7 (ns.map Dt.int)=true
 | []=>rfl
 |n::ns=>by rw[List.map_cons,Dt.flats,Rk ns];rfl
theorem AbC(hu:X.A.units+64<cLine)(hu1:X.A.in1.units+8<cLine):MtR X "list.index" (Agi X.K):=by
 classical
 intro pins s σ H x ys v us Q I rx ry h
 obtain⟨p,vs,nss,b,ns,j,rfl,rfl,hl,hb,each,jl,ej,before,q⟩:=h
 cases rx
 obtain⟨u,rfl,r1⟩:=vals1 ry
 cases r1
 obtain⟨its,rv,pl,hz⟩:=I.list hl
 have hlen:its.length=vs.length:=rv.length.symm
 have fl:∀ns:List Int,(Cy ns).flat 8=true:=fun ns=>Rk ns
 have yZ:∀(i:Nat)(y:Value),its[i]? = some y→∃a,y=.ref a∧SqT X.K H a ((nss i).map V.int):=fun i y e=>by
  obtain⟨v,e1,r2⟩:=Vals.at rv i y e
  obtain⟨a,rfl,ht⟩:=each i v e1
  cases r2
  exact⟨a,rfl,ht⟩
 have uniq:∀(i i':Nat)(y:Value),its[i]? = some y→its[i']? = some y→nss i=nss i':=fun i i' y e e'=>by
  obtain⟨a,rfl,h1⟩:=yZ i y e
  obtain⟨a',ea,h2⟩:=yZ i' _ e'
  cases ea
  obtain⟨i1,v1,t1,_⟩:=I.tuple h1
  obtain⟨i2,v2,t2,_⟩:=I.tuple h2
  have es:=AcK t1 t2
  have n1:IntsAre i1.toArray.toList (nss i):=intsAre_of v1
  have n2:IntsAre i2.toArray.toList (nss i'):=intsAre_of v2
  rw[←es]at n2
  rw[←n1.numsOf,←n2.numsOf]
 obtain⟨o,n,eo,ec,ed,dd⟩:=pl
 obtain⟨cl,di,da,sl⟩:=o
 dsimp only at ec ed dd
 subst ec ed dd
 have jl':j<its.toArray.size:=by rw[List.size_toArray];omega
 have at':∀(i:Nat)(hi:i<its.toArray.size),its[i]? = some its.toArray[i]:=fun i hi=>by
  rw[List.getElem_toArray]
  exact List.getElem?_eq_getElem _
 refine call_meets F.slot_list_index ⟨_,eo,rfl⟩ F.entry_list_index (F.args_list_index_2 _ _) (SeqAt.list_indexAt p its.toArray n none sl (.ref b) (fun y=>decide (∃i,its[i]? = some y∧nss i=ns)) j jl' ?_ ?_ ?_) ⟨eo,?_,?_⟩
 ·have:sizeLine<2 ^ 63-1:=by unfold sizeLine;decide
  omega
 ·exact decide_eq_true ⟨j,at' j jl',ej⟩
 ·intro m hm lt
  refine decide_eq_false ?_
  rintro⟨i,e1,e2⟩
  exact before m lt ((uniq m i _ (at' m hm) e1).trans e2)
 ·intro y hy
  obtain⟨i,hi,e⟩:=List.getElem_of_mem (show y∈its by simpa using hy)
  have e1:its[i]? = some y:=by rw[←e];exact List.getElem?_eq_getElem hi
  obtain⟨a,rfl,ht⟩:=yZ i y e1
  obtain⟨ca,da⟩:=Gb _ 8 (fl (nss i))
  obtain⟨cb,db⟩:=Gb _ 8 (fl ns)
  obtain⟨as,q1⟩:=HN I ca (Acq ht) (rfl:RelV (.ref a) (.ref a))
  obtain⟨bs,q2⟩:=HN I cb (Acq hb) (rfl:RelV (.ref b) (.ref b))
  have:=SeqAt.eqAt_reads _ _ X.A.in1 s _ _ as bs q1 q2 ca cb (by omega)
  rw[Rq _ _ ca cb]at this
  have ee:(Cy (nss i)).eq (Cy ns)=decide (∃i,its[i]? = some (Value.ref a)∧nss i=ns):=by
   show Dt.eqs _ _=_
   rw[Ut]
   refine decide_eq_decide.mpr ⟨fun z=>⟨i,e1,z⟩,?_⟩
   rintro⟨i',e2,e3⟩
   exact(uniq i i' _ e1 e2).trans e3
  rw[ee]at this
  exact this
 ·exact⟨.int _,H,I.tok _,⟨_,rfl⟩,q⟩
theorem Z9{K:W.Frag}{H:Hp}{nss:List (List Int)}{vs:List V}(h:RpL K H (nss.map Cy) vs):vs.length=nss.length∧∀(i:Nat)(v:V),vs[i]? = some v→∃a,v=.ref a∧SqT K H a ((nss.getD i []).map V.int):=by
 refine⟨by rw[RpL.len' h,List.length_map],fun i v e=>?_⟩
 obtain⟨d,e1,r⟩:=RpL.at' i v h e
 rw[List.getElem?_map]at e1
 cases q:nss[i]? with
 |none=>rw[q]at e1;cases e1
 | some ns =>
  rw[q]at e1
  cases e1
  have:nss.getD i []=ns:=by simp[List.getD,q]
  rw[this]
  obtain⟨a,ys,rfl,ht,hy⟩:=Dv.mp r
  obtain rfl:=Us hy
  exact⟨a,rfl,ht⟩
theorem AmU{A:Around}(h:A.units+64<cLine):A.in1.units+8<cLine:=by show A.units+1+8<cLine;omega
end L2
namespace L2
open PySem Spec PyProof.Rows SeqAt
section
variable{X:Cx}{a b c e o:Expr}{es:List Expr}{ta tb te:DTE}{tl:DTA}{pos apos:Pos}
def AhV(K:W.Frag)(te:DTE)(f:Str):DTE:=fun ρ Q=>te ρ fun d=>match d with
 |.obj c ns ds=>HD K c f∧∃v,(ns.zip ds).lookup f=some v∧Q v
 |_=>False
theorem Pn{f:Str}(h:DE X e te)(hb:attributeBase e f X.env (eval e X.env)=eval e X.env:=by rfl):DE X (.Attribute e f pos) (AhV X.K te f) where
 mono:=fun hq z=>h.mono (fun d z=>by
  split at z
  ·exact let ⟨a,v,b,c⟩:=z;⟨a,v,b,hq _ c⟩
  ·exact z.elim) z
 pe:=(AjD h.pe hb).imp fun σ H Q ⟨B,F,O,ρ,R,z⟩=>⟨B,F,O,ρ,R,h.mono (fun d z v H1 s1 r1=>by
  split at z
  ·obtain⟨na,y,ly,q⟩:=z
   obtain⟨a,C,dx,vs,rfl,h1,cl,h2,_,h5⟩:=N6.mp r1
   obtain⟨v,lv,rv⟩:=zip_get h5 ly
   exact⟨a,C,dx,_,v,rfl,Bk _ _ h2,cl,na C h1,lv,q v H1 s1 rv⟩
  ·exact z.elim) z⟩
structure IsC(K:W.Frag)(c:Str):Prop where
 ha:∀C,W.nsIn K mainGlobals c=some (some (.ref C))→W.findIn K (.ref C) "__class__"=some (some (.builtin "object.__class__"))
 hn:W.specialIn K (.builtin "object.__class__") "__get__"=some (some (.builtin "getset_descriptor.__get__"))
 ht:W.takesIn K (.builtin "object.__class__")=some true
 hm:∀C,W.nsIn K mainGlobals c=some (some (.ref C))→W.mroIn K C (.type "object")=some true
def Ao8(K:W.Frag):DL:=fun ds Q=>match ds with
 | [.obj c _ _,.fn A]=>∃v,IsC K c∧Bg K c A v∧Q (.bl v)
 |_=>False
def Z0(K:W.Frag)(c m:Str)(g:Addr):Prop:=∀C,W.nsIn K mainGlobals c=some (some (.ref C))→Meth K C m g
def Yx(K:W.Frag)(m:Str)(g:Addr)(sp:Sp)(ta:TE)(t:TA):TE:=fun σ H Q=>ta σ H fun x H1=>∃a C dx fs,x=.ref a∧H1 a=some (.ins C dx fs)∧Cls K C∧Meth K C m g∧fs.lookup m=none∧t σ H1 fun vs H2=>sp (x::vs) H2 Q E0
theorem AkM{pl:Sem Bool}{k:Nat}{m:Str}{g:Addr}{fd:FuncData}{ps:List Str}{sp:Sp}{ta:TE}(he:PE X o ta)(F:Ef X.prog X.w X.K X.mg X.base CX0 k g fd ps sp)(hr:CK k X.A)(hb:Binds X.K fd ps [])
  (ht:eval (.Call (.Attribute o m apos) [] [] pos) X.env=(do
   let ov ←eval o X.env
   standAt apos.atName
   let (f,first) ←holding [ov] (getMethod ov m pl)
   callWith pos f first (backTo pos (starEach [] X.env)) (backToKw pos (keywordEach [] X.env))):=by rfl) :
  PE X (.Call (.Attribute o m apos) [] [] pos) (Yx X.K m g sp ta AnC):=by
 intro pins s σ H Q I h
 refine W.methodCall_KW (pl:=pl) (thn (he pins s σ H _ I h) fun u s1 ⟨x,H1,I1,rx,a,C,dx,fs,ex,ea,c,hm,l,q⟩=>?_) ht
 subst ex
 obtain rfl:u=Value.ref a:=rx
 refine Ro I1 ea c hm l ?_
 exact W.callWith_K0 (first:=[.ref a]) I1.kIn hm.kp (Vi (us:=[.ref a]) (vs:=[.ref a]) F hr hb .nil WY I1 (.cons rfl .nil) q)
theorem AeO{pl:Sem Bool}{k:Nat}{m:Str}{g:Addr}{fd:FuncData}{ps:List Str}{sp:Sp}{ta:TE}{t:TA}(he:PE X o ta)(F:Ef X.prog X.w X.K X.mg X.base CX0 k g fd ps sp)(hr:CK k X.A)(hb:Binds X.K fd ps [])(ha:PA X (e::es) t)
  (kp:W.keepIn X.K (.ref g)=true) (hst:starEach (e::es) X.env=(false,eval e X.env)::starEach es X.env:=by rfl) (hpl:(backTo pos (starEach es X.env)).any (·.1)=false:=by rfl)
  (ht:eval (.Call (.Attribute o m apos) (e::es) [] pos) X.env=(do
   let ov ←eval o X.env
   standAt apos.atName
   let (f,first) ←holding [ov] (getMethod ov m pl)
   callWith pos f first (backTo pos (starEach (e::es) X.env)) (backToKw pos (keywordEach [] X.env))):=by rfl) :
  PE X (.Call (.Attribute o m apos) (e::es) [] pos) (Yx X.K m g sp ta t):=by
 intro pins s σ H Q I h
 refine W.methodCall_KW (pl:=pl) (thn (he pins s σ H _ I h) fun u s1 ⟨x,H1,I1,rx,a,C,dx,fs,ex,ea,c,hm,l,q⟩=>?_) ht
 subst ex
 obtain rfl:u=Value.ref a:=rx
 refine Ro I1 ea c hm l ?_
 refine W.callWith_K (first:=[.ref a]) (h₀:=X.base) I.ok.mod.kin hm.kp (thn (ha pos pins s1 σ H1 _ I1 q) fun us s2 ⟨vs,H2,I2,r,q2⟩=>⟨I2.kIn,?_⟩) hst hpl
 exact Vi (us:=.ref a::us) (vs:=.ref a::vs) F hr hb .nil WY I2 (.cons rfl r) (by simpa using q2)
def RJ(K:W.Frag)(m:Str)(g:Addr)(sp:DSp)(te:DTE)(tl:DTA):DTE:=fun ρ Q=>te ρ fun d=>match d with
 |.obj c ns ds=>Z0 K c m g∧m∉ns∧tl ρ fun es=>sp (.obj c ns ds::es) Q
 |_=>False
theorem Wu{f:Str}:∀{ns:List Str} {vs:List V},f∉ns→(ns.zip vs).lookup f=none
 | [],_,_=>by simp
 |_::_,[],_=>by simp
 | n::ns,v::vs,h=>by
  have hb:(f==n)=false:=beq_eq_false_iff_ne.mpr fun e=>h (by rw[e];exact List.mem_cons_self)
  rw[List.zip_cons_cons]
  simp only[List.lookup,hb]
  exact Wu fun z=>h (List.mem_cons_of_mem _ z)
theorem Adj{m:Str}{g:Addr}{sp:DSp}(M:Ja sp)(h:DE X o te)(ha:DA X es tl)(σ:St)(H:Hp)(Q:VK)(z:lE X.K (RJ X.K m g sp te tl) σ H Q):Yx X.K m g (lSp X.K sp) (lE X.K te) (lA X.K tl) σ H Q:=by
 obtain⟨B,F,O,ρ,R,z⟩:=z
 refine⟨B,F,O,ρ,R,h.mono (fun d z v H1 s1 r1=>?_) z⟩
 split at z
 ·obtain⟨mo,nm,z⟩:=z
  obtain⟨a,C,dx,vs,e0,h1,cl,h2,_,h5⟩:=N6.mp r1
  subst e0
  refine⟨a,C,dx,_,rfl,Bk _ _ h2,cl,mo C h1,Wu nm,B,F,O,ρ,R.same s1,ha.mono (fun es z ws H2 s2 r2=>?_) z⟩
  exact⟨F++O,_,((R.same s1).same s2).th,RpL.cons (r1.mono s2.mask) r2,M _ _ _ (fun d q w H3 s3 r3=>q w H3 ((s1.trans s2).trans s3) r3) z⟩
 ·exact z.elim
theorem Ab4{m:Str}{g:Addr}{sp:DSp}(M:Ja sp)(h:DE X o te)(ha:DA X es tl){ρ:BP}{Q Q':Dt→Prop}(hq:∀d,Q d→Q' d)(z:RJ X.K m g sp te tl ρ Q):RJ X.K m g sp te tl ρ Q':=h.mono (fun d z=>by
 split at z
 ·exact⟨z.1,z.2.1,ha.mono (fun es z=>M _ _ _ hq z) z.2.2⟩
 ·exact z.elim) z
theorem Agq{pl:Sem Bool}{k:Nat}{m:Str}{g:Addr}{fd:FuncData}{ps:List Str}{sp:DSp}(M:Ja sp)(F:Ef X.prog X.w X.K X.mg X.base CX0 k g fd ps (lSp X.K sp))(hb:Binds X.K fd ps [])(kp:W.keepIn X.K (.ref g)=true)(hr:CK k X.A)(h:DE X o te)(ha:DA X (e::es) tl)
  (hst:starEach (e::es) X.env=(false,eval e X.env)::starEach es X.env:=by rfl) (hpl:(backTo pos (starEach es X.env)).any (·.1)=false:=by rfl)
  (ht:eval (.Call (.Attribute o m apos) (e::es) [] pos) X.env=(do
   let ov ←eval o X.env
   standAt apos.atName
   let (f,first) ←holding [ov] (getMethod ov m pl)
   callWith pos f first (backTo pos (starEach (e::es) X.env)) (backToKw pos (keywordEach [] X.env))):=by rfl):DE X (.Call (.Attribute o m apos) (e::es) [] pos) (RJ X.K m g sp te tl) where
 mono:=Ab4 (X:=X) M h ha
 pe:=(AeO h.pe F hr hb ha.pa kp hst hpl ht).imp fun σ H Q z=>Adj M h ha σ H Q z
abbrev DIn:=List Dt→(List Dt→Prop)→Prop
def Xe(K:W.Frag)(ns:List Str)(sp:DIn):Sp:=fun vs H Q _=>∃x C dx ys F ds,vs=.ref x::ys∧H x=some (.ins C dx [])∧Cls K C∧(∀f∈ns,GQ K C f)∧x∈F∧(∀a∈F,H a≠none)∧RpL K (mask F H) ds ys ∧
 sp ds fun fds=>∀ws H',Same (mask [x] H) H'→H' x=some (.ins C dx (ns.zip ws))→ns.length=fds.length→RpL K (mask F H') fds ws→Q .non H'
def PX(sp:DIn):Prop:=∀ds Q Q',(∀d,Q d→Q' d)→sp ds Q→sp ds Q'
structure MkC(K:W.Frag)(mg:Str→Option Value)(c:Str)(ns:List Str)(C f:Addr):Prop where
 mm:Mk K C f
 at_:W.nsIn K mainGlobals c=some (some (.ref C))
 gl:mg c=some (.ref C)
 cl:Cls K C
 no:∀f∈ns,GQ K C f
def AeF(c:Str)(ns:List Str)(sp:DIn)(tl:DTA):DTE:=fun ρ Q=>tl ρ fun ds=>sp ds fun fds=>Q (.obj c ns fds)
theorem AfJ{k:Nat}{c:Str}{ns ps:List Str}{C f:Addr}{fd:FuncData}{sp:DIn}{p:Pos}(m:PX sp)(M:MkC X.K X.mg c ns C f)(G:Ef X.prog X.w X.K X.mg X.base CX0 k f fd ps (Xe X.K ns sp))(hb:Binds X.K fd ps [])(hr:CK (k+1) X.A)(hg:Gl X c)(ha:DA X (e::es) tl)
  (hdb:(c==("__debug__":Str))=false:=by decide) (he:starEach (e::es) X.env=(false,eval e X.env)::starEach es X.env:=by rfl) (hpl:(backTo pos (starEach es X.env)).any (·.1)=false:=by rfl):DE X (.Call (.Name c p) (e::es) [] pos) (AeF c ns sp tl) where
 mono:=fun hq z=>ha.mono (fun ds z=>m _ _ _ (fun fds q=>hq _ q) z) z
 pe:=(AfT M.mm G hr hg M.gl hb .nil WY ha.pa hdb he hpl).imp fun σ H Q ⟨B,F,O,ρ,R,z⟩=>⟨B,F,O,ρ,R,ha.mono (fun ds z vs H1 s1 r1 x dx nx ndx ne=>by
  have R1:=R.same s1
  have ox:x∉F++O:=fun w=>R1.th x w nx
  have s2:Same H1 (upd (upd H1 dx (.own x)) x (.ins C dx [])):=fun b o q=>by rw[Ak (Bb q nx),Ak (Bb q ndx)];exact q
  refine⟨x,C,dx,vs,x::(F++O),ds,by rw[List.append_nil],Av,M.cl,M.no,List.mem_cons_self,fun b hb'=>?_,?_,m _ _ _ (fun fds q ws H' s' h1 h2 h3=>⟨rfl,?_⟩) z⟩
  ·rcases List.mem_cons.mp hb' with e|w
   ·rw[e,Av];simp
   ·intro q
    cases e:H1 b with
    |none=>exact R1.th b w e
    |some u=>rw[s2 _ _ e]at q;cases q
  ·refine r1.mono fun b o q=>?_
   obtain⟨n1,q⟩:=Cg q
   rw[Ba fun w=>(List.mem_cons.mp w).elim (fun e=>by rw[e,nx]at q;cases q) n1]
   exact s2 _ _ q
  ·have s3:Same H1 H':=fun b o q=>s' b o (by rw[Ba fun w=>by rw[List.mem_singleton.mp w,nx]at q;cases q];exact s2 _ _ q)
   refine q (.ref x) H' (s1.trans s3) (N6.mpr ⟨x,C,dx,ws,rfl,M.at_,M.cl,by rw[Ba ox];exact h1,h2,h3.mono (Fb fun b hb'=>List.mem_cons_of_mem _ hb')⟩)) z⟩
end
end L2
namespace L2
open PySem Spec PyProof.Rows SeqAt
section
variable{K:W.Frag}{B:Hp}{F O:List Addr}{H:Hp}{σ:St}{ρ:BP}{x:Addr}
theorem Rep.acd(r:Rep K B F O H σ ρ)(hx:x∈F)(hB:B x=none)(o:HO):Rep K B F O (upd H x o) σ ρ:=by
 have em:mask (F++O) (upd H x o)=mask (F++O) H:=Ls (List.mem_append_left _ hx)
 refine⟨r.len,fun b u e=>?_,r.fr,fun b hb e=>?_,fun j d q=>?_,fun j ks q=>?_,r.inj,fun j ks q=>?_,r.uo⟩
 ·rw[Ak fun z=>by rw[z,hB]at e;cases e];exact r.base b u e
 ·by_cases z:b=x
  ·rw[z,Av]at e;cases e
  ·rw[Ak z]at e;exact r.th b hb e
 ·rw[em];exact r.is j d q
 ·obtain⟨b,zs,e1,e2,e3,e4,e5⟩:=r.own j ks q
  exact⟨b,zs,e1,e2,e3,by rw[Ak fun z=>e3 (by rw[z];exact hx)];exact e4,by rw[em];exact e5⟩
 ·obtain⟨b,zs,e1,e2,e3,e4,e5⟩:=r.tab j ks q
  exact⟨b,zs,e1,e2,e3,by rw[Ak fun z=>e3 (by rw[z];exact hx)];exact e4,by rw[em];exact e5⟩
def JF(N:List Str)(ds:List Dt):BP:=none::(ds.map (fun d=>some (.is d))++List.replicate (N.length-(ds.length+1)) none)
theorem Lq{N:List Str}{ds:List Dt}{ys:List V}(hx:x∈F)(hF:∀a∈F,H a≠none)(r:RpL K (mask F H) ds ys):Rep K (mask [x] H) F [] H (start N (.ref x::ys)) (JF N ds):=by
 have hl:=r.len
 have get:∀(i:Nat)(e:En),(JF N ds)[i]? = some (some e)→∃j d,i=j+1∧ds[j]? = some d∧e=.is d:=fun i e q=>by
  cases i with
  |zero=>cases q
  | succ j =>
   have q:(ds.map (fun d=>some (En.is d))++List.replicate (N.length-(ds.length+1)) none)[j]? = some (some e):=q
   by_cases hi:j<ds.length
   ·rw[List.getElem?_append_left (by simpa using hi),List.getElem?_map]at q
    cases w:ds[j]? with
    |none=>rw[w]at q;cases q
    |some d=>rw[w]at q;cases q;exact⟨j,d,rfl,w,rfl⟩
   ·rw[List.getElem?_append_right (by simpa using hi),List.getElem?_replicate]at q
    split at q<;>cases q
 refine⟨?_,Bk,fun a h=>(nomatch h),fun a h=>hF a (by simpa using h),fun i d e=>?_,fun i es e=>?_,fun i j es es' a h1=>?_,fun i es e=>?_,fun i j es es' a h1=>?_⟩
 ·unfold start JF;simp[hl]
 ·obtain⟨j,d',rfl,e1,e2⟩:=get i _ e
  cases e2
  obtain⟨v,w1,w2⟩:=r.get e1
  have hj:j<ys.length:=by rw[hl];exact(List.getElem?_eq_some_iff.mp e1).1
  refine⟨v,?_,by rw[List.append_nil];exact w2⟩
  unfold start
  rw[List.getElem?_append_left (by simp;omega),List.getElem?_map,List.getElem?_cons_succ,w1];rfl
 ·obtain⟨_,_,_,_,z⟩:=get i _ e;cases z
 ·obtain⟨_,_,_,_,z⟩:=get i _ h1;cases z
 ·obtain⟨_,_,_,_,z⟩:=get i _ e;cases z
 ·obtain⟨_,_,_,_,z⟩:=get i _ h1;cases z
end
section
variable{X:Cx}{e e1 e2 e3:Expr}{es:List Expr}{te1 te2 te3:DTE}{tl:DTA}{pos apos:Pos}
def Ams(K:W.Frag)(f1 f2 f3:Str)(te1 te2 te3:DTE):TS:=fun D σ H=>∃B F ρ x C dx,∃S:List Dt→Prop,Rep K B F [] H σ ρ∧x∈F∧B x=none∧σ[0]? = some (some (.ref x))∧H x=some (.ins C dx [])∧Cls K C∧(∀f∈[f1,f2,f3],GQ K C f) ∧
 (te1 ρ fun d1=>te2 ρ fun d2=>te3 ρ fun d3=>S [d1,d2,d3])∧∀fds,S fds→∀ws H',Same B H'→H' x=some (.ins C dx ([f1,f2,f3].zip ws))→[f1,f2,f3].length=fds.length→RpL K (mask F H') fds ws→D.nx σ H'
theorem AdF{f1 f2 f3:Str}{y:Str}{q1 q2 q3 p1 p2 p3 s1 s2 s3:Pos}(h1:DE X e1 te1)(h2:DE X e2 te2)(h3:DE X e3 te3)(n12:f1≠f2)(n13:f1≠f3)(n23:f2≠f3)(hN:X.N[0]? = some y:=by rfl)(hv:Vis X.env.scope y:=by first | exact Or.inl rfl | exact Or.inr (Or.inl rfl) | exact Or.inr (Or.inr rfl))
  (hd:(y==("__debug__":Str))=false:=by decide) (hcd:(y==("__classdict__":Str))=false:=by decide)
  (w1:swapsWith e1 (some (.Attribute (.Name y q1) f1 p1)) s1.line X.env=pure false:=by rfl) (w2:swapsWith e2 (some (.Attribute (.Name y q2) f2 p2)) s2.line X.env=pure false:=by rfl) (w3:swapsWith e3 (some (.Attribute (.Name y q3) f3 p3)) s3.line X.env=pure false:=by rfl) :
  PSs X [.Assign [.Attribute (.Name y q1) f1 p1] e1 s1,.Assign [.Attribute (.Name y q2) f2 p2] e2 s2,.Assign [.Attribute (.Name y q3) f3 p3] e3 s3] (Ams X.K f1 f2 f3 te1 te2 te3) :=
 (J4 (X7 (JB hN hv hd hcd) h1.pe w1) (J4 (X7 (JB hN hv hd hcd) h2.pe w2) (Ih (X7 (JB hN hv hd hcd) h3.pe w3)))).imp fun D σ H ⟨B,F,ρ,x,C,dx,S,R,xF,Bx,σ0,Hx,cl,no,z,fin⟩=>by
  have em:∀(H:Hp)(o:HO),mask (F++[]) (upd H x o)=mask (F++[]) H:=fun H o=>Ls (List.mem_append_left _ xF)
  refine⟨B,F,[],ρ,R,h1.mono (fun d1 z y1 H1 t1 r1=>?_) z⟩
  refine⟨.ref x,σ0,x,C,dx,[],rfl,t1 _ _ Hx,cl,no f1 (by simp),by decide,?_⟩
  have R1:=(R.same t1).acd xF Bx (.ins C dx (HX f1 y1 []))
  refine⟨B,F,[],ρ,R1,h2.mono (fun d2 z y2 H2 t2 r2=>?_) z⟩
  refine⟨.ref x,σ0,x,C,dx,[(f1,y1)],rfl,t2 _ _ Av,cl,no f2 (by simp),by show 1<1000;decide,?_⟩
  have R2:=(R1.same t2).acd xF Bx (.ins C dx (HX f2 y2 [(f1,y1)]))
  refine⟨B,F,[],ρ,R2,h3.mono (fun d3 z y3 H3 t3 r3=>?_) z⟩
  have ep2:HX f2 y2 [(f1,y1)]=[(f1,y1),(f2,y2)]:=by simp[HX,n12]
  have ep3:HX f3 y3 [(f1,y1),(f2,y2)]=[(f1,y1),(f2,y2),(f3,y3)]:=by simp[HX,n13,n23]
  rw[ep2]at t3 R2
  refine⟨.ref x,σ0,x,C,dx,[(f1,y1),(f2,y2)],rfl,t3 _ _ Av,cl,no f3 (by simp),by show 2<1000;decide,?_⟩
  have R3:=(R2.same t3).acd xF Bx (.ins C dx (HX f3 y3 [(f1,y1),(f2,y2)]))
  rw[ep3]at R3 ⊢
  rw[List.append_nil]at r1 r2 r3 em
  refine fin _ z [y1,y2,y3] _ R3.base Av rfl ?_
  rw[em]
  have m12:Same (mask F H1) (mask F H2):=fun b o q=>t2.mask b o (by rw[em];exact q)
  have m23:Same (mask F H2) (mask F H3):=fun b o q=>t3.mask b o (by rw[em];exact q)
  exact RpL.cons ((r1.mono m12).mono m23) (RpL.cons (r2.mono m23) (RpL.cons r3 RpL.nil))
structure WT(K:W.Frag)(mg:Str→Option Value)(c m:Str)(g:Addr):Prop where
 ex:∃CS,mg c=some (.ref CS)∧W.specialIn K (.ref CS) "__getattribute__"=some (some (.builtin "type.__getattribute__"))∧W.readsIn K CS (.type "type")=true∧W.findCls K (.ref CS) (.type "type") m=some (.val (.ref g))
 kp:W.keepIn K (.ref g)=true
theorem Wx{pl:Sem Bool}{k:Nat}{c m:Str}{g:Addr}{fd:FuncData}{ps:List Str}{sp:Sp}{t:TA}{p:Pos}(M:WT X.K X.mg c m g)(hg:Gl X c)(F:Ef X.prog X.w X.K X.mg X.base CX0 k g fd ps sp)(hr:CK k X.A)(hb:Binds X.K fd ps [])(ha:PA X (e::es) t)
  (hdb:(c==("__debug__":Str))=false:=by decide) (hst:starEach (e::es) X.env=(false,eval e X.env)::starEach es X.env:=by rfl) (hpl:(backTo pos (starEach es X.env)).any (·.1)=false:=by rfl)
  (ht:eval (.Call (.Attribute (.Name c p) m apos) (e::es) [] pos) X.env=(do
   let ov ←eval (.Name c p) X.env
   standAt apos.atName
   let (f,first) ←holding [ov] (getMethod ov m pl)
   callWith pos f first (backTo pos (starEach (e::es) X.env)) (backToKw pos (keywordEach [] X.env))):=by rfl) :
  PE X (.Call (.Attribute (.Name c p) m apos) (e::es) [] pos) (Aia sp [] E0 t):=by
 intro pins s σ H Q I h
 obtain⟨CS,hm,hs,hr',hf⟩:=M.ex
 have q0:=(Aap (v:=.ref CS) (pos:=p) hg hm rfl hdb:PE X (.Name c p) (tC (.ref CS))) pins s σ H (fun v H1=>v=.ref CS∧H1=H) I ⟨rfl,rfl⟩
 refine W.methodCall_KW (pl:=pl) (thn q0 fun u s1 ⟨x,H1,I1,rx,ex,eH⟩=>?_) ht
 subst ex
 subst eH
 obtain rfl:u=Value.ref CS:=rx
 refine W.method_cls I1.kIn hs (W.cls_value I1.kIn hr' hf rfl ?_)
 refine W.callWith_K (first:=[]) (h₀:=X.base) I.ok.mod.kin M.kp (thn (ha pos pins _ σ H1 _ (I1.tok _) h) fun us s2 ⟨vs,H2,I2,r,q2⟩=>⟨I2.kIn,?_⟩) hst hpl
 exact Vi F hr hb .nil WY I2 r q2
def AmQ(K:W.Frag)(ns:List Str)(sp:DIn)(tl:DTA):TS:=fun D σ H=>∃B F ρ x C dx,∃S:List Dt→Prop,Rep K B F [] H σ ρ∧x∈F∧B x=none∧σ[0]? = some (some (.ref x))∧H x=some (.ins C dx [])∧Cls K C∧(∀f∈ns,GQ K C f) ∧
 (tl ρ fun ds=>sp ds S)∧∀fds,S fds→∀ws H',Same B H'→H' x=some (.ins C dx (ns.zip ws))→ns.length=fds.length→RpL K (mask F H') fds ws→D.nx σ H'
theorem Adh{pl:Sem Bool}{k:Nat}{c y:Str}{g:Addr}{fd:FuncData}{ps ns:List Str}{sp:DIn}{p q ap cp:Pos}(m:PX sp)(M:WT X.K X.mg c "__init__" g)(hg:Gl X c)(G:Ef X.prog X.w X.K X.mg X.base CX0 k g fd ps (Xe X.K ns sp))(hb:Binds X.K fd ps [])(hr:CK k X.A)(ha:DA X es tl)(hN:X.N[0]? = some y:=by rfl)
  (hv:Vis X.env.scope y:=by first|exact Or.inl rfl|exact Or.inr (Or.inl rfl)|exact Or.inr (Or.inr rfl)) (hd:(y==("__debug__":Str))=false:=by decide) (hcd:(y==("__classdict__":Str))=false:=by decide) (hdb:(c==("__debug__":Str))=false:=by decide)
  (hst:starEach (.Name y q::es) X.env=(false,eval (.Name y q) X.env)::starEach es X.env:=by rfl) (hpl:(backTo cp (starEach es X.env)).any (·.1)=false:=by rfl)
  (ht:eval (.Call (.Attribute (.Name c p) "__init__" ap) (.Name y q::es) [] cp) X.env=(do
   let ov ←eval (.Name c p) X.env
   standAt ap.atName
   let (f,first) ←holding [ov] (getMethod ov "__init__" pl)
   callWith cp f first (backTo cp (starEach (.Name y q::es) X.env)) (backToKw cp (keywordEach [] X.env))):=by rfl)
  (hs:swapsWith (.Call (.Attribute (.Name c p) "__init__" ap) (.Name y q::es) [] cp) none pos.line X.env=pure false:=by rfl) :
  PSs X [.Expr (.Call (.Attribute (.Name c p) "__init__" ap) (.Name y q::es) [] cp) pos] (AmQ X.K ns sp tl) :=
 (Ih (KJ (Wx M hg G hr hb (Ei (JB hN hv hd hcd) ha.pa hst) hdb hst hpl ht) hs)).imp fun D σ H ⟨B,F,ρ,x,C,dx,S,R,xF,Bx,σ0,Hx,cl,no,z,fin⟩=>by
  refine⟨.ref x,σ0,B,F,[],ρ,R,ha.mono (fun ds z vs H1 s1 r1=>?_) z⟩
  show Xe X.K ns sp ((.ref x::vs)++[]) H1 _ E0
  rw[List.append_nil]
  have R1:=R.same s1
  rw[List.append_nil]at r1
  refine⟨x,C,dx,vs,F,ds,rfl,s1 _ _ Hx,cl,no,xF,fun a h=>R1.th a (List.mem_append_left _ h),r1,m _ _ _ (fun fds w ws H' s' h1 h2 h3=>fin fds w ws H' (fun b o e=>s' b o ?_) h1 h2 h3) z⟩
  rw[Ba fun w=>by rw[List.mem_singleton.mp w,Bx]at e;cases e]
  exact R1.base b o e
end
def Z4{τ:Type}(args:τ→List Dt)(pre:τ→Prop)(post:τ→List Dt→Prop):DIn:=fun ds R=>∃p,ds=args p∧pre p∧∀fds,post p fds→R fds
theorem Ly{τ:Type}{args:τ→List Dt}{pre:τ→Prop}{post:τ→List Dt→Prop}:PX (Z4 args pre post):=fun _ _ _ hq ⟨p,e,h,q⟩=>⟨p,e,h,fun d z=>hq _ (q d z)⟩
theorem QK{τ:Type}{args:τ→List Dt}{pre:τ→Prop}{post:τ→List Dt→Prop}{R:List Dt→Prop}(p:τ)(h:pre p)(q:∀fds,post p fds→R fds):Z4 args pre post (args p) R:=⟨p,rfl,h,q⟩
def PmC(P:Program)(w:World)(K:W.Frag)(mg:Str→Option Value)(base:Heap)(k:Nat)(c:Str)(ns:List Str)(sp:DIn):Prop:=∃g fd ps,WT K mg c "__init__" g∧Binds K fd ps []∧Ef P w K mg base CX0 k g fd ps (Xe K ns sp)
def PmI(P:Program)(w:World)(K:W.Frag)(mg:Str→Option Value)(base:Heap)(k:Nat)(c:Str)(ns:List Str)(sp:DIn):Prop:=∃C f fd ps,MkC K mg c ns C f∧Binds K fd ps []∧Ef P w K mg base CX0 k f fd ps (Xe K ns sp)
def PmM(P:Program)(w:World)(K:W.Frag)(mg:Str→Option Value)(base:Heap)(k:Nat)(cs:List Str)(m:Str)(sp:DSp):Prop:=∃g fd ps,(∀c∈cs,Z0 K c m g)∧W.keepIn K (.ref g)=true∧Binds K fd ps []∧Ef P w K mg base CX0 k g fd ps (lSp K sp)
section
variable{X:Cx}{e o:Expr}{es:List Expr}{te:DTE}{tl:DTA}{pos apos:Pos}
theorem Acw{k:Nat}{c:Str}{ns:List Str}{sp:DIn}{p:Pos}(m:PX sp)(G:PmI X.prog X.w X.K X.mg X.base k c ns sp)(hr:CK (k+1) X.A)(hg:Gl X c)(ha:DA X (e::es) tl)
  (hdb:(c==("__debug__":Str))=false:=by decide) (he:starEach (e::es) X.env=(false,eval e X.env)::starEach es X.env:=by rfl) (hpl:(backTo pos (starEach es X.env)).any (·.1)=false:=by rfl):DE X (.Call (.Name c p) (e::es) [] pos) (AeF c ns sp tl):=by
 obtain⟨C,f,fd,ps,M,B,G⟩:=G
 exact AfJ m M G B hr hg ha hdb he hpl
def Qk(cs:List Str)(m:Str)(sp:DSp)(te:DTE)(tl:DTA):DTE:=fun ρ Q=>te ρ fun d=>match d with
 |.obj c ns ds=>(c∈cs∧m∉ns)∧tl ρ fun es=>sp (.obj c ns ds::es) Q
 |_=>False
theorem YD{cs:List Str}{m:Str}{sp:DSp}(M:Ja sp)(h:DE X o te)(ha:DA X es tl){ρ:BP}{Q Q':Dt→Prop}(hq:∀d,Q d→Q' d)(z:Qk cs m sp te tl ρ Q):Qk cs m sp te tl ρ Q':=h.mono (fun d z=>by
 split at z
 ·exact⟨z.1,ha.mono (fun es z=>M _ _ _ hq z) z.2⟩
 ·exact z.elim) z
theorem Acv{cs:List Str}{m:Str}{g:Addr}{sp:DSp}(M:Ja sp)(hm:∀c∈cs,Z0 X.K c m g)(h:DE X o te)(σ:St)(H:Hp)(Q:VK)(z:lE X.K (Qk cs m sp te tl) σ H Q):lE X.K (RJ X.K m g sp te tl) σ H Q:=by
 obtain⟨B,F,O,ρ,R,z⟩:=z
 refine⟨B,F,O,ρ,R,h.mono (fun d z=>?_) z⟩
 split at z
 ·exact⟨hm _ z.1.1,z.1.2,z.2⟩
 ·exact z.elim
theorem Aea{pl:Sem Bool}{k:Nat}{cs:List Str}{m:Str}{sp:DSp}(M:Ja sp)(G:PmM X.prog X.w X.K X.mg X.base k cs m sp)(hr:CK k X.A)(h:DE X o te)(ha:DA X (e::es) tl)
  (hst:starEach (e::es) X.env=(false,eval e X.env)::starEach es X.env:=by rfl) (hpl:(backTo pos (starEach es X.env)).any (·.1)=false:=by rfl)
  (ht:eval (.Call (.Attribute o m apos) (e::es) [] pos) X.env=(do
   let ov ←eval o X.env
   standAt apos.atName
   let (f,first) ←holding [ov] (getMethod ov m pl)
   callWith pos f first (backTo pos (starEach (e::es) X.env)) (backToKw pos (keywordEach [] X.env))):=by rfl):DE X (.Call (.Attribute o m apos) (e::es) [] pos) (Qk cs m sp te tl):=by
 obtain⟨g,fd,ps,hm,kp,B,G⟩:=G
 exact⟨YD M h ha,(Agq M G B kp hr h ha hst hpl ht).pe.imp fun σ H Q z=>Acv M hm h σ H Q z⟩
end
end L2
namespace L2
open PySem Spec PyProof.Rows
inductive Lex(A:Around)(s:Shared):List Value→List Value→Bool→Prop
 |nn:Lex A s [] [] false
 |nc {y:Value} {ys:List Value}:Lex A s [] (y::ys) true
 |cn {x:Value} {xs:List Value}:Lex A s (x::xs) [] false
 |eq {x y:Value} {xs ys:List Value} {r:Bool} (h:SeqAt.EqAt A s x y true) (t:Lex A s xs ys r):Lex A s (x::xs) (y::ys) r
 |lt {x y:Value} {xs ys:List Value} {r:Bool} (h:SeqAt.EqAt A s x y false) (t:∀(prog:Program)(w:World)(E:Value→Shared→Prop)(Q:Value→Shared→Prop),Q (.bool r) s→wpAny (model prog w) A (richCompare .Lt x y) Q E s):Lex A s (x::xs) (y::ys) r
section
open PySem.SeqAt PySem.AutoSeq1 PySem.MeetsSeq PySem.MeetsSeq2 PySem.MeetsSeq3
theorem Xd(p q:Addr)(us vs:Array Value)(m n:Nat)(e e2:Option Addr)(c c2:Array (Option Value))(res:Bool) :
  Meets (Builtin.«tuple.__lt__» ⟨[.ref p,.ref q],[]⟩) (fun A R st=>st.heap.get? p=some ⟨.type "tuple",e,.seq us m,c⟩∧st.heap.get? q=some ⟨.type "tuple",e2,.seq vs n,c2⟩∧Lex A.in1 st us.toList vs.toList res∧R (.ok (.ret (.bool res))) st) :=
 .of_wp fun prog w A R st h=>by
  obtain⟨hh,gg,dr,tt,os⟩:=st
  obtain⟨h1,h2,L,fin⟩:=h
  have adJ:=AutoSeq1.sub_tuple_tuple
  wp_walk using wpAny_loadPart' h1,wpAny_loadPart' h2,wpAny_forIn_list _ (fun rest z st'=>z.1=none∧st'=⟨hh,gg,dr,tt,os⟩∧∃xs ys:List Value,rest=xs.zip ys∧Lex A.in1 ⟨hh,gg,dr,tt,os⟩ xs ys res∧xs.length+vs.size=ys.length+us.size) _
  case turn =>
   rintro⟨x0,y0⟩ rest z st' ⟨z0,rfl,xs,ys,hz,L',hlen⟩
   cases L' with
   |nn=>simp at hz
   |nc=>simp at hz
   |cn=>simp at hz
   | @eq x y xs ys r he t =>
    rw[List.zip_cons_cons]at hz
    obtain⟨hp,hr⟩:=List.cons.inj hz
    obtain⟨rfl,rfl⟩:=Prod.mk.inj hp
    refine wpAny_bind (he prog w _ _ ?_)
    wp_walk
    refine⟨rfl,rfl,xs,ys,hr,t,?_⟩
    simp only[List.length_cons]at hlen
    omega
   | @lt x y xs ys r he t =>
    rw[List.zip_cons_cons]at hz
    obtain⟨hp,hr⟩:=List.cons.inj hz
    obtain⟨rfl,rfl⟩:=Prod.mk.inj hp
    refine wpAny_bind (he prog w _ _ ?_)
    have less:=t prog w
    wp_walk using less
    exact⟨_,rfl,by simpa using fin⟩
  case fin =>
   rintro⟨z1,z2⟩ st' ⟨hz1,rfl,xs,ys,hz,L',hlen⟩
   simp only at hz1
   subst hz1
   have hv:res=decide (us.size<vs.size):=by
    cases L' with
    |nn=>simp at hlen;exact(decide_eq_false (by omega)).symm
    |nc=>simp at hlen;exact(decide_eq_true (by omega)).symm
    |cn=>simp at hlen;exact(decide_eq_false (by omega)).symm
    |eq _ _=>simp at hz
    |lt _ _=>simp at hz
   rw[hv]at fin
   wp_walk
   exact⟨_,rfl,by simpa [Builtin.Tuple.tupleCompareSizes] using fin⟩
  case h=>exact⟨rfl,rfl,us.toList,vs.toList,rfl,L,by simp;omega⟩
end
section
variable{prog:Program}{w:World}{A:Around}{E:Value→Shared→Prop}{s:Shared}
theorem AcQ{p q:Addr}{us vs:Array Value}{res:Bool}{Q:Value→Shared→Prop}(hp:IsTup s.heap p us)(hq:IsTup s.heap q vs)(L:Lex A.in1 s us.toList vs.toList res)(hu:A.units<cLine)(h:Q (.bool res) s):wpAny (model prog w) A (richCompare .Lt (.ref p) (.ref q)) Q E s:=by
 obtain⟨⟨c1,e1,a1,b1⟩,g1,k1,m1,t1⟩:=id hp
 obtain⟨⟨c2,e2,a2,b2⟩,g2,k2,m2,t2⟩:=id hq
 dsimp only at k1 t1 k2 t2
 subst k1 t1 k2 t2
 refine richCompare_meets_room (op:=.Lt) ⟨_,g1,rfl⟩ ⟨_,g2,rfl⟩ PySem.F.slot_tuple_lt PySem.F.entry_tuple_lt (PySem.F.args_tuple_lt_2 _ _) (Xd p q us vs m1 m2 e1 e2 b1 b2 res) ⟨g1,g2,L,?_⟩ hu
 exact show Value.bool res≠Value.notImplemented∧Q (.bool res) s from⟨(fun z=>nomatch z),h⟩
end
end L2
namespace L2
open PySem Spec PyProof.Rows SeqAt
theorem Nf:∀ns:List Int,HT.lexLt ns ns=false
 | []=>HT.Jd
 |n::ns=>by rw[HT.HS,if_pos rfl,Nf ns]
def FZ(a b:List Int×List Int):Bool:=if a.1=b.1 then HT.lexLt a.2 b.2 else HT.lexLt a.1 b.1
abbrev Oe(a:List Int×List Int):Dt:=.tup [Cy a.1,Cy a.2]
section
variable{X:Cx}
def QV(K:W.Frag)(H:Hp)(v:V)(a:List Int×List Int):Prop:=∃p p1 p2,v=.ref p∧SqT K H p [.ref p1,.ref p2]∧SqT K H p1 (a.1.map V.int)∧SqT K H p2 (a.2.map V.int)
def Aie(K:W.Frag):List V→Hp→VK→Prop:=fun xs H Q=>∃l vs,∃ps:Nat→List Int×List Int,xs=[.ref l]∧SqL K H l vs∧0<vs.length∧(∀(i:Nat)(v:V),vs[i]? = some v→QV K H v (ps i)) ∧
 ∀v,vs[argBest (fun i j=>FZ (ps i) (ps j)) (vs.length-1)]? = some v→Q v H
theorem Ac1{x y:Addr}{us:List Value}(r:Vals [V.ref x,V.ref y] us):us=[.ref x,.ref y]:=by
 obtain⟨a,b,rfl,r1,r2⟩:=vals2 r
 cases(show a=.ref x from r1)
 cases(show b=.ref y from r2)
 rfl
theorem P0{h:Heap}:∀{us:List Value} {ns:List Int},IntsAre us ns→∃as,ReadsAll h us (Dt.pys (ns.map Dt.int)) as
 |_,_,.nil=>⟨_,by rw[List.map_nil,Dt.pys];exact .nil⟩
 | _,_,.cons n t r=>by
  obtain⟨as,q⟩:=P0 (h:=h) r
  exact⟨_,by rw[List.map_cons,Dt.pys,Dt.py];exact .cons (.int n t) q⟩
theorem TX{h:Heap}{a:Addr}{its:Array Value}{ns:List Int}(t:IsTup h a its)(i:IntsAre its.toList ns):∃as,Reads h (.ref a) (Cy ns).py as:=by
 obtain⟨o,h1,h2,n,h3⟩:=t
 obtain⟨as,r⟩:=P0 (h:=h) i
 exact⟨_,by rw[Dt.py];exact .tuple h1 h2 h3 r⟩
theorem RD{A:Around}{s:Shared}{a b:Addr}{i1 i2:Array Value}{ns ms:List Int}(t1:IsTup s.heap a i1)(t2:IsTup s.heap b i2)(n1:IntsAre i1.toList ns)(n2:IntsAre i2.toList ms)(hu:A.units+8<cLine):EqAt A s (.ref a) (.ref b) (decide (ns=ms)):=by
 have fl:∀ns:List Int,(Cy ns).flat 8=true:=fun ns=>Rk ns
 obtain⟨ca,da⟩:=Gb _ 8 (fl ns)
 obtain⟨cb,db⟩:=Gb _ 8 (fl ms)
 obtain⟨as,q1⟩:=TX t1 n1
 obtain⟨bs,q2⟩:=TX t2 n2
 have h:=SeqAt.eqAt_reads _ _ A s _ _ as bs q1 q2 ca cb (by omega)
 rw[Rq _ _ ca cb]at h
 have ee:(Cy ns).eq (Cy ms)=decide (ns=ms):=by
  show Dt.eq (.tup _) (.tup _)=_
  rw[Qo,Ut]
 rw[ee]at h
 exact h
theorem Abs(hc:X.calm=true)(hu:X.A.in1.units+16<cLine):Kr X (.builtin "min") (Aie X.K):=by
 intro pins s σ H xs us Q I r h
 obtain⟨l,vs,ps,rfl,hl,ne,each,q⟩:=h
 obtain⟨u,rfl,r1⟩:=vals1 r
 cases r1
 obtain⟨its,rv,pl,_⟩:=I.list hl
 have hlen:its.length=vs.length:=rv.length.symm
 have ll:l<s.heap.objs.size:=by
  obtain⟨_,e,_⟩:=pl.isList
  exact Heap.lt_size e
 refine VH (wpAny_pyIter_list pl.isList ?_)
 refine⟨s.heap.objs.size,[s.heap.objs.size,l],[s.heap.objs.size],its.toArray.size,fun i v=>its.toArray[i]? = some v,_,fun i j=>FZ (ps i) (ps j),rfl,Walks.list (A:=X.A.in1) (I.ok.hd hc) _ l (Nat.ne_of_lt ll) its.toArray,⟨⟨_,Heap.get?_push_size _ rfl,rfl,rfl⟩,pl.isList.push _⟩,fun b hb=>?_,?_,?_,?_⟩
 ·show b<(s.heap.push _).objs.size
  rw[Heap.size_push]
  have hb:b=s.heap.objs.size∨b=l:=by simpa using hb
  rcases hb with e|e
  ·rw[e];exact Nat.lt_succ_self _
  ·rw[e];exact Nat.lt_succ_of_lt ll
 ·rw[List.size_toArray];omega
 ·intro h1 k1 i j x y s' Q' E' kept hx hy q'
  have go:∀a o,s.heap.get? a=some o→s'.heap.get? a=some o:=fun a o eo=>by
   have la:=Heap.lt_size eo
   refine kept a o (fun z=>?_) (fun z=>?_) (k1 a o (Heap.get?_push_of_some _ eo))
   ·have e2:a=s.heap.objs.size:=by simpa using z
    exact Nat.lt_irrefl _ (e2 ▸ la)
   ·have e2:a=(s.heap.push _).objs.size:=z
    rw[Heap.size_push]at e2
    exact Nat.lt_irrefl _ (Nat.lt_of_succ_lt (e2 ▸ la))
  have tup:∀{a:Addr} {xs:List V},SqT X.K H a xs→∃us:List Value,Vals xs us∧IsTup s'.heap a us.toArray:=fun{a xs} ht=>by
   obtain⟨us,r3,⟨o,eo,rest⟩,_⟩:=I.tuple ht
   exact⟨us,r3,o,go a o eo,rest⟩
  have fact:∀(i:Nat)(x:Value),its.toArray[i]? = some x→∃p p1 p2 i1 i2,x=.ref p∧IsTup s'.heap p [Value.ref p1,.ref p2].toArray∧IsTup s'.heap p1 i1∧IsTup s'.heap p2 i2∧IntsAre i1.toList (ps i).1∧IntsAre i2.toList (ps i).2:=fun i x hx=>by
   obtain⟨v,e1,r2⟩:=Vals.at rv i x (by simpa using hx)
   obtain⟨p,p1,p2,rfl,t0,t1,t2⟩:=each i v e1
   cases r2
   obtain⟨us,r0,u0⟩:=tup t0
   obtain⟨u1,r1,w1⟩:=tup t1
   obtain⟨u2,r2,w2⟩:=tup t2
   rw[Ac1 r0]at u0
   exact⟨p,p1,p2,u1.toArray,u2.toArray,rfl,u0,w1,w2,intsAre_of r1,intsAre_of r2⟩
  obtain⟨p,p1,p2,i1,i2,rfl,a0,a1,a2,n1,n2⟩:=fact i x hx
  obtain⟨b,b1,b2,j1,j2,rfl,c0,c1,c2,m1,m2⟩:=fact j y hy
  have in2:X.A.in1.in1.units=X.A.in1.units+1:=rfl
  refine AcQ a0 c0 ?_ (by omega) q'
  show Lex X.A.in1.in1 s' [.ref p1,.ref p2] [.ref b1,.ref b2] _
  have e1:=RD (A:=X.A.in1.in1) a1 c1 n1 m1 (by omega)
  have e2:=RD (A:=X.A.in1.in1) a2 c2 n2 m2 (by omega)
  show Lex X.A.in1.in1 s' [.ref p1,.ref p2] [.ref b1,.ref b2] (if(ps i).1=(ps j).1 then HT.lexLt (ps i).2 (ps j).2 else HT.lexLt (ps i).1 (ps j).1)
  by_cases h1:(ps i).1=(ps j).1
  ·rw[if_pos h1]
   rw[decide_eq_true h1]at e1
   refine .eq e1 ?_
   by_cases h2:(ps i).2=(ps j).2
   ·rw[decide_eq_true h2]at e2
    rw[h2]
    have:HT.lexLt (ps j).2 (ps j).2=false:=Nf _
    rw[this]
    exact .eq e2 .nn
   ·rw[decide_eq_false h2]at e2
    exact .lt e2 fun prog w E Q h=>HT.Lh a2 c2 n2 m2 (by omega) h
  ·rw[if_neg h1]
   rw[decide_eq_false h1]at e1
   exact .lt e1 fun prog w E Q h=>HT.Lh a1 c1 n1 m1 (by omega) h
 ·intro v h' tk hv k
  obtain⟨x,e1,r2⟩:=Vals.at rv _ v (by simpa using hv)
  rw[hlen]at e1
  refine⟨x,H,I.kept fun b o e=>k b o (fun z=>?_) (Heap.get?_push_of_some _ e),r2,q x e1⟩
  have e2:b=s.heap.objs.size:=by simpa using z
  have e3:=Heap.lt_size e
  exact Nat.lt_irrefl _ (e2 ▸ e3)
def Ld(ps:List (List Int×List Int)):Nat:=argBest (fun i j=>FZ (ps.getD i ([],[])) (ps.getD j ([],[]))) (ps.length-1)
def Ah1:DL:=fun ds Q=>∃ps:List (List Int×List Int),ds=[.lst (ps.map Oe)]∧0<ps.length∧Ld ps<ps.length∧Q (Oe (ps.getD (Ld ps) ([],[])))
theorem ints_of{K:W.Frag}{M:Hp}{ns:List Int}{xs:List V}(r:RpL K M (ns.map Dt.int) xs):xs=ns.map V.int:=by
 induction ns generalizing xs with
 |nil=>exact BL.mp r
 | cons n ns ih =>
  obtain⟨v,w,rfl,r1,r2⟩:=Bc.mp r
  rw[Bp.mp r1,ih r2]
  rfl
theorem Af3{K:W.Frag}{M:Hp}{a:List Int×List Int}{v:V}(r:Rp K M (Oe a) v):QV K M v a:=by
 obtain⟨p,xs,rfl,h1,h2⟩:=Dv.mp r
 obtain⟨v1,w1,rfl,r1,h2⟩:=Bc.mp h2
 obtain⟨v2,w2,rfl,r2,h2⟩:=Bc.mp h2
 obtain rfl:=BL.mp h2
 obtain⟨p1,x1,rfl,g1,k1⟩:=Dv.mp r1
 obtain⟨p2,x2,rfl,g2,k2⟩:=Dv.mp r2
 rw[ints_of k1]at g1
 rw[ints_of k2]at g2
 exact⟨p,p1,p2,rfl,h1,g1,g2⟩
theorem QV.mono{K:W.Frag}{M M':Hp}{a:List Int×List Int}{v:V}(s:Same M M')(h:QV K M v a):QV K M' v a:=by
 obtain⟨p,p1,p2,e,h1,h2,h3⟩:=h
 exact⟨p,p1,p2,e,s.qZ h1,s.qZ h2,s.qZ h3⟩
theorem Ad6{K:W.Frag}:Uw K (Aie K) Ah1 where
 mono:=fun hq ⟨ps,e,n0,lt,h⟩=>⟨ps,e,n0,lt,hq _ h⟩
 ok:=fun O H ds xs Q _ r ⟨ps,e,n0,lt,h⟩=>by
  subst e
  obtain⟨x,r',rfl,r2,r3⟩:=Bc.mp r
  obtain rfl:=BL.mp r3
  obtain⟨l,vs,rfl,hs,hl⟩:=Et r2
  have len:vs.length=ps.length:=by rw[hl.len,List.length_map]
  have at':∀(i:Nat)(v:V),vs[i]? = some v→Rp K (mask O H) (Oe (ps.getD i ([],[]))) v:=fun i v e=>by
   obtain⟨d,e1,e2⟩:=hl.get' e
   rw[List.getElem?_map]at e1
   cases w:ps[i]? with
   |none=>rw[w]at e1;cases e1
   | some a =>
    rw[w]at e1
    cases e1
    rw[List.getD_eq_getElem?_getD,w]
    exact e2
  refine⟨l,vs,fun i=>ps.getD i ([],[]),rfl,Bk.seq hs,by omega,fun i v e=>(Af3 (at' i v e)).mono Bk,fun v e=>?_⟩
  rw[len]at e
  exact h v H (Same.refl H) (at' _ v e)
theorem Agw{a:Expr}{tl:DTA}{p pos:Pos}(hm:X.mg "min"=none)(hu:X.A.in1.units+16<cLine)(ha:DA X [a] tl)(hc:X.calm=true:=by rfl)(hg:Gl X "min":=by rfl)(hv:bootBuiltins "min"=some (.builtin "min"):=by rfl)(he:starEach [a] X.env=(false,eval a X.env)::starEach [] X.env:=by rfl)
  (hpl:(backTo pos (starEach [] X.env)).any (·.1)=false:=by rfl):DE X (.Call (.Name "min" p) [a] [] pos) (dCB Ah1 tl):=Rw (Abs hc hu) Ad6 hg hm hv ha (he:=he) (hpl:=hpl)
theorem AiR{A:Around}(h:A.units+64<cLine):A.in1.units+16<cLine:=by show A.units+1+16<cLine;omega
end
end L2
namespace L2
open PySem Spec PyProof.Rows
open PySem.W (KasT kas_asc kas_desc kas_tail3 kas_descPart kas_count kas_place kas_bin kas_sort kas_rev)
def Al{α:Type}(bt:Nat→Nat→Bool):KasT α→α
 |.ret a=>a
 |.ask i j k=>Al bt (k (bt i j))
def G3{α:Type}(n:Nat)(G:α→Prop):KasT α→Prop
 |.ret a=>G a
 |.ask i j k=>i<n∧j<n∧∀b,G3 n G (k b)
theorem G3.bind{α β:Type}{n:Nat}{G:α→Prop}{H:β→Prop}{f:α→KasT β}(hf:∀a,G a→G3 n H (f a)):∀t:KasT α,G3 n G t→G3 n H (t.bind f)
 |.ret a,h=>hf a h
 |.ask _ _ k,h=>⟨h.1,h.2.1,fun b=>G3.bind hf (k b) (h.2.2 b)⟩
theorem G3.eval{α:Type}{n:Nat}{G:α→Prop}(bt:Nat→Nat→Bool):∀t:KasT α,G3 n G t→G (Al bt t)
 |.ret _,h=>h
 |.ask i j k,h=>G3.eval bt (k (bt i j)) (h.2.2 _)
theorem Wr{α:Type}{n:Nat}{cmp:Nat→Nat→(Bool→Shared→Prop)→Shared→Prop}{bt:Nat→Nat→Bool}{s:Shared}(hc:∀i j,i<n→j<n→∀C:Bool→Shared→Prop,C (bt i j) s→cmp i j C s){G:α→Prop}{Q:α→Shared→Prop} :
  ∀t:KasT α,G3 n G t→Q (Al bt t) s→t.kasWp cmp Q s
 |.ret _,_,q=>q
 |.ask i j k,h,q=>hc i j h.1 h.2.1 _ (Wr hc (k (bt i j)) (h.2.2 _) q)
abbrev Rg(n:Nat):Array Nat:=List.toArray (List.range n)
theorem K9{n:Nat}{p:Array Nat}(n0:0<n)(h:p.Perm (Rg n))(i:Nat):p.getD i 0<n:=by
 by_cases hi:i<p.size
 ·have e:p.getD i 0=p[i]:=by simp[Array.getD,hi]
  rw[e]
  have:=h.mem_iff.mp (Array.getElem_mem hi)
  simpa using this
 ·simpa [Array.getD,hi] using n0
theorem Rh{n:Nat}{p:Array Nat}(h:p.Perm (Rg n))(i j:Nat):(kas_rev p i j).Perm (Rg n):=(mirror_perm p i j _).trans h
section
variable{n:Nat}
theorem Va{p:Array Nat}(n0:0<n)(hp:p.Perm (Rg n)):∀f m,G3 n (fun _=>True) (kas_asc p f m)
 |0,_=>trivial
 | f+1,m=>⟨K9 n0 hp _,K9 n0 hp _,fun b=>by
  cases b
  ·exact Va n0 hp f (m+1)
  ·trivial⟩
theorem Mg(n0:0<n):∀(f:Nat)(p:Array Nat)(m q:Nat),p.Perm (Rg n)→G3 n (fun r:Array Nat×Nat×Nat=>r.1.Perm (Rg n)) (kas_desc f p m q)
 |0,_,_,_,hp=>hp
 | f+1,p,m,q,hp=>⟨K9 n0 hp _,K9 n0 hp _,fun b=>by
  cases b
  ·refine⟨K9 n0 hp _,K9 n0 hp _,fun d=>?_⟩
   cases d
   ·exact Mg n0 f p (m+1) (q+1) hp
   ·exact hp
  ·show G3 n _ (if q>0 then _ else _)
   split
   ·exact Mg n0 f _ (m+1) 0 (Rh hp _ _)
   ·exact Mg n0 f p (m+1) 0 hp⟩
theorem Vt(n0:0<n){p:Array Nat}(hp:p.Perm (Rg n))(m k:Nat):G3 n (fun r:Nat×Array Nat=>r.2.Perm (Rg n)) (kas_tail3 m k p) :=
 G3.bind (n:=n) (G:=fun _=>True) (H:=fun r:Nat×Array Nat=>r.2.Perm (Rg n)) (f:=fun j=>KasT.ret (j,kas_rev p 0 m)) (fun _ _=>show(kas_rev p 0 m).Perm (Rg n)from Rh hp _ _) _ (Va n0 (Rh hp _ _) _ _)
theorem Wj(n0:0<n){p:Array Nat}(hp:p.Perm (Rg n))(m k:Nat):G3 n (fun r:Nat×Array Nat=>r.2.Perm (Rg n)) (kas_descPart m k p) :=
 G3.bind (fun r hr=>by
  split
  ·exact Vt n0 (Rh hr _ _) _ _
  ·exact Vt n0 hr _ _) _ (Mg n0 _ p _ _ hp)
theorem AbT(n0:0<n){p:Array Nat}(hp:p.Perm (Rg n))(k:Nat):G3 n (fun r:Nat×Array Nat=>r.2.Perm (Rg n)) (kas_count k p) :=
 G3.bind (fun m _=>by
  split
  ·exact hp
  ·split
   ·refine⟨K9 n0 hp _,K9 n0 hp _,fun b=>?_⟩
    cases b
    ·exact Wj n0 (Rh hp _ _) _ _
    ·exact hp
   ·exact Wj n0 hp _ _) _ (Va n0 hp _ _)
theorem N5(n0:0<n){p:Array Nat}(hp:p.Perm (Rg n))(k:Nat):∀f l r,G3 n (fun _=>True) (kas_place p k f l r)
 |0,_,_=>trivial
 | f+1,l,r=>by
  show G3 n _ (if l≥r then _ else _)
  split
  ·trivial
  ·refine⟨K9 n0 hp _,K9 n0 hp _,fun b=>?_⟩
   cases b
   ·exact N5 n0 hp k f _ _
   ·exact N5 n0 hp k f _ _
theorem ZK(n0:0<n):∀(f:Nat)(p:Array Nat)(k:Nat),p.Perm (Rg n)→G3 n (fun r:Array Nat=>r.Perm (Rg n)) (kas_bin f p k)
 |0,_,_,hp=>hp
 |f+1,p,k,hp=>G3.bind (fun l _=>ZK n0 f _ (k+1) ((bubble_perm p k (k-l)).trans hp)) _ (N5 n0 hp k _ _ _)
theorem V1(n0:0<n):G3 n (fun r:Array Nat=>r.Perm (Rg n)) (kas_sort n) :=
 G3.bind (fun r hr=>by
  split
  ·exact ZK n0 _ r.2 _ hr
  ·exact hr) _ (AbT n0 (Array.Perm.refl _) _)
end
def Cz(bt:Nat→Nat→Bool)(n:Nat):List Nat:=(Al bt (kas_sort n)).toList
theorem Cr(bt:Nat→Nat→Bool)(n:Nat):(Cz bt n).Perm (List.range n):=by
 rcases Nat.eq_zero_or_pos n with rfl|h
 ·exact List.Perm.refl _
 ·have:=(V1 h).eval bt
  exact Array.perm_iff_toList_perm.mp this
section
variable{prog:Program}{w:World}{A:Around}{E:Value→Shared→Prop}{s:Shared}
theorem VG{Q:Bool→Shared→Prop}:∀(vs us:List Value)(ns ms:List Int)(i:Nat),IntsAre vs ns→IntsAre us ms→Q (HT.lexLt ns ms) s→W.KatLex prog w A true (decide (vs.length<us.length)) Q (vs.zip us) i s
 |_,_,_,_,_,.nil,.nil,q=>q
 | _,_,_,_,_,.nil,.cons _ _ _,q=>by
  rw[decide_eq_true (by simp)]
  exact W.kat_nil q
 | _,_,_,_,_,.cons _ _ _,.nil,q=>by
  rw[decide_eq_false (by simp)]
  exact W.kat_nil q
 | _,_,_,_,i,.cons (vs:=vs) (ns:=ns) a t h1,.cons (vs:=us) (ns:=ms) b u h2,q=>by
  rw[HT.HS]at q
  refine W.kat_cons (wpAny_eqBool_int (W.kat_go (fun e=>W.kat_yes ?_) (fun e=>W.kat_no ?_)))
  ·have e:a=b:=by simpa using e
   rw[if_pos e]at q
   have:=VG vs us ns ms (i+1) h1 h2 q
   rw[show decide ((Value.int a t::vs).length<(Value.int b u::us).length)=decide (vs.length<us.length)from decide_eq_decide.mpr (by simp)]
   exact this
  ·have e:¬a=b:=by simpa using e
   rw[if_neg e]at q
   cases hi:(true&&i==0)with
   |true=>exact oneLt_int q
   |false=>exact W.kat_one _ _ (richCompare_gives (op:=.Lt) (typeIs_int s _ t) (typeIs_int s _ u) F.slot_int_lt F.entry_int_lt (F.args_int_lt_2 _ _) (gives_int_lt _ _ t u) (fun x=>nomatch x) q)
theorem AcA{x y:Addr}{xs ys:Array Value}{ns ms:List Int}{Q:Bool→Shared→Prop}(hx:IsTup s.heap x xs)(hy:IsTup s.heap y ys)(hi:IntsAre xs.toList ns)(hj:IntsAre ys.toList ms)(q:Q (HT.lexLt ns ms) s) :
  wpAny (model prog w) A (keyLt' (tuples' true) (.ref x) (.ref y)) Q E s:=by
 obtain⟨o1,g1,_,n1,d1⟩:=hx
 obtain⟨o2,g2,_,n2,d2⟩:=hy
 have:=VG (prog:=prog) (w:=w) (A:=A) (Q:=Q) xs.toList ys.toList ns ms 0 hi hj q
 exact W.kat_lt g1 d1 g2 d2 (by simpa using this)
def But(a:Addr)(h h':Heap):Prop:=∀b o,b≠a→h.get? b=some o→h'.get? b=some o
theorem AaX:∀vs:List Value,(vs.zip vs).map (·.2)=vs
 | []=>rfl
 |v::vs=>by rw[List.zip_cons_cons,List.map_cons,AaX vs]
theorem Yt{vs:List Value}(bt:Nat→Nat→Bool)(h:vs.length<2):(Cz bt vs.length).map (fun i=>vs.getD i Value.none)=vs:=by
 match vs,h with
 | [],_=>rfl
 | [v],_=>rfl
theorem T8{a:Addr}{vs:List Value}{n:Nat}{κ:SortKind}{bt:Nat→Nat→Bool}{P:PySem.Fin→Shared→Prop}(ho:s.heap.get? a=some (seqObj "list" vs.toArray n))(h64:vs.length<64)
  (hk:∀h':Heap,But a s.heap h'→2≤vs.length→∀Q:SortKind→Shared→Prop,Q κ {s with heap:=h'}→wpAny (model prog w) A (keyKind' vs.toArray) Q (fun _ _=>False) {s with heap:=h'})
  (hl:∀h':Heap,But a s.heap h'→∀i j,i<vs.length→j<vs.length→∀C:Bool→Shared→Prop,C (bt i j) {s with heap:=h'}→W.kas_ask prog w A κ vs i j C {s with heap:=h'})
  (fin:∀(h':Heap)(c:Nat),But a s.heap h'→h'.get? a=some (seqObj "list" (List.toArray ((Cz bt vs.length).map fun i=>vs.getD i Value.none)) c)→P (.done (.ret .none)) {s with heap:=h'}) :
  wpAny (model prog w) A (Builtin.«list.sort» ⟨[.ref a],[]⟩) P E s:=by
 have la:a<s.heap.objs.size:=Heap.lt_size ho
 have sl:vs.length≤sizeLine:=by rw[sizeLine_eq];omega
 obtain⟨c1,g1⟩:∃c,(s.heap.update a (Obj.mapSeq fun _=>(#[]:Array Value))).get? a=some (seqObj "list" #[] c):=⟨_,get?_update_seq ho fun _=>#[]⟩
 obtain⟨h3,e3⟩:∃h3,h3=((s.heap.update a (Obj.mapSeq fun _=>(#[]:Array Value))).push (seqObj "tuple" vs.toArray 0)).push (seqObj "list" #[] 0):=⟨_,rfl⟩
 have g3:h3.get? a=some (seqObj "list" #[] c1):=by rw[e3];exact Heap.get?_push_of_some _ (Heap.get?_push_of_some _ g1)
 have k3:But a s.heap h3:=fun b o ne e=>by
  rw[e3]
  exact Heap.get?_push_of_some _ (Heap.get?_push_of_some _ ((Heap.get?_update_other _ _ (Ne.symm ne)).trans e))
 have last:∀out:List Value,out.length≤sizeLine→out=(Cz bt vs.length).map (fun i=>vs.getD i Value.none)→∃c2,(h3.update a (Obj.mapSeq fun _=>out.toArray)).get? a=some (seqObj "list" out.toArray c2)∧P (.done (.ret .none)) {s with heap:=h3.update a (Obj.mapSeq fun _=>out.toArray)}:=fun out _ eo=>by
  obtain⟨c2,g⟩:∃c,(h3.update a (Obj.mapSeq fun _=>out.toArray)).get? a=some (seqObj "list" out.toArray c):=⟨_,get?_update_seq g3 fun _=>out.toArray⟩
  refine⟨c2,g,fin _ c2 (fun b o ne e=>(Heap.get?_update_other _ _ (Ne.symm ne)).trans (k3 b o ne e)) ?_⟩
  rw[←eo];exact g
 rw[list_sort_plain]
 refine wpAny_bind (listItems_at ho rfl (wpAny_bind (listUpdate_at ho rfl ?_ (by rw[List.size_toArray];exact sl) (Nat.zero_le _))))
 refine wpAny_bind (seqEpoch_at g1 rfl (wpAny_bind (wpAny_newTuple ?_ (by show vs.length≤_;exact sl))))
 refine wpAny_bind (wpAny_newList (wpAny_holding ?_) (Nat.zero_le _))
 show wpAny (model prog w) A _ P E {s with heap:=((s.heap.update a (Obj.mapSeq fun _=>(#[]:Array Value))).push (seqObj "tuple" vs.toArray 0)).push (seqObj "list" #[] 0)}
 rw[←e3]
 dsimp only
 by_cases few:vs.toArray.size<2
 ·rw[if_pos few,if_pos few]
  have acB:vs.length<2:=by simpa using few
  refine wpAny_bind (wpAny_pure ?_);rw[StateT.run_pure];refine wpAny_bind (wpAny_pure ?_)
  dsimp only
  have eo:(arrOf (SortSt.mk' general' (vs.toArray.zip vs.toArray) #[] 7 none)).map (·.2)=vs.toArray:=by
   show(vs.toArray.zip vs.toArray).map (·.2)=vs.toArray
   rw[←Array.toList_inj,Array.toList_map,Array.toList_zip]
   exact AaX vs
  rw[eo]
  obtain⟨c2,g,q⟩:=last vs sl (Yt bt acB).symm
  refine wpAny_bind (seqEpoch_at g3 rfl (wpAny_bind (listUpdate_at g3 rfl ?_ (Nat.zero_le _) (by rw[List.size_toArray];exact Nat.le_succ_of_le sl))))
  simp only[bne_self_eq_false,Bool.false_eq_true,if_false]
  exact wpAny_pure q
 ·rw[if_neg few,if_neg few]
  have many:2≤vs.length:=by
   have:¬vs.length<2:=by simpa using few
   omega
  refine wpAny_bind (wpAny_mono (hk h3 k3 many (fun κ' s'=>κ'=κ∧s'={s with heap:=h3}) ⟨rfl,rfl⟩) ?_ fun _ _ x=>x.elim)
  rintro κ' s' ⟨rfl,rfl⟩
  have tree:=Wr (hl h3 k3) (Q:=fun p s'=>p=Al bt (kas_sort vs.length)∧s'={s with heap:=h3}) (kas_sort vs.length) (V1 (by omega)) ⟨rfl,rfl⟩
  refine wpAny_bind (wpAny_mono (W.kat_run (Q:=fun st' s'=>(arrOf st').map (·.2)=List.toArray ((Cz bt vs.length).map fun i=>vs.getD i Value.none)∧failedOf st'=none∧s'={s with heap:=h3}) rfl many h64 (fun p st' s' _ a2 a3 a4=>⟨?_,a3,a4.2⟩) tree) ?_ fun _ _ e=>e)
  ·rw[W.kat_snds rfl a2,a4.1];rfl
  ·rintro⟨⟨⟩,st'⟩ s' ⟨x1,x2,rfl⟩
   dsimp only
   rw[x1]
   have ol:((Cz bt vs.length).map fun i=>vs.getD i Value.none).length≤sizeLine:=by rw[List.length_map,(Cr bt _).length_eq,List.length_range];exact sl
   obtain⟨c2,g,q⟩:=last _ ol rfl
   refine wpAny_bind (seqEpoch_at g3 rfl (wpAny_bind (listUpdate_at g3 rfl ?_ (Nat.zero_le _) (by rw[List.size_toArray];exact Nat.le_succ_of_le ol))))
   rw[x2]
   simp only[bne_self_eq_false,Bool.false_eq_true,if_false]
   exact wpAny_pure q
theorem TV{l:Addr}{vs:List Value}{κ:SortKind}{bt:Nat→Nat→Bool}{Q:Value→Shared→Prop}(hl:s.heap.IsList l vs.toArray)(h64:vs.length<64)
  (hk:∀h':Heap,(∀b o,s.heap.get? b=some o→h'.get? b=some o)→2≤vs.length→∀R:SortKind→Shared→Prop,R κ {s with heap:=h'}→wpAny (model prog w) A.in1.in1 (keyKind' vs.toArray) R (fun _ _=>False) {s with heap:=h'})
  (hc:∀h':Heap,(∀b o,s.heap.get? b=some o→h'.get? b=some o)→∀i j,i<vs.length→j<vs.length→∀C:Bool→Shared→Prop,C (bt i j) {s with heap:=h'}→W.kas_ask prog w A.in1.in1 κ vs i j C {s with heap:=h'})
  (fin:∀(h':Heap)(D:Addr)(c:Nat),(∀b o,s.heap.get? b=some o→h'.get? b=some o)→s.heap.objs.size≤D→h'.get? D=some (seqObj "list" (List.toArray ((Cz bt vs.length).map fun i=>vs.getD i Value.none)) c)→Q (.ref D) {s with heap:=h'}) :
  wpAny (model prog w) A (call (.builtin "sorted") [.ref l]) Q E s:=by
 have sl:vs.length≤sizeLine:=by rw[sizeLine_eq];omega
 obtain⟨h1,e1⟩:∃h1,h1=(s.heap.push (seqObj "list" #[] 0)).update s.heap.objs.size (Obj.mapSeq (· ++ vs.toArray)):=⟨_,rfl⟩
 have z1:h1.objs.size=s.heap.objs.size+1:=by rw[e1,Heap.size_update,size_push']
 have kp:∀b o,s.heap.get? b=some o→(h1.push (seqObj "list" vs.toArray 0)).get? b=some o:=fun b o q=>by
  have lb:b<s.heap.objs.size:=Heap.lt_size q
  refine Heap.get?_push_of_some _ ?_
  rw[e1,Heap.get?_update_ne _ _ _ _ (Nat.ne_of_lt lb)]
  exact Heap.get?_push_of_some _ q
 have gD:(h1.push (seqObj "list" vs.toArray 0)).get? h1.objs.size=some (seqObj "list" vs.toArray 0):=Heap.get?_push_size _ rfl
 have low:∀(h':Heap),But h1.objs.size (h1.push (seqObj "list" vs.toArray 0)) h'→∀b o,s.heap.get? b=some o→h'.get? b=some o:=fun h' k b o q=>by
  have lb:b<s.heap.objs.size:=Heap.lt_size q
  exact k b o (Nat.ne_of_lt (by rw[z1];exact Nat.lt_succ_of_lt lb)) (kp b o q)
 refine Calls.call_function_entry kind_sorted plain_sorted entry_sorted (args_sorted1 _) ?_
 unfold Builtin.«sorted»
 refine wpAny_bind (m:=checkCount "sorted" 1 1 _) (wpAny_pure (wpAny_bind (collect_list hl ?_ (by rw[sizeLine_eq];omega))))
 refine wpAny_bind (wpAny_newList ?_ (by rw[sizeLine_eq];omega))
 show wpAny _ _ _ _ _ {s with heap:=((s.heap.push (seqObj "list" #[] 0)).update s.heap.objs.size (Obj.mapSeq (· ++ vs.toArray))).push (seqObj "list" vs.toArray 0)}
 rw[←e1]
 refine wpAny_bind (wpAny_holding (wpAny_call_entry slot_list_sort ⟨_,gD,rfl⟩ entry_list_sort ?_ (args_list_sort _)))
 refine T8 (s:={s with heap:=h1.push (seqObj "list" vs.toArray 0)}) (κ:=κ) (bt:=bt) gD h64 (fun h' k=>hk h' (low h' k)) (fun h' k=>hc h' (low h' k)) fun h' c k g=>?_
 exact⟨_,rfl,wpAny_pure ⟨_,rfl,fin h' _ c (low h' k) (by rw[z1];omega) g⟩⟩
end
theorem Z2{h:Heap}:∀its:List Value,(∀v∈its,∃a xs ns,v=.ref a∧IsTup h a xs∧IntsAre xs.toList ns∧ns≠[])→∃fs,W.KatTups h its fs∧fs.length=its.length∧∀f∈fs,∃n t,f=Value.int n t
 | [],_=>⟨[],W.KatTups.nil,rfl,fun _ z=>by cases z⟩
 | v::its,hv=>by
  obtain⟨fs,k,lf,ff⟩:=Z2 its fun x hx=>hv x (.tail _ hx)
  obtain⟨a,xs,ns,rfl,⟨o,g,c,n,d⟩,hi,ne⟩:=hv v (.head _)
  cases hx:xs.toList with
  |nil=>rw[hx]at hi;cases hi;exact absurd rfl ne
  | cons x r =>
   rw[hx]at hi
   cases hi with
   | cons m t _ =>
    have e0:xs[0]? = some (Value.int m t):=by rw[←Array.getElem?_toList,hx];rfl
    refine⟨.int m t::fs,W.KatTups.cons g c d e0 k,by rw[List.length_cons,List.length_cons,lf],fun f hf=>?_⟩
    rcases List.mem_cons.mp hf with rfl|hf
    ·exact⟨m,t,rfl⟩
    ·exact ff f hf
theorem NT{xs:List V}{us:List Value}(r:Vals xs us):∀ix:List Nat,(∀i∈ix,i<xs.length)→Vals (ix.map fun i=>xs.getD i V.non) (ix.map fun i=>us.getD i Value.none)
 | [],_=>.nil
 | i::ix,h=>by
  have hi:i<xs.length:=h i (.head _)
  obtain⟨u,eu,ru⟩:=Vals.get (i:=i) (x:=xs[i]) r (List.getElem?_eq_getElem hi)
  have e1:xs.getD i V.non=xs[i]:=by simp[List.getD,hi]
  have e2:us.getD i Value.none=u:=by simp[List.getD,eu]
  rw[List.map_cons,List.map_cons,e1,e2]
  exact .cons ru (NT r ix fun j hj=>h j (.tail _ hj))
variable{X:Cx}
def Ach(K:W.Frag):List V→Hp→VK→Prop:=fun xs H Q=>∃p vs,∃nss:Nat→List Int,xs=[.ref p]∧SqL K H p vs∧vs.length<64∧(∀(i:Nat)(v:V),vs[i]? = some v→∃a,v=.ref a∧SqT K H a ((nss i).map V.int)∧nss i≠[]) ∧
 ∀l,H l=none→Q (.ref l) (upd H l (.lst ((Cz (fun i j=>HT.lexLt (nss i) (nss j)) vs.length).map fun i=>vs.getD i V.non)))
theorem X8:Kr X (.builtin "sorted") (Ach X.K):=by
 intro pins s σ H xs us Q I r h
 obtain⟨p,vs,nss,rfl,hl,h64,each,q⟩:=h
 obtain⟨u,rfl,r1⟩:=vals1 r
 cases r1
 obtain⟨its,rv,pl,hz⟩:=I.list hl
 have hlen:its.length=vs.length:=rv.length.symm
 have row:∀h':Heap,(∀b o,s.heap.get? b=some o→h'.get? b=some o)→∀(i:Nat)(v:Value),its[i]? = some v→∃a xs,v=.ref a∧IsTup h' a xs∧IntsAre xs.toList (nss i)∧nss i≠[]:=fun h' k i v e=>by
  obtain⟨x,e1,r2⟩:=Vals.at rv i v e
  obtain⟨a,rfl,ht,ne⟩:=each i x e1
  cases r2
  obtain⟨ys,r3,⟨o,g,rest⟩,_⟩:=I.tuple ht
  exact⟨a,ys.toArray,rfl,⟨o,k a o g,rest⟩,intsAre_of r3,ne⟩
 refine TV (κ:=tuples' true) (bt:=fun i j=>HT.lexLt (nss i) (nss j)) (vs:=its) pl.isList (by omega) (fun h' k _ R hR=>?_) (fun h' k i j hi hj C hC=>?_) fun h' D c k hD g=>?_
 ·obtain⟨fs,kt,lf,ff⟩:=Z2 (h:=h') its fun v hv=>by
   obtain⟨i,hi,e⟩:=List.getElem_of_mem hv
   obtain⟨a,xs,e1,t,n,ne⟩:=row h' k i v (by rw[←e];exact List.getElem?_eq_getElem hi)
   exact⟨a,xs,_,e1,t,n,ne⟩
  refine W.kat_kind (s:={s with heap:=h'}) (T:=.type "int") kt (by omega) (fun v hv=>?_) (by decide) hR
  obtain⟨n,t,rfl⟩:=ff v hv
  exact .now
 ·obtain⟨a,xs,e1,t1,n1,_⟩:=row h' k i _ (List.getElem?_eq_getElem hi)
  obtain⟨b,ys,e2,t2,n2,_⟩:=row h' k j _ (List.getElem?_eq_getElem hj)
  have d1:its.getD i Value.none=.ref a:=by simp[List.getD,hi,e1]
  have d2:its.getD j Value.none=.ref b:=by simp[List.getD,hj,e2]
  unfold W.kas_ask
  rw[d1,d2]
  exact AcA (s:={s with heap:=h'}) t1 t2 n1 n2 hC
 ·have ib:∀i∈Cz (fun i j=>HT.lexLt (nss i) (nss j)) its.length,i<vs.length:=fun i hi=>by
   have:=(Cr _ _).mem_iff.mp hi
   rw[←hlen]
   exact List.mem_range.mp this
  have vp:=NT rv _ ib
  rw[hlen]at vp g
  have lz:((Cz (fun i j=>HT.lexLt (nss i) (nss j)) vs.length).map fun i=>vs.getD i V.non).length≤sizeLine:=by
   rw[List.length_map,(Cr _ _).length_eq,List.length_range]
   exact hz
  exact⟨.ref D,_,I.laid (t':=s.toks) k hD (show Ej X.prog X.w _ h' _ (.lst _)from⟨lz,_,c,vp,g⟩),rfl,q _ (I.hok.fresh hD)⟩
def K7(nss:List (List Int)):List (List Int):=(Cz (fun i j=>HT.lexLt (nss.getD i []) (nss.getD j [])) nss.length).map fun i=>nss.getD i []
theorem Dw(nss:List (List Int)):(K7 nss).Perm nss:=by
 have h:=(Cr (fun i j=>HT.lexLt (nss.getD i []) (nss.getD j [])) nss.length).map fun i=>nss.getD i []
 have e:(List.range nss.length).map (fun i=>nss.getD i [])=nss:=by
  refine List.ext_getElem (by simp) fun i h1 h2=>?_
  simp[List.getD,h2]
 rw[e]at h
 exact h
def Y5:DL:=fun ds Q=>∃nss:List (List Int),ds=[.lst (nss.map Cy)]∧nss.length<64∧(∀r∈nss,r≠[])∧Q (.lst ((K7 nss).map Cy))
theorem Vs{K:W.Frag}{H:Hp}{nss:List (List Int)}{vs:List V}(r:RpL K H (nss.map Cy) vs):∀ix:List Nat,(∀i∈ix,i<nss.length)→RpL K H (ix.map fun i=>Cy (nss.getD i [])) (ix.map fun i=>vs.getD i V.non)
 | [],_=>RpL.nil
 | i::ix,h=>by
  have hi:i<nss.length:=h i (.head _)
  have hv:i<vs.length:=by rw[RpL.len' r,List.length_map];exact hi
  obtain⟨d,e1,r1⟩:=RpL.at' i vs[i] r (List.getElem?_eq_getElem hv)
  have e2:d=Cy (nss.getD i []):=by
   rw[List.getElem?_map,List.getElem?_eq_getElem hi]at e1
   cases e1
   simp[List.getD,hi]
  have e3:vs.getD i V.non=vs[i]:=by simp[List.getD,hv]
  rw[List.map_cons,List.map_cons,e3,←e2]
  exact RpL.cons r1 (Vs r ix fun j hj=>h j (.tail _ hj))
theorem AbG{K:W.Frag}:Uw K (Ach K) Y5 where
 mono:=fun hq ⟨nss,e,l,n,h⟩=>⟨nss,e,l,n,hq _ h⟩
 ok:=fun O H ds xs Q hO r ⟨nss,e,l64,ne,h⟩=>by
  subst e
  obtain⟨x,r',rfl,ra,r3⟩:=Bc.mp r
  obtain rfl:=BL.mp r3
  obtain⟨p,vs,rfl,hs,hl⟩:=Et ra
  obtain⟨ll,each⟩:=Z9 hl
  refine⟨p,vs,fun i=>nss.getD i [],rfl,(Bk (O:=O) (H:=H)).seq hs,by omega,fun i v e=>?_,fun l hn=>?_⟩
  ·obtain⟨a,ea,ht⟩:=each i v e
   have hi:i<nss.length:=by
    have:=(List.getElem?_eq_some_iff.mp e).1
    omega
   refine⟨a,ea,(Bk (O:=O) (H:=H)).qZ ht,ne _ ?_⟩
   have:nss.getD i []=nss[i]:=by simp[List.getD,hi]
   show nss.getD i []∈nss
   rw[this]
   exact List.getElem_mem hi
  ·have nl:l∉O:=fun z=>hO l z hn
   refine h _ _ (Same.upd hn) (Jv ⟨l,_,rfl,MF nl,?_⟩)
   have rp:=Vs hl (Cz (fun i j=>HT.lexLt (nss.getD i []) (nss.getD j [])) nss.length) fun i hi=>List.mem_range.mp ((Cr _ _).mem_iff.mp hi)
   have em:(K7 nss).map Cy=(Cz (fun i j=>HT.lexLt (nss.getD i []) (nss.getD j [])) nss.length).map fun i=>Cy (nss.getD i []):=by
    unfold K7
    rw[List.map_map]
    rfl
   rw[em,ll]
   exact rp.mono (Same.upd hn).mask
theorem WX{a:Expr}{tl:DTA}{p pos:Pos}(hm:X.mg "sorted"=none)(ha:DA X [a] tl)(hg:Gl X "sorted":=by rfl)(hv:bootBuiltins "sorted"=some (.builtin "sorted"):=by rfl)(he:starEach [a] X.env=(false,eval a X.env)::starEach [] X.env:=by rfl)
  (hpl:(backTo pos (starEach [] X.env)).any (·.1)=false:=by rfl):DE X (.Call (.Name "sorted" p) [a] [] pos) (dCB Y5 tl):=Rw X8 AbG hg hm hv ha (he:=he) (hpl:=hpl)
end L2
namespace L2
open PySem Spec PyProof.Rows
open PySem.W (KasT kas_asc kas_desc kas_tail3 kas_descPart kas_count kas_place kas_bin kas_sort kas_rev)
theorem Gp{α β:Type}(bt:Nat→Nat→Bool)(f:α→KasT β):∀t:KasT α,Al bt (t.bind f)=Al bt (f (Al bt t))
 |.ret _=>rfl
 |.ask i j k=>Gp bt f (k (bt i j))
structure Mz(bt:Nat→Nat→Bool):Prop where
 asy:∀i j,bt i j=true→bt j i=false
 neg:∀i j k,bt j i=false→bt k j=false→bt k i=false
theorem Mz.irr{bt:Nat→Nat→Bool}(O:Mz bt)(i:Nat):bt i i=false:=by
 cases h:bt i i
 ·rfl
 ·have:=O.asy i i h
  rw[h]at this
  exact this
abbrev gt(p:Array Nat)(i:Nat):Nat:=p.getD i 0
theorem IV{p:Array Nat}{i j:Nat}(hj:j≤p.size)(k:Nat):gt (kas_rev p i j) k=if i≤k∧k<j then gt p (i+j-1-k)else gt p k:=by
 have h:=getElem?_mirror_all (xs:=p) (i:=i) hj k
 unfold gt kas_rev
 simp only[Array.getD_eq_getD_getElem?]
 rw[h]
 split<;>rfl
theorem HW(p:Array Nat)(i j:Nat):(kas_rev p i j).size=p.size:=mirror_size _ _ _ _
theorem Adt{p:Array Nat}{src d:Nat}(hs:src<p.size)(hd:d≤src)(k:Nat):gt (bubble p src d) k=if k=src-d then gt p src else if src-d<k∧k≤src then gt p (k-1)else gt p k:=by
 have h:=getElem?_bubble (xs:=p) hs d hd k
 unfold gt
 simp only[Array.getD_eq_getD_getElem?]
 rw[h]
 repeat' split
 all_goals first|rfl|(exfalso;omega)|(congr 2;omega)
section
variable{bt:Nat→Nat→Bool}(O:Mz bt)
def Up(bt:Nat→Nat→Bool)(p:Array Nat)(m:Nat):Prop:=∀i j,i<j→j<m→bt (gt p j) (gt p i)=false
def Dn(bt:Nat→Nat→Bool)(p:Array Nat)(m:Nat):Prop:=∀i j,i<j→j<m→bt (gt p i) (gt p j)=false
def Fl(bt:Nat→Nat→Bool)(p:Array Nat)(m q:Nat):Prop:=∀i j,m≤i+q+1→i<m→m≤j+q+1→j<m→bt (gt p i) (gt p j)=false
include O
theorem Up.succ{p:Array Nat}{m:Nat}(h:Up bt p m)(m0:0<m)(hb:bt (gt p m) (gt p (m-1))=false):Up bt p (m+1):=fun i j hi hj=>by
 by_cases e:j=m
 ·subst e
  by_cases e2:i=j-1
  ·subst e2;exact hb
  ·exact O.neg _ (gt p (j-1)) _ (h i (j-1) (by omega) (by omega)) hb
 ·exact h i j hi (by omega)
theorem Dn.succ{p:Array Nat}{m:Nat}(h:Dn bt p m)(m0:0<m)(hb:bt (gt p (m-1)) (gt p m)=false):Dn bt p (m+1):=fun i j hi hj=>by
 by_cases e:j=m
 ·subst e
  by_cases e2:i=j-1
  ·subst e2;exact hb
  ·exact O.neg _ (gt p (j-1)) _ hb (h i (j-1) (by omega) (by omega))
 ·exact h i j hi (by omega)
theorem Xg{p:Array Nat}:∀f m,0<m→Up bt p m→Up bt p (Al bt (kas_asc p f m))∧m≤Al bt (kas_asc p f m)∧Al bt (kas_asc p f m)≤m+f∧(Al bt (kas_asc p f m)<m+f→bt (gt p (Al bt (kas_asc p f m))) (gt p (Al bt (kas_asc p f m)-1))=true)
 |0,m,_,h=>⟨h,Nat.le_refl _,Nat.le_refl _,fun z=>absurd z (Nat.lt_irrefl _)⟩
 | f+1,m,m0,h=>by
  have e:Al bt (kas_asc p (f+1) m)=if bt (gt p m) (gt p (m-1))=true then m else Al bt (kas_asc p f (m+1)):=by
   show Al bt (if bt (gt p m) (gt p (m-1))=true then KasT.ret m else kas_asc p f (m+1))=_
   split<;>rfl
  rw[e]
  by_cases hb:bt (gt p m) (gt p (m-1))=true
  ·rw[if_pos hb]
   exact⟨h,Nat.le_refl _,by omega,fun _=>hb⟩
  ·rw[if_neg hb]
   obtain⟨a,b,c,d⟩:=Xg f (m+1) (by omega) (Up.succ O h m0 (by simpa using hb))
   exact⟨a,by omega,by omega,fun z=>d (by omega)⟩
theorem Dn.rev{p:Array Nat}{m q:Nat}(hs:m≤p.size)(hq:q<m)(h:Dn bt p m)(hf:Fl bt p m q):Dn bt (kas_rev p (m-(q+1)) m) m∧Fl bt (kas_rev p (m-(q+1)) m) m q:=by
 refine⟨fun i j hi hj=>?_,fun i j hi1 hi2 hj1 hj2=>?_⟩
 ·rw[IV hs,IV hs]
  by_cases e1:m-(q+1)≤i∧i<m
  ·rw[if_pos e1,if_pos (by omega)]
   exact hf _ _ (by omega) (by omega) (by omega) (by omega)
  ·rw[if_neg e1]
   by_cases e2:m-(q+1)≤j∧j<m
   ·rw[if_pos e2]
    exact h _ _ (by omega) (by omega)
   ·rw[if_neg e2]
    exact h _ _ hi hj
 ·rw[IV hs,IV hs,if_pos (by omega),if_pos (by omega)]
  exact hf _ _ (by omega) (by omega) (by omega) (by omega)
theorem Ph:∀(f:Nat)(p:Array Nat)(m q:Nat),m+f≤p.size→q<m→Dn bt p m→Fl bt p m q →
  Dn bt (Al bt (kas_desc f p m q)).1 (Al bt (kas_desc f p m q)).2.1∧Fl bt (Al bt (kas_desc f p m q)).1 (Al bt (kas_desc f p m q)).2.1 (Al bt (kas_desc f p m q)).2.2∧m≤(Al bt (kas_desc f p m q)).2.1∧(Al bt (kas_desc f p m q)).2.1≤m+f∧(Al bt (kas_desc f p m q)).2.2<(Al bt (kas_desc f p m q)).2.1∧(Al bt (kas_desc f p m q)).1.size=p.size
 |0,p,m,q,hs,hq,h,hf=>⟨h,hf,Nat.le_refl _,Nat.le_refl _,hq,rfl⟩
 | f+1,p,m,q,hs,hq,h,hf=>by
  have one:∀p:Array Nat,Dn bt p (m+1)→Fl bt p (m+1) 0:=fun p _ i j h1 h2 h3 h4=>by
   have:i=j:=by omega
   subst this
   exact O.irr _
  have e:Al bt (kas_desc (f+1) p m q)=if bt (gt p m) (gt p (m-1))=true then(if q>0 then Al bt (kas_desc f (kas_rev p (m-(q+1)) m) (m+1) 0)else Al bt (kas_desc f p (m+1) 0))
    else if bt (gt p (m-1)) (gt p m)=true then(p,m,q)else Al bt (kas_desc f p (m+1) (q+1)):=by
   show Al bt (if bt (gt p m) (gt p (m-1))=true then(if q>0 then kas_desc f (kas_rev p (m-(q+1)) m) (m+1) 0 else kas_desc f p (m+1) 0)else KasT.ask (gt p (m-1)) (gt p m) fun d=>if d=true then .ret (p,m,q)else kas_desc f p (m+1) (q+1))=_
   split
   ·split<;>rfl
   ·show Al bt (if bt (gt p (m-1)) (gt p m)=true then KasT.ret (p,m,q)else kas_desc f p (m+1) (q+1))=_
    split<;>rfl
  rw[e]
  by_cases hb:bt (gt p m) (gt p (m-1))=true
  ·rw[if_pos hb]
   by_cases q0:q>0
   ·rw[if_pos q0]
    obtain⟨d1,f1⟩:=Dn.rev O (by omega) hq h hf
    have hm:bt (gt (kas_rev p (m-(q+1)) m) (m-1)) (gt (kas_rev p (m-(q+1)) m) m)=false:=by
     rw[IV (by omega),IV (by omega),if_pos (by omega),if_neg (by omega)]
     refine O.asy _ _ ?_
     cases hx:bt (gt p m) (gt p (m-(q+1)+m-1-(m-1)))
     ·have h1:=hf (m-(q+1)+m-1-(m-1)) (m-1) (by omega) (by omega) (by omega) (by omega)
      have:=O.neg _ _ _ h1 hx
      rw[hb]at this
      cases this
     ·rfl
    have d2:=Dn.succ O d1 (by omega) hm
    obtain⟨a1,a2,a3,a4,a5,a6⟩:=Ph f _ (m+1) 0 (by rw[HW];omega) (by omega) d2 (one _ d2)
    exact⟨a1,a2,by omega,by omega,a5,by rw[a6,HW]⟩
   ·rw[if_neg q0]
    have d2:=Dn.succ O h (by omega) (O.asy _ _ hb)
    obtain⟨a1,a2,a3,a4,a5,a6⟩:=Ph f p (m+1) 0 (by omega) (by omega) d2 (one _ d2)
    exact⟨a1,a2,by omega,by omega,a5,a6⟩
  ·rw[if_neg hb]
   by_cases hc:bt (gt p (m-1)) (gt p m)=true
   ·rw[if_pos hc]
    exact⟨h,hf,Nat.le_refl _,by show m≤m+(f+1);omega,hq,rfl⟩
   ·rw[if_neg hc]
    have hb':bt (gt p m) (gt p (m-1))=false:=by simpa using hb
    have hc':bt (gt p (m-1)) (gt p m)=false:=by simpa using hc
    have d2:=Dn.succ O h (by omega) hc'
    obtain⟨a1,a2,a3,a4,a5,a6⟩:=Ph f p (m+1) (q+1) (by omega) (by omega) d2 (fun i j h1 h2 h3 h4=>by
     by_cases ei:i=m
     ·subst ei
      by_cases ej:j=i
      ·subst ej;exact O.irr _
      ·exact O.neg _ (gt p (i-1)) _ (hf (i-1) j (by omega) (by omega) (by omega) (by omega)) hb'
     ·by_cases ej:j=m
      ·subst ej
       exact O.neg _ (gt p (j-1)) _ hc' (hf i (j-1) (by omega) (by omega) (by omega) (by omega))
      ·exact hf i j (by omega) (by omega) (by omega) (by omega))
    exact⟨a1,a2,by omega,by omega,a5,a6⟩
theorem AaZ{p:Array Nat}{m k:Nat}(m0:0<m)(hs:k≤p.size)(hm:m≤k)(h:Dn bt p m):Up bt (Al bt (kas_tail3 m k p)).2 (Al bt (kas_tail3 m k p)).1∧m≤(Al bt (kas_tail3 m k p)).1∧(Al bt (kas_tail3 m k p)).1≤k∧(Al bt (kas_tail3 m k p)).2.size=p.size:=by
 have u:Up bt (kas_rev p 0 m) m:=fun i j hi hj=>by
  rw[IV (by omega),IV (by omega),if_pos (by omega),if_pos (by omega)]
  exact h _ _ (by omega) (by omega)
 have e:Al bt (kas_tail3 m k p)=(Al bt (kas_asc (kas_rev p 0 m) (k-m) m),kas_rev p 0 m):=Gp bt _ _
 rw[e]
 obtain⟨a,b,c,_⟩:=Xg O (k-m) m m0 u
 exact⟨a,b,by show Al bt (kas_asc (kas_rev p 0 m) (k-m) m)≤k;omega,HW _ _ _⟩
theorem Zc{p:Array Nat}{m k:Nat}(m0:0<m)(hs:k≤p.size)(hm:m<k)(h:Dn bt p (m+1)):Up bt (Al bt (kas_descPart m k p)).2 (Al bt (kas_descPart m k p)).1∧0<(Al bt (kas_descPart m k p)).1∧(Al bt (kas_descPart m k p)).1≤k∧(Al bt (kas_descPart m k p)).2.size=p.size:=by
 obtain⟨a1,a2,a3,a4,a5,a6⟩:=Ph O (k-(m+1)) p (m+1) 0 (by omega) (by omega) h (fun i j h1 h2 h3 h4=>by
  have:i=j:=by omega
  subst this
  exact O.irr _)
 have e:Al bt (kas_descPart m k p)=Al bt (if(Al bt (kas_desc (k-(m+1)) p (m+1) 0)).2.2>0 then kas_tail3 (Al bt (kas_desc (k-(m+1)) p (m+1) 0)).2.1 k (kas_rev (Al bt (kas_desc (k-(m+1)) p (m+1) 0)).1 ((Al bt (kas_desc (k-(m+1)) p (m+1) 0)).2.1-((Al bt (kas_desc (k-(m+1)) p (m+1) 0)).2.2+1)) (Al bt (kas_desc (k-(m+1)) p (m+1) 0)).2.1)
   else kas_tail3 (Al bt (kas_desc (k-(m+1)) p (m+1) 0)).2.1 k (Al bt (kas_desc (k-(m+1)) p (m+1) 0)).1):=Gp bt _ _
 rw[e]
 generalize Al bt (kas_desc (k-(m+1)) p (m+1) 0)=r at *
 obtain⟨p1,n1,q1⟩:=r
 dsimp only at *
 split
 ·obtain⟨d1,_⟩:=Dn.rev O (by omega) a5 a1 a2
  obtain⟨b1,b2,b3,b4⟩:=AaZ O (p:=kas_rev p1 (n1-(q1+1)) n1) (m:=n1) (k:=k) (by omega) (by rw[HW];omega) (by omega) d1
  exact⟨b1,by omega,b3,by rw[b4,HW,a6]⟩
 ·obtain⟨b1,b2,b3,b4⟩:=AaZ O (p:=p1) (m:=n1) (k:=k) (by omega) (by omega) (by omega) a1
  exact⟨b1,by omega,b3,by rw[b4,a6]⟩
theorem AeA{p:Array Nat}{k:Nat}(k0:0<k)(hs:k≤p.size):Up bt (Al bt (kas_count k p)).2 (Al bt (kas_count k p)).1∧0<(Al bt (kas_count k p)).1∧(Al bt (kas_count k p)).1≤k∧(Al bt (kas_count k p)).2.size=p.size:=by
 obtain⟨a1,a2,a3,a4⟩:=Xg O (p:=p) (k-1) 1 (by omega) (fun i j h1 h2=>by omega)
 have e:Al bt (kas_count k p)=Al bt (if((Al bt (kas_asc p (k-1) 1))==k)=true then .ret ((Al bt (kas_asc p (k-1) 1)),p)else if(Al bt (kas_asc p (k-1) 1))>1 then .ask (gt p 0) (gt p ((Al bt (kas_asc p (k-1) 1))-1)) fun c=>if c=true then .ret ((Al bt (kas_asc p (k-1) 1)),p)else kas_descPart (Al bt (kas_asc p (k-1) 1)) k (kas_rev p 0 (Al bt (kas_asc p (k-1) 1)))
   else kas_descPart (Al bt (kas_asc p (k-1) 1)) k p):=Gp bt _ _
 rw[e]
 generalize Al bt (kas_asc p (k-1) 1)=m at *
 split
 ·exact⟨a1,by show 0<m;omega,by show m≤k;omega,rfl⟩
 ·rename_i hne
  have hlt:m<k:=by
   have:m≠k:=by simpa using hne
   omega
  have hb:=a4 (by omega)
  split
  ·rename_i m1
   show Up bt (Al bt (if bt (gt p 0) (gt p (m-1))=true then KasT.ret (m,p)else kas_descPart m k (kas_rev p 0 m))).2 (Al bt (if bt (gt p 0) (gt p (m-1))=true then KasT.ret (m,p)else kas_descPart m k (kas_rev p 0 m))).1∧0<(Al bt (if bt (gt p 0) (gt p (m-1))=true then KasT.ret (m,p)else kas_descPart m k (kas_rev p 0 m))).1∧(Al bt (if bt (gt p 0) (gt p (m-1))=true then KasT.ret (m,p)else kas_descPart m k (kas_rev p 0 m))).1≤k∧(Al bt (if bt (gt p 0) (gt p (m-1))=true then KasT.ret (m,p)else kas_descPart m k (kas_rev p 0 m))).2.size=p.size
   by_cases hc:bt (gt p 0) (gt p (m-1))=true
   ·rw[if_pos hc]
    exact⟨a1,by show 0<m;omega,by show m≤k;omega,rfl⟩
   ·rw[if_neg hc]
    have hc':bt (gt p 0) (gt p (m-1))=false:=by simpa using hc
    have fl:∀i j,i<m→j<m→bt (gt p i) (gt p j)=false:=fun i j hi hj=>by
     have hU:∀i j,i≤j→j<m→bt (gt p j) (gt p i)=false:=fun i j h1 h2=>by
      by_cases e:i=j
      ·subst e;exact O.irr _
      ·exact a1 i j (by omega) h2
     have x1:=hU 0 i (by omega) hi
     by_cases h:i≤j
     ·exact O.neg _ (gt p 0) _ (O.neg _ (gt p (m-1)) _ (hU j (m-1) (by omega) (by omega)) hc') x1
     ·exact hU j i (by omega) hi
    have d:Dn bt (kas_rev p 0 m) (m+1):=fun i j hi hj=>by
     rw[IV (by omega),IV (by omega),if_pos (by omega)]
     by_cases ej:j<m
     ·rw[if_pos (by omega)]
      exact fl _ _ (by omega) (by omega)
     ·rw[if_neg (by omega)]
      obtain rfl:j=m:=by omega
      exact O.neg _ (gt p (j-1)) _ (O.asy _ _ hb) (fl _ _ (by omega) (by omega))
    obtain⟨b1,b2,b3,b4⟩:=Zc O (p:=kas_rev p 0 m) (m:=m) (k:=k) (by omega) (by rw[HW];exact hs) hlt d
    exact⟨b1,b2,b3,by rw[b4,HW]⟩
  ·have e1:m=1:=by omega
   subst e1
   have d:Dn bt p (1+1):=fun i j hi hj=>by
    obtain rfl:i=0:=by omega
    obtain rfl:j=1:=by omega
    exact O.asy _ _ hb
   exact Zc O (by omega) hs hlt d
theorem up_place{p:Array Nat}{k:Nat}(h:Up bt p k):∀f l r,r≤l+f→l≤r→r≤k→(∀i,i<l→bt (gt p k) (gt p i)=false)→(∀i,r≤i→i<k→bt (gt p i) (gt p k)=false) →
  (∀i,i<Al bt (kas_place p k f l r)→bt (gt p k) (gt p i)=false)∧(∀i,Al bt (kas_place p k f l r)≤i→i<k→bt (gt p i) (gt p k)=false)∧Al bt (kas_place p k f l r)≤k
 | 0,l,r,hf,hl,hr,h1,h2=>by
  obtain rfl:l=r:=by omega
  exact⟨h1,h2,hr⟩
 | f+1,l,r,hf,hl,hr,h1,h2=>by
  by_cases hlr:l≥r
  ·have e:Al bt (kas_place p k (f+1) l r)=l:=by
    show Al bt (if l≥r then _ else _)=_
    rw[if_pos hlr]
    rfl
   rw[e]
   obtain rfl:l=r:=by omega
   exact⟨h1,h2,hr⟩
  ·have e:Al bt (kas_place p k (f+1) l r)=if bt (gt p k) (gt p ((l+r) / 2))=true then Al bt (kas_place p k f l ((l+r) / 2))else Al bt (kas_place p k f ((l+r) / 2+1) r):=by
    show Al bt (if l≥r then _ else _)=_
    rw[if_neg hlr]
    show Al bt (if bt (gt p k) (gt p ((l+r) / 2))=true then _ else _)=_
    split<;>rfl
   rw[e]
   have hU:∀i j,i≤j→j<k→bt (gt p j) (gt p i)=false:=fun i j h1 h2=>by
    by_cases e:i=j
    ·subst e;exact O.irr _
    ·exact h i j (by omega) h2
   by_cases hb:bt (gt p k) (gt p ((l+r) / 2))=true
   ·rw[if_pos hb]
    exact up_place h f l _ (by omega) (by omega) (by omega) h1 (fun i hi hk=>O.neg _ (gt p ((l+r) / 2)) _ (O.asy _ _ hb) (hU _ _ hi hk))
   ·rw[if_neg hb]
    have hb':bt (gt p k) (gt p ((l+r) / 2))=false:=by simpa using hb
    exact up_place h f _ r (by omega) (by omega) hr (fun i hi=>O.neg _ (gt p ((l+r) / 2)) _ (hU _ _ (by omega) (by omega)) hb') h2
theorem Aeq:∀(f:Nat)(p:Array Nat)(k:Nat),k+f≤p.size→Up bt p k→Up bt (Al bt (kas_bin f p k)) (k+f)
 |0,p,k,_,h=>h
 | f+1,p,k,hs,h=>by
  have e:Al bt (kas_bin (f+1) p k)=Al bt (kas_bin f (bubble p k (k-Al bt (kas_place p k k 0 k))) (k+1)):=Gp bt _ _
  rw[e]
  obtain⟨a,b,c⟩:=up_place O h k 0 k (by omega) (by omega) (Nat.le_refl _) (fun i hi=>absurd hi (by omega)) (fun i h1 h2=>absurd h1 (by omega))
  generalize Al bt (kas_place p k k 0 k)=l at *
  have u:Up bt (bubble p k (k-l)) (k+1):=fun i j hi hj=>by
   rw[Adt (by omega) (by omega),Adt (by omega) (by omega)]
   have el:k-(k-l)=l:=by omega
   rw[el]
   repeat' split
   all_goals first
    |(exfalso;omega)
    |exact h _ _ (by omega) (by omega)
    |exact a _ (by omega)
    |exact b _ (by omega) (by omega)
  have:=Aeq f _ (k+1) (by rw[bubble_size];omega) u
  rw[show k+(f+1)=k+1+f by omega]
  exact this
theorem Ahw(n:Nat):Up bt (Al bt (kas_sort n)) n:=by
 by_cases n0:n=0
 ·subst n0
  exact fun i j _ h=>absurd h (by omega)
 have e:Al bt (kas_sort n)=Al bt (if(Al bt (kas_count n (Rg n))).1<n then kas_bin (n-max (Al bt (kas_count n (Rg n))).1 1) (Al bt (kas_count n (Rg n))).2 (max (Al bt (kas_count n (Rg n))).1 1)else .ret (Al bt (kas_count n (Rg n))).2):=Gp bt _ _
 rw[e]
 have sz:(Rg n).size=n:=by simp
 obtain⟨a,b,c,d⟩:=AeA O (p:=Rg n) (k:=n) (by omega) (by omega)
 generalize Al bt (kas_count n (Rg n))=r at *
 obtain⟨m,p⟩:=r
 dsimp only at *
 split
 ·rw[show max m 1=m by omega]
  have:=Aeq O (n-m) p m (by omega) a
  rw[show m+(n-m)=n by omega]at this
  exact this
 ·rw[show n=m by omega]
  exact a
end
theorem AbW{bt:Nat→Nat→Bool}(O:Mz bt)(n:Nat):(Cz bt n).Pairwise fun i j=>bt j i=false:=by
 have u:=Ahw O n
 have hp:(Cz bt n).length=n:=by
  have:=(Cr bt n).length_eq
  simpa using this
 rw[List.pairwise_iff_getElem]
 intro i j hi hj hij
 have:=u i j hij (by omega)
 unfold Cz at hi hj ⊢
 simp only[gt,Array.getD_eq_getD_getElem?]at this
 rw[Array.length_toList]at hi hj
 rw[Array.getElem?_eq_getElem hi,Array.getElem?_eq_getElem hj]at this
 simpa using this
end L2
namespace L2
open PySem Spec PyProof.Rows
theorem Qx(x y:Int)(a b:List Int):HT.lexLt (x::a) (y::b)=if x=y then HT.lexLt a b else decide (x<y):=by
 simp only[HT.lexLt]
theorem Aam:∀a b:List Int,HT.lexLt a b=true→HT.lexLt b a=false
 | [],[],h=>by simp[HT.lexLt]at h
 | [],_::_,_=>by simp[HT.lexLt]
 |_::_,[],h=>by simp[HT.lexLt]at h
 | x::a,y::b,h=>by
  rw[Qx]at h ⊢
  by_cases e:x=y
  ·subst e
   rw[if_pos rfl]at h ⊢
   exact Aam a b h
  ·rw[if_neg e]at h
   rw[if_neg (fun z=>e z.symm)]
   have:x<y:=by simpa using h
   simp only[decide_eq_false_iff_not]
   omega
theorem Aa7:∀a b c:List Int,HT.lexLt b a=false→HT.lexLt c b=false→HT.lexLt c a=false
 | [],b,c,h1,h2=>by cases c<;>simp[HT.lexLt]
 |x::a,[],c,h1,h2=>by simp[HT.lexLt]at h1
 |x::a,y::b,[],h1,h2=>by simp[HT.lexLt]at h2
 | x::a,y::b,z::c,h1,h2=>by
  rw[Qx]at h1 h2 ⊢
  by_cases e1:y=x
  ·subst e1
   rw[if_pos rfl]at h1
   by_cases e2:z=y
   ·subst e2
    rw[if_pos rfl]at h2 ⊢
    exact Aa7 a b c h1 h2
   ·rw[if_neg e2]at h2 ⊢
    exact h2
  ·rw[if_neg e1]at h1
   have q1:¬y<x:=by simpa using h1
   by_cases e2:z=y
   ·subst e2
    rw[if_neg e1]
    exact h1
   ·rw[if_neg e2]at h2
    have q2:¬z<y:=by simpa using h2
    rw[if_neg (by omega)]
    simp only[decide_eq_false_iff_not]
    omega
theorem Ae7:∀a b:List Int,HT.lexLt a b=false→HT.lexLt b a=false→a=b
 | [],[],_,_=>rfl
 | [],_::_,h,_=>by simp[HT.lexLt]at h
 |_::_,[],_,h=>by simp[HT.lexLt]at h
 | x::a,y::b,h1,h2=>by
  rw[Qx]at h1 h2
  by_cases e:x=y
  ·subst e
   rw[if_pos rfl]at h1 h2
   rw[Ae7 a b h1 h2]
  ·rw[if_neg e]at h1
   rw[if_neg (fun z=>e z.symm)]at h2
   have q1:¬x<y:=by simpa using h1
   have q2:¬y<x:=by simpa using h2
   omega
theorem Yh(nss:List (List Int)):Mz fun i j=>HT.lexLt (nss.getD i []) (nss.getD j []):=⟨fun _ _=>Aam _ _,fun _ _ _=>Aa7 _ _ _⟩
theorem Vy(nss:List (List Int)):(K7 nss).Pairwise fun a b=>HT.lexLt b a=false:=by
 unfold K7
 rw[List.pairwise_map]
 exact AbW (Yh nss) nss.length
theorem Ai3{a b:List (List Int)}(ha:a.Pairwise fun x y=>HT.lexLt y x=false)(hb:b.Pairwise fun x y=>HT.lexLt y x=false)(p:a.Perm b):a=b :=
 p.eq_of_pairwise (fun x y _ _ h1 h2=>Ae7 x y h2 h1) ha hb
theorem AcL{a b:List (List Int)}(p:a.Perm b):K7 a=K7 b:=Ai3 (Vy a) (Vy b) ((Dw a).trans (p.trans (Dw b).symm))
end L2
namespace L2
open PySem Spec PyProof.Rows SeqAt
section
variable{X:Cx}{e:Expr}{te:DTE}{pos:Pos}
end
end L2
namespace L2
open PySem
end L2
namespace L2
open PySem Spec PyProof.Rows
open PySem.W (KasT kas_sort)
def O7:List (List Int)→List (List Int)→Bool
 | [],[]=>false
 | [],_::_=>true
 |_::_,[]=>false
 |a::r,b::s=>if a=b then O7 r s else HT.lexLt a b
abbrev nestD(rs:List (List Int)):Dt:=.tup (rs.map Cy)
inductive Iw(h:Heap):List Value→List (List Int)→Prop
 |nil:Iw h [] []
 |cons {a:Addr} {xs:Array Value} {ns:List Int} {vs:List Value} {rs:List (List Int)} (t:IsTup h a xs) (i:IntsAre xs.toList ns) (r:Iw h vs rs):Iw h (.ref a::vs) (ns::rs)
section
variable{prog:Program}{w:World}{A:Around}{E:Value→Shared→Prop}{s:Shared}
theorem Vp(hu:A.units+8<cLine){Q:Bool→Shared→Prop}:∀(vs us:List Value)(rs ss:List (List Int))(i:Nat),Iw s.heap vs rs→Iw s.heap us ss→Q (O7 rs ss) s→W.KatLex prog w A false (decide (vs.length<us.length)) Q (vs.zip us) i s
 |_,_,_,_,_,.nil,.nil,q=>q
 | _,_,_,_,_,.nil,.cons _ _ _,q=>by
  rw[decide_eq_true (by simp)]
  exact W.kat_nil q
 | _,_,_,_,_,.cons _ _ _,.nil,q=>by
  rw[decide_eq_false (by simp)]
  exact W.kat_nil q
 | _,_,_,_,i,.cons (a:=a) (vs:=vs) (rs:=rs) (ns:=ns) t1 i1 h1,.cons (a:=b) (vs:=us) (rs:=ss) (ns:=ms) t2 i2 h2,q=>by
  have q:Q (if ns=ms then O7 rs ss else HT.lexLt ns ms) s:=q
  have e:=RD (A:=A) (s:=s) t1 t2 i1 i2 hu
  refine W.kat_cons (e prog w _ _ (W.kat_go (fun e=>W.kat_yes ?_) (fun e=>W.kat_no ?_)))
  ·have e:ns=ms:=of_decide_eq_true e
   rw[if_pos e]at q
   have:=Vp hu vs us rs ss (i+1) h1 h2 q
   rw[show decide ((Value.ref a::vs).length<(Value.ref b::us).length)=decide (vs.length<us.length)from decide_eq_decide.mpr (by simp)]
   exact this
  ·have e:¬ns=ms:=of_decide_eq_false e
   rw[if_neg e]at q
   exact W.kat_one _ _ (HT.Lh t1 t2 i1 i2 (by omega) q)
theorem Aec{x y:Addr}{xs ys:Array Value}{rs ss:List (List Int)}{Q:Bool→Shared→Prop}(hu:A.units+8<cLine)(hx:IsTup s.heap x xs)(hy:IsTup s.heap y ys)(hi:Iw s.heap xs.toList rs)(hj:Iw s.heap ys.toList ss)(q:Q (O7 rs ss) s) :
  wpAny (model prog w) A (keyLt' (tuples' false) (.ref x) (.ref y)) Q E s:=by
 obtain⟨o1,g1,_,n1,d1⟩:=hx
 obtain⟨o2,g2,_,n2,d2⟩:=hy
 have:=Vp (prog:=prog) (w:=w) (A:=A) (Q:=Q) hu xs.toList ys.toList rs ss 0 hi hj q
 exact W.kat_lt g1 d1 g2 d2 (by simpa using this)
end
theorem Wq{h:Heap}:∀its:List Value,(∀v∈its,∃a xs rs,v=.ref a∧IsTup h a xs∧Iw h xs.toList rs∧rs≠[])→∃fs,W.KatTups h its fs∧fs.length=its.length∧∀f∈fs,∃b ys,f=Value.ref b∧IsTup h b ys
 | [],_=>⟨[],W.KatTups.nil,rfl,fun _ z=>by cases z⟩
 | v::its,hv=>by
  obtain⟨fs,k,lf,ff⟩:=Wq its fun x hx=>hv x (.tail _ hx)
  obtain⟨a,xs,rs,rfl,⟨o,g,c,n,d⟩,hi,ne⟩:=hv v (.head _)
  cases hx:xs.toList with
  |nil=>rw[hx]at hi;cases hi;exact absurd rfl ne
  | cons x r =>
   rw[hx]at hi
   cases hi with
   | @cons b ys _ _ _ t i _ =>
    have e0:xs[0]? = some (Value.ref b):=by rw[←Array.getElem?_toList,hx];rfl
    refine⟨.ref b::fs,W.KatTups.cons g c d e0 k,by rw[List.length_cons,List.length_cons,lf],fun f hf=>?_⟩
    rcases List.mem_cons.mp hf with rfl|hf
    ·exact⟨b,ys,rfl,t⟩
    ·exact ff f hf
inductive Ln(K:W.Frag)(H:Hp):List V→List (List Int)→Prop
 |nil:Ln K H [] []
 |cons {a:Addr} {ns:List Int} {vs:List V} {rs:List (List Int)} (t:SqT K H a (ns.map V.int)) (r:Ln K H vs rs):Ln K H (.ref a::vs) (ns::rs)
section
variable{X:Cx}
def AcT(K:W.Frag):List V→Hp→VK→Prop:=fun xs H Q=>∃p vs,∃nss:Nat→List (List Int),xs=[.ref p]∧SqL K H p vs∧vs.length<64∧(∀(i:Nat)(v:V),vs[i]? = some v→∃a ws,v=.ref a∧SqT K H a ws∧Ln K H ws (nss i)∧nss i≠[]) ∧
 ∀l,H l=none→Q (.ref l) (upd H l (.lst ((Cz (fun i j=>O7 (nss i) (nss j)) vs.length).map fun i=>vs.getD i V.non)))
theorem Xj(hu:X.A.in1.in1.units+8<cLine):Kr X (.builtin "sorted") (AcT X.K):=by
 intro pins s σ H xs us Q I r h
 obtain⟨p,vs,nss,rfl,hl,h64,each,q⟩:=h
 obtain⟨u,rfl,r1⟩:=vals1 r
 cases r1
 obtain⟨its,rv,pl,hz⟩:=I.list hl
 have hlen:its.length=vs.length:=rv.length.symm
 have on:∀h':Heap,(∀b o,s.heap.get? b=some o→h'.get? b=some o)→∀{ws:List V} {rs:List (List Int)} {us:List Value},Ln X.K H ws rs→Vals ws us→Iw h' us rs:=fun h' k {ws rs us} ra=>by
  induction ra generalizing us with
  | nil =>
   intro rv
   cases rv
   exact .nil
  | @cons a ns vs rs t _ ih =>
   intro rv
   cases rv with
   | cons r1 r2 =>
    cases r1
    obtain⟨ys,r3,⟨o,g,rest⟩,_⟩:=I.tuple t
    exact .cons ⟨o,k a o g,rest⟩ (intsAre_of r3) (ih r2)
 have row:∀h':Heap,(∀b o,s.heap.get? b=some o→h'.get? b=some o)→∀(i:Nat)(v:Value),its[i]? = some v→∃a xs,v=.ref a∧IsTup h' a xs∧Iw h' xs.toList (nss i)∧nss i≠[]:=fun h' k i v e=>by
  obtain⟨x,e1,r2⟩:=Vals.at rv i v e
  obtain⟨a,ws,rfl,ht,ra,ne⟩:=each i x e1
  cases r2
  obtain⟨ys,r3,⟨o,g,rest⟩,_⟩:=I.tuple ht
  exact⟨a,ys.toArray,rfl,⟨o,k a o g,rest⟩,on h' k ra r3,ne⟩
 refine TV (κ:=tuples' false) (bt:=fun i j=>O7 (nss i) (nss j)) (vs:=its) pl.isList (by omega) (fun h' k _ R hR=>?_) (fun h' k i j hi hj C hC=>?_) fun h' D c k hD g=>?_
 ·obtain⟨fs,kt,lf,ff⟩:=Wq (h:=h') its fun v hv=>by
   obtain⟨i,hi,e⟩:=List.getElem_of_mem hv
   obtain⟨a,xs,e1,t,n,ne⟩:=row h' k i v (by rw[←e];exact List.getElem?_eq_getElem hi)
   exact⟨a,xs,_,e1,t,n,ne⟩
  refine W.kat_kind (s:={s with heap:=h'}) (T:=.type "tuple") kt (by omega) (fun v hv=>?_) (by decide) hR
  obtain⟨b,ys,rfl,⟨o,g,c,_⟩⟩:=ff v hv
  rw[←c]
  exact(W.Looks.ld g).andThen .now
 ·obtain⟨a,xs,e1,t1,n1,_⟩:=row h' k i _ (List.getElem?_eq_getElem hi)
  obtain⟨b,ys,e2,t2,n2,_⟩:=row h' k j _ (List.getElem?_eq_getElem hj)
  have d1:its.getD i Value.none=.ref a:=by simp[List.getD,hi,e1]
  have d2:its.getD j Value.none=.ref b:=by simp[List.getD,hj,e2]
  unfold W.kas_ask
  rw[d1,d2]
  exact Aec (s:={s with heap:=h'}) hu t1 t2 n1 n2 hC
 ·have ib:∀i∈Cz (fun i j=>O7 (nss i) (nss j)) its.length,i<vs.length:=fun i hi=>by
   have:=(Cr _ _).mem_iff.mp hi
   rw[←hlen]
   exact List.mem_range.mp this
  have vp:=NT rv _ ib
  rw[hlen]at vp g
  have lz:((Cz (fun i j=>O7 (nss i) (nss j)) vs.length).map fun i=>vs.getD i V.non).length≤sizeLine:=by
   rw[List.length_map,(Cr _ _).length_eq,List.length_range]
   exact hz
  exact⟨.ref D,_,I.laid (t':=s.toks) k hD (show Ej X.prog X.w _ h' _ (.lst _)from⟨lz,_,c,vp,g⟩),rfl,q _ (I.hok.fresh hD)⟩
def V4(nss:List (List (List Int))):List (List (List Int)):=(Cz (fun i j=>O7 (nss.getD i []) (nss.getD j [])) nss.length).map fun i=>nss.getD i []
theorem Hy(nss:List (List (List Int))):(V4 nss).Perm nss:=by
 have h:=(Cr (fun i j=>O7 (nss.getD i []) (nss.getD j [])) nss.length).map fun i=>nss.getD i []
 have e:(List.range nss.length).map (fun i=>nss.getD i [])=nss:=by
  refine List.ext_getElem (by simp) fun i h1 h2=>?_
  simp[List.getD,h2]
 rw[e]at h
 exact h
def XD:DL:=fun ds Q=>∃nss:List (List (List Int)),ds=[.lst (nss.map nestD)]∧nss.length<64∧(∀r∈nss,r≠[])∧Q (.lst ((V4 nss).map nestD))
theorem AaB{K:W.Frag}{H:Hp}:∀{rs:List (List Int)} {vs:List V},RpL K H (rs.map Cy) vs→Ln K H vs rs
 | [],_,h=>by rw[BL.mp h];exact .nil
 | r::rs,_,h=>by
  obtain⟨v,w,rfl,r1,r2⟩:=Bc.mp h
  obtain⟨a,xs,rfl,t,rl⟩:=Dv.mp r1
  rw[ints_of rl]at t
  exact .cons t (AaB r2)
theorem Ahp{K:W.Frag}{H:Hp}{nss:List (List (List Int))}{vs:List V}(h:RpL K H (nss.map nestD) vs):vs.length=nss.length∧∀(i:Nat)(v:V),vs[i]? = some v→∃a ws,v=.ref a∧SqT K H a ws∧Ln K H ws (nss.getD i []):=by
 refine⟨by rw[RpL.len' h,List.length_map],fun i v e=>?_⟩
 obtain⟨d,e1,r⟩:=RpL.at' i v h e
 rw[List.getElem?_map]at e1
 obtain⟨rs,e2,rfl⟩:=Option.map_eq_some_iff.mp e1
 obtain⟨a,xs,rfl,t,rl⟩:=Dv.mp r
 have:nss.getD i []=rs:=by simp[List.getD,e2]
 rw[this]
 exact⟨a,xs,rfl,t,AaB rl⟩
theorem Sv{K:W.Frag}{H:Hp}{nss:List (List (List Int))}{vs:List V}(r:RpL K H (nss.map nestD) vs):∀ix:List Nat,(∀i∈ix,i<nss.length)→RpL K H (ix.map fun i=>nestD (nss.getD i [])) (ix.map fun i=>vs.getD i V.non)
 | [],_=>RpL.nil
 | i::ix,h=>by
  have hi:i<nss.length:=h i (.head _)
  have hv:i<vs.length:=by rw[RpL.len' r,List.length_map];exact hi
  obtain⟨d,e1,r1⟩:=RpL.at' i vs[i] r (List.getElem?_eq_getElem hv)
  have e2:d=nestD (nss.getD i []):=by
   rw[List.getElem?_map,List.getElem?_eq_getElem hi]at e1
   cases e1
   simp[List.getD,hi]
  have e3:vs.getD i V.non=vs[i]:=by simp[List.getD,hv]
  rw[List.map_cons,List.map_cons,e3,←e2]
  exact RpL.cons r1 (Sv r ix fun j hj=>h j (.tail _ hj))
theorem Abt{K:W.Frag}:Uw K (AcT K) XD where
 mono:=fun hq ⟨nss,e,l,n,h⟩=>⟨nss,e,l,n,hq _ h⟩
 ok:=fun O H ds xs Q hO r ⟨nss,e,l64,ne,h⟩=>by
  subst e
  obtain⟨x,r',rfl,ra,r3⟩:=Bc.mp r
  obtain rfl:=BL.mp r3
  obtain⟨p,vs,rfl,hs,hl⟩:=Et ra
  have le:Same (mask O H) H:=Bk (O:=O) (H:=H)
  have hl':=hl.mono le
  obtain⟨ll,each⟩:=Ahp hl'
  refine⟨p,vs,fun i=>nss.getD i [],rfl,(Bk (O:=O) (H:=H)).seq hs,by omega,fun i v e=>?_,fun l hn=>?_⟩
  ·obtain⟨a,ws,ea,ht,hr⟩:=each i v e
   have hi:i<nss.length:=by
    have:=(List.getElem?_eq_some_iff.mp e).1
    omega
   refine⟨a,ws,ea,ht,hr,ne _ ?_⟩
   have:nss.getD i []=nss[i]:=by simp[List.getD,hi]
   show nss.getD i []∈nss
   rw[this]
   exact List.getElem_mem hi
  ·have nl:l∉O:=fun z=>hO l z hn
   refine h _ _ (Same.upd hn) (Jv ⟨l,_,rfl,MF nl,?_⟩)
   have rp:=Sv hl (Cz (fun i j=>O7 (nss.getD i []) (nss.getD j [])) nss.length) fun i hi=>List.mem_range.mp ((Cr _ _).mem_iff.mp hi)
   have em:(V4 nss).map nestD=(Cz (fun i j=>O7 (nss.getD i []) (nss.getD j [])) nss.length).map fun i=>nestD (nss.getD i []):=by
    unfold V4
    rw[List.map_map]
    rfl
   rw[em,ll]
   exact rp.mono (Same.upd hn).mask
theorem Aco{a:Expr}{tl:DTA}{p pos:Pos}(hm:X.mg "sorted"=none)(hu:X.A.units+64<cLine)(ha:DA X [a] tl)(hg:Gl X "sorted":=by rfl)(hv:bootBuiltins "sorted"=some (.builtin "sorted"):=by rfl)(he:starEach [a] X.env=(false,eval a X.env)::starEach [] X.env:=by rfl)
  (hpl:(backTo pos (starEach [] X.env)).any (·.1)=false:=by rfl):DE X (.Call (.Name "sorted" p) [a] [] pos) (dCB XD tl):=Rw (Xj (by have:X.A.in1.in1.units=X.A.units+1+1:=rfl;omega)) Abt hg hm hv ha (he:=he) (hpl:=hpl)
end
end L2
namespace L2
open PySem Spec PyProof.Rows
variable{X:Cx}
def ZM(to te:DTE):DTE:=fun ρ Q=>to ρ fun l=>∃nss:List (List Int),l=.lst (nss.map Cy)∧te ρ fun d=>∃ns k,d=Cy ns∧k<nss.length∧nss.getD k []=ns∧(∀m,m<k→nss.getD m []≠ns)∧Q (.int (k:Nat))
theorem AbS{o e:Expr}{to te:DTE}{ap cp:Pos}(hu:X.A.units+64<cLine)(hu1:X.A.in1.units+8<cLine)(ho:DE X o to)(he:DE X e te)(hbase:attributeBase o "index" X.env (eval o X.env)=eval o X.env:=by rfl)
  (hfew:((backTo cp (starEach [e] X.env)).all (fun x=>!x.1)&&(backToKw cp (keywordEach [] X.env)).all (fun x=>x.1.isSome)&&decide ([e].length+([]:List Keyword).length+(if([]:List Keyword).isEmpty then 0 else 1)<30))=true:=by rfl)
  (hline:(ap.endLine==cp.line)=true:=by rfl) (hst:starEach [e] X.env=(false,eval e X.env)::starEach [] X.env:=by rfl) (hplain:(backTo cp (starEach [] X.env)).any (·.1)=false:=by rfl) :
  DE X (.Call (.Attribute o "index" ap) [e] [] cp) (ZM to te) where
 mono:=fun hq h=>ho.mono (fun l ⟨nss,e1,h⟩=>⟨nss,e1,he.mono (fun d ⟨ns,k,a,b,c,d',h⟩=>⟨ns,k,a,b,c,d',hq _ h⟩) h⟩) h
 pe:=(AcC PySem.F.plainAttrs_list PySem.F.slot_list_index PySem.F.type_list_index (AbC hu hu1) ho.pe (Ei he.pe Lg hst) hbase hfew hline hst hplain).imp fun σ H Q ⟨B,F,O,ρ,R,h⟩=>by
  refine⟨B,F,O,ρ,R,ho.mono (fun l h v H1 s1 r1=>?_) h⟩
  obtain⟨nss,rfl,h⟩:=h
  obtain⟨p,vs,rfl,hs,hl⟩:=Et r1
  refine⟨.inl ⟨rfl,_,(Bk (O:=F++O) (H:=H1)).seq hs⟩,B,F,O,ρ,R.same s1,he.mono (fun d h v H2 s2 r2=>?_) h⟩
  obtain⟨ns,k,rfl,kl,ek,before,q⟩:=h
  obtain⟨b,ys,rfl,hb,hy⟩:=Dv.mp r2
  obtain rfl:=Us hy
  obtain⟨ll,each⟩:=Z9 (hl.mono s2.mask)
  refine⟨p,vs,fun i=>nss.getD i [],b,ns,k,rfl,rfl,(Bk (O:=F++O) (H:=H2)).seq (s2.mask.seq hs),(Bk (O:=F++O) (H:=H2)).qZ hb,fun i v e=>?_,by omega,ek,before,q _ H2 (s1.trans s2) (Bp.mpr rfl)⟩
  obtain⟨a,ea,ht⟩:=each i v e
  exact⟨a,ea,(Bk (O:=F++O) (H:=H2)).qZ ht⟩
end L2
namespace L2
open PySem Spec PyProof.Rows SeqAt
section
variable{X:Cx}{k:Nat}{f C:Addr}{fd:FuncData}{ps:List Str}{sp:Sp}{x:Str}{p pos:Pos}{e:Expr}{es:List Expr}{t:TA}
def Ajn(X:Cx)(C:Addr)(sp:Sp)(t:TA):TE:=fun σ H Q=>t σ H fun vs H1=>∀x dx,H1 x=none→H1 dx=none→dx≠x →
 sp (.ref x::vs) (upd (upd H1 dx (.own x)) x (.ins C dx [])) (fun v H2=>v=.non∧Q (.ref x) H2) fun v _ H'=>∃a,v=.ref a∧Qp X σ a H'
theorem AbL{pins:List (Addr×Obj)}{σ:St}{H:Hp}{s:Shared}{Q:VK}{us:List Value}{vs:List V}(M:Mk X.K C f)(F:Ef X.prog X.w X.K X.mg X.base (CXe X.prog X.w) k f fd ps sp)(hr:CK (k+1) X.A)(hb:Binds X.K fd ps [])
  (I:Inv X pins σ H s) (r:Vals vs us)
  (h:∀x dx,H x=none→H dx=none→dx≠x→sp (.ref x::vs) (upd (upd H dx (.own x)) x (.ins C dx [])) (fun v H2=>v=.non∧Q (.ref x) H2) fun v _ H'=>∃a,v=.ref a∧Qp X σ a H') :
  wpAny (model X.prog X.w) X.A (call (.ref C) us) (EP X pins σ Q) X.xe s:=by
 obtain⟨n,en⟩:∃n,s.heap.objs.size=n:=⟨_,rfl⟩
 have J:=Inv.made (C:=C) I
 have q0:=h (s.heap.objs.size+1) s.heap.objs.size (I.hok.fresh (Nat.le_succ _)) (I.hok.fresh (Nat.le_refl _)) (Nat.ne_of_lt (Nat.lt_succ_self _))
 have rv:Vals (V.ref (s.heap.objs.size+1)::vs) (Value.ref (s.heap.objs.size+1)::us):=.cons rfl r
 have ln:(Value.ref (s.heap.objs.size+1)::us).length=ps.length:=by rw[←rv.length];exact F.len _ _ _ _ q0
 have bt:=hb _ (Value.ref (s.heap.objs.size+1)::us) J.kIn (by rw[List.append_nil];exact ln)
 rw[List.append_nil]at bt
 refine wpAny_call (Vv (f:=f) I.kIn M.makes M.init (beq_iff_eq.mp M.fn) (codeAny_mono (F.run _ X.stack _ _ ⟨Value.ref (s.heap.objs.size+1)::us,[]⟩ _ _ _ _ (hr.make C us []) (J.env0.make C us []) bt rv q0) fun r' s' w=>?_))
 cases r' with
 | error z =>
  obtain⟨a,H',rfl,y1,y2,y3,y4,y5,y6,a',y7,y8⟩:=w
  cases y7
  exact y8 pins s' (J.call' (ch:=[]) y1 y3 y4 y2 fun b z=>absurd z (by simp)) y5 y6
 | ok fl =>
  cases fl with
  | ret u =>
   obtain⟨v,H',I3,ru,ev,q3⟩:=J.after w
   subst ev
   exact⟨ru,⟨V.ref (s.heap.objs.size+1),H',I3,rfl,q3⟩⟩
  |next=>exact False.elim w
  |brk=>exact False.elim w
  |cont=>exact False.elim w
theorem AdC(M:Mk X.K C f)(F:Ef X.prog X.w X.K X.mg X.base (CXe X.prog X.w) k f fd ps sp)(hr:CK (k+1) X.A)(hg:Gl X x)(hm:X.mg x=some (.ref C))(hb:Binds X.K fd ps [])
  (ha:PA X (e::es) t) (hdb:(x==("__debug__":Str))=false:=by decide) (he:starEach (e::es) X.env=(false,eval e X.env)::starEach es X.env:=by rfl) (hpl:(backTo pos (starEach es X.env)).any (·.1)=false:=by rfl) :
  PE X (.Call (.Name x p) (e::es) [] pos) (Ajn X C sp t):=by
 intro pins s σ H Q I h
 refine wpAny_Call_Name_kw (Ii I hg hm ?_ hdb)
 exact W.callWith_K (h₀:=X.base) I.ok.mod.kin M.kp (thn (ha pos pins s σ H _ I h) fun us s1 ⟨vs,H1,I1,r,q⟩=>⟨I1.kIn,AbL M F hr hb I1 r q⟩) he hpl
end
abbrev X3:=List Dt→(List Dt→Prop)→(Dt→Prop)→Prop
def AmH(K:W.Frag)(ns:List Str)(sp:X3):Sp:=fun vs H Q E=>∃x C dx ys F ds,vs=.ref x::ys∧H x=some (.ins C dx [])∧Cls K C∧(∀f∈ns,GQ K C f)∧x∈F∧(∀a∈F,H a≠none)∧RpL K (mask F H) ds ys ∧
 sp ds (fun fds=>∀ws H',Same (mask [x] H) H'→H' x=some (.ins C dx (ns.zip ws))→ns.length=fds.length→RpL K (mask F H') fds ws→Q .non H') fun y=>∀a H',Same (mask [x] H) H'→Rp K (mask F H') y (.ref a)→E (.ref a) none H'
def Zh(sp:X3):Prop:=∀ds Q Q' E E',(∀d,Q d→Q' d)→(∀d,E d→E' d)→sp ds Q E→sp ds Q' E'
def Ajc(P:Program)(w:World)(K:W.Frag)(mg:Str→Option Value)(base:Heap)(k:Nat)(c:Str)(ns:List Str)(sp:X3):Prop:=∃C f fd ps,MkC K mg c ns C f∧Binds K fd ps []∧Ef P w K mg base (CXe P w) k f fd ps (AmH K ns sp)
def AdB(c:Str)(ns:List Str)(sp:X3)(tl:DTA):JC:=fun ρ Q E=>tl ρ fun ds=>sp ds (fun fds=>Q (.obj c ns fds)) E
section
variable{X:Cx}{o e:Expr}{es:List Expr}{tl:DTA}{te:JC}{pos:Pos}
theorem Abe{k:Nat}{c:Str}{ns:List Str}{sp:X3}{p:Pos}(m:Zh sp)(G:Ajc X.prog X.w X.K X.mg X.base k c ns sp)(hr:CK (k+1) X.A)(hg:Gl X c)(ha:DA X (e::es) tl)
  (hdb:(c==("__debug__":Str))=false:=by decide) (he:starEach (e::es) X.env=(false,eval e X.env)::starEach es X.env:=by rfl) (hpl:(backTo pos (starEach es X.env)).any (·.1)=false:=by rfl):DEX X (.Call (.Name c p) (e::es) [] pos) (AdB c ns sp tl):=by
 obtain⟨C,f,fd,ps,M,hb,G⟩:=G
 refine⟨fun hq hx z=>ha.mono (fun ds z=>m _ _ _ _ _ (fun fds q=>hq _ q) hx z) z,(AdC M.mm G hr hg M.gl hb ha.pa hdb he hpl).imp fun σ H Q ⟨B,F,O,ρ,R,z⟩=>⟨B,F,O,ρ,R,ha.mono (fun ds z vs H1 s1 r1 x dx nx ndx ne=>?_) z⟩⟩
 have R1:=R.same s1
 have ox:x∉F++O:=fun w=>R1.th x w nx
 have s2:Same H1 (upd (upd H1 dx (.own x)) x (.ins C dx [])):=fun b o q=>by rw[Ak (Bb q nx),Ak (Bb q ndx)];exact q
 have s3:∀{H'},Same (mask [x] (upd (upd H1 dx (.own x)) x (.ins C dx []))) H'→Same H1 H':=fun{H'} s' b o q=>s' b o (by rw[Ba fun w=>by rw[List.mem_singleton.mp w,nx]at q;cases q];exact s2 _ _ q)
 refine⟨x,C,dx,vs,x::(F++O),ds,rfl,Av,M.cl,M.no,List.mem_cons_self,fun b hb'=>?_,?_,m _ _ _ _ _ (fun fds q ws H' s' h1 h2 h3=>⟨rfl,?_⟩) (fun y q a H' s' r'=>⟨a,rfl,?_⟩) z⟩
 ·rcases List.mem_cons.mp hb' with e|w
  ·rw[e,Av];simp
  ·intro q
   cases e:H1 b with
   |none=>exact R1.th b w e
   |some u=>rw[s2 _ _ e]at q;cases q
 ·refine r1.mono fun b o q=>?_
  obtain⟨n1,q⟩:=Cg q
  rw[Ba fun w=>(List.mem_cons.mp w).elim (fun e=>by rw[e,nx]at q;cases q) n1]
  exact s2 _ _ q
 ·exact q (.ref x) H' (s1.trans (s3 s')) (N6.mpr ⟨x,C,dx,ws,rfl,M.at_,M.cl,by rw[Ba ox];exact h1,h2,h3.mono (Fb fun b hb'=>List.mem_cons_of_mem _ hb')⟩)
 ·exact q a H' (s1.trans (s3 s')) (r'.mono (Fb fun b hb'=>List.mem_cons_of_mem _ hb'))
def AeI(te:DTE)(tx:R8):R8:=fun ρ Q E=>te ρ fun d=>tx ρ (fun ds=>Q (d::ds)) E
theorem AbF{te:DTE}{tx:R8}(ha:DE X e te)(hr:DAX X es tx)(hs:starEach (e::es) X.env=(false,eval e X.env)::starEach es X.env:=by rfl):DAX X (e::es) (AeI te tx) where
 mono:=fun hq hx h=>ha.mono (fun d h=>hr.mono (fun ds h=>hq _ h) hx h) h
 pa:=(Ei ha.pe hr.pa hs).imp fun σ H Q ⟨B,F,O,ρ,R,h⟩=>⟨B,F,O,ρ,R,ha.mono (fun d z v H1 s1 r1=>⟨B,F,O,ρ,R.same s1,hr.mono (fun ds z vs H2 s2 r2=>z (v::vs) H2 (s1.trans s2) (.cons (r1.mono s2.mask) r2)) (fun x z a H2 s2 r2=>z a H2 (s1.trans s2) r2) z⟩) h⟩
def Al1(K:W.Frag)(te:JC)(f:Str):JC:=fun ρ Q E=>te ρ (fun d=>match d with
 |.obj c ns ds=>HD K c f∧∃v,(ns.zip ds).lookup f=some v∧Q v
 |_=>False) E
def AoP(te:JC)(tb:DTE):JC:=fun ρ Q E=>te ρ (fun a=>tb ρ fun b=>dIx a b Q) E
end
section
variable{X:Cx}{es:List Expr}{pos:Pos}
def Aj7(X:Cx)(ns:List Str)(sp:DIn)(tx:R8):TS:=fun D σ H=>∃B F ρ x C dx,∃S:List Dt→Prop,∃Ex:Dt→Prop,Rep X.K B F [] H σ ρ∧x∈F∧B x=none∧σ[0]? = some (some (.ref x))∧H x=some (.ins C dx [])∧Cls X.K C∧(∀f∈ns,GQ X.K C f) ∧
 (tx ρ (fun ds=>sp ds S) Ex)∧(∀fds,S fds→∀ws H',Same B H'→H' x=some (.ins C dx (ns.zip ws))→ns.length=fds.length→RpL X.K (mask F H') fds ws→D.nx σ H')∧∀y,Ex y→∀a H',Same B H'→Rp X.K (mask F H') y (.ref a)→Qp X σ a H'
theorem AbY{pl:Sem Bool}{k:Nat}{c y:Str}{g:Addr}{fd:FuncData}{ps ns:List Str}{sp:DIn}{tx:R8}{p q ap cp:Pos}(m:PX sp)(M:WT X.K X.mg c "__init__" g)(hg:Gl X c)(G:Ef X.prog X.w X.K X.mg X.base CX0 k g fd ps (Xe X.K ns sp))(hb:Binds X.K fd ps [])(hr:CK k X.A)(ha:DAX X es tx)(hN:X.N[0]? = some y:=by rfl)
  (hv:Vis X.env.scope y:=by first|exact Or.inl rfl|exact Or.inr (Or.inl rfl)|exact Or.inr (Or.inr rfl)) (hd:(y==("__debug__":Str))=false:=by decide) (hcd:(y==("__classdict__":Str))=false:=by decide) (hdb:(c==("__debug__":Str))=false:=by decide)
  (hst:starEach (.Name y q::es) X.env=(false,eval (.Name y q) X.env)::starEach es X.env:=by rfl) (hpl:(backTo cp (starEach es X.env)).any (·.1)=false:=by rfl)
  (ht:eval (.Call (.Attribute (.Name c p) "__init__" ap) (.Name y q::es) [] cp) X.env=(do
   let ov ←eval (.Name c p) X.env
   standAt ap.atName
   let (f,first) ←holding [ov] (getMethod ov "__init__" pl)
   callWith cp f first (backTo cp (starEach (.Name y q::es) X.env)) (backToKw cp (keywordEach [] X.env))):=by rfl)
  (hs:swapsWith (.Call (.Attribute (.Name c p) "__init__" ap) (.Name y q::es) [] cp) none pos.line X.env=pure false:=by rfl) :
  PSs X [.Expr (.Call (.Attribute (.Name c p) "__init__" ap) (.Name y q::es) [] cp) pos] (Aj7 X ns sp tx) :=
 (Ih (KJ (Wx M hg G hr hb (Ei (JB hN hv hd hcd) ha.pa hst) hdb hst hpl ht) hs)).imp fun D σ H ⟨B,F,ρ,x,C,dx,S,Ex,R,xF,Bx,σ0,Hx,cl,no,z,fin,bad⟩=>by
  have base:∀{H':Hp},Same (mask [x] H) H'→Same B H':=fun{H'} s' b o e=>s' b o (by
   rw[Ba fun w=>by rw[List.mem_singleton.mp w,Bx]at e;cases e]
   exact R.base b o e)
  refine⟨.ref x,σ0,B,F,[],ρ,R,ha.mono (fun ds z vs H1 s1 r1=>?_) (fun y w a H1 s1 r1=>bad y w a H1 (R.base.trans s1) (by rw[List.append_nil]at r1;exact r1)) z⟩
  show Xe X.K ns sp ((.ref x::vs)++[]) H1 _ E0
  rw[List.append_nil]
  have R1:=R.same s1
  rw[List.append_nil]at r1
  refine⟨x,C,dx,vs,F,ds,rfl,s1 _ _ Hx,cl,no,xF,fun a h=>R1.th a (List.mem_append_left _ h),r1,m _ _ _ (fun fds w ws H' s' h1 h2 h3=>fin fds w ws H' (fun b o e=>s' b o ?_) h1 h2 h3) z⟩
  rw[Ba fun w=>by rw[List.mem_singleton.mp w,Bx]at e;cases e]
  exact R1.base b o e
end
theorem Fun.okE{P:Program}{w:World}{K:W.Frag}{mg:Str→Option Value}{base:Heap}{x qual:Str}{st:Stmt}{f:Addr}{fd:FuncData}{N ps:List Str}{k:Nat}{sp:Sp}(F:Fun K x qual st f fd)(S:Aq N ps (Af st))(len:∀vs H Q E,sp vs H Q E→vs.length=ps.length)
  (hbody:∀(cdv:Value)(A:Around)(outer:List Env)(s:Shared)(H:Hp)(vs:List V)(Q:VK)(E:XK),CK k (A.deeper (envOfC qual (Af st) s.heap.objs.size f cdv))→sp vs H Q E →
   ∃t,PSs (RZ (CXe P w) P w K mg base N qual (Af st) f cdv A outer s H E) (Cj st) t∧t {nx:=fun _ H'=>Q .non H',rt:=Q} (start N vs) H):Ef P w K mg base (CXe P w) (k+1) f fd ps sp:=by
 obtain⟨oc,od,kV,doc,pm,an,cdv,ct,osl,rfl,lk,hcd⟩:=F.ex
 exact AeW lk hcd S len fun A outer s H vs Q E hr hsp=>hbody cdv A outer s H vs Q E hr hsp
def Ve{τ:Type}(args:τ→List Dt)(pre good:τ→Prop)(post:τ→List Dt→Prop)(exc:τ→Dt):X3:=fun ds R E=>∃p,ds=args p∧pre p∧(good p→∀fds,post p fds→R fds)∧(¬good p→E (exc p))
theorem WW{τ:Type}{args:τ→List Dt}{pre good:τ→Prop}{post:τ→List Dt→Prop}{exc:τ→Dt}:Zh (Ve args pre good post exc):=fun _ _ _ _ _ hq hx ⟨p,e,h,q,z⟩=>⟨p,e,h,fun g d w=>hq _ (q g d w),fun g=>hx _ (z g)⟩
theorem Abb{τ:Type}{args:τ→List Dt}{pre good:τ→Prop}{post:τ→List Dt→Prop}{exc:τ→Dt}{R:List Dt→Prop}{E:Dt→Prop}(p:τ)(h:pre p)(k:good p→∀fds,post p fds→R fds)(x:¬good p→E (exc p)):Ve args pre good post exc (args p) R E:=⟨p,rfl,h,k,x⟩
end L2
namespace L2
open PySem Spec PyProof.Rows SeqAt
section
variable{P:Program}{w:World}{H:Hp}{h h':Heap}{a:Addr}{o:HO}
theorem Ej.there(x:Ej P w H h a o):∃u,h.get? a=some u:=by
 cases o with
 |lst xs=>obtain⟨_,_,_,_,e⟩:=x;exact⟨_,e⟩
 |tup xs=>obtain⟨_,_,_,_,e,_⟩:=x;exact⟨_,e⟩
 |dK kvs=>obtain⟨_,_,_,_,o,_,_,e,_⟩:=x;exact⟨_,e⟩
 |dT kvs=>obtain⟨_,_,_,_,o,_,_,e,_⟩:=x;exact⟨_,e⟩
 |set S n=>obtain⟨o,_,_,_,e,_⟩:=x;exact⟨_,e⟩
 |ins C dx fs=>obtain⟨_,_,_,e,_⟩:=x;exact⟨_,e⟩
 |own y=>obtain⟨_,e⟩:=x;exact⟨_,e⟩
 |xd fs=>obtain⟨_,⟨_,_,_,e,_⟩,_⟩:=x;exact⟨_,e⟩
 |rng lo hi=>obtain⟨_,_,_,e⟩:=x;exact⟨_,e⟩
 |frz ob u=>obtain⟨e,_⟩:=x;exact⟨_,e⟩
 |tbl ps=>exact⟨_,x⟩
 |met f y=>exact⟨_,x⟩
 |ext φ=>obtain⟨_,⟨_,e⟩,_⟩:=x;exact⟨_,e⟩
theorem HOk.none(x:HOk P w H h)(e:h.get? a=none):H a=none:=by
 cases q:H a with
 |none=>rfl
 |some u=>obtain⟨u,z⟩:=(x a u q).there;rw[e]at z;cases z
end
theorem Inv.laidN{X:Cx}{pins:List (Addr×Obj)}{σ:St}{H:Hp}{s:Shared}{h':Heap}{a:Addr}{o:HO}{t':Nat}(I:Inv X pins σ H s)(k:∀b u,s.heap.get? b=some u→h'.get? b=some u)(hn:s.heap.get? a=none)
  (new:Ej X.prog X.w (upd H a o) h' a o):Inv X pins σ (upd H a o) {s with heap:=h',toks:=t'}:=by
 have n:=I.hok.none hn
 refine I.un ⟨fun b u q _ _ _=>k b u q,fun b u q _ _ _=>⟨u.slots,k b u q⟩,fun b u q z _=>?_,fun b u q _=>⟨u,k b u q⟩,fun b xs q=>by rw[Ak (Bb q n)];exact q,fun b u xs q=>by rw[Ak (Bb q n)];exact q,fun b ps q=>⟨#[],by rw[Ak (Bb q n),q];simp⟩⟩ fun b u e=>?_
 ·rw[Ak fun y=>by rw[y,hn]at q;cases q];exact z
 ·by_cases hb:b=a
  ·subst hb;rw[Av]at e;cases e;exact new
  ·rw[Ak hb]at e
   exact(I.hok b u e).stay (fun c v _ q=>k c v q) (fun c q=>by rw[Ak (Bb q n)];exact q) fun c xs q=>by rw[Ak (Bb q n)];exact q
structure XT(K:W.Frag)(mg:Str→Option Value)(c:Str)(C:Addr)(bm:List Value):Prop where
 at_:W.nsIn K mainGlobals c=some (some (.ref C))
 gl:mg c=some (.ref C)
 kp:W.keepIn K (.ref C)=true
 obj:∃nm q N bs hd sn sub ab col dd k0 k1 k2 k3 k5 oc od es ep sl,K.lookup C=some (excClassObj nm q C N bs bm hd sn sub ab col dd k0 k1 k2 k3 k5 "ValueError.__new__")∧K.lookup N=some ⟨oc,od,.dict es ep,sl⟩∧AdT es=true∧nsFind es "__init__"=none
 own:∀h:Heap,K.In h→OwnTail h bmV bm
 xb:XB K C
section
variable{X:Cx}{C U:Addr}{e:Expr}{es:List Expr}{p pos:Pos}{t:TA}{tl:DTA}{c:Str}{bm:List Value}
def AiA(C:Addr)(t:TA):TE:=fun σ H Q=>t σ H fun vs H1=>vs.length≤1000∧∀a,H1 a=none→Q (.ref a) (upd H1 a (.ext (exN a C)))
theorem AdQ(G:XT X.K X.mg c C bm)(hg:Gl X c)(ha:PA X (e::es) t)
  (hdb:(c==("__debug__":Str))=false:=by decide) (he:starEach (e::es) X.env=(false,eval e X.env)::starEach es X.env:=by rfl) (hpl:(backTo pos (starEach es X.env)).any (·.1)=false:=by rfl) :
  PE X (.Call (.Name c p) (e::es) [] pos) (AiA C t):=by
 intro pins s σ H Q I h
 refine wpAny_Call_Name_kw (Ii I hg G.gl ?_ hdb)
 refine W.callWith_K (h₀:=X.base) I.ok.mod.kin G.kp (thn (ha pos pins s σ H _ I h) fun us s1 ⟨vs,H1,I1,r,l2,q⟩=>⟨I1.kIn,?_⟩) he hpl
 have lu:us.length=vs.length:=r.length.symm
 obtain⟨nm,qq,N,bs,hd,sn,sub,ab,col,dd,k0,k1,k2,k3,k5,oc,od,es',ep,sl,lk,ln,sk,ni⟩:=G.obj
 obtain⟨hp,g,d,tk,os⟩:=s1
 have hC:=I1.kIn _ _ lk
 refine wpAny_call_exc_subT (mN:=nsFind es') F.excBase_ValueError (G.own _ I1.kIn) hC ⟨_,es',ep,I1.kIn _ _ ln,rfl,Z7 sk,fun _=>rfl⟩ ni (fun h' x hm=>?_) (by rw[List.nil_append,lu];exact Nat.le_of_lt (Oa l2))
 obtain⟨t',h1,_,_⟩:=hm.there
 exact⟨.ref x,_,I1.laidN (t':=tk) (o:=.ext (exN x C)) hm.keeps hm.new ⟨⟨_,_,h1,rfl⟩,⟨_,h1⟩,Wf⟩,rfl,q x (I1.hok.none hm.new)⟩
def Z1(c:Str)(tl:DTA):Jk:=fun D ρ=>tl ρ fun ds=>ds.length≤1000∧D.ex ρ (.exc c [] [])
theorem Yr{cp:Pos}(G:XT X.K X.mg c C bm)(xc:XC X.K C U)(hc:X.calm=true)(hg:Gl X c)(ha:DA X (e::es) tl)
  (hdb:(c==("__debug__":Str))=false:=by decide) (he:starEach (e::es) X.env=(false,eval e X.env)::starEach es X.env:=by rfl) (hpl:(backTo cp (starEach es X.env)).any (·.1)=false:=by rfl) :
  DSX X (.Raise (some (.Call (.Name c p) (e::es) [] cp)) none pos) (Z1 c tl) where
 mono:=fun hd h=>ha.mono (fun ds ⟨h2,h3⟩=>⟨h2,hd.ex _ _ h3⟩) h
 ps:=by
  rintro pins s σ H D I ⟨B,F,O,ρ,R,h⟩
  rw[arm_exec_Raise]
  have key:wpAny (model X.prog X.w) X.A (eval (.Call (.Name c p) (e::es) [] cp) X.env) (fun v s₁=>X.K.In s₁.heap∧∃b od vs sl,v=.ref b∧s₁.heap.get? b=some ⟨.ref C,od,.fields vs,sl⟩∧vs[1]? = some .none∧X.xe (.ref b) s₁) X.xe s:=by
   refine thn (AdQ G hg ha.pa hdb he hpl pins s σ H (fun v H2=>∃a,v=.ref a∧H2 a=some (.ext (exN a C))∧Qp X σ a (upd H2 a (.ext (exO a C a)))) I ⟨B,F,O,ρ,R,ha.mono (fun ds ⟨h2,h3⟩ vs H1 s1 r1=>⟨by rw[r1.len];exact h2,fun a na=>⟨a,rfl,Av,?_⟩⟩) h⟩) fun u s1 ⟨v,H2,I2,rv,a,e1,e2,wi⟩=>⟨I2.kIn,?_⟩
   ·subst e1
    obtain rfl:u=Value.ref a:=rv
    obtain⟨⟨vs,sl,hx,h1⟩,_,_⟩:=I2.hok a _ e2
    exact⟨a,_,vs,sl,rfl,hx,h1,wi pins s1 (I2.again e2 (exN.ex ⟨vs,sl,hx,h1⟩) WQ) ⟨_,vs,hx,rfl,.inl h1⟩ ⟨C,a,Av⟩⟩
   ·have R1:=R.same s1
    have oa:a∉F++O:=fun z=>R1.th a z na
    have s2:Same H1 (upd (upd H1 a (.ext (exN a C))) a (.ext (exO a C a))):=fun b o q=>by rw[Ak (Bb q na),Ak (Bb q na)];exact q
    exact h3 O σ a _ (R1.same s2) (JL.mpr ⟨a,C,U,a,[],rfl,G.at_,xc,by rw[Ba oa];exact Av,.inr ⟨rfl,rfl⟩,rfl,RpL.nil⟩)
  refine wpAny_bind (wpAny_standAt (TF xc (I.ok.hd hc) ?_))
  first
   |exact wpAny_bind (thn key fun v s₃ h₃=>wpAny_bind (wpAny_standAt (wpAny_pure h₃)))
   |exact key
end
section
variable{K:W.Frag}{c:Str}{C U A:Addr}{cd:ClassData}
end
section
variable{t1 t2 t3 t4 u:DTS}{D:Gd}{ρ:BP}
theorem Mu(S:BP→Prop)(h1:∀N:BP→Prop,(∀ρ',S ρ'→N ρ')→t1 {D with nx:=N} ρ)(h2:∀ρ',S ρ'→u D ρ'):Wt t1 u D ρ:=h1 (u D) h2
theorem Wy(S:BP→Prop)(h1:∀N:BP→Prop,(∀ρ',S ρ'→N ρ')→Wt t1 (Wt t2 t3) {D with nx:=N} ρ)(h2:∀ρ',S ρ'→u D ρ'):Wt t1 (Wt t2 (Wt t3 u)) D ρ:=h1 (u D) h2
end
end L2
namespace L2
open PySem Spec PyProof.Rows SeqAt
theorem SN{K:PySem.W.Frag}{sl:List Nat}{dt:DTT}{de:DTE}(mt:∀{ρ Q Q'},(∀d,Q d→Q' d)→dt ρ Q→dt ρ Q')(me:∀{ρ Q Q'},(∀d,Q d→Q' d)→de ρ Q→de ρ Q')
  {B:Hp} {F O:List Addr} {H H1:Hp} {σ:St} {ρ:BP} {Q:VK} {items:List Dt} {J:It} (R:Rep K B F O H σ ρ) (h:Jf sl (fun _ R=>R items) dt de ρ fun d=>∃as,d=.lst as∧∀D H2 acc,Same H H2→H2 D=some (.lst acc)→D∉F++O→RpL K (mask (F++O) H2) as acc→Q (.ref D) H2) (s1:Same H H1) (it:ItD K (mask (F++O) H1) J items) :
  Vu sl (fun _ _ R=>R J H1) (lT K dt) (lE K de) σ H Q:=by
 obtain⟨h1,h2,W,w0,st,fin⟩:=h
 have R1:=R.same s1
 obtain⟨vs,ds,ev,ed,rs⟩:=Kd R1 h2
 refine⟨vs,ev,fun D hD=>?_⟩
 have nD:D∉F++O:=fun z=>R1.th D z hD
 have sM:Same (mask (F++O) H1) (mask (F++O) (upd H1 D (.lst []))):=(Same.upd hD).mask
 refine⟨fun i m acc H2=>m+i=items.length∧H2 D=some (.lst acc)∧acc.length≤i∧Same H1 H2∧∃as,RpL K (mask (D::(F++O)) H2) as acc∧W i as,⟨items.length,by omega,Av,Nat.le_refl _,Same.upd hD,[],RpL.nil,w0⟩,?_⟩
 rintro i m acc H2 ⟨hm,e2,hl,s2,as,ra,w⟩
 have sb:Same (mask (F++O) H1) H2:=fun a o e=>s2 a o (Cg e).2
 have sD:Same (mask (F++O) H1) (mask (D::(F++O)) H2):=fun a o e=>by
  obtain⟨q,e⟩:=Cg e
  rw[Ba fun z=>by
   rcases List.mem_cons.mp z with z|z
   ·rw[z,hD]at e;cases e
   ·exact q z]
  exact s2 a o e
 obtain⟨go,stop⟩:=it H2 sb
 by_cases hlt:i<items.length
 ·refine .inr ⟨(go i items[i] (by simp[hlt])).1,fun z H3 y=>?_⟩
  obtain⟨e,r⟩:=(go i items[i] (by simp[hlt])).2 z H3 y
  subst e
  have th:∀a∈D::(F++O),H3 a≠none:=fun a ha q=>by
   rcases List.mem_cons.mp ha with z|z
   ·rw[z,e2]at q;cases q
   ·have:=R1.th a z
    cases q':H1 a with
    |none=>exact this q'
    |some o=>rw[s2 a o q']at q;cases q
  have R3:=Tn th (r.mono sD) (rs.mono sD)
  have ei:some (En.is items[i])::ds.map (fun d=>some (En.is d))=inner sl ρ items[i]:=by unfold inner;rw[ed]
  rw[ei]at R3
  refine⟨_,_,_,_,R3,mt (fun b q H4 s4=>?_) (st i _ as (by simp[hlt]) w)⟩
  cases b with
  | false =>
   refine⟨m-1,by omega,by omega,s4 _ _ e2,by omega,s2.trans s4,as,ra.mono s4.mask,q⟩
  | true =>
   refine⟨_,_,_,_,R3.same s4,me (fun e q v5 H5 s5 r5=>?_) q⟩
   have e5:H5 D=some (.lst acc):=s5 _ _ (s4 _ _ e2)
   have hz:acc.length<sizeLine:=by omega
   have s6:Same (mask (D::(F++O)) H5) (mask (D::(F++O)) (upd H5 D (.lst (acc++[v5])))):=fun a o q=>by
    obtain⟨n,q⟩:=Cg q
    rw[Ba n,Ak fun z=>n (by rw[z];exact List.mem_cons_self)];exact q
   have em:mask (D::(F++O)++[]) H5=mask (D::(F++O)) H5:=by rw[List.append_nil]
   rw[em]at r5
   refine⟨e5,hz,m-1,by omega,by omega,Av,by simp;omega,fun a o q=>?_,as++[e],(((ra.mono s4.mask).mono s5.mask).append (RpL.cons r5 RpL.nil)).mono s6,q⟩
   rw[Ak (Bb q hD)]
   exact s5 _ _ (s4 _ _ (s2 a o q))
 ·have e:i=items.length:=by omega
  subst e
  obtain⟨as',e',k⟩:=fin as (by rw[←ra.len];exact hl) w
  cases e'
  exact .inl ⟨stop,k D H2 acc (s1.trans s2) e2 nD (ra.mono (Fb fun a h=>List.mem_cons_of_mem _ h))⟩
theorem AeB{K:PySem.W.Frag}{sl:List Nat}{dt:DTT}{de:DTE}(mt:∀{ρ Q Q'},(∀d,Q d→Q' d)→dt ρ Q→dt ρ Q')(me:∀{ρ Q Q'},(∀d,Q d→Q' d)→de ρ Q→de ρ Q')
  {B:Hp} {F O:List Addr} {H H1:Hp} {σ:St} {ρ:BP} {Q:VK} {items:List Dt} {J:It} (R:Rep K B F O H σ ρ) (h:Jf sl (fun _ R=>R items) dt de ρ fun d=>∀v H',Same H H'→Rp K (mask (F++O) H') d v→Q v H') (s1:Same H H1) (it:ItD K (mask (F++O) H1) J items) :
  Vu sl (fun _ _ R=>R J H1) (lT K dt) (lE K de) σ H Q:=by
 obtain⟨h1,h2,W,w0,st,fin⟩:=h
 exact @SN K sl dt de (fun hq h=>mt hq h) (fun hq h=>me hq h) B F O H H1 σ ρ Q items J R ⟨h1,h2,W,w0,st,fun acc l w=>⟨acc,rfl,fun D H2 vs s2 e n r=>fin acc l w (.ref D) H2 s2 (Jv ⟨D,vs,rfl,(by rw[Ba n];exact e),r⟩)⟩⟩ s1 it
section
variable{X:Cx}{iter elt:Expr}{px pos:Pos}{scope:Scope}{x:Str}{N:List Str}{sl:List Nat}{tx:JC}{de:DTE}{ti:DTI}
def AcM(sl:List Nat)(tx:JC)(de:DTE):JC:=fun ρ Q E=>tx ρ (fun d=>match d with
 |.lst ds=>Jf sl (fun _ R=>R ds) Ka de ρ Q
 |_=>False) E
theorem Acu(S:DQ X scope x N sl)(hc:X.calm=true)(hi:DEX X iter tx)(he:∀cl C s₀ H₀ ex,DE (Bm X scope (x::N) cl C s₀ H₀ ex) elt de)
  (hs:∀x,foldedSetIterable iter X.env x=pure x:=by intro _;rfl):DEX X (.ListComp elt [⟨.Name x px,iter,[],0⟩] scope pos) (AcM sl tx de):=by
 have me:∀{ρ Q Q'},(∀d,Q d→Q' d)→de ρ Q→de ρ Q':=(he [] 0 X.s₀ X.H₀ []).mono
 refine⟨fun hq hx h=>hi.mono (fun d z=>by
  split at z
  ·obtain⟨h1,h2,W,w0,st,fin⟩:=z
   exact⟨h1,h2,W,w0,st,fun acc l w=>hq _ (fin acc l w)⟩
  ·exact z.elim) hx h,?_⟩
 refine(Vn (tt:=lT X.K Ka) (te:=lE X.K de) S hc (Aba hi.pe) (fun cl C s₀ H₀ ex=>Ux.pts) (fun cl C s₀ H₀ ex=>(he cl C s₀ H₀ ex).pe) hs).imp ?_
 rintro σ H Q ⟨B,F,O,ρ,R,h⟩
 refine⟨B,F,O,ρ,R,hi.mono (fun d z v H1 s1 r1=>?_) (fun _ z=>z) h⟩
 split at z
 ·obtain⟨a,xs,rfl,hs,hl⟩:=Et r1
  refine⟨a,rfl,⟨xs,Bk.seq hs⟩,?_⟩
  refine @AeB X.K sl Ka de (fun hq h=>hq _ h) (fun hq h=>me hq h) B F O H H1 σ ρ Q _ _ R z s1 fun H2 s2=>⟨fun k d e=>?_,xs,s2.seq hs,by rw[hl.len];exact Nat.le_refl _⟩
  obtain⟨x,e1,e2⟩:=hl.get e
  refine⟨⟨xs,x,s2.seq hs,e1⟩,fun y H3 ⟨e3,e4⟩=>⟨e3,?_⟩⟩
  have e5:=e4 xs (s2.seq hs)
  rw[e1]at e5;cases e5;exact e2
 ·exact z.elim
def AcR(sl:List Nat)(ti:DTI)(de:DTE):DTA:=fun ρ Q=>Jf sl ti Ka de ρ fun d=>match d with
 |.lst as=>Q as
 |_=>False
theorem Agc(S:DQ X scope x N sl)(hc:X.calm=true)(hi:DI X (.Name x px) iter ti)(he:∀cl C s₀ H₀ ex,DE (Bm X scope (x::N) cl C s₀ H₀ ex) elt de)
  (hs:∀x,foldedSetIterable iter X.env x=pure x:=by intro _;rfl):DF X (.ListComp elt [⟨.Name x px,iter,[],0⟩] scope pos) (AcR sl ti de):=by
 have me:∀{ρ Q Q'},(∀d,Q d→Q' d)→de ρ Q→de ρ Q':=(he [] 0 X.s₀ X.H₀ []).mono
 refine⟨fun hq h=>hi.mono (fun items ⟨h1,h2,W,w0,st,fin⟩=>⟨h1,h2,W,w0,st,fun acc l w=>hq _ (fin acc l w)⟩) h,?_⟩
 refine(Vn (tt:=lT X.K Ka) (te:=lE X.K de) S hc hi.pi (fun cl C s₀ H₀ ex=>Ux.pts) (fun cl C s₀ H₀ ex=>(he cl C s₀ H₀ ex).pe) hs).imp ?_
 rintro σ H Q ⟨B,F,O,ρ,R,h⟩
 refine⟨B,F,O,ρ,R,hi.mono (fun items ⟨h1,h2,W,w0,st,fin⟩ J H1 s1 it=>?_) h⟩
 exact @SN X.K sl Ka de (fun hq h=>hq _ h) (fun hq h=>me hq h) B F O H H1 σ ρ Q _ _ R ⟨h1,h2,W,w0,st,fun acc l w=>⟨acc,rfl,fun D H2 vs s2 e n r=>fin acc l w D H2 vs s2 e n r⟩⟩ s1 it
def AhU(j:Nat)(te:DTA):DTS:=fun D ρ=>ownAt ρ j fun ds=>te ρ fun es=>ds.length+es.length≤sizeLine∧D.nx (ρ.set j (some (.own (ds++es))))
theorem AiE{e:Expr}{te:DTA}{pos:Pos}(j:Nat){x:Str}{px ap cp:Pos}(he:DF X e te)(hN:X.N[j]? = some x:=by rfl)(hv:Vis X.env.scope x:=by first | exact Or.inl rfl | exact Or.inr (Or.inl rfl) | exact Or.inr (Or.inr rfl))(hd:(x==("__debug__":Str))=false:=by decide)
  (hcd:(x==("__classdict__":Str))=false:=by decide) (hbase:attributeBase (.Name x px) "extend" X.env (eval (.Name x px) X.env)=eval (.Name x px) X.env:=by rfl)
  (hfew:((backTo cp (starEach [e] X.env)).all (fun x=>!x.1)&&(backToKw cp (keywordEach [] X.env)).all (fun x=>x.1.isSome)&&decide ([e].length+([]:List Keyword).length+(if([]:List Keyword).isEmpty then 0 else 1)<30))=true:=by rfl)
  (hline:(ap.endLine==cp.line)=true:=by rfl) (hst:starEach [e] X.env=(false,eval e X.env)::starEach [] X.env:=by rfl) (hplain:(backTo cp (starEach [] X.env)).any (·.1)=false:=by rfl)
  (hs:swapsWith (.Call (.Attribute (.Name x px) "extend" ap) [e] [] cp) none pos.line X.env=pure false:=by rfl):DS X (.Expr (.Call (.Attribute (.Name x px) "extend" ap) [e] [] cp) pos) (AhU j te) where
 mono:=fun hd h=>h.mono fun ds h=>he.mono (fun d h=>⟨h.1,hd.nx _ h.2⟩) h
 ps:=(KJ (AcC PySem.F.plainAttrs_list PySem.F.slot_list_extend PySem.F.type_list_extend Abl (JB hN hv hd hcd) (Ei he.pe Lg hst) hbase hfew hline hst hplain) hs).imp fun D σ H ⟨B,F,O,ρ,R,h⟩=>by
  obtain⟨ds,e1,h⟩:=h.get
  obtain⟨a,xs,h1,h2,h3,h4,h5⟩:=R.own j ds e1
  refine⟨_,h1,.inl ⟨rfl,_,SqL.of h4⟩,B,F,O,ρ,R,he.mono (fun es h p H1 vs s1 hp np r1=>?_) h⟩
  exact⟨a,p,xs,vs,rfl,rfl,s1 _ _ h4,hp,by rw[h5.len,r1.len];exact h.1,h.2 O σ _ ((R.same s1).abn e1 h1 h2 (s1 _ _ h4) ((h5.mono s1.mask).append r1))⟩
end
end L2
namespace L2
open PySem Spec PyProof.Rows SeqAt
section
variable{X:Cx}{a:Expr}{ta:DTE}{pos:Pos}
def isLT:Dt→Bool
 |.lst _=>true
 |.tup _=>true
 |_=>false
theorem Aca:Kr X (.builtin "isinstance") (fun xs H Q=>∃d x t,xs=[x,.ref t]∧Rp X.K H d x∧isLT d=true∧SqT X.K H t [.ty "list",.ty "tuple"]∧Q (.bl true) H):=by
 intro pins s σ H xs us Q I r ⟨d,x,t,e,rp,lt,ht,q⟩
 subst e
 obtain⟨u,u2,rfl,r1,r2⟩:=vals2 r
 cases(show u2=.ref t from r2)
 obtain⟨its,rv,⟨o,k1,k2,n,k3⟩,_⟩:=I.tuple ht
 obtain⟨v1,v2,rfl,z1,z2⟩:=vals2 rv
 cases(show v1=.type "list" from z1)
 cases(show v2=.type "tuple" from z2)
 obtain⟨oc,odd,dt,osl⟩:=o
 cases k2
 cases k3
 have fin:∀tk,EP X pins σ Q (.bool true) {s with toks:=tk}:=fun tk=>⟨.bl true,H,I.tok tk,rfl,q⟩
 cases d with
 | tup ds =>
  obtain⟨b,ys,rfl,hs,_⟩:=Dv.mp rp
  cases(show u=Value.ref b from r1)
  obtain⟨_,_,⟨o,h1,h2,_⟩,_⟩:=I.tuple hs
  exact W.kia_tup W.kitx_tuple I.kIn ⟨o,h1,h2⟩ k1 rfl (fun z=>nomatch z) fin
 | lst ds =>
  obtain⟨b,ys,rfl,hs,_⟩:=Et rp
  cases(show u=Value.ref b from r1)
  obtain⟨_,_,⟨o,n,h1,h2,_⟩,_⟩:=I.list hs
  exact W.kia_tup W.kitx_list I.kIn ⟨o,h1,h2⟩ k1 rfl (fun z=>nomatch z) fin
 |_=>cases lt
def Aig(ta:DTE):DTE:=fun ρ Q=>ta ρ fun d=>isLT d=true∧Q (.bl true)
theorem Afi{p p1 p2 p3:Pos}{k}(hm:X.mg "isinstance"=none)(hm1:X.mg "list"=none)(hm2:X.mg "tuple"=none)(ha:DE X a ta)(hg:Gl X "isinstance":=by rfl)(hg1:Gl X "list":=by rfl)(hg2:Gl X "tuple":=by rfl)(hv:bootBuiltins "isinstance"=some (.builtin "isinstance"):=by rfl)
  (hv1:bootBuiltins "list"=some (.type "list"):=by rfl) (hv2:bootBuiltins "tuple"=some (.type "tuple"):=by rfl)
  (hs1:starEach [a,.Tuple [.Name "list" p1,.Name "tuple" p2] k p3] X.env=(false,eval a X.env)::starEach [.Tuple [.Name "list" p1,.Name "tuple" p2] k p3] X.env:=by rfl)
  (hs2:starEach [.Tuple [.Name "list" p1,.Name "tuple" p2] k p3] X.env=(false,eval (.Tuple [.Name "list" p1,.Name "tuple" p2] k p3) X.env)::starEach [] X.env:=by rfl)
  (hs3:starEach [.Name "list" p1,.Name "tuple" p2] X.env=(false,eval (.Name "list" p1) X.env)::starEach [.Name "tuple" p2] X.env:=by rfl) (hs4:starEach [.Name "tuple" p2] X.env=(false,eval (.Name "tuple" p2) X.env)::starEach [] X.env:=by rfl)
  (hpl:(backTo pos (starEach [.Tuple [.Name "list" p1,.Name "tuple" p2] k p3] X.env)).any (·.1)=false:=by rfl):DE X (.Call (.Name "isinstance" p) [a,.Tuple [.Name "list" p1,.Name "tuple" p2] k p3] [] pos) (Aig ta) where
 mono:=fun hq h=>ha.mono (fun _ h=>⟨h.1,hq _ h.2⟩) h
 pe:=(Qm Aca hg hm hv (Ei ha.pe (Ei (Ac2 (Ei (Vk (v:=.ty "list") hg1 hm1 hv1 rfl (by decide) (by decide)) (Ei (Vk (v:=.ty "tuple") hg2 hm2 hv2 rfl (by decide) (by decide)) Lg hs4) hs3)) Lg hs2) hs1) (he:=hs1) (hpl:=hpl)).imp fun σ H Q ⟨B,F,O,ρ,R,h⟩ =>
  ⟨B,F,O,ρ,R,ha.mono (fun d h v H1 s1 r1=>⟨Am (by decide),fun t ht=>⟨d,v,t,rfl,(r1.mono Bk).mono (Same.upd ht),h.1,SqT.of Av,h.2 _ _ (s1.trans (Same.upd ht)) (Dd.mpr rfl)⟩⟩) h⟩
end
end L2
namespace L2
open PySem Spec PyProof.Rows SeqAt
section
variable{X:Cx}{e:Expr}{te:DTE}
def AhK(te:DTE):DTA:=fun ρ Q=>te ρ fun d=>match d with
 |.lst ks=>(∃b,Dt.bl b∈ks)∧Q ks
 |_=>False
theorem Ze(he:DE X e te):DF X e (AhK te) where
 mono:=fun hq z=>he.mono (fun d z=>by
  split at z
  ·exact⟨z.1,hq _ z.2⟩
  ·exact z.elim) z
 pe:=he.pe.imp fun σ H Q ⟨B,F,O,ρ,R,z⟩=>⟨B,F,O,ρ,R,he.mono (fun d z v H1 s1 r1=>by
  split at z
  ·obtain⟨⟨rr,q2⟩,z⟩:=z
   obtain⟨a,xs,rfl,ls,rl⟩:=Py.mp r1
   have ea:mask (F++O) H1 a=some (.lst xs):=by
    rcases ls with ls|⟨_,hi⟩
    ·exact ls
    ·obtain⟨v,hv,r⟩:=rl.ab2 q2
     obtain⟨i,e⟩:=hi _ hv
     rw[Dd.mp r]at e
     cases e
   obtain⟨na,ea⟩:=Cg ea
   exact z a H1 xs s1 ea na rl
  ·exact z.elim) z⟩
end
end L2
namespace My
open PySem L2
abbrev U3:DSp:=AhX
abbrev I4:=Int×Int×Int×Int
abbrev I2:=Int×Int
abbrev t4(p:I4):Dt:=T4 p.1 p.2.1 p.2.2.1 p.2.2.2
abbrev t2(p:I2):Dt:=T2 p.1 p.2
def B4(n:Nat)(p:I4):Prop:=Bt n p.1∧Bt n p.2.1∧Bt n p.2.2.1∧Bt n p.2.2.2
def B2(n:Nat)(p:I2):Prop:=Bt n p.1∧Bt n p.2
def det(p:I4):Int:=p.1*p.2.2.2-p.2.1*p.2.2.1
def Ez(t:I4)(p:I2):I2:=(t.1*p.1+t.2.1*p.2,t.2.2.1*p.1+t.2.2.2*p.2)
def Ah(a b:I4):I4:=(a.1*b.1+a.2.1*b.2.2.1,a.1*b.2.1+a.2.1*b.2.2.2,a.2.2.1*b.1+a.2.2.2*b.2.2.1,a.2.2.1*b.2.1+a.2.2.2*b.2.2.2)
def Ao(t:I4):I4:=(t.2.2.2,-t.2.1,-t.2.2.1,t.1)
theorem B4.le{n m:Nat}{t:I4}(h:B4 n t)(l:n≤m):B4 m t:=⟨h.1.le l,h.2.1.le l,h.2.2.1.le l,h.2.2.2.le l⟩
theorem B4.back{n:Nat}{t:I4}(h:B4 n t):B4 n (Ao t):=⟨h.2.2.2,h.2.1.neg,h.2.2.1.neg,h.1⟩
theorem B2.led{n m:Nat}{t:I4}{p:I2}(h:B4 n t)(q:B2 m p):B2 (n+m+1) (Ez t p) :=
 ⟨((h.1.mul q.1).add (h.2.1.mul q.2)).le (by omega),((h.2.2.1.mul q.1).add (h.2.2.2.mul q.2)).le (by omega)⟩
theorem B4.then{n m:Nat}{t u:I4}(h:B4 n t)(q:B4 m u):B4 (n+m+1) (Ah t u) :=
 ⟨((h.1.mul q.1).add (h.2.1.mul q.2.2.1)).le (by omega),((h.1.mul q.2.1).add (h.2.1.mul q.2.2.2)).le (by omega),((h.2.2.1.mul q.1).add (h.2.2.2.mul q.2.2.1)).le (by omega),((h.2.2.1.mul q.2.1).add (h.2.2.2.mul q.2.2.2)).le (by omega)⟩
def CP{t:I4}:det (Ao t)=det t:=by obtain⟨a,b,c,d⟩:=t;simp only[det,Ao];grind
def BK{t u:I4}:det (Ah t u)=det t*det u:=by obtain⟨a,b,c,d⟩:=t;obtain⟨e,f,g,h⟩:=u;simp only[det,Ah];grind
def Fw{t:I4}(h:det t=1):Ah t (Ao t)=(1,0,0,1):=by
 obtain⟨a,b,c,d⟩:=t
 simp only[det,Ah,Ao,Prod.mk.injEq]at *
 refine⟨?_,?_,?_,?_⟩<;>grind
def Tq{t:I4}(h:det t=1):Ah (Ao t) t=(1,0,0,1):=by
 obtain⟨a,b,c,d⟩:=t
 simp only[det,Ah,Ao,Prod.mk.injEq]at *
 refine⟨?_,?_,?_,?_⟩<;>grind
def Qz{t:I4}{p:I2}(h:det t=1):Ez (Ao t) (Ez t p)=p:=by
 obtain⟨a,b,c,d⟩:=t
 obtain⟨x,y⟩:=p
 simp only[det,Ez,Ao,Prod.mk.injEq]at *
 refine⟨?_,?_⟩<;>grind
def Ma{t u:I4}{p:I2}:Ez (Ah t u) p=Ez t (Ez u p):=by
 obtain⟨a,b,c,d⟩:=t
 obtain⟨e,f,g,i⟩:=u
 obtain⟨x,y⟩:=p
 simp only[Ez,Ah,Prod.mk.injEq]
 refine⟨?_,?_⟩<;>grind
def Aen{s t:I4}:Dt.eq (t4 s) (t4 t)=decide (s=t):=by
 obtain⟨a,b,c,d⟩:=s
 obtain⟨e,f,g,h⟩:=t
 simp only[Qo,HB,Hv,Ot,Prod.mk.injEq,Bool.and_true]
 simp only[Bool.decide_and]
def Alh{s t:I2}:Dt.eq (t2 s) (t2 t)=decide (s=t):=by
 obtain⟨a,b⟩:=s
 obtain⟨e,f⟩:=t
 simp only[Qo,HB,Hv,Ot,Prod.mk.injEq,Bool.and_true]
 simp only[Bool.decide_and]
abbrev I3:=Int×Int×Int
abbrev t3(p:I3):Dt:=T3 p.1 p.2.1 p.2.2
def B3(n:Nat)(p:I3):Prop:=Bt n p.1∧Bt n p.2.1∧Bt n p.2.2
theorem B3.le{n m:Nat}{t:I3}(h:B3 n t)(l:n≤m):B3 m t:=⟨h.1.le l,h.2.1.le l,h.2.2.le l⟩
def meas(f:I3):Int:=f.2.1*f.2.1-4*f.1*f.2.2
def val(f:I3)(p:I2):Int:=f.1*p.1*p.1+f.2.1*p.1*p.2+f.2.2*p.2*p.2
def mid(f:I3)(l r:I2):Int:=2*f.1*l.1*r.1+f.2.1*(l.1*r.2+r.1*l.2)+2*f.2.2*l.2*r.2
def mov(f:I3)(t:I4):I3:=(val f (t.1,t.2.2.1),mid f (t.1,t.2.2.1) (t.2.1,t.2.2.2),val f (t.2.1,t.2.2.2))
def AaM{f:I3}{t:I4}{p:I2}:val (mov f t) p=val f (Ez t p):=by
 obtain⟨a,b,c⟩:=f;obtain⟨e,g,h,i⟩:=t;obtain⟨x,y⟩:=p
 simp only[val,mov,mid,Ez];grind
def BJ{f:I3}{t:I4}(h:det t=1):meas (mov f t)=meas f:=by
 obtain⟨a,b,c⟩:=f;obtain⟨e,g,i,j⟩:=t
 simp only[det]at h
 have e1:meas (mov (a,b,c) (e,g,i,j))=(e*j-g*i)*(e*j-g*i)*meas (a,b,c):=by simp only[meas,mov,val,mid];grind
 rw[e1,h];simp
def Bd{f:I3}{t u:I4}:mov (mov f t) u=mov f (Ah t u):=by
 obtain⟨a,b,c⟩:=f;obtain⟨e,g,i,j⟩:=t;obtain⟨k,l,m,n⟩:=u
 simp only[mov,val,mid,Ah,Prod.mk.injEq]
 refine⟨?_,?_,?_⟩<;>grind
def Fd{f:I3}:mov f (1,0,0,1)=f:=by
 obtain⟨a,b,c⟩:=f
 simp only[mov,val,mid,Prod.mk.injEq]
 refine⟨?_,?_,?_⟩<;>grind
def Ad1{s t:I3}:Dt.eq (t3 s) (t3 t)=decide (s=t):=by
 obtain⟨a,b,c⟩:=s
 obtain⟨e,f,g⟩:=t
 simp only[Qo,HB,Hv,Ot,Prod.mk.injEq,Bool.and_true]
 simp only[Bool.decide_and]
theorem B3.mov{f:I3}{t:I4}{n m:Nat}(hf:B3 n f)(ht:B4 m t):B3 (n+m+m+5) (mov f t):=by
 obtain⟨a,b,c⟩:=f;obtain⟨e,g,i,j⟩:=t
 obtain⟨ha,hb,hc⟩:=hf
 obtain⟨he,hg,hi,hj⟩:=ht
 have h2:Bt 2 2:=Bt.aK (by decide)
 refine⟨?_,?_,?_⟩
 ·exact((((ha.mul he).mul he).add ((hb.mul he).mul hi)).add ((hc.mul hi).mul hi)).le (by omega)
 ·exact(((((h2.mul ha).mul he).mul hg).add (hb.mul ((he.mul hj).add (hg.mul hi)))).add (((h2.mul hc).mul hi).mul hj)).le (by omega)
 ·exact((((ha.mul hg).mul hg).add ((hb.mul hg).mul hj)).add ((hc.mul hj).mul hj)).le (by omega)
def Sq(n r:Int):Prop:=0≤r∧r*r≤n∧n<(r+1)*(r+1)
theorem Sq.uniq{n r s:Int}(a:Sq n r)(b:Sq n s):r=s:=by
 obtain⟨a0,a1,a2⟩:=a
 obtain⟨b0,b1,b2⟩:=b
 rcases Int.lt_trichotomy r s with h|h|h
 ·have:=Int.mul_le_mul (show r+1≤s by omega) (show r+1≤s by omega) (by omega) b0
  omega
 ·exact h
 ·have:=Int.mul_le_mul (show s+1≤r by omega) (show s+1≤r by omega) (by omega) a0
  omega
def AbI{n g:Int}(hn:0≤n)(hg:0<g):n<((g+n / g) / 2+1)*((g+n / g) / 2+1):=by
 have h1:n<g*(n / g)+g:=Int.lt_mul_ediv_self_add hg
 have h0:0≤n / g:=Int.ediv_nonneg hn (by omega)
 generalize n / g=q at *
 have hb:g+q≤2*((g+q) / 2)+1:=by omega
 have hb0:0≤(g+q) / 2:=by omega
 generalize (g+q) / 2=b at *
 have z1:0≤(g-q-1)*(g-q-1):=by
  rcases Int.le_total 0 (g-q-1)with h|h
  ·exact Int.mul_nonneg h h
  ·exact Int.mul_nonneg_of_nonpos_of_nonpos h h
 have z2:(g+q+1)*(g+q+1)=(g-q-1)*(g-q-1)+4*(g*q+g):=by grind
 have z3:(g+q+1)*(g+q+1)≤(2*(b+1))*(2*(b+1)):=Int.mul_le_mul (by omega) (by omega) (by omega) (by omega)
 have z4:(2*(b+1))*(2*(b+1))=4*((b+1)*(b+1)):=by grind
 omega
def Yj{n g:Int}(hg:0<g)(h:g≤(g+n / g) / 2):g*g≤n:=by
 have h1:g*(n / g)≤n:=Int.mul_ediv_self_le (by omega)
 have h2:g≤n / g:=by omega
 have:=Int.mul_le_mul_of_nonneg_left h2 (show 0≤g by omega)
 omega
def Yi{n g:Int}(hn:1≤n)(hg:0<g):0<(g+n / g) / 2:=by
 have h0:0≤n / g:=Int.ediv_nonneg (by omega) (by omega)
 rcases Int.lt_or_le g 2 with h|h
 ·have:g=1:=by omega
  subst this
  rw[Int.ediv_one];omega
 ·omega
def AeE{n:Int}(hn:0≤n):n<(1*2 ^ ((((Builtin.Int.intBits n:Nat):Int)+1).fdiv 2).toNat+1)*(1*2 ^ ((((Builtin.Int.intBits n:Nat):Int)+1).fdiv 2).toNat+1):=by
 have h1:n.natAbs<2 ^ Builtin.Int.intBits n:=intBits_le_iff.mp (Nat.le_refl _)
 generalize Builtin.Int.intBits n=b at *
 have e:((((b:Nat):Int)+1).fdiv 2).toNat=(b+1) / 2:=by
  rw[Int.fdiv_eq_ediv_of_nonneg _ (by decide)];omega
 rw[e]
 generalize hk:(b+1) / 2=k
 have h2:2 ^ b≤2 ^ k*2 ^ k:=by rw[←Nat.pow_add];exact Nat.pow_le_pow_right (by decide) (by omega)
 have h3:n<((2 ^ k*2 ^ k:Nat):Int):=by omega
 have h4:((2 ^ k*2 ^ k:Nat):Int)=(2 ^ k:Int)*2 ^ k:=by push_cast;rfl
 rw[h4]at h3
 have h5:(0:Int)≤2 ^ k:=Int.pow_nonneg (by decide)
 generalize (2 ^ k:Int)=z at *
 have:(1*z+1)*(1*z+1)=z*z+2*z+1:=by grind
 omega
def Wg{n:Int}(h:Bt 4000 n):AbB 1 ((((Builtin.Int.intBits n:Nat):Int)+1).fdiv 2)∧Bt 2001 (1*2 ^ ((((Builtin.Int.intBits n:Nat):Int)+1).fdiv 2).toNat)∧0<(1*2 ^ ((((Builtin.Int.intBits n:Nat):Int)+1).fdiv 2).toNat:Int):=by
 have hb:Builtin.Int.intBits n≤4000:=intBits_le_iff.mpr h
 generalize Builtin.Int.intBits n=b at *
 rw[Int.fdiv_eq_ediv_of_nonneg _ (by decide)]
 refine⟨⟨by omega,by omega,by decide⟩,?_,?_⟩
 ·have e:(((b:Int)+1) / 2).toNat≤2000:=by omega
  generalize (((b:Int)+1) / 2).toNat=k at *
  unfold Bt
  rw[Int.one_mul,Int.natAbs_pow]
  exact Nat.pow_lt_pow_right (by decide) (by omega)
 ·rw[Int.one_mul]
  exact Int.pow_pos (by decide)
def Aaw{n g:Int}(hg:0<g):(g+n.fdiv g).fdiv 2=(g+n / g) / 2:=by
 rw[Int.fdiv_eq_ediv_of_nonneg _ (by decide),Int.fdiv_eq_ediv_of_nonneg _ (by omega)]
def Fi(n:Int):Prop:=∃r:Int,r*r=n
def M5{n r:Int}(h:Sq n r):Fi n↔r*r=n:=by
 refine⟨fun⟨s,e⟩=>?_,fun e=>⟨r,e⟩⟩
 have hs:Sq n (s.natAbs:Int):=by
  have e2:(s.natAbs:Int)*(s.natAbs:Int)=n:=(Int.natAbs_mul_self' s).trans e
  refine⟨by omega,by omega,?_⟩
  have:((s.natAbs:Int)+1)*((s.natAbs:Int)+1)=(s.natAbs:Int)*(s.natAbs:Int)+2*(s.natAbs:Int)+1:=by grind
  omega
 rw[h.uniq hs]
 exact(Int.natAbs_mul_self' s).trans e
def MP{n:Int}(h:n<0):¬Fi n:=fun⟨r,e⟩=>by
 have:0≤r*r:=by
  rcases Int.le_total 0 r with h|h
  ·exact Int.mul_nonneg h h
  ·exact Int.mul_nonneg_of_nonpos_of_nonpos h h
 omega
abbrev Mw:DSp:=spec (fun n:Int=>[.int n]) (fun n=>0≤n∧Bt 4000 n) fun n d=>∃r,d=.int r∧Sq n r∧Bt 2001 r
abbrev M7:DSp:=spec (fun n:Int=>[.int n]) (fun n=>Bt 4000 n) fun n d=>∃b:Bool,d=.bl b∧(b=true↔Fi n)
def Ea(a b:Int):a.fmod b=a-b*a.fdiv b:=Int.fmod_def a b
def PB{a b:Int}(h:b≠0):(a.fmod b).natAbs<b.natAbs:=by
 rcases Int.lt_or_lt_of_ne h with h|h
 ·have e:a.fmod b=-((-a).fmod (-b)):=by rw[Ea,Ea,Int.neg_fdiv_neg];grind
  have h1:=Int.fmod_nonneg_of_pos (-a) (show 0 < -b by omega)
  have h2:=Int.fmod_lt_of_pos (-a) (show 0 < -b by omega)
  omega
 ·have h1:=Int.fmod_nonneg_of_pos a h
  have h2:=Int.fmod_lt_of_pos a h
  omega
def W3(a b:Int):Int.gcd b (a.fmod b)=Int.gcd a b:=by
 rw[Ea]
 have:a-b*a.fdiv b=a+b*(-(a.fdiv b)):=by grind
 rw[this,Int.gcd_comm]
 first
  |rw[Int.gcd_add_mul_left_left]
  |simp
def Akx{n:Nat}{a b:Int}(ha:Bt n a)(hb:Bt n b):Bt n ((Int.gcd a b:Nat):Int):=by
 unfold Bt at *
 rw[Int.natAbs_natCast]
 by_cases h:a=0
 ·subst h;rw[Int.gcd_zero_left];exact hb
 ·have:=Int.gcd_le_natAbs_left b h
  omega
def g3(f:I3):Nat:=Int.gcd ((Int.gcd f.1 f.2.1:Nat):Int) f.2.2
inductive Adf(f:I3):Dt→Prop
 |flat:Fi (meas f)→Adf f (.str "flat")
 |saddle:¬Fi (meas f)→0<meas f→Adf f (.str "saddle")
 |bowl:¬Fi (meas f)→¬0<meas f→0<f.1→Adf f (.str "bowl")
 |dome:¬Fi (meas f)→¬0<meas f→¬0<f.1→Adf f (.str "dome")
def Pt(x y:Int):Prop:=¬(x=0∧y=0)
structure Ds(f:I3):Prop where
 pos:0<f.1
 lo:-f.1≤f.2.1
 hi:f.2.1≤f.1
 ac:f.1≤f.2.2
 edge:f.2.1=-f.1∨f.1=f.2.2→0≤f.2.1
theorem sq_pos{x:Int}(h:x≠0):1≤x*x:=by
 rcases Int.lt_or_lt_of_ne h with h|h
 ·have:=Int.mul_le_mul_of_nonneg_left (show 1≤-x by omega) (show 0≤-x by omega)
  have e:(-x)*(-x)=x*x:=by grind
  omega
 ·have:=Int.mul_le_mul_of_nonneg_left (show 1≤x by omega) (show 0≤x by omega)
  omega
def Ub{a b c x y:Int}(ha:0<a)(h1:-a≤b)(h2:b≤a)(hc:a≤c)(hx:x≠0)(hy:y≠0):c≤val (a,b,c) (x,y):=by
 have key:∀X Y B:Int,1≤X→1≤Y→0≤B→B≤a→a+c-B≤a*(X*X)-B*(X*Y)+c*(Y*Y):=fun X Y B hX hY hB0 hB=>by
  have sX:1≤X*X:=sq_pos (by omega)
  have sY:1≤Y*Y:=sq_pos (by omega)
  rcases Int.le_total Y X with h|h
  ·have z1:X*Y≤X*X:=Int.mul_le_mul_of_nonneg_left h (by omega)
   have z2:B*(X*Y)≤B*(X*X):=Int.mul_le_mul_of_nonneg_left z1 hB0
   have z3:(a-B)*1≤(a-B)*(X*X):=Int.mul_le_mul_of_nonneg_left sX (by omega)
   have z4:c*1≤c*(Y*Y):=Int.mul_le_mul_of_nonneg_left sY (by omega)
   have z5:(a-B)*(X*X)=a*(X*X)-B*(X*X):=by grind
   omega
  ·have z1:X*Y≤Y*Y:=Int.mul_le_mul_of_nonneg_right h (by omega)
   have z2:B*(X*Y)≤B*(Y*Y):=Int.mul_le_mul_of_nonneg_left z1 hB0
   have z3:(c-B)*1≤(c-B)*(Y*Y):=Int.mul_le_mul_of_nonneg_left sY (by omega)
   have z4:a*1≤a*(X*X):=Int.mul_le_mul_of_nonneg_left sX (by omega)
   have z5:(c-B)*(Y*Y)=c*(Y*Y)-B*(Y*Y):=by grind
   omega
 have hX:1≤(x.natAbs:Int):=by omega
 have hY:1≤(y.natAbs:Int):=by omega
 have k:=key x.natAbs y.natAbs b.natAbs hX hY (by omega) (by omega)
 have e1:(x.natAbs:Int)*x.natAbs=x*x:=Int.natAbs_mul_self' x
 have e2:(y.natAbs:Int)*y.natAbs=y*y:=Int.natAbs_mul_self' y
 have e3:-((b.natAbs:Int)*((x.natAbs:Int)*y.natAbs))≤b*(x*y):=by
  have:((b.natAbs:Int)*((x.natAbs:Int)*y.natAbs))=((b*(x*y)).natAbs:Int):=by rw[Int.natAbs_mul,Int.natAbs_mul];push_cast;rfl
  rw[this];omega
 rw[e1,e2]at k
 have e4:val (a,b,c) (x,y)=a*(x*x)+b*(x*y)+c*(y*y):=by simp only[val];grind
 rw[e4]
 omega
def Lk{a b c x:Int}:val (a,b,c) (x,0)=a*(x*x):=by simp only[val];grind
def T9{a b c y:Int}:val (a,b,c) (0,y)=c*(y*y):=by simp only[val];grind
theorem Ds.min{f:I3}(L:Ds f){x y:Int}(h:Pt x y):f.1≤val f (x,y):=by
 obtain⟨a,b,c⟩:=f
 obtain⟨h0,h1,h2,h3,_⟩:=L
 simp only at h0 h1 h2 h3 ⊢
 by_cases hy:y=0
 ·subst hy
  have hx:x≠0:=fun z=>h ⟨z,rfl⟩
  rw[Lk]
  have:=Int.mul_le_mul_of_nonneg_left (sq_pos hx) (show 0≤a by omega)
  omega
 ·by_cases hx:x=0
  ·subst hx
   rw[T9]
   have:=Int.mul_le_mul_of_nonneg_left (sq_pos hy) (show 0≤c by omega)
   omega
  ·have:=Ub h0 h1 h2 h3 hx hy
   omega
theorem Ds.low{f:I3}(L:Ds f){x y:Int}(h:val f (x,y)<f.2.2):y=0:=by
 obtain⟨a,b,c⟩:=f
 obtain⟨h0,h1,h2,h3,_⟩:=L
 simp only at h0 h1 h2 h3 h ⊢
 by_cases hy:y=0
 ·exact hy
 ·exfalso
  by_cases hx:x=0
  ·subst hx
   rw[T9]at h
   have:=Int.mul_le_mul_of_nonneg_left (sq_pos hy) (show 0≤c by omega)
   omega
  ·have:=Ub h0 h1 h2 h3 hx hy
   omega
def AeD{t:I4}(h:det t=1):Pt t.1 t.2.2.1:=fun⟨h1,h2⟩=>by
 obtain⟨p,q,r,s⟩:=t
 simp only[det]at h h1 h2
 rw[h1,h2]at h
 simp at h
def BZ{f:I3}{t:I4}(h:det t=1):mov (mov f t) (Ao t)=f:=by rw[Bd,Fw h,Fd]
def Tw{x:Int}(h:x*x=1):x=1∨x=-1:=by
 rcases Int.lt_or_le x 0 with z|z
 ·have:(-x)*(-x)=1:=by grind
  rcases Int.lt_or_le (-x) 2 with w|w
  ·exact .inr (by omega)
  ·have:=Int.mul_le_mul w w (by decide) (by omega)
   omega
 ·rcases Int.lt_or_le x 2 with w|w
  ·rcases Int.lt_or_le x 1 with v|v
   ·have:x=0:=by omega
    rw[this]at h;simp at h
   ·exact .inl (by omega)
  ·have:=Int.mul_le_mul w w (by decide) z
   omega
theorem Ds.fix{f:I3}{t:I4}(L:Ds f)(M:Ds (mov f t))(h:det t=1)(ha:(mov f t).1=f.1)(hc:f.1<f.2.2):t=(1,0,0,1)∨t=(-1,0,0,-1):=by
 obtain⟨a,b,c⟩:=f
 obtain⟨p,q,r,s⟩:=t
 have e1:(mov (a,b,c) (p,q,r,s)).1=val (a,b,c) (p,r):=rfl
 have hr:r=0:=L.low (x:=p) (by rw[←e1,ha];exact hc)
 subst hr
 rw[e1,Lk]at ha
 have h0:0<a:=L.pos
 simp only at ha
 have hpp:p*p=1:=by
  have:a*(p*p)=a*1:=by rw[ha];omega
  exact Int.eq_of_mul_eq_mul_left (by omega) this
 have hps:p*s=1:=by simp only[det]at h;omega
 have hb:(mov (a,b,c) (p,q,0,s)).2.1=2*(a*(p*q))+b:=by
  show 2*a*p*q+b*(p*s+q*0)+2*c*0*s=_
  rw[hps];grind
 have m1:-a≤2*(a*(p*q))+b:=by
  have:=M.lo
  rw[hb,e1,Lk,hpp]at this
  omega
 have m2:2*(a*(p*q))+b≤a:=by
  have:=M.hi
  rw[hb,e1,Lk,hpp]at this
  omega
 have m3:2*(a*(p*q))+b=-a→0≤2*(a*(p*q))+b:=fun z=>by
  have:=M.edge (.inl (by rw[hb,e1,Lk,hpp];omega))
  rw[hb]at this
  exact this
 have l1:-a≤b:=L.lo
 have l2:b≤a:=L.hi
 have l3:b=-a→0≤b:=fun z=>L.edge (.inl z)
 have hq:p*q=0:=by
  generalize p*q=k at *
  rcases Int.lt_trichotomy k 0 with z|z|z
  ·have:=Int.mul_le_mul_of_nonneg_left (show k≤-1 by omega) (show 0≤a by omega)
   omega
  ·exact z
  ·have:=Int.mul_le_mul_of_nonneg_left (show 1≤k by omega) (show 0≤a by omega)
   omega
 rcases Tw hpp with rfl|rfl
 ·have h1:q=0:=by omega
  have h2:s=1:=by omega
  rw[h1,h2];exact .inl rfl
 ·have h1:q=0:=by omega
  have h2:s=-1:=by omega
  rw[h1,h2];exact .inr rfl
theorem Ds.one{f:I3}{t:I4}(L:Ds f)(M:Ds (mov f t))(h:det t=1):mov f t=f:=by
 have d1:f.1≤(mov f t).1:=by
  have e1:(mov f t).1=val f (t.1,t.2.2.1):=rfl
  rw[e1];exact L.min (AeD h)
 have hk:det (Ao t)=1:=CP.trans h
 have d2:(mov f t).1≤f.1:=by
  have:=M.min (AeD hk)
  have e1:(mov (mov f t) (Ao t)).1=val (mov f t) ((Ao t).1,(Ao t).2.2.1):=rfl
  rw[←e1,BZ h]at this
  exact this
 have ha:(mov f t).1=f.1:=by omega
 have hm:=BJ (f:=f) h
 by_cases hc:f.1<f.2.2
 ·rcases L.fix M h ha hc with e|e
  ·rw[e,Fd]
  ·rw[e]
   obtain⟨a,b,c⟩:=f
   simp only[mov,val,mid,Prod.mk.injEq]
   refine⟨?_,?_,?_⟩<;>grind
 ·by_cases hc':(mov f t).1<(mov f t).2.2
  ·exfalso
   have L':Ds (mov (mov f t) (Ao t)):=by rw[BZ h];exact L
   have ha':(mov (mov f t) (Ao t)).1=(mov f t).1:=by rw[BZ h];exact ha.symm
   rcases M.fix L' hk ha' hc' with e|e
   ·have:f=mov f t:=by
     have z:=BZ (f:=f) h
     rw[e,Fd]at z
     exact z.symm
    rw[←this]at hc'
    exact hc hc'
   ·have:f=mov f t:=by
     have z:=BZ (f:=f) h
     rw[e]at z
     have z2:mov (mov f t) (-1,0,0,-1)=mov f t:=by
      obtain⟨a,b,c⟩:=mov f t
      simp only[mov,val,mid,Prod.mk.injEq]
      refine⟨?_,?_,?_⟩<;>grind
     rw[z2]at z
     exact z.symm
    rw[←this]at hc'
    exact hc hc'
  ·have l3:=L.ac
   have m3:=M.ac
   have l5:=L.edge (.inr (by omega))
   have m5:=M.edge (.inr (by omega))
   have l0:=L.pos
   have e2:f.2.2=f.1:=by omega
   have e3:(mov f t).2.2=f.1:=by omega
   generalize mov f t=g at *
   obtain⟨a,b,c⟩:=f
   obtain⟨a',b',c'⟩:=g
   simp only at *
   subst ha e2 e3
   simp only[meas]at hm
   have hbb:b'*b'=b*b:=by omega
   have:b'=b:=by
    rcases Int.lt_trichotomy b' b with z|z|z
    ·have z1:b'*b'≤b'*b:=Int.mul_le_mul_of_nonneg_left (by omega) m5
     have z2:b'*b<b*b:=Int.mul_lt_mul_of_pos_right z (by omega)
     omega
    ·exact z
    ·have z1:b*b≤b*b':=Int.mul_le_mul_of_nonneg_left (by omega) l5
     have z2:b*b'<b'*b':=Int.mul_lt_mul_of_pos_right z (by omega)
     omega
   rw[this]
def AmN(ns:List Int)(lo hi:Option Int):∃cs:List Int,cutD (ns.map Dt.int) lo hi=cs.map Dt.int∧cs.length≤ns.length:=by
 refine⟨(ns.drop (HT.sIx (ns.map Dt.int).length 0 lo)).take (HT.sIx (ns.map Dt.int).length (ns.map Dt.int).length hi-HT.sIx (ns.map Dt.int).length 0 lo),by unfold cutD;rw[List.map_take,List.map_drop],?_⟩
 rw[List.length_take,List.length_drop];omega
def AiL{ds:List Dt}{k:Int}(h0:0≤k)(h1:k<ds.length):∃d,ixD k (.lst ds)=some d∧ixL k ds=some d∧ds[k.toNat]? = some d:=by
 obtain⟨j,rfl⟩:=Int.eq_ofNat_of_zero_le h0
 have hj:j<ds.length:=by omega
 have e:ds[j]? = some ds[j]:=by simp[hj]
 exact⟨_,e,e,e⟩
def Gw(x:Int){m:Int}(h:0<m):0≤x.fmod m∧x.fmod m<m:=⟨Int.fmod_nonneg_of_pos x h,Int.fmod_lt_of_pos x h⟩
def AgF{zs:List Int}{k:Int}{P:Int→Prop}(h0:0≤k)(h1:k<zs.length)(hP:∀z∈zs,P z):∃z,ixD k (.lst (zs.map Dt.int))=some (.int z)∧P z:=by
 refine⟨_,Afa h0 h1,hP _ ?_⟩
 have:k.toNat<zs.length:=by omega
 simp[this]
theorem sq_nonneg(x:Int):0≤x*x:=by
 rcases Int.le_total 0 x with h|h
 ·exact Int.mul_nonneg h h
 ·exact Int.mul_nonneg_of_nonpos_of_nonpos h h
def AfB(ns:List Int)(lo hi:Option Int):∃cs:List Int,cutD (ns.map Dt.int) lo hi=cs.map Dt.int∧cs.length≤ns.length∧∀n∈cs,n∈ns:=by
 refine⟨(ns.drop (HT.sIx (ns.map Dt.int).length 0 lo)).take (HT.sIx (ns.map Dt.int).length (ns.map Dt.int).length hi-HT.sIx (ns.map Dt.int).length 0 lo),by unfold cutD;rw[List.map_take,List.map_drop],?_,fun n h=>List.mem_of_mem_drop (List.mem_of_mem_take h)⟩
 rw[List.length_take,List.length_drop];omega
end My
namespace My
open PySem L2
def Bl(f:I3):Prop:=0<f.1∧meas f<0
def stands(f:I3):Bool:=decide (-f.1≤f.2.1∧f.2.1≤f.1∧f.1≤f.2.2)&&(decide (0≤f.2.1)||(decide (f.2.1≠-f.1)&&decide (f.1≠f.2.2)))
def Br{f:I3}(h:0<f.1)(s:stands f=true):Ds f:=by
 simp only[stands,Bool.and_eq_true,Bool.or_eq_true,decide_eq_true_eq]at s
 obtain⟨⟨h1,h2,h3⟩,h4⟩:=s
 exact⟨h,h1,h2,h3,fun z=>by rcases h4 with h4|⟨h4,h5⟩;exact h4;rcases z with z|z;exact absurd z h4;exact absurd z h5⟩
theorem Ds.bowl{f:I3}(L:Ds f):Bl f:=by
 obtain⟨a,b,c⟩:=f
 refine⟨L.pos,?_⟩
 have h0:0<a:=L.pos
 have h1:-a≤b:=L.lo
 have h2:b≤a:=L.hi
 have h3:a≤c:=L.ac
 have h4:b*b≤a*a:=by
  have e1:(b.natAbs:Int)*b.natAbs=b*b:=Int.natAbs_mul_self' b
  have:=Int.mul_le_mul (show(b.natAbs:Int)≤a by omega) (show(b.natAbs:Int)≤a by omega) (by omega) (by omega)
  omega
 have h5:a*a≤a*c:=Int.mul_le_mul_of_nonneg_left h3 (by omega)
 have h6:1≤a*a:=sq_pos (by omega)
 show b*b-4*a*c<0
 have e:4*a*c=4*(a*c):=by grind
 omega
theorem Ds.bt{f:I3}{n:Nat}(L:Ds f)(h:Bt n (meas f)):B3 n f:=by
 obtain⟨a,b,c⟩:=f
 have h0:0<a:=L.pos
 have h1:-a≤b:=L.lo
 have h2:b≤a:=L.hi
 have h3:a≤c:=L.ac
 have h4:b*b≤a*a:=by
  have e1:(b.natAbs:Int)*b.natAbs=b*b:=Int.natAbs_mul_self' b
  have:=Int.mul_le_mul (show(b.natAbs:Int)≤a by omega) (show(b.natAbs:Int)≤a by omega) (by omega) (by omega)
  omega
 have h5:a*a≤a*c:=Int.mul_le_mul_of_nonneg_left h3 (by omega)
 have h6:1*c≤a*c:=Int.mul_le_mul_of_nonneg_right (by omega) (by omega)
 have hm:meas (a,b,c)=b*b-4*(a*c):=by simp only[meas];grind
 have hc:Bt n c:=by unfold Bt at *;rw[hm]at h;omega
 refine⟨?_,?_,hc⟩
 ·show Bt n a
  unfold Bt at *;omega
 ·show Bt n b
  unfold Bt at *;omega
def oft(f:I3):Int:=(f.1-f.2.1).fdiv (2*f.1)
def Ec(f:I3):I4:=if oft f≠0 then(1,oft f,0,1)else(0,-1,1,0)
def Ti{f:I3}:det (Ec f)=1:=by
 unfold Ec
 split<;>simp[det]
def V7{a b c k:Int}:mov (a,b,c) (1,k,0,1)=(a,b+2*a*k,a*k*k+b*k+c):=by
 simp only[mov,val,mid,Prod.mk.injEq]
 refine⟨?_,?_,?_⟩<;>grind
def VB{a b c:Int}:mov (a,b,c) (0,-1,1,0)=(c,-b,a):=by
 simp only[mov,val,mid,Prod.mk.injEq]
 refine⟨?_,?_,?_⟩<;>grind
def KD{a b:Int}(h:0<a):-a<b+2*a*((a-b).fdiv (2*a))∧b+2*a*((a-b).fdiv (2*a))≤a:=by
 rw[Int.fdiv_eq_ediv_of_nonneg _ (by omega)]
 have h1:=Int.lt_mul_ediv_self_add (x:=a-b) (show 0<2*a by omega)
 have h2:=Int.mul_ediv_self_le (x:=a-b) (k:=2*a) (by omega)
 omega
def Wv{a b:Int}(h:0<a)(z:(a-b).fdiv (2*a)=0):-a<b∧b≤a:=by
 have:=KD (b:=b) h
 rw[z]at this
 omega
def msr(f:I3):Nat:=4*f.1.toNat+(if -f.1<f.2.1∧f.2.1≤f.1 then 0 else 2)+(if f.2.1<0 then 1 else 0)
def U8{f:I3}(h:Bl f):0<f.2.2:=by
 obtain⟨a,b,c⟩:=f
 obtain⟨h0,h1⟩:=h
 simp only[meas]at h0 h1 ⊢
 rcases Int.lt_or_le 0 c with h|h
 ·exact h
 ·exfalso
  have h2:0≤b*b:=sq_nonneg b
  have h3:a*c≤a*0:=Int.mul_le_mul_of_nonneg_left h (by omega)
  have e:4*a*c=4*(a*c):=by grind
  omega
def AcD{f:I3}{t:I4}(h:Bl f)(d:det t=1):Bl (mov f t):=by
 have hm:=BJ (f:=f) d
 refine⟨?_,by rw[hm];exact h.2⟩
 obtain⟨a,b,c⟩:=f
 obtain⟨p,q,r,s⟩:=t
 obtain⟨h0,h1⟩:=h
 show 0<val (a,b,c) (p,r)
 simp only[meas]at h0 h1
 have e:4*(a*val (a,b,c) (p,r))=(2*a*p+b*r)*(2*a*p+b*r)-(b*b-4*a*c)*(r*r):=by simp only[val];grind
 have z1:=sq_nonneg (2*a*p+b*r)
 have z2:0≤(4*a*c-b*b)*(r*r):=Int.mul_nonneg (by omega) (sq_nonneg r)
 have e2:(4*a*c-b*b)*(r*r)=-((b*b-4*a*c)*(r*r)):=by grind
 rcases Int.lt_or_le 0 (val (a,b,c) (p,r))with h|h
 ·exact h
 ·exfalso
  have z3:a*val (a,b,c) (p,r)≤a*0:=Int.mul_le_mul_of_nonneg_left h (by omega)
  have hr:r*r=0:=by
   by_cases hr:r=0
   ·rw[hr];rfl
   ·exfalso
    have:=Int.mul_le_mul (show 1≤4*a*c-b*b by omega) (sq_pos hr) (by omega) (by omega)
    omega
  have hr0:r=0:=by
   by_cases hr0:r=0
   ·exact hr0
   ·have:=sq_pos hr0;omega
  subst hr0
  have hp:p≠0:=fun hp=>by subst hp;simp[det]at d
  have hp1:=sq_pos hp
  have e3:val (a,b,c) (p,0)=a*(p*p):=Lk
  rw[e3]at h
  have:=Int.mul_le_mul_of_nonneg_left hp1 (show 0≤a by omega)
  omega
def Ab0{f:I3}(h:Bl f)(s:stands f=false):msr (mov f (Ec f))<msr f:=by
 obtain⟨a,b,c⟩:=f
 have ha:0<a:=h.1
 have hc:0<c:=U8 h
 unfold Ec
 by_cases ho:oft (a,b,c)=0
 ·rw[if_neg (by simpa using ho),VB]
  have ⟨h1,h2⟩:-a<b∧b≤a:=Wv ha ho
  have hs:c<a∨(a=c∧b<0):=by
   simp only[stands,Bool.and_eq_false_iff,Bool.or_eq_false_iff,decide_eq_false_iff_not]at s
   omega
  unfold msr
  simp only
  rw[if_pos (show -a<b∧b≤a from⟨h1,h2⟩)]
  rcases hs with hs|⟨hs,hb⟩
  ·split<;>split<;>split<;>omega
  ·subst hs
   rw[if_pos (show -a < -b∧-b≤a by omega),if_pos hb,if_neg (by omega)]
   omega
 ·rw[if_pos ho,V7]
  have ⟨h1,h2⟩:=KD (b:=b) ha
  have hn:¬(-a<b∧b≤a):=fun z=>ho (by
   show(a-b).fdiv (2*a)=0
   rw[Int.fdiv_eq_ediv_of_nonneg _ (by omega)]
   exact Int.ediv_eq_zero_of_lt (by omega) (by omega))
  unfold msr
  simp only
  show 4*a.toNat+(if -a<b+2*a*((a-b).fdiv (2*a))∧b+2*a*((a-b).fdiv (2*a))≤a then 0 else 2)+(if b+2*a*((a-b).fdiv (2*a))<0 then 1 else 0)<_
  rw[if_pos ⟨h1,h2⟩,if_neg hn]
  split<;>split<;>omega
def Acr{f:I3}{n:Nat}(h:Bl f)(s:stands f=false)(b1:Bt n f.1)(b2:Bt n f.2.1):Bt n (mov f (Ec f)).1∧Bt n (mov f (Ec f)).2.1:=by
 obtain⟨a,b,c⟩:=f
 have ha:0<a:=h.1
 have hc:0<c:=U8 h
 have b1:Bt n a:=b1
 have b2:Bt n b:=b2
 unfold Ec
 by_cases ho:oft (a,b,c)=0
 ·rw[if_neg (by simpa using ho),VB]
  have ⟨h1,h2⟩:-a<b∧b≤a:=Wv ha ho
  have hs:c≤a:=by
   simp only[stands,Bool.and_eq_false_iff,Bool.or_eq_false_iff,decide_eq_false_iff_not]at s
   omega
  refine⟨?_,b2.neg⟩
  show Bt n c
  unfold Bt at *;omega
 ·rw[if_pos ho,V7]
  have ⟨h1,h2⟩:=KD (b:=b) ha
  refine⟨b1,?_⟩
  show Bt n (b+2*a*((a-b).fdiv (2*a)))
  unfold Bt at *;omega
def Af8{f:I3}{n m:Nat}(h:Bl f)(b1:Bt n f.1)(b2:Bt n f.2.1)(hm:Bt m (meas f)):B3 (n+n+m+1) f:=by
 obtain⟨a,b,c⟩:=f
 have ha:0<a:=h.1
 have hc:0<c:=U8 h
 refine⟨b1.le (by omega),b2.le (by omega),?_⟩
 have z:=(b2.mul b2).sub hm
 have e:b*b-meas (a,b,c)=4*(a*c):=by simp only[meas];grind
 have z1:1*c≤a*c:=Int.mul_le_mul_of_nonneg_right (by omega) (by omega)
 have z':Bt (max (n+n) m+1) (4*(a*c)):=by rw[←e];exact z
 have z2:Bt (max (n+n) m+1) c:=by unfold Bt at *;omega
 exact z2.le (by omega)
def AhM{n:Nat}{x:Int}(h:x*x<2 ^ (2*n)):Bt n x:=by
 unfold Bt
 rcases Nat.lt_or_ge x.natAbs (2 ^ n)with z|z
 ·exact z
 ·exfalso
  have:=Nat.mul_le_mul z z
  rw[←Nat.pow_add,show n+n=2*n by omega]at this
  have e1:(x.natAbs:Int)*x.natAbs=x*x:=Int.natAbs_mul_self' x
  have:((2 ^ (2*n):Nat):Int)≤(x.natAbs:Int)*x.natAbs:=by exact_mod_cast this
  rw[e1]at this
  push_cast at this
  omega
def Wn{f:I3}{n m k:Nat}{x y:Int}(h:Bl f)(hb:B3 n f)(hv:Bt m (val f (x,y)))(hk:n+m+2≤2*k):B2 k (x,y):=by
 obtain⟨a,b,c⟩:=f
 have ha:0<a:=h.1
 have hc:0<c:=U8 h
 have hm:b*b-4*a*c<0:=h.2
 obtain⟨h1,h2,h3⟩:=hb
 have h4:Bt 3 4:=Bt.aK (by decide)
 have e1:4*(a*val (a,b,c) (x,y))=(2*a*x+b*y)*(2*a*x+b*y)+(4*a*c-b*b)*(y*y):=by simp only[val];grind
 have e2:4*(c*val (a,b,c) (x,y))=(2*c*y+b*x)*(2*c*y+b*x)+(4*a*c-b*b)*(x*x):=by simp only[val];grind
 have k1:y*y≤4*(a*val (a,b,c) (x,y)):=by
  have z1:=sq_nonneg (2*a*x+b*y)
  have z2:=Int.mul_le_mul_of_nonneg_right (show 1≤4*a*c-b*b by omega) (sq_nonneg y)
  omega
 have k2:x*x≤4*(c*val (a,b,c) (x,y)):=by
  have z1:=sq_nonneg (2*c*y+b*x)
  have z2:=Int.mul_le_mul_of_nonneg_right (show 1≤4*a*c-b*b by omega) (sq_nonneg x)
  omega
 have up:∀{z w:Int},Bt n z→w≤4*(z*val (a,b,c) (x,y))→w<2 ^ (2*k):=fun{z w} hz hw=>by
  have h5:=hz.mul hv
  have h6:Bt (n+m) (z*val (a,b,c) (x,y)):=h5
  have h7:(4:Int)*2 ^ (n+m)≤2 ^ (2*k):=by
   have:(4:Int)*2 ^ (n+m)=2 ^ (n+m+2):=by rw[show n+m+2=(n+m)+1+1 from rfl,Int.pow_succ,Int.pow_succ];omega
   rw[this]
   have:=Nat.pow_le_pow_right (show 0<2 by decide) hk
   exact_mod_cast this
  unfold Bt at h6
  have h8:z*val (a,b,c) (x,y)<2 ^ (n+m):=by
   have:((z*val (a,b,c) (x,y)).natAbs:Int)<((2 ^ (n+m):Nat):Int):=by exact_mod_cast h6
   push_cast at this
   omega
  omega
 exact⟨AhM (up h3 k2),AhM (up h1 k1)⟩
def Zq{f:I3}{t:I4}{n m k:Nat}(h:Bl f)(hb:B3 n f)(hg:B3 m (mov f t))(hk:n+m+2≤2*k):B4 k t:=by
 have p1:=Wn (x:=t.1) (y:=t.2.2.1) h hb hg.1 hk
 have p2:=Wn (x:=t.2.1) (y:=t.2.2.2) h hb hg.2.2 hk
 exact⟨p1.1,p2.1,p1.2,p2.2⟩
def QF{f:I3}(h:oft f=0):Ec f=(0,-1,1,0):=by unfold Ec;rw[if_neg (by simpa using h)]
def Q9{f:I3}(h:¬oft f=0):Ec f=(1,oft f,0,1):=by unfold Ec;rw[if_pos h]
def Aes{f:I3}{n:Nat}(h:0<f.1)(b1:Bt n f.1)(b2:Bt n f.2.1):B4 (n+1) (Ec f):=by
 obtain⟨a,b,c⟩:=f
 have h:0<a:=h
 have b1:Bt n a:=b1
 have b2:Bt n b:=b2
 have one:Bt (n+1) 1:=Bt.one.le (by omega)
 by_cases ho:oft (a,b,c)=0
 ·rw[QF ho]
  exact⟨Bt.zero.le (by omega),one.neg,one,Bt.zero.le (by omega)⟩
 ·rw[Q9 ho]
  refine⟨one,?_,Bt.zero.le (by omega),one⟩
  have ⟨h1,h2⟩:=KD (b:=b) h
  show Bt (n+1) ((a-b).fdiv (2*a))
  generalize (a-b).fdiv (2*a)=k at *
  have e:2*a*k=2*(a*k):=by grind
  have z:(k.natAbs:Int)≤((a*k).natAbs:Int):=by
   rw[Int.natAbs_mul]
   have:=Nat.mul_le_mul_right k.natAbs (show 1≤a.natAbs by omega)
   omega
  unfold Bt at *
  rw[Nat.pow_succ]
  omega
end My
namespace My
open PySem L2
structure Sad(f:I3):Prop where
 no:¬Fi (meas f)
 pos:0<meas f
 most:meas f≤4000
def Level(f:I3)(far:Int):Prop:=(0<f.2.1∧f.2.1≤far)∧far-f.2.1<2*(if f.1<0 then -f.1 else f.1)∧2*(if f.1<0 then -f.1 else f.1)≤far+f.2.1
instance {f:I3} {far:Int}:Decidable (Level f far):=by unfold Level;infer_instance
theorem Sad.mov{f:I3}{t:I4}(h:Sad f)(d:det t=1):Sad (mov f t):=by
 have e:=BJ (f:=f) d
 exact⟨by rw[e];exact h.no,by rw[e];exact h.pos,by rw[e];exact h.most⟩
end My
namespace My
open PySem L2
abbrev ab(x:Int):Int:=if x<0 then -x else x
def Bf(x:Int):(0≤x∧ab x=x)∨(x<0∧ab x=-x):=by
 rcases Int.lt_or_le x 0 with h|h
 ·exact .inr ⟨h,if_pos h⟩
 ·exact .inl ⟨h,if_neg (by omega)⟩
def BX(x:Int):0≤ab x:=by rcases Bf x with⟨h,e⟩|⟨h,e⟩<;>omega
def Anb{n:Nat}{x:Int}(h:Bt n x):Bt n (ab x):=by
 rcases Bf x with⟨_,e⟩|⟨_,e⟩<;>rw[e]
 ·exact h
 ·exact h.neg
def Aah{n:Nat}{x y:Int}(h:Bt n y)(l:ab x≤ab y):Bt n x:=by
 unfold Bt at *
 rcases Bf x with⟨_,e⟩|⟨_,e⟩<;>rcases Bf y with⟨_,e'⟩|⟨_,e'⟩<;>omega
def S5{n:Nat}{x k:Int}(l:ab x≤k)(hk:k<2 ^ n):Bt n x:=by
 rcases Bf x with⟨_,e⟩|⟨_,e⟩<;>exact Bt.of (by omega) (by omega)
def dB(f:I3)(top:Int):Int:=top-(top+f.2.1).fmod (2*ab f.2.2)
def kB(f:I3)(top:Int):Int:=(f.2.1+dB f top).fdiv (2*f.2.2)
def Cw(f:I3)(top:Int):I4:=(0,-1,1,kB f top)
def CJ{f:I3}{top:Int}:det (Cw f top)=1:=by simp[det,Cw]
def MK{f:I3}{top:Int}(h:f.2.2≠0):top-2*ab f.2.2<dB f top∧dB f top≤top:=by
 have hc:0<2*ab f.2.2:=by rcases Bf f.2.2 with⟨_,e⟩|⟨_,e⟩<;>omega
 have:=Gw (top+f.2.1) hc
 unfold dB
 omega
def Jb{f:I3}{top:Int}(h:f.2.2≠0):2*f.2.2*kB f top=f.2.1+dB f top:=by
 unfold kB dB
 have e:=Int.fmod_def (top+f.2.1) (2*ab f.2.2)
 generalize (top+f.2.1).fdiv (2*ab f.2.2)=q at *
 have e1:f.2.1+(top-(top+f.2.1).fmod (2*ab f.2.2))=2*ab f.2.2*q:=by omega
 rw[e1]
 rcases Bf f.2.2 with⟨_,e2⟩|⟨_,e2⟩
 ·rw[e2,Int.mul_fdiv_cancel_left _ (by omega)]
 ·have e3:2*ab f.2.2*q=2*f.2.2*(-q):=by rw[e2];grind
  rw[e3,Int.mul_fdiv_cancel_left _ (by omega)]
def Pj{f:I3}{top:Int}(h:f.2.2≠0):∃e,mov f (Cw f top)=(f.2.2,dB f top,e):=by
 have hk:=Jb (top:=top) h
 obtain⟨a,b,c⟩:=f
 refine⟨(mov (a,b,c) (Cw (a,b,c) top)).2.2,?_⟩
 have e1:(mov (a,b,c) (Cw (a,b,c) top)).1=c:=by simp only[mov,val,Cw];grind
 have e2:(mov (a,b,c) (Cw (a,b,c) top)).2.1=dB (a,b,c) top:=by
  simp only[mov,mid,Cw]
  simp only at hk
  generalize kB (a,b,c) top=k at *
  have:2*a*0 * -1+b*(0*k + -1*1)+2*c*1*k=2*c*k-b:=by grind
  omega
 ext1
 ·exact e1
 ·ext1
  ·exact e2
  ·rfl
def Yu{D far:Int}(r:Sq D far)(n:¬Fi D):far*far<D:=by
 rcases Int.lt_or_le (far*far) D with h|h
 ·exact h
 ·exact absurd ⟨far,by have:=r.2.1;omega⟩ n
def Uz{D far:Int}(r:Sq D far)(m:D≤4000):far≤63:=by
 rcases Int.lt_or_le far 64 with h|h
 ·omega
 ·have:=Int.mul_le_mul h h (by decide) r.1
  have:=r.2.1
  omega
def Jj{f:I3}(S:Sad f):f.2.2≠0:=fun h=>S.no ⟨f.2.1,by
 obtain⟨a,b,c⟩:=f
 simp only at h
 subst h
 simp only[meas]
 omega⟩
def Acs{f:I3}(S:Sad f):f.1≠0:=fun h=>S.no ⟨f.2.1,by
 obtain⟨a,b,c⟩:=f
 simp only at h
 subst h
 simp only[meas]
 omega⟩
def Rn(x y:Int):ab x*ab y=ab (x*y):=by
 rcases Bf x with⟨h1,e1⟩|⟨h1,e1⟩<;>rcases Bf y with⟨h2,e2⟩|⟨h2,e2⟩<;>rw[e1,e2]
 ·have:=Int.mul_nonneg h1 h2
  exact(if_neg (by omega)).symm
 ·have:=Int.mul_nonneg h1 (show 0≤-y by omega)
  have e:x * -y=-(x*y):=by grind
  by_cases h:x*y<0
  ·rw[ab,if_pos h,e]
  ·rw[ab,if_neg h];omega
 ·have:=Int.mul_nonneg (show 0≤-x by omega) h2
  have e:-x*y=-(x*y):=by grind
  by_cases h:x*y<0
  ·rw[ab,if_pos h,e]
  ·rw[ab,if_neg h];omega
 ·have:=Int.mul_nonneg (show 0≤-x by omega) (show 0≤-y by omega)
  have e:-x * -y=x*y:=by grind
  rw[ab,if_neg (by omega),e]
def Ke{x k:Int}(h:ab x≤k):x*x≤k*k:=by
 have e:x*x=ab x*ab x:=by
  rcases Bf x with⟨_,e⟩|⟨_,e⟩<;>rw[e]
  grind
 rw[e]
 have:=BX x
 exact Int.mul_le_mul h h this (by omega)
theorem last_eq{c d e D:Int}(h:meas (c,d,e)=D):4*(ab c*ab e)=ab (d*d-D):=by
 have:d*d-D=4*(c*e):=by rw[←h];simp only[meas];grind
 rw[this,Rn]
 rcases Bf (c*e)with⟨h1,e1⟩|⟨h1,e1⟩
 ·rw[e1,ab,if_neg (by omega)]
 ·rw[e1,ab,if_pos (by omega)];omega
def Ag4{c d e D far:Int}(r:Sq D far)(D0:0<D)(h:meas (c,d,e)=D)(hc:far<ab c)(h1:-ab c<d)(h2:d≤ab c):4*ab e≤ab c:=by
 have k:=last_eq h
 have hd:d*d≤ab c*ab c:=by
  refine Ke ?_
  rcases Bf d with⟨_,e1⟩|⟨_,e1⟩<;>omega
 have hD:D≤ab c*ab c:=by
  have:=Int.mul_le_mul (show far+1≤ab c by omega) (show far+1≤ab c by omega) (by have:=r.1;omega) (BX c)
  have:=r.2.2
  omega
 have h0:=sq_nonneg d
 have:ab (d*d-D)≤ab c*ab c:=by
  rcases Bf (d*d-D)with⟨_,e1⟩|⟨_,e1⟩<;>omega
 have hc0:0<ab c:=by have:=r.1;omega
 rcases Int.lt_or_le (ab c) (4*ab e)with z|z
 ·exfalso
  have:=Int.mul_lt_mul_of_pos_left z hc0
  have e2:ab c*(4*ab e)=4*(ab c*ab e):=by grind
  omega
 ·exact z
def AdM{c d e D far:Int}(r:Sq D far)(n:¬Fi D)(h:meas (c,d,e)=D)(hc:ab c≤far)(hc2:far<2*ab c)(h1:far-2*ab c<d)(h2:d≤far):2*ab e≤far:=by
 have k:=last_eq h
 have hf:=Yu r n
 have hd:d*d≤far*far:=by
  refine Ke ?_
  rcases Bf d with⟨_,e1⟩|⟨_,e1⟩<;>omega
 have h0:=sq_nonneg d
 have hD:=r.2.2
 have:ab (d*d-D)<(far+1)*(far+1):=by
  rcases Bf (d*d-D)with⟨_,e1⟩|⟨_,e1⟩<;>omega
 rcases Int.lt_or_le far (2*ab e)with z|z
 ·exfalso
  have:=Int.mul_le_mul (show far+1≤2*ab c by omega) (show far+1≤2*ab e by omega) (by have:=r.1;omega) (by have:=BX c;omega)
  have e2:2*ab c*(2*ab e)=4*(ab c*ab e):=by grind
  omega
 ·exact z
def Zj{c d e far:Int}(hc:2*ab c≤far)(h1:far-2*ab c<d)(h2:d≤far):Level (c,d,e) far:=by
 refine⟨⟨?_,h2⟩,?_,?_⟩
 ·show 0<d;omega
 ·show far-d<2*ab c;omega
 ·show 2*ab c≤far+d;omega
def X4{c d e D far:Int}(r:Sq D far)(hm:D≤4000)(D0:0<D)(h:meas (c,d,e)=D)(c0:c≠0)(hd:ab d≤far):ab e≤1000:=by
 have k:=last_eq h
 have h2:d*d≤far*far:=Ke hd
 have h0:=sq_nonneg d
 have h3:=r.2.1
 have:ab (d*d-D)≤4000:=by
  rcases Bf (d*d-D)with⟨_,e1⟩|⟨_,e1⟩<;>omega
 have hc:1≤ab c:=by rcases Bf c with⟨_,e1⟩|⟨_,e1⟩<;>omega
 have:=Int.mul_le_mul_of_nonneg_right hc (BX e)
 omega
def Jt{f:I3}{far:Int}(r:Sq (meas f) far)(n:¬Fi (meas f))(L:Level f far):far-f.2.1<2*ab f.2.2∧2*ab f.2.2≤far+f.2.1:=by
 obtain⟨a,b,c⟩:=f
 obtain⟨⟨l1,l2⟩,l3,l4⟩:=L
 have l1:0<b:=l1
 have l2:b≤far:=l2
 have l3:far-b<2*ab a:=l3
 have l4:2*ab a≤far+b:=l4
 show far-b<2*ab c∧2*ab c≤far+b
 have hf:=Yu r n
 have hD:=r.2.2
 have k:4*(ab a*ab c)=ab (b*b-meas (a,b,c)):=last_eq (c:=a) (d:=b) (e:=c) rfl
 generalize meas (a,b,c)=D at *
 have hb:b*b≤far*far:=Int.mul_le_mul l2 l2 (by omega) (by omega)
 have k2:(2*ab a)*(2*ab c)=D-b*b:=by
  have e1:(2*ab a)*(2*ab c)=4*(ab a*ab c):=by grind
  rcases Bf (b*b-D)with⟨_,e⟩|⟨_,e⟩<;>omega
 generalize 2*ab a=A at *
 have hC0:0≤2*ab c:=by have:=BX c;omega
 generalize 2*ab c=C at *
 constructor
 ·rcases Int.lt_or_le (far-b) C with z|z
  ·exact z
  ·exfalso
   have z1:A*C≤(far+b)*(far-b):=Int.mul_le_mul l4 z hC0 (by omega)
   have e1:(far+b)*(far-b)=far*far-b*b:=by grind
   omega
 ·rcases Int.lt_or_le (far+b) C with z|z
  ·exfalso
   have z1:(far-b+1)*(far+b+1)≤A*C:=Int.mul_le_mul (by omega) (by omega) (by omega) (by omega)
   have e1:(far-b+1)*(far+b+1)=(far+1)*(far+1)-b*b:=by grind
   omega
  ·exact z
def Yo{f:I3}{far:Int}(S:Sad f)(r:Sq (meas f) far)(L:Level f far):Level (mov f (Cw f far)) far:=by
 have hc:=Jj S
 obtain⟨e,he⟩:=Pj (top:=far) hc
 rw[he]
 have ⟨d1,d2⟩:=MK (top:=far) hc
 have ⟨c1,c2⟩:=Jt r S.no L
 obtain⟨⟨l1,l2⟩,_,_⟩:=L
 have hk:=Jb (top:=far) hc
 have d3:far-2*ab f.2.2<dB f far:=d1
 by_cases hC:2*ab f.2.2≤far
 ·exact Zj hC d1 d2
 ·
  have hd:dB f far=2*ab f.2.2-f.2.1:=by
   have e1:f.2.1+dB f far=2*(f.2.2*kB f far):=by rw[←hk];grind
   have hx:ab (f.2.2*kB f far)=ab f.2.2*ab (kB f far):=(Rn _ _).symm
   have hpos:0<f.2.2*kB f far:=by omega
   have hx2:f.2.2*kB f far=ab f.2.2*ab (kB f far):=by rw[←hx,ab,if_neg (by omega)]
   have hk0:0<ab (kB f far):=by
    rcases Int.lt_or_le 0 (ab (kB f far))with z|z
    ·exact z
    ·have:ab (kB f far)=0:=by have:=BX (kB f far);omega
     rw[this]at hx2
     omega
   have hk1:ab (kB f far)=1:=by
    rcases Int.lt_or_le (ab (kB f far)) 2 with z|z
    ·omega
    ·exfalso
     have:=Int.mul_le_mul_of_nonneg_left z (BX f.2.2)
     omega
   rw[hk1]at hx2
   omega
  refine⟨⟨?_,d2⟩,?_,?_⟩
  ·show 0<dB f far;omega
  ·show far-dB f far<2*ab f.2.2;omega
  ·show 2*ab f.2.2≤far+dB f far;omega
def Ae8{f:I3}{far:Int}(S:Sad f)(r:Sq (meas f) far)(L:Level f far):B3 7 f:=by
 have ⟨c1,c2⟩:=Jt r S.no L
 have h6:=Uz r S.most
 obtain⟨⟨l1,l2⟩,l3,l4⟩:=L
 have l4:2*ab f.1≤far+f.2.1:=l4
 exact⟨S5 (k:=63) (by omega) (by decide),Bt.of (by omega) (by omega),S5 (k:=63) (by omega) (by decide)⟩
end My
namespace My
open PySem L2
abbrev bl(x:Int):Nat:=Builtin.Int.intBits x
def Aae{x:Int}:Bt (bl x) x:=intBits_le_iff.mp (Nat.le_refl _)
def ZR{n:Nat}{x:Int}(h:Bt n x):bl x≤n:=intBits_le_iff.mpr h
def YZ{x:Int}(h:x≠0):1≤bl x:=by
 rcases Nat.lt_or_ge 0 (bl x)with z|z
 ·exact z
 ·have:=Aae (x:=x)
  unfold Bt at this
  rw[show bl x=0 by omega]at this
  omega
def AeX{x:Int}(h:x≠0):2 ^ (bl x-1)≤x.natAbs:=by
 rcases Nat.lt_or_ge x.natAbs (2 ^ (bl x-1))with z|z
 ·have:=ZR (n:=bl x-1) z
  have:=YZ h
  omega
 ·exact z
def AbM{x y:Int}(h:4*ab x≤ab y)(hy:y≠0):bl x+2≤bl y∨x=0:=by
 by_cases hx:x=0
 ·exact .inr hx
 ·refine .inl ?_
  have h1:=AeX hx
  have h2:=Aae (x:=y)
  unfold Bt at h2
  have p:=YZ hx
  rcases Nat.lt_or_ge (bl y) (bl x+2)with z|z
  ·exfalso
   have h3:2 ^ bl y≤2 ^ (bl x-1+2):=Nat.pow_le_pow_right (by decide) (by omega)
   rw[Nat.pow_add]at h3
   have h4:4*x.natAbs≤y.natAbs:=by
    rcases Bf x with⟨_,e⟩|⟨_,e⟩<;>rcases Bf y with⟨_,e'⟩|⟨_,e'⟩<;>omega
   omega
  ·exact z
def Vz{b c d k:Int}{x:Nat}(hc:c≠0)(hb:Bt x b)(hx:bl c≤x)(hd:ab d≤ab c)(hk:2*c*k=b+d):Bt (x+1-bl c) k:=by
 have h1:=AeX hc
 have h2:=Aae (x:=c)
 have hp:=YZ hc
 unfold Bt at *
 have e1:2*(c.natAbs*k.natAbs)=(b+d).natAbs:=by
  rw[←hk,Int.mul_assoc,Int.natAbs_mul,Int.natAbs_mul];rfl
 have e2:(b+d).natAbs<2 ^ x+2 ^ bl c:=by
  rcases Bf d with⟨_,e⟩|⟨_,e⟩<;>rcases Bf c with⟨_,e'⟩|⟨_,e'⟩<;>omega
 have e3:2 ^ bl c≤2 ^ x:=Nat.pow_le_pow_right (by decide) hx
 rcases Nat.lt_or_ge k.natAbs (2 ^ (x+1-bl c))with z|z
 ·exact z
 ·exfalso
  have:=Nat.mul_le_mul h1 z
  rw[←Nat.pow_add,show bl c-1+(x+1-bl c)=x by omega]at this
  omega
def Qc{f:I3}{top:Int}{m:Nat}(h:Bt m (kB f top))(hm:1≤m):B4 m (Cw f top):=⟨Bt.zero.le (by omega),(Bt.one.le hm).neg,Bt.one.le hm,h⟩
def R0(n:Nat)(far:Int)(f0:I3)(t:I4):Prop :=
 det t=1∧B3 n (mov f0 t) ∧
 (if far<ab (mov f0 t).2.2 then ∃β x,B4 β t∧Bt x (mov f0 t).2.1∧bl (mov f0 t).2.2≤x∧β+x+bl (mov f0 t).2.2≤2*n+1
  else if Level (mov f0 t) far then B4 (5*n+30) t else if far<2*ab (mov f0 t).2.2 then B4 (3*n+10) t else B4 (4*n+20) t)
def eM(far:Int)(f:I3):Nat:=if far<ab f.2.2 then(ab f.2.2).toNat+3 else if Level f far then 0 else if far<2*ab f.2.2 then 2 else 1
theorem R0.b4{n:Nat}{far:Int}{f0:I3}{t:I4}(h:R0 n far f0 t):B4 (5*n+30) t:=by
 obtain⟨_,_,h⟩:=h
 split at h
 ·obtain⟨β,x,hb,_,_,_⟩:=h
  exact hb.le (by omega)
 ·split at h
  ·exact h
  ·split at h
   ·exact h.le (by omega)
   ·exact h.le (by omega)
theorem R0.start{n:Nat}{far:Int}{f:I3}(hn:1≤n)(hf:B3 n f):R0 n far f (1,0,0,1):=by
 have one:B4 1 (1,0,0,1):=⟨Bt.one,Bt.zero.le (by omega),Bt.zero.le (by omega),Bt.one⟩
 unfold R0
 rw[Fd]
 refine⟨rfl,hf,?_⟩
 split
 ·exact⟨1,n,one,hf.2.1,ZR hf.2.2,by have:=ZR hf.2.2;omega⟩
 ·split
  ·exact one.le (by omega)
  ·split
   ·exact one.le (by omega)
   ·exact one.le (by omega)
def AbQ{n:Nat}{far:Int}{f0:I3}{t:I4}(hn:12≤n)(S:Sad f0)(r:Sq (meas f0) far)(I:R0 n far f0 t)(nl:¬Level (mov f0 t) far) :
  R0 n far f0 (Ah t (Cw (mov f0 t) (if far>ab (mov f0 t).2.2 then far else ab (mov f0 t).2.2))) ∧
  eM far (mov f0 (Ah t (Cw (mov f0 t) (if far>ab (mov f0 t).2.2 then far else ab (mov f0 t).2.2))))<eM far (mov f0 t) ∧
  B4 (n+3) (Cw (mov f0 t) (if far>ab (mov f0 t).2.2 then far else ab (mov f0 t).2.2)):=by
 have hb4:=I.b4
 obtain⟨hd,hb,hI⟩:=I
 have Sf:=S.mov hd
 have hm:=BJ (f:=f0) hd
 have rf:Sq (meas (mov f0 t)) far:=by rw[hm];exact r
 have f63:=Uz rf Sf.most
 have adK:=r.1
 simp only[R0,←Bd]
 rw[BK,hd,CJ]
 generalize hf:mov f0 t=f at *
 have hc:=Jj Sf
 have c1:1≤ab f.2.2:=by rcases Bf f.2.2 with⟨_,e1⟩|⟨_,e1⟩<;>omega
 by_cases h1:far<ab f.2.2
 ·
  rw[if_pos h1]at hI
  obtain⟨β,x,hβ,hx,hlx,hsum⟩:=hI
  rw[if_neg (show ¬far>ab f.2.2 by omega)]
  have ⟨d1,d2⟩:=MK (top:=ab f.2.2) hc
  have hk:=Jb (top:=ab f.2.2) hc
  obtain⟨e,he⟩:=Pj (top:=ab f.2.2) hc
  have hme:meas (f.2.2,dB f (ab f.2.2),e)=meas f:=by rw[←he,BJ CJ]
  have hdc:ab (dB f (ab f.2.2))≤ab f.2.2:=by rcases Bf (dB f (ab f.2.2))with⟨_,e1⟩|⟨_,e1⟩<;>omega
  have h4:=Ag4 rf Sf.pos hme h1 (by omega) d2
  have kbt:=Vz hc hx hlx hdc hk
  have k1:1≤x+1-bl f.2.2:=by omega
  have aaH:=Qc kbt k1
  have hxn:bl f.2.2≤n:=ZR hb.2.2
  have hS':=Sf.mov (t:=Cw f (ab f.2.2)) CJ
  rw[he]at hS'
  have he0:e≠0:=Jj hS'
  have adF:=(AbM h4 hc).resolve_right he0
  have hβ':=B4.then hβ aaH
  rw[he]
  refine⟨⟨rfl,⟨hb.2.2,Aah hb.2.2 hdc,Aah hb.2.2 (show ab e≤ab f.2.2 by have:=BX e;omega)⟩,?_⟩,?_,?_⟩
  ·show if far<ab e then _ else _
   split
   ·refine⟨_,bl f.2.2,hβ',?_,?_,?_⟩
    ·exact Aah Aae hdc
    ·show bl e≤bl f.2.2;omega
    ·show _+bl f.2.2+bl e≤_;omega
   ·split
    ·exact hβ'.le (by omega)
    ·split
     ·exact hβ'.le (by omega)
     ·exact hβ'.le (by omega)
  ·unfold eM
   rw[if_pos h1]
   show(if far<ab e then(ab e).toNat+3 else _)<_
   split
   ·have:=BX e;omega
   ·split
    ·omega
    ·split<;>omega
  ·
   have:Bt (n+1-bl f.2.2) (kB f (ab f.2.2)):=Vz hc hb.2.1 hxn hdc hk
   exact(Qc this (by omega)).le (by omega)
 ·rw[if_neg h1,if_neg nl]at hI
  have etop:(if far>ab f.2.2 then far else ab f.2.2)=far:=by split<;>omega
  rw[etop]
  have ⟨d1,d2⟩:=MK (top:=far) hc
  have hk:=Jb (top:=far) hc
  obtain⟨e,he⟩:=Pj (top:=far) hc
  have hme:meas (f.2.2,dB f far,e)=meas f:=by rw[←he,BJ CJ]
  have hdf:ab (dB f far)≤far:=by rcases Bf (dB f far)with⟨_,e1⟩|⟨_,e1⟩<;>omega
  have hel:=X4 rf Sf.most Sf.pos hme hc hdf
  have kb:Bt (n+2) (kB f far):=by
   have e1:2*(ab f.2.2*ab (kB f far))=ab (f.2.1+dB f far):=by
    rw[←hk,Rn]
    have:2*f.2.2*kB f far=2*(f.2.2*kB f far):=by grind
    rw[this]
    rcases Bf (f.2.2*kB f far)with⟨h1,e1⟩|⟨h1,e1⟩
    ·rw[e1,ab,if_neg (by omega)]
    ·rw[e1,ab,if_pos (by omega)];omega
   have e2:=Int.mul_le_mul_of_nonneg_right c1 (BX (kB f far))
   have e3:Bt (n+1) (f.2.1+dB f far):=by
    have:=(hb.2.1).add (show Bt 7 (dB f far)from S5 (k:=63) (by omega) (by decide))
    exact this.le (by omega)
   refine Bt.le (n:=n+1) (Aah e3 ?_) (by omega)
   have:=BX (kB f far)
   omega
  have aaH:=Qc kb (by omega)
  rw[he]
  have hB:B3 n (f.2.2,dB f far,e):=⟨hb.2.2,Bt.le (n:=7) (S5 (k:=63) (show ab (dB f far)≤63 by omega) (by decide)) (by omega),Bt.le (n:=12) (S5 (x:=e) hel (by decide)) (by omega)⟩
  by_cases h2:far<2*ab f.2.2
  ·rw[if_pos h2]at hI
   have hβ':=B4.then hI aaH
   have hh:=AdM rf Sf.no hme (by omega) h2 (by omega) d2
   have h3:¬far<ab e:=by have:=BX e;omega
   refine⟨⟨rfl,hB,?_⟩,?_,aaH.le (by omega)⟩
   ·show if far<ab e then _ else _
    rw[if_neg h3]
    split
    ·exact hβ'.le (by omega)
    ·rw[if_neg (show ¬far<2*ab (f.2.2,dB f far,e).2.2 by show ¬far<2*ab e;omega)]
     exact hβ'.le (by omega)
   ·unfold eM
    rw[if_neg h1,if_neg nl,if_pos h2]
    show(if far<ab e then _ else _)<2
    rw[if_neg h3]
    split
    ·omega
    ·rw[if_neg (show ¬far<2*ab (f.2.2,dB f far,e).2.2 by show ¬far<2*ab e;omega)]
     omega
  ·rw[if_neg h2]at hI
   have hβ':=B4.then hI aaH
   have hL:Level (f.2.2,dB f far,e) far:=Zj (by omega) d1 d2
   have h3:¬far<ab e:=by
    have:=(Jt (f:=(f.2.2,dB f far,e)) (by rw[hme];exact rf) (by rw[hme];exact Sf.no) hL).2
    simp only at this
    omega
   refine⟨⟨rfl,hB,?_⟩,?_,aaH.le (by omega)⟩
   ·show if far<ab e then _ else _
    rw[if_neg h3,if_pos hL]
    exact hβ'.le (by omega)
   ·unfold eM
    rw[if_neg h1,if_neg nl,if_neg h2]
    show(if far<ab e then _ else _)<1
    rw[if_neg h3,if_pos hL]
    omega
end My
namespace My
open PySem L2
def Riv(f:I3):Prop:=(0<f.1∧f.2.2<0)∧¬Fi (meas f)
abbrev tR:I4:=(1,1,0,1)
abbrev tL:I4:=(1,0,1,1)
def sm(f:I3):Int:=f.1+f.2.1+f.2.2
def Ack{a b c:Int}:mov (a,b,c) tR=(a,b+2*a,a+b+c):=by
 simp only[mov,val,mid,Prod.mk.injEq]
 refine⟨?_,?_,?_⟩<;>grind
def Acg{a b c:Int}:mov (a,b,c) tL=(a+b+c,b+2*c,c):=by
 simp only[mov,val,mid,Prod.mk.injEq]
 refine⟨?_,?_,?_⟩<;>grind
def Ah3{f:I3}(n:¬Fi (meas f)):sm f≠0:=fun h=>n ⟨f.1-f.2.2,by
 obtain⟨a,b,c⟩:=f
 simp only[sm,meas]at *
 have:b=-(a+c):=by omega
 subst this
 grind⟩
def stT(f:I3):I4:=if sm f<0 then tR else tL
def nx(f:I3):I3:=mov f (stT f)
def AiJ{f:I3}:det (stT f)=1:=by unfold stT;split<;>rfl
theorem Riv.next{f:I3}(h:Riv f):Riv (nx f):=by
 have hm:=BJ (f:=f) (AiJ (f:=f))
 refine⟨?_,by unfold nx;rw[hm];exact h.2⟩
 have hs:=Ah3 h.2
 obtain⟨a,b,c⟩:=f
 obtain⟨⟨h1,h2⟩,_⟩:=h
 by_cases h:sm (a,b,c)<0
 ·have e:nx (a,b,c)=(a,b+2*a,a+b+c):=by unfold nx;rw[show stT (a,b,c)=tR from if_pos h];exact Ack
  rw[e];exact⟨h1,h⟩
 ·have e:nx (a,b,c)=(a+b+c,b+2*c,c):=by unfold nx;rw[show stT (a,b,c)=tL from if_neg h];exact Acg
  rw[e]
  refine⟨?_,h2⟩
  simp only[sm]at h hs ⊢
  omega
structure NN(t:I4):Prop where
 p:1≤t.1
 q:0≤t.2.1
 r:0≤t.2.2.1
 s:1≤t.2.2.2
 d:det t=1
def sz(t:I4):Nat:=(t.1+t.2.1+t.2.2.1+t.2.2.2).toNat
theorem NN.split{t:I4}(h:NN t):t=(1,0,0,1)∨(∃u,NN u∧t=Ah tR u∧sz u<sz t)∨(∃u,NN u∧t=Ah tL u∧sz u<sz t):=by
 obtain⟨p,q,r,s⟩:=t
 obtain⟨hp,hq,hr,hs,hd⟩:=h
 simp only[det]at *
 by_cases c1:r≤p∧s≤q
 ·refine .inr (.inl ⟨(p-r,q-s,r,s),⟨?_,by simp only;omega,hr,hs,?_⟩,?_,?_⟩)
  ·show 1≤p-r
   have e:(p-r)*s-(q-s)*r=1:=by grind
   have z:=Int.mul_nonneg (show 0≤q-s by omega) hr
   rcases Int.lt_or_le (p-r) 1 with w|w
   ·have:(p-r)*s≤0*s:=Int.mul_le_mul_of_nonneg_right (by omega) (by omega)
    omega
   ·exact w
  ·show(p-r)*s-(q-s)*r=1
   grind
  ·simp only[Ah,Prod.mk.injEq]
   refine⟨?_,?_,?_,?_⟩<;>omega
  ·simp only[sz];omega
 ·by_cases c2:p≤r∧q≤s
  ·refine .inr (.inr ⟨(p,q,r-p,s-q),⟨hp,hq,by simp only;omega,?_,?_⟩,?_,?_⟩)
   ·show 1≤s-q
    have e:p*(s-q)-q*(r-p)=1:=by grind
    have z:=Int.mul_nonneg hq (show 0≤r-p by omega)
    rcases Int.lt_or_le (s-q) 1 with w|w
    ·have:p*(s-q)≤p*0:=Int.mul_le_mul_of_nonneg_left (by omega) (by omega)
     omega
    ·exact w
   ·show p*(s-q)-q*(r-p)=1
    grind
   ·simp only[Ah,Prod.mk.injEq]
    refine⟨?_,?_,?_,?_⟩<;>omega
   ·simp only[sz];omega
  ·rcases Int.lt_or_le r p with w|w
   ·
    have w2:q<s:=by omega
    have z:=Int.mul_le_mul (show r+1≤p by omega) (show q+1≤s by omega) (by omega) (by omega)
    have e:(r+1)*(q+1)=r*q+r+q+1:=by grind
    have e2:r*q=q*r:=Int.mul_comm r q
    have r0:r=0:=by omega
    have q0:q=0:=by omega
    subst r0 q0
    left
    have hps:p*s=1:=by omega
    have p1:p=1:=by
     rcases Int.lt_or_le p 2 with v|v
     ·omega
     ·have:=Int.mul_le_mul v hs (by decide) (by omega)
      omega
    subst p1
    have:s=1:=by omega
    rw[this]
   ·
    have w2:s<q:=by omega
    have w3:p<r:=by
     rcases Int.lt_or_le p r with v|v
     ·exact v
     ·have:p=r:=by omega
      subst this
      exfalso
      have e:p*s-q*p=p*(s-q):=by grind
      have:=Int.mul_le_mul_of_nonneg_left (show s-q≤-1 by omega) (show 0≤p by omega)
      omega
    exfalso
    have z:=Int.mul_le_mul (show p≤r-1 by omega) (show s≤q-1 by omega) (by omega) (by omega)
    have e:(r-1)*(q-1)=q*r-r-q+1:=by grind
    omega
def wd:Nat→I3→I4
 |0,_=>(1,0,0,1)
 |n+1,f=>Ah (stT f) (wd n (nx f))
def nxs:Nat→I3→I3
 |0,f=>f
 |n+1,f=>nxs n (nx f)
def Gk{t:I4}:Ah (1,0,0,1) t=t:=by
 obtain⟨p,q,r,s⟩:=t
 simp only[Ah,Prod.mk.injEq]
 refine⟨?_,?_,?_,?_⟩<;>omega
def Dl{t:I4}:Ah t (1,0,0,1)=t:=by
 obtain⟨p,q,r,s⟩:=t
 simp only[Ah,Prod.mk.injEq]
 refine⟨?_,?_,?_,?_⟩<;>omega
theorem then_assoc{t u v:I4}:Ah (Ah t u) v=Ah t (Ah u v):=by
 obtain⟨a,b,c,d⟩:=t;obtain⟨e,f,g,h⟩:=u;obtain⟨i,j,k,l⟩:=v
 simp only[Ah,Prod.mk.injEq]
 refine⟨?_,?_,?_,?_⟩<;>grind
theorem Li:∀(n:Nat)(f:I3),mov f (wd n f)=nxs n f
 |0,f=>Fd
 |n+1,f=>by rw[wd,←Bd];exact Li n (nx f)
def Zt{a b c x y:Int}(ha:0<a)(hb:0<b)(hc:0<c)(hx:0≤x)(hy:0≤y):0≤val (a,b,c) (x,y):=by
 have e:val (a,b,c) (x,y)=a*(x*x)+b*(x*y)+c*(y*y):=by simp only[val];grind
 have h1:=Int.mul_nonneg (show 0≤a by omega) (Int.mul_nonneg hx hx)
 have h2:=Int.mul_nonneg (show 0≤b by omega) (Int.mul_nonneg hx hy)
 have h3:=Int.mul_nonneg (show 0≤c by omega) (Int.mul_nonneg hy hy)
 omega
theorem neg_val{a b c x y:Int}(ha:a<0)(hb:b<0)(hc:c<0)(hx:0≤x)(hy:0≤y):val (a,b,c) (x,y)≤0:=by
 have:=Zt (a:=-a) (b:=-b) (c:=-c) (by omega) (by omega) (by omega) hx hy
 have e:val (-a,-b,-c) (x,y)=-val (a,b,c) (x,y):=by simp only[val];grind
 omega
theorem along:∀(m:Nat)(f:I3)(t:I4),sz t≤m→Riv f→NN t→Riv (mov f t)→∃n,t=wd n f:=by
 intro m
 induction m with
 | zero =>
  intro f t hs _ hN _
  exfalso
  have:=hN.p;have:=hN.q;have:=hN.r;have:=hN.s
  unfold sz at hs
  omega
 | succ m ih =>
  intro f t hs hf hN hg
  rcases hN.split with e|⟨u,hu,e,hl⟩|⟨u,hu,e,hl⟩
  ·exact⟨0,e⟩
  ·have hsm:sm f<0:=by
    have hne:=Ah3 hf.2
    rcases Int.lt_or_le (sm f) 0 with z|z
    ·exact z
    ·exfalso
     rw[e,←Bd]at hg
     obtain⟨a,b,c⟩:=f
     obtain⟨p,q,r,s⟩:=u
     rw[Ack]at hg
     have h1:(mov (a,b+2*a,a+b+c) (p,q,r,s)).2.2<0:=hg.1.2
     have h2:0<a:=hf.1.1
     have h3:c<0:=hf.1.2
     simp only[sm]at hne z
     have h4:0≤val (a,b+2*a,a+b+c) (q,s):=Zt h2 (by omega) (by omega) hu.q (by have:=hu.s;simp only at this;omega)
     have h5:(mov (a,b+2*a,a+b+c) (p,q,r,s)).2.2=val (a,b+2*a,a+b+c) (q,s):=rfl
     omega
   have hst:stT f=tR:=by unfold stT;rw[if_pos hsm]
   have hnx:nx f=mov f tR:=by unfold nx;rw[hst]
   have hr:=hf.next
   obtain⟨n,en⟩:=ih (nx f) u (by omega) hr hu (by rw[hnx,Bd,←e];exact hg)
   exact⟨n+1,by rw[wd,hst,←en];exact e⟩
  ·have hsm:¬sm f<0:=by
    intro z
    rw[e,←Bd]at hg
    obtain⟨a,b,c⟩:=f
    obtain⟨p,q,r,s⟩:=u
    rw[Acg]at hg
    have h1:0<(mov (a+b+c,b+2*c,c) (p,q,r,s)).1:=hg.1.1
    have h2:0<a:=hf.1.1
    have h3:c<0:=hf.1.2
    simp only[sm]at z
    have h4:val (a+b+c,b+2*c,c) (p,r)≤0:=neg_val (by omega) (by omega) h3 (by have:=hu.p;simp only at this;omega) hu.r
    have h5:(mov (a+b+c,b+2*c,c) (p,q,r,s)).1=val (a+b+c,b+2*c,c) (p,r):=rfl
    omega
   have hst:stT f=tL:=by unfold stT;rw[if_neg hsm]
   have hnx:nx f=mov f tL:=by unfold nx;rw[hst]
   have hr:=hf.next
   obtain⟨n,en⟩:=ih (nx f) u (by omega) hr hu (by rw[hnx,Bd,←e];exact hg)
   exact⟨n+1,by rw[wd,hst,←en];exact e⟩
def Hw(t:I4):I4:=(-t.1,-t.2.1,-t.2.2.1,-t.2.2.2)
def Pz{f:I3}{t:I4}:mov f (Hw t)=mov f t:=by
 obtain⟨a,b,c⟩:=f;obtain⟨p,q,r,s⟩:=t
 simp only[mov,val,mid,Hw,Prod.mk.injEq]
 refine⟨?_,?_,?_⟩<;>grind
theorem neg_neg{t:I4}:Hw (Hw t)=t:=by
 obtain⟨p,q,r,s⟩:=t
 simp only[Hw,Prod.mk.injEq]
 refine⟨?_,?_,?_,?_⟩<;>omega
def Afy{t:I4}:det (Hw t)=det t:=by
 obtain⟨p,q,r,s⟩:=t
 simp only[det,Hw];grind
def W7{t:I4}:Ao (Hw t)=Hw (Ao t):=by
 obtain⟨p,q,r,s⟩:=t
 simp only[Ao,Hw]
theorem signs{f:I3}{t:I4}(hf:Riv f)(hd:det t=1)(hg:Riv (mov f t))(hp:0≤t.1):NN t∨NN (Ao t):=by
 obtain⟨a,b,c⟩:=f
 obtain⟨p,q,r,s⟩:=t
 have ha:0<a:=hf.1.1
 have hc:c<0:=hf.1.2
 have hu:0<val (a,b,c) (p,r):=hg.1.1
 have hv:val (a,b,c) (q,s)<0:=hg.1.2
 have hp:0≤p:=hp
 have p0:p≠0:=fun e=>by
  subst e
  rw[T9]at hu
  have:=Int.mul_nonneg (show 0≤-c by omega) (sq_nonneg r)
  have e:-c*(r*r)=-(c*(r*r)):=by grind
  omega
 have s0:s≠0:=fun e=>by
  subst e
  rw[Lk]at hv
  have:=Int.mul_nonneg (show 0≤a by omega) (sq_nonneg q)
  omega
 have hd':p*s-q*r=1:=hd
 have key:val (a,b,c) (p,r)*(q*s)-val (a,b,c) (q,s)*(p*r)=(p*s-q*r)*(a*(p*q)-c*(r*s)):=by simp only[val];grind
 have hs:0<s:=by
  rcases Int.lt_or_le 0 s with z|z
  ·exact z
  ·exfalso
   have z:s≤-1:=by omega
   have h1:p*s≤1 * -1:=by
    have:=Int.mul_le_mul_of_nonneg_left z (show 0≤p by omega)
    omega
   have hqr:q*r≤-2:=by omega
   rw[hd',Int.one_mul]at key
   rcases Int.lt_or_le q 0 with hq|hq
   ·have hr:0<r:=by
     rcases Int.lt_or_le 0 r with w|w
     ·exact w
     ·have:=Int.mul_nonneg_of_nonpos_of_nonpos (show q≤0 by omega) w
      omega
    have k1:=Int.mul_pos hu (Int.mul_pos_of_neg_of_neg hq (show s<0 by omega))
    have k2:=Int.mul_neg_of_neg_of_pos hv (Int.mul_pos (show 0<p by omega) hr)
    have k3:=Int.mul_neg_of_pos_of_neg ha (Int.mul_neg_of_pos_of_neg (show 0<p by omega) hq)
    have k4:=Int.mul_pos_of_neg_of_neg hc (Int.mul_neg_of_pos_of_neg hr (show s<0 by omega))
    omega
   ·have hq':0<q:=by
     rcases Int.lt_or_le 0 q with w|w
     ·exact w
     ·have:q=0:=by omega
      subst this
      omega
    have hr:r<0:=by
     rcases Int.lt_or_le r 0 with w|w
     ·exact w
     ·have:=Int.mul_nonneg hq w
      omega
    have k1:=Int.mul_neg_of_pos_of_neg hu (Int.mul_neg_of_pos_of_neg hq' (show s<0 by omega))
    have k2:=Int.mul_pos_of_neg_of_neg hv (Int.mul_neg_of_pos_of_neg (show 0<p by omega) hr)
    have k3:=Int.mul_pos ha (Int.mul_pos (show 0<p by omega) hq')
    have k4:=Int.mul_neg_of_neg_of_pos hc (Int.mul_pos_of_neg_of_neg hr (show s<0 by omega))
    omega
 have hps:=Int.mul_le_mul (show 1≤p by omega) (show 1≤s by omega) (by decide) (by omega)
 by_cases hq:0≤q∧0≤r
 ·exact .inl ⟨by simp only;omega,hq.1,hq.2,by simp only;omega,hd⟩
 ·right
  have hqr:q≤0∧r≤0:=by
   rcases Int.lt_trichotomy q 0 with w|w|w
   ·refine⟨by omega,?_⟩
    rcases Int.lt_or_le 0 r with v|v
    ·have:=Int.mul_neg_of_neg_of_pos w v;omega
    ·exact v
   ·omega
   ·exfalso
    have:r<0:=by omega
    have:=Int.mul_neg_of_pos_of_neg w this
    omega
  exact⟨by simp only[Ao];omega,by simp only[Ao];omega,by simp only[Ao];omega,by simp only[Ao];omega,CP.trans hd⟩
def AlC{f:I3}{t:I4}(hf:Riv f)(hd:det t=1)(hg:Riv (mov f t)) :
  (∃n,t=wd n f∨t=Hw (wd n f))∨(∃n,Ao t=wd n (mov f t)∨Ao t=Hw (wd n (mov f t))):=by
 have core:∀t:I4,det t=1→Riv (mov f t)→0≤t.1→(∃n,t=wd n f)∨(∃n,Ao t=wd n (mov f t)):=fun t hd hg hp=>by
  rcases signs hf hd hg hp with h|h
  ·exact .inl (along _ f t (Nat.le_refl _) hf h hg)
  ·exact .inr (along _ (mov f t) (Ao t) (Nat.le_refl _) hg h (by rw[BZ hd];exact hf))
 rcases Int.le_total 0 t.1 with hp|hp
 ·rcases core t hd hg hp with⟨n,h⟩|⟨n,h⟩
  ·exact .inl ⟨n,.inl h⟩
  ·exact .inr ⟨n,.inl h⟩
 ·rcases core (Hw t) (Afy.trans hd) (by rw[Pz];exact hg) (by show 0≤-t.1;omega)with⟨n,h⟩|⟨n,h⟩
  ·exact .inl ⟨n,.inr (by rw[←h,neg_neg])⟩
  ·rw[Pz,W7]at h
   exact .inr ⟨n,.inr (by rw[←h,neg_neg])⟩
end My
namespace My
open PySem L2
structure Lv(far:Int)(f:I3):Prop where
 S:Sad f
 r:Sq (meas f) far
 L:Level f far
abbrev aft(far:Int)(f:I3):I3:=mov f (Cw f far)
theorem Lv.next{far:Int}{f:I3}(h:Lv far f):Lv far (aft far f) :=
 ⟨h.S.mov CJ,by rw[BJ CJ];exact h.r,Yo h.S h.r h.L⟩
theorem Lv.ac{far:Int}{f:I3}(h:Lv far f):f.1*f.2.2<0:=by
 have hf:=Yu h.r h.S.no
 obtain⟨⟨l1,l2⟩,_,_⟩:=h.L
 obtain⟨a,b,c⟩:=f
 have l1:0<b:=l1
 have l2:b≤far:=l2
 have hb:b*b≤far*far:=Int.mul_le_mul l2 l2 (by omega) (by omega)
 have e:meas (a,b,c)=b*b-4*(a*c):=by simp only[meas];grind
 show a*c<0
 omega
theorem Lv.neg{far:Int}{f:I3}(h:Lv far f)(ha:0<f.1):f.2.2<0:=by
 rcases Int.lt_or_le f.2.2 0 with z|z
 ·exact z
 ·have:=h.ac
  have:=Int.mul_nonneg (show 0≤f.1 by omega) z
  omega
theorem Lv.pos{far:Int}{f:I3}(h:Lv far f)(ha:f.1<0):0<f.2.2:=by
 rcases Int.lt_or_le 0 f.2.2 with z|z
 ·exact z
 ·have:=h.ac
  have:=Int.mul_nonneg_of_nonpos_of_nonpos (show f.1≤0 by omega) z
  omega
def Hj{far:Int}{f:I3}(h:Lv far f):(aft far f).1=f.2.2∧(aft far f).2.1=dB f far∧(aft far f).2.2=f.1-f.2.1*kB f far+f.2.2*(kB f far*kB f far):=by
 obtain⟨e,he⟩:=Pj (top:=far) (Jj h.S)
 refine⟨by show(mov f (Cw f far)).1=_;rw[he],by show(mov f (Cw f far)).2.1=_;rw[he],?_⟩
 show val f (-1,kB f far)=_
 simp only[val];grind
theorem Lv.riv{far:Int}{f:I3}(h:Lv far f)(ha:0<f.1):Riv f:=⟨⟨ha,h.neg ha⟩,h.S.no⟩
def AaU{far:Int}{f g:I3}(hf:Lv far f)(hg:Lv far g)(hm:meas f=meas g)(h:aft far f=aft far g):f=g:=by
 have ⟨f1,f2,_⟩:=Hj hf
 have ⟨g1,g2,_⟩:=Hj hg
 have hc:f.2.2=g.2.2:=by rw[←f1,h,g1]
 have hd:dB f far=dB g far:=by rw[←f2,h,g2]
 have kf:=Jb (top:=far) (Jj hf.S)
 have kg:=Jb (top:=far) (Jj hg.S)
 have cf:=(Jt hf.r hf.S.no hf.L).1
 have cg:=(Jt hg.r hg.S.no hg.L).1
 have lf:=hf.L.1.2
 have lg:=hg.L.1.2
 have c0:=Jj hf.S
 obtain⟨a,b,c⟩:=f
 obtain⟨a',b',c'⟩:=g
 simp only at hc hd kf kg cf cg lf lg c0
 subst hc
 rw[←hd]at kg
 have hb:b=b':=by
  have e:b-b'=2*(c*(kB (a,b,c) far-kB (a',b',c) far)):=by
   have:2*(c*(kB (a,b,c) far-kB (a',b',c) far))=2*c*kB (a,b,c) far-2*c*kB (a',b',c) far:=by grind
   omega
  generalize kB (a,b,c) far-kB (a',b',c) far=k at *
  have hx:ab (c*k)=ab c*ab k:=(Rn c k).symm
  have hk:ab k=0:=by
   rcases Int.lt_or_le (ab k) 1 with z|z
   ·have:=BX k;omega
   ·exfalso
    have:=Int.mul_le_mul_of_nonneg_left z (BX c)
    rcases Bf (c*k)with⟨_,e1⟩|⟨_,e1⟩<;>omega
  rw[hk]at hx
  have:c*k=0:=by rcases Bf (c*k)with⟨_,e1⟩|⟨_,e1⟩<;>omega
  omega
 subst hb
 have e1:4*c*a=4*c*a':=by
  simp only[meas]at hm
  have x1:4*a*c=4*c*a:=by grind
  have x2:4*a'*c=4*c*a':=by grind
  omega
 have:a=a':=Int.eq_of_mul_eq_mul_left (show 4*c≠0 by omega) e1
 rw[this]
theorem Al9:∀(k:Nat)(a b c:Int),(∀j:Nat,1≤j→j≤k→0<a+b*j+c*(j*j))→wd k (a,b,c)=(1,0,(k:Int),1)
 |0,_,_,_,_=>rfl
 | k+1,a,b,c,h=>by
  have h1:=h 1 (by omega) (by omega)
  have hs:¬sm (a,b,c)<0:=by simp only[sm];simp at h1;omega
  have e:nx (a,b,c)=(a+b+c,b+2*c,c):=by unfold nx;rw[show stT (a,b,c)=tL from if_neg hs];exact Acg
  rw[wd,e,show stT (a,b,c)=tL from if_neg hs,Al9 k _ _ _ fun j j1 jk=>?_]
  ·simp only[Ah,Prod.mk.injEq]
   refine⟨by omega,by omega,by push_cast;omega,by omega⟩
  ·have:=h (j+1) (by omega) (by omega)
   have e2:a+b+c+(b+2*c)*(j:Int)+c*((j:Int)*j)=a+b*((j+1:Nat):Int)+c*(((j+1:Nat):Int)*((j+1:Nat):Int)):=by push_cast;grind
   rw[e2];exact this
theorem Al4:∀(k:Nat)(a b c:Int),(∀j:Nat,1≤j→j≤k→a*(j*j)+b*j+c<0)→wd k (a,b,c)=(1,(k:Int),0,1)
 |0,_,_,_,_=>rfl
 | k+1,a,b,c,h=>by
  have h1:=h 1 (by omega) (by omega)
  have hs:sm (a,b,c)<0:=by simp only[sm];simp at h1;omega
  have e:nx (a,b,c)=(a,b+2*a,a+b+c):=by unfold nx;rw[show stT (a,b,c)=tR from if_pos hs];exact Ack
  rw[wd,e,show stT (a,b,c)=tR from if_pos hs,Al4 k _ _ _ fun j j1 jk=>?_]
  ·simp only[Ah,Prod.mk.injEq]
   refine⟨by omega,by push_cast;omega,by omega,by omega⟩
  ·have:=h (j+1) (by omega) (by omega)
   have e2:a*((j:Int)*j)+(b+2*a)*(j:Int)+(a+b+c)=a*(((j+1:Nat):Int)*((j+1:Nat):Int))+b*((j+1:Nat):Int)+c:=by push_cast;grind
   rw[e2];exact this
theorem Y4:∀(m n:Nat)(f:I3),wd (m+n) f=Ah (wd m f) (wd n (nxs m f))
 |0,n,f=>by rw[Nat.zero_add];exact Gk.symm
 | m+1,n,f=>by
  rw[show m+1+n=(m+n)+1 by omega,wd,Y4 m n (nx f),wd,then_assoc];rfl
theorem Uk:∀(m n:Nat)(f:I3),nxs (m+n) f=nxs n (nxs m f)
 |0,n,f=>by rw[Nat.zero_add];rfl
 |m+1,n,f=>by rw[show m+1+n=(m+n)+1 by omega];exact Uk m n (nx f)
def AlN{a b c k j:Int}(hc:c≤0)(h0:0<a)(hk:0<a+b*k+c*(k*k))(j0:0≤j)(jk:j≤k)(k0:0<k):0<a+b*j+c*(j*j):=by
 have e:k*(a+b*j+c*(j*j))=(k-j)*a+j*(a+b*k+c*(k*k))+(-c)*(j*(k-j)*k):=by grind
 have h1:=Int.mul_nonneg (show 0≤k-j by omega) (show 0≤a by omega)
 have h2:=Int.mul_nonneg j0 (show 0≤a+b*k+c*(k*k) by omega)
 have h3:=Int.mul_nonneg (show 0≤-c by omega) (Int.mul_nonneg (Int.mul_nonneg j0 (show 0≤k-j by omega)) (show 0≤k by omega))
 have h4:0<(k-j)*a+j*(a+b*k+c*(k*k)):=by
  by_cases z:j=k
  ·subst z
   have:=Int.mul_pos k0 hk
   omega
  ·have:=Int.mul_pos (show 0<k-j by omega) h0
   omega
 rcases Int.lt_or_le 0 (a+b*j+c*(j*j))with z|z
 ·exact z
 ·have:=Int.mul_le_mul_of_nonneg_left z (show 0≤k by omega)
  omega
theorem Lv.abo{far:Int}{f:I3}(h:Lv far f):(0<f.1→kB f far<0)∧(f.1<0→0<kB f far):=by
 have hk:=Jb (top:=far) (Jj h.S)
 have hd:0<dB f far:=by
  have:=h.next.L.1.1
  rw[(Hj h).2.1]at this
  exact this
 have hb:=h.L.1.1
 constructor
 ·intro ha
  have hc:=h.neg ha
  rcases Int.lt_or_le (kB f far) 0 with z|z
  ·exact z
  ·have:=Int.mul_nonneg (show 0≤-(2*f.2.2) by omega) z
   have e:-(2*f.2.2)*kB f far=-(2*f.2.2*kB f far):=by grind
   omega
 ·intro ha
  have hc:=h.pos ha
  rcases Int.lt_or_le 0 (kB f far)with z|z
  ·exact z
  ·have:=Int.mul_nonneg (show 0≤2*f.2.2 by omega) (show 0≤-kB f far by omega)
   have e:2*f.2.2 * -kB f far=-(2*f.2.2*kB f far):=by grind
   omega
def Abn{far:Int}{f:I3}(h:Lv far f)(ha:0<f.1) :
  ∃N:Nat,2≤N∧nxs N f=aft far (aft far f)∧wd N f=Hw (Ah (Cw f far) (Cw (aft far f) far))∧∀j,0<j→j<N→¬Lv far (nxs j f):=by
 have h':=h.next
 have h'':=h'.next
 have hc:=h.neg ha
 have ⟨g1,g2,g3⟩:=Hj h
 have a':(aft far f).1<0:=by rw[g1];exact hc
 have he:=h'.pos a'
 have ⟨q1,q2,q3⟩:=Hj h'
 have a'':0<(aft far (aft far f)).1:=by rw[q1];exact he
 have abS:=h''.neg a''
 have kn:=h.abo.1 ha
 have kp:=h'.abo.2 a'
 have hk1:=Jb (top:=far) (Jj h.S)
 have hk2:=Jb (top:=far) (Jj h'.S)
 have lb:=h.L.1.2
 have ld':=h''.L.1.2
 rw[q2]at ld'
 rw[g2]at hk2
 rw[q3,g1,g2]at abS
 rw[g3]at he
 have acC:Cw f far=(0,-1,1,kB f far):=rfl
 have acD:Cw (aft far f) far=(0,-1,1,kB (aft far f) far):=rfl
 rw[acC,acD]
 have e22:(aft far f).2.2=f.1-f.2.1*kB f far+f.2.2*(kB f far*kB f far):=g3
 generalize hF:aft far (aft far f)=F at *
 generalize hd':dB (aft far f) far=d' at *
 generalize acT:kB (aft far f) far=k2 at *
 have hform:nxs 0 f=f:=rfl
 generalize hg:aft far f=g at *
 generalize hd:dB f far=d at *
 generalize hk1':kB f far=k1 at *
 obtain⟨a,b,c⟩:=f
 have ha:0<a:=ha
 have hc:c<0:=hc
 have lb:b≤far:=lb
 have he:0<a-b*k1+c*(k1*k1):=he
 have hk1:2*c*k1=b+d:=hk1
 have abS:c-d*k2+g.2.2*(k2*k2)<0:=abS
 have e22:g.2.2=a-b*k1+c*(k1*k1):=e22
 rw[e22]at abS hk2
 obtain⟨n1,hn1⟩:∃n:Nat,-k1=n:=⟨(-k1).toNat,by omega⟩
 obtain⟨n2,hn2⟩:∃n:Nat,k2=n:=⟨k2.toNat,by omega⟩
 have abT:k1=-(n1:Int):=by omega
 have hw1:∀i:Nat,i≤n1→wd i (a,b,c)=(1,0,(i:Int),1):=fun i hi=>Al9 i a b c fun j j1 ji=>by
  refine AlN (k:=n1) (by omega) ha ?_ (by omega) (by omega) (by omega)
  have:a+b*(n1:Int)+c*((n1:Int)*n1)=a-b*k1+c*(k1*k1):=by rw[abT];grind
  omega
 have hF1:nxs n1 (a,b,c)=(a-b*k1+c*(k1*k1),-d,c):=by
  rw[←Li,hw1 n1 (Nat.le_refl _)]
  have e1:-d=b+2*c*n1:=by
   have:2*c*(n1:Int)=-(2*c*k1):=by rw[abT];grind
   omega
  rw[e1,abT]
  simp only[mov,val,mid,Prod.mk.injEq]
  refine⟨?_,?_,?_⟩<;>grind
 generalize hee:a-b*k1+c*(k1*k1)=e at *
 have hw2:∀i:Nat,i≤n2→wd i (e,-d,c)=(1,(i:Int),0,1):=fun i hi=>Al4 i e (-d) c fun j j1 ji=>by
  have:=AlN (a:=-c) (b:=d) (c:=-e) (k:=n2) (j:=j) (by omega) (by omega) (by
   have:-c+d*(n2:Int) + -e*((n2:Int)*n2)=-(c-d*k2+e*(k2*k2)):=by rw[hn2];grind
   omega) (by omega) (by omega) (by omega)
  have e1:e*((j:Int)*j) + -d*j+c=-(-c+d*(j:Int) + -e*((j:Int)*j)):=by grind
  omega
 have hF2:∀i:Nat,i≤n2→nxs (n1+i) (a,b,c)=(e,-d+2*e*i,e*((i:Int)*i)-d*i+c):=fun i hi=>by
  rw[Uk,hF1,←Li,hw2 i hi]
  simp only[mov,val,mid,Prod.mk.injEq]
  refine⟨?_,?_,?_⟩<;>grind
 have hwd:wd (n1+n2) (a,b,c)=Hw (Ah (0,-1,1,k1) (0,-1,1,k2)):=by
  rw[Y4,hF1,hw1 n1 (Nat.le_refl _),hw2 n2 (Nat.le_refl _),abT,hn2]
  simp only[Ah,Hw,Prod.mk.injEq]
  refine⟨?_,?_,?_,?_⟩<;>grind
 refine⟨n1+n2,by omega,?_,hwd,?_⟩
 ·rw[←Li,hwd,Pz,←Bd,←hF,←hg]
  show mov (mov (a,b,c) (0,-1,1,k1)) (0,-1,1,k2)=_
  rw[←hk1',←acT,←hg];rfl
 ·intro j j0 jn hL
  rcases Nat.lt_or_ge n1 j with z|z
  ·obtain⟨i,rfl⟩:∃i,j=n1+i:=⟨j-n1,by omega⟩
   rw[hF2 i (by omega)]at hL
   have l1:=hL.L.2.1
   have l1:far-(-d+2*e*i)<2*ab e:=l1
   rw[show ab e=e from if_neg (by omega)]at l1
   have hi:(i:Int)≤n2-1:=by omega
   have:=Int.mul_le_mul_of_nonneg_left hi (show 0≤2*e by omega)
   have e1:2*e*((n2:Int)-1)=2*e*k2-2*e:=by rw[hn2];grind
   omega
  ·have hj:nxs j (a,b,c)=(a+b*j+c*((j:Int)*j),b+2*c*j,c):=by
    rw[←Li,hw1 j z]
    simp only[mov,val,mid,Prod.mk.injEq]
    refine⟨?_,?_,?_⟩<;>grind
   rw[hj]at hL
   have l1:=(Jt hL.r hL.S.no hL.L).1
   have l1:far-(b+2*c*j)<2*ab c:=l1
   rw[show ab c=-c from if_pos hc]at l1
   have:=Int.mul_le_mul_of_nonneg_left (show(1:Int)≤j by omega) (show 0≤-(2*c) by omega)
   have e1:-(2*c)*(j:Int)=-(2*c*j):=by grind
   omega
end My
namespace My
open PySem L2
def Sg(t u:I4):Prop:=t=u∨t=Hw u
def WM{t u:I4}:Ah (Hw t) u=Hw (Ah t u):=by
 obtain⟨a,b,c,d⟩:=t;obtain⟨e,f,g,h⟩:=u
 simp only[Ah,Hw,Prod.mk.injEq]
 refine⟨?_,?_,?_,?_⟩<;>grind
def W8{t u:I4}:Ah t (Hw u)=Hw (Ah t u):=by
 obtain⟨a,b,c,d⟩:=t;obtain⟨e,f,g,h⟩:=u
 simp only[Ah,Hw,Prod.mk.injEq]
 refine⟨?_,?_,?_,?_⟩<;>grind
def Gj{t:I4}:Ao (Ao t)=t:=by
 obtain⟨a,b,c,d⟩:=t
 simp only[Ao,Prod.mk.injEq]
 refine⟨trivial,?_,?_,trivial⟩<;>omega
def Q8{t u:I4}:Ao (Ah t u)=Ah (Ao u) (Ao t):=by
 obtain⟨a,b,c,d⟩:=t;obtain⟨e,f,g,h⟩:=u
 simp only[Ah,Ao,Prod.mk.injEq]
 refine⟨?_,?_,?_,?_⟩<;>grind
theorem Sg.refl{t:I4}:Sg t t:=.inl rfl
theorem Sg.trans{t u v:I4}(h:Sg t u)(k:Sg u v):Sg t v:=by
 rcases h with rfl|rfl<;>rcases k with rfl|rfl
 ·exact .inl rfl
 ·exact .inr rfl
 ·exact .inr rfl
 ·exact .inl neg_neg
theorem Sg.then{t u t' u':I4}(h:Sg t t')(k:Sg u u'):Sg (Ah t u) (Ah t' u'):=by
 rcases h with rfl|rfl<;>rcases k with rfl|rfl
 ·exact .inl rfl
 ·exact .inr W8
 ·exact .inr WM
 ·exact .inl (by rw[WM,W8,neg_neg])
theorem Sg.back{t u:I4}(h:Sg t u):Sg (Ao t) (Ao u):=by
 rcases h with rfl|rfl
 ·exact .inl rfl
 ·exact .inr W7
theorem Sg.mov{f:I3}{t u:I4}(h:Sg t u):mov f t=mov f u:=by
 rcases h with rfl|rfl
 ·rfl
 ·exact Pz
def rF(far:Int):Nat→I3→I3
 |0,f=>f
 |n+1,f=>rF far n (aft far f)
def rT(far:Int):Nat→I3→I4
 |0,_=>(1,0,0,1)
 |n+1,f=>Ah (Cw f far) (rT far n (aft far f))
def JM{far:Int}:∀(n:Nat)(f:I3),mov f (rT far n f)=rF far n f
 |0,_=>Fd
 |n+1,f=>by rw[rT,←Bd];exact JM n (aft far f)
def T6{far:Int}:∀(n:Nat)(f:I3),det (rT far n f)=1
 |0,_=>rfl
 |n+1,f=>by rw[rT,BK,CJ,T6 n (aft far f)];rfl
def GR{far:Int}:∀(m n:Nat)(f:I3),rF far (m+n) f=rF far n (rF far m f)
 |0,n,f=>by rw[Nat.zero_add];rfl
 |m+1,n,f=>by rw[show m+1+n=(m+n)+1 by omega];exact GR m n (aft far f)
def Um{far:Int}:∀(m n:Nat)(f:I3),rT far (m+n) f=Ah (rT far m f) (rT far n (rF far m f))
 |0,n,f=>by rw[Nat.zero_add];exact Gk.symm
 |m+1,n,f=>by rw[show m+1+n=(m+n)+1 by omega,rT,Um m n (aft far f),rT,then_assoc];rfl
def Aax{far:Int}{n:Nat}{f:I3}:rF far (n+1) f=aft far (rF far n f):=by rw[GR];rfl
def Zb{far:Int}{n:Nat}{f:I3}:rT far (n+1) f=Ah (rT far n f) (Cw (rF far n f) far):=by
 rw[Um]
 show Ah _ (Ah _ (1,0,0,1))=_
 rw[Dl]
theorem Lv.rF{far:Int}:∀(n:Nat){f:I3},Lv far f→Lv far (rF far n f)
 |0,_,h=>h
 |n+1,_,h=>Lv.rF n h.next
def Ni{far:Int}(n:Nat)(f:I3):meas (rF far n f)=meas f:=by rw[←JM,BJ (T6 n f)]
def Aa9{far:Int}:∀(n:Nat)(f:I3),Lv far f→0<f.1→Lv far (nxs n f)→∃m,Sg (wd n f) (rT far m f):=by
 intro n
 induction n using Nat.strongRecOn with
 | ind n ih =>
  intro f hf ha hg
  by_cases h0:n=0
  ·subst h0
   exact⟨0,Sg.refl⟩
  ·obtain⟨N,hN,e1,e2,e3⟩:=Abn hf ha
   have hn:N≤n:=by
    rcases Nat.lt_or_ge n N with z|z
    ·exact absurd hg (e3 n (by omega) z)
    ·exact z
   obtain⟨k,rfl⟩:∃k,n=N+k:=⟨n-N,by omega⟩
   have a2:0<(aft far (aft far f)).1:=by
    rw[(Hj hf.next).1]
    exact hf.next.pos (by rw[(Hj hf).1];exact hf.neg ha)
   rw[Uk,e1]at hg
   obtain⟨m,hm⟩:=ih k (by omega) (aft far (aft far f)) hf.next.next a2 hg
   refine⟨m+2,?_⟩
   rw[Y4,e1,e2]
   show Sg _ (Ah (Cw f far) (Ah (Cw (aft far f) far) (rT far m (aft far (aft far f)))))
   rw[←then_assoc]
   exact Sg.then (.inr rfl) hm
def Ring(far:Int)(f g:I3)(t:I4):Prop:=(∃m,Sg t (rT far m f))∨(∃m,Sg (Ao t) (rT far m g))
theorem Ring.swap{far:Int}{f g:I3}{t:I4}(h:Ring far f g t):Ring far g f (Ao t):=by
 rcases h with⟨m,h⟩|⟨m,h⟩
 ·exact .inr ⟨m,by rw[Gj];exact h⟩
 ·exact .inl ⟨m,h⟩
def AaQ{far:Int}{f g:I3}{t:I4}(hf:Lv far f)(hg:Lv far g)(hd:det t=1)(e:mov f t=g)(fa:0<f.1)(ga:0<g.1):Ring far f g t:=by
 have hr:Riv (mov f t):=by rw[e];exact hg.riv ga
 rcases AlC (hf.riv fa) hd hr with⟨n,h⟩|⟨n,h⟩
 ·have hs:Sg t (wd n f):=h
  have hn:Lv far (nxs n f):=by rw[←Li,←hs.mov,e];exact hg
  obtain⟨m,hm⟩:=Aa9 n f hf fa hn
  exact .inl ⟨m,hs.trans hm⟩
 ·rw[e]at h
  have hs:Sg (Ao t) (wd n g):=h
  have hn:Lv far (nxs n g):=by rw[←Li,←hs.mov,←e,BZ hd];exact hf
  obtain⟨m,hm⟩:=Aa9 n g hg ga hn
  exact .inr ⟨m,hs.trans hm⟩
def AaS{far:Int}{f g:I3}{t:I4}{m:Nat}(hf:Lv far f)(hg:Lv far g)(hm:meas f=meas g)(h:Sg (Ah t (Cw g far)) (rT far m f))(e:rF far m f=aft far g):(∃k,Sg t (rT far k f))∨Sg t (Ao (Cw g far)):=by
 have cancel:∀{u:I4},Sg (Ah t (Cw g far)) (Ah u (Cw g far))→Sg t u:=fun{u} h=>by
  have:=Sg.then h (Sg.refl (t:=Ao (Cw g far)))
  rw[then_assoc,then_assoc,Fw CJ,Dl,Dl]at this
  exact this
 match m,h,e with
 | 0,h,e =>
  right
  refine cancel (h.trans ?_)
  rw[Tq CJ]
  exact Sg.refl
 | m+1,h,e =>
  left
  rw[Aax]at e
  have e':=AaU (Lv.rF m hf) hg (by rw[Ni];exact hm) e
  rw[Zb,e']at h
  exact⟨m,cancel h⟩
def UW{far:Int}{f g:I3}{t:I4}(hf:Lv far f)(hg:Lv far g)(hd:det t=1)(e:mov f t=g)(fa:0<f.1)(ga:g.1<0):Ring far f g t:=by
 have hm:meas f=meas g:=by rw[←e,BJ hd]
 have hd':det (Ah t (Cw g far))=1:=by rw[BK,hd,CJ];rfl
 have e':mov f (Ah t (Cw g far))=aft far g:=by rw[←Bd,e]
 have ga':0<(aft far g).1:=by rw[(Hj hg).1];exact hg.pos ga
 rcases AaQ hf hg.next hd' e' fa ga' with⟨m,h⟩|⟨m,h⟩
 ·have er:rF far m f=aft far g:=by rw[←JM,←h.mov,e']
  rcases AaS hf hg hm h er with h|h
  ·exact .inl h
  ·refine .inr ⟨1,?_⟩
   have:=h.back
   rw[Gj]at this
   show Sg _ (Ah (Cw g far) (1,0,0,1))
   rw[Dl]
   exact this
 ·refine .inr ⟨m+1,?_⟩
  have h2:=Sg.then (Sg.refl (t:=Cw g far)) h
  rw[Q8,←then_assoc,Fw CJ,Gk]at h2
  exact h2
def W2{far:Int}{f g:I3}{t:I4}(hf:Lv far f)(hg:Lv far g)(hd:det t=1)(e:mov f t=g):Ring far f g t:=by
 have fa:=Acs hf.S
 have ga:=Acs hg.S
 have eb:mov g (Ao t)=f:=by rw[←e,BZ hd]
 have hdb:det (Ao t)=1:=CP.trans hd
 rcases Int.lt_or_lt_of_ne fa with fa|fa
 ·rcases Int.lt_or_lt_of_ne ga with ga|ga
  ·
   have fa':0<(aft far f).1:=by rw[(Hj hf).1];exact hf.pos fa
   have hd':det (Ah (Ao (Cw f far)) t)=1:=by rw[BK,CP,CJ,hd];rfl
   have e':mov (aft far f) (Ah (Ao (Cw f far)) t)=g:=by
    rw[←Bd,BZ CJ,e]
   have hm:meas g=meas f:=by rw[←e,BJ hd]
   rcases UW hf.next hg hd' e' fa' ga with⟨m,h⟩|⟨m,h⟩
   ·refine .inl ⟨m+1,?_⟩
    have h2:=Sg.then (Sg.refl (t:=Cw f far)) h
    rw[←then_assoc,Fw CJ,Gk]at h2
    exact h2
   ·rw[Q8,Gj]at h
    have er:rF far m g=aft far f:=by rw[←JM,←h.mov,←Bd,eb]
    rcases AaS hg hf hm h er with h|h
    ·exact .inr h
    ·refine .inl ⟨1,?_⟩
     have:=h.back
     rw[Gj,Gj]at this
     show Sg _ (Ah (Cw f far) (1,0,0,1))
     rw[Dl]
     exact this
  ·have:=(UW hg hf hdb eb ga fa).swap
   rw[Gj]at this
   exact this
 ·rcases Int.lt_or_lt_of_ne ga with ga|ga
  ·exact UW hf hg hd e fa ga
  ·exact AaQ hf hg hd e fa ga
theorem AkK:∀(M:Nat)(x:Nat→Nat),(∀i,i≤M→x i<M)→∃i j,i<j∧j≤M∧x i=x j:=by
 intro M
 induction M with
 |zero=>intro x h;exact absurd (h 0 (Nat.le_refl _)) (by omega)
 | succ M ih =>
  intro x h
  by_cases hex:∃i j,i<j∧j≤M+1∧x i=x j
  ·exact hex
  ·have ne:∀i j,i<j→j≤M+1→x i≠x j:=fun i j h1 h2 h3=>hex ⟨i,j,h1,h2,h3⟩
   obtain⟨i,j,h1,h2,h3⟩:=ih (fun i=>if x i=M then x (M+1)else x i) (fun i hi=>by
    have h1:=h i (by omega)
    have h2:=h (M+1) (Nat.le_refl _)
    have h3:=ne i (M+1) (by omega) (Nat.le_refl _)
    show(if x i=M then x (M+1)else x i)<M
    split<;>omega)
   exfalso
   have n1:=ne i j h1 (by omega)
   have n2:=ne i (M+1) (by omega) (Nat.le_refl _)
   have n3:=ne j (M+1) (by omega) (Nat.le_refl _)
   have h3:(if x i=M then x (M+1)else x i)=(if x j=M then x (M+1)else x j):=h3
   split at h3<;>split at h3<;>omega
def Od{far:Int}:∀(i:Nat){f g:I3},Lv far f→Lv far g→meas f=meas g→rF far i f=rF far i g→f=g
 |0,_,_,_,_,_,h=>h
 |i+1,f,g,hf,hg,hm,h=>AaU hf hg hm (Od i hf.next hg.next (by rw[BJ CJ,BJ CJ];exact hm) h)
def Xa(f:I3):Nat:=((f.1+63)*64+f.2.1).toNat
theorem Lv.range{far:Int}{f:I3}(h:Lv far f):(-63≤f.1∧f.1≤63)∧(0<f.2.1∧f.2.1≤63):=by
 have h6:=Uz h.r h.S.most
 obtain⟨⟨l1,l2⟩,_,l4⟩:=h.L
 have l4:2*ab f.1≤far+f.2.1:=l4
 rcases Bf f.1 with⟨_,e⟩|⟨_,e⟩<;>omega
theorem code_inj{far:Int}{f g:I3}(hf:Lv far f)(hg:Lv far g)(hm:meas f=meas g)(h:Xa f=Xa g):f=g:=by
 have rf:=hf.range
 have rg:=hg.range
 have ha:=Acs hf.S
 obtain⟨a,b,c⟩:=f
 obtain⟨a',b',c'⟩:=g
 simp only[Xa]at h rf rg ha
 have e1:a=a':=by omega
 have e2:b=b':=by omega
 subst e1 e2
 have e3:4*a*c=4*a*c':=by simp only[meas]at hm;omega
 have:c=c':=Int.eq_of_mul_eq_mul_left (show 4*a≠0 by omega) e3
 rw[this]
def Vq{far:Int}{f:I3}(h:Lv far f):∃N,0<N∧N≤8128∧rF far N f=f∧∀j,0<j→j<N→rF far j f≠f:=by
 have ex:∃N,0<N∧N≤8128∧rF far N f=f:=by
  obtain⟨i,j,hij,hj,e⟩:=AkK 8128 (fun i=>Xa (rF far i f)) (fun i _=>by
   have:=(Lv.rF i h).range
   unfold Xa
   omega)
  have e':=code_inj (Lv.rF i h) (Lv.rF j h) (by rw[Ni,Ni]) e
  obtain⟨k,rfl⟩:∃k,j=k+i:=⟨j-i,by omega⟩
  rw[GR k i f]at e'
  have:=Od i h (Lv.rF k h) (by rw[Ni]) e'
  exact⟨k,by omega,by omega,this.symm⟩
 have least:∀M,(∃N,0<N∧N≤M∧rF far N f=f)→∃N,0<N∧N≤M∧rF far N f=f∧∀j,0<j→j<N→rF far j f≠f:=by
  intro M
  induction M with
  |zero=>intro⟨N,h1,h2,_⟩;omega
  | succ M ih =>
   intro hN
   by_cases hM:∃N,0<N∧N≤M∧rF far N f=f
   ·obtain⟨N,h1,h2,h3,h4⟩:=ih hM
    exact⟨N,h1,by omega,h3,h4⟩
   ·obtain⟨N,h1,h2,h3⟩:=hN
    exact⟨N,h1,h2,h3,fun j j0 jN e=>hM ⟨j,j0,by omega,e⟩⟩
 exact least 8128 ex
def Za{f:I3}{far:Int}(h:Lv far f):Bt 9 (kB f far):=by
 have hc:=Jj h.S
 have hk:=Jb (top:=far) hc
 have ⟨d1,d2⟩:=MK (top:=far) hc
 have h6:=Uz h.r h.S.most
 have ⟨c1,c2⟩:=Jt h.r h.S.no h.L
 obtain⟨⟨l1,l2⟩,_,_⟩:=h.L
 have e1:2*(ab f.2.2*ab (kB f far))=ab (f.2.1+dB f far):=by
  rw[←hk,Rn]
  have:2*f.2.2*kB f far=2*(f.2.2*kB f far):=by grind
  rw[this]
  rcases Bf (f.2.2*kB f far)with⟨h1,e1⟩|⟨h1,e1⟩
  ·rw[e1,ab,if_neg (by omega)]
  ·rw[e1,ab,if_pos (by omega)];omega
 have c0:1≤ab f.2.2:=by rcases Bf f.2.2 with⟨_,e1⟩|⟨_,e1⟩<;>omega
 have e2:=Int.mul_le_mul_of_nonneg_right c0 (BX (kB f far))
 have e3:ab (f.2.1+dB f far)≤252:=by rcases Bf (f.2.1+dB f far)with⟨_,e1⟩|⟨_,e1⟩<;>omega
 have:=BX (kB f far)
 exact S5 (k:=252) (by omega) (by decide)
def Ah0{far:Int}:∀(n:Nat){f:I3},Lv far f→B4 (10*n+1) (rT far n f)
 |0,_,_=>⟨Bt.one,Bt.zero.le (by omega),Bt.zero.le (by omega),Bt.one⟩
 | n+1,f,h=>by
  have h1:=Qc (Za h) (by decide)
  exact(B4.then h1 (Ah0 n h.next)).le (by omega)
end My
namespace My
open PySem L2
def tr(t:I4):Int:=t.1+t.2.2.2
def AgU{t x:I4}(h:det x=1):tr (Ah (Ah x t) (Ao x))=tr t:=by
 obtain⟨p,q,r,s⟩:=t;obtain⟨a,b,c,d⟩:=x
 simp only[det]at h
 have:tr (Ah (Ah (a,b,c,d) (p,q,r,s)) (Ao (a,b,c,d)))=(a*d-b*c)*(p+s):=by simp only[tr,Ah,Ao];grind
 rw[this,h,Int.one_mul];rfl
def Adk{t x:I4}(h:det x=1):tr (Ah (Ah (Ao x) t) x)=tr t:=by
 have:=AgU (t:=t) (x:=Ao x) (CP.trans h)
 rw[Gj]at this
 exact this
def pl(f:I3):I3:=(f.1 / (g3 f:Int),f.2.1 / (g3 f:Int),f.2.2 / (g3 f:Int))
def AaV{far:Int}{f:I3}{N m:Nat}(e:rF far N f=f):tr (rT far N (rF far m f))=tr (rT far N f):=by
 have h1:=Um (far:=far) m N f
 have h2:=Um (far:=far) N m f
 rw[e,Nat.add_comm N m]at h2
 have hd:=T6 (far:=far) m f
 have:rT far N (rF far m f)=Ah (Ah (Ao (rT far m f)) (rT far N f)) (rT far m f):=by
  rw[then_assoc,←h2,h1,←then_assoc,Tq hd,Gk]
 rw[this,Adk hd]
def Wb{far:Int}{f:I3}{N M m:Nat}(h:Lv far f)(e:rF far N f=f)(min:∀j,0<j→j<N→rF far j f≠f)(e':rF far M (rF far m f)=rF far m f)(min':∀j,0<j→j<M→rF far j (rF far m f)≠rF far m f)(hN:0<N)(hM:0<M):N=M:=by
 have a1:rF far M f=f:=by
  rw[←GR,Nat.add_comm,GR]at e'
  exact Od m (Lv.rF M h) h (by rw[Ni]) e'
 have a2:rF far N (rF far m f)=rF far m f:=by rw[←GR,Nat.add_comm,GR,e]
 rcases Nat.lt_trichotomy N M with z|z|z
 ·exact absurd a2 (min' N hN z)
 ·exact z
 ·exact absurd a1 (min M hM z)
def Abi{far:Int}{f g:I3}{t:I4}{N M:Nat}(hf:Lv far f)(hg:Lv far g)(hd:det t=1)(e:mov f t=g)(eN:rF far N f=f)(acE:∀j,0<j→j<N→rF far j f≠f)(eM:rF far M g=g)(acF:∀j,0<j→j<M→rF far j g≠g)(hN:0<N)(hM:0<M):N=M∧tr (rT far M g)=tr (rT far N f):=by
 rcases W2 hf hg hd e with⟨m,h⟩|⟨m,h⟩
 ·have eg:rF far m f=g:=by rw[←JM,←h.mov,e]
  subst eg
  have:=Wb hf eN acE eM acF hN hM
  subst this
  exact⟨rfl,AaV eN⟩
 ·have ef:rF far m g=f:=by rw[←JM,←h.mov,←e,BZ hd]
  subst ef
  have:=Wb hg eM acF eN acE hM hN
  subst this
  exact⟨rfl,(AaV eM).symm⟩
end My
namespace My
open PySem L2
end My
namespace My
open PySem L2
def above(n x1 y1 x2 y2:Int):Prop:=(x1*y2+x2*y1)*(x1*y2+x2*y1)<n*(2*y1*y2)*(2*y1*y2)
end My
namespace My
open PySem L2
end My
namespace My
open PySem L2
end My
namespace My
open PySem L2
end My
namespace My
open PySem L2
def pw(s:I4):Nat→I4
 |0=>(1,0,0,1)
 |n+1=>Ah (pw s n) s
end My
namespace My
open PySem L2
def FB(p q:I4):I3:=(p.1*q.2.2.1-p.2.2.1*q.1,p.1*q.2.2.2-p.2.2.2*q.1+p.2.1*q.2.2.1-p.2.2.1*q.2.1,p.2.1*q.2.2.2-p.2.2.2*q.2.1)
def Ur{f g:I3}(h1:f.1=g.1)(h2:f.2.1=g.2.1)(h3:f.2.2=g.2.2):f=g:=Prod.ext h1 (Prod.ext h2 h3)
theorem bez:∀(n:Nat)(a b:Int),b.natAbs≤n→∃u v:Int,u*a+v*b=(Int.gcd a b:Int)
 | n,a,b,h=>by
  by_cases hb:b=0
  ·subst hb
   rw[Int.gcd_zero_right]
   rcases Int.lt_or_le a 0 with z|z
   ·exact⟨-1,0,by omega⟩
   ·exact⟨1,0,by omega⟩
  ·have l:=PB (a:=a) hb
   match n,h with
   |0,h=>omega
   | n+1,h =>
    obtain⟨u,v,e⟩:=bez n b (a.fmod b) (by omega)
    rw[W3]at e
    refine⟨v,u-v*a.fdiv b,?_⟩
    rw[←e,Int.fmod_def]
    grind
end My
namespace My
open PySem L2
def FP(f:I3):I4:=if f.1=f.2.2∧f.2.1=0 then(0,-1,1,0)else if f.1=f.2.2∧f.2.1=f.1 then(0,-1,1,1)else(-1,0,0,-1)
def Dj(f:I3):List I4:=if f.1=f.2.2∧f.2.1=0 then [(1,0,0,1),(0,-1,1,0),(-1,0,0,-1),(0,1,-1,0)]
 else if f.1=f.2.2∧f.2.1=f.1 then [(1,0,0,1),(0,-1,1,1),(-1,-1,1,0),(-1,0,0,-1),(0,1,-1,-1),(1,1,-1,0)]else [(1,0,0,1),(-1,0,0,-1)]
def Aey{f:I3}{t:I4}(h:t∈Dj f):det t=1∧mov f t=f:=by
 obtain⟨a,b,c⟩:=f
 unfold Dj at h
 dsimp only at h
 split at h
 ·rename_i e
  obtain⟨rfl,rfl⟩:=e
  simp only[List.mem_cons,List.not_mem_nil,or_false]at h
  rcases h with rfl|rfl|rfl|rfl<;>exact⟨by decide,by simp only[mov,val,mid,Prod.mk.injEq];refine⟨by grind,by grind,by grind⟩⟩
 ·split at h
  ·rename_i e
   obtain⟨rfl,rfl⟩:=e
   simp only[List.mem_cons,List.not_mem_nil,or_false]at h
   rcases h with rfl|rfl|rfl|rfl|rfl|rfl<;>exact⟨by decide,by simp only[mov,val,mid,Prod.mk.injEq];refine⟨by grind,by grind,by grind⟩⟩
  ·simp only[List.mem_cons,List.not_mem_nil,or_false]at h
   rcases h with rfl|rfl<;>exact⟨by decide,by simp only[mov,val,mid,Prod.mk.injEq];refine⟨by grind,by grind,by grind⟩⟩
def T5{f:I3}{t:I4}(h:t∈Dj f):B4 2 t:=by
 unfold Dj at h
 split at h
 ·simp only[List.mem_cons,List.not_mem_nil,or_false]at h
  rcases h with rfl|rfl|rfl|rfl<;>(unfold B4 Bt;decide)
 ·split at h
  ·simp only[List.mem_cons,List.not_mem_nil,or_false]at h
   rcases h with rfl|rfl|rfl|rfl|rfl|rfl<;>(unfold B4 Bt;decide)
  ·simp only[List.mem_cons,List.not_mem_nil,or_false]at h
   rcases h with rfl|rfl<;>(unfold B4 Bt;decide)
def Q7(f:I3):2≤(Dj f).length∧(Dj f).length≤6:=by
 unfold Dj
 split
 ·decide
 ·split<;>decide
def Ab7(f:I3):(Dj f)[0]? = some (1,0,0,1)∧(Dj f)[1]? = some (FP f)∧(∀k,0<k→k<(Dj f).length→(Dj f)[k]?≠some (1,0,0,1)) ∧
  ∀k,0<k→k<(Dj f).length→∀t,(Dj f)[k]? = some t→(if k+1=(Dj f).length then some (1,0,0,1)else(Dj f)[k+1]?)=some (Ah t (FP f)):=by
 unfold Dj FP
 split
 ·refine⟨rfl,rfl,fun k h1 h2=>?_,fun k h1 h2 t e=>?_⟩
  ·have h2:k<4:=h2
   obtain rfl|rfl|rfl:k=1∨k=2∨k=3:=by omega
   all_goals decide
  ·have h2:k<4:=h2
   obtain rfl|rfl|rfl:k=1∨k=2∨k=3:=by omega
   all_goals (cases e;decide)
 ·split
  ·refine⟨rfl,rfl,fun k h1 h2=>?_,fun k h1 h2 t e=>?_⟩
   ·have h2:k<6:=h2
    obtain rfl|rfl|rfl|rfl|rfl:k=1∨k=2∨k=3∨k=4∨k=5:=by omega
    all_goals decide
   ·have h2:k<6:=h2
    obtain rfl|rfl|rfl|rfl|rfl:k=1∨k=2∨k=3∨k=4∨k=5:=by omega
    all_goals (cases e;decide)
  ·refine⟨rfl,rfl,fun k h1 h2=>?_,fun k h1 h2 t e=>?_⟩
   ·have h2:k<2:=h2
    obtain rfl:k=1:=by omega
    decide
   ·have h2:k<2:=h2
    obtain rfl:k=1:=by omega
    cases e
    decide
def r4(t:I4):List Int:=[t.1,t.2.1,t.2.2.1,t.2.2.2]
end My
namespace My
open PySem L2
def hs(M:Nat):Nat→Nat
 |0=>0
 |i+1=>hs M i+2 ^ (10*(i*i % (4*M)))
def ck(t:Nat):Nat→Nat→Bool
 |0,_=>true
 |k+1,H=>Nat.ble (H % 1024) t&&ck t k (H / 1024)
def tbL:List Nat:=[1,2,2,2,2,4,2,4,3,4,2,4,2,4,4,4,2,6,2,4,4,4,2,8,5,4,6,4,2,8,2,8,4,4,4,6,2,4,4,8,2,8,2,4,6,4,2,8,7,10,4,4,2,12,4,8,4,4,2,8,2,4,6,8,4,8,2,4,4,8,2,12,2,4,10,4,4,8,2,8,9,4,2,8,4,4,4,8,2,12,4,4,4,4,4,16,2,14,6,10,2,8,2,8,8,4,2,12,2,8,4,8,2,8,4,4,6,4,4,16,11,4,4,4,10,12,2,16,4,8,2,8,4,4,12,8,2,8,2,8,4,4,4,12,4,4,14,4,2,20,2,8,6,8,4,8,2,4,4,16,4,18,2,4,8,4,2,16,13,8,6,4,2,8,10,8,4,4,2,12,2,8,4,8,4,8,4,4,12,8,2,16,2,4,8,14,2,12,2,20,4,4,4,8,4,4,6,8,4,16,2,4,4,4,4,24,4,4,4,8,4,8,2,16,15,4,2,8,2,8,8,8,2,12,4,4,4,8,2,16,2,22,18,4,14,8,4,8,4,20,2,12,4,4,8,16,2,8,4,8,6,4,2,16,4,8,4,4,2,24,2,8,8,4,10,8,2,4,6,16,2,8,2,4,8,8,4,24,17,8,4,4,2,28,4,8,12,4,4,20,4,4,4,8,4,12,2,8,4,8,2,16,2,4,12,4,2,8,4,16,4,8,4,18,10,4,4,8,4,16,2,4,6,4,4,16,2,26,4,8,4,12,14,8,8,4,2,8,2,20,12,16,2,8,4,4,8,4,2,24,19,4,22,8,4,8,2,8,6,8,4,8,2,8,20,8,4,24,2,8,4,4,2,32,8,4,6,4,2,16,4,28,4,4,4,12,2,4,8,20]
def tb(M:Nat):Nat:=tbL.getD (M-1) 0
def ZC:Nat→Bool
 |0=>true
 |M+1=>ck (tb (M+1)) (4*(M+1)) (hs (M+1) (2*(M+1)))&&ZC M
set_option maxRecDepth 1000000 in
theorem Ako:ZC 400=true:=by decide +kernel
theorem AhQ:∀(n M:Nat),ZC n=true→0<M→M≤n→ck (tb M) (4*M) (hs M (2*M))=true
 |0,M,_,h1,h2=>by omega
 | n+1,M,h,h1,h2=>by
  unfold ZC at h
  rw[Bool.and_eq_true]at h
  by_cases e:M=n+1
  ·subst e;exact h.1
  ·exact AhQ n M h.2 h1 (by omega)
def K1:List Nat→Nat
 | []=>0
 |e::es=>K1 es+2 ^ (10*e)
def Gy:List Nat→List Nat
 | []=>[]
 |0::es=>Gy es
 |(e+1)::es=>e::Gy es
theorem Ob:∀es:List Nat,K1 es=es.count 0+1024*K1 (Gy es)
 | []=>rfl
 | 0::es=>by
  rw[K1,Gy,Ob es,List.count_cons_self]
  omega
 | (e+1)::es=>by
  rw[K1,Gy,K1,Ob es,List.count_cons_of_ne (by omega)]
  have:2 ^ (10*(e+1))=1024*2 ^ (10*e):=by
   rw[show 10*(e+1)=10+10*e by omega,Nat.pow_add]
  rw[this]
  omega
def Kh(c:Nat):∀es:List Nat,(Gy es).count c=es.count (c+1)
 | []=>rfl
 |0::es=>by rw[Gy,Kh c es,List.count_cons_of_ne (by omega)]
 | (e+1)::es=>by
  rw[Gy,List.count_cons,List.count_cons,Kh c es]
  by_cases h:e=c
  ·subst h;simp
  ·have h2:¬e+1=c+1:=by omega
   simp[h]
theorem Nv:∀es:List Nat,(Gy es).length≤es.length
 | []=>Nat.le_refl _
 |0::es=>by rw[Gy,List.length_cons];have:=Nv es;omega
 |(e+1)::es=>by rw[Gy,List.length_cons,List.length_cons];have:=Nv es;omega
def Q5{t:Nat}:∀(K:Nat)(es:List Nat),es.length<1024→ck t K (K1 es)=true→∀c,c<K→es.count c≤t
 |0,_,_,_,c,hc=>by omega
 | K+1,es,hl,h,c,hc=>by
  unfold ck at h
  rw[Bool.and_eq_true]at h
  have h0:es.count 0<1024:=Nat.lt_of_le_of_lt List.count_le_length hl
  have e:=Ob es
  have e1:K1 es % 1024=es.count 0:=by omega
  have e2:K1 es / 1024=K1 (Gy es):=by omega
  rw[e1,e2]at h
  match c with
  |0=>exact Nat.le_of_ble_eq_true h.1
  | c+1 =>
   rw[←Kh]
   exact Q5 K _ (Nat.lt_of_le_of_lt (Nv es) hl) h.2 c (by omega)
def sqs(M:Nat):Nat→List Nat
 |0=>[]
 |i+1=>(i*i % (4*M))::sqs M i
def Ae5(M:Nat):∀n,hs M n=K1 (sqs M n)
 |0=>rfl
 |n+1=>by rw[hs,sqs,K1,Ae5 M n]
def Zx(M:Nat):∀n,(sqs M n).length=n
 |0=>rfl
 |n+1=>by rw[sqs,List.length_cons,Zx M n]
def Abr{M c:Nat}(h0:0<M)(h:M≤400)(hc:c<4*M):(sqs M (2*M)).count c≤tb M:=by
 have:=AhQ 400 M Ako h0 h
 rw[Ae5]at this
 exact Q5 _ _ (by rw[Zx];omega) this c hc
def mids(m D:Int):Nat→List Int
 |0=>[]
 |i+1=>mids m D i++(if((i:Int)*i-D).fmod (4*m)=0 then [(i:Int)]else [])
def Qi{m D:Int}(m0:m≠0):∀n,(mids m D n).length≤(sqs m.natAbs n).count (D % (4*m.natAbs:Int)).toNat
 |0=>Nat.le_refl _
 | n+1=>by
  have ih:=Qi (D:=D) m0 n
  rw[mids,sqs,List.length_append]
  split
  ·rename_i h
   have hd:(4*m)∣((n:Int)*n-D):=Int.dvd_of_fmod_eq_zero h
   have hd2:(4*(m.natAbs:Int))∣((n:Int)*n-D):=by
    rcases Int.natAbs_eq m with e|e
    ·rw[←e];exact hd
    ·have:4*(m.natAbs:Int)=-(4*m):=by omega
     rw[this]
     exact Int.neg_dvd.mpr hd
   have e1:D % (4*m.natAbs:Int)=((n*n % (4*m.natAbs):Nat):Int):=by
    have:((n:Int)*n) % (4*m.natAbs:Int)=D % (4*m.natAbs:Int):=Int.emod_eq_emod_iff_emod_sub_eq_zero.mpr (Int.emod_eq_zero_of_dvd hd2)
    rw[←this]
    push_cast
    rfl
   rw[e1,Int.toNat_natCast,List.count_cons_self]
   rw[e1,Int.toNat_natCast]at ih
   simp only[List.length_cons,List.length_nil]
   omega
  ·simp only[List.length_nil,Nat.add_zero]
   exact Nat.le_trans ih (List.count_le_count_cons ..)
def AeZ{m D:Int}(m0:m≠0)(h:m.natAbs≤400):(mids m D (2*m.natAbs)).length≤tb m.natAbs:=by
 have hp:0<m.natAbs:=by omega
 refine Nat.le_trans (Qi m0 _) (Abr hp h ?_)
 have:=Int.emod_lt_of_pos D (show(0:Int)<4*m.natAbs by omega)
 have:=Int.emod_nonneg D (show(4*m.natAbs:Int)≠0 by omega)
 omega
def Jr(N:Nat):Nat→Nat
 |0=>0
 |g+1=>Jr N g+(if N % ((g+1)*(g+1))=0 then tb (N / ((g+1)*(g+1)))else 0)
set_option maxRecDepth 1000000 in
theorem AcS:∀N,N<401→Jr N 20<64:=by decide +kernel
end My
namespace My
open PySem L2
def FN(m D:Int):List I3:=(mids m D (2*m.natAbs)).map fun b=>(m,b,(b*b-D).fdiv (4*m))
def Kc{m D b:Int}:∀{n:Nat},b∈mids m D n↔0≤b∧b<n∧(b*b-D).fmod (4*m)=0
 | 0=>by
  rw[mids]
  constructor
  ·intro h;cases h
  ·rintro⟨h1,h2,_⟩;omega
 | n+1=>by
  rw[mids,List.mem_append,Kc (n:=n)]
  constructor
  ·rintro(⟨h1,h2,h3⟩|h)
   ·exact⟨h1,by omega,h3⟩
   ·split at h
    ·rename_i e
     simp only[List.mem_singleton]at h
     subst h
     exact⟨by omega,by omega,e⟩
    ·cases h
  ·rintro⟨h1,h2,h3⟩
   by_cases e:b=(n:Int)
   ·subst e
    right
    rw[if_pos h3]
    exact List.mem_singleton.mpr rfl
   ·left
    exact⟨h1,by omega,h3⟩
structure R9(m D:Int)(f:I3):Prop where
 a:f.1=m
 lo:0≤f.2.1
 hi:f.2.1<2*m.natAbs
 me:meas f=D
def EY{m D:Int}{f:I3}(m0:m≠0):f∈FN m D↔R9 m D f:=by
 have m4:4*m≠0:=by omega
 unfold FN
 rw[List.mem_map]
 constructor
 ·rintro⟨b,hb,rfl⟩
  obtain⟨h1,h2,h3⟩:=Kc.mp hb
  refine⟨rfl,h1,by show b<_;omega,?_⟩
  have:=Int.fmod_add_mul_fdiv (b*b-D) (4*m)
  rw[h3]at this
  unfold meas
  show b*b-4*m*(b*b-D).fdiv (4*m)=D
  omega
 ·rintro⟨h1,h2,h3,h4⟩
  obtain⟨a,b,c⟩:=f
  dsimp only at h1 h2 h3
  subst h1
  have h4:b*b-4*a*c=D:=h4
  have e:b*b-D=4*a*c:=by omega
  refine⟨b,Kc.mpr ⟨h2,by omega,?_⟩,?_⟩
  ·rw[e];exact Int.mul_fmod_right ..
  ·rw[e,Int.mul_fdiv_cancel_left _ m4]
def IW(n:Int):Nat→List Int
 |0=>[]
 |i+1=>IW n i++(if n.fmod ((1+(i:Int))*(1+(i:Int)))=0 then [1+(i:Int)]else [])
def Ek{n g:Int}:∀{r:Nat},g∈IW n r↔1≤g∧g≤r∧n.fmod (g*g)=0
 | 0=>by
  rw[IW]
  constructor
  ·intro h;cases h
  ·rintro⟨h1,h2,_⟩;omega
 | r+1=>by
  rw[IW,List.mem_append,Ek (r:=r)]
  constructor
  ·rintro(⟨h1,h2,h3⟩|h)
   ·exact⟨h1,by omega,h3⟩
   ·split at h
    ·rename_i e
     simp only[List.mem_singleton]at h
     subst h
     exact⟨by omega,by omega,e⟩
    ·cases h
  ·rintro⟨h1,h2,h3⟩
   by_cases e:g=1+(r:Int)
   ·subst e
    right
    rw[if_pos h3]
    exact List.mem_singleton.mpr rfl
   ·left
    exact⟨h1,by omega,h3⟩
def J9{n g:Int}(g0:g≠0)(h:n.fmod (g*g)=0):g*g*n.fdiv (g*g)=n:=by
 have:=Int.fmod_add_mul_fdiv n (g*g)
 rw[h]at this
 omega
def Uo{n g m:Int}{r:Nat}(g0:1≤g)(e:g*g*m=n)(n0:n≠0)(hr:Sq n.natAbs r):g∈IW n r∧n.fdiv (g*g)=m:=by
 have gg:g*g≠0:=Int.mul_ne_zero (by omega) (by omega)
 refine⟨Ek.mpr ⟨g0,?_,?_⟩,?_⟩
 ·obtain⟨h1,h2,h3⟩:=hr
  have m0:m≠0:=fun z=>n0 (by rw[←e,z];omega)
  have hm:1≤m.natAbs:=by omega
  have hn:(n.natAbs:Int)=g*g*m.natAbs:=by
   rw[←e,Int.natAbs_mul]
   have:(g*g).natAbs=g*g:=by
    have:=Int.mul_nonneg (show 0≤g by omega) (show 0≤g by omega)
    omega
   push_cast
   rw[this]
  have le:g*g≤n.natAbs:=by
   rw[hn]
   have:g*g*1≤g*g*m.natAbs:=Int.mul_le_mul_of_nonneg_left (by omega) (Int.mul_nonneg (by omega) (by omega))
   omega
  rcases Int.lt_or_le (r:Int) g with z|z
  ·have:((r:Int)+1)*(r+1)≤g*g:=Int.mul_le_mul (by omega) (by omega) (by omega) (by omega)
   omega
  ·exact z
 ·rw[←e];exact Int.mul_fmod_right ..
 ·rw[←e,Int.mul_fdiv_cancel_left _ gg]
def ZL{α:Type}{n:Int}{F:Int→List α}(h:∀g:Nat,1≤g→n.natAbs % (g*g)=0→(F g).length≤tb (n.natAbs / (g*g))):∀r:Nat,((IW n r).flatMap F).length≤Jr n.natAbs r
 |0=>Nat.le_refl _
 | r+1=>by
  rw[IW,Jr,List.flatMap_append,List.length_append]
  have ih:=ZL h r
  have e1:(1+(r:Int))*(1+(r:Int))=(((r+1)*(r+1):Nat):Int):=by push_cast;grind
  split
  ·rename_i z
   have hz:n.natAbs % ((r+1)*(r+1))=0:=by
    have hd:=Int.dvd_of_fmod_eq_zero z
    rw[e1]at hd
    exact Nat.mod_eq_zero_of_dvd (Int.ofNat_dvd_left.mp hd)
   rw[if_pos hz]
   have:=h (r+1) (by omega) hz
   have e2:(1+(r:Int))=((r+1:Nat):Int):=by push_cast;omega
   rw[e2]
   simp only[List.flatMap_cons,List.flatMap_nil,List.append_nil]
   omega
  ·rename_i z
   simp only[List.flatMap_nil,List.length_nil]
   omega
def Mp(N:Nat):∀k r:Nat,Jr N r≤Jr N (r+k)
 |0,_=>Nat.le_refl _
 |k+1,r=>Nat.le_trans (Mp N k r) (by rw[show r+(k+1)=r+k+1 by omega,Jr];omega)
def Dc(x y g u v:Int):I4:=(x.fdiv g,-v,y.fdiv g,u)
def G6(f:I3):Int:=(f.2.1.fmod (2*f.1).natAbs-f.2.1).fdiv (2*f.1)
def UL{f:I3}(h:f.1≠0):f.2.1+2*f.1*G6 f=f.2.1.fmod (2*f.1).natAbs∧0≤f.2.1.fmod (2*f.1).natAbs∧f.2.1.fmod (2*f.1).natAbs<2*f.1.natAbs:=by
 have hp:(0:Int)<(2*f.1).natAbs:=by omega
 obtain⟨r1,r2⟩:=Gw f.2.1 hp
 refine⟨?_,r1,by omega⟩
 unfold G6
 have hd:(2*f.1)∣(f.2.1.fmod (2*f.1).natAbs-f.2.1):=by
  have e:=Int.fmod_def f.2.1 (2*f.1).natAbs
  have d0:(2*f.1)∣((2*f.1).natAbs:Int):=by
   rcases Int.natAbs_eq (2*f.1)with z|z
   ·exact⟨1,by omega⟩
   ·exact⟨-1,by omega⟩
  obtain⟨k,hk⟩:=d0
  exact⟨-(k*f.2.1.fdiv (2*f.1).natAbs),by rw[e];rw[hk];grind⟩
 have:=Int.mul_fdiv_cancel' hd
 omega
def Wh{f:I3}{k:Int}:mov f (1,k,0,1)=(f.1,f.2.1+2*f.1*k,f.1*k*k+f.2.1*k+f.2.2):=by
 simp only[mov,val,mid,Prod.mk.injEq]
 refine⟨by grind,by grind,by grind⟩
def AhO{k:Int}:det (1,k,0,1)=1:=by
 show 1*1-k*0=1
 omega
def Vm{f:I3}{x y g u v n:Int}(hn:val f (x,y)=n)(n0:n≠0)(g0:1≤g)(gx:g∣x)(gy:g∣y)(b:u*x+v*y=g) :
  ∃m,g*g*m=n∧m≠0∧det (Dc x y g u v)=1∧(mov f (Dc x y g u v)).1=m ∧
   det (Ah (Dc x y g u v) (1,G6 (mov f (Dc x y g u v)),0,1))=1∧R9 m (meas f) (mov f (Ah (Dc x y g u v) (1,G6 (mov f (Dc x y g u v)),0,1))) ∧
   Ez (Ah (Dc x y g u v) (1,G6 (mov f (Dc x y g u v)),0,1)) (g,0)=(x,y):=by
 obtain⟨p,rfl⟩:=gx
 obtain⟨r,rfl⟩:=gy
 have gn:g≠0:=by omega
 have e1:(g*p).fdiv g=p:=Int.mul_fdiv_cancel_left _ gn
 have e2:(g*r).fdiv g=r:=Int.mul_fdiv_cancel_left _ gn
 have hd:p*u+v*r=1:=by
  refine Int.eq_of_mul_eq_mul_left gn ?_
  rw[Int.mul_one]
  grind
 have eT:Dc (g*p) (g*r) g u v=(p,-v,r,u):=by unfold Dc;rw[e1,e2]
 rw[eT]
 have dT:det (p,-v,r,u)=1:=by
  show p*u - -v*r=1
  grind
 have hm:g*g*val f (p,r)=n:=by
  rw[←hn]
  simp only[val]
  grind
 have m1:(mov f (p,-v,r,u)).1=val f (p,r):=rfl
 have m0:val f (p,r)≠0:=fun z=>n0 (by rw[←hm,z];omega)
 refine⟨val f (p,r),hm,m0,dT,rfl,by rw[BK,dT,AhO];rfl,?_,?_⟩
 ·have k:=UL (f:=mov f (p,-v,r,u)) m0
  rw[←Bd]
  refine⟨by rw[Wh];exact m1,?_,?_,by rw[BJ AhO,BJ dT]⟩
  ·rw[Wh]
   show 0≤(mov f (p,-v,r,u)).2.1+2*(mov f (p,-v,r,u)).1*G6 (mov f (p,-v,r,u))
   rw[k.1]
   exact k.2.1
  ·rw[Wh]
   show(mov f (p,-v,r,u)).2.1+2*(mov f (p,-v,r,u)).1*G6 (mov f (p,-v,r,u))<_
   rw[k.1]
   exact k.2.2
 ·rw[Ma]
  simp only[Ez,Prod.mk.injEq]
  refine⟨by grind,by grind⟩
def AbD{f:I3}{T T':I4}{m D:Int}(m0:m≠0)(d:det T=1)(d':det T'=1)(A:R9 m D (mov f T))(B:R9 m D (mov f T'))(e:(T'.1=T.1∧T'.2.2.1=T.2.2.1)∨(T'.1=-T.1∧T'.2.2.1=-T.2.2.1)):mov f T=mov f T':=by
 obtain⟨p,q,r,s⟩:=T
 obtain⟨p',q',r',s'⟩:=T'
 dsimp only at e
 have d:p*s-q*r=1:=d
 have d':p'*s'-q'*r'=1:=d'
 obtain⟨k,hk⟩:∃k,mov f (p',q',r',s')=mov (mov f (p,q,r,s)) (1,k,0,1):=by
  rcases e with⟨rfl,rfl⟩|⟨rfl,rfl⟩
  ·refine⟨s*q'-q*s',?_⟩
   rw[Bd]
   congr 1
   simp only[Ah,Prod.mk.injEq]
   refine⟨by omega,?_,by omega,?_⟩<;>grind
  ·refine⟨-(s*q'-q*s'),?_⟩
   have en:mov f (-p,q',-r,s')=mov f (p,-q',r,-s'):=by
    simp only[mov,val,mid,Prod.mk.injEq]
    refine⟨by grind,by grind,by grind⟩
   rw[en,Bd]
   congr 1
   simp only[Ah,Prod.mk.injEq]
   refine⟨by omega,?_,by omega,?_⟩<;>grind
 rw[hk]at B ⊢
 rw[Wh]at B ⊢
 have h1:=A.a
 have a1:=A.lo
 have a2:=A.hi
 have b1:=B.lo
 have b2:=B.hi
 dsimp only at b1 b2
 rw[h1]at b1 b2
 have hk0:k=0:=by
  rcases Int.lt_trichotomy k 0 with z|z|z
  ·exfalso
   rcases Int.lt_or_le 0 m with w|w
   ·have:m*k≤m * -1:=Int.mul_le_mul_of_nonneg_left (by omega) (by omega)
    have e:2*m*k=2*(m*k):=by grind
    omega
   ·have:m*k≥m * -1:=by
     have:=Int.mul_le_mul_of_nonneg_left (c:=-m) (show k≤-1 by omega) (by omega)
     have e1:-m*k=-(m*k):=Int.neg_mul ..
     have e2:-m * -1=-(m * -1):=Int.neg_mul ..
     omega
    have e:2*m*k=2*(m*k):=by grind
    omega
  ·exact z
  ·exfalso
   rcases Int.lt_or_le 0 m with w|w
   ·have:m*1≤m*k:=Int.mul_le_mul_of_nonneg_left (by omega) (by omega)
    have e:2*m*k=2*(m*k):=by grind
    omega
   ·have:m*k≤m*1:=by
     have:=Int.mul_le_mul_of_nonneg_left (c:=-m) (show 1≤k by omega) (by omega)
     have e1:-m*k=-(m*k):=Int.neg_mul ..
     have e2:-m*1=-(m*1):=Int.neg_mul ..
     omega
    have e:2*m*k=2*(m*k):=by grind
    omega
 subst hk0
 refine Ur rfl ?_ ?_
 ·show _=(mov f (p,q,r,s)).2.1+2*(mov f (p,q,r,s)).1*0
  omega
 ·show _=(mov f (p,q,r,s)).1*0*0+(mov f (p,q,r,s)).2.1*0+(mov f (p,q,r,s)).2.2
  omega
end My
namespace My
open PySem L2
end My
namespace My
open PySem L2
def Vw(g:I3):(1,0,0,1)∈Dj g∧(-1,0,0,-1)∈Dj g:=by
 unfold Dj
 split
 ·simp
 ·split<;>simp
def Gu{x y:Int}(h:x*y=1):(x=1∧y=1)∨(x=-1∧y=-1):=by
 have hu:x.natAbs=1:=by
  have:x.natAbs*y.natAbs=1:=by rw[←Int.natAbs_mul,h];rfl
  exact Nat.eq_one_of_mul_eq_one_right this
 rcases Int.natAbs_eq x with z|z<;>rw[hu]at z
 ·have z:x=1:=z
  subst z
  exact .inl ⟨rfl,by omega⟩
 ·have z:x=-1:=z
  subst z
  exact .inr ⟨rfl,by omega⟩
def AgL{g:I3}{t:I4}(L:Ds g)(d:det t=1)(e:mov g t=g):t∈Dj g:=by
 obtain⟨a,b,c⟩:=g
 obtain⟨p,q,r,s⟩:=t
 obtain⟨h0,h1,h2,h3,h4⟩:=id L
 have e1:=congrArg Prod.fst e
 have e2:=congrArg (fun z:I3=>z.2.1) e
 have d:p*s-q*r=1:=d
 dsimp only[mov]at e1 e2
 simp only at h0 h1 h2 h3 h4
 have e2:2*a*p*q+b*(p*s+q*r)+2*c*r*s=b:=e2
 by_cases hr:r=0
 ·subst hr
  have hps:p*s=1:=by omega
  have hq:2*a*(p*q)=0:=by
   have:b*(p*s+q*0)=b:=by rw[hps];omega
   have e3:2*a*p*q=2*a*(p*q):=by grind
   have e4:2*c*0*s=0:=by grind
   omega
  have hq:p*q=0:=by
   rcases Int.mul_eq_zero.mp hq with z|z
   ·omega
   ·exact z
  rcases Gu hps with⟨rfl,rfl⟩|⟨rfl,rfl⟩
  ·have:q=0:=by omega
   subst this
   exact(Vw _).1
  ·have:q=0:=by omega
   subst this
   exact(Vw _).2
 ·by_cases hp:p=0
  ·subst hp
   rw[T9]at e1
   have r2:=sq_pos hr
   have:c*1≤c*(r*r):=Int.mul_le_mul_of_nonneg_left r2 (by omega)
   have hac:a=c:=by omega
   subst hac
   have b0:=h4 (.inr rfl)
   have hqr:-q*r=1:=by
    have:-q*r=-(q*r):=Int.neg_mul ..
    omega
   have hrs:2*(a*(r*s))=2*b:=by
    have z1:b*(0*s+q*r)=-b:=by
     have:0*s+q*r=-1:=by omega
     rw[this];omega
    have z2:2*a*0*q=0:=by grind
    have z3:2*a*r*s=2*(a*(r*s)):=by grind
    omega
   rcases Int.lt_trichotomy (r*s) 0 with z|z|z
   ·have:a*(r*s)≤a*(-1):=Int.mul_le_mul_of_nonneg_left (by omega) (by omega)
    omega
   ·have hb:b=0:=by rw[z]at hrs;omega
    subst hb
    have hs:s=0:=(Int.mul_eq_zero.mp z).resolve_left hr
    subst hs
    rcases Gu hqr with⟨z1,rfl⟩|⟨z1,rfl⟩
    ·have:q=-1:=by omega
     subst this
     unfold Dj;rw[if_pos ⟨rfl,rfl⟩];simp
    ·have:q=1:=by omega
     subst this
     unfold Dj;rw[if_pos ⟨rfl,rfl⟩];simp
   ·have z1:r*s=1:=by
     rcases Int.lt_or_le 1 (r*s)with w|w
     ·have:a*2≤a*(r*s):=Int.mul_le_mul_of_nonneg_left (by omega) (by omega)
      omega
     ·omega
    have hb:b=a:=by rw[z1]at hrs;omega
    subst hb
    rcases Gu hqr with⟨z2,rfl⟩|⟨z2,rfl⟩
    ·have:q=-1:=by omega
     subst this
     have:s=1:=by omega
     subst this
     unfold Dj;rw[if_neg (by dsimp only;omega),if_pos ⟨rfl,rfl⟩];simp
    ·have:q=1:=by omega
     subst this
     have:s=-1:=by omega
     subst this
     unfold Dj;rw[if_neg (by dsimp only;omega),if_pos ⟨rfl,rfl⟩];simp
  ·have hc:=Ub h0 h1 h2 h3 hp hr
   rw[e1]at hc
   have hac:a=c:=by omega
   subst hac
   have b0:=h4 (.inr rfl)
   have ev:val (a,b,a) (p,r)=a*(p*p)+b*(p*r)+a*(r*r):=by simp only[val];grind
   rw[ev]at e1
   have sp:=sq_pos hp
   have sr:=sq_pos hr
   have npr:p*r<0:=by
    rcases Int.lt_or_le (p*r) 0 with z|z
    ·exact z
    ·have z1:0≤b*(p*r):=Int.mul_nonneg b0 z
     have z2:a*1≤a*(p*p):=Int.mul_le_mul_of_nonneg_left sp (by omega)
     have z3:a*1≤a*(r*r):=Int.mul_le_mul_of_nonneg_left sr (by omega)
     omega
   have hle:a*(p*p+p*r+r*r)≤a*1:=by
    have z1:a*(p*r)≤b*(p*r):=by
     have:=Int.mul_le_mul_of_nonneg_right (c:=-(p*r)) h2 (by omega)
     have w1:a * -(p*r)=-(a*(p*r)):=Int.mul_neg ..
     have w2:b * -(p*r)=-(b*(p*r)):=Int.mul_neg ..
     omega
    have z2:a*(p*p+p*r+r*r)=a*(p*p)+a*(p*r)+a*(r*r):=by grind
    omega
   have hq1:p*p+p*r+r*r≤1:=Int.le_of_mul_le_mul_left hle (by omega)
   have hpr:p=-r:=by
    have z1:(p+r)*(p+r)=p*p+p*r+r*r+p*r:=by grind
    by_cases w:p+r=0
    ·omega
    ·have:=sq_pos w
     omega
   subst hpr
   have e5:-r*r=-(r*r):=Int.neg_mul ..
   have e6:-r * -r=r*r:=by grind
   have hr1:r*r=1:=by
    rw[e5,e6]at hq1
    omega
   have hb:b=a:=by
    rw[e5,e6,hr1]at e1
    omega
   subst hb
   have hd:-r*s-q*r=1:=d
   have f1:b*(2*(-r*q)+(-r*s+q*r)+2*(r*s))=b*1:=by
    have:2*b * -r*q+b*(-r*s+q*r)+2*b*r*s=b*(2*(-r*q)+(-r*s+q*r)+2*(r*s)):=by grind
    omega
   have f2:=Int.eq_of_mul_eq_mul_left (show b≠0 by omega) f1
   have f3:-r*q=-(r*q):=Int.neg_mul ..
   have f4:-r*s=-(r*s):=Int.neg_mul ..
   have f5:q*r=r*q:=Int.mul_comm ..
   rw[f3,f4,f5]at f2
   rw[f4,f5]at hd
   have hs:r*s=0:=by omega
   have hq:r*q=-1:=by omega
   have hs:s=0:=(Int.mul_eq_zero.mp hs).resolve_left hr
   subst hs
   have:r * -q=1:=by
    have:r * -q=-(r*q):=Int.mul_neg ..
    omega
   rcases Gu this with⟨rfl,z⟩|⟨rfl,z⟩
   ·have:q=-1:=by omega
    subst this
    unfold Dj;rw[if_neg (by dsimp only;omega),if_pos ⟨rfl,rfl⟩];simp
   ·have:q=1:=by omega
    subst this
    unfold Dj;rw[if_neg (by dsimp only;omega),if_pos ⟨rfl,rfl⟩];simp
def XJ{α:Type}[DecidableEq α]:∀{l m:List α},l.Nodup→(∀x∈l,x∈m)→l.length≤m.length
 | [],_,_,_=>Nat.zero_le _
 | x::l,m,h,hs=>by
  obtain⟨h1,h2⟩:=List.nodup_cons.mp h
  have hx:=hs x List.mem_cons_self
  have:=XJ (l:=l) (m:=m.erase x) h2 fun y hy=>(List.mem_erase_of_ne fun z=>h1 (by rw[←z];exact hy)).mpr (hs y (List.mem_cons_of_mem _ hy))
  rw[List.length_erase_of_mem hx]at this
  have:=List.length_pos_of_mem hx
  rw[List.length_cons]
  omega
def KZ(D y:Nat):Nat→List Nat
 |0=>[]
 |s+1=>(s*s+D*(y*y))::KZ D y s
def Ue(D S:Nat):Nat→List Nat
 |0=>[]
 |y+1=>KZ D y S++Ue D S y
def gck(S Y K:Nat):List Nat→Bool
 | []=>true
 |D::ds=>ck 15 K (K1 (Ue D S Y))&&gck S Y K ds
set_option maxRecDepth 1000000 in
theorem Apa:gck 41 24 1601 [3,4,5,6,7,8,9,10,11]=true:=by decide +kernel
set_option maxRecDepth 1000000 in
theorem Aoo:gck 57 17 3201 [12,13,14,15,16,17,18,19,20,21,22,23]=true:=by decide +kernel
set_option maxRecDepth 1000000 in
theorem AoK:gck 70 14 4801 [27,28,29,30,31,32,33,34,35]=true:=by decide +kernel
def Uh{S Y K:Nat}:∀{ds:List Nat} {D:Nat},gck S Y K ds=true→D∈ds→ck 15 K (K1 (Ue D S Y))=true
 | [],_,_,h=>by cases h
 | d::ds,D,h,hm=>by
  unfold gck at h
  rw[Bool.and_eq_true]at h
  rcases List.mem_cons.mp hm with rfl|hm
  ·exact h.1
  ·exact Uh h.2 hm
def Oo(D y:Nat):∀S,(KZ D y S).length=S
 |0=>rfl
 |S+1=>by rw[KZ,List.length_cons,Oo D y S]
def W9(D S:Nat):∀Y,(Ue D S Y).length=Y*S
 |0=>by rw[Nat.zero_mul];rfl
 |Y+1=>by rw[Ue,List.length_append,Oo,W9 D S Y,Nat.succ_mul];omega
def LK(D y c:Nat):Nat→List (Nat×Nat)
 |0=>[]
 |s+1=>if s*s+D*(y*y)=c then(s,y)::LK D y c s else LK D y c s
def Lp(D S c:Nat):Nat→List (Nat×Nat)
 |0=>[]
 |y+1=>LK D y c S++Lp D S c y
def Le(D y c:Nat):∀S,(LK D y c S).length=(KZ D y S).count c
 |0=>rfl
 | S+1=>by
  rw[LK,KZ,List.count_cons]
  by_cases h:S*S+D*(y*y)=c
  ·rw[if_pos h,List.length_cons,Le D y c S];simp[h]
  ·rw[if_neg h,Le D y c S];simp[h]
def Ra(D S c:Nat):∀Y,(Lp D S c Y).length=(Ue D S Y).count c
 |0=>rfl
 |Y+1=>by rw[Lp,Ue,List.length_append,List.count_append,Le,Ra D S c Y]
def Rv{D y c s:Nat}:∀{S},s<S→s*s+D*(y*y)=c→(s,y)∈LK D y c S
 |0,h,_=>by omega
 | S+1,h,e=>by
  rw[LK]
  by_cases z:s=S
  ·subst z;rw[if_pos e];exact List.mem_cons_self
  ·have:=Rv (S:=S) (by omega) e
   split
   ·exact List.mem_cons_of_mem _ this
   ·exact this
def QW{D S c s y:Nat}:∀{Y},s<S→y<Y→s*s+D*(y*y)=c→(s,y)∈Lp D S c Y
 |0,_,h,_=>by omega
 | Y+1,hs,hy,e=>by
  rw[Lp,List.mem_append]
  by_cases z:y=Y
  ·subst z;exact .inl (Rv hs e)
  ·exact .inr (QW hs (by omega) e)
def Abq{D S Y K c:Nat}(h:ck 15 K (K1 (Ue D S Y))=true)(hl:Y*S<1024)(hc:c<K):(Lp D S c Y).length≤15:=by
 rw[Ra]
 exact Q5 K _ (by rw[W9];exact hl) h c hc
def LC(a b s y:Int):I2:=((s-b*y) / (2*a),y)
def AgS{a b x y:Int}(h:0<a):LC a b (2*a*x+b*y) y=(x,y):=by
 unfold LC
 have:2*a*x+b*y-b*y=2*a*x:=by omega
 rw[this,Int.mul_ediv_cancel_left _ (by omega)]
def AgO{g:I3}{x y n:Int}(h:val g (x,y)=n):(2*g.1*x+g.2.1*y)*(2*g.1*x+g.2.1*y) + -(meas g)*(y*y)=4*g.1*n:=by
 rw[←h]
 simp only[val,meas]
 grind
def AbR{x m:Nat}(h:x*x<m*m):x<m:=by
 rcases Nat.lt_or_ge x m with z|z
 ·exact z
 ·have:=Nat.mul_le_mul z z
  omega
def AbJ{g:I3}{n:Int}{l:List I2}(L:Ds g)(n1:1≤n)(n4:n≤400)(nd:l.Nodup)(hv:∀p∈l,val g p=n):l.length<64:=by
 obtain⟨a,b,c⟩:=g
 obtain⟨h0,h1,h2,h3,_⟩:=id L
 simp only at h0 h1 h2 h3
 obtain⟨D,hD⟩:∃D:Nat,(D:Int)=-(meas (a,b,c)):=⟨(-(meas (a,b,c))).toNat,by have:=L.bowl.2;omega⟩
 obtain⟨A,hA⟩:∃A:Nat,(A:Int)=a:=⟨a.toNat,by omega⟩
 obtain⟨N,hN⟩:∃N:Nat,(N:Int)=n:=⟨n.toNat,by omega⟩
 have hDe:(D:Int)=4*a*c-b*b:=by rw[hD];simp only[meas];omega
 have hbb:b*b≤a*a:=by
  have:(b.natAbs:Int)*b.natAbs≤(a.natAbs:Int)*a.natAbs:=Int.mul_le_mul (by omega) (by omega) (by omega) (by omega)
  rw[Int.natAbs_mul_self',Int.natAbs_mul_self']at this
  exact this
 have hac:a*a≤a*c:=Int.mul_le_mul_of_nonneg_left h3 (by omega)
 have hD3:3*(A*A)≤D:=by
  have:4*a*c=4*(a*c):=by grind
  have:(3*(A*A):Int)≤D:=by rw[hA];omega
  exact_mod_cast this
 have A1:1≤A:=by omega
 have N4:N≤400:=by omega
 have key:∀p∈l,∃S Y:Nat,S*S+D*(Y*Y)=4*A*N∧S=(2*a*p.1+b*p.2).natAbs∧Y=p.2.natAbs∧p=LC a b (2*a*p.1+b*p.2) p.2:=fun p hp=>by
  have e:=AgO (hv p hp)
  dsimp only at e
  rw[←hD]at e
  refine⟨_,_,?_,rfl,rfl,(AgS h0).symm⟩
  have:(((2*a*p.1+b*p.2).natAbs*(2*a*p.1+b*p.2).natAbs+D*(p.2.natAbs*p.2.natAbs):Nat):Int)=((4*A*N:Nat):Int):=by
   push_cast
   rw[Int.natAbs_mul_self',Int.natAbs_mul_self',hA,hN]
   exact e
  exact_mod_cast this
 by_cases hbig:12*A≤D
 ·
  have hY:∀p∈l,p.2.natAbs≤11:=fun p hp=>by
   obtain⟨S,Y,e,_,hy,_⟩:=key p hp
   rw[←hy]
   have:Y<12:=by
    rcases Nat.lt_or_ge Y 12 with z|z
    ·exact z
    ·exfalso
     have z1:144≤Y*Y:=Nat.mul_le_mul z z
     have z2:12*A*144≤D*(Y*Y):=Nat.mul_le_mul hbig z1
     have z3:4*A*N≤4*A*400:=Nat.mul_le_mul_left _ N4
     have z4:12*A*144=1728*A:=by omega
     have z5:4*A*400=1600*A:=by omega
     omega
   omega
  have side:∀y:Int,∃s:Nat,∀p∈l,p.2=y→(2*a*p.1+b*p.2).natAbs=s:=fun y=>by
   by_cases h:∃p∈l,p.2=y
   ·obtain⟨p,hp,rfl⟩:=h
    refine⟨(2*a*p.1+b*p.2).natAbs,fun q hq e=>?_⟩
    obtain⟨S,Y,e1,rfl,rfl,_⟩:=key p hp
    obtain⟨S',Y',e2,rfl,rfl,_⟩:=key q hq
    rw[e]at e2 ⊢
    have:(2*a*q.1+b*p.2).natAbs*(2*a*q.1+b*p.2).natAbs=(2*a*p.1+b*p.2).natAbs*(2*a*p.1+b*p.2).natAbs:=by omega
    exact Nat.mul_self_inj.mp this
   ·exact⟨0,fun p hp e=>absurd ⟨p,hp,e⟩ h⟩
  let sd:Int→Nat:=fun y=>Classical.choose (side y)
  have hsd:∀p∈l,(2*a*p.1+b*p.2).natAbs=sd p.2:=fun p hp=>Classical.choose_spec (side p.2) p hp rfl
  have sub:∀p∈l,p∈(List.range 23).flatMap fun i:Nat=>[LC a b (sd ((i:Int)-11)) ((i:Int)-11),LC a b (-(sd ((i:Int)-11):Int)) ((i:Int)-11)]:=fun p hp=>by
   have h:=hY p hp
   obtain⟨_,_,_,_,_,e⟩:=key p hp
   refine List.mem_flatMap.mpr ⟨(p.2+11).toNat,List.mem_range.mpr (by omega),?_⟩
   have ei:(((p.2+11).toNat:Nat):Int)-11=p.2:=by omega
   rw[ei]
   have hs:=hsd p hp
   rcases Int.natAbs_eq (2*a*p.1+b*p.2)with z|z
   ·rw[hs]at z
    rw[z]at e
    rw[←e]
    exact List.mem_cons_self
   ·rw[hs]at z
    rw[z]at e
    rw[←e]
    exact List.mem_cons_of_mem _ List.mem_cons_self
  have:=XJ nd sub
  have e:((List.range 23).flatMap fun i:Nat=>[LC a b (sd ((i:Int)-11)) ((i:Int)-11),LC a b (-(sd ((i:Int)-11):Int)) ((i:Int)-11)]).length=46:=rfl
  omega
 ·have A3:A≤3:=by
   rcases Nat.lt_or_ge 3 A with z|z
   ·have:A*4≤A*A:=Nat.mul_le_mul_left _ z
    omega
   ·exact z
  have fin:∀S Y K:Nat,ck 15 K (K1 (Ue D S Y))=true→Y*S<1024→4*A*N<K→1600*A<S*S→1600*A<D*(Y*Y)→l.length<64:=fun S Y K hck hl hK hS hY=>by
   have few:=Abq (c:=4*A*N) hck hl hK
   have top:4*A*N≤1600*A:=by
    have:4*A*N≤4*A*400:=Nat.mul_le_mul_left _ N4
    omega
   have sub:∀p∈l,p∈(Lp D S (4*A*N) Y).flatMap fun q=>[LC a b q.1 q.2,LC a b (-(q.1:Int)) q.2,LC a b q.1 (-(q.2:Int)),LC a b (-(q.1:Int)) (-(q.2:Int))]:=fun p hp=>by
    obtain⟨s,y,e1,es,ey,e⟩:=key p hp
    have hs:s<S:=AbR (by omega)
    have hy:y<Y:=by
     rcases Nat.lt_or_ge y Y with z|z
     ·exact z
     ·have:=Nat.mul_le_mul_left D (Nat.mul_le_mul z z)
      omega
    refine List.mem_flatMap.mpr ⟨(s,y),QW hs hy e1,?_⟩
    rcases Int.natAbs_eq (2*a*p.1+b*p.2)with z|z<;>rcases Int.natAbs_eq p.2 with w|w<;>rw[←es]at z<;>rw[←ey]at w<;>rw[z]at e<;>(have e':=e;conv at e'=>rhs;rw[w])<;>rw[e']<;>simp
   have:=XJ nd sub
   have hlen:∀ps:List (Nat×Nat),(ps.flatMap fun q=>[LC a b q.1 q.2,LC a b (-(q.1:Int)) q.2,LC a b q.1 (-(q.2:Int)),LC a b (-(q.1:Int)) (-(q.2:Int))]).length=4*ps.length:=fun ps=>by
    induction ps with
    |nil=>rfl
    |cons q ps ih=>rw[List.flatMap_cons,List.length_append,ih,List.length_cons];simp only[List.length_cons,List.length_nil];omega
   rw[hlen]at this
   omega
  have hA':A=1∨A=2∨A=3:=by omega
  rcases hA' with rfl|rfl|rfl
  ·refine fin 41 24 1601 (Uh Apa (?_)) (by decide) (by omega) (by decide) (by omega)
   simp only[List.mem_cons,List.not_mem_nil,or_false]
   omega
  ·refine fin 57 17 3201 (Uh Aoo (?_)) (by decide) (by omega) (by decide) (by omega)
   simp only[List.mem_cons,List.not_mem_nil,or_false]
   omega
  ·refine fin 70 14 4801 (Uh AoK (?_)) (by decide) (by omega) (by decide) (by omega)
   simp only[List.mem_cons,List.not_mem_nil,or_false]
   omega
def Qs{u:I4}:Ao (Ao u)=u:=by
 obtain⟨p,q,r,s⟩:=u
 simp[Ao]
def Adb{f:I3}{u:I4}{n:Int}{l:List I2}(du:det u=1)(L:Ds (mov f u))(n1:1≤n)(n4:n≤400)(nd:l.Nodup)(hv:∀p∈l,val f p=n):l.length<64:=by
 have inv:∀p,Ez u (Ez (Ao u) p)=p:=fun p=>by
  have:=Qz (t:=Ao u) (p:=p) (by rw[CP];exact du)
  rw[Qs]at this
  exact this
 have:=AbJ (l:=l.map (Ez (Ao u))) L n1 n4 (by
  unfold List.Nodup at *
  rw[List.pairwise_map]
  exact nd.imp fun{a b} h z=>h (by rw[←inv a,z,inv])) fun p hp=>by
   obtain⟨q,hq,rfl⟩:=List.mem_map.mp hp
   rw[AaM,inv]
   exact hv q hq
 rw[List.length_map]at this
 exact this
end My
namespace My
open PySem L2
local macro_rules | `(tactic| walk_at "sc") => `(tactic| (exact ⟨rfl, rfl, rfl, by decide +kernel, rfl, by decide +kernel, by decide +kernel⟩))
local macro_rules | `(tactic| walk_at "lE") => `(tactic| (exact fun ds Q ⟨p, e, _⟩ => by rw [e]; rfl))
local macro_rules | `(tactic| walk_at "b1") => `(tactic| (intro _ _ _ _ _ _ us hl; exact match us, hl with | [_], _ => rfl))
local macro_rules | `(tactic| walk_at "b2") => `(tactic| (intro _ _ _ _ _ _ us hl; exact match us, hl with | [_, _], _ => rfl))
local macro_rules | `(tactic| walk_at "b3") => `(tactic| (intro _ _ _ _ _ _ us hl; exact match us, hl with | [_, _, _], _ => rfl))
local macro_rules | `(tactic| walk_at "b4") => `(tactic| (intro _ _ _ _ _ _ us hl; exact match us, hl with | [_, _, _, _], _ => rfl))
local macro_rules | `(tactic| walk_at "b5") => `(tactic| (intro _ _ _ _ _ _ us hl; exact match us, hl with | [_, _, _, _, _], _ => rfl))
local macro_rules | `(tactic| walk_at "rd1") => `(tactic| dsimp only [Aka, Aln, Wt, Aij, dIf, AdP, Aif, Aft, Ri, AaW, AaI, AcO, Aa0, Vg, AmD, Amf, AmK, dIn, dOp, dUn, Abm, dC, dIx, Aoc, Apc, Apv, AoW, Aod, AoN, Aop, Ao7, Ang, Amx, AlS, Am8, AlZ, AmJ, AkT, Aoj, dI, dI0, dB0, dLt, dLe, dGt, dGe, dEq, dNe, dIs, AoY, Am3, dOr, Afm, RL, Ah8, AhH, AkY, An8, Al2, AhT, dTup, AnI, dCall, dCB, AoM, Ad2, Ady, AoB, Amc, Aou, Ajs, Aaq, Aib, QT, ZJ, Ka, inner, AhP, Amg, Ace, Adv, AiD, AhE, dOf, AhJ, AaR, AhZ, Aki, AcU, Ac9, Aic, Am2, AcB, AhY, AhD, AeG, Aeg, Ak0, Ju, AeU, W4, AnE, Ah4, Aii, Alb, Aot, Am7, AhN, Alw, AkZ, ownAt, AmY, AkG, Aio, Ai7, AcY, Aiy, AeF, Qk, AhV, Ao8, AcR, AcM, AeI, AhU, Al1, ZM, Aig, AoP, AdB, Z1, XD, Y5, AhK, isLT,
 List.length_cons,List.length_nil,List.getElem?_cons_zero,List.getElem?_cons_succ,List.set_cons_zero,List.set_cons_succ,Nat.reduceAdd,List.map_cons,List.map_nil,Option.join_some])
local macro_rules | `(tactic| walk_at "rd2") => `(tactic| simp only [An4, AmS, Alc, Ann, Akv, Amy, AnQ, Al0, Anv, Ant, AlH, Apd, Aps, AoO, Apj, Apn, Aoe, Aj3, Aj5, AjF, Ait, Akh, Akn, Ajj, AjB, AjI, AiQ, Ot, SX, Hz, Alp, An0, Ak2, Amp, Qo, RB, Hv, HB, Akj, AiF, Iu, N8, Air, Vd, Jy, Aad, AgN, AgR, Hl, Hi, if_true, if_false, Bool.and_true, Bool.true_and, Bool.false_and, Bool.and_false, Bool.not_true, Bool.not_false, Bool.false_eq_true, true_and, and_true, ite_true, ite_false, List.length_map])
local macro_rules | `(tactic| walk_at "rd") => `(tactic| ((try walk_at "rd1"); (try walk_at "rd2")))
local macro_rules | `(tactic| walk_at "go") => `(tactic| ((try simp only [Aef, AeJ, Aeb]); walk_at "rd"))
local macro_rules | `(tactic| walk_at "bts") => `(tactic| first | assumption | (with_reducible apply Bt.mul<;>walk_at "bts") | (with_reducible apply Bt.add<;>walk_at "bts") | (with_reducible apply Bt.sub<;>walk_at "bts") | (with_reducible apply Bt.neg<;>walk_at "bts") | exact Bt.aK (n := 1) (by decide) | exact Bt.aK (n := 8) (by decide) | exact Bt.aK (n := 400) (by decide))
local macro_rules | `(tactic| walk_at "bt") => `(tactic| exact Bt.le (by walk_at "bts") (by decide))
local macro_rules | `(tactic| walk_at "mul") => `(tactic| exact Bt.aY (by walk_at "bts") (by walk_at "bts") (by decide) (by decide))
local macro_rules | `(tactic| walk_at "muls") => `(tactic| repeat (refine ⟨by first | walk_at "mul" | exact Am (by decide) | decide | exact ⟨by decide, by decide⟩, ?_⟩))
def top(i:Nat):Stmt:=PySem.Challenge.pw_formcycle_k55_no_answers.main.body.getD i (.Pass ⟨0,0,0,0⟩)
abbrev Jh:Stmt:=top 15
theorem Ht:Aq ["one","other","row","lower","rest"] ["one","other"] (Af Jh):=by walk_at "sc"
abbrev Ge:Stmt:=top 16
theorem V3:Aq ["row","lower","often"] ["row","lower","often"] (Af Ge):=by walk_at "sc"
abbrev Jw:Stmt:=top 17
theorem Mx:Aq ["number","guess","better"] ["number"] (Af Jw):=by walk_at "sc"
abbrev Fo:Stmt:=top 18
theorem Nb:Aq ["number","side"] ["number"] (Af Fo):=by walk_at "sc"
abbrev CG:Stmt:=top 19
theorem Nr:Aq ["number","most"] ["number","most"] (Af CG):=by walk_at "sc"
abbrev Cv:Stmt:=top 20
theorem Pa:Aq ["number","most"] ["number","most"] (Af Cv):=by walk_at "sc"
abbrev Hq:Stmt:=top 23
theorem Ys:Aq ["turn"] ["turn"] (Af Hq):=by walk_at "sc"
abbrev CN:Stmt:=top 24
theorem R7:Aq ["turn"] ["turn"] (Af CN):=by walk_at "sc"
abbrev S9:Stmt:=top 25
theorem AjN:Aq ["turn","point"] ["turn","point"] (Af S9):=by walk_at "sc"
abbrev Bv:Stmt:=top 26
theorem RX:Aq ["one","other"] ["one","other"] (Af Bv):=by walk_at "sc"
abbrev Ko:Stmt:=top 27
theorem AgH:Aq ["turn"] ["turn"] (Af Ko):=by walk_at "sc"
abbrev Dh:Stmt:=top 29
theorem XM:Aq ["form"] ["form"] (Af Dh):=by walk_at "sc"
abbrev Jx:Stmt:=top 30
theorem QB:Aq ["form","point","x","y"] ["form","point"] (Af Jx):=by walk_at "sc"
abbrev G8:Stmt:=top 31
theorem Ql:Aq ["form","turn","left","right"] ["form","turn"] (Af G8):=by walk_at "sc"
abbrev Jq:Stmt:=top 32
theorem Tf:Aq ["form","left","right","crossed"] ["form","left","right"] (Af Jq):=by walk_at "sc"
abbrev Hg:Stmt:=top 33
theorem WD:Aq ["form","number"] ["form"] (Af Hg):=by walk_at "sc"
abbrev Cp:Stmt:=top 35
theorem RW:Aq ["form"] ["form"] (Af Cp):=by walk_at "sc"
abbrev Dg:Stmt:=top 36
theorem Fe:Aq ["form","a","b","c"] ["form"] (Af Dg):=by walk_at "sc"
abbrev Gg:Stmt:=top 37
theorem Ig:Aq ["form","turn","lowering"] ["form"] (Af Gg):=by walk_at "sc"
abbrev Eu:Stmt:=top 38
theorem K5:Aq ["form","often"] ["form"] (Af Eu):=by walk_at "sc"
abbrev Ep:Stmt:=top 39
theorem Hf:Aq ["form","lowest","there","home"] ["form"] (Af Ep):=by walk_at "sc"
abbrev Cu:Stmt:=top 40
theorem CQ:Aq ["form","turning","turns","came"] ["form"] (Af Cu):=by walk_at "sc"
abbrev Ca:Stmt:=top 41
theorem K4:Aq ["form"] ["form"] (Af Ca):=by walk_at "sc"
abbrev BW:Stmt:=top 44
theorem OD:Aq ["form"] ["form"] (Af BW):=by walk_at "sc"
abbrev Dr:Stmt:=top 45
theorem JR:Aq ["form","far","b"] ["form","far"] (Af Dr):=by walk_at "sc"
abbrev DX:Stmt:=top 46
theorem FJ:Aq ["form","top","b","c","d"] ["form","top"] (Af DX):=by walk_at "sc"
abbrev CZ:Stmt:=top 47
theorem J3:Aq ["stop","top","turn"] ["stop","top"] (Af CZ):=by walk_at "sc"
abbrev KC:Stmt:=top 48
theorem Nj:Aq ["form","far","stop"] ["form"] (Af KC):=by walk_at "sc"
abbrev DY:Stmt:=top 49
theorem Dm:Aq ["form","far","first","stops","stop"] ["form"] (Af DY):=by walk_at "sc"
abbrev Hu:Stmt:=top 50
theorem Yl:Aq ["form"] ["form"] (Af Hu):=by walk_at "sc"
abbrev DK:Stmt:=top 55
theorem Wk:Aq ["form"] ["form"] (Af DK):=by walk_at "sc"
abbrev DR:Stmt:=top 56
theorem QG:Aq ["one","other"] ["one","other"] (Af DR):=by walk_at "sc"
abbrev Gv:Stmt:=top 59
theorem AdS:Aq ["form","number"] ["form","number"] (Af Gv):=by walk_at "sc"
abbrev Dy:Stmt:=top 60
theorem Ft:Aq ["form","number","whole","found","g","foot","turn"] ["form","number"] (Af Dy):=by walk_at "sc"
abbrev Bh:Stmt:=top 61
theorem Hh:Aq ["number"] ["number"] (Af Bh):=by walk_at "sc"
abbrev Ku:Stmt:=top 62
theorem Aas:Aq ["first","far","middles"] ["first","far"] (Af Ku):=by walk_at "sc"
abbrev Ia:Stmt:=top 63
theorem KY:Aq ["form","number","point","found","turn","place"] ["form","number","point"] (Af Ia):=by walk_at "sc"
abbrev Dk:Stmt:=top 64
theorem Ck:Aq ["form","point","common","g","turn","stands","twice","often"] ["form","point"] (Af Dk):=by walk_at "sc"
abbrev BR:Stmt:=top 65
theorem FQ:Aq ["form","number","tops","found","turn"] ["form","number"] (Af BR):=by walk_at "sc"
abbrev Fv:Stmt:=top 67
theorem DN:Aq ["_law_way","_law_form","_law_number","_law_point","_law_told_here","e"] ["_law_way","_law_form","_law_number","_law_point"] (Af Fv):=by walk_at "sc"
abbrev Es:Stmt:=top 68
theorem Gq:Aq ["_law_told_here","_law_found","_law_others"] ["_law_told_here"] (Af Es):=by walk_at "sc"
abbrev Er:Stmt:=top 69
theorem U5:Aq ["_law_told_here","_law_due_here","_law_field"] ["_law_told_here","_law_due_here","_law_field"] (Af Er):=by walk_at "sc"
abbrev Gi:Stmt:=top 70
theorem Io:Aq ["_law_way","_law_kind","_law_form","_law_number","_law_point","_law_x","_law_y","_law_taken"] ["_law_way","_law_kind","_law_form","_law_number","_law_point"] (Af Gi):=by walk_at "sc"
abbrev Nk:Stmt:=top 71
theorem GD:Aq ["_law_script","_law_cell","_law_far","_law_kind","_law_flat","_law_wide","_law_form","_law_number","_law_point","_law_due_here","_law_field"] ["_law_script"] (Af Nk):=by walk_at "sc"
abbrev Gm:Stmt:=inClass (top 4) 0
theorem W6:Aq ["self","form"] ["self","form"] (Af Gm):=by walk_at "sc"
abbrev Fp:Stmt:=inClass (top 5) 0
theorem U0:Aq ["self","number","most"] ["self","number","most"] (Af Fp):=by walk_at "sc"
abbrev Fq:Stmt:=inClass (top 13) 0
theorem U7:Aq ["self","point"] ["self","point"] (Af Fq):=by walk_at "sc"
abbrev Je:Stmt:=inClass (top 52) 0
theorem AbX:Aq ["self","form","lowest"] ["self","form","lowest"] (Af Je):=by walk_at "sc"
abbrev KR:Stmt:=inClass (top 53) 0
theorem AcP:Aq ["self","form"] ["self","form"] (Af KR):=by walk_at "sc"
abbrev Ho:Stmt:=inClass (top 54) 0
theorem YF:Aq ["self","form"] ["self","form"] (Af Ho):=by walk_at "sc"
abbrev Hs:Stmt:=inClass (top 52) 3
theorem Xh:Aq ["self","other"] ["self","other"] (Af Hs):=by walk_at "sc"
structure Txt(K:W.Frag)(mg:Str→Option Value):Prop where
 uP:∃C U,XT K mg "Nought" C (.ref U::bmV)∧XC K C U
 gq:Under K mg "Nought" "FormError"
 uQ:∃C U fI fd,XRT K mg "NoShape" ["form"] "NoShape.__init__" Gm C U fI fd ["self","form"]
 fK:Under K mg "NoShape" "FormError"
 aU:HD K "NoShape" "form"
 rm:∃C U fI fd,XRT K mg "TooGreat" ["number","most"] "TooGreat.__init__" Fp C U fI fd ["self","number","most"]
 d8:Under K mg "TooGreat" "FormError"
 aF:HD K "TooGreat" "number"
 aL:HD K "TooGreat" "most"
 rz:∃C U fI fd,XRT K mg "NoAnswer" ["point"] "NoAnswer.__init__" Fq C U fI fd ["self","point"]
 d9:Under K mg "NoAnswer" "FormError"
 aO:HD K "NoAnswer" "point"
 abp:∃C f fd,MkC K mg "Bowl" ["form","measure","lowest"] C f∧Fun K "__init__" "Bowl.__init__" KR f fd∧Binds K fd ["self","form"] []
 abU:IsC K "Bowl"
 vq:HD K "Bowl" "form"
 jr:HD K "Bowl" "measure"
 jz:HD K "Bowl" "lowest"
 wU:∃C f fd,MkC K mg "Saddle" ["form","measure","lowest"] C f∧Fun K "__init__" "Saddle.__init__" Ho f fd∧Binds K fd ["self","form"] []
 aaI:IsC K "Saddle"
 rA:HD K "Saddle" "form"
 iC:HD K "Saddle" "measure"
 iT:HD K "Saddle" "lowest"
 wV:∃g fd,WT K mg "Shape" "__init__" g∧Fun K "__init__" "Shape.__init__" Je g fd∧Binds K fd ["self","form","lowest"] []
 uR:∃g fd,(∀c∈(["Bowl","Saddle"]:List Str),Z0 K c "way_to" g)∧W.keepIn K (.ref g)=true∧Fun K "way_to" "Shape.way_to" Hs g fd∧Binds K fd ["self","other"] []
 iD:∃U,XU K mg "FormError" U
 aay:∃A,mg "Apart"=some (.ref A)∧Bg K "NoShape" A false∧Bg K "TooGreat" A false∧Bg K "NoAnswer" A false∧Bg K "Nought" A false
 qD:∃A,mg "NoMeasure"=some (.ref A)∧Bg K "NoShape" A false∧Bg K "TooGreat" A false∧Bg K "NoAnswer" A false∧Bg K "Nought" A false
 wW:∃A,mg "NoRoot"=some (.ref A)∧Bg K "NoShape" A false∧Bg K "TooGreat" A false∧Bg K "NoAnswer" A false∧Bg K "Nought" A false
 wX:∃A,mg "NoTurn"=some (.ref A)∧Bg K "NoShape" A false∧Bg K "TooGreat" A false∧Bg K "NoAnswer" A false∧Bg K "Nought" A false
 rB:∃A,mg "NotLevel"=some (.ref A)∧Bg K "NoShape" A false∧Bg K "TooGreat" A false∧Bg K "NoAnswer" A false∧Bg K "Nought" A false
 wY:∃A,mg "NotOwn"=some (.ref A)∧Bg K "NoShape" A false∧Bg K "TooGreat" A false∧Bg K "NoAnswer" A false∧Bg K "Nought" A false
 rC:∃A,mg "NotPlain"=some (.ref A)∧Bg K "NoShape" A false∧Bg K "TooGreat" A false∧Bg K "NoAnswer" A false∧Bg K "Nought" A false
 uT:∃A,mg "NoShape"=some (.ref A)∧Bg K "NoShape" A true∧Bg K "TooGreat" A false∧Bg K "NoAnswer" A false∧Bg K "Nought" A false
 rD:∃A,mg "TooGreat"=some (.ref A)∧Bg K "NoShape" A false∧Bg K "TooGreat" A true∧Bg K "NoAnswer" A false∧Bg K "Nought" A false
 wZ:∃A,mg "Nought"=some (.ref A)∧Bg K "NoShape" A false∧Bg K "TooGreat" A false∧Bg K "NoAnswer" A false∧Bg K "Nought" A true
 rE:∃A,mg "NoAnswer"=some (.ref A)∧Bg K "NoShape" A false∧Bg K "TooGreat" A false∧Bg K "NoAnswer" A true∧Bg K "Nought" A false
 bR:mg "ValueError"=none
 w5:∃f fd,FnT K mg "shares" Jh ["one","other"] f fd
 rG:∃f fd,FnT K mg "row_less" Ge ["row","lower","often"] f fd
 abq:∃f fd,FnT K mg "root" Jw ["number"] f fd
 qF:∃f fd,FnT K mg "is_square" Fo ["number"] f fd
 jt:∃f fd,FnT K mg "check_at_most" CG ["number","most"] f fd
 jA:∃f fd,FnT K mg "check_within" Cv ["number","most"] f fd
 uU:∃f fd,FnT K mg "is_turn" Hq ["turn"] f fd
 oA:∃f fd,FnT K mg "check_turn" CN ["turn"] f fd
 ab3:∃f fd,FnT K mg "led" S9 ["turn","point"] f fd
 oE:∃f fd,FnT K mg "put_behind" Bv ["one","other"] f fd
 abr:∃f fd,FnT K mg "back" Ko ["turn"] f fd
 uV:∃f fd,FnT K mg "measure" Dh ["form"] f fd
 aaz:∃f fd,FnT K mg "value" Jx ["form","point"] f fd
 aaA:∃f fd,FnT K mg "moved" G8 ["form","turn"] f fd
 w6:∃f fd,FnT K mg "middle" Jq ["form","left","right"] f fd
 aaB:∃f fd,FnT K mg "shape" Hg ["form"] f fd
 oF:∃f fd,FnT K mg "check_bowl" Cp ["form"] f fd
 jB:∃f fd,FnT K mg "stands_least" Dg ["form"] f fd
 uW:∃f fd,FnT K mg "settled" Gg ["form"] f fd
 oG:∃f fd,FnT K mg "turn_lower" Eu ["form"] f fd
 qG:∃f fd,FnT K mg "own_turns" Ep ["form"] f fd
 iU:∃f fd,FnT K mg "turns_of_least" Cu ["form"] f fd
 gU:∃f fd,FnT K mg "turning_of_least" Ca ["form"] f fd
 jC:∃f fd,FnT K mg "check_saddle" BW ["form"] f fd
 jD:∃f fd,FnT K mg "stands_level" Dr ["form","far"] f fd
 lX:∃f fd,FnT K mg "turn_behind" DX ["form","top"] f fd
 lY:∃f fd,FnT K mg "stop_behind" CZ ["stop","top"] f fd
 aaC:∃f fd,FnT K mg "eased" KC ["form"] f fd
 lZ:∃f fd,FnT K mg "stops_round" DY ["form"] f fd
 uX:∃f fd,FnT K mg "lowered" Hu ["form"] f fd
 rH:∃f fd,FnT K mg "shape_of" DK ["form"] f fd
 mj:∃f fd,FnT K mg "way_between" DR ["one","other"] f fd
 aaD:∃f fd,FnT K mg "heads" Gv ["form","number"] f fd
 rJ:∃f fd,FnT K mg "families" Dy ["form","number"] f fd
 bM:∃f fd,FnT K mg "roots_of_square_divisors" Bh ["number"] f fd
 abt:∃f fd,FnT K mg "feet" Ku ["first","far"] f fd
 xg:∃f fd,FnT K mg "whence" Ia ["form","number","point"] f fd
 jE:∃f fd,FnT K mg "turn_to_foot" Dk ["form","point"] f fd
 mq:∃f fd,FnT K mg "all_answers" BR ["form","number"] f fd
 qH:∃f fd,FnT K mg "_law_told" Fv ["_law_way","_law_form","_law_number","_law_point"] f fd
 oH:∃f fd,FnT K mg "_law_kinds" Es ["_law_told_here"] f fd
 qI:∃f fd,FnT K mg "_law_good" Er ["_law_told_here","_law_due_here","_law_field"] f fd
 rK:∃f fd,FnT K mg "_law_due" Gi ["_law_way","_law_kind","_law_form","_law_number","_law_point"] f fd
 ab4:∃f fd,FnT K mg "law" Nk ["_law_script"] f fd
 dj:∃t,mg "MOST_MEASURE"=some (.int (4000) t)
 aX:∃t,mg "MOST_NUMBER"=some (.int (400) t)
 iV:mg "abs"=none
 aD:mg "isinstance"=none
 pq:mg "list"=none
 uY:mg "max"=none
 uZ:mg "min"=none
 iG:mg "range"=none
 fL:mg "sorted"=none
 lB:mg "tuple"=none
 vA:∃a,mg "SAME"=some (.ref a)∧∀H,Rp K H (.tup [.int (1),.int (0),.int (0),.int (1)]) (.ref a)
def Tr{P:Program}{w:World}{K:W.Frag}{mg:Str→Option Value}{base:Heap}(T:Txt K mg):∃C U fI fd,XR P w K mg base 1 "NoShape" ["form"] C U fI fd ["self","form"]:=by
 obtain⟨C,U,fI,fd,R⟩:=T.uQ
 refine⟨C,U,fI,fd,XRT.mk1 R (R.fn.ok W6 (fun vs H Q E ⟨a,ys,e,l,_⟩=>by rw[e];simpa using l) fun cdv A outer s H vs Q E hr ⟨a,ys,e,l,ha,q⟩=>?_)⟩
 subst e
 obtain⟨y,rfl⟩:∃y,ys=[y]:=List.length_eq_one_iff.mp l
 exact⟨_,Ih (Acz R.xc (R.tk _ (by simp)) (pv 0) (pv 1)),y,rfl,.ref a,rfl,a,rfl,ha,fun dx h1 h2=>q dx h1 h2⟩
def QS{P:Program}{w:World}{K:W.Frag}{mg:Str→Option Value}{base:Heap}(T:Txt K mg):∃C U fI fd,XR P w K mg base 1 "TooGreat" ["number","most"] C U fI fd ["self","number","most"]:=by
 obtain⟨C,U,fI,fd,R⟩:=T.rm
 refine⟨C,U,fI,fd,XRT.mk1 R (R.fn.ok U0 (fun vs H Q E ⟨a,ys,e,l,_⟩=>by rw[e];simpa using l) fun cdv A outer s H vs Q E hr ⟨a,ys,e,l,ha,q⟩=>?_)⟩
 subst e
 match ys,l with
 | [y,z],_=>exact⟨_,J4 (Acz R.xc (R.tk _ (by simp)) (pv 0) (pv 1)) (Ih (AlL R.xc (R.tk _ (by simp)) (pv 0) (pv 2))),y,rfl,.ref a,rfl,a,rfl,ha,fun dx h1 h2=>⟨z,rfl,.ref a,rfl,a,dx,_,rfl,Av,(by rw[Ak h2,Av]),(by show 1≤1000;decide),rfl,by rw[Ado h2];exact q dx h1 h2⟩⟩
def XQ{P:Program}{w:World}{K:W.Frag}{mg:Str→Option Value}{base:Heap}(T:Txt K mg):∃C U fI fd,XR P w K mg base 1 "NoAnswer" ["point"] C U fI fd ["self","point"]:=by
 obtain⟨C,U,fI,fd,R⟩:=T.rz
 refine⟨C,U,fI,fd,XRT.mk1 R (R.fn.ok U7 (fun vs H Q E ⟨a,ys,e,l,_⟩=>by rw[e];simpa using l) fun cdv A outer s H vs Q E hr ⟨a,ys,e,l,ha,q⟩=>?_)⟩
 subst e
 obtain⟨y,rfl⟩:∃y,ys=[y]:=List.length_eq_one_iff.mp l
 exact⟨_,Ih (Acz R.xc (R.tk _ (by simp)) (pv 0) (pv 1)),y,rfl,.ref a,rfl,a,rfl,ha,fun dx h1 h2=>q dx h1 h2⟩
abbrev PN:DSp:=DP (fun t:I4=>[t4 t]) (B4 300000) fun t=>.bl (decide (det t=1))
abbrev Gs:DSp:=DP (fun t:I4=>[t4 t]) (fun t=>B4 300000 t∧det t=1) fun _=>.non
abbrev AcF:DSp:=DP (fun p:I4×I2=>[t4 p.1,t2 p.2]) (fun p=>B4 300000 p.1∧det p.1=1∧B2 300000 p.2) fun p=>t2 (Ez p.1 p.2)
abbrev Cq:DSp:=DP (fun p:I4×I4=>[t4 p.1,t4 p.2]) (fun p=>B4 400000 p.1∧B4 400000 p.2) fun p=>t4 (Ah p.1 p.2)
abbrev Pu:DSp:=DP (fun t:I4=>[t4 t]) (fun t=>B4 300000 t∧det t=1) fun t=>t4 (Ao t)
section
variable(P:Program)(w:World){K:W.Frag}{mg:Str→Option Value}(base:Heap)
def YW(T:Txt K mg)
  : Pm P w K mg base 1 "is_turn" Hq ["turn"] PN:=by
 obtain⟨f,fd,F⟩:=T.uU
 refine⟨f,fd,F,F.fn.okD Ys (by walk_at "lE") fun cdv A outer s H E hr=>⟨_,(Aj (Ay (Oj hr.units (Ew (Ax (Ac (dv 0) Ab) (Ac (dv 0) Ab)) (Ax (Ac (dv 0) Ab) (Ac (dv 0) Ab))) Ab))),fun ds Q h=>?_⟩⟩
 obtain⟨⟨a,b,c,d⟩,rfl,⟨ha,hb,hc,hd⟩,q⟩:=h
 walk_at "go"
 exact⟨by walk_at "mul",by walk_at "mul",q _ rfl⟩
def RV(T:Txt K mg)
  (aaJ:Pm P w K mg base 1 "is_turn" Hq ["turn"] PN)
  : Pm P w K mg base 2 "check_turn" CN ["turn"] Gs:=by
 obtain⟨f,fd,F⟩:=T.oA
 refine⟨f,fd,F,F.fn.okD R7 (by walk_at "lE") fun cdv A outer s H E hr=>⟨_,(Aj (CV (Rf (QC (Ai Ag aaJ (hr.mono (by decide)) rfl (Aa (dv 0) Ad)))) (Aj VJ) Bq)),fun ds Q h=>?_⟩⟩
 obtain⟨t,rfl,⟨hb,hd⟩,q⟩:=h
 walk_at "go"
 refine Ar t hb ?_
 walk_at "rd"
 rw[decide_eq_true hd]
 exact q _ rfl
def Ajd(T:Txt K mg)
  (dw:Pm P w K mg base 2 "check_turn" CN ["turn"] Gs)
  : Pm P w K mg base 3 "led" S9 ["turn","point"] AcF:=by
 obtain⟨f,fd,F⟩:=T.ab3
 refine⟨f,fd,F,F.fn.okD AjN (by walk_at "lE") fun cdv A outer s H E hr=>⟨_,(Ae (Ng (Ai Ag dw (hr.mono (by decide)) rfl (Aa (dv 0) Ad))) (Aj (Ay (Bj (Aa (Ce (Ax (Ac (dv 0) Ab) (Ac (dv 1) Ab)) (Ax (Ac (dv 0) Ab) (Ac (dv 1) Ab))) (Aa (Ce (Ax (Ac (dv 0) Ab) (Ac (dv 1) Ab)) (Ax (Ac (dv 0) Ab) (Ac (dv 1) Ab))) Ad)))))),fun ds Q h=>?_⟩⟩
 obtain⟨⟨⟨a,b,c,d⟩,x,y⟩,rfl,⟨hb,hd,hx,hy⟩,q⟩:=h
 walk_at "go"
 refine Ar (a,b,c,d) ⟨hb,hd⟩ ?_
 obtain⟨ha,hb,hc,hd⟩:=hb
 exact⟨by walk_at "mul",by walk_at "mul",by walk_at "mul",by walk_at "mul",Am (by decide),q _ rfl⟩
def RT(T:Txt K mg)
  : Pm P w K mg base 1 "put_behind" Bv ["one","other"] Cq:=by
 obtain⟨f,fd,F⟩:=T.oE
 refine⟨f,fd,F,F.fn.okD RX (by walk_at "lE") fun cdv A outer s H E hr=>⟨_,(Aj (Ay (Bj (Aa (Ce (Ax (Ac (dv 0) Ab) (Ac (dv 1) Ab)) (Ax (Ac (dv 0) Ab) (Ac (dv 1) Ab))) (Aa (Ce (Ax (Ac (dv 0) Ab) (Ac (dv 1) Ab)) (Ax (Ac (dv 0) Ab) (Ac (dv 1) Ab))) (Aa (Ce (Ax (Ac (dv 0) Ab) (Ac (dv 1) Ab)) (Ax (Ac (dv 0) Ab) (Ac (dv 1) Ab))) (Aa (Ce (Ax (Ac (dv 0) Ab) (Ac (dv 1) Ab)) (Ax (Ac (dv 0) Ab) (Ac (dv 1) Ab))) Ad))))))),fun ds Q h=>?_⟩⟩
 obtain⟨⟨⟨a,b,c,d⟩,e,f,g,i⟩,rfl,⟨⟨ha,hb,hc,hd⟩,he,hf,hg,hi⟩,q⟩:=h
 walk_at "go"
 exact⟨by walk_at "mul",by walk_at "mul",by walk_at "mul",by walk_at "mul",by walk_at "mul",by walk_at "mul",by walk_at "mul",by walk_at "mul",Am (by decide),q _ rfl⟩
def Afe(T:Txt K mg)
  (dw:Pm P w K mg base 2 "check_turn" CN ["turn"] Gs)
  : Pm P w K mg base 3 "back" Ko ["turn"] Pu:=by
 obtain⟨f,fd,F⟩:=T.abr
 refine⟨f,fd,F,F.fn.okD AgH (by walk_at "lE") fun cdv A outer s H E hr=>⟨_,(Ae (Ng (Ai Ag dw (hr.mono (by decide)) rfl (Aa (dv 0) Ad))) (Aj (Ay (Bj (Aa (Ac (dv 0) Ab) (Aa (Dp (Ac (dv 0) Ab)) (Aa (Dp (Ac (dv 0) Ab)) (Aa (Ac (dv 0) Ab) Ad)))))))),fun ds Q h=>?_⟩⟩
 obtain⟨⟨a,b,c,d⟩,rfl,⟨hb,hd⟩,q⟩:=h
 walk_at "go"
 refine Ar (a,b,c,d) ⟨hb,hd⟩ ?_
 exact⟨Am (by decide),q _ rfl⟩
def AfY(T:Txt K mg)
  : Pm P w K mg base 1 "root" Jw ["number"] Mw:=by
 obtain⟨f,fd,F⟩:=T.abq
 refine⟨f,fd,F,F.fn.okD Mx (by walk_at "lE") fun cdv A outer s H E hr=>⟨_,(Ae (CV (Rj (dv 0) Ab) (Aj VJ) Bq) (Ae (CV (Fj hr.units (dv 0) Ab) (Aj (Ay Ab)) Bq) (Ae (Aw 1 Mx.nd (AjC Ab (Ed (Ce (Ag2 (dv 0)) Ab) Ab))) (Ae (Aw 2 Mx.nd (Ed (Ce (dv 1) (Ed (dv 0) (dv 1))) Ab)) (Ae (Jl PassesOwn.never (Rj (dv 2) (dv 1)) (Ae (Aw 1 Mx.nd (dv 2)) (Aj (Aw 2 Mx.nd (Ed (Ce (dv 1) (Ed (dv 0) (dv 1))) Ab))))) (Aj (Ay (dv 1)))))))),fun ds Q h=>?_⟩⟩
 obtain⟨n,rfl,⟨h0,hb⟩,q⟩:=h
 walk_at "go"
 refine Fz (decide_eq_false (by omega)) ?_
 by_cases hz:n=0
 ·subst hz
  exact ift rfl (q _ ⟨0,rfl,⟨by omega,by omega,by omega⟩,Bt.zero.le (by decide)⟩)
 refine Fz (decide_eq_false hz) ?_
 obtain⟨c1,c2,c3⟩:=Wg hb
 have hu:=AeE h0
 refine⟨⟨by decide,by decide⟩,c1,?_⟩
 generalize (1*2 ^ ((((Builtin.Int.intBits n:Nat):Int)+1).fdiv 2).toNat:Int)=g at *
 refine⟨Bt.lW c2 (by omega),⟨by decide,by decide⟩,?_⟩
 rw[Aaw c3]
 refine Jm (fun m ρ=>∃g:Int,ρ=[some (.is (.int n)),some (.is (.int g)),some (.is (.int ((g+n / g) / 2)))]∧0<g∧Bt 2001 g∧n<(g+1)*(g+1)∧m=g.toNat) _ ⟨g,rfl,c3,c2,hu,rfl⟩ ?_
 rintro m _ ⟨g,rfl,hg,hgb,hgu,rfl⟩
 walk_at "rd"
 refine Ie (fun hw=>?_) (fun hw=>?_)
 ·have hw:=of_decide_eq_true hw
  have hp:=Yi (show 1≤n by omega) hg
  have hu':=AbI h0 hg
  have hbb:Bt 2001 ((g+n / g) / 2):=by unfold Bt at *;omega
  generalize (g+n / g) / 2=b at *
  refine⟨Bt.lW hbb (by omega),⟨by decide,by decide⟩,?_⟩
  rw[Aaw hp]
  exact⟨_,by omega,b,rfl,hp,hbb,hu',rfl⟩
 ·have hw:¬(g+n / g) / 2<g:=fun z=>hw (decide_eq_true z)
  exact q _ ⟨g,rfl,⟨by omega,Yj hg (by omega),hgu⟩,hgb⟩
def U6(T:Txt K mg)
  (mF:Pm P w K mg base 1 "root" Jw ["number"] Mw)
  : Pm P w K mg base 2 "is_square" Fo ["number"] M7:=by
 obtain⟨f,fd,F⟩:=T.qF
 refine⟨f,fd,F,F.fn.okD Nb (by walk_at "lE") fun cdv A outer s H E hr=>⟨_,(Ae (CV (Rj (dv 0) Ab) (Aj (Ay S6)) Bq) (Ae (Aw 1 Nb.nd (Ai Ag mF (hr.mono (by decide)) rfl (Aa (dv 0) Ad))) (Aj (Ay (Oj hr.units (Ax (dv 1) (dv 1)) (dv 0)))))),fun ds Q h=>?_⟩⟩
 obtain⟨n,rfl,hb,q⟩:=h
 walk_at "go"
 refine Ie (fun hw=>?_) (fun hw=>?_)
 ·have hw:=of_decide_eq_true hw
  exact q _ ⟨false,rfl,by simp[MP hw]⟩
 ·have hw:¬n<0:=fun z=>hw (decide_eq_true z)
  refine Cd n ⟨by omega,hb⟩ ?_
  rintro _ ⟨r,rfl,hs,hr'⟩
  walk_at "rd"
  refine⟨by walk_at "mul",q _ ⟨_,rfl,?_⟩⟩
  rw[M5 hs];simp
abbrev Fg:DSp:=DP (fun f:I3=>[t3 f]) (B3 20000) fun f=>.int (meas f)
abbrev Qj:DSp:=DP (fun p:I3×I2=>[t3 p.1,t2 p.2]) (fun p=>B3 20000 p.1∧B2 300000 p.2) fun p=>.int (val p.1 p.2)
abbrev TQ:DSp:=DP (fun p:I3×I2×I2=>[t3 p.1,t2 p.2.1,t2 p.2.2]) (fun p=>B3 20000 p.1∧B2 300000 p.2.1∧B2 300000 p.2.2) fun p=>.int (mid p.1 p.2.1 p.2.2)
abbrev J6:DSp:=DP (fun p:I3×I4=>[t3 p.1,t4 p.2]) (fun p=>B3 20000 p.1∧B4 300000 p.2∧det p.2=1) fun p=>t3 (mov p.1 p.2)
def Xw(T:Txt K mg)
  : Pm P w K mg base 1 "measure" Dh ["form"] Fg:=by
 obtain⟨f,fd,F⟩:=T.uV
 refine⟨f,fd,F,F.fn.okD XM (by walk_at "lE") fun cdv A outer s H E hr=>⟨_,(Aj (Ay (Ew (Ax (Ac (dv 0) Ab) (Ac (dv 0) Ab)) (Ax (Ax Ab (Ac (dv 0) Ab)) (Ac (dv 0) Ab))))),fun ds Q h=>?_⟩⟩
 obtain⟨⟨a,b,c⟩,rfl,⟨ha,hb,hc⟩,q⟩:=h
 walk_at "go"
 have h2:Bt 3 4:=Bt.aK (by decide)
 exact⟨by walk_at "mul",by walk_at "mul",by walk_at "mul",q _ rfl⟩
def Ae1(T:Txt K mg)
  : Pm P w K mg base 1 "value" Jx ["form","point"] Qj:=by
 obtain⟨f,fd,F⟩:=T.aaz
 refine⟨f,fd,F,F.fn.okD QB (by walk_at "lE") fun cdv A outer s H E hr=>⟨_,(Ae (Aw 2 QB.nd (Ac (dv 1) Ab)) (Ae (Aw 3 QB.nd (Ac (dv 1) Ab)) (Aj (Ay (Ce (Ce (Ax (Ax (Ac (dv 0) Ab) (dv 2)) (dv 2)) (Ax (Ax (Ac (dv 0) Ab) (dv 2)) (dv 3))) (Ax (Ax (Ac (dv 0) Ab) (dv 3)) (dv 3))))))),fun ds Q h=>?_⟩⟩
 obtain⟨⟨⟨a,b,c⟩,x,y⟩,rfl,⟨⟨ha,hb,hc⟩,hx,hy⟩,q⟩:=h
 walk_at "go"
 exact⟨by walk_at "mul",by walk_at "mul",by walk_at "mul",by walk_at "mul",by walk_at "mul",by walk_at "mul",q _ rfl⟩
def Abx(T:Txt K mg)
  : Pm P w K mg base 1 "middle" Jq ["form","left","right"] TQ:=by
 obtain⟨f,fd,F⟩:=T.w6
 refine⟨f,fd,F,F.fn.okD Tf (by walk_at "lE") fun cdv A outer s H E hr=>⟨_,(Ae (Aw 3 Tf.nd (Ce (Ax (Ac (dv 1) Ab) (Ac (dv 2) Ab)) (Ax (Ac (dv 2) Ab) (Ac (dv 1) Ab)))) (Aj (Ay (Ce (Ce (Ax (Ax (Ax Ab (Ac (dv 0) Ab)) (Ac (dv 1) Ab)) (Ac (dv 2) Ab)) (Ax (Ac (dv 0) Ab) (dv 3))) (Ax (Ax (Ax Ab (Ac (dv 0) Ab)) (Ac (dv 1) Ab)) (Ac (dv 2) Ab)))))),fun ds Q h=>?_⟩⟩
 obtain⟨⟨⟨a,b,c⟩,⟨x,y⟩,u,v⟩,rfl,⟨⟨ha,hb,hc⟩,⟨hx,hy⟩,hu,hv⟩,q⟩:=h
 walk_at "go"
 have h2:Bt 2 2:=Bt.aK (by decide)
 walk_at "muls"
 exact q _ rfl
def Adq(T:Txt K mg)
  (dw:Pm P w K mg base 2 "check_turn" CN ["turn"] Gs)
  (qU:Pm P w K mg base 1 "value" Jx ["form","point"] Qj)
  (abu:Pm P w K mg base 1 "middle" Jq ["form","left","right"] TQ)
  : Pm P w K mg base 3 "moved" G8 ["form","turn"] J6:=by
 obtain⟨f,fd,F⟩:=T.aaA
 refine⟨f,fd,F,F.fn.okD Ql (by walk_at "lE") fun cdv A outer s H E hr=>⟨_,(Ae (Ng (Ai Ag dw (hr.mono (by decide)) rfl (Aa (dv 1) Ad))) (Ae (Aw 2 Ql.nd (Bj (Aa (Ac (dv 1) Ab) (Aa (Ac (dv 1) Ab) Ad)))) (Ae (Aw 3 Ql.nd (Bj (Aa (Ac (dv 1) Ab) (Aa (Ac (dv 1) Ab) Ad)))) (Aj (Ay (Bj (Aa (Ai Ag qU (hr.mono (by decide)) rfl (Aa (dv 0) (Aa (dv 2) Ad))) (Aa (Ai Ag abu (hr.mono (by decide)) rfl (Aa (dv 0) (Aa (dv 2) (Aa (dv 3) Ad)))) (Aa (Ai Ag qU (hr.mono (by decide)) rfl (Aa (dv 0) (Aa (dv 3) Ad))) Ad))))))))),fun ds Q h=>?_⟩⟩
 obtain⟨⟨f,t⟩,rfl,⟨hf,ht,hd⟩,q⟩:=h
 walk_at "go"
 have hl:B2 300000 (t.1,t.2.2.1):=⟨ht.1.le (by decide),ht.2.2.1.le (by decide)⟩
 have hr':B2 300000 (t.2.1,t.2.2.2):=⟨ht.2.1.le (by decide),ht.2.2.2.le (by decide)⟩
 refine Ar t ⟨ht,hd⟩ ⟨Am (by decide),Am (by decide),?_⟩
 refine Ar (f,(t.1,t.2.2.1)) ⟨hf,hl⟩ ?_
 refine Ar (f,(t.1,t.2.2.1),(t.2.1,t.2.2.2)) ⟨hf,hl,hr'⟩ ?_
 refine Ar (f,(t.2.1,t.2.2.2)) ⟨hf,hr'⟩ ⟨Am (by decide),?_⟩
 exact q _ rfl
abbrev Kp:DSp:=spec (fun f:I3=>[t3 f]) (fun f=>B3 1500 f) Adf
def AeH(T:Txt K mg)
  (aZ:Pm P w K mg base 1 "measure" Dh ["form"] Fg)
  (xq:Pm P w K mg base 2 "is_square" Fo ["number"] M7)
  : Pm P w K mg base 3 "shape" Hg ["form"] Kp:=by
 obtain⟨f,fd,F⟩:=T.aaB
 refine⟨f,fd,F,F.fn.okD WD (by walk_at "lE") fun cdv A outer s H E hr=>⟨_,(Ae (Aw 1 WD.nd (Ai Ag aZ (hr.mono (by decide)) rfl (Aa (dv 0) Ad))) (Ae (CV (QC (Ai Ag xq (hr.mono (by decide)) rfl (Aa (dv 1) Ad))) (Aj (Ay JN)) Bq) (Ae (CV (WL (dv 1) Ab) (Aj (Ay JN)) Bq) (Ae (CV (WL (Ac (dv 0) Ab) Ab) (Aj (Ay JN)) Bq) (Aj (Ay JN)))))),fun ds Q h=>?_⟩⟩
 obtain⟨f,rfl,hf,q⟩:=h
 walk_at "go"
 refine Ar f (hf.le (by decide)) ?_
 have hm:Bt 4000 (meas f):=by
  obtain⟨h1,h2,h3⟩:=hf
  have h4:Bt 3 4:=Bt.aK (by decide)
  exact((h2.mul h2).sub ((h4.mul h1).mul h3)).le (by decide)
 refine Cd (meas f) hm ?_
 rintro _ ⟨b,rfl,hb⟩
 walk_at "rd"
 refine Ie (fun h=>q _ (.flat (hb.mp h))) (fun h=>?_)
 have hn:¬Fi (meas f):=fun z=>h (hb.mpr z)
 refine Ie (fun h=>q _ (.saddle hn (of_decide_eq_true h))) (fun h=>?_)
 have hp:¬0<meas f:=fun z=>h (decide_eq_true z)
 refine Ie (fun h=>q _ (.bowl hn hp (of_decide_eq_true h))) (fun h=>q _ (.dome hn hp fun z=>h (decide_eq_true z)))
abbrev Ib(f:I3):Dt:=.exc "NoShape" ["form"] [t3 f]
abbrev Eb(n m:Int):Dt:=.exc "TooGreat" ["number","most"] [.int n,.int m]
noncomputable def RQ(f:I3):Dt:=@ite _ (0<meas f∧¬Fi (meas f)) (Classical.propDecidable _) (Eb (meas f) 4000) (Ib f)
def Ye{f:I3}(h:0<meas f∧¬Fi (meas f)):RQ f=Eb (meas f) 4000:=if_pos h
def Xm{f:I3}(h:¬(0<meas f∧¬Fi (meas f))):RQ f=Ib f:=if_neg h
abbrev Il:J1:=JV (fun p:I2=>[.int p.1,.int p.2]) (fun _=>True) (fun p=>p.1≤p.2) (fun _ d=>d=.non) fun p=>Eb p.1 p.2
abbrev Gh:J1:=JV (fun f:I3=>[t3 f]) (fun f=>B3 1500 f) Sad (fun _ d=>d=.non) RQ
abbrev JQ:DSp:=DP (fun f:I3=>[t3 f]) (fun f=>B3 1500 f∧Sad f) fun _=>.non
def Ml(T:Txt K mg)
  : PmX P w K mg base 3 "check_at_most" CG ["number","most"] Il:=by
 obtain⟨f,fd,F⟩:=T.jt
 obtain⟨aj,za,cY,xu,mH⟩:=QS (P:=P) (w:=w) (base:=base) T
 refine⟨f,fd,F,F.fn.okX Nr (fun ds Q E ⟨p,e,_⟩=>by rw[e];rfl) fun cdv A outer s H E hr=>⟨_,(Bu (Kf (WL (dv 0) (dv 1)) (Bu (Jp mH (hr.mono (by decide)) rfl rfl (Aa (dv 0) (Aa (dv 1) Ad)))) Ji)),fun ds Q Ex h=>?_⟩⟩
 obtain⟨⟨n,m⟩,rfl,_,q,x⟩:=h
 have q:n≤m→∀d,d=.non→Q d:=q
 have x:¬n≤m→Ex (Eb n m):=x
 walk_at "go"
 refine Ie (fun hw=>?_) (fun hw=>?_)
 ·have hw:=of_decide_eq_true hw
  exact⟨by decide,x (by omega)⟩
 ·have hw:¬m<n:=fun z=>hw (decide_eq_true z)
  exact q (by omega) _ rfl
def Nq(T:Txt K mg)
  (pA:PmX P w K mg base 3 "check_at_most" CG ["number","most"] Il)
  (jh:Pm P w K mg base 3 "shape" Hg ["form"] Kp)
  (aZ:Pm P w K mg base 1 "measure" Dh ["form"] Fg)
  : PmX P w K mg base 4 "check_saddle" BW ["form"] Gh:=by
 obtain⟨f,fd,F⟩:=T.jC
 obtain⟨jF,dj⟩:=T.dj
 obtain⟨ao,aaK,eE,zc,pB⟩:=Tr (P:=P) (w:=w) (base:=base) T
 refine⟨f,fd,F,F.fn.okX OD (fun ds Q E ⟨p,e,_⟩=>by rw[e];rfl) fun cdv A outer s H E hr=>⟨_,(Bs (Kf (Jo hr.units (Ai Ag jh (hr.mono (by decide)) rfl (Aa (dv 0) Ad)) JN) (Bu (Jp pB (hr.mono (by decide)) rfl rfl (Aa (dv 0) Ad))) Ji) (Bu (Kv (Dq Bo pA (hr.mono (by decide)) rfl (Aa (Ai Ag aZ (hr.mono (by decide)) rfl (Aa (dv 0) Ad)) (Aa (Ik (v:=.int (4000)) (d:=.int (4000)) rfl dj ⟨_,rfl⟩ (fun _=>Bp.mpr rfl)) Ad)))))),fun ds Q Ex h=>?_⟩⟩
 obtain⟨f,rfl,hb,q,x⟩:=h
 have nb:Dt.flat 8 (.str "saddle")=true:=by rw[GJ];decide +kernel
 have x1:¬(0<meas f∧¬Fi (meas f))→Ex (Ib f):=fun z=>by
  have:=x fun s=>z ⟨s.pos,s.no⟩
  rw[Xm z]at this
  exact this
 walk_at "go"
 refine Cd f hb ?_
 rintro _ hw
 cases hw with
 |flat z=>exact⟨⟨by rw[GJ];decide +kernel,nb⟩,ift (by rw[Hz];decide) ⟨by decide,x1 fun h=>h.2 z⟩⟩
 |bowl _ z _=>exact⟨⟨by rw[GJ];decide +kernel,nb⟩,ift (by rw[Hz];decide) ⟨by decide,x1 fun h=>z h.1⟩⟩
 |dome _ z _=>exact⟨⟨by rw[GJ];decide +kernel,nb⟩,ift (by rw[Hz];decide) ⟨by decide,x1 fun h=>z h.1⟩⟩
 | saddle n p =>
  refine⟨⟨nb,nb⟩,ifn (by rw[Hz];rfl) (Ar f (hb.le (by decide)) (Di (meas f,4000) trivial (fun h _ _=>q ⟨n,p,h⟩ _ rfl) fun h=>?_))⟩
  have:=x fun s=>h s.most
  rw[Ye ⟨p,n⟩]at this
  exact this
def O6{P:Program}{w:World}{K:W.Frag}{mg:Str→Option Value}{base:Heap}(G:PmX P w K mg base 4 "check_saddle" BW ["form"] Gh)
  : Pm P w K mg base 4 "check_saddle" BW ["form"] JQ:=by
 refine G.pm Bo fun ds Q h=>?_
 obtain⟨f,e,⟨hb,hd⟩,q⟩:=h
 exact⟨f,e,hb,fun _ d z=>q d z,fun z=>absurd hd z⟩
abbrev JZ:DSp:=DP (fun p:I3×Int=>[t3 p.1,.int p.2]) (fun p=>B3 20000 p.1) fun p=>.bl (decide (Level p.1 p.2))
def O9(T:Txt K mg)
  : Pm P w K mg base 1 "stands_level" Dr ["form","far"] JZ:=by
 obtain⟨f,fd,F⟩:=T.jD
 refine⟨f,fd,F,F.fn.okD JR (by walk_at "lE") fun cdv A outer s H E hr=>⟨_,(Ae (Aw 2 JR.nd (Ac (dv 0) Ab)) (Aj (Ay (Aew (VR Acf VN Iv Iv Ab (dv 2) (dv 1)) (Qt (VR Acf VN Iv Iv (Ew (dv 1) (dv 2)) (Ax Ab (Ks T.iV (Aa (Ac (dv 0) Ab) Ad))) (Ce (dv 1) (dv 2)))))))),fun ds Q h=>?_⟩⟩
 obtain⟨⟨⟨a,b,c⟩,far⟩,rfl,hb,q⟩:=h
 have q':=q _ rfl
 obtain⟨ha,_,_⟩:=(show B3 20000 (a,b,c)from hb)
 have ha:Bt 20000 a:=ha
 have two:Bt 2 2:=Bt.aK (by decide)
 have ha':Bt 20000 (if a<0 then -a else a):=by split<;>first|exact ha.neg|exact ha
 have q':Q (.bl (decide (Level (a,b,c) far))):=q'
 walk_at "go"
 have hL:Level (a,b,c) far↔(0<b∧b≤far)∧far-b<2*(if a<0 then -a else a)∧2*(if a<0 then -a else a)≤far+b:=Iff.rfl
 generalize (if a<0 then -a else a)=A at *
 by_cases h1:0<b
 ·refine ift (decide_eq_true h1) ?_
  by_cases h2:b≤far
  ·refine ift (decide_eq_true h2) ⟨two.aY ha',?_⟩
   by_cases h3:far-b<2*A
   ·refine ift (decide_eq_true h3) ?_
    have e:decide (Level (a,b,c) far)=decide (2*A≤far+b):=decide_eq_decide.mpr (hL.trans ⟨fun z=>z.2.2,fun z=>⟨⟨h1,h2⟩,h3,z⟩⟩)
    rw[e]at q'
    exact q'
   ·refine Fz (decide_eq_false h3) ?_
    rw[decide_eq_false fun z=>h3 (hL.mp z).2.1]at q'
    exact q'
  ·refine Fz (decide_eq_false h2) ?_
   rw[decide_eq_false fun z=>h2 (hL.mp z).1.2]at q'
   exact q'
 ·refine Fz (decide_eq_false h1) ?_
  rw[decide_eq_false fun z=>h1 (hL.mp z).1.1]at q'
  exact q'
abbrev K6:DSp:=DP (fun f:I3=>[t3 f]) (fun f=>B3 1500 f∧Bl f) fun _=>.non
abbrev HJ:J1:=JV (fun f:I3=>[t3 f]) (fun f=>B3 1500 f) Bl (fun _ d=>d=.non) Ib
abbrev JW:DSp:=DP (fun f:I3=>[t3 f]) (fun _=>True) fun f=>.bl (stands f)
def Af6{f:I3}(h:Bl f):¬Fi (meas f):=MP h.2
def O1(T:Txt K mg)
  : Pm P w K mg base 1 "stands_least" Dg ["form"] JW:=by
 obtain⟨f,fd,F⟩:=T.jB
 refine⟨f,fd,F,F.fn.okD Fe (by walk_at "lE") fun cdv A outer s H E hr=>⟨_,(Ae (Aw 1 Fe.nd (Ac (dv 0) Ab)) (Ae (Aw 2 Fe.nd (Ac (dv 0) Ab)) (Ae (Aw 3 Fe.nd (Ac (dv 0) Ab)) (Ae (CV (Rf (Abu VN VN VN Iv Iv Iv  (Dp (dv 1)) (dv 2) (dv 1) (dv 3))) (Aj (Ay S6)) Bq) (Aj (Ay (Adi (AmP (dv 2) Ab) (Qt (Aew (Ah7 hr.units (dv 2) (Dp (dv 1))) (Qt (Ah7 hr.units (dv 1) (dv 3)))))))))))),fun ds Q h=>?_⟩⟩
 obtain⟨⟨a,b,c⟩,rfl,_,q⟩:=h
 have q':=q _ rfl
 dsimp only[stands]at q'
 walk_at "go"
 simp only[Bool.decide_and,ne_eq,decide_not]at q'
 generalize decide (-a≤b)=x1 at *
 generalize decide (b≤a)=x2 at *
 generalize decide (a≤c)=x3 at *
 generalize decide (0≤b)=x4 at *
 generalize decide (b=-a)=x5 at *
 generalize decide (a=c)=x6 at *
 cases x1<;>cases x2<;>cases x3<;>cases x4<;>cases x5<;>cases x6<;>exact q'
def Rr(T:Txt K mg)
  (jh:Pm P w K mg base 3 "shape" Hg ["form"] Kp)
  : PmX P w K mg base 4 "check_bowl" Cp ["form"] HJ:=by
 obtain⟨f,fd,F⟩:=T.oF
 obtain⟨ao,aaK,eE,zc,pB⟩:=Tr (P:=P) (w:=w) (base:=base) T
 refine⟨f,fd,F,F.fn.okX RW (fun ds Q E ⟨p,e,_⟩=>by rw[e];rfl) fun cdv A outer s H E hr=>⟨_,(Bu (Kf (Jo hr.units (Ai Ag jh (hr.mono (by decide)) rfl (Aa (dv 0) Ad)) JN) (Bu (Jp pB (hr.mono (by decide)) rfl rfl (Aa (dv 0) Ad))) Ji)),fun ds Q Ex h=>?_⟩⟩
 obtain⟨f,rfl,hb,q,x⟩:=h
 walk_at "go"
 refine Cd f hb ?_
 rintro _ hw
 have nb:Dt.flat 8 (.str "bowl")=true:=by rw[GJ];decide +kernel
 cases hw with
 |flat z=>exact⟨⟨by rw[GJ];decide +kernel,nb⟩,ift (by rw[Hz];decide) ⟨by decide,x fun h=>absurd z (Af6 h)⟩⟩
 |saddle _ z=>exact⟨⟨by rw[GJ];decide +kernel,nb⟩,ift (by rw[Hz];decide) ⟨by decide,x fun h=>absurd z (by have:=h.2;omega)⟩⟩
 |dome _ _ z=>exact⟨⟨by rw[GJ];decide +kernel,nb⟩,ift (by rw[Hz];decide) ⟨by decide,x fun h=>absurd h.1 z⟩⟩
 |bowl n z p=>exact⟨⟨nb,nb⟩,ifn (by rw[Hz];rfl) (q ⟨p,by have h0:¬meas f=0:=fun e=>n (by rw[e];exact⟨0,rfl⟩);omega⟩ _ rfl)⟩
def RP{P:Program}{w:World}{K:W.Frag}{mg:Str→Option Value}{base:Heap}(G:PmX P w K mg base 4 "check_bowl" Cp ["form"] HJ)
  : Pm P w K mg base 4 "check_bowl" Cp ["form"] K6:=by
 refine G.pm Bo fun ds Q h=>?_
 obtain⟨f,e,⟨hb,hd⟩,q⟩:=h
 exact⟨f,e,hb,fun _ d z=>q d z,fun z=>absurd hd z⟩
abbrev K8:DSp:=DP (fun f:I3=>[t3 f]) (fun f=>B3 8000 f∧0<f.1) fun f=>t4 (Ec f)
def RK(T:Txt K mg)
  : Pm P w K mg base 1 "turn_lower" Eu ["form"] K8:=by
 obtain⟨f,fd,F⟩:=T.oG
 refine⟨f,fd,F,F.fn.okD K5 (by walk_at "lE") fun cdv A outer s H E hr=>⟨_,(Ae (Aw 1 K5.nd (Ed (Ew (Ac (dv 0) Ab) (Ac (dv 0) Ab)) (Ax Ab (Ac (dv 0) Ab)))) (Ae (CV (Jo hr.units (dv 1) Ab) (Aj (Ay (Bj (Aa Ab (Aa (dv 1) (Aa Ab (Aa Ab Ad))))))) Bq) (Aj (Ay (Bj (Aa Ab (Aa (Dp Ab) (Aa Ab (Aa Ab Ad))))))))),fun ds Q h=>?_⟩⟩
 obtain⟨⟨a,b,c⟩,rfl,⟨⟨h1,h2,h3⟩,h0⟩,q⟩:=h
 have h0:0<a:=h0
 have h1:Bt 8000 a:=h1
 have two:Bt 2 2:=Bt.aK (by decide)
 have q':=q _ rfl
 dsimp only at q'
 walk_at "go"
 refine⟨two.aY h1,Bt.lW (two.mul h1) (by omega),?_⟩
 by_cases ho:(a-b).fdiv (2*a)=0
 ·refine Fz (by rw[decide_eq_true ho];rfl) ⟨Am (by decide),?_⟩
  rw[QF (f:=(a,b,c)) ho]at q'
  exact q'
 ·refine ift (by rw[decide_eq_false ho];rfl) ⟨Am (by decide),?_⟩
  rw[Q9 (f:=(a,b,c)) ho]at q'
  exact q'
def LI(f:I3):Nat→I4
 |0=>(1,0,0,1)
 |k+1=>Ah (LI f k) (Ec (mov f (LI f k)))
def Mv(f:I3)(t:I4):Prop:=∃k,t=LI f k∧(∀i,i<k→stands (mov f (LI f i))=false)∧stands (mov f (LI f k))=true
theorem Mv.uniq{f:I3}{t u:I4}(a:Mv f t)(b:Mv f u):t=u:=by
 obtain⟨k,rfl,n1,h1⟩:=a
 obtain⟨l,rfl,n2,h2⟩:=b
 rcases Nat.lt_trichotomy k l with z|z|z
 ·rw[n2 k z]at h1;cases h1
 ·rw[z]
 ·rw[n1 l z]at h2;cases h2
def Kz(f:I3)(d:Dt):Prop:=∃t:I4,d=.tup [t3 (mov f t),t4 t]∧det t=1∧Ds (mov f t)∧B4 5000 t∧Mv f t
abbrev Lz:DSp:=spec (fun f:I3=>[t3 f]) (fun f=>B3 1500 f∧Bl f) Kz
def XH(T:Txt K mg)
  (vB:Pm P w K mg base 4 "check_bowl" Cp ["form"] K6)
  (rM:Pm P w K mg base 1 "stands_least" Dg ["form"] JW)
  (vC:Pm P w K mg base 1 "turn_lower" Eu ["form"] K8)
  (jj:Pm P w K mg base 3 "moved" G8 ["form","turn"] J6)
  (aC:Pm P w K mg base 1 "put_behind" Bv ["one","other"] Cq)
  : Pm P w K mg base 5 "settled" Gg ["form"] Lz:=by
 obtain⟨f,fd,F⟩:=T.uW
 obtain⟨iM,pC,pD⟩:=T.vA
 refine⟨f,fd,F,F.fn.okD Ig (by walk_at "lE") fun cdv A outer s H E hr=>⟨_,(Ae (Ng (Ai Ag vB (hr.mono (by decide)) rfl (Aa (dv 0) Ad))) (Ae (Aw 1 Ig.nd (Ik (v:=.ref iM) rfl pC rfl pD)) (Ae (Jl PassesOwn.never (Rf (QC (Ai Ag rM (hr.mono (by decide)) rfl (Aa (dv 0) Ad)))) (Ae (Aw 2 Ig.nd (Ai Ag vC (hr.mono (by decide)) rfl (Aa (dv 0) Ad))) (Ae (Aw 0 Ig.nd (Ai Ag jj (hr.mono (by decide)) rfl (Aa (dv 0) (Aa (dv 2) Ad)))) (Aj (Aw 1 Ig.nd (Ai Ag aC (hr.mono (by decide)) rfl (Aa (dv 1) (Aa (dv 2) Ad)))))))) (Aj (Ay (Bj (Aa (dv 0) (Aa (dv 1) Ad)))))))),fun ds Q h=>?_⟩⟩
 obtain⟨f,rfl,⟨hb,hw⟩,q⟩:=h
 have hw:Bl f:=hw
 have hb:B3 1500 f:=hb
 have hm:Bt 3010 (meas f):=by
  obtain⟨h1,h2,h3⟩:=hb
  have h4:Bt 3 4:=Bt.aK (by decide)
  exact((h2.mul h2).sub ((h4.mul h1).mul h3)).le (by decide)
 walk_at "go"
 refine Ar f ⟨hb,hw⟩ ?_
 refine Jm (fun m ρ=>∃t x,(∃k,t=LI f k∧∀i,i<k→stands (mov f (LI f i))=false)∧ρ=[some (.is (t3 (mov f t))),some (.is (t4 t)),x]∧det t=1∧Bt 1500 (mov f t).1∧Bt 1500 (mov f t).2.1∧m=msr (mov f t)) _ ⟨(1,0,0,1),none,⟨0,rfl,fun _ h=>absurd h (by omega)⟩,by rw[Fd],rfl,by rw[Fd];exact hb.1,by rw[Fd];exact hb.2.1,rfl⟩ ?_
 rintro m _ ⟨t,x,⟨k,et,nl⟩,rfl,hd,b1,b2,rfl⟩
 have hg:=AcD hw hd
 have hgb:B3 7000 (mov f t):=(Af8 hg b1 b2 (by rw[BJ hd];exact hm)).le (by decide)
 have ht:B4 5000 t:=Zq hw hb hgb (by decide)
 walk_at "rd"
 refine Ar (mov f t) trivial ?_
 walk_at "rd"
 by_cases hs:stands (mov f t)=true
 ·refine Fz (by rw[hs];rfl) ⟨Am (by decide),q _ ⟨t,rfl,hd,Br hg.1 hs,ht,k,et,nl,by rw[←et];exact hs⟩⟩
 ·have hs:stands (mov f t)=false:=by simpa using hs
  refine ift (by rw[hs];rfl) ?_
  have hl:B4 2000 (Ec (mov f t)):=(Aes hg.1 b1 b2).le (by decide)
  refine Ar (mov f t) ⟨hgb.le (by decide),hg.1⟩ ?_
  refine Ar (mov f t,Ec (mov f t)) ⟨hgb.le (by decide),hl.le (by decide),Ti⟩ ?_
  refine Ar (t,Ec (mov f t)) ⟨ht.le (by decide),hl.le (by decide)⟩ ?_
  have hb':=Acr hg hs b1 b2
  have hm':=Ab0 hg hs
  rw[Bd]at hb' hm'
  dsimp only
  rw[Bd]
  refine⟨_,hm',Ah t (Ec (mov f t)),_,⟨k+1,by rw[et];rfl,fun i hi=>?_⟩,rfl,?_,hb'.1,hb'.2,rfl⟩
  case refine_1 =>
   rcases Nat.lt_or_ge i k with z|z
   ·exact nl i z
   ·rw[show i=k by omega,←et];exact hs
  rw[BK,hd,Ti];rfl
abbrev G5:DSp:=DP (fun f:I3=>[t3 f]) (fun _=>True) fun f=>t4 (FP f)
def K3(T:Txt K mg)
  : Pm P w K mg base 1 "turning_of_least" Ca ["form"] G5:=by
 obtain⟨f,fd,F⟩:=T.gU
 refine⟨f,fd,F,F.fn.okD K4 (by walk_at "lE") fun cdv A outer s H E hr=>⟨_,(Ae (CV (DW.dt (Qa (Fj hr.units (Ac (dv 0) Ab) (Ac (dv 0) Ab)) (Mt (Fj hr.units (Ac (dv 0) Ab) Ab)))) (Aj (Ay (Bj (Aa Ab (Aa (Dp Ab) (Aa Ab (Aa Ab Ad))))))) Bq) (Ae (CV (DW.dt (Qa (Fj hr.units (Ac (dv 0) Ab) (Ac (dv 0) Ab)) (Mt (Fj hr.units (Ac (dv 0) Ab) (Ac (dv 0) Ab))))) (Aj (Ay (Bj (Aa Ab (Aa (Dp Ab) (Aa Ab (Aa Ab Ad))))))) Bq) (Aj (Ay (Bj (Aa (Dp Ab) (Aa Ab (Aa Ab (Aa (Dp Ab) Ad))))))))),fun ds Q h=>?_⟩⟩
 obtain⟨⟨a,b,c⟩,rfl,_,q⟩:=h
 have q':=q _ rfl
 dsimp only[FP]at q'
 walk_at "go"
 by_cases h1:a=c
 ·by_cases h2:b=0
  ·rw[if_pos ⟨h1,h2⟩]at q'
   simp only[decide_eq_true h1,decide_eq_true h2,if_true]
   walk_at "rd"
   exact⟨Am (by decide),q'⟩
  ·rw[if_neg (fun z=>h2 z.2)]at q'
   by_cases h3:b=a
   ·rw[if_pos ⟨h1,h3⟩]at q'
    simp only[decide_eq_true h1,decide_eq_false h2,decide_eq_true h3,if_true,Bool.false_eq_true,if_false]
    walk_at "rd"
    exact⟨Am (by decide),q'⟩
   ·rw[if_neg (fun z=>h3 z.2)]at q'
    simp only[decide_eq_true h1,decide_eq_false h2,decide_eq_false h3,if_true,Bool.false_eq_true,if_false]
    walk_at "rd"
    exact⟨Am (by decide),q'⟩
 ·rw[if_neg (fun z=>h1 z.1),if_neg (fun z=>h1 z.1)]at q'
  simp only[decide_eq_false h1,Bool.false_eq_true,if_false]
  walk_at "rd"
  exact⟨Am (by decide),q'⟩
abbrev Im:DSp:=DP (fun f:I3=>[t3 f]) (fun _=>True) fun f=>.lst ((Dj f).map t4)
def Nm(T:Txt K mg)
  (mJ:Pm P w K mg base 1 "turning_of_least" Ca ["form"] G5)
  (aC:Pm P w K mg base 1 "put_behind" Bv ["one","other"] Cq)
  : Pm P w K mg base 2 "turns_of_least" Cu ["form"] Im:=by
 obtain⟨f,fd,F⟩:=T.iU
 obtain⟨iM,pC,pD⟩:=T.vA
 refine⟨f,fd,F,F.fn.okD CQ (by walk_at "lE") fun cdv A outer s H E hr=>⟨_,(Ae (Aw 1 CQ.nd (Ai Ag mJ (hr.mono (by decide)) rfl (Aa (dv 0) Ad))) (Ae (UG 2 CQ.nd (Aa (Ik (v:=.ref iM) rfl pC rfl pD) Ad)) (Ae (Aw 3 CQ.nd (dv 1)) (Ae (Jl PassesOwn.never (Jo hr.units (dv 3) (Ik (v:=.ref iM) rfl pC rfl pD)) (Ae (Ui 2 (dv 3)) (Aj (Aw 3 CQ.nd (Ai Ag aC (hr.mono (by decide)) rfl (Aa (dv 3) (Aa (dv 1) Ad))))))) (Aj (Uj 2 (Ay (dv 2)))))))),fun ds Q h=>?_⟩⟩
 obtain⟨f,rfl,_,q⟩:=h
 have q':=q _ rfl
 obtain⟨w0,w1,w2,w3⟩:=Ab7 f
 obtain⟨l2,l6⟩:=Q7 f
 have e1:(Dj f).take 1=[(1,0,0,1)]:=by
  rw[List.take_succ,w0]
  rfl
 walk_at "go"
 refine Ar f trivial ?_
 walk_at "rd"
 refine⟨Am (by decide),Jm (fun m ρ=>∃k t,k+m=(Dj f).length∧0<k∧(if k=(Dj f).length then some (1,0,0,1)else(Dj f)[k]?)=some t∧ρ=[some (.is (t3 f)),some (.is (t4 (FP f))),some (.own (((Dj f).take k).map t4)),some (.is (t4 t))]) ((Dj f).length-1) ⟨1,FP f,by omega,by omega,by rw[if_neg (by omega)];exact w1,by rw[e1];rfl⟩ ?_⟩
 rintro m _ ⟨k,t,hk,k0,ht,rfl⟩
 walk_at "rd"
 have hb:B4 2 (FP f):=T5 (List.mem_of_getElem? w1)
 by_cases hl:k=(Dj f).length
 ·rw[if_pos hl]at ht
  cases ht
  refine Fz (by simp) ?_
  rw[hl,List.take_length]
  exact q'
 ·rw[if_neg hl]at ht
  have hlt:k<(Dj f).length:=by omega
  have hne:t≠(1,0,0,1):=fun z=>w2 k k0 hlt (by rw[ht,z])
  obtain⟨x,y,z,w⟩:=t
  refine ift ?_ ⟨by rw[List.length_take,Nat.min_eq_left (by omega)];exact Nat.lt_of_lt_of_le (by omega) (Am (n:=7) (by decide)),Ar ((x,y,z,w),FP f) ⟨(T5 (List.mem_of_getElem? ht)).le (by decide),hb.le (by decide)⟩ ?_⟩
  ·have ez:=Aen (s:=(x,y,z,w)) (t:=(1,0,0,1))
   rw[decide_eq_false hne]at ez
   simp only[Qo,HB,Hv,Ot,Bool.and_true]at ez
   rw[ez]
   rfl
  ·refine⟨m-1,by omega,k+1,_,by omega,by omega,w3 k k0 hlt _ ht,?_⟩
   rw[List.take_add_one,ht,Option.toList_some,List.map_append,List.map_cons,List.map_nil]
def JD(f:I3)(u:I4):List (List Int):=K7 ((Dj (mov f u)).map fun t=>r4 (Ah (Ah u t) (Ao u)))
abbrev MN:DSp:=spec (fun f:I3=>[t3 f]) (fun f=>B3 1500 f∧Bl f) fun f d=>∃u:I4,det u=1∧Ds (mov f u)∧B4 5000 u∧d=.lst ((JD f u).map Cy)
def Vl(T:Txt K mg)
  (pF:Pm P w K mg base 5 "settled" Gg ["form"] Lz)
  (rN:Pm P w K mg base 3 "back" Ko ["turn"] Pu)
  (aC:Pm P w K mg base 1 "put_behind" Bv ["one","other"] Cq)
  (pG:Pm P w K mg base 2 "turns_of_least" Cu ["form"] Im)
  : Pm P w K mg base 6 "own_turns" Ep ["form"] MN:=by
 obtain⟨f,fd,F⟩:=T.qG
 refine⟨f,fd,F,F.fn.okD Hf (by walk_at "lE") fun cdv A outer s H E hr=>⟨_,(Ae (Aw 1 Hf.nd (Ai Ag pF (hr.mono (by decide)) rfl (Aa (dv 0) Ad))) (Ae (Aw 2 Hf.nd (Ac (dv 1) Ab)) (Ae (Aw 3 Hf.nd (Ai Ag rN (hr.mono (by decide)) rfl (Aa (dv 2) Ad))) (Aj (Ay (WX T.fL (Aa (Pq (Fx (sc:=Af Ep) (NN:=["form","lowest","there","home"]) (x:="turn") (N:=["home","there"]) (sl:=[3,2]) rfl rfl (by decide +kernel)) rfl (Kl (Ai Ag pG (hr.mono (by decide)) rfl (Aa (Ac (dv 1) Ab) Ad))) (fun cl C s0 H0 ex=>(Ai Ag aC (hr.mono (by decide)) rfl (Aa (Ai Ag aC (hr.mono (by decide)) rfl (Aa (dv 2) (Aa (dv 0) Ad))) (Aa (dv 1) Ad))))) Ad))))))),fun ds Q h=>?_⟩⟩
 obtain⟨f,rfl,⟨hf,hw⟩,q⟩:=h
 walk_at "go"
 refine Cd f ⟨hf,hw⟩ ?_
 rintro _ ⟨u,rfl,du,Lu,bu,_⟩
 walk_at "rd"
 refine Ar u ⟨bu.le (by decide),du⟩ ?_
 obtain⟨l2,l6⟩:=Q7 (mov f u)
 refine Hr ((Dj (mov f u)).map t4) (fun d=>match d with
  |.tup [.int a,.int b,.int c,.int e]=>t4 (Ah (Ah u (a,b,c,e)) (Ao u))
  |_=>.non) (fun R hR=>?_) (by rw[List.length_map];exact Am (by omega)) (CW rfl (CW rfl Eo)) (fun d hd R hR=>?_) ?_
 ·walk_at "rd"
  exact Ar (mov f u) trivial hR
 ·obtain⟨t,ht,rfl⟩:=List.mem_map.mp hd
  unfold inner
  walk_at "rd"
  have bt:=T5 ht
  refine Ar (u,t) ⟨bu.le (by decide),bt.le (by decide)⟩ ?_
  exact Ar (Ah u t,Ao u) ⟨(bu.then bt).le (by decide),bu.back.le (by decide)⟩ hR
 ·refine⟨(Dj (mov f u)).map fun t=>r4 (Ah (Ah u t) (Ao u)),?_,by rw[List.length_map];omega,fun r hr=>?_,q _ ⟨u,du,Lu,bu,rfl⟩⟩
  ·rw[List.map_map,List.map_map]
   rfl
  ·obtain⟨t,_,rfl⟩:=List.mem_map.mp hr
   simp[r4]
abbrev J7:DSp:=DP (fun p:I3×Int=>[t3 p.1,.int p.2]) (fun p=>B3 8000 p.1∧p.1.2.2≠0) fun p=>t4 (Cw p.1 p.2)
def Ru(T:Txt K mg)
  : Pm P w K mg base 1 "turn_behind" DX ["form","top"] J7:=by
 obtain⟨f,fd,F⟩:=T.lX
 refine⟨f,fd,F,F.fn.okD FJ (by walk_at "lE") fun cdv A outer s H E hr=>⟨_,(Ae (Aw 2 FJ.nd (Ac (dv 0) Ab)) (Ae (Aw 3 FJ.nd (Ac (dv 0) Ab)) (Ae (Aw 4 FJ.nd (Ew (dv 1) (GZ (Ce (dv 1) (dv 2)) (Ax Ab (Ks T.iV (Aa (dv 3) Ad)))))) (Aj (Ay (Bj (Aa Ab (Aa (Dp Ab) (Aa Ab (Aa (Ed (Ce (dv 2) (dv 4)) (Ax Ab (dv 3))) Ad)))))))))),fun ds Q h=>?_⟩⟩
 obtain⟨⟨⟨a,b,c⟩,top⟩,rfl,⟨⟨_,_,hc⟩,h0⟩,q⟩:=h
 have hc:Bt 8000 c:=hc
 have h0:c≠0:=h0
 have two:Bt 2 2:=Bt.aK (by decide)
 have hac:2*ab c≠0:=by rcases Bf c with⟨_,e⟩|⟨_,e⟩<;>omega
 walk_at "go"
 exact⟨two.aY (Anb hc),hac,two.aY hc,Bt.lW (two.mul hc) (by omega),Am (by decide),q _ rfl⟩
abbrev Lb(f:I3)(t:I4):Dt:=.tup [t3 f,t4 t]
abbrev FW:DSp:=DP (fun p:I3×I4×Int=>[Lb p.1 p.2.1,.int p.2.2]) (fun p=>B3 8000 p.1∧p.1.2.2≠0∧B4 300000 p.2.1∧B4 5000 (Cw p.1 p.2.2)) fun p=>Lb (mov p.1 (Cw p.1 p.2.2)) (Ah p.2.1 (Cw p.1 p.2.2))
def Ry(T:Txt K mg)
  (uq:Pm P w K mg base 1 "turn_behind" DX ["form","top"] J7)
  (jj:Pm P w K mg base 3 "moved" G8 ["form","turn"] J6)
  (aC:Pm P w K mg base 1 "put_behind" Bv ["one","other"] Cq)
  : Pm P w K mg base 4 "stop_behind" CZ ["stop","top"] FW:=by
 obtain⟨f,fd,F⟩:=T.lY
 refine⟨f,fd,F,F.fn.okD J3 (by walk_at "lE") fun cdv A outer s H E hr=>⟨_,(Ae (Aw 2 J3.nd (Ai Ag uq (hr.mono (by decide)) rfl (Aa (Ac (dv 0) Ab) (Aa (dv 1) Ad)))) (Aj (Ay (Bj (Aa (Ai Ag jj (hr.mono (by decide)) rfl (Aa (Ac (dv 0) Ab) (Aa (dv 2) Ad))) (Aa (Ai Ag aC (hr.mono (by decide)) rfl (Aa (Ac (dv 0) Ab) (Aa (dv 2) Ad))) Ad)))))),fun ds Q h=>?_⟩⟩
 obtain⟨⟨f,t,top⟩,rfl,⟨hf,h0,ht,hb⟩,q⟩:=h
 walk_at "go"
 exact Ar (f,top) ⟨hf,h0⟩ (Ar (f,Cw f top) ⟨B3.le hf (by decide),B4.le hb (by decide),CJ⟩ (Ar (t,Cw f top) ⟨B4.le ht (by decide),B4.le hb (by decide)⟩ ⟨Am (by decide),q _ rfl⟩))
def EI(far:Int)(f:I3):Nat→I4
 |0=>(1,0,0,1)
 |k+1=>Ah (EI far f k) (Cw (mov f (EI far f k)) (if far>ab (mov f (EI far f k)).2.2 then far else ab (mov f (EI far f k)).2.2))
def QZ(far:Int)(f:I3)(t:I4):Prop:=∃k,t=EI far f k∧(∀i,i<k→¬Level (mov f (EI far f i)) far)∧Level (mov f (EI far f k)) far
theorem QZ.uniq{far:Int}{f:I3}{t u:I4}(a:QZ far f t)(b:QZ far f u):t=u:=by
 obtain⟨k,rfl,n1,h1⟩:=a
 obtain⟨l,rfl,n2,h2⟩:=b
 rcases Nat.lt_trichotomy k l with z|z|z
 ·exact absurd h1 (n2 k z)
 ·rw[z]
 ·exact absurd h2 (n1 l z)
def Ak8(f:I3)(d:Dt):Prop:=∃(t:I4)(far:Int),d=Lb (mov f t) t∧det t=1∧Sq (meas f) far∧Level (mov f t) far∧B4 7600 t∧QZ far f t
abbrev WR:DSp:=spec (fun f:I3=>[t3 f]) (fun f=>B3 1500 f∧Sad f) Ak8
def Wa{f:I3}(S:Sad f):0≤meas f∧Bt 4000 (meas f):=by
 have:=S.pos
 have:=S.most
 exact⟨by omega,Bt.le (n:=13) (Bt.of (by omega) (by omega)) (by decide)⟩
def Ad5(T:Txt K mg)
  (rP:Pm P w K mg base 4 "check_saddle" BW ["form"] JQ)
  (mF:Pm P w K mg base 1 "root" Jw ["number"] Mw)
  (aZ:Pm P w K mg base 1 "measure" Dh ["form"] Fg)
  (rQ:Pm P w K mg base 1 "stands_level" Dr ["form","far"] JZ)
  (fG:Pm P w K mg base 4 "stop_behind" CZ ["stop","top"] FW)
  : Pm P w K mg base 5 "eased" KC ["form"] WR:=by
 obtain⟨f,fd,F⟩:=T.aaC
 obtain⟨iM,pC,pD⟩:=T.vA
 refine⟨f,fd,F,F.fn.okD Nj (by walk_at "lE") fun cdv A outer s H E hr=>⟨_,(Ae (Ng (Ai Ag rP (hr.mono (by decide)) rfl (Aa (dv 0) Ad))) (Ae (Aw 1 Nj.nd (Ai Ag mF (hr.mono (by decide)) rfl (Aa (Ai Ag aZ (hr.mono (by decide)) rfl (Aa (dv 0) Ad)) Ad))) (Ae (Aw 2 Nj.nd (Bj (Aa (dv 0) (Aa (Ik (v:=.ref iM) rfl pC rfl pD) Ad)))) (Ae (Jl PassesOwn.never (Rf (QC (Ai Ag rQ (hr.mono (by decide)) rfl (Aa (Ac (dv 2) Ab) (Aa (dv 1) Ad))))) (Aj (Aw 2 Nj.nd (Ai Ag fG (hr.mono (by decide)) rfl (Aa (dv 2) (Aa (Aks T.uY (Aa (Ks T.iV (Aa (Ac (Ac (dv 2) Ab) Ab) Ad)) (Aa (dv 1) Ad))) Ad)))))) (Aj (Ay (dv 2))))))),fun ds Q h=>?_⟩⟩
 obtain⟨f,rfl,⟨hb,hS⟩,q⟩:=h
 have hS:Sad f:=hS
 have hb:B3 1500 f:=hb
 walk_at "go"
 refine Ar f ⟨hb,hS⟩ (Ar f (hb.le (by decide)) (Cd (meas f) (Wa hS) ?_))
 rintro _ ⟨far,rfl,hr',hfb⟩
 walk_at "rd"
 refine⟨Am (by decide),?_⟩
 refine Jm (fun m ρ=>∃k,(∀i,i<k→¬Level (mov f (EI far f i)) far)∧ρ=[some (.is (t3 f)),some (.is (.int far)),some (.is (Lb (mov f (EI far f k)) (EI far f k)))]∧R0 1500 far f (EI far f k)∧m=eM far (mov f (EI far f k))) _ ⟨0,fun _ h=>absurd h (by omega),by show _=[_,_,some (En.is (Lb (mov f (1,0,0,1)) (1,0,0,1)))];rw[Fd],R0.start (by decide) hb,rfl⟩ ?_
 rintro m _ ⟨k,nl,rfl,hI,rfl⟩
 have ek:EI far f (k+1)=Ah (EI far f k) (Cw (mov f (EI far f k)) (if far>ab (mov f (EI far f k)).2.2 then far else ab (mov f (EI far f k)).2.2)):=rfl
 obtain⟨t,et⟩:∃t,t=EI far f k:=⟨_,rfl⟩
 rw[←et]at hI ek ⊢
 have hd:=hI.1
 have hg:=hI.2.1
 have ht:=hI.b4
 walk_at "rd"
 refine Ar (mov f t,far) (hg.le (by decide)) ?_
 walk_at "rd"
 by_cases hL:Level (mov f t) far
 ·exact Fz (by rw[decide_eq_true hL];rfl) (q _ ⟨t,far,rfl,hd,hr',hL,ht.le (by decide),k,et,nl,by rw[←et];exact hL⟩)
 ·refine ift (by rw[decide_eq_false hL];rfl) ?_
  have hst:=AbQ (by decide) hS hr' hI hL
  refine Ar (mov f t,t,_) ⟨hg.le (by decide),Jj (hS.mov hd),ht.le (by decide),hst.2.2.le (by decide)⟩ ?_
  dsimp only
  rw[Bd]
  refine⟨_,hst.2.1,k+1,fun i hi=>?_,by rw[ek];rfl,by rw[ek];exact hst.1,by rw[ek]⟩
  rcases Nat.lt_or_ge i k with z|z
  ·exact nl i z
  ·rw[show i=k by omega,←et];exact hL
structure NZ(f:I3)(t0:I4)(far:Int)(N:Nat):Prop where
 d:det t0=1
 r:Sq (meas f) far
 v:Lv far (mov f t0)
 b:B4 7600 t0
 n:0<N
 m:N≤8128
 e:rF far N (mov f t0)=mov f t0
 l:∀j,0<j→j<N→rF far j (mov f t0)≠mov f t0
 a:QZ far f t0
abbrev GX(f:I3)(t0:I4)(far:Int)(i:Nat):Dt:=Lb (rF far i (mov f t0)) (Ah t0 (rT far i (mov f t0)))
theorem NZ.bt{f:I3}{t0:I4}{far:Int}{N:Nat}(R:NZ f t0 far N)(i:Nat)(h:i≤N):B4 90000 (Ah t0 (rT far i (mov f t0))):=by
 have:=R.m
 exact(B4.then R.b (Ah0 i R.v)).le (by omega)
abbrev Kg:DSp:=spec (fun f:I3=>[t3 f]) (fun f=>B3 1500 f∧Sad f) fun f d=>∃t0 far N,NZ f t0 far N∧d=.lst ((List.range (N+1)).map (GX f t0 far))
def AgP{n:Nat}(h:n≤9000):n<PySem.sizeLine:=by unfold PySem.sizeLine;omega
def Qh(T:Txt K mg)
  (mF:Pm P w K mg base 1 "root" Jw ["number"] Mw)
  (abV:Pm P w K mg base 5 "eased" KC ["form"] WR)
  (fG:Pm P w K mg base 4 "stop_behind" CZ ["stop","top"] FW)
  (aZ:Pm P w K mg base 1 "measure" Dh ["form"] Fg)
  : Pm P w K mg base 6 "stops_round" DY ["form"] Kg:=by
 obtain⟨f,fd,F⟩:=T.lZ
 refine⟨f,fd,F,F.fn.okD Dm (by walk_at "lE") fun cdv A outer s H E hr=>⟨_,(Ae (Aw 1 Dm.nd (Ai Ag mF (hr.mono (by decide)) rfl (Aa (Ai Ag aZ (hr.mono (by decide)) rfl (Aa (dv 0) Ad)) Ad))) (Ae (Aw 2 Dm.nd (Ai Ag abV (hr.mono (by decide)) rfl (Aa (dv 0) Ad))) (Ae (UG 3 Dm.nd (Aa (dv 2) Ad)) (Ae (Aw 4 Dm.nd (Ai Ag fG (hr.mono (by decide)) rfl (Aa (dv 2) (Aa (dv 1) Ad)))) (Ae (Jl PassesOwn.never (Jo hr.units (Ac (dv 4) Ab) (Ac (dv 2) Ab)) (Ae (Ui 3 (dv 4)) (Aj (Aw 4 Dm.nd (Ai Ag fG (hr.mono (by decide)) rfl (Aa (dv 4) (Aa (dv 1) Ad))))))) (Ae (Ui 3 (dv 4)) (Aj (Uj 3 (Ay (dv 3)))))))))),fun ds Q h=>?_⟩⟩
 obtain⟨f,rfl,⟨hb,hS⟩,q⟩:=h
 have hS:Sad f:=hS
 have hb:B3 1500 f:=hb
 walk_at "go"
 refine Ar f (hb.le (by decide)) (Cd (meas f) (Wa hS) ?_)
 rintro _ ⟨far,rfl,hr',hfb⟩
 refine Cd f ⟨hb,hS⟩ ?_
 rintro _ ⟨t0,gW,rfl,dt,hs,hL,bt,ea⟩
 obtain rfl:=hs.uniq hr'
 have hv:Lv gW (mov f t0):=⟨hS.mov dt,by rw[BJ dt];exact hs,hL⟩
 obtain⟨N,n0,nm,ne,nl⟩:=Vq hv
 have R:NZ f t0 gW N:=⟨dt,hs,hv,bt,n0,nm,ne,nl,ea⟩
 walk_at "rd"
 refine⟨Am (by decide),?_⟩
 have stp:∀{Q:Dt→Prop} (i:Nat),i≤N→Q (GX f t0 gW (i+1))→FW [GX f t0 gW i,.int gW] Q:=fun{Q} i hi h=>by
  have hi':=Lv.rF i hv
  refine Ar (rF gW i (mov f t0),Ah t0 (rT gW i (mov f t0)),gW) ⟨(Ae8 hi'.S hi'.r hi'.L).le (by decide),Jj hi'.S,(R.bt i hi).le (by decide),(Qc (Za hi') (by decide)).le (by decide)⟩ ?_
  have h:Q (Lb (rF gW (i+1) (mov f t0)) (Ah t0 (rT gW (i+1) (mov f t0)))):=h
  rw[Aax,Zb,←then_assoc]at h
  exact h
 have e0:Lb (mov f t0) t0=GX f t0 gW 0:=by
  show Lb (mov f t0) t0=Lb (mov f t0) (Ah t0 (1,0,0,1))
  rw[Dl]
 rw[e0]
 refine stp 0 (by omega) ?_
 have last:(List.range (N+1)).map (GX f t0 gW)=(List.range N).map (GX f t0 gW)++[GX f t0 gW N]:=by rw[List.range_succ,List.map_append];rfl
 refine Jm (fun m ρ=>∃i:Nat,1≤i∧i≤N∧ρ=[some (.is (t3 f)),some (.is (.int gW)),some (.is (GX f t0 gW 0)),some (.own ((List.range i).map (GX f t0 gW))),some (.is (GX f t0 gW i))]∧m=N-i) _ ⟨1,by omega,by omega,rfl,rfl⟩ ?_
 rintro m _ ⟨i,i1,iN,rfl,rfl⟩
 walk_at "rd"
 have hl:(List.range i).length<sizeLine:=by rw[List.length_range];exact AgP (by omega)
 refine Ie (fun hw=>?_) (fun hw=>?_)
 ·have hi:i<N:=by
   rcases Nat.lt_or_ge i N with z|z
   ·exact z
   ·exfalso
    have:i=N:=by omega
    subst this
    rw[ne]at hw
    simp[rF]at hw
  refine⟨hl,stp i iN ⟨N-(i+1),by omega,i+1,by omega,by omega,?_,rfl⟩⟩
  rw[List.range_succ,List.map_append];rfl
 ·have hi:i=N:=by
   rcases Nat.lt_or_ge i N with z|z
   ·exfalso
    refine nl i (by omega) z ?_
    have hw:rF gW i (mov f t0)=rF gW 0 (mov f t0):=by
     generalize rF gW i (mov f t0)=g at *
     generalize rF gW 0 (mov f t0)=g' at *
     obtain⟨a,b,c⟩:=g
     obtain⟨a',b',c'⟩:=g'
     simp at hw
     obtain⟨h1,h2,h3⟩:=hw
     rw[h1,h2,h3]
    exact hw
   ·omega
  subst hi
  refine⟨hl,q _ ⟨t0,gW,i,R,?_⟩⟩
  rw[last]
def O8(f:I3):List Int:=[f.1,f.2.1,f.2.2]
def Aji(t:I4):List Int:=[t.1,t.2.1,t.2.2.1,t.2.2.2]
def AoG(f:I3)(t0:I4)(far:Int)(N:Nat):List (List Int×List Int):=(List.range (N+1)).map fun i=>(O8 (rF far i (mov f t0)),Aji (Ah t0 (rT far i (mov f t0))))
def Low(f:I3)(d:Dt):Prop:=∃t0 far N j,NZ f t0 far N∧j≤N∧(∀i,i≤N→HT.lexLt (O8 (rF far i (mov f t0))) (O8 (rF far j (mov f t0)))=false)∧d=GX f t0 far j∧j=Ld (AoG f t0 far N)
abbrev Om:J1:=JV (fun f:I3=>[t3 f]) (fun f=>B3 1500 f) Sad Low RQ
def QJ(bt:Nat→Nat→Bool):∀k,argBest bt k≤k
 |0=>Nat.le_refl _
 | k+1=>by
  have:=QJ bt k
  unfold argBest
  split<;>omega
def Iz(bt:Nat→Nat→Bool)(ir:∀i,bt i i=false)(tr:∀a b c,bt a b=true→bt b c=true→bt a c=true):∀k j,j≤k→bt j (argBest bt k)=false
 | 0,j,h=>by
  have:j=0:=by omega
  subst this
  exact ir 0
 | k+1,j,h=>by
  unfold argBest
  split
  ·rename_i hb
   rcases Nat.lt_or_ge j (k+1)with z|z
   ·cases q:bt j (k+1)with
    |false=>rfl
    | true =>
     have:=Iz bt ir tr k j (by omega)
     rw[tr _ _ _ q hb]at this
     cases this
   ·have:j=k+1:=by omega
    subst this
    exact ir _
  ·rename_i hb
   rcases Nat.lt_or_ge j (k+1)with z|z
   ·exact Iz bt ir tr k j (by omega)
   ·have:j=k+1:=by omega
    subst this
    simpa using hb
theorem Xx:∀a b c:List Int,HT.lexLt a b=true→HT.lexLt b c=true→HT.lexLt a c=true
 | [],[],_,h,_=>by cases h
 | [],_::_,[],_,h=>by cases h
 | [],_::_,_::_,_,_=>rfl
 |_::_,[],_,h,_=>by cases h
 |_::_,_::_,[],_,h=>by cases h
 | x::a,y::b,z::c,h1,h2=>by
  rw[HT.HS]at h1 h2 ⊢
  by_cases e1:x=y
  ·subst e1
   rw[if_pos rfl]at h1
   by_cases e2:x=z
   ·subst e2
    rw[if_pos rfl]at h2 ⊢
    exact Xx a b c h1 h2
   ·rw[if_neg e2]at h2 ⊢
    exact h2
  ·rw[if_neg e1]at h1
   have h1:=of_decide_eq_true h1
   by_cases e2:y=z
   ·subst e2
    rw[if_neg e1]
    exact decide_eq_true h1
   ·rw[if_neg e2]at h2
    have h2:=of_decide_eq_true h2
    rw[if_neg (by omega)]
    exact decide_eq_true (by omega)
def AgI(a b c:List Int×List Int)(h1:FZ a b=true)(h2:FZ b c=true):FZ a c=true:=by
 unfold FZ at *
 by_cases e1:a.1=b.1
 ·rw[if_pos e1]at h1
  by_cases e2:b.1=c.1
  ·rw[if_pos e2]at h2
   rw[if_pos (e1.trans e2)]
   exact Xx _ _ _ h1 h2
  ·rw[if_neg e2]at h2
   rw[if_neg (by rw[e1];exact e2),e1]
   exact h2
 ·rw[if_neg e1]at h1
  by_cases e2:b.1=c.1
  ·rw[←e2,if_neg e1]
   exact h1
  ·rw[if_neg e2]at h2
   have h3:=Xx _ _ _ h1 h2
   by_cases e3:a.1=c.1
   ·rw[e3,Nf]at h3
    cases h3
   ·rw[if_neg e3]
    exact h3
def AdZ(a:List Int×List Int):FZ a a=false:=by
 unfold FZ
 rw[if_pos rfl,Nf]
def AdV{a b:List Int×List Int}(h:FZ a b=false):HT.lexLt a.1 b.1=false:=by
 unfold FZ at h
 by_cases e:a.1=b.1
 ·rw[e];exact Nf _
 ·rw[if_neg e]at h;exact h
def Wl(T:Txt K mg)
  (qN:PmX P w K mg base 4 "check_saddle" BW ["form"] Gh)
  (ur:Pm P w K mg base 6 "stops_round" DY ["form"] Kg)
  : PmX P w K mg base 7 "lowered" Hu ["form"] Om:=by
 obtain⟨f,fd,F⟩:=T.uX
 refine⟨f,fd,F,F.fn.okX Yl (fun ds Q E ⟨p,e,_⟩=>by rw[e];rfl) fun cdv A outer s H E hr=>⟨_,(Bs (Kv (Dq Bo qN (hr.mono (by decide)) rfl (Aa (dv 0) Ad))) (Bu (GF (Ay (Agw T.uZ (AiR hr.units) (Aa (Ai Ag ur (hr.mono (by decide)) rfl (Aa (dv 0) Ad)) Ad)))))),fun ds Q Ex h=>?_⟩⟩
 obtain⟨f,rfl,hb,q,x⟩:=h
 walk_at "go"
 refine Di f hb (fun hS _ _=>?_) x
 refine Cd f ⟨hb,hS⟩ ?_
 rintro _ ⟨t0,far,N,R,rfl⟩
 have nm:=R.m
 let ps:List (List Int×List Int):=(List.range (N+1)).map fun i=>(O8 (rF far i (mov f t0)),Aji (Ah t0 (rT far i (mov f t0))))
 have lp:ps.length=N+1:=by show((List.range (N+1)).map _).length=_;rw[List.length_map,List.length_range]
 have ep:(List.range (N+1)).map (GX f t0 far)=ps.map Oe:=by
  show _=((List.range (N+1)).map _).map Oe
  rw[List.map_map]
  rfl
 have at':∀i,i≤N→ps.getD i ([],[])=(O8 (rF far i (mov f t0)),Aji (Ah t0 (rT far i (mov f t0)))):=fun i hi=>by
  show((List.range (N+1)).map _).getD i _=_
  simp[List.getD,show i<N+1 by omega]
 have kl:Ld ps≤N:=by
  have:=QJ (fun i j=>FZ (ps.getD i ([],[])) (ps.getD j ([],[]))) (ps.length-1)
  unfold Ld
  omega
 have least:∀i,i≤N→FZ (ps.getD i ([],[])) (ps.getD (Ld ps) ([],[]))=false:=fun i hi =>
  Iz (fun i j=>FZ (ps.getD i ([],[])) (ps.getD j ([],[]))) (fun _=>AdZ _) (fun _ _ _ h1 h2=>AgI _ _ _ h1 h2) _ i (by omega)
 refine⟨ps,by rw[ep],by omega,by omega,q hS _ ⟨t0,far,N,Ld ps,R,kl,fun i hi=>?_,?_,rfl⟩⟩
 ·have:=AdV (least i hi)
  rw[at' i hi,at' _ kl]at this
  exact this
 ·rw[at' _ kl]
  rfl
abbrev RM(c:Str)(f:I3)(d:Dt):Dt:=.obj c ["form","measure","lowest"] [t3 f,.int (meas f),d]
abbrev Nu:DIn:=Z4 (fun p:I3×Dt=>[t3 p.1,p.2]) (fun p=>B3 1500 p.1) fun p fds=>fds=[t3 p.1,.int (meas p.1),p.2]
abbrev Xc:DIn:=Z4 (fun f:I3=>[t3 f]) (fun f=>B3 1500 f∧Bl f) fun f fds=>∃d,Kz f d∧fds=[t3 f,.int (meas f),d]
def Abh(T:Txt K mg)
  (aZ:Pm P w K mg base 1 "measure" Dh ["form"] Fg)
  : PmC P w K mg base 2 "Shape" ["form","measure","lowest"] Nu:=by
 obtain⟨g,fd,M,F,B⟩:=T.wV
 refine⟨g,fd,_,M,B,F.ok AbX (fun vs H Q E ⟨x,C,dx,ys,F',ds,e,_,_,_,_,_,r,h⟩=>by obtain⟨p,ed,_⟩:=h;rw[e,List.length_cons,r.len,ed];rfl) fun cdv A outer s H vs Q E hr ⟨x,C,dx,ys,F',ds,e,hx,cl,no,xF,th,r,h⟩=>?_⟩
 subst e
 refine⟨_,AdF (dv 1) (Ai Ag aZ (hr.mono (by decide)) rfl (Aa (dv 1) Ad)) (dv 2) (by decide) (by decide) (by decide),mask [x] H,F',JF ["self","form","lowest"] ds,x,C,dx,(fun fds:List Dt=>∀(ws:List V)(H':Hp),Same (mask [x] H) H'→H' x=some (.ins C dx (List.zip ["form","measure","lowest"] ws))→List.length ["form","measure","lowest"]=fds.length→RpL K (mask F' H') fds ws→Q .non H'),Lq xF th r,xF,Dz (by simp),rfl,hx,cl,no,?_,fun fds w ws H' s1 h1 h2 h3=>w ws H' s1 h1 h2 h3⟩
 revert h
 generalize (fun fds:List Dt=>∀(ws:List V)(H':Hp),Same (mask [x] H) H'→H' x=some (.ins C dx (List.zip ["form","measure","lowest"] ws))→List.length ["form","measure","lowest"]=fds.length→RpL K (mask F' H') fds ws→Q .non H')=S
 intro h
 obtain⟨⟨f,l⟩,rfl,hb,hq⟩:=h
 have hb:B3 1500 f:=hb
 have e:JF ["self","form","lowest"] [t3 f,l]=[none,some (.is (t3 f)),some (.is l)]:=rfl
 dsimp only
 rw[e]
 walk_at "rd"
 exact Ar f (hb.le (by decide)) (hq _ rfl)
def AdG(T:Txt K mg)
  (rR:PmC P w K mg base 2 "Shape" ["form","measure","lowest"] Nu)
  (pF:Pm P w K mg base 5 "settled" Gg ["form"] Lz)
  : PmI P w K mg base 6 "Bowl" ["form","measure","lowest"] Xc:=by
 obtain⟨C0,f,fd,M,F,B⟩:=T.abp
 obtain⟨gC,fdC,psC,MC,BC,GC⟩:=rR
 refine⟨C0,f,fd,_,M,B,F.ok AcP (fun vs H Q E ⟨x,C,dx,ys,F',ds,e,_,_,_,_,_,r,h⟩=>by obtain⟨p,ed,_⟩:=h;rw[e,List.length_cons,r.len,ed];rfl) fun cdv A outer s H vs Q E hr ⟨x,C,dx,ys,F',ds,e,hx,cl,no,xF,th,r,h⟩=>?_⟩
 subst e
 refine⟨_,Adh Ly MC rfl GC BC (hr.mono (by decide)) (Aa (dv 1) (Aa (Ai Ag pF (hr.mono (by decide)) rfl (Aa (dv 1) Ad)) Ad)),mask [x] H,F',JF ["self","form"] ds,x,C,dx,(fun fds:List Dt=>∀(ws:List V)(H':Hp),Same (mask [x] H) H'→H' x=some (.ins C dx (List.zip ["form","measure","lowest"] ws))→List.length ["form","measure","lowest"]=fds.length→RpL K (mask F' H') fds ws→Q .non H'),Lq xF th r,xF,Dz (by simp),rfl,hx,cl,no,?_,fun fds w ws H' s1 h1 h2 h3=>w ws H' s1 h1 h2 h3⟩
 revert h
 generalize (fun fds:List Dt=>∀(ws:List V)(H':Hp),Same (mask [x] H) H'→H' x=some (.ins C dx (List.zip ["form","measure","lowest"] ws))→List.length ["form","measure","lowest"]=fds.length→RpL K (mask F' H') fds ws→Q .non H')=S
 intro h
 obtain⟨f,rfl,⟨hb,hw⟩,hq⟩:=h
 have e:JF ["self","form"] [t3 f]=[none,some (.is (t3 f))]:=rfl
 rw[e]
 walk_at "rd"
 refine Cd f ⟨hb,hw⟩ fun d hd=>?_
 refine QK (f,d) hb ?_
 rintro _ rfl
 exact hq _ ⟨d,hd,rfl⟩
abbrev Oq:X3:=Ve (fun f:I3=>[t3 f]) (fun f=>B3 1500 f) Sad (fun f fds=>∃d,Low f d∧fds=[t3 f,.int (meas f),d]) RQ
def W0(T:Txt K mg)
  (rR:PmC P w K mg base 2 "Shape" ["form","measure","lowest"] Nu)
  (zf:PmX P w K mg base 7 "lowered" Hu ["form"] Om)
  : Ajc P w K mg base 8 "Saddle" ["form","measure","lowest"] Oq:=by
 obtain⟨C0,f,fd,M,F,B⟩:=T.wU
 obtain⟨gC,fdC,psC,MC,BC,GC⟩:=rR
 refine⟨C0,f,fd,_,M,B,F.okE YF (fun vs H Q E ⟨x,C,dx,ys,F',ds,e,_,_,_,_,_,r,h⟩=>by obtain⟨p,ed,_⟩:=h;rw[e,List.length_cons,r.len,ed];rfl) fun cdv A outer s H vs Q E hr ⟨x,C,dx,ys,F',ds,e,hx,cl,no,xF,th,r,h⟩=>?_⟩
 subst e
 refine⟨_,AbY Ly MC rfl GC BC (hr.mono (by decide)) (AbF (dv 1) (AcE (Dq Bo zf (hr.mono (by decide)) rfl (Aa (dv 1) Ad)) Ad)),mask [x] H,F',JF ["self","form"] ds,x,C,dx,(fun fds:List Dt=>∀(ws:List V)(H':Hp),Same (mask [x] H) H'→H' x=some (.ins C dx (List.zip ["form","measure","lowest"] ws))→List.length ["form","measure","lowest"]=fds.length→RpL K (mask F' H') fds ws→Q .non H'),(fun y:Dt=>∀(a:Addr)(H':Hp),Same (mask [x] H) H'→Rp K (mask F' H') y (.ref a)→E (.ref a) none H'),Lq xF th r,xF,Dz (by simp),rfl,hx,cl,no,?_,fun fds w ws H' s1 h1 h2 h3=>w ws H' s1 h1 h2 h3,fun y w a H' s1 r1=>Zu fun H2 s2=>w a H2 (s1.trans s2) (r1.mono s2.mask)⟩
 revert h
 generalize (fun fds:List Dt=>∀(ws:List V)(H':Hp),Same (mask [x] H) H'→H' x=some (.ins C dx (List.zip ["form","measure","lowest"] ws))→List.length ["form","measure","lowest"]=fds.length→RpL K (mask F' H') fds ws→Q .non H')=S
 generalize (fun y:Dt=>∀(a:Addr)(H':Hp),Same (mask [x] H) H'→Rp K (mask F' H') y (.ref a)→E (.ref a) none H')=Ex
 intro h
 obtain⟨f,rfl,hb,hq,hx⟩:=h
 have e:JF ["self","form"] [t3 f]=[none,some (.is (t3 f))]:=rfl
 rw[e]
 walk_at "rd"
 refine Di f hb (fun hS d hd=>?_) hx
 refine QK (f,d) hb ?_
 rintro _ rfl
 exact hq hS _ ⟨d,hd,rfl⟩
def Rt(f:I3):Prop:=Bl f∨Sad f
def An9(f:I3)(d:Dt):Prop:=∃l,(Bl f∧Kz f l∧d=RM "Bowl" f l)∨(Sad f∧Low f l∧d=RM "Saddle" f l)
abbrev JK:J1:=JV (fun f:I3=>[t3 f]) (fun f=>B3 1500 f) Rt An9 RQ
def TY(T:Txt K mg)
  (abW:PmI P w K mg base 6 "Bowl" ["form","measure","lowest"] Xc)
  (zj:Ajc P w K mg base 8 "Saddle" ["form","measure","lowest"] Oq)
  (jh:Pm P w K mg base 3 "shape" Hg ["form"] Kp)
  : PmX P w K mg base 10 "shape_of" DK ["form"] JK:=by
 obtain⟨f,fd,F⟩:=T.rH
 refine⟨f,fd,F,F.fn.okX Wk (fun ds Q E ⟨p,e,_⟩=>by rw[e];rfl) fun cdv A outer s H E hr=>⟨_,(Bs (GF (CV (Fj hr.units (Ai Ag jh (hr.mono (by decide)) rfl (Aa (dv 0) Ad)) JN) (Aj (Ay (Acw Ly abW (hr.mono (by decide)) rfl (Aa (dv 0) Ad)))) Bq)) (Bu (Aav (Abe WW zj (hr.mono (by decide)) rfl (Aa (dv 0) Ad))))),fun ds Q Ex h=>?_⟩⟩
 obtain⟨f,rfl,hb,q,x⟩:=h
 have hb:B3 1500 f:=hb
 walk_at "go"
 refine Cd f hb ?_
 rintro _ hs
 have fb:∀x:Str,(PySem.PyData.str x).canLay0=true→Dt.flat 8 (.str x)=true:=fun x h=>by rw[GJ];exact h
 have f1:Dt.flat 8 (.str "bowl")=true:=fb _ (by decide +kernel)
 have mkS:¬Bl f→Ve (fun f:I3=>[t3 f]) (fun f=>B3 1500 f) Sad (fun f fds=>∃d,Low f d∧fds=[t3 f,Dt.int (meas f),d]) RQ [t3 f] (fun fds=>Q (Dt.obj "Saddle" ["form","measure","lowest"] fds)) Ex:=fun nB=>by
  refine Abb f hb (fun hS=>?_) fun nS=>x fun z=>z.elim nB nS
  rintro _ ⟨l,hl,rfl⟩
  exact q (.inr hS) _ ⟨l,.inr ⟨hS,hl,rfl⟩⟩
 cases hs with
 |flat z=>exact⟨⟨fb _ (by decide +kernel),f1⟩,Fz (by rw[Hz];rfl) (mkS fun h=>absurd z (MP h.2))⟩
 |saddle _ z=>exact⟨⟨fb _ (by decide +kernel),f1⟩,Fz (by rw[Hz];rfl) (mkS fun h=>by have:=h.2;omega)⟩
 |dome _ z1 z2=>exact⟨⟨fb _ (by decide +kernel),f1⟩,Fz (by rw[Hz];rfl) (mkS fun h=>z2 h.1)⟩
 | bowl n z1 z2 =>
  have hw:Bl f:=⟨z2,by have h0:¬meas f=0:=fun e=>n (by rw[e];exact⟨0,rfl⟩);omega⟩
  refine⟨⟨f1,f1⟩,ift (by rw[Hz];rfl) (QK f ⟨hb,hw⟩ ?_)⟩
  rintro _ ⟨l,hl,rfl⟩
  exact q (.inl hw) _ ⟨l,.inl ⟨hw,hl,rfl⟩⟩
def LF(f g:I3):Prop:=(Bl f∧∃t,det t=1∧Ds (mov f t)∧g=mov f t)∨(Sad f∧∃t0 far N j,NZ f t0 far N∧j≤N∧(∀i,i≤N→HT.lexLt (O8 (rF far i (mov f t0))) (O8 (rF far j (mov f t0)))=false)∧g=rF far j (mov f t0))
def AfC{f g:I3}(h1:HT.lexLt (O8 f) (O8 g)=false)(h2:HT.lexLt (O8 g) (O8 f)=false):f=g:=by
 obtain⟨x1,x2,x3⟩:=f
 obtain⟨y1,y2,y3⟩:=g
 simp only[O8,HT.HS,HT.Jd]at h1 h2
 have e1:x1=y1:=by
  rcases Int.lt_trichotomy x1 y1 with z|z|z
  ·rw[if_neg (by omega)]at h1;simp at h1;omega
  ·exact z
  ·rw[if_neg (by omega)]at h2;simp at h2;omega
 subst e1
 rw[if_pos rfl]at h1 h2
 have e2:x2=y2:=by
  rcases Int.lt_trichotomy x2 y2 with z|z|z
  ·rw[if_neg (by omega)]at h1;simp at h1;omega
  ·exact z
  ·rw[if_neg (by omega)]at h2;simp at h2;omega
 subst e2
 rw[if_pos rfl]at h1 h2
 have e3:x3=y3:=by
  rcases Int.lt_trichotomy x3 y3 with z|z|z
  ·rw[if_neg (by omega)]at h1;simp at h1;omega
  ·exact z
  ·rw[if_neg (by omega)]at h2;simp at h2;omega
 rw[e3]
def Lr{far:Int}{g:I3}{N:Nat}(e:rF far N g=g):∀q,rF far (N*q) g=g
 |0=>rfl
 |q+1=>by rw[Nat.mul_succ,GR,Lr e q,e]
def AaJ{far:Int}{g:I3}{N:Nat}(e:rF far N g=g)(n0:0<N)(n:Nat):∃i,i≤N∧rF far n g=rF far i g:=by
 have h1:=Nat.mod_lt n n0
 have h2:=Nat.div_add_mod n N
 refine⟨n % N,by omega,?_⟩
 have:rF far (N*(n / N)+n % N) g=rF far (n % N) g:=by rw[GR,Lr e]
 rw[h2]at this
 exact this
def Tj{far:Int}{g h:I3}{N m:Nat}(e:rF far N h=h)(n0:0<N)(k:rF far m h=g):∃j,rF far j g=h:=by
 refine⟨N*m-m,?_⟩
 rw[←k,←GR]
 have:m≤N*m:=Nat.le_mul_of_pos_left m n0
 rw[show m+(N*m-m)=N*m by omega,Lr e]
abbrev J8:DSp:=spec (fun f:I3=>[t3 f]) (fun f=>B3 1500 f∧(Bl f∨Sad f)) fun f d=>∃l,(Bl f∧Kz f l∧d=RM "Bowl" f l)∨(Sad f∧Low f l∧d=RM "Saddle" f l)
def Wd{P:Program}{w:World}{K:W.Frag}{mg:Str→Option Value}{base:Heap}(G:PmX P w K mg base 10 "shape_of" DK ["form"] JK)
  : Pm P w K mg base 10 "shape_of" DK ["form"] J8:=by
 refine G.pm Bo fun ds Q h=>?_
 obtain⟨f,e,⟨hb,hk⟩,q⟩:=h
 exact⟨f,e,hb,fun _ d z=>q d z,fun z=>absurd hk z⟩
def Ga(f:I3)(l:Dt):Prop:=(Bl f∧Kz f l)∨(Sad f∧Low f l)
theorem Ga.uniq{f:I3}{l m:Dt}(A:Ga f l)(B:Ga f m):l=m:=by
 rcases A with⟨hb,t,rfl,_,_,_,a⟩|⟨hS,t0,far,N,j,R,_,_,rfl,ej⟩<;>rcases B with⟨hb',u,rfl,_,_,_,b⟩|⟨hS',t1,ace,N1,k,R1,_,_,rfl,ek⟩
 ·rw[a.uniq b]
 ·have:=hb.2;have:=hS'.pos;omega
 ·have:=hb'.2;have:=hS.pos;omega
 ·have ef:far=ace:=R.r.uniq R1.r
  subst ef
  have et:=R.a.uniq R1.a
  subst et
  have en:N=N1:=by
   rcases Nat.lt_trichotomy N N1 with z|z|z
   ·exact absurd R.e (R1.l N R.n z)
   ·exact z
   ·exact absurd R1.e (R.l N1 R1.n z)
  subst en
  rw[ej,ek]
theorem LF.same{f h g g':I3}{x:I4}(A:LF f g)(B:LF h g')(dx:det x=1)(ex:mov f x=h):g=g':=by
 have hm:meas h=meas f:=by rw[←ex,BJ dx]
 rcases A with⟨hb,t,dt,Lt,rfl⟩|⟨hS,t0,far,N,j,R,jl,lj,rfl⟩<;>rcases B with⟨hb',u,du,Lu,rfl⟩|⟨hS',t1,ace,N1,k,R1,kl,lk,rfl⟩
 ·have e:mov (mov f t) (Ah (Ao t) (Ah x u))=mov h u:=by rw[←Bd,BZ dt,←Bd,ex]
  have:=Ds.one Lt (t:=Ah (Ao t) (Ah x u)) (by rw[e];exact Lu) (by rw[BK,BK,CP,dt,dx,du];rfl)
  rw[e]at this
  exact this.symm
 ·have:=hb.2;have:=hS'.pos;omega
 ·have:=hb'.2;have:=hS.pos;omega
 ·have ef:far=ace:=R.r.uniq (by rw[←hm];exact R1.r)
  subst ef
  have e1:mov (mov f t0) (Ah (Ao t0) (Ah x t1))=mov h t1:=by rw[←Bd,BZ R.d,←Bd,ex]
  have d1:det (Ah (Ao t0) (Ah x t1))=1:=by rw[BK,BK,CP,R.d,dx,R1.d];rfl
  have en:N=N1:=(Abi R.v R1.v d1 e1 R.e R.l R1.e R1.l R.n R1.n).1
  subst en
  have hm:∃m,rF far m (mov f t0)=mov h t1:=by
   rcases W2 R.v R1.v d1 e1 with⟨m,s⟩|⟨m,s⟩
   ·exact⟨m,by rw[←JM,←s.mov,e1]⟩
   ·have e2:mov (mov h t1) (Ao (Ah (Ao t0) (Ah x t1)))=mov f t0:=by rw[←e1,BZ d1]
    exact Tj (m:=m) R1.e R1.n (by rw[←JM,←s.mov,e2])
  obtain⟨m,hm⟩:=hm
  obtain⟨m',hm'⟩:=Tj R.e R.n hm
  obtain⟨i1,a1,b1⟩:=AaJ R.e R.n (m+k)
  obtain⟨i2,a2,b2⟩:=AaJ R1.e R1.n (m'+j)
  have h1:=lj i1 a1
  have h2:=lk i2 a2
  rw[←b1,GR,hm]at h1
  rw[←b2,GR,hm']at h2
  exact(AfC h1 h2).symm
def Ou{f:I3}{l:Dt}(h:Ga f l):∃(g:I3)(t:I4),l=.tup [t3 g,t4 t]∧LF f g∧det t=1∧mov f t=g∧B4 90000 t:=by
 rcases h with⟨hb,t,rfl,dt,L,bt,_⟩|⟨hS,t0,far,N,j,R,jl,lj,rfl,_⟩
 ·exact⟨_,t,rfl,.inl ⟨hb,t,dt,L,rfl⟩,dt,rfl,bt.le (by decide)⟩
 ·exact⟨_,_,rfl,.inr ⟨hS,t0,far,N,j,R,jl,lj,rfl⟩,by rw[BK,R.d,T6];rfl,by rw[←Bd,JM],R.bt j jl⟩
def Aa8{f:I3}{d:Dt}(h:∃l,(Bl f∧Kz f l∧d=RM "Bowl" f l)∨(Sad f∧Low f l∧d=RM "Saddle" f l)):∃(c:Str)(l:Dt),(c="Bowl"∨c="Saddle")∧d=RM c f l∧Ga f l:=by
 obtain⟨l,⟨h1,h2,rfl⟩|⟨h1,h2,rfl⟩⟩:=h
 ·exact⟨_,l,.inl rfl,rfl,.inl ⟨h1,h2⟩⟩
 ·exact⟨_,l,.inr rfl,rfl,.inr ⟨h1,h2⟩⟩
def Aem{K:W.Frag}{mg:Str→Option Value}(T:Txt K mg){c:Str}(hc:c="Bowl"∨c="Saddle"):HD K c "lowest":=by
 rcases hc with e|e<;>rw[e]
 ·exact T.jz
 ·exact T.iT
def Zr{K:W.Frag}{mg:Str→Option Value}(T:Txt K mg){c:Str}(hc:c="Bowl"∨c="Saddle"):HD K c "measure":=by
 rcases hc with e|e<;>rw[e]
 ·exact T.jr
 ·exact T.iC
abbrev HY:DSp:=DP (fun p:(I3×I4)×(I3×I4)=>[.tup [t3 p.1.1,t4 p.1.2],.tup [t3 p.2.1,t4 p.2.2]]) (fun p=>B4 90000 p.1.2∧B4 90000 p.2.2∧det p.2.2=1) fun p=>if p.1.1=p.2.1 then t4 (Ah p.1.2 (Ao p.2.2))else .non
def Rx(T:Txt K mg)
  (aC:Pm P w K mg base 1 "put_behind" Bv ["one","other"] Cq)
  (rN:Pm P w K mg base 3 "back" Ko ["turn"] Pu)
  : Pm P w K mg base 4 "way_between" DR ["one","other"] HY:=by
 obtain⟨f,fd,F⟩:=T.mj
 refine⟨f,fd,F,F.fn.okD QG (by walk_at "lE") fun cdv A outer s H E hr=>⟨_,(Ae (CV (Jo hr.units (Ac (dv 0) Ab) (Ac (dv 1) Ab)) (Aj (Ay NP)) Bq) (Aj (Ay (Ai Ag aC (hr.mono (by decide)) rfl (Aa (Ac (dv 0) Ab) (Aa (Ai Ag rN (hr.mono (by decide)) rfl (Aa (Ac (dv 1) Ab) Ad)) Ad)))))),fun ds Q h=>?_⟩⟩
 obtain⟨⟨⟨g,t⟩,h,u⟩,rfl,⟨bt,bu,du⟩,q⟩:=h
 have bt:B4 90000 t:=bt
 have bu:B4 90000 u:=bu
 have q':Q (if g=h then t4 (Ah t (Ao u))else .non):=q _ rfl
 walk_at "go"
 by_cases e:g=h
 ·rw[if_pos e]at q'
  subst e
  exact Fz (by simp) (Ar u ⟨bu.le (by decide),du⟩ (Ar (t,Ao u) ⟨bt.le (by decide),bu.back.le (by decide)⟩ q'))
 ·rw[if_neg e]at q'
  refine ift ?_ q'
  rw[Bool.not_eq_true',Bool.eq_false_iff]
  intro w
  simp only[Bool.and_eq_true,decide_eq_true_eq]at w
  exact e (Prod.ext w.1 (Prod.ext w.2.1 w.2.2))
def JX(f:I3)(l:Dt)(h:I3)(d:Dt):Prop:=(meas f≠meas h∧d=.non)∨(meas f=meas h∧∃g t g' u,l=.tup [t3 g,t4 t]∧Ga h (.tup [t3 g',t4 u])∧d=if g=g' then t4 (Ah t (Ao u))else .non)
abbrev Qw:DSp:=spec (fun p:Str×I3×Dt×I3=>[RM p.1 p.2.1 p.2.2.1,t3 p.2.2.2]) (fun p=>(p.1="Bowl"∨p.1="Saddle")∧Ga p.2.1 p.2.2.1∧B3 1500 p.2.2.2∧(meas p.2.1=meas p.2.2.2→Bl p.2.2.2∨Sad p.2.2.2)) fun p d=>JX p.2.1 p.2.2.1 p.2.2.2 d
def Yq(T:Txt K mg)
  (aZ:Pm P w K mg base 1 "measure" Dh ["form"] Fg)
  (jh:Pm P w K mg base 3 "shape" Hg ["form"] Kp)
  (uw:Pm P w K mg base 4 "way_between" DR ["one","other"] HY)
  (zm:Pm P w K mg base 10 "shape_of" DK ["form"] J8)
  : PmM P w K mg base 11 ["Bowl","Saddle"] "way_to" Qw:=by
 obtain⟨g,fd,hm,kp,F,B⟩:=T.uR
 refine⟨g,fd,_,hm,kp,B,F.okD Xh (by walk_at "lE") fun cdv A outer s H E hr=>⟨_,(Ae (CV (DW.dt (Ah6 (Jo hr.units (Ai Ag aZ (hr.mono (by decide)) rfl (Aa (dv 1) Ad)) (Pn (dv 0))) (Aer (Fj hr.units (Ai Ag jh (hr.mono (by decide)) rfl (Aa (dv 1) Ad)) JN)))) (Aj (Ay NP)) Bq) (Aj (Ay (Ai Ag uw (hr.mono (by decide)) rfl (Aa (Pn (dv 0)) (Aa (Pn (Ai Ag zm (hr.mono (by decide)) rfl (Aa (dv 1) Ad))) Ad)))))),fun ds Q h=>?_⟩⟩
 obtain⟨⟨c,f,l,h⟩,rfl,⟨hc,hl,hh,hk⟩,q⟩:=h
 have hh:B3 1500 h:=hh
 have hl:Ga f l:=hl
 have hk:meas f=meas h→Bl h∨Sad h:=hk
 have q:∀d,JX f l h d→Q d:=q
 obtain⟨g,t,rfl,L,dt,mt,bt⟩:=Ou hl
 walk_at "go"
 refine Ar h (hh.le (by decide)) ⟨Zr T hc,.int (meas f),rfl,⟨Iu,Iu⟩,?_⟩
 rw[Ot]
 by_cases hm:meas h=meas f
 ·refine Fz (by rw[decide_eq_true hm];rfl) (Cd h hh ?_)
  rintro _ hs
  have kh:=hk hm.symm
  have f1:Dt.flat 8 (.str "dome")=true:=by rw[GJ];decide +kernel
  have f2:Dt.flat 8 (.str "bowl")=true:=by rw[GJ];decide +kernel
  have f3:Dt.flat 8 (.str "saddle")=true:=by rw[GJ];decide +kernel
  have go:HD K c "lowest"∧∃v,List.lookup (Str.ofString "lowest") (List.zip [Str.ofString "form",Str.ofString "measure",Str.ofString "lowest"] [t3 f,Dt.int (meas f),Dt.tup [t3 g,t4 t]])=some v∧J8 [t3 h] fun d=>match d with
    |.obj c ns ds=>HD K c "lowest"∧∃v_1,List.lookup (Str.ofString "lowest") (ns.zip ds)=some v_1∧HY [v,v_1] Q
    |_=>False:=by
   refine⟨Aem T hc,_,rfl,Cd h ⟨hh,kh⟩ ?_⟩
   rintro _ ho
   obtain⟨c2,l2,hc2,rfl,h2⟩:=Aa8 ho
   obtain⟨g2,u,rfl,L2,du,mu,bu⟩:=Ou h2
   exact⟨Aem T hc2,_,rfl,Ar ((g,t),(g2,u)) ⟨bt,bu,du⟩ (q _ (.inr ⟨hm.symm,g,t,g2,u,rfl,h2,rfl⟩))⟩
  cases hs with
  | flat z =>
   rcases kh with kh|kh
   ·exact absurd z (MP kh.2)
   ·exact absurd z kh.no
  |saddle _ z=>exact⟨⟨f3,f1⟩,Fz (by rw[Hz];rfl) go⟩
  | dome _ z1 z2 =>
   rcases kh with kh|kh
   ·exact absurd kh.1 z2
   ·exact absurd kh.pos z1
  |bowl _ z1 z2=>exact⟨⟨f2,f1⟩,Fz (by rw[Hz];rfl) go⟩
 ·refine ift (by rw[decide_eq_false hm];rfl) (q _ (.inl ⟨fun e=>hm e.symm,rfl⟩))
theorem t3i{a b:I3}(h:t3 a=t3 b):a=b:=by
 have:=Ad1 (s:=a) (t:=b)
 rw[h]at this
 have h5:=Ad1 (s:=b) (t:=b)
 rw[decide_eq_true rfl]at h5
 rw[h5]at this
 exact of_decide_eq_true this.symm
theorem t4i{a b:I4}(h:t4 a=t4 b):a=b:=by
 have:=Aen (s:=a) (t:=b)
 rw[h]at this
 have h5:=Aen (s:=b) (t:=b)
 rw[decide_eq_true rfl]at h5
 rw[h5]at this
 exact of_decide_eq_true this.symm
def Gx{g h:I3}{t u:I4}(e:Dt.tup [t3 g,t4 t]=Dt.tup [t3 h,t4 u]):g=h∧t=u:=by
 have:=Dt.tup.inj e
 exact⟨t3i (List.cons.inj this).1,t4i (List.cons.inj (List.cons.inj this).2).1⟩
def Acy{f h:I3}{l d d':Dt}(w:JX f l h d)(w':JX f l h d'):d=d':=by
 rcases w with⟨n,rfl⟩|⟨hm,g,t,g',u,rfl,h2,rfl⟩<;>rcases w' with⟨n',rfl⟩|⟨hm',a,b,a',v,el,h3,rfl⟩
 ·rfl
 ·exact absurd hm' n
 ·exact absurd hm n'
 ·have e1:=h2.uniq h3
  obtain⟨rfl,rfl⟩:=Gx el
  obtain⟨rfl,rfl⟩:=Gx e1
  rfl
def AhC{n:Nat}{a b:Int}(ha:Bt n a)(h:b≠0):Bt (n+1) (a.fdiv b):=by
 have hb:1≤b.natAbs:=by omega
 have h1:=PB (a:=a) h
 have e:b*a.fdiv b=a-a.fmod b:=by rw[Ea];grind
 have e2:b.natAbs*(a.fdiv b).natAbs=(a-a.fmod b).natAbs:=by rw[←Int.natAbs_mul,e]
 unfold Bt at *
 rw[Nat.pow_succ]
 by_cases h0:a.fdiv b=0
 ·rw[h0];have:=Nat.two_pow_pos n;simp;omega
 ·rcases Nat.lt_or_ge a.natAbs b.natAbs with hc|hc
  ·have h3:(a-a.fmod b).natAbs<2*b.natAbs:=by omega
   have h4:(a.fdiv b).natAbs<2:=by
    refine Nat.lt_of_mul_lt_mul_left (a:=b.natAbs) ?_
    rw[e2];omega
   have:=Nat.two_pow_pos n
   omega
  ·have h3:(a-a.fmod b).natAbs≤2*a.natAbs:=by omega
   have h4:(a.fdiv b).natAbs≤b.natAbs*(a.fdiv b).natAbs:=Nat.le_mul_of_pos_left _ hb
   omega
def KQ{n:Nat}{t b:Int}(h:Bt n (t*b))(hb:b≠0):Bt n t:=by
 unfold Bt at *
 rw[Int.natAbs_mul]at h
 have h4:t.natAbs≤t.natAbs*b.natAbs:=Nat.le_mul_of_pos_right _ (by omega)
 omega
structure Rows(a b n u v m s t:Int):Prop where
 r1:n=u*a+v*b
 r2:m=s*a+t*b
 g:Int.gcd n m=Int.gcd a b
 n0:Bt 8900 n
 m0:Bt 8900 m
 u0:Bt 8901 u
 s0:Bt 8901 s
 v0:Bt 20000 v
 t0:Bt 20000 t
structure Lat(b n u m s:Int):Prop where
 ex:∃e d N M U S B:Int,n=e*N∧m=e*M∧u=d*U∧s=d*S∧b=e*B∧(e=1∨e=-1)∧(d=1∨d=-1)∧0<N∧0≤M∧U≤0∧0≤S∧N*S-M*U=B∧-U≤B
theorem Lat.first{a b:Int}(h:b≠0):Lat b b 0 (a.fmod b) 1:=by
 rcases Int.lt_or_lt_of_ne h with h|h
 ·have e:a.fmod b=-((-a).fmod (-b)):=by rw[Ea,Ea,Int.neg_fdiv_neg];grind
  have h1:=Int.fmod_nonneg_of_pos (-a) (show 0 < -b by omega)
  exact⟨-1,1,-b,(-a).fmod (-b),0,1,-b,by omega,by omega,by omega,by omega,by omega,.inr rfl,.inl rfl,by omega,h1,by omega,by omega,by simp,by omega⟩
 ·have h1:=Int.fmod_nonneg_of_pos a h
  exact⟨1,1,b,a.fmod b,0,1,b,by omega,by omega,by omega,by omega,by omega,.inl rfl,.inl rfl,by omega,h1,by omega,by omega,by simp,by omega⟩
theorem Lat.step{b n u m s:Int}(L:Lat b n u m s)(h:m≠0):Lat b m s (n-n.fdiv m*m) (u-n.fdiv m*s):=by
 obtain⟨e,d,N,M,U,S,B,hn,hm,hu,hs,hb,he,hd,hN,hM,hU,hS,hE,hUB⟩:=L.ex
 have hM':0<M:=by
  rcases Int.lt_or_eq_of_le hM with z|z
  ·exact z
  ·rw[←z]at hm;simp at hm;exact absurd hm h
 have q1:n.fdiv m=N.fdiv M:=by
  rw[hn,hm]
  rcases he with rfl|rfl
  ·simp
  ·simp[Int.neg_fdiv_neg]
 have q2:0≤N.fdiv M:=Int.fdiv_nonneg (by omega) (by omega)
 have q3:0≤N-M*N.fdiv M:=by rw[←Ea];exact Int.fmod_nonneg_of_pos N hM'
 rw[q1]
 generalize N.fdiv M=q at *
 have hSB:S≤B:=by
  have z1:0≤M*(-U):=Int.mul_nonneg hM (by omega)
  have z2:0≤(N-1)*S:=Int.mul_nonneg (by omega) hS
  have:N*S-M*U=(N-1)*S+S+M*(-U):=by grind
  omega
 have z3:0≤q*S:=Int.mul_nonneg q2 hS
 refine⟨e,-d,M,N-M*q,-S,q*S-U,B,hm,?_,?_,?_,hb,he,?_,hM',q3,by omega,by omega,?_,by omega⟩
 ·rw[hn,hm];grind
 ·rw[hs];grind
 ·rw[hu,hs];grind
 ·rcases hd with rfl|rfl
  ·exact .inr rfl
  ·exact .inl rfl
 ·rw[←hE];grind
theorem Lat.bounds{b n u m s:Int}(L:Lat b n u m s):u.natAbs≤b.natAbs∧s.natAbs≤b.natAbs:=by
 obtain⟨e,d,N,M,U,S,B,hn,hm,hu,hs,hb,he,hd,hN,hM,hU,hS,hE,hUB⟩:=L.ex
 have z1:0≤M*(-U):=Int.mul_nonneg hM (by omega)
 have z2:0≤(N-1)*S:=Int.mul_nonneg (by omega) hS
 have:N*S-M*U=(N-1)*S+S+M*(-U):=by grind
 have hSB:S≤B:=by omega
 rcases he with rfl|rfl<;>rcases hd with rfl|rfl<;>omega
theorem Rows.first{a b:Int}(ha:Bt 8900 a)(hb:Bt 8900 b):Rows a b a 1 0 b 0 1 :=
 ⟨by omega,by omega,rfl,ha,hb,Bt.one.le (by decide),Bt.zero.le (by decide),Bt.zero.le (by decide),Bt.one.le (by decide)⟩
theorem Rows.step{a b n u v m s t:Int}(R:Rows a b n u v m s t)(ha:Bt 8900 a)(hb:Bt 8900 b)(hbn:b≠0)(h:m≠0)(L:Lat b m s (n-n.fdiv m*m) (u-n.fdiv m*s)) :
  Rows a b m s t (n-n.fdiv m*m) (u-n.fdiv m*s) (v-n.fdiv m*t):=by
 have e:n-n.fdiv m*m=n.fmod m:=by rw[Ea];grind
 have hl:=PB (a:=n) h
 have hm:=R.m0
 have hs:Bt 8901 (u-n.fdiv m*s):=by
  have:=L.bounds.2
  have hb':=hb.le (m:=8901) (by decide)
  unfold Bt at *
  omega
 have hr:Bt 8900 (n-n.fdiv m*m):=by rw[e];unfold Bt at *;omega
 have er:n-n.fdiv m*m=(u-n.fdiv m*s)*a+(v-n.fdiv m*t)*b:=by
  have h1:=R.r1
  have h2:=R.r2
  generalize n.fdiv m=q at *
  rw[h1,h2];grind
 refine⟨R.r2,er,?_,R.m0,hr,R.s0,hs,R.t0,?_⟩
 ·rw[e,W3];exact R.g
 ·refine KQ (b:=b) ?_ hbn
  have:(v-n.fdiv m*t)*b=(n-n.fdiv m*m)-(u-n.fdiv m*s)*a:=by rw[er];grind
  rw[this]
  exact(hr.sub (hs.mul ha)).le (by decide)
inductive ShR:I3→I3→I3→Prop
 |stop {r l:I3} (h:l.1=0):ShR r l r
 |go {r l z:I3} (h:l.1≠0) (k:ShR l (r.1-r.1.fdiv l.1*l.1,r.2.1-r.1.fdiv l.1*l.2.1,r.2.2-r.1.fdiv l.1*l.2.2) z):ShR r l z
def Alv(a b u v:Int):Prop:=∃z,ShR (a,1,0) (b,0,1) z∧((z.1<0∧u=-z.2.1∧v=-z.2.2)∨(¬z.1<0∧u=z.2.1∧v=z.2.2))
abbrev Ow:DSp:=DP (fun p:(Int×Int×Int)×(Int×Int×Int)×Int=>[T3 p.1.1 p.1.2.1 p.1.2.2,T3 p.2.1.1 p.2.1.2.1 p.2.1.2.2,.int p.2.2]) (fun p=>Bt 20000 p.2.2∧Bt 20000 p.2.1.1∧Bt 20000 p.2.1.2.1∧Bt 20000 p.2.1.2.2)
 fun p=>T3 (p.1.1-p.2.2*p.2.1.1) (p.1.2.1-p.2.2*p.2.1.2.1) (p.1.2.2-p.2.2*p.2.1.2.2)
abbrev Tp:DSp:=spec (fun p:I2=>[.int p.1,.int p.2]) (fun p=>Bt 8900 p.1∧Bt 8900 p.2) fun p d=>∃u v:Int,d=T3 ((Int.gcd p.1 p.2:Nat):Int) u v∧u*p.1+v*p.2=((Int.gcd p.1 p.2:Nat):Int)∧Bt 20000 u∧Bt 20000 v∧Alv p.1 p.2 u v
def Xb(T:Txt K mg)
  : Pm P w K mg base 1 "row_less" Ge ["row","lower","often"] Ow:=by
 obtain⟨f,fd,F⟩:=T.rG
 refine⟨f,fd,F,F.fn.okD V3 (by walk_at "lE") fun cdv A outer s H E hr=>⟨_,(Aj (Ay (Bj (Aa (Ew (Ac (dv 0) Ab) (Ax (dv 2) (Ac (dv 1) Ab))) (Aa (Ew (Ac (dv 0) Ab) (Ax (dv 2) (Ac (dv 1) Ab))) (Aa (Ew (Ac (dv 0) Ab) (Ax (dv 2) (Ac (dv 1) Ab))) Ad)))))),fun ds Q h=>?_⟩⟩
 obtain⟨⟨⟨n,u,v⟩,⟨m,s,t⟩,q⟩,rfl,⟨hq,hm,hs,ht⟩,k⟩:=h
 walk_at "go"
 walk_at "muls"
 exact k _ rfl
def Ab6(T:Txt K mg)
  (zp:Pm P w K mg base 1 "row_less" Ge ["row","lower","often"] Ow)
  : Pm P w K mg base 2 "shares" Jh ["one","other"] Tp:=by
 obtain⟨f,fd,F⟩:=T.w5
 refine⟨f,fd,F,F.fn.okD Ht (by walk_at "lE") fun cdv A outer s H E hr=>⟨_,(Ae (Aw 2 Ht.nd (Bj (Aa (dv 0) (Aa Ab (Aa Ab Ad))))) (Ae (Aw 3 Ht.nd (Bj (Aa (dv 1) (Aa Ab (Aa Ab Ad))))) (Ae (Jl PassesOwn.never (Jo hr.units (Ac (dv 3) Ab) Ab) (Ae (Aw 4 Ht.nd (Ai Ag zp (hr.mono (by decide)) rfl (Aa (dv 2) (Aa (dv 3) (Aa (Ed (Ac (dv 2) Ab) (Ac (dv 3) Ab)) Ad))))) (Ae (Aw 2 Ht.nd (dv 3)) (Aj (Aw 3 Ht.nd (dv 4)))))) (Ae (CV (Rj (Ac (dv 2) Ab) Ab) (Aj (Ay (Bj (Aa (Dp (Ac (dv 2) Ab)) (Aa (Dp (Ac (dv 2) Ab)) (Aa (Dp (Ac (dv 2) Ab)) Ad)))))) Bq) (Aj (Ay (dv 2))))))),fun ds Q h=>?_⟩⟩
 obtain⟨⟨a,b⟩,rfl,⟨ha,hb⟩,k⟩:=h
 walk_at "go"
 refine⟨Am (by decide),Am (by decide),?_⟩
 refine Jm (fun m ρ=>∃n u v x s t z,ρ=[some (.is (.int a)),some (.is (.int b)),some (.is (T3 n u v)),some (.is (T3 x s t)),z]∧Rows a b n u v x s t∧((n=a∧u=1∧x=b∧s=0)∨(b≠0∧Lat b n u x s))∧(∀w,ShR (n,u,v) (x,s,t) w→ShR (a,1,0) (b,0,1) w)∧m=x.natAbs) _ ⟨a,1,0,b,0,1,none,rfl,Rows.first ha hb,.inl ⟨rfl,rfl,rfl,rfl⟩,fun _ h=>h,rfl⟩ ?_
 rintro m _ ⟨n,u,v,x,s,t,z,rfl,R,hc,hw,rfl⟩
 walk_at "rd"
 have hG:=R.g
 by_cases hx:x=0
 ·subst hx
  rw[Int.gcd_zero_right]at hG
  simp only[decide_true,Bool.not_true]
  walk_at "rd"
  have r1:=R.r1
  refine Ie (fun hn=>⟨Am (by decide),k _ ⟨-u,-v,?_,?_,(R.u0.neg).le (by decide),R.v0.neg,_,hw _ (.stop rfl),.inl ⟨of_decide_eq_true hn,rfl,rfl⟩⟩⟩) (fun hn=>k _ ⟨u,v,?_,?_,R.u0.le (by decide),R.v0,_,hw _ (.stop rfl),.inr ⟨fun z=>hn (decide_eq_true z),rfl,rfl⟩⟩)
  ·have hn:=of_decide_eq_true hn
   have e:-n=((Int.gcd a b:Nat):Int):=by omega
   rw[e]
  ·have hn:=of_decide_eq_true hn
   have e:-n=((Int.gcd a b:Nat):Int):=by omega
   show -u*a + -v*b=_
   rw[←e,r1];grind
  ·have hn:¬n<0:=fun z=>hn (decide_eq_true z)
   have e:n=((Int.gcd a b:Nat):Int):=by omega
   rw[←e]
  ·have hn:¬n<0:=fun z=>hn (decide_eq_true z)
   have e:n=((Int.gcd a b:Nat):Int):=by omega
   show u*a+v*b=_
   rw[←e,←r1]
 ·simp only[decide_eq_false hx,Bool.not_false,if_true]
  have hbn:b≠0:=by
   rcases hc with⟨_,_,e,_⟩|⟨e,_⟩
   ·rw[←e];exact hx
   ·exact e
  have L:Lat b x s (n-n.fdiv x*x) (u-n.fdiv x*s):=by
   rcases hc with⟨rfl,rfl,rfl,rfl⟩|⟨_,L⟩
   ·have:=Lat.first (a:=n) hx
    have e:n-n.fdiv x*x=n.fmod x:=by rw[Ea];grind
    have e2:(1:Int)-n.fdiv x*0=1:=by omega
    rw[e,e2];exact this
   ·exact L.step hx
  have hq:=AhC R.n0 hx
  refine⟨Bt.lW R.m0 hx,?_⟩
  refine Ar ((n,u,v),(x,s,t),n.fdiv x) ⟨hq.le (by decide),R.m0.le (by decide),R.s0.le (by decide),R.t0⟩ ?_
  refine⟨_,?_,_,_,_,_,_,_,_,rfl,Rows.step R ha hb hbn hx L,.inr ⟨hbn,L⟩,fun w h=>hw w (.go hx h),rfl⟩
  have e:n-n.fdiv x*x=n.fmod x:=by rw[Ea];grind
  rw[e]
  exact PB hx
abbrev Gn:J1:=JV (fun p:I2=>[.int p.1,.int p.2]) (fun _=>True) (fun p=>(p.1.natAbs:Int)≤p.2) (fun _ d=>d=.non) fun p=>Eb p.1 p.2
def Og(T:Txt K mg)
  : PmX P w K mg base 3 "check_within" Cv ["number","most"] Gn:=by
 obtain⟨f,fd,F⟩:=T.jA
 obtain⟨aj,za,cY,xu,mH⟩:=QS (P:=P) (w:=w) (base:=base) T
 refine⟨f,fd,F,F.fn.okX Pa (fun ds Q E ⟨p,e,_⟩=>by rw[e];rfl) fun cdv A outer s H E hr=>⟨_,(Bu (Kf (WL (Ks T.iV (Aa (dv 0) Ad)) (dv 1)) (Bu (Jp mH (hr.mono (by decide)) rfl rfl (Aa (dv 0) (Aa (dv 1) Ad)))) Ji)),fun ds Q Ex h=>?_⟩⟩
 obtain⟨⟨n,m⟩,rfl,_,q,x⟩:=h
 have q:(n.natAbs:Int)≤m→∀d,d=.non→Q d:=q
 have x:¬(n.natAbs:Int)≤m→Ex (Eb n m):=x
 have ea:(if n<0 then -n else n)=(n.natAbs:Int):=by split<;>omega
 walk_at "go"
 rw[ea]
 refine Ie (fun hw=>⟨by decide,x ?_⟩) (fun hw=>q ?_ _ rfl)
 ·have:=of_decide_eq_true hw
  omega
 ·have:¬m<(n.natAbs:Int):=fun z=>hw (decide_eq_true z)
  omega
theorem Ak5:∀n:Nat,n<401→∃r,r<21∧r*r≤n∧n<(r+1)*(r+1):=by decide +kernel
def Akp{n:Int}(h:n.natAbs≤400):∃r:Nat,r≤20∧Sq n.natAbs r:=by
 obtain⟨r,h1,h2,h3⟩:=Ak5 n.natAbs (by omega)
 exact⟨r,by omega,by omega,by exact_mod_cast h2,by exact_mod_cast h3⟩
def AjG{a:Nat}{ρ:BP}{d:Dt}:inner [a] ρ d=[some (.is d),ρ[a]?.join]:=rfl
def Al6{a b:Nat}{ρ:BP}{d:Dt}:inner [a,b] ρ d=[some (.is d),ρ[a]?.join,ρ[b]?.join]:=rfl
def okG(n:Int):Dt→Bool
 |.int g=>decide (n.fmod (g*g)=0)
 |_=>false
def Wc(n:Int):∀r:Nat,(((ups 1 r).filter (okG n)).map id)=(IW n r).map Dt.int
 |0=>rfl
 | r+1=>by
  have e:ups 1 (r+1)=ups 1 r++[.int (1+(r:Nat))]:=by
   unfold ups
   rw[List.range_succ,List.map_append]
   rfl
  rw[e,List.filter_append,List.map_append,Wc n r,IW,List.map_append]
  congr 1
  by_cases h:n.fmod ((1+(r:Int))*(1+(r:Int)))=0
  ·rw[if_pos h]
   simp[okG,h]
  ·rw[if_neg h]
   simp[okG,h]
abbrev Eh:DSp:=spec (fun n:Int=>[.int n]) (fun n=>n.natAbs≤400) fun n d=>∃r:Nat,r≤20∧Sq n.natAbs r∧d=.lst ((IW n r).map Dt.int)
def G9(T:Txt K mg)
  (mF:Pm P w K mg base 1 "root" Jw ["number"] Mw)
  : Pm P w K mg base 2 "roots_of_square_divisors" Bh ["number"] Eh:=by
 obtain⟨f,fd,F⟩:=T.bM
 refine⟨f,fd,F,F.fn.okD Hh (by walk_at "lE") fun cdv A outer s H E hr=>⟨_,(Aj (Ay (Ad8 (Fx (sc:=Af Bh) (NN:=["number"]) (x:="g") (N:=["number"]) (sl:=[0]) rfl rfl (by decide +kernel)) rfl (AfI rfl T.iG (Aa Ab (Aa (Ce (Ai Ag mF (hr.mono (by decide)) rfl (Aa (Ks T.iV (Aa (dv 0) Ad)) Ad)) Ab) Ad))) (fun cl C s0 H0 ex=>(Fj hr.units (GZ (dv 1) (Ax (dv 0) (dv 0))) Ab)) (fun cl C s0 H0 ex=>(dv 0))))),fun ds Q h=>?_⟩⟩
 obtain⟨n,rfl,hn,q⟩:=h
 have hn:n.natAbs≤400:=hn
 obtain⟨r,hr,sr⟩:=Akp hn
 walk_at "go"
 refine Np (ups 1 r) (okG n) id (fun R hR=>?_) (by rw[Pr];exact Am (by omega)) (CW rfl Eo) (fun d hd R hR=>?_) (fun d hd hp R hR=>hR) ?_
 ·walk_at "rd"
  have ea:(if n<0 then -n else n)=(n.natAbs:Int):=by split<;>omega
  rw[ea]
  refine Cd (n.natAbs:Int) ⟨by omega,Bt.of (by omega) (by omega)⟩ ?_
  rintro _ ⟨r',rfl,hr',_⟩
  have er:r'=(r:Int):=hr'.uniq sr
  subst er
  refine⟨⟨by omega,by omega⟩,?_⟩
  have e2:((r:Int)+1-1).toNat=r:=by omega
  rw[e2]
  exact hR
 ·obtain⟨k,hk⟩:=List.getElem?_of_mem hd
  obtain⟨hk,rfl⟩:=Px hk
  rw[AjG]
  walk_at "rd"
  have b5:Bt 6 (1+(k:Int)):=Bt.of (by omega) (by omega)
  exact⟨b5.aY b5,fun z=>by
   have:=Int.mul_pos (show(0:Int)<1+(k:Int) by omega) (show(0:Int)<1+(k:Int) by omega)
   omega,hR⟩
 ·rw[Wc]
  exact q _ ⟨r,hr,sr,rfl⟩
def okB(m D:Int):Dt→Bool
 |.int b=>decide ((b*b-D).fmod (4*m)=0)
 |_=>false
def Wi(m D:Int):∀n:Nat,(((ups 0 n).filter (okB m D)).map id)=(mids m D n).map Dt.int
 |0=>rfl
 | n+1=>by
  have e:ups 0 (n+1)=ups 0 n++[.int (0+(n:Nat))]:=by
   unfold ups
   rw[List.range_succ,List.map_append]
   rfl
  rw[e,List.filter_append,List.map_append,Wi m D n,mids,List.map_append,Int.zero_add]
  congr 1
  by_cases h:((n:Int)*n-D).fmod (4*m)=0
  ·rw[if_pos h]
   simp[okB,h]
  ·rw[if_neg h]
   simp[okB,h]
abbrev Zy:DSp:=DP (fun p:I2=>[.int p.1,.int p.2]) (fun p=>p.1≠0∧p.1.natAbs≤400∧Bt 1400 p.2) fun p=>.lst ((FN p.1 p.2).map t3)
def Afn(T:Txt K mg)
  : Pm P w K mg base 1 "feet" Ku ["first","far"] Zy:=by
 obtain⟨f,fd,F⟩:=T.abt
 refine⟨f,fd,F,F.fn.okD Aas (by walk_at "lE") fun cdv A outer s H E hr=>⟨_,(Ae (AeN 2 Aas.nd (Fx (sc:=Af Ku) (NN:=["first","far","middles"]) (x:="b") (N:=["far","first"]) (sl:=[1,0]) rfl rfl (by decide +kernel)) rfl (ZQ rfl T.iG (Aa (Ax Ab (Ks T.iV (Aa (dv 0) Ad))) Ad)) (fun cl C s0 H0 ex=>(Fj hr.units (GZ (Ew (Ax (dv 0) (dv 0)) (dv 1)) (Ax Ab (dv 2))) Ab)) (fun cl C s0 H0 ex=>(dv 0))) (Aj (Ay (Pq (Fx (sc:=Af Ku) (NN:=["first","far","middles"]) (x:="b") (N:=["first","far"]) (sl:=[0,1]) rfl rfl (by decide +kernel)) rfl (Kl (dv 2)) (fun cl C s0 H0 ex=>(Bj (Aa (dv 1) (Aa (dv 0) (Aa (Ed (Ew (Ax (dv 0) (dv 0)) (dv 2)) (Ax Ab (dv 1))) Ad))))))))),fun ds Q h=>?_⟩⟩
 obtain⟨⟨m,D⟩,rfl,⟨m0,m4,bD⟩,q⟩:=h
 have m0:m≠0:=m0
 have m4:m.natAbs≤400:=m4
 have bD:Bt 1400 D:=bD
 have q':Q (.lst ((FN m D).map t3)):=q _ rfl
 have bm:Bt 9 m:=by unfold Bt;omega
 have two:Bt 2 2:=Bt.aK (by decide)
 have four:Bt 3 4:=Bt.aK (by decide)
 have lm:(mids m D (2*m.natAbs)).length≤800:=by
  have h1:∀n,(mids m D n).length≤n:=fun n=>by
   induction n with
   |zero=>exact Nat.le_refl _
   | succ n ih =>
    rw[mids,List.length_append]
    split<;>simp<;>omega
  have:=h1 (2*m.natAbs)
  omega
 walk_at "go"
 refine Np (ups 0 (2*m.natAbs)) (okB m D) id (fun R hR=>?_) (by rw[Pr];exact Am (by omega)) (CW rfl (CW rfl Eo)) (fun d hd R hR=>?_) (fun d hd hp R hR=>hR) ?_
 ·walk_at "rd"
  have ea:(if m<0 then -m else m)=(m.natAbs:Int):=by split<;>omega
  rw[ea]
  refine⟨two.aY (show Bt 9 (m.natAbs:Int) by unfold Bt at *;omega),⟨by omega,by omega⟩,?_⟩
  have e2:(2*(m.natAbs:Int)).toNat=2*m.natAbs:=by omega
  rw[e2]
  exact hR
 ·obtain⟨k,hk⟩:=List.getElem?_of_mem hd
  obtain⟨hk,rfl⟩:=Px hk
  rw[Al6]
  walk_at "rd"
  have bk:Bt 10 (0+(k:Int)):=Bt.of (by omega) (by omega)
  exact⟨bk.aY bk,four.aY bm,by omega,hR⟩
 ·rw[Wi]
  walk_at "rd"
  refine Hr ((mids m D (2*m.natAbs)).map Dt.int) (fun d=>match d with
   |.int b=>t3 (m,b,(b*b-D).fdiv (4*m))
   |_=>.non) (fun R hR=>hR) (by rw[List.length_map];exact Am (by omega)) (CW rfl (CW rfl Eo)) (fun d hd R hR=>?_) ?_
  ·obtain⟨b,hb,rfl⟩:=List.mem_map.mp hd
   obtain⟨h1,h2,_⟩:=Kc.mp hb
   rw[Al6]
   walk_at "rd"
   have bb:Bt 10 b:=Bt.of (by omega) (by omega)
   exact⟨bb.aY bb,four.aY bm,Bt.lW (four.mul bm) (by omega),Am (by decide),hR⟩
  ·have e:((mids m D (2*m.natAbs)).map Dt.int).map (fun d=>match d with
    |.int b=>t3 (m,b,(b*b-D).fdiv (4*m))
    |_=>.non)=(FN m D).map t3:=by
    unfold FN
    rw[List.map_map,List.map_map]
    rfl
   rw[e]
   exact q'
noncomputable def LR(f h:I3):Option I4:=open Classical in if w:∃y l,Ga f l∧JX f l h (t4 y)then some (Classical.choose w)else none
def Ua{f h:I3}{l d:Dt}(hl:Ga f l)(w:JX f l h d):d=match LR f h with
  |some y=>t4 y
  |none=>.non:=by
 unfold LR
 split
 ·rename_i y e
  split at e
  ·rename_i z
   cases e
   obtain⟨l',h1,h2⟩:=Classical.choose_spec z
   obtain rfl:=hl.uniq h1
   exact Acy w h2
  ·cases e
 ·rename_i e
  split at e
  ·cases e
  ·rename_i z
   rcases w with⟨_,rfl⟩|⟨hm,g,t,g',u,el,h2,rfl⟩
   ·rfl
   ·split
    ·rename_i eg
     exact absurd ⟨_,l,hl,.inr ⟨hm,g,t,g',u,el,h2,by rw[if_pos eg]⟩⟩ z
    ·rfl
def SQ{f h:I3}{l:Dt}{t:I4}(hl:Ga f l)(w:JX f l h (t4 t)):det t=1∧mov f t=h∧B4 190000 t:=by
 rcases w with⟨_,e⟩|⟨hm,g,a,g',u,el,h2,e⟩
 ·cases e
 ·obtain⟨g0,t0,e0,L,dt,mt,bt⟩:=Ou hl
  rw[el]at e0
  obtain⟨g1,u1,e1,L1,du,mu,bu⟩:=Ou h2
  obtain⟨rfl,rfl⟩:=Gx e0
  obtain⟨rfl,rfl⟩:=Gx e1
  by_cases eg:g=g'
  ·rw[if_pos eg]at e
   rw[t4i e]
   refine⟨by rw[BK,CP,dt,du];rfl,?_,(B4.then bt bu.back).le (by decide)⟩
   rw[←Bd,mt,eg,←mu,BZ du]
  ·rw[if_neg eg]at e
   cases e
def Rz{f h:I3}{l:Dt}{t:I4}(hl:Ga f l)(e:LR f h=some t):det t=1∧mov f t=h∧B4 190000 t:=by
 unfold LR at e
 split at e
 ·rename_i z
  cases e
  obtain⟨l',h1,h2⟩:=Classical.choose_spec z
  exact SQ h1 h2
 ·cases e
abbrev Fam:=Int×I3×I4
def Cm(F:Fam):List (List Int):=[[F.1*F.2.2.1,F.1*F.2.2.2.2.1],[F.2.1.1,F.2.1.2.1,F.2.1.2.2],[F.2.2.1,F.2.2.2.1,F.2.2.2.2.1,F.2.2.2.2.2]]
abbrev AkQ(F:Fam):Dt:=.tup [t2 (F.1*F.2.2.1,F.1*F.2.2.2.2.1),t3 F.2.1,t4 F.2.2]
noncomputable def J0(f:I3)(g:Int)(fs:List I3):List Fam:=fs.filterMap fun h=>(LR f h).map fun t=>(g,h,t)
noncomputable def Ms(f:I3)(n g:Int):List Fam:=J0 f g (FN (n.fdiv (g*g)) (meas f))
noncomputable def Mr(f:I3)(n:Int)(r:Nat):List Fam:=(IW n r).flatMap (Ms f n)
structure IK(f:I3)(n:Int):Prop where
 bf:B3 1400 f
 kf:Bl f∨Sad f
 n0:n≠0
 n4:n.natAbs≤400
 bo:Bl f→0<n
 bm:Bt 1400 (meas f)
def Acb{f:I3}{n:Int}(h:IK f n)(g:Nat)(g1:1≤g)(hg:n.natAbs % (g*g)=0):(Ms f n g).length≤tb (n.natAbs / (g*g)):=by
 have n0:=h.n0
 have n4:=h.n4
 have gg:(g:Int)*g≠0:=Int.mul_ne_zero (by omega) (by omega)
 have hd:n.fmod ((g:Int)*g)=0:=by
  refine Int.fmod_eq_zero_of_dvd ?_
  have:(g*g:Nat)∣n.natAbs:=Nat.dvd_of_mod_eq_zero hg
  have:=Int.ofNat_dvd_left.mpr this
  push_cast at this
  exact this
 have e:=J9 (show(g:Int)≠0 by omega) hd
 have m0:n.fdiv ((g:Int)*g)≠0:=fun z=>n0 (by rw[←e,z];omega)
 have ea:(n.fdiv ((g:Int)*g)).natAbs=n.natAbs / (g*g):=by
  have h1:n.natAbs=g*g*(n.fdiv ((g:Int)*g)).natAbs:=by
   conv=>lhs;rw[←e]
   rw[Int.natAbs_mul,Int.natAbs_mul,Int.natAbs_natCast]
  rw[h1,Nat.mul_div_cancel_left _ (Nat.mul_pos (by omega) (by omega))]
 have m4:(n.fdiv ((g:Int)*g)).natAbs≤400:=by
  rw[ea]
  exact Nat.le_trans (Nat.div_le_self _ _) n4
 rw[←ea]
 refine Nat.le_trans ?_ (AeZ (D:=meas f) m0 m4)
 unfold Ms J0
 refine Nat.le_trans (List.length_filterMap_le ..) ?_
 unfold FN
 rw[List.length_map]
 exact Nat.le_refl _
def V2{f:I3}{n:Int}{r:Nat}(h:IK f n)(hr:r≤20):(Mr f n r).length<64:=by
 have h1:=ZL (n:=n) (F:=Ms f n) (Acb h) r
 have h2:=Mp n.natAbs (20-r) r
 rw[show r+(20-r)=20 by omega]at h2
 have h3:=AcS n.natAbs (by have:=h.n4;omega)
 unfold Mr
 omega
def V6{α β:Type}{F:α→List β}{l:List α}{i:Nat}{a:α}(h:l[i]? = some a):((l.take i).flatMap F).length+(F a).length≤(l.flatMap F).length:=by
 obtain⟨hi,e⟩:=List.getElem?_eq_some_iff.mp h
 have e1:l.flatMap F=(l.take (i+1)).flatMap F++(l.drop (i+1)).flatMap F:=by rw[←List.flatMap_append,List.take_append_drop]
 rw[e1,List.take_add_one,h,List.flatMap_append,List.length_append,List.length_append]
 simp only[Option.toList_some,List.flatMap_cons,List.flatMap_nil,List.append_nil]
 omega
def Abg{α β:Type}{F:α→List β}{l:List α}{i:Nat}{a:α}(h:l[i]? = some a):(l.take (i+1)).flatMap F=(l.take i).flatMap F++F a:=by
 rw[List.take_add_one,h,List.flatMap_append]
 simp
def VP{α:Type}{F:α→Dt}{l:List α}{i:Nat}{d:Dt}(h:(l.map F)[i]? = some d):∃a,l[i]? = some a∧d=F a:=by
 rw[List.getElem?_map]at h
 obtain⟨a,h1,h2⟩:=Option.map_eq_some_iff.mp h
 exact⟨a,h1,h2.symm⟩
def Abj{f:I3}{g:Int}{fs:List I3}{j:Nat}{h:I3}(e:fs[j]? = some h):J0 f g (fs.take (j+1))=J0 f g (fs.take j)++(match LR f h with | some t=>[(g,h,t)] | none=>[]):=by
 unfold J0
 rw[List.take_add_one,e,List.filterMap_append]
 congr 1
 cases hw:LR f h with
 |none=>simp[hw]
 |some t=>simp[hw]
def Aed{f:I3}{g:Int}{fs:List I3}{j:Nat}:(J0 f g (fs.take j)).length≤(J0 f g fs).length:=by
 have:J0 f g fs=J0 f g (fs.take j)++J0 f g (fs.drop j):=by
  unfold J0
  rw[←List.filterMap_append,List.take_append_drop]
 rw[this,List.length_append]
 omega
def AbA{f h:I3}{m:Int}(k:Bl f∨Sad f)(hm:meas h=meas f)(ha:h.1=m)(hp:Bl f→0<m):Bl h∨Sad h:=by
 rcases k with k|k
 ·exact .inl ⟨by rw[ha];exact hp k,by rw[hm];exact k.2⟩
 ·exact .inr ⟨by rw[hm];exact k.no,by rw[hm];exact k.pos,by rw[hm];exact k.most⟩
def Ag3{D m:Int}{h:I3}(m4:m.natAbs≤400)(bD:Bt 1400 D)(F:R9 m D h):B3 1500 h:=by
 obtain⟨a,b,c⟩:=h
 have e1:=F.a
 have e2:=F.lo
 have e3:=F.hi
 have e4:b*b-4*a*c=D:=F.me
 dsimp only at e1 e2 e3
 subst e1
 have ba : Bt 1500 a := by unfold Bt; have : (400 : Nat) < 2 ^ 1500 := by decide +kernel
                           omega
 have bb : Bt 1500 b := by unfold Bt; have : (800 : Nat) < 2 ^ 1500 := by decide +kernel
                           omega
 refine⟨ba,bb,?_⟩
 by_cases a0:a=0
 ·omega
 ·have b10:Bt 10 b:=Bt.of (by omega) (by omega)
  have h4:Bt 1450 (4*a*c):=by
   have:4*a*c=b*b-D:=by omega
   rw[this]
   exact((b10.mul b10).sub bD).le (by decide)
  show Bt 1500 c
  have:Bt 1450 c:=KQ (t:=c) (b:=4*a) (by rw[Int.mul_comm];exact h4) (by omega)
  exact this.le (by decide)
noncomputable def Fy(f:I3)(n:Int)(r:Nat):List (List (List Int)):=V4 ((Mr f n r).map Cm)
def Ir(f:I3)(n:Int)(r:Nat):Prop:=∃l,Ga f l∧∀g∈IW n r,∀h∈FN (n.fdiv (g*g)) (meas f),∃w,JX f l h w
abbrev xNo:Dt:=.exc "Nought" [] []
noncomputable def J2(f:I3)(n:Int):Dt:=@ite _ (Rt f) (Classical.propDecidable _) (if n=0 then xNo else Eb n 400) (RQ f)
structure Js(f:I3)(n:Int):Prop where
 bf:B3 1400 f
 bo:Bl f→n≠0→n.natAbs≤400→0<n
 bm:Bt 1400 (meas f)
def Du(f:I3)(n:Int):Prop:=Rt f∧n≠0∧n.natAbs≤400
def PJ(f:I3)(n:Int)(d:Dt):Prop:=∃r:Nat,r≤20∧Sq n.natAbs r∧d=.lst ((Fy f n r).map nestD)∧Ir f n r
abbrev Wm:DSp:=spec (fun p:I3×Int=>[t3 p.1,.int p.2]) (fun p=>IK p.1 p.2) fun p d=>PJ p.1 p.2 d
abbrev G7:J1:=JV (fun p:I3×Int=>[t3 p.1,.int p.2]) (fun p=>Js p.1 p.2) (fun p=>Du p.1 p.2) (fun p d=>PJ p.1 p.2 d) fun p=>J2 p.1 p.2
def Uy(T:Txt K mg)
  (aaL:PmM P w K mg base 11 ["Bowl","Saddle"] "way_to" Qw)
  (xG:PmX P w K mg base 10 "shape_of" DK ["form"] JK)
  (fY:PmX P w K mg base 3 "check_within" Cv ["number","most"] Gn)
  (gY:Pm P w K mg base 2 "roots_of_square_divisors" Bh ["number"] Eh)
  (acf:Pm P w K mg base 1 "feet" Ku ["first","far"] Zy)
  : PmX P w K mg base 12 "families" Dy ["form","number"] G7:=by
 obtain⟨f,fd,F⟩:=T.rJ
 obtain⟨iQ,aX⟩:=T.aX
 obtain⟨aA,acG,aaM,aaN⟩:=T.uP
 refine⟨f,fd,F,F.fn.okX Ft (fun ds Q E ⟨p,e,_⟩=>by rw[e];rfl) fun cdv A outer s H E hr=>⟨_,(Bs (KH 2 Ft.nd (Dq Bo xG (hr.mono (by decide)) rfl (Aa (dv 0) Ad))) (Bs (Kf (Fj hr.units (dv 1) Ab) (Bu (Yr aaM aaN rfl rfl (Aa JN Ad))) Ji) (Bs (Kv (Dq Bo fY (hr.mono (by decide)) rfl (Aa (dv 1) (Aa (Ik (v:=.int (400)) (d:=.int (400)) rfl aX ⟨_,rfl⟩ (fun _=>Bp.mpr rfl)) Ad)))) (Bs (GF (UG 3 Ft.nd Ad)) (Bs (GF (Uv PassesOwn.never rfl (Kl (Ai Ag gY (hr.mono (by decide)) rfl (Aa (dv 1) Ad))) (Ij 4 Ft.nd) (Aj (Uv PassesOwn.never rfl (Kl (Ai Ag acf (hr.mono (by decide)) rfl (Aa (Ed (dv 1) (Ax (dv 4) (dv 4))) (Aa (Pn (dv 2)) Ad)))) (Ij 5 Ft.nd) (Ae (Aw 6 Ft.nd (Aea Ag aaL (hr.mono (by decide)) (dv 2) (Aa (dv 5) Ad))) (Aj (CV (Ahq (dv 6) NP) (Aj (Ui 3 (Bj (Aa (Bj (Aa (Ax (dv 4) (Ac (dv 6) Ab)) (Aa (Ax (dv 4) (Ac (dv 6) Ab)) Ad))) (Aa (dv 5) (Aa (dv 6) Ad)))))) Bq))))))) (Bu (GF (Uj 3 (Ay (Aco T.fL hr.units (Aa (dv 3) Ad))))))))))),fun ds Q Ex h=>?_⟩⟩
 obtain⟨⟨f,n⟩,rfl,hX,q,x⟩:=h
 have hX:Js f n:=hX
 have x:¬Du f n→Ex (J2 f n):=x
 have q:Du f n→∀d,PJ f n d→Q d:=q
 walk_at "go"
 refine Di f (hX.bf.le (by decide)) (fun gf d ho=>?_) (fun nf=>by have:=x fun z=>nf z.1;rw[J2,if_neg nf]at this;exact this)
 obtain⟨c,l,hc,rfl,hl⟩:=Aa8 ho
 walk_at "rd"
 refine Ie (fun h0=>⟨by decide,?_⟩) (fun h0=>Di (n,400) trivial (fun hn _ _=>?_) (fun hn=>?_))
 ·have h0:=of_decide_eq_true h0
  have:=x fun z=>z.2.1 h0
  rw[J2,if_pos gf,if_pos h0]at this
  exact this
 case refine_3 =>
  have n0:n≠0:=fun z=>h0 (decide_eq_true z)
  have hn:¬(n.natAbs:Int)≤400:=hn
  have:=x fun z=>hn (by have:=z.2.2;omega)
  rw[J2,if_pos gf,if_neg n0]at this
  exact this
 have n0:n≠0:=fun z=>h0 (decide_eq_true z)
 have hn:(n.natAbs:Int)≤400:=hn
 have n4:n.natAbs≤400:=by omega
 have hP:IK f n:=⟨hX.bf,gf,n0,n4,fun k=>hX.bo k n0 n4,hX.bm⟩
 have q:∀d,PJ f n d→Q d:=q ⟨gf,n0,n4⟩
 refine⟨Nat.zero_le _,Nz ?_⟩
 walk_at "rd"
 refine Cd n n4 ?_
 rintro _ ⟨r,hr,sr,rfl⟩
 have l64:=V2 hP hr
 refine Pg ((IW n r).map Dt.int) (fun R h=>h) (fun i ρ=>(∀g∈(IW n r).take i,∀h∈FN (n.fdiv (g*g)) (meas f),∃w,JX f l h w)∧∃x y z,ρ=[some (.is (t3 f)),some (.is (.int n)),some (.is (RM c f l)),some (.own ((((IW n r).take i).flatMap (Ms f n)).map AkQ)),x,y,z]) ⟨fun g hg=>by simp at hg,none,none,none,by simp⟩ ?_ ?_
 ·rintro i d _ hi ⟨al,x,y,z,rfl⟩
  obtain⟨g,hg,rfl⟩:=ints_get hi
  obtain⟨g1,g2,g3⟩:=Ek.mp (List.mem_of_getElem? hg)
  have eg:=J9 (show g≠0 by omega) g3
  have tl:=V6 (F:=Ms f n) hg
  obtain⟨m,em⟩:∃m,n.fdiv (g*g)=m:=⟨_,rfl⟩
  rw[em]at eg
  have m0:m≠0:=fun z=>n0 (by rw[←eg,z];omega)
  have m4:m.natAbs≤400:=by
   have h1:n.natAbs=(g*g).natAbs*m.natAbs:=by rw[←eg,Int.natAbs_mul]
   have h2:1≤(g*g).natAbs:=by
    have:=Int.mul_pos (show 0<g by omega) (show 0<g by omega)
    omega
   have h3:1*m.natAbs≤(g*g).natAbs*m.natAbs:=Nat.mul_le_mul_right _ h2
   omega
  have mp:Bl f→0<m:=fun k=>by
   have hn:=hP.bo k
   rcases Int.lt_or_le 0 m with w|w
   ·exact w
   ·have:=Int.mul_nonneg (Int.mul_nonneg (show 0≤g by omega) (show 0≤g by omega)) (show 0≤-m by omega)
    have e:g*g * -m=-(g*g*m):=Int.mul_neg ..
    omega
  have eG:Ms f n g=J0 f g (FN m (meas f)):=by unfold Ms;rw[em]
  have bg:Bt 6 g:=Bt.of (by omega) (by omega)
  refine Nz ?_
  walk_at "rd"
  refine⟨bg.aY bg,Bt.lW (bg.mul bg) (Int.mul_ne_zero (by omega) (by omega)),Zr T hc,_,rfl,?_⟩
  rw[em]
  refine Ar (m,meas f) ⟨m0,m4,hP.bm⟩ ?_
  refine Pg ((FN m (meas f)).map t3) (fun R h=>h) (fun j ρ=>(∀h∈(FN m (meas f)).take j,∃w,JX f l h w)∧∃y z,ρ=[some (.is (t3 f)),some (.is (.int n)),some (.is (RM c f l)),some (.own ((((IW n r).take i).flatMap (Ms f n)++J0 f g ((FN m (meas f)).take j)).map AkQ)),some (.is (.int g)),y,z]) ⟨fun h hh=>by simp at hh,y,z,by simp[J0]⟩ ?_ ?_
  ·rintro j d _ hj ⟨al2,y,z,rfl⟩
   obtain⟨h,hh,rfl⟩:=VP hj
   have F:=(EY m0).mp (List.mem_of_getElem? hh)
   have ft:=Abj (f:=f) (g:=g) hh
   have fl:=Aed (f:=f) (g:=g) (fs:=FN m (meas f)) (j:=j)
   walk_at "rd"
   refine⟨⟨by rcases hc with e|e<;>rw[e]<;>simp,by decide⟩,Cd (c,f,l,h) ⟨hc,hl,Ag3 m4 hP.bm F,fun _=>AbA hP.kf F.me F.a mp⟩ ?_⟩
   rintro w W
   have W:JX f l h w:=W
   have ew:=Ua hl W
   have al3:∀k∈(FN m (meas f)).take (j+1),∃w,JX f l k w:=fun k hk=>by
    rw[List.take_add_one,hh]at hk
    rcases List.mem_append.mp hk with hk|hk
    ·exact al2 k hk
    ·simp only[Option.toList_some,List.mem_singleton]at hk
     subst hk
     exact⟨w,W⟩
   cases hw:LR f h with
   | none =>
    rw[hw]at ew ft
    dsimp only at ew ft
    subst ew
    refine Fz rfl ⟨al3,some (.is (t3 h)),some (.is .non),?_⟩
    rw[ft,List.append_nil]
   | some t =>
    rw[hw]at ew ft
    dsimp only at ew ft
    subst ew
    refine ift rfl ?_
    walk_at "rd"
    obtain⟨_,_,bt⟩:=SQ hl W
    refine⟨bg.aY bt.1,bg.aY bt.2.2.1,Am (by decide),Am (by decide),?_,al3,some (.is (t3 h)),some (.is (t4 t)),?_⟩
    ·rw[List.length_append]
     rw[eG]at tl
     have e64:(List.flatMap (Ms f n) (IW n r)).length<64:=l64
     exact Nat.lt_of_lt_of_le (by omega) (Am (n:=64) (by decide))
    ·rw[ft,←List.append_assoc,List.map_append (l₂:=[(g,h,t)])]
     rfl
  ·rintro _ ⟨al2,y,z,rfl⟩
   refine⟨fun k hk=>?_,some (.is (.int g)),y,z,?_⟩
   ·rw[List.take_add_one,hg]at hk
    rcases List.mem_append.mp hk with hk|hk
    ·exact al k hk
    ·simp only[Option.toList_some,List.mem_singleton]at hk
     subst hk
     rw[em]
     rw[List.length_map,List.take_length]at al2
     exact al2
   ·rw[Abg hg,eG,List.length_map,List.take_length]
 ·rintro _ ⟨al,x,y,z,rfl⟩
  rw[List.length_map,List.take_length]at al
  walk_at "rd"
  rw[List.take_length]
  refine⟨(Mr f n r).map Cm,?_,by rw[List.length_map];exact l64,fun rr hrr=>?_,q _ ⟨r,hr,sr,rfl,l,hl,al⟩⟩
  ·rw[List.map_map]
   rfl
  ·obtain⟨F,_,rfl⟩:=List.mem_map.mp hrr
   simp[Cm]
def Wz{P:Program}{w:World}{K:W.Frag}{mg:Str→Option Value}{base:Heap}(G:PmX P w K mg base 12 "families" Dy ["form","number"] G7)
  : Pm P w K mg base 12 "families" Dy ["form","number"] Wm:=by
 refine G.pm Bo fun ds Q h=>?_
 obtain⟨p,e,hP,q⟩:=h
 exact⟨p,e,⟨hP.bf,fun k _ _=>hP.bo k,hP.bm⟩,fun _ d z=>q d z,fun z=>absurd ⟨hP.kf,hP.n0,hP.n4⟩ z⟩
def Qf(f:I3)(n:Int)(d:Dt):Prop:=∃r:Nat,r≤20∧Sq n.natAbs r∧d=.lst ((Fy f n r).map fun rs=>Cy (rs.getD 0 []))∧Ir f n r
abbrev AcZ:DSp:=spec (fun p:I3×Int=>[t3 p.1,.int p.2]) (fun p=>IK p.1 p.2) fun p d=>Qf p.1 p.2 d
abbrev KN:J1:=JV (fun p:I3×Int=>[t3 p.1,.int p.2]) (fun p=>Js p.1 p.2) (fun p=>Du p.1 p.2) (fun p d=>Qf p.1 p.2 d) fun p=>J2 p.1 p.2
def El{f:I3}{n:Int}{r:Nat}{rs:List (List Int)}(h:rs∈Fy f n r):∃F∈Mr f n r,rs=Cm F:=by
 have:=(Hy _).mem_iff.mp h
 obtain⟨F,h1,h2⟩:=List.mem_map.mp this
 exact⟨F,h1,h2.symm⟩
def Qq{f:I3}{n:Int}{r:Nat}(h:IK f n)(hr:r≤20):(Fy f n r).length<64:=by
 unfold Fy
 rw[(Hy _).length_eq,List.length_map]
 exact V2 h hr
def Ac0(k:Nat):Dt→Dt
 |.tup ds=>ds.getD k .non
 |_=>.non
def Sw{f:I3}{n:Int}{r k:Nat}(hk:k<3):((Fy f n r).map nestD).map (Ac0 k)=((Fy f n r).map fun rs=>rs.getD k []).map Cy:=by
 rw[List.map_map,List.map_map]
 refine List.map_congr_left fun rs hrs=>?_
 obtain⟨F,_,rfl⟩:=El hrs
 obtain rfl|rfl|rfl:k=0∨k=1∨k=2:=by omega
 all_goals rfl
def Abv(T:Txt K mg)
  (jG:PmX P w K mg base 12 "families" Dy ["form","number"] G7)
  : PmX P w K mg base 13 "heads" Gv ["form","number"] KN:=by
 obtain⟨f,fd,F⟩:=T.aaD
 refine⟨f,fd,F,F.fn.okX AdS (fun ds Q E ⟨p,e,_⟩=>by rw[e];rfl) fun cdv A outer s H E hr=>⟨_,(Bu (Aav (Acu (Fx (sc:=Af Gv) (NN:=["form","number"]) (x:="family") (N:=[]) (sl:=[]) rfl rfl (by decide +kernel)) rfl (Dq Bo jG (hr.mono (by decide)) rfl (Aa (dv 0) (Aa (dv 1) Ad))) (fun cl C s0 H0 ex=>(Ac (dv 0) Ab))))),fun ds Q Ex h=>?_⟩⟩
 obtain⟨⟨f,n⟩,rfl,hX,q,x⟩:=h
 have hX:Js f n:=hX
 have q:Du f n→∀d,Qf f n d→Q d:=q
 walk_at "go"
 refine Di (f,n) hX (fun gf d hd=>?_) x
 obtain⟨r,hr,sr,rfl,al⟩:=hd
 have gf:Du f n:=gf
 have hP:IK f n:=⟨hX.bf,gf.1,gf.2.1,gf.2.2,fun k=>hX.bo k gf.2.1 gf.2.2,hX.bm⟩
 have len:=Qq hP hr
 refine Hr ((Fy f n r).map nestD) (Ac0 0) (fun R hR=>hR) (by rw[List.length_map];exact Am (by show(Fy f n r).length≤1000;omega)) Eo (fun d hd R hR=>?_) ?_
 ·obtain⟨rs,hrs,rfl⟩:=List.mem_map.mp hd
  obtain⟨F,_,rfl⟩:=El hrs
  unfold inner
  walk_at "rd"
  exact hR
 ·refine q gf _ ⟨r,hr,sr,?_,al⟩
  have:=Sw (f:=f) (n:=n) (r:=r) (k:=0) (by decide)
  rw[this,List.map_map]
  rfl
def Aci{P:Program}{w:World}{K:W.Frag}{mg:Str→Option Value}{base:Heap}(G:PmX P w K mg base 13 "heads" Gv ["form","number"] KN)
  : Pm P w K mg base 13 "heads" Gv ["form","number"] AcZ:=by
 refine G.pm Bo fun ds Q h=>?_
 obtain⟨p,e,hP,q⟩:=h
 exact⟨p,e,⟨hP.bf,fun k _ _=>hP.bo k,hP.bm⟩,fun _ d z=>q d z,fun z=>absurd ⟨hP.kf,hP.n0,hP.n4⟩ z⟩
structure Zz(f:I3)(n:Int)(p:I2):Prop where
 fam:IK f n
 v:val f p=n
 bp:B2 8900 p
 bf:B3 800 f
def PK(f:I3)(p:I2)(T:I4):Prop:=∃u v:Int,Alv p.1 p.2 u v∧u*p.1+v*p.2=((Int.gcd p.1 p.2:Nat):Int)∧T=Ah (Dc p.1 p.2 (Int.gcd p.1 p.2:Nat) u v) (1,G6 (mov f (Dc p.1 p.2 (Int.gcd p.1 p.2:Nat) u v)),0,1)∧B4 64000 T
abbrev JT:DSp:=spec (fun p:I3×I2=>[t3 p.1,t2 p.2]) (fun p=>∃n,Zz p.1 n p.2) fun p d=>∃T,d=t4 T∧PK p.1 p.2 T
def O2(T:Txt K mg)
  (abv:Pm P w K mg base 2 "shares" Jh ["one","other"] Tp)
  (jj:Pm P w K mg base 3 "moved" G8 ["form","turn"] J6)
  (aC:Pm P w K mg base 1 "put_behind" Bv ["one","other"] Cq)
  : Pm P w K mg base 4 "turn_to_foot" Dk ["form","point"] JT:=by
 obtain⟨f,fd,F⟩:=T.jE
 refine⟨f,fd,F,F.fn.okD Ck (by walk_at "lE") fun cdv A outer s H E hr=>⟨_,(Ae (Aw 2 Ck.nd (Ai Ag abv (hr.mono (by decide)) rfl (Aa (Ac (dv 1) Ab) (Aa (Ac (dv 1) Ab) Ad)))) (Ae (Aw 3 Ck.nd (Ac (dv 2) Ab)) (Ae (Aw 4 Ck.nd (Bj (Aa (Ed (Ac (dv 1) Ab) (dv 3)) (Aa (Dp (Ac (dv 2) Ab)) (Aa (Ed (Ac (dv 1) Ab) (dv 3)) (Aa (Ac (dv 2) Ab) Ad)))))) (Ae (Aw 5 Ck.nd (Ai Ag jj (hr.mono (by decide)) rfl (Aa (dv 0) (Aa (dv 4) Ad)))) (Ae (Aw 6 Ck.nd (Ax Ab (Ac (dv 5) Ab))) (Ae (Aw 7 Ck.nd (Ed (Ew (GZ (Ac (dv 5) Ab) (Ks T.iV (Aa (dv 6) Ad))) (Ac (dv 5) Ab)) (dv 6))) (Aj (Ay (Ai Ag aC (hr.mono (by decide)) rfl (Aa (dv 4) (Aa (Bj (Aa Ab (Aa (dv 7) (Aa Ab (Aa Ab Ad))))) Ad))))))))))),fun ds Q h=>?_⟩⟩
 obtain⟨⟨f,x,y⟩,rfl,⟨n,hP⟩,q⟩:=h
 have hP:Zz f n (x,y):=hP
 have q:∀d,(∃T,d=t4 T∧PK f (x,y) T)→Q d:=q
 walk_at "go"
 refine Cd (x,y) ⟨hP.bp.1.le (by decide),hP.bp.2.le (by decide)⟩ ?_
 rintro _ ⟨u,v,rfl,b,bu,bv,so⟩
 walk_at "rd"
 have bp:=hP.bp
 have n0:=hP.fam.n0
 have hv:val f (x,y)=n:=hP.v
 obtain⟨g,eg⟩:∃g:Int,((x.gcd y:Nat):Int)=g:=⟨_,rfl⟩
 have b:u*x+v*y=((x.gcd y:Nat):Int):=b
 have gx:g∣x:=by rw[←eg];exact Int.gcd_dvd_left ..
 have gy:g∣y:=by rw[←eg];exact Int.gcd_dvd_right ..
 have g0:1≤g:=by
  rcases Int.lt_or_le 0 g with z|z
  ·omega
  ·have z0:Int.gcd x y=0:=by omega
   obtain⟨rfl,rfl⟩:=Int.gcd_eq_zero_iff.mp z0
   exfalso
   apply n0
   rw[←hv]
   simp[val]
 have bg:Bt 8900 g:=by rw[←eg];exact(Akx (n:=8900) (bp.1.le (by decide)) (bp.2.le (by decide)))
 rw[eg]at b ⊢
 obtain⟨m,hm,m0,dT0,e1,dT,F,ld⟩:=Vm hv n0 g0 gx gy b
 have bd:∀{z:Int},Bt 8900 z→g∣z→Bt 8900 (z.fdiv g):=fun{z} bz ⟨k,hk⟩=>by
  rw[hk,Int.mul_fdiv_cancel_left _ (by omega)]
  exact KQ (t:=k) (b:=g) (by rw[Int.mul_comm,←hk];exact bz) (by omega)
 have bT0:B4 20000 (Dc x y g u v):=⟨(bd bp.1 gx).le (by decide),bv.neg,(bd bp.2 gy).le (by decide),bu⟩
 refine⟨Bt.lW bg (by omega),Bt.lW bg (by omega),Am (by decide),Ar (f,Dc x y g u v) ⟨hP.bf.le (by decide),bT0.le (by decide),dT0⟩ ?_⟩
 have bF:=(B3.mov hP.bf bT0).le (m:=41000) (by decide)
 obtain⟨G,eG⟩:∃G,mov f (Dc x y g u v)=G:=⟨_,rfl⟩
 dsimp only
 rw[eG]at bF e1 dT F ld ⊢
 walk_at "rd"
 have two:Bt 2 2:=Bt.aK (by decide)
 have a0:G.1≠0:=by rw[e1];exact m0
 have ea:(if 2*G.1<0 then -(2*G.1)else 2*G.1)=((2*G.1).natAbs:Int):=by split<;>omega
 rw[ea]
 have bk:Bt 41010 (G6 G):=by
  have k:=(UL a0).1
  have fm:Bt 41003 (G.2.1.fmod (2*G.1).natAbs):=by
   obtain⟨r1,r2⟩:=(UL a0).2
   have:=bF.1
   unfold Bt at *
   have e:(2:Nat) ^ 41003=8*2 ^ 41000:=by rw[show 41003=3+41000 from rfl,Nat.pow_add]
   omega
  refine(KQ (n:=41005) (t:=G6 G) (b:=2*G.1) ?_ (by omega)).le (by decide)
  have:G6 G*(2*G.1)=G.2.1.fmod (2*G.1).natAbs-G.2.1:=by
   rw[Int.mul_comm]
   omega
  rw[this]
  exact(fm.sub bF.2.1).le (by decide)
 have bm:Bt 10 G.1:=by
  rw[e1]
  have h1:n.natAbs=(g*g).natAbs*m.natAbs:=by rw[←hm,Int.natAbs_mul]
  have h2:1≤(g*g).natAbs:=by
   have:=Int.mul_pos (show 0<g by omega) (show 0<g by omega)
   omega
  have h3:1*m.natAbs≤(g*g).natAbs*m.natAbs:=Nat.mul_le_mul_right _ h2
  have h4:=hP.fam.n4
  exact Bt.of (by omega) (by omega)
 refine⟨two.aY bF.1,by omega,Bt.lW (two.mul bm) (by omega),Am (by decide),?_⟩
 refine Ar (Dc x y g u v,(1,G6 G,0,1)) ⟨bT0.le (by decide),Bt.one.le (by decide),bk.le (by decide),Bt.zero.le (by decide),Bt.one.le (by decide)⟩ (q _ ⟨_,rfl,u,v,so,?_,?_,?_⟩)
 ·show u*x+v*y=((x.gcd y:Nat):Int)
  rw[eg]
  exact b
 ·show Ah (Dc x y g u v) (1,G6 G,0,1)=Ah (Dc x y ((x.gcd y:Nat):Int) u v) (1,G6 (mov f (Dc x y ((x.gcd y:Nat):Int) u v)),0,1)
  rw[eg,eG]
 ·have:B4 41010 (1,G6 G,0,1):=⟨Bt.one.le (by decide),bk,Bt.zero.le (by decide),Bt.one.le (by decide)⟩
  exact(bT0.then this).le (by decide)
structure Qn(f:I3)(n:Int)(p:I2)(T:I4)(k:Nat)(F:Fam):Prop where
 to:PK f p T
 fam:∃r:Nat,r≤20∧Sq n.natAbs r∧(Fy f n r)[k]? = some (Cm F)∧F∈Mr f n r∧∀m rs,m<k→(Fy f n r)[m]? = some rs→rs.getD 1 []≠(Cm F).getD 1 []
 ft:F.2.1=mov f T
 dt:det T=1
 own:det (Ah T (Ao F.2.2))=1∧mov f (Ah T (Ao F.2.2))=f∧B4 260000 (Ah T (Ao F.2.2))
 led:Ez (Ah T (Ao F.2.2)) (F.1*F.2.2.1,F.1*F.2.2.2.2.1)=p
 bh:B2 300000 (F.1*F.2.2.1,F.1*F.2.2.2.2.1)
def YJ{F G:Fam}(h:Cm F=Cm G):F.2=G.2:=by
 unfold Cm at h
 simp only[List.cons.injEq,and_true]at h
 obtain⟨_,⟨a1,a2,a3⟩,b1,b2,b3,b4⟩:=h
 exact Prod.ext (Ur a1 a2 a3) (Prod.ext b1 (Prod.ext b2 (Prod.ext b3 b4)))
def Ky{f:I3}{n:Int}{r:Nat}{l:Dt}{F:Fam}(hl:Ga f l)(h:F∈Mr f n r):F.1∈IW n r∧F.2.1∈FN (n.fdiv (F.1*F.1)) (meas f)∧LR f F.2.1=some F.2.2∧det F.2.2=1∧mov f F.2.2=F.2.1∧B4 190000 F.2.2:=by
 unfold Mr at h
 obtain⟨g,hg,h⟩:=List.mem_flatMap.mp h
 unfold Ms J0 at h
 obtain⟨foot,hf,h⟩:=List.mem_filterMap.mp h
 obtain⟨t,ht,rfl⟩:=Option.map_eq_some_iff.mp h
 exact⟨hg,hf,ht,Rz hl ht⟩
def Aez{f:I3}{n g m:Int}{r:Nat}{h:I3}{t:I4}(g0:1≤g)(e:g*g*m=n)(n0:n≠0)(hr:Sq n.natAbs r)(m0:m≠0)(F:R9 m (meas f) h)(w:LR f h=some t):(g,h,t)∈Mr f n r:=by
 obtain⟨h1,h2⟩:=Uo g0 e n0 hr
 refine List.mem_flatMap.mpr ⟨g,h1,?_⟩
 unfold Ms J0
 rw[h2]
 exact List.mem_filterMap.mpr ⟨h,(EY m0).mpr F,by rw[w];rfl⟩
def VF{α:Type}{P:α→Prop}:∀{l:List α} {a:α},a∈l→P a→∃(k:Nat)(b:α),l[k]? = some b∧P b∧∀(m:Nat)(c:α),m<k→l[m]? = some c→¬P c
 | [],_,h,_=>by cases h
 | x::l,a,h,p=>by
  by_cases hx:P x
  ·exact⟨0,x,rfl,hx,fun m c hm _=>absurd hm (by omega)⟩
  ·rcases List.mem_cons.mp h with rfl|h
   ·exact absurd p hx
   ·obtain⟨k,b,h1,h2,h3⟩:=VF h p
    refine⟨k+1,b,h1,h2,fun m c hm e=>?_⟩
    match m,e with
    |0,e=>cases e;exact hx
    |m+1,e=>exact h3 m c (by omega) e
theorem g_same{g g' m:Int}(h:1≤g)(h':1≤g')(m0:m≠0)(e:g*g*m=g'*g'*m):g=g':=by
 have e:=Int.eq_of_mul_eq_mul_right m0 e
 rcases Int.lt_trichotomy g g' with z|z|z
 ·have:=Int.mul_lt_mul' (show g≤g' by omega) z (by omega) (by omega)
  omega
 ·exact z
 ·have:=Int.mul_lt_mul' (show g'≤g by omega) z (by omega) (by omega)
  omega
def Abd{f:I3}{n:Int}{p:I2}{T:I4}{r:Nat}(hP:Zz f n p)(al:Ir f n r)(hr:r≤20)(sr:Sq n.natAbs r)(to:PK f p T):∃k F,Qn f n p T k F∧(Fy f n r)[k]? = some (Cm F)∧∀m rs,m<k→(Fy f n r)[m]? = some rs→rs.getD 1 []≠(Cm F).getD 1 []:=by
 obtain⟨l,hl,al⟩:=al
 obtain⟨x,y⟩:=p
 obtain⟨u,v,so,b,eT,bT⟩:=to
 have n0:=hP.fam.n0
 have hv:val f (x,y)=n:=hP.v
 obtain⟨g,eg⟩:∃g:Int,((x.gcd y:Nat):Int)=g:=⟨_,rfl⟩
 dsimp only at b eT
 have gx:g∣x:=by rw[←eg];exact Int.gcd_dvd_left ..
 have gy:g∣y:=by rw[←eg];exact Int.gcd_dvd_right ..
 have g0:1≤g:=by
  rcases Int.lt_or_le 0 g with z|z
  ·omega
  ·have z0:Int.gcd x y=0:=by omega
   obtain⟨rfl,rfl⟩:=Int.gcd_eq_zero_iff.mp z0
   exfalso
   apply n0
   rw[←hv]
   simp[val]
 rw[eg]at b eT
 obtain⟨m,hm,m0,dT0,e1,dT,F,ld⟩:=Vm hv n0 g0 gx gy b
 rw[←eT]at dT F ld
 have hw:∃t,LR f (mov f T)=some t:=by
  cases hq:LR f (mov f T)with
  |some t=>exact⟨t,rfl⟩
  | none =>
   exfalso
   obtain⟨s1,s2⟩:=Uo g0 hm n0 sr
   obtain⟨w,W⟩:=al g s1 (mov f T) (by rw[s2];exact(EY m0).mpr F)
   have ew:=Ua hl W
   rw[hq]at ew
   dsimp only at ew
   subst ew
   rcases W with⟨ne,_⟩|⟨_,g1,t1,g2,t2,e1,h2,e3⟩
   ·exact ne (BJ dT).symm
   ·obtain⟨g1',t1',e1',L1,_⟩:=Ou hl
    rw[e1]at e1'
    obtain⟨rfl,rfl⟩:=Gx e1'
    obtain⟨g2',t2',e2',L2,_⟩:=Ou h2
    obtain⟨rfl,rfl⟩:=Gx e2'
    have es:g1=g2:=L1.same L2 dT rfl
    rw[if_pos es]at e3
    cases e3
 obtain⟨t,hw⟩:=hw
 have hmem:=Aez g0 hm n0 sr m0 F hw
 have hin:Cm (g,mov f T,t)∈Fy f n r:=(Hy _).mem_iff.mpr (List.mem_map.mpr ⟨_,hmem,rfl⟩)
 obtain⟨k,rs,hk,hp,before⟩:=VF (P:=fun rs=>rs.getD 1 []=(Cm (g,mov f T,t)).getD 1 []) hin rfl
 obtain⟨G,hG,rfl⟩:=El (List.mem_of_getElem? hk)
 obtain⟨m1,m2,m3,m4,m5,m6⟩:=Ky hl hG
 have ef:G.2.1=mov f T:=by
  have hp:[G.2.1.1,G.2.1.2.1,G.2.1.2.2]=[(mov f T).1,(mov f T).2.1,(mov f T).2.2]:=hp
  simp only[List.cons.injEq,and_true]at hp
  exact Ur hp.1 hp.2.1 hp.2.2
 obtain⟨q1,q2,q3⟩:=Ek.mp m1
 have eG:G.1*G.1*n.fdiv (G.1*G.1)=n:=J9 (by omega) q3
 have mG:n.fdiv (G.1*G.1)=m:=by
  have z0:n.fdiv (G.1*G.1)≠0:=fun z=>n0 (by rw[←eG,z];omega)
  have:=((EY z0).mp m2).a
  rw[←this,ef]
  exact F.a
 rw[mG]at eG
 have gg:G.1=g:=g_same q1 g0 m0 (eG.trans hm.symm)
 have bg6:Bt 6 G.1:=Bt.of (by omega) (by omega)
 have bh:B2 300000 (G.1*G.2.2.1,G.1*G.2.2.2.2.1):=⟨(bg6.mul m6.1).le (by decide),(bg6.mul m6.2.2.1).le (by decide)⟩
 have own1:det (Ah T (Ao G.2.2))=1:=by rw[BK,CP,dT,m4];rfl
 refine⟨k,G,⟨⟨u,v,so,by rw[eg];exact b,by rw[eg];exact eT,bT⟩,⟨r,hr,sr,hk,hG,fun j rs hj e=>fun z=>before j rs hj e (z.trans hp)⟩,ef,dT,⟨own1,?_,?_⟩,?_,bh⟩,hk,fun j rs hj e=>fun z=>before j rs hj e (z.trans hp)⟩
 ·rw[←Bd,←ef,←m5,BZ m4]
 ·exact(bT.then m6.back).le (by decide)
 ·rw[Ma]
  have:Ez (Ao G.2.2) (G.1*G.2.2.1,G.1*G.2.2.2.2.1)=(G.1,0):=by
   have e:=Qz (t:=G.2.2) (p:=(G.1,0)) m4
   have e2:Ez G.2.2 (G.1,0)=(G.1*G.2.2.1,G.1*G.2.2.2.2.1):=by
    simp only[Ez,Prod.mk.injEq]
    refine⟨by grind,by grind⟩
   rw[e2]at e
   exact e
  rw[this,gg]
  exact ld
abbrev Ae0(p:I2):Dt:=.exc "NoAnswer" ["point"] [t2 p]
noncomputable def xWh(f:I3)(n:Int)(p:I2):Dt:=@ite _ (Du f n) (Classical.propDecidable _) (Ae0 p) (J2 f n)
def AdH(f:I3)(n:Int)(p:I2)(d:Dt):Prop:=∃T k F,Qn f n p T k F∧d=.tup [.int (k:Nat),t4 (Ah T (Ao F.2.2))]
abbrev PL:J1:=JV (fun p:I3×Int×I2=>[t3 p.1,.int p.2.1,t2 p.2.2]) (fun p=>Js p.1 p.2.1∧B2 8900 p.2.2∧B3 800 p.1) (fun p=>Du p.1 p.2.1∧val p.1 p.2.2=p.2.1) (fun p d=>AdH p.1 p.2.1 p.2.2 d) fun p=>xWh p.1 p.2.1 p.2.2
def Yp(T:Txt K mg)
  (jG:PmX P w K mg base 12 "families" Dy ["form","number"] G7)
  (rW:Pm P w K mg base 4 "turn_to_foot" Dk ["form","point"] JT)
  (qU:Pm P w K mg base 1 "value" Jx ["form","point"] Qj)
  (jj:Pm P w K mg base 3 "moved" G8 ["form","turn"] J6)
  (aC:Pm P w K mg base 1 "put_behind" Bv ["one","other"] Cq)
  (rN:Pm P w K mg base 3 "back" Ko ["turn"] Pu)
  : PmX P w K mg base 13 "whence" Ia ["form","number","point"] PL:=by
 obtain⟨f,fd,F⟩:=T.xg
 obtain⟨ak,acg,fM,ab5,zq⟩:=XQ (P:=P) (w:=w) (base:=base) T
 refine⟨f,fd,F,F.fn.okX KY (fun ds Q E ⟨p,e,_⟩=>by rw[e];rfl) fun cdv A outer s H E hr=>⟨_,(Bs (KH 3 KY.nd (Dq Bo jG (hr.mono (by decide)) rfl (Aa (dv 0) (Aa (dv 1) Ad)))) (Bs (Kf (Jo hr.units (Ai Ag qU (hr.mono (by decide)) rfl (Aa (dv 0) (Aa (dv 2) Ad))) (dv 1)) (Bu (Jp zq (hr.mono (by decide)) rfl rfl (Aa (dv 2) Ad))) Ji) (Bs (GF (Aw 4 KY.nd (Ai Ag rW (hr.mono (by decide)) rfl (Aa (dv 0) (Aa (dv 2) Ad))))) (Bs (GF (Aw 5 KY.nd (AbS hr.units (AmU hr.units) (Pq (Fx (sc:=Af Ia) (NN:=["form","number","point","found","turn","place"]) (x:="family") (N:=[]) (sl:=[]) rfl rfl (by decide +kernel)) rfl (Kl (dv 3)) (fun cl C s0 H0 ex=>(Ac (dv 0) Ab))) (Ai Ag jj (hr.mono (by decide)) rfl (Aa (dv 0) (Aa (dv 4) Ad)))))) (Bu (GF (Ay (Bj (Aa (dv 5) (Aa (Ai Ag aC (hr.mono (by decide)) rfl (Aa (dv 4) (Aa (Ai Ag rN (hr.mono (by decide)) rfl (Aa (Ac (Ac (dv 3) (dv 5)) Ab) Ad)) Ad))) Ad)))))))))),fun ds Q Ex h=>?_⟩⟩
 obtain⟨⟨f,n,p⟩,rfl,⟨hX,bp,bf⟩,q,x⟩:=h
 have hX:Js f n:=hX
 have bp:B2 8900 p:=bp
 have bf:B3 800 f:=bf
 have x:¬(Du f n∧val f p=n)→Ex (xWh f n p):=x
 have q:Du f n∧val f p=n→∀d,AdH f n p d→Q d:=q
 walk_at "go"
 refine Di (f,n) hX (fun gf d hd=>?_) (fun nf=>by have:=x fun z=>nf z.1;rw[xWh,if_neg nf]at this;exact this)
 obtain⟨r,hr,sr,rfl,al⟩:=hd
 have gf:Du f n:=gf
 have fam:IK f n:=⟨hX.bf,gf.1,gf.2.1,gf.2.2,fun k=>hX.bo k gf.2.1 gf.2.2,hX.bm⟩
 have al:Ir f n r:=al
 have sr:Sq n.natAbs r:=sr
 refine Ar (f,p) ⟨bf.le (by decide),bp.1.le (by decide),bp.2.le (by decide)⟩ ?_
 walk_at "rd"
 by_cases hv:val f p=n
 case neg =>
  refine ift (by rw[decide_eq_false hv];rfl) ⟨by decide,?_⟩
  have:=x fun z=>hv z.2
  rw[xWh,if_pos gf]at this
  exact this
 have hP:Zz f n p:=⟨fam,hv,bp,bf⟩
 have q:∀d,(∃T k F,Qn f n p T k F∧d=.tup [.int (k:Nat),t4 (Ah T (Ao F.2.2))])→Q d:=q ⟨gf,hv⟩
 refine Fz (by rw[hP.v,decide_eq_true rfl];rfl) (Cd (f,p) ⟨n,hP⟩ ?_)
 rintro _ ⟨T,rfl,to⟩
 have to:PK f p T:=to
 obtain⟨k,F,W,hk,before⟩:=Abd hP al hr sr to
 have len:=Qq hP.fam hr
 walk_at "rd"
 obtain⟨hkl,_⟩:=List.getElem?_eq_some_iff.mp hk
 refine Hr ((Fy f n r).map nestD) (Ac0 1) (fun R hR=>hR) (by rw[List.length_map];exact Am (by omega)) Eo (fun d hd R hR=>?_) ?_
 ·obtain⟨rs,hrs,rfl⟩:=List.mem_map.mp hd
  obtain⟨G,_,rfl⟩:=El hrs
  unfold inner
  walk_at "rd"
  exact hR
 ·rw[Sw (by decide)]
  have bT:B4 64000 T:=by
   obtain⟨_,_,_,_,_,z⟩:=to
   exact z
  refine⟨(Fy f n r).map fun rs=>rs.getD 1 [],rfl,Ar (f,T) ⟨hP.bf.le (by decide),bT.le (by decide),W.dt⟩ ⟨[(mov f T).1,(mov f T).2.1,(mov f T).2.2],k,rfl,by rw[List.length_map];exact hkl,?_,fun j hj=>?_,?_⟩⟩
  ·rw[List.getD_eq_getElem?_getD,List.getElem?_map,hk,←W.ft]
   rfl
  ·obtain⟨rs,hrs⟩:∃rs,(Fy f n r)[j]? = some rs:=⟨_,List.getElem?_eq_getElem (by omega)⟩
   rw[List.getD_eq_getElem?_getD,List.getElem?_map,hrs,←W.ft]
   exact before j rs hj hrs
  ·obtain⟨d,e1,_,e3⟩:=AiL (ds:=(Fy f n r).map nestD) (k:=(k:Int)) (by omega) (by rw[List.length_map];omega)
   rw[Int.toNat_natCast,List.getElem?_map,hk]at e3
   cases e3
   rw[e1]
   walk_at "rd"
   obtain⟨l,hl,_⟩:=al
   obtain⟨r',_,_,_,hF,_⟩:=W.fam
   obtain⟨_,_,_,dF,_,bF⟩:=Ky hl hF
   refine Ar F.2.2 ⟨bF.le (by decide),dF⟩ (Ar (T,Ao F.2.2) ⟨bT.le (by decide),bF.back.le (by decide)⟩ ⟨Am (by decide),q _ ⟨T,k,F,W,rfl⟩⟩)
def Aak(m D:Int):∀n,(mids m D n).Pairwise (· < ·)
 |0=>List.Pairwise.nil
 | n+1=>by
  rw[mids,List.pairwise_append]
  refine⟨Aak m D n,by split<;>simp,fun a ha b hb=>?_⟩
  obtain⟨_,h2,_⟩:=Kc.mp ha
  split at hb
  ·simp only[List.mem_singleton]at hb
   omega
  ·cases hb
def Aal(n:Int):∀r,(IW n r).Pairwise (· < ·)
 |0=>List.Pairwise.nil
 | r+1=>by
  rw[IW,List.pairwise_append]
  refine⟨Aal n r,by split<;>simp,fun a ha b hb=>?_⟩
  obtain⟨_,h2,_⟩:=Ek.mp ha
  split at hb
  ·simp only[List.mem_singleton]at hb
   omega
  ·cases hb
def YB{f:I3}{n:Int}{r:Nat}(n0:n≠0):(Mr f n r).Pairwise fun F G=>F.2.1≠G.2.1:=by
 unfold Mr
 rw[List.pairwise_flatMap]
 refine⟨fun g hg=>?_,?_⟩
 ·unfold Ms J0 FN
  rw[List.pairwise_filterMap,List.pairwise_map]
  refine(Aak _ _ _).imp fun{a b} hab x hx y hy e=>?_
  obtain⟨t,_,rfl⟩:=Option.map_eq_some_iff.mp hx
  obtain⟨t',_,rfl⟩:=Option.map_eq_some_iff.mp hy
  have:a=b:=congrArg (fun z:I3=>z.2.1) e
  omega
 ·refine List.Pairwise.imp_of_mem (R:=(· < ·)) (fun{a b} ha hb hab x hx y hy e=>?_) (Aal n r)
  obtain⟨a1,_,a3⟩:=Ek.mp ha
  obtain⟨b1,_,b3⟩:=Ek.mp hb
  have ea:=J9 (by omega) a3
  have eb:=J9 (by omega) b3
  have ma:n.fdiv (a*a)≠0:=fun z=>n0 (by rw[←ea,z];omega)
  have mb:n.fdiv (b*b)≠0:=fun z=>n0 (by rw[←eb,z];omega)
  unfold Ms J0 at hx hy
  obtain⟨h,hh,hx⟩:=List.mem_filterMap.mp hx
  obtain⟨t,_,rfl⟩:=Option.map_eq_some_iff.mp hx
  obtain⟨h',hh',hy⟩:=List.mem_filterMap.mp hy
  obtain⟨t',_,rfl⟩:=Option.map_eq_some_iff.mp hy
  have e:h=h':=e
  subst e
  have e1:=((EY ma).mp hh).a
  have e2:=((EY mb).mp hh').a
  have em:n.fdiv (a*a)=n.fdiv (b*b):=e1.symm.trans e2
  rw[←em]at eb
  have:=g_same a1 b1 ma (ea.trans eb.symm)
  omega
def Y6{f:I3}{n:Int}{r i j:Nat}{F G:Fam}(n0:n≠0)(hi:(Fy f n r)[i]? = some (Cm F))(hj:(Fy f n r)[j]? = some (Cm G))(e:F.2.1=G.2.1):i=j:=by
 have p:(Fy f n r).Pairwise fun x y=>x.getD 1 []≠y.getD 1 []:=by
  unfold Fy
  rw[(Hy _).pairwise_iff (fun h=>h.symm),List.pairwise_map]
  refine(YB n0).imp fun{a b} h z=>h ?_
  have z:[a.2.1.1,a.2.1.2.1,a.2.1.2.2]=[b.2.1.1,b.2.1.2.1,b.2.1.2.2]:=z
  simp only[List.cons.injEq,and_true]at z
  exact Ur z.1 z.2.1 z.2.2
 rw[List.pairwise_iff_getElem]at p
 obtain⟨hi1,hi2⟩:=List.getElem?_eq_some_iff.mp hi
 obtain⟨hj1,hj2⟩:=List.getElem?_eq_some_iff.mp hj
 have ee:(Cm F).getD 1 []=(Cm G).getD 1 []:=by
  show [F.2.1.1,F.2.1.2.1,F.2.1.2.2]=[G.2.1.1,G.2.1.2.1,G.2.1.2.2]
  rw[e]
 rcases Nat.lt_trichotomy i j with z|z|z
 ·exact absurd ee (by have:=p i j hi1 hj1 z;rw[hi2,hj2]at this;exact this)
 ·exact z
 ·exact absurd ee.symm (by have:=p j i hj1 hi1 z;rw[hi2,hj2]at this;exact this)
def AbH{f:I3}{T U:I4}{m D:Int}(m0:m≠0)(d:det T=1)(d':det U=1)(A:R9 m D (mov f T))(B:R9 m D (mov f U))(e1:U.1=T.1)(e2:U.2.2.1=T.2.2.1):U=T:=by
 have es:=AbD m0 d d' A B (.inl ⟨e1,e2⟩)
 obtain⟨p,q,r,s⟩:=T
 obtain⟨p',q',r',s'⟩:=U
 dsimp only at e1 e2
 subst e1 e2
 have d:p'*s-q*r'=1:=d
 have d':p'*s'-q'*r'=1:=d'
 have hU:(p',q',r',s')=Ah (p',q,r',s) (1,s*q'-q*s',0,1):=by
  simp only[Ah,Prod.mk.injEq]
  refine⟨by omega,?_,by omega,?_⟩<;>grind
 have hk:s*q'-q*s'=0:=by
  have h1:(mov f (p',q',r',s')).2.1=(mov f (p',q,r',s)).2.1+2*(mov f (p',q,r',s)).1*(s*q'-q*s'):=by
   rw[hU,←Bd,Wh]
  rw[←es]at h1
  have h2:(mov f (p',q,r',s)).1=m:=A.a
  rw[h2]at h1
  have h3:2*m*(s*q'-q*s')=0:=by omega
  rcases Int.mul_eq_zero.mp h3 with z|z
  ·omega
  ·exact z
 rw[hU,hk,Dl]
def Adw{T U:I4}{g g':Int}(g0:1≤g)(g0':1≤g')(dT:det T=1)(dU:det U=1)(e1:g'*T.1=g*U.1)(e2:g'*T.2.2.1=g*U.2.2.1):g=g'∧U.1=T.1∧U.2.2.1=T.2.2.1:=by
 obtain⟨a,b,c,d⟩:=T
 obtain⟨x,y,z,w⟩:=U
 have dT:a*d-b*c=1:=dT
 have dU:x*w-y*z=1:=dU
 dsimp only at e1 e2
 have h1:g'=g*(x*d-b*z):=by
  have:g'*(a*d-b*c)=g*(x*d-b*z):=by
   have k1:g'*(a*d-b*c)=g'*a*d-b*(g'*c):=by grind
   rw[k1,e1,e2]
   grind
  rw[dT]at this
  omega
 have h2:g=g'*(a*w-y*c):=by
  have:g*(x*w-y*z)=g'*(a*w-y*c):=by
   have k1:g*(x*w-y*z)=g*x*w-y*(g*z):=by grind
   rw[k1,←e1,←e2]
   grind
  rw[dU]at this
  omega
 have gg:g=g':=Int.dvd_antisymm (by omega) (by omega) ⟨_,h1⟩ ⟨_,h2⟩
 subst gg
 have gn:g≠0:=by omega
 exact⟨rfl,(Int.eq_of_mul_eq_mul_left gn e1).symm,(Int.eq_of_mul_eq_mul_left gn e2).symm⟩
def AfU{f:I3}{n:Int}{r:Nat}{F:Fam}(al:Ir f n r)(n0:n≠0)(hF:F∈Mr f n r):val f (F.1*F.2.2.1,F.1*F.2.2.2.2.1)=n:=by
 obtain⟨l,hl,_⟩:=al
 obtain⟨m1,m2,m3,m4,m5,_⟩:=Ky hl hF
 obtain⟨g1,g2,g3⟩:=Ek.mp m1
 have eg:=J9 (by omega) g3
 have m0:n.fdiv (F.1*F.1)≠0:=fun z=>n0 (by rw[←eg,z];omega)
 have ha:=((EY m0).mp m2).a
 rw[←m5]at ha
 have ha:val f (F.2.2.1,F.2.2.2.2.1)=n.fdiv (F.1*F.1):=ha
 rw[←eg,←ha]
 simp only[val]
 grind
def AdJ{f h:I3}{n g:Int}{r:Nat}{t:I4}(al:Ir f n r)(hg:g∈IW n r)(hh:h∈FN (n.fdiv (g*g)) (meas f))(dt:det t=1)(et:mov f t=h):∃t',LR f h=some t':=by
 obtain⟨l,hl,al⟩:=al
 cases hq:LR f h with
 |some t'=>exact⟨t',rfl⟩
 | none =>
  exfalso
  obtain⟨w,W⟩:=al g hg h hh
  have ew:=Ua hl W
  rw[hq]at ew
  dsimp only at ew
  subst ew
  rcases W with⟨ne,_⟩|⟨_,g1,t1,g2,t2,e1,h2,e3⟩
  ·exact ne (by rw[←et];exact(BJ dt).symm)
  ·obtain⟨g1',t1',e1',L1,_⟩:=Ou hl
   rw[e1]at e1'
   obtain⟨rfl,rfl⟩:=Gx e1'
   obtain⟨g2',t2',e2',L2,_⟩:=Ou h2
   obtain⟨rfl,rfl⟩:=Gx e2'
   have es:g1=g2:=L1.same L2 dt et
   rw[if_pos es]at e3
   cases e3
def r2(p:I2):List Int:=[p.1,p.2]
def unr(r:List Int):I4:=(r.getD 0 0,r.getD 1 0,r.getD 2 0,r.getD 3 0)
def Qd(t:I4):unr (r4 t)=t:=rfl
def hd2(rs:List (List Int)):I2:=((rs.getD 0 []).getD 0 0,(rs.getD 0 []).getD 1 0)
def QX(f:I3)(u:I4):List I4:=(JD f u).map unr
noncomputable def AfR(f:I3)(n:Int)(r:Nat)(u:I4):List I2:=(QX f u).flatMap fun A=>(Fy f n r).map fun rs=>Ez A (hd2 rs)
def Jg{f:I3}{u A:I4}(du:det u=1)(L:Ds (mov f u)):A∈QX f u↔det A=1∧mov f A=f:=by
 constructor
 ·intro h
  obtain⟨row,hr,rfl⟩:=List.mem_map.mp h
  obtain⟨t,ht,rfl⟩:=List.mem_map.mp ((Dw _).mem_iff.mp hr)
  obtain⟨dt,et⟩:=Aey ht
  rw[Qd]
  exact⟨by rw[BK,BK,CP,du,dt];rfl,by rw[←Bd,←Bd,et,BZ du]⟩
 ·rintro⟨dA,eA⟩
  have dt:det (Ah (Ah (Ao u) A) u)=1:=by rw[BK,BK,CP,du,dA];rfl
  have et:mov (mov f u) (Ah (Ah (Ao u) A) u)=mov f u:=by rw[←Bd,←Bd,BZ du,eA]
  have ht:=AgL L dt et
  refine List.mem_map.mpr ⟨r4 A,(Dw _).mem_iff.mpr (List.mem_map.mpr ⟨_,ht,?_⟩),rfl⟩
  congr 1
  rw[←then_assoc,←then_assoc,Fw du,Gk,then_assoc,Fw du,Dl]
def Af5{f:I3}{u:I4}(du:det u=1):(QX f u).Nodup:=by
 have nd:(Dj (mov f u)).Nodup:=by
  unfold Dj
  split
  ·decide
  ·split<;>decide
 have h1:((Dj (mov f u)).map fun t=>r4 (Ah (Ah u t) (Ao u))).Nodup:=by
  unfold List.Nodup at *
  rw[List.pairwise_map]
  refine nd.imp fun{a b} h z=>h ?_
  have e:Ah (Ah u a) (Ao u)=Ah (Ah u b) (Ao u):=by rw[←Qd (Ah (Ah u a) (Ao u)),z,Qd]
  have e2:=congrArg (fun x=>Ah (Ah (Ao u) x) u) e
  have k:∀t:I4,Ah (Ah (Ao u) (Ah (Ah u t) (Ao u))) u=t:=fun t=>by
   have bu:Ah (Ao u) u=(1,0,0,1):=by
    have:=Fw (t:=Ao u) (by rw[CP];exact du)
    rwa [Qs]at this
   rw[←then_assoc,←then_assoc,bu,Gk,then_assoc,bu,Dl]
  rw[k,k]at e2
  exact e2
 have h2:(JD f u).Nodup:=((Dw _).nodup_iff).mpr h1
 unfold QX List.Nodup at *
 rw[List.pairwise_map]
 refine List.Pairwise.imp_of_mem (fun{a b} ha hb h z=>h ?_) h2
 obtain⟨t,_,rfl⟩:=List.mem_map.mp ((Dw _).mem_iff.mp ha)
 obtain⟨t',_,rfl⟩:=List.mem_map.mp ((Dw _).mem_iff.mp hb)
 rw[Qd,Qd]at z
 rw[z]
def Aag{f:I3}{n:Int}{r k k':Nat}{F F':Fam}{A A':I4}(al:Ir f n r)(n0:n≠0)(hk:(Fy f n r)[k]? = some (Cm F))(hk':(Fy f n r)[k']? = some (Cm F'))(hF:F∈Mr f n r)(hF':F'∈Mr f n r)(dA:det A=1)(eA:mov f A=f)(dA':det A'=1)(eA':mov f A'=f)
  (e:Ez A (hd2 (Cm F))=Ez A' (hd2 (Cm F'))):k=k'∧A=A':=by
 obtain⟨l,hl,_⟩:=al
 obtain⟨m1,m2,m3,m4,m5,m6⟩:=Ky hl hF
 obtain⟨q1,q2,q3,q4,q5,q6⟩:=Ky hl hF'
 obtain⟨g1,_,g3⟩:=Ek.mp m1
 obtain⟨g1',_,g3'⟩:=Ek.mp q1
 have eg:=J9 (by omega) g3
 have eg':=J9 (by omega) g3'
 have ma:n.fdiv (F.1*F.1)≠0:=fun z=>n0 (by rw[←eg,z];omega)
 have mb:n.fdiv (F'.1*F'.1)≠0:=fun z=>n0 (by rw[←eg',z];omega)
 have fo:=(EY ma).mp m2
 have fo':=(EY mb).mp q2
 have dU:det (Ah A F.2.2)=1:=by rw[BK,dA,m4];rfl
 have eU:mov f (Ah A F.2.2)=F.2.1:=by rw[←Bd,eA,m5]
 have dT:det (Ah A' F'.2.2)=1:=by rw[BK,dA',q4];rfl
 have eT:mov f (Ah A' F'.2.2)=F'.2.1:=by rw[←Bd,eA',q5]
 have hh:∀(B:I4)(G:Fam),Ez B (hd2 (Cm G))=Ez (Ah B G.2.2) (G.1,0):=fun B G=>by
  rw[Ma]
  congr 1
  show(G.1*G.2.2.1,G.1*G.2.2.2.2.1)=_
  simp only[Ez,Prod.mk.injEq]
  refine⟨by grind,by grind⟩
 rw[hh,hh]at e
 have c1:=congrArg Prod.fst e
 have c2:=congrArg Prod.snd e
 simp only[Ez,Int.mul_zero,Int.add_zero]at c1 c2
 obtain⟨gg,u1,u2⟩:=Adw (T:=Ah A' F'.2.2) (U:=Ah A F.2.2) g1 g1' dT dU (by rw[Int.mul_comm,←c1,Int.mul_comm]) (by rw[Int.mul_comm,←c2,Int.mul_comm])
 rw[←gg]at fo' mb
 have fT:R9 (n.fdiv (F.1*F.1)) (meas f) (mov f (Ah A' F'.2.2)):=by rw[eT];exact fo'
 have fU:R9 (n.fdiv (F.1*F.1)) (meas f) (mov f (Ah A F.2.2)):=by rw[eU];exact fo
 have et:=AbH ma dT dU fT fU u1 u2
 have ef:F.2.1=F'.2.1:=by rw[←eU,←eT,et]
 have ek:=Y6 n0 hk hk' ef
 subst ek
 rw[hk]at hk'
 have e2:=congrArg Prod.snd (YJ (Option.some.inj hk'))
 refine⟨rfl,?_⟩
 have e3:=congrArg (fun x=>Ah x (Ao F.2.2)) et
 rw[←e2,then_assoc,then_assoc,Fw m4,Dl,Dl]at e3
 exact e3
def Aeh{f:I3}{n:Int}{r:Nat}{u:I4}(du:det u=1)(L:Ds (mov f u))(al:Ir f n r)(n0:n≠0):(AfR f n r u).Nodup:=by
 unfold AfR List.Nodup
 rw[List.pairwise_flatMap]
 constructor
 ·intro A hA
  obtain⟨dA,eA⟩:=(Jg du L).mp hA
  rw[List.pairwise_map,List.pairwise_iff_getElem]
  intro i j hi hj hij e
  obtain⟨F,hF,eF⟩:=El (List.getElem_mem hi)
  obtain⟨G,hG,eG⟩:=El (List.getElem_mem hj)
  rw[eF,eG]at e
  have:=(Aag al n0 (by rw[List.getElem?_eq_getElem hi,eF]) (by rw[List.getElem?_eq_getElem hj,eG]) hF hG dA eA dA eA e).1
  omega
 ·refine List.Pairwise.imp_of_mem (fun{A B} hA hB h=>?_) (Af5 (f:=f) du)
  obtain⟨dA,eA⟩:=(Jg du L).mp hA
  obtain⟨dB,eB⟩:=(Jg du L).mp hB
  intro x hx y hy e
  obtain⟨rs,h1,rfl⟩:=List.mem_map.mp hx
  obtain⟨rt,h2,rfl⟩:=List.mem_map.mp hy
  obtain⟨i,hi⟩:=List.getElem?_of_mem h1
  obtain⟨j,hj⟩:=List.getElem?_of_mem h2
  obtain⟨F,hF,rfl⟩:=El h1
  obtain⟨G,hG,rfl⟩:=El h2
  exact h (Aag al n0 hi hj hF hG dA eA dB eB e).2
def AaK{f:I3}{n:Int}{r:Nat}{u:I4}{p:I2}(du:det u=1)(L:Ds (mov f u))(al:Ir f n r)(n0:n≠0)(sr:Sq n.natAbs r):p∈AfR f n r u↔val f p=n:=by
 constructor
 ·intro h
  obtain⟨A,hA,h⟩:=List.mem_flatMap.mp h
  obtain⟨dA,eA⟩:=(Jg du L).mp hA
  obtain⟨rs,hrs,rfl⟩:=List.mem_map.mp h
  obtain⟨F,hF,rfl⟩:=El hrs
  rw[←AaM,eA]
  exact AfU al n0 hF
 ·intro hv
  obtain⟨x,y⟩:=p
  obtain⟨a,b,hb⟩:=bez _ x y (Nat.le_refl _)
  obtain⟨g,eg⟩:∃g:Int,((x.gcd y:Nat):Int)=g:=⟨_,rfl⟩
  have gx:g∣x:=by rw[←eg];exact Int.gcd_dvd_left ..
  have gy:g∣y:=by rw[←eg];exact Int.gcd_dvd_right ..
  have g0:1≤g:=by
   rcases Int.lt_or_le 0 g with z|z
   ·omega
   ·have z0:Int.gcd x y=0:=by omega
    obtain⟨rfl,rfl⟩:=Int.gcd_eq_zero_iff.mp z0
    exfalso
    apply n0
    rw[←hv]
    simp[val]
  rw[eg]at hb
  obtain⟨m,hm,m0,_,_,dT,F,ld⟩:=Vm hv n0 g0 gx gy hb
  generalize Ah (Dc x y g a b) (1,G6 (mov f (Dc x y g a b)),0,1)=T at *
  obtain⟨s1,s2⟩:=Uo g0 hm n0 sr
  obtain⟨t,ht⟩:=AdJ al s1 (by rw[s2];exact(EY m0).mpr F) dT rfl
  have hF:=Aez g0 hm n0 sr m0 F ht
  obtain⟨l,hl,_⟩:=id al
  obtain⟨dt,mt,_⟩:=Rz hl ht
  refine List.mem_flatMap.mpr ⟨Ah T (Ao t),(Jg du L).mpr ⟨by rw[BK,CP,dT,dt];rfl,by rw[←Bd,←mt,BZ dt]⟩,List.mem_map.mpr ⟨Cm (g,mov f T,t),(Hy _).mem_iff.mpr (List.mem_map.mpr ⟨_,hF,rfl⟩),?_⟩⟩
  rw[Ma]
  have e:Ez (Ao t) (hd2 (Cm (g,mov f T,t)))=(g,0):=by
   have e:=Qz (t:=t) (p:=(g,0)) dt
   have e2:Ez t (g,0)=hd2 (Cm (g,mov f T,t)):=by
    show _=(g*t.1,g*t.2.2.1)
    simp only[Ez,Prod.mk.injEq]
    refine⟨by grind,by grind⟩
   rw[e2]at e
   exact e
  rw[e]
  exact ld
def Ahc{α:Type}[DecidableEq α]{l m:List α}(hl:l.Nodup)(hm:m.Nodup)(h:∀x,x∈l↔x∈m):l.Perm m:=by
 rw[List.perm_iff_count]
 intro a
 rw[List.Nodup.count hl,List.Nodup.count hm]
 by_cases z:a∈l
 ·rw[if_pos z,if_pos ((h a).mp z)]
 ·rw[if_neg z,if_neg fun y=>z ((h a).mpr y)]
noncomputable def Yy(f:I3)(n:Int):Dt:=@ite _ (Bl f) (Classical.propDecidable _) (Eb n 400) (Ib f)
structure U9(f:I3)(n:Int):Prop where
 bf:B3 800 f
 bo:n.natAbs≤400→0≤n
 bm:Bt 1400 (meas f)
def Pb(f:I3)(n:Int):Prop:=Bl f∧n.natAbs≤400
def Mi(f:I3)(n:Int)(d:Dt):Prop:=(n=0∧d=.lst [t2 (0,0)])∨(n≠0∧∃L:List I2,L.Nodup∧(∀p,p∈L↔val f p=n)∧L.length<64∧d=.lst ((K7 (L.map r2)).map Cy))
abbrev GK:J1:=JV (fun p:I3×Int=>[t3 p.1,.int p.2]) (fun p=>U9 p.1 p.2) (fun p=>Pb p.1 p.2) (fun p d=>Mi p.1 p.2 d) fun p=>Yy p.1 p.2
abbrev Kq:DSp:=spec (fun p:I3×Int=>[t3 p.1,.int p.2]) (fun p=>U9 p.1 p.2∧Pb p.1 p.2) fun p d=>Mi p.1 p.2 d
def Ab9{α β:Type}{F:α→List β}{l:List α}{i:Nat}{a:α}(h:l[i]? = some a):(l.take (i+1)).flatMap F=(l.take i).flatMap F++F a:=by
 rw[List.take_add_one,h,List.flatMap_append]
 simp
def Abz{α β:Type}{F:α→List β}{l:List α}{i:Nat}{a:α}(h:l[i]? = some a):((l.take i).flatMap F).length+(F a).length≤(l.flatMap F).length:=V6 h
def Oz(T:Txt K mg)
  (ux:PmX P w K mg base 4 "check_bowl" Cp ["form"] HJ)
  (fY:PmX P w K mg base 3 "check_within" Cv ["number","most"] Gn)
  (rY:PmX P w K mg base 13 "heads" Gv ["form","number"] KN)
  (xH:Pm P w K mg base 6 "own_turns" Ep ["form"] MN)
  (acH:Pm P w K mg base 3 "led" S9 ["turn","point"] AcF)
  : PmX P w K mg base 14 "all_answers" BR ["form","number"] GK:=by
 obtain⟨f,fd,F⟩:=T.mq
 obtain⟨iQ,aX⟩:=T.aX
 refine⟨f,fd,F,F.fn.okX FQ (fun ds Q E ⟨p,e,_⟩=>by rw[e];rfl) fun cdv A outer s H E hr=>⟨_,(Bs (Kv (Dq Bo ux (hr.mono (by decide)) rfl (Aa (dv 0) Ad))) (Bs (Kv (Dq Bo fY (hr.mono (by decide)) rfl (Aa (dv 1) (Aa (Ik (v:=.int (400)) (d:=.int (400)) rfl aX ⟨_,rfl⟩ (fun _=>Bp.mpr rfl)) Ad)))) (Bs (GF (CV (Fj hr.units (dv 1) Ab) (Aj (Ay (Gz (Aa (Bj (Aa Ab (Aa Ab Ad))) Ad)))) Bq)) (Bs (KH 2 FQ.nd (Dq Bo rY (hr.mono (by decide)) rfl (Aa (dv 0) (Aa (dv 1) Ad)))) (Bs (GF (UG 3 FQ.nd Ad)) (Bs (GF (Uv PassesOwn.never rfl (Kl (Ai Ag xH (hr.mono (by decide)) rfl (Aa (dv 0) Ad))) (Ij 4 FQ.nd) (Aj (AiE 3 (Agc (Fx (sc:=Af BR) (NN:=["form","number","tops","found","turn"]) (x:="head") (N:=["turn"]) (sl:=[4]) rfl rfl (by decide +kernel)) rfl (Kl (dv 2)) (fun cl C s0 H0 ex=>(Ai Ag acH (hr.mono (by decide)) rfl (Aa (dv 1) (Aa (dv 0) Ad))))))))) (Bu (GF (Uj 3 (Ay (WX T.fL (Aa (dv 3) Ad)))))))))))),fun ds Q Ex h=>?_⟩⟩
 obtain⟨⟨f,n⟩,rfl,hX,q,x⟩:=h
 have hX:U9 f n:=hX
 have x:¬Pb f n→Ex (Yy f n):=x
 have q:Pb f n→∀d,Mi f n d→Q d:=q
 walk_at "go"
 refine Di f (hX.bf.le (by decide)) (fun hb _ _=>?_) (fun nb=>by have:=x fun z=>nb z.1;rw[Yy,if_neg nb]at this;exact this)
 have hb:Bl f:=hb
 refine Di (n,400) trivial (fun hn _ _=>?_) (fun hn=>?_)
 case refine_2 =>
  have hn:¬(n.natAbs:Int)≤400:=hn
  have:=x fun z=>hn (by have:=z.2;omega)
  rw[Yy,if_pos hb]at this
  exact this
 have hn:(n.natAbs:Int)≤400:=hn
 have n4:n.natAbs≤400:=by omega
 have np:=hX.bo n4
 have q:∀d,Mi f n d→Q d:=q ⟨hb,n4⟩
 refine Ie (fun h0=>⟨Am (by decide),Am (by decide),q _ (.inl ⟨of_decide_eq_true h0,rfl⟩)⟩) (fun h0=>?_)
 have n0:n≠0:=fun z=>h0 (decide_eq_true z)
 have hP:IK f n:=⟨hX.bf.le (by decide),.inl hb,n0,n4,fun _=>by omega,hX.bm⟩
 refine Di (f,n) ⟨hP.bf,fun k _ _=>hP.bo k,hP.bm⟩ (fun _ d hd=>?_) fun z=>absurd ⟨hP.kf,n0,n4⟩ z
 obtain⟨r,hr,sr,rfl,al⟩:=hd
 have al:Ir f n r:=al
 have sr:Sq n.natAbs r:=sr
 have len:=Qq hP hr
 walk_at "rd"
 refine⟨Nat.zero_le _,Nz ?_⟩
 walk_at "rd"
 refine Cd f ⟨hX.bf.le (by decide),hb⟩ ?_
 rintro _ ⟨u,du,Lu,bu,rfl⟩
 have few:=Adb du Lu (by omega) (by omega) (Aeh du Lu al n0) fun p hp=>(AaK du Lu al n0 sr).mp hp
 have lo:(QX f u).length=(JD f u).length:=List.length_map ..
 have lo6:(JD f u).length≤6:=by
  unfold JD
  rw[(Dw _).length_eq,List.length_map]
  exact(Q7 _).2
 let row:I4→List I2:=fun A=>(Fy f n r).map fun rs=>Ez A (hd2 rs)
 have eo:(JD f u).map Cy=(QX f u).map t4:=by
  unfold QX
  rw[List.map_map]
  refine List.map_congr_left fun rr hrr=>?_
  obtain⟨t,_,rfl⟩:=List.mem_map.mp ((Dw _).mem_iff.mp hrr)
  rfl
 rw[eo]
 refine Pg ((QX f u).map t4) (fun R h=>h) (fun i ρ=>∃y,ρ=[some (.is (t3 f)),some (.is (.int n)),some (.is (.lst ((Fy f n r).map fun rs=>Cy (rs.getD 0 [])))),some (.own ((((QX f u).take i).flatMap row).map t2)),y]) ⟨_,by simp;rfl⟩ ?_ ?_
 ·rintro i d _ hi ⟨y,rfl⟩
  obtain⟨A,hA,rfl⟩:=VP hi
  obtain⟨dA,eA⟩:=(Jg du Lu).mp (List.mem_of_getElem? hA)
  have bA:B4 1400 A:=(Zq hb (hX.bf) (m:=800) (k:=801) (by rw[eA];exact hX.bf) (by decide)).le (by decide)
  have tl:=Abz (F:=row) hA
  have acB:((QX f u).flatMap row).length<64:=few
  walk_at "rd"
  refine Hr ((Fy f n r).map fun rs=>Cy (rs.getD 0 [])) (fun d=>match d with
   |.tup [.int x,.int y]=>t2 (Ez A (x,y))
   |_=>.non) (fun R hR=>hR) (by rw[List.length_map];exact Am (by omega)) (CW rfl Eo) (fun d hd R hR=>?_) ?_
  ·obtain⟨rs,hrs,rfl⟩:=List.mem_map.mp hd
   obtain⟨F,hF,rfl⟩:=El hrs
   obtain⟨l,hl,_⟩:=id al
   obtain⟨m1,_,_,_,_,m6⟩:=Ky hl hF
   obtain⟨g1,g2,_⟩:=Ek.mp m1
   have bg6:Bt 6 F.1:=Bt.of (by omega) (by omega)
   rw[AjG]
   walk_at "rd"
   exact Ar (A,(F.1*F.2.2.1,F.1*F.2.2.2.2.1)) ⟨bA.le (by decide),dA,(bg6.mul m6.1).le (by decide),(bg6.mul m6.2.2.1).le (by decide)⟩ hR
  ·have em:(((Fy f n r).map fun rs=>Cy (rs.getD 0 [])).map fun d=>match d with
    |.tup [.int x,.int y]=>t2 (Ez A (x,y))
    |_=>.non)=(row A).map t2:=by
    show _=((Fy f n r).map _).map t2
    rw[List.map_map,List.map_map]
    refine List.map_congr_left fun rs hrs=>?_
    obtain⟨F,_,rfl⟩:=El hrs
    rfl
   dsimp only
   rw[em]
   refine⟨?_,some (.is (t4 A)),?_⟩
   ·rw[List.length_map,List.length_map]
    exact Am (by omega)
   ·rw[Ab9 hA,List.map_append]
 ·rintro _ ⟨y,rfl⟩
  walk_at "rd"
  rw[List.take_length]
  refine⟨((QX f u).flatMap row).map r2,?_,?_,fun rr hrr=>?_,q _ (.inr ⟨n0,AfR f n r u,Aeh du Lu al n0,fun p=>AaK du Lu al n0 sr,few,rfl⟩)⟩
  ·rw[List.map_map]
   rfl
  ·rw[List.length_map]
   exact few
  ·obtain⟨p,_,rfl⟩:=List.mem_map.mp hrr
   simp[r2]
def QL{P:Program}{w:World}{K:W.Frag}{mg:Str→Option Value}{base:Heap}(G:PmX P w K mg base 14 "all_answers" BR ["form","number"] GK)
  : Pm P w K mg base 14 "all_answers" BR ["form","number"] Kq:=by
 refine G.pm Bo fun ds Q h=>?_
 obtain⟨p,e,⟨hP,hg⟩,q⟩:=h
 exact⟨p,e,hP,fun _ d z=>q d z,fun z=>absurd hg z⟩
def GP(way kind:Int)(f:I3)(n:Int)(p:I2):Nat :=
 if kind<2 then 0 else if way=2∧kind≠3 then 0 else if kind=4 then 1 else if way<2∧n=0 then 2 else if 400<n.natAbs then 3 else if way=1∧val f p≠n then 4 else 5
def Y0(c:Nat):Int:=match c with
 |0=>0
 |1=>1
 |2=>2
 |3=>1
 |4=>3
 |_=>-1
def Aga(c:Nat)(f:I3)(n:Int)(p:I2):Dt:=match c with
 |0=>t3 f
 |1=>t2 (meas f,4000)
 |2=>.non
 |3=>t2 (n,400)
 |4=>t2 p
 |_=>.non
def Qu(c:Nat)(f:I3)(n:Int)(p:I2)(d:Dt):Prop:=match c with
 |0=>d=Ib f
 |1=>d=Eb (meas f) 4000
 |2=>d=xNo
 |3=>d=Eb n 400
 |4=>d=Ae0 p
 |_=>isLT d=true
structure Abo(kind:Int)(f:I3):Prop where
 lo:0≤kind
 hi:kind<5
 bf:B3 300 f
 k0:kind<2→¬(0<meas f∧¬Fi (meas f))∧¬Bl f
 k2:kind=2→Sad f
 k3:kind=3→Bl f
 k4:kind=4→4000<meas f∧¬Fi (meas f)
theorem Abo.bm{k:Int}{f:I3}(h:Abo k f):Bt 700 (meas f):=by
 obtain⟨h1,h2,h3⟩:=h.bf
 have h4:Bt 3 4:=Bt.aK (by decide)
 exact((h2.mul h2).sub ((h4.mul h1).mul h3)).le (by decide)
structure Jc(way kind:Int)(f:I3)(n:Int)(p:I2):Prop where
 frm:Abo kind f
 wl:0≤way
 wh:way<3
 np:n.natAbs≤400→0≤n
 bn:Bt 300 n
 bp:B2 300 p
theorem Jc.aaE{way kind:Int}{f:I3}{n:Int}{p:I2}(h:Jc way kind f n p)(hk:kind<2):¬Rt f:=fun z=>z.elim (h.frm.k0 hk).2 fun z=>(h.frm.k0 hk).1 ⟨z.pos,z.no⟩
theorem Jc.xs{way kind:Int}{f:I3}{n:Int}{p:I2}(h:Jc way kind f n p)(hk:kind<2):RQ f=Ib f:=Xm (h.frm.k0 hk).1
theorem Jc.good{way kind:Int}{f:I3}{n:Int}{p:I2}(h:Jc way kind f n p)(h2:¬kind<2)(h4:kind≠4):Rt f:=by
 have:=h.frm.hi
 rcases(by omega:kind=2∨kind=3)with z|z
 ·exact .inr (h.frm.k2 z)
 ·exact .inl (h.frm.k3 z)
theorem Jc.wide{way kind:Int}{f:I3}{n:Int}{p:I2}(h:Jc way kind f n p)(h4:kind=4):¬Rt f∧RQ f=Eb (meas f) 4000:=by
 obtain⟨a,b⟩:=h.frm.k4 h4
 exact⟨fun z=>z.elim (fun z=>by have:=z.2;omega) fun z=>by have:=z.most;omega,Ye ⟨by omega,b⟩⟩
theorem Jc.bowl{way kind:Int}{f:I3}{n:Int}{p:I2}(h:Jc way kind f n p):Bl f↔kind=3:=by
 refine⟨fun z=>?_,h.frm.k3⟩
 have:=h.frm.lo
 have:=h.frm.hi
 have:=z.2
 rcases(by omega:kind<2∨kind=2∨kind=3∨kind=4)with w|w|w|w
 ·exact absurd z (h.frm.k0 w).2
 ·have:=(h.frm.k2 w).pos;omega
 ·exact w
 ·have:=(h.frm.k4 w).1;omega
theorem Jc.fam{way kind:Int}{f:I3}{n:Int}{p:I2}(h:Jc way kind f n p):Js f n:=⟨h.frm.bf.le (by decide),fun _ n0 n4=>by have:=h.np n4;omega,h.frm.bm.le (by decide)⟩
theorem Jc.acI{way kind:Int}{f:I3}{n:Int}{p:I2}(h:Jc way kind f n p)(hw:way<2)(ng:¬Du f n):Qu (GP way kind f n p) f n p (J2 f n):=by
 unfold GP
 by_cases h1:kind<2
 ·rw[if_pos h1]
  show J2 f n=Ib f
  rw[J2,if_neg (h.aaE h1),h.xs h1]
 ·rw[if_neg h1,if_neg (by omega)]
  by_cases h4:kind=4
  ·rw[if_pos h4]
   show J2 f n=Eb (meas f) 4000
   rw[J2,if_neg (h.wide h4).1,(h.wide h4).2]
  ·have gf:=h.good h1 h4
   rw[if_neg h4]
   by_cases h0:n=0
   ·rw[if_pos ⟨hw,h0⟩]
    show J2 f n=xNo
    rw[J2,if_pos gf,if_pos h0]
   ·rw[if_neg fun z=>h0 z.2]
    have:400<n.natAbs:=by
     rcases Nat.lt_or_ge 400 n.natAbs with z|z
     ·exact z
     ·exact absurd ⟨gf,h0,z⟩ ng
    rw[if_pos this]
    show J2 f n=Eb n 400
    rw[J2,if_pos gf,if_neg h0]
theorem Jc.ach{way kind:Int}{f:I3}{n:Int}{p:I2}(h:Jc way kind f n p)(hw:way<2)(gd:Du f n):GP way kind f n p=if way=1∧val f p≠n then 4 else 5:=by
 unfold GP
 rw[if_neg fun z=>h.aaE z gd.1,if_neg (by omega),if_neg fun z=>(h.wide z).1 gd.1,if_neg fun z=>gd.2.1 z.2,if_neg (by have:=gd.2.2;omega)]
abbrev Mf:DSp:=spec (fun q:Int×Int×I3×Int×I2=>[.int q.1,t3 q.2.2.1,.int q.2.2.2.1,t2 q.2.2.2.2]) (fun q=>Jc q.1 q.2.1 q.2.2.1 q.2.2.2.1 q.2.2.2.2) fun q d=>Qu (GP q.1 q.2.1 q.2.2.1 q.2.2.2.1 q.2.2.2.2) q.2.2.1 q.2.2.2.1 q.2.2.2.2 d
def Ex4(f:I3)(p:I2)(d:Dt):Prop:=d=Ib f∨(∃a b,d=Eb a b)∨d=xNo∨d=Ae0 p
def Aaf(f:I3)(n:Int)(p:I2):Ex4 f p (J2 f n):=by
 unfold J2
 by_cases h:Rt f
 ·rw[if_pos h]
  split
  ·exact .inr (.inr (.inl rfl))
  ·exact .inr (.inl ⟨_,_,rfl⟩)
 ·rw[if_neg h]
  by_cases h:0<meas f∧¬Fi (meas f)
  ·exact .inr (.inl ⟨_,_,Ye h⟩)
  ·exact .inl (Xm h)
def Uu(T:Txt K mg)
  (rY:PmX P w K mg base 13 "heads" Gv ["form","number"] KN)
  (aaO:PmX P w K mg base 13 "whence" Ia ["form","number","point"] PL)
  (rZ:PmX P w K mg base 14 "all_answers" BR ["form","number"] GK)
  : Pm P w K mg base 15 "_law_told" Fv ["_law_way","_law_form","_law_number","_law_point"] Mf:=by
 obtain⟨f,fd,F⟩:=T.qH
 obtain⟨aJ,iD⟩:=T.iD
 refine⟨f,fd,F,F.fn.okD DN (by walk_at "lE") fun cdv A outer s H E hr=>⟨_,(Ae (Aw 4 DN.nd NP) (Ae (AgE (Afk 5 iD DN.nd (fun W pn=>(Bu (Kf (Fj hr.units (dv 0) Ab) (Bu (KH 4 DN.nd (Dq Bo rY (hr.mono (by decide)) rfl (Aa (dv 1) (Aa (dv 2) Ad))))) (Bu (Kf (Fj hr.units (dv 0) Ab) (Bu (KH 4 DN.nd (Dq Bo aaO (hr.mono (by decide)) rfl (Aa (dv 1) (Aa (dv 2) (Aa (dv 3) Ad)))))) (Bu (KH 4 DN.nd (Dq Bo rZ (hr.mono (by decide)) rfl (Aa (dv 1) (Aa (dv 2) Ad)))))))))) (fun a=>(Aj (Aw 4 DN.nd (dv 5)))))) (Aj (Ay (dv 4))))),fun ds Q h=>?_⟩⟩
 obtain⟨⟨way,kind,f,n,p⟩,rfl,hA,q⟩:=h
 have hA:Jc way kind f n p:=hA
 have q:∀d,Qu (GP way kind f n p) f n p d→Q d:=q
 have un1:=T.fK
 have un2:=T.d8
 have un3:=T.gq
 have un4:=T.d9
 have wl:=hA.wl
 have wh:=hA.wh
 have cat:∀d,Ex4 f p d→Q d→Ju K mg "FormError" 5 (Aft (Abm 5) (Ri 4)) {nx:=Aka (Abm 4) {nx:=fun x=>Q Dt.non,rt:=Q},rt:=Q} [some (.is (.int way)),some (.is (t3 f)),some (.is (.int n)),some (.is (t2 p)),some (.is .non),none] d:=by
  rintro d (rfl|⟨a,b,rfl⟩|rfl|rfl) hq
  ·exact⟨un1,hq⟩
  ·exact⟨un2,hq⟩
  ·exact⟨un3,hq⟩
  ·exact⟨un4,hq⟩
 walk_at "go"
 refine Ie (fun w=>?_) (fun w=>Ie (fun w2=>?_) (fun w2=>?_))
 ·have w:=of_decide_eq_true w
  refine Di (f,n) hA.fam (fun gd d hd=>q _ ?_) (fun ng=>cat _ (Aaf f n p) (q _ (hA.acI (by omega) ng)))
  rw[hA.ach (by omega) gd,if_neg (by omega)]
  obtain⟨r,_,_,rfl,_⟩:=hd
  rfl
 ·have w2:=of_decide_eq_true w2
  refine Di (f,n,p) ⟨hA.fam,⟨hA.bp.1.le (by decide),hA.bp.2.le (by decide)⟩,hA.frm.bf.le (by decide)⟩ (fun gd d hd=>q _ ?_) (fun ng=>?_)
  ·rw[hA.ach (by omega) gd.1,if_neg (fun z=>z.2 gd.2)]
   obtain⟨_,_,_,_,rfl⟩:=hd
   rfl
  ·have ng:¬(Du f n∧val f p=n):=ng
   show Ju _ _ _ _ _ _ _ (xWh f n p)
   by_cases gd:Du f n
   ·rw[xWh,if_pos gd]
    refine cat _ (.inr (.inr (.inr rfl))) (q _ ?_)
    rw[hA.ach (by omega) gd,if_pos ⟨w2,fun z=>ng ⟨gd,z⟩⟩]
    rfl
   ·rw[xWh,if_neg gd]
    exact cat _ (Aaf f n p) (q _ (hA.acI (by omega) gd))
 ·have h0:¬way=0:=fun z=>w (decide_eq_true z)
  have h1:¬way=1:=fun z=>w2 (decide_eq_true z)
  have h2:way=2:=by omega
  refine Di (f,n) ⟨hA.frm.bf.le (by decide),hA.np,hA.frm.bm.le (by decide)⟩ (fun gd d hd=>q _ ?_) (fun ng=>?_)
  ·have k3:=hA.bowl.mp gd.1
   have n4:=gd.2
   have n4:n.natAbs≤400:=n4
   unfold GP
   rw[if_neg (by omega),if_neg (by omega),if_neg (by omega),if_neg (by omega),if_neg (by omega),if_neg (by omega)]
   rcases hd with⟨_,rfl⟩|⟨_,L,_,_,_,rfl⟩
   ·rfl
   ·rfl
  ·have ng:¬(Bl f∧n.natAbs≤400):=ng
   show Ju _ _ _ _ _ _ _ (Yy f n)
   by_cases hb:Bl f
   ·have k3:=hA.bowl.mp hb
    have n4:400<n.natAbs:=by
     rcases Nat.lt_or_ge 400 n.natAbs with z|z
     ·exact z
     ·exact absurd ⟨hb,z⟩ ng
    rw[Yy,if_pos hb]
    refine cat _ (.inr (.inl ⟨_,_,rfl⟩)) (q _ ?_)
    unfold GP
    rw[if_neg (by omega),if_neg (by omega),if_neg (by omega),if_neg (by omega),if_pos n4]
    rfl
   ·have k3:kind≠3:=fun z=>hb (hA.bowl.mpr z)
    rw[Yy,if_neg hb]
    refine cat _ (.inl rfl) (q _ ?_)
    unfold GP
    by_cases hk:kind<2
    ·rw[if_pos hk]
     rfl
    ·rw[if_neg hk,if_pos ⟨h2,k3⟩]
     rfl
def HF(c:Nat):Dt:=match c with
 |0=>.lst [.bl true,.bl false,.bl false,.bl false,.bl false,.bl true]
 |1=>.lst [.bl false,.bl true,.bl false,.bl false,.bl false,.bl true]
 |2=>.lst [.bl false,.bl false,.bl true,.bl false,.bl false,.bl true]
 |3=>.lst [.bl false,.bl true,.bl false,.bl false,.bl false,.bl true]
 |_=>.lst [.bl false,.bl false,.bl false,.bl true,.bl false,.bl true]
abbrev La:DSp:=DP (fun q:Nat×I3×Int×I2×Dt=>[q.2.2.2.2]) (fun q=>q.1<5∧Qu q.1 q.2.1 q.2.2.1 q.2.2.2.1 q.2.2.2.2) fun q=>HF q.1
def R6(T:Txt K mg)
  : Pm P w K mg base 1 "_law_kinds" Es ["_law_told_here"] La:=by
 obtain⟨f,fd,F⟩:=T.oH
 obtain⟨bU,abX,qO,iW,pH,su⟩:=T.aay
 obtain⟨aci,zu,mK,gw,lN,oJ⟩:=T.rE
 obtain⟨aG,xJ,lQ,fP,jH,mL⟩:=T.qD
 obtain⟨bw,abw,pI,iH,oK,qP⟩:=T.wW
 obtain⟨acq,aaP,oM,gZ,mQ,pJ⟩:=T.uT
 obtain⟨bx,abx,pK,iI,oN,qQ⟩:=T.wX
 obtain⟨aM,zx,mR,gA,lR,oO⟩:=T.rB
 obtain⟨bB,aby,pL,iJ,oR,qR⟩:=T.wY
 obtain⟨aN,zy,mU,gB,lU,oV⟩:=T.rC
 obtain⟨acJ,abz,pN,iK,oW,qT⟩:=T.wZ
 obtain⟨acj,zA,mV,gF,lV,oX⟩:=T.rD
 refine⟨f,fd,F,F.fn.okD Gq (by walk_at "lE") fun cdv A outer s H E hr=>⟨_,(Ae (Aw 1 Gq.nd (Gz (Aa (Uc T.aD (Aa (dv 0) (Aa (Em aaP) Ad))) (Aa (Uc T.aD (Aa (dv 0) (Aa (Em zA) Ad))) (Aa (Uc T.aD (Aa (dv 0) (Aa (Em abz) Ad))) Ad))))) (Ae (Aw 1 Gq.nd (DF.de (Xn (Ze (dv 1)) (YK (Aa (Uc T.aD (Aa (dv 0) (Aa (Em zu) Ad))) Ad))))) (Ae (Aw 2 Gq.nd (Agz T.aD (Aa (dv 0) (Aa (Bj (Aa (Em abX) (Aa (Em xJ) (Aa (Em abw) (Aa (Em abx) (Aa (Em zx) (Aa (Em aby) (Aa (Em zy) Ad)))))))) Ad)))) (Aj (Ay (DF.de (Xn (Ze (dv 1)) (YK (Aa (dv 2) (Aa (Ais T.aD T.bR (dv 0)) Ad)))))))))),fun ds Q h=>?_⟩⟩
 obtain⟨⟨c,f,n,p,d⟩,rfl,⟨hc,hd⟩,q⟩:=h
 have hc:c<5:=hc
 have hd:Qu c f n p d:=hd
 have q':Q (HF c):=q _ rfl
 have s3:3≤sizeLine:=Am (by decide)
 have s1:1≤sizeLine:=Am (by decide)
 have s4:4≤sizeLine:=Am (by decide)
 have s7:7≤sizeLine:=Am (by decide)
 have s2:2≤sizeLine:=Am (by decide)
 have s6:6≤sizeLine:=Am (by decide)
 walk_at "go"
 match c,hc,hd,q' with
 | 0,_,hd,q' =>
  rw[show d=Ib f from hd]
  exact⟨true,oM,false,mV,false,pN,s3,⟨_,List.Mem.head _⟩,false,mK,s1,s4,s7,[bU,aG,bw,bx,aM,bB,aN],false,rfl,.cons qO (.cons lQ (.cons pI (.cons pK (.cons mR (.cons pL (.cons mU .nil)))))),⟨_,List.Mem.head _⟩,s2,s6,q'⟩
 | 1,_,hd,q' =>
  rw[show d=Eb (meas f) 4000 from hd]
  exact⟨false,gZ,true,gF,false,iK,s3,⟨_,List.Mem.head _⟩,false,gw,s1,s4,s7,[bU,aG,bw,bx,aM,bB,aN],false,rfl,.cons iW (.cons fP (.cons iH (.cons iI (.cons gA (.cons iJ (.cons gB .nil)))))),⟨_,List.Mem.head _⟩,s2,s6,q'⟩
 | 2,_,hd,q' =>
  rw[show d=xNo from hd]
  exact⟨false,pJ,false,oX,true,qT,s3,⟨_,List.Mem.head _⟩,false,oJ,s1,s4,s7,[bU,aG,bw,bx,aM,bB,aN],false,rfl,.cons su (.cons mL (.cons qP (.cons qQ (.cons oO (.cons qR (.cons oV .nil)))))),⟨_,List.Mem.head _⟩,s2,s6,q'⟩
 | 3,_,hd,q' =>
  rw[show d=Eb n 400 from hd]
  exact⟨false,gZ,true,gF,false,iK,s3,⟨_,List.Mem.head _⟩,false,gw,s1,s4,s7,[bU,aG,bw,bx,aM,bB,aN],false,rfl,.cons iW (.cons fP (.cons iH (.cons iI (.cons gA (.cons iJ (.cons gB .nil)))))),⟨_,List.Mem.head _⟩,s2,s6,q'⟩
 | 4,_,hd,q' =>
  rw[show d=Ae0 p from hd]
  exact⟨false,mQ,false,lV,false,oW,s3,⟨_,List.Mem.head _⟩,true,lN,s1,s4,s7,[bU,aG,bw,bx,aM,bB,aN],false,rfl,.cons pH (.cons jH (.cons oK (.cons oN (.cons lR (.cons oR (.cons lU .nil)))))),⟨_,List.Mem.head _⟩,s2,s6,q'⟩
def AhR(c:Nat):Dt→Dt
 |.int k=>.bl (decide (k=Y0 c)||decide (k=5))
 |_=>.non
theorem Aby:∀c,c<5→Dt.lst ((ups 0 6).map (AhR c))=HF c
 |0,_=>rfl
 |1,_=>rfl
 |2,_=>rfl
 |3,_=>rfl
 |4,_=>rfl
theorem Lw:∀c,Dt.flat 8 (HF c)=true∧(HF c).eq (HF c)=true
 |0=>by simp only[HF,Jy,Hi,Hl,N8,RB,HB,Hv,SX];decide
 |1=>by simp only[HF,Jy,Hi,Hl,N8,RB,HB,Hv,SX];decide
 |2=>by simp only[HF,Jy,Hi,Hl,N8,RB,HB,Hv,SX];decide
 |3=>by simp only[HF,Jy,Hi,Hl,N8,RB,HB,Hv,SX];decide
 |_+4=>by simp only[HF,Jy,Hi,Hl,N8,RB,HB,Hv,SX];decide
def Aid(f:I3):Dt.flat 8 (t3 f)=true:=by simp only[Vd,Hi,Hl,Iu,Bool.and_true]
def Y7(f:I2):Dt.flat 8 (t2 f)=true:=by simp only[Vd,Hi,Hl,Iu,Bool.and_true]
def Ad7(i:I2):(t2 i).eq (t2 i)=true:=by rw[Alh];exact decide_eq_true rfl
def Am4(i:I3):(t3 i).eq (t3 i)=true:=by rw[Ad1];exact decide_eq_true rfl
abbrev LQ:DSp:=DP (fun q:Nat×I3×Int×I2×Dt=>[q.2.2.2.2,.int (Y0 q.1),Aga q.1 q.2.1 q.2.2.1 q.2.2.2.1]) (fun q=>q.1<6∧Qu q.1 q.2.1 q.2.2.1 q.2.2.2.1 q.2.2.2.2) fun _=>.bl true
def UJ(T:Txt K mg)
  (vD:Pm P w K mg base 1 "_law_kinds" Es ["_law_told_here"] La)
  : Pm P w K mg base 2 "_law_good" Er ["_law_told_here","_law_due_here","_law_field"] LQ:=by
 obtain⟨f,fd,F⟩:=T.qI
 refine⟨f,fd,F,F.fn.okD U5 (by walk_at "lE") fun cdv A outer s H E hr=>⟨_,(Ae (CV (Rj (dv 1) Ab) (Aj (Ay (Afi T.aD T.pq T.lB (dv 0)))) Bq) (Ae (CV (Jo hr.units (Ai Ag vD (hr.mono (by decide)) rfl (Aa (dv 0) Ad)) (Pq (Fx (sc:=Af Er) (NN:=["_law_told_here","_law_due_here","_law_field"]) (x:="_law_k") (N:=["_law_due_here"]) (sl:=[1]) rfl rfl (by decide +kernel)) rfl (ZQ rfl T.iG (Aa Ab Ad)) (fun cl C s0 H0 ex=>(Adi (Oj hr.units (dv 0) (dv 1)) (Qt (Oj hr.units (dv 0) Ab)))))) (Aj (Ay S6)) Bq) (Ae (CV (Fj hr.units (dv 1) Ab) (Aj (Ay (Oj hr.units (Pk (dv 0)) (dv 2)))) Bq) (Ae (CV (Fj hr.units (dv 1) Ab) (Aj (Ay (Oj hr.units (Bj (Aa (Pk (dv 0)) (Aa (Pk (dv 0)) Ad))) (dv 2)))) Bq) (Aj (Ay (Adi (Oj hr.units (dv 1) Ab) (Qt (Oj hr.units (Pk (dv 0)) (dv 2)))))))))),fun ds Q h=>?_⟩⟩
 obtain⟨⟨c,f,n,p,d⟩,rfl,⟨hc,hd⟩,q⟩:=h
 have hc:c<6:=hc
 have hd:Qu c f n p d:=hd
 have q':Q (.bl true):=q _ rfl
 have s2:2≤sizeLine:=Am (by decide)
 walk_at "go"
 by_cases c5:c=5
 ·subst c5
  exact ift rfl ⟨hd,q'⟩
 have hc:c<5:=by omega
 refine Fz (decide_eq_false ?_) (Ar (c,f,n,p,d) ⟨hc,hd⟩ ?_)
 ·match c,hc with
  |0,_=>decide
  |1,_=>decide
  |2,_=>decide
  |3,_=>decide
  |4,_=>decide
 refine Hr (ups 0 6) (AhR c) (fun R hR=>⟨⟨by decide,by decide⟩,hR⟩) (by rw[Pr];exact Am (by decide)) (CW rfl Eo) (fun d hd R hR=>?_) ?_
 ·obtain⟨k,hk⟩:=List.getElem?_of_mem hd
  obtain⟨hk,rfl⟩:=Px hk
  rw[AjG]
  walk_at "rd"
  have hR:R (.bl (decide (0+(k:Int)=Y0 c)||decide (0+(k:Int)=5))):=hR
  by_cases h1:0+(k:Int)=Y0 c
  ·refine ift (decide_eq_true h1) ?_
   rw[decide_eq_true h1]at hR
   exact hR
  ·refine Fz (decide_eq_false h1) ?_
   rw[decide_eq_false h1]at hR
   exact hR
 ·dsimp only
  rw[Aby c hc]
  refine⟨⟨(Lw c).1,(Lw c).1⟩,Fz (by rw[(Lw c).2];rfl) ?_⟩
  match c,hc,hd with
  | 0,_,hd =>
   rw[show d=Ib f from hd]
   exact ift rfl ⟨T.aU,_,rfl,⟨Aid f,Aid f⟩,by show Q (.bl ((t3 f).eq (t3 f)));rw[Am4];exact q'⟩
  | 1,_,hd =>
   rw[show d=Eb (meas f) 4000 from hd]
   refine Fz rfl (ift rfl ⟨T.aF,_,rfl,T.aL,_,rfl,s2,⟨by rw[Iu,Iu];rfl,Y7 _⟩,?_⟩)
   show Q (.bl ((t2 (meas f,4000)).eq (t2 (meas f,4000))))
   rw[Ad7];exact q'
  |2,_,hd=>exact Fz rfl (Fz rfl (ift rfl q'))
  | 3,_,hd =>
   rw[show d=Eb n 400 from hd]
   refine Fz rfl (ift rfl ⟨T.aF,_,rfl,T.aL,_,rfl,s2,⟨by rw[Iu,Iu];rfl,Y7 _⟩,?_⟩)
   show Q (.bl ((t2 (n,400)).eq (t2 (n,400))))
   rw[Ad7];exact q'
  | 4,_,hd =>
   rw[show d=Ae0 p from hd]
   exact Fz rfl (Fz rfl (Fz rfl ⟨T.aO,_,rfl,⟨Y7 p,Y7 p⟩,by show Q (.bl ((t2 p).eq (t2 p)));rw[Ad7];exact q'⟩))
abbrev Ox:DSp:=DP (fun q:Int×Int×I3×Int×I2=>[.int q.1,.int q.2.1,t3 q.2.2.1,.int q.2.2.2.1,t2 q.2.2.2.2]) (fun q=>Jc q.1 q.2.1 q.2.2.1 q.2.2.2.1 q.2.2.2.2) fun q=>.lst [.int (Y0 (GP q.1 q.2.1 q.2.2.1 q.2.2.2.1 q.2.2.2.2)),Aga (GP q.1 q.2.1 q.2.2.1 q.2.2.2.1 q.2.2.2.2) q.2.2.1 q.2.2.2.1 q.2.2.2.2]
def Ws(T:Txt K mg)
  : Pm P w K mg base 1 "_law_due" Gi ["_law_way","_law_kind","_law_form","_law_number","_law_point"] Ox:=by
 obtain⟨f,fd,F⟩:=T.rK
 refine⟨f,fd,F,F.fn.okD Io (by walk_at "lE") fun cdv A outer s H E hr=>⟨_,(Ae (CV (DW.dt (Ah6 (Rj (dv 1) Ab) (Aer (DW.dt (Qa (Fj hr.units (dv 0) Ab) (Mt (Jo hr.units (dv 1) Ab))))))) (Aj (Ay (Gz (Aa Ab (Aa (dv 2) Ad))))) Bq) (Ae (CV (Fj hr.units (dv 1) Ab) (Aj (Ay (Gz (Aa Ab (Aa (Bj (Aa (Ew (Ax (Ac (dv 2) Ab) (Ac (dv 2) Ab)) (Ax (Ax Ab (Ac (dv 2) Ab)) (Ac (dv 2) Ab))) (Aa Ab Ad))) Ad))))) Bq) (Ae (CV (DW.dt (Qa (Rj (dv 0) Ab) (Mt (Fj hr.units (dv 3) Ab)))) (Aj (Ay (Gz (Aa Ab (Aa NP Ad))))) Bq) (Ae (CV (WL (Ks T.iV (Aa (dv 3) Ad)) Ab) (Aj (Ay (Gz (Aa Ab (Aa (Bj (Aa (dv 3) (Aa Ab Ad))) Ad))))) Bq) (Ae (AeV (dv 4) (Aiu (n:=2) rfl (Mh (Ij 5 Io.nd) (Mh (Ij 6 Io.nd) Aa1)))) (Ae (Aw 7 Io.nd (Ce (Ce (Ax (Ax (Ac (dv 2) Ab) (dv 5)) (dv 5)) (Ax (Ax (Ac (dv 2) Ab) (dv 5)) (dv 6))) (Ax (Ax (Ac (dv 2) Ab) (dv 6)) (dv 6)))) (Ae (CV (DW.dt (Qa (Fj hr.units (dv 0) Ab) (Mt (Jo hr.units (dv 7) (dv 3))))) (Aj (Ay (Gz (Aa Ab (Aa (dv 4) Ad))))) Bq) (Aj (Ay (Gz (Aa (Dp Ab) (Aa NP Ad)))))))))))),fun ds Q h=>?_⟩⟩
 obtain⟨⟨way,kind,f,n,p⟩,rfl,hA,q⟩:=h
 have hA:Jc way kind f n p:=hA
 have q':Q (.lst [.int (Y0 (GP way kind f n p)),Aga (GP way kind f n p) f n p]):=q _ rfl
 have s2:2≤sizeLine:=Am (by decide)
 have dn:∀{c:Nat},GP way kind f n p=c→Q (.lst [.int (Y0 c),Aga c f n p]):=fun e=>by rw[←e];exact q'
 have ea:(if n<0 then -n else n)=(n.natAbs:Int):=by split<;>omega
 have bf:=hA.frm.bf
 have bp:=hA.bp
 have four:Bt 3 4:=Bt.aK (by decide)
 refine Mu (fun ρ=>(¬kind<2∧¬(way=2∧kind≠3))∧ρ=[some (.is (.int way)),some (.is (.int kind)),some (.is (t3 f)),some (.is (.int n)),some (.is (t2 p)),none,none,none]) (fun N hN=>?_) ?_
 ·walk_at "go"
  refine Ie (fun h=>⟨s2,?_⟩) (fun h=>Ie (fun h2=>Ie (fun h3=>⟨s2,?_⟩) (fun h3=>hN _ ⟨⟨fun z=>h (decide_eq_true z),fun z=>h3 (by simp[z.2])⟩,rfl⟩)) (fun h2=>hN _ ⟨⟨fun z=>h (decide_eq_true z),fun z=>h2 (decide_eq_true z.1)⟩,rfl⟩))
  ·refine dn (c:=0) ?_
   unfold GP
   rw[if_pos (of_decide_eq_true h)]
  ·refine dn (c:=0) ?_
   unfold GP
   rw[if_neg fun z=>h (decide_eq_true z),if_pos ⟨of_decide_eq_true h2,fun z=>by simp[z]at h3⟩]
 rintro _ ⟨⟨k2,kw⟩,rfl⟩
 refine Mu (fun ρ=>¬kind=4∧ρ=[some (.is (.int way)),some (.is (.int kind)),some (.is (t3 f)),some (.is (.int n)),some (.is (t2 p)),none,none,none]) (fun N hN=>?_) ?_
 ·walk_at "rd"
  refine Ie (fun h=>⟨bf.2.1.aY bf.2.1,four.aY bf.1,(four.mul bf.1).aY bf.2.2,s2,s2,?_⟩) (fun h=>hN _ ⟨fun z=>h (decide_eq_true z),rfl⟩)
  refine dn (c:=1) ?_
  unfold GP
  rw[if_neg k2,if_neg kw,if_pos (of_decide_eq_true h)]
 rintro _ ⟨k4,rfl⟩
 refine Mu (fun ρ=>¬(way<2∧n=0)∧ρ=[some (.is (.int way)),some (.is (.int kind)),some (.is (t3 f)),some (.is (.int n)),some (.is (t2 p)),none,none,none]) (fun N hN=>?_) ?_
 ·walk_at "rd"
  refine Ie (fun h=>Ie (fun h0=>⟨s2,?_⟩) (fun h0=>hN _ ⟨fun z=>h0 (decide_eq_true z.2),rfl⟩)) (fun h=>hN _ ⟨fun z=>h (decide_eq_true z.1),rfl⟩)
  refine dn (c:=2) ?_
  unfold GP
  rw[if_neg k2,if_neg kw,if_neg k4,if_pos ⟨of_decide_eq_true h,of_decide_eq_true h0⟩]
 rintro _ ⟨k0,rfl⟩
 refine Mu (fun ρ=>¬400<n.natAbs∧ρ=[some (.is (.int way)),some (.is (.int kind)),some (.is (t3 f)),some (.is (.int n)),some (.is (t2 p)),none,none,none]) (fun N hN=>?_) ?_
 ·walk_at "rd"
  rw[ea]
  refine Ie (fun h=>⟨s2,s2,?_⟩) (fun h=>hN _ ⟨fun z=>h (decide_eq_true (by omega)),rfl⟩)
  have h:=of_decide_eq_true h
  refine dn (c:=3) ?_
  unfold GP
  rw[if_neg k2,if_neg kw,if_neg k4,if_neg k0,if_pos (by omega)]
 rintro _ ⟨n4,rfl⟩
 walk_at "rd"
 refine⟨bf.1.aY bp.1,(bf.1.mul bp.1).aY bp.1,bf.2.1.aY bp.1,(bf.2.1.mul bp.1).aY bp.2,bf.2.2.aY bp.2,(bf.2.2.mul bp.2).aY bp.2,Ie (fun h=>Ie (fun hv=>⟨s2,?_⟩) (fun hv=>⟨s2,?_⟩)) (fun h=>⟨s2,?_⟩)⟩
 ·refine dn (c:=4) ?_
  unfold GP
  rw[if_neg k2,if_neg kw,if_neg k4,if_neg k0,if_neg n4,if_pos ⟨of_decide_eq_true h,fun z=>by
   have z:f.1*p.1*p.1+f.2.1*p.1*p.2+f.2.2*p.2*p.2=n:=z
   rw[decide_eq_true z]at hv
   cases hv⟩]
 ·refine dn (c:=5) ?_
  unfold GP
  rw[if_neg k2,if_neg kw,if_neg k4,if_neg k0,if_neg n4,if_neg fun z=>hv (by
   have z:¬f.1*p.1*p.1+f.2.1*p.1*p.2+f.2.2*p.2*p.2=n:=z.2
   rw[decide_eq_false z];rfl)]
 ·refine dn (c:=5) ?_
  unfold GP
  rw[if_neg k2,if_neg kw,if_neg k4,if_neg k0,if_neg n4,if_neg fun z=>h (decide_eq_true z.1)]
def Anl{m:Int}(h:¬Fi m):¬Fi (4*m):=by
 rintro⟨r,hr⟩
 have he:r % 2=0:=by
  rcases(by omega:r % 2=0∨r % 2=1)with z|z
  ·exact z
  ·exfalso
   obtain⟨k,rfl⟩:∃k,r=2*k+1:=⟨r / 2,by omega⟩
   have:(2*k+1)*(2*k+1)=4*(k*k+k)+1:=by grind
   omega
 obtain⟨k,rfl⟩:∃k,r=2*k:=⟨r / 2,by omega⟩
 exact h ⟨k,by have:2*k*(2*k)=4*(k*k):=(by grind);omega⟩
def An6{m:Int}(h:1≤m):¬Fi (m*m+1):=by
 rw[M5 (r:=m) ⟨by omega,by omega,by have:(m+1)*(m+1)=m*m+2*m+1:=(by grind);omega⟩]
 omega
def Nh(f:I3):I3:=(2*f.1,2*f.2.1,2*f.2.2)
def MJ{f:I3}:meas (Nh f)=4*meas f:=by simp only[meas,Nh];grind
def M4(kind far:Int):I3:=if kind=0 then(0-far,1,0-far)else if kind=1 then(far,far+1,1)else if kind=2 then(1,1,-1)else if kind=3 then(1,0,far)else(1,0,-1-(far+31)*(far+31))
def Acl{kind far:Int}(k0:0≤kind)(k5:kind<5)(f1:1≤far)(bf:Bt 110 far):Abo kind (M4 kind far)∧Abo kind (Nh (M4 kind far)):=by
 have one:Bt 1 1:=Bt.one
 have two:Bt 2 2:=Bt.aK (by decide)
 have dbl:∀{f:I3},B3 290 f→B3 300 (Nh f):=fun h=>⟨(two.mul h.1).le (by decide),(two.mul h.2.1).le (by decide),(two.mul h.2.2).le (by decide)⟩
 have fp:1≤far*far:=by
  have:=Int.mul_le_mul f1 f1 (by decide) (by omega)
  omega
 have nb:∀{f:I3},¬Bl f→¬Bl (Nh f):=fun h z=>h ⟨by have:=z.1;show 0<_;simp only[Nh]at this;omega,by have:=z.2;rw[MJ]at this;omega⟩
 have ns:∀{f:I3},¬(0<meas f∧¬Fi (meas f))→¬(0<meas (Nh f)∧¬Fi (meas (Nh f))):=fun h z=>by
  rw[MJ]at z
  refine h ⟨by omega,fun⟨r,hr⟩=>z.2 ⟨2*r,?_⟩⟩
  have:2*r*(2*r)=4*(r*r):=by grind
  omega
 rcases(by omega:kind=0∨kind=1∨kind=2∨kind=3∨kind=4)with rfl|rfl|rfl|rfl|rfl
 ·have e:M4 0 far=(0-far,1,0-far):=rfl
  have m:meas (0-far,1,0-far)=1-4*(far*far):=by simp only[meas];grind
  have b0:B3 290 (0-far,1,0-far):=⟨((Bt.zero.le (m:=110) (by decide)).sub bf).le (by decide),one.le (by decide),((Bt.zero.le (m:=110) (by decide)).sub bf).le (by decide)⟩
  have h1:¬(0<meas (0-far,1,0-far)∧¬Fi (meas (0-far,1,0-far))):=fun z=>by have:=z.1;rw[m]at this;omega
  have h2:¬Bl (0-far,1,0-far):=fun z=>by have:=z.1;simp only at this;omega
  rw[e]
  exact⟨⟨by decide,by decide,b0.le (by decide),fun _=>⟨h1,h2⟩,fun z=>by omega,fun z=>by omega,fun z=>by omega⟩,⟨by decide,by decide,dbl b0,fun _=>⟨ns h1,nb h2⟩,fun z=>by omega,fun z=>by omega,fun z=>by omega⟩⟩
 ·have e:M4 1 far=(far,far+1,1):=rfl
  have m:meas (far,far+1,1)=(far-1)*(far-1):=by simp only[meas];grind
  have b0:B3 290 (far,far+1,1):=⟨bf.le (by decide),(bf.add (one.le (m:=110) (by decide))).le (by decide),one.le (by decide)⟩
  have h1:¬(0<meas (far,far+1,1)∧¬Fi (meas (far,far+1,1))):=fun z=>z.2 ⟨far-1,m.symm⟩
  have h2:¬Bl (far,far+1,1):=fun z=>by
   have:=z.2
   rw[m]at this
   have:=Int.mul_nonneg (show 0≤far-1 by omega) (show 0≤far-1 by omega)
   omega
  rw[e]
  exact⟨⟨by decide,by decide,b0.le (by decide),fun _=>⟨h1,h2⟩,fun z=>by omega,fun z=>by omega,fun z=>by omega⟩,⟨by decide,by decide,dbl b0,fun _=>⟨ns h1,nb h2⟩,fun z=>by omega,fun z=>by omega,fun z=>by omega⟩⟩
 ·have e:M4 2 far=(1,1,-1):=rfl
  have b0:B3 290 (1,1,-1):=⟨one.le (by decide),one.le (by decide),Bt.aK (by decide)⟩
  have s1:Sad (1,1,-1):=⟨by rw[show meas (1,1,-1)=5 from rfl,M5 (r:=2) ⟨by decide,by decide,by decide⟩];decide,by decide,by decide⟩
  have s2:Sad (Nh (1,1,-1)):=⟨by rw[show meas (Nh (1,1,-1))=20 from rfl,M5 (r:=4) ⟨by decide,by decide,by decide⟩];decide,by decide,by decide⟩
  rw[e]
  exact⟨⟨by decide,by decide,b0.le (by decide),fun z=>by omega,fun _=>s1,fun z=>by omega,fun z=>by omega⟩,⟨by decide,by decide,dbl b0,fun z=>by omega,fun _=>s2,fun z=>by omega,fun z=>by omega⟩⟩
 ·have e:M4 3 far=(1,0,far):=rfl
  have m:meas (1,0,far)=-4*far:=by simp only[meas];grind
  have b0:B3 290 (1,0,far):=⟨one.le (by decide),Bt.zero.le (by decide),bf.le (by decide)⟩
  have h1:Bl (1,0,far):=⟨show(0:Int)<1 by decide,by rw[m];omega⟩
  have h2:Bl (Nh (1,0,far)):=⟨show(0:Int)<2*1 by decide,by rw[MJ,m];omega⟩
  rw[e]
  exact⟨⟨by decide,by decide,b0.le (by decide),fun z=>by omega,fun z=>by omega,fun _=>h1,fun z=>by omega⟩,⟨by decide,by decide,dbl b0,fun z=>by omega,fun z=>by omega,fun _=>h2,fun z=>by omega⟩⟩
 ·have e:M4 4 far=(1,0,-1-(far+31)*(far+31)):=rfl
  have m:meas (1,0,-1-(far+31)*(far+31))=4*((far+31)*(far+31)+1):=by simp only[meas];grind
  have b1:Bt 111 (far+31):=bf.add (show Bt 110 31 from Bt.aK (by decide))
  have b0:B3 290 (1,0,-1-(far+31)*(far+31)):=⟨one.le (by decide),Bt.zero.le (by decide),(((Bt.aK (by decide):Bt 222 (-1))).sub (b1.mul b1)).le (by decide)⟩
  have big:1024≤(far+31)*(far+31):=by
   have:=Int.mul_le_mul (show 32≤far+31 by omega) (show 32≤far+31 by omega) (by decide) (by omega)
   omega
  have h1:4000<meas (1,0,-1-(far+31)*(far+31))∧¬Fi (meas (1,0,-1-(far+31)*(far+31))):=by
   rw[m]
   exact⟨by omega,Anl (An6 (by omega))⟩
  have h2:4000<meas (Nh (1,0,-1-(far+31)*(far+31)))∧¬Fi (meas (Nh (1,0,-1-(far+31)*(far+31)))):=by
   rw[MJ]
   exact⟨by have:=h1.1;omega,Anl h1.2⟩
  rw[e]
  exact⟨⟨by decide,by decide,b0.le (by decide),fun z=>by omega,fun z=>by omega,fun z=>by omega,fun _=>h1⟩,⟨by decide,by decide,dbl b0,fun z=>by omega,fun z=>by omega,fun z=>by omega,fun _=>h2⟩⟩
def Al3{k far:Int}(k0:0≤k)(k4:k<4)(bf:Bt 110 far):∃p:I2,ixD k (.lst [.tup [.int 1,.int 0],.tup [.int 0,.int 0],.tup [.int far,.int 3],.tup [.int 20,.int 0]])=some (t2 p)∧B2 300 p:=by
 rcases(by omega:k=0∨k=1∨k=2∨k=3)with rfl|rfl|rfl|rfl
 ·exact⟨(1,0),rfl,Bt.one.le (by decide),Bt.zero.le (by decide)⟩
 ·exact⟨(0,0),rfl,Bt.zero.le (by decide),Bt.zero.le (by decide)⟩
 ·exact⟨(far,3),rfl,bf.le (by decide),show Bt 300 3 from Bt.aK (by decide)⟩
 ·exact⟨(20,0),rfl,show Bt 300 20 from Bt.aK (by decide),Bt.zero.le (by decide)⟩
def Apl(way kind:Int)(f:I3)(n:Int)(p:I2):GP way kind f n p<6:=by
 unfold GP
 split
 ·decide
 ·split
  ·decide
  ·split
   ·decide
   ·split
    ·decide
    ·split
     ·decide
     ·split<;>decide
def Afg{kind far:Int}(k0:0≤kind)(k5:kind<5):ixD kind (.lst [.tup [.int (0-far),.int 1,.int (0-far)],t3 (far,far+1,1),.tup [.int 1,.int 1,.int (-1)],.tup [.int 1,.int 0,.int far],.tup [.int 1,.int 0,.int (-1-(far+31)*(far+31))]])=some (t3 (M4 kind far)):=by
 rcases(by omega:kind=0∨kind=1∨kind=2∨kind=3∨kind=4)with rfl|rfl|rfl|rfl|rfl<;>rfl
def Alu{d:Dt}(h:Mi (1,0,3) 1 d):d=.lst [t2 (-1,0),t2 (1,0)]:=by
 rcases h with⟨h,_⟩|⟨_,L,nd,hm,_,rfl⟩
 ·cases h
 ·have key:∀p,p∈L↔p∈[(-1,0),(1,0)]:=fun p=>by
   rw[hm]
   obtain⟨x,y⟩:=p
   have e:val (1,0,3) (x,y)=x*x+3*(y*y):=by simp only[val];grind
   rw[e]
   have nx:0≤x*x:=by rw[←Int.natAbs_mul_self' x];exact Int.mul_nonneg (by omega) (by omega)
   constructor
   ·intro h
    have hy:y=0:=by
     by_cases z:y=0
     ·exact z
     ·have:=sq_pos z
      omega
    subst hy
    rcases Tw (x:=x) (by omega)with rfl|rfl<;>simp
   ·intro h
    simp only[List.mem_cons,Prod.mk.injEq,List.not_mem_nil,or_false]at h
    rcases h with⟨rfl,rfl⟩|⟨rfl,rfl⟩<;>rfl
  have p:=Ahc nd (by decide:([(-1,0),(1,0)]:List I2).Nodup) key
  rw[AcL (p.map r2)]
  rfl
def Aj4(T:Txt K mg)
  (zB:Pm P w K mg base 1 "_law_due" Gi ["_law_way","_law_kind","_law_form","_law_number","_law_point"] Ox)
  (xK:Pm P w K mg base 2 "_law_good" Er ["_law_told_here","_law_due_here","_law_field"] LQ)
  (uy:Pm P w K mg base 14 "all_answers" BR ["form","number"] Kq)
  (xM:Pm P w K mg base 15 "_law_told" Fv ["_law_way","_law_form","_law_number","_law_point"] Mf)
  : Pm P w K mg base 16 "law" Nk ["_law_script"] U3:=by
 obtain⟨f,fd,F⟩:=T.ab4
 refine⟨f,fd,F,F.fn.okD GD (by walk_at "lE") fun cdv A outer s H E hr=>⟨_,(Ae (Uv PassesOwn.never rfl (Kl (DF.de (Xn (YK (Aa Ab Ad)) (AeK (dv 0) Agx (AgT Ab))))) (Ij 1 GD.nd) (Ae (Aw 2 GD.nd (Ce Ab (GZ (Ed (dv 1) Ab) (Ajb Ab Ab)))) (Ae (Aw 3 GD.nd (GZ (Ed (dv 1) Ab) Ab)) (Ae (Aw 4 GD.nd (Bj (Aa (dv 2) (Aa (Ce (dv 2) Ab) (Aa Ab Ad))))) (Ae (Aw 5 GD.nd (Bj (Aa Ab (Aa Ab (Aa (Ew (Dp Ab) (Ax (Ce (dv 2) Ab) (Ce (dv 2) Ab))) Ad))))) (Ae (Aw 6 GD.nd (Ac (Gz (Aa (Bj (Aa (Ew Ab (dv 2)) (Aa Ab (Aa (Ew Ab (dv 2)) Ad)))) (Aa (dv 4) (Aa (Bj (Aa Ab (Aa Ab (Aa (Dp Ab) Ad)))) (Aa (Bj (Aa Ab (Aa Ab (Aa (dv 2) Ad)))) (Aa (dv 5) Ad)))))) (dv 3))) (Ae (CV (Fj hr.units (GZ (Ed (dv 1) Ab) Ab) Ab) (Aj (Aw 6 GD.nd (Bj (Aa (Ax Ab (Ac (dv 6) Ab)) (Aa (Ax Ab (Ac (dv 6) Ab)) (Aa (Ax Ab (Ac (dv 6) Ab)) Ad)))))) Bq) (Ae (Aw 7 GD.nd (Ac (Gz (Aa Ab (Aa Ab (Aa Ab (Aa (Ce Ab (dv 2)) (Aa (Ce Ab (GZ (dv 2) Ab)) (Aa (Dp Ab) (Aa (Ew (Dp Ab) (dv 2)) (Aa Ab (Aa Ab Ad)))))))))) (GZ (Ed (dv 1) Ab) Ab))) (Ae (Aw 8 GD.nd (Ac (Gz (Aa (Bj (Aa Ab (Aa Ab Ad))) (Aa (Bj (Aa Ab (Aa Ab Ad))) (Aa (Bj (Aa (dv 2) (Aa Ab Ad))) (Aa (Bj (Aa Ab (Aa Ab Ad))) Ad))))) (GZ (Ed (dv 1) Ab) Ab))) (Ae (AeV (Ai Ag zB (hr.mono (by decide)) rfl (Aa (GZ (dv 1) Ab) (Aa (dv 3) (Aa (dv 6) (Aa (dv 7) (Aa (dv 8) Ad)))))) (Ajz (n:=2) rfl (Mh (Ij 9 GD.nd) (Mh (Ij 10 GD.nd) Aa1)))) (Ae (CV (Rf (QC (Ai Ag xK (hr.mono (by decide)) rfl (Aa (Ai Ag xM (hr.mono (by decide)) rfl (Aa (GZ (dv 1) Ab) (Aa (dv 6) (Aa (dv 7) (Aa (dv 8) Ad))))) (Aa (dv 9) (Aa (dv 10) Ad)))))) (Aj (Ay S6)) Bq) (Aj (CV (Jo hr.units (Ai Ag uy (hr.mono (by decide)) rfl (Aa (Bj (Aa Ab (Aa Ab (Aa Ab Ad)))) (Aa Ab Ad))) (Gz (Aa (Bj (Aa (Dp Ab) (Aa Ab Ad))) (Aa (Bj (Aa Ab (Aa Ab Ad))) Ad)))) (Aj (Ay S6)) Bq))))))))))))) (Aj (Ay S6))),fun ds Q h=>?_⟩⟩
 obtain⟨ns,rfl,hn,q⟩:=h
 have hn:ns.length≤63:=hn
 have q':Q (.bl true):=q _ rfl
 obtain⟨cs,e,hcs,hme⟩:=AfB ns none (some 40)
 have ew:[Dt.int 0]++cs.map Dt.int=([0]++cs:List Int).map Dt.int:=by simp
 have s3:3≤sizeLine:=Am (by decide)
 have s5:5≤sizeLine:=Am (by decide)
 have s2:2≤sizeLine:=Am (by decide)
 have s4:4≤sizeLine:=Am (by decide)
 have s9:9≤sizeLine:=Am (by decide)
 walk_at "go"
 refine Pg (([0]++cs:List Int).map Dt.int) (fun R hR=>?_) (fun i ρ=>∃y1 y2 y3 y4 y5 y6 y7 y8 y9 y10,ρ=[some (.is (.lst (ns.map Dt.int))),y1,y2,y3,y4,y5,y6,y7,y8,y9,y10]) ⟨_,_,_,_,_,_,_,_,_,_,rfl⟩ ?_ ?_
 ·walk_at "rd"
  rw[e,ew]
  exact⟨Am (by decide),Am (by rw[List.length_map];omega),hR⟩
 ·rintro i d _ hi ⟨y1,y2,y3,y4,y5,y6,y7,y8,y9,y10,rfl⟩
  obtain⟨c,_,rfl⟩:∃c,c∈([0]++cs:List Int)∧Dt.int c=d:=List.mem_map.mp (List.mem_of_getElem? hi)
  have cp:AbB 10 30:=⟨by decide,by decide,by decide⟩
  have r1:=Gw (c.fdiv 1080) (m:=10 ^ Int.toNat 30) (by decide)
  have e1:(10 ^ Int.toNat 30:Int)<2 ^ 105:=by decide
  have r2:=Gw (c.fdiv 3) (m:=5) (by decide)
  refine Wy (fun ρ=>∃far kind,1≤far∧Bt 110 far∧0≤kind∧kind<5∧ρ=[some (.is (.lst (ns.map Dt.int))),some (.is (.int c)),some (.is (.int far)),some (.is (.int kind)),some (.is (t3 (far,far+1,1))),y5,y6,y7,y8,y9,y10]) (fun N hN=>?_) ?_
  ·walk_at "rd"
   exact⟨⟨by decide,by decide⟩,cp,by decide,⟨by decide,by decide⟩,by decide,s3,hN _ ⟨_,_,by omega,Bt.of (by omega) (by omega),r2.1,r2.2,rfl⟩⟩
  rintro _ ⟨far,kind,f1,bf,k0,k5,rfl⟩
  refine Wy (fun ρ=>∃f x,Abo kind f∧ρ=[some (.is (.lst (ns.map Dt.int))),some (.is (.int c)),some (.is (.int far)),some (.is (.int kind)),some (.is (t3 (far,far+1,1))),x,some (.is (t3 f)),y7,y8,y9,y10]) (fun N hN=>?_) ?_
  ·obtain⟨F1,F2⟩:=Acl k0 k5 f1 bf
   have b1:Bt 111 (far+31):=bf.add (show Bt 110 31 from Bt.aK (by decide))
   have two:Bt 2 2:=Bt.aK (by decide)
   have ix:=Afg (far:=far) k0 k5
   walk_at "rd"
   refine⟨b1.aY b1,s3,s3,s3,s3,s5,?_⟩
   rw[ix]
   generalize M4 kind far=F at *
   refine⟨⟨by decide,by decide⟩,by decide,Ie (fun _=>?_) (fun _=>hN _ ⟨F,_,F1,rfl⟩)⟩
   have bF:=F1.bf
   walk_at "rd"
   exact⟨two.aY bF.1,two.aY bF.2.1,two.aY bF.2.2,s3,hN _ ⟨Nh F,_,F2,rfl⟩⟩
  rintro _ ⟨f,x,hF,rfl⟩
  have r9:=Gw (c.fdiv 15) (m:=9) (by decide)
  have r4:=Gw (c.fdiv 135) (m:=4) (by decide)
  have r3:=Gw c (m:=3) (by decide)
  have r400:=Gw far (m:=400) (by decide)
  have adL:far.natAbs<2 ^ 110:=bf
  obtain⟨n,en,hnp,bn⟩:=AgF (zs:=[0,1,401,402+far,1+far.fmod 400,-401,-400-far,402,400]) (k:=(c.fdiv 15).fmod 9) (P:=fun z=>(z.natAbs≤400→0≤z)∧Bt 300 z) r9.1 (by simpa using r9.2) (fun z hz=>by
   have big:(2:Nat) ^ 110+1000<2 ^ 300:=by decide
   simp only[List.mem_cons,List.not_mem_nil,or_false]at hz
   unfold Bt
   omega)
  simp only[List.map_cons,List.map_nil]at en
  obtain⟨p,ep,bp⟩:=Al3 (k:=(c.fdiv 135).fmod 4) (far:=far) r4.1 r4.2 bf
  walk_at "rd"
  refine⟨by decide,s9,⟨by decide,by decide⟩,by decide,?_⟩
  rw[en]
  walk_at "rd"
  refine⟨s2,s2,s2,s2,s4,⟨by decide,by decide⟩,by decide,?_⟩
  rw[ep]
  walk_at "rd"
  have hK:Jc (c.fmod 3) kind f n p:=⟨hF,r3.1,r3.2,hnp,bn,bp⟩
  refine⟨by decide,Ar (c.fmod 3,kind,f,n,p) hK ⟨rfl,by decide,Cd (c.fmod 3,kind,f,n,p) hK fun d hd=>?_⟩⟩
  refine Ar (GP (c.fmod 3) kind f n p,f,n,p,d) ⟨Apl _ _ _ _ _,hd⟩ (Fz rfl ⟨s3,Cd ((1,0,3),1) ⟨⟨⟨Bt.one.le (by decide),Bt.zero.le (by decide),show Bt 800 3 from Bt.aK (by decide)⟩,fun _=>(show(0:Int)≤1 by decide),show Bt 1400 (-12)from Bt.aK (by decide)⟩,⟨(show(0:Int)<1 by decide),(show(-12:Int)<0 by decide)⟩,(show 1≤400 by decide)⟩ fun a ha=>?_⟩)
  rw[Alu ha]
  refine⟨s2,s2,s2,by simp only[Jy,Hi,Hl,Aad,Iu,Bool.and_true],?_⟩
  refine Fz (by simp only[RB,HB,Hv,Qo,Ot];decide) ⟨_,_,_,_,_,_,_,_,_,_,rfl⟩
 ·rintro _ ⟨y1,y2,y3,y4,y5,y6,y7,y8,y9,y10,rfl⟩
  exact q'
end
abbrev nF(K:W.Frag)(n:Str)(s:Stmt):Prop:=∃(f:Addr)(oc:Value)(od:Option Addr)(kV dc pm:Value)(an:Option Addr)(cd ct:Value)(sl:Array (Option Value)),W.nsIn K mainGlobals n=some (some (.ref f))∧K.lookup f=some ⟨oc,od,.func (W.fnOf n n (Df s) (Cj s) (Af s) .none kV dc pm an cd ct),sl⟩∧W.codeIn K cd n=true∧W.keepIn K (.ref f)=true
def AhI{K:W.Frag}{n:Str}{s:Stmt}{f:Addr}{od an:Option Addr}{sl:Array (Option Value)}{oc kV dc pm cd ct:Value}(a:W.nsIn K mainGlobals n=some (some (.ref f)))(l:K.lookup f=some ⟨oc,od,.func (W.fnOf n n (Df s) (Cj s) (Af s) .none kV dc pm an cd ct),sl⟩)(c:W.codeIn K cd n=true)(k:W.keepIn K (.ref f)=true):nF K n s:=⟨f,oc,od,kV,dc,pm,an,cd,ct,sl,a,l,c,k⟩
theorem tM{K:W.Frag}{h:Heap}{mg:Str→Option Value}{n:Str}{s:Stmt}{ps:List Str}(X:K.In h)(G:h.Ns mainGlobals mg)(H:nF K n s)
  (hb:∀(kV doc pm:Value)(an:Option Addr)(cdv ct:Value)(us:List Value),us.length=ps.length→bindArgs (W.fnOf n n (Df s) (Cj s) (Af s) .none kV doc pm an cdv ct) ⟨us,[]⟩=pure (ps.zip us)):∃f fd,FnT K mg n s ps f fd:=by
 obtain⟨f,oc,od,kV,dc,pm,an,cd,ct,sl,a,l,c,k⟩:=H
 have F:=Jz (st:=s) l c k
 exact⟨_,_,F,W.mg_of X G a,F.binds hb⟩
set_option maxHeartbeats 8000000 in
theorem all_mk{l:W.OpenLaw}{w:World}{K:W.Frag}{h:Heap}{mg:Str→Option Value}{fa:Addr}(X:K.In h)(G:h.Ns mainGlobals mg)(hfa:mg "law"=some (.ref fa))
  (h0:nF K "shares" Jh)
  (h1:nF K "row_less" Ge)
  (h2:nF K "root" Jw)
  (h3:nF K "is_square" Fo)
  (h4:nF K "check_at_most" CG)
  (h5:nF K "check_within" Cv)
  (h6:nF K "is_turn" Hq)
  (h7:nF K "check_turn" CN)
  (h8:nF K "led" S9)
  (h9:nF K "put_behind" Bv)
  (h10:nF K "back" Ko)
  (h11:nF K "measure" Dh)
  (h12:nF K "value" Jx)
  (h13:nF K "moved" G8)
  (h14:nF K "middle" Jq)
  (h15:nF K "shape" Hg)
  (h16:nF K "check_bowl" Cp)
  (h17:nF K "stands_least" Dg)
  (h18:nF K "settled" Gg)
  (h19:nF K "turn_lower" Eu)
  (h20:nF K "own_turns" Ep)
  (h21:nF K "turns_of_least" Cu)
  (h22:nF K "turning_of_least" Ca)
  (h23:nF K "check_saddle" BW)
  (h24:nF K "stands_level" Dr)
  (h25:nF K "turn_behind" DX)
  (h26:nF K "stop_behind" CZ)
  (h27:nF K "eased" KC)
  (h28:nF K "stops_round" DY)
  (h29:nF K "lowered" Hu)
  (h30:nF K "shape_of" DK)
  (h31:nF K "way_between" DR)
  (h32:nF K "heads" Gv)
  (h33:nF K "families" Dy)
  (h34:nF K "roots_of_square_divisors" Bh)
  (h35:nF K "feet" Ku)
  (h36:nF K "whence" Ia)
  (h37:nF K "turn_to_foot" Dk)
  (h38:nF K "all_answers" BR)
  (h39:nF K "_law_told" Fv)
  (h40:nF K "_law_kinds" Es)
  (h41:nF K "_law_good" Er)
  (h42:nF K "_law_due" Gi)
  (h43:nF K "law" Nk)
  (iV:W.nsIn K mainGlobals "abs"=some none)
  (aD:W.nsIn K mainGlobals "isinstance"=some none)
  (pq:W.nsIn K mainGlobals "list"=some none)
  (uY:W.nsIn K mainGlobals "max"=some none)
  (uZ:W.nsIn K mainGlobals "min"=some none)
  (iG:W.nsIn K mainGlobals "range"=some none)
  (fL:W.nsIn K mainGlobals "sorted"=some none)
  (lB:W.nsIn K mainGlobals "tuple"=some none)
  (bR:W.nsIn K mainGlobals "ValueError"=some none)
  {aJ oY:Addr} {uz vG:Str} {uD sy:List Value} {uE uF:Bool} {uG:List Str} {sE:Option Bool} {uH uI:Option Addr} {vH vI vJ vK vL:Option Value} {uJ:String} {uK:Value} {jm:Array DictEntry} {vM:Nat} {vN:Array (Option Value)}
  (bC:W.nsIn K mainGlobals "FormError"=some (some (.ref aJ)))
  (bG:K.lookup aJ=some (PySem.excClassObj uz vG aJ oY uD bmV uE uG sy uF sE uH vH vI vJ vK vL uJ))
  (bV:K.lookup oY=some ⟨uK,uI,.dict jm vM,vN⟩) (bW:AdT jm=true) (bY:nsFind jm "__init__"=none)
  {aA xP:Addr} {aaQ abA:Str} {aaR zE:List Value} {aaS:Bool} {aaT:List Str} {zF:Option Bool} {aaU zG:Option Addr} {aaV aaW aaX aaY aaZ:Option Value} {zH:Value} {mW:Array DictEntry} {zJ:Nat} {zK:Array (Option Value)}
  (aH:W.nsIn K mainGlobals "Nought"=some (some (.ref aA)))
  (lC:K.lookup aA=some (PySem.excClassObj aaQ abA aA xP aaR (.ref aJ::bmV) true aaT zE aaS zF aaU aaV aaW aaX aaY aaZ "ValueError.__new__"))
  (pP:K.lookup xP=some ⟨zH,zG,.dict mW zJ,zK⟩) (pQ:AdT mW=true) (pR:nsFind mW "__init__"=none)
  (pU:W.keepIn K (.ref aA)=true) (pW:W.findIn K (.ref aA) "__setattr__"=some (some (.builtin "object.__setattr__"))) (pX:W.findIn K (.ref aA) "__getattribute__"=some (some (.builtin "BaseException.__getattribute__"))) (pY:W.findIn K (.ref aA) "__getattr__"=some none)
  (pZ:W.findIn K (.ref aA) "__class__"=some (some (.builtin "object.__class__"))) (p7:W.specialIn K (.builtin "object.__class__") "__get__"=some (some (.builtin "getset_descriptor.__get__"))) (p8:W.takesIn K (.builtin "object.__class__")=some true)
  {ao aa0 eE:Addr} {zL aa1:Str} {zM xQ:List Value} {zN:Bool} {zO:List Str} {xR:Option Bool} {zP xT xU:Option Addr} {zQ zR zT zU zV:Option Value} {xV xW xX xY qJ xZ:Value} {yc:Array (Option Value)}
  (aB:W.nsIn K mainGlobals "NoShape"=some (some (.ref ao)))
  (mX:K.lookup ao=some (PySem.excClassObj zL aa1 ao aa0 zM (.ref aJ::bmV) true zO xQ zN xR zP zQ zR zT zU zV "ValueError.__new__"))
  (mY:W.keepIn K (.ref ao)=true) (mZ:W.findIn K (.ref ao) "__setattr__"=some (some (.builtin "object.__setattr__"))) (m7:W.findIn K (.ref ao) "__getattribute__"=some (some (.builtin "BaseException.__getattribute__"))) (m8:W.findIn K (.ref ao) "__getattr__"=some none)
  (m9:W.findIn K (.ref ao) "__class__"=some (some (.builtin "object.__class__"))) (nq:W.specialIn K (.builtin "object.__class__") "__get__"=some (some (.builtin "getset_descriptor.__get__"))) (nu:W.takesIn K (.builtin "object.__class__")=some true)
  (nA:W.findIn K (.ref ao) "__init__"=some (some (.ref eE))) (nG:W.typeIn K (.ref eE)=some (.type "function"))
  (nH:K.lookup eE=some ⟨xV,xT,.func (W.fnOf "__init__" "NoShape.__init__" (Df Gm) (Cj Gm) (Af Gm) .none xW xX xY xU qJ xZ),yc⟩) (nJ:W.codeIn K qJ "NoShape.__init__"=true) (nM:W.keepIn K (.ref eE)=true)
  (fZ:W.takerIn K ao "form"=some none) (aU:W.findIn K (.ref ao) "form"=some none)
  {aj zW cY:Addr} {yd zX:Str} {yg vO:List Value} {yh:Bool} {yj:List Str} {vP:Option Bool} {yp vQ vR:Option Addr} {yq yt yu yw yx:Option Value} {vU vV vW vX oZ vY:Value} {vZ:Array (Option Value)}
  (aq:W.nsIn K mainGlobals "TooGreat"=some (some (.ref aj)))
  (jJ:K.lookup aj=some (PySem.excClassObj yd zX aj zW yg (.ref aJ::bmV) true yj vO yh vP yp yq yt yu yw yx "ValueError.__new__"))
  (jK:W.keepIn K (.ref aj)=true) (jL:W.findIn K (.ref aj) "__setattr__"=some (some (.builtin "object.__setattr__"))) (jM:W.findIn K (.ref aj) "__getattribute__"=some (some (.builtin "BaseException.__getattribute__"))) (jO:W.findIn K (.ref aj) "__getattr__"=some none)
  (jP:W.findIn K (.ref aj) "__class__"=some (some (.builtin "object.__class__"))) (jQ:W.specialIn K (.builtin "object.__class__") "__get__"=some (some (.builtin "getset_descriptor.__get__"))) (jR:W.takesIn K (.builtin "object.__class__")=some true)
  (jT:W.findIn K (.ref aj) "__init__"=some (some (.ref cY))) (jU:W.typeIn K (.ref cY)=some (.type "function"))
  (jV:K.lookup cY=some ⟨vU,vQ,.func (W.fnOf "__init__" "TooGreat.__init__" (Df Fp) (Cj Fp) (Af Fp) .none vV vW vX vR oZ vY),vZ⟩) (jW:W.codeIn K oZ "TooGreat.__init__"=true) (jX:W.keepIn K (.ref cY)=true)
  (cP:W.takerIn K aj "number"=some none) (aF:W.findIn K (.ref aj) "number"=some none)
  (eO:W.takerIn K aj "most"=some none) (aL:W.findIn K (.ref aj) "most"=some none)
  {ak zY fM:Addr} {yC zZ:Str} {yD v7:List Value} {yE:Bool} {yF:List Str} {v9:Option Bool} {yG wg wj:Option Addr} {yH yI yJ yK yL:Option Value} {wk wu wz wA o7 wB:Value} {wC:Array (Option Value)}
  (au:W.nsIn K mainGlobals "NoAnswer"=some (some (.ref ak)))
  (jY:K.lookup ak=some (PySem.excClassObj yC zZ ak zY yD (.ref aJ::bmV) true yF v7 yE v9 yG yH yI yJ yK yL "ValueError.__new__"))
  (jZ:W.keepIn K (.ref ak)=true) (j4:W.findIn K (.ref ak) "__setattr__"=some (some (.builtin "object.__setattr__"))) (j5:W.findIn K (.ref ak) "__getattribute__"=some (some (.builtin "BaseException.__getattribute__"))) (j6:W.findIn K (.ref ak) "__getattr__"=some none)
  (j7:W.findIn K (.ref ak) "__class__"=some (some (.builtin "object.__class__"))) (j8:W.specialIn K (.builtin "object.__class__") "__get__"=some (some (.builtin "getset_descriptor.__get__"))) (j9:W.takesIn K (.builtin "object.__class__")=some true)
  (kj:W.findIn K (.ref ak) "__init__"=some (some (.ref fM))) (kE:W.typeIn K (.ref fM)=some (.type "function"))
  (kI:K.lookup fM=some ⟨wk,wg,.func (W.fnOf "__init__" "NoAnswer.__init__" (Df Fq) (Cj Fq) (Af Fq) .none wu wz wA wj o7 wB),wC⟩) (kJ:W.codeIn K o7 "NoAnswer.__init__"=true) (kO:W.keepIn K (.ref fM)=true)
  (dz:W.takerIn K ak "point"=some none) (aO:W.findIn K (.ref ak) "point"=some none)
  {o8 sG:Addr} {aa2 aa3:Option Addr} {aa4:Array (Option Value)} {aa5 aa6 aa7 aa8 u5 aa9:Value}
  (sH:W.nsIn K mainGlobals "Shape"=some (some (.ref o8))) (sI:W.specialIn K (.ref o8) "__getattribute__"=some (some (.builtin "type.__getattribute__"))) (sJ:W.readsIn K o8 (.type "type")=true) (sS:W.findCls K (.ref o8) (.type "type") "__init__"=some (.val (.ref sG)))
  (sU:K.lookup sG=some ⟨aa5,aa2,.func (W.fnOf "__init__" "Shape.__init__" (Df Je) (Cj Je) (Af Je) .none aa6 aa7 aa8 aa3 u5 aa9),aa4⟩) (sV:W.codeIn K u5 "Shape.__init__"=true) (o9:W.keepIn K (.ref sG)=true)
  {bK qW:Addr} {abB abC:Option Addr} {abD:Array (Option Value)} {abE abF abG abH yM abI:Value}
  (fH:W.nsIn K mainGlobals "Bowl"=some (some (.ref bK))) (wD:W.makesIn K bK=true) (wF:W.findIn K (.ref bK) "__init__"=some (some (.ref qW))) (wG:W.isFn K (.ref qW)=true) (wH:W.keepIn K (.ref bK)=true)
  (sW:W.plainGet K bK Str.empty=true) (sZ:W.hasDictIn K bK=true) (tu:W.plainOver K bK=true) (tD:W.findIn K (.ref bK) "__setattr__"=some (some (.builtin "object.__setattr__")))
  (tG:W.findIn K (.ref bK) "__class__"=some (some (.builtin "object.__class__"))) (tH:W.specialIn K (.builtin "object.__class__") "__get__"=some (some (.builtin "getset_descriptor.__get__"))) (tK:W.takesIn K (.builtin "object.__class__")=some true) (tQ:W.mroIn K bK (.type "object")=some true)
  (wI:K.lookup qW=some ⟨abE,abB,.func (W.fnOf "__init__" "Bowl.__init__" (Df KR) (Cj KR) (Af KR) .none abF abG abH abC yM abI),abD⟩) (wJ:W.codeIn K yM "Bowl.__init__"=true) (tU:W.keepIn K (.ref qW)=true)
  (fJ:W.findIn K (.ref bK) "form"=some none)
  (bZ:W.findIn K (.ref bK) "measure"=some none)
  (cM:W.findIn K (.ref bK) "lowest"=some none)
  {aP lH:Addr} {z6 z7:Option Addr} {z8:Array (Option Value)} {z9 aac aad aae tV aaf:Value}
  (bJ:W.nsIn K mainGlobals "Saddle"=some (some (.ref aP))) (qb:W.makesIn K aP=true) (qd:W.findIn K (.ref aP) "__init__"=some (some (.ref lH))) (qe:W.isFn K (.ref lH)=true) (qg:W.keepIn K (.ref aP)=true)
  (nP:W.plainGet K aP Str.empty=true) (nQ:W.hasDictIn K aP=true) (nR:W.plainOver K aP=true) (nU:W.findIn K (.ref aP) "__setattr__"=some (some (.builtin "object.__setattr__")))
  (nW:W.findIn K (.ref aP) "__class__"=some (some (.builtin "object.__class__"))) (nY:W.specialIn K (.builtin "object.__class__") "__get__"=some (some (.builtin "getset_descriptor.__get__"))) (nZ:W.takesIn K (.builtin "object.__class__")=some true) (n6:W.mroIn K aP (.type "object")=some true)
  (qj:K.lookup lH=some ⟨z9,z6,.func (W.fnOf "__init__" "Saddle.__init__" (Df Ho) (Cj Ho) (Af Ho) .none aac aad aae z7 tV aaf),z8⟩) (qm:W.codeIn K tV "Saddle.__init__"=true) (n8:W.keepIn K (.ref lH)=true)
  (cN:W.findIn K (.ref aP) "form"=some none)
  (bH:W.findIn K (.ref aP) "measure"=some none)
  (bL:W.findIn K (.ref aP) "lowest"=some none)
  {iY:Addr} {aag aah:Option Addr} {aai:Array (Option Value)} {aaj aak aal aam tW aan:Value}
  (g8:W.findIn K (.ref bK) "way_to"=some (some (.ref iY)))
  (eV:W.findIn K (.ref aP) "way_to"=some (some (.ref iY)))
  (lJ:W.isFn K (.ref iY)=true) (qp:K.lookup iY=some ⟨aaj,aag,.func (W.fnOf "way_to" "Shape.way_to" (Df Hs) (Cj Hs) (Af Hs) .none aak aal aam aah tW aan),aai⟩) (qt:W.codeIn K tW "Shape.way_to"=true) (gG:W.keepIn K (.ref iY)=true)
  {bU:Addr} {abJ:ClassData} (tX:W.nsIn K mainGlobals "Apart"=some (some (.ref bU))) (jc:W.clsIn K bU=some abJ) (jd:W.typeIn K (.ref bU)=some (.type "type"))
  (f9:W.mroIn K ao (.ref bU)=some false)
  (eX:W.mroIn K aj (.ref bU)=some false)
  (eY:W.mroIn K ak (.ref bU)=some false)
  (iu:W.mroIn K aA (.ref bU)=some false)
  {aG:Addr} {wK:ClassData} (jo:W.nsIn K mainGlobals "NoMeasure"=some (some (.ref aG))) (cj:W.clsIn K aG=some wK) (cu:W.typeIn K (.ref aG)=some (.type "type"))
  (cA:W.mroIn K ao (.ref aG)=some false)
  (bN:W.mroIn K aj (.ref aG)=some false)
  (bQ:W.mroIn K ak (.ref aG)=some false)
  (cQ:W.mroIn K aA (.ref aG)=some false)
  {bw:Addr} {abb:ClassData} (qu:W.nsIn K mainGlobals "NoRoot"=some (some (.ref bw))) (gH:W.clsIn K bw=some abb) (gJ:W.typeIn K (.ref bw)=some (.type "type"))
  (eZ:W.mroIn K ao (.ref bw)=some false)
  (dD:W.mroIn K aj (.ref bw)=some false)
  (dG:W.mroIn K ak (.ref bw)=some false)
  (gb:W.mroIn K aA (.ref bw)=some false)
  {bx:Addr} {abd:ClassData} (qw:W.nsIn K mainGlobals "NoTurn"=some (some (.ref bx))) (gK:W.clsIn K bx=some abd) (gM:W.typeIn K (.ref bx)=some (.type "type"))
  (fj:W.mroIn K ao (.ref bx)=some false)
  (dH:W.mroIn K aj (.ref bx)=some false)
  (dJ:W.mroIn K ak (.ref bx)=some false)
  (gj:W.mroIn K aA (.ref bx)=some false)
  {aM:Addr} {yN:ClassData} (kW:W.nsIn K mainGlobals "NotLevel"=some (some (.ref aM))) (cZ:W.clsIn K aM=some yN) (c7:W.typeIn K (.ref aM)=some (.type "type"))
  (cR:W.mroIn K ao (.ref aM)=some false)
  (cD:W.mroIn K aj (.ref aM)=some false)
  (cG:W.mroIn K ak (.ref aM)=some false)
  (dM:W.mroIn K aA (.ref aM)=some false)
  {bB:Addr} {abe:ClassData} (qx:W.nsIn K mainGlobals "NotOwn"=some (some (.ref bB))) (gO:W.clsIn K bB=some abe) (gP:W.typeIn K (.ref bB)=some (.type "type"))
  (fu:W.mroIn K ao (.ref bB)=some false)
  (dN:W.mroIn K aj (.ref bB)=some false)
  (dR:W.mroIn K ak (.ref bB)=some false)
  (gk:W.mroIn K aA (.ref bB)=some false)
  {aN:Addr} {yO:ClassData} (kY:W.nsIn K mainGlobals "NotPlain"=some (some (.ref aN))) (dg:W.clsIn K aN=some yO) (dh:W.typeIn K (.ref aN)=some (.type "type"))
  (cT:W.mroIn K ao (.ref aN)=some false)
  (cH:W.mroIn K aj (.ref aN)=some false)
  (cI:W.mroIn K ak (.ref aN)=some false)
  (dW:W.mroIn K aA (.ref aN)=some false)
  {aao:ClassData} (iw:W.clsIn K ao=some aao) (iy:W.typeIn K (.ref ao)=some (.type "type"))
  (cU:W.mroIn K aj (.ref ao)=some false)
  (cV:W.mroIn K ak (.ref ao)=some false)
  (fC:W.mroIn K aA (.ref ao)=some false)
  {yP:ClassData} (fQ:W.clsIn K aj=some yP) (fV:W.typeIn K (.ref aj)=some (.type "type"))
  (cW:W.mroIn K ao (.ref aj)=some false)
  (cJ:W.mroIn K ak (.ref aj)=some false)
  (dX:W.mroIn K aA (.ref aj)=some false)
  {abf:ClassData} (je:W.clsIn K aA=some abf) (jf:W.typeIn K (.ref aA)=some (.type "type"))
  (fD:W.mroIn K ao (.ref aA)=some false)
  (dY:W.mroIn K aj (.ref aA)=some false)
  (dZ:W.mroIn K ak (.ref aA)=some false)
  {yQ:ClassData} (fW:W.clsIn K ak=some yQ) (fX:W.typeIn K (.ref ak)=some (.type "type"))
  (cX:W.mroIn K ao (.ref ak)=some false)
  (cL:W.mroIn K aj (.ref ak)=some false)
  (d7:W.mroIn K aA (.ref ak)=some false)
  {abK:Addr} {abY:Option Addr} {abZ:Array (Option Value)} {acn:Nat} {abL:Tok} {abM:Tok} {abN:Tok} {abO:Tok}
  (iM:W.nsIn K mainGlobals "SAME"=some (some (.ref abK))) (aap:K.lookup abK=some ⟨.type "tuple",abY,.seq #[.int (1) abL,.int (0) abM,.int (0) abN,.int (1) abO] acn,abZ⟩)
  {jF:Tok} (iz:W.nsIn K mainGlobals "MOST_MEASURE"=some (some (.int (4000) jF)))
  {iQ:Tok} (iR:W.nsIn K mainGlobals "MOST_NUMBER"=some (some (.int (400) iQ)))
  : ∃fd:FuncData,(∀(s:Shared)(v:Value),BindsTo s fd ⟨[v],[]⟩ [("_law_script",v)])∧∀base:Heap,K.In base→base.Ns mainGlobals mg→Ef l.prog w K mg base CX0 16 fa fd ["_law_script"] (lSp K U3):=by
 obtain⟨f43,adM,adN,acU,acV,acW,acX,acY,acZ,adO,a43,l43,c43,k43⟩:=h43
 have e:=hfa.symm.trans (W.mg_of X G a43)
 cases e
 have F43:=Jz (st:=Nk) l43 c43 k43
 have aW:XC K aA aJ:=⟨⟨_,_,_,_,_,_,_,_,_,_,_,_,_,_,lC⟩,⟨_,_,_,_,_,_,_,_,_,bG,bV,bW,bY⟩,pW,pX,pY,pZ,p7,p8⟩
 have aV:XC K ao aJ:=⟨⟨_,_,_,_,_,_,_,_,_,_,_,_,_,_,mX⟩,⟨_,_,_,_,_,_,_,_,_,bG,bV,bW,bY⟩,mZ,m7,m8,m9,nq,nu⟩
 have tY:=Jz (st:=Gm) nH nJ nM
 have aQ:XC K aj aJ:=⟨⟨_,_,_,_,_,_,_,_,_,_,_,_,_,_,jJ⟩,⟨_,_,_,_,_,_,_,_,_,bG,bV,bW,bY⟩,jL,jM,jO,jP,jQ,jR⟩
 have qK:=Jz (st:=Fp) jV jW jX
 have aR:XC K ak aJ:=⟨⟨_,_,_,_,_,_,_,_,_,_,_,_,_,_,jY⟩,⟨_,_,_,_,_,_,_,_,_,bG,bV,bW,bY⟩,j4,j5,j6,j7,j8,j9⟩
 have qL:=Jz (st:=Fq) kI kJ kO
 have yR:=Jz (st:=Je) sU sV o9
 have aaF:=Jz (st:=KR) wI wJ tU
 have u6:=Jz (st:=Ho) qj qm n8
 have u9:=Jz (st:=Hs) qp qt gG
 have T:Txt K mg:={
  abp:=⟨_,_,_,⟨⟨wD,wF,wG,wH⟩,fH,W.mg_of X G fH,⟨sW,sZ,tu,tD⟩,fun f hf=>by simp only[List.mem_cons,List.not_mem_nil,or_false]at hf;rcases hf with hf|hf|hf<;>(subst hf;first|exact fJ|exact bZ|exact cM)⟩,aaF,aaF.binds (ps:=["self","form"]) fun _ _ _ _ _ _ us hl=>match us,hl with | [_,_],_=>rfl⟩
  abU:=⟨(fun C e=>by rw[fH]at e;cases e;exact tG),tH,tK,(fun C e=>by rw[fH]at e;cases e;exact tQ)⟩
  vq:=fun C e=>by rw[fH]at e;cases e;exact fJ
  jr:=fun C e=>by rw[fH]at e;cases e;exact bZ
  jz:=fun C e=>by rw[fH]at e;cases e;exact cM
  wU:=⟨_,_,_,⟨⟨qb,qd,qe,qg⟩,bJ,W.mg_of X G bJ,⟨nP,nQ,nR,nU⟩,fun f hf=>by simp only[List.mem_cons,List.not_mem_nil,or_false]at hf;rcases hf with hf|hf|hf<;>(subst hf;first|exact cN|exact bH|exact bL)⟩,u6,u6.binds (ps:=["self","form"]) fun _ _ _ _ _ _ us hl=>match us,hl with | [_,_],_=>rfl⟩
  aaI:=⟨(fun C e=>by rw[bJ]at e;cases e;exact nW),nY,nZ,(fun C e=>by rw[bJ]at e;cases e;exact n6)⟩
  rA:=fun C e=>by rw[bJ]at e;cases e;exact cN
  iC:=fun C e=>by rw[bJ]at e;cases e;exact bH
  iT:=fun C e=>by rw[bJ]at e;cases e;exact bL
  wV:=⟨_,_,⟨⟨_,W.mg_of X G sH,sI,sJ,sS⟩,o9⟩,yR,yR.binds (ps:=["self","form","lowest"]) fun _ _ _ _ _ _ us hl=>match us,hl with | [_,_,_],_=>rfl⟩
  uR:=⟨_,_,fun c hc=>by simp only[List.mem_cons,List.not_mem_nil,or_false]at hc;rcases hc with hc|hc<;>(subst hc;intro C e;first|(rw[fH]at e;cases e;exact⟨g8,lJ,gG⟩)|(rw[bJ]at e;cases e;exact⟨eV,lJ,gG⟩)),gG,u9,u9.binds (ps:=["self","other"]) fun _ _ _ _ _ _ us hl=>match us,hl with | [_,_],_=>rfl⟩
  uP:=⟨_,_,⟨aH,W.mg_of X G aH,pU,⟨_,_,_,_,_,_,_,_,_,_,_,_,_,_,_,_,_,_,_,_,lC,pP,pQ,pR⟩,fun h Y=>aW.own Y,aW.xb⟩,aW⟩
  gq:=Under.mk aH aW (W.mg_of X G bC)
  uQ:=⟨_,_,_,_,aB,W.mg_of X G aB,mY,aV,nA,nG,tY.binds (ps:=["self","form"]) fun _ _ _ _ _ _ us hl=>match us,hl with | [_,_],_=>rfl,rfl,tY,fun f hf=>by simp only[List.mem_cons,List.not_mem_nil,or_false]at hf;subst hf;exact fZ⟩
  fK:=Under.mk aB aV (W.mg_of X G bC)
  aU:=HD.mk aB aU
  rm:=⟨_,_,_,_,aq,W.mg_of X G aq,jK,aQ,jT,jU,qK.binds (ps:=["self","number","most"]) fun _ _ _ _ _ _ us hl=>match us,hl with | [_,_,_],_=>rfl,rfl,qK,fun f hf=>by simp only[List.mem_cons,List.not_mem_nil,or_false]at hf;rcases hf with hf|hf<;>(subst hf;first|exact cP|exact eO)⟩
  d8:=Under.mk aq aQ (W.mg_of X G bC)
  aF:=HD.mk aq aF
  aL:=HD.mk aq aL
  rz:=⟨_,_,_,_,au,W.mg_of X G au,jZ,aR,kj,kE,qL.binds (ps:=["self","point"]) fun _ _ _ _ _ _ us hl=>match us,hl with | [_,_],_=>rfl,rfl,qL,fun f hf=>by simp only[List.mem_cons,List.not_mem_nil,or_false]at hf;subst hf;exact dz⟩
  d9:=Under.mk au aR (W.mg_of X G bC)
  aO:=HD.mk au aO
  iD:=⟨_,W.mg_of X G bC,_,_,_,_,_,_,_,_,_,_,_,_,_,_,_,_,bG⟩
  aay:=⟨_,W.mg_of X G tX,Bg.no aB aV jc jd f9,Bg.no aq aQ jc jd eX,Bg.no au aR jc jd eY,Bg.no aH aW jc jd iu⟩
  qD:=⟨_,W.mg_of X G jo,Bg.no aB aV cj cu cA,Bg.no aq aQ cj cu bN,Bg.no au aR cj cu bQ,Bg.no aH aW cj cu cQ⟩
  wW:=⟨_,W.mg_of X G qu,Bg.no aB aV gH gJ eZ,Bg.no aq aQ gH gJ dD,Bg.no au aR gH gJ dG,Bg.no aH aW gH gJ gb⟩
  wX:=⟨_,W.mg_of X G qw,Bg.no aB aV gK gM fj,Bg.no aq aQ gK gM dH,Bg.no au aR gK gM dJ,Bg.no aH aW gK gM gj⟩
  rB:=⟨_,W.mg_of X G kW,Bg.no aB aV cZ c7 cR,Bg.no aq aQ cZ c7 cD,Bg.no au aR cZ c7 cG,Bg.no aH aW cZ c7 dM⟩
  wY:=⟨_,W.mg_of X G qx,Bg.no aB aV gO gP fu,Bg.no aq aQ gO gP dN,Bg.no au aR gO gP dR,Bg.no aH aW gO gP gk⟩
  rC:=⟨_,W.mg_of X G kY,Bg.no aB aV dg dh cT,Bg.no aq aQ dg dh cH,Bg.no au aR dg dh cI,Bg.no aH aW dg dh dW⟩
  uT:=⟨_,W.mg_of X G aB,Bg.self aB,Bg.no aq aQ iw iy cU,Bg.no au aR iw iy cV,Bg.no aH aW iw iy fC⟩
  rD:=⟨_,W.mg_of X G aq,Bg.no aB aV fQ fV cW,Bg.self aq,Bg.no au aR fQ fV cJ,Bg.no aH aW fQ fV dX⟩
  wZ:=⟨_,W.mg_of X G aH,Bg.no aB aV je jf fD,Bg.no aq aQ je jf dY,Bg.no au aR je jf dZ,Bg.self aH⟩
  rE:=⟨_,W.mg_of X G au,Bg.no aB aV fW fX cX,Bg.no aq aQ fW fX cL,Bg.self au,Bg.no aH aW fW fX d7⟩
  bR:=W.mg_none_of X G bR
  w5:=tM X G h0 (by walk_at "b2")
  rG:=tM X G h1 (by walk_at "b3")
  abq:=tM X G h2 (by walk_at "b1")
  qF:=tM X G h3 (by walk_at "b1")
  jt:=tM X G h4 (by walk_at "b2")
  jA:=tM X G h5 (by walk_at "b2")
  uU:=tM X G h6 (by walk_at "b1")
  oA:=tM X G h7 (by walk_at "b1")
  ab3:=tM X G h8 (by walk_at "b2")
  oE:=tM X G h9 (by walk_at "b2")
  abr:=tM X G h10 (by walk_at "b1")
  uV:=tM X G h11 (by walk_at "b1")
  aaz:=tM X G h12 (by walk_at "b2")
  aaA:=tM X G h13 (by walk_at "b2")
  w6:=tM X G h14 (by walk_at "b3")
  aaB:=tM X G h15 (by walk_at "b1")
  oF:=tM X G h16 (by walk_at "b1")
  jB:=tM X G h17 (by walk_at "b1")
  uW:=tM X G h18 (by walk_at "b1")
  oG:=tM X G h19 (by walk_at "b1")
  qG:=tM X G h20 (by walk_at "b1")
  iU:=tM X G h21 (by walk_at "b1")
  gU:=tM X G h22 (by walk_at "b1")
  jC:=tM X G h23 (by walk_at "b1")
  jD:=tM X G h24 (by walk_at "b2")
  lX:=tM X G h25 (by walk_at "b2")
  lY:=tM X G h26 (by walk_at "b2")
  aaC:=tM X G h27 (by walk_at "b1")
  lZ:=tM X G h28 (by walk_at "b1")
  uX:=tM X G h29 (by walk_at "b1")
  rH:=tM X G h30 (by walk_at "b1")
  mj:=tM X G h31 (by walk_at "b2")
  aaD:=tM X G h32 (by walk_at "b2")
  rJ:=tM X G h33 (by walk_at "b2")
  bM:=tM X G h34 (by walk_at "b1")
  abt:=tM X G h35 (by walk_at "b2")
  xg:=tM X G h36 (by walk_at "b3")
  jE:=tM X G h37 (by walk_at "b2")
  mq:=tM X G h38 (by walk_at "b2")
  qH:=tM X G h39 (by walk_at "b4")
  oH:=tM X G h40 (by walk_at "b1")
  qI:=tM X G h41 (by walk_at "b3")
  rK:=tM X G h42 (by walk_at "b5")
  ab4:=⟨_,_,F43,W.mg_of X G a43,F43.binds (ps:=["_law_script"]) fun _ _ _ _ _ _ us hl=>match us,hl with | [_],_=>rfl⟩
  iV:=W.mg_none_of X G iV
  aD:=W.mg_none_of X G aD
  pq:=W.mg_none_of X G pq
  uY:=W.mg_none_of X G uY
  uZ:=W.mg_none_of X G uZ
  iG:=W.mg_none_of X G iG
  fL:=W.mg_none_of X G fL
  lB:=W.mg_none_of X G lB
  vA:=⟨_,W.mg_of X G iM,fun H=>Dv.mpr ⟨_,[.int (1),.int (0),.int (0),.int (1)],rfl,.inr ⟨_,_,_,aap,rfl,rfl,Am (by show 4≤1000;decide),.cons ⟨_,rfl⟩ (.cons ⟨_,rfl⟩ (.cons ⟨_,rfl⟩ (.cons ⟨_,rfl⟩ (.nil))))⟩,RpL.cons (Bp.mpr rfl) (RpL.cons (Bp.mpr rfl) (RpL.cons (Bp.mpr rfl) (RpL.cons (Bp.mpr rfl) (RpL.nil))))⟩⟩
  dj:=⟨_,W.mg_of X G iz⟩
  aX:=⟨_,W.mg_of X G iR⟩
 }
 refine⟨W.fnOf "law" "law" (Df Nk) (Cj Nk) (Af Nk) .none acU acV acW acX acY acZ,fun s v=>.of_eq rfl,fun base kb nb=>?_⟩
 have aaq:=Xb l.prog w base T 
 have wL:=AfY l.prog w base T 
 have abg:=YW l.prog w base T 
 have bI:=RT l.prog w base T 
 have gQ:=Xw l.prog w base T 
 have aaG:=Ae1 l.prog w base T 
 have abP:=Abx l.prog w base T 
 have tZ:=O1 l.prog w base T 
 have wM:=RK l.prog w base T 
 have oh:=K3 l.prog w base T 
 have uc:=O9 l.prog w base T 
 have uL:=Ru l.prog w base T 
 have aco:=Afn l.prog w base T 
 have wN:=R6 l.prog w base T 
 have aar:=Ws l.prog w base T 
 have yS:=Abh l.prog w base T gQ
 have abQ:=Ab6 l.prog w base T aaq
 have yU:=U6 l.prog w base T wL
 have jq:=RV l.prog w base T abg
 have qy:=Nm l.prog w base T oh bI
 have iB:=G9 l.prog w base T wL
 have yV:=UJ l.prog w base T wN
 have qz:=Ml l.prog w base T 
 have ju:=Og l.prog w base T 
 have acK:=Ajd l.prog w base T jq
 have aas:=Afe l.prog w base T jq
 have qX:=Adq l.prog w base T jq aaG abP
 have qY:=AeH l.prog w base T gQ yU
 have mz:=Rr l.prog w base T qY
 have wO:=RP mz
 have jw:=Nq l.prog w base T qz qY gQ
 have ud:=O6 jw
 have mC:=Ry l.prog w base T uL qX bI
 have uM:=Rx l.prog w base T bI aas
 have uf:=O2 l.prog w base T abQ qX bI
 have vd:=XH l.prog w base T wO tZ wM qX bI
 have ab0:=Ad5 l.prog w base T ud wL gQ uc mC
 have ab1:=AdG l.prog w base T yS vd
 have yW:=Vl l.prog w base T vd aas bI qy
 have uN:=Qh l.prog w base T wL ab0 mC gQ
 have aat:=Wl l.prog w base T jw uN
 have aau:=W0 l.prog w base T yS aat
 have qM:=TY l.prog w base T ab1 aau qY
 have aav:=Wd qM
 have abh:=Yq l.prog w base T gQ qY uM aav
 have kZ:=Uy l.prog w base T abh qM ju iB aco
 have acp:=Wz kZ
 have ug:=Abv l.prog w base T kZ
 have acM:=Aci ug
 have abj:=Yp l.prog w base T kZ uf aaG qX bI aas
 have lq:=Oz l.prog w base T mz ju ug yW acK
 have uO:=QL lq
 have yX:=Uu l.prog w base T ug abj lq
 have acL:=Aj4 l.prog w base T aar yV uO yX
 obtain⟨f,fd,FT,GG⟩:=acL
 have e1:=FT.mg.symm.trans (W.mg_of X G a43)
 cases e1
 have e2:=FT.fn.uniq F43
 subst e2
 exact GG
theorem walk{l:W.OpenLaw}{q:Program}{loose:List Str}{XP:(Str→Option Value)→Heap→Prop}{YP:World→Heap→Prop}{d:DefRec}{K:Params→W.Frag}(hn:l.most=some 63)(hdf:d.params.defaults=[])
  (hY:∀(w:World)(h:Heap),YP w h→(K w.params).In h)
  (F:∀(w:World)(mg:Str→Option Value)(fa:Addr)(h:Heap),(K w.params).In h→h.Ns mainGlobals mg→mg d.name=some (.ref fa) →
   ∃fd:FuncData,(∀(s:Shared)(u:Value),BindsTo s fd ⟨[u],[]⟩ [("_law_script",u)])∧∀base:Heap,(K w.params).In base→base.Ns mainGlobals mg→Ef l.prog w (K w.params) mg base CX0 16 fa fd ["_law_script"] (lSp (K w.params) U3)) :
  W.WalkO q loose XP YP l.row.toRowW d [] (fun f vs=>PySem.call f vs) :=
 L2.Afp (n:=63) (k:=16) (x:="_law_script") (CX:=fun _=>CX0) (sp:=fun w=>lSp (K w.params) U3) hn (by decide) hdf ⟨rfl,by decide,by decide⟩ hY F (fun w H a ns hl _ hS=>AbV hl hS) fun _ _ _ _ _ z=>z
end My
open PySem W PyProof.Rows
local macro_rules | `(tactic| walk_at "nF") => `(tactic| (refine' My.AhI ?qa ?ql ?qc ?qk; (case qa => k_is); (case ql => k_is); (case qc => k_is); (case qk => k_is)))
theorem My.hFk{K:W.Frag}{n:PySem.Str}{s:PySem.Stmt}(f:PySem.Addr)(m:String)(t c:Nat)(a:W.nsIn K PySem.mainGlobals n=some (some (.ref f)):=by kernel_rfl)(l:K.lookup f=some ⟨.type "function",none,.func (W.fnOf n n (L2.Df s) (L2.Cj s) (L2.Af s) .none .none .none (.str (.ofString m) t) none (.ref c) .none),#[]⟩:=by kernel_rfl)(d:W.codeIn K (.ref c) n=true:=by kernel_rfl)(k:W.keepIn K (.ref f)=true:=by kernel_rfl):My.nF K n s:=My.AhI a l d k
theorem My.hF0(P:PySem.Params):My.nF (My.KK P) "shares" My.Jh:=My.hFk 236 "formcycle.wholes" 473 235
theorem My.hF1(P:PySem.Params):My.nF (My.KK P) "row_less" My.Ge:=My.hFk 243 "formcycle.wholes" 473 242
theorem My.hF2(P:PySem.Params):My.nF (My.KK P) "root" My.Jw:=My.hFk 250 "formcycle.wholes" 473 249
theorem My.hF3(P:PySem.Params):My.nF (My.KK P) "is_square" My.Fo:=My.hFk 257 "formcycle.wholes" 473 256
theorem My.hF4(P:PySem.Params):My.nF (My.KK P) "check_at_most" My.CG:=My.hFk 264 "formcycle.wholes" 473 263
theorem My.hF5(P:PySem.Params):My.nF (My.KK P) "check_within" My.Cv:=My.hFk 271 "formcycle.wholes" 473 270
theorem My.hF6(P:PySem.Params):My.nF (My.KK P) "is_turn" My.Hq:=My.hFk 279 "formcycle.turns" 528 278
theorem My.hF7(P:PySem.Params):My.nF (My.KK P) "check_turn" My.CN:=My.hFk 286 "formcycle.turns" 528 285
theorem My.hF8(P:PySem.Params):My.nF (My.KK P) "led" My.S9:=My.hFk 293 "formcycle.turns" 528 292
theorem My.hF9(P:PySem.Params):My.nF (My.KK P) "put_behind" My.Bv:=My.hFk 300 "formcycle.turns" 528 299
theorem My.ac0(P:PySem.Params):My.nF (My.KK P) "back" My.Ko:=My.hFk 307 "formcycle.turns" 528 306
theorem My.ac1(P:PySem.Params):My.nF (My.KK P) "measure" My.Dh:=My.hFk 314 "formcycle.forms" 572 313
theorem My.ac2(P:PySem.Params):My.nF (My.KK P) "value" My.Jx:=My.hFk 321 "formcycle.forms" 572 320
theorem My.ac3(P:PySem.Params):My.nF (My.KK P) "moved" My.G8:=My.hFk 328 "formcycle.forms" 572 327
theorem My.ac4(P:PySem.Params):My.nF (My.KK P) "middle" My.Jq:=My.hFk 335 "formcycle.forms" 572 334
theorem My.ac5(P:PySem.Params):My.nF (My.KK P) "shape" My.Hg:=My.hFk 342 "formcycle.forms" 572 341
theorem My.ac6(P:PySem.Params):My.nF (My.KK P) "check_bowl" My.Cp:=My.hFk 349 "formcycle.bowls" 619 348
theorem My.ac7(P:PySem.Params):My.nF (My.KK P) "stands_least" My.Dg:=My.hFk 356 "formcycle.bowls" 619 355
theorem My.ac8(P:PySem.Params):My.nF (My.KK P) "settled" My.Gg:=My.hFk 363 "formcycle.bowls" 619 362
theorem My.ac9(P:PySem.Params):My.nF (My.KK P) "turn_lower" My.Eu:=My.hFk 370 "formcycle.bowls" 619 369
theorem My.ada(P:PySem.Params):My.nF (My.KK P) "own_turns" My.Ep:=My.hFk 375 "formcycle.bowls" 619 374
theorem My.adb(P:PySem.Params):My.nF (My.KK P) "turns_of_least" My.Cu:=My.hFk 382 "formcycle.bowls" 619 381
theorem My.ade(P:PySem.Params):My.nF (My.KK P) "turning_of_least" My.Ca:=My.hFk 389 "formcycle.bowls" 619 388
theorem My.adf(P:PySem.Params):My.nF (My.KK P) "check_saddle" My.BW:=My.hFk 396 "formcycle.saddles" 678 395
theorem My.adg(P:PySem.Params):My.nF (My.KK P) "stands_level" My.Dr:=My.hFk 403 "formcycle.saddles" 678 402
theorem My.adh(P:PySem.Params):My.nF (My.KK P) "turn_behind" My.DX:=My.hFk 410 "formcycle.saddles" 678 409
theorem My.adi(P:PySem.Params):My.nF (My.KK P) "stop_behind" My.CZ:=My.hFk 417 "formcycle.saddles" 678 416
theorem My.adk(P:PySem.Params):My.nF (My.KK P) "eased" My.KC:=My.hFk 424 "formcycle.saddles" 678 423
theorem My.adl(P:PySem.Params):My.nF (My.KK P) "stops_round" My.DY:=My.hFk 431 "formcycle.saddles" 678 430
theorem My.adn(P:PySem.Params):My.nF (My.KK P) "lowered" My.Hu:=My.hFk 438 "formcycle.saddles" 678 437
theorem My.ado(P:PySem.Params):My.nF (My.KK P) "shape_of" My.DK:=My.hFk 525 "formcycle.shapes" 745 524
theorem My.adp(P:PySem.Params):My.nF (My.KK P) "way_between" My.DR:=My.hFk 532 "formcycle.shapes" 745 531
theorem My.adq(P:PySem.Params):My.nF (My.KK P) "heads" My.Gv:=My.hFk 537 "formcycle.answers" 865 536
theorem My.adt(P:PySem.Params):My.nF (My.KK P) "families" My.Dy:=My.hFk 544 "formcycle.answers" 865 543
theorem My.adu(P:PySem.Params):My.nF (My.KK P) "roots_of_square_divisors" My.Bh:=My.hFk 549 "formcycle.answers" 865 548
theorem My.adv(P:PySem.Params):My.nF (My.KK P) "feet" My.Ku:=My.hFk 554 "formcycle.answers" 865 553
theorem My.adw(P:PySem.Params):My.nF (My.KK P) "whence" My.Ia:=My.hFk 559 "formcycle.answers" 865 558
theorem My.adx(P:PySem.Params):My.nF (My.KK P) "turn_to_foot" My.Dk:=My.hFk 566 "formcycle.answers" 865 565
theorem My.ady(P:PySem.Params):My.nF (My.KK P) "all_answers" My.BR:=My.hFk 571 "formcycle.answers" 865 570
theorem My.adz(P:PySem.Params):My.nF (My.KK P) "_law_told" My.Fv:=My.hFk 578 "law_formcycle_k55_no_answers" 926 577
theorem My.adA(P:PySem.Params):My.nF (My.KK P) "_law_kinds" My.Es:=My.hFk 585 "law_formcycle_k55_no_answers" 926 584
theorem My.adB(P:PySem.Params):My.nF (My.KK P) "_law_good" My.Er:=My.hFk 590 "law_formcycle_k55_no_answers" 926 589
theorem My.adC(P:PySem.Params):My.nF (My.KK P) "_law_due" My.Gi:=My.hFk 597 "law_formcycle_k55_no_answers" 926 596
theorem My.adD(P:PySem.Params):My.nF (My.KK P) "law" My.Nk:=My.hFk 604 "law_formcycle_k55_no_answers" 926 603
set_option maxRecDepth 100000 in
set_option maxHeartbeats 0 in
theorem PySem.Challenge.cw_formcycle_k55_no_answers_holds : PySem.Challenge.rw_formcycle_k55_no_answers.Holds := by
 w_on
 refine holds_law My.said0 fun said=>?_
 refine holds_open (r:=PySem.Challenge.rw_formcycle_k55_no_answers.row) (q:=My.vw) (loose:=[]) (Xt:=fun s=>xlAt My.vw [] s&&recOk (RowW.records (PySem.Challenge.rw_formcycle_k55_no_answers.row.toRowW)) s) (XP:=XL My.vw []) (Yf:=Hook.obs (kHook My.KK My.asK (fun _=>by kernel_rfl))) (Ya:=Hook.val (kHook My.KK My.asK (fun _=>by kernel_rfl))) (YP:=Hook.says (kHook My.KK My.asK (fun _=>by kernel_rfl))) (N:=5175) My.hl (Hook.of (kHook My.KK My.asK (fun _=>by kernel_rfl))) (Hook.keeps (kHook My.KK My.asK (fun _=>by kernel_rfl))) (fun s e=>xl_of s (Bool.and_eq_true_iff.mp e).1) XL.keeps (by rfl) (by rfl) (by rfl) (fun s e=>recFacts_of (Bool.and_eq_true_iff.mp e).2) (by rfl) said (by decide +kernel) ⟨rfl,rfl,rfl,rfl,rfl,by decide +kernel⟩ ?hw ?hc
 (case hw=>w_witness2)
 k_fill
 refine My.walk (l:=PySem.Challenge.rw_formcycle_k55_no_answers) rfl rfl (fun w h Y=>PySem.W.kIn_of Y) ?F
 case F =>
  intro w mg fa h KX G hmg
  refine' My.all_mk KX G hmg (My.hF0 _) (My.hF1 _) (My.hF2 _) (My.hF3 _) (My.hF4 _) (My.hF5 _) (My.hF6 _) (My.hF7 _) (My.hF8 _) (My.hF9 _) (My.ac0 _) (My.ac1 _) (My.ac2 _) (My.ac3 _) (My.ac4 _) (My.ac5 _) (My.ac6 _) (My.ac7 _) (My.ac8 _) (My.ac9 _) (My.ada _) (My.adb _) (My.ade _) (My.adf _) (My.adg _) (My.adh _) (My.adi _) (My.adk _) (My.adl _) (My.adn _) (My.ado _) (My.adp _) (My.adq _) (My.adt _) (My.adu _) (My.adv _) (My.adw _) (My.adx _) (My.ady _) (My.adz _) (My.adA _) (My.adB _) (My.adC _) (My.adD _) ?iV ?aD ?pq ?uY ?uZ ?iG ?fL ?lB ?bR ?bC ?bG ?bV ?bW ?bY ?aH ?lC ?pP ?pQ ?pR ?pU ?pW ?pX ?pY ?pZ ?p7 ?p8 ?aB ?mX ?mY ?mZ ?m7 ?m8 ?m9 ?nq ?nu ?nA ?nG ?nH ?nJ ?nM ?fZ ?aU ?aq ?jJ ?jK ?jL ?jM ?jO ?jP ?jQ ?jR ?jT ?jU ?jV ?jW ?jX ?cP ?aF ?eO ?aL ?au ?jY ?jZ ?j4 ?j5 ?j6 ?j7 ?j8 ?j9 ?kj ?kE ?kI ?kJ ?kO ?dz ?aO ?sH ?sI ?sJ ?sS ?sU ?sV ?o9 ?fH ?wD ?wF ?wG ?wH ?sW ?sZ ?tu ?tD ?tG ?tH ?tK ?tQ ?wI ?wJ ?tU ?fJ ?bZ ?cM ?bJ ?qb ?qd ?qe ?qg ?nP ?nQ ?nR ?nU ?nW ?nY ?nZ ?n6 ?qj ?qm ?n8 ?cN ?bH ?bL ?g8 ?eV ?lJ ?qp ?qt ?gG ?tX ?jc ?jd ?f9 ?eX ?eY ?iu ?jo ?cj ?cu ?cA ?bN ?bQ ?cQ ?qu ?gH ?gJ ?eZ ?dD ?dG ?gb ?qw ?gK ?gM ?fj ?dH ?dJ ?gj ?kW ?cZ ?c7 ?cR ?cD ?cG ?dM ?qx ?gO ?gP ?fu ?dN ?dR ?gk ?kY ?dg ?dh ?cT ?cH ?cI ?dW ?iw ?iy ?cU ?cV ?fC ?fQ ?fV ?cW ?cJ ?dX ?je ?jf ?fD ?dY ?dZ ?fW ?fX ?cX ?cL ?d7 ?iM ?aap ?iz ?iR
  case iV|aD|pq|uY|uZ|iG|fL|lB|bR|bC|bG|bV=>as_aux_lemma=>k_is
  (case bW=>rfl)
  (case bY=>rfl)
  case aH|lC|pP=>as_aux_lemma=>k_is
  (case pQ=>rfl)
  (case pR=>rfl)
  case pU|pW|pX|pY|pZ|p7|p8|aB|mX|mY|mZ|m7|m8|m9|nq|nu|nA|nG|nH|nJ|nM|fZ|aU|aq|jJ|jK|jL|jM|jO|jP|jQ|jR|jT|jU|jV|jW|jX|cP|aF|eO|aL|au|jY|jZ|j4|j5|j6|j7|j8|j9|kj|kE|kI|kJ|kO|dz|aO|sH|sI|sJ|sS|sU|sV|o9|fH|wD|wF|wG|wH|sW|sZ|tu|tD|tG|tH|tK|tQ|wI|wJ|tU|fJ|bZ|cM|bJ|qb|qd|qe|qg|nP|nQ|nR|nU|nW|nY|nZ|n6|qj|qm|n8|cN|bH|bL|g8|eV|lJ|qp|qt|gG|tX|jc|jd|f9|eX|eY|iu|jo|cj|cu|cA|bN|bQ|cQ|qu|gH|gJ|eZ|dD|dG|gb|qw|gK|gM|fj|dH|dJ|gj|kW|cZ|c7|cR|cD|cG|dM|qx|gO|gP|fu|dN|dR|gk|kY|dg|dh|cT|cH|cI|dW|iw|iy|cU|cV|fC|fQ|fV|cW|cJ|dX|je|jf|fD|dY|dZ|fW|fX|cX|cL|d7|iM|aap|iz|iR=>as_aux_lemma=>k_is
