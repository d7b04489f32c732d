import PyProof.Rows.All
import Wide.All
import OpenK.AllK
import Wide.FinOn
import Lean
import PyProof.EqAt
import PyProof.EqKinds
import PyProof.TupleCall
import PySem.Challenge.RW_formcycle_k73_whole_roads_meet
set_option Elab.async false
set_option linter.all false
set_option maxRecDepth 100000
set_option maxRecDepth 1000000
set_option maxHeartbeats 0
theorem My.said0:PySem.Challenge.rw_formcycle_k73_whole_roads_meet.wellSaid=true:=by kernel_rfl
namespace My
open PySem PySem.W
noncomputable def Wi (tb:String→Option Builtin) (p:Program) (w:World) (m:Nat) (ann:Option Value):Nat→SharedT→Thread→Option SharedT
 | 0,_,_=>none
 | k+1,s,t=>match through t with
  | true=>some s
  | false=>match stepOk m ann t with
   | false=>none
   | true=>match stepT (denote tb) p w s t with
    | some (s',t')=>Wi tb p w m ann k s' t'
    | none=>none
theorem Tv {tb:String→Option Builtin} {p:Program} {w:World} {m:Nat} {ann:Option Value}:∀ (k:Nat) {s r:SharedT} {t:Thread},Wi tb p w m ann k s t=some r→topRun tb p w m ann k s.abs t=some r.abs
 | 0,s,r,t,h=>by cases h
 | k+1,s,r,t,h=>by
  unfold Wi at h
  unfold topRun
  cases e:through t with
  | true =>
   rw [e] at h
   cases h
   rfl
  | false =>
   rw [e] at h
   dsimp only at h ⊢
   cases e2:stepOk m ann t with
   | false=>rw [e2] at h;cases h
   | true =>
    rw [e2] at h
    dsimp only at h ⊢
    cases e3:stepT (denote tb) p w s t with
    | none=>rw [e3] at h;cases h
    | some st =>
     obtain ⟨s',t'⟩:=st
     rw [e3] at h
     rw [stepT_spec e3]
     exact Tv k h
noncomputable def Afl:List Obj→Nat→BT→BT
 | [],_,t=>t
 | o :: os,n,t=>Afl os (n+1) (t.ins n o)
noncomputable def R5 (w:World) (os:OsState):SharedT:=⟨Afl (boot_heap w.params).objs.toList 0 .nil,(boot_heap w.params).objs.size,(boot_heap w.params).life,Array.mk [],boot_drawn,boot_toks,os⟩
noncomputable def Bw (w:World) (os:OsState):Shared:=⟨boot_heap w.params,Array.mk [],boot_drawn,boot_toks,os⟩
noncomputable def stays (p:Program) (s₀ s₁:Shared):Bool:=staticsOk (importedModules p.main.body) s₀.heap s₁.heap && namesBound p s₁.heap && gensDone s₁ && laidKept s₀.heap s₁.heap
theorem boot_abs:∀ w os,(R5 w os).abs=Bw w os:=fun w os=>by kernel_rfl
theorem Aeu {p:Program} {w:World} {N:Nat} {α:Type} {F:Shared→α} {g:α} (e:opening p=plainProg p.main.scope.names) (hN:Nat.ble 600 N=true) (f:∀ s,fenceModules? p s=some s)
  (h:∀ os,(Wi treeTable p w (Bw w os).heap.objs.size ((Bw w os).heap.nsMap mainGlobals "__annotations__") N (R5 w os) (topStub p)).map (fun r=>(stays p (Bw w os) r.abs,F r.abs))=some (true,g))
  (h0:∀ os,((Bw w os).heap.isNs mainGlobals && (Bw w os).gens.size == 0)=true):(openEnds treeTable p w N).map F=some g:=by
 have hb:=boot_open e hN f w
 unfold openEnds
 cases q:fencedOpening treeTable p w N with
 | none=>rw [q] at hb;cases hb
 | some s =>
  rw [q] at hb
  have hs:s=Bw w s.os:=by
   obtain ⟨a,b,c,d,o⟩:=s
   simp only [Option.map_some,Option.some.injEq,Prod.mk.injEq] at hb
   obtain ⟨rfl,rfl,rfl,rfl⟩:=hb
   rfl
  generalize s.os=o at hs
  subst hs
  show (topFrom treeTable p w N (Bw w o)).map F=some g
  unfold topFrom
  rw [h0 o]
  have hh:=h o
  cases q2:Wi treeTable p w (Bw w o).heap.objs.size ((Bw w o).heap.nsMap mainGlobals "__annotations__") N (R5 w o) (topStub p) with
  | none=>rw [q2] at hh;cases hh
  | some r =>
   rw [q2] at hh
   have hr:=Tv N q2
   rw [boot_abs] at hr
   simp only [Option.map_some,Option.some.injEq,Prod.mk.injEq] at hh
   obtain ⟨h1,h2⟩:=hh
   unfold stays at h1
   dsimp only
   rw [hr]
   show (match staticsOk (importedModules p.main.body) (Bw w o).heap r.abs.heap && namesBound p r.abs.heap && gensDone r.abs && laidKept (Bw w o).heap r.abs.heap with
    | true=>some r.abs
    | false=>none).map F=some g
   rw [h1]
   exact congrArg some h2
noncomputable def TR (p:Program) (w:World) (os:OsState) (N:Nat):Option SharedT:=Wi treeTable p w (Bw w os).heap.objs.size ((Bw w os).heap.nsMap mainGlobals "__annotations__") N (R5 w os) (topStub p)
theorem AjU {p:Program} {w:World} {N:Nat} {α β:Type} {F:Shared→α} {G:Shared→β} {f':α} {g':β} (e:opening p=plainProg p.main.scope.names) (hN:Nat.ble 600 N=true) (f:∀ s,fenceModules? p s=some s)
  (h1:∀ os,(TR p w os N).map (fun r=>stays p (Bw w os) r.abs)=some true) (h2:∀ os,(TR p w os N).map (fun r=>F r.abs)=some f') (h3:∀ os,(TR p w os N).map (fun r=>G r.abs)=some g')
  (h0:∀ os,((Bw w os).heap.isNs mainGlobals && (Bw w os).gens.size == 0)=true):(openEnds treeTable p w N).map (fun s=>(F s,G s))=some (f',g') :=
 Aeu (F:=fun s=>(F s,G s)) e hN f (fun os=>by
  have a:=h1 os
  have b:=h2 os
  have c:=h3 os
  unfold TR at a b c
  revert a b c
  generalize Wi treeTable p w (Bw w os).heap.objs.size ((Bw w os).heap.nsMap mainGlobals "__annotations__") N (R5 w os) (topStub p)=o
  intro a b c
  cases o with
  | none=>cases a
  | some r =>
   simp only [Option.map_some,Option.some.injEq] at a b c ⊢
   rw [a,b,c]) h0
end My
namespace My
open PySem PySem.W
noncomputable def goT (tb:String→Option Builtin) (p:Program) (w:World) (m:Nat) (ann:Option Value):Nat→SharedT→Thread→Option (SharedT × Thread)
 | 0,s,t=>some (s,t)
 | k+1,s,t=>match through t with
  | true=>none
  | false=>match stepOk m ann t with
   | false=>none
   | true=>match stepT (denote tb) p w s t with
    | some (s',t')=>goT tb p w m ann k s' t'
    | none=>none
theorem AcG {tb:String→Option Builtin} {p:Program} {w:World} {m:Nat} {ann:Option Value}:∀ (k:Nat) {s s':SharedT} {t t':Thread},goT tb p w m ann k s t=some (s',t')→topGo tb p w m ann k s.abs t=some (s'.abs,t')
 | 0,s,s',t,t',h=>by cases h;rfl
 | k+1,s,s',t,t',h=>by
  unfold goT at h
  unfold topGo
  cases e:through t with
  | true=>rw [e] at h;cases h
  | false =>
   rw [e] at h
   dsimp only at h ⊢
   cases e2:stepOk m ann t with
   | false=>rw [e2] at h;cases h
   | true =>
    rw [e2] at h
    dsimp only at h ⊢
    cases e3:stepT (denote tb) p w s t with
    | none=>rw [e3] at h;cases h
    | some st =>
     obtain ⟨s2,t2⟩:=st
     rw [e3] at h
     rw [stepT_spec e3]
     exact AcG k h
theorem Abp {p:Program} {w:World} {N:Nat} {α:Type} {F:Shared→α} {g:α} (e:opening p=plainProg p.main.scope.names) (hN:Nat.ble 600 N=true) (f:∀ s,fenceModules? p s=some s)
  (h:∀ os,∃ r:Shared,topRun treeTable p w (Bw w os).heap.objs.size ((Bw w os).heap.nsMap mainGlobals "__annotations__") N (Bw w os) (topStub p)=some r∧stays p (Bw w os) r=true∧F r=g)
  (h0:∀ os,((Bw w os).heap.isNs mainGlobals && (Bw w os).gens.size == 0)=true):(openEnds treeTable p w N).map F=some g:=by
 have hb:=boot_open e hN f w
 unfold openEnds
 cases q:fencedOpening treeTable p w N with
 | none=>rw [q] at hb;cases hb
 | some s =>
  rw [q] at hb
  have hs:s=Bw w s.os:=by
   obtain ⟨a,b,c,d,o⟩:=s
   simp only [Option.map_some,Option.some.injEq,Prod.mk.injEq] at hb
   obtain ⟨rfl,rfl,rfl,rfl⟩:=hb
   rfl
  generalize s.os=o at hs
  subst hs
  show (topFrom treeTable p w N (Bw w o)).map F=some g
  unfold topFrom
  rw [h0 o]
  obtain ⟨r,hr,h1,h2⟩:=h o
  unfold stays at h1
  dsimp only
  rw [hr]
  show (match staticsOk (importedModules p.main.body) (Bw w o).heap r.heap && namesBound p r.heap && gensDone r && laidKept (Bw w o).heap r.heap with
   | true=>some r
   | false=>none).map F=some g
  rw [h1]
  exact congrArg some h2
theorem Acp {p:Program} {w:World} {N:Nat} {α β:Type} {F:Shared→α} {G:Shared→β} {f':α} {g':β} {TL:OsState→Option SharedT} (e:opening p=plainProg p.main.scope.names) (hN:Nat.ble 600 N=true) (f:∀ s,fenceModules? p s=some s)
  (hr:∀ os r,TL os=some r→topRun treeTable p w (Bw w os).heap.objs.size ((Bw w os).heap.nsMap mainGlobals "__annotations__") N (Bw w os) (topStub p)=some r.abs)
  (h1:∀ os,(TL os).map (fun r=>stays p (Bw w os) r.abs)=some true) (h2:∀ os,(TL os).map (fun r=>F r.abs)=some f') (h3:∀ os,(TL os).map (fun r=>G r.abs)=some g')
  (h0:∀ os,((Bw w os).heap.isNs mainGlobals && (Bw w os).gens.size == 0)=true):(openEnds treeTable p w N).map (fun s=>(F s,G s))=some (f',g') :=
 Abp (F:=fun s=>(F s,G s)) e hN f (fun os=>by
  have a:=h1 os
  have b:=h2 os
  have c:=h3 os
  have d:=hr os
  cases q:TL os with
  | none=>rw [q] at a;cases a
  | some r =>
   rw [q] at a b c
   simp only [Option.map_some,Option.some.injEq] at a b c
   exact ⟨_,d r q,a,by rw [b,c]⟩) h0
end My
set_option maxRecDepth 1000000
set_option maxHeartbeats 0
namespace My
open PySem PySem.W
noncomputable def tp (i:Nat):Stmt:=PySem.Challenge.pw_formcycle_k73_whole_roads_meet.main.body.getD i (.Pass ⟨0,0,0,0⟩)
noncomputable def fA (s:Stmt):Arguments:=match s with
 | .FunctionDef _ a _ _ _ _ _ _ _ _=>a
 | _=>⟨[],[],none,[],[],none,[]⟩
noncomputable def fB (s:Stmt):List Stmt:=match s with
 | .FunctionDef _ _ b _ _ _ _ _ _ _=>b
 | _=>[]
noncomputable def fS (s:Stmt):Scope:=match s with
 | .FunctionDef _ _ _ _ _ _ c _ _ _=>c
 | _=>⟨.function,[],false,false,[]⟩
noncomputable def inC (s:Stmt) (j:Nat):Stmt:=match s with
 | .ClassDef _ _ _ b _ _ _ _ _ _ _=>b.getD j (.Pass ⟨0,0,0,0⟩)
 | _=>.Pass ⟨0,0,0,0⟩
noncomputable section
noncomputable abbrev O:=Obj
noncomputable abbrev sT (s:String) (t:Nat):Value:=.str (.ofString s) t
noncomputable abbrev iZ (n:Int):Value:=.int n 0
noncomputable abbrev dE (P:Params) (s:String) (t:Nat) (v:Value):DictEntry:=.mk (PyData.keyHash P (.ofString s)) (.str (.ofString s) t) v
noncomputable abbrev fO (n q:String) (w:Stmt) (m:String) (t c:Nat):Obj:=.mk (.type "function") none (Data.func (FuncData.mk (.ofString n) (.ofString q) (fA w) (.stmts (fB w)) (fS w) 3 [] .none .none .none (.str (.ofString m) t) none (.ref c) .none 0)) #[]
noncomputable abbrev tO (a:Array Value):Obj:=.mk (.type "tuple") none (Data.seq a) #[]
noncomputable abbrev cO (a:Array Value):Obj:=.mk (.type "code") none (Data.fields a) #[]
noncomputable abbrev nO (a:Array Value):Obj:=.mk .none none (Data.fields a) #[]
noncomputable abbrev mO (a:Array DictEntry):Obj:=.mk (.type "dict") none (Data.dict a) #[]
noncomputable abbrev bO (a:Array Value):Obj:=.mk (.type "builtin_function_or_method") none (Data.fields a) #[]
noncomputable abbrev Lf (o:Obj):BT:=.node o .nil .nil
noncomputable abbrev Nd (o:Obj) (l r:BT):BT:=.node o l r
noncomputable abbrev sF (t:Nat):Value:=.str (.ofString "/claim/cut.py") t
noncomputable def tE:Obj:=.mk (.type "tuple") none (Data.seq #[]) #[]
noncomputable abbrev cF (n q:String) (a l k r t:Nat):Obj:=.mk (.type "code") none (Data.fields #[.str (.ofString n) a,.str (.ofString q) (a+1),.str (.ofString "/claim/cut.py") (a+2),.int l 0,.int k 0,.int 0 0,.int 0 0,.int 3 0,.ref r,.bool true,.int 181 0,.ref (r+1),.none,.ref (r+2),.ref (r+3),.ref (r+4),.int t 0,.int l 0,.str (.ofString "/claim/cut.py") (t+1)]) #[]
noncomputable abbrev pO (n q:String) (w:Stmt) (c:Nat):Obj:=.mk .none none (Data.func (FuncData.mk (.ofString n) (.ofString q) (fA w) (.stmts (fB w)) (fS w) 3 [] .none .none .none .none none (.ref c) .none 0)) #[]
noncomputable abbrev rO (c l:Nat) (m:String) (t:Nat):Obj:=.mk (.type "frame") none Data.plain #[some (.ref c),some (.ref 3),some (.ref l),none,some (.str (.ofString m) t),none,some (.ref 0)]
noncomputable abbrev sO (c:Nat):Obj:=.mk (.type "super") none (Data.fields #[.ref c,.ref c,.ref c]) #[]
noncomputable abbrev dO (a:Array DictEntry) (n:Nat):Obj:=.mk (.type "dict") none (Data.dict a n) #[]
noncomputable abbrev xO (n:String) (b c d e t u:Nat):Obj:=.mk (.type "type") none (Data.cls (ClassData.mk (.ofString n) [.ref b] [.ref c,.ref b,.type "ValueError",.type "Exception",.type "BaseException",.type "object"] d (.ofString n) true [] [] false none false)) #[some (.ref e),none,some (.str (.ofString n) t),some (.str (.ofString n) u),some (.builtin "ValueError.__new__"),some (.bool true)]
noncomputable def o2:O:=.mk .none none (Data.dict #[]) #[]
noncomputable def o3 (P:Params):O:=dO #[dE P "__name__" 165 (sT "law_formcycle_k73_whole_roads_meet" 955),dE P "__doc__" 166 .none,dE P "__package__" 167 .none,dE P "__loader__" 168 (.builtin "__main__.__loader__#opaque"),dE P "__spec__" 169 .none,dE P "__annotations__" 170 (.ref 6),dE P "__builtins__" 171 (.ref 4),dE P "__file__" 173 (sF 172),dE P "__cached__" 174 .none,dE P "_wall" 193 (.ref 21),dE P "FormError" 213 (.ref 31),dE P "NoTurn" 238 (.ref 51),dE P "NoShape" 263 (.ref 70),dE P "TooGreat" 290 (.ref 89),dE P "NoRoot" 315 (.ref 108),dE P "Nought" 331 (.ref 120),dE P "NoAnswer" 356 (.ref 139),dE P "divisor" 367 (.ref 148),dE P "shares" 378 (.ref 155),dE P "row_less" 387 (.ref 162),dE P "root" 396 (.ref 169),dE P "is_square" 404 (.ref 176),dE P "check_at_most" 412 (.ref 183),dE P "check_within" 420 (.ref 190),dE P "MOST_NUMBER_chains" 424 (.int 1000 423),dE P "MOST_PLACE" 426 (.int 300 425),dE P "check_number" 433 (.ref 197),dE P "chain" 442 (.ref 204),dE P "row_behind" 453 (.ref 211),dE P "part_of" 461 (.ref 218),dE P "fraction" 470 (.ref 225),dE P "fraction_of" 480 (.ref 232),dE P "first_pair" 487 (.ref 239),dE P "pair_behind" 497 (.ref 246),dE P "plus_one" 505 (.ref 253),dE P "minus_one" 513 (.ref 260),dE P "point_of_round" 520 (.ref 267),dE P "square_less" 528 (.ref 274),dE P "SAME" 535 (.ref 275),dE P "is_turn" 542 (.ref 282),dE P "check_turn" 549 (.ref 289),dE P "put_behind" 557 (.ref 296),dE P "back" 564 (.ref 303),dE P "measure" 573 (.ref 310),dE P "value" 583 (.ref 317),dE P "content" 590 (.ref 324),dE P "moved" 600 (.ref 331),dE P "middle" 610 (.ref 338),dE P "shape" 618 (.ref 345),dE P "check_bowl" 627 (.ref 352),dE P "stands_least" 637 (.ref 359),dE P "settled" 646 (.ref 366),dE P "turn_lower" 654 (.ref 373),dE P "MOST_MEASURE" 658 (.int 4000 657),dE P "check_saddle" 665 (.ref 380),dE P "stands_level" 674 (.ref 387),dE P "turn_behind" 685 (.ref 394),dE P "stop_behind" 694 (.ref 401),dE P "eased" 703 (.ref 408),dE P "stops_round" 714 (.ref 415),dE P "lowered" 721 (.ref 422),dE P "step_of" 733 (.ref 429),dE P "step_pair" 743 (.ref 436),dE P "Shape" 800 (.ref 474),dE P "Bowl" 824 (.ref 495),dE P "Saddle" 848 (.ref 514),dE P "shape_of" 855 (.ref 523),dE P "way_between" 863 (.ref 530),dE P "MOST_NUMBER_answers" 867 (.int 400 866),dE P "heads" 873 (.ref 535),dE P "families" 886 (.ref 542),dE P "roots_of_square_divisors" 892 (.ref 547),dE P "feet" 898 (.ref 552),dE P "whence" 904 (.ref 557),dE P "turn_to_foot" 918 (.ref 564),dE P "nearest" 930 (.ref 571),dE P "last_pair_within" 941 (.ref 578),dE P "nearer" 954 (.ref 585),dE P "_law_cell" 964 (.ref 592),dE P "_law_whole" 971 (.ref 599),dE P "_law_wholes" 977 (.ref 604),dE P "_law_root" 985 (.ref 611),dE P "_law_led" 993 (.ref 618),dE P "_law_put" 1009 (.ref 625),dE P "_law_number" 1017 (.ref 632),dE P "_law_many" 1027 (.ref 639),dE P "_law_minus" 1041 (.ref 646),dE P "_law_whence" 1057 (.ref 653),dE P "law" 1063 (.ref 658)] 89
noncomputable def o17:O:=tO #[sT "k" 190]
noncomputable def o20:O:=cF "_wall" "_wall" 187 1 1 15 191
noncomputable def o21:O:=fO "_wall" "_wall" (tp 0) "__main__" 164 20
noncomputable def o22:O:=tO #[.type "ValueError"]
noncomputable def o30 (P:Params):O:=dO #[dE P "__module__" 203 (sT "formcycle.errors" 194),dE P "__firstlineno__" 207 (.int 5 206),dE P "__static_attributes__" 208 (.ref 29),dE P "__weakref__" 210 (.ref 32),dE P "__doc__" 211 .none] 3
noncomputable def o31:O:=.mk (.type "type") none (Data.cls (ClassData.mk (.ofString "FormError") [.type "ValueError"] [.ref 31,.type "ValueError",.type "Exception",.type "BaseException",.type "object"] 30 (.ofString "FormError") Bool.true [] [.ref 51,.ref 70,.ref 89,.ref 108,.ref 120,.ref 139] Bool.false none Bool.false)) #[some (.ref 22),none,some (sT "FormError" 196),some (sT "FormError" 204),some (.builtin "ValueError.__new__"),some (.bool true)]
noncomputable def o32:O:=.mk (.type "getset_descriptor") none (Data.fields #[sT "__weakref__" 209,.ref 31,.builtin "ExceptionGroup.__weakref__",.none]) #[]
noncomputable def o35:O:=tO #[.ref 31]
noncomputable def o44:O:=tO #[sT "self" 229,sT "turn" 230]
noncomputable def o47:O:=cF "__init__" "NoTurn.__init__" 226 9 2 42 231
noncomputable def o48:O:=fO "__init__" "NoTurn.__init__" (inC (tp 3) 0) "formcycle.errors" 194 47
noncomputable def o49:O:=tO #[sT "turn" 234]
noncomputable def o50 (P:Params):O:=dO #[dE P "__module__" 221 (sT "formcycle.errors" 194),dE P "__firstlineno__" 225 (.int 7 224),dE P "__init__" 233 (.ref 48),dE P "__static_attributes__" 235 (.ref 49),dE P "__doc__" 236 .none] 2
noncomputable def o51:O:=xO "NoTurn" 31 51 50 35 214 222
noncomputable def o54:O:=tO #[.ref 31]
noncomputable def o63:O:=tO #[sT "self" 254,sT "form" 255]
noncomputable def o66:O:=cF "__init__" "NoShape.__init__" 251 13 2 61 256
noncomputable def o67:O:=fO "__init__" "NoShape.__init__" (inC (tp 4) 0) "formcycle.errors" 194 66
noncomputable def o68:O:=tO #[sT "form" 259]
noncomputable def o69 (P:Params):O:=dO #[dE P "__module__" 246 (sT "formcycle.errors" 194),dE P "__firstlineno__" 250 (.int 11 249),dE P "__init__" 258 (.ref 67),dE P "__static_attributes__" 260 (.ref 68),dE P "__doc__" 261 .none] 2
noncomputable def o70:O:=xO "NoShape" 31 70 69 54 239 247
noncomputable def o73:O:=tO #[.ref 31]
noncomputable def o82:O:=tO #[sT "self" 279,sT "number" 280,sT "most" 281]
noncomputable def o85:O:=cF "__init__" "TooGreat.__init__" 276 17 3 80 282
noncomputable def o86:O:=fO "__init__" "TooGreat.__init__" (inC (tp 5) 0) "formcycle.errors" 194 85
noncomputable def o87:O:=tO #[sT "most" 285,sT "number" 286]
noncomputable def o88 (P:Params):O:=dO #[dE P "__module__" 271 (sT "formcycle.errors" 194),dE P "__firstlineno__" 275 (.int 15 274),dE P "__init__" 284 (.ref 86),dE P "__static_attributes__" 287 (.ref 87),dE P "__doc__" 288 .none] 2
noncomputable def o89:O:=xO "TooGreat" 31 89 88 73 264 272
noncomputable def o92:O:=tO #[.ref 31]
noncomputable def AhA:O:=tO #[sT "self" 306,sT "number" 307]
noncomputable def Ahr:O:=cF "__init__" "NoRoot.__init__" 303 22 2 99 308
noncomputable def AgL:O:=fO "__init__" "NoRoot.__init__" (inC (tp 6) 0) "formcycle.errors" 194 104
noncomputable def Ag1:O:=tO #[sT "number" 311]
noncomputable def Agy (P:Params):O:=dO #[dE P "__module__" 298 (sT "formcycle.errors" 194),dE P "__firstlineno__" 302 (.int 20 301),dE P "__init__" 310 (.ref 105),dE P "__static_attributes__" 312 (.ref 106),dE P "__doc__" 313 .none] 2
noncomputable def Ahi:O:=xO "NoRoot" 31 108 107 92 291 299
noncomputable def o111:O:=tO #[.ref 31]
noncomputable def Ahl (P:Params):O:=dO #[dE P "__module__" 323 (sT "formcycle.errors" 194),dE P "__firstlineno__" 327 (.int 24 326),dE P "__static_attributes__" 328 (.ref 118),dE P "__doc__" 329 .none] 2
noncomputable def Agx:O:=xO "Nought" 31 120 119 111 316 324
noncomputable def Ahd:O:=tO #[.ref 31]
noncomputable def AhC:O:=tO #[sT "self" 347,sT "point" 348]
noncomputable def Agq:O:=cF "__init__" "NoAnswer.__init__" 344 28 2 130 349
noncomputable def Ahv:O:=fO "__init__" "NoAnswer.__init__" (inC (tp 8) 0) "formcycle.errors" 194 135
noncomputable def AhI:O:=tO #[sT "point" 352]
noncomputable def AgC (P:Params):O:=dO #[dE P "__module__" 339 (sT "formcycle.errors" 194),dE P "__firstlineno__" 343 (.int 26 342),dE P "__init__" 351 (.ref 136),dE P "__static_attributes__" 353 (.ref 137),dE P "__doc__" 354 .none] 2
noncomputable def Agb:O:=xO "NoAnswer" 31 139 138 123 332 340
noncomputable def Aj0:O:=tO #[sT "one" 362,sT "other" 363,sT "rest" 364]
noncomputable def Aj8:O:=cF "divisor" "divisor" 359 31 2 142 365
noncomputable def AkV:O:=fO "divisor" "divisor" (tp 10) "formcycle.wholes" 357 147
noncomputable def AjP:O:=tO #[sT "one" 371,sT "other" 372,sT "row" 373,sT "lower" 374,sT "rest" 375]
noncomputable def AkR:O:=cF "shares" "shares" 368 37 2 149 376
noncomputable def Akz:O:=fO "shares" "shares" (tp 11) "formcycle.wholes" 357 154
noncomputable def Aj5:O:=tO #[sT "row" 382,sT "lower" 383,sT "often" 384]
noncomputable def Aid:O:=cF "row_less" "row_less" 379 47 3 156 385
noncomputable def Aly:O:=fO "row_less" "row_less" (tp 12) "formcycle.wholes" 357 161
noncomputable def Al5:O:=tO #[sT "number" 391,sT "guess" 392,sT "better" 393]
noncomputable def Aii:O:=cF "root" "root" 388 49 1 163 394
noncomputable def Ajy:O:=fO "root" "root" (tp 13) "formcycle.wholes" 357 168
noncomputable def AlX:O:=tO #[sT "number" 400,sT "side" 401]
noncomputable def Amc:O:=cF "is_square" "is_square" 397 60 1 170 402
noncomputable def AiX:O:=fO "is_square" "is_square" (tp 14) "formcycle.wholes" 357 175
noncomputable def Ald:O:=tO #[sT "number" 408,sT "most" 409]
noncomputable def AlZ:O:=cF "check_at_most" "check_at_most" 405 65 2 177 410
noncomputable def AkB:O:=fO "check_at_most" "check_at_most" (tp 15) "formcycle.wholes" 357 182
noncomputable def AkX:O:=tO #[sT "number" 416,sT "most" 417]
noncomputable def AjW:O:=cF "check_within" "check_within" 413 68 2 184 418
noncomputable def AjA:O:=fO "check_within" "check_within" (tp 16) "formcycle.wholes" 357 189
noncomputable def AjL:O:=tO #[sT "number" 430]
noncomputable def AiR:O:=cF "check_number" "check_number" 427 74 1 191 431
noncomputable def Akj:O:=fO "check_number" "check_number" (tp 20) "formcycle.chains" 421 196
noncomputable def o200:O:=tO #[sT "number" 437,sT "far" 438,sT "rows" 439]
noncomputable def AkW:O:=cF "chain" "chain" 434 78 1 198 440
noncomputable def AiZ:O:=fO "chain" "chain" (tp 21) "formcycle.chains" 421 203
noncomputable def Akv:O:=tO #[sT "row" 446,sT "number" 447,sT "far" 448,sT "p" 449,sT "q" 450]
noncomputable def Ak7:O:=cF "row_behind" "row_behind" 443 86 3 205 451
noncomputable def AkN:O:=fO "row_behind" "row_behind" (tp 22) "formcycle.chains" 421 210
noncomputable def AiV:O:=tO #[sT "rows" 457,sT "k" 458]
noncomputable def Aki:O:=cF "part_of" "part_of" 454 90 2 212 459
noncomputable def Aie:O:=fO "part_of" "part_of" (tp 23) "formcycle.chains" 421 217
noncomputable def Ai4:O:=tO #[sT "number" 465,sT "k" 466,sT "rows" 467]
noncomputable def AiK:O:=cF "fraction" "fraction" 462 94 2 219 468
noncomputable def Aj3:O:=fO "fraction" "fraction" (tp 24) "formcycle.chains" 421 224
noncomputable def Ah7:O:=tO #[sT "rows" 474,sT "k" 475,sT "pair" 476,sT "place" 477]
noncomputable def Alv:O:=cF "fraction_of" "fraction_of" 471 98 2 226 478
noncomputable def AlO:O:=fO "fraction_of" "fraction_of" (tp 25) "formcycle.chains" 421 231
noncomputable def Aj9:O:=tO #[sT "rows" 484]
noncomputable def Ajk:O:=cF "first_pair" "first_pair" 481 103 1 233 485
noncomputable def Ak9:O:=fO "first_pair" "first_pair" (tp 26) "formcycle.chains" 421 238
noncomputable def AjI:O:=tO #[sT "pair" 491,sT "often" 492,sT "ahead" 493,sT "last" 494]
noncomputable def Ai2:O:=cF "pair_behind" "pair_behind" 488 105 2 240 495
noncomputable def Ajx:O:=fO "pair_behind" "pair_behind" (tp 27) "formcycle.chains" 421 245
noncomputable def Akg:O:=tO #[sT "number" 501,sT "point" 502]
noncomputable def Aia:O:=cF "plus_one" "plus_one" 498 109 1 247 503
noncomputable def Aic:O:=fO "plus_one" "plus_one" (tp 28) "formcycle.chains" 421 252
noncomputable def Ak1:O:=tO #[sT "number" 509,sT "point" 510]
noncomputable def Al9:O:=cF "minus_one" "minus_one" 506 114 1 254 511
noncomputable def Ak2:O:=fO "minus_one" "minus_one" (tp 29) "formcycle.chains" 421 259
noncomputable def Al4:O:=tO #[sT "rows" 517]
noncomputable def Aje:O:=cF "point_of_round" "point_of_round" 514 119 1 261 518
noncomputable def Ake:O:=fO "point_of_round" "point_of_round" (tp 30) "formcycle.chains" 421 266
noncomputable def AjB:O:=tO #[sT "number" 524,sT "point" 525]
noncomputable def Air:O:=cF "square_less" "square_less" 521 121 2 268 526
noncomputable def Ait:O:=fO "square_less" "square_less" (tp 31) "formcycle.chains" 421 273
noncomputable def Akd:O:=tO #[.int 1 531,.int 0 532,.int 0 533,.int 1 534]
noncomputable def AiB:O:=tO #[sT "turn" 539]
noncomputable def AlB:O:=cF "is_turn" "is_turn" 536 125 1 276 540
noncomputable def AkG:O:=fO "is_turn" "is_turn" (tp 34) "formcycle.turns" 529 281
noncomputable def AlD:O:=tO #[sT "turn" 546]
noncomputable def Akn:O:=cF "check_turn" "check_turn" 543 127 1 283 547
noncomputable def AiJ:O:=fO "check_turn" "check_turn" (tp 35) "formcycle.turns" 529 288
noncomputable def AiI:O:=tO #[sT "one" 553,sT "other" 554]
noncomputable def Al1:O:=cF "put_behind" "put_behind" 550 130 2 290 555
noncomputable def Ai0:O:=fO "put_behind" "put_behind" (tp 36) "formcycle.turns" 529 295
noncomputable def Ajr:O:=tO #[sT "turn" 561]
noncomputable def Aip:O:=cF "back" "back" 558 132 1 297 562
noncomputable def Ajg:O:=fO "back" "back" (tp 37) "formcycle.turns" 529 302
noncomputable def AkI:O:=tO #[sT "form" 570]
noncomputable def AkK:O:=cF "measure" "measure" 567 136 1 304 571
noncomputable def Ak0:O:=fO "measure" "measure" (tp 39) "formcycle.forms" 565 309
noncomputable def Alu:O:=tO #[sT "form" 577,sT "point" 578,sT "x" 579,sT "y" 580]
noncomputable def Aky:O:=cF "value" "value" 574 138 2 311 581
noncomputable def Al2:O:=fO "value" "value" (tp 40) "formcycle.forms" 565 316
noncomputable def AlS:O:=tO #[sT "form" 587]
noncomputable def Aj1:O:=cF "content" "content" 584 142 1 318 588
noncomputable def Alp:O:=fO "content" "content" (tp 41) "formcycle.forms" 565 323
noncomputable def Ai1:O:=tO #[sT "form" 594,sT "turn" 595,sT "left" 596,sT "right" 597]
noncomputable def AkT:O:=cF "moved" "moved" 591 144 2 325 598
noncomputable def AlP:O:=fO "moved" "moved" (tp 42) "formcycle.forms" 565 330
noncomputable def AjO:O:=tO #[sT "form" 604,sT "left" 605,sT "right" 606,sT "crossed" 607]
noncomputable def Al7:O:=cF "middle" "middle" 601 149 3 332 608
noncomputable def AjN:O:=fO "middle" "middle" (tp 43) "formcycle.forms" 565 337
noncomputable def Ai5:O:=tO #[sT "form" 614,sT "number" 615]
noncomputable def AlR:O:=cF "shape" "shape" 611 152 1 339 616
noncomputable def Ak4:O:=fO "shape" "shape" (tp 44) "formcycle.forms" 565 344
noncomputable def Ajl:O:=tO #[sT "form" 624]
noncomputable def Ajh:O:=cF "check_bowl" "check_bowl" 621 162 1 346 625
noncomputable def Alz:O:=fO "check_bowl" "check_bowl" (tp 46) "formcycle.bowls" 619 351
noncomputable def Akr:O:=tO #[sT "form" 631,sT "a" 632,sT "b" 633,sT "c" 634]
noncomputable def Ai7:O:=cF "stands_least" "stands_least" 628 165 1 353 635
noncomputable def Ah5:O:=fO "stands_least" "stands_least" (tp 47) "formcycle.bowls" 619 358
noncomputable def AiC:O:=tO #[sT "form" 641,sT "turn" 642,sT "lowering" 643]
noncomputable def Aln:O:=cF "settled" "settled" 638 172 1 360 644
noncomputable def Akw:O:=fO "settled" "settled" (tp 48) "formcycle.bowls" 619 365
noncomputable def AkF:O:=tO #[sT "form" 650,sT "often" 651]
noncomputable def Akf:O:=cF "turn_lower" "turn_lower" 647 180 1 367 652
noncomputable def Akq:O:=fO "turn_lower" "turn_lower" (tp 49) "formcycle.bowls" 619 372
noncomputable def Ajp:O:=tO #[sT "form" 662]
noncomputable def AiG:O:=cF "check_saddle" "check_saddle" 659 187 1 374 663
noncomputable def AlG:O:=fO "check_saddle" "check_saddle" (tp 52) "formcycle.saddles" 655 379
noncomputable def Alw:O:=tO #[sT "form" 669,sT "far" 670,sT "b" 671]
noncomputable def AkQ:O:=cF "stands_level" "stands_level" 666 191 2 381 672
noncomputable def AkL:O:=fO "stands_level" "stands_level" (tp 53) "formcycle.saddles" 655 386
noncomputable def AjZ:O:=tO #[sT "form" 678,sT "top" 679,sT "b" 680,sT "c" 681,sT "d" 682]
noncomputable def Ajs:O:=cF "turn_behind" "turn_behind" 675 194 2 388 683
noncomputable def AjH:O:=fO "turn_behind" "turn_behind" (tp 54) "formcycle.saddles" 655 393
noncomputable def AjV:O:=tO #[sT "stop" 689,sT "top" 690,sT "turn" 691]
noncomputable def o400:O:=cF "stop_behind" "stop_behind" 686 199 2 395 692
noncomputable def AjX:O:=fO "stop_behind" "stop_behind" (tp 55) "formcycle.saddles" 655 400
noncomputable def Aim:O:=tO #[sT "form" 698,sT "far" 699,sT "stop" 700]
noncomputable def Ajf:O:=cF "eased" "eased" 695 202 1 402 701
noncomputable def AlQ:O:=fO "eased" "eased" (tp 56) "formcycle.saddles" 655 407
noncomputable def Aiz:O:=tO #[sT "form" 707,sT "far" 708,sT "first" 709,sT "stops" 710,sT "stop" 711]
noncomputable def AlL:O:=cF "stops_round" "stops_round" 704 209 1 409 712
noncomputable def AjS:O:=fO "stops_round" "stops_round" (tp 57) "formcycle.saddles" 655 414
noncomputable def AjM:O:=tO #[sT "form" 718]
noncomputable def Ah9:O:=cF "lowered" "lowered" 715 219 1 416 719
noncomputable def AlE:O:=fO "lowered" "lowered" (tp 58) "formcycle.saddles" 655 421
noncomputable def AkD:O:=tO #[sT "form" 725,sT "common" 726,sT "plain" 727,sT "pair" 728,sT "t" 729,sT "u" 730]
noncomputable def Als:O:=cF "step_of" "step_of" 722 222 1 423 731
noncomputable def Aiq:O:=fO "step_of" "step_of" (tp 59) "formcycle.saddles" 655 428
noncomputable def AjC:O:=tO #[sT "form" 737,sT "plain_first" 738,sT "stops" 739,sT "once" 740]
noncomputable def Amb:O:=cF "step_pair" "step_pair" 734 230 2 430 741
noncomputable def AiA:O:=fO "step_pair" "step_pair" (tp 60) "formcycle.saddles" 655 435
noncomputable def AkZ:O:=tO #[sT "self" 761,sT "form" 762,sT "lowest" 763]
noncomputable def AjF:O:=cF "__init__" "Shape.__init__" 758 237 3 444 764
noncomputable def Aij:O:=fO "__init__" "Shape.__init__" (inC (tp 62) 0) "formcycle.shapes" 744 449
noncomputable def AkY:O:=tO #[sT "self" 770]
noncomputable def Alr:O:=cF "least" "Shape.least" 767 242 1 451 771
noncomputable def AjD:O:=fO "least" "Shape.least" (inC (tp 62) 1) "formcycle.shapes" 744 456
noncomputable def Ak3:O:=tO #[sT "self" 777,sT "turn" 778]
noncomputable def Alh:O:=cF "leaves" "Shape.leaves" 774 245 2 458 779
noncomputable def Ale:O:=fO "leaves" "Shape.leaves" (inC (tp 62) 2) "formcycle.shapes" 744 463
noncomputable def Ah8:O:=tO #[sT "self" 785,sT "other" 786]
noncomputable def AlA:O:=cF "way_to" "Shape.way_to" 782 248 2 465 787
noncomputable def Al0:O:=fO "way_to" "Shape.way_to" (inC (tp 62) 3) "formcycle.shapes" 744 470
noncomputable def Alo:O:=tO #[sT "form" 790,sT "lowest" 791,sT "measure" 792]
noncomputable def Aiw (P:Params):O:=dO #[dE P "__module__" 753 (sT "formcycle.shapes" 744),dE P "__firstlineno__" 757 (.int 235 756),dE P "__init__" 766 (.ref 450),dE P "least" 773 (.ref 457),dE P "leaves" 781 (.ref 464),dE P "way_to" 789 (.ref 471),dE P "__static_attributes__" 793 (.ref 472),dE P "__dict__" 795 (.ref 475),dE P "__weakref__" 797 (.ref 476),dE P "__doc__" 798 .none] 4
noncomputable def AnR:O:=.mk (.type "type") none (Data.cls (ClassData.mk (.ofString "Shape") [.type "object"] [.ref 474,.type "object"] 473 (.ofString "Shape") Bool.true [] [.ref 495,.ref 514] Bool.false none Bool.false)) #[none,none,some (sT "Shape" 746),some (sT "Shape" 754),some (.builtin "object.__new__"),some (.bool true)]
noncomputable def Ama:O:=.mk (.type "getset_descriptor") none (Data.fields #[sT "__dict__" 794,.ref 474,.builtin "function.__dict__",.builtin "function.__dict__#set"]) #[]
noncomputable def Ai3:O:=.mk (.type "getset_descriptor") none (Data.fields #[sT "__weakref__" 796,.ref 474,.builtin "ExceptionGroup.__weakref__",.none]) #[]
noncomputable def AnU:O:=tO #[.ref 474]
noncomputable def AmD:O:=tO #[sT "self" 816,sT "form" 817]
noncomputable def An7:O:=cF "__init__" "Bowl.__init__" 813 254 2 486 818
noncomputable def Amy:O:=fO "__init__" "Bowl.__init__" (inC (tp 63) 0) "formcycle.shapes" 744 491
noncomputable def Anf (P:Params):O:=dO #[dE P "__module__" 808 (sT "formcycle.shapes" 744),dE P "__firstlineno__" 812 (.int 252 811),dE P "__init__" 820 (.ref 492),dE P "__static_attributes__" 821 (.ref 493),dE P "__doc__" 822 .none] 2
noncomputable def Amd:O:=.mk (.type "type") none (Data.cls (ClassData.mk (.ofString "Bowl") [.ref 474] [.ref 495,.ref 474,.type "object"] 494 (.ofString "Bowl") Bool.true [] [] Bool.false none Bool.false)) #[some (.ref 479),none,some (sT "Bowl" 801),some (sT "Bowl" 809),some (.builtin "object.__new__"),some (.bool true)]
noncomputable def Anx:O:=tO #[.ref 474]
noncomputable def AmZ:O:=tO #[sT "self" 840,sT "form" 841]
noncomputable def Amh:O:=cF "__init__" "Saddle.__init__" 837 258 2 505 842
noncomputable def Ann:O:=fO "__init__" "Saddle.__init__" (inC (tp 64) 0) "formcycle.shapes" 744 510
noncomputable def AmV (P:Params):O:=dO #[dE P "__module__" 832 (sT "formcycle.shapes" 744),dE P "__firstlineno__" 836 (.int 256 835),dE P "__init__" 844 (.ref 511),dE P "__static_attributes__" 845 (.ref 512),dE P "__doc__" 846 .none] 2
noncomputable def Ane:O:=.mk (.type "type") none (Data.cls (ClassData.mk (.ofString "Saddle") [.ref 474] [.ref 514,.ref 474,.type "object"] 513 (.ofString "Saddle") Bool.true [] [] Bool.false none Bool.false)) #[some (.ref 498),none,some (sT "Saddle" 825),some (sT "Saddle" 833),some (.builtin "object.__new__"),some (.bool true)]
noncomputable def Amv:O:=tO #[sT "form" 852]
noncomputable def AnM:O:=cF "shape_of" "shape_of" 849 260 1 517 853
noncomputable def Amw:O:=fO "shape_of" "shape_of" (tp 65) "formcycle.shapes" 744 522
noncomputable def AmJ:O:=tO #[sT "one" 859,sT "other" 860]
noncomputable def An1:O:=cF "way_between" "way_between" 856 264 2 524 861
noncomputable def Amo:O:=fO "way_between" "way_between" (tp 66) "formcycle.shapes" 744 529
noncomputable def AmY:O:=cO #[sT "heads" 868,sT "heads" 869,sF 870,iZ 270,iZ 2,iZ 0,iZ 0,iZ 3,.ref 531,.bool true,iZ 181,.ref 532,.none,.none,.none,.ref 533,iZ 871,iZ 270,sF 872]
noncomputable def An0:O:=fO "heads" "heads" (tp 69) "formcycle.answers" 864 534
noncomputable def Anq:O:=tO #[sT "form" 877,sT "number" 878,sT "whole" 879,sT "found" 880,sT "g" 881,sT "foot" 882,sT "turn" 883]
noncomputable def AmU:O:=cF "families" "families" 874 272 2 536 884
noncomputable def AnF:O:=fO "families" "families" (tp 70) "formcycle.answers" 864 541
noncomputable def Anc:O:=cO #[sT "roots_of_square_divisors" 887,sT "roots_of_square_divisors" 888,sF 889,iZ 284,iZ 1,iZ 0,iZ 0,iZ 3,.ref 543,.bool true,iZ 181,.ref 544,.none,.none,.none,.ref 545,iZ 890,iZ 284,sF 891]
noncomputable def An3:O:=fO "roots_of_square_divisors" "roots_of_square_divisors" (tp 71) "formcycle.answers" 864 546
noncomputable def Amj:O:=cO #[sT "feet" 893,sT "feet" 894,sF 895,iZ 286,iZ 2,iZ 0,iZ 0,iZ 3,.ref 548,.bool true,iZ 181,.ref 549,.none,.none,.none,.ref 550,iZ 896,iZ 286,sF 897]
noncomputable def Amx:O:=fO "feet" "feet" (tp 72) "formcycle.answers" 864 551
noncomputable def AnL:O:=cO #[sT "whence" 899,sT "whence" 900,sF 901,iZ 289,iZ 3,iZ 0,iZ 0,iZ 3,.ref 553,.bool true,iZ 181,.ref 554,.none,.none,.none,.ref 555,iZ 902,iZ 289,sF 903]
noncomputable def AmN:O:=fO "whence" "whence" (tp 73) "formcycle.answers" 864 556
noncomputable def Am6:O:=tO #[sT "form" 908,sT "point" 909,sT "common" 910,sT "g" 911,sT "turn" 912,sT "stands" 913,sT "twice" 914,sT "often" 915]
noncomputable def Ams:O:=cF "turn_to_foot" "turn_to_foot" 905 296 2 558 916
noncomputable def Anb:O:=fO "turn_to_foot" "turn_to_foot" (tp 74) "formcycle.answers" 864 563
noncomputable def Ami:O:=tO #[sT "number" 924,sT "most" 925,sT "pair" 926,sT "often" 927]
noncomputable def Ant:O:=cF "nearest" "nearest" 921 305 2 565 928
noncomputable def Anw:O:=fO "nearest" "nearest" (tp 76) "formcycle.near" 919 570
noncomputable def AmI:O:=tO #[sT "rows" 934,sT "most" 935,sT "pair" 936,sT "place" 937,sT "further" 938]
noncomputable def AnE:O:=cF "last_pair_within" "last_pair_within" 931 309 2 572 939
noncomputable def Am3:O:=fO "last_pair_within" "last_pair_within" (tp 77) "formcycle.near" 919 577
noncomputable def AmF:O:=tO #[sT "number" 945,sT "one" 946,sT "other" 947,sT "left" 948,sT "right" 949,sT "whole" 950,sT "is_above_middle" 951]
noncomputable def Amz:O:=cF "nearer" "nearer" 942 318 3 579 952
noncomputable def AmX:O:=fO "nearer" "nearer" (tp 78) "formcycle.near" 919 584
noncomputable def Aob:O:=tO #[sT "_law_script" 960,sT "_law_k" 961]
noncomputable def AnX:O:=cF "_law_cell" "_law_cell" 957 327 2 586 962
noncomputable def An8:O:=fO "_law_cell" "_law_cell" (tp 80) "law_formcycle_k73_whole_roads_meet" 955 591
noncomputable def Amt:O:=tO #[sT "_law_found" 968]
noncomputable def AmE:O:=cF "_law_whole" "_law_whole" 965 331 1 593 969
noncomputable def Am0:O:=fO "_law_whole" "_law_whole" (tp 81) "law_formcycle_k73_whole_roads_meet" 955 598
noncomputable def Amg:O:=cO #[sT "_law_wholes" 972,sT "_law_wholes" 973,sF 974,iZ 333,iZ 2,iZ 0,iZ 0,iZ 3,.ref 600,.bool true,iZ 181,.ref 601,.none,.none,.none,.ref 602,iZ 975,iZ 333,sF 976]
noncomputable def AnP:O:=fO "_law_wholes" "_law_wholes" (tp 82) "law_formcycle_k73_whole_roads_meet" 955 603
noncomputable def AnK:O:=tO #[sT "_law_number_here" 981,sT "_law_near" 982]
noncomputable def AnT:O:=cF "_law_root" "_law_root" 978 337 1 605 983
noncomputable def Anm:O:=fO "_law_root" "_law_root" (tp 83) "law_formcycle_k73_whole_roads_meet" 955 610
noncomputable def An9:O:=tO #[sT "_law_turn" 989,sT "_law_point" 990]
noncomputable def Aml:O:=cF "_law_led" "_law_led" 986 342 2 612 991
noncomputable def AnJ:O:=fO "_law_led" "_law_led" (tp 84) "law_formcycle_k73_whole_roads_meet" 955 617
noncomputable def An5:O:=tO #[sT "_law_one" 997,sT "_law_other" 998,sT "_law_p" 999,sT "_law_q" 1000,sT "_law_r" 1001,sT "_law_s" 1002,sT "_law_t" 1003,sT "_law_u" 1004,sT "_law_v" 1005,sT "_law_w" 1006]
noncomputable def AmB:O:=cF "_law_put" "_law_put" 994 344 2 619 1007
noncomputable def An2:O:=fO "_law_put" "_law_put" (tp 85) "law_formcycle_k73_whole_roads_meet" 955 624
noncomputable def Ana:O:=tO #[sT "_law_cell_here" 1013,sT "_law_number_here" 1014]
noncomputable def AnV:O:=cF "_law_number" "_law_number" 1010 348 1 626 1015
noncomputable def AmA:O:=fO "_law_number" "_law_number" (tp 86) "law_formcycle_k73_whole_roads_meet" 955 631
noncomputable def Am5:O:=tO #[sT "_law_step" 1021,sT "_law_count" 1022,sT "_law_turn" 1023,sT "_law_k" 1024]
noncomputable def Ans:O:=cF "_law_many" "_law_many" 1018 353 2 633 1025
noncomputable def An4:O:=fO "_law_many" "_law_many" (tp 87) "law_formcycle_k73_whole_roads_meet" 955 638
noncomputable def Amq:O:=tO #[sT "_law_number_here" 1031,sT "_law_form" 1032,sT "_law_plus" 1033,sT "_law_many_here" 1034,sT "_law_minus_here" 1035,sT "_law_row" 1036,sT "_law_x" 1037,sT "_law_y" 1038]
noncomputable def An6:O:=cF "_law_minus" "_law_minus" 1028 360 4 640 1039
noncomputable def AnI:O:=fO "_law_minus" "_law_minus" (tp 88) "law_formcycle_k73_whole_roads_meet" 955 645
noncomputable def AnG:O:=tO #[sT "_law_form" 1045,sT "_law_point" 1046,sT "_law_other" 1047,sT "_law_one" 1048,sT "_law_two" 1049,sT "_law_p" 1050,sT "_law_q" 1051,sT "_law_r" 1052,sT "_law_s" 1053,sT "_law_head" 1054]
noncomputable def AnQ:O:=cF "_law_whence" "_law_whence" 1042 371 3 647 1055
noncomputable def AnD:O:=fO "_law_whence" "_law_whence" (tp 89) "law_formcycle_k73_whole_roads_meet" 955 652
noncomputable def Anu:O:=cO #[sT "law" 1058,sT "law" 1059,sF 1060,iZ 379,iZ 1,iZ 0,iZ 0,iZ 3,.ref 654,.bool true,iZ 181,.ref 655,.none,.none,.none,.ref 656,iZ 1061,iZ 379,sF 1062]
noncomputable def Ani:O:=fO "law" "law" (tp 90) "law_formcycle_k73_whole_roads_meet" 955 657
noncomputable def KK:Params→Frag :=
fun P=>(nat_lit 2,o2)::(nat_lit 3,o3 P)::(nat_lit 15,tE)::(nat_lit 17,o17)::(nat_lit 18,tE)::(nat_lit 20,o20)::(nat_lit 21,o21)::(nat_lit 22,o22)::(nat_lit 29,tE)::(nat_lit 30,o30 P)::(nat_lit 31,o31)::(nat_lit 32,o32)::(nat_lit 35,o35)::(nat_lit 42,tE)::(nat_lit 44,o44)::(nat_lit 45,tE)::(nat_lit 47,o47)::(nat_lit 48,o48)::(nat_lit 49,o49)::(nat_lit 50,o50 P)::(nat_lit 51,o51)::(nat_lit 54,o54)::(nat_lit 61,tE)::(nat_lit 63,o63)::(nat_lit 64,tE)::(nat_lit 66,o66)::(nat_lit 67,o67)::(nat_lit 68,o68)::(nat_lit 69,o69 P)::(nat_lit 70,o70)::(nat_lit 73,o73)::(nat_lit 80,tE)::(nat_lit 82,o82)::(nat_lit 83,tE)::(nat_lit 85,o85)::(nat_lit 86,o86)::(nat_lit 87,o87)::(nat_lit 88,o88 P)::(nat_lit 89,o89)::(nat_lit 92,o92)::(nat_lit 99,tE)::(nat_lit 101,AhA)::(nat_lit 102,tE)::(nat_lit 104,Ahr)::(nat_lit 105,AgL)::(nat_lit 106,Ag1)::(nat_lit 107,Agy P)::(nat_lit 108,Ahi)::(nat_lit 111,o111)::(nat_lit 118,tE)::(nat_lit 119,Ahl P)::(nat_lit 120,Agx)::(nat_lit 123,Ahd)::(nat_lit 130,tE)::(nat_lit 132,AhC)::(nat_lit 133,tE)::(nat_lit 135,Agq)::(nat_lit 136,Ahv)::(nat_lit 137,AhI)::(nat_lit 138,AgC P)::(nat_lit 139,Agb)::(nat_lit 142,tE)::(nat_lit 144,Aj0)::(nat_lit 145,tE)::(nat_lit 147,Aj8)::(nat_lit 148,AkV)::(nat_lit 149,tE)::(nat_lit 151,AjP)::(nat_lit 152,tE)::(nat_lit 154,AkR)::(nat_lit 155,Akz)::(nat_lit 156,tE)::(nat_lit 158,Aj5)::(nat_lit 159,tE)::(nat_lit 161,Aid)::(nat_lit 162,Aly)::(nat_lit 163,tE)::(nat_lit 165,Al5)::(nat_lit 166,tE)::(nat_lit 168,Aii)::(nat_lit 169,Ajy)::(nat_lit 170,tE)::(nat_lit 172,AlX)::(nat_lit 173,tE)::(nat_lit 175,Amc)::(nat_lit 176,AiX)::(nat_lit 177,tE)::(nat_lit 179,Ald)::(nat_lit 180,tE)::(nat_lit 182,AlZ)::(nat_lit 183,AkB)::(nat_lit 184,tE)::(nat_lit 186,AkX)::(nat_lit 187,tE)::(nat_lit 189,AjW)::(nat_lit 190,AjA)::(nat_lit 191,tE)::(nat_lit 193,AjL)::(nat_lit 194,tE)::(nat_lit 196,AiR)::(nat_lit 197,Akj)::(nat_lit 198,tE)::(nat_lit 200,o200)::(nat_lit 201,tE)::(nat_lit 203,AkW)::(nat_lit 204,AiZ)::(nat_lit 205,tE)::(nat_lit 207,Akv)::(nat_lit 208,tE)::(nat_lit 210,Ak7)::(nat_lit 211,AkN)::(nat_lit 212,tE)::(nat_lit 214,AiV)::(nat_lit 215,tE)::(nat_lit 217,Aki)::(nat_lit 218,Aie)::(nat_lit 219,tE)::(nat_lit 221,Ai4)::(nat_lit 222,tE)::(nat_lit 224,AiK)::(nat_lit 225,Aj3)::(nat_lit 226,tE)::(nat_lit 228,Ah7)::(nat_lit 229,tE)::(nat_lit 231,Alv)::(nat_lit 232,AlO)::(nat_lit 233,tE)::(nat_lit 235,Aj9)::(nat_lit 236,tE)::(nat_lit 238,Ajk)::(nat_lit 239,Ak9)::(nat_lit 240,tE)::(nat_lit 242,AjI)::(nat_lit 243,tE)::(nat_lit 245,Ai2)::(nat_lit 246,Ajx)::(nat_lit 247,tE)::(nat_lit 249,Akg)::(nat_lit 250,tE)::(nat_lit 252,Aia)::(nat_lit 253,Aic)::(nat_lit 254,tE)::(nat_lit 256,Ak1)::(nat_lit 257,tE)::(nat_lit 259,Al9)::(nat_lit 260,Ak2)::(nat_lit 261,tE)::(nat_lit 263,Al4)::(nat_lit 264,tE)::(nat_lit 266,Aje)::(nat_lit 267,Ake)::(nat_lit 268,tE)::(nat_lit 270,AjB)::(nat_lit 271,tE)::(nat_lit 273,Air)::(nat_lit 274,Ait)::(nat_lit 275,Akd)::(nat_lit 276,tE)::(nat_lit 278,AiB)::(nat_lit 279,tE)::(nat_lit 281,AlB)::(nat_lit 282,AkG)::(nat_lit 283,tE)::(nat_lit 285,AlD)::(nat_lit 286,tE)::(nat_lit 288,Akn)::(nat_lit 289,AiJ)::(nat_lit 290,tE)::(nat_lit 292,AiI)::(nat_lit 293,tE)::(nat_lit 295,Al1)::(nat_lit 296,Ai0)::(nat_lit 297,tE)::(nat_lit 299,Ajr)::(nat_lit 300,tE)::(nat_lit 302,Aip)::(nat_lit 303,Ajg)::(nat_lit 304,tE)::(nat_lit 306,AkI)::(nat_lit 307,tE)::(nat_lit 309,AkK)::(nat_lit 310,Ak0)::(nat_lit 311,tE)::(nat_lit 313,Alu)::(nat_lit 314,tE)::(nat_lit 316,Aky)::(nat_lit 317,Al2)::(nat_lit 318,tE)::(nat_lit 320,AlS)::(nat_lit 321,tE)::(nat_lit 323,Aj1)::(nat_lit 324,Alp)::(nat_lit 325,tE)::(nat_lit 327,Ai1)::(nat_lit 328,tE)::(nat_lit 330,AkT)::(nat_lit 331,AlP)::(nat_lit 332,tE)::(nat_lit 334,AjO)::(nat_lit 335,tE)::(nat_lit 337,Al7)::(nat_lit 338,AjN)::(nat_lit 339,tE)::(nat_lit 341,Ai5)::(nat_lit 342,tE)::(nat_lit 344,AlR)::(nat_lit 345,Ak4)::(nat_lit 346,tE)::(nat_lit 348,Ajl)::(nat_lit 349,tE)::(nat_lit 351,Ajh)::(nat_lit 352,Alz)::(nat_lit 353,tE)::(nat_lit 355,Akr)::(nat_lit 356,tE)::(nat_lit 358,Ai7)::(nat_lit 359,Ah5)::(nat_lit 360,tE)::(nat_lit 362,AiC)::(nat_lit 363,tE)::(nat_lit 365,Aln)::(nat_lit 366,Akw)::(nat_lit 367,tE)::(nat_lit 369,AkF)::(nat_lit 370,tE)::(nat_lit 372,Akf)::(nat_lit 373,Akq)::(nat_lit 374,tE)::(nat_lit 376,Ajp)::(nat_lit 377,tE)::(nat_lit 379,AiG)::(nat_lit 380,AlG)::(nat_lit 381,tE)::(nat_lit 383,Alw)::(nat_lit 384,tE)::(nat_lit 386,AkQ)::(nat_lit 387,AkL)::(nat_lit 388,tE)::(nat_lit 390,AjZ)::(nat_lit 391,tE)::(nat_lit 393,Ajs)::(nat_lit 394,AjH)::(nat_lit 395,tE)::(nat_lit 397,AjV)::(nat_lit 398,tE)::(nat_lit 400,o400)::(nat_lit 401,AjX)::(nat_lit 402,tE)::(nat_lit 404,Aim)::(nat_lit 405,tE)::(nat_lit 407,Ajf)::(nat_lit 408,AlQ)::(nat_lit 409,tE)::(nat_lit 411,Aiz)::(nat_lit 412,tE)::(nat_lit 414,AlL)::(nat_lit 415,AjS)::(nat_lit 416,tE)::(nat_lit 418,AjM)::(nat_lit 419,tE)::(nat_lit 421,Ah9)::(nat_lit 422,AlE)::(nat_lit 423,tE)::(nat_lit 425,AkD)::(nat_lit 426,tE)::(nat_lit 428,Als)::(nat_lit 429,Aiq)::(nat_lit 430,tE)::(nat_lit 432,AjC)::(nat_lit 433,tE)::(nat_lit 435,Amb)::(nat_lit 436,AiA)::(nat_lit 444,tE)::(nat_lit 446,AkZ)::(nat_lit 447,tE)::(nat_lit 449,AjF)::(nat_lit 450,Aij)::(nat_lit 451,tE)::(nat_lit 453,AkY)::(nat_lit 454,tE)::(nat_lit 456,Alr)::(nat_lit 457,AjD)::(nat_lit 458,tE)::(nat_lit 460,Ak3)::(nat_lit 461,tE)::(nat_lit 463,Alh)::(nat_lit 464,Ale)::(nat_lit 465,tE)::(nat_lit 467,Ah8)::(nat_lit 468,tE)::(nat_lit 470,AlA)::(nat_lit 471,Al0)::(nat_lit 472,Alo)::(nat_lit 473,Aiw P)::(nat_lit 474,AnR)::(nat_lit 475,Ama)::(nat_lit 476,Ai3)::(nat_lit 479,AnU)::(nat_lit 486,tE)::(nat_lit 488,AmD)::(nat_lit 489,tE)::(nat_lit 491,An7)::(nat_lit 492,Amy)::(nat_lit 493,tE)::(nat_lit 494,Anf P)::(nat_lit 495,Amd)::(nat_lit 498,Anx)::(nat_lit 505,tE)::(nat_lit 507,AmZ)::(nat_lit 508,tE)::(nat_lit 510,Amh)::(nat_lit 511,Ann)::(nat_lit 512,tE)::(nat_lit 513,AmV P)::(nat_lit 514,Ane)::(nat_lit 517,tE)::(nat_lit 519,Amv)::(nat_lit 520,tE)::(nat_lit 522,AnM)::(nat_lit 523,Amw)::(nat_lit 524,tE)::(nat_lit 526,AmJ)::(nat_lit 527,tE)::(nat_lit 529,An1)::(nat_lit 530,Amo)::(nat_lit 531,tE)::(nat_lit 534,AmY)::(nat_lit 535,An0)::(nat_lit 536,tE)::(nat_lit 538,Anq)::(nat_lit 539,tE)::(nat_lit 541,AmU)::(nat_lit 542,AnF)::(nat_lit 543,tE)::(nat_lit 546,Anc)::(nat_lit 547,An3)::(nat_lit 548,tE)::(nat_lit 551,Amj)::(nat_lit 552,Amx)::(nat_lit 553,tE)::(nat_lit 556,AnL)::(nat_lit 557,AmN)::(nat_lit 558,tE)::(nat_lit 560,Am6)::(nat_lit 561,tE)::(nat_lit 563,Ams)::(nat_lit 564,Anb)::(nat_lit 565,tE)::(nat_lit 567,Ami)::(nat_lit 568,tE)::(nat_lit 570,Ant)::(nat_lit 571,Anw)::(nat_lit 572,tE)::(nat_lit 574,AmI)::(nat_lit 575,tE)::(nat_lit 577,AnE)::(nat_lit 578,Am3)::(nat_lit 579,tE)::(nat_lit 581,AmF)::(nat_lit 582,tE)::(nat_lit 584,Amz)::(nat_lit 585,AmX)::(nat_lit 586,tE)::(nat_lit 588,Aob)::(nat_lit 589,tE)::(nat_lit 591,AnX)::(nat_lit 592,An8)::(nat_lit 593,tE)::(nat_lit 595,Amt)::(nat_lit 596,tE)::(nat_lit 598,AmE)::(nat_lit 599,Am0)::(nat_lit 600,tE)::(nat_lit 603,Amg)::(nat_lit 604,AnP)::(nat_lit 605,tE)::(nat_lit 607,AnK)::(nat_lit 608,tE)::(nat_lit 610,AnT)::(nat_lit 611,Anm)::(nat_lit 612,tE)::(nat_lit 614,An9)::(nat_lit 615,tE)::(nat_lit 617,Aml)::(nat_lit 618,AnJ)::(nat_lit 619,tE)::(nat_lit 621,An5)::(nat_lit 622,tE)::(nat_lit 624,AmB)::(nat_lit 625,An2)::(nat_lit 626,tE)::(nat_lit 628,Ana)::(nat_lit 629,tE)::(nat_lit 631,AnV)::(nat_lit 632,AmA)::(nat_lit 633,tE)::(nat_lit 635,Am5)::(nat_lit 636,tE)::(nat_lit 638,Ans)::(nat_lit 639,An4)::(nat_lit 640,tE)::(nat_lit 642,Amq)::(nat_lit 643,tE)::(nat_lit 645,An6)::(nat_lit 646,AnI)::(nat_lit 647,tE)::(nat_lit 649,AnG)::(nat_lit 650,tE)::(nat_lit 652,AnQ)::(nat_lit 653,AnD)::(nat_lit 654,tE)::(nat_lit 657,Anu)::(nat_lit 658,Ani)::[]
noncomputable def Bd:O:=nO #[]
noncomputable def Abh:O:=cO #[sT "<module>" 182,sT "<module>" 183,sF 184,iZ 1,iZ 0,iZ 0,iZ 0,iZ 0,.ref 11,.bool false,iZ 181,.ref 12,.none,.none,.none,.none,iZ 185,iZ 1,sF 186]
noncomputable def Acu:O:=rO 13 3 "__main__" 164
noncomputable def Amm (P:Params):O:=dO #[dE P "__name__" 165 (sT "formcycle.errors" 194),dE P "__doc__" 166 .none,dE P "__package__" 167 .none,dE P "__loader__" 168 (.builtin "__main__.__loader__#opaque"),dE P "__spec__" 169 .none,dE P "__annotations__" 170 (.ref 6),dE P "__builtins__" 171 (.ref 4),dE P "__file__" 173 (sF 172),dE P "__cached__" 174 .none,dE P "_wall" 193 (.ref 21),dE P "FormError" 213 (.ref 31),dE P "NoTurn" 238 (.ref 51),dE P "NoShape" 263 (.ref 70),dE P "TooGreat" 290 (.ref 89),dE P "NoRoot" 315 (.ref 108),dE P "Nought" 331 (.ref 120),dE P "NoAnswer" 356 (.ref 139)] 17
noncomputable def Aku:O:=nO #[iZ 1,iZ 0,.ref 20,iZ 5,iZ 0,.ref 27,iZ 7,iZ 0,.ref 40,iZ 11,iZ 0,.ref 59,iZ 15,iZ 0,.ref 78,iZ 20,iZ 0,.ref 97,iZ 24,iZ 0,.ref 116,iZ 26,iZ 0,.ref 128]
noncomputable def AfN:O:=.mk .none none (Data.func (FuncData.mk (.ofString "_wall") (.ofString "_wall") (fA (tp 0)) (.stmts (fB (tp 0))) (fS (tp 0)) 0 [] .none .none .none .none none .none .none 0)) #[]
noncomputable def Ib:O:=bO #[.builtin "type.__prepare__",.type "type"]
noncomputable def Afg (P:Params):O:=dO #[dE P "__module__" 203 (sT "formcycle.errors" 194),dE P "__qualname__" 205 (sT "FormError" 204),dE P "__firstlineno__" 207 (.int 5 206),dE P "__static_attributes__" 208 (.ref 29)] 4
noncomputable def Afn:O:=cO #[sT "FormError" 198,sT "FormError" 199,sF 200,iZ 5,iZ 0,iZ 0,iZ 0,iZ 0,.ref 25,.bool false,iZ 181,.ref 26,.none,.none,.none,.none,iZ 201,iZ 5,sF 202]
noncomputable def Af7:O:=rO 27 24 "formcycle.errors" 194
noncomputable def Afe:O:=sO 31
noncomputable def AfU:O:=bO #[.builtin "object.__init_subclass__",.ref 31]
noncomputable def Aga (P:Params):O:=dO #[dE P "__module__" 221 (sT "formcycle.errors" 194),dE P "__qualname__" 223 (sT "NoTurn" 222),dE P "__firstlineno__" 225 (.int 7 224),dE P "__init__" 233 (.ref 48),dE P "__static_attributes__" 235 (.ref 49)] 5
noncomputable def Aft:O:=nO #[iZ 9,iZ 4,.ref 47]
noncomputable def AfI:O:=cO #[sT "NoTurn" 216,sT "NoTurn" 217,sF 218,iZ 7,iZ 0,iZ 0,iZ 0,iZ 0,.ref 38,.bool false,iZ 181,.ref 39,.none,.none,.none,.none,iZ 219,iZ 7,sF 220]
noncomputable def Ae7:O:=rO 40 37 "formcycle.errors" 194
noncomputable def Afh:O:=.mk .none none (Data.func (FuncData.mk (.ofString "__init__") (.ofString "NoTurn.__init__") (fA (inC (tp 3) 0)) (.stmts (fB (inC (tp 3) 0))) (fS (inC (tp 3) 0)) 0 [] .none .none .none .none none .none .none 0)) #[]
noncomputable def Afr:O:=sO 51
noncomputable def AfH:O:=bO #[.builtin "object.__init_subclass__",.ref 51]
noncomputable def AfS (P:Params):O:=dO #[dE P "__module__" 246 (sT "formcycle.errors" 194),dE P "__qualname__" 248 (sT "NoShape" 247),dE P "__firstlineno__" 250 (.int 11 249),dE P "__init__" 258 (.ref 67),dE P "__static_attributes__" 260 (.ref 68)] 5
noncomputable def AfP:O:=nO #[iZ 13,iZ 4,.ref 66]
noncomputable def AfR:O:=cO #[sT "NoShape" 241,sT "NoShape" 242,sF 243,iZ 11,iZ 0,iZ 0,iZ 0,iZ 0,.ref 57,.bool false,iZ 181,.ref 58,.none,.none,.none,.none,iZ 244,iZ 11,sF 245]
noncomputable def Ae8:O:=rO 59 56 "formcycle.errors" 194
noncomputable def Afb:O:=.mk .none none (Data.func (FuncData.mk (.ofString "__init__") (.ofString "NoShape.__init__") (fA (inC (tp 4) 0)) (.stmts (fB (inC (tp 4) 0))) (fS (inC (tp 4) 0)) 0 [] .none .none .none .none none .none .none 0)) #[]
noncomputable def Af2:O:=sO 70
noncomputable def Afz:O:=bO #[.builtin "object.__init_subclass__",.ref 70]
noncomputable def Afp (P:Params):O:=dO #[dE P "__module__" 271 (sT "formcycle.errors" 194),dE P "__qualname__" 273 (sT "TooGreat" 272),dE P "__firstlineno__" 275 (.int 15 274),dE P "__init__" 284 (.ref 86),dE P "__static_attributes__" 287 (.ref 87)] 5
noncomputable def Afd:O:=nO #[iZ 17,iZ 4,.ref 85]
noncomputable def AfD:O:=cO #[sT "TooGreat" 266,sT "TooGreat" 267,sF 268,iZ 15,iZ 0,iZ 0,iZ 0,iZ 0,.ref 76,.bool false,iZ 181,.ref 77,.none,.none,.none,.none,iZ 269,iZ 15,sF 270]
noncomputable def Afc:O:=rO 78 75 "formcycle.errors" 194
noncomputable def AfE:O:=.mk .none none (Data.func (FuncData.mk (.ofString "__init__") (.ofString "TooGreat.__init__") (fA (inC (tp 5) 0)) (.stmts (fB (inC (tp 5) 0))) (fS (inC (tp 5) 0)) 0 [] .none .none .none .none none .none .none 0)) #[]
noncomputable def AfL:O:=sO 89
noncomputable def Afs:O:=bO #[.builtin "object.__init_subclass__",.ref 89]
noncomputable def AfW (P:Params):O:=dO #[dE P "__module__" 298 (sT "formcycle.errors" 194),dE P "__qualname__" 300 (sT "NoRoot" 299),dE P "__firstlineno__" 302 (.int 20 301),dE P "__init__" 310 (.ref 105),dE P "__static_attributes__" 312 (.ref 106)] 5
noncomputable def AfZ:O:=nO #[iZ 22,iZ 4,.ref 104]
noncomputable def AfY:O:=cO #[sT "NoRoot" 293,sT "NoRoot" 294,sF 295,iZ 20,iZ 0,iZ 0,iZ 0,iZ 0,.ref 95,.bool false,iZ 181,.ref 96,.none,.none,.none,.none,iZ 296,iZ 20,sF 297]
noncomputable def AfA:O:=rO 97 94 "formcycle.errors" 194
noncomputable def AaU:O:=.mk .none none (Data.func (FuncData.mk (.ofString "__init__") (.ofString "NoRoot.__init__") (fA (inC (tp 6) 0)) (.stmts (fB (inC (tp 6) 0))) (fS (inC (tp 6) 0)) 0 [] .none .none .none .none none .none .none 0)) #[]
noncomputable def AcC:O:=sO 108
noncomputable def AcE:O:=bO #[.builtin "object.__init_subclass__",.ref 108]
noncomputable def Aa5 (P:Params):O:=dO #[dE P "__module__" 323 (sT "formcycle.errors" 194),dE P "__qualname__" 325 (sT "Nought" 324),dE P "__firstlineno__" 327 (.int 24 326),dE P "__static_attributes__" 328 (.ref 118)] 4
noncomputable def Ab2:O:=cO #[sT "Nought" 318,sT "Nought" 319,sF 320,iZ 24,iZ 0,iZ 0,iZ 0,iZ 0,.ref 114,.bool false,iZ 181,.ref 115,.none,.none,.none,.none,iZ 321,iZ 24,sF 322]
noncomputable def AbT:O:=rO 116 113 "formcycle.errors" 194
noncomputable def Acq:O:=sO 120
noncomputable def AaF:O:=bO #[.builtin "object.__init_subclass__",.ref 120]
noncomputable def Aa4 (P:Params):O:=dO #[dE P "__module__" 339 (sT "formcycle.errors" 194),dE P "__qualname__" 341 (sT "NoAnswer" 340),dE P "__firstlineno__" 343 (.int 26 342),dE P "__init__" 351 (.ref 136),dE P "__static_attributes__" 353 (.ref 137)] 5
noncomputable def Abv:O:=nO #[iZ 28,iZ 4,.ref 135]
noncomputable def AaT:O:=cO #[sT "NoAnswer" 334,sT "NoAnswer" 335,sF 336,iZ 26,iZ 0,iZ 0,iZ 0,iZ 0,.ref 126,.bool false,iZ 181,.ref 127,.none,.none,.none,.none,iZ 337,iZ 26,sF 338]
noncomputable def AaZ:O:=rO 128 125 "formcycle.errors" 194
noncomputable def Abj:O:=.mk .none none (Data.func (FuncData.mk (.ofString "__init__") (.ofString "NoAnswer.__init__") (fA (inC (tp 8) 0)) (.stmts (fB (inC (tp 8) 0))) (fS (inC (tp 8) 0)) 0 [] .none .none .none .none none .none .none 0)) #[]
noncomputable def Acr:O:=sO 139
noncomputable def Acw:O:=bO #[.builtin "object.__init_subclass__",.ref 139]
noncomputable def AkO (P:Params):O:=dO #[dE P "__name__" 165 (sT "formcycle.shapes" 744),dE P "__doc__" 166 .none,dE P "__package__" 167 .none,dE P "__loader__" 168 (.builtin "__main__.__loader__#opaque"),dE P "__spec__" 169 .none,dE P "__annotations__" 170 (.ref 6),dE P "__builtins__" 171 (.ref 4),dE P "__file__" 173 (sF 172),dE P "__cached__" 174 .none,dE P "_wall" 193 (.ref 21),dE P "FormError" 213 (.ref 31),dE P "NoTurn" 238 (.ref 51),dE P "NoShape" 263 (.ref 70),dE P "TooGreat" 290 (.ref 89),dE P "NoRoot" 315 (.ref 108),dE P "Nought" 331 (.ref 120),dE P "NoAnswer" 356 (.ref 139),dE P "divisor" 367 (.ref 148),dE P "shares" 378 (.ref 155),dE P "row_less" 387 (.ref 162),dE P "root" 396 (.ref 169),dE P "is_square" 404 (.ref 176),dE P "check_at_most" 412 (.ref 183),dE P "check_within" 420 (.ref 190),dE P "MOST_NUMBER_chains" 424 (.int 1000 423),dE P "MOST_PLACE" 426 (.int 300 425),dE P "check_number" 433 (.ref 197),dE P "chain" 442 (.ref 204),dE P "row_behind" 453 (.ref 211),dE P "part_of" 461 (.ref 218),dE P "fraction" 470 (.ref 225),dE P "fraction_of" 480 (.ref 232),dE P "first_pair" 487 (.ref 239),dE P "pair_behind" 497 (.ref 246),dE P "plus_one" 505 (.ref 253),dE P "minus_one" 513 (.ref 260),dE P "point_of_round" 520 (.ref 267),dE P "square_less" 528 (.ref 274),dE P "SAME" 535 (.ref 275),dE P "is_turn" 542 (.ref 282),dE P "check_turn" 549 (.ref 289),dE P "put_behind" 557 (.ref 296),dE P "back" 564 (.ref 303),dE P "measure" 573 (.ref 310),dE P "value" 583 (.ref 317),dE P "content" 590 (.ref 324),dE P "moved" 600 (.ref 331),dE P "middle" 610 (.ref 338),dE P "shape" 618 (.ref 345),dE P "check_bowl" 627 (.ref 352),dE P "stands_least" 637 (.ref 359),dE P "settled" 646 (.ref 366),dE P "turn_lower" 654 (.ref 373),dE P "MOST_MEASURE" 658 (.int 4000 657),dE P "check_saddle" 665 (.ref 380),dE P "stands_level" 674 (.ref 387),dE P "turn_behind" 685 (.ref 394),dE P "stop_behind" 694 (.ref 401),dE P "eased" 703 (.ref 408),dE P "stops_round" 714 (.ref 415),dE P "lowered" 721 (.ref 422),dE P "step_of" 733 (.ref 429),dE P "step_pair" 743 (.ref 436),dE P "Shape" 800 (.ref 474)] 64
noncomputable def Aho:O:=nO #[iZ 1,iZ 0,.ref 20,iZ 5,iZ 0,.ref 27,iZ 7,iZ 0,.ref 40,iZ 11,iZ 0,.ref 59,iZ 15,iZ 0,.ref 78,iZ 20,iZ 0,.ref 97,iZ 24,iZ 0,.ref 116,iZ 26,iZ 0,.ref 128,iZ 31,iZ 0,.ref 147,iZ 37,iZ 0,.ref 154,iZ 47,iZ 0,.ref 161,iZ 49,iZ 0,.ref 168,iZ 60,iZ 0,.ref 175,iZ 65,iZ 0,.ref 182,iZ 68,iZ 0,.ref 189,iZ 74,iZ 0,.ref 196,iZ 78,iZ 0,.ref 203,iZ 86,iZ 0,.ref 210,iZ 90,iZ 0,.ref 217,iZ 94,iZ 0,.ref 224,iZ 98,iZ 0,.ref 231,iZ 103,iZ 0,.ref 238,iZ 105,iZ 0,.ref 245,iZ 109,iZ 0,.ref 252,iZ 114,iZ 0,.ref 259,iZ 119,iZ 0,.ref 266,iZ 121,iZ 0,.ref 273,iZ 125,iZ 0,.ref 281,iZ 127,iZ 0,.ref 288,iZ 130,iZ 0,.ref 295,iZ 132,iZ 0,.ref 302,iZ 136,iZ 0,.ref 309,iZ 138,iZ 0,.ref 316,iZ 142,iZ 0,.ref 323,iZ 144,iZ 0,.ref 330,iZ 149,iZ 0,.ref 337,iZ 152,iZ 0,.ref 344,iZ 162,iZ 0,.ref 351,iZ 165,iZ 0,.ref 358,iZ 172,iZ 0,.ref 365,iZ 180,iZ 0,.ref 372,iZ 187,iZ 0,.ref 379,iZ 191,iZ 0,.ref 386,iZ 194,iZ 0,.ref 393,iZ 199,iZ 0,.ref 400,iZ 202,iZ 0,.ref 407,iZ 209,iZ 0,.ref 414,iZ 219,iZ 0,.ref 421,iZ 222,iZ 0,.ref 428,iZ 230,iZ 0,.ref 435,iZ 235,iZ 0,.ref 442]
noncomputable def Ad2:O:=.mk .none none (Data.func (FuncData.mk (.ofString "divisor") (.ofString "divisor") (fA (tp 10)) (.stmts (fB (tp 10))) (fS (tp 10)) 0 [] .none .none .none .none none .none .none 0)) #[]
noncomputable def Aep:O:=.mk .none none (Data.func (FuncData.mk (.ofString "shares") (.ofString "shares") (fA (tp 11)) (.stmts (fB (tp 11))) (fS (tp 11)) 0 [] .none .none .none .none none .none .none 0)) #[]
noncomputable def AdX:O:=.mk .none none (Data.func (FuncData.mk (.ofString "row_less") (.ofString "row_less") (fA (tp 12)) (.stmts (fB (tp 12))) (fS (tp 12)) 0 [] .none .none .none .none none .none .none 0)) #[]
noncomputable def Ae3:O:=.mk .none none (Data.func (FuncData.mk (.ofString "root") (.ofString "root") (fA (tp 13)) (.stmts (fB (tp 13))) (fS (tp 13)) 0 [] .none .none .none .none none .none .none 0)) #[]
noncomputable def Aet:O:=.mk .none none (Data.func (FuncData.mk (.ofString "is_square") (.ofString "is_square") (fA (tp 14)) (.stmts (fB (tp 14))) (fS (tp 14)) 0 [] .none .none .none .none none .none .none 0)) #[]
noncomputable def AeP:O:=.mk .none none (Data.func (FuncData.mk (.ofString "check_at_most") (.ofString "check_at_most") (fA (tp 15)) (.stmts (fB (tp 15))) (fS (tp 15)) 0 [] .none .none .none .none none .none .none 0)) #[]
noncomputable def AeG:O:=.mk .none none (Data.func (FuncData.mk (.ofString "check_within") (.ofString "check_within") (fA (tp 16)) (.stmts (fB (tp 16))) (fS (tp 16)) 0 [] .none .none .none .none none .none .none 0)) #[]
noncomputable def AcR:O:=.mk .none none (Data.func (FuncData.mk (.ofString "check_number") (.ofString "check_number") (fA (tp 20)) (.stmts (fB (tp 20))) (fS (tp 20)) 0 [] .none .none .none .none none .none .none 0)) #[]
noncomputable def Aey:O:=.mk .none none (Data.func (FuncData.mk (.ofString "chain") (.ofString "chain") (fA (tp 21)) (.stmts (fB (tp 21))) (fS (tp 21)) 0 [] .none .none .none .none none .none .none 0)) #[]
noncomputable def AdV:O:=.mk .none none (Data.func (FuncData.mk (.ofString "row_behind") (.ofString "row_behind") (fA (tp 22)) (.stmts (fB (tp 22))) (fS (tp 22)) 0 [] .none .none .none .none none .none .none 0)) #[]
noncomputable def Adb:O:=.mk .none none (Data.func (FuncData.mk (.ofString "part_of") (.ofString "part_of") (fA (tp 23)) (.stmts (fB (tp 23))) (fS (tp 23)) 0 [] .none .none .none .none none .none .none 0)) #[]
noncomputable def AdH:O:=.mk .none none (Data.func (FuncData.mk (.ofString "fraction") (.ofString "fraction") (fA (tp 24)) (.stmts (fB (tp 24))) (fS (tp 24)) 0 [] .none .none .none .none none .none .none 0)) #[]
noncomputable def AeR:O:=.mk .none none (Data.func (FuncData.mk (.ofString "fraction_of") (.ofString "fraction_of") (fA (tp 25)) (.stmts (fB (tp 25))) (fS (tp 25)) 0 [] .none .none .none .none none .none .none 0)) #[]
noncomputable def Ac1:O:=.mk .none none (Data.func (FuncData.mk (.ofString "first_pair") (.ofString "first_pair") (fA (tp 26)) (.stmts (fB (tp 26))) (fS (tp 26)) 0 [] .none .none .none .none none .none .none 0)) #[]
noncomputable def AeO:O:=.mk .none none (Data.func (FuncData.mk (.ofString "pair_behind") (.ofString "pair_behind") (fA (tp 27)) (.stmts (fB (tp 27))) (fS (tp 27)) 0 [] .none .none .none .none none .none .none 0)) #[]
noncomputable def Aee:O:=.mk .none none (Data.func (FuncData.mk (.ofString "plus_one") (.ofString "plus_one") (fA (tp 28)) (.stmts (fB (tp 28))) (fS (tp 28)) 0 [] .none .none .none .none none .none .none 0)) #[]
noncomputable def Ac2:O:=.mk .none none (Data.func (FuncData.mk (.ofString "minus_one") (.ofString "minus_one") (fA (tp 29)) (.stmts (fB (tp 29))) (fS (tp 29)) 0 [] .none .none .none .none none .none .none 0)) #[]
noncomputable def Ad4:O:=.mk .none none (Data.func (FuncData.mk (.ofString "point_of_round") (.ofString "point_of_round") (fA (tp 30)) (.stmts (fB (tp 30))) (fS (tp 30)) 0 [] .none .none .none .none none .none .none 0)) #[]
noncomputable def AdZ:O:=.mk .none none (Data.func (FuncData.mk (.ofString "square_less") (.ofString "square_less") (fA (tp 31)) (.stmts (fB (tp 31))) (fS (tp 31)) 0 [] .none .none .none .none none .none .none 0)) #[]
noncomputable def AcO:O:=.mk .none none (Data.func (FuncData.mk (.ofString "is_turn") (.ofString "is_turn") (fA (tp 34)) (.stmts (fB (tp 34))) (fS (tp 34)) 0 [] .none .none .none .none none .none .none 0)) #[]
noncomputable def Ad7:O:=.mk .none none (Data.func (FuncData.mk (.ofString "check_turn") (.ofString "check_turn") (fA (tp 35)) (.stmts (fB (tp 35))) (fS (tp 35)) 0 [] .none .none .none .none none .none .none 0)) #[]
noncomputable def Aed:O:=.mk .none none (Data.func (FuncData.mk (.ofString "put_behind") (.ofString "put_behind") (fA (tp 36)) (.stmts (fB (tp 36))) (fS (tp 36)) 0 [] .none .none .none .none none .none .none 0)) #[]
noncomputable def Aew:O:=.mk .none none (Data.func (FuncData.mk (.ofString "back") (.ofString "back") (fA (tp 37)) (.stmts (fB (tp 37))) (fS (tp 37)) 0 [] .none .none .none .none none .none .none 0)) #[]
noncomputable def Ad3:O:=.mk .none none (Data.func (FuncData.mk (.ofString "measure") (.ofString "measure") (fA (tp 39)) (.stmts (fB (tp 39))) (fS (tp 39)) 0 [] .none .none .none .none none .none .none 0)) #[]
noncomputable def AeQ:O:=.mk .none none (Data.func (FuncData.mk (.ofString "value") (.ofString "value") (fA (tp 40)) (.stmts (fB (tp 40))) (fS (tp 40)) 0 [] .none .none .none .none none .none .none 0)) #[]
noncomputable def AeZ:O:=.mk .none none (Data.func (FuncData.mk (.ofString "content") (.ofString "content") (fA (tp 41)) (.stmts (fB (tp 41))) (fS (tp 41)) 0 [] .none .none .none .none none .none .none 0)) #[]
noncomputable def Aei:O:=.mk .none none (Data.func (FuncData.mk (.ofString "moved") (.ofString "moved") (fA (tp 42)) (.stmts (fB (tp 42))) (fS (tp 42)) 0 [] .none .none .none .none none .none .none 0)) #[]
noncomputable def Ad9:O:=.mk .none none (Data.func (FuncData.mk (.ofString "middle") (.ofString "middle") (fA (tp 43)) (.stmts (fB (tp 43))) (fS (tp 43)) 0 [] .none .none .none .none none .none .none 0)) #[]
noncomputable def AeV:O:=.mk .none none (Data.func (FuncData.mk (.ofString "shape") (.ofString "shape") (fA (tp 44)) (.stmts (fB (tp 44))) (fS (tp 44)) 0 [] .none .none .none .none none .none .none 0)) #[]
noncomputable def AdK:O:=.mk .none none (Data.func (FuncData.mk (.ofString "check_bowl") (.ofString "check_bowl") (fA (tp 46)) (.stmts (fB (tp 46))) (fS (tp 46)) 0 [] .none .none .none .none none .none .none 0)) #[]
noncomputable def Ado:O:=.mk .none none (Data.func (FuncData.mk (.ofString "stands_least") (.ofString "stands_least") (fA (tp 47)) (.stmts (fB (tp 47))) (fS (tp 47)) 0 [] .none .none .none .none none .none .none 0)) #[]
noncomputable def Ad6:O:=.mk .none none (Data.func (FuncData.mk (.ofString "settled") (.ofString "settled") (fA (tp 48)) (.stmts (fB (tp 48))) (fS (tp 48)) 0 [] .none .none .none .none none .none .none 0)) #[]
noncomputable def Adv:O:=.mk .none none (Data.func (FuncData.mk (.ofString "turn_lower") (.ofString "turn_lower") (fA (tp 49)) (.stmts (fB (tp 49))) (fS (tp 49)) 0 [] .none .none .none .none none .none .none 0)) #[]
noncomputable def AdE:O:=.mk .none none (Data.func (FuncData.mk (.ofString "check_saddle") (.ofString "check_saddle") (fA (tp 52)) (.stmts (fB (tp 52))) (fS (tp 52)) 0 [] .none .none .none .none none .none .none 0)) #[]
noncomputable def AdI:O:=.mk .none none (Data.func (FuncData.mk (.ofString "stands_level") (.ofString "stands_level") (fA (tp 53)) (.stmts (fB (tp 53))) (fS (tp 53)) 0 [] .none .none .none .none none .none .none 0)) #[]
noncomputable def Ac6:O:=.mk .none none (Data.func (FuncData.mk (.ofString "turn_behind") (.ofString "turn_behind") (fA (tp 54)) (.stmts (fB (tp 54))) (fS (tp 54)) 0 [] .none .none .none .none none .none .none 0)) #[]
noncomputable def Aen:O:=.mk .none none (Data.func (FuncData.mk (.ofString "stop_behind") (.ofString "stop_behind") (fA (tp 55)) (.stmts (fB (tp 55))) (fS (tp 55)) 0 [] .none .none .none .none none .none .none 0)) #[]
noncomputable def Aek:O:=.mk .none none (Data.func (FuncData.mk (.ofString "eased") (.ofString "eased") (fA (tp 56)) (.stmts (fB (tp 56))) (fS (tp 56)) 0 [] .none .none .none .none none .none .none 0)) #[]
noncomputable def Adu:O:=.mk .none none (Data.func (FuncData.mk (.ofString "stops_round") (.ofString "stops_round") (fA (tp 57)) (.stmts (fB (tp 57))) (fS (tp 57)) 0 [] .none .none .none .none none .none .none 0)) #[]
noncomputable def AcU:O:=.mk .none none (Data.func (FuncData.mk (.ofString "lowered") (.ofString "lowered") (fA (tp 58)) (.stmts (fB (tp 58))) (fS (tp 58)) 0 [] .none .none .none .none none .none .none 0)) #[]
noncomputable def AeA:O:=.mk .none none (Data.func (FuncData.mk (.ofString "step_of") (.ofString "step_of") (fA (tp 59)) (.stmts (fB (tp 59))) (fS (tp 59)) 0 [] .none .none .none .none none .none .none 0)) #[]
noncomputable def Ad0:O:=.mk .none none (Data.func (FuncData.mk (.ofString "step_pair") (.ofString "step_pair") (fA (tp 60)) (.stmts (fB (tp 60))) (fS (tp 60)) 0 [] .none .none .none .none none .none .none 0)) #[]
noncomputable def Ac7 (P:Params):O:=dO #[dE P "__module__" 753 (sT "formcycle.shapes" 744),dE P "__qualname__" 755 (sT "Shape" 754),dE P "__firstlineno__" 757 (.int 235 756),dE P "__init__" 766 (.ref 450),dE P "least" 773 (.ref 457),dE P "leaves" 781 (.ref 464),dE P "way_to" 789 (.ref 471),dE P "__static_attributes__" 793 (.ref 472)] 8
noncomputable def AeC:O:=nO #[iZ 237,iZ 4,.ref 449,iZ 242,iZ 4,.ref 456,iZ 245,iZ 4,.ref 463,iZ 248,iZ 4,.ref 470]
noncomputable def Aej:O:=cO #[sT "Shape" 748,sT "Shape" 749,sF 750,iZ 235,iZ 0,iZ 0,iZ 0,iZ 0,.ref 440,.bool false,iZ 181,.ref 441,.none,.none,.none,.none,iZ 751,iZ 235,sF 752]
noncomputable def Adi:O:=rO 442 439 "formcycle.shapes" 744
noncomputable def AdG:O:=.mk .none none (Data.func (FuncData.mk (.ofString "__init__") (.ofString "Shape.__init__") (fA (inC (tp 62) 0)) (.stmts (fB (inC (tp 62) 0))) (fS (inC (tp 62) 0)) 0 [] .none .none .none .none none .none .none 0)) #[]
noncomputable def AeB:O:=.mk .none none (Data.func (FuncData.mk (.ofString "least") (.ofString "Shape.least") (fA (inC (tp 62) 1)) (.stmts (fB (inC (tp 62) 1))) (fS (inC (tp 62) 1)) 0 [] .none .none .none .none none .none .none 0)) #[]
noncomputable def Ada:O:=.mk .none none (Data.func (FuncData.mk (.ofString "leaves") (.ofString "Shape.leaves") (fA (inC (tp 62) 2)) (.stmts (fB (inC (tp 62) 2))) (fS (inC (tp 62) 2)) 0 [] .none .none .none .none none .none .none 0)) #[]
noncomputable def Ac4:O:=.mk .none none (Data.func (FuncData.mk (.ofString "way_to") (.ofString "Shape.way_to") (fA (inC (tp 62) 3)) (.stmts (fB (inC (tp 62) 3))) (fS (inC (tp 62) 3)) 0 [] .none .none .none .none none .none .none 0)) #[]
noncomputable def Ad1:O:=.mk (.type "type") none (Data.cls (ClassData.mk (.ofString "Shape") [.type "object"] [.ref 474,.type "object"] 473 (.ofString "Shape") Bool.true [] [] Bool.false none Bool.false)) #[none,none,some (sT "Shape" 746),some (sT "Shape" 754),some (.builtin "object.__new__"),some (.bool true)]
noncomputable def Adq:O:=sO 474
noncomputable def Aeo:O:=bO #[.builtin "object.__init_subclass__",.ref 474]
noncomputable def tr0 (P:Params):BT:=Nd (boot_o_0 P) (Nd (boot_o_1 P) (Nd (boot_o_3 P) (Lf (boot_o_7 P)) (Lf tE)) (Nd (boot_o_5 P) (Lf (boot_o_9 P)) (Lf Abh))) (Nd (boot_o_2 P) (Nd (boot_o_4 P) (Lf (boot_o_8 P)) (Lf Bd)) (Nd (boot_o_6 P) (Lf (boot_o_10 P)) (Lf Acu)))
noncomputable def St0 (w:World) (os:OsState):SharedT:=⟨tr0 w.params,15,Life.mk [] [] [] 0 [] [] Bool.false #[] [] 0 Bool.false Bool.false Bool.false 0 [2000,10,10] Bool.false 0 Bool.true [] [] 0 Bool.false,Array.mk [],Drawn.mk 0 0 0 0,187,os⟩
noncomputable def ps0:Pos:=⟨0,0,0,0⟩
noncomputable def tr9 (P:Params):BT:=Nd (boot_o_0 P) (Nd (boot_o_1 P) (Nd (Amm P) (Nd (boot_o_7 P) (Nd tE (Nd o31 (Nd o63 (Lf Abv) .nil) (Lf tE)) (Nd o47 (Lf Afc) (Lf o111))) (Nd Ib (Nd Aft (Nd Af2 (Lf Agq) .nil) (Lf AaU)) (Nd Ib (Lf o87) (Lf (Ahl P))))) (Nd tE (Nd AfN (Nd o35 (Nd o67 (Lf Bd) .nil) (Lf tE)) (Nd o51 (Lf tE) (Lf Bd))) (Nd Afn (Nd Bd (Nd (Afp P) (Lf Agb) .nil) (Lf (Agy P))) (Nd AfR (Lf Afs) (Lf Ahd))))) (Nd (boot_o_5 P) (Nd (boot_o_9 P) (Nd o17 (Nd Afe (Nd Afb (Lf AaZ) .nil) (Lf AfY)) (Nd o49 (Lf Bd) (Lf (Aa5 P)))) (Nd tE (Nd Ae7 (Nd o73 (Lf AhI) .nil) (Lf AgL)) (Nd tE (Lf o89) (Lf Acq)))) (Nd Abh (Nd o21 (Nd (Aga P) (Nd (o69 P) (Lf tE) .nil) (Lf AhA)) (Nd AfH (Lf o85) (Lf AbT))) (Nd tE (Nd tE (Nd Afd (Lf Acw) .nil) (Lf AcC)) (Nd tE (Lf Ib) (Lf (Aa4 P))))))) (Nd (boot_o_2 P) (Nd (boot_o_4 P) (Nd (boot_o_8 P) (Nd Bd (Nd o32 (Nd tE (Lf AaT) .nil) (Lf AfZ)) (Nd o48 (Lf tE) (Lf Ib))) (Nd (Afg P) (Nd AfI (Nd Afz (Lf Ahv) .nil) (Lf Ahr)) (Nd (AfS P) (Lf (o88 P)) (Lf Agx)))) (Nd Aku (Nd o20 (Nd Ib (Nd o68 (Lf AhC) .nil) (Lf Bd)) (Nd Afr (Lf AfE) (Lf Ab2))) (Nd Af7 (Nd o44 (Nd tE (Lf Acr) .nil) (Lf Ahi)) (Nd Ae8 (Lf o92) (Lf Ib))))) (Nd (boot_o_6 P) (Nd (boot_o_10 P) (Nd tE (Nd AfU (Nd o66 (Lf tE) .nil) (Lf AfA)) (Nd (o50 P) (Lf o82) (Lf tE))) (Nd Bd (Nd tE (Nd Ib (Lf (AgC P)) .nil) (Lf Ag1)) (Nd AfP (Lf AfL) (Lf AaF)))) (Nd Acu (Nd o22 (Nd tE (Nd o70 (Lf Abj) .nil) (Lf tE)) (Nd o54 (Lf o86) (Lf tE))) (Nd (o30 P) (Nd Afh (Lf AfD) (Lf AcE)) (Nd Bd (Lf (AfW P)) (Lf tE))))))
noncomputable def St9 (w:World) (os:OsState):SharedT:=⟨tr9 w.params,142,Life.mk [] [] [] 0 [] [] Bool.false #[] [] 0 Bool.false Bool.false Bool.false 0 [2000,10,10] Bool.false 0 Bool.true [] [] 0 Bool.false,Array.mk [],Drawn.mk 0 0 0 0,357,os⟩
noncomputable def ps9:Pos:=⟨26,0,29,26⟩
noncomputable def AmT (P:Params):BT:=Nd (boot_o_0 P) (Nd (boot_o_1 P) (Nd (AkO P) (Nd (boot_o_7 P) (Nd tE (Nd o31 (Nd o63 (Nd Abv (Lf Bd) (Lf Alw)) (Nd tE (Lf Bd) (Lf tE))) (Nd tE (Nd tE (Lf Ad7) (Lf AjS)) (Nd AdH (Lf Ajh) .nil))) (Nd o47 (Nd Afc (Nd Bd (Lf tE) (Lf Aen)) (Nd Akv (Lf tE) (Lf Alh))) (Nd o111 (Nd Amc (Lf Ajg) (Lf Bd)) (Nd Ak9 (Lf tE) .nil)))) (Nd Ib (Nd Aft (Nd Af2 (Nd Agq (Lf Al4) (Lf tE)) (Nd Bd (Lf Ai1) (Lf AeB))) (Nd AaU (Nd Ae3 (Lf Al1) (Lf tE)) (Nd Alv (Lf Ah5) .nil))) (Nd Ib (Nd o87 (Nd AjP (Lf tE) (Lf Ajf)) (Nd tE (Lf AeV) (Lf Al0))) (Nd (Ahl P) (Nd AkB (Lf tE) (Lf (Ac7 P))) (Nd tE (Lf Bd) .nil))))) (Nd tE (Nd AfN (Nd o35 (Nd o67 (Nd Bd (Lf Al9) (Lf AkL)) (Nd AcR (Lf Aj1) (Lf tE))) (Nd tE (Nd tE (Lf Bd) (Lf tE)) (Nd Bd (Lf Akr) .nil))) (Nd o51 (Nd tE (Nd Aj8 (Lf Akd) (Lf Bd)) (Nd AkN (Lf tE) (Lf Ah8))) (Nd Bd (Nd Ald (Lf tE) (Lf Amb)) (Nd tE (Lf Adv) .nil)))) (Nd Afn (Nd Bd (Nd (Afp P) (Nd Agb (Lf Ake) (Lf tE)) (Nd AkW (Lf AlP) (Lf Bd))) (Nd (Agy P) (Nd Bd (Lf Ajr) (Lf AeA)) (Nd Aj9 (Lf tE) .nil))) (Nd AfR (Nd Afs (Nd Akz (Lf tE) (Lf Aiz)) (Nd tE (Lf Bd) (Lf Ama))) (Nd Ahd (Nd tE (Lf AeQ) (Lf Adi)) (Nd Aee (Lf AiG) .nil)))))) (Nd (boot_o_5 P) (Nd (boot_o_9 P) (Nd o17 (Nd Afe (Nd Afb (Nd AaZ (Lf tE) (Lf AdI)) (Nd AjL (Lf tE) (Lf AjF))) (Nd AfY (Nd Aid (Lf AiJ) (Lf Bd)) (Nd Aj3 (Lf tE) .nil))) (Nd o49 (Nd Bd (Nd tE (Lf Air) (Lf AjX)) (Nd AdV (Lf Al7) (Lf tE))) (Nd (Aa5 P) (Nd tE (Lf Bd) (Lf tE)) (Nd Bd (Lf AkF) .nil)))) (Nd tE (Nd Ae7 (Nd o73 (Nd AhI (Lf Ad4) (Lf Ajs)) (Nd tE (Lf Aei) (Lf AjD))) (Nd AgL (Nd Ajy (Lf tE) (Lf AkD)) (Nd tE (Lf Bd) .nil))) (Nd tE (Nd o89 (Nd Aep (Lf AlB) (Lf tE)) (Nd Aki (Lf Ak4) (Lf (Aiw P)))) (Nd Acq (Nd Bd (Lf Alu) (Lf AeC)) (Nd Akg (Lf tE) .nil))))) (Nd Abh (Nd o21 (Nd (Aga P) (Nd (o69 P) (Nd tE (Lf tE) (Lf Bd)) (Nd Akj (Lf tE) (Lf AkY))) (Nd AhA (Nd Al5 (Lf tE) (Lf Ah9)) (Nd tE (Lf Ado) .nil))) (Nd AfH (Nd o85 (Nd tE (Lf Bd) (Lf tE)) (Nd Bd (Lf Ai5) (Lf Ac4))) (Nd AbT (Nd AeP (Lf AkK) (Lf tE)) (Nd Ai2 (Lf Akq) .nil)))) (Nd tE (Nd tE (Nd Afd (Nd Acw (Lf Bd) (Lf AjV)) (Nd tE (Lf Bd) (Lf tE))) (Nd AcC (Nd tE (Lf Aew) (Lf Aiq)) (Nd Ac1 (Lf Aln) .nil))) (Nd tE (Nd Ib (Nd Bd (Lf AlD) (Lf Adu)) (Nd Ai4 (Lf tE) (Lf Adq))) (Nd (Aa4 P) (Nd AjW (Lf Al2) (Lf Bd)) (Nd Aic (Lf tE) .nil))))))) (Nd (boot_o_2 P) (Nd (boot_o_4 P) (Nd (boot_o_8 P) (Nd Bd (Nd o32 (Nd tE (Nd AaT (Lf Ak1) (Lf tE)) (Nd Bd (Lf AlS) (Lf AdG))) (Nd AfZ (Nd AdX (Lf Akn) (Lf tE)) (Nd AiK (Lf Alz) .nil))) (Nd o48 (Nd tE (Nd Aj0 (Lf AdZ) (Lf o400)) (Nd tE (Lf Ad9) (Lf Ale))) (Nd Ib (Nd AiX (Lf tE) (Lf AjC)) (Nd tE (Lf Bd) .nil)))) (Nd (Afg P) (Nd AfI (Nd Afz (Nd Ahv (Lf tE) (Lf Ac6)) (Nd o200 (Lf tE) (Lf Alr))) (Nd Ahr (Nd Aii (Lf Ai0) (Lf Bd)) (Nd AlO (Lf tE) .nil))) (Nd (AfS P) (Nd (o88 P) (Nd tE (Lf AcO) (Lf AlQ)) (Nd Adb (Lf AlR) (Lf Alo))) (Nd Agx (Nd tE (Lf Bd) (Lf tE)) (Nd Bd (Lf Ajp) .nil))))) (Nd Aho (Nd o20 (Nd Ib (Nd o68 (Nd AhC (Lf Ak2) (Lf tE)) (Nd AiR (Lf Alp) (Lf Bd))) (Nd Bd (Nd Bd (Lf AiI) (Lf AcU)) (Nd Ah7 (Lf tE) .nil))) (Nd Afr (Nd AfE (Nd AkV (Lf tE) (Lf Aim)) (Nd tE (Lf Bd) (Lf tE))) (Nd Ab2 (Nd tE (Lf Ad3) (Lf AiA)) (Nd AeO (Lf Akf) .nil)))) (Nd Af7 (Nd o44 (Nd tE (Nd Acr (Lf tE) (Lf Bd)) (Nd AiZ (Lf tE) (Lf Ak3))) (Nd Ahi (Nd AlX (Lf tE) (Lf Als)) (Nd tE (Lf Ad6) .nil))) (Nd Ae8 (Nd o92 (Nd tE (Lf Bd) (Lf tE)) (Nd Bd (Lf Ajl) (Lf Ai3))) (Nd Ib (Nd AeG (Lf Aky) (Lf tE)) (Nd Aia (Lf AlG) .nil)))))) (Nd (boot_o_6 P) (Nd (boot_o_10 P) (Nd tE (Nd AfU (Nd o66 (Nd tE (Lf Ac2) (Lf AkQ)) (Nd tE (Lf AeZ) (Lf Aij))) (Nd AfA (Nd Aly (Lf tE) (Lf AjM)) (Nd tE (Lf Bd) .nil))) (Nd (o50 P) (Nd o82 (Nd Ad2 (Lf Ait) (Lf tE)) (Nd Ak7 (Lf AjN) (Lf Bd))) (Nd tE (Nd Bd (Lf AkI) (Lf Ad0)) (Nd AjI (Lf tE) .nil)))) (Nd Bd (Nd tE (Nd Ib (Nd (AgC P) (Lf Aje) (Lf AjH)) (Nd Aey (Lf AkT) (Lf tE))) (Nd Ag1 (Nd tE (Lf Bd) (Lf tE)) (Nd Bd (Lf AiC) .nil))) (Nd AfP (Nd AfL (Nd AkR (Lf AkG) (Lf Bd)) (Nd Aie (Lf tE) (Lf Ad1))) (Nd AaF (Nd AkX (Lf tE) (Lf Aej)) (Nd tE (Lf AdE) .nil))))) (Nd Acu (Nd o22 (Nd tE (Nd o70 (Nd Abj (Lf Bd) (Lf AjZ)) (Nd tE (Lf Bd) (Lf tE))) (Nd tE (Nd tE (Lf Aed) (Lf AlE)) (Nd AeR (Lf Ai7) .nil))) (Nd o54 (Nd o86 (Nd Bd (Lf AiB) (Lf Aek)) (Nd AiV (Lf tE) (Lf AlA))) (Nd tE (Nd AlZ (Lf Ak0) (Lf Ib)) (Nd Ajx (Lf tE) .nil)))) (Nd (o30 P) (Nd Afh (Nd AfD (Nd tE (Lf AjB) (Lf tE)) (Nd Bd (Lf AjO) (Lf Ada))) (Nd AcE (Nd Aet (Lf Aip) (Lf tE)) (Nd Ajk (Lf Akw) .nil))) (Nd Bd (Nd (AfW P) (Nd Aj5 (Lf tE) (Lf AlL)) (Nd tE (Lf AdK) (Lf Aeo))) (Nd tE (Nd AjA (Lf tE) (Lf AkZ)) (Nd tE (Lf Bd) .nil)))))))
noncomputable def Aj2 (w:World) (os:OsState):SharedT:=⟨AmT w.params,479,Life.mk [] [] [] 0 [] [] Bool.false #[] [] 0 Bool.false Bool.false Bool.false 0 [2000,10,10] Bool.false 0 Bool.true [] [] 0 Bool.false,Array.mk [],Drawn.mk 0 0 0 0,801,os⟩
noncomputable def AiN:Pos:=⟨235,0,251,63⟩
end
noncomputable def vw:Program:={ PySem.Challenge.pw_formcycle_k73_whole_roads_meet with main:={ PySem.Challenge.pw_formcycle_k73_whole_roads_meet.main with body:=[tp 0,tp 2,tp 3,tp 4,tp 5,tp 6,tp 7,tp 8,tp 10,tp 11,tp 12,tp 13,tp 14,tp 15,tp 16,tp 18,tp 19,tp 20,tp 21,tp 22,tp 23,tp 24,tp 25,tp 26,tp 27,tp 28,tp 29,tp 30,tp 31,tp 33,tp 34,tp 35,tp 36,tp 37,tp 39,tp 40,tp 41,tp 42,tp 43,tp 44,tp 46,tp 47,tp 48,tp 49,tp 51,tp 52,tp 53,tp 54,tp 55,tp 56,tp 57,tp 58,tp 59,tp 60,tp 62,tp 63,tp 64,tp 65,tp 66,tp 68,tp 69,tp 70,tp 71,tp 72,tp 73,tp 74,tp 76,tp 77,tp 78,tp 80,tp 81,tp 82,tp 83,tp 84,tp 85,tp 86,tp 87,tp 88,tp 89,tp 90] } }
noncomputable def asK:List Nat:=[2,3,15,17,18,20,21,22,29,30,31,32,35,42,44,45,47,48,49,50,51,54,61,63,64,66,67,68,69,70,73,80,82,83,85,86,87,88,89,92,99,101,102,104,105,106,107,108,111,118,119,120,123,130,132,133,135,136,137,138,139,142,144,145,147,148,149,151,152,154,155,156,158,159,161,162,163,165,166,168,169,170,172,173,175,176,177,179,180,182,183,184,186,187,189,190,191,193,194,196,197,198,200,201,203,204,205,207,208,210,211,212,214,215,217,218,219,221,222,224,225,226,228,229,231,232,233,235,236,238,239,240,242,243,245,246,247,249,250,252,253,254,256,257,259,260,261,263,264,266,267,268,270,271,273,274,275,276,278,279,281,282,283,285,286,288,289,290,292,293,295,296,297,299,300,302,303,304,306,307,309,310,311,313,314,316,317,318,320,321,323,324,325,327,328,330,331,332,334,335,337,338,339,341,342,344,345,346,348,349,351,352,353,355,356,358,359,360,362,363,365,366,367,369,370,372,373,374,376,377,379,380,381,383,384,386,387,388,390,391,393,394,395,397,398,400,401,402,404,405,407,408,409,411,412,414,415,416,418,419,421,422,423,425,426,428,429,430,432,433,435,436,444,446,447,449,450,451,453,454,456,457,458,460,461,463,464,465,467,468,470,471,472,473,474,475,476,479,486,488,489,491,492,493,494,495,498,505,507,508,510,511,512,513,514,517,519,520,522,523,524,526,527,529,530,531,534,535,536,538,539,541,542,543,546,547,548,551,552,553,556,557,558,560,561,563,564,565,567,568,570,571,572,574,575,577,578,579,581,582,584,585,586,588,589,591,592,593,595,596,598,599,600,603,604,605,607,608,610,611,612,614,615,617,618,619,621,622,624,625,626,628,629,631,632,633,635,636,638,639,640,642,643,645,646,647,649,650,652,653,654,657,658]
noncomputable def bE:List Stmt:=behindTheImports PySem.Challenge.rw_formcycle_k73_whole_roads_meet.row.prog
noncomputable def ev:Env:={ scope:=PySem.Challenge.rw_formcycle_k73_whole_roads_meet.row.prog.main.scope,locals:=mainNs,globals:=mainNs,cells:=[],code:=.ref 13,frame:=some 14 }
noncomputable def cc:Code:=.body bE ev
noncomputable def qq:Pos:=.mk 0 0 0 0
noncomputable def pp:Pos:=⟨0,0,0,0⟩
theorem Aks:∀ w os,goT treeTable PySem.Challenge.rw_formcycle_k73_whole_roads_meet.row.prog w 11 (some (.ref 6)) 12 (R5 w os) (topStub PySem.Challenge.rw_formcycle_k73_whole_roads_meet.row.prog)=some (St0 w os,⟨denote treeTable cc,cc,pp,[topFrame qq]⟩):=fun w os=>by kernel_rfl
theorem AiD:∀ w os,segRunT treeTable PySem.Challenge.rw_formcycle_k73_whole_roads_meet.row.prog w 11 (some (.ref 6)) 1 1 (St0 w os) (blockOf bE ev cc pp [topFrame qq])=some (.next,St0 w os,cc,ps0):=fun w os=>by kernel_rfl
noncomputable def l9:List Stmt:=List.take 9 bE
noncomputable def r9:List Stmt:=List.drop 9 bE
theorem g_9:∀ w os,segRunT treeTable PySem.Challenge.rw_formcycle_k73_whole_roads_meet.row.prog w 11 (some (.ref 6)) 1 1665 (St0 w os) (piecesOf l9 ev cc ps0 [topFrame qq])=some (.next,St9 w os,cc,ps9):=fun w os=>by kernel_rfl
noncomputable def l63:List Stmt:=List.take 54 r9
noncomputable def r63:List Stmt:=List.drop 54 r9
theorem AnW:∀ w os,segRunT treeTable PySem.Challenge.rw_formcycle_k73_whole_roads_meet.row.prog w 11 (some (.ref 6)) 1 1713 (St9 w os) (piecesOf l63 ev cc ps9 [topFrame qq])=some (.next,Aj2 w os,cc,AiN):=fun w os=>by kernel_rfl
noncomputable def TL (w:World) (os:OsState):Option SharedT:=Wi treeTable PySem.Challenge.rw_formcycle_k73_whole_roads_meet.row.prog w 11 (some (.ref 6)) 1254 (Aj2 w os) (restOf r63 ev cc AiN [topFrame qq])
theorem hr:∀ w os r,TL w os=some r→topRun treeTable PySem.Challenge.rw_formcycle_k73_whole_roads_meet.row.prog w (Bw w os).heap.objs.size ((Bw w os).heap.nsMap mainGlobals "__annotations__") 4645 (Bw w os) (topStub PySem.Challenge.rw_formcycle_k73_whole_roads_meet.row.prog)=some r.abs:=fun w os r h=>by
 rw [show (Bw w os).heap.objs.size=11 by kernel_rfl,show (Bw w os).heap.nsMap mainGlobals "__annotations__"=some (.ref 6) by kernel_rfl]
 have k:=Tv _ h
 have k:=piece_app (segRun_of (AnW w os)) k
 rw [show l63 ++ r63=r9 from List.take_append_drop _ _] at k
 have k:=piece_app (segRun_of (g_9 w os)) k
 rw [show l9 ++ r9=bE from List.take_append_drop _ _] at k
 have k:=piece_block (segRun_of (AiD w os)) k
 have k:=go_top (AcG _ (Aks w os)) k
 rw [boot_abs] at k
 exact k
noncomputable def sA0 (s:Shared):=PyProof.Rows.seen ((PyProof.Rows.recsOf vw).map (·.name)) (PyProof.Rows.ownsOf vw) [] { s with gens:=#[] }
noncomputable def sA1 (s:Shared):=s.heap.bltView
noncomputable def sA2 (s:Shared):=s.heap.keysOk (looseW vw []) ((PyProof.Rows.recsOf vw).map (·.name)) ((PyProof.Rows.litsOf vw).map (·.1)) ((PyProof.Rows.clssOf vw (looseW vw [])).map (·.name)) && s.heap.accountedOkI (importedModules PySem.Challenge.rw_formcycle_k73_whole_roads_meet.row.prog.main.body) && s.heap.isNs mainGlobals && s.heap.isNs builtinsNs && PyProof.Rows.tablesOk vw s.heap && (xlAt vw [] s && recOk (RowW.records PySem.Challenge.rw_formcycle_k73_whole_roads_meet.row.toRowW) s) && (if true then s.gens.size == 0 else !leftWithCleanup s.gens)
noncomputable def sA3 (s:Shared):=PyProof.Rows.tabsOk vw s
noncomputable def sA4 (s:Shared):=pinSeenD vw (PyProof.Rows.drecsOf vw) s
noncomputable def sA5 (s:Shared):=PyProof.Rows.plainSeenE vw (looseW vw []) s
noncomputable def sA6 (s:Shared):=PyProof.Rows.plainSeenD vw [] s
noncomputable def sA7 (s:Shared):=wideSeen vw s
noncomputable def sA8 (s:Shared):=clsSeenW vw [] s
theorem hA:∀ (w:World) (os:OsState),(TL w os).map (fun r=>stays PySem.Challenge.rw_formcycle_k73_whole_roads_meet.row.prog (Bw w os) r.abs)=some true:=fun w os=>by kernel_rfl
theorem hB0:∀ (w:World) (os:OsState),(TL w os).map (fun r=>sA0 r.abs)=some (PyProof.Rows.expectedOf vw):=fun w os=>by kernel_rfl
theorem hB1:∀ (w:World) (os:OsState),(TL w os).map (fun r=>(sA1 r.abs,sA3 r.abs,sA4 r.abs,sA6 r.abs,sA8 r.abs))=some (bltViewBooted,true,pinGoodD (PyProof.Rows.drecsOf vw),PyProof.Rows.plainGoodD vw [],clsGoodW vw []):=fun w os=>by kernel_rfl
theorem hB2:∀ (w:World) (os:OsState),(TL w os).map (fun r=>sA2 r.abs)=some true:=fun w os=>by kernel_rfl
theorem hB5:∀ (w:World) (os:OsState),(TL w os).map (fun r=>sA5 r.abs)=some (PyProof.Rows.plainGoodE vw (looseW vw [])):=fun w os=>by kernel_rfl
theorem hB7:∀ (w:World) (os:OsState),(TL w os).map (fun r=>sA7 r.abs)=some (wideGood vw):=fun w os=>by kernel_rfl
theorem nine {α0 α1 α2 α3 α4 α5 α6 α7 α8:Type} {o:Option SharedT} {A0:Shared→α0} {A1:Shared→α1} {A2:Shared→α2} {A3:Shared→α3} {A4:Shared→α4} {A5:Shared→α5} {A6:Shared→α6} {A7:Shared→α7} {A8:Shared→α8} {a0:α0} {a1:α1} {a2:α2} {a3:α3} {a4:α4} {a5:α5} {a6:α6} {a7:α7} {a8:α8}
  (h0:o.map (fun r=>A0 r.abs)=some a0) (h1:o.map (fun r=>(A1 r.abs,A3 r.abs,A4 r.abs,A6 r.abs,A8 r.abs))=some (a1,a3,a4,a6,a8)) (h2:o.map (fun r=>A2 r.abs)=some a2) (h5:o.map (fun r=>A5 r.abs)=some a5) (h7:o.map (fun r=>A7 r.abs)=some a7) :
  o.map (fun r=>(A0 r.abs,A1 r.abs,A2 r.abs,A3 r.abs,A4 r.abs,A5 r.abs,A6 r.abs,A7 r.abs,A8 r.abs))=some (a0,a1,a2,a3,a4,a5,a6,a7,a8):=by
 cases o with
 | none=>cases h0
 | some r =>
  simp only [Option.map_some,Option.some.injEq,Prod.mk.injEq] at h0 h1 h2 h5 h7 ⊢
  exact ⟨h0,h1.1,h2,h1.2.1,h1.2.2.1,h5,h1.2.2.2.1,h7,h1.2.2.2.2⟩
theorem hB:∀ (w:World) (os:OsState),(TL w os).map (fun r=>openSeen vw [] (importedModules PySem.Challenge.rw_formcycle_k73_whole_roads_meet.row.prog.main.body) (fun s=>xlAt vw [] s && recOk (RowW.records PySem.Challenge.rw_formcycle_k73_whole_roads_meet.row.toRowW) s) true r.abs)=some (openGood vw []):=fun w os=>nine (A0:=sA0) (A1:=sA1) (A2:=sA2) (A3:=sA3) (A4:=sA4) (A5:=sA5) (A6:=sA6) (A7:=sA7) (A8:=sA8) (hB0 w os) (hB1 w os) (hB2 w os) (hB5 w os) (hB7 w os)
theorem hC:∀ (w:World) (os:OsState),(TL w os).map (fun r=>Hook.obs (kHook My.KK My.asK (fun _=>by kernel_rfl)) r.abs)=some (Hook.val (kHook My.KK My.asK (fun _=>by kernel_rfl)) w):=fun w os=>by kernel_rfl
theorem hl:LeftO PySem.Challenge.rw_formcycle_k73_whole_roads_meet.row.prog vw [] (fun s=>xlAt vw [] s && recOk (RowW.records PySem.Challenge.rw_formcycle_k73_whole_roads_meet.row.toRowW) s) (Hook.obs (kHook My.KK My.asK (fun _=>by kernel_rfl))) (Hook.val (kHook My.KK My.asK (fun _=>by kernel_rfl))) 4645:=fun w=>Acp (TL:=TL w) (by kernel_rfl) (by decide) (fun _=>by kernel_rfl) (hr w) (hA w) (hB w) (hC w) (fun os=>by kernel_rfl)
end My
namespace L2
open PySem PySem.Spec PyProof.Rows
noncomputable abbrev Key:=Sum Int Str
noncomputable def Afv:Key→Value→Bool
 | .inl k,v=>Value.isInt k v
 | .inr x,v=>Value.isStrOf x v
noncomputable def Am2 (w:World):Key→Int
 | .inl k=>hashInt k
 | .inr x=>hashStr w x
theorem Cz:∀ {k:Key} {v:Value},Afv k v=true→(∃ i t,k=Sum.inl i∧v=Value.int i t)∨(∃ x t,k=Sum.inr x∧v=Value.str x t)
 | .inl i,v,h=>by
  obtain ⟨t,e⟩:=Value.isInt_shape (k:=i) (v:=v) h
  exact .inl ⟨i,t,rfl,e⟩
 | .inr x,v,h=>by
  obtain ⟨t,e⟩:=Value.isStrOf_shape (x:=x) (v:=v) h
  exact .inr ⟨x,t,rfl,e⟩
theorem Ahe (a b:Int):decide ((Sum.inl a:Key)=Sum.inl b)=(a == b):=by
 by_cases e:a=b
 ·subst e;simp
 ·have h:¬ (Sum.inl a:Key)=Sum.inl b:=fun q=>e (Sum.inl.inj q)
  rw [decide_eq_false h]
  exact (beq_eq_false_iff_ne.mpr e).symm
theorem AhM (a b:Str):decide ((Sum.inr a:Key)=Sum.inr b)=decide (a=b):=by
 by_cases e:a=b
 ·subst e;simp
 ·have h:¬ (Sum.inr a:Key)=Sum.inr b:=fun q=>e (Sum.inr.inj q)
  rw [decide_eq_false h,decide_eq_false e]
theorem Ahb (a:Int) (b:Str):decide ((Sum.inl a:Key)=Sum.inr b)=false:=decide_eq_false (fun q=>nomatch q)
theorem Agd (a:Str) (b:Int):decide ((Sum.inr a:Key)=Sum.inl b)=false:=decide_eq_false (fun q=>nomatch q)
noncomputable def Ub (prog:Program) (w:World):PySem.KeyKind prog w Key where
 is:=Afv
 hash:=Am2 w
 inj:=fun v a b ha hb=>by
  rcases Cz ha with ⟨i,t,rfl,rfl⟩ | ⟨x,t,rfl,rfl⟩
  ·rcases Cz hb with ⟨j,u,rfl,e⟩ | ⟨y,u,rfl,e⟩
   ·injection e with e1 _;rw [e1]
   ·exact nomatch e
  ·rcases Cz hb with ⟨j,u,rfl,e⟩ | ⟨y,u,rfl,e⟩
   ·exact nomatch e
   ·injection e with e1 _;rw [e1]
 byValue:=fun k v h=>by
  rcases Cz h with ⟨i,t,rfl,rfl⟩ | ⟨x,t,rfl,rfl⟩ <;> rfl
 pyHash:=fun hv h=>by
  rcases Cz hv with ⟨i,t,rfl,rfl⟩ | ⟨x,t,rfl,rfl⟩
  ·exact wpAny_pyHash_int h
  ·exact wpAny_pyHash_str h
 eqBool:=fun hu hv h=>by
  rcases Cz hu with ⟨i,t,rfl,rfl⟩ | ⟨x,t,rfl,rfl⟩
  ·rcases Cz hv with ⟨j,u,rfl,rfl⟩ | ⟨y,u,rfl,rfl⟩
   ·rw [Ahe] at h;exact wpAny_eqBool_int h
   ·rw [Ahb] at h;exact SeqAt.EqAt.int_str i t y u _ _ _ _ h
  ·rcases Cz hv with ⟨j,u,rfl,rfl⟩ | ⟨y,u,rfl,rfl⟩
   ·rw [Agd] at h;exact SeqAt.EqAt.str_int x t j u _ _ _ _ h
   ·rw [AhM] at h;exact wpAny_eqBool_str h
 «strs» := fun k x t v h=>by
  rcases Cz h with ⟨i,u,rfl,e⟩ | ⟨y,u,rfl,e⟩
  ·exact nomatch e
  ·injection e with e1 _
   subst e1
   cases v <;> rfl
end L2
namespace L2
open PySem PySem.Spec PyProof.Rows
inductive V where
 | non | bl (b:Bool) | int (i:Int) | str (x:Str) | byt (b:Array UInt8) | flt (b:UInt64) | ref (a:Addr) | ty (n:String)
 deriving DecidableEq
noncomputable def RelV:V→Value→Prop
 | .non,u=>u=Value.none
 | .bl b,u=>u=Value.bool b
 | .int i,u=>∃ t,u=Value.int i t
 | .str x,u=>∃ t,u=Value.str x t
 | .byt b,u=>∃ t,u=Value.bytes b t
 | .flt b,u=>∃ t,u=Value.float b t
 | .ref a,u=>u=Value.ref a
 | .ty n,u=>u=Value.type n
noncomputable abbrev Vals:List V→List Value→Prop:=Paired RelV
theorem Vals.length {xs:List V} {us:List Value} (r:Vals xs us):xs.length=us.length:=Paired.length r
theorem Vals.get:∀ {xs:List V} {us:List Value} {i:Nat} {x:V},Vals xs us→xs[i]? = some x→∃ u,us[i]? = some u∧RelV x u
 | _,_,_,_,.nil,e=>by simp at e
 | _,_,0,_,.cons r _,e=>by simp at e;subst e;exact ⟨_,rfl,r⟩
 | _,_,i+1,x,.cons _ t,e=>by
  obtain ⟨u,h1,h2⟩:=Vals.get (i:=i) (x:=x) t (by simpa using e)
  exact ⟨u,by simpa using h1,h2⟩
theorem Vals.append:∀ {xs ys:List V} {us ws:List Value},Vals xs us→Vals ys ws→Vals (xs ++ ys) (us ++ ws)
 | _,_,_,_,.nil,s=>s
 | _,_,_,_,.cons r t,s=>.cons r (Vals.append t s)
theorem Vals.take:∀ {xs:List V} {us:List Value} (n:Nat),Vals xs us→Vals (xs.take n) (us.take n)
 | _,_,0,_=>.nil
 | _,_,_+1,.nil=>.nil
 | _,_,n+1,.cons r t=>.cons r (Vals.take n t)
theorem Vals.drop:∀ {xs:List V} {us:List Value} (n:Nat),Vals xs us→Vals (xs.drop n) (us.drop n)
 | _,_,0,r=>r
 | _,_,_+1,.nil=>.nil
 | _,_,n+1,.cons _ t=>Vals.drop n t
noncomputable def Rw:Option V→Option Value→Prop
 | some v,some u=>RelV v u
 | none,none=>True
 | _,_=>False
noncomputable def KV {κ:Type}:List (κ × V)→List (κ × Value)→Prop:=Paired fun (p:κ × V) (q:κ × Value)=>p.1=q.1∧RelV p.2 q.2
noncomputable def kV:Key→V
 | .inl i=>.int i
 | .inr x=>.str x
inductive HO where
  | lst (xs:List V)
  | tup (xs:List V)
  | dK (kvs:List (Key × V)) | dT (kvs:List (List Key × V))
  | set (S:Int→Bool) (n:Nat)
  | ins (C dx:Addr) (fs:List (Str × V))
  | own (x:Addr)
  | xd (fs:List (Str × V))
  | met (f x:Addr)
  | rng (lo hi:Int)
  | frz (o:Obj) (u:HO)
  | tbl (ps:Array Value)
  | ext (φ:Heap→Prop)
noncomputable abbrev Hp:=Addr→Option HO
noncomputable def upd (H:Hp) (a:Addr) (o:HO):Hp:=fun b=>if b=a then some o else H b
theorem Cq {H:Hp} {a:Addr} {o:HO}:upd H a o a=some o:=by unfold upd;rw [if_pos rfl]
theorem Bp {H:Hp} {a b:Addr} {o:HO} (h:b≠a):upd H a o b=H b:=by unfold upd;rw [if_neg h]
theorem Dr {H:Hp} {a b:Addr} {o:HO} (h:H a=some o) (h':H b=none):a≠b:=by
 intro e;subst e;rw [h] at h';cases h'
section
variable (P:Program) (w:World)
noncomputable def Im (H:Hp) (h:Heap) (a:Addr):HO→Prop
 | .lst xs=>xs.length≤sizeLine∧∃ (its:List Value) (n:Nat),Vals xs its∧h.get? a=some { cls:=.type "list",data:=.seq its.toArray n }
 | .tup xs=>xs.length≤sizeLine∧∃ its:List Value,Vals xs its∧IsTup h a its.toArray
 | .dK kvs=>kvs.length≤sizeLine∧(a == sysModules)=false∧∃ vs,KV kvs vs∧h.DictOf (Ub P w) a vs
 | .dT kvs=>kvs.length≤sizeLine∧(a == sysModules)=false∧∃ xs:List (List Key × Addr × Value),
   Paired (fun (p:List Key × V) (q:List Key × Addr × Value)=>p.1=q.1∧H q.2.1=some (.tup (p.1.map kV))∧RelV p.2 q.2.2) kvs xs ∧
   ∃ o es ep,h.get? a=some o∧o.ExactDict∧o.data=.dict es ep∧es.toList=xs.map (entryOfKey (tupleKind (Ub P w)))∧(xs.map (·.1)).Nodup
 | .set S n=>h.SetOf (intKind P w) a S n
 | .ins C dx fs=>H dx=some (.own a)∧fs.length≤1000∧dx≠a∧h.get? a=some (PySem.W.instObj C dx) ∧
   ∃ mA,h.Ns1 dx mA∧(∀ f,Rw (fs.lookup f) (mA f))∧PySem.Within mA (fs.map (·.1))
 | .own _=>∃ o,h.get? a=some o
 | .xd fs=>∃ mA,h.Ns1 a mA∧∀ f,Rw (fs.lookup f) (mA f)
 | .rng lo hi=>∃ t u v,h.get? a=some { cls:=.type "range",data:=.fields #[.int lo t,.int hi u,.int 1 v] }
 | .frz o u=>h.get? a=some o∧Im H h a u
 | .tbl ps=>h.get? a=some { cls:=.none,data:=.fields ps }
 | .met f x=>h.get? a=some (PySem.W.methodObj (.ref f) (.ref x))
 | .ext φ=>φ h∧(∃ o,h.get? a=some o)∧∀ h1 h2:Heap,φ h1→(∀ o,h1.get? a=some o→h2.get? a=some o)→φ h2
noncomputable def HOk (H:Hp) (h:Heap):Prop:=∀ a o,H a=some o→Im P w H h a o
end
section
variable {P:Program} {w:World} {H H':Hp} {h h':Heap} {a:Addr} {o:HO}
theorem Im.lt (x:Im P w H h a o):a < h.objs.size:=by
 cases o with
 | lst xs=>obtain ⟨_,_,_,_,e⟩:=x;exact Heap.lt_size e
 | tup xs=>obtain ⟨_,_,_,p⟩:=x;exact p.lt
 | dK kvs=>obtain ⟨_,_,_,_,o,_,_,e,_⟩:=x;exact Heap.lt_size e
 | dT kvs=>obtain ⟨_,_,_,_,o,_,_,e,_⟩:=x;exact Heap.lt_size e
 | set S n=>obtain ⟨o,_,_,_,e,_⟩:=x;exact Heap.lt_size e
 | ins C dx fs=>obtain ⟨_,_,_,e,_⟩:=x;exact Heap.lt_size e
 | own y=>obtain ⟨_,e⟩:=x;exact Heap.lt_size e
 | xd fs=>obtain ⟨_,⟨_,_,_,e,_⟩,_⟩:=x;exact Heap.lt_size e
 | rng lo hi=>obtain ⟨_,_,_,e⟩:=x;exact Heap.lt_size e
 | frz ob u=>obtain ⟨e,_⟩:=x;exact Heap.lt_size e
 | tbl ps=>exact Heap.lt_size (show h.get? a=some _ from x)
 | met f y=>exact Heap.lt_size (show h.get? a=some _ from x)
 | ext φ=>obtain ⟨_,⟨_,e⟩,_⟩:=x;exact Heap.lt_size e
theorem Paired.mapP {α β:Type} {F G:α→β→Prop}:∀ {l₁:List α} {l₂:List β},Paired F l₁ l₂→(∀ a b,F a b→G a b)→Paired G l₁ l₂
 | _,_,.nil,_=>.nil
 | _,_,.cons r t,f=>.cons (f _ _ r) (Paired.mapP t f)
theorem Im.stay (x:Im P w H h a o) (k:∀ b u,(b=a∨H b=some (.own a))→h.get? b=some u→h'.get? b=some u)
  (ho:∀ b,H b=some (.own a)→H' b=some (.own a)) (ht:∀ b xs,H b=some (.tup xs)→H' b=some (.tup xs)):Im P w H' h' a o:=by
 induction o with
 | lst xs=>obtain ⟨z,its,n,r,e⟩:=x;exact ⟨z,its,n,r,k _ _ (.inl rfl) e⟩
 | tup xs=>obtain ⟨z,its,r,ob,e,c⟩:=x;exact ⟨z,its,r,ob,k _ _ (.inl rfl) e,c⟩
 | dK kvs=>obtain ⟨z,y,vs,r,ob,es,ep,e,c⟩:=x;exact ⟨z,y,vs,r,ob,es,ep,k _ _ (.inl rfl) e,c⟩
 | dT kvs =>
  obtain ⟨z,y,xs,r,ob,es,ep,e,c⟩:=x
  exact ⟨z,y,xs,Paired.mapP r fun p q z=>⟨z.1,ht _ _ z.2.1,z.2.2⟩,ob,es,ep,k _ _ (.inl rfl) e,c⟩
 | set S n=>obtain ⟨ob,es,ep,t,e,c⟩:=x;exact ⟨ob,es,ep,t,k _ _ (.inl rfl) e,c⟩
 | ins C dx fs =>
  obtain ⟨d,z,ne,e,mA,⟨od,es,ep,e2,c⟩,r⟩:=x
  exact ⟨ho _ d,z,ne,k _ _ (.inl rfl) e,mA,⟨od,es,ep,k _ _ (.inr d) e2,c⟩,r⟩
 | own y=>obtain ⟨ob,e⟩:=x;exact ⟨ob,k _ _ (.inl rfl) e⟩
 | xd fs=>obtain ⟨mA,⟨od,es,ep,e,c⟩,r⟩:=x;exact ⟨mA,⟨od,es,ep,k _ _ (.inl rfl) e,c⟩,r⟩
 | rng lo hi=>obtain ⟨t,u,v,e⟩:=x;exact ⟨t,u,v,k _ _ (.inl rfl) e⟩
 | frz ob u ih=>obtain ⟨e,q⟩:=x;exact ⟨k _ _ (.inl rfl) e,ih q⟩
 | tbl ps =>
  have e:h.get? a=some { cls:=.none,data:=.fields ps }:=x
  show h'.get? a=some { cls:=.none,data:=.fields ps }
  exact k a _ (.inl rfl) e
 | met f y =>
  have e:h.get? a=some (PySem.W.methodObj (.ref f) (.ref y)):=x
  show h'.get? a=some (PySem.W.methodObj (.ref f) (.ref y))
  exact k a _ (.inl rfl) e
 | ext φ=>obtain ⟨p,⟨o,e⟩,st⟩:=x;exact ⟨st _ _ p fun o q=>k _ _ (.inl rfl) q,⟨o,k _ _ (.inl rfl) e⟩,st⟩
theorem HOk.lt (x:HOk P w H h) (e:H a=some o):a < h.objs.size:=(x a o e).lt
theorem HOk.fresh (x:HOk P w H h) (e:h.objs.size≤a):H a=none:=by
 cases q:H a with
 | none=>rfl
 | some u=>exact absurd (Nat.lt_of_lt_of_le (x.lt q) e) (Nat.lt_irrefl _)
theorem HOk.kept (x:HOk P w H h) (k:∀ b u,h.get? b=some u→h'.get? b=some u):HOk P w H h':=fun a o e =>
 (x a o e).stay (fun b u _ q=>k b u q) (fun _ q=>q) fun _ _ q=>q
theorem HOk.laid (x:HOk P w H h) (k:∀ b u,h.get? b=some u→h'.get? b=some u) (hp:h.objs.size≤a) (new:Im P w (upd H a o) h' a o):HOk P w (upd H a o) h':=fun b u e=>by
 have hn:=x.fresh hp
 by_cases hb:b=a
 ·subst hb;rw [Cq] at e;cases e;exact new
 ·rw [Bp hb] at e
  exact (x b u e).stay (fun c v _ q=>k c v q) (fun c q=>by rw [Bp (Dr q hn)];exact q) fun c xs q=>by rw [Bp (Dr q hn)];exact q
end
noncomputable def Rd (H:Hp) (a:Addr) (u:HO):Prop:=H a=some u∨∃ o,H a=some (.frz o u)
theorem Rd.ok {P:Program} {w:World} {H:Hp} {h:Heap} {a:Addr} {u:HO} (r:Rd H a u) (x:HOk P w H h):Im P w H h a u:=by
 rcases r with r | ⟨o,r⟩
 ·exact x a u r
 ·obtain ⟨_,q⟩:=x a _ r
  exact q
noncomputable def Mut:Option HO→Prop
 | some (.lst _)=>True
 | some (.dK _)=>True
 | some (.dT _)=>True
 | some (.set _ _)=>True
 | some (.ins _ _ _)=>True
 | some (.ext _)=>True
 | _=>False
section
variable {P:Program} {w:World} {H:Hp} {h h':Heap} {x e:Addr} {o':HO}
theorem HOk.write (ok:HOk P w H h) (mu:Mut (H x)) (he:e=x∨H e=some (.own x)) (k:∀ b u,b≠e→h.get? b=some u→h'.get? b=some u) (heo:∃ u,h'.get? e=some u)
  (new:Im P w (upd H x o') h' x o'):HOk P w (upd H x o') h':=fun b u q=>by
 have nown:∀ c y,H c=some (.own y)→c≠x:=fun c y r z=>by subst z;rw [r] at mu;exact mu
 have ntup:∀ c xs,H c=some (.tup xs)→c≠x:=fun c xs r z=>by subst z;rw [r] at mu;exact mu
 by_cases hb:b=x
 ·subst hb;rw [Cq] at q;cases q;exact new
 ·rw [Bp hb] at q
  by_cases hbe:b=e
  ·have q':H b=some (.own x):=by
    rcases he with z | z
    ·exact absurd (hbe.trans z) hb
    ·rw [hbe];exact z
   rw [q] at q';cases q'
   obtain ⟨v,hv⟩:=heo
   exact ⟨v,by rw [hbe];exact hv⟩
  ·refine (ok b u q).stay (fun c v hc r=>k c v ?_ r) (fun c r=>by rw [Bp (nown c b r)];exact r) fun c xs r=>by rw [Bp (ntup c xs r)];exact r
   rcases hc with rfl | hc
   ·exact hbe
   ·rintro rfl
    rcases he with z | z
    ·exact nown c b hc z
    ·rw [hc] at z;cases z;exact hb rfl
end
structure Un (fs ex:List Addr) (H H':Hp) (h h':Heap):Prop where
 keep:∀ b o,h.get? b=some o→H b=none→b∉fs→b∉ex→h'.get? b=some o
 slot:∀ b o,h.get? b=some o→H b=none→b∈fs→b∉ex→∃ sl,h'.get? b=some { o with slots:=sl }
 free:∀ b o,h.get? b=some o→H b=none→b∉ex→H' b=none
 there:∀ b o,h.get? b=some o→b∉ex→∃ o',h'.get? b=some o'
 tups:∀ b xs,H b=some (.tup xs)→H' b=some (.tup xs)
 frzs:∀ b o u,H b=some (.frz o u)→H' b=some (.frz o u)
 tbls:∀ b ps,H b=some (.tbl ps)→∃ more,H' b=some (.tbl (ps ++ more))
section
variable {fs fs' ex ex':List Addr} {H H1 H2:Hp} {h h1 h2 h':Heap} {a x e:Addr} {o:HO}
theorem Un.any (u:Un fs ex H H1 h h1) {b:Addr} {ob:Obj} (q:h.get? b=some ob) (n:H b=none) (hx:b∉ex):∃ sl,h1.get? b=some { ob with slots:=sl }:=by
 by_cases hb:b∈fs
 ·exact u.slot b ob q n hb hx
 ·exact ⟨ob.slots,u.keep b ob q n hb hx⟩
theorem Un.trans (a:Un fs ex H H1 h h1) (b:Un fs ex H1 H2 h1 h2):Un fs ex H H2 h h2 where
 keep:=fun c ob q n hc hx=>b.keep c ob (a.keep c ob q n hc hx) (a.free c ob q n hx) hc hx
 slot:=fun c ob q n hc hx=>by
  obtain ⟨sl,e1⟩:=a.slot c ob q n hc hx
  obtain ⟨sl',e2⟩:=b.slot c _ e1 (a.free c ob q n hx) hc hx
  exact ⟨sl',e2⟩
 free:=fun c ob q n hx=>by
  obtain ⟨o',e1⟩:=a.there c ob q hx
  exact b.free c o' e1 (a.free c ob q n hx) hx
 there:=fun c ob q hx=>by
  obtain ⟨o',e1⟩:=a.there c ob q hx
  exact b.there c o' e1 hx
 tups:=fun c xs q=>b.tups c xs (a.tups c xs q)
 frzs:=fun c ob xs q=>b.frzs c ob xs (a.frzs c ob xs q)
 tbls:=fun c ps q=>by
  obtain ⟨m1,e1⟩:=a.tbls c ps q
  obtain ⟨m2,e2⟩:=b.tbls c _ e1
  exact ⟨m1 ++ m2,by rw [e2,Array.append_assoc]⟩
theorem Un.kept (k:∀ b u,h.get? b=some u→h'.get? b=some u):Un fs ex H H h h' :=
 ⟨fun b ob q _ _ _=>k b ob q,fun b ob q _ _ _=>⟨ob.slots,k b ob q⟩,fun _ _ _ n _=>n,fun b ob q _=>⟨ob,k b ob q⟩,fun _ _ q=>q,fun _ _ _ q=>q,fun _ ps q=>⟨#[],by rw [q];simp⟩⟩
theorem Un.refl:Un fs ex H H h h:=Un.kept fun _ _ q=>q
theorem Un.laid (k:∀ b u,h.get? b=some u→h'.get? b=some u) (hp:h.objs.size≤a) (hn:H a=none):Un fs ex H (upd H a o) h h' where
 keep:=fun b u q _ _ _=>k b u q
 slot:=fun b u q _ _ _=>⟨u.slots,k b u q⟩
 free:=fun b u q n _=>by rw [Bp (Nat.ne_of_lt (Nat.lt_of_lt_of_le (Heap.lt_size q) hp))];exact n
 there:=fun b u q _=>⟨u,k b u q⟩
 tups:=fun b xs q=>by rw [Bp (Dr q hn)];exact q
 frzs:=fun b u xs q=>by rw [Bp (Dr q hn)];exact q
 tbls:=fun b ps q=>⟨#[],by rw [Bp (Dr q hn),q];simp⟩
theorem Un.write (mu:Mut (H x)) (he:e=x∨H e=some (.own x)) (k:∀ b u,b≠e→h.get? b=some u→h'.get? b=some u) (heo:∃ u,h'.get? e=some u):Un fs ex H (upd H x o) h h':=by
 have hx:∀ b,H b=none→b≠x:=fun b n z=>by subst z;rw [n] at mu;exact mu
 have hb:∀ b,H b=none→b≠e:=fun b n z=>by
  subst z
  rcases he with r | r
  ·exact hx b n r
  ·rw [n] at r;cases r
 have hm:∀ b u,H b=some u→¬ Mut (some u)→b≠x:=fun b u q nm z=>by subst z;rw [q] at mu;exact nm mu
 refine ⟨fun b u q n _ _=>k b u (hb b n) q,fun b u q n _ _=>⟨u.slots,k b u (hb b n) q⟩,fun b u q n _=>by rw [Bp (hx b n)];exact n,fun b u q _=>?_,
  fun b xs q=>by rw [Bp (hm b _ q fun z=>z)];exact q,fun b u xs q=>by rw [Bp (hm b _ q fun z=>z)];exact q,fun b ps q=>⟨#[],by rw [Bp (hm b _ q fun z=>z),q];simp⟩⟩
 by_cases hbe:b=e
 ·subst hbe;exact heo
 ·exact ⟨u,k b u hbe q⟩
end
noncomputable def trk (h:Heap) (H:Hp):List Addr:=(List.range h.objs.size).filter fun a=>(H a).isSome
noncomputable def TF (h:Heap) (H:Hp):Heap:=PySem.W.hideAll h (trk h H)
theorem Aal (h:Heap) (H:Hp):(TF h H).objs.size=h.objs.size:=PySem.W.hideAll_size _ _
theorem Aav {h:Heap} {H:Hp} {b:Addr} {o:Obj} (e:h.get? b=some o) (n:H b=none):(TF h H).get? b=some o :=
 PySem.W.hideAll_get _ e fun hm=>by
  have q:(H b).isSome=true:=(List.mem_filter.mp hm).2
  rw [n] at q;simp at q
theorem Adz {h:Heap} {H:Hp} {b:Addr} {o:Obj} (e:(TF h H).get? b=some o):h.get? b=some o∧H b=none:=by
 have e':h.get? b=some o:=PySem.W.of_hideAll (trk h H) e
 refine ⟨e',?_⟩
 cases q:H b with
 | none=>rfl
 | some x =>
  have hm:b∈trk h H:=List.mem_filter.mpr ⟨List.mem_range.mpr (Heap.lt_size e'),by simp [q]⟩
  have z:(TF h H).get? b=none:=PySem.W.hideAll_none (trk h H) hm
  rw [z] at e;cases e
noncomputable def AdP (g h:Heap) (L:Addr):List (Addr × Obj):=(List.range h.objs.size).filterMap fun a=>if a=L∨(g.get? a).isSome=true then none else (h.get? a).map fun o=>(a,o)
noncomputable def rest (g h:Heap) (L d:Addr):List (Addr × Obj):=(AdP g h L).filter fun p=>decide (p.1≠d)
end L2
namespace L2
open PySem PySem.Spec PyProof.Rows
structure Mod (K:PySem.W.Frag) (mg:Str→Option Value) (base:Heap):Prop where
 kin:K.In base
 glob:base.Ns mainGlobals mg
 blt:∃ mb,base.Ns builtinsNs mb∧∀ x:Str,x≠"__name__"→mb x=bootBuiltins x
 nolimit:base.NoLimit
structure Cx where
 prog:Program
 w:World
 K:PySem.W.Frag
 mg:Str→Option Value
 base:Heap
 A:Around
 N:List Str
 s₀:Shared
 H₀:Hp
 env:Env
 outer:List Env
 stack:List Env
 ex:List Addr
 fn:Str→Bool
 calm:Bool
 pn:List (Addr × Obj)
 xe:Value→Shared→Prop
noncomputable def frs (l:List Env):List Addr:=l.filterMap (·.frame)
noncomputable abbrev Cx.fs (X:Cx):List Addr:=frs X.outer
noncomputable def Vis (sc:Scope) (x:Str):Prop:=sc.names.lookup x=some .local∨sc.names.lookup x=some .cell∨sc.names.lookup x=some .free
noncomputable def Loc (sc:Scope) (x:Str):Prop:=sc.names.lookup x=some .local∨sc.names.lookup x=some .cell
noncomputable def Look (env:Env) (h:Heap) (m:Str→Option Value) (x:Str) (u:Value):Prop :=
 (env.kindOf x=some .local∧m x=some u)∨((env.kindOf x=some .cell∨env.kindOf x=some .free)∧∃ c,env.cells.lookup x=some c∧h.IsCell c (some u))
structure Cx.Ok (X:Cx):Prop where
 mod:Mod X.K X.mg X.base
 kind:X.env.scope.kind=.function
 glob:X.env.globals=mainGlobals
 blt:X.env.builtins=builtinsNs
 above:X.s₀.heap.objs.size≤X.env.locals
 inj:∀ x y c,X.env.cells.lookup x=some c→X.env.cells.lookup y=some c→x=y
 has:∀ x,(X.env.kindOf x=some .cell∨X.env.kindOf x=some .free)→∃ c,X.env.cells.lookup x=some c
 cab:∀ x c,X.fn x=true→X.env.cells.lookup x=some c→X.s₀.heap.objs.size≤c
 hd:X.calm=true→X.A.handled=none
 frames:X.A.frames=some X.stack
 stk:X.stack=X.outer∨(X.stack=X.env :: X.outer∧X.env.frame=some X.env.locals)
 exf:∀ b∈X.ex,b≠X.env.locals∧∀ x c,X.env.cells.lookup x=some c→c≠b
 bs:∀ b o,X.base.get? b=some o→X.s₀.heap.get? b=some o∧X.H₀ b=none
 bsz:X.base.objs.size≤X.s₀.heap.objs.size
 noex:∀ b o,X.base.get? b=some o→b∉X.ex
 exfs:∀ b∈X.ex,b∉X.fs
 funs:X.s₀.heap.FunFrames X.base X.outer
 frf:∀ b∈X.fs,X.H₀ b=none
structure Inv (X:Cx) (pins:List (Addr × Obj)) (σ:List (Option V)) (H:Hp) (s:Shared):Prop where
 ok:X.Ok
 os:s.os=X.s₀.os
 bare:AllBare s.gens
 base:Un X.fs X.ex X.H₀ H X.s₀.heap s.heap
 loc:∃ m,s.heap.Ns X.env.locals m∧∀ (i:Nat) (x:Str) (v:V),X.N[i]? = some x→σ[i]? = some (some v)→Vis X.env.scope x→∃ u,RelV v u∧Look X.env s.heap m x u
 cell:∀ x c,X.env.cells.lookup x=some c→∃ v,s.heap.IsCell c v
 free:H X.env.locals=none
 freeC:∀ x c,X.env.cells.lookup x=some c→H c=none
 pin:∀ p∈X.pn ++ pins,s.heap.get? p.1=some p.2∧H p.1=none∧p.1≠X.env.locals∧p.1∉X.fs∧∀ v,p.2.data≠.cell v
 hok:HOk X.prog X.w H s.heap
 len:σ.length=X.N.length
section
variable {X:Cx} {pins:List (Addr × Obj)} {σ:List (Option V)} {H H':Hp} {s:Shared} {h':Heap}
theorem Cx.Ok.nofr (ok:X.Ok) {b:Addr} {o:Obj} (e:X.base.get? b=some o):b∉X.fs:=fun hb=>by
 have:=(ok.funs.mem hb).1
 rw [e] at this;cases this
theorem Inv.bs (I:Inv X pins σ H s):∀ b o,X.base.get? b=some o→s.heap.get? b=some o∧H b=none:=fun b o e =>
 ⟨I.base.keep b o (I.ok.bs b o e).1 (I.ok.bs b o e).2 (I.ok.nofr e) (I.ok.noex b o e),I.base.free b o (I.ok.bs b o e).1 (I.ok.bs b o e).2 (I.ok.noex b o e)⟩
theorem Inv.bk (I:Inv X pins σ H s):∀ b o,X.base.get? b=some o→s.heap.get? b=some o:=fun b o e=>(I.bs b o e).1
theorem Inv.mod (I:Inv X pins σ H s):Mod X.K X.mg X.base:=I.ok.mod
theorem Inv.kIn (I:Inv X pins σ H s):X.K.In s.heap:=I.ok.mod.kin.keeps I.bk
theorem Inv.lt (I:Inv X pins σ H s):X.env.locals < s.heap.objs.size:=let ⟨_,hn,_⟩:=I.loc;hn.lt
theorem Inv.sz (I:Inv X pins σ H s):X.s₀.heap.objs.size≤s.heap.objs.size:=Nat.le_trans I.ok.above (Nat.le_of_lt I.lt)
theorem Inv.nofs (I:Inv X pins σ H s) {a:Addr} (h:s.heap.objs.size≤a):a∉X.fs:=fun hb=>by
 obtain ⟨_,o,ho,_⟩:=I.ok.funs.mem hb
 exact absurd (Nat.lt_of_lt_of_le (Heap.lt_size ho) (Nat.le_trans I.sz h)) (Nat.lt_irrefl _)
theorem Inv.cne (I:Inv X pins σ H s):∀ x c,X.env.cells.lookup x=some c→c≠X.env.locals:=fun x c e z=>by
 obtain ⟨v,o,ho,hd⟩:=I.cell x c e
 obtain ⟨m,⟨o',es,ep,ho',hd',_⟩,_⟩:=I.loc
 rw [z,ho'] at ho;cases ho;rw [hd'] at hd;cases hd
theorem Inv.funs (I:Inv X pins σ H s):s.heap.FunFrames X.base X.outer:=by
 have all:∀ (l:List Env),(∀ b∈frs l,b∈X.fs)→X.s₀.heap.FunFrames X.base l→s.heap.FunFrames X.base l:=by
  intro l
  induction l with
  | nil=>intro _ _;trivial
  | cons env r ih =>
   intro hs hl
   obtain ⟨hk,⟨L,o,hf,hn,ho,hd⟩,hr⟩:=hl
   have hL:L∈X.fs:=hs L (by unfold frs;rw [List.filterMap_cons,hf];exact List.mem_cons_self)
   obtain ⟨sl,e⟩:=I.base.slot L o ho (I.ok.frf L hL) hL fun z=>I.ok.exfs L z hL
   exact ⟨hk,⟨L,_,hf,hn,e,hd⟩,ih (fun b hb=>hs b (by unfold frs;rw [List.filterMap_cons,hf];exact List.mem_cons_of_mem _ hb)) hr⟩
 exact all X.outer (fun _ hb=>hb) I.ok.funs
theorem Inv.stack (I:Inv X pins σ H s):s.heap.FunFrames X.base X.stack:=by
 rcases I.ok.stk with e | ⟨e,hf⟩
 ·rw [e];exact I.funs
 ·rw [e]
  obtain ⟨m,hn,_⟩:=I.loc
  refine .cons (by rw [I.ok.kind];decide) hf hn ?_ I.funs
  exact Heap.get?_none_of_le (Nat.le_trans I.ok.bsz I.ok.above)
theorem Inv.stkSub (I:Inv X pins σ H s):∀ b∈frs X.stack,b∈X.env.locals :: X.fs:=fun b hb=>by
 rcases I.ok.stk with e | ⟨e,hf⟩
 ·rw [e] at hb;exact List.mem_cons_of_mem _ hb
 ·rw [e] at hb
  unfold frs at hb
  rw [List.filterMap_cons,hf] at hb
  exact hb
theorem Inv.stkFree (I:Inv X pins σ H s):∀ b∈frs X.stack,H b=none:=fun b hb=>by
 rcases List.mem_cons.mp (I.stkSub b hb) with e | hb
 ·rw [e];exact I.free
 ·obtain ⟨_,o,ho,_⟩:=I.ok.funs.mem hb
  exact I.base.free b o ho (I.ok.frf b hb) fun z=>I.ok.exfs b z hb
theorem Inv.step {g':Array GenState} {t':Nat} {d':Drawn} {ch:List Addr} (I:Inv X pins σ H s)
  (hch:∀ b∈ch,(b∈X.ex∨X.s₀.heap.objs.size≤b)∧b≠X.env.locals∧(∀ x c,X.env.cells.lookup x=some c→c≠b)∧∀ p∈X.pn ++ pins,p.1≠b)
  (keep:∀ b o,b≠X.env.locals→b∉X.fs→b∉ch→s.heap.get? b=some o→H b=none→h'.get? b=some o)
  (slot:∀ b o,b≠X.env.locals→b∈X.fs→b∉ch→s.heap.get? b=some o→H b=none→∃ sl,h'.get? b=some { o with slots:=sl }) (free:∀ b o,b∉ch→s.heap.get? b=some o→H b=none→H' b=none)
  (there:∀ b o,b∉ch→s.heap.get? b=some o→∃ o',h'.get? b=some o')
  (tups:∀ b xs,H b=some (.tup xs)→H' b=some (.tup xs)) (frzs:∀ b o u,H b=some (.frz o u)→H' b=some (.frz o u)) (tbls:∀ b ps,H b=some (.tbl ps)→∃ more,H' b=some (.tbl (ps ++ more)))
  (ns:∀ m,s.heap.Ns X.env.locals m→h'.Ns X.env.locals m) (hok:HOk X.prog X.w H' h') (hg:AllBare g') :
  Inv X pins σ H' { s with heap:=h',gens:=g',drawn:=d',toks:=t' }:=by
 have neL:∀ b o,X.s₀.heap.get? b=some o→b≠X.env.locals:=fun b o e=>Nat.ne_of_lt (Nat.lt_of_lt_of_le (Heap.lt_size e) I.ok.above)
 have neC:∀ b o,X.s₀.heap.get? b=some o→b∉X.ex→b∉ch:=fun b o e hx hb=>by
  rcases (hch b hb).1 with z | z
  ·exact hx z
  ·exact absurd (Nat.lt_of_lt_of_le (Heap.lt_size e) z) (Nat.lt_irrefl _)
 have cellK:∀ x c,X.env.cells.lookup x=some c→∀ v,s.heap.IsCell c v→h'.IsCell c v:=fun x c e v ⟨o,ho,hd⟩=>by
  have nch:c∉ch:=fun z=>(hch c z).2.2.1 x c e rfl
  by_cases hc:c∈X.fs
  ·obtain ⟨sl,q⟩:=slot c o (I.cne x c e) hc nch ho (I.freeC x c e)
   exact ⟨_,q,hd⟩
  ·exact ⟨o,keep c o (I.cne x c e) hc nch ho (I.freeC x c e),hd⟩
 refine ⟨I.ok,I.os,hg,⟨fun b o e n hb hx=>?_,fun b o e n hb hx=>?_,fun b o e n hx=>?_,fun b o e hx=>?_,fun b xs e=>tups b xs (I.base.tups b xs e),fun b o xs e=>frzs b o xs (I.base.frzs b o xs e),fun b ps e=>?_⟩,?_,fun x c e=>?_,?_,fun x c e=>?_,fun p hp=>?_,hok,I.len⟩
 ·exact keep b o (neL b o e) hb (neC b o e hx) (I.base.keep b o e n hb hx) (I.base.free b o e n hx)
 ·obtain ⟨sl,e1⟩:=I.base.slot b o e n hb hx
  obtain ⟨sl',e2⟩:=slot b _ (neL b o e) hb (neC b o e hx) e1 (I.base.free b o e n hx)
  exact ⟨sl',e2⟩
 ·obtain ⟨o',e1⟩:=I.base.there b o e hx
  exact free b o' (neC b o e hx) e1 (I.base.free b o e n hx)
 ·obtain ⟨o',e1⟩:=I.base.there b o e hx
  exact there b o' (neC b o e hx) e1
 ·obtain ⟨m1,e1⟩:=I.base.tbls b ps e
  obtain ⟨m2,e2⟩:=tbls b _ e1
  exact ⟨m1 ++ m2,by rw [e2,Array.append_assoc]⟩
 ·obtain ⟨m,hn,hl⟩:=I.loc
  refine ⟨m,ns m hn,fun i x v e1 e2 e3=>?_⟩
  obtain ⟨u,r,l⟩:=hl i x v e1 e2 e3
  refine ⟨u,r,?_⟩
  rcases l with l | ⟨k,c,e,z⟩
  ·exact .inl l
  ·exact .inr ⟨k,c,e,cellK x c e _ z⟩
 ·obtain ⟨v,z⟩:=I.cell x c e
  exact ⟨v,cellK x c e v z⟩
 ·obtain ⟨m,⟨o,_,_,ho,_⟩,_⟩:=I.loc
  exact free _ o (fun z=>(hch _ z).2.1 rfl) ho I.free
 ·obtain ⟨v,o,ho,hd⟩:=I.cell x c e
  exact free c o (fun z=>(hch c z).2.2.1 x c e rfl) ho (I.freeC x c e)
 ·obtain ⟨e,n,ne,nf,d⟩:=I.pin p hp
  have nch:p.1∉ch:=fun z=>(hch p.1 z).2.2.2 p hp rfl
  exact ⟨keep p.1 p.2 ne nf nch e n,free p.1 p.2 nch e n,ne,nf,d⟩
theorem Inv.un {t':Nat} (I:Inv X pins σ H s) (u:Un X.fs [] H H' s.heap h') (hok:HOk X.prog X.w H' h'):Inv X pins σ H' { s with heap:=h',toks:=t' }:=by
 obtain ⟨m,⟨o,es,ep,ho,r⟩,_⟩:=id I.loc
 obtain ⟨sl,hL⟩:=u.any ho I.free (by simp)
 exact I.step (g':=s.gens) (d':=s.drawn) (ch:=[]) (fun _ z=>nomatch z) (fun b o _ hb _ e n=>u.keep b o e n hb (by simp)) (fun b o _ hb _ e n=>u.slot b o e n hb (by simp)) (fun b o _ e n=>u.free b o e n (by simp)) (fun b o _ e=>u.there b o e (by simp)) u.tups u.frzs u.tbls (fun m' hm=>by
  obtain ⟨o',es',ep',ho',r'⟩:=hm
  rw [ho] at ho';cases ho'
  exact ⟨_,es',ep',hL,r'⟩) hok I.bare
theorem Inv.call {g':Array GenState} {t':Nat} {d':Drawn} {ch:List Addr} (I:Inv X pins σ H s) (u:Un (frs X.stack) ch H H' s.heap h') (hok:HOk X.prog X.w H' h') (hg:AllBare g')
  (hch:∀ b∈ch,(b∈X.ex∨X.s₀.heap.objs.size≤b)∧b≠X.env.locals∧(∀ x c,X.env.cells.lookup x=some c→c≠b)∧∀ p∈X.pn ++ pins,p.1≠b) :
  Inv X pins σ H' { s with heap:=h',gens:=g',drawn:=d',toks:=t' }:=by
 obtain ⟨m,⟨o,es,ep,ho,r⟩,_⟩:=id I.loc
 obtain ⟨sl,hL⟩:=u.any ho I.free fun z=>(hch _ z).2.1 rfl
 exact I.step (ch:=ch) hch (fun b o hL hb hc e n=>u.keep b o e n (fun z=>(List.mem_cons.mp (I.stkSub b z)).elim hL hb) hc) (fun b o _ _ hc e n=>u.any e n hc) (fun b o hc e n=>u.free b o e n hc) (fun b o hc e=>u.there b o e hc) u.tups u.frzs u.tbls (fun m' hm=>by
  obtain ⟨o',es',ep',ho',r'⟩:=hm
  rw [ho] at ho';cases ho'
  exact ⟨_,es',ep',hL,r'⟩) hok hg
theorem Inv.turned {t':Nat} {it:Addr} (I:Inv X pins σ H s) (k:∀ b o,b≠it→s.heap.get? b=some o→h'.get? b=some o) (hn:H it=none) (hL:it≠X.env.locals)
  (h1:it∈X.ex∨X.s₀.heap.objs.size≤it) (h2:∀ x c,X.env.cells.lookup x=some c→c≠it) (h3:∀ p∈X.pn ++ pins,p.1≠it):Inv X pins σ H { s with heap:=h',toks:=t' }:=by
 have nit:∀ b u,H b=some u→b≠it:=fun b u e z=>by rw [z,hn] at e;cases e
 refine I.step (g':=s.gens) (d':=s.drawn) (ch:=[it]) (fun b hb=>?_) (fun b o _ _ hc e _=>k b o (fun z=>hc (by simp [z])) e) (fun b o _ _ hc e _=>⟨o.slots,k b o (fun z=>hc (by simp [z])) e⟩) (fun _ _ _ _ n=>n)
  (fun b o hc e=>⟨o,k b o (fun z=>hc (by simp [z])) e⟩) (fun _ _ e=>e) (fun _ _ _ e=>e) (fun b ps e=>⟨#[],by rw [e];simp⟩) (fun m hm=>?_) (fun b u e=>?_) I.bare
 ·have e:b=it:=by simpa using hb
  subst e
  exact ⟨h1,hL,h2,h3⟩
 ·obtain ⟨o,es,ep,ho,r⟩:=hm
  exact ⟨o,es,ep,k _ o (Ne.symm hL) ho,r⟩
 ·refine (I.hok b u e).stay (fun c v hc q=>k c v ?_ q) (fun _ q=>q) fun _ _ q=>q
  rcases hc with z | z
  ·rw [z];exact nit b u e
  ·exact nit c _ z
theorem Inv.tok (I:Inv X pins σ H s) (t:Nat):Inv X pins σ H { s with toks:=t }:=I.un (h':=s.heap) (t':=t) Un.refl I.hok
theorem Inv.kept {t':Nat} (I:Inv X pins σ H s) (k:∀ b u,s.heap.get? b=some u→h'.get? b=some u):Inv X pins σ H { s with heap:=h',toks:=t' }:=I.un (Un.kept k) (I.hok.kept k)
theorem Inv.laid {a:Addr} {o:HO} {t':Nat} (I:Inv X pins σ H s) (k:∀ b u,s.heap.get? b=some u→h'.get? b=some u) (hp:s.heap.objs.size≤a) (new:Im X.prog X.w (upd H a o) h' a o) :
  Inv X pins σ (upd H a o) { s with heap:=h',toks:=t' }:=I.un (Un.laid k hp (I.hok.fresh hp)) (I.hok.laid k hp new)
theorem Inv.write {x e:Addr} {o:HO} {t':Nat} (I:Inv X pins σ H s) (mu:Mut (H x)) (he:e=x∨H e=some (.own x)) (k:∀ b u,b≠e→s.heap.get? b=some u→h'.get? b=some u) (heo:∃ u,h'.get? e=some u)
  (new:Im X.prog X.w (upd H x o) h' x o):Inv X pins σ (upd H x o) { s with heap:=h',toks:=t' }:=I.un (Un.write mu he k heo) (I.hok.write mu he k heo new)
theorem Inv.pins_of {pins':List (Addr × Obj)} (I:Inv X pins σ H s) (h:∀ p∈pins',s.heap.get? p.1=some p.2∧H p.1=none∧p.1≠X.env.locals∧p.1∉X.fs∧∀ v,p.2.data≠.cell v):Inv X pins' σ H s :=
 ⟨I.ok,I.os,I.bare,I.base,I.loc,I.cell,I.free,I.freeC,fun p hp=>(List.mem_append.mp hp).elim (fun z=>I.pin p (List.mem_append_left _ z)) (h p),I.hok,I.len⟩
theorem Vg {N:List Str} (hN:N.Nodup) {i j:Nat} {x:Str} (a:N[i]? = some x) (b:N[j]? = some x):i=j:=by
 obtain ⟨h1,e1⟩:=List.getElem?_eq_some_iff.mp a
 obtain ⟨h2,e2⟩:=List.getElem?_eq_some_iff.mp b
 exact (List.getElem_inj hN).mp (e1.trans e2.symm)
theorem Sy {M:Model} {A:Around} {E:Value→Shared→Prop} {i:Nat} {x:Str} {v:V} {u:Value} {Q:Unit→Shared→Prop} (I:Inv X pins σ H s) (hN:X.N.Nodup) (hi:X.N[i]? = some x) (hx:Loc X.env.scope x) (r:RelV v u)
  (h:∀ s',Inv X pins (σ.set i (some v)) H s'→(∃ a,Heap.SameBut a s.heap s'.heap∧(a=X.env.locals∨X.env.cells.lookup x=some a))→Q () s') (hf:X.fn x=true∨X.env.scope.names.lookup x=some .local:=by first | exact .inl rfl | exact .inr rfl | assumption):wpAny M A (storeName X.env x u) Q E s:=by
 obtain ⟨m,hn,hl⟩:=id I.loc
 have hcls:(X.env.scope.kind == .class || (X.env.scope.kind == .module && X.env.locals != X.env.globals))=false:=by rw [I.ok.kind];rfl
 have hiσ:i < σ.length:=by rw [I.len];exact (List.getElem?_eq_some_iff.mp hi).1
 have cne:=I.cne
 have tracked:∀ {a:Addr} {h':Heap},(∃ o,s.heap.get? a=some o∧H a=none)→Heap.SameBut a s.heap h'→HOk X.prog X.w H h':=fun {a h'} ha hs b ob e=>by
  obtain ⟨_,_,hfree⟩:=ha
  refine (I.hok b ob e).stay (fun c w' hc q=>(hs.2 c ?_).trans q) (fun _ q=>q) fun _ _ q=>q
  rintro rfl
  rcases hc with rfl | hc
  ·rw [hfree] at e;cases e
  ·rw [hfree] at hc;cases hc
 rcases hx with hk | hk
 ·refine wpAny_storeName_local hk hn (fun h' hn' hs=>?_) hcls
  obtain ⟨oL,_,_,hoL,_⟩:=id hn
  refine h _ ⟨I.ok,I.os,I.bare,⟨fun b o e n hb hx=>?_,fun b o e n hb hx=>?_,I.base.free,fun b o e hx=>?_,I.base.tups,I.base.frzs,I.base.tbls⟩,⟨_,hn',fun j y v' e1 e2 e3=>?_⟩,fun y c e=>?_,I.free,I.freeC,fun p hp=>?_,tracked ⟨oL,hoL,I.free⟩ hs,by simpa using I.len⟩ ⟨_,hs,.inl rfl⟩
  ·exact (hs.2 b (Nat.ne_of_lt (Nat.lt_of_lt_of_le (Heap.lt_size e) I.ok.above))).trans (I.base.keep b o e n hb hx)
  ·obtain ⟨sl,e1⟩:=I.base.slot b o e n hb hx
   exact ⟨sl,(hs.2 b (Nat.ne_of_lt (Nat.lt_of_lt_of_le (Heap.lt_size e) I.ok.above))).trans e1⟩
  ·obtain ⟨o',e1⟩:=I.base.there b o e hx
   exact ⟨o',(hs.2 b (Nat.ne_of_lt (Nat.lt_of_lt_of_le (Heap.lt_size e) I.ok.above))).trans e1⟩
  ·by_cases hj:j=i
   ·subst hj
    rw [hi] at e1;cases e1
    rw [List.getElem?_set_self hiσ] at e2
    cases e2
    exact ⟨u,r,.inl ⟨hk,by simp⟩⟩
   ·rw [List.getElem?_set_ne (Ne.symm hj)] at e2
    obtain ⟨u',r',q⟩:=hl j y v' e1 e2 e3
    refine ⟨u',r',?_⟩
    rcases q with ⟨k,e⟩ | ⟨k,c,e,z⟩
    ·refine .inl ⟨k,?_⟩
     have:y≠x:=fun e=>hj (Vg hN e1 (e ▸ hi))
     simp [this,e]
    ·exact .inr ⟨k,c,e,z.sameBut hs (cne y c e)⟩
  ·obtain ⟨w',z⟩:=I.cell y c e
   exact ⟨w',z.sameBut hs (cne y c e)⟩
  ·obtain ⟨e,n,ne,nf,d⟩:=I.pin p hp
   exact ⟨(hs.2 p.1 ne).trans e,n,ne,nf,d⟩
 ·have hfn:X.fn x=true:=by
   rcases hf with z | z
   ·exact z
   ·rw [z] at hk;cases hk
  obtain ⟨c,hc⟩:=I.ok.has x (.inl hk)
  obtain ⟨w',z⟩:=I.cell x c hc
  refine wpAny_storeName_cell I.ok.kind hk hc z (fun h' hc' hs=>?_)
  obtain ⟨oc,hoc,hocd⟩:=id z
  refine h { s with heap:=h' } ⟨I.ok,I.os,I.bare,⟨fun b o e n hb hx=>?_,fun b o e n hb hx=>?_,I.base.free,fun b o e hx=>?_,I.base.tups,I.base.frzs,I.base.tbls⟩,⟨m,hn.sameBut hs (Ne.symm (cne x c hc)),fun j y v' e1 e2 e3=>?_⟩,fun y c' e=>?_,I.free,I.freeC,fun p hp=>?_,tracked ⟨oc,hoc,I.freeC x c hc⟩ hs,by simpa using I.len⟩ ⟨c,hs,.inr hc⟩
  ·exact (hs.2 b (Nat.ne_of_lt (Nat.lt_of_lt_of_le (Heap.lt_size e) (I.ok.cab x c hfn hc)))).trans (I.base.keep b o e n hb hx)
  ·obtain ⟨sl,e1⟩:=I.base.slot b o e n hb hx
   exact ⟨sl,(hs.2 b (Nat.ne_of_lt (Nat.lt_of_lt_of_le (Heap.lt_size e) (I.ok.cab x c hfn hc)))).trans e1⟩
  ·obtain ⟨o',e1⟩:=I.base.there b o e hx
   exact ⟨o',(hs.2 b (Nat.ne_of_lt (Nat.lt_of_lt_of_le (Heap.lt_size e) (I.ok.cab x c hfn hc)))).trans e1⟩
  ·by_cases hj:j=i
   ·subst hj
    rw [hi] at e1;cases e1
    rw [List.getElem?_set_self hiσ] at e2
    cases e2
    exact ⟨u,r,.inr ⟨.inl hk,c,hc,hc'⟩⟩
   ·rw [List.getElem?_set_ne (Ne.symm hj)] at e2
    obtain ⟨u',r',q⟩:=hl j y v' e1 e2 e3
    refine ⟨u',r',?_⟩
    rcases q with q | ⟨k,c',e,z'⟩
    ·exact .inl q
    ·refine .inr ⟨k,c',e,z'.sameBut hs ?_⟩
     rintro rfl
     exact hj (Vg hN e1 (I.ok.inj _ _ _ e hc ▸ hi))
  ·by_cases hcc:c'=c
   ·subst hcc;exact ⟨_,hc'⟩
   ·obtain ⟨w2,z2⟩:=I.cell y c' e
    exact ⟨w2,z2.sameBut hs hcc⟩
  ·obtain ⟨e,n,ne,nf,d⟩:=I.pin p hp
   refine ⟨(hs.2 p.1 ?_).trans e,n,ne,nf,d⟩
   intro q
   rw [q,hoc] at e
   have q':oc=p.2:=Option.some.inj e
   exact d w' (by rw [←q'];exact hocd)
theorem QJ {M:Model} {A:Around} {E:Value→Shared→Prop} {i:Nat} {x:Str} {v:V} {u:Value} {Q:Unit→Shared→Prop} (I:Inv X pins σ H s) (hN:X.N.Nodup) (hi:X.N[i]? = some x) (hx:Loc X.env.scope x) (r:RelV v u)
  (h:∀ s',Inv X pins (σ.set i (some v)) H s'→Q () s') (hf:X.fn x=true∨X.env.scope.names.lookup x=some .local:=by first | exact .inl rfl | exact .inr rfl | assumption):wpAny M A (storeName X.env x u) Q E s :=
 Sy I hN hi hx r (fun s' I' _=>h s' I') hf
theorem Inv.call' {s':Shared} {ch:List Addr} (I:Inv X pins σ H s) (ho:s'.os=s.os) (u:Un (frs X.stack) ch H H' s.heap s'.heap) (hok:HOk X.prog X.w H' s'.heap) (hg:AllBare s'.gens)
  (hch:∀ b∈ch,(b∈X.ex∨X.s₀.heap.objs.size≤b)∧b≠X.env.locals∧(∀ x c,X.env.cells.lookup x=some c→c≠b)∧∀ p∈X.pn ++ pins,p.1≠b):Inv X pins σ H' s':=by
 obtain ⟨h',g',d',t',o'⟩:=s'
 have e:o'=s.os:=ho
 subst e
 exact I.call (g':=g') (t':=t') (d':=d') u hok hg hch
end
noncomputable abbrev XK:=Value→Option Addr→Hp→Prop
noncomputable abbrev St:=List (Option V)
noncomputable abbrev VK:=V→Hp→Prop
noncomputable abbrev TE:=St→Hp→VK→Prop
noncomputable abbrev TT:=St→Hp→(Bool→Hp→Prop)→Prop
noncomputable abbrev TA:=St→Hp→(List V→Hp→Prop)→Prop
structure Ends where
 nx:St→Hp→Prop
 rt:VK
 bk:St→Hp→Prop:=fun _ _=>False
 ct:St→Hp→Prop:=fun _ _=>False
noncomputable abbrev TS:=Ends→St→Hp→Prop
noncomputable def EP (X:Cx) (pins:List (Addr × Obj)) (σ:St) (Q:VK) (u:Value) (s':Shared):Prop:=∃ v H',Inv X pins σ H' s'∧RelV v u∧Q v H'
noncomputable def TP (X:Cx) (pins:List (Addr × Obj)) (σ:St) (Q:Bool→Hp→Prop) (b:Bool) (s':Shared):Prop:=∃ H',Inv X pins σ H' s'∧Q b H'
noncomputable def AP (X:Cx) (pins:List (Addr × Obj)) (σ:St) (Q:List V→Hp→Prop) (us:List Value) (s':Shared):Prop:=∃ vs H',Inv X pins σ H' s'∧Vals vs us∧Q vs H'
noncomputable def SP (X:Cx) (pins:List (Addr × Obj)) (D:Ends) (f:Flow) (s':Shared):Prop :=
 match f with
 | .next=>∃ σ' H',Inv X pins σ' H' s'∧D.nx σ' H'
 | .brk=>∃ σ' H',Inv X pins σ' H' s'∧D.bk σ' H'
 | .cont=>∃ σ' H',Inv X pins σ' H' s'∧D.ct σ' H'
 | .ret u=>∃ v σ' H',Inv X pins σ' H' s'∧RelV v u∧D.rt v H'
noncomputable def PE (X:Cx) (e:Expr) (t:TE):Prop :=
 ∀ (pins:List (Addr × Obj)) (s:Shared) (σ:St) (H:Hp) (Q:VK),Inv X pins σ H s→t σ H Q→wpAny (model X.prog X.w) X.A (eval e X.env) (EP X pins σ Q) X.xe s
noncomputable def PT (X:Cx) (e:Expr) (t:TT):Prop :=
 ∀ (pins:List (Addr × Obj)) (s:Shared) (σ:St) (H:Hp) (Q:Bool→Hp→Prop),Inv X pins σ H s→t σ H Q→wpAny (model X.prog X.w) X.A (isTrue e X.env (eval e X.env)) (TP X pins σ Q) X.xe s
noncomputable def PW (X:Cx) (e:Expr) (t:TT):Prop :=
 ∀ (whole:Sem Value) (pins:List (Addr × Obj)) (s:Shared) (σ:St) (H:Hp) (Q:Bool→Hp→Prop),Inv X pins σ H s→t σ H Q→wpAny (model X.prog X.w) X.A (isTrue e X.env whole) (TP X pins σ Q) X.xe s
theorem PW.pt {X:Cx} {e:Expr} {t:TT} (h:PW X e t):PT X e t:=h _
noncomputable def PA (X:Cx) (es:List Expr) (t:TA):Prop :=
 ∀ (pos:Pos) (pins:List (Addr × Obj)) (s:Shared) (σ:St) (H:Hp) (Q:List V→Hp→Prop),Inv X pins σ H s→t σ H Q→wpAny (model X.prog X.w) X.A (spliced (backTo pos (starEach es X.env))) (AP X pins σ Q) X.xe s
noncomputable def PS (X:Cx) (st:Stmt) (t:TS):Prop :=
 ∀ (pins:List (Addr × Obj)) (s:Shared) (σ:St) (H:Hp) (D:Ends),Inv X pins σ H s→t D σ H→wpAny (model X.prog X.w) X.A (exec st X.env) (SP X pins D) X.xe s
noncomputable def PSs (X:Cx) (st:List Stmt) (t:TS):Prop :=
 ∀ (pins:List (Addr × Obj)) (s:Shared) (σ:St) (H:Hp) (D:Ends),Inv X pins σ H s→t D σ H→wpAny (model X.prog X.w) X.A (execs st X.env) (SP X pins D) X.xe s
theorem thn {α:Type} {t:Sem α} {Q Q':α→Shared→Prop} {M:Model} {A:Around} {E:Value→Shared→Prop} {s:Shared} (h:wpAny M A t Q E s) (hQ:∀ a s,Q a s→Q' a s):wpAny M A t Q' E s:=wpAny_mono h hQ fun _ _ x=>x
end L2
namespace L2
open PySem PySem.Spec PyProof.Rows
section
variable {X:Cx}
theorem bin {a b:Expr} {ta tb:TE} (ha:PE X a ta) (hb:PE X b tb) {pins:List (Addr × Obj)} {s:Shared} {σ:St} {H:Hp} {R:V→V→Hp→Prop} (I:Inv X pins σ H s) (h:ta σ H fun x H1=>tb σ H1 fun y H2=>R x y H2)
  {α:Type} {Q:α→Shared→Prop} {f:Value→Value→Sem α}
  (hf:∀ v u s2 x y H2,Inv X pins σ H2 s2→RelV x v→RelV y u→R x y H2→wpAny (model X.prog X.w) X.A (f v u) Q X.xe s2) :
  wpAny (model X.prog X.w) X.A (eval a X.env) (fun v s₁=>wpAny (model X.prog X.w) X.A (eval b X.env) (fun u s₂=>wpAny (model X.prog X.w) X.A (f v u) Q X.xe s₂) X.xe s₁) X.xe s:=by
 refine thn (ha pins s σ H _ I h) fun v s1 ⟨x,H1,I1,r1,q1⟩=>?_
 refine thn (hb pins s1 σ H1 _ I1 q1) fun u s2 ⟨y,H2,I2,r2,q2⟩=>?_
 exact hf v u s2 x y H2 I2 r1 r2 q2
noncomputable def AkA (i:Nat):TE:=fun σ H Q=>∃ v,σ[i]? = some (some v)∧Q v H
noncomputable def tC (v:V):TE:=fun _ H Q=>Q v H
theorem Kp {i:Nat} {x:Str} {pos:Pos} (hN:X.N[i]? = some x) (hv:Vis X.env.scope x) (hd:(x == ("__debug__":Str))=false:=by decide) (hcd:(x == ("__classdict__":Str))=false:=by decide):PE X (.Name x pos) (AkA i):=by
 intro pins s σ H Q I h
 obtain ⟨v,e,h⟩:=h
 obtain ⟨m,hn,hl⟩:=I.loc
 obtain ⟨u,r,l⟩:=hl i x v hN e hv
 have fin:EP X pins σ Q u s:=⟨v,H,I,r,h⟩
 rcases l with ⟨hk,hm⟩ | ⟨hk,c,hc,hcell⟩
 ·exact wpAny_Name (wpAny_loadName_local I.ok.kind hk hn hm fin) hd
 ·rcases hk with hk | hk
  ·exact wpAny_Name (wpAny_loadName_cell I.ok.kind hk hc hcell fin) hd
  ·exact wpAny_Name (wpAny_loadName_free I.ok.kind hk hc hcell fin hcd) hd
theorem AgA {i j pos}:PE X (.Constant (.int i) j pos) (tC (.int i)):=fun _ _ _ H _ I h=>wpAny_Constant_int ⟨.int i,H,I.tok _,⟨_,rfl⟩,h⟩
theorem AjJ {b j pos}:PE X (.Constant (.bool b) j pos) (tC (.bl b)):=fun _ _ _ H _ I h=>Constant_bool ⟨.bl b,H,I,rfl,h⟩
theorem Ag2 {j pos}:PE X (.Constant .none j pos) (tC .non):=fun _ _ _ H _ I h=>Constant_none ⟨.non,H,I,rfl,h⟩
theorem Ag4 {x j pos}:PE X (.Constant (.str x) j pos) (tC (.str x)):=fun _ _ _ H _ I h=>Calls.Constant_str ⟨.str x,H,I.tok _,⟨_,rfl⟩,h⟩
noncomputable def Gl (X:Cx) (x:Str):Prop:=X.env.kindOf x=some .globalImplicit
theorem T8 {E:Value→Shared→Prop} {pins:List (Addr × Obj)} {s:Shared} {σ:St} {H:Hp} {x:Str} {u:Value} {pos:Pos} {Q:Value→Shared→Prop} (I:Inv X pins σ H s) (hg:Gl X x) (hm:X.mg x=some u) (h:Q u s)
  (hd:(x == ("__debug__":Str))=false:=by decide):wpAny (model X.prog X.w) X.A (eval (.Name x pos) X.env) Q E s :=
 Calls.Name_function_global I.ok.kind hg (Calls.loadGlobal_global (by rw [I.ok.glob];exact I.mod.glob.keeps I.bk) hm h) hd
theorem T9 {E:Value→Shared→Prop} {pins:List (Addr × Obj)} {s:Shared} {σ:St} {H:Hp} {x:Str} {u:Value} {pos:Pos} {Q:Value→Shared→Prop} (I:Inv X pins σ H s) (hg:Gl X x) (hm:X.mg x=none) (hv:bootBuiltins x=some u) (h:Q u s)
  (hn:x≠"__name__":=by decide) (hd:(x == ("__debug__":Str))=false:=by decide):wpAny (model X.prog X.w) X.A (eval (.Name x pos) X.env) Q E s:=by
 obtain ⟨mb,h1,h2⟩:=I.mod.blt
 exact Calls.Name_function_global I.ok.kind hg (Calls.loadGlobal_builtin (by rw [I.ok.glob];exact I.mod.glob.keeps I.bk) hm (by rw [I.ok.blt];exact h1.keeps I.bk) ((h2 x hn).trans hv) h) hd
theorem Yx {x:Str} {v:V} {u:Value} {pos:Pos} (hg:Gl X x) (hm:X.mg x=some u) (r:RelV v u) (hd:(x == ("__debug__":Str))=false:=by decide):PE X (.Name x pos) (tC v) :=
 fun _ _ _ H _ I h=>T8 I hg hm ⟨v,H,I,r,h⟩ hd
theorem AdW {x:Str} {v:V} {u:Value} {pos:Pos} (hg:Gl X x) (hm:X.mg x=none) (hv:bootBuiltins x=some u) (r:RelV v u) (hn:x≠"__name__":=by decide) (hd:(x == ("__debug__":Str))=false:=by decide):PE X (.Name x pos) (tC v) :=
 fun _ _ _ H _ I h=>T9 I hg hm hv ⟨v,H,I,r,h⟩ hn hd
variable {a b:Expr} {ta tb:TE} {pos:Pos}
noncomputable def PC (X:Cx) (op:CmpOp) (a b:Expr) (t:TE):Prop :=
 ∀ (pins:List (Addr × Obj)) (s:Shared) (σ:St) (H:Hp) (Q:VK),Inv X pins σ H s→t σ H Q →
  wpAny (model X.prog X.w) X.A (eval a X.env) (fun v s₁=>wpAny (model X.prog X.w) X.A (eval b X.env) (fun u s₂=>wpAny (model X.prog X.w) X.A (compareOp op v u) (EP X pins σ Q) X.xe s₂) X.xe s₁) X.xe s
noncomputable def tB (t:TE):TT:=fun σ H Q=>t σ H fun x H1=>∃ c,x=.bl c∧Q c H1
theorem Amk {op:CmpOp} {t:TE} (h:PC X op a b t) (h1:behindInMarks op b=false:=by first | exact nobehind _ (by decide) (by decide) | rfl):PT X (.Compare a [op] [b] pos) (tB t):=by
 intro pins s σ H Q I hw
 refine wpAny_isTrue_Compare1 (thn (h pins s σ H _ I hw) fun v s1 h1=>thn h1 fun u s2 h2=>thn h2 fun c s3 ⟨x,H1,I1,r1,q1⟩=>?_) h1
 obtain ⟨d,rfl,q⟩:=q1
 cases r1
 exact wpAny_truthy_bool ⟨H1,I1,q⟩
theorem Ah1 {e:Expr} {t:TE} (h:PE X e t) (he:∀ whole,isTrue e X.env whole=(do let v ←whole;standAt e.pos;holding [v] (truthy v)):=by intro _;rfl):PT X e (tB t):=by
 intro pins s σ H Q I hw
 refine isTrue_plain (thn (h pins s σ H _ I hw) fun v s1 ⟨x,H1,I1,r1,q1⟩=>?_) (he _)
 obtain ⟨d,rfl,q⟩:=q1
 cases r1
 exact wpAny_truthy_bool ⟨H1,I1,q⟩
variable {tA tB':TT} {rest:List Expr}
noncomputable def tOr (t u:TT):TT:=fun σ H Q=>t σ H fun c H1=>if c=true then Q true H1 else u σ H1 Q
noncomputable def Aoc (t:TT):TT:=fun σ H Q=>t σ H fun c H1=>Q (!c) H1
theorem AhQ (ha:PT X a tA):PW X (.BoolOp .Or [a] pos) tA:=by
 intro wh pins s σ H Q I h
 refine isTrue_or (thn (ha pins s σ H Q I h) fun c s1 e=>?_)
 cases c with
 | false=>exact isTrue_or_nil e
 | true=>exact e
theorem AjK (ha:PT X a tA) (hb:PW X (.BoolOp .Or (b :: rest) pos) tB'):PW X (.BoolOp .Or (a :: b :: rest) pos) (tOr tA tB'):=by
 intro wh pins s σ H Q I h
 refine isTrue_or (thn (ha pins s σ H _ I h) fun c s1 ⟨H1,I1,q1⟩=>?_)
 cases c with
 | true=>exact ⟨H1,I1,q1⟩
 | false=>exact hb wh pins s1 σ H1 Q I1 q1
theorem Agi (ha:PT X a tA):PT X (.UnaryOp .Not a pos) (Aoc tA):=by
 intro pins s σ H Q I h
 exact isTrue_not (ha pins s σ H (fun c H1=>Q (!c) H1) I h)
noncomputable def AkC (ta tb:TE):TE:=fun σ H Q=>ta σ H fun x H1=>∃ c,x=.bl c∧if c=true then tb σ H1 Q else Q (.bl false) H1
noncomputable def Anp (ta tb:TE):TE:=fun σ H Q=>ta σ H fun x H1=>∃ c,x=.bl c∧if c=true then Q (.bl true) H1 else tb σ H1 Q
noncomputable def AiT (ta:TE):TE:=fun σ H Q=>ta σ H fun x H1=>∃ c,x=.bl c∧Q (.bl (!c)) H1
theorem Ahw {op} {t:TE} (h:PE X a t):PE X (.BoolOp op [a] pos) t:=fun pins s σ H Q I hw=>BoolOp_one (h pins s σ H Q I hw)
theorem AgZ (ha:PE X a ta) (hb:PE X (.BoolOp .And (b :: rest) pos) tb):PE X (.BoolOp .And (a :: b :: rest) pos) (AkC ta tb):=by
 intro pins s σ H Q I h
 refine BoolOp_and (thn (ha pins s σ H _ I h) fun v s1 ⟨x,H1,I1,r1,q1⟩=>?_)
 obtain ⟨c,rfl,q1⟩:=q1
 cases r1
 refine wpAny_truthy_bool ?_
 cases c with
 | true=>exact hb pins s1 σ H1 Q I1 q1
 | false=>exact ⟨.bl false,H1,I1,rfl,q1⟩
theorem Alm (ha:PE X a ta) (hb:PE X (.BoolOp .Or (b :: rest) pos) tb):PE X (.BoolOp .Or (a :: b :: rest) pos) (Anp ta tb):=by
 intro pins s σ H Q I h
 refine BoolOp_or (thn (ha pins s σ H _ I h) fun v s1 ⟨x,H1,I1,r1,q1⟩=>?_)
 obtain ⟨c,rfl,q1⟩:=q1
 cases r1
 refine wpAny_truthy_bool ?_
 cases c with
 | false=>exact hb pins s1 σ H1 Q I1 q1
 | true=>exact ⟨.bl true,H1,I1,rfl,q1⟩
theorem AgU (ha:PE X a ta):PE X (.UnaryOp .Not a pos) (AiT ta):=by
 intro pins s σ H Q I h
 refine UnaryOp_ (thn (ha pins s σ H _ I h) fun v s1 ⟨x,H1,I1,r1,q1⟩=>?_)
 obtain ⟨c,rfl,q1⟩:=q1
 cases r1
 exact not_of (wpAny_truthy_bool ⟨.bl (!c),H1,I1,rfl,q1⟩)
end
end L2
namespace L2
open PySem PySem.Spec PyProof.Rows
noncomputable def SqL (K:PySem.W.Frag) (H:Hp) (a:Addr) (xs:List V):Prop :=
 Rd H a (.lst xs) ∨
  ∃ (o:Obj) (its:Array Value) (n:Nat),K.lookup a=some o∧o.cls=.type "list"∧o.dict=none∧o.data=.seq its n∧its.size≤sizeLine∧Vals xs its.toList
noncomputable def SqT (K:PySem.W.Frag) (H:Hp) (a:Addr) (xs:List V):Prop :=
 Rd H a (.tup xs) ∨
  ∃ (o:Obj) (its:Array Value) (n:Nat),K.lookup a=some o∧o.cls=.type "tuple"∧o.data=.seq its n∧its.size≤sizeLine∧Vals xs its.toList
noncomputable def AmO:Value→Option V
 | .none=>some .non
 | .bool b=>some (.bl b)
 | .int i _=>some (.int i)
 | .str x _=>some (.str x)
 | .bytes b _=>some (.byt b)
 | .float b _=>some (.flt b)
 | .ref a=>some (.ref a)
 | .type n=>some (.ty n)
 | _=>none
theorem RelV.abs {x:V} {u:Value} (r:RelV x u):AmO u=some x:=by
 cases x with
 | non=>cases r;rfl
 | bl _=>cases r;rfl
 | int _=>obtain ⟨t,rfl⟩:=r;rfl
 | str _=>obtain ⟨t,rfl⟩:=r;rfl
 | byt _=>obtain ⟨t,rfl⟩:=r;rfl
 | flt _=>obtain ⟨t,rfl⟩:=r;rfl
 | ref _=>cases r;rfl
 | ty _=>cases r;rfl
theorem RelV.inj {x y:V} {u:Value} (r:RelV x u) (q:RelV y u):x=y:=Option.some.inj (r.abs.symm.trans q.abs)
theorem Vals.inj:∀ {xs ys:List V} {us:List Value},Vals xs us→Vals ys us→xs=ys
 | _,_,_,.nil,.nil=>rfl
 | _,_,_,.cons r t,.cons r' t'=>by rw [r.inj r',Vals.inj t t']
section
variable {X:Cx} {pins:List (Addr × Obj)} {σ:St} {H:Hp} {s:Shared} {a:Addr} {xs ys:List V}
theorem SqL.of {K:PySem.W.Frag} (h:H a=some (.lst xs)):SqL K H a xs:=.inl (.inl h)
theorem SqT.of {K:PySem.W.Frag} (h:H a=some (.tup xs)):SqT K H a xs:=.inl (.inl h)
theorem Inv.list (I:Inv X pins σ H s) (h:SqL X.K H a xs):∃ its:List Value,Vals xs its∧PlainL s.heap a its.toArray∧xs.length≤sizeLine:=by
 rcases h with h | ⟨o,its,n,hk,hc,hd,hs,hz,r⟩
 ·obtain ⟨z,its,n,r,e⟩:=h.ok I.hok
  exact ⟨its,r,⟨_,n,e,rfl,rfl,rfl⟩,z⟩
 ·refine ⟨its.toList,r,⟨o,n,I.kIn a o hk,hc,hd,by simpa using hs⟩,?_⟩
  have e:=r.length
  simp only [Array.length_toList] at e
  omega
theorem Inv.tuple (I:Inv X pins σ H s) (h:SqT X.K H a xs):∃ its:List Value,Vals xs its∧IsTup s.heap a its.toArray∧xs.length≤sizeLine:=by
 rcases h with h | ⟨o,its,n,hk,hc,hs,hz,r⟩
 ·obtain ⟨z,its,r,p⟩:=h.ok I.hok
  exact ⟨its,r,p,z⟩
 ·refine ⟨its.toList,r,⟨o,I.kIn a o hk,hc,n,by simpa using hs⟩,?_⟩
  have e:=r.length
  simp only [Array.length_toList] at e
  omega
theorem Inv.list_inj (I:Inv X pins σ H s) (h:SqL X.K H a xs) (h':SqL X.K H a ys):xs=ys:=by
 obtain ⟨its,r,⟨o,n,e,_,_,d⟩,_⟩:=I.list h
 obtain ⟨its',r',⟨o',n',e',_,_,d'⟩,_⟩:=I.list h'
 rw [e] at e';cases e'
 rw [d] at d'
 injection d' with d1 _
 have:its=its':=by simpa using congrArg Array.toList d1
 subst this
 exact r.inj r'
theorem Inv.tuple_inj (I:Inv X pins σ H s) (h:SqT X.K H a xs) (h':SqT X.K H a ys):xs=ys:=by
 obtain ⟨its,r,⟨o,e,_,n,d⟩,_⟩:=I.tuple h
 obtain ⟨its',r',⟨o',e',_,n',d'⟩,_⟩:=I.tuple h'
 rw [e] at e';cases e'
 rw [d] at d'
 injection d' with d1 _
 have:its=its':=by simpa using congrArg Array.toList d1
 subst this
 exact r.inj r'
end
noncomputable abbrev Cx.wish (X:Cx) (E:Value→Shared→Prop):Cx:={ X with xe:=E }
noncomputable abbrev Cx.nox (X:Cx):Cx:=X.wish fun _ _=>False
theorem Cx.Ok.wish {X:Cx} (ok:X.Ok) (E:Value→Shared→Prop):(X.wish E).Ok :=
 ⟨ok.mod,ok.kind,ok.glob,ok.blt,ok.above,ok.inj,ok.has,ok.cab,ok.hd,ok.frames,ok.stk,ok.exf,ok.bs,ok.bsz,ok.noex,ok.exfs,ok.funs,ok.frf⟩
theorem Cx.Ok.unwish {X:Cx} {E:Value→Shared→Prop} (ok:(X.wish E).Ok):X.Ok :=
 ⟨ok.mod,ok.kind,ok.glob,ok.blt,ok.above,ok.inj,ok.has,ok.cab,ok.hd,ok.frames,ok.stk,ok.exf,ok.bs,ok.bsz,ok.noex,ok.exfs,ok.funs,ok.frf⟩
section
variable {X:Cx} {pins:List (Addr × Obj)} {σ:St} {H:Hp} {s:Shared} {E:Value→Shared→Prop}
theorem Inv.wish (I:Inv X pins σ H s) (E:Value→Shared→Prop):Inv (X.wish E) pins σ H s:=⟨I.ok.wish E,I.os,I.bare,I.base,I.loc,I.cell,I.free,I.freeC,I.pin,I.hok,I.len⟩
theorem Inv.unwish (I:Inv (X.wish E) pins σ H s):Inv X pins σ H s:=⟨I.ok.unwish,I.os,I.bare,I.base,I.loc,I.cell,I.free,I.freeC,I.pin,I.hok,I.len⟩
theorem SP.unwish {D:Ends} {f:Flow} {s':Shared} (h:SP (X.wish E) pins D f s'):SP X pins D f s':=by
 cases f with
 | next=>obtain ⟨σ',H',I,q⟩:=h;exact ⟨σ',H',I.unwish,q⟩
 | brk=>obtain ⟨σ',H',I,q⟩:=h;exact ⟨σ',H',I.unwish,q⟩
 | cont=>obtain ⟨σ',H',I,q⟩:=h;exact ⟨σ',H',I.unwish,q⟩
 | ret u=>obtain ⟨v,σ',H',I,r,q⟩:=h;exact ⟨v,σ',H',I.unwish,r,q⟩
theorem PSs.nox {st:List Stmt} {t:TS} (h:PSs X.nox st t):PSs X st t:=fun pins s σ H D I hw =>
 wpAny_mono (h pins s σ H D (I.wish _) hw) (fun _ _ q=>q.unwish) fun _ _ z=>False.elim z
end
section
variable {X:Cx} {st:Stmt} {rest:List Stmt} {t u:TS} {e:Expr} {te:TE} {pos:Pos}
noncomputable def AlM:TS:=fun D σ H=>D.nx σ H
noncomputable def Amu (t u:TS):TS:=fun D σ H=>t { D with nx:=u D } σ H
theorem Adr:PSs X [] AlM:=fun _ _ σ H _ I h=>wpAny_execs_nil ⟨σ,H,I,h⟩
theorem Qq (h1:PS X st t) (h2:PSs X rest u):PSs X (st :: rest) (Amu t u):=by
 intro pins s σ H D I h
 refine wpAny_execs_cons (thn (h1 pins s σ H { D with nx:=u D } I h) fun f s1 q=>?_)
 cases f with
 | next =>
  obtain ⟨σ',H',I',q⟩:=q
  exact h2 pins s1 σ' H' D I' q
 | ret v=>exact q
 | brk=>exact q
 | cont=>exact q
theorem Um (h1:PS X st t):PSs X [st] t:=by
 intro pins s σ H D I h
 refine wpAny_execs_cons (thn (h1 pins s σ H D I h) fun f s1 q=>?_)
 cases f with
 | next=>exact wpAny_execs_nil q
 | ret v=>exact q
 | brk=>exact q
 | cont=>exact q
theorem Inv.quiet {pins:List (Addr × Obj)} {σ:St} {H:Hp} {s:Shared} (I:Inv X pins σ H s):interactive X.env=false:=by simp [interactive,I.ok.kind]
noncomputable def AkH (te:TE):TS:=fun D σ H=>te σ H fun _ H1=>D.nx σ H1
theorem TY (he:PE X e te) (hs:swapsWith e none pos.line X.env=pure false:=by rfl):PS X (.Expr e pos) (AkH te):=by
 intro pins s σ H D I h
 exact wpAny_Expr_any (thn (he pins s σ H _ I h) fun v s1 ⟨x,H1,I1,r1,q1⟩=>⟨σ,H1,I1,q1⟩) I.quiet hs
noncomputable def AnO (te:TE):TS:=fun D σ H=>te σ H D.rt
theorem Ahz (he:PE X e te):PS X (.Return (some e) pos) (AnO te):=by
 intro pins s σ H D I h
 exact wpAny_Return_some (thn (he pins s σ H _ I h) fun v s1 ⟨x,H1,I1,r1,q1⟩=>⟨x,σ,H1,I1,r1,q1⟩)
noncomputable def Aoa (c:TT) (t u:TS):TS:=fun D σ H=>c σ H fun b H1=>if b=true then t D σ H1 else u D σ H1
theorem Aja {c:Expr} {a b:List Stmt} {tc:TT} (hc:PT X c tc) (ha:PSs X a t) (hb:PSs X b u):PS X (.If c a b pos) (Aoa tc t u):=by
 intro pins s σ H D I h
 refine wpAny_If (thn (hc pins s σ H _ I h) fun d s1 ⟨H1,I1,q1⟩=>?_)
 cases d with
 | true=>exact ha pins s1 σ H1 D I1 q1
 | false=>exact hb pins s1 σ H1 D I1 q1
noncomputable def Agl:TS:=fun _ _ _=>False
theorem Abm:PS X st Agl:=fun _ _ _ _ _ _ h=>h.elim
end
noncomputable abbrev TG:=V→St→Hp→(St→Hp→Prop)→Prop
noncomputable abbrev TGs:=List V→St→Hp→(St→Hp→Prop)→Prop
noncomputable def PG (X:Cx) (target:Expr) (t:TG):Prop :=
 ∀ (pins:List (Addr × Obj)) (s:Shared) (σ:St) (H:Hp) (v:V) (u:Value) (Q:St→Hp→Prop),Inv X pins σ H s→RelV v u→t v σ H Q →
  wpAny (model X.prog X.w) X.A (assign target X.env u) (fun _ s'=>∃ σ' H',Inv X pins σ' H' s'∧Q σ' H') X.xe s
noncomputable def PGs (X:Cx) (ts:List Expr) (t:TGs):Prop :=
 ∀ (pins:List (Addr × Obj)) (s:Shared) (σ:St) (H:Hp) (vs:List V) (us:List Value) (Q:St→Hp→Prop),Inv X pins σ H s→Vals vs us→t vs σ H Q →
  wpAny (model X.prog X.w) X.A (assignInOrder ((assignEach ts X.env).map (·.2)) us) (fun _ s'=>∃ σ' H',Inv X pins σ' H' s'∧Q σ' H') X.xe s
noncomputable abbrev TIp:=V→V→Hp→VK→Prop
noncomputable def PIp (X:Cx) (op:Operator) (t:TIp):Prop :=
 ∀ (pins:List (Addr × Obj)) (s:Shared) (σ:St) (H:Hp) (x y:V) (v u:Value) (Q:VK),Inv X pins σ H s→RelV x v→RelV y u→t x y H Q →
  wpAny (model X.prog X.w) X.A (inplaceOp op v u) (EP X pins σ Q) X.xe s
section
variable {X:Cx} {pos:Pos}
noncomputable def YF (i:Nat):TG:=fun v σ H Q=>Q (σ.set i (some v)) H
theorem Ui {i:Nat} {x:Str} (hN:X.N.Nodup) (hi:X.N[i]? = some x) (hx:Loc X.env.scope x) (hf:X.fn x=true∨X.env.scope.names.lookup x=some .local:=by first | exact .inl rfl | exact .inr rfl | assumption):PG X (.Name x pos) (YF i):=by
 intro pins s σ H v u Q I r h
 exact wpAny_assign_Name (QJ I hN hi hx r (fun s' I'=>⟨_,H,I',h⟩) hf)
noncomputable def AmM:TGs:=fun vs σ H Q=>vs=[]∧Q σ H
noncomputable def AlN (t:TG) (u:TGs):TGs:=fun vs σ H Q=>∃ v r,vs=v :: r∧t v σ H fun σ' H'=>u r σ' H' Q
theorem Ac8:PGs X [] AmM:=by
 intro pins s σ H vs us Q I r h
 obtain ⟨e,h⟩:=h
 subst e
 cases r
 exact assignInOrder_nil ⟨σ,H,I,h⟩
theorem AaG {e:Expr} {es:List Expr} {t:TG} {u:TGs} (h1:PG X e t) (h2:PGs X es u)
  (hs:(assignEach (e :: es) X.env).map (·.2)=assign e X.env :: (assignEach es X.env).map (·.2):=by rfl):PGs X (e :: es) (AlN t u):=by
 intro pins s σ H vs us Q I r h
 obtain ⟨v,vr,e1,h⟩:=h
 subst e1
 cases r with
 | cons r rr =>
  rw [hs]
  refine assignInOrder_cons (thn (h1 pins s σ H _ _ _ I r h) fun _ s1 ⟨σ1,H1,I1,q1⟩=>?_)
  exact h2 pins s1 σ1 H1 _ _ Q I1 rr q1
noncomputable def AnB (K:PySem.W.Frag) (n:Nat) (t:TGs):TG:=fun v σ H Q=>∃ a xs,v=.ref a∧SqT K H a xs∧xs.length=n∧t xs σ H Q
theorem AgG {es:List Expr} {k:Nat} {t:TGs} {n:Nat} (hc:X.calm=true) (h:PGs X es t)
  (hn:(assignEach es X.env).length=n:=by rfl) (hst:(assignEach es X.env).findIdx? (·.1)=none:=by rfl):PG X (.Tuple es k pos) (AnB X.K n t):=by
 intro pins s σ H v u Q I r hw
 obtain ⟨a,xs,e1,hq,hl,hw⟩:=hw
 subst e1
 cases r
 obtain ⟨its,rv,ht,hz⟩:=I.tuple hq
 refine assign_Tuple_tuple (I.ok.hd hc) ht (by simp [hn,←hl,rv.length]) hst fun h' hx=>?_
 have I1:Inv X pins σ H { s with heap:=h' }:=I.kept (t':=s.toks) fun b o e=>hx b o (Nat.ne_of_lt (Heap.lt_size e)) e
 exact h pins _ σ H xs _ Q I1 (by simpa using rv) hw
noncomputable def Akh (te:TE) (g:TG):TS:=fun D σ H=>te σ H fun x H1=>g x σ H1 D.nx
theorem AhK {tg e:Expr} {te:TE} {g:TG} (he:PE X e te) (hg:PG X tg g) (hs:swapsWithSole [tg] e pos.line X.env=pure false:=by rfl) (hw:swappedStores [tg] e X.env=pure none:=by rfl)
  (h1:(assignEach [tg] X.env).map (·.2)=[assign tg X.env]:=by rfl):PS X (.Assign [tg] e pos) (Akh te g):=by
 intro pins s σ H D I h
 refine wpAny_Assign_stores (thn (he pins s σ H _ I h) fun v s1 ⟨x,H1,I1,r1,q1⟩=>?_) hs hw
 rw [h1]
 exact thn (hg pins s1 σ H1 x v _ I1 r1 q1) fun _ s2 q=>q
theorem AaQ {i:Nat} {x:Str} {e:Expr} {te:TE} {pos':Pos} (hN:X.N.Nodup) (hi:X.N[i]? = some x) (hx:Loc X.env.scope x) (he:PE X e te) (hs:swapsWith e (some (.Name x pos')) pos.line X.env=pure false:=by rfl) (hf:X.fn x=true∨X.env.scope.names.lookup x=some .local:=by first | exact .inl rfl | exact .inr rfl | assumption) :
  PS X (.Assign [.Name x pos'] e pos) (Akh te (YF i)):=by
 intro pins s σ H D I h
 refine wpAny_Assign_Name (thn (he pins s σ H _ I h) fun v s1 ⟨y,H1,I1,r1,q1⟩=>?_) hs
 exact QJ I1 hN hi hx r1 (fun s2 I2=>⟨_,H1,I2,q1⟩) hf
noncomputable def Ame (i:Nat) (te:TE) (ti:TIp):TS:=fun D σ H=>∃ x,σ[i]? = some (some x)∧te σ H fun y H1=>ti x y H1 fun z H2=>D.nx (σ.set i (some z)) H2
theorem Ag5 {i:Nat} {x:Str} {e:Expr} {te:TE} {op:Operator} {ti:TIp} {pos':Pos} (hN:X.N.Nodup) (hi:X.N[i]? = some x) (hx:Loc X.env.scope x) (he:PE X e te) (ho:PIp X op ti) (hf:X.fn x=true∨X.env.scope.names.lookup x=some .local:=by first | exact .inl rfl | exact .inr rfl | assumption) :
  PS X (.AugAssign (.Name x pos') op e pos) (Ame i te ti):=by
 intro pins s σ H D I h
 obtain ⟨v,e1,h⟩:=h
 obtain ⟨m,hn,hl⟩:=I.loc
 have vis:Vis X.env.scope x:=by rcases hx with k | k;exact .inl k;exact .inr (.inl k)
 obtain ⟨u,r,l⟩:=hl i x v hi e1 vis
 refine wpAny_AugAssign_Name ?_
 have go:wpAny (model X.prog X.w) X.A (eval e X.env) (fun w s₂=>wpAny (model X.prog X.w) X.A (inplaceOp op u w) (fun r s₃=>wpAny (model X.prog X.w) X.A (storeName X.env x r) (fun _=>SP X pins D .next) X.xe s₃) X.xe s₂) X.xe s:=by
  refine thn (he pins s σ H _ I h) fun w s1 ⟨y,H1,I1,r1,q1⟩=>?_
  refine thn (ho pins s1 σ H1 v y u w _ I1 r r1 q1) fun z s2 ⟨zv,H2,I2,r2,q2⟩=>?_
  exact QJ I2 hN hi hx r2 (fun s3 I3=>⟨_,H2,I3,q2⟩) hf
 rcases l with ⟨hk,hm⟩ | ⟨hk,c,hc,hcell⟩
 ·exact wpAny_loadName_local I.ok.kind hk hn hm go
 ·rcases hk with hk | hk
  ·exact wpAny_loadName_cell I.ok.kind hk hc hcell go
  ·rcases hx with k | k
   ·have:X.env.scope.names.lookup x=some .free:=hk
    rw [k] at this;cases this
   ·have:X.env.scope.names.lookup x=some .free:=hk
    rw [k] at this;cases this
noncomputable def ipI (f:Int→Int→Int):TIp:=fun x y H Q=>∃ i j,x=.int i∧y=.int j∧Q (.int (f i j)) H
theorem AgV:PIp X .Add (ipI fun i j=>i+j):=by
 intro pins s σ H x y v u Q I r1 r2 h
 obtain ⟨i,j,e1,e2,q⟩:=h
 subst e1;subst e2
 obtain ⟨t,rfl⟩:=r1
 obtain ⟨t',rfl⟩:=r2
 exact iadd_int ⟨.int _,H,I.tok _,⟨_,rfl⟩,q⟩
end
section
variable {X:Cx} {pos:Pos}
noncomputable def Agw (c:TT) (tb:TS):TS:=fun D σ H=>∃ W:Nat→St→Hp→Prop,(∃ m,W m σ H)∧∀ m σ H,W m σ H →
 c σ H fun b H1=>if b=true then ∃ N:St→Hp→Prop,(∀ σ' H',N σ' H'→∃ m',m' < m∧W m' σ' H')∧tb { D with nx:=N,ct:=N,bk:=D.nx } σ H1 else D.nx σ H1
theorem AaM {c:Expr} {body:List Stmt} {tc:TT} {tb:TS} (hp:PassesOwn (model X.prog X.w) X.A X.env X.xe) (hc:PT X c tc) (hb:PSs X body tb):PS X (.While c body [] pos) (Agw tc tb):=by
 intro pins s σ H D I h
 obtain ⟨W,⟨m0,w0⟩,turn⟩:=h
 refine wpAny_While (codeAny_whileLoop (fun n s'=>∃ σ' H',Inv X pins σ' H' s'∧W n σ' H') ?_ m0 ⟨σ,H,I,w0⟩)
 rintro n s1 ⟨σ1,H1,I1,w1⟩
 refine wpAny_passesOwn hp (thn (hc pins s1 σ1 H1 _ I1 (turn n σ1 H1 w1)) fun b s2 ⟨H2,I2,q2⟩=>?_)
 cases b with
 | true =>
  obtain ⟨N,hN,q2⟩:=q2
  rw [if_pos rfl]
  refine wpAny_passesOwn hp (thn (hb pins s2 σ1 H2 _ I2 q2) fun f s3 q3=>?_)
  cases f with
  | next =>
   obtain ⟨σ3,H3,I3,n3⟩:=q3
   obtain ⟨m',hm,w3⟩:=hN σ3 H3 n3
   exact ⟨m',hm,σ3,H3,I3,w3⟩
  | cont =>
   obtain ⟨σ3,H3,I3,n3⟩:=q3
   obtain ⟨m',hm,w3⟩:=hN σ3 H3 n3
   exact ⟨m',hm,σ3,H3,I3,w3⟩
  | brk=>exact q3
  | ret v=>exact q3
 | false =>
  rw [if_neg Bool.false_ne_true]
  exact wpAny_execs_nil ⟨σ1,H2,I2,q2⟩
end
structure It where
 go:Nat→Hp→Prop
 yld:Nat→Hp→V→Hp→Prop
 stop:Nat→Hp→Prop
noncomputable def O6 (X:Cx) (pins:List (Addr × Obj)) (H:Hp) (b:Addr):Prop :=
 H b=none∧b≠X.env.locals∧b∉X.fs∧(b∈X.ex∨X.s₀.heap.objs.size≤b)∧(∀ x c,X.env.cells.lookup x=some c→c≠b)∧∀ p∈X.pn ++ pins,p.1≠b
theorem Inv.fpOk {X:Cx} {pins:List (Addr × Obj)} {σ:St} {H H':Hp} {s:Shared} {b:Addr} (I:Inv X pins σ H s) (hb:s.heap.objs.size≤b) (hn:H' b=none):O6 X pins H' b:=by
 refine ⟨hn,Nat.ne_of_gt (Nat.lt_of_lt_of_le I.lt hb),I.nofs hb,.inr (Nat.le_trans I.sz hb),fun x c e z=>?_,fun p hp z=>?_⟩
 ·obtain ⟨v,q⟩:=I.cell x c e
  exact absurd (Nat.lt_of_lt_of_le q.lt (by rw [z];exact hb)) (Nat.lt_irrefl _)
 ·exact absurd (Nat.lt_of_lt_of_le (Heap.lt_size (I.pin p hp).1) (by rw [z];exact hb)) (Nat.lt_irrefl _)
structure Turn (P:Program) (w:World) (K:PySem.W.Frag) (tg:Expr) (J:It) (fp:List Addr) (it:Addr) (tn:Nat→Heap→Prop):Prop where
 mem:it∈fp
 obj:∀ i h,tn i h→∀ b∈fp,∃ o,h.get? b=some o∧∀ v,o.data≠.cell v
 keep:∀ i h h',tn i h→(∀ b∈fp,∀ o,h.get? b=some o→h'.get? b=some o)→tn i h'
 item:∀ (X:Cx),X.prog=P→X.w=w→X.K=K→X.calm=true→∀ (i:Nat) (pins:List (Addr × Obj)) (s:Shared) (σ:St) (H:Hp) (E:Value→Shared→Prop),Inv X pins σ H s→(∀ b∈fp,O6 X pins H b)→tn i s.heap→J.go i H →
  wpAny (model P w) X.A (pyNext (.ref it)) (fun r s1=>∃ u,r=some u ∧
   wpAny (model P w) X.A (letOwnedTupleGo tg (.ref it) u) (fun _ s2=>∃ x H',Inv X pins σ H' s2∧RelV x u∧J.yld i H x H'∧tn (i+1) s2.heap∧∀ b∈fp,H' b=none) E s1) E s
 done:∀ (X:Cx),X.prog=P→X.w=w→X.K=K→X.calm=true→∀ (i:Nat) (pins:List (Addr × Obj)) (s:Shared) (σ:St) (H:Hp) (E:Value→Shared→Prop),Inv X pins σ H s→(∀ b∈fp,O6 X pins H b)→tn i s.heap→J.stop i H →
  wpAny (model P w) X.A (pyNext (.ref it)) (fun r s1=>r=none∧Inv X pins σ H s1) E s
 self:∀ (A:Around) (i:Nat) (s:Shared) (Q:Value→Shared→Prop) (E:Value→Shared→Prop),tn i s.heap→Q (.ref it) s→wpAny (model P w) A (pyIter (.ref it)) Q E s
noncomputable abbrev TI:=St→Hp→(It→Hp→Prop)→Prop
noncomputable def PIE (X:Cx) (pins:List (Addr × Obj)) (σ:St) (tg:Expr) (R:It→Hp→Prop) (itv:Value) (s2:Shared):Prop :=
 ∃ (it:Addr) (fp:List Addr) (tn:Nat→Heap→Prop) (J:It) (H':Hp),itv=.ref it∧Inv X pins σ H' s2∧Turn X.prog X.w X.K tg J fp it tn∧tn 0 s2.heap∧(∀ b∈fp,O6 X pins H' b)∧R J H'
noncomputable def PI (X:Cx) (tg iter:Expr) (wi:TI):Prop :=
 ∀ (pins:List (Addr × Obj)) (s:Shared) (σ:St) (H:Hp) (R:It→Hp→Prop),Inv X pins σ H s→wi σ H R →
  wpAny (model X.prog X.w) X.A (eval iter X.env) (fun v s1=>wpAny (model X.prog X.w) X.A (pyIter v) (PIE X pins σ tg R) X.xe s1) X.xe s
theorem AaV {M:Model} {A:Around} {E:Value→Shared→Prop} {s:Shared} {tg:Expr} {it:Addr} {u:Value} {o:Obj} {n:String} {vs:Array Value} {Q:Unit→Shared→Prop} (ho:s.heap.get? it=some o) (hc:o.cls=.type n) (hd:o.data=.fields vs)
  (hn:["enumerate","zip","dict_itemiterator","dict_reverseitemiterator","odict_iterator","itertools.zip_longest","itertools.pairwise"].contains n=false) (hQ:Q () s):wpAny M A (letOwnedTupleGo tg (.ref it) u) Q E s:=by
 unfold letOwnedTupleGo
 cases tg <;> first
  | exact wpAny_pure hQ
  | (cases u <;> first
    | exact wpAny_pure hQ
    | (refine wpAny_bind (wpAny_load ho ?_)
       rw [hc,hd]
       show wpAny M A (if (["enumerate","zip","dict_itemiterator","dict_reverseitemiterator","odict_iterator","itertools.zip_longest","itertools.pairwise"].contains n && vs[0]? == some (rawInt _))=true then _ else _) Q E s
       rw [if_neg (by intro h;rw [hn,Bool.false_and] at h;cases h)]
       exact wpAny_pure hQ))
noncomputable def Itl (K:PySem.W.Frag) (a:Addr):It :=
 ⟨fun i H=>∃ xs x,SqL K H a xs∧xs[i]? = some x,fun i H x H'=>H'=H∧∀ xs,SqL K H a xs→xs[i]? = some x,fun i H=>∃ xs,SqL K H a xs∧xs.length≤i⟩
noncomputable def Itt (K:PySem.W.Frag) (a:Addr):It :=
 ⟨fun i H=>∃ xs x,SqT K H a xs∧xs[i]? = some x,fun i H x H'=>H'=H∧∀ xs,SqT K H a xs→xs[i]? = some x,fun i H=>∃ xs,SqT K H a xs∧xs.length≤i⟩
noncomputable def Itr (lo:Int) (n:Nat):It:=⟨fun i _=>i < n,fun i H x H'=>H'=H∧x=.int (lo+i),fun i _=>n≤i⟩
theorem Z7 {P:Program} {w:World} {K:PySem.W.Frag} {tg:Expr} (a it:Addr):Turn P w K tg (Itl K a) [it] it (fun i h=>h.IsListIter it a i) where
 mem:=by simp
 obj:=fun i h st b hb=>by
  have e:b=it:=by simpa using hb
  subst e
  obtain ⟨o,e,c,d⟩:=st
  exact ⟨o,e,fun v z=>by rw [d] at z;cases z⟩
 keep:=fun i h h' st k=>st.at fun o e=>k it (by simp) o e
 item:=by
  intro X hP hw hK hc i pins s σ H E I hf st hg
  subst hP hw hK
  obtain ⟨xs,x,hq,hx⟩:=hg
  obtain ⟨its,rv,p,hz⟩:=I.list hq
  obtain ⟨u,hu,ru⟩:=rv.get hx
  obtain ⟨f0,f1,f2,f3,f4,f5⟩:=hf it (by simp)
  refine wpAny_pyNext_list_item st p.isList (x:=u) (by simpa using hu) fun h' st' sb=>?_
  have I1:Inv X pins σ H { s with heap:=h' }:=I.turned (t':=s.toks) (fun b o hb e=>(sb.2 b hb).trans e) f0 f1 f3 f4 f5
  obtain ⟨o,e,c,d⟩:=id st'
  exact ⟨u,rfl,AaV (s:={ s with heap:=h' }) e c d (by decide) ⟨x,H,I1,ru,⟨rfl,fun ys hy=>by rw [I.list_inj hy hq];exact hx⟩,st',fun b hb=>(hf b hb).1⟩⟩
 done:=by
  intro X hP hw hK hc i pins s σ H E I hf st hg
  subst hP hw hK
  obtain ⟨xs,hq,hx⟩:=hg
  obtain ⟨its,rv,p,hz⟩:=I.list hq
  obtain ⟨f0,f1,f2,f3,f4,f5⟩:=hf it (by simp)
  have hl:=rv.length
  exact wpAny_pyNext_list_end (I.ok.hd hc) st p.isList (by simp;omega) fun h' eb=>⟨rfl,I.turned (t':=s.toks) (fun b o hb e=>eb b o hb e) f0 f1 f3 f4 f5⟩
 self:=fun _ _ _ _ _ st h=>wpAny_pyIter_listiter st h
theorem Yn {P:Program} {w:World} {K:PySem.W.Frag} {tg:Expr} (a it:Addr):Turn P w K tg (Itt K a) [it] it (fun i h=>h.IsTupleIter it a i) where
 mem:=by simp
 obj:=fun i h st b hb=>by
  have e:b=it:=by simpa using hb
  subst e
  obtain ⟨o,e,c,d⟩:=st
  exact ⟨o,e,fun v z=>by rw [d] at z;cases z⟩
 keep:=fun i h h' st k=>st.at fun o e=>k it (by simp) o e
 item:=by
  intro X hP hw hK hc i pins s σ H E I hf st hg
  subst hP hw hK
  obtain ⟨xs,x,hq,hx⟩:=hg
  obtain ⟨its,rv,p,hz⟩:=I.tuple hq
  obtain ⟨u,hu,ru⟩:=rv.get hx
  obtain ⟨f0,f1,f2,f3,f4,f5⟩:=hf it (by simp)
  refine wpAny_pyNext_tuple_item st (show s.heap.IsTuple a its.toArray from p) (x:=u) (by simpa using hu) fun h' st' sb=>?_
  have I1:Inv X pins σ H { s with heap:=h' }:=I.turned (t':=s.toks) (fun b o hb e=>(sb.2 b hb).trans e) f0 f1 f3 f4 f5
  obtain ⟨o,e,c,d⟩:=id st'
  exact ⟨u,rfl,AaV (s:={ s with heap:=h' }) e c d (by decide) ⟨x,H,I1,ru,⟨rfl,fun ys hy=>by rw [I.tuple_inj hy hq];exact hx⟩,st',fun b hb=>(hf b hb).1⟩⟩
 done:=by
  intro X hP hw hK hc i pins s σ H E I hf st hg
  subst hP hw hK
  obtain ⟨xs,hq,hx⟩:=hg
  obtain ⟨its,rv,p,hz⟩:=I.tuple hq
  obtain ⟨f0,f1,f2,f3,f4,f5⟩:=hf it (by simp)
  have hl:=rv.length
  exact wpAny_pyNext_tuple_end (I.ok.hd hc) st (show s.heap.IsTuple a its.toArray from p) (by simp;omega) fun h' eb=>⟨rfl,I.turned (t':=s.toks) (fun b o hb e=>eb b o hb e) f0 f1 f3 f4 f5⟩
 self:=fun _ _ _ _ _ st h=>wpAny_pyIter_tupleiter st h
theorem X6 {P:Program} {w:World} {K:PySem.W.Frag} {tg:Expr} (it:Addr) (lo:Int) (n:Nat):Turn P w K tg (Itr lo n) [it] it (fun i h=>IsRangeIter h it (lo+(i:Nat)*1) ((n:Int) - (i:Nat)) 1) where
 mem:=by simp
 obj:=fun i h st b hb=>by
  have e:b=it:=by simpa using hb
  subst e
  exact ⟨_,st,fun v z=>by
   have z':Data.fields _=Data.cell v:=z
   cases z'⟩
 keep:=fun i h h' st k=>k it (by simp) _ st
 item:=by
  intro X hP hw hK hc i pins s σ H E I hf st hg
  subst hP hw hK
  obtain ⟨f0,f1,f2,f3,f4,f5⟩:=hf it (by simp)
  have W:=Walks.range (prog:=X.prog) (w:=X.w) (I.ok.hd hc) it lo 1 n
  refine W.item i s _ _ hg st fun v h' tk hv st' kk=>?_
  obtain ⟨t,rfl⟩:=hv
  have I1:Inv X pins σ H { s with heap:=h',toks:=tk }:=I.turned (fun b o hb e=>kk b o (by simpa using hb) e) f0 f1 f3 f4 f5
  refine ⟨_,rfl,AaV (s:={ s with heap:=h',toks:=tk }) (n:="range_iterator") st' rfl rfl (by decide) ⟨.int (lo+i),H,I1,⟨t,?_⟩,⟨rfl,rfl⟩,st',fun b hb=>(hf b hb).1⟩⟩
  rw [Int.mul_one]
 done:=by
  intro X hP hw hK hc i pins s σ H E I hf st hg
  subst hP hw hK
  obtain ⟨f0,f1,f2,f3,f4,f5⟩:=hf it (by simp)
  exact wpAny_pyNext_range_end (I.ok.hd hc) st (by have:n≤i:=hg;omega) fun h' eb=>⟨rfl,I.turned (t':=s.toks) (fun b o hb e=>eb b o hb e) f0 f1 f3 f4 f5⟩
 self:=fun _ _ _ _ _ st h=>wpAny_pyIter_rangeiter st h
end L2
namespace L2
open PySem PySem.Spec PyProof.Rows
section
variable {X:Cx} {tg:Expr}
noncomputable def Alf (K:PySem.W.Frag) (tl:TE):TI:=fun σ H R=>tl σ H fun x H1=>∃ a,x=.ref a∧(∃ xs,SqL K H1 a xs)∧R (Itl K a) H1
noncomputable def AnH (K:PySem.W.Frag) (tl:TE):TI:=fun σ H R=>tl σ H fun x H1=>∃ a,x=.ref a∧(∃ xs,SqT K H1 a xs)∧R (Itt K a) H1
theorem Adg {l:Expr} {tl:TE} (hl:PE X l tl):PI X tg l (Alf X.K tl):=by
 intro pins s σ H R I h
 refine thn (hl pins s σ H _ I h) fun v s1 ⟨x,H1,I1,r1,q1⟩=>?_
 obtain ⟨a,e,⟨xs,hq⟩,q⟩:=q1
 subst e
 cases r1
 obtain ⟨its,rv,p,hz⟩:=I1.list hq
 refine wpAny_pyIter_list p.isList ?_
 refine ⟨s1.heap.objs.size,[s1.heap.objs.size],_,_,H1,rfl,I1.kept (t':=s1.toks) fun b o e=>Heap.get?_push_of_some _ e,Z7 a _,⟨_,Heap.get?_push_size _ rfl,rfl,rfl⟩,fun b hb=>?_,q⟩
 have e:b=s1.heap.objs.size:=by simpa using hb
 subst e
 exact I1.fpOk (Nat.le_refl _) (I1.hok.fresh (Nat.le_refl _))
theorem Agu {l:Expr} {tl:TE} (hl:PE X l tl):PI X tg l (AnH X.K tl):=by
 intro pins s σ H R I h
 refine thn (hl pins s σ H _ I h) fun v s1 ⟨x,H1,I1,r1,q1⟩=>?_
 obtain ⟨a,e,⟨xs,hq⟩,q⟩:=q1
 subst e
 cases r1
 obtain ⟨its,rv,p,hz⟩:=I1.tuple hq
 refine wpAny_pyIter_tuple (show s1.heap.IsTuple a its.toArray from p) ?_
 refine ⟨s1.heap.objs.size,[s1.heap.objs.size],_,_,H1,rfl,I1.kept (t':=s1.toks) fun b o e=>Heap.get?_push_of_some _ e,Yn a _,⟨_,Heap.get?_push_size _ rfl,rfl,rfl⟩,fun b hb=>?_,q⟩
 have e:b=s1.heap.objs.size:=by simpa using hb
 subst e
 exact I1.fpOk (Nat.le_refl _) (I1.hok.fresh (Nat.le_refl _))
theorem Wq {pins:List (Addr × Obj)} {σ:St} {H:Hp} {s:Shared} {R:It→Hp→Prop} {E:Value→Shared→Prop} {lo hi:Int} {t u v:Tok} {tk:Nat} (I:Inv X pins σ H s) (h1:-(2 ^ 62)≤lo) (h2:lo < 2 ^ 62) (h3:-(2 ^ 62)≤hi) (h4:hi < 2 ^ 62)
  (q:R (Itr lo (hi - lo).toNat) H):wpAny (model X.prog X.w) X.A (pyIter (.ref s.heap.objs.size)) (PIE X pins σ tg R) E { s with heap:=s.heap.push { cls:=.type "range",data:=.fields #[.int lo t,.int hi u,.int 1 v] },toks:=tk }:=by
 refine wpAny_pyIter_range (IsRange.new ..) (small_one h1 h2 h3 h4) ?_
 have I1:Inv X pins σ H { s with heap:=s.heap.push { cls:=.type "range",data:=.fields #[.int lo t,.int hi u,.int 1 v] },toks:=tk }:=I.kept fun b o e=>Heap.get?_push_of_some _ e
 refine ⟨(s.heap.push { cls:=.type "range",data:=.fields #[.int lo t,.int hi u,.int 1 v] }).objs.size,[(s.heap.push { cls:=.type "range",data:=.fields #[.int lo t,.int hi u,.int 1 v] }).objs.size],_,_,H,rfl,
  I1.kept (t':=tk) fun b o e=>Heap.get?_push_of_some _ e,X6 _ lo (hi - lo).toNat,?_,fun b hb=>?_,q⟩
 ·have e1:lo+((0:Nat):Int)*1=lo:=by simp
  have e2:(((hi - lo).toNat:Nat):Int) - ((0:Nat):Int)=Builtin.Range.rangeSize lo hi 1:=by rw [rangeSize_one];split <;> omega
  show IsRangeIter _ _ (lo+((0:Nat):Int)*1) ((((hi - lo).toNat:Nat):Int) - ((0:Nat):Int)) 1
  rw [e1,e2]
  exact Heap.get?_push_size _ rfl
 ·have e:b=(s.heap.push { cls:=.type "range",data:=.fields #[.int lo t,.int hi u,.int 1 v] }).objs.size:=by simpa using hb
  subst e
  exact I1.fpOk (Nat.le_refl _) (I1.hok.fresh (Nat.le_refl _))
noncomputable def AiO (ta:TA):TI:=fun σ H R=>ta σ H fun vs H1=>∃ j:Int,vs=[.int j]∧-(2 ^ 62)≤j∧j < 2 ^ 62∧R (Itr 0 j.toNat) H1
noncomputable def Aik (ta:TA):TI:=fun σ H R=>ta σ H fun vs H1=>∃ i j:Int,vs=[.int i,.int j]∧(-(2 ^ 62)≤i∧i < 2 ^ 62∧-(2 ^ 62)≤j∧j < 2 ^ 62)∧R (Itr i (j - i).toNat) H1
theorem ZM {a:Expr} {ta:TA} {p pos:Pos} (hg:Gl X "range") (hm:X.mg "range"=none) (ha:PA X [a] ta) (hs:starEach [a] X.env=[(false,eval a X.env)]:=by rfl):PI X tg (.Call (.Name "range" p) [a] [] pos) (AiO ta):=by
 intro pins s σ H R I h
 refine Call_ (T9 I hg hm boot_range (PyProof.Rows.callWith_type1 (thn (ha pos pins s σ H _ I h) fun us s1 ⟨vs,H1,I1,r1,q1⟩=>?_) hs rfl))
 obtain ⟨j,e,q1,q2,q⟩:=q1
 subst e
 cases r1 with
 | cons r rr =>
  cases rr
  obtain ⟨t,rfl⟩:=r
  exact call_range_1 (Wq I1 (by omega) (by omega) q1 q2 (by simpa using q))
theorem ZP {a b:Expr} {ta:TA} {p pos:Pos} (hg:Gl X "range") (hm:X.mg "range"=none) (ha:PA X [a,b] ta) (hs:starEach [a,b] X.env=[(false,eval a X.env),(false,eval b X.env)]:=by rfl) (hs2:starEach [b] X.env=[(false,eval b X.env)]:=by rfl) :
  PI X tg (.Call (.Name "range" p) [a,b] [] pos) (Aik ta):=by
 intro pins s σ H R I h
 refine Call_ (T9 I hg hm boot_range (PyProof.Rows.callWith_type1 (thn (ha pos pins s σ H _ I h) fun us s1 ⟨vs,H1,I1,r1,q1⟩=>?_) (by rw [hs,hs2]) (by rw [hs2];rfl)))
 obtain ⟨i,j,e,⟨q1,q2,q3,q4⟩,q⟩:=q1
 subst e
 cases r1 with
 | cons r rr =>
  cases rr with
  | cons r' rr =>
   cases rr
   obtain ⟨t,rfl⟩:=r
   obtain ⟨t',rfl⟩:=r'
   exact call_range_2 (Wq I1 q1 q2 q3 q4 q)
noncomputable def AnZ (wi:TI) (g:TG) (tb:TS):TS:=fun D σ H=>wi σ H fun J H1=>∃ W:Nat→Nat→St→Hp→Prop,(∃ m,W 0 m σ H1)∧∀ i m σ H,W i m σ H →
 (J.stop i H∧D.nx σ H)∨(J.go i H∧∃ N:St→Hp→Prop,(∀ σ' H',N σ' H'→∃ m',m' < m∧W (i+1) m' σ' H')∧∀ x H',J.yld i H x H'→g x σ H' fun σ2 H2=>tb { D with nx:=N,ct:=N,bk:=D.nx } σ2 H2)
noncomputable def Nx (fp:List Addr) (h:Heap):List (Addr × Obj):=fp.filterMap fun b=>(h.get? b).map fun o=>(b,o)
theorem Gu {fp:List Addr} {h:Heap} {b:Addr} {o:Obj} (hb:b∈fp) (e:h.get? b=some o):(b,o)∈Nx fp h:=List.mem_filterMap.mpr ⟨b,hb,by rw [e];rfl⟩
theorem Z6 {fp:List Addr} {h:Heap} {p:Addr × Obj} (hp:p∈Nx fp h):p.1∈fp∧h.get? p.1=some p.2:=by
 obtain ⟨b,hb,e⟩:=List.mem_filterMap.mp hp
 cases q:h.get? b with
 | none=>rw [q] at e;cases e
 | some o =>
  rw [q] at e
  have e':(b,o)=p:=Option.some.inj e
  subst e'
  exact ⟨hb,q⟩
theorem Inv.pinned {pins:List (Addr × Obj)} {σ:St} {H:Hp} {s:Shared} {fp:List Addr} (I:Inv X pins σ H s) (hf:∀ b∈fp,O6 X pins H b) (ho:∀ b∈fp,∃ o,s.heap.get? b=some o∧∀ v,o.data≠.cell v):Inv X (pins ++ Nx fp s.heap) σ H s :=
 I.pins_of fun p hp=>(List.mem_append.mp hp).elim (fun z=>I.pin p (List.mem_append_right _ z)) fun z=>by
  obtain ⟨hb,e⟩:=Z6 z
  obtain ⟨f0,f1,f2,_⟩:=hf p.1 hb
  obtain ⟨o,e',d⟩:=ho p.1 hb
  rw [e] at e';cases e'
  exact ⟨e,f0,f1,f2,d⟩
theorem Inv.unpinned {pins pl:List (Addr × Obj)} {σ:St} {H:Hp} {s:Shared} (I:Inv X (pins ++ pl) σ H s):Inv X pins σ H s:=I.pins_of fun p hp=>I.pin p (List.mem_append_right _ (List.mem_append_left _ hp))
theorem AgK {iter:Expr} {body:List Stmt} {wi:TI} {g:TG} {tb:TS} {pos:Pos} (hp:PassesOwn (model X.prog X.w) X.A X.env X.xe) (hc:X.calm=true) (hi:PI X tg iter wi) (hg:PG X tg g) (hb:PSs X body tb)
  (hs:∀ x,foldedSetIterable iter X.env x=pure x:=by intro _;rfl):PS X (.For tg iter body [] pos) (AnZ wi g tb):=by
 intro pins s σ H D I h
 refine wpAny_For (thn (hi pins s σ H _ I h) fun v s1 h1=>thn h1 fun itv s2 h2=>?_) hs
 obtain ⟨it,fp,tn,J,H2,e,I2,T,st2,f2,W,⟨m0,w0⟩,turn⟩:=h2
 subst e
 have stat:∀ {H':Hp},(∀ b∈fp,H' b=none)→∀ b∈fp,O6 X pins H' b:=fun hn b hb=>⟨hn b hb,(f2 b hb).2⟩
 refine codeAny_forLoop_any (fun n s'=>∃ i σ' H',Inv X pins σ' H' s'∧tn i s'.heap∧(∀ b∈fp,H' b=none)∧W i n σ' H') ?_ m0 ⟨0,σ,H2,I2,st2,fun b hb=>(f2 b hb).1,w0⟩
 rintro n s3 ⟨i,σ3,H3,I3,st3,fr3,w3⟩
 rcases turn i n σ3 H3 w3 with ⟨stop,qn⟩ | ⟨go,N,hN,step⟩
 ·refine wpAny_passesOwn hp (thn (T.done X rfl rfl rfl hc i pins s3 σ3 H3 X.xe I3 (stat fr3) st3 stop) fun r s4 ⟨hr,I4⟩=>?_)
  subst hr
  exact wpAny_execs_nil ⟨σ3,H3,I4,qn⟩
 ·refine wpAny_passesOwn hp (thn (T.item X rfl rfl rfl hc i pins s3 σ3 H3 X.xe I3 (stat fr3) st3 go) fun r s4 ⟨u,hr,h4⟩=>?_)
  subst hr
  refine wpAny_passesOwn hp (thn h4 fun _ s5 ⟨x,H5,I5,r5,y5,st5,fr5⟩=>?_)
  have I5':=I5.pinned (stat fr5) (T.obj _ _ st5)
  refine wpAny_passesOwn hp (thn (hg _ s5 σ3 H5 x u _ I5' r5 (step x H5 y5)) fun _ s6 ⟨σ6,H6,I6,q6⟩=>?_)
  refine wpAny_passesOwn hp (thn (hb _ s6 σ6 H6 _ I6 q6) fun f s7 q7=>?_)
  have again:∀ {σ7:St} {H7:Hp},Inv X (pins ++ Nx fp s5.heap) σ7 H7 s7→N σ7 H7→∃ m,m < n∧∃ i σ' H',Inv X pins σ' H' s7∧tn i s7.heap∧(∀ b∈fp,H' b=none)∧W i m σ' H':=fun {σ7 H7} I7 n7=>by
   obtain ⟨m',hm,w7⟩:=hN σ7 H7 n7
   refine ⟨m',hm,i+1,σ7,H7,I7.unpinned,T.keep _ _ _ st5 fun b hb o e=>(I7.pin (b,o) (List.mem_append_right _ (List.mem_append_right _ (Gu hb e)))).1,fun b hb=>?_,w7⟩
   obtain ⟨o,e,d⟩:=T.obj _ _ st5 b hb
   exact (I7.pin (b,o) (List.mem_append_right _ (List.mem_append_right _ (Gu hb e)))).2.1
  cases f with
  | next=>obtain ⟨σ7,H7,I7,n7⟩:=q7;exact again I7 n7
  | cont=>obtain ⟨σ7,H7,I7,n7⟩:=q7;exact again I7 n7
  | brk=>obtain ⟨σ7,H7,I7,q7⟩:=q7;exact ⟨σ7,H7,I7.unpinned,q7⟩
  | ret v=>obtain ⟨x7,σ7,H7,I7,r7,q7⟩:=q7;exact ⟨x7,σ7,H7,I7.unpinned,r7,q7⟩
end
end L2
namespace L2
open PySem PySem.Spec PyProof.Rows
noncomputable abbrev R2:=V→V→Hp→VK→Prop
noncomputable def OpR (X:Cx) (f:Value→Value→Sem Value) (r:R2):Prop :=
 ∀ (pins:List (Addr × Obj)) (s:Shared) (σ:St) (H:Hp) (x y:V) (v u:Value) (Q:VK),Inv X pins σ H s→RelV x v→RelV y u→r x y H Q →
  wpAny (model X.prog X.w) X.A (f v u) (EP X pins σ Q) X.xe s
noncomputable def UnR (X:Cx) (f:Value→Sem Value) (r:V→Hp→VK→Prop):Prop :=
 ∀ (pins:List (Addr × Obj)) (s:Shared) (σ:St) (H:Hp) (x:V) (v:Value) (Q:VK),Inv X pins σ H s→RelV x v→r x H Q →
  wpAny (model X.prog X.w) X.A (f v) (EP X pins σ Q) X.xe s
noncomputable def Np (X:Cx) (f:Value) (r:List V→Hp→VK→Prop):Prop :=
 ∀ (pins:List (Addr × Obj)) (s:Shared) (σ:St) (H:Hp) (xs:List V) (us:List Value) (Q:VK),Inv X pins σ H s→Vals xs us→r xs H Q →
  wpAny (model X.prog X.w) X.A (call f us) (EP X pins σ Q) X.xe s
noncomputable def tOp (r:R2) (ta tb:TE):TE:=fun σ H Q=>ta σ H fun x H1=>tb σ H1 fun y H2=>r x y H2 Q
noncomputable def tUn (r:V→Hp→VK→Prop) (ta:TE):TE:=fun σ H Q=>ta σ H fun x H1=>r x H1 Q
noncomputable def rI (C:Int→Int→Prop) (g:Int→Int→V):R2:=fun x y H Q=>∃ i j,x=.int i∧y=.int j∧C i j∧Q (g i j) H
noncomputable def rI0 (g:Int→Int→V):R2:=fun x y H Q=>∃ i j,x=.int i∧y=.int j∧Q (g i j) H
noncomputable def rU (g:Int→V):V→Hp→VK→Prop:=fun x H Q=>∃ i,x=.int i∧Q (g i) H
section
variable {X:Cx} {a b c:Expr} {ta tb tc:TE} {pos:Pos}
theorem AgF (ha:PE X a ta) (hb:PE X b tb) {pins:List (Addr × Obj)} {s:Shared} {σ:St} {H:Hp} {R:V→V→Hp→Prop} (I:Inv X pins σ H s)
  (h:ta σ H fun x H1=>tb σ H1 fun y H2=>R x y H2) {Q:Value→Shared→Prop} {f:Value→Value→Sem Value}
  (hf:∀ v u s2 x y H2,Inv X pins σ H2 s2→RelV x v→RelV y u→R x y H2→wpAny (model X.prog X.w) X.A (f v u) Q X.xe s2) :
  wpAny (model X.prog X.w) X.A (eval a X.env) (fun v s₁=>wpAny (model X.prog X.w) X.A (eval b X.env) (fun u s₂=>wpAny (model X.prog X.w) X.A (f v u) Q X.xe s₂) X.xe s₁) X.xe s:=by
 refine thn (ha pins s σ H _ I h) fun v s1 ⟨x,H1,I1,r1,q1⟩=>?_
 refine thn (hb pins s1 σ H1 _ I1 q1) fun u s2 ⟨y,H2,I2,r2,q2⟩=>?_
 exact hf v u s2 x y H2 I2 r1 r2 q2
theorem Ajm {op:Operator} {r:R2} (ho:OpR X (binaryOp op) r) (ha:PE X a ta) (hb:PE X b tb):PE X (.BinOp a op b pos) (tOp r ta tb):=by
 intro pins s σ H Q I h
 exact wpAny_BinOp (AgF ha hb I h fun v u s2 x y H2 I2 rx ry q=>ho pins s2 σ H2 x y v u Q I2 rx ry q)
theorem Ajo {op:UnaryOp} {r:V→Hp→VK→Prop} (ho:UnR X (unaryOp op) r) (ha:PE X a ta):PE X (.UnaryOp op a pos) (tUn r ta):=by
 intro pins s σ H Q I h
 exact UnaryOp_ (thn (ha pins s σ H _ I h) fun v s1 ⟨x,H1,I1,r1,q1⟩=>ho pins s1 σ H1 x v Q I1 r1 q1)
theorem opI {f:Value→Value→Sem Value} {C:Int→Int→Prop} {g:Int→Int→Int}
  (rule:∀ (i j:Int) (t u:Tok) (s:Shared) (Q:Value→Shared→Prop) (E:Value→Shared→Prop),C i j→Q (.int (g i j) s.toks) { s with toks:=s.toks+1 }→wpAny (model X.prog X.w) X.A (f (.int i t) (.int j u)) Q E s) :
  OpR X f (rI C fun i j=>.int (g i j)):=by
 intro pins s σ H x y v u Q I rx ry h
 obtain ⟨i,j,rfl,rfl,hc,q⟩:=h
 obtain ⟨t,rfl⟩:=rx
 obtain ⟨t',rfl⟩:=ry
 exact rule i j t t' s _ _ hc ⟨.int (g i j),H,I.tok _,⟨_,rfl⟩,q⟩
theorem Akk {f:Value→Value→Sem Value} {g:Int→Int→Int}
  (rule:∀ (i j:Int) (t u:Tok) (s:Shared) (Q:Value→Shared→Prop) (E:Value→Shared→Prop),Q (.int (g i j) s.toks) { s with toks:=s.toks+1 }→wpAny (model X.prog X.w) X.A (f (.int i t) (.int j u)) Q E s) :
  OpR X f (rI0 fun i j=>.int (g i j)):=by
 intro pins s σ H x y v u Q I rx ry h
 obtain ⟨i,j,rfl,rfl,q⟩:=h
 obtain ⟨t,rfl⟩:=rx
 obtain ⟨t',rfl⟩:=ry
 exact rule i j t t' s _ _ ⟨.int (g i j),H,I.tok _,⟨_,rfl⟩,q⟩
theorem Adk {f:Value→Value→Sem Value} {g:Int→Int→Bool}
  (rule:∀ (i j:Int) (t u:Tok) (s:Shared) (Q:Value→Shared→Prop) (E:Value→Shared→Prop),Q (.bool (g i j)) s→wpAny (model X.prog X.w) X.A (f (.int i t) (.int j u)) Q E s) :
  OpR X f (rI0 fun i j=>.bl (g i j)):=by
 intro pins s σ H x y v u Q I rx ry h
 obtain ⟨i,j,rfl,rfl,q⟩:=h
 obtain ⟨t,rfl⟩:=rx
 obtain ⟨t',rfl⟩:=ry
 exact rule i j t t' s _ _ ⟨.bl (g i j),H,I,rfl,q⟩
noncomputable def Yi (i j:Int):Prop:=0≤j∧j≤1000000∧i.natAbs < 2 ^ 64
theorem AgR:OpR X (binaryOp .Add) (rI0 fun i j=>.int (i+j)):=Akk fun _ _ _ _ _ _ _ q=>add_int q
theorem Ahh:OpR X (binaryOp .Sub) (rI0 fun i j=>.int (i - j)):=Akk fun _ _ _ _ _ _ _ q=>sub_int q
theorem AeW:OpR X (binaryOp .Mod) (rI (fun _ j=>j≠0) fun i j=>.int (i.fmod j)):=opI fun _ _ _ _ _ _ _ hc q=>mod_int' hc q
theorem AgJ:OpR X (binaryOp .Pow) (rI Yi fun i j=>.int (i ^ j.toNat)):=opI fun _ _ _ _ _ _ _ hc q=>pow_int_small hc.1 hc.2.1 hc.2.2 q
theorem Ag6:OpR X (binaryOp .LShift) (rI Yi fun i j=>.int (i*2 ^ j.toNat)):=opI fun _ _ _ _ _ _ _ hc q=>lshift_int_small hc.1 hc.2.1 hc.2.2 q
theorem unI {f:Value→Sem Value} {g:Int→Int}
  (rule:∀ (i:Int) (t:Tok) (s:Shared) (Q:Value→Shared→Prop) (E:Value→Shared→Prop),Q (.int (g i) s.toks) { s with toks:=s.toks+1 }→wpAny (model X.prog X.w) X.A (f (.int i t)) Q E s) :
  UnR X f (rU fun i=>.int (g i)):=by
 intro pins s σ H x v Q I rx h
 obtain ⟨i,rfl,q⟩:=h
 obtain ⟨t,rfl⟩:=rx
 exact rule i t s _ _ ⟨.int (g i),H,I.tok _,⟨_,rfl⟩,q⟩
theorem Ah0:UnR X (unaryOp .USub) (rU fun i=>.int (-i)):=unI fun _ _ _ _ _ q=>neg_int q
end
section
variable {X:Cx} {a b c:Expr} {ta tb tc:TE} {pos:Pos}
theorem DR {pins:List (Addr × Obj)} {σ:St} {H:Hp} {s:Shared} {Q:VK} {k k':Bool} (I:Inv X pins σ H s) (q:Q (.bl k) H) (e:k=k'):EP X pins σ Q (.bool k') s:=by
 subst e
 exact ⟨.bl k,H,I,rfl,q⟩
theorem Ab1:OpR X (compareOp .Lt) (rI0 fun i j=>.bl (decide (i < j))):=Adk fun _ _ _ _ _ _ _ q=>lt_int q
theorem R6:OpR X (compareOp .LtE) (rI0 fun i j=>.bl (decide (i≤j))):=Adk fun _ _ _ _ _ _ _ q=>le_int q
theorem Afm:OpR X (compareOp .Gt) (rI0 fun i j=>.bl (decide (j < i))):=Adk fun _ _ _ _ _ _ _ q=>gt_int q
theorem Aiu:OpR X (compareOp .GtE) (rI0 fun i j=>.bl (decide (j≤i))):=Adk fun _ _ _ _ _ _ _ q=>ge_int q
theorem AgM:OpR X (compareOp .Is) (fun x y H Q=>y=.non∧Q (.bl (decide (x=.non))) H):=by
 intro pins s σ H x y v u Q I rx ry h
 obtain ⟨rfl,q⟩:=h
 cases ry
 refine is_none_gen (DR I q ?_)
 cases x <;> first
  | (cases rx;rfl)
  | (obtain ⟨t,rfl⟩:=rx;rfl)
theorem AeI:OpR X (compareOp .IsNot) (fun x y H Q=>y=.non∧Q (.bl (!decide (x=.non))) H):=by
 intro pins s σ H x y v u Q I rx ry h
 obtain ⟨rfl,q⟩:=h
 cases ry
 refine isnot_none_gen (DR I q ?_)
 cases x <;> first
  | (cases rx;rfl)
  | (obtain ⟨t,rfl⟩:=rx;rfl)
theorem OpR.or {f:Value→Value→Sem Value} {r r':R2} (h:OpR X f r) (h':OpR X f r'):OpR X f (fun x y H Q=>r x y H Q∨r' x y H Q):=by
 intro pins s σ H x y v u Q I rx ry q
 rcases q with q | q
 ·exact h pins s σ H x y v u Q I rx ry q
 ·exact h' pins s σ H x y v u Q I rx ry q
theorem Hy (b:Expr) {op:CmpOp} (h:op≠.In:=by decide) (h2:op≠.NotIn:=by decide):behindInMarks op b=false:=by
 have e1:(op == CmpOp.In)=false:=by cases op <;> first | rfl | exact absurd rfl h
 have e2:(op == CmpOp.NotIn)=false:=by cases op <;> first | rfl | exact absurd rfl h2
 cases b <;> simp [behindInMarks,e1,e2]
theorem Adl {op:CmpOp} {r:R2} (ho:OpR X (compareOp op) r) (ha:PE X a ta) (hb:PE X b tb) (hm:behindInMarks op b=false):PE X (.Compare a [op] [b] pos) (tOp r ta tb):=by
 intro pins s σ H Q I h
 exact wpAny_Compare1 (AgF ha hb I h fun v u s2 x y H2 I2 rx ry q=>ho pins s2 σ H2 x y v u Q I2 rx ry q) hm
noncomputable def AjE (t:TE):TT:=fun σ H Q=>t σ H fun x H'=>∃ k,x=.bl k∧Q k H'
theorem AdC {op:CmpOp} {r:R2} (ho:OpR X (compareOp op) r) (ha:PE X a ta) (hb:PE X b tb) (hm:behindInMarks op b=false):PT X (.Compare a [op] [b] pos) (AjE (tOp r ta tb)):=by
 intro pins s σ H Q I h
 refine wpAny_isTrue_Compare1 (thn (ha pins s σ H _ I h) fun v s1 ⟨x,H1,I1,r1,q1⟩=>thn (hb pins s1 σ H1 _ I1 q1) fun u s2 ⟨y,H2,I2,r2,q2⟩ =>
  thn (ho pins s2 σ H2 x y v u _ I2 r1 r2 q2) fun c s3 ⟨z,H3,I3,r3,k,e,q3⟩=>?_) hm
 subst e
 cases r3
 exact wpAny_truthy_bool ⟨H3,I3,q3⟩
noncomputable def Abw (r r':R2) (ta tb tc:TE):TE:=fun σ H Q=>ta σ H fun x H1=>tb σ H1 fun y H2=>r x y H2 fun z H3=>∃ k,z=.bl k ∧
 (if k=true then tc σ H3 fun w' H4=>r' y w' H4 Q else Q (.bl false) H3)
theorem Acl {op op':CmpOp} {r r':R2} (ho:OpR X (compareOp op) r) (ho':OpR X (compareOp op') r') (ha:PE X a ta) (hb:PE X b tb) (hc:PE X c tc)
  (hm:lastMarks [op,op'] [b,c]=false:=by with_unfolding_all rfl):PE X (.Compare a [op,op'] [b,c] pos) (Abw r r' ta tb tc):=by
 intro pins s σ H Q I h
 refine Compare_chain (thn (ha pins s σ H _ I h) fun v s1 ⟨x,H1,I1,r1,q1⟩=>chain_link (thn (hb pins s1 σ H1 _ I1 q1) fun u s2 ⟨y,H2,I2,r2,q2⟩ =>
  thn (ho pins s2 σ H2 x y v u _ I2 r1 r2 q2) fun d s3 ⟨z,H3,I3,r3,k,e,q3⟩=>?_)) hm
 subst e
 cases r3
 refine wpAny_truthy_bool ?_
 cases k with
 | false=>exact ite_ff ⟨.bl false,H3,I3,rfl,q3⟩
 | true=>exact ite_tt (chain_last (thn (hc pins s3 σ H3 _ I3 q3) fun w' s4 ⟨z',H4,I4,r4,q4⟩=>ho' pins s4 σ H4 y z' u w' Q I4 r2 r4 q4))
theorem Tq:(sizeLine:Nat) < 2 ^ 63:=by rw [sizeLine_eq];decide
theorem vals1 {x:V} {us:List Value} (r:Vals [x] us):∃ u,us=[u]∧RelV x u:=by
 cases r with
 | cons r1 r2=>cases r2;exact ⟨_,rfl,r1⟩
theorem vals2 {x y:V} {us:List Value} (r:Vals [x,y] us):∃ u w',us=[u,w']∧RelV x u∧RelV y w':=by
 cases r with
 | cons r1 r2 =>
  cases r2 with
  | cons r3 r4=>cases r4;exact ⟨_,_,rfl,r1,r3⟩
theorem Abg:Np X (.builtin "abs") (fun xs H Q=>∃ i,xs=[.int i]∧Q (.int (if i < 0 then -i else i)) H):=by
 intro pins s σ H xs us Q I r h
 obtain ⟨i,rfl,q⟩:=h
 obtain ⟨u,rfl,t,rfl⟩:=vals1 r
 exact call_abs_int fun u tk=>⟨.int (if i < 0 then -i else i),H,I.tok _,⟨_,rfl⟩,q⟩
theorem Z8 (hc:X.calm=true):Np X (.builtin "max") (fun xs H Q=>∃ i j,xs=[.int i,.int j]∧Q (.int (if j > i then j else i)) H):=by
 intro pins s σ H xs us Q I r h
 obtain ⟨i,j,rfl,q⟩:=h
 obtain ⟨u,w',rfl,⟨t,rfl⟩,⟨t',rfl⟩⟩:=vals2 r
 refine max_two_ints (I.ok.hd hc) fun h' tk k=>⟨_,H,I.kept k,?_,q⟩
 by_cases hj:j > i
 ·rw [if_pos hj,if_pos hj];exact ⟨_,rfl⟩
 ·rw [if_neg hj,if_neg hj];exact ⟨_,rfl⟩
end
end L2
namespace L2
open PySem PySem.Spec PyProof.Rows
structure Yb (h:Heap) (x dx C:Addr) (mA:Str→Option Value):Prop where
 obj:h.get? x=some (PySem.W.instObj C dx)
 ns:h.Ns1 dx mA
 ne:dx≠x
theorem Z5 {h:Heap} {dx:Addr} {mA:Str→Option Value} (n:h.Ns1 dx mA):∃ od,h.get? dx=some od∧∀ name,PySem.W.lookIn name od=some (mA name):=by
 obtain ⟨o,es,ep,ho,hd,hk,_,hm⟩:=n
 refine ⟨o,ho,fun name=>?_⟩
 have e:=hm name
 unfold nsFind findBy at e
 rw [←Array.find?_toList] at e
 unfold PySem.W.lookIn
 rw [hd]
 dsimp only
 split
 ·rename_i y q
  rw [q] at e
  exact congrArg some e
 ·rename_i q
  rw [q] at e
  have a:es.toList.any (·.refKey)=false:=by
   rw [List.any_eq_false]
   intro y hy
   obtain ⟨z,t,hkey⟩:=hk y (Array.mem_toList_iff.mp hy)
   simp [DictEntry.refKey,hkey]
  have a':¬ es.toList.any (·.refKey)=true:=by rw [a];exact Bool.false_ne_true
  rw [if_neg a']
  exact congrArg some e
theorem Yb.look {h:Heap} {x dx C:Addr} {mA:Str→Option Value} (I:Yb h x dx C mA):∃ od,PySem.W.InstAt h x (PySem.W.instObj C dx) C (some od)∧∀ name,PySem.W.lookIn name od=some (mA name) :=
 let ⟨od,ho,hl⟩:=Z5 I.ns
 ⟨od,⟨I.obj,rfl,rfl,ho⟩,hl⟩
section
variable {prog:Program} {w:World} {A:Around} {E:Value→Shared→Prop} {s:Shared} {K:PySem.W.Frag} {x dx C f:Addr} {mA:Str→Option Value} {name:Str} {v:Value}
theorem get_map {expr:Bool} {Q:Value→Shared→Prop} (X:K.In s.heap) (I:Yb s.heap x dx C mA) (hg:PySem.W.plainGet K C name=true) (hh:PySem.W.hasDictIn K C=true)
  (ha:PySem.W.findIn K (.ref C) name=some none) (hv:mA name=some v) (hv':PySem.W.handedIn v=true) (h:Q v { s with toks:=s.toks+1 }) :
  wpAny (model prog w) A (getAttr (.ref x) name expr) Q E s:=by
 obtain ⟨od,J,hl⟩:=I.look
 exact PySem.W.get_value X J (PySem.W.plainGet_of hg).1 (PySem.W.findObj_own hh ha rfl (by rw [hl,hv])) hv' h
theorem AbF {pl:Sem Bool} {Q:Value × List Value→Shared→Prop} (X:K.In s.heap) (I:Yb s.heap x dx C mA) (hg:PySem.W.plainGet K C name=true)
  (hf:PySem.W.findIn K (.ref C) name=some (some (.ref f))) (ht:PySem.W.isFn K (.ref f)=true) (hv:mA name=none) (h:Q (.ref f,[.ref x]) s) :
  wpAny (model prog w) A (getMethod (.ref x) name pl) Q E s:=by
 obtain ⟨od,J,hl⟩:=I.look
 exact PySem.W.method_fn X J (PySem.W.plainGet_of hg).1 (PySem.W.plainGet_of hg).2 hf (beq_iff_eq.mp ht) (by show (PySem.W.lookIn name od).map (·.isSome)=some false;rw [hl,hv];rfl) h
theorem Ac0 {ns:List Str} {Q:Unit→Shared→Prop} (X:K.In s.heap) (I:Yb s.heap x dx C mA)
  (hs:PySem.W.findIn K (.ref C) "__setattr__"=some (some (.builtin "object.__setattr__"))) (hp:PySem.W.plainOver K C=true) (ht:PySem.W.takerIn K C name=some none) (hh:PySem.W.hasDictIn K C=true)
  (hw:PySem.Within mA ns) (hsz:ns.length≤sizeLine)
  (h:∀ h',Yb h' x dx C (fun y=>if y=name then some v else mA y)→Heap.SameBut dx s.heap h'→Q () { s with heap:=h',toks:=s.toks+2 }) :
  wpAny (model prog w) A (setAttr (.ref x) name v) Q E s:=by
 obtain ⟨od,J,hl⟩:=I.look
 refine PySem.W.set_plain X J hs (PySem.W.osa_open (s:={ s with toks:=s.toks+1 }) (r:=none) X J hp ht fun b=>?_)
 obtain ⟨cd,hc,hd'⟩:=PySem.W.any_some hh
 have hx:s.heap.get? x=some ⟨.ref C,some dx,.plain,#[]⟩:=I.obj
 refine wpAny_bind (wpAny_pure (wpAny_bind (wpAny_bind (wpAny_loadPart hx (wpAny_bind (PySem.W.Looks.here (s:={ s with toks:=s.toks+1 }) (PySem.W.looks_clsIn X hc) ?_))))))
 rw [hd']
 refine wpAny_pure (a:=some dx) (wpAny_bind (wpAny_pure (wpAny_bind ?_)))
 refine wpAny_nsSet1 (s:={ s with toks:=s.toks+1 }) I.ns fun h' hn2 hs2=>?_
 obtain ⟨oD,esD,epD,hoD,hdD,hcD⟩:=hn2.count (PySem.Within.cons name v hw)
 refine wpAny_bind (wpAny_lookBehind hoD (by rw [hdD];exact pastItsLine_dict (Nat.le_trans hcD (by rw [List.length_cons];omega))) ?_)
 exact wpAny_pure (h _ ⟨(hs2.2 _ (Ne.symm I.ne)).trans I.obj,hn2,I.ne⟩ hs2)
theorem Abo {R:Result→Shared→Prop} {vs:List Value} {kw:List (Str × Value)} (X:K.In s.heap) (hm:PySem.W.makesIn K C=true)
  (hi:PySem.W.findIn K (.ref C) "__init__"=some (some (.ref f))) (hf:PySem.W.typeIn K (.ref f)=some (.type "function"))
  (h:codeAny (model prog w) (A.under (.builtin "type.__call__" ⟨.ref C :: vs,kw⟩)) (.call (.ref f) ⟨.ref (s.heap.objs.size+1) :: vs,kw⟩) (PySem.W.InitBack (s.heap.objs.size+1) R)
   { s with heap:=(s.heap.push PySem.W.emptyDict).push (PySem.W.instObj C s.heap.objs.size) }) :
  codeAny (model prog w) A (.call (.ref C) ⟨vs,kw⟩) R s:=by
 obtain ⟨hh,g,d,t,os⟩:=s
 exact PySem.W.make_core (PySem.W.makes_of X hm) (PySem.W.looks_findIn X hi) (fun self=>PySem.W.bind_fn X self hf) (.inl rfl) h
end
noncomputable def HB (f:Str) (v:V):List (Str × V)→List (Str × V)
 | []=>[(f,v)]
 | (g,x) :: r=>if g=f then (g,v) :: r else (g,x) :: HB f v r
theorem Oj (f g:Str) (v:V):∀ fs:List (Str × V),(HB f v fs).lookup g=if g=f then some v else fs.lookup g
 | []=>by
  show List.lookup g [(f,v)]=_
  by_cases h:g=f
  ·have hb:(g == f)=true:=beq_iff_eq.mpr h
   simp only [List.lookup,hb,if_pos h]
  ·have hb:(g == f)=false:=beq_eq_false_iff_ne.mpr h
   simp only [List.lookup,hb,if_neg h]
 | (k,x) :: r=>by
  have ih:=Oj f g v r
  rw [show HB f v ((k,x) :: r)=(if k=f then (k,v) :: r else (k,x) :: HB f v r) from rfl]
  by_cases hk:k=f
  ·rw [if_pos hk]
   by_cases h:g=k
   ·have hb:(g == k)=true:=beq_iff_eq.mpr h
    simp only [List.lookup,hb,if_pos (h.trans hk)]
   ·have hb:(g == k)=false:=beq_eq_false_iff_ne.mpr h
    simp only [List.lookup,hb,if_neg (fun e:g=f=>h (e.trans hk.symm))]
  ·rw [if_neg hk]
   by_cases h:g=k
   ·have hb:(g == k)=true:=beq_iff_eq.mpr h
    simp only [List.lookup,hb,if_neg (fun e:g=f=>hk (h.symm.trans e))]
   ·have hb:(g == k)=false:=beq_eq_false_iff_ne.mpr h
    simp only [List.lookup,hb]
    exact ih
theorem Ny (f:Str) (v:V):∀ fs:List (Str × V),f∈(HB f v fs).map (·.1)∧∀ g,g∈fs.map (·.1)→g∈(HB f v fs).map (·.1)
 | []=>⟨by simp [HB],fun g h=>by simp at h⟩
 | (k,x) :: r=>by
  obtain ⟨i1,i2⟩:=Ny f v r
  rw [show HB f v ((k,x) :: r)=(if k=f then (k,v) :: r else (k,x) :: HB f v r) from rfl]
  by_cases hk:k=f
  ·rw [if_pos hk]
   subst hk
   exact ⟨by simp,fun g h=>by simpa using h⟩
  ·rw [if_neg hk]
   refine ⟨?_,fun g h=>?_⟩
   ·rw [List.map_cons]
    exact List.mem_cons_of_mem _ i1
   ·rw [List.map_cons] at h ⊢
    rcases List.mem_cons.mp h with e | e
    ·exact List.mem_cons.mpr (.inl e)
    ·exact List.mem_cons_of_mem _ (i2 g e)
theorem Ot (f:Str) (v:V):∀ fs:List (Str × V),(HB f v fs).length≤fs.length+1
 | []=>by simp [HB]
 | (k,x) :: r=>by
  have ih:=Ot f v r
  rw [show HB f v ((k,x) :: r)=(if k=f then (k,v) :: r else (k,x) :: HB f v r) from rfl]
  by_cases hk:k=f
  ·rw [if_pos hk,List.length_cons,List.length_cons];omega
  ·rw [if_neg hk,List.length_cons,List.length_cons];omega
theorem Rw.some_of {v:V} {o:Option Value} (r:Rw (some v) o):∃ u,o=some u∧RelV v u:=by
 cases o with
 | none=>exact (show False from r).elim
 | some u=>exact ⟨u,rfl,r⟩
theorem Rw.none_of {o:Option Value} (r:Rw none o):o=none:=by
 cases o with
 | none=>rfl
 | some u=>exact (show False from r).elim
theorem Z0 {v:V} {u:Value} (r:RelV v u):PySem.W.handedIn u=true:=by
 cases v with
 | non=>cases (show u=Value.none from r);rfl
 | bl b=>cases (show u=Value.bool b from r);rfl
 | int i=>obtain ⟨t,e⟩:=(show ∃ t,u=Value.int i t from r);cases e;rfl
 | str x=>obtain ⟨t,e⟩:=(show ∃ t,u=Value.str x t from r);cases e;rfl
 | byt b=>obtain ⟨t,e⟩:=(show ∃ t,u=Value.bytes b t from r);cases e;rfl
 | flt b=>obtain ⟨t,e⟩:=(show ∃ t,u=Value.float b t from r);cases e;rfl
 | ref a=>cases (show u=Value.ref a from r);rfl
 | ty n=>cases (show u=Value.type n from r);rfl
section
variable {P:Program} {w:World} {H H':Hp} {h h':Heap} {a C dx:Addr} {fs fs':List (Str × V)}
theorem Ua (hok:HOk P w H h) (e:H a=some (.ins C dx fs)):∃ mA,Yb h a dx C mA∧(∀ f,Rw (fs.lookup f) (mA f))∧PySem.Within mA (fs.map (·.1))∧fs.length≤1000∧H dx=some (.own a):=by
 obtain ⟨d,z,ne,ob,mA,n,r,q⟩:=(show Im P w H h a (.ins C dx fs) from hok a _ e)
 exact ⟨mA,⟨ob,n,ne⟩,r,q,z,d⟩
end
structure Cls (K:PySem.W.Frag) (C:Addr):Prop where
 pg:PySem.W.plainGet K C Str.empty=true
 hd:PySem.W.hasDictIn K C=true
 po:PySem.W.plainOver K C=true
 sa:PySem.W.findIn K (.ref C) "__setattr__"=some (some (.builtin "object.__setattr__"))
theorem Cls.get {K:PySem.W.Frag} {C:Addr} (c:Cls K C) (f:Str):PySem.W.plainGet K C f=true:=c.pg
noncomputable def Jb (K:PySem.W.Frag) (C:Addr) (f:Str):Prop:=PySem.W.findIn K (.ref C) f=some none
theorem Jb.taker {K:PySem.W.Frag} {C:Addr} {f:Str} (n:Jb K C f):PySem.W.takerIn K C f=some none:=by
 unfold PySem.W.takerIn
 rw [show PySem.W.findIn K (.ref C) f=some none from n]
 rfl
structure Meth (K:PySem.W.Frag) (C:Addr) (m:Str) (f:Addr):Prop where
 at_:PySem.W.findIn K (.ref C) m=some (some (.ref f))
 fn:PySem.W.isFn K (.ref f)=true
 kp:PySem.W.keepIn K (.ref f)=true
section
variable {X:Cx} {pins:List (Addr × Obj)} {σ:St} {H:Hp} {s:Shared} {a C dx:Addr} {fs:List (Str × V)} {f:Str} {v:V} {A:Around} {E:Value→Shared→Prop}
theorem Yc {b:Bool} {Q:Value→Shared→Prop} (I:Inv X pins σ H s) (e:H a=some (.ins C dx fs)) (c:Cls X.K C) (n:Jb X.K C f) (l:fs.lookup f=some v)
  (h:∀ u s',Inv X pins σ H s'→RelV v u→Q u s'):wpAny (model X.prog X.w) A (getAttr (.ref a) f b) Q E s:=by
 obtain ⟨mA,O,r,_,_,_⟩:=Ua I.hok e
 obtain ⟨u,hu,ru⟩:=Rw.some_of (v:=v) (o:=mA f) (by rw [←l];exact r f)
 exact get_map I.kIn O (c.get f) c.hd n hu (Z0 ru) (h u _ (I.tok _) ru)
theorem PX {m:Str} {g:Addr} {pl:Sem Bool} {Q:Value × List Value→Shared→Prop} (I:Inv X pins σ H s) (e:H a=some (.ins C dx fs)) (c:Cls X.K C) (k:Meth X.K C m g) (l:fs.lookup m=none)
  (h:Q (.ref g,[.ref a]) s):wpAny (model X.prog X.w) A (getMethod (.ref a) m pl) Q E s:=by
 obtain ⟨mA,O,r,_,_,_⟩:=Ua I.hok e
 have hn:mA m=none:=Rw.none_of (by rw [←l];exact r m)
 exact AbF I.kIn O (c.get m) k.at_ k.fn hn h
theorem Yh {y:V} {u:Value} {Q:Unit→Shared→Prop} (I:Inv X pins σ H s) (e:H a=some (.ins C dx fs)) (c:Cls X.K C) (n:Jb X.K C f) (hl:fs.length < 1000) (ry:RelV y u)
  (h:∀ s',Inv X pins σ (upd H a (.ins C dx (HB f y fs))) s'→Q () s'):wpAny (model X.prog X.w) A (setAttr (.ref a) f u) Q E s:=by
 obtain ⟨mA,O,r,wi,_,ho⟩:=Ua I.hok e
 have hz:(fs.map (·.1)).length≤sizeLine:=by rw [List.length_map,sizeLine_eq];omega
 refine Ac0 I.kIn O c.sa c.po n.taker c.hd wi hz fun h' O' sb=>h _ ?_
 have hd:∃ o,h'.get? dx=some o:=let ⟨o,_,_,e',_⟩:=O'.ns;⟨o,e'⟩
 refine I.write (x:=a) (e:=dx) (by rw [e];exact True.intro) (.inr ho) (fun b q hb z=>(sb.2 b hb).trans z) hd ?_
 refine ⟨by rw [Bp O.ne];exact ho,?_,O.ne,O'.obj,_,O'.ns,fun g=>?_,fun g hg=>?_⟩
 ·have:=Ot f y fs;omega
 ·show Rw ((HB f y fs).lookup g) (if g=f then some u else mA g)
  rw [Oj]
  by_cases q:g=f
  ·rw [if_pos q,if_pos q];exact ry
  ·rw [if_neg q,if_neg q];exact r g
 ·by_cases q:g=f
  ·rw [q];exact (Ny f y fs).1
  ·refine (Ny f y fs).2 g (wi g fun z=>hg ?_)
   show (if g=f then some u else mA g)=none
   rw [if_neg q];exact z
theorem Inv.made (I:Inv X pins σ H s):Inv X pins σ (upd (upd H s.heap.objs.size (.own (s.heap.objs.size+1))) (s.heap.objs.size+1) (.ins C s.heap.objs.size []))
  { s with heap:=(s.heap.push PySem.W.emptyDict).push (PySem.W.instObj C s.heap.objs.size) }:=by
 have e1:(s.heap.push PySem.W.emptyDict).get? s.heap.objs.size=some PySem.W.emptyDict:=Heap.get?_push_size s.heap rfl
 have e2:((s.heap.push PySem.W.emptyDict).push (PySem.W.instObj C s.heap.objs.size)).get? (s.heap.objs.size+1)=some (PySem.W.instObj C s.heap.objs.size):=by
  have:=Heap.get?_push_size (s.heap.push PySem.W.emptyDict) (o:=PySem.W.instObj C s.heap.objs.size) rfl
  rwa [Heap.size_push] at this
 have e3:(s.heap.push PySem.W.emptyDict).Ns s.heap.objs.size (fun _=>none):=⟨PySem.W.emptyDict,#[],_,e1,rfl,(fun e he=>absurd he (by simp)),fun _=>rfl⟩
 have I1:=I.laid (a:=s.heap.objs.size) (o:=.own (s.heap.objs.size+1)) (h':=s.heap.push PySem.W.emptyDict) (t':=s.toks) (fun b u q=>Heap.get?_push_of_some _ q) (Nat.le_refl _) ⟨_,e1⟩
 refine I1.laid (a:=s.heap.objs.size+1) (o:=.ins C s.heap.objs.size []) (t':=s.toks) (fun b u q=>Heap.get?_push_of_some _ q) (Nat.le_of_eq (Heap.size_push _ _)) ?_
 have ne:s.heap.objs.size≠s.heap.objs.size+1:=Nat.ne_of_lt (Nat.lt_succ_self _)
 refine ⟨by rw [Bp ne,Cq],Nat.zero_le _,ne,e2,fun _=>none,(Heap.Ns1.of_empty e3).at fun o q=>Heap.get?_push_of_some _ q,fun _=>True.intro,fun y hy=>absurd rfl hy⟩
theorem AdS {prog:Program} {w:World} {env:Env} {e:Expr} {f:Str} {pos:Pos} {s:Shared} {Q:Value→Shared→Prop} (hb:attributeBase e f env (eval e env)=eval e env)
  (h:wpAny (model prog w) A (eval e env) (fun o s₁=>wpAny (model prog w) A (getAttr o f true) Q E s₁) E s):wpAny (model prog w) A (eval (.Attribute e f pos) env) Q E s :=
 Attribute_any_ h (by rw [arm_eval_Attribute,hb])
end
noncomputable def Am7 (K:PySem.W.Frag) (ta:TE) (f:Str):TE:=fun σ H Q=>ta σ H fun x H1=>∃ a C dx fs v,x=.ref a∧H1 a=some (.ins C dx fs)∧Cls K C∧Jb K C f∧fs.lookup f=some v∧Q v H1
noncomputable def AmL (K:PySem.W.Frag) (ta tv:TE) (f:Str):TS:=fun D σ H=>tv σ H fun y H1=>ta σ H1 fun x H2=>∃ a C dx fs,x=.ref a∧H2 a=some (.ins C dx fs)∧Cls K C∧Jb K C f∧fs.length < 1000 ∧
 D.nx σ (upd H2 a (.ins C dx (HB f y fs)))
section
variable {X:Cx} {o e value:Expr} {f:Str} {pos pos' tpos:Pos} {ta tv:TE}
theorem Agf (he:PE X e ta) (hb:attributeBase e f X.env (eval e X.env)=eval e X.env):PE X (.Attribute e f pos) (Am7 X.K ta f):=by
 intro pins s σ H Q I h
 refine AdS hb (thn (he pins s σ H _ I h) fun u s1 ⟨x,H1,I1,rx,a,C,dx,fs,v,ex,ea,c,n,l,q⟩=>?_)
 subst ex
 obtain rfl:u=Value.ref a:=rx
 exact Yc I1 ea c n l fun u' s2 I2 ru=>⟨v,H1,I2,ru,q⟩
theorem W9 (ha:PE X o ta) (hv:PE X value tv) (hs:swapsWith value (some (.Attribute o f pos')) pos.line X.env=pure false):PS X (.Assign [.Attribute o f pos'] value pos) (AmL X.K ta tv f):=by
 intro pins s σ H D I h
 refine plainObj_wpAny_Assign_Attribute (thn (hv pins s σ H _ I h) fun u s1 ⟨y,H1,I1,ry,q⟩=>thn (ha pins s1 σ H1 _ I1 q) fun ov s2 ⟨x,H2,I2,rx,a,C,dx,fs,ex,ea,c,n,l,q2⟩=>?_) hs
 subst ex
 obtain rfl:ov=Value.ref a:=rx
 exact Yh I2 ea c n l ry fun s3 I3=>⟨σ,_,I3,q2⟩
end
section
variable {X:Cx} {pins:List (Addr × Obj)} {σ:St} {H:Hp} {s:Shared} {A:Around} {E:Value→Shared→Prop} {Q:Value→Shared→Prop} {c:Value} {b:Bool}
end
end L2
namespace L2
open PySem PySem.Spec PyProof.Rows
structure Ep (k:Nat) (A:Around):Prop where
 hd:A.handled=none
 dp:A.depth+3*k+5 < recursionLimit
 un:A.units+16*k+200 < cLine
theorem Ep.mono {j k:Nat} {A:Around} (r:Ep k A) (h:j≤k):Ep j A:=⟨r.hd,by have:=r.dp;omega,by have:=r.un;omega⟩
theorem Ep.deeper {k:Nat} {A:Around} (r:Ep (k+1) A) (env:Env):Ep k (A.deeper env) :=
 ⟨r.hd,by have:=r.dp;show A.depth+1+3*k+5 < _;omega,by have:=r.un;show A.units+3+16*k+200 < _;omega⟩
theorem Ye {A:Around} {C:Addr} {us:List Value} {kw:List (Str × Value)}:(A.under (.builtin "type.__call__" ⟨.ref C :: us,kw⟩)).depth=A.depth+1:=by
 first | rfl | simp [Around.under,Code.weight,Code.isCreation,Code.isGuard,Code.isCaller,Code.frames,Code.isFrame,guardIds]
theorem Xk {A:Around} {C:Addr} {us:List Value} {kw:List (Str × Value)}:(A.under (.builtin "type.__call__" ⟨.ref C :: us,kw⟩)).units=A.units+1:=by
 first | rfl | simp [Around.under,Code.cUnits,Code.frames,Code.isFrame]
theorem Ep.make {k:Nat} {A:Around} (r:Ep (k+1) A) (C:Addr) (us:List Value) (kw:List (Str × Value)):Ep k (A.under (.builtin "type.__call__" ⟨.ref C :: us,kw⟩)) :=
 ⟨r.hd,by have:=r.dp;rw [Ye];omega,by have:=r.un;rw [Xk];omega⟩
theorem Ep.depth {k:Nat} {A:Around} (r:Ep k A):A.depth < recursionLimit:=by have:=r.dp;omega
theorem Ep.units {k:Nat} {A:Around} (r:Ep k A):A.units+64 < cLine:=by have:=r.un;omega
noncomputable def AjG:TA:=fun _ H Q=>Q [] H
noncomputable def Aig (ta:TE) (tr:TA):TA:=fun σ H Q=>ta σ H fun x H1=>tr σ H1 fun xs H2=>Q (x :: xs) H2
section
variable {X:Cx} {e:Expr} {es:List Expr} {te:TE} {t:TA} {pos:Pos}
theorem Ud:PA X [] AjG:=fun _ _ _ _ H Q I h=>Calls.spliced_nil ⟨[],H,I,.nil,h⟩
theorem Ks (ha:PE X e te) (hr:PA X es t) (hs:starEach (e :: es) X.env=(false,eval e X.env) :: starEach es X.env:=by rfl):PA X (e :: es) (Aig te t):=by
 intro pos pins s σ H Q I h
 rw [hs]
 show wpAny _ _ (spliced ((false,eval e X.env) :: backTo pos (starEach es X.env))) _ _ s
 refine Calls.spliced_cons (thn (ha pins s σ H _ I h) fun u s1 ⟨x,H1,I1,r1,q1⟩=>?_)
 exact thn (hr pos pins s1 σ H1 _ I1 q1) fun us s2 ⟨xs,H2,I2,r2,q2⟩=>⟨x :: xs,H2,I2,.cons r1 r2,q2⟩
noncomputable def AnC (t:TA):TE:=fun σ H Q=>t σ H fun xs H1=>xs.length≤sizeLine∧∀ p,H1 p=none→Q (.ref p) (upd H1 p (.tup xs))
noncomputable def AnN (t:TA):TE:=fun σ H Q=>t σ H fun xs H1=>xs.length≤sizeLine∧∀ p,H1 p=none→Q (.ref p) (upd H1 p (.lst xs))
theorem Ag3 {x1} (h:PA X es t):PE X (.Tuple es x1 pos) (AnC t):=by
 intro pins s σ H Q I hq
 refine wpAny_Tuple_spliced (thn (h pos pins s σ H _ I hq) fun us s1 ⟨xs,H1,I1,r,z,q⟩=>⟨by rw [←r.length];exact z,?_⟩)
 have hf:H1 s1.heap.objs.size=none:=I1.hok.fresh (Nat.le_refl _)
 refine ⟨.ref s1.heap.objs.size,upd H1 s1.heap.objs.size (.tup xs),I1.laid (t':=s1.toks) (fun b u e=>Heap.get?_push_of_some _ e) (Nat.le_refl _) ?_,rfl,q _ hf⟩
 exact ⟨z,us,r,⟨_,Heap.get?_push_size _ rfl,rfl,_,rfl⟩⟩
theorem Ack (h:PA X es t):PE X (.List es pos) (AnN t):=by
 intro pins s σ H Q I hq
 refine wpAny_List_spliced (thn (h pos pins s σ H _ I hq) fun us s1 ⟨xs,H1,I1,r,z,q⟩=>⟨by rw [←r.length];exact z,?_⟩)
 have hf:H1 s1.heap.objs.size=none:=I1.hok.fresh (Nat.le_refl _)
 refine ⟨.ref s1.heap.objs.size,upd H1 s1.heap.objs.size (.lst xs),I1.laid (t':=s1.toks) (fun b u e=>Heap.get?_push_of_some _ e) (Nat.le_refl _) ?_,rfl,q _ hf⟩
 exact ⟨z,us,0,r,Heap.get?_push_size _ rfl⟩
end
noncomputable abbrev Sp:=List V→Hp→VK→XK→Prop
noncomputable abbrev CXT:=List Env→Hp→Shared→XK→Value→Shared→Prop
structure Xj (P:Program) (w:World) (K:PySem.W.Frag) (mg:Str→Option Value) (base:Heap) (A:Around) (outer:List Env) (s:Shared) (H:Hp):Prop where
 frames:A.frames=some outer
 mod:Mod K mg base
 bs:∀ b o,base.get? b=some o→s.heap.get? b=some o∧H b=none
 bsz:base.objs.size≤s.heap.objs.size
 funs:s.heap.FunFrames base outer
 frf:∀ b∈frs outer,H b=none
 hok:HOk P w H s.heap
 bare:AllBare s.gens
noncomputable def CE (outer:List Env) (P:Program) (w:World) (H:Hp) (s:Shared) (Q:VK) (u:Value) (s':Shared):Prop :=
 ∃ v H',s'.os=s.os∧AllBare s'.gens∧Un (frs outer) [] H H' s.heap s'.heap∧HOk P w H' s'.heap∧RelV v u∧Q v H'
noncomputable def CR (CX:CXT) (outer:List Env) (P:Program) (w:World) (H:Hp) (s:Shared) (Q:VK) (E:XK) (r:Result) (s':Shared):Prop :=
 match r with
 | .ok (.ret u)=>CE outer P w H s Q u s'
 | .ok _=>False
 | .error e=>CX outer H s E e s'
structure HX (P:Program) (w:World) (K:PySem.W.Frag) (mg:Str→Option Value) (base:Heap) (CX:CXT) (k:Nat) (f:Addr) (fd:FuncData) (ps:List Str) (sp:Sp):Prop where
 len:∀ vs H Q E,sp vs H Q E→vs.length=ps.length
 run:∀ (A:Around) (outer:List Env) (s:Shared) (H:Hp) (args:Args) (us:List Value) (vs:List V) (Q:VK) (E:XK),Ep k A→Xj P w K mg base A outer s H→BindsTo s fd args (ps.zip us)→Vals vs us→sp vs H Q E →
  codeAny (model P w) A (.call (.ref f) args) (CR CX outer P w H s Q E) s
theorem Xj.make {P:Program} {w:World} {K:PySem.W.Frag} {mg:Str→Option Value} {base:Heap} {A:Around} {outer:List Env} {s:Shared} {H:Hp} (e:Xj P w K mg base A outer s H) (C:Addr) (us:List Value) (kw:List (Str × Value)) :
  Xj P w K mg base (A.under (.builtin "type.__call__" ⟨.ref C :: us,kw⟩)) outer s H:=⟨by first | exact e.frames | (simpa [Around.under,Code.envs,Code.isFrame,pushEnvs] using e.frames),e.mod,e.bs,e.bsz,e.funs,e.frf,e.hok,e.bare⟩
section
variable {X:Cx} {pins:List (Addr × Obj)} {σ:St} {H:Hp} {s s':Shared}
theorem Inv.env0 (I:Inv X pins σ H s):Xj X.prog X.w X.K X.mg X.base X.A X.stack s H :=
 ⟨I.ok.frames,I.ok.mod,I.bs,Nat.le_trans I.ok.bsz I.sz,I.stack,I.stkFree,I.hok,I.bare⟩
theorem Inv.after {Q:VK} {u:Value} (I:Inv X pins σ H s) (h:CE X.stack X.prog X.w H s Q u s'):EP X pins σ Q u s':=by
 obtain ⟨v,H',os,bare,un,hok,r,q⟩:=h
 obtain ⟨hh,g,d,t,os'⟩:=s'
 obtain rfl:os'=s.os:=os
 exact ⟨v,H',I.call (h':=hh) (g':=g) (d':=d) (t':=t) (ch:=[]) un hok bare (fun b z=>absurd z (by simp)),r,q⟩
end
noncomputable def Afa (sp:Sp) (dvs:List V) (E:XK) (t:TA):TE:=fun σ H Q=>t σ H fun vs H1=>sp (vs ++ dvs) H1 Q E
noncomputable def AiH (C:Addr) (sp:Sp) (dvs:List V) (E:XK) (t:TA):TE:=fun σ H Q=>t σ H fun vs H1=>∀ x dx,H1 x=none→H1 dx=none→dx≠x →
 sp (.ref x :: (vs ++ dvs)) (upd (upd H1 dx (.own x)) x (.ins C dx [])) (fun v H2=>v=.non∧Q (.ref x) H2) E
noncomputable def Binds (K:PySem.W.Frag) (fd:FuncData) (ps:List Str) (ds:List Value):Prop :=
 ∀ (s:Shared) (us:List Value),K.In s.heap→(us ++ ds).length=ps.length→BindsTo s fd ⟨us,[]⟩ (ps.zip (us ++ ds))
theorem Binds.all {K:PySem.W.Frag} {fd:FuncData} {ps:List Str} (h:∀ us:List Value,us.length=ps.length→bindArgs fd ⟨us,[]⟩=pure (ps.zip us)):Binds K fd ps []:=fun s us _ hl=>by
 rw [List.append_nil] at hl ⊢
 exact .of_eq (h us hl)
noncomputable def Passes (CX:CXT) (X:Cx) (E:XK):Prop:=∀ (pins:List (Addr × Obj)) (σ:St) (H:Hp) (s:Shared) (e:Value) (s':Shared),Inv X pins σ H s→CX X.stack H s E e s'→X.xe e s'
section
variable {X:Cx} {CX:CXT} {k:Nat} {f C:Addr} {fd:FuncData} {ps:List Str} {sp:Sp} {dvs:List V} {ds:List Value} {E:XK} {x m:Str} {p pos apos:Pos} {e o:Expr} {es:List Expr} {ta:TE} {t:TA}
theorem Uk {pins:List (Addr × Obj)} {σ:St} {H:Hp} {s:Shared} {Q:VK} {us:List Value} {vs:List V} (F:HX X.prog X.w X.K X.mg X.base CX k f fd ps sp) (hr:Ep k X.A) (hb:Binds X.K fd ps ds) (hd:Vals dvs ds) (hx:Passes CX X E)
  (I:Inv X pins σ H s) (r:Vals vs us) (h:sp (vs ++ dvs) H Q E):wpAny (model X.prog X.w) X.A (call (.ref f) us) (EP X pins σ Q) X.xe s:=by
 have r2:Vals (vs ++ dvs) (us ++ ds):=r.append hd
 have hl:(us ++ ds).length=ps.length:=by rw [←r2.length];exact F.len _ _ _ _ h
 refine wpAny_call (codeAny_mono (F.run X.A X.stack s H ⟨us,[]⟩ (us ++ ds) (vs ++ dvs) Q E hr I.env0 (hb s us I.kIn hl) r2 h) fun r s' hq=>?_)
 cases r with
 | error e=>exact hx pins σ H s e s' I hq
 | ok fl =>
  cases fl with
  | ret u=>exact I.after hq
  | next=>exact False.elim hq
  | brk=>exact False.elim hq
  | cont=>exact False.elim hq
theorem Ac3 (F:HX X.prog X.w X.K X.mg X.base CX k f fd ps sp) (hr:Ep k X.A) (hg:Gl X x) (hm:X.mg x=some (.ref f)) (hk:PySem.W.keepIn X.K (.ref f)=true) (hb:Binds X.K fd ps ds) (hd:Vals dvs ds) (hx:Passes CX X E)
  (ha:PA X (e :: es) t) (hdb:(x == ("__debug__":Str))=false:=by decide) (he:starEach (e :: es) X.env=(false,eval e X.env) :: starEach es X.env:=by rfl) (hpl:(backTo pos (starEach es X.env)).any (·.1)=false:=by rfl) :
  PE X (.Call (.Name x p) (e :: es) [] pos) (Afa sp dvs E t):=by
 intro pins s σ H Q I h
 refine wpAny_Call_Name_kw (T8 I hg hm ?_ hdb)
 refine PySem.W.callWith_K (h₀:=X.base) I.ok.mod.kin hk (thn (ha pos pins s σ H _ I h) fun us s1 ⟨vs,H1,I1,r,q⟩=>⟨I1.kIn,?_⟩) he hpl
 exact Uk F hr hb hd hx I1 r q
structure Mk (K:PySem.W.Frag) (C f:Addr):Prop where
 makes:PySem.W.makesIn K C=true
 init:PySem.W.findIn K (.ref C) "__init__"=some (some (.ref f))
 fn:PySem.W.isFn K (.ref f)=true
 kp:PySem.W.keepIn K (.ref C)=true
theorem AaL {pins:List (Addr × Obj)} {σ:St} {H:Hp} {s:Shared} {Q:VK} {us:List Value} {vs:List V} (M:Mk X.K C f) (F:HX X.prog X.w X.K X.mg X.base CX k f fd ps sp) (hr:Ep (k+1) X.A) (hb:Binds X.K fd ps ds) (hd:Vals dvs ds)
  (hx:Passes CX X E) (I:Inv X pins σ H s) (r:Vals vs us)
  (h:∀ x dx,H x=none→H dx=none→dx≠x→sp (.ref x :: (vs ++ dvs)) (upd (upd H dx (.own x)) x (.ins C dx [])) (fun v H2=>v=.non∧Q (.ref x) H2) E) :
  wpAny (model X.prog X.w) X.A (call (.ref C) us) (EP X pins σ Q) X.xe s:=by
 have hq:=h (s.heap.objs.size+1) s.heap.objs.size (I.hok.fresh (Nat.le_succ _)) (I.hok.fresh (Nat.le_refl _)) (Nat.ne_of_lt (Nat.lt_succ_self _))
 have I2:=Inv.made (C:=C) I
 have r2:Vals (V.ref (s.heap.objs.size+1) :: (vs ++ dvs)) (Value.ref (s.heap.objs.size+1) :: (us ++ ds)):=.cons rfl (r.append hd)
 have hl:(Value.ref (s.heap.objs.size+1) :: us ++ ds).length=ps.length:=by
  have e:=r2.length
  rw [F.len _ _ _ _ hq] at e
  exact e.symm
 refine wpAny_call (Abo (f:=f) I.kIn M.makes M.init (beq_iff_eq.mp M.fn) (codeAny_mono (F.run _ X.stack _ _ ⟨Value.ref (s.heap.objs.size+1) :: us,[]⟩ (Value.ref (s.heap.objs.size+1) :: (us ++ ds)) _ _ E (hr.make C us [])
  (I2.env0.make C us []) (hb _ (Value.ref (s.heap.objs.size+1) :: us) I2.kIn hl) r2 hq) fun r s' hq'=>?_))
 cases r with
 | error e=>exact hx pins σ _ _ e s' I2 hq'
 | ok fl =>
  cases fl with
  | ret u =>
   obtain ⟨v,H',I3,rv,ev,q3⟩:=I2.after hq'
   subst ev
   exact ⟨rv,⟨V.ref (s.heap.objs.size+1),H',I3,rfl,q3⟩⟩
  | next=>exact False.elim hq'
  | brk=>exact False.elim hq'
  | cont=>exact False.elim hq'
theorem AdB (M:Mk X.K C f) (F:HX X.prog X.w X.K X.mg X.base CX k f fd ps sp) (hr:Ep (k+1) X.A) (hg:Gl X x) (hm:X.mg x=some (.ref C)) (hb:Binds X.K fd ps ds) (hd:Vals dvs ds) (hx:Passes CX X E)
  (ha:PA X (e :: es) t) (hdb:(x == ("__debug__":Str))=false:=by decide) (he:starEach (e :: es) X.env=(false,eval e X.env) :: starEach es X.env:=by rfl) (hpl:(backTo pos (starEach es X.env)).any (·.1)=false:=by rfl) :
  PE X (.Call (.Name x p) (e :: es) [] pos) (AiH C sp dvs E t):=by
 intro pins s σ H Q I h
 refine wpAny_Call_Name_kw (T8 I hg hm ?_ hdb)
 refine PySem.W.callWith_K (h₀:=X.base) I.ok.mod.kin M.kp (thn (ha pos pins s σ H _ I h) fun us s1 ⟨vs,H1,I1,r,q⟩=>⟨I1.kIn,?_⟩) he hpl
 exact AaL M F hr hb hd hx I1 r q
end
section
variable {X:Cx} {CX:CXT} {k:Nat} {f C:Addr} {fd:FuncData} {ps ks:List Str} {sp:Sp} {E:XK} {x m:Str} {p pos apos kpos:Pos} {e o:Expr} {es:List Expr} {kws:List Keyword} {te ta:TE} {t tk:TA} {nm:Option Str}
variable {g:List Value→List Value→List Value} {gV:List V→List V→List V}
end
structure Ao (N P:List Str) (sc:Scope):Prop where
 kind:sc.kind=.function
 co:sc.isCoroutine=false
 gen:sc.isGenerator=false
 nd:N.Nodup
 pre:N.take P.length=P
 par:∀ x∈P,sc.names.lookup x=some .local∨sc.names.lookup x=some .cell
 nofree:∀ y∈sc.names,y.2≠.free
theorem SN {kindOf:Str→Option NameKind} {x:Str}:∀ {binds:List (Str × Value)} {m:Str→Option Value},(∀ v,(x,v)∉binds)→bindL kindOf binds m x=m x
 | [],_,_=>rfl
 | (n,v) :: r,m,h=>by
  unfold bindL
  rw [SN fun w hw=>h w (List.mem_cons_of_mem _ hw)]
  split
  ·have:x≠n:=by rintro rfl;exact h v List.mem_cons_self
   simp [this]
  ·rfl
theorem R9 {kindOf:Str→Option NameKind} {x:Str}:∀ {binds:List (Str × Value)} {m:Str→Option Value},(∀ v,(x,v)∉binds)→bindC kindOf binds m x=m x
 | [],_,_=>rfl
 | (n,v) :: r,m,h=>by
  unfold bindC
  rw [R9 fun w hw=>h w (List.mem_cons_of_mem _ hw)]
  split
  ·rfl
  ·have:x≠n:=by rintro rfl;exact h v List.mem_cons_self
   simp [this]
theorem RT {kindOf:Str→Option NameKind} {x:Str} {v:Value}:∀ {P:List Str} {vs:List Value} {i:Nat} {m:Str→Option Value},P.Nodup→P[i]? = some x→vs[i]? = some v→kindOf x=some .local →
  bindL kindOf (P.zip vs) m x=some v
 | [],_,_,_,_,h,_,_=>by simp at h
 | _ :: _,[],_,_,_,_,h,_=>by simp at h
 | p :: P,w :: vs,0,m,nd,h1,h2,hk=>by
  simp at h1 h2;subst h1;subst h2
  show bindL kindOf ((p,w) :: P.zip vs) m p=_
  unfold bindL
  rw [SN fun v hv=>(List.nodup_cons.mp nd).1 (List.of_mem_zip hv).1,if_pos hk]
  simp
 | p :: P,w :: vs,i+1,m,nd,h1,h2,hk=>by
  show bindL kindOf ((p,w) :: P.zip vs) m x=_
  unfold bindL
  exact RT (i:=i) (List.nodup_cons.mp nd).2 (by simpa using h1) (by simpa using h2) hk
theorem R7 {kindOf:Str→Option NameKind} {x:Str} {v:Value}:∀ {P:List Str} {vs:List Value} {i:Nat} {m:Str→Option Value},P.Nodup→P[i]? = some x→vs[i]? = some v→kindOf x≠some .local →
  bindC kindOf (P.zip vs) m x=some v
 | [],_,_,_,_,h,_,_=>by simp at h
 | _ :: _,[],_,_,_,_,h,_=>by simp at h
 | p :: P,w :: vs,0,m,nd,h1,h2,hk=>by
  simp at h1 h2;subst h1;subst h2
  show bindC kindOf ((p,w) :: P.zip vs) m p=_
  unfold bindC
  rw [R9 fun v hv=>(List.nodup_cons.mp nd).1 (List.of_mem_zip hv).1,if_neg hk]
  simp
 | p :: P,w :: vs,i+1,m,nd,h1,h2,hk=>by
  show bindC kindOf ((p,w) :: P.zip vs) m x=_
  unfold bindC
  exact R7 (i:=i) (List.nodup_cons.mp nd).2 (by simpa using h1) (by simpa using h2) hk
noncomputable def start (N:List Str) (vs:List V):St:=vs.map some ++ List.replicate (N.length - vs.length) none
noncomputable def X7 (CX:CXT) (P:Program) (w:World) (K:PySem.W.Frag) (mg:Str→Option Value) (base:Heap) (N:List Str) (qual:Str) (scope:Scope) (f:Addr) (cd:Value) (A:Around) (outer:List Env) (s:Shared) (H:Hp) (E:XK):Cx where
 prog:=P
 w:=w
 K:=K
 mg:=mg
 base:=base
 A:=A.deeper (envOfC qual scope s.heap.objs.size f cd)
 N:=N
 s₀:=s
 H₀:=H
 env:=envOfC qual scope s.heap.objs.size f cd
 outer:=outer
 stack:=envOfC qual scope s.heap.objs.size f cd :: outer
 ex:=[]
 calm:=true
 fn:=fun _=>true
 pn:=[]
 xe:=fun e s'=>wpAny (model P w) (A.deeper (envOfC qual scope s.heap.objs.size f cd)) (leaving (envOfC qual scope s.heap.objs.size f cd) e) (fun _ s''=>CX outer H s E e s'') (fun e' s''=>CX outer H s E e' s'') s'
theorem V4 {sc:Scope} {n:Nat} {x:Str} (h:sc.names.lookup x=some .cell):∃ c,(cellsFrom n sc.names []).lookup x=some c:=by
 have q:=PySem.W.cellsFrom_some sc.names n [] (.inl h)
 exact Option.isSome_iff_exists.mp q
theorem Aam {CX:CXT} {P:Program} {w:World} {K:PySem.W.Frag} {mg:Str→Option Value} {base:Heap} {N ps:List Str} {qual:Str} {scope:Scope} {f:Addr} {cd:Value} {A:Around} {outer:List Env} {s s1:Shared} {H:Hp} {E:XK} {us:List Value} {vs:List V}
  (S:Ao N ps scope) (hd:A.handled=none) (e0:Xj P w K mg base A outer s H) (hl:vs.length=ps.length) (r:Vals vs us)
  (x:InCallC s s.heap.objs.size (bindL (envOfC qual scope s.heap.objs.size f cd).kindOf (ps.zip us) fun _=>none) (cellsFrom (s.heap.objs.size+1) scope.names []) (bindC (envOfC qual scope s.heap.objs.size f cd).kindOf (ps.zip us) fun _=>none) s1) :
  Inv (X7 CX P w K mg base N qual scope f cd A outer s H E) [] (start N vs) H s1:=by
 have hpl:ps.length≤N.length:=by have:=congrArg List.length S.pre;rw [List.length_take] at this;omega
 obtain ⟨h1,tk,rfl,hk⟩:=x.done
 have noA:∀ b:Addr,b∉(X7 CX P w K mg base N qual scope f cd A outer s H E).ex:=fun b z=>absurd (show b∈([]:List Addr) from z) (by simp)
 refine ⟨⟨e0.mod,S.kind,rfl,rfl,Nat.le_refl _,fun y z c h1 h2=>?_,fun y hy=>?_,fun y c _ h=>?_,fun _=>hd,Around.frames_deeper e0.frames,.inr ⟨rfl,rfl⟩,fun b z=>absurd z (noA b),e0.bs,e0.bsz,fun b _ _=>noA b,fun b z=>absurd z (noA b),e0.funs,e0.frf⟩,
  rfl,e0.bare,Un.kept hk,⟨_,x.toInCall.ns,fun i y v h1 h2 h3=>?_⟩,fun y c h=>⟨_,x.cell y c h⟩,e0.hok.fresh (Nat.le_refl _),fun y c h=>?_,fun p hp=>absurd (show p∈([]:List (Addr × Obj)) from hp) (by simp),e0.hok.kept hk,?_⟩
 ·exact name_of_addr x.apart (PySem.mem_of_lookup h1) (PySem.mem_of_lookup h2)
 ·have hy:scope.names.lookup y=some .cell∨scope.names.lookup y=some .free:=hy
  rcases hy with hy | hy
  ·exact V4 hy
  ·exact absurd rfl (S.nofree _ (PySem.mem_of_lookup hy))
 ·exact Nat.le_of_lt (x.above y c (PySem.mem_of_lookup h))
 ·have hi:i < vs.length:=by
   unfold start at h2
   by_cases hi:i < vs.length
   ·exact hi
   ·rw [List.getElem?_append_right (by simpa using hi)] at h2
    rw [List.getElem?_replicate] at h2
    split at h2 <;> cases h2
  have ha:vs[i]? = some v:=by
   unfold start at h2
   rw [List.getElem?_append_left (by simpa using hi),List.getElem?_map] at h2
   cases e:vs[i]? with
   | none=>rw [e] at h2;cases h2
   | some a=>rw [e] at h2;cases h2;rfl
  obtain ⟨u,hu,rv⟩:=r.get ha
  have hp:ps[i]? = some y:=by
   rw [←S.pre,List.getElem?_take_of_lt (by omega)];exact h1
  have ndP:ps.Nodup:=by rw [←S.pre];exact S.nd.sublist (List.take_sublist _ _)
  refine ⟨u,rv,?_⟩
  rcases S.par y (List.mem_of_getElem? hp) with k | k
  ·exact .inl ⟨k,RT ndP hp hu k⟩
  ·obtain ⟨c,e⟩:=V4 (n:=s.heap.objs.size+1) k
   refine .inr ⟨.inl k,c,e,?_⟩
   have q:=x.cell y c e
   rw [R7 ndP hp hu (by show scope.names.lookup y≠_;rw [k];decide)] at q
   exact q
 ·exact e0.hok.fresh (Nat.le_of_lt (x.above y c (PySem.mem_of_lookup h)))
 ·unfold start
  show _=N.length
  rw [List.length_append,List.length_map,List.length_replicate]
  omega
theorem AjY {CX:CXT} {P:Program} {w:World} {K:PySem.W.Frag} {mg:Str→Option Value} {base:Heap} {k:Nat} {f:Addr} {name qual:Str} {params:Arguments} {body:List Stmt} {scope:Scope} {dV kV doc pm cdv ct oc:Value} {an od:Option Addr}
  {osl:Array (Option Value)} {N ps:List Str} {sp:Sp} (lk:K.lookup f=some ⟨oc,od,.func (PySem.W.fnOf name qual params body scope dV kV doc pm an cdv ct),osl⟩) (hcd:PySem.W.codeIn K cdv qual=true) (S:Ao N ps scope)
  (len:∀ vs H Q E,sp vs H Q E→vs.length=ps.length)
  (hbody:∀ (A:Around) (outer:List Env) (s:Shared) (H:Hp) (vs:List V) (Q:VK) (E:XK),Ep k (A.deeper (envOfC qual scope s.heap.objs.size f cdv))→sp vs H Q E →
   ∃ t,PSs (X7 CX P w K mg base N qual scope f cdv A outer s H E) body t∧t { nx:=fun _ H'=>Q .non H',rt:=Q } (start N vs) H) :
  HX P w K mg base CX (k+1) f (PySem.W.fnOf name qual params body scope dV kV doc pm an cdv ct) ps sp:=by
 refine ⟨len,fun A outer s H args us vs Q E hr e0 hb r hsp=>?_⟩
 have hl:=len _ _ _ _ hsp
 have KX:K.In s.heap:=e0.mod.kin.keeps fun b o e=>(e0.bs b o e).1
 have lim:s.heap.NoLimit:=e0.mod.nolimit.keeps fun b o e=>(e0.bs b o e).1
 have hkind:∀ y∈ps.zip us,scope.names.lookup y.1=some .local∨(scope.names.lookup y.1=some .cell∧((cellsFrom (s.heap.objs.size+1) scope.names []).lookup y.1).isSome=true):=fun ⟨n,v⟩ hy=>by
  rcases S.par n (List.of_mem_zip hy).1 with q | q
  ·exact .inl q
  ·exact .inr ⟨q,PySem.W.cellsFrom_some _ _ _ (.inl q)⟩
 refine codeAny_call_function hr.depth (KX _ _ lk) rfl S.co S.gen rfl (PySem.W.codeRec_of KX hcd) (hb _ _ _ _ ?_)
 refine wpAny_newFunctionEnv_cells S.kind hkind fun env he s1 x=>?_
 subst he
 refine ⟨lim.keeps x.toInCall.keep,codeAny_func ?_⟩
 obtain ⟨t,ht,hq⟩:=hbody A outer s H vs Q E (hr.deeper _) hsp
 have I:Inv (X7 CX P w K mg base N qual scope f cdv A outer s H E) [] (start N vs) H s1:=Aam S hr.hd e0 hl r x
 refine wpAny_mono (ht [] s1 (start N vs) H _ I hq) (fun fl s' hs=>?_) fun e s' hs=>hs
 have fin:∀ {σ':St} {H':Hp} {v:V} {u:Value},Inv (X7 CX P w K mg base N qual scope f cdv A outer s H E) [] σ' H' s'→RelV v u→Q v H'→CE outer P w H s Q u s' :=
  fun {σ' H' v u} J rv q=>⟨v,H',J.os,J.bare,J.base,J.hok,rv,q⟩
 cases fl with
 | ret u =>
  obtain ⟨v,σ',H',J,rv,q⟩:=hs
  exact fin J rv q
 | next =>
  obtain ⟨σ',H',J,q⟩:=hs
  exact fin (v:=V.non) (u:=Value.none) J rfl q
 | brk =>
  obtain ⟨_,_,_,q⟩:=hs
  exact False.elim q
 | cont =>
  obtain ⟨_,_,_,q⟩:=hs
  exact False.elim q
end L2
namespace L2
open PySem PySem.Spec PyProof.Rows
section
variable {X:Cx} {x:Str} {p pos:Pos} {e:Expr} {es:List Expr} {t:TA} {id T:String} {r:List V→Hp→VK→Prop}
noncomputable def tCB (r:List V→Hp→VK→Prop) (t:TA):TE:=fun σ H Q=>t σ H fun vs H1=>r vs H1 Q
theorem Wt (hc:Np X (.builtin id) r) (hg:Gl X x) (hm:X.mg x=none) (hv:bootBuiltins x=some (.builtin id)) (ha:PA X (e :: es) t) (hn:x≠"__name__":=by decide) (hdb:(x == ("__debug__":Str))=false:=by decide)
  (he:starEach (e :: es) X.env=(false,eval e X.env) :: starEach es X.env:=by rfl) (hpl:(backTo pos (starEach es X.env)).any (·.1)=false:=by rfl):PE X (.Call (.Name x p) (e :: es) [] pos) (tCB r t):=by
 intro pins s σ H Q I h
 refine wpAny_Call_Name_kw (T9 I hg hm hv ?_ hn hdb)
 exact PyProof.Rows.callWith_builtin1 (thn (ha pos pins s σ H _ I h) fun us s1 ⟨vs,H1,I1,r1,q1⟩=>hc pins s1 σ H1 vs us Q I1 r1 q1) he hpl
end
end L2
namespace HT
open PySem PyProof.Rows
noncomputable def lexLt:List Int→List Int→Bool
 | [],[]=>false
 | [],_ :: _=>true
 | _ :: _,[]=>false
 | x :: xs,y :: ys=>if x=y then lexLt xs ys else decide (x < y)
theorem Jx (x y:Int) (xs ys:List Int):lexLt (x :: xs) (y :: ys)=if x=y then lexLt xs ys else decide (x < y):=rfl
theorem Iw:lexLt [] []=false:=rfl
theorem Qv (y:Int) (ys:List Int):lexLt [] (y :: ys)=true:=rfl
theorem Rm (x:Int) (xs:List Int):lexLt (x :: xs) []=false:=rfl
theorem AbH (A:Around) (s:Shared) (a:Int) (t:Tok) (c:Int) (u:Tok):∃ e,SeqAt.EqAt A s (.int a t) (.int c u) e∧(e=true↔a=c) :=
 ⟨(a == c),SeqAt.EqAt.int_int a t c u,by simp⟩
theorem Abd (A:Around) (s:Shared) (a:Int) (t:Tok) (c:Int) (u:Tok) (prog:Program) (w:World) (E:Value→Shared→Prop) (Q:Value→Shared→Prop) (h:Q (.bool (decide (a < c))) s) :
  wpAny (model prog w) A (richCompare .Lt (.int a t) (.int c u)) Q E s :=
 (PyProof.Rows.lt_int h:wpAny (model prog w) A (compareOp .Lt (.int a t) (.int c u)) Q E s)
section
open PySem.SeqAt
open PySem.AutoSeq1 (wpAny_loadPart')
open PySem.MeetsSeq PySem.MeetsSeq2 PySem.MeetsSeq3
theorem Rv (l b:Addr) (items items2:Array Value) (n n2:Nat) (dd dd2:Option Addr) (sl sl2:Array (Option Value)) (ns ms:List Int) (hi:IntsAre items.toList ns) (hj:IntsAre items2.toList ms) :
  Meets (Builtin.«tuple.__lt__» ⟨[.ref l,.ref b],[]⟩)
   (fun _ R s=>s.heap.get? l=some { cls:=.type "tuple",dict:=dd,data:=.seq items n,slots:=sl }∧s.heap.get? b=some { cls:=.type "tuple",dict:=dd2,data:=.seq items2 n2,slots:=sl2 } ∧
    R (.ok (.ret (.bool (lexLt ns ms)))) s) :=
 .of_wp fun prog w A R s h=>by
  obtain ⟨hp,g,d,tk,os⟩:=s;obtain ⟨hl,hb,h⟩:=h
  have f2:=AutoSeq1.sub_tuple_tuple
  have z1:items.size=ns.length:=by rw [←hi.length];simp
  have z2:items2.size=ms.length:=by rw [←hj.length];simp
  wp_walk using wpAny_loadPart' hl,wpAny_loadPart' hb,wpAny_forIn_list _ (fun rest b s'=>b.1=none∧s'=⟨hp,g,d,tk,os⟩∧∃ (vs ws:List Value) (ns' ms':List Int),rest=vs.zip ws ∧
   IntsAre vs ns'∧IntsAre ws ms'∧ns'.length+items2.size=ms'.length+items.size∧R (.ok (.ret (.bool (lexLt ns' ms')))) ⟨hp,g,d,tk,os⟩) _
  case turn =>
   rintro ⟨y,x⟩ rest b s' ⟨hb',rfl,vs,ws,ns',ms',hz,hvi,hwi,hlen,hR⟩
   cases hvi with
   | nil=>rw [List.zip_nil_left] at hz;cases hz
   | cons a t hvi' =>
    cases hwi with
    | nil=>rw [List.zip_nil_right] at hz;cases hz
    | cons c u hwi' =>
     rw [List.zip_cons_cons] at hz
     injection hz with hyx hrest
     injection hyx with hy hx
     subst hy hx
     rw [Jx] at hR
     simp only [List.length_cons] at hlen
     obtain ⟨e,he,hiff⟩:=AbH A.in1 ⟨hp,g,d,tk,os⟩ a t c u
     refine wpAny_bind (he prog w _ _ ?_)
     cases e with
     | true =>
      rw [if_pos (hiff.mp rfl)] at hR
      wp_walk
      exact ⟨rfl,rfl,_,_,_,_,hrest,hvi',hwi',by omega,hR⟩
     | false =>
      rw [if_neg (fun q=>absurd (hiff.mpr q) Bool.false_ne_true)] at hR
      have hri:=Abd A.in1 ⟨hp,g,d,tk,os⟩ a t c u prog w
      wp_walk using hri
      exact ⟨_,rfl,by simpa using hR⟩
  case fin =>
   rintro ⟨b1,b2⟩ s' ⟨hb',rfl,vs,ws,ns',ms',hz,hvi,hwi,hlen,hR⟩
   simp only at hb'
   subst hb'
   have hv:lexLt ns' ms'=decide (items.size < items2.size):=by
    cases hvi with
    | nil =>
     cases hwi with
     | nil =>
      simp only [List.length_nil] at hlen
      rw [Iw]
      exact (decide_eq_false (by omega)).symm
     | cons c u hw =>
      simp only [List.length_nil,List.length_cons] at hlen
      rw [Qv]
      exact (decide_eq_true (by omega)).symm
    | cons a t hv =>
     cases hwi with
     | nil =>
      simp only [List.length_nil,List.length_cons] at hlen
      rw [Rm]
      exact (decide_eq_false (by omega)).symm
     | cons c u hw =>
      rw [List.zip_cons_cons] at hz
      cases hz
   rw [hv] at hR
   wp_walk
   exact ⟨_,rfl,by simpa [Builtin.Tuple.tupleCompareSizes] using hR⟩
  case h =>
   exact ⟨rfl,rfl,items.toList,items2.toList,ns,ms,rfl,hi,hj,by omega,h⟩
end
section
variable {prog:Program} {w:World} {A:Around} {E:Value→Shared→Prop} {s:Shared}
theorem Li {l b:Addr} {items items2:Array Value} {ns ms:List Int} {Q:Value→Shared→Prop} (hl:IsTup s.heap l items) (hb:IsTup s.heap b items2) (hi:IntsAre items.toList ns) (hj:IntsAre items2.toList ms)
  (hu:A.units < cLine) (h:Q (.bool (lexLt ns ms)) s):wpAny (model prog w) A (compareOp .Lt (.ref l) (.ref b)) Q E s:=by
 obtain ⟨⟨cls,dd,data,sl⟩,ho,hc,n,hd⟩:=id hl
 obtain ⟨⟨cls2,dd2,data2,sl2⟩,ho2,hc2,n2,hd2⟩:=id hb
 simp only at hc hd hc2 hd2
 subst hc hd hc2 hd2
 exact richCompare_meets_room (op:=.Lt) ⟨_,ho,rfl⟩ ⟨_,ho2,rfl⟩ PySem.F.slot_tuple_lt PySem.F.entry_tuple_lt (PySem.F.args_tuple_lt_2 _ _) (Rv l b items items2 n n2 dd dd2 sl sl2 ns ms hi hj)
  ⟨ho,ho2,show Value.bool (lexLt ns ms)≠Value.notImplemented∧Q (.bool (lexLt ns ms)) s from ⟨(fun x=>nomatch x),h⟩⟩ hu
noncomputable def sIx (n d:Nat):Option Int→Nat
 | none=>d
 | some v=>if v < 0 then (v+(n:Int)).toNat else min v.toNat n
end
end HT
namespace L2
open PySem PySem.Spec PyProof.Rows
noncomputable abbrev TO:=St→Hp→(Option Int→Hp→Prop)→Prop
noncomputable def PO (X:Cx) (e:Option Expr) (t:TO):Prop :=
 ∀ (pins:List (Addr × Obj)) (s:Shared) (σ:St) (H:Hp) (Q:Option Int→Hp→Prop),Inv X pins σ H s→t σ H Q →
  wpAny (model X.prog X.w) X.A (evalPart e X.env) (fun u s'=>∃ o H',Inv X pins σ H' s'∧IsPart u o∧Q o H') X.xe s
noncomputable def AlU (t:TE):TO:=fun σ H Q=>t σ H fun x H1=>∃ i,x=.int i∧Q (some i) H1
theorem intsAre_of {ns:List Int}:∀ {us:List Value},Vals (ns.map V.int) us→IntsAre us ns:=by
 induction ns with
 | nil=>intro us r;rw [List.map_nil] at r;cases r;exact .nil
 | cons n ns ih =>
  intro us r
  rw [List.map_cons] at r
  cases r with
  | cons r1 r2 =>
   obtain ⟨t,e⟩:=r1
   subst e
   exact .cons n t (ih r2)
section
variable {X:Cx} {e:Expr} {te:TE} {lo hi:Option Expr} {tl th:TO} {pos p2:Pos}
theorem Aez (h:PE X e te):PO X (some e) (AlU te):=by
 intro pins s σ H Q I hw
 rw [evalPart_some]
 refine thn (h pins s σ H _ I hw) fun u s1 ⟨x,H1,I1,r1,q1⟩=>?_
 obtain ⟨i,rfl,q⟩:=q1
 obtain ⟨t,rfl⟩:=r1
 exact ⟨some i,H1,I1,.int i t,q⟩
noncomputable def SlR (X:Cx) (r:V→Option Int→Option Int→Hp→VK→Prop):Prop :=
 ∀ (pins:List (Addr × Obj)) (s:Shared) (σ:St) (H:Hp) (x:V) (v vl vu:Value) (lo hi:Option Int) (sl:Addr) (Q:VK),Inv X pins σ H s→RelV x v→s.heap.IsSliceOf sl vl vu .none→IsPart vl lo→IsPart vu hi→r x lo hi H Q →
  ∃ T id,typeLookup (.type T) "__getitem__"=pure (some (.builtin id))∧s.TypeIs v T∧wpAny (model X.prog X.w) X.A (getItem v (.ref sl)) (EP X pins σ Q) X.xe s
noncomputable def tSl (r:V→Option Int→Option Int→Hp→VK→Prop) (te:TE) (tl th:TO):TE:=fun σ H Q=>te σ H fun x H1=>tl σ H1 fun l H2=>th σ H2 fun u H3=>r x l u H3 Q
theorem AbI {r:V→Option Int→Option Int→Hp→VK→Prop} (hr:SlR X r) (he:PE X e te) (hl:PO X lo tl) (hu:PO X hi th):PE X (.Subscript e (.Slice lo hi none p2) pos) (tSl r te tl th):=by
 intro pins s σ H Q I h
 refine Subscript_ (thn (he pins s σ H _ I h) fun v s1 ⟨x,H1,I1,r1,q1⟩=>?_)
 refine wpAny_Slice (thn (hl pins s1 σ H1 _ I1 q1) fun vl s2 ⟨l,H2,I2,pl,q2⟩=>thn (hu pins s2 σ H2 _ I2 q2) fun vu s3 ⟨u,H3,I3,pu,q3⟩=>?_)
 rw [evalPart_none]
 refine wpAny_pure ?_
 have I4:Inv X pins σ H3 { s3 with heap:=s3.heap.push { cls:=.type "slice",data:=.fields #[vl,vu,.none] } }:=I3.kept (t':=s3.toks) fun b ob q=>Heap.get?_push_of_some _ q
 obtain ⟨T,id,hT,ht,hg⟩:=hr pins { s3 with heap:=s3.heap.push { cls:=.type "slice",data:=.fields #[vl,vu,.none] } } σ H3 x v vl vu l u s3.heap.objs.size Q I4 r1 (Heap.IsSliceOf.new ..) pl pu q3
 show wpAny (model X.prog X.w) X.A (subscriptTail e (.Slice lo hi none p2) v (.ref s3.heap.objs.size)) (EP X pins σ Q) X.xe { s3 with heap:=s3.heap.push { cls:=.type "slice",data:=.fields #[vl,vu,.none] } }
 exact tail_any (ops:=[.ref s3.heap.objs.size,v]) ht hT hg (by with_unfolding_all rfl)
noncomputable def ZR (xs:List V) (lo hi:Option Int):List V:=(xs.drop (HT.sIx xs.length 0 lo)).take (HT.sIx xs.length xs.length hi - HT.sIx xs.length 0 lo)
theorem VB (xs:List V) (lo hi:Option Int):(ZR xs lo hi).length≤xs.length:=by
 unfold ZR
 rw [List.length_take,List.length_drop]
 omega
end
end L2
namespace L2
open PySem PySem.Spec PyProof.Rows
noncomputable def ixN (n:Nat) (i:Int):Option Nat:=if 0≤i then (if i < n then some i.toNat else none) else if -(n:Int)≤i then some (i+n).toNat else none
noncomputable def atI {α:Type} (xs:List α) (i:Int):Option α:=(ixN xs.length i).bind fun j=>xs[j]?
theorem Ae0 {n:Nat} {i:Int} {j:Nat} (h:ixN n i=some j):seqIndex? i n=some j∧j < n∧-(n:Int)≤i∧i < n:=by
 unfold ixN at h
 by_cases h0:0≤i
 ·rw [if_pos h0] at h
  by_cases h1:i < n
  ·rw [if_pos h1] at h
   have e:i.toNat=j:=Option.some.inj h
   exact ⟨by rw [seqIndex_of h0 h1,e],by omega,by omega,h1⟩
  ·rw [if_neg h1] at h;cases h
 ·rw [if_neg h0] at h
  by_cases h1:-(n:Int)≤i
  ·rw [if_pos h1] at h
   have e:(i+n).toNat=j:=Option.some.inj h
   exact ⟨by rw [seqIndex_neg (by omega) h1,e],by omega,h1,by omega⟩
  ·rw [if_neg h1] at h;cases h
theorem Ux {α:Type} {xs:List α} {i:Int} {v:α} (h:atI xs i=some v):∃ j,seqIndex? i xs.length=some j∧xs[j]? = some v∧j < xs.length∧-(xs.length:Int)≤i∧i < xs.length:=by
 unfold atI at h
 cases e:ixN xs.length i with
 | none=>rw [e] at h;cases h
 | some j =>
  rw [e] at h
  obtain ⟨h1,h2,h3,h4⟩:=Ae0 e
  exact ⟨j,h1,h,h2,h3,h4⟩
theorem Ads {α:Type} {xs:List α} {j:Nat} {v:α} (h:xs[j]? = some v):atI xs (j:Int)=some v:=by
 have hj:j < xs.length:=(List.getElem?_eq_some_iff.mp h).1
 have e:ixN xs.length (j:Int)=some j:=by
  unfold ixN
  rw [if_pos (by omega),if_pos (by omega)];simp
 unfold atI;rw [e];exact h
noncomputable def PL (b:Expr):Prop:=∀ o i,subscripted b false o i=operate [o,i] (getItem o i)
noncomputable def IxR (X:Cx) (r:R2):Prop :=
 ∀ (value slice:Expr) (pins:List (Addr × Obj)) (s:Shared) (σ:St) (H:Hp) (x y:V) (v u:Value) (Q:VK),Inv X pins σ H s→RelV x v→RelV y u→r x y H Q →
  subscripted slice false v u=operate [v,u] (getItem v u)→wpAny (model X.prog X.w) X.A (subscriptTail value slice v u) (EP X pins σ Q) X.xe s
noncomputable def MtR (X:Cx) (id:String) (r:V→List V→Hp→VK→Prop):Prop :=
 ∀ (pins:List (Addr × Obj)) (s:Shared) (σ:St) (H:Hp) (x:V) (xs:List V) (v:Value) (us:List Value) (Q:VK),Inv X pins σ H s→RelV x v→Vals xs us→r x xs H Q →
  wpAny (model X.prog X.w) X.A (call (.builtin id) (v :: us)) (EP X pins σ Q) X.xe s
section
variable {X:Cx} {a b:Expr} {ta tb:TE} {pos:Pos}
theorem IxR.or {r r':R2} (h:IxR X r) (h':IxR X r'):IxR X (fun x y H Q=>r x y H Q∨r' x y H Q):=by
 intro value slice pins s σ H x y v u Q I rx ry q hs
 rcases q with q | q
 ·exact h value slice pins s σ H x y v u Q I rx ry q hs
 ·exact h' value slice pins s σ H x y v u Q I rx ry q hs
theorem Ae9 {r:R2} (hr:IxR X r) (ha:PE X a ta) (hb:PE X b tb) (hs:PL b):PE X (.Subscript a b pos) (tOp r ta tb):=by
 intro pins s σ H Q I h
 exact Subscript_ (AgF ha hb I h fun v u s2 x y H2 I2 rx ry q=>hr a b pins s2 σ H2 x y v u Q I2 rx ry q (hs _ _))
noncomputable def AiP (K:PySem.W.Frag):R2:=fun x y H Q=>∃ p xs i v,x=.ref p∧y=.int i∧SqL K H p xs∧atI xs i=some v∧Q v H
noncomputable def Aka (K:PySem.W.Frag):R2:=fun x y H Q=>∃ p xs i v,x=.ref p∧y=.int i∧SqT K H p xs∧atI xs i=some v∧Q v H
noncomputable def Aj6:R2:=fun x y H Q=>∃ z i c,x=.str z∧y=.int i∧z.length≤sizeLine∧atI z.cps.toList i=some c∧Q (.str ⟨#[c]⟩) H
theorem Yw:IxR X (AiP X.K):=by
 intro value slice pins s σ H x y v u Q I rx ry h hs
 obtain ⟨p,xs,i,z,rfl,rfl,hq,he,q⟩:=h
 cases rx
 obtain ⟨t,rfl⟩:=ry
 obtain ⟨its,r,pl,hz⟩:=I.list hq
 obtain ⟨j,h1,h2,h3,h4,h5⟩:=Ux he
 obtain ⟨w,ew,rw'⟩:=r.get h2
 have hl:=r.length
 have hn:=Tq
 have fin:EP X pins σ Q w s:=⟨z,H,I,rw',q⟩
 by_cases h0:0≤i
 ·have hj:i.toNat=j:=by
   rw [seqIndex_of h0 h5] at h1
   exact Option.some.inj h1
  exact item_listR pl.isList h0 (by omega) (by rw [hj];simpa using ew) fin hs
 ·have hj:(i+(its.toArray.size:Int)).toNat=j:=by
   rw [seqIndex_neg (by omega) h4] at h1
   rw [List.size_toArray,←hl]
   exact Option.some.inj h1
  exact subscriptTail_builtinR (x:=w) pl.isList.typeIs slot_list_getitem.lookup
   (wpAny_getItem_list_neg (Q:=fun r s'=>r=w∧EP X pins σ Q r s') pl.isList (by omega) (by rw [List.size_toArray] <;> omega) (by omega) (by rw [hj];simpa using ew) ⟨rfl,fin⟩) hs
theorem Ag7:IxR X (Aka X.K):=by
 intro value slice pins s σ H x y v u Q I rx ry h hs
 obtain ⟨p,xs,i,z,rfl,rfl,hq,he,q⟩:=h
 cases rx
 obtain ⟨t,rfl⟩:=ry
 obtain ⟨its,r,pl,hz⟩:=I.tuple hq
 obtain ⟨j,h1,h2,h3,h4,h5⟩:=Ux he
 obtain ⟨w,ew,rw'⟩:=r.get h2
 have hl:=r.length
 have hn:=Tq
 have fin:EP X pins σ Q w s:=⟨z,H,I,rw',q⟩
 exact subscriptTail_builtinR (x:=w) pl.typeIs slot_tuple_getitem.lookup
  (getItem_tuple (j:=j) (Q:=fun r s'=>r=w∧EP X pins σ Q r s') pl (by omega) (by omega) (by rw [List.size_toArray,←hl];exact h1) (by simpa using ew) ⟨rfl,fin⟩) hs
theorem AgB:IxR X Aj6:=by
 intro value slice pins s σ H x y v u Q I rx ry h hs
 obtain ⟨z,i,c,rfl,rfl,hz,he,q⟩:=h
 obtain ⟨t,rfl⟩:=rx
 obtain ⟨t',rfl⟩:=ry
 obtain ⟨j,h1,h2,h3,h4,h5⟩:=Ux he
 have hl:z.cps.toList.length=z.length:=by simp [Str.length]
 rw [hl] at h1 h4 h5
 have hn:=Tq
 exact tail_any (typeIs_str s z t) slot_str_getitem.lookup (getItem_str (c:=c) (by
  have e1:decide (i < -(2 ^ 63:Int))=false:=decide_eq_false (by omega)
  have e2:decide (i≥2 ^ 63)=false:=decide_eq_false (by omega)
  rw [e1,e2,Bool.or_false]) (by rw [h1];simpa using h2) ⟨.str ⟨#[c]⟩,H,I.tok _,⟨_,rfl⟩,q⟩) hs
noncomputable def rIx (K:PySem.W.Frag):R2:=fun x y H Q=>AiP K x y H Q∨Aka K x y H Q∨Aj6 x y H Q
theorem AhJ:IxR X (rIx X.K):=Yw.or (Ag7.or AgB)
theorem Tz (lo hi:Option Int) (n:Nat):(sliceBounds lo hi none n).1=((HT.sIx n 0 lo:Nat):Int)∧(sliceBounds lo hi none n).2.1=((HT.sIx n n hi:Nat):Int)∧(sliceBounds lo hi none n).2.2=1:=by
 refine ⟨?_,?_,rfl⟩
 ·cases lo with
  | none=>simp [sliceBounds,HT.sIx]
  | some i =>
   simp only [sliceBounds,HT.sIx,Option.getD_none,show (1:Int) > 0 by decide,if_true]
   by_cases h:i < 0
   ·simp only [h,if_true] <;> omega
   ·simp only [h,if_false] <;> omega
 ·cases hi with
  | none=>simp [sliceBounds,HT.sIx]
  | some i =>
   simp only [sliceBounds,HT.sIx,Option.getD_none,show (1:Int) > 0 by decide,if_true]
   by_cases h:i < 0
   ·simp only [h,if_true] <;> omega
   ·simp only [h,if_false] <;> omega
theorem RB (its:List Value) (lo hi:Option Int):slicePick its.toArray lo hi none=((its.drop (HT.sIx its.length 0 lo)).take (HT.sIx its.length its.length hi - HT.sIx its.length 0 lo)).toArray:=by
 obtain ⟨h1,h2,h3⟩:=Tz lo hi its.toArray.size
 unfold slicePick
 rw [h1,h2,h3]
 simp only [sliceRange_one,pick_run,List.size_toArray] <;> rfl
noncomputable def AmR (K:PySem.W.Frag):V→Option Int→Option Int→Hp→VK→Prop:=fun x lo hi H Q=>∃ a xs,x=.ref a∧SqL K H a xs∧∀ p,H p=none→Q (.ref p) (upd H p (.lst (ZR xs lo hi)))
theorem AdN:SlR X (AmR X.K):=by
 intro pins s σ H x v vl vu lo hi sl Q I rx hs pl pu h
 obtain ⟨a,xs,rfl,hx,q⟩:=h
 cases rx
 obtain ⟨its,r,ht,hz⟩:=I.list hx
 have hlen:=r.length
 refine ⟨"list",_,slot_list_getitem.lookup,ht.isList.typeIs,?_⟩
 refine wpAny_getItem_list_slice ht.isList hs pl pu .none (by simp) ?_ (by rw [List.size_toArray] <;> omega)
 rw [RB,←hlen]
 refine ⟨.ref s.heap.objs.size,_,I.laid (t':=s.toks) (o:=.lst (ZR xs lo hi)) (fun b ob q=>Heap.get?_push_of_some _ q) (Nat.le_refl _) ?_,rfl,q _ (I.hok.fresh (Nat.le_refl _))⟩
 exact ⟨Nat.le_trans (VB xs lo hi) hz,_,0,(r.drop (HT.sIx xs.length 0 lo)).take (HT.sIx xs.length xs.length hi - HT.sIx xs.length 0 lo),Heap.get?_push_size _ rfl⟩
theorem TX:Np X (.builtin "len") (fun xs H Q=>∃ p ys,xs=[.ref p]∧(SqL X.K H p ys∨SqT X.K H p ys)∧Q (.int ys.length) H):=by
 intro pins s σ H xs us Q I r h
 obtain ⟨p,ys,rfl,hq,q⟩:=h
 obtain ⟨u,rfl,rx⟩:=vals1 r
 cases rx
 have hn:=Tq
 rcases hq with hq | hq
 ·obtain ⟨its,r',pl,hz⟩:=I.list hq
  have hlen:=r'.length
  exact Calls.call_len_list pl.isList (by simp only [List.size_toArray] <;> omega) ⟨.int ys.length,H,I.tok _,⟨s.toks+1,by rw [List.size_toArray,hlen]⟩,q⟩
 ·obtain ⟨its,r',pl,hz⟩:=I.tuple hq
  have hlen:=r'.length
  exact len_tuple pl (by simp only [List.size_toArray] <;> omega) ⟨.int ys.length,H,I.tok _,⟨s.toks+1,by rw [List.size_toArray,hlen]⟩,q⟩
noncomputable def tyV (K:PySem.W.Frag) (T:String) (x:V) (H:Hp):Prop:=match x with
 | .str _=>T="str"
 | .int _=>T="int"
 | .ref p=>(T="list"∧∃ xs,SqL K H p xs)∨(T="tuple"∧∃ o,K.lookup p=some o∧o.cls=.type "tuple"∧o.dict=none) ∨
   (T="dict"∧((∃ kvs,H p=some (.dK kvs))∨∃ kvs,H p=some (.dT kvs)))∨(T="set"∧∃ S n,H p=some (.set S n))
 | _=>False
theorem AaS {pins:List (Addr × Obj)} {σ:St} {H:Hp} {s:Shared} {T:String} {x:V} {v:Value} (I:Inv X pins σ H s) (r:RelV x v) (ty:tyV X.K T x H) :
  s.TypeIs v T∧∀ a,v=.ref a→∃ ob,s.heap.get? a=some ob∧ob.dict=none:=by
 cases x with
 | str z =>
  obtain ⟨t,rfl⟩:=r
  cases (show T="str" from ty)
  exact ⟨typeIs_str s z t,fun _ e=>nomatch e⟩
 | int i =>
  obtain ⟨t,rfl⟩:=r
  cases (show T="int" from ty)
  exact ⟨typeIs_int s i t,fun _ e=>nomatch e⟩
 | ref p =>
  cases r
  rcases ty with ⟨rfl,xs,hq⟩ | ⟨rfl,o,hk,hc,hd⟩ | ⟨rfl,hk⟩ | ⟨rfl,S,n,hk⟩
  ·obtain ⟨its,_,pl,_⟩:=I.list hq
   refine ⟨pl.isList.typeIs,fun a e=>?_⟩
   cases e
   obtain ⟨o,n,e,c,hd,_⟩:=pl
   exact ⟨o,e,hd⟩
  ·refine ⟨⟨o,I.kIn p o hk,hc⟩,fun a e=>?_⟩
   cases e
   exact ⟨o,I.kIn _ o hk,hd⟩
  ·have z:∃ o,s.heap.get? p=some o∧o.ExactDict:=by
    rcases hk with ⟨kvs,hk⟩ | ⟨kvs,hk⟩
    ·obtain ⟨_,_,_,_,o,_,_,e,ex,_⟩:=I.hok p _ hk
     exact ⟨o,e,ex⟩
    ·obtain ⟨_,_,_,_,o,_,_,e,ex,_⟩:=I.hok p _ hk
     exact ⟨o,e,ex⟩
   obtain ⟨o,e,ex⟩:=z
   refine ⟨⟨o,e,ex.1⟩,fun a e2=>?_⟩
   cases e2
   exact ⟨o,e,ex.2.1⟩
  ·obtain ⟨o,_,_,_,e,ex,_⟩:=I.hok p _ hk
   refine ⟨⟨o,e,ex.1⟩,fun a e2=>?_⟩
   cases e2
   exact ⟨o,e,ex.2.1⟩
 | _=>exact False.elim ty
noncomputable def Anh (K:PySem.W.Frag) (T:String) (r:V→List V→Hp→VK→Prop) (to:TE):TE:=fun σ H Q=>to σ H fun x H1=>tyV K T x H1∧r x [] H1 Q
noncomputable def tBM (K:PySem.W.Frag) (T:String) (r:V→List V→Hp→VK→Prop) (to:TE) (t:TA):TE:=fun σ H Q=>to σ H fun x H1=>tyV K T x H1∧t σ H1 fun xs H2=>r x xs H2 Q
variable {o e:Expr} {es:List Expr} {to:TE} {t:TA} {name:Str} {apos cpos:Pos} {T id:String} {r:V→List V→Hp→VK→Prop}
theorem AhU (pa:PlainAttrs T) (slot:Slot T name id) (hty:typeOf (.builtin id)=pure (.type "method_descriptor")) (hm:MtR X id r) (ho:PE X o to)
  (hbase:attributeBase o name X.env (eval o X.env)=eval o X.env:=by rfl) (hline:(apos.endLine == cpos.line)=true:=by rfl):PE X (.Call (.Attribute o name apos) [] [] cpos) (Anh X.K T r to):=by
 intro pins s σ H Q I h
 refine wpAny_Call_method0_late hbase hline (thn (ho pins s σ H _ I h) fun v s1 ⟨x,H1,I1,r1,ty,q1⟩=>?_)
 obtain ⟨h1,h2⟩:=AaS I1 r1 ty
 exact ⟨T,id,pa,slot,hty,h1,h2,Calls.callWith_builtin rfl (PySem.evalArgs_none (hm pins s1 σ H1 x [] v [] Q I1 r1 .nil q1))⟩
theorem AfF (pa:PlainAttrs T) (slot:Slot T name id) (hty:typeOf (.builtin id)=pure (.type "method_descriptor")) (hm:MtR X id r) (ho:PE X o to) (ha:PA X (e :: es) t)
  (hbase:attributeBase o name X.env (eval o X.env)=eval o X.env:=by rfl)
  (hfew:((backTo cpos (starEach (e :: es) X.env)).all (fun x=>!x.1) && (backToKw cpos (keywordEach [] X.env)).all (fun x=>x.1.isSome)
   && decide ((e :: es).length+([]:List Keyword).length+(if ([]:List Keyword).isEmpty then 0 else 1) < 30))=true:=by rfl)
  (hline:(apos.endLine == cpos.line)=true:=by rfl) (hs:starEach (e :: es) X.env=(false,eval e X.env) :: starEach es X.env:=by rfl) (hplain:(backTo cpos (starEach es X.env)).any (·.1)=false:=by rfl) :
  PE X (.Call (.Attribute o name apos) (e :: es) [] cpos) (tBM X.K T r to t):=by
 intro pins s σ H Q I h
 refine wpAny_Call_method_late hbase hfew hline rfl (thn (ho pins s σ H _ I h) fun v s1 ⟨x,H1,I1,r1,ty,q1⟩=>?_)
 obtain ⟨h1,h2⟩:=AaS I1 r1 ty
 refine ⟨T,id,pa,slot,hty,h1,h2,?_⟩
 have hA:=ha cpos pins s1 σ H1 _ I1 q1
 rw [hs] at hA ⊢
 refine Calls.callWith_builtin (by show (false || (backTo cpos (starEach es X.env)).any (·.1))=false;rw [hplain] <;> rfl) (Calls.evalArgs_plain ?_)
 exact thn hA fun us s2 ⟨vs,H2,I2,r2,q2⟩=>hm pins s2 σ H2 x vs v us Q I2 r1 r2 q2
end
end L2
namespace L2
open PySem PySem.Spec PyProof.Rows
noncomputable def MtM (X:Cx) (id:String) (r:V→List V→Hp→VK→Prop):Prop :=
 ∀ (pins:List (Addr × Obj)) (s:Shared) (σ:St) (H:Hp) (x:V) (xs:List V) (v:Value) (us:List Value) (Q:VK),Inv X pins σ H s→RelV x v→Vals xs us→r x xs H Q →
  wpAny (model X.prog X.w) X.A (call (.builtin id) (v :: us)) (EP X pins σ Q) X.xe s
theorem Vals.one:∀ {x:V} {us:List Value},Vals [x] us→∃ u,us=[u]∧RelV x u
 | _,_,.cons r .nil=>⟨_,rfl,r⟩
section
variable {X:Cx} {pins:List (Addr × Obj)} {σ:St} {H:Hp} {s:Shared} {l b:Addr} {xs ys zs:List V}
theorem Inv.lset {its its':List Value} {n:Nat} {f:Array Value→Array Value} {t':Nat} (I:Inv X pins σ H s) (hH:H l=some (.lst xs))
  (e:s.heap.get? l=some { cls:=.type "list",data:=.seq its.toArray n }) (hf:f its.toArray=its'.toArray) (hv:Vals ys its') (hz:ys.length≤sizeLine) :
  Inv X pins σ (upd H l (.lst ys)) { s with heap:=s.heap.update l (Obj.mapSeq f),toks:=t' }:=by
 have q:=PySem.IsL.update e f
 rw [hf] at q
 refine I.write (x:=l) (e:=l) (by rw [hH];exact trivial) (.inl rfl) (fun b' u hb hu=>(Heap.get?_update_other s.heap (Obj.mapSeq f) (Ne.symm hb)).trans hu) ⟨_,q⟩ ?_
 exact ⟨hz,its',_,hv,q⟩
theorem Inv.lnew {its:List Value} {t':Nat} (I:Inv X pins σ H s) (hv:Vals ys its) (hz:ys.length≤sizeLine) :
  Inv X pins σ (upd H s.heap.objs.size (.lst ys)) { s with heap:=s.heap.push { cls:=.type "list",data:=.seq its.toArray },toks:=t' } :=
 I.laid (fun _ _ q=>Heap.get?_push_of_some _ q) (Nat.le_refl _) ⟨hz,its,0,hv,Heap.get?_push_size _ rfl⟩
theorem Inv.fresh (I:Inv X pins σ H s):H s.heap.objs.size=none:=I.hok.fresh (Nat.le_refl _)
theorem Inv.lstM (I:Inv X pins σ H s) (hH:H l=some (.lst xs)):xs.length≤sizeLine∧∃ (its:List Value) (n:Nat),Vals xs its∧xs.length=its.length∧s.heap.get? l=some { cls:=.type "list",data:=.seq its.toArray n }:=by
 obtain ⟨z,its,n,r,e⟩:=I.hok l _ hH
 exact ⟨z,its,n,r,r.length,e⟩
end
section
variable {X:Cx}
noncomputable def Aeq:V→List V→Hp→VK→Prop:=fun x vs H Q=>∃ l xs y,x=.ref l∧vs=[y]∧H l=some (.lst xs)∧xs.length < sizeLine∧Q .non (upd H l (.lst (xs ++ [y])))
theorem Ob:MtM X "list.append" Aeq:=by
 intro pins s σ H x vs v us Q I rx rv h
 obtain ⟨l,xs,y,rfl,rfl,hH,hz,q⟩:=h
 cases rx
 obtain ⟨u,rfl,ru⟩:=rv.one
 obtain ⟨z,its,n,r,hl,e⟩:=I.lstM hH
 refine call_meets F.slot_list_append ⟨_,e,rfl⟩ F.entry_list_append (F.args_list_append_2 _ _) (PySem.list_append l its.toArray n u (by rw [List.size_toArray];omega)) ⟨e,?_⟩
 refine ⟨.non,_,I.lset (its':=its ++ [u]) hH e (by simp) (r.append (.cons ru .nil)) ?_,rfl,q⟩
 rw [List.length_append,List.length_singleton]
 omega
end
section
variable {prog:Program} {w:World} {A:Around} {E:Value→Shared→Prop} {s:Shared}
set_option maxRecDepth 100000 in
end
section
variable {X:Cx}
end
end L2
namespace Att
open PySem PySem.W PySem.Calls PyProof.Rows
theorem Pj {P:Params} {h:Heap}:∀ (ns:List Int) (vs:List Value),WellAll P h vs (ns.map WData.int)→IntsAre vs ns:=by
 intro ns
 induction ns with
 | nil =>
  intro vs w
  rw [List.map_nil] at w
  cases w
  exact .nil
 | cons n ns ih =>
  intro vs w
  rw [List.map_cons] at w
  cases w with
  | cons a b =>
   cases a
   exact .cons _ _ (ih _ b)
theorem ZC {l:OpenLaw} {n:Nat} (hn:l.most=some n) {P:Params} {h:Heap} {args:List WData} {vals:List Value}
  (hpre:l.row.toRowW.claim.pre args=true) (hwl:WellAll P h vals args) :
  ∃ a vs ns,vals=[Value.ref a]∧args=[WData.list (ns.map WData.int)]∧h.get? a=some { cls:=.type "list",data:=.seq vs.toArray }∧IntsAre vs ns∧ns.length≤n:=by
 have hsh:WShape.hasAll [] args [.list .int]=true:=(pre_splitW hpre).1
 have hc:l.pre.holds [] { args:=args }=true:=(pre_splitW hpre).2
 obtain ⟨d,r,rfl,h1,h2⟩:=hasAllW_cons hsh
 obtain rfl:=hasAllW_nil h2
 obtain ⟨xs,rfl,h3⟩:=hasW_list h1
 obtain ⟨ns,rfl⟩:=items_int h3
 have hlen:ns.length≤n:=by
  unfold OpenLaw.pre at hc
  have h4:(WTm.not (.lt (.lit (.int (n:Int))) (.len (.arg 0)))).holds [] { args:=[.list (ns.map .int)] }=true:=by
   have h4:=(holds_andW hc).1
   rw [hn] at h4
   exact h4
  have h5:=condW_of h4 (w_not (w_lt w_lit (w_len_list (w_arg rfl))))
  rw [List.length_map] at h5
  refine Nat.le_of_not_lt fun q=>?_
  have q':(n:Int) < ((ns.length:Nat):Int):=by omega
  first
   | (rw [decide_eq_true q'] at h5;exact absurd h5 (by decide))
   | (simp at h5;omega)
 cases hwl with
 | cons w1 w2 =>
  cases w2
  cases w1 with
  | list ho hall=>exact ⟨_,_,ns,rfl,rfl,ho,Pj ns _ hall,hlen⟩
theorem Aao (l:OpenLaw) (args:List WData):l.row.toRowW.claim.post args (.bool true) args=true :=
 postW_of (r:=l.row.toRowW) (X:=(true == true))
  (show WShape.has [] (.bool true) .bool=true by first | rfl | decide | simp [WShape.has,WShape.arms,WShape.armsAll])
  (show (WTm.eq .res (.lit (.bool true))).value [] { args:=args,res:=some (.bool true),after:=args }=some (.bool (true == true)) from w_eq_bool (w_res rfl) w_lit) rfl
theorem Vx {l:OpenLaw} {n:Nat} {q:Program} {loose:List Str} {XP:(Str→Option Value)→Heap→Prop} {YP:World→Heap→Prop} {d:DefRec}
  (hn:l.most=some n) (hdf:d.params.defaults=[])
  (call:∀ (w:World) (s₀ s₁:Shared) (mg mb:Str→Option Value) (fa:Addr) (o:Obj) (pm cd doc:Value) (a:Addr) (vs:List Value) (ns:List Int),
   Ground q loose [] XP w s₀ mg mb s₁.heap→YP w s₁.heap →
   s₁.heap.get? fa=some o→o.data=.func (docDef d.name d.params d.body d.scope pm cd doc)→s₁.heap.CodeRec cd d.name→mg d.name=some (.ref fa) →
   s₁.heap.get? a=some { cls:=.type "list",data:=.seq vs.toArray }→IntsAre vs ns→ns.length≤n→s₁.gens = #[] →
   codeAny (model l.prog w) callerA (.call (.ref fa) ⟨[.ref a],[]⟩) (fun r s'=>r=.ok (.ret (.bool true))∧OldK s₁.heap s'.heap∧s'.os=s₁.os∧AllBare s'.gens) s₁) :
  WalkO q loose XP YP l.row.toRowW d [] (fun f vs=>PySem.call f vs):=by
 intro w s₀ s₁ mg mb G Y fa o pm cd doc dV kV ho hd hcd hD hmg hg args vals as hpre hlay hrd hwl hlo
 obtain rfl:dV=.none:=Dflts.none hD hdf
 obtain rfl:kV=.none:=Dflts.noKw hD
 obtain ⟨a,vs,ns,rfl,rfl,hobj,hints,hlen⟩:=ZC hn hpre hwl
 refine enter_call (codeAny_mono (call w s₀ s₁ mg mb fa o pm cd doc a vs ns G Y ho (fd_plain hd) hcd hmg hobj hints hlen hg) fun r s' hq=>?_)
 obtain ⟨rfl,h2,h3,h4⟩:=hq
 exact ⟨.inl ⟨.bool true,.bool true,[],rfl,fun _=>rfl,.bool true,Aao l _,fun _=>⟨List.Pairwise.nil,fun _ hm=>(nomatch hm)⟩⟩,h2,h3,h4⟩
section
variable {prog:Program} {w:World} {A:Around} {E:Value→Shared→Prop} {s:Shared} {K:Frag}
noncomputable def ledger (h:Heap) (L d:Addr):List (Addr × Obj):=(List.range h.objs.size).filterMap fun a=>if a=L∨a=d then none else (h.get? a).map fun o=>(a,o)
end
end Att
namespace L2
open PySem PySem.Spec PyProof.Rows
theorem RV:∀ {vs:List Value} {ns:List Int},IntsAre vs ns→Vals (ns.map V.int) vs
 | _,_,.nil=>.nil
 | _,_,.cons n t h=>.cons ⟨t,rfl⟩ (RV h)
noncomputable def Only (H:Hp):Prop:=∀ b,H b=none∨∃ o xs,H b=some (.frz o (.lst xs))
theorem Acv {P:Program} {w:World} {K:PySem.W.Frag} {mg mb:Str→Option Value} {CX:CXT} {k:Nat} {fa a:Addr} {fd:FuncData} {x:Str} {sp:Sp} {s₁:Shared} {vs:List Value} {ns:List Int}
  (KX:K.In s₁.heap) (hns:s₁.heap.Ns mainGlobals mg) (hb:s₁.heap.Ns builtinsNs mb) (hbb:∀ x:Str,x≠"__name__"→mb x=bootBuiltins x) (hlim:s₁.heap.NoLimit) (hg:s₁.gens = #[])
  (ha:s₁.heap.get? a=some { cls:=.type "list",data:=.seq vs.toArray }) (hi:IntsAre vs ns) (hl:ns.length≤sizeLine) (hr:Ep k callerA)
  (F:∀ base:Heap,K.In base→base.Ns mainGlobals mg→HX P w K mg base CX k fa fd [x] sp) (hbind:∀ (s:Shared) (u:Value),BindsTo s fd ⟨[u],[]⟩ [(x,u)])
  (hsp:∀ H:Hp,Only H→SqL K H a (ns.map V.int)→sp [.ref a] H (fun v _=>v=.bl true) fun _ _ _=>False)
  (hCX:∀ H e s',CX [] H s₁ (fun _ _ _=>False) e s'→False) :
  codeAny (model P w) callerA (.call (.ref fa) ⟨[.ref a],[]⟩) (fun r s'=>r=.ok (.ret (.bool true))∧OldK s₁.heap s'.heap∧s'.os=s₁.os∧AllBare s'.gens) s₁:=by
 have rv:=RV hi
 have lenV:=hi.length
 have core:∀ H:Hp,Only H→SqL K H a (ns.map V.int)→HOk P w H s₁.heap→(∀ b,H b≠none→b=a)→(H a≠none→K.lookup a=none) →
   codeAny (model P w) callerA (.call (.ref fa) ⟨[.ref a],[]⟩) (fun r s'=>r=.ok (.ret (.bool true))∧OldK s₁.heap s'.heap∧s'.os=s₁.os∧AllBare s'.gens) s₁:=by
  intro H hO hS hok hA hK
  have base_of:∀ {b:Addr} {o:Obj},s₁.heap.get? b=some o→H b=none→(TF s₁.heap H).get? b=some o:=fun e n=>Aav e n
  have noA:∀ {b:Addr} {o:Obj} {es:Array DictEntry} {ep:Nat},s₁.heap.get? b=some o→o.data=.dict es ep→H b=none:=fun {b o es ep} e d=>by
   cases q:H b with
   | none=>rfl
   | some u =>
    have e':b=a:=hA b (by rw [q];simp)
    subst e'
    rw [ha] at e;cases e
    have d':Data.seq vs.toArray _=Data.dict es ep:=d
    cases d'
  have nsK:∀ {b:Addr} {m:Str→Option Value},s₁.heap.Ns b m→(TF s₁.heap H).Ns b m:=fun {b m} ⟨o,es,ep,e,d,r⟩=>⟨o,es,ep,base_of e (noA e d),d,r⟩
  have hKb:K.In (TF s₁.heap H):=fun b o e=>base_of (KX b o e) (by
   cases q:H b with
   | none=>rfl
   | some u =>
    have e':b=a:=hA b (by rw [q];simp)
    subst e'
    rw [hK (by rw [q];simp)] at e;cases e)
  have hM:Mod K mg (TF s₁.heap H):=⟨hKb,nsK hns,⟨mb,nsK hb,hbb⟩,let ⟨mc,h1,h2⟩:=hlim;⟨mc,nsK h1,h2⟩⟩
  have e0:Xj P w K mg (TF s₁.heap H) callerA [] s₁ H:=⟨rfl,hM,fun b o e=>Adz e,Nat.le_of_eq (Aal _ _),trivial,fun b hb=>absurd (show b∈([]:List Addr) from hb) (by simp),hok,.of_eq hg⟩
  refine codeAny_mono ((F _ hKb (nsK hns)).run callerA [] s₁ H ⟨[.ref a],[]⟩ [.ref a] [.ref a] _ _ hr e0 (hbind s₁ (.ref a)) (.cons rfl .nil) (hsp H hO hS)) fun r s' h=>?_
  cases r with
  | error e=>exact (hCX H e s' h).elim
  | ok fl =>
   cases fl with
   | next=>exact False.elim h
   | brk=>exact False.elim h
   | cont=>exact False.elim h
   | ret u =>
    obtain ⟨v,H',os,bare,un,hok',r',q⟩:=h
    have q':v=.bl true:=q
    subst q'
    obtain rfl:u=Value.bool true:=r'
    refine ⟨rfl,OldK.of_keep fun b o e=>?_,os,bare⟩
    cases q:H b with
    | none=>exact un.keep b o e q (by intro z;exact absurd (show b∈([]:List Addr) from z) (by simp)) (by simp)
    | some u =>
     rcases hO b with z | ⟨ob,xs,z⟩
     ·rw [q] at z;cases z
     ·have z2:=un.frzs b ob _ z
      obtain ⟨e1,_⟩:=hok b _ z
      obtain ⟨e2,_⟩:=hok' b _ z2
      rw [e] at e1;cases e1
      exact e2
 cases hk:K.lookup a with
 | some o =>
  have e:=KX a o hk
  rw [ha] at e
  cases e
  refine core (fun _=>none) (fun _=>.inl rfl) (.inr ⟨_,vs.toArray,_,hk,rfl,rfl,rfl,by rw [List.size_toArray,lenV];exact hl,by simpa using rv⟩) (fun b u z=>by have z':(none:Option HO)=some u:=z;cases z') (fun b z=>absurd rfl z) fun z=>absurd rfl z
 | none =>
  refine core (fun b=>if b=a then some (.frz { cls:=.type "list",data:=.seq vs.toArray } (.lst (ns.map V.int))) else none) (fun b=>?_) (.inl (.inr ⟨{ cls:=.type "list",data:=.seq vs.toArray },if_pos rfl⟩)) (fun b u z=>?_) (fun b z=>?_) fun _=>hk
  ·by_cases hb:b=a
   ·exact .inr ⟨_,_,if_pos hb⟩
   ·exact .inl (if_neg hb)
  ·by_cases hb:b=a
   ·have z':=(if_pos hb).symm.trans z
    cases z'
    subst hb
    exact ⟨ha,by rw [List.length_map];exact hl,vs,_,rv,ha⟩
   ·have z':=(if_neg hb).symm.trans z
    cases z'
  ·by_cases hb:b=a
   ·exact hb
   ·exact absurd (if_neg hb) z
end L2
namespace L2
open PySem PySem.Spec PyProof.Rows
noncomputable abbrev KOf {K:PySem.W.Frag} {h:Heap} (_:K.In h):PySem.W.Frag:=K
theorem Ac5 {l:PySem.W.OpenLaw} {n k:Nat} {q:Program} {loose:List Str} {XP:(Str→Option Value)→Heap→Prop} {YP:World→Heap→Prop} {d:DefRec} {K:Params→PySem.W.Frag} {CX:World→CXT} {sp:World→Sp} {x:Str}
  (hn:l.most=some n) (hn2:n≤sizeLine) (hdf:d.params.defaults=[]) (hr:Ep k callerA)
  (hY:∀ (w:World) (h:Heap),YP w h→(K w.params).In h)
  (F:∀ (w:World) (mg:Str→Option Value) (fa:Addr) (h:Heap),(K w.params).In h→h.Ns mainGlobals mg→mg d.name=some (.ref fa) →
   ∃ fd:FuncData,(∀ (s:Shared) (u:Value),BindsTo s fd ⟨[u],[]⟩ [(x,u)]) ∧
    ∀ base:Heap,(K w.params).In base→base.Ns mainGlobals mg→HX l.prog w (K w.params) mg base (CX w) k fa fd [x] (sp w))
  (hsp:∀ (w:World) (H:Hp) (a:Addr) (ns:List Int),ns.length≤n→Only H→SqL (K w.params) H a (ns.map V.int)→sp w [.ref a] H (fun v _=>v=.bl true) fun _ _ _=>False)
  (hCX:∀ (w:World) (H:Hp) (s:Shared) (e:Value) (s':Shared),CX w [] H s (fun _ _ _=>False) e s'→False) :
  PySem.W.WalkO q loose XP YP l.row.toRowW d [] (fun f vs=>PySem.call f vs):=by
 refine Att.Vx hn hdf fun w s₀ s₁ mg mb fa o pm cd doc a vs ns G Y ho hd hcd hmg hobj hints hlen hg=>?_
 have KX:=hY w _ Y
 obtain ⟨fd,hb,hF⟩:=F w mg fa _ KX G.T.g hmg
 exact Acv KX G.T.g G.T.b G.T.builtins G.T.nolimit hg hobj hints (Nat.le_trans hlen hn2) hr hF hb (fun H hO hS=>hsp w H a ns hlen hO hS) fun H e s'=>hCX w H s₁ e s'
end L2
namespace L2
open PySem PySem.Spec PyProof.Rows
noncomputable def inClass (s:Stmt) (j:Nat):Stmt:=match s with
 | .ClassDef _ _ _ body _ _ _ _ _ _ _=>body.getD j (.Pass ⟨0,0,0,0⟩)
 | _=>.Pass ⟨0,0,0,0⟩
noncomputable def Ej (s:Stmt):Arguments:=match s with
 | .FunctionDef _ a _ _ _ _ _ _ _ _=>a
 | _=>{ posonlyargs:=[],args:=[],vararg:=none,kwonlyargs:=[],kw_defaults:=[],kwarg:=none,defaults:=[] }
noncomputable def Dn (s:Stmt):List Stmt:=match s with
 | .FunctionDef _ _ b _ _ _ _ _ _ _=>b
 | _=>[]
noncomputable def Ai (s:Stmt):Scope:=match s with
 | .FunctionDef _ _ _ _ _ _ sc _ _ _=>sc
 | _=>{ kind:=.function,names:=[],isGenerator:=false,isCoroutine:=false }
noncomputable abbrev CX0:CXT:=fun _ _ _ _ _ _=>False
noncomputable abbrev E0:XK:=fun _ _ _=>False
theorem Vi {X:Cx}:Passes CX0 X E0:=fun _ _ _ _ _ _ _ h=>h.elim
structure Fun (K:PySem.W.Frag) (x qual:Str) (st:Stmt) (f:Addr) (fd:FuncData):Prop where
 ex:∃ (oc:Value) (od:Option Addr) (kV doc pm:Value) (an:Option Addr) (cdv ct:Value) (osl:Array (Option Value)),
  fd=PySem.W.fnOf x qual (Ej st) (Dn st) (Ai st) .none kV doc pm an cdv ct∧K.lookup f=some ⟨oc,od,.func fd,osl⟩∧PySem.W.codeIn K cdv qual=true
 kp:PySem.W.keepIn K (.ref f)=true
section
variable {P:Program} {w:World} {K:PySem.W.Frag} {mg:Str→Option Value} {base:Heap}
theorem Fun.ok {x qual:Str} {st:Stmt} {f:Addr} {fd:FuncData} {N ps:List Str} {k:Nat} {sp:Sp} (F:Fun K x qual st f fd) (S:Ao N ps (Ai st)) (len:∀ vs H Q E,sp vs H Q E→vs.length=ps.length)
  (hbody:∀ (cdv:Value) (A:Around) (outer:List Env) (s:Shared) (H:Hp) (vs:List V) (Q:VK) (E:XK),Ep k (A.deeper (envOfC qual (Ai st) s.heap.objs.size f cdv))→sp vs H Q E →
   ∃ t,PSs (X7 CX0 P w K mg base N qual (Ai st) f cdv A outer s H E).nox (Dn st) t∧t { nx:=fun _ H'=>Q .non H',rt:=Q } (start N vs) H):HX P w K mg base CX0 (k+1) f fd ps sp:=by
 obtain ⟨oc,od,kV,doc,pm,an,cdv,ct,osl,rfl,lk,hcd⟩:=F.ex
 refine AjY lk hcd S len fun A outer s H vs Q E hr hsp=>?_
 obtain ⟨t,h,q⟩:=hbody cdv A outer s H vs Q E hr hsp
 exact ⟨t,h.nox,q⟩
theorem Fun.binds {x qual:Str} {st:Stmt} {f:Addr} {fd:FuncData} {ps:List Str} (F:Fun K x qual st f fd)
  (h:∀ (kV doc pm:Value) (an:Option Addr) (cdv ct:Value) (us:List Value),us.length=ps.length→bindArgs (PySem.W.fnOf x qual (Ej st) (Dn st) (Ai st) .none kV doc pm an cdv ct) ⟨us,[]⟩=pure (ps.zip us)):Binds K fd ps []:=by
 obtain ⟨oc,od,kV,doc,pm,an,cdv,ct,osl,rfl,lk,hcd⟩:=F.ex
 exact .all (h kV doc pm an cdv ct)
theorem NP {x qual:Str} {st:Stmt} {f:Addr} {oc:Value} {od an:Option Addr} {osl:Array (Option Value)} {kV doc pm cdv ct:Value} (l:K.lookup f=some ⟨oc,od,.func (PySem.W.fnOf x qual (Ej st) (Dn st) (Ai st) .none kV doc pm an cdv ct),osl⟩)
  (c:PySem.W.codeIn K cdv qual=true) (k:PySem.W.keepIn K (.ref f)=true):Fun K x qual st f (PySem.W.fnOf x qual (Ej st) (Dn st) (Ai st) .none kV doc pm an cdv ct):=⟨⟨oc,od,kV,doc,pm,an,cdv,ct,osl,rfl,l,c⟩,k⟩
end
theorem ZF {n:Nat} (h:n≤1000):n < sizeLine:=Nat.lt_of_le_of_lt h (by decide)
section
variable {X:Cx}
theorem pv (i:Nat) {x:Str} {pos:Pos} (hN:X.N[i]? = some x:=by rfl) (hv:Vis X.env.scope x:=by first | exact Or.inl rfl | exact Or.inr (Or.inl rfl) | exact Or.inr (Or.inr rfl)) (hd:(x == ("__debug__":Str))=false:=by decide)
  (hcd:(x == ("__classdict__":Str))=false:=by decide):PE X (.Name x pos) (AkA i):=Kp hN hv hd hcd
end
theorem MP {c A B:Prop} [Decidable c] (h1:c→A) (h2:¬ c→B):if c then A else B:=by
 by_cases h:c
 ·rw [if_pos h]
  exact h1 h
 ·rw [if_neg h]
  exact h2 h
noncomputable def Same (H H':Hp):Prop:=∀ b o,H b=some o→H' b=some o
theorem Same.refl (H:Hp):Same H H:=fun _ _ h=>h
theorem Same.trans {H H1 H2:Hp} (a:Same H H1) (b:Same H1 H2):Same H H2:=fun c o h=>b c o (a c o h)
theorem Same.seq {K:PySem.W.Frag} {H H':Hp} {a:Addr} {xs:List V} (e:Same H H') (h:SqL K H a xs):SqL K H' a xs:=by
 rcases h with (h | ⟨o,h⟩) | h
 ·exact .inl (.inl (e _ _ h))
 ·exact .inl (.inr ⟨o,e _ _ h⟩)
 ·exact .inr h
end L2
namespace L2
open PySem PySem.Spec PyProof.Rows
noncomputable def exO (a C dx:Addr) (h:Heap):Prop:=∃ o vs,h.get? a=some o∧o.cls=.ref C∧o.dict=some dx∧o.data=.fields vs∧dx≠a
section
variable {M:Model} {A:Around} {E:Value→Shared→Prop} {s:Shared} {base:Heap} {env:Env} {outer:List Env} {L e:Addr}
end
section
variable {P:Program} {w:World} {H:Hp} {h h':Heap} {fs:List Addr} {e:Addr} {oe:Obj} {vs:Array Value} {old:Option Addr} {φ:Heap→Prop}
end
end L2
namespace L2
open PySem PySem.Spec PyProof.Rows
section
variable {X:Cx} {pins:List (Addr × Obj)} {σ:St} {H:Hp} {s:Shared} {a:Addr} {E:Value→Shared→Prop} {Q:Unit→Shared→Prop}
end
section
variable {X:Cx} {k:Nat} {f:Addr} {fd:FuncData} {ps:List Str} {sp:Sp} {x:Str} {p pos:Pos} {e:Expr} {es:List Expr} {t:TA}
end
end L2
namespace L2
open PySem PySem.Spec PyProof.Rows
noncomputable abbrev bmV:List Value:=[.type "ValueError",.type "Exception",.type "BaseException",.type "object"]
noncomputable def AmH (es:Array DictEntry):Bool:=es.toList.all fun e=>match e.key with | .str _ _=>true | _=>false
structure XC (K:PySem.W.Frag) (C F:Addr):Prop where
 obj:∃ nm q N bs sn sub ab col dd k0 k1 k2 k3 k5,K.lookup C=some (excClassObj nm q C N bs (.ref F :: bmV) true sn sub ab col dd k0 k1 k2 k3 k5 "ValueError.__new__")
 tail:∃ c0 dd cd sl oc od es ep sl',K.lookup F=some ⟨c0,dd,.cls cd,sl⟩∧K.lookup cd.ns=some ⟨oc,od,.dict es ep,sl'⟩∧AmH es=true∧nsFind es "__init__"=none
 sa:PySem.W.findIn K (.ref C) "__setattr__"=some (some (.builtin "object.__setattr__"))
 ga:PySem.W.findIn K (.ref C) "__getattribute__"=some (some (.builtin "BaseException.__getattribute__"))
 gh:PySem.W.findIn K (.ref C) "__getattr__"=some none
 cl:PySem.W.findIn K (.ref C) "__class__"=some (some (.builtin "object.__class__"))
 gg:PySem.W.specialIn K (.builtin "object.__class__") "__get__"=some (some (.builtin "getset_descriptor.__get__"))
 gt:PySem.W.takesIn K (.builtin "object.__class__")=some true
section
variable {prog:Program} {w:World} {A:Around} {E:Value→Shared→Prop} {s:Shared} {K:PySem.W.Frag} {C U fI:Addr} {rest:List Value}
end
end L2
namespace L2
open PySem PySem.Spec PyProof.Rows PySem.W PySem.Builtin PySem.Builtin.ObjectAttr
section
variable {prog:Program} {w:World} {A:Around} {E:Value→Shared→Prop} {s:Shared} {K:PySem.W.Frag} {C U x:Addr} {name:Str} {v:Value}
end
end L2
namespace L2
open PySem PySem.Spec PyProof.Rows PySem.W PySem.Builtin PySem.Builtin.ObjectAttr
section
variable {prog:Program} {w:World} {A:Around} {E:Value→Shared→Prop} {s:Shared} {K:PySem.W.Frag} {C U x:Addr} {name:Str} {v:Value} {ox:Obj} {od:Option Obj}
end
end L2
namespace L2
open PySem PySem.Spec PyProof.Rows PySem.SeqAt
inductive Dt where
 | non | bl (b:Bool) | int (i:Int) | str (x:Str) | tup (ds:List Dt) | lst (ds:List Dt) | fn (a:Addr)
  | exc (c:Str) (ns:List Str) (ds:List Dt)
  | obj (c:Str) (ns:List Str) (ds:List Dt)
noncomputable def LsD (K:PySem.W.Frag) (H:Hp) (a:Addr) (xs:List V):Prop:=H a=some (.lst xs)∨(SqL K H a xs∧∀ x∈xs,∃ i:Int,x=.int i)
theorem LsD.sq {K:PySem.W.Frag} {H:Hp} {a:Addr} {xs:List V} (h:LsD K H a xs):SqL K H a xs:=by
 rcases h with h | ⟨h,_⟩
 ·exact SqL.of h
 ·exact h
theorem LsD.mono {K:PySem.W.Frag} {H H':Hp} {a:Addr} {xs:List V} (s:Same H H') (h:LsD K H a xs):LsD K H' a xs:=by
 rcases h with h | ⟨h,q⟩
 ·exact .inl (s _ _ h)
 ·exact .inr ⟨s.seq h,q⟩
mutual
noncomputable def Rp (K:PySem.W.Frag) (H:Hp):Dt→V→Prop
 | .non,v=>v=.non
 | .bl b,v=>v=.bl b
 | .int i,v=>v=.int i
 | .str x,v=>v=.str x
 | .fn a,v=>v=.ref a
 | .exc c ns ds,v=>∃ a C U dx vs,v=.ref a∧PySem.W.nsIn K mainGlobals c=some (some (.ref C))∧XC K C U∧H a=some (.ext (exO a C dx))∧H dx=some (.xd (ns.zip vs))∧ns.length=ds.length∧RpL K H ds vs
 | .obj c ns ds,v=>∃ a C dx vs,v=.ref a∧PySem.W.nsIn K mainGlobals c=some (some (.ref C))∧Cls K C∧H a=some (.ins C dx (ns.zip vs))∧ns.length=ds.length∧RpL K H ds vs
 | .tup ds,v=>∃ a xs,v=.ref a∧SqT K H a xs∧RpL K H ds xs
 | .lst ds,v=>∃ a xs,v=.ref a∧LsD K H a xs∧RpL K H ds xs
noncomputable def RpL (K:PySem.W.Frag) (H:Hp):List Dt→List V→Prop
 | [],xs=>xs=[]
 | d :: ds,xs=>∃ v r,xs=v :: r∧Rp K H d v∧RpL K H ds r
end
theorem Same.seqT {K:PySem.W.Frag} {H H':Hp} {a:Addr} {xs:List V} (e:Same H H') (h:SqT K H a xs):SqT K H' a xs:=by
 rcases h with (h | ⟨o,h⟩) | h
 ·exact .inl (.inl (e _ _ h))
 ·exact .inl (.inr ⟨o,e _ _ h⟩)
 ·exact .inr h
mutual
theorem Rp.mono {K:PySem.W.Frag} {H H':Hp} (s:Same H H'):∀ {d:Dt} {v:V},Rp K H d v→Rp K H' d v
 | .non,_,h=>by unfold Rp at h ⊢;exact h
 | .bl _,_,h=>by unfold Rp at h ⊢;exact h
 | .int _,_,h=>by unfold Rp at h ⊢;exact h
 | .str _,_,h=>by unfold Rp at h ⊢;exact h
 | .fn _,_,h=>by unfold Rp at h ⊢;exact h
 | .exc _ _ _,_,h=>by
  unfold Rp at h ⊢
  obtain ⟨a,C,U,dx,vs,e,q,x,h1,h2,l,r⟩:=h
  exact ⟨a,C,U,dx,vs,e,q,x,s _ _ h1,s _ _ h2,l,RpL.mono s r⟩
 | .obj _ _ _,_,h=>by
  unfold Rp at h ⊢
  obtain ⟨a,C,dx,vs,e,q,x,h1,l,r⟩:=h
  exact ⟨a,C,dx,vs,e,q,x,s _ _ h1,l,RpL.mono s r⟩
 | .tup ds,_,h=>by
  unfold Rp at h ⊢
  obtain ⟨a,xs,e,q,r⟩:=h
  exact ⟨a,xs,e,s.seqT q,RpL.mono s r⟩
 | .lst ds,_,h=>by
  unfold Rp at h ⊢
  obtain ⟨a,xs,e,q,r⟩:=h
  exact ⟨a,xs,e,q.mono s,RpL.mono s r⟩
theorem RpL.mono {K:PySem.W.Frag} {H H':Hp} (s:Same H H'):∀ {ds:List Dt} {vs:List V},RpL K H ds vs→RpL K H' ds vs
 | [],_,h=>by unfold RpL at h ⊢;exact h
 | d :: ds,_,h=>by
  unfold RpL at h ⊢
  obtain ⟨v,r,e,q,p⟩:=h
  exact ⟨v,r,e,Rp.mono s q,RpL.mono s p⟩
end
section
variable {K:PySem.W.Frag} {H:Hp}
theorem Jt {v:V}:Rp K H .non v↔v=.non:=by unfold Rp;exact Iff.rfl
theorem Cw {b:Bool} {v:V}:Rp K H (.bl b) v↔v=.bl b:=by unfold Rp;exact Iff.rfl
theorem Bb {i:Int} {v:V}:Rp K H (.int i) v↔v=.int i:=by unfold Rp;exact Iff.rfl
theorem N8 {x:Str} {v:V}:Rp K H (.str x) v↔v=.str x:=by unfold Rp;exact Iff.rfl
theorem AfB {a:Addr} {v:V}:Rp K H (.fn a) v↔v=.ref a:=by unfold Rp;exact Iff.rfl
theorem AcN {c:Str} {ns:List Str} {ds:List Dt} {v:V}:Rp K H (.exc c ns ds) v↔∃ a C U dx vs,v=.ref a∧PySem.W.nsIn K mainGlobals c=some (some (.ref C))∧XC K C U∧H a=some (.ext (exO a C dx))∧H dx=some (.xd (ns.zip vs))∧ns.length=ds.length∧RpL K H ds vs:=by rw [Rp]
theorem QT {c:Str} {ns:List Str} {ds:List Dt} {v:V}:Rp K H (.obj c ns ds) v↔∃ a C dx vs,v=.ref a∧PySem.W.nsIn K mainGlobals c=some (some (.ref C))∧Cls K C∧H a=some (.ins C dx (ns.zip vs))∧ns.length=ds.length∧RpL K H ds vs:=by rw [Rp]
theorem CW {ds:List Dt} {v:V}:Rp K H (.tup ds) v↔∃ a xs,v=.ref a∧SqT K H a xs∧RpL K H ds xs:=by rw [Rp]
theorem Uz {ds:List Dt} {v:V}:Rp K H (.lst ds) v↔∃ a xs,v=.ref a∧LsD K H a xs∧RpL K H ds xs:=by rw [Rp]
theorem M9 {ds:List Dt} {v:V} (h:∃ a xs,v=.ref a∧H a=some (.lst xs)∧RpL K H ds xs):Rp K H (.lst ds) v:=let ⟨a,xs,e,h1,h2⟩:=h;Uz.mpr ⟨a,xs,e,.inl h1,h2⟩
theorem Fb {ds:List Dt} {v:V} (h:Rp K H (.lst ds) v):∃ a xs,v=.ref a∧SqL K H a xs∧RpL K H ds xs:=let ⟨a,xs,e,h1,h2⟩:=Uz.mp h;⟨a,xs,e,h1.sq,h2⟩
theorem Adc {ns:List Int} {a:Addr} (h:SqL K H a (ns.map V.int)) (r:RpL K H (ns.map Dt.int) (ns.map V.int)):Rp K H (.lst (ns.map Dt.int)) (.ref a):=Uz.mpr ⟨a,_,rfl,.inr ⟨h,fun x hx=>by obtain ⟨i,_,rfl⟩:=List.mem_map.mp hx;exact ⟨i,rfl⟩⟩,r⟩
theorem BJ {vs:List V}:RpL K H [] vs↔vs=[]:=by rw [RpL]
theorem Bc {d:Dt} {ds:List Dt} {vs:List V}:RpL K H (d :: ds) vs↔∃ v r,vs=v :: r∧Rp K H d v∧RpL K H ds r:=by rw [RpL]
theorem RpL.nil:RpL K H [] []:=BJ.mpr rfl
theorem RpL.cons {d:Dt} {ds:List Dt} {v:V} {vs:List V} (h:Rp K H d v) (r:RpL K H ds vs):RpL K H (d :: ds) (v :: vs):=Bc.mpr ⟨v,vs,rfl,h,r⟩
theorem RpL.len:∀ {ds:List Dt} {vs:List V},RpL K H ds vs→vs.length=ds.length
 | [],_,h=>by rw [BJ.mp h];rfl
 | d :: ds,_,h=>by
  obtain ⟨v,r,rfl,_,p⟩:=Bc.mp h
  simp [RpL.len p]
theorem RpL.get:∀ {ds:List Dt} {vs:List V} {i:Nat} {d:Dt},RpL K H ds vs→ds[i]? = some d→∃ v,vs[i]? = some v∧Rp K H d v
 | [],_,_,_,_,e=>by simp at e
 | d :: ds,_,0,_,h,e=>by
  obtain ⟨v,r,rfl,q,p⟩:=Bc.mp h
  simp at e;subst e
  exact ⟨v,rfl,q⟩
 | d :: ds,_,i+1,_,h,e=>by
  obtain ⟨v,r,rfl,q,p⟩:=Bc.mp h
  obtain ⟨u,e1,e2⟩:=RpL.get (i:=i) p (by simpa using e)
  exact ⟨u,by simpa using e1,e2⟩
theorem RpL.get':∀ {ds:List Dt} {vs:List V} {i:Nat} {v:V},RpL K H ds vs→vs[i]? = some v→∃ d,ds[i]? = some d∧Rp K H d v
 | [],_,_,_,h,e=>by rw [BJ.mp h] at e;simp at e
 | d :: ds,_,0,_,h,e=>by
  obtain ⟨v,r,rfl,q,p⟩:=Bc.mp h
  simp at e;subst e
  exact ⟨d,rfl,q⟩
 | d :: ds,_,i+1,_,h,e=>by
  obtain ⟨v,r,rfl,q,p⟩:=Bc.mp h
  obtain ⟨u,e1,e2⟩:=RpL.get' (i:=i) p (by simpa using e)
  exact ⟨u,by simpa using e1,e2⟩
theorem RpL.append:∀ {ds es:List Dt} {vs ws:List V},RpL K H ds vs→RpL K H es ws→RpL K H (ds ++ es) (vs ++ ws)
 | [],_,_,_,h,q=>by rw [BJ.mp h];exact q
 | d :: ds,_,_,_,h,q=>by
  obtain ⟨v,r,rfl,a,p⟩:=Bc.mp h
  exact .cons a (RpL.append p q)
theorem RpL.drop:∀ {ds:List Dt} {vs:List V} (n:Nat),RpL K H ds vs→RpL K H (ds.drop n) (vs.drop n)
 | _,_,0,h=>by simpa using h
 | [],_,n+1,h=>by rw [BJ.mp h];simpa using RpL.nil
 | d :: ds,_,n+1,h=>by
  obtain ⟨v,r,rfl,a,p⟩:=Bc.mp h
  simpa using RpL.drop n p
theorem RpL.take:∀ {ds:List Dt} {vs:List V} (n:Nat),RpL K H ds vs→RpL K H (ds.take n) (vs.take n)
 | _,_,0,h=>by simpa using RpL.nil
 | [],_,n+1,h=>by rw [BJ.mp h];simpa using RpL.nil
 | d :: ds,_,n+1,h=>by
  obtain ⟨v,r,rfl,a,p⟩:=Bc.mp h
  simpa using RpL.cons a (RpL.take n p)
theorem RpL.ints:∀ (ns:List Int),RpL K H (ns.map Dt.int) (ns.map V.int)
 | []=>RpL.nil
 | _ :: ns=>RpL.cons (Bb.mpr rfl) (RpL.ints ns)
end
noncomputable def mask (O:List Addr) (H:Hp):Hp:=fun a=>if a∈O then none else H a
theorem Dp {O:List Addr} {H:Hp} {a:Addr} (h:a∈O):mask O H a=none:=if_pos h
theorem Bl {O:List Addr} {H:Hp} {a:Addr} (h:a∉O):mask O H a=H a:=if_neg h
theorem Ek {O:List Addr} {H:Hp} {a:Addr} {o:HO} (h:mask O H a=some o):a∉O∧H a=some o:=by
 by_cases q:a∈O
 ·rw [Dp q] at h;cases h
 ·rw [Bl q] at h;exact ⟨q,h⟩
theorem Bu {O:List Addr} {H:Hp}:Same (mask O H) H:=fun _ _ h=>(Ek h).2
theorem Same.mask {O:List Addr} {H H':Hp} (s:Same H H'):Same (mask O H) (L2.mask O H'):=fun a o h=>by
 obtain ⟨q,e⟩:=Ek h
 rw [Bl q];exact s a o e
theorem HF {O O':List Addr} {H:Hp} (h:∀ a∈O',a∈O):Same (mask O H) (mask O' H):=fun a o e=>by
 obtain ⟨q,e⟩:=Ek e
 rw [Bl fun z=>q (h a z)];exact e
theorem Same.upd {H:Hp} {p:Addr} {o:HO} (h:H p=none):Same H (L2.upd H p o):=fun a u e=>by
 rw [Bp (Dr e h)];exact e
noncomputable def tabAt (a:Addr) (xs:List (List Key × Addr × Value)) (h:Heap):Prop:=(a == sysModules)=false∧∃ (P:Program) (w:World) (o:Obj) (es:Array DictEntry) (ep:Nat),h.get? a=some o∧o.ExactDict∧o.data=.dict es ep∧es.toList=xs.map (entryOfKey (tupleKind (Ub P w)))∧(xs.map (·.1)).Nodup
noncomputable def AeN (K:PySem.W.Frag) (H:Hp) (ks:List (List Int)) (xs:List (List Key × Addr × Value)):Prop:=xs.map (·.1)=ks.map (·.map Sum.inl)∧∀ x∈xs,SqT K H x.2.1 (x.1.map kV)
theorem AeN.mono {K:PySem.W.Frag} {H H':Hp} {ks:List (List Int)} {xs:List (List Key × Addr × Value)} (s:Same H H') (h:AeN K H ks xs):AeN K H' ks xs:=⟨h.1,fun x hx=>s.seqT (h.2 x hx)⟩
inductive En where
 | is (d:Dt) | own (ds:List Dt) | tab (ks:List (List Int))
noncomputable abbrev Cj:=List (Option En)
noncomputable abbrev DTE:=Cj→(Dt→Prop)→Prop
noncomputable abbrev DTT:=Cj→(Bool→Prop)→Prop
noncomputable abbrev DTA:=Cj→(List Dt→Prop)→Prop
structure GX where
 nx:Cj→Prop
 rt:Dt→Prop
 bk:Cj→Prop:=fun _=>False
 ct:Cj→Prop:=fun _=>False
noncomputable abbrev DTS:=GX→Cj→Prop
structure Rep (K:PySem.W.Frag) (B:Hp) (F O:List Addr) (H:Hp) (σ:St) (ρ:Cj):Prop where
 len:σ.length=ρ.length
 base:Same B H
 fr:∀ a∈O,B a=none
 th:∀ a∈F ++ O,H a≠none
 is:∀ (i:Nat) (d:Dt),ρ[i]? = some (some (.is d))→∃ v,σ[i]? = some (some v)∧Rp K (mask (F ++ O) H) d v
 own:∀ (i:Nat) (ds:List Dt),ρ[i]? = some (some (.own ds))→∃ a xs,σ[i]? = some (some (.ref a))∧a∈O∧a∉F∧H a=some (.lst xs)∧RpL K (mask (F ++ O) H) ds xs
 inj:∀ (i j:Nat) (ds es:List Dt) (a:Addr),ρ[i]? = some (some (.own ds))→ρ[j]? = some (some (.own es))→σ[i]? = some (some (.ref a))→σ[j]? = some (some (.ref a))→i=j
 tab:∀ (i:Nat) (ks:List (List Int)),ρ[i]? = some (some (.tab ks))→∃ a xs,σ[i]? = some (some (.ref a))∧a∈O∧a∉F∧H a=some (.ext (tabAt a xs))∧AeN K (mask (F ++ O) H) ks xs
 tinj:∀ (i j:Nat) (ks ls:List (List Int)) (a:Addr),ρ[i]? = some (some (.tab ks))→ρ[j]? = some (some (.tab ls))→σ[i]? = some (some (.ref a))→σ[j]? = some (some (.ref a))→i=j
section
variable {K:PySem.W.Frag} {B:Hp} {F O:List Addr} {H H':Hp} {σ:St} {ρ:Cj}
theorem Rep.same (r:Rep K B F O H σ ρ) (s:Same H H'):Rep K B F O H' σ ρ where
 len:=r.len
 base:=r.base.trans s
 fr:=r.fr
 th:=fun a h e=>by
  have:=r.th a h
  cases q:H a with
  | none=>exact this q
  | some o=>rw [s a o q] at e;cases e
 is:=fun i d e=>let ⟨v,h1,h2⟩:=r.is i d e;⟨v,h1,h2.mono s.mask⟩
 own:=fun i ds e=>let ⟨a,xs,h1,h2,h3,h4,h5⟩:=r.own i ds e;⟨a,xs,h1,h2,h3,s _ _ h4,h5.mono s.mask⟩
 inj:=r.inj
 tab:=fun i ks e=>let ⟨a,xs,h1,h2,h3,h4,h5⟩:=r.tab i ks e;⟨a,xs,h1,h2,h3,s _ _ h4,h5.mono s.mask⟩
 tinj:=r.tinj
theorem Rep.below (r:Rep K B F O H σ ρ):Same (mask F B) (mask (F ++ O) H):=fun a o e=>by
 obtain ⟨q,e⟩:=Ek e
 rw [Bl]
 ·exact r.base a o e
 ·intro z
  rcases List.mem_append.mp z with z | z
  ·exact q z
  ·rw [r.fr a z] at e;cases e
theorem Rep.set (r:Rep K B F O H σ ρ) (i:Nat) {d:Dt} {v:V} (h:Rp K (mask (F ++ O) H) d v):Rep K B F O H (σ.set i (some v)) (ρ.set i (some (.is d))):=by
 have hl:=r.len
 have back:∀ (j:Nat) (ds:En),(∀ z,ds≠.is z)→(ρ.set i (some (.is d)))[j]? = some (some ds)→j≠i∧ρ[j]? = some (some ds):=fun j ds nz e=>by
  by_cases hj:j=i
  ·subst hj
   by_cases hk:j < ρ.length
   ·rw [List.getElem?_set_self hk] at e;cases e;exact (nz d rfl).elim
   ·rw [List.getElem?_eq_none (by simpa using hk)] at e;cases e
  ·rw [List.getElem?_set_ne (Ne.symm hj)] at e;exact ⟨hj,e⟩
 refine ⟨by simpa using hl,r.base,r.fr,r.th,fun j e q=>?_,fun j ds q=>?_,fun j k ds es a h1 h2 h3 h4=>?_,fun j ks q=>?_,fun j k ds es a h1 h2 h3 h4=>?_⟩
 ·by_cases hj:j=i
  ·subst hj
   by_cases hk:j < ρ.length
   ·rw [List.getElem?_set_self hk] at q
    cases q
    exact ⟨v,List.getElem?_set_self (by omega),h⟩
   ·rw [List.getElem?_eq_none (by simpa using hk)] at q;cases q
  ·rw [List.getElem?_set_ne (Ne.symm hj)] at q ⊢
   exact r.is j e q
 ·obtain ⟨hj,q⟩:=back j _ (fun _ z=>by cases z) q
  rw [List.getElem?_set_ne (Ne.symm hj)]
  exact r.own j ds q
 ·obtain ⟨hj,q1⟩:=back j _ (fun _ z=>by cases z) h1
  obtain ⟨hk,q2⟩:=back k _ (fun _ z=>by cases z) h2
  rw [List.getElem?_set_ne (Ne.symm hj)] at h3
  rw [List.getElem?_set_ne (Ne.symm hk)] at h4
  exact r.inj j k ds es a q1 q2 h3 h4
 ·obtain ⟨hj,q⟩:=back j _ (fun _ z=>by cases z) q
  rw [List.getElem?_set_ne (Ne.symm hj)]
  exact r.tab j ks q
 ·obtain ⟨hj,q1⟩:=back j _ (fun _ z=>by cases z) h1
  obtain ⟨hk,q2⟩:=back k _ (fun _ z=>by cases z) h2
  rw [List.getElem?_set_ne (Ne.symm hj)] at h3
  rw [List.getElem?_set_ne (Ne.symm hk)] at h4
  exact r.tinj j k ds es a q1 q2 h3 h4
end
noncomputable def lE (K:PySem.W.Frag) (t:DTE):TE:=fun σ H Q=>∃ B F O ρ,Rep K B F O H σ ρ∧t ρ fun d=>∀ v H',Same H H'→Rp K (mask (F ++ O) H') d v→Q v H'
noncomputable def lT (K:PySem.W.Frag) (t:DTT):TT:=fun σ H Q=>∃ B F O ρ,Rep K B F O H σ ρ∧t ρ fun b=>∀ H',Same H H'→Q b H'
noncomputable def lA (K:PySem.W.Frag) (t:DTA):TA:=fun σ H Q=>∃ B F O ρ,Rep K B F O H σ ρ∧t ρ fun ds=>∀ vs H',Same H H'→RpL K (mask (F ++ O) H') ds vs→Q vs H'
noncomputable def lD (K:PySem.W.Frag) (B:Hp) (F:List Addr) (D:Ends):GX where
 nx:=fun ρ'=>∀ O' σ' H',Rep K B F O' H' σ' ρ'→D.nx σ' H'
 rt:=fun d=>∀ v H',Same B H'→Rp K (mask F H') d v→D.rt v H'
 bk:=fun ρ'=>∀ O' σ' H',Rep K B F O' H' σ' ρ'→D.bk σ' H'
 ct:=fun ρ'=>∀ O' σ' H',Rep K B F O' H' σ' ρ'→D.ct σ' H'
noncomputable def lS (K:PySem.W.Frag) (t:DTS):TS:=fun D σ H=>∃ B F O ρ,Rep K B F O H σ ρ∧t (lD K B F D) ρ
structure GX.le (D D':GX):Prop where
 nx:∀ ρ,D.nx ρ→D'.nx ρ
 rt:∀ d,D.rt d→D'.rt d
 bk:∀ ρ,D.bk ρ→D'.bk ρ
 ct:∀ ρ,D.ct ρ→D'.ct ρ
structure DE (X:Cx) (e:Expr) (t:DTE):Prop where
 mono:∀ {ρ Q Q'},(∀ d,Q d→Q' d)→t ρ Q→t ρ Q'
 pe:PE X e (lE X.K t)
structure DT (X:Cx) (e:Expr) (t:DTT):Prop where
 mono:∀ {ρ Q Q'},(∀ d,Q d→Q' d)→t ρ Q→t ρ Q'
 pt:PT X e (lT X.K t)
structure DA (X:Cx) (es:List Expr) (t:DTA):Prop where
 mono:∀ {ρ Q Q'},(∀ d,Q d→Q' d)→t ρ Q→t ρ Q'
 pa:PA X es (lA X.K t)
structure DS (X:Cx) (st:Stmt) (t:DTS):Prop where
 mono:∀ {ρ D D'},GX.le D D'→t D ρ→t D' ρ
 ps:PS X st (lS X.K t)
structure DSs (X:Cx) (st:List Stmt) (t:DTS):Prop where
 mono:∀ {ρ D D'},GX.le D D'→t D ρ→t D' ρ
 ps:PSs X st (lS X.K t)
theorem PE.imp {X:Cx} {e:Expr} {t t':TE} (h:PE X e t) (i:∀ σ H Q,t' σ H Q→t σ H Q):PE X e t':=fun pins s σ H Q I q=>h pins s σ H Q I (i _ _ _ q)
theorem PT.imp {X:Cx} {e:Expr} {t t':TT} (h:PT X e t) (i:∀ σ H Q,t' σ H Q→t σ H Q):PT X e t':=fun pins s σ H Q I q=>h pins s σ H Q I (i _ _ _ q)
theorem PA.imp {X:Cx} {e:List Expr} {t t':TA} (h:PA X e t) (i:∀ σ H Q,t' σ H Q→t σ H Q):PA X e t':=fun pos pins s σ H Q I q=>h pos pins s σ H Q I (i _ _ _ q)
theorem PS.imp {X:Cx} {e:Stmt} {t t':TS} (h:PS X e t) (i:∀ D σ H,t' D σ H→t D σ H):PS X e t':=fun pins s σ H D I q=>h pins s σ H D I (i _ _ _ q)
theorem PSs.imp {X:Cx} {e:List Stmt} {t t':TS} (h:PSs X e t) (i:∀ D σ H,t' D σ H→t D σ H):PSs X e t':=fun pins s σ H D I q=>h pins s σ H D I (i _ _ _ q)
section
variable {X:Cx} {a b c e:Expr} {es:List Expr} {ta tb tc te:DTE} {tA tB:DTT} {tl:DTA} {pos:Pos}
noncomputable def AeU (i:Nat):DTE:=fun ρ Q=>match ρ[i]? with
 | some (some (.is d))=>Q d
 | _=>False
noncomputable def dC (d:Dt):DTE:=fun _ Q=>Q d
theorem dv (i:Nat) {x:Str} {pos:Pos} (hN:X.N[i]? = some x:=by rfl) (hv:Vis X.env.scope x:=by first | exact Or.inl rfl | exact Or.inr (Or.inl rfl) | exact Or.inr (Or.inr rfl)) (hd:(x == ("__debug__":Str))=false:=by decide)
  (hcd:(x == ("__classdict__":Str))=false:=by decide):DE X (.Name x pos) (AeU i) where
 mono:=fun {ρ Q Q'} hq h=>by
  unfold AeU at h ⊢
  split at h
  ·exact hq _ h
  ·exact h.elim
 pe:=(Kp hN hv hd hcd).imp fun σ H Q ⟨B,F,O,ρ,r,h⟩=>by
  unfold AeU at h
  split at h
  ·rename_i d e
   obtain ⟨v,h1,h2⟩:=r.is i d e
   exact ⟨v,h1,h v H (Same.refl H) h2⟩
  ·exact h.elim
theorem Ae1 {v:V} {d:Dt} (h:PE X e (tC v)) (hr:∀ K H,Rp K H d v):DE X e (dC d) where
 mono:=fun hq h=>hq _ h
 pe:=h.imp fun σ H Q ⟨B,F,O,ρ,r,h⟩=>h v H (Same.refl H) (hr _ _)
theorem Ac {i j pos}:DE X (.Constant (.int i) j pos) (dC (.int i)):=Ae1 AgA fun _ _=>Bb.mpr rfl
theorem KY {i j pos}:DE X (.Constant (.bool i) j pos) (dC (.bl i)):=Ae1 AjJ fun _ _=>Cw.mpr rfl
theorem Qx {j pos}:DE X (.Constant .none j pos) (dC .non):=Ae1 Ag2 fun _ _=>Jt.mpr rfl
theorem Kl {x j pos}:DE X (.Constant (.str x) j pos) (dC (.str x)):=Ae1 Ag4 fun _ _=>N8.mpr rfl
theorem Kq {x:Str} {v:V} {u:Value} {d:Dt} {pos:Pos} (hg:Gl X x) (hm:X.mg x=some u) (r:RelV v u) (hr:∀ H,Rp X.K H d v) (hd:(x == ("__debug__":Str))=false:=by decide):DE X (.Name x pos) (dC d) where
 mono:=fun hq h=>hq _ h
 pe:=(Yx hg hm r hd).imp fun σ H Q ⟨B,F,O,ρ,_,h⟩=>h v H (Same.refl H) (hr _)
noncomputable abbrev D2:=Dt→Dt→(Dt→Prop)→Prop
structure Jp (K:PySem.W.Frag) (r:R2) (t:D2):Prop where
 mono:∀ {a b Q Q'},(∀ d,Q d→Q' d)→t a b Q→t a b Q'
 ok:∀ (O:List Addr) (H:Hp) (a b:Dt) (x y:V) (Q:VK),(∀ p∈O,H p≠none)→Rp K (mask O H) a x→Rp K (mask O H) b y →
  t a b (fun d=>∀ v H',Same H H'→Rp K (mask O H') d v→Q v H')→r x y H Q
noncomputable def dOp (t:D2) (ta tb:DTE):DTE:=fun ρ Q=>ta ρ fun a=>tb ρ fun b=>t a b Q
theorem Ut {K:PySem.W.Frag} {r:R2} {t:D2} (S:Jp K r t) {ta tb:DTE} (ma:∀ {ρ Q Q'},(∀ d,Q d→Q' d)→ta ρ Q→ta ρ Q') (mb:∀ {ρ Q Q'},(∀ d,Q d→Q' d)→tb ρ Q→tb ρ Q')
  (σ:St) (H:Hp) (Q:VK) (h:lE K (dOp t ta tb) σ H Q):tOp r (lE K ta) (lE K tb) σ H Q:=by
 obtain ⟨B,F,O,ρ,R,h⟩:=h
 refine ⟨B,F,O,ρ,R,ma (fun a h v H1 s1 r1=>?_) h⟩
 refine ⟨B,F,O,ρ,R.same s1,mb (fun b h u H2 s2 r2=>?_) h⟩
 exact S.ok _ H2 a b v u Q ((R.same s1).same s2).th (r1.mono s2.mask) r2 (S.mono (fun d q w H3 s3 r3=>q w H3 ((s1.trans s2).trans s3) r3) h)
theorem Km {t:D2} (m:∀ {a b Q Q'},(∀ d,Q d→Q' d)→t a b Q→t a b Q') (ma:∀ {ρ Q Q'},(∀ d,Q d→Q' d)→ta ρ Q→ta ρ Q') (mb:∀ {ρ Q Q'},(∀ d,Q d→Q' d)→tb ρ Q→tb ρ Q') :
  ∀ {ρ Q Q'},(∀ d,Q d→Q' d)→dOp t ta tb ρ Q→dOp t ta tb ρ Q':=fun hq h=>ma (fun _ h=>mb (fun _ h=>m hq h) h) h
theorem Qw {op:Operator} {r:R2} {t:D2} (ho:OpR X (binaryOp op) r) (S:Jp X.K r t) (ha:DE X a ta) (hb:DE X b tb):DE X (.BinOp a op b pos) (dOp t ta tb) where
 mono:=Km (t:=t) (ta:=ta) (tb:=tb) S.mono ha.mono hb.mono
 pe:=(Ajm ho ha.pe hb.pe).imp (Ut (ta:=ta) (tb:=tb) S ha.mono hb.mono)
theorem TV {op:CmpOp} {r:R2} {t:D2} (ho:OpR X (compareOp op) r) (S:Jp X.K r t) (ha:DE X a ta) (hb:DE X b tb) (hm:behindInMarks op b=false):DE X (.Compare a [op] [b] pos) (dOp t ta tb) where
 mono:=Km (t:=t) (ta:=ta) (tb:=tb) S.mono ha.mono hb.mono
 pe:=(Adl ho ha.pe hb.pe hm).imp (Ut (ta:=ta) (tb:=tb) S ha.mono hb.mono)
theorem Aji {r:R2} {t:D2} (ho:IxR X r) (S:Jp X.K r t) (ha:DE X a ta) (hb:DE X b tb) (hs:PL b):DE X (.Subscript a b pos) (dOp t ta tb) where
 mono:=Km (t:=t) (ta:=ta) (tb:=tb) S.mono ha.mono hb.mono
 pe:=(Ae9 ho ha.pe hb.pe hs).imp (Ut (ta:=ta) (tb:=tb) S ha.mono hb.mono)
noncomputable def dI (C:Int→Int→Prop) (g:Int→Int→Int):D2:=fun a b Q=>match a,b with
 | .int i,.int j=>C i j∧Q (.int (g i j))
 | _,_=>False
noncomputable def dI0 (g:Int→Int→Int):D2:=fun a b Q=>match a,b with
 | .int i,.int j=>Q (.int (g i j))
 | _,_=>False
noncomputable def dB0 (g:Int→Int→Bool):D2:=fun a b Q=>match a,b with
 | .int i,.int j=>Q (.bl (g i j))
 | _,_=>False
theorem V3 {K:PySem.W.Frag} {C:Int→Int→Prop} {g:Int→Int→Int}:Jp K (rI C fun i j=>.int (g i j)) (dI C g) where
 mono:=fun {a b Q Q'} hq h=>by
  unfold dI at h ⊢
  split at h
  ·exact ⟨h.1,hq _ h.2⟩
  ·exact h.elim
 ok:=fun O H a b x y Q _ ra rb h=>by
  unfold dI at h
  split at h
  ·exact ⟨_,_,Bb.mp ra,Bb.mp rb,h.1,h.2 _ H (Same.refl H) (Bb.mpr rfl)⟩
  ·exact h.elim
theorem Aaz {K:PySem.W.Frag} {g:Int→Int→Int}:Jp K (rI0 fun i j=>.int (g i j)) (dI0 g) where
 mono:=fun {a b Q Q'} hq h=>by
  unfold dI0 at h ⊢
  split at h
  ·exact hq _ h
  ·exact h.elim
 ok:=fun O H a b x y Q _ ra rb h=>by
  unfold dI0 at h
  split at h
  ·exact ⟨_,_,Bb.mp ra,Bb.mp rb,h _ H (Same.refl H) (Bb.mpr rfl)⟩
  ·exact h.elim
theorem GK {K:PySem.W.Frag} {g:Int→Int→Bool}:Jp K (rI0 fun i j=>.bl (g i j)) (dB0 g) where
 mono:=fun {a b Q Q'} hq h=>by
  unfold dB0 at h ⊢
  split at h
  ·exact hq _ h
  ·exact h.elim
 ok:=fun O H a b x y Q _ ra rb h=>by
  unfold dB0 at h
  split at h
  ·exact ⟨_,_,Bb.mp ra,Bb.mp rb,h _ H (Same.refl H) (Cw.mpr rfl)⟩
  ·exact h.elim
theorem Aeh:OpR X (binaryOp .Mult) (rI IntMulOk fun i j=>.int (i*j)):=opI fun _ _ _ _ _ _ _ hc q=>mul_int q hc
noncomputable def CDv (_ j:Int):Prop:=j≠0∧j.natAbs < 2 ^ 9000
theorem log2_small {n:Nat} (h:n < 2 ^ 9000):n.log2 < 9000:=by
 by_cases h0:n=0
 ·subst h0;decide +kernel
 ·exact (Nat.log2_lt h0).mpr h
theorem AaD:OpR X (binaryOp .FloorDiv) (rI CDv fun i j=>.int (i.fdiv j)):=opI fun _ _ _ _ _ _ _ hc q=>floordiv_int hc.1 q (.inl (PyProof.noPylong_of_log2 (log2_small hc.2)))
noncomputable def Alq:D2:=dI0 fun i j=>i+j
noncomputable def Ak5:D2:=dI0 fun i j=>i - j
noncomputable def AlW:D2:=dI IntMulOk fun i j=>i*j
noncomputable def Ajv:D2:=dI (fun _ j=>j≠0) fun i j=>i.fmod j
noncomputable def AiM:D2:=dI CDv fun i j=>i.fdiv j
noncomputable def Aiv:D2:=dI Yi fun i j=>i ^ j.toNat
noncomputable def Ali:D2:=dI Yi fun i j=>i*2 ^ j.toNat
noncomputable def Ank:D2:=dI (fun _ j=>0≤j) fun i j=>i / 2 ^ j.toNat
theorem Bm (ha:DE X a ta) (hb:DE X b tb):DE X (.BinOp a .Add b pos) (dOp Alq ta tb):=Qw AgR Aaz ha hb
theorem Bv (ha:DE X a ta) (hb:DE X b tb):DE X (.BinOp a .Sub b pos) (dOp Ak5 ta tb):=Qw Ahh Aaz ha hb
theorem Am (ha:DE X a ta) (hb:DE X b tb):DE X (.BinOp a .Mult b pos) (dOp AlW ta tb):=Qw Aeh V3 ha hb
theorem Hw (ha:DE X a ta) (hb:DE X b tb):DE X (.BinOp a .Mod b pos) (dOp Ajv ta tb):=Qw AeW V3 ha hb
theorem Ck (ha:DE X a ta) (hb:DE X b tb):DE X (.BinOp a .FloorDiv b pos) (dOp AiM ta tb):=Qw AaD V3 ha hb
theorem AgQ (ha:DE X a ta) (hb:DE X b tb):DE X (.BinOp a .Pow b pos) (dOp Aiv ta tb):=Qw AgJ V3 ha hb
theorem AaH (ha:DE X a ta) (hb:DE X b tb):DE X (.BinOp a .LShift b pos) (dOp Ali ta tb):=Qw Ag6 V3 ha hb
noncomputable def dLt:D2:=dB0 fun i j=>decide (i < j)
noncomputable def dLe:D2:=dB0 fun i j=>decide (i≤j)
noncomputable def dGt:D2:=dB0 fun i j=>decide (j < i)
noncomputable def dGe:D2:=dB0 fun i j=>decide (j≤i)
theorem AaX (ha:DE X a ta) (hb:DE X b tb):DE X (.Compare a [.Gt] [b] pos) (dOp dGt ta tb):=TV Afm GK ha hb (Hy _)
theorem Alc (ha:DE X a ta) (hb:DE X b tb):DE X (.Compare a [.GtE] [b] pos) (dOp dGe ta tb):=TV Aiu GK ha hb (Hy _)
noncomputable def ixL:Int→List Dt→Option Dt
 | .ofNat n,ds=>ds[n]?
 | .negSucc m,ds=>if m < ds.length then ds[ds.length - 1 - m]? else none
noncomputable def ixD (i:Int):Dt→Option Dt
 | .tup ds=>ixL i ds
 | .lst ds=>ixL i ds
 | _=>none
theorem Xz {i:Int} {ds:List Dt} {d:Dt} (h:ixL i ds=some d):atI ds i=some d:=by
 cases i with
 | ofNat n=>exact Ads h
 | negSucc m =>
  have h':(if m < ds.length then ds[ds.length - 1 - m]? else none)=some d:=h
  by_cases hm:m < ds.length
  ·rw [if_pos hm] at h'
   unfold atI ixN
   have h1:¬ (0:Int)≤Int.negSucc m:=by omega
   have h2:-(ds.length:Int)≤Int.negSucc m:=by omega
   have h3:(Int.negSucc m+(ds.length:Int)).toNat=ds.length - 1 - m:=by omega
   rw [if_neg h1,if_pos h2,Option.bind_some,h3]
   exact h'
  ·rw [if_neg hm] at h';cases h'
noncomputable def dIx:D2:=fun a b Q=>match b with
 | .int i=>match ixD i a with
  | some d=>Q d
  | none=>False
 | _=>False
theorem Ab8 {K:PySem.W.Frag} {H:Hp} {ds:List Dt} {xs:List V} {i:Int} {d:Dt} (r:RpL K H ds xs) (h:atI ds i=some d):∃ v,atI xs i=some v∧Rp K H d v:=by
 unfold atI at h ⊢
 rw [r.len]
 cases e:ixN ds.length i with
 | none=>rw [e] at h;cases h
 | some j =>
  rw [e] at h
  exact r.get h
theorem Ahp {K:PySem.W.Frag}:Jp K (rIx K) dIx where
 mono:=fun {a b Q Q'} hq h=>by
  unfold dIx at h ⊢
  split at h
  ·split at h
   ·rename_i e;exact hq _ h
   ·exact h.elim
  ·exact h.elim
 ok:=fun O H a b x y Q _ ra rb h=>by
  unfold dIx at h
  split at h
  ·split at h
   ·rename_i i _ d e
    have eb:=Bb.mp rb
    subst eb
    cases a with
    | tup ds =>
     obtain ⟨p,xs,rfl,hs,hl⟩:=CW.mp ra
     obtain ⟨v,e1,e2⟩:=Ab8 hl (Xz e)
     exact .inr (.inl ⟨p,xs,i,v,rfl,rfl,Bu.seqT hs,e1,h v H (Same.refl H) e2⟩)
    | lst ds =>
     obtain ⟨p,xs,rfl,hs,hl⟩:=Fb ra
     obtain ⟨v,e1,e2⟩:=Ab8 hl (Xz e)
     exact .inl ⟨p,xs,i,v,rfl,rfl,Bu.seq hs,e1,h v H (Same.refl H) e2⟩
    | _=>cases e
   ·exact h.elim
  ·exact h.elim
theorem Ab (ha:DE X a ta) (hb:DE X b tb) (hs:PL b:=by exact fun _ _=>rfl):DE X (.Subscript a b pos) (dOp dIx ta tb):=Aji AhJ Ahp ha hb hs
noncomputable def AeJ:Dt→(Dt→Prop)→Prop:=fun a Q=>match a with
 | .int i=>Q (.int (-i))
 | _=>False
noncomputable def dUn (t:Dt→(Dt→Prop)→Prop) (ta:DTE):DTE:=fun ρ Q=>ta ρ fun a=>t a Q
theorem DN (ha:DE X a ta):DE X (.UnaryOp .USub a pos) (dUn AeJ ta) where
 mono:=fun hq h=>ha.mono (fun d h=>by
  unfold AeJ at h ⊢
  split at h
  ·exact hq _ h
  ·exact h.elim) h
 pe:=(Ajo Ah0 ha.pe).imp fun σ H Q ⟨B,F,O,ρ,R,h⟩=>⟨B,F,O,ρ,R,ha.mono (fun d h v H1 s1 r1=>by
  unfold AeJ at h
  split at h
  ·exact ⟨_,Bb.mp r1,h _ H1 s1 (Bb.mpr rfl)⟩
  ·exact h.elim) h⟩
noncomputable def AlV (ta:DTE):DTE:=fun ρ Q=>ta ρ fun a=>match a with
 | .bl k=>Q (.bl (!k))
 | _=>False
noncomputable def Ajt (ta tb:DTE):DTE:=fun ρ Q=>ta ρ fun a=>match a with
 | .bl k=>if k=true then tb ρ Q else Q (.bl false)
 | _=>False
noncomputable def dOr (ta tb:DTE):DTE:=fun ρ Q=>ta ρ fun a=>match a with
 | .bl k=>if k=true then Q (.bl true) else tb ρ Q
 | _=>False
theorem Ah2 (ha:DE X a ta):DE X (.UnaryOp .Not a pos) (AlV ta) where
 mono:=fun hq h=>ha.mono (fun d h=>by
  split at h
  ·exact hq _ h
  ·exact h.elim) h
 pe:=(AgU ha.pe).imp fun σ H Q ⟨B,F,O,ρ,R,h⟩=>⟨B,F,O,ρ,R,ha.mono (fun d h v H1 s1 r1=>by
  split at h
  ·exact ⟨_,Cw.mp r1,h _ H1 s1 (Cw.mpr rfl)⟩
  ·exact h.elim) h⟩
theorem N5 {op} (h:DE X a ta):DE X (.BoolOp op [a] pos) ta:=⟨h.mono,Ahw h.pe⟩
theorem Q6 {rest:List Expr} (ha:DE X a ta) (hb:DE X (.BoolOp .And (b :: rest) pos) tb):DE X (.BoolOp .And (a :: b :: rest) pos) (Ajt ta tb) where
 mono:=fun hq h=>ha.mono (fun d h=>by
  split at h
  ·split at h
   ·rename_i e;simp only [e,if_true];exact hb.mono hq h
   ·rename_i e;simp only [e];exact hq _ h
  ·exact h.elim) h
 pe:=(AgZ ha.pe hb.pe).imp fun σ H Q ⟨B,F,O,ρ,R,h⟩=>⟨B,F,O,ρ,R,ha.mono (fun d h v H1 s1 r1=>by
  split at h
  ·rename_i k
   refine ⟨k,Cw.mp r1,?_⟩
   cases k with
   | true=>exact ⟨B,F,O,ρ,R.same s1,hb.mono (fun d q v H2 s2 r2=>q v H2 (s1.trans s2) r2) h⟩
   | false=>exact h _ H1 s1 (Cw.mpr rfl)
  ·exact h.elim) h⟩
theorem AfM {rest:List Expr} (ha:DE X a ta) (hb:DE X (.BoolOp .Or (b :: rest) pos) tb):DE X (.BoolOp .Or (a :: b :: rest) pos) (dOr ta tb) where
 mono:=fun hq h=>ha.mono (fun d h=>by
  split at h
  ·split at h
   ·rename_i e;simp only [e,if_true];exact hq _ h
   ·rename_i e;simp only [e];exact hb.mono hq h
  ·exact h.elim) h
 pe:=(Alm ha.pe hb.pe).imp fun σ H Q ⟨B,F,O,ρ,R,h⟩=>⟨B,F,O,ρ,R,ha.mono (fun d h v H1 s1 r1=>by
  split at h
  ·rename_i k
   refine ⟨k,Cw.mp r1,?_⟩
   cases k with
   | false=>exact ⟨B,F,O,ρ,R.same s1,hb.mono (fun d q v H2 s2 r2=>q v H2 (s1.trans s2) r2) h⟩
   | true=>exact h _ H1 s1 (Cw.mpr rfl)
  ·exact h.elim) h⟩
noncomputable def O2 (t:DTE):DTT:=fun ρ Q=>t ρ fun a=>match a with
 | .bl k=>Q k
 | _=>False
theorem Tc {t:DTE} (m:∀ {ρ Q Q'},(∀ d,Q d→Q' d)→t ρ Q→t ρ Q'):∀ {ρ Q Q'},(∀ d,Q d→Q' d)→O2 t ρ Q→O2 t ρ Q':=fun hq h=>m (fun d h=>by
  split at h
  ·exact hq _ h
  ·exact h.elim) h
theorem Fj (h:DE X e te) (he:∀ whole,isTrue e X.env whole=(do let v ←whole;standAt e.pos;holding [v] (truthy v)):=by intro _;rfl):DT X e (O2 te) where
 mono:=Tc (t:=te) h.mono
 pt:=(Ah1 h.pe he).imp fun σ H Q ⟨B,F,O,ρ,R,q⟩=>⟨B,F,O,ρ,R,h.mono (fun d q v H1 s1 r1=>by
  split at q
  ·exact ⟨_,Cw.mp r1,q H1 s1⟩
  ·exact q.elim) q⟩
theorem K9 {op:CmpOp} {r:R2} {t:D2} (ho:OpR X (compareOp op) r) (S:Jp X.K r t) (ha:DE X a ta) (hb:DE X b tb) (hm:behindInMarks op b=false):DT X (.Compare a [op] [b] pos) (O2 (dOp t ta tb)) where
 mono:=Tc (t:=dOp t ta tb) (Km (t:=t) (ta:=ta) (tb:=tb) S.mono ha.mono hb.mono)
 pt:=(AdC ho ha.pe hb.pe hm).imp fun σ H Q ⟨B,F,O,ρ,R,q⟩=>Ut (ta:=ta) (tb:=tb) S ha.mono hb.mono σ H _ ⟨B,F,O,ρ,R,Km (t:=t) (ta:=ta) (tb:=tb) S.mono ha.mono hb.mono (fun d q v H1 s1 r1=>by
  split at q
  ·exact ⟨_,Cw.mp r1,q H1 s1⟩
  ·exact q.elim) q⟩
theorem M4 (ha:DE X a ta) (hb:DE X b tb):DT X (.Compare a [.Lt] [b] pos) (O2 (dOp dLt ta tb)):=K9 Ab1 GK ha hb (Hy _)
theorem Ain (ha:DE X a ta) (hb:DE X b tb):DT X (.Compare a [.LtE] [b] pos) (O2 (dOp dLe ta tb)):=K9 R6 GK ha hb (Hy _)
theorem V8 (ha:DE X a ta) (hb:DE X b tb):DT X (.Compare a [.Gt] [b] pos) (O2 (dOp dGt ta tb)):=K9 Afm GK ha hb (Hy _)
noncomputable def Afi (t:DTT):DTT:=fun ρ Q=>t ρ fun k=>Q (!k)
noncomputable def Al3 (t u:DTT):DTT:=fun ρ Q=>t ρ fun k=>if k=true then u ρ Q else Q false
noncomputable def AlJ (t u:DTT):DTT:=fun ρ Q=>t ρ fun k=>if k=true then Q true else u ρ Q
theorem Gj (ha:DT X a tA):DT X (.UnaryOp .Not a pos) (Afi tA) where
 mono:=fun hq h=>ha.mono (fun _ h=>hq _ h) h
 pt:=(Agi ha.pt).imp fun σ H Q ⟨B,F,O,ρ,R,q⟩=>⟨B,F,O,ρ,R,q⟩
structure DW (X:Cx) (e:Expr) (t:DTT):Prop where
 mono:∀ {ρ Q Q'},(∀ d,Q d→Q' d)→t ρ Q→t ρ Q'
 pw:PW X e (lT X.K t)
theorem DW.dt {t:DTT} (h:DW X e t):DT X e t:=⟨h.mono,h.pw.pt⟩
theorem Jw (ha:DT X a tA):DW X (.BoolOp .Or [a] pos) tA:=⟨ha.mono,AhQ ha.pt⟩
theorem PW.imp {t t':TT} (h:PW X e t) (i:∀ σ H Q,t' σ H Q→t σ H Q):PW X e t':=fun wh pins s σ H Q I q=>h wh pins s σ H Q I (i _ _ _ q)
theorem G5 {rest:List Expr} (ha:DT X a tA) (hb:DW X (.BoolOp .Or (b :: rest) pos) tB):DW X (.BoolOp .Or (a :: b :: rest) pos) (AlJ tA tB) where
 mono:=fun hq h=>ha.mono (fun k h=>by
  cases k with
  | true=>exact hq _ h
  | false=>exact hb.mono hq h) h
 pw:=(AjK ha.pt hb.pw).imp fun σ H Q ⟨B,F,O,ρ,R,q⟩=>⟨B,F,O,ρ,R,ha.mono (fun k h H1 s1=>by
  cases k with
  | false=>exact ⟨B,F,O,ρ,R.same s1,hb.mono (fun k q H2 s2=>q H2 (s1.trans s2)) h⟩
  | true=>exact h H1 s1) q⟩
noncomputable def Ano (t:DTT) (ta tb:DTE):DTE:=fun ρ Q=>t ρ fun k=>if k=true then ta ρ Q else tb ρ Q
noncomputable def Ajz:DTA:=fun _ Q=>Q []
noncomputable def Af8 (te:DTE) (tl:DTA):DTA:=fun ρ Q=>te ρ fun d=>tl ρ fun ds=>Q (d :: ds)
theorem Af:DA X [] Ajz:=⟨fun hq h=>hq _ h,Ud.imp fun σ H Q ⟨B,F,O,ρ,R,q⟩=>q [] H (Same.refl H) RpL.nil⟩
theorem Aa (ha:DE X e te) (hr:DA X es tl) (hs:starEach (e :: es) X.env=(false,eval e X.env) :: starEach es X.env:=by rfl):DA X (e :: es) (Af8 te tl) where
 mono:=fun hq h=>ha.mono (fun d h=>hr.mono (fun ds h=>hq _ h) h) h
 pa:=(Ks ha.pe hr.pa hs).imp fun σ H Q ⟨B,F,O,ρ,R,q⟩=>⟨B,F,O,ρ,R,ha.mono (fun d h v H1 s1 r1=>⟨B,F,O,ρ,R.same s1,hr.mono (fun ds h vs H2 s2 r2 =>
  h (v :: vs) H2 (s1.trans s2) (RpL.cons (r1.mono s2.mask) r2)) h⟩) q⟩
noncomputable def dTup (tl:DTA):DTE:=fun ρ Q=>tl ρ fun ds=>ds.length≤sizeLine∧Q (.tup ds)
noncomputable def Alk (tl:DTA):DTE:=fun ρ Q=>tl ρ fun ds=>ds.length≤sizeLine∧Q (.lst ds)
theorem M6 {O:List Addr} {H:Hp} {p:Addr} {o:HO} (hp:p∉O):mask O (upd H p o) p=some o:=by rw [Bl hp,Cq]
theorem Bj {k} (h:DA X es tl):DE X (.Tuple es k pos) (dTup tl) where
 mono:=fun hq z=>h.mono (fun ds q=>⟨q.1,hq _ q.2⟩) z
 pe:=(Ag3 h.pa).imp fun σ H Q ⟨B,F,O,ρ,R,q⟩=>⟨B,F,O,ρ,R,h.mono (fun ds z vs H1 s1 r1=>⟨by rw [r1.len];exact z.1,fun p hp=>by
  have np:p∉F ++ O:=fun m=>(R.same s1).th p m hp
  exact z.2 (.ref p) _ (s1.trans (Same.upd hp)) (CW.mpr ⟨p,vs,rfl,SqT.of (M6 np),r1.mono (Same.upd hp).mask⟩)⟩) q⟩
theorem AhW (h:DA X es tl):DE X (.List es pos) (Alk tl) where
 mono:=fun hq z=>h.mono (fun ds q=>⟨q.1,hq _ q.2⟩) z
 pe:=(Ack h.pa).imp fun σ H Q ⟨B,F,O,ρ,R,q⟩=>⟨B,F,O,ρ,R,h.mono (fun ds z vs H1 s1 r1=>⟨by rw [r1.len];exact z.1,fun p hp=>by
  have np:p∉F ++ O:=fun m=>(R.same s1).th p m hp
  exact z.2 (.ref p) _ (s1.trans (Same.upd hp)) (M9 ⟨p,vs,rfl,(M6 np),r1.mono (Same.upd hp).mask⟩)⟩) q⟩
noncomputable abbrev DSp:=List Dt→(Dt→Prop)→Prop
noncomputable def lSp (K:PySem.W.Frag) (sp:DSp):Sp:=fun vs H Q _=>∃ F ds,(∀ a∈F,H a≠none)∧RpL K (mask F H) ds vs∧sp ds fun d=>∀ v H',Same H H'→Rp K (mask F H') d v→Q v H'
noncomputable def Ir (sp:DSp):Prop:=∀ ds Q Q',(∀ d,Q d→Q' d)→sp ds Q→sp ds Q'
noncomputable def dCall (sp:DSp) (tl:DTA):DTE:=fun ρ Q=>tl ρ fun ds=>sp ds Q
theorem AcW {CX:CXT} {k:Nat} {f:Addr} {fd:FuncData} {ps:List Str} {sp:DSp} {x:Str} {p:Pos} (m:Ir sp) (G:HX X.prog X.w X.K X.mg X.base CX0 k f fd ps (lSp X.K sp)) (hr:Ep k X.A) (hg:Gl X x) (hm:X.mg x=some (.ref f))
  (hk:PySem.W.keepIn X.K (.ref f)=true) (hb:Binds X.K fd ps []) (ha:DA X (e :: es) tl) (hdb:(x == ("__debug__":Str))=false:=by decide)
  (he:starEach (e :: es) X.env=(false,eval e X.env) :: starEach es X.env:=by rfl) (hpl:(backTo pos (starEach es X.env)).any (·.1)=false:=by rfl):DE X (.Call (.Name x p) (e :: es) [] pos) (dCall sp tl) where
 mono:=fun hq z=>ha.mono (fun ds q=>m _ _ _ hq q) z
 pe:=(Ac3 G hr hg hm hk hb .nil Vi ha.pa hdb he hpl).imp fun σ H Q ⟨B,F,O,ρ,R,q⟩=>⟨B,F,O,ρ,R,ha.mono (fun ds z vs H1 s1 r1=>by
  show lSp X.K sp (vs ++ []) H1 Q E0
  rw [List.append_nil]
  exact ⟨F ++ O,ds,(R.same s1).th,r1,m _ _ _ (fun d q v H2 s2 r2=>q v H2 (s1.trans s2) r2) z⟩) q⟩
variable {st:Stmt} {sts:List Stmt} {t u:DTS}
noncomputable def Afk:DTS:=fun D ρ=>D.nx ρ
noncomputable def AkS (t u:DTS):DTS:=fun D ρ=>t { D with nx:=u D } ρ
theorem Ail {D D':GX} {P P':Cj→Prop} (h:GX.le D D') (hp:∀ ρ,P ρ→P' ρ):GX.le { D with nx:=P } { D' with nx:=P' }:=⟨hp,h.rt,h.bk,h.ct⟩
theorem le_refl {D:GX}:GX.le D D:=⟨fun _ h=>h,fun _ h=>h,fun _ h=>h,fun _ h=>h⟩
theorem Bg:DSs X [] Afk:=⟨fun hd h=>hd.nx _ h,Adr.imp fun D σ H ⟨B,F,O,ρ,R,h⟩=>h O σ H R⟩
theorem Ad (h1:DS X st t) (h2:DSs X sts u):DSs X (st :: sts) (AkS t u) where
 mono:=fun hd h=>h1.mono (Ail hd fun ρ q=>h2.mono hd q) h
 ps:=(Qq h1.ps h2.ps).imp fun D σ H ⟨B,F,O,ρ,R,h⟩=>⟨B,F,O,ρ,R,h1.mono (D:={ lD X.K B F D with nx:=u (lD X.K B F D) }) ⟨fun ρ' q O' σ' H' R'=>⟨B,F,O',ρ',R',q⟩,fun _ q=>q,fun _ q=>q,fun _ q=>q⟩ h⟩
theorem Ah (h1:DS X st t):DSs X [st] t:=⟨h1.mono,Um h1.ps⟩
noncomputable def AaW:DTS:=fun _ _=>False
theorem FN:DS X st AaW:=⟨fun _ h=>h.elim,Abm.imp fun D σ H ⟨B,F,O,ρ,R,h⟩=>h.elim⟩
noncomputable def Afq (te:DTE):DTS:=fun D ρ=>te ρ fun _=>D.nx ρ
theorem FW (he:DE X e te) (hs:swapsWith e none pos.line X.env=pure false:=by rfl):DS X (.Expr e pos) (Afq te) where
 mono:=fun hd h=>he.mono (fun _ h=>hd.nx _ h) h
 ps:=(TY he.pe hs).imp fun D σ H ⟨B,F,O,ρ,R,h⟩=>⟨B,F,O,ρ,R,he.mono (fun d q v H1 s1 _=>q O σ H1 (R.same s1)) h⟩
noncomputable def Ah6 (te:DTE):DTS:=fun D ρ=>te ρ D.rt
theorem AaN {F O:List Addr} {H:Hp}:Same (mask (F ++ O) H) (mask F H):=HF fun _ h=>List.mem_append_left _ h
theorem Aq (he:DE X e te):DS X (.Return (some e) pos) (Ah6 te) where
 mono:=fun hd h=>he.mono (fun _ h=>hd.rt _ h) h
 ps:=(Ahz he.pe).imp fun D σ H ⟨B,F,O,ρ,R,h⟩=>⟨B,F,O,ρ,R,he.mono (fun d q v H1 s1 r1=>q v H1 (R.base.trans s1) (r1.mono AaN)) h⟩
noncomputable def Al8:DTS:=fun D _=>D.rt .non
noncomputable def dIf (c:DTT) (t u:DTS):DTS:=fun D ρ=>c ρ fun k=>if k=true then t D ρ else u D ρ
theorem BZ {sa sb:List Stmt} (hc:DT X c tA) (ha:DSs X sa t) (hb:DSs X sb u):DS X (.If c sa sb pos) (dIf tA t u) where
 mono:=fun hd h=>hc.mono (fun k h=>by
  cases k with
  | true=>exact ha.mono hd h
  | false=>exact hb.mono hd h) h
 ps:=(Aja hc.pt ha.ps hb.ps).imp fun D σ H ⟨B,F,O,ρ,R,h⟩=>⟨B,F,O,ρ,R,hc.mono (fun k h H1 s1=>by
  cases k with
  | true=>exact ⟨B,F,O,ρ,R.same s1,h⟩
  | false=>exact ⟨B,F,O,ρ,R.same s1,h⟩) h⟩
noncomputable abbrev DTG:=Dt→Cj→(Cj→Prop)→Prop
noncomputable abbrev T5:=List Dt→Cj→(Cj→Prop)→Prop
noncomputable def lG (K:PySem.W.Frag) (g:DTG):TG:=fun v σ H Q=>∃ B F O ρ d,Rep K B F O H σ ρ∧Rp K (mask (F ++ O) H) d v∧g d ρ fun ρ'=>∀ σ',Rep K B F O H σ' ρ'→Q σ' H
noncomputable def lGs (K:PySem.W.Frag) (g:T5):TGs:=fun vs σ H Q=>∃ B F O ρ ds,Rep K B F O H σ ρ∧RpL K (mask (F ++ O) H) ds vs∧g ds ρ fun ρ'=>∀ σ',Rep K B F O H σ' ρ'→Q σ' H
structure DG (X:Cx) (tg:Expr) (g:DTG):Prop where
 mono:∀ {d ρ Q Q'},(∀ ρ',Q ρ'→Q' ρ')→g d ρ Q→g d ρ Q'
 pg:PG X tg (lG X.K g)
structure DGs (X:Cx) (tgs:List Expr) (g:T5):Prop where
 mono:∀ {d ρ Q Q'},(∀ ρ',Q ρ'→Q' ρ')→g d ρ Q→g d ρ Q'
 pg:PGs X tgs (lGs X.K g)
theorem PG.imp {e:Expr} {t t':TG} (h:PG X e t) (i:∀ v σ H Q,t' v σ H Q→t v σ H Q):PG X e t':=fun pins s σ H v u Q I r q=>h pins s σ H v u Q I r (i _ _ _ _ q)
theorem PGs.imp {e:List Expr} {t t':TGs} (h:PGs X e t) (i:∀ v σ H Q,t' v σ H Q→t v σ H Q):PGs X e t':=fun pins s σ H v u Q I r q=>h pins s σ H v u Q I r (i _ _ _ _ q)
noncomputable def Xq (i:Nat):DTG:=fun d ρ Q=>Q (ρ.set i (some (.is d)))
theorem Cv (i:Nat) {x:Str} (hN:X.N.Nodup) (hi:X.N[i]? = some x:=by rfl) (hx:Loc X.env.scope x:=by first | exact Or.inl rfl | exact Or.inr rfl)
  (hf:X.fn x=true∨X.env.scope.names.lookup x=some .local:=by first | exact .inl rfl | exact .inr rfl | assumption):DG X (.Name x pos) (Xq i) where
 mono:=fun hq h=>hq _ h
 pg:=(Ui hN hi hx hf).imp fun v σ H Q ⟨B,F,O,ρ,d,R,r,h⟩=>h _ (R.set i r)
noncomputable def YM:T5:=fun ds ρ Q=>match ds with
 | []=>Q ρ
 | _=>False
noncomputable def Tt (g:DTG) (gs:T5):T5:=fun ds ρ Q=>match ds with
 | d :: r=>g d ρ fun ρ'=>gs r ρ' Q
 | []=>False
theorem Py:DGs X [] YM where
 mono:=fun hq h=>by
  unfold YM at h ⊢
  split at h
  ·exact hq _ h
  ·exact h.elim
 pg:=Ac8.imp fun vs σ H Q ⟨B,F,O,ρ,ds,R,r,h⟩=>by
  unfold YM at h
  split at h
  ·exact ⟨BJ.mp r,h σ R⟩
  ·exact h.elim
theorem CG {g:DTG} {gs:T5} (h1:DG X e g) (h2:DGs X es gs) (hs:(assignEach (e :: es) X.env).map (·.2)=assign e X.env :: (assignEach es X.env).map (·.2):=by rfl):DGs X (e :: es) (Tt g gs) where
 mono:=fun hq h=>by
  unfold Tt at h ⊢
  split at h
  ·exact h1.mono (fun ρ' q=>h2.mono hq q) h
  ·exact h.elim
 pg:=(AaG h1.pg h2.pg hs).imp fun vs σ H Q ⟨B,F,O,ρ,ds,R,r,h⟩=>by
  unfold Tt at h
  split at h
  ·obtain ⟨v,vr,rfl,r1,r2⟩:=Bc.mp r
   exact ⟨v,vr,rfl,B,F,O,ρ,_,R,r1,h1.mono (fun ρ' q σ' R'=>⟨B,F,O,ρ',_,R',r2,q⟩) h⟩
  ·exact h.elim
noncomputable def Zv (n:Nat) (gs:T5):DTG:=fun d ρ Q=>match d with
 | .tup ds=>ds.length=n∧gs ds ρ Q
 | _=>False
theorem Tg {k:Nat} {gs:T5} {n:Nat} (hc:X.calm=true) (h:DGs X es gs) (hn:(assignEach es X.env).length=n:=by rfl) (hst:(assignEach es X.env).findIdx? (·.1)=none:=by rfl):DG X (.Tuple es k pos) (Zv n gs) where
 mono:=fun hq z=>by
  unfold Zv at z ⊢
  split at z
  ·exact ⟨z.1,h.mono hq z.2⟩
  ·exact z.elim
 pg:=(AgG hc h.pg hn hst).imp fun v σ H Q ⟨B,F,O,ρ,d,R,r,z⟩=>by
  unfold Zv at z
  split at z
  ·obtain ⟨a,xs,rfl,hs,hl⟩:=CW.mp r
   exact ⟨a,xs,rfl,Bu.seqT hs,by rw [hl.len];exact z.1,B,F,O,ρ,_,R,hl,z.2⟩
  ·exact z.elim
noncomputable def AgX (te:DTE) (g:DTG):DTS:=fun D ρ=>te ρ fun d=>g d ρ D.nx
theorem Tj {tg:Expr} {g:DTG} (he:DE X e te) (hg:DG X tg g) (hs:swapsWithSole [tg] e pos.line X.env=pure false:=by rfl) (hw:swappedStores [tg] e X.env=pure none:=by rfl)
  (h1:(assignEach [tg] X.env).map (·.2)=[assign tg X.env]:=by rfl):DS X (.Assign [tg] e pos) (AgX te g) where
 mono:=fun hd h=>he.mono (fun _ h=>hg.mono (fun _ h=>hd.nx _ h) h) h
 ps:=(AhK he.pe hg.pg hs hw h1).imp fun D σ H ⟨B,F,O,ρ,R,h⟩=>⟨B,F,O,ρ,R,he.mono (fun d q v H1 s1 r1=>⟨B,F,O,ρ,d,R.same s1,r1,hg.mono (fun ρ' q σ' R'=>q O σ' H1 R') q⟩) h⟩
noncomputable def Abr (c:DTT) (tb:DTS):DTS:=fun D ρ=>∃ W:Nat→Cj→Prop,(∃ m,W m ρ)∧∀ m ρ,W m ρ →
 c ρ fun k=>if k=true then tb { D with nx:=fun ρ'=>∃ m',m' < m∧W m' ρ',ct:=fun ρ'=>∃ m',m' < m∧W m' ρ',bk:=D.nx } ρ else D.nx ρ
theorem Ew {body:List Stmt} (hp:PassesOwn (model X.prog X.w) X.A X.env X.xe) (hc:DT X c tA) (hb:DSs X body t):DS X (.While c body [] pos) (Abr tA t) where
 mono:=fun {ρ D D'} hd ⟨W,h0,h⟩=>⟨W,h0,fun m ρ w=>hc.mono (fun k h=>by
  cases k with
  | true=>exact hb.mono (D:={ D with nx:=fun ρ'=>∃ m',m' < m∧W m' ρ',ct:=fun ρ'=>∃ m',m' < m∧W m' ρ',bk:=D.nx }) ⟨fun _ q=>q,hd.rt,hd.nx,fun _ q=>q⟩ h
  | false=>exact hd.nx _ h) (h m ρ w)⟩
 ps:=(AaM hp hc.pt hb.ps).imp fun D σ H ⟨B,F,O,ρ,R,W,⟨m0,w0⟩,h⟩=>by
  refine ⟨fun m σ H=>∃ O ρ,Rep X.K B F O H σ ρ∧W m ρ,⟨m0,O,ρ,R,w0⟩,?_⟩
  rintro m σ H ⟨O,ρ,R,w⟩
  refine ⟨B,F,O,ρ,R,hc.mono (fun k h H1 s1=>?_) (h m ρ w)⟩
  cases k with
  | true =>
   refine ⟨fun σ' H'=>∃ m',m' < m∧∃ O ρ,Rep X.K B F O H' σ' ρ∧W m' ρ,fun σ' H' ⟨m',l,q⟩=>⟨m',l,q⟩,B,F,O,ρ,R.same s1,hb.mono (D:={ lD X.K B F D with nx:=fun ρ'=>∃ m',m' < m∧W m' ρ',ct:=fun ρ'=>∃ m',m' < m∧W m' ρ',bk:=(lD X.K B F D).nx }) ⟨?_,fun _ q=>q,fun _ q=>q,?_⟩ h⟩
   ·rintro ρ' ⟨m',l,w'⟩ O' σ' H' R'
    exact ⟨m',l,O',ρ',R',w'⟩
   ·rintro ρ' ⟨m',l,w'⟩ O' σ' H' R'
    exact ⟨m',l,O',ρ',R',w'⟩
  | false=>exact h O σ H1 (R.same s1)
noncomputable def ItD (K:PySem.W.Frag) (M:Hp) (J:It) (items:List Dt):Prop:=∀ H,Same M H →
 (∀ (k:Nat) d,items[k]? = some d→J.go k H∧∀ x H',J.yld k H x H'→H'=H∧Rp K M d x)∧J.stop items.length H
noncomputable abbrev DTI:=Cj→(List Dt→Prop)→Prop
noncomputable def lI (K:PySem.W.Frag) (ti:DTI):TI:=fun σ H R=>∃ B F O ρ,Rep K B F O H σ ρ∧ti ρ fun items=>∀ J H',Same H H'→ItD K (mask (F ++ O) H') J items→R J H'
structure DI (X:Cx) (tg iter:Expr) (ti:DTI):Prop where
 mono:∀ {ρ Q Q'},(∀ d,Q d→Q' d)→ti ρ Q→ti ρ Q'
 pi:PI X tg iter (lI X.K ti)
theorem PI.imp {tg e:Expr} {t t':TI} (h:PI X tg e t) (i:∀ σ H Q,t' σ H Q→t σ H Q):PI X tg e t':=fun pins s σ H R I q=>h pins s σ H R I (i _ _ _ q)
noncomputable def Ady (ti:DTI) (g:DTG) (tb:DTS):DTS:=fun D ρ=>ti ρ fun items=>∃ W:Nat→Cj→Prop,W 0 ρ ∧
 (∀ (k:Nat) d ρ',items[k]? = some d→W k ρ'→g d ρ' fun ρ2=>tb { D with nx:=W (k+1),ct:=W (k+1),bk:=D.nx } ρ2)∧∀ ρ',W items.length ρ'→D.nx ρ'
theorem Rep.rebase {K:PySem.W.Frag} {B:Hp} {F O:List Addr} {H:Hp} {σ:St} {ρ:Cj} (r:Rep K B F O H σ ρ):Rep K (mask O H) F O H σ ρ :=
 ⟨r.len,Bu,fun _ h=>Dp h,r.th,r.is,r.own,r.inj,r.tab,r.tinj⟩
theorem Rep.unbase {K:PySem.W.Frag} {B B':Hp} {F O O':List Addr} {H H':Hp} {σ σ':St} {ρ ρ':Cj} (r:Rep K B F O H σ ρ) (r':Rep K (mask O H) F O' H' σ' ρ'):Rep K B F O' H' σ' ρ':=by
 have s:Same B (mask O H):=fun a o e=>by
  rw [Bl]
  ·exact r.base a o e
  ·intro z;rw [r.fr a z] at e;cases e
 refine ⟨r'.len,s.trans r'.base,fun a h=>?_,r'.th,r'.is,r'.own,r'.inj,r'.tab,r'.tinj⟩
 cases q:B a with
 | none=>rfl
 | some o=>have:=s a o q;rw [r'.fr a h] at this;cases this
theorem Rep.sub {K:PySem.W.Frag} {B:Hp} {F O:List Addr} {H:Hp} {σ:St} {ρ:Cj} (r:Rep K B F O H σ ρ):Same B (mask O H):=fun a o e=>by
 rw [Bl]
 ·exact r.base a o e
 ·intro z;rw [r.fr a z] at e;cases e
theorem Z4 {F O:List Addr} {H:Hp}:mask F (mask O H)=mask (F ++ O) H:=by
 funext a
 by_cases h1:a∈F
 ·rw [Dp h1,Dp (List.mem_append_left _ h1)]
 ·rw [Bl h1]
  by_cases h2:a∈O
  ·rw [Dp h2,Dp (List.mem_append_right _ h2)]
  ·rw [Bl h2,Bl fun z=>(List.mem_append.mp z).elim h1 h2]
theorem Uh {tg iter:Expr} {body:List Stmt} {ti:DTI} {g:DTG} (hp:PassesOwn (model X.prog X.w) X.A X.env X.xe) (hc:X.calm=true) (hi:DI X tg iter ti) (hg:DG X tg g) (hb:DSs X body t)
  (hs:∀ x,foldedSetIterable iter X.env x=pure x:=by intro _;rfl):DS X (.For tg iter body [] pos) (Ady ti g t) where
 mono:=fun {ρ D D'} hd h=>hi.mono (fun items ⟨W,h0,h,he⟩=>⟨W,h0,fun k d ρ' e w=>hg.mono (fun ρ2 q=>hb.mono (D:={ D with nx:=W (k+1),ct:=W (k+1),bk:=D.nx }) ⟨fun _ q=>q,hd.rt,hd.nx,fun _ q=>q⟩ q) (h k d ρ' e w),fun ρ' w=>hd.nx _ (he ρ' w)⟩) h
 ps:=(AgK hp hc hi.pi hg.pg hb.ps hs).imp fun D σ H ⟨B,F,O,ρ,R,h⟩=>by
  refine ⟨B,F,O,ρ,R,hi.mono (fun items z J H1 s1 it=>?_) h⟩
  obtain ⟨W,h0,h,he⟩:=z
  have R1:=R.same s1
  refine ⟨fun i m σ H=>m+i=items.length∧∃ O' ρ',Rep X.K (mask O H1) F O' H σ ρ'∧W i ρ',⟨items.length,by omega,O,ρ,R1.rebase,h0⟩,?_⟩
  rintro i m σ2 H2 ⟨hm,O',ρ',R2,w⟩
  have sb:Same (mask (F ++ O) H1) H2:=fun a o e=>R2.base a o (by
   obtain ⟨q,e⟩:=Ek e
   rw [Bl fun z=>q (List.mem_append_right _ z)];exact e)
  obtain ⟨go,stop⟩:=it H2 sb
  by_cases hlt:i < items.length
  ·refine .inr ⟨(go i items[i] (by simp [hlt])).1,fun σ' H'=>∃ O' ρ',Rep X.K (mask O H1) F O' H' σ' ρ'∧W (i+1) ρ',fun σ' H' q=>⟨m - 1,by omega,by omega,q⟩,fun x H3 y=>?_⟩
   obtain ⟨e,r⟩:=(go i items[i] (by simp [hlt])).2 x H3 y
   subst e
   have r':Rp X.K (mask (F ++ O') H3) items[i] x:=r.mono (by rw [←Z4];exact R2.below)
   refine ⟨_,F,O',ρ',_,R2,r',hg.mono (fun ρ2 q σ3 R3=>⟨_,F,O',ρ2,R3,hb.mono (D:={ lD X.K B F D with nx:=W (i+1),ct:=W (i+1),bk:=(lD X.K B F D).nx }) ⟨?_,?_,?_,?_⟩ q⟩) (h i _ ρ' (by simp [hlt]) w)⟩
   ·exact fun ρ4 w4 O4 σ4 H4 R4=>⟨O4,ρ4,R4,w4⟩
   ·exact fun d q v H4 s4 r4=>q v H4 (R1.sub.trans s4) r4
   ·exact fun ρ4 q O4 σ4 H4 R4=>q O4 σ4 H4 (R1.unbase (B':=B) R4)
   ·exact fun ρ4 w4 O4 σ4 H4 R4=>⟨O4,ρ4,R4,w4⟩
  ·have e:i=items.length:=by omega
   subst e
   exact .inl ⟨stop,he ρ' w O' σ2 H2 (R1.unbase (B':=B) R2)⟩
noncomputable def Afj (te:DTE):DTI:=fun ρ Q=>te ρ fun d=>match d with
 | .lst ds=>Q ds
 | _=>False
noncomputable def AfG (te:DTE):DTI:=fun ρ Q=>te ρ fun d=>match d with
 | .tup ds=>Q ds
 | _=>False
theorem Nu {tg:Expr} (h:DE X e te):DI X tg e (Afj te) where
 mono:=fun hq z=>h.mono (fun d z=>by
  split at z
  ·exact hq _ z
  ·exact z.elim) z
 pi:=(Adg h.pe).imp fun σ H Q ⟨B,F,O,ρ,R,z⟩=>⟨B,F,O,ρ,R,h.mono (fun d z v H1 s1 r1=>by
  split at z
  ·obtain ⟨a,xs,rfl,hs,hl⟩:=Fb r1
   refine ⟨a,rfl,⟨xs,Bu.seq hs⟩,z _ H1 s1 fun H2 s2=>⟨fun k d e=>?_,xs,s2.seq hs,by rw [hl.len];exact Nat.le_refl _⟩⟩
   obtain ⟨x,e1,e2⟩:=hl.get e
   refine ⟨⟨xs,x,s2.seq hs,e1⟩,fun y H3 ⟨e3,e4⟩=>⟨e3,?_⟩⟩
   have e5:=e4 xs (s2.seq hs)
   rw [e1] at e5;cases e5;exact e2
  ·exact z.elim) z⟩
theorem AgS {tg:Expr} (h:DE X e te):DI X tg e (AfG te) where
 mono:=fun hq z=>h.mono (fun d z=>by
  split at z
  ·exact hq _ z
  ·exact z.elim) z
 pi:=(Agu h.pe).imp fun σ H Q ⟨B,F,O,ρ,R,z⟩=>⟨B,F,O,ρ,R,h.mono (fun d z v H1 s1 r1=>by
  split at z
  ·obtain ⟨a,xs,rfl,hs,hl⟩:=CW.mp r1
   refine ⟨a,rfl,⟨xs,Bu.seqT hs⟩,z _ H1 s1 fun H2 s2=>⟨fun k d e=>?_,xs,s2.seqT hs,by rw [hl.len];exact Nat.le_refl _⟩⟩
   obtain ⟨x,e1,e2⟩:=hl.get e
   refine ⟨⟨xs,x,s2.seqT hs,e1⟩,fun y H3 ⟨e3,e4⟩=>⟨e3,?_⟩⟩
   have e5:=e4 xs (s2.seqT hs)
   rw [e1] at e5;cases e5;exact e2
  ·exact z.elim) z⟩
noncomputable def ups (lo:Int) (n:Nat):List Dt:=(List.range n).map fun i=>.int (lo+(i:Nat))
theorem Nj {lo:Int} {n:Nat}:(ups lo n).length=n:=by simp [ups]
theorem Mx {lo:Int} {n k:Nat} {d:Dt} (h:(ups lo n)[k]? = some d):k < n∧d=.int (lo+(k:Nat)):=by
 unfold ups at h
 rw [List.getElem?_map] at h
 by_cases hk:k < n
 ·rw [List.getElem?_range hk] at h
  exact ⟨hk,(Option.some.inj h).symm⟩
 ·rw [List.getElem?_eq_none (by simpa using hk)] at h;cases h
theorem RX {K:PySem.W.Frag} {M:Hp} {lo:Int} {n:Nat}:ItD K M (Itr lo n) (ups lo n):=fun H _=>by
 refine ⟨fun k d e=>?_,?_⟩
 ·obtain ⟨hk,rfl⟩:=Mx e
  exact ⟨hk,fun x H' y=>⟨y.1,Bb.mpr y.2⟩⟩
 ·rw [Nj];exact Nat.le_refl n
noncomputable def AcJ (tl:DTA):DTI:=fun ρ Q=>tl ρ fun ds=>match ds with
 | [.int j]=>(-(2 ^ 62)≤j∧j < 2 ^ 62)∧Q (ups 0 j.toNat)
 | _=>False
noncomputable def Ab0 (tl:DTA):DTI:=fun ρ Q=>tl ρ fun ds=>match ds with
 | [.int i,.int j]=>(-(2 ^ 62)≤i∧i < 2 ^ 62∧-(2 ^ 62)≤j∧j < 2 ^ 62)∧Q (ups i (j - i).toNat)
 | _=>False
theorem YX {tg:Expr} {p:Pos} (hg:Gl X "range") (hm:X.mg "range"=none) (ha:DA X [a] tl) (hs:starEach [a] X.env=[(false,eval a X.env)]:=by rfl):DI X tg (.Call (.Name "range" p) [a] [] pos) (AcJ tl) where
 mono:=fun hq z=>ha.mono (fun d z=>by
  split at z
  ·exact ⟨z.1,hq _ z.2⟩
  ·exact z.elim) z
 pi:=(ZM hg hm ha.pa hs).imp fun σ H Q ⟨B,F,O,ρ,R,z⟩=>⟨B,F,O,ρ,R,ha.mono (fun d z vs H1 s1 r1=>by
  split at z
  ·obtain ⟨v,r,rfl,r2,r3⟩:=Bc.mp r1
   rw [BJ.mp r3,Bb.mp r2]
   exact ⟨_,rfl,z.1.1,z.1.2,z.2 _ H1 s1 RX⟩
  ·exact z.elim) z⟩
theorem YK {tg:Expr} {p:Pos} (hg:Gl X "range") (hm:X.mg "range"=none) (ha:DA X [a,b] tl) (hs:starEach [a,b] X.env=[(false,eval a X.env),(false,eval b X.env)]:=by rfl) (hs2:starEach [b] X.env=[(false,eval b X.env)]:=by rfl) :
  DI X tg (.Call (.Name "range" p) [a,b] [] pos) (Ab0 tl) where
 mono:=fun hq z=>ha.mono (fun d z=>by
  split at z
  ·exact ⟨z.1,hq _ z.2⟩
  ·exact z.elim) z
 pi:=(ZP hg hm ha.pa hs hs2).imp fun σ H Q ⟨B,F,O,ρ,R,z⟩=>⟨B,F,O,ρ,R,ha.mono (fun d z vs H1 s1 r1=>by
  split at z
  ·obtain ⟨v,r,rfl,r2,r3⟩:=Bc.mp r1
   obtain ⟨v',r',rfl,r4,r5⟩:=Bc.mp r3
   rw [BJ.mp r5,Bb.mp r2,Bb.mp r4]
   exact ⟨_,_,rfl,z.1,z.2 _ H1 s1 RX⟩
  ·exact z.elim) z⟩
end
noncomputable def FQ (N:List Str) (ds:List Dt):Cj:=ds.map (fun d=>some (.is d)) ++ List.replicate (N.length - ds.length) none
theorem Aan {K:PySem.W.Frag} {F:List Addr} {H:Hp} {N:List Str} {ds:List Dt} {vs:List V} (hF:∀ a∈F,H a≠none) (r:RpL K (mask F H) ds vs):Rep K H F [] H (start N vs) (FQ N ds):=by
 have hl:=r.len
 have noown:∀ (i:Nat) (es:En),(∀ z,es≠.is z)→(FQ N ds)[i]? = some (some es)→False:=fun i es nz e=>by
  unfold FQ at e
  by_cases hi:i < ds.length
  ·rw [List.getElem?_append_left (by simpa using hi),List.getElem?_map] at e
   cases q:ds[i]? with
   | none=>rw [q] at e;cases e
   | some d=>rw [q] at e;cases e;exact nz d rfl
  ·rw [List.getElem?_append_right (by simpa using hi),List.getElem?_replicate] at e
   split at e <;> cases e
 refine ⟨?_,Same.refl H,fun a h=>(nomatch h),fun a h=>hF a (by simpa using h),fun i d e=>?_,fun i es e=>(noown i _ (fun _ z=>by cases z) e).elim,fun i j es es' a h1=>(noown i _ (fun _ z=>by cases z) h1).elim,fun i es e=>(noown i _ (fun _ z=>by cases z) e).elim,fun i j es es' a h1=>(noown i _ (fun _ z=>by cases z) h1).elim⟩
 ·unfold start FQ;simp [hl]
 ·unfold FQ at e
  by_cases hi:i < ds.length
  ·rw [List.getElem?_append_left (by simpa using hi),List.getElem?_map] at e
   cases q:ds[i]? with
   | none=>rw [q] at e;cases e
   | some d' =>
    rw [q] at e;cases e
    obtain ⟨v,e1,e2⟩:=r.get q
    refine ⟨v,?_,by rw [List.append_nil];exact e2⟩
    unfold start
    rw [List.getElem?_append_left (by simp;omega),List.getElem?_map,e1];rfl
  ·rw [List.getElem?_append_right (by simpa using hi),List.getElem?_replicate] at e
   split at e <;> cases e
section
variable {P:Program} {w:World} {K:PySem.W.Frag} {mg:Str→Option Value} {base:Heap}
theorem Fun.okD {x qual:Str} {st:Stmt} {f:Addr} {fd:FuncData} {N ps:List Str} {k:Nat} {sp:DSp} (F:Fun K x qual st f fd) (S:Ao N ps (Ai st)) (len:∀ ds Q,sp ds Q→ds.length=ps.length)
  (hbody:∀ (cdv:Value) (A:Around) (outer:List Env) (s:Shared) (H:Hp) (E:XK),Ep k (A.deeper (envOfC qual (Ai st) s.heap.objs.size f cdv)) →
   ∃ t,DSs (X7 CX0 P w K mg base N qual (Ai st) f cdv A outer s H E).nox (Dn st) t∧∀ ds Q,sp ds Q→t { nx:=fun _=>Q .non,rt:=Q } (FQ N ds)):HX P w K mg base CX0 (k+1) f fd ps (lSp K sp):=by
 refine F.ok S (fun vs H Q E ⟨F,ds,_,r,h⟩=>by rw [r.len];exact len _ _ h) fun cdv A outer s H vs Q E hr ⟨F',ds,hF,r,h⟩=>?_
 obtain ⟨t,T,q⟩:=hbody cdv A outer s H E hr
 refine ⟨_,T.ps,H,F',[],FQ N ds,Aan hF r,T.mono (D:={ nx:=fun _=>∀ v H',Same H H'→Rp K (mask F' H') .non v→Q v H',rt:=fun d=>∀ v H',Same H H'→Rp K (mask F' H') d v→Q v H' }) ⟨?_,?_,fun _ z=>False.elim z,fun _ z=>False.elim z⟩ (q ds _ h)⟩
 ·exact fun ρ z O' σ' H' R'=>z .non H' R'.base (Jt.mpr rfl)
 ·exact fun d z v H' s' r'=>z v H' s' r'
end
end L2
namespace L2
open PySem PySem.Spec PyProof.Rows PySem.SeqAt
structure FnT (K:PySem.W.Frag) (mg:Str→Option Value) (x:Str) (st:Stmt) (ps:List Str) (f:Addr) (fd:FuncData):Prop where
 fn:Fun K x x st f fd
 mg:mg x=some (.ref f)
 bd:Binds K fd ps []
noncomputable def Pm (P:Program) (w:World) (K:PySem.W.Frag) (mg:Str→Option Value) (base:Heap) (k:Nat) (x:Str) (st:Stmt) (ps:List Str) (sp:DSp):Prop :=
 ∃ f fd,FnT K mg x st ps f fd∧HX P w K mg base CX0 k f fd ps (lSp K sp)
theorem Fun.uniq {K:PySem.W.Frag} {x q:Str} {st:Stmt} {f:Addr} {fd fd':FuncData} (a:Fun K x q st f fd) (b:Fun K x q st f fd'):fd=fd':=by
 obtain ⟨oc,od,kV,doc,pm,an,cdv,ct,osl,_,h1,_⟩:=a.ex
 obtain ⟨oc',od',kV',doc',pm',an',cdv',ct',osl',_,h2,_⟩:=b.ex
 rw [h1] at h2
 injection h2 with h2
 injection h2 with _ _ h2 _
 injection h2
noncomputable def spec {τ:Type} (args:τ→List Dt) (pre:τ→Prop) (post:τ→Dt→Prop):DSp:=fun ds Q=>∃ p,ds=args p∧pre p∧∀ d,post p d→Q d
theorem Ae {τ:Type} {args:τ→List Dt} {pre:τ→Prop} {post:τ→Dt→Prop}:Ir (spec args pre post):=fun _ _ _ hq ⟨p,e,h,q⟩=>⟨p,e,h,fun d z=>hq _ (q d z)⟩
noncomputable abbrev BR {τ:Type} (args:τ→List Dt) (pre:τ→Prop) (val:τ→Dt):DSp:=spec args pre fun p d=>d=val p
noncomputable abbrev T2 (a b:Int):Dt:=.tup [.int a,.int b]
noncomputable abbrev T3 (a b c:Int):Dt:=.tup [.int a,.int b,.int c]
noncomputable abbrev T4 (a b c d:Int):Dt:=.tup [.int a,.int b,.int c,.int d]
noncomputable def Afw:DSp:=spec (fun ns:List Int=>[.lst (ns.map Dt.int)]) (fun ns=>ns.length≤63) fun _ d=>d=.bl true
theorem AbM {H:Hp}:mask [] H=H:=by funext a;exact Bl (by simp)
theorem ZV {K:PySem.W.Frag} {H:Hp} {a:Addr} {ns:List Int} {E:XK} (hl:ns.length≤63) (hS:SqL K H a (ns.map V.int)):lSp K Afw [.ref a] H (fun v _=>v=.bl true) E :=
 ⟨[],[.lst (ns.map Dt.int)],fun _ h=>(nomatch h),RpL.cons (Adc (by rw [AbM];exact hS) (RpL.ints ns)) RpL.nil,ns,rfl,hl,fun d e v H' s r=>by subst e;exact Cw.mp r⟩
section
variable {X:Cx} {a b c e:Expr} {es:List Expr} {ta tb tc te:DTE} {tA tB:DTT} {tl:DTA} {pos:Pos}
theorem Ag {k:Nat} {ps:List Str} {sp:DSp} {x:Str} {stx:Stmt} {p:Pos} (m:Ir sp) (G:Pm X.prog X.w X.K X.mg X.base k x stx ps sp) (hr:Ep k X.A) (hg:Gl X x)
  (ha:DA X (e :: es) tl) (hdb:(x == ("__debug__":Str))=false:=by decide)
  (he:starEach (e :: es) X.env=(false,eval e X.env) :: starEach es X.env:=by rfl) (hpl:(backTo pos (starEach es X.env)).any (·.1)=false:=by rfl):DE X (.Call (.Name x p) (e :: es) [] pos) (dCall sp tl):=by
 obtain ⟨f,fd,F,G⟩:=G
 exact AcW (CX:=CX0) m G hr hg F.mg F.fn.kp F.bd ha hdb he hpl
theorem Al (i:Nat) {x:Str} {pos':Pos} (hN:X.N.Nodup) (he:DE X e te) (hi:X.N[i]? = some x:=by rfl) (hx:Loc X.env.scope x:=by first | exact Or.inl rfl | exact Or.inr rfl) (hs:swapsWith e (some (.Name x pos')) pos.line X.env=pure false:=by rfl)
  (hf:X.fn x=true∨X.env.scope.names.lookup x=some .local:=by first | exact .inl rfl | exact .inr rfl | assumption):DS X (.Assign [.Name x pos'] e pos) (AgX te (Xq i)) where
 mono:=fun hd h=>he.mono (fun _ h=>hd.nx _ h) h
 ps:=(AaQ hN hi hx he.pe hs hf).imp fun D σ H ⟨B,F,O,ρ,R,h⟩=>⟨B,F,O,ρ,R,he.mono (fun d q v H1 s1 r1=>q O _ H1 ((R.same s1).set i r1)) h⟩
noncomputable def Ais (i j:Nat) (tl:DTA):DTS:=fun D ρ=>tl ρ fun ds=>match ds with
 | [d,e]=>D.nx ((ρ.set i (some (.is d))).set j (some (.is e)))
 | _=>False
mutual
noncomputable def Dt.py:Dt→PyData
 | .non=>.none
 | .bl b=>.bool b
 | .int i=>.int i
 | .str x=>.str x
 | .tup ds=>.tuple (Dt.pys ds)
 | .lst ds=>.list (Dt.pys ds)
 | .fn _=>.dict []
 | .exc _ _ _=>.dict []
 | .obj _ _ _=>.dict []
noncomputable def Dt.pys:List Dt→List PyData
 | []=>[]
 | d :: ds=>d.py :: Dt.pys ds
end
mutual
theorem HJ {X:Cx} {pins:List (Addr × Obj)} {σ:St} {H:Hp} {s:Shared} (I:Inv X pins σ H s):∀ {d:Dt} {v:V} {u:Value},d.py.canLay0=true→Rp X.K H d v→RelV v u→∃ as,Reads s.heap u d.py as
 | .non,v,u,_,h,r=>by rw [Jt.mp h] at r;cases (show u=.none from r);exact ⟨_,by rw [Dt.py];exact .none⟩
 | .bl b,v,u,_,h,r=>by rw [Cw.mp h] at r;cases (show u=.bool b from r);exact ⟨_,by rw [Dt.py];exact .bool b⟩
 | .int i,v,u,_,h,r=>by rw [Bb.mp h] at r;obtain ⟨t,rfl⟩:=r;exact ⟨_,by rw [Dt.py];exact .int i t⟩
 | .str x,v,u,_,h,r=>by rw [N8.mp h] at r;obtain ⟨t,rfl⟩:=r;exact ⟨_,by rw [Dt.py];exact .str x t⟩
 | .fn a,v,u,c,h,r=>by rw [Dt.py] at c;exact (nomatch c)
 | .exc _ _ _,v,u,c,h,r=>by rw [Dt.py] at c;exact (nomatch c)
 | .obj _ _ _,v,u,c,h,r=>by rw [Dt.py] at c;exact (nomatch c)
 | .tup ds,v,u,c,h,r=>by
  obtain ⟨a,xs,rfl,hs,hl⟩:=CW.mp h
  cases (show u=.ref a from r)
  obtain ⟨its,rv,⟨o,h1,h2,n,h3⟩,_⟩:=I.tuple hs
  rw [Dt.py] at c
  obtain ⟨as,ra⟩:=NK I (ds:=ds) (by simpa [PyData.canLay0] using c) hl rv
  exact ⟨_,by rw [Dt.py];exact .tuple h1 h2 h3 (by simpa using ra)⟩
 | .lst ds,v,u,c,h,r=>by
  obtain ⟨a,xs,rfl,hs,hl⟩:=Fb h
  cases (show u=.ref a from r)
  obtain ⟨its,rv,⟨o,n,h1,h2,_,h3⟩,_⟩:=I.list hs
  rw [Dt.py] at c
  obtain ⟨as,ra⟩:=NK I (ds:=ds) (by simpa [PyData.canLay0] using c) hl rv
  exact ⟨_,by rw [Dt.py];exact .list h1 h2 h3 (by simpa using ra)⟩
theorem NK {X:Cx} {pins:List (Addr × Obj)} {σ:St} {H:Hp} {s:Shared} (I:Inv X pins σ H s):∀ {ds:List Dt} {vs:List V} {us:List Value},PyData.canLayAll0 (Dt.pys ds)=true→RpL X.K H ds vs→Vals vs us→∃ as,ReadsAll s.heap us (Dt.pys ds) as
 | [],vs,us,_,h,r=>by rw [BJ.mp h] at r;cases r;exact ⟨_,by rw [Dt.pys];exact .nil⟩
 | d :: ds,vs,us,c,h,r=>by
  obtain ⟨v,vr,rfl,h1,h2⟩:=Bc.mp h
  rw [Dt.pys] at c
  have c':d.py.canLay0=true∧PyData.canLayAll0 (Dt.pys ds)=true:=by simpa [PyData.canLayAll0] using c
  cases r with
  | cons r1 r2 =>
   obtain ⟨as,ra⟩:=HJ I c'.1 h1 r1
   obtain ⟨bs,rb⟩:=NK I c'.2 h2 r2
   exact ⟨_,by rw [Dt.pys];exact .cons ra rb⟩
end
mutual
noncomputable def Dt.eq:Dt→Dt→Bool
 | .non,.non=>true
 | .bl a,.bl b=>a == b
 | .bl a,.int j=>(if a then 1 else 0) == j
 | .int i,.bl b=>i == (if b then 1 else 0)
 | .int i,.int j=>decide (i=j)
 | .str x,.str y=>x == y
 | .tup xs,.tup ys=>Dt.eqs xs ys
 | .lst xs,.lst ys=>Dt.eqs xs ys
 | _,_=>false
noncomputable def Dt.eqs:List Dt→List Dt→Bool
 | [],[]=>true
 | x :: xs,y :: ys=>Dt.eq x y && Dt.eqs xs ys
 | _,_=>false
end
mutual
noncomputable def Dt.flat:Nat→Dt→Bool
 | _,.fn _=>false
 | _,.exc _ _ _=>false
 | _,.obj _ _ _=>false
 | _,.str x=>(PyData.str x).canLay0
 | 0,.tup _=>false
 | 0,.lst _=>false
 | n+1,.tup ds=>Dt.flats n ds
 | n+1,.lst ds=>Dt.flats n ds
 | _,_=>true
noncomputable def Dt.flats:Nat→List Dt→Bool
 | _,[]=>true
 | n,d :: ds=>Dt.flat n d && Dt.flats n ds
end
mutual
theorem Gd:∀ (d:Dt) (n:Nat),d.flat n=true→d.py.canLay0=true∧d.py.depth≤n
 | .non,n,h=>by rw [Dt.py];exact ⟨rfl,Nat.zero_le _⟩
 | .bl _,n,h=>by rw [Dt.py];exact ⟨rfl,Nat.zero_le _⟩
 | .int _,n,h=>by rw [Dt.py];exact ⟨rfl,Nat.zero_le _⟩
 | .str _,n,h=>by rw [Dt.py];exact ⟨by simpa [Dt.flat] using h,Nat.zero_le _⟩
 | .fn _,n,h=>by simp [Dt.flat] at h
 | .exc _ _ _,n,h=>by simp [Dt.flat] at h
 | .obj _ _ _,n,h=>by simp [Dt.flat] at h
 | .tup ds,0,h=>by simp [Dt.flat] at h
 | .lst ds,0,h=>by simp [Dt.flat] at h
 | .tup ds,n+1,h=>by
  have:=Nr ds n (by simpa [Dt.flat] using h)
  rw [Dt.py]
  exact ⟨by simpa [PyData.canLay0] using this.1,by simpa [PyData.depth] using this.2⟩
 | .lst ds,n+1,h=>by
  have:=Nr ds n (by simpa [Dt.flat] using h)
  rw [Dt.py]
  exact ⟨by simpa [PyData.canLay0] using this.1,by simpa [PyData.depth] using this.2⟩
theorem Nr:∀ (ds:List Dt) (n:Nat),Dt.flats n ds=true→PyData.canLayAll0 (Dt.pys ds)=true∧PyData.depthAll (Dt.pys ds)≤n
 | [],n,h=>by rw [Dt.pys];exact ⟨rfl,Nat.zero_le _⟩
 | d :: ds,n,h=>by
  have h':d.flat n=true∧Dt.flats n ds=true:=by simpa [Dt.flats] using h
  have h1:=Gd d n h'.1
  have h2:=Nr ds n h'.2
  rw [Dt.pys]
  exact ⟨by simp [PyData.canLayAll0,h1.1,h2.1],by simp only [PyData.depthAll];omega⟩
end
mutual
theorem Ri:∀ (a b:Dt),a.py.canLay0=true→b.py.canLay0=true→PyData.eqv a.py b.py=a.eq b
 | .fn _,b,h,_=>by rw [Dt.py] at h;exact (nomatch h)
 | .exc _ _ _,b,h,_=>by rw [Dt.py] at h;exact (nomatch h)
 | .obj _ _ _,b,h,_=>by rw [Dt.py] at h;exact (nomatch h)
 | a,.fn _,_,h=>by rw [Dt.py] at h;exact (nomatch h)
 | a,.exc _ _ _,_,h=>by rw [Dt.py] at h;exact (nomatch h)
 | a,.obj _ _ _,_,h=>by rw [Dt.py] at h;exact (nomatch h)
 | .non,.non,_,_=>by simp [Dt.py,Dt.eq,PyData.eqv]
 | .non,.bl _,_,_=>by simp [Dt.py,Dt.eq,PyData.eqv]
 | .non,.int _,_,_=>by simp [Dt.py,Dt.eq,PyData.eqv]
 | .non,.str _,_,_=>by simp [Dt.py,Dt.eq,PyData.eqv]
 | .non,.tup _,_,_=>by simp [Dt.py,Dt.eq,PyData.eqv]
 | .non,.lst _,_,_=>by simp [Dt.py,Dt.eq,PyData.eqv]
 | .bl _,.non,_,_=>by simp [Dt.py,Dt.eq,PyData.eqv]
 | .bl _,.bl _,_,_=>by simp [Dt.py,Dt.eq,PyData.eqv]
 | .bl _,.int _,_,_=>by simp [Dt.py,Dt.eq,PyData.eqv]
 | .bl _,.str _,_,_=>by simp [Dt.py,Dt.eq,PyData.eqv]
 | .bl _,.tup _,_,_=>by simp [Dt.py,Dt.eq,PyData.eqv]
 | .bl _,.lst _,_,_=>by simp [Dt.py,Dt.eq,PyData.eqv]
 | .int _,.non,_,_=>by simp [Dt.py,Dt.eq,PyData.eqv]
 | .int _,.bl _,_,_=>by simp [Dt.py,Dt.eq,PyData.eqv]
 | .int i,.int j,_,_=>by
  simp only [Dt.py,Dt.eq,PyData.eqv]
  exact Bool.beq_eq_decide_eq i j
 | .int _,.str _,_,_=>by simp [Dt.py,Dt.eq,PyData.eqv]
 | .int _,.tup _,_,_=>by simp [Dt.py,Dt.eq,PyData.eqv]
 | .int _,.lst _,_,_=>by simp [Dt.py,Dt.eq,PyData.eqv]
 | .str _,.non,_,_=>by simp [Dt.py,Dt.eq,PyData.eqv]
 | .str _,.bl _,_,_=>by simp [Dt.py,Dt.eq,PyData.eqv]
 | .str _,.int _,_,_=>by simp [Dt.py,Dt.eq,PyData.eqv]
 | .str _,.str _,_,_=>by simp [Dt.py,Dt.eq,PyData.eqv]
 | .str _,.tup _,_,_=>by simp [Dt.py,Dt.eq,PyData.eqv]
 | .str _,.lst _,_,_=>by simp [Dt.py,Dt.eq,PyData.eqv]
 | .tup _,.non,_,_=>by simp [Dt.py,Dt.eq,PyData.eqv]
 | .tup _,.bl _,_,_=>by simp [Dt.py,Dt.eq,PyData.eqv]
 | .tup _,.int _,_,_=>by simp [Dt.py,Dt.eq,PyData.eqv]
 | .tup _,.str _,_,_=>by simp [Dt.py,Dt.eq,PyData.eqv]
 | .tup xs,.tup ys,h1,h2=>by
  rw [Dt.py] at h1 h2
  rw [Dt.py,Dt.py,Dt.eq,PyData.eqv]
  exact TJ xs ys (by simpa [PyData.canLay0] using h1) (by simpa [PyData.canLay0] using h2)
 | .tup _,.lst _,_,_=>by simp [Dt.py,Dt.eq,PyData.eqv]
 | .lst _,.non,_,_=>by simp [Dt.py,Dt.eq,PyData.eqv]
 | .lst _,.bl _,_,_=>by simp [Dt.py,Dt.eq,PyData.eqv]
 | .lst _,.int _,_,_=>by simp [Dt.py,Dt.eq,PyData.eqv]
 | .lst _,.str _,_,_=>by simp [Dt.py,Dt.eq,PyData.eqv]
 | .lst _,.tup _,_,_=>by simp [Dt.py,Dt.eq,PyData.eqv]
 | .lst xs,.lst ys,h1,h2=>by
  rw [Dt.py] at h1 h2
  rw [Dt.py,Dt.py,Dt.eq,PyData.eqv]
  exact TJ xs ys (by simpa [PyData.canLay0] using h1) (by simpa [PyData.canLay0] using h2)
theorem TJ:∀ (xs ys:List Dt),PyData.canLayAll0 (Dt.pys xs)=true→PyData.canLayAll0 (Dt.pys ys)=true→PyData.eqvAll (Dt.pys xs) (Dt.pys ys)=Dt.eqs xs ys
 | [],[],_,_=>by simp [Dt.pys,Dt.eqs,PyData.eqvAll]
 | [],_ :: _,_,_=>by simp [Dt.pys,Dt.eqs,PyData.eqvAll]
 | _ :: _,[],_,_=>by simp [Dt.pys,Dt.eqs,PyData.eqvAll]
 | x :: xs,y :: ys,h1,h2=>by
  rw [Dt.pys] at h1 h2
  have h1':x.py.canLay0=true∧PyData.canLayAll0 (Dt.pys xs)=true:=by simpa [PyData.canLayAll0] using h1
  have h2':y.py.canLay0=true∧PyData.canLayAll0 (Dt.pys ys)=true:=by simpa [PyData.canLayAll0] using h2
  rw [Dt.pys,Dt.pys,Dt.eqs,PyData.eqvAll,Ri x y h1'.1 h2'.1,TJ xs ys h1'.2 h2'.2]
end
noncomputable def AeS (K:PySem.W.Frag) (neg:Bool):R2:=fun x y H Q=>∃ a b,Rp K H a x∧Rp K H b y∧a.flat 8=true∧b.flat 8=true∧Q (.bl (if neg then !a.eq b else a.eq b)) H
theorem AcL (hu:X.A.units+64 < cLine):OpR X (compareOp .Eq) (AeS X.K false):=by
 intro pins s σ H x y v u Q I rx ry ⟨a,b,ra,rb,fa,fb,q⟩
 obtain ⟨ca,da⟩:=Gd a 8 fa
 obtain ⟨cb,db⟩:=Gd b 8 fb
 obtain ⟨as,r1⟩:=HJ I ca ra rx
 obtain ⟨bs,r2⟩:=HJ I cb rb ry
 refine rcAt_reads r1 r2 ca cb (by omega) _ _ _ _ ?_
 rw [Ri a b ca cb]
 exact ⟨.bl _,H,I,rfl,q⟩
theorem Ace (hu:X.A.units+64 < cLine):OpR X (compareOp .NotEq) (AeS X.K true):=by
 intro pins s σ H x y v u Q I rx ry ⟨a,b,ra,rb,fa,fb,q⟩
 obtain ⟨ca,da⟩:=Gd a 8 fa
 obtain ⟨cb,db⟩:=Gd b 8 fb
 obtain ⟨as,r1⟩:=HJ I ca ra rx
 obtain ⟨bs,r2⟩:=HJ I cb rb ry
 refine compareNe_reads r1 r2 ca cb (by omega) ?_
 rw [Ri a b ca cb]
 exact ⟨.bl _,H,I,rfl,q⟩
noncomputable def dEq:D2:=fun a b Q=>(a.flat 8=true∧b.flat 8=true)∧Q (.bl (a.eq b))
noncomputable def dNe:D2:=fun a b Q=>(a.flat 8=true∧b.flat 8=true)∧Q (.bl (!a.eq b))
theorem AaC {K:PySem.W.Frag}:Jp K (AeS K false) dEq:=⟨fun hq h=>⟨h.1,hq _ h.2⟩,fun O H a b x y Q _ ra rb h=>⟨a,b,ra.mono Bu,rb.mono Bu,h.1.1,h.1.2,h.2 _ H (Same.refl H) (Cw.mpr rfl)⟩⟩
theorem Acx {K:PySem.W.Frag}:Jp K (AeS K true) dNe:=⟨fun hq h=>⟨h.1,hq _ h.2⟩,fun O H a b x y Q _ ra rb h=>⟨a,b,ra.mono Bu,rb.mono Bu,h.1.1,h.1.2,h.2 _ H (Same.refl H) (Cw.mpr rfl)⟩⟩
theorem MJ (hu:X.A.units+64 < cLine) (ha:DE X a ta) (hb:DE X b tb):DE X (.Compare a [.Eq] [b] pos) (dOp dEq ta tb):=TV (AcL hu) AaC ha hb (Hy _)
theorem AfC (hu:X.A.units+64 < cLine) (ha:DE X a ta) (hb:DE X b tb):DE X (.Compare a [.NotEq] [b] pos) (dOp dNe ta tb):=TV (Ace hu) Acx ha hb (Hy _)
theorem JQ (hu:X.A.units+64 < cLine) (ha:DE X a ta) (hb:DE X b tb):DT X (.Compare a [.Eq] [b] pos) (O2 (dOp dEq ta tb)):=K9 (AcL hu) AaC ha hb (Hy _)
theorem Fy (hu:X.A.units+64 < cLine) (ha:DE X a ta) (hb:DE X b tb):DT X (.Compare a [.NotEq] [b] pos) (O2 (dOp dNe ta tb)):=K9 (Ace hu) Acx ha hb (Hy _)
noncomputable def isB (k:Bool):Dt→Bool
 | .bl b=>b == k
 | _=>false
noncomputable def isN:Dt→Bool
 | .non=>true
 | _=>false
theorem Ahk:OpR X (compareOp .Is) (fun x y H Q=>∃ k:Bool,y=.bl k∧Q (.bl (decide (x=.bl k))) H):=by
 intro pins s σ H x y v u Q I rx ry ⟨k,e,q⟩
 subst e
 cases (show u=.bool k from ry)
 cases x with
 | non=>cases (show v=.none from rx);exact wpAny_is_plain rfl (DR I q (by simp))
 | bl b=>cases (show v=.bool b from rx);exact wpAny_is_plain rfl (DR I q (by cases b <;> cases k <;> rfl))
 | int i=>obtain ⟨t,rfl⟩:=rx;exact wpAny_is_plain rfl (DR I q (by simp))
 | str i=>obtain ⟨t,rfl⟩:=rx;exact wpAny_is_plain rfl (DR I q (by simp))
 | byt i=>obtain ⟨t,rfl⟩:=rx;exact wpAny_is_plain rfl (DR I q (by simp))
 | flt i=>obtain ⟨t,rfl⟩:=rx;exact wpAny_is_plain rfl (DR I q (by simp))
 | ref i=>cases (show v=.ref i from rx);exact wpAny_is_plain rfl (DR I q (by simp))
 | ty i=>cases (show v=.type i from rx);exact wpAny_is_plain rfl (DR I q (by simp))
theorem Adn:OpR X (compareOp .IsNot) (fun x y H Q=>∃ k:Bool,y=.bl k∧Q (.bl (!decide (x=.bl k))) H):=by
 intro pins s σ H x y v u Q I rx ry ⟨k,e,q⟩
 subst e
 cases (show u=.bool k from ry)
 cases x with
 | non=>cases (show v=.none from rx);exact wpAny_isNot_plain rfl (DR I q (by simp))
 | bl b=>cases (show v=.bool b from rx);exact wpAny_isNot_plain rfl (DR I q (by cases b <;> cases k <;> rfl))
 | int i=>obtain ⟨t,rfl⟩:=rx;exact wpAny_isNot_plain rfl (DR I q (by simp))
 | str i=>obtain ⟨t,rfl⟩:=rx;exact wpAny_isNot_plain rfl (DR I q (by simp))
 | byt i=>obtain ⟨t,rfl⟩:=rx;exact wpAny_isNot_plain rfl (DR I q (by simp))
 | flt i=>obtain ⟨t,rfl⟩:=rx;exact wpAny_isNot_plain rfl (DR I q (by simp))
 | ref i=>cases (show v=.ref i from rx);exact wpAny_isNot_plain rfl (DR I q (by simp))
 | ty i=>cases (show v=.type i from rx);exact wpAny_isNot_plain rfl (DR I q (by simp))
theorem Ab6 {K:PySem.W.Frag} {H:Hp} {d:Dt} {v:V} {k:Bool} (r:Rp K H d v):decide (v=.bl k)=isB k d:=by
 cases d with
 | non=>rw [Jt.mp r];simp [isB]
 | bl b=>rw [Cw.mp r];cases b <;> cases k <;> simp [isB]
 | int i=>rw [Bb.mp r];simp [isB]
 | str i=>rw [N8.mp r];simp [isB]
 | fn a=>rw [AfB.mp r];simp [isB]
 | exc _ _ _=>obtain ⟨a,_,_,_,_,rfl,_⟩:=AcN.mp r;simp [isB]
 | obj _ _ _=>obtain ⟨a,_,_,_,rfl,_⟩:=QT.mp r;simp [isB]
 | tup ds=>obtain ⟨a,xs,rfl,_⟩:=CW.mp r;simp [isB]
 | lst ds=>obtain ⟨a,xs,rfl,_⟩:=Fb r;simp [isB]
theorem Ab9 {K:PySem.W.Frag} {H:Hp} {d:Dt} {v:V} (r:Rp K H d v):decide (v=.non)=isN d:=by
 cases d with
 | non=>rw [Jt.mp r];simp [isN]
 | bl b=>rw [Cw.mp r];simp [isN]
 | int i=>rw [Bb.mp r];simp [isN]
 | str i=>rw [N8.mp r];simp [isN]
 | fn a=>rw [AfB.mp r];simp [isN]
 | exc _ _ _=>obtain ⟨a,_,_,_,_,rfl,_⟩:=AcN.mp r;simp [isN]
 | obj _ _ _=>obtain ⟨a,_,_,_,rfl,_⟩:=QT.mp r;simp [isN]
 | tup ds=>obtain ⟨a,xs,rfl,_⟩:=CW.mp r;simp [isN]
 | lst ds=>obtain ⟨a,xs,rfl,_⟩:=Fb r;simp [isN]
noncomputable def dIs (neg:Bool):D2:=fun a b Q=>match b with
 | .bl k=>Q (.bl (if neg then !isB k a else isB k a))
 | .non=>Q (.bl (if neg then !isN a else isN a))
 | _=>False
theorem Wm {neg:Bool}:∀ {a b Q Q'},(∀ d,Q d→Q' d)→dIs neg a b Q→dIs neg a b Q':=fun {a b Q Q'} hq h=>by
 unfold dIs at h ⊢
 split at h
 ·exact hq _ h
 ·exact hq _ h
 ·exact h.elim
theorem AgO {K:PySem.W.Frag}:Jp K (fun x y H Q=>(∃ k:Bool,y=.bl k∧Q (.bl (decide (x=.bl k))) H)∨(y=.non∧Q (.bl (decide (x=.non))) H)) (dIs false):=⟨Wm,fun O H a b x y Q _ ra rb h=>by
 unfold dIs at h
 split at h
 ·exact .inl ⟨_,Cw.mp rb,by rw [Ab6 ra];exact h _ H (Same.refl H) (Cw.mpr rfl)⟩
 ·exact .inr ⟨Jt.mp rb,by rw [Ab9 ra];exact h _ H (Same.refl H) (Cw.mpr rfl)⟩
 ·exact h.elim⟩
theorem Ae5 {K:PySem.W.Frag}:Jp K (fun x y H Q=>(∃ k:Bool,y=.bl k∧Q (.bl (!decide (x=.bl k))) H)∨(y=.non∧Q (.bl (!decide (x=.non))) H)) (dIs true):=⟨Wm,fun O H a b x y Q _ ra rb h=>by
 unfold dIs at h
 split at h
 ·exact .inl ⟨_,Cw.mp rb,by rw [Ab6 ra];exact h _ H (Same.refl H) (Cw.mpr rfl)⟩
 ·exact .inr ⟨Jt.mp rb,by rw [Ab9 ra];exact h _ H (Same.refl H) (Cw.mpr rfl)⟩
 ·exact h.elim⟩
theorem AhL (ha:DE X a ta) (hb:DE X b tb):DT X (.Compare a [.Is] [b] pos) (O2 (dOp (dIs false) ta tb)):=K9 (Ahk.or AgM) AgO ha hb (Hy _)
theorem Adf (ha:DE X a ta) (hb:DE X b tb):DT X (.Compare a [.IsNot] [b] pos) (O2 (dOp (dIs true) ta tb)):=K9 (Adn.or AeI) Ae5 ha hb (Hy _)
noncomputable def Rf (t t':D2) (ta tb tc:DTE):DTE:=fun ρ Q=>ta ρ fun a=>tb ρ fun b=>t a b fun z=>match z with
 | .bl k=>if k=true then tc ρ fun c=>t' b c Q else Q (.bl false)
 | _=>False
theorem Yd {t t':D2} {ta tb tc:DTE} (m:∀ {a b Q Q'},(∀ d,Q d→Q' d)→t a b Q→t a b Q') (m':∀ {a b Q Q'},(∀ d,Q d→Q' d)→t' a b Q→t' a b Q')
  (ma:∀ {ρ Q Q'},(∀ d,Q d→Q' d)→ta ρ Q→ta ρ Q') (mb:∀ {ρ Q Q'},(∀ d,Q d→Q' d)→tb ρ Q→tb ρ Q') (mc:∀ {ρ Q Q'},(∀ d,Q d→Q' d)→tc ρ Q→tc ρ Q') :
  ∀ {ρ Q Q'},(∀ d,Q d→Q' d)→Rf t t' ta tb tc ρ Q→Rf t t' ta tb tc ρ Q':=fun hq h=>ma (fun _ h=>mb (fun _ h=>m (fun z h=>by
   split at h
   ·rename_i k
    cases k with
    | true=>exact mc (fun _ h=>m' hq h) h
    | false=>exact hq _ h
   ·exact h.elim) h) h) h
theorem Aar {K:PySem.W.Frag} {r r':R2} {t t':D2} (S:Jp K r t) (S':Jp K r' t') {ta tb tc:DTE} (ma:∀ {ρ Q Q'},(∀ d,Q d→Q' d)→ta ρ Q→ta ρ Q') (mb:∀ {ρ Q Q'},(∀ d,Q d→Q' d)→tb ρ Q→tb ρ Q') (mc:∀ {ρ Q Q'},(∀ d,Q d→Q' d)→tc ρ Q→tc ρ Q')
  (σ:St) (H:Hp) (Q:VK) (h:lE K (Rf t t' ta tb tc) σ H Q):Abw r r' (lE K ta) (lE K tb) (lE K tc) σ H Q:=by
 obtain ⟨B,F,O,ρ,R,h⟩:=h
 refine ⟨B,F,O,ρ,R,ma (fun a h v H1 s1 r1=>⟨B,F,O,ρ,R.same s1,mb (fun b h u H2 s2 r2=>?_) h⟩) h⟩
 refine S.ok _ H2 a b v u _ ((R.same s1).same s2).th (r1.mono s2.mask) r2 (S.mono (fun z h w H3 s3 r3=>?_) h)
 split at h
 ·rename_i k
  refine ⟨k,Cw.mp r3,?_⟩
  have s123:=(s1.trans s2).trans s3
  cases k with
  | true=>exact ⟨B,F,O,ρ,R.same s123,mc (fun c h y H4 s4 r4=>S'.ok _ H4 b c u y Q ((R.same s123).same s4).th ((r2.mono s3.mask).mono s4.mask) r4 (S'.mono (fun d q w' H5 s5 r5=>q w' H5 ((s123.trans s4).trans s5) r5) h)) h⟩
  | false=>exact h _ H3 s123 (Cw.mpr rfl)
 ·exact h.elim
theorem Vc {op op':CmpOp} {r r':R2} {t t':D2} (ho:OpR X (compareOp op) r) (ho':OpR X (compareOp op') r') (S:Jp X.K r t) (S':Jp X.K r' t') (ha:DE X a ta) (hb:DE X b tb) (hc:DE X c tc)
  (hm:lastMarks [op,op'] [b,c]=false:=by with_unfolding_all rfl):DE X (.Compare a [op,op'] [b,c] pos) (Rf t t' ta tb tc) where
 mono:=Yd (t:=t) (t':=t') (ta:=ta) (tb:=tb) (tc:=tc) S.mono S'.mono ha.mono hb.mono hc.mono
 pe:=(Acl ho ho' ha.pe hb.pe hc.pe hm).imp (Aar (ta:=ta) (tb:=tb) (tc:=tc) S S' ha.mono hb.mono hc.mono)
noncomputable abbrev DL:=List Dt→(Dt→Prop)→Prop
structure U7 (K:PySem.W.Frag) (r:List V→Hp→VK→Prop) (t:DL):Prop where
 mono:∀ {ds Q Q'},(∀ d,Q d→Q' d)→t ds Q→t ds Q'
 ok:∀ (O:List Addr) (H:Hp) (ds:List Dt) (xs:List V) (Q:VK),(∀ p∈O,H p≠none)→RpL K (mask O H) ds xs →
  t ds (fun d=>∀ v H',Same H H'→Rp K (mask O H') d v→Q v H')→r xs H Q
noncomputable def dCB (t:DL) (tl:DTA):DTE:=fun ρ Q=>tl ρ fun ds=>t ds Q
theorem AhZ {K:PySem.W.Frag} {r:List V→Hp→VK→Prop} {t:DL} (S:U7 K r t) {tl:DTA} (m:∀ {ρ Q Q'},(∀ d,Q d→Q' d)→tl ρ Q→tl ρ Q') (σ:St) (H:Hp) (Q:VK) (h:lE K (dCB t tl) σ H Q):tCB r (lA K tl) σ H Q:=by
 obtain ⟨B,F,O,ρ,R,h⟩:=h
 exact ⟨B,F,O,ρ,R,m (fun ds h vs H1 s1 r1=>S.ok _ H1 ds vs Q (R.same s1).th r1 (S.mono (fun d q v H2 s2 r2=>q v H2 (s1.trans s2) r2) h)) h⟩
theorem RZ {id:String} {x:Str} {p:Pos} {r:List V→Hp→VK→Prop} {t:DL} (hc:Np X (.builtin id) r) (S:U7 X.K r t) (hg:Gl X x) (hm:X.mg x=none) (hv:bootBuiltins x=some (.builtin id)) (ha:DA X (e :: es) tl) (hn:x≠"__name__":=by decide)
  (hdb:(x == ("__debug__":Str))=false:=by decide) (he:starEach (e :: es) X.env=(false,eval e X.env) :: starEach es X.env:=by rfl) (hpl:(backTo pos (starEach es X.env)).any (·.1)=false:=by rfl):DE X (.Call (.Name x p) (e :: es) [] pos) (dCB t tl) where
 mono:=fun hq h=>ha.mono (fun _ h=>S.mono hq h) h
 pe:=(Wt hc hg hm hv ha.pa hn hdb he hpl).imp (AhZ (tl:=tl) S ha.mono)
noncomputable def AcM:DL:=fun ds Q=>match ds with
 | [.lst xs]=>Q (.int xs.length)
 | [.tup xs]=>Q (.int xs.length)
 | _=>False
noncomputable def Acf:DL:=fun ds Q=>match ds with
 | [.int i]=>Q (.int (if i < 0 then -i else i))
 | _=>False
noncomputable def Acy:DL:=fun ds Q=>match ds with
 | [.int i,.int j]=>Q (.int (if j > i then j else i))
 | _=>False
noncomputable def AmP:DL:=fun ds Q=>match ds with
 | [.int i,.int j]=>Q (.int (if j < i then j else i))
 | _=>False
noncomputable def Aix:DL:=fun ds Q=>match ds with
 | [.int i]=>Q (.int i)
 | [.bl k]=>Q (.int (if k then 1 else 0))
 | _=>False
theorem Adp {K:PySem.W.Frag}:U7 K (fun xs H Q=>∃ p ys,xs=[.ref p]∧(SqL K H p ys∨SqT K H p ys)∧Q (.int ys.length) H) AcM where
 mono:=fun hq h=>by
  unfold AcM at h ⊢
  split at h
  ·exact hq _ h
  ·exact hq _ h
  ·exact h.elim
 ok:=fun O H ds xs Q _ r h=>by
  unfold AcM at h
  split at h
  ·obtain ⟨v,r',rfl,r2,r3⟩:=Bc.mp r
   obtain rfl:=BJ.mp r3
   obtain ⟨a,ys,rfl,hs,hl⟩:=Fb r2
   exact ⟨a,ys,rfl,.inl (Bu.seq hs),by rw [hl.len];exact h _ H (Same.refl H) (Bb.mpr rfl)⟩
  ·obtain ⟨v,r',rfl,r2,r3⟩:=Bc.mp r
   obtain rfl:=BJ.mp r3
   obtain ⟨a,ys,rfl,hs,hl⟩:=CW.mp r2
   exact ⟨a,ys,rfl,.inr (Bu.seqT hs),by rw [hl.len];exact h _ H (Same.refl H) (Bb.mpr rfl)⟩
  ·exact h.elim
theorem Ajj {K:PySem.W.Frag} {H:Hp} {i:Int} {xs:List V} (h:RpL K H [.int i] xs):xs=[.int i]:=by
 obtain ⟨v,r,rfl,r2,r3⟩:=Bc.mp h
 rw [BJ.mp r3,Bb.mp r2]
theorem Anr {K:PySem.W.Frag} {H:Hp} {i j:Int} {xs:List V} (h:RpL K H [.int i,.int j] xs):xs=[.int i,.int j]:=by
 obtain ⟨v,r,rfl,r2,r3⟩:=Bc.mp h
 rw [Ajj r3,Bb.mp r2]
theorem AeD {K:PySem.W.Frag}:U7 K (fun xs H Q=>∃ i,xs=[.int i]∧Q (.int (if i < 0 then -i else i)) H) Acf where
 mono:=fun hq h=>by
  unfold Acf at h ⊢
  split at h
  ·exact hq _ h
  ·exact h.elim
 ok:=fun O H ds xs Q _ r h=>by
  unfold Acf at h
  split at h
  ·exact ⟨_,Ajj r,h _ H (Same.refl H) (Bb.mpr rfl)⟩
  ·exact h.elim
theorem Aea {K:PySem.W.Frag}:U7 K (fun xs H Q=>∃ i j,xs=[.int i,.int j]∧Q (.int (if j > i then j else i)) H) Acy where
 mono:=fun hq h=>by
  unfold Acy at h ⊢
  split at h
  ·exact hq _ h
  ·exact h.elim
 ok:=fun O H ds xs Q _ r h=>by
  unfold Acy at h
  split at h
  ·exact ⟨_,_,Anr r,h _ H (Same.refl H) (Bb.mpr rfl)⟩
  ·exact h.elim
theorem Ka {p:Pos} (hm:X.mg "len"=none) (ha:DA X [a] tl) (hg:Gl X "len":=by rfl) (he:starEach [a] X.env=(false,eval a X.env) :: starEach [] X.env:=by rfl) (hpl:(backTo pos (starEach [] X.env)).any (·.1)=false:=by rfl) :
  DE X (.Call (.Name "len" p) [a] [] pos) (dCB AcM tl):=RZ TX Adp hg hm PySem.boot_len ha (he:=he) (hpl:=hpl)
theorem Ie {p:Pos} (hm:X.mg "abs"=none) (ha:DA X [a] tl) (hg:Gl X "abs":=by rfl) (hv:bootBuiltins "abs"=some (.builtin "abs"):=by rfl) (he:starEach [a] X.env=(false,eval a X.env) :: starEach [] X.env:=by rfl) (hpl:(backTo pos (starEach [] X.env)).any (·.1)=false:=by rfl) :
  DE X (.Call (.Name "abs" p) [a] [] pos) (dCB Acf tl):=RZ Abg AeD hg hm hv ha (he:=he) (hpl:=hpl)
theorem AgT {p:Pos} (hm:X.mg "max"=none) (ha:DA X [a,b] tl) (hc:X.calm=true:=by rfl) (hg:Gl X "max":=by rfl) (hv:bootBuiltins "max"=some (.builtin "max"):=by rfl) (he:starEach [a,b] X.env=(false,eval a X.env) :: starEach [b] X.env:=by rfl)
  (hpl:(backTo pos (starEach [b] X.env)).any (·.1)=false:=by rfl):DE X (.Call (.Name "max" p) [a,b] [] pos) (dCB Acy tl):=RZ (Z8 hc) Aea hg hm hv ha (he:=he) (hpl:=hpl)
noncomputable def tyOf:Dt→String
 | .non=>"NoneType"
 | .bl _=>"bool"
 | .int _=>"int"
 | .str _=>"str"
 | .tup _=>"tuple"
 | .lst _=>"list"
 | .fn _=>"function"
 | .exc _ _ _=>"exception"
 | .obj _ _ _=>"instance"
noncomputable def noFn:Dt→Bool
 | .fn _=>false
 | .exc _ _ _=>false
 | .obj _ _ _=>false
 | _=>true
noncomputable def isT (T:String) (d:Dt):Bool:=tyOf d == T || (T == "int" && tyOf d == "bool")
noncomputable def VF (T:String):Prop:=∀ (K:PySem.W.Frag) (d:Dt),noFn d=true→PySem.W.kitOne K (.type (tyOf d)) (.type T)=some (isT T d)
theorem AcK {T:String} (hT:VF T):Np X (.builtin "isinstance") (fun xs H Q=>∃ d x,xs=[x,.ty T]∧Rp X.K H d x∧noFn d=true∧Q (.bl (isT T d)) H):=by
 intro pins s σ H xs us Q I r ⟨d,x,e,rp,nf,q⟩
 subst e
 obtain ⟨u,u2,rfl,r1,r2⟩:=vals2 r
 cases (show u2=.type T from r2)
 have hk:=hT X.K d nf
 have fin:∀ tk,EP X pins σ Q (.bool (isT T d)) { s with toks:=tk }:=fun tk=>⟨.bl _,H,I.tok tk,rfl,q⟩
 cases d with
 | non=>rw [Jt.mp rp] at r1;cases (show u=Value.none from r1);exact PySem.W.kia_one PySem.W.kitx_none I.kIn True.intro hk (fun z=>nomatch z) fin
 | bl y=>rw [Cw.mp rp] at r1;cases (show u=Value.bool y from r1);exact PySem.W.kia_one PySem.W.kitx_bool I.kIn True.intro hk (fun z=>nomatch z) fin
 | int i=>rw [Bb.mp rp] at r1;obtain ⟨t,q⟩:=(show ∃ t,u=Value.int i t from r1);cases q;exact PySem.W.kia_one PySem.W.kitx_int I.kIn True.intro hk (fun z=>nomatch z) fin
 | str y=>rw [N8.mp rp] at r1;obtain ⟨t,q⟩:=(show ∃ t,u=Value.str y t from r1);cases q;exact PySem.W.kia_one PySem.W.kitx_str I.kIn True.intro hk (fun z=>nomatch z) fin
 | fn a=>cases nf
 | exc _ _ _=>cases nf
 | obj _ _ _=>cases nf
 | tup ds =>
  obtain ⟨a,ys,rfl,hs,_⟩:=CW.mp rp
  cases (show u=Value.ref a from r1)
  obtain ⟨_,_,⟨o,h1,h2,_⟩,_⟩:=I.tuple hs
  exact PySem.W.kia_one PySem.W.kitx_tuple I.kIn ⟨o,h1,h2⟩ hk (fun z=>nomatch z) fin
 | lst ds =>
  obtain ⟨a,ys,rfl,hs,_⟩:=Fb rp
  cases (show u=Value.ref a from r1)
  obtain ⟨_,_,⟨o,n,h1,h2,_⟩,_⟩:=I.list hs
  exact PySem.W.kia_one PySem.W.kitx_list I.kIn ⟨o,h1,h2⟩ hk (fun z=>nomatch z) fin
noncomputable def AiL (T:String) (ta:DTE):DTE:=fun ρ Q=>ta ρ fun d=>noFn d=true∧Q (.bl (isT T d))
theorem X3 {T:String} {Ts:Str} {p p2:Pos} (hm:X.mg "isinstance"=none) (hmT:X.mg Ts=none) (hT:VF T) (ha:DE X a ta) (hg:Gl X "isinstance":=by rfl) (hgT:Gl X Ts:=by rfl) (hv:bootBuiltins "isinstance"=some (.builtin "isinstance"):=by rfl)
  (hvT:bootBuiltins Ts=some (.type T):=by rfl) (hn:Ts≠"__name__":=by decide) (hd:(Ts == ("__debug__":Str))=false:=by decide)
  (hs1:starEach [a,.Name Ts p2] X.env=(false,eval a X.env) :: starEach [.Name Ts p2] X.env:=by rfl) (hs2:starEach [.Name Ts p2] X.env=(false,eval (.Name Ts p2) X.env) :: starEach [] X.env:=by rfl)
  (hpl:(backTo pos (starEach [.Name Ts p2] X.env)).any (·.1)=false:=by rfl):DE X (.Call (.Name "isinstance" p) [a,.Name Ts p2] [] pos) (AiL T ta) where
 mono:=fun hq h=>ha.mono (fun _ h=>⟨h.1,hq _ h.2⟩) h
 pe:=(Wt (AcK hT) hg hm hv (Ks ha.pe (Ks (AdW (v:=.ty T) hgT hmT hvT rfl hn hd) Ud hs2) hs1) (he:=hs1) (hpl:=hpl)).imp fun σ H Q ⟨B,F,O,ρ,R,h⟩ =>
  ⟨B,F,O,ρ,R,ha.mono (fun d h v H1 s1 r1=>⟨d,v,rfl,r1.mono Bu,h.1,h.2 _ H1 s1 (Cw.mpr rfl)⟩) h⟩
noncomputable abbrev DTO:=Cj→(Option Int→Prop)→Prop
noncomputable def lO (K:PySem.W.Frag) (t:DTO):TO:=fun σ H Q=>∃ B F O ρ,Rep K B F O H σ ρ∧t ρ fun o=>∀ H',Same H H'→Q o H'
structure DO (X:Cx) (e:Option Expr) (t:DTO):Prop where
 mono:∀ {ρ Q Q'},(∀ d,Q d→Q' d)→t ρ Q→t ρ Q'
 po:PO X e (lO X.K t)
noncomputable def AcX:DTO:=fun _ Q=>Q none
noncomputable def AfJ (te:DTE):DTO:=fun ρ Q=>te ρ fun d=>match d with
 | .int i=>Q (some i)
 | _=>False
theorem PO.imp {e:Option Expr} {t t':TO} (h:PO X e t) (i:∀ σ H Q,t' σ H Q→t σ H Q):PO X e t':=fun pins s σ H Q I q=>h pins s σ H Q I (i _ _ _ q)
theorem Zb (h:DE X e te):DO X (some e) (AfJ te) where
 mono:=fun hq z=>h.mono (fun d z=>by
  split at z
  ·exact hq _ z
  ·exact z.elim) z
 po:=(Aez h.pe).imp fun σ H Q ⟨B,F,O,ρ,R,z⟩=>⟨B,F,O,ρ,R,h.mono (fun d z v H1 s1 r1=>by
  split at z
  ·exact ⟨_,Bb.mp r1,z H1 s1⟩
  ·exact z.elim) z⟩
noncomputable def cutD (xs:List Dt) (lo hi:Option Int):List Dt:=(xs.drop (HT.sIx xs.length 0 lo)).take (HT.sIx xs.length xs.length hi - HT.sIx xs.length 0 lo)
theorem RpL.cut {K:PySem.W.Frag} {H:Hp} {ds:List Dt} {xs:List V} {lo hi:Option Int} (h:RpL K H ds xs):RpL K H (cutD ds lo hi) (ZR xs lo hi):=by
 unfold cutD ZR
 rw [h.len]
 exact (h.drop _).take _
noncomputable def AbW (te:DTE) (tl th:DTO):DTE:=fun ρ Q=>te ρ fun d=>tl ρ fun lo=>th ρ fun hi=>match d with
 | .lst ds=>Q (.lst (cutD ds lo hi))
 | _=>False
theorem Aa3 {lo hi:Option Expr} {t1 t2:DTO} {p2:Pos} (he:DE X e te) (hl:DO X lo t1) (hh:DO X hi t2):DE X (.Subscript e (.Slice lo hi none p2) pos) (AbW te t1 t2) where
 mono:=fun hq z=>he.mono (fun d z=>hl.mono (fun l z=>hh.mono (fun h z=>by
  split at z
  ·exact hq _ z
  ·exact z.elim) z) z) z
 pe:=(AbI AdN he.pe hl.po hh.po).imp fun σ H Q ⟨B,F,O,ρ,R,z⟩=>⟨B,F,O,ρ,R,he.mono (fun d z v H1 s1 r1=>⟨B,F,O,ρ,R.same s1,hl.mono (fun l z H2 s2=>⟨B,F,O,ρ,(R.same s1).same s2,hh.mono (fun h z H3 s3=>by
  split at z
  ·obtain ⟨a,xs,rfl,hs,hr⟩:=Fb ((r1.mono s2.mask).mono s3.mask)
   refine ⟨a,xs,rfl,Bu.seq hs,fun p hp=>?_⟩
   have R3:=((R.same s1).same s2).same s3
   have np:p∉F ++ O:=fun m=>R3.th p m hp
   refine z (.ref p) _ (((s1.trans s2).trans s3).trans (Same.upd hp)) (M9 ⟨p,_,rfl,(M6 np),?_⟩)
   exact hr.cut.mono (Same.upd hp).mask
  ·exact z.elim) z⟩) z⟩) z⟩
end
theorem Aes:VF "int":=fun K d h=>by cases d <;> first | rfl | cases h
theorem Abq:VF "bool":=fun K d h=>by cases d <;> first | rfl | cases h
theorem Aah:VF "tuple":=fun K d h=>by cases d <;> first | rfl | cases h
end L2
namespace L2
open PySem PySem.Spec PyProof.Rows PySem.SeqAt
theorem Ls (env:Env):∀ (names:List (Str × NameKind)) (cs:List (Str × Addr)),(∀ y∈names,y.2=.free→∃ c,env.cells.lookup y.1=some c)→(∀ n c,cs.lookup n=some c→env.cells.lookup n=some c) →
  ∃ cl,(forIn names cs fun (x:Str × NameKind) (r:List (Str × Addr))=>(if (x.2 == NameKind.free)=true then (do let c ←cellOf env x.1;pure (ForInStep.yield ((x.1,c) :: r))) else pure (ForInStep.yield r):Sem (ForInStep (List (Str × Addr)))))=pure cl ∧
   (∀ n c,cl.lookup n=some c→env.cells.lookup n=some c)∧(∀ n,(cs.lookup n).isSome=true→(cl.lookup n).isSome=true)∧∀ n,(n,NameKind.free)∈names→(cl.lookup n).isSome=true
 | [],cs,_,h2=>⟨cs,rfl,h2,fun _ h=>h,fun n h=>(nomatch h)⟩
 | (x,k) :: names,cs,h1,h2=>by
  rw [List.forIn_cons]
  by_cases hk:k=.free
  ·subst hk
   obtain ⟨c,hc⟩:=h1 (x,.free) List.mem_cons_self rfl
   have e:cellOf env x=pure c:=by unfold cellOf;rw [hc]
   have h3:∀ n c',((x,c) :: cs).lookup n=some c'→env.cells.lookup n=some c':=fun n c' q=>by
    rw [List.lookup_cons] at q
    split at q
    ·rename_i b;cases q;rw [eq_of_beq b];exact hc
    ·exact h2 n c' q
   obtain ⟨cl,g1,g2,g3,g4⟩:=Ls env names ((x,c) :: cs) (fun y hy=>h1 y (List.mem_cons_of_mem _ hy)) h3
   refine ⟨cl,?_,g2,fun n q=>g3 n ?_,fun n hn=>?_⟩
   ·simp only [beq_self_eq_true,if_true,e,pure_bind]
    exact g1
   ·rw [List.lookup_cons];split
    ·rfl
    ·exact q
   ·rcases List.mem_cons.mp hn with q | q
    ·cases q
     exact g3 x (by rw [List.lookup_cons];simp)
    ·exact g4 n q
  ·have hb:(k == NameKind.free)=false:=by simpa using hk
   obtain ⟨cl,g1,g2,g3,g4⟩:=Ls env names cs (fun y hy=>h1 y (List.mem_cons_of_mem _ hy)) h2
   refine ⟨cl,?_,g2,g3,fun n hn=>?_⟩
   ·simp only [hb,Bool.false_eq_true,if_false,pure_bind]
    exact g1
   ·rcases List.mem_cons.mp hn with q | q
    ·cases q;exact absurd rfl hk
    ·exact g4 n q
theorem QM {env:Env} {scope:Scope} (h:∀ y∈scope.names,y.2=.free→∃ c,env.cells.lookup y.1=some c) :
  ∃ cl,closureFor scope env=pure cl∧(∀ n c,cl.lookup n=some c→env.cells.lookup n=some c)∧∀ n,(n,NameKind.free)∈scope.names→∃ c,cl.lookup n=some c:=by
 obtain ⟨cl,g1,g2,_,g4⟩:=Ls env scope.names [] h (fun n c q=>by simp at q)
 refine ⟨cl,?_,g2,fun n q=>Option.isSome_iff_exists.mp (g4 n q)⟩
 unfold closureFor
 simp only [bind_pure]
 exact g1
noncomputable def Bk (X:Cx) (scope:Scope) (N:List Str) (cl:List (Str × Addr)) (C:Addr) (s₀:Shared) (H₀:Hp) (ex:List Addr):Cx where
 prog:=X.prog
 w:=X.w
 K:=X.K
 mg:=X.mg
 base:=X.base
 A:=X.A
 N:=N
 s₀:=s₀
 H₀:=H₀
 env:=compEnvC scope cl C X.env
 outer:=X.stack
 stack:=X.stack
 ex:=ex
 fn:=fun _=>false
 calm:=X.calm
 pn:=[]
 xe:=fun _ _=>False
noncomputable def PTs (X:Cx) (ifs:List Expr) (t:TT):Prop :=
 ∀ (pins:List (Addr × Obj)) (s:Shared) (σ:St) (H:Hp) (Q:Bool→Hp→Prop),Inv X pins σ H s→t σ H Q →
  wpAny (model X.prog X.w) X.A (forIn ifs true fun c r=>if r=true then do let ok ←isTrue c X.env (eval c X.env);pure (ForInStep.yield ok) else pure (ForInStep.yield r)) (TP X pins σ Q) X.xe s
theorem AdD {X:Cx}:PTs X [] (fun _ H Q=>Q true H):=fun pins s σ H Q I h=>wpAny_tests_nil ⟨H,I,h⟩
theorem AeF {X:Cx} {c:Expr} {t:TT} (h:PT X c t):PTs X [c] t:=fun pins s σ H Q I q=>wpAny_tests_one (h pins s σ H Q I q)
noncomputable def Aa6 (sl:List Nat) (wi:TI) (tt:TT) (te:TE):TE:=fun σ H Q=>wi σ H fun J H1=>∃ vs:List V,sl.map (fun j=>σ[j]?)=vs.map (fun v=>some (some v))∧∀ D,H1 D=none →
 ∃ W:Nat→Nat→List V→Hp→Prop,(∃ m,W 0 m [] (upd H1 D (.lst [])))∧∀ i m acc H,W i m acc H →
  (J.stop i H∧Q (.ref D) H) ∨
  (J.go i H∧∀ x H',J.yld i H x H'→tt (some x :: vs.map some) H' fun b H2 =>
   if b=true then te (some x :: vs.map some) H2 fun y H3=>H3 D=some (.lst acc)∧acc.length < sizeLine∧∃ m',m' < m∧W (i+1) m' (acc ++ [y]) (upd H3 D (.lst (acc ++ [y])))
   else ∃ m',m' < m∧W (i+1) m' acc H2)
theorem GZ {env:Env}:∀ {names:List (Str × NameKind)} {x:Str},names.lookup x=some .free→env.scope.kind=.function→env.kindOf x=some .cell →
  (names.map fun (n,k)=>if (k == NameKind.free && env.scope.kind == .function && env.kindOf n == some .cell) then (n,NameKind.cell) else (n,k)).lookup x=some .cell
 | [],_,h,_,_=>by simp at h
 | (n,k) :: r,x,h,hk,he=>by
  have ih:=@GZ env r x
  show List.lookup x ((if (k == NameKind.free && env.scope.kind == .function && env.kindOf n == some .cell)=true then (n,NameKind.cell) else (n,k)) :: _)=_
  cases hx:x == n with
  | true =>
   simp only [List.lookup_cons,hx] at h
   cases h
   have e:=eq_of_beq hx
   subst e
   simp [List.lookup_cons,hk,he]
  | false =>
   simp only [List.lookup_cons,hx] at h
   by_cases hc:(k == NameKind.free && env.scope.kind == .function && env.kindOf n == some .cell)=true
   ·rw [if_pos hc];simp only [List.lookup_cons,hx];exact ih h hk he
   ·rw [if_neg hc];simp only [List.lookup_cons,hx];exact ih h hk he
theorem Ly {env:Env}:∀ {names:List (Str × NameKind)} {x:Str},(∀ y∈names,y.2≠.cell) →
  ((names.map fun (n,k)=>if (k == NameKind.free && env.scope.kind == .function && env.kindOf n == some .cell) then (n,NameKind.cell) else (n,k)).lookup x=some .cell ∨
   (names.map fun (n,k)=>if (k == NameKind.free && env.scope.kind == .function && env.kindOf n == some .cell) then (n,NameKind.cell) else (n,k)).lookup x=some .free)→(x,NameKind.free)∈names
 | [],_,_,h=>by simp at h
 | (n,k) :: r,x,hn,h=>by
  have ih:=@Ly env r x fun y hy=>hn y (List.mem_cons_of_mem _ hy)
  have nk:k≠.cell:=hn (n,k) List.mem_cons_self
  rw [List.map_cons] at h
  by_cases hc:(k == NameKind.free && env.scope.kind == .function && env.kindOf n == some .cell)=true
  ·simp only [hc,if_true,List.lookup_cons] at h
   have kf:k=.free:=by simp at hc;exact hc.1.1
   subst kf
   cases hx:x == n with
   | true=>rw [eq_of_beq hx];exact List.mem_cons_self
   | false=>simp only [hx] at h;exact List.mem_cons_of_mem _ (ih h)
  ·have hc':(k == NameKind.free && env.scope.kind == .function && env.kindOf n == some .cell)=false:=by simpa using hc
   simp only [hc',Bool.false_eq_true,if_false,List.lookup_cons] at h
   cases hx:x == n with
   | true =>
    simp only [hx] at h
    have kf:k=.free:=by
     rcases h with h | h
     ·exact absurd (Option.some.inj h) nk
     ·exact Option.some.inj h
    subst kf
    rw [eq_of_beq hx];exact List.mem_cons_self
   | false=>simp only [hx] at h;exact List.mem_cons_of_mem _ (ih h)
section
variable {X:Cx} {elt iter:Expr} {x:Str} {px:Pos} {ifs:List Expr} {scope:Scope} {pos:Pos} {N:List Str} {sl:List Nat} {wi:TI} {tt:TT} {te:TE}
structure Et (X:Cx) (scope:Scope) (x:Str) (N:List Str) (sl:List Nat):Prop where
 hx:scope.names.lookup x=some .local
 kind:scope.kind=.function
 cell:∀ y∈scope.names,y.2≠.cell
 names:∀ y∈scope.names,y.2=.local→scope.names.lookup y.1=some .local
 free:∀ y∈scope.names,y.2=.free→X.env.kindOf y.1=some .cell
 nd:(x :: N).Nodup
 sl:N.map some=sl.map (fun j=>X.N[j]?)
 frN:∀ n∈N,scope.names.lookup n=some .free
theorem WR (S:Et X scope x N sl) {pins:List (Addr × Obj)} {σ:St} {H:Hp} {s:Shared} {h₁:Heap} {tk:Nat} {fp:List Addr} {cl:List (Str × Addr)} {vs:List V} {o:Obj} (I:Inv X pins σ H s)
  (hfp:∀ b∈fp,O6 X pins H b) (hob:∀ b∈fp,∃ o,s.heap.get? b=some o) (hns:h₁.Ns s.heap.objs.size (fun _=>none)) (hsb:Heap.SameBut s.heap.objs.size (s.heap.push o) h₁)
  (hcl:∀ n c,cl.lookup n=some c→X.env.cells.lookup n=some c) (hcl2:∀ n,(n,NameKind.free)∈scope.names→∃ c,cl.lookup n=some c)
  (hvs:sl.map (fun j=>σ[j]?)=vs.map (fun v=>some (some v))) :
  Inv (Bk X scope (x :: N) cl s.heap.objs.size s H fp) [] (none :: vs.map some) H { s with heap:=h₁,toks:=tk }:=by
 have hL:=I.lt
 have keep:∀ b o,s.heap.get? b=some o→h₁.get? b=some o:=fun b o e=>(hsb.2 b (Nat.ne_of_lt (Heap.lt_size e))).trans (Heap.get?_push_of_some _ e)
 have kf:X.env.scope.kind=.function:=I.ok.kind
 refine ⟨⟨I.ok.mod,?_,I.ok.glob,I.ok.blt,Nat.le_refl _,fun y z c h1 h2=>I.ok.inj y z c (hcl y c h1) (hcl z c h2),fun y hy=>?_,fun y c h=>(by cases h),I.ok.hd,I.ok.frames,.inl rfl,fun b hb=>⟨?_,fun y c e=>?_⟩,fun b o e=>I.bs b o e,
  Nat.le_trans I.ok.bsz I.sz,fun b o e hb=>?_,fun b hb hz=>?_,I.stack,I.stkFree⟩,rfl,I.bare,Un.kept keep,⟨_,hns,fun i y v e1 e2 e3=>?_⟩,fun y c e=>?_,I.hok.fresh (Nat.le_refl _),fun y c e=>I.freeC y c (hcl y c e),
  fun p hp=>absurd (show p∈([]:List (Addr × Obj)) from hp) (by simp),I.hok.kept keep,?_⟩
 ·exact S.kind
 ·exact hcl2 y (Ly (env:=X.env) (fun z hz=>S.cell z hz) hy)
 ·obtain ⟨o',e⟩:=hob b hb
  exact Nat.ne_of_lt (Heap.lt_size e)
 ·exact (hfp b hb).2.2.2.2.1 y c (hcl y c e)
 ·rcases (hfp b hb).2.2.2.1 with z | z
  ·exact I.ok.noex b o e z
  ·exact absurd (Nat.lt_of_lt_of_le (Heap.lt_size e) (Nat.le_trans I.ok.bsz z)) (Nat.lt_irrefl _)
 ·rcases List.mem_cons.mp (I.stkSub b hz) with q | q
  ·exact (hfp b hb).2.1 q
  ·exact (hfp b hb).2.2.1 q
 ·cases i with
  | zero=>simp at e2
  | succ j =>
   have e1':N[j]? = some y:=by simpa [Bk] using e1
   have e2':vs[j]? = some v:=by
    rw [List.getElem?_cons_succ,List.getElem?_map] at e2
    cases q:vs[j]? with
    | none=>rw [q] at e2;cases e2
    | some v'=>rw [q] at e2;cases e2;rfl
   have q1:=congrArg (fun l=>l[j]?) S.sl
   have q2:=congrArg (fun l=>l[j]?) hvs
   simp only [List.getElem?_map,e1',e2',Option.map_some] at q1 q2
   cases hk:sl[j]? with
   | none=>rw [hk] at q1;cases q1
   | some k =>
    rw [hk] at q1 q2
    have n1:X.N[k]? = some y:=(Option.some.inj q1).symm
    have n2:σ[k]? = some (some v):=Option.some.inj q2
    have hfr:=S.frN y (List.mem_of_getElem? e1')
    have hm:=PySem.mem_of_lookup hfr
    have hc:=S.free _ hm rfl
    obtain ⟨m,hn,hl⟩:=I.loc
    obtain ⟨u,r,lk⟩:=hl k y v n1 n2 (.inr (.inl hc))
    refine ⟨u,r,.inr ⟨.inl (GZ hfr kf hc),?_⟩⟩
    rcases lk with ⟨kl,_⟩ | ⟨_,c,ec,⟨o',ho,hd⟩⟩
    ·rw [hc] at kl;cases kl
    ·obtain ⟨c',ec'⟩:=hcl2 y hm
     have:=hcl y c' ec'
     rw [ec] at this;cases this
     exact ⟨c,ec',o',keep _ _ ho,hd⟩
 ·obtain ⟨v,o',ho,hd⟩:=I.cell y c (hcl y c e)
  exact ⟨v,o',keep _ _ ho,hd⟩
 ·have l1:=congrArg List.length S.sl
  have l2:=congrArg List.length hvs
  simp only [List.length_map] at l1 l2
  simp [Bk];omega
theorem AeX (S:Et X scope x N sl) (hc:X.calm=true) (hi:PI X (.Name x px) iter wi) (ht:∀ cl C s₀ H₀ ex,PTs (Bk X scope (x :: N) cl C s₀ H₀ ex) ifs tt) (he:∀ cl C s₀ H₀ ex,PE (Bk X scope (x :: N) cl C s₀ H₀ ex) elt te)
  (hs:∀ x,foldedSetIterable iter X.env x=pure x:=by intro _;rfl):PE X (.ListComp elt [⟨.Name x px,iter,ifs,0⟩] scope pos) (Aa6 sl wi tt te):=by
 intro pins s σ H Q I h
 obtain ⟨cl,hclos,hcl,hcl2⟩:=QM (env:=X.env) (scope:=scope) fun y hy hf=>I.ok.has y.1 (.inl (S.free y hy hf))
 rw [eval_ListComp]
 refine wpAny_comprehension_free (use:=none) rfl hs hclos S.kind S.names (thn (hi pins s σ H _ I h) fun v s1 h1=>thn h1 fun itv s2 h2=>?_)
 obtain ⟨it,fp,tn,J,H2,e,I2,T,st2,f2,vs,hvs,hW⟩:=h2
 subst e
 refine wpAny_newObj_type (wpAny_newFunctionEnv S.cell (by intro y hy;simp at hy) (fun h₁ hns₁ hsb₁=>?_) S.kind)
 have hD:H2 s2.heap.objs.size=none:=I2.fresh
 have I3:Inv X pins σ (upd H2 s2.heap.objs.size (.lst [])) { s2 with heap:=s2.heap.push { cls:=.type "list",data:=.seq ([]:List Value).toArray },toks:=s2.toks }:=I2.lnew (its:=[]) (ys:=[]) .nil (Nat.zero_le _)
 have hbD:∀ b∈fp,b≠s2.heap.objs.size:=fun b hb z=>by
  obtain ⟨o',e',_⟩:=T.obj _ _ st2 b hb
  exact absurd (Heap.lt_size e') (by rw [z];exact Nat.lt_irrefl _)
 have f3:∀ b∈fp,O6 X pins (upd H2 s2.heap.objs.size (.lst [])) b:=fun b hb=>⟨by rw [Bp (hbD b hb)];exact (f2 b hb).1,(f2 b hb).2⟩
 have ob3:∀ b∈fp,∃ o,(s2.heap.push { cls:=.type "list",data:=.seq ([]:List Value).toArray }).get? b=some o:=fun b hb=>by
  obtain ⟨o',e',_⟩:=T.obj _ _ st2 b hb
  exact ⟨o',Heap.get?_push_of_some _ e'⟩
 have IC:=WR (tk:=s2.toks+([]:List (Str × Value)).length) S I3 f3 ob3 hns₁ hsb₁ hcl hcl2 hvs
 dsimp only at hsb₁ IC ⊢
 generalize hCC:(s2.heap.push { cls:=.type "list",data:=.seq ([]:List Value).toArray }).objs.size=C at hns₁ hsb₁ IC ⊢
 have old:∀ b o,s2.heap.get? b=some o→h₁.get? b=some o:=fun b o e=>by
  have e1:(s2.heap.push { cls:=.type "list",data:=.seq ([]:List Value).toArray }).get? b=some o:=Heap.get?_push_of_some _ e
  exact (hsb₁.2 b (by rw [←hCC];exact Nat.ne_of_lt (Heap.lt_size e1))).trans (Heap.get?_push_of_some _ e1)
 have st₁:tn 0 h₁:=T.keep _ _ _ st2 fun b hb o e=>old b o e
 obtain ⟨W,⟨m0,w0⟩,turn⟩:=hW s2.heap.objs.size hD
 have fpC:∀ {H':Hp} {pl:List (Addr × Obj)},(∀ b∈fp,H' b=none)→(∀ p∈pl,p.1∉fp)→∀ b∈fp,O6 (Bk X scope (x :: N) cl C { s2 with heap:=s2.heap.push { cls:=.type "list",data:=.seq ([]:List Value).toArray },toks:=s2.toks } (upd H2 s2.heap.objs.size (.lst [])) fp) pl H' b:=fun {H' pl} hn hp b hb=>by
  refine ⟨hn b hb,(IC.ok.exf b hb).1,IC.ok.exfs b hb,.inl hb,(IC.ok.exf b hb).2,fun p hq z=>?_⟩
  have hq':p∈pl:=by simpa [Bk] using hq
  exact hp p hq' (by rw [z];exact hb)
 have done:∀ {σ':St} {H':Hp} {s':Shared},Inv (Bk X scope (x :: N) cl C { s2 with heap:=s2.heap.push { cls:=.type "list",data:=.seq ([]:List Value).toArray },toks:=s2.toks } (upd H2 s2.heap.objs.size (.lst [])) fp) [] σ' H' s'→Q (.ref s2.heap.objs.size) H' →
   ∃ m,s'.heap.Ns C m∧∀ h',Heap.SameBut C s'.heap h'→EP X pins σ Q (.ref s2.heap.objs.size) { s' with heap:=h' }:=fun {σ' H' s'} J q=>by
  obtain ⟨m,hn,_⟩:=id J.loc
  refine ⟨m,hn,fun h' hs'=>⟨.ref s2.heap.objs.size,H',?_,rfl,q⟩⟩
  have u:Un (frs X.stack) fp H2 H' s2.heap s'.heap:=(Un.laid (fun b u e=>Heap.get?_push_of_some _ e) (Nat.le_refl _) hD).trans J.base
  have nC:∀ b o,s2.heap.get? b=some o→b≠C:=fun b o e=>by
   have e1:(s2.heap.push { cls:=.type "list",data:=.seq ([]:List Value).toArray }).get? b=some o:=Heap.get?_push_of_some _ e
   rw [←hCC];exact Nat.ne_of_lt (Heap.lt_size e1)
  have u':Un (frs X.stack) fp H2 H' s2.heap h' :=
   ⟨fun b o e n hb hx=>(hs'.2 b (nC b o e)).trans (u.keep b o e n hb hx),fun b o e n hb hx=>let ⟨sl,q⟩:=u.slot b o e n hb hx;⟨sl,(hs'.2 b (nC b o e)).trans q⟩,u.free,fun b o e hx=>let ⟨o',q⟩:=u.there b o e hx;⟨o',(hs'.2 b (nC b o e)).trans q⟩,u.tups,u.frzs,u.tbls⟩
  have hok:HOk X.prog X.w H' h':=fun b ob e=>(J.hok b ob e).stay (fun c w' hc q=>(hs'.2 c (by
   rintro rfl
   have hf:H' c=none:=J.free
   rcases hc with rfl | hc
   ·rw [hf] at e;cases e
   ·rw [hf] at hc;cases hc)).trans q) (fun _ q=>q) fun _ _ q=>q
  have hos:s'.os=s2.os:=J.os
  exact I2.call' (s':={ s' with heap:=h' }) (ch:=fp) hos u' hok J.bare fun b hb=>⟨(f2 b hb).2.2.2.1,(f2 b hb).2.1,(f2 b hb).2.2.2.2.1,(f2 b hb).2.2.2.2.2⟩
 have loop:codeAny (model X.prog X.w) X.A (.compLoop (.ListComp elt [⟨.Name x px,iter,ifs,0⟩] scope pos) 0 (.ref it) (.ref s2.heap.objs.size) (compEnvC scope cl C X.env)) (compPost (model X.prog X.w) X.A X.xe none (EP X pins σ Q) (.ref s2.heap.objs.size) C)
   { s2 with heap:=h₁,toks:=s2.toks+([]:List (Str × Value)).length }:=by
  refine codeAny_compLoop_tests (fun n s'=>∃ i acc σ' H',Inv (Bk X scope (x :: N) cl C { s2 with heap:=s2.heap.push { cls:=.type "list",data:=.seq ([]:List Value).toArray },toks:=s2.toks } (upd H2 s2.heap.objs.size (.lst [])) fp) [] σ' H' s'∧(∃ y,σ'=y :: vs.map some) ∧
   tn i s'.heap∧(∀ b∈fp,H' b=none)∧W i n acc H') ?_ m0 ⟨0,[],_,_,IC,⟨none,rfl⟩,st₁,fun b hb=>(f3 b hb).1,w0⟩
  rintro n s3 ⟨i,acc,σ3,H3,I4,⟨y,rfl⟩,st3,fr3,w3⟩
  rcases turn i n acc H3 w3 with ⟨stop,qn⟩ | ⟨go,step⟩
  ·refine wpAny_mono (T.done (Bk X scope (x :: N) cl C { s2 with heap:=s2.heap.push { cls:=.type "list",data:=.seq ([]:List Value).toArray },toks:=s2.toks } (upd H2 s2.heap.objs.size (.lst [])) fp) rfl rfl rfl hc i [] s3 _ H3 (fun _ _=>False) I4 (fpC fr3 (by simp)) st3 stop) (fun r s4 ⟨hr,I5⟩=>?_) fun _ _ z=>False.elim z
   subst hr
   exact done I5 qn
  ·refine wpAny_mono (T.item (Bk X scope (x :: N) cl C { s2 with heap:=s2.heap.push { cls:=.type "list",data:=.seq ([]:List Value).toArray },toks:=s2.toks } (upd H2 s2.heap.objs.size (.lst [])) fp) rfl rfl rfl hc i [] s3 _ H3 (fun _ _=>False) I4 (fpC fr3 (by simp)) st3 go) (fun r s4 ⟨u,hr,h4⟩=>?_) fun _ _ z=>False.elim z
   subst hr
   have e0:∀ (k:Unit→Sem Unit),(letOwnedTupleGo (.Name x px) (.ref it) u >>= k)=k ():=fun k=>rfl
   have hg:PG (Bk X scope (x :: N) cl C { s2 with heap:=s2.heap.push { cls:=.type "list",data:=.seq ([]:List Value).toArray },toks:=s2.toks } (upd H2 s2.heap.objs.size (.lst [])) fp) (.Name x px) (YF 0):=Ui S.nd rfl (.inl (lookup_relabel_local S.hx)) (.inr (lookup_relabel_local S.hx))
   show wpAny (model X.prog X.w) X.A (assign (.Name x px) (compEnvC scope cl C X.env) u) _ _ s4
   rw [←e0 fun _=>assign (.Name x px) (compEnvC scope cl C X.env) u]
   refine wpAny_bind (wpAny_mono h4 (fun _ s5 ⟨z,H5,I5,r5,y5,st5,fr5⟩=>?_) fun _ _ z=>False.elim z)
   have I5':=I5.pinned (fpC fr5 (by simp)) (T.obj _ _ st5)
   have W5:=hg _ s5 _ H5 z u (fun σ' H'=>σ'=some z :: vs.map some∧H'=H5) I5' r5 ⟨rfl,rfl⟩
   refine wpAny_mono W5 (fun _ s6 ⟨σ6,H6,I6,e6,e7⟩=>?_) fun _ _ z=>False.elim z
   subst e6 e7
   refine wpAny_mono (ht _ _ _ _ _ _ s6 _ H6 _ I6 (step z H6 y5)) (fun b s7 ⟨H7,I7,q7⟩=>?_) fun _ _ z=>False.elim z
   have again:∀ {H8:Hp} {s8:Shared} {acc':List V},Inv (Bk X scope (x :: N) cl C { s2 with heap:=s2.heap.push { cls:=.type "list",data:=.seq ([]:List Value).toArray },toks:=s2.toks } (upd H2 s2.heap.objs.size (.lst [])) fp) ([] ++ Nx fp s5.heap) (some z :: vs.map some) H8 s8→(∃ m',m' < n∧W (i+1) m' acc' H8)→∃ m,m < n∧∃ i acc σ' H',Inv (Bk X scope (x :: N) cl C { s2 with heap:=s2.heap.push { cls:=.type "list",data:=.seq ([]:List Value).toArray },toks:=s2.toks } (upd H2 s2.heap.objs.size (.lst [])) fp) [] σ' H' s8∧(∃ y,σ'=y :: vs.map some)∧tn i s8.heap∧(∀ b∈fp,H' b=none)∧W i m acc H':=fun {H8 s8 acc'} I8 ⟨m',hm,w8⟩=>by
    refine ⟨m',hm,i+1,acc',_,H8,I8.unpinned,⟨_,rfl⟩,T.keep _ _ _ st5 fun b hb o e=>(I8.pin (b,o) (List.mem_append_right _ (List.mem_append_right _ (Gu hb e)))).1,fun b hb=>?_,w8⟩
    obtain ⟨o,e,d⟩:=T.obj _ _ st5 b hb
    exact (I8.pin (b,o) (List.mem_append_right _ (List.mem_append_right _ (Gu hb e)))).2.1
   cases b with
   | false=>exact again I7 q7
   | true =>
    rw [if_pos rfl]
    refine wpAny_mono (he _ _ _ _ _ _ s7 _ H7 _ I7 q7) (fun v8 s8 ⟨x8,H8,I8,r8,hD8,hz8,q8⟩=>?_) fun _ _ z=>False.elim z
    refine wpAny_mono (Ob (X:=(Bk X scope (x :: N) cl C { s2 with heap:=s2.heap.push { cls:=.type "list",data:=.seq ([]:List Value).toArray },toks:=s2.toks } (upd H2 s2.heap.objs.size (.lst [])) fp)) _ s8 _ H8 (.ref s2.heap.objs.size) [x8] (.ref s2.heap.objs.size) [v8] (fun _ H9=>H9=upd H8 s2.heap.objs.size (.lst (acc ++ [x8]))) I8 rfl (.cons r8 .nil) ⟨_,acc,x8,rfl,rfl,hD8,hz8,rfl⟩) (fun _ s9 ⟨_,H9,I9,_,e9⟩=>?_) fun _ _ z=>False.elim z
    subst e9
    exact again I9 q8
 exact codeAny_compStart_list loop (T.self _ 0 _ _ _ st₁ loop)
noncomputable def inner (sl:List Nat) (ρ:Cj) (d:Dt):Cj:=some (.is d) :: sl.map fun j=>(ρ[j]?).join
structure DTs (X:Cx) (ifs:List Expr) (t:DTT):Prop where
 mono:∀ {ρ Q Q'},(∀ d,Q d→Q' d)→t ρ Q→t ρ Q'
 pts:PTs X ifs (lT X.K t)
noncomputable def VH:DTT:=fun _ Q=>Q true
theorem AeL:DTs X [] VH:=⟨fun hq h=>hq _ h,fun pins s σ H Q I ⟨B,F,O,ρ,R,h⟩=>AdD pins s σ H Q I (h H (Same.refl H))⟩
theorem YS {c:Expr} {t:DTT} (h:DT X c t):DTs X [c] t:=⟨h.mono,AeF h.pt⟩
noncomputable def caught (sl:List Nat) (ρ:Cj):Prop:=∀ j∈sl,∃ d,ρ[j]? = some (some (.is d))
noncomputable def J8 (sl:List Nat) (ti:DTI) (tt:DTT) (te:DTE):DTE:=fun ρ Q=>ti ρ fun items=>items.length≤sizeLine∧caught sl ρ ∧
 ∃ W:Nat→List Dt→Prop,W 0 []∧(∀ (k:Nat) d acc,items[k]? = some d→W k acc→tt (inner sl ρ d) fun b=>if b=true then te (inner sl ρ d) fun e=>W (k+1) (acc ++ [e]) else W (k+1) acc) ∧
  ∀ acc,acc.length≤items.length→W items.length acc→Q (.lst acc)
theorem Ow {K:PySem.W.Frag} {B:Hp} {F O:List Addr} {H:Hp} {σ:St} {ρ:Cj} (R:Rep K B F O H σ ρ):∀ {sl:List Nat},caught sl ρ→∃ vs ds,sl.map (fun j=>σ[j]?)=vs.map (fun v=>some (some v))∧sl.map (fun j=>(ρ[j]?).join)=ds.map (fun d=>some (En.is d))∧RpL K (mask (F ++ O) H) ds vs
 | [],_=>⟨[],[],rfl,rfl,RpL.nil⟩
 | j :: sl,h=>by
  obtain ⟨d,e⟩:=h j List.mem_cons_self
  obtain ⟨v,e1,e2⟩:=R.is j d e
  obtain ⟨vs,ds,h1,h2,h3⟩:=Ow R (sl:=sl) fun k hk=>h k (List.mem_cons_of_mem _ hk)
  exact ⟨v :: vs,d :: ds,by simp [e1,h1],by simp [e,h2],RpL.cons e2 h3⟩
theorem Aad {K:PySem.W.Frag} {F:List Addr} {H:Hp} {d:Dt} {v:V} {ds:List Dt} {vs:List V} (th:∀ a∈F,H a≠none) (r:Rp K (mask F H) d v) (rs:RpL K (mask F H) ds vs) :
  Rep K (fun _=>none) F [] H (some v :: vs.map some) (some (.is d) :: ds.map fun d=>some (En.is d)):=by
 have e:mask (F ++ []) H=mask F H:=by rw [List.append_nil]
 have noown:∀ (i:Nat) (es:En),(∀ z,es≠.is z)→(some (En.is d) :: ds.map fun d=>some (En.is d))[i]? = some (some es)→False:=fun i es nz q=>by
  cases i with
  | zero=>cases q;exact nz _ rfl
  | succ j =>
   rw [List.getElem?_cons_succ,List.getElem?_map] at q
   cases z:ds[j]? with
   | none=>rw [z] at q;cases q
   | some y=>rw [z] at q;cases q;exact nz _ rfl
 refine ⟨by simp [rs.len],fun a o q=>(nomatch q),fun a h=>(nomatch h),fun a h=>th a (by simpa using h),fun i y q=>?_,fun i es q=>(noown i _ (fun _ z=>by cases z) q).elim,fun i j es es' a h1=>(noown i _ (fun _ z=>by cases z) h1).elim,fun i es q=>(noown i _ (fun _ z=>by cases z) q).elim,fun i j es es' a h1=>(noown i _ (fun _ z=>by cases z) h1).elim⟩
 rw [e]
 cases i with
 | zero=>cases q;exact ⟨v,rfl,r⟩
 | succ j =>
  rw [List.getElem?_cons_succ,List.getElem?_map] at q
  cases z:ds[j]? with
  | none=>rw [z] at q;cases q
  | some y' =>
   rw [z] at q;cases q
   obtain ⟨u,h1,h2⟩:=rs.get z
   exact ⟨u,by rw [List.getElem?_cons_succ,List.getElem?_map,h1];rfl,h2⟩
theorem V7 {K:PySem.W.Frag} {sl:List Nat} {ti:DTI} {dt:DTT} {de:DTE} (mi:∀ {ρ Q Q'},(∀ d,Q d→Q' d)→ti ρ Q→ti ρ Q') (mt:∀ {ρ Q Q'},(∀ d,Q d→Q' d)→dt ρ Q→dt ρ Q') (me:∀ {ρ Q Q'},(∀ d,Q d→Q' d)→de ρ Q→de ρ Q')
  (σ:St) (H:Hp) (Q:VK) (h:lE K (J8 sl ti dt de) σ H Q):Aa6 sl (lI K ti) (lT K dt) (lE K de) σ H Q:=by
 obtain ⟨B,F,O,ρ,R,h⟩:=h
 refine ⟨B,F,O,ρ,R,mi (fun items ⟨h1,h2,W,w0,st,fin⟩ J H1 s1 it=>?_) h⟩
 have R1:=R.same s1
 obtain ⟨vs,ds,ev,ed,rs⟩:=Ow R1 h2
 refine ⟨vs,ev,fun D hD=>?_⟩
 have nD:D∉F ++ O:=fun z=>R1.th D z hD
 have sM:Same (mask (F ++ O) H1) (mask (F ++ O) (upd H1 D (.lst []))):=(Same.upd hD).mask
 refine ⟨fun i m acc H2=>m+i=items.length∧H2 D=some (.lst acc)∧acc.length≤i∧Same H1 H2∧∃ as,RpL K (mask (D :: (F ++ O)) H2) as acc∧W i as,⟨items.length,by omega,Cq,Nat.le_refl _,Same.upd hD,[],RpL.nil,w0⟩,?_⟩
 rintro i m acc H2 ⟨hm,e2,hl,s2,as,ra,w⟩
 have sb:Same (mask (F ++ O) H1) H2:=fun a o e=>s2 a o (Ek e).2
 have sD:Same (mask (F ++ O) H1) (mask (D :: (F ++ O)) H2):=fun a o e=>by
  obtain ⟨q,e⟩:=Ek e
  rw [Bl fun z=>by
   rcases List.mem_cons.mp z with z | z
   ·rw [z,hD] at e;cases e
   ·exact q z]
  exact s2 a o e
 obtain ⟨go,stop⟩:=it H2 sb
 by_cases hlt:i < items.length
 ·refine .inr ⟨(go i items[i] (by simp [hlt])).1,fun z H3 y=>?_⟩
  obtain ⟨e,r⟩:=(go i items[i] (by simp [hlt])).2 z H3 y
  subst e
  have th:∀ a∈D :: (F ++ O),H3 a≠none:=fun a ha q=>by
   rcases List.mem_cons.mp ha with z | z
   ·rw [z,e2] at q;cases q
   ·have:=R1.th a z
    cases q':H1 a with
    | none=>exact this q'
    | some o=>rw [s2 a o q'] at q;cases q
  have R3:=Aad th (r.mono sD) (rs.mono sD)
  have ei:some (En.is items[i]) :: ds.map (fun d=>some (En.is d))=inner sl ρ items[i]:=by unfold inner;rw [ed]
  rw [ei] at R3
  refine ⟨_,_,_,_,R3,mt (fun b q H4 s4=>?_) (st i _ as (by simp [hlt]) w)⟩
  cases b with
  | false =>
   refine ⟨m - 1,by omega,by omega,s4 _ _ e2,by omega,s2.trans s4,as,ra.mono s4.mask,q⟩
  | true =>
   refine ⟨_,_,_,_,R3.same s4,me (fun e q v5 H5 s5 r5=>?_) q⟩
   have e5:H5 D=some (.lst acc):=s5 _ _ (s4 _ _ e2)
   have hz:acc.length < sizeLine:=by omega
   have s6:Same (mask (D :: (F ++ O)) H5) (mask (D :: (F ++ O)) (upd H5 D (.lst (acc ++ [v5])))):=fun a o q=>by
    obtain ⟨n,q⟩:=Ek q
    rw [Bl n,Bp fun z=>n (by rw [z];exact List.mem_cons_self)];exact q
   have em:mask (D :: (F ++ O) ++ []) H5=mask (D :: (F ++ O)) H5:=by rw [List.append_nil]
   rw [em] at r5
   refine ⟨e5,hz,m - 1,by omega,by omega,Cq,by simp;omega,fun a o q=>?_,as ++ [e],(((ra.mono s4.mask).mono s5.mask).append (RpL.cons r5 RpL.nil)).mono s6,q⟩
   rw [Bp (Dr q hD)]
   exact s5 _ _ (s4 _ _ (s2 a o q))
 ·have e:i=items.length:=by omega
  subst e
  refine .inl ⟨stop,fin as (by rw [←ra.len];exact hl) w (.ref D) H2 (s1.trans s2) (M9 ⟨D,acc,rfl,(by rw [Bl nD];exact e2),ra.mono (HF fun a h=>List.mem_cons_of_mem _ h)⟩)⟩
theorem Vr {ti:DTI} {dt:DTT} {de:DTE} (S:Et X scope x N sl) (hc:X.calm=true) (hi:DI X (.Name x px) iter ti) (ht:∀ cl C s₀ H₀ ex,DTs (Bk X scope (x :: N) cl C s₀ H₀ ex) ifs dt) (he:∀ cl C s₀ H₀ ex,DE (Bk X scope (x :: N) cl C s₀ H₀ ex) elt de)
  (hs:∀ x,foldedSetIterable iter X.env x=pure x:=by intro _;rfl):DE X (.ListComp elt [⟨.Name x px,iter,ifs,0⟩] scope pos) (J8 sl ti dt de):=by
 have mt:∀ {ρ Q Q'},(∀ d,Q d→Q' d)→dt ρ Q→dt ρ Q':=(ht [] 0 X.s₀ X.H₀ []).mono
 have me:∀ {ρ Q Q'},(∀ d,Q d→Q' d)→de ρ Q→de ρ Q':=(he [] 0 X.s₀ X.H₀ []).mono
 refine ⟨fun hq h=>hi.mono (fun items ⟨h1,h2,W,w0,st,fin⟩=>⟨h1,h2,W,w0,st,fun acc l w=>hq _ (fin acc l w)⟩) h,?_⟩
 refine (AeX (tt:=lT X.K dt) (te:=lE X.K de) S hc hi.pi (fun cl C s₀ H₀ ex=>(ht cl C s₀ H₀ ex).pts) (fun cl C s₀ H₀ ex=>(he cl C s₀ H₀ ex).pe) hs).imp (V7 (ti:=ti) (dt:=dt) (de:=de) hi.mono mt me)
theorem PK {ti:DTI} {de:DTE} (S:Et X scope x N sl) (hc:X.calm=true) (hi:DI X (.Name x px) iter ti) (he:∀ cl C s₀ H₀ ex,DE (Bk X scope (x :: N) cl C s₀ H₀ ex) elt de)
  (hs:∀ x,foldedSetIterable iter X.env x=pure x:=by intro _;rfl):DE X (.ListComp elt [⟨.Name x px,iter,[],0⟩] scope pos) (J8 sl ti VH de):=Vr S hc hi (fun _ _ _ _ _=>AeL) he hs
theorem Ve {c:Expr} {ti:DTI} {dt:DTT} {de:DTE} (S:Et X scope x N sl) (hc:X.calm=true) (hi:DI X (.Name x px) iter ti) (ht:∀ cl C s₀ H₀ ex,DT (Bk X scope (x :: N) cl C s₀ H₀ ex) c dt) (he:∀ cl C s₀ H₀ ex,DE (Bk X scope (x :: N) cl C s₀ H₀ ex) elt de)
  (hs:∀ x,foldedSetIterable iter X.env x=pure x:=by intro _;rfl):DE X (.ListComp elt [⟨.Name x px,iter,[c],0⟩] scope pos) (J8 sl ti dt de):=Vr S hc hi (fun _ _ _ _ _=>YS (ht _ _ _ _ _)) he hs
end
end L2
namespace L2
open PySem PySem.Spec PyProof.Rows PySem.SeqAt
noncomputable def AfV (sc scope:Scope) (NN:List Str) (x:Str) (N:List Str) (sl:List Nat):Bool :=
 decide (scope.names.lookup x=some .local) && decide (scope.kind=.function) && scope.names.all (fun y=>decide (y.2≠.cell)) && scope.names.all (fun y=>decide (y.2=.local→scope.names.lookup y.1=some .local)) &&
  scope.names.all (fun y=>decide (y.2=.free→sc.names.lookup y.1=some .cell)) && decide (x :: N).Nodup && decide (N.map some=sl.map (fun j=>NN[j]?)) && N.all (fun n=>decide (scope.names.lookup n=some .free))
theorem Gk {X:Cx} {sc scope:Scope} {NN:List Str} {x:Str} {N:List Str} {sl:List Nat} (h1:X.env.scope=sc) (h2:X.N=NN) (h:AfV sc scope NN x N sl=true):Et X scope x N sl:=by
 subst h1 h2
 unfold AfV at h
 simp only [Bool.and_eq_true,decide_eq_true_eq,List.all_eq_true] at h
 obtain ⟨⟨⟨⟨⟨⟨⟨a,b⟩,c⟩,d⟩,e⟩,f⟩,g⟩,i⟩:=h
 exact ⟨a,b,c,d,e,f,g,i⟩
noncomputable def Bt (n:Nat) (x:Int):Prop:=x.natAbs < 2 ^ n
theorem Bt.le {n m:Nat} {x:Int} (h:Bt n x) (l:n≤m):Bt m x:=Nat.lt_of_lt_of_le h (Nat.pow_le_pow_right (by decide) l)
theorem Bt.mul {n m:Nat} {x y:Int} (a:Bt n x) (b:Bt m y):Bt (n+m) (x*y):=by
 unfold Bt at *
 rw [Int.natAbs_mul,Nat.pow_add]
 exact Nat.mul_lt_mul'' a b
theorem Bt.add {n m:Nat} {x y:Int} (a:Bt n x) (b:Bt m y):Bt (max n m+1) (x+y):=by
 have a':=a.le (Nat.le_max_left n m)
 have b':=b.le (Nat.le_max_right n m)
 unfold Bt at *
 rw [Nat.pow_succ]
 have:=Int.natAbs_add_le x y
 omega
theorem Bt.neg {n:Nat} {x:Int} (a:Bt n x):Bt n (-x):=by unfold Bt at *;rw [Int.natAbs_neg];exact a
theorem Bt.sub {n m:Nat} {x y:Int} (a:Bt n x) (b:Bt m y):Bt (max n m+1) (x - y):=by rw [Int.sub_eq_add_neg];exact a.add b.neg
theorem Bt.of_abs {n:Nat} {x:Int} (h:x.natAbs < 2 ^ n):Bt n x:=h
theorem Bt.of {n:Nat} {x:Int} (h1:-(2 ^ n) < x) (h2:x < 2 ^ n):Bt n x:=by
 unfold Bt
 have:((x.natAbs:Nat):Int) < ((2 ^ n:Nat):Int):=by push_cast;omega
 omega
theorem Bt.mulOk {n m:Nat} {x y:Int} (a:Bt n x) (b:Bt m y) (hn:n≤1048576:=by decide) (hm:m≤1048576:=by decide):IntMulOk x y :=
 IntMulOk.of_bits (intBits_le_iff.mpr (a.le hn)) (intBits_le_iff.mpr (b.le hm))
theorem Bt.divOk {n:Nat} {x y:Int} (a:Bt n y) (h:y≠0) (hn:n≤9000:=by decide):CDv x y:=⟨h,a.le hn⟩
theorem Bt.zero:Bt 0 0:=by unfold Bt;decide
theorem Bt.one:Bt 1 1:=by unfold Bt;decide
end L2
namespace L2
open PySem PySem.Spec PyProof.Rows PySem.SeqAt
section
variable {a b c d e f:Dt} {r s:List Dt} {i j:Int} {k l:Bool} {n:Nat} {x y:Str}
theorem Anj:ixD 0 (.tup (a :: r))=some a:=rfl
theorem AmQ:ixD 1 (.tup (a :: b :: r))=some b:=rfl
theorem AmG:ixD 2 (.tup (a :: b :: c :: r))=some c:=rfl
theorem Amf:ixD 3 (.tup (a :: b :: c :: d :: r))=some d:=rfl
theorem Anz:ixD 0 (.lst (a :: r))=some a:=rfl
theorem Amn:ixD 1 (.lst (a :: b :: r))=some b:=rfl
theorem Am8:ixD 2 (.lst (a :: b :: c :: r))=some c:=rfl
theorem AnA:ixD 3 (.lst (a :: b :: c :: d :: r))=some d:=rfl
theorem SX:Dt.eq (.int i) (.int j)=decide (i=j):=by rw [Dt.eq]
theorem Aib:Dt.eq (.bl k) (.bl l)=(k == l):=by rw [Dt.eq]
theorem Q0:Dt.eq (.str x) (.str y)=(x == y):=by rw [Dt.eq]
theorem AkP:Dt.eq .non .non=true:=by rw [Dt.eq]
theorem Ako:Dt.eq .non (.int i)=false:=by simp [Dt.eq]
theorem Al6:Dt.eq .non (.tup r)=false:=by simp [Dt.eq]
theorem Ak6:Dt.eq (.tup r) .non=false:=by simp [Dt.eq]
theorem Wh:Dt.eq (.tup r) (.tup s)=Dt.eqs r s:=by rw [Dt.eq]
theorem Akb:Dt.eq (.lst r) (.lst s)=Dt.eqs r s:=by rw [Dt.eq]
theorem Ur:Dt.eqs [] []=true:=by rw [Dt.eqs]
theorem U0:Dt.eqs (a :: r) (b :: s)=(Dt.eq a b && Dt.eqs r s):=by rw [Dt.eqs]
theorem Aha:Dt.eqs [] (b :: s)=false:=by simp [Dt.eqs]
theorem AhD:Dt.eqs (b :: s) []=false:=by simp [Dt.eqs]
theorem Lp:Dt.flat n (.int i)=true:=by cases n <;> rw [Dt.flat] <;> simp
theorem AgN:Dt.flat n (.bl k)=true:=by cases n <;> rw [Dt.flat] <;> simp
theorem AhS:Dt.flat n .non=true:=by cases n <;> rw [Dt.flat] <;> simp
theorem Xi:Dt.flat (n+1) (.tup r)=Dt.flats n r:=by rw [Dt.flat]
theorem Abi:Dt.flat (n+1) (.lst r)=Dt.flats n r:=by rw [Dt.flat]
theorem LR:Dt.flat 8 (.tup r)=Dt.flats 7 r:=Xi
theorem AdY:Dt.flat 8 (.lst r)=Dt.flats 7 r:=Abi
theorem Aem:Dt.flat 7 (.tup r)=Dt.flats 6 r:=Xi
theorem Adm:Dt.flat 7 (.lst r)=Dt.flats 6 r:=Abi
theorem Ad8:Dt.flat 6 (.tup r)=Dt.flats 5 r:=Xi
theorem Mu:Dt.flats n []=true:=by rw [Dt.flats]
theorem Ml:Dt.flats n (a :: r)=(Dt.flat n a && Dt.flats n r):=by rw [Dt.flats]
theorem Vp {N:Str} {M:List Str}:FQ (N :: M) (a :: r)=some (.is a) :: FQ M r:=by
 unfold FQ
 simp only [List.map_cons,List.length_cons,List.cons_append,Nat.add_sub_add_right]
theorem WL {N:Str} {M:List Str}:FQ (N :: M) []=none :: FQ M []:=by
 unfold FQ
 simp [List.replicate_succ]
theorem U9:FQ [] []=[]:=rfl
theorem Ay (h:n≤1000):n≤sizeLine:=Nat.le_of_lt (ZF h)
theorem AhB:isT "tuple" (.tup r)=true:=rfl
theorem AgE:isT "list" (.lst r)=true:=rfl
theorem AgI:isT "int" (.int i)=true:=rfl
theorem Agn:isT "bool" (.int i)=false:=rfl
theorem AhG:isT "int" (.bl k)=true:=rfl
theorem Ag9:isT "bool" (.bl k)=true:=rfl
theorem Agp:isT "tuple" .non=false:=rfl
theorem Ahx:isT "int" .non=false:=rfl
theorem AhX:isT "int" (.tup r)=false:=rfl
theorem Aht:isT "bool" (.tup r)=false:=rfl
theorem AnS:noFn (.int i)=true:=rfl
theorem Anl:noFn (.bl k)=true:=rfl
theorem AmS:noFn .non=true:=rfl
theorem AmW:noFn (.tup r)=true:=rfl
theorem Am4:noFn (.lst r)=true:=rfl
theorem AmC:noFn (.str x)=true:=rfl
theorem Akp:isB true (.bl k)=k:=by cases k <;> rfl
theorem Akm:isB false (.bl k) = !k:=by cases k <;> rfl
theorem Akt:isB k (.int i)=false:=rfl
theorem Ak8:isB k .non=false:=rfl
theorem Ahm:isB k (.tup r)=false:=rfl
theorem Alj:isB k (.lst r)=false:=rfl
theorem AkM:isN .non=true:=rfl
theorem Aif:isN (.int i)=false:=rfl
theorem AkE:isN (.bl k)=false:=rfl
theorem Ai8:isN (.tup r)=false:=rfl
theorem Aiy:isN (.lst r)=false:=rfl
end
end L2
namespace L2
open PySem PySem.Spec PyProof.Rows PySem.SeqAt
theorem ifn {c:Bool} {A B:Prop} (h:c=true) (b:B):if (!c)=true then A else B:=by subst h;exact b
theorem ift {c:Bool} {A B:Prop} (h:c=true) (a:A):if c=true then A else B:=by subst h;exact a
theorem Dm {c:Bool} {A B:Prop} (h:c=false) (b:B):if c=true then A else B:=by subst h;exact b
theorem Ak {τ:Type} {args:τ→List Dt} {pre:τ→Prop} {val:τ→Dt} {Q:Dt→Prop} (p:τ) (h:pre p) (k:Q (val p)):BR args pre val (args p) Q:=⟨p,rfl,h,fun d e=>by rw [e];exact k⟩
theorem Az {τ:Type} {args:τ→List Dt} {pre:τ→Prop} {post:τ→Dt→Prop} {Q:Dt→Prop} (p:τ) (h:pre p) (k:∀ d,post p d→Q d):spec args pre post (args p) Q:=⟨p,rfl,h,k⟩
theorem Ox {sl:List Nat} {tt:DTT} {te:DTE} {ρ:Cj} {Q:Dt→Prop} {items:List Dt} (p:Dt→Bool) (f:Dt→Dt) (ht:∀ d∈items,∀ R:Bool→Prop,R (p d)→tt (inner sl ρ d) R) (he:∀ d∈items,p d=true→∀ R:Dt→Prop,R (f d)→te (inner sl ρ d) R)
  (hq:Q (.lst ((items.filter p).map f))):∃ W:Nat→List Dt→Prop,W 0 []∧(∀ (k:Nat) d acc,items[k]? = some d→W k acc→tt (inner sl ρ d) fun b=>if b=true then te (inner sl ρ d) fun e=>W (k+1) (acc ++ [e]) else W (k+1) acc) ∧
   ∀ acc,acc.length≤items.length→W items.length acc→Q (.lst acc):=by
 refine ⟨fun k acc=>acc=((items.take k).filter p).map f,by simp,fun k d acc e w=>?_,fun acc _ w=>by rw [w,List.take_length];exact hq⟩
 have hm:=List.mem_of_getElem? e
 refine ht d hm _ ?_
 have ht:=take_succ_filter p items k d e
 by_cases hp:p d=true
 ·rw [if_pos hp]
  refine he d hm hp _ ?_
  show acc ++ [f d]=_
  rw [w,ht,if_pos hp];simp
 ·rw [if_neg hp]
  show acc=_
  rw [w,ht,if_neg hp];simp
theorem comp_map {sl:List Nat} {te:DTE} {ρ:Cj} {Q:Dt→Prop} {items:List Dt} (f:Dt→Dt) (he:∀ d∈items,∀ R:Dt→Prop,R (f d)→te (inner sl ρ d) R)
  (hq:Q (.lst (items.map f))):∃ W:Nat→List Dt→Prop,W 0 []∧(∀ (k:Nat) d acc,items[k]? = some d→W k acc→VH (inner sl ρ d) fun b=>if b=true then te (inner sl ρ d) fun e=>W (k+1) (acc ++ [e]) else W (k+1) acc) ∧
   ∀ acc,acc.length≤items.length→W items.length acc→Q (.lst acc) :=
 Ox (fun _=>true) f (fun _ _ _ h=>h) (fun d hm _ R h=>he d hm R h) (by rw [List.filter_eq_self.mpr (fun _ _=>rfl)];exact hq)
theorem Ju {sl:List Nat} {ti:DTI} {tt:DTT} {te:DTE} {ρ:Cj} {Q:Dt→Prop} (items:List Dt) (p:Dt→Bool) (f:Dt→Dt) (hi:∀ R:List Dt→Prop,R items→ti ρ R) (hl:items.length≤sizeLine) (hc:caught sl ρ)
  (ht:∀ d∈items,∀ R:Bool→Prop,R (p d)→tt (inner sl ρ d) R) (he:∀ d∈items,p d=true→∀ R:Dt→Prop,R (f d)→te (inner sl ρ d) R) (hq:Q (.lst ((items.filter p).map f))):J8 sl ti tt te ρ Q :=
 hi _ ⟨hl,hc,Ox p f ht he hq⟩
theorem Ku {sl:List Nat} {ti:DTI} {te:DTE} {ρ:Cj} {Q:Dt→Prop} (items:List Dt) (f:Dt→Dt) (hi:∀ R:List Dt→Prop,R items→ti ρ R) (hl:items.length≤sizeLine) (hc:caught sl ρ)
  (he:∀ d∈items,∀ R:Dt→Prop,R (f d)→te (inner sl ρ d) R) (hq:Q (.lst (items.map f))):J8 sl ti VH te ρ Q :=
 hi _ ⟨hl,hc,comp_map f he hq⟩
theorem Pr {ti:DTI} {g:DTG} {tb:DTS} {D:GX} {ρ:Cj} (items:List Dt) (hi:∀ R:List Dt→Prop,R items→ti ρ R) (W:Nat→Cj→Prop) (h0:W 0 ρ)
  (hs:∀ (k:Nat) d ρ',items[k]? = some d→W k ρ'→g d ρ' fun ρ2=>tb { D with nx:=W (k+1),ct:=W (k+1),bk:=D.nx } ρ2) (he:∀ ρ',W items.length ρ'→D.nx ρ'):Ady ti g tb D ρ:=hi _ ⟨W,h0,hs,he⟩
theorem ints_get {ns:List Int} {k:Nat} {d:Dt} (h:(ns.map Dt.int)[k]? = some d):∃ n,ns[k]? = some n∧d=.int n:=by
 rw [List.getElem?_map] at h
 cases e:ns[k]? with
 | none=>rw [e] at h;cases h
 | some n=>rw [e] at h;cases h;exact ⟨n,rfl,rfl⟩
theorem Fg {ρ:Cj}:caught [] ρ:=fun _ h=>(nomatch h)
theorem Gz {j:Nat} {sl:List Nat} {ρ:Cj} {d:Dt} (h:ρ[j]? = some (some (.is d))) (r:caught sl ρ):caught (j :: sl) ρ:=fun k hk=>by
 rcases List.mem_cons.mp hk with e | e
 ·subst e;exact ⟨d,h⟩
 ·exact r k e
theorem Ael {ns:List Int} {k:Int} (h0:0≤k) (h1:k < ns.length):ixD k (.lst (ns.map Dt.int))=some (.int (ns.getD k.toNat 0)):=by
 obtain ⟨j,rfl⟩:=Int.eq_ofNat_of_zero_le h0
 have hj:j < ns.length:=by omega
 show (ns.map Dt.int)[j]? = _
 rw [List.getElem?_map]
 simp [hj]
end L2
namespace L2
theorem Es {c:DTT} {tb:DTS} {D:GX} {ρ:Cj} (W:Nat→Cj→Prop) (m:Nat) (h0:W m ρ) (h:∀ m ρ,W m ρ→c ρ fun k=>if k=true then tb { D with nx:=fun ρ'=>∃ m',m' < m∧W m' ρ',ct:=fun ρ'=>∃ m',m' < m∧W m' ρ',bk:=D.nx } ρ else D.nx ρ):Abr c tb D ρ:=⟨W,⟨m,h0⟩,h⟩
end L2
namespace L2
open PySem PySem.Spec PyProof.Rows PySem.SeqAt
section
variable {X:Cx} {a b c e:Expr} {es:List Expr} {ta tb te:DTE} {tl:DTA} {pos:Pos}
noncomputable def downs (hi:Int) (n:Nat):List Dt:=(List.range n).map fun i=>.int (hi - (i:Nat))
noncomputable def Agk (tl:DTA):DTI:=fun ρ Q=>tl ρ fun ds=>match ds with
 | [.int i,.int j,.int k]=>k=-1∧(-(2 ^ 62)≤i∧i < 2 ^ 62∧-(2 ^ 62)≤j∧j < 2 ^ 62)∧Q (downs i (i - j).toNat)
 | _=>False
theorem AeK:MtR X "int.bit_length" (fun x xs H Q=>∃ i,x=.int i∧xs=[]∧Q (.int (Builtin.Int.intBits i)) H):=by
 intro pins s σ H x xs v us Q I rx rs ⟨i,e,e2,q⟩
 subst e e2
 cases rs
 obtain ⟨t,rfl⟩:=rx
 exact call_int_bit_length ⟨.int _,H,I.tok _,⟨_,rfl⟩,q⟩
noncomputable def Af6 (ta:DTE):DTE:=fun ρ Q=>ta ρ fun d=>match d with
 | .int i=>Q (.int (Builtin.Int.intBits i))
 | _=>False
theorem Yv {apos:Pos} (ha:DE X a ta) (hbase:attributeBase a "bit_length" X.env (eval a X.env)=eval a X.env:=by rfl) (hline:(apos.endLine == pos.line)=true:=by rfl):DE X (.Call (.Attribute a "bit_length" apos) [] [] pos) (Af6 ta) where
 mono:=fun hq h=>ha.mono (fun d h=>by
  split at h
  ·exact hq _ h
  ·exact h.elim) h
 pe:=(AhU PySem.F.plainAttrs_int PySem.F.slot_int_bit_length PySem.F.type_int_bit_length AeK ha.pe hbase hline).imp fun σ H Q ⟨B,F,O,ρ,R,h⟩=>⟨B,F,O,ρ,R,ha.mono (fun d h v H1 s1 r1=>by
  split at h
  ·rw [Bb.mp r1]
   exact ⟨rfl,_,rfl,rfl,h _ H1 s1 (Bb.mpr rfl)⟩
  ·exact h.elim) h⟩
noncomputable def Aj7 (P:Program) (w:World) (K:PySem.W.Frag) (mg:Str→Option Value) (base:Heap) (k:Nat) (a:Addr) (sp:DSp):Prop :=
 ∃ fd ps,HX P w K mg base CX0 k a fd ps (lSp K sp)∧Binds K fd ps []∧PySem.W.keepIn K (.ref a)=true
noncomputable def Agm (P:Program) (w:World) (K:PySem.W.Frag) (mg:Str→Option Value) (base:Heap) (k:Nat) (tf:DTE) (tl:DTA):DTE:=fun ρ Q=>tf ρ fun d=>match d with
 | .fn a=>PySem.W.keepIn K (.ref a)=true∧tl ρ fun ds=>∃ sp,Ir sp∧Aj7 P w K mg base k a sp∧sp ds Q
 | _=>False
noncomputable def dOf (t:DTA):DTE:=fun ρ Q=>t ρ fun ds=>Q (.lst ds)
noncomputable def AiW (tl:DTA):DTA:=fun ρ Q=>tl ρ fun ds=>ds.length≤sizeLine∧Q ds
noncomputable def Ad5 (te:DTE) (tl th:DTO):DTA:=fun ρ Q=>te ρ fun d=>tl ρ fun lo=>th ρ fun hi=>match d with
 | .lst ds=>Q (cutD ds lo hi)
 | _=>False
noncomputable def AlK (t u:DTA):DTA:=fun ρ Q=>t ρ fun xs=>u ρ fun ys=>xs.length+ys.length≤sizeLine∧Q (xs ++ ys)
end
end L2
namespace L2
open PySem PySem.Spec PyProof.Rows PySem.SeqAt
section
variable {X:Cx} {elt iter:Expr} {x:Str} {px:Pos} {ifs:List Expr} {scope:Scope} {pos:Pos} {N:List Str} {sl:List Nat} {wi:TI} {tt:TT} {te:TE}
theorem X8 {pins:List (Addr × Obj)} {σ:St} {H2:Hp} {s2:Shared} {cl:List (Str × Addr)} {it:Addr} {fp:List Addr} {tn:Nat→Heap→Prop} {J:It} {vs:List V} {PP:Value→Addr→Result→Shared→Prop} {E:Value→Shared→Prop} {QD:Hp→Prop} (S:Et X scope x N sl) (hc:X.calm=true)
  (ht:∀ cl C s₀ H₀ ex,PTs (Bk X scope (x :: N) cl C s₀ H₀ ex) ifs tt) (he:∀ cl C s₀ H₀ ex,PE (Bk X scope (x :: N) cl C s₀ H₀ ex) elt te)
  (hcl:∀ n c,cl.lookup n=some c→X.env.cells.lookup n=some c) (hcl2:∀ n,(n,NameKind.free)∈scope.names→∃ c,cl.lookup n=some c)
  (I2:Inv X pins σ H2 s2) (T:Turn X.prog X.w X.K (.Name x px) J fp it tn) (st2:tn 0 s2.heap) (f2:∀ b∈fp,O6 X pins H2 b) (hvs:sl.map (fun j=>σ[j]?)=vs.map (fun v=>some (some v)))
  (hW:∃ W:Nat→Nat→List V→Hp→Prop,(∃ m,W 0 m [] (upd H2 s2.heap.objs.size (.lst [])))∧∀ i m acc H,W i m acc H →
   (J.stop i H∧QD H)∨(J.go i H∧∀ x H',J.yld i H x H'→tt (some x :: vs.map some) H' fun b H2' =>
    if b=true then te (some x :: vs.map some) H2' fun y H3=>H3 s2.heap.objs.size=some (.lst acc)∧acc.length < sizeLine∧∃ m',m' < m∧W (i+1) m' (acc ++ [y]) (upd H3 s2.heap.objs.size (.lst (acc ++ [y])))
    else ∃ m',m' < m∧W (i+1) m' acc H2'))
  (fin:∀ (C:Addr),(s2.heap.push { cls:=.type "list",data:=.seq ([]:List Value).toArray }).objs.size=C→∀ {σ':St} {H':Hp} {s':Shared},Inv (Bk X scope (x :: N) cl C { s2 with heap:=s2.heap.push { cls:=.type "list",data:=.seq ([]:List Value).toArray },toks:=s2.toks } (upd H2 s2.heap.objs.size (.lst [])) fp) [] σ' H' s'→QD H'→PP (.ref s2.heap.objs.size) C (.ok .next) s') :
  wpAny (model X.prog X.w) X.A (newList []) (fun acc s₃=>wpAny (model X.prog X.w) X.A (newFunctionEnv scope X.env.globals cl [] X.env.qual none .none (some X.env)) (fun cenv s₄ =>
   codeAny (model X.prog X.w) X.A (.compStart (.ListComp elt [⟨.Name x px,iter,ifs,0⟩] scope pos) 0 (.ref it) acc { cenv with scope:=relabel scope X.env }) (PP acc cenv.locals) s₄) E s₃) E s2:=by
 refine wpAny_newObj_type (wpAny_newFunctionEnv S.cell (by intro y hy;simp at hy) (fun h₁ hns₁ hsb₁=>?_) S.kind)
 have hD:H2 s2.heap.objs.size=none:=I2.fresh
 have I3:Inv X pins σ (upd H2 s2.heap.objs.size (.lst [])) { s2 with heap:=s2.heap.push { cls:=.type "list",data:=.seq ([]:List Value).toArray },toks:=s2.toks }:=I2.lnew (its:=[]) (ys:=[]) .nil (Nat.zero_le _)
 have hbD:∀ b∈fp,b≠s2.heap.objs.size:=fun b hb z=>by
  obtain ⟨o',e',_⟩:=T.obj _ _ st2 b hb
  exact absurd (Heap.lt_size e') (by rw [z];exact Nat.lt_irrefl _)
 have f3:∀ b∈fp,O6 X pins (upd H2 s2.heap.objs.size (.lst [])) b:=fun b hb=>⟨by rw [Bp (hbD b hb)];exact (f2 b hb).1,(f2 b hb).2⟩
 have ob3:∀ b∈fp,∃ o,(s2.heap.push { cls:=.type "list",data:=.seq ([]:List Value).toArray }).get? b=some o:=fun b hb=>by
  obtain ⟨o',e',_⟩:=T.obj _ _ st2 b hb
  exact ⟨o',Heap.get?_push_of_some _ e'⟩
 have IC:=WR (tk:=s2.toks+([]:List (Str × Value)).length) S I3 f3 ob3 hns₁ hsb₁ hcl hcl2 hvs
 dsimp only at hsb₁ IC ⊢
 generalize hCC:(s2.heap.push { cls:=.type "list",data:=.seq ([]:List Value).toArray }).objs.size=C at hns₁ hsb₁ IC ⊢
 have old:∀ b o,s2.heap.get? b=some o→h₁.get? b=some o:=fun b o e=>by
  have e1:(s2.heap.push { cls:=.type "list",data:=.seq ([]:List Value).toArray }).get? b=some o:=Heap.get?_push_of_some _ e
  exact (hsb₁.2 b (by rw [←hCC];exact Nat.ne_of_lt (Heap.lt_size e1))).trans (Heap.get?_push_of_some _ e1)
 have st₁:tn 0 h₁:=T.keep _ _ _ st2 fun b hb o e=>old b o e
 obtain ⟨W,⟨m0,w0⟩,turn⟩:=hW
 have fpC:∀ {H':Hp} {pl:List (Addr × Obj)},(∀ b∈fp,H' b=none)→(∀ p∈pl,p.1∉fp)→∀ b∈fp,O6 (Bk X scope (x :: N) cl C { s2 with heap:=s2.heap.push { cls:=.type "list",data:=.seq ([]:List Value).toArray },toks:=s2.toks } (upd H2 s2.heap.objs.size (.lst [])) fp) pl H' b:=fun {H' pl} hn hp b hb=>by
  refine ⟨hn b hb,(IC.ok.exf b hb).1,IC.ok.exfs b hb,.inl hb,(IC.ok.exf b hb).2,fun p hq z=>?_⟩
  have hq':p∈pl:=by simpa [Bk] using hq
  exact hp p hq' (by rw [z];exact hb)
 have loop:codeAny (model X.prog X.w) X.A (.compLoop (.ListComp elt [⟨.Name x px,iter,ifs,0⟩] scope pos) 0 (.ref it) (.ref s2.heap.objs.size) (compEnvC scope cl C X.env)) (PP (.ref s2.heap.objs.size) C)
   { s2 with heap:=h₁,toks:=s2.toks+([]:List (Str × Value)).length }:=by
  refine codeAny_compLoop_tests (fun n s'=>∃ i acc σ' H',Inv (Bk X scope (x :: N) cl C { s2 with heap:=s2.heap.push { cls:=.type "list",data:=.seq ([]:List Value).toArray },toks:=s2.toks } (upd H2 s2.heap.objs.size (.lst [])) fp) [] σ' H' s'∧(∃ y,σ'=y :: vs.map some) ∧
   tn i s'.heap∧(∀ b∈fp,H' b=none)∧W i n acc H') ?_ m0 ⟨0,[],_,_,IC,⟨none,rfl⟩,st₁,fun b hb=>(f3 b hb).1,w0⟩
  rintro n s3 ⟨i,acc,σ3,H3,I4,⟨y,rfl⟩,st3,fr3,w3⟩
  rcases turn i n acc H3 w3 with ⟨stop,qn⟩ | ⟨go,step⟩
  ·refine wpAny_mono (T.done (Bk X scope (x :: N) cl C { s2 with heap:=s2.heap.push { cls:=.type "list",data:=.seq ([]:List Value).toArray },toks:=s2.toks } (upd H2 s2.heap.objs.size (.lst [])) fp) rfl rfl rfl hc i [] s3 _ H3 (fun _ _=>False) I4 (fpC fr3 (by simp)) st3 stop) (fun r s4 ⟨hr,I5⟩=>?_) fun _ _ z=>False.elim z
   subst hr
   exact fin C hCC I5 qn
  ·refine wpAny_mono (T.item (Bk X scope (x :: N) cl C { s2 with heap:=s2.heap.push { cls:=.type "list",data:=.seq ([]:List Value).toArray },toks:=s2.toks } (upd H2 s2.heap.objs.size (.lst [])) fp) rfl rfl rfl hc i [] s3 _ H3 (fun _ _=>False) I4 (fpC fr3 (by simp)) st3 go) (fun r s4 ⟨u,hr,h4⟩=>?_) fun _ _ z=>False.elim z
   subst hr
   have e0:∀ (k:Unit→Sem Unit),(letOwnedTupleGo (.Name x px) (.ref it) u >>= k)=k ():=fun k=>rfl
   have hg:PG (Bk X scope (x :: N) cl C { s2 with heap:=s2.heap.push { cls:=.type "list",data:=.seq ([]:List Value).toArray },toks:=s2.toks } (upd H2 s2.heap.objs.size (.lst [])) fp) (.Name x px) (YF 0):=Ui S.nd rfl (.inl (lookup_relabel_local S.hx)) (.inr (lookup_relabel_local S.hx))
   show wpAny (model X.prog X.w) X.A (assign (.Name x px) (compEnvC scope cl C X.env) u) _ _ s4
   rw [←e0 fun _=>assign (.Name x px) (compEnvC scope cl C X.env) u]
   refine wpAny_bind (wpAny_mono h4 (fun _ s5 ⟨z,H5,I5,r5,y5,st5,fr5⟩=>?_) fun _ _ z=>False.elim z)
   have I5':=I5.pinned (fpC fr5 (by simp)) (T.obj _ _ st5)
   have W5:=hg _ s5 _ H5 z u (fun σ' H'=>σ'=some z :: vs.map some∧H'=H5) I5' r5 ⟨rfl,rfl⟩
   refine wpAny_mono W5 (fun _ s6 ⟨σ6,H6,I6,e6,e7⟩=>?_) fun _ _ z=>False.elim z
   subst e6 e7
   refine wpAny_mono (ht _ _ _ _ _ _ s6 _ H6 _ I6 (step z H6 y5)) (fun b s7 ⟨H7,I7,q7⟩=>?_) fun _ _ z=>False.elim z
   have again:∀ {H8:Hp} {s8:Shared} {acc':List V},Inv (Bk X scope (x :: N) cl C { s2 with heap:=s2.heap.push { cls:=.type "list",data:=.seq ([]:List Value).toArray },toks:=s2.toks } (upd H2 s2.heap.objs.size (.lst [])) fp) ([] ++ Nx fp s5.heap) (some z :: vs.map some) H8 s8→(∃ m',m' < n∧W (i+1) m' acc' H8)→∃ m,m < n∧∃ i acc σ' H',Inv (Bk X scope (x :: N) cl C { s2 with heap:=s2.heap.push { cls:=.type "list",data:=.seq ([]:List Value).toArray },toks:=s2.toks } (upd H2 s2.heap.objs.size (.lst [])) fp) [] σ' H' s8∧(∃ y,σ'=y :: vs.map some)∧tn i s8.heap∧(∀ b∈fp,H' b=none)∧W i m acc H':=fun {H8 s8 acc'} I8 ⟨m',hm,w8⟩=>by
    refine ⟨m',hm,i+1,acc',_,H8,I8.unpinned,⟨_,rfl⟩,T.keep _ _ _ st5 fun b hb o e=>(I8.pin (b,o) (List.mem_append_right _ (List.mem_append_right _ (Gu hb e)))).1,fun b hb=>?_,w8⟩
    obtain ⟨o,e,d⟩:=T.obj _ _ st5 b hb
    exact (I8.pin (b,o) (List.mem_append_right _ (List.mem_append_right _ (Gu hb e)))).2.1
   cases b with
   | false=>exact again I7 q7
   | true =>
    rw [if_pos rfl]
    refine wpAny_mono (he _ _ _ _ _ _ s7 _ H7 _ I7 q7) (fun v8 s8 ⟨x8,H8,I8,r8,hD8,hz8,q8⟩=>?_) fun _ _ z=>False.elim z
    refine wpAny_mono (Ob (X:=(Bk X scope (x :: N) cl C { s2 with heap:=s2.heap.push { cls:=.type "list",data:=.seq ([]:List Value).toArray },toks:=s2.toks } (upd H2 s2.heap.objs.size (.lst [])) fp)) _ s8 _ H8 (.ref s2.heap.objs.size) [x8] (.ref s2.heap.objs.size) [v8] (fun _ H9=>H9=upd H8 s2.heap.objs.size (.lst (acc ++ [x8]))) I8 rfl (.cons r8 .nil) ⟨_,acc,x8,rfl,rfl,hD8,hz8,rfl⟩) (fun _ s9 ⟨_,H9,I9,_,e9⟩=>?_) fun _ _ z=>False.elim z
    subst e9
    exact again I9 q8
 exact codeAny_compStart_list loop (T.self _ 0 _ _ _ st₁ loop)
noncomputable def AjT (i:Nat) (sl:List Nat) (wi:TI) (tt:TT) (te:TE):TS:=fun D σ H=>Aa6 sl wi tt te σ H fun v H'=>D.nx (σ.set i (some v)) H'
theorem AdO {i:Nat} {y:Str} {py spos:Pos} (S:Et X scope x N sl) (hc:X.calm=true) (hN:X.N.Nodup) (hyi:X.N[i]? = some y) (hy:X.env.scope.names.lookup y=some .local) (hi:PI X (.Name x px) iter wi)
  (ht:∀ cl C s₀ H₀ ex,PTs (Bk X scope (x :: N) cl C s₀ H₀ ex) ifs tt) (he:∀ cl C s₀ H₀ ex,PE (Bk X scope (x :: N) cl C s₀ H₀ ex) elt te)
  (hsw:swapsWith (.ListComp elt [⟨.Name x px,iter,ifs,0⟩] scope pos) (some (.Name y py)) spos.line X.env=pure true) (hs:∀ x,foldedSetIterable iter X.env x=pure x:=by intro _;rfl) :
  PS X (.Assign [.Name y py] (.ListComp elt [⟨.Name x px,iter,ifs,0⟩] scope pos) spos) (AjT i sl wi tt te):=by
 intro pins s σ H DD I h
 obtain ⟨cl,hclos,hcl,hcl2⟩:=QM (env:=X.env) (scope:=scope) fun y hy hf=>I.ok.has y.1 (.inl (S.free y hy hf))
 rw [exec_Assign_Name_used _ _ _ _ hsw]
 refine wpAny_bind (wpAny_standAt (wpAny_bind ?_))
 show wpAny _ X.A (do let _ ←comprehension (.ListComp elt [⟨.Name x px,iter,ifs,0⟩] scope pos) scope X.env _ (newList []) false (eval iter X.env) (some (assign (.Name y py) X.env))) _ _ s
 refine wpAny_bind (wpAny_mono (wpAny_comprehension_free (use:=some (assign (.Name y py) X.env)) (Q:=fun _ s'=>SP X pins DD .next s') rfl hs hclos S.kind S.names
  (thn (hi pins s σ H _ I h) fun v s1 h1=>thn h1 fun itv s2 h2=>?_)) (fun _ s' hq=>wpAny_pure (wpAny_pure hq)) fun _ _ e=>e)
 obtain ⟨it,fp,tn,J,H2,e,I2,T,st2,f2,vs,hvs,hW⟩:=h2
 subst e
 refine X8 (QD:=fun H'=>DD.nx (σ.set i (some (.ref s2.heap.objs.size))) H') (PP:=fun acc C=>compPost (model X.prog X.w) X.A X.xe (some (assign (.Name y py) X.env)) (fun _ s'=>SP X pins DD .next s') acc C) S hc ht he hcl hcl2 I2 T st2 f2 hvs (hW s2.heap.objs.size I2.fresh) fun C hCC {σ' H' s'} J q=>?_
 have hD:H2 s2.heap.objs.size=none:=I2.fresh
 have nC:∀ b o,s2.heap.get? b=some o→b≠C:=fun b o e=>by
  have e1:(s2.heap.push { cls:=.type "list",data:=.seq ([]:List Value).toArray }).get? b=some o:=Heap.get?_push_of_some _ e
  rw [←hCC];exact Nat.ne_of_lt (Heap.lt_size e1)
 have u:Un (frs X.stack) fp H2 H' s2.heap s'.heap:=(Un.laid (fun b u e=>Heap.get?_push_of_some _ e) (Nat.le_refl _) hD).trans J.base
 have hos:s'.os=s2.os:=J.os
 have IX:Inv X pins σ H' s':=I2.call' (ch:=fp) hos u J.hok J.bare fun b hb=>⟨(f2 b hb).2.2.2.1,(f2 b hb).2.1,(f2 b hb).2.2.2.2.1,(f2 b hb).2.2.2.2.2⟩
 have hLC:X.env.locals≠C:=by
  obtain ⟨m,⟨o,_,_,ho,_⟩,_⟩:=I2.loc
  exact nC _ o ho
 have hcC:∀ y c,X.env.cells.lookup y=some c→c≠C:=fun y c e=>by
  obtain ⟨v,o,ho,_⟩:=I2.cell y c e
  exact nC _ o ho
 show wpAny _ X.A (assign (.Name y py) X.env (.ref s2.heap.objs.size)) _ _ _
 refine wpAny_assign_Name (Sy IX hN hyi (.inl hy) (v:=.ref s2.heap.objs.size) rfl (fun s'' I'' ⟨a,hs2,ha⟩=>?_) (.inr hy))
 obtain ⟨m,hn,_⟩:=id J.loc
 have haC:C≠a:=by
  rcases ha with z | z
  ·rw [z];exact Ne.symm hLC
  ·exact Ne.symm (hcC y a z)
 refine ⟨m,hn.sameBut hs2 haC,fun h' hs'=>⟨_,H',?_,q⟩⟩
 refine I''.turned (t':=s''.toks) (it:=C) (fun b o hb e=>(hs'.2 b hb).trans e) J.free (Ne.symm hLC) (.inr ?_) hcC (fun p hp z=>?_)
 ·rw [←hCC]
  exact Nat.le_trans I2.sz (by rw [Heap.size_push];exact Nat.le_succ _)
 ·obtain ⟨e,_⟩:=I2.pin p hp
  exact nC _ _ e z
theorem Td {sl:List Nat} {ti:DTI} {dt:DTT} {de:DTE} (mi:∀ {ρ Q Q'},(∀ d,Q d→Q' d)→ti ρ Q→ti ρ Q'):∀ {ρ Q Q'},(∀ d,Q d→Q' d)→J8 sl ti dt de ρ Q→J8 sl ti dt de ρ Q' :=
 fun hq h=>mi (fun items ⟨h1,h2,W,w0,st,fin⟩=>⟨h1,h2,W,w0,st,fun acc l w=>hq _ (fin acc l w)⟩) h
noncomputable def AcB (i:Nat) (sl:List Nat) (ti:DTI) (tt:DTT) (te:DTE):DTS:=fun D ρ=>J8 sl ti tt te ρ fun d=>D.nx (ρ.set i (some (.is d)))
theorem Ab4 {ti:DTI} {dt:DTT} {de:DTE} {y:Str} {py spos:Pos} (i:Nat) (S:Et X scope x N sl) (hc:X.calm=true) (hN:X.N.Nodup) (hyi:X.N[i]? = some y) (hy:X.env.scope.names.lookup y=some .local) (hi:DI X (.Name x px) iter ti)
  (ht:∀ cl C s₀ H₀ ex,DTs (Bk X scope (x :: N) cl C s₀ H₀ ex) ifs dt) (he:∀ cl C s₀ H₀ ex,DE (Bk X scope (x :: N) cl C s₀ H₀ ex) elt de)
  (hsw:swapsWith (.ListComp elt [⟨.Name x px,iter,ifs,0⟩] scope pos) (some (.Name y py)) spos.line X.env=pure true) (hs:∀ x,foldedSetIterable iter X.env x=pure x:=by intro _;rfl) :
  DS X (.Assign [.Name y py] (.ListComp elt [⟨.Name x px,iter,ifs,0⟩] scope pos) spos) (AcB i sl ti dt de) where
 mono:=fun hd h=>Td (ti:=ti) hi.mono (fun d q=>hd.nx _ q) h
 ps:=(AdO (tt:=lT X.K dt) (te:=lE X.K de) S hc hN hyi hy hi.pi (fun cl C s₀ H₀ ex=>(ht cl C s₀ H₀ ex).pts) (fun cl C s₀ H₀ ex=>(he cl C s₀ H₀ ex).pe) hsw hs).imp fun D σ H ⟨B,F,O,ρ,R,h⟩ =>
  V7 (ti:=ti) (dt:=dt) (de:=de) hi.mono (ht [] 0 X.s₀ X.H₀ []).mono (he [] 0 X.s₀ X.H₀ []).mono σ H _ ⟨B,F,O,ρ,R,Td (ti:=ti) hi.mono (fun d q v H' s r=>q O _ H' ((R.same s).set i r)) h⟩
theorem Aay {c:Expr} {ti:DTI} {dt:DTT} {de:DTE} {y:Str} {py spos:Pos} (i:Nat) (hN:X.N.Nodup) (S:Et X scope x N sl) (hc:X.calm=true) (hi:DI X (.Name x px) iter ti) (ht:∀ cl C s₀ H₀ ex,DT (Bk X scope (x :: N) cl C s₀ H₀ ex) c dt)
  (he:∀ cl C s₀ H₀ ex,DE (Bk X scope (x :: N) cl C s₀ H₀ ex) elt de)
  (hyi:X.N[i]? = some y:=by rfl) (hy:X.env.scope.names.lookup y=some .local:=by rfl) (hsw:swapsWith (.ListComp elt [⟨.Name x px,iter,[c],0⟩] scope pos) (some (.Name y py)) spos.line X.env=pure true:=by rfl) (hs:∀ x,foldedSetIterable iter X.env x=pure x:=by intro _;rfl) :
  DS X (.Assign [.Name y py] (.ListComp elt [⟨.Name x px,iter,[c],0⟩] scope pos) spos) (AcB i sl ti dt de):=Ab4 i S hc hN hyi hy hi (fun _ _ _ _ _=>YS (ht _ _ _ _ _)) he hsw hs
end
section
variable {prog:Program} {w:World} {A:Around} {E:Value→Shared→Prop} {s:Shared}
end
section
variable {X:Cx} {es:List Expr} {pos:Pos}
noncomputable def AlC (n:Nat) (gs:T5):DTG:=fun d ρ Q=>match d with
 | .lst ds=>ds.length=n∧gs ds ρ Q
 | _=>False
end
end L2
namespace L2
end L2
namespace L2
theorem Lh {n:Nat} {x:PySem.Str}:Dt.flat n (.str x)=(PySem.PyData.str x).canLay0:=by cases n <;> rw [Dt.flat]
end L2
namespace L2
open PySem PySem.Spec PyProof.Rows PySem.SeqAt
section
variable {X:Cx} {pins:List (Addr × Obj)} {σ:St} {H:Hp} {s:Shared} {h':Heap} {a dx C U f fI:Addr} {φ ψ:Heap→Prop}
end
end L2
namespace L2
open PySem PySem.Spec PyProof.Rows PySem.SeqAt
structure AhE where
 d:GX
 ex:Cj→Dt→Prop
noncomputable abbrev Lg:=AhE→Cj→Prop
noncomputable abbrev WM:=Cj→(Dt→Prop)→(Dt→Prop)→Prop
section
variable {X:Cx} {a b c e:Expr} {es:List Expr} {st:Stmt} {sts sa sb:List Stmt} {t u:Lg} {ts us:DTS} {te:WM} {tA:DTT} {tl:DTA} {pos:Pos}
noncomputable def AhV (t:DTS):Lg:=fun D ρ=>t D.d ρ
noncomputable def Ags:Lg:=fun D ρ=>D.d.nx ρ
noncomputable def Akc (t u:Lg):Lg:=fun D ρ=>t ⟨{ D.d with nx:=u D },D.ex⟩ ρ
noncomputable def Anv (c:DTT) (t u:Lg):Lg:=fun D ρ=>c ρ fun k=>if k=true then t D ρ else u D ρ
noncomputable def Agg (te:WM):Lg:=fun D ρ=>te ρ (fun _=>D.d.nx ρ) (D.ex ρ)
noncomputable def Akx (te:WM):Lg:=fun D ρ=>te ρ D.d.rt (D.ex ρ)
noncomputable def Akl (te:WM) (g:DTG):Lg:=fun D ρ=>te ρ (fun d=>g d ρ D.d.nx) (D.ex ρ)
noncomputable abbrev Amp:=List Dt→(Dt→Prop)→(Dt→Prop)→Prop
noncomputable def Agj (sp:Amp) (tl:DTA):WM:=fun ρ Q E=>tl ρ fun ds=>sp ds Q E
noncomputable def AhO (c:Str) (ns:List Str) (tl:DTA):Lg:=fun D ρ=>tl ρ fun ds=>ds.length=ns.length∧ds.length≤1000∧D.ex ρ (.exc c ns ds)
end
section
variable {P:Program} {w:World} {K:PySem.W.Frag} {mg:Str→Option Value} {base:Heap}
end
end L2
namespace L2
open PySem PySem.Spec PyProof.Rows PySem.SeqAt
section
variable {X:Cx} {pins:List (Addr × Obj)} {σ:St} {H:Hp} {s:Shared}
end
noncomputable def Under (K:PySem.W.Frag) (mg:Str→Option Value) (c T:Str):Prop:=∀ C U,PySem.W.nsIn K mainGlobals c=some (some (.ref C))→XC K C U→mg T=some (.ref U)
section
variable {X:Cx} {tb:Lg} {ts:DTS} {pos tp hp:Pos} {T n:Str} {U:Addr} {body suite:List Stmt} {b₀:Stmt}
noncomputable def Aau (K:PySem.W.Frag) (mg:Str→Option Value) (T:Str) (j:Nat) (ts:DTS) (D:GX) (ρ:Cj) (x:Dt):Prop:=match x with
 | .exc c ns ds=>Under K mg c T∧ts { nx:=fun ρ2=>D.nx (ρ2.set j none),rt:=fun _=>False } (ρ.set j (some (.is (.exc c ns ds))))
 | _=>False
noncomputable def Am1 (K:PySem.W.Frag) (mg:Str→Option Value) (T:Str) (j:Nat) (tb:Lg) (ts:DTS):Lg:=fun D ρ=>tb ⟨D.d,Aau K mg T j ts D.d⟩ ρ
end
end L2
namespace L2
open PySem PySem.Spec PyProof.Rows PySem.SeqAt
noncomputable def Ai6 (K:PySem.W.Frag) (c:Str) (A:Addr) (b:Bool):Prop:=∀ C,PySem.W.nsIn K mainGlobals c=some (some (.ref C))→PySem.W.kitOne K (.ref C) (.ref A)=some b
noncomputable def Alb (K:PySem.W.Frag) (c:Str) (As:List Addr) (b:Bool):Prop:=∀ C,PySem.W.nsIn K mainGlobals c=some (some (.ref C))→PySem.W.kitAny K (.ref C) (As.map .ref)=some b
noncomputable def OJ (K:PySem.W.Frag) (c f:Str):Prop:=∀ C,PySem.W.nsIn K mainGlobals c=some (some (.ref C))→PySem.W.findIn K (.ref C) f=some none
section
variable {X:Cx} {a b c e:Expr} {es:List Expr} {ta tb te:DTE} {tl:DTA} {pos:Pos}
noncomputable def AmK (K:PySem.W.Frag):DL:=fun ds Q=>match ds with
 | [.exc c _ _,.fn A]=>∃ v,Ai6 K c A v∧Q (.bl v)
 | _=>False
noncomputable def AiY (K:PySem.W.Frag):DL:=fun ds Q=>match ds with
 | [.exc c _ _,.tup es]=>∃ As v,es=As.map .fn∧Alb K c As v∧Q (.bl v)
 | _=>False
noncomputable def Am9 (ta:DTE):DTE:=fun ρ Q=>ta ρ fun d=>match d with
 | .exc _ _ _=>Q (.bl true)
 | _=>False
theorem zip_get {K:PySem.W.Frag} {H:Hp} {f:Str} {d:Dt}:∀ {ns:List Str} {ds:List Dt} {vs:List V},RpL K H ds vs→(ns.zip ds).lookup f=some d→∃ v,(ns.zip vs).lookup f=some v∧Rp K H d v
 | [],_,_,_,h=>by simp at h
 | _ :: _,[],_,_,h=>by simp at h
 | n :: ns,x :: ds,_,r,h=>by
  obtain ⟨v,vr,rfl,r1,r2⟩:=Bc.mp r
  rw [List.zip_cons_cons] at h ⊢
  by_cases q:f=n
  ·have hb:(f == n)=true:=beq_iff_eq.mpr q
   simp only [List.lookup,hb] at h ⊢
   cases h;exact ⟨v,rfl,r1⟩
  ·have hb:(f == n)=false:=beq_eq_false_iff_ne.mpr q
   simp only [List.lookup,hb] at h ⊢
   exact zip_get r2 h
noncomputable def AiQ (K:PySem.W.Frag) (te:DTE) (f:Str):DTE:=fun ρ Q=>te ρ fun d=>match d with
 | .exc c ns ds=>OJ K c f∧∃ v,(ns.zip ds).lookup f=some v∧Q v
 | _=>False
noncomputable def Aio (t:Lg):DTS:=fun D ρ=>t ⟨D,fun _ _=>False⟩ ρ
end
end L2
namespace L2
open PySem PySem.Spec PyProof.Rows PySem.SeqAt
section
variable {K:PySem.W.Frag} {mg:Str→Option Value} {c T f:Str} {C U A:Addr} {cd:ClassData}
end
end L2
namespace L2
open PySem PySem.Spec PyProof.Rows PySem.SeqAt
theorem Lr {O:List Addr} {H:Hp} {a:Addr} {o:HO} (h:a∈O):mask O (upd H a o)=mask O H:=by
 funext b
 by_cases q:b∈O
 ·rw [Dp q,Dp q]
 ·rw [Bl q,Bl q,Bp (a:=a) (fun z=>q (by rw [z];exact h))]
theorem Acg {F O:List Addr} {H:Hp} {p:Addr} {o:HO} (h:H p=none):mask (F ++ (p :: O)) (upd H p o)=mask (F ++ O) H:=by
 funext b
 by_cases e:b=p
 ·subst e
  rw [Dp (List.mem_append_right _ List.mem_cons_self)]
  by_cases q:b∈F ++ O
  ·rw [Dp q]
  ·rw [Bl q,h]
 ·by_cases q:b∈F ++ O
  ·rw [Dp q,Dp]
   rcases List.mem_append.mp q with q | q
   ·exact List.mem_append_left _ q
   ·exact List.mem_append_right _ (List.mem_cons_of_mem _ q)
  ·rw [Bl q,Bl,Bp e]
   intro z
   rcases List.mem_append.mp z with z | z
   ·exact q (List.mem_append_left _ z)
   ·rcases List.mem_cons.mp z with z | z
    ·exact e z
    ·exact q (List.mem_append_right _ z)
section
variable {K:PySem.W.Frag} {B:Hp} {F O:List Addr} {H:Hp} {σ:St} {ρ:Cj}
theorem Rep.newOwn (r:Rep K B F O H σ ρ) (i:Nat) {p:Addr} {ds:List Dt} {xs:List V} (hp:H p=none) (h:RpL K (mask (F ++ O) H) ds xs):Rep K B F (p :: O) (upd H p (.lst xs)) (σ.set i (some (.ref p))) (ρ.set i (some (.own ds))):=by
 have hl:=r.len
 have nF:p∉F:=fun z=>r.th p (List.mem_append_left _ z) hp
 have nO:p∉O:=fun z=>r.th p (List.mem_append_right _ z) hp
 have em:=Acg (F:=F) (O:=O) (o:=.lst xs) hp
 refine ⟨by simpa using hl,r.base.trans (Same.upd hp),fun a h=>?_,fun a h e=>?_,fun j d q=>?_,fun j es q=>?_,fun j k es es' a h1 h2 h3 h4=>?_,fun j ks q=>?_,fun j k es es' a h1 h2 h3 h4=>?_⟩
 ·rcases List.mem_cons.mp h with rfl | h
  ·cases q:B a with
   | none=>rfl
   | some o=>rw [r.base a o q] at hp;cases hp
  ·exact r.fr a h
 ·by_cases z:a=p
  ·rw [z,Cq] at e;cases e
  ·rw [Bp z] at e
   refine r.th a ?_ e
   rcases List.mem_append.mp h with h | h
   ·exact List.mem_append_left _ h
   ·exact List.mem_append_right _ ((List.mem_cons.mp h).resolve_left z)
 ·by_cases hj:j=i
  ·subst hj
   by_cases hk:j < ρ.length
   ·rw [List.getElem?_set_self hk] at q;cases q
   ·rw [List.getElem?_eq_none (by simpa using hk)] at q;cases q
  ·rw [List.getElem?_set_ne (Ne.symm hj)] at q ⊢
   rw [em];exact r.is j d q
 ·by_cases hj:j=i
  ·subst hj
   by_cases hk:j < ρ.length
   ·rw [List.getElem?_set_self hk] at q;cases q
    exact ⟨p,xs,List.getElem?_set_self (by omega),List.mem_cons_self,nF,Cq,by rw [em];exact h⟩
   ·rw [List.getElem?_eq_none (by simpa using hk)] at q;cases q
  ·rw [List.getElem?_set_ne (Ne.symm hj)] at q ⊢
   obtain ⟨a,ys,h1,h2,h3,h4,h5⟩:=r.own j es q
   exact ⟨a,ys,h1,List.mem_cons_of_mem _ h2,h3,by rw [Bp (a:=p) (fun z=>nO (by rw [←z];exact h2))];exact h4,by rw [em];exact h5⟩
 ·have other:∀ (m:Nat) es,m≠i→(ρ.set i (some (.own ds)))[m]? = some (some (.own es))→(σ.set i (some (.ref p)))[m]? = some (some (.ref p))→False:=fun m es hm q1 q2=>by
   rw [List.getElem?_set_ne (Ne.symm hm)] at q1 q2
   obtain ⟨b,_,e1,e2,_⟩:=r.own m es q1
   rw [e1] at q2
   cases q2
   exact nO e2
  by_cases hj:j=i
  ·by_cases hk:k=i
   ·rw [hj,hk]
   ·subst hj
    have:a=p:=by
     rw [List.getElem?_set_self (by
      have:=(List.getElem?_eq_some_iff.mp h1).1
      simp at this;omega)] at h3
     cases h3;rfl
    subst this
    exact (other k es' hk h2 h4).elim
  ·by_cases hk:k=i
   ·subst hk
    have:a=p:=by
     rw [List.getElem?_set_self (by
      have:=(List.getElem?_eq_some_iff.mp h2).1
      simp at this;omega)] at h4
     cases h4;rfl
    subst this
    exact (other j es hj h1 h3).elim
   ·rw [List.getElem?_set_ne (Ne.symm hj)] at h1 h3
    rw [List.getElem?_set_ne (Ne.symm hk)] at h2 h4
    exact r.inj j k es es' a h1 h2 h3 h4
 ·have hj:j≠i:=fun z=>by
   subst z
   by_cases hk:j < ρ.length
   ·rw [List.getElem?_set_self hk] at q;cases q
   ·rw [List.getElem?_eq_none (by simpa using hk)] at q;cases q
  rw [List.getElem?_set_ne (Ne.symm hj)] at q ⊢
  obtain ⟨a,ys,h1,h2,h3,h4,h5⟩:=r.tab j ks q
  exact ⟨a,ys,h1,List.mem_cons_of_mem _ h2,h3,by rw [Bp (a:=p) (fun z=>nO (by rw [←z];exact h2))];exact h4,by rw [em];exact h5⟩
 ·have back:∀ (m:Nat) ks,(ρ.set i (some (.own ds)))[m]? = some (some (.tab ks))→m≠i∧ρ[m]? = some (some (.tab ks)):=fun m ks q=>by
   have hm:m≠i:=fun z=>by
    subst z
    by_cases hk:m < ρ.length
    ·rw [List.getElem?_set_self hk] at q;cases q
    ·rw [List.getElem?_eq_none (by simpa using hk)] at q;cases q
   rw [List.getElem?_set_ne (Ne.symm hm)] at q;exact ⟨hm,q⟩
  obtain ⟨n1,q1⟩:=back j _ h1
  obtain ⟨n2,q2⟩:=back k _ h2
  rw [List.getElem?_set_ne (Ne.symm n1)] at h3
  rw [List.getElem?_set_ne (Ne.symm n2)] at h4
  exact r.tinj j k es es' a q1 q2 h3 h4
theorem Rep.putOwn (r:Rep K B F O H σ ρ) {i:Nat} {a:Addr} {ds es:List Dt} {xs ys:List V} (hi:ρ[i]? = some (some (.own ds))) (hs:σ[i]? = some (some (.ref a))) (ha:a∈O) (hH:H a=some (.lst xs)) (h:RpL K (mask (F ++ O) H) es ys) :
  Rep K B F O (upd H a (.lst ys)) σ (ρ.set i (some (.own es))):=by
 have em:mask (F ++ O) (upd H a (.lst ys))=mask (F ++ O) H:=Lr (List.mem_append_right _ ha)
 have hk:i < ρ.length:=(List.getElem?_eq_some_iff.mp hi).1
 refine ⟨by simpa using r.len,fun b o e=>?_,r.fr,fun b hb e=>?_,fun j d q=>?_,fun j ks q=>?_,fun j k es' es'' b h1 h2 h3 h4=>?_,fun j ks q=>?_,fun j k es' es'' b h1 h2 h3 h4=>?_⟩
 ·rw [Bp fun z=>by rw [z,r.fr a ha] at e;cases e];exact r.base b o e
 ·by_cases z:b=a
  ·rw [z,Cq] at e;cases e
  ·rw [Bp z] at e;exact r.th b hb e
 ·have hj:j≠i:=fun z=>by subst z;rw [List.getElem?_set_self hk] at q;cases q
  rw [List.getElem?_set_ne (Ne.symm hj)] at q
  rw [em];exact r.is j d q
 ·by_cases hj:j=i
  ·subst hj
   rw [List.getElem?_set_self hk] at q;cases q
   obtain ⟨b,_,e1,e2,e3,_⟩:=r.own j ds hi
   rw [hs] at e1;cases e1
   exact ⟨a,ys,hs,ha,e3,Cq,by rw [em];exact h⟩
  ·rw [List.getElem?_set_ne (Ne.symm hj)] at q
   obtain ⟨b,zs,e1,e2,e3,e4,e5⟩:=r.own j ks q
   have nb:b≠a:=fun z=>by subst z;exact hj (r.inj j i ks ds b q hi e1 hs)
   exact ⟨b,zs,e1,e2,e3,by rw [Bp nb];exact e4,by rw [em];exact e5⟩
 ·have back:∀ (m:Nat) ks,(ρ.set i (some (.own es)))[m]? = some (some (.own ks))→∃ ks',ρ[m]? = some (some (.own ks')):=fun m ks q=>by
   by_cases hm:m=i
   ·subst hm;exact ⟨ds,hi⟩
   ·rw [List.getElem?_set_ne (Ne.symm hm)] at q;exact ⟨ks,q⟩
  obtain ⟨_,q1⟩:=back j es' h1
  obtain ⟨_,q2⟩:=back k es'' h2
  exact r.inj j k _ _ b q1 q2 h3 h4
 ·have hj:j≠i:=fun z=>by subst z;rw [List.getElem?_set_self hk] at q;cases q
  rw [List.getElem?_set_ne (Ne.symm hj)] at q
  obtain ⟨b,zs,e1,e2,e3,e4,e5⟩:=r.tab j ks q
  have nb:b≠a:=fun z=>by rw [z,hH] at e4;cases e4
  exact ⟨b,zs,e1,e2,e3,by rw [Bp nb];exact e4,by rw [em];exact e5⟩
 ·have back:∀ (m:Nat) ks,(ρ.set i (some (.own es)))[m]? = some (some (.tab ks))→ρ[m]? = some (some (.tab ks)):=fun m ks q=>by
   have hm:m≠i:=fun z=>by subst z;rw [List.getElem?_set_self hk] at q;cases q
   rw [List.getElem?_set_ne (Ne.symm hm)] at q;exact q
  exact r.tinj j k _ _ b (back j _ h1) (back k _ h2) h3 h4
theorem Rep.freeze (r:Rep K B F O H σ ρ) {i:Nat} {ds:List Dt} (hi:ρ[i]? = some (some (.own ds))):∃ O',Rep K B F O' H σ (ρ.set i (some (.is (.lst ds)))):=by
 obtain ⟨a,xs,h1,h2,h3,h4,h5⟩:=r.own i ds hi
 have hk:i < ρ.length:=(List.getElem?_eq_some_iff.mp hi).1
 have sub:∀ b∈F ++ O.filter (fun b=>decide (b≠a)),b∈F ++ O:=fun b hb=>by
  rcases List.mem_append.mp hb with hb | hb
  ·exact List.mem_append_left _ hb
  ·exact List.mem_append_right _ (List.mem_filter.mp hb).1
 have na:a∉F ++ O.filter (fun b=>decide (b≠a)):=fun z=>by
  rcases List.mem_append.mp z with z | z
  ·exact h3 z
  ·exact of_decide_eq_true (List.mem_filter.mp z).2 rfl
 refine ⟨O.filter fun b=>decide (b≠a),by simpa using r.len,r.base,fun b hb=>r.fr b (List.mem_filter.mp hb).1,fun b hb=>r.th b (sub b hb),fun j d q=>?_,fun j es q=>?_,fun j k es es' b q1 q2 q3 q4=>?_,fun j ks q=>?_,fun j k es es' b q1 q2 q3 q4=>?_⟩
 ·by_cases hj:j=i
  ·subst hj
   rw [List.getElem?_set_self hk] at q;cases q
   exact ⟨.ref a,h1,M9 ⟨a,xs,rfl,(by rw [Bl na];exact h4),h5.mono (HF sub)⟩⟩
  ·rw [List.getElem?_set_ne (Ne.symm hj)] at q
   obtain ⟨v,e1,e2⟩:=r.is j d q
   exact ⟨v,e1,e2.mono (HF sub)⟩
 ·have hj:j≠i:=fun z=>by subst z;rw [List.getElem?_set_self hk] at q;cases q
  rw [List.getElem?_set_ne (Ne.symm hj)] at q
  obtain ⟨b,ys,e1,e2,e3,e4,e5⟩:=r.own j es q
  have nb:b≠a:=fun z=>by subst z;exact hj (r.inj j i es ds b q hi e1 h1)
  exact ⟨b,ys,e1,List.mem_filter.mpr ⟨e2,decide_eq_true nb⟩,e3,e4,e5.mono (HF sub)⟩
 ·have nj:∀ (m:Nat) ks,(ρ.set i (some (.is (.lst ds))))[m]? = some (some (.own ks))→ρ[m]? = some (some (.own ks)):=fun m ks q=>by
   have hm:m≠i:=fun z=>by subst z;rw [List.getElem?_set_self hk] at q;cases q
   rw [List.getElem?_set_ne (Ne.symm hm)] at q;exact q
  exact r.inj j k es es' b (nj j es q1) (nj k es' q2) q3 q4
 ·have hj:j≠i:=fun z=>by subst z;rw [List.getElem?_set_self hk] at q;cases q
  rw [List.getElem?_set_ne (Ne.symm hj)] at q
  obtain ⟨b,ys,e1,e2,e3,e4,e5⟩:=r.tab j ks q
  have nb:b≠a:=fun z=>by rw [z,h4] at e4;cases e4
  exact ⟨b,ys,e1,List.mem_filter.mpr ⟨e2,decide_eq_true nb⟩,e3,e4,e5.mono (HF sub)⟩
 ·have nj:∀ (m:Nat) ks,(ρ.set i (some (.is (.lst ds))))[m]? = some (some (.tab ks))→ρ[m]? = some (some (.tab ks)):=fun m ks q=>by
   have hm:m≠i:=fun z=>by subst z;rw [List.getElem?_set_self hk] at q;cases q
   rw [List.getElem?_set_ne (Ne.symm hm)] at q;exact q
  exact r.tinj j k es es' b (nj j es q1) (nj k es' q2) q3 q4
end
section
variable {X:Cx} {a b c e:Expr} {es:List Expr} {st:Stmt} {ta tb te:DTE} {tl:DTA} {t:DTS} {pos:Pos}
noncomputable def Alx (i:Nat) (tl:DTA):DTS:=fun D ρ=>tl ρ fun ds=>ds.length≤sizeLine∧D.nx (ρ.set i (some (.own ds)))
theorem W4 (i:Nat) {x:Str} {pos' lp:Pos} (hN:X.N.Nodup) (ha:DA X es tl) (hi:X.N[i]? = some x:=by rfl) (hx:Loc X.env.scope x:=by first | exact Or.inl rfl | exact Or.inr rfl) (hs:swapsWith (.List es lp) (some (.Name x pos')) pos.line X.env=pure false:=by rfl)
  (hf:X.fn x=true∨X.env.scope.names.lookup x=some .local:=by first | exact .inl rfl | exact .inr rfl | assumption):DS X (.Assign [.Name x pos'] (.List es lp) pos) (Alx i tl) where
 mono:=fun hd h=>ha.mono (fun ds ⟨h1,h2⟩=>⟨h1,hd.nx _ h2⟩) h
 ps:=(AaQ hN hi hx (Ack ha.pa) hs hf).imp fun D σ H ⟨B,F,O,ρ,R,h⟩=>⟨B,F,O,ρ,R,ha.mono (fun ds ⟨h1,h2⟩ vs H1 s1 r1=>⟨by rw [r1.len];exact h1,fun p hp=>h2 (p :: O) _ _ ((R.same s1).newOwn i hp r1)⟩) h⟩
noncomputable def ownAt (ρ:Cj) (j:Nat) (k:List Dt→Prop):Prop:=match ρ[j]? with
 | some (some (.own ds))=>k ds
 | _=>False
theorem ownAt.mono {ρ:Cj} {j:Nat} {k k':List Dt→Prop} (hk:∀ ds,k ds→k' ds) (h:ownAt ρ j k):ownAt ρ j k':=by
 unfold ownAt at h ⊢
 split at h
 ·exact hk _ h
 ·exact h.elim
theorem ownAt.get {ρ:Cj} {j:Nat} {k:List Dt→Prop} (h:ownAt ρ j k):∃ ds,ρ[j]? = some (some (.own ds))∧k ds:=by
 unfold ownAt at h
 split at h
 ·rename_i ds e;exact ⟨ds,e,h⟩
 ·exact h.elim
noncomputable def AlF (j:Nat) (tb:DTE):DTE:=fun ρ Q=>ownAt ρ j fun ds=>tb ρ fun k=>match k with
 | .int i=>match ixL i ds with
  | some v=>Q v
  | none=>False
 | _=>False
theorem XM (j:Nat) {x:Str} {px:Pos} (hb:DE X b tb) (hN:X.N[j]? = some x:=by rfl) (hv:Vis X.env.scope x:=by first | exact Or.inl rfl | exact Or.inr (Or.inl rfl) | exact Or.inr (Or.inr rfl)) (hd:(x == ("__debug__":Str))=false:=by decide)
  (hcd:(x == ("__classdict__":Str))=false:=by decide) (hs:PL b:=by exact fun _ _=>rfl):DE X (.Subscript (.Name x px) b pos) (AlF j tb) where
 mono:=fun hq h=>h.mono fun ds h=>hb.mono (fun d h=>by
  split at h
  ·split at h
   ·exact hq _ h
   ·exact h.elim
  ·exact h.elim) h
 pe:=(Ae9 Yw (Kp hN hv hd hcd) hb.pe hs).imp fun σ H Q ⟨B,F,O,ρ,R,h⟩=>by
  obtain ⟨ds,e1,h⟩:=h.get
  obtain ⟨a,xs,h1,h2,h3,h4,h5⟩:=R.own j ds e1
  refine ⟨_,h1,B,F,O,ρ,R,hb.mono (fun d h v H1 s1 r1=>?_) h⟩
  split at h
  ·split at h
   ·rename_i i _ w e2
    obtain ⟨z,e3,e4⟩:∃ z,atI xs i=some z∧Rp X.K (mask (F ++ O) H) w z:=by
     have e5:=Xz e2
     unfold atI at e5 ⊢
     obtain ⟨m,e6,e7⟩:=Option.bind_eq_some_iff.mp e5
     obtain ⟨z,e8,e9⟩:=h5.get e7
     exact ⟨z,by rw [h5.len,e6];exact e8,e9⟩
    exact ⟨a,xs,i,z,rfl,Bb.mp r1,SqL.of (s1 _ _ h4),e3,h z H1 s1 (e4.mono s1.mask)⟩
   ·exact h.elim
  ·exact h.elim
noncomputable def AiU (j:Nat) (te tb:DTE):DTS:=fun D ρ=>te ρ fun d=>ownAt ρ j fun ds=>tb ρ fun k=>match k with
 | .int i=>(0≤i∧i < ds.length)∧D.nx (ρ.set j (some (.own (ds.set i.toNat d))))
 | _=>False
noncomputable def Afy (j:Nat) (te:DTE):DTS:=fun D ρ=>ownAt ρ j fun ds=>te ρ fun d=>ds.length < sizeLine∧D.nx (ρ.set j (some (.own (ds ++ [d]))))
theorem Q5 (j:Nat) {x:Str} {px ap cp:Pos} (he:DE X e te) (hN:X.N[j]? = some x:=by rfl) (hv:Vis X.env.scope x:=by first | exact Or.inl rfl | exact Or.inr (Or.inl rfl) | exact Or.inr (Or.inr rfl)) (hd:(x == ("__debug__":Str))=false:=by decide)
  (hcd:(x == ("__classdict__":Str))=false:=by decide) (hbase:attributeBase (.Name x px) "append" X.env (eval (.Name x px) X.env)=eval (.Name x px) X.env:=by rfl)
  (hfew:((backTo cp (starEach [e] X.env)).all (fun x=>!x.1) && (backToKw cp (keywordEach [] X.env)).all (fun x=>x.1.isSome) && decide ([e].length+([]:List Keyword).length+(if ([]:List Keyword).isEmpty then 0 else 1) < 30))=true:=by rfl)
  (hline:(ap.endLine == cp.line)=true:=by rfl) (hst:starEach [e] X.env=(false,eval e X.env) :: starEach [] X.env:=by rfl) (hplain:(backTo cp (starEach [] X.env)).any (·.1)=false:=by rfl)
  (hs:swapsWith (.Call (.Attribute (.Name x px) "append" ap) [e] [] cp) none pos.line X.env=pure false:=by rfl):DS X (.Expr (.Call (.Attribute (.Name x px) "append" ap) [e] [] cp) pos) (Afy j te) where
 mono:=fun hd h=>h.mono fun ds h=>he.mono (fun d h=>⟨h.1,hd.nx _ h.2⟩) h
 ps:=(TY (AfF PySem.F.plainAttrs_list PySem.F.slot_list_append PySem.F.type_list_append Ob (Kp hN hv hd hcd) (Ks he.pe Ud hst) hbase hfew hline hst hplain) hs).imp fun D σ H ⟨B,F,O,ρ,R,h⟩=>by
  obtain ⟨ds,e1,h⟩:=h.get
  obtain ⟨a,xs,h1,h2,h3,h4,h5⟩:=R.own j ds e1
  refine ⟨_,h1,.inl ⟨rfl,_,SqL.of h4⟩,B,F,O,ρ,R,he.mono (fun d h v H1 s1 r1=>?_) h⟩
  exact ⟨a,xs,v,rfl,rfl,s1 _ _ h4,by rw [h5.len];exact h.1,h.2 O σ _ ((R.same s1).putOwn e1 h1 h2 (s1 _ _ h4) ((h5.mono s1.mask).append (.cons r1 .nil)))⟩
noncomputable def Ajb (j:Nat) (t:DTS):DTS:=fun D ρ=>ownAt ρ j fun ds=>t D (ρ.set j (some (.is (.lst ds))))
theorem Xl (j:Nat) (h:DS X st t):DS X st (Ajb j t) where
 mono:=fun hd z=>z.mono fun ds z=>h.mono hd z
 ps:=h.ps.imp fun D σ H ⟨B,F,O,ρ,R,z⟩=>by
  obtain ⟨ds,e1,z⟩:=z.get
  obtain ⟨O',R'⟩:=R.freeze e1
  exact ⟨B,F,O',_,R',z⟩
noncomputable def AiS (j:Nat):DTE:=fun ρ Q=>ownAt ρ j fun ds=>Q (.int ds.length)
noncomputable def Ajw:D2:=fun a b Q=>match a with
 | .tup xs=>match b with
  | .tup ys=>(xs≠[]∧xs.length+ys.length≤sizeLine)∧Q (.tup (xs ++ ys))
  | _=>False
 | _=>False
end
end L2
namespace L2
open PySem PySem.Spec PyProof.Rows
section chain3
variable {X:Cx} {a b c e:Expr} {ta tb tc te:TE} {pos:Pos}
theorem Z1 {op op' op2:CmpOp} {r r' r2:R2} (ho:OpR X (compareOp op) r) (ho':OpR X (compareOp op') r') (ho2:OpR X (compareOp op2) r2) (ha:PE X a ta) (hb:PE X b tb) (hc:PE X c tc) (he:PE X e te)
  (hm:lastMarks [op,op',op2] [b,c,e]=false:=by with_unfolding_all rfl):PT X (.Compare a [op,op',op2] [b,c,e] pos) (fun σ H Q=>ta σ H fun x H1=>tb σ H1 fun y H2=>r x y H2 fun z H3=>∃ k,z=.bl k ∧
   (if k=true then tc σ H3 fun w' H4=>r' y w' H4 fun z H5=>∃ k,z=.bl k∧(if k=true then te σ H5 fun y' H6=>r2 w' y' H6 fun z H7=>∃ k,z=.bl k∧Q k H7 else Q false H5) else Q false H3)):=by
 intro pins s σ H Q I h
 refine isTrue_chain (thn (ha pins s σ H _ I h) fun v s1 ⟨x,H1,I1,r1,q1⟩=>test_link (thn (hb pins s1 σ H1 _ I1 q1) fun u s2 ⟨y,H2,I2,r2,q2⟩ =>
  thn (ho pins s2 σ H2 x y v u _ I2 r1 r2 q2) fun d s3 ⟨z,H3,I3,r3,k,e,q3⟩=>?_)) hm
 subst e
 cases r3
 refine wpAny_truthy_bool ?_
 cases k with
 | false=>exact ite_ff ⟨H3,I3,q3⟩
 | true =>
  refine ite_tt (test_link (thn (hc pins s3 σ H3 _ I3 q3) fun w' s4 ⟨z',H4,I4,r4,q4⟩=>thn (ho' pins s4 σ H4 y z' u w' _ I4 r2 r4 q4) fun d' s5 ⟨z2,H5,I5,r5,k2,e2,q5⟩=>?_))
  subst e2
  cases r5
  refine wpAny_truthy_bool ?_
  cases k2 with
  | false=>exact ite_ff ⟨H5,I5,q5⟩
  | true =>
   refine ite_tt (test_last (thn (he pins s5 σ H5 _ I5 q5) fun w2 s6 ⟨z3,H6,I6,r6,q6⟩=>thn (ho2 pins s6 σ H6 z' z3 w' w2 _ I6 r4 r6 q6) fun d' s7 ⟨z4,H7,I7,r7,k3,e3,q7⟩=>?_))
   subst e3
   cases r7
   exact wpAny_truthy_bool ⟨H7,I7,q7⟩
end chain3
noncomputable def Zd (t t' t2:D2) (ta tb tc te:DTE):DTT:=fun ρ Q=>ta ρ fun a=>tb ρ fun b=>t a b fun z=>match z with
 | .bl k=>if k=true then tc ρ fun c=>t' b c fun z=>match z with
  | .bl k=>if k=true then te ρ fun e=>t2 c e fun z=>match z with
   | .bl k=>Q k
   | _=>False
   else Q false
  | _=>False
  else Q false
 | _=>False
section
variable {X:Cx} {a b c e:Expr} {ta tb tc te:DTE} {pos:Pos}
theorem Aaj {op op' op2:CmpOp} {r r' r2:R2} {t t' t2:D2} (ho:OpR X (compareOp op) r) (ho':OpR X (compareOp op') r') (ho2:OpR X (compareOp op2) r2) (S:Jp X.K r t) (S':Jp X.K r' t') (S2:Jp X.K r2 t2) (ha:DE X a ta) (hb:DE X b tb) (hc:DE X c tc) (he:DE X e te)
  (hm:lastMarks [op,op',op2] [b,c,e]=false:=by with_unfolding_all rfl):DT X (.Compare a [op,op',op2] [b,c,e] pos) (Zd t t' t2 ta tb tc te) where
 mono:=fun hq h=>ha.mono (fun _ h=>hb.mono (fun _ h=>S.mono (fun z h=>by
  split at h
  ·rename_i k
   cases k with
   | true =>
    refine hc.mono (fun _ h=>S'.mono (fun z h=>?_) h) h
    split at h
    ·rename_i k
     cases k with
     | true =>
      refine he.mono (fun _ h=>S2.mono (fun z h=>?_) h) h
      split at h
      ·exact hq _ h
      ·exact h.elim
     | false=>exact hq _ h
    ·exact h.elim
   | false=>exact hq _ h
  ·exact h.elim) h) h) h
 pt:=(Z1 ho ho' ho2 ha.pe hb.pe hc.pe he.pe hm).imp fun σ H Q ⟨B,F,O,ρ,R,h⟩=>by
  refine ⟨B,F,O,ρ,R,ha.mono (fun a h v H1 s1 r1=>⟨B,F,O,ρ,R.same s1,hb.mono (fun b h u H2 s2 r2=>?_) h⟩) h⟩
  refine S.ok _ H2 a b v u _ ((R.same s1).same s2).th (r1.mono s2.mask) r2 (S.mono (fun z h w H3 s3 r3=>?_) h)
  split at h
  ·rename_i k
   refine ⟨k,Cw.mp r3,?_⟩
   have s123:=(s1.trans s2).trans s3
   cases k with
   | false=>exact h H3 s123
   | true =>
    refine ⟨B,F,O,ρ,R.same s123,hc.mono (fun c h y H4 s4 r4=>?_) h⟩
    refine S'.ok _ H4 b c u y _ ((R.same s123).same s4).th ((r2.mono s3.mask).mono s4.mask) r4 (S'.mono (fun z h w H5 s5 r5=>?_) h)
    split at h
    ·rename_i k
     refine ⟨k,Cw.mp r5,?_⟩
     have s5':=(s123.trans s4).trans s5
     cases k with
     | false=>exact h H5 s5'
     | true =>
      refine ⟨B,F,O,ρ,R.same s5',he.mono (fun e h y2 H6 s6 r6=>?_) h⟩
      refine S2.ok _ H6 c e y y2 _ ((R.same s5').same s6).th ((r4.mono s5.mask).mono s6.mask) r6 (S2.mono (fun z h w H7 s7 r7=>?_) h)
      split at h
      ·exact ⟨_,Cw.mp r7,h H7 ((s5'.trans s6).trans s7)⟩
      ·exact h.elim
    ·exact h.elim
  ·exact h.elim
end
end L2
namespace L2
open PySem PySem.Spec PyProof.Rows PySem.W
end L2
namespace L2
open PySem PySem.Spec PyProof.Rows
variable {X:Cx} {a b:Expr} {ta tb:DTE} {pos:Pos}
theorem Pn {K:PySem.W.Frag} {H:Hp}:∀ {ns:List Int} {xs:List V},RpL K H (ns.map Dt.int) xs→xs=ns.map V.int
 | [],_,h=>by
  obtain rfl:=BJ.mp h
  rfl
 | n :: ns,_,h=>by
  obtain ⟨v,r,rfl,r2,r3⟩:=Bc.mp h
  rw [Bb] at r2
  subst r2
  rw [Pn r3]
  rfl
noncomputable def dIn:D2:=fun a b Q=>∃ (i:Int) (ns:List Int),a=.int i∧b=.lst (ns.map Dt.int)∧Q (.bl (decide (i∈ns)))
noncomputable def Ys (i:Nat) (te:DTE):DTS:=fun D ρ=>match ρ[i]? with
 | some (some (.is (.int a)))=>te ρ fun d=>match d with
  | .int b=>D.nx (ρ.set i (some (.is (.int (a+b)))))
  | _=>False
 | _=>False
theorem Aec (i:Nat) {e:Expr} {te:DTE} {x:Str} {pos':Pos} (hN:X.N.Nodup) (he:DE X e te) (hi:X.N[i]? = some x:=by rfl) (hx:Loc X.env.scope x:=by first | exact Or.inl rfl | exact Or.inr rfl)
  (hf:X.fn x=true∨X.env.scope.names.lookup x=some .local:=by first | exact .inl rfl | exact .inr rfl | assumption):DS X (.AugAssign (.Name x pos') .Add e pos) (Ys i te) where
 mono:=fun {ρ D D'} hd h=>by
  unfold Ys at *
  match hq:ρ[i]?,h with
  | some (some (.is (.int a))),h =>
   refine he.mono (fun d q=>?_) h
   match d,q with
   | .int b,q=>exact hd.nx _ q
 ps:=(Ag5 hN hi hx he.pe AgV hf).imp fun D σ H ⟨B,F,O,ρ,R,h⟩=>by
  unfold Ys at h
  match hq:ρ[i]?,h with
  | some (some (.is (.int a))),h =>
   obtain ⟨v,e1,r⟩:=R.is i _ hq
   rw [Bb] at r
   subst r
   refine ⟨_,e1,B,F,O,ρ,R,he.mono (fun d q v H1 s1 r1=>?_) h⟩
   match d,q,r1 with
   | .int b,q,r1 =>
    rw [Bb] at r1
    subst r1
    exact ⟨a,b,rfl,rfl,q O _ H1 ((R.same s1).set i (Bb.mpr rfl))⟩
noncomputable def Aju (i j k:Nat) (tl:DTA):DTS:=fun D ρ=>tl ρ fun ds=>match ds with
 | [d,e,f]=>D.nx (((ρ.set i (some (.is d))).set j (some (.is e))).set k (some (.is f)))
 | _=>False
theorem Sv {ti:DTI} {g:DTG} {tb:DTS} {D:GX} {ρ:Cj} (h:ti ρ fun items=>Ady (fun _ R=>R items) g tb D ρ):Ady ti g tb D ρ:=h
end L2
namespace L2
open PySem PySem.Spec PyProof.Rows PySem.SeqAt
mutual
noncomputable def Dt.noL:Nat→Dt→Bool
 | _,.non=>true
 | _,.bl _=>true
 | _,.int _=>true
 | _,.str _=>true
 | 0,_=>false
 | n+1,.tup ds=>Dt.noLs n ds
 | _,_=>false
noncomputable def Dt.noLs:Nat→List Dt→Bool
 | _,[]=>true
 | n,d :: ds=>Dt.noL n d && Dt.noLs n ds
end
theorem AgP {n:Nat} {d:Dt} {r:List Dt}:Dt.noLs n (d :: r)=(Dt.noL n d && Dt.noLs n r):=by rw [Dt.noLs]
theorem Aih {n:Nat} {r:List Dt}:Dt.noL (n+1) (.tup r)=Dt.noLs n r:=by rw [Dt.noL]
noncomputable def Keep (M M':Hp):Prop:=∀ b o,M b=some o→(∀ xs,o≠.lst xs)→M' b=some o
mutual
theorem AgH {K:PySem.W.Frag} {M M':Hp} (k:Keep M M'):∀ (n:Nat) (d:Dt) (v:V),d.noL n=true→Rp K M d v→Rp K M' d v
 | _,.non,_,_,r=>by rw [Jt] at r ⊢;exact r
 | _,.bl _,_,_,r=>by rw [Cw] at r ⊢;exact r
 | _,.int _,_,_,r=>by rw [Bb] at r ⊢;exact r
 | _,.str _,_,_,r=>by rw [N8] at r ⊢;exact r
 | 0,.tup _,_,h,_=>by simp [Dt.noL] at h
 | n+1,.tup ds,_,h,r=>by
  rw [Aih] at h
  obtain ⟨a,xs,e,q,r⟩:=CW.mp r
  refine CW.mpr ⟨a,xs,e,?_,YG k n ds xs h r⟩
  rcases q with (q | ⟨o,q⟩) | q
  ·exact .inl (.inl (k _ _ q fun _=>by simp))
  ·exact .inl (.inr ⟨o,k _ _ q fun _=>by simp⟩)
  ·exact .inr q
 | 0,.lst _,_,h,_=>by simp [Dt.noL] at h
 | _+1,.lst _,_,h,_=>by simp [Dt.noL] at h
 | 0,.fn _,_,h,_=>by simp [Dt.noL] at h
 | _+1,.fn _,_,h,_=>by simp [Dt.noL] at h
 | 0,.exc _ _ _,_,h,_=>by simp [Dt.noL] at h
 | _+1,.exc _ _ _,_,h,_=>by simp [Dt.noL] at h
 | 0,.obj _ _ _,_,h,_=>by simp [Dt.noL] at h
 | _+1,.obj _ _ _,_,h,_=>by simp [Dt.noL] at h
theorem YG {K:PySem.W.Frag} {M M':Hp} (k:Keep M M'):∀ (n:Nat) (ds:List Dt) (vs:List V),Dt.noLs n ds=true→RpL K M ds vs→RpL K M' ds vs
 | _,[],_,_,r=>by rw [BJ] at r ⊢;exact r
 | n,d :: ds,_,h,r=>by
  rw [AgP,Bool.and_eq_true] at h
  obtain ⟨v,w,rfl,r1,r2⟩:=Bc.mp r
  exact Bc.mpr ⟨v,w,rfl,AgH k n d v h.1 r1,YG k n ds w h.2 r2⟩
end
noncomputable def AlH:Option HO→Bool
 | some (.lst _)=>true
 | _=>false
noncomputable def lists (H:Hp) (n:Nat):List Addr:=(List.range n).filter fun a=>AlH (H a)
section
variable {X:Cx} {a b c e:Expr} {es:List Expr} {st:Stmt} {ta tb te:DTE} {tl:DTA} {tA:DTT} {t:DTS} {pos:Pos}
noncomputable def Ag8 (i:Nat) (sp:DSp) (tl:DTA):DTS:=fun D ρ=>tl ρ fun ds=>Dt.noLs 4 ds=true∧sp ds fun d=>∃ ks,d=.lst ks∧(∃ r,Dt.tup r∈ks)∧Dt.noLs 4 ks=true∧D.nx (ρ.set i (some (.own ks)))
noncomputable def Agh (j:Nat) (t:DTT):DTT:=fun ρ Q=>ownAt ρ j fun ds=>t (ρ.set j (some (.is (.lst ds)))) Q
noncomputable def AhP (j:Nat):DTE:=fun ρ Q=>ownAt ρ j fun ds=>Q (.lst ds)
end
end L2
namespace L2
open PySem PySem.Spec PyProof.Rows PySem.W PySem.Builtin PySem.Builtin.ObjectAttr
section
variable {prog:Program} {w:World} {A:Around} {E:Value→Shared→Prop} {s:Shared} {K:PySem.W.Frag} {C U x dx:Addr} {name:Str} {v:Value}
end
section
variable {X:Cx} {pins:List (Addr × Obj)} {σ:St} {H:Hp} {s:Shared} {h':Heap} {a dx C U f fI:Addr}
end
end L2
namespace L2
open PySem PySem.Spec PyProof.Rows PySem.SeqAt
noncomputable abbrev AgY:=Cj→(List Dt→Prop)→(Dt→Prop)→Prop
section
variable {X:Cx} {e:Expr} {es:List Expr} {te:WM} {tl:DTA} {tx:AgY} {pos:Pos}
noncomputable def Ahn (te:WM) (tl:DTA):AgY:=fun ρ Q E=>te ρ (fun d=>tl ρ fun ds=>Q (d :: ds)) E
noncomputable def Agv (sp:DSp) (tx:AgY):WM:=fun ρ Q E=>tx ρ (fun ds=>sp ds Q) E
end
end L2
namespace L2
open PySem PySem.Spec PyProof.Rows
section
variable {prog:Program} {w:World} {A:Around} {I S:Addr} {fp wr:List Addr} {n:Nat} {P:Nat→Value→Prop} {St:Nat→Heap→Prop} {bt:Nat→Nat→Bool} {R:Result→Shared→Prop}
noncomputable def Mp (wr:List Addr) (S:Addr) (h h':Heap):Prop:=∀ b o,b∉wr→b≠S→h.get? b=some o→h'.get? b=some o
noncomputable def XF (prog:Program) (w:World) (A:Around) (wr:List Addr) (S:Addr) (h:Heap) (P:Nat→Value→Prop) (bt:Nat→Nat→Bool):Prop :=
 ∀ (i j:Nat) (x y:Value) (s:Shared) (Q:Value→Shared→Prop) (E:Value→Shared→Prop),Mp wr S h s.heap→P i x→P j y→Q (.bool (bt i j)) s→wpAny (model prog w) A (richCompare .Lt x y) Q E s
theorem Xx:(toString "min" ++ toString ".loop":String)="min.loop":=by decide
theorem W8 {h0:Heap} (W:Walks prog w A.in1 I fp wr n P St) (less:XF prog w A.in1 wr S h0 P bt) (off:S∉fp) :
  ∀ (left at':Nat) (s:Shared) (best:Value) (c:Nat),n=at'+1+left→St (at'+1) s.heap→P (argBest bt at') best→Mp wr S h0 s.heap →
   s.heap.get? S=some ⟨.type "list",none,.seq #[best,best] c,#[]⟩ →
   (∀ v h' tk,P (argBest bt (n - 1)) v→Mp wr S s.heap h'→R (.ok (.ret v)) { s with heap:=h',toks:=tk }) →
   codeAny (model prog w) A (.builtin "min.loop" ⟨[.ref I,.none,.ref S],[]⟩) R s:=by
 have off':S∉wr:=fun z=>off (W.sub _ z)
 have nm:=Xx
 intro left
 induction left with
 | zero =>
  intro at' s best c hn st hb hk hS fin
  have e:at'+1=n:=by omega
  refine codeAny_builtin F.entry_min_loop ?_;rw [Around.under_plainId F.plain_min_loop _];show wpAny _ A.in1 (seqItems? (.ref S) >>= _) _ _ s
  refine wpAny_bind (wpAny_seqItems hS rfl ?_);show wpAny _ A.in1 (tryCatch (pyNext (.ref I)) _ >>= _) _ _ s
  refine wpAny_bind (wpAny_tryCatch (W.done s _ _ (e ▸ st) fun h1 tk k1=>?_))
  show wpAny _ A.in1 (updateSeq S (fun _=>#[]) >>= _) _ _ _;refine wpAny_bind (wpAny_updateSeq (k1 S _ off' hS) rfl (wpAny_bind (wpAny_letGo (wpAny_pure ?_))))
  exact fin best _ tk (by rw [←e];exact hb) fun b o nb ns eo=>(Heap.get?_update_other _ _ (Ne.symm ns)).trans (k1 b o nb eo)
 | succ left ih =>
  intro at' s best c hn st hb hk hS fin
  refine codeAny_builtin F.entry_min_loop ?_;rw [Around.under_plainId F.plain_min_loop _];show wpAny _ A.in1 (seqItems? (.ref S) >>= _) _ _ s
  refine wpAny_bind (wpAny_seqItems hS rfl ?_);show wpAny _ A.in1 (tryCatch (pyNext (.ref I)) _ >>= _) _ _ s
  refine wpAny_bind (wpAny_tryCatch (W.item (at'+1) s _ _ (by omega) st fun v h1 tk hv st1 k1=>?_))
  have hS1:=k1 S _ off' hS
  have hk1:Mp wr S h0 h1:=fun b o nb ns eo=>k1 b o nb (hk b o nb ns eo)
  show wpAny _ A.in1 (tryCatch (holding [v,v] (richCompare .Lt v best >>= _)) _ >>= _) _ _ _
  refine wpAny_bind (wpAny_tryCatch (wpAny_holding (wpAny_bind (less (at'+1) (argBest bt at') v best _ _ _ hk1 hv hb ?_))))
  refine wpAny_bind (wpAny_holding (wpAny_truthy_bool ?_));refine wpAny_bind (wpAny_letGo (wpAny_pure ?_))
  cases hbt:bt (at'+1) (argBest bt at') with
  | true =>
   simp only [if_true]
   refine wpAny_bind (wpAny_updateSeq hS1 rfl (wpAny_bind (wpAny_letGo ?_)))
   rw [nm]
   refine wpAny_pure ⟨plainId_quiet F.plain_min_loop _,ih (at'+1) _ v _ (by omega) (W.frame _ _ _ st1 fun b hbf o eo=>(Heap.get?_update_other _ _ (fun z:S=b=>off (z ▸ hbf))).trans eo) (by simp only [argBest,hbt,if_true];exact hv) (fun b o nb ns eo=>(Heap.get?_update_other _ _ (Ne.symm ns)).trans (hk1 b o nb ns eo)) (Heap.get?_update_self _ hS1 rfl) fun v' h2 tk2 hv' k2=>?_⟩
   exact fin v' h2 tk2 hv' fun b o nb ns eo=>k2 b o nb ns ((Heap.get?_update_other _ _ (Ne.symm ns)).trans (k1 b o nb eo))
  | false =>
   simp only [Bool.false_eq_true,if_false]
   refine wpAny_bind (wpAny_letGo ?_)
   rw [nm]
   refine wpAny_pure ⟨plainId_quiet F.plain_min_loop _,ih (at'+1) _ best c (by omega) st1 (by simp only [argBest,hbt,Bool.false_eq_true,if_false];exact hb) hk1 hS1 fun v' h2 tk2 hv' k2=>?_⟩
   exact fin v' h2 tk2 hv' fun b o nb ns eo=>k2 b o nb ns (k1 b o nb eo)
theorem Vb {s:Shared} {c:Nat} (W:Walks prog w A.in1 I fp wr n P St) (less:XF prog w A.in1 wr S s.heap P bt) (off:S∉fp) (n0:0 < n) (st:St 0 s.heap) (hS:s.heap.get? S=some ⟨.type "list",none,.seq #[] c,#[]⟩)
  (fin:∀ v h' tk,P (argBest bt (n - 1)) v→Mp wr S s.heap h'→R (.ok (.ret v)) { s with heap:=h',toks:=tk }):codeAny (model prog w) A (.builtin "min.loop" ⟨[.ref I,.none,.ref S],[]⟩) R s:=by
 have off':S∉wr:=fun z=>off (W.sub _ z)
 refine codeAny_builtin F.entry_min_loop ?_;rw [Around.under_plainId F.plain_min_loop _];show wpAny _ A.in1 (seqItems? (.ref S) >>= _) _ _ s
 refine wpAny_bind (wpAny_seqItems hS rfl ?_);show wpAny _ A.in1 (tryCatch (pyNext (.ref I)) _ >>= _) _ _ s
 refine wpAny_bind (wpAny_tryCatch (W.item 0 s _ _ n0 st fun v h1 tk hv st1 k1=>?_))
 have hS1:=k1 S _ off' hS
 show wpAny _ A.in1 (updateSeq S (fun _=>#[v,v]) >>= _) _ _ _;refine wpAny_bind (wpAny_updateSeq hS1 rfl ?_);rw [Xx]
 refine wpAny_pure ⟨plainId_quiet F.plain_min_loop _,W8 (h0:=s.heap) W less off (n - 1) 0 _ v _ (by omega) (W.frame _ _ _ st1 fun b hbf o eo=>(Heap.get?_update_other _ _ (fun z:S=b=>off (z ▸ hbf))).trans eo) hv (fun b o nb ns eo=>(Heap.get?_update_other _ _ (Ne.symm ns)).trans (k1 b o nb eo)) (Heap.get?_update_self _ hS1 rfl) fun v' h2 tk2 hv' k2=>?_⟩
 exact fin v' h2 tk2 hv' fun b o nb ns eo=>k2 b o nb ns ((Heap.get?_update_other _ _ (Ne.symm ns)).trans (k1 b o nb eo))
theorem Vt {E:Value→Shared→Prop} {s:Shared} {x:Value} {Q:Value→Shared→Prop}
  (h:wpAny (model prog w) A.in1 (pyIter x) (fun it s2=>∃ I fp wr n P St bt,it=.ref I∧Walks prog w A.in1 I fp wr n P St∧St 0 s2.heap∧(∀ b∈fp,b < s2.heap.objs.size)∧0 < n ∧
   (∀ h1:Heap,(∀ b o,s2.heap.get? b=some o→h1.get? b=some o)→XF prog w A.in1 wr s2.heap.objs.size h1 P bt) ∧
   ∀ v h' tk,P (argBest bt (n - 1)) v→(∀ b o,b∉wr→s2.heap.get? b=some o→h'.get? b=some o)→Q v { s2 with heap:=h',toks:=tk }) E s) :
  wpAny (model prog w) A (call (.builtin "min") [x]) Q E s:=by
 refine call_function_tree F.kind_min F.plain_min F.entry_min (F.args_min1 _) ?_;show wpAny _ A.in1 (Builtin.Builtins.bindParams "min" ["key","default"] 0 ⟨[],[]⟩ >>= _) _ _ s
 refine wpAny_bind (wpAny_of_eq (show Builtin.Builtins.bindParams "min" ["key","default"] 0 ⟨[],[]⟩=pure [none,none] from rfl) ?_);refine wpAny_bind (wpAny_pure ?_)
 refine wpAny_bind (wpAny_mono h (fun it s2 h2=>?_) fun _ _ z=>z);obtain ⟨I,fp,wr,n,P,St,bt,rfl,W,st,low,n0,less,fin⟩:=h2
 refine wpAny_bind (wpAny_newObj_type ?_);rw [Xx]
 have off:s2.heap.objs.size∉fp:=fun z=>Nat.lt_irrefl _ (low _ z)
 refine wpAny_pure ⟨plainId_quiet F.plain_min_loop _,Vb W (less _ fun b o e=>Heap.get?_push_of_some _ e) off n0 (W.frame _ _ _ st fun b _ o e=>Heap.get?_push_of_some _ e) (Heap.get?_push_size _ rfl) fun v h' tk hv k=>?_⟩
 exact fin v h' tk hv fun b o nb e=>k b o nb (Nat.ne_of_lt (Heap.lt_size e)) (Heap.get?_push_of_some _ e)
end
variable {X:Cx}
theorem Vals.at {xs:List V} {us:List Value} (r:Vals xs us):∀ (i:Nat) (u:Value),us[i]? = some u→∃ x,xs[i]? = some x∧RelV x u:=by
 induction r with
 | nil=>intro i u h;cases h
 | cons h t ih =>
  intro i u e
  cases i with
  | zero=>exact ⟨_,rfl,by cases e;exact h⟩
  | succ i=>exact ih i u e
theorem RpL.at' {K:PySem.W.Frag} {H:Hp}:∀ {ds:List Dt} {vs:List V} (i:Nat) (v:V),RpL K H ds vs→vs[i]? = some v→∃ d,ds[i]? = some d∧Rp K H d v
 | [],vs,i,v,h,e=>by
  obtain rfl:=BJ.mp h
  cases e
 | d :: ds,vs,i,v,h,e=>by
  obtain ⟨v',r,rfl,r2,r3⟩:=Bc.mp h
  cases i with
  | zero=>exact ⟨d,rfl,by cases e;exact r2⟩
  | succ i=>exact RpL.at' i v r3 e
theorem RpL.len' {K:PySem.W.Frag} {H:Hp}:∀ {ds:List Dt} {vs:List V},RpL K H ds vs→vs.length=ds.length
 | [],vs,h=>by
  obtain rfl:=BJ.mp h
  rfl
 | d :: ds,vs,h=>by
  obtain ⟨v',r,rfl,r2,r3⟩:=Bc.mp h
  rw [List.length_cons,List.length_cons,RpL.len' r3]
noncomputable abbrev Gg (ns:List Int):Dt:=.tup (ns.map Dt.int)
end L2
namespace L2
open PySem PySem.Spec PyProof.Rows
variable {X:Cx}
theorem Aa9 {h:Heap} {a:Addr} {i1 i2:Array Value} (t1:IsTup h a i1) (t2:IsTup h a i2):i1=i2:=by
 obtain ⟨o,e1,_,n1,d1⟩:=t1
 obtain ⟨o',e2,_,n2,d2⟩:=t2
 rw [e1] at e2
 cases e2
 rw [d1] at d2
 cases d2
 rfl
noncomputable def AcY (K:PySem.W.Frag):V→List V→Hp→VK→Prop:=fun x ys H Q=>∃ p vs,∃ nss:Nat→List Int,∃ b ns j,x=.ref p∧ys=[.ref b]∧SqL K H p vs∧SqT K H b (List.map V.int ns)∧(∀ (i:Nat) (v:V),vs[i]? = some v→∃ a,v=.ref a∧SqT K H a ((nss i).map V.int)) ∧
 j < vs.length∧nss j=ns∧(∀ m,m < j→nss m≠ns)∧Q (.int (j:Nat)) H
theorem Aa8 {K:PySem.W.Frag} {H:Hp} {a:Addr} {ns:List Int} (h:SqT K H a (ns.map V.int)):Rp K H (Gg ns) (.ref a):=CW.mpr ⟨a,_,rfl,h,RpL.ints ns⟩
theorem UW:∀ (ns ms:List Int),Dt.eqs (ns.map Dt.int) (ms.map Dt.int)=decide (ns=ms)
 | [],[]=>by simp [Dt.eqs]
 | [],m :: ms=>by simp [Dt.eqs]
 | n :: ns,[]=>by simp [Dt.eqs]
 | n :: ns,m :: ms=>by
  rw [List.map_cons,List.map_cons,Dt.eqs,UW ns ms,SX,←Bool.decide_and]
  exact decide_eq_decide.mpr (by simp)
theorem Qh:∀ (ns:List Int),Dt.flats 7 (ns.map Dt.int)=true
 | []=>rfl
 | n :: ns=>by rw [List.map_cons,Dt.flats,Qh ns];rfl
theorem Zz (hu:X.A.units+64 < cLine) (hu1:X.A.in1.units+8 < cLine):MtR X "list.index" (AcY X.K):=by
 classical
 intro pins s σ H x ys v us Q I rx ry h
 obtain ⟨p,vs,nss,b,ns,j,rfl,rfl,hl,hb,each,jl,ej,before,q⟩:=h
 cases rx
 obtain ⟨u,rfl,r1⟩:=vals1 ry
 cases r1
 obtain ⟨its,rv,pl,hz⟩:=I.list hl
 have hlen:its.length=vs.length:=rv.length.symm
 have fl:∀ ns:List Int,(Gg ns).flat 8=true:=fun ns=>Qh ns
 have rowAt':∀ (i:Nat) (y:Value),its[i]? = some y→∃ a,y=.ref a∧SqT X.K H a ((nss i).map V.int):=fun i y e=>by
  obtain ⟨v,e1,r2⟩:=Vals.at rv i y e
  obtain ⟨a,rfl,ht⟩:=each i v e1
  cases r2
  exact ⟨a,rfl,ht⟩
 have uniq:∀ (i i':Nat) (y:Value),its[i]? = some y→its[i']? = some y→nss i=nss i':=fun i i' y e e'=>by
  obtain ⟨a,rfl,h1⟩:=rowAt' i y e
  obtain ⟨a',ea,h2⟩:=rowAt' i' _ e'
  cases ea
  obtain ⟨i1,v1,t1,_⟩:=I.tuple h1
  obtain ⟨i2,v2,t2,_⟩:=I.tuple h2
  have es:=Aa9 t1 t2
  have n1:IntsAre i1.toArray.toList (nss i):=intsAre_of v1
  have n2:IntsAre i2.toArray.toList (nss i'):=intsAre_of v2
  rw [←es] at n2
  rw [←n1.numsOf,←n2.numsOf]
 obtain ⟨o,n,eo,ec,ed,dd⟩:=pl
 obtain ⟨cl,di,da,sl⟩:=o
 dsimp only at ec ed dd
 subst ec ed dd
 have jl':j < its.toArray.size:=by rw [List.size_toArray];omega
 have at':∀ (i:Nat) (hi:i < its.toArray.size),its[i]? = some its.toArray[i]:=fun i hi=>by
  rw [List.getElem_toArray]
  exact List.getElem?_eq_getElem _
 refine call_meets F.slot_list_index ⟨_,eo,rfl⟩ F.entry_list_index (F.args_list_index_2 _ _) (SeqAt.list_indexAt p its.toArray n none sl (.ref b) (fun y=>decide (∃ i,its[i]? = some y∧nss i=ns)) j jl' ?_ ?_ ?_) ⟨eo,?_,?_⟩
 ·have:sizeLine < 2 ^ 63 - 1:=by unfold sizeLine;decide
  omega
 ·exact decide_eq_true ⟨j,at' j jl',ej⟩
 ·intro m hm lt
  refine decide_eq_false ?_
  rintro ⟨i,e1,e2⟩
  exact before m lt ((uniq m i _ (at' m hm) e1).trans e2)
 ·intro y hy
  obtain ⟨i,hi,e⟩:=List.getElem_of_mem (show y∈its by simpa using hy)
  have e1:its[i]? = some y:=by rw [←e];exact List.getElem?_eq_getElem hi
  obtain ⟨a,rfl,ht⟩:=rowAt' i y e1
  obtain ⟨ca,da⟩:=Gd _ 8 (fl (nss i))
  obtain ⟨cb,db⟩:=Gd _ 8 (fl ns)
  obtain ⟨as,q1⟩:=HJ I ca (Aa8 ht) (rfl:RelV (.ref a) (.ref a))
  obtain ⟨bs,q2⟩:=HJ I cb (Aa8 hb) (rfl:RelV (.ref b) (.ref b))
  have:=SeqAt.eqAt_reads _ _ X.A.in1 s _ _ as bs q1 q2 ca cb (by omega)
  rw [Ri _ _ ca cb] at this
  have ee:(Gg (nss i)).eq (Gg ns)=decide (∃ i,its[i]? = some (Value.ref a)∧nss i=ns):=by
   show Dt.eqs _ _=_
   rw [UW]
   refine decide_eq_decide.mpr ⟨fun z=>⟨i,e1,z⟩,?_⟩
   rintro ⟨i',e2,e3⟩
   exact (uniq i i' _ e1 e2).trans e3
  rw [ee] at this
  exact this
 ·exact ⟨.int _,H,I.tok _,⟨_,rfl⟩,q⟩
theorem Aex {K:PySem.W.Frag} {H:Hp} {nss:List (List Int)} {vs:List V} (h:RpL K H (nss.map Gg) vs):vs.length=nss.length∧∀ (i:Nat) (v:V),vs[i]? = some v→∃ a,v=.ref a∧SqT K H a ((nss.getD i []).map V.int):=by
 refine ⟨by rw [RpL.len' h,List.length_map],fun i v e=>?_⟩
 obtain ⟨d,e1,r⟩:=RpL.at' i v h e
 rw [List.getElem?_map] at e1
 cases q:nss[i]? with
 | none=>rw [q] at e1;cases e1
 | some ns =>
  rw [q] at e1
  cases e1
  have:nss.getD i []=ns:=by simp [List.getD,q]
  rw [this]
  obtain ⟨a,ys,rfl,ht,hy⟩:=CW.mp r
  obtain rfl:=Pn hy
  exact ⟨a,rfl,ht⟩
theorem Ajq {A:Around} (h:A.units+64 < cLine):A.in1.units+8 < cLine:=by show A.units+1+8 < cLine;omega
end L2
namespace L2
open PySem PySem.Spec PyProof.Rows PySem.SeqAt
section
variable {X:Cx} {a b c e o:Expr} {es:List Expr} {ta tb te:DTE} {tl:DTA} {pos apos:Pos}
noncomputable def AfX (K:PySem.W.Frag) (te:DTE) (f:Str):DTE:=fun ρ Q=>te ρ fun d=>match d with
 | .obj c ns ds=>OJ K c f∧∃ v,(ns.zip ds).lookup f=some v∧Q v
 | _=>False
theorem PB {f:Str} (h:DE X e te) (hb:attributeBase e f X.env (eval e X.env)=eval e X.env:=by rfl):DE X (.Attribute e f pos) (AfX X.K te f) where
 mono:=fun hq z=>h.mono (fun d z=>by
  split at z
  ·exact let ⟨a,v,b,c⟩:=z;⟨a,v,b,hq _ c⟩
  ·exact z.elim) z
 pe:=(Agf h.pe hb).imp fun σ H Q ⟨B,F,O,ρ,R,z⟩=>⟨B,F,O,ρ,R,h.mono (fun d z v H1 s1 r1=>by
  split at z
  ·obtain ⟨na,y,ly,q⟩:=z
   obtain ⟨a,C,dx,vs,rfl,h1,cl,h2,_,h5⟩:=QT.mp r1
   obtain ⟨v,lv,rv⟩:=zip_get h5 ly
   exact ⟨a,C,dx,_,v,rfl,Bu _ _ h2,cl,na C h1,lv,q v H1 s1 rv⟩
  ·exact z.elim) z⟩
structure IsC (K:PySem.W.Frag) (c:Str):Prop where
 ha:∀ C,PySem.W.nsIn K mainGlobals c=some (some (.ref C))→PySem.W.findIn K (.ref C) "__class__"=some (some (.builtin "object.__class__"))
 hn:PySem.W.specialIn K (.builtin "object.__class__") "__get__"=some (some (.builtin "getset_descriptor.__get__"))
 ht:PySem.W.takesIn K (.builtin "object.__class__")=some true
 hm:∀ C,PySem.W.nsIn K mainGlobals c=some (some (.ref C))→PySem.W.mroIn K C (.type "object")=some true
noncomputable def Ang (K:PySem.W.Frag):DL:=fun ds Q=>match ds with
 | [.obj c _ _,.fn A]=>∃ v,IsC K c∧Ai6 K c A v∧Q (.bl v)
 | _=>False
noncomputable def Za (K:PySem.W.Frag) (c m:Str) (g:Addr):Prop:=∀ C,PySem.W.nsIn K mainGlobals c=some (some (.ref C))→Meth K C m g
noncomputable def WT (K:PySem.W.Frag) (m:Str) (g:Addr) (sp:Sp) (ta:TE) (t:TA):TE:=fun σ H Q=>ta σ H fun x H1=>∃ a C dx fs,x=.ref a∧H1 a=some (.ins C dx fs)∧Cls K C∧Meth K C m g∧fs.lookup m=none∧t σ H1 fun vs H2=>sp (x :: vs) H2 Q E0
theorem Ah3 {pl:Sem Bool} {k:Nat} {m:Str} {g:Addr} {fd:FuncData} {ps:List Str} {sp:Sp} {ta:TE} (he:PE X o ta) (F:HX X.prog X.w X.K X.mg X.base CX0 k g fd ps sp) (hr:Ep k X.A) (hb:Binds X.K fd ps [])
  (ht:eval (.Call (.Attribute o m apos) [] [] pos) X.env=(do
   let ov ←eval o X.env
   standAt apos.atName
   let (f,first) ←holding [ov] (getMethod ov m pl)
   callWith pos f first (backTo pos (starEach [] X.env)) (backToKw pos (keywordEach [] X.env))):=by rfl) :
  PE X (.Call (.Attribute o m apos) [] [] pos) (WT X.K m g sp ta AjG):=by
 intro pins s σ H Q I h
 refine PySem.W.methodCall_KW (pl:=pl) (thn (he pins s σ H _ I h) fun u s1 ⟨x,H1,I1,rx,a,C,dx,fs,ex,ea,c,hm,l,q⟩=>?_) ht
 subst ex
 obtain rfl:u=Value.ref a:=rx
 refine PX I1 ea c hm l ?_
 exact PySem.W.callWith_K0 (first:=[.ref a]) I1.kIn hm.kp (Uk (us:=[.ref a]) (vs:=[.ref a]) F hr hb .nil Vi I1 (.cons rfl .nil) q)
theorem AbB {pl:Sem Bool} {k:Nat} {m:Str} {g:Addr} {fd:FuncData} {ps:List Str} {sp:Sp} {ta:TE} {t:TA} (he:PE X o ta) (F:HX X.prog X.w X.K X.mg X.base CX0 k g fd ps sp) (hr:Ep k X.A) (hb:Binds X.K fd ps []) (ha:PA X (e :: es) t)
  (kp:PySem.W.keepIn X.K (.ref g)=true) (hst:starEach (e :: es) X.env=(false,eval e X.env) :: starEach es X.env:=by rfl) (hpl:(backTo pos (starEach es X.env)).any (·.1)=false:=by rfl)
  (ht:eval (.Call (.Attribute o m apos) (e :: es) [] pos) X.env=(do
   let ov ←eval o X.env
   standAt apos.atName
   let (f,first) ←holding [ov] (getMethod ov m pl)
   callWith pos f first (backTo pos (starEach (e :: es) X.env)) (backToKw pos (keywordEach [] X.env))):=by rfl) :
  PE X (.Call (.Attribute o m apos) (e :: es) [] pos) (WT X.K m g sp ta t):=by
 intro pins s σ H Q I h
 refine PySem.W.methodCall_KW (pl:=pl) (thn (he pins s σ H _ I h) fun u s1 ⟨x,H1,I1,rx,a,C,dx,fs,ex,ea,c,hm,l,q⟩=>?_) ht
 subst ex
 obtain rfl:u=Value.ref a:=rx
 refine PX I1 ea c hm l ?_
 refine PySem.W.callWith_K (first:=[.ref a]) (h₀:=X.base) I.ok.mod.kin hm.kp (thn (ha pos pins s1 σ H1 _ I1 q) fun us s2 ⟨vs,H2,I2,r,q2⟩=>⟨I2.kIn,?_⟩) hst hpl
 exact Uk (us:=.ref a :: us) (vs:=.ref a :: vs) F hr hb .nil Vi I2 (.cons rfl r) (by simpa using q2)
noncomputable def Qz (K:PySem.W.Frag) (m:Str) (g:Addr) (sp:DSp) (te:DTE) (tl:DTA):DTE:=fun ρ Q=>te ρ fun d=>match d with
 | .obj c ns ds=>Za K c m g∧m∉ns∧tl ρ fun es=>sp (.obj c ns ds :: es) Q
 | _=>False
theorem Vj {f:Str}:∀ {ns:List Str} {vs:List V},f∉ns→(ns.zip vs).lookup f=none
 | [],_,_=>by simp
 | _ :: _,[],_=>by simp
 | n :: ns,v :: vs,h=>by
  have hb:(f == n)=false:=beq_eq_false_iff_ne.mpr fun e=>h (by rw [e];exact List.mem_cons_self)
  rw [List.zip_cons_cons]
  simp only [List.lookup,hb]
  exact Vj fun z=>h (List.mem_cons_of_mem _ z)
theorem Abz {m:Str} {g:Addr} {sp:DSp} (M:Ir sp) (h:DE X o te) (ha:DA X es tl) (σ:St) (H:Hp) (Q:VK) (z:lE X.K (Qz X.K m g sp te tl) σ H Q):WT X.K m g (lSp X.K sp) (lE X.K te) (lA X.K tl) σ H Q:=by
 obtain ⟨B,F,O,ρ,R,z⟩:=z
 refine ⟨B,F,O,ρ,R,h.mono (fun d z v H1 s1 r1=>?_) z⟩
 split at z
 ·obtain ⟨mo,nm,z⟩:=z
  obtain ⟨a,C,dx,vs,e0,h1,cl,h2,_,h5⟩:=QT.mp r1
  subst e0
  refine ⟨a,C,dx,_,rfl,Bu _ _ h2,cl,mo C h1,Vj nm,B,F,O,ρ,R.same s1,ha.mono (fun es z ws H2 s2 r2=>?_) z⟩
  exact ⟨F ++ O,_,((R.same s1).same s2).th,RpL.cons (r1.mono s2.mask) r2,M _ _ _ (fun d q w H3 s3 r3=>q w H3 ((s1.trans s2).trans s3) r3) z⟩
 ·exact z.elim
theorem ZK {m:Str} {g:Addr} {sp:DSp} (M:Ir sp) (h:DE X o te) (ha:DA X es tl) {ρ:Cj} {Q Q':Dt→Prop} (hq:∀ d,Q d→Q' d) (z:Qz X.K m g sp te tl ρ Q):Qz X.K m g sp te tl ρ Q':=h.mono (fun d z=>by
 split at z
 ·exact ⟨z.1,z.2.1,ha.mono (fun es z=>M _ _ _ hq z) z.2.2⟩
 ·exact z.elim) z
theorem AcP {pl:Sem Bool} {k:Nat} {m:Str} {g:Addr} {fd:FuncData} {ps:List Str} {sp:DSp} (M:Ir sp) (F:HX X.prog X.w X.K X.mg X.base CX0 k g fd ps (lSp X.K sp)) (hb:Binds X.K fd ps []) (kp:PySem.W.keepIn X.K (.ref g)=true) (hr:Ep k X.A) (h:DE X o te) (ha:DA X (e :: es) tl)
  (hst:starEach (e :: es) X.env=(false,eval e X.env) :: starEach es X.env:=by rfl) (hpl:(backTo pos (starEach es X.env)).any (·.1)=false:=by rfl)
  (ht:eval (.Call (.Attribute o m apos) (e :: es) [] pos) X.env=(do
   let ov ←eval o X.env
   standAt apos.atName
   let (f,first) ←holding [ov] (getMethod ov m pl)
   callWith pos f first (backTo pos (starEach (e :: es) X.env)) (backToKw pos (keywordEach [] X.env))):=by rfl):DE X (.Call (.Attribute o m apos) (e :: es) [] pos) (Qz X.K m g sp te tl) where
 mono:=ZK (X:=X) M h ha
 pe:=(AbB h.pe F hr hb ha.pa kp hst hpl ht).imp fun σ H Q z=>Abz M h ha σ H Q z
noncomputable abbrev DIn:=List Dt→(List Dt→Prop)→Prop
noncomputable def Abx (K:PySem.W.Frag) (ns:List Str) (sp:DIn):Sp:=fun vs H Q _=>∃ x C dx ys F ds,vs=.ref x :: ys∧H x=some (.ins C dx [])∧Cls K C∧(∀ f∈ns,Jb K C f)∧x∈F∧(∀ a∈F,H a≠none)∧RpL K (mask F H) ds ys ∧
 sp ds fun fds=>∀ ws H',Same (mask [x] H) H'→H' x=some (.ins C dx (ns.zip ws))→ns.length=fds.length→RpL K (mask F H') fds ws→Q .non H'
noncomputable def Tp (sp:DIn):Prop:=∀ ds Q Q',(∀ d,Q d→Q' d)→sp ds Q→sp ds Q'
structure MkC (K:PySem.W.Frag) (mg:Str→Option Value) (c:Str) (ns:List Str) (C f:Addr):Prop where
 mm:Mk K C f
 at_:PySem.W.nsIn K mainGlobals c=some (some (.ref C))
 gl:mg c=some (.ref C)
 cl:Cls K C
 no:∀ f∈ns,Jb K C f
noncomputable def AbG (c:Str) (ns:List Str) (sp:DIn) (tl:DTA):DTE:=fun ρ Q=>tl ρ fun ds=>sp ds fun fds=>Q (.obj c ns fds)
theorem AeM {k:Nat} {c:Str} {ns ps:List Str} {C f:Addr} {fd:FuncData} {sp:DIn} {p:Pos} (m:Tp sp) (M:MkC X.K X.mg c ns C f) (G:HX X.prog X.w X.K X.mg X.base CX0 k f fd ps (Abx X.K ns sp)) (hb:Binds X.K fd ps []) (hr:Ep (k+1) X.A) (hg:Gl X c) (ha:DA X (e :: es) tl)
  (hdb:(c == ("__debug__":Str))=false:=by decide) (he:starEach (e :: es) X.env=(false,eval e X.env) :: starEach es X.env:=by rfl) (hpl:(backTo pos (starEach es X.env)).any (·.1)=false:=by rfl):DE X (.Call (.Name c p) (e :: es) [] pos) (AbG c ns sp tl) where
 mono:=fun hq z=>ha.mono (fun ds z=>m _ _ _ (fun fds q=>hq _ q) z) z
 pe:=(AdB M.mm G hr hg M.gl hb .nil Vi ha.pa hdb he hpl).imp fun σ H Q ⟨B,F,O,ρ,R,z⟩=>⟨B,F,O,ρ,R,ha.mono (fun ds z vs H1 s1 r1 x dx nx ndx ne=>by
  have R1:=R.same s1
  have ox:x∉F ++ O:=fun w=>R1.th x w nx
  have s2:Same H1 (upd (upd H1 dx (.own x)) x (.ins C dx [])):=fun b o q=>by rw [Bp (Dr q nx),Bp (Dr q ndx)];exact q
  refine ⟨x,C,dx,vs,x :: (F ++ O),ds,by rw [List.append_nil],Cq,M.cl,M.no,List.mem_cons_self,fun b hb'=>?_,?_,m _ _ _ (fun fds q ws H' s' h1 h2 h3=>⟨rfl,?_⟩) z⟩
  ·rcases List.mem_cons.mp hb' with e | w
   ·rw [e,Cq];simp
   ·intro q
    cases e:H1 b with
    | none=>exact R1.th b w e
    | some u=>rw [s2 _ _ e] at q;cases q
  ·refine r1.mono fun b o q=>?_
   obtain ⟨n1,q⟩:=Ek q
   rw [Bl fun w=>(List.mem_cons.mp w).elim (fun e=>by rw [e,nx] at q;cases q) n1]
   exact s2 _ _ q
  ·have s3:Same H1 H':=fun b o q=>s' b o (by rw [Bl fun w=>by rw [List.mem_singleton.mp w,nx] at q;cases q];exact s2 _ _ q)
   refine q (.ref x) H' (s1.trans s3) (QT.mpr ⟨x,C,dx,ws,rfl,M.at_,M.cl,by rw [Bl ox];exact h1,h2,h3.mono (HF fun b hb'=>List.mem_cons_of_mem _ hb')⟩)) z⟩
end
end L2
namespace L2
open PySem PySem.Spec PyProof.Rows PySem.SeqAt
section
variable {K:PySem.W.Frag} {B:Hp} {F O:List Addr} {H:Hp} {σ:St} {ρ:Cj} {x:Addr}
theorem Rep.updF (r:Rep K B F O H σ ρ) (hx:x∈F) (hB:B x=none) (o:HO):Rep K B F O (upd H x o) σ ρ:=by
 have em:mask (F ++ O) (upd H x o)=mask (F ++ O) H:=Lr (List.mem_append_left _ hx)
 refine ⟨r.len,fun b u e=>?_,r.fr,fun b hb e=>?_,fun j d q=>?_,fun j ks q=>?_,r.inj,fun j ks q=>?_,r.tinj⟩
 ·rw [Bp fun z=>by rw [z,hB] at e;cases e];exact r.base b u e
 ·by_cases z:b=x
  ·rw [z,Cq] at e;cases e
  ·rw [Bp z] at e;exact r.th b hb e
 ·rw [em];exact r.is j d q
 ·obtain ⟨b,zs,e1,e2,e3,e4,e5⟩:=r.own j ks q
  exact ⟨b,zs,e1,e2,e3,by rw [Bp fun z=>e3 (by rw [z];exact hx)];exact e4,by rw [em];exact e5⟩
 ·obtain ⟨b,zs,e1,e2,e3,e4,e5⟩:=r.tab j ks q
  exact ⟨b,zs,e1,e2,e3,by rw [Bp fun z=>e3 (by rw [z];exact hx)];exact e4,by rw [em];exact e5⟩
noncomputable def Jv (N:List Str) (ds:List Dt):Cj:=none :: (ds.map (fun d=>some (.is d)) ++ List.replicate (N.length - (ds.length+1)) none)
theorem Lq {N:List Str} {ds:List Dt} {ys:List V} (hx:x∈F) (hF:∀ a∈F,H a≠none) (r:RpL K (mask F H) ds ys):Rep K (mask [x] H) F [] H (start N (.ref x :: ys)) (Jv N ds):=by
 have hl:=r.len
 have get:∀ (i:Nat) (e:En),(Jv N ds)[i]? = some (some e)→∃ j d,i=j+1∧ds[j]? = some d∧e=.is d:=fun i e q=>by
  cases i with
  | zero=>cases q
  | succ j =>
   have q:(ds.map (fun d=>some (En.is d)) ++ List.replicate (N.length - (ds.length+1)) none)[j]? = some (some e):=q
   by_cases hi:j < ds.length
   ·rw [List.getElem?_append_left (by simpa using hi),List.getElem?_map] at q
    cases w:ds[j]? with
    | none=>rw [w] at q;cases q
    | some d=>rw [w] at q;cases q;exact ⟨j,d,rfl,w,rfl⟩
   ·rw [List.getElem?_append_right (by simpa using hi),List.getElem?_replicate] at q
    split at q <;> cases q
 refine ⟨?_,Bu,fun a h=>(nomatch h),fun a h=>hF a (by simpa using h),fun i d e=>?_,fun i es e=>?_,fun i j es es' a h1=>?_,fun i es e=>?_,fun i j es es' a h1=>?_⟩
 ·unfold start Jv;simp [hl]
 ·obtain ⟨j,d',rfl,e1,e2⟩:=get i _ e
  cases e2
  obtain ⟨v,w1,w2⟩:=r.get e1
  have hj:j < ys.length:=by rw [hl];exact (List.getElem?_eq_some_iff.mp e1).1
  refine ⟨v,?_,by rw [List.append_nil];exact w2⟩
  unfold start
  rw [List.getElem?_append_left (by simp;omega),List.getElem?_map,List.getElem?_cons_succ,w1];rfl
 ·obtain ⟨_,_,_,_,z⟩:=get i _ e;cases z
 ·obtain ⟨_,_,_,_,z⟩:=get i _ h1;cases z
 ·obtain ⟨_,_,_,_,z⟩:=get i _ e;cases z
 ·obtain ⟨_,_,_,_,z⟩:=get i _ h1;cases z
end
section
variable {X:Cx} {e e1 e2 e3:Expr} {es:List Expr} {te1 te2 te3:DTE} {tl:DTA} {pos apos:Pos}
noncomputable def Ai9 (K:PySem.W.Frag) (f1 f2 f3:Str) (te1 te2 te3:DTE):TS:=fun D σ H=>∃ B F ρ x C dx,∃ S:List Dt→Prop,Rep K B F [] H σ ρ∧x∈F∧B x=none∧σ[0]? = some (some (.ref x))∧H x=some (.ins C dx [])∧Cls K C∧(∀ f∈[f1,f2,f3],Jb K C f) ∧
 (te1 ρ fun d1=>te2 ρ fun d2=>te3 ρ fun d3=>S [d1,d2,d3])∧∀ fds,S fds→∀ ws H',Same B H'→H' x=some (.ins C dx ([f1,f2,f3].zip ws))→[f1,f2,f3].length=fds.length→RpL K (mask F H') fds ws→D.nx σ H'
theorem AbY {f1 f2 f3:Str} {y:Str} {q1 q2 q3 p1 p2 p3 s1 s2 s3:Pos} (h1:DE X e1 te1) (h2:DE X e2 te2) (h3:DE X e3 te3) (n12:f1≠f2) (n13:f1≠f3) (n23:f2≠f3) (hN:X.N[0]? = some y:=by rfl) (hv:Vis X.env.scope y:=by first | exact Or.inl rfl | exact Or.inr (Or.inl rfl) | exact Or.inr (Or.inr rfl))
  (hd:(y == ("__debug__":Str))=false:=by decide) (hcd:(y == ("__classdict__":Str))=false:=by decide)
  (w1:swapsWith e1 (some (.Attribute (.Name y q1) f1 p1)) s1.line X.env=pure false:=by rfl) (w2:swapsWith e2 (some (.Attribute (.Name y q2) f2 p2)) s2.line X.env=pure false:=by rfl) (w3:swapsWith e3 (some (.Attribute (.Name y q3) f3 p3)) s3.line X.env=pure false:=by rfl) :
  PSs X [.Assign [.Attribute (.Name y q1) f1 p1] e1 s1,.Assign [.Attribute (.Name y q2) f2 p2] e2 s2,.Assign [.Attribute (.Name y q3) f3 p3] e3 s3] (Ai9 X.K f1 f2 f3 te1 te2 te3) :=
 (Qq (W9 (Kp hN hv hd hcd) h1.pe w1) (Qq (W9 (Kp hN hv hd hcd) h2.pe w2) (Um (W9 (Kp hN hv hd hcd) h3.pe w3)))).imp fun D σ H ⟨B,F,ρ,x,C,dx,S,R,xF,Bx,σ0,Hx,cl,no,z,fin⟩=>by
  have em:∀ (H:Hp) (o:HO),mask (F ++ []) (upd H x o)=mask (F ++ []) H:=fun H o=>Lr (List.mem_append_left _ xF)
  refine ⟨B,F,[],ρ,R,h1.mono (fun d1 z y1 H1 t1 r1=>?_) z⟩
  refine ⟨.ref x,σ0,x,C,dx,[],rfl,t1 _ _ Hx,cl,no f1 (by simp),by decide,?_⟩
  have R1:=(R.same t1).updF xF Bx (.ins C dx (HB f1 y1 []))
  refine ⟨B,F,[],ρ,R1,h2.mono (fun d2 z y2 H2 t2 r2=>?_) z⟩
  refine ⟨.ref x,σ0,x,C,dx,[(f1,y1)],rfl,t2 _ _ Cq,cl,no f2 (by simp),by show 1 < 1000;decide,?_⟩
  have R2:=(R1.same t2).updF xF Bx (.ins C dx (HB f2 y2 [(f1,y1)]))
  refine ⟨B,F,[],ρ,R2,h3.mono (fun d3 z y3 H3 t3 r3=>?_) z⟩
  have ep2:HB f2 y2 [(f1,y1)]=[(f1,y1),(f2,y2)]:=by simp [HB,n12]
  have ep3:HB f3 y3 [(f1,y1),(f2,y2)]=[(f1,y1),(f2,y2),(f3,y3)]:=by simp [HB,n13,n23]
  rw [ep2] at t3 R2
  refine ⟨.ref x,σ0,x,C,dx,[(f1,y1),(f2,y2)],rfl,t3 _ _ Cq,cl,no f3 (by simp),by show 2 < 1000;decide,?_⟩
  have R3:=(R2.same t3).updF xF Bx (.ins C dx (HB f3 y3 [(f1,y1),(f2,y2)]))
  rw [ep3] at R3 ⊢
  rw [List.append_nil] at r1 r2 r3 em
  refine fin _ z [y1,y2,y3] _ R3.base Cq rfl ?_
  rw [em]
  have m12:Same (mask F H1) (mask F H2):=fun b o q=>t2.mask b o (by rw [em];exact q)
  have m23:Same (mask F H2) (mask F H3):=fun b o q=>t3.mask b o (by rw [em];exact q)
  exact RpL.cons ((r1.mono m12).mono m23) (RpL.cons (r2.mono m23) (RpL.cons r3 RpL.nil))
structure Y4 (K:PySem.W.Frag) (mg:Str→Option Value) (c m:Str) (g:Addr):Prop where
 ex:∃ CS,mg c=some (.ref CS)∧PySem.W.specialIn K (.ref CS) "__getattribute__"=some (some (.builtin "type.__getattribute__"))∧PySem.W.readsIn K CS (.type "type")=true∧PySem.W.findCls K (.ref CS) (.type "type") m=some (.val (.ref g))
 kp:PySem.W.keepIn K (.ref g)=true
theorem AbQ {pl:Sem Bool} {k:Nat} {c m:Str} {g:Addr} {fd:FuncData} {ps:List Str} {sp:Sp} {t:TA} {p:Pos} (M:Y4 X.K X.mg c m g) (hg:Gl X c) (F:HX X.prog X.w X.K X.mg X.base CX0 k g fd ps sp) (hr:Ep k X.A) (hb:Binds X.K fd ps []) (ha:PA X (e :: es) t)
  (hdb:(c == ("__debug__":Str))=false:=by decide) (hst:starEach (e :: es) X.env=(false,eval e X.env) :: starEach es X.env:=by rfl) (hpl:(backTo pos (starEach es X.env)).any (·.1)=false:=by rfl)
  (ht:eval (.Call (.Attribute (.Name c p) m apos) (e :: es) [] pos) X.env=(do
   let ov ←eval (.Name c p) X.env
   standAt apos.atName
   let (f,first) ←holding [ov] (getMethod ov m pl)
   callWith pos f first (backTo pos (starEach (e :: es) X.env)) (backToKw pos (keywordEach [] X.env))):=by rfl) :
  PE X (.Call (.Attribute (.Name c p) m apos) (e :: es) [] pos) (Afa sp [] E0 t):=by
 intro pins s σ H Q I h
 obtain ⟨CS,hm,hs,hr',hf⟩:=M.ex
 have q0:=(Yx (v:=.ref CS) (pos:=p) hg hm rfl hdb:PE X (.Name c p) (tC (.ref CS))) pins s σ H (fun v H1=>v=.ref CS∧H1=H) I ⟨rfl,rfl⟩
 refine PySem.W.methodCall_KW (pl:=pl) (thn q0 fun u s1 ⟨x,H1,I1,rx,ex,eH⟩=>?_) ht
 subst ex
 subst eH
 obtain rfl:u=Value.ref CS:=rx
 refine PySem.W.method_cls I1.kIn hs (PySem.W.cls_value I1.kIn hr' hf rfl ?_)
 refine PySem.W.callWith_K (first:=[]) (h₀:=X.base) I.ok.mod.kin M.kp (thn (ha pos pins _ σ H1 _ (I1.tok _) h) fun us s2 ⟨vs,H2,I2,r,q2⟩=>⟨I2.kIn,?_⟩) hst hpl
 exact Uk F hr hb .nil Vi I2 r q2
noncomputable def Aj4 (K:PySem.W.Frag) (ns:List Str) (sp:DIn) (tl:DTA):TS:=fun D σ H=>∃ B F ρ x C dx,∃ S:List Dt→Prop,Rep K B F [] H σ ρ∧x∈F∧B x=none∧σ[0]? = some (some (.ref x))∧H x=some (.ins C dx [])∧Cls K C∧(∀ f∈ns,Jb K C f) ∧
 (tl ρ fun ds=>sp ds S)∧∀ fds,S fds→∀ ws H',Same B H'→H' x=some (.ins C dx (ns.zip ws))→ns.length=fds.length→RpL K (mask F H') fds ws→D.nx σ H'
theorem Vv {pl:Sem Bool} {k:Nat} {c y:Str} {g:Addr} {fd:FuncData} {ps ns:List Str} {sp:DIn} {p q ap cp:Pos} (m:Tp sp) (M:Y4 X.K X.mg c "__init__" g) (hg:Gl X c) (G:HX X.prog X.w X.K X.mg X.base CX0 k g fd ps (Abx X.K ns sp)) (hb:Binds X.K fd ps []) (hr:Ep k X.A) (ha:DA X es tl) (hN:X.N[0]? = some y:=by rfl)
  (hv:Vis X.env.scope y:=by first | exact Or.inl rfl | exact Or.inr (Or.inl rfl) | exact Or.inr (Or.inr rfl)) (hd:(y == ("__debug__":Str))=false:=by decide) (hcd:(y == ("__classdict__":Str))=false:=by decide) (hdb:(c == ("__debug__":Str))=false:=by decide)
  (hst:starEach (.Name y q :: es) X.env=(false,eval (.Name y q) X.env) :: starEach es X.env:=by rfl) (hpl:(backTo cp (starEach es X.env)).any (·.1)=false:=by rfl)
  (ht:eval (.Call (.Attribute (.Name c p) "__init__" ap) (.Name y q :: es) [] cp) X.env=(do
   let ov ←eval (.Name c p) X.env
   standAt ap.atName
   let (f,first) ←holding [ov] (getMethod ov "__init__" pl)
   callWith cp f first (backTo cp (starEach (.Name y q :: es) X.env)) (backToKw cp (keywordEach [] X.env))):=by rfl)
  (hs:swapsWith (.Call (.Attribute (.Name c p) "__init__" ap) (.Name y q :: es) [] cp) none pos.line X.env=pure false:=by rfl) :
  PSs X [.Expr (.Call (.Attribute (.Name c p) "__init__" ap) (.Name y q :: es) [] cp) pos] (Aj4 X.K ns sp tl) :=
 (Um (TY (AbQ M hg G hr hb (Ks (Kp hN hv hd hcd) ha.pa hst) hdb hst hpl ht) hs)).imp fun D σ H ⟨B,F,ρ,x,C,dx,S,R,xF,Bx,σ0,Hx,cl,no,z,fin⟩=>by
  refine ⟨.ref x,σ0,B,F,[],ρ,R,ha.mono (fun ds z vs H1 s1 r1=>?_) z⟩
  show Abx X.K ns sp ((.ref x :: vs) ++ []) H1 _ E0
  rw [List.append_nil]
  have R1:=R.same s1
  rw [List.append_nil] at r1
  refine ⟨x,C,dx,vs,F,ds,rfl,s1 _ _ Hx,cl,no,xF,fun a h=>R1.th a (List.mem_append_left _ h),r1,m _ _ _ (fun fds w ws H' s' h1 h2 h3=>fin fds w ws H' (fun b o e=>s' b o ?_) h1 h2 h3) z⟩
  rw [Bl fun w=>by rw [List.mem_singleton.mp w,Bx] at e;cases e]
  exact R1.base b o e
end
noncomputable def Sw {τ:Type} (args:τ→List Dt) (pre:τ→Prop) (post:τ→List Dt→Prop):DIn:=fun ds R=>∃ p,ds=args p∧pre p∧∀ fds,post p fds→R fds
theorem JC {τ:Type} {args:τ→List Dt} {pre:τ→Prop} {post:τ→List Dt→Prop}:Tp (Sw args pre post):=fun _ _ _ hq ⟨p,e,h,q⟩=>⟨p,e,h,fun d z=>hq _ (q d z)⟩
theorem Mz {τ:Type} {args:τ→List Dt} {pre:τ→Prop} {post:τ→List Dt→Prop} {R:List Dt→Prop} (p:τ) (h:pre p) (q:∀ fds,post p fds→R fds):Sw args pre post (args p) R:=⟨p,rfl,h,q⟩
noncomputable def PmC (P:Program) (w:World) (K:PySem.W.Frag) (mg:Str→Option Value) (base:Heap) (k:Nat) (c:Str) (ns:List Str) (sp:DIn):Prop:=∃ g fd ps,Y4 K mg c "__init__" g∧Binds K fd ps []∧HX P w K mg base CX0 k g fd ps (Abx K ns sp)
noncomputable def PmI (P:Program) (w:World) (K:PySem.W.Frag) (mg:Str→Option Value) (base:Heap) (k:Nat) (c:Str) (ns:List Str) (sp:DIn):Prop:=∃ C f fd ps,MkC K mg c ns C f∧Binds K fd ps []∧HX P w K mg base CX0 k f fd ps (Abx K ns sp)
noncomputable def PmM (P:Program) (w:World) (K:PySem.W.Frag) (mg:Str→Option Value) (base:Heap) (k:Nat) (cs:List Str) (m:Str) (sp:DSp):Prop:=∃ g fd ps,(∀ c∈cs,Za K c m g)∧PySem.W.keepIn K (.ref g)=true∧Binds K fd ps []∧HX P w K mg base CX0 k g fd ps (lSp K sp)
section
variable {X:Cx} {e o:Expr} {es:List Expr} {te:DTE} {tl:DTA} {pos apos:Pos}
theorem Wg {k:Nat} {c:Str} {ns:List Str} {sp:DIn} {p:Pos} (m:Tp sp) (G:PmI X.prog X.w X.K X.mg X.base k c ns sp) (hr:Ep (k+1) X.A) (hg:Gl X c) (ha:DA X (e :: es) tl)
  (hdb:(c == ("__debug__":Str))=false:=by decide) (he:starEach (e :: es) X.env=(false,eval e X.env) :: starEach es X.env:=by rfl) (hpl:(backTo pos (starEach es X.env)).any (·.1)=false:=by rfl):DE X (.Call (.Name c p) (e :: es) [] pos) (AbG c ns sp tl):=by
 obtain ⟨C,f,fd,ps,M,B,G⟩:=G
 exact AeM m M G B hr hg ha hdb he hpl
noncomputable def P0 (cs:List Str) (m:Str) (sp:DSp) (te:DTE) (tl:DTA):DTE:=fun ρ Q=>te ρ fun d=>match d with
 | .obj c ns ds=>(c∈cs∧m∉ns)∧tl ρ fun es=>sp (.obj c ns ds :: es) Q
 | _=>False
theorem XR {cs:List Str} {m:Str} {sp:DSp} (M:Ir sp) (h:DE X o te) (ha:DA X es tl) {ρ:Cj} {Q Q':Dt→Prop} (hq:∀ d,Q d→Q' d) (z:P0 cs m sp te tl ρ Q):P0 cs m sp te tl ρ Q':=h.mono (fun d z=>by
 split at z
 ·exact ⟨z.1,ha.mono (fun es z=>M _ _ _ hq z) z.2⟩
 ·exact z.elim) z
theorem Ach {cs:List Str} {m:Str} {g:Addr} {sp:DSp} (M:Ir sp) (hm:∀ c∈cs,Za X.K c m g) (h:DE X o te) (σ:St) (H:Hp) (Q:VK) (z:lE X.K (P0 cs m sp te tl) σ H Q):lE X.K (Qz X.K m g sp te tl) σ H Q:=by
 obtain ⟨B,F,O,ρ,R,z⟩:=z
 refine ⟨B,F,O,ρ,R,h.mono (fun d z=>?_) z⟩
 split at z
 ·exact ⟨hm _ z.1.1,z.1.2,z.2⟩
 ·exact z.elim
theorem Abs {pl:Sem Bool} {k:Nat} {cs:List Str} {m:Str} {sp:DSp} (M:Ir sp) (G:PmM X.prog X.w X.K X.mg X.base k cs m sp) (hr:Ep k X.A) (h:DE X o te) (ha:DA X (e :: es) tl)
  (hst:starEach (e :: es) X.env=(false,eval e X.env) :: starEach es X.env:=by rfl) (hpl:(backTo pos (starEach es X.env)).any (·.1)=false:=by rfl)
  (ht:eval (.Call (.Attribute o m apos) (e :: es) [] pos) X.env=(do
   let ov ←eval o X.env
   standAt apos.atName
   let (f,first) ←holding [ov] (getMethod ov m pl)
   callWith pos f first (backTo pos (starEach (e :: es) X.env)) (backToKw pos (keywordEach [] X.env))):=by rfl):DE X (.Call (.Attribute o m apos) (e :: es) [] pos) (P0 cs m sp te tl):=by
 obtain ⟨g,fd,ps,hm,kp,B,G⟩:=G
 exact ⟨XR M h ha,(AcP M G B kp hr h ha hst hpl ht).pe.imp fun σ H Q z=>Ach M hm h σ H Q z⟩
end
end L2
namespace L2
open PySem PySem.Spec PyProof.Rows
inductive Lex (A:Around) (s:Shared):List Value→List Value→Bool→Prop
 | nn:Lex A s [] [] false
 | nc {y:Value} {ys:List Value}:Lex A s [] (y :: ys) true
 | cn {x:Value} {xs:List Value}:Lex A s (x :: xs) [] false
 | eq {x y:Value} {xs ys:List Value} {r:Bool} (h:SeqAt.EqAt A s x y true) (t:Lex A s xs ys r):Lex A s (x :: xs) (y :: ys) r
 | lt {x y:Value} {xs ys:List Value} {r:Bool} (h:SeqAt.EqAt A s x y false) (t:∀ (prog:Program) (w:World) (E:Value→Shared→Prop) (Q:Value→Shared→Prop),Q (.bool r) s→wpAny (model prog w) A (richCompare .Lt x y) Q E s):Lex A s (x :: xs) (y :: ys) r
section
open PySem.SeqAt PySem.AutoSeq1 PySem.MeetsSeq PySem.MeetsSeq2 PySem.MeetsSeq3
theorem Xr (p q:Addr) (us vs:Array Value) (m n:Nat) (e e2:Option Addr) (c c2:Array (Option Value)) (res:Bool) :
  Meets (Builtin.«tuple.__lt__» ⟨[.ref p,.ref q],[]⟩) (fun A R st=>st.heap.get? p=some ⟨.type "tuple",e,.seq us m,c⟩∧st.heap.get? q=some ⟨.type "tuple",e2,.seq vs n,c2⟩∧Lex A.in1 st us.toList vs.toList res∧R (.ok (.ret (.bool res))) st) :=
 .of_wp fun prog w A R st h=>by
  obtain ⟨hh,gg,dr,tt,os⟩:=st
  obtain ⟨h1,h2,L,fin⟩:=h
  have sub2:=AutoSeq1.sub_tuple_tuple
  wp_walk using wpAny_loadPart' h1,wpAny_loadPart' h2,wpAny_forIn_list _ (fun rest z st'=>z.1=none∧st'=⟨hh,gg,dr,tt,os⟩∧∃ xs ys:List Value,rest=xs.zip ys∧Lex A.in1 ⟨hh,gg,dr,tt,os⟩ xs ys res∧xs.length+vs.size=ys.length+us.size) _
  case turn =>
   rintro ⟨x0,y0⟩ rest z st' ⟨z0,rfl,xs,ys,hz,L',hlen⟩
   cases L' with
   | nn=>simp at hz
   | nc=>simp at hz
   | cn=>simp at hz
   | @eq x y xs ys r he t =>
    rw [List.zip_cons_cons] at hz
    obtain ⟨hp,hr⟩:=List.cons.inj hz
    obtain ⟨rfl,rfl⟩:=Prod.mk.inj hp
    refine wpAny_bind (he prog w _ _ ?_)
    wp_walk
    refine ⟨rfl,rfl,xs,ys,hr,t,?_⟩
    simp only [List.length_cons] at hlen
    omega
   | @lt x y xs ys r he t =>
    rw [List.zip_cons_cons] at hz
    obtain ⟨hp,hr⟩:=List.cons.inj hz
    obtain ⟨rfl,rfl⟩:=Prod.mk.inj hp
    refine wpAny_bind (he prog w _ _ ?_)
    have less:=t prog w
    wp_walk using less
    exact ⟨_,rfl,by simpa using fin⟩
  case fin =>
   rintro ⟨z1,z2⟩ st' ⟨hz1,rfl,xs,ys,hz,L',hlen⟩
   simp only at hz1
   subst hz1
   have hv:res=decide (us.size < vs.size):=by
    cases L' with
    | nn=>simp at hlen;exact (decide_eq_false (by omega)).symm
    | nc=>simp at hlen;exact (decide_eq_true (by omega)).symm
    | cn=>simp at hlen;exact (decide_eq_false (by omega)).symm
    | eq _ _=>simp at hz
    | lt _ _=>simp at hz
   rw [hv] at fin
   wp_walk
   exact ⟨_,rfl,by simpa [Builtin.Tuple.tupleCompareSizes] using fin⟩
  case h=>exact ⟨rfl,rfl,us.toList,vs.toList,rfl,L,by simp;omega⟩
end
section
variable {prog:Program} {w:World} {A:Around} {E:Value→Shared→Prop} {s:Shared}
theorem AbJ {p q:Addr} {us vs:Array Value} {res:Bool} {Q:Value→Shared→Prop} (hp:IsTup s.heap p us) (hq:IsTup s.heap q vs) (L:Lex A.in1 s us.toList vs.toList res) (hu:A.units < cLine) (h:Q (.bool res) s):wpAny (model prog w) A (richCompare .Lt (.ref p) (.ref q)) Q E s:=by
 obtain ⟨⟨c1,e1,a1,b1⟩,g1,k1,m1,t1⟩:=id hp
 obtain ⟨⟨c2,e2,a2,b2⟩,g2,k2,m2,t2⟩:=id hq
 dsimp only at k1 t1 k2 t2
 subst k1 t1 k2 t2
 refine richCompare_meets_room (op:=.Lt) ⟨_,g1,rfl⟩ ⟨_,g2,rfl⟩ PySem.F.slot_tuple_lt PySem.F.entry_tuple_lt (PySem.F.args_tuple_lt_2 _ _) (Xr p q us vs m1 m2 e1 e2 b1 b2 res) ⟨g1,g2,L,?_⟩ hu
 exact show Value.bool res≠Value.notImplemented∧Q (.bool res) s from ⟨(fun z=>nomatch z),h⟩
end
end L2
namespace L2
open PySem PySem.Spec PyProof.Rows PySem.SeqAt
theorem Mf:∀ ns:List Int,HT.lexLt ns ns=false
 | []=>HT.Iw
 | n :: ns=>by rw [HT.Jx,if_pos rfl,Mf ns]
noncomputable def Ga (a b:List Int × List Int):Bool:=if a.1=b.1 then HT.lexLt a.2 b.2 else HT.lexLt a.1 b.1
noncomputable abbrev Oa (a:List Int × List Int):Dt:=.tup [Gg a.1,Gg a.2]
section
variable {X:Cx}
noncomputable def Rb (K:PySem.W.Frag) (H:Hp) (v:V) (a:List Int × List Int):Prop:=∃ p p1 p2,v=.ref p∧SqT K H p [.ref p1,.ref p2]∧SqT K H p1 (a.1.map V.int)∧SqT K H p2 (a.2.map V.int)
noncomputable def AfT (K:PySem.W.Frag):List V→Hp→VK→Prop:=fun xs H Q=>∃ l vs,∃ ps:Nat→List Int × List Int,xs=[.ref l]∧SqL K H l vs∧0 < vs.length∧(∀ (i:Nat) (v:V),vs[i]? = some v→Rb K H v (ps i)) ∧
 ∀ v,vs[argBest (fun i j=>Ga (ps i) (ps j)) (vs.length - 1)]? = some v→Q v H
theorem Acb {x y:Addr} {us:List Value} (r:Vals [V.ref x,V.ref y] us):us=[.ref x,.ref y]:=by
 obtain ⟨a,b,rfl,r1,r2⟩:=vals2 r
 cases (show a=.ref x from r1)
 cases (show b=.ref y from r2)
 rfl
theorem Qs {h:Heap}:∀ {us:List Value} {ns:List Int},IntsAre us ns→∃ as,ReadsAll h us (Dt.pys (ns.map Dt.int)) as
 | _,_,.nil=>⟨_,by rw [List.map_nil,Dt.pys];exact .nil⟩
 | _,_,.cons n t r=>by
  obtain ⟨as,q⟩:=Qs (h:=h) r
  exact ⟨_,by rw [List.map_cons,Dt.pys,Dt.py];exact .cons (.int n t) q⟩
theorem SM {h:Heap} {a:Addr} {its:Array Value} {ns:List Int} (t:IsTup h a its) (i:IntsAre its.toList ns):∃ as,Reads h (.ref a) (Gg ns).py as:=by
 obtain ⟨o,h1,h2,n,h3⟩:=t
 obtain ⟨as,r⟩:=Qs (h:=h) i
 exact ⟨_,by rw [Dt.py];exact .tuple h1 h2 h3 r⟩
theorem QB {A:Around} {s:Shared} {a b:Addr} {i1 i2:Array Value} {ns ms:List Int} (t1:IsTup s.heap a i1) (t2:IsTup s.heap b i2) (n1:IntsAre i1.toList ns) (n2:IntsAre i2.toList ms) (hu:A.units+8 < cLine):EqAt A s (.ref a) (.ref b) (decide (ns=ms)):=by
 have fl:∀ ns:List Int,(Gg ns).flat 8=true:=fun ns=>Qh ns
 obtain ⟨ca,da⟩:=Gd _ 8 (fl ns)
 obtain ⟨cb,db⟩:=Gd _ 8 (fl ms)
 obtain ⟨as,q1⟩:=SM t1 n1
 obtain ⟨bs,q2⟩:=SM t2 n2
 have h:=SeqAt.eqAt_reads _ _ A s _ _ as bs q1 q2 ca cb (by omega)
 rw [Ri _ _ ca cb] at h
 have ee:(Gg ns).eq (Gg ms)=decide (ns=ms):=by
  show Dt.eq (.tup _) (.tup _)=_
  rw [Wh,UW]
 rw [ee] at h
 exact h
theorem Aap (hc:X.calm=true) (hu:X.A.in1.units+16 < cLine):Np X (.builtin "min") (AfT X.K):=by
 intro pins s σ H xs us Q I r h
 obtain ⟨l,vs,ps,rfl,hl,ne,each,q⟩:=h
 obtain ⟨u,rfl,r1⟩:=vals1 r
 cases r1
 obtain ⟨its,rv,pl,_⟩:=I.list hl
 have hlen:its.length=vs.length:=rv.length.symm
 have ll:l < s.heap.objs.size:=by
  obtain ⟨_,e,_⟩:=pl.isList
  exact Heap.lt_size e
 refine Vt (wpAny_pyIter_list pl.isList ?_)
 refine ⟨s.heap.objs.size,[s.heap.objs.size,l],[s.heap.objs.size],its.toArray.size,fun i v=>its.toArray[i]? = some v,_,fun i j=>Ga (ps i) (ps j),rfl,Walks.list (A:=X.A.in1) (I.ok.hd hc) _ l (Nat.ne_of_lt ll) its.toArray,⟨⟨_,Heap.get?_push_size _ rfl,rfl,rfl⟩,pl.isList.push _⟩,fun b hb=>?_,?_,?_,?_⟩
 ·show b < (s.heap.push _).objs.size
  rw [Heap.size_push]
  have hb:b=s.heap.objs.size∨b=l:=by simpa using hb
  rcases hb with e | e
  ·rw [e];exact Nat.lt_succ_self _
  ·rw [e];exact Nat.lt_succ_of_lt ll
 ·rw [List.size_toArray];omega
 ·intro h1 k1 i j x y s' Q' E' kept hx hy q'
  have go:∀ a o,s.heap.get? a=some o→s'.heap.get? a=some o:=fun a o eo=>by
   have la:=Heap.lt_size eo
   refine kept a o (fun z=>?_) (fun z=>?_) (k1 a o (Heap.get?_push_of_some _ eo))
   ·have e2:a=s.heap.objs.size:=by simpa using z
    exact Nat.lt_irrefl _ (e2 ▸ la)
   ·have e2:a=(s.heap.push _).objs.size:=z
    rw [Heap.size_push] at e2
    exact Nat.lt_irrefl _ (Nat.lt_of_succ_lt (e2 ▸ la))
  have tup:∀ {a:Addr} {xs:List V},SqT X.K H a xs→∃ us:List Value,Vals xs us∧IsTup s'.heap a us.toArray:=fun {a xs} ht=>by
   obtain ⟨us,r3,⟨o,eo,rest⟩,_⟩:=I.tuple ht
   exact ⟨us,r3,o,go a o eo,rest⟩
  have fact:∀ (i:Nat) (x:Value),its.toArray[i]? = some x→∃ p p1 p2 i1 i2,x=.ref p∧IsTup s'.heap p [Value.ref p1,.ref p2].toArray∧IsTup s'.heap p1 i1∧IsTup s'.heap p2 i2∧IntsAre i1.toList (ps i).1∧IntsAre i2.toList (ps i).2:=fun i x hx=>by
   obtain ⟨v,e1,r2⟩:=Vals.at rv i x (by simpa using hx)
   obtain ⟨p,p1,p2,rfl,t0,t1,t2⟩:=each i v e1
   cases r2
   obtain ⟨us,r0,u0⟩:=tup t0
   obtain ⟨u1,r1,w1⟩:=tup t1
   obtain ⟨u2,r2,w2⟩:=tup t2
   rw [Acb r0] at u0
   exact ⟨p,p1,p2,u1.toArray,u2.toArray,rfl,u0,w1,w2,intsAre_of r1,intsAre_of r2⟩
  obtain ⟨p,p1,p2,i1,i2,rfl,a0,a1,a2,n1,n2⟩:=fact i x hx
  obtain ⟨b,b1,b2,j1,j2,rfl,c0,c1,c2,m1,m2⟩:=fact j y hy
  have in2:X.A.in1.in1.units=X.A.in1.units+1:=rfl
  refine AbJ a0 c0 ?_ (by omega) q'
  show Lex X.A.in1.in1 s' [.ref p1,.ref p2] [.ref b1,.ref b2] _
  have e1:=QB (A:=X.A.in1.in1) a1 c1 n1 m1 (by omega)
  have e2:=QB (A:=X.A.in1.in1) a2 c2 n2 m2 (by omega)
  show Lex X.A.in1.in1 s' [.ref p1,.ref p2] [.ref b1,.ref b2] (if (ps i).1=(ps j).1 then HT.lexLt (ps i).2 (ps j).2 else HT.lexLt (ps i).1 (ps j).1)
  by_cases h1:(ps i).1=(ps j).1
  ·rw [if_pos h1]
   rw [decide_eq_true h1] at e1
   refine .eq e1 ?_
   by_cases h2:(ps i).2=(ps j).2
   ·rw [decide_eq_true h2] at e2
    rw [h2]
    have:HT.lexLt (ps j).2 (ps j).2=false:=Mf _
    rw [this]
    exact .eq e2 .nn
   ·rw [decide_eq_false h2] at e2
    exact .lt e2 fun prog w E Q h=>HT.Li a2 c2 n2 m2 (by omega) h
  ·rw [if_neg h1]
   rw [decide_eq_false h1] at e1
   exact .lt e1 fun prog w E Q h=>HT.Li a1 c1 n1 m1 (by omega) h
 ·intro v h' tk hv k
  obtain ⟨x,e1,r2⟩:=Vals.at rv _ v (by simpa using hv)
  rw [hlen] at e1
  refine ⟨x,H,I.kept fun b o e=>k b o (fun z=>?_) (Heap.get?_push_of_some _ e),r2,q x e1⟩
  have e2:b=s.heap.objs.size:=by simpa using z
  have e3:=Heap.lt_size e
  exact Nat.lt_irrefl _ (e2 ▸ e3)
noncomputable def Ln (ps:List (List Int × List Int)):Nat:=argBest (fun i j=>Ga (ps.getD i ([],[])) (ps.getD j ([],[]))) (ps.length - 1)
noncomputable def AfK:DL:=fun ds Q=>∃ ps:List (List Int × List Int),ds=[.lst (ps.map Oa)]∧0 < ps.length∧Ln ps < ps.length∧Q (Oa (ps.getD (Ln ps) ([],[])))
theorem ints_of {K:PySem.W.Frag} {M:Hp} {ns:List Int} {xs:List V} (r:RpL K M (ns.map Dt.int) xs):xs=ns.map V.int:=by
 induction ns generalizing xs with
 | nil=>exact BJ.mp r
 | cons n ns ih =>
  obtain ⟨v,w,rfl,r1,r2⟩:=Bc.mp r
  rw [Bb.mp r1,ih r2]
  rfl
theorem Aeb {K:PySem.W.Frag} {M:Hp} {a:List Int × List Int} {v:V} (r:Rp K M (Oa a) v):Rb K M v a:=by
 obtain ⟨p,xs,rfl,h1,h2⟩:=CW.mp r
 obtain ⟨v1,w1,rfl,r1,h2⟩:=Bc.mp h2
 obtain ⟨v2,w2,rfl,r2,h2⟩:=Bc.mp h2
 obtain rfl:=BJ.mp h2
 obtain ⟨p1,x1,rfl,g1,k1⟩:=CW.mp r1
 obtain ⟨p2,x2,rfl,g2,k2⟩:=CW.mp r2
 rw [ints_of k1] at g1
 rw [ints_of k2] at g2
 exact ⟨p,p1,p2,rfl,h1,g1,g2⟩
theorem Rb.mono {K:PySem.W.Frag} {M M':Hp} {a:List Int × List Int} {v:V} (s:Same M M') (h:Rb K M v a):Rb K M' v a:=by
 obtain ⟨p,p1,p2,e,h1,h2,h3⟩:=h
 exact ⟨p,p1,p2,e,s.seqT h1,s.seqT h2,s.seqT h3⟩
theorem AbE {K:PySem.W.Frag}:U7 K (AfT K) AfK where
 mono:=fun hq ⟨ps,e,n0,lt,h⟩=>⟨ps,e,n0,lt,hq _ h⟩
 ok:=fun O H ds xs Q _ r ⟨ps,e,n0,lt,h⟩=>by
  subst e
  obtain ⟨x,r',rfl,r2,r3⟩:=Bc.mp r
  obtain rfl:=BJ.mp r3
  obtain ⟨l,vs,rfl,hs,hl⟩:=Fb r2
  have len:vs.length=ps.length:=by rw [hl.len,List.length_map]
  have at':∀ (i:Nat) (v:V),vs[i]? = some v→Rp K (mask O H) (Oa (ps.getD i ([],[]))) v:=fun i v e=>by
   obtain ⟨d,e1,e2⟩:=hl.get' e
   rw [List.getElem?_map] at e1
   cases w:ps[i]? with
   | none=>rw [w] at e1;cases e1
   | some a =>
    rw [w] at e1
    cases e1
    rw [List.getD_eq_getElem?_getD,w]
    exact e2
  refine ⟨l,vs,fun i=>ps.getD i ([],[]),rfl,Bu.seq hs,by omega,fun i v e=>(Aeb (at' i v e)).mono Bu,fun v e=>?_⟩
  rw [len] at e
  exact h v H (Same.refl H) (at' _ v e)
theorem Adw {a:Expr} {tl:DTA} {p pos:Pos} (hm:X.mg "min"=none) (hu:X.A.in1.units+16 < cLine) (ha:DA X [a] tl) (hc:X.calm=true:=by rfl) (hg:Gl X "min":=by rfl) (hv:bootBuiltins "min"=some (.builtin "min"):=by rfl) (he:starEach [a] X.env=(false,eval a X.env) :: starEach [] X.env:=by rfl)
  (hpl:(backTo pos (starEach [] X.env)).any (·.1)=false:=by rfl):DE X (.Call (.Name "min" p) [a] [] pos) (dCB AfK tl):=RZ (Aap hc hu) AbE hg hm hv ha (he:=he) (hpl:=hpl)
theorem AhF {A:Around} (h:A.units+64 < cLine):A.in1.units+16 < cLine:=by show A.units+1+16 < cLine;omega
end
end L2
namespace L2
open PySem PySem.Spec PyProof.Rows
variable {X:Cx}
noncomputable def Ala (K:PySem.W.Frag):List V→Hp→VK→Prop:=fun xs H Q=>∃ p ns,xs=[.ref p]∧SqL K H p (List.map V.int ns)∧Q (.int ns.sum) H
theorem Z2 (hc:X.calm=true):Np X (.builtin "sum") (Ala X.K):=by
 intro pins s σ H xs us Q I r h
 obtain ⟨p,ns,rfl,hl,q⟩:=h
 obtain ⟨u,rfl,r1⟩:=vals1 r
 cases r1
 obtain ⟨its,rv,pl,_⟩:=I.list hl
 have n1:IntsAre its ns:=intsAre_of rv
 obtain ⟨ys,hy⟩:=n1.allInts.items
 have hn:numsOf its.toArray.toList=ns:=by rw [show its.toArray.toList=its from rfl,n1.numsOf]
 have li:=pl.isList
 rw [hy] at li hn
 rw [nums_intItems] at hn
 have lt:p < s.heap.objs.size:=by obtain ⟨_,e,_⟩:=li;exact Heap.lt_size e
 have W:=(Walks.list (prog:=X.prog) (w:=X.w) (A:=X.A.in1) (I.ok.hd hc) s.heap.objs.size p (Nat.ne_of_lt lt) (intItems ys)).toS
 have hsz:(intItems ys).size=ys.size:=by simp [intItems]
 rw [hsz] at W
 refine call_sum_walkAnyS (wpAny_pyIter_list li ?_)
 refine ⟨s.heap.objs.size,_,_,_,_,_,_,numAt ys,rfl,W,⟨⟨_,Heap.get?_push_size _ rfl,rfl,rfl⟩,li.push _⟩,fun b hb=>?_,fun i v hP=>intItems_at hP,fun s' t' hm=>?_⟩
 ·show b < (s.heap.push _).objs.size
  rw [Heap.size_push]
  rcases List.mem_cons.mp hb with rfl | hb
  ·exact Nat.lt_succ_self _
  ·have e:b=p:=by simpa using hb
   rw [e]
   exact Nat.lt_succ_of_lt lt
 ·obtain ⟨h',g',d',tk',os'⟩:=s'
  have e1:g'=s.gens:=hm.gens
  have e2:d'=s.drawn:=hm.drawn
  have e3:os'=s.os:=hm.os
  subst e1 e2 e3
  have I1:Inv X pins σ H { s with heap:=h',toks:=tk' }:=I.kept fun b o e=>hm.heap b o (fun hb=>absurd (Heap.lt_size e) ((List.mem_singleton.mp hb) ▸ Nat.lt_irrefl _)) (Heap.get?_push_of_some _ e)
  rw [preSum_eq,List.take_of_length_le (by simp),hn]
  exact ⟨.int ns.sum,H,I1,⟨_,rfl⟩,q⟩
noncomputable def AgW:DL:=fun ds Q=>∃ ns:List Int,ds=[.lst (ns.map Dt.int)]∧Q (.int ns.sum)
theorem Adh {K:PySem.W.Frag}:U7 K (Ala K) AgW where
 mono:=fun hq ⟨ns,e,h⟩=>⟨ns,e,hq _ h⟩
 ok:=fun O H ds xs Q _ r ⟨ns,e,h⟩=>by
  subst e
  obtain ⟨x,r',rfl,ra,r3⟩:=Bc.mp r
  obtain rfl:=BJ.mp r3
  obtain ⟨a,us,rfl,ha,hla⟩:=Fb ra
  obtain rfl:=Pn hla
  exact ⟨a,ns,rfl,(Bu (O:=O) (H:=H)).seq ha,h _ H (Same.refl H) (Bb.mpr rfl)⟩
theorem Ag0 {a:Expr} {tl:DTA} {p pos:Pos} (hm:X.mg "sum"=none) (ha:DA X [a] tl) (hc:X.calm=true:=by rfl) (hg:Gl X "sum":=by rfl) (hv:bootBuiltins "sum"=some (.builtin "sum"):=by rfl) (he:starEach [a] X.env=(false,eval a X.env) :: starEach [] X.env:=by rfl)
  (hpl:(backTo pos (starEach [] X.env)).any (·.1)=false:=by rfl):DE X (.Call (.Name "sum" p) [a] [] pos) (dCB AgW tl):=RZ (Z2 hc) Adh hg hm hv ha (he:=he) (hpl:=hpl)
end L2
namespace L2
open PySem PySem.Spec PyProof.Rows
open PySem.W (KasT kas_asc kas_desc kas_tail3 kas_descPart kas_count kas_place kas_bin kas_sort kas_rev)
noncomputable def VL {α:Type} (bt:Nat→Nat→Bool):KasT α→α
 | .ret a=>a
 | .ask i j k=>VL bt (k (bt i j))
noncomputable def GR {α:Type} (n:Nat) (G:α→Prop):KasT α→Prop
 | .ret a=>G a
 | .ask i j k=>i < n∧j < n∧∀ b,GR n G (k b)
theorem GR.bind {α β:Type} {n:Nat} {G:α→Prop} {H:β→Prop} {f:α→KasT β} (hf:∀ a,G a→GR n H (f a)):∀ t:KasT α,GR n G t→GR n H (t.bind f)
 | .ret a,h=>hf a h
 | .ask _ _ k,h=>⟨h.1,h.2.1,fun b=>GR.bind hf (k b) (h.2.2 b)⟩
theorem GR.eval {α:Type} {n:Nat} {G:α→Prop} (bt:Nat→Nat→Bool):∀ t:KasT α,GR n G t→G (VL bt t)
 | .ret _,h=>h
 | .ask i j k,h=>GR.eval bt (k (bt i j)) (h.2.2 _)
theorem Wr {α:Type} {n:Nat} {cmp:Nat→Nat→(Bool→Shared→Prop)→Shared→Prop} {bt:Nat→Nat→Bool} {s:Shared} (hc:∀ i j,i < n→j < n→∀ C:Bool→Shared→Prop,C (bt i j) s→cmp i j C s) {G:α→Prop} {Q:α→Shared→Prop} :
  ∀ t:KasT α,GR n G t→Q (VL bt t) s→t.kasWp cmp Q s
 | .ret _,_,q=>q
 | .ask i j k,h,q=>hc i j h.1 h.2.1 _ (Wr hc (k (bt i j)) (h.2.2 _) q)
noncomputable abbrev Rg (n:Nat):Array Nat:=List.toArray (List.range n)
theorem K3 {n:Nat} {p:Array Nat} (n0:0 < n) (h:p.Perm (Rg n)) (i:Nat):p.getD i 0 < n:=by
 by_cases hi:i < p.size
 ·have e:p.getD i 0=p[i]:=by simp [Array.getD,hi]
  rw [e]
  have:=h.mem_iff.mp (Array.getElem_mem hi)
  simpa using this
 ·simpa [Array.getD,hi] using n0
theorem Qu {n:Nat} {p:Array Nat} (h:p.Perm (Rg n)) (i j:Nat):(kas_rev p i j).Perm (Rg n):=(mirror_perm p i j _).trans h
section
variable {n:Nat}
theorem Tw {p:Array Nat} (n0:0 < n) (hp:p.Perm (Rg n)):∀ f m,GR n (fun _=>True) (kas_asc p f m)
 | 0,_=>trivial
 | f+1,m=>⟨K3 n0 hp _,K3 n0 hp _,fun b=>by
  cases b
  ·exact Tw n0 hp f (m+1)
  ·trivial⟩
theorem LQ (n0:0 < n):∀ (f:Nat) (p:Array Nat) (m q:Nat),p.Perm (Rg n)→GR n (fun r:Array Nat × Nat × Nat=>r.1.Perm (Rg n)) (kas_desc f p m q)
 | 0,_,_,_,hp=>hp
 | f+1,p,m,q,hp=>⟨K3 n0 hp _,K3 n0 hp _,fun b=>by
  cases b
  ·refine ⟨K3 n0 hp _,K3 n0 hp _,fun d=>?_⟩
   cases d
   ·exact LQ n0 f p (m+1) (q+1) hp
   ·exact hp
  ·show GR n _ (if q > 0 then _ else _)
   split
   ·exact LQ n0 f _ (m+1) 0 (Qu hp _ _)
   ·exact LQ n0 f p (m+1) 0 hp⟩
theorem Va (n0:0 < n) {p:Array Nat} (hp:p.Perm (Rg n)) (m k:Nat):GR n (fun r:Nat × Array Nat=>r.2.Perm (Rg n)) (kas_tail3 m k p) :=
 GR.bind (n:=n) (G:=fun _=>True) (H:=fun r:Nat × Array Nat=>r.2.Perm (Rg n)) (f:=fun j=>KasT.ret (j,kas_rev p 0 m)) (fun _ _=>show (kas_rev p 0 m).Perm (Rg n) from Qu hp _ _) _ (Tw n0 (Qu hp _ _) _ _)
theorem Vy (n0:0 < n) {p:Array Nat} (hp:p.Perm (Rg n)) (m k:Nat):GR n (fun r:Nat × Array Nat=>r.2.Perm (Rg n)) (kas_descPart m k p) :=
 GR.bind (fun r hr=>by
  split
  ·exact Va n0 (Qu hr _ _) _ _
  ·exact Va n0 hr _ _) _ (LQ n0 _ p _ _ hp)
theorem Z9 (n0:0 < n) {p:Array Nat} (hp:p.Perm (Rg n)) (k:Nat):GR n (fun r:Nat × Array Nat=>r.2.Perm (Rg n)) (kas_count k p) :=
 GR.bind (fun m _=>by
  split
  ·exact hp
  ·split
   ·refine ⟨K3 n0 hp _,K3 n0 hp _,fun b=>?_⟩
    cases b
    ·exact Vy n0 (Qu hp _ _) _ _
    ·exact hp
   ·exact Vy n0 hp _ _) _ (Tw n0 hp _ _)
theorem N7 (n0:0 < n) {p:Array Nat} (hp:p.Perm (Rg n)) (k:Nat):∀ f l r,GR n (fun _=>True) (kas_place p k f l r)
 | 0,_,_=>trivial
 | f+1,l,r=>by
  show GR n _ (if l≥r then _ else _)
  split
  ·trivial
  ·refine ⟨K3 n0 hp _,K3 n0 hp _,fun b=>?_⟩
   cases b
   ·exact N7 n0 hp k f _ _
   ·exact N7 n0 hp k f _ _
theorem Zh (n0:0 < n):∀ (f:Nat) (p:Array Nat) (k:Nat),p.Perm (Rg n)→GR n (fun r:Array Nat=>r.Perm (Rg n)) (kas_bin f p k)
 | 0,_,_,hp=>hp
 | f+1,p,k,hp=>GR.bind (fun l _=>Zh n0 f _ (k+1) ((bubble_perm p k (k - l)).trans hp)) _ (N7 n0 hp k _ _ _)
theorem Wu (n0:0 < n):GR n (fun r:Array Nat=>r.Perm (Rg n)) (kas_sort n) :=
 GR.bind (fun r hr=>by
  split
  ·exact Zh n0 _ r.2 _ hr
  ·exact hr) _ (Z9 n0 (Array.Perm.refl _) _)
end
noncomputable def Gh (bt:Nat→Nat→Bool) (n:Nat):List Nat:=(VL bt (kas_sort n)).toList
theorem GJ (bt:Nat→Nat→Bool) (n:Nat):(Gh bt n).Perm (List.range n):=by
 rcases Nat.eq_zero_or_pos n with rfl | h
 ·exact List.Perm.refl _
 ·have:=(Wu h).eval bt
  exact Array.perm_iff_toList_perm.mp this
section
variable {prog:Program} {w:World} {A:Around} {E:Value→Shared→Prop} {s:Shared}
noncomputable def But (a:Addr) (h h':Heap):Prop:=∀ b o,b≠a→h.get? b=some o→h'.get? b=some o
theorem YL:∀ vs:List Value,(vs.zip vs).map (·.2)=vs
 | []=>rfl
 | v :: vs=>by rw [List.zip_cons_cons,List.map_cons,YL vs]
theorem WW {vs:List Value} (bt:Nat→Nat→Bool) (h:vs.length < 2):(Gh bt vs.length).map (fun i=>vs.getD i Value.none)=vs:=by
 match vs,h with
 | [],_=>rfl
 | [v],_=>rfl
theorem U3 {a:Addr} {vs:List Value} {n:Nat} {κ:SortKind} {bt:Nat→Nat→Bool} {P:PySem.Fin→Shared→Prop} (ho:s.heap.get? a=some (seqObj "list" vs.toArray n)) (h64:vs.length < 64)
  (hk:∀ h':Heap,But a s.heap h'→2≤vs.length→∀ Q:SortKind→Shared→Prop,Q κ { s with heap:=h' }→wpAny (model prog w) A (keyKind' vs.toArray) Q (fun _ _=>False) { s with heap:=h' })
  (hl:∀ h':Heap,But a s.heap h'→∀ i j,i < vs.length→j < vs.length→∀ C:Bool→Shared→Prop,C (bt i j) { s with heap:=h' }→PySem.W.kas_ask prog w A κ vs i j C { s with heap:=h' })
  (fin:∀ (h':Heap) (c:Nat),But a s.heap h'→h'.get? a=some (seqObj "list" (List.toArray ((Gh bt vs.length).map fun i=>vs.getD i Value.none)) c)→P (.done (.ret .none)) { s with heap:=h' }) :
  wpAny (model prog w) A (Builtin.«list.sort» ⟨[.ref a],[]⟩) P E s:=by
 have la:a < s.heap.objs.size:=Heap.lt_size ho
 have sl:vs.length≤sizeLine:=by rw [sizeLine_eq];omega
 obtain ⟨c1,g1⟩:∃ c,(s.heap.update a (Obj.mapSeq fun _=>(#[]:Array Value))).get? a=some (seqObj "list" #[] c):=⟨_,get?_update_seq ho fun _=>#[]⟩
 obtain ⟨h3,e3⟩:∃ h3,h3=((s.heap.update a (Obj.mapSeq fun _=>(#[]:Array Value))).push (seqObj "tuple" vs.toArray 0)).push (seqObj "list" #[] 0):=⟨_,rfl⟩
 have g3:h3.get? a=some (seqObj "list" #[] c1):=by rw [e3];exact Heap.get?_push_of_some _ (Heap.get?_push_of_some _ g1)
 have k3:But a s.heap h3:=fun b o ne e=>by
  rw [e3]
  exact Heap.get?_push_of_some _ (Heap.get?_push_of_some _ ((Heap.get?_update_other _ _ (Ne.symm ne)).trans e))
 have last:∀ out:List Value,out.length≤sizeLine→out=(Gh bt vs.length).map (fun i=>vs.getD i Value.none)→∃ c2,(h3.update a (Obj.mapSeq fun _=>out.toArray)).get? a=some (seqObj "list" out.toArray c2)∧P (.done (.ret .none)) { s with heap:=h3.update a (Obj.mapSeq fun _=>out.toArray) }:=fun out _ eo=>by
  obtain ⟨c2,g⟩:∃ c,(h3.update a (Obj.mapSeq fun _=>out.toArray)).get? a=some (seqObj "list" out.toArray c):=⟨_,get?_update_seq g3 fun _=>out.toArray⟩
  refine ⟨c2,g,fin _ c2 (fun b o ne e=>(Heap.get?_update_other _ _ (Ne.symm ne)).trans (k3 b o ne e)) ?_⟩
  rw [←eo];exact g
 rw [list_sort_plain]
 refine wpAny_bind (listItems_at ho rfl (wpAny_bind (listUpdate_at ho rfl ?_ (by rw [List.size_toArray];exact sl) (Nat.zero_le _))))
 refine wpAny_bind (seqEpoch_at g1 rfl (wpAny_bind (wpAny_newTuple ?_ (by show vs.length≤_;exact sl))))
 refine wpAny_bind (wpAny_newList (wpAny_holding ?_) (Nat.zero_le _))
 show wpAny (model prog w) A _ P E { s with heap:=((s.heap.update a (Obj.mapSeq fun _=>(#[]:Array Value))).push (seqObj "tuple" vs.toArray 0)).push (seqObj "list" #[] 0) }
 rw [←e3]
 dsimp only
 by_cases few:vs.toArray.size < 2
 ·rw [if_pos few,if_pos few]
  have few':vs.length < 2:=by simpa using few
  refine wpAny_bind (wpAny_pure ?_);rw [StateT.run_pure];refine wpAny_bind (wpAny_pure ?_)
  dsimp only
  have eo:(arrOf (SortSt.mk' general' (vs.toArray.zip vs.toArray) #[] 7 none)).map (·.2)=vs.toArray:=by
   show (vs.toArray.zip vs.toArray).map (·.2)=vs.toArray
   rw [←Array.toList_inj,Array.toList_map,Array.toList_zip]
   exact YL vs
  rw [eo]
  obtain ⟨c2,g,q⟩:=last vs sl (WW bt few').symm
  refine wpAny_bind (seqEpoch_at g3 rfl (wpAny_bind (listUpdate_at g3 rfl ?_ (Nat.zero_le _) (by rw [List.size_toArray];exact Nat.le_succ_of_le sl))))
  simp only [bne_self_eq_false,Bool.false_eq_true,if_false]
  exact wpAny_pure q
 ·rw [if_neg few,if_neg few]
  have many:2≤vs.length:=by
   have:¬ vs.length < 2:=by simpa using few
   omega
  refine wpAny_bind (wpAny_mono (hk h3 k3 many (fun κ' s'=>κ'=κ∧s' = { s with heap:=h3 }) ⟨rfl,rfl⟩) ?_ fun _ _ x=>x.elim)
  rintro κ' s' ⟨rfl,rfl⟩
  have tree:=Wr (hl h3 k3) (Q:=fun p s'=>p=VL bt (kas_sort vs.length)∧s' = { s with heap:=h3 }) (kas_sort vs.length) (Wu (by omega)) ⟨rfl,rfl⟩
  refine wpAny_bind (wpAny_mono (PySem.W.kat_run (Q:=fun st' s'=>(arrOf st').map (·.2)=List.toArray ((Gh bt vs.length).map fun i=>vs.getD i Value.none)∧failedOf st'=none∧s' = { s with heap:=h3 }) rfl many h64 (fun p st' s' _ a2 a3 a4=>⟨?_,a3,a4.2⟩) tree) ?_ fun _ _ e=>e)
  ·rw [PySem.W.kat_snds rfl a2,a4.1];rfl
  ·rintro ⟨⟨⟩,st'⟩ s' ⟨x1,x2,rfl⟩
   dsimp only
   rw [x1]
   have ol:((Gh bt vs.length).map fun i=>vs.getD i Value.none).length≤sizeLine:=by rw [List.length_map,(GJ bt _).length_eq,List.length_range];exact sl
   obtain ⟨c2,g,q⟩:=last _ ol rfl
   refine wpAny_bind (seqEpoch_at g3 rfl (wpAny_bind (listUpdate_at g3 rfl ?_ (Nat.zero_le _) (by rw [List.size_toArray];exact Nat.le_succ_of_le ol))))
   rw [x2]
   simp only [bne_self_eq_false,Bool.false_eq_true,if_false]
   exact wpAny_pure q
theorem ZQ {l:Addr} {vs:List Value} {κ:SortKind} {bt:Nat→Nat→Bool} {Q:Value→Shared→Prop} (hl:s.heap.IsList l vs.toArray) (h64:vs.length < 64)
  (hk:∀ h':Heap,(∀ b o,s.heap.get? b=some o→h'.get? b=some o)→2≤vs.length→∀ R:SortKind→Shared→Prop,R κ { s with heap:=h' }→wpAny (model prog w) A.in1.in1 (keyKind' vs.toArray) R (fun _ _=>False) { s with heap:=h' })
  (hc:∀ h':Heap,(∀ b o,s.heap.get? b=some o→h'.get? b=some o)→∀ i j,i < vs.length→j < vs.length→∀ C:Bool→Shared→Prop,C (bt i j) { s with heap:=h' }→PySem.W.kas_ask prog w A.in1.in1 κ vs i j C { s with heap:=h' })
  (fin:∀ (h':Heap) (D:Addr) (c:Nat),(∀ b o,s.heap.get? b=some o→h'.get? b=some o)→s.heap.objs.size≤D→h'.get? D=some (seqObj "list" (List.toArray ((Gh bt vs.length).map fun i=>vs.getD i Value.none)) c)→Q (.ref D) { s with heap:=h' }) :
  wpAny (model prog w) A (call (.builtin "sorted") [.ref l]) Q E s:=by
 have sl:vs.length≤sizeLine:=by rw [sizeLine_eq];omega
 obtain ⟨h1,e1⟩:∃ h1,h1=(s.heap.push (seqObj "list" #[] 0)).update s.heap.objs.size (Obj.mapSeq (· ++ vs.toArray)):=⟨_,rfl⟩
 have z1:h1.objs.size=s.heap.objs.size+1:=by rw [e1,Heap.size_update,size_push']
 have kp:∀ b o,s.heap.get? b=some o→(h1.push (seqObj "list" vs.toArray 0)).get? b=some o:=fun b o q=>by
  have lb:b < s.heap.objs.size:=Heap.lt_size q
  refine Heap.get?_push_of_some _ ?_
  rw [e1,Heap.get?_update_ne _ _ _ _ (Nat.ne_of_lt lb)]
  exact Heap.get?_push_of_some _ q
 have gD:(h1.push (seqObj "list" vs.toArray 0)).get? h1.objs.size=some (seqObj "list" vs.toArray 0):=Heap.get?_push_size _ rfl
 have low:∀ (h':Heap),But h1.objs.size (h1.push (seqObj "list" vs.toArray 0)) h'→∀ b o,s.heap.get? b=some o→h'.get? b=some o:=fun h' k b o q=>by
  have lb:b < s.heap.objs.size:=Heap.lt_size q
  exact k b o (Nat.ne_of_lt (by rw [z1];exact Nat.lt_succ_of_lt lb)) (kp b o q)
 refine Calls.call_function_entry kind_sorted plain_sorted entry_sorted (args_sorted1 _) ?_
 unfold Builtin.«sorted»
 refine wpAny_bind (m:=checkCount "sorted" 1 1 _) (wpAny_pure (wpAny_bind (collect_list hl ?_ (by rw [sizeLine_eq];omega))))
 refine wpAny_bind (wpAny_newList ?_ (by rw [sizeLine_eq];omega))
 show wpAny _ _ _ _ _ { s with heap:=((s.heap.push (seqObj "list" #[] 0)).update s.heap.objs.size (Obj.mapSeq (· ++ vs.toArray))).push (seqObj "list" vs.toArray 0) }
 rw [←e1]
 refine wpAny_bind (wpAny_holding (wpAny_call_entry slot_list_sort ⟨_,gD,rfl⟩ entry_list_sort ?_ (args_list_sort _)))
 refine U3 (s:={ s with heap:=h1.push (seqObj "list" vs.toArray 0) }) (κ:=κ) (bt:=bt) gD h64 (fun h' k=>hk h' (low h' k)) (fun h' k=>hc h' (low h' k)) fun h' c k g=>?_
 exact ⟨_,rfl,wpAny_pure ⟨_,rfl,fin h' _ c (low h' k) (by rw [z1];omega) g⟩⟩
end
theorem R8 {xs:List V} {us:List Value} (r:Vals xs us):∀ ix:List Nat,(∀ i∈ix,i < xs.length)→Vals (ix.map fun i=>xs.getD i V.non) (ix.map fun i=>us.getD i Value.none)
 | [],_=>.nil
 | i :: ix,h=>by
  have hi:i < xs.length:=h i (.head _)
  obtain ⟨u,eu,ru⟩:=Vals.get (i:=i) (x:=xs[i]) r (List.getElem?_eq_getElem hi)
  have e1:xs.getD i V.non=xs[i]:=by simp [List.getD,hi]
  have e2:us.getD i Value.none=u:=by simp [List.getD,eu]
  rw [List.map_cons,List.map_cons,e1,e2]
  exact .cons ru (R8 r ix fun j hj=>h j (.tail _ hj))
variable {X:Cx}
end L2
namespace L2
open PySem PySem.Spec PyProof.Rows
open PySem.W (KasT kas_asc kas_desc kas_tail3 kas_descPart kas_count kas_place kas_bin kas_sort kas_rev)
structure Adx (bt:Nat→Nat→Bool):Prop where
 asy:∀ i j,bt i j=true→bt j i=false
 neg:∀ i j k,bt j i=false→bt k j=false→bt k i=false
noncomputable abbrev gt (p:Array Nat) (i:Nat):Nat:=p.getD i 0
section
variable {bt:Nat→Nat→Bool} (O:Adx bt)
end
end L2
namespace L2
open PySem PySem.Spec PyProof.Rows
end L2
namespace L2
open PySem PySem.Spec PyProof.Rows PySem.SeqAt
section
variable {X:Cx} {e:Expr} {te:DTE} {pos:Pos}
end
end L2
namespace L2
open PySem
end L2
namespace L2
open PySem PySem.Spec PyProof.Rows
open PySem.W (KasT kas_sort)
noncomputable def Pa:List (List Int)→List (List Int)→Bool
 | [],[]=>false
 | [],_ :: _=>true
 | _ :: _,[]=>false
 | a :: r,b :: s=>if a=b then Pa r s else HT.lexLt a b
noncomputable abbrev nestD (rs:List (List Int)):Dt:=.tup (rs.map Gg)
inductive Jf (h:Heap):List Value→List (List Int)→Prop
 | nil:Jf h [] []
 | cons {a:Addr} {xs:Array Value} {ns:List Int} {vs:List Value} {rs:List (List Int)} (t:IsTup h a xs) (i:IntsAre xs.toList ns) (r:Jf h vs rs):Jf h (.ref a :: vs) (ns :: rs)
section
variable {prog:Program} {w:World} {A:Around} {E:Value→Shared→Prop} {s:Shared}
theorem Vs (hu:A.units+8 < cLine) {Q:Bool→Shared→Prop}:∀ (vs us:List Value) (rs ss:List (List Int)) (i:Nat),Jf s.heap vs rs→Jf s.heap us ss→Q (Pa rs ss) s→PySem.W.KatLex prog w A false (decide (vs.length < us.length)) Q (vs.zip us) i s
 | _,_,_,_,_,.nil,.nil,q=>q
 | _,_,_,_,_,.nil,.cons _ _ _,q=>by
  rw [decide_eq_true (by simp)]
  exact PySem.W.kat_nil q
 | _,_,_,_,_,.cons _ _ _,.nil,q=>by
  rw [decide_eq_false (by simp)]
  exact PySem.W.kat_nil q
 | _,_,_,_,i,.cons (a:=a) (vs:=vs) (rs:=rs) (ns:=ns) t1 i1 h1,.cons (a:=b) (vs:=us) (rs:=ss) (ns:=ms) t2 i2 h2,q=>by
  have q:Q (if ns=ms then Pa rs ss else HT.lexLt ns ms) s:=q
  have e:=QB (A:=A) (s:=s) t1 t2 i1 i2 hu
  refine PySem.W.kat_cons (e prog w _ _ (PySem.W.kat_go (fun e=>PySem.W.kat_yes ?_) (fun e=>PySem.W.kat_no ?_)))
  ·have e:ns=ms:=of_decide_eq_true e
   rw [if_pos e] at q
   have:=Vs hu vs us rs ss (i+1) h1 h2 q
   rw [show decide ((Value.ref a :: vs).length < (Value.ref b :: us).length)=decide (vs.length < us.length) from decide_eq_decide.mpr (by simp)]
   exact this
  ·have e:¬ ns=ms:=of_decide_eq_false e
   rw [if_neg e] at q
   exact PySem.W.kat_one _ _ (HT.Li t1 t2 i1 i2 (by omega) q)
theorem AaO {x y:Addr} {xs ys:Array Value} {rs ss:List (List Int)} {Q:Bool→Shared→Prop} (hu:A.units+8 < cLine) (hx:IsTup s.heap x xs) (hy:IsTup s.heap y ys) (hi:Jf s.heap xs.toList rs) (hj:Jf s.heap ys.toList ss) (q:Q (Pa rs ss) s) :
  wpAny (model prog w) A (keyLt' (tuples' false) (.ref x) (.ref y)) Q E s:=by
 obtain ⟨o1,g1,_,n1,d1⟩:=hx
 obtain ⟨o2,g2,_,n2,d2⟩:=hy
 have:=Vs (prog:=prog) (w:=w) (A:=A) (Q:=Q) hu xs.toList ys.toList rs ss 0 hi hj q
 exact PySem.W.kat_lt g1 d1 g2 d2 (by simpa using this)
end
theorem Wj {h:Heap}:∀ its:List Value,(∀ v∈its,∃ a xs rs,v=.ref a∧IsTup h a xs∧Jf h xs.toList rs∧rs≠[])→∃ fs,PySem.W.KatTups h its fs∧fs.length=its.length∧∀ f∈fs,∃ b ys,f=Value.ref b∧IsTup h b ys
 | [],_=>⟨[],PySem.W.KatTups.nil,rfl,fun _ z=>by cases z⟩
 | v :: its,hv=>by
  obtain ⟨fs,k,lf,ff⟩:=Wj its fun x hx=>hv x (.tail _ hx)
  obtain ⟨a,xs,rs,rfl,⟨o,g,c,n,d⟩,hi,ne⟩:=hv v (.head _)
  cases hx:xs.toList with
  | nil=>rw [hx] at hi;cases hi;exact absurd rfl ne
  | cons x r =>
   rw [hx] at hi
   cases hi with
   | @cons b ys _ _ _ t i _ =>
    have e0:xs[0]? = some (Value.ref b):=by rw [←Array.getElem?_toList,hx];rfl
    refine ⟨.ref b :: fs,PySem.W.KatTups.cons g c d e0 k,by rw [List.length_cons,List.length_cons,lf],fun f hf=>?_⟩
    rcases List.mem_cons.mp hf with rfl | hf
    ·exact ⟨b,ys,rfl,t⟩
    ·exact ff f hf
inductive Lk (K:PySem.W.Frag) (H:Hp):List V→List (List Int)→Prop
 | nil:Lk K H [] []
 | cons {a:Addr} {ns:List Int} {vs:List V} {rs:List (List Int)} (t:SqT K H a (ns.map V.int)) (r:Lk K H vs rs):Lk K H (.ref a :: vs) (ns :: rs)
section
variable {X:Cx}
noncomputable def Abn (K:PySem.W.Frag):List V→Hp→VK→Prop:=fun xs H Q=>∃ p vs,∃ nss:Nat→List (List Int),xs=[.ref p]∧SqL K H p vs∧vs.length < 64∧(∀ (i:Nat) (v:V),vs[i]? = some v→∃ a ws,v=.ref a∧SqT K H a ws∧Lk K H ws (nss i)∧nss i≠[]) ∧
 ∀ l,H l=none→Q (.ref l) (upd H l (.lst ((Gh (fun i j=>Pa (nss i) (nss j)) vs.length).map fun i=>vs.getD i V.non)))
theorem Xn (hu:X.A.in1.in1.units+8 < cLine):Np X (.builtin "sorted") (Abn X.K):=by
 intro pins s σ H xs us Q I r h
 obtain ⟨p,vs,nss,rfl,hl,h64,each,q⟩:=h
 obtain ⟨u,rfl,r1⟩:=vals1 r
 cases r1
 obtain ⟨its,rv,pl,hz⟩:=I.list hl
 have hlen:its.length=vs.length:=rv.length.symm
 have on:∀ h':Heap,(∀ b o,s.heap.get? b=some o→h'.get? b=some o)→∀ {ws:List V} {rs:List (List Int)} {us:List Value},Lk X.K H ws rs→Vals ws us→Jf h' us rs:=fun h' k {ws rs us} ra=>by
  induction ra generalizing us with
  | nil =>
   intro rv
   cases rv
   exact .nil
  | @cons a ns vs rs t _ ih =>
   intro rv
   cases rv with
   | cons r1 r2 =>
    cases r1
    obtain ⟨ys,r3,⟨o,g,rest⟩,_⟩:=I.tuple t
    exact .cons ⟨o,k a o g,rest⟩ (intsAre_of r3) (ih r2)
 have row:∀ h':Heap,(∀ b o,s.heap.get? b=some o→h'.get? b=some o)→∀ (i:Nat) (v:Value),its[i]? = some v→∃ a xs,v=.ref a∧IsTup h' a xs∧Jf h' xs.toList (nss i)∧nss i≠[]:=fun h' k i v e=>by
  obtain ⟨x,e1,r2⟩:=Vals.at rv i v e
  obtain ⟨a,ws,rfl,ht,ra,ne⟩:=each i x e1
  cases r2
  obtain ⟨ys,r3,⟨o,g,rest⟩,_⟩:=I.tuple ht
  exact ⟨a,ys.toArray,rfl,⟨o,k a o g,rest⟩,on h' k ra r3,ne⟩
 refine ZQ (κ:=tuples' false) (bt:=fun i j=>Pa (nss i) (nss j)) (vs:=its) pl.isList (by omega) (fun h' k _ R hR=>?_) (fun h' k i j hi hj C hC=>?_) fun h' D c k hD g=>?_
 ·obtain ⟨fs,kt,lf,ff⟩:=Wj (h:=h') its fun v hv=>by
   obtain ⟨i,hi,e⟩:=List.getElem_of_mem hv
   obtain ⟨a,xs,e1,t,n,ne⟩:=row h' k i v (by rw [←e];exact List.getElem?_eq_getElem hi)
   exact ⟨a,xs,_,e1,t,n,ne⟩
  refine PySem.W.kat_kind (s:={ s with heap:=h' }) (T:=.type "tuple") kt (by omega) (fun v hv=>?_) (by decide) hR
  obtain ⟨b,ys,rfl,⟨o,g,c,_⟩⟩:=ff v hv
  rw [←c]
  exact (PySem.W.Looks.ld g).andThen .now
 ·obtain ⟨a,xs,e1,t1,n1,_⟩:=row h' k i _ (List.getElem?_eq_getElem hi)
  obtain ⟨b,ys,e2,t2,n2,_⟩:=row h' k j _ (List.getElem?_eq_getElem hj)
  have d1:its.getD i Value.none=.ref a:=by simp [List.getD,hi,e1]
  have d2:its.getD j Value.none=.ref b:=by simp [List.getD,hj,e2]
  unfold PySem.W.kas_ask
  rw [d1,d2]
  exact AaO (s:={ s with heap:=h' }) hu t1 t2 n1 n2 hC
 ·have ib:∀ i∈Gh (fun i j=>Pa (nss i) (nss j)) its.length,i < vs.length:=fun i hi=>by
   have:=(GJ _ _).mem_iff.mp hi
   rw [←hlen]
   exact List.mem_range.mp this
  have vp:=R8 rv _ ib
  rw [hlen] at vp g
  have lz:((Gh (fun i j=>Pa (nss i) (nss j)) vs.length).map fun i=>vs.getD i V.non).length≤sizeLine:=by
   rw [List.length_map,(GJ _ _).length_eq,List.length_range]
   exact hz
  exact ⟨.ref D,_,I.laid (t':=s.toks) k hD (show Im X.prog X.w _ h' _ (.lst _) from ⟨lz,_,c,vp,g⟩),rfl,q _ (I.hok.fresh hD)⟩
noncomputable def WD (nss:List (List (List Int))):List (List (List Int)):=(Gh (fun i j=>Pa (nss.getD i []) (nss.getD j [])) nss.length).map fun i=>nss.getD i []
theorem HY (nss:List (List (List Int))):(WD nss).Perm nss:=by
 have h:=(GJ (fun i j=>Pa (nss.getD i []) (nss.getD j [])) nss.length).map fun i=>nss.getD i []
 have e:(List.range nss.length).map (fun i=>nss.getD i [])=nss:=by
  refine List.ext_getElem (by simp) fun i h1 h2=>?_
  simp [List.getD,h2]
 rw [e] at h
 exact h
noncomputable def W0:DL:=fun ds Q=>∃ nss:List (List (List Int)),ds=[.lst (nss.map nestD)]∧nss.length < 64∧(∀ r∈nss,r≠[])∧Q (.lst ((WD nss).map nestD))
theorem Zg {K:PySem.W.Frag} {H:Hp}:∀ {rs:List (List Int)} {vs:List V},RpL K H (rs.map Gg) vs→Lk K H vs rs
 | [],_,h=>by rw [BJ.mp h];exact .nil
 | r :: rs,_,h=>by
  obtain ⟨v,w,rfl,r1,r2⟩:=Bc.mp h
  obtain ⟨a,xs,rfl,t,rl⟩:=CW.mp r1
  rw [ints_of rl] at t
  exact .cons t (Zg r2)
theorem AdR {K:PySem.W.Frag} {H:Hp} {nss:List (List (List Int))} {vs:List V} (h:RpL K H (nss.map nestD) vs):vs.length=nss.length∧∀ (i:Nat) (v:V),vs[i]? = some v→∃ a ws,v=.ref a∧SqT K H a ws∧Lk K H ws (nss.getD i []):=by
 refine ⟨by rw [RpL.len' h,List.length_map],fun i v e=>?_⟩
 obtain ⟨d,e1,r⟩:=RpL.at' i v h e
 rw [List.getElem?_map] at e1
 obtain ⟨rs,e2,rfl⟩:=Option.map_eq_some_iff.mp e1
 obtain ⟨a,xs,rfl,t,rl⟩:=CW.mp r
 have:nss.getD i []=rs:=by simp [List.getD,e2]
 rw [this]
 exact ⟨a,xs,rfl,t,Zg rl⟩
theorem SJ {K:PySem.W.Frag} {H:Hp} {nss:List (List (List Int))} {vs:List V} (r:RpL K H (nss.map nestD) vs):∀ ix:List Nat,(∀ i∈ix,i < nss.length)→RpL K H (ix.map fun i=>nestD (nss.getD i [])) (ix.map fun i=>vs.getD i V.non)
 | [],_=>RpL.nil
 | i :: ix,h=>by
  have hi:i < nss.length:=h i (.head _)
  have hv:i < vs.length:=by rw [RpL.len' r,List.length_map];exact hi
  obtain ⟨d,e1,r1⟩:=RpL.at' i vs[i] r (List.getElem?_eq_getElem hv)
  have e2:d=nestD (nss.getD i []):=by
   rw [List.getElem?_map,List.getElem?_eq_getElem hi] at e1
   cases e1
   simp [List.getD,hi]
  have e3:vs.getD i V.non=vs[i]:=by simp [List.getD,hv]
  rw [List.map_cons,List.map_cons,e3,←e2]
  exact RpL.cons r1 (SJ r ix fun j hj=>h j (.tail _ hj))
theorem ZD {K:PySem.W.Frag}:U7 K (Abn K) W0 where
 mono:=fun hq ⟨nss,e,l,n,h⟩=>⟨nss,e,l,n,hq _ h⟩
 ok:=fun O H ds xs Q hO r ⟨nss,e,l64,ne,h⟩=>by
  subst e
  obtain ⟨x,r',rfl,ra,r3⟩:=Bc.mp r
  obtain rfl:=BJ.mp r3
  obtain ⟨p,vs,rfl,hs,hl⟩:=Fb ra
  have le:Same (mask O H) H:=Bu (O:=O) (H:=H)
  have hl':=hl.mono le
  obtain ⟨ll,each⟩:=AdR hl'
  refine ⟨p,vs,fun i=>nss.getD i [],rfl,(Bu (O:=O) (H:=H)).seq hs,by omega,fun i v e=>?_,fun l hn=>?_⟩
  ·obtain ⟨a,ws,ea,ht,hr⟩:=each i v e
   have hi:i < nss.length:=by
    have:=(List.getElem?_eq_some_iff.mp e).1
    omega
   refine ⟨a,ws,ea,ht,hr,ne _ ?_⟩
   have:nss.getD i []=nss[i]:=by simp [List.getD,hi]
   show nss.getD i []∈nss
   rw [this]
   exact List.getElem_mem hi
  ·have nl:l∉O:=fun z=>hO l z hn
   refine h _ _ (Same.upd hn) (M9 ⟨l,_,rfl,M6 nl,?_⟩)
   have rp:=SJ hl (Gh (fun i j=>Pa (nss.getD i []) (nss.getD j [])) nss.length) fun i hi=>List.mem_range.mp ((GJ _ _).mem_iff.mp hi)
   have em:(WD nss).map nestD=(Gh (fun i j=>Pa (nss.getD i []) (nss.getD j [])) nss.length).map fun i=>nestD (nss.getD i []):=by
    unfold WD
    rw [List.map_map]
    rfl
   rw [em,ll]
   exact rp.mono (Same.upd hn).mask
theorem AbC {a:Expr} {tl:DTA} {p pos:Pos} (hm:X.mg "sorted"=none) (hu:X.A.units+64 < cLine) (ha:DA X [a] tl) (hg:Gl X "sorted":=by rfl) (hv:bootBuiltins "sorted"=some (.builtin "sorted"):=by rfl) (he:starEach [a] X.env=(false,eval a X.env) :: starEach [] X.env:=by rfl)
  (hpl:(backTo pos (starEach [] X.env)).any (·.1)=false:=by rfl):DE X (.Call (.Name "sorted" p) [a] [] pos) (dCB W0 tl):=RZ (Xn (by have:X.A.in1.in1.units=X.A.units+1+1:=rfl;omega)) ZD hg hm hv ha (he:=he) (hpl:=hpl)
end
end L2
namespace L2
open PySem PySem.Spec PyProof.Rows
variable {X:Cx}
noncomputable def YJ (to te:DTE):DTE:=fun ρ Q=>to ρ fun l=>∃ nss:List (List Int),l=.lst (nss.map Gg)∧te ρ fun d=>∃ ns k,d=Gg ns∧k < nss.length∧nss.getD k []=ns∧(∀ m,m < k→nss.getD m []≠ns)∧Q (.int (k:Nat))
theorem Aaa {o e:Expr} {to te:DTE} {ap cp:Pos} (hu:X.A.units+64 < cLine) (hu1:X.A.in1.units+8 < cLine) (ho:DE X o to) (he:DE X e te) (hbase:attributeBase o "index" X.env (eval o X.env)=eval o X.env:=by rfl)
  (hfew:((backTo cp (starEach [e] X.env)).all (fun x=>!x.1) && (backToKw cp (keywordEach [] X.env)).all (fun x=>x.1.isSome) && decide ([e].length+([]:List Keyword).length+(if ([]:List Keyword).isEmpty then 0 else 1) < 30))=true:=by rfl)
  (hline:(ap.endLine == cp.line)=true:=by rfl) (hst:starEach [e] X.env=(false,eval e X.env) :: starEach [] X.env:=by rfl) (hplain:(backTo cp (starEach [] X.env)).any (·.1)=false:=by rfl) :
  DE X (.Call (.Attribute o "index" ap) [e] [] cp) (YJ to te) where
 mono:=fun hq h=>ho.mono (fun l ⟨nss,e1,h⟩=>⟨nss,e1,he.mono (fun d ⟨ns,k,a,b,c,d',h⟩=>⟨ns,k,a,b,c,d',hq _ h⟩) h⟩) h
 pe:=(AfF PySem.F.plainAttrs_list PySem.F.slot_list_index PySem.F.type_list_index (Zz hu hu1) ho.pe (Ks he.pe Ud hst) hbase hfew hline hst hplain).imp fun σ H Q ⟨B,F,O,ρ,R,h⟩=>by
  refine ⟨B,F,O,ρ,R,ho.mono (fun l h v H1 s1 r1=>?_) h⟩
  obtain ⟨nss,rfl,h⟩:=h
  obtain ⟨p,vs,rfl,hs,hl⟩:=Fb r1
  refine ⟨.inl ⟨rfl,_,(Bu (O:=F ++ O) (H:=H1)).seq hs⟩,B,F,O,ρ,R.same s1,he.mono (fun d h v H2 s2 r2=>?_) h⟩
  obtain ⟨ns,k,rfl,kl,ek,before,q⟩:=h
  obtain ⟨b,ys,rfl,hb,hy⟩:=CW.mp r2
  obtain rfl:=Pn hy
  obtain ⟨ll,each⟩:=Aex (hl.mono s2.mask)
  refine ⟨p,vs,fun i=>nss.getD i [],b,ns,k,rfl,rfl,(Bu (O:=F ++ O) (H:=H2)).seq (s2.mask.seq hs),(Bu (O:=F ++ O) (H:=H2)).seqT hb,fun i v e=>?_,by omega,ek,before,q _ H2 (s1.trans s2) (Bb.mpr rfl)⟩
  obtain ⟨a,ea,ht⟩:=each i v e
  exact ⟨a,ea,(Bu (O:=F ++ O) (H:=H2)).seqT ht⟩
end L2
namespace My
open PySem L2
noncomputable abbrev Uc:DSp:=Afw
noncomputable abbrev I4:=Int × Int × Int × Int
noncomputable abbrev I2:=Int × Int
noncomputable abbrev t4 (p:I4):Dt:=T4 p.1 p.2.1 p.2.2.1 p.2.2.2
noncomputable abbrev t2 (p:I2):Dt:=T2 p.1 p.2
noncomputable def B4 (n:Nat) (p:I4):Prop:=Bt n p.1∧Bt n p.2.1∧Bt n p.2.2.1∧Bt n p.2.2.2
noncomputable def B2 (n:Nat) (p:I2):Prop:=Bt n p.1∧Bt n p.2
noncomputable def det (p:I4):Int:=p.1*p.2.2.2 - p.2.1*p.2.2.1
noncomputable def Ij (t:I4) (p:I2):I2:=(t.1*p.1+t.2.1*p.2,t.2.2.1*p.1+t.2.2.2*p.2)
noncomputable def Aj (a b:I4):I4:=(a.1*b.1+a.2.1*b.2.2.1,a.1*b.2.1+a.2.1*b.2.2.2,a.2.2.1*b.1+a.2.2.2*b.2.2.1,a.2.2.1*b.2.1+a.2.2.2*b.2.2.2)
noncomputable def Ax (t:I4):I4:=(t.2.2.2,-t.2.1,-t.2.2.1,t.1)
theorem B4.le {n m:Nat} {t:I4} (h:B4 n t) (l:n≤m):B4 m t:=⟨h.1.le l,h.2.1.le l,h.2.2.1.le l,h.2.2.2.le l⟩
theorem B2.le {n m:Nat} {t:I2} (h:B2 n t) (l:n≤m):B2 m t:=⟨h.1.le l,h.2.le l⟩
theorem B4.back {n:Nat} {t:I4} (h:B4 n t):B4 n (Ax t):=⟨h.2.2.2,h.2.1.neg,h.2.2.1.neg,h.1⟩
theorem B2.led {n m:Nat} {t:I4} {p:I2} (h:B4 n t) (q:B2 m p):B2 (n+m+1) (Ij t p) :=
 ⟨((h.1.mul q.1).add (h.2.1.mul q.2)).le (by omega),((h.2.2.1.mul q.1).add (h.2.2.2.mul q.2)).le (by omega)⟩
theorem B4.then {n m:Nat} {t u:I4} (h:B4 n t) (q:B4 m u):B4 (n+m+1) (Aj t u) :=
 ⟨((h.1.mul q.1).add (h.2.1.mul q.2.2.1)).le (by omega),((h.1.mul q.2.1).add (h.2.1.mul q.2.2.2)).le (by omega),((h.2.2.1.mul q.1).add (h.2.2.2.mul q.2.2.1)).le (by omega),((h.2.2.1.mul q.2.1).add (h.2.2.2.mul q.2.2.2)).le (by omega)⟩
theorem Dg {t:I4}:det (Ax t)=det t:=by obtain ⟨a,b,c,d⟩:=t;simp only [det,Ax];grind
theorem BP {t u:I4}:det (Aj t u)=det t*det u:=by obtain ⟨a,b,c,d⟩:=t;obtain ⟨e,f,g,h⟩:=u;simp only [det,Aj];grind
theorem Kz {t:I4} (h:det t=1):Aj t (Ax t)=(1,0,0,1):=by
 obtain ⟨a,b,c,d⟩:=t
 simp only [det,Aj,Ax,Prod.mk.injEq] at *
 refine ⟨?_,?_,?_,?_⟩ <;> grind
theorem Sx {t:I4} (h:det t=1):Aj (Ax t) t=(1,0,0,1):=by
 obtain ⟨a,b,c,d⟩:=t
 simp only [det,Aj,Ax,Prod.mk.injEq] at *
 refine ⟨?_,?_,?_,?_⟩ <;> grind
theorem VG {t:I4} {p:I2} (h:det t=1):Ij (Ax t) (Ij t p)=p:=by
 obtain ⟨a,b,c,d⟩:=t
 obtain ⟨x,y⟩:=p
 simp only [det,Ij,Ax,Prod.mk.injEq] at *
 refine ⟨?_,?_⟩ <;> grind
theorem Wv {t u:I4} {p:I2}:Ij (Aj t u) p=Ij t (Ij u p):=by
 obtain ⟨a,b,c,d⟩:=t
 obtain ⟨e,f,g,i⟩:=u
 obtain ⟨x,y⟩:=p
 simp only [Ij,Aj,Prod.mk.injEq]
 refine ⟨?_,?_⟩ <;> grind
theorem Afu {s t:I4}:Dt.eq (t4 s) (t4 t)=decide (s=t):=by
 obtain ⟨a,b,c,d⟩:=s
 obtain ⟨e,f,g,h⟩:=t
 simp only [Wh,U0,Ur,SX,Prod.mk.injEq,Bool.and_true]
 simp only [Bool.decide_and]
theorem Yz {s t:I2}:Dt.eq (t2 s) (t2 t)=decide (s=t):=by
 obtain ⟨a,b⟩:=s
 obtain ⟨e,f⟩:=t
 simp only [Wh,U0,Ur,SX,Prod.mk.injEq,Bool.and_true]
 simp only [Bool.decide_and]
noncomputable abbrev I3:=Int × Int × Int
noncomputable abbrev t3 (p:I3):Dt:=T3 p.1 p.2.1 p.2.2
noncomputable def B3 (n:Nat) (p:I3):Prop:=Bt n p.1∧Bt n p.2.1∧Bt n p.2.2
theorem B3.le {n m:Nat} {t:I3} (h:B3 n t) (l:n≤m):B3 m t:=⟨h.1.le l,h.2.1.le l,h.2.2.le l⟩
noncomputable def meas (f:I3):Int:=f.2.1*f.2.1 - 4*f.1*f.2.2
noncomputable def val (f:I3) (p:I2):Int:=f.1*p.1*p.1+f.2.1*p.1*p.2+f.2.2*p.2*p.2
noncomputable def mid (f:I3) (l r:I2):Int:=2*f.1*l.1*r.1+f.2.1*(l.1*r.2+r.1*l.2)+2*f.2.2*l.2*r.2
noncomputable def mov (f:I3) (t:I4):I3:=(val f (t.1,t.2.2.1),mid f (t.1,t.2.2.1) (t.2.1,t.2.2.2),val f (t.2.1,t.2.2.2))
theorem AcQ {f:I3} {t:I4} {p:I2}:val (mov f t) p=val f (Ij t p):=by
 obtain ⟨a,b,c⟩:=f;obtain ⟨e,g,h,i⟩:=t;obtain ⟨x,y⟩:=p
 simp only [val,mov,mid,Ij];grind
theorem Br {f:I3} {t:I4} (h:det t=1):meas (mov f t)=meas f:=by
 obtain ⟨a,b,c⟩:=f;obtain ⟨e,g,i,j⟩:=t
 simp only [det] at h
 have e1:meas (mov (a,b,c) (e,g,i,j))=(e*j - g*i)*(e*j - g*i)*meas (a,b,c):=by simp only [meas,mov,val,mid];grind
 rw [e1,h];simp
theorem Bf {f:I3} {t u:I4}:mov (mov f t) u=mov f (Aj t u):=by
 obtain ⟨a,b,c⟩:=f;obtain ⟨e,g,i,j⟩:=t;obtain ⟨k,l,m,n⟩:=u
 simp only [mov,val,mid,Aj,Prod.mk.injEq]
 refine ⟨?_,?_,?_⟩ <;> grind
theorem DY {f:I3}:mov f (1,0,0,1)=f:=by
 obtain ⟨a,b,c⟩:=f
 simp only [mov,val,mid,Prod.mk.injEq]
 refine ⟨?_,?_,?_⟩ <;> grind
theorem Afo {s t:I3}:Dt.eq (t3 s) (t3 t)=decide (s=t):=by
 obtain ⟨a,b,c⟩:=s
 obtain ⟨e,f,g⟩:=t
 simp only [Wh,U0,Ur,SX,Prod.mk.injEq,Bool.and_true]
 simp only [Bool.decide_and]
theorem B3.mov {f:I3} {t:I4} {n m:Nat} (hf:B3 n f) (ht:B4 m t):B3 (n+m+m+5) (mov f t):=by
 obtain ⟨a,b,c⟩:=f;obtain ⟨e,g,i,j⟩:=t
 obtain ⟨ha,hb,hc⟩:=hf
 obtain ⟨he,hg,hi,hj⟩:=ht
 have h2:Bt 2 2:=Bt.of_abs (by decide)
 refine ⟨?_,?_,?_⟩
 ·exact ((((ha.mul he).mul he).add ((hb.mul he).mul hi)).add ((hc.mul hi).mul hi)).le (by omega)
 ·exact (((((h2.mul ha).mul he).mul hg).add (hb.mul ((he.mul hj).add (hg.mul hi)))).add (((h2.mul hc).mul hi).mul hj)).le (by omega)
 ·exact ((((ha.mul hg).mul hg).add ((hb.mul hg).mul hj)).add ((hc.mul hj).mul hj)).le (by omega)
noncomputable def Sq (n r:Int):Prop:=0≤r∧r*r≤n∧n < (r+1)*(r+1)
theorem Sq.uniq {n r s:Int} (a:Sq n r) (b:Sq n s):r=s:=by
 obtain ⟨a0,a1,a2⟩:=a
 obtain ⟨b0,b1,b2⟩:=b
 rcases Int.lt_trichotomy r s with h | h | h
 ·have:=Int.mul_le_mul (show r+1≤s by omega) (show r+1≤s by omega) (by omega) b0
  omega
 ·exact h
 ·have:=Int.mul_le_mul (show s+1≤r by omega) (show s+1≤r by omega) (by omega) a0
  omega
theorem S8 {n g:Int} (hn:0≤n) (hg:0 < g):n < ((g+n / g) / 2+1)*((g+n / g) / 2+1):=by
 have h1:n < g*(n / g)+g:=Int.lt_mul_ediv_self_add hg
 have h0:0≤n / g:=Int.ediv_nonneg hn (by omega)
 generalize n / g=q at *
 have hb:g+q≤2*((g+q) / 2)+1:=by omega
 have hb0:0≤(g+q) / 2:=by omega
 generalize (g+q) / 2=b at *
 have z1:0≤(g - q - 1)*(g - q - 1):=by
  rcases Int.le_total 0 (g - q - 1) with h | h
  ·exact Int.mul_nonneg h h
  ·exact Int.mul_nonneg_of_nonpos_of_nonpos h h
 have z2:(g+q+1)*(g+q+1)=(g - q - 1)*(g - q - 1)+4*(g*q+g):=by grind
 have z3:(g+q+1)*(g+q+1)≤(2*(b+1))*(2*(b+1)):=Int.mul_le_mul (by omega) (by omega) (by omega) (by omega)
 have z4:(2*(b+1))*(2*(b+1))=4*((b+1)*(b+1)):=by grind
 omega
theorem Xe {n g:Int} (hg:0 < g) (h:g≤(g+n / g) / 2):g*g≤n:=by
 have h1:g*(n / g)≤n:=Int.mul_ediv_self_le (by omega)
 have h2:g≤n / g:=by omega
 have:=Int.mul_le_mul_of_nonneg_left h2 (show 0≤g by omega)
 omega
theorem Wo {n g:Int} (hg:0 < g) (h:n < g*g):(g+n / g) / 2 < g:=by
 have h2:n / g < g:=Int.ediv_lt_of_lt_mul hg (by rw [Int.mul_comm] at h;exact h)
 omega
theorem Xc {n g:Int} (hn:1≤n) (hg:0 < g):0 < (g+n / g) / 2:=by
 have h0:0≤n / g:=Int.ediv_nonneg (by omega) (by omega)
 rcases Int.lt_or_le g 2 with h | h
 ·have:g=1:=by omega
  subst this
  rw [Int.ediv_one];omega
 ·omega
theorem Wl {n:Int} (hn:0≤n):n < (1*2 ^ ((((Builtin.Int.intBits n:Nat):Int)+1).fdiv 2).toNat+1)*(1*2 ^ ((((Builtin.Int.intBits n:Nat):Int)+1).fdiv 2).toNat+1):=by
 have h1:n.natAbs < 2 ^ Builtin.Int.intBits n:=intBits_le_iff.mp (Nat.le_refl _)
 generalize Builtin.Int.intBits n=b at *
 have e:((((b:Nat):Int)+1).fdiv 2).toNat=(b+1) / 2:=by
  rw [Int.fdiv_eq_ediv_of_nonneg _ (by decide)];omega
 rw [e]
 generalize hk:(b+1) / 2=k
 have h2:2 ^ b≤2 ^ k*2 ^ k:=by rw [←Nat.pow_add];exact Nat.pow_le_pow_right (by decide) (by omega)
 have h3:n < ((2 ^ k*2 ^ k:Nat):Int):=by omega
 have h4:((2 ^ k*2 ^ k:Nat):Int)=(2 ^ k:Int)*2 ^ k:=by push_cast;rfl
 rw [h4] at h3
 have h5:(0:Int)≤2 ^ k:=Int.pow_nonneg (by decide)
 generalize (2 ^ k:Int)=z at *
 have:(1*z+1)*(1*z+1)=z*z+2*z+1:=by grind
 omega
theorem Oi {n:Int} (h:Bt 4000 n):Yi 1 ((((Builtin.Int.intBits n:Nat):Int)+1).fdiv 2)∧Bt 2001 (1*2 ^ ((((Builtin.Int.intBits n:Nat):Int)+1).fdiv 2).toNat)∧0 < (1*2 ^ ((((Builtin.Int.intBits n:Nat):Int)+1).fdiv 2).toNat:Int):=by
 have hb:Builtin.Int.intBits n≤4000:=intBits_le_iff.mpr h
 generalize Builtin.Int.intBits n=b at *
 rw [Int.fdiv_eq_ediv_of_nonneg _ (by decide)]
 refine ⟨⟨by omega,by omega,by decide⟩,?_,?_⟩
 ·have e:(((b:Int)+1) / 2).toNat≤2000:=by omega
  generalize (((b:Int)+1) / 2).toNat=k at *
  unfold Bt
  rw [Int.one_mul,Int.natAbs_pow]
  exact Nat.pow_lt_pow_right (by decide) (by omega)
 ·rw [Int.one_mul]
  exact Int.pow_pos (by decide)
theorem UG {n g:Int} (hg:0 < g):(g+n.fdiv g).fdiv 2=(g+n / g) / 2:=by
 rw [Int.fdiv_eq_ediv_of_nonneg _ (by decide),Int.fdiv_eq_ediv_of_nonneg _ (by omega)]
noncomputable def Jy (n:Int):Prop:=∃ r:Int,r*r=n
theorem Wb {n r:Int} (h:Sq n r):Jy n↔r*r=n:=by
 refine ⟨fun ⟨s,e⟩=>?_,fun e=>⟨r,e⟩⟩
 have hs:Sq n (s.natAbs:Int):=by
  have e2:(s.natAbs:Int)*(s.natAbs:Int)=n:=(Int.natAbs_mul_self' s).trans e
  refine ⟨by omega,by omega,?_⟩
  have:((s.natAbs:Int)+1)*((s.natAbs:Int)+1)=(s.natAbs:Int)*(s.natAbs:Int)+2*(s.natAbs:Int)+1:=by grind
  omega
 rw [h.uniq hs]
 exact (Int.natAbs_mul_self' s).trans e
theorem Nh {n:Int} (h:n < 0):¬ Jy n:=fun ⟨r,e⟩=>by
 have:0≤r*r:=by
  rcases Int.le_total 0 r with h | h
  ·exact Int.mul_nonneg h h
  ·exact Int.mul_nonneg_of_nonpos_of_nonpos h h
 omega
noncomputable abbrev Kr:DSp:=spec (fun n:Int=>[.int n]) (fun n=>0≤n∧Bt 4000 n) fun n d=>∃ r,d=.int r∧Sq n r∧Bt 2001 r
noncomputable abbrev JB:DSp:=spec (fun n:Int=>[.int n]) (fun n=>Bt 4000 n) fun n d=>∃ b:Bool,d=.bl b∧(b=true↔Jy n)
theorem Dz (a b:Int):a.fmod b=a - b*a.fdiv b:=Int.fmod_def a b
theorem Nm {a b:Int} (h:b≠0):(a.fmod b).natAbs < b.natAbs:=by
 rcases Int.lt_or_lt_of_ne h with h | h
 ·have e:a.fmod b=-((-a).fmod (-b)):=by rw [Dz,Dz,Int.neg_fdiv_neg];grind
  have h1:=Int.fmod_nonneg_of_pos (-a) (show 0 < -b by omega)
  have h2:=Int.fmod_lt_of_pos (-a) (show 0 < -b by omega)
  omega
 ·have h1:=Int.fmod_nonneg_of_pos a h
  have h2:=Int.fmod_lt_of_pos a h
  omega
theorem Qy (a b:Int):Int.gcd b (a.fmod b)=Int.gcd a b:=by
 rw [Dz]
 have:a - b*a.fdiv b=a+b*(-(a.fdiv b)):=by grind
 rw [this,Int.gcd_comm]
 first
  | rw [Int.gcd_add_mul_left_left]
  | simp
theorem Ahy {n:Nat} {a b:Int} (ha:Bt n a) (hb:Bt n b):Bt n ((Int.gcd a b:Nat):Int):=by
 unfold Bt at *
 rw [Int.natAbs_natCast]
 by_cases h:a=0
 ·subst h;rw [Int.gcd_zero_left];exact hb
 ·have:=Int.gcd_le_natAbs_left b h
  omega
noncomputable def g3 (f:I3):Nat:=Int.gcd ((Int.gcd f.1 f.2.1:Nat):Int) f.2.2
theorem AcS {f:I3} (h:g3 f=0):f=(0,0,0):=by
 obtain ⟨a,b,c⟩:=f
 have h1:=Int.gcd_eq_zero_iff.mp h
 have h2:=Int.gcd_eq_zero_iff.mp (show Int.gcd a b=0 by have:=h1.1;simp only at this;omega)
 have h3:c=0:=h1.2
 rw [h2.1,h2.2,h3]
theorem X4 (f:I3):(g3 f:Int)∣f.1∧(g3 f:Int)∣f.2.1∧(g3 f:Int)∣f.2.2:=by
 have h1:(g3 f:Int)∣((Int.gcd f.1 f.2.1:Nat):Int):=Int.gcd_dvd_left _ _
 exact ⟨Int.dvd_trans h1 (Int.gcd_dvd_left _ _),Int.dvd_trans h1 (Int.gcd_dvd_right _ _),Int.gcd_dvd_right _ _⟩
theorem Ahj {f:I3} (h:g3 f≠0):Int.gcd ((Int.gcd (f.1 / (g3 f:Int)) (f.2.1 / (g3 f:Int)):Nat):Int) (f.2.2 / (g3 f:Int))=1:=by
 obtain ⟨⟨x,hx⟩,⟨y,hy⟩,⟨z,hz⟩⟩:=X4 f
 have hG:(g3 f:Int)≠0:=by omega
 have ex:f.1 / (g3 f:Int)=x:=by rw [hx,Int.mul_ediv_cancel_left _ hG]
 have ey:f.2.1 / (g3 f:Int)=y:=by rw [hy,Int.mul_ediv_cancel_left _ hG]
 have ez:f.2.2 / (g3 f:Int)=z:=by rw [hz,Int.mul_ediv_cancel_left _ hG]
 rw [ex,ey,ez]
 have e:g3 f=g3 f*Int.gcd ((Int.gcd x y:Nat):Int) z:=by
  have e1:Int.gcd f.1 f.2.1=g3 f*Int.gcd x y:=by rw [hx,hy,Int.gcd_mul_left];simp
  have e2:g3 f=Int.gcd ((Int.gcd f.1 f.2.1:Nat):Int) f.2.2:=rfl
  rw [e1,hz] at e2
  rw [show ((g3 f*Int.gcd x y:Nat):Int)=(g3 f:Int)*((Int.gcd x y:Nat):Int) by push_cast;rfl,Int.gcd_mul_left] at e2
  simpa using e2
 have hp:0 < g3 f:=by omega
 have e':g3 f*Int.gcd ((Int.gcd x y:Nat):Int) z=g3 f*1:=by rw [←e,Nat.mul_one]
 exact Nat.eq_of_mul_eq_mul_left hp e'
inductive Abu (f:I3):Dt→Prop
 | flat:Jy (meas f)→Abu f (.str "flat")
 | saddle:¬ Jy (meas f)→0 < meas f→Abu f (.str "saddle")
 | bowl:¬ Jy (meas f)→¬ 0 < meas f→0 < f.1→Abu f (.str "bowl")
 | dome:¬ Jy (meas f)→¬ 0 < meas f→¬ 0 < f.1→Abu f (.str "dome")
noncomputable def Pt (x y:Int):Prop:=¬ (x=0∧y=0)
structure Fq (f:I3):Prop where
 pos:0 < f.1
 lo:-f.1≤f.2.1
 hi:f.2.1≤f.1
 ac:f.1≤f.2.2
 edge:f.2.1=-f.1∨f.1=f.2.2→0≤f.2.1
theorem sq_pos {x:Int} (h:x≠0):1≤x*x:=by
 rcases Int.lt_or_lt_of_ne h with h | h
 ·have:=Int.mul_le_mul_of_nonneg_left (show 1≤-x by omega) (show 0≤-x by omega)
  have e:(-x)*(-x)=x*x:=by grind
  omega
 ·have:=Int.mul_le_mul_of_nonneg_left (show 1≤x by omega) (show 0≤x by omega)
  omega
theorem Zo {a b c x y:Int} (ha:0 < a) (h1:-a≤b) (h2:b≤a) (hc:a≤c) (hx:x≠0) (hy:y≠0):c≤val (a,b,c) (x,y):=by
 have key:∀ X Y B:Int,1≤X→1≤Y→0≤B→B≤a→a+c - B≤a*(X*X) - B*(X*Y)+c*(Y*Y):=fun X Y B hX hY hB0 hB=>by
  have sX:1≤X*X:=sq_pos (by omega)
  have sY:1≤Y*Y:=sq_pos (by omega)
  rcases Int.le_total Y X with h | h
  ·have z1:X*Y≤X*X:=Int.mul_le_mul_of_nonneg_left h (by omega)
   have z2:B*(X*Y)≤B*(X*X):=Int.mul_le_mul_of_nonneg_left z1 hB0
   have z3:(a - B)*1≤(a - B)*(X*X):=Int.mul_le_mul_of_nonneg_left sX (by omega)
   have z4:c*1≤c*(Y*Y):=Int.mul_le_mul_of_nonneg_left sY (by omega)
   have z5:(a - B)*(X*X)=a*(X*X) - B*(X*X):=by grind
   omega
  ·have z1:X*Y≤Y*Y:=Int.mul_le_mul_of_nonneg_right h (by omega)
   have z2:B*(X*Y)≤B*(Y*Y):=Int.mul_le_mul_of_nonneg_left z1 hB0
   have z3:(c - B)*1≤(c - B)*(Y*Y):=Int.mul_le_mul_of_nonneg_left sY (by omega)
   have z4:a*1≤a*(X*X):=Int.mul_le_mul_of_nonneg_left sX (by omega)
   have z5:(c - B)*(Y*Y)=c*(Y*Y) - B*(Y*Y):=by grind
   omega
 have hX:1≤(x.natAbs:Int):=by omega
 have hY:1≤(y.natAbs:Int):=by omega
 have k:=key x.natAbs y.natAbs b.natAbs hX hY (by omega) (by omega)
 have e1:(x.natAbs:Int)*x.natAbs=x*x:=Int.natAbs_mul_self' x
 have e2:(y.natAbs:Int)*y.natAbs=y*y:=Int.natAbs_mul_self' y
 have e3:-((b.natAbs:Int)*((x.natAbs:Int)*y.natAbs))≤b*(x*y):=by
  have:((b.natAbs:Int)*((x.natAbs:Int)*y.natAbs))=((b*(x*y)).natAbs:Int):=by rw [Int.natAbs_mul,Int.natAbs_mul];push_cast;rfl
  rw [this];omega
 rw [e1,e2] at k
 have e4:val (a,b,c) (x,y)=a*(x*x)+b*(x*y)+c*(y*y):=by simp only [val];grind
 rw [e4]
 omega
theorem Lx {a b c x:Int}:val (a,b,c) (x,0)=a*(x*x):=by simp only [val];grind
theorem Xf {a b c y:Int}:val (a,b,c) (0,y)=c*(y*y):=by simp only [val];grind
theorem Fq.min {f:I3} (L:Fq f) {x y:Int} (h:Pt x y):f.1≤val f (x,y):=by
 obtain ⟨a,b,c⟩:=f
 obtain ⟨h0,h1,h2,h3,_⟩:=L
 simp only at h0 h1 h2 h3 ⊢
 by_cases hy:y=0
 ·subst hy
  have hx:x≠0:=fun z=>h ⟨z,rfl⟩
  rw [Lx]
  have:=Int.mul_le_mul_of_nonneg_left (sq_pos hx) (show 0≤a by omega)
  omega
 ·by_cases hx:x=0
  ·subst hx
   rw [Xf]
   have:=Int.mul_le_mul_of_nonneg_left (sq_pos hy) (show 0≤c by omega)
   omega
  ·have:=Zo h0 h1 h2 h3 hx hy
   omega
theorem Fq.low {f:I3} (L:Fq f) {x y:Int} (h:val f (x,y) < f.2.2):y=0:=by
 obtain ⟨a,b,c⟩:=f
 obtain ⟨h0,h1,h2,h3,_⟩:=L
 simp only at h0 h1 h2 h3 h ⊢
 by_cases hy:y=0
 ·exact hy
 ·exfalso
  by_cases hx:x=0
  ·subst hx
   rw [Xf] at h
   have:=Int.mul_le_mul_of_nonneg_left (sq_pos hy) (show 0≤c by omega)
   omega
  ·have:=Zo h0 h1 h2 h3 hx hy
   omega
theorem AbN {t:I4} (h:det t=1):Pt t.1 t.2.2.1:=fun ⟨h1,h2⟩=>by
 obtain ⟨p,q,r,s⟩:=t
 simp only [det] at h h1 h2
 rw [h1,h2] at h
 simp at h
theorem Bq {f:I3} {t:I4} (h:det t=1):mov (mov f t) (Ax t)=f:=by rw [Bf,Kz h,DY]
theorem Zx {x:Int} (h:x*x=1):x=1∨x=-1:=by
 rcases Int.lt_or_le x 0 with z | z
 ·have:(-x)*(-x)=1:=by grind
  rcases Int.lt_or_le (-x) 2 with w | w
  ·exact .inr (by omega)
  ·have:=Int.mul_le_mul w w (by decide) (by omega)
   omega
 ·rcases Int.lt_or_le x 2 with w | w
  ·rcases Int.lt_or_le x 1 with v | v
   ·have:x=0:=by omega
    rw [this] at h;simp at h
   ·exact .inl (by omega)
  ·have:=Int.mul_le_mul w w (by decide) z
   omega
theorem Fq.fix {f:I3} {t:I4} (L:Fq f) (M:Fq (mov f t)) (h:det t=1) (ha:(mov f t).1=f.1) (hc:f.1 < f.2.2):t=(1,0,0,1)∨t=(-1,0,0,-1):=by
 obtain ⟨a,b,c⟩:=f
 obtain ⟨p,q,r,s⟩:=t
 have e1:(mov (a,b,c) (p,q,r,s)).1=val (a,b,c) (p,r):=rfl
 have hr:r=0:=L.low (x:=p) (by rw [←e1,ha];exact hc)
 subst hr
 rw [e1,Lx] at ha
 have h0:0 < a:=L.pos
 simp only at ha
 have hpp:p*p=1:=by
  have:a*(p*p)=a*1:=by rw [ha];omega
  exact Int.eq_of_mul_eq_mul_left (by omega) this
 have hps:p*s=1:=by simp only [det] at h;omega
 have hb:(mov (a,b,c) (p,q,0,s)).2.1=2*(a*(p*q))+b:=by
  show 2*a*p*q+b*(p*s+q*0)+2*c*0*s=_
  rw [hps];grind
 have m1:-a≤2*(a*(p*q))+b:=by
  have:=M.lo
  rw [hb,e1,Lx,hpp] at this
  omega
 have m2:2*(a*(p*q))+b≤a:=by
  have:=M.hi
  rw [hb,e1,Lx,hpp] at this
  omega
 have m3:2*(a*(p*q))+b=-a→0≤2*(a*(p*q))+b:=fun z=>by
  have:=M.edge (.inl (by rw [hb,e1,Lx,hpp];omega))
  rw [hb] at this
  exact this
 have l1:-a≤b:=L.lo
 have l2:b≤a:=L.hi
 have l3:b=-a→0≤b:=fun z=>L.edge (.inl z)
 have hq:p*q=0:=by
  generalize p*q=k at *
  rcases Int.lt_trichotomy k 0 with z | z | z
  ·have:=Int.mul_le_mul_of_nonneg_left (show k≤-1 by omega) (show 0≤a by omega)
   omega
  ·exact z
  ·have:=Int.mul_le_mul_of_nonneg_left (show 1≤k by omega) (show 0≤a by omega)
   omega
 rcases Zx hpp with rfl | rfl
 ·have h1:q=0:=by omega
  have h2:s=1:=by omega
  rw [h1,h2];exact .inl rfl
 ·have h1:q=0:=by omega
  have h2:s=-1:=by omega
  rw [h1,h2];exact .inr rfl
theorem Fq.one {f:I3} {t:I4} (L:Fq f) (M:Fq (mov f t)) (h:det t=1):mov f t=f:=by
 have d1:f.1≤(mov f t).1:=by
  have e1:(mov f t).1=val f (t.1,t.2.2.1):=rfl
  rw [e1];exact L.min (AbN h)
 have hk:det (Ax t)=1:=Dg.trans h
 have d2:(mov f t).1≤f.1:=by
  have:=M.min (AbN hk)
  have e1:(mov (mov f t) (Ax t)).1=val (mov f t) ((Ax t).1,(Ax t).2.2.1):=rfl
  rw [←e1,Bq h] at this
  exact this
 have ha:(mov f t).1=f.1:=by omega
 have hm:=Br (f:=f) h
 by_cases hc:f.1 < f.2.2
 ·rcases L.fix M h ha hc with e | e
  ·rw [e,DY]
  ·rw [e]
   obtain ⟨a,b,c⟩:=f
   simp only [mov,val,mid,Prod.mk.injEq]
   refine ⟨?_,?_,?_⟩ <;> grind
 ·by_cases hc':(mov f t).1 < (mov f t).2.2
  ·exfalso
   have L':Fq (mov (mov f t) (Ax t)):=by rw [Bq h];exact L
   have ha':(mov (mov f t) (Ax t)).1=(mov f t).1:=by rw [Bq h];exact ha.symm
   rcases M.fix L' hk ha' hc' with e | e
   ·have:f=mov f t:=by
     have z:=Bq (f:=f) h
     rw [e,DY] at z
     exact z.symm
    rw [←this] at hc'
    exact hc hc'
   ·have:f=mov f t:=by
     have z:=Bq (f:=f) h
     rw [e] at z
     have z2:mov (mov f t) (-1,0,0,-1)=mov f t:=by
      obtain ⟨a,b,c⟩:=mov f t
      simp only [mov,val,mid,Prod.mk.injEq]
      refine ⟨?_,?_,?_⟩ <;> grind
     rw [z2] at z
     exact z.symm
    rw [←this] at hc'
    exact hc hc'
  ·have l3:=L.ac
   have m3:=M.ac
   have l5:=L.edge (.inr (by omega))
   have m5:=M.edge (.inr (by omega))
   have l0:=L.pos
   have e2:f.2.2=f.1:=by omega
   have e3:(mov f t).2.2=f.1:=by omega
   generalize mov f t=g at *
   obtain ⟨a,b,c⟩:=f
   obtain ⟨a',b',c'⟩:=g
   simp only at *
   subst ha e2 e3
   simp only [meas] at hm
   have hbb:b'*b'=b*b:=by omega
   have:b'=b:=by
    rcases Int.lt_trichotomy b' b with z | z | z
    ·have z1:b'*b'≤b'*b:=Int.mul_le_mul_of_nonneg_left (by omega) m5
     have z2:b'*b < b*b:=Int.mul_lt_mul_of_pos_right z (by omega)
     omega
    ·exact z
    ·have z1:b*b≤b*b':=Int.mul_le_mul_of_nonneg_left (by omega) l5
     have z2:b*b' < b'*b':=Int.mul_lt_mul_of_pos_right z (by omega)
     omega
   rw [this]
theorem Aci (ns:List Int) (lo hi:Option Int):∃ cs:List Int,cutD (ns.map Dt.int) lo hi=cs.map Dt.int∧cs.length≤ns.length:=by
 refine ⟨(ns.drop (HT.sIx (ns.map Dt.int).length 0 lo)).take (HT.sIx (ns.map Dt.int).length (ns.map Dt.int).length hi - HT.sIx (ns.map Dt.int).length 0 lo),by unfold cutD;rw [List.map_take,List.map_drop],?_⟩
 rw [List.length_take,List.length_drop];omega
theorem Ab3 {ds:List Dt} {k:Int} (h0:0≤k) (h1:k < ds.length):∃ d,ixD k (.lst ds)=some d∧ixL k ds=some d∧ds[k.toNat]? = some d:=by
 obtain ⟨j,rfl⟩:=Int.eq_ofNat_of_zero_le h0
 have hj:j < ds.length:=by omega
 have e:ds[j]? = some ds[j]:=by simp [hj]
 exact ⟨_,e,e,e⟩
theorem Mq (x:Int) {m:Int} (h:0 < m):0≤x.fmod m∧x.fmod m < m:=⟨Int.fmod_nonneg_of_pos x h,Int.fmod_lt_of_pos x h⟩
theorem Aeg {n:Nat} {x y:Int} (hx:0≤x) (hy:0 < y) (h:Bt n x):Bt n (x.fdiv y):=by
 rw [Int.fdiv_eq_ediv_of_nonneg _ (by omega)]
 have h1:0≤x / y:=Int.ediv_nonneg hx (by omega)
 have h2:x / y≤x:=Int.ediv_le_self y hx
 unfold Bt at *
 omega
theorem sq_nonneg (x:Int):0≤x*x:=by
 rcases Int.le_total 0 x with h | h
 ·exact Int.mul_nonneg h h
 ·exact Int.mul_nonneg_of_nonpos_of_nonpos h h
end My
namespace My
open PySem L2
noncomputable def Cd (f:I3):Prop:=0 < f.1∧meas f < 0
noncomputable def stands (f:I3):Bool:=decide (-f.1≤f.2.1∧f.2.1≤f.1∧f.1≤f.2.2) && (decide (0≤f.2.1) || (decide (f.2.1≠-f.1) && decide (f.1≠f.2.2)))
theorem Bo {f:I3} (h:0 < f.1) (s:stands f=true):Fq f:=by
 simp only [stands,Bool.and_eq_true,Bool.or_eq_true,decide_eq_true_eq] at s
 obtain ⟨⟨h1,h2,h3⟩,h4⟩:=s
 exact ⟨h,h1,h2,h3,fun z=>by rcases h4 with h4 | ⟨h4,h5⟩;exact h4;rcases z with z | z;exact absurd z h4;exact absurd z h5⟩
theorem Fq.bowl {f:I3} (L:Fq f):Cd f:=by
 obtain ⟨a,b,c⟩:=f
 refine ⟨L.pos,?_⟩
 have h0:0 < a:=L.pos
 have h1:-a≤b:=L.lo
 have h2:b≤a:=L.hi
 have h3:a≤c:=L.ac
 have h4:b*b≤a*a:=by
  have e1:(b.natAbs:Int)*b.natAbs=b*b:=Int.natAbs_mul_self' b
  have:=Int.mul_le_mul (show (b.natAbs:Int)≤a by omega) (show (b.natAbs:Int)≤a by omega) (by omega) (by omega)
  omega
 have h5:a*a≤a*c:=Int.mul_le_mul_of_nonneg_left h3 (by omega)
 have h6:1≤a*a:=sq_pos (by omega)
 show b*b - 4*a*c < 0
 have e:4*a*c=4*(a*c):=by grind
 omega
theorem Fq.bt {f:I3} {n:Nat} (L:Fq f) (h:Bt n (meas f)):B3 n f:=by
 obtain ⟨a,b,c⟩:=f
 have h0:0 < a:=L.pos
 have h1:-a≤b:=L.lo
 have h2:b≤a:=L.hi
 have h3:a≤c:=L.ac
 have h4:b*b≤a*a:=by
  have e1:(b.natAbs:Int)*b.natAbs=b*b:=Int.natAbs_mul_self' b
  have:=Int.mul_le_mul (show (b.natAbs:Int)≤a by omega) (show (b.natAbs:Int)≤a by omega) (by omega) (by omega)
  omega
 have h5:a*a≤a*c:=Int.mul_le_mul_of_nonneg_left h3 (by omega)
 have h6:1*c≤a*c:=Int.mul_le_mul_of_nonneg_right (by omega) (by omega)
 have hm:meas (a,b,c)=b*b - 4*(a*c):=by simp only [meas];grind
 have hc:Bt n c:=by unfold Bt at *;rw [hm] at h;omega
 refine ⟨?_,?_,hc⟩
 ·show Bt n a
  unfold Bt at *;omega
 ·show Bt n b
  unfold Bt at *;omega
noncomputable def oft (f:I3):Int:=(f.1 - f.2.1).fdiv (2*f.1)
noncomputable def DQ (f:I3):I4:=if oft f≠0 then (1,oft f,0,1) else (0,-1,1,0)
theorem Te {f:I3}:det (DQ f)=1:=by
 unfold DQ
 split <;> simp [det]
theorem Wy {a b c k:Int}:mov (a,b,c) (1,k,0,1)=(a,b+2*a*k,a*k*k+b*k+c):=by
 simp only [mov,val,mid,Prod.mk.injEq]
 refine ⟨?_,?_,?_⟩ <;> grind
theorem U8 {a b c:Int}:mov (a,b,c) (0,-1,1,0)=(c,-b,a):=by
 simp only [mov,val,mid,Prod.mk.injEq]
 refine ⟨?_,?_,?_⟩ <;> grind
theorem KD {a b:Int} (h:0 < a):-a < b+2*a*((a - b).fdiv (2*a))∧b+2*a*((a - b).fdiv (2*a))≤a:=by
 rw [Int.fdiv_eq_ediv_of_nonneg _ (by omega)]
 have h1:=Int.lt_mul_ediv_self_add (x:=a - b) (show 0 < 2*a by omega)
 have h2:=Int.mul_ediv_self_le (x:=a - b) (k:=2*a) (by omega)
 omega
theorem Vl {a b:Int} (h:0 < a) (z:(a - b).fdiv (2*a)=0):-a < b∧b≤a:=by
 have:=KD (b:=b) h
 rw [z] at this
 omega
noncomputable def msr (f:I3):Nat:=4*f.1.toNat+(if -f.1 < f.2.1∧f.2.1≤f.1 then 0 else 2)+(if f.2.1 < 0 then 1 else 0)
theorem Tn {f:I3} (h:Cd f):0 < f.2.2:=by
 obtain ⟨a,b,c⟩:=f
 obtain ⟨h0,h1⟩:=h
 simp only [meas] at h0 h1 ⊢
 rcases Int.lt_or_le 0 c with h | h
 ·exact h
 ·exfalso
  have h2:0≤b*b:=sq_nonneg b
  have h3:a*c≤a*0:=Int.mul_le_mul_of_nonneg_left h (by omega)
  have e:4*a*c=4*(a*c):=by grind
  omega
theorem AaB {f:I3} {t:I4} (h:Cd f) (d:det t=1):Cd (mov f t):=by
 have hm:=Br (f:=f) d
 refine ⟨?_,by rw [hm];exact h.2⟩
 obtain ⟨a,b,c⟩:=f
 obtain ⟨p,q,r,s⟩:=t
 obtain ⟨h0,h1⟩:=h
 show 0 < val (a,b,c) (p,r)
 simp only [meas] at h0 h1
 have e:4*(a*val (a,b,c) (p,r))=(2*a*p+b*r)*(2*a*p+b*r) - (b*b - 4*a*c)*(r*r):=by simp only [val];grind
 have z1:=sq_nonneg (2*a*p+b*r)
 have z2:0≤(4*a*c - b*b)*(r*r):=Int.mul_nonneg (by omega) (sq_nonneg r)
 have e2:(4*a*c - b*b)*(r*r)=-((b*b - 4*a*c)*(r*r)):=by grind
 rcases Int.lt_or_le 0 (val (a,b,c) (p,r)) with h | h
 ·exact h
 ·exfalso
  have z3:a*val (a,b,c) (p,r)≤a*0:=Int.mul_le_mul_of_nonneg_left h (by omega)
  have hr:r*r=0:=by
   by_cases hr:r=0
   ·rw [hr];rfl
   ·exfalso
    have:=Int.mul_le_mul (show 1≤4*a*c - b*b by omega) (sq_pos hr) (by omega) (by omega)
    omega
  have hr0:r=0:=by
   by_cases hr0:r=0
   ·exact hr0
   ·have:=sq_pos hr0;omega
  subst hr0
  have hp:p≠0:=fun hp=>by subst hp;simp [det] at d
  have hp1:=sq_pos hp
  have e3:val (a,b,c) (p,0)=a*(p*p):=Lx
  rw [e3] at h
  have:=Int.mul_le_mul_of_nonneg_left hp1 (show 0≤a by omega)
  omega
theorem Aak {f:I3} (h:Cd f) (s:stands f=false):msr (mov f (DQ f)) < msr f:=by
 obtain ⟨a,b,c⟩:=f
 have ha:0 < a:=h.1
 have hc:0 < c:=Tn h
 unfold DQ
 by_cases ho:oft (a,b,c)=0
 ·rw [if_neg (by simpa using ho),U8]
  have ⟨h1,h2⟩:-a < b∧b≤a:=Vl ha ho
  have hs:c < a∨(a=c∧b < 0):=by
   simp only [stands,Bool.and_eq_false_iff,Bool.or_eq_false_iff,decide_eq_false_iff_not] at s
   omega
  unfold msr
  simp only
  rw [if_pos (show -a < b∧b≤a from ⟨h1,h2⟩)]
  rcases hs with hs | ⟨hs,hb⟩
  ·split <;> split <;> split <;> omega
  ·subst hs
   rw [if_pos (show -a < -b∧-b≤a by omega),if_pos hb,if_neg (by omega)]
   omega
 ·rw [if_pos ho,Wy]
  have ⟨h1,h2⟩:=KD (b:=b) ha
  have hn:¬ (-a < b∧b≤a):=fun z=>ho (by
   show (a - b).fdiv (2*a)=0
   rw [Int.fdiv_eq_ediv_of_nonneg _ (by omega)]
   exact Int.ediv_eq_zero_of_lt (by omega) (by omega))
  unfold msr
  simp only
  show 4*a.toNat+(if -a < b+2*a*((a - b).fdiv (2*a))∧b+2*a*((a - b).fdiv (2*a))≤a then 0 else 2)+(if b+2*a*((a - b).fdiv (2*a)) < 0 then 1 else 0) < _
  rw [if_pos ⟨h1,h2⟩,if_neg hn]
  split <;> split <;> omega
theorem Aa1 {f:I3} {n:Nat} (h:Cd f) (s:stands f=false) (b1:Bt n f.1) (b2:Bt n f.2.1):Bt n (mov f (DQ f)).1∧Bt n (mov f (DQ f)).2.1:=by
 obtain ⟨a,b,c⟩:=f
 have ha:0 < a:=h.1
 have hc:0 < c:=Tn h
 have b1:Bt n a:=b1
 have b2:Bt n b:=b2
 unfold DQ
 by_cases ho:oft (a,b,c)=0
 ·rw [if_neg (by simpa using ho),U8]
  have ⟨h1,h2⟩:-a < b∧b≤a:=Vl ha ho
  have hs:c≤a:=by
   simp only [stands,Bool.and_eq_false_iff,Bool.or_eq_false_iff,decide_eq_false_iff_not] at s
   omega
  refine ⟨?_,b2.neg⟩
  show Bt n c
  unfold Bt at *;omega
 ·rw [if_pos ho,Wy]
  have ⟨h1,h2⟩:=KD (b:=b) ha
  refine ⟨b1,?_⟩
  show Bt n (b+2*a*((a - b).fdiv (2*a)))
  unfold Bt at *;omega
theorem Adj {f:I3} {n m:Nat} (h:Cd f) (b1:Bt n f.1) (b2:Bt n f.2.1) (hm:Bt m (meas f)):B3 (n+n+m+1) f:=by
 obtain ⟨a,b,c⟩:=f
 have ha:0 < a:=h.1
 have hc:0 < c:=Tn h
 refine ⟨b1.le (by omega),b2.le (by omega),?_⟩
 have z:=(b2.mul b2).sub hm
 have e:b*b - meas (a,b,c)=4*(a*c):=by simp only [meas];grind
 have z1:1*c≤a*c:=Int.mul_le_mul_of_nonneg_right (by omega) (by omega)
 have z':Bt (max (n+n) m+1) (4*(a*c)):=by rw [←e];exact z
 have z2:Bt (max (n+n) m+1) c:=by unfold Bt at *;omega
 exact z2.le (by omega)
theorem Af0 {n:Nat} {x:Int} (h:x*x < 2 ^ (2*n)):Bt n x:=by
 unfold Bt
 rcases Nat.lt_or_ge x.natAbs (2 ^ n) with z | z
 ·exact z
 ·exfalso
  have:=Nat.mul_le_mul z z
  rw [←Nat.pow_add,show n+n=2*n by omega] at this
  have e1:(x.natAbs:Int)*x.natAbs=x*x:=Int.natAbs_mul_self' x
  have:((2 ^ (2*n):Nat):Int)≤(x.natAbs:Int)*x.natAbs:=by exact_mod_cast this
  rw [e1] at this
  push_cast at this
  omega
theorem Wd {f:I3} {n m k:Nat} {x y:Int} (h:Cd f) (hb:B3 n f) (hv:Bt m (val f (x,y))) (hk:n+m+2≤2*k):B2 k (x,y):=by
 obtain ⟨a,b,c⟩:=f
 have ha:0 < a:=h.1
 have hc:0 < c:=Tn h
 have hm:b*b - 4*a*c < 0:=h.2
 obtain ⟨h1,h2,h3⟩:=hb
 have h4:Bt 3 4:=Bt.of_abs (by decide)
 have e1:4*(a*val (a,b,c) (x,y))=(2*a*x+b*y)*(2*a*x+b*y)+(4*a*c - b*b)*(y*y):=by simp only [val];grind
 have e2:4*(c*val (a,b,c) (x,y))=(2*c*y+b*x)*(2*c*y+b*x)+(4*a*c - b*b)*(x*x):=by simp only [val];grind
 have k1:y*y≤4*(a*val (a,b,c) (x,y)):=by
  have z1:=sq_nonneg (2*a*x+b*y)
  have z2:=Int.mul_le_mul_of_nonneg_right (show 1≤4*a*c - b*b by omega) (sq_nonneg y)
  omega
 have k2:x*x≤4*(c*val (a,b,c) (x,y)):=by
  have z1:=sq_nonneg (2*c*y+b*x)
  have z2:=Int.mul_le_mul_of_nonneg_right (show 1≤4*a*c - b*b by omega) (sq_nonneg x)
  omega
 have up:∀ {z w:Int},Bt n z→w≤4*(z*val (a,b,c) (x,y))→w < 2 ^ (2*k):=fun {z w} hz hw=>by
  have h5:=hz.mul hv
  have h6:Bt (n+m) (z*val (a,b,c) (x,y)):=h5
  have h7:(4:Int)*2 ^ (n+m)≤2 ^ (2*k):=by
   have:(4:Int)*2 ^ (n+m)=2 ^ (n+m+2):=by rw [show n+m+2=(n+m)+1+1 from rfl,Int.pow_succ,Int.pow_succ];omega
   rw [this]
   have:=Nat.pow_le_pow_right (show 0 < 2 by decide) hk
   exact_mod_cast this
  unfold Bt at h6
  have h8:z*val (a,b,c) (x,y) < 2 ^ (n+m):=by
   have:((z*val (a,b,c) (x,y)).natAbs:Int) < ((2 ^ (n+m):Nat):Int):=by exact_mod_cast h6
   push_cast at this
   omega
  omega
 exact ⟨Af0 (up h3 k2),Af0 (up h1 k1)⟩
theorem Zk {f:I3} {t:I4} {n m k:Nat} (h:Cd f) (hb:B3 n f) (hg:B3 m (mov f t)) (hk:n+m+2≤2*k):B4 k t:=by
 have p1:=Wd (x:=t.1) (y:=t.2.2.1) h hb hg.1 hk
 have p2:=Wd (x:=t.2.1) (y:=t.2.2.2) h hb hg.2.2 hk
 exact ⟨p1.1,p2.1,p1.2,p2.2⟩
theorem Qn {f:I3} (h:oft f=0):DQ f=(0,-1,1,0):=by unfold DQ;rw [if_neg (by simpa using h)]
theorem Rt {f:I3} (h:¬ oft f=0):DQ f=(1,oft f,0,1):=by unfold DQ;rw [if_pos h]
theorem Acn {f:I3} {n:Nat} (h:0 < f.1) (b1:Bt n f.1) (b2:Bt n f.2.1):B4 (n+1) (DQ f):=by
 obtain ⟨a,b,c⟩:=f
 have h:0 < a:=h
 have b1:Bt n a:=b1
 have b2:Bt n b:=b2
 have one:Bt (n+1) 1:=Bt.one.le (by omega)
 by_cases ho:oft (a,b,c)=0
 ·rw [Qn ho]
  exact ⟨Bt.zero.le (by omega),one.neg,one,Bt.zero.le (by omega)⟩
 ·rw [Rt ho]
  refine ⟨one,?_,Bt.zero.le (by omega),one⟩
  have ⟨h1,h2⟩:=KD (b:=b) h
  show Bt (n+1) ((a - b).fdiv (2*a))
  generalize (a - b).fdiv (2*a)=k at *
  have e:2*a*k=2*(a*k):=by grind
  have z:(k.natAbs:Int)≤((a*k).natAbs:Int):=by
   rw [Int.natAbs_mul]
   have:=Nat.mul_le_mul_right k.natAbs (show 1≤a.natAbs by omega)
   omega
  unfold Bt at *
  rw [Nat.pow_succ]
  omega
end My
namespace My
open PySem L2
structure Sad (f:I3):Prop where
 no:¬ Jy (meas f)
 pos:0 < meas f
 most:meas f≤4000
noncomputable def Level (f:I3) (far:Int):Prop:=(0 < f.2.1∧f.2.1≤far)∧far - f.2.1 < 2*(if f.1 < 0 then -f.1 else f.1)∧2*(if f.1 < 0 then -f.1 else f.1)≤far+f.2.1
instance {f:I3} {far:Int}:Decidable (Level f far):=by unfold Level;infer_instance
theorem Sad.mov {f:I3} {t:I4} (h:Sad f) (d:det t=1):Sad (mov f t):=by
 have e:=Br (f:=f) d
 exact ⟨by rw [e];exact h.no,by rw [e];exact h.pos,by rw [e];exact h.most⟩
end My
namespace My
open PySem L2
noncomputable abbrev ab (x:Int):Int:=if x < 0 then -x else x
theorem Ar (x:Int):(0≤x∧ab x=x)∨(x < 0∧ab x=-x):=by
 rcases Int.lt_or_le x 0 with h | h
 ·exact .inr ⟨h,if_pos h⟩
 ·exact .inl ⟨h,if_neg (by omega)⟩
theorem Bh (x:Int):0≤ab x:=by rcases Ar x with ⟨h,e⟩ | ⟨h,e⟩ <;> omega
theorem Aa0 {n:Nat} {x:Int} (h:Bt n x):Bt n (ab x):=by
 rcases Ar x with ⟨_,e⟩ | ⟨_,e⟩ <;> rw [e]
 ·exact h
 ·exact h.neg
theorem JZ {n:Nat} {x y:Int} (h:Bt n y) (l:ab x≤ab y):Bt n x:=by
 unfold Bt at *
 rcases Ar x with ⟨_,e⟩ | ⟨_,e⟩ <;> rcases Ar y with ⟨_,e'⟩ | ⟨_,e'⟩ <;> omega
theorem RW {n:Nat} {x k:Int} (l:ab x≤k) (hk:k < 2 ^ n):Bt n x:=by
 rcases Ar x with ⟨_,e⟩ | ⟨_,e⟩ <;> exact Bt.of (by omega) (by omega)
noncomputable def dB (f:I3) (top:Int):Int:=top - (top+f.2.1).fmod (2*ab f.2.2)
noncomputable def kB (f:I3) (top:Int):Int:=(f.2.1+dB f top).fdiv (2*f.2.2)
noncomputable def Ce (f:I3) (top:Int):I4:=(0,-1,1,kB f top)
theorem Cy {f:I3} {top:Int}:det (Ce f top)=1:=by simp [det,Ce]
theorem MK {f:I3} {top:Int} (h:f.2.2≠0):top - 2*ab f.2.2 < dB f top∧dB f top≤top:=by
 have hc:0 < 2*ab f.2.2:=by rcases Ar f.2.2 with ⟨_,e⟩ | ⟨_,e⟩ <;> omega
 have:=Mq (top+f.2.1) hc
 unfold dB
 omega
theorem Iv {f:I3} {top:Int} (h:f.2.2≠0):2*f.2.2*kB f top=f.2.1+dB f top:=by
 unfold kB dB
 have e:=Int.fmod_def (top+f.2.1) (2*ab f.2.2)
 generalize (top+f.2.1).fdiv (2*ab f.2.2)=q at *
 have e1:f.2.1+(top - (top+f.2.1).fmod (2*ab f.2.2))=2*ab f.2.2*q:=by omega
 rw [e1]
 rcases Ar f.2.2 with ⟨_,e2⟩ | ⟨_,e2⟩
 ·rw [e2,Int.mul_fdiv_cancel_left _ (by omega)]
 ·have e3:2*ab f.2.2*q=2*f.2.2*(-q):=by rw [e2];grind
  rw [e3,Int.mul_fdiv_cancel_left _ (by omega)]
theorem PJ {f:I3} {top:Int} (h:f.2.2≠0):∃ e,mov f (Ce f top)=(f.2.2,dB f top,e):=by
 have hk:=Iv (top:=top) h
 obtain ⟨a,b,c⟩:=f
 refine ⟨(mov (a,b,c) (Ce (a,b,c) top)).2.2,?_⟩
 have e1:(mov (a,b,c) (Ce (a,b,c) top)).1=c:=by simp only [mov,val,Ce];grind
 have e2:(mov (a,b,c) (Ce (a,b,c) top)).2.1=dB (a,b,c) top:=by
  simp only [mov,mid,Ce]
  simp only at hk
  generalize kB (a,b,c) top=k at *
  have:2*a*0 * -1+b*(0*k + -1*1)+2*c*1*k=2*c*k - b:=by grind
  omega
 ext1
 ·exact e1
 ·ext1
  ·exact e2
  ·rfl
theorem Xh {D far:Int} (r:Sq D far) (n:¬ Jy D):far*far < D:=by
 rcases Int.lt_or_le (far*far) D with h | h
 ·exact h
 ·exact absurd ⟨far,by have:=r.2.1;omega⟩ n
theorem U5 {D far:Int} (r:Sq D far) (m:D≤4000):far≤63:=by
 rcases Int.lt_or_le far 64 with h | h
 ·omega
 ·have:=Int.mul_le_mul h h (by decide) r.1
  have:=r.2.1
  omega
theorem G3 {f:I3} (S:Sad f):f.2.2≠0:=fun h=>S.no ⟨f.2.1,by
 obtain ⟨a,b,c⟩:=f
 simp only at h
 subst h
 simp only [meas]
 omega⟩
theorem JM {f:I3} (S:Sad f):f.1≠0:=fun h=>S.no ⟨f.2.1,by
 obtain ⟨a,b,c⟩:=f
 simp only at h
 subst h
 simp only [meas]
 omega⟩
theorem GQ (x y:Int):ab x*ab y=ab (x*y):=by
 rcases Ar x with ⟨h1,e1⟩ | ⟨h1,e1⟩ <;> rcases Ar y with ⟨h2,e2⟩ | ⟨h2,e2⟩ <;> rw [e1,e2]
 ·have:=Int.mul_nonneg h1 h2
  exact (if_neg (by omega)).symm
 ·have:=Int.mul_nonneg h1 (show 0≤-y by omega)
  have e:x * -y=-(x*y):=by grind
  by_cases h:x*y < 0
  ·rw [ab,if_pos h,e]
  ·rw [ab,if_neg h];omega
 ·have:=Int.mul_nonneg (show 0≤-x by omega) h2
  have e:-x*y=-(x*y):=by grind
  by_cases h:x*y < 0
  ·rw [ab,if_pos h,e]
  ·rw [ab,if_neg h];omega
 ·have:=Int.mul_nonneg (show 0≤-x by omega) (show 0≤-y by omega)
  have e:-x * -y=x*y:=by grind
  rw [ab,if_neg (by omega),e]
theorem Kf {x k:Int} (h:ab x≤k):x*x≤k*k:=by
 have e:x*x=ab x*ab x:=by
  rcases Ar x with ⟨_,e⟩ | ⟨_,e⟩ <;> rw [e]
  grind
 rw [e]
 have:=Bh x
 exact Int.mul_le_mul h h this (by omega)
theorem last_eq {c d e D:Int} (h:meas (c,d,e)=D):4*(ab c*ab e)=ab (d*d - D):=by
 have:d*d - D=4*(c*e):=by rw [←h];simp only [meas];grind
 rw [this,GQ]
 rcases Ar (c*e) with ⟨h1,e1⟩ | ⟨h1,e1⟩
 ·rw [e1,ab,if_neg (by omega)]
 ·rw [e1,ab,if_pos (by omega)];omega
theorem Ac9 {c d e D far:Int} (r:Sq D far) (D0:0 < D) (h:meas (c,d,e)=D) (hc:far < ab c) (h1:-ab c < d) (h2:d≤ab c):4*ab e≤ab c:=by
 have k:=last_eq h
 have hd:d*d≤ab c*ab c:=by
  refine Kf ?_
  rcases Ar d with ⟨_,e1⟩ | ⟨_,e1⟩ <;> omega
 have hD:D≤ab c*ab c:=by
  have:=Int.mul_le_mul (show far+1≤ab c by omega) (show far+1≤ab c by omega) (by have:=r.1;omega) (Bh c)
  have:=r.2.2
  omega
 have h0:=sq_nonneg d
 have:ab (d*d - D)≤ab c*ab c:=by
  rcases Ar (d*d - D) with ⟨_,e1⟩ | ⟨_,e1⟩ <;> omega
 have hc0:0 < ab c:=by have:=r.1;omega
 rcases Int.lt_or_le (ab c) (4*ab e) with z | z
 ·exfalso
  have:=Int.mul_lt_mul_of_pos_left z hc0
  have e2:ab c*(4*ab e)=4*(ab c*ab e):=by grind
  omega
 ·exact z
theorem Acz {c d e D far:Int} (r:Sq D far) (n:¬ Jy D) (h:meas (c,d,e)=D) (hc:ab c≤far) (hc2:far < 2*ab c) (h1:far - 2*ab c < d) (h2:d≤far):2*ab e≤far:=by
 have k:=last_eq h
 have hf:=Xh r n
 have hd:d*d≤far*far:=by
  refine Kf ?_
  rcases Ar d with ⟨_,e1⟩ | ⟨_,e1⟩ <;> omega
 have h0:=sq_nonneg d
 have hD:=r.2.2
 have:ab (d*d - D) < (far+1)*(far+1):=by
  rcases Ar (d*d - D) with ⟨_,e1⟩ | ⟨_,e1⟩ <;> omega
 rcases Int.lt_or_le far (2*ab e) with z | z
 ·exfalso
  have:=Int.mul_le_mul (show far+1≤2*ab c by omega) (show far+1≤2*ab e by omega) (by have:=r.1;omega) (by have:=Bh c;omega)
  have e2:2*ab c*(2*ab e)=4*(ab c*ab e):=by grind
  omega
 ·exact z
theorem Y0 {c d e far:Int} (hc:2*ab c≤far) (h1:far - 2*ab c < d) (h2:d≤far):Level (c,d,e) far:=by
 refine ⟨⟨?_,h2⟩,?_,?_⟩
 ·show 0 < d;omega
 ·show far - d < 2*ab c;omega
 ·show 2*ab c≤far+d;omega
theorem Xd {c d e D far:Int} (r:Sq D far) (hm:D≤4000) (D0:0 < D) (h:meas (c,d,e)=D) (c0:c≠0) (hd:ab d≤far):ab e≤1000:=by
 have k:=last_eq h
 have h2:d*d≤far*far:=Kf hd
 have h0:=sq_nonneg d
 have h3:=r.2.1
 have:ab (d*d - D)≤4000:=by
  rcases Ar (d*d - D) with ⟨_,e1⟩ | ⟨_,e1⟩ <;> omega
 have hc:1≤ab c:=by rcases Ar c with ⟨_,e1⟩ | ⟨_,e1⟩ <;> omega
 have:=Int.mul_le_mul_of_nonneg_right hc (Bh e)
 omega
theorem Jr {f:I3} {far:Int} (r:Sq (meas f) far) (n:¬ Jy (meas f)) (L:Level f far):far - f.2.1 < 2*ab f.2.2∧2*ab f.2.2≤far+f.2.1:=by
 obtain ⟨a,b,c⟩:=f
 obtain ⟨⟨l1,l2⟩,l3,l4⟩:=L
 have l1:0 < b:=l1
 have l2:b≤far:=l2
 have l3:far - b < 2*ab a:=l3
 have l4:2*ab a≤far+b:=l4
 show far - b < 2*ab c∧2*ab c≤far+b
 have hf:=Xh r n
 have hD:=r.2.2
 have k:4*(ab a*ab c)=ab (b*b - meas (a,b,c)):=last_eq (c:=a) (d:=b) (e:=c) rfl
 generalize meas (a,b,c)=D at *
 have hb:b*b≤far*far:=Int.mul_le_mul l2 l2 (by omega) (by omega)
 have k2:(2*ab a)*(2*ab c)=D - b*b:=by
  have e1:(2*ab a)*(2*ab c)=4*(ab a*ab c):=by grind
  rcases Ar (b*b - D) with ⟨_,e⟩ | ⟨_,e⟩ <;> omega
 generalize 2*ab a=A at *
 have hC0:0≤2*ab c:=by have:=Bh c;omega
 generalize 2*ab c=C at *
 constructor
 ·rcases Int.lt_or_le (far - b) C with z | z
  ·exact z
  ·exfalso
   have z1:A*C≤(far+b)*(far - b):=Int.mul_le_mul l4 z hC0 (by omega)
   have e1:(far+b)*(far - b)=far*far - b*b:=by grind
   omega
 ·rcases Int.lt_or_le (far+b) C with z | z
  ·exfalso
   have z1:(far - b+1)*(far+b+1)≤A*C:=Int.mul_le_mul (by omega) (by omega) (by omega) (by omega)
   have e1:(far - b+1)*(far+b+1)=(far+1)*(far+1) - b*b:=by grind
   omega
  ·exact z
theorem Xo {f:I3} {far:Int} (S:Sad f) (r:Sq (meas f) far) (L:Level f far):Level (mov f (Ce f far)) far:=by
 have hc:=G3 S
 obtain ⟨e,he⟩:=PJ (top:=far) hc
 rw [he]
 have ⟨d1,d2⟩:=MK (top:=far) hc
 have ⟨c1,c2⟩:=Jr r S.no L
 obtain ⟨⟨l1,l2⟩,_,_⟩:=L
 have hk:=Iv (top:=far) hc
 have d3:far - 2*ab f.2.2 < dB f far:=d1
 by_cases hC:2*ab f.2.2≤far
 ·exact Y0 hC d1 d2
 ·
  have hd:dB f far=2*ab f.2.2 - f.2.1:=by
   have e1:f.2.1+dB f far=2*(f.2.2*kB f far):=by rw [←hk];grind
   have hx:ab (f.2.2*kB f far)=ab f.2.2*ab (kB f far):=(GQ _ _).symm
   have hpos:0 < f.2.2*kB f far:=by omega
   have hx2:f.2.2*kB f far=ab f.2.2*ab (kB f far):=by rw [←hx,ab,if_neg (by omega)]
   have hk0:0 < ab (kB f far):=by
    rcases Int.lt_or_le 0 (ab (kB f far)) with z | z
    ·exact z
    ·have:ab (kB f far)=0:=by have:=Bh (kB f far);omega
     rw [this] at hx2
     omega
   have hk1:ab (kB f far)=1:=by
    rcases Int.lt_or_le (ab (kB f far)) 2 with z | z
    ·omega
    ·exfalso
     have:=Int.mul_le_mul_of_nonneg_left z (Bh f.2.2)
     omega
   rw [hk1] at hx2
   omega
  refine ⟨⟨?_,d2⟩,?_,?_⟩
  ·show 0 < dB f far;omega
  ·show far - dB f far < 2*ab f.2.2;omega
  ·show 2*ab f.2.2≤far+dB f far;omega
theorem Ni {f:I3} {far:Int} (S:Sad f) (r:Sq (meas f) far) (L:Level f far):B3 7 f:=by
 have ⟨c1,c2⟩:=Jr r S.no L
 have h6:=U5 r S.most
 obtain ⟨⟨l1,l2⟩,l3,l4⟩:=L
 have l4:2*ab f.1≤far+f.2.1:=l4
 exact ⟨RW (k:=63) (by omega) (by decide),Bt.of (by omega) (by omega),RW (k:=63) (by omega) (by decide)⟩
end My
namespace My
open PySem L2
noncomputable abbrev bl (x:Int):Nat:=Builtin.Int.intBits x
theorem YB {x:Int}:Bt (bl x) x:=intBits_le_iff.mp (Nat.le_refl _)
theorem Zc {n:Nat} {x:Int} (h:Bt n x):bl x≤n:=intBits_le_iff.mpr h
theorem W6 {x:Int} (h:x≠0):1≤bl x:=by
 rcases Nat.lt_or_ge 0 (bl x) with z | z
 ·exact z
 ·have:=YB (x:=x)
  unfold Bt at this
  rw [show bl x=0 by omega] at this
  omega
theorem Aaw {x:Int} (h:x≠0):2 ^ (bl x - 1)≤x.natAbs:=by
 rcases Nat.lt_or_ge x.natAbs (2 ^ (bl x - 1)) with z | z
 ·have:=Zc (n:=bl x - 1) z
  have:=W6 h
  omega
 ·exact z
theorem Aae {x y:Int} (h:4*ab x≤ab y) (hy:y≠0):bl x+2≤bl y∨x=0:=by
 by_cases hx:x=0
 ·exact .inr hx
 ·refine .inl ?_
  have h1:=Aaw hx
  have h2:=YB (x:=y)
  unfold Bt at h2
  have p:=W6 hx
  rcases Nat.lt_or_ge (bl y) (bl x+2) with z | z
  ·exfalso
   have h3:2 ^ bl y≤2 ^ (bl x - 1+2):=Nat.pow_le_pow_right (by decide) (by omega)
   rw [Nat.pow_add] at h3
   have h4:4*x.natAbs≤y.natAbs:=by
    rcases Ar x with ⟨_,e⟩ | ⟨_,e⟩ <;> rcases Ar y with ⟨_,e'⟩ | ⟨_,e'⟩ <;> omega
   omega
  ·exact z
theorem Vo {b c d k:Int} {x:Nat} (hc:c≠0) (hb:Bt x b) (hx:bl c≤x) (hd:ab d≤ab c) (hk:2*c*k=b+d):Bt (x+1 - bl c) k:=by
 have h1:=Aaw hc
 have h2:=YB (x:=c)
 have hp:=W6 hc
 unfold Bt at *
 have e1:2*(c.natAbs*k.natAbs)=(b+d).natAbs:=by
  rw [←hk,Int.mul_assoc,Int.natAbs_mul,Int.natAbs_mul];rfl
 have e2:(b+d).natAbs < 2 ^ x+2 ^ bl c:=by
  rcases Ar d with ⟨_,e⟩ | ⟨_,e⟩ <;> rcases Ar c with ⟨_,e'⟩ | ⟨_,e'⟩ <;> omega
 have e3:2 ^ bl c≤2 ^ x:=Nat.pow_le_pow_right (by decide) hx
 rcases Nat.lt_or_ge k.natAbs (2 ^ (x+1 - bl c)) with z | z
 ·exact z
 ·exfalso
  have:=Nat.mul_le_mul h1 z
  rw [←Nat.pow_add,show bl c - 1+(x+1 - bl c)=x by omega] at this
  omega
theorem QS {f:I3} {top:Int} {m:Nat} (h:Bt m (kB f top)) (hm:1≤m):B4 m (Ce f top):=⟨Bt.zero.le (by omega),(Bt.one.le hm).neg,Bt.one.le hm,h⟩
noncomputable def Pg (n:Nat) (far:Int) (f0:I3) (t:I4):Prop :=
 det t=1∧B3 n (mov f0 t) ∧
 (if far < ab (mov f0 t).2.2 then ∃ β x,B4 β t∧Bt x (mov f0 t).2.1∧bl (mov f0 t).2.2≤x∧β+x+bl (mov f0 t).2.2≤2*n+1
  else if Level (mov f0 t) far then B4 (5*n+30) t else if far < 2*ab (mov f0 t).2.2 then B4 (3*n+10) t else B4 (4*n+20) t)
noncomputable def eM (far:Int) (f:I3):Nat:=if far < ab f.2.2 then (ab f.2.2).toNat+3 else if Level f far then 0 else if far < 2*ab f.2.2 then 2 else 1
theorem Pg.b4 {n:Nat} {far:Int} {f0:I3} {t:I4} (h:Pg n far f0 t):B4 (5*n+30) t:=by
 obtain ⟨_,_,h⟩:=h
 split at h
 ·obtain ⟨β,x,hb,_,_,_⟩:=h
  exact hb.le (by omega)
 ·split at h
  ·exact h
  ·split at h
   ·exact h.le (by omega)
   ·exact h.le (by omega)
theorem Pg.start {n:Nat} {far:Int} {f:I3} (hn:1≤n) (hf:B3 n f):Pg n far f (1,0,0,1):=by
 have one:B4 1 (1,0,0,1):=⟨Bt.one,Bt.zero.le (by omega),Bt.zero.le (by omega),Bt.one⟩
 unfold Pg
 rw [DY]
 refine ⟨rfl,hf,?_⟩
 split
 ·exact ⟨1,n,one,hf.2.1,Zc hf.2.2,by have:=Zc hf.2.2;omega⟩
 ·split
  ·exact one.le (by omega)
  ·split
   ·exact one.le (by omega)
   ·exact one.le (by omega)
theorem R0 {n:Nat} {far:Int} {f0:I3} {t:I4} (hn:12≤n) (S:Sad f0) (r:Sq (meas f0) far) (I:Pg n far f0 t) (nl:¬ Level (mov f0 t) far) :
  Pg n far f0 (Aj t (Ce (mov f0 t) (if far > ab (mov f0 t).2.2 then far else ab (mov f0 t).2.2))) ∧
  eM far (mov f0 (Aj t (Ce (mov f0 t) (if far > ab (mov f0 t).2.2 then far else ab (mov f0 t).2.2)))) < eM far (mov f0 t) ∧
  B4 (n+3) (Ce (mov f0 t) (if far > ab (mov f0 t).2.2 then far else ab (mov f0 t).2.2)):=by
 have hb4:=I.b4
 obtain ⟨hd,hb,hI⟩:=I
 have Sf:=S.mov hd
 have hm:=Br (f:=f0) hd
 have rf:Sq (meas (mov f0 t)) far:=by rw [hm];exact r
 have f63:=U5 rf Sf.most
 have far0:=r.1
 simp only [Pg,←Bf]
 rw [BP,hd,Cy]
 generalize hf:mov f0 t=f at *
 have hc:=G3 Sf
 have c1:1≤ab f.2.2:=by rcases Ar f.2.2 with ⟨_,e1⟩ | ⟨_,e1⟩ <;> omega
 by_cases h1:far < ab f.2.2
 ·
  rw [if_pos h1] at hI
  obtain ⟨β,x,hβ,hx,hlx,hsum⟩:=hI
  rw [if_neg (show ¬ far > ab f.2.2 by omega)]
  have ⟨d1,d2⟩:=MK (top:=ab f.2.2) hc
  have hk:=Iv (top:=ab f.2.2) hc
  obtain ⟨e,he⟩:=PJ (top:=ab f.2.2) hc
  have hme:meas (f.2.2,dB f (ab f.2.2),e)=meas f:=by rw [←he,Br Cy]
  have hdc:ab (dB f (ab f.2.2))≤ab f.2.2:=by rcases Ar (dB f (ab f.2.2)) with ⟨_,e1⟩ | ⟨_,e1⟩ <;> omega
  have h4:=Ac9 rf Sf.pos hme h1 (by omega) d2
  have kbt:=Vo hc hx hlx hdc hk
  have k1:1≤x+1 - bl f.2.2:=by omega
  have hbeh:=QS kbt k1
  have hxn:bl f.2.2≤n:=Zc hb.2.2
  have hS':=Sf.mov (t:=Ce f (ab f.2.2)) Cy
  rw [he] at hS'
  have he0:e≠0:=G3 hS'
  have hfour:=(Aae h4 hc).resolve_right he0
  have hβ':=B4.then hβ hbeh
  rw [he]
  refine ⟨⟨rfl,⟨hb.2.2,JZ hb.2.2 hdc,JZ hb.2.2 (show ab e≤ab f.2.2 by have:=Bh e;omega)⟩,?_⟩,?_,?_⟩
  ·show if far < ab e then _ else _
   split
   ·refine ⟨_,bl f.2.2,hβ',?_,?_,?_⟩
    ·exact JZ YB hdc
    ·show bl e≤bl f.2.2;omega
    ·show _+bl f.2.2+bl e≤_;omega
   ·split
    ·exact hβ'.le (by omega)
    ·split
     ·exact hβ'.le (by omega)
     ·exact hβ'.le (by omega)
  ·unfold eM
   rw [if_pos h1]
   show (if far < ab e then (ab e).toNat+3 else _) < _
   split
   ·have:=Bh e;omega
   ·split
    ·omega
    ·split <;> omega
  ·
   have:Bt (n+1 - bl f.2.2) (kB f (ab f.2.2)):=Vo hc hb.2.1 hxn hdc hk
   exact (QS this (by omega)).le (by omega)
 ·rw [if_neg h1,if_neg nl] at hI
  have etop:(if far > ab f.2.2 then far else ab f.2.2)=far:=by split <;> omega
  rw [etop]
  have ⟨d1,d2⟩:=MK (top:=far) hc
  have hk:=Iv (top:=far) hc
  obtain ⟨e,he⟩:=PJ (top:=far) hc
  have hme:meas (f.2.2,dB f far,e)=meas f:=by rw [←he,Br Cy]
  have hdf:ab (dB f far)≤far:=by rcases Ar (dB f far) with ⟨_,e1⟩ | ⟨_,e1⟩ <;> omega
  have hel:=Xd rf Sf.most Sf.pos hme hc hdf
  have kb:Bt (n+2) (kB f far):=by
   have e1:2*(ab f.2.2*ab (kB f far))=ab (f.2.1+dB f far):=by
    rw [←hk,GQ]
    have:2*f.2.2*kB f far=2*(f.2.2*kB f far):=by grind
    rw [this]
    rcases Ar (f.2.2*kB f far) with ⟨h1,e1⟩ | ⟨h1,e1⟩
    ·rw [e1,ab,if_neg (by omega)]
    ·rw [e1,ab,if_pos (by omega)];omega
   have e2:=Int.mul_le_mul_of_nonneg_right c1 (Bh (kB f far))
   have e3:Bt (n+1) (f.2.1+dB f far):=by
    have:=(hb.2.1).add (show Bt 7 (dB f far) from RW (k:=63) (by omega) (by decide))
    exact this.le (by omega)
   refine Bt.le (n:=n+1) (JZ e3 ?_) (by omega)
   have:=Bh (kB f far)
   omega
  have hbeh:=QS kb (by omega)
  rw [he]
  have hB:B3 n (f.2.2,dB f far,e):=⟨hb.2.2,Bt.le (n:=7) (RW (k:=63) (show ab (dB f far)≤63 by omega) (by decide)) (by omega),Bt.le (n:=12) (RW (x:=e) hel (by decide)) (by omega)⟩
  by_cases h2:far < 2*ab f.2.2
  ·rw [if_pos h2] at hI
   have hβ':=B4.then hI hbeh
   have hh:=Acz rf Sf.no hme (by omega) h2 (by omega) d2
   have h3:¬ far < ab e:=by have:=Bh e;omega
   refine ⟨⟨rfl,hB,?_⟩,?_,hbeh.le (by omega)⟩
   ·show if far < ab e then _ else _
    rw [if_neg h3]
    split
    ·exact hβ'.le (by omega)
    ·rw [if_neg (show ¬ far < 2*ab (f.2.2,dB f far,e).2.2 by show ¬ far < 2*ab e;omega)]
     exact hβ'.le (by omega)
   ·unfold eM
    rw [if_neg h1,if_neg nl,if_pos h2]
    show (if far < ab e then _ else _) < 2
    rw [if_neg h3]
    split
    ·omega
    ·rw [if_neg (show ¬ far < 2*ab (f.2.2,dB f far,e).2.2 by show ¬ far < 2*ab e;omega)]
     omega
  ·rw [if_neg h2] at hI
   have hβ':=B4.then hI hbeh
   have hL:Level (f.2.2,dB f far,e) far:=Y0 (by omega) d1 d2
   have h3:¬ far < ab e:=by
    have:=(Jr (f:=(f.2.2,dB f far,e)) (by rw [hme];exact rf) (by rw [hme];exact Sf.no) hL).2
    simp only at this
    omega
   refine ⟨⟨rfl,hB,?_⟩,?_,hbeh.le (by omega)⟩
   ·show if far < ab e then _ else _
    rw [if_neg h3,if_pos hL]
    exact hβ'.le (by omega)
   ·unfold eM
    rw [if_neg h1,if_neg nl,if_neg h2]
    show (if far < ab e then _ else _) < 1
    rw [if_neg h3,if_pos hL]
    omega
end My
namespace My
open PySem L2
noncomputable def Riv (f:I3):Prop:=(0 < f.1∧f.2.2 < 0)∧¬ Jy (meas f)
noncomputable abbrev tR:I4:=(1,1,0,1)
noncomputable abbrev tL:I4:=(1,0,1,1)
noncomputable def sm (f:I3):Int:=f.1+f.2.1+f.2.2
theorem AbU {a b c:Int}:mov (a,b,c) tR=(a,b+2*a,a+b+c):=by
 simp only [mov,val,mid,Prod.mk.injEq]
 refine ⟨?_,?_,?_⟩ <;> grind
theorem AcH {a b c:Int}:mov (a,b,c) tL=(a+b+c,b+2*c,c):=by
 simp only [mov,val,mid,Prod.mk.injEq]
 refine ⟨?_,?_,?_⟩ <;> grind
theorem Af9 {f:I3} (n:¬ Jy (meas f)):sm f≠0:=fun h=>n ⟨f.1 - f.2.2,by
 obtain ⟨a,b,c⟩:=f
 simp only [sm,meas] at *
 have:b=-(a+c):=by omega
 subst this
 grind⟩
noncomputable def stT (f:I3):I4:=if sm f < 0 then tR else tL
noncomputable def nx (f:I3):I3:=mov f (stT f)
theorem Ahq {f:I3}:det (stT f)=1:=by unfold stT;split <;> rfl
theorem Riv.next {f:I3} (h:Riv f):Riv (nx f):=by
 have hm:=Br (f:=f) (Ahq (f:=f))
 refine ⟨?_,by unfold nx;rw [hm];exact h.2⟩
 have hs:=Af9 h.2
 obtain ⟨a,b,c⟩:=f
 obtain ⟨⟨h1,h2⟩,_⟩:=h
 by_cases h:sm (a,b,c) < 0
 ·have e:nx (a,b,c)=(a,b+2*a,a+b+c):=by unfold nx;rw [show stT (a,b,c)=tR from if_pos h];exact AbU
  rw [e];exact ⟨h1,h⟩
 ·have e:nx (a,b,c)=(a+b+c,b+2*c,c):=by unfold nx;rw [show stT (a,b,c)=tL from if_neg h];exact AcH
  rw [e]
  refine ⟨?_,h2⟩
  simp only [sm] at h hs ⊢
  omega
structure NN (t:I4):Prop where
 p:1≤t.1
 q:0≤t.2.1
 r:0≤t.2.2.1
 s:1≤t.2.2.2
 d:det t=1
noncomputable def sz (t:I4):Nat:=(t.1+t.2.1+t.2.2.1+t.2.2.2).toNat
theorem NN.split {t:I4} (h:NN t):t=(1,0,0,1)∨(∃ u,NN u∧t=Aj tR u∧sz u < sz t)∨(∃ u,NN u∧t=Aj tL u∧sz u < sz t):=by
 obtain ⟨p,q,r,s⟩:=t
 obtain ⟨hp,hq,hr,hs,hd⟩:=h
 simp only [det] at *
 by_cases c1:r≤p∧s≤q
 ·refine .inr (.inl ⟨(p - r,q - s,r,s),⟨?_,by simp only;omega,hr,hs,?_⟩,?_,?_⟩)
  ·show 1≤p - r
   have e:(p - r)*s - (q - s)*r=1:=by grind
   have z:=Int.mul_nonneg (show 0≤q - s by omega) hr
   rcases Int.lt_or_le (p - r) 1 with w | w
   ·have:(p - r)*s≤0*s:=Int.mul_le_mul_of_nonneg_right (by omega) (by omega)
    omega
   ·exact w
  ·show (p - r)*s - (q - s)*r=1
   grind
  ·simp only [Aj,Prod.mk.injEq]
   refine ⟨?_,?_,?_,?_⟩ <;> omega
  ·simp only [sz];omega
 ·by_cases c2:p≤r∧q≤s
  ·refine .inr (.inr ⟨(p,q,r - p,s - q),⟨hp,hq,by simp only;omega,?_,?_⟩,?_,?_⟩)
   ·show 1≤s - q
    have e:p*(s - q) - q*(r - p)=1:=by grind
    have z:=Int.mul_nonneg hq (show 0≤r - p by omega)
    rcases Int.lt_or_le (s - q) 1 with w | w
    ·have:p*(s - q)≤p*0:=Int.mul_le_mul_of_nonneg_left (by omega) (by omega)
     omega
    ·exact w
   ·show p*(s - q) - q*(r - p)=1
    grind
   ·simp only [Aj,Prod.mk.injEq]
    refine ⟨?_,?_,?_,?_⟩ <;> omega
   ·simp only [sz];omega
  ·rcases Int.lt_or_le r p with w | w
   ·
    have w2:q < s:=by omega
    have z:=Int.mul_le_mul (show r+1≤p by omega) (show q+1≤s by omega) (by omega) (by omega)
    have e:(r+1)*(q+1)=r*q+r+q+1:=by grind
    have e2:r*q=q*r:=Int.mul_comm r q
    have r0:r=0:=by omega
    have q0:q=0:=by omega
    subst r0 q0
    left
    have hps:p*s=1:=by omega
    have p1:p=1:=by
     rcases Int.lt_or_le p 2 with v | v
     ·omega
     ·have:=Int.mul_le_mul v hs (by decide) (by omega)
      omega
    subst p1
    have:s=1:=by omega
    rw [this]
   ·
    have w2:s < q:=by omega
    have w3:p < r:=by
     rcases Int.lt_or_le p r with v | v
     ·exact v
     ·have:p=r:=by omega
      subst this
      exfalso
      have e:p*s - q*p=p*(s - q):=by grind
      have:=Int.mul_le_mul_of_nonneg_left (show s - q≤-1 by omega) (show 0≤p by omega)
      omega
    exfalso
    have z:=Int.mul_le_mul (show p≤r - 1 by omega) (show s≤q - 1 by omega) (by omega) (by omega)
    have e:(r - 1)*(q - 1)=q*r - r - q+1:=by grind
    omega
noncomputable def wd:Nat→I3→I4
 | 0,_=>(1,0,0,1)
 | n+1,f=>Aj (stT f) (wd n (nx f))
noncomputable def nxs:Nat→I3→I3
 | 0,f=>f
 | n+1,f=>nxs n (nx f)
theorem Jo {t:I4}:Aj (1,0,0,1) t=t:=by
 obtain ⟨p,q,r,s⟩:=t
 simp only [Aj,Prod.mk.injEq]
 refine ⟨?_,?_,?_,?_⟩ <;> omega
theorem Eb {t:I4}:Aj t (1,0,0,1)=t:=by
 obtain ⟨p,q,r,s⟩:=t
 simp only [Aj,Prod.mk.injEq]
 refine ⟨?_,?_,?_,?_⟩ <;> omega
theorem then_assoc {t u v:I4}:Aj (Aj t u) v=Aj t (Aj u v):=by
 obtain ⟨a,b,c,d⟩:=t;obtain ⟨e,f,g,h⟩:=u;obtain ⟨i,j,k,l⟩:=v
 simp only [Aj,Prod.mk.injEq]
 refine ⟨?_,?_,?_,?_⟩ <;> grind
theorem Ld:∀ (n:Nat) (f:I3),mov f (wd n f)=nxs n f
 | 0,f=>DY
 | n+1,f=>by rw [wd,←Bf];exact Ld n (nx f)
theorem YD {a b c x y:Int} (ha:0 < a) (hb:0 < b) (hc:0 < c) (hx:0≤x) (hy:0≤y):0≤val (a,b,c) (x,y):=by
 have e:val (a,b,c) (x,y)=a*(x*x)+b*(x*y)+c*(y*y):=by simp only [val];grind
 have h1:=Int.mul_nonneg (show 0≤a by omega) (Int.mul_nonneg hx hx)
 have h2:=Int.mul_nonneg (show 0≤b by omega) (Int.mul_nonneg hx hy)
 have h3:=Int.mul_nonneg (show 0≤c by omega) (Int.mul_nonneg hy hy)
 omega
theorem neg_val {a b c x y:Int} (ha:a < 0) (hb:b < 0) (hc:c < 0) (hx:0≤x) (hy:0≤y):val (a,b,c) (x,y)≤0:=by
 have:=YD (a:=-a) (b:=-b) (c:=-c) (by omega) (by omega) (by omega) hx hy
 have e:val (-a,-b,-c) (x,y)=-val (a,b,c) (x,y):=by simp only [val];grind
 omega
theorem along:∀ (m:Nat) (f:I3) (t:I4),sz t≤m→Riv f→NN t→Riv (mov f t)→∃ n,t=wd n f:=by
 intro m
 induction m with
 | zero =>
  intro f t hs _ hN _
  exfalso
  have:=hN.p;have:=hN.q;have:=hN.r;have:=hN.s
  unfold sz at hs
  omega
 | succ m ih =>
  intro f t hs hf hN hg
  rcases hN.split with e | ⟨u,hu,e,hl⟩ | ⟨u,hu,e,hl⟩
  ·exact ⟨0,e⟩
  ·have hsm:sm f < 0:=by
    have hne:=Af9 hf.2
    rcases Int.lt_or_le (sm f) 0 with z | z
    ·exact z
    ·exfalso
     rw [e,←Bf] at hg
     obtain ⟨a,b,c⟩:=f
     obtain ⟨p,q,r,s⟩:=u
     rw [AbU] at hg
     have h1:(mov (a,b+2*a,a+b+c) (p,q,r,s)).2.2 < 0:=hg.1.2
     have h2:0 < a:=hf.1.1
     have h3:c < 0:=hf.1.2
     simp only [sm] at hne z
     have h4:0≤val (a,b+2*a,a+b+c) (q,s):=YD h2 (by omega) (by omega) hu.q (by have:=hu.s;simp only at this;omega)
     have h5:(mov (a,b+2*a,a+b+c) (p,q,r,s)).2.2=val (a,b+2*a,a+b+c) (q,s):=rfl
     omega
   have hst:stT f=tR:=by unfold stT;rw [if_pos hsm]
   have hnx:nx f=mov f tR:=by unfold nx;rw [hst]
   have hr:=hf.next
   obtain ⟨n,en⟩:=ih (nx f) u (by omega) hr hu (by rw [hnx,Bf,←e];exact hg)
   exact ⟨n+1,by rw [wd,hst,←en];exact e⟩
  ·have hsm:¬ sm f < 0:=by
    intro z
    rw [e,←Bf] at hg
    obtain ⟨a,b,c⟩:=f
    obtain ⟨p,q,r,s⟩:=u
    rw [AcH] at hg
    have h1:0 < (mov (a+b+c,b+2*c,c) (p,q,r,s)).1:=hg.1.1
    have h2:0 < a:=hf.1.1
    have h3:c < 0:=hf.1.2
    simp only [sm] at z
    have h4:val (a+b+c,b+2*c,c) (p,r)≤0:=neg_val (by omega) (by omega) h3 (by have:=hu.p;simp only at this;omega) hu.r
    have h5:(mov (a+b+c,b+2*c,c) (p,q,r,s)).1=val (a+b+c,b+2*c,c) (p,r):=rfl
    omega
   have hst:stT f=tL:=by unfold stT;rw [if_neg hsm]
   have hnx:nx f=mov f tL:=by unfold nx;rw [hst]
   have hr:=hf.next
   obtain ⟨n,en⟩:=ih (nx f) u (by omega) hr hu (by rw [hnx,Bf,←e];exact hg)
   exact ⟨n+1,by rw [wd,hst,←en];exact e⟩
noncomputable def HN (t:I4):I4:=(-t.1,-t.2.1,-t.2.2.1,-t.2.2.2)
theorem Px {f:I3} {t:I4}:mov f (HN t)=mov f t:=by
 obtain ⟨a,b,c⟩:=f;obtain ⟨p,q,r,s⟩:=t
 simp only [mov,val,mid,HN,Prod.mk.injEq]
 refine ⟨?_,?_,?_⟩ <;> grind
theorem neg_neg {t:I4}:HN (HN t)=t:=by
 obtain ⟨p,q,r,s⟩:=t
 simp only [HN,Prod.mk.injEq]
 refine ⟨?_,?_,?_,?_⟩ <;> omega
theorem AdL {t:I4}:det (HN t)=det t:=by
 obtain ⟨p,q,r,s⟩:=t
 simp only [det,HN];grind
theorem Wx {t:I4}:Ax (HN t)=HN (Ax t):=by
 obtain ⟨p,q,r,s⟩:=t
 simp only [Ax,HN]
theorem signs {f:I3} {t:I4} (hf:Riv f) (hd:det t=1) (hg:Riv (mov f t)) (hp:0≤t.1):NN t∨NN (Ax t):=by
 obtain ⟨a,b,c⟩:=f
 obtain ⟨p,q,r,s⟩:=t
 have ha:0 < a:=hf.1.1
 have hc:c < 0:=hf.1.2
 have hu:0 < val (a,b,c) (p,r):=hg.1.1
 have hv:val (a,b,c) (q,s) < 0:=hg.1.2
 have hp:0≤p:=hp
 have p0:p≠0:=fun e=>by
  subst e
  rw [Xf] at hu
  have:=Int.mul_nonneg (show 0≤-c by omega) (sq_nonneg r)
  have e:-c*(r*r)=-(c*(r*r)):=by grind
  omega
 have s0:s≠0:=fun e=>by
  subst e
  rw [Lx] at hv
  have:=Int.mul_nonneg (show 0≤a by omega) (sq_nonneg q)
  omega
 have hd':p*s - q*r=1:=hd
 have key:val (a,b,c) (p,r)*(q*s) - val (a,b,c) (q,s)*(p*r)=(p*s - q*r)*(a*(p*q) - c*(r*s)):=by simp only [val];grind
 have hs:0 < s:=by
  rcases Int.lt_or_le 0 s with z | z
  ·exact z
  ·exfalso
   have z:s≤-1:=by omega
   have h1:p*s≤1 * -1:=by
    have:=Int.mul_le_mul_of_nonneg_left z (show 0≤p by omega)
    omega
   have hqr:q*r≤-2:=by omega
   rw [hd',Int.one_mul] at key
   rcases Int.lt_or_le q 0 with hq | hq
   ·have hr:0 < r:=by
     rcases Int.lt_or_le 0 r with w | w
     ·exact w
     ·have:=Int.mul_nonneg_of_nonpos_of_nonpos (show q≤0 by omega) w
      omega
    have k1:=Int.mul_pos hu (Int.mul_pos_of_neg_of_neg hq (show s < 0 by omega))
    have k2:=Int.mul_neg_of_neg_of_pos hv (Int.mul_pos (show 0 < p by omega) hr)
    have k3:=Int.mul_neg_of_pos_of_neg ha (Int.mul_neg_of_pos_of_neg (show 0 < p by omega) hq)
    have k4:=Int.mul_pos_of_neg_of_neg hc (Int.mul_neg_of_pos_of_neg hr (show s < 0 by omega))
    omega
   ·have hq':0 < q:=by
     rcases Int.lt_or_le 0 q with w | w
     ·exact w
     ·have:q=0:=by omega
      subst this
      omega
    have hr:r < 0:=by
     rcases Int.lt_or_le r 0 with w | w
     ·exact w
     ·have:=Int.mul_nonneg hq w
      omega
    have k1:=Int.mul_neg_of_pos_of_neg hu (Int.mul_neg_of_pos_of_neg hq' (show s < 0 by omega))
    have k2:=Int.mul_pos_of_neg_of_neg hv (Int.mul_neg_of_pos_of_neg (show 0 < p by omega) hr)
    have k3:=Int.mul_pos ha (Int.mul_pos (show 0 < p by omega) hq')
    have k4:=Int.mul_neg_of_neg_of_pos hc (Int.mul_pos_of_neg_of_neg hr (show s < 0 by omega))
    omega
 have hps:=Int.mul_le_mul (show 1≤p by omega) (show 1≤s by omega) (by decide) (by omega)
 by_cases hq:0≤q∧0≤r
 ·exact .inl ⟨by simp only;omega,hq.1,hq.2,by simp only;omega,hd⟩
 ·right
  have hqr:q≤0∧r≤0:=by
   rcases Int.lt_trichotomy q 0 with w | w | w
   ·refine ⟨by omega,?_⟩
    rcases Int.lt_or_le 0 r with v | v
    ·have:=Int.mul_neg_of_neg_of_pos w v;omega
    ·exact v
   ·omega
   ·exfalso
    have:r < 0:=by omega
    have:=Int.mul_neg_of_pos_of_neg w this
    omega
  exact ⟨by simp only [Ax];omega,by simp only [Ax];omega,by simp only [Ax];omega,by simp only [Ax];omega,Dg.trans hd⟩
theorem AiF {f:I3} {t:I4} (hf:Riv f) (hd:det t=1) (hg:Riv (mov f t)) :
  (∃ n,t=wd n f∨t=HN (wd n f))∨(∃ n,Ax t=wd n (mov f t)∨Ax t=HN (wd n (mov f t))):=by
 have core:∀ t:I4,det t=1→Riv (mov f t)→0≤t.1→(∃ n,t=wd n f)∨(∃ n,Ax t=wd n (mov f t)):=fun t hd hg hp=>by
  rcases signs hf hd hg hp with h | h
  ·exact .inl (along _ f t (Nat.le_refl _) hf h hg)
  ·exact .inr (along _ (mov f t) (Ax t) (Nat.le_refl _) hg h (by rw [Bq hd];exact hf))
 rcases Int.le_total 0 t.1 with hp | hp
 ·rcases core t hd hg hp with ⟨n,h⟩ | ⟨n,h⟩
  ·exact .inl ⟨n,.inl h⟩
  ·exact .inr ⟨n,.inl h⟩
 ·rcases core (HN t) (AdL.trans hd) (by rw [Px];exact hg) (by show 0≤-t.1;omega) with ⟨n,h⟩ | ⟨n,h⟩
  ·exact .inl ⟨n,.inr (by rw [←h,neg_neg])⟩
  ·rw [Px,Wx] at h
   exact .inr ⟨n,.inr (by rw [←h,neg_neg])⟩
end My
namespace My
open PySem L2
structure Lv (far:Int) (f:I3):Prop where
 S:Sad f
 r:Sq (meas f) far
 L:Level f far
noncomputable abbrev aft (far:Int) (f:I3):I3:=mov f (Ce f far)
theorem Lv.next {far:Int} {f:I3} (h:Lv far f):Lv far (aft far f) :=
 ⟨h.S.mov Cy,by rw [Br Cy];exact h.r,Xo h.S h.r h.L⟩
theorem Lv.ac {far:Int} {f:I3} (h:Lv far f):f.1*f.2.2 < 0:=by
 have hf:=Xh h.r h.S.no
 obtain ⟨⟨l1,l2⟩,_,_⟩:=h.L
 obtain ⟨a,b,c⟩:=f
 have l1:0 < b:=l1
 have l2:b≤far:=l2
 have hb:b*b≤far*far:=Int.mul_le_mul l2 l2 (by omega) (by omega)
 have e:meas (a,b,c)=b*b - 4*(a*c):=by simp only [meas];grind
 show a*c < 0
 omega
theorem Lv.neg {far:Int} {f:I3} (h:Lv far f) (ha:0 < f.1):f.2.2 < 0:=by
 rcases Int.lt_or_le f.2.2 0 with z | z
 ·exact z
 ·have:=h.ac
  have:=Int.mul_nonneg (show 0≤f.1 by omega) z
  omega
theorem Lv.pos {far:Int} {f:I3} (h:Lv far f) (ha:f.1 < 0):0 < f.2.2:=by
 rcases Int.lt_or_le 0 f.2.2 with z | z
 ·exact z
 ·have:=h.ac
  have:=Int.mul_nonneg_of_nonpos_of_nonpos (show f.1≤0 by omega) z
  omega
theorem Gy {far:Int} {f:I3} (h:Lv far f):(aft far f).1=f.2.2∧(aft far f).2.1=dB f far∧(aft far f).2.2=f.1 - f.2.1*kB f far+f.2.2*(kB f far*kB f far):=by
 obtain ⟨e,he⟩:=PJ (top:=far) (G3 h.S)
 refine ⟨by show (mov f (Ce f far)).1=_;rw [he],by show (mov f (Ce f far)).2.1=_;rw [he],?_⟩
 show val f (-1,kB f far)=_
 simp only [val];grind
theorem Lv.riv {far:Int} {f:I3} (h:Lv far f) (ha:0 < f.1):Riv f:=⟨⟨ha,h.neg ha⟩,h.S.no⟩
theorem Zq {far:Int} {f g:I3} (hf:Lv far f) (hg:Lv far g) (hm:meas f=meas g) (h:aft far f=aft far g):f=g:=by
 have ⟨f1,f2,_⟩:=Gy hf
 have ⟨g1,g2,_⟩:=Gy hg
 have hc:f.2.2=g.2.2:=by rw [←f1,h,g1]
 have hd:dB f far=dB g far:=by rw [←f2,h,g2]
 have kf:=Iv (top:=far) (G3 hf.S)
 have kg:=Iv (top:=far) (G3 hg.S)
 have cf:=(Jr hf.r hf.S.no hf.L).1
 have cg:=(Jr hg.r hg.S.no hg.L).1
 have lf:=hf.L.1.2
 have lg:=hg.L.1.2
 have c0:=G3 hf.S
 obtain ⟨a,b,c⟩:=f
 obtain ⟨a',b',c'⟩:=g
 simp only at hc hd kf kg cf cg lf lg c0
 subst hc
 rw [←hd] at kg
 have hb:b=b':=by
  have e:b - b'=2*(c*(kB (a,b,c) far - kB (a',b',c) far)):=by
   have:2*(c*(kB (a,b,c) far - kB (a',b',c) far))=2*c*kB (a,b,c) far - 2*c*kB (a',b',c) far:=by grind
   omega
  generalize kB (a,b,c) far - kB (a',b',c) far=k at *
  have hx:ab (c*k)=ab c*ab k:=(GQ c k).symm
  have hk:ab k=0:=by
   rcases Int.lt_or_le (ab k) 1 with z | z
   ·have:=Bh k;omega
   ·exfalso
    have:=Int.mul_le_mul_of_nonneg_left z (Bh c)
    rcases Ar (c*k) with ⟨_,e1⟩ | ⟨_,e1⟩ <;> omega
  rw [hk] at hx
  have:c*k=0:=by rcases Ar (c*k) with ⟨_,e1⟩ | ⟨_,e1⟩ <;> omega
  omega
 subst hb
 have e1:4*c*a=4*c*a':=by
  simp only [meas] at hm
  have x1:4*a*c=4*c*a:=by grind
  have x2:4*a'*c=4*c*a':=by grind
  omega
 have:a=a':=Int.eq_of_mul_eq_mul_left (show 4*c≠0 by omega) e1
 rw [this]
theorem AjQ:∀ (k:Nat) (a b c:Int),(∀ j:Nat,1≤j→j≤k→0 < a+b*j+c*(j*j))→wd k (a,b,c)=(1,0,(k:Int),1)
 | 0,_,_,_,_=>rfl
 | k+1,a,b,c,h=>by
  have h1:=h 1 (by omega) (by omega)
  have hs:¬ sm (a,b,c) < 0:=by simp only [sm];simp at h1;omega
  have e:nx (a,b,c)=(a+b+c,b+2*c,c):=by unfold nx;rw [show stT (a,b,c)=tL from if_neg hs];exact AcH
  rw [wd,e,show stT (a,b,c)=tL from if_neg hs,AjQ k _ _ _ fun j j1 jk=>?_]
  ·simp only [Aj,Prod.mk.injEq]
   refine ⟨by omega,by omega,by push_cast;omega,by omega⟩
  ·have:=h (j+1) (by omega) (by omega)
   have e2:a+b+c+(b+2*c)*(j:Int)+c*((j:Int)*j)=a+b*((j+1:Nat):Int)+c*(((j+1:Nat):Int)*((j+1:Nat):Int)):=by push_cast;grind
   rw [e2];exact this
theorem AkU:∀ (k:Nat) (a b c:Int),(∀ j:Nat,1≤j→j≤k→a*(j*j)+b*j+c < 0)→wd k (a,b,c)=(1,(k:Int),0,1)
 | 0,_,_,_,_=>rfl
 | k+1,a,b,c,h=>by
  have h1:=h 1 (by omega) (by omega)
  have hs:sm (a,b,c) < 0:=by simp only [sm];simp at h1;omega
  have e:nx (a,b,c)=(a,b+2*a,a+b+c):=by unfold nx;rw [show stT (a,b,c)=tR from if_pos hs];exact AbU
  rw [wd,e,show stT (a,b,c)=tR from if_pos hs,AkU k _ _ _ fun j j1 jk=>?_]
  ·simp only [Aj,Prod.mk.injEq]
   refine ⟨by omega,by push_cast;omega,by omega,by omega⟩
  ·have:=h (j+1) (by omega) (by omega)
   have e2:a*((j:Int)*j)+(b+2*a)*(j:Int)+(a+b+c)=a*(((j+1:Nat):Int)*((j+1:Nat):Int))+b*((j+1:Nat):Int)+c:=by push_cast;grind
   rw [e2];exact this
theorem Yg:∀ (m n:Nat) (f:I3),wd (m+n) f=Aj (wd m f) (wd n (nxs m f))
 | 0,n,f=>by rw [Nat.zero_add];exact Jo.symm
 | m+1,n,f=>by
  rw [show m+1+n=(m+n)+1 by omega,wd,Yg m n (nx f),wd,then_assoc];rfl
theorem UJ:∀ (m n:Nat) (f:I3),nxs (m+n) f=nxs n (nxs m f)
 | 0,n,f=>by rw [Nat.zero_add];rfl
 | m+1,n,f=>by rw [show m+1+n=(m+n)+1 by omega];exact UJ m n (nx f)
theorem Ajd {a b c k j:Int} (hc:c≤0) (h0:0 < a) (hk:0 < a+b*k+c*(k*k)) (j0:0≤j) (jk:j≤k) (k0:0 < k):0 < a+b*j+c*(j*j):=by
 have e:k*(a+b*j+c*(j*j))=(k - j)*a+j*(a+b*k+c*(k*k))+(-c)*(j*(k - j)*k):=by grind
 have h1:=Int.mul_nonneg (show 0≤k - j by omega) (show 0≤a by omega)
 have h2:=Int.mul_nonneg j0 (show 0≤a+b*k+c*(k*k) by omega)
 have h3:=Int.mul_nonneg (show 0≤-c by omega) (Int.mul_nonneg (Int.mul_nonneg j0 (show 0≤k - j by omega)) (show 0≤k by omega))
 have h4:0 < (k - j)*a+j*(a+b*k+c*(k*k)):=by
  by_cases z:j=k
  ·subst z
   have:=Int.mul_pos k0 hk
   omega
  ·have:=Int.mul_pos (show 0 < k - j by omega) h0
   omega
 rcases Int.lt_or_le 0 (a+b*j+c*(j*j)) with z | z
 ·exact z
 ·have:=Int.mul_le_mul_of_nonneg_left z (show 0≤k by omega)
  omega
theorem Lv.k_sign {far:Int} {f:I3} (h:Lv far f):(0 < f.1→kB f far < 0)∧(f.1 < 0→0 < kB f far):=by
 have hk:=Iv (top:=far) (G3 h.S)
 have hd:0 < dB f far:=by
  have:=h.next.L.1.1
  rw [(Gy h).2.1] at this
  exact this
 have hb:=h.L.1.1
 constructor
 ·intro ha
  have hc:=h.neg ha
  rcases Int.lt_or_le (kB f far) 0 with z | z
  ·exact z
  ·have:=Int.mul_nonneg (show 0≤-(2*f.2.2) by omega) z
   have e:-(2*f.2.2)*kB f far=-(2*f.2.2*kB f far):=by grind
   omega
 ·intro ha
  have hc:=h.pos ha
  rcases Int.lt_or_le 0 (kB f far) with z | z
  ·exact z
  ·have:=Int.mul_nonneg (show 0≤2*f.2.2 by omega) (show 0≤-kB f far by omega)
   have e:2*f.2.2 * -kB f far=-(2*f.2.2*kB f far):=by grind
   omega
theorem Aab {far:Int} {f:I3} (h:Lv far f) (ha:0 < f.1) :
  ∃ N:Nat,2≤N∧nxs N f=aft far (aft far f)∧wd N f=HN (Aj (Ce f far) (Ce (aft far f) far))∧∀ j,0 < j→j < N→¬ Lv far (nxs j f):=by
 have h':=h.next
 have h'':=h'.next
 have hc:=h.neg ha
 have ⟨g1,g2,g3⟩:=Gy h
 have a':(aft far f).1 < 0:=by rw [g1];exact hc
 have he:=h'.pos a'
 have ⟨q1,q2,q3⟩:=Gy h'
 have a'':0 < (aft far (aft far f)).1:=by rw [q1];exact he
 have he'':=h''.neg a''
 have kn:=h.k_sign.1 ha
 have kp:=h'.k_sign.2 a'
 have hk1:=Iv (top:=far) (G3 h.S)
 have hk2:=Iv (top:=far) (G3 h'.S)
 have lb:=h.L.1.2
 have ld':=h''.L.1.2
 rw [q2] at ld'
 rw [g2] at hk2
 rw [q3,g1,g2] at he''
 rw [g3] at he
 have hbeh1:Ce f far=(0,-1,1,kB f far):=rfl
 have hbeh2:Ce (aft far f) far=(0,-1,1,kB (aft far f) far):=rfl
 rw [hbeh1,hbeh2]
 have e22:(aft far f).2.2=f.1 - f.2.1*kB f far+f.2.2*(kB f far*kB f far):=g3
 generalize hF:aft far (aft far f)=F at *
 generalize hd':dB (aft far f) far=d' at *
 generalize hk2':kB (aft far f) far=k2 at *
 have hform:nxs 0 f=f:=rfl
 generalize hg:aft far f=g at *
 generalize hd:dB f far=d at *
 generalize hk1':kB f far=k1 at *
 obtain ⟨a,b,c⟩:=f
 have ha:0 < a:=ha
 have hc:c < 0:=hc
 have lb:b≤far:=lb
 have he:0 < a - b*k1+c*(k1*k1):=he
 have hk1:2*c*k1=b+d:=hk1
 have he'':c - d*k2+g.2.2*(k2*k2) < 0:=he''
 have e22:g.2.2=a - b*k1+c*(k1*k1):=e22
 rw [e22] at he'' hk2
 obtain ⟨n1,hn1⟩:∃ n:Nat,-k1=n:=⟨(-k1).toNat,by omega⟩
 obtain ⟨n2,hn2⟩:∃ n:Nat,k2=n:=⟨k2.toNat,by omega⟩
 have hk1n:k1=-(n1:Int):=by omega
 have hw1:∀ i:Nat,i≤n1→wd i (a,b,c)=(1,0,(i:Int),1):=fun i hi=>AjQ i a b c fun j j1 ji=>by
  refine Ajd (k:=n1) (by omega) ha ?_ (by omega) (by omega) (by omega)
  have:a+b*(n1:Int)+c*((n1:Int)*n1)=a - b*k1+c*(k1*k1):=by rw [hk1n];grind
  omega
 have hF1:nxs n1 (a,b,c)=(a - b*k1+c*(k1*k1),-d,c):=by
  rw [←Ld,hw1 n1 (Nat.le_refl _)]
  have e1:-d=b+2*c*n1:=by
   have:2*c*(n1:Int)=-(2*c*k1):=by rw [hk1n];grind
   omega
  rw [e1,hk1n]
  simp only [mov,val,mid,Prod.mk.injEq]
  refine ⟨?_,?_,?_⟩ <;> grind
 generalize hee:a - b*k1+c*(k1*k1)=e at *
 have hw2:∀ i:Nat,i≤n2→wd i (e,-d,c)=(1,(i:Int),0,1):=fun i hi=>AkU i e (-d) c fun j j1 ji=>by
  have:=Ajd (a:=-c) (b:=d) (c:=-e) (k:=n2) (j:=j) (by omega) (by omega) (by
   have:-c+d*(n2:Int) + -e*((n2:Int)*n2)=-(c - d*k2+e*(k2*k2)):=by rw [hn2];grind
   omega) (by omega) (by omega) (by omega)
  have e1:e*((j:Int)*j) + -d*j+c=-(-c+d*(j:Int) + -e*((j:Int)*j)):=by grind
  omega
 have hF2:∀ i:Nat,i≤n2→nxs (n1+i) (a,b,c)=(e,-d+2*e*i,e*((i:Int)*i) - d*i+c):=fun i hi=>by
  rw [UJ,hF1,←Ld,hw2 i hi]
  simp only [mov,val,mid,Prod.mk.injEq]
  refine ⟨?_,?_,?_⟩ <;> grind
 have hwd:wd (n1+n2) (a,b,c)=HN (Aj (0,-1,1,k1) (0,-1,1,k2)):=by
  rw [Yg,hF1,hw1 n1 (Nat.le_refl _),hw2 n2 (Nat.le_refl _),hk1n,hn2]
  simp only [Aj,HN,Prod.mk.injEq]
  refine ⟨?_,?_,?_,?_⟩ <;> grind
 refine ⟨n1+n2,by omega,?_,hwd,?_⟩
 ·rw [←Ld,hwd,Px,←Bf,←hF,←hg]
  show mov (mov (a,b,c) (0,-1,1,k1)) (0,-1,1,k2)=_
  rw [←hk1',←hk2',←hg];rfl
 ·intro j j0 jn hL
  rcases Nat.lt_or_ge n1 j with z | z
  ·obtain ⟨i,rfl⟩:∃ i,j=n1+i:=⟨j - n1,by omega⟩
   rw [hF2 i (by omega)] at hL
   have l1:=hL.L.2.1
   have l1:far - (-d+2*e*i) < 2*ab e:=l1
   rw [show ab e=e from if_neg (by omega)] at l1
   have hi:(i:Int)≤n2 - 1:=by omega
   have:=Int.mul_le_mul_of_nonneg_left hi (show 0≤2*e by omega)
   have e1:2*e*((n2:Int) - 1)=2*e*k2 - 2*e:=by rw [hn2];grind
   omega
  ·have hj:nxs j (a,b,c)=(a+b*j+c*((j:Int)*j),b+2*c*j,c):=by
    rw [←Ld,hw1 j z]
    simp only [mov,val,mid,Prod.mk.injEq]
    refine ⟨?_,?_,?_⟩ <;> grind
   rw [hj] at hL
   have l1:=(Jr hL.r hL.S.no hL.L).1
   have l1:far - (b+2*c*j) < 2*ab c:=l1
   rw [show ab c=-c from if_pos hc] at l1
   have:=Int.mul_le_mul_of_nonneg_left (show (1:Int)≤j by omega) (show 0≤-(2*c) by omega)
   have e1:-(2*c)*(j:Int)=-(2*c*j):=by grind
   omega
end My
namespace My
open PySem L2
noncomputable def Sg (t u:I4):Prop:=t=u∨t=HN u
theorem VP {t u:I4}:Aj (HN t) u=HN (Aj t u):=by
 obtain ⟨a,b,c,d⟩:=t;obtain ⟨e,f,g,h⟩:=u
 simp only [Aj,HN,Prod.mk.injEq]
 refine ⟨?_,?_,?_,?_⟩ <;> grind
theorem Vu {t u:I4}:Aj t (HN u)=HN (Aj t u):=by
 obtain ⟨a,b,c,d⟩:=t;obtain ⟨e,f,g,h⟩:=u
 simp only [Aj,HN,Prod.mk.injEq]
 refine ⟨?_,?_,?_,?_⟩ <;> grind
theorem Gs {t:I4}:Ax (Ax t)=t:=by
 obtain ⟨a,b,c,d⟩:=t
 simp only [Ax,Prod.mk.injEq]
 refine ⟨trivial,?_,?_,trivial⟩ <;> omega
theorem Qt {t u:I4}:Ax (Aj t u)=Aj (Ax u) (Ax t):=by
 obtain ⟨a,b,c,d⟩:=t;obtain ⟨e,f,g,h⟩:=u
 simp only [Aj,Ax,Prod.mk.injEq]
 refine ⟨?_,?_,?_,?_⟩ <;> grind
theorem Sg.refl {t:I4}:Sg t t:=.inl rfl
theorem Sg.trans {t u v:I4} (h:Sg t u) (k:Sg u v):Sg t v:=by
 rcases h with rfl | rfl <;> rcases k with rfl | rfl
 ·exact .inl rfl
 ·exact .inr rfl
 ·exact .inr rfl
 ·exact .inl neg_neg
theorem Sg.then {t u t' u':I4} (h:Sg t t') (k:Sg u u'):Sg (Aj t u) (Aj t' u'):=by
 rcases h with rfl | rfl <;> rcases k with rfl | rfl
 ·exact .inl rfl
 ·exact .inr Vu
 ·exact .inr VP
 ·exact .inl (by rw [VP,Vu,neg_neg])
theorem Sg.back {t u:I4} (h:Sg t u):Sg (Ax t) (Ax u):=by
 rcases h with rfl | rfl
 ·exact .inl rfl
 ·exact .inr Wx
theorem Sg.mov {f:I3} {t u:I4} (h:Sg t u):mov f t=mov f u:=by
 rcases h with rfl | rfl
 ·rfl
 ·exact Px
noncomputable def rF (far:Int):Nat→I3→I3
 | 0,f=>f
 | n+1,f=>rF far n (aft far f)
noncomputable def rT (far:Int):Nat→I3→I4
 | 0,_=>(1,0,0,1)
 | n+1,f=>Aj (Ce f far) (rT far n (aft far f))
theorem Em {far:Int}:∀ (n:Nat) (f:I3),mov f (rT far n f)=rF far n f
 | 0,_=>DY
 | n+1,f=>by rw [rT,←Bf];exact Em n (aft far f)
theorem K8 {far:Int}:∀ (n:Nat) (f:I3),det (rT far n f)=1
 | 0,_=>rfl
 | n+1,f=>by rw [rT,BP,Cy,K8 n (aft far f)];rfl
theorem Gb {far:Int}:∀ (m n:Nat) (f:I3),rF far (m+n) f=rF far n (rF far m f)
 | 0,n,f=>by rw [Nat.zero_add];rfl
 | m+1,n,f=>by rw [show m+1+n=(m+n)+1 by omega];exact Gb m n (aft far f)
theorem Us {far:Int}:∀ (m n:Nat) (f:I3),rT far (m+n) f=Aj (rT far m f) (rT far n (rF far m f))
 | 0,n,f=>by rw [Nat.zero_add];exact Jo.symm
 | m+1,n,f=>by rw [show m+1+n=(m+n)+1 by omega,rT,Us m n (aft far f),rT,then_assoc];rfl
theorem Uq {far:Int} {n:Nat} {f:I3}:rF far (n+1) f=aft far (rF far n f):=by rw [Gb];rfl
theorem Ma {far:Int} {n:Nat} {f:I3}:rT far (n+1) f=Aj (rT far n f) (Ce (rF far n f) far):=by
 rw [Us]
 show Aj _ (Aj _ (1,0,0,1))=_
 rw [Eb]
theorem Lv.rF {far:Int}:∀ (n:Nat) {f:I3},Lv far f→Lv far (rF far n f)
 | 0,_,h=>h
 | n+1,_,h=>Lv.rF n h.next
theorem MF {far:Int} (n:Nat) (f:I3):meas (rF far n f)=meas f:=by rw [←Em,Br (K8 n f)]
theorem Y8 {far:Int}:∀ (n:Nat) (f:I3),Lv far f→0 < f.1→Lv far (nxs n f)→∃ m,Sg (wd n f) (rT far m f):=by
 intro n
 induction n using Nat.strongRecOn with
 | ind n ih =>
  intro f hf ha hg
  by_cases h0:n=0
  ·subst h0
   exact ⟨0,Sg.refl⟩
  ·obtain ⟨N,hN,e1,e2,e3⟩:=Aab hf ha
   have hn:N≤n:=by
    rcases Nat.lt_or_ge n N with z | z
    ·exact absurd hg (e3 n (by omega) z)
    ·exact z
   obtain ⟨k,rfl⟩:∃ k,n=N+k:=⟨n - N,by omega⟩
   have a2:0 < (aft far (aft far f)).1:=by
    rw [(Gy hf.next).1]
    exact hf.next.pos (by rw [(Gy hf).1];exact hf.neg ha)
   rw [UJ,e1] at hg
   obtain ⟨m,hm⟩:=ih k (by omega) (aft far (aft far f)) hf.next.next a2 hg
   refine ⟨m+2,?_⟩
   rw [Yg,e1,e2]
   show Sg _ (Aj (Ce f far) (Aj (Ce (aft far f) far) (rT far m (aft far (aft far f)))))
   rw [←then_assoc]
   exact Sg.then (.inr rfl) hm
noncomputable def Ring (far:Int) (f g:I3) (t:I4):Prop:=(∃ m,Sg t (rT far m f))∨(∃ m,Sg (Ax t) (rT far m g))
theorem Ring.swap {far:Int} {f g:I3} {t:I4} (h:Ring far f g t):Ring far g f (Ax t):=by
 rcases h with ⟨m,h⟩ | ⟨m,h⟩
 ·exact .inr ⟨m,by rw [Gs];exact h⟩
 ·exact .inl ⟨m,h⟩
theorem YH {far:Int} {f g:I3} {t:I4} (hf:Lv far f) (hg:Lv far g) (hd:det t=1) (e:mov f t=g) (fa:0 < f.1) (ga:0 < g.1):Ring far f g t:=by
 have hr:Riv (mov f t):=by rw [e];exact hg.riv ga
 rcases AiF (hf.riv fa) hd hr with ⟨n,h⟩ | ⟨n,h⟩
 ·have hs:Sg t (wd n f):=h
  have hn:Lv far (nxs n f):=by rw [←Ld,←hs.mov,e];exact hg
  obtain ⟨m,hm⟩:=Y8 n f hf fa hn
  exact .inl ⟨m,hs.trans hm⟩
 ·rw [e] at h
  have hs:Sg (Ax t) (wd n g):=h
  have hn:Lv far (nxs n g):=by rw [←Ld,←hs.mov,←e,Bq hd];exact hf
  obtain ⟨m,hm⟩:=Y8 n g hg ga hn
  exact .inr ⟨m,hs.trans hm⟩
theorem Zn {far:Int} {f g:I3} {t:I4} {m:Nat} (hf:Lv far f) (hg:Lv far g) (hm:meas f=meas g) (h:Sg (Aj t (Ce g far)) (rT far m f)) (e:rF far m f=aft far g):(∃ k,Sg t (rT far k f))∨Sg t (Ax (Ce g far)):=by
 have cancel:∀ {u:I4},Sg (Aj t (Ce g far)) (Aj u (Ce g far))→Sg t u:=fun {u} h=>by
  have:=Sg.then h (Sg.refl (t:=Ax (Ce g far)))
  rw [then_assoc,then_assoc,Kz Cy,Eb,Eb] at this
  exact this
 match m,h,e with
 | 0,h,e =>
  right
  refine cancel (h.trans ?_)
  rw [Sx Cy]
  exact Sg.refl
 | m+1,h,e =>
  left
  rw [Uq] at e
  have e':=Zq (Lv.rF m hf) hg (by rw [MF];exact hm) e
  rw [Ma,e'] at h
  exact ⟨m,cancel h⟩
theorem Ug {far:Int} {f g:I3} {t:I4} (hf:Lv far f) (hg:Lv far g) (hd:det t=1) (e:mov f t=g) (fa:0 < f.1) (ga:g.1 < 0):Ring far f g t:=by
 have hm:meas f=meas g:=by rw [←e,Br hd]
 have hd':det (Aj t (Ce g far))=1:=by rw [BP,hd,Cy];rfl
 have e':mov f (Aj t (Ce g far))=aft far g:=by rw [←Bf,e]
 have ga':0 < (aft far g).1:=by rw [(Gy hg).1];exact hg.pos ga
 rcases YH hf hg.next hd' e' fa ga' with ⟨m,h⟩ | ⟨m,h⟩
 ·have er:rF far m f=aft far g:=by rw [←Em,←h.mov,e']
  rcases Zn hf hg hm h er with h | h
  ·exact .inl h
  ·refine .inr ⟨1,?_⟩
   have:=h.back
   rw [Gs] at this
   show Sg _ (Aj (Ce g far) (1,0,0,1))
   rw [Eb]
   exact this
 ·refine .inr ⟨m+1,?_⟩
  have h2:=Sg.then (Sg.refl (t:=Ce g far)) h
  rw [Qt,←then_assoc,Kz Cy,Jo] at h2
  exact h2
theorem Nk {far:Int} {f g:I3} {t:I4} (hf:Lv far f) (hg:Lv far g) (hd:det t=1) (e:mov f t=g):Ring far f g t:=by
 have fa:=JM hf.S
 have ga:=JM hg.S
 have eb:mov g (Ax t)=f:=by rw [←e,Bq hd]
 have hdb:det (Ax t)=1:=Dg.trans hd
 rcases Int.lt_or_lt_of_ne fa with fa | fa
 ·rcases Int.lt_or_lt_of_ne ga with ga | ga
  ·
   have fa':0 < (aft far f).1:=by rw [(Gy hf).1];exact hf.pos fa
   have hd':det (Aj (Ax (Ce f far)) t)=1:=by rw [BP,Dg,Cy,hd];rfl
   have e':mov (aft far f) (Aj (Ax (Ce f far)) t)=g:=by
    rw [←Bf,Bq Cy,e]
   have hm:meas g=meas f:=by rw [←e,Br hd]
   rcases Ug hf.next hg hd' e' fa' ga with ⟨m,h⟩ | ⟨m,h⟩
   ·refine .inl ⟨m+1,?_⟩
    have h2:=Sg.then (Sg.refl (t:=Ce f far)) h
    rw [←then_assoc,Kz Cy,Jo] at h2
    exact h2
   ·rw [Qt,Gs] at h
    have er:rF far m g=aft far f:=by rw [←Em,←h.mov,←Bf,eb]
    rcases Zn hg hf hm h er with h | h
    ·exact .inr h
    ·refine .inl ⟨1,?_⟩
     have:=h.back
     rw [Gs,Gs] at this
     show Sg _ (Aj (Ce f far) (1,0,0,1))
     rw [Eb]
     exact this
  ·have:=(Ug hg hf hdb eb ga fa).swap
   rw [Gs] at this
   exact this
 ·rcases Int.lt_or_lt_of_ne ga with ga | ga
  ·exact Ug hf hg hd e fa ga
  ·exact YH hf hg hd e fa ga
theorem AgD:∀ (M:Nat) (x:Nat→Nat),(∀ i,i≤M→x i < M)→∃ i j,i < j∧j≤M∧x i=x j:=by
 intro M
 induction M with
 | zero=>intro x h;exact absurd (h 0 (Nat.le_refl _)) (by omega)
 | succ M ih =>
  intro x h
  by_cases hex:∃ i j,i < j∧j≤M+1∧x i=x j
  ·exact hex
  ·have ne:∀ i j,i < j→j≤M+1→x i≠x j:=fun i j h1 h2 h3=>hex ⟨i,j,h1,h2,h3⟩
   obtain ⟨i,j,h1,h2,h3⟩:=ih (fun i=>if x i=M then x (M+1) else x i) (fun i hi=>by
    have h1:=h i (by omega)
    have h2:=h (M+1) (Nat.le_refl _)
    have h3:=ne i (M+1) (by omega) (Nat.le_refl _)
    show (if x i=M then x (M+1) else x i) < M
    split <;> omega)
   exfalso
   have n1:=ne i j h1 (by omega)
   have n2:=ne i (M+1) (by omega) (Nat.le_refl _)
   have n3:=ne j (M+1) (by omega) (Nat.le_refl _)
   have h3:(if x i=M then x (M+1) else x i)=(if x j=M then x (M+1) else x j):=h3
   split at h3 <;> split at h3 <;> omega
theorem Og {far:Int}:∀ (i:Nat) {f g:I3},Lv far f→Lv far g→meas f=meas g→rF far i f=rF far i g→f=g
 | 0,_,_,_,_,_,h=>h
 | i+1,f,g,hf,hg,hm,h=>Zq hf hg hm (Og i hf.next hg.next (by rw [Br Cy,Br Cy];exact hm) h)
noncomputable def Ww (f:I3):Nat:=((f.1+63)*64+f.2.1).toNat
theorem Lv.range {far:Int} {f:I3} (h:Lv far f):(-63≤f.1∧f.1≤63)∧(0 < f.2.1∧f.2.1≤63):=by
 have h6:=U5 h.r h.S.most
 obtain ⟨⟨l1,l2⟩,_,l4⟩:=h.L
 have l4:2*ab f.1≤far+f.2.1:=l4
 rcases Ar f.1 with ⟨_,e⟩ | ⟨_,e⟩ <;> omega
theorem code_inj {far:Int} {f g:I3} (hf:Lv far f) (hg:Lv far g) (hm:meas f=meas g) (h:Ww f=Ww g):f=g:=by
 have rf:=hf.range
 have rg:=hg.range
 have ha:=JM hf.S
 obtain ⟨a,b,c⟩:=f
 obtain ⟨a',b',c'⟩:=g
 simp only [Ww] at h rf rg ha
 have e1:a=a':=by omega
 have e2:b=b':=by omega
 subst e1 e2
 have e3:4*a*c=4*a*c':=by simp only [meas] at hm;omega
 have:c=c':=Int.eq_of_mul_eq_mul_left (show 4*a≠0 by omega) e3
 rw [this]
theorem Wf {far:Int} {f:I3} (h:Lv far f):∃ N,0 < N∧N≤8128∧rF far N f=f∧∀ j,0 < j→j < N→rF far j f≠f:=by
 have ex:∃ N,0 < N∧N≤8128∧rF far N f=f:=by
  obtain ⟨i,j,hij,hj,e⟩:=AgD 8128 (fun i=>Ww (rF far i f)) (fun i _=>by
   have:=(Lv.rF i h).range
   unfold Ww
   omega)
  have e':=code_inj (Lv.rF i h) (Lv.rF j h) (by rw [MF,MF]) e
  obtain ⟨k,rfl⟩:∃ k,j=k+i:=⟨j - i,by omega⟩
  rw [Gb k i f] at e'
  have:=Og i h (Lv.rF k h) (by rw [MF]) e'
  exact ⟨k,by omega,by omega,this.symm⟩
 have least:∀ M,(∃ N,0 < N∧N≤M∧rF far N f=f)→∃ N,0 < N∧N≤M∧rF far N f=f∧∀ j,0 < j→j < N→rF far j f≠f:=by
  intro M
  induction M with
  | zero=>intro ⟨N,h1,h2,_⟩;omega
  | succ M ih =>
   intro hN
   by_cases hM:∃ N,0 < N∧N≤M∧rF far N f=f
   ·obtain ⟨N,h1,h2,h3,h4⟩:=ih hM
    exact ⟨N,h1,by omega,h3,h4⟩
   ·obtain ⟨N,h1,h2,h3⟩:=hN
    exact ⟨N,h1,h2,h3,fun j j0 jN e=>hM ⟨j,j0,by omega,e⟩⟩
 exact least 8128 ex
theorem Y5 {f:I3} {far:Int} (h:Lv far f):Bt 9 (kB f far):=by
 have hc:=G3 h.S
 have hk:=Iv (top:=far) hc
 have ⟨d1,d2⟩:=MK (top:=far) hc
 have h6:=U5 h.r h.S.most
 have ⟨c1,c2⟩:=Jr h.r h.S.no h.L
 obtain ⟨⟨l1,l2⟩,_,_⟩:=h.L
 have e1:2*(ab f.2.2*ab (kB f far))=ab (f.2.1+dB f far):=by
  rw [←hk,GQ]
  have:2*f.2.2*kB f far=2*(f.2.2*kB f far):=by grind
  rw [this]
  rcases Ar (f.2.2*kB f far) with ⟨h1,e1⟩ | ⟨h1,e1⟩
  ·rw [e1,ab,if_neg (by omega)]
  ·rw [e1,ab,if_pos (by omega)];omega
 have c0:1≤ab f.2.2:=by rcases Ar f.2.2 with ⟨_,e1⟩ | ⟨_,e1⟩ <;> omega
 have e2:=Int.mul_le_mul_of_nonneg_right c0 (Bh (kB f far))
 have e3:ab (f.2.1+dB f far)≤252:=by rcases Ar (f.2.1+dB f far) with ⟨_,e1⟩ | ⟨_,e1⟩ <;> omega
 have:=Bh (kB f far)
 exact RW (k:=252) (by omega) (by decide)
theorem Af5 {far:Int}:∀ (n:Nat) {f:I3},Lv far f→B4 (10*n+1) (rT far n f)
 | 0,_,_=>⟨Bt.one,Bt.zero.le (by omega),Bt.zero.le (by omega),Bt.one⟩
 | n+1,f,h=>by
  have h1:=QS (Y5 h) (by decide)
  exact (B4.then h1 (Af5 n h.next)).le (by omega)
end My
namespace My
open PySem L2
noncomputable def tr (t:I4):Int:=t.1+t.2.2.2
theorem Zt {t x:I4} (h:det x=1):tr (Aj (Aj x t) (Ax x))=tr t:=by
 obtain ⟨p,q,r,s⟩:=t;obtain ⟨a,b,c,d⟩:=x
 simp only [det] at h
 have:tr (Aj (Aj (a,b,c,d) (p,q,r,s)) (Ax (a,b,c,d)))=(a*d - b*c)*(p+s):=by simp only [tr,Aj,Ax];grind
 rw [this,h,Int.one_mul];rfl
theorem AbZ {t x:I4} (h:det x=1):tr (Aj (Aj (Ax x) t) x)=tr t:=by
 have:=Zt (t:=t) (x:=Ax x) (Dg.trans h)
 rw [Gs] at this
 exact this
theorem Ade {f:I3} {t:I4} (hd:det t=1) (e:mov f t=f):f.1*t.2.1=-(f.2.2*t.2.2.1)∧f.1*(t.2.2.2 - t.1)=f.2.1*t.2.2.1:=by
 obtain ⟨a,b,c⟩:=f;obtain ⟨p,q,r,s⟩:=t
 simp only [det] at hd
 simp only [mov,val,mid,Prod.mk.injEq] at e
 obtain ⟨e1,e2,_⟩:=e
 have k1:2*q*(a*p*p+b*p*r+c*r*r) - p*(2*a*p*q+b*(p*s+q*r)+2*c*r*s)=-(b*p+2*c*r)*(p*s - q*r):=by grind
 have k2:2*s*(a*p*p+b*p*r+c*r*r) - r*(2*a*p*q+b*(p*s+q*r)+2*c*r*s)=(2*a*p+b*r)*(p*s - q*r):=by grind
 rw [e1,e2,hd] at k1 k2
 simp only
 constructor
 ·have x1:2*q*a - p*b=2*(a*q) - b*p:=by grind
  have x2:-(b*p+2*c*r)*1=-(b*p) - 2*(c*r):=by grind
  omega
 ·have x1:2*s*a - r*b=2*(a*s) - b*r:=by grind
  have x2:(2*a*p+b*r)*1=2*(a*p)+b*r:=by grind
  have x3:a*(s - p)=a*s - a*p:=by grind
  omega
theorem Ko {f:I3} (h:f.1≠0):0 < g3 f:=by
 rcases Nat.lt_or_ge 0 (g3 f) with z | z
 ·exact z
 ·have:=AcS (show g3 f=0 by omega)
  rw [this] at h
  exact absurd rfl h
theorem Ago {f:I3} {d:Int} (h1:d∣f.1) (h2:d∣f.2.1) (h3:d∣f.2.2):d∣(g3 f:Int):=Int.dvd_coe_gcd (Int.dvd_coe_gcd h1 h2) h3
theorem Rn {f:I3} {t:I4}:(g3 f:Int)∣(g3 (mov f t):Int):=by
 obtain ⟨⟨x,hx⟩,⟨y,hy⟩,⟨z,hz⟩⟩:=X4 f
 refine Ago ⟨val (x,y,z) (t.1,t.2.2.1),?_⟩ ⟨mid (x,y,z) (t.1,t.2.2.1) (t.2.1,t.2.2.2),?_⟩ ⟨val (x,y,z) (t.2.1,t.2.2.2),?_⟩
 ·show val f (t.1,t.2.2.1)=_
  simp only [val];rw [hx,hy,hz];grind
 ·show mid f (t.1,t.2.2.1) (t.2.1,t.2.2.2)=_
  simp only [mid];rw [hx,hy,hz];grind
 ·show val f (t.2.1,t.2.2.2)=_
  simp only [val];rw [hx,hy,hz];grind
theorem AhH {f:I3} {t:I4} (h:det t=1):g3 (mov f t)=g3 f:=by
 have h1:(g3 f:Int)∣(g3 (mov f t):Int):=Rn
 have h2:(g3 (mov f t):Int)∣(g3 f:Int):=by
  have:=Rn (f:=mov f t) (t:=Ax t)
  rw [Bq h] at this
  exact this
 exact Nat.dvd_antisymm (Int.ofNat_dvd.mp h2) (Int.ofNat_dvd.mp h1)
noncomputable def pl (f:I3):I3:=(f.1 / (g3 f:Int),f.2.1 / (g3 f:Int),f.2.2 / (g3 f:Int))
theorem Jc (f:I3):f.1=(g3 f:Int)*(pl f).1∧f.2.1=(g3 f:Int)*(pl f).2.1∧f.2.2=(g3 f:Int)*(pl f).2.2:=by
 obtain ⟨h1,h2,h3⟩:=X4 f
 exact ⟨(Int.mul_ediv_cancel' h1).symm,(Int.mul_ediv_cancel' h2).symm,(Int.mul_ediv_cancel' h3).symm⟩
theorem Agc {f:I3} (h:f.1≠0):g3 (pl f)=1:=Ahj (by have:=Ko h;omega)
theorem Ms (f:I3):meas f=(g3 f:Int)*(g3 f:Int)*meas (pl f):=by
 have ⟨h1,h2,h3⟩:=Jc f
 generalize (g3 f:Int)=m at *
 generalize pl f=p at *
 obtain ⟨a,b,c⟩:=f
 obtain ⟨x,y,z⟩:=p
 simp only at h1 h2 h3
 subst h1 h2 h3
 simp only [meas]
 grind
theorem AdA {x y z r:Int} (h:g3 (x,y,z)=1) (h2:x∣y*r) (h3:x∣z*r):x∣r:=by
 have d1:x∣((Int.gcd (x*r) (y*r):Nat):Int):=Int.dvd_coe_gcd (Int.dvd_mul_right x r) h2
 have d2:x∣((Int.gcd ((Int.gcd (x*r) (y*r):Nat):Int) (z*r):Nat):Int):=Int.dvd_coe_gcd d1 h3
 have e:Int.gcd ((Int.gcd (x*r) (y*r):Nat):Int) (z*r)=r.natAbs:=by
  rw [Int.gcd_mul_right]
  have:((Int.gcd x y*r.natAbs:Nat):Int)=((Int.gcd x y:Nat):Int)*((r.natAbs:Nat):Int):=by push_cast;rfl
  rw [this]
  have e2:Int.gcd (((Int.gcd x y:Nat):Int)*((r.natAbs:Nat):Int)) (z*r)=Int.gcd (((Int.gcd x y:Nat):Int)*r) (z*r):=by
   rcases Ar r with ⟨hr,_⟩ | ⟨hr,_⟩
   ·rw [show ((r.natAbs:Nat):Int)=r by omega]
   ·rw [show ((r.natAbs:Nat):Int)=-r by omega,Int.mul_neg,Int.neg_gcd]
  rw [e2,Int.gcd_mul_right]
  have:Int.gcd ((Int.gcd x y:Nat):Int) z=1:=h
  rw [this,Nat.one_mul]
 rw [e] at d2
 exact Int.dvd_natAbs.mp d2
theorem Qa {f:I3} {t:I4} (ha:f.1≠0) (hd:det t=1) (e:mov f t=f):∃ v:Int,t.2.2.1=(pl f).1*v∧t.2.1=-((pl f).2.2*v)∧t.2.2.2 - t.1=(pl f).2.1*v∧tr t*tr t - meas (pl f)*(v*v)=4:=by
 have ⟨h1,h2⟩:=Ade hd e
 have ⟨e1,e2,e3⟩:=Jc f
 have hp:=Agc ha
 have hm:(g3 f:Int)≠0:=by have:=Ko ha;omega
 generalize pl f=p at *
 obtain ⟨x,y,z⟩:=p
 obtain ⟨p',q,r,s⟩:=t
 simp only at *
 rw [e1,e2] at h2
 rw [e1,e3] at h1
 generalize (g3 f:Int)=m at *
 have k1:x*q=-(z*r):=by
  have:m*(x*q)=m*(-(z*r)):=by grind
  exact Int.eq_of_mul_eq_mul_left hm this
 have k2:x*(s - p')=y*r:=by
  have:m*(x*(s - p'))=m*(y*r):=by grind
  exact Int.eq_of_mul_eq_mul_left hm this
 have x0:x≠0:=fun h=>by rw [h] at e1;exact ha (by rw [e1];simp)
 obtain ⟨v,hv⟩:=AdA hp ⟨s - p',k2.symm⟩ ⟨-q,by rw [Int.mul_neg,k1];omega⟩
 subst hv
 have k3:q=-(z*v):=by
  have:x*q=x*(-(z*v)):=by rw [k1];grind
  exact Int.eq_of_mul_eq_mul_left x0 this
 have k4:s - p'=y*v:=by
  have:x*(s - p')=x*(y*v):=by rw [k2];grind
  exact Int.eq_of_mul_eq_mul_left x0 this
 refine ⟨v,rfl,k3,k4,?_⟩
 simp only [tr,meas,det] at *
 have hs:s=p'+y*v:=by omega
 subst hs k3
 grind
theorem Ae2 {n u v:Int} (hn:0 < n) (h:n*(u*u)=n*(v*v)):ab u=ab v:=by
 have e:u*u=v*v:=Int.eq_of_mul_eq_mul_left (show n≠0 by omega) h
 have e1:ab u*ab u=ab v*ab v:=by
  have a1:ab u*ab u=u*u:=by rcases Ar u with ⟨_,x⟩ | ⟨_,x⟩ <;> rw [x];grind
  have a2:ab v*ab v=v*v:=by rcases Ar v with ⟨_,x⟩ | ⟨_,x⟩ <;> rw [x];grind
  omega
 have hu:=Bh u
 have hv:=Bh v
 rcases Int.lt_trichotomy (ab u) (ab v) with z | z | z
 ·have:=Int.mul_lt_mul_of_pos_right z (show 0 < ab v by omega)
  have:=Int.mul_le_mul_of_nonneg_left (show ab u≤ab v by omega) hu
  omega
 ·exact z
 ·have:=Int.mul_lt_mul_of_pos_right z (show 0 < ab u by omega)
  have:=Int.mul_le_mul_of_nonneg_left (show ab v≤ab u by omega) hv
  omega
theorem V2 {far:Int} {f:I3} {N:Nat} (e:rF far N f=f):mov f (rT far N f)=f:=by rw [Em,e]
theorem Zw {far:Int} {f:I3} {N m:Nat} (e:rF far N f=f):tr (rT far N (rF far m f))=tr (rT far N f):=by
 have h1:=Us (far:=far) m N f
 have h2:=Us (far:=far) N m f
 rw [e,Nat.add_comm N m] at h2
 have hd:=K8 (far:=far) m f
 have:rT far N (rF far m f)=Aj (Aj (Ax (rT far m f)) (rT far N f)) (rT far m f):=by
  rw [then_assoc,←h2,h1,←then_assoc,Sx hd,Jo]
 rw [this,AbZ hd]
theorem VN {far:Int} {f:I3} {N M m:Nat} (h:Lv far f) (e:rF far N f=f) (min:∀ j,0 < j→j < N→rF far j f≠f) (e':rF far M (rF far m f)=rF far m f) (min':∀ j,0 < j→j < M→rF far j (rF far m f)≠rF far m f) (hN:0 < N) (hM:0 < M):N=M:=by
 have a1:rF far M f=f:=by
  rw [←Gb,Nat.add_comm,Gb] at e'
  exact Og m (Lv.rF M h) h (by rw [MF]) e'
 have a2:rF far N (rF far m f)=rF far m f:=by rw [←Gb,Nat.add_comm,Gb,e]
 rcases Nat.lt_trichotomy N M with z | z | z
 ·exact absurd a2 (min' N hN z)
 ·exact z
 ·exact absurd a1 (min M hM z)
theorem SQ {far:Int} {f g:I3} {t:I4} {N M:Nat} (hf:Lv far f) (hg:Lv far g) (hd:det t=1) (e:mov f t=g) (eN:rF far N f=f) (minN:∀ j,0 < j→j < N→rF far j f≠f) (eM:rF far M g=g) (minM:∀ j,0 < j→j < M→rF far j g≠g) (hN:0 < N) (hM:0 < M):N=M∧tr (rT far M g)=tr (rT far N f):=by
 rcases Nk hf hg hd e with ⟨m,h⟩ | ⟨m,h⟩
 ·have eg:rF far m f=g:=by rw [←Em,←h.mov,e]
  subst eg
  have:=VN hf eN minN eM minM hN hM
  subst this
  exact ⟨rfl,Zw eN⟩
 ·have ef:rF far m g=f:=by rw [←Em,←h.mov,←e,Bq hd]
  subst ef
  have:=VN hg eM minM eN minN hM hN
  subst this
  exact ⟨rfl,(Zw eM).symm⟩
theorem AlY {far:Int} {f:I3} (h:Lv far f):∀ n:Nat,(rT far (n+1) f).2.1≠0∧0≤-(kB (rF far (n+1) f) far*((rT far (n+1) f).2.1*(rT far (n+1) f).1)):=by
 intro n
 induction n with
 | zero =>
  have e:rT far 1 f=Ce f far:=by show Aj _ (1,0,0,1)=_;exact Eb
  rw [e]
  simp [Ce]
 | succ n ih =>
  obtain ⟨h1,h2⟩:=ih
  have hL:=Lv.rF (n+1) h
  rw [Ma (n:=n+1)]
  have er:rF far (n+1+1) f=aft far (rF far (n+1) f):=Uq
  rw [er]
  generalize rT far (n+1) f=t at *
  generalize rF far (n+1) f=g at *
  obtain ⟨p,q,r,s⟩:=t
  have e1:(Aj (p,q,r,s) (Ce g far)).2.1=kB g far*q - p:=by simp only [Aj,Ce];grind
  have e2:(Aj (p,q,r,s) (Ce g far)).1=q:=by simp only [Aj,Ce];grind
  rw [e1,e2]
  simp only at h1 h2
  have ks:=hL.k_sign
  have ks':=hL.next.k_sign
  have ha:=JM hL.S
  have fst:=(Gy hL).1
  have key:0 < (kB g far*q - p)*(kB g far*q):=by
   have k0:kB g far≠0:=by
    rcases Int.lt_or_lt_of_ne ha with z | z
    ·have:=ks.2 z;omega
    ·have:=ks.1 z;omega
   have kq:kB g far*q≠0:=Int.mul_ne_zero k0 h1
   have x1:=sq_pos kq
   have x2:(kB g far*q - p)*(kB g far*q)=(kB g far*q)*(kB g far*q) + -(kB g far*(q*p)):=by grind
   omega
  refine ⟨fun z=>by rw [z] at key;simp at key,?_⟩
  have hu:kB g far*kB (aft far g) far < 0:=by
   rcases Int.lt_or_lt_of_ne ha with z | z
   ·have a1:=ks.2 z
    have a2:=ks'.1 (by rw [fst];exact hL.pos z)
    exact Int.mul_neg_of_pos_of_neg a1 a2
   ·have a1:=ks.1 z
    have a2:=ks'.2 (by rw [fst];exact hL.neg z)
    exact Int.mul_neg_of_neg_of_pos a1 a2
  generalize kB g far=k at *
  generalize kB (aft far g) far=k' at *
  generalize k*q - p=w at *
  rcases Int.lt_or_le 0 (k'*(w*q)) with z | z
  ·exfalso
   have x:=Int.mul_pos key z
   have e3:w*(k*q)*(k'*(w*q))=(k*k')*((w*q)*(w*q)):=by grind
   have y:=Int.mul_nonneg (show 0≤-(k*k') by omega) (sq_nonneg (w*q))
   have e4:-(k*k')*((w*q)*(w*q))=-((k*k')*((w*q)*(w*q))):=by grind
   omega
  ·omega
end My
namespace My
open PySem L2
noncomputable def Od (n f:Int) (r:I3):I3:=(r.2.2*r.2.1 - r.1,(n - (r.2.2*r.2.1 - r.1)*(r.2.2*r.2.1 - r.1)).fdiv r.2.1,(f+(r.2.2*r.2.1 - r.1)).fdiv ((n - (r.2.2*r.2.1 - r.1)*(r.2.2*r.2.1 - r.1)).fdiv r.2.1))
noncomputable def rowAt (n f:Int):Nat→I3
 | 0=>(0,1,f)
 | i+1=>Od n f (rowAt n f i)
structure S7 (n f:Int) (r s:I3):Prop where
 p:s.1=r.2.2*r.2.1 - r.1
 q:r.2.1*s.2.1=n - s.1*s.1
 a:s.2.2*s.2.1≤f+s.1
 b:f+s.1 < (s.2.2+1)*s.2.1
 p0:0 < s.1
 pf:s.1≤f
 q1:1≤s.2.1
 a1:1≤s.2.2
 w:f < s.1+s.2.1
 q2:s.2.1≤2*f
 v:f < s.1+r.2.1
noncomputable def chk (n f:Nat):Nat→Nat→Nat→Nat→Bool
 | 0,_,_,_=>false
 | k+1,p,q,a =>
  (fun p'=>(fun q'=>(fun a' =>
  (Nat.ble p (a*q) && (Nat.ble (p'*p') n && (Nat.beq (q*q') (n - p'*p') && (Nat.ble 1 p' && (Nat.ble p' f && (Nat.ble 1 q' && (Nat.ble 1 a' && (Nat.ble (f+1) (p'+q') && (Nat.ble q' (2*f) && Nat.ble (f+1) (p'+q')))))))))) &&
   (Nat.beq q' 1 || chk n f k p' q' a'))
   ((f+p') / q')) ((n - p'*p') / q)) (a*q - p)
noncomputable def Ab7 (f:Nat):Nat→Bool
 | 0=>true
 | d+1=>chk (f*f+(d+1)) f 90 0 1 f && Ab7 f d
noncomputable def Aer:Nat→Bool
 | 0=>true
 | f+1=>Ab7 (f+1) (2*(f+1)) && Aer f
theorem AeT:Aer 31=true:=by decide +kernel
theorem Yt {f:Nat}:∀ {d k:Nat},Ab7 f d=true→1≤k→k≤d→chk (f*f+k) f 90 0 1 f=true
 | 0,k,_,h1,h2=>by omega
 | d+1,k,h,h1,h2=>by
  unfold Ab7 at h
  rw [Bool.and_eq_true] at h
  rcases Nat.lt_or_ge k (d+1) with z | z
  ·exact Yt h.2 h1 (by omega)
  ·have:k=d+1:=by omega
   subst this
   exact h.1
theorem Zi:∀ {F f:Nat},Aer F=true→1≤f→f≤F→Ab7 f (2*f)=true
 | 0,f,_,h1,h2=>by omega
 | F+1,f,h,h1,h2=>by
  unfold Aer at h
  rw [Bool.and_eq_true] at h
  rcases Nat.lt_or_ge f (F+1) with z | z
  ·exact Zi h.2 h1 (by omega)
  ·have:f=F+1:=by omega
   subst this
   exact h.1
theorem Ahf {f d:Nat} (h1:1≤f) (h2:f≤31) (h3:1≤d) (h4:d≤2*f):chk (f*f+d) f 90 0 1 f=true:=Yt (Zi AeT h1 h2) h3 h4
theorem AaY {n f p q a:Nat} (h1:p≤a*q) (h2:(a*q - p)*(a*q - p)≤n):Od n f ((p:Int),(q:Int),(a:Int))=(((a*q - p:Nat):Int),(((n - (a*q - p)*(a*q - p)) / q:Nat):Int),(((f+(a*q - p)) / ((n - (a*q - p)*(a*q - p)) / q):Nat):Int)):=by
 have e1:(a:Int)*q - p=((a*q - p:Nat):Int):=by push_cast [h1];omega
 unfold Od
 dsimp only
 rw [e1]
 generalize a*q - p=p' at *
 have e2:((n:Int) - p'*p').fdiv q=(((n - p'*p') / q:Nat):Int):=by
  have:(n:Int) - p'*p'=((n - p'*p':Nat):Int):=by
   have:=Int.natCast_mul p' p'
   omega
  rw [this,Int.fdiv_eq_ediv_of_nonneg _ (by omega)]
  exact (Int.natCast_ediv _ _).symm
 rw [e2]
 have e3:((f:Int)+p').fdiv (((n - p'*p') / q:Nat):Int)=(((f+p') / ((n - p'*p') / q):Nat):Int):=by
  rw [Int.fdiv_eq_ediv_of_nonneg _ (Int.natCast_nonneg _)]
  have:(f:Int)+p'=((f+p':Nat):Int):=by omega
  rw [this]
  exact (Int.natCast_ediv _ _).symm
 rw [e3]
theorem Abt {n f:Nat}:∀ (k i p q a:Nat),rowAt n f i=((p:Int),(q:Int),(a:Int))→f < a*q - p+q→chk n f k p q a=true →
  ∃ L,i < L∧L≤i+k∧(rowAt n f L).2.1=1∧(∀ j,i < j→j < L→(rowAt n f j).2.1≠1)∧∀ j,i≤j→j < L→S7 n f (rowAt n f j) (rowAt n f (j+1))
 | 0,i,p,q,a,_,_,h=>by cases h
 | k+1,i,p,q,a,e,hv,h=>by
  unfold chk at h
  simp only [Bool.and_eq_true,Bool.or_eq_true,Nat.ble_eq,Nat.beq_eq] at h
  obtain ⟨⟨h1,h2,h3,h4,h5,h6,h7,h8,h9,_⟩,h10⟩:=h
  have en:rowAt n f (i+1)=Od n f (rowAt n f i):=rfl
  rw [e,AaY h1 h2] at en
  have ep:(((a*q - p:Nat):Int))=(a:Int)*q - p:=by
   have:=Int.natCast_mul a q
   omega
  have hR:S7 n f (rowAt n f i) (rowAt n f (i+1)):=by
   rw [en,e]
   have hd:=Nat.div_add_mod (f+(a*q - p)) ((n - (a*q - p)*(a*q - p)) / q)
   have hm:=Nat.mod_lt (f+(a*q - p)) (show (n - (a*q - p)*(a*q - p)) / q > 0 by omega)
   have hc:=Nat.mul_comm ((n - (a*q - p)*(a*q - p)) / q) ((f+(a*q - p)) / ((n - (a*q - p)*(a*q - p)) / q))
   generalize hq:(n - (a*q - p)*(a*q - p)) / q=q' at *
   generalize ha:(f+(a*q - p)) / q'=a' at *
   generalize hp:a*q - p=p' at *
   have c1:=Int.natCast_mul p' p'
   have c2:=Int.natCast_mul q q'
   have c3:=Int.natCast_mul a' q'
   refine ⟨ep,?_,?_,?_,?_,?_,?_,?_,?_,?_,?_⟩ <;> dsimp only
   ·omega
   ·omega
   ·have:((a':Int)+1)*q'=a'*q'+q':=by rw [Int.add_mul,Int.one_mul]
    omega
   ·omega
   ·omega
   ·omega
   ·omega
   ·omega
   ·omega
   ·omega
  by_cases hz:(n - (a*q - p)*(a*q - p)) / q=1
  ·refine ⟨i+1,by omega,by omega,by rw [en];dsimp only;rw [hz];rfl,fun j h1 h2=>by omega,fun j h1 h2=>?_⟩
   have:j=i:=by omega
   subst this
   exact hR
  ·have h11:=h10.resolve_left hz
   have hv':f < (f+(a*q - p)) / ((n - (a*q - p)*(a*q - p)) / q)*((n - (a*q - p)*(a*q - p)) / q) - (a*q - p)+((n - (a*q - p)*(a*q - p)) / q):=by
    have hd:=Nat.div_add_mod (f+(a*q - p)) ((n - (a*q - p)*(a*q - p)) / q)
    have hm:=Nat.mod_lt (f+(a*q - p)) (show (n - (a*q - p)*(a*q - p)) / q > 0 by omega)
    have hc:=Nat.mul_comm ((n - (a*q - p)*(a*q - p)) / q) ((f+(a*q - p)) / ((n - (a*q - p)*(a*q - p)) / q))
    omega
   obtain ⟨L,l1,l2,l3,l4,l5⟩:=Abt k (i+1) _ _ _ en hv' h11
   refine ⟨L,by omega,by omega,l3,fun j h1 h2=>?_,fun j h1 h2=>?_⟩
   ·rcases Nat.lt_or_ge (i+1) j with z | z
    ·exact l4 j z h2
    ·have:j=i+1:=by omega
     subst this
     rw [en]
     dsimp only
     omega
   ·rcases Nat.lt_or_ge i j with z | z
    ·exact l5 j z h2
    ·have:j=i:=by omega
     subst this
     exact hR
structure Aw (n f:Int) (L:Nat):Prop where
 r:Sq n f
 f1:1≤f
 f31:f≤31
 ne:f*f≠n
 l0:0 < L
 lm:L≤90
 e:(rowAt n f L).2.1=1
 l:∀ j,0 < j→j < L→(rowAt n f j).2.1≠1
 ok:∀ j,S7 n f (rowAt n f j) (rowAt n f (j+1))
 per:∀ j,rowAt n f (L+1+j)=rowAt n f (1+j)
theorem Uy {n f:Int} (h:Sq n f) (h2:2≤n) (hm:n≤1000) (hs:f*f≠n):∃ L,Aw n f L:=by
 obtain ⟨h0,h1,h3⟩:=h
 have f1:1≤f:=by
  rcases Int.lt_or_le f 1 with z | z
  ·have:f=0:=by omega
   subst this
   omega
  ·exact z
 have f31:f≤31:=by
  rcases Int.lt_or_le 31 f with z | z
  ·have:=Int.mul_le_mul (show 32≤f by omega) (show 32≤f by omega) (by decide) (by omega)
   omega
  ·exact z
 obtain ⟨F,rfl⟩:=Int.eq_ofNat_of_zero_le h0
 have e1:((F:Int)+1)*((F:Int)+1)=F*F+2*F+1:=by grind
 obtain ⟨d,hd⟩:=Int.eq_ofNat_of_zero_le (show 0≤n - (F:Int)*F by omega)
 have en:n=((F*F+d:Nat):Int):=by
  have:=Int.natCast_mul F F
  omega
 subst en
 have hc:=Ahf (f:=F) (d:=d) (by omega) (by omega) (by omega) (by omega)
 obtain ⟨L,l1,l2,l3,l4,l5⟩:=Abt (n:=F*F+d) (f:=F) 90 0 0 1 F rfl (by omega) hc
 have hl:=l5 (L - 1) (by omega) (by omega)
 rw [show L - 1+1=L by omega] at hl
 have eL:rowAt ((F*F+d:Nat):Int) F L=((F:Int),1,2*(F:Int)):=by
  have h1:=hl.pf
  have h2:=hl.w
  have h3:=hl.a
  have h4:=hl.b
  generalize rowAt ((F*F+d:Nat):Int) F L=s at *
  obtain ⟨a,b,c⟩:=s
  dsimp only at *
  subst l3
  refine Prod.ext ?_ (Prod.ext rfl ?_) <;> dsimp only <;> omega
 have per0:rowAt ((F*F+d:Nat):Int) F (L+1)=rowAt ((F*F+d:Nat):Int) F 1:=by
  show Od _ _ (rowAt _ _ L)=Od _ _ (0,1,(F:Int))
  rw [eL]
  have e:2*(F:Int)*1 - F=(F:Int)*1 - 0:=by omega
  unfold Od
  dsimp only
  rw [e]
 have per:∀ j,rowAt ((F*F+d:Nat):Int) F (L+1+j)=rowAt ((F*F+d:Nat):Int) F (1+j):=fun j=>by
  induction j with
  | zero=>exact per0
  | succ j ih =>
   show Od _ _ (rowAt _ _ (L+1+j))=Od _ _ (rowAt _ _ (1+j))
   rw [ih]
 have okp:∀ k j,j < k→S7 ((F*F+d:Nat):Int) F (rowAt _ F j) (rowAt _ F (j+1)):=fun k=>by
  induction k with
  | zero=>intro j h;omega
  | succ k ih =>
   intro j hj
   rcases Nat.lt_or_ge j L with z | z
   ·exact l5 j (by omega) z
   ·rcases Nat.lt_or_ge L j with y | y
    ·have:=ih (j - L) (by omega)
     have e1:rowAt ((F*F+d:Nat):Int) F j=rowAt ((F*F+d:Nat):Int) F (j - L):=by
      have:=per (j - L - 1)
      rw [show L+1+(j - L - 1)=j by omega,show 1+(j - L - 1)=j - L by omega] at this
      exact this
     have e2:rowAt ((F*F+d:Nat):Int) F (j+1)=rowAt ((F*F+d:Nat):Int) F (j - L+1):=by
      have:=per (j - L)
      rw [show L+1+(j - L)=j+1 by omega,show 1+(j - L)=j - L+1 by omega] at this
      exact this
     rw [e1,e2]
     exact this
    ·have:j=L:=by omega
     subst this
     have h0:S7 ((F*F+d:Nat):Int) F (rowAt _ F 0) (rowAt _ F 1):=l5 0 (by omega) (by omega)
     rw [per0]
     rw [eL]
     have e0:rowAt ((F*F+d:Nat):Int) F 0=(0,1,(F:Int)):=rfl
     rw [e0] at h0
     obtain ⟨a1,a2,a3,a4,a5,a6,a7,a8,a9,a10,a11⟩:=h0
     dsimp only at a1 a2 a11
     exact ⟨by dsimp only;omega,a2,a3,a4,a5,a6,a7,a8,a9,a10,a11⟩
 exact ⟨L,⟨by omega,h1,h3⟩,by omega,by omega,hs,l1,by omega,l3,fun j a b=>l4 j a b,fun j=>okp (j+1) j (by omega),per⟩
theorem Aw.round {n f:Int} {L:Nat} (C:Aw n f L):∀ m j,rowAt n f (1+(j+m*L))=rowAt n f (1+j)
 | 0,j=>by rw [Nat.zero_mul,Nat.add_zero]
 | m+1,j=>by
  have:=C.per (j+m*L)
  rw [show L+1+(j+m*L)=1+(j+(m+1)*L) by rw [Nat.succ_mul];omega] at this
  rw [this,C.round m j]
theorem Aw.mod {n f:Int} {L:Nat} (C:Aw n f L) (k:Nat) (h:0 < k):rowAt n f k=rowAt n f (1+(k - 1) % L):=by
 have:=C.round ((k - 1) / L) ((k - 1) % L)
 rw [show 1+((k - 1) % L+(k - 1) / L*L)=k by have:=Nat.mod_add_div (k - 1) L;rw [Nat.mul_comm];omega] at this
 exact this
theorem Aw.small {n f:Int} {L:Nat} (C:Aw n f L) (j:Nat):0≤(rowAt n f j).1∧(rowAt n f j).1≤31∧1≤(rowAt n f j).2.1∧(rowAt n f j).2.1≤62∧1≤(rowAt n f j).2.2∧(rowAt n f j).2.2≤62:=by
 have h1:=C.f1
 have h31:=C.f31
 match j with
 | 0 =>
  have e0:rowAt n f 0=(0,1,f):=rfl
  rw [e0]
  dsimp only
  omega
 | j+1 =>
  have h:=C.ok j
  obtain ⟨a1,a2,a3,a4,a5,a6,a7,a8,a9,a10,a11⟩:=h
  generalize rowAt n f (j+1)=s at *
  obtain ⟨x,y,z⟩:=s
  dsimp only at *
  refine ⟨by omega,by omega,by omega,by omega,by omega,?_⟩
  have:=Int.mul_le_mul_of_nonneg_left a7 (show 0≤z by omega)
  omega
end My
namespace My
open PySem L2
noncomputable def prB (p:I2 × I2) (a:Int):I2 × I2:=(p.2,(a*p.2.1+p.1.1,a*p.2.2+p.1.2))
noncomputable def Av (n f:Int):Nat→I2 × I2
 | 0=>((1,0),(f,1))
 | k+1=>prB (Av n f k) (rowAt n f (k+1)).2.2
noncomputable def sg:Nat→Int
 | 0=>1
 | k+1=>-sg k
theorem Jh (k:Nat):sg k=1∨sg k=-1:=by
 induction k with
 | zero=>exact .inl rfl
 | succ k ih=>unfold sg;omega
theorem AbD (k:Nat):sg k=if k % 2=0 then 1 else -1:=by
 induction k with
 | zero=>rfl
 | succ k ih =>
  unfold sg
  rw [ih]
  split <;> split <;> omega
structure AdJ (n s:Int) (r t:I3) (x' y' x y:Int):Prop where
 a:x*x - n*(y*y)=-s*t.2.1
 b:x'*x' - n*(y'*y')=s*r.2.1
 c:x*x' - n*(y*y')=s*t.1
 d:x*y' - x'*y=-s
 x0:1≤x
 y0:1≤y
 x1:1≤x'
 y1:0≤y'
 yy:y'≤y
theorem Aw.fr {n f:Int} {L:Nat} (C:Aw n f L):∀ k,AdJ n (sg k) (rowAt n f k) (rowAt n f (k+1)) (Av n f k).1.1 (Av n f k).1.2 (Av n f k).2.1 (Av n f k).2.2
 | 0=>by
  have h:=(C.ok 0)
  have h1:=h.p
  have h2:=h.q
  have hf:=C.f1
  have e0:rowAt n f 0=(0,1,f):=rfl
  rw [e0] at h1 h2
  dsimp only at h1 h2
  have e1:(rowAt n f (0+1)).1=f:=by omega
  rw [e1] at h2
  refine ⟨?_,?_,?_,?_,?_,?_,?_,?_,?_⟩ <;> simp only [Av,sg,e0,e1] <;> omega
 | k+1=>by
  obtain ⟨a,b,c,d,x0,y0,x1,y1,yy⟩:=C.fr k
  have h:=C.ok (k+1)
  have hp:=h.p
  have hq:=h.q
  have g:=C.ok k
  have gq:=g.q
  have g1:=g.q1
  have a1:=g.a1
  show AdJ n (sg (k+1)) (rowAt n f (k+1)) (rowAt n f (k+1+1)) (Av n f k).2.1 (Av n f k).2.2 ((rowAt n f (k+1)).2.2*(Av n f k).2.1+(Av n f k).1.1) ((rowAt n f (k+1)).2.2*(Av n f k).2.2+(Av n f k).1.2)
  show AdJ n (-sg k) _ _ _ _ _ _
  generalize sg k=s at *
  generalize Av n f k=pr at *
  generalize rowAt n f (k+1+1)=t at *
  generalize rowAt n f (k+1)=u at *
  generalize rowAt n f k=r at *
  obtain ⟨⟨x',y'⟩,x,y⟩:=pr
  obtain ⟨r1,r2,r3⟩:=r
  obtain ⟨u1,u2,u3⟩:=u
  obtain ⟨t1,t2,t3⟩:=t
  dsimp only at *
  have hx:=Int.mul_le_mul a1 x0 (by decide) (by omega)
  have hy:=Int.mul_le_mul a1 y0 (by decide) (by omega)
  have hy':=Int.mul_le_mul_of_nonneg_right a1 (show 0≤y by omega)
  refine ⟨?_,?_,?_,?_,?_,?_,?_,?_,?_⟩ <;> (try dsimp only)
  ·have e:(u3*x+x')*(u3*x+x') - n*((u3*y+y')*(u3*y+y'))=s*(-(u3*u3*u2)+2*u3*u1+r2):=by
    have z:(u3*x+x')*(u3*x+x') - n*((u3*y+y')*(u3*y+y'))=u3*u3*(x*x - n*(y*y))+2*u3*(x*x' - n*(y*y'))+(x'*x' - n*(y'*y')):=by grind
    rw [z,a,b,c]
    grind
   rw [e]
   have e2:-(u3*u3*u2)+2*u3*u1+r2=t2:=by
    have:u2*(-(u3*u3*u2)+2*u3*u1+r2)=u2*t2:=by
     rw [hq,hp]
     grind
    exact Int.eq_of_mul_eq_mul_left (by omega) this
   rw [e2]
   grind
  ·rw [a]
  ·have z:(u3*x+x')*x - n*((u3*y+y')*y)=u3*(x*x - n*(y*y))+(x*x' - n*(y*y')):=by grind
   rw [z,a,c,hp]
   grind
  ·have z:(u3*x+x')*y - x*(u3*y+y')=-(x*y' - x'*y):=by grind
   rw [z,d]
  ·omega
  ·omega
  ·omega
  ·omega
  ·omega
theorem Aw.sizes {n f:Int} {L:Nat} (C:Aw n f L):∀ k,(Av n f k).2.1≤32*(Av n f k).2.2∧(Av n f k).1.1≤32*(Av n f k).1.2+1∧(k:Int)≤(Av n f k).2.2∧(0 < k→(Av n f k).1.1≤32*(Av n f k).1.2∧1≤(Av n f k).1.2)
 | 0=>by
  have:=C.f31
  refine ⟨?_,?_,?_,?_⟩ <;> simp only [Av] <;> omega
 | k+1=>by
  obtain ⟨h1,h2,h3,h4⟩:=C.sizes k
  have F:=C.fr k
  have y0:=F.y0
  have g:=(C.ok k).a1
  have f31:=C.f31
  have gg:=C.small (k+1)
  show (rowAt n f (k+1)).2.2*(Av n f k).2.1+(Av n f k).1.1≤32*((rowAt n f (k+1)).2.2*(Av n f k).2.2+(Av n f k).1.2)∧(Av n f k).2.1≤32*(Av n f k).2.2+1∧((k+1:Nat):Int)≤(rowAt n f (k+1)).2.2*(Av n f k).2.2+(Av n f k).1.2∧(0 < k+1→(Av n f k).2.1≤32*(Av n f k).2.2∧1≤(Av n f k).2.2)
  have m1:=Int.mul_le_mul_of_nonneg_left h1 (show 0≤(rowAt n f (k+1)).2.2 by omega)
  have m2:=Int.mul_le_mul_of_nonneg_right g (show 0≤(Av n f k).2.2 by omega)
  have e:(rowAt n f (k+1)).2.2*(32*(Av n f k).2.2)=32*((rowAt n f (k+1)).2.2*(Av n f k).2.2):=by grind
  refine ⟨?_,by omega,?_,fun _=>⟨h1,y0⟩⟩
  ·rcases Nat.eq_zero_or_pos k with z | z
   ·subst z
    have e1:Av n f 0=((1,0),(f,1)):=rfl
    rw [e1] at *
    dsimp only at *
    have:=Int.mul_le_mul_of_nonneg_left f31 (show 0≤(rowAt n f (0+1)).2.2 by omega)
    omega
   ·have:=h4 z
    omega
  ·rcases Nat.eq_zero_or_pos k with z | z
   ·subst z
    have e1:Av n f 0=((1,0),(f,1)):=rfl
    rw [e1] at *
    dsimp only at *
    omega
   ·have:=h4 z
    omega
theorem Aw.ybt {n f:Int} {L:Nat} (C:Aw n f L):∀ k,(Av n f k).2.2≤2 ^ (6*k)
 | 0=>by show (1:Int)≤2 ^ 0;decide
 | k+1=>by
  have h:=C.ybt k
  have F:=C.fr k
  have y0:=F.y0
  have yy:=F.yy
  have g:=C.small (k+1)
  show (rowAt n f (k+1)).2.2*(Av n f k).2.2+(Av n f k).1.2≤_
  have m:=Int.mul_le_mul_of_nonneg_right (show (rowAt n f (k+1)).2.2≤62 by omega) (show 0≤(Av n f k).2.2 by omega)
  have e:(2:Int) ^ (6*(k+1))=64*2 ^ (6*k):=by rw [show 6*(k+1)=6*k+6 by omega,Int.pow_add];omega
  omega
theorem HW {m:Nat} {x:Int} (h0:0≤x) (h:x≤2 ^ m):Bt (m+1) x:=by
 unfold Bt
 obtain ⟨X,rfl⟩:=Int.eq_ofNat_of_zero_le h0
 have e:((2:Int) ^ m)=((2 ^ m:Nat):Int):=by push_cast;rfl
 rw [e] at h
 rw [Int.natAbs_natCast,Nat.pow_succ]
 have:0 < 2 ^ m:=Nat.pow_pos (by decide)
 omega
theorem Aw.bty {n f:Int} {L:Nat} (C:Aw n f L) (k:Nat):Bt (6*k+1) (Av n f k).2.2:=HW (by have:=(C.fr k).y0;omega) (C.ybt k)
theorem Aw.btx {n f:Int} {L:Nat} (C:Aw n f L) (k:Nat):Bt (6*k+6) (Av n f k).2.1:=by
 have h:=C.ybt k
 have h1:=(C.sizes k).1
 refine HW (by have:=(C.fr k).x0;omega) ?_
 have e:(2:Int) ^ (6*k+5)=32*2 ^ (6*k):=by rw [Int.pow_add];omega
 omega
structure Nb (n most x1 y1 x2 y2:Int):Prop where
 a1:0≤x1
 b1:1≤y1
 a2:0≤x2
 b2:1≤y2
 m1:y1≤most
 m2:y2≤most
 m:most < y1+y2
 lo:x1*x1 < n*(y1*y1)
 hi:n*(y2*y2) < x2*x2
 d:x2*y1 - x1*y2=1
theorem W7 {n f s most x' y' x y t:Int} {r u:I3} (F:AdJ n s r u x' y' x y) (g:S7 n f r u) (hs:s=1∨s=-1) (fr:Sq n f) (fne:f*f≠n) (h1:y≤most) (h2:most < u.2.2*y+y') (ft:t=(most - y') / y) (hy:1≤y'∨y=1) :
  (s=1∧Nb n most x y (t*x+x') (t*y+y'))∨(s=-1∧Nb n most (t*x+x') (t*y+y') x y):=by
 obtain ⟨a,b,c,d,x0,y0,x1',y1',yy⟩:=F
 have gq:=g.q
 have gq1:=g.q1
 have ga:=g.a
 have gp:=g.p0
 have gf:=g.pf
 have eq:=Int.mul_ediv_self_le (x:=most - y') (k:=y) (by omega)
 have el:=Int.lt_mul_ediv_self_add (x:=most - y') (k:=y) (by omega)
 rw [←ft] at eq el
 have t0:0≤t:=by rw [ft];exact Int.ediv_nonneg (by omega) (by omega)
 obtain ⟨r1,r2,r3⟩:=r
 obtain ⟨u1,u2,u3⟩:=u
 dsimp only at *
 have tc:t*y=y*t:=Int.mul_comm _ _
 have ta:t≤u3:=by
  rcases Int.lt_or_le u3 t with z | z
  ·have:=Int.mul_le_mul_of_nonneg_right (Int.le_of_lt z) (show 0≤y by omega)
   omega
  ·exact z
 have y2p:1≤t*y+y':=by
  rcases hy with z | z
  ·have:=Int.mul_nonneg t0 (show 0≤y by omega)
   omega
  ·subst z
   omega
 have x2p:0≤t*x+x':=by
  have:=Int.mul_nonneg t0 (show 0≤x by omega)
  omega
 obtain ⟨f0,f1,f2⟩:=fr
 have gg:0 < -(t*t*u2)+2*t*u1+r2:=by
  have e:u2*(-(t*t*u2)+2*t*u1+r2)=n - (t*u2 - u1)*(t*u2 - u1):=by
   have:n=r2*u2+u1*u1:=by omega
   rw [this]
   grind
  have l1:t*u2 - u1≤f:=by
   have:=Int.mul_le_mul_of_nonneg_right ta (show 0≤u2 by omega)
   omega
  have l2:-f≤t*u2 - u1:=by
   have:=Int.mul_nonneg t0 (show 0≤u2 by omega)
   omega
  have l3:(t*u2 - u1)*(t*u2 - u1)≤f*f:=by
   have:=Int.mul_nonneg (show 0≤f - (t*u2 - u1) by omega) (show 0≤f+(t*u2 - u1) by omega)
   have e:(f - (t*u2 - u1))*(f+(t*u2 - u1))=f*f - (t*u2 - u1)*(t*u2 - u1):=by grind
   omega
  have l4:0 < u2*(-(t*t*u2)+2*t*u1+r2):=by omega
  exact Int.pos_of_mul_pos_right l4 (by omega)
 have ev:(t*x+x')*(t*x+x') - n*((t*y+y')*(t*y+y'))=s*(-(t*t*u2)+2*t*u1+r2):=by
  have z:(t*x+x')*(t*x+x') - n*((t*y+y')*(t*y+y'))=t*t*(x*x - n*(y*y))+2*t*(x*x' - n*(y*y'))+(x'*x' - n*(y'*y')):=by grind
  rw [z,a,b,c]
  grind
 have ed:(t*x+x')*y - x*(t*y+y')=s:=by
  have z:(t*x+x')*y - x*(t*y+y')=-(x*y' - x'*y):=by grind
  rw [z,d]
  omega
 rcases hs with hs | hs
 ·subst hs
  exact .inl ⟨rfl,by omega,by omega,x2p,y2p,h1,by omega,by omega,by omega,by omega,by omega⟩
 ·subst hs
  have:x*(t*y+y') - (t*x+x')*y=1:=by omega
  exact .inr ⟨rfl,x2p,y2p,by omega,by omega,by omega,h1,by omega,by omega,by omega,this⟩
theorem Aw.beside {n f:Int} {L:Nat} (C:Aw n f L) {k:Nat} {most t:Int} (h1:(Av n f k).2.2≤most) (h2:most < (Av n f (k+1)).2.2) (ft:t=(most - (Av n f k).1.2).fdiv (Av n f k).2.2) :
  (sg k=1∧Nb n most (Av n f k).2.1 (Av n f k).2.2 (prB (Av n f k) t).2.1 (prB (Av n f k) t).2.2)∨(sg k=-1∧Nb n most (prB (Av n f k) t).2.1 (prB (Av n f k) t).2.2 (Av n f k).2.1 (Av n f k).2.2):=by
 have F:=C.fr k
 refine W7 F (C.ok k) (Jh k) C.r C.ne h1 h2 (ft.trans (Int.fdiv_eq_ediv_of_nonneg _ (by have:=F.y0;omega))) ?_
 rcases Nat.eq_zero_or_pos k with z | z
 ·subst z
  exact .inr rfl
 ·exact .inl ((C.sizes k).2.2.2 z).2
theorem Nb.none {n most x1 y1 x2 y2 x y:Int} (h:Nb n most x1 y1 x2 y2) (hy:y≤most):x*y1≤x1*y∨x2*y≤x*y2:=by
 obtain ⟨a1,b1,a2,b2,m1,m2,m,lo,hi,d⟩:=h
 rcases Int.lt_or_le (x1*y) (x*y1) with z | z
 ·rcases Int.lt_or_le (x*y2) (x2*y) with w | w
  ·exfalso
   have e:y=y1*(x2*y - x*y2)+y2*(x*y1 - x1*y):=by
    have:y1*(x2*y - x*y2)+y2*(x*y1 - x1*y)=y*(x2*y1 - x1*y2):=by grind
    rw [this,d,Int.mul_one]
   have p1:=Int.mul_le_mul_of_nonneg_left (show 1≤x2*y - x*y2 by omega) (show 0≤y1 by omega)
   have p2:=Int.mul_le_mul_of_nonneg_left (show 1≤x*y1 - x1*y by omega) (show 0≤y2 by omega)
   omega
  ·exact .inr w
 ·exact .inl z
noncomputable def above (n x1 y1 x2 y2:Int):Prop:=(x1*y2+x2*y1)*(x1*y2+x2*y1) < n*(2*y1*y2)*(2*y1*y2)
theorem Ae6 {a b:Int} (ha:0≤a) (h:a < b):a*a < b*b:=by
 have h1:=Int.mul_le_mul_of_nonneg_left (Int.le_of_lt h) ha
 have h2:=Int.mul_lt_mul_of_pos_right h (show 0 < b by omega)
 omega
theorem AbX {a b:Int} (ha:0≤a) (h:a≤b):a*a≤b*b:=Int.mul_le_mul h h ha (by omega)
theorem Rj {a b:Int} (hb:0≤b) (h:a*a < b*b):a < b:=by
 rcases Int.lt_or_le a b with z | z
 ·exact z
 ·have:=AbX hb z
  omega
end My
namespace My
open PySem L2
theorem Vh {n f:Int} {L:Nat} (C:Aw n f L) {e:Int} (he:e=1∨e=-1):∀ (m k:Nat) (u v:Int),(u+v).toNat≤m→1≤u→0≤v→v≤u →
  sg k*(-((rowAt n f (k+1)).2.1*(u*u))+2*(rowAt n f (k+1)).1*(u*v)+(rowAt n f k).2.1*(v*v))=e →
  ∃ j,u*(Av n f k).2.1+v*(Av n f k).1.1=(Av n f j).2.1∧u*(Av n f k).2.2+v*(Av n f k).1.2=(Av n f j).2.2∧(rowAt n f (j+1)).2.1=1∧e=-sg j
 | 0,k,u,v,hm,hu,hv,_,_=>by omega
 | m+1,k,u,v,hm,hu,hv,huv,hval=>by
  have g:=C.ok k
  have g':=C.ok (k+1)
  have hs:=Jh k
  rcases Int.lt_or_le 0 v with hv1 | hv1
  ·
   have a1:=g.a1
   have ga:=g.a
   have gb:=g.b
   have gq:=g.q
   have q1:=g.q1
   have p2:=g'.p
   have gq':=g'.q
   have v2:=g'.v
   have q1':=g'.q1
   have p0':=g'.p0
   have pf:=g.pf
   have fr:=C.r
   have fne:=C.ne
   have f1:=C.f1
   have eqv:-((rowAt n f (k+1+1)).2.1)=(rowAt n f (k+1)).2.1*((rowAt n f (k+1)).2.2*(rowAt n f (k+1)).2.2) - 2*(rowAt n f (k+1)).1*(rowAt n f (k+1)).2.2 - (rowAt n f k).2.1:=by
    have:(rowAt n f (k+1)).2.1 * -((rowAt n f (k+1+1)).2.1)=(rowAt n f (k+1)).2.1*((rowAt n f (k+1)).2.1*((rowAt n f (k+1)).2.2*(rowAt n f (k+1)).2.2) - 2*(rowAt n f (k+1)).1*(rowAt n f (k+1)).2.2 - (rowAt n f k).2.1):=by
     have e1:(rowAt n f (k+1)).2.1 * -((rowAt n f (k+1+1)).2.1)=-(n - (rowAt n f (k+1+1)).1*(rowAt n f (k+1+1)).1):=by rw [←gq'];grind
     rw [e1,p2]
     have e2:n=(rowAt n f k).2.1*(rowAt n f (k+1)).2.1+(rowAt n f (k+1)).1*(rowAt n f (k+1)).1:=by omega
     grind
    exact Int.eq_of_mul_eq_mul_left (by omega) this
   have step:Av n f (k+1)=((Av n f k).2,((rowAt n f (k+1)).2.2*(Av n f k).2.1+(Av n f k).1.1,(rowAt n f (k+1)).2.2*(Av n f k).2.2+(Av n f k).1.2)):=rfl
   have hval':(rowAt n f (k+1)).2.1*(u*u) - 2*(rowAt n f (k+1)).1*(u*v) - (rowAt n f k).2.1*(v*v)=-(sg k*e):=by
    rcases hs with hs | hs <;> rw [hs] at hval ⊢ <;> omega
   have hse:sg k*e=1∨sg k*e=-1:=by
    rcases hs with hs | hs <;> rcases he with he | he <;> rw [hs,he] <;> decide
   have sge:sg (k+1)=-sg k:=rfl
   have lo:0≤u - (rowAt n f (k+1)).2.2*v:=by
    rcases Int.lt_or_le (u - (rowAt n f (k+1)).2.2*v) 0 with z | z
    ·exfalso
     generalize sg k*e=E at *
     generalize rowAt n f (k+1+1)=t at *
     generalize rowAt n f (k+1)=s at *
     generalize rowAt n f k=r at *
     obtain ⟨r1,r2,r3⟩:=r
     obtain ⟨s1,s2,s3⟩:=s
     obtain ⟨t1,t2,t3⟩:=t
     dsimp only at *
     obtain ⟨w,hw⟩:∃ w,w=s3*v - u:=⟨_,rfl⟩
     have hu':u=s3*v - w:=by omega
     have id1:s2*(u*u) - 2*s1*(u*v) - r2*(v*v)=-t2*(v*v) - 2*t1*(v*w)+s2*(w*w):=by
      have e1:-t2*(v*v)=(s2*(s3*s3) - 2*s1*s3 - r2)*(v*v):=by rw [←eqv]
      rw [e1,p2,hu']
      grind
     rw [id1] at hval'
     have w1:1≤w:=by omega
     have w2 : w ≤ (s3 - 1) * v := by have : (s3 - 1) * v = s3 * v - v := by grind
                                      omega
     have m1:=Int.mul_le_mul_of_nonneg_left w2 (show 0≤s2*w from Int.mul_nonneg (by omega) (by omega))
     have m2:s2*w*((s3 - 1)*v)=(s1+t1 - s2)*(v*w):=by rw [p2];grind
     have vw:1≤v*w:=Int.mul_le_mul hv1 w1 (by decide) (by omega)
     have m3:=Int.mul_le_mul_of_nonneg_right (show s1+t1 - s2≤2*t1 - 1 by omega) (show 0≤v*w by omega)
     have m4:(2*t1 - 1)*(v*w)=2*t1*(v*w) - v*w:=by grind
     have m5:=Int.mul_le_mul q1' (Int.mul_le_mul hv1 hv1 (by decide) (by omega)) (by decide) (by omega)
     have m6:s2*w*w=s2*(w*w):=by grind
     have m7:-t2*(v*v)=-(t2*(v*v)):=by grind
     omega
    ·exact z
   have hi:u - (rowAt n f (k+1)).2.2*v≤v:=by
    rcases Int.lt_or_le v (u - (rowAt n f (k+1)).2.2*v) with z | z
    ·exfalso
     generalize sg k*e=E at *
     generalize rowAt n f (k+1+1)=t at *
     generalize rowAt n f (k+1)=s at *
     generalize rowAt n f k=r at *
     obtain ⟨r1,r2,r3⟩:=r
     obtain ⟨s1,s2,s3⟩:=s
     obtain ⟨t1,t2,t3⟩:=t
     dsimp only at *
     obtain ⟨w,hw⟩:∃ w,w=u - (s3+1)*v:=⟨_,rfl⟩
     have e0:(s3+1)*v=s3*v+v:=by grind
     have hu':u=(s3+1)*v+w:=by omega
     have id1:s2*(u*u) - 2*s1*(u*v) - r2*(v*v)=(s2*((s3+1)*(s3+1)) - 2*s1*(s3+1) - r2)*(v*v)+2*((s3+1)*s2 - s1)*(v*w)+s2*(w*w):=by
      rw [hu']
      grind
     rw [id1] at hval'
     have w1:1≤w:=by omega
     have vw:1≤v*w:=Int.mul_le_mul hv1 w1 (by decide) (by omega)
     have vv:1≤v*v:=Int.mul_le_mul hv1 hv1 (by decide) (by omega)
     have c1:1≤s2*((s3+1)*(s3+1)) - 2*s1*(s3+1) - r2:=by
      have e1:s2*(s2*((s3+1)*(s3+1)) - 2*s1*(s3+1) - r2)=((s3+1)*s2 - s1)*((s3+1)*s2 - s1) - n:=by
       have e2:n=r2*s2+s1*s1:=by omega
       rw [e2]
       grind
      have e3:=Int.mul_le_mul (show f+1≤(s3+1)*s2 - s1 by omega) (show f+1≤(s3+1)*s2 - s1 by omega) (by omega) (by omega)
      have e4:0 < s2*(s2*((s3+1)*(s3+1)) - 2*s1*(s3+1) - r2):=by have:=fr.2.2;omega
      have:=Int.pos_of_mul_pos_right e4 (by omega)
      omega
     have m1:=Int.mul_le_mul c1 vv (by decide) (by omega)
     have m2:=Int.mul_le_mul_of_nonneg_right (show 2≤2*((s3+1)*s2 - s1) by omega) (show 0≤v*w by omega)
     have m3:=Int.mul_nonneg (show 0≤s2 by omega) (show 0≤w*w from Int.mul_nonneg (by omega) (by omega))
     omega
    ·exact z
   have av:=Int.mul_le_mul_of_nonneg_right a1 (show 0≤v by omega)
   obtain ⟨j,j1,j2,j3,j4⟩:=Vh C he m (k+1) v (u - (rowAt n f (k+1)).2.2*v) (by omega) (by omega) lo hi (by
    rw [sge,←hval]
    generalize rowAt n f (k+1+1)=t at *
    generalize rowAt n f (k+1)=s at *
    generalize rowAt n f k=r at *
    obtain ⟨r1,r2,r3⟩:=r
    obtain ⟨s1,s2,s3⟩:=s
    obtain ⟨t1,t2,t3⟩:=t
    dsimp only at *
    have e1:-(t2*(v*v))=(s2*(s3*s3) - 2*s1*s3 - r2)*(v*v):=by rw [←eqv];grind
    rw [e1,p2]
    grind)
   refine ⟨j,?_,?_,j3,j4⟩
   ·rw [←j1,step]
    dsimp only
    grind
   ·rw [←j2,step]
    dsimp only
    grind
  ·
   have:v=0:=by omega
   subst this
   have q1:=g.q1
   have e1:sg k * -((rowAt n f (k+1)).2.1*(u*u))=e:=by rw [←hval];grind
   have uu:=Int.mul_le_mul hu hu (by decide) (by omega)
   have e2:(rowAt n f (k+1)).2.1*(u*u)=1:=by
    have:=Int.mul_le_mul q1 uu (by decide) (by omega)
    rcases hs with hs | hs <;> rcases he with he | he <;> rw [hs,he] at e1 <;> omega
   have u1:u=1:=by
    rcases Int.lt_or_le 1 u with z | z
    ·have a:=Int.mul_le_mul (show 2≤u by omega) (show 2≤u by omega) (by decide) (by omega)
     have b:=Int.mul_le_mul q1 a (by decide) (by omega)
     omega
    ·omega
   subst u1
   refine ⟨k,by omega,by omega,by omega,?_⟩
   rw [e2] at e1
   omega
theorem Aw.pell {n f:Int} {L:Nat} (C:Aw n f L) {e x y:Int} (he:e=1∨e=-1) (hx:1≤x) (hy:1≤y) (h:x*x - n*(y*y)=e):∃ j,x=(Av n f j).2.1∧y=(Av n f j).2.2∧(rowAt n f (j+1)).2.1=1∧e=-sg j:=by
 have fr:=C.r
 have fne:=C.ne
 have f1:=C.f1
 have yy:=Int.mul_le_mul hy hy (by decide) (by omega)
 have lo:f*y≤x:=by
  rcases Int.lt_or_le x (f*y) with z | z
  ·have a:=Int.mul_le_mul (show x+1≤f*y by omega) (show x+1≤f*y by omega) (by omega) (by omega)
   have b:=Int.mul_le_mul_of_nonneg_right (show f*f+1≤n by have:=fr.2.1;omega) (show 0≤y*y by omega)
   have c:f*y*(f*y)=f*f*(y*y):=by grind
   have d:(f*f+1)*(y*y)=f*f*(y*y)+y*y:=by grind
   have g:(x+1)*(x+1)=x*x+2*x+1:=by grind
   omega
  ·exact z
 have hi:x≤(f+1)*y:=by
  rcases Int.lt_or_le ((f+1)*y) x with z | z
  ·have a:=Int.mul_le_mul (show (f+1)*y+1≤x by omega) (show (f+1)*y+1≤x by omega) (by have:=Int.mul_nonneg (show 0≤f+1 by omega) (show 0≤y by omega);omega) (by omega)
   have b:=Int.mul_le_mul_of_nonneg_right (show n≤(f+1)*(f+1) by have:=fr.2.2;omega) (show 0≤y*y by omega)
   have c:((f+1)*y+1)*((f+1)*y+1)=(f+1)*(f+1)*(y*y)+2*((f+1)*y)+1:=by grind
   have d:=Int.mul_le_mul (show 1≤f+1 by omega) hy (by decide) (by omega)
   omega
  ·exact z
 have hp:=(C.ok 0).p
 have hq:=(C.ok 0).q
 have e0:rowAt n f 0=(0,1,f):=rfl
 rw [e0] at hp hq
 dsimp only at hp hq
 have ex:(f+1)*y=f*y+y:=by grind
 obtain ⟨j,j1,j2,j3,j4⟩:=Vh C he _ 0 y (x - f*y) (Nat.le_refl _) hy (by omega) (by omega) (by
  rw [e0]
  dsimp only
  have p1:(rowAt n f (0+1)).1=f:=by omega
  rw [p1] at hq ⊢
  have q1:(rowAt n f (0+1)).2.1=n - f*f:=by omega
  rw [q1,←h]
  show 1*_=_
  grind)
 have e1:Av n f 0=((1,0),(f,1)):=rfl
 rw [e1] at j1 j2
 dsimp only at j1 j2
 refine ⟨j,?_,?_,j3,j4⟩
 ·rw [←j1];grind
 ·rw [←j2];grind
theorem Aw.times {n f:Int} {L:Nat} (C:Aw n f L) {j:Nat} (h:(rowAt n f (j+1)).2.1=1):∃ m,j+1=(m+1)*L:=by
 have l0:=C.l0
 have e:=C.mod (j+1) (by omega)
 rw [Nat.add_sub_cancel] at e
 have hm:=Nat.mod_lt j l0
 have:1+j % L=L:=by
  rcases Nat.lt_or_ge (1+j % L) L with z | z
  ·exact absurd (e ▸ h) (C.l _ (by omega) z)
  ·omega
 have d:=Nat.div_add_mod j L
 refine ⟨j / L,?_⟩
 rw [Nat.succ_mul,Nat.mul_comm]
 omega
theorem Aw.grows {n f:Int} {L:Nat} (C:Aw n f L) (i:Nat):∀ d,(Av n f i).2.2≤(Av n f (i+d)).2.2
 | 0=>Int.le_refl _
 | d+1=>by
  have ih:=C.grows i d
  have:=(C.fr (i+d+1)).yy
  have e:(Av n f (i+d+1)).1.2=(Av n f (i+d)).2.2:=rfl
  rw [e] at this
  exact Int.le_trans ih this
theorem Ahu:∀ (L m:Nat),0 < L→sg (L - 1)=-1→sg ((m+1)*L - 1)=-1:=fun L m h0 h=>by
 rw [AbD] at *
 have hL:L % 2=0:=by
  by_cases z:(L - 1) % 2=0
  ·rw [if_pos z] at h;cases h
  ·omega
 have:(m+1)*L % 2=0:=by rw [Nat.mul_mod,hL];simp
 have h1:L≤(m+1)*L:=Nat.le_mul_of_pos_left _ (by omega)
 rw [if_neg (by omega)]
theorem Aw.end_val {n f:Int} {L:Nat} (C:Aw n f L):(Av n f (L - 1)).2.1*(Av n f (L - 1)).2.1 - n*((Av n f (L - 1)).2.2*(Av n f (L - 1)).2.2)=-sg (L - 1):=by
 have F:=(C.fr (L - 1)).a
 have l0:=C.l0
 rw [show L - 1+1=L by omega,C.e] at F
 rw [F]
 omega
theorem Aw.none_lesser {n f:Int} {L:Nat} (C:Aw n f L) {e x y:Int} (he:e=1∨e=-1) (hx:1≤x) (hy:1≤y) (h:x*x - n*(y*y)=e):(Av n f (L - 1)).2.2≤y∧(sg (L - 1)=-1→e=1):=by
 obtain ⟨j,j1,j2,j3,j4⟩:=C.pell he hx hy h
 obtain ⟨m,hm⟩:=C.times j3
 have l0:=C.l0
 have h1:L≤(m+1)*L:=Nat.le_mul_of_pos_left _ (by omega)
 refine ⟨?_,fun z=>?_⟩
 ·rw [j2]
  have:=C.grows (L - 1) (j - (L - 1))
  rw [show L - 1+(j - (L - 1))=j by omega] at this
  exact this
 ·have:=Ahu L m l0 z
  rw [←hm,Nat.add_sub_cancel] at this
  rw [j4,this]
  rfl
theorem Aw.plus_of_minus {n f:Int} {L:Nat} (C:Aw n f L) {x y:Int} (hs:sg (L - 1)=1) (hx:1≤x) (hy:1≤y) (h:x*x - n*(y*y)=1):2*(Av n f (L - 1)).2.1*(Av n f (L - 1)).2.2≤y:=by
 have h0:=(C.none_lesser (.inl rfl) hx hy h).1
 have hv:=C.end_val
 have F:=C.fr (L - 1)
 have x0:=F.x0
 have y0:=F.y0
 have mn:=fun {x y:Int} (hx:1≤x) (hy:1≤y) (h:x*x - n*(y*y)=-1)=>(C.none_lesser (.inr rfl) hx hy h).1
 have n2:2≤n:=by
  have:=C.r.2.1
  have:=C.ne
  have:=C.f1
  have:=Int.mul_le_mul C.f1 C.f1 (by decide) (by omega)
  omega
 rw [hs] at hv
 generalize (Av n f (L - 1)).2.1=X at *
 generalize (Av n f (L - 1)).2.2=Y at *
 have yy:=AbX (show 0≤Y by omega) h0
 have pY:1≤Y*Y:=Int.mul_le_mul y0 y0 (by decide) (by omega)
 have py:1≤y*y:=Int.mul_le_mul hy hy (by decide) (by omega)
 have b1:y*X < x*Y:=by
  refine Rj (Int.mul_nonneg (by omega) (by omega)) ?_
  have e1:y*X*(y*X)=y*y*(X*X):=by grind
  have e2:x*Y*(x*Y)=x*x*(Y*Y):=by grind
  have e3:X*X=n*(Y*Y) - 1:=by omega
  have e4:x*x=n*(y*y)+1:=by omega
  rw [e1,e2,e3,e4]
  have e5:y*y*(n*(Y*Y) - 1)=n*(y*y)*(Y*Y) - y*y:=by grind
  have e6:(n*(y*y)+1)*(Y*Y)=n*(y*y)*(Y*Y)+Y*Y:=by grind
  omega
 have b2:x*X < n*(y*Y):=by
  refine Rj (Int.mul_nonneg (by omega) (Int.mul_nonneg (by omega) (by omega))) ?_
  have e1:x*X*(x*X)=x*x*(X*X):=by grind
  have e2:n*(y*Y)*(n*(y*Y))=n*(y*y)*(n*(Y*Y)):=by grind
  have e3:X*X=n*(Y*Y) - 1:=by omega
  have e4:x*x=n*(y*y)+1:=by omega
  rw [e1,e2,e3,e4]
  have e5:(n*(y*y)+1)*(n*(Y*Y) - 1)=n*(y*y)*(n*(Y*Y)) - n*(y*y)+n*(Y*Y) - 1:=by grind
  have e6:=Int.mul_le_mul_of_nonneg_left yy (show 0≤n by omega)
  omega
 have e7:(n*(y*Y) - x*X)*(n*(y*Y) - x*X) - n*((x*Y - y*X)*(x*Y - y*X))=-1:=by
  have:(n*(y*Y) - x*X)*(n*(y*Y) - x*X) - n*((x*Y - y*X)*(x*Y - y*X))=(x*x - n*(y*y))*(X*X - n*(Y*Y)):=by grind
  rw [this,h,hv]
  rfl
 have m1:=mn (by omega) (by omega) e7
 have m2:X≤n*(y*Y) - x*X:=by
  rcases Int.lt_or_le (n*(y*Y) - x*X) X with z | z
  ·exfalso
   have a:=Ae6 (show 0≤n*(y*Y) - x*X by omega) z
   have b:=Int.mul_le_mul_of_nonneg_left (AbX (show 0≤Y by omega) m1) (show 0≤n by omega)
   omega
  ·exact z
 have e8:y=(n*(y*Y) - x*X)*Y+(x*Y - y*X)*X:=by
  have:(n*(y*Y) - x*X)*Y+(x*Y - y*X)*X=-(y*(X*X - n*(Y*Y))):=by grind
  rw [this,hv]
  omega
 have a1:=Int.mul_le_mul_of_nonneg_right m2 (show 0≤Y by omega)
 have a2:=Int.mul_le_mul_of_nonneg_right m1 (show 0≤X by omega)
 have a3:2*X*Y=X*Y+Y*X:=by grind
 omega
end My
namespace My
open PySem L2
noncomputable def slv (n f:Nat):Nat→Nat→Nat→Nat→Nat→Nat→Nat→Nat→Bool
 | 0,_,_,_,_,_,_,_=>false
 | k+1,p,q,a,x',y',x,y =>
  (fun p'=>(fun q'=>(fun a'=>if Nat.beq q' 1 then (Nat.beq (x*x) (n*(y*y)+1) || Nat.beq (x*x+1) (n*(y*y))) && (Nat.ble 1 y && (Nat.ble 1 x && (Nat.ble x (2 ^ 240) && Nat.ble y (2 ^ 240)))) else slv n f k p' q' a' x y (a'*x+x') (a'*y+y'))
   ((f+p') / q')) ((n - p'*p') / q)) (a*q - p)
noncomputable def AbV (f:Nat):Nat→Bool
 | 0=>true
 | d+1=>slv (f*f+(d+1)) f 140 0 1 f 1 0 f 1 && AbV f d
noncomputable def AeH:Nat→Bool
 | 0=>true
 | f+1=>AbV (f+1) (2*(f+1)) && AeH f
theorem AdF:AeH 63=true:=by decide +kernel
theorem Zu {f:Nat}:∀ {d k:Nat},AbV f d=true→1≤k→k≤d→slv (f*f+k) f 140 0 1 f 1 0 f 1=true
 | 0,k,_,h1,h2=>by omega
 | d+1,k,h,h1,h2=>by
  unfold AbV at h
  rw [Bool.and_eq_true] at h
  rcases Nat.lt_or_ge k (d+1) with z | z
  ·exact Zu h.2 h1 (by omega)
  ·have:k=d+1:=by omega
   subst this
   exact h.1
theorem YZ:∀ {F f:Nat},AeH F=true→1≤f→f≤F→AbV f (2*f)=true
 | 0,f,_,h1,h2=>by omega
 | F+1,f,h,h1,h2=>by
  unfold AeH at h
  rw [Bool.and_eq_true] at h
  rcases Nat.lt_or_ge f (F+1) with z | z
  ·exact YZ h.2 h1 (by omega)
  ·have:f=F+1:=by omega
   subst this
   exact h.1
theorem AbO {n f:Nat}:∀ (k p q a x' y' x y:Nat),slv n f k p q a x' y' x y=true→∃ X Y:Nat,X*X=n*(Y*Y)+1∧1≤X∧1≤Y∧Y≤2 ^ 481
 | 0,p,q,a,x',y',x,y,h=>by cases h
 | k+1,p,q,a,x',y',x,y,h=>by
  unfold slv at h
  dsimp only at h
  split at h
  ·simp only [Bool.and_eq_true,Bool.or_eq_true,Nat.ble_eq,Nat.beq_eq] at h
   obtain ⟨h1,h2,h3,h4,h5⟩:=h
   rcases h1 with h1 | h1
   ·exact ⟨x,y,h1,h3,h2,Nat.le_trans h5 (Nat.pow_le_pow_right (by decide) (by decide))⟩
   ·refine ⟨x*x+n*(y*y),2*(x*y),?_,?_,?_,?_⟩
    ·have e1:n*(2*(x*y)*(2*(x*y)))=4*((x*x)*(n*(y*y))):=by grind
     rw [e1,←h1]
     generalize x*x=z
     grind
    ·have:=Nat.mul_le_mul h3 h3
     omega
    ·have:=Nat.mul_le_mul h3 h2
     omega
    ·have:=Nat.mul_le_mul h4 h5
     have e:(2:Nat) ^ 481=2*(2 ^ 240*2 ^ 240):=by rw [←Nat.pow_add,←Nat.pow_succ']
     rw [e]
     omega
  ·exact AbO k _ _ _ _ _ _ _ h
theorem solved {n f:Int} (h:Sq n f) (h1:1≤n) (hm:n≤4000) (hs:f*f≠n):∃ X Y:Int,X*X - n*(Y*Y)=1∧1≤X∧1≤Y∧Y≤2 ^ 481:=by
 obtain ⟨h0,h2,h3⟩:=h
 have f1:1≤f:=by
  rcases Int.lt_or_le f 1 with z | z
  ·have:f=0:=by omega
   subst this
   omega
  ·exact z
 have f63:f≤63:=by
  rcases Int.lt_or_le 63 f with z | z
  ·have:=Int.mul_le_mul (show 64≤f by omega) (show 64≤f by omega) (by decide) (by omega)
   omega
  ·exact z
 obtain ⟨F,rfl⟩:=Int.eq_ofNat_of_zero_le h0
 have e1:((F:Int)+1)*((F:Int)+1)=F*F+2*F+1:=by grind
 obtain ⟨d,hd⟩:=Int.eq_ofNat_of_zero_le (show 0≤n - (F:Int)*F by omega)
 have en:n=((F*F+d:Nat):Int):=by
  have:=Int.natCast_mul F F
  omega
 subst en
 obtain ⟨X,Y,x1,x2,x3,x4⟩:=AbO 140 _ _ _ _ _ _ _ (Zu (YZ AdF (f:=F) (by omega) (by omega)) (k:=d) (by omega) (by omega))
 refine ⟨(X:Int),(Y:Int),?_,by omega,by omega,?_⟩
 ·have c1:=Int.natCast_mul X X
  have c2:=Int.natCast_mul Y Y
  have c3:=Int.natCast_mul (F*F+d) (Y*Y)
  rw [←c1,←c2,←c3]
  omega
 ·have e:((2:Int) ^ 481)=((2 ^ 481:Nat):Int):=by push_cast;rfl
  rw [e]
  omega
end My
namespace My
open PySem L2
theorem Vz {x y:Int} (h:x*x≤y*y):ab x≤ab y:=by
 rcases Int.lt_or_le (ab y) (ab x) with z | z
 ·exfalso
  have a:=Ae6 (Bh y) z
  have e:∀ x:Int,ab x*ab x=x*x:=fun x=>by rcases Ar x with ⟨_,e⟩ | ⟨_,e⟩ <;> rw [e] <;> grind
  rw [e,e] at a
  omega
 ·exact z
theorem Ahs {far:Int} {f:I3} (h:Lv far f) (n:Nat):ab (rT far (n+1) f).2.1≤ab (rT far (n+1+1) f).2.1:=by
 obtain ⟨h1,h2⟩:=AlY h n
 have hv:=Lv.rF (n+1) h
 have ks:=hv.k_sign
 have ha:=JM hv.S
 have k0:kB (rF far (n+1) f) far≠0:=by
  rcases Int.lt_or_le 0 (rF far (n+1) f).1 with z | z
  ·have:=ks.1 z;omega
  ·have:=ks.2 (by omega);omega
 have e:(rT far (n+1+1) f).2.1=-(rT far (n+1) f).1+(rT far (n+1) f).2.1*kB (rF far (n+1) f) far:=by
  rw [Ma]
  show (rT far (n+1) f).1*(-1)+(rT far (n+1) f).2.1*kB (rF far (n+1) f) far=_
  omega
 rw [e]
 apply Vz
 generalize kB (rF far (n+1) f) far=k at *
 generalize (rT far (n+1) f).1=p at *
 generalize (rT far (n+1) f).2.1=q at *
 have a1:(-p+q*k)*(-p+q*k)=p*p+2 * -(k*(q*p))+k*k*(q*q):=by grind
 have a2:=sq_pos k0
 have a3:=Int.mul_le_mul_of_nonneg_right a2 (sq_nonneg q)
 have a4:=sq_nonneg p
 omega
theorem Ym {far:Int} {f:I3} (h:Lv far f) (n:Nat):∀ d,ab (rT far (n+1) f).2.1≤ab (rT far (n+1+d) f).2.1
 | 0=>Int.le_refl _
 | d+1=>by
  have a:=Ym h n d
  have b:=Ahs h (n+d)
  rw [show n+d+1=n+1+d by omega] at b
  exact Int.le_trans a b
theorem AbP {f:I3} {t w:Int} (ha:f.1≠0) (h:t*t - meas (pl f)*(w*w)=4):∃ T:I4,det T=1∧mov f T=f∧T.2.1=-((pl f).2.2*w):=by
 obtain ⟨e1,e2,e3⟩:=Jc f
 generalize pl f=Z at *
 obtain ⟨a,b,c⟩:=Z
 dsimp only at *
 have hm:meas (a,b,c)=b*b - 4*a*c:=rfl
 rw [hm] at h
 obtain ⟨P',hP⟩:∃ P':Int,t=2*P'+b*w:=by
  have h1:(t - b*w) % 2=0:=by
   have e:(t - b*w)*(t - b*w)=4+2*(-(2*a*c*(w*w)) - b*w*(t - b*w)):=by grind
   have h2:((t - b*w)*(t - b*w)) % 2=0:=by omega
   rcases (show (t - b*w) % 2=0∨(t - b*w) % 2=1 by omega) with z | z
   ·exact z
   ·rw [Int.mul_emod,z] at h2
    cases h2
  exact ⟨(t - b*w) / 2,by omega⟩
 subst hP
 have key:P'*P'+b*P'*w+a*c*(w*w)=1:=by grind
 refine ⟨(P',-(c*w),a*w,P'+b*w),?_,?_,rfl⟩
 ·show P'*(P'+b*w) - -(c*w)*(a*w)=1
  grind
 ·have e:f=((g3 f:Int)*a,(g3 f:Int)*b,(g3 f:Int)*c):=Prod.ext e1 (Prod.ext e2 e3)
  generalize (g3 f:Int)=g at *
  subst e
  simp only [mov,val,mid]
  refine Prod.ext ?_ (Prod.ext ?_ ?_) <;> dsimp only
  ·have:g*a*P'*P'+g*b*P'*(a*w)+g*c*(a*w)*(a*w)=g*a*(P'*P'+b*P'*w+a*c*(w*w)):=by grind
   rw [this,key,Int.mul_one]
  ·have:2*(g*a)*P' * -(c*w)+g*b*(P'*(P'+b*w) + -(c*w)*(a*w))+2*(g*c)*(a*w)*(P'+b*w)=g*b*(P'*P'+b*P'*w+a*c*(w*w)):=by grind
   rw [this,key,Int.mul_one]
  ·have:g*a * -(c*w) * -(c*w)+g*b * -(c*w)*(P'+b*w)+g*c*(P'+b*w)*(P'+b*w)=g*c*(P'*P'+b*P'*w+a*c*(w*w)):=by grind
   rw [this,key,Int.mul_one]
theorem Yr {far:Int} {g:I3} {N:Nat} {v t w:Int} (h:Lv far g) (hN:0 < N) (min:∀ j,0 < j→j < N→rF far j g≠g) (hv:(rT far N g).2.1=-((pl g).2.2*v)) (hw:w≠0) (e:t*t - meas (pl g)*(w*w)=4):ab v≤ab w:=by
 have ha:=JM h.S
 have hc:=G3 h.S
 have hc':(pl g).2.2≠0:=fun z=>hc (by rw [(Jc g).2.2,z];simp)
 obtain ⟨T,d,m,q⟩:=AbP ha e
 have key:∃ k,ab (rT far k g).2.1=ab ((pl g).2.2*w)∧rF far k g=g:=by
  have an:∀ x:Int,ab (-x)=ab x:=fun x=>by rcases Ar x with ⟨_,e⟩ | ⟨_,e⟩ <;> rcases Ar (-x) with ⟨_,e'⟩ | ⟨_,e'⟩ <;> omega
  rcases Nk h h d m with ⟨k,s⟩ | ⟨k,s⟩
  ·refine ⟨k,?_,by rw [←Em,←s.mov,m]⟩
   rcases s with s | s
   ·rw [←s,q,an]
   ·have:T.2.1=-(rT far k g).2.1:=by rw [s];rfl
    rw [←an,←this,q,an]
  ·have mb:mov g (Ax T)=g:=by
    have:=Bq (f:=g) d
    rw [m] at this
    exact this
   refine ⟨k,?_,by rw [←Em,←s.mov,mb]⟩
   have bq:(Ax T).2.1=-T.2.1:=rfl
   rcases s with s | s
   ·rw [←s,bq,an,q,an]
   ·have:(Ax T).2.1=-(rT far k g).2.1:=by rw [s];rfl
    rw [←an,←this,bq,an,q,an]
 obtain ⟨k,k1,k2⟩:=key
 have k0:k≠0:=fun z=>by
  subst z
  have e0:(rT far 0 g).2.1=0:=rfl
  rw [e0,←GQ] at k1
  have h1:1≤ab (pl g).2.2:=by rcases Ar (pl g).2.2 with ⟨_,e⟩ | ⟨_,e⟩ <;> omega
  have h2:1≤ab w:=by rcases Ar w with ⟨_,e⟩ | ⟨_,e⟩ <;> omega
  have h3:=Int.mul_le_mul h1 h2 (by decide) (by omega)
  have h4:ab (0:Int)=0:=rfl
  omega
 have kN:N≤k:=by
  rcases Nat.lt_or_ge k N with z | z
  ·exact absurd k2 (min k (by omega) z)
  ·exact z
 have gr:=Ym h (N - 1) (k - N)
 rw [show N - 1+1=N by omega,show N+(k - N)=k by omega,k1,hv] at gr
 have an:ab (-((pl g).2.2*v))=ab ((pl g).2.2*v):=by rcases Ar ((pl g).2.2*v) with ⟨_,e⟩ | ⟨_,e⟩ <;> rcases Ar (-((pl g).2.2*v)) with ⟨_,e'⟩ | ⟨_,e'⟩ <;> omega
 rw [an,←GQ,←GQ] at gr
 have h1:1≤ab (pl g).2.2:=by rcases Ar (pl g).2.2 with ⟨_,e⟩ | ⟨_,e⟩ <;> omega
 exact Int.le_of_mul_le_mul_left gr (by omega)
theorem Y7 {far:Int} {g:I3} {N:Nat} {v:Int} (h:Lv far g) (hN:0 < N) (min:∀ j,0 < j→j < N→rF far j g≠g) (hv:(rT far N g).2.1=-((pl g).2.2*v)) (hm1:1≤meas (pl g)) (hm:meas (pl g)≤4000) (hs:¬ Jy (meas (pl g))) {r:Int} (hr:Sq (meas (pl g)) r):Bt 490 v:=by
 obtain ⟨X,Y,e,x1,y1,ym⟩:=solved hr hm1 hm fun z=>hs ⟨r,z⟩
 have:=Yr (t:=2*X) (w:=2*Y) h hN min hv (by omega) (by
  have:2*X*(2*X) - meas (pl g)*(2*Y*(2*Y))=4*(X*X - meas (pl g)*(Y*Y)):=by grind
  rw [this,e]
  rfl)
 have e2:ab (2*Y)=2*Y:=by rcases Ar (2*Y) with ⟨_,e⟩ | ⟨_,e⟩ <;> omega
 have h3:Bt 490 (2*Y):=by
  have:Bt 483 (2*Y):=HW (by omega) (by
   have e4:(2:Int) ^ 482=2*2 ^ 481:=by rw [Int.pow_succ,Int.mul_comm]
   omega)
  exact this.le (by decide)
 exact JZ h3 (by omega)
end My
namespace My
open PySem L2
noncomputable def pw (s:I4):Nat→I4
 | 0=>(1,0,0,1)
 | n+1=>Aj (pw s n) s
end My
namespace My
open PySem L2
theorem TQ {f g:I3} (h1:f.1=g.1) (h2:f.2.1=g.2.1) (h3:f.2.2=g.2.2):f=g:=Prod.ext h1 (Prod.ext h2 h3)
theorem bez:∀ (n:Nat) (a b:Int),b.natAbs≤n→∃ u v:Int,u*a+v*b=(Int.gcd a b:Int)
 | n,a,b,h=>by
  by_cases hb:b=0
  ·subst hb
   rw [Int.gcd_zero_right]
   rcases Int.lt_or_le a 0 with z | z
   ·exact ⟨-1,0,by omega⟩
   ·exact ⟨1,0,by omega⟩
  ·have l:=Nm (a:=a) hb
   match n,h with
   | 0,h=>omega
   | n+1,h =>
    obtain ⟨u,v,e⟩:=bez n b (a.fmod b) (by omega)
    rw [Qy] at e
    refine ⟨v,u - v*a.fdiv b,?_⟩
    rw [←e,Int.fmod_def]
    grind
end My
namespace My
open PySem L2
noncomputable def r4 (t:I4):List Int:=[t.1,t.2.1,t.2.2.1,t.2.2.2]
end My
namespace My
open PySem L2
noncomputable def hs (M:Nat):Nat→Nat
 | 0=>0
 | i+1=>hs M i+2 ^ (10*(i*i % (4*M)))
noncomputable def ck (t:Nat):Nat→Nat→Bool
 | 0,_=>true
 | k+1,H=>Nat.ble (H % 1024) t && ck t k (H / 1024)
noncomputable def tbL:List Nat:=[1,2,2,2,2,4,2,4,3,4,2,4,2,4,4,4,2,6,2,4,4,4,2,8,5,4,6,4,2,8,2,8,4,4,4,6,2,4,4,8,2,8,2,4,6,4,2,8,7,10,4,4,2,12,4,8,4,4,2,8,2,4,6,8,4,8,2,4,4,8,2,12,2,4,10,4,4,8,2,8,9,4,2,8,4,4,4,8,2,12,4,4,4,4,4,16,2,14,6,10,2,8,2,8,8,4,2,12,2,8,4,8,2,8,4,4,6,4,4,16,11,4,4,4,10,12,2,16,4,8,2,8,4,4,12,8,2,8,2,8,4,4,4,12,4,4,14,4,2,20,2,8,6,8,4,8,2,4,4,16,4,18,2,4,8,4,2,16,13,8,6,4,2,8,10,8,4,4,2,12,2,8,4,8,4,8,4,4,12,8,2,16,2,4,8,14,2,12,2,20,4,4,4,8,4,4,6,8,4,16,2,4,4,4,4,24,4,4,4,8,4,8,2,16,15,4,2,8,2,8,8,8,2,12,4,4,4,8,2,16,2,22,18,4,14,8,4,8,4,20,2,12,4,4,8,16,2,8,4,8,6,4,2,16,4,8,4,4,2,24,2,8,8,4,10,8,2,4,6,16,2,8,2,4,8,8,4,24,17,8,4,4,2,28,4,8,12,4,4,20,4,4,4,8,4,12,2,8,4,8,2,16,2,4,12,4,2,8,4,16,4,8,4,18,10,4,4,8,4,16,2,4,6,4,4,16,2,26,4,8,4,12,14,8,8,4,2,8,2,20,12,16,2,8,4,4,8,4,2,24,19,4,22,8,4,8,2,8,6,8,4,8,2,8,20,8,4,24,2,8,4,4,2,32,8,4,6,4,2,16,4,28,4,4,4,12,2,4,8,20]
noncomputable def tb (M:Nat):Nat:=tbL.getD (M - 1) 0
noncomputable def Zf:Nat→Bool
 | 0=>true
 | M+1=>ck (tb (M+1)) (4*(M+1)) (hs (M+1) (2*(M+1))) && Zf M
set_option maxRecDepth 1000000 in
theorem AhN:Zf 400=true:=by decide +kernel
theorem Afx:∀ (n M:Nat),Zf n=true→0 < M→M≤n→ck (tb M) (4*M) (hs M (2*M))=true
 | 0,M,_,h1,h2=>by omega
 | n+1,M,h,h1,h2=>by
  unfold Zf at h
  rw [Bool.and_eq_true] at h
  by_cases e:M=n+1
  ·subst e;exact h.1
  ·exact Afx n M h.2 h1 (by omega)
noncomputable def OD:List Nat→Nat
 | []=>0
 | e :: es=>OD es+2 ^ (10*e)
noncomputable def GP:List Nat→List Nat
 | []=>[]
 | 0 :: es=>GP es
 | (e+1) :: es=>e :: GP es
theorem Nv:∀ es:List Nat,OD es=es.count 0+1024*OD (GP es)
 | []=>rfl
 | 0 :: es=>by
  rw [OD,GP,Nv es,List.count_cons_self]
  omega
 | (e+1) :: es=>by
  rw [OD,GP,OD,Nv es,List.count_cons_of_ne (by omega)]
  have:2 ^ (10*(e+1))=1024*2 ^ (10*e):=by
   rw [show 10*(e+1)=10+10*e by omega,Nat.pow_add]
  rw [this]
  omega
theorem Kg (c:Nat):∀ es:List Nat,(GP es).count c=es.count (c+1)
 | []=>rfl
 | 0 :: es=>by rw [GP,Kg c es,List.count_cons_of_ne (by omega)]
 | (e+1) :: es=>by
  rw [GP,List.count_cons,List.count_cons,Kg c es]
  by_cases h:e=c
  ·subst h;simp
  ·have h2:¬ e+1=c+1:=by omega
   simp [h]
theorem NT:∀ es:List Nat,(GP es).length≤es.length
 | []=>Nat.le_refl _
 | 0 :: es=>by rw [GP,List.length_cons];have:=NT es;omega
 | (e+1) :: es=>by rw [GP,List.length_cons,List.length_cons];have:=NT es;omega
theorem Vf {t:Nat}:∀ (K:Nat) (es:List Nat),es.length < 1024→ck t K (OD es)=true→∀ c,c < K→es.count c≤t
 | 0,_,_,_,c,hc=>by omega
 | K+1,es,hl,h,c,hc=>by
  unfold ck at h
  rw [Bool.and_eq_true] at h
  have h0:es.count 0 < 1024:=Nat.lt_of_le_of_lt List.count_le_length hl
  have e:=Nv es
  have e1:OD es % 1024=es.count 0:=by omega
  have e2:OD es / 1024=OD (GP es):=by omega
  rw [e1,e2] at h
  match c with
  | 0=>exact Nat.le_of_ble_eq_true h.1
  | c+1 =>
   rw [←Kg]
   exact Vf K _ (Nat.lt_of_le_of_lt (NT es) hl) h.2 c (by omega)
noncomputable def sqs (M:Nat):Nat→List Nat
 | 0=>[]
 | i+1=>(i*i % (4*M)) :: sqs M i
theorem Acd (M:Nat):∀ n,hs M n=OD (sqs M n)
 | 0=>rfl
 | n+1=>by rw [hs,sqs,OD,Acd M n]
theorem Yy (M:Nat):∀ n,(sqs M n).length=n
 | 0=>rfl
 | n+1=>by rw [sqs,List.length_cons,Yy M n]
theorem ZX {M c:Nat} (h0:0 < M) (h:M≤400) (hc:c < 4*M):(sqs M (2*M)).count c≤tb M:=by
 have:=Afx 400 M AhN h0 h
 rw [Acd] at this
 exact Vf _ _ (by rw [Yy];omega) this c hc
noncomputable def mids (m D:Int):Nat→List Int
 | 0=>[]
 | i+1=>mids m D i ++ (if ((i:Int)*i - D).fmod (4*m)=0 then [(i:Int)] else [])
theorem QK {m D:Int} (m0:m≠0):∀ n,(mids m D n).length≤(sqs m.natAbs n).count (D % (4*m.natAbs:Int)).toNat
 | 0=>Nat.le_refl _
 | n+1=>by
  have ih:=QK (D:=D) m0 n
  rw [mids,sqs,List.length_append]
  split
  ·rename_i h
   have hd:(4*m)∣((n:Int)*n - D):=Int.dvd_of_fmod_eq_zero h
   have hd2:(4*(m.natAbs:Int))∣((n:Int)*n - D):=by
    rcases Int.natAbs_eq m with e | e
    ·rw [←e];exact hd
    ·have:4*(m.natAbs:Int)=-(4*m):=by omega
     rw [this]
     exact Int.neg_dvd.mpr hd
   have e1:D % (4*m.natAbs:Int)=((n*n % (4*m.natAbs):Nat):Int):=by
    have:((n:Int)*n) % (4*m.natAbs:Int)=D % (4*m.natAbs:Int):=Int.emod_eq_emod_iff_emod_sub_eq_zero.mpr (Int.emod_eq_zero_of_dvd hd2)
    rw [←this]
    push_cast
    rfl
   rw [e1,Int.toNat_natCast,List.count_cons_self]
   rw [e1,Int.toNat_natCast] at ih
   simp only [List.length_cons,List.length_nil]
   omega
  ·simp only [List.length_nil,Nat.add_zero]
   exact Nat.le_trans ih (List.count_le_count_cons ..)
theorem AaA {m D:Int} (m0:m≠0) (h:m.natAbs≤400):(mids m D (2*m.natAbs)).length≤tb m.natAbs:=by
 have hp:0 < m.natAbs:=by omega
 refine Nat.le_trans (QK m0 _) (ZX hp h ?_)
 have:=Int.emod_lt_of_pos D (show (0:Int) < 4*m.natAbs by omega)
 have:=Int.emod_nonneg D (show (4*m.natAbs:Int)≠0 by omega)
 omega
noncomputable def JD (N:Nat):Nat→Nat
 | 0=>0
 | g+1=>JD N g+(if N % ((g+1)*(g+1))=0 then tb (N / ((g+1)*(g+1))) else 0)
set_option maxRecDepth 1000000 in
theorem AaJ:∀ N,N < 401→JD N 20 < 64:=by decide +kernel
end My
namespace My
open PySem L2
noncomputable def Ez (m D:Int):List I3:=(mids m D (2*m.natAbs)).map fun b=>(m,b,(b*b - D).fdiv (4*m))
theorem Hv {m D b:Int}:∀ {n:Nat},b∈mids m D n↔0≤b∧b < n∧(b*b - D).fmod (4*m)=0
 | 0=>by
  rw [mids]
  constructor
  ·intro h;cases h
  ·rintro ⟨h1,h2,_⟩;omega
 | n+1=>by
  rw [mids,List.mem_append,Hv (n:=n)]
  constructor
  ·rintro (⟨h1,h2,h3⟩ | h)
   ·exact ⟨h1,by omega,h3⟩
   ·split at h
    ·rename_i e
     simp only [List.mem_singleton] at h
     subst h
     exact ⟨by omega,by omega,e⟩
    ·cases h
  ·rintro ⟨h1,h2,h3⟩
   by_cases e:b=(n:Int)
   ·subst e
    right
    rw [if_pos h3]
    exact List.mem_singleton.mpr rfl
   ·left
    exact ⟨h1,by omega,h3⟩
structure ZS (m D:Int) (f:I3):Prop where
 a:f.1=m
 lo:0≤f.2.1
 hi:f.2.1 < 2*m.natAbs
 me:meas f=D
theorem GF {m D:Int} {f:I3} (m0:m≠0):f∈Ez m D↔ZS m D f:=by
 have m4:4*m≠0:=by omega
 unfold Ez
 rw [List.mem_map]
 constructor
 ·rintro ⟨b,hb,rfl⟩
  obtain ⟨h1,h2,h3⟩:=Hv.mp hb
  refine ⟨rfl,h1,by show b < _;omega,?_⟩
  have:=Int.fmod_add_mul_fdiv (b*b - D) (4*m)
  rw [h3] at this
  unfold meas
  show b*b - 4*m*(b*b - D).fdiv (4*m)=D
  omega
 ·rintro ⟨h1,h2,h3,h4⟩
  obtain ⟨a,b,c⟩:=f
  dsimp only at h1 h2 h3
  subst h1
  have h4:b*b - 4*a*c=D:=h4
  have e:b*b - D=4*a*c:=by omega
  refine ⟨b,Hv.mpr ⟨h2,by omega,?_⟩,?_⟩
  ·rw [e];exact Int.mul_fmod_right ..
  ·rw [e,Int.mul_fdiv_cancel_left _ m4]
noncomputable def IW (n:Int):Nat→List Int
 | 0=>[]
 | i+1=>IW n i ++ (if n.fmod ((1+(i:Int))*(1+(i:Int)))=0 then [1+(i:Int)] else [])
theorem FZ {n g:Int}:∀ {r:Nat},g∈IW n r↔1≤g∧g≤r∧n.fmod (g*g)=0
 | 0=>by
  rw [IW]
  constructor
  ·intro h;cases h
  ·rintro ⟨h1,h2,_⟩;omega
 | r+1=>by
  rw [IW,List.mem_append,FZ (r:=r)]
  constructor
  ·rintro (⟨h1,h2,h3⟩ | h)
   ·exact ⟨h1,by omega,h3⟩
   ·split at h
    ·rename_i e
     simp only [List.mem_singleton] at h
     subst h
     exact ⟨by omega,by omega,e⟩
    ·cases h
  ·rintro ⟨h1,h2,h3⟩
   by_cases e:g=1+(r:Int)
   ·subst e
    right
    rw [if_pos h3]
    exact List.mem_singleton.mpr rfl
   ·left
    exact ⟨h1,by omega,h3⟩
theorem N6 {n g:Int} (g0:g≠0) (h:n.fmod (g*g)=0):g*g*n.fdiv (g*g)=n:=by
 have:=Int.fmod_add_mul_fdiv n (g*g)
 rw [h] at this
 omega
theorem Uo {n g m:Int} {r:Nat} (g0:1≤g) (e:g*g*m=n) (n0:n≠0) (hr:Sq n.natAbs r):g∈IW n r∧n.fdiv (g*g)=m:=by
 have gg:g*g≠0:=Int.mul_ne_zero (by omega) (by omega)
 refine ⟨FZ.mpr ⟨g0,?_,?_⟩,?_⟩
 ·obtain ⟨h1,h2,h3⟩:=hr
  have m0:m≠0:=fun z=>n0 (by rw [←e,z];omega)
  have hm:1≤m.natAbs:=by omega
  have hn:(n.natAbs:Int)=g*g*m.natAbs:=by
   rw [←e,Int.natAbs_mul]
   have:(g*g).natAbs=g*g:=by
    have:=Int.mul_nonneg (show 0≤g by omega) (show 0≤g by omega)
    omega
   push_cast
   rw [this]
  have le:g*g≤n.natAbs:=by
   rw [hn]
   have:g*g*1≤g*g*m.natAbs:=Int.mul_le_mul_of_nonneg_left (by omega) (Int.mul_nonneg (by omega) (by omega))
   omega
  rcases Int.lt_or_le (r:Int) g with z | z
  ·have:((r:Int)+1)*(r+1)≤g*g:=Int.mul_le_mul (by omega) (by omega) (by omega) (by omega)
   omega
  ·exact z
 ·rw [←e];exact Int.mul_fmod_right ..
 ·rw [←e,Int.mul_fdiv_cancel_left _ gg]
theorem YW {α:Type} {n:Int} {F:Int→List α} (h:∀ g:Nat,1≤g→n.natAbs % (g*g)=0→(F g).length≤tb (n.natAbs / (g*g))):∀ r:Nat,((IW n r).flatMap F).length≤JD n.natAbs r
 | 0=>Nat.le_refl _
 | r+1=>by
  rw [IW,JD,List.flatMap_append,List.length_append]
  have ih:=YW h r
  have e1:(1+(r:Int))*(1+(r:Int))=(((r+1)*(r+1):Nat):Int):=by push_cast;grind
  split
  ·rename_i z
   have hz:n.natAbs % ((r+1)*(r+1))=0:=by
    have hd:=Int.dvd_of_fmod_eq_zero z
    rw [e1] at hd
    exact Nat.mod_eq_zero_of_dvd (Int.ofNat_dvd_left.mp hd)
   rw [if_pos hz]
   have:=h (r+1) (by omega) hz
   have e2:(1+(r:Int))=((r+1:Nat):Int):=by push_cast;omega
   rw [e2]
   simp only [List.flatMap_cons,List.flatMap_nil,List.append_nil]
   omega
  ·rename_i z
   simp only [List.flatMap_nil,List.length_nil]
   omega
theorem Ng (N:Nat):∀ k r:Nat,JD N r≤JD N (r+k)
 | 0,_=>Nat.le_refl _
 | k+1,r=>Nat.le_trans (Ng N k r) (by rw [show r+(k+1)=r+k+1 by omega,JD];omega)
noncomputable def CN (x y g u v:Int):I4:=(x.fdiv g,-v,y.fdiv g,u)
noncomputable def G6 (f:I3):Int:=(f.2.1.fmod (2*f.1).natAbs - f.2.1).fdiv (2*f.1)
theorem U4 {f:I3} (h:f.1≠0):f.2.1+2*f.1*G6 f=f.2.1.fmod (2*f.1).natAbs∧0≤f.2.1.fmod (2*f.1).natAbs∧f.2.1.fmod (2*f.1).natAbs < 2*f.1.natAbs:=by
 have hp:(0:Int) < (2*f.1).natAbs:=by omega
 obtain ⟨r1,r2⟩:=Mq f.2.1 hp
 refine ⟨?_,r1,by omega⟩
 unfold G6
 have hd:(2*f.1)∣(f.2.1.fmod (2*f.1).natAbs - f.2.1):=by
  have e:=Int.fmod_def f.2.1 (2*f.1).natAbs
  have d0:(2*f.1)∣((2*f.1).natAbs:Int):=by
   rcases Int.natAbs_eq (2*f.1) with z | z
   ·exact ⟨1,by omega⟩
   ·exact ⟨-1,by omega⟩
  obtain ⟨k,hk⟩:=d0
  exact ⟨-(k*f.2.1.fdiv (2*f.1).natAbs),by rw [e];rw [hk];grind⟩
 have:=Int.mul_fdiv_cancel' hd
 omega
theorem Y9 {f:I3} {k:Int}:mov f (1,k,0,1)=(f.1,f.2.1+2*f.1*k,f.1*k*k+f.2.1*k+f.2.2):=by
 simp only [mov,val,mid,Prod.mk.injEq]
 refine ⟨by grind,by grind,by grind⟩
theorem AfQ {k:Int}:det (1,k,0,1)=1:=by
 show 1*1 - k*0=1
 omega
theorem Tr {f:I3} {x y g u v n:Int} (hn:val f (x,y)=n) (n0:n≠0) (g0:1≤g) (gx:g∣x) (gy:g∣y) (b:u*x+v*y=g) :
  ∃ m,g*g*m=n∧m≠0∧det (CN x y g u v)=1∧(mov f (CN x y g u v)).1=m ∧
   det (Aj (CN x y g u v) (1,G6 (mov f (CN x y g u v)),0,1))=1∧ZS m (meas f) (mov f (Aj (CN x y g u v) (1,G6 (mov f (CN x y g u v)),0,1))) ∧
   Ij (Aj (CN x y g u v) (1,G6 (mov f (CN x y g u v)),0,1)) (g,0)=(x,y):=by
 obtain ⟨p,rfl⟩:=gx
 obtain ⟨r,rfl⟩:=gy
 have gn:g≠0:=by omega
 have e1:(g*p).fdiv g=p:=Int.mul_fdiv_cancel_left _ gn
 have e2:(g*r).fdiv g=r:=Int.mul_fdiv_cancel_left _ gn
 have hd:p*u+v*r=1:=by
  refine Int.eq_of_mul_eq_mul_left gn ?_
  rw [Int.mul_one]
  grind
 have eT:CN (g*p) (g*r) g u v=(p,-v,r,u):=by unfold CN;rw [e1,e2]
 rw [eT]
 have dT:det (p,-v,r,u)=1:=by
  show p*u - -v*r=1
  grind
 have hm:g*g*val f (p,r)=n:=by
  rw [←hn]
  simp only [val]
  grind
 have m1:(mov f (p,-v,r,u)).1=val f (p,r):=rfl
 have m0:val f (p,r)≠0:=fun z=>n0 (by rw [←hm,z];omega)
 refine ⟨val f (p,r),hm,m0,dT,rfl,by rw [BP,dT,AfQ];rfl,?_,?_⟩
 ·have k:=U4 (f:=mov f (p,-v,r,u)) m0
  rw [←Bf]
  refine ⟨by rw [Y9];exact m1,?_,?_,by rw [Br AfQ,Br dT]⟩
  ·rw [Y9]
   show 0≤(mov f (p,-v,r,u)).2.1+2*(mov f (p,-v,r,u)).1*G6 (mov f (p,-v,r,u))
   rw [k.1]
   exact k.2.1
  ·rw [Y9]
   show (mov f (p,-v,r,u)).2.1+2*(mov f (p,-v,r,u)).1*G6 (mov f (p,-v,r,u)) < _
   rw [k.1]
   exact k.2.2
 ·rw [Wv]
  simp only [Ij,Prod.mk.injEq]
  refine ⟨by grind,by grind⟩
theorem Ah4 {f:I3} {T T':I4} {m D:Int} (m0:m≠0) (d:det T=1) (d':det T'=1) (A:ZS m D (mov f T)) (B:ZS m D (mov f T')) (e:(T'.1=T.1∧T'.2.2.1=T.2.2.1)∨(T'.1=-T.1∧T'.2.2.1=-T.2.2.1)):mov f T=mov f T':=by
 obtain ⟨p,q,r,s⟩:=T
 obtain ⟨p',q',r',s'⟩:=T'
 dsimp only at e
 have d:p*s - q*r=1:=d
 have d':p'*s' - q'*r'=1:=d'
 obtain ⟨k,hk⟩:∃ k,mov f (p',q',r',s')=mov (mov f (p,q,r,s)) (1,k,0,1):=by
  rcases e with ⟨rfl,rfl⟩ | ⟨rfl,rfl⟩
  ·refine ⟨s*q' - q*s',?_⟩
   rw [Bf]
   congr 1
   simp only [Aj,Prod.mk.injEq]
   refine ⟨by omega,?_,by omega,?_⟩ <;> grind
  ·refine ⟨-(s*q' - q*s'),?_⟩
   have en:mov f (-p,q',-r,s')=mov f (p,-q',r,-s'):=by
    simp only [mov,val,mid,Prod.mk.injEq]
    refine ⟨by grind,by grind,by grind⟩
   rw [en,Bf]
   congr 1
   simp only [Aj,Prod.mk.injEq]
   refine ⟨by omega,?_,by omega,?_⟩ <;> grind
 rw [hk] at B ⊢
 rw [Y9] at B ⊢
 have h1:=A.a
 have a1:=A.lo
 have a2:=A.hi
 have b1:=B.lo
 have b2:=B.hi
 dsimp only at b1 b2
 rw [h1] at b1 b2
 have hk0:k=0:=by
  rcases Int.lt_trichotomy k 0 with z | z | z
  ·exfalso
   rcases Int.lt_or_le 0 m with w | w
   ·have:m*k≤m * -1:=Int.mul_le_mul_of_nonneg_left (by omega) (by omega)
    have e:2*m*k=2*(m*k):=by grind
    omega
   ·have:m*k≥m * -1:=by
     have:=Int.mul_le_mul_of_nonneg_left (c:=-m) (show k≤-1 by omega) (by omega)
     have e1:-m*k=-(m*k):=Int.neg_mul ..
     have e2:-m * -1=-(m * -1):=Int.neg_mul ..
     omega
    have e:2*m*k=2*(m*k):=by grind
    omega
  ·exact z
  ·exfalso
   rcases Int.lt_or_le 0 m with w | w
   ·have:m*1≤m*k:=Int.mul_le_mul_of_nonneg_left (by omega) (by omega)
    have e:2*m*k=2*(m*k):=by grind
    omega
   ·have:m*k≤m*1:=by
     have:=Int.mul_le_mul_of_nonneg_left (c:=-m) (show 1≤k by omega) (by omega)
     have e1:-m*k=-(m*k):=Int.neg_mul ..
     have e2:-m*1=-(m*1):=Int.neg_mul ..
     omega
    have e:2*m*k=2*(m*k):=by grind
    omega
 subst hk0
 refine TQ rfl ?_ ?_
 ·show _=(mov f (p,q,r,s)).2.1+2*(mov f (p,q,r,s)).1*0
  omega
 ·show _=(mov f (p,q,r,s)).1*0*0+(mov f (p,q,r,s)).2.1*0+(mov f (p,q,r,s)).2.2
  omega
end My
namespace My
open PySem L2
theorem Aca {far:Int} {f:I3} (n:Nat):(rT far (n+1+1) f).1=(rT far (n+1) f).2.1∧(rT far 1 f).1=0:=by
 constructor
 ·rw [Ma (n:=n+1)]
  generalize rT far (n+1) f=t
  generalize rF far (n+1) f=g
  obtain ⟨p,q,r,s⟩:=t
  simp only [Aj,Ce]
  grind
 ·have e:rT far 1 f=Ce f far:=by show Aj _ (1,0,0,1)=_;exact Eb
  rw [e]
  rfl
theorem AbS {g:I3} {far:Int} (h:Lv far g):1≤meas (pl g)∧meas (pl g)≤4000∧¬ Jy (meas (pl g))∧B3 7 (pl g):=by
 have ha:=JM h.S
 have hg:=Ko ha
 have hmm:=Ms g
 have hp:=h.S.pos
 have sq1:=sq_pos (show (g3 g:Int)≠0 by omega)
 have p1:1≤meas (pl g):=by
  rcases Int.lt_or_le 0 (meas (pl g)) with z | z
  ·omega
  ·have:=Int.mul_nonneg (show 0≤(g3 g:Int)*g3 g by omega) (show 0≤-meas (pl g) by omega)
   have e:(g3 g:Int)*g3 g * -meas (pl g)=-((g3 g:Int)*g3 g*meas (pl g)):=Int.mul_neg ..
   omega
 refine ⟨p1,?_,fun ⟨r,hr⟩=>h.S.no ⟨g3 g*r,?_⟩,?_⟩
 ·have:=h.S.most
  have:=Int.mul_le_mul_of_nonneg_right sq1 (show 0≤meas (pl g) by omega)
  omega
 ·rw [hmm,←hr]
  grind
 ·have lb:=Ni h.S h.r h.L
  obtain ⟨e1,e2,e3⟩:=Jc g
  have one:∀ {x y:Int},Bt 7 x→x=(g3 g:Int)*y→Bt 7 y:=fun {x y} hx e=>by
   unfold Bt at *
   rw [e,Int.natAbs_mul] at hx
   have:1*y.natAbs≤(g3 g:Int).natAbs*y.natAbs:=Nat.mul_le_mul_right _ (by omega)
   omega
  exact ⟨one lb.1 e1,one lb.2.1 e2,one lb.2.2 e3⟩
theorem Abb {n:Int} (h0:0≤n):∀ k:Nat,n < (k:Int)*k→∃ r,Sq n r
 | 0,h=>by omega
 | k+1,h=>by
  rcases Int.lt_or_le n ((k:Int)*k) with z | z
  ·exact Abb h0 k z
  ·exact ⟨k,by omega,z,by push_cast at h;exact h⟩
theorem Ahg {far:Int} {g:I3} {N:Nat} (h:Lv far g) (hN:0 < N) (e:rF far N g=g) (min:∀ j,0 < j→j < N→rF far j g≠g):Bt 500 (rT far N g).2.1:=by
 obtain ⟨p1,p4,ps,pb⟩:=AbS h
 obtain ⟨r,hr⟩:=Abb (n:=meas (pl g)) (by omega) 64 (by omega)
 obtain ⟨v,_,hq,_⟩:=Qa (JM h.S) (K8 N g) (V2 e)
 have bv:=Y7 h hN min hq p1 p4 ps hr
 rw [hq]
 exact (pb.2.2.mul bv).neg.le (by decide)
theorem Age {n:Nat} {x y:Int} (h:Bt n y) (l:ab x≤ab y):Bt n x:=by
 unfold Bt at *
 rcases Ar x with ⟨_,e⟩ | ⟨_,e⟩ <;> rcases Ar y with ⟨_,e'⟩ | ⟨_,e'⟩ <;> omega
theorem AaE {far:Int} {g:I3} {N:Nat} (h:Lv far g) (hN:0 < N) (e:rF far N g=g) (min:∀ j,0 < j→j < N→rF far j g≠g) {j:Nat} (hj:j≤N):Bt 500 (rT far j g).1∧Bt 500 (rT far j g).2.1:=by
 have b:=Ahg h hN e min
 have q:∀ i,0 < i→i≤N→Bt 500 (rT far i g).2.1:=fun i i0 il=>by
  obtain ⟨i,rfl⟩:∃ k,i=k+1:=⟨i - 1,by omega⟩
  have:=Ym h i (N - (i+1))
  rw [show i+1+(N - (i+1))=N by omega] at this
  exact Age b this
 match j with
 | 0=>exact ⟨Bt.one.le (by decide),Bt.zero.le (by decide)⟩
 | 1=>exact ⟨by rw [(Aca (far:=far) (f:=g) 0).2];exact Bt.zero.le (by decide),q 1 (by decide) hj⟩
 | j+2=>exact ⟨by rw [(Aca (far:=far) (f:=g) j).1];exact q (j+1) (by omega) (by omega),q (j+2) (by omega) hj⟩
theorem MN {g:I3} {p r a:Int} (hg:B3 7 g) (hc:g.2.2≠0) (ha:Bt 7 a) (e:val g (p,r)=a) (hp:Bt 500 p):Bt 512 r:=by
 obtain ⟨x,y,z⟩:=g
 have e:x*p*p+y*p*r+z*r*r=a:=e
 obtain ⟨hx,hy,hz⟩:=hg
 have hx:Bt 7 x:=hx
 have hy:Bt 7 y:=hy
 have hc:z≠0:=hc
 have key:r.natAbs≤300*(p.natAbs+1):=by
  refine Nat.le_of_not_lt fun big=>?_
  have e2:z*r*r=a - x*p*p - y*p*r:=by omega
  have n1:(z*r*r).natAbs=z.natAbs*r.natAbs*r.natAbs:=by rw [Int.natAbs_mul,Int.natAbs_mul]
  have n2:(a - x*p*p - y*p*r).natAbs≤a.natAbs+x.natAbs*p.natAbs*p.natAbs+y.natAbs*p.natAbs*r.natAbs:=by
   have h1:(x*p*p).natAbs=x.natAbs*p.natAbs*p.natAbs:=by rw [Int.natAbs_mul,Int.natAbs_mul]
   have h2:(y*p*r).natAbs=y.natAbs*p.natAbs*r.natAbs:=by rw [Int.natAbs_mul,Int.natAbs_mul]
   omega
  rw [←e2,n1] at n2
  unfold Bt at hx hy ha
  generalize r.natAbs=R at *
  generalize p.natAbs=P at *
  have zz:1≤z.natAbs:=by omega
  have m1:R*R≤z.natAbs*R*R:=by
   have:1*R*R≤z.natAbs*R*R:=Nat.mul_le_mul_right _ (Nat.mul_le_mul_right _ zz)
   rw [Nat.one_mul] at this
   exact this
  have m2:x.natAbs*P*P≤128*P*R:=Nat.mul_le_mul (Nat.mul_le_mul_right _ (by omega)) (by omega)
  have m3:y.natAbs*P*R≤128*P*R:=Nat.mul_le_mul_right _ (Nat.mul_le_mul_right _ (by omega))
  have m4:(300*(P+1)+1)*R≤R*R:=Nat.mul_le_mul_right _ (by omega)
  have m5:(300*(P+1)+1)*R=300*P*R+301*R:=by grind
  have m6:300*P*R=128*P*R+128*P*R+44*P*R:=by grind
  omega
 unfold Bt at *
 have:(2:Nat) ^ 512=4096*2 ^ 500:=by rw [show 512=12+500 from rfl,Nat.pow_add]
 have:=Nat.two_pow_pos 500
 omega
theorem Adt {far:Int} {g:I3} {N:Nat} (h:Lv far g) (hN:0 < N) (e:rF far N g=g) (min:∀ j,0 < j→j < N→rF far j g≠g) {j:Nat} (hj:j≤N):B4 512 (rT far j g):=by
 obtain ⟨b1,b2⟩:=AaE h hN e min hj
 have hv:=Lv.rF j h
 have lb:=Ni h.S h.r h.L
 have lj:=Ni hv.S hv.r hv.L
 have em:=Em (far:=far) j g
 have e1:val g ((rT far j g).1,(rT far j g).2.2.1)=(rF far j g).1:=by rw [←em];rfl
 have e2:val g ((rT far j g).2.1,(rT far j g).2.2.2)=(rF far j g).2.2:=by rw [←em];rfl
 exact ⟨b1.le (by decide),b2.le (by decide),MN lb (G3 h.S) lj.1 e1 b1,MN lb (G3 h.S) lj.2.2 e2 b2⟩
end My
namespace My
open PySem L2
local macro_rules | `(tactic| walk_at "sc") => `(tactic| (exact ⟨rfl, rfl, rfl, by decide +kernel, rfl, by decide +kernel, by decide +kernel⟩))
local macro_rules | `(tactic| walk_at "lE") => `(tactic| (exact fun ds Q ⟨p, e, _⟩ => by rw [e]; rfl))
local macro_rules | `(tactic| walk_at "b1") => `(tactic| (intro _ _ _ _ _ _ us hl; exact match us, hl with | [_], _ => rfl))
local macro_rules | `(tactic| walk_at "b2") => `(tactic| (intro _ _ _ _ _ _ us hl; exact match us, hl with | [_, _], _ => rfl))
local macro_rules | `(tactic| walk_at "b3") => `(tactic| (intro _ _ _ _ _ _ us hl; exact match us, hl with | [_, _, _], _ => rfl))
local macro_rules | `(tactic| walk_at "b4") => `(tactic| (intro _ _ _ _ _ _ us hl; exact match us, hl with | [_, _, _, _], _ => rfl))
local macro_rules | `(tactic| walk_at "rd1") => `(tactic| dsimp only [Ah6, Al8, AkS, Afk, dIf, AaW, Afq, AgX, Xq, Zv, AlC, AcB, YM, Tt, Ais, Aju, Ys, dIn, dOp, dUn, AeU, dC, dIx, Anj, AmQ, AmG, Amf, Anz, Amn, Am8, AnA, Alq, Ak5, AlW, Ajv, AiM, Aiv, Ali, Ank, dI, dI0, dB0, dLt, dLe, dGt, dGe, dEq, dNe, dIs, AlV, Ajt, dOr, AeJ, O2, Afi, Al3, AlJ, Ano, Ajz, Af8, dTup, Alk, dCall, dCB, AcM, Acf, Acy, AmP, Aix, AiL, AbW, AcX, AfJ, Rf, Zd, VH, inner, Afj, AfG, AcJ, Ab0, Agk, Af6, dOf, AiW, Ad5, AlK, Agm, AhV, Ags, Akc, Anv, Agg, Akx, Akl, Agj, AhO, Am1, Aau, AmK, AiY, Am9, AiQ, Aio, Alx, AlF, AiU, Afy, Ajb, AiS, ownAt, Ajw, Ag8, Agh, AhP, Ahn, Agv, AbG, P0, AfX, Ang, YJ, W0, AgW,
 List.length_cons,List.length_nil,List.getElem?_cons_zero,List.getElem?_cons_succ,List.set_cons_zero,List.set_cons_succ,Nat.reduceAdd,List.map_cons,List.map_nil,Option.join_some])
local macro_rules | `(tactic| walk_at "rd2") => `(tactic| simp only [Akp, Akm, Akt, Ak8, Ahm, Alj, AkM, Aif, AkE, Ai8, Aiy, AnS, Anl, AmS, AmW, Am4, AmC, AhB, AgE, AgI, Agn, AhG, Ag9, Agp, Ahx, AhX, Aht, SX, Aib, Q0, AkP, Ako, Al6, Ak6, Wh, Akb, Ur, U0, Aha, AhD, Lp, AgN, AhS, LR, AdY, Aem, Adm, Ad8, Mu, Ml, if_true, if_false, Bool.and_true, Bool.true_and, Bool.false_and, Bool.and_false, Bool.not_true, Bool.not_false, Bool.false_eq_true, true_and, and_true, ite_true, ite_false, List.length_map])
local macro_rules | `(tactic| walk_at "rd") => `(tactic| ((try walk_at "rd1"); (try walk_at "rd2")))
local macro_rules | `(tactic| walk_at "go") => `(tactic| ((try simp only [Vp, WL, U9]); walk_at "rd"))
local macro_rules | `(tactic| walk_at "bts") => `(tactic| first | assumption | (with_reducible apply Bt.mul <;> walk_at "bts") | (with_reducible apply Bt.add <;> walk_at "bts") | (with_reducible apply Bt.sub <;> walk_at "bts") | (with_reducible apply Bt.neg <;> walk_at "bts") | exact Bt.of_abs (n := 1) (by decide) | exact Bt.of_abs (n := 8) (by decide) | exact Bt.of_abs (n := 400) (by decide))
local macro_rules | `(tactic| walk_at "bt") => `(tactic| exact Bt.le (by walk_at "bts") (by decide))
local macro_rules | `(tactic| walk_at "mul") => `(tactic| exact Bt.mulOk (by walk_at "bts") (by walk_at "bts") (by decide) (by decide))
local macro_rules | `(tactic| walk_at "muls") => `(tactic| repeat (refine ⟨by first | walk_at "mul" | exact Ay (by decide) | decide | exact ⟨by decide, by decide⟩, ?_⟩))
noncomputable def top (i:Nat):Stmt:=PySem.Challenge.pw_formcycle_k73_whole_roads_meet.main.body.getD i (.Pass ⟨0,0,0,0⟩)
noncomputable abbrev Hq:Stmt:=top 10
theorem Jq:Ao ["one","other","rest"] ["one","other"] (Ai Hq):=by walk_at "sc"
noncomputable abbrev Jg:Stmt:=top 11
theorem Ho:Ao ["one","other","row","lower","rest"] ["one","other"] (Ai Jg):=by walk_at "sc"
noncomputable abbrev Gp:Stmt:=top 12
theorem Vk:Ao ["row","lower","often"] ["row","lower","often"] (Ai Gp):=by walk_at "sc"
noncomputable abbrev Ja:Stmt:=top 13
theorem Mi:Ao ["number","guess","better"] ["number"] (Ai Ja):=by walk_at "sc"
noncomputable abbrev Ea:Stmt:=top 14
theorem M8:Ao ["number","side"] ["number"] (Ai Ea):=by walk_at "sc"
noncomputable abbrev BL:Stmt:=top 15
theorem Nq:Ao ["number","most"] ["number","most"] (Ai BL):=by walk_at "sc"
noncomputable abbrev Dd:Stmt:=top 16
theorem O8:Ao ["number","most"] ["number","most"] (Ai Dd):=by walk_at "sc"
noncomputable abbrev Dl:Stmt:=top 20
theorem Pb:Ao ["number"] ["number"] (Ai Dl):=by walk_at "sc"
noncomputable abbrev Gx:Stmt:=top 21
theorem QL:Ao ["number","far","rows"] ["number"] (Ai Gx):=by walk_at "sc"
noncomputable abbrev Eh:Stmt:=top 22
theorem IK:Ao ["row","number","far","p","q"] ["row","number","far"] (Ai Eh):=by walk_at "sc"
noncomputable abbrev Gn:Stmt:=top 23
theorem Xa:Ao ["rows","k"] ["rows","k"] (Ai Gn):=by walk_at "sc"
noncomputable abbrev Gm:Stmt:=top 24
theorem Oh:Ao ["number","k","rows"] ["number","k"] (Ai Gm):=by walk_at "sc"
noncomputable abbrev CP:Stmt:=top 25
theorem Ge:Ao ["rows","k","pair","place"] ["rows","k"] (Ai CP):=by walk_at "sc"
noncomputable abbrev Dq:Stmt:=top 26
theorem RN:Ao ["rows"] ["rows"] (Ai Dq):=by walk_at "sc"
noncomputable abbrev Cr:Stmt:=top 27
theorem Hz:Ao ["pair","often","ahead","last"] ["pair","often"] (Ai Cr):=by walk_at "sc"
noncomputable abbrev Gv:Stmt:=top 28
theorem Oo:Ao ["number","point"] ["number"] (Ai Gv):=by walk_at "sc"
noncomputable abbrev Ft:Stmt:=top 29
theorem Mj:Ao ["number","point"] ["number"] (Ai Ft):=by walk_at "sc"
noncomputable abbrev BX:Stmt:=top 30
theorem Mh:Ao ["rows"] ["rows"] (Ai BX):=by walk_at "sc"
noncomputable abbrev CQ:Stmt:=top 31
theorem PN:Ao ["number","point"] ["number","point"] (Ai CQ):=by walk_at "sc"
noncomputable abbrev Hr:Stmt:=top 34
theorem Yj:Ao ["turn"] ["turn"] (Ai Hr):=by walk_at "sc"
noncomputable abbrev Ds:Stmt:=top 35
theorem RQ:Ao ["turn"] ["turn"] (Ai Ds):=by walk_at "sc"
noncomputable abbrev BK:Stmt:=top 36
theorem RD:Ao ["one","other"] ["one","other"] (Ai BK):=by walk_at "sc"
noncomputable abbrev J3:Stmt:=top 37
theorem Ae4:Ao ["turn"] ["turn"] (Ai J3):=by walk_at "sc"
noncomputable abbrev Dc:Stmt:=top 39
theorem XH:Ao ["form"] ["form"] (Ai Dc):=by walk_at "sc"
noncomputable abbrev JG:Stmt:=top 40
theorem Ro:Ao ["form","point","x","y"] ["form","point"] (Ai JG):=by walk_at "sc"
noncomputable abbrev Ht:Stmt:=top 41
theorem Yk:Ao ["form"] ["form"] (Ai Ht):=by walk_at "sc"
noncomputable abbrev G7:Stmt:=top 42
theorem QG:Ao ["form","turn","left","right"] ["form","turn"] (Ai G7):=by walk_at "sc"
noncomputable abbrev Jl:Stmt:=top 43
theorem S5:Ao ["form","left","right","crossed"] ["form","left","right"] (Ai Jl):=by walk_at "sc"
noncomputable abbrev Hf:Stmt:=top 44
theorem V1:Ao ["form","number"] ["form"] (Ai Hf):=by walk_at "sc"
noncomputable abbrev Ed:Stmt:=top 46
theorem Rx:Ao ["form"] ["form"] (Ai Ed):=by walk_at "sc"
noncomputable abbrev Df:Stmt:=top 47
theorem EY:Ao ["form","a","b","c"] ["form"] (Ai Df):=by walk_at "sc"
noncomputable abbrev Hj:Stmt:=top 48
theorem Ih:Ao ["form","turn","lowering"] ["form"] (Ai Hj):=by walk_at "sc"
noncomputable abbrev Ef:Stmt:=top 49
theorem K6:Ao ["form","often"] ["form"] (Ai Ef):=by walk_at "sc"
noncomputable abbrev Ci:Stmt:=top 52
theorem O9:Ao ["form"] ["form"] (Ai Ci):=by walk_at "sc"
noncomputable abbrev Di:Stmt:=top 53
theorem JN:Ao ["form","far","b"] ["form","far"] (Ai Di):=by walk_at "sc"
noncomputable abbrev Dy:Stmt:=top 54
theorem FP:Ao ["form","top","b","c","d"] ["form","top"] (Ai Dy):=by walk_at "sc"
noncomputable abbrev CT:Stmt:=top 55
theorem J6:Ao ["stop","top","turn"] ["stop","top"] (Ai CT):=by walk_at "sc"
noncomputable abbrev Ky:Stmt:=top 56
theorem LC:Ao ["form","far","stop"] ["form"] (Ai Ky):=by walk_at "sc"
noncomputable abbrev CV:Stmt:=top 57
theorem Dh:Ao ["form","far","first","stops","stop"] ["form"] (Ai CV):=by walk_at "sc"
noncomputable abbrev Hh:Stmt:=top 58
theorem Xw:Ao ["form"] ["form"] (Ai Hh):=by walk_at "sc"
noncomputable abbrev Hs:Stmt:=top 59
theorem Gi:Ao ["form","common","plain","pair","t","u"] ["form"] (Ai Hs):=by walk_at "sc"
noncomputable abbrev Fo:Stmt:=top 60
theorem Js:Ao ["form","plain_first","stops","once"] ["form","plain_first"] (Ai Fo):=by walk_at "sc"
noncomputable abbrev Fi:Stmt:=top 65
theorem VD:Ao ["form"] ["form"] (Ai Fi):=by walk_at "sc"
noncomputable abbrev Dw:Stmt:=top 66
theorem Q9:Ao ["one","other"] ["one","other"] (Ai Dw):=by walk_at "sc"
noncomputable abbrev Il:Stmt:=top 69
theorem Acs:Ao ["form","number"] ["form","number"] (Ai Il):=by walk_at "sc"
noncomputable abbrev Fl:Stmt:=top 70
theorem Fw:Ao ["form","number","whole","found","g","foot","turn"] ["form","number"] (Ai Fl):=by walk_at "sc"
noncomputable abbrev Ba:Stmt:=top 71
theorem G9:Ao ["number"] ["number"] (Ai Ba):=by walk_at "sc"
noncomputable abbrev J5:Stmt:=top 72
theorem Zm:Ao ["first","far","middles"] ["first","far"] (Ai J5):=by walk_at "sc"
noncomputable abbrev GD:Stmt:=top 73
theorem Kw:Ao ["form","number","point","found","turn","place"] ["form","number","point"] (Ai GD):=by walk_at "sc"
noncomputable abbrev CZ:Stmt:=top 74
theorem Cp:Ao ["form","point","common","g","turn","stands","twice","often"] ["form","point"] (Ai CZ):=by walk_at "sc"
noncomputable abbrev Hg:Stmt:=top 76
theorem Lw:Ao ["number","most","pair","often"] ["number","most"] (Ai Hg):=by walk_at "sc"
noncomputable abbrev BW:Stmt:=top 77
theorem Bs:Ao ["rows","most","pair","place","further"] ["rows","most"] (Ai BW):=by walk_at "sc"
noncomputable abbrev Jk:Stmt:=top 78
theorem Ji:Ao ["number","one","other","left","right","whole","is_above_middle"] ["number","one","other"] (Ai Jk):=by walk_at "sc"
noncomputable abbrev Fp:Stmt:=top 80
theorem Ue:Ao ["_law_script","_law_k"] ["_law_script","_law_k"] (Ai Fp):=by walk_at "sc"
noncomputable abbrev El:Stmt:=top 81
theorem Rz:Ao ["_law_found"] ["_law_found"] (Ai El):=by walk_at "sc"
noncomputable abbrev Ca:Stmt:=top 82
theorem Qp:Ao ["_law_found","_law_many_here"] ["_law_found","_law_many_here"] (Ai Ca):=by walk_at "sc"
noncomputable abbrev Fv:Stmt:=top 83
theorem Jz:Ao ["_law_number_here","_law_near"] ["_law_number_here"] (Ai Fv):=by walk_at "sc"
noncomputable abbrev Gq:Stmt:=top 84
theorem V0:Ao ["_law_turn","_law_point"] ["_law_turn","_law_point"] (Ai Gq):=by walk_at "sc"
noncomputable abbrev Gw:Stmt:=top 85
theorem CJ:Ao ["_law_one","_law_other","_law_p","_law_q","_law_r","_law_s","_law_t","_law_u","_law_v","_law_w"] ["_law_one","_law_other"] (Ai Gw):=by walk_at "sc"
noncomputable abbrev Dv:Stmt:=top 86
theorem Hu:Ao ["_law_cell_here","_law_number_here"] ["_law_cell_here"] (Ai Dv):=by walk_at "sc"
noncomputable abbrev Fx:Stmt:=top 87
theorem FJ:Ao ["_law_step","_law_count","_law_turn","_law_k"] ["_law_step","_law_count"] (Ai Fx):=by walk_at "sc"
noncomputable abbrev Ei:Stmt:=top 88
theorem Eu:Ao ["_law_number_here","_law_form","_law_plus","_law_many_here","_law_minus_here","_law_row","_law_x","_law_y"] ["_law_number_here","_law_form","_law_plus","_law_many_here"] (Ai Ei):=by walk_at "sc"
noncomputable abbrev DK:Stmt:=top 89
theorem Cg:Ao ["_law_form","_law_point","_law_other","_law_one","_law_two","_law_p","_law_q","_law_r","_law_s","_law_head"] ["_law_form","_law_point","_law_other"] (Ai DK):=by walk_at "sc"
noncomputable abbrev K1:Stmt:=top 90
theorem Kh:Ao ["_law_script","_law_number_here","_law_form","_law_plus","_law_step","_law_turn","_law_point","_law_many_here"] ["_law_script"] (Ai K1):=by walk_at "sc"
noncomputable abbrev Jj:Stmt:=inClass (top 62) 0
theorem Aag:Ao ["self","form","lowest"] ["self","form","lowest"] (Ai Jj):=by walk_at "sc"
noncomputable abbrev KJ:Stmt:=inClass (top 63) 0
theorem Ab5:Ao ["self","form"] ["self","form"] (Ai KJ):=by walk_at "sc"
noncomputable abbrev Hl:Stmt:=inClass (top 64) 0
theorem Yo:Ao ["self","form"] ["self","form"] (Ai Hl):=by walk_at "sc"
noncomputable abbrev Hi:Stmt:=inClass (top 62) 3
theorem Xb:Ao ["self","other"] ["self","other"] (Ai Hi):=by walk_at "sc"
structure Txt (K:PySem.W.Frag) (mg:Str→Option Value):Prop where
 o_Bowl:∃ C f fd,MkC K mg "Bowl" ["form","measure","lowest"] C f∧Fun K "__init__" "Bowl.__init__" KJ f fd∧Binds K fd ["self","form"] []
 ic_Bowl:IsC K "Bowl"
 na_Bowl_form:OJ K "Bowl" "form"
 na_Bowl_measure:OJ K "Bowl" "measure"
 na_Bowl_lowest:OJ K "Bowl" "lowest"
 o_Saddle:∃ C f fd,MkC K mg "Saddle" ["form","measure","lowest"] C f∧Fun K "__init__" "Saddle.__init__" Hl f fd∧Binds K fd ["self","form"] []
 ic_Saddle:IsC K "Saddle"
 na_Saddle_form:OJ K "Saddle" "form"
 na_Saddle_measure:OJ K "Saddle" "measure"
 na_Saddle_lowest:OJ K "Saddle" "lowest"
 cm_Shape:∃ g fd,Y4 K mg "Shape" "__init__" g∧Fun K "__init__" "Shape.__init__" Jj g fd∧Binds K fd ["self","form","lowest"] []
 me_way_to:∃ g fd,(∀ c∈(["Bowl","Saddle"]:List Str),Za K c "way_to" g)∧PySem.W.keepIn K (.ref g)=true∧Fun K "way_to" "Shape.way_to" Hi g fd∧Binds K fd ["self","other"] []
 t_divisor:∃ f fd,FnT K mg "divisor" Hq ["one","other"] f fd
 t_shares:∃ f fd,FnT K mg "shares" Jg ["one","other"] f fd
 t_row_less:∃ f fd,FnT K mg "row_less" Gp ["row","lower","often"] f fd
 t_root:∃ f fd,FnT K mg "root" Ja ["number"] f fd
 t_is_square:∃ f fd,FnT K mg "is_square" Ea ["number"] f fd
 t_check_at_most:∃ f fd,FnT K mg "check_at_most" BL ["number","most"] f fd
 t_check_within:∃ f fd,FnT K mg "check_within" Dd ["number","most"] f fd
 t_check_number:∃ f fd,FnT K mg "check_number" Dl ["number"] f fd
 t_chain:∃ f fd,FnT K mg "chain" Gx ["number"] f fd
 t_row_behind:∃ f fd,FnT K mg "row_behind" Eh ["row","number","far"] f fd
 t_part_of:∃ f fd,FnT K mg "part_of" Gn ["rows","k"] f fd
 t_fraction:∃ f fd,FnT K mg "fraction" Gm ["number","k"] f fd
 t_fraction_of:∃ f fd,FnT K mg "fraction_of" CP ["rows","k"] f fd
 t_first_pair:∃ f fd,FnT K mg "first_pair" Dq ["rows"] f fd
 t_pair_behind:∃ f fd,FnT K mg "pair_behind" Cr ["pair","often"] f fd
 t_plus_one:∃ f fd,FnT K mg "plus_one" Gv ["number"] f fd
 t_minus_one:∃ f fd,FnT K mg "minus_one" Ft ["number"] f fd
 t_point_of_round:∃ f fd,FnT K mg "point_of_round" BX ["rows"] f fd
 t_square_less:∃ f fd,FnT K mg "square_less" CQ ["number","point"] f fd
 t_is_turn:∃ f fd,FnT K mg "is_turn" Hr ["turn"] f fd
 t_check_turn:∃ f fd,FnT K mg "check_turn" Ds ["turn"] f fd
 t_put_behind:∃ f fd,FnT K mg "put_behind" BK ["one","other"] f fd
 t_back:∃ f fd,FnT K mg "back" J3 ["turn"] f fd
 t_measure:∃ f fd,FnT K mg "measure" Dc ["form"] f fd
 t_value:∃ f fd,FnT K mg "value" JG ["form","point"] f fd
 t_content:∃ f fd,FnT K mg "content" Ht ["form"] f fd
 t_moved:∃ f fd,FnT K mg "moved" G7 ["form","turn"] f fd
 t_middle:∃ f fd,FnT K mg "middle" Jl ["form","left","right"] f fd
 t_shape:∃ f fd,FnT K mg "shape" Hf ["form"] f fd
 t_check_bowl:∃ f fd,FnT K mg "check_bowl" Ed ["form"] f fd
 t_stands_least:∃ f fd,FnT K mg "stands_least" Df ["form"] f fd
 t_settled:∃ f fd,FnT K mg "settled" Hj ["form"] f fd
 t_turn_lower:∃ f fd,FnT K mg "turn_lower" Ef ["form"] f fd
 t_check_saddle:∃ f fd,FnT K mg "check_saddle" Ci ["form"] f fd
 t_stands_level:∃ f fd,FnT K mg "stands_level" Di ["form","far"] f fd
 t_turn_behind:∃ f fd,FnT K mg "turn_behind" Dy ["form","top"] f fd
 t_stop_behind:∃ f fd,FnT K mg "stop_behind" CT ["stop","top"] f fd
 t_eased:∃ f fd,FnT K mg "eased" Ky ["form"] f fd
 t_stops_round:∃ f fd,FnT K mg "stops_round" CV ["form"] f fd
 t_lowered:∃ f fd,FnT K mg "lowered" Hh ["form"] f fd
 t_step_of:∃ f fd,FnT K mg "step_of" Hs ["form"] f fd
 t_step_pair:∃ f fd,FnT K mg "step_pair" Fo ["form","plain_first"] f fd
 t_shape_of:∃ f fd,FnT K mg "shape_of" Fi ["form"] f fd
 t_way_between:∃ f fd,FnT K mg "way_between" Dw ["one","other"] f fd
 t_heads:∃ f fd,FnT K mg "heads" Il ["form","number"] f fd
 t_families:∃ f fd,FnT K mg "families" Fl ["form","number"] f fd
 t_roots_of_square_divisors:∃ f fd,FnT K mg "roots_of_square_divisors" Ba ["number"] f fd
 t_feet:∃ f fd,FnT K mg "feet" J5 ["first","far"] f fd
 t_whence:∃ f fd,FnT K mg "whence" GD ["form","number","point"] f fd
 t_turn_to_foot:∃ f fd,FnT K mg "turn_to_foot" CZ ["form","point"] f fd
 t_nearest:∃ f fd,FnT K mg "nearest" Hg ["number","most"] f fd
 t_last_pair_within:∃ f fd,FnT K mg "last_pair_within" BW ["rows","most"] f fd
 t_nearer:∃ f fd,FnT K mg "nearer" Jk ["number","one","other"] f fd
 t__law_cell:∃ f fd,FnT K mg "_law_cell" Fp ["_law_script","_law_k"] f fd
 t__law_whole:∃ f fd,FnT K mg "_law_whole" El ["_law_found"] f fd
 t__law_wholes:∃ f fd,FnT K mg "_law_wholes" Ca ["_law_found","_law_many_here"] f fd
 t__law_root:∃ f fd,FnT K mg "_law_root" Fv ["_law_number_here"] f fd
 t__law_led:∃ f fd,FnT K mg "_law_led" Gq ["_law_turn","_law_point"] f fd
 t__law_put:∃ f fd,FnT K mg "_law_put" Gw ["_law_one","_law_other"] f fd
 t__law_number:∃ f fd,FnT K mg "_law_number" Dv ["_law_cell_here"] f fd
 t__law_many:∃ f fd,FnT K mg "_law_many" Fx ["_law_step","_law_count"] f fd
 t__law_minus:∃ f fd,FnT K mg "_law_minus" Ei ["_law_number_here","_law_form","_law_plus","_law_many_here"] f fd
 t__law_whence:∃ f fd,FnT K mg "_law_whence" DK ["_law_form","_law_point","_law_other"] f fd
 t_law:∃ f fd,FnT K mg "law" K1 ["_law_script"] f fd
 m_MOST_NUMBER_chains:∃ t,mg "MOST_NUMBER_chains"=some (.int (1000) t)
 m_MOST_PLACE:∃ t,mg "MOST_PLACE"=some (.int (300) t)
 m_MOST_MEASURE:∃ t,mg "MOST_MEASURE"=some (.int (4000) t)
 m_MOST_NUMBER_answers:∃ t,mg "MOST_NUMBER_answers"=some (.int (400) t)
 z_abs:mg "abs"=none
 z_bool:mg "bool"=none
 z_int:mg "int"=none
 z_isinstance:mg "isinstance"=none
 z_len:mg "len"=none
 z_max:mg "max"=none
 z_min:mg "min"=none
 z_range:mg "range"=none
 z_sorted:mg "sorted"=none
 z_sum:mg "sum"=none
 z_tuple:mg "tuple"=none
 k_SAME:∃ a,mg "SAME"=some (.ref a)∧∀ H,Rp K H (.tup [.int (1),.int (0),.int (0),.int (1)]) (.ref a)
noncomputable abbrev Rr:DSp:=BR (fun t:I4=>[t4 t]) (B4 300000) fun t=>.bl (decide (det t=1))
noncomputable abbrev Io:DSp:=BR (fun t:I4=>[t4 t]) (fun t=>B4 300000 t∧det t=1) fun _=>.non
noncomputable abbrev CK:DSp:=BR (fun p:I4 × I4=>[t4 p.1,t4 p.2]) (fun p=>B4 400000 p.1∧B4 400000 p.2) fun p=>t4 (Aj p.1 p.2)
noncomputable abbrev Pz:DSp:=BR (fun t:I4=>[t4 t]) (fun t=>B4 300000 t∧det t=1) fun t=>t4 (Ax t)
section
variable (P:Program) (w:World) {K:PySem.W.Frag} {mg:Str→Option Value} (base:Heap)
theorem Xm (T:Txt K mg)
  : Pm P w K mg base 1 "is_turn" Hr ["turn"] Rr:=by
 obtain ⟨f,fd,F⟩:=T.t_is_turn
 refine ⟨f,fd,F,F.fn.okD Yj (by walk_at "lE") fun cdv A outer s H E hr=>⟨_,(Ah (Aq (MJ hr.units (Bv (Am (Ab (dv 0) Ac) (Ab (dv 0) Ac)) (Am (Ab (dv 0) Ac) (Ab (dv 0) Ac))) Ac))),fun ds Q h=>?_⟩⟩
 obtain ⟨⟨a,b,c,d⟩,rfl,⟨ha,hb,hc,hd⟩,q⟩:=h
 walk_at "go"
 exact ⟨by walk_at "mul",by walk_at "mul",q _ rfl⟩
theorem RM (T:Txt K mg)
  (G_is_turn:Pm P w K mg base 1 "is_turn" Hr ["turn"] Rr)
  : Pm P w K mg base 2 "check_turn" Ds ["turn"] Io:=by
 obtain ⟨f,fd,F⟩:=T.t_check_turn
 refine ⟨f,fd,F,F.fn.okD RQ (by walk_at "lE") fun cdv A outer s H E hr=>⟨_,(Ah (BZ (Gj (Fj (Ag Ae G_is_turn (hr.mono (by decide)) rfl (Aa (dv 0) Af)))) (Ah FN) Bg)),fun ds Q h=>?_⟩⟩
 obtain ⟨t,rfl,⟨hb,hd⟩,q⟩:=h
 walk_at "go"
 refine Ak t hb ?_
 walk_at "rd"
 rw [decide_eq_true hd]
 exact q _ rfl
theorem RG (T:Txt K mg)
  : Pm P w K mg base 1 "put_behind" BK ["one","other"] CK:=by
 obtain ⟨f,fd,F⟩:=T.t_put_behind
 refine ⟨f,fd,F,F.fn.okD RD (by walk_at "lE") fun cdv A outer s H E hr=>⟨_,(Ah (Aq (Bj (Aa (Bm (Am (Ab (dv 0) Ac) (Ab (dv 1) Ac)) (Am (Ab (dv 0) Ac) (Ab (dv 1) Ac))) (Aa (Bm (Am (Ab (dv 0) Ac) (Ab (dv 1) Ac)) (Am (Ab (dv 0) Ac) (Ab (dv 1) Ac))) (Aa (Bm (Am (Ab (dv 0) Ac) (Ab (dv 1) Ac)) (Am (Ab (dv 0) Ac) (Ab (dv 1) Ac))) (Aa (Bm (Am (Ab (dv 0) Ac) (Ab (dv 1) Ac)) (Am (Ab (dv 0) Ac) (Ab (dv 1) Ac))) Af))))))),fun ds Q h=>?_⟩⟩
 obtain ⟨⟨⟨a,b,c,d⟩,e,f,g,i⟩,rfl,⟨⟨ha,hb,hc,hd⟩,he,hf,hg,hi⟩,q⟩:=h
 walk_at "go"
 exact ⟨by walk_at "mul",by walk_at "mul",by walk_at "mul",by walk_at "mul",by walk_at "mul",by walk_at "mul",by walk_at "mul",by walk_at "mul",Ay (by decide),q _ rfl⟩
theorem AcV (T:Txt K mg)
  (G_check_turn:Pm P w K mg base 2 "check_turn" Ds ["turn"] Io)
  : Pm P w K mg base 3 "back" J3 ["turn"] Pz:=by
 obtain ⟨f,fd,F⟩:=T.t_back
 refine ⟨f,fd,F,F.fn.okD Ae4 (by walk_at "lE") fun cdv A outer s H E hr=>⟨_,(Ad (FW (Ag Ae G_check_turn (hr.mono (by decide)) rfl (Aa (dv 0) Af))) (Ah (Aq (Bj (Aa (Ab (dv 0) Ac) (Aa (DN (Ab (dv 0) Ac)) (Aa (DN (Ab (dv 0) Ac)) (Aa (Ab (dv 0) Ac) Af)))))))),fun ds Q h=>?_⟩⟩
 obtain ⟨⟨a,b,c,d⟩,rfl,⟨hb,hd⟩,q⟩:=h
 walk_at "go"
 refine Ak (a,b,c,d) ⟨hb,hd⟩ ?_
 exact ⟨Ay (by decide),q _ rfl⟩
theorem AcT (T:Txt K mg)
  : Pm P w K mg base 1 "root" Ja ["number"] Kr:=by
 obtain ⟨f,fd,F⟩:=T.t_root
 refine ⟨f,fd,F,F.fn.okD Mi (by walk_at "lE") fun cdv A outer s H E hr=>⟨_,(Ad (BZ (M4 (dv 0) Ac) (Ah FN) Bg) (Ad (BZ (JQ hr.units (dv 0) Ac) (Ah (Aq Ac)) Bg) (Ad (Al 1 Mi.nd (AaH Ac (Ck (Bm (Yv (dv 0)) Ac) Ac))) (Ad (Al 2 Mi.nd (Ck (Bm (dv 1) (Ck (dv 0) (dv 1))) Ac)) (Ad (Ew PassesOwn.never (M4 (dv 2) (dv 1)) (Ad (Al 1 Mi.nd (dv 2)) (Ah (Al 2 Mi.nd (Ck (Bm (dv 1) (Ck (dv 0) (dv 1))) Ac))))) (Ah (Aq (dv 1)))))))),fun ds Q h=>?_⟩⟩
 obtain ⟨n,rfl,⟨h0,hb⟩,q⟩:=h
 walk_at "go"
 refine Dm (decide_eq_false (by omega)) ?_
 by_cases hz:n=0
 ·subst hz
  exact ift rfl (q _ ⟨0,rfl,⟨by omega,by omega,by omega⟩,Bt.zero.le (by decide)⟩)
 refine Dm (decide_eq_false hz) ?_
 obtain ⟨c1,c2,c3⟩:=Oi hb
 have hu:=Wl h0
 refine ⟨⟨by decide,by decide⟩,c1,?_⟩
 generalize (1*2 ^ ((((Builtin.Int.intBits n:Nat):Int)+1).fdiv 2).toNat:Int)=g at *
 refine ⟨Bt.divOk c2 (by omega),⟨by decide,by decide⟩,?_⟩
 rw [UG c3]
 refine Es (fun m ρ=>∃ g:Int,ρ=[some (.is (.int n)),some (.is (.int g)),some (.is (.int ((g+n / g) / 2)))]∧0 < g∧Bt 2001 g∧n < (g+1)*(g+1)∧m=g.toNat) _ ⟨g,rfl,c3,c2,hu,rfl⟩ ?_
 rintro m _ ⟨g,rfl,hg,hgb,hgu,rfl⟩
 walk_at "rd"
 refine MP (fun hw=>?_) (fun hw=>?_)
 ·have hw:=of_decide_eq_true hw
  have hp:=Xc (show 1≤n by omega) hg
  have hu':=S8 h0 hg
  have hbb:Bt 2001 ((g+n / g) / 2):=by unfold Bt at *;omega
  generalize (g+n / g) / 2=b at *
  refine ⟨Bt.divOk hbb (by omega),⟨by decide,by decide⟩,?_⟩
  rw [UG hp]
  exact ⟨_,by omega,b,rfl,hp,hbb,hu',rfl⟩
 ·have hw:¬ (g+n / g) / 2 < g:=fun z=>hw (decide_eq_true z)
  exact q _ ⟨g,rfl,⟨by omega,Xe hg (by omega),hgu⟩,hgb⟩
theorem UL (T:Txt K mg)
  (G_root:Pm P w K mg base 1 "root" Ja ["number"] Kr)
  : Pm P w K mg base 2 "is_square" Ea ["number"] JB:=by
 obtain ⟨f,fd,F⟩:=T.t_is_square
 refine ⟨f,fd,F,F.fn.okD M8 (by walk_at "lE") fun cdv A outer s H E hr=>⟨_,(Ad (BZ (M4 (dv 0) Ac) (Ah (Aq KY)) Bg) (Ad (Al 1 M8.nd (Ag Ae G_root (hr.mono (by decide)) rfl (Aa (dv 0) Af))) (Ah (Aq (MJ hr.units (Am (dv 1) (dv 1)) (dv 0)))))),fun ds Q h=>?_⟩⟩
 obtain ⟨n,rfl,hb,q⟩:=h
 walk_at "go"
 refine MP (fun hw=>?_) (fun hw=>?_)
 ·have hw:=of_decide_eq_true hw
  exact q _ ⟨false,rfl,by simp [Nh hw]⟩
 ·have hw:¬ n < 0:=fun z=>hw (decide_eq_true z)
  refine Az n ⟨by omega,hb⟩ ?_
  rintro _ ⟨r,rfl,hs,hr'⟩
  walk_at "rd"
  refine ⟨by walk_at "mul",q _ ⟨_,rfl,?_⟩⟩
  rw [Wb hs];simp
noncomputable abbrev Fe:DSp:=BR (fun f:I3=>[t3 f]) (B3 20000) fun f=>.int (meas f)
noncomputable abbrev QF:DSp:=BR (fun p:I3 × I2=>[t3 p.1,t2 p.2]) (fun p=>B3 20000 p.1∧B2 300000 p.2) fun p=>.int (val p.1 p.2)
noncomputable abbrev S6:DSp:=BR (fun p:I3 × I2 × I2=>[t3 p.1,t2 p.2.1,t2 p.2.2]) (fun p=>B3 20000 p.1∧B2 300000 p.2.1∧B2 300000 p.2.2) fun p=>.int (mid p.1 p.2.1 p.2.2)
noncomputable abbrev J9:DSp:=BR (fun p:I3 × I4=>[t3 p.1,t4 p.2]) (fun p=>B3 20000 p.1∧B4 300000 p.2∧det p.2=1) fun p=>t3 (mov p.1 p.2)
theorem X5 (T:Txt K mg)
  : Pm P w K mg base 1 "measure" Dc ["form"] Fe:=by
 obtain ⟨f,fd,F⟩:=T.t_measure
 refine ⟨f,fd,F,F.fn.okD XH (by walk_at "lE") fun cdv A outer s H E hr=>⟨_,(Ah (Aq (Bv (Am (Ab (dv 0) Ac) (Ab (dv 0) Ac)) (Am (Am Ac (Ab (dv 0) Ac)) (Ab (dv 0) Ac))))),fun ds Q h=>?_⟩⟩
 obtain ⟨⟨a,b,c⟩,rfl,⟨ha,hb,hc⟩,q⟩:=h
 walk_at "go"
 have h2:Bt 3 4:=Bt.of_abs (by decide)
 exact ⟨by walk_at "mul",by walk_at "mul",by walk_at "mul",q _ rfl⟩
theorem Aco (T:Txt K mg)
  : Pm P w K mg base 1 "value" JG ["form","point"] QF:=by
 obtain ⟨f,fd,F⟩:=T.t_value
 refine ⟨f,fd,F,F.fn.okD Ro (by walk_at "lE") fun cdv A outer s H E hr=>⟨_,(Ad (Al 2 Ro.nd (Ab (dv 1) Ac)) (Ad (Al 3 Ro.nd (Ab (dv 1) Ac)) (Ah (Aq (Bm (Bm (Am (Am (Ab (dv 0) Ac) (dv 2)) (dv 2)) (Am (Am (Ab (dv 0) Ac) (dv 2)) (dv 3))) (Am (Am (Ab (dv 0) Ac) (dv 3)) (dv 3))))))),fun ds Q h=>?_⟩⟩
 obtain ⟨⟨⟨a,b,c⟩,x,y⟩,rfl,⟨⟨ha,hb,hc⟩,hx,hy⟩,q⟩:=h
 walk_at "go"
 exact ⟨by walk_at "mul",by walk_at "mul",by walk_at "mul",by walk_at "mul",by walk_at "mul",by walk_at "mul",q _ rfl⟩
theorem Zy (T:Txt K mg)
  : Pm P w K mg base 1 "middle" Jl ["form","left","right"] S6:=by
 obtain ⟨f,fd,F⟩:=T.t_middle
 refine ⟨f,fd,F,F.fn.okD S5 (by walk_at "lE") fun cdv A outer s H E hr=>⟨_,(Ad (Al 3 S5.nd (Bm (Am (Ab (dv 1) Ac) (Ab (dv 2) Ac)) (Am (Ab (dv 2) Ac) (Ab (dv 1) Ac)))) (Ah (Aq (Bm (Bm (Am (Am (Am Ac (Ab (dv 0) Ac)) (Ab (dv 1) Ac)) (Ab (dv 2) Ac)) (Am (Ab (dv 0) Ac) (dv 3))) (Am (Am (Am Ac (Ab (dv 0) Ac)) (Ab (dv 1) Ac)) (Ab (dv 2) Ac)))))),fun ds Q h=>?_⟩⟩
 obtain ⟨⟨⟨a,b,c⟩,⟨x,y⟩,u,v⟩,rfl,⟨⟨ha,hb,hc⟩,⟨hx,hy⟩,hu,hv⟩,q⟩:=h
 walk_at "go"
 have h2:Bt 2 2:=Bt.of_abs (by decide)
 walk_at "muls"
 exact q _ rfl
theorem AaP (T:Txt K mg)
  (G_check_turn:Pm P w K mg base 2 "check_turn" Ds ["turn"] Io)
  (G_value:Pm P w K mg base 1 "value" JG ["form","point"] QF)
  (G_middle:Pm P w K mg base 1 "middle" Jl ["form","left","right"] S6)
  : Pm P w K mg base 3 "moved" G7 ["form","turn"] J9:=by
 obtain ⟨f,fd,F⟩:=T.t_moved
 refine ⟨f,fd,F,F.fn.okD QG (by walk_at "lE") fun cdv A outer s H E hr=>⟨_,(Ad (FW (Ag Ae G_check_turn (hr.mono (by decide)) rfl (Aa (dv 1) Af))) (Ad (Al 2 QG.nd (Bj (Aa (Ab (dv 1) Ac) (Aa (Ab (dv 1) Ac) Af)))) (Ad (Al 3 QG.nd (Bj (Aa (Ab (dv 1) Ac) (Aa (Ab (dv 1) Ac) Af)))) (Ah (Aq (Bj (Aa (Ag Ae G_value (hr.mono (by decide)) rfl (Aa (dv 0) (Aa (dv 2) Af))) (Aa (Ag Ae G_middle (hr.mono (by decide)) rfl (Aa (dv 0) (Aa (dv 2) (Aa (dv 3) Af)))) (Aa (Ag Ae G_value (hr.mono (by decide)) rfl (Aa (dv 0) (Aa (dv 3) Af))) Af))))))))),fun ds Q h=>?_⟩⟩
 obtain ⟨⟨f,t⟩,rfl,⟨hf,ht,hd⟩,q⟩:=h
 walk_at "go"
 have hl:B2 300000 (t.1,t.2.2.1):=⟨ht.1.le (by decide),ht.2.2.1.le (by decide)⟩
 have hr':B2 300000 (t.2.1,t.2.2.2):=⟨ht.2.1.le (by decide),ht.2.2.2.le (by decide)⟩
 refine Ak t ⟨ht,hd⟩ ⟨Ay (by decide),Ay (by decide),?_⟩
 refine Ak (f,(t.1,t.2.2.1)) ⟨hf,hl⟩ ?_
 refine Ak (f,(t.1,t.2.2.1),(t.2.1,t.2.2.2)) ⟨hf,hl,hr'⟩ ?_
 refine Ak (f,(t.2.1,t.2.2.2)) ⟨hf,hr'⟩ ⟨Ay (by decide),?_⟩
 exact q _ rfl
noncomputable abbrev QW:DSp:=BR (fun p:I2=>[.int p.1,.int p.2]) (fun _=>True) fun p=>.int ((Int.gcd p.1 p.2:Nat):Int)
theorem Yl (T:Txt K mg)
  : Pm P w K mg base 1 "divisor" Hq ["one","other"] QW:=by
 obtain ⟨f,fd,F⟩:=T.t_divisor
 refine ⟨f,fd,F,F.fn.okD Jq (by walk_at "lE") fun cdv A outer s H E hr=>⟨_,(Ad (Ew PassesOwn.never (Fy hr.units (dv 1) Ac) (Ad (Al 2 Jq.nd (Hw (dv 0) (dv 1))) (Ad (Al 0 Jq.nd (dv 1)) (Ah (Al 1 Jq.nd (dv 2)))))) (Ah (Aq (Ie T.z_abs (Aa (dv 0) Af))))),fun ds Q h=>?_⟩⟩
 obtain ⟨⟨a,b⟩,rfl,_,q⟩:=h
 simp only [Vp,WL,U9]
 refine Es (fun m ρ=>∃ x y z,ρ=[some (.is (.int x)),some (.is (.int y)),z]∧Int.gcd x y=Int.gcd a b∧m=y.natAbs) _ ⟨a,b,none,rfl,rfl,rfl⟩ ?_
 rintro m _ ⟨x,y,z,rfl,hg,rfl⟩
 walk_at "rd"
 by_cases hy:y=0
 ·subst hy
  simp only [decide_true,Bool.not_true]
  walk_at "rd"
  have q':=q _ rfl
  have e:(if x < 0 then -x else x)=((Int.gcd a b:Nat):Int):=by rw [←hg,Int.gcd_zero_right];split <;> omega
  rw [e]
  exact q'
 ·simp only [decide_eq_false hy,Bool.not_false,if_true]
  exact ⟨hy,_,Nm hy,y,x.fmod y,_,rfl,(Qy x y).trans hg,rfl⟩
noncomputable abbrev Ql:DSp:=BR (fun f:I3=>[t3 f]) (fun _=>True) fun f=>.int (g3 f)
theorem WX (T:Txt K mg)
  (G_divisor:Pm P w K mg base 1 "divisor" Hq ["one","other"] QW)
  : Pm P w K mg base 2 "content" Ht ["form"] Ql:=by
 obtain ⟨f,fd,F⟩:=T.t_content
 refine ⟨f,fd,F,F.fn.okD Yk (by walk_at "lE") fun cdv A outer s H E hr=>⟨_,(Ah (Aq (Ag Ae G_divisor (hr.mono (by decide)) rfl (Aa (Ag Ae G_divisor (hr.mono (by decide)) rfl (Aa (Ab (dv 0) Ac) (Aa (Ab (dv 0) Ac) Af))) (Aa (Ab (dv 0) Ac) Af))))),fun ds Q h=>?_⟩⟩
 obtain ⟨f,rfl,_,q⟩:=h
 walk_at "go"
 exact Ak (f.1,f.2.1) trivial (Ak (_,f.2.2) trivial (q _ rfl))
noncomputable abbrev J4:DSp:=spec (fun f:I3=>[t3 f]) (fun f=>B3 1500 f) Abu
theorem AcD (T:Txt K mg)
  (G_measure:Pm P w K mg base 1 "measure" Dc ["form"] Fe)
  (G_is_square:Pm P w K mg base 2 "is_square" Ea ["number"] JB)
  : Pm P w K mg base 3 "shape" Hf ["form"] J4:=by
 obtain ⟨f,fd,F⟩:=T.t_shape
 refine ⟨f,fd,F,F.fn.okD V1 (by walk_at "lE") fun cdv A outer s H E hr=>⟨_,(Ad (Al 1 V1.nd (Ag Ae G_measure (hr.mono (by decide)) rfl (Aa (dv 0) Af))) (Ad (BZ (Fj (Ag Ae G_is_square (hr.mono (by decide)) rfl (Aa (dv 1) Af))) (Ah (Aq Kl)) Bg) (Ad (BZ (V8 (dv 1) Ac) (Ah (Aq Kl)) Bg) (Ad (BZ (V8 (Ab (dv 0) Ac) Ac) (Ah (Aq Kl)) Bg) (Ah (Aq Kl)))))),fun ds Q h=>?_⟩⟩
 obtain ⟨f,rfl,hf,q⟩:=h
 walk_at "go"
 refine Ak f (hf.le (by decide)) ?_
 have hm:Bt 4000 (meas f):=by
  obtain ⟨h1,h2,h3⟩:=hf
  have h4:Bt 3 4:=Bt.of_abs (by decide)
  exact ((h2.mul h2).sub ((h4.mul h1).mul h3)).le (by decide)
 refine Az (meas f) hm ?_
 rintro _ ⟨b,rfl,hb⟩
 walk_at "rd"
 refine MP (fun h=>q _ (.flat (hb.mp h))) (fun h=>?_)
 have hn:¬ Jy (meas f):=fun z=>h (hb.mpr z)
 refine MP (fun h=>q _ (.saddle hn (of_decide_eq_true h))) (fun h=>?_)
 have hp:¬ 0 < meas f:=fun z=>h (decide_eq_true z)
 refine MP (fun h=>q _ (.bowl hn hp (of_decide_eq_true h))) (fun h=>q _ (.dome hn hp fun z=>h (decide_eq_true z)))
noncomputable abbrev KZ:DSp:=BR (fun f:I3=>[t3 f]) (fun f=>B3 1500 f∧Cd f) fun _=>.non
noncomputable abbrev JV:DSp:=BR (fun f:I3=>[t3 f]) (fun _=>True) fun f=>.bl (stands f)
theorem RL (T:Txt K mg)
  (G_shape:Pm P w K mg base 3 "shape" Hf ["form"] J4)
  : Pm P w K mg base 4 "check_bowl" Ed ["form"] KZ:=by
 obtain ⟨f,fd,F⟩:=T.t_check_bowl
 refine ⟨f,fd,F,F.fn.okD Rx (by walk_at "lE") fun cdv A outer s H E hr=>⟨_,(Ah (BZ (Fy hr.units (Ag Ae G_shape (hr.mono (by decide)) rfl (Aa (dv 0) Af)) Kl) (Ah FN) Bg)),fun ds Q h=>?_⟩⟩
 obtain ⟨f,rfl,⟨hb,h0,h1⟩,q⟩:=h
 walk_at "go"
 have h0:0 < f.1:=h0
 have h1:meas f < 0:=h1
 refine Az f hb ?_
 rintro _ hw
 cases hw with
 | flat z=>exact absurd z (Nh h1)
 | saddle _ z=>exact absurd z (by omega)
 | dome _ _ z=>exact absurd h0 z
 | bowl _ _ _=>exact ⟨⟨by rw [Lh];decide +kernel,by rw [Lh];decide +kernel⟩,ifn (by rw [Q0];rfl) (q _ rfl)⟩
theorem O5 (T:Txt K mg)
  : Pm P w K mg base 1 "stands_least" Df ["form"] JV:=by
 obtain ⟨f,fd,F⟩:=T.t_stands_least
 refine ⟨f,fd,F,F.fn.okD EY (by walk_at "lE") fun cdv A outer s H E hr=>⟨_,(Ad (Al 1 EY.nd (Ab (dv 0) Ac)) (Ad (Al 2 EY.nd (Ab (dv 0) Ac)) (Ad (Al 3 EY.nd (Ab (dv 0) Ac)) (Ad (BZ (Gj (Aaj R6 R6 R6 GK GK GK  (DN (dv 1)) (dv 2) (dv 1) (dv 3))) (Ah (Aq KY)) Bg) (Ah (Aq (AfM (Alc (dv 2) Ac) (N5 (Q6 (AfC hr.units (dv 2) (DN (dv 1))) (N5 (AfC hr.units (dv 1) (dv 3)))))))))))),fun ds Q h=>?_⟩⟩
 obtain ⟨⟨a,b,c⟩,rfl,_,q⟩:=h
 have q':=q _ rfl
 dsimp only [stands] at q'
 walk_at "go"
 simp only [Bool.decide_and,ne_eq,decide_not] at q'
 generalize decide (-a≤b)=x1 at *
 generalize decide (b≤a)=x2 at *
 generalize decide (a≤c)=x3 at *
 generalize decide (0≤b)=x4 at *
 generalize decide (b=-a)=x5 at *
 generalize decide (a=c)=x6 at *
 cases x1 <;> cases x2 <;> cases x3 <;> cases x4 <;> cases x5 <;> cases x6 <;> exact q'
noncomputable abbrev KQ:DSp:=BR (fun f:I3=>[t3 f]) (fun f=>B3 8000 f∧0 < f.1) fun f=>t4 (DQ f)
theorem RK (T:Txt K mg)
  : Pm P w K mg base 1 "turn_lower" Ef ["form"] KQ:=by
 obtain ⟨f,fd,F⟩:=T.t_turn_lower
 refine ⟨f,fd,F,F.fn.okD K6 (by walk_at "lE") fun cdv A outer s H E hr=>⟨_,(Ad (Al 1 K6.nd (Ck (Bv (Ab (dv 0) Ac) (Ab (dv 0) Ac)) (Am Ac (Ab (dv 0) Ac)))) (Ad (BZ (Fy hr.units (dv 1) Ac) (Ah (Aq (Bj (Aa Ac (Aa (dv 1) (Aa Ac (Aa Ac Af))))))) Bg) (Ah (Aq (Bj (Aa Ac (Aa (DN Ac) (Aa Ac (Aa Ac Af))))))))),fun ds Q h=>?_⟩⟩
 obtain ⟨⟨a,b,c⟩,rfl,⟨⟨h1,h2,h3⟩,h0⟩,q⟩:=h
 have h0:0 < a:=h0
 have h1:Bt 8000 a:=h1
 have two:Bt 2 2:=Bt.of_abs (by decide)
 have q':=q _ rfl
 dsimp only at q'
 walk_at "go"
 refine ⟨two.mulOk h1,Bt.divOk (two.mul h1) (by omega),?_⟩
 by_cases ho:(a - b).fdiv (2*a)=0
 ·refine Dm (by rw [decide_eq_true ho];rfl) ⟨Ay (by decide),?_⟩
  rw [Qn (f:=(a,b,c)) ho] at q'
  exact q'
 ·refine ift (by rw [decide_eq_false ho];rfl) ⟨Ay (by decide),?_⟩
  rw [Rt (f:=(a,b,c)) ho] at q'
  exact q'
noncomputable def LI (f:I3):Nat→I4
 | 0=>(1,0,0,1)
 | k+1=>Aj (LI f k) (DQ (mov f (LI f k)))
noncomputable def Lz (f:I3) (t:I4):Prop:=∃ k,t=LI f k∧(∀ i,i < k→stands (mov f (LI f i))=false)∧stands (mov f (LI f k))=true
theorem Lz.uniq {f:I3} {t u:I4} (a:Lz f t) (b:Lz f u):t=u:=by
 obtain ⟨k,rfl,n1,h1⟩:=a
 obtain ⟨l,rfl,n2,h2⟩:=b
 rcases Nat.lt_trichotomy k l with z | z | z
 ·rw [n2 k z] at h1;cases h1
 ·rw [z]
 ·rw [n1 l z] at h2;cases h2
noncomputable def Mv (f:I3) (d:Dt):Prop:=∃ t:I4,d=.tup [t3 (mov f t),t4 t]∧det t=1∧Fq (mov f t)∧B4 5000 t∧Lz f t
noncomputable abbrev QZ:DSp:=spec (fun f:I3=>[t3 f]) (fun f=>B3 1500 f∧Cd f) Mv
theorem Xy (T:Txt K mg)
  (G_check_bowl:Pm P w K mg base 4 "check_bowl" Ed ["form"] KZ)
  (G_stands_least:Pm P w K mg base 1 "stands_least" Df ["form"] JV)
  (G_turn_lower:Pm P w K mg base 1 "turn_lower" Ef ["form"] KQ)
  (G_moved:Pm P w K mg base 3 "moved" G7 ["form","turn"] J9)
  (G_put_behind:Pm P w K mg base 1 "put_behind" BK ["one","other"] CK)
  : Pm P w K mg base 5 "settled" Hj ["form"] QZ:=by
 obtain ⟨f,fd,F⟩:=T.t_settled
 obtain ⟨a_SAME,m_SAME,q_SAME⟩:=T.k_SAME
 refine ⟨f,fd,F,F.fn.okD Ih (by walk_at "lE") fun cdv A outer s H E hr=>⟨_,(Ad (FW (Ag Ae G_check_bowl (hr.mono (by decide)) rfl (Aa (dv 0) Af))) (Ad (Al 1 Ih.nd (Kq (v:=.ref a_SAME) rfl m_SAME rfl q_SAME)) (Ad (Ew PassesOwn.never (Gj (Fj (Ag Ae G_stands_least (hr.mono (by decide)) rfl (Aa (dv 0) Af)))) (Ad (Al 2 Ih.nd (Ag Ae G_turn_lower (hr.mono (by decide)) rfl (Aa (dv 0) Af))) (Ad (Al 0 Ih.nd (Ag Ae G_moved (hr.mono (by decide)) rfl (Aa (dv 0) (Aa (dv 2) Af)))) (Ah (Al 1 Ih.nd (Ag Ae G_put_behind (hr.mono (by decide)) rfl (Aa (dv 1) (Aa (dv 2) Af)))))))) (Ah (Aq (Bj (Aa (dv 0) (Aa (dv 1) Af)))))))),fun ds Q h=>?_⟩⟩
 obtain ⟨f,rfl,⟨hb,hw⟩,q⟩:=h
 have hw:Cd f:=hw
 have hb:B3 1500 f:=hb
 have hm:Bt 3010 (meas f):=by
  obtain ⟨h1,h2,h3⟩:=hb
  have h4:Bt 3 4:=Bt.of_abs (by decide)
  exact ((h2.mul h2).sub ((h4.mul h1).mul h3)).le (by decide)
 walk_at "go"
 refine Ak f ⟨hb,hw⟩ ?_
 refine Es (fun m ρ=>∃ t x,(∃ k,t=LI f k∧∀ i,i < k→stands (mov f (LI f i))=false)∧ρ=[some (.is (t3 (mov f t))),some (.is (t4 t)),x]∧det t=1∧Bt 1500 (mov f t).1∧Bt 1500 (mov f t).2.1∧m=msr (mov f t)) _ ⟨(1,0,0,1),none,⟨0,rfl,fun _ h=>absurd h (by omega)⟩,by rw [DY],rfl,by rw [DY];exact hb.1,by rw [DY];exact hb.2.1,rfl⟩ ?_
 rintro m _ ⟨t,x,⟨k,et,nl⟩,rfl,hd,b1,b2,rfl⟩
 have hg:=AaB hw hd
 have hgb:B3 7000 (mov f t):=(Adj hg b1 b2 (by rw [Br hd];exact hm)).le (by decide)
 have ht:B4 5000 t:=Zk hw hb hgb (by decide)
 walk_at "rd"
 refine Ak (mov f t) trivial ?_
 walk_at "rd"
 by_cases hs:stands (mov f t)=true
 ·refine Dm (by rw [hs];rfl) ⟨Ay (by decide),q _ ⟨t,rfl,hd,Bo hg.1 hs,ht,k,et,nl,by rw [←et];exact hs⟩⟩
 ·have hs:stands (mov f t)=false:=by simpa using hs
  refine ift (by rw [hs];rfl) ?_
  have hl:B4 2000 (DQ (mov f t)):=(Acn hg.1 b1 b2).le (by decide)
  refine Ak (mov f t) ⟨hgb.le (by decide),hg.1⟩ ?_
  refine Ak (mov f t,DQ (mov f t)) ⟨hgb.le (by decide),hl.le (by decide),Te⟩ ?_
  refine Ak (t,DQ (mov f t)) ⟨ht.le (by decide),hl.le (by decide)⟩ ?_
  have hb':=Aa1 hg hs b1 b2
  have hm':=Aak hg hs
  rw [Bf] at hb' hm'
  dsimp only
  rw [Bf]
  refine ⟨_,hm',Aj t (DQ (mov f t)),_,⟨k+1,by rw [et];rfl,fun i hi=>?_⟩,rfl,?_,hb'.1,hb'.2,rfl⟩
  case refine_1 =>
   rcases Nat.lt_or_ge i k with z | z
   ·exact nl i z
   ·rw [show i=k by omega,←et];exact hs
  rw [BP,hd,Te];rfl
noncomputable abbrev Ec:DSp:=BR (fun p:I2=>[.int p.1,.int p.2]) (fun p=>p.1≤p.2) fun _=>.non
theorem Nz (T:Txt K mg)
  : Pm P w K mg base 1 "check_at_most" BL ["number","most"] Ec:=by
 obtain ⟨f,fd,F⟩:=T.t_check_at_most
 refine ⟨f,fd,F,F.fn.okD Nq (by walk_at "lE") fun cdv A outer s H E hr=>⟨_,(Ah (BZ (V8 (dv 0) (dv 1)) (Ah FN) Bg)),fun ds Q h=>?_⟩⟩
 obtain ⟨⟨n,m⟩,rfl,h0,q⟩:=h
 have h0:n≤m:=h0
 walk_at "go"
 exact Dm (decide_eq_false (by omega)) (q _ rfl)
noncomputable abbrev Fd:DSp:=BR (fun f:I3=>[t3 f]) (fun f=>B3 1500 f∧Sad f) fun _=>.non
noncomputable abbrev JL:DSp:=BR (fun p:I3 × Int=>[t3 p.1,.int p.2]) (fun p=>B3 20000 p.1) fun p=>.bl (decide (Level p.1 p.2))
theorem O3 (T:Txt K mg)
  (G_check_at_most:Pm P w K mg base 1 "check_at_most" BL ["number","most"] Ec)
  (G_shape:Pm P w K mg base 3 "shape" Hf ["form"] J4)
  (G_measure:Pm P w K mg base 1 "measure" Dc ["form"] Fe)
  : Pm P w K mg base 4 "check_saddle" Ci ["form"] Fd:=by
 obtain ⟨f,fd,F⟩:=T.t_check_saddle
 obtain ⟨t_MOST_MEASURE,m_MOST_MEASURE⟩:=T.m_MOST_MEASURE
 refine ⟨f,fd,F,F.fn.okD O9 (by walk_at "lE") fun cdv A outer s H E hr=>⟨_,(Ad (BZ (Fy hr.units (Ag Ae G_shape (hr.mono (by decide)) rfl (Aa (dv 0) Af)) Kl) (Ah FN) Bg) (Ah (FW (Ag Ae G_check_at_most (hr.mono (by decide)) rfl (Aa (Ag Ae G_measure (hr.mono (by decide)) rfl (Aa (dv 0) Af)) (Aa (Kq (v:=.int (4000)) (d:=.int (4000)) rfl m_MOST_MEASURE ⟨_,rfl⟩ (fun _=>Bb.mpr rfl)) Af)))))),fun ds Q h=>?_⟩⟩
 obtain ⟨f,rfl,⟨hb,hs⟩,q⟩:=h
 have hs:Sad f:=hs
 have nb:Dt.flat 8 (.str "saddle")=true:=by rw [Lh];decide +kernel
 walk_at "go"
 refine Az f hb ?_
 rintro _ hw
 have h0:=hs.pos
 cases hw with
 | flat z=>exact absurd z hs.no
 | bowl _ z _=>exact absurd h0 z
 | dome _ z _=>exact absurd h0 z
 | saddle _ _ =>
  refine ⟨⟨nb,nb⟩,ifn (by rw [Q0];rfl) (Ak f (hb.le (by decide)) (Ak (meas f,4000) hs.most (q _ rfl)))⟩
theorem Ph (T:Txt K mg)
  : Pm P w K mg base 1 "stands_level" Di ["form","far"] JL:=by
 obtain ⟨f,fd,F⟩:=T.t_stands_level
 refine ⟨f,fd,F,F.fn.okD JN (by walk_at "lE") fun cdv A outer s H E hr=>⟨_,(Ad (Al 2 JN.nd (Ab (dv 0) Ac)) (Ah (Aq (Q6 (Vc Ab1 R6 GK GK Ac (dv 2) (dv 1)) (N5 (Vc Ab1 R6 GK GK (Bv (dv 1) (dv 2)) (Am Ac (Ie T.z_abs (Aa (Ab (dv 0) Ac) Af))) (Bm (dv 1) (dv 2)))))))),fun ds Q h=>?_⟩⟩
 obtain ⟨⟨⟨a,b,c⟩,far⟩,rfl,hb,q⟩:=h
 have q':=q _ rfl
 obtain ⟨ha,_,_⟩:=(show B3 20000 (a,b,c) from hb)
 have ha:Bt 20000 a:=ha
 have two:Bt 2 2:=Bt.of_abs (by decide)
 have ha':Bt 20000 (if a < 0 then -a else a):=by split <;> first | exact ha.neg | exact ha
 have q':Q (.bl (decide (Level (a,b,c) far))):=q'
 walk_at "go"
 have hL:Level (a,b,c) far↔(0 < b∧b≤far)∧far - b < 2*(if a < 0 then -a else a)∧2*(if a < 0 then -a else a)≤far+b:=Iff.rfl
 generalize (if a < 0 then -a else a)=A at *
 by_cases h1:0 < b
 ·refine ift (decide_eq_true h1) ?_
  by_cases h2:b≤far
  ·refine ift (decide_eq_true h2) ⟨two.mulOk ha',?_⟩
   by_cases h3:far - b < 2*A
   ·refine ift (decide_eq_true h3) ?_
    have e:decide (Level (a,b,c) far)=decide (2*A≤far+b):=decide_eq_decide.mpr (hL.trans ⟨fun z=>z.2.2,fun z=>⟨⟨h1,h2⟩,h3,z⟩⟩)
    rw [e] at q'
    exact q'
   ·refine Dm (decide_eq_false h3) ?_
    rw [decide_eq_false fun z=>h3 (hL.mp z).2.1] at q'
    exact q'
  ·refine Dm (decide_eq_false h2) ?_
   rw [decide_eq_false fun z=>h2 (hL.mp z).1.2] at q'
   exact q'
 ·refine Dm (decide_eq_false h1) ?_
  rw [decide_eq_false fun z=>h1 (hL.mp z).1.1] at q'
  exact q'
noncomputable abbrev Ke:DSp:=BR (fun p:I3 × Int=>[t3 p.1,.int p.2]) (fun p=>B3 8000 p.1∧p.1.2.2≠0) fun p=>t4 (Ce p.1 p.2)
theorem Qg (T:Txt K mg)
  : Pm P w K mg base 1 "turn_behind" Dy ["form","top"] Ke:=by
 obtain ⟨f,fd,F⟩:=T.t_turn_behind
 refine ⟨f,fd,F,F.fn.okD FP (by walk_at "lE") fun cdv A outer s H E hr=>⟨_,(Ad (Al 2 FP.nd (Ab (dv 0) Ac)) (Ad (Al 3 FP.nd (Ab (dv 0) Ac)) (Ad (Al 4 FP.nd (Bv (dv 1) (Hw (Bm (dv 1) (dv 2)) (Am Ac (Ie T.z_abs (Aa (dv 3) Af)))))) (Ah (Aq (Bj (Aa Ac (Aa (DN Ac) (Aa Ac (Aa (Ck (Bm (dv 2) (dv 4)) (Am Ac (dv 3))) Af)))))))))),fun ds Q h=>?_⟩⟩
 obtain ⟨⟨⟨a,b,c⟩,top⟩,rfl,⟨⟨_,_,hc⟩,h0⟩,q⟩:=h
 have hc:Bt 8000 c:=hc
 have h0:c≠0:=h0
 have two:Bt 2 2:=Bt.of_abs (by decide)
 have hac:2*ab c≠0:=by rcases Ar c with ⟨_,e⟩ | ⟨_,e⟩ <;> omega
 walk_at "go"
 exact ⟨two.mulOk (Aa0 hc),hac,two.mulOk hc,Bt.divOk (two.mul hc) (by omega),Ay (by decide),q _ rfl⟩
noncomputable abbrev K4 (f:I3) (t:I4):Dt:=.tup [t3 f,t4 t]
noncomputable abbrev Gf:DSp:=BR (fun p:I3 × I4 × Int=>[K4 p.1 p.2.1,.int p.2.2]) (fun p=>B3 8000 p.1∧p.1.2.2≠0∧B4 300000 p.2.1∧B4 5000 (Ce p.1 p.2.2)) fun p=>K4 (mov p.1 (Ce p.1 p.2.2)) (Aj p.2.1 (Ce p.1 p.2.2))
theorem Qd (T:Txt K mg)
  (G_turn_behind:Pm P w K mg base 1 "turn_behind" Dy ["form","top"] Ke)
  (G_moved:Pm P w K mg base 3 "moved" G7 ["form","turn"] J9)
  (G_put_behind:Pm P w K mg base 1 "put_behind" BK ["one","other"] CK)
  : Pm P w K mg base 4 "stop_behind" CT ["stop","top"] Gf:=by
 obtain ⟨f,fd,F⟩:=T.t_stop_behind
 refine ⟨f,fd,F,F.fn.okD J6 (by walk_at "lE") fun cdv A outer s H E hr=>⟨_,(Ad (Al 2 J6.nd (Ag Ae G_turn_behind (hr.mono (by decide)) rfl (Aa (Ab (dv 0) Ac) (Aa (dv 1) Af)))) (Ah (Aq (Bj (Aa (Ag Ae G_moved (hr.mono (by decide)) rfl (Aa (Ab (dv 0) Ac) (Aa (dv 2) Af))) (Aa (Ag Ae G_put_behind (hr.mono (by decide)) rfl (Aa (Ab (dv 0) Ac) (Aa (dv 2) Af))) Af)))))),fun ds Q h=>?_⟩⟩
 obtain ⟨⟨f,t,top⟩,rfl,⟨hf,h0,ht,hb⟩,q⟩:=h
 walk_at "go"
 exact Ak (f,top) ⟨hf,h0⟩ (Ak (f,Ce f top) ⟨B3.le hf (by decide),B4.le hb (by decide),Cy⟩ (Ak (t,Ce f top) ⟨B4.le ht (by decide),B4.le hb (by decide)⟩ ⟨Ay (by decide),q _ rfl⟩))
noncomputable def EI (far:Int) (f:I3):Nat→I4
 | 0=>(1,0,0,1)
 | k+1=>Aj (EI far f k) (Ce (mov f (EI far f k)) (if far > ab (mov f (EI far f k)).2.2 then far else ab (mov f (EI far f k)).2.2))
noncomputable def Le (far:Int) (f:I3) (t:I4):Prop:=∃ k,t=EI far f k∧(∀ i,i < k→¬ Level (mov f (EI far f i)) far)∧Level (mov f (EI far f k)) far
theorem Le.uniq {far:Int} {f:I3} {t u:I4} (a:Le far f t) (b:Le far f u):t=u:=by
 obtain ⟨k,rfl,n1,h1⟩:=a
 obtain ⟨l,rfl,n2,h2⟩:=b
 rcases Nat.lt_trichotomy k l with z | z | z
 ·exact absurd h1 (n2 k z)
 ·rw [z]
 ·exact absurd h2 (n1 l z)
noncomputable def Ajn (f:I3) (d:Dt):Prop:=∃ (t:I4) (far:Int),d=K4 (mov f t) t∧det t=1∧Sq (meas f) far∧Level (mov f t) far∧B4 7600 t∧Le far f t
noncomputable abbrev Wz:DSp:=spec (fun f:I3=>[t3 f]) (fun f=>B3 1500 f∧Sad f) Ajn
theorem Wk {f:I3} (S:Sad f):0≤meas f∧Bt 4000 (meas f):=by
 have:=S.pos
 have:=S.most
 exact ⟨by omega,Bt.le (n:=13) (Bt.of (by omega) (by omega)) (by decide)⟩
theorem Abl (T:Txt K mg)
  (G_check_saddle:Pm P w K mg base 4 "check_saddle" Ci ["form"] Fd)
  (G_root:Pm P w K mg base 1 "root" Ja ["number"] Kr)
  (G_measure:Pm P w K mg base 1 "measure" Dc ["form"] Fe)
  (G_stands_level:Pm P w K mg base 1 "stands_level" Di ["form","far"] JL)
  (G_stop_behind:Pm P w K mg base 4 "stop_behind" CT ["stop","top"] Gf)
  : Pm P w K mg base 5 "eased" Ky ["form"] Wz:=by
 obtain ⟨f,fd,F⟩:=T.t_eased
 obtain ⟨a_SAME,m_SAME,q_SAME⟩:=T.k_SAME
 refine ⟨f,fd,F,F.fn.okD LC (by walk_at "lE") fun cdv A outer s H E hr=>⟨_,(Ad (FW (Ag Ae G_check_saddle (hr.mono (by decide)) rfl (Aa (dv 0) Af))) (Ad (Al 1 LC.nd (Ag Ae G_root (hr.mono (by decide)) rfl (Aa (Ag Ae G_measure (hr.mono (by decide)) rfl (Aa (dv 0) Af)) Af))) (Ad (Al 2 LC.nd (Bj (Aa (dv 0) (Aa (Kq (v:=.ref a_SAME) rfl m_SAME rfl q_SAME) Af)))) (Ad (Ew PassesOwn.never (Gj (Fj (Ag Ae G_stands_level (hr.mono (by decide)) rfl (Aa (Ab (dv 2) Ac) (Aa (dv 1) Af))))) (Ah (Al 2 LC.nd (Ag Ae G_stop_behind (hr.mono (by decide)) rfl (Aa (dv 2) (Aa (AgT T.z_max (Aa (Ie T.z_abs (Aa (Ab (Ab (dv 2) Ac) Ac) Af)) (Aa (dv 1) Af))) Af)))))) (Ah (Aq (dv 2))))))),fun ds Q h=>?_⟩⟩
 obtain ⟨f,rfl,⟨hb,hS⟩,q⟩:=h
 have hS:Sad f:=hS
 have hb:B3 1500 f:=hb
 walk_at "go"
 refine Ak f ⟨hb,hS⟩ (Ak f (hb.le (by decide)) (Az (meas f) (Wk hS) ?_))
 rintro _ ⟨far,rfl,hr',hfb⟩
 walk_at "rd"
 refine ⟨Ay (by decide),?_⟩
 refine Es (fun m ρ=>∃ k,(∀ i,i < k→¬ Level (mov f (EI far f i)) far)∧ρ=[some (.is (t3 f)),some (.is (.int far)),some (.is (K4 (mov f (EI far f k)) (EI far f k)))]∧Pg 1500 far f (EI far f k)∧m=eM far (mov f (EI far f k))) _ ⟨0,fun _ h=>absurd h (by omega),by show _=[_,_,some (En.is (K4 (mov f (1,0,0,1)) (1,0,0,1)))];rw [DY],Pg.start (by decide) hb,rfl⟩ ?_
 rintro m _ ⟨k,nl,rfl,hI,rfl⟩
 have ek:EI far f (k+1)=Aj (EI far f k) (Ce (mov f (EI far f k)) (if far > ab (mov f (EI far f k)).2.2 then far else ab (mov f (EI far f k)).2.2)):=rfl
 obtain ⟨t,et⟩:∃ t,t=EI far f k:=⟨_,rfl⟩
 rw [←et] at hI ek ⊢
 have hd:=hI.1
 have hg:=hI.2.1
 have ht:=hI.b4
 walk_at "rd"
 refine Ak (mov f t,far) (hg.le (by decide)) ?_
 walk_at "rd"
 by_cases hL:Level (mov f t) far
 ·exact Dm (by rw [decide_eq_true hL];rfl) (q _ ⟨t,far,rfl,hd,hr',hL,ht.le (by decide),k,et,nl,by rw [←et];exact hL⟩)
 ·refine ift (by rw [decide_eq_false hL];rfl) ?_
  have hst:=R0 (by decide) hS hr' hI hL
  refine Ak (mov f t,t,_) ⟨hg.le (by decide),G3 (hS.mov hd),ht.le (by decide),hst.2.2.le (by decide)⟩ ?_
  dsimp only
  rw [Bf]
  refine ⟨_,hst.2.1,k+1,fun i hi=>?_,by rw [ek];rfl,by rw [ek];exact hst.1,by rw [ek]⟩
  rcases Nat.lt_or_ge i k with z | z
  ·exact nl i z
  ·rw [show i=k by omega,←et];exact hL
structure Ip (f:I3) (t0:I4) (far:Int) (N:Nat):Prop where
 d:det t0=1
 r:Sq (meas f) far
 v:Lv far (mov f t0)
 b:B4 7600 t0
 n:0 < N
 m:N≤8128
 e:rF far N (mov f t0)=mov f t0
 l:∀ j,0 < j→j < N→rF far j (mov f t0)≠mov f t0
 a:Le far f t0
noncomputable abbrev Dj (f:I3) (t0:I4) (far:Int) (i:Nat):Dt:=K4 (rF far i (mov f t0)) (Aj t0 (rT far i (mov f t0)))
theorem Ip.bt {f:I3} {t0:I4} {far:Int} {N:Nat} (R:Ip f t0 far N) (i:Nat) (h:i≤N):B4 90000 (Aj t0 (rT far i (mov f t0))):=by
 have:=R.m
 exact (B4.then R.b (Af5 i R.v)).le (by omega)
noncomputable abbrev Ig:DSp:=spec (fun f:I3=>[t3 f]) (fun f=>B3 1500 f∧Sad f) fun f d=>∃ t0 far N,Ip f t0 far N∧d=.lst ((List.range (N+1)).map (Dj f t0 far))
theorem Pq {n:Nat} (h:n≤9000):n < PySem.sizeLine:=by unfold PySem.sizeLine;omega
theorem Qc (T:Txt K mg)
  (G_root:Pm P w K mg base 1 "root" Ja ["number"] Kr)
  (G_eased:Pm P w K mg base 5 "eased" Ky ["form"] Wz)
  (G_stop_behind:Pm P w K mg base 4 "stop_behind" CT ["stop","top"] Gf)
  (G_measure:Pm P w K mg base 1 "measure" Dc ["form"] Fe)
  : Pm P w K mg base 6 "stops_round" CV ["form"] Ig:=by
 obtain ⟨f,fd,F⟩:=T.t_stops_round
 refine ⟨f,fd,F,F.fn.okD Dh (by walk_at "lE") fun cdv A outer s H E hr=>⟨_,(Ad (Al 1 Dh.nd (Ag Ae G_root (hr.mono (by decide)) rfl (Aa (Ag Ae G_measure (hr.mono (by decide)) rfl (Aa (dv 0) Af)) Af))) (Ad (Al 2 Dh.nd (Ag Ae G_eased (hr.mono (by decide)) rfl (Aa (dv 0) Af))) (Ad (W4 3 Dh.nd (Aa (dv 2) Af)) (Ad (Al 4 Dh.nd (Ag Ae G_stop_behind (hr.mono (by decide)) rfl (Aa (dv 2) (Aa (dv 1) Af)))) (Ad (Ew PassesOwn.never (Fy hr.units (Ab (dv 4) Ac) (Ab (dv 2) Ac)) (Ad (Q5 3 (dv 4)) (Ah (Al 4 Dh.nd (Ag Ae G_stop_behind (hr.mono (by decide)) rfl (Aa (dv 4) (Aa (dv 1) Af))))))) (Ad (Q5 3 (dv 4)) (Ah (Xl 3 (Aq (dv 3)))))))))),fun ds Q h=>?_⟩⟩
 obtain ⟨f,rfl,⟨hb,hS⟩,q⟩:=h
 have hS:Sad f:=hS
 have hb:B3 1500 f:=hb
 walk_at "go"
 refine Ak f (hb.le (by decide)) (Az (meas f) (Wk hS) ?_)
 rintro _ ⟨far,rfl,hr',hfb⟩
 refine Az f ⟨hb,hS⟩ ?_
 rintro _ ⟨t0,far',rfl,dt,hs,hL,bt,ea⟩
 obtain rfl:=hs.uniq hr'
 have hv:Lv far' (mov f t0):=⟨hS.mov dt,by rw [Br dt];exact hs,hL⟩
 obtain ⟨N,n0,nm,ne,nl⟩:=Wf hv
 have R:Ip f t0 far' N:=⟨dt,hs,hv,bt,n0,nm,ne,nl,ea⟩
 walk_at "rd"
 refine ⟨Ay (by decide),?_⟩
 have stp:∀ {Q:Dt→Prop} (i:Nat),i≤N→Q (Dj f t0 far' (i+1))→Gf [Dj f t0 far' i,.int far'] Q:=fun {Q} i hi h=>by
  have hi':=Lv.rF i hv
  refine Ak (rF far' i (mov f t0),Aj t0 (rT far' i (mov f t0)),far') ⟨(Ni hi'.S hi'.r hi'.L).le (by decide),G3 hi'.S,(R.bt i hi).le (by decide),(QS (Y5 hi') (by decide)).le (by decide)⟩ ?_
  have h:Q (K4 (rF far' (i+1) (mov f t0)) (Aj t0 (rT far' (i+1) (mov f t0)))):=h
  rw [Uq,Ma,←then_assoc] at h
  exact h
 have e0:K4 (mov f t0) t0=Dj f t0 far' 0:=by
  show K4 (mov f t0) t0=K4 (mov f t0) (Aj t0 (1,0,0,1))
  rw [Eb]
 rw [e0]
 refine stp 0 (by omega) ?_
 have last:(List.range (N+1)).map (Dj f t0 far')=(List.range N).map (Dj f t0 far') ++ [Dj f t0 far' N]:=by rw [List.range_succ,List.map_append];rfl
 refine Es (fun m ρ=>∃ i:Nat,1≤i∧i≤N∧ρ=[some (.is (t3 f)),some (.is (.int far')),some (.is (Dj f t0 far' 0)),some (.own ((List.range i).map (Dj f t0 far'))),some (.is (Dj f t0 far' i))]∧m=N - i) _ ⟨1,by omega,by omega,rfl,rfl⟩ ?_
 rintro m _ ⟨i,i1,iN,rfl,rfl⟩
 walk_at "rd"
 have hl:(List.range i).length < sizeLine:=by rw [List.length_range];exact Pq (by omega)
 refine MP (fun hw=>?_) (fun hw=>?_)
 ·have hi:i < N:=by
   rcases Nat.lt_or_ge i N with z | z
   ·exact z
   ·exfalso
    have:i=N:=by omega
    subst this
    rw [ne] at hw
    simp [rF] at hw
  refine ⟨hl,stp i iN ⟨N - (i+1),by omega,i+1,by omega,by omega,?_,rfl⟩⟩
  rw [List.range_succ,List.map_append];rfl
 ·have hi:i=N:=by
   rcases Nat.lt_or_ge i N with z | z
   ·exfalso
    refine nl i (by omega) z ?_
    have hw:rF far' i (mov f t0)=rF far' 0 (mov f t0):=by
     generalize rF far' i (mov f t0)=g at *
     generalize rF far' 0 (mov f t0)=g' at *
     obtain ⟨a,b,c⟩:=g
     obtain ⟨a',b',c'⟩:=g'
     simp at hw
     obtain ⟨h1,h2,h3⟩:=hw
     rw [h1,h2,h3]
    exact hw
   ·omega
  subst hi
  refine ⟨hl,q _ ⟨t0,far',i,R,?_⟩⟩
  rw [last]
noncomputable abbrev Mg:DSp:=spec (fun f:I3=>[t3 f,.int (pl f).1]) (fun f=>B3 1500 f∧Sad f) fun f d=>∃ t0 far N v,Ip f t0 far N∧d=T2 (ab (tr (rT far N (mov f t0)))) (ab v)∧tr (rT far N (mov f t0))*tr (rT far N (mov f t0)) - meas (pl f)*(v*v)=4∧Bt 100000 v∧Bt 100000 (tr (rT far N (mov f t0)))
theorem T6 (T:Txt K mg)
  (G_stops_round:Pm P w K mg base 6 "stops_round" CV ["form"] Ig)
  (G_put_behind:Pm P w K mg base 1 "put_behind" BK ["one","other"] CK)
  (G_back:Pm P w K mg base 3 "back" J3 ["turn"] Pz)
  : Pm P w K mg base 7 "step_pair" Fo ["form","plain_first"] Mg:=by
 obtain ⟨f,fd,F⟩:=T.t_step_pair
 refine ⟨f,fd,F,F.fn.okD Js (by walk_at "lE") fun cdv A outer s H E hr=>⟨_,(Ad (Al 2 Js.nd (Ag Ae G_stops_round (hr.mono (by decide)) rfl (Aa (dv 0) Af))) (Ad (Al 3 Js.nd (Ag Ae G_put_behind (hr.mono (by decide)) rfl (Aa (Ab (Ab (dv 2) (DN Ac)) Ac) (Aa (Ag Ae G_back (hr.mono (by decide)) rfl (Aa (Ab (Ab (dv 2) Ac) Ac) Af)) Af)))) (Ah (Aq (Bj (Aa (Ie T.z_abs (Aa (Bm (Ab (dv 3) Ac) (Ab (dv 3) Ac)) Af)) (Aa (Ie T.z_abs (Aa (Ck (Ab (dv 3) Ac) (dv 1)) Af)) Af))))))),fun ds Q h=>?_⟩⟩
 obtain ⟨f,rfl,⟨hb,hS⟩,q⟩:=h
 have hS:Sad f:=hS
 have hb:B3 1500 f:=hb
 walk_at "go"
 refine Az f ⟨hb,hS⟩ ?_
 rintro _ ⟨t0,far,N,R,rfl⟩
 have h0:ixD 0 (.lst ((List.range (N+1)).map (Dj f t0 far)))=some (Dj f t0 far 0):=by
  show ((List.range (N+1)).map (Dj f t0 far))[0]? = _
  simp
 have h1:ixD (-1) (.lst ((List.range (N+1)).map (Dj f t0 far)))=some (Dj f t0 far N):=by
  show (if 0 < ((List.range (N+1)).map (Dj f t0 far)).length then ((List.range (N+1)).map (Dj f t0 far))[((List.range (N+1)).map (Dj f t0 far)).length - 1 - 0]? else none)=_
  simp
 walk_at "rd"
 rw [h0,h1]
 walk_at "rd"
 have ez:Aj t0 (rT far 0 (mov f t0))=t0:=Eb
 rw [ez]
 refine Ak t0 ⟨R.b.le (by decide),R.d⟩ ?_
 have hN:=R.bt N (Nat.le_refl _)
 refine Ak (Aj t0 (rT far N (mov f t0)),Ax t0) ⟨hN.le (by decide),R.b.back.le (by decide)⟩ ?_
 have hO:B4 99000 (Aj (Aj t0 (rT far N (mov f t0))) (Ax t0)):=(B4.then hN R.b.back).le (by decide)
 have hd:det (Aj (Aj t0 (rT far N (mov f t0))) (Ax t0))=1:=by rw [BP,BP,Dg,R.d,K8];rfl
 have ho:mov f (Aj (Aj t0 (rT far N (mov f t0))) (Ax t0))=f:=by rw [←Bf,←Bf,Em,R.e,Bq R.d]
 have ht:=Zt (t:=rT far N (mov f t0)) R.d
 have ha:=JM hS
 obtain ⟨v,v1,v2,v3,v4⟩:=Qa ha hd ho
 rw [ht] at v4
 have x0:(pl f).1≠0:=fun z=>ha (by rw [(Jc f).1,z];simp)
 have bv:Bt 100000 v:=by
  have:=hO.2.2.1
  rw [v1] at this
  refine Bt.le (n:=99000) (JZ this ?_) (by decide)
  rw [←GQ]
  have h1:1≤ab (pl f).1:=by rcases Ar (pl f).1 with ⟨_,e⟩ | ⟨_,e⟩ <;> omega
  have:=Int.mul_le_mul_of_nonneg_right h1 (Bh v)
  omega
 have bt:Bt 100000 (tr (rT far N (mov f t0))):=by
  rw [←ht]
  exact (hO.1.add hO.2.2.2).le (by decide)
 have bx:Bt 8000 (pl f).1:=by
  refine Bt.le (n:=1500) (JZ hb.1 ?_) (by decide)
  rw [(Jc f).1,←GQ]
  have h1:1≤ab (g3 f:Int):=by have:=Ko ha;rcases Ar (g3 f:Int) with ⟨_,e⟩ | ⟨_,e⟩ <;> omega
  have:=Int.mul_le_mul_of_nonneg_right h1 (Bh (pl f).1)
  omega
 generalize hG:Aj (Aj t0 (rT far N (mov f t0))) (Ax t0)=G at *
 walk_at "rd"
 refine ⟨Bt.divOk bx x0,Ay (by decide),q _ ⟨t0,far,N,v,R,?_,v4,bv,bt⟩⟩
 rw [v1,Int.mul_fdiv_cancel_left _ x0]
 have:tr G=G.1+G.2.2.2:=rfl
 rw [←this,ht]
noncomputable def Af3 (f:I3) (T U:Int):Dt:=T4 ((T - (pl f).2.1*U).fdiv 2) (-(pl f).2.2*U) ((pl f).1*U) ((T+(pl f).2.1*U).fdiv 2)
noncomputable abbrev Qf:DSp:=spec (fun f:I3=>[t3 f]) (fun f=>B3 1500 f∧Sad f) fun f d=>∃ t0 far N v,Ip f t0 far N∧d=Af3 f (ab (tr (rT far N (mov f t0)))) (ab v)∧tr (rT far N (mov f t0))*tr (rT far N (mov f t0)) - meas (pl f)*(v*v)=4∧Bt 100000 v∧Bt 100000 (tr (rT far N (mov f t0)))
theorem AkJ {f:I3} {n:Nat} (ha:f.1≠0) (hb:B3 n f):B3 n (pl f):=by
 have ⟨e1,e2,e3⟩:=Jc f
 have h1:1≤ab (g3 f:Int):=by have:=Ko ha;rcases Ar (g3 f:Int) with ⟨_,e⟩ | ⟨_,e⟩ <;> omega
 have k:∀ {x y:Int},x=(g3 f:Int)*y→ab y≤ab x:=fun {x y} e=>by
  rw [e,←GQ]
  have:=Int.mul_le_mul_of_nonneg_right h1 (Bh y)
  omega
 exact ⟨JZ hb.1 (k e1),JZ hb.2.1 (k e2),JZ hb.2.2 (k e3)⟩
theorem AlI {f:I3} {n:Nat} (ha:f.1≠0) (hb:B3 n f):Bt n (g3 f:Int):=by
 have ⟨e1,_,_⟩:=Jc f
 refine JZ hb.1 ?_
 have x0:(pl f).1≠0:=fun z=>ha (by rw [e1,z];simp)
 have h1:1≤ab (pl f).1:=by rcases Ar (pl f).1 with ⟨_,e⟩ | ⟨_,e⟩ <;> omega
 have e:ab f.1=ab (g3 f:Int)*ab (pl f).1:=by rw [GQ,←e1]
 rw [e]
 have:=Int.mul_le_mul_of_nonneg_left h1 (Bh (g3 f:Int))
 omega
theorem W3 (T:Txt K mg)
  (G_check_saddle:Pm P w K mg base 4 "check_saddle" Ci ["form"] Fd)
  (G_content:Pm P w K mg base 2 "content" Ht ["form"] Ql)
  (G_step_pair:Pm P w K mg base 7 "step_pair" Fo ["form","plain_first"] Mg)
  : Pm P w K mg base 8 "step_of" Hs ["form"] Qf:=by
 obtain ⟨f,fd,F⟩:=T.t_step_of
 refine ⟨f,fd,F,F.fn.okD Gi (by walk_at "lE") fun cdv A outer s H E hr=>⟨_,(Ad (FW (Ag Ae G_check_saddle (hr.mono (by decide)) rfl (Aa (dv 0) Af))) (Ad (Al 1 Gi.nd (Ag Ae G_content (hr.mono (by decide)) rfl (Aa (dv 0) Af))) (Ad (Al 2 Gi.nd (Bj (Aa (Ck (Ab (dv 0) Ac) (dv 1)) (Aa (Ck (Ab (dv 0) Ac) (dv 1)) (Aa (Ck (Ab (dv 0) Ac) (dv 1)) Af))))) (Ad (Al 3 Gi.nd (Ag Ae G_step_pair (hr.mono (by decide)) rfl (Aa (dv 0) (Aa (Ab (dv 2) Ac) Af)))) (Ad (Al 4 Gi.nd (Ab (dv 3) Ac)) (Ad (Al 5 Gi.nd (Ab (dv 3) Ac)) (Ah (Aq (Bj (Aa (Ck (Bv (dv 4) (Am (Ab (dv 2) Ac) (dv 5))) Ac) (Aa (Am (DN (Ab (dv 2) Ac)) (dv 5)) (Aa (Am (Ab (dv 2) Ac) (dv 5)) (Aa (Ck (Bm (dv 4) (Am (Ab (dv 2) Ac) (dv 5))) Ac) Af))))))))))))),fun ds Q h=>?_⟩⟩
 obtain ⟨f,rfl,⟨hb,hS⟩,q⟩:=h
 have hS:Sad f:=hS
 have hb:B3 1500 f:=hb
 have ha:=JM hS
 have hg:=Ko ha
 have gb:=(AlI ha hb).le (m:=8000) (by decide)
 have pb:=AkJ ha hb
 have e1:f.1.fdiv (g3 f:Int)=(pl f).1:=Int.fdiv_eq_ediv_of_nonneg _ (by omega)
 have e2:f.2.1.fdiv (g3 f:Int)=(pl f).2.1:=Int.fdiv_eq_ediv_of_nonneg _ (by omega)
 have e3:f.2.2.fdiv (g3 f:Int)=(pl f).2.2:=Int.fdiv_eq_ediv_of_nonneg _ (by omega)
 walk_at "go"
 refine Ak f ⟨hb,hS⟩ (Ak f trivial ⟨Bt.divOk gb (by omega),Bt.divOk gb (by omega),Bt.divOk gb (by omega),Ay (by decide),?_⟩)
 rw [e1,e2,e3]
 refine Az f ⟨hb,hS⟩ ?_
 rintro _ ⟨t0,far,N,v,R,rfl,hv,bv,bt⟩
 walk_at "rd"
 have bu:=Aa0 bv
 obtain ⟨p1,p2,p3⟩:=pb
 exact ⟨p2.mulOk bu,⟨by decide,by decide⟩,p3.neg.mulOk bu,p1.mulOk bu,p2.mulOk bu,⟨by decide,by decide⟩,Ay (by decide),q _ ⟨t0,far,N,v,R,rfl,hv,bv,bt⟩⟩
theorem Ws {f:I3} {x:I4} (hd:det x=1) (ha:f.1≠0):meas (pl (mov f x))=meas (pl f):=by
 have h1:=Ms f
 have h2:=Ms (mov f x)
 rw [AhH hd,Br hd,h1] at h2
 have hg:=Ko ha
 have:(g3 f:Int)*(g3 f:Int)≠0:=by
  have:=sq_pos (show (g3 f:Int)≠0 by omega)
  omega
 exact (Int.eq_of_mul_eq_mul_left this h2).symm
theorem Agr {f:I3} (h:0 < meas f):0 < meas (pl f):=by
 have h1:=Ms f
 rcases Int.lt_or_le 0 (meas (pl f)) with z | z
 ·exact z
 ·have:=Int.mul_nonneg (sq_nonneg (g3 f:Int)) (show 0≤-meas (pl f) by omega)
  have e:(g3 f:Int)*(g3 f:Int) * -meas (pl f)=-((g3 f:Int)*(g3 f:Int)*meas (pl f)):=by grind
  omega
theorem WY {f:I3} {t0:I4} {far v:Int} {N:Nat} (hS:Sad f) (R:Ip f t0 far N) (e:tr (rT far N (mov f t0))*tr (rT far N (mov f t0)) - meas (pl f)*(v*v)=4):1≤ab v∧Bt 490 (ab v)∧∀ t w:Int,1≤w→t*t - meas (pl f)*(w*w)=4→ab v≤w:=by
 have hv:=R.v
 have ha:=JM hS
 have ga:=JM hv.S
 obtain ⟨v',v1,v2,v3,v4⟩:=Qa ga (K8 N (mov f t0)) (V2 R.e)
 have em:meas (pl (mov f t0))=meas (pl f):=Ws R.d ha
 have hp:0 < meas (pl f):=Agr hS.pos
 have ev:ab v=ab v':=Ae2 hp (by rw [em] at v4;omega)
 have hm:=Ms f
 have hg:=Ko ha
 have hm4:meas (pl f)≤4000:=by
  have:=hS.most
  have a1:=sq_pos (show (g3 f:Int)≠0 by omega)
  have a2:=Int.mul_le_mul_of_nonneg_right a1 (show 0≤meas (pl f) by omega)
  omega
 have hns:¬ Jy (meas (pl f)):=fun ⟨r,er⟩=>hS.no ⟨(g3 f:Int)*r,by rw [hm,←er];grind⟩
 obtain ⟨r,hr⟩:∃ r,Sq (meas (pl f)) r:=by
  have key:∀ k:Nat,meas (pl f) < ((k:Int)+1)*((k:Int)+1)→∃ r:Int,Sq (meas (pl f)) r:=fun k=>by
   induction k with
   | zero=>intro z;exact ⟨0,by omega,by omega,by omega⟩
   | succ k ih =>
    intro z
    rcases Int.lt_or_le (meas (pl f)) (((k:Int)+1)*((k:Int)+1)) with w | w
    ·exact ih w
    ·exact ⟨(k:Int)+1,by omega,w,z⟩
  exact key 63 (by show meas (pl f) < ((63:Int)+1)*((63:Int)+1);omega)
 have n0:=R.n
 have q0:=(AlY hv (N - 1)).1
 rw [show N - 1+1=N by omega] at q0
 refine ⟨?_,?_,fun t w hw et=>?_⟩
 ·have:v'≠0:=fun z=>q0 (by rw [v2,z];simp)
  rw [ev]
  rcases Ar v' with ⟨_,e⟩ | ⟨_,e⟩ <;> omega
 ·rw [ev]
  exact Aa0 (Y7 hv n0 R.l v2 (by rw [em];omega) (by rw [em];exact hm4) (by rw [em];exact hns) (by rw [em];exact hr))
 ·have:=Yr (t:=t) (w:=w) hv n0 R.l v2 (by omega) (by rw [em];exact et)
  rw [ev]
  have e2:ab w=w:=by rcases Ar w with ⟨_,e⟩ | ⟨_,e⟩ <;> omega
  omega
theorem ZG {f:I3} {t u:Int} (h:t*t - meas (pl f)*(u*u)=4):∃ p:Int,t=2*p+(pl f).2.1*u∧(t - (pl f).2.1*u).fdiv 2=p∧(t+(pl f).2.1*u).fdiv 2=p+(pl f).2.1*u∧det (p,-(pl f).2.2*u,(pl f).1*u,p+(pl f).2.1*u)=1∧mov f (p,-(pl f).2.2*u,(pl f).1*u,p+(pl f).2.1*u)=f:=by
 obtain ⟨e1,e2,e3⟩:=Jc f
 generalize pl f=Z at *
 obtain ⟨a,b,c⟩:=Z
 dsimp only at *
 have hm:meas (a,b,c)=b*b - 4*a*c:=rfl
 rw [hm] at h
 obtain ⟨P',hP⟩:∃ P':Int,t=2*P'+b*u:=by
  have h1:(t - b*u) % 2=0:=by
   have e:(t - b*u)*(t - b*u)=4+2*(-(2*a*c*(u*u)) - b*u*(t - b*u)):=by grind
   have h2:((t - b*u)*(t - b*u)) % 2=0:=by omega
   rcases (show (t - b*u) % 2=0∨(t - b*u) % 2=1 by omega) with z | z
   ·exact z
   ·rw [Int.mul_emod,z] at h2
    cases h2
  exact ⟨(t - b*u) / 2,by omega⟩
 subst hP
 have key:P'*P'+b*P'*u+a*c*(u*u)=1:=by grind
 refine ⟨P',rfl,?_,?_,?_,?_⟩
 ·rw [Int.fdiv_eq_ediv_of_nonneg _ (by decide)];omega
 ·rw [Int.fdiv_eq_ediv_of_nonneg _ (by decide)];omega
 ·show P'*(P'+b*u) - -c*u*(a*u)=1
  grind
 ·have e:f=((g3 f:Int)*a,(g3 f:Int)*b,(g3 f:Int)*c):=Prod.ext e1 (Prod.ext e2 e3)
  generalize (g3 f:Int)=g at *
  subst e
  simp only [mov,val,mid]
  refine Prod.ext ?_ (Prod.ext ?_ ?_) <;> dsimp only
  ·have:g*a*P'*P'+g*b*P'*(a*u)+g*c*(a*u)*(a*u)=g*a*(P'*P'+b*P'*u+a*c*(u*u)):=by grind
   rw [this,key,Int.mul_one]
  ·have:2*(g*a)*P'*(-c*u)+g*b*(P'*(P'+b*u) + -c*u*(a*u))+2*(g*c)*(a*u)*(P'+b*u)=g*b*(P'*P'+b*P'*u+a*c*(u*u)):=by grind
   rw [this,key,Int.mul_one]
  ·have:g*a*(-c*u)*(-c*u)+g*b*(-c*u)*(P'+b*u)+g*c*(P'+b*u)*(P'+b*u)=g*c*(P'*P'+b*P'*u+a*c*(u*u)):=by grind
   rw [this,key,Int.mul_one]
noncomputable def Pk (f:I3):List Int:=[f.1,f.2.1,f.2.2]
noncomputable def Ahc (t:I4):List Int:=[t.1,t.2.1,t.2.2.1,t.2.2.2]
noncomputable def Amr (f:I3) (t0:I4) (far:Int) (N:Nat):List (List Int × List Int):=(List.range (N+1)).map fun i=>(Pk (rF far i (mov f t0)),Ahc (Aj t0 (rT far i (mov f t0))))
noncomputable def Low (f:I3) (d:Dt):Prop:=∃ t0 far N j,Ip f t0 far N∧j≤N∧(∀ i,i≤N→HT.lexLt (Pk (rF far i (mov f t0))) (Pk (rF far j (mov f t0)))=false)∧d=Dj f t0 far j∧j=Ln (Amr f t0 far N)
noncomputable abbrev Qm:DSp:=spec (fun f:I3=>[t3 f]) (fun f=>B3 1500 f∧Sad f) Low
theorem Rq (bt:Nat→Nat→Bool):∀ k,argBest bt k≤k
 | 0=>Nat.le_refl _
 | k+1=>by
  have:=Rq bt k
  unfold argBest
  split <;> omega
theorem Iz (bt:Nat→Nat→Bool) (ir:∀ i,bt i i=false) (tr:∀ a b c,bt a b=true→bt b c=true→bt a c=true):∀ k j,j≤k→bt j (argBest bt k)=false
 | 0,j,h=>by
  have:j=0:=by omega
  subst this
  exact ir 0
 | k+1,j,h=>by
  unfold argBest
  split
  ·rename_i hb
   rcases Nat.lt_or_ge j (k+1) with z | z
   ·cases q:bt j (k+1) with
    | false=>rfl
    | true =>
     have:=Iz bt ir tr k j (by omega)
     rw [tr _ _ _ q hb] at this
     cases this
   ·have:j=k+1:=by omega
    subst this
    exact ir _
  ·rename_i hb
   rcases Nat.lt_or_ge j (k+1) with z | z
   ·exact Iz bt ir tr k j (by omega)
   ·have:j=k+1:=by omega
    subst this
    simpa using hb
theorem XQ:∀ a b c:List Int,HT.lexLt a b=true→HT.lexLt b c=true→HT.lexLt a c=true
 | [],[],_,h,_=>by cases h
 | [],_ :: _,[],_,h=>by cases h
 | [],_ :: _,_ :: _,_,_=>rfl
 | _ :: _,[],_,h,_=>by cases h
 | _ :: _,_ :: _,[],_,h=>by cases h
 | x :: a,y :: b,z :: c,h1,h2=>by
  rw [HT.Jx] at h1 h2 ⊢
  by_cases e1:x=y
  ·subst e1
   rw [if_pos rfl] at h1
   by_cases e2:x=z
   ·subst e2
    rw [if_pos rfl] at h2 ⊢
    exact XQ a b c h1 h2
   ·rw [if_neg e2] at h2 ⊢
    exact h2
  ·rw [if_neg e1] at h1
   have h1:=of_decide_eq_true h1
   by_cases e2:y=z
   ·subst e2
    rw [if_neg e1]
    exact decide_eq_true h1
   ·rw [if_neg e2] at h2
    have h2:=of_decide_eq_true h2
    rw [if_neg (by omega)]
    exact decide_eq_true (by omega)
theorem AdM (a b c:List Int × List Int) (h1:Ga a b=true) (h2:Ga b c=true):Ga a c=true:=by
 unfold Ga at *
 by_cases e1:a.1=b.1
 ·rw [if_pos e1] at h1
  by_cases e2:b.1=c.1
  ·rw [if_pos e2] at h2
   rw [if_pos (e1.trans e2)]
   exact XQ _ _ _ h1 h2
  ·rw [if_neg e2] at h2
   rw [if_neg (by rw [e1];exact e2),e1]
   exact h2
 ·rw [if_neg e1] at h1
  by_cases e2:b.1=c.1
  ·rw [←e2,if_neg e1]
   exact h1
  ·rw [if_neg e2] at h2
   have h3:=XQ _ _ _ h1 h2
   by_cases e3:a.1=c.1
   ·rw [e3,Mf] at h3
    cases h3
   ·rw [if_neg e3]
    exact h3
theorem Acm (a:List Int × List Int):Ga a a=false:=by
 unfold Ga
 rw [if_pos rfl,Mf]
theorem AbK {a b:List Int × List Int} (h:Ga a b=false):HT.lexLt a.1 b.1=false:=by
 unfold Ga at h
 by_cases e:a.1=b.1
 ·rw [e];exact Mf _
 ·rw [if_neg e] at h;exact h
theorem Xu (T:Txt K mg)
  (G_check_saddle:Pm P w K mg base 4 "check_saddle" Ci ["form"] Fd)
  (G_stops_round:Pm P w K mg base 6 "stops_round" CV ["form"] Ig)
  : Pm P w K mg base 7 "lowered" Hh ["form"] Qm:=by
 obtain ⟨f,fd,F⟩:=T.t_lowered
 refine ⟨f,fd,F,F.fn.okD Xw (by walk_at "lE") fun cdv A outer s H E hr=>⟨_,(Ad (FW (Ag Ae G_check_saddle (hr.mono (by decide)) rfl (Aa (dv 0) Af))) (Ah (Aq (Adw T.z_min (AhF hr.units) (Aa (Ag Ae G_stops_round (hr.mono (by decide)) rfl (Aa (dv 0) Af)) Af))))),fun ds Q h=>?_⟩⟩
 obtain ⟨f,rfl,⟨hb,hS⟩,q⟩:=h
 walk_at "go"
 refine Ak f ⟨hb,hS⟩ (Az f ⟨hb,hS⟩ ?_)
 rintro _ ⟨t0,far,N,R,rfl⟩
 have nm:=R.m
 let ps:List (List Int × List Int):=(List.range (N+1)).map fun i=>(Pk (rF far i (mov f t0)),Ahc (Aj t0 (rT far i (mov f t0))))
 have lp:ps.length=N+1:=by show ((List.range (N+1)).map _).length=_;rw [List.length_map,List.length_range]
 have ep:(List.range (N+1)).map (Dj f t0 far)=ps.map Oa:=by
  show _=((List.range (N+1)).map _).map Oa
  rw [List.map_map]
  rfl
 have at':∀ i,i≤N→ps.getD i ([],[])=(Pk (rF far i (mov f t0)),Ahc (Aj t0 (rT far i (mov f t0)))):=fun i hi=>by
  show ((List.range (N+1)).map _).getD i _=_
  simp [List.getD,show i < N+1 by omega]
 have kl:Ln ps≤N:=by
  have:=Rq (fun i j=>Ga (ps.getD i ([],[])) (ps.getD j ([],[]))) (ps.length - 1)
  unfold Ln
  omega
 have least:∀ i,i≤N→Ga (ps.getD i ([],[])) (ps.getD (Ln ps) ([],[]))=false:=fun i hi =>
  Iz (fun i j=>Ga (ps.getD i ([],[])) (ps.getD j ([],[]))) (fun _=>Acm _) (fun _ _ _ h1 h2=>AdM _ _ _ h1 h2) _ i (by omega)
 refine ⟨ps,by rw [ep],by omega,by omega,q _ ⟨t0,far,N,Ln ps,R,kl,fun i hi=>?_,?_,rfl⟩⟩
 ·have:=AbK (least i hi)
  rw [at' i hi,at' _ kl] at this
  exact this
 ·rw [at' _ kl]
  rfl
noncomputable abbrev Vd (c:Str) (f:I3) (d:Dt):Dt:=.obj c ["form","measure","lowest"] [t3 f,.int (meas f),d]
noncomputable abbrev Oe:DIn:=Sw (fun p:I3 × Dt=>[t3 p.1,p.2]) (fun p=>B3 1500 p.1) fun p fds=>fds=[t3 p.1,.int (meas p.1),p.2]
noncomputable abbrev Vw:DIn:=Sw (fun f:I3=>[t3 f]) (fun f=>B3 1500 f∧Cd f) fun f fds=>∃ d,Mv f d∧fds=[t3 f,.int (meas f),d]
noncomputable abbrev Qe:DIn:=Sw (fun f:I3=>[t3 f]) (fun f=>B3 1500 f∧Sad f) fun f fds=>∃ d,Low f d∧fds=[t3 f,.int (meas f),d]
theorem Aaq (T:Txt K mg)
  (G_measure:Pm P w K mg base 1 "measure" Dc ["form"] Fe)
  : PmC P w K mg base 2 "Shape" ["form","measure","lowest"] Oe:=by
 obtain ⟨g,fd,M,F,B⟩:=T.cm_Shape
 refine ⟨g,fd,_,M,B,F.ok Aag (fun vs H Q E ⟨x,C,dx,ys,F',ds,e,_,_,_,_,_,r,h⟩=>by obtain ⟨p,ed,_⟩:=h;rw [e,List.length_cons,r.len,ed];rfl) fun cdv A outer s H vs Q E hr ⟨x,C,dx,ys,F',ds,e,hx,cl,no,xF,th,r,h⟩=>?_⟩
 subst e
 refine ⟨_,AbY (dv 1) (Ag Ae G_measure (hr.mono (by decide)) rfl (Aa (dv 1) Af)) (dv 2) (by decide) (by decide) (by decide),mask [x] H,F',Jv ["self","form","lowest"] ds,x,C,dx,(fun fds:List Dt=>∀ (ws:List V) (H':Hp),Same (mask [x] H) H'→H' x=some (.ins C dx (List.zip ["form","measure","lowest"] ws))→List.length ["form","measure","lowest"]=fds.length→RpL K (mask F' H') fds ws→Q .non H'),Lq xF th r,xF,Dp (by simp),rfl,hx,cl,no,?_,fun fds w ws H' s1 h1 h2 h3=>w ws H' s1 h1 h2 h3⟩
 revert h
 generalize (fun fds:List Dt=>∀ (ws:List V) (H':Hp),Same (mask [x] H) H'→H' x=some (.ins C dx (List.zip ["form","measure","lowest"] ws))→List.length ["form","measure","lowest"]=fds.length→RpL K (mask F' H') fds ws→Q .non H')=S
 intro h
 obtain ⟨⟨f,l⟩,rfl,hb,hq⟩:=h
 have hb:B3 1500 f:=hb
 have e:Jv ["self","form","lowest"] [t3 f,l]=[none,some (.is (t3 f)),some (.is l)]:=rfl
 dsimp only
 rw [e]
 walk_at "rd"
 exact Ak f (hb.le (by decide)) (hq _ rfl)
theorem AbR (T:Txt K mg)
  (GC_Shape:PmC P w K mg base 2 "Shape" ["form","measure","lowest"] Oe)
  (G_settled:Pm P w K mg base 5 "settled" Hj ["form"] QZ)
  : PmI P w K mg base 6 "Bowl" ["form","measure","lowest"] Vw:=by
 obtain ⟨C0,f,fd,M,F,B⟩:=T.o_Bowl
 obtain ⟨gC,fdC,psC,MC,BC,GC⟩:=GC_Shape
 refine ⟨C0,f,fd,_,M,B,F.ok Ab5 (fun vs H Q E ⟨x,C,dx,ys,F',ds,e,_,_,_,_,_,r,h⟩=>by obtain ⟨p,ed,_⟩:=h;rw [e,List.length_cons,r.len,ed];rfl) fun cdv A outer s H vs Q E hr ⟨x,C,dx,ys,F',ds,e,hx,cl,no,xF,th,r,h⟩=>?_⟩
 subst e
 refine ⟨_,Vv JC MC rfl GC BC (hr.mono (by decide)) (Aa (dv 1) (Aa (Ag Ae G_settled (hr.mono (by decide)) rfl (Aa (dv 1) Af)) Af)),mask [x] H,F',Jv ["self","form"] ds,x,C,dx,(fun fds:List Dt=>∀ (ws:List V) (H':Hp),Same (mask [x] H) H'→H' x=some (.ins C dx (List.zip ["form","measure","lowest"] ws))→List.length ["form","measure","lowest"]=fds.length→RpL K (mask F' H') fds ws→Q .non H'),Lq xF th r,xF,Dp (by simp),rfl,hx,cl,no,?_,fun fds w ws H' s1 h1 h2 h3=>w ws H' s1 h1 h2 h3⟩
 revert h
 generalize (fun fds:List Dt=>∀ (ws:List V) (H':Hp),Same (mask [x] H) H'→H' x=some (.ins C dx (List.zip ["form","measure","lowest"] ws))→List.length ["form","measure","lowest"]=fds.length→RpL K (mask F' H') fds ws→Q .non H')=S
 intro h
 obtain ⟨f,rfl,⟨hb,hw⟩,hq⟩:=h
 have e:Jv ["self","form"] [t3 f]=[none,some (.is (t3 f))]:=rfl
 rw [e]
 walk_at "rd"
 refine Az f ⟨hb,hw⟩ fun d hd=>?_
 refine Mz (f,d) hb ?_
 rintro _ rfl
 exact hq _ ⟨d,hd,rfl⟩
theorem XD (T:Txt K mg)
  (GC_Shape:PmC P w K mg base 2 "Shape" ["form","measure","lowest"] Oe)
  (G_lowered:Pm P w K mg base 7 "lowered" Hh ["form"] Qm)
  : PmI P w K mg base 8 "Saddle" ["form","measure","lowest"] Qe:=by
 obtain ⟨C0,f,fd,M,F,B⟩:=T.o_Saddle
 obtain ⟨gC,fdC,psC,MC,BC,GC⟩:=GC_Shape
 refine ⟨C0,f,fd,_,M,B,F.ok Yo (fun vs H Q E ⟨x,C,dx,ys,F',ds,e,_,_,_,_,_,r,h⟩=>by obtain ⟨p,ed,_⟩:=h;rw [e,List.length_cons,r.len,ed];rfl) fun cdv A outer s H vs Q E hr ⟨x,C,dx,ys,F',ds,e,hx,cl,no,xF,th,r,h⟩=>?_⟩
 subst e
 refine ⟨_,Vv JC MC rfl GC BC (hr.mono (by decide)) (Aa (dv 1) (Aa (Ag Ae G_lowered (hr.mono (by decide)) rfl (Aa (dv 1) Af)) Af)),mask [x] H,F',Jv ["self","form"] ds,x,C,dx,(fun fds:List Dt=>∀ (ws:List V) (H':Hp),Same (mask [x] H) H'→H' x=some (.ins C dx (List.zip ["form","measure","lowest"] ws))→List.length ["form","measure","lowest"]=fds.length→RpL K (mask F' H') fds ws→Q .non H'),Lq xF th r,xF,Dp (by simp),rfl,hx,cl,no,?_,fun fds w ws H' s1 h1 h2 h3=>w ws H' s1 h1 h2 h3⟩
 revert h
 generalize (fun fds:List Dt=>∀ (ws:List V) (H':Hp),Same (mask [x] H) H'→H' x=some (.ins C dx (List.zip ["form","measure","lowest"] ws))→List.length ["form","measure","lowest"]=fds.length→RpL K (mask F' H') fds ws→Q .non H')=S
 intro h
 obtain ⟨f,rfl,⟨hb,hw⟩,hq⟩:=h
 have e:Jv ["self","form"] [t3 f]=[none,some (.is (t3 f))]:=rfl
 rw [e]
 walk_at "rd"
 refine Az f ⟨hb,hw⟩ fun d hd=>?_
 refine Mz (f,d) hb ?_
 rintro _ rfl
 exact hq _ ⟨d,hd,rfl⟩
noncomputable abbrev Ik:DSp:=spec (fun f:I3=>[t3 f]) (fun f=>B3 1500 f∧(Cd f∨Sad f)) fun f d=>∃ l,(Cd f∧Mv f l∧d=Vd "Bowl" f l)∨(Sad f∧Low f l∧d=Vd "Saddle" f l)
theorem V5 (T:Txt K mg)
  (GI_Bowl:PmI P w K mg base 6 "Bowl" ["form","measure","lowest"] Vw)
  (GI_Saddle:PmI P w K mg base 8 "Saddle" ["form","measure","lowest"] Qe)
  (G_shape:Pm P w K mg base 3 "shape" Hf ["form"] J4)
  : Pm P w K mg base 10 "shape_of" Fi ["form"] Ik:=by
 obtain ⟨f,fd,F⟩:=T.t_shape_of
 refine ⟨f,fd,F,F.fn.okD VD (by walk_at "lE") fun cdv A outer s H E hr=>⟨_,(Ad (BZ (JQ hr.units (Ag Ae G_shape (hr.mono (by decide)) rfl (Aa (dv 0) Af)) Kl) (Ah (Aq (Wg JC GI_Bowl (hr.mono (by decide)) rfl (Aa (dv 0) Af)))) Bg) (Ah (Aq (Wg JC GI_Saddle (hr.mono (by decide)) rfl (Aa (dv 0) Af))))),fun ds Q h=>?_⟩⟩
 obtain ⟨f,rfl,⟨hb,hw⟩,q⟩:=h
 have hb:B3 1500 f:=hb
 have hw:Cd f∨Sad f:=hw
 walk_at "go"
 refine Az f hb ?_
 rintro _ hs
 have fb:∀ x:Str,(PySem.PyData.str x).canLay0=true→Dt.flat 8 (.str x)=true:=fun x h=>by rw [Lh];exact h
 have f1:Dt.flat 8 (.str "bowl")=true:=fb _ (by decide +kernel)
 have f2:Dt.flat 8 (.str "saddle")=true:=fb _ (by decide +kernel)
 have mkS:Sad f→Sw (fun f:I3=>[t3 f]) (fun f=>B3 1500 f∧Sad f) (fun f fds=>∃ d,Low f d∧fds=[t3 f,Dt.int (meas f),d]) [t3 f] fun fds=>Q (Dt.obj "Saddle" ["form","measure","lowest"] fds):=fun hS=>by
  refine Mz f ⟨hb,hS⟩ ?_
  rintro _ ⟨l,hl,rfl⟩
  exact q _ ⟨l,.inr ⟨hS,hl,rfl⟩⟩
 cases hs with
 | flat z =>
  rcases hw with hw | hw
  ·exact absurd z (Nh hw.2)
  ·exact absurd z hw.no
 | saddle _ z =>
  rcases hw with hw | hw
  ·have:=hw.2;omega
  ·exact ⟨⟨f2,f1⟩,Dm (by rw [Q0];rfl) (mkS hw)⟩
 | dome _ z1 z2 =>
  rcases hw with hw | hw
  ·exact absurd hw.1 z2
  ·exact absurd hw.pos z1
 | bowl _ z1 z2 =>
  rcases hw with hw | hw
  ·refine ⟨⟨f1,f1⟩,ift (by rw [Q0];rfl) (Mz f ⟨hb,hw⟩ ?_)⟩
   rintro _ ⟨l,hl,rfl⟩
   exact q _ ⟨l,.inl ⟨hw,hl,rfl⟩⟩
  ·exact absurd hw.pos z1
noncomputable def LF (f g:I3):Prop:=(Cd f∧∃ t,det t=1∧Fq (mov f t)∧g=mov f t)∨(Sad f∧∃ t0 far N j,Ip f t0 far N∧j≤N∧(∀ i,i≤N→HT.lexLt (Pk (rF far i (mov f t0))) (Pk (rF far j (mov f t0)))=false)∧g=rF far j (mov f t0))
theorem Ze {f g:I3} (h1:HT.lexLt (Pk f) (Pk g)=false) (h2:HT.lexLt (Pk g) (Pk f)=false):f=g:=by
 obtain ⟨x1,x2,x3⟩:=f
 obtain ⟨y1,y2,y3⟩:=g
 simp only [Pk,HT.Jx,HT.Iw] at h1 h2
 have e1:x1=y1:=by
  rcases Int.lt_trichotomy x1 y1 with z | z | z
  ·rw [if_neg (by omega)] at h1;simp at h1;omega
  ·exact z
  ·rw [if_neg (by omega)] at h2;simp at h2;omega
 subst e1
 rw [if_pos rfl] at h1 h2
 have e2:x2=y2:=by
  rcases Int.lt_trichotomy x2 y2 with z | z | z
  ·rw [if_neg (by omega)] at h1;simp at h1;omega
  ·exact z
  ·rw [if_neg (by omega)] at h2;simp at h2;omega
 subst e2
 rw [if_pos rfl] at h1 h2
 have e3:x3=y3:=by
  rcases Int.lt_trichotomy x3 y3 with z | z | z
  ·rw [if_neg (by omega)] at h1;simp at h1;omega
  ·exact z
  ·rw [if_neg (by omega)] at h2;simp at h2;omega
 rw [e3]
theorem K7 {far:Int} {g:I3} {N:Nat} (e:rF far N g=g):∀ q,rF far (N*q) g=g
 | 0=>rfl
 | q+1=>by rw [Nat.mul_succ,Gb,K7 e q,e]
theorem Pu {far:Int} {g:I3} {N:Nat} (e:rF far N g=g) (n0:0 < N) (n:Nat):∃ i,i≤N∧rF far n g=rF far i g:=by
 have h1:=Nat.mod_lt n n0
 have h2:=Nat.div_add_mod n N
 refine ⟨n % N,by omega,?_⟩
 have:rF far (N*(n / N)+n % N) g=rF far (n % N) g:=by rw [Gb,K7 e]
 rw [h2] at this
 exact this
theorem Kv {far:Int} {g h:I3} {N m:Nat} (e:rF far N h=h) (n0:0 < N) (k:rF far m h=g):∃ j,rF far j g=h:=by
 refine ⟨N*m - m,?_⟩
 rw [←k,←Gb]
 have:m≤N*m:=Nat.le_mul_of_pos_left m n0
 rw [show m+(N*m - m)=N*m by omega,K7 e]
theorem LF.uniq {f g h:I3} (A:LF f g) (B:LF f h):g=h:=by
 rcases A with ⟨hb,t,dt,Lt,rfl⟩ | ⟨hS,t0,far,N,j,R,jl,lj,rfl⟩ <;> rcases B with ⟨hb',u,du,Lu,rfl⟩ | ⟨hS',t1,far1,N1,k,R1,kl,lk,rfl⟩
 ·have e:mov (mov f t) (Aj (Ax t) u)=mov f u:=by rw [←Bf,Bq dt]
  have:=Fq.one Lt (t:=Aj (Ax t) u) (by rw [e];exact Lu) (by rw [BP,Dg,dt,du];rfl)
  rw [e] at this
  exact this.symm
 ·have:=hb.2;have:=hS'.pos;omega
 ·have:=hb'.2;have:=hS.pos;omega
 ·have ef:far=far1:=R.r.uniq R1.r
  subst ef
  have e1:mov (mov f t0) (Aj (Ax t0) t1)=mov f t1:=by rw [←Bf,Bq R.d]
  have d1:det (Aj (Ax t0) t1)=1:=by rw [BP,Dg,R.d,R1.d];rfl
  have en:N=N1:=(SQ R.v R1.v d1 e1 R.e R.l R1.e R1.l R.n R1.n).1
  subst en
  have hm:∃ m,rF far m (mov f t0)=mov f t1:=by
   rcases Nk R.v R1.v d1 e1 with ⟨m,s⟩ | ⟨m,s⟩
   ·exact ⟨m,by rw [←Em,←s.mov,e1]⟩
   ·have e2:mov (mov f t1) (Ax (Aj (Ax t0) t1))=mov f t0:=by rw [←e1,Bq d1]
    exact Kv (m:=m) R1.e R1.n (by rw [←Em,←s.mov,e2])
  obtain ⟨m,hm⟩:=hm
  obtain ⟨m',hm'⟩:=Kv R.e R.n hm
  obtain ⟨i1,a1,b1⟩:=Pu R.e R.n (m+k)
  obtain ⟨i2,a2,b2⟩:=Pu R1.e R1.n (m'+j)
  have h1:=lj i1 a1
  have h2:=lk i2 a2
  rw [←b1,Gb,hm] at h1
  rw [←b2,Gb,hm'] at h2
  exact (Ze h1 h2).symm
noncomputable def Er (f:I3) (l:Dt):Prop:=(Cd f∧Mv f l)∨(Sad f∧Low f l)
theorem Er.uniq {f:I3} {l m:Dt} (A:Er f l) (B:Er f m):l=m:=by
 rcases A with ⟨hb,t,rfl,_,_,_,a⟩ | ⟨hS,t0,far,N,j,R,_,_,rfl,ej⟩ <;> rcases B with ⟨hb',u,rfl,_,_,_,b⟩ | ⟨hS',t1,far1,N1,k,R1,_,_,rfl,ek⟩
 ·rw [a.uniq b]
 ·have:=hb.2;have:=hS'.pos;omega
 ·have:=hb'.2;have:=hS.pos;omega
 ·have ef:far=far1:=R.r.uniq R1.r
  subst ef
  have et:=R.a.uniq R1.a
  subst et
  have en:N=N1:=by
   rcases Nat.lt_trichotomy N N1 with z | z | z
   ·exact absurd R.e (R1.l N R.n z)
   ·exact z
   ·exact absurd R1.e (R.l N1 R1.n z)
  subst en
  rw [ej,ek]
theorem LF.same {f h g g':I3} {x:I4} (A:LF f g) (B:LF h g') (dx:det x=1) (ex:mov f x=h):g=g':=by
 have hm:meas h=meas f:=by rw [←ex,Br dx]
 rcases A with ⟨hb,t,dt,Lt,rfl⟩ | ⟨hS,t0,far,N,j,R,jl,lj,rfl⟩ <;> rcases B with ⟨hb',u,du,Lu,rfl⟩ | ⟨hS',t1,far1,N1,k,R1,kl,lk,rfl⟩
 ·have e:mov (mov f t) (Aj (Ax t) (Aj x u))=mov h u:=by rw [←Bf,Bq dt,←Bf,ex]
  have:=Fq.one Lt (t:=Aj (Ax t) (Aj x u)) (by rw [e];exact Lu) (by rw [BP,BP,Dg,dt,dx,du];rfl)
  rw [e] at this
  exact this.symm
 ·have:=hb.2;have:=hS'.pos;omega
 ·have:=hb'.2;have:=hS.pos;omega
 ·have ef:far=far1:=R.r.uniq (by rw [←hm];exact R1.r)
  subst ef
  have e1:mov (mov f t0) (Aj (Ax t0) (Aj x t1))=mov h t1:=by rw [←Bf,Bq R.d,←Bf,ex]
  have d1:det (Aj (Ax t0) (Aj x t1))=1:=by rw [BP,BP,Dg,R.d,dx,R1.d];rfl
  have en:N=N1:=(SQ R.v R1.v d1 e1 R.e R.l R1.e R1.l R.n R1.n).1
  subst en
  have hm:∃ m,rF far m (mov f t0)=mov h t1:=by
   rcases Nk R.v R1.v d1 e1 with ⟨m,s⟩ | ⟨m,s⟩
   ·exact ⟨m,by rw [←Em,←s.mov,e1]⟩
   ·have e2:mov (mov h t1) (Ax (Aj (Ax t0) (Aj x t1)))=mov f t0:=by rw [←e1,Bq d1]
    exact Kv (m:=m) R1.e R1.n (by rw [←Em,←s.mov,e2])
  obtain ⟨m,hm⟩:=hm
  obtain ⟨m',hm'⟩:=Kv R.e R.n hm
  obtain ⟨i1,a1,b1⟩:=Pu R.e R.n (m+k)
  obtain ⟨i2,a2,b2⟩:=Pu R1.e R1.n (m'+j)
  have h1:=lj i1 a1
  have h2:=lk i2 a2
  rw [←b1,Gb,hm] at h1
  rw [←b2,Gb,hm'] at h2
  exact (Ze h1 h2).symm
theorem Ou {f:I3} {l:Dt} (h:Er f l):∃ (g:I3) (t:I4),l=.tup [t3 g,t4 t]∧LF f g∧det t=1∧mov f t=g∧B4 90000 t:=by
 rcases h with ⟨hb,t,rfl,dt,L,bt,_⟩ | ⟨hS,t0,far,N,j,R,jl,lj,rfl,_⟩
 ·exact ⟨_,t,rfl,.inl ⟨hb,t,dt,L,rfl⟩,dt,rfl,bt.le (by decide)⟩
 ·exact ⟨_,_,rfl,.inr ⟨hS,t0,far,N,j,R,jl,lj,rfl⟩,by rw [BP,R.d,K8];rfl,by rw [←Bf,Em],R.bt j jl⟩
theorem Yu {f:I3} {d:Dt} (h:∃ l,(Cd f∧Mv f l∧d=Vd "Bowl" f l)∨(Sad f∧Low f l∧d=Vd "Saddle" f l)):∃ (c:Str) (l:Dt),(c="Bowl"∨c="Saddle")∧d=Vd c f l∧Er f l:=by
 obtain ⟨l,⟨h1,h2,rfl⟩ | ⟨h1,h2,rfl⟩⟩:=h
 ·exact ⟨_,l,.inl rfl,rfl,.inl ⟨h1,h2⟩⟩
 ·exact ⟨_,l,.inr rfl,rfl,.inr ⟨h1,h2⟩⟩
theorem AbL {K:PySem.W.Frag} {mg:Str→Option Value} (T:Txt K mg) {c:Str} (hc:c="Bowl"∨c="Saddle"):OJ K c "lowest":=by
 rcases hc with e | e <;> rw [e]
 ·exact T.na_Bowl_lowest
 ·exact T.na_Saddle_lowest
theorem Zr {K:PySem.W.Frag} {mg:Str→Option Value} (T:Txt K mg) {c:Str} (hc:c="Bowl"∨c="Saddle"):OJ K c "measure":=by
 rcases hc with e | e <;> rw [e]
 ·exact T.na_Bowl_measure
 ·exact T.na_Saddle_measure
noncomputable abbrev HS:DSp:=BR (fun p:(I3 × I4) × (I3 × I4)=>[.tup [t3 p.1.1,t4 p.1.2],.tup [t3 p.2.1,t4 p.2.2]]) (fun p=>B4 90000 p.1.2∧B4 90000 p.2.2∧det p.2.2=1) fun p=>if p.1.1=p.2.1 then t4 (Aj p.1.2 (Ax p.2.2)) else .non
theorem QX (T:Txt K mg)
  (G_put_behind:Pm P w K mg base 1 "put_behind" BK ["one","other"] CK)
  (G_back:Pm P w K mg base 3 "back" J3 ["turn"] Pz)
  : Pm P w K mg base 4 "way_between" Dw ["one","other"] HS:=by
 obtain ⟨f,fd,F⟩:=T.t_way_between
 refine ⟨f,fd,F,F.fn.okD Q9 (by walk_at "lE") fun cdv A outer s H E hr=>⟨_,(Ad (BZ (Fy hr.units (Ab (dv 0) Ac) (Ab (dv 1) Ac)) (Ah (Aq Qx)) Bg) (Ah (Aq (Ag Ae G_put_behind (hr.mono (by decide)) rfl (Aa (Ab (dv 0) Ac) (Aa (Ag Ae G_back (hr.mono (by decide)) rfl (Aa (Ab (dv 1) Ac) Af)) Af)))))),fun ds Q h=>?_⟩⟩
 obtain ⟨⟨⟨g,t⟩,h,u⟩,rfl,⟨bt,bu,du⟩,q⟩:=h
 have bt:B4 90000 t:=bt
 have bu:B4 90000 u:=bu
 have q':Q (if g=h then t4 (Aj t (Ax u)) else .non):=q _ rfl
 walk_at "go"
 by_cases e:g=h
 ·rw [if_pos e] at q'
  subst e
  exact Dm (by simp) (Ak u ⟨bu.le (by decide),du⟩ (Ak (t,Ax u) ⟨bt.le (by decide),bu.back.le (by decide)⟩ q'))
 ·rw [if_neg e] at q'
  refine ift ?_ q'
  rw [Bool.not_eq_true',Bool.eq_false_iff]
  intro w
  simp only [Bool.and_eq_true,decide_eq_true_eq] at w
  exact e (Prod.ext w.1 (Prod.ext w.2.1 w.2.2))
noncomputable def JW (f:I3) (l:Dt) (h:I3) (d:Dt):Prop:=(meas f≠meas h∧d=.non)∨(meas f=meas h∧∃ g t g' u,l=.tup [t3 g,t4 t]∧Er h (.tup [t3 g',t4 u])∧d=if g=g' then t4 (Aj t (Ax u)) else .non)
noncomputable abbrev Rk:DSp:=spec (fun p:Str × I3 × Dt × I3=>[Vd p.1 p.2.1 p.2.2.1,t3 p.2.2.2]) (fun p=>(p.1="Bowl"∨p.1="Saddle")∧Er p.2.1 p.2.2.1∧B3 1500 p.2.2.2∧(meas p.2.1=meas p.2.2.2→Cd p.2.2.2∨Sad p.2.2.2)) fun p d=>JW p.2.1 p.2.2.1 p.2.2.2 d
theorem XJ (T:Txt K mg)
  (G_measure:Pm P w K mg base 1 "measure" Dc ["form"] Fe)
  (G_shape:Pm P w K mg base 3 "shape" Hf ["form"] J4)
  (G_way_between:Pm P w K mg base 4 "way_between" Dw ["one","other"] HS)
  (G_shape_of:Pm P w K mg base 10 "shape_of" Fi ["form"] Ik)
  : PmM P w K mg base 11 ["Bowl","Saddle"] "way_to" Rk:=by
 obtain ⟨g,fd,hm,kp,F,B⟩:=T.me_way_to
 refine ⟨g,fd,_,hm,kp,B,F.okD Xb (by walk_at "lE") fun cdv A outer s H E hr=>⟨_,(Ad (BZ (DW.dt (G5 (Fy hr.units (Ag Ae G_measure (hr.mono (by decide)) rfl (Aa (dv 1) Af)) (PB (dv 0))) (Jw (JQ hr.units (Ag Ae G_shape (hr.mono (by decide)) rfl (Aa (dv 1) Af)) Kl)))) (Ah (Aq Qx)) Bg) (Ah (Aq (Ag Ae G_way_between (hr.mono (by decide)) rfl (Aa (PB (dv 0)) (Aa (PB (Ag Ae G_shape_of (hr.mono (by decide)) rfl (Aa (dv 1) Af))) Af)))))),fun ds Q h=>?_⟩⟩
 obtain ⟨⟨c,f,l,h⟩,rfl,⟨hc,hl,hh,hk⟩,q⟩:=h
 have hh:B3 1500 h:=hh
 have hl:Er f l:=hl
 have hk:meas f=meas h→Cd h∨Sad h:=hk
 have q:∀ d,JW f l h d→Q d:=q
 obtain ⟨g,t,rfl,L,dt,mt,bt⟩:=Ou hl
 walk_at "go"
 refine Ak h (hh.le (by decide)) ⟨Zr T hc,.int (meas f),rfl,⟨Lp,Lp⟩,?_⟩
 rw [SX]
 by_cases hm:meas h=meas f
 ·refine Dm (by rw [decide_eq_true hm];rfl) (Az h hh ?_)
  rintro _ hs
  have kh:=hk hm.symm
  have f1:Dt.flat 8 (.str "dome")=true:=by rw [Lh];decide +kernel
  have f2:Dt.flat 8 (.str "bowl")=true:=by rw [Lh];decide +kernel
  have f3:Dt.flat 8 (.str "saddle")=true:=by rw [Lh];decide +kernel
  have go:OJ K c "lowest"∧∃ v,List.lookup (Str.ofString "lowest") (List.zip [Str.ofString "form",Str.ofString "measure",Str.ofString "lowest"] [t3 f,Dt.int (meas f),Dt.tup [t3 g,t4 t]])=some v∧Ik [t3 h] fun d=>match d with
    | .obj c ns ds=>OJ K c "lowest"∧∃ v_1,List.lookup (Str.ofString "lowest") (ns.zip ds)=some v_1∧HS [v,v_1] Q
    | _=>False:=by
   refine ⟨AbL T hc,_,rfl,Az h ⟨hh,kh⟩ ?_⟩
   rintro _ ho
   obtain ⟨c2,l2,hc2,rfl,h2⟩:=Yu ho
   obtain ⟨g2,u,rfl,L2,du,mu,bu⟩:=Ou h2
   exact ⟨AbL T hc2,_,rfl,Ak ((g,t),(g2,u)) ⟨bt,bu,du⟩ (q _ (.inr ⟨hm.symm,g,t,g2,u,rfl,h2,rfl⟩))⟩
  cases hs with
  | flat z =>
   rcases kh with kh | kh
   ·exact absurd z (Nh kh.2)
   ·exact absurd z kh.no
  | saddle _ z=>exact ⟨⟨f3,f1⟩,Dm (by rw [Q0];rfl) go⟩
  | dome _ z1 z2 =>
   rcases kh with kh | kh
   ·exact absurd kh.1 z2
   ·exact absurd kh.pos z1
  | bowl _ z1 z2=>exact ⟨⟨f2,f1⟩,Dm (by rw [Q0];rfl) go⟩
 ·refine ift (by rw [decide_eq_false hm];rfl) (q _ (.inl ⟨fun e=>hm e.symm,rfl⟩))
theorem t3i {a b:I3} (h:t3 a=t3 b):a=b:=by
 have:=Afo (s:=a) (t:=b)
 rw [h] at this
 have h5:=Afo (s:=b) (t:=b)
 rw [decide_eq_true rfl] at h5
 rw [h5] at this
 exact of_decide_eq_true this.symm
theorem t4i {a b:I4} (h:t4 a=t4 b):a=b:=by
 have:=Afu (s:=a) (t:=b)
 rw [h] at this
 have h5:=Afu (s:=b) (t:=b)
 rw [decide_eq_true rfl] at h5
 rw [h5] at this
 exact of_decide_eq_true this.symm
theorem Ey {g h:I3} {t u:I4} (e:Dt.tup [t3 g,t4 t]=Dt.tup [t3 h,t4 u]):g=h∧t=u:=by
 have:=Dt.tup.inj e
 exact ⟨t3i (List.cons.inj this).1,t4i (List.cons.inj (List.cons.inj this).2).1⟩
theorem AcA {f h:I3} {l d d':Dt} (w:JW f l h d) (w':JW f l h d'):d=d':=by
 rcases w with ⟨n,rfl⟩ | ⟨hm,g,t,g',u,rfl,h2,rfl⟩ <;> rcases w' with ⟨n',rfl⟩ | ⟨hm',a,b,a',v,el,h3,rfl⟩
 ·rfl
 ·exact absurd hm' n
 ·exact absurd hm n'
 ·have e1:=h2.uniq h3
  obtain ⟨rfl,rfl⟩:=Ey el
  obtain ⟨rfl,rfl⟩:=Ey e1
  rfl
theorem AeY {n:Nat} {a b:Int} (ha:Bt n a) (h:b≠0):Bt (n+1) (a.fdiv b):=by
 have hb:1≤b.natAbs:=by omega
 have h1:=Nm (a:=a) h
 have e:b*a.fdiv b=a - a.fmod b:=by rw [Dz];grind
 have e2:b.natAbs*(a.fdiv b).natAbs=(a - a.fmod b).natAbs:=by rw [←Int.natAbs_mul,e]
 unfold Bt at *
 rw [Nat.pow_succ]
 by_cases h0:a.fdiv b=0
 ·rw [h0];have:=Nat.two_pow_pos n;simp;omega
 ·rcases Nat.lt_or_ge a.natAbs b.natAbs with hc | hc
  ·have h3:(a - a.fmod b).natAbs < 2*b.natAbs:=by omega
   have h4:(a.fdiv b).natAbs < 2:=by
    refine Nat.lt_of_mul_lt_mul_left (a:=b.natAbs) ?_
    rw [e2];omega
   have:=Nat.two_pow_pos n
   omega
  ·have h3:(a - a.fmod b).natAbs≤2*a.natAbs:=by omega
   have h4:(a.fdiv b).natAbs≤b.natAbs*(a.fdiv b).natAbs:=Nat.le_mul_of_pos_left _ hb
   omega
theorem KH {n:Nat} {t b:Int} (h:Bt n (t*b)) (hb:b≠0):Bt n t:=by
 unfold Bt at *
 rw [Int.natAbs_mul] at h
 have h4:t.natAbs≤t.natAbs*b.natAbs:=Nat.le_mul_of_pos_right _ (by omega)
 omega
structure Rows (a b n u v m s t:Int):Prop where
 r1:n=u*a+v*b
 r2:m=s*a+t*b
 g:Int.gcd n m=Int.gcd a b
 n0:Bt 8900 n
 m0:Bt 8900 m
 u0:Bt 8901 u
 s0:Bt 8901 s
 v0:Bt 20000 v
 t0:Bt 20000 t
structure Lat (b n u m s:Int):Prop where
 ex:∃ e d N M U S B:Int,n=e*N∧m=e*M∧u=d*U∧s=d*S∧b=e*B∧(e=1∨e=-1)∧(d=1∨d=-1)∧0 < N∧0≤M∧U≤0∧0≤S∧N*S - M*U=B∧-U≤B
theorem Lat.first {a b:Int} (h:b≠0):Lat b b 0 (a.fmod b) 1:=by
 rcases Int.lt_or_lt_of_ne h with h | h
 ·have e:a.fmod b=-((-a).fmod (-b)):=by rw [Dz,Dz,Int.neg_fdiv_neg];grind
  have h1:=Int.fmod_nonneg_of_pos (-a) (show 0 < -b by omega)
  exact ⟨-1,1,-b,(-a).fmod (-b),0,1,-b,by omega,by omega,by omega,by omega,by omega,.inr rfl,.inl rfl,by omega,h1,by omega,by omega,by simp,by omega⟩
 ·have h1:=Int.fmod_nonneg_of_pos a h
  exact ⟨1,1,b,a.fmod b,0,1,b,by omega,by omega,by omega,by omega,by omega,.inl rfl,.inl rfl,by omega,h1,by omega,by omega,by simp,by omega⟩
theorem Lat.step {b n u m s:Int} (L:Lat b n u m s) (h:m≠0):Lat b m s (n - n.fdiv m*m) (u - n.fdiv m*s):=by
 obtain ⟨e,d,N,M,U,S,B,hn,hm,hu,hs,hb,he,hd,hN,hM,hU,hS,hE,hUB⟩:=L.ex
 have hM':0 < M:=by
  rcases Int.lt_or_eq_of_le hM with z | z
  ·exact z
  ·rw [←z] at hm;simp at hm;exact absurd hm h
 have q1:n.fdiv m=N.fdiv M:=by
  rw [hn,hm]
  rcases he with rfl | rfl
  ·simp
  ·simp [Int.neg_fdiv_neg]
 have q2:0≤N.fdiv M:=Int.fdiv_nonneg (by omega) (by omega)
 have q3:0≤N - M*N.fdiv M:=by rw [←Dz];exact Int.fmod_nonneg_of_pos N hM'
 rw [q1]
 generalize N.fdiv M=q at *
 have hSB:S≤B:=by
  have z1:0≤M*(-U):=Int.mul_nonneg hM (by omega)
  have z2:0≤(N - 1)*S:=Int.mul_nonneg (by omega) hS
  have:N*S - M*U=(N - 1)*S+S+M*(-U):=by grind
  omega
 have z3:0≤q*S:=Int.mul_nonneg q2 hS
 refine ⟨e,-d,M,N - M*q,-S,q*S - U,B,hm,?_,?_,?_,hb,he,?_,hM',q3,by omega,by omega,?_,by omega⟩
 ·rw [hn,hm];grind
 ·rw [hs];grind
 ·rw [hu,hs];grind
 ·rcases hd with rfl | rfl
  ·exact .inr rfl
  ·exact .inl rfl
 ·rw [←hE];grind
theorem Lat.bounds {b n u m s:Int} (L:Lat b n u m s):u.natAbs≤b.natAbs∧s.natAbs≤b.natAbs:=by
 obtain ⟨e,d,N,M,U,S,B,hn,hm,hu,hs,hb,he,hd,hN,hM,hU,hS,hE,hUB⟩:=L.ex
 have z1:0≤M*(-U):=Int.mul_nonneg hM (by omega)
 have z2:0≤(N - 1)*S:=Int.mul_nonneg (by omega) hS
 have:N*S - M*U=(N - 1)*S+S+M*(-U):=by grind
 have hSB:S≤B:=by omega
 rcases he with rfl | rfl <;> rcases hd with rfl | rfl <;> omega
theorem Rows.first {a b:Int} (ha:Bt 8900 a) (hb:Bt 8900 b):Rows a b a 1 0 b 0 1 :=
 ⟨by omega,by omega,rfl,ha,hb,Bt.one.le (by decide),Bt.zero.le (by decide),Bt.zero.le (by decide),Bt.one.le (by decide)⟩
theorem Rows.step {a b n u v m s t:Int} (R:Rows a b n u v m s t) (ha:Bt 8900 a) (hb:Bt 8900 b) (hbn:b≠0) (h:m≠0) (L:Lat b m s (n - n.fdiv m*m) (u - n.fdiv m*s)) :
  Rows a b m s t (n - n.fdiv m*m) (u - n.fdiv m*s) (v - n.fdiv m*t):=by
 have e:n - n.fdiv m*m=n.fmod m:=by rw [Dz];grind
 have hl:=Nm (a:=n) h
 have hm:=R.m0
 have hs:Bt 8901 (u - n.fdiv m*s):=by
  have:=L.bounds.2
  have hb':=hb.le (m:=8901) (by decide)
  unfold Bt at *
  omega
 have hr:Bt 8900 (n - n.fdiv m*m):=by rw [e];unfold Bt at *;omega
 have er:n - n.fdiv m*m=(u - n.fdiv m*s)*a+(v - n.fdiv m*t)*b:=by
  have h1:=R.r1
  have h2:=R.r2
  generalize n.fdiv m=q at *
  rw [h1,h2];grind
 refine ⟨R.r2,er,?_,R.m0,hr,R.s0,hs,R.t0,?_⟩
 ·rw [e,Qy];exact R.g
 ·refine KH (b:=b) ?_ hbn
  have:(v - n.fdiv m*t)*b=(n - n.fdiv m*m) - (u - n.fdiv m*s)*a:=by rw [er];grind
  rw [this]
  exact (hr.sub (hs.mul ha)).le (by decide)
inductive ShR:I3→I3→I3→Prop
 | stop {r l:I3} (h:l.1=0):ShR r l r
 | go {r l z:I3} (h:l.1≠0) (k:ShR l (r.1 - r.1.fdiv l.1*l.1,r.2.1 - r.1.fdiv l.1*l.2.1,r.2.2 - r.1.fdiv l.1*l.2.2) z):ShR r l z
theorem ShR.uniq {r l z w:I3} (a:ShR r l z) (b:ShR r l w):z=w:=by
 induction a with
 | stop h=>cases b with
  | stop _=>rfl
  | go h' _=>exact absurd h h'
 | go h k ih=>cases b with
  | stop h'=>exact absurd h' h
  | go _ k'=>exact ih k'
noncomputable def AbA (a b u v:Int):Prop:=∃ z,ShR (a,1,0) (b,0,1) z∧((z.1 < 0∧u=-z.2.1∧v=-z.2.2)∨(¬ z.1 < 0∧u=z.2.1∧v=z.2.2))
theorem AbA.uniq {a b u v x y:Int} (A:AbA a b u v) (B:AbA a b x y):u=x∧v=y:=by
 obtain ⟨z,hz,A⟩:=A
 obtain ⟨w,hw,B⟩:=B
 obtain rfl:=hz.uniq hw
 rcases A with ⟨a1,rfl,rfl⟩ | ⟨a1,rfl,rfl⟩ <;> rcases B with ⟨b1,rfl,rfl⟩ | ⟨b1,rfl,rfl⟩
 ·exact ⟨rfl,rfl⟩
 ·exact absurd a1 b1
 ·exact absurd b1 a1
 ·exact ⟨rfl,rfl⟩
noncomputable abbrev Om:DSp:=BR (fun p:(Int × Int × Int) × (Int × Int × Int) × Int=>[T3 p.1.1 p.1.2.1 p.1.2.2,T3 p.2.1.1 p.2.1.2.1 p.2.1.2.2,.int p.2.2]) (fun p=>Bt 20000 p.2.2∧Bt 20000 p.2.1.1∧Bt 20000 p.2.1.2.1∧Bt 20000 p.2.1.2.2)
 fun p=>T3 (p.1.1 - p.2.2*p.2.1.1) (p.1.2.1 - p.2.2*p.2.1.2.1) (p.1.2.2 - p.2.2*p.2.1.2.2)
noncomputable abbrev Sh:DSp:=spec (fun p:I2=>[.int p.1,.int p.2]) (fun p=>Bt 8900 p.1∧Bt 8900 p.2) fun p d=>∃ u v:Int,d=T3 ((Int.gcd p.1 p.2:Nat):Int) u v∧u*p.1+v*p.2=((Int.gcd p.1 p.2:Nat):Int)∧Bt 20000 u∧Bt 20000 v∧AbA p.1 p.2 u v
theorem Wn (T:Txt K mg)
  : Pm P w K mg base 1 "row_less" Gp ["row","lower","often"] Om:=by
 obtain ⟨f,fd,F⟩:=T.t_row_less
 refine ⟨f,fd,F,F.fn.okD Vk (by walk_at "lE") fun cdv A outer s H E hr=>⟨_,(Ah (Aq (Bj (Aa (Bv (Ab (dv 0) Ac) (Am (dv 2) (Ab (dv 1) Ac))) (Aa (Bv (Ab (dv 0) Ac) (Am (dv 2) (Ab (dv 1) Ac))) (Aa (Bv (Ab (dv 0) Ac) (Am (dv 2) (Ab (dv 1) Ac))) Af)))))),fun ds Q h=>?_⟩⟩
 obtain ⟨⟨⟨n,u,v⟩,⟨m,s,t⟩,q⟩,rfl,⟨hq,hm,hs,ht⟩,k⟩:=h
 walk_at "go"
 walk_at "muls"
 exact k _ rfl
theorem Aas (T:Txt K mg)
  (G_row_less:Pm P w K mg base 1 "row_less" Gp ["row","lower","often"] Om)
  : Pm P w K mg base 2 "shares" Jg ["one","other"] Sh:=by
 obtain ⟨f,fd,F⟩:=T.t_shares
 refine ⟨f,fd,F,F.fn.okD Ho (by walk_at "lE") fun cdv A outer s H E hr=>⟨_,(Ad (Al 2 Ho.nd (Bj (Aa (dv 0) (Aa Ac (Aa Ac Af))))) (Ad (Al 3 Ho.nd (Bj (Aa (dv 1) (Aa Ac (Aa Ac Af))))) (Ad (Ew PassesOwn.never (Fy hr.units (Ab (dv 3) Ac) Ac) (Ad (Al 4 Ho.nd (Ag Ae G_row_less (hr.mono (by decide)) rfl (Aa (dv 2) (Aa (dv 3) (Aa (Ck (Ab (dv 2) Ac) (Ab (dv 3) Ac)) Af))))) (Ad (Al 2 Ho.nd (dv 3)) (Ah (Al 3 Ho.nd (dv 4)))))) (Ad (BZ (M4 (Ab (dv 2) Ac) Ac) (Ah (Aq (Bj (Aa (DN (Ab (dv 2) Ac)) (Aa (DN (Ab (dv 2) Ac)) (Aa (DN (Ab (dv 2) Ac)) Af)))))) Bg) (Ah (Aq (dv 2))))))),fun ds Q h=>?_⟩⟩
 obtain ⟨⟨a,b⟩,rfl,⟨ha,hb⟩,k⟩:=h
 walk_at "go"
 refine ⟨Ay (by decide),Ay (by decide),?_⟩
 refine Es (fun m ρ=>∃ n u v x s t z,ρ=[some (.is (.int a)),some (.is (.int b)),some (.is (T3 n u v)),some (.is (T3 x s t)),z]∧Rows a b n u v x s t∧((n=a∧u=1∧x=b∧s=0)∨(b≠0∧Lat b n u x s))∧(∀ w,ShR (n,u,v) (x,s,t) w→ShR (a,1,0) (b,0,1) w)∧m=x.natAbs) _ ⟨a,1,0,b,0,1,none,rfl,Rows.first ha hb,.inl ⟨rfl,rfl,rfl,rfl⟩,fun _ h=>h,rfl⟩ ?_
 rintro m _ ⟨n,u,v,x,s,t,z,rfl,R,hc,hw,rfl⟩
 walk_at "rd"
 have hG:=R.g
 by_cases hx:x=0
 ·subst hx
  rw [Int.gcd_zero_right] at hG
  simp only [decide_true,Bool.not_true]
  walk_at "rd"
  have r1:=R.r1
  refine MP (fun hn=>⟨Ay (by decide),k _ ⟨-u,-v,?_,?_,(R.u0.neg).le (by decide),R.v0.neg,_,hw _ (.stop rfl),.inl ⟨of_decide_eq_true hn,rfl,rfl⟩⟩⟩) (fun hn=>k _ ⟨u,v,?_,?_,R.u0.le (by decide),R.v0,_,hw _ (.stop rfl),.inr ⟨fun z=>hn (decide_eq_true z),rfl,rfl⟩⟩)
  ·have hn:=of_decide_eq_true hn
   have e:-n=((Int.gcd a b:Nat):Int):=by omega
   rw [e]
  ·have hn:=of_decide_eq_true hn
   have e:-n=((Int.gcd a b:Nat):Int):=by omega
   show -u*a + -v*b=_
   rw [←e,r1];grind
  ·have hn:¬ n < 0:=fun z=>hn (decide_eq_true z)
   have e:n=((Int.gcd a b:Nat):Int):=by omega
   rw [←e]
  ·have hn:¬ n < 0:=fun z=>hn (decide_eq_true z)
   have e:n=((Int.gcd a b:Nat):Int):=by omega
   show u*a+v*b=_
   rw [←e,←r1]
 ·simp only [decide_eq_false hx,Bool.not_false,if_true]
  have hbn:b≠0:=by
   rcases hc with ⟨_,_,e,_⟩ | ⟨e,_⟩
   ·rw [←e];exact hx
   ·exact e
  have L:Lat b x s (n - n.fdiv x*x) (u - n.fdiv x*s):=by
   rcases hc with ⟨rfl,rfl,rfl,rfl⟩ | ⟨_,L⟩
   ·have:=Lat.first (a:=n) hx
    have e:n - n.fdiv x*x=n.fmod x:=by rw [Dz];grind
    have e2:(1:Int) - n.fdiv x*0=1:=by omega
    rw [e,e2];exact this
   ·exact L.step hx
  have hq:=AeY R.n0 hx
  refine ⟨Bt.divOk R.m0 hx,?_⟩
  refine Ak ((n,u,v),(x,s,t),n.fdiv x) ⟨hq.le (by decide),R.m0.le (by decide),R.s0.le (by decide),R.t0⟩ ?_
  refine ⟨_,?_,_,_,_,_,_,_,_,rfl,Rows.step R ha hb hbn hx L,.inr ⟨hbn,L⟩,fun w h=>hw w (.go hx h),rfl⟩
  have e:n - n.fdiv x*x=n.fmod x:=by rw [Dz];grind
  rw [e]
  exact Nm hx
noncomputable abbrev JK:DSp:=BR (fun p:I2=>[.int p.1,.int p.2]) (fun p=>(p.1.natAbs:Int)≤p.2) fun _=>.non
theorem Oz (T:Txt K mg)
  : Pm P w K mg base 1 "check_within" Dd ["number","most"] JK:=by
 obtain ⟨f,fd,F⟩:=T.t_check_within
 refine ⟨f,fd,F,F.fn.okD O8 (by walk_at "lE") fun cdv A outer s H E hr=>⟨_,(Ah (BZ (V8 (Ie T.z_abs (Aa (dv 0) Af)) (dv 1)) (Ah FN) Bg)),fun ds Q h=>?_⟩⟩
 obtain ⟨⟨n,m⟩,rfl,h0,q⟩:=h
 have h0:(n.natAbs:Int)≤m:=h0
 walk_at "go"
 exact Dm (decide_eq_false (by omega)) (q _ rfl)
theorem Ajc:∀ n:Nat,n < 401→∃ r,r < 21∧r*r≤n∧n < (r+1)*(r+1):=by decide +kernel
theorem Agz {n:Int} (h:n.natAbs≤400):∃ r:Nat,r≤20∧Sq n.natAbs r:=by
 obtain ⟨r,h1,h2,h3⟩:=Ajc n.natAbs (by omega)
 exact ⟨r,by omega,by omega,by exact_mod_cast h2,by exact_mod_cast h3⟩
theorem Qj {sl:List Nat} {ti:DTI} {tt:DTT} {te:DTE} {ρ:Cj} {Q:Dt→Prop} (h:ti ρ fun items=>J8 sl (fun _ R=>R items) tt te ρ Q):J8 sl ti tt te ρ Q:=h
theorem AnY {a:Nat} {ρ:Cj} {d:Dt}:inner [a] ρ d=[some (.is d),ρ[a]?.join]:=rfl
theorem AiE {a b:Nat} {ρ:Cj} {d:Dt}:inner [a,b] ρ d=[some (.is d),ρ[a]?.join,ρ[b]?.join]:=rfl
noncomputable def okG (n:Int):Dt→Bool
 | .int g=>decide (n.fmod (g*g)=0)
 | _=>false
theorem Vm (n:Int):∀ r:Nat,(((ups 1 r).filter (okG n)).map id)=(IW n r).map Dt.int
 | 0=>rfl
 | r+1=>by
  have e:ups 1 (r+1)=ups 1 r ++ [.int (1+(r:Nat))]:=by
   unfold ups
   rw [List.range_succ,List.map_append]
   rfl
  rw [e,List.filter_append,List.map_append,Vm n r,IW,List.map_append]
  congr 1
  by_cases h:n.fmod ((1+(r:Int))*(1+(r:Int)))=0
  ·rw [if_pos h]
   simp [okG,h]
  ·rw [if_neg h]
   simp [okG,h]
noncomputable abbrev DX:DSp:=spec (fun n:Int=>[.int n]) (fun n=>n.natAbs≤400) fun n d=>∃ r:Nat,r≤20∧Sq n.natAbs r∧d=.lst ((IW n r).map Dt.int)
theorem G8 (T:Txt K mg)
  (G_root:Pm P w K mg base 1 "root" Ja ["number"] Kr)
  : Pm P w K mg base 2 "roots_of_square_divisors" Ba ["number"] DX:=by
 obtain ⟨f,fd,F⟩:=T.t_roots_of_square_divisors
 refine ⟨f,fd,F,F.fn.okD G9 (by walk_at "lE") fun cdv A outer s H E hr=>⟨_,(Ah (Aq (Ve (Gk (sc:=Ai Ba) (NN:=["number"]) (x:="g") (N:=["number"]) (sl:=[0]) rfl rfl (by decide +kernel)) rfl (YK rfl T.z_range (Aa Ac (Aa (Bm (Ag Ae G_root (hr.mono (by decide)) rfl (Aa (Ie T.z_abs (Aa (dv 0) Af)) Af)) Ac) Af))) (fun cl C s0 H0 ex=>(JQ hr.units (Hw (dv 1) (Am (dv 0) (dv 0))) Ac)) (fun cl C s0 H0 ex=>(dv 0))))),fun ds Q h=>?_⟩⟩
 obtain ⟨n,rfl,hn,q⟩:=h
 have hn:n.natAbs≤400:=hn
 obtain ⟨r,hr,sr⟩:=Agz hn
 walk_at "go"
 refine Ju (ups 1 r) (okG n) id (fun R hR=>?_) (by rw [Nj];exact Ay (by omega)) (Gz rfl Fg) (fun d hd R hR=>?_) (fun d hd hp R hR=>hR) ?_
 ·walk_at "rd"
  have ea:(if n < 0 then -n else n)=(n.natAbs:Int):=by split <;> omega
  rw [ea]
  refine Az (n.natAbs:Int) ⟨by omega,Bt.of (by omega) (by omega)⟩ ?_
  rintro _ ⟨r',rfl,hr',_⟩
  have er:r'=(r:Int):=hr'.uniq sr
  subst er
  refine ⟨⟨by omega,by omega⟩,?_⟩
  have e2:((r:Int)+1 - 1).toNat=r:=by omega
  rw [e2]
  exact hR
 ·obtain ⟨k,hk⟩:=List.getElem?_of_mem hd
  obtain ⟨hk,rfl⟩:=Mx hk
  rw [AnY]
  walk_at "rd"
  have b5:Bt 6 (1+(k:Int)):=Bt.of (by omega) (by omega)
  exact ⟨b5.mulOk b5,fun z=>by
   have:=Int.mul_pos (show (0:Int) < 1+(k:Int) by omega) (show (0:Int) < 1+(k:Int) by omega)
   omega,hR⟩
 ·rw [Vm]
  exact q _ ⟨r,hr,sr,rfl⟩
noncomputable def okB (m D:Int):Dt→Bool
 | .int b=>decide ((b*b - D).fmod (4*m)=0)
 | _=>false
theorem V6 (m D:Int):∀ n:Nat,(((ups 0 n).filter (okB m D)).map id)=(mids m D n).map Dt.int
 | 0=>rfl
 | n+1=>by
  have e:ups 0 (n+1)=ups 0 n ++ [.int (0+(n:Nat))]:=by
   unfold ups
   rw [List.range_succ,List.map_append]
   rfl
  rw [e,List.filter_append,List.map_append,V6 m D n,mids,List.map_append,Int.zero_add]
  congr 1
  by_cases h:((n:Int)*n - D).fmod (4*m)=0
  ·rw [if_pos h]
   simp [okB,h]
  ·rw [if_neg h]
   simp [okB,h]
noncomputable abbrev YC:DSp:=BR (fun p:I2=>[.int p.1,.int p.2]) (fun p=>p.1≠0∧p.1.natAbs≤400∧Bt 1400 p.2) fun p=>.lst ((Ez p.1 p.2).map t3)
theorem Aev (T:Txt K mg)
  : Pm P w K mg base 1 "feet" J5 ["first","far"] YC:=by
 obtain ⟨f,fd,F⟩:=T.t_feet
 refine ⟨f,fd,F,F.fn.okD Zm (by walk_at "lE") fun cdv A outer s H E hr=>⟨_,(Ad (Aay 2 Zm.nd (Gk (sc:=Ai J5) (NN:=["first","far","middles"]) (x:="b") (N:=["far","first"]) (sl:=[1,0]) rfl rfl (by decide +kernel)) rfl (YX rfl T.z_range (Aa (Am Ac (Ie T.z_abs (Aa (dv 0) Af))) Af)) (fun cl C s0 H0 ex=>(JQ hr.units (Hw (Bv (Am (dv 0) (dv 0)) (dv 1)) (Am Ac (dv 2))) Ac)) (fun cl C s0 H0 ex=>(dv 0))) (Ah (Aq (PK (Gk (sc:=Ai J5) (NN:=["first","far","middles"]) (x:="b") (N:=["first","far"]) (sl:=[0,1]) rfl rfl (by decide +kernel)) rfl (Nu (dv 2)) (fun cl C s0 H0 ex=>(Bj (Aa (dv 1) (Aa (dv 0) (Aa (Ck (Bv (Am (dv 0) (dv 0)) (dv 2)) (Am Ac (dv 1))) Af))))))))),fun ds Q h=>?_⟩⟩
 obtain ⟨⟨m,D⟩,rfl,⟨m0,m4,bD⟩,q⟩:=h
 have m0:m≠0:=m0
 have m4:m.natAbs≤400:=m4
 have bD:Bt 1400 D:=bD
 have q':Q (.lst ((Ez m D).map t3)):=q _ rfl
 have bm:Bt 9 m:=by unfold Bt;omega
 have two:Bt 2 2:=Bt.of_abs (by decide)
 have four:Bt 3 4:=Bt.of_abs (by decide)
 have lm:(mids m D (2*m.natAbs)).length≤800:=by
  have h1:∀ n,(mids m D n).length≤n:=fun n=>by
   induction n with
   | zero=>exact Nat.le_refl _
   | succ n ih =>
    rw [mids,List.length_append]
    split <;> simp <;> omega
  have:=h1 (2*m.natAbs)
  omega
 walk_at "go"
 refine Ju (ups 0 (2*m.natAbs)) (okB m D) id (fun R hR=>?_) (by rw [Nj];exact Ay (by omega)) (Gz rfl (Gz rfl Fg)) (fun d hd R hR=>?_) (fun d hd hp R hR=>hR) ?_
 ·walk_at "rd"
  have ea:(if m < 0 then -m else m)=(m.natAbs:Int):=by split <;> omega
  rw [ea]
  refine ⟨two.mulOk (show Bt 9 (m.natAbs:Int) by unfold Bt at *;omega),⟨by omega,by omega⟩,?_⟩
  have e2:(2*(m.natAbs:Int)).toNat=2*m.natAbs:=by omega
  rw [e2]
  exact hR
 ·obtain ⟨k,hk⟩:=List.getElem?_of_mem hd
  obtain ⟨hk,rfl⟩:=Mx hk
  rw [AiE]
  walk_at "rd"
  have bk:Bt 10 (0+(k:Int)):=Bt.of (by omega) (by omega)
  exact ⟨bk.mulOk bk,four.mulOk bm,by omega,hR⟩
 ·rw [V6]
  walk_at "rd"
  refine Ku ((mids m D (2*m.natAbs)).map Dt.int) (fun d=>match d with
   | .int b=>t3 (m,b,(b*b - D).fdiv (4*m))
   | _=>.non) (fun R hR=>hR) (by rw [List.length_map];exact Ay (by omega)) (Gz rfl (Gz rfl Fg)) (fun d hd R hR=>?_) ?_
  ·obtain ⟨b,hb,rfl⟩:=List.mem_map.mp hd
   obtain ⟨h1,h2,_⟩:=Hv.mp hb
   rw [AiE]
   walk_at "rd"
   have bb:Bt 10 b:=Bt.of (by omega) (by omega)
   exact ⟨bb.mulOk bb,four.mulOk bm,Bt.divOk (four.mul bm) (by omega),Ay (by decide),hR⟩
  ·have e:((mids m D (2*m.natAbs)).map Dt.int).map (fun d=>match d with
    | .int b=>t3 (m,b,(b*b - D).fdiv (4*m))
    | _=>.non)=(Ez m D).map t3:=by
    unfold Ez
    rw [List.map_map,List.map_map]
    rfl
   rw [e]
   exact q'
noncomputable def Oc (f h:I3):Option I4:=open Classical in if w:∃ y l,Er f l∧JW f l h (t4 y) then some (Classical.choose w) else none
theorem Uw {f h:I3} {l d:Dt} (hl:Er f l) (w:JW f l h d):d=match Oc f h with
  | some y=>t4 y
  | none=>.non:=by
 unfold Oc
 split
 ·rename_i y e
  split at e
  ·rename_i z
   cases e
   obtain ⟨l',h1,h2⟩:=Classical.choose_spec z
   obtain rfl:=hl.uniq h1
   exact AcA w h2
  ·cases e
 ·rename_i e
  split at e
  ·cases e
  ·rename_i z
   rcases w with ⟨_,rfl⟩ | ⟨hm,g,t,g',u,el,h2,rfl⟩
   ·rfl
   ·split
    ·rename_i eg
     exact absurd ⟨_,l,hl,.inr ⟨hm,g,t,g',u,el,h2,by rw [if_pos eg]⟩⟩ z
    ·rfl
theorem Sd {f h:I3} {l:Dt} {t:I4} (hl:Er f l) (w:JW f l h (t4 t)):det t=1∧mov f t=h∧B4 190000 t:=by
 rcases w with ⟨_,e⟩ | ⟨hm,g,a,g',u,el,h2,e⟩
 ·cases e
 ·obtain ⟨g0,t0,e0,L,dt,mt,bt⟩:=Ou hl
  rw [el] at e0
  obtain ⟨g1,u1,e1,L1,du,mu,bu⟩:=Ou h2
  obtain ⟨rfl,rfl⟩:=Ey e0
  obtain ⟨rfl,rfl⟩:=Ey e1
  by_cases eg:g=g'
  ·rw [if_pos eg] at e
   rw [t4i e]
   refine ⟨by rw [BP,Dg,dt,du];rfl,?_,(B4.then bt bu.back).le (by decide)⟩
   rw [←Bf,mt,eg,←mu,Bq du]
  ·rw [if_neg eg] at e
   cases e
theorem Xv {f h:I3} {l:Dt} {t:I4} (hl:Er f l) (e:Oc f h=some t):det t=1∧mov f t=h∧B4 190000 t:=by
 unfold Oc at e
 split at e
 ·rename_i z
  cases e
  obtain ⟨l',h1,h2⟩:=Classical.choose_spec z
  exact Sd h1 h2
 ·cases e
theorem Le.bt {n:Nat} {far:Int} {f:I3} {t:I4} (hn:12≤n) (S:Sad f) (r:Sq (meas f) far) (hf:B3 n f) (a:Le far f t):B4 (5*n+30) t:=by
 obtain ⟨k,rfl,nl,_⟩:=a
 have:∀ i,i≤k→Pg n far f (EI far f i):=fun i=>by
  induction i with
  | zero=>exact fun _=>Pg.start (by omega) hf
  | succ i ih=>exact fun h=>(R0 hn S r (ih (by omega)) (nl i (by omega))).1
 exact (this k (Nat.le_refl _)).b4
theorem Er.bt {n:Nat} {f g:I3} {t:I4} (hn:12≤n) (hf:B3 n f) (hl:Er f (.tup [t3 g,t4 t])):B4 (5*n+560) t:=by
 rcases hl with ⟨hb,t',e,_,L,_,_⟩ | ⟨hS,t0,far,N,j,R,jl,_,e,_⟩
 ·obtain ⟨_,rfl⟩:=Ey e
  have four:Bt 3 4:=Bt.of_abs (by decide)
  have bm:Bt (2*n+9) (meas f):=((hf.2.1.mul hf.2.1).sub (((four.mul hf.1).mul hf.2.2).le (m:=2*n+8) (by omega))).le (by omega)
  have dt:det t=1:=by assumption
  exact Zk hb hf (L.bt (by rw [Br dt];exact bm)) (by omega)
 ·obtain ⟨_,rfl⟩:=Ey e
  exact (B4.then (R.a.bt hn hS R.r hf) (Adt R.v R.n R.e R.l jl)).le (by omega)
noncomputable abbrev Fam:=Int × I3 × I4
noncomputable def Cm (F:Fam):List (List Int):=[[F.1*F.2.2.1,F.1*F.2.2.2.2.1],[F.2.1.1,F.2.1.2.1,F.2.1.2.2],[F.2.2.1,F.2.2.2.1,F.2.2.2.2.1,F.2.2.2.2.2]]
noncomputable abbrev AjR (F:Fam):Dt:=.tup [t2 (F.1*F.2.2.1,F.1*F.2.2.2.2.1),t3 F.2.1,t4 F.2.2]
noncomputable def JX (f:I3) (g:Int) (fs:List I3):List Fam:=fs.filterMap fun h=>(Oc f h).map fun t=>(g,h,t)
noncomputable def Mr (f:I3) (n g:Int):List Fam:=JX f g (Ez (n.fdiv (g*g)) (meas f))
noncomputable def J7 (f:I3) (n:Int) (r:Nat):List Fam:=(IW n r).flatMap (Mr f n)
structure Jd (f:I3) (n:Int):Prop where
 bf:B3 1400 f
 kf:Cd f∨Sad f
 n0:n≠0
 n4:n.natAbs≤400
 bo:Cd f→0 < n
 bm:Bt 1400 (meas f)
theorem Abf {f:I3} {n:Int} (h:Jd f n) (g:Nat) (g1:1≤g) (hg:n.natAbs % (g*g)=0):(Mr f n g).length≤tb (n.natAbs / (g*g)):=by
 have n0:=h.n0
 have n4:=h.n4
 have gg:(g:Int)*g≠0:=Int.mul_ne_zero (by omega) (by omega)
 have hd:n.fmod ((g:Int)*g)=0:=by
  refine Int.fmod_eq_zero_of_dvd ?_
  have:(g*g:Nat)∣n.natAbs:=Nat.dvd_of_mod_eq_zero hg
  have:=Int.ofNat_dvd_left.mpr this
  push_cast at this
  exact this
 have e:=N6 (show (g:Int)≠0 by omega) hd
 have m0:n.fdiv ((g:Int)*g)≠0:=fun z=>n0 (by rw [←e,z];omega)
 have ea:(n.fdiv ((g:Int)*g)).natAbs=n.natAbs / (g*g):=by
  have h1:n.natAbs=g*g*(n.fdiv ((g:Int)*g)).natAbs:=by
   conv=>lhs;rw [←e]
   rw [Int.natAbs_mul,Int.natAbs_mul,Int.natAbs_natCast]
  rw [h1,Nat.mul_div_cancel_left _ (Nat.mul_pos (by omega) (by omega))]
 have m4:(n.fdiv ((g:Int)*g)).natAbs≤400:=by
  rw [ea]
  exact Nat.le_trans (Nat.div_le_self _ _) n4
 rw [←ea]
 refine Nat.le_trans ?_ (AaA (D:=meas f) m0 m4)
 unfold Mr JX
 refine Nat.le_trans (List.length_filterMap_le ..) ?_
 unfold Ez
 rw [List.length_map]
 exact Nat.le_refl _
theorem VR {f:I3} {n:Int} {r:Nat} (h:Jd f n) (hr:r≤20):(J7 f n r).length < 64:=by
 have h1:=YW (n:=n) (F:=Mr f n) (Abf h) r
 have h2:=Ng n.natAbs (20 - r) r
 rw [show r+(20 - r)=20 by omega] at h2
 have h3:=AaJ n.natAbs (by have:=h.n4;omega)
 unfold J7
 omega
theorem Aby {α β:Type} {F:α→List β} {l:List α} {i:Nat} {a:α} (h:l[i]? = some a):((l.take i).flatMap F).length+(F a).length≤(l.flatMap F).length:=by
 obtain ⟨hi,e⟩:=List.getElem?_eq_some_iff.mp h
 have e1:l.flatMap F=(l.take (i+1)).flatMap F ++ (l.drop (i+1)).flatMap F:=by rw [←List.flatMap_append,List.take_append_drop]
 rw [e1,List.take_add_one,h,List.flatMap_append,List.length_append,List.length_append]
 simp only [Option.toList_some,List.flatMap_cons,List.flatMap_nil,List.append_nil]
 omega
theorem Aai {α β:Type} {F:α→List β} {l:List α} {i:Nat} {a:α} (h:l[i]? = some a):(l.take (i+1)).flatMap F=(l.take i).flatMap F ++ F a:=by
 rw [List.take_add_one,h,List.flatMap_append]
 simp
theorem Aba {α:Type} {F:α→Dt} {l:List α} {i:Nat} {d:Dt} (h:(l.map F)[i]? = some d):∃ a,l[i]? = some a∧d=F a:=by
 rw [List.getElem?_map] at h
 obtain ⟨a,h1,h2⟩:=Option.map_eq_some_iff.mp h
 exact ⟨a,h1,h2.symm⟩
theorem Aat {f:I3} {g:Int} {fs:List I3} {j:Nat} {h:I3} (e:fs[j]? = some h):JX f g (fs.take (j+1))=JX f g (fs.take j) ++ (match Oc f h with | some t=>[(g,h,t)] | none=>[]):=by
 unfold JX
 rw [List.take_add_one,e,List.filterMap_append]
 congr 1
 cases hw:Oc f h with
 | none=>simp [hw]
 | some t=>simp [hw]
theorem AaI {f:I3} {g:Int} {fs:List I3} {j:Nat}:(JX f g (fs.take j)).length≤(JX f g fs).length:=by
 have:JX f g fs=JX f g (fs.take j) ++ JX f g (fs.drop j):=by
  unfold JX
  rw [←List.filterMap_append,List.take_append_drop]
 rw [this,List.length_append]
 omega
theorem Aac {f h:I3} {m:Int} (k:Cd f∨Sad f) (hm:meas h=meas f) (ha:h.1=m) (hp:Cd f→0 < m):Cd h∨Sad h:=by
 rcases k with k | k
 ·exact .inl ⟨by rw [ha];exact hp k,by rw [hm];exact k.2⟩
 ·exact .inr ⟨by rw [hm];exact k.no,by rw [hm];exact k.pos,by rw [hm];exact k.most⟩
theorem Aef {D m:Int} {h:I3} (m4:m.natAbs≤400) (bD:Bt 1400 D) (F:ZS m D h):B3 1500 h:=by
 obtain ⟨a,b,c⟩:=h
 have e1:=F.a
 have e2:=F.lo
 have e3:=F.hi
 have e4:b*b - 4*a*c=D:=F.me
 dsimp only at e1 e2 e3
 subst e1
 have ba : Bt 1500 a := by unfold Bt; have : (400 : Nat) < 2 ^ 1500 := by decide +kernel
                           omega
 have bb : Bt 1500 b := by unfold Bt; have : (800 : Nat) < 2 ^ 1500 := by decide +kernel
                           omega
 refine ⟨ba,bb,?_⟩
 by_cases a0:a=0
 ·omega
 ·have b10:Bt 10 b:=Bt.of (by omega) (by omega)
  have h4:Bt 1450 (4*a*c):=by
   have:4*a*c=b*b - D:=by omega
   rw [this]
   exact ((b10.mul b10).sub bD).le (by decide)
  show Bt 1500 c
  have:Bt 1450 c:=KH (t:=c) (b:=4*a) (by rw [Int.mul_comm];exact h4) (by omega)
  exact this.le (by decide)
noncomputable def DP (f:I3) (n:Int) (r:Nat):List (List (List Int)):=WD ((J7 f n r).map Cm)
noncomputable def Eo (f:I3) (n:Int) (r:Nat):Prop:=∃ l,Er f l∧∀ g∈IW n r,∀ h∈Ez (n.fdiv (g*g)) (meas f),∃ w,JW f l h w
noncomputable abbrev Kc:DSp:=spec (fun p:I3 × Int=>[t3 p.1,.int p.2]) (fun p=>Jd p.1 p.2) fun p d=>∃ r:Nat,r≤20∧Sq p.2.natAbs r∧d=.lst ((DP p.1 p.2 r).map nestD)∧Eo p.1 p.2 r
theorem Vn (T:Txt K mg)
  (GM_way_to:PmM P w K mg base 11 ["Bowl","Saddle"] "way_to" Rk)
  (G_shape_of:Pm P w K mg base 10 "shape_of" Fi ["form"] Ik)
  (G_check_within:Pm P w K mg base 1 "check_within" Dd ["number","most"] JK)
  (G_roots_of_square_divisors:Pm P w K mg base 2 "roots_of_square_divisors" Ba ["number"] DX)
  (G_feet:Pm P w K mg base 1 "feet" J5 ["first","far"] YC)
  : Pm P w K mg base 12 "families" Fl ["form","number"] Kc:=by
 obtain ⟨f,fd,F⟩:=T.t_families
 obtain ⟨t_MOST_NUMBER_answers,m_MOST_NUMBER_answers⟩:=T.m_MOST_NUMBER_answers
 refine ⟨f,fd,F,F.fn.okD Fw (by walk_at "lE") fun cdv A outer s H E hr=>⟨_,(Ad (Al 2 Fw.nd (Ag Ae G_shape_of (hr.mono (by decide)) rfl (Aa (dv 0) Af))) (Ad (BZ (JQ hr.units (dv 1) Ac) (Ah FN) Bg) (Ad (FW (Ag Ae G_check_within (hr.mono (by decide)) rfl (Aa (dv 1) (Aa (Kq (v:=.int (400)) (d:=.int (400)) rfl m_MOST_NUMBER_answers ⟨_,rfl⟩ (fun _=>Bb.mpr rfl)) Af)))) (Ad (W4 3 Fw.nd Af) (Ad (Uh PassesOwn.never rfl (Nu (Ag Ae G_roots_of_square_divisors (hr.mono (by decide)) rfl (Aa (dv 1) Af))) (Cv 4 Fw.nd) (Ah (Uh PassesOwn.never rfl (Nu (Ag Ae G_feet (hr.mono (by decide)) rfl (Aa (Ck (dv 1) (Am (dv 4) (dv 4))) (Aa (PB (dv 2)) Af)))) (Cv 5 Fw.nd) (Ad (Al 6 Fw.nd (Abs Ae GM_way_to (hr.mono (by decide)) (dv 2) (Aa (dv 5) Af))) (Ah (BZ (Adf (dv 6) Qx) (Ah (Q5 3 (Bj (Aa (Bj (Aa (Am (dv 4) (Ab (dv 6) Ac)) (Aa (Am (dv 4) (Ab (dv 6) Ac)) Af))) (Aa (dv 5) (Aa (dv 6) Af)))))) Bg)))))) (Ah (Xl 3 (Aq (AbC T.z_sorted hr.units (Aa (dv 3) Af)))))))))),fun ds Q h=>?_⟩⟩
 obtain ⟨⟨f,n⟩,rfl,hP,q⟩:=h
 have hP:Jd f n:=hP
 have n0:=hP.n0
 have n4:=hP.n4
 have q:∀ d,(∃ r:Nat,r≤20∧Sq n.natAbs r∧d=.lst ((DP f n r).map nestD)∧Eo f n r)→Q d:=q
 walk_at "go"
 refine Az f ⟨hP.bf.le (by decide),hP.kf⟩ ?_
 rintro _ ho
 obtain ⟨c,l,hc,rfl,hl⟩:=Yu ho
 walk_at "rd"
 refine Dm (decide_eq_false n0) (Ak (n,400) (by show (n.natAbs:Int)≤400;omega) ⟨Nat.zero_le _,Sv ?_⟩)
 walk_at "rd"
 refine Az n n4 ?_
 rintro _ ⟨r,hr,sr,rfl⟩
 have l64:=VR hP hr
 refine Pr ((IW n r).map Dt.int) (fun R h=>h) (fun i ρ=>(∀ g∈(IW n r).take i,∀ h∈Ez (n.fdiv (g*g)) (meas f),∃ w,JW f l h w)∧∃ x y z,ρ=[some (.is (t3 f)),some (.is (.int n)),some (.is (Vd c f l)),some (.own ((((IW n r).take i).flatMap (Mr f n)).map AjR)),x,y,z]) ⟨fun g hg=>by simp at hg,none,none,none,by simp⟩ ?_ ?_
 ·rintro i d _ hi ⟨al,x,y,z,rfl⟩
  obtain ⟨g,hg,rfl⟩:=ints_get hi
  obtain ⟨g1,g2,g3⟩:=FZ.mp (List.mem_of_getElem? hg)
  have eg:=N6 (show g≠0 by omega) g3
  have tl:=Aby (F:=Mr f n) hg
  obtain ⟨m,em⟩:∃ m,n.fdiv (g*g)=m:=⟨_,rfl⟩
  rw [em] at eg
  have m0:m≠0:=fun z=>n0 (by rw [←eg,z];omega)
  have m4:m.natAbs≤400:=by
   have h1:n.natAbs=(g*g).natAbs*m.natAbs:=by rw [←eg,Int.natAbs_mul]
   have h2:1≤(g*g).natAbs:=by
    have:=Int.mul_pos (show 0 < g by omega) (show 0 < g by omega)
    omega
   have h3:1*m.natAbs≤(g*g).natAbs*m.natAbs:=Nat.mul_le_mul_right _ h2
   omega
  have mp:Cd f→0 < m:=fun k=>by
   have hn:=hP.bo k
   rcases Int.lt_or_le 0 m with w | w
   ·exact w
   ·have:=Int.mul_nonneg (Int.mul_nonneg (show 0≤g by omega) (show 0≤g by omega)) (show 0≤-m by omega)
    have e:g*g * -m=-(g*g*m):=Int.mul_neg ..
    omega
  have eG:Mr f n g=JX f g (Ez m (meas f)):=by unfold Mr;rw [em]
  have bg:Bt 6 g:=Bt.of (by omega) (by omega)
  refine Sv ?_
  walk_at "rd"
  refine ⟨bg.mulOk bg,Bt.divOk (bg.mul bg) (Int.mul_ne_zero (by omega) (by omega)),Zr T hc,_,rfl,?_⟩
  rw [em]
  refine Ak (m,meas f) ⟨m0,m4,hP.bm⟩ ?_
  refine Pr ((Ez m (meas f)).map t3) (fun R h=>h) (fun j ρ=>(∀ h∈(Ez m (meas f)).take j,∃ w,JW f l h w)∧∃ y z,ρ=[some (.is (t3 f)),some (.is (.int n)),some (.is (Vd c f l)),some (.own ((((IW n r).take i).flatMap (Mr f n) ++ JX f g ((Ez m (meas f)).take j)).map AjR)),some (.is (.int g)),y,z]) ⟨fun h hh=>by simp at hh,y,z,by simp [JX]⟩ ?_ ?_
  ·rintro j d _ hj ⟨al2,y,z,rfl⟩
   obtain ⟨h,hh,rfl⟩:=Aba hj
   have F:=(GF m0).mp (List.mem_of_getElem? hh)
   have ft:=Aat (f:=f) (g:=g) hh
   have fl:=AaI (f:=f) (g:=g) (fs:=Ez m (meas f)) (j:=j)
   walk_at "rd"
   refine ⟨⟨by rcases hc with e | e <;> rw [e] <;> simp,by decide⟩,Az (c,f,l,h) ⟨hc,hl,Aef m4 hP.bm F,fun _=>Aac hP.kf F.me F.a mp⟩ ?_⟩
   rintro w W
   have W:JW f l h w:=W
   have ew:=Uw hl W
   have al3:∀ k∈(Ez m (meas f)).take (j+1),∃ w,JW f l k w:=fun k hk=>by
    rw [List.take_add_one,hh] at hk
    rcases List.mem_append.mp hk with hk | hk
    ·exact al2 k hk
    ·simp only [Option.toList_some,List.mem_singleton] at hk
     subst hk
     exact ⟨w,W⟩
   cases hw:Oc f h with
   | none =>
    rw [hw] at ew ft
    dsimp only at ew ft
    subst ew
    refine Dm rfl ⟨al3,some (.is (t3 h)),some (.is .non),?_⟩
    rw [ft,List.append_nil]
   | some t =>
    rw [hw] at ew ft
    dsimp only at ew ft
    subst ew
    refine ift rfl ?_
    walk_at "rd"
    obtain ⟨_,_,bt⟩:=Sd hl W
    refine ⟨bg.mulOk bt.1,bg.mulOk bt.2.2.1,Ay (by decide),Ay (by decide),?_,al3,some (.is (t3 h)),some (.is (t4 t)),?_⟩
    ·rw [List.length_append]
     rw [eG] at tl
     have e64:(List.flatMap (Mr f n) (IW n r)).length < 64:=l64
     exact Nat.lt_of_lt_of_le (by omega) (Ay (n:=64) (by decide))
    ·rw [ft,←List.append_assoc,List.map_append (l₂:=[(g,h,t)])]
     rfl
  ·rintro _ ⟨al2,y,z,rfl⟩
   refine ⟨fun k hk=>?_,some (.is (.int g)),y,z,?_⟩
   ·rw [List.take_add_one,hg] at hk
    rcases List.mem_append.mp hk with hk | hk
    ·exact al k hk
    ·simp only [Option.toList_some,List.mem_singleton] at hk
     subst hk
     rw [em]
     rw [List.length_map,List.take_length] at al2
     exact al2
   ·rw [Aai hg,eG,List.length_map,List.take_length]
 ·rintro _ ⟨al,x,y,z,rfl⟩
  rw [List.length_map,List.take_length] at al
  walk_at "rd"
  rw [List.take_length]
  refine ⟨(J7 f n r).map Cm,?_,by rw [List.length_map];exact l64,fun rr hrr=>?_,q _ ⟨r,hr,sr,rfl,l,hl,al⟩⟩
  ·rw [List.map_map]
   rfl
  ·obtain ⟨F,_,rfl⟩:=List.mem_map.mp hrr
   simp [Cm]
noncomputable abbrev QV:DSp:=spec (fun p:I3 × Int=>[t3 p.1,.int p.2]) (fun p=>Jd p.1 p.2) fun p d=>∃ r:Nat,r≤20∧Sq p.2.natAbs r∧d=.lst ((DP p.1 p.2 r).map fun rs=>Gg (rs.getD 0 []))∧Eo p.1 p.2 r
theorem Ii {f:I3} {n:Int} {r:Nat} {rs:List (List Int)} (h:rs∈DP f n r):∃ F∈J7 f n r,rs=Cm F:=by
 have:=(HY _).mem_iff.mp h
 obtain ⟨F,h1,h2⟩:=List.mem_map.mp this
 exact ⟨F,h1,h2.symm⟩
theorem V9 {f:I3} {n:Int} {r:Nat} (h:Jd f n) (hr:r≤20):(DP f n r).length < 64:=by
 unfold DP
 rw [(HY _).length_eq,List.length_map]
 exact VR h hr
noncomputable def AcF (k:Nat):Dt→Dt
 | .tup ds=>ds.getD k .non
 | _=>.non
theorem Tf {f:I3} {n:Int} {r k:Nat} (hk:k < 3):((DP f n r).map nestD).map (AcF k)=((DP f n r).map fun rs=>rs.getD k []).map Gg:=by
 rw [List.map_map,List.map_map]
 refine List.map_congr_left fun rs hrs=>?_
 obtain ⟨F,_,rfl⟩:=Ii hrs
 obtain rfl | rfl | rfl:k=0∨k=1∨k=2:=by omega
 all_goals rfl
theorem Abe (T:Txt K mg)
  (G_families:Pm P w K mg base 12 "families" Fl ["form","number"] Kc)
  : Pm P w K mg base 13 "heads" Il ["form","number"] QV:=by
 obtain ⟨f,fd,F⟩:=T.t_heads
 refine ⟨f,fd,F,F.fn.okD Acs (by walk_at "lE") fun cdv A outer s H E hr=>⟨_,(Ah (Aq (PK (Gk (sc:=Ai Il) (NN:=["form","number"]) (x:="family") (N:=[]) (sl:=[]) rfl rfl (by decide +kernel)) rfl (Nu (Ag Ae G_families (hr.mono (by decide)) rfl (Aa (dv 0) (Aa (dv 1) Af)))) (fun cl C s0 H0 ex=>(Ab (dv 0) Ac))))),fun ds Q h=>?_⟩⟩
 obtain ⟨⟨f,n⟩,rfl,hP,q⟩:=h
 have hP:Jd f n:=hP
 have q:∀ d,(∃ r:Nat,r≤20∧Sq n.natAbs r∧d=.lst ((DP f n r).map fun rs=>Gg (rs.getD 0 []))∧Eo f n r)→Q d:=q
 walk_at "go"
 refine Qj ?_
 walk_at "rd"
 refine Az (f,n) hP ?_
 rintro _ ⟨r,hr,sr,rfl,al⟩
 have len:=V9 hP hr
 refine Ku ((DP f n r).map nestD) (AcF 0) (fun R hR=>hR) (by rw [List.length_map];exact Ay (by show (DP f n r).length≤1000;omega)) Fg (fun d hd R hR=>?_) ?_
 ·obtain ⟨rs,hrs,rfl⟩:=List.mem_map.mp hd
  obtain ⟨F,_,rfl⟩:=Ii hrs
  unfold inner
  walk_at "rd"
  exact hR
 ·refine q _ ⟨r,hr,sr,?_,al⟩
  have:=Tf (f:=f) (n:=n) (r:=r) (k:=0) (by decide)
  rw [this,List.map_map]
  rfl
structure K5 (f:I3) (n:Int) (p:I2):Prop where
 fam:Jd f n
 v:val f p=n
 bp:B2 8900 p
 bf:B3 800 f
noncomputable def Kd (f:I3) (p:I2) (T:I4):Prop:=∃ u v:Int,AbA p.1 p.2 u v∧u*p.1+v*p.2=((Int.gcd p.1 p.2:Nat):Int)∧T=Aj (CN p.1 p.2 (Int.gcd p.1 p.2:Nat) u v) (1,G6 (mov f (CN p.1 p.2 (Int.gcd p.1 p.2:Nat) u v)),0,1)∧B4 64000 T
theorem Kd.uniq {f:I3} {p:I2} {T U:I4} (A:Kd f p T) (B:Kd f p U):T=U:=by
 obtain ⟨u,v,h1,_,rfl,_⟩:=A
 obtain ⟨u',v',h2,_,rfl,_⟩:=B
 obtain ⟨rfl,rfl⟩:=h1.uniq h2
 rfl
noncomputable abbrev JH:DSp:=spec (fun p:I3 × I2=>[t3 p.1,t2 p.2]) (fun p=>∃ n,K5 p.1 n p.2) fun p d=>∃ T,d=t4 T∧Kd p.1 p.2 T
theorem O7 (T:Txt K mg)
  (G_shares:Pm P w K mg base 2 "shares" Jg ["one","other"] Sh)
  (G_moved:Pm P w K mg base 3 "moved" G7 ["form","turn"] J9)
  (G_put_behind:Pm P w K mg base 1 "put_behind" BK ["one","other"] CK)
  : Pm P w K mg base 4 "turn_to_foot" CZ ["form","point"] JH:=by
 obtain ⟨f,fd,F⟩:=T.t_turn_to_foot
 refine ⟨f,fd,F,F.fn.okD Cp (by walk_at "lE") fun cdv A outer s H E hr=>⟨_,(Ad (Al 2 Cp.nd (Ag Ae G_shares (hr.mono (by decide)) rfl (Aa (Ab (dv 1) Ac) (Aa (Ab (dv 1) Ac) Af)))) (Ad (Al 3 Cp.nd (Ab (dv 2) Ac)) (Ad (Al 4 Cp.nd (Bj (Aa (Ck (Ab (dv 1) Ac) (dv 3)) (Aa (DN (Ab (dv 2) Ac)) (Aa (Ck (Ab (dv 1) Ac) (dv 3)) (Aa (Ab (dv 2) Ac) Af)))))) (Ad (Al 5 Cp.nd (Ag Ae G_moved (hr.mono (by decide)) rfl (Aa (dv 0) (Aa (dv 4) Af)))) (Ad (Al 6 Cp.nd (Am Ac (Ab (dv 5) Ac))) (Ad (Al 7 Cp.nd (Ck (Bv (Hw (Ab (dv 5) Ac) (Ie T.z_abs (Aa (dv 6) Af))) (Ab (dv 5) Ac)) (dv 6))) (Ah (Aq (Ag Ae G_put_behind (hr.mono (by decide)) rfl (Aa (dv 4) (Aa (Bj (Aa Ac (Aa (dv 7) (Aa Ac (Aa Ac Af))))) Af))))))))))),fun ds Q h=>?_⟩⟩
 obtain ⟨⟨f,x,y⟩,rfl,⟨n,hP⟩,q⟩:=h
 have hP:K5 f n (x,y):=hP
 have q:∀ d,(∃ T,d=t4 T∧Kd f (x,y) T)→Q d:=q
 walk_at "go"
 refine Az (x,y) ⟨hP.bp.1.le (by decide),hP.bp.2.le (by decide)⟩ ?_
 rintro _ ⟨u,v,rfl,b,bu,bv,so⟩
 walk_at "rd"
 have bp:=hP.bp
 have n0:=hP.fam.n0
 have hv:val f (x,y)=n:=hP.v
 obtain ⟨g,eg⟩:∃ g:Int,((x.gcd y:Nat):Int)=g:=⟨_,rfl⟩
 have b:u*x+v*y=((x.gcd y:Nat):Int):=b
 have gx:g∣x:=by rw [←eg];exact Int.gcd_dvd_left ..
 have gy:g∣y:=by rw [←eg];exact Int.gcd_dvd_right ..
 have g0:1≤g:=by
  rcases Int.lt_or_le 0 g with z | z
  ·omega
  ·have z0:Int.gcd x y=0:=by omega
   obtain ⟨rfl,rfl⟩:=Int.gcd_eq_zero_iff.mp z0
   exfalso
   apply n0
   rw [←hv]
   simp [val]
 have bg:Bt 8900 g:=by rw [←eg];exact (Ahy (n:=8900) (bp.1.le (by decide)) (bp.2.le (by decide)))
 rw [eg] at b ⊢
 obtain ⟨m,hm,m0,dT0,e1,dT,F,ld⟩:=Tr hv n0 g0 gx gy b
 have bd:∀ {z:Int},Bt 8900 z→g∣z→Bt 8900 (z.fdiv g):=fun {z} bz ⟨k,hk⟩=>by
  rw [hk,Int.mul_fdiv_cancel_left _ (by omega)]
  exact KH (t:=k) (b:=g) (by rw [Int.mul_comm,←hk];exact bz) (by omega)
 have bT0:B4 20000 (CN x y g u v):=⟨(bd bp.1 gx).le (by decide),bv.neg,(bd bp.2 gy).le (by decide),bu⟩
 refine ⟨Bt.divOk bg (by omega),Bt.divOk bg (by omega),Ay (by decide),Ak (f,CN x y g u v) ⟨hP.bf.le (by decide),bT0.le (by decide),dT0⟩ ?_⟩
 have bF:=(B3.mov hP.bf bT0).le (m:=41000) (by decide)
 obtain ⟨G,eG⟩:∃ G,mov f (CN x y g u v)=G:=⟨_,rfl⟩
 dsimp only
 rw [eG] at bF e1 dT F ld ⊢
 walk_at "rd"
 have two:Bt 2 2:=Bt.of_abs (by decide)
 have a0:G.1≠0:=by rw [e1];exact m0
 have ea:(if 2*G.1 < 0 then -(2*G.1) else 2*G.1)=((2*G.1).natAbs:Int):=by split <;> omega
 rw [ea]
 have bk:Bt 41010 (G6 G):=by
  have k:=(U4 a0).1
  have fm:Bt 41003 (G.2.1.fmod (2*G.1).natAbs):=by
   obtain ⟨r1,r2⟩:=(U4 a0).2
   have:=bF.1
   unfold Bt at *
   have e:(2:Nat) ^ 41003=8*2 ^ 41000:=by rw [show 41003=3+41000 from rfl,Nat.pow_add]
   omega
  refine (KH (n:=41005) (t:=G6 G) (b:=2*G.1) ?_ (by omega)).le (by decide)
  have:G6 G*(2*G.1)=G.2.1.fmod (2*G.1).natAbs - G.2.1:=by
   rw [Int.mul_comm]
   omega
  rw [this]
  exact (fm.sub bF.2.1).le (by decide)
 have bm:Bt 10 G.1:=by
  rw [e1]
  have h1:n.natAbs=(g*g).natAbs*m.natAbs:=by rw [←hm,Int.natAbs_mul]
  have h2:1≤(g*g).natAbs:=by
   have:=Int.mul_pos (show 0 < g by omega) (show 0 < g by omega)
   omega
  have h3:1*m.natAbs≤(g*g).natAbs*m.natAbs:=Nat.mul_le_mul_right _ h2
  have h4:=hP.fam.n4
  exact Bt.of (by omega) (by omega)
 refine ⟨two.mulOk bF.1,by omega,Bt.divOk (two.mul bm) (by omega),Ay (by decide),?_⟩
 refine Ak (CN x y g u v,(1,G6 G,0,1)) ⟨bT0.le (by decide),Bt.one.le (by decide),bk.le (by decide),Bt.zero.le (by decide),Bt.one.le (by decide)⟩ (q _ ⟨_,rfl,u,v,so,?_,?_,?_⟩)
 ·show u*x+v*y=((x.gcd y:Nat):Int)
  rw [eg]
  exact b
 ·show Aj (CN x y g u v) (1,G6 G,0,1)=Aj (CN x y ((x.gcd y:Nat):Int) u v) (1,G6 (mov f (CN x y ((x.gcd y:Nat):Int) u v)),0,1)
  rw [eg,eG]
 ·have:B4 41010 (1,G6 G,0,1):=⟨Bt.one.le (by decide),bk,Bt.zero.le (by decide),Bt.one.le (by decide)⟩
  exact (bT0.then this).le (by decide)
structure Du (f:I3) (n:Int) (p:I2) (T:I4) (k:Nat) (F:Fam):Prop where
 to:Kd f p T
 fam:∃ r:Nat,r≤20∧Sq n.natAbs r∧(DP f n r)[k]? = some (Cm F)∧F∈J7 f n r∧∀ m rs,m < k→(DP f n r)[m]? = some rs→rs.getD 1 []≠(Cm F).getD 1 []
 ft:F.2.1=mov f T
 dt:det T=1
 own:det (Aj T (Ax F.2.2))=1∧mov f (Aj T (Ax F.2.2))=f∧B4 260000 (Aj T (Ax F.2.2))
 led:Ij (Aj T (Ax F.2.2)) (F.1*F.2.2.1,F.1*F.2.2.2.2.1)=p
 bh:B2 300000 (F.1*F.2.2.1,F.1*F.2.2.2.2.1)
theorem Qk {F G:Fam} (h:Cm F=Cm G):F.2=G.2:=by
 unfold Cm at h
 simp only [List.cons.injEq,and_true] at h
 obtain ⟨_,⟨a1,a2,a3⟩,b1,b2,b3,b4⟩:=h
 exact Prod.ext (TQ a1 a2 a3) (Prod.ext b1 (Prod.ext b2 (Prod.ext b3 b4)))
theorem Mt {f:I3} {n:Int} {r:Nat} {l:Dt} {F:Fam} (hl:Er f l) (h:F∈J7 f n r):F.1∈IW n r∧F.2.1∈Ez (n.fdiv (F.1*F.1)) (meas f)∧Oc f F.2.1=some F.2.2∧det F.2.2=1∧mov f F.2.2=F.2.1∧B4 190000 F.2.2:=by
 unfold J7 at h
 obtain ⟨g,hg,h⟩:=List.mem_flatMap.mp h
 unfold Mr JX at h
 obtain ⟨foot,hf,h⟩:=List.mem_filterMap.mp h
 obtain ⟨t,ht,rfl⟩:=Option.map_eq_some_iff.mp h
 exact ⟨hg,hf,ht,Xv hl ht⟩
theorem Aa2 {f:I3} {n g m:Int} {r:Nat} {h:I3} {t:I4} (g0:1≤g) (e:g*g*m=n) (n0:n≠0) (hr:Sq n.natAbs r) (m0:m≠0) (F:ZS m (meas f) h) (w:Oc f h=some t):(g,h,t)∈J7 f n r:=by
 obtain ⟨h1,h2⟩:=Uo g0 e n0 hr
 refine List.mem_flatMap.mpr ⟨g,h1,?_⟩
 unfold Mr JX
 rw [h2]
 exact List.mem_filterMap.mpr ⟨h,(GF m0).mpr F,by rw [w];rfl⟩
theorem WQ {α:Type} {P:α→Prop}:∀ {l:List α} {a:α},a∈l→P a→∃ (k:Nat) (b:α),l[k]? = some b∧P b∧∀ (m:Nat) (c:α),m < k→l[m]? = some c→¬ P c
 | [],_,h,_=>by cases h
 | x :: l,a,h,p=>by
  by_cases hx:P x
  ·exact ⟨0,x,rfl,hx,fun m c hm _=>absurd hm (by omega)⟩
  ·rcases List.mem_cons.mp h with rfl | h
   ·exact absurd p hx
   ·obtain ⟨k,b,h1,h2,h3⟩:=WQ h p
    refine ⟨k+1,b,h1,h2,fun m c hm e=>?_⟩
    match m,e with
    | 0,e=>cases e;exact hx
    | m+1,e=>exact h3 m c (by omega) e
theorem g_same {g g' m:Int} (h:1≤g) (h':1≤g') (m0:m≠0) (e:g*g*m=g'*g'*m):g=g':=by
 have e:=Int.eq_of_mul_eq_mul_right m0 e
 rcases Int.lt_trichotomy g g' with z | z | z
 ·have:=Int.mul_lt_mul' (show g≤g' by omega) z (by omega) (by omega)
  omega
 ·exact z
 ·have:=Int.mul_lt_mul' (show g'≤g by omega) z (by omega) (by omega)
  omega
theorem Aaf {f:I3} {n:Int} {p:I2} {T:I4} {r:Nat} (hP:K5 f n p) (al:Eo f n r) (hr:r≤20) (sr:Sq n.natAbs r) (to:Kd f p T):∃ k F,Du f n p T k F∧(DP f n r)[k]? = some (Cm F)∧∀ m rs,m < k→(DP f n r)[m]? = some rs→rs.getD 1 []≠(Cm F).getD 1 []:=by
 obtain ⟨l,hl,al⟩:=al
 obtain ⟨x,y⟩:=p
 obtain ⟨u,v,so,b,eT,bT⟩:=to
 have n0:=hP.fam.n0
 have hv:val f (x,y)=n:=hP.v
 obtain ⟨g,eg⟩:∃ g:Int,((x.gcd y:Nat):Int)=g:=⟨_,rfl⟩
 dsimp only at b eT
 have gx:g∣x:=by rw [←eg];exact Int.gcd_dvd_left ..
 have gy:g∣y:=by rw [←eg];exact Int.gcd_dvd_right ..
 have g0:1≤g:=by
  rcases Int.lt_or_le 0 g with z | z
  ·omega
  ·have z0:Int.gcd x y=0:=by omega
   obtain ⟨rfl,rfl⟩:=Int.gcd_eq_zero_iff.mp z0
   exfalso
   apply n0
   rw [←hv]
   simp [val]
 rw [eg] at b eT
 obtain ⟨m,hm,m0,dT0,e1,dT,F,ld⟩:=Tr hv n0 g0 gx gy b
 rw [←eT] at dT F ld
 have hw:∃ t,Oc f (mov f T)=some t:=by
  cases hq:Oc f (mov f T) with
  | some t=>exact ⟨t,rfl⟩
  | none =>
   exfalso
   obtain ⟨s1,s2⟩:=Uo g0 hm n0 sr
   obtain ⟨w,W⟩:=al g s1 (mov f T) (by rw [s2];exact (GF m0).mpr F)
   have ew:=Uw hl W
   rw [hq] at ew
   dsimp only at ew
   subst ew
   rcases W with ⟨ne,_⟩ | ⟨_,g1,t1,g2,t2,e1,h2,e3⟩
   ·exact ne (Br dT).symm
   ·obtain ⟨g1',t1',e1',L1,_⟩:=Ou hl
    rw [e1] at e1'
    obtain ⟨rfl,rfl⟩:=Ey e1'
    obtain ⟨g2',t2',e2',L2,_⟩:=Ou h2
    obtain ⟨rfl,rfl⟩:=Ey e2'
    have es:g1=g2:=L1.same L2 dT rfl
    rw [if_pos es] at e3
    cases e3
 obtain ⟨t,hw⟩:=hw
 have hmem:=Aa2 g0 hm n0 sr m0 F hw
 have hin:Cm (g,mov f T,t)∈DP f n r:=(HY _).mem_iff.mpr (List.mem_map.mpr ⟨_,hmem,rfl⟩)
 obtain ⟨k,rs,hk,hp,before⟩:=WQ (P:=fun rs=>rs.getD 1 []=(Cm (g,mov f T,t)).getD 1 []) hin rfl
 obtain ⟨G,hG,rfl⟩:=Ii (List.mem_of_getElem? hk)
 obtain ⟨m1,m2,m3,m4,m5,m6⟩:=Mt hl hG
 have ef:G.2.1=mov f T:=by
  have hp:[G.2.1.1,G.2.1.2.1,G.2.1.2.2]=[(mov f T).1,(mov f T).2.1,(mov f T).2.2]:=hp
  simp only [List.cons.injEq,and_true] at hp
  exact TQ hp.1 hp.2.1 hp.2.2
 obtain ⟨q1,q2,q3⟩:=FZ.mp m1
 have eG:G.1*G.1*n.fdiv (G.1*G.1)=n:=N6 (by omega) q3
 have mG:n.fdiv (G.1*G.1)=m:=by
  have z0:n.fdiv (G.1*G.1)≠0:=fun z=>n0 (by rw [←eG,z];omega)
  have:=((GF z0).mp m2).a
  rw [←this,ef]
  exact F.a
 rw [mG] at eG
 have gg:G.1=g:=g_same q1 g0 m0 (eG.trans hm.symm)
 have bg6:Bt 6 G.1:=Bt.of (by omega) (by omega)
 have bh:B2 300000 (G.1*G.2.2.1,G.1*G.2.2.2.2.1):=⟨(bg6.mul m6.1).le (by decide),(bg6.mul m6.2.2.1).le (by decide)⟩
 have own1:det (Aj T (Ax G.2.2))=1:=by rw [BP,Dg,dT,m4];rfl
 refine ⟨k,G,⟨⟨u,v,so,by rw [eg];exact b,by rw [eg];exact eT,bT⟩,⟨r,hr,sr,hk,hG,fun j rs hj e=>fun z=>before j rs hj e (z.trans hp)⟩,ef,dT,⟨own1,?_,?_⟩,?_,bh⟩,hk,fun j rs hj e=>fun z=>before j rs hj e (z.trans hp)⟩
 ·rw [←Bf,←ef,←m5,Bq m4]
 ·exact (bT.then m6.back).le (by decide)
 ·rw [Wv]
  have:Ij (Ax G.2.2) (G.1*G.2.2.1,G.1*G.2.2.2.2.1)=(G.1,0):=by
   have e:=VG (t:=G.2.2) (p:=(G.1,0)) m4
   have e2:Ij G.2.2 (G.1,0)=(G.1*G.2.2.1,G.1*G.2.2.2.2.1):=by
    simp only [Ij,Prod.mk.injEq]
    refine ⟨by grind,by grind⟩
   rw [e2] at e
   exact e
  rw [this,gg]
  exact ld
noncomputable abbrev NZ:DSp:=spec (fun p:I3 × Int × I2=>[t3 p.1,.int p.2.1,t2 p.2.2]) (fun p=>K5 p.1 p.2.1 p.2.2) fun p d=>∃ T k F,Du p.1 p.2.1 p.2.2 T k F∧d=.tup [.int (k:Nat),t4 (Aj T (Ax F.2.2))]
theorem ZW (T:Txt K mg)
  (G_families:Pm P w K mg base 12 "families" Fl ["form","number"] Kc)
  (G_turn_to_foot:Pm P w K mg base 4 "turn_to_foot" CZ ["form","point"] JH)
  (G_value:Pm P w K mg base 1 "value" JG ["form","point"] QF)
  (G_moved:Pm P w K mg base 3 "moved" G7 ["form","turn"] J9)
  (G_put_behind:Pm P w K mg base 1 "put_behind" BK ["one","other"] CK)
  (G_back:Pm P w K mg base 3 "back" J3 ["turn"] Pz)
  : Pm P w K mg base 13 "whence" GD ["form","number","point"] NZ:=by
 obtain ⟨f,fd,F⟩:=T.t_whence
 refine ⟨f,fd,F,F.fn.okD Kw (by walk_at "lE") fun cdv A outer s H E hr=>⟨_,(Ad (Al 3 Kw.nd (Ag Ae G_families (hr.mono (by decide)) rfl (Aa (dv 0) (Aa (dv 1) Af)))) (Ad (BZ (Fy hr.units (Ag Ae G_value (hr.mono (by decide)) rfl (Aa (dv 0) (Aa (dv 2) Af))) (dv 1)) (Ah FN) Bg) (Ad (Al 4 Kw.nd (Ag Ae G_turn_to_foot (hr.mono (by decide)) rfl (Aa (dv 0) (Aa (dv 2) Af)))) (Ad (Al 5 Kw.nd (Aaa hr.units (Ajq hr.units) (PK (Gk (sc:=Ai GD) (NN:=["form","number","point","found","turn","place"]) (x:="family") (N:=[]) (sl:=[]) rfl rfl (by decide +kernel)) rfl (Nu (dv 3)) (fun cl C s0 H0 ex=>(Ab (dv 0) Ac))) (Ag Ae G_moved (hr.mono (by decide)) rfl (Aa (dv 0) (Aa (dv 4) Af))))) (Ah (Aq (Bj (Aa (dv 5) (Aa (Ag Ae G_put_behind (hr.mono (by decide)) rfl (Aa (dv 4) (Aa (Ag Ae G_back (hr.mono (by decide)) rfl (Aa (Ab (Ab (dv 3) (dv 5)) Ac) Af)) Af))) Af))))))))),fun ds Q h=>?_⟩⟩
 obtain ⟨⟨f,n,p⟩,rfl,hP,q⟩:=h
 have hP:K5 f n p:=hP
 have q:∀ d,(∃ T k F,Du f n p T k F∧d=.tup [.int (k:Nat),t4 (Aj T (Ax F.2.2))])→Q d:=q
 walk_at "go"
 refine Az (f,n) hP.fam ?_
 rintro _ ⟨r,hr,sr,rfl,al⟩
 have al:Eo f n r:=al
 have sr:Sq n.natAbs r:=sr
 refine Ak (f,p) ⟨hP.bf.le (by decide),hP.bp.1.le (by decide),hP.bp.2.le (by decide)⟩ ?_
 walk_at "rd"
 refine Dm (by rw [hP.v,decide_eq_true rfl];rfl) (Az (f,p) ⟨n,hP⟩ ?_)
 rintro _ ⟨T,rfl,to⟩
 have to:Kd f p T:=to
 obtain ⟨k,F,W,hk,before⟩:=Aaf hP al hr sr to
 have len:=V9 hP.fam hr
 walk_at "rd"
 obtain ⟨hkl,_⟩:=List.getElem?_eq_some_iff.mp hk
 refine Ku ((DP f n r).map nestD) (AcF 1) (fun R hR=>hR) (by rw [List.length_map];exact Ay (by omega)) Fg (fun d hd R hR=>?_) ?_
 ·obtain ⟨rs,hrs,rfl⟩:=List.mem_map.mp hd
  obtain ⟨G,_,rfl⟩:=Ii hrs
  unfold inner
  walk_at "rd"
  exact hR
 ·rw [Tf (by decide)]
  have bT:B4 64000 T:=by
   obtain ⟨_,_,_,_,_,z⟩:=to
   exact z
  refine ⟨(DP f n r).map fun rs=>rs.getD 1 [],rfl,Ak (f,T) ⟨hP.bf.le (by decide),bT.le (by decide),W.dt⟩ ⟨[(mov f T).1,(mov f T).2.1,(mov f T).2.2],k,rfl,by rw [List.length_map];exact hkl,?_,fun j hj=>?_,?_⟩⟩
  ·rw [List.getD_eq_getElem?_getD,List.getElem?_map,hk,←W.ft]
   rfl
  ·obtain ⟨rs,hrs⟩:∃ rs,(DP f n r)[j]? = some rs:=⟨_,List.getElem?_eq_getElem (by omega)⟩
   rw [List.getD_eq_getElem?_getD,List.getElem?_map,hrs,←W.ft]
   exact before j rs hj hrs
  ·obtain ⟨d,e1,_,e3⟩:=Ab3 (ds:=(DP f n r).map nestD) (k:=(k:Int)) (by omega) (by rw [List.length_map];omega)
   rw [Int.toNat_natCast,List.getElem?_map,hk] at e3
   cases e3
   rw [e1]
   walk_at "rd"
   obtain ⟨l,hl,_⟩:=al
   obtain ⟨r',_,_,_,hF,_⟩:=W.fam
   obtain ⟨_,_,_,dF,_,bF⟩:=Mt hl hF
   refine Ak F.2.2 ⟨bF.le (by decide),dF⟩ (Ak (T,Ax F.2.2) ⟨bT.le (by decide),bF.back.le (by decide)⟩ ⟨Ay (by decide),q _ ⟨T,k,F,W,rfl⟩⟩)
theorem Du.uniq {f:I3} {n:Int} {p:I2} {T T':I4} {k k':Nat} {F F':Fam} (A:Du f n p T k F) (B:Du f n p T' k' F'):T=T'∧k=k'∧F.2.2=F'.2.2:=by
 have eT:=A.to.uniq B.to
 subst eT
 obtain ⟨r,hr,sr,h1,h2,h3⟩:=A.fam
 obtain ⟨r',hr',sr',h1',h2',h3'⟩:=B.fam
 obtain rfl:r=r':=by have:(r:Int)=r':=sr.uniq sr';omega
 have ef:(Cm F).getD 1 []=(Cm F').getD 1 []:=by
  show [F.2.1.1,F.2.1.2.1,F.2.1.2.2]=[F'.2.1.1,F'.2.1.2.1,F'.2.1.2.2]
  rw [A.ft,B.ft]
 have ek:k=k':=by
  rcases Nat.lt_trichotomy k k' with z | z | z
  ·exact absurd ef (h3' k _ z h1)
  ·exact z
  ·exact absurd ef.symm (h3 k' _ z h1')
 subst ek
 rw [h1] at h1'
 have:=Qk (Option.some.inj h1')
 exact ⟨rfl,rfl,congrArg Prod.snd this⟩
theorem Du.place {f:I3} {n:Int} {p p':I2} {T T':I4} {k k':Nat} {F F':Fam} (A:Du f n p T k F) (B:Du f n p' T' k' F') (e:mov f T=mov f T'):k=k'∧F.2.2=F'.2.2:=by
 obtain ⟨r,hr,sr,h1,h2,h3⟩:=A.fam
 obtain ⟨r',hr',sr',h1',h2',h3'⟩:=B.fam
 obtain rfl:r=r':=by have:(r:Int)=r':=sr.uniq sr';omega
 have ef:(Cm F).getD 1 []=(Cm F').getD 1 []:=by
  show [F.2.1.1,F.2.1.2.1,F.2.1.2.2]=[F'.2.1.1,F'.2.1.2.1,F'.2.1.2.2]
  rw [A.ft,B.ft,e]
 have ek:k=k':=by
  rcases Nat.lt_trichotomy k k' with z | z | z
  ·exact absurd ef (h3' k _ z h1)
  ·exact z
  ·exact absurd ef.symm (h3 k' _ z h1')
 subst ek
 rw [h1] at h1'
 have:=Qk (Option.some.inj h1')
 exact ⟨rfl,congrArg Prod.snd this⟩
theorem YT (m D:Int):∀ n,(mids m D n).Pairwise (· < ·)
 | 0=>List.Pairwise.nil
 | n+1=>by
  rw [mids,List.pairwise_append]
  refine ⟨YT m D n,by split <;> simp,fun a ha b hb=>?_⟩
  obtain ⟨_,h2,_⟩:=Hv.mp ha
  split at hb
  ·simp only [List.mem_singleton] at hb
   omega
  ·cases hb
theorem Yq (n:Int):∀ r,(IW n r).Pairwise (· < ·)
 | 0=>List.Pairwise.nil
 | r+1=>by
  rw [IW,List.pairwise_append]
  refine ⟨Yq n r,by split <;> simp,fun a ha b hb=>?_⟩
  obtain ⟨_,h2,_⟩:=FZ.mp ha
  split at hb
  ·simp only [List.mem_singleton] at hb
   omega
  ·cases hb
theorem Yp {f:I3} {n:Int} {r:Nat} (n0:n≠0):(J7 f n r).Pairwise fun F G=>F.2.1≠G.2.1:=by
 unfold J7
 rw [List.pairwise_flatMap]
 refine ⟨fun g hg=>?_,?_⟩
 ·unfold Mr JX Ez
  rw [List.pairwise_filterMap,List.pairwise_map]
  refine (YT _ _ _).imp fun {a b} hab x hx y hy e=>?_
  obtain ⟨t,_,rfl⟩:=Option.map_eq_some_iff.mp hx
  obtain ⟨t',_,rfl⟩:=Option.map_eq_some_iff.mp hy
  have:a=b:=congrArg (fun z:I3=>z.2.1) e
  omega
 ·refine List.Pairwise.imp_of_mem (R:=(· < ·)) (fun {a b} ha hb hab x hx y hy e=>?_) (Yq n r)
  obtain ⟨a1,_,a3⟩:=FZ.mp ha
  obtain ⟨b1,_,b3⟩:=FZ.mp hb
  have ea:=N6 (by omega) a3
  have eb:=N6 (by omega) b3
  have ma:n.fdiv (a*a)≠0:=fun z=>n0 (by rw [←ea,z];omega)
  have mb:n.fdiv (b*b)≠0:=fun z=>n0 (by rw [←eb,z];omega)
  unfold Mr JX at hx hy
  obtain ⟨h,hh,hx⟩:=List.mem_filterMap.mp hx
  obtain ⟨t,_,rfl⟩:=Option.map_eq_some_iff.mp hx
  obtain ⟨h',hh',hy⟩:=List.mem_filterMap.mp hy
  obtain ⟨t',_,rfl⟩:=Option.map_eq_some_iff.mp hy
  have e:h=h':=e
  subst e
  have e1:=((GF ma).mp hh).a
  have e2:=((GF mb).mp hh').a
  have em:n.fdiv (a*a)=n.fdiv (b*b):=e1.symm.trans e2
  rw [←em] at eb
  have:=g_same a1 b1 ma (ea.trans eb.symm)
  omega
theorem Xp {f:I3} {n:Int} {r i j:Nat} {F G:Fam} (n0:n≠0) (hi:(DP f n r)[i]? = some (Cm F)) (hj:(DP f n r)[j]? = some (Cm G)) (e:F.2.1=G.2.1):i=j:=by
 have p:(DP f n r).Pairwise fun x y=>x.getD 1 []≠y.getD 1 []:=by
  unfold DP
  rw [(HY _).pairwise_iff (fun h=>h.symm),List.pairwise_map]
  refine (Yp n0).imp fun {a b} h z=>h ?_
  have z:[a.2.1.1,a.2.1.2.1,a.2.1.2.2]=[b.2.1.1,b.2.1.2.1,b.2.1.2.2]:=z
  simp only [List.cons.injEq,and_true] at z
  exact TQ z.1 z.2.1 z.2.2
 rw [List.pairwise_iff_getElem] at p
 obtain ⟨hi1,hi2⟩:=List.getElem?_eq_some_iff.mp hi
 obtain ⟨hj1,hj2⟩:=List.getElem?_eq_some_iff.mp hj
 have ee:(Cm F).getD 1 []=(Cm G).getD 1 []:=by
  show [F.2.1.1,F.2.1.2.1,F.2.1.2.2]=[G.2.1.1,G.2.1.2.1,G.2.1.2.2]
  rw [e]
 rcases Nat.lt_trichotomy i j with z | z | z
 ·exact absurd ee (by have:=p i j hi1 hj1 z;rw [hi2,hj2] at this;exact this)
 ·exact z
 ·exact absurd ee.symm (by have:=p j i hj1 hi1 z;rw [hi2,hj2] at this;exact this)
theorem AhY {f:I3} {n:Int} {p:I2} {r:Nat} (hv:val f p=n) (n0:n≠0) (al:Eo f n r) (sr:Sq n.natAbs r):J7 f n r≠[]:=by
 obtain ⟨l,hl,al⟩:=al
 obtain ⟨x,y⟩:=p
 obtain ⟨u,v,b⟩:=bez _ x y (Nat.le_refl _)
 obtain ⟨g,eg⟩:∃ g:Int,((x.gcd y:Nat):Int)=g:=⟨_,rfl⟩
 have gx:g∣x:=by rw [←eg];exact Int.gcd_dvd_left ..
 have gy:g∣y:=by rw [←eg];exact Int.gcd_dvd_right ..
 have g0:1≤g:=by
  rcases Int.lt_or_le 0 g with z | z
  ·omega
  ·have z0:Int.gcd x y=0:=by omega
   obtain ⟨rfl,rfl⟩:=Int.gcd_eq_zero_iff.mp z0
   exfalso
   apply n0
   rw [←hv]
   simp [val]
 rw [eg] at b
 obtain ⟨m,hm,m0,_,_,dT,F,_⟩:=Tr hv n0 g0 gx gy b
 generalize Aj (CN x y g u v) (1,G6 (mov f (CN x y g u v)),0,1)=T at *
 obtain ⟨s1,s2⟩:=Uo g0 hm n0 sr
 obtain ⟨w,W⟩:=al g s1 (mov f T) (by rw [s2];exact (GF m0).mpr F)
 have ew:=Uw hl W
 cases hq:Oc f (mov f T) with
 | some t=>exact fun z=>by have:=Aa2 g0 hm n0 sr m0 F hq;rw [z] at this;cases this
 | none =>
  exfalso
  rw [hq] at ew
  dsimp only at ew
  subst ew
  rcases W with ⟨ne,_⟩ | ⟨_,g1,t1,g2,t2,e1,h2,e3⟩
  ·exact ne (Br dT).symm
  ·obtain ⟨g1',t1',e1',L1,_⟩:=Ou hl
   rw [e1] at e1'
   obtain ⟨rfl,rfl⟩:=Ey e1'
   obtain ⟨g2',t2',e2',L2,_⟩:=Ou h2
   obtain ⟨rfl,rfl⟩:=Ey e2'
   have es:g1=g2:=L1.same L2 dT rfl
   rw [if_pos es] at e3
   cases e3
theorem AdU {f:I3} {n:Int} {r:Nat} {F:Fam} (al:Eo f n r) (n0:n≠0) (hF:F∈J7 f n r):val f (F.1*F.2.2.1,F.1*F.2.2.2.2.1)=n:=by
 obtain ⟨l,hl,_⟩:=al
 obtain ⟨m1,m2,m3,m4,m5,_⟩:=Mt hl hF
 obtain ⟨g1,g2,g3⟩:=FZ.mp m1
 have eg:=N6 (by omega) g3
 have m0:n.fdiv (F.1*F.1)≠0:=fun z=>n0 (by rw [←eg,z];omega)
 have ha:=((GF m0).mp m2).a
 rw [←m5] at ha
 have ha:val f (F.2.2.1,F.2.2.2.2.1)=n.fdiv (F.1*F.1):=ha
 rw [←eg,←ha]
 simp only [val]
 grind
noncomputable abbrev NQ (n f:Int) (i:Nat):Dt:=t3 (rowAt n f i)
noncomputable abbrev M5 (n f:Int) (L:Nat):Dt:=.lst ((List.range (L+1)).map (NQ n f))
noncomputable def Num (n:Int):Prop:=2≤n∧n≤1000∧¬ Jy n
theorem Num.bt {n:Int} (h:Num n):Bt 11 n:=Bt.of (by have:=h.1;omega) (by have:=h.2.1;omega)
theorem Num.chain {n f:Int} (h:Num n) (hr:Sq n f):∃ L,Aw n f L:=Uy hr h.1 h.2.1 fun e=>h.2.2 ⟨f,e⟩
theorem Aw.uniq {n f f':Int} {L L':Nat} (A:Aw n f L) (B:Aw n f' L'):f=f'∧L=L':=by
 have e:=A.r.uniq B.r
 subst e
 refine ⟨rfl,?_⟩
 have a0:=A.l0
 have b0:=B.l0
 rcases Nat.lt_trichotomy L L' with z | z | z
 ·exact absurd A.e (B.l L a0 z)
 ·exact z
 ·exact absurd B.e (A.l L' b0 z)
theorem Aw.bt {n f:Int} {L:Nat} (C:Aw n f L) (j:Nat):B3 7 (rowAt n f j):=by
 have ⟨h1,h2,h3,h4,h5,h6⟩:=C.small j
 exact ⟨Bt.of (by omega) (by omega),Bt.of (by omega) (by omega),Bt.of (by omega) (by omega)⟩
theorem Uj {n f:Int} {L:Nat} {k:Int} (h0:0≤k) (h1:k≤L):ixD k (M5 n f L)=some (NQ n f k.toNat):=by
 obtain ⟨d,e1,e2,e3⟩:=Ab3 (ds:=(List.range (L+1)).map (NQ n f)) h0 (by rw [List.length_map,List.length_range];omega)
 rw [e1,←e3,List.getElem?_map,List.getElem?_range (by omega)]
 rfl
noncomputable abbrev JR:DSp:=BR (fun n:Int=>[.int n]) Num fun _=>.non
noncomputable abbrev Je:DSp:=BR (fun p:I3 × I2=>[t3 p.1,.int p.2.1,.int p.2.2]) (fun p=>B3 7 p.1∧Bt 11 p.2.1∧p.1.2.1≠0∧(Od p.2.1 p.2.2 p.1).2.1≠0∧Bt 7 (Od p.2.1 p.2.2 p.1).2.1) fun p=>t3 (Od p.2.1 p.2.2 p.1)
noncomputable abbrev Jm:DSp:=spec (fun n:Int=>[.int n]) Num fun n d=>∃ f L,Aw n f L∧d=M5 n f L
theorem AcI {n f:Int} {L:Nat} (C:Aw n f L) (hn:Bt 11 n) (i:Nat) {Q:Dt→Prop} (q:Q (NQ n f (i+1))):Je [NQ n f i,.int n,.int f] Q:=by
 have h:=C.small (i+1)
 have g:=C.small i
 exact Ak (rowAt n f i,n,f) ⟨C.bt i,hn,by show (rowAt n f i).2.1≠0;omega,by show (rowAt n f (i+1)).2.1≠0;omega,(C.bt (i+1)).2.1⟩ q
theorem O1 (T:Txt K mg)
  (G_check_at_most:Pm P w K mg base 1 "check_at_most" BL ["number","most"] Ec)
  (G_is_square:Pm P w K mg base 2 "is_square" Ea ["number"] JB)
  : Pm P w K mg base 3 "check_number" Dl ["number"] JR:=by
 obtain ⟨f,fd,F⟩:=T.t_check_number
 obtain ⟨t_MOST_NUMBER_chains,m_MOST_NUMBER_chains⟩:=T.m_MOST_NUMBER_chains
 refine ⟨f,fd,F,F.fn.okD Pb (by walk_at "lE") fun cdv A outer s H E hr=>⟨_,(Ad (BZ (DW.dt (G5 (M4 (dv 0) Ac) (Jw (Fj (Ag Ae G_is_square (hr.mono (by decide)) rfl (Aa (dv 0) Af)))))) (Ah FN) Bg) (Ah (FW (Ag Ae G_check_at_most (hr.mono (by decide)) rfl (Aa (dv 0) (Aa (Kq (v:=.int (1000)) (d:=.int (1000)) rfl m_MOST_NUMBER_chains ⟨_,rfl⟩ (fun _=>Bb.mpr rfl)) Af)))))),fun ds Q h=>?_⟩⟩
 obtain ⟨n,rfl,h0,q⟩:=h
 have h0:Num n:=h0
 have q':=q _ rfl
 walk_at "go"
 refine Dm (decide_eq_false (by have:=h0.1;omega)) (Az n (h0.bt.le (by decide)) ?_)
 rintro _ ⟨b,rfl,hb⟩
 have e:b=false:=Bool.eq_false_iff.mpr fun z=>h0.2.2 (hb.mp z)
 subst e
 walk_at "rd"
 exact Ak (n,1000) h0.2.1 q'
theorem Ru (T:Txt K mg)
  : Pm P w K mg base 1 "row_behind" Eh ["row","number","far"] Je:=by
 obtain ⟨f,fd,F⟩:=T.t_row_behind
 refine ⟨f,fd,F,F.fn.okD IK (by walk_at "lE") fun cdv A outer s H E hr=>⟨_,(Ad (Al 3 IK.nd (Bv (Am (Ab (dv 0) Ac) (Ab (dv 0) Ac)) (Ab (dv 0) Ac))) (Ad (Al 4 IK.nd (Ck (Bv (dv 1) (Am (dv 3) (dv 3))) (Ab (dv 0) Ac))) (Ah (Aq (Bj (Aa (dv 3) (Aa (dv 4) (Aa (Ck (Bm (dv 2) (dv 3)) (dv 4)) Af)))))))),fun ds Q h=>?_⟩⟩
 obtain ⟨⟨⟨P',Q',a⟩,n,f⟩,rfl,⟨⟨h1,h2,h3⟩,hn,q0,r0,rb⟩,q⟩:=h
 have q':=q _ rfl
 dsimp only [Od] at *
 have hp:Bt 20 (a*Q' - P'):=((h3.mul h2).sub h1).le (by decide)
 walk_at "go"
 generalize a*Q' - P'=p at *
 exact ⟨h3.mulOk h2,hp.mulOk hp,Bt.divOk h2 q0,Bt.divOk rb r0,Ay (by decide),q'⟩
theorem AaR (T:Txt K mg)
  (G_check_number:Pm P w K mg base 3 "check_number" Dl ["number"] JR)
  (G_root:Pm P w K mg base 1 "root" Ja ["number"] Kr)
  (G_row_behind:Pm P w K mg base 1 "row_behind" Eh ["row","number","far"] Je)
  : Pm P w K mg base 4 "chain" Gx ["number"] Jm:=by
 obtain ⟨f,fd,F⟩:=T.t_chain
 refine ⟨f,fd,F,F.fn.okD QL (by walk_at "lE") fun cdv A outer s H E hr=>⟨_,(Ad (FW (Ag Ae G_check_number (hr.mono (by decide)) rfl (Aa (dv 0) Af))) (Ad (Al 1 QL.nd (Ag Ae G_root (hr.mono (by decide)) rfl (Aa (dv 0) Af))) (Ad (W4 2 QL.nd (Aa (Bj (Aa Ac (Aa Ac (Aa (dv 1) Af)))) Af)) (Ad (Q5 2 (Ag Ae G_row_behind (hr.mono (by decide)) rfl (Aa (XM 2 Ac) (Aa (dv 0) (Aa (dv 1) Af))))) (Ad (Ew PassesOwn.never (Fy hr.units (Ab (XM 2 (DN Ac)) Ac) Ac) (Ah (Q5 2 (Ag Ae G_row_behind (hr.mono (by decide)) rfl (Aa (XM 2 (DN Ac)) (Aa (dv 0) (Aa (dv 1) Af))))))) (Ah (Xl 2 (Aq (dv 2))))))))),fun ds Q h=>?_⟩⟩
 obtain ⟨n,rfl,h0,q⟩:=h
 have h0:Num n:=h0
 have hn:=h0.bt
 walk_at "go"
 refine Ak n h0 (Az n ⟨by have:=h0.1;omega,hn.le (by decide)⟩ ?_)
 rintro _ ⟨f,rfl,hr',hfb⟩
 obtain ⟨L,C⟩:=h0.chain hr'
 walk_at "rd"
 have l0:=C.l0
 have lm:=C.lm
 have e0:T3 0 1 f=NQ n f 0:=rfl
 refine ⟨Ay (by decide),Ay (by decide),?_⟩
 refine AcI C hn 0 ⟨Pq (by show 1≤9000;decide),?_⟩
 have las:∀ i:Nat,ixL (-1) ((List.range (i+1)).map (NQ n f))=some (NQ n f i):=fun i=>by
  show (if 0 < ((List.range (i+1)).map (NQ n f)).length then ((List.range (i+1)).map (NQ n f))[((List.range (i+1)).map (NQ n f)).length - 1 - 0]? else none)=_
  simp
 refine Es (fun m ρ=>∃ i:Nat,1≤i∧i≤L∧ρ=[some (.is (.int n)),some (.is (.int f)),some (.own ((List.range (i+1)).map (NQ n f)))]∧m=L - i) _ ⟨1,by omega,by omega,rfl,rfl⟩ ?_
 rintro m _ ⟨i,i1,iN,rfl,rfl⟩
 walk_at "rd"
 rw [las i]
 walk_at "rd"
 have hl:((List.range (i+1)).map (NQ n f)).length < sizeLine:=by rw [List.length_map,List.length_range];exact Pq (by omega)
 refine MP (fun hw=>?_) (fun hw=>?_)
 ·have hi:i < L:=by
   rcases Nat.lt_or_ge i L with z | z
   ·exact z
   ·exfalso
    have:i=L:=by omega
    subst this
    rw [C.e] at hw
    simp at hw
  refine AcI C hn i ⟨?_,L - (i+1),by omega,i+1,by omega,by omega,?_,rfl⟩
  ·rw [List.length_range];exact Pq (by omega)
  ·rw [List.range_succ (n:=i+1),List.map_append];rfl
 ·have hi:i=L:=by
   rcases Nat.lt_or_ge i L with z | z
   ·exfalso
    refine C.l i (by omega) z ?_
    simpa using hw
   ·omega
  subst hi
  exact q _ ⟨f,i,C,rfl⟩
noncomputable abbrev Lb:DSp:=BR (fun p:(Int × Int × Nat) × Int=>[M5 p.1.1 p.1.2.1 p.1.2.2,.int p.2]) (fun p=>Aw p.1.1 p.1.2.1 p.1.2.2∧0≤p.2) fun p=>.int (rowAt p.1.1 p.1.2.1 p.2.toNat).2.2
theorem Aa7 {L:Nat} {k:Int} (h:0 < k) (l0:0 < L):0≤1+(k - 1).fmod (L:Int)∧1+(k - 1).fmod (L:Int)≤L∧(1+(k - 1).fmod (L:Int)).toNat=1+(k.toNat - 1) % L:=by
 obtain ⟨K,rfl⟩:=Int.eq_ofNat_of_zero_le (show 0≤k by omega)
 have e:((K:Int) - 1).fmod (L:Int)=(((K - 1) % L:Nat):Int):=by
  have:(K:Int) - 1=((K - 1:Nat):Int):=by omega
  rw [this,Int.fmod_eq_emod_of_nonneg _ (by omega)]
  exact (Int.natCast_emod _ _).symm
 rw [e]
 have:=Nat.mod_lt (K - 1) l0
 rw [Int.toNat_natCast]
 generalize (K - 1) % L=m at *
 omega
theorem XS (T:Txt K mg)
  : Pm P w K mg base 1 "part_of" Gn ["rows","k"] Lb:=by
 obtain ⟨f,fd,F⟩:=T.t_part_of
 refine ⟨f,fd,F,F.fn.okD Xa (by walk_at "lE") fun cdv A outer s H E hr=>⟨_,(Ad (BZ (JQ hr.units (dv 1) Ac) (Ah (Aq (Ab (Ab (dv 0) Ac) Ac))) Bg) (Ah (Aq (Ab (Ab (dv 0) (Bm Ac (Hw (Bv (dv 1) Ac) (Bv (Ka T.z_len (Aa (dv 0) Af)) Ac)))) Ac)))),fun ds Q h=>?_⟩⟩
 obtain ⟨⟨⟨n,f,L⟩,k⟩,rfl,⟨C,h0⟩,q⟩:=h
 have C:Aw n f L:=C
 have h0:0≤k:=h0
 have l0:=C.l0
 have lm:=C.lm
 walk_at "go"
 refine MP (fun hk=>?_) (fun hk=>?_)
 ·have hk:k=0:=by simpa using hk
  subst hk
  rw [Uj (k:=0) (by omega) (by omega)]
  exact q _ rfl
 ·have hk:k≠0:=by simpa using hk
  obtain ⟨r1,r2,r3⟩:=Aa7 (k:=k) (by omega) l0
  rw [List.length_range]
  have el:((L+1:Nat):Int) - 1=(L:Int):=by omega
  rw [el,Uj r1 r2]
  walk_at "rd"
  refine ⟨by omega,q _ ?_⟩
  show Dt.int _=Dt.int _
  rw [C.mod k.toNat (by omega),r3]
noncomputable abbrev pairD (p:I2 × I2):Dt:=.tup [t2 p.1,t2 p.2]
noncomputable abbrev IV:DSp:=BR (fun p:Int × Int × Nat=>[M5 p.1 p.2.1 p.2.2]) (fun _=>True) fun p=>pairD (Av p.1 p.2.1 0)
noncomputable abbrev Dk:DSp:=BR (fun p:(I2 × I2) × Int=>[pairD p.1,.int p.2]) (fun p=>B2 5000 p.1.2∧Bt 5000 p.2) fun p=>pairD (prB p.1 p.2)
noncomputable abbrev HD:DSp:=BR (fun p:(Int × Int × Nat) × Nat=>[M5 p.1.1 p.1.2.1 p.1.2.2,.int p.2]) (fun p=>Aw p.1.1 p.1.2.1 p.1.2.2∧p.2≤300) fun p=>t2 (Av p.1.1 p.1.2.1 p.2).2
theorem Aw.btp {n f:Int} {L:Nat} (C:Aw n f L) {k:Nat} (h:k≤400):B2 2500 (Av n f k).2:=⟨(C.btx k).le (by omega),(C.bty k).le (by omega)⟩
theorem AdT {n f:Int} {L:Nat} (C:Aw n f L) {k:Nat} (h:k≤400) {Q:Dt→Prop} (q:Q (pairD (Av n f (k+1)))):Dk [pairD (Av n f k),.int (rowAt n f (k+1)).2.2] Q :=
 Ak (Av n f k,(rowAt n f (k+1)).2.2) ⟨⟨(C.btp h).1.le (by decide),(C.btp h).2.le (by decide)⟩,(C.bt (k+1)).2.2.le (by decide)⟩ q
theorem RP (T:Txt K mg)
  : Pm P w K mg base 1 "first_pair" Dq ["rows"] IV:=by
 obtain ⟨f,fd,F⟩:=T.t_first_pair
 refine ⟨f,fd,F,F.fn.okD RN (by walk_at "lE") fun cdv A outer s H E hr=>⟨_,(Ah (Aq (Bj (Aa (Bj (Aa Ac (Aa Ac Af))) (Aa (Bj (Aa (Ab (Ab (dv 0) Ac) Ac) (Aa Ac Af))) Af))))),fun ds Q h=>?_⟩⟩
 obtain ⟨⟨n,f,L⟩,rfl,_,q⟩:=h
 have q':=q _ rfl
 walk_at "go"
 rw [Uj (k:=0) (by omega) (by omega)]
 walk_at "rd"
 exact ⟨Ay (by decide),Ay (by decide),Ay (by decide),q'⟩
theorem Q7 (T:Txt K mg)
  : Pm P w K mg base 1 "pair_behind" Cr ["pair","often"] Dk:=by
 obtain ⟨f,fd,F⟩:=T.t_pair_behind
 refine ⟨f,fd,F,F.fn.okD Hz (by walk_at "lE") fun cdv A outer s H E hr=>⟨_,(Ad (Al 2 Hz.nd (Ab (dv 0) Ac)) (Ad (Al 3 Hz.nd (Ab (dv 0) Ac)) (Ah (Aq (Bj (Aa (dv 3) (Aa (Bj (Aa (Bm (Am (dv 1) (Ab (dv 3) Ac)) (Ab (dv 2) Ac)) (Aa (Bm (Am (dv 1) (Ab (dv 3) Ac)) (Ab (dv 2) Ac)) Af))) Af))))))),fun ds Q h=>?_⟩⟩
 obtain ⟨⟨⟨⟨x',y'⟩,x,y⟩,a⟩,rfl,⟨⟨hx,hy⟩,ha⟩,q⟩:=h
 have q':=q _ rfl
 have hx:Bt 5000 x:=hx
 have hy:Bt 5000 y:=hy
 have ha:Bt 5000 a:=ha
 walk_at "go"
 exact ⟨ha.mulOk hx,ha.mulOk hy,Ay (by decide),Ay (by decide),q'⟩
theorem Ra (T:Txt K mg)
  (G_first_pair:Pm P w K mg base 1 "first_pair" Dq ["rows"] IV)
  (G_pair_behind:Pm P w K mg base 1 "pair_behind" Cr ["pair","often"] Dk)
  (G_part_of:Pm P w K mg base 1 "part_of" Gn ["rows","k"] Lb)
  : Pm P w K mg base 2 "fraction_of" CP ["rows","k"] HD:=by
 obtain ⟨f,fd,F⟩:=T.t_fraction_of
 refine ⟨f,fd,F,F.fn.okD Ge (by walk_at "lE") fun cdv A outer s H E hr=>⟨_,(Ad (Al 2 Ge.nd (Ag Ae G_first_pair (hr.mono (by decide)) rfl (Aa (dv 0) Af))) (Ad (Uh PassesOwn.never rfl (YK rfl T.z_range (Aa Ac (Aa (Bm (dv 1) Ac) Af))) (Cv 3 Ge.nd) (Ah (Al 2 Ge.nd (Ag Ae G_pair_behind (hr.mono (by decide)) rfl (Aa (dv 2) (Aa (Ag Ae G_part_of (hr.mono (by decide)) rfl (Aa (dv 0) (Aa (dv 3) Af))) Af)))))) (Ah (Aq (Ab (dv 2) Ac))))),fun ds Q h=>?_⟩⟩
 obtain ⟨⟨⟨n,f,L⟩,k⟩,rfl,⟨C,hk⟩,q⟩:=h
 have C:Aw n f L:=C
 have hk:k≤300:=hk
 have q':Q (t2 (Av n f k).2):=q _ rfl
 walk_at "go"
 refine Ak (n,f,L) trivial ?_
 refine Pr (ups 1 k) (fun R h=>?_) (fun i ρ=>i≤k∧∃ x,ρ=[some (.is (M5 n f L)),some (.is (.int (k:Int))),some (.is (pairD (Av n f i))),x]) ⟨Nat.zero_le _,_,rfl⟩ ?_ ?_
 ·walk_at "rd"
  have e:((k:Int)+1 - 1).toNat=k:=by omega
  first | rw [e] | skip
  exact ⟨⟨by omega,by omega⟩,h⟩
 ·rintro i d _ hi ⟨hik,x,rfl⟩
  obtain ⟨hi,rfl⟩:=Mx hi
  walk_at "rd"
  refine Ak ((n,f,L),1+(i:Int)) ⟨C,by show 0≤1+(i:Int);omega⟩ ?_
  dsimp only
  rw [show (1+(i:Int)).toNat=i+1 by omega]
  exact AdT C (by omega) ⟨by omega,_,rfl⟩
 ·rintro _ ⟨_,x,rfl⟩
  walk_at "rd"
  rw [Nj]
  exact q'
noncomputable abbrev J2:DSp:=spec (fun p:Int × Nat=>[.int p.1,.int p.2]) (fun p=>Num p.1∧p.2≤300) fun p d=>∃ f L,Aw p.1 f L∧d=t2 (Av p.1 f p.2).2
theorem WK (T:Txt K mg)
  (G_chain:Pm P w K mg base 4 "chain" Gx ["number"] Jm)
  (G_check_at_most:Pm P w K mg base 1 "check_at_most" BL ["number","most"] Ec)
  (G_fraction_of:Pm P w K mg base 2 "fraction_of" CP ["rows","k"] HD)
  : Pm P w K mg base 5 "fraction" Gm ["number","k"] J2:=by
 obtain ⟨f,fd,F⟩:=T.t_fraction
 obtain ⟨t_MOST_PLACE,m_MOST_PLACE⟩:=T.m_MOST_PLACE
 refine ⟨f,fd,F,F.fn.okD Oh (by walk_at "lE") fun cdv A outer s H E hr=>⟨_,(Ad (Al 2 Oh.nd (Ag Ae G_chain (hr.mono (by decide)) rfl (Aa (dv 0) Af))) (Ad (FW (Ag Ae G_check_at_most (hr.mono (by decide)) rfl (Aa (dv 1) (Aa (Kq (v:=.int (300)) (d:=.int (300)) rfl m_MOST_PLACE ⟨_,rfl⟩ (fun _=>Bb.mpr rfl)) Af)))) (Ah (Aq (Ag Ae G_fraction_of (hr.mono (by decide)) rfl (Aa (dv 2) (Aa (dv 1) Af))))))),fun ds Q h=>?_⟩⟩
 obtain ⟨⟨n,k⟩,rfl,⟨h0,hk⟩,q⟩:=h
 have h0:Num n:=h0
 have hk:k≤300:=hk
 walk_at "go"
 refine Az n h0 ?_
 rintro _ ⟨f,L,C,rfl⟩
 exact Ak ((k:Int),300) (by show (k:Int)≤300;omega) (Ak ((n,f,L),k) ⟨C,hk⟩ (q _ ⟨f,L,C,rfl⟩))
noncomputable def JT (n f:Int) (L:Nat):I2:=if sg (L - 1)=-1 then (Av n f (L - 1)).2 else ((Av n f (L - 1)).2.1*(Av n f (L - 1)).2.1+n*(Av n f (L - 1)).2.2*(Av n f (L - 1)).2.2,2*(Av n f (L - 1)).2.1*(Av n f (L - 1)).2.2)
noncomputable def Lj (n f:Int) (L:Nat):Dt:=if sg (L - 1)=1 then t2 (Av n f (L - 1)).2 else .non
noncomputable abbrev Fz:DSp:=BR (fun p:Int × Int × Nat=>[M5 p.1 p.2.1 p.2.2]) (fun p=>Aw p.1 p.2.1 p.2.2) fun p=>t2 (Av p.1 p.2.1 (p.2.2 - 1)).2
noncomputable abbrev Ia:DSp:=BR (fun p:Int × I2=>[.int p.1,t2 p.2]) (fun p=>Bt 20 p.1∧B2 5000 p.2) fun p=>.int (p.2.1*p.2.1 - p.1*p.2.2*p.2.2)
noncomputable abbrev Oq:DSp:=spec (fun n:Int=>[.int n]) Num fun n d=>∃ f L,Aw n f L∧d=t2 (JT n f L)
noncomputable abbrev Mw:DSp:=spec (fun n:Int=>[.int n]) Num fun n d=>∃ f L,Aw n f L∧d=Lj n f L
theorem M7 (T:Txt K mg)
  (G_fraction_of:Pm P w K mg base 2 "fraction_of" CP ["rows","k"] HD)
  : Pm P w K mg base 3 "point_of_round" BX ["rows"] Fz:=by
 obtain ⟨f,fd,F⟩:=T.t_point_of_round
 refine ⟨f,fd,F,F.fn.okD Mh (by walk_at "lE") fun cdv A outer s H E hr=>⟨_,(Ah (Aq (Ag Ae G_fraction_of (hr.mono (by decide)) rfl (Aa (dv 0) (Aa (Bv (Ka T.z_len (Aa (dv 0) Af)) Ac) Af))))),fun ds Q h=>?_⟩⟩
 obtain ⟨⟨n,f,L⟩,rfl,C,q⟩:=h
 have C:Aw n f L:=C
 have l0:=C.l0
 have lm:=C.lm
 walk_at "go"
 have e:(((List.range (L+1)).length:Nat):Int) - 2=((L - 1:Nat):Int):=by rw [List.length_range];omega
 rw [e]
 exact Ak ((n,f,L),L - 1) ⟨C,by show L - 1≤300;omega⟩ (q _ rfl)
theorem Q8 (T:Txt K mg)
  : Pm P w K mg base 1 "square_less" CQ ["number","point"] Ia:=by
 obtain ⟨f,fd,F⟩:=T.t_square_less
 refine ⟨f,fd,F,F.fn.okD PN (by walk_at "lE") fun cdv A outer s H E hr=>⟨_,(Ah (Aq (Bv (Am (Ab (dv 1) Ac) (Ab (dv 1) Ac)) (Am (Am (dv 0) (Ab (dv 1) Ac)) (Ab (dv 1) Ac))))),fun ds Q h=>?_⟩⟩
 obtain ⟨⟨n,x,y⟩,rfl,⟨hn,hx,hy⟩,q⟩:=h
 have hn:Bt 20 n:=hn
 have hx:Bt 5000 x:=hx
 have hy:Bt 5000 y:=hy
 walk_at "go"
 exact ⟨hx.mulOk hx,hn.mulOk hy,(hn.mul hy).mulOk hy,q _ rfl⟩
theorem Vq (T:Txt K mg)
  (G_point_of_round:Pm P w K mg base 3 "point_of_round" BX ["rows"] Fz)
  (G_chain:Pm P w K mg base 4 "chain" Gx ["number"] Jm)
  (G_square_less:Pm P w K mg base 1 "square_less" CQ ["number","point"] Ia)
  : Pm P w K mg base 5 "plus_one" Gv ["number"] Oq:=by
 obtain ⟨f,fd,F⟩:=T.t_plus_one
 refine ⟨f,fd,F,F.fn.okD Oo (by walk_at "lE") fun cdv A outer s H E hr=>⟨_,(Ad (Al 1 Oo.nd (Ag Ae G_point_of_round (hr.mono (by decide)) rfl (Aa (Ag Ae G_chain (hr.mono (by decide)) rfl (Aa (dv 0) Af)) Af))) (Ad (BZ (JQ hr.units (Ag Ae G_square_less (hr.mono (by decide)) rfl (Aa (dv 0) (Aa (dv 1) Af))) Ac) (Ah (Aq (dv 1))) Bg) (Ah (Aq (Bj (Aa (Bm (Am (Ab (dv 1) Ac) (Ab (dv 1) Ac)) (Am (Am (dv 0) (Ab (dv 1) Ac)) (Ab (dv 1) Ac))) (Aa (Am (Am Ac (Ab (dv 1) Ac)) (Ab (dv 1) Ac)) Af))))))),fun ds Q h=>?_⟩⟩
 obtain ⟨n,rfl,h0,q⟩:=h
 have h0:Num n:=h0
 have hn:=h0.bt.le (m:=20) (by decide)
 walk_at "go"
 refine Az n h0 ?_
 rintro _ ⟨f,L,C,rfl⟩
 have lm:=C.lm
 have hb:=C.btp (k:=L - 1) (by omega)
 refine Ak (n,f,L) C (Ak (n,(Av n f (L - 1)).2) ⟨hn,hb.1.le (by decide),hb.2.le (by decide)⟩ ?_)
 have hv:=C.end_val
 have hv':(Av n f (L - 1)).2.1*(Av n f (L - 1)).2.1 - n*(Av n f (L - 1)).2.2*(Av n f (L - 1)).2.2=-sg (L - 1):=by rw [←hv];grind
 have hq:Q (t2 (JT n f L)):=q _ ⟨f,L,C,rfl⟩
 dsimp only
 rw [hv']
 unfold JT at hq
 generalize (Av n f (L - 1)).2=P' at *
 obtain ⟨x,y⟩:=P'
 have hx:Bt 2500 x:=hb.1
 have hy:Bt 2500 y:=hb.2
 have two:Bt 2 2:=Bt.of_abs (by decide)
 walk_at "rd"
 rcases Jh (L - 1) with z | z
 ·rw [z] at hq ⊢
  rw [if_neg (by decide)] at hq
  exact Dm (by decide) ⟨hx.mulOk hx,hn.mulOk hy,(hn.mul hy).mulOk hy,two.mulOk hx,(two.mul hx).mulOk hy,Ay (by decide),hq⟩
 ·rw [z] at hq ⊢
  rw [if_pos rfl] at hq
  exact ift (by decide) hq
theorem Uu (T:Txt K mg)
  (G_point_of_round:Pm P w K mg base 3 "point_of_round" BX ["rows"] Fz)
  (G_chain:Pm P w K mg base 4 "chain" Gx ["number"] Jm)
  (G_square_less:Pm P w K mg base 1 "square_less" CQ ["number","point"] Ia)
  : Pm P w K mg base 5 "minus_one" Ft ["number"] Mw:=by
 obtain ⟨f,fd,F⟩:=T.t_minus_one
 refine ⟨f,fd,F,F.fn.okD Mj (by walk_at "lE") fun cdv A outer s H E hr=>⟨_,(Ad (Al 1 Mj.nd (Ag Ae G_point_of_round (hr.mono (by decide)) rfl (Aa (Ag Ae G_chain (hr.mono (by decide)) rfl (Aa (dv 0) Af)) Af))) (Ad (BZ (JQ hr.units (Ag Ae G_square_less (hr.mono (by decide)) rfl (Aa (dv 0) (Aa (dv 1) Af))) (DN Ac)) (Ah (Aq (dv 1))) Bg) (Ah (Aq Qx)))),fun ds Q h=>?_⟩⟩
 obtain ⟨n,rfl,h0,q⟩:=h
 have h0:Num n:=h0
 have hn:=h0.bt.le (m:=20) (by decide)
 walk_at "go"
 refine Az n h0 ?_
 rintro _ ⟨f,L,C,rfl⟩
 have lm:=C.lm
 have hb:=C.btp (k:=L - 1) (by omega)
 refine Ak (n,f,L) C (Ak (n,(Av n f (L - 1)).2) ⟨hn,hb.1.le (by decide),hb.2.le (by decide)⟩ ?_)
 have hv:=C.end_val
 have hv':(Av n f (L - 1)).2.1*(Av n f (L - 1)).2.1 - n*(Av n f (L - 1)).2.2*(Av n f (L - 1)).2.2=-sg (L - 1):=by rw [←hv];grind
 have hq:Q (Lj n f L):=q _ ⟨f,L,C,rfl⟩
 dsimp only
 rw [hv']
 unfold Lj at hq
 walk_at "rd"
 rcases Jh (L - 1) with z | z
 ·rw [z] at hq ⊢
  rw [if_pos rfl] at hq
  exact ift (by decide) hq
 ·rw [z] at hq ⊢
  rw [if_neg (by decide)] at hq
  exact Dm (by decide) hq
theorem Aw.bty2 {n f:Int} {L:Nat} (C:Aw n f L) {k:Nat} {most:Int} (hm:Bt 200 most) (h:(Av n f k).2.2≤most):B2 210 (Av n f k).2∧B2 210 (Av n f k).1:=by
 have F:=C.fr k
 have S:=C.sizes k
 have y0:=F.y0
 have x0:=F.x0
 have y1:=F.y1
 have x1:=F.x1
 have yy:=F.yy
 have hm':most < 2 ^ 200:=by
  unfold Bt at hm
  have e:((2:Int) ^ 200)=((2 ^ 200:Nat):Int):=by decide
  omega
 have e1:(2:Int) ^ 209=512*2 ^ 200:=by decide
 have e2:(1:Int)≤2 ^ 200:=by decide
 refine ⟨⟨HW (by omega) ?_,HW (by omega) ?_⟩,HW (by omega) ?_,HW (by omega) ?_⟩ <;> omega
noncomputable abbrev G4:DSp:=spec (fun p:(Int × Int × Nat) × Int=>[M5 p.1.1 p.1.2.1 p.1.2.2,.int p.2]) (fun p=>Aw p.1.1 p.1.2.1 p.1.2.2∧1≤p.2∧Bt 200 p.2) fun p d=>∃ k,d=pairD (Av p.1.1 p.1.2.1 k)∧(Av p.1.1 p.1.2.1 k).2.2≤p.2∧p.2 < (Av p.1.1 p.1.2.1 (k+1)).2.2
theorem KN (T:Txt K mg)
  (G_first_pair:Pm P w K mg base 1 "first_pair" Dq ["rows"] IV)
  (G_pair_behind:Pm P w K mg base 1 "pair_behind" Cr ["pair","often"] Dk)
  (G_part_of:Pm P w K mg base 1 "part_of" Gn ["rows","k"] Lb)
  : Pm P w K mg base 2 "last_pair_within" BW ["rows","most"] G4:=by
 obtain ⟨f,fd,F⟩:=T.t_last_pair_within
 refine ⟨f,fd,F,F.fn.okD Bs (by walk_at "lE") fun cdv A outer s H E hr=>⟨_,(Ad (Al 2 Bs.nd (Ag Ae G_first_pair (hr.mono (by decide)) rfl (Aa (dv 0) Af))) (Ad (Al 3 Bs.nd Ac) (Ad (Al 4 Bs.nd (Ag Ae G_pair_behind (hr.mono (by decide)) rfl (Aa (dv 2) (Aa (Ag Ae G_part_of (hr.mono (by decide)) rfl (Aa (dv 0) (Aa (dv 3) Af))) Af)))) (Ad (Ew PassesOwn.never (Ain (Ab (Ab (dv 4) Ac) Ac) (dv 1)) (Ad (Al 2 Bs.nd (dv 4)) (Ad (Aec 3 Bs.nd Ac) (Ah (Al 4 Bs.nd (Ag Ae G_pair_behind (hr.mono (by decide)) rfl (Aa (dv 2) (Aa (Ag Ae G_part_of (hr.mono (by decide)) rfl (Aa (dv 0) (Aa (dv 3) Af))) Af)))))))) (Ah (Aq (dv 2))))))),fun ds Q h=>?_⟩⟩
 obtain ⟨⟨⟨n,f,L⟩,most⟩,rfl,⟨C,h1,hm⟩,q⟩:=h
 have C:Aw n f L:=C
 have h1:1≤most:=h1
 have hm:Bt 200 most:=hm
 have nxt:∀ (k:Nat),(Av n f k).2.2≤most→∀ {Q:Dt→Prop},Q (pairD (Av n f (k+1)))→Dk [pairD (Av n f k),.int (rowAt n f (k+1)).2.2] Q:=fun k hk Q q=>by
  have hb:=(C.bty2 hm hk).1
  exact Ak (Av n f k,(rowAt n f (k+1)).2.2) ⟨⟨hb.1.le (by decide),hb.2.le (by decide)⟩,(C.bt (k+1)).2.2.le (by decide)⟩ q
 walk_at "go"
 refine Ak (n,f,L) trivial (Ak ((n,f,L),1) ⟨C,by show (0:Int)≤1;decide⟩ ?_)
 refine nxt 0 h1 ?_
 refine Es (fun m ρ=>∃ k:Nat,(Av n f k).2.2≤most∧ρ=[some (.is (M5 n f L)),some (.is (.int most)),some (.is (pairD (Av n f k))),some (.is (.int ((k:Int)+1))),some (.is (pairD (Av n f (k+1))))]∧m=(most+1).toNat - k) _ ⟨0,h1,rfl,rfl⟩ ?_
 rintro m _ ⟨k,hk,rfl,rfl⟩
 walk_at "rd"
 refine MP (fun hw=>?_) (fun hw=>?_)
 ·have hw:(Av n f (k+1)).2.2≤most:=of_decide_eq_true hw
  have hs:=(C.sizes (k+1)).2.2.1
  walk_at "rd"
  refine Ak ((n,f,L),(k:Int)+1+1) ⟨C,by show 0≤(k:Int)+1+1;omega⟩ ?_
  dsimp only
  rw [show ((k:Int)+1+1).toNat=k+1+1 by omega]
  refine nxt (k+1) hw ⟨(most+1).toNat - (k+1),by omega,k+1,hw,?_,rfl⟩
  rw [show ((k+1:Nat):Int)=(k:Int)+1 by omega]
 ·have hw:¬ (Av n f (k+1)).2.2≤most:=fun z=>hw (decide_eq_true z)
  exact q _ ⟨k,rfl,hk,by show most < (Av n f (k+1)).2.2;omega⟩
noncomputable abbrev Ss:DSp:=BR (fun p:Int × I2 × I2=>[.int p.1,t2 p.2.1,t2 p.2.2]) (fun p=>Bt 20 p.1∧B2 1000 p.2.1∧B2 1000 p.2.2) fun p=>t2 (if (decide ((p.2.1.1*p.2.2.2+p.2.2.1*p.2.1.2)*(p.2.1.1*p.2.2.2+p.2.2.1*p.2.1.2) < p.1*(2*p.2.1.2*p.2.2.2)*(2*p.2.1.2*p.2.2.2)) == decide (p.2.2.1*p.2.1.2 < p.2.1.1*p.2.2.2))=true then p.2.1 else p.2.2)
theorem ZL (T:Txt K mg)
  : Pm P w K mg base 1 "nearer" Jk ["number","one","other"] Ss:=by
 obtain ⟨f,fd,F⟩:=T.t_nearer
 refine ⟨f,fd,F,F.fn.okD Ji (by walk_at "lE") fun cdv A outer s H E hr=>⟨_,(Ad (Al 3 Ji.nd (Am (Ab (dv 1) Ac) (Ab (dv 2) Ac))) (Ad (Al 4 Ji.nd (Am (Ab (dv 2) Ac) (Ab (dv 1) Ac))) (Ad (Al 5 Ji.nd (Am (Am Ac (Ab (dv 1) Ac)) (Ab (dv 2) Ac))) (Ad (Al 6 Ji.nd (AaX (Am (Am (dv 0) (dv 5)) (dv 5)) (Am (Bm (dv 3) (dv 4)) (Bm (dv 3) (dv 4))))) (Ad (BZ (JQ hr.units (dv 6) (AaX (dv 3) (dv 4))) (Ah (Aq (dv 1))) Bg) (Ah (Aq (dv 2)))))))),fun ds Q h=>?_⟩⟩
 obtain ⟨⟨n,⟨x,y⟩,z,w⟩,rfl,⟨hn,⟨hx,hy⟩,hz,hw⟩,q⟩:=h
 have hn:Bt 20 n:=hn
 have hx:Bt 1000 x:=hx
 have hy:Bt 1000 y:=hy
 have hz:Bt 1000 z:=hz
 have hw:Bt 1000 w:=hw
 have two:Bt 2 2:=Bt.of_abs (by decide)
 have hq:=q _ rfl
 have b1:=(hx.mul hw).add (hz.mul hy)
 have b2:=(two.mul hy).mul hw
 dsimp only at hq
 walk_at "go"
 refine ⟨hx.mulOk hw,hz.mulOk hy,two.mulOk hy,(two.mul hy).mulOk hw,hn.mulOk b2,(hn.mul b2).mulOk b2,b1.mulOk b1,?_⟩
 generalize (decide ((x*w+z*y)*(x*w+z*y) < n*(2*y*w)*(2*y*w)) == decide (z*y < x*w))=b at *
 cases b <;> exact hq
noncomputable abbrev La:DSp:=spec (fun p:I2=>[.int p.1,.int p.2]) (fun p=>Num p.1∧1≤p.2∧Bt 200 p.2) fun p d=>∃ x1 y1 x2 y2:Int,(∃ f L,Aw p.1 f L)∧Nb p.1 p.2 x1 y1 x2 y2∧B2 450 (x1,y1)∧B2 450 (x2,y2)∧((¬ above p.1 x1 y1 x2 y2∧d=T2 x1 y1)∨(above p.1 x1 y1 x2 y2∧d=T2 x2 y2))
instance above_dec {n x1 y1 x2 y2:Int}:Decidable (above n x1 y1 x2 y2):=Int.decLt _ _
theorem Qo {n x1 y1 x2 y2:Int}:above n x2 y2 x1 y1↔above n x1 y1 x2 y2:=by
 unfold above
 have e1:x2*y1+x1*y2=x1*y2+x2*y1:=Int.add_comm _ _
 have e2:2*y2*y1=2*y1*y2:=by grind
 rw [e1,e2]
theorem Xg (T:Txt K mg)
  (G_last_pair_within:Pm P w K mg base 2 "last_pair_within" BW ["rows","most"] G4)
  (G_nearer:Pm P w K mg base 1 "nearer" Jk ["number","one","other"] Ss)
  (G_chain:Pm P w K mg base 4 "chain" Gx ["number"] Jm)
  (G_pair_behind:Pm P w K mg base 1 "pair_behind" Cr ["pair","often"] Dk)
  : Pm P w K mg base 5 "nearest" Hg ["number","most"] La:=by
 obtain ⟨f,fd,F⟩:=T.t_nearest
 refine ⟨f,fd,F,F.fn.okD Lw (by walk_at "lE") fun cdv A outer s H E hr=>⟨_,(Ad (Al 2 Lw.nd (Ag Ae G_last_pair_within (hr.mono (by decide)) rfl (Aa (Ag Ae G_chain (hr.mono (by decide)) rfl (Aa (dv 0) Af)) (Aa (dv 1) Af)))) (Ad (Al 3 Lw.nd (Ck (Bv (dv 1) (Ab (Ab (dv 2) Ac) Ac)) (Ab (Ab (dv 2) Ac) Ac))) (Ah (Aq (Ag Ae G_nearer (hr.mono (by decide)) rfl (Aa (dv 0) (Aa (Ab (dv 2) Ac) (Aa (Ab (Ag Ae G_pair_behind (hr.mono (by decide)) rfl (Aa (dv 2) (Aa (dv 3) Af))) Ac) Af)))))))),fun ds Q h=>?_⟩⟩
 obtain ⟨⟨n,most⟩,rfl,⟨h0,h1,hm⟩,q⟩:=h
 have h0:Num n:=h0
 have h1:1≤most:=h1
 have hm:Bt 200 most:=hm
 have hn:=h0.bt.le (m:=20) (by decide)
 walk_at "go"
 refine Az n h0 ?_
 rintro _ ⟨f,L,C,rfl⟩
 refine Az ((n,f,L),most) ⟨C,h1,hm⟩ ?_
 rintro _ ⟨k,rfl,k1,k2⟩
 have k1:(Av n f k).2.2≤most:=k1
 have k2:most < (Av n f (k+1)).2.2:=k2
 obtain ⟨hb,hb'⟩:=C.bty2 hm k1
 have y0:=(C.fr k).y0
 have yy:=(C.fr k).yy
 have H:=C.beside k1 k2 rfl
 have ht:(most - (Av n f k).1.2).fdiv (Av n f k).2.2=(most - (Av n f k).1.2).fdiv (Av n f k).2.2:=rfl
 generalize htt:(most - (Av n f k).1.2).fdiv (Av n f k).2.2=t at H
 have tb:Bt 213 t:=by
  rw [←htt]
  exact Aeg (by omega) (by omega) ((hm.sub hb'.2).le (m:=213) (by decide))
 have ob:B2 450 (prB (Av n f k) t).2:=⟨((tb.mul hb.1).add hb'.1).le (by decide),((tb.mul hb.2).add hb'.2).le (by decide)⟩
 have hb4:B2 450 (Av n f k).2:=⟨hb.1.le (by decide),hb.2.le (by decide)⟩
 walk_at "rd"
 rw [htt]
 refine ⟨Bt.divOk hb.2 (by omega),Ak (Av n f k,t) ⟨⟨hb.1.le (by decide),hb.2.le (by decide)⟩,tb.le (by decide)⟩ ?_⟩
 walk_at "rd"
 refine Ak (n,(Av n f k).2,(prB (Av n f k) t).2) ⟨hn,⟨hb4.1.le (by decide),hb4.2.le (by decide)⟩,⟨ob.1.le (by decide),ob.2.le (by decide)⟩⟩ ?_
 dsimp only
 generalize (Av n f k).2=A at *
 generalize (prB (Av n f k) t).2=B at *
 obtain ⟨x,y⟩:=A
 obtain ⟨z,w⟩:=B
 dsimp only at *
 rcases H with ⟨_,N⟩ | ⟨_,N⟩
 ·have d:=N.d
  have e2:decide (z*y < x*w)=false:=decide_eq_false (by omega)
  rw [e2]
  by_cases h:above n x y z w
  ·have e1:decide ((x*w+z*y)*(x*w+z*y) < n*(2*y*w)*(2*y*w))=true:=decide_eq_true h
   rw [e1]
   exact q _ ⟨x,y,z,w,⟨f,L,C⟩,N,hb4,ob,.inr ⟨h,rfl⟩⟩
  ·have e1:decide ((x*w+z*y)*(x*w+z*y) < n*(2*y*w)*(2*y*w))=false:=decide_eq_false h
   rw [e1]
   exact q _ ⟨x,y,z,w,⟨f,L,C⟩,N,hb4,ob,.inl ⟨h,rfl⟩⟩
 ·have d:=N.d
  have e2:decide (z*y < x*w)=true:=decide_eq_true (by omega)
  rw [e2]
  by_cases h:above n x y z w
  ·have e1:decide ((x*w+z*y)*(x*w+z*y) < n*(2*y*w)*(2*y*w))=true:=decide_eq_true h
   rw [e1]
   exact q _ ⟨z,w,x,y,⟨f,L,C⟩,N,ob,hb4,.inr ⟨Qo.mp h,rfl⟩⟩
  ·have e1:decide ((x*w+z*y)*(x*w+z*y) < n*(2*y*w)*(2*y*w))=false:=decide_eq_false h
   rw [e1]
   exact q _ ⟨z,w,x,y,⟨f,L,C⟩,N,ob,hb4,.inl ⟨fun v=>h (Qo.mp v),rfl⟩⟩
noncomputable abbrev JF:DSp:=BR (fun p:List Int × Int=>[.lst (p.1.map Dt.int),.int p.2]) (fun p=>0≤p.2) fun p=>.int (p.1.getD p.2.toNat 0)
theorem AcZ {Q:Dt→Prop} (ns:List Int) (k:Int) (h:0≤k) (q:Q (.int (ns.getD k.toNat 0))):JF [.lst (ns.map Dt.int),.int k] Q:=Ak (ns,k) h q
theorem U6 (T:Txt K mg)
  : Pm P w K mg base 1 "_law_cell" Fp ["_law_script","_law_k"] JF:=by
 obtain ⟨f,fd,F⟩:=T.t__law_cell
 refine ⟨f,fd,F,F.fn.okD Ue (by walk_at "lE") fun cdv A outer s H E hr=>⟨_,(Ad (BZ (M4 (dv 1) (Ka T.z_len (Aa (dv 0) Af))) (Ah (Aq (Ab (dv 0) (dv 1)))) Bg) (Ah (Aq Ac))),fun ds Q h=>?_⟩⟩
 obtain ⟨⟨ns,k⟩,rfl,h0,q⟩:=h
 walk_at "go"
 by_cases hk:k < ns.length
 ·simp only [decide_eq_true hk,Ael h0 hk,if_true]
  exact q _ rfl
 ·simp only [decide_eq_false hk]
  have e:ns.getD k.toNat 0=0:=by
   have:ns.length≤k.toNat:=by have h0':0≤k:=h0;omega
   simp [this]
  have q':=q _ rfl
  dsimp only at q'
  rw [e] at q'
  exact q'
noncomputable abbrev KR:DSp:=BR (fun n:Int=>[.int n]) (fun _=>True) fun _=>.bl true
theorem Ry (T:Txt K mg)
  : Pm P w K mg base 1 "_law_whole" El ["_law_found"] KR:=by
 obtain ⟨f,fd,F⟩:=T.t__law_whole
 refine ⟨f,fd,F,F.fn.okD Rz (by walk_at "lE") fun cdv A outer s H E hr=>⟨_,(Ah (Aq (Q6 (X3 T.z_isinstance T.z_int Aes (dv 0)) (N5 (Ah2 (X3 T.z_isinstance T.z_bool Abq (dv 0))))))),fun ds Q h=>?_⟩⟩
 obtain ⟨n,rfl,_,q⟩:=h
 have q':Q (.bl true):=q _ rfl
 walk_at "go"
 exact q'
noncomputable def isI:Dt→Bool
 | .int _=>true
 | _=>false
noncomputable abbrev Cu:DSp:=BR (fun p:List Int × Int=>[.tup (p.1.map Dt.int),.int p.2]) (fun p=>p.1.length≤1000) fun p=>.bl (decide ((p.1.length:Int)=p.2))
theorem S9 {Q:Dt→Prop} (ns:List Int) (k:Int) (h:(ns.length:Int)=k) (hl:ns.length≤1000) (q:Q (.bl true)):Cu [.tup (ns.map Dt.int),.int k] Q :=
 Ak (ns,k) hl (by dsimp only;rw [decide_eq_true h];exact q)
theorem Zj {Q:Dt→Prop} (p:I2) (q:Q (.bl true)):Cu [t2 p,.int 2] Q:=S9 [p.1,p.2] 2 rfl (by show 2≤1000;decide) q
theorem T7 {Q:Dt→Prop} (p:I4) (q:Q (.bl true)):Cu [t4 p,.int 4] Q:=S9 [p.1,p.2.1,p.2.2.1,p.2.2.2] 4 rfl (by show 4≤1000;decide) q
theorem Rh (T:Txt K mg)
  (G__law_whole:Pm P w K mg base 1 "_law_whole" El ["_law_found"] KR)
  : Pm P w K mg base 2 "_law_wholes" Ca ["_law_found","_law_many_here"] Cu:=by
 obtain ⟨f,fd,F⟩:=T.t__law_wholes
 refine ⟨f,fd,F,F.fn.okD Qp (by walk_at "lE") fun cdv A outer s H E hr=>⟨_,(Ad (BZ (DW.dt (G5 (Gj (Fj (X3 T.z_isinstance T.z_tuple Aah (dv 0)))) (Jw (Fy hr.units (Ka T.z_len (Aa (dv 0) Af)) (dv 1))))) (Ah (Aq KY)) Bg) (Ah (Aq (MJ hr.units (Ka T.z_len (Aa (Ve (Gk (sc:=Ai Ca) (NN:=["_law_found","_law_many_here"]) (x:="_law_one") (N:=[]) (sl:=[]) rfl rfl (by decide +kernel)) rfl (AgS (dv 0)) (fun cl C s0 H0 ex=>(Fj (Ag Ae G__law_whole (hr.mono (by decide)) rfl (Aa (dv 0) Af)))) (fun cl C s0 H0 ex=>(dv 0))) Af)) (dv 1))))),fun ds Q h=>?_⟩⟩
 obtain ⟨⟨ns,k⟩,rfl,h0,q⟩:=h
 walk_at "go"
 have q':=q _ rfl
 dsimp only at q'
 by_cases hk:(ns.length:Int)=k
 ·rw [decide_eq_true hk] at q'
  simp only [decide_eq_true hk]
  walk_at "rd"
  refine Ju (ns.map Dt.int) isI id (fun R h=>h) (by rw [List.length_map];exact Ay h0) Fg (fun d hd R hR=>?_) (fun d hd hp R hR=>hR) ?_
  ·unfold inner
   walk_at "rd"
   obtain ⟨n,_,rfl⟩:=List.mem_map.mp hd
   exact Ak n trivial hR
  ·have e:(List.filter isI (ns.map Dt.int)).map id=ns.map Dt.int:=by
    rw [List.map_id,List.filter_eq_self]
    intro d hd
    obtain ⟨n,_,rfl⟩:=List.mem_map.mp hd
    rfl
   rw [e]
   walk_at "rd"
   rw [decide_eq_true hk]
   exact q'
 ·rw [decide_eq_false hk] at q'
  simp only [decide_eq_false hk]
  exact q'
noncomputable abbrev LK:DSp:=spec (fun n:Int=>[.int n]) (fun n=>0≤n∧Bt 4000 n) fun n d=>∃ r,d=.int r∧Sq n r∧Bt 2001 r
theorem Ul (T:Txt K mg)
  : Pm P w K mg base 1 "_law_root" Fv ["_law_number_here"] LK:=by
 obtain ⟨f,fd,F⟩:=T.t__law_root
 refine ⟨f,fd,F,F.fn.okD Jz (by walk_at "lE") fun cdv A outer s H E hr=>⟨_,(Ad (Al 1 Jz.nd (AaH Ac (Ck (Bm (Yv (dv 0)) Ac) Ac))) (Ad (Ew PassesOwn.never (V8 (Am (dv 1) (dv 1)) (dv 0)) (Ah (Al 1 Jz.nd (Ck (Bm (dv 1) (Ck (dv 0) (dv 1))) Ac)))) (Ah (Aq (dv 1))))),fun ds Q h=>?_⟩⟩
 obtain ⟨n,rfl,⟨h0,hb⟩,q⟩:=h
 walk_at "go"
 obtain ⟨c1,c2,c3⟩:=Oi hb
 have hu:=Wl h0
 refine ⟨⟨by decide,by decide⟩,c1,?_⟩
 generalize (1*2 ^ ((((Builtin.Int.intBits n:Nat):Int)+1).fdiv 2).toNat:Int)=g at *
 refine Es (fun m ρ=>∃ g:Int,ρ=[some (.is (.int n)),some (.is (.int g))]∧0≤g∧Bt 2001 g∧n < (g+1)*(g+1)∧m=g.toNat) _ ⟨g,rfl,by omega,c2,hu,rfl⟩ ?_
 rintro m _ ⟨g,rfl,hg,hgb,hgu,rfl⟩
 walk_at "rd"
 refine ⟨hgb.mulOk hgb,MP (fun hw=>?_) (fun hw=>?_)⟩
 ·have hw:=of_decide_eq_true hw
  have hg0:0 < g:=by
   rcases Int.lt_or_le 0 g with z | z
   ·exact z
   ·have:g=0:=by omega
    subst this
    omega
  have hd:=Wo hg0 hw
  have hu':=S8 h0 hg0
  have hp:0≤(g+n / g) / 2:=by
   have:=Int.ediv_nonneg h0 (show 0≤g by omega)
   omega
  have hbb:Bt 2001 ((g+n / g) / 2):=by unfold Bt at *;omega
  refine ⟨Bt.divOk hgb (by omega),⟨by decide,by decide⟩,?_⟩
  rw [UG hg0]
  exact ⟨_,by omega,_,rfl,hp,hbb,hu',rfl⟩
 ·have hw:¬ n < g*g:=fun z=>hw (decide_eq_true z)
  exact q _ ⟨g,rfl,⟨by omega,by omega,hgu⟩,hgb⟩
noncomputable abbrev Ov:DSp:=BR (fun p:I4 × I2=>[t4 p.1,t2 p.2]) (fun p=>B4 300000 p.1∧B2 300000 p.2) fun p=>t2 (Ij p.1 p.2)
theorem VJ (T:Txt K mg)
  : Pm P w K mg base 1 "_law_led" Gq ["_law_turn","_law_point"] Ov:=by
 obtain ⟨f,fd,F⟩:=T.t__law_led
 refine ⟨f,fd,F,F.fn.okD V0 (by walk_at "lE") fun cdv A outer s H E hr=>⟨_,(Ah (Aq (Bj (Aa (Bm (Am (Ab (dv 0) Ac) (Ab (dv 1) Ac)) (Am (Ab (dv 0) Ac) (Ab (dv 1) Ac))) (Aa (Bm (Am (Ab (dv 0) Ac) (Ab (dv 1) Ac)) (Am (Ab (dv 0) Ac) (Ab (dv 1) Ac))) Af))))),fun ds Q h=>?_⟩⟩
 obtain ⟨⟨⟨a,b,c,d⟩,x,y⟩,rfl,⟨⟨ha,hb,hc,hd⟩,hx,hy⟩,q⟩:=h
 walk_at "go"
 exact ⟨by walk_at "mul",by walk_at "mul",by walk_at "mul",by walk_at "mul",Ay (by decide),q _ rfl⟩
noncomputable abbrev Ol:DSp:=BR (fun p:I4 × I4=>[t4 p.1,t4 p.2]) (fun p=>B4 20000 p.1∧B4 20000 p.2) fun p=>t4 (Aj p.1 p.2)
theorem Wa (T:Txt K mg)
  : Pm P w K mg base 1 "_law_put" Gw ["_law_one","_law_other"] Ol:=by
 obtain ⟨f,fd,F⟩:=T.t__law_put
 refine ⟨f,fd,F,F.fn.okD CJ (by walk_at "lE") fun cdv A outer s H E hr=>⟨_,(Ad (Tj (dv 0) (Tg (n:=4) rfl (CG (Cv 2 CJ.nd) (CG (Cv 3 CJ.nd) (CG (Cv 4 CJ.nd) (CG (Cv 5 CJ.nd) Py)))))) (Ad (Tj (dv 1) (Tg (n:=4) rfl (CG (Cv 6 CJ.nd) (CG (Cv 7 CJ.nd) (CG (Cv 8 CJ.nd) (CG (Cv 9 CJ.nd) Py)))))) (Ah (Aq (Bj (Aa (Bm (Am (dv 2) (dv 6)) (Am (dv 3) (dv 8))) (Aa (Bm (Am (dv 2) (dv 7)) (Am (dv 3) (dv 9))) (Aa (Bm (Am (dv 4) (dv 6)) (Am (dv 5) (dv 8))) (Aa (Bm (Am (dv 4) (dv 7)) (Am (dv 5) (dv 9))) Af))))))))),fun ds Q h=>?_⟩⟩
 obtain ⟨⟨⟨a,b,c,d⟩,e,f,g,i⟩,rfl,⟨⟨ha,hb,hc,hd⟩,he,hf,hg,hi⟩,q⟩:=h
 walk_at "go"
 walk_at "muls"
 exact q _ rfl
theorem AhR:¬ Jy 1000:=fun ⟨r,e⟩=>by
 have e2:(r.natAbs:Int)*r.natAbs=1000:=(Int.natAbs_mul_self' r).trans e
 rcases Nat.lt_or_ge r.natAbs 32 with z | z
 ·have:∀ n:Nat,n < 32→n*n≠1000:=by decide
  exact this r.natAbs z (by exact_mod_cast e2)
 ·have:=Nat.mul_le_mul z z
  have:(r.natAbs*r.natAbs:Nat)=1000:=by exact_mod_cast e2
  omega
noncomputable abbrev J1:DSp:=spec (fun c:Int=>[.int c]) (fun _=>True) fun _ d=>∃ n:Int,d=.int n∧Num n
theorem QC (T:Txt K mg)
  (G__law_root:Pm P w K mg base 1 "_law_root" Fv ["_law_number_here"] LK)
  : Pm P w K mg base 2 "_law_number" Dv ["_law_cell_here"] J1:=by
 obtain ⟨f,fd,F⟩:=T.t__law_number
 refine ⟨f,fd,F,F.fn.okD Hu (by walk_at "lE") fun cdv A outer s H E hr=>⟨_,(Ad (Al 1 Hu.nd (Bm Ac (Hw (dv 0) Ac))) (Ad (Ew PassesOwn.never (JQ hr.units (Am (Ag Ae G__law_root (hr.mono (by decide)) rfl (Aa (dv 1) Af)) (Ag Ae G__law_root (hr.mono (by decide)) rfl (Aa (dv 1) Af))) (dv 1)) (Ah (Al 1 Hu.nd (Bm (dv 1) Ac)))) (Ah (Aq (dv 1))))),fun ds Q h=>?_⟩⟩
 obtain ⟨c,rfl,_,q⟩:=h
 have q:∀ d,(∃ n:Int,d=.int n∧Num n)→Q d:=q
 have r1:=Mq c (m:=998) (by decide)
 walk_at "go"
 refine ⟨by decide,?_⟩
 refine Es (fun m ρ=>∃ n:Int,ρ=[some (.is (.int c)),some (.is (.int n))]∧2≤n∧n≤1000∧m=(1000 - n).toNat) _ ⟨2+c.fmod 998,rfl,by omega,by omega,rfl⟩ ?_
 rintro m _ ⟨n,rfl,l1,l2,rfl⟩
 have bn:Bt 20 n:=Bt.of (by omega) (by omega)
 walk_at "rd"
 refine Az n ⟨by omega,bn.le (by decide)⟩ ?_
 rintro _ ⟨r,rfl,hs,hb⟩
 have hs:Sq n r:=hs
 refine Az n ⟨by omega,bn.le (by decide)⟩ ?_
 rintro _ ⟨r',rfl,hs',_⟩
 obtain rfl:=hs.uniq hs'
 refine ⟨hb.mulOk hb,MP (fun e=>?_) (fun e=>?_)⟩
 ·have e:=of_decide_eq_true e
  have:n≠1000:=fun z=>AhR ⟨r,by rw [e,z]⟩
  exact ⟨(1000 - (n+1)).toNat,by omega,n+1,rfl,by omega,by omega,rfl⟩
 ·exact q _ ⟨n,rfl,l1,l2,fun sq=>e (decide_eq_true ((Wb hs).mp sq))⟩
noncomputable abbrev Nf:DSp:=spec (fun p:(I3 × I4) × Int=>[t4 p.1.2,.int p.2]) (fun p=>det p.1.2=1∧mov p.1.1 p.1.2=p.1.1∧B4 510 p.1.2∧-9≤p.2∧p.2≤9) fun p d=>∃ t:I4,d=t4 t∧det t=1∧mov p.1.1 t=p.1.1∧B4 5200 t
theorem Ti (T:Txt K mg)
  (G__law_put:Pm P w K mg base 1 "_law_put" Gw ["_law_one","_law_other"] Ol)
  : Pm P w K mg base 2 "_law_many" Fx ["_law_step","_law_count"] Nf:=by
 obtain ⟨f,fd,F⟩:=T.t__law_many
 refine ⟨f,fd,F,F.fn.okD FJ (by walk_at "lE") fun cdv A outer s H E hr=>⟨_,(Ad (BZ (M4 (dv 1) Ac) (Ah (Al 0 FJ.nd (Bj (Aa (Ab (dv 0) Ac) (Aa (Bv Ac (Ab (dv 0) Ac)) (Aa (Bv Ac (Ab (dv 0) Ac)) (Aa (Ab (dv 0) Ac) Af))))))) Bg) (Ad (Al 2 FJ.nd (Bj (Aa Ac (Aa Ac (Aa Ac (Aa Ac Af)))))) (Ad (Uh PassesOwn.never rfl (YX rfl T.z_range (Aa (Ie T.z_abs (Aa (dv 1) Af)) Af)) (Cv 3 FJ.nd) (Ah (Al 2 FJ.nd (Ag Ae G__law_put (hr.mono (by decide)) rfl (Aa (dv 2) (Aa (dv 0) Af)))))) (Ah (Aq (dv 2)))))),fun ds Q h=>?_⟩⟩
 obtain ⟨⟨⟨f,S⟩,c⟩,rfl,⟨dS,mS,bS,c1,c2⟩,q⟩:=h
 have dS:det S=1:=dS
 have mS:mov f S=f:=mS
 have bS:B4 510 S:=bS
 have c1:-9≤c:=c1
 have c2:c≤9:=c2
 have q:∀ d,(∃ t:I4,d=t4 t∧det t=1∧mov f t=f∧B4 5200 t)→Q d:=q
 have eb:(S.2.2.2,0 - S.2.1,0 - S.2.2.1,S.1)=Ax S:=by unfold Ax;rw [Int.zero_sub,Int.zero_sub]
 have ab9:((if c < 0 then -c else c):Int).toNat≤9:=by split <;> omega
 walk_at "go"
 refine MP (fun _=>⟨Ay (by decide),Ay (by decide),?_⟩) (fun _=>⟨Ay (by decide),?_⟩)
 case' refine_1 =>
  have mb:mov f (Ax S)=f:=by
   have:=Bq (f:=f) dS
   rw [mS] at this
   exact this
  obtain ⟨U,eU,dU,mU,bU⟩:∃ U:I4,t4 U=.tup [.int S.2.2.2,.int (0 - S.2.1),.int (0 - S.2.2.1),.int S.1]∧det U=1∧mov f U=f∧B4 510 U:=⟨Ax S,by rw [←eb],by rw [Dg];exact dS,mb,bS.back⟩
  rw [←eU]
 case' refine_2 =>
  obtain ⟨U,eU,dU,mU,bU⟩:∃ U:I4,t4 U=t4 S∧det U=1∧mov f U=f∧B4 510 U:=⟨S,rfl,dS,mS,bS⟩
  rw [←eU]
 all_goals
  refine Pr (ups 0 ((if c < 0 then -c else c):Int).toNat) (fun R hR=>?_) (fun k ρ=>∃ (t:I4) (x:Option En),ρ=[some (.is (t4 U)),some (.is (.int c)),some (.is (t4 t)),x]∧det t=1∧mov f t=f∧B4 (520*k+2) t) ⟨(1,0,0,1),none,rfl,rfl,DY,Bt.one.le (by decide),Bt.zero.le (by decide),Bt.zero.le (by decide),Bt.one.le (by decide)⟩ ?_ ?_
  ·walk_at "rd"
   exact ⟨by split <;> omega,hR⟩
  ·rintro k e _ hk ⟨t,x,rfl,dt,mt,bt⟩
   obtain ⟨hk',rfl⟩:=Mx hk
   walk_at "rd"
   refine Ak (t,U) ⟨bt.le (by omega),bU.le (by decide)⟩ ⟨Aj t U,_,rfl,by rw [BP,dt,dU];rfl,by rw [←Bf,mt,mU],(B4.then bt bU).le (by omega)⟩
  ·rintro _ ⟨t,x,rfl,dt,mt,bt⟩
   rw [Nj] at bt
   exact q _ ⟨t,rfl,dt,mt,bt.le (by omega)⟩
theorem Aax {m D:Int} (hm:m=1∨m=-1) {h k:I3} (h1:h∈Ez m D) (h2:k∈Ez m D):h=k:=by
 unfold Ez at h1 h2
 obtain ⟨b,hb,rfl⟩:=List.mem_map.mp h1
 obtain ⟨c,hc,rfl⟩:=List.mem_map.mp h2
 obtain ⟨b0,b1,b2⟩:=Hv.mp hb
 obtain ⟨c0,c1,c2⟩:=Hv.mp hc
 have l:((2*m.natAbs:Nat):Int)=2:=by rcases hm with e | e <;> rw [e] <;> rfl
 have d1:(4:Int)∣b*b - D:=by
  have:=Int.dvd_of_fmod_eq_zero b2
  rcases hm with e | e <;> rw [e] at this
  ·exact this
  ·exact Int.dvd_trans ⟨-1,by decide⟩ this
 have d2:(4:Int)∣c*c - D:=by
  have:=Int.dvd_of_fmod_eq_zero c2
  rcases hm with e | e <;> rw [e] at this
  ·exact this
  ·exact Int.dvd_trans ⟨-1,by decide⟩ this
 have e:b=c:=by
  rcases (show b=0∨b=1 by omega) with e | e <;> rcases (show c=0∨c=1 by omega) with e' | e' <;> subst e e' <;> omega
 rw [e]
theorem YQ {n g:Int} {r:Nat} (hn:n=1∨n=-1) (h:g∈IW n r):g=1:=by
 obtain ⟨g1,_,g3⟩:=FZ.mp h
 have:=Int.dvd_of_fmod_eq_zero g3
 have h1:g*g∣1:=by
  rcases hn with e | e <;> rw [e] at this
  ·exact this
  ·exact (Int.dvd_neg (b:=1)).mp this
 have:=Int.le_of_dvd (by decide) h1
 rcases Int.lt_or_le g 2 with z | z
 ·omega
 ·have:=Int.mul_le_mul z z (by decide) (by omega)
  omega
theorem AeE {f:I3} {n:Int} {r i j:Nat} {F G:Fam} (hn:n=1∨n=-1) (al:Eo f n r) (hi:(DP f n r)[i]? = some (Cm F)) (hF:F∈J7 f n r) (hj:(DP f n r)[j]? = some (Cm G)) (hG:G∈J7 f n r):i=j:=by
 obtain ⟨l,hl,_⟩:=al
 obtain ⟨a1,a2,_⟩:=Mt hl hF
 obtain ⟨b1,b2,_⟩:=Mt hl hG
 rw [YQ hn a1] at a2
 rw [YQ hn b1] at b2
 have e:n.fdiv (1*1)=n:=by rw [Int.one_mul,Int.fdiv_one]
 rw [e] at a2 b2
 exact Xp (by rcases hn with e | e <;> rw [e] <;> decide) hi hj (Aax hn a2 b2)
theorem Y6 {f:I3} {n:Int} {r:Nat} (hn:n=1∨n=-1) (al:Eo f n r):(DP f n r).length≤1:=by
 rcases Nat.lt_or_ge (DP f n r).length 2 with z | z
 ·omega
 ·obtain ⟨F,hF,eF⟩:=Ii (List.getElem_mem (show 0 < (DP f n r).length by omega))
  obtain ⟨G,hG,eG⟩:=Ii (List.getElem_mem (show 1 < (DP f n r).length by omega))
  have:=AeE hn al (i:=0) (j:=1) (by rw [List.getElem?_eq_getElem (by omega),eF]) hF (by rw [List.getElem?_eq_getElem (by omega),eG]) hG
  omega
theorem Wc {f:I3} {n:Int} {r:Nat} {p:I2} (hn:n=1∨n=-1) (al:Eo f n r) (sr:Sq n.natAbs r) (hv:val f p=n):(DP f n r).length=1:=by
 have n0:n≠0:=by rcases hn with e | e <;> rw [e] <;> decide
 have h1:=Y6 hn al
 have h2:=AhY hv n0 al sr
 have h3:(DP f n r).length=(J7 f n r).length:=by
  unfold DP
  rw [(HY _).length_eq,List.length_map]
 have h4:(J7 f n r).length≠0:=fun z=>h2 (List.length_eq_zero_iff.mp z)
 omega
theorem Uv {f:I3} {n:Int} {p:I2} {T:I4} {k r:Nat} {F:Fam} (hn:n=1∨n=-1) (al:Eo f n r) (sr:Sq n.natAbs r) (W:Du f n p T k F):k=0∧(DP f n r)[0]? = some (Cm F):=by
 obtain ⟨r',hr',sr',h1,h2,_⟩:=W.fam
 obtain rfl:r'=r:=by have:(r':Int)=r:=sr'.uniq sr;omega
 have hl:=(List.getElem?_eq_some_iff.mp h1).1
 have:=Y6 hn al
 have:k=0:=by omega
 subst this
 exact ⟨rfl,h1⟩
theorem Agt {t:I4} {h p:I2} (d:det t=1) (e:Ij t h=p):Ij (Ax t) p=h:=by
 rw [←e]
 exact VG d
noncomputable abbrev J0:DSp:=spec (fun p:I3 × I2 × I2=>[t3 p.1,t2 p.2.1,t2 p.2.2]) (fun p=>K5 p.1 1 p.2.1∧K5 p.1 1 p.2.2∧∃ r:Nat,r≤20∧Sq (1:Int).natAbs r∧Eo p.1 1 r) fun _ d=>d=.bl true
theorem Qi (T:Txt K mg)
  (G_whence:Pm P w K mg base 13 "whence" GD ["form","number","point"] NZ)
  (G__law_led:Pm P w K mg base 1 "_law_led" Gq ["_law_turn","_law_point"] Ov)
  (G__law_wholes:Pm P w K mg base 2 "_law_wholes" Ca ["_law_found","_law_many_here"] Cu)
  : Pm P w K mg base 14 "_law_whence" DK ["_law_form","_law_point","_law_other"] J0:=by
 obtain ⟨f,fd,F⟩:=T.t__law_whence
 refine ⟨f,fd,F,F.fn.okD Cg (by walk_at "lE") fun cdv A outer s H E hr=>⟨_,(Ad (Al 3 Cg.nd (Ag Ae G_whence (hr.mono (by decide)) rfl (Aa (dv 0) (Aa Ac (Aa (dv 1) Af))))) (Ad (Al 4 Cg.nd (Ag Ae G_whence (hr.mono (by decide)) rfl (Aa (dv 0) (Aa Ac (Aa (dv 2) Af))))) (Ad (BZ (DW.dt (G5 (Fy hr.units (Ab (dv 3) Ac) Ac) (G5 (Fy hr.units (Ab (dv 4) Ac) Ac) (G5 (Gj (Fj (Ag Ae G__law_wholes (hr.mono (by decide)) rfl (Aa (Ab (dv 3) Ac) (Aa Ac Af))))) (Jw (Gj (Fj (Ag Ae G__law_wholes (hr.mono (by decide)) rfl (Aa (Ab (dv 4) Ac) (Aa Ac Af)))))))))) (Ah (Aq KY)) Bg) (Ad (Tj (Ab (dv 3) Ac) (Tg (n:=4) rfl (CG (Cv 5 Cg.nd) (CG (Cv 6 Cg.nd) (CG (Cv 7 Cg.nd) (CG (Cv 8 Cg.nd) Py)))))) (Ad (Al 9 Cg.nd (Ag Ae G__law_led (hr.mono (by decide)) rfl (Aa (Bj (Aa (dv 8) (Aa (Bv Ac (dv 6)) (Aa (Bv Ac (dv 7)) (Aa (dv 5) Af))))) (Aa (dv 1) Af)))) (Ah (Aq (MJ hr.units (Ag Ae G__law_led (hr.mono (by decide)) rfl (Aa (Ab (dv 4) Ac) (Aa (dv 9) Af))) (dv 2))))))))),fun ds Q h=>?_⟩⟩
 obtain ⟨⟨f,p,o⟩,rfl,⟨hp,ho,r,hr20,sr,al⟩,q⟩:=h
 have hp:K5 f 1 p:=hp
 have ho:K5 f 1 o:=ho
 have al:Eo f 1 r:=al
 have q':Q (.bl true):=q _ rfl
 walk_at "go"
 refine Az (f,1,p) hp ?_
 rintro _ ⟨T1,k1,F1,W1,rfl⟩
 have W1:Du f 1 p T1 k1 F1:=W1
 refine Az (f,1,o) ho ?_
 rintro _ ⟨T2',k2,F2,W2,rfl⟩
 have W2:Du f 1 o T2' k2 F2:=W2
 obtain ⟨e1,g1⟩:=Uv (.inl rfl) al sr W1
 obtain ⟨e2,g2⟩:=Uv (.inl rfl) al sr W2
 subst e1 e2
 rw [g1] at g2
 have eh:(F1.1*F1.2.2.1,F1.1*F1.2.2.2.2.1)=(F2.1*F2.2.2.1,F2.1*F2.2.2.2.2.1):=by
  have:=Option.some.inj g2
  unfold Cm at this
  have:=(List.cons.inj this).1
  simp only [List.cons.injEq,and_true] at this
  exact Prod.ext this.1 this.2
 obtain ⟨d1,_,b1⟩:=W1.own
 obtain ⟨d2,_,b2⟩:=W2.own
 have l1:=Agt d1 W1.led
 have l2:=W2.led
 have bh:=W1.bh
 rw [←eh] at l2
 obtain ⟨A,eA⟩:∃ A,Aj T1 (Ax F1.2.2)=A:=⟨_,rfl⟩
 obtain ⟨B,eB⟩:∃ B,Aj T2' (Ax F2.2.2)=B:=⟨_,rfl⟩
 rw [eA] at d1 b1 l1
 rw [eB] at d2 b2 l2
 rw [eA,eB]
 obtain ⟨hd,ehd⟩:∃ hd,(F1.1*F1.2.2.1,F1.1*F1.2.2.2.2.1)=hd:=⟨_,rfl⟩
 rw [ehd] at l1 l2 bh
 have ebk:(A.2.2.2,0 - A.2.1,0 - A.2.2.1,A.1)=Ax A:=by unfold Ax;rw [Int.zero_sub,Int.zero_sub]
 walk_at "rd"
 refine Dm rfl (Dm rfl (T7 A (Dm rfl (T7 B (Dm rfl ⟨Ay (by decide),Ak ((A.2.2.2,0 - A.2.1,0 - A.2.2.1,A.1),p) ⟨by rw [ebk];exact b1.back.le (by decide),hp.bp.le (by decide)⟩ (Ak (B,Ij (A.2.2.2,0 - A.2.1,0 - A.2.2.1,A.1) p) ⟨b2.le (by decide),by rw [ebk,l1];exact bh⟩ ⟨?_,?_⟩)⟩)))))
 ·simp only [LR,Ml,Mu,Lp,Bool.and_true]
 ·rw [ebk,l1,l2,Yz,decide_eq_true rfl]
  exact q'
theorem Af4 (x:Int):ab x*ab x=x*x:=by rcases Ar x with ⟨_,e⟩ | ⟨_,e⟩ <;> rw [e] <;> grind
noncomputable abbrev fN (n:Int):I3:=(1,0,0 - n)
theorem KC {n:Int}:meas (fN n)=4*n:=by show (0:Int)*0 - 4*1*(0 - n)=_;omega
theorem AaK {n:Int} (h:Num n):Sad (fN n):=by
 obtain ⟨h1,h2,h3⟩:=h
 refine ⟨?_,by rw [KC];omega,by rw [KC];omega⟩
 rw [KC]
 rintro ⟨r,e⟩
 obtain ⟨k,hk⟩:∃ k,r=2*k:=by
  rcases Int.emod_two_eq r with z | z
  ·exact ⟨r / 2,by omega⟩
  ·obtain ⟨k,hk⟩:∃ k,r=2*k+1:=⟨r / 2,by omega⟩
   have:r*r=4*(k*k+k)+1:=by rw [hk];grind
   omega
 have:r*r=4*(k*k):=by rw [hk];grind
 exact h3 ⟨k,by omega⟩
theorem Nt {n x y:Int}:val (fN n) (x,y)=x*x - n*(y*y):=by
 show 1*x*x+0*x*y+(0 - n)*y*y=_
 grind
theorem AlT {n:Int}:pl (fN n)=fN n:=by
 have g:g3 (fN n)=1:=by unfold g3;simp
 unfold pl
 rw [g]
 simp
structure Plus (n x y:Int):Prop where
 x1:1≤x
 y1:1≤y
 v:x*x - n*(y*y)=1
 l:∀ a b:Int,1≤a→1≤b→a*a - n*(b*b)=1→y≤b
 bx:Bt 1100 x
 bY:Bt 1100 y
theorem AfO {n f:Int} {L:Nat} (C:Aw n f L):B2 541 (Av n f (L - 1)).2:=by
 have:=C.lm
 exact ⟨(C.btx (L - 1)).le (by omega),(C.bty (L - 1)).le (by omega)⟩
theorem Abk {n f:Int} {L:Nat} (C:Aw n f L):1≤(Av n f (L - 1)).2.1∧1≤(Av n f (L - 1)).2.2:=by
 have F:=C.fr (L - 1)
 exact ⟨F.x0,F.y0⟩
theorem AdQ {n f:Int} {L:Nat} (C:Aw n f L) (hn:2≤n) (hm:n≤1000):Plus n (JT n f L).1 (JT n f L).2:=by
 have ev:=C.end_val
 obtain ⟨x1,y1⟩:=Abk C
 obtain ⟨bx,bY⟩:=AfO C
 have bn:Bt 11 n:=Bt.of (by omega) (by omega)
 have two:Bt 2 2:=Bt.of_abs (by decide)
 unfold JT
 rcases Jh (L - 1) with hs | hs
 ·rw [hs] at ev
  rw [if_neg (by rw [hs];decide)]
  generalize hp:(Av n f (L - 1)).2=p at *
  obtain ⟨x,y⟩:=p
  dsimp only at *
  have hx:0≤x*x:=sq_nonneg x
  have yy:1≤y*y:=Int.mul_le_mul y1 y1 (by decide) (by omega)
  have nyy:=Int.mul_le_mul_of_nonneg_left yy (show 0≤n by omega)
  have e2:n*y*y=n*(y*y):=Int.mul_assoc ..
  refine ⟨by rw [e2];omega,?_,?_,fun a b ha hb h=>?_,?_,?_⟩
  ·have:=Int.mul_le_mul x1 y1 (by decide) (by omega)
   have:2*x*y=2*(x*y):=Int.mul_assoc ..
   omega
  ·have:(x*x+n*y*y)*(x*x+n*y*y) - n*(2*x*y*(2*x*y))=(x*x - n*(y*y))*(x*x - n*(y*y)):=by grind
   rw [this,ev]
   rfl
  ·have:=C.plus_of_minus hs ha hb h
   rw [hp] at this
   exact this
  ·exact ((bx.mul bx).add (((bn.mul bY).mul bY).le (m:=1094) (by decide))).le (by decide)
  ·exact ((two.mul bx).mul bY).le (by decide)
 ·rw [hs] at ev
  rw [if_pos hs]
  refine ⟨x1,y1,by omega,fun a b ha hb h=>(C.none_lesser (.inl rfl) ha hb h).1,bx.le (by decide),bY.le (by decide)⟩
theorem Plus.uniq {n x y a b:Int} (P:Plus n x y) (n0:0 < n) (ha:1≤a) (hb:1≤b) (h:a*a - n*(b*b)=1) (l:b≤y):a=x∧b=y:=by
 have h1:=P.l a b ha hb h
 have e:b=y:=by omega
 subst e
 have:=P.v
 have x1:=P.x1
 refine ⟨?_,rfl⟩
 have e2:a*a=x*x:=by omega
 rcases Int.lt_trichotomy a x with z | z | z
 ·have:=Int.mul_le_mul (show a+1≤x by omega) (show a+1≤x by omega) (by omega) (by omega)
  have:(a+1)*(a+1)=a*a+2*a+1:=by grind
  omega
 ·exact z
 ·have:=Int.mul_le_mul (show x+1≤a by omega) (show x+1≤a by omega) (by omega) (by omega)
  have:(x+1)*(x+1)=x*x+2*x+1:=by grind
  omega
theorem ZJ {n x y x1 y1 x2 y2:Int} (n0:0 < n) (P:Plus n x y) (N:Nb n y x1 y1 x2 y2):x2=x∧y2=y∧above n x1 y1 x2 y2:=by
 obtain ⟨a1,b1,a2,b2,m1,m2,m,lo,hi,d⟩:=N
 have px:=P.x1
 have py:=P.y1
 have pv:=P.v
 have key:=Nb.none (n:=n) (most:=y) ⟨a1,b1,a2,b2,m1,m2,m,lo,hi,d⟩ (x:=x) (y:=y) (Int.le_refl _)
 have yy:1≤y*y:=Int.mul_le_mul py py (by decide) (by omega)
 have y1y:y1*y1≤y*y:=Int.mul_le_mul m1 m1 (by omega) (by omega)
 have y2y:y2*y2≤y*y:=Int.mul_le_mul m2 m2 (by omega) (by omega)
 have y22:1≤y2*y2:=Int.mul_le_mul b2 b2 (by decide) (by omega)
 have y11:1≤y1*y1:=Int.mul_le_mul b1 b1 (by decide) (by omega)
 have k2:x2*y≤x*y2:=by
  rcases key with z | z
  ·exfalso
   have h1:=Int.mul_le_mul z z (Int.mul_nonneg (by omega) (by omega)) (Int.mul_nonneg a1 (by omega))
   have e1:x*y1*(x*y1)=(x*x)*(y1*y1):=by grind
   have e2:x1*y*(x1*y)=(x1*x1)*(y*y):=by grind
   rw [e1,e2] at h1
   have h2:=Int.mul_le_mul_of_nonneg_right (show x1*x1+1≤n*(y1*y1) by omega) (show 0≤y*y by omega)
   have e3:(x1*x1+1)*(y*y)=x1*x1*(y*y)+y*y:=by grind
   have e4:x*x=n*(y*y)+1:=by omega
   rw [e4] at h1
   have e5:(n*(y*y)+1)*(y1*y1)=n*(y1*y1)*(y*y)+y1*y1:=by grind
   omega
  ·exact z
 have h1:=Int.mul_le_mul k2 k2 (Int.mul_nonneg a2 (by omega)) (Int.mul_nonneg (by omega) (by omega))
 have e1:x2*y*(x2*y)=(x2*x2)*(y*y):=by grind
 have e2:x*y2*(x*y2)=(x*x)*(y2*y2):=by grind
 have e4:x*x=n*(y*y)+1:=by omega
 rw [e1,e2,e4] at h1
 have e5:(n*(y*y)+1)*(y2*y2)=n*(y2*y2)*(y*y)+y2*y2:=by grind
 obtain ⟨e,he⟩:∃ e,x2*x2=n*(y2*y2)+e:=⟨x2*x2 - n*(y2*y2),by omega⟩
 rw [he] at h1
 have e6:(n*(y2*y2)+e)*(y*y)=n*(y2*y2)*(y*y)+e*(y*y):=by grind
 have h2:e*(y*y)≤y2*y2:=by omega
 have e1':1≤e:=by omega
 have ee:e=1:=by
  rcases Int.lt_or_le 1 e with z | z
  ·have:=Int.mul_le_mul_of_nonneg_right (show 2≤e by omega) (show 0≤y*y by omega)
   omega
  ·omega
 subst ee
 have y2e:y2=y:=by
  rcases Int.lt_or_le y2 y with z | z
  ·have:=Int.mul_le_mul (show y2+1≤y by omega) (show y2+1≤y by omega) (by omega) (by omega)
   have:(y2+1)*(y2+1)=y2*y2+2*y2+1:=by grind
   omega
  ·omega
 have x20:1≤x2:=by
  rcases Int.lt_or_le 0 x2 with z | z
  ·omega
  ·have:x2=0:=by omega
   subst this
   have:=Int.mul_nonneg (show 0≤n by omega) (show 0≤y2*y2 by omega)
   omega
 have ux:=(P.uniq n0 x20 b2 (by omega) m2).1
 refine ⟨ux,y2e,?_⟩
 obtain ⟨d1,hd1⟩:∃ d1,x1*x1=n*(y1*y1) - d1:=⟨n*(y1*y1) - x1*x1,by omega⟩
 have d11:1≤d1:=by omega
 have lt1:x1*x2 < n*(y1*y2):=by
  refine Rj (Int.mul_nonneg (by omega) (Int.mul_nonneg (by omega) (by omega))) ?_
  have f1:x1*x2*(x1*x2)=(x1*x1)*(x2*x2):=by grind
  rw [f1,hd1,he]
  have f2:(n*(y1*y1) - d1)*(n*(y2*y2)+1)=n*(y1*y2)*(n*(y1*y2))+(n*(y1*y1) - d1*(n*(y2*y2)) - d1):=by grind
  rw [f2]
  have f3:=Int.mul_le_mul_of_nonneg_left (show y1*y1≤y2*y2 by rw [y2e];exact y1y) (show 0≤n by omega)
  have f4:=Int.mul_le_mul_of_nonneg_right d11 (show 0≤n*(y2*y2) from Int.mul_nonneg (by omega) (by omega))
  omega
 unfold above
 have f1:(x1*y2+x2*y1)*(x1*y2+x2*y1)=(x1*x1)*(y2*y2)+(x2*x2)*(y1*y1)+2*(x1*x2*(y1*y2)):=by grind
 have f2:n*(2*y1*y2)*(2*y1*y2)=4*(n*(y1*y1)*(y2*y2)):=by grind
 rw [f1,f2,hd1,he]
 have f3:(n*(y1*y1) - d1)*(y2*y2)+(n*(y2*y2)+1)*(y1*y1)=2*(n*(y1*y1)*(y2*y2)) - d1*(y2*y2)+y1*y1:=by grind
 rw [f3]
 have yp:1≤y1*y2:=Int.mul_le_mul b1 b2 (by decide) (by omega)
 have f4:=Int.mul_lt_mul_of_pos_right lt1 (show 0 < y1*y2 by omega)
 have f5:n*(y1*y2)*(y1*y2)=n*(y1*y1)*(y2*y2):=by grind
 have f6:=Int.mul_le_mul_of_nonneg_right d11 (show 0≤y2*y2 by omega)
 have f7:y1*y1≤y2*y2:=by rw [y2e];exact y1y
 omega
structure Acj (n f:Int) (L:Nat):Prop where
 N:Num n
 C:Aw n f L
noncomputable abbrev Iu:DSp:=spec (fun p:Int × Int × Nat=>[.int p.1,t3 (fN p.1),t2 (JT p.1 p.2.1 p.2.2),.int p.2.2]) (fun p=>Acj p.1 p.2.1 p.2.2) fun _ d=>d=.bl true
theorem RJ (T:Txt K mg)
  (G_minus_one:Pm P w K mg base 5 "minus_one" Ft ["number"] Mw)
  (G_heads:Pm P w K mg base 13 "heads" Il ["form","number"] QV)
  (G__law_wholes:Pm P w K mg base 2 "_law_wholes" Ca ["_law_found","_law_many_here"] Cu)
  (G_fraction:Pm P w K mg base 5 "fraction" Gm ["number","k"] J2)
  (G_whence:Pm P w K mg base 13 "whence" GD ["form","number","point"] NZ)
  : Pm P w K mg base 14 "_law_minus" Ei ["_law_number_here","_law_form","_law_plus","_law_many_here"] Iu:=by
 obtain ⟨f,fd,F⟩:=T.t__law_minus
 refine ⟨f,fd,F,F.fn.okD Eu (by walk_at "lE") fun cdv A outer s H E hr=>⟨_,(Ad (Al 4 Eu.nd (Ag Ae G_minus_one (hr.mono (by decide)) rfl (Aa (dv 0) Af))) (Ad (Al 5 Eu.nd (Ag Ae G_heads (hr.mono (by decide)) rfl (Aa (dv 1) (Aa (DN Ac) Af)))) (Ad (BZ (AhL (dv 4) Qx) (Ah (Aq (Q6 (MJ hr.units (dv 5) (AhW Af)) (Q6 (MJ hr.units (Hw (dv 3) Ac) Ac) (N5 (MJ hr.units (Ag Ae G_fraction (hr.mono (by decide)) rfl (Aa (dv 0) (Aa (Bv (dv 3) Ac) Af))) (dv 2))))))) Bg) (Ad (BZ (DW.dt (G5 (Gj (Fj (Ag Ae G__law_wholes (hr.mono (by decide)) rfl (Aa (dv 4) (Aa Ac Af))))) (G5 (Fy hr.units (Ka T.z_len (Aa (dv 5) Af)) Ac) (G5 (JQ hr.units (Hw (dv 3) Ac) Ac) (Jw (Fy hr.units (Ag Ae G_fraction (hr.mono (by decide)) rfl (Aa (dv 0) (Aa (Bv (dv 3) Ac) Af))) (dv 4))))))) (Ah (Aq KY)) Bg) (Ad (Tj (dv 4) (Tg (n:=2) rfl (CG (Cv 6 Eu.nd) (CG (Cv 7 Eu.nd) Py)))) (Ad (BZ (DW.dt (G5 (M4 (dv 6) Ac) (G5 (M4 (dv 7) Ac) (G5 (Fy hr.units (Bv (Am (dv 6) (dv 6)) (Am (Am (dv 0) (dv 7)) (dv 7))) (DN Ac)) (Jw (Fy hr.units (Ab (Ag Ae G_whence (hr.mono (by decide)) rfl (Aa (dv 1) (Aa (DN Ac) (Aa (dv 4) Af)))) Ac) Ac)))))) (Ah (Aq KY)) Bg) (Ah (Aq (MJ hr.units (Bj (Aa (Bm (Am (dv 6) (dv 6)) (Am (Am (dv 0) (dv 7)) (dv 7))) (Aa (Am (Am Ac (dv 6)) (dv 7)) Af))) (dv 2)))))))))),fun ds Q h=>?_⟩⟩
 obtain ⟨⟨n,f,L⟩,rfl,hP,q⟩:=h
 have hP:Acj n f L:=hP
 have q':Q (.bl true):=q _ rfl
 have N:=hP.N
 have C:=hP.C
 have n2:=N.1
 have n3:=N.2.1
 have l0:=C.l0
 have lm:=C.lm
 have S:=AaK N
 have ev:=C.end_val
 have bn:Bt 11 n:=N.bt
 have bfN:B3 12 (fN n):=⟨Bt.one.le (by decide),Bt.zero.le (by decide),by show Bt 12 (0 - n);rw [Int.zero_sub];exact bn.neg.le (by decide)⟩
 have fam:Jd (fN n) (-1):=⟨bfN.le (by decide),.inr S,by decide,by decide,fun b=>by have:=b.2;have:=S.pos;omega,by rw [KC];exact (Bt.of (by omega) (by omega):Bt 13 (4*n)).le (by decide)⟩
 obtain ⟨x1,y1⟩:=Abk C
 obtain ⟨bx,bY⟩:=AfO C
 walk_at "go"
 refine Az n N ?_
 rintro _ ⟨f',L',C',rfl⟩
 obtain ⟨rfl,rfl⟩:=C'.uniq C
 refine Az (fN n,-1) fam ?_
 rintro _ ⟨r,hr20,sr,rfl,al⟩
 have al:Eo (fN n) (-1) r:=al
 have sr:Sq ((-1:Int).natAbs) r:=sr
 have fr:∀ {R:Dt→Prop},R (t2 (Av n f' (L' - 1)).2)→J2 [.int n,.int ((L':Int) - 1)] R:=fun {R} h=>by
  have e:((L':Int) - 1)=((L' - 1:Nat):Int):=by omega
  rw [e]
  refine Az (n,L' - 1) ⟨N,by show L' - 1≤300;omega⟩ ?_
  rintro _ ⟨f2,L2,C2,rfl⟩
  obtain ⟨rfl,rfl⟩:=C2.uniq C
  exact h
 have lmod:(L':Int).fmod 2=(L':Int) % 2:=Int.fmod_eq_emod_of_nonneg _ (by decide)
 have sgm:=AbD (L' - 1)
 rcases Jh (L' - 1) with hs | hs
 ·rw [hs] at ev sgm
  have em:Lj n f' L'=t2 (Av n f' (L' - 1)).2:=by unfold Lj;rw [if_pos hs]
  have ep:JT n f' L'=((Av n f' (L' - 1)).2.1*(Av n f' (L' - 1)).2.1+n*(Av n f' (L' - 1)).2.2*(Av n f' (L' - 1)).2.2,2*(Av n f' (L' - 1)).2.1*(Av n f' (L' - 1)).2.2):=by unfold JT;rw [if_neg (by rw [hs];decide)]
  dsimp only
  rw [em,ep]
  generalize (Av n f' (L' - 1)).2=p at *
  obtain ⟨x,y⟩:=p
  dsimp only at *
  have hv:val (fN n) (x,y)=-1:=by rw [Nt];omega
  have one:=Wc (.inr rfl) al sr hv
  have e3:n*y*y=n*(y*y):=Int.mul_assoc ..
  have two:Bt 2 2:=Bt.of_abs (by decide)
  have bx:Bt 541 x:=bx
  have bY:Bt 541 y:=bY
  walk_at "rd"
  refine Zj (x,y) (Dm rfl (Dm (by rw [one];rfl) ⟨by decide,Dm (decide_eq_false (by split at sgm <;> omega)) (fr ?_)⟩))
  refine ⟨by simp only [LR,Ml,Mu,Lp,Bool.and_true],Dm (by rw [Yz,decide_eq_true rfl];rfl) (Dm (decide_eq_false (by omega)) (Dm (decide_eq_false (by omega)) ⟨bx.mulOk bx,bn.mulOk bY,(bn.mul bY).mulOk bY,Dm (by rw [decide_eq_true (by omega)];rfl) (Az (fN n,-1,(x,y)) ⟨fam,hv,⟨bx.le (by decide),bY.le (by decide)⟩,bfN.le (by decide)⟩ ?_)⟩))⟩
  rintro _ ⟨T',k,F',W',rfl⟩
  obtain ⟨rfl,_⟩:=Uv (.inr rfl) al sr W'
  walk_at "rd"
  refine Dm rfl ⟨bx.mulOk bx,bn.mulOk bY,(bn.mul bY).mulOk bY,two.mulOk bx,(two.mul bx).mulOk bY,Ay (by decide),?_⟩
  simpa using q'
 ·rw [hs] at ev sgm
  have em:Lj n f' L'=.non:=by unfold Lj;rw [if_neg (by rw [hs];decide)]
  have ep:JT n f' L'=(Av n f' (L' - 1)).2:=by unfold JT;rw [if_pos hs]
  dsimp only
  rw [em,ep]
  have none:DP (fN n) (-1) r=[]:=by
   cases hq:DP (fN n) (-1) r with
   | nil=>rfl
   | cons a b =>
    exfalso
    obtain ⟨F',hF,_⟩:=Ii (show a∈DP (fN n) (-1) r by rw [hq];exact List.mem_cons_self)
    have hv:=AdU al (by decide) hF
    rw [Nt] at hv
    generalize F'.1*F'.2.2.1=x at *
    generalize F'.1*F'.2.2.2.2.1=y at *
    have ax:=Int.natAbs_mul_self' x
    have ay:=Int.natAbs_mul_self' y
    have y0:1≤(y.natAbs:Int):=by
     rcases Nat.eq_zero_or_pos y.natAbs with z | z
     ·have:y=0:=Int.natAbs_eq_zero.mp z
      subst this
      have:=sq_nonneg x
      omega
     ·omega
    have x0:1≤(x.natAbs:Int):=by
     rcases Nat.eq_zero_or_pos x.natAbs with z | z
     ·have:x=0:=Int.natAbs_eq_zero.mp z
      subst this
      have h1:=Int.mul_le_mul y0 y0 (by decide) (by omega)
      have h2:=Int.mul_le_mul_of_nonneg_left (show 1≤y*y by omega) (show 0≤n by omega)
      omega
     ·omega
    have:=(C.none_lesser (.inr rfl) x0 y0 (by rw [ax,ay];exact hv)).2 hs
    omega
  rw [none]
  walk_at "rd"
  refine ⟨Nat.zero_le _,rfl,ift rfl ⟨by decide,ift (decide_eq_true (by split at sgm <;> omega)) (fr ⟨by simp only [LR,Ml,Mu,Lp,Bool.and_true],?_⟩)⟩⟩
  rw [Yz,decide_eq_true rfl]
  exact q'
theorem AhT (T:Txt K mg)
  (G__law_number:Pm P w K mg base 2 "_law_number" Dv ["_law_cell_here"] J1)
  (G_plus_one:Pm P w K mg base 5 "plus_one" Gv ["number"] Oq)
  (G_step_of:Pm P w K mg base 8 "step_of" Hs ["form"] Qf)
  (G__law_many:Pm P w K mg base 2 "_law_many" Fx ["_law_step","_law_count"] Nf)
  (G__law_cell:Pm P w K mg base 1 "_law_cell" Fp ["_law_script","_law_k"] JF)
  (G__law_minus:Pm P w K mg base 14 "_law_minus" Ei ["_law_number_here","_law_form","_law_plus","_law_many_here"] Iu)
  (G__law_wholes:Pm P w K mg base 2 "_law_wholes" Ca ["_law_found","_law_many_here"] Cu)
  (G__law_whence:Pm P w K mg base 14 "_law_whence" DK ["_law_form","_law_point","_law_other"] J0)
  (G_chain:Pm P w K mg base 4 "chain" Gx ["number"] Jm)
  (G_nearest:Pm P w K mg base 5 "nearest" Hg ["number","most"] La)
  (G_heads:Pm P w K mg base 13 "heads" Il ["form","number"] QV)
  : Pm P w K mg base 15 "law" K1 ["_law_script"] Uc:=by
 obtain ⟨f,fd,F⟩:=T.t_law
 refine ⟨f,fd,F,F.fn.okD Kh (by walk_at "lE") fun cdv A outer s H E hr=>⟨_,(Ad (Al 1 Kh.nd (Ag Ae G__law_number (hr.mono (by decide)) rfl (Aa (Ag Ae G__law_cell (hr.mono (by decide)) rfl (Aa (dv 0) (Aa Ac Af))) Af))) (Ad (Al 2 Kh.nd (Bj (Aa Ac (Aa Ac (Aa (Bv Ac (dv 1)) Af))))) (Ad (Al 3 Kh.nd (Ag Ae G_plus_one (hr.mono (by decide)) rfl (Aa (dv 1) Af))) (Ad (Al 4 Kh.nd (Ag Ae G_step_of (hr.mono (by decide)) rfl (Aa (dv 2) Af))) (Ad (BZ (DW.dt (G5 (Gj (Fj (Ag Ae G__law_wholes (hr.mono (by decide)) rfl (Aa (dv 3) (Aa Ac Af))))) (G5 (Gj (Fj (Ag Ae G__law_wholes (hr.mono (by decide)) rfl (Aa (dv 4) (Aa Ac Af))))) (Jw (Fy hr.units (dv 3) (Bj (Aa (Ab (dv 4) Ac) (Aa (Ab (dv 4) Ac) Af)))))))) (Ah (Aq KY)) Bg) (Ad (Al 5 Kh.nd (Ag Ae G__law_many (hr.mono (by decide)) rfl (Aa (dv 4) (Aa (Bv (Hw (Ag0 T.z_sum (Aa (PK (Gk (sc:=Ai K1) (NN:=["_law_script","_law_number_here","_law_form","_law_plus","_law_step","_law_turn","_law_point","_law_many_here"]) (x:="_law_cell_here") (N:=[]) (sl:=[]) rfl rfl (by decide +kernel)) rfl (Nu (Aa3 (dv 0) (Zb Ac) (Zb Ac))) (fun cl C s0 H0 ex=>(Bv (Hw (dv 0) Ac) Ac))) Af)) Ac) Ac) Af)))) (Ad (Al 6 Kh.nd (Bj (Aa (Ab (dv 5) Ac) (Aa (Ab (dv 5) Ac) Af)))) (Ad (BZ (DW.dt (G5 (Fy hr.units (Bv (Am (Ab (dv 6) Ac) (Ab (dv 6) Ac)) (Am (Am (dv 1) (Ab (dv 6) Ac)) (Ab (dv 6) Ac))) Ac) (Jw (Fy hr.units (Ka T.z_len (Aa (Ag Ae G_heads (hr.mono (by decide)) rfl (Aa (dv 2) (Aa Ac Af))) Af)) Ac)))) (Ah (Aq KY)) Bg) (Ad (BZ (DW.dt (G5 (Gj (Fj (Ag Ae G__law_whence (hr.mono (by decide)) rfl (Aa (dv 2) (Aa (dv 6) (Aa (dv 3) Af)))))) (Jw (Gj (Fj (Ag Ae G__law_whence (hr.mono (by decide)) rfl (Aa (dv 2) (Aa (Bj (Aa (Bv Ac (Ab (dv 6) Ac)) (Aa (Ab (dv 6) Ac) Af))) (Aa (dv 6) Af))))))))) (Ah (Aq KY)) Bg) (Ad (Al 7 Kh.nd (Bv (Ka T.z_len (Aa (Ag Ae G_chain (hr.mono (by decide)) rfl (Aa (dv 1) Af)) Af)) Ac)) (Ad (BZ (Gj (Fj (Ag Ae G__law_minus (hr.mono (by decide)) rfl (Aa (dv 1) (Aa (dv 2) (Aa (dv 3) (Aa (dv 7) Af))))))) (Ah (Aq KY)) Bg) (Ah (Aq (AfM (AaX (Ab (dv 3) Ac) (AgQ Ac Ac)) (N5 (MJ hr.units (Ag Ae G_nearest (hr.mono (by decide)) rfl (Aa (dv 1) (Aa (Ab (dv 3) Ac) Af))) (dv 3))))))))))))))))),fun ds Q h=>?_⟩⟩
 obtain ⟨ns,rfl,hl,q⟩:=h
 have hl:ns.length≤63:=hl
 have q':Q (.bl true):=q _ rfl
 walk_at "go"
 refine AcZ ns 0 (by decide) (Az _ trivial ?_)
 rintro _ ⟨n,rfl,N⟩
 have N:Num n:=N
 have n2:=N.1
 have n3:=N.2.1
 have S:=AaK N
 have bn:Bt 11 n:=N.bt
 have bfN:B3 12 (fN n):=⟨Bt.one.le (by decide),Bt.zero.le (by decide),by show Bt 12 (0 - n);rw [Int.zero_sub];exact bn.neg.le (by decide)⟩
 walk_at "rd"
 refine ⟨Ay (by decide),Az n N ?_⟩
 rintro _ ⟨f,L,C,rfl⟩
 have C:Aw n f L:=C
 have P:=AdQ C n2 n3
 obtain ⟨X,Y,eXY⟩:∃ X Y,JT n f L=(X,Y):=⟨_,_,rfl⟩
 have P1:Plus n X Y:=by rw [eXY] at P;exact P
 clear P
 refine Az (fN n) ⟨bfN.le (by decide),S⟩ ?_
 rintro _ ⟨t0,far,M,v,R,rfl,e4,_,_⟩
 have R:Ip (fN n) t0 far M:=R
 obtain ⟨u1,bu,ul⟩:=WY S R e4
 have e5:ab (tr (rT far M (mov (fN n) t0)))*ab (tr (rT far M (mov (fN n) t0))) - meas (pl (fN n))*(ab v*ab v)=4:=by
  rw [Af4,Af4]
  exact e4
 have t0':=Bh (tr (rT far M (mov (fN n) t0)))
 obtain ⟨p,st,s1,s2,s3,s4⟩:=ZG e5
 unfold Af3
 rw [s1,s2]
 rw [AlT] at s3 s4 st ul e5 ⊢
 rw [KC] at e5 ul
 obtain ⟨w,ew⟩:∃ w,ab v=w:=⟨_,rfl⟩
 rw [ew] at s3 s4 st ul e5 u1 bu ⊢
 generalize ab (tr (rT far M (mov (fN n) t0)))=tt at *
 dsimp only at s3 s4 st ul e5
 have pv:p*p - n*(w*w)=1:=by
  have e6:tt=2*p:=by omega
  rw [e6] at e5
  have e7:2*p*(2*p) - 4*n*(w*w)=4*(p*p - n*(w*w)):=by grind
  omega
 have ww:1≤w*w:=Int.mul_le_mul u1 u1 (by decide) (by omega)
 have p0:1≤p:=by
  have:0≤p:=by omega
  rcases Int.lt_or_le 0 p with z | z
  ·omega
  ·have:p=0:=by omega
   subst this
   have:=Int.mul_le_mul_of_nonneg_left ww (show 0≤n by omega)
   omega
 have wl:w≤Y:=ul (2*X) Y P1.y1 (by
  have:=P1.v
  have e7:2*X*(2*X) - 4*n*(Y*Y)=4*(X*X - n*(Y*Y)):=by grind
  omega)
 obtain ⟨rfl,rfl⟩:=P1.uniq (by omega) p0 u1 pv wl
 have pw:p≤32*w:=by
  rcases Int.lt_or_le (32*w) p with z | z
  ·have h1:=Int.mul_le_mul (show 32*w+1≤p by omega) (show 32*w+1≤p by omega) (by omega) (by omega)
   have h2:(32*w+1)*(32*w+1)=1024*(w*w)+64*w+1:=by grind
   have h3:=Int.mul_le_mul_of_nonneg_right n3 (show 0≤w*w by omega)
   omega
  ·exact z
 have b32:Bt 6 32:=Bt.of_abs (by decide)
 have bp:Bt 500 p:=by
  have:=b32.mul bu
  unfold Bt at *
  have e8:(32*w).natAbs=(32*w).toNat:=by omega
  have:(2:Nat) ^ (6+490)≤2 ^ 500:=Nat.pow_le_pow_right (by decide) (by decide)
  omega
 obtain ⟨St,eSt⟩:∃ St:I4,(p,-(0 - n)*w,1*w,p+0*w)=St:=⟨_,rfl⟩
 rw [eSt] at s3 s4
 have bS:B4 510 St:=by
  rw [←eSt]
  refine ⟨bp.le (by decide),?_,?_,?_⟩
  ·show Bt 510 (-(0 - n)*w)
   rw [show -(0 - n)=n by omega]
   exact (bn.mul bu).le (by decide)
  ·show Bt 510 (1*w)
   rw [Int.one_mul];exact bu.le (by decide)
  ·show Bt 510 (p+0*w)
   rw [Int.zero_mul,Int.add_zero];exact bp.le (by decide)
 rw [eXY]
 have eT:T4 p (-(0 - n)*w) (1*w) (p+0*w)=t4 St:=by rw [←eSt]
 rw [eT]
 have sx:St.1=p:=by rw [←eSt]
 have sy:St.2.2.1=w:=by rw [←eSt];show 1*w=w;omega
 walk_at "rd"
 have fam:Jd (fN n) 1:=⟨bfN.le (by decide),.inr S,by decide,by decide,fun b=>by have:=b.2;have:=S.pos;omega,by rw [KC];exact (Bt.of (by omega) (by omega):Bt 13 (4*n)).le (by decide)⟩
 have cp:Yi 10 60:=⟨by decide,by decide,by decide⟩
 obtain ⟨cs,ec,hcs⟩:=Aci ns (some 1) (some 63)
 refine Zj (p,w) (Dm rfl (T7 St (Dm rfl ⟨Ay (by decide),Dm (by rw [sx,sy];simp) (Qj ?_)⟩)))
 walk_at "rd"
 rw [ec]
 refine Ku (cs.map Dt.int) (fun d=>match d with | .int i=>.int (i.fmod 3 - 1) | _=>.non) (fun R h=>h) (by rw [List.length_map];exact Ay (by omega)) Fg (fun d hd R hR=>?_) ?_
 ·obtain ⟨i,_,rfl⟩:=List.mem_map.mp hd
  unfold inner
  walk_at "rd"
  exact ⟨by decide,hR⟩
 have rs:=Mq (cs.map fun i:Int=>i.fmod 3 - 1).sum (m:=19) (by decide)
 refine ⟨cs.map (fun i:Int=>i.fmod 3 - 1),by rw [List.map_map,List.map_map];rfl,by decide,Az ((fN n,St),(cs.map fun i:Int=>i.fmod 3 - 1).sum.fmod 19 - 9) ⟨s3,s4,bS,by show -9≤_;omega,by show _≤(9:Int);omega⟩ ?_⟩
 rintro _ ⟨t,rfl,dt,mt,bt⟩
 have mt:mov (fN n) t=fN n:=mt
 have bt:B4 5200 t:=bt
 have hv:val (fN n) (t.1,t.2.2.1)=1:=by
  have h1:=AcQ (f:=fN n) (t:=t) (p:=(1,0))
  rw [mt,Nt] at h1
  have h2:Ij t (1,0)=(t.1,t.2.2.1):=by
   unfold Ij
   refine Prod.ext ?_ ?_
   ·show t.1*1+t.2.1*0=t.1;omega
   ·show t.2.2.1*1+t.2.2.2*0=t.2.2.1;omega
  rw [h2] at h1
  omega
 have hv':=hv
 rw [Nt] at hv'
 have hw:val (fN n) (0 - t.1,t.2.2.1)=1:=by
  rw [Nt]
  have:(0 - t.1)*(0 - t.1)=t.1*t.1:=by rw [Int.zero_sub,Int.neg_mul_neg]
  omega
 have hp1:val (fN n) (p,w)=1:=by rw [Nt];exact pv
 have e9:n*t.2.2.1*t.2.2.1=n*(t.2.2.1*t.2.2.1):=Int.mul_assoc ..
 have pt:∀ {z:I2},val (fN n) z=1→B2 8900 z→K5 (fN n) 1 z:=fun {z} h b=>⟨fam,h,b,bfN.le (by decide)⟩
 have pt1:=pt hv ⟨bt.1.le (by decide),bt.2.2.1.le (by decide)⟩
 have pt2:=pt hp1 ⟨bp.le (by decide),bu.le (by decide)⟩
 have pt3:=pt hw ⟨by show Bt 8900 (0 - t.1);rw [Int.zero_sub];exact bt.1.neg.le (by decide),bt.2.2.1.le (by decide)⟩
 walk_at "rd"
 refine ⟨Ay (by decide),bt.1.mulOk bt.1,bn.mulOk bt.2.2.1,(bn.mul bt.2.2.1).mulOk bt.2.2.1,Dm (by rw [decide_eq_true (by omega)];rfl) (Az (fN n,1) fam ?_)⟩
 rintro _ ⟨r,hr20,sr,rfl,al⟩
 have al:Eo (fN n) 1 r:=al
 have sr:Sq ((1:Int).natAbs) r:=sr
 have one:=Wc (.inl rfl) al sr hv
 walk_at "rd"
 refine Dm (by rw [one];rfl) (Az (fN n,(t.1,t.2.2.1),(p,w)) ⟨pt1,pt2,r,hr20,sr,al⟩ ?_)
 rintro _ rfl
 refine Dm rfl ⟨Ay (by decide),Az (fN n,(0 - t.1,t.2.2.1),(t.1,t.2.2.1)) ⟨pt3,pt1,r,hr20,sr,al⟩ ?_⟩
 rintro _ rfl
 refine Dm rfl (Az n N ?_)
 rintro _ ⟨f2,L2,C2,rfl⟩
 obtain ⟨rfl,rfl⟩:=C2.uniq C
 walk_at "rd"
 rw [List.length_range,show (((L2+1:Nat):Int) - 1)=((L2:Nat):Int) by omega]
 have tail:Yi 10 60∧if decide (10 ^ Int.toNat 60 < w)=true then Q (.bl true) else La [.int n,.int w] fun a=>Dt.flat 8 a=true∧Q (.bl (a.eq (t2 (p,w)))):=by
  refine ⟨cp,MP (fun _=>q') (fun h=>?_)⟩
  have h:¬ 10 ^ Int.toNat 60 < w:=fun z=>h (decide_eq_true z)
  have e10:(10:Int) ^ Int.toNat 60 < 2 ^ 200:=by decide
  refine Az (n,w) ⟨N,u1,Bt.of (show -(2 ^ 200) < w by omega) (show w < 2 ^ 200 by omega)⟩ ?_
  rintro _ ⟨x1,y1,x2,y2,_,Nb',_,_,H⟩
  have Nb':Nb n w x1 y1 x2 y2:=Nb'
  obtain ⟨rfl,rfl,ab'⟩:=ZJ (by omega) P1 Nb'
  rcases H with ⟨z,_⟩ | ⟨_,rfl⟩
  ·exact absurd ab' z
  ·refine ⟨by simp only [LR,Ml,Mu,Lp,Bool.and_true],?_⟩
   show Q (.bl (Dt.eq (t2 (x2,y2)) (t2 (x2,y2))))
   rw [Yz,decide_eq_true rfl]
   exact q'
 have minus_of:∀ {R:Dt→Prop},R (.bl true)→Iu [.int n,t3 (fN n),t2 (p,w),.int ((L2:Nat):Int)] R:=fun {R} h=>by
  rw [←eXY]
  exact Az (n,f2,L2) ⟨N,C⟩ (by rintro _ rfl;exact h)
 exact minus_of (Dm rfl tail)
end
noncomputable abbrev nF (K:PySem.W.Frag) (n:Str) (s:Stmt):Prop:=∃ (f:Addr) (oc:Value) (od:Option Addr) (kV dc pm:Value) (an:Option Addr) (cd ct:Value) (sl:Array (Option Value)),PySem.W.nsIn K mainGlobals n=some (some (.ref f))∧K.lookup f=some ⟨oc,od,.func (PySem.W.fnOf n n (Ej s) (Dn s) (Ai s) .none kV dc pm an cd ct),sl⟩∧PySem.W.codeIn K cd n=true∧PySem.W.keepIn K (.ref f)=true
theorem Af1 {K:PySem.W.Frag} {n:Str} {s:Stmt} {f:Addr} {od an:Option Addr} {sl:Array (Option Value)} {oc kV dc pm cd ct:Value} (a:PySem.W.nsIn K mainGlobals n=some (some (.ref f))) (l:K.lookup f=some ⟨oc,od,.func (PySem.W.fnOf n n (Ej s) (Dn s) (Ai s) .none kV dc pm an cd ct),sl⟩) (c:PySem.W.codeIn K cd n=true) (k:PySem.W.keepIn K (.ref f)=true):nF K n s:=⟨f,oc,od,kV,dc,pm,an,cd,ct,sl,a,l,c,k⟩
theorem tM {K:PySem.W.Frag} {h:Heap} {mg:Str→Option Value} {n:Str} {s:Stmt} {ps:List Str} (X:K.In h) (G:h.Ns mainGlobals mg) (H:nF K n s)
  (hb:∀ (kV doc pm:Value) (an:Option Addr) (cdv ct:Value) (us:List Value),us.length=ps.length→bindArgs (PySem.W.fnOf n n (Ej s) (Dn s) (Ai s) .none kV doc pm an cdv ct) ⟨us,[]⟩=pure (ps.zip us)):∃ f fd,FnT K mg n s ps f fd:=by
 obtain ⟨f,oc,od,kV,dc,pm,an,cd,ct,sl,a,l,c,k⟩:=H
 have F:=NP (st:=s) l c k
 exact ⟨_,_,F,PySem.W.mg_of X G a,F.binds hb⟩
set_option maxHeartbeats 8000000 in
theorem all_mk {l:PySem.W.OpenLaw} {w:World} {K:PySem.W.Frag} {h:Heap} {mg:Str→Option Value} {fa:Addr} (X:K.In h) (G:h.Ns mainGlobals mg) (hfa:mg "law"=some (.ref fa))
  (h0:nF K "divisor" Hq)
  (h1:nF K "shares" Jg)
  (h2:nF K "row_less" Gp)
  (h3:nF K "root" Ja)
  (h4:nF K "is_square" Ea)
  (h5:nF K "check_at_most" BL)
  (h6:nF K "check_within" Dd)
  (h7:nF K "check_number" Dl)
  (h8:nF K "chain" Gx)
  (h9:nF K "row_behind" Eh)
  (h10:nF K "part_of" Gn)
  (h11:nF K "fraction" Gm)
  (h12:nF K "fraction_of" CP)
  (h13:nF K "first_pair" Dq)
  (h14:nF K "pair_behind" Cr)
  (h15:nF K "plus_one" Gv)
  (h16:nF K "minus_one" Ft)
  (h17:nF K "point_of_round" BX)
  (h18:nF K "square_less" CQ)
  (h19:nF K "is_turn" Hr)
  (h20:nF K "check_turn" Ds)
  (h21:nF K "put_behind" BK)
  (h22:nF K "back" J3)
  (h23:nF K "measure" Dc)
  (h24:nF K "value" JG)
  (h25:nF K "content" Ht)
  (h26:nF K "moved" G7)
  (h27:nF K "middle" Jl)
  (h28:nF K "shape" Hf)
  (h29:nF K "check_bowl" Ed)
  (h30:nF K "stands_least" Df)
  (h31:nF K "settled" Hj)
  (h32:nF K "turn_lower" Ef)
  (h33:nF K "check_saddle" Ci)
  (h34:nF K "stands_level" Di)
  (h35:nF K "turn_behind" Dy)
  (h36:nF K "stop_behind" CT)
  (h37:nF K "eased" Ky)
  (h38:nF K "stops_round" CV)
  (h39:nF K "lowered" Hh)
  (h40:nF K "step_of" Hs)
  (h41:nF K "step_pair" Fo)
  (h42:nF K "shape_of" Fi)
  (h43:nF K "way_between" Dw)
  (h44:nF K "heads" Il)
  (h45:nF K "families" Fl)
  (h46:nF K "roots_of_square_divisors" Ba)
  (h47:nF K "feet" J5)
  (h48:nF K "whence" GD)
  (h49:nF K "turn_to_foot" CZ)
  (h50:nF K "nearest" Hg)
  (h51:nF K "last_pair_within" BW)
  (h52:nF K "nearer" Jk)
  (h53:nF K "_law_cell" Fp)
  (h54:nF K "_law_whole" El)
  (h55:nF K "_law_wholes" Ca)
  (h56:nF K "_law_root" Fv)
  (h57:nF K "_law_led" Gq)
  (h58:nF K "_law_put" Gw)
  (h59:nF K "_law_number" Dv)
  (h60:nF K "_law_many" Fx)
  (h61:nF K "_law_minus" Ei)
  (h62:nF K "_law_whence" DK)
  (h63:nF K "law" K1)
  (z_abs:PySem.W.nsIn K mainGlobals "abs"=some none)
  (z_bool:PySem.W.nsIn K mainGlobals "bool"=some none)
  (z_int:PySem.W.nsIn K mainGlobals "int"=some none)
  (z_isinstance:PySem.W.nsIn K mainGlobals "isinstance"=some none)
  (z_len:PySem.W.nsIn K mainGlobals "len"=some none)
  (z_max:PySem.W.nsIn K mainGlobals "max"=some none)
  (z_min:PySem.W.nsIn K mainGlobals "min"=some none)
  (z_range:PySem.W.nsIn K mainGlobals "range"=some none)
  (z_sorted:PySem.W.nsIn K mainGlobals "sorted"=some none)
  (z_sum:PySem.W.nsIn K mainGlobals "sum"=some none)
  (z_tuple:PySem.W.nsIn K mainGlobals "tuple"=some none)
  {CS_Shape gS_Shape:Addr} {odS_Shape anS_Shape:Option Addr} {slS_Shape:Array (Option Value)} {ocS_Shape kVS_Shape dcS_Shape pmS_Shape cdS_Shape ctS_Shape:Value}
  (aS_Shape:PySem.W.nsIn K mainGlobals "Shape"=some (some (.ref CS_Shape))) (sS_Shape:PySem.W.specialIn K (.ref CS_Shape) "__getattribute__"=some (some (.builtin "type.__getattribute__"))) (rS_Shape:PySem.W.readsIn K CS_Shape (.type "type")=true) (fS_Shape:PySem.W.findCls K (.ref CS_Shape) (.type "type") "__init__"=some (.val (.ref gS_Shape)))
  (lS_Shape:K.lookup gS_Shape=some ⟨ocS_Shape,odS_Shape,.func (PySem.W.fnOf "__init__" "Shape.__init__" (Ej Jj) (Dn Jj) (Ai Jj) .none kVS_Shape dcS_Shape pmS_Shape anS_Shape cdS_Shape ctS_Shape),slS_Shape⟩) (cS_Shape:PySem.W.codeIn K cdS_Shape "Shape.__init__"=true) (kS_Shape:PySem.W.keepIn K (.ref gS_Shape)=true)
  {CO_Bowl fO_Bowl:Addr} {odO_Bowl anO_Bowl:Option Addr} {slO_Bowl:Array (Option Value)} {ocO_Bowl kVO_Bowl dcO_Bowl pmO_Bowl cdO_Bowl ctO_Bowl:Value}
  (aO_Bowl:PySem.W.nsIn K mainGlobals "Bowl"=some (some (.ref CO_Bowl))) (mO_Bowl:PySem.W.makesIn K CO_Bowl=true) (iO_Bowl:PySem.W.findIn K (.ref CO_Bowl) "__init__"=some (some (.ref fO_Bowl))) (nO_Bowl:PySem.W.isFn K (.ref fO_Bowl)=true) (kO_Bowl:PySem.W.keepIn K (.ref CO_Bowl)=true)
  (pgO_Bowl:PySem.W.plainGet K CO_Bowl Str.empty=true) (hdO_Bowl:PySem.W.hasDictIn K CO_Bowl=true) (poO_Bowl:PySem.W.plainOver K CO_Bowl=true) (saO_Bowl:PySem.W.findIn K (.ref CO_Bowl) "__setattr__"=some (some (.builtin "object.__setattr__")))
  (clO_Bowl:PySem.W.findIn K (.ref CO_Bowl) "__class__"=some (some (.builtin "object.__class__"))) (gg1_Bowl:PySem.W.specialIn K (.builtin "object.__class__") "__get__"=some (some (.builtin "getset_descriptor.__get__"))) (gt1_Bowl:PySem.W.takesIn K (.builtin "object.__class__")=some true) (mrO_Bowl:PySem.W.mroIn K CO_Bowl (.type "object")=some true)
  (lO_Bowl:K.lookup fO_Bowl=some ⟨ocO_Bowl,odO_Bowl,.func (PySem.W.fnOf "__init__" "Bowl.__init__" (Ej KJ) (Dn KJ) (Ai KJ) .none kVO_Bowl dcO_Bowl pmO_Bowl anO_Bowl cdO_Bowl ctO_Bowl),slO_Bowl⟩) (cO_Bowl:PySem.W.codeIn K cdO_Bowl "Bowl.__init__"=true) (kfO_Bowl:PySem.W.keepIn K (.ref fO_Bowl)=true)
  (nfO_Bowl_form:PySem.W.findIn K (.ref CO_Bowl) "form"=some none)
  (nfO_Bowl_measure:PySem.W.findIn K (.ref CO_Bowl) "measure"=some none)
  (nfO_Bowl_lowest:PySem.W.findIn K (.ref CO_Bowl) "lowest"=some none)
  {CO_Saddle fO_Saddle:Addr} {odO_Saddle anO_Saddle:Option Addr} {slO_Saddle:Array (Option Value)} {ocO_Saddle kVO_Saddle dcO_Saddle pmO_Saddle cdO_Saddle ctO_Saddle:Value}
  (aO_Saddle:PySem.W.nsIn K mainGlobals "Saddle"=some (some (.ref CO_Saddle))) (mO_Saddle:PySem.W.makesIn K CO_Saddle=true) (iO_Saddle:PySem.W.findIn K (.ref CO_Saddle) "__init__"=some (some (.ref fO_Saddle))) (nO_Saddle:PySem.W.isFn K (.ref fO_Saddle)=true) (kO_Saddle:PySem.W.keepIn K (.ref CO_Saddle)=true)
  (pgO_Saddle:PySem.W.plainGet K CO_Saddle Str.empty=true) (hdO_Saddle:PySem.W.hasDictIn K CO_Saddle=true) (poO_Saddle:PySem.W.plainOver K CO_Saddle=true) (saO_Saddle:PySem.W.findIn K (.ref CO_Saddle) "__setattr__"=some (some (.builtin "object.__setattr__")))
  (clO_Saddle:PySem.W.findIn K (.ref CO_Saddle) "__class__"=some (some (.builtin "object.__class__"))) (gg1_Saddle:PySem.W.specialIn K (.builtin "object.__class__") "__get__"=some (some (.builtin "getset_descriptor.__get__"))) (gt1_Saddle:PySem.W.takesIn K (.builtin "object.__class__")=some true) (mrO_Saddle:PySem.W.mroIn K CO_Saddle (.type "object")=some true)
  (lO_Saddle:K.lookup fO_Saddle=some ⟨ocO_Saddle,odO_Saddle,.func (PySem.W.fnOf "__init__" "Saddle.__init__" (Ej Hl) (Dn Hl) (Ai Hl) .none kVO_Saddle dcO_Saddle pmO_Saddle anO_Saddle cdO_Saddle ctO_Saddle),slO_Saddle⟩) (cO_Saddle:PySem.W.codeIn K cdO_Saddle "Saddle.__init__"=true) (kfO_Saddle:PySem.W.keepIn K (.ref fO_Saddle)=true)
  (nfO_Saddle_form:PySem.W.findIn K (.ref CO_Saddle) "form"=some none)
  (nfO_Saddle_measure:PySem.W.findIn K (.ref CO_Saddle) "measure"=some none)
  (nfO_Saddle_lowest:PySem.W.findIn K (.ref CO_Saddle) "lowest"=some none)
  {gM_way_to:Addr} {odM_way_to anM_way_to:Option Addr} {slM_way_to:Array (Option Value)} {ocM_way_to kVM_way_to dcM_way_to pmM_way_to cdM_way_to ctM_way_to:Value}
  (fM_way_to_Bowl:PySem.W.findIn K (.ref CO_Bowl) "way_to"=some (some (.ref gM_way_to)))
  (fM_way_to_Saddle:PySem.W.findIn K (.ref CO_Saddle) "way_to"=some (some (.ref gM_way_to)))
  (nM_way_to:PySem.W.isFn K (.ref gM_way_to)=true) (lM_way_to:K.lookup gM_way_to=some ⟨ocM_way_to,odM_way_to,.func (PySem.W.fnOf "way_to" "Shape.way_to" (Ej Hi) (Dn Hi) (Ai Hi) .none kVM_way_to dcM_way_to pmM_way_to anM_way_to cdM_way_to ctM_way_to),slM_way_to⟩) (cM_way_to:PySem.W.codeIn K cdM_way_to "Shape.way_to"=true) (kM_way_to:PySem.W.keepIn K (.ref gM_way_to)=true)
  {t_MOST_NUMBER_chains:Tok} (a_MOST_NUMBER_chains:PySem.W.nsIn K mainGlobals "MOST_NUMBER_chains"=some (some (.int (1000) t_MOST_NUMBER_chains)))
  {t_MOST_PLACE:Tok} (a_MOST_PLACE:PySem.W.nsIn K mainGlobals "MOST_PLACE"=some (some (.int (300) t_MOST_PLACE)))
  {C_SAME:Addr} {od_SAME:Option Addr} {sl_SAME:Array (Option Value)} {n_SAME:Nat} {t_SAME_0:Tok} {t_SAME_1:Tok} {t_SAME_2:Tok} {t_SAME_3:Tok}
  (a_SAME:PySem.W.nsIn K mainGlobals "SAME"=some (some (.ref C_SAME))) (l_SAME:K.lookup C_SAME=some ⟨.type "tuple",od_SAME,.seq #[.int (1) t_SAME_0,.int (0) t_SAME_1,.int (0) t_SAME_2,.int (1) t_SAME_3] n_SAME,sl_SAME⟩)
  {t_MOST_MEASURE:Tok} (a_MOST_MEASURE:PySem.W.nsIn K mainGlobals "MOST_MEASURE"=some (some (.int (4000) t_MOST_MEASURE)))
  {t_MOST_NUMBER_answers:Tok} (a_MOST_NUMBER_answers:PySem.W.nsIn K mainGlobals "MOST_NUMBER_answers"=some (some (.int (400) t_MOST_NUMBER_answers)))
  : ∃ fd:FuncData,(∀ (s:Shared) (v:Value),BindsTo s fd ⟨[v],[]⟩ [("_law_script",v)])∧∀ base:Heap,K.In base→base.Ns mainGlobals mg→HX l.prog w K mg base CX0 15 fa fd ["_law_script"] (lSp K Uc):=by
 obtain ⟨f63,oc63,od63,kV63,dc63,pm63,an63,cd63,ct63,sl63,a63,l63,c63,k63⟩:=h63
 have e:=hfa.symm.trans (PySem.W.mg_of X G a63)
 cases e
 have F63:=NP (st:=K1) l63 c63 k63
 have FS_Shape:=NP (st:=Jj) lS_Shape cS_Shape kS_Shape
 have FO_Bowl:=NP (st:=KJ) lO_Bowl cO_Bowl kfO_Bowl
 have FO_Saddle:=NP (st:=Hl) lO_Saddle cO_Saddle kfO_Saddle
 have FM_way_to:=NP (st:=Hi) lM_way_to cM_way_to kM_way_to
 have T:Txt K mg:={
  o_Bowl:=⟨_,_,_,⟨⟨mO_Bowl,iO_Bowl,nO_Bowl,kO_Bowl⟩,aO_Bowl,PySem.W.mg_of X G aO_Bowl,⟨pgO_Bowl,hdO_Bowl,poO_Bowl,saO_Bowl⟩,fun f hf=>by simp only [List.mem_cons,List.not_mem_nil,or_false] at hf;rcases hf with hf | hf | hf <;> (subst hf;first | exact nfO_Bowl_form | exact nfO_Bowl_measure | exact nfO_Bowl_lowest)⟩,FO_Bowl,FO_Bowl.binds (ps:=["self","form"]) fun _ _ _ _ _ _ us hl=>match us,hl with | [_,_],_=>rfl⟩
  ic_Bowl:=⟨(fun C e=>by rw [aO_Bowl] at e;cases e;exact clO_Bowl),gg1_Bowl,gt1_Bowl,(fun C e=>by rw [aO_Bowl] at e;cases e;exact mrO_Bowl)⟩
  na_Bowl_form:=fun C e=>by rw [aO_Bowl] at e;cases e;exact nfO_Bowl_form
  na_Bowl_measure:=fun C e=>by rw [aO_Bowl] at e;cases e;exact nfO_Bowl_measure
  na_Bowl_lowest:=fun C e=>by rw [aO_Bowl] at e;cases e;exact nfO_Bowl_lowest
  o_Saddle:=⟨_,_,_,⟨⟨mO_Saddle,iO_Saddle,nO_Saddle,kO_Saddle⟩,aO_Saddle,PySem.W.mg_of X G aO_Saddle,⟨pgO_Saddle,hdO_Saddle,poO_Saddle,saO_Saddle⟩,fun f hf=>by simp only [List.mem_cons,List.not_mem_nil,or_false] at hf;rcases hf with hf | hf | hf <;> (subst hf;first | exact nfO_Saddle_form | exact nfO_Saddle_measure | exact nfO_Saddle_lowest)⟩,FO_Saddle,FO_Saddle.binds (ps:=["self","form"]) fun _ _ _ _ _ _ us hl=>match us,hl with | [_,_],_=>rfl⟩
  ic_Saddle:=⟨(fun C e=>by rw [aO_Saddle] at e;cases e;exact clO_Saddle),gg1_Saddle,gt1_Saddle,(fun C e=>by rw [aO_Saddle] at e;cases e;exact mrO_Saddle)⟩
  na_Saddle_form:=fun C e=>by rw [aO_Saddle] at e;cases e;exact nfO_Saddle_form
  na_Saddle_measure:=fun C e=>by rw [aO_Saddle] at e;cases e;exact nfO_Saddle_measure
  na_Saddle_lowest:=fun C e=>by rw [aO_Saddle] at e;cases e;exact nfO_Saddle_lowest
  cm_Shape:=⟨_,_,⟨⟨_,PySem.W.mg_of X G aS_Shape,sS_Shape,rS_Shape,fS_Shape⟩,kS_Shape⟩,FS_Shape,FS_Shape.binds (ps:=["self","form","lowest"]) fun _ _ _ _ _ _ us hl=>match us,hl with | [_,_,_],_=>rfl⟩
  me_way_to:=⟨_,_,fun c hc=>by simp only [List.mem_cons,List.not_mem_nil,or_false] at hc;rcases hc with hc | hc <;> (subst hc;intro C e;first | (rw [aO_Bowl] at e;cases e;exact ⟨fM_way_to_Bowl,nM_way_to,kM_way_to⟩) | (rw [aO_Saddle] at e;cases e;exact ⟨fM_way_to_Saddle,nM_way_to,kM_way_to⟩)),kM_way_to,FM_way_to,FM_way_to.binds (ps:=["self","other"]) fun _ _ _ _ _ _ us hl=>match us,hl with | [_,_],_=>rfl⟩
  t_divisor:=tM X G h0 (by walk_at "b2")
  t_shares:=tM X G h1 (by walk_at "b2")
  t_row_less:=tM X G h2 (by walk_at "b3")
  t_root:=tM X G h3 (by walk_at "b1")
  t_is_square:=tM X G h4 (by walk_at "b1")
  t_check_at_most:=tM X G h5 (by walk_at "b2")
  t_check_within:=tM X G h6 (by walk_at "b2")
  t_check_number:=tM X G h7 (by walk_at "b1")
  t_chain:=tM X G h8 (by walk_at "b1")
  t_row_behind:=tM X G h9 (by walk_at "b3")
  t_part_of:=tM X G h10 (by walk_at "b2")
  t_fraction:=tM X G h11 (by walk_at "b2")
  t_fraction_of:=tM X G h12 (by walk_at "b2")
  t_first_pair:=tM X G h13 (by walk_at "b1")
  t_pair_behind:=tM X G h14 (by walk_at "b2")
  t_plus_one:=tM X G h15 (by walk_at "b1")
  t_minus_one:=tM X G h16 (by walk_at "b1")
  t_point_of_round:=tM X G h17 (by walk_at "b1")
  t_square_less:=tM X G h18 (by walk_at "b2")
  t_is_turn:=tM X G h19 (by walk_at "b1")
  t_check_turn:=tM X G h20 (by walk_at "b1")
  t_put_behind:=tM X G h21 (by walk_at "b2")
  t_back:=tM X G h22 (by walk_at "b1")
  t_measure:=tM X G h23 (by walk_at "b1")
  t_value:=tM X G h24 (by walk_at "b2")
  t_content:=tM X G h25 (by walk_at "b1")
  t_moved:=tM X G h26 (by walk_at "b2")
  t_middle:=tM X G h27 (by walk_at "b3")
  t_shape:=tM X G h28 (by walk_at "b1")
  t_check_bowl:=tM X G h29 (by walk_at "b1")
  t_stands_least:=tM X G h30 (by walk_at "b1")
  t_settled:=tM X G h31 (by walk_at "b1")
  t_turn_lower:=tM X G h32 (by walk_at "b1")
  t_check_saddle:=tM X G h33 (by walk_at "b1")
  t_stands_level:=tM X G h34 (by walk_at "b2")
  t_turn_behind:=tM X G h35 (by walk_at "b2")
  t_stop_behind:=tM X G h36 (by walk_at "b2")
  t_eased:=tM X G h37 (by walk_at "b1")
  t_stops_round:=tM X G h38 (by walk_at "b1")
  t_lowered:=tM X G h39 (by walk_at "b1")
  t_step_of:=tM X G h40 (by walk_at "b1")
  t_step_pair:=tM X G h41 (by walk_at "b2")
  t_shape_of:=tM X G h42 (by walk_at "b1")
  t_way_between:=tM X G h43 (by walk_at "b2")
  t_heads:=tM X G h44 (by walk_at "b2")
  t_families:=tM X G h45 (by walk_at "b2")
  t_roots_of_square_divisors:=tM X G h46 (by walk_at "b1")
  t_feet:=tM X G h47 (by walk_at "b2")
  t_whence:=tM X G h48 (by walk_at "b3")
  t_turn_to_foot:=tM X G h49 (by walk_at "b2")
  t_nearest:=tM X G h50 (by walk_at "b2")
  t_last_pair_within:=tM X G h51 (by walk_at "b2")
  t_nearer:=tM X G h52 (by walk_at "b3")
  t__law_cell:=tM X G h53 (by walk_at "b2")
  t__law_whole:=tM X G h54 (by walk_at "b1")
  t__law_wholes:=tM X G h55 (by walk_at "b2")
  t__law_root:=tM X G h56 (by walk_at "b1")
  t__law_led:=tM X G h57 (by walk_at "b2")
  t__law_put:=tM X G h58 (by walk_at "b2")
  t__law_number:=tM X G h59 (by walk_at "b1")
  t__law_many:=tM X G h60 (by walk_at "b2")
  t__law_minus:=tM X G h61 (by walk_at "b4")
  t__law_whence:=tM X G h62 (by walk_at "b3")
  t_law:=⟨_,_,F63,PySem.W.mg_of X G a63,F63.binds (ps:=["_law_script"]) fun _ _ _ _ _ _ us hl=>match us,hl with | [_],_=>rfl⟩
  z_abs:=PySem.W.mg_none_of X G z_abs
  z_bool:=PySem.W.mg_none_of X G z_bool
  z_int:=PySem.W.mg_none_of X G z_int
  z_isinstance:=PySem.W.mg_none_of X G z_isinstance
  z_len:=PySem.W.mg_none_of X G z_len
  z_max:=PySem.W.mg_none_of X G z_max
  z_min:=PySem.W.mg_none_of X G z_min
  z_range:=PySem.W.mg_none_of X G z_range
  z_sorted:=PySem.W.mg_none_of X G z_sorted
  z_sum:=PySem.W.mg_none_of X G z_sum
  z_tuple:=PySem.W.mg_none_of X G z_tuple
  m_MOST_NUMBER_chains:=⟨_,PySem.W.mg_of X G a_MOST_NUMBER_chains⟩
  m_MOST_PLACE:=⟨_,PySem.W.mg_of X G a_MOST_PLACE⟩
  k_SAME:=⟨_,PySem.W.mg_of X G a_SAME,fun H=>CW.mpr ⟨_,[.int (1),.int (0),.int (0),.int (1)],rfl,.inr ⟨_,_,_,l_SAME,rfl,rfl,Ay (by show 4≤1000;decide),.cons ⟨_,rfl⟩ (.cons ⟨_,rfl⟩ (.cons ⟨_,rfl⟩ (.cons ⟨_,rfl⟩ (.nil))))⟩,RpL.cons (Bb.mpr rfl) (RpL.cons (Bb.mpr rfl) (RpL.cons (Bb.mpr rfl) (RpL.cons (Bb.mpr rfl) (RpL.nil))))⟩⟩
  m_MOST_MEASURE:=⟨_,PySem.W.mg_of X G a_MOST_MEASURE⟩
  m_MOST_NUMBER_answers:=⟨_,PySem.W.mg_of X G a_MOST_NUMBER_answers⟩
 }
 refine ⟨PySem.W.fnOf "law" "law" (Ej K1) (Dn K1) (Ai K1) .none kV63 dc63 pm63 an63 cd63 ct63,fun s v=>.of_eq rfl,fun base kb nb=>?_⟩
 have g_divisor:=Yl l.prog w base T 
 have g_row_less:=Wn l.prog w base T 
 have g_root:=AcT l.prog w base T 
 have g_check_at_most:=Nz l.prog w base T 
 have g_check_within:=Oz l.prog w base T 
 have g_row_behind:=Ru l.prog w base T 
 have g_part_of:=XS l.prog w base T 
 have g_first_pair:=RP l.prog w base T 
 have g_pair_behind:=Q7 l.prog w base T 
 have g_square_less:=Q8 l.prog w base T 
 have g_is_turn:=Xm l.prog w base T 
 have g_put_behind:=RG l.prog w base T 
 have g_measure:=X5 l.prog w base T 
 have g_value:=Aco l.prog w base T 
 have g_middle:=Zy l.prog w base T 
 have g_stands_least:=O5 l.prog w base T 
 have g_turn_lower:=RK l.prog w base T 
 have g_stands_level:=Ph l.prog w base T 
 have g_turn_behind:=Qg l.prog w base T 
 have g_feet:=Aev l.prog w base T 
 have g_nearer:=ZL l.prog w base T 
 have g__law_cell:=U6 l.prog w base T 
 have g__law_whole:=Ry l.prog w base T 
 have g__law_root:=Ul l.prog w base T 
 have g__law_led:=VJ l.prog w base T 
 have g__law_put:=Wa l.prog w base T 
 have gc_Shape:=Aaq l.prog w base T g_measure
 have g_shares:=Aas l.prog w base T g_row_less
 have g_is_square:=UL l.prog w base T g_root
 have g_fraction_of:=Ra l.prog w base T g_first_pair g_pair_behind g_part_of
 have g_check_turn:=RM l.prog w base T g_is_turn
 have g_content:=WX l.prog w base T g_divisor
 have g_roots_of_square_divisors:=G8 l.prog w base T g_root
 have g_last_pair_within:=KN l.prog w base T g_first_pair g_pair_behind g_part_of
 have g__law_wholes:=Rh l.prog w base T g__law_whole
 have g__law_number:=QC l.prog w base T g__law_root
 have g__law_many:=Ti l.prog w base T g__law_put
 have g_check_number:=O1 l.prog w base T g_check_at_most g_is_square
 have g_point_of_round:=M7 l.prog w base T g_fraction_of
 have g_back:=AcV l.prog w base T g_check_turn
 have g_moved:=AaP l.prog w base T g_check_turn g_value g_middle
 have g_shape:=AcD l.prog w base T g_measure g_is_square
 have g_chain:=AaR l.prog w base T g_check_number g_root g_row_behind
 have g_check_bowl:=RL l.prog w base T g_shape
 have g_check_saddle:=O3 l.prog w base T g_check_at_most g_shape g_measure
 have g_stop_behind:=Qd l.prog w base T g_turn_behind g_moved g_put_behind
 have g_way_between:=QX l.prog w base T g_put_behind g_back
 have g_turn_to_foot:=O7 l.prog w base T g_shares g_moved g_put_behind
 have g_fraction:=WK l.prog w base T g_chain g_check_at_most g_fraction_of
 have g_plus_one:=Vq l.prog w base T g_point_of_round g_chain g_square_less
 have g_minus_one:=Uu l.prog w base T g_point_of_round g_chain g_square_less
 have g_settled:=Xy l.prog w base T g_check_bowl g_stands_least g_turn_lower g_moved g_put_behind
 have g_eased:=Abl l.prog w base T g_check_saddle g_root g_measure g_stands_level g_stop_behind
 have g_nearest:=Xg l.prog w base T g_last_pair_within g_nearer g_chain g_pair_behind
 have gi_Bowl:=AbR l.prog w base T gc_Shape g_settled
 have g_stops_round:=Qc l.prog w base T g_root g_eased g_stop_behind g_measure
 have g_lowered:=Xu l.prog w base T g_check_saddle g_stops_round
 have g_step_pair:=T6 l.prog w base T g_stops_round g_put_behind g_back
 have gi_Saddle:=XD l.prog w base T gc_Shape g_lowered
 have g_step_of:=W3 l.prog w base T g_check_saddle g_content g_step_pair
 have g_shape_of:=V5 l.prog w base T gi_Bowl gi_Saddle g_shape
 have gm_way_to:=XJ l.prog w base T g_measure g_shape g_way_between g_shape_of
 have g_families:=Vn l.prog w base T gm_way_to g_shape_of g_check_within g_roots_of_square_divisors g_feet
 have g_heads:=Abe l.prog w base T g_families
 have g_whence:=ZW l.prog w base T g_families g_turn_to_foot g_value g_moved g_put_behind g_back
 have g__law_minus:=RJ l.prog w base T g_minus_one g_heads g__law_wholes g_fraction g_whence
 have g__law_whence:=Qi l.prog w base T g_whence g__law_led g__law_wholes
 have g_law:=AhT l.prog w base T g__law_number g_plus_one g_step_of g__law_many g__law_cell g__law_minus g__law_wholes g__law_whence g_chain g_nearest g_heads
 obtain ⟨f,fd,FT,GG⟩:=g_law
 have e1:=FT.mg.symm.trans (PySem.W.mg_of X G a63)
 cases e1
 have e2:=FT.fn.uniq F63
 subst e2
 exact GG
theorem walk {l:PySem.W.OpenLaw} {q:Program} {loose:List Str} {XP:(Str→Option Value)→Heap→Prop} {YP:World→Heap→Prop} {d:DefRec} {K:Params→PySem.W.Frag} (hn:l.most=some 63) (hdf:d.params.defaults=[])
  (hY:∀ (w:World) (h:Heap),YP w h→(K w.params).In h)
  (F:∀ (w:World) (mg:Str→Option Value) (fa:Addr) (h:Heap),(K w.params).In h→h.Ns mainGlobals mg→mg d.name=some (.ref fa) →
   ∃ fd:FuncData,(∀ (s:Shared) (u:Value),BindsTo s fd ⟨[u],[]⟩ [("_law_script",u)])∧∀ base:Heap,(K w.params).In base→base.Ns mainGlobals mg→HX l.prog w (K w.params) mg base CX0 15 fa fd ["_law_script"] (lSp (K w.params) Uc)) :
  PySem.W.WalkO q loose XP YP l.row.toRowW d [] (fun f vs=>PySem.call f vs) :=
 L2.Ac5 (n:=63) (k:=15) (x:="_law_script") (CX:=fun _=>CX0) (sp:=fun w=>lSp (K w.params) Uc) hn (by decide) hdf ⟨rfl,by decide,by decide⟩ hY F (fun w H a ns hl _ hS=>ZV hl hS) fun _ _ _ _ _ z=>z
end My
open PySem PySem.W PyProof.Rows
local macro_rules | `(tactic| walk_at "nF") => `(tactic| (refine' My.Af1 ?qa ?ql ?qc ?qk; (case qa => k_is); (case ql => k_is); (case qc => k_is); (case qk => k_is)))
theorem My.hFk {K:PySem.W.Frag} {n:PySem.Str} {s:PySem.Stmt} (f:PySem.Addr) (m:String) (t c:Nat) (a:PySem.W.nsIn K PySem.mainGlobals n=some (some (.ref f)):=by kernel_rfl) (l:K.lookup f=some ⟨.type "function",none,.func (PySem.W.fnOf n n (L2.Ej s) (L2.Dn s) (L2.Ai s) .none .none .none (.str (.ofString m) t) none (.ref c) .none),#[]⟩:=by kernel_rfl) (d:PySem.W.codeIn K (.ref c) n=true:=by kernel_rfl) (k:PySem.W.keepIn K (.ref f)=true:=by kernel_rfl):My.nF K n s:=My.Af1 a l d k
theorem My.hF0 (P:PySem.Params):My.nF (My.KK P) "divisor" My.Hq:=My.hFk 148 "formcycle.wholes" 357 147
theorem My.hF1 (P:PySem.Params):My.nF (My.KK P) "shares" My.Jg:=My.hFk 155 "formcycle.wholes" 357 154
theorem My.hF2 (P:PySem.Params):My.nF (My.KK P) "row_less" My.Gp:=My.hFk 162 "formcycle.wholes" 357 161
theorem My.hF3 (P:PySem.Params):My.nF (My.KK P) "root" My.Ja:=My.hFk 169 "formcycle.wholes" 357 168
theorem My.hF4 (P:PySem.Params):My.nF (My.KK P) "is_square" My.Ea:=My.hFk 176 "formcycle.wholes" 357 175
theorem My.hF5 (P:PySem.Params):My.nF (My.KK P) "check_at_most" My.BL:=My.hFk 183 "formcycle.wholes" 357 182
theorem My.hF6 (P:PySem.Params):My.nF (My.KK P) "check_within" My.Dd:=My.hFk 190 "formcycle.wholes" 357 189
theorem My.hF7 (P:PySem.Params):My.nF (My.KK P) "check_number" My.Dl:=My.hFk 197 "formcycle.chains" 421 196
theorem My.hF8 (P:PySem.Params):My.nF (My.KK P) "chain" My.Gx:=My.hFk 204 "formcycle.chains" 421 203
theorem My.hF9 (P:PySem.Params):My.nF (My.KK P) "row_behind" My.Eh:=My.hFk 211 "formcycle.chains" 421 210
theorem My.hF10 (P:PySem.Params):My.nF (My.KK P) "part_of" My.Gn:=My.hFk 218 "formcycle.chains" 421 217
theorem My.hF11 (P:PySem.Params):My.nF (My.KK P) "fraction" My.Gm:=My.hFk 225 "formcycle.chains" 421 224
theorem My.hF12 (P:PySem.Params):My.nF (My.KK P) "fraction_of" My.CP:=My.hFk 232 "formcycle.chains" 421 231
theorem My.hF13 (P:PySem.Params):My.nF (My.KK P) "first_pair" My.Dq:=My.hFk 239 "formcycle.chains" 421 238
theorem My.hF14 (P:PySem.Params):My.nF (My.KK P) "pair_behind" My.Cr:=My.hFk 246 "formcycle.chains" 421 245
theorem My.hF15 (P:PySem.Params):My.nF (My.KK P) "plus_one" My.Gv:=My.hFk 253 "formcycle.chains" 421 252
theorem My.hF16 (P:PySem.Params):My.nF (My.KK P) "minus_one" My.Ft:=My.hFk 260 "formcycle.chains" 421 259
theorem My.hF17 (P:PySem.Params):My.nF (My.KK P) "point_of_round" My.BX:=My.hFk 267 "formcycle.chains" 421 266
theorem My.hF18 (P:PySem.Params):My.nF (My.KK P) "square_less" My.CQ:=My.hFk 274 "formcycle.chains" 421 273
theorem My.hF19 (P:PySem.Params):My.nF (My.KK P) "is_turn" My.Hr:=My.hFk 282 "formcycle.turns" 529 281
theorem My.hF20 (P:PySem.Params):My.nF (My.KK P) "check_turn" My.Ds:=My.hFk 289 "formcycle.turns" 529 288
theorem My.hF21 (P:PySem.Params):My.nF (My.KK P) "put_behind" My.BK:=My.hFk 296 "formcycle.turns" 529 295
theorem My.hF22 (P:PySem.Params):My.nF (My.KK P) "back" My.J3:=My.hFk 303 "formcycle.turns" 529 302
theorem My.hF23 (P:PySem.Params):My.nF (My.KK P) "measure" My.Dc:=My.hFk 310 "formcycle.forms" 565 309
theorem My.hF24 (P:PySem.Params):My.nF (My.KK P) "value" My.JG:=My.hFk 317 "formcycle.forms" 565 316
theorem My.hF25 (P:PySem.Params):My.nF (My.KK P) "content" My.Ht:=My.hFk 324 "formcycle.forms" 565 323
theorem My.hF26 (P:PySem.Params):My.nF (My.KK P) "moved" My.G7:=My.hFk 331 "formcycle.forms" 565 330
theorem My.hF27 (P:PySem.Params):My.nF (My.KK P) "middle" My.Jl:=My.hFk 338 "formcycle.forms" 565 337
theorem My.hF28 (P:PySem.Params):My.nF (My.KK P) "shape" My.Hf:=My.hFk 345 "formcycle.forms" 565 344
theorem My.hF29 (P:PySem.Params):My.nF (My.KK P) "check_bowl" My.Ed:=My.hFk 352 "formcycle.bowls" 619 351
theorem My.hF30 (P:PySem.Params):My.nF (My.KK P) "stands_least" My.Df:=My.hFk 359 "formcycle.bowls" 619 358
theorem My.hF31 (P:PySem.Params):My.nF (My.KK P) "settled" My.Hj:=My.hFk 366 "formcycle.bowls" 619 365
theorem My.hF32 (P:PySem.Params):My.nF (My.KK P) "turn_lower" My.Ef:=My.hFk 373 "formcycle.bowls" 619 372
theorem My.hF33 (P:PySem.Params):My.nF (My.KK P) "check_saddle" My.Ci:=My.hFk 380 "formcycle.saddles" 655 379
theorem My.hF34 (P:PySem.Params):My.nF (My.KK P) "stands_level" My.Di:=My.hFk 387 "formcycle.saddles" 655 386
theorem My.hF35 (P:PySem.Params):My.nF (My.KK P) "turn_behind" My.Dy:=My.hFk 394 "formcycle.saddles" 655 393
theorem My.hF36 (P:PySem.Params):My.nF (My.KK P) "stop_behind" My.CT:=My.hFk 401 "formcycle.saddles" 655 400
theorem My.hF37 (P:PySem.Params):My.nF (My.KK P) "eased" My.Ky:=My.hFk 408 "formcycle.saddles" 655 407
theorem My.hF38 (P:PySem.Params):My.nF (My.KK P) "stops_round" My.CV:=My.hFk 415 "formcycle.saddles" 655 414
theorem My.hF39 (P:PySem.Params):My.nF (My.KK P) "lowered" My.Hh:=My.hFk 422 "formcycle.saddles" 655 421
theorem My.hF40 (P:PySem.Params):My.nF (My.KK P) "step_of" My.Hs:=My.hFk 429 "formcycle.saddles" 655 428
theorem My.hF41 (P:PySem.Params):My.nF (My.KK P) "step_pair" My.Fo:=My.hFk 436 "formcycle.saddles" 655 435
theorem My.hF42 (P:PySem.Params):My.nF (My.KK P) "shape_of" My.Fi:=My.hFk 523 "formcycle.shapes" 744 522
theorem My.hF43 (P:PySem.Params):My.nF (My.KK P) "way_between" My.Dw:=My.hFk 530 "formcycle.shapes" 744 529
theorem My.hF44 (P:PySem.Params):My.nF (My.KK P) "heads" My.Il:=My.hFk 535 "formcycle.answers" 864 534
theorem My.hF45 (P:PySem.Params):My.nF (My.KK P) "families" My.Fl:=My.hFk 542 "formcycle.answers" 864 541
theorem My.hF46 (P:PySem.Params):My.nF (My.KK P) "roots_of_square_divisors" My.Ba:=My.hFk 547 "formcycle.answers" 864 546
theorem My.hF47 (P:PySem.Params):My.nF (My.KK P) "feet" My.J5:=My.hFk 552 "formcycle.answers" 864 551
theorem My.hF48 (P:PySem.Params):My.nF (My.KK P) "whence" My.GD:=My.hFk 557 "formcycle.answers" 864 556
theorem My.hF49 (P:PySem.Params):My.nF (My.KK P) "turn_to_foot" My.CZ:=My.hFk 564 "formcycle.answers" 864 563
theorem My.hF50 (P:PySem.Params):My.nF (My.KK P) "nearest" My.Hg:=My.hFk 571 "formcycle.near" 919 570
theorem My.hF51 (P:PySem.Params):My.nF (My.KK P) "last_pair_within" My.BW:=My.hFk 578 "formcycle.near" 919 577
theorem My.hF52 (P:PySem.Params):My.nF (My.KK P) "nearer" My.Jk:=My.hFk 585 "formcycle.near" 919 584
theorem My.hF53 (P:PySem.Params):My.nF (My.KK P) "_law_cell" My.Fp:=My.hFk 592 "law_formcycle_k73_whole_roads_meet" 955 591
theorem My.hF54 (P:PySem.Params):My.nF (My.KK P) "_law_whole" My.El:=My.hFk 599 "law_formcycle_k73_whole_roads_meet" 955 598
theorem My.hF55 (P:PySem.Params):My.nF (My.KK P) "_law_wholes" My.Ca:=My.hFk 604 "law_formcycle_k73_whole_roads_meet" 955 603
theorem My.hF56 (P:PySem.Params):My.nF (My.KK P) "_law_root" My.Fv:=My.hFk 611 "law_formcycle_k73_whole_roads_meet" 955 610
theorem My.hF57 (P:PySem.Params):My.nF (My.KK P) "_law_led" My.Gq:=My.hFk 618 "law_formcycle_k73_whole_roads_meet" 955 617
theorem My.hF58 (P:PySem.Params):My.nF (My.KK P) "_law_put" My.Gw:=My.hFk 625 "law_formcycle_k73_whole_roads_meet" 955 624
theorem My.hF59 (P:PySem.Params):My.nF (My.KK P) "_law_number" My.Dv:=My.hFk 632 "law_formcycle_k73_whole_roads_meet" 955 631
theorem My.hF60 (P:PySem.Params):My.nF (My.KK P) "_law_many" My.Fx:=My.hFk 639 "law_formcycle_k73_whole_roads_meet" 955 638
theorem My.hF61 (P:PySem.Params):My.nF (My.KK P) "_law_minus" My.Ei:=My.hFk 646 "law_formcycle_k73_whole_roads_meet" 955 645
theorem My.hF62 (P:PySem.Params):My.nF (My.KK P) "_law_whence" My.DK:=My.hFk 653 "law_formcycle_k73_whole_roads_meet" 955 652
theorem My.hF63 (P:PySem.Params):My.nF (My.KK P) "law" My.K1:=My.hFk 658 "law_formcycle_k73_whole_roads_meet" 955 657
set_option maxRecDepth 100000 in
set_option maxHeartbeats 0 in
theorem PySem.Challenge.cw_formcycle_k73_whole_roads_meet_holds : PySem.Challenge.rw_formcycle_k73_whole_roads_meet.Holds := by
 w_on
 refine holds_law My.said0 fun said=>?_
 refine holds_open (r:=PySem.Challenge.rw_formcycle_k73_whole_roads_meet.row) (q:=My.vw) (loose:=[]) (Xt:=fun s=>xlAt My.vw [] s && recOk (RowW.records (PySem.Challenge.rw_formcycle_k73_whole_roads_meet.row.toRowW)) s) (XP:=XL My.vw []) (Yf:=Hook.obs (kHook My.KK My.asK (fun _=>by kernel_rfl))) (Ya:=Hook.val (kHook My.KK My.asK (fun _=>by kernel_rfl))) (YP:=Hook.says (kHook My.KK My.asK (fun _=>by kernel_rfl))) (N:=4645) My.hl (Hook.of (kHook My.KK My.asK (fun _=>by kernel_rfl))) (Hook.keeps (kHook My.KK My.asK (fun _=>by kernel_rfl))) (fun s e=>xl_of s (Bool.and_eq_true_iff.mp e).1) XL.keeps (by rfl) (by rfl) (by rfl) (fun s e=>recFacts_of (Bool.and_eq_true_iff.mp e).2) (by rfl) said (by decide +kernel) ⟨rfl,rfl,rfl,rfl,rfl,by decide +kernel⟩ ?hw ?hc
 (case hw=>w_witness2)
 k_fill
 refine My.walk (l:=PySem.Challenge.rw_formcycle_k73_whole_roads_meet) rfl rfl (fun w h Y=>PySem.W.kIn_of Y) ?F
 case F =>
  intro w mg fa h KX G hmg
  refine' My.all_mk KX G hmg ?h0 ?h1 ?h2 ?h3 ?h4 ?h5 ?h6 ?h7 ?h8 ?h9 ?h10 ?h11 ?h12 ?h13 ?h14 ?h15 ?h16 ?h17 ?h18 ?h19 ?h20 ?h21 ?h22 ?h23 ?h24 ?h25 ?h26 ?h27 ?h28 ?h29 ?h30 ?h31 ?h32 ?h33 ?h34 ?h35 ?h36 ?h37 ?h38 ?h39 ?h40 ?h41 ?h42 ?h43 ?h44 ?h45 ?h46 ?h47 ?h48 ?h49 ?h50 ?h51 ?h52 ?h53 ?h54 ?h55 ?h56 ?h57 ?h58 ?h59 ?h60 ?h61 ?h62 ?h63 ?z_abs ?z_bool ?z_int ?z_isinstance ?z_len ?z_max ?z_min ?z_range ?z_sorted ?z_sum ?z_tuple ?aS_Shape ?sS_Shape ?rS_Shape ?fS_Shape ?lS_Shape ?cS_Shape ?kS_Shape ?aO_Bowl ?mO_Bowl ?iO_Bowl ?nO_Bowl ?kO_Bowl ?pgO_Bowl ?hdO_Bowl ?poO_Bowl ?saO_Bowl ?clO_Bowl ?gg1_Bowl ?gt1_Bowl ?mrO_Bowl ?lO_Bowl ?cO_Bowl ?kfO_Bowl ?nfO_Bowl_form ?nfO_Bowl_measure ?nfO_Bowl_lowest ?aO_Saddle ?mO_Saddle ?iO_Saddle ?nO_Saddle ?kO_Saddle ?pgO_Saddle ?hdO_Saddle ?poO_Saddle ?saO_Saddle ?clO_Saddle ?gg1_Saddle ?gt1_Saddle ?mrO_Saddle ?lO_Saddle ?cO_Saddle ?kfO_Saddle ?nfO_Saddle_form ?nfO_Saddle_measure ?nfO_Saddle_lowest ?fM_way_to_Bowl ?fM_way_to_Saddle ?nM_way_to ?lM_way_to ?cM_way_to ?kM_way_to ?a_MOST_NUMBER_chains ?a_MOST_PLACE ?a_SAME ?l_SAME ?a_MOST_MEASURE ?a_MOST_NUMBER_answers
  (case h0=>exact My.hF0 _)
  (case h1=>exact My.hF1 _)
  (case h2=>exact My.hF2 _)
  (case h3=>exact My.hF3 _)
  (case h4=>exact My.hF4 _)
  (case h5=>exact My.hF5 _)
  (case h6=>exact My.hF6 _)
  (case h7=>exact My.hF7 _)
  (case h8=>exact My.hF8 _)
  (case h9=>exact My.hF9 _)
  (case h10=>exact My.hF10 _)
  (case h11=>exact My.hF11 _)
  (case h12=>exact My.hF12 _)
  (case h13=>exact My.hF13 _)
  (case h14=>exact My.hF14 _)
  (case h15=>exact My.hF15 _)
  (case h16=>exact My.hF16 _)
  (case h17=>exact My.hF17 _)
  (case h18=>exact My.hF18 _)
  (case h19=>exact My.hF19 _)
  (case h20=>exact My.hF20 _)
  (case h21=>exact My.hF21 _)
  (case h22=>exact My.hF22 _)
  (case h23=>exact My.hF23 _)
  (case h24=>exact My.hF24 _)
  (case h25=>exact My.hF25 _)
  (case h26=>exact My.hF26 _)
  (case h27=>exact My.hF27 _)
  (case h28=>exact My.hF28 _)
  (case h29=>exact My.hF29 _)
  (case h30=>exact My.hF30 _)
  (case h31=>exact My.hF31 _)
  (case h32=>exact My.hF32 _)
  (case h33=>exact My.hF33 _)
  (case h34=>exact My.hF34 _)
  (case h35=>exact My.hF35 _)
  (case h36=>exact My.hF36 _)
  (case h37=>exact My.hF37 _)
  (case h38=>exact My.hF38 _)
  (case h39=>exact My.hF39 _)
  (case h40=>exact My.hF40 _)
  (case h41=>exact My.hF41 _)
  (case h42=>exact My.hF42 _)
  (case h43=>exact My.hF43 _)
  (case h44=>exact My.hF44 _)
  (case h45=>exact My.hF45 _)
  (case h46=>exact My.hF46 _)
  (case h47=>exact My.hF47 _)
  (case h48=>exact My.hF48 _)
  (case h49=>exact My.hF49 _)
  (case h50=>exact My.hF50 _)
  (case h51=>exact My.hF51 _)
  (case h52=>exact My.hF52 _)
  (case h53=>exact My.hF53 _)
  (case h54=>exact My.hF54 _)
  (case h55=>exact My.hF55 _)
  (case h56=>exact My.hF56 _)
  (case h57=>exact My.hF57 _)
  (case h58=>exact My.hF58 _)
  (case h59=>exact My.hF59 _)
  (case h60=>exact My.hF60 _)
  (case h61=>exact My.hF61 _)
  (case h62=>exact My.hF62 _)
  (case h63=>exact My.hF63 _)
  (case z_abs=>as_aux_lemma=>k_is)
  (case z_bool=>as_aux_lemma=>k_is)
  (case z_int=>as_aux_lemma=>k_is)
  (case z_isinstance=>as_aux_lemma=>k_is)
  (case z_len=>as_aux_lemma=>k_is)
  (case z_max=>as_aux_lemma=>k_is)
  (case z_min=>as_aux_lemma=>k_is)
  (case z_range=>as_aux_lemma=>k_is)
  (case z_sorted=>as_aux_lemma=>k_is)
  (case z_sum=>as_aux_lemma=>k_is)
  (case z_tuple=>as_aux_lemma=>k_is)
  (case aS_Shape=>as_aux_lemma=>k_is)
  (case sS_Shape=>as_aux_lemma=>k_is)
  (case rS_Shape=>as_aux_lemma=>k_is)
  (case fS_Shape=>as_aux_lemma=>k_is)
  (case lS_Shape=>as_aux_lemma=>k_is)
  (case cS_Shape=>as_aux_lemma=>k_is)
  (case kS_Shape=>as_aux_lemma=>k_is)
  (case aO_Bowl=>as_aux_lemma=>k_is)
  (case mO_Bowl=>as_aux_lemma=>k_is)
  (case iO_Bowl=>as_aux_lemma=>k_is)
  (case nO_Bowl=>as_aux_lemma=>k_is)
  (case kO_Bowl=>as_aux_lemma=>k_is)
  (case pgO_Bowl=>as_aux_lemma=>k_is)
  (case hdO_Bowl=>as_aux_lemma=>k_is)
  (case poO_Bowl=>as_aux_lemma=>k_is)
  (case saO_Bowl=>as_aux_lemma=>k_is)
  (case clO_Bowl=>as_aux_lemma=>k_is)
  (case gg1_Bowl=>as_aux_lemma=>k_is)
  (case gt1_Bowl=>as_aux_lemma=>k_is)
  (case mrO_Bowl=>as_aux_lemma=>k_is)
  (case lO_Bowl=>as_aux_lemma=>k_is)
  (case cO_Bowl=>as_aux_lemma=>k_is)
  (case kfO_Bowl=>as_aux_lemma=>k_is)
  (case nfO_Bowl_form=>as_aux_lemma=>k_is)
  (case nfO_Bowl_measure=>as_aux_lemma=>k_is)
  (case nfO_Bowl_lowest=>as_aux_lemma=>k_is)
  (case aO_Saddle=>as_aux_lemma=>k_is)
  (case mO_Saddle=>as_aux_lemma=>k_is)
  (case iO_Saddle=>as_aux_lemma=>k_is)
  (case nO_Saddle=>as_aux_lemma=>k_is)
  (case kO_Saddle=>as_aux_lemma=>k_is)
  (case pgO_Saddle=>as_aux_lemma=>k_is)
  (case hdO_Saddle=>as_aux_lemma=>k_is)
  (case poO_Saddle=>as_aux_lemma=>k_is)
  (case saO_Saddle=>as_aux_lemma=>k_is)
  (case clO_Saddle=>as_aux_lemma=>k_is)
  (case gg1_Saddle=>as_aux_lemma=>k_is)
  (case gt1_Saddle=>as_aux_lemma=>k_is)
  (case mrO_Saddle=>as_aux_lemma=>k_is)
  (case lO_Saddle=>as_aux_lemma=>k_is)
  (case cO_Saddle=>as_aux_lemma=>k_is)
  (case kfO_Saddle=>as_aux_lemma=>k_is)
  (case nfO_Saddle_form=>as_aux_lemma=>k_is)
  (case nfO_Saddle_measure=>as_aux_lemma=>k_is)
  (case nfO_Saddle_lowest=>as_aux_lemma=>k_is)
  (case fM_way_to_Bowl=>as_aux_lemma=>k_is)
  (case fM_way_to_Saddle=>as_aux_lemma=>k_is)
  (case nM_way_to=>as_aux_lemma=>k_is)
  (case lM_way_to=>as_aux_lemma=>k_is)
  (case cM_way_to=>as_aux_lemma=>k_is)
  (case kM_way_to=>as_aux_lemma=>k_is)
  (case a_MOST_NUMBER_chains=>as_aux_lemma=>k_is)
  (case a_MOST_PLACE=>as_aux_lemma=>k_is)
  (case a_SAME=>as_aux_lemma=>k_is)
  (case l_SAME=>as_aux_lemma=>k_is)
  (case a_MOST_MEASURE=>as_aux_lemma=>k_is)
  (case a_MOST_NUMBER_answers=>as_aux_lemma=>k_is)
